import PyProof.Rows.All
import Wide.All
import OpenK.AllK
import Wide.FinOn
import Lean
import PyProof.EqAt
import PyProof.EqKinds
import PyProof.TupleCall
import PyProof.EnumFor
import PyProof.EnumMake
import PyProof.EnumStmt
import PyProof.Rows.EnumRows
import PyProof.RulesTry
import PyProof.Rows.StrWeight2
import PyProof.AutoListH
import PyProof.Draws
import PyProof.Rows.SortStr
import PyProof.Rows.SortShell
import PyProof.Rows.SortWalk
import PyProof.Rows.StrMeet
import PyProof.DictIter
import PyProof.DictWalks
import KE.KDictOf
import PyProof.AttrMissSeq
import PyProof.ListRange
import PyProof.DictItems
import PyProof.Rows.Range3
import KE.KDictSum
import PyProof.FitsReplace
import PyProof.ExcClass3
import PyProof.ExcAttrAll.ValueError
import KE.KIsAll
import PyProof.ExcBaseAll.ValueError
import PyProof.RulesAs
import KE.KTryMore
import PyProof.NsDelKeeps
import PyProof.ListCopy
import PyProof.Rows.FactsT1
import PyProof.Rows.FactsT2
import PyProof.Rows.SetFrom
import PyProof.SetRoads
import PySem.Challenge.RW_taglook_k36_whole_elders_found
set_option Elab.async false
set_option bootstrap.genMatcherCode false
set_option genSizeOfSpec false
set_option linter.all false
set_option maxRecDepth 100000
set_option maxHeartbeats 4000000
noncomputable section
namespace L2
open PySem PySem.Spec PyProof.Rows
abbrev Key:=Sum Int Str
noncomputable def mz:Key->Value->Bool
 |.inl k,v=>Value.isInt k v
 |.inr x,v=>Value.isStrOf x v
noncomputable def Mf(w:World):Key->Int
 |.inl k=>hashInt k
 |.inr x=>hashStr w x
theorem bK:∀{k:Key}{v:Value},mz k v=true->(∃i t,k=Sum.inl i/\v=Value.int i t)\/(∃x t,k=Sum.inr x/\v=Value.str x t)
 |.inl i,v,h=>by
  obtain⟨t,e⟩:=Value.isInt_shape h;exact .inl ⟨i,t,rfl,e⟩
 |.inr x,v,h=>by
  obtain⟨t,e⟩:=Value.isStrOf_shape h;exact .inr ⟨x,t,rfl,e⟩
theorem uX(i:Int)(t:Tok):mz (.inl i) (.int i t)=true:=by simp[mz,Value.isInt]
theorem uY(x:Str)(t:Tok):mz (.inr x) (.str x t)=true:=by simp[mz,Value.isStrOf]
theorem El(a b:Int):decide ((Sum.inl a:Key)=Sum.inl b)=(a==b):=by
 grind
theorem Em(a b:Str):decide ((Sum.inr a:Key)=Sum.inr b)=decide (a=b):=by
 simp
theorem En(a:Int)(b:Str):decide ((Sum.inl a:Key)=Sum.inr b)=false:=rfl
theorem Eo(a:Str)(b:Int):decide ((Sum.inr a:Key)=Sum.inl b)=false:=rfl
def bW(prog:Program)(w:World):PySem.KeyKind prog w Key where
 is:=mz
 hash:=Mf w
 inj:=λv a b g f=>by
  rcases bK g with ⟨i,t,rfl,rfl⟩|⟨x,t,rfl,rfl⟩
  .rcases bK f with ⟨j,u,rfl,e⟩|⟨y,u,rfl,e⟩
   .injection e with c _;rw[c]
   .exact nomatch e
  .rcases bK f with ⟨j,u,rfl,e⟩|⟨y,u,rfl,e⟩
   .exact nomatch e
   .injection e with c _;rw[c]
 byValue:=λk v h=>by
  rcases bK h with ⟨i,t,rfl,rfl⟩|⟨x,t,rfl,rfl⟩<;>rfl
 pyHash:=λd h=>by
  rcases bK d with ⟨i,t,rfl,rfl⟩|⟨x,t,rfl,rfl⟩
  .exact wpAny_pyHash_int h
  .exact wpAny_pyHash_str h
 eqBool:=λl d h=>by
  rcases bK l with ⟨i,t,rfl,rfl⟩|⟨x,t,rfl,rfl⟩
  .rcases bK d with ⟨j,u,rfl,rfl⟩|⟨y,u,rfl,rfl⟩
   .rw[El]at h;exact wpAny_eqBool_int h
   .rw[En]at h;exact SeqAt.EqAt.int_str i t y u _ _ _ _ h
  .rcases bK d with ⟨j,u,rfl,rfl⟩|⟨y,u,rfl,rfl⟩
   .rw[Eo]at h;exact SeqAt.EqAt.str_int x t j u _ _ _ _ h
   .rw[Em]at h;exact wpAny_eqBool_str h
 «strs» := λk x t v h=>by
  rcases bK h with ⟨i,u,rfl,e⟩|⟨y,u,rfl,e⟩
  .exact nomatch e
  .injection e with c _
   subst c;cases v<;>rfl
theorem pj(prog:Program)(w:World)(i:Int)(t:Tok):(bW prog w).is (.inl i) (.int i t)=true:=uX i t
theorem pk(prog:Program)(w:World)(x:Str)(t:Tok):(bW prog w).is (.inr x) (.str x t)=true:=uY x t
inductive V where
 |non|bl (b:Bool)|int (i:Int)|str (x:Str)|GQ (b:Array UInt8)|flt (b:UInt64)|ref (a:Addr)|ty (n:String)
 deriving DecidableEq
def RelV:V->Value->Prop
 |.non,u=>u=Value.none
 |.bl b,u=>u=Value.bool b
 |.int i,u=>∃t,u=Value.int i t
 |.str x,u=>∃t,u=Value.str x t
 |.GQ b,u=>∃t,u=Value.bytes b t
 |.flt b,u=>∃t,u=Value.float b t
 |.ref a,u=>u=Value.ref a
 |.ty n,u=>u=Value.type n
abbrev Vals:List V->List Value->Prop:=Paired RelV
theorem Vals.length{xs:List V}{us:List Value}(r:Vals xs us):xs.length=us.length:=Paired.length r
theorem Vals.get:∀{xs:List V}{us:List Value}{i:Nat}{x:V},Vals xs us->xs[i]?=some x->∃u,us[i]?=some u/\RelV x u
 |_,_,_,_,.nil,e=>by simp at e
 |_,_,0,_,.cons r _,e=>by simp_all
 |_,_,i+1,x,.cons _ t,e=>by
  obtain⟨u,h1,h2⟩:=Vals.get t (by simpa using e)
  simp_all
theorem Vals.set{x:V}{u:Value}(r:RelV x u):∀{xs:List V}{us:List Value} (i:Nat),Vals xs us->Vals (xs.set i x) (us.set i u)
 |_,_,_,.nil=>.nil
 |_,_,0,.cons _ t=>.cons r t
 |_,_,i+1,.cons q t=>.cons q (Vals.set r i t)
theorem Vals.append:∀{xs ys:List V}{us a:List Value},Vals xs us->Vals ys a->Vals (xs++ys) (us++a)
 |_,_,_,_,.nil,s=>s
 |_,_,_,_,.cons r t,s=>.cons r (Vals.append t s)
theorem Vals.take:∀{xs:List V}{us:List Value} (n:Nat),Vals xs us->Vals (xs.take n) (us.take n)
 |_,_,0,_=>.nil
 |_,_,_+1,.nil=>.nil
 |_,_,n+1,.cons r t=>.cons r (Vals.take n t)
theorem Vals.drop:∀{xs:List V}{us:List Value} (n:Nat),Vals xs us->Vals (xs.drop n) (us.drop n)
 |_,_,0,r=>r
 |_,_,_+1,.nil=>.nil
 |_,_,n+1,.cons _ t=>Vals.drop n t
def hP:Option V->Option Value->Prop
 |some v,some u=>RelV v u
 |none,none=>True
 |_,_=>False
def KV{κ:Type}:List (κ×V)->List (κ×Value)->Prop:=Paired λ(p:κ×V) (q:κ×Value)=>p.1=q.1/\RelV p.2 q.2
noncomputable def kV:Key->V
 |.inl i=>.int i
 |.inr x=>.str x
inductive HO where
 |lst (xs:List V)
 |tup (xs:List V)
 |dK (kvs:List (Key×V))|dT (kvs:List (List Key×V))
 |set (S:Int->Bool) (n:Nat)
 |ins (C dx:Addr) (fs:List (Str×V))
 |own (x:Addr)
 |xd (fs:List (Str×V))
 |met (f x:Addr)
 |Mh (lo hi:Int)
 |cL (o:Obj) (u:HO)
 |mB (ps:Array Value)
 |ext (φ:Heap->Prop)
abbrev Hp:=Addr->Option HO
noncomputable def upd(H:Hp)(a:Addr)(o:HO):Hp:=λb=>if b=a then some o else H b
theorem aG{H:Hp}{a:Addr}{o:HO}:upd H a o a=some o:=by unfold upd;simp_all
theorem ao{H:Hp}{a b:Addr}{o:HO}(h:b≠a):upd H a o b=H b:=by unfold upd;rw[if_neg h]
theorem aP{H:Hp}{a b:Addr}{o:HO}(h:H a=some o)(c:H b=none):a≠b:=by
 grind
section
variable(P:Program)(w:World)
def cI(H:Hp)(h:Heap)(a:Addr):HO->Prop
 |.lst xs=>xs.length<=sizeLine/\∃(b:List Value) (n:Nat),Vals xs b/\h.get? a=some {cls:=.type "list",data:=.seq b.toArray n}
 |.tup xs=>xs.length<=sizeLine/\∃b:List Value,Vals xs b/\IsTup h a b.toArray
 |.dK kvs=>kvs.length<=sizeLine/\(a==sysModules)=false/\∃vs,KV kvs vs/\h.DictOf (bW P w) a vs
 |.dT kvs=>kvs.length<=sizeLine/\(a==sysModules)=false/\∃xs:List (List Key×Addr×Value),
   Paired (λ(p:List Key×V) (q:List Key×Addr×Value)=>p.1=q.1/\H q.2.1=some (.tup (p.1.map kV))/\RelV p.2 q.2.2) kvs xs /\
   ∃o e ep,h.get? a=some o/\o.ExactDict/\o.data=.dict e ep/\e.toList=xs.map (entryOfKey (tupleKind (bW P w)))/\(xs.map (·.1)).Nodup
 |.set S n=>h.SetOf (intKind P w) a S n
 |.ins C dx fs=>H dx=some (.own a)/\fs.length<=1000/\dx≠a/\h.get? a=some (PySem.W.instObj C dx) /\
   ∃c,h.Ns1 dx c/\(∀f,hP (fs.lookup f) (c f))/\PySem.Within c (fs.map (·.1))
 |.own _=>∃o,h.get? a=some o
 |.xd fs=>∃c,h.Ns1 a c/\∀f,hP (fs.lookup f) (c f)
 |.Mh lo hi=>∃t u v,h.get? a=some {cls:=.type "range",data:=.fields #[.int lo t,.int hi u,.int 1 v]}
 |.cL o u=>h.get? a=some o/\cI H h a u
 |.mB ps=>h.get? a=some {cls:=.none,data:=.fields ps}
 |.met f x=>h.get? a=some (PySem.W.methodObj (.ref f) (.ref x))
 |.ext d=>d h/\(∃o,h.get? a=some o)/\∀g i:Heap,d g->(∀o,g.get? a=some o->i.get? a=some o)->d i
def fE(H:Hp)(h:Heap):Prop:=∀a o,H a=some o->cI P w H h a o
end
section
variable{P:Program}{w:World}{H H':Hp}{h h':Heap}{a:Addr}{o:HO}
theorem cI.lt(x:cI P w H h a o):a<h.objs.size:=by
 cases o with
 |lst c=>obtain⟨_,_,_,_,e⟩:=x;exact Heap.lt_size e
 |tup c=>obtain⟨_,_,_,p⟩:=x;exact p.lt
 |dK b=>obtain⟨_,_,_,_,o,_,_,e,_⟩:=x;exact Heap.lt_size e
 |dT b=>obtain⟨_,_,_,_,o,_,_,e,_⟩:=x;exact Heap.lt_size e
 |set S n=>obtain⟨o,_,_,_,e,_⟩:=x;exact Heap.lt_size e
 |ins C g d=>obtain⟨_,_,_,e,_⟩:=x;exact Heap.lt_size e
 |own y=>obtain⟨_,e⟩:=x;exact Heap.lt_size e
 |xd d=>obtain⟨_,⟨_,_,_,e,_⟩,_⟩:=x;exact Heap.lt_size e
 |Mh i j=>obtain⟨_,_,_,e⟩:=x;exact Heap.lt_size e
 |cL k u=>obtain⟨e,_⟩:=x;exact Heap.lt_size e
 |mB l=>exact Heap.lt_size (x)
 |met f y=>exact Heap.lt_size (x)
 |ext m=>obtain⟨_,⟨_,e⟩,_⟩:=x;exact Heap.lt_size e
theorem Paired.Ep{c d:Type}{F G:c->d->Prop}:∀{l₁:List c}{l₂:List d},Paired F l₁ l₂->(∀a b,F a b->G a b)->Paired G l₁ l₂
 |_,_,.nil,_=>.nil
 |_,_,.cons r t,f=>.cons (f _ _ r) (Paired.Ep t f)
theorem cI.stay(x:cI P w H h a o)(k:∀b u,(b=a\/H b=some (.own a))->h.get? b=some u->h'.get? b=some u)
  (D:∀b,H b=some (.own a)->H' b=some (.own a)) (E:∀b xs,H b=some (.tup xs)->H' b=some (.tup xs)):cI P w H' h' a o:=by
 induction o with
 |lst xs=>obtain⟨z,l,n,r,e⟩:=x;exact⟨z,_,n,r,k _ _ (.inl rfl) e⟩
 |tup xs=>obtain⟨z,l,r,g,e,c⟩:=x;exact⟨z,_,r,g,k _ _ (.inl rfl) e,c⟩
 |dK m=>obtain⟨z,y,F,r,g,i,j,e,c⟩:=x;exact⟨z,y,F,r,g,i,j,k _ _ (.inl rfl) e,c⟩
 |dT m=>
  obtain⟨z,y,xs,r,g,i,j,e,c⟩:=x;exact⟨z,y,xs,Paired.Ep r λp q z=>⟨z.1,E _ _ z.2.1,z.2.2⟩,g,i,j,k _ _ (.inl rfl) e,c⟩
 |set S n=>obtain⟨g,i,j,t,e,c⟩:=x;exact⟨g,i,j,t,k _ _ (.inl rfl) e,c⟩
 |ins C L G=>
  obtain⟨d,z,I,e,s,⟨A,i,j,J,c⟩,r⟩:=x;exact⟨D _ d,z,I,k _ _ (.inl rfl) e,s,⟨A,i,j,k _ _ (.inr d) J,c⟩,r⟩
 |own y=>obtain⟨g,e⟩:=x;exact⟨g,k _ _ (.inl rfl) e⟩
 |xd G=>obtain⟨s,⟨A,i,j,e,c⟩,r⟩:=x;exact⟨s,⟨A,i,j,k _ _ (.inl rfl) e,c⟩,r⟩
 |Mh M N=>obtain⟨t,u,v,e⟩:=x;exact⟨t,u,v,k _ _ (.inl rfl) e⟩
 |cL g u K=>obtain⟨e,q⟩:=x;exact⟨k _ _ (.inl rfl) e,K q⟩
 |mB O=>
  exact k a _ (.inl rfl) x
 |met f y=>
  exact k a _ (.inl rfl) x
 |ext Q=>obtain⟨p,⟨o,e⟩,B⟩:=x;exact⟨B _ _ p λo q=>k _ _ (.inl rfl) q,⟨o,k _ _ (.inl rfl) e⟩,B⟩
theorem fE.lt(x:fE P w H h)(e:H a=some o):a<h.objs.size:=(x a o e).lt
theorem fE.fresh(x:fE P w H h)(e:h.objs.size<=a):H a=none:=by
 cases q:H a with
 |none=>rfl
 |some u=>exact absurd (Nat.lt_of_lt_of_le (x.lt q) e) (by simp)
theorem fE.kept(x:fE P w H h)(k:∀b u,h.get? b=some u->h'.get? b=some u):fE P w H h':=λa o e=>
 (x a o e).stay (λb u _ q=>k b u q) (λ_ q=>q) λ_ _ q=>q
theorem fE.laid(x:fE P w H h)(k:∀b u,h.get? b=some u->h'.get? b=some u)(g:h.objs.size<=a)(i:cI P w (upd H a o) h' a o):fE P w (upd H a o) h':=λb u e=>by
 have d:=x.fresh g
 by_cases f:b=a
 .subst f;rw[aG]at e;grind
 .rw[ao f]at e
  exact(x b u e).stay (λc v _ q=>k c v q) (λc q=>by rwa[ao (aP q d)]) λc j q=>by rwa[ao (aP q d)]
end
def Rd(H:Hp)(a:Addr)(u:HO):Prop:=H a=some u\/∃o,H a=some (.cL o u)
theorem Rd.ok{P:Program}{w:World}{H:Hp}{h:Heap}{a:Addr}{u:HO}(r:Rd H a u)(x:fE P w H h):cI P w H h a u:=by
 rcases r with r|⟨o,r⟩
 .exact x a u r
 .obtain⟨_,q⟩:=x a _ r
  exact q
def Hf:Option HO->Prop
 |some (.lst _)=>True
 |some (.dK _)=>True
 |some (.dT _)=>True
 |some (.set _ _)=>True
 |some (.ins _ _ _)=>True
 |some (.ext _)=>True
 |_=>False
section
variable{P:Program}{w:World}{H:Hp}{h h':Heap}{x e:Addr}{o':HO}
theorem fE.write(ok:fE P w H h)(d:Hf (H x))(n:e=x\/H e=some (.own x))(k:∀b u,b≠e->h.get? b=some u->h'.get? b=some u)(f:∃u,h'.get? e=some u)
  (l:cI P w (upd H x o') h' x o'):fE P w (upd H x o') h':=λb u q=>by
 have a:∀c y,H c=some (.own y)->c≠x:=λc y r z=>by subst z;rwa[r]at d
 by_cases g:b=x
 .subst g;rw[aG]at q;grind
 .rw[ao g]at q
  by_cases m:b=e
  .have i:H b=some (.own x):=by
    grind
   rw[q]at i;cases i
   obtain⟨v,o⟩:=f;exact⟨v,by grind⟩
  .refine(ok b u q).stay (λc v p r=>k c v ?_ r) (λc r=>by rwa[ao (a c b r)]) λc j r=>by rwa[ao ((λc j r z=>by subst z;rw[r]at d;exact d) c j r)]
   grind
end
structure Un(fs ex:List Addr)(H H':Hp)(h h':Heap):Prop where
 keep:∀b o,h.get? b=some o->H b=none->b∉fs->b∉ex->h'.get? b=some o
 slot:∀b o,h.get? b=some o->H b=none->b∈fs->b∉ex->∃sl,h'.get? b=some {o with slots:=sl}
 free:∀b o,h.get? b=some o->H b=none->b∉ex->H' b=none
 there:∀b o,h.get? b=some o->b∉ex->∃o',h'.get? b=some o'
 tups:∀b xs,H b=some (.tup xs)->H' b=some (.tup xs)
 e9:∀b o u,H b=some (.cL o u)->H' b=some (.cL o u)
 fF:∀b ps,H b=some (.mB ps)->∃more,H' b=some (.mB (ps++more))
section
variable{fs fs' ex ex':List Addr}{H H1 H2:Hp}{h h1 h2 h':Heap}{a x e:Addr}{o:HO}
theorem Un.any(u:Un fs ex H H1 h h1){b:Addr}{ob:Obj}(q:h.get? b=some ob)(n:H b=none)(a:b∉ex):∃d,h1.get? b=some {ob with slots:=d}:=by
 by_cases c:b∈fs
 .exact u.slot b ob q n c a
 .exact⟨_,u.keep b ob q n c a⟩
theorem Un.trans(a:Un fs ex H H1 h h1)(b:Un fs ex H1 H2 h1 h2):Un fs ex H H2 h h2 where
 keep:=λc d q n g e=>b.keep c d (a.keep c d q n g e) (a.free c d q n e) g e
 slot:=λc d q n g e=>by
  obtain⟨o,f⟩:=a.slot c d q n g e;obtain⟨j,k⟩:=b.slot c _ f (a.free c d q n e) g e;exact⟨j,k⟩
 free:=λc d q n e=>by
  obtain⟨l,f⟩:=a.there c d q e;exact b.free c l f (a.free c d q n e) e
 there:=λc d q e=>by
  obtain⟨l,f⟩:=a.there c d q e;exact b.there c l f e
 tups:=λc i q=>b.tups c i (a.tups c i q)
 e9:=λc d i q=>b.e9 c d i (a.e9 c d i q)
 fF:=λc m q=>by
  obtain⟨m1,f⟩:=a.fF c m q;obtain⟨m2,k⟩:=b.fF c _ f;exact⟨m1++m2,by rw[k,Array.append_assoc]⟩
theorem Un.kept(k:∀b u,h.get? b=some u->h'.get? b=some u):Un fs ex H H h h':=
 ⟨λb a q _ _ _=>k b a q,λb a q _ _ _=>⟨_,k b a q⟩,λ_ _ _ n _=>n,λb a q _=>⟨a,k b a q⟩,λ_ _ q=>q,λ_ _ _ q=>q,λ_ c q=>⟨#[],by simp_all⟩⟩
theorem Un.refl:Un fs ex H H h h:=Un.kept λ_ _ q=>q
theorem Un.laid(k:∀b u,h.get? b=some u->h'.get? b=some u)(d:h.objs.size<=a)(c:H a=none):Un fs ex H (upd H a o) h h' where
 keep:=λb u q _ _ _=>k b u q
 slot:=λb u q _ _ _=>⟨_,k b u q⟩
 free:=λb u q n _=>by rwa[ao (Nat.ne_of_lt (Nat.lt_of_lt_of_le (Heap.lt_size q) d))]
 there:=λb u q _=>⟨u,k b u q⟩
 tups:=λb e q=>by rwa[ao (aP q c)]
 e9:=λb u e q=>by rwa[ao (aP q c)]
 fF:=λb f q=>⟨#[],by rw[ao (aP q c),q];simp⟩
theorem Un.write(d:Hf (H x))(j:e=x\/H e=some (.own x))(k:∀b u,b≠e->h.get? b=some u->h'.get? b=some u)(f:∃u,h'.get? e=some u):Un fs ex H (upd H x o) h h':=by
 have g:∀b,H b=none->b≠x:=λb n z=>by subst z;rwa[n]at d
 have c:∀b,H b=none->b≠e:=λb n z=>by
  grind
 have a:∀b u,H b=some u->¬ Hf (some u)->b≠x:=λb u q l z=>by simp_all
 refine⟨λb u q n _ _=>k b u (c b n) q,λb u q n _ _=>⟨_,k b u (c b n) q⟩,λb u q n _=>by rwa[ao (g b n)],λb u q _=>?_,
  λb i q=>by rwa[ao (a b _ q λz=>z)],λb u i q=>by rwa[ao (a b _ q λz=>z)],λb m q=>⟨#[],by rw[ao (a b _ q λz=>z),q];simp⟩⟩
 grind
theorem Un.mono(u:Un fs ex H H1 h h1)(d:∀b∈fs,b∈fs')(f:∀b∈ex,b∈ex'):Un fs' ex' H H1 h h1:=
 ⟨λb a q n e c=>u.keep b a q n (λz=>e (d b z)) (by grind),λ_ _ q n _ c=>u.any q n (by grind),λb a q n c=>u.free b a q n (by grind),λb a q c=>u.there b a q (by grind),u.tups,u.e9,u.fF⟩
end
noncomputable def Qi(h:Heap)(H:Hp):List Addr:=(List.range h.objs.size).filter λa=>(H a).isSome
def nG(h:Heap)(H:Hp):Heap:=PySem.W.hideAll h (Qi h H)
theorem uZ(h:Heap)(H:Hp):(nG h H).objs.size=h.objs.size:=PySem.W.hideAll_size _ _
theorem wN{h:Heap}{H:Hp}{b:Addr}{o:Obj}(e:h.get? b=some o)(n:H b=none):(nG h H).get? b=some o:=
 PySem.W.hideAll_get _ e λa=>by
  have q:=(List.mem_filter.mp a).2
  grind
theorem AJ{h:Heap}{H:Hp}{b:Addr}{o:Obj}(e:(nG h H).get? b=some o):h.get? b=some o/\H b=none:=by
 have a:=PySem.W.of_hideAll _ e;refine⟨a,?_⟩;cases q:H b with
 |none=>rfl
 |some x=>
  have z:(nG h H).get? b=none:=PySem.W.hideAll_none _ (List.mem_filter.mpr ⟨List.mem_range.mpr (Heap.lt_size a),by simp[q]⟩)
  grind
noncomputable def AK(g h:Heap)(L:Addr):List (Addr×Obj):=(List.range h.objs.size).filterMap λa=>if a=L\/(g.get? a).isSome=true then none else (h.get? a).map λo=>(a,o)
def rest(g h:Heap)(L d:Addr):List (Addr×Obj):=(AK g h L).filter λp=>decide (p.1≠d)
structure Mod(K:PySem.W.Frag)(mg:Str->Option Value)(base:Heap):Prop where
 Er:K.In base
 glob:base.Ns mainGlobals mg
 blt:∃mb,base.Ns builtinsNs mb/\∀x:Str,x≠"__name__"->mb x=bootBuiltins x
 nolimit:base.NoLimit
structure Cx where
 prog:Program
 w:World
 K:PySem.W.Frag
 mg:Str->Option Value
 base:Heap
 A:Around
 N:List Str
 s₀:Shared
 H₀:Hp
 env:Env
 outer:List Env
 stack:List Env
 ex:List Addr
 fn:Str->Bool
 calm:Bool
 pn:List (Addr×Obj)
 xe:Value->Shared->Prop
noncomputable def frs(l:List Env):List Addr:=l.filterMap (·.frame)
abbrev Cx.fs(X:Cx):List Addr:=frs X.outer
def nH(a:Scope)(x:Str):Prop:=a.names.lookup x=some .local\/a.names.lookup x=some .cell\/a.names.lookup x=some .free
def Loc(a:Scope)(x:Str):Prop:=a.names.lookup x=some .local\/a.names.lookup x=some .cell
def Look(env:Env)(h:Heap)(m:Str->Option Value)(x:Str)(u:Value):Prop:=
 (env.kindOf x=some .local/\m x=some u)\/((env.kindOf x=some .cell\/env.kindOf x=some .free)/\∃c,env.cells.lookup x=some c/\h.IsCell c (some u))
structure Cx.Ok(X:Cx):Prop where
 mod:Mod X.K X.mg X.base
 kind:X.env.scope.kind=.function
 glob:X.env.globals=mainGlobals
 blt:X.env.builtins=builtinsNs
 above:X.s₀.heap.objs.size<=X.env.locals
 inj:∀x y c,X.env.cells.lookup x=some c->X.env.cells.lookup y=some c->x=y
 has:∀x,(X.env.kindOf x=some .cell\/X.env.kindOf x=some .free)->∃c,X.env.cells.lookup x=some c
 cab:∀x c,X.fn x=true->X.env.cells.lookup x=some c->X.s₀.heap.objs.size<=c
 hd:X.calm=true->X.A.handled=none
 frames:X.A.frames=some X.stack
 wJ:X.stack=X.outer\/(X.stack=X.env::X.outer/\X.env.frame=some X.env.locals)
 wO:∀b∈X.ex,b≠X.env.locals/\∀x c,X.env.cells.lookup x=some c->c≠b
 bs:∀b o,X.base.get? b=some o->X.s₀.heap.get? b=some o/\X.H₀ b=none
 pe:X.base.objs.size<=X.s₀.heap.objs.size
 jM:∀b o,X.base.get? b=some o->b∉X.ex
 jN:∀b∈X.ex,b∉X.fs
 eR:X.s₀.heap.FunFrames X.base X.outer
 rj:∀b∈X.fs,X.H₀ b=none
structure Inv(X:Cx)(pins:List (Addr×Obj))(σ:List (Option V))(H:Hp)(s:Shared):Prop where
 ok:X.Ok
 os:s.os=X.s₀.os
 bare:AllBare s.gens
 base:Un X.fs X.ex X.H₀ H X.s₀.heap s.heap
 loc:∃m,s.heap.Ns X.env.locals m/\∀(i:Nat) (x:Str) (v:V),X.N[i]?=some x->σ[i]?=some (some v)->nH X.env.scope x->∃u,RelV v u/\Look X.env s.heap m x u
 cell:∀x c,X.env.cells.lookup x=some c->∃v,s.heap.IsCell c v
 free:H X.env.locals=none
 cq:∀x c,X.env.cells.lookup x=some c->(H c=none\/∃o u,H c=some (.cL o u))/\(X.fn x=true->H c=none)
 pin:∀p∈X.pn++pins,s.heap.get? p.1=some p.2/\H p.1=none/\p.1≠X.env.locals/\p.1∉X.fs/\∀v,p.2.data≠.cell v
 hok:fE X.prog X.w H s.heap
 len:σ.length=X.N.length
section
variable{X:Cx}{pins:List (Addr×Obj)}{σ:List (Option V)}{H H':Hp}{s:Shared}{h':Heap}
theorem Cx.Ok.Mi(ok:X.Ok){b:Addr}{o:Obj}(e:X.base.get? b=some o):b∉X.fs:=λa=>by
 have:=(ok.eR.mem a).1
 grind
theorem Inv.bs(I:Inv X pins σ H s):∀b o,X.base.get? b=some o->s.heap.get? b=some o/\H b=none:=λb o e=>
 ⟨I.base.keep b o (I.ok.bs b o e).1 (I.ok.bs b o e).2 (I.ok.Mi e) (I.ok.jM b o e),I.base.free b o (I.ok.bs b o e).1 (I.ok.bs b o e).2 (I.ok.jM b o e)⟩
theorem Inv.bk(I:Inv X pins σ H s):∀b o,X.base.get? b=some o->s.heap.get? b=some o:=λb o e=>(I.bs b o e).1
theorem Inv.mod(I:Inv X pins σ H s):Mod X.K X.mg X.base:=I.ok.mod
theorem Inv.fU(I:Inv X pins σ H s):X.K.In s.heap:=I.ok.mod.Er.keeps I.bk
theorem Inv.nolimit(I:Inv X pins σ H s):s.heap.NoLimit:=I.ok.mod.nolimit.keeps I.bk
theorem Inv.lt(I:Inv X pins σ H s):X.env.locals<s.heap.objs.size:=let ⟨_,a,_⟩:=I.loc;a.lt
theorem Inv.sz(I:Inv X pins σ H s):X.s₀.heap.objs.size<=s.heap.objs.size:=Nat.le_trans I.ok.above (Nat.le_of_lt I.lt)
theorem Inv.Mj(I:Inv X pins σ H s){a:Addr}(h:s.heap.objs.size<=a):a∉X.fs:=λb=>by
 obtain⟨_,o,c,_⟩:=I.ok.eR.mem b;exact absurd (Nat.lt_of_lt_of_le (Heap.lt_size c) (Nat.le_trans I.sz h)) (by simp)
theorem Inv.GR(I:Inv X pins σ H s):∀x c,X.env.cells.lookup x=some c->c≠X.env.locals:=λx c e z=>by
 obtain⟨v,o,d,f⟩:=I.cell x c e;obtain⟨m,⟨g,h,i,a,b,_⟩,_⟩:=I.loc
 grind
theorem Inv.eR(I:Inv X pins σ H s):s.heap.FunFrames X.base X.outer:=by
 have a:∀(l:List _),(∀b∈frs l,b∈X.fs)->X.s₀.heap.FunFrames X.base l->s.heap.FunFrames X.base l:=by
  intro l
  induction l with
  |nil=>intro _ _;trivial
  |cons h r i=>
   intro f j;obtain⟨k,⟨L,o,g,m,n,p⟩,q⟩:=j;have c:=f L (by unfold frs;grind)
   obtain⟨t,e⟩:=I.base.slot L o n (I.ok.rj L c) c λz=>I.ok.jN L z c
   exact⟨k,⟨L,_,g,m,e,p⟩,i (λb d=>f b (by unfold frs;rw[List.filterMap_cons,g];exact List.mem_cons_of_mem _ d)) q⟩
 exact a _ (λ_ d=>d) I.ok.eR
theorem Inv.stack(I:Inv X pins σ H s):s.heap.FunFrames X.base X.stack:=by
 rcases I.ok.wJ with e|⟨e,a⟩
 .rw[e];exact I.eR
 .rw[e]
  obtain⟨m,b,_⟩:=I.loc;refine .cons (by rw[I.ok.kind];decide) a b (Heap.get?_none_of_le (Nat.le_trans I.ok.pe I.ok.above)) I.eR
theorem Inv.nI(I:Inv X pins σ H s):∀b∈frs X.stack,b∈X.env.locals::X.fs:=λb a=>by
 rcases I.ok.wJ with e|⟨e,c⟩
 .simp_all
 .rw[e]at a
  unfold frs at a;rwa[List.filterMap_cons,c]at a
theorem Inv.j5(I:Inv X pins σ H s):∀b∈frs X.stack,H b=none:=λb hb=>by
 rcases List.mem_cons.mp (I.nI b hb)with e|hb
 .rw[e];exact I.free
 .obtain⟨_,o,a,_⟩:=I.ok.eR.mem hb
  exact I.base.free b o a (I.ok.rj b hb) λz=>I.ok.jN b z hb
theorem Inv.step{O:Array GenState}{t':Nat}{T:Drawn}{ch:List Addr}(I:Inv X pins σ H s)
  (h:∀b∈ch,(b∈X.ex\/X.s₀.heap.objs.size<=b)/\b≠X.env.locals/\(∀x c,X.env.cells.lookup x=some c->c≠b)/\∀p∈X.pn++pins,p.1≠b)
  (keep:∀b o,b≠X.env.locals->b∉X.fs->b∉ch->s.heap.get? b=some o->H b=none->h'.get? b=some o)
  (slot:∀b o,b≠X.env.locals->b∈X.fs->b∉ch->s.heap.get? b=some o->H b=none->∃M,h'.get? b=some {o with slots:=M}) (free:∀b o,b∉ch->s.heap.get? b=some o->H b=none->H' b=none)
  (there:∀b o,b∉ch->s.heap.get? b=some o->∃E,h'.get? b=some E)
  (tups:∀b xs,H b=some (.tup xs)->H' b=some (.tup xs)) (e9:∀b o u,H b=some (.cL o u)->H' b=some (.cL o u)) (fF:∀b ps,H b=some (.mB ps)->∃more,H' b=some (.mB (ps++more)))
  (ns:∀m,s.heap.Ns X.env.locals m->h'.Ns X.env.locals m) (F:fE X.prog X.w H' h') (U:AllBare O) :
  Inv X pins σ H' {s with heap:=h',gens:=O,drawn:=T,toks:=t' }:=by
 have G:∀b o,X.s₀.heap.get? b=some o->b≠X.env.locals:=λb o e=>Nat.ne_of_lt (Nat.lt_of_lt_of_le (Heap.lt_size e) I.ok.above)
 have t:∀b o,X.s₀.heap.get? b=some o->b∉X.ex->b∉ch:=λb o e f A=>by
  rcases(h b A).1 with z|z
  .exact f z
  .exact absurd (Nat.lt_of_lt_of_le (Heap.lt_size e) z) (Nat.lt_irrefl _)
 have j:∀x c,X.env.cells.lookup x=some c->∀v,s.heap.IsCell c v->h'.IsCell c v:=λx c e v ⟨o,y,J⟩=>by
  have a:c∉ch:=λz=>(h c z).2.2.1 x c e rfl
  rcases(I.cq x c e).1 with C|⟨D,K,L⟩
  .by_cases P:c∈X.fs
   .obtain⟨M,q⟩:=slot c o (I.GR x c e) P a y C
    exact⟨_,q,J⟩
   .exact⟨o,keep c o (I.GR x c e) P a y C,J⟩
  .have g:s.heap.get? c=some D:=(I.hok c _ L).1
   have B:h'.get? c=some D:=(F c _ (e9 c D K L)).1;rw[y]at g;cases g
   exact⟨o,B,J⟩
 refine⟨I.ok,I.os,U,⟨λb o e n A f=>?_,λb o e n A f=>?_,λb o e n f=>?_,λb o e f=>?_,λb xs e=>tups b xs (I.base.tups b xs e),λb o xs e=>e9 b o xs (I.base.e9 b o xs e),λb ps e=>?_⟩,?_,λx c e=>?_,?_,λx c e=>?_,λp Q=>?_,F,I.len⟩
 .exact keep b o (G b o e) A (t b o e f) (I.base.keep b o e n A f) (I.base.free b o e n f)
 .obtain⟨M,g⟩:=I.base.slot b o e n A f
  obtain⟨N,B⟩:=slot b _ (G b o e) A (t b o e f) g (I.base.free b o e n f);exact⟨N,B⟩
 .obtain⟨E,g⟩:=I.base.there b o e f
  exact free b E (t b o e f) g (I.base.free b o e n f)
 .obtain⟨E,g⟩:=I.base.there b o e f
  exact there b E (t b o e f) g
 .obtain⟨m1,g⟩:=I.base.fF b ps e
  obtain⟨m2,B⟩:=fF b _ g;exact⟨m1++m2,by rw[B,Array.append_assoc]⟩
 .obtain⟨m,C,V⟩:=I.loc
  refine⟨m,ns m C,λi x v g B Y=>?_⟩
  obtain⟨u,r,l⟩:=V i x v g B Y;refine⟨u,r,?_⟩;rcases l with l|⟨k,c,e,z⟩
  .exact .inl l
  .exact .inr ⟨k,c,e,j x c e _ z⟩
 .obtain⟨v,z⟩:=I.cell x c e
  exact⟨v,j x c e v z⟩
 .obtain⟨m,⟨o,_,_,y,_⟩,_⟩:=I.loc
  exact free _ o (λz=>(h _ z).2.1 rfl) y I.free
 .obtain⟨v,o,y,J⟩:=I.cell x c e
  have a:c∉ch:=λz=>(h c z).2.2.1 x c e rfl
  refine⟨?_,λZ=>free c o a y ((I.cq x c e).2 Z)⟩
  rcases(I.cq x c e).1 with C|⟨D,K,L⟩
  .exact .inl (free c o a y C)
  .exact .inr ⟨D,K,e9 c D K L⟩
 .obtain⟨e,n,R,S,d⟩:=I.pin p Q
  have a:p.1∉ch:=λz=>(h p.1 z).2.2.2 p Q rfl
  exact⟨keep p.1 p.2 R S a e n,free p.1 p.2 a e n,R,S,d⟩
theorem Inv.un{t':Nat}(I:Inv X pins σ H s)(u:Un X.fs [] H H' s.heap h')(c:fE X.prog X.w H' h'):Inv X pins σ H' {s with heap:=h',toks:=t' }:=by
 obtain⟨m,⟨o,l,p,f,r⟩,_⟩:=id I.loc;obtain⟨q,g⟩:=u.any f I.free (by simp)
 exact I.step (ch:=[]) (λ_ z=>nomatch z) (λb o _ d _ e n=>u.keep b o e n d (by simp)) (λb o _ d _ e n=>u.slot b o e n d (by simp)) (λb o _ e n=>u.free b o e n (by simp)) (λb o _ e=>u.there b o e (by simp)) u.tups u.e9 u.fF (λt h=>by
  obtain⟨x,i,j,a,k⟩:=h;rw[f]at a;cases a
  exact⟨_,_,_,g,k⟩) c I.bare
theorem Inv.call{i:Array GenState}{t':Nat}{k:Drawn}{ch:List Addr}(I:Inv X pins σ H s)(u:Un (frs X.stack) ch H H' s.heap h')(g:fE X.prog X.w H' h')(l:AllBare i)
  (d:∀b∈ch,(b∈X.ex\/X.s₀.heap.objs.size<=b)/\b≠X.env.locals/\(∀x c,X.env.cells.lookup x=some c->c≠b)/\∀p∈X.pn++pins,p.1≠b) :
  Inv X pins σ H' {s with heap:=h',gens:=i,drawn:=k,toks:=t' }:=by
 obtain⟨m,⟨o,C,D,j,r⟩,_⟩:=id I.loc;obtain⟨E,h⟩:=u.any j I.free λz=>(d _ z).2.1 rfl
 exact I.step d (λb o h q a e n=>u.keep b o e n (λz=>(List.mem_cons.mp (I.nI b z)).elim h q) a) (λb o _ _ a e n=>u.any e n a) (λb o a e n=>u.free b o e n a) (λb o a e=>u.there b o e a) u.tups u.e9 u.fF (λF t=>by
  obtain⟨G,y,A,f,B⟩:=t;rw[j]at f;cases f
  exact⟨_,_,_,h,B⟩) g l
theorem Inv.turned{t':Nat}{it:Addr}(I:Inv X pins σ H s)(k:∀b o,b≠it->s.heap.get? b=some o->h'.get? b=some o)(A:H it=none)(f:it≠X.env.locals)
  (g:it∈X.ex\/X.s₀.heap.objs.size<=it) (h:∀x c,X.env.cells.lookup x=some c->c≠it) (i:∀p∈X.pn++pins,p.1≠it):Inv X pins σ H {s with heap:=h',toks:=t' }:=by
 have d:∀b u,H b=some u->b≠it:=λb u e z=>by grind
 refine I.step (ch:=[it]) (λb j=>?_) (λb o _ _ a e _=>k b o (λz=>a (by simp[z])) e) (λb o _ _ a e _=>⟨_,k b o (λz=>a (by simp[z])) e⟩) (λ_ _ _ _ n=>n)
  (λb o a e=>⟨o,k b o (λz=>a (by simp[z])) e⟩) (λ_ _ e=>e) (λ_ _ _ e=>e) (λb B e=>⟨#[],by simp_all⟩) (λm l=>?_) (λb u e=>?_) I.bare
 .have e:=by simpa using j
  subst e;exact⟨g,f,h,i⟩
 .obtain⟨o,t,w,y,r⟩:=l
  exact⟨o,t,w,k _ o (Ne.symm f) y,r⟩
 .refine(I.hok b u e).stay (λc v a q=>k c v ?_ q) (λ_ q=>q) λ_ _ q=>q
  rcases a with z|z
  .rw[z];exact d b u e
  .exact d c _ z
theorem Inv.tok(I:Inv X pins σ H s)(t:Nat):Inv X pins σ H {s with toks:=t}:=I.un Un.refl I.hok
theorem Inv.kept{t':Nat}(I:Inv X pins σ H s)(k:∀b u,s.heap.get? b=some u->h'.get? b=some u):Inv X pins σ H {s with heap:=h',toks:=t' }:=I.un (Un.kept k) (I.hok.kept k)
theorem Inv.laid{a:Addr}{o:HO}{t':Nat}(I:Inv X pins σ H s)(k:∀b u,s.heap.get? b=some u->h'.get? b=some u)(c:s.heap.objs.size<=a)(d:cI X.prog X.w (upd H a o) h' a o) :
  Inv X pins σ (upd H a o) {s with heap:=h',toks:=t' }:=I.un (Un.laid k c (I.hok.fresh c)) (I.hok.laid k c d)
theorem Inv.write{x e:Addr}{o:HO}{t':Nat}(I:Inv X pins σ H s)(d:Hf (H x))(f:e=x\/H e=some (.own x))(k:∀b u,b≠e->s.heap.get? b=some u->h'.get? b=some u)(a:∃u,h'.get? e=some u)
  (c:cI X.prog X.w (upd H x o) h' x o):Inv X pins σ (upd H x o) {s with heap:=h',toks:=t' }:=I.un (Un.write d f k a) (I.hok.write d f k a c)
theorem Inv.weak{a:List (Option V)}(I:Inv X pins σ H s)(c:a.length=σ.length)(w:∀(i:Nat) v,a[i]?=some (some v)->σ[i]?=some (some v)):Inv X pins a H s:=
 ⟨I.ok,I.os,I.bare,I.base,let ⟨m,d,b⟩:=I.loc;⟨m,d,λi x v e f g=>b i x v e (w i v f) g⟩,I.cell,I.free,I.cq,I.pin,I.hok,c.trans I.len⟩
theorem Inv.sX{a:List (Addr×Obj)}(I:Inv X pins σ H s)(h:∀p∈a,s.heap.get? p.1=some p.2/\H p.1=none/\p.1≠X.env.locals/\p.1∉X.fs/\∀v,p.2.data≠.cell v):Inv X a σ H s:=
 ⟨I.ok,I.os,I.bare,I.base,I.loc,I.cell,I.free,I.cq,λp b=>(List.mem_append.mp b).elim (λz=>I.pin p (List.mem_append_left _ z)) (h p),I.hok,I.len⟩
theorem pq{N:List Str}(c:N.Nodup){i j:Nat}{x:Str}(a:N[i]?=some x)(b:N[j]?=some x):i=j:=by
 obtain⟨f,d⟩:=List.getElem?_eq_some_iff.mp a;obtain⟨g,e⟩:=List.getElem?_eq_some_iff.mp b;exact(List.getElem_inj c).mp (d.trans e.symm)
theorem mD{M:Model}{A:Around}{E:Value->Shared->Prop}{i:Nat}{x:Str}{v:V}{u:Value}{Q:Unit->Shared->Prop}(I:Inv X pins σ H s)(hN:X.N.Nodup)(O:X.N[i]?=some x)(t:Loc X.env.scope x)(r:RelV v u)
  (h:∀U,Inv X pins (σ.set i (some v)) H U->(∃a,Heap.SameBut a s.heap U.heap/\(a=X.env.locals\/X.env.cells.lookup x=some a))->Q () U) (hf:X.fn x=true\/X.env.scope.names.lookup x=some .local:=by first|exact .inl rfl|exact .inr rfl|assumption):wpAny M A (storeName X.env x u) Q E s:=by
 obtain⟨m,Y,hl⟩:=id I.loc;have F:i<σ.length:=by rw[I.len];exact(List.getElem?_eq_some_iff.mp O).1
 have G:=I.GR
 have g:∀{a:Addr}{L:Heap},(∃o,s.heap.get? a=some o/\H a=none)->Heap.SameBut a s.heap L->fE X.prog X.w H L:=λ{a L} ha f b ob e=>by
  obtain⟨_,_,Z⟩:=ha;refine(I.hok b ob e).stay (λc w' B q=>(f.2 c ?_).trans q) (λ_ q=>q) λ_ _ q=>q
  grind
 rcases t with hk|hk
 .refine wpAny_storeName_local hk Y (λL a0 f=>?_) (by rw[I.ok.kind];rfl)
  obtain⟨oL,_,_,b0,_⟩:=id Y;refine h _ ⟨I.ok,I.os,I.bare,⟨λb o e n J t=>?_,λb o e n J t=>?_,I.base.free,λb o e t=>?_,I.base.tups,I.base.e9,I.base.fF⟩,⟨_,a0,λj y v' l C e3=>?_⟩,λy c e=>?_,I.free,I.cq,λp hp=>?_,g ⟨oL,b0,I.free⟩ f,by simpa using I.len⟩ ⟨_,f,.inl rfl⟩
  .exact(f.2 b (Nat.ne_of_lt (Nat.lt_of_lt_of_le (Heap.lt_size e) I.ok.above))).trans (I.base.keep b o e n J t)
  .obtain⟨sl,l⟩:=I.base.slot b o e n J t
   exact⟨sl,(f.2 b (Nat.ne_of_lt (Nat.lt_of_lt_of_le (Heap.lt_size e) I.ok.above))).trans l⟩
  .obtain⟨o',l⟩:=I.base.there b o e t
   exact⟨o',(f.2 b (Nat.ne_of_lt (Nat.lt_of_lt_of_le (Heap.lt_size e) I.ok.above))).trans l⟩
  .by_cases K:j=i
   .subst K
    rw[O]at l;cases l
    rw[List.getElem?_set_self F]at C;cases C;exact⟨u,r,.inl ⟨hk,by simp⟩⟩
   .rw[List.getElem?_set_ne (Ne.symm K)]at C
    obtain⟨u',r',q⟩:=hl j y v' l C e3;refine⟨u',r',?_⟩;rcases q with ⟨k,e⟩|⟨k,c,e,z⟩
    .refine .inl ⟨k,?_⟩
     have:y≠x:=λe=>K (pq hN l (e▸O))
     simp[this,e]
    .exact .inr ⟨k,c,e,z.sameBut f (G y c e)⟩
  .obtain⟨w',z⟩:=I.cell y c e
   exact⟨w',z.sameBut f (G y c e)⟩
  .obtain⟨e,n,S,nf,d⟩:=I.pin p hp
   exact⟨(f.2 p.1 S).trans e,n,S,nf,d⟩
 .have D:X.fn x=true:=by
   rcases hf with z|z
   .exact z
   .rw[z]at hk;cases hk
  obtain⟨c,B⟩:=I.ok.has x (.inl hk);obtain⟨w',z⟩:=I.cell x c B;refine wpAny_storeName_cell I.ok.kind hk B z (λL P f=>?_)
  obtain⟨oc,c0,e0⟩:=id z;refine h {s with heap:=L} ⟨I.ok,I.os,I.bare,⟨λb o e n J t=>?_,λb o e n J t=>?_,I.base.free,λb o e t=>?_,I.base.tups,I.base.e9,I.base.fF⟩,⟨m,Y.sameBut f (Ne.symm (G x c B)),λj y v' l C e3=>?_⟩,λy T e=>?_,I.free,I.cq,λp hp=>?_,g ⟨oc,c0,(I.cq x c B).2 D⟩ f,by simpa using I.len⟩ ⟨c,f,.inr B⟩
  .exact(f.2 b (Nat.ne_of_lt (Nat.lt_of_lt_of_le (Heap.lt_size e) (I.ok.cab x c D B)))).trans (I.base.keep b o e n J t)
  .obtain⟨sl,l⟩:=I.base.slot b o e n J t
   exact⟨sl,(f.2 b (Nat.ne_of_lt (Nat.lt_of_lt_of_le (Heap.lt_size e) (I.ok.cab x c D B)))).trans l⟩
  .obtain⟨o',l⟩:=I.base.there b o e t
   exact⟨o',(f.2 b (Nat.ne_of_lt (Nat.lt_of_lt_of_le (Heap.lt_size e) (I.ok.cab x c D B)))).trans l⟩
  .by_cases K:j=i
   .subst K
    rw[O]at l;cases l
    rw[List.getElem?_set_self F]at C;cases C;exact⟨u,r,.inr ⟨.inl hk,c,B,P⟩⟩
   .rw[List.getElem?_set_ne (Ne.symm K)]at C
    obtain⟨u',r',q⟩:=hl j y v' l C e3;refine⟨u',r',?_⟩;rcases q with q|⟨k,T,e,z'⟩
    .exact .inl q
    .refine .inr ⟨k,T,e,z'.sameBut f ?_⟩
     rintro rfl;exact K (pq hN l (I.ok.inj _ _ _ e B▸O))
  .by_cases R:T=c
   .subst R;exact⟨_,P⟩
   .obtain⟨w2,z2⟩:=I.cell y T e
    exact⟨w2,z2.sameBut f R⟩
  .obtain⟨e,n,S,nf,d⟩:=I.pin p hp
   refine⟨(f.2 p.1 ?_).trans e,n,S,nf,d⟩
   grind
theorem ip{M:Model}{A:Around}{E:Value->Shared->Prop}{i:Nat}{x:Str}{v:V}{u:Value}{Q:Unit->Shared->Prop}(I:Inv X pins σ H s)(b:X.N.Nodup)(c:X.N[i]?=some x)(d:Loc X.env.scope x)(r:RelV v u)
  (h:∀a,Inv X pins (σ.set i (some v)) H a->Q () a) (e:X.fn x=true\/X.env.scope.names.lookup x=some .local:=by first|exact .inl rfl|exact .inr rfl|assumption):wpAny M A (storeName X.env x u) Q E s:=
 mD I b c d r (λa f _=>h a f) e
theorem Inv.call'{a:Shared}{ch:List Addr}(I:Inv X pins σ H s)(f:a.os=s.os)(u:Un (frs X.stack) ch H H' s.heap a.heap)(d:fE X.prog X.w H' a.heap)(g:AllBare a.gens)
  (e:∀b∈ch,(b∈X.ex\/X.s₀.heap.objs.size<=b)/\b≠X.env.locals/\(∀x c,X.env.cells.lookup x=some c->c≠b)/\∀p∈X.pn++pins,p.1≠b):Inv X pins σ H' a:=by
 obtain⟨h,i,j,k,l⟩:=a;subst f;exact I.call u d g e
end
abbrev XK:=Value->Option Addr->Hp->Prop
abbrev St:=List (Option V)
abbrev VK:=V->Hp->Prop
abbrev TE:=St->Hp->VK->Prop
abbrev TT:=St->Hp->(Bool->Hp->Prop)->Prop
abbrev TA:=St->Hp->(List V->Hp->Prop)->Prop
structure Ends where
 nx:St->Hp->Prop
 rt:VK
 bk:St->Hp->Prop:=λ_ _=>False
 ct:St->Hp->Prop:=λ_ _=>False
abbrev TS:=Ends->St->Hp->Prop
def EP(X:Cx)(pins:List (Addr×Obj))(σ:St)(Q:VK)(u:Value)(b:Shared):Prop:=∃v a,Inv X pins σ a b/\RelV v u/\Q v a
def TP(X:Cx)(pins:List (Addr×Obj))(σ:St)(Q:Bool->Hp->Prop)(b:Bool)(c:Shared):Prop:=∃a,Inv X pins σ a c/\Q b a
def AP(X:Cx)(pins:List (Addr×Obj))(σ:St)(Q:List V->Hp->Prop)(us:List Value)(c:Shared):Prop:=∃a b,Inv X pins σ b c/\Vals a us/\Q a b
def SP(X:Cx)(pins:List (Addr×Obj))(D:Ends)(f:Flow)(c:Shared):Prop:=
 match f with
 |.next=>∃a b,Inv X pins a b c/\D.nx a b
 |.brk=>∃a b,Inv X pins a b c/\D.bk a b
 |.cont=>∃a b,Inv X pins a b c/\D.ct a b
 |.ret u=>∃v a b,Inv X pins a b c/\RelV v u/\D.rt v b
def PE(X:Cx)(e:Expr)(t:TE):Prop:=
 ∀(pins:List (Addr×Obj)) (s:Shared) (a:St) (H:Hp) (Q:VK),Inv X pins a H s->t a H Q->wpAny (model X.prog X.w) X.A (eval e X.env) (EP X pins a Q) X.xe s
def PT(X:Cx)(e:Expr)(t:TT):Prop:=
 ∀(pins:List (Addr×Obj)) (s:Shared) (a:St) (H:Hp) (Q:Bool->Hp->Prop),Inv X pins a H s->t a H Q->wpAny (model X.prog X.w) X.A (isTrue e X.env (eval e X.env)) (TP X pins a Q) X.xe s
def PW(X:Cx)(e:Expr)(t:TT):Prop:=
 ∀(a:Sem Value) (pins:List (Addr×Obj)) (s:Shared) (b:St) (H:Hp) (Q:Bool->Hp->Prop),Inv X pins b H s->t b H Q->wpAny (model X.prog X.w) X.A (isTrue e X.env a) (TP X pins b Q) X.xe s
theorem PW.pt{X:Cx}{e:Expr}{t:TT}(h:PW X e t):PT X e t:=h _
def PA(X:Cx)(c:List Expr)(t:TA):Prop:=
 ∀(a:Pos) (pins:List (Addr×Obj)) (s:Shared) (b:St) (H:Hp) (Q:List V->Hp->Prop),Inv X pins b H s->t b H Q->wpAny (model X.prog X.w) X.A (spliced (backTo a (starEach c X.env))) (AP X pins b Q) X.xe s
def PS(X:Cx)(st:Stmt)(t:TS):Prop:=
 ∀(pins:List (Addr×Obj)) (s:Shared) (a:St) (H:Hp) (D:Ends),Inv X pins a H s->t D a H->wpAny (model X.prog X.w) X.A (exec st X.env) (SP X pins D) X.xe s
def gb(X:Cx)(st:List Stmt)(t:TS):Prop:=
 ∀(pins:List (Addr×Obj)) (s:Shared) (a:St) (H:Hp) (D:Ends),Inv X pins a H s->t D a H->wpAny (model X.prog X.w) X.A (execs st X.env) (SP X pins D) X.xe s
theorem cu{b:Type}{t:Sem b}{Q c:b->Shared->Prop}{M:Model}{A:Around}{E:Value->Shared->Prop}{s:Shared}(h:wpAny M A t Q E s)(d:∀a s,Q a s->c a s):wpAny M A t c E s:=wpAny_mono h d λ_ _ x=>x
section
variable{X:Cx}
noncomputable def Ml(i:Nat):TE:=λa H Q=>∃v,a[i]?=some (some v)/\Q v H
noncomputable def tC(v:V):TE:=λ_ H Q=>Q v H
theorem hV{i:Nat}{x:Str}{pos:Pos}(j:X.N[i]?=some x)(k:nH X.env.scope x)(d:(x==("__debug__":Str))=false:=by decide)(f:(x==("__classdict__":Str))=false:=by decide):PE X (.Name x pos) (Ml i):=by
 intro pins s n H Q I h;obtain⟨v,e,h⟩:=h;obtain⟨m,o,p⟩:=I.loc;obtain⟨u,r,l⟩:=p i x v j e k;have b:EP X _ n Q u s:=⟨v,H,I,r,h⟩;rcases l with ⟨hk,q⟩|⟨hk,c,g,a⟩
 .exact wpAny_Name (wpAny_loadName_local I.ok.kind hk o q b) d
 .rcases hk with hk|hk
  .exact wpAny_Name (wpAny_loadName_cell I.ok.kind hk g a b) d
  .exact wpAny_Name (wpAny_loadName_free I.ok.kind hk g a b f) d
theorem Es{i j pos}:PE X (.Constant (.int i) j pos) (tC (.int i)):=λ_ _ _ H _ I h=>wpAny_Constant_int ⟨.int i,H,I.tok _,⟨_,rfl⟩,h⟩
theorem DF{b j pos}:PE X (.Constant (.bool b) j pos) (tC (.bl b)):=λ_ _ _ H _ I h=>Constant_bool ⟨.bl b,H,I,rfl,h⟩
theorem Et{j pos}:PE X (.Constant .none j pos) (tC .non):=λ_ _ _ H _ I h=>Constant_none ⟨.non,H,I,rfl,h⟩
theorem Eu{x j pos}:PE X (.Constant (.str x) j pos) (tC (.str x)):=λ_ _ _ H _ I h=>Calls.Constant_str ⟨.str x,H,I.tok _,⟨_,rfl⟩,h⟩
def Gl(X:Cx)(x:Str):Prop:=X.env.kindOf x=some .globalImplicit
theorem fG{E:Value->Shared->Prop}{pins:List (Addr×Obj)}{s:Shared}{σ:St}{H:Hp}{x:Str}{u:Value}{pos:Pos}{Q:Value->Shared->Prop}(I:Inv X pins σ H s)(a:Gl X x)(b:X.mg x=some u)(h:Q u s)
  (c:(x==("__debug__":Str))=false:=by decide):wpAny (model X.prog X.w) X.A (eval (.Name x pos) X.env) Q E s:=
 Calls.Name_function_global I.ok.kind a (Calls.loadGlobal_global (by rw[I.ok.glob];exact I.mod.glob.keeps I.bk) b h) c
theorem fH{E:Value->Shared->Prop}{pins:List (Addr×Obj)}{s:Shared}{σ:St}{H:Hp}{x:Str}{u:Value}{pos:Pos}{Q:Value->Shared->Prop}(I:Inv X pins σ H s)(a:Gl X x)(b:X.mg x=none)(c:bootBuiltins x=some u)(h:Q u s)
  (d:x≠"__name__":=by decide) (e:(x==("__debug__":Str))=false:=by decide):wpAny (model X.prog X.w) X.A (eval (.Name x pos) X.env) Q E s:=by
 obtain⟨i,f,g⟩:=I.mod.blt;exact Calls.Name_function_global I.ok.kind a (Calls.loadGlobal_builtin (by rw[I.ok.glob];exact I.mod.glob.keeps I.bk) b (by rw[I.ok.blt];exact f.keeps I.bk) ((g x d).trans c) h) e
theorem AL{x:Str}{v:V}{u:Value}{pos:Pos}(a:Gl X x)(b:X.mg x=some u)(r:RelV v u)(c:(x==("__debug__":Str))=false:=by decide):PE X (.Name x pos) (tC v):=
 λ_ _ _ H _ I h=>fG I a b ⟨v,H,I,r,h⟩ c
theorem AN{x:Str}{v:V}{u:Value}{pos:Pos}(a:Gl X x)(b:X.mg x=none)(c:bootBuiltins x=some u)(r:RelV v u)(d:x≠"__name__":=by decide)(e:(x==("__debug__":Str))=false:=by decide):PE X (.Name x pos) (tC v):=
 λ_ _ _ H _ I h=>fH I a b c ⟨v,H,I,r,h⟩ d e
variable{a b:Expr}{ta tb:TE}{pos:Pos}
noncomputable def tB(t:TE):TT:=λa H Q=>t a H λx b=>∃c,x=.bl c/\Q c b
variable{tA Kr:TT}{rest:List Expr}
noncomputable def Mm(t u:TT):TT:=λa H Q=>t a H λc b=>if c=true then u a b Q else Q false b
noncomputable def Qj(t u:TT):TT:=λa H Q=>t a H λc b=>if c=true then Q true b else u a b Q
noncomputable def Mn(t:TT):TT:=λa H Q=>t a H λc b=>Q (!c) b
theorem pw_and1(b:PT X a tA):PW X (.BoolOp .And [a] pos) tA:=by
 intro f pins s d H Q I h;refine isTrue_and (cu (b _ s d H Q I h) λc g e=>?_)
 cases c with
 |true=>exact isTrue_and_nil e
 |false=>exact e
theorem pw_or1(b:PT X a tA):PW X (.BoolOp .Or [a] pos) tA:=by
 intro f pins s d H Q I h;refine isTrue_or (cu (b _ s d H Q I h) λc g e=>?_)
 cases c with
 |false=>exact isTrue_or_nil e
 |true=>exact e
theorem pw_and(f:PT X a tA)(g:PW X (.BoolOp .And (b::rest) pos) Kr):PW X (.BoolOp .And (a::b::rest) pos) (Mm tA Kr):=by
 intro i pins s d H Q I h;refine isTrue_and (cu (f _ s d H _ I h) λc j ⟨e,I1,q1⟩=>?_)
 cases c with
 |true=>exact g i _ j d e Q I1 q1
 |false=>exact⟨e,I1,q1⟩
theorem pw_or(f:PT X a tA)(g:PW X (.BoolOp .Or (b::rest) pos) Kr):PW X (.BoolOp .Or (a::b::rest) pos) (Qj tA Kr):=by
 intro i pins s d H Q I h;refine isTrue_or (cu (f _ s d H _ I h) λc j ⟨e,I1,q1⟩=>?_)
 cases c with
 |true=>exact⟨e,I1,q1⟩
 |false=>exact g i _ j d e Q I1 q1
theorem Ew(b:PT X a tA):PT X (.UnaryOp .Not a pos) (Mn tA):=by
 intro pins s c H Q I h;exact isTrue_not (b _ s c H _ I h)
theorem Ey{op}{t:TE}(h:PE X a t):PE X (.BoolOp op [a] pos) t:=λpins s b H Q I c=>BoolOp_one (h _ s b H Q I c)
noncomputable def GS(t:TT)(d tb:TE):TE:=λa H Q=>t a H λc b=>if c=true then d a b Q else tb a b Q
theorem wQ{c:Expr}(i:PT X c tA)(j:PE X a ta)(k:PE X b tb):PE X (.IfExp c a b pos) (GS tA ta tb):=by
 intro pins s e H Q I h;refine wpAny_IfExp (cu (i _ s e H _ I h) λd f ⟨g,I1,q1⟩=>?_)
 cases d with
 |true=>exact j _ f e g Q I1 q1
 |false=>exact k _ f e g Q I1 q1
end
def lX(K:PySem.W.Frag)(H:Hp)(a:Addr)(xs:List V):Prop:=
 Rd H a (.lst xs) \/
  ∃(o:Obj) (b:Array Value) (n:Nat),K.lookup a=some o/\o.cls=.type "list"/\o.dict=none/\o.data=.seq b n/\b.size<=sizeLine/\Vals xs b.toList
def rn(K:PySem.W.Frag)(H:Hp)(a:Addr)(xs:List V):Prop:=
 Rd H a (.tup xs) \/
  ∃(o:Obj) (b:Array Value) (n:Nat),K.lookup a=some o/\o.cls=.type "tuple"/\o.data=.seq b n/\b.size<=sizeLine/\Vals xs b.toList
noncomputable def Mo:Value->Option V
 |.none=>some .non
 |.bool b=>some (.bl b)
 |.int i _=>some (.int i)
 |.str x _=>some (.str x)
 |.bytes b _=>some (.GQ b)
 |.float b _=>some (.flt b)
 |.ref a=>some (.ref a)
 |.type n=>some (.ty n)
 |_=>none
theorem RelV.abs{x:V}{u:Value}(r:RelV x u):Mo u=some x:=by
 cases x with
 |non=>cases r;rfl
 |bl _=>cases r;rfl
 |int _=>obtain⟨t,rfl⟩:=r;rfl
 |str _=>obtain⟨t,rfl⟩:=r;rfl
 |GQ _=>obtain⟨t,rfl⟩:=r;rfl
 |flt _=>obtain⟨t,rfl⟩:=r;rfl
 |ref _=>cases r;rfl
 |ty _=>cases r;rfl
theorem RelV.inj{x y:V}{u:Value}(r:RelV x u)(q:RelV y u):x=y:=Option.some.inj (r.abs.symm.trans q.abs)
theorem Vals.inj:∀{xs ys:List V}{us:List Value},Vals xs us->Vals ys us->xs=ys
 |_,_,_,.nil,.nil=>rfl
 |_,_,_,.cons r t,.cons a b=>by rw[r.inj a,Vals.inj t b]
section
variable{X:Cx}{pins:List (Addr×Obj)}{σ:St}{H:Hp}{s:Shared}{a:Addr}{xs ys:List V}
theorem Inv.list(I:Inv X pins σ H s)(h:lX X.K H a xs):∃b:List Value,Vals xs b/\PlainL s.heap a b.toArray/\xs.length<=sizeLine:=by
 rcases h with h|⟨o,b,n,c,d,f,g,i,r⟩
 .obtain⟨z,b,n,r,e⟩:=h.ok I.hok
  exact⟨_,r,⟨_,n,e,rfl,rfl,rfl⟩,z⟩
 .refine⟨_,r,⟨o,n,I.fU a o c,d,f,by omega⟩,?_⟩
  have e:=r.length
  grind
theorem Inv.tuple(I:Inv X pins σ H s)(h:rn X.K H a xs):∃b:List Value,Vals xs b/\IsTup s.heap a b.toArray/\xs.length<=sizeLine:=by
 rcases h with h|⟨o,b,n,c,d,f,g,r⟩
 .obtain⟨z,b,r,p⟩:=h.ok I.hok
  exact⟨_,r,p,z⟩
 .refine⟨_,r,⟨o,I.fU a o c,d,n,by omega⟩,?_⟩
  have e:=r.length
  simp_all
theorem Inv.pv(I:Inv X pins σ H s)(h:lX X.K H a xs)(f:lX X.K H a ys):xs=ys:=by
 obtain⟨c,r,⟨o,n,e,_,_,d⟩,_⟩:=I.list h;obtain⟨b,g,⟨i,j,k,_,_,l⟩,_⟩:=I.list f;have:c=b:=by grind
 subst this;exact r.inj g
theorem Inv.u5(I:Inv X pins σ H s)(h:rn X.K H a xs)(f:rn X.K H a ys):xs=ys:=by
 obtain⟨c,r,⟨o,e,_,n,d⟩,_⟩:=I.tuple h;obtain⟨b,g,⟨i,j,_,k,l⟩,_⟩:=I.tuple f;have:c=b:=by grind
 subst this;exact r.inj g
end
abbrev Cx.wish(X:Cx)(E:Value->Shared->Prop):Cx:={X with xe:=E}
abbrev Cx.fg(X:Cx):Cx:=X.wish λ_ _=>False
theorem Cx.Ok.wish{X:Cx}(ok:X.Ok)(E:Value->Shared->Prop):(X.wish E).Ok:=
 ⟨ok.mod,ok.kind,ok.glob,ok.blt,ok.above,ok.inj,ok.has,ok.cab,ok.hd,ok.frames,ok.wJ,ok.wO,ok.bs,ok.pe,ok.jM,ok.jN,ok.eR,ok.rj⟩
theorem Cx.Ok.dN{X:Cx}{E:Value->Shared->Prop}(ok:(X.wish E).Ok):X.Ok:=
 ⟨ok.mod,ok.kind,ok.glob,ok.blt,ok.above,ok.inj,ok.has,ok.cab,ok.hd,ok.frames,ok.wJ,ok.wO,ok.bs,ok.pe,ok.jM,ok.jN,ok.eR,ok.rj⟩
section
variable{X:Cx}{pins:List (Addr×Obj)}{σ:St}{H:Hp}{s:Shared}{E:Value->Shared->Prop}
theorem Inv.wish(I:Inv X pins σ H s)(E:Value->Shared->Prop):Inv (X.wish E) pins σ H s:=⟨I.ok.wish E,I.os,I.bare,I.base,I.loc,I.cell,I.free,I.cq,I.pin,I.hok,I.len⟩
theorem Inv.dN(I:Inv (X.wish E) pins σ H s):Inv X pins σ H s:=⟨I.ok.dN,I.os,I.bare,I.base,I.loc,I.cell,I.free,I.cq,I.pin,I.hok,I.len⟩
theorem SP.dN{D:Ends}{f:Flow}{c:Shared}(h:SP (X.wish E) pins D f c):SP X pins D f c:=by
 cases f with
 |next=>obtain⟨a,b,I,q⟩:=h;exact⟨_,b,I.dN,q⟩
 |brk=>obtain⟨a,b,I,q⟩:=h;exact⟨_,b,I.dN,q⟩
 |cont=>obtain⟨a,b,I,q⟩:=h;exact⟨_,b,I.dN,q⟩
 |ret u=>obtain⟨v,a,b,I,r,q⟩:=h;exact⟨v,_,b,I.dN,r,q⟩
theorem gb.fg{st:List Stmt}{t:TS}(h:gb X.fg st t):gb X st t:=λpins s a H D I b=>
 wpAny_mono (h _ s a H D (I.wish _) b) (λ_ _ q=>q.dN) (by simp)
end
section
variable{X:Cx}{st:Stmt}{rest:List Stmt}{t u:TS}{e:Expr}{te:TE}{pos:Pos}
noncomputable def Hg:TS:=λD a H=>D.nx a H
noncomputable def Mp(t u:TS):TS:=λD a H=>t {D with nx:=u D} a H
theorem AO:gb X [] Hg:=λ_ _ a H _ I h=>wpAny_execs_nil ⟨a,H,I,h⟩
theorem wR(a:PS X st t)(b:gb X rest u):gb X (st::rest) (Mp t u):=by
 intro pins s c H D I h;refine wpAny_execs_cons (cu (a _ s c H _ I h) λf d q=>?_)
 cases f with
 |next=>
  obtain⟨e,g,i,q⟩:=q;exact b _ d _ g D i q
 |ret v=>exact q
 |brk=>exact q
 |cont=>exact q
theorem nJ(a:PS X st t):gb X [st] t:=by
 intro pins s b H D I h;refine wpAny_execs_cons (cu (a _ s b H D I h) λf c q=>?_)
 cases f with
 |next=>exact wpAny_execs_nil q
 |ret v=>exact q
 |brk=>exact q
 |cont=>exact q
theorem Inv.quiet{pins:List (Addr×Obj)}{σ:St}{H:Hp}{s:Shared}(I:Inv X pins σ H s):interactive X.env=false:=by simp[interactive,I.ok.kind]
noncomputable def Hh(b:TE):TS:=λD a H=>b a H λ_ c=>D.nx a c
theorem sY(b:PE X e te)(c:swapsWith e none pos.line X.env=pure false:=by rfl):PS X (.Expr e pos) (Hh te):=by
 intro pins s a H D I h;exact wpAny_Expr_any (cu (b _ s a H _ I h) λv d ⟨x,H1,I1,r1,q1⟩=>⟨a,H1,I1,q1⟩) I.quiet c
noncomputable def Mq(a:TE):TS:=λD b H=>a b H D.rt
theorem Ez(b:PE X e te):PS X (.Return (some e) pos) (Mq te):=by
 intro pins s a H D I h;exact wpAny_Return_some (cu (b _ s a H _ I h) λv c ⟨x,H1,I1,r1,q1⟩=>⟨x,a,H1,I1,r1,q1⟩)
noncomputable def Hi:TS:=λD _ H=>D.rt .non H
theorem AQ:PS X (.Return none pos) Hi:=λ_ _ a H _ I h=>wpAny_Return_none ⟨.non,a,H,I,rfl,h⟩
noncomputable def Mr(c:TT)(t u:TS):TS:=λD a H=>c a H λb d=>if b=true then t D a d else u D a d
theorem Hj{c:Expr}{a b:List Stmt}{f:TT}(j:PT X c f)(k:gb X a t)(l:gb X b u):PS X (.If c a b pos) (Mr f t u):=by
 intro pins s e H D I h;refine wpAny_If (cu (j _ s e H _ I h) λd g ⟨i,I1,q1⟩=>?_)
 cases d with
 |true=>exact k _ g e i D I1 q1
 |false=>exact l _ g e i D I1 q1
end
abbrev TG:=V->St->Hp->(St->Hp->Prop)->Prop
abbrev DG:=List V->St->Hp->(St->Hp->Prop)->Prop
def PG(X:Cx)(a:Expr)(t:TG):Prop:=
 ∀(pins:List (Addr×Obj)) (s:Shared) (c:St) (H:Hp) (v:V) (u:Value) (Q:St->Hp->Prop),Inv X pins c H s->RelV v u->t v c H Q ->
  wpAny (model X.prog X.w) X.A (assign a X.env u) (λ_ e=>∃b d,Inv X pins b d e/\Q b d) X.xe s
def Hk(X:Cx)(f:List Expr)(t:DG):Prop:=
 ∀(pins:List (Addr×Obj)) (s:Shared) (b:St) (H:Hp) (c:List V) (d:List Value) (Q:St->Hp->Prop),Inv X pins b H s->Vals c d->t c b H Q ->
  wpAny (model X.prog X.w) X.A (assignInOrder ((assignEach f X.env).map (·.2)) d) (λ_ g=>∃a e,Inv X pins a e g/\Q a e) X.xe s
abbrev Ms:=V->V->V->Hp->(Hp->Prop)->Prop
def Mt(X:Cx)(t:Ms):Prop:=
 ∀(pins:List (Addr×Obj)) (s:Shared) (a:St) (H:Hp) (o i v:V) (b c u:Value) (Q:Hp->Prop),Inv X pins a H s->RelV o b->RelV i c->RelV v u->t o i v H Q ->
  wpAny (model X.prog X.w) X.A (setItem b c u) (λ_ e=>∃d,Inv X pins a d e/\Q d) X.xe s
section
variable{X:Cx}{pos:Pos}
noncomputable def iq(i:Nat):TG:=λv a H Q=>Q (a.set i (some v)) H
theorem j7{i:Nat}{x:Str}(a:X.N.Nodup)(b:X.N[i]?=some x)(c:Loc X.env.scope x)(d:X.fn x=true\/X.env.scope.names.lookup x=some .local:=by first|exact .inl rfl|exact .inr rfl|assumption):PG X (.Name x pos) (iq i):=by
 intro pins s f H v u Q I r h;exact wpAny_assign_Name (ip I a b c r (λg e=>⟨_,H,e,h⟩) d)
noncomputable def Hl:DG:=λa b H Q=>a=[]/\Q b H
noncomputable def DH(t:TG)(u:DG):DG:=λb c H Q=>∃v r,b=v::r/\t v c H λa d=>u r a d Q
theorem AR:Hk X [] Hl:=by
 intro pins s a H b c Q I r h;obtain⟨e,h⟩:=h;exact assignInOrder_nil ⟨a,H,I,h⟩
theorem wU{e:Expr}{a:List Expr}{t:TG}{u:DG}(b:PG X e t)(c:Hk X a u)
  (d:(assignEach (e::a) X.env).map (·.2)=assign e X.env::(assignEach a X.env).map (·.2):=by rfl):Hk X (e::a) (DH t u):=by
 intro pins s f H k l Q I r h;obtain⟨v,vr,g,h⟩:=h;subst g;cases r with
 |cons r i=>
  rw[d];refine assignInOrder_cons (cu (b _ s f H _ _ _ I r h) λ_ j ⟨_,H1,I1,q1⟩=>c _ j _ H1 _ _ Q I1 i q1)
noncomputable def AS(K:PySem.W.Frag)(n:Nat)(t:DG):TG:=λv c H Q=>∃a b,v=.ref a/\rn K H a b/\b.length=n/\t b c H Q
theorem EA{c:List Expr}{k:Nat}{t:DG}{n:Nat}(g:X.calm=true)(h:Hk X c t)
  (i:(assignEach c X.env).length=n:=by rfl) (d:(assignEach c X.env).findIdx? (·.1)=none:=by rfl):PG X (.Tuple c k pos) (AS X.K n t):=by
 intro pins s j H v u Q I r f;obtain⟨a,l,m,p,q,f⟩:=f;subst m;cases r;obtain⟨w,x,y,A⟩:=I.tuple p;refine assign_Tuple_tuple (I.ok.hd g) y (by simp[i,←q,x.length]) d λB z=>?_
 exact h _ _ j H l _ Q (I.kept (t':=s.toks) λb o e=>z b o (Nat.ne_of_lt (Heap.lt_size e)) e) (by grind) f
noncomputable def EB(b:TE)(g:TG):TS:=λD a H=>b a H λx c=>g x a c D.nx
theorem EC{a e:Expr}{b:TE}{g:TG}(d:PE X e b)(f:PG X a g)(i:swapsWithSole [a] e pos.line X.env=pure false:=by rfl)(j:swappedStores [a] e X.env=pure none:=by rfl)
  (k:(assignEach [a] X.env).map (·.2)=[assign a X.env]:=by rfl):PS X (.Assign [a] e pos) (EB b g):=by
 intro pins s c H D I h;refine wpAny_Assign_stores (cu (d _ s c H _ I h) λv l ⟨x,H1,I1,r1,q1⟩=>?_) i j
 rw[k];exact cu (f _ l c H1 x v _ I1 r1 q1) λ_ m q=>q
theorem ED{i:Nat}{x:Str}{e:Expr}{b:TE}{a:Pos}(c:X.N.Nodup)(d:X.N[i]?=some x)(f:Loc X.env.scope x)(g:PE X e b)(j:swapsWith e (some (.Name x a)) pos.line X.env=pure false:=by rfl)(k:X.fn x=true\/X.env.scope.names.lookup x=some .local:=by first|exact .inl rfl|exact .inr rfl|assumption) :
  PS X (.Assign [.Name x a] e pos) (EB b (iq i)):=by
 intro pins s l H D I h;refine wpAny_Assign_Name (cu (g _ s l H _ I h) λv r ⟨y,m,n,o,p⟩=>ip n c d f o (λt q=>⟨_,m,q,p⟩) k) j
noncomputable def EG(c:TT)(tb:TS):TS:=λD a H=>∃W:Nat->St->Hp->Prop,(∃m,W m a H)/\∀m a H,W m a H ->
 c a H λb e=>if b=true then ∃N:St->Hp->Prop,(∀d f,N d f->∃g,g<m/\W g d f)/\tb {D with nx:=N,ct:=N,bk:=D.nx} a e else D.nx a e
theorem wV{c:Expr}{body:List Stmt}{q:TT}{tb:TS}(r:PassesOwn (model X.prog X.w) X.A X.env X.xe)(z:PT X c q)(B:gb X body tb):PS X (.While c body [] pos) (EG q tb):=by
 intro pins s C H D I h;obtain⟨W,⟨E,F⟩,a⟩:=h;refine wpAny_While (codeAny_whileLoop (λn G=>∃d t,Inv X _ d t G/\W n d t) ?_ E ⟨C,H,I,F⟩)
 rintro n J ⟨K,u,L,M⟩;refine wpAny_passesOwn r (cu (z _ J _ u _ L (a n _ u M)) λb O ⟨x,I2,g⟩=>?_)
 cases b with
 |true=>
  obtain⟨N,y,g⟩:=g;refine wpAny_passesOwn r (cu (B _ O _ x _ I2 g) λf P i=>?_)
  cases f with
  |next=>
   obtain⟨j,e,k,l⟩:=i;obtain⟨m,o,p⟩:=y _ e l;exact⟨m,o,_,e,k,p⟩
  |cont=>
   obtain⟨j,e,k,l⟩:=i;obtain⟨m,o,p⟩:=y _ e l;exact⟨m,o,_,e,k,p⟩
  |brk=>exact i
  |ret v=>exact i
 |false=>
  exact wpAny_execs_nil ⟨_,x,I2,g⟩
end
structure It where
 go:Nat->Hp->Prop
 Ks:Nat->Hp->V->Hp->Prop
 stop:Nat->Hp->Prop
def l6(X:Cx)(pins:List (Addr×Obj))(H:Hp)(b:Addr):Prop:=
 H b=none/\b≠X.env.locals/\b∉X.fs/\(b∈X.ex\/X.s₀.heap.objs.size<=b)/\(∀x c,X.env.cells.lookup x=some c->c≠b)/\∀p∈X.pn++pins,p.1≠b
theorem Inv.u7{X:Cx}{pins:List (Addr×Obj)}{σ:St}{H d:Hp}{s:Shared}{b:Addr}(I:Inv X pins σ H s)(a:s.heap.objs.size<=b)(f:d b=none):l6 X pins d b:=by
 refine⟨f,Nat.ne_of_gt (Nat.lt_of_lt_of_le I.lt a),I.Mj a,.inr (Nat.le_trans I.sz a),λx c e z=>?_,λp g z=>?_⟩
 .obtain⟨v,q⟩:=I.cell x c e
  exact absurd (Nat.lt_of_lt_of_le q.lt (by rwa[z])) (Nat.lt_irrefl _)
 .exact absurd (Nat.lt_of_lt_of_le (Heap.lt_size (I.pin p g).1) (by rwa[z])) (Nat.lt_irrefl _)
structure Turn(P:Program)(w:World)(K:PySem.W.Frag)(tg:Expr)(J:It)(fp:List Addr)(it:Addr)(tn:Nat->Heap->Prop):Prop where
 mem:it∈fp
 obj:∀i h,tn i h->∀b∈fp,∃o,h.get? b=some o/\∀v,o.data≠.cell v
 keep:∀i h h',tn i h->(∀b∈fp,∀o,h.get? b=some o->h'.get? b=some o)->tn i h'
 item:∀(X:Cx),X.prog=P->X.w=w->X.K=K->X.calm=true->∀(i:Nat) (pins:List (Addr×Obj)) (s:Shared) (σ:St) (H:Hp) (E:Value->Shared->Prop),Inv X pins σ H s->(∀b∈fp,l6 X pins H b)->tn i s.heap->J.go i H ->
  wpAny (model P w) X.A (pyNext (.ref it)) (λr s1=>∃u,r=some u /\
   wpAny (model P w) X.A (letOwnedTupleGo tg (.ref it) u) (λ_ s2=>∃x H',Inv X pins σ H' s2/\RelV x u/\J.Ks i H x H'/\tn (i+1) s2.heap/\∀b∈fp,H' b=none) E s1) E s
 done:∀(X:Cx),X.prog=P->X.w=w->X.K=K->X.calm=true->∀(i:Nat) (pins:List (Addr×Obj)) (s:Shared) (σ:St) (H:Hp) (E:Value->Shared->Prop),Inv X pins σ H s->(∀b∈fp,l6 X pins H b)->tn i s.heap->J.stop i H ->
  wpAny (model P w) X.A (pyNext (.ref it)) (λr s1=>r=none/\Inv X pins σ H s1) E s
 self:∀(A:Around) (i:Nat) (s:Shared) (Q:Value->Shared->Prop) (E:Value->Shared->Prop),tn i s.heap->Q (.ref it) s->wpAny (model P w) A (pyIter (.ref it)) Q E s
abbrev TI:=St->Hp->(It->Hp->Prop)->Prop
def PIE(X:Cx)(pins:List (Addr×Obj))(σ:St)(h:Expr)(R:It->Hp->Prop)(a:Value)(d:Shared):Prop:=
 ∃(e:Addr) (f:List Addr) (g:Nat->Heap->Prop) (J:It) (c:Hp),a=.ref e/\Inv X pins σ c d/\Turn X.prog X.w X.K h J f e g/\g 0 d.heap/\(∀b∈f,l6 X pins c b)/\R J c
def PI(X:Cx)(b iter:Expr)(c:TI):Prop:=
 ∀(pins:List (Addr×Obj)) (s:Shared) (a:St) (H:Hp) (R:It->Hp->Prop),Inv X pins a H s->c a H R ->
  wpAny (model X.prog X.w) X.A (eval iter X.env) (λv d=>wpAny (model X.prog X.w) X.A (pyIter v) (PIE X pins a b R) X.xe d) X.xe s
theorem mE{M:Model}{A:Around}{E:Value->Shared->Prop}{s:Shared}{b:Expr}{it:Addr}{u:Value}{o:Obj}{n:String}{vs:Array Value}{Q:Unit->Shared->Prop}(c:s.heap.get? it=some o)(d:o.cls=.type n)(e:o.data=.fields vs)
    (f:["enumerate","zip","dict_itemiterator","dict_reverseitemiterator","odict_iterator","itertools.zip_longest","itertools.pairwise"].contains n=false) (a:Q () s):wpAny M A (letOwnedTupleGo b (.ref it) u) Q E s:=by
  cases b<;>first
    |exact wpAny_pure a
    | (cases u<;>first
        |exact wpAny_pure a
        | (refine wpAny_bind (wpAny_load c ?_)
           rw[d,e]
           show wpAny M A (if (["enumerate","zip","dict_itemiterator","dict_reverseitemiterator","odict_iterator","itertools.zip_longest","itertools.pairwise"].contains n&&vs[0]?==some _)=true then _ else _) Q E s
           rw[if_neg (by grind)]
           exact wpAny_pure a))
noncomputable def Mu(K:PySem.W.Frag)(a:Addr):It:=
 ⟨λi H=>∃b x,lX K H a b/\b[i]?=some x,λi H x c=>c=H/\∀b,lX K H a b->b[i]?=some x,λi H=>∃b,lX K H a b/\b.length<=i⟩
noncomputable def Mv(K:PySem.W.Frag)(a:Addr):It:=
 ⟨λi H=>∃b x,rn K H a b/\b[i]?=some x,λi H x c=>c=H/\∀b,rn K H a b->b[i]?=some x,λi H=>∃b,rn K H a b/\b.length<=i⟩
noncomputable def Hm(a:Int)(n:Nat):It:=⟨λi _=>i<n,λi H x b=>b=H/\x=.int (a+i),λi _=>n<=i⟩
theorem u9{P:Program}{w:World}{K:PySem.W.Frag}{M:Expr}(a it:Addr):Turn P w K M (Mu K a) [it] it (λi h=>h.IsListIter it a i) where
 mem:=by simp
 obj:=λi h f b g=>by
  obtain⟨o,e,c,d⟩:=f
  simp_all
 keep:=λi h G f k=>f.at λo e=>k it (by simp) o e
 item:=by
  intro X n q r J i pins s N H E I l f t;subst n q r;obtain⟨O,x,m,L⟩:=t;obtain⟨y,z,p,Q⟩:=I.list m;obtain⟨u,R,S⟩:=z.get L;obtain⟨A,B,T,C,D,F⟩:=l it (by simp)
  refine wpAny_pyNext_list_item f p.isList (by simpa using R) λG j U=>?_
  obtain⟨o,e,c,d⟩:=id j;exact⟨u,rfl,mE e c d (by decide) ⟨x,H,(I.turned (λb o g e=>(U.2 b g).trans e) A B C D F),S,⟨rfl,λZ V=>by rwa[I.pv V m]⟩,j,λb g=>(l b g).1⟩⟩
 done:=by
  intro X n q r J i pins s N H E I l f t;subst n q r;obtain⟨O,m,L⟩:=t;obtain⟨y,z,p,Q⟩:=I.list m;obtain⟨A,B,T,C,D,F⟩:=l it (by simp)
  have hl:=z.length;exact wpAny_pyNext_list_end (I.ok.hd J) f p.isList (by simp;omega) λG Y=>⟨rfl,I.turned (λb o g e=>Y b o g e) A B C D F⟩
 self:=λ_ _ _ _ _ f h=>wpAny_pyIter_listiter f h
theorem ro{P:Program}{w:World}{K:PySem.W.Frag}{M:Expr}(a it:Addr):Turn P w K M (Mv K a) [it] it (λi h=>h.IsTupleIter it a i) where
 mem:=by simp
 obj:=λi h f b j=>by
  obtain⟨o,e,c,d⟩:=f
  grind
 keep:=λi h G f k=>f.at (by grind)
 item:=by
  intro X m n q J i pins s N H E I r f t;subst m n q;obtain⟨O,x,l,L⟩:=t;obtain⟨y,z,p,Q⟩:=I.tuple l;obtain⟨u,R,S⟩:=z.get L;obtain⟨A,B,T,C,D,F⟩:=r it (by simp)
  refine wpAny_pyNext_tuple_item f (p) (by simpa using R) λG g U=>?_
  obtain⟨o,e,c,d⟩:=id g;exact⟨u,rfl,mE e c d (by decide) ⟨x,H,(I.turned (t':=s.toks) (λb o j e=>(U.2 b j).trans e) A B C D F),S,⟨rfl,λZ V=>by rwa[I.u5 V l]⟩,g,by grind⟩⟩
 done:=by
  intro X m n q J i pins s N H E I r f t;subst m n q;obtain⟨O,l,L⟩:=t;obtain⟨y,z,p,Q⟩:=I.tuple l;obtain⟨A,B,T,C,D,F⟩:=r it (by simp)
  have hl:=z.length;exact wpAny_pyNext_tuple_end (I.ok.hd J) f (p) (by simp;omega) λG Y=>⟨rfl,I.turned (λb o j e=>Y b o j e) A B C D F⟩
 self:=λ_ _ _ _ _ f h=>wpAny_pyIter_tupleiter f h
theorem rr{P:Program}{w:World}{K:PySem.W.Frag}{B:Expr}(it:Addr)(d:Int)(n:Nat):Turn P w K B (Hm d n) [it] it (λi h=>IsRangeIter h it (d+(i:Nat)*1) ((n:Int) - (i:Nat)) 1) where
 mem:=by simp
 obj:=λi h a b f=>by
  grind
 keep:=λi h x a k=>k it (by simp) _ a
 item:=by
  intro X y z A g i pins s C H E I j a l;subst y z A;obtain⟨m,p,D,q,r,u⟩:=j it (by simp)
  have W:=Walks.range (prog:=X.prog) (w:=X.w) (I.ok.hd g) it d 1 n;refine W.item i s _ _ l a λv x L F c G=>?_
  obtain⟨t,rfl⟩:=F;refine⟨_,rfl,mE c rfl rfl (by decide) ⟨.int _,H,(I.turned (λb o f e=>G b o (by grind) e) m p q r u),⟨t,?_⟩,⟨rfl,rfl⟩,c,by grind⟩⟩
  grind
 done:=by
  intro X y z A g i pins s C H E I j a l;obtain⟨m,p,D,q,r,u⟩:=j it (by simp)
  exact wpAny_pyNext_range_end (I.ok.hd g) a (by have:n<=i:=l;omega) λx J=>⟨rfl,I.turned (λb o f e=>J b o f e) m p q r u⟩
 self:=λ_ _ _ _ _ a h=>wpAny_pyIter_rangeiter a h
section
variable{X:Cx}{tg:Expr}
theorem pw{pins:List (Addr×Obj)}{σ:St}{H:Hp}{s:Shared}{R:It->Hp->Prop}{E:Value->Shared->Prop}{a c:Int}{t u v:Tok}{tk:Nat}(I:Inv X pins σ H s)(f : -(2 ^ 62)<=a)(g:a<2 ^ 62)(h : -(2 ^ 62)<=c)(i:c<2 ^ 62)
  (q:R (Hm a (c - a).toNat) H):wpAny (model X.prog X.w) X.A (pyIter (.ref s.heap.objs.size)) (PIE X pins σ tg R) E {s with heap:=s.heap.push {cls:=.type "range",data:=.fields #[.int a t,.int c u,.int 1 v]},toks:=tk}:=by
 refine wpAny_pyIter_range (IsRange.new ..) (small_one f g h i) ?_;have d:Inv X _ σ H {s with heap:=s.heap.push {cls:=.type "range",data:=.fields #[.int a t,.int c u,.int 1 v]},toks:=tk}:=I.kept λb o e=>Heap.get?_push_of_some _ e
 refine⟨_,_,_,_,H,rfl,
  d.kept λb o e=>Heap.get?_push_of_some _ e,rr _ a _,?_,λb l=>?_,q⟩
 .have j:a+((0:Nat))*1=a:=by simp
  have k:(((c - a).toNat)) - ((0:Nat))=Builtin.Range.rangeSize a c 1:=by rw[rangeSize_one];grind
  rw[j,k];exact Heap.get?_push_size _ rfl
 .have e:b=(s.heap.push {cls:=.type "range",data:=.fields #[.int a t,.int c u,.int 1 v]}).objs.size:=by grind
  subst e;exact d.u7 (Nat.le_refl _) (d.hok.fresh (Nat.le_refl _))
def Hn(a:TA):TI:=λb H R=>a b H λc d=>∃j:Int,c=[.int j] /\ -(2 ^ 62)<=j/\j<2 ^ 62/\R (Hm 0 j.toNat) d
def Ho(a:TA):TI:=λb H R=>a b H λc d=>∃i j:Int,c=[.int i,.int j]/\(-(2 ^ 62)<=i/\i<2 ^ 62 /\ -(2 ^ 62)<=j/\j<2 ^ 62)/\R (Hm i (j - i).toNat) d
theorem u_{a:Expr}{c:TA}{p pos:Pos}(d:Gl X "range")(f:X.mg "range"=none)(g:PA X [a] c)(i:starEach [a] X.env=[(false,eval a X.env)]:=by rfl):PI X tg (.Call (.Name "range" p) [a] [] pos) (Hn c):=by
 intro pins s k H R I h;refine Call_ (fH I d f boot_range (PyProof.Rows.callWith_type1 (cu (g _ _ s k H _ I h) λo u ⟨w,H1,I1,l,b⟩=>?_) i rfl))
 obtain⟨j,e,b,m,q⟩:=b;subst e;cases l with
 |cons r n=>
  cases n;obtain⟨t,rfl⟩:=r;exact call_range_1 (pw I1 (by omega) (by omega) b m (by simp_all))
theorem va{a b:Expr}{g:TA}{p pos:Pos}(k:Gl X "range")(l:X.mg "range"=none)(m:PA X [a,b] g)(z:starEach [a,b] X.env=[(false,eval a X.env),(false,eval b X.env)]:=by rfl)(c:starEach [b] X.env=[(false,eval b X.env)]:=by rfl) :
  PI X tg (.Call (.Name "range" p) [a,b] [] pos) (Ho g):=by
 intro pins s n H R I h;refine Call_ (fH I k l boot_range (PyProof.Rows.callWith_type1 (cu (m _ _ s n H _ I h) λA B ⟨C,H1,I1,o,d⟩=>?_) (by simp_all) (by rw[c];rfl)))
 obtain⟨i,j,e,⟨d,u,w,x⟩,q⟩:=d;subst e;cases o with
 |cons r f=>
  cases f with
  |cons y f=>
   cases f;obtain⟨t,rfl⟩:=r;obtain⟨D,rfl⟩:=y;exact call_range_2 (pw I1 d u w x q)
noncomputable def Mw(f:TI)(g:TG)(tb:TS):TS:=λD a H=>f a H λJ h=>∃W:Nat->Nat->St->Hp->Prop,(∃m,W 0 m a h)/\∀i m a H,W i m a H ->
 (J.stop i H/\D.nx a H)\/(J.go i H/\∃N:St->Hp->Prop,(∀b c,N b c->∃e,e<m/\W (i+1) e b c)/\∀x c,J.Ks i H x c->g x a c λd j=>tb {D with nx:=N,ct:=N,bk:=D.nx} d j)
noncomputable def kA(fp:List Addr)(h:Heap):List (Addr×Obj):=fp.filterMap λb=>(h.get? b).map λo=>(b,o)
theorem fJ{fp:List Addr}{h:Heap}{b:Addr}{o:Obj}(a:b∈fp)(e:h.get? b=some o):(b,o)∈kA fp h:=List.mem_filterMap.mpr ⟨b,a,by rw[e];rfl⟩
theorem vb{fp:List Addr}{h:Heap}{p:Addr×Obj}(a:p∈kA fp h):p.1∈fp/\h.get? p.1=some p.2:=by
 obtain⟨b,c,e⟩:=List.mem_filterMap.mp a;cases q:h.get? b with
 |none=>grind
 |some o=>
  grind
theorem Inv.pinned{pins:List (Addr×Obj)}{σ:St}{H:Hp}{s:Shared}{fp:List Addr}(I:Inv X pins σ H s)(c:∀b∈fp,l6 X pins H b)(f:∀b∈fp,∃o,s.heap.get? b=some o/\∀v,o.data≠.cell v):Inv X (pins++kA fp s.heap) σ H s:=
 I.sX λp g=>(List.mem_append.mp g).elim (λz=>I.pin p (List.mem_append_right _ z)) λz=>by
  obtain⟨a,e⟩:=vb z;obtain⟨h,i,j,_⟩:=c _ a;obtain⟨o,k,d⟩:=f _ a
  simp_all
theorem Inv.ir{pins pl:List (Addr×Obj)}{σ:St}{H:Hp}{s:Shared}(I:Inv X (pins++pl) σ H s):Inv X pins σ H s:=I.sX λp a=>I.pin p (List.mem_append_right _ (List.mem_append_left _ a))
theorem EH{iter:Expr}{body:List Stmt}{R:TI}{g:TG}{tb:TS}{pos:Pos}(z:PassesOwn (model X.prog X.w) X.A X.env X.xe)(S:X.calm=true)(hi:PI X tg iter R)(hg:PG X tg g)(c:gb X body tb)
  (hs:∀x,foldedSetIterable iter X.env x=pure x:=by intro _;rfl):PS X (.For tg iter body [] pos) (Mw R g tb):=by
 intro pins s U H D I h;refine wpAny_For (cu (hi pins s U H _ I h) λv s1 h1=>cu h1 λa0 s2 h2=>?_) hs
 obtain⟨it,B,V,J,H2,e,I2,T,L,Y,W,⟨m0,w0⟩,C⟩:=h2;subst e;have j:∀{t:Hp},(∀b∈B,t b=none)->∀b∈B,l6 X pins t b:=λhn b c=>⟨hn b c,(Y b c).2⟩
 refine codeAny_forLoop_any (λn Z=>∃i k t,Inv X pins k t Z/\V i Z.heap/\(∀b∈B,t b=none)/\W i n k t) ?_ m0 ⟨0,U,H2,I2,L,λb c=>(Y b c).1,w0⟩
 rintro n s3 ⟨i,l,K,I3,E,F,w3⟩;rcases C i n l K w3 with ⟨stop,qn⟩|⟨go,N,hN,step⟩
 .refine wpAny_passesOwn z (cu (T.done X rfl rfl rfl S i pins s3 l K X.xe I3 (j F) E stop) λr s4 ⟨M,I4⟩=>?_)
  subst M;exact wpAny_execs_nil ⟨l,K,I4,qn⟩
 .refine wpAny_passesOwn z (cu (T.item X rfl rfl rfl S i pins s3 l K X.xe I3 (j F) E go) λr s4 ⟨u,M,h4⟩=>?_)
  subst M;refine wpAny_passesOwn z (cu h4 λ_ s5 ⟨x,H5,I5,r5,y5,Mx,Qk⟩=>?_)
  have O:=I5.pinned (j Qk) (T.obj _ _ Mx);refine wpAny_passesOwn z (cu (hg _ s5 l H5 x u _ O r5 (step x H5 y5)) λ_ s6 ⟨P,H6,I6,q6⟩=>?_)
  refine wpAny_passesOwn z (cu (c _ s6 P H6 _ I6 q6) λf Q y=>?_)
  have again:∀{a:St}{p:Hp},Inv X (pins++kA B s5.heap) a p Q->N a p->∃m,m<n/\∃i k t,Inv X pins k t Q/\V i Q.heap/\(∀b∈B,t b=none)/\W i m k t:=λ{a p} q G=>by
   obtain⟨m',hm,w7⟩:=hN a p G;refine⟨m',hm,i+1,a,p,q.ir,T.keep _ _ _ Mx λb c o e=>(q.pin (b,o) (List.mem_append_right _ (List.mem_append_right _ (fJ c e)))).1,λb c=>?_,w7⟩
   obtain⟨o,e,d⟩:=T.obj _ _ Mx b c;exact(q.pin (b,o) (List.mem_append_right _ (List.mem_append_right _ (fJ c e)))).2.1
  cases f with
  |next=>obtain⟨a,p,q,G⟩:=y;exact again q G
  |cont=>obtain⟨a,p,q,G⟩:=y;exact again q G
  |brk=>obtain⟨a,p,q,y⟩:=y;exact⟨a,p,q.ir,y⟩
  |ret v=>obtain⟨x7,a,p,q,r7,y⟩:=y;exact⟨x7,a,p,q.ir,r7,y⟩
end
abbrev R2:=V->V->Hp->VK->Prop
def hY(X:Cx)(f:Value->Value->Sem Value)(r:R2):Prop:=
 ∀(pins:List (Addr×Obj)) (s:Shared) (a:St) (H:Hp) (x y:V) (v u:Value) (Q:VK),Inv X pins a H s->RelV x v->RelV y u->r x y H Q ->
  wpAny (model X.prog X.w) X.A (f v u) (EP X pins a Q) X.xe s
def My(X:Cx)(f:Value->Sem Value)(r:V->Hp->VK->Prop):Prop:=
 ∀(pins:List (Addr×Obj)) (s:Shared) (a:St) (H:Hp) (x:V) (v:Value) (Q:VK),Inv X pins a H s->RelV x v->r x H Q ->
  wpAny (model X.prog X.w) X.A (f v) (EP X pins a Q) X.xe s
def d_(X:Cx)(f:Value)(r:List V->Hp->VK->Prop):Prop:=
 ∀(pins:List (Addr×Obj)) (s:Shared) (a:St) (H:Hp) (b:List V) (c:List Value) (Q:VK),Inv X pins a H s->Vals b c->r b H Q ->
  wpAny (model X.prog X.w) X.A (call f c) (EP X pins a Q) X.xe s
def Mz(X:Cx)(r:V->Hp->(Bool->Hp->Prop)->Prop):Prop:=
 ∀(pins:List (Addr×Obj)) (s:Shared) (a:St) (H:Hp) (x:V) (v:Value) (Q:Bool->Hp->Prop),Inv X pins a H s->RelV x v->r x H Q ->
  wpAny (model X.prog X.w) X.A (truthy v) (TP X pins a Q) X.xe s
noncomputable def EI(r:R2)(b tb:TE):TE:=λa H Q=>b a H λx c=>tb a c λy d=>r x y d Q
noncomputable def Ql(r:V->Hp->VK->Prop)(a:TE):TE:=λb H Q=>a b H λx c=>r x c Q
noncomputable def rI(C:Int->Int->Prop)(g:Int->Int->V):R2:=λx y H Q=>∃i j,x=.int i/\y=.int j/\C i j/\Q (g i j) H
noncomputable def AU(g:Int->Int->V):R2:=λx y H Q=>∃i j,x=.int i/\y=.int j/\Q (g i j) H
def rU(g:Int->V):V->Hp->VK->Prop:=λx H Q=>∃i,x=.int i/\Q (g i) H
section
variable{X:Cx}{a b c:Expr}{ta tb tc:TE}{pos:Pos}
theorem EJ(j:PE X a ta)(k:PE X b tb){pins:List (Addr×Obj)}{s:Shared}{σ:St}{H:Hp}{R:V->V->Hp->Prop}(I:Inv X pins σ H s)
  (h:ta σ H λx i=>tb σ i λy c=>R x y c) {Q:Value->Shared->Prop}{f:Value->Value->Sem Value}
  (l:∀v u g x y c,Inv X pins σ c g->RelV x v->RelV y u->R x y c->wpAny (model X.prog X.w) X.A (f v u) Q X.xe g) :
  wpAny (model X.prog X.w) X.A (eval a X.env) (λv d=>wpAny (model X.prog X.w) X.A (eval b X.env) (λu e=>wpAny (model X.prog X.w) X.A (f v u) Q X.xe e) X.xe d) X.xe s:=by
 refine cu (j _ s σ H _ I h) λv m ⟨x,i,I1,r1,q1⟩=>?_
 refine cu (k _ m σ i _ I1 q1) λu g ⟨y,c,I2,r2,q2⟩=>l v u g x y c I2 r1 r2 q2
theorem wW{op:Operator}{r:R2}(c:hY X (binaryOp op) r)(d:PE X a ta)(e:PE X b tb):PE X (.BinOp a op b pos) (EI r ta tb):=by
 intro pins s f H Q I h;exact wpAny_BinOp (EJ d e I h λv u g x y i j k l q=>c _ g f i x y v u Q j k l q)
theorem Hq{op:UnaryOp}{r:V->Hp->VK->Prop}(c:My X (unaryOp op) r)(d:PE X a ta):PE X (.UnaryOp op a pos) (Ql r ta):=by
 intro pins s b H Q I h;exact UnaryOp_ (cu (d _ s b H _ I h) λv e ⟨x,H1,I1,r1,q1⟩=>c _ e b H1 x v Q I1 r1 q1)
theorem Kt{f:Value->Value->Sem Value}{C:Int->Int->Prop}{g:Int->Int->Int}
  (rule:∀(i j:Int) (t u:Tok) (s:Shared) (Q:Value->Shared->Prop) (E:Value->Shared->Prop),C i j->Q (.int (g i j) s.toks) {s with toks:=s.toks+1}->wpAny (model X.prog X.w) X.A (f (.int i t) (.int j u)) Q E s) :
  hY X f (rI C λi j=>.int (g i j)):=by
 intro pins s e H x y v u Q I a b h;obtain⟨i,j,rfl,rfl,c,q⟩:=h;obtain⟨t,rfl⟩:=a;obtain⟨d,rfl⟩:=b;exact rule i j t d s _ _ c ⟨.int _,H,I.tok _,⟨_,rfl⟩,q⟩
theorem Hr{f:Value->Value->Sem Value}{g:Int->Int->Int}
  (rule:∀(i j:Int) (t u:Tok) (s:Shared) (Q:Value->Shared->Prop) (E:Value->Shared->Prop),Q (.int (g i j) s.toks) {s with toks:=s.toks+1}->wpAny (model X.prog X.w) X.A (f (.int i t) (.int j u)) Q E s) :
  hY X f (AU λi j=>.int (g i j)):=by
 intro pins s d H x y v u Q I a b h;obtain⟨i,j,rfl,rfl,q⟩:=h;obtain⟨t,rfl⟩:=a;obtain⟨c,rfl⟩:=b;exact rule i j t c s _ _ ⟨.int _,H,I.tok _,⟨_,rfl⟩,q⟩
theorem AV{f:Value->Value->Sem Value}{g:Int->Int->Bool}
  (rule:∀(i j:Int) (t u:Tok) (s:Shared) (Q:Value->Shared->Prop) (E:Value->Shared->Prop),Q (.bool (g i j)) s->wpAny (model X.prog X.w) X.A (f (.int i t) (.int j u)) Q E s) :
  hY X f (AU λi j=>.bl (g i j)):=by
 intro pins s d H x y v u Q I a b h;obtain⟨i,j,rfl,rfl,q⟩:=h;obtain⟨t,rfl⟩:=a;obtain⟨c,rfl⟩:=b;exact rule i j t c s _ _ ⟨.bl _,H,I,rfl,q⟩
def Hs(i j:Int):Prop:=0<j/\j<1073741824
def Ht(i j:Int):Prop:=0<=j/\j<=1000000/\i.natAbs<2 ^ 64
def AW(i j:Int):Prop:=(-(2 ^ 64)<i/\i<2 ^ 64)\/(-(2 ^ 64)<j/\j<2 ^ 64)
theorem AW.ok{i j:Int}(h:AW i j):IntMulOk i j:=by
 rcases h with ⟨a,b⟩|⟨a,b⟩
 .exact .of_left (intBits_le_64 a b)
 .exact .of_right (intBits_le_64 a b)
theorem EK:hY X (binaryOp .Add) (AU λi j=>.int (i+j)):=Hr λ_ _ _ _ _ _ _ q=>add_int q
theorem EL:hY X (binaryOp .Sub) (AU λi j=>.int (i - j)):=Hr λ_ _ _ _ _ _ _ q=>sub_int q
theorem EO:hY X (binaryOp .Mult) (rI AW λi j=>.int (i*j)):=Kt λ_ _ _ _ _ _ _ a q=>mul_int q a.ok
theorem AX:hY X (binaryOp .FloorDiv) (rI Hs λi j=>.int (i / j)):=Kt λi j _ _ _ _ _ a q=>by
 have b:=a.1;have c:=a.2;exact floordiv_int (by omega) (by rwa[Int.fdiv_eq_ediv_of_nonneg i (by omega)]) (.inl (PyProof.noPylong_small (by omega)))
theorem ER:hY X (binaryOp .Mod) (rI (λ_ j=>0<j) λi j=>.int (i%j)):=Kt λi j _ _ _ _ _ a q=>by
 exact mod_int' (by omega) (by rwa[Int.fmod_eq_emod_of_nonneg i (by omega)])
theorem ES:hY X (binaryOp .Pow) (rI Ht λi j=>.int (i ^ j.toNat)):=Kt λ_ _ _ _ _ _ _ a q=>pow_int_small a.1 a.2.1 a.2.2 q
theorem Qm{f:Value->Sem Value}{g:Int->Int}
  (rule:∀(i:Int) (t:Tok) (s:Shared) (Q:Value->Shared->Prop) (E:Value->Shared->Prop),Q (.int (g i) s.toks) {s with toks:=s.toks+1}->wpAny (model X.prog X.w) X.A (f (.int i t)) Q E s) :
  My X f (rU λi=>.int (g i)):=by
 intro pins s b H x v Q I a h;obtain⟨i,rfl,q⟩:=h;obtain⟨t,rfl⟩:=a;exact rule i t s _ _ ⟨.int _,H,I.tok _,⟨_,rfl⟩,q⟩
theorem EU:My X (unaryOp .USub) (rU λi=>.int (-i)):=Qm λ_ _ _ _ _ q=>neg_int q
theorem nK{pins:List (Addr×Obj)}{σ:St}{H:Hp}{s:Shared}{Q:VK}{k a:Bool}(I:Inv X pins σ H s)(q:Q (.bl k) H)(e:k=a):EP X pins σ Q (.bool a) s:=by
 subst e;exact⟨.bl k,H,I,rfl,q⟩
theorem Hu:hY X (compareOp .Lt) (AU λi j=>.bl (decide (i<j))):=AV λ_ _ _ _ _ _ _ q=>lt_int q
theorem Hv:hY X (compareOp .LtE) (AU λi j=>.bl (decide (i<=j))):=AV λ_ _ _ _ _ _ _ q=>le_int q
theorem Hw:hY X (compareOp .Gt) (AU λi j=>.bl (decide (j<i))):=AV λ_ _ _ _ _ _ _ q=>gt_int q
theorem Hx:hY X (compareOp .GtE) (AU λi j=>.bl (decide (j<=i))):=AV λ_ _ _ _ _ _ _ q=>ge_int q
theorem vd:hY X (compareOp .In) (λx y H Q=>∃i j,x=.str i/\y=.str j/\Q (.bl (!(Builtin.Str.occurrences j i 0 j.length 1).isEmpty)) H):=by
 intro pins s c H x y v u Q I a b h;obtain⟨i,j,rfl,rfl,q⟩:=h;obtain⟨t,rfl⟩:=a;obtain⟨d,rfl⟩:=b;exact in_str (nK I q rfl)
theorem wX:hY X (compareOp .Is) (λx y H Q=>y=.non/\Q (.bl (decide (x=.non))) H):=by
 intro pins s c H x y v u Q I a b h;obtain⟨rfl,q⟩:=h;cases b;refine is_none_gen (nK I q ?_)
 cases x<;>first
  | (obtain⟨t,rfl⟩:=a;rfl)
theorem sZ:hY X (compareOp .IsNot) (λx y H Q=>y=.non/\Q (.bl (!decide (x=.non))) H):=by
 intro pins s c H x y v u Q I a b h;obtain⟨rfl,q⟩:=h;cases b;refine isnot_none_gen (nK I q ?_)
 cases x<;>first
  | (obtain⟨t,rfl⟩:=a;rfl)
theorem nL:hY X (compareOp .NotIn) (λx y H Q=>∃i j,x=.str i/\y=.str j/\Q (.bl (!(!(Builtin.Str.occurrences j i 0 j.length 1).isEmpty))) H):=by
 intro pins s c H x y v u Q I a b h;obtain⟨i,j,rfl,rfl,q⟩:=h;obtain⟨t,rfl⟩:=a;obtain⟨d,rfl⟩:=b;exact notIn_str (nK I q rfl)
theorem hY.or{f:Value->Value->Sem Value}{r a:R2}(h:hY X f r)(e:hY X f a):hY X f (λx y H Q=>r x y H Q\/a x y H Q):=by
 intro pins s b H x y v u Q I c d q;rcases q with q|q
 .exact h _ s b H x y v u Q I c d q
 .exact e _ s b H x y v u Q I c d q
theorem iu{op:CmpOp}{r:R2}(c:hY X (compareOp op) r)(d:PE X a ta)(e:PE X b tb)(f:behindInMarks op b=false):PE X (.Compare a [op] [b] pos) (EI r ta tb):=by
 intro pins s g H Q I h;exact wpAny_Compare1 (EJ d e I h λv u i x y j k l m q=>c _ i g j x y v u Q k l m q) f
noncomputable def DI(t:TE):TT:=λa H Q=>t a H λx b=>∃k,x=.bl k/\Q k b
theorem iv{op:CmpOp}{r:R2}(f:hY X (compareOp op) r)(g:PE X a ta)(i:PE X b tb)(j:behindInMarks op b=false):PT X (.Compare a [op] [b] pos) (DI (EI r ta tb)):=by
 intro pins s d H Q I h
 refine wpAny_isTrue_Compare1 (cu (g _ s d H _ I h) λv l ⟨x,H1,I1,r1,q1⟩=>cu (i _ l d H1 _ I1 q1) λu m ⟨y,H2,I2,r2,q2⟩=>
  cu (f _ m d H2 x y v u _ I2 r1 r2 q2) λc o ⟨z,H3,I3,n,k,e,q3⟩=>?_) j
 subst e;cases n;exact wpAny_truthy_bool ⟨H3,I3,q3⟩
def pA(K:PySem.W.Frag)(x:V)(H:Hp)(k:Bool):Prop:=
 match x with
 |.non=>k=false
 |.bl b=>k=b
 |.int i=>k=(i != 0)
 |.str y=>y.length<=sizeLine/\k=((y.length:Int) != 0)
 |.GQ y=>y.size<=sizeLine/\k=((y.size:Int) != 0)
 |.ref p=>(∃a,lX K H p a/\k=!a.isEmpty)\/(∃a,rn K H p a/\k=!a.isEmpty)\/∃c,H p=some (.dK c)/\k=!c.isEmpty
 |_=>False
theorem rz{κ:Type}{kvs:List (κ×V)}{vs:List (κ×Value)}(r:KV kvs vs):(!vs.isEmpty)=!kvs.isEmpty:=by
 cases r<;>rfl
theorem kB{xs:List V}{a:List Value}(r:Vals xs a):(!a.toArray.isEmpty)=!xs.isEmpty:=by
 cases r<;>simp
theorem gf:(sizeLine:Nat)<2 ^ 63:=by decide
theorem nM:Mz X (λx H Q=>∃k,pA X.K x H k/\Q k H):=by
 intro pins s B H x v Q I g h;obtain⟨k,e,q⟩:=h;have C:=gf;have D:sizeLine=16777216:=sizeLine_eq;cases x with
 |non=>
  cases g;have a:k=false:=e;subst a;exact truthy_none ⟨H,I,q⟩
 |bl b=>
  cases g;have a:k=b:=e;subst a;exact wpAny_truthy_bool ⟨H,I,q⟩
 |int i=>
  obtain⟨t,rfl⟩:=g;have a:k=(i != 0):=e;subst a;exact PySem.P.truthy_int ⟨H,I,q⟩
 |str y=>
  obtain⟨t,rfl⟩:=g;obtain⟨z,a⟩:y.length<=sizeLine/\k=((y.length:Int) != 0):=e;subst a;exact PySem.P.truthy_str (by omega) ⟨H,I.tok _,q⟩
 |GQ y=>
  obtain⟨t,rfl⟩:=g;obtain⟨z,a⟩:y.size<=sizeLine/\k=((y.size:Int) != 0):=e;subst a;exact PySem.W.truthy_bytes (by omega) ⟨H,I.tok _,q⟩
 |ref p=>
  cases g;have a:(∃f,lX X.K H p f/\k=!f.isEmpty)\/(∃f,rn X.K H p f/\k=!f.isEmpty)\/∃c,H p=some (.dK c)/\k=!c.isEmpty:=e;rcases a with ⟨f,j,a⟩|⟨f,j,a⟩|⟨c,j,a⟩
  .subst a
   obtain⟨n,r,o,u⟩:=I.list j;have d:=r.length;exact wpAny_truthy_list o.isList (by simp only[List.size_toArray];omega) ⟨H,I.tok _,by rw[kB r];exact q⟩
  .subst a
   obtain⟨n,r,o,u⟩:=I.tuple j;have d:=r.length;exact truthy_tuple o (by simp only[List.size_toArray];omega) ⟨H,I.tok _,by rw[kB r];exact q⟩
  .subst a
   obtain⟨u,A,l,r,m⟩:c.length<=sizeLine/\(p==sysModules)=false/\∃l,KV c l/\s.heap.DictOf (bW X.prog X.w) p l:=I.hok p _ j;have d:c.length=l.length:=Paired.length r;exact wpAny_truthy_dict A m (by omega) ⟨H,I.tok _,by rw[rz r];exact q⟩
 |_=>exact(show False from e).elim
theorem wY(d:PE X a ta)(e:∀b,isTrue a X.env b=(do let v ←b;standAt a.pos;holding [v] (truthy v))) :
  PT X a (λσ H Q=>ta σ H λx c=>∃k,pA X.K x c k/\Q k c):=by
 intro pins s σ H Q I h;exact isTrue_plain (cu (d _ s σ H _ I h) λv f ⟨x,H1,I1,r1,q1⟩=>nM _ f σ H1 x v Q I1 r1 q1) (e _)
theorem rC:hY X (binaryOp .Add) (λx y H Q=>∃i j,x=.str i/\y=.str j/\i.length+j.length<=sizeLine/\Q (.str (i++j)) H):=by
 intro pins s e H x y v u Q I a b h;obtain⟨i,j,rfl,rfl,c,q⟩:=h;obtain⟨t,rfl⟩:=a;obtain⟨d,rfl⟩:=b;exact add_str (λd f=>⟨.str _,H,I.tok _,⟨_,rfl⟩,q⟩) c
theorem vals1{x:V}{us:List Value}(r:Vals [x] us):∃u,us=[u]/\RelV x u:=by
 cases r with
 |cons a b=>cases b;exact⟨_,rfl,a⟩
theorem vals2{x y:V}{us:List Value}(r:Vals [x,y] us):∃u a,us=[u,a]/\RelV x u/\RelV y a:=by
 cases r with
 |cons b c=>
  cases c with
  |cons d e=>cases e;exact⟨_,_,rfl,b,d⟩
theorem vf(b:X.calm=true):d_ X (.builtin "min") (λxs H Q=>∃i j,xs=[.int i,.int j]/\Q (.int (if j<i then j else i)) H):=by
 intro pins s c H xs d Q I r h;obtain⟨i,j,rfl,q⟩:=h;obtain⟨u,e,rfl,⟨t,rfl⟩,⟨f,rfl⟩⟩:=vals2 r;refine min_two_ints (I.ok.hd b) λg l k=>⟨_,H,I.kept k,?_,q⟩
 by_cases a:j<i
 .rw[if_pos a,if_pos a];exact⟨_,rfl⟩
 .rw[if_neg a,if_neg a];exact⟨_,rfl⟩
end
structure EV(h:Heap)(x dx C:Addr)(mA:Str->Option Value):Prop where
 obj:h.get? x=some (PySem.W.instObj C dx)
 ns:h.Ns1 dx mA
 ne:dx≠x
theorem gF{h:Heap}{c:Addr}{d:Str->Option Value}(n:h.Ns1 c d):∃f,h.get? c=some f/\∀name,PySem.W.lookIn name f=some (d name):=by
 obtain⟨o,g,m,i,j,k,_,l⟩:=n;refine⟨o,i,λname=>?_⟩
 have e:=l name;unfold nsFind findBy at e;rw[←Array.find?_toList]at e;unfold PySem.W.lookIn;rw[j];dsimp only;split
 .grind
 .have a:g.toList.any (·.refKey)=false:=by
   rw[List.any_eq_false];intro y p;obtain⟨z,t,b⟩:=k y (by grind)
   simp[DictEntry.refKey,b]
  grind
theorem EV.look{h:Heap}{x b C:Addr}{c:Str->Option Value}(I:EV h x b C c):∃a,PySem.W.InstAt h x (PySem.W.instObj C b) C (some a)/\∀name,PySem.W.lookIn name a=some (c name):=
 let ⟨a,d,e⟩:=gF I.ns
 ⟨a,⟨I.obj,rfl,rfl,d⟩,e⟩
section
variable{prog:Program}{w:World}{A:Around}{E:Value->Shared->Prop}{s:Shared}{K:PySem.W.Frag}{x dx C f:Addr}{mA:Str->Option Value}{name:Str}{v:Value}
end
theorem hP.some_of{v:V}{o:Option Value}(r:hP (some v) o):∃u,o=some u/\RelV v u:=by
 cases o with
 |none=>exact(r).elim
 |some u=>exact⟨u,rfl,r⟩
theorem vg{v:V}{u:Value}(r:RelV v u):PySem.W.handedIn u=true:=by
 cases v with
 |non=>cases (r);rfl
 |bl b=>cases (r);rfl
 |int i=>obtain⟨t,e⟩:=(r);cases e;rfl
 |str x=>obtain⟨t,e⟩:=(r);cases e;rfl
 |GQ b=>obtain⟨t,e⟩:=(r);cases e;rfl
 |flt b=>obtain⟨t,e⟩:=(r);cases e;rfl
 |ref a=>cases (r);rfl
 |ty n=>cases (r);rfl
section
variable{P:Program}{w:World}{H H':Hp}{h h':Heap}{a C dx:Addr}{fs fs':List (Str×V)}
theorem AY(c:fE P w H h)(e:H a=some (.ins C dx fs)):∃b,EV h a dx C b/\(∀f,hP (fs.lookup f) (b f))/\PySem.Within b (fs.map (·.1))/\fs.length<=1000/\H dx=some (.own a):=by
 obtain⟨d,z,g,i,b,n,r,q⟩:=(c a _ e);exact⟨b,⟨i,n,g⟩,r,q,z,d⟩
end
structure Hy(K:PySem.W.Frag)(C:Addr):Prop where
 pg:PySem.W.plainGet K C Str.empty=true
 hd:PySem.W.hasDictIn K C=true
 po:PySem.W.plainOver K C=true
 sa:PySem.W.findIn K (.ref C) "__setattr__"=some (some (.builtin "object.__setattr__"))
theorem Hy.get{K:PySem.W.Frag}{C:Addr}(c:Hy K C)(f:Str):PySem.W.plainGet K C f=true:=c.pg
def dO(K:PySem.W.Frag)(C:Addr)(f:Str):Prop:=PySem.W.findIn K (.ref C) f=some none
theorem dO.taker{K:PySem.W.Frag}{C:Addr}{f:Str}(n:dO K C f):PySem.W.takerIn K C f=some none:=by
 unfold PySem.W.takerIn;rw[n];rfl
structure Meth(K:PySem.W.Frag)(C:Addr)(m:Str)(f:Addr):Prop where
 at_:PySem.W.findIn K (.ref C) m=some (some (.ref f))
 fn:PySem.W.isFn K (.ref f)=true
 kp:PySem.W.keepIn K (.ref f)=true
section
variable{X:Cx}{pins:List (Addr×Obj)}{σ:St}{H:Hp}{s:Shared}{a C dx:Addr}{fs:List (Str×V)}{f:Str}{v:V}{A:Around}{E:Value->Shared->Prop}
theorem s_{prog:Program}{w:World}{env:Env}{e:Expr}{f:Str}{pos:Pos}{s:Shared}{Q:Value->Shared->Prop}(b:attributeBase e f env (eval e env)=eval e env)
  (h:wpAny (model prog w) A (eval e env) (λo a=>wpAny (model prog w) A (getAttr o f true) Q E a) E s):wpAny (model prog w) A (eval (.Attribute e f pos) env) Q E s:=
 Attribute_any_ h (by rw[arm_eval_Attribute,b])
end
section
variable{X:Cx}{o e value:Expr}{f:Str}{pos pos' tpos:Pos}{ta tv:TE}
end
section
variable{X:Cx}{pins:List (Addr×Obj)}{σ:St}{H:Hp}{s:Shared}{A:Around}{E:Value->Shared->Prop}{Q:Value->Shared->Prop}{c:Value}{b:Bool}
inductive jO (K:PySem.W.Frag) (H:Hp):V->Value->Prop where
 |non:jO K H .non (.type "NoneType")
 |bl (x:Bool):jO K H (.bl x) (.type "bool")
 |int (i:Int):jO K H (.int i) (.type "int")
 |str (x:Str):jO K H (.str x) (.type "str")
 |flt (x:UInt64):jO K H (.flt x) (.type "float")
 |lst {a:Addr}{xs:List V} (e:H a=some (.lst xs)):jO K H (.ref a) (.type "list")
 |cL {a:Addr}{o:Obj}{xs:List V} (e:H a=some (.cL o (.lst xs))):jO K H (.ref a) (.type "list")
 |tup {a:Addr}{xs:List V} (e:H a=some (.tup xs)):jO K H (.ref a) (.type "tuple")
 |dK {a:Addr}{kvs:List (Key×V)} (e:H a=some (.dK kvs)):jO K H (.ref a) (.type "dict")
 |dT {a:Addr}{kvs:List (List Key×V)} (e:H a=some (.dT kvs)):jO K H (.ref a) (.type "dict")
 |ins {a C dx:Addr}{fs:List (Str×V)} (e:H a=some (.ins C dx fs)) (cl:Hy K C) (ha:PySem.W.findIn K (.ref C) "__class__"=some (some (.builtin "object.__class__")))
   (hn:PySem.W.specialIn K (.builtin "object.__class__") "__get__"=some (some (.builtin "getset_descriptor.__get__"))) (htk:PySem.W.takesIn K (.builtin "object.__class__")=some true)
   (hm:PySem.W.mroIn K C (.type "object")=some true):jO K H (.ref a) (.ref C)
theorem cF{x:V}{u t:Value}(I:Inv X pins σ H s)(d:RelV x u)(B:jO X.K H x t)(e:PySem.W.kitOne X.K t c=some b)(h:∀tk,Q (.bool b) {s with toks:=tk}) :
  wpAny (model X.prog X.w) A (call (.builtin "isinstance") [u,c]) Q E s:=by
 cases B with
 |non=>cases (d);exact PySem.W.kia_one PySem.W.kitx_none I.fU True.intro e (λz=>nomatch z) h
 |bl y=>cases (d);exact PySem.W.kia_one PySem.W.kitx_bool I.fU True.intro e (λz=>nomatch z) h
 |int i=>obtain⟨t,q⟩:=(d);cases q;exact PySem.W.kia_one PySem.W.kitx_int I.fU True.intro e (λz=>nomatch z) h
 |str y=>obtain⟨t,q⟩:=(d);cases q;exact PySem.W.kia_one PySem.W.kitx_str I.fU True.intro e (λz=>nomatch z) h
 |flt y=>obtain⟨t,q⟩:=(d);cases q;exact PySem.W.kia_one PySem.W.kitx_float I.fU True.intro e (λz=>nomatch z) h
 |@lst a k f=>
  cases (d);obtain⟨_,_,n,_,g⟩:=(I.hok a _ f);exact PySem.W.kia_one PySem.W.kitx_list I.fU ⟨_,g,rfl⟩ e (λz=>nomatch z) h
 |@cL a N k f=>
  cases (d);obtain⟨_,_,_,n,_,g⟩:=(I.hok a _ f);exact PySem.W.kia_one PySem.W.kitx_list I.fU ⟨_,g,rfl⟩ e (λz=>nomatch z) h
 |@tup a k f=>
  cases (d);obtain⟨_,_,_,p⟩:=(I.hok a _ f);obtain⟨o,g,j,_⟩:=p;exact PySem.W.kia_one PySem.W.kitx_tuple I.fU ⟨o,g,j⟩ e (λz=>nomatch z) h
 |@dK a l f=>
  cases (d);obtain⟨_,_,P,_,p⟩:=(I.hok a _ f);obtain⟨o,D,F,g,j,_⟩:=p;exact PySem.W.kia_one PySem.W.kitx_dict I.fU ⟨o,g,j.1⟩ e (λz=>nomatch z) h
 |@dT a l f=>
  cases (d);obtain⟨_,_,k,_,o,D,F,g,j,_⟩:=(I.hok a _ f);exact PySem.W.kia_one PySem.W.kitx_dict I.fU ⟨o,g,j.1⟩ e (λz=>nomatch z) h
 |@ins a C R S f r G L m M=>
  cases (d);obtain⟨T,O,_⟩:=AY I.hok f;obtain⟨U,J,_⟩:=O.look;exact PySem.W.kia_one (PySem.W.kitx_own (r.get _) r.hd G L m M) I.fU J e (λz=>nomatch z) h
end
structure bE(k:Nat)(A:Around):Prop where
 hd:A.handled=none
 dp:A.depth+3*k+5<recursionLimit
 un:A.units+16*k+200<cLine
theorem bE.mono{j k:Nat}{A:Around}(r:bE k A)(h:j<=k):bE j A:=⟨r.hd,by have:=r.dp;omega,by have:=r.un;omega⟩
theorem bE.deeper{k:Nat}{A:Around}(r:bE (k+1) A)(env:Env):bE k (A.deeper env):=
 ⟨r.hd,by have:=r.dp;show A.depth+1+3*k+5<_;omega,by have:=r.un;show A.units+3+16*k+200<_;omega⟩
theorem rD{A:Around}{C:Addr}{us:List Value}{a:List (Str×Value)}:(A.under (.builtin "type.__call__" ⟨.ref C::us,a⟩)).depth=A.depth+1:=by
 rfl
theorem rE{A:Around}{C:Addr}{us:List Value}{a:List (Str×Value)}:(A.under (.builtin "type.__call__" ⟨.ref C::us,a⟩)).units=A.units+1:=by
 rfl
theorem bE.make{k:Nat}{A:Around}(r:bE (k+1) A)(C:Addr)(us:List Value)(a:List (Str×Value)):bE k (A.under (.builtin "type.__call__" ⟨.ref C::us,a⟩)):=
 ⟨r.hd,by have:=r.dp;rw[rD];omega,by have:=r.un;rw[rE];omega⟩
theorem bE.depth{k:Nat}{A:Around}(r:bE k A):A.depth<recursionLimit:=by have:=r.dp;omega
theorem bE.units{k:Nat}{A:Around}(r:bE k A):A.units+64<cLine:=by have:=r.un;omega
noncomputable def Hz:TA:=λ_ H Q=>Q [] H
noncomputable def HD(b:TE)(c:TA):TA:=λa H Q=>b a H λx d=>c a d λe f=>Q (x::e) f
section
variable{X:Cx}{e:Expr}{es:List Expr}{te:TE}{t:TA}{pos:Pos}
theorem je:PA X [] Hz:=λ_ _ _ _ H Q I h=>Calls.spliced_nil ⟨[],H,I,.nil,h⟩
theorem dX(b:PE X e te)(c:PA X es t)(d:starEach (e::es) X.env=(false,eval e X.env)::starEach es X.env:=by rfl):PA X (e::es) (HD te t):=by
 intro f pins s a H Q I h;rw[d];refine Calls.spliced_cons (cu (b _ s a H _ I h) λu g ⟨x,H1,I1,r1,q1⟩=>?_)
 exact cu (c _ _ g a H1 _ I1 q1) λi j ⟨k,H2,I2,r2,q2⟩=>⟨_,H2,I2,.cons r1 r2,q2⟩
def MA(t:TA):TE:=λc H Q=>t c H λa b=>a.length<=sizeLine/\∀p,b p=none->Q (.ref p) (upd b p (.tup a))
def MB(t:TA):TE:=λc H Q=>t c H λa b=>a.length<=sizeLine/\∀p,b p=none->Q (.ref p) (upd b p (.lst a))
theorem EW{x1}(h:PA X es t):PE X (.Tuple es x1 pos) (MA t):=by
 intro pins s a H Q I c;refine wpAny_Tuple_spliced (cu (h _ _ s a H _ I c) λd g ⟨i,H1,I1,r,z,q⟩=>⟨by rw[←r.length];exact z,?_⟩)
 have f:=I1.hok.fresh (Nat.le_refl _);refine⟨.ref _,_,I1.laid (λb u e=>Heap.get?_push_of_some _ e) (Nat.le_refl _) ?_,rfl,q _ f⟩
 exact⟨z,d,r,⟨_,Heap.get?_push_size _ rfl,rfl,_,rfl⟩⟩
theorem EX(h:PA X es t):PE X (.List es pos) (MB t):=by
 intro pins s a H Q I c;refine wpAny_List_spliced (cu (h _ _ s a H _ I c) λd g ⟨i,H1,I1,r,z,q⟩=>⟨by rw[←r.length];exact z,?_⟩)
 have f:=I1.hok.fresh (Nat.le_refl _);refine⟨.ref _,_,I1.laid (λb u e=>Heap.get?_push_of_some _ e) (Nat.le_refl _) ?_,rfl,q _ f⟩
 exact⟨z,d,0,r,Heap.get?_push_size _ rfl⟩
end
abbrev Sp:=List V->Hp->VK->XK->Prop
abbrev pB:=List Env->Hp->Shared->XK->Value->Shared->Prop
structure pC(P:Program)(w:World)(K:PySem.W.Frag)(mg:Str->Option Value)(base:Heap)(A:Around)(outer:List Env)(s:Shared)(H:Hp):Prop where
 frames:A.frames=some outer
 mod:Mod K mg base
 bs:∀b o,base.get? b=some o->s.heap.get? b=some o/\H b=none
 pe:base.objs.size<=s.heap.objs.size
 eR:s.heap.FunFrames base outer
 rj:∀b∈frs outer,H b=none
 hok:fE P w H s.heap
 bare:AllBare s.gens
def CE(outer:List Env)(P:Program)(w:World)(H:Hp)(s:Shared)(Q:VK)(u:Value)(a:Shared):Prop:=
 ∃v b,a.os=s.os/\AllBare a.gens/\Un (frs outer) [] H b s.heap a.heap/\fE P w b a.heap/\RelV v u/\Q v b
def CR(CX:pB)(outer:List Env)(P:Program)(w:World)(H:Hp)(s:Shared)(Q:VK)(E:XK)(r:Result)(a:Shared):Prop:=
 match r with
 |.ok (.ret u)=>CE outer P w H s Q u a
 |.ok _=>False
 |.error e=>CX outer H s E e a
structure bP(P:Program)(w:World)(K:PySem.W.Frag)(mg:Str->Option Value)(base:Heap)(CX:pB)(k:Nat)(f:Addr)(fd:FuncData)(ps:List Str)(sp:Sp):Prop where
 len:∀vs H Q E,sp vs H Q E->vs.length=ps.length
 run:∀(A:Around) (outer:List Env) (s:Shared) (H:Hp) (args:Args) (us:List Value) (vs:List V) (Q:VK) (E:XK),bE k A->pC P w K mg base A outer s H->BindsTo s fd args (ps.zip us)->Vals vs us->sp vs H Q E ->
  codeAny (model P w) A (.call (.ref f) args) (CR CX outer P w H s Q E) s
theorem bP.mono{P:Program}{w:World}{K:PySem.W.Frag}{a:Str->Option Value}{base:Heap}{CX:pB}{j k:Nat}{f:Addr}{b:FuncData}{ps:List Str}{sp:Sp}(F:bP P w K a base CX j f b ps sp)(h:j<=k) :
  bP P w K a base CX k f b ps sp:=⟨F.len,λA outer s H args c d Q E e=>F.run A _ s H _ c d Q E (e.mono h)⟩
theorem bP.imp{P:Program}{w:World}{K:PySem.W.Frag}{b:Str->Option Value}{base:Heap}{CX:pB}{k:Nat}{f:Addr}{c:FuncData}{ps:List Str}{sp a:Sp}(F:bP P w K b base CX k f c ps sp)
  (h:∀vs H Q E,a vs H Q E->sp vs H Q E):bP P w K b base CX k f c ps a:=
 ⟨λvs H Q E q=>F.len vs H Q E (h _ _ _ _ q),λA outer s H args d vs Q E e g i j l=>F.run A _ s H _ d vs Q E e g i j (h _ _ _ _ l)⟩
theorem pC.make{P:Program}{w:World}{K:PySem.W.Frag}{a:Str->Option Value}{base:Heap}{A:Around}{outer:List Env}{s:Shared}{H:Hp}(e:pC P w K a base A outer s H)(C:Addr)(us:List Value)(b:List (Str×Value)) :
  pC P w K a base (A.under (.builtin "type.__call__" ⟨.ref C::us,b⟩)) outer s H:=⟨by first|exact e.frames,e.mod,e.bs,e.pe,e.eR,e.rj,e.hok,e.bare⟩
section
variable{X:Cx}{pins:List (Addr×Obj)}{σ:St}{H:Hp}{s s':Shared}
theorem Inv.env0(I:Inv X pins σ H s):pC X.prog X.w X.K X.mg X.base X.A X.stack s H:=
 ⟨I.ok.frames,I.ok.mod,I.bs,Nat.le_trans I.ok.pe I.sz,I.stack,I.j5,I.hok,I.bare⟩
theorem Inv.after{Q:VK}{u:Value}(I:Inv X pins σ H s)(h:CE X.stack X.prog X.w H s Q u s'):EP X pins σ Q u s':=by
 obtain⟨v,e,f,bare,i,a,r,q⟩:=h;obtain⟨j,g,d,t,c⟩:=s';obtain rfl:c=s.os:=f;exact⟨v,e,I.call i a bare (λb z=>absurd z (by simp)),r,q⟩
end
noncomputable def DJ(sp:Sp)(ti:List V)(E:XK)(t:TA):TE:=λa H Q=>t a H λb c=>sp (b++ti) c Q E
def Binds(K:PySem.W.Frag)(b:FuncData)(ps:List Str)(ds:List Value):Prop:=
 ∀(s:Shared) (a:List Value),K.In s.heap->(a++ds).length=ps.length->BindsTo s b ⟨a,[]⟩ (ps.zip (a++ds))
theorem Binds.all{K:PySem.W.Frag}{a:FuncData}{ps:List Str}(h:∀us:List Value,us.length=ps.length->bindArgs a ⟨us,[]⟩=pure (ps.zip us)):Binds K a ps []:=λs us _ b=>by
 rw[List.append_nil]at b ⊢;exact .of_eq (h us b)
def Passes(CX:pB)(X:Cx)(E:XK):Prop:=∀(pins:List (Addr×Obj)) (b:St) (H:Hp) (s:Shared) (e:Value) (a:Shared),Inv X pins b H s->CX X.stack H s E e a->X.xe e a
section
variable{X:Cx}{CX:pB}{k:Nat}{f C:Addr}{fd:FuncData}{ps:List Str}{sp:Sp}{ti:List V}{ds:List Value}{E:XK}{x m:Str}{p pos apos:Pos}{e o:Expr}{es:List Expr}{ta:TE}{t:TA}
theorem wZ{pins:List (Addr×Obj)}{σ:St}{H:Hp}{s:Shared}{Q:VK}{us:List Value}{vs:List V}(F:bP X.prog X.w X.K X.mg X.base CX k f fd ps sp)(c:bE k X.A)(d:Binds X.K fd ps ds)(g:Vals ti ds)(i:Passes CX X E)
  (I:Inv X pins σ H s) (r:Vals vs us) (h:sp (vs++ti) H Q E):wpAny (model X.prog X.w) X.A (call (.ref f) us) (EP X pins σ Q) X.xe s:=by
 have b:=r.append g;have j:(us++ds).length=ps.length:=by rw[←b.length];exact F.len _ _ _ _ h
 refine wpAny_call (codeAny_mono (F.run _ _ s H ⟨us,[]⟩ _ _ Q E c I.env0 (d s us I.fU j) b h) λr l a=>?_)
 cases r with
 |error e=>exact i _ σ H s e l I a
 |ok fl=>
  cases fl with
  |ret u=>exact I.after a
  |next=>exact False.elim a
  |brk=>exact False.elim a
  |cont=>exact False.elim a
theorem nN(F:bP X.prog X.w X.K X.mg X.base CX k f fd ps sp)(c:bE k X.A)(d:Gl X x)(g:X.mg x=some (.ref f))(i:PySem.W.keepIn X.K (.ref f)=true)(j:Binds X.K fd ps ds)(l:Vals ti ds)(m:Passes CX X E)
  (n:PA X (e::es) t) (a:(x==("__debug__":Str))=false:=by decide) (o:starEach (e::es) X.env=(false,eval e X.env)::starEach es X.env:=by rfl) (b:(backTo pos (starEach es X.env)).any (·.1)=false:=by rfl) :
  PE X (.Call (.Name x p) (e::es) [] pos) (DJ sp ti E t):=by
 intro pins s u H Q I h;refine wpAny_Call_Name_kw (fG I d g ?_ a);refine PySem.W.callWith_K I.ok.mod.Er i (cu (n _ _ s u H _ I h) λy z ⟨B,H1,I1,r,q⟩=>⟨I1.fU,?_⟩) o b
 exact wZ F c j l m I1 r q
theorem w4(F:bP X.prog X.w X.K X.mg X.base CX k f fd ps sp)(b:bE k X.A)(c:Gl X x)(d:X.mg x=some (.ref f))(e:PySem.W.keepIn X.K (.ref f)=true)(g:Binds X.K fd ps ds)(i:Vals ti ds)(j:Passes CX X E)
  (a:(x==("__debug__":Str))=false:=by decide):PE X (.Call (.Name x p) [] [] pos) (DJ sp ti E Hz):=by
 intro pins s l H Q I h;refine wpAny_Call_Name_kw (fG I c d ?_ a);exact PySem.W.callWith_K0 I.fU e (wZ F b g i j I .nil h)
structure Mk(K:PySem.W.Frag)(C f:Addr):Prop where
 makes:PySem.W.makesIn K C=true
 init:PySem.W.findIn K (.ref C) "__init__"=some (some (.ref f))
 fn:PySem.W.isFn K (.ref f)=true
 kp:PySem.W.keepIn K (.ref C)=true
end
section
variable{X:Cx}{CX:pB}{k:Nat}{f C:Addr}{fd:FuncData}{ps ks:List Str}{sp:Sp}{E:XK}{x m:Str}{p pos apos Qn:Pos}{e o:Expr}{es:List Expr}{kws:List Keyword}{te ta:TE}{t tk:TA}{nm:Option Str}
variable{g:List Value->List Value->List Value}{gV:List V->List V->List V}
end
structure gG(N P:List Str)(sc:Scope):Prop where
 kind:sc.kind=.function
 co:sc.isCoroutine=false
 gen:sc.isGenerator=false
 nd:N.Nodup
 pre:N.take P.length=P
 par:∀x∈P,sc.names.lookup x=some .local\/sc.names.lookup x=some .cell
 EY:∀y∈sc.names,y.2≠.free
theorem mF{kindOf:Str->Option NameKind}{x:Str}:∀{binds:List (Str×Value)}{m:Str->Option Value},(∀v,(x,v)∉binds)->bindL kindOf binds m x=m x
 |[],_,_=>rfl
 | (n,v)::r,m,h=>by
  unfold bindL;rw[mF λw a=>h w (List.mem_cons_of_mem _ a)]
  split
  .have:x≠n:=by rintro rfl;exact h v (by simp)
   simp[this]
  .rfl
theorem mG{kindOf:Str->Option NameKind}{x:Str}:∀{binds:List (Str×Value)}{m:Str->Option Value},(∀v,(x,v)∉binds)->bindC kindOf binds m x=m x
 |[],_,_=>rfl
 | (n,v)::r,m,h=>by
  unfold bindC;rw[mG (by grind)]
  split
  .rfl
  grind
theorem mH{kindOf:Str->Option NameKind}{x:Str}{v:Value}:∀{P:List Str}{vs:List Value}{i:Nat}{m:Str->Option Value},P.Nodup->P[i]?=some x->vs[i]?=some v->kindOf x=some .local ->
  bindL kindOf (P.zip vs) m x=some v
 |[],_,_,_,_,h,_,_=>by simp at h
 |_::_,[],_,_,_,_,h,_=>by simp at h
 |p::P,w::vs,0,m,a,h1,h2,hk=>by
  simp at h1 h2;subst h1;subst h2
  show bindL _ ((p,w)::P.zip vs) m p=_
  unfold bindL;rw[mF λv b=>(List.nodup_cons.mp a).1 (List.of_mem_zip b).1,if_pos hk]
  simp
 |p::P,w::vs,i+1,m,a,h1,h2,hk=>by
  unfold bindL;exact mH (List.nodup_cons.mp a).2 (by simpa using h1) (by simp_all) hk
theorem mI{kindOf:Str->Option NameKind}{x:Str}{v:Value}:∀{P:List Str}{vs:List Value}{i:Nat}{m:Str->Option Value},P.Nodup->P[i]?=some x->vs[i]?=some v->kindOf x≠some .local ->
  bindC kindOf (P.zip vs) m x=some v
 |[],_,_,_,_,h,_,_=>by simp at h
 |_::_,[],_,_,_,_,h,_=>by simp at h
 |p::P,w::vs,0,m,a,h1,h2,hk=>by
  simp at h1 h2;subst h1;subst h2
  show bindC _ ((p,w)::P.zip vs) m p=_
  unfold bindC;rw[mG λv b=>(List.nodup_cons.mp a).1 (List.of_mem_zip b).1,if_neg hk]
  simp
 |p::P,w::vs,i+1,m,a,h1,h2,hk=>by
  unfold bindC;exact mI (by grind) (by simpa using h1) (by grind) hk
noncomputable def start(N:List Str)(vs:List V):St:=vs.map some++List.replicate (N.length - vs.length) none
noncomputable def bF(CX:pB)(P:Program)(w:World)(K:PySem.W.Frag)(mg:Str->Option Value)(base:Heap)(N:List Str)(qual:Str)(scope:Scope)(f:Addr)(b:Value)(A:Around)(outer:List Env)(s:Shared)(H:Hp)(E:XK):Cx where
 prog:=P
 w:=w
 K:=K
 mg:=mg
 base:=base
 A:=A.deeper (envOfC qual scope s.heap.objs.size f b)
 N:=N
 s₀:=s
 H₀:=H
 env:=envOfC qual scope s.heap.objs.size f b
 outer:=outer
 stack:=envOfC qual scope s.heap.objs.size f b::outer
 ex:=[]
 calm:=true
 fn:=λ_=>true
 pn:=[]
 xe:=λe c=>wpAny (model P w) (A.deeper (envOfC qual scope s.heap.objs.size f b)) (leaving (envOfC qual scope s.heap.objs.size f b) e) (λ_ a=>CX outer H s E e a) (λd a=>CX outer H s E d a) c
theorem kC{a:Scope}{n:Nat}{x:Str}(h:a.names.lookup x=some .cell):∃c,(cellsFrom n a.names []).lookup x=some c:=by
 have q:=PySem.W.cellsFrom_some _ n [] (.inl h);exact Option.isSome_iff_exists.mp q
theorem jf{CX:pB}{P:Program}{w:World}{K:PySem.W.Frag}{t:Str->Option Value}{base:Heap}{N ps:List Str}{qual:Str}{scope:Scope}{f:Addr}{m:Value}{A:Around}{outer:List Env}{s B:Shared}{H:Hp}{E:XK}{us:List Value}{vs:List V}
  (S:gG N ps scope) (G:A.handled=none) (a:pC P w K t base A outer s H) (M:vs.length=ps.length) (r:Vals vs us)
  (x:InCallC s s.heap.objs.size (bindL (envOfC qual scope s.heap.objs.size f m).kindOf (ps.zip us) λ_=>none) (cellsFrom (s.heap.objs.size+1) scope.names []) (bindC (envOfC qual scope s.heap.objs.size f m).kindOf (ps.zip us) λ_=>none) B) :
  Inv (bF CX P w K t base N qual scope f m A outer s H E) [] (start N vs) H B:=by
 have I:ps.length<=N.length:=by have:=congrArg List.length S.pre;grind
 obtain⟨n,O,rfl,C⟩:=x.done;have g:∀b:Addr,b∉(bF CX P w K t base N qual scope f m A outer s H E).ex:=λb z=>absurd (show b∈([]:List Addr)from z) (by simp)
 refine⟨⟨a.mod,S.kind,rfl,rfl,Nat.le_refl _,λy z c n d=>?_,λy hy=>?_,λy c _ h=>?_,λ_=>G,Around.frames_deeper a.frames,.inr ⟨rfl,rfl⟩,λb z=>absurd z (g b),a.bs,a.pe,λb _ _=>g b,λb z=>absurd z (g b),a.eR,a.rj⟩,
  rfl,a.bare,Un.kept C,⟨_,x.toInCall.ns,λi y v n d Q=>?_⟩,λy c h=>⟨_,x.cell y c h⟩,a.hok.fresh (Nat.le_refl _),λy c h=>?_,λp j=>absurd (show p∈([]:List (Addr×Obj))from j) (by simp),a.hok.kept C,?_⟩
 .exact name_of_addr x.apart (PySem.mem_of_lookup n) (PySem.mem_of_lookup d)
 .rcases hy with hy|hy
  .exact kC hy
  .exact absurd rfl (S.EY _ (PySem.mem_of_lookup hy))
 .exact Nat.le_of_lt (x.above y c (PySem.mem_of_lookup h))
 .have o:i<vs.length:=by
   unfold start at d
   by_cases o:i<vs.length
   .exact o
   .rw[List.getElem?_append_right (by simpa using o)]at d
    rw[List.getElem?_replicate]at d;split at d<;>cases d
  have J:vs[i]?=some v:=by
   unfold start at d;rw[List.getElem?_append_left (by simpa using o),List.getElem?_map]at d
   simp_all
  obtain⟨u,D,L⟩:=r.get J
  have j:ps[i]?=some y:=by
   rw[←S.pre,List.getElem?_take_of_lt (by omega)];exact n
  have l:ps.Nodup:=by rw[←S.pre];exact S.nd.sublist (List.take_sublist _ _)
  refine⟨u,L,?_⟩;rcases S.par y (List.mem_of_getElem? j)with k|k
  .exact .inl ⟨k,mH l j D k⟩
  .obtain⟨c,e⟩:=kC k
   refine .inr ⟨.inl k,c,e,?_⟩;have q:=x.cell y c e;rw[mI l j D (by show scope.names.lookup y≠_;rw[k];decide)]at q
   exact q
 .have F:=a.hok.fresh (Nat.le_of_lt (x.above y c (PySem.mem_of_lookup h)))
  exact⟨.inl F,λ_=>F⟩
 .unfold start
  show _=N.length
  grind
theorem w6{CX:pB}{P:Program}{w:World}{K:PySem.W.Frag}{y:Str->Option Value}{base:Heap}{k:Nat}{f:Addr}{name qual:Str}{params:Arguments}{body:List Stmt}{scope:Scope}{I kV i L a ct oc:Value}{M R:Option Addr}
  {z:Array (Option Value)}{N ps:List Str}{sp:Sp} (T:K.lookup f=some ⟨oc,R,.func (PySem.W.fnOf name qual params body scope I kV i L M a ct),z⟩) (B:PySem.W.codeIn K a qual=true) (S:gG N ps scope)
  (j:∀vs H Q E,sp vs H Q E->vs.length=ps.length)
  (g:∀(A:Around) (outer:List Env) (s:Shared) (H:Hp) (vs:List V) (Q:VK) (E:XK),bE k (A.deeper (envOfC qual scope s.heap.objs.size f a))->sp vs H Q E ->
   ∃t,gb (bF CX P w K y base N qual scope f a A outer s H E) body t/\t {nx:=λ_ d=>Q .non d,rt:=Q} (start N vs) H) :
  bP P w K y base CX (k+1) f (PySem.W.fnOf name qual params body scope I kV i L M a ct) ps sp:=by
 refine⟨j,λA outer s H args us vs Q E C l U r m=>?_⟩
 have X:=j _ _ _ _ m;have O:=l.mod.Er.keeps λb o e=>(l.bs b o e).1
 have D:=l.mod.nolimit.keeps λb o e=>(l.bs b o e).1
 refine codeAny_call_function C.depth (O _ _ T) rfl S.co S.gen rfl (PySem.W.codeRec_of O B) (U _ _ _ _ ?_)
 refine wpAny_newFunctionEnv_cells S.kind (λ⟨n,v⟩ Y=>by
  rcases S.par n (List.of_mem_zip Y).1 with q|q
  .exact .inl q
  .exact .inr ⟨q,PySem.W.cellsFrom_some _ _ _ (.inl q)⟩) λZ he s1 x=>?_
 subst he;refine⟨D.keeps x.toInCall.keep,codeAny_func ?_⟩;obtain⟨t,ht,hq⟩:=g A _ s H vs Q E (C.deeper _) m;refine wpAny_mono (ht [] s1 _ H _ (jf S C.hd l X r x) hq) (λfl F h=>?_) λe F h=>h
 have p:∀{c:St}{d:Hp}{v:V}{u:Value},Inv (bF CX P w K y base N qual scope f a A _ s H E) [] c d F->RelV v u->Q v d->CE outer P w H s Q u F:=
  λ{c d v u} J G q=>⟨v,d,J.os,J.bare,J.base,J.hok,G,q⟩
 cases fl with
 |ret u=>
  obtain⟨v,c,d,J,G,q⟩:=h;exact p J G q
 |next=>
  obtain⟨c,d,J,q⟩:=h;exact p (v:=V.non) J rfl q
 |brk=>
  obtain⟨_,_,_,q⟩:=h
  simp_all
 |cont=>
  obtain⟨_,_,_,q⟩:=h
  simp_all
section
variable{X:Cx}{x:Str}{p pos:Pos}{e:Expr}{es:List Expr}{t:TA}{id T:String}{r:List V->Hp->VK->Prop}
noncomputable def OZ(r:List V->Hp->VK->Prop)(t:TA):TE:=λa H Q=>t a H λb c=>r b c Q
theorem kD(d:d_ X (.builtin id) r)(f:Gl X x)(g:X.mg x=none)(i:bootBuiltins x=some (.builtin id))(j:PA X (e::es) t)(k:x≠"__name__":=by decide)(a:(x==("__debug__":Str))=false:=by decide)
  (l:starEach (e::es) X.env=(false,eval e X.env)::starEach es X.env:=by rfl) (b:(backTo pos (starEach es X.env)).any (·.1)=false:=by rfl):PE X (.Call (.Name x p) (e::es) [] pos) (OZ r t):=by
 intro pins s c H Q I h;refine wpAny_Call_Name_kw (fH I f g i ?_ k a);exact PyProof.Rows.callWith_builtin1 (cu (j _ _ s c H _ I h) λm n ⟨o,H1,I1,r1,q1⟩=>d _ n c H1 o m Q I1 r1 q1) l b
theorem vh(d:d_ X (.type T) r)(f:Gl X x)(g:X.mg x=none)(i:bootBuiltins x=some (.type T))(j:PA X (e::es) t)(k:x≠"__name__":=by decide)(a:(x==("__debug__":Str))=false:=by decide)
  (l:starEach (e::es) X.env=(false,eval e X.env)::starEach es X.env:=by rfl) (b:(backTo pos (starEach es X.env)).any (·.1)=false:=by rfl):PE X (.Call (.Name x p) (e::es) [] pos) (OZ r t):=by
 intro pins s c H Q I h;refine wpAny_Call_Name_kw (fH I f g i ?_ k a);exact PyProof.Rows.callWith_type1 (cu (j _ _ s c H _ I h) λm n ⟨o,H1,I1,r1,q1⟩=>d _ n c H1 o m Q I1 r1 q1) l b
end
end L2
namespace HT
open PySem PyProof.Rows
section
open PySem.SeqAt
open PySem.AutoSeq1 (wpAny_loadPart')
open PySem.MeetsSeq PySem.MeetsSeq2 PySem.MeetsSeq3
end
section
variable{prog:Program}{w:World}{A:Around}{E:Value->Shared->Prop}{s:Shared}
noncomputable def kE(n d:Nat):Option Int->Nat
 |none=>d
 |some v=>if v<0 then (v+(n:Int)).toNat else min v.toNat n
theorem pD(n d:Nat):kE n d none=d:=rfl
theorem tj(n d k:Nat):kE n d (some (k:Int))=min k n:=by
 rfl
theorem w8(n d:Nat)(a:d<=n)(o:Option Int):kE n d o<=n:=by
 cases o with
 |none=>exact a
 |some v=>
  show(if v<0 then (v+(n)).toNat else min _ n)<=n
  grind
end
end HT
namespace L2
open PySem PySem.Spec PyProof.Rows
abbrev TO:=St->Hp->(Option Int->Hp->Prop)->Prop
def PO(X:Cx)(e:Option Expr)(t:TO):Prop:=
 ∀(pins:List (Addr×Obj)) (s:Shared) (a:St) (H:Hp) (Q:Option Int->Hp->Prop),Inv X pins a H s->t a H Q ->
  wpAny (model X.prog X.w) X.A (evalPart e X.env) (λu c=>∃o b,Inv X pins a b c/\IsPart u o/\Q o b) X.xe s
noncomputable def AZ:TO:=λ_ H Q=>Q none H
noncomputable def HE(t:TE):TO:=λa H Q=>t a H λx b=>∃i,x=.int i/\Q (some i) b
theorem intsAre_of{ns:List Int}:∀{us:List Value},Vals (ns.map V.int) us->IntsAre us ns:=by
 induction ns with
 |nil=>intro us r;cases r;exact .nil
 |cons n ns a=>
  intro us r;cases r with
  |cons b c=>
   obtain⟨t,e⟩:=b;subst e;exact .cons n t (a c)
section
variable{X:Cx}{e:Expr}{te:TE}{lo hi:Option Expr}{tl th:TO}{pos p2:Pos}
theorem A2:PO X none AZ:=by
 intro pins s a H Q I h;exact wpAny_pure ⟨_,H,I,.none,h⟩
theorem A3(h:PE X e te):PO X (some e) (HE te):=by
 intro pins s a H Q I b;refine cu (h _ s a H _ I b) λu c ⟨x,H1,I1,r1,q1⟩=>?_
 obtain⟨i,rfl,q⟩:=q1;obtain⟨t,rfl⟩:=r1;exact⟨_,H1,I1,.int i t,q⟩
def EZ(X:Cx)(r:V->Option Int->Option Int->Hp->VK->Prop):Prop:=
 ∀(pins:List (Addr×Obj)) (s:Shared) (a:St) (H:Hp) (x:V) (v b c:Value) (d e:Option Int) (f:Addr) (Q:VK),Inv X pins a H s->RelV x v->s.heap.IsSliceOf f b c .none->IsPart b d->IsPart c e->r x d e H Q ->
  ∃T id,typeLookup (.type T) "__getitem__"=pure (some (.builtin id))/\s.TypeIs v T/\wpAny (model X.prog X.w) X.A (getItem v (.ref f)) (EP X pins a Q) X.xe s
theorem EZ.or{r c:V->Option Int->Option Int->Hp->VK->Prop}(h:EZ X r)(m:EZ X c):EZ X (λx a b H Q=>r x a b H Q\/c x a b H Q):=by
 intro pins s d H x v e f a b g Q I i j k l q;rcases q with q|q
 .exact h _ s d H x v e f a b g Q I i j k l q
 .exact m _ s d H x v e f a b g Q I i j k l q
noncomputable def Qo(r:V->Option Int->Option Int->Hp->VK->Prop)(b:TE)(c d:TO):TE:=λa H Q=>b a H λx e=>c a e λl f=>d a f λu g=>r x l u g Q
theorem gg{r:V->Option Int->Option Int->Hp->VK->Prop}(c:EZ X r)(d:PE X e te)(f:PO X lo tl)(g:PO X hi th):PE X (.Subscript e (.Slice lo hi none p2) pos) (Qo r te tl th):=by
 intro pins s a H Q I h;refine Subscript_ (cu (d _ s a H _ I h) λv i ⟨x,H1,I1,r1,q1⟩=>?_)
 refine wpAny_Slice (cu (f _ i a H1 _ I1 q1) λj k ⟨l,H2,I2,pl,q2⟩=>cu (g _ k a H2 _ I2 q2) λm t ⟨u,H3,I3,pu,q3⟩=>?_)
 refine wpAny_pure ?_;obtain⟨T,id,n,o,p⟩:=c _ _ a H3 x v j m l u _ Q (I3.kept λb w q=>Heap.get?_push_of_some _ q) r1 (Heap.IsSliceOf.new ..) pl pu q3
 exact tail_any o n p (by rfl)
def w9(xs:List V)(a b:Option Int):List V:=(xs.drop (HT.kE xs.length 0 a)).take (HT.kE xs.length xs.length b - HT.kE xs.length 0 a)
theorem pE(xs:List V)(a b:Option Int):(w9 xs a b).length<=xs.length:=by
 unfold w9;rw[List.length_take,List.length_drop];omega
end
noncomputable def w_(n:Nat)(i:Int):Option Nat:=if 0<=i then (if i<n then some i.toNat else none)else if -(n:Int)<=i then some (i+n).toNat else none
def jP{a:Type}(xs:List a)(i:Int):Option a:=(w_ xs.length i).bind λj=>xs[j]?
theorem tm{n:Nat}{i:Int}{j:Nat}(h:w_ n i=some j):seqIndex? i n=some j/\j<n /\ -(n:Int)<=i/\i<n:=by
 unfold w_ at h
 by_cases b:0<=i
 .rw[if_pos b]at h
  by_cases a:i<n
  .rw[if_pos a]at h
   have e:=Option.some.inj h;exact⟨by rw[seqIndex_of b a,e],by omega,by omega,a⟩
  simp_all
 .rw[if_neg b]at h
  by_cases a : -(n)<=i
  .rw[if_pos a]at h
   have e:=Option.some.inj h;exact⟨by rw[seqIndex_neg (by omega) a,e],by omega,a,by omega⟩
  simp_all
theorem nO{a:Type}{xs:List a}{i:Int}{v:a}(h:jP xs i=some v):∃j,seqIndex? i xs.length=some j/\xs[j]?=some v/\j<xs.length /\ -(xs.length:Int)<=i/\i<xs.length:=by
 unfold jP at h;cases e:w_ xs.length i with
 |none=>simp_all
 |some j=>
  rw[e]at h;obtain⟨b,c,d,f⟩:=tm e;exact⟨j,b,h,c,d,f⟩
theorem dk{a:Type}{xs:List a}{j:Nat}{v:a}(h:xs[j]?=some v):jP xs (j:Int)=some v:=by
 have b:=(List.getElem?_eq_some_iff.mp h).1
 have e:w_ xs.length (j)=some j:=by
  unfold w_
  simp_all
 unfold jP;rwa[e]
def tp(b:Expr):Prop:=∀o i,subscripted b false o i=operate [o,i] (getItem o i)
def A4(X:Cx)(r:R2):Prop:=
 ∀(b a:Expr) (pins:List (Addr×Obj)) (s:Shared) (c:St) (H:Hp) (x y:V) (v u:Value) (Q:VK),Inv X pins c H s->RelV x v->RelV y u->r x y H Q ->
  subscripted a false v u=operate [v,u] (getItem v u)->wpAny (model X.prog X.w) X.A (subscriptTail b a v u) (EP X pins c Q) X.xe s
def GU(X:Cx)(id:String)(r:V->List V->Hp->VK->Prop):Prop:=
 ∀(pins:List (Addr×Obj)) (s:Shared) (a:St) (H:Hp) (x:V) (b:List V) (v:Value) (c:List Value) (Q:VK),Inv X pins a H s->RelV x v->Vals b c->r x b H Q ->
  wpAny (model X.prog X.w) X.A (call (.builtin id) (v::c)) (EP X pins a Q) X.xe s
section
variable{X:Cx}{a b:Expr}{ta tb:TE}{pos:Pos}
theorem A4.or{r c:R2}(h:A4 X r)(i:A4 X c):A4 X (λx y H Q=>r x y H Q\/c x y H Q):=by
 intro a b pins s d H x y v u Q I e f q g;rcases q with q|q
 .exact h _ _ _ s d H x y v u Q I e f q g
 .exact i _ _ _ s d H x y v u Q I e f q g
theorem DK{r:R2}(c:A4 X r)(d:PE X a ta)(e:PE X b tb)(f:tp b):PE X (.Subscript a b pos) (EI r ta tb):=by
 intro pins s g H Q I h;exact Subscript_ (EJ d e I h λv u i x y j k l m q=>c a b _ i g j x y v u Q k l m q (f _ _))
def HF(K:PySem.W.Frag):R2:=λx y H Q=>∃p a i v,x=.ref p/\y=.int i/\lX K H p a/\jP a i=some v/\Q v H
def HG(K:PySem.W.Frag):R2:=λx y H Q=>∃p a i v,x=.ref p/\y=.int i/\rn K H p a/\jP a i=some v/\Q v H
def HH:R2:=λx y H Q=>∃z i c,x=.str z/\y=.int i/\z.length<=sizeLine/\jP z.cps.toList i=some c/\Q (.str ⟨#[c]⟩) H
theorem A5:A4 X (HF X.K):=by
 intro b c pins s o H x y v u Q I A B h k;obtain⟨p,J,i,z,rfl,rfl,C,D,q⟩:=h;cases A;obtain⟨t,rfl⟩:=B;obtain⟨d,r,e,L⟩:=I.list C;obtain⟨j,l,E,M,F,G⟩:=nO D;obtain⟨w,m,f⟩:=r.get E;have N:=r.length;have O:=gf;have a:EP X _ o Q w s:=⟨z,H,I,f,q⟩
 by_cases n:0<=i
 .have g:i.toNat=j:=by
   rw[seqIndex_of n G]at l
   simp_all
  exact item_listR e.isList n (by omega) (by rw[g];simpa using m) a k
 .have g:(i+(d.toArray.size)).toNat=j:=by
   rw[seqIndex_neg (by omega) F]at l
   simp_all
  exact subscriptTail_builtinR e.isList.typeIs slot_list_getitem.lookup
   (wpAny_getItem_list_neg e.isList (by omega) (by simp_all) (by omega) (by rw[g];simpa using m) ⟨rfl,a⟩) k
theorem E2:A4 X (HG X.K):=by
 intro a b pins s o H x y v u Q I e f h g;obtain⟨p,A,i,z,rfl,rfl,k,l,q⟩:=h;cases e;obtain⟨t,rfl⟩:=f;obtain⟨m,r,d,B⟩:=I.tuple k;obtain⟨j,C,n,D,E,F⟩:=nO l;obtain⟨w,G,c⟩:=r.get n;have J:=r.length;have L:=gf
 exact subscriptTail_builtinR d.typeIs slot_tuple_getitem.lookup
  (getItem_tuple (j:=j) d (by omega) (by omega) (by grind) (by grind) ⟨rfl,⟨z,H,I,c,q⟩⟩) g
theorem E3:A4 X HH:=by
 intro a b pins s o H x y v u Q I d e h f;obtain⟨z,i,c,rfl,rfl,p,g,q⟩:=h;obtain⟨t,rfl⟩:=d;obtain⟨r,rfl⟩:=e;obtain⟨j,k,w,A,l,m⟩:=nO g;have n:z.cps.toList.length=z.length:=by rfl
 rw[n]at k l m;have B:=gf
 exact tail_any (typeIs_str s z t) slot_str_getitem.lookup (getItem_str (by
  grind) (by grind) ⟨.str ⟨_⟩,H,I.tok _,⟨_,rfl⟩,q⟩) f
def O_(K:PySem.W.Frag):R2:=λx y H Q=>HF K x y H Q\/HG K x y H Q\/HH x y H Q
theorem xl:A4 X (O_ X.K):=A5.or (E2.or E3)
theorem rF(a:List Value)(n j:Nat)(u:Value):Obj.mapSeq (·.setIfInBounds j u) {cls:=.type "list",data:=.seq a.toArray n}={cls:=.type "list",data:=.seq (a.set j u).toArray n}:=by
 simp[Obj.mapSeq]
theorem Inv.lst{pins:List (Addr×Obj)}{σ:St}{H:Hp}{s:Shared}{p:Addr}{xs:List V}(I:Inv X pins σ H s)(h:H p=some (.lst xs)) :
  ∃(a:List Value) (n:Nat),Vals xs a/\s.heap.get? p=some {cls:=.type "list",data:=.seq a.toArray n}/\xs.length<=sizeLine:=by
 obtain⟨z,a,n,r,e⟩:=I.hok p _ h;exact⟨_,n,r,e,z⟩
theorem Inv.E4{pins:List (Addr×Obj)}{σ:St}{H:Hp}{s:Shared}{p:Addr}{xs ys:List V}{c a:List Value}{n d:Nat}{f:Obj->Obj}(I:Inv X pins σ H s)(h:H p=some (.lst xs))
  (i:s.heap.get? p=some {cls:=.type "list",data:=.seq c.toArray n}) (g:f {cls:=.type "list",data:=.seq c.toArray n}={cls:=.type "list",data:=.seq a.toArray d}) (r:Vals ys a) (j:ys.length<=sizeLine) (t:Nat) :
  Inv X pins σ (upd H p (.lst ys)) {s with heap:=s.heap.update p f,toks:=t}:=by
 have e:(s.heap.update p f).get? p=some {cls:=.type "list",data:=.seq a.toArray d}:=by
  rw[Heap.get?_update_self f i (by rw[g]<;>rfl),g]
 refine I.write (by rw[h];trivial) (.inl rfl) (λb u k q=>(Heap.get?_update_other _ _ (Ne.symm k)).trans q) ⟨_,e⟩ ⟨j,_,d,r,e⟩
def HI:V->V->V->Hp->(Hp->Prop)->Prop:=λo i v H Q=>∃p a k j,o=.ref p/\i=.int k/\H p=some (.lst a)/\w_ a.length k=some j/\Q (upd H p (.lst (a.set j v)))
theorem set_list:Mt X HI:=by
 intro pins s A H o i v B C u Q I l m w h;obtain⟨p,D,k,j,rfl,rfl,d,x,q⟩:=h;cases l;obtain⟨t,rfl⟩:=m;obtain⟨a,n,r,b,E⟩:=I.lst d;obtain⟨e,F,y,z⟩:=tm x;have G:=r.length;have J:=gf
 have f:=
  I.E4 d b (rF _ n j u) (r.set w j) (by simp_all) s.toks
 by_cases g:0<=k
 .have c:k.toNat=j:=by
   rw[seqIndex_of g z]at e
   simp_all
  exact PySem.W.ki_setAt b g (by omega) (by simp_all) (by rw[c];exact⟨_,f,q⟩)
 .have c:(k+(a.toArray.size)).toNat=j:=by
   rw[seqIndex_neg (by omega) y]at e
   simp_all
  exact PySem.W.ki_setBack b (by omega) (by simp_all) (by omega) (by rw[c];exact⟨_,f,q⟩)
theorem nP(a b:Option Int)(n:Nat):(sliceBounds a b none n).1=((HT.kE n 0 a:Nat):Int)/\(sliceBounds a b none n).2.1=((HT.kE n n b:Nat):Int)/\(sliceBounds a b none n).2.2=1:=by
 refine⟨?_,?_,rfl⟩
 .cases a with
  |none=>rfl
  |some i=>
   simp only[sliceBounds,HT.kE,Option.getD_none,show(1)>0 by decide,if_true]
   grind
 .cases b with
  |none=>rfl
  |some i=>
   simp only[sliceBounds,HT.kE,Option.getD_none,show(1)>0 by decide,if_true]
   grind
theorem l7(a:List Value)(b c:Option Int):slicePick a.toArray b c none=((a.drop (HT.kE a.length 0 b)).take (HT.kE a.length a.length c - HT.kE a.length 0 b)).toArray:=by
 obtain⟨d,e,f⟩:=nP b c _;unfold slicePick;rw[d,e,f];simp only[sliceRange_one,pick_run,List.size_toArray]
def HJ(K:PySem.W.Frag):V->Option Int->Option Int->Hp->VK->Prop:=λx c d H Q=>∃a b,x=.ref a/\lX K H a b/\∀p,H p=none->Q (.ref p) (upd H p (.lst (w9 b c d)))
theorem iw:EZ X (HJ X.K):=by
 intro pins s p H x v t u e f w Q I g i j k h;obtain⟨a,l,rfl,m,q⟩:=h;cases g;obtain⟨n,r,d,o⟩:=I.list m;have c:=r.length;refine⟨_,_,slot_list_getitem.lookup,d.isList.typeIs,?_⟩;refine wpAny_getItem_list_slice d.isList i j k .none (by simp) ?_ (by grind)
 rw[l7,←c];refine⟨.ref _,_,I.laid (λb y q=>Heap.get?_push_of_some _ q) (Nat.le_refl _) ?_,rfl,q _ (I.hok.fresh (Nat.le_refl _))⟩
 exact⟨Nat.le_trans (pE l e f) o,_,0,(r.drop _).take _,Heap.get?_push_size _ rfl⟩
theorem nQ:d_ X (.builtin "len") (λxs H Q=>∃p ys,xs=[.ref p]/\(lX X.K H p ys\/rn X.K H p ys)/\Q (.int ys.length) H):=by
 intro pins s g H xs i Q I r h;obtain⟨p,ys,rfl,hq,q⟩:=h;obtain⟨u,rfl,e⟩:=vals1 r;cases e;have j:=gf;rcases hq with hq|hq
 .obtain⟨b,c,d,f⟩:=I.list hq
  have a:=c.length;exact Calls.call_len_list d.isList (by grind) ⟨.int _,H,I.tok _,⟨s.toks+1,by grind⟩,q⟩
 .obtain⟨b,c,d,f⟩:=I.tuple hq
  have a:=c.length;exact len_tuple d (by grind) ⟨.int _,H,I.tok _,⟨s.toks+1,by grind⟩,q⟩
theorem nR:d_ X (.builtin "len") (λxs H Q=>∃z,xs=[.str z]/\z.length<=sizeLine/\Q (.int z.length) H):=by
 intro pins s a H xs b Q I r h;obtain⟨z,rfl,c,q⟩:=h;obtain⟨u,rfl,t,rfl⟩:=vals1 r;have d:=gf;exact len_str (by omega) ⟨.int _,H,I.tok _,⟨_,rfl⟩,q⟩
theorem nS:d_ X (.type "list") (λxs H Q=>∃p ys,xs=[.ref p]/\(lX X.K H p ys\/rn X.K H p ys)/\∀l,H l=none->Q (.ref l) (upd H l (.lst ys))):=by
 intro pins s z H xs B Q I r h;obtain⟨p,ys,rfl,hq,q⟩:=h;obtain⟨u,rfl,A⟩:=vals1 r;cases A
 have g:∀(a:List _),Vals ys _->ys.length<=sizeLine->∀(c:Heap) (f:Nat),(∀b y,s.heap.get? b=some y->c.get? b=some y) ->
   c.get? _=some _->EP X _ z Q _ _:=λa d i c f j e=>
  ⟨.ref _,_,I.laid (t':=s.toks) j (Nat.le_refl _) (show cI _ _ _ c _ (.lst ys)from⟨i,a,f,d,e⟩),rfl,q _ (I.hok.fresh (Nat.le_refl _))⟩
 rcases hq with hq|hq
 .obtain⟨a,d,m,i⟩:=I.list hq
  have k:=d.length;obtain⟨o,t,w,n,x⟩:=m.isList;exact call_list_seq p (.inl rfl) t w x (λc f j e=>g _ d i c f j e) (by grind)
 .obtain⟨a,d,m,i⟩:=I.tuple hq
  have k:=d.length;obtain⟨o,t,w,n,x⟩:=m;exact call_list_seq p (.inr rfl) t w x (λc f j e=>g _ d i c f j e) (by grind)
theorem l_:d_ X (.type "tuple") (λxs H Q=>∃p ys,xs=[.ref p]/\((lX X.K H p ys/\∀l,H l=none->Q (.ref l) (upd H l (.tup ys)))\/(rn X.K H p ys/\Q (.ref p) H))):=by
 intro pins s n H xs t Q I r h;obtain⟨p,ys,rfl,h⟩:=h;obtain⟨u,rfl,k⟩:=vals1 r;cases k;rcases h with ⟨a,q⟩|⟨a,q⟩
 .obtain⟨c,d,f,g⟩:=I.list a
  have i:=d.length;refine call_tuple_list f.isList (λw m=>?_) (by grind)
  have j:=I.kept (t':=s.toks) m;exact⟨.ref _,_,(j.laid (t':=s.toks) (λb o e=>Heap.get?_push_of_some _ e) (Nat.le_refl _) (show cI _ _ _ _ _ (.tup ys)from⟨g,_,d,IsTup.new _ _⟩)),rfl,q _ (j.hok.fresh (Nat.le_refl _))⟩
 .obtain⟨c,d,f,g⟩:=I.tuple a
  exact call_tuple_same f ⟨.ref p,H,I,rfl,q⟩
def E5(K:PySem.W.Frag)(T:String)(x:V)(H:Hp):Prop:=match x with
 |.str _=>T="str"
 |.int _=>T="int"
 |.ref p=>(T="list"/\∃b,lX K H p b)\/(T="tuple"/\∃o,K.lookup p=some o/\o.cls=.type "tuple"/\o.dict=none) \/
   (T="dict"/\((∃a,H p=some (.dK a))\/∃a,H p=some (.dT a)))\/(T="set"/\∃S n,H p=some (.set S n))
 |_=>False
theorem xn{pins:List (Addr×Obj)}{σ:St}{H:Hp}{s:Shared}{T:String}{x:V}{v:Value}(I:Inv X pins σ H s)(r:RelV x v)(f:E5 X.K T x H) :
  s.TypeIs v T/\∀a,v=.ref a->∃ob,s.heap.get? a=some ob/\ob.dict=none:=by
 cases x with
 |str z=>
  obtain⟨t,rfl⟩:=r;cases (f);exact⟨typeIs_str s z t,λ_ e=>nomatch e⟩
 |int i=>
  obtain⟨t,rfl⟩:=r;cases (f);exact⟨typeIs_int s i t,λ_ e=>nomatch e⟩
 |ref p=>
  cases r;rcases f with ⟨rfl,u,l⟩|⟨rfl,o,b,m,j⟩|⟨rfl,b⟩|⟨rfl,S,n,b⟩
  .obtain⟨q,_,k,_⟩:=I.list l
   refine⟨k.isList.typeIs,λa e=>?_⟩
   obtain⟨o,n,e,c,j,_⟩:=k
   grind
  .refine⟨⟨o,I.fU p o b,m⟩,λa e=>?_⟩
   cases e;exact⟨o,I.fU _ o b,j⟩
  .have z:∃o,s.heap.get? p=some o/\o.ExactDict:=by
    rcases b with ⟨g,b⟩|⟨g,b⟩
    .obtain⟨_,_,_,_,o,_,_,e,d,_⟩:=I.hok p _ b
     grind
    .obtain⟨_,_,_,_,o,_,_,e,d,_⟩:=I.hok p _ b
     grind
   obtain⟨o,e,d⟩:=z;refine⟨⟨o,e,d.1⟩,λa h=>?_⟩
   cases h;exact⟨o,e,d.2.1⟩
  .obtain⟨o,_,_,_,e,d,_⟩:=I.hok p _ b
   refine⟨⟨o,e,d.1⟩,λa h=>?_⟩
   cases h;exact⟨o,e,d.2.1⟩
 |_=>exact False.elim f
noncomputable def MC(K:PySem.W.Frag)(T:String)(r:V->List V->Hp->VK->Prop)(b:TE):TE:=λc H Q=>b c H λx a=>E5 K T x a/\r x [] a Q
noncomputable def Qp(K:PySem.W.Frag)(T:String)(r:V->List V->Hp->VK->Prop)(c:TE)(t:TA):TE:=λa H Q=>c a H λx b=>E5 K T x b/\t a b λd e=>r x d e Q
variable{o e:Expr}{es:List Expr}{to:TE}{t:TA}{name:Str}{apos cpos:Pos}{T id:String}{r:V->List V->Hp->VK->Prop}
theorem E7(e:PlainAttrs T)(slot:Slot T name id)(c:typeOf (.builtin id)=pure (.type "method_descriptor"))(f:GU X id r)(g:PE X o to)
  (a:attributeBase o name X.env (eval o X.env)=eval o X.env:=by rfl) (b:(apos.endLine==cpos.line)=true:=by rfl):PE X (.Call (.Attribute o name apos) [] [] cpos) (MC X.K T r to):=by
 intro pins s d H Q I h;refine wpAny_Call_method0_late a b (cu (g _ s d H _ I h) λv i ⟨x,H1,I1,r1,ty,q1⟩=>?_)
 obtain⟨j,k⟩:=xn I1 r1 ty;exact⟨T,id,e,slot,c,j,k,Calls.callWith_builtin rfl (PySem.evalArgs_none (f _ i d H1 x [] v [] Q I1 r1 .nil q1))⟩
theorem HK(j:PlainAttrs T)(slot:Slot T name id)(f:typeOf (.builtin id)=pure (.type "method_descriptor"))(k:GU X id r)(l:PE X o to)(m:PA X (e::es) t)
  (a:attributeBase o name X.env (eval o X.env)=eval o X.env:=by rfl)
  (c:((backTo cpos (starEach (e::es) X.env)).all (λx=>!x.1)&&(backToKw cpos (keywordEach [] X.env)).all (λx=>x.1.isSome)
   && decide ((e::es).length+([]:List Keyword).length+(if ([]:List Keyword).isEmpty then 0 else 1)<30))=true:=by rfl)
  (b:(apos.endLine==cpos.line)=true:=by rfl) (n:starEach (e::es) X.env=(false,eval e X.env)::starEach es X.env:=by rfl) (d:(backTo cpos (starEach es X.env)).any (·.1)=false:=by rfl) :
  PE X (.Call (.Attribute o name apos) (e::es) [] cpos) (Qp X.K T r to t):=by
 intro pins s g H Q I h;refine wpAny_Call_method_late a c b rfl (cu (l _ s g H _ I h) λv p ⟨x,H1,I1,r1,ty,q1⟩=>?_)
 obtain⟨q,u⟩:=xn I1 r1 ty;refine⟨T,id,j,slot,f,q,u,?_⟩;have i:=m cpos _ p g H1 _ I1 q1;rw[n]at i ⊢;refine Calls.callWith_builtin (by grind) (Calls.evalArgs_plain (cu i λw y ⟨z,H2,I2,r2,q2⟩=>k _ y g H2 x z v w Q I2 r1 r2 q2))
end
def MD(X:Cx)(id:String)(r:V->List V->Hp->VK->Prop):Prop:=
 ∀(pins:List (Addr×Obj)) (s:Shared) (a:St) (H:Hp) (x:V) (b:List V) (v:Value) (c:List Value) (Q:VK),Inv X pins a H s->RelV x v->Vals b c->r x b H Q ->
  wpAny (model X.prog X.w) X.A (call (.builtin id) (v::c)) (EP X pins a Q) X.xe s
theorem Vals.one:∀{x:V}{us:List Value},Vals [x] us->∃u,us=[u]/\RelV x u
 |_,_,.cons r .nil=>⟨_,rfl,r⟩
theorem Vals.zero:∀{us:List Value},Vals [] us->us=[]
 |_,.nil=>rfl
theorem Vals.reverse{xs:List V}{us:List Value}(h:Vals xs us):Vals xs.reverse us.reverse:=by
 induction h with
 |nil=>exact .nil
 |cons r t a=>rw[List.reverse_cons,List.reverse_cons];exact Vals.append a (.cons r .nil)
section
variable{X:Cx}{pins:List (Addr×Obj)}{σ:St}{H:Hp}{s:Shared}{l b:Addr}{xs ys zs:List V}
theorem Inv.E8{b a:List Value}{n:Nat}{f:Array Value->Array Value}{t':Nat}(I:Inv X pins σ H s)(c:H l=some (.lst xs))
  (e:s.heap.get? l=some {cls:=.type "list",data:=.seq b.toArray n}) (d:f b.toArray=a.toArray) (g:Vals ys a) (h:ys.length<=sizeLine) :
  Inv X pins σ (upd H l (.lst ys)) {s with heap:=s.heap.update l (Obj.mapSeq f),toks:=t' }:=by
 have q:=PySem.IsL.update e f;rw[d]at q;refine I.write (by rw[c];exact trivial) (.inl rfl) (λk u i j=>(Heap.get?_update_other _ _ (Ne.symm i)).trans j) ⟨_,q⟩ ⟨h,_,_,g,q⟩
theorem Inv.ME{a:List Value}{t':Nat}(I:Inv X pins σ H s)(b:Vals ys a)(c:ys.length<=sizeLine) :
  Inv X pins σ (upd H s.heap.objs.size (.lst ys)) {s with heap:=s.heap.push {cls:=.type "list",data:=.seq a.toArray},toks:=t' }:=
 I.laid (λ_ _ q=>Heap.get?_push_of_some _ q) (Nat.le_refl _) ⟨c,_,0,b,Heap.get?_push_size _ rfl⟩
theorem Inv.fresh(I:Inv X pins σ H s):H s.heap.objs.size=none:=I.hok.fresh (Nat.le_refl _)
theorem Inv.A6(I:Inv X pins σ H s)(b:H l=some (.lst xs)):xs.length<=sizeLine/\∃(a:List Value) (n:Nat),Vals xs a/\xs.length=a.length/\s.heap.get? l=some {cls:=.type "list",data:=.seq a.toArray n}:=by
 obtain⟨z,a,n,r,e⟩:=I.hok l _ b;exact⟨z,_,n,r,r.length,e⟩
theorem xo{n:Nat}(h:n<=sizeLine):Builtin.List.listTooLong n=false:=decide_eq_false (by omega)
end
section
variable{X:Cx}
def tq:V->List V->Hp->VK->Prop:=λx b H Q=>∃l a y,x=.ref l/\b=[y]/\H l=some (.lst a)/\a.length<sizeLine/\Q .non (upd H l (.lst (a++[y])))
theorem mJ:MD X "list.append" tq:=by
 intro pins s g H x i v j Q I b c h;obtain⟨l,k,y,rfl,rfl,a,m,q⟩:=h;cases b;obtain⟨u,rfl,d⟩:=c.one;obtain⟨z,f,n,r,o,e⟩:=I.A6 a;refine call_meets F.slot_list_append ⟨_,e,rfl⟩ F.entry_list_append (F.args_list_append_2 _ _) (PySem.list_append l _ n u (by grind)) ⟨e,?_⟩
 refine⟨.non,_,I.E8 a e (by simp) (r.append (.cons d .nil)) ?_,rfl,q⟩
 grind
def tr:V->List V->Hp->VK->Prop:=λx d H Q=>∃l b a c,x=.ref l/\d=[.ref b]/\H l=some (.lst a)/\H b=some (.lst c)/\a.length+c.length<=sizeLine/\Q .non (upd H l (.lst (a++c)))
theorem vi:MD X "list.extend" tr:=by
 intro pins s w H x y v A Q I g i h;obtain⟨l,b,B,C,rfl,rfl,f,j,D,q⟩:=h;cases g;obtain⟨u,rfl,k⟩:=i.one;cases k;obtain⟨z,c,n,r,E,e⟩:=I.A6 f;obtain⟨G,a,m,o,p,t⟩:=I.A6 j;have d:c.toArray.size+a.toArray.size<=sizeLine:=by grind
 refine call_meets F.slot_list_extend ⟨_,e,rfl⟩ F.entry_list_extend (F.args_list_extend_2 _ _)
  (AutoSeq1.list_extend_list_list_0 l _ n b _ m (by
  rw[xo d]
  grind) (by omega) (by omega)) ⟨e,t,?_⟩
 refine⟨.non,_,I.E8 f e (by simp) (r.append o) ?_,rfl,q⟩
 grind
def pF:V->List V->Hp->VK->Prop:=λx b H Q=>∃l a,x=.ref l/\b=[]/\H l=some (.lst a)/\Q .non (upd H l (.lst a.reverse))
theorem rG:MD X "list.reverse" pF:=by
 intro pins s g H x i v j Q I c d h;obtain⟨l,k,rfl,rfl,b,q⟩:=h;cases c;have a:=d.zero;subst a;obtain⟨z,f,n,r,m,e⟩:=I.A6 b;refine call_meets F.slot_list_reverse ⟨_,e,rfl⟩ F.entry_list_reverse (F.args_list_reverse_1 _) (AutoSeq1.list_reverse_list_0 l _ n (by simp_all)) ⟨e,?_⟩
 refine⟨.non,_,I.E8 b e (by simp) r.reverse ?_,rfl,q⟩
 simp_all
end
section
variable{prog:Program}{w:World}{A:Around}{E:Value->Shared->Prop}{s:Shared}
end
section
variable{X:Cx}
end
section
variable{κ:Type}[DecidableEq κ]
noncomputable def ix(kvs:List (κ×V))(k:κ):Option V:=(kvs.find? λa=>decide (a.1=k)).map (·.2)
noncomputable def putK(kvs:List (κ×V))(k:κ)(v:V):List (κ×V):=
 if (kvs.any λa=>decide (a.1=k))=true then kvs.map (λa=>if a.1=k then (a.1,v)else a)else kvs++[(k,v)]
theorem iy{p:κ×V}{r:List (κ×V)}{k:κ}(e:p.1=k):ix (p::r) k=some p.2:=by simp[ix,List.find?_cons,e]
theorem iz{p:κ×V}{r:List (κ×V)}{k:κ}(e:¬ p.1=k):ix (p::r) k=ix r k:=by simp[ix,List.find?_cons,e]
theorem pG(k:κ):∀kvs:List (κ×V),(kvs.any λa=>decide (a.1=k))=(ix kvs k).isSome
 |[]=>rfl
 |p::r=>by
  rw[List.any_cons]
  by_cases e:p.1=k
  .simp only[iy e,decide_eq_true e,Bool.true_or,Option.isSome_some]
  .rw[iz e,decide_eq_false e];exact pG k r
theorem gh(kvs:List (κ×V))(k:κ)(v:V):(putK kvs k v).length<=kvs.length+1:=by
 unfold putK
 grind
theorem hP.fh{o:Option V}{u:Option Value}(r:hP o u):o.isSome=u.isSome:=by
 cases o with
 |none=>cases u with
  |none=>rfl
  |some _=>exact(r).elim
 |some _=>cases u with
  |none=>exact(r).elim
  |some _=>rfl
theorem KV.val{kvs:List (κ×V)}{vs:List (κ×Value)}(r:KV kvs vs)(k:κ):hP (ix kvs k) (valueAt vs k):=by
 induction r with
 |nil=>exact True.intro
 |@cons p q f a h t g=>
  obtain⟨d,i⟩:=h
  by_cases e:p.1=k
  .have c:=d.symm.trans e
   have b:valueAt (q::a) k=some q.2:=by simp[valueAt,List.find?_cons,c]
   rwa[iy e,b]
  .have c:¬ q.1=k:=λz=>e (d.trans z)
   have b:valueAt (q::a) k=valueAt a k:=by simp[valueAt,List.find?_cons,c]
   rwa[iz e,b]
theorem KV.any{kvs:List (κ×V)}{vs:List (κ×Value)}(r:KV kvs vs)(k:κ):(kvs.any λa=>decide (a.1=k))=vs.any λa=>decide (a.1=k):=by
 induction r with
 |nil=>rfl
 |cons h t b=>simp_all
theorem KV.repl{kvs:List (κ×V)}{vs:List (κ×Value)}(r:KV kvs vs)(k:κ){y:V}{u:Value}(c:RelV y u) :
  KV (kvs.map λa=>if a.1=k then (a.1,y)else a) (vs.map λa=>if a.1=k then (a.1,u)else a):=by
 induction r with
 |nil=>exact .nil
 |@cons p q d e h t b=>
  refine .cons ?_ b
  grind
theorem KV.put{kvs:List (κ×V)}{vs:List (κ×Value)}(r:KV kvs vs)(k:κ){y:V}{u:Value}(a:RelV y u):KV (putK kvs k y) (stored vs k u):=by
 unfold putK stored;rw[r.any k]
 by_cases e:(vs.any λb=>decide (b.1=k))=true
 .rw[if_pos e,if_pos e];exact r.repl k a
 .rw[if_neg e,if_neg e];exact Paired.snoc r ⟨rfl,a⟩
theorem KV.length{kvs:List (κ×V)}{vs:List (κ×Value)}(r:KV kvs vs):kvs.length=vs.length:=Paired.length r
end
theorem mK{P:Program}{w:World}{k:Key}{u:Value}(r:RelV (kV k) u):(bW P w).is k u=true:=by
 cases k with
 |inl i=>obtain⟨t,e⟩:=(r);subst e;exact pj P w i t
 |inr x=>obtain⟨t,e⟩:=(r);subst e;exact pk P w x t
theorem mL{P:Program}{w:World}:∀{a:List Key}{us:List Value},Vals (a.map kV) us->ItemsAre (bW P w) a us
 |[],_,r=>by cases r;exact .nil
 |k::a,_,r=>by
  cases r with
  |cons h t=>exact .cons (mK h) (mL t)
abbrev KT(H:Hp):List (List Key×V)->List (List Key×Addr×Value)->Prop:=Paired λp q=>p.1=q.1/\H q.2.1=some (.tup (p.1.map kV))/\RelV p.2 q.2.2
theorem KT.val{H:Hp}{kvs:List (List Key×V)}{xs:List (List Key×Addr×Value)}(r:KT H kvs xs)(k:List Key):hP (ix kvs k) ((atKey xs k).map (·.2)):=by
 induction r with
 |nil=>exact True.intro
 |@cons p q f a h t g=>
  obtain⟨c,_,i⟩:=h
  by_cases e:p.1=k
  .have b:atKey (q::a) k=some q.2:=by simp[atKey,List.find?_cons,(c.symm.trans e)]
   rwa[iy e,b]
  .have d:¬ q.1=k:=λz=>e (c.trans z)
   have b:atKey (q::a) k=atKey a k:=by simp[atKey,List.find?_cons,d]
   rwa[iz e,b]
theorem KT.repl{H:Hp}{kvs:List (List Key×V)}{xs:List (List Key×Addr×Value)}(r:KT H kvs xs)(k:List Key){y:V}{u:Value}(c:RelV y u) :
  KT H (kvs.map λa=>if a.1=k then (a.1,y)else a) (xs.map (putAt k u)):=by
 induction r with
 |nil=>exact .nil
 |@cons p q d f h t b=>
  refine .cons ?_ b;unfold putAt
  by_cases e:p.1=k
  .simp_all
  simp_all
theorem KT.put{H:Hp}{kvs:List (List Key×V)}{xs:List (List Key×Addr×Value)}(r:KT H kvs xs)(k:List Key){b:Addr}{y:V}{u:Value}(c:H b=some (.tup (k.map kV)))(a:RelV y u) :
  KT H (putK kvs k y) (storedH xs k b u):=by
 have e:(kvs.any λd=>decide (d.1=k))=(atKey xs k).isSome:=by
  rw[pG,(r.val k).fh,Option.isSome_map]
 unfold putK storedH;rw[e]
 by_cases q:(atKey xs k).isSome=true
 .rw[if_pos q,if_pos q];exact r.repl k a
 .rw[if_neg q,if_neg q];exact Paired.snoc r ⟨rfl,c,a⟩
theorem KT.keeps{H a:Hp}{kvs:List (List Key×V)}{xs:List (List Key×Addr×Value)}(r:KT H kvs xs)(c:∀b ys,H b=some (.tup ys)->a b=some (.tup ys)):KT a kvs xs:=
 Paired.Ep r λ_ _ z=>⟨z.1,c _ _ z.2.1,z.2.2⟩
section
variable{P:Program}{w:World}{H:Hp}{h:Heap}{a:Addr}
theorem xq{u:HO}(ok:fE P w H h)(e:Rd H a u):cI P w H h a u:=e.ok ok
theorem mM{kvs:List (Key×V)}(ok:fE P w H h)(e:Rd H a (.dK kvs)):kvs.length<=sizeLine/\(a==sysModules)=false/\∃vs,KV kvs vs/\h.DictOf (bW P w) a vs:=
 xq ok e
theorem HL{kvs:List (Key×V)}(ok:fE P w H h)(e:H a=some (.dK kvs)):kvs.length<=sizeLine/\(a==sysModules)=false/\∃vs,KV kvs vs/\h.DictOf (bW P w) a vs:=mM ok (.inl e)
theorem kF{b:List Key}(ok:fE P w H h)(e:H a=some (.tup (b.map kV))):(tupleKind (bW P w)).is h b a:=by
 obtain⟨_,c,r,o,d,f,n,g⟩:=(ok a _ e);exact⟨o,_,n,d,f,g,by simpa using mL r⟩
theorem pH{kvs:List (List Key×V)}(ok:fE P w H h)(e:Rd H a (.dT kvs)):kvs.length<=sizeLine/\(a==sysModules)=false /\
  ∃xs,KT H kvs xs/\h.DictOfH (tupleKind (bW P w)) a xs:=by
 obtain⟨z,y,xs,r,o,c,d,f,g,i,j,k⟩:=(xq ok e);refine⟨z,y,xs,r,o,c,d,f,g,i,j,λx hx=>?_,k⟩
 have b:∀{l:List _}{m:List _},KT H l m->∀x∈m,(tupleKind (bW P w)).is h x.1 x.2.1:=by
  intro l m q
  induction q with
  |nil=>simp
  |@cons p q s u A t n=>
   intro x hx;rcases List.mem_cons.mp hx with e|hx
   .exact kF ok (by simp_all)
   .exact n x hx
 exact b r x hx
theorem DL{kvs:List (List Key×V)}(ok:fE P w H h)(e:H a=some (.dT kvs)):kvs.length<=sizeLine/\(a==sysModules)=false /\
  ∃xs,KT H kvs xs/\h.DictOfH (tupleKind (bW P w)) a xs:=pH ok (.inl e)
end
def jg(H:Hp)(a:Addr)(y:V)(r:Option V):Prop:=
 (∃c k,Rd H a (.dK c)/\y=kV k/\r=ix c k)\/∃c k b,Rd H a (.dT c)/\y=.ref b/\H b=some (.tup (k.map kV))/\r=ix c k
def pI(H:Hp)(a:Addr)(y v:V)(d:Hp):Prop:=
 (∃c k,H a=some (.dK c)/\y=kV k/\c.length<sizeLine/\d=upd H a (.dK (putK c k v))) \/
 ∃c k b,H a=some (.dT c)/\y=.ref b/\H b=some (.tup (k.map kV))/\c.length<sizeLine/\d=upd H a (.dT (putK c k v))
theorem jg.k{H:Hp}{a:Addr}{kvs:List (Key×V)}{k:Key}(e:H a=some (.dK kvs)):jg H a (kV k) (ix kvs k):=.inl ⟨_,k,.inl e,rfl,rfl⟩
theorem jg.t{H:Hp}{a b:Addr}{kvs:List (List Key×V)}{k:List Key}(e:H a=some (.dT kvs))(c:H b=some (.tup (k.map kV))):jg H a (.ref b) (ix kvs k):=.inr ⟨_,k,b,.inl e,rfl,c,rfl⟩
theorem pI.k{H:Hp}{a:Addr}{kvs:List (Key×V)}{k:Key}{v:V}(e:H a=some (.dK kvs))(b:kvs.length<sizeLine):pI H a (kV k) v (upd H a (.dK (putK kvs k v))):=.inl ⟨_,k,e,rfl,b,rfl⟩
theorem pI.t{H:Hp}{a b:Addr}{kvs:List (List Key×V)}{k:List Key}{v:V}(e:H a=some (.dT kvs))(c:H b=some (.tup (k.map kV)))(d:kvs.length<sizeLine) :
  pI H a (.ref b) v (upd H a (.dT (putK kvs k v))):=.inr ⟨_,k,b,e,rfl,c,d,rfl⟩
section
variable{X:Cx}{pins:List (Addr×Obj)}{σ:St}{H:Hp}{s:Shared}{a:Addr}{y v:V}{u r:Value}{o:Option V}{A:Around}{E:Value->Shared->Prop}
theorem Inv.big(I:Inv X pins σ H s):sysModules<s.heap.objs.size:=by
 exact Nat.lt_trans (by decide) ((I.mod.glob.keeps I.bk).lt)
theorem vl{Q:Value->Shared->Prop}(t:A.units+1<cLine)(I:Inv X pins σ H s)(g:jg H a y (some v))(q:RelV y u)(h:∀f r,Inv X pins σ H r->RelV v f->Q f r) :
  wpAny (model X.prog X.w) A (getItem (.ref a) u) Q E s:=by
 rcases g with ⟨i,k,e,j,l⟩|⟨i,k,b,e,j,x,l⟩
 .subst j
  obtain⟨z,B,D,c,m⟩:=mM I.hok e;obtain⟨f,n,d⟩:=hP.some_of (by rw[l];exact c.val k)
  exact wpAny_getItem_of (mK q) m.mapOf n (h f _ (I.tok _) d)
 .subst j
  cases (q);obtain⟨z,B,F,c,m⟩:=pH I.hok e;obtain⟨f,n,d⟩:=hP.some_of (by rw[l];exact c.val k)
  obtain⟨p,C,o⟩:=Option.map_eq_some_iff.mp n;refine wpAny_getItem_heap (tupleKind_room_in1 t) (kF I.hok x) m C ?_;rw[o];exact h f _ (I.tok _) d
theorem MF{Q:Value->Shared->Prop}(p:A.units+1<cLine)(I:Inv X pins σ H s)(g:jg H a y o)(m:RelV y u)(h:∀n,Inv X pins σ H n->Q (.bool o.isSome) n) :
  wpAny (model X.prog X.w) A (compareOp .In u (.ref a)) Q E s:=by
 rcases g with ⟨d,k,e,f,l⟩|⟨d,k,b,e,f,r,l⟩
 .subst f
  obtain⟨z,i,t,c,j⟩:=mM I.hok e;refine wpAny_in_of (mK m) i j.mapOf ?_;rw[←(c.val k).fh,←l];exact h _ (I.tok _)
 .subst f
  cases (m);obtain⟨z,i,x,c,j⟩:=pH I.hok e;refine wpAny_in_heap (tupleKind_room_in1 p) (kF I.hok r) i j ?_;have q:=(c.val k).fh;rw[Option.isSome_map]at q;rw[←q,←l];exact h _ (I.tok _)
theorem A7{Q:Value->Shared->Prop}(p:A.units+1<cLine)(I:Inv X pins σ H s)(g:jg H a y o)(m:RelV y u)(h:∀n,Inv X pins σ H n->Q (.bool (!o.isSome)) n) :
  wpAny (model X.prog X.w) A (compareOp .NotIn u (.ref a)) Q E s:=by
 rcases g with ⟨d,k,e,f,l⟩|⟨d,k,b,e,f,r,l⟩
 .subst f
  obtain⟨z,i,t,c,j⟩:=mM I.hok e;refine wpAny_notIn_of (mK m) i j.mapOf ?_;rw[←(c.val k).fh,←l];exact h _ (I.tok _)
 .subst f
  cases (m);obtain⟨z,i,x,c,j⟩:=pH I.hok e;refine wpAny_notIn_heap (tupleKind_room_in1 p) (kF I.hok r) i j ?_;have q:=(c.val k).fh;rw[Option.isSome_map]at q;rw[←q,←l];exact h _ (I.tok _)
theorem nT{c:Heap}{t':Nat}{ob:HO}(I:Inv X pins σ H s)(e:Hf (H a))(f:Heap.SameBut a s.heap c)(g:∃q,c.get? a=some q)(d:cI X.prog X.w (upd H a ob) c a ob) :
  Inv X pins σ (upd H a ob) {s with heap:=c,toks:=t' }:=
 I.write e (.inl rfl) (λb q h z=>(f.2 b h).trans z) g d
theorem xr{P:Program}{w:World}{d:Hp}{c:Heap}{kvs:List (Key×V)}{vs:List (Key×Value)}(z:kvs.length<=sizeLine)(e:(a==sysModules)=false)(b:KV kvs vs)(dd:c.DictOf (bW P w) a vs) :
  cI P w d c a (.dK kvs):=⟨z,e,vs,b,dd⟩
theorem vm{x:Hp}{Q:Unit->Shared->Prop}(G:A.units+1<cLine)(I:Inv X pins σ H s)(g:pI H a y v x)(B:RelV y u)(C:RelV v r)(h:∀D,Inv X pins σ x D->Q () D) :
  wpAny (model X.prog X.w) A (setItem (.ref a) u r) Q E s:=by
 rcases g with ⟨i,k,e,m,l,n⟩|⟨i,k,b,e,m,F,l,n⟩
 .subst m n
  obtain⟨z,o,J,d,p⟩:=HL I.hok e;have K:J.length<=sizeLine:=by rwa[←d.length]
  refine wpAny_setItem_pairs (mK B) p λL f t=>h _ ?_
  exact nT I (by rw[e];exact True.intro) t (let ⟨q,_,_,j,_⟩:=f;⟨q,j⟩) (xr (by have:=gh i k v;omega) o (d.put k C) f)
 .subst m n
  cases (B);obtain⟨z,o,M,d,p⟩:=DL I.hok e;have K:M.length<=sizeLine:=by rwa[←Paired.length d]
  refine wpAny_setItem_heap (tupleKind_room_in1 G) (kF I.hok F) p λL f t=>h _ ?_
  obtain⟨q,N,O,j,P,R,S,_,T⟩:=f;refine nT I (by rw[e];exact True.intro) t ⟨q,j⟩ ⟨(by have:=gh i k v;omega),o,_,(d.put k F C).keeps λc U V=>?_,q,N,O,j,P,R,S,T⟩
  rwa[ao (by grind)]
end
section
variable{X:Cx}{pins:List (Addr×Obj)}{σ:St}{H:Hp}{s:Shared}{a:Addr}{kvs:List (Key×V)}{k:Key}{u:Value}{A:Around}{E:Value->Shared->Prop}
end
def HM(i:Expr):Prop:=∀a b,subscripted i false a b=operate [a,b] (getItem a b)
theorem A8{prog:Program}{w:World}{A:Around}{E:Value->Shared->Prop}{s:Shared}{env:Env}{b a:Expr}{pos:Pos}{T id:String}{Q:Value->Shared->Prop}
  (k:typeLookup (.type T) "__getitem__"=pure (some (.builtin id))) (l:HM a)
  (h:wpAny (model prog w) A (eval b env) (λo e=>wpAny (model prog w) A (eval a env) (λi c=>c.TypeIs o T/\wpAny (model prog w) A (getItem o i) Q E c) E e) E s) :
  wpAny (model prog w) A (eval (.Subscript b a pos) env) Q E s:=by
 refine Subscript_ (wpAny_mono h (λo e f=>wpAny_mono f (λi c d=>?_) λ_ _ x=>x) λ_ _ x=>x)
 obtain⟨m,d⟩:=d;refine wpAny_bind ?_;refine wpAny_bind (wpAny_specialOf m k ?_)
 first
  |exact wpAny_pure (wpAny_bind (by
  rw[l o i];exact wpAny_operating (wpAny_mono d (λr j g=>wpAny_bind (wpAny_letTemporaryGo (wpAny_pure g))) λ_ _ x=>x)))
theorem pJ{X:Cx}{pins:List (Addr×Obj)}{σ:St}{H:Hp}{s:Shared}{a:Addr}{y:V}{o:Option V}(I:Inv X pins σ H s)(g:jg H a y o):s.TypeIs (.ref a) "dict":=by
 rcases g with ⟨c,k,e,_,_⟩|⟨c,k,b,e,_,_,_⟩
 .obtain⟨_,_,f,_,d⟩:=mM I.hok e
  exact d.typeIs
 .obtain⟨_,_,h,_,d⟩:=pH I.hok e
  exact d.typeIs
noncomputable def HN(td d:TE):TE:=λb H Q=>td b H λx e=>d b e λy c=>∃a v,x=.ref a/\jg c a y (some v)/\Q v c
section
variable{X:Cx}{o i e value:Expr}{pos pos' tpos:Pos}{td ty tv:TE}
theorem A9(d:X.A.units+1<cLine)(e:PE X o td)(f:PE X i ty)(j:HM i):PE X (.Subscript o i pos) (HN td ty):=by
 intro pins s c H Q I h;refine A8 PySem.F.slot_dict_getitem.lookup j (cu (e _ s c H _ I h) λu k ⟨x,H1,I1,rx,q1⟩=>cu (f _ k c H1 _ I1 q1) λm n ⟨y,H2,I2,ry,a,v,ex,g,q2⟩=>?_)
 subst ex;obtain rfl:u=Value.ref a:=rx;exact⟨pJ I2 g,vl d I2 g ry λp q l b=>⟨v,H2,l,b,q2⟩⟩
end
theorem xu{P:Program}{w:World}{H:Hp}(h:Heap)(a:sysModules<h.objs.size):cI P w H (h.push {cls:=.type "dict",data:=.dict #[]}) h.objs.size (.dK []):=
 ⟨Nat.zero_le _,beq_eq_false_iff_ne.mpr (Ne.symm (Nat.ne_of_lt a)),[],.nil,Heap.DictOf.new h⟩
theorem xv{P:Program}{w:World}{H:Hp}(h:Heap)(a:sysModules<h.objs.size):cI P w H (h.push {cls:=.type "dict",data:=.dict #[]}) h.objs.size (.dT []):=
 ⟨Nat.zero_le _,by grind,[],.nil,_,_,0,Heap.get?_push_size _ rfl,⟨rfl,rfl,rfl⟩,rfl,rfl,by simp⟩
def E9:TE:=λ_ H Q=>∀p,H p=none->Q (.ref p) (upd H p (.dK []))
def E_:TE:=λ_ H Q=>∀p,H p=none->Q (.ref p) (upd H p (.dT []))
section
variable{X:Cx}{pos:Pos}
theorem xy:PE X (.Dict [] [] pos) E9:=λpins s a H Q I h=>
 wpAny_Dict_empty ⟨.ref _,_,I.laid (λ_ _ q=>Heap.get?_push_of_some _ q) (Nat.le_refl _) (xu _ I.big),rfl,h _ (I.hok.fresh (Nat.le_refl _))⟩
theorem xB:PE X (.Dict [] [] pos) E_:=λpins s a H Q I h=>
 wpAny_Dict_empty ⟨.ref _,_,I.laid (λ_ _ q=>Heap.get?_push_of_some _ q) (Nat.le_refl _) (xv _ I.big),rfl,h _ (I.hok.fresh (Nat.le_refl _))⟩
end
section
variable{X:Cx}{pins:List (Addr×Obj)}{σ:St}{H:Hp}{s:Shared}{a:Addr}{y d:V}{u r:Value}{o:Option V}{A:Around}{E:Value->Shared->Prop}
end
section
variable{X:Cx}{o e f:Expr}{apos cpos:Pos}{td ty tx:TE}
end
section
variable{X:Cx}{pins:List (Addr×Obj)}{σ:St}{H:Hp}{s:Shared}{a:Addr}{kvs:List (Key×V)}{A:Around}{E:Value->Shared->Prop}
end
section
variable{X:Cx}{pins:List (Addr×Obj)}{σ:St}{H:Hp}{s:Shared}{a:Addr}{y:V}{u:Value}{A:Around}{E:Value->Shared->Prop}
end
end L2
namespace Pa
open PySem PySem.W PySem.Calls PyProof.Rows
theorem jQ{P:Params}{h:Heap}:∀(ns:List Int) (vs:List Value),WellAll P h vs (ns.map WData.int)->IntsAre vs ns:=by
 intro ns
 induction ns with
 |nil=>
  intro vs w;cases w;exact .nil
 |cons n ns c=>
  intro vs w;cases w with
  |cons a b=>
   cases a;exact .cons _ _ (c _ b)
theorem vn{l:OpenLaw}{n:Nat}(j:l.most=some n){P:Params}{h:Heap}{args:List WData}{b:List Value}
  (c:l.row.toRowW.claim.pre args=true) (g:WellAll P h b args) :
  ∃a vs ns,b=[Value.ref a]/\args=[WData.list (ns.map WData.int)]/\h.get? a=some {cls:=.type "list",data:=.seq vs.toArray}/\IntsAre vs ns/\ns.length<=n:=by
 obtain⟨d,r,rfl,k,m⟩:=hasAllW_cons ((pre_splitW c).1);obtain rfl:=hasAllW_nil m;obtain⟨t,rfl,o⟩:=hasW_list k;obtain⟨ns,rfl⟩:=items_int o
 have e:ns.length<=n:=by
  have i:=by
   have i:=(holds_andW ((pre_splitW c).2)).1;rwa[j]at i
  have u:=condW_of i (w_not (w_lt w_lit (w_len_list (w_arg rfl))))
  grind
 cases g with
 |cons p q=>
  cases q;cases p with
  |list s f=>exact⟨_,_,ns,rfl,rfl,s,jQ ns _ f,e⟩
theorem vo(l:OpenLaw)(args:List WData):l.row.toRowW.claim.post args (.bool true) args=true:=
 postW_of
  (by rfl)
  (w_eq_bool (w_res rfl) w_lit) rfl
theorem pK{l:OpenLaw}{n:Nat}{q:Program}{c:List Str}{C:(Str->Option Value)->Heap->Prop}{D:World->Heap->Prop}{d:DefRec}
  (I:l.most=some n) (u:d.params.defaults=[])
  (call:∀(w:World) (e b:Shared) (p x:Str->Option Value) (h:Addr) (o:Obj) (y s i:Value) (a:Addr) (vs:List Value) (ns:List Int),
   Ground q c [] C w e p x b.heap->D w b.heap ->
   b.heap.get? h=some o->o.data=.func (docDef d.name d.params d.body d.scope y s i)->b.heap.CodeRec s d.name->p d.name=some (.ref h) ->
   b.heap.get? a=some {cls:=.type "list",data:=.seq vs.toArray}->IntsAre vs ns->ns.length<=n->b.gens = #[] ->
   codeAny (model l.prog w) callerA (.call (.ref h) ⟨[.ref a],[]⟩) (λr t=>r=.ok (.ret (.bool true))/\OldK b.heap t.heap/\t.os=b.os/\AllBare t.gens) b) :
  WalkO q c C D l.row.toRowW d [] (λf vs=>PySem.call f vs):=by
 intro w e b p x G Y h o y s i J kV K L z E A M args F T j H N B O;obtain rfl:J=.none:=Dflts.none E u;obtain rfl:kV=.none:=Dflts.noKw E;obtain⟨a,vs,ns,rfl,rfl,k,g,m⟩:=vn I j B;refine enter_call (codeAny_mono (call w _ _ p x h o y s _ a vs ns G Y K (fd_plain L) z A k g m M) λr t P=>?_)
 obtain⟨rfl,Q,R,S⟩:=P;exact⟨.inl ⟨_,_,[],rfl,λ_=>rfl,.bool _,vo l _,by simp⟩,Q,R,S⟩
section
variable{prog:Program}{w:World}{A:Around}{E:Value->Shared->Prop}{s:Shared}{K:Frag}
end
end Pa
namespace L2
open PySem PySem.Spec PyProof.Rows
theorem jh:∀{vs:List Value}{ns:List Int},IntsAre vs ns->Vals (ns.map V.int) vs
 |_,_,.nil=>.nil
 |_,_,.cons n t h=>.cons ⟨t,rfl⟩ (jh h)
noncomputable def inClass(s:Stmt)(j:Nat):Stmt:=match s with
 |.ClassDef _ _ _ body _ _ _ _ _ _ _=>body.getD j (.Pass ⟨0,0,0,0⟩)
 |_=>.Pass ⟨0,0,0,0⟩
noncomputable def cx(s:Stmt):Arguments:=match s with
 |.FunctionDef _ a _ _ _ _ _ _ _ _=>a
 |_=>{posonlyargs:=[],args:=[],vararg:=none,kwonlyargs:=[],kw_defaults:=[],kwarg:=none,defaults:=[]}
noncomputable def aT(s:Stmt):List Stmt:=match s with
 |.FunctionDef _ _ b _ _ _ _ _ _ _=>b
 |_=>[]
noncomputable def af(s:Stmt):Scope:=match s with
 |.FunctionDef _ _ _ _ _ _ a _ _ _=>a
 |_=>{kind:=.function,names:=[],isGenerator:=false,isCoroutine:=false}
abbrev dH:pB:=λ_ _ _ _ _ _=>False
abbrev E0:XK:=λ_ _ _=>False
theorem pL{X:Cx}:Passes dH X E0:=λ_ _ _ _ _ _ _ h=>h.elim
structure tw(K:PySem.W.Frag)(x qual:Str)(st:Stmt)(f:Addr)(fd:FuncData):Prop where
 ex:∃(oc:Value) (od:Option Addr) (kV doc pm:Value) (an:Option Addr) (cdv ct:Value) (osl:Array (Option Value)),
  fd=PySem.W.fnOf x qual (cx st) (aT st) (af st) .none kV doc pm an cdv ct/\K.lookup f=some ⟨oc,od,.func fd,osl⟩/\PySem.W.codeIn K cdv qual=true
 kp:PySem.W.keepIn K (.ref f)=true
section
variable{P:Program}{w:World}{K:PySem.W.Frag}{mg:Str->Option Value}{base:Heap}
theorem tw.ok{x qual:Str}{st:Stmt}{f:Addr}{g:FuncData}{N ps:List Str}{k:Nat}{sp:Sp}(F:tw K x qual st f g)(S:gG N ps (af st))(c:∀vs H Q E,sp vs H Q E->vs.length=ps.length)
  (a:∀(b:Value) (A:Around) (outer:List Env) (s:Shared) (H:Hp) (vs:List V) (Q:VK) (E:XK),bE k (A.deeper (envOfC qual (af st) s.heap.objs.size f b))->sp vs H Q E ->
   ∃t,gb (bF dH P w K mg base N qual (af st) f b A outer s H E).fg (aT st) t/\t {nx:=λ_ i=>Q .non i,rt:=Q} (start N vs) H):bP P w K mg base dH (k+1) f g ps sp:=by
 obtain⟨oc,o,kV,j,p,r,b,ct,l,rfl,m,d⟩:=F.ex;refine w6 m d S c λA outer s H vs Q E n e=>?_
 obtain⟨t,h,q⟩:=a _ A _ s H vs Q E n e;exact⟨t,h.fg,q⟩
theorem tw.binds{x qual:Str}{st:Stmt}{f:Addr}{e:FuncData}{ps:List Str}(F:tw K x qual st f e)
  (h:∀(kV a c:Value) (d:Option Addr) (b ct:Value) (us:List Value),us.length=ps.length->bindArgs (PySem.W.fnOf x qual (cx st) (aT st) (af st) .none kV a c d b ct) ⟨us,[]⟩=pure (ps.zip us)):Binds K e ps []:=by
 obtain⟨oc,j,kV,a,c,d,b,ct,g,rfl,k,i⟩:=F.ex;exact .all (h kV _ c d _ ct)
theorem rH{x qual:Str}{st:Stmt}{f:Addr}{oc:Value}{h d:Option Addr}{e:Array (Option Value)}{kV b g a ct:Value}(l:K.lookup f=some ⟨oc,h,.func (PySem.W.fnOf x qual (cx st) (aT st) (af st) .none kV b g d a ct),e⟩)
  (c:PySem.W.codeIn K a qual=true) (k:PySem.W.keepIn K (.ref f)=true):tw K x qual st f (PySem.W.fnOf x qual (cx st) (aT st) (af st) .none kV b g d a ct):=⟨⟨oc,h,kV,_,g,d,_,ct,_,rfl,l,c⟩,k⟩
end
section
variable{X:Cx}
end
theorem pM{A B:Prop}(h:B):if false=true then A else B:=by
 grind
theorem pN{A B:Prop}(h:A):if true=true then A else B:=h
def iA(H a:Hp):Prop:=∀b o,H b=some o->a b=some o
theorem iA.refl(H:Hp):iA H H:=λ_ _ h=>h
theorem iA.trans{H d e:Hp}(a:iA H d)(b:iA d e):iA H e:=λc o h=>b c o (a c o h)
section
variable{κ:Type}[DecidableEq κ]
end
end L2
namespace Mir
open PySem
inductive D where
 |non|bl (b:Bool)|int (i:Int)|str (x:Str)
 |lst (xs:List D)|tup (xs:List D)|dct (ks:List L2.Key) (vs:List D)|ref (n:Nat)
 deriving Inhabited
inductive Out (α:Type) where
 |ok (a:α)|exc (c:Str) (fs:List (Str×D))|bad
noncomputable def Out.bind{b d:Type}:Out b->(b->Out d)->Out d
 |.ok a,f=>f a
 |.exc c fs,_=>.exc c fs
 |.bad,_=>.bad
instance:Monad Out where
 pure:=.ok
 bind:=Out.bind
@[simp] theorem Ku{b c:Type}(a:b)(f:b->Out c):(Out.ok a >>= f)=f a:=rfl
@[simp] theorem HP{a b:Type}(f:a->Out b):((Out.bad:Out a) >>= f)=.bad:=rfl
@[simp] theorem HQ{a b:Type}(c fs)(f:a->Out b):((Out.exc c fs:Out a) >>= f)=.exc c fs:=rfl
@[simp] theorem Kv{b:Type}(a:b):(pure a:Out b)=.ok a:=rfl
mutual
noncomputable def en:D->D->Bool
 |.non,.non=>true
 |.bl a,.bl b=>a==b
 |.bl a,.int j=>(if a then 1 else 0)==j
 |.int i,.bl b=>i==(if b then 1 else 0)
 |.int i,.int j=>i==j
 |.str x,.str y=>x==y
 |.lst xs,.lst ys=>e_ xs ys
 |.tup xs,.tup ys=>e_ xs ys
 |_,_=>false
noncomputable def e_:List D->List D->Bool
 |[],[]=>true
 |x::xs,y::ys=>en x y&&e_ xs ys
 |_,_=>false
end
noncomputable def aH:Nat->D->Bool
 |_,.non|_,.bl _|_,.int _|_,.str _=>true
 |n+1,.lst xs|n+1,.tup xs=>xs.all (aH n)
 |_,_=>false
noncomputable def small(n:Nat):Bool:=decide (n<=sizeLine)
def jR:D->Option Bool
 |.non=>some false
 |.bl b=>some b
 |.int i=>some (i != 0)
 |.str x=>if small x.length then some (x.length != 0)else none
 |.lst xs=>some (!xs.isEmpty)
 |.tup xs=>some (!xs.isEmpty)
 |_=>none
abbrev Rs:=Bool×D
noncomputable def gi(i:Int):Bool:=decide (i.natAbs<18446744073709551616)
theorem pO{i:Int}(h:gi i=true): -(2 ^ 64)<i/\i<2 ^ 64:=by
 have:=of_decide_eq_true h;omega
def eS(op:Operator)(x y:D):Out Rs:=
 match op,x,y with
 |.Add,.int i,.int j=>.ok (false,.int (i+j))
 |.Sub,.int i,.int j=>.ok (false,.int (i - j))
 |.Mult,.int i,.int j=>if gi i||gi j then .ok (false,.int (i*j))else .bad
 |.FloorDiv,.int i,.int j=>if decide (0<j)&&decide (j<1073741824)then .ok (false,.int (i / j))else .bad
 |.Mod,.int i,.int j=>if decide (0<j)then .ok (false,.int (i%j))else .bad
 |.Pow,.int i,.int j=>if decide (0<=j)&&decide (j<=1000)&&decide (i.natAbs<2 ^ 64)then .ok (false,.int (i ^ j.toNat))else .bad
 |.Add,.str i,.str j=>if small (i.length+j.length)then .ok (false,.str (i++j))else .bad
 |.Add,.lst i,.lst j=>if small (i.length+j.length)then .ok (true,.lst (i++j))else .bad
 |_,_,_=>.bad
noncomputable def DM(x y:Str):Bool := !(Builtin.Str.occurrences y x 0 y.length 1).isEmpty
def inD(x y:D):Out Bool:=
 match x,y with
 |x,.lst a=>if aH 8 x&&a.all (aH 8)then .ok (a.any λy=>en y x)else .bad
 |x,.tup a=>if aH 8 x&&a.all (aH 8)then .ok (a.any λy=>en y x)else .bad
 |.str x,.str y=>.ok (DM x y)
 |_,_=>.bad
noncomputable def isD(x y:D):Out Bool:=
 match x,y with
 |.non,.non=>.ok true
 |_,.non=>.ok false
 |.bl a,.bl b=>.ok (a==b)
 |.non,.bl _=>.ok false
 |.int _,.bl _=>.ok false
 |.str _,.bl _=>.ok false
 |.lst _,.bl _=>.ok false
 |.tup _,.bl _=>.ok false
 |_,_=>.bad
def dP(op:CmpOp)(x y:D):Out Bool:=
 match op,x,y with
 |.Eq,x,y=>if aH 8 x&&aH 8 y then .ok (en x y)else .bad
 |.NotEq,x,y=>if aH 8 x&&aH 8 y then .ok (!en x y)else .bad
 |.Lt,.int i,.int j=>.ok (decide (i<j))
 |.LtE,.int i,.int j=>.ok (decide (i<=j))
 |.Gt,.int i,.int j=>.ok (decide (j<i))
 |.GtE,.int i,.int j=>.ok (decide (j<=i))
 |.In,x,y=>inD x y
 |.NotIn,x,y=>do let b ←inD x y;.ok (!b)
 |.Is,x,y=>isD x y
 |.IsNot,x,y=>do let b ←isD x y;.ok (!b)
 |_,_,_=>.bad
noncomputable def cH(c:Nat):Str:=⟨#[c]⟩
def rJ(x y:D):Out Rs:=
 match x,y with
 |.lst a,.int i=>match L2.jP a i with|some d=>.ok (false,d)|none=>.bad
 |.tup a,.int i=>match L2.jP a i with|some d=>.ok (false,d)|none=>.bad
 |.str z,.int i=>if small z.length then (match L2.jP z.cps.toList i with|some c=>.ok (false,.str (cH c))|none=>.bad)else .bad
 |_,_=>.bad
def cj{a:Type}(xs:List a)(b c:Option Int):List a:=(xs.drop (HT.kE xs.length 0 b)).take (HT.kE xs.length xs.length c - HT.kE xs.length 0 b)
def xC(x:D)(a b:Option Int):Out Rs:=
 match x with
 |.lst c=>.ok (true,.lst (cj c a b))
 |.str z=>if small z.length then .ok (false,.str ⟨(cj z.cps.toList a b).toArray⟩)else .bad
 |_=>.bad
noncomputable def intsFrom(a:Int):Nat->List D
 |0=>[]
 |n+1=>.int a::intsFrom (a+1) n
noncomputable def kG(i:Int):Bool:=decide (i.natAbs<4611686018427387904)
theorem kH{i:Int}(h:kG i=true): -(2 ^ 62)<=i/\i<2 ^ 62:=by
 have:=of_decide_eq_true h;omega
noncomputable def eu(i:Nat):List D->List D
 |[]=>[]
 |d::ds=>.tup [.int i,d]::eu (i+1) ds
inductive ji where
 |len|all|any|sorted|list|tuple|int|min|max|bool
 deriving DecidableEq
def fj:List D->Option (List Bool)
 |[]=>some []
 |d::r=>match jR d,fj r with|some b,some bs=>some (b::bs)|_,_=>none
noncomputable def xD:List D->Option (List Int)
 |[]=>some []
 |.int i::r=>(xD r).map (i :: ·)
 |_=>none
noncomputable def mO:List D->Option (List Str)
 |[]=>some []
 |.str i::r=>(mO r).map (i :: ·)
 |_=>none
noncomputable def cR(a b:Str):Bool := !decide (b.cps.toList<a.cps.toList)
def nU(ds:List D):Out (List D):=
 if 64<=ds.length then .bad else
 match xD ds with
 |some c=>.ok ((c.mergeSort λa b=>decide (a<=b)).map .int)
 |none=>match mO ds with
  |some d=>.ok ((d.mergeSort cR).map .str)
  |none=>.bad
def hZ(f:ji)(a:D):Out Rs:=
 match f,a with
 |.len,.tup [.lst b]=>.ok (false,.int b.length)
 |.len,.tup [.tup b]=>.ok (false,.int b.length)
 |.len,.tup [.str z]=>if small z.length then .ok (false,.int z.length)else .bad
 |.all,.tup [.lst b]=>match fj b with|some bs=>.ok (false,.bl (bs.all id))|none=>.bad
 |.any,.tup [.lst b]=>match fj b with|some bs=>.ok (false,.bl (bs.any id))|none=>.bad
 |.sorted,.tup [.lst b]=>do let c ←nU b;.ok (true,.lst c)
 |.list,.tup [.lst b]=>.ok (true,.lst b)
 |.list,.tup [.tup b]=>.ok (true,.lst b)
 |.tuple,.tup [.lst b]=>.ok (false,.tup b)
 |.tuple,.tup [.tup b]=>.ok (false,.tup b)
 |.int,.tup [.int i]=>.ok (false,.int i)
 |.int,.tup [.bl k]=>.ok (false,.int (if k then 1 else 0))
 |.min,.tup [.int i,.int j]=>.ok (false,.int (if j<i then j else i))
 |.max,.tup [.int i,.int j]=>.ok (false,.int (if j>i then j else i))
 |_,_=>.bad
inductive Qq where
 |index|join
 deriving DecidableEq
def rK(m:Qq)(x:D)(a:D):Out Rs:=
 match m,x,a with
 |.index,.lst b,.tup [d]=>if aH 8 d&&b.all (aH 8)then (match b.findIdx? λy=>en y d with|some j=>.ok (false,.int j)|none=>.bad)else .bad
 |.index,.str z,.tup [.str y]=>match Builtin.Str.occurrences z y 0 z.length 1 with|i::_=>.ok (false,.int i)|[]=>.bad
 |.join,.str z,.tup [.lst c]=>match mO c with|some b=>if decide (z.length<=16)&&decide ((b.map (·.length)).sum+b.length<=1048576)then .ok (false,.str (Txt.join z b))else .bad|none=>.bad
 |_,_,_=>.bad
inductive Ty where
 |int|str|bool|list|tuple|dict
 deriving DecidableEq
noncomputable def xE:D->Ty->Option Bool
 |.non,_=>some false
 |.bl _,t=>some (t==.bool||t==.int)
 |.int _,t=>some (t==.int)
 |.str _,t=>some (t==.str)
 |.lst _,t=>some (t==.list)
 |.tup _,t=>some (t==.tuple)
 |.dct _ _,t=>some (t==.dict)
 |.ref _,_=>none
noncomputable def eV:D->Bool
 |.non|.bl _|.int _|.str _=>true
 |_=>false
noncomputable def fuel:Nat:=100000
end Mir
namespace Mir
open PySem PySem.Spec PyProof.Rows L2
mutual
noncomputable def Rep(Z:Addr->Prop)(H:Hp):D->V->Prop
 |.non,v=>v=.non
 |.bl b,v=>v=.bl b
 |.int i,v=>v=.int i
 |.str x,v=>v=.str x
 |.lst ds,v=>∃a vs,v=.ref a/\Z a/\Rd H a (.lst vs)/\aW Z H ds vs
 |.tup ds,v=>∃a vs,v=.ref a/\Z a/\Rd H a (.tup vs)/\aW Z H ds vs
 |.dct ks ds,v=>∃a vs,v=.ref a/\Z a/\H a=some (.dK (ks.zip vs))/\aW Z H ds vs
 |.ref _,_=>False
noncomputable def aW(Z:Addr->Prop)(H:Hp):List D->List V->Prop
 |[],vs=>vs=[]
 |d::ds,vs=>∃v r,vs=v::r/\Rep Z H d v/\aW Z H ds r
end
section
variable{Z Z':Addr->Prop}{H H':Hp}
theorem nV{a:Addr}{u:HO}(k:∀o,H a=some o->H' a=some o)(h:Rd H a u):Rd H' a u:=by
 rcases h with h|⟨o,h⟩
 .exact .inl (k _ h)
 .exact .inr ⟨o,k _ h⟩
mutual
theorem Rep.mono(k:∀a o,Z a->H a=some o->H' a=some o)(z:∀a,Z a->Z' a):∀{d:D}{v:V},Rep Z H d v->Rep Z' H' d v
 |.non,_,h=>by simpa only [Rep]using h
 |.bl _,_,h=>by simpa only [Rep]using h
 |.int _,_,h=>by simpa only [Rep]using h
 |.str _,_,h=>by simpa only [Rep]using h
 |.lst ds,v,h=>by
  simp only[Rep]at h ⊢;obtain⟨a,vs,e,b,c,f⟩:=h;exact⟨a,vs,e,z a b,nV (λo=>k a o b) c,aW.mono k z f⟩
 |.tup ds,v,h=>by
  simp only[Rep]at h ⊢;obtain⟨a,vs,e,b,c,f⟩:=h;exact⟨a,vs,e,z a b,nV (λo=>k a o b) c,aW.mono k z f⟩
 |.dct g ds,v,h=>by
  simp only[Rep]at h ⊢;obtain⟨a,vs,e,b,c,f⟩:=h;exact⟨a,vs,e,z a b,k a _ b c,aW.mono k z f⟩
 |.ref _,_,h=>by simp only[Rep]at h
theorem aW.mono(k:∀a o,Z a->H a=some o->H' a=some o)(z:∀a,Z a->Z' a):∀{ds:List D}{vs:List V},aW Z H ds vs->aW Z' H' ds vs
 |[],_,h=>by simpa only [aW]using h
 |d::ds,vs,h=>by
  simp only[aW]at h ⊢;obtain⟨v,r,e,h1,h2⟩:=h;exact⟨v,r,e,Rep.mono k z h1,aW.mono k z h2⟩
end
theorem aW.length:∀{ds:List D}{vs:List V},aW Z H ds vs->vs.length=ds.length
 |[],_,h=>by rw[h];rfl
 |d::ds,_,h=>by
  obtain⟨v,r,e,_,h2⟩:=h;rw[e,List.length_cons,List.length_cons,aW.length h2]
theorem aW.get:∀{ds:List D}{vs:List V}{i:Nat}{d:D},aW Z H ds vs->ds[i]?=some d->∃v,vs[i]?=some v/\Rep Z H d v
 |[],_,_,_,_,e=>by simp at e
 |d::ds,_,0,_,h,e=>by
  obtain⟨v,r,rfl,h1,_⟩:=h
  simp_all
 |d::ds,_,i+1,b,h,e=>by
  obtain⟨v,r,rfl,_,a⟩:=h;obtain⟨u,c,f⟩:=aW.get a (by simpa using e)
  simp_all
theorem aW.append:∀{ds a:List D}{vs b:List V},aW Z H ds vs->aW Z H a b->aW Z H (ds++a) (vs++b)
 |[],_,_,_,h,h'=>by rw[h];exact h'
 |d::ds,_,_,_,h,h'=>by
  obtain⟨v,r,rfl,h1,h2⟩:=h
  show aW Z H _ _
  exact⟨v,_,rfl,h1,aW.append h2 h'⟩
theorem aW.nil:aW Z H [] []:=by rfl
theorem aW.cons{d:D}{ds:List D}{v:V}{vs:List V}(h:Rep Z H d v)(a:aW Z H ds vs):aW Z H (d::ds) (v::vs):=by
 exact⟨v,vs,rfl,h,a⟩
theorem aW.nil_inv{vs:List V}(h:aW Z H [] vs):vs=[]:=by simpa only [aW]using h
theorem aW.cons_inv{d:D}{ds:List D}{vs:List V}(h:aW Z H (d::ds) vs):∃v r,vs=v::r/\Rep Z H d v/\aW Z H ds r:=by simpa only [aW]using h
def Now(Z:Addr->Prop)(H:Hp)(d:D)(v:V):Prop:=
 match d with
 |.lst c=>∃a b,v=.ref a/\Rd H a (.lst b)/\aW Z H c b
 |d=>Rep Z H d v
theorem Rep.now{d:D}{v:V}(h:Rep Z H d v):Now Z H d v:=by
 cases d with
 |lst c=>
  obtain⟨a,b,e,_,h⟩:=h;exact⟨a,b,e,h⟩
 |_=>exact h
end
structure eF(Z:Addr->Prop)(H:Hp)(Z':Addr->Prop)(H':Hp):Prop where
 same:iA H H'
 sub:∀a,Z a->Z' a
 new:∀a,Z' a->Z a\/H a=none
 dom:∀a,Z' a->H' a≠none
theorem eF.refl{Z:Addr->Prop}{H:Hp}(d:∀a,Z a->H a≠none):eF Z H Z H:=⟨iA.refl _,λ_ h=>h,λ_ h=>.inl h,d⟩
theorem iA.laid{H:Hp}{p:Addr}{o:HO}(h:H p=none):iA H (upd H p o):=λb u e=>by rwa[ao (aP e h)]
theorem eF.laid{Z:Addr->Prop}{H:Hp}{p:Addr}{o:HO}(d:∀a,Z a->H a≠none)(h:H p=none):eF Z H Z (upd H p o):=
 ⟨iA.laid h,λ_ h=>h,λ_ h=>.inl h,λa b=>by
  rw[ao (λe=>d a b (by rw[e];exact h))]
  exact d a b⟩
def Zp(Z:Addr->Prop)(p:Addr):Addr->Prop:=λa=>Z a\/a=p
section
variable{Z0 Z Z':Addr->Prop}{H0 H H':Hp}{ρ:A_}{σ:L2.St}
end
def ey(bw b:Bool)(Z:Addr->Prop)(f H:Hp)(d:D)(v:V):Prop:=
 if b=true then ∃a c e,d=.lst e/\v=.ref a/\f a=none/\¬ Z a/\H a=some (.lst c)/\aW Z H e c
 else if bw=true then Now Z H d v else Rep Z H d v
theorem ey.own{bw:Bool}{Z:Addr->Prop}{b H:Hp}{a:Addr}{ds:List D}{vs:List V}(c:b a=none)(d:¬ Z a)(e:H a=some (.lst vs))(f:aW Z H ds vs):ey bw true Z b H (.lst ds) (.ref a):=by
 exact⟨a,vs,ds,rfl,rfl,c,d,e,f⟩
theorem ey.rep{bw:Bool}{Z:Addr->Prop}{a H:Hp}{d:D}{v:V}(h:Rep Z H d v):ey bw false Z a H d v:=by
 unfold ey;rw[if_neg (by simp)]
 split
 .exact h.now
 .exact h
theorem ey.now{b:Bool}{Z:Addr->Prop}{c H:Hp}{d:D}{v:V}(h:ey true b Z c H d v):Now Z H d v:=by
 unfold ey at h;split at h
 .obtain⟨a,e,i,rfl,rfl,_,_,f,g⟩:=h
  exact⟨a,e,rfl,.inl f,g⟩
 simp_all
theorem PE.imp{X:Cx}{e:Expr}{t t':TE}(h:PE X e t)(i:∀σ H Q,t' σ H Q->t σ H Q):PE X e t':=λpins s σ H Q I q=>h _ s σ H Q I (i σ H Q q)
theorem kI{d e:Type}{x:Out d}{f:d->Out e}{b:e}(h:(x >>= f)=.ok b):∃a,x=.ok a/\f a=.ok b:=by
 cases x with
 |ok a=>exact⟨a,rfl,h⟩
 |exc c g=>cases h
 |bad=>cases h
section
variable{Γ:mf}{Z0 Z:Addr->Prop}{H0 H:Hp}{ρ:A_}{σ:L2.St}{c:Ex}{Q:VK}{own:Bool}{d:D}
end
end Mir
namespace Mir
open PySem PySem.Spec PyProof.Rows L2
section
variable{Z Z':Addr->Prop}{H H2 H':Hp}{d:D}{v:V}{bw own:Bool}
theorem br{n:Nat}(h:small n=true):n<=sizeLine:=of_decide_eq_true h
end
section
variable{X:Cx}{Γ:mf}{bw:Bool}{a b e:Expr}{ca cb c:Ex}{pos:Pos}
noncomputable def fk:D->Option V
 |.non=>some .non
 |.bl b=>some (.bl b)
 |.int i=>some (.int i)
 |.str x=>some (.str x)
 |_=>none
theorem fo{Z:Addr->Prop}{H:Hp}{d:D}{v:V}(h:fk d=some v):Rep Z H d v:=by
 cases d<;>simp only[fk]at h<;>first|cases h;simp only[Rep]|cases h
end
section
variable{Z:Addr->Prop}{H:Hp}{x:V}
theorem fK(h:Now Z H .non x):x=.non:=by simpa only [Now,Rep]using h
theorem a_{i:Int}(h:Now Z H (.int i) x):x=.int i:=by simpa only [Now,Rep]using h
theorem h_{i:Bool}(h:Now Z H (.bl i) x):x=.bl i:=by simpa only [Now,Rep]using h
theorem cO{i:Str}(h:Now Z H (.str i) x):x=.str i:=by simpa only [Now,Rep]using h
theorem cP{ds:List D}(h:Now Z H (.lst ds) x):∃a vs,x=.ref a/\Rd H a (.lst vs)/\aW Z H ds vs:=h
theorem fL{ds:List D}(h:Now Z H (.tup ds) x):∃a vs,x=.ref a/\Z a/\Rd H a (.tup vs)/\aW Z H ds vs:=by simpa only [Now,Rep]using h
theorem jS{K:PySem.W.Frag}{a:Addr}{vs:List V}(h:Rd H a (.lst vs)):lX K H a vs:=.inl h
theorem vp{K:PySem.W.Frag}{a:Addr}{vs:List V}(h:Rd H a (.tup vs)):rn K H a vs:=.inl h
theorem Ba{bw:Bool}{Q:VK}{ds:List D}{vs:List V}(b:∀a,Z a->H a≠none)(f:aW Z H ds vs)
  (k:∀v d e,eF Z H e d->ey bw true e H d (.lst ds) v->Q v d):∀p,H p=none->Q (.ref p) (upd H p (.lst vs)):=λp c=>
 k _ _ Z (eF.laid b c) (.own c (λz=>b p z c) aG (f.mono (λa o _=>iA.laid c a o) λ_ z=>z))
end
section
variable{X:Cx}{Γ:mf}{bw:Bool}{a b e:Expr}{ca cb c:Ex}{pos:Pos}
def DN:R2:=λx y H Q=>∃l b a c,x=.ref l/\y=.ref b/\Rd H l (.lst a)/\Rd H b (.lst c)/\a.length+c.length<=sizeLine/\∀p,H p=none->Q (.ref p) (upd H p (.lst (a++c)))
theorem Bb:hY X (binaryOp .Add) DN:=by
 intro pins s w H x y v u Q I i j h;obtain⟨l,b,d,f,rfl,rfl,k,m,A,q⟩:=h;cases i;cases j;obtain⟨z,a,n,r,e⟩:d.length<=sizeLine/\∃(a:List _) (n:Nat),Vals d _/\s.heap.get? l=some _:=Rd.ok k I.hok;obtain⟨B,c,C,g,o⟩:f.length<=sizeLine/\∃(a:List _) (n:Nat),Vals f _/\s.heap.get? b=some _:=Rd.ok m I.hok;have D:=r.length;have p:=g.length;refine PySem.P.add_list e o ?_ (by grind)
 have t:a.toArray++c.toArray=(a++c).toArray:=by simp
 rw[t];exact⟨.ref _,_,I.ME (r.append g) (by grind),rfl,q _ I.fresh⟩
def Bc(op:Operator):R2:=λx y H Q=>match op with
 |.Add=>(∃i j,x=.int i/\y=.int j/\Q (.int (i+j)) H)\/(∃i j,x=.str i/\y=.str j/\i.length+j.length<=sizeLine/\Q (.str (i++j)) H)\/DN x y H Q
 |.Sub=>∃i j,x=.int i/\y=.int j/\Q (.int (i - j)) H
 |.Mult=>∃i j,x=.int i/\y=.int j/\AW i j/\Q (.int (i*j)) H
 |.FloorDiv=>∃i j,x=.int i/\y=.int j/\Hs i j/\Q (.int (i / j)) H
 |.Mod=>∃i j,x=.int i/\y=.int j/\0<j/\Q (.int (i%j)) H
 |.Pow=>∃i j,x=.int i/\y=.int j/\Ht i j/\Q (.int (i ^ j.toNat)) H
 |_=>False
theorem rL(op:Operator):hY X (binaryOp op) (Bc op):=by
 cases op with
 |Add=>exact EK.or (rC.or Bb)
 |Sub=>exact EL
 |Mult=>exact EO
 |FloorDiv=>exact AX
 |Mod=>exact ER
 |Pow=>exact ES
 |_=>exact λ_ _ _ _ _ _ _ _ _ _ _ _ h=>h.elim
theorem Fb{op:Operator}{n o:D}{x y:V}{Z:Addr->Prop}{H:Hp}{h:Bool}{d:D}{Q:VK}(f:Now Z H n x)(g:Now Z H o y)(i:∀a,Z a->H a≠none)(b:eS op n o=.ok (h,d))
  (k:∀v j p,eF Z H p j->ey bw h p H j d v->Q v j):Bc op x y H Q:=by
 have c:∀{r:D}{v:V},fk r=some v->Out.ok (false,r)=Out.ok (h,d)->Q v H:=λu q=>by
  cases q;exact k _ H Z (eF.refl i) (.rep (fo u))
 unfold eS at b;split at b
 .cases a_ f;cases a_ g
  exact .inl ⟨_,_,rfl,rfl,c rfl b⟩
 .cases a_ f;cases a_ g
  exact⟨_,_,rfl,rfl,c rfl b⟩
 .cases a_ f;cases a_ g
  split at b
  .rename_i e
   refine⟨_,_,rfl,rfl,?_,c rfl b⟩;simp at e;exact(e.imp pO pO)
  .cases b
 .cases a_ f;cases a_ g
  split at b
  .rename_i e
   refine⟨_,_,rfl,rfl,?_,c rfl b⟩;simp at e;exact e
  .cases b
 .cases a_ f;cases a_ g
  split at b
  .rename_i e
   exact⟨_,_,rfl,rfl,by grind,c rfl b⟩
  .cases b
 .cases a_ f;cases a_ g
  split at b
  .rename_i e
   refine⟨_,_,rfl,rfl,?_,c rfl b⟩;simp at e;exact⟨e.1.1,by grind,e.2⟩
  .cases b
 .cases cO f;cases cO g
  split at b
  .rename_i e
   exact .inr (.inl ⟨_,_,rfl,rfl,br e,c rfl b⟩)
  .cases b
 .obtain⟨l,w,rfl,z,s⟩:=cP f
  obtain⟨m,A,rfl,B,t⟩:=cP g;split at b
  .rename_i e
   cases b;exact .inr (.inr ⟨l,m,w,A,rfl,rfl,z,B,by rw[s.length,t.length];exact(br e),Ba i (s.append t) k⟩)
  .cases b
 .cases b
end
section
variable{Z:Addr->Prop}{H:Hp}
theorem nW{a:Addr}{u c:HO}(f:∀o w,u≠.cL o w)(d:∀o w,c≠.cL o w)(h:Rd H a u)(b:Rd H a c):u=c:=by
 rcases h with h|⟨o,h⟩<;>rcases b with b|⟨g,b⟩<;>rw[h]at b<;>injection b with e
 .exact absurd e (f _ _)
 .exact absurd e.symm (d _ _)
 .injection e
theorem rM{a:Addr}{xs ys:List V}(h:Rd H a (.lst xs))(b:Rd H a (.lst ys)):xs=ys:=by
 injection (nW (λ_ _ z=>by cases z) (λ_ _ z=>by cases z) h b)
theorem rN{a:Addr}{xs ys:List V}(h:Rd H a (.tup xs))(b:Rd H a (.tup ys)):xs=ys:=by
 injection (nW (λ_ _ z=>by cases z) (λ_ _ z=>by cases z) h b)
theorem tD{a:Addr}{xs ys:List V}(h:Rd H a (.lst xs))(b:Rd H a (.tup ys)):False:=by
 have e:=nW (λ_ _ z=>by cases z) (λ_ _ z=>by cases z) h b
 cases e
mutual
theorem Rep.uniq:∀(n:Nat) (d c:D) (v:V),aH n d=true->aH n c=true->Rep Z H d v->Rep Z H c v->d=c
 |n,.lst xs,c,v,o,o',h,h'=>by
  simp only[Rep]at h;obtain⟨a,vs,rfl,_,h1,h2⟩:=h;cases c<;>simp only[Rep]at h'
  case lst ys=>
   obtain⟨b,i,e,_,f,g⟩:=h';cases e;cases rM h1 f;cases n with
   |zero=>simp[aH]at o
   |succ n=>rw[aW.uniq n xs ys vs (by simpa[aH]using o) (by simpa[aH]using o') h2 g]
  case tup ys=>
   obtain⟨b,i,e,_,f,g⟩:=h';cases e;exact(tD h1 f).elim
  case dct ks ys=>cases n<;>simp[aH]at o'
  all_goals cases h'
 |n,.tup xs,c,v,o,o',h,h'=>by
  simp only[Rep]at h;obtain⟨a,vs,rfl,_,h1,h2⟩:=h;cases c<;>simp only[Rep]at h'
  case tup ys=>
   obtain⟨b,i,e,_,f,g⟩:=h';cases e;cases rN h1 f;cases n with
   |zero=>simp[aH]at o
   |succ n=>rw[aW.uniq n xs ys vs (by simpa[aH]using o) (by simpa[aH]using o') h2 g]
  case lst ys=>
   obtain⟨b,i,e,_,f,g⟩:=h';cases e;exact(tD f h1).elim
  case dct ks ys=>cases n<;>simp[aH]at o'
  all_goals cases h'
 |n,.dct ks xs,_,_,o,_,_,_=>by cases n<;>simp[aH]at o
 |n,.ref _,_,_,_,_,h,_=>by simp only[Rep]at h
 |n,.non,c,v,_,o',h,h'=>by
  simp only[Rep]at h;subst h
  cases c<;>simp only[Rep]at h'<;>first|rfl | (obtain⟨_,_,e,_⟩:=h';cases e;done) | (cases h';done)
 |n,.bl b,c,v,_,o',h,h'=>by
  simp only[Rep]at h;subst h
  cases c<;>simp only[Rep]at h'<;>first | (obtain⟨_,_,e,_⟩:=h';cases e;done) | (cases h';rfl) | (cases h';done)
 |n,.int b,c,v,_,o',h,h'=>by
  simp only[Rep]at h;subst h
  cases c<;>simp only[Rep]at h'<;>first | (obtain⟨_,_,e,_⟩:=h';cases e;done) | (cases h';rfl) | (cases h';done)
 |n,.str b,c,v,_,o',h,h'=>by
  simp only[Rep]at h;subst h
  cases c<;>simp only[Rep]at h'<;>first | (obtain⟨_,_,e,_⟩:=h';cases e;done) | (cases h';rfl) | (cases h';done)
theorem aW.uniq:∀(n:Nat) (xs ys:List D) (vs:List V),(∀x∈xs,aH n x=true)->(∀x∈ys,aH n x=true)->aW Z H xs vs->aW Z H ys vs->xs=ys
 |n,[],ys,vs,_,_,h,h'=>by
  rw[h.nil_inv]at h';cases ys with
  |nil=>rfl
  |cons y ys=>obtain⟨_,_,e,_⟩:=h'.cons_inv;cases e
 |n,x::xs,ys,vs,o,b,h,h'=>by
  obtain⟨v,r,rfl,c,d⟩:=h.cons_inv;cases ys with
  |nil=>exact absurd h'.nil_inv (by simp)
  |cons y ys=>
   obtain⟨w,i,e,f,g⟩:=h'.cons_inv;cases e;rw[Rep.uniq n x y v (o x (by simp)) (b y (by simp)) c f,aW.uniq n xs ys r (λz a=>o z (by simp[a])) (λz a=>b z (by simp[a])) d g]
end
mutual
theorem xF:∀(n:Nat) (d:D),aH n d=true->en d d=true
 |n,.lst xs,o=>by
  cases n with
  |zero=>simp[aH]at o
  |succ n=>simp only[en];exact ft n xs (by simpa[aH]using o)
 |n,.tup xs,o=>by
  cases n with
  |zero=>simp[aH]at o
  |succ n=>simp only[en];exact ft n xs (by simpa[aH]using o)
 |n,.dct _ _,o=>by cases n<;>simp[aH]at o
 |n,.ref _,o=>by cases n<;>simp[aH]at o
 |n,.non,_=>by simp[en]
 |n,.bl _,_=>by simp[en]
 |n,.int _,_=>by simp[en]
 |n,.str _,_=>by simp[en]
theorem ft:∀(n:Nat) (xs:List D),(∀x∈xs,aH n x=true)->e_ xs xs=true
 |n,[],_=>by simp[e_]
 |n,x::xs,o=>by
  simp only[e_,xF n x (o x (by simp)),ft n xs λz a=>o z (by simp[a]),Bool.and_self]
end
theorem dQ:∀(xs ys:List D),((List.range (min xs.length ys.length)).all (λj=>en (xs.getD j .non) (ys.getD j .non))&&(xs.length==ys.length))=e_ xs ys
 |[],[]=>by simp[e_]
 |[],_::_=>by simp[e_]
 |_::_,[]=>by simp[e_]
 |x::xs,y::ys=>by
  have a:min (x::xs).length (y::ys).length=min xs.length ys.length+1:=by simp
  rw[a,List.range_succ_eq_map,e_,←(dQ xs ys)];simp[Function.comp_def,Bool.and_assoc]
theorem kJ{xs ys:List D}(h:xs.length=ys.length):(List.range xs.length).all (λj=>en (xs.getD j .non) (ys.getD j .non))=e_ xs ys:=by
 have e:=dQ xs ys
 simp_all
theorem nX{xs ys:List D}(h:xs.length≠ys.length):e_ xs ys=false:=by
 rw[←dQ xs ys];simp[h]
end
inductive Vw (s:Shared) (Z:Addr->Prop) (H:Hp):D->Value->Prop where
 |non:Vw s Z H .non .none
 |bl (b:Bool):Vw s Z H (.bl b) (.bool b)
 |int (i:Int) (t:Tok):Vw s Z H (.int i) (.int i t)
 |str (x:Str) (t:Tok):Vw s Z H (.str x) (.str x t)
 |lst {l:Addr}{its:List Value}{vs:List V}{ds:List D}:s.heap.IsList l its.toArray->Vals vs its->Rd H l (.lst vs)/\aW Z H ds vs->Vw s Z H (.lst ds) (.ref l)
 |tup {l:Addr}{its:List Value}{vs:List V}{ds:List D}:s.heap.IsTuple l its.toArray->Vals vs its->Rd H l (.tup vs)/\aW Z H ds vs->Vw s Z H (.tup ds) (.ref l)
section
variable{X:Cx}{pins:List (Addr×Obj)}{σ:L2.St}{Z:Addr->Prop}{H:Hp}{s:Shared}{A:Around}
theorem fV{n:Nat}{d:D}{v:V}{u:Value}(I:Inv X pins σ H s)(c:Now Z H d v)(r:RelV v u)(o:aH n d=true):Vw s Z H d u:=by
 cases d with
 |non=>cases fK c;cases r;exact .non
 |bl b=>cases h_ c;cases r;exact .bl b
 |int b=>cases a_ c;obtain⟨t,rfl⟩:=r;exact .int b t
 |str b=>cases cO c;obtain⟨t,rfl⟩:=r;exact .str b t
 |lst i=>
  obtain⟨a,j,rfl,e,f⟩:=cP c;cases r;obtain⟨g,h,p,l⟩:=I.list (jS e);exact .lst p.isList h ⟨e,f⟩
 |tup i=>
  obtain⟨a,j,rfl,_,e,f⟩:=fL c;cases r;obtain⟨g,h,p,l⟩:=I.tuple (vp e);exact .tup p h ⟨e,f⟩
 |dct m i=>cases n<;>simp[aH]at o
 |ref k=>cases n<;>simp[aH]at o
theorem nY{vs:List V}{a:List Value}(r:Vals vs a){j:Nat}(c:j<a.length):∃v,vs[j]?=some v/\RelV v a[j]:=by
 have d:=r.length;have b:vs[j]?=some vs[j]:=by simp
 obtain⟨u,e,f⟩:=r.get b
 simp_all
theorem fu{n:Nat}(I:Inv X pins σ H s)(y:∀(A:Around) (f g:D) (u w:Value),A.units+n<cLine->aH n f=true->aH n g=true->Vw s Z H f u->Vw s Z H g w->SeqAt.EqAt A s u w (en f g))
  {ds c:List D} (z:∀x∈ds,aH n x=true) (B:∀x∈c,aH n x=true) (K:A.units+(n+1)<cLine) {vs l:List V}{b a:List Value} (m:Vals vs b) (o:Vals l a) (pl:aW Z H ds vs) (p:aW Z H c l) :
  ∀j (h:j<b.toArray.size) (i:j<a.toArray.size),SeqAt.EqAt A.in1 s b.toArray[j] a.toArray[j] (en (ds.getD j .non) (c.getD j .non)):=by
 intro j h i;have L:=m.length;have M:=o.length;have N:=pl.length;have O:=p.length;simp at h i;obtain⟨v,C,E⟩:=nY m h;obtain⟨w,F,k⟩:=nY o i;have q:ds[j]?=some (ds.getD j .non):=by grind
 have r:c[j]?=some (c.getD j .non):=by grind
 obtain⟨P,d,G⟩:=pl.get q;obtain⟨Q,e,J⟩:=p.get r;rw[C]at d;cases d
 rw[F]at e;cases e
 have t:=z _ (List.mem_of_getElem? q);have o2:=B _ (List.mem_of_getElem? r);exact y _ _ _ _ _ (by grind) t o2 (fV I G.now E t) (fV I J.now k o2)
theorem fv(I:Inv X pins σ H s):∀(n:Nat) (A:Around) (G J:D) (u w:Value),A.units+n<cLine->aH n G=true->aH n J=true->Vw s Z H G u->Vw s Z H J w->SeqAt.EqAt A s u w (en G J):=by
 intro n
 induction n with
 |zero=>
  intro A G J u w N E K O o;have f:A.units<cLine:=by omega
  cases O with
  |non=>
   cases o with
   |non=>exact SeqAt.EqAt.same _
   |bl p=>exact SeqAt.EqAt.none_bool _
   |int q k=>exact SeqAt.EqAt.none_int _ _
   |str r k=>exact SeqAt.EqAt.none_str _ _
   |@lst m a d c e h g=>exact SeqAt.EqAt.none_list e f
   |@tup m a d c e h g=>exact SeqAt.EqAt.none_tuple e f
  |bl b=>
   cases o with
   |non=>exact SeqAt.EqAt.bool_none _
   |bl p=>exact SeqAt.EqAt.bool_bool _ _
   |int q k=>exact SeqAt.EqAt.bool_int _ _ _
   |str r k=>exact SeqAt.EqAt.bool_str _ _ _
   |@lst m a d c e h g=>exact SeqAt.EqAt.bool_list _ e f
   |@tup m a d c e h g=>exact SeqAt.EqAt.bool_tuple _ e f
  |int i t=>
   cases o with
   |non=>exact SeqAt.EqAt.int_none _ _
   |bl p=>exact SeqAt.EqAt.int_bool _ _ _
   |int q k=>exact SeqAt.EqAt.int_int _ _ _ _
   |str r k=>exact SeqAt.EqAt.int_str _ _ _ _
   |@lst m a d c e h g=>exact SeqAt.EqAt.int_list _ _ e f
   |@tup m a d c e h g=>exact SeqAt.EqAt.int_tuple _ _ e f
  |str x t=>
   cases o with
   |non=>exact SeqAt.EqAt.str_none _ _
   |bl p=>exact SeqAt.EqAt.str_bool _ _ _
   |int q k=>exact SeqAt.EqAt.str_int _ _ _ _
   |str r k=>exact SeqAt.EqAt.str_str _ _ _ _
   |@lst m a d c e h g=>exact SeqAt.EqAt.str_list _ _ e f
   |@tup m a d c e h g=>exact SeqAt.EqAt.str_tuple _ _ e f
  |@lst l y L z j F B=>
   cases o with
   |non=>exact SeqAt.EqAt.list_none j f
   |bl p=>exact SeqAt.EqAt.list_bool _ j f
   |int q k=>exact SeqAt.EqAt.list_int _ _ j f
   |str r k=>exact SeqAt.EqAt.list_str _ _ j f
   |@lst m a d c e h g=>
    simp[aH]at E
   |@tup m a d c e h g=>exact SeqAt.EqAt.list_tuple j e f
  |@tup l y L z j F B=>
   cases o with
   |non=>exact SeqAt.EqAt.tuple_none j f
   |bl p=>exact SeqAt.EqAt.tuple_bool _ j f
   |int q k=>exact SeqAt.EqAt.tuple_int _ _ j f
   |str r k=>exact SeqAt.EqAt.tuple_str _ _ j f
   |@lst m a d c e h g=>exact SeqAt.EqAt.tuple_list j e f
   |@tup m a d c e h g=>
    simp[aH]at E
 |succ n R=>
  intro A G J u w N E K O o;have f:A.units<cLine:=by omega
  cases O with
  |non=>
   cases o with
   |non=>exact SeqAt.EqAt.same _
   |bl p=>exact SeqAt.EqAt.none_bool _
   |int q k=>exact SeqAt.EqAt.none_int _ _
   |str r k=>exact SeqAt.EqAt.none_str _ _
   |@lst m a d c e h g=>exact SeqAt.EqAt.none_list e f
   |@tup m a d c e h g=>exact SeqAt.EqAt.none_tuple e f
  |bl b=>
   cases o with
   |non=>exact SeqAt.EqAt.bool_none _
   |bl p=>exact SeqAt.EqAt.bool_bool _ _
   |int q k=>exact SeqAt.EqAt.bool_int _ _ _
   |str r k=>exact SeqAt.EqAt.bool_str _ _ _
   |@lst m a d c e h g=>exact SeqAt.EqAt.bool_list _ e f
   |@tup m a d c e h g=>exact SeqAt.EqAt.bool_tuple _ e f
  |int i t=>
   cases o with
   |non=>exact SeqAt.EqAt.int_none _ _
   |bl p=>exact SeqAt.EqAt.int_bool _ _ _
   |int q k=>exact SeqAt.EqAt.int_int _ _ _ _
   |str r k=>exact SeqAt.EqAt.int_str _ _ _ _
   |@lst m a d c e h g=>exact SeqAt.EqAt.int_list _ _ e f
   |@tup m a d c e h g=>exact SeqAt.EqAt.int_tuple _ _ e f
  |str x t=>
   cases o with
   |non=>exact SeqAt.EqAt.str_none _ _
   |bl p=>exact SeqAt.EqAt.str_bool _ _ _
   |int q k=>exact SeqAt.EqAt.str_int _ _ _ _
   |str r k=>exact SeqAt.EqAt.str_str _ _ _ _
   |@lst m a d c e h g=>exact SeqAt.EqAt.str_list _ _ e f
   |@tup m a d c e h g=>exact SeqAt.EqAt.str_tuple _ _ e f
  |@lst l y L z j F B=>
   cases o with
   |non=>exact SeqAt.EqAt.list_none j f
   |bl p=>exact SeqAt.EqAt.list_bool _ j f
   |int q k=>exact SeqAt.EqAt.list_int _ _ j f
   |str r k=>exact SeqAt.EqAt.list_str _ _ j f
   |@lst m a d c e h g=>
    have S:=F.length;have T:=h.length;have U:=B.2.length;have V:=g.2.length;simp only[en]
    by_cases C:l=m
    .subst C
     have P:=rM B.1 g.1;subst P;have Q:=aW.uniq n z c L (by simpa[aH]using E) (by simpa[aH]using K) B.2 g.2
     subst Q;rw[ft n z (by simpa[aH]using E)]
     exact SeqAt.EqAt.same _
    .refine SeqAt.EqAt.of_refs C ?_
     by_cases M:z.length=c.length
     .rw[←kJ M]
      have:=SeqAt.RcAt.lists j e (by simp only[List.size_toArray];omega) f (fu I R (by simpa[aH]using E) (by simpa[aH]using K) N F h B.2 g.2)
      rw[show y.toArray.size=z.length by simp only[List.size_toArray];omega]at this
      exact this
     .rw[nX M]
      exact SeqAt.RcAt.lists_lengths j e (by simp only[List.size_toArray,bne_iff_ne];omega) f
   |@tup m a d c e h g=>exact SeqAt.EqAt.list_tuple j e f
  |@tup l y L z j F B=>
   cases o with
   |non=>exact SeqAt.EqAt.tuple_none j f
   |bl p=>exact SeqAt.EqAt.tuple_bool _ j f
   |int q k=>exact SeqAt.EqAt.tuple_int _ _ j f
   |str r k=>exact SeqAt.EqAt.tuple_str _ _ j f
   |@lst m a d c e h g=>exact SeqAt.EqAt.tuple_list j e f
   |@tup m a d c e h g=>
    have S:=F.length;have T:=h.length;have U:=B.2.length;have V:=g.2.length;simp only[en]
    by_cases C:l=m
    .subst C
     have P:=rN B.1 g.1;subst P;have Q:=aW.uniq n z c L (by simpa[aH]using E) (by simpa[aH]using K) B.2 g.2
     subst Q;rw[ft n z (by simpa[aH]using E)]
     exact SeqAt.EqAt.same _
    .refine SeqAt.EqAt.of_refs C ?_
     rw[←dQ z c];have:=SeqAt.RcAt.tuples j e f (fu I R (by simpa[aH]using E) (by simpa[aH]using K) N F h B.2 g.2)
     rw[show y.toArray.size=z.length by simp only[List.size_toArray];omega,show a.toArray.size=c.length by simp only[List.size_toArray];omega]at this
     exact this
theorem xG(I:Inv X pins σ H s){n:Nat}{F G:D}{u w:Value}(J:A.units+(n+1)<cLine)(K:aH (n+1) F=true)(L:aH (n+1) G=true)(M:Vw s Z H F u)(p:Vw s Z H G w):SeqAt.RcAt A s u w (en F G):=by
 have f:A.units<cLine:=by omega
 cases M with
 |non=>
  cases p with
  |non=>exact SeqAt.RcAt.none_none
  |bl q=>exact SeqAt.RcAt.none_bool _
  |int r k=>exact SeqAt.RcAt.none_int _ _
  |str y k=>exact SeqAt.RcAt.none_str _ _
  |@lst m a e c d g h=>exact SeqAt.RcAt.none_list d f
  |@tup m a e c d g h=>exact SeqAt.RcAt.none_tuple d f
 |bl b=>
  cases p with
  |non=>exact SeqAt.RcAt.bool_none _
  |bl q=>exact SeqAt.RcAt.bool_bool _ _
  |int r k=>exact SeqAt.RcAt.bool_int _ _ _
  |str y k=>exact SeqAt.RcAt.bool_str _ _ _
  |@lst m a e c d g h=>exact SeqAt.RcAt.bool_list _ d f
  |@tup m a e c d g h=>exact SeqAt.RcAt.bool_tuple _ d f
 |int i t=>
  cases p with
  |non=>exact SeqAt.RcAt.int_none _ _
  |bl q=>exact SeqAt.RcAt.int_bool _ _ _
  |int r k=>exact SeqAt.RcAt.int_int _ _ _ _
  |str y k=>exact SeqAt.RcAt.int_str _ _ _ _
  |@lst m a e c d g h=>exact SeqAt.RcAt.int_list _ _ d f
  |@tup m a e c d g h=>exact SeqAt.RcAt.int_tuple _ _ d f
 |str x t=>
  cases p with
  |non=>exact SeqAt.RcAt.str_none _ _
  |bl q=>exact SeqAt.RcAt.str_bool _ _ _
  |int r k=>exact SeqAt.RcAt.str_int _ _ _ _
  |str y k=>exact SeqAt.RcAt.str_str _ _ _ _
  |@lst m a e c d g h=>exact SeqAt.RcAt.str_list _ _ d f
  |@tup m a e c d g h=>exact SeqAt.RcAt.str_tuple _ _ d f
 |@lst l o N z j B C=>
  cases p with
  |non=>exact SeqAt.RcAt.list_none j f
  |bl q=>exact SeqAt.RcAt.list_bool _ j f
  |int r k=>exact SeqAt.RcAt.list_int _ _ j f
  |str y k=>exact SeqAt.RcAt.list_str _ _ j f
  |@lst m a e c d g h=>
   have O:=B.length;have P:=g.length;have Q:=C.2.length;have R:=h.2.length;simp only[en]
   by_cases E:z.length=c.length
   .rw[←kJ E]
    have:=SeqAt.RcAt.lists j d (by simp only[List.size_toArray];omega) f (fu I (fv I n) (by simpa[aH]using K) (by simpa[aH]using L) J B g C.2 h.2)
    rw[show o.toArray.size=z.length by simp only[List.size_toArray];omega]at this
    exact this
   .rw[nX E]
    exact SeqAt.RcAt.lists_lengths j d (by simp only[List.size_toArray,bne_iff_ne];omega) f
  |@tup m a e c d g h=>exact SeqAt.RcAt.list_tuple j d f
 |@tup l o N z j B C=>
  cases p with
  |non=>exact SeqAt.RcAt.tuple_none j f
  |bl q=>exact SeqAt.RcAt.tuple_bool _ j f
  |int r k=>exact SeqAt.RcAt.tuple_int _ _ j f
  |str y k=>exact SeqAt.RcAt.tuple_str _ _ j f
  |@lst m a e c d g h=>exact SeqAt.RcAt.tuple_list j d f
  |@tup m a e c d g h=>
   have O:=B.length;have P:=g.length;have Q:=C.2.length;have R:=h.2.length;simp only[en];rw[←dQ z c];have:=SeqAt.RcAt.tuples j d f (fu I (fv I n) (by simpa[aH]using K) (by simpa[aH]using L) J B g C.2 h.2)
   rw[show o.toArray.size=z.length by simp only[List.size_toArray];omega,show a.toArray.size=c.length by simp only[List.size_toArray];omega]at this
   exact this
theorem rO(I:Inv X pins σ H s){n:Nat}{F G:D}{u w:Value}(J:A.units+(n+1)<cLine)(K:aH (n+1) F=true)(L:aH (n+1) G=true)(M:Vw s Z H F u)(p:Vw s Z H G w):SeqAt.RcNeAt A s u w (!en F G):=by
 have f:A.units<cLine:=by omega
 cases M with
 |non=>
  cases p with
  |non=>exact SeqAt.RcNeAt.none_none
  |bl q=>exact SeqAt.RcNeAt.none_bool _
  |int r k=>exact SeqAt.RcNeAt.none_int _ _
  |str y k=>exact SeqAt.RcNeAt.none_str _ _
  |@lst m a e c d g h=>exact SeqAt.RcNeAt.none_list d f
  |@tup m a e c d g h=>exact SeqAt.RcNeAt.none_tuple d f
 |bl b=>
  cases p with
  |non=>exact SeqAt.RcNeAt.bool_none _
  |bl q=>exact SeqAt.RcNeAt.bool_bool _ _
  |int r k=>exact SeqAt.RcNeAt.bool_int _ _ _
  |str y k=>exact SeqAt.RcNeAt.bool_str _ _ _
  |@lst m a e c d g h=>exact SeqAt.RcNeAt.bool_list _ d f
  |@tup m a e c d g h=>exact SeqAt.RcNeAt.bool_tuple _ d f
 |int i t=>
  cases p with
  |non=>exact SeqAt.RcNeAt.int_none _ _
  |bl q=>exact SeqAt.RcNeAt.int_bool _ _ _
  |int r k=>exact SeqAt.RcNeAt.int_int _ _ _ _
  |str y k=>exact SeqAt.RcNeAt.int_str _ _ _ _
  |@lst m a e c d g h=>exact SeqAt.RcNeAt.int_list _ _ d f
  |@tup m a e c d g h=>exact SeqAt.RcNeAt.int_tuple _ _ d f
 |str x t=>
  cases p with
  |non=>exact SeqAt.RcNeAt.str_none _ _
  |bl q=>exact SeqAt.RcNeAt.str_bool _ _ _
  |int r k=>exact SeqAt.RcNeAt.str_int _ _ _ _
  |str y k=>exact SeqAt.RcNeAt.str_str _ _ _ _
  |@lst m a e c d g h=>exact SeqAt.RcNeAt.str_list _ _ d f
  |@tup m a e c d g h=>exact SeqAt.RcNeAt.str_tuple _ _ d f
 |@lst l o N z j B C=>
  cases p with
  |non=>exact SeqAt.RcNeAt.list_none j f
  |bl q=>exact SeqAt.RcNeAt.list_bool _ j f
  |int r k=>exact SeqAt.RcNeAt.list_int _ _ j f
  |str y k=>exact SeqAt.RcNeAt.list_str _ _ j f
  |@lst m a e c d g h=>
   have O:=B.length;have P:=g.length;have Q:=C.2.length;have R:=h.2.length;simp only[en]
   by_cases E:z.length=c.length
   .rw[←kJ E]
    have:=SeqAt.RcNeAt.lists j d (by simp only[List.size_toArray];omega) f (fu I (fv I n) (by simpa[aH]using K) (by simpa[aH]using L) J B g C.2 h.2)
    rw[show o.toArray.size=z.length by simp only[List.size_toArray];omega]at this
    exact this
   .rw[nX E]
    exact SeqAt.RcNeAt.lists_lengths j d (by simp only[List.size_toArray,bne_iff_ne];omega) f
  |@tup m a e c d g h=>exact SeqAt.RcNeAt.list_tuple j d f
 |@tup l o N z j B C=>
  cases p with
  |non=>exact SeqAt.RcNeAt.tuple_none j f
  |bl q=>exact SeqAt.RcNeAt.tuple_bool _ j f
  |int r k=>exact SeqAt.RcNeAt.tuple_int _ _ j f
  |str y k=>exact SeqAt.RcNeAt.tuple_str _ _ j f
  |@lst m a e c d g h=>exact SeqAt.RcNeAt.tuple_list j d f
  |@tup m a e c d g h=>
   have O:=B.length;have P:=g.length;have Q:=C.2.length;have R:=h.2.length;simp only[en];rw[←dQ z c];have:=SeqAt.RcNeAt.tuples j d f (fu I (fv I n) (by simpa[aH]using K) (by simpa[aH]using L) J B g C.2 h.2)
   rw[show o.toArray.size=z.length by simp only[List.size_toArray];omega,show a.toArray.size=c.length by simp only[List.size_toArray];omega]at this
   exact this
end
end Mir
namespace Mir
open PySem PySem.Spec PyProof.Rows L2
theorem Vw.uniq{s:Shared}{Z:Addr->Prop}{H:Hp}{n:Nat}{d k:D}{u:Value}(h:Vw s Z H d u)(j:Vw s Z H k u)(o:aH n d=true)(y:aH n k=true):d=k:=by
 cases h with
 |non=>cases j;rfl
 |bl b=>cases j;rfl
 |int i t=>cases j;rfl
 |str x t=>cases j;rfl
 |@lst l m p q z A e=>
  cases j with
  |@lst _ a f g r w c=>
   cases rM e.1 c.1;cases n with
   |zero=>simp[aH]at o
   |succ n=>rw[aW.uniq n q _ p (by simpa[aH]using o) (by simpa[aH]using y) e.2 c.2]
  |@tup _ a f g r w c=>exact(tD e.1 c.1).elim
 |@tup l m p q z A e=>
  cases j with
  |@tup _ a f g r w c=>
   cases rN e.1 c.1;cases n with
   |zero=>simp[aH]at o
   |succ n=>rw[aW.uniq n q _ p (by simpa[aH]using o) (by simpa[aH]using y) e.2 c.2]
  |@lst _ a f g r w c=>exact(tD c.1 e.1).elim
section
variable{X:Cx}{pins:List (Addr×Obj)}{σ:L2.St}{Z:Addr->Prop}{H:Hp}{s:Shared}
def xH(s:Shared)(Z:Addr->Prop)(H:Hp)(a:D)(u:Value):Bool:=@decide (∃d,aH 8 d=true/\Vw s Z H d u/\en d a=true) (Classical.propDecidable _)
theorem tE{a d:D}{u:Value}(o:aH 8 d=true)(h:Vw s Z H d u):xH s Z H a u=en d a:=by
 cases e:en d a with
 |true=>exact @decide_eq_true _ (Classical.propDecidable _) ⟨d,o,h,e⟩
 |false=>
  refine @decide_eq_false _ (Classical.propDecidable _) ?_;rintro⟨g,c,f,b⟩;rw[Vw.uniq f h c o,e]at b;cases b
theorem kK(I:Inv X pins σ H s){b:D}:∀{ds:List D}{vs:List V}{a:List Value},aW Z H ds vs->Vals vs a->(∀d∈ds,aH 8 d=true)->a.any (xH s Z H b)=ds.any λd=>en d b
 |[],_,_,h,r,_=>by rw[h.nil_inv]at r;cases r;rfl
 |d::ds,_,_,h,r,o=>by
  obtain⟨v,vr,rfl,h1,h2⟩:=h.cons_inv;cases r with
  |cons c e=>
   rw[List.any_cons,List.any_cons,kK I h2 e λz f=>o z (by simp[f]),tE (o d (by simp)) (fV I h1.now c (o d (by simp)))]
theorem kL(I:Inv X pins σ H s){A:Around}{b:D}{w:Value}(c:A.units+8<cLine)(f:aH 8 b=true)(g:Vw s Z H b w) :
  ∀{ds:List D}{vs:List V}{a:List Value},aW Z H ds vs->Vals vs a->(∀d∈ds,aH 8 d=true)->∀u∈a,SeqAt.EqAt A s u w (xH s Z H b u)
 |[],_,_,h,r,_,u,hm=>by rw[h.nil_inv]at r;cases r;simp at hm
 |d::ds,_,_,h,r,o,u,hm=>by
  obtain⟨v,vr,rfl,h1,h2⟩:=h.cons_inv;cases r with
  |cons j k=>
   rcases List.mem_cons.mp hm with e|hm
   .subst e
    have i:=fV I h1.now j (o d (by simp))
    rw[tE (o d (by simp)) i]
    exact fv I 8 A d b _ w c (o d (by simp)) f i g
   .exact kL I c f g h2 k (λz l=>o z (by simp[l])) u hm
end
section
variable{X:Cx}{Γ:mf}{bw:Bool}{a b e:Expr}{ca cb cc c:Ex}{pos:Pos}
def Fc(op:CmpOp):R2:=λx y H Q=>∃Z a b k,Now Z H a x/\Now Z H b y/\dP op a b=.ok k/\Q (.bl k) H
theorem pP{Z:Addr->Prop}{H:Hp}{b:List L2.Key}{ds:List D}{x:V}(h:Now Z H (.dct b ds) x):∃a,x=.ref a:=by
 have h:Rep Z H _ x:=h;obtain⟨a,_,e,_⟩:=h;exact⟨a,e⟩
theorem DO{Z:Addr->Prop}{H:Hp}{f l:D}{x y:V}{k:Bool}{u v:Value}(d:Now Z H f x)(m:Now Z H l y)(e:RelV x u)(o:RelV y v)(h:isD f l=.ok k):plainIs u v=true/\(u==v)=k:=by
 have Bd:∀{g:List D}{x:V}{u:Value},Now Z H (.lst g) x->RelV x u->∃a,u=.ref a:=λn r=>by
  obtain⟨a,_,rfl,_⟩:=cP n;exact⟨a,r⟩
 have j:∀{g:List D}{x:V}{u:Value},Now Z H (.tup g) x->RelV x u->∃a,u=.ref a:=λn r=>by
  obtain⟨a,_,rfl,_⟩:=fL n;exact⟨a,r⟩
 cases l with
 |non=>
  cases fK m;cases o;cases f with
  |non=>cases fK d;cases e;cases h;exact⟨rfl,rfl⟩
  |bl b=>cases h_ d;cases e;cases h;exact⟨rfl,rfl⟩
  |int i=>cases a_ d;obtain⟨t,rfl⟩:=e;cases h;exact⟨rfl,rfl⟩
  |str i=>cases cO d;obtain⟨t,rfl⟩:=e;cases h;exact⟨rfl,rfl⟩
  |lst g=>obtain⟨a,rfl⟩:=Bd d e;cases h;exact⟨rfl,rfl⟩
  |tup g=>obtain⟨a,rfl⟩:=j d e;cases h;exact⟨rfl,rfl⟩
  |dct p g=>obtain⟨a,rfl⟩:=pP d;cases e;cases h;exact⟨rfl,rfl⟩
  |ref n=>exact(show False by simpa only [Now,Rep]using d).elim
 |bl c=>
  cases h_ m;cases o;cases f with
  |non=>cases fK d;cases e;cases h;exact⟨rfl,rfl⟩
  |bl b=>cases h_ d;cases e;cases h;exact⟨rfl,by cases b<;>cases c<;>rfl⟩
  |int i=>cases a_ d;obtain⟨t,rfl⟩:=e;cases h;exact⟨rfl,rfl⟩
  |str i=>cases cO d;obtain⟨t,rfl⟩:=e;cases h;exact⟨rfl,rfl⟩
  |lst g=>obtain⟨a,rfl⟩:=Bd d e;cases h;exact⟨rfl,rfl⟩
  |tup g=>obtain⟨a,rfl⟩:=j d e;cases h;exact⟨rfl,rfl⟩
  |dct p g=>cases h
  |ref n=>cases h
 |int _=>cases f<;>cases h
 |str _=>cases f<;>cases h
 |lst _=>cases f<;>cases h
 |tup _=>cases f<;>cases h
 |dct _ _=>cases f<;>cases h
 |ref _=>cases f<;>cases h
theorem DP{pins:List (Addr×Obj)}{s:Shared}{σ:L2.St}{H:Hp}{x y:V}{u v:Value}{Q:VK}(J:X.A.units+64<cLine)(I:Inv X pins σ H s)(j:RelV x u)(m:RelV y v)
  {Z:Addr->Prop}{c B:D}{k:Bool} (n:Now Z H c x) (o:Now Z H B y) (e:inD c B=.ok k) :
  (Q (.bl k) H->wpAny (model X.prog X.w) X.A (compareOp .In u v) (EP X pins σ Q) X.xe s)/\(Q (.bl !k) H->wpAny (model X.prog X.w) X.A (compareOp .NotIn u v) (EP X pins σ Q) X.xe s):=by
 unfold inD at e;split at e
 .rename_i r
  split at e
  .rename_i d
   cases e;simp only[Bool.and_eq_true]at d;obtain⟨f,b⟩:=d;have b:=List.all_eq_true.mp b;obtain⟨l,C,rfl,t,g⟩:=cP o;cases m;obtain⟨a,h,p,E⟩:=I.list (jS t);have z:=fV I n j f;have i:∀w,w∈a.toArray->SeqAt.EqAt X.A.in1 s w u _:=λw F=>kL I (by grind) f z g h b w (by grind)
   have G:a.toArray.any (xH s Z H c)=r.any λy=>en y c:=by
    rw[←kK I g h b];simp
   exact⟨λq=>SeqAt.in_listAt _ p.isList i ⟨.bl _,H,I,rfl,by grind⟩,λq=>SeqAt.notIn_listAt _ p.isList i ⟨.bl _,H,I,rfl,by grind⟩⟩
  .cases e
 .rename_i r
  split at e
  .rename_i d
   cases e;simp only[Bool.and_eq_true]at d;obtain⟨f,b⟩:=d;have b:=List.all_eq_true.mp b;obtain⟨l,C,rfl,_,t,g⟩:=fL o;cases m;obtain⟨a,h,p,E⟩:=I.tuple (vp t);have z:=fV I n j f;have i:∀w,w∈a.toArray->SeqAt.EqAt X.A.in1 s w u _:=λw F=>kL I (by grind) f z g h b w (by grind)
   have G:a.toArray.any (xH s Z H c)=r.any λy=>en y c:=by
    rw[←kK I g h b];simp
   exact⟨λq=>SeqAt.in_tupleAt _ p i ⟨.bl _,H,I,rfl,by grind⟩,λq=>SeqAt.notIn_tupleAt _ p i ⟨.bl _,H,I,rfl,by grind⟩⟩
  .cases e
 .cases e
  cases cO n;cases cO o;exact⟨λq=>vd pins s σ H _ _ u v Q I j m ⟨_,_,rfl,rfl,q⟩,λq=>nL pins s σ H _ _ u v Q I j m ⟨_,_,rfl,rfl,q⟩⟩
 .cases e
theorem j8{op:CmpOp}{a b:D}{k:Bool}(h:dP op a b=.ok k)(c:op=.Lt\/op=.LtE\/op=.Gt\/op=.GtE):∃i j,a=.int i/\b=.int j:=by
 rcases c with rfl|rfl|rfl|rfl<;>cases a<;>first | (cases h;done) | (cases b<;>first|exact⟨_,_,rfl,rfl⟩|cases h)
theorem xI(F:X.A.units+64<cLine)(op:CmpOp):hY X (compareOp op) (Fc op):=by
 intro pins s D H x y u v Q I f l h;obtain⟨Z,r,t,k,m,p,e,q⟩:=h;have d:EP X pins D Q (.bool k) s:=⟨.bl k,H,I,rfl,q⟩
 have a:∀{i j:Int}{o:CmpOp}{g:Int->Int->Bool},hY X (compareOp o) (AU λi j=>.bl (g i j))->r=.int i->t=.int j->k=g i j->wpAny (model X.prog X.w) X.A (compareOp o u v) (EP X pins D Q) X.xe s:=by
  intro i j o g z B C G;subst B C G;cases a_ m;cases a_ p;exact z pins s D H _ _ u v Q I f l ⟨_,_,rfl,rfl,q⟩
 cases op with
 |Eq=>
  unfold dP at e;dsimp only at e;split at e
  .rename_i c
   cases e;simp only[Bool.and_eq_true]at c;exact xG I (n:=7) (by omega) c.1 c.2 (fV I m f c.1) (fV I p l c.2) X.prog X.w X.xe _ d
  .cases e
 |NotEq=>
  unfold dP at e;dsimp only at e;split at e
  .rename_i c
   cases e;simp only[Bool.and_eq_true]at c;exact rO I (n:=7) (by omega) c.1 c.2 (fV I m f c.1) (fV I p l c.2) X.prog X.w X.xe _ d
  .cases e
 |Lt=>obtain⟨i,j,rfl,rfl⟩:=j8 e (by simp);cases e;exact a Hu rfl rfl rfl
 |LtE=>obtain⟨i,j,rfl,rfl⟩:=j8 e (by simp);cases e;exact a Hv rfl rfl rfl
 |Gt=>obtain⟨i,j,rfl,rfl⟩:=j8 e (by simp);cases e;exact a Hw rfl rfl rfl
 |GtE=>obtain⟨i,j,rfl,rfl⟩:=j8 e (by simp);cases e;exact a Hx rfl rfl rfl
 |In=>
  have e:inD r t=.ok k:=e;exact(DP F I f l m p e).1 q
 |NotIn=>
  have e:(do let b ←inD r t;Out.ok (!b))=.ok k:=e
  obtain⟨b,B,C⟩:=kI e;cases C;exact(DP F I f l m p B).2 q
 |Is=>
  have e:isD r t=.ok k:=e;obtain⟨z,E⟩:=DO m p f l e;exact wpAny_is_plain z (by rw[E];exact d)
 |IsNot=>
  have e:(do let b ←isD r t;Out.ok (!b))=.ok k:=e
  obtain⟨b,B,C⟩:=kI e;cases C;obtain⟨z,E⟩:=DO m p f l B;exact wpAny_isNot_plain z (by rw[E];exact d)
theorem Fd{op:CmpOp}{c e:D}{x y:V}{Z:Addr->Prop}{H:Hp}{b:Bool}{d:D}{Q:VK}(i:Now Z H c x)(j:Now Z H e y)(f:∀a,Z a->H a≠none)
  (l:(do let r ←dP op c e;Out.ok (false,D.bl r))=.ok (b,d)) (k:∀v g h,eF Z H h g->ey bw b h H g d v->Q v g):Fc op x y H Q:=by
 obtain⟨r,m,n⟩:=kI l;cases n;exact⟨Z,c,e,r,i,j,m,k _ H Z (eF.refl f) (.rep (fo rfl))⟩
end
theorem PT.imp{X:Cx}{e:Expr}{t t':TT}(h:PT X e t)(i:∀σ H Q,t' σ H Q->t σ H Q):PT X e t':=λpins s σ H Q I q=>h _ s σ H Q I (i σ H Q q)
theorem PW.imp{X:Cx}{e:Expr}{t t':TT}(h:PW X e t)(i:∀σ H Q,t' σ H Q->t σ H Q):PW X e t':=λa pins s σ H Q I q=>h a _ s σ H Q I (i σ H Q q)
section
variable{X:Cx}{Γ:mf}{bw:Bool}{a b e:Expr}{ca cb cc c:Ex}{pos:Pos}
theorem Fe{Z:Addr->Prop}{H:Hp}{d:D}{x:V}{t:Bool}{K:PySem.W.Frag}(n:Now Z H d x)(h:jR d=some t):pA K x H t:=by
 cases d with
 |non=>cases fK n;cases h;rfl
 |bl b=>cases h_ n;cases h;rfl
 |int b=>cases a_ n;cases h;rfl
 |str b=>
  cases cO n;simp only[jR]at h;split at h
  .rename_i i
   cases h;refine⟨br i,?_⟩
   grind
  .cases h
 |lst g=>
  obtain⟨a,c,rfl,e,f⟩:=cP n;cases h;refine .inl ⟨c,jS e,?_⟩;have:=f.length
  grind
 |tup g=>
  obtain⟨a,c,rfl,_,e,f⟩:=fL n;cases h;refine .inr (.inl ⟨c,vp e,?_⟩);have:=f.length
  grind
 |dct j g=>cases h
 |ref k=>cases h
end
def rP(Z:Addr->Prop)(H:Hp):List D->List V->Prop
 |[],vs=>vs=[]
 |d::ds,vs=>∃v r,vs=v::r/\Now Z H d v/\rP Z H ds r
section
variable{Z Z':Addr->Prop}{H H':Hp}
theorem rP.one{d:D}{xs:List V}(h:rP Z H [d] xs):∃x,xs=[x]/\Now Z H d x:=by
 obtain⟨v,r,e,a,b⟩:=h;exact⟨v,by rw[e,b],a⟩
theorem rP.two{d a:D}{xs:List V}(h:rP Z H [d,a] xs):∃x y,xs=[x,y]/\Now Z H d x/\Now Z H a y:=by
 obtain⟨v,r,e,b,c,j,f,g,i⟩:=h;exact⟨v,c,by rw[e,f,i],b,g⟩
end
def Args(bw:Bool)(Z:Addr->Prop)(H:Hp)(ds:List D)(vs:List V):Prop:=if bw=true then rP Z H ds vs else aW Z H ds vs
theorem PA.imp{X:Cx}{e:List Expr}{t t':TA}(h:PA X e t)(i:∀σ H Q,t' σ H Q->t σ H Q):PA X e t':=λa pins s σ H Q I q=>h _ _ s σ H Q I (i σ H Q q)
section
variable{X:Cx}{Γ:mf}{bw:Bool}{a b e:Expr}{es:List Expr}{ca cb cc c cs:Ex}{pos p:Pos}
theorem xJ{Z:Addr->Prop}{H:Hp}{ds:List D}{vs:List V}{i:Int}{d:D}(h:aW Z H ds vs)(e:jP ds i=some d):∃v,jP vs i=some v/\Rep Z H d v:=by
 unfold jP at e ⊢;rw[h.length];cases q:w_ _ i with
 |none=>simp_all
 |some j=>
  rw[q]at e;exact h.get e
theorem Ff{q r:D}{x y:V}{Z:Addr->Prop}{H:Hp}{e:Bool}{d:D}{Q:VK}{K:PySem.W.Frag}(g:Now Z H q x)(h:Now Z H r y)(c:∀a,Z a->H a≠none)(b:rJ q r=.ok (e,d))
  (k:∀v i s,eF Z H s i->ey bw e s H i d v->Q v i):O_ K x y H Q:=by
 unfold rJ at b;split at b
 .obtain⟨l,j,rfl,m,n⟩:=cP g
  cases a_ h;split at b
  .rename_i t f
   cases b;obtain⟨v,o,p⟩:=xJ n f;exact .inl ⟨l,j,_,v,rfl,rfl,jS m,o,k v H Z (eF.refl c) (.rep p)⟩
  .cases b
 .obtain⟨l,j,rfl,_,m,n⟩:=fL g
  cases a_ h;split at b
  .rename_i t f
   cases b;obtain⟨v,o,p⟩:=xJ n f;exact .inr (.inl ⟨l,j,_,v,rfl,rfl,vp m,o,k v H Z (eF.refl c) (.rep p)⟩)
  .cases b
 .cases cO g
  cases a_ h;split at b
  .rename_i u
   split at b
   .rename_i w f
    cases b;exact .inr (.inr ⟨_,_,w,rfl,rfl,br u,f,k _ H Z (eF.refl c) (.rep (fo rfl))⟩)
   .cases b
  .cases b
 .cases b
theorem kM{a:Type}(xs:List a)(b c:Option Int):(cj xs b c).length<=xs.length:=by
 unfold cj;rw[List.length_take,List.length_drop];omega
theorem tF(n d:Nat)(v:Int):max 0 (min (if v<0 then v+(n:Int)else v) (n:Int))=((HT.kE n d (some v):Nat):Int):=by
 show max 0 _=(((if v<0 then (v+(n)).toNat else min _ n):Nat):Int)
 grind
theorem xM{a b:Int}{p q:Nat}(c:a=p)(d:b=q):sliceRange a b 1=(List.range (q - p)).map λk=>p+k:=by
 subst c d;unfold sliceRange;simp only[show((1:Int)>0)=True from by simp,if_true]
 by_cases e:(p:Int)<q
 .grind
 grind
theorem kN(a b:Option Int)(n:Nat):Builtin.Str.strSliceIndices a b 1 n=(List.range (HT.kE n n b - HT.kE n 0 a)).map λk=>HT.kE n 0 a+k:=by
 refine xM ?_ ?_
 .cases a with
  |none=>rfl
  |some v=>exact tF n 0 v
 .cases b with
  |none=>rfl
  |some v=>exact tF n n v
theorem vq:∀(n a:Nat) (l:List Nat),a+n<=l.length->((List.range n).map λk=>a+k).filterMap (λi=>l[i]?)=(l.drop a).take n:=by
 intro n
 induction n with
 |zero=>intro a l _;simp
 |succ n c=>
  intro a l h;have b:a+n<l.length:=by omega
  rw[List.range_succ,List.map_append,List.filterMap_append,c a l (by omega),List.take_add_one,List.getElem?_drop]
  simp[List.getElem?_eq_getElem b]
theorem xO(x:Str)(b a:Option Int):(Builtin.Str.strSliceIndices b a 1 x.length).filterMap (x.cps[·]?)=cj x.cps.toList b a:=by
 have c:x.cps.toList.length=x.length:=by rfl
 have e:=HT.w8 x.length x.length (Nat.le_refl _) a;rw[kN];unfold cj;rw[c];generalize HT.kE x.length 0 b=p at *;generalize HT.kE x.length x.length a=q at *
 by_cases d:p<=q
 .have:=vq (q - p) p _ (by rw[c];omega)
  grind
 grind
def HR:V->Option Int->Option Int->Hp->VK->Prop:=λx a b H Q=>∃z,x=.str z/\z.length<=sizeLine/\Q (.str ⟨(cj z.cps.toList a b).toArray⟩) H
theorem kO:EZ X HR:=by
 intro pins s G H x v J K a b L Q I j k m n h;obtain⟨z,rfl,M,q⟩:=h;obtain⟨t,rfl⟩:=j;refine⟨"str",_,F.slot_str_getitem.lookup,typeIs_str _ _ _,?_⟩
 have part:∀{w:Value}{o:Option Int},IsPart w o->∃p:Option (Int×Tok),w=partValue p/\p.map (·.1)=o:=λh=>by
  cases h with
  |none=>exact⟨none,rfl,rfl⟩
  |int i t=>exact⟨some (i,t),rfl,rfl⟩
 obtain⟨d,r,m1⟩:=part m;obtain⟨e,y,m2⟩:=part n;subst r y;refine wpAny_getItem_str_slice (l:=d) (u:=e) (st:=none) k rfl ?_
 have A:(slicePicked z d e none).filterMap (z.cps[·]?)=cj z.cps.toList a b:=by
  unfold slicePicked;rw[m1,m2];exact xO z a b
 have N:(cj z.cps.toList a b).length<=z.length:=by
  have:=kM z.cps.toList a b;simpa[Str.length]using this
 unfold sliceMade;split
 .rename_i g
  have c:(slicePicked z d e none).length=z.length:=by
   simp only[Bool.and_eq_true,beq_iff_eq]at g;exact g.2
  have B:(⟨(cj z.cps.toList a b).toArray⟩:Str)=z:=by
   unfold slicePicked at c;rw[m1,m2]at c;have c:(Builtin.Str.strSliceIndices a b 1 z.length).length=z.length:=c;rw[kN,List.length_map,List.length_range]at c;have O:=HT.w8 z.length z.length (Nat.le_refl _) b;have f:z.cps.toList.length=z.length:=by simp[Str.length]
   have C:cj z.cps.toList a b=z.cps.toList:=by
    unfold cj;rw[f]
    by_cases D:z.length=0
    .have:z.cps.toList=[]:=List.eq_nil_of_length_eq_zero (by rw[f];exact D)
     rw[this];simp
    .have E:HT.kE z.length 0 a=0:=by omega
     rw[E,List.drop_zero,List.take_of_length_le (by rw[f];omega)]
   rw[C]
  refine⟨.str z,H,I,⟨t,rfl⟩,?_⟩;rw[B]at q;exact q
 .rw[A]
  refine⟨?_,.str _,H,I.tok _,⟨_,rfl⟩,q⟩
  show(cj z.cps.toList a b).toArray.size<=sizeLine
  rw[List.size_toArray];omega
def HS(K:PySem.W.Frag):V->Option Int->Option Int->Hp->VK->Prop:=λx a b H Q=>HJ K x a b H Q\/HR x a b H Q
end
noncomputable def n4(F:List D->Out Rs):Sp:=λg H Q _=>
 ∃Z e b d,(∀a,Z a->H a≠none)/\aW Z H e g/\F e=.ok (b,d)/\∀v c f,eF Z H f c->ey false b f H c d v->Q v c
theorem ey.weak{bw a:Bool}{Z:Addr->Prop}{b H:Hp}{d:D}{v:V}(h:ey false a Z b H d v):ey bw a Z b H d v:=by
 unfold ey at h ⊢;split
 .simp_all
 .rename_i c;rw[if_neg c]at h
  split
  .exact h.now
  .exact h
section
variable{X:Cx}{Γ:mf}{bw:Bool}{a b e:Expr}{es:List Expr}{ca cb cc c cs:Ex}{pos p:Pos}
structure HU(X:Cx)(k:Nat)(x:Str)(F:List D->Out Rs):Prop where
 ex:∃(f:Addr) (fd:FuncData) (ps:List Str),X.mg x=some (.ref f)/\PySem.W.keepIn X.K (.ref f)=true/\Binds X.K fd ps []/\bP X.prog X.w X.K X.mg X.base dH k f fd ps (n4 F)
inductive eG (h:Heap):Value->Bool->Prop where
 |non:eG h .none false
 |bl (b:Bool):eG h (.bool b) b
 |int (i:Int) (t:Tok):eG h (.int i t) (i != 0)
 |str (x:Str) (t:Tok):x.length<=sizeLine->eG h (.str x t) ((x.length:Int) != 0)
 |lst {l:Addr}{its:Array Value}:h.IsList l its->its.size<=sizeLine->eG h (.ref l) (!its.isEmpty)
 |tup {l:Addr}{its:Array Value}:IsTup h l its->its.size<=sizeLine->eG h (.ref l) (!its.isEmpty)
theorem eG.keep{h d:Heap}{u:Value}{t:Bool}(k:∀b o,(u=.ref b)->h.get? b=some o->d.get? b=some o)(x:eG h u t):eG d u t:=by
 cases x with
 |non=>exact .non
 |bl=>exact .bl _
 |int i t=>exact .int i t
 |str x t z=>exact .str x t z
 |lst q z=>obtain⟨o,a,c⟩:=q;exact .lst ⟨o,k _ o rfl a,c⟩ z
 |tup q z=>obtain⟨o,a,c⟩:=q;exact .tup ⟨o,k _ o rfl a,c⟩ z
theorem eG.run{prog:Program}{w:World}{A:Around}{E:Value->Shared->Prop}{s:Shared}{u:Value}{t:Bool}{Q:Bool->Shared->Prop}(x:eG s.heap u t)(q:∀tk,Q t {s with toks:=tk}):wpAny (model prog w) A (truthy u) Q E s:=by
 have a:=gf;cases x with
 |non=>exact truthy_none (q _)
 |bl=>exact wpAny_truthy_bool (q _)
 |int i t=>exact PySem.P.truthy_int (q _)
 |str x t z=>exact PySem.P.truthy_str (by omega) (q _)
 |lst h z=>exact wpAny_truthy_list h (by omega) (q _)
 |tup h z=>exact truthy_tuple h (by omega) (q _)
theorem xP{pins:List (Addr×Obj)}{σ:L2.St}{H:Hp}{s:Shared}{Z:Addr->Prop}{d:D}{v:V}{u:Value}{t:Bool}(I:Inv X pins σ H s)(n:Now Z H d v)(r:RelV v u)(h:jR d=some t):eG s.heap u t:=by
 cases d with
 |non=>cases fK n;cases r;cases h;exact .non
 |bl b=>cases h_ n;cases r;cases h;exact .bl _
 |int b=>cases a_ n;obtain⟨k,rfl⟩:=r;cases h;exact .int _ _
 |str b=>
  cases cO n;obtain⟨k,rfl⟩:=r;simp only[jR]at h;split at h
  .rename_i m
   cases h
   have e:((b.length:Int) != 0)=(b.length != 0):=by
    grind
   rw[←e];exact .str b k (br m)
  .cases h
 |lst g=>
  obtain⟨a,o,rfl,i,j⟩:=cP n;cases r;cases h;obtain⟨c,f,p,l⟩:=I.list (jS i)
  have e:(!g.isEmpty)=!c.toArray.isEmpty:=by
   have q:=j.length;have w:=f.length
   grind
  rw[e];exact .lst p.isList (by rw[List.size_toArray,←f.length];exact l)
 |tup g=>
  obtain⟨a,o,rfl,_,i,j⟩:=fL n;cases r;cases h;obtain⟨c,f,p,l⟩:=I.tuple (vp i)
  have e:(!g.isEmpty)=!c.toArray.isEmpty:=by
   have q:=j.length;have w:=f.length
   grind
  rw[e];exact .tup p (by rw[List.size_toArray,←f.length];exact l)
 |dct x g=>cases h
 |ref k=>cases h
section
variable{prog:Program}{w:World}{A:Around}{R:Result->Shared->Prop}{J:Addr}{fp wr:List Addr}{n:Nat}{P:Nat->Value->Prop}{T:Nat->Heap->Prop}
theorem xQ(W:Walks prog w A.in1 J fp wr n P T)(f:Nat->Bool)(G:Heap->Prop)(y:∀h a:Heap,G h->(∀b o,b∉wr->h.get? b=some o->a.get? b=some o)->G a)
  (B:∀i v (h:Heap),P i v->G h->eG h v (f i)):∀(m i:Nat) (s:Shared),n - i=m->i<=n->T i s.heap->G s.heap ->
  (∀a tk,(∀b o,b∉wr->s.heap.get? b=some o->a.get? b=some o)->R (.ok (.ret (.bool (((List.range n).drop i).all f)))) {s with heap:=a,toks:=tk}) ->
  codeAny (model prog w) A (.builtin "all.loop" ⟨[.ref J],[]⟩) R s:=by
 intro m
 induction m with
 |zero=>
  intro i s C D j g c;obtain rfl:i=n:=by omega
  refine codeAny_builtin PySem.F.entry_all_loop ?_;refine wpAny_bind (W.done s _ _ j λa tk d=>wpAny_bind (wpAny_rule (wpAny_pure ?_)))
  have q:=c a tk d;rw[List.drop_of_length_le (by simp)]at q
  exact q
 |succ m E=>
  intro i s C D j g c;have k:i<n:=by omega
  have H:(List.range n).drop i=i::(List.range n).drop (i+1):=by
   rw[List.drop_eq_getElem_cons (by simpa using k)];simp
  refine codeAny_builtin PySem.F.entry_all_loop ?_;refine wpAny_bind (W.item i s _ _ k j λv a tk I l d=>?_)
  have u:G a:=y _ _ g d;refine wpAny_bind (wpAny_holding ((B i v a I u).run λp=>?_))
  refine wpAny_bind (wpAny_letGo ?_);cases e:f i with
  |true=>
   refine wpAny_pure ⟨plainId_quiet PySem.F.plain_all_loop _,E (i+1) _ (by omega) k l u λK r t=>?_⟩
   have q:=c K r λb o x z=>t b o x (d b o x z)
   simp_all
  |false=>
   refine wpAny_bind (wpAny_rule (wpAny_pure ?_));have q:=c a p d;rw[H,List.all_cons,e,Bool.false_and]at q;exact q
theorem xR(W:Walks prog w A.in1 J fp wr n P T)(f:Nat->Bool)(G:Heap->Prop)(y:∀h a:Heap,G h->(∀b o,b∉wr->h.get? b=some o->a.get? b=some o)->G a)
  (B:∀i v (h:Heap),P i v->G h->eG h v (f i)):∀(m i:Nat) (s:Shared),n - i=m->i<=n->T i s.heap->G s.heap ->
  (∀a tk,(∀b o,b∉wr->s.heap.get? b=some o->a.get? b=some o)->R (.ok (.ret (.bool (((List.range n).drop i).any f)))) {s with heap:=a,toks:=tk}) ->
  codeAny (model prog w) A (.builtin "any.loop" ⟨[.ref J],[]⟩) R s:=by
 intro m
 induction m with
 |zero=>
  intro i s C D j g c;obtain rfl:i=n:=by omega
  refine codeAny_builtin PySem.F.entry_any_loop ?_;refine wpAny_bind (W.done s _ _ j λa tk d=>wpAny_bind (wpAny_rule (wpAny_pure ?_)))
  have q:=c a tk d;rw[List.drop_of_length_le (by simp)]at q
  exact q
 |succ m E=>
  intro i s C D j g c;have k:i<n:=by omega
  have H:(List.range n).drop i=i::(List.range n).drop (i+1):=by
   rw[List.drop_eq_getElem_cons (by simpa using k)];simp
  refine codeAny_builtin PySem.F.entry_any_loop ?_;refine wpAny_bind (W.item i s _ _ k j λv a tk I l d=>?_)
  have u:G a:=y _ _ g d;refine wpAny_bind (wpAny_holding ((B i v a I u).run λp=>?_))
  refine wpAny_bind (wpAny_letGo ?_);cases e:f i with
  |false=>
   refine wpAny_pure ⟨plainId_quiet PySem.F.plain_any_loop _,E (i+1) _ (by omega) k l u λK r t=>?_⟩
   have q:=c K r λb o x z=>t b o x (d b o x z)
   simp_all
  |true=>
   refine wpAny_bind (wpAny_rule (wpAny_pure ?_));have q:=c a p d;rw[H,List.any_cons,e,Bool.true_or]at q;exact q
end
theorem n5:∀{ds:List D}{bs:List Bool},fj ds=some bs->bs.length=ds.length
 |[],_,h=>by cases h;rfl
 |d::ds,bs,h=>by
  simp only[fj]at h;split at h
  .rename_i b a h1 h2
   cases h;rw[List.length_cons,List.length_cons,n5 h2]
  .cases h
theorem tG:∀{ds:List D}{bs:List Bool}{i:Nat}{d:D},fj ds=some bs->ds[i]?=some d->∃b,bs[i]?=some b/\jR d=some b
 |[],_,_,_,_,h=>by simp at h
 |d::ds,bs,i,f,h,a=>by
  simp only[fj]at h;split at h
  .rename_i b e h1 h2
   cases h;cases i with
   |zero=>simp_all
   |succ i=>
    obtain⟨c,g,j⟩:=tG h2 (by simpa using a)
    simp_all
  .cases h
theorem all_range:∀(bs:List Bool),((List.range bs.length).all λi=>(bs[i]?).getD true)=bs.all id
 |[]=>rfl
 |b::bs=>by
  rw[List.length_cons,List.range_succ_eq_map,List.all_cons,List.all_map,List.all_cons,←all_range bs];rfl
theorem any_range:∀(bs:List Bool),((List.range bs.length).any λi=>(bs[i]?).getD false)=bs.any id
 |[]=>rfl
 |b::bs=>by
  rw[List.length_cons,List.range_succ_eq_map,List.any_cons,List.any_map,List.any_cons,←any_range bs];rfl
def MH(K:PySem.W.Frag):List V->Hp->VK->Prop:=λb H Q=>∃Z a bs x,b=[x]/\Now Z H (.lst a) x/\fj a=some bs/\Q (.bl (bs.all id)) H
def MI(K:PySem.W.Frag):List V->Hp->VK->Prop:=λb H Q=>∃Z a bs x,b=[x]/\Now Z H (.lst a) x/\fj a=some bs/\Q (.bl (bs.any id)) H
theorem xS{pins:List (Addr×Obj)}{σ:L2.St}{H:Hp}{s:Shared}{Z:Addr->Prop}{ds:List D}{vs:List V}{a:List Value}{bs:List Bool}(I:Inv X pins σ H s)(d:aW Z H ds vs)(e:Vals vs a)(j:fj ds=some bs)(dflt:Bool) :
  ∀(i:Nat) (v:Value),a.toArray[i]?=some v->eG s.heap v ((bs[i]?).getD dflt):=by
 intro i v c;have c:=by simpa using c
 obtain⟨k,l⟩:=List.getElem?_eq_some_iff.mp c;obtain⟨x,m,f⟩:=nY e k;have q:=d.length;have r:=e.length;have g:ds[i]?=some ds[i]:=by simp
 obtain⟨y,h,n⟩:=d.get g;rw[m]at h;cases h
 obtain⟨b,o,p⟩:=tG j g;rw[o];rw[l]at f;exact xP I n.now f p
theorem xT(m:X.calm=true):d_ X (.builtin "all") (MH X.K):=by
 intro pins s C H D E Q I r h;obtain⟨Z,G,bs,x,rfl,n,f,q⟩:=h;obtain⟨u,rfl,t⟩:=vals1 r;obtain⟨l,J,rfl,w,j⟩:=cP n;cases t;obtain⟨a,k,p,L⟩:=I.list (jS w);refine call_function_tree PySem.F.kind_all PySem.F.plain_all PySem.F.entry_all (PySem.F.args_all1 _) ?_;refine wpAny_bind (wpAny_pure (wpAny_bind (wpAny_pyIter_list p.isList ?_)))
 refine wpAny_pure ⟨plainId_quiet PySem.F.plain_all_loop _,xQ (Walks.list (A:=X.A.in1) (I.ok.hd m) _ l (Nat.ne_of_lt (by obtain⟨_,e,_⟩:=p.isList;exact Heap.lt_size e)) _) _
  (λh=>∀b o,b≠s.heap.objs.size->s.heap.get? b=some o->h.get? b=some o) (λh y g c b o d e=>c b o (by simpa using d) (g b o d e))
  (λi v h B g=>((xS I j k f true) i v B).keep λb o e z=>g b o (Nat.ne_of_lt (Heap.lt_size z)) z) _ 0 _ rfl (Nat.zero_le _) ⟨⟨_,Heap.get?_push_size _ rfl,rfl,rfl⟩,p.isList.push _⟩ (λb o d e=>Heap.get?_push_of_some _ e) λy M c=>?_⟩
 have e:((List.range a.toArray.size).drop 0).all (λi=>(bs[i]?).getD true)=bs.all id:=by
  rw[List.size_toArray,←k.length,j.length,←n5 f];exact all_range bs
 rw[e]
 exact⟨.bl _,H,I.kept λb o z=>c b o (by
  have:=Nat.ne_of_lt (Heap.lt_size z);simpa using this) (Heap.get?_push_of_some _ z),rfl,q⟩
theorem xU(m:X.calm=true):d_ X (.builtin "any") (MI X.K):=by
 intro pins s E H G J Q I r h;obtain⟨Z,L,bs,x,rfl,n,d,q⟩:=h;obtain⟨u,rfl,t⟩:=vals1 r;obtain⟨l,M,rfl,w,f⟩:=cP n;cases t;obtain⟨a,j,p,N⟩:=I.list (jS w);have y:l<s.heap.objs.size:=by obtain⟨_,e,_⟩:=p.isList;exact Heap.lt_size e
 have B:=xS I f j d false;refine call_function_tree PySem.F.kind_any PySem.F.plain_any PySem.F.entry_any (PySem.F.args_any1 _) ?_;refine wpAny_bind (wpAny_pure (wpAny_bind (wpAny_pyIter_list p.isList ?_)))
 refine wpAny_pure ⟨plainId_quiet PySem.F.plain_any_loop _,xR (Walks.list (A:=X.A.in1) (I.ok.hd m) _ l (by grind) _) _
  (λh=>∀b o,b≠s.heap.objs.size->s.heap.get? b=some o->h.get? b=some o) (λh C g c b o k e=>c b o (by grind) (g b o k e))
  (λi v h D g=>(B i v D).keep λb o e z=>g b o (Nat.ne_of_lt (Heap.lt_size z)) z) _ 0 _ rfl (Nat.zero_le _) ⟨⟨_,Heap.get?_push_size _ rfl,rfl,rfl⟩,p.isList.push _⟩ (λb o k e=>Heap.get?_push_of_some _ e) λC O c=>?_⟩
 have e:((List.range a.toArray.size).drop 0).any (λi=>(bs[i]?).getD false)=bs.any id:=by
  rw[List.size_toArray,←j.length,f.length,←n5 d];exact any_range bs
 rw[e]
 exact⟨.bl _,H,I.kept λb o z=>c b o (by
  have:=Nat.ne_of_lt (Heap.lt_size z)
  grind) (Heap.get?_push_of_some _ z),rfl,q⟩
end
section
variable{X:Cx}{Γ:mf}{bw:Bool}{a b e:Expr}{es:List Expr}{ca cb cc c cs:Ex}{pos p:Pos}
noncomputable def ji.nm:ji->Str
 |.len=>"len" |.all=>"all" |.any=>"any" |.sorted=>"sorted" |.list=>"list" |.tuple=>"tuple" |.int=>"int" |.min=>"min" |.max=>"max" |.bool=>"bool"
theorem ia{Z:Addr->Prop}{H:Hp}{d:D}{v:V}{Q:VK}(b:∀a,Z a->H a≠none)(k:∀v c e,eF Z H e c->ey bw false e H c d v->Q v c)(h:fk d=some v):Q v H:=
 k _ H Z (eF.refl b) (.rep (fo h))
noncomputable def Ty.nm:Ty->Str
 |.int=>"int" |.str=>"str" |.bool=>"bool" |.list=>"list" |.tuple=>"tuple" |.dict=>"dict"
noncomputable def Ty.id:Ty->String
 |.int=>"int" |.str=>"str" |.bool=>"bool" |.list=>"list" |.tuple=>"tuple" |.dict=>"dict"
theorem Be(t:Ty):bootBuiltins t.nm=some (.type t.id):=by cases t<;>decide +kernel
theorem tH(K:PySem.W.Frag)(t:Ty):PySem.W.kitOne K (.type "NoneType") (.type t.id)=some false/\PySem.W.kitOne K (.type "bool") (.type t.id)=some (t==.bool||t==.int)/\PySem.W.kitOne K (.type "int") (.type t.id)=some (t==.int) /\
  PySem.W.kitOne K (.type "str") (.type t.id)=some (t==.str)/\PySem.W.kitOne K (.type "list") (.type t.id)=some (t==.list)/\PySem.W.kitOne K (.type "tuple") (.type t.id)=some (t==.tuple)/\PySem.W.kitOne K (.type "dict") (.type t.id)=some (t==.dict):=by
 cases t<;>refine⟨?_,?_,?_,?_,?_,?_,?_⟩<;>with_unfolding_all rfl
def HV(K:PySem.W.Frag):List V->Hp->VK->Prop:=λa H Q=>∃Z d x t b,a=[x,.ty (Ty.id t)]/\Now Z H d x/\xE d t=some b/\Q (.bl b) H
theorem jz{K:PySem.W.Frag}{H:Hp}{a:Addr}{vs:List V}{X:Cx}{pins:List (Addr×Obj)}{σ:L2.St}{s:Shared}(I:Inv X pins σ H s)(h:Rd H a (.tup vs)):∃o,s.heap.get? a=some o/\o.cls=.type "tuple":=by
 obtain⟨_,b,_,o,c,d,_⟩:vs.length<=sizeLine/\∃b:List _,Vals vs _/\IsTup _ a _:=Rd.ok h I.hok;exact⟨o,c,d⟩
theorem xV:d_ X (.builtin "isinstance") (HV X.K):=by
 intro pins s y H J L Q I r h;obtain⟨Z,d,x,t,b,rfl,f,i,q⟩:=h;obtain⟨u,M,rfl,j,A⟩:=vals2 r;cases (A);obtain⟨B,C,D,E,l,F,G⟩:=tH X.K t;have e:∀m,EP X _ y Q _ _:=λm=>⟨.bl b,H,I.tok m,rfl,q⟩
 cases d with
 |non=>cases fK f;cases i;exact cF I j .non B e
 |bl c=>cases h_ f;cases i;exact cF I j (.bl c) C e
 |int c=>cases a_ f;cases i;exact cF I j (.int c) D e
 |str c=>cases cO f;cases i;exact cF I j (.str c) E e
 |lst n=>
  obtain⟨a,p,rfl,g,w⟩:=cP f;cases i;rcases g with g|⟨o,g⟩
  .exact cF I j (.lst g) l e
  .exact cF I j (.cL g) l e
 |tup n=>
  obtain⟨a,p,rfl,_,g,w⟩:=fL f;cases i;cases j;exact PySem.W.kia_one PySem.W.kitx_tuple I.fU (jz (K:=X.K) I g) F (λz=>nomatch z) e
 |dct N n=>
  have f:=f;obtain⟨a,p,rfl,_,g,w⟩:=f;cases i;exact cF I j (.dK g) G e
 |ref k=>cases i
end
abbrev tI(a:List Expr)(env:Env):Sem Bool:=forIn a true λc r=>if r=true then do let ok ←isTrue c env (eval c env);pure (ForInStep.yield ok)else pure (ForInStep.yield r)
section
variable{prog:Program}{w:World}{A:Around}{R:Result->Shared->Prop}{s:Shared}
theorem vt{a e iter:Expr}{b:List Expr}{scope:Scope}{pos:Pos}{it c:Value}{env:Env}(J:Nat->Shared->Prop)
  (d:∀n s,J n s->wpAny (model prog w) A (pyNext it) (λr f=>match r with
   |none=>R (.ok .next) f
   |some v=>wpAny (model prog w) A (letOwnedTupleGo e it v) (λ_ i=>wpAny (model prog w) A (assign e env v) (λ_ j=>wpAny (model prog w) A (tI b env) (λok g=>
      if ok=true then wpAny (model prog w) A (eval a env) (λx k=>wpAny (model prog w) A (call (.builtin "list.append") [c,x]) (λ_ l=>∃m,m<n/\J m l) (λ_ _=>False) k) (λ_ _=>False) g
      else ∃m,m<n/\J m g) (λ_ _=>False) j) (λ_ _=>False) i) (λ_ _=>False) f) (λ_ _=>False) s)
  (n:Nat) (h:J n s):codeAny (model prog w) A (.compLoop (.ListComp a [⟨e,iter,b,0⟩] scope pos) 0 it c env) R s:=by
 refine codeAny_loop rfl J (λn s p=>?_) n h
 refine wpAny_noted ?_;rw[compTurn_list];refine wpAny_bind (wpAny_standAt (wpAny_bind (wpAny_mono (d n s p) (λr f o=>?_) (by grind))))
 cases r with
 |none=>exact wpAny_pure o
 |some v=>
  refine wpAny_bind (wpAny_mono o (λ_ i q=>wpAny_bind (wpAny_mono q (λ_ j t=>wpAny_bind (wpAny_mono t (λok g u=>?_) (by grind))) (by grind))) (by grind))
  cases ok with
  |false=>exact wpAny_pure ⟨rfl,by grind⟩
  |true=>
   refine wpAny_bind (wpAny_bind (wpAny_mono u (λx k y=>wpAny_bind (wpAny_mono y (λ_ l z=>wpAny_pure (wpAny_pure ⟨rfl,z⟩)) (by grind))) (by grind)))
end
theorem rQ{scope:Scope}{env:Env}(h:∀y∈scope.names,y.2=.free->∃c,env.cells.lookup y.1=some c) :
  ∃cl,closureFor scope env=pure cl/\(∀n c,(n,c)∈cl->env.cells.lookup n=some c)/\∀y∈scope.names,y.2=.free->∃c,(y.1,c)∈cl:=by
 have f:∀(l:List _) (b:List _),(∀y∈l,y.2=.free->∃c,env.cells.lookup y.1=some c)->(∀n c,(n,c)∈b->env.cells.lookup n=some c) ->
   ∃cl,(forIn l b λx r=>match x with | (name,kind)=>if (kind==NameKind.free)=true then do let a ←cellOf env name;pure (ForInStep.yield ((name,a)::r))else pure (ForInStep.yield r))=pure cl /\
    (∀n c,(n,c)∈cl->env.cells.lookup n=some c)/\(∀p∈b,p∈cl)/\∀y∈l,y.2=.free->∃c,(y.1,c)∈cl:=by
  intro l
  induction l with
  |nil=>intro b _ g;exact⟨_,rfl,g,by simp,by simp⟩
  |cons y l m=>
   intro b i g;obtain⟨n,k⟩:=y;cases u:(k==NameKind.free)with
   |false=>
    obtain⟨cl,e,j,q,o⟩:=m _ (λz d=>i z (by simp[d])) g
    grind
   |true=>
    obtain⟨c,s⟩:=i (n,k) (by simp) (by grind)
    obtain⟨cl,e,j,q,o⟩:=m ((n,c)::b) (λz d=>i z (by simp[d])) (λw A B=>by
     grind)
    refine⟨cl,?_,j,by grind,λz d t=>?_⟩
    .have:cellOf env n=pure c:=by
      unfold cellOf;rw[s]
     grind
    grind
 obtain⟨cl,e,j,_,o⟩:=f _ [] h (λ_ _ z=>absurd z (by simp))
 unfold closureFor
 grind
noncomputable def blk(X:Cx)(scope:Scope)(cl:List (Str×Addr))(C:Addr)(N:List Str)(s₀:Shared)(H₀:Hp)(fp:List Addr):Cx:=
 {X with N:=N,s₀:=s₀,H₀:=H₀,env:=compEnvC scope cl C X.env,outer:=X.stack,stack:=X.stack,ex:=fp,fn:=λ_=>false,pn:=[],xe:=λ_ _=>False}
theorem lookup_mem{a b:Type}[BEq a][LawfulBEq a]:∀{l:List (a×b)}{x:a}{v:b},l.lookup x=some v->(x,v)∈l
 |[],_,_,h=>by simp at h
 | (n,k)::r,x,v,h=>by
  rw[List.lookup_cons]at h;cases e:x==n with
  |true=>grind
  |false=>rw[e]at h;exact List.mem_cons_of_mem _ (lookup_mem h)
theorem mem_lookup{a b:Type}[BEq a][LawfulBEq a]:∀{l:List (a×b)}{x:a}{v:b},(x,v)∈l->∃u,l.lookup x=some u
 |[],_,_,h=>by simp at h
 | (n,k)::r,x,v,h=>by
  rw[List.lookup_cons];cases e:x==n with
  |true=>simp
  |false=>
   rcases List.mem_cons.mp h with q|q
   .simp_all
   .exact mem_lookup q
theorem eH{env:Env}:∀(names:List (Str×NameKind)) (x:Str),(names.map λ(n,k)=>if (k==NameKind.free&&env.scope.kind==.function&&env.kindOf n==some .cell)then (n,NameKind.cell)else (n,k)).lookup x =
  (names.lookup x).map λk=>if (k==NameKind.free&&env.scope.kind==.function&&env.kindOf x==some .cell)then NameKind.cell else k
 |[],_=>rfl
 | (n,k)::r,x=>by
  have a:=eH (env:=env) r x
  grind
structure jA(X:Cx)(scope:Scope)(tn cn:List Str)(cap:List Nat):Prop where
 kind:scope.kind=.function
 cell:∀y∈scope.names,y.2≠.cell
 names:∀y∈scope.names,y.2=.local->scope.names.lookup y.1=some .local
 free:∀y∈scope.names,y.2=.free->X.env.kindOf y.1=some .cell\/X.env.kindOf y.1=some .free
 len:cn.length=cap.length
 at':∀(j i:Nat) (x:Str),cn[j]?=some x->cap[j]?=some i->X.N[i]?=some x/\scope.names.lookup x=some .free
noncomputable def pQ(cap:List Nat)(σ:L2.St):L2.St:=cap.map λi=>(σ[i]?).join
def fW(a:Nat)(cap:List Nat)(σ:L2.St):L2.St:=List.replicate a none++pQ cap σ
section
variable{X:Cx}{scope:Scope}{tn cn:List Str}{cap:List Nat}
theorem vu{pins:List (Addr×Obj)}{σ:L2.St}{H:Hp}{s:Shared}{fp:List Addr}{cl:List (Str×Addr)}{F:Heap}{tk:Nat}{m:Str->Option Value}(B:jA X scope tn cn cap)
  (I:Inv X pins σ H s) (G:∀b∈fp,l6 X pins H b) (L:∀b∈fp,∃o,s.heap.get? b=some o) (t:∀n c,(n,c)∈cl->X.env.cells.lookup n=some c) (Y:∀y∈scope.names,y.2=.free->∃c,(y.1,c)∈cl)
  (J:∀b o,s.heap.get? b=some o->F.get? b=some o) (j:∃n,F.get? s.heap.objs.size=some {cls:=.type "list",data:=.seq ([]:List Value).toArray n}) (ns:F.Ns (s.heap.objs.size+1) m) :
  Inv (blk X scope cl (s.heap.objs.size+1) (tn++cn) s H fp) [] (fW tn.length cap σ) (upd H s.heap.objs.size (.lst [])) {s with heap:=F,toks:=tk}:=by
 have M:∀b o,s.heap.get? b=some o->b≠s.heap.objs.size:=λb o e=>Nat.ne_of_lt (Heap.lt_size e)
 have cell:∀x c,cl.lookup x=some c->∃v,s.heap.IsCell c v:=λx c e=>I.cell x c (t x c (lookup_mem e))
 have N:∀x c,cl.lookup x=some c->c≠s.heap.objs.size+1/\c≠s.heap.objs.size:=λx c e=>by
  obtain⟨v,o,w,_⟩:=cell x c e;exact⟨(λb o e=>Nat.ne_of_lt (Nat.lt_succ_of_lt (Heap.lt_size e))) c o w,M c o w⟩
 have O:∀b∈fp,b<s.heap.objs.size:=λb g=>let ⟨o,e⟩:=L b g;Heap.lt_size e
 have fr:=I.hok.fresh (Nat.le_refl s.heap.objs.size);obtain⟨nd,j⟩:=j
 refine⟨⟨I.ok.mod,B.kind,I.ok.glob,I.ok.blt,Nat.le_succ _,λx y c A d=>?_,λx f=>?_,λx c e _=>absurd (show false=true from e) Bool.false_ne_true,I.ok.hd,I.ok.frames,.inl rfl,λb g=>⟨?_,λx c e z=>?_⟩,λb o e=>I.bs b o e,Nat.le_trans I.ok.pe I.sz,λb o e g=>?_,λb g P=>?_,I.stack,I.j5⟩,
  rfl,I.bare,?_,⟨m,ns,λi x v A d e3=>?_⟩,λx c e=>?_,?_,λx c e=>?_,λp hp=>absurd (show p∈([]:List (Addr×Obj))from hp) (by simp),?_,?_⟩
 .exact I.ok.inj x y c (t x c (lookup_mem A)) (t y c (lookup_mem d))
 .have f:(relabel scope X.env).names.lookup x=some .cell\/(relabel scope X.env).names.lookup x=some .free:=f
  unfold relabel at f;simp only[eH]at f;cases q:scope.names.lookup x with
  |none=>rw[q]at f;simp at f
  |some k=>
   rw[q]at f;have Z:=lookup_mem q
   have l:k=.free:=by
    by_cases l:k=.free
    .exact l
    .have Q:(k==NameKind.free)=false:=by simpa using l
     rw[Option.map_some]at f;simp only[Q,Bool.false_and,Bool.false_eq_true,if_false,Option.some.injEq]at f;rcases f with z|z
     .exact absurd z (B.cell _ Z)
     .exact z
   obtain⟨c,R⟩:=Y _ Z l;exact mem_lookup R
 .exact Nat.ne_of_lt (Nat.lt_succ_of_lt (O b g))
 .exact(G b g).2.2.2.2.1 x c (t x c (lookup_mem e)) z
 .rcases(G b g).2.2.2.1 with z|z
  .exact I.ok.jM b o e z
  .exact absurd (Nat.lt_of_lt_of_le (Heap.lt_size (I.ok.bs b o e).1) z) (Nat.lt_irrefl _)
 .rcases List.mem_cons.mp (I.nI b P)with z|z
  .exact(G b g).2.1 z
  .exact(G b g).2.2.1 z
 .exact Un.laid J (Nat.le_refl _) fr
 .have C:i<tn.length->False:=λD=>by
   have:(fW tn.length cap σ)[i]?=some none:=by
    unfold fW;rw[List.getElem?_append_left (by simpa using D),List.getElem?_replicate,if_pos D]
   rw[this]at d;cases d
  have D:tn.length<=i:=Nat.le_of_not_lt C;have A:(tn++cn)[i]?=some x:=A;rw[List.getElem?_append_right D]at A
  have a:(pQ cap σ)[i - tn.length]?=some (some v):=by
   unfold fW at d;rw[List.getElem?_append_right (by simpa using D)]at d
   simpa using d
  unfold pQ at a;rw[List.getElem?_map]at a;cases q:cap[i - tn.length]? with
  |none=>rw[q]at a;cases a
  |some K=>
   rw[q]at a;have d:(σ[K]?).join=some v:=by simpa using a
   have e4:σ[K]?=some (some v):=by
    cases q2:σ[K]? with
    |none=>rw[q2]at d;cases d
    |some z=>simp_all
   obtain⟨hN,r⟩:=B.at' _ _ _ A q;have l:=B.free _ (lookup_mem r) rfl
   have E:nH X.env.scope x:=by
    rcases l with z|z
    .exact .inr (.inl z)
    .exact .inr (.inr z)
   obtain⟨m0,a0,S⟩:=I.loc;obtain⟨u,ru,T⟩:=S K x v hN e4 E;refine⟨u,ru,.inr ⟨?_,?_⟩⟩
   .show(relabel scope X.env).names.lookup x=some .cell\/(relabel scope X.env).names.lookup x=some .free
    unfold relabel;simp only[eH,r,Option.map_some];split
    .exact .inl rfl
    .exact .inr rfl
   .have T:∃c,X.env.cells.lookup x=some c/\s.heap.IsCell c (some u):=by
     rcases T with ⟨z,_⟩|⟨_,z⟩
     .rcases l with y|y<;>rw[y]at z<;>cases z
     .exact z
    obtain⟨c,R,U⟩:=T;obtain⟨c',V⟩:=Y _ (lookup_mem r) rfl;obtain⟨b0,h⟩:=mem_lookup V;have:=t _ _ (lookup_mem h);rw[R]at this;cases this
    obtain⟨o,w,j⟩:=U;exact⟨c,h,o,J _ _ w,j⟩
 .obtain⟨v,o,w,j⟩:=cell x c e
  exact⟨v,o,J _ _ w,j⟩
 .show upd H s.heap.objs.size (.lst []) (s.heap.objs.size+1)=none
  rw[ao (Nat.succ_ne_self _)];exact I.hok.fresh (Nat.le_succ _)
 .refine⟨?_,λhz=>absurd (show false=true from hz) Bool.false_ne_true⟩
  rw[ao (N x c e).2];exact(I.cq x c (t x c (lookup_mem e))).1
 .refine I.hok.laid J (Nat.le_refl _) ⟨Nat.zero_le _,[],nd,.nil,j⟩
 .show(fW tn.length cap σ).length=(tn++cn).length
  unfold fW pQ;rw[List.length_append,List.length_append,List.length_replicate,List.length_map,B.len]
def Bf(X:Cx)(a:List Expr)(t:TT):Prop:=∀(pins:List (Addr×Obj)) (s:Shared) (b:L2.St) (H:Hp) (Q:Bool->Hp->Prop),Inv X pins b H s->t b H Q->wpAny (model X.prog X.w) X.A (tI a X.env) (TP X pins b Q) X.xe s
theorem Bg:Bf X [] (λ_ H Q=>Q true H):=λpins s a H Q I h=>wpAny_pure ⟨H,I,h⟩
theorem Bh{c:Expr}{t:TT}(h:PT X c t):Bf X [c] t:=λpins s a H Q I q=>wpAny_tests_one (h _ s a H Q I q)
def mP(n:TI)(o:Nat)(cap:List Nat)(g:TG)(p:TT)(q:TE):TE:=λf H Q=>n f H λJ h=>∀D,h D=none->∃W:Nat->Nat->List V->Hp->Prop,(∃m,W 0 m [] (upd h D (.lst []))) /\
 ∀i m a c,W i m a c->c D=some (.lst a)/\((J.stop i c/\Q (.ref D) c)\/(J.go i c/\a.length<sizeLine/\∀x j,J.Ks i c x j->g x (fW o cap f) j λd r=>p d r λb k=>
  if b=true then q d k λy l=>l D=some (.lst a)/\∃e,e<m/\W (i+1) e (a++[y]) (upd l D (.lst (a++[y])))else ∃e,e<m/\W (i+1) e a k))
theorem mQ{tg iter G:Expr}{K:List Expr}{pos U:Pos}{wi:TI}{g:TG}{tc:TT}{te:TE}{use:Option (Value->Sem Unit)}{Q':Value->Shared->Prop}{Q:VK}{pins:List (Addr×Obj)}{σ:L2.St}{H:Hp}{s:Shared}
  (hc:X.calm=true) (B:jA X scope tn cn cap) (hi:PI X tg iter wi) (hs:∀x,foldedSetIterable iter X.env x=pure x)
  (h0:∀v σ H Q,g v σ H Q->g v σ H λL d=>Q L d/\L.length=σ.length/\∀j,tn.length<=j->L[j]?=σ[j]?)
  (a:∀cl C f k fp,PG (blk X scope cl C (tn++cn) f k fp) tg g/\Bf (blk X scope cl C (tn++cn) f k fp) K tc/\PE (blk X scope cl C (tn++cn) f k fp) G te)
  (i0:∀(P:Shared) (d:Hp) (C D:Addr) (m:Str->Option Value),Inv X pins σ d P->P.heap.Ns C m->d C=none->C≠X.env.locals->X.s₀.heap.objs.size<=C->(∀x c,X.env.cells.lookup x=some c->c≠C)->(∀p∈X.pn++pins,p.1≠C)->Q (.ref D) d ->
   compPost (model X.prog X.w) X.A X.xe use Q' (.ref D) C (.ok .next) P)
  (I:Inv X pins σ H s) (h:mP wi tn.length cap g tc te σ H Q) :
  wpAny (model X.prog X.w) X.A (comprehension (.ListComp G [⟨tg,iter,K,0⟩] scope pos) scope X.env U (newList []) false (eval iter X.env) use) Q' X.xe s:=by
 have j0:∀y∈scope.names,y.2=.free->∃c,X.env.cells.lookup y.1=some c:=λy hy hk=>I.ok.has y.1 (B.free y hy hk)
 obtain⟨cl,l0,c1,c2⟩:=rQ j0;refine wpAny_comprehension_free (use:=use) rfl hs l0 B.kind B.names ?_;refine cu (hi pins s σ H _ I h) λv s1 M=>cu M λr0 s2 h2=>?_
 obtain⟨it,fp,N,J,l,e,O,T,V,f2,h⟩:=h2;subst e;have fr:=O.hok.fresh (Nat.le_refl s2.heap.objs.size);obtain⟨W,⟨m0,w0⟩,Y⟩:=h s2.heap.objs.size fr;refine wpAny_newObj_type (wpAny_newFunctionEnv B.cell (λy hy=>absurd hy (by simp)) (λM ns sb=>?_) B.kind)
 dsimp only at ns sb ⊢;rw[(Heap.size_push _ _)]at ns sb ⊢;have kp:∀b o,s2.heap.get? b=some o->M.get? b=some o:=λb o e=>sb.extBut b o (Nat.ne_of_lt (Nat.lt_succ_of_lt (Heap.lt_size e))) (Heap.get?_push_of_some _ (Heap.get?_push_of_some _ e))
 have hD:∃n,M.get? s2.heap.objs.size=some {cls:=.type "list",data:=.seq ([]:List Value).toArray n}:=⟨0,sb.extBut _ _ (Nat.ne_of_lt (Nat.lt_succ_self _)) (Heap.get?_push_of_some _ (Heap.get?_push_size _ rfl))⟩;have Z:∀b∈fp,∃o,s2.heap.get? b=some o:=λb a=>let ⟨o,e,_⟩:=T.obj 0 _ V b a;⟨o,e⟩
 have I4:Inv (blk X scope cl (s2.heap.objs.size+1) (tn++cn) s2 l fp) [] (fW tn.length cap σ) (upd l s2.heap.objs.size (.lst [])) {s2 with heap:=M,toks:=s2.toks+([]:List (Str×Value)).length}:=
  vu B O f2 Z c1 c2 kp hD ns
 obtain⟨hg,ht,he⟩:=a cl (s2.heap.objs.size+1) s2 l fp;have a0:N 0 M:=T.keep 0 _ _ V λb a o e=>kp b o e
 have n0:∀b∈fp,upd l s2.heap.objs.size (.lst []) b=none:=λb a=>by
  obtain⟨o,e⟩:=Z b a;rw[ao (Nat.ne_of_lt (Heap.lt_size e))];exact(f2 b a).1
 have t:∀{d:Hp}{pl:List (Addr×Obj)},(∀b∈fp,d b=none)->∀b∈fp,l6 (blk X scope cl (s2.heap.objs.size+1) (tn++cn) s2 l fp) [] d b:=λhn b a=>
  ⟨hn b a,(I4.ok.wO b a).1,I4.ok.jN b a,.inl a,(I4.ok.wO b a).2,λp hp=>absurd (show p∈([]:List (Addr×Obj))from hp) (by simp)⟩
 have F:codeAny (model X.prog X.w) X.A (.compLoop (.ListComp G [⟨tg,iter,K,0⟩] scope pos) 0 (.ref it) (.ref s2.heap.objs.size) (compEnvC scope cl (s2.heap.objs.size+1) X.env))
   (compPost (model X.prog X.w) X.A X.xe use Q' (.ref s2.heap.objs.size) (s2.heap.objs.size+1)) {s2 with heap:=M,toks:=s2.toks+([]:List (Str×Value)).length}:=by
  refine vt (λn P=>∃i R d,Inv (blk X scope cl (s2.heap.objs.size+1) (tn++cn) s2 l fp) [] (fW tn.length cap σ) d P/\N i P.heap/\(∀b∈fp,d b=none)/\W i n R d) ?_ m0 ⟨0,[],_,I4,a0,n0,w0⟩
  rintro n s5 ⟨i,R,H5,I5,b0,c0,w5⟩;obtain⟨s0,o0⟩:=Y i n R H5 w5;rcases o0 with ⟨stop,qn⟩|⟨go,e0,step⟩
  .refine cu (T.done (blk X scope cl (s2.heap.objs.size+1) (tn++cn) s2 l fp) rfl rfl rfl hc i [] s5 _ H5 _ I5 (t (pl:=[]) c0) b0 stop) λr s6 ⟨hr,S⟩=>?_
   subst hr;obtain⟨mC,nC,_⟩:=S.loc
   have I7:Inv X pins σ H5 s6:=by
    refine O.call' S.os S.base S.hok S.bare λb a=>?_
    obtain⟨f0,f1,f3,f4,f5,f6⟩:=f2 b a;exact⟨f4,f1,f5,f6⟩
   have hC:s2.heap.objs.size<=s2.heap.objs.size+1:=Nat.le_succ _;refine i0 s6 H5 (s2.heap.objs.size+1) s2.heap.objs.size mC I7 nC S.free (Nat.ne_of_gt (Nat.lt_of_lt_of_le O.lt hC)) (Nat.le_trans O.sz hC) (λx c e z=>?_) (λp hp z=>?_) qn
   .obtain⟨v,q⟩:=O.cell x c e
    exact absurd (Nat.lt_of_lt_of_le q.lt (by rw[z];exact hC)) (Nat.lt_irrefl _)
   .exact absurd (Nat.lt_of_lt_of_le (Heap.lt_size (O.pin p hp).1) (by rw[z];exact hC)) (Nat.lt_irrefl _)
  .refine cu (T.item (blk X scope cl (s2.heap.objs.size+1) (tn++cn) s2 l fp) rfl rfl rfl hc i [] s5 _ H5 _ I5 (t (pl:=[]) c0) b0 go) λr s6 ⟨u,hr,h6⟩=>?_
   subst hr;refine cu h6 λ_ s7 ⟨x,H7,I7,r7,y7,MJ,Qr⟩=>?_
   have p0:=I7.pinned (t (pl:=[]) Qr) (T.obj _ _ MJ);refine cu (hg _ s7 _ H7 x u _ p0 r7 (h0 _ _ _ _ (step x H7 y7))) λ_ s8 ⟨E,H8,I8,q8,l8,k8⟩=>?_
   refine cu (ht _ s8 E H8 _ I8 q8) λok s9 ⟨H9,I9,q9⟩=>?_
   have again:∀{sA:Shared}{HA:Hp},Inv (blk X scope cl (s2.heap.objs.size+1) (tn++cn) s2 l fp) ([]++kA fp s7.heap) E HA sA->Inv (blk X scope cl (s2.heap.objs.size+1) (tn++cn) s2 l fp) [] (fW tn.length cap σ) HA sA/\N (i+1) sA.heap/\∀b∈fp,HA b=none:=λ{sA HA} IA=>by
    refine⟨(IA.ir (pins:=[])).weak l8.symm λj v hj=>?_,T.keep _ _ _ MJ λb a o e=>(IA.pin (b,o) (List.mem_append_right _ (List.mem_append_right _ (fJ a e)))).1,λb a=>?_⟩
    .have q0:tn.length<=j:=by
      refine Nat.le_of_not_lt λg0=>?_
      have:(fW tn.length cap σ)[j]?=some none:=by
       unfold fW;rw[List.getElem?_append_left (by simpa using g0),List.getElem?_replicate,if_pos g0]
      rw[this]at hj;cases hj
     rw[k8 j q0];exact hj
    .obtain⟨o,e,_⟩:=T.obj _ _ MJ b a
     exact(IA.pin (b,o) (List.mem_append_right _ (List.mem_append_right _ (fJ a e)))).2.1
   cases ok with
   |false=>
    grind
   |true=>
    rw[if_pos rfl]at q9 ⊢;refine cu (he _ s9 E H9 _ I9 q9) λy sB ⟨v,HB,IB,rB,Qs,m',hm,w'⟩=>?_
    have hx:=mJ (X:=blk X scope cl (s2.heap.objs.size+1) (tn++cn) s2 l fp) _ sB E HB (.ref s2.heap.objs.size) [v] (.ref s2.heap.objs.size) [y] (λ_ d=>d=upd HB s2.heap.objs.size (.lst (R++[v]))) IB rfl (.cons rB .nil)
     ⟨s2.heap.objs.size,R,v,rfl,rfl,Qs,e0,rfl⟩
    refine cu hx λ_ sC ⟨_,HC,IC,_,eC⟩=>?_
    subst eC;obtain⟨a1,a2,a3⟩:=again IC;exact⟨m',hm,i+1,R++[v],_,a1,a2,a3,w'⟩
 exact codeAny_compStart_list F (T.self X.A 0 _ _ _ a0 F)
theorem Bi{k iter f:Expr}{i:List Expr}{pos:Pos}{p:TI}{g:TG}{r:TT}{t:TE}(u:X.calm=true)(B:jA X scope tn cn cap)(w:PI X k iter p)(y:∀x,foldedSetIterable iter X.env x=pure x)
  (l:∀v σ H Q,g v σ H Q->g v σ H λd n=>Q d n/\d.length=σ.length/\∀j,tn.length<=j->d[j]?=σ[j]?)
  (z:∀cl C a c fp,PG (blk X scope cl C (tn++cn) a c fp) k g/\Bf (blk X scope cl C (tn++cn) a c fp) i r/\PE (blk X scope cl C (tn++cn) a c fp) f t) :
  PE X (.ListComp f [⟨k,iter,i,0⟩] scope pos) (mP p tn.length cap g r t):=by
 intro pins s σ H Q I h;refine mQ u B w y l z (λO n C D m A E F G J K L q=>⟨m,E,λP M=>?_⟩) I h
 exact⟨.ref D,n,A.turned (λb o N e=>M.extBut b o N e) F G (.inr J) K L,rfl,q⟩
theorem rS{r iter l:Expr}{n:List Expr}{pos f k:Pos}{E:TI}{g:TG}{F:TT}{G:TE}{i:Nat}{x:Str}(K:X.N.Nodup)(t:X.N[i]?=some x)(J:X.env.scope.names.lookup x=some .local)
  (u:swapsWith (.ListComp l [⟨r,iter,n,0⟩] scope pos) (some (.Name x f)) k.line X.env=pure true) (L:X.calm=true) (B:jA X scope tn cn cap) (M:PI X r iter E) (O:∀x,foldedSetIterable iter X.env x=pure x)
  (w:∀v σ H Q,g v σ H Q->g v σ H λp y=>Q p y/\p.length=σ.length/\∀j,tn.length<=j->p[j]?=σ[j]?)
  (P:∀cl C c d fp,PG (blk X scope cl C (tn++cn) c d fp) r g/\Bf (blk X scope cl C (tn++cn) c d fp) n F/\PE (blk X scope cl C (tn++cn) c d fp) l G) :
  PS X (.Assign [.Name x f] (.ListComp l [⟨r,iter,n,0⟩] scope pos) k) (EB (mP E tn.length cap g F G) (iq i)):=by
 intro pins s σ H D I h;rw[exec_Assign_Name_used _ _ _ _ u];refine wpAny_bind (wpAny_standAt (wpAny_bind ?_));refine wpAny_bind ?_;refine mQ L B M O w P (λs' y C R m S T U V Y Z h5 q=>?_) I h
 refine wpAny_assign_Name (mD S K t (.inl J) (v:=.ref R) rfl (λs2 I2 ch=>?_) (.inr J))
 obtain⟨a,sb,ha⟩:=ch
 have z:C≠a:=by
  grind
 refine⟨m,T.sameBut sb z,λh' A=>wpAny_pure (wpAny_pure ?_)⟩
 exact⟨_,y,I2.turned (λb o nb e=>A.extBut b o nb e) U V (.inr Y) Z h5,q⟩
end
theorem PI.imp{X:Cx}{a e:Expr}{t t':TI}(h:PI X a e t)(i:∀σ H R,t' σ H R->t σ H R):PI X a e t':=λpins s σ H R I q=>h _ s σ H R I (i σ H R q)
section
variable{Z:Addr->Prop}{H:Hp}
theorem kP:∀(n:Nat) (a:Int),(intsFrom a n).length=n
 |0,_=>rfl
 |n+1,a=>by rw[intsFrom,List.length_cons,kP n]
theorem ints_get:∀(n:Nat) (a:Int) (i:Nat) (d:D),(intsFrom a n)[i]?=some d->d=.int (a+i)
 |0,_,_,_,h=>by simp[intsFrom]at h
 |n+1,a,0,d,h=>by simp[intsFrom]at h;subst h;simp
 |n+1,a,i+1,d,h=>by
  rw[ints_get n _ i d h]
  grind
noncomputable def Pb(x:Str):It:=⟨λi _=>i<x.cps.size,λi H v a=>a=H/\∃c,x.cps[i]?=some c/\v=.str ⟨#[c]⟩,λi _=>x.cps.size<=i⟩
end
theorem xW{P:Program}{w:World}{K:PySem.W.Frag}{O:Expr}(it:Addr)(x:Str)(t:Tok)(m:String)(f:m="str_ascii_iterator"\/m="str_iterator"):Turn P w K O (Pb x) [it] it (λi h=>h.IsStrIter it m x t i) where
 mem:=by simp
 obj:=λi h a b g=>by
  obtain rfl:b=it:=by simpa using g
  obtain⟨o,e,c,d⟩:=a
  simp_all
 keep:=λi h D a k=>let ⟨o,e,r⟩:=a;⟨o,k it (by simp) o e,r⟩
 item:=by
  intro X J L M j i pins s R H E I n a F;subst J L M;obtain⟨p,y,S,z,B,C⟩:=n it (by simp)
  have W:Walks X.prog X.w X.A it [it] [it] x.cps.size (SignAt x) (λi h=>h.IsStrIter it m x t i):=by
   rcases f with rfl|rfl
   .exact Walks.strAscii (I.ok.hd j) it x t
   .exact Walks.strWide (I.ok.hd j) it x t
  refine W.item i s _ _ F a λv D Y T l U=>?_
  obtain⟨c,u,V,rfl⟩:=T;obtain⟨o,e,q,d⟩:=id l;refine⟨_,rfl,mE e q d (by rcases f with rfl|rfl<;>decide) ⟨.str ⟨_⟩,H,(I.turned (λb o g e=>U b o (by simpa using g) e) p y z B C),⟨u,rfl⟩,⟨rfl,c,V,rfl⟩,l,λb g=>(n b g).1⟩⟩
 done:=by
  intro X J L M j i pins s R H E I n a F;obtain⟨p,y,S,z,B,C⟩:=n it (by simp)
  have N:x.cps.size<=i:=F;rcases f with rfl|rfl
  .exact wpAny_pyNext_ascii_end (I.ok.hd j) a (by simp[N]) λD G=>⟨rfl,I.turned (λb o g e=>G b o g e) p y z B C⟩
  .exact wpAny_pyNext_wide_end (I.ok.hd j) a (by simp[N]) λD G=>⟨rfl,I.turned (λb o g e=>G b o g e) p y z B C⟩
 self:=λA i s Q E a h=>by
  rcases f with rfl|rfl
  .exact wpAny_pyIter_striter_ascii a h
  .exact wpAny_pyIter_striter_wide a h
section
variable{X:Cx}{Γ:mf}{bw:Bool}{tg e:Expr}{c cs:Ex}{pos p:Pos}
end
section
variable{X:Cx}{Γ:mf}{bw:Bool}{tg iter elt:Expr}{ifs:List Expr}{scope:Scope}{tn cn:List Str}{cap:List Nat}{Qt cc RM:Ex}{pos:Pos}{n:Nat}
theorem jB(n:Nat)(c:0<n):∀v σ H Q,iq 0 v σ H Q->iq 0 v σ H λa b=>Q a b/\a.length=σ.length/\∀j,n<=j->a[j]?=σ[j]?:=λv σ H Q h=>⟨h,by simp,by grind⟩
end
theorem PS.imp{X:Cx}{st:Stmt}{t t':TS}(h:PS X st t)(i:∀D σ H,t' D σ H->t D σ H):PS X st t':=λpins s σ H D I q=>h _ s σ H D I (i D σ H q)
theorem gb.imp{X:Cx}{st:List Stmt}{t t':TS}(h:gb X st t)(i:∀D σ H,t' D σ H->t D σ H):gb X st t':=λpins s σ H D I q=>h _ s σ H D I (i D σ H q)
section
variable{X:Cx}{Γ:mf}{e:Expr}{c:Ex}{st:Stmt}{rest:List Stmt}{a b:Pc}{pos pos':Pos}
end
section
variable{Z0 Z1 Z:Addr->Prop}{H0 H1 H:Hp}{ρ:A_}{σ:L2.St}
end
section
variable{X:Cx}{Γ:mf}{tg e:Expr}{c:Ex}{b:Pc}{tb:List Stmt}{pos pos':Pos}
def jk:List Nat->DG
 |[]=>Hl
 |i::a=>DH (iq i) (jk a)
theorem mR{nms:List (Str×Pos)}(b:X.N.Nodup):∀(a:List Nat) (nms:List (Str×Pos)),a.length=nms.length->(∀(j i:Nat) (x:Str×Pos),a[j]?=some i->nms[j]?=some x->X.N[i]?=some x.1/\Loc X.env.scope x.1/\(X.fn x.1=true\/X.env.scope.names.lookup x.1=some .local)) ->
  Hk X (nms.map λx=>Expr.Name x.1 x.2) (jk a)
 |[],[],_,_=>AR
 |[],_::_,h,_=>by cases h
 |_::_,[],h,_=>by cases h
 |i::a,(x,d)::nms,e,h=>by
  obtain⟨h1,h2,c⟩:=h 0 i _ rfl rfl;exact wU (j7 b h1 h2 c) (mR (nms:=nms) b a nms (by simp_all) λj i x f g=>h (j+1) i x (by simp_all) (by simp_all))
end
section
variable{X:Cx}{Γ:mf}{e o:Expr}{c:Ex}{i j:Nat}{x y:Str}{p0 p1 p2 p3 p4 p5 pos:Pos}
end
theorem jC{X:Cx}{pins:List (Addr×Obj)}{σ:L2.St}{H:Hp}{s:Shared}{h:Heap}{t':Nat}{fp:List Addr}{a:Addr}{o:HO}(I:Inv X pins σ H s)(i:∀b∈fp,l6 X pins H b)
  (k:∀b o,b∉fp->s.heap.get? b=some o->h.get? b=some o) (l:s.heap.objs.size<=a) (p:cI X.prog X.w (upd H a o) h a o):Inv X pins σ (upd H a o) {s with heap:=h,toks:=t' }:=by
 have j:∀b u,H b=some u->b∉fp:=λb u e z=>by rw[(i b z).1]at e;cases e
 have f:∀b u,H b=some u->upd H a o b=some u:=λb u e=>by rwa[ao (aP e (I.hok.fresh l))]
 refine I.step (λb g=>?_) (λb o _ _ d e _=>k b o d e) (λb o _ _ d e _=>⟨_,k b o d e⟩) (λb u _ e n=>?_)
  (λb o d e=>⟨o,k b o d e⟩) (λb F e=>f b _ e) (λb u v e=>f b _ e) (λb G e=>⟨#[],by simp_all⟩) (λm t=>?_) (λb u e=>?_) I.bare
 .obtain⟨J,x,K,y,A,B⟩:=i b g
  exact⟨y,x,A,B⟩
 .have:b≠a:=λz=>absurd (Heap.lt_size e) (by simp_all)
  rwa[ao this]
 .obtain⟨o,C,D,E,r⟩:=t
  exact⟨o,C,D,k _ o (λz=>(i _ z).2.1 rfl) E,r⟩
 .by_cases g:b=a
  .subst g
   rw[aG]at e;grind
  .rw[ao g]at e
   refine(I.hok b u e).stay (λc v d q=>k c v ?_ q) (λc q=>f c _ q) λc _ q=>f c _ q
   rcases d with z|z
   .simp_all
   .exact j c _ z
def Pd(K:PySem.W.Frag)(a:Addr):It:=
 ⟨λi H=>∃b x,lX K H a b/\b[i]?=some x,λi H x c=>∃p,x=.ref p/\H p=none/\∀b,lX K H a b->∃v,b[i]?=some v/\c=upd H p (.tup [.int i,v]),λi H=>∃b,lX K H a b/\b.length<=i⟩
theorem vv{P:Program}{w:World}{K:PySem.W.Frag}{n:List Expr}{V:Nat}{r:Pos}(a e it:Addr)(t:e≠it) :
  Turn P w K (.Tuple n V r) (Pd K a) [e,it] e (λi h=>(∃g,IsEnum h e it i g)/\h.IsListIter it a i) where
 mem:=by simp
 obj:=λi h l b m=>by
  obtain⟨⟨g,f⟩,o,e2,c,d⟩:=l
  grind
 keep:=λi h Q l k=>by
  obtain⟨⟨g,f⟩,j⟩:=l;exact⟨⟨g,k e (by simp) _ f⟩,j.at λo q=>k it (by simp) o q⟩
 item:=by
  intro X C D F R i pins s Y H E I A l G;subst C D F;obtain⟨Z,x,B,S⟩:=G;obtain⟨⟨g,f⟩,j⟩:=l;obtain⟨J,L,p,hz⟩:=I.list B;obtain⟨u,hu,ru⟩:=L.get S;refine wpAny_pyNext_enum_item f j p.isList (by simpa using hu) t λQ so si tu sz kp=>?_
  refine⟨_,rfl,wpAny_letOwnedTupleGo_enum so λT se M=>?_⟩
  have y:=Heap.lt_size f;refine⟨.ref _,_,?_,rfl,⟨_,rfl,I.hok.fresh (Nat.le_refl _),λys hy=>⟨x,by rwa[I.pv hy B],rfl⟩⟩,⟨⟨u,by grind⟩,?_⟩,λb m=>?_⟩
  .have N:IsTup T _ _:=⟨_,(M.extBut _ _ (Nat.ne_of_gt y) tu),rfl,_,rfl⟩
   have O:cI X.prog X.w (upd H s.heap.objs.size (.tup [.int i,x])) T _ (.tup [.int i,x]):=⟨by rw[sizeLine_eq];simp,_,.cons ⟨_,rfl⟩ (.cons ru .nil),N⟩
   have:=jC (t':=s.toks+1) I A (λb o m q=>by
   have U:b≠e:=λz=>m (by simp[z])
   have h3:b≠it:=λz=>m (by simp[z])
   exact M.extBut b o U (kp b o U h3 q)) (Nat.le_refl _) O
   exact this
  .exact si.extBut M.extBut (Ne.symm t)
  .rw[ao (Nat.ne_of_lt (by
    rcases List.mem_cons.mp m with z|z
    .subst z;exact y
    .have z:b=it:=by simpa using z
     subst z;obtain⟨o,q,_⟩:=j;exact Heap.lt_size q))]
   exact(A b m).1
 done:=by
  intro X C D F R i pins s Y H E I A l G;subst C D F;obtain⟨Z,B,S⟩:=G;obtain⟨⟨g,f⟩,j⟩:=l;obtain⟨J,L,p,hz⟩:=I.list B;obtain⟨f0,f1,f2,f3,f4,f5⟩:=A it (by simp)
  have hl:=L.length;exact wpAny_pyNext_enum_end (I.ok.hd R) f j p.isList (by simp;omega) λQ eb=>⟨rfl,I.turned (λb o m e=>eb b o m e) f0 f1 f3 f4 f5⟩
 self:=λ_ _ _ _ _ l h=>by
  obtain⟨⟨g,f⟩,_⟩:=l;exact wpAny_pyIter_enum f h
def MK(K:PySem.W.Frag)(c:TA):TI:=λd H R=>c d H λe b=>∃a,e=[.ref a]/\(∃f,lX K b a f)/\R (Pd K a) b
theorem Bj{X:Cx}{i:List Expr}{j:Nat}{c p pos:Pos}{a:Expr}{e:TA}(k:Gl X "enumerate")(m:X.mg "enumerate"=none)(n:PA X [a] e)(o:starEach [a] X.env=[(false,eval a X.env)]) :
  PI X (.Tuple i j c) (.Call (.Name "enumerate" p) [a] [] pos) (MK X.K e):=by
 intro pins s t H R I h;refine Call_ (fH I k m boot_enumerate (PyProof.Rows.callWith_type1 (cu (n _ _ s t H _ I h) λE f ⟨F,H1,I1,u,q1⟩=>?_) o rfl))
 obtain⟨l,rfl,⟨G,w⟩,q⟩:=q1;cases u with
 |cons r x=>
  cases x;cases r;obtain⟨y,J,A,L⟩:=I1.list w;refine call_enumerate_list A.isList λM g B N C=>wpAny_pyIter_enum g ?_
  refine⟨_,_,_,_,H1,rfl,(I1.kept (t':=f.toks) C),vv l _ _ (by simp),⟨⟨_,g⟩,B⟩,λb D=>?_,q⟩
  have d:f.heap.objs.size<=b:=by
   rcases List.mem_cons.mp D with z|z
   .simp_all
   simp_all
  exact I1.u7 d (I1.hok.fresh d)
theorem j9:∀(ds:List D) (k:Nat),(eu k ds).length=ds.length
 |[],_=>rfl
 |d::ds,k=>by rw[eu,List.length_cons,List.length_cons,j9 ds]
theorem n7:∀(ds:List D) (k i:Nat) (d:D),(eu k ds)[i]?=some d->∃x,ds[i]?=some x/\d=.tup [.int (k+i:Nat),x]
 |[],_,_,_,h=>by simp[eu]at h
 |d::ds,k,0,a,h=>by simp[eu]at h;simp_all
 |d::ds,k,i+1,a,h=>by
  obtain⟨x,h1,h2⟩:=n7 ds _ i a h;exact⟨x,by simp_all,by grind⟩
theorem tJ:∀{ds:List D}{xs:List Str}{Z:Addr->Prop}{H:Hp}{vs:List V}{us:List Value},mO ds=some xs->aW Z H ds vs->Vals vs us->StrsAre us xs
 |[],xs,Z,H,vs,us,h,r,q=>by
  cases h;rw[r.nil_inv]at q;cases q;exact .nil
 |d::ds,xs,Z,H,vs,us,h,r,q=>by
  obtain⟨v,rs,rfl,a,b⟩:=r.cons_inv;cases d with
  |str x=>
   obtain⟨g,c,rfl⟩:=Option.map_eq_some_iff.mp h;subst a;cases q with
   |cons e f=>
    obtain⟨t,rfl⟩:=e;exact .cons x t (tJ c b f)
  |_=>cases h
def rJoin:V->List V->Hp->VK->Prop:=λx c H Q=>∃z Z b a y,x=.str z/\c=[y]/\Now Z H (.lst b) y/\mO b=some a/\z.length<=16/\(a.map (·.length)).sum+a.length<=1048576/\Q (.str (Txt.join z a)) H
theorem Bk{X:Cx}:GU X "str.join" rJoin:=by
 intro pins s r H x w v A Q I b c h;obtain⟨z,Z,B,C,y,rfl,rfl,n,d,e,f,q⟩:=h;obtain⟨t,rfl⟩:=b;obtain⟨l,D,rfl,g,i⟩:=cP n;obtain⟨u,rfl,j⟩:=c.one;cases j;obtain⟨m,a,o,E⟩:=I.list (jS g);exact join_listW o.isList (by simpa using tJ d i a) e f λp k=>⟨.str _,H,I.tok _,⟨p,rfl⟩,q⟩
theorem Bl{v a:V}{u:Value}(h:L2.RelV v u)(b:L2.RelV a u):v=a:=by
 cases v<;>simp only[L2.RelV]at h b<;>first
  |grind
  |rfl
theorem tK{H:Hp}{a:Addr}{u:HO}{vs:List V}(h:Rd H a (.lst vs))(b:Rd H a u)(c:∀o w,u≠.cL o w):u=.lst vs:=by
 rcases h with h|⟨o,h⟩<;>rcases b with b|⟨d,b⟩<;>rw[h]at b<;>first|grind
theorem tL{H:Hp}{a:Addr}{u:HO}{vs:List V}(h:Rd H a (.tup vs))(b:Rd H a u)(c:∀o w,u≠.cL o w):u=.tup vs:=by
 rcases h with h|⟨o,h⟩<;>rcases b with b|⟨d,b⟩<;>rw[h]at b<;>first|grind
mutual
theorem tN{Z:Addr->Prop}{H:Hp}:∀{n:Nat}{d c:D}{v:V},aH n d=true->aH n c=true->Rep Z H d v->Rep Z H c v->d=c
 |n,.non,c,v,_,o',h,h'=>by
  subst h;cases c<;>simp only[Rep]at h'<;>first|simp_all
 |n,.bl b,c,v,_,o',h,h'=>by
  subst h;cases c<;>simp only[Rep]at h'<;>first|simp_all
 |n,.int b,c,v,_,o',h,h'=>by
  subst h;cases c<;>simp only[Rep]at h'<;>first|simp_all
 |n,.str b,c,v,_,o',h,h'=>by
  subst h;cases c<;>simp only[Rep]at h'<;>first|simp_all
 |0,.lst ds,_,_,o,_,_,_=>by simp[aH]at o
 |0,.tup ds,_,_,o,_,_,_=>by simp[aH]at o
 |n+1,.lst ds,c,v,o,o',h,h'=>by
  obtain⟨a,vs,rfl,_,h1,h2⟩:=h;cases c with
  |lst i=>
   obtain⟨k,j,e,_,f,g⟩:=h';cases e;have:=tK h1 f (λ_ _ z=>by cases z)
   cases this;rw[kQ o o' h2 g]
  |tup i=>
   obtain⟨k,j,e,_,f,g⟩:=h';cases e;have:=tK h1 f (λ_ _ z=>by cases z)
   cases this
  |dct _ _=>simp[aH]at o'
  |ref _=>simp[aH]at o'
  |_=>cases h'
 |n+1,.tup ds,c,v,o,o',h,h'=>by
  obtain⟨a,vs,rfl,_,h1,h2⟩:=h;cases c with
  |lst i=>
   obtain⟨k,j,e,_,f,g⟩:=h';cases e;have:=tL h1 f (λ_ _ z=>by cases z)
   cases this
  |tup i=>
   obtain⟨k,j,e,_,f,g⟩:=h';cases e;have:=tL h1 f (λ_ _ z=>by cases z)
   cases this;rw[kQ o o' h2 g]
  |dct _ _=>simp[aH]at o'
  |ref _=>simp[aH]at o'
  |_=>cases h'
 |n,.dct _ _,_,_,o,_,_,_=>by cases n<;>simp[aH]at o
 |n,.ref _,_,_,o,_,_,_=>by cases n<;>simp[aH]at o
theorem kQ{Z:Addr->Prop}{H:Hp}:∀{n:Nat}{ds a:List D}{vs:List V},ds.all (aH n)=true->a.all (aH n)=true->aW Z H ds vs->aW Z H a vs->ds=a
 |n,[],a,vs,_,_,h,h'=>by
  rw[h.nil_inv]at h';cases a with
  |nil=>rfl
  |cons d r=>obtain⟨_,_,e,_⟩:=h'.cons_inv;cases e
 |n,d::ds,a,vs,o,b,h,h'=>by
  obtain⟨v,r,rfl,g,i⟩:=h.cons_inv;cases a with
  |nil=>exact absurd h'.nil_inv (by simp)
  |cons j a=>
   obtain⟨k,l,e,c,f⟩:=h'.cons_inv;cases e;simp only[List.all_cons,Bool.and_eq_true]at o b;rw[tN o.1 b.1 g c,kQ o.2 b.2 i f]
end
def xX:V->List V->Hp->VK->Prop:=λx b H Q=>∃Z a d y j,b=[y]/\Now Z H (.lst a) x/\Now Z H d y/\aH 8 d=true/\a.all (aH 8)=true/\a.findIdx? (λe=>en e d)=some j/\Q (.int j) H
theorem jl{Z:Addr->Prop}{H:Hp}{ds:List D}{vs:List V}{a:List Value}{m:Nat}(r:aW Z H ds vs)(q:Vals vs a)(c:m<a.length)(e:m<ds.length):∃v,Rep Z H ds[m] v/\L2.RelV v a[m]:=by
 obtain⟨v,f,g⟩:=r.get (i:=m) (d:=ds[m]) (by simp[e])
 obtain⟨u,b,h⟩:=q.get f;rw[List.getElem?_eq_getElem c]at b;cases b;exact⟨v,g,h⟩
theorem xY{X:Cx}(hu:X.A.units+64<cLine):GU X "list.index" xX:=by
 intro pins s σ H x vs v us Q I E G h;obtain⟨Z,i,d,y,j,rfl,J,K,B,o2,L,q⟩:=h;obtain⟨l,ws,rfl,M,r⟩:=cP J;cases E;obtain⟨u,rfl,N⟩:=G.one;obtain⟨a,b,O,P⟩:=I.list (jS M);obtain⟨R,he,S⟩:=List.findIdx?_eq_some_iff_getElem.mp L;have hl:=b.length;have T:=r.length;obtain⟨o,n,U,V,k,Y⟩:=O;have c:∀m (f:m<i.length),aH 8 i[m]=true:=λm f=>List.all_eq_true.mp o2 _ (by simp)
 have a0:j<a.length:=by omega
 classical
 let e:=λw=>decide (∃m,∃(f:m<a.length) (k:m<i.length),a[m]=w/\en i[m] d=true)
 have p:∀m (f:m<a.length) (k:m<i.length),e _=en _ d:=λm f k=>by
  cases C:en _ d with
  |true=>exact decide_eq_true ⟨m,f,k,rfl,C⟩
  |false=>
   refine decide_eq_false ?_;rintro⟨m',b0,g,e1,e2⟩;obtain⟨v1,t,z⟩:=jl r b f k;obtain⟨v2,r2,D⟩:=jl r b _ g;rw[e1]at D;have:=Bl z D;subst this;rw[tN (c m k) (c m' _) t r2]at C
   grind
 refine call_meets F.slot_list_index ⟨_,U,V⟩ F.entry_list_index (F.args_list_index_2 _ _)
  (SeqAt.list_indexAt l _ n none o.slots u e j (by omega) (by rw[sizeLine_eq]at P;omega) ?_ ?_) ⟨?_,λw hw=>?_,?_⟩
 .show e a[j]=true
  rwa[p j _ _]
 .simp_all
 .obtain⟨c',d',dt,sl⟩:=o
  grind
 .obtain⟨m,f,rfl⟩:=List.mem_iff_getElem.mp (by simpa using hw)
  have g:m<i.length:=by omega
  rw[p m f g];obtain⟨v1,t,z⟩:=jl r b f _;exact fv I 8 _ _ _ _ _ (by grind) (c m _) B (fV I t.now z (c m _)) (fV I K N B)
 .exact⟨.int j,H,I.tok _,⟨_,rfl⟩,q⟩
end Mir
namespace Mir
open PySem PySem.Spec PyProof.Rows L2
section
variable{X:Cx}{Γ:mf}{bw:Bool}{a b:Expr}{rest:List Expr}{ca cb:Ex}{pos:Pos}
theorem Bm{g tb:TE}(i:PE X a g)(j:PE X (.BoolOp .And (b::rest) pos) tb):PE X (.BoolOp .And (a::b::rest) pos) (λσ H Q=>g σ H λx e=>∃c,pA X.K x e c/\if c=true then tb σ e Q else Q x e):=by
 intro pins s σ H Q I h;refine BoolOp_and (cu (i _ s σ H _ I h) λv k ⟨x,e,I1,r1,c,t1,q1⟩=>?_)
 refine cu (nM _ k σ e x v (λd f=>d=c/\f=e) I1 r1 ⟨c,t1,rfl,rfl⟩) λd l ⟨f,I2,e1,e2⟩=>?_
 subst e1 e2;cases d with
 |true=>exact j _ l σ f Q I2 q1
 |false=>exact⟨x,f,I2,r1,q1⟩
theorem Fg{g tb:TE}(i:PE X a g)(j:PE X (.BoolOp .Or (b::rest) pos) tb):PE X (.BoolOp .Or (a::b::rest) pos) (λσ H Q=>g σ H λx e=>∃c,pA X.K x e c/\if c=true then Q x e else tb σ e Q):=by
 intro pins s σ H Q I h;refine BoolOp_or (cu (i _ s σ H _ I h) λv k ⟨x,e,I1,r1,c,t1,q1⟩=>?_)
 refine cu (nM _ k σ e x v (λd f=>d=c/\f=e) I1 r1 ⟨c,t1,rfl,rfl⟩) λd l ⟨f,I2,e1,e2⟩=>?_
 subst e1 e2;cases d with
 |false=>exact j _ l σ f Q I2 q1
 |true=>exact⟨x,f,I2,r1,q1⟩
theorem Bn{f:TE}(g:PE X a f):PE X (.UnaryOp .Not a pos) (λσ H Q=>f σ H λx b=>∃c,pA X.K x b c/\Q (.bl (!c)) b):=by
 intro pins s σ H Q I h;refine UnaryOp_ (cu (g _ s σ H _ I h) λv i ⟨x,b,I1,r1,c,t1,q1⟩=>?_)
 refine not_of (cu (nM _ i σ b x v (λd e=>d=c/\e=b) I1 r1 ⟨c,t1,rfl,rfl⟩) λd j ⟨e,I2,e1,e2⟩=>?_)
 subst e1 e2;exact⟨.bl _,e,I2,rfl,q1⟩
theorem ey.nw{a:Bool}{Z:Addr->Prop}{b H:Hp}{d:D}{v:V}(h:ey bw a Z b H d v):Now Z H d v:=by
 cases bw with
 |true=>exact h.now
 |false=>exact(h.weak).now
end
noncomputable def HW(a:Scope)(x:Str):Bool:=match a.names.lookup x with
 |some .local|some .cell|some .free=>true
 |_=>false
noncomputable def vw(a:Scope)(x:Str):Bool:=match a.names.lookup x with
 |some .local|some .cell=>true
 |_=>false
noncomputable def rm(a:Scope)(x:Str):Bool:=a.names.lookup x==some .globalImplicit
noncomputable def okN(x:Str):Bool := !(x==("__debug__":Str))&&!(x==("__classdict__":Str))&&!(x==("__name__":Str))
noncomputable def Fh(N:List Str)(x:Str):Option Nat:=N.findIdx? (· == x)
def g8(a:Scope)(N:List Str)(x:Str):Option Nat:=if HW a x&&okN x then Fh N x else none
def DQ(x:Str):Option Ty:=[Ty.int,.str,.bool,.list,.tuple,.dict].find? (λt=>t.nm==x)
noncomputable def isStar:Expr->Bool
 |.Starred _ _=>true
 |_=>false
noncomputable def isSlice:Expr->Bool
 |.Slice _ _ _ _=>true
 |_=>false
noncomputable def isSet:Expr->Bool
 |.Set _ _ _=>true
 |_=>false
noncomputable def xZ(scope a:Scope):Scope:={scope with names:=scope.names.map λ(n,k)=>if (k==.free&&a.kind==.function&&a.names.lookup n==some .cell)then (n,.cell)else (n,k)}
noncomputable def et(scope:Scope):List Str:=(scope.names.filter λy=>y.2==.free).map (·.1)
def rT(a:Scope)(N:List Str):List Str->Option (List Nat)
 |[]=>some []
 |x::xs=>do let i ←g8 a N x;let b ←rT a N xs;some (i::b)
def x5(scope:Scope)(sc:Scope)(x:Str):Bool:=
 scope.kind==.function&&scope.names.all (λy=>!(y.2==.cell))&&scope.names.all (λy=>!(y.2==.local)||scope.names.lookup y.1==some .local) &&
 scope.names.all (λy=>!(y.2==.free)||(sc.names.lookup y.1==some .cell||sc.names.lookup y.1==some .free)&&scope.names.lookup y.1==some .free) &&
 scope.names.lookup x==some .local&&decide ((x::et scope).Nodup)
noncomputable def kR:List Comprehension->Option (Str×Pos×Expr×List Expr)
 |[⟨.Name x p,iter,ifs,0⟩]=>some (x,p,iter,ifs)
 |_=>none
theorem mS{b:List Comprehension}{x:Str}{p:Pos}{iter:Expr}{a:List Expr}(h:kR b=some (x,p,iter,a)):b=[⟨.Name x p,iter,a,0⟩]:=by
 unfold kR at h
 grind
theorem x8{N:List Str}{x:Str}{i:Nat}(h:Fh N x=some i):N[i]?=some x:=by
 obtain⟨a,b,_⟩:=List.findIdx?_eq_some_iff_getElem.mp h
 simp_all
theorem fM{b:Scope}{N:List Str}{x:Str}{i:Nat}(h:g8 b N x=some i):N[i]?=some x/\nH b x/\(x==("__debug__":Str))=false/\(x==("__classdict__":Str))=false:=by
 unfold g8 at h;split at h
 .rename_i a
  simp only[Bool.and_eq_true,okN,Bool.not_eq_true']at a;refine⟨x8 h,?_,a.2.1.1,a.2.1.2⟩;have c:=a.1;unfold HW at c;unfold nH
  grind
 .cases h
theorem tP{x:Str}(h:okN x=true):(x==("__debug__":Str))=false/\(x==("__classdict__":Str))=false/\x≠"__name__":=by
 simp only[okN,Bool.and_eq_true,Bool.not_eq_true']at h
 simp_all
noncomputable def dm:List Str:=["len","all","any","list","tuple","int","min","max","bool","isinstance","str","dict","range","sorted","enumerate","reversed","set"]
theorem aY{e:Expr}{a:List Expr}{env:Env}(h:isStar e=false):starEach (e::a) env=(false,eval e env)::starEach a env:=by
 cases e<;>first|rfl | (cases h)
theorem bz{env:Env}{pos:Pos}:∀{a:List Expr},(∀e∈a,isStar e=false)->(backTo pos (starEach a env)).any (·.1)=false
 |[],_=>rfl
 |e::a,h=>by
  rw[aY (h e (by simp))]
  show(false||(backTo _ _).any _)=false
  rw[bz λz b=>h z (by simp[b])]
  rfl
section
variable{X:Cx}{Γ:mf}{T:Tab}{k:Nat}{sc:Scope}{N:List Str}
theorem HX{x:Str}{t:Ty}(h:DQ x=some t):x=t.nm/\t.nm∈dm:=by
 have a:=List.find?_some h;exact⟨(eq_of_beq a).symm,by cases t<;>decide⟩
end
section
variable{X:Cx}{Γ:mf}{T:Tab}{k:Nat}{sc:Scope}{N:List Str}
theorem x9{d:Scope}{N:List Str}:∀{xs:List Str}{a:List Nat},rT d N xs=some a->xs.length=a.length/\∀(j i:Nat) (x:Str),xs[j]?=some x->a[j]?=some i->N[i]?=some x
 |[],a,h=>by cases h;simp_all
 |x::xs,a,h=>by
  simp only[rT,Option.bind_eq_bind]at h;obtain⟨i,h1,h⟩:=Option.bind_eq_some_iff.mp h;obtain⟨e,f,h⟩:=Option.bind_eq_some_iff.mp h;cases h;obtain⟨g,k⟩:=x9 f;refine⟨by grind,λj l y b c=>?_⟩
  cases j with
  |zero=>simp at b c;subst b c;exact(fM h1).1
  |succ j=>grind
theorem iC{iter:Expr}{env:Env}(h:isSet iter=false):∀x,foldedSetIterable iter env x=pure x:=by
 intro x;cases iter<;>first|rfl | (simp[isSet]at h)
theorem x_{op:CmpOp}{b:Expr}(h:isSet b=false):behindInMarks op b=false:=by
 cases b<;>first|rfl | (simp[isSet]at h)
end
def pR(a:Scope)(N:List Str)(x:Str):Option Nat:=if vw a x&&okN x then Fh N x else none
noncomputable def kS:Expr->Bool
 |.ListComp .. |.SetComp .. |.DictComp ..=>true
 |_=>false
noncomputable def pS(a:Scope)(x:Str)(b:Pos)(e:Expr):Bool:=match e with
 |.ListComp _ _ s _=>a.names.lookup x==some .local&&b.line==e.pos.line&&!(s.names.any λ(n,k)=>n==x&&(k==.local||k==.cell))
 |_=>false
noncomputable def eI:List Expr->Option (List (Str×Pos))
 |[]=>some []
 |.Name x p::r=>(eI r).map ((x,p):: ·)
 |_=>none
def n8(a:Scope)(N:List Str):List (Str×Pos)->Option (List Nat)
 |[]=>some []
 |x::xs=>do let i ←pR a N x.1;let b ←n8 a N xs;some (i::b)
noncomputable def ya:Expr->Bool
 |.Call .. |.Name .. |.Subscript ..=>true
 |_=>false
section
variable{X:Cx}{Γ:mf}{T:Tab}{k:Nat}{sc:Scope}{N:List Str}
theorem jD:∀{a:List Expr}{nms:List (Str×Pos)},eI a=some nms->a=nms.map λx=>Expr.Name x.1 x.2
 |[],_,h=>by cases h;rfl
 |e::a,nms,h=>by
  unfold eI at h;split at h
  .grind
  .rename_i x p r q
   cases q;obtain⟨ns,h1,h⟩:=Option.map_eq_some_iff.mp h;subst h;rw[jD h1];rfl
  .cases h
theorem mT(env:Env):∀(nms:List (Str×Pos)),(assignEach (nms.map λx=>Expr.Name x.1 x.2) env).length=nms.length/\(assignEach (nms.map λx=>Expr.Name x.1 x.2) env).findIdx? (·.1)=none
 |[]=>⟨rfl,rfl⟩
 |x::r=>by
  obtain⟨h1,h2⟩:=mT _ r;refine⟨?_,?_⟩
  .show(assignEach _ _).length+1=_
   rw[h1];rfl
  .show List.findIdx? _ ((false,_)::assignEach _ _)=none
   simp_all
end
def bL(N ps:List Str)(a:Scope):Bool:=
 a.kind==.function&&!a.isCoroutine&&!a.isGenerator&&decide N.Nodup&&decide (N.take ps.length=ps)&&ps.all (vw a)&&a.names.all λy=>!(y.2==.free)
theorem cQ{N ps:List Str}{a:Scope}(h:bL N ps a=true):gG N ps a:=by
 simp only[bL,Bool.and_eq_true,Bool.not_eq_true',decide_eq_true_eq,List.all_eq_true,beq_iff_eq]at h;obtain⟨⟨⟨⟨⟨⟨b,c⟩,d⟩,f⟩,g⟩,i⟩,l⟩:=h;refine⟨b,c,d,f,g,λx j=>?_,λy m e=>?_⟩
 .have k:=i x j
  unfold vw at k
  grind
 grind
section
variable{P:Program}{w:World}{K:PySem.W.Frag}{mg:Str->Option Value}{base:Heap}{Γ:mf}{T:Tab}{k:Nat}
end
noncomputable def Bo:Value->Bool
 |.type x=>x=="list"
 |_=>false
def pT(K:PySem.W.Frag):Bool:=K.all λp=>!Bo p.2.cls
theorem pU:∀{K:PySem.W.Frag}{a:Addr}{o:Obj},K.lookup a=some o->(a,o)∈K
 |[],_,_,h=>by cases h
 | (b,p)::K,a,o,h=>by
  rw[List.lookup_cons]at h;split at h
  .grind
  .exact List.mem_cons_of_mem _ (pU h)
noncomputable def yb(K:PySem.W.Frag)(x:Str):Bool:=match PySem.W.nsIn K mainGlobals x with
 |some none=>true
 |_=>false
def tQ(K:PySem.W.Frag):Bool:=dm.all (yb K)
theorem yc{K:PySem.W.Frag}{h:Heap}{a:Str->Option Value}(X:K.In h)(G:h.Ns mainGlobals a)(b:tQ K=true):∀x∈dm,a x=none:=λx c=>by
 have:=List.all_eq_true.mp b x c;unfold yb at this;split at this
 .rename_i q;exact PySem.W.mg_none_of X G q
 .cases this
section
variable{prog:Program}{w:World}{A:Around}{E:Value->Shared->Prop}{s:Shared}
end
end Mir
namespace L2
open PySem PySem.Spec PyProof.Rows PySem.W
def yd(X:Cx)(f:Addr)(vs:List V)(σ:St)(H:Hp)(Q:VK):Prop:=∀(pins:List (Addr×Obj)) (s:Shared) (a:List Value),Inv X pins σ H s->Vals vs a->wpAny (model X.prog X.w) X.A (call (.ref f) a) (EP X pins σ Q) X.xe s
def tS(H:Hp)(f:Addr):Prop:=∃oc a b c u,H f=some (.cL ⟨oc,a,.func b,c⟩ u)
noncomputable def Fi(X:Cx)(i:Nat)(t:TA):TE:=λa H Q=>∃f,a[i]?=some (some (.ref f))/\tS H f/\t a H λc b=>tS b f/\yd X f c a b Q
theorem Inv.fnAt{X:Cx}{pins:List (Addr×Obj)}{σ:St}{H:Hp}{s:Shared}{f:Addr}(I:Inv X pins σ H s)(h:tS H f):FnAt f s.heap:=by
 obtain⟨oc,a,b,c,u,e⟩:=h;exact⟨oc,a,b,c,(I.hok f _ e).1⟩
theorem ye{X:Cx}{i:Nat}{x:Str}{p pos:Pos}{e:Expr}{a:List Expr}{t:TA}(j:X.N[i]?=some x)(k:nH X.env.scope x)(l:(x==("__debug__":Str))=false)(b:(x==("__classdict__":Str))=false)
  (m:PA X (e::a) t) (n:starEach (e::a) X.env=(false,eval e X.env)::starEach a X.env) (c:(backTo pos (starEach a X.env)).any (·.1)=false):PE X (.Call (.Name x p) (e::a) [] pos) (Fi X i t):=by
 intro pins s g H Q I h;obtain⟨f,d,o,h⟩:=h;refine wpAny_Call_Name_kw (cu (hV j k l b _ s g H (λv q=>v=.ref f/\q=H) I ⟨_,d,rfl,rfl⟩) λu w ⟨v,H1,I1,r,e1,e2⟩=>?_)
 subst e1 e2;obtain rfl:u=Value.ref f:=r;exact callWith_F (I1.fnAt o) (cu (m _ _ w g H1 _ I1 h) λy z ⟨A,H2,I2,r2,q1,q2⟩=>⟨I2.fnAt q1,q2 _ z y I2 r2⟩) n c
structure kT(ps cn:List Str)(sc:Scope):Prop where
 kind:sc.kind=.function
 co:sc.isCoroutine=false
 gen:sc.isGenerator=false
 nd:(ps++cn).Nodup
 par:∀x∈ps,sc.names.lookup x=some .local
 cap:∀x∈cn,sc.names.lookup x=some .free
 all:∀y∈sc.names,y.2=.free->y.1∈cn
 cell:∀y∈sc.names,y.2≠.cell
noncomputable def mU(CX:pB)(P:Program)(w:World)(K:PySem.W.Frag)(mg:Str->Option Value)(base:Heap)(N:List Str)(qual:Str)(scope:Scope)(f:Addr)(b:Value)(cl:List (Str×Addr))(A:Around)(outer:List Env)(s:Shared)(H:Hp)(E:XK):Cx where
 prog:=P
 w:=w
 K:=K
 mg:=mg
 base:=base
 A:=A.deeper (envX qual scope s.heap.objs.size f b cl)
 N:=N
 s₀:=s
 H₀:=H
 env:=envX qual scope s.heap.objs.size f b cl
 outer:=outer
 stack:=envX qual scope s.heap.objs.size f b cl::outer
 ex:=[]
 calm:=true
 fn:=λ_=>false
 pn:=[]
 xe:=λe c=>wpAny (model P w) (A.deeper (envX qual scope s.heap.objs.size f b cl)) (leaving (envX qual scope s.heap.objs.size f b cl) e) (λ_ a=>CX outer H s E e a) (λd a=>CX outer H s E d a) c
structure pV(H:Hp)(cl:List (Str×Addr))(cn:List Str)(cv:List V):Prop where
 len:cn.length=cv.length
 get:∀(j:Nat) (x:Str) (v:V),cn[j]?=some x->cv[j]?=some v->∃c o u val,cl.lookup x=some c/\H c=some (.cL o u)/\o.data=.cell (some val)/\RelV v val
 only:∀x c,cl.lookup x=some c->x∈cn
 inj:∀x y c,cl.lookup x=some c->cl.lookup y=some c->x=y
theorem pV.at'{H:Hp}{cl:List (Str×Addr)}{g:List Str}{b:List V}(h:pV H cl g b){x:Str}{c:Addr}(e:cl.lookup x=some c):∃o u v a,H c=some (.cL o u)/\o.data=.cell (some a)/\RelV v a:=by
 obtain⟨j,d⟩:=List.mem_iff_getElem?.mp (h.only x c e);have i:j<b.length:=by rw[←h.len];exact(List.getElem?_eq_some_iff.mp d).1
 obtain⟨n,o,u,a,f,k,l,m⟩:=h.get j x _ d (List.getElem?_eq_getElem i);rw[e]at f;cases f
 exact⟨o,u,_,_,k,l,m⟩
theorem yf{ps:List Str}{us:List Value}:∀{i:Nat}{x:Str}{u:Value},ps.Nodup->ps[i]?=some x->us[i]?=some u->((ps.zip us).reverse.lookup x)=some u:=by
 intro i x u f g h
 have c:∀(l:List _),(l.map (·.1)).Nodup->(x,u)∈l->l.lookup x=some u:=by
  intro l
  induction l with
  |nil=>simp
  |cons p r e=>
   grind
 refine c _ ?_ (by
  rw[List.mem_reverse];exact List.mem_iff_getElem?.mpr ⟨i,by rw[List.getElem?_zip_eq_some];exact⟨g,h⟩⟩)
 have:=by
  have d:∀(a:List Str) (b:List Value),((a.zip b).map (·.1)).Sublist a:=by
   intro a
   induction a with
   |nil=>intro b;simp
   |cons x a e=>
    intro b;cases b with
    |nil=>simp
    |cons y b=>simpa using e b
  exact f.sublist (d ps us)
 grind
theorem Bp{CX:pB}{P:Program}{w:World}{K:PySem.W.Frag}{G:Str->Option Value}{base:Heap}{ps q:List Str}{qual:Str}{scope:Scope}{f:Addr}{L:Value}{cl:List (Str×Addr)}{A:Around}{outer:List Env}{s:Shared}{t:Heap}{tk:Nat}{H:Hp}{E:XK}{us:List Value}{vs D:List V}
  (S:kT ps q scope) (Q:A.handled=none) (k:pC P w K G base A outer s H) (M:vs.length=ps.length) (r:Vals vs us) (C:pV H cl q D)
  (ns:t.Ns s.heap.objs.size λx=>((ps.zip us).reverse.lookup x)) (R:Heap.SameBut s.heap.objs.size (s.heap.push {cls:=.type "frame",data:=.dict #[]}) t) :
  Inv (mU CX P w K G base (ps++q) qual scope f L cl A outer s H E) [] ((vs++D).map some) H {s with heap:=t,toks:=tk}:=by
 have N:∀b o,s.heap.get? b=some o->t.get? b=some o:=λb o e=>(R.2 b (Nat.ne_of_lt (Heap.lt_size e))).trans (Heap.get?_push_of_some _ e)
 have n:∀b:Addr,b∉(mU CX P w K G base (ps++q) qual scope f L cl A outer s H E).ex:=λb z=>absurd (show b∈([]:List Addr)from z) (by simp)
 have g:fE P w H t:=k.hok.kept N
 have cell:∀x c,cl.lookup x=some c->∃o u a,H c=some (.cL o u)/\t.get? c=some o/\o.data=.cell (some a):=λx c e=>by
  obtain⟨o,u,v,a,m,B,F⟩:=C.at' e;exact⟨o,u,a,m,(g c _ m).1,B⟩
 have I:ps.Nodup:=S.nd.sublist (List.sublist_append_left _ _)
 refine⟨⟨k.mod,S.kind,rfl,rfl,Nat.le_refl _,C.inj,λy hy=>?_,λy c z _=>absurd (show false=true from z) Bool.false_ne_true,λ_=>Q,Around.frames_deeper k.frames,.inr ⟨rfl,rfl⟩,λb z=>absurd z (n b),k.bs,k.pe,λb _ _=>n b,λb z=>absurd z (n b),k.eR,k.rj⟩,
  rfl,k.bare,Un.kept N,⟨_,ns,λi y v d T h3=>?_⟩,λy c h=>?_,k.hok.fresh (Nat.le_refl _),λy c h=>?_,λp U=>absurd (show p∈([]:List (Addr×Obj))from U) (by simp),g,?_⟩
 .rcases hy with hy|hy
  .exact absurd rfl (S.cell _ (PySem.mem_of_lookup hy))
  .have X:=S.all _ (PySem.mem_of_lookup hy) rfl
   obtain⟨j,O⟩:=List.mem_iff_getElem?.mp X;have J:j<D.length:=by rw[←C.len];exact(List.getElem?_eq_some_iff.mp O).1
   obtain⟨c,o,u,a,m,_⟩:=C.get j y _ O (List.getElem?_eq_getElem J);exact⟨c,m⟩
 .have d:(ps++q)[i]?=some y:=d
  have l:(vs++D)[i]?=some v:=by
   rw[List.getElem?_map]at T
   simp_all
  by_cases Y:i<ps.length
  .rw[List.getElem?_append_left Y]at d
   rw[List.getElem?_append_left (by omega)]at l
   obtain⟨u,Z,rv⟩:=r.get l;exact⟨u,rv,.inl ⟨S.par y (List.mem_of_getElem? d),yf I d Z⟩⟩
  .rw[List.getElem?_append_right (by omega)]at d
   rw[List.getElem?_append_right (by omega),M]at l
   obtain⟨c,o,u,a,m,B,F,q4⟩:=C.get _ _ _ d l;exact⟨a,q4,.inr ⟨.inr (S.cap y (List.mem_of_getElem? d)),c,m,o,(g c _ B).1,F⟩⟩
 .obtain⟨o,u,a,_,B,F⟩:=cell y c h
  exact⟨some a,o,B,F⟩
 .obtain⟨o,u,a,m,_⟩:=cell y c h
  exact⟨.inr ⟨o,u,m⟩,λz=>absurd (show false=true from z) Bool.false_ne_true⟩
 .rw[List.length_map,List.length_append,M,←C.len]
  show _=(ps++q).length
  rw[List.length_append]
structure DR(H:Hp)(f c':Addr)(name qual:Str)(params:Arguments)(body:List Stmt)(scope:Scope)(cl:List (Str×Addr)):Prop where
 fn:∃doc pm ctv u,H f=some (.cL (fnMade name qual params body scope cl doc pm c' ctv) u)
 cd:∃oc u vs t,H c'=some (.cL oc u)/\oc.data=.fields vs/\vs[1]?=some (.str qual t)
theorem yg{X:Cx}{CX:pB}{k:Nat}{f c:Addr}{name qual:Str}{params:Arguments}{body:List Stmt}{scope:Scope}{cl:List (Str×Addr)}{ps p:List Str}{vs M:List V}{σ:St}{H:Hp}{Q:VK}{E:XK}
  (C:DR H f c name qual params body scope cl) (S:kT ps p scope) (O:pV H cl p M) (x:bE (k+1) X.A) (U:Passes CX X E) (N:vs.length=ps.length)
  (Y:∀(j z l:Value) (us:List Value),us.length=ps.length->bindArgs (fnX name qual params body scope cl .none .none j z none (.ref c) l) ⟨us,[]⟩=pure (ps.zip us))
  (g:∀(outer:List Env) (s:Shared),bE k (X.A.deeper (envX qual scope s.heap.objs.size f (.ref c) cl)) ->
   ∃t,gb (mU CX X.prog X.w X.K X.mg X.base (ps++p) qual scope f (.ref c) cl X.A outer s H E) body t/\t {nx:=λ_ d=>Q .non d,rt:=Q} ((vs++M).map some) H):yd X f vs σ H Q:=by
 intro pins s us I r;obtain⟨j,z,l,uf,Z⟩:=C.fn;obtain⟨oc,uc,vc,tc,hc,B,D⟩:=C.cd;have F:=I.env0;have G:=I.nolimit;have rl:us.length=ps.length:=by rw[←r.length];exact N
 refine wpAny_call (codeAny_mono (R:=CR CX X.stack X.prog X.w H s Q E) ?_ λr m h=>?_)
 .refine codeAny_call_function x.depth (F.hok f _ Z).1 rfl S.co S.gen rfl ⟨c,oc,vc,tc,rfl,(F.hok c _ hc).1,B,D⟩ ?_
  rw[Y _ z _ us rl];refine wpAny_pure (wpAny_newFunctionEnv S.cell (λy hy=>S.par _ (List.of_mem_zip hy).1) (λP ns T=>?_) S.kind)
  have hk:∀b o,s.heap.get? b=some o->P.get? b=some o:=λb o e=>(T.2 b (Nat.ne_of_lt (Heap.lt_size e))).trans (Heap.get?_push_of_some _ e)
  refine⟨G.keeps hk,codeAny_func ?_⟩;obtain⟨t,ht,h⟩:=g _ s (x.deeper _);have I1:Inv (mU CX _ _ _ _ _ _ qual _ f (.ref c) cl _ _ s H E) [] _ H {s with heap:=P,toks:=s.toks+(ps.zip us).length}:=Bp S x.hd F N r O ns T;refine wpAny_mono (ht [] _ _ H _ I1 h) (λfl m i=>?_) λe m i=>i
  have n:∀{a:St}{d:Hp}{v:V}{u:Value},Inv (mU CX _ _ X.K X.mg X.base (ps++p) qual scope f (.ref c) cl X.A _ s H E) [] a d m->RelV v u->Q v d->CE X.stack X.prog X.w H s Q u m:=
   λ{a d v u} J L q=>⟨v,d,J.os,J.bare,J.base,J.hok,L,q⟩
  cases fl with
  |ret u=>
   obtain⟨v,a,d,J,L,q⟩:=i;exact n J L q
  |next=>
   obtain⟨a,d,J,q⟩:=i;exact n (v:=V.non) J rfl q
  |brk=>
   obtain⟨_,_,_,q⟩:=i
   grind
  |cont=>
   obtain⟨_,_,_,q⟩:=i
   grind
 .cases r with
  |error e=>exact U _ σ H s e m I h
  |ok fl=>
   cases fl with
   |ret u=>exact I.after h
   |next=>exact False.elim h
   |brk=>exact False.elim h
   |cont=>exact False.elim h
noncomputable def kU(a:Addr)(o:Obj):HO:=.cL o (.ext λh=>h.get? a=some o)
theorem n9{P:Program}{w:World}{H:Hp}{h:Heap}{a:Addr}{o:Obj}(e:h.get? a=some o):cI P w H h a (kU a o):=⟨e,e,⟨o,e⟩,λb c q k=>k o q⟩
noncomputable def Cx.fz(X:Cx)(xs:List Str):Cx:={X with fn:=λy=>X.fn y&&!(xs.contains y)}
section
variable{X:Cx}{pins:List (Addr×Obj)}{σ:St}{H:Hp}{s:Shared}
theorem Inv.yh(I:Inv X pins σ H s):Inv (X.fz []) pins σ H s:=by
 have ok:=I.ok;refine⟨⟨ok.mod,ok.kind,ok.glob,ok.blt,ok.above,ok.inj,ok.has,λx c z e=>ok.cab x c ?_ e,ok.hd,ok.frames,ok.wJ,ok.wO,ok.bs,ok.pe,ok.jM,ok.jN,ok.eR,ok.rj⟩,I.os,I.bare,I.base,I.loc,I.cell,I.free,λx c e=>⟨(I.cq x c e).1,λz=>(I.cq x c e).2 ?_⟩,I.pin,I.hok,I.len⟩
 .have z:(X.fn x&&!(([]).contains x))=true:=z
  simpa using z
 .have z:(X.fn x&&!(([]).contains x))=true:=z
  simpa using z
theorem Inv.freeze{xs:List Str}{x:Str}{c:Addr}{o:Obj}{l:Value}(I:Inv (X.fz xs) pins σ H s)(k:X.env.cells.lookup x=some c)(w:(X.fz xs).fn x=true)(D:s.heap.get? c=some o)(L:o.data=.cell (some l)) :
  Inv (X.fz (x::xs)) pins σ (upd H c (kU c o)) s:=by
 have ok:=I.ok;have M:H c=none:=(I.cq x c k).2 w
 have g:∀y,(X.fz (x::xs)).fn y=true->(X.fz xs).fn y=true/\y≠x:=λy z=>by
  have z:(X.fn y&&!((x::xs).contains y))=true:=z;have:(X.fz xs).fn y=(X.fn y&&!(xs.contains y)):=rfl
  grind
 have h:∀b u,H b=some u->b≠c:=λb u e z=>by grind
 have r:∀b f,X.s₀.heap.get? b=some f->b≠c:=λb f e z=>by
  have:=ok.cab x c w k;have A:=Heap.lt_size e;rw[z]at A;exact absurd (Nat.lt_of_lt_of_le A this) (Nat.lt_irrefl _)
 refine⟨⟨ok.mod,ok.kind,ok.glob,ok.blt,ok.above,ok.inj,ok.has,λy a z e=>ok.cab y a (g y z).1 e,ok.hd,ok.frames,ok.wJ,ok.wO,ok.bs,ok.pe,ok.jM,ok.jN,ok.eR,ok.rj⟩,I.os,I.bare,
  ⟨I.base.keep,I.base.slot,λb f e n E=>?_,I.base.there,λb B e=>?_,λb f u e=>?_,λb F e=>?_⟩,I.loc,I.cell,?_,λy a e=>?_,λp G=>?_,λb u e=>?_,I.len⟩
 .rw[ao (r b f e)];exact I.base.free b f e n E
 .have:=I.base.tups b B e
  rw[ao (h b _ this)];exact this
 .have:=I.base.e9 b f u e
  rw[ao (h b _ this)];exact this
 .obtain⟨m,C⟩:=I.base.fF b F e
  exact⟨m,by rw[ao (h b _ C)];exact C⟩
 .exact(ao (Ne.symm (I.GR x c k))).trans I.free
 .by_cases i:a=c
  .subst i
   have:y=x:=ok.inj y x a e k;refine⟨.inr ⟨o,_,aG⟩,by grind⟩
  .rw[ao i]
   exact⟨(I.cq y a e).1,λz=>(I.cq y a e).2 (g y z).1⟩
 .obtain⟨e,n,J,K,d⟩:=I.pin p G
  have t:p.1≠c:=λz=>by
   grind
  exact⟨e,by rw[ao t];exact n,J,K,d⟩
 .by_cases j:b=c
  .subst j
   rw[aG]at e;cases e;exact n9 D
  .rw[ao j]at e
   exact(I.hok b u e).stay (λa v _ q=>q) (λa q=>by rw[ao (h a _ q)];exact q) λa B q=>by rw[ao (h a _ q)];exact q
def eJ(H:Hp)(P:Addr)(ps:Array Value)(a:Addr)(oc:Obj)(f:Addr)(b:Obj):Hp:=upd (upd (upd H P (.mB ps)) a (kU a oc)) f (kU f b)
theorem Inv.HY{P a f:Addr}{ps more:Array Value}{oc m:Obj}{h:Heap}{tk:Nat}(I:Inv X pins σ H s)(j:H P=some (.mB ps))(ext:Heap.ExtBut P s.heap h)(k:h.get? P=some (tabObj (ps++more)))(r:s.heap.objs.size<=a)(t:s.heap.objs.size<=f)(D:a≠f)
  (w:h.get? a=some oc) (x:h.get? f=some m):Inv X pins σ (eJ H P (ps++more) a oc f m) {s with heap:=h,toks:=tk}:=by
 have E:H a=none:=I.hok.fresh r;have F:H f=none:=I.hok.fresh t;have l:P<s.heap.objs.size:=Heap.lt_size (I.hok P _ j);have y:P≠a:=Nat.ne_of_lt (Nat.lt_of_lt_of_le l r);have A:P≠f:=Nat.ne_of_lt (Nat.lt_of_lt_of_le l t)
 have d:∀b u,H b=some u->b≠P->eJ H P (ps++more) a oc f m b=some u:=λb u e i=>by
  have g:b≠a:=λz=>by rw[z,E]at e;cases e
  have c:b≠f:=λz=>by rw[z,F]at e;cases e
  unfold eJ;rw[ao c,ao g,ao i];exact e
 have C:∀b o,s.heap.get? b=some o->H b=none->h.get? b=some o:=λb o e n=>ext b o (λz=>by rw[z,j]at n;cases n) e
 have G:∀b o,s.heap.get? b=some o->H b=none->eJ H P (ps++more) a oc f m b=none:=λb o e n=>by
  have p:b≠P:=λz=>by rw[z,j]at n;cases n
  have g:b≠a:=Nat.ne_of_lt (Nat.lt_of_lt_of_le (Heap.lt_size e) r);have c:b≠f:=Nat.ne_of_lt (Nat.lt_of_lt_of_le (Heap.lt_size e) t);unfold eJ;rw[ao c,ao g,ao p];exact n
 refine I.un (t':=tk) ⟨λb o e n _ _=>C b o e n,λb o e n _ _=>⟨o.slots,C b o e n⟩,λb o e n _=>G b o e n,λb o e _=>?_,by grind,by grind,λb K e=>?_⟩ λb u e=>?_
 .by_cases i:b=P
  .exact⟨_,by rw[i];exact k⟩
  .exact⟨o,ext b o i e⟩
 .by_cases i:b=P
  .subst i
   rw[j]at e;cases e
   refine⟨more,?_⟩;unfold eJ;rw[ao A,ao y,aG]
  simp_all
 .by_cases c:b=f
  .subst c
   unfold eJ at e;rw[aG]at e;cases e
   exact n9 x
  .by_cases g:b=a
   .subst g
    unfold eJ at e;rw[ao c,aG]at e;cases e
    exact n9 w
   .by_cases p:b=P
    .subst p
     unfold eJ at e;rw[ao c,ao g,aG]at e;cases e
     exact k
    .unfold eJ at e
     rw[ao c,ao g,ao p]at e;refine(I.hok b u e).stay (λB v J q=>ext B v ?_ q) (λB q=>d B _ q λz=>by rw[z,j]at q;cases q) (by grind)
     grind
theorem Bq{H:Hp}{P b f:Addr}{ps:Array Value}{oc a:Obj}:eJ H P ps b oc f a f=some (kU f a):=aG
theorem Br{H:Hp}{P a f:Addr}{ps:Array Value}{oc b:Obj}(h:a≠f):eJ H P ps a oc f b a=some (kU a oc):=by unfold eJ;rw[ao h,aG]
theorem Bs{name qual:Str}{params:Arguments}{body:List Stmt}{scope:Scope}{pos:Pos}{i:Nat}{P c:Addr}{ps:Array Value}{cl:List (Str×Addr)}{Q:Flow->Shared->Prop}
  (I:Inv X pins σ H s) (r:H P=some (.mB ps)) (M:TriplesOk ps.toList) (x:codeAmong pos ps.toList=none) (O:X.env.code=.ref c) (R:CodeHd X.base c P) (S:∃G,X.base.BuiltinsAt X.mg G)
  (T:qualnameIn X.env name name=qual) (y:params.defaults=[]) (B:params.kw_defaults=[]) (U:annTrees params none X.env=[]) (C:closureFor scope X.env=pure cl)
  (V:X.N.Nodup) (Y:X.N[i]?=some name) (J:X.env.scope.names.lookup name=some .local)
  (k:∀(f a:Addr) (oc:Obj) (d Z g:Value) (vs:Array Value) (t:Tok) (u:Shared),H a=none->H f=none->a≠f->a≠P->f≠P->s.heap.objs.size<=a->s.heap.objs.size<=f->oc.data=.fields vs->vs[1]?=some (.str qual t) ->
   Inv X pins (σ.set i (some (.ref f))) (eJ H P (ps ++ #[rawInt pos.line,rawInt pos.col,.ref a]) a oc f (fnMade name qual params body scope cl d Z a g)) u->Q .next u) :
  wpAny (model X.prog X.w) X.A (exec (.FunctionDef name params body [] none [] scope none name pos) X.env) Q X.xe s:=by
 have j:=I.hok P _ r;have l:=Heap.lt_size j;refine nestDef_K y B U ?_;rw[T]
 refine makeFunction_K C I.ok.glob (I.mod.glob.keeps I.bk) O (R.keeps I.bk) j M x (λz=>by
  obtain⟨o,es,ep,e,_⟩:=I.mod.glob;have:=(I.bs _ _ e).2;rw[z,r]at this;cases this) (by
  obtain⟨G,bm,o,b1,b2,b3,_,K,b6⟩:=S;refine⟨bm,o,b1,b2,b3,λz=>?_,I.bk _ _ K,b6⟩
  have:=(I.bs _ _ K).2;rw[z,r]at this;cases this) λa g d L tk m n D p E=>?_
 obtain⟨c2,oc,vs,t,e2,F,hd,hv⟩:=p;cases e2;have h:=Nat.le_trans n (Nat.le_of_lt D);have q:Heap.ExtBut P _ (L.push (fnMade name qual params body scope cl d ((X.mg "__name__").getD .none) a g)):=λb o hb e=>Heap.get?_push_of_some _ (m b o hb e)
 refine ip (I.HY (tk:=tk) r q (Heap.get?_push_of_some _ E) n h (Nat.ne_of_lt D) (Heap.get?_push_of_some _ F) (Heap.get?_push_size _ rfl)) V Y (.inl J) (v:=.ref _) rfl (λu I2=>k L.objs.size a oc d _ g vs t u (I.hok.fresh n) (I.hok.fresh h) (Nat.ne_of_lt D) (Nat.ne_of_gt (Nat.lt_of_lt_of_le l n)) (Nat.ne_of_gt (Nat.lt_of_lt_of_le l h)) n h hd hv I2) (.inr J)
end
end L2
namespace L2
open PySem PySem.Spec PyProof.Rows
theorem rV{prog:Program}{w:World}{a:Array DictEntry}(d:Addr)(b:(d==sysModules)=false) :
  MeetsIn prog w (Builtin.«dict.__len__» ⟨[.ref d],[]⟩) (λ_ R s=>∃o ep,s.heap.get? d=some o/\o.data=.dict a ep/\R (.ok (.ret (.int a.size s.toks))) {s with toks:=s.toks+1}):=
 .of_wp λA R s ⟨o,ep,ho,hdat,h⟩=>by
  show wpAny _ _ (dictSize d >>= _) _ _ s
  refine wpAny_bind (wpAny_bind (wpAny_dictEntries ho hdat (wpAny_pure ?_)));refine wpAny_bind (wpAny_pendingCount_other b ?_);refine wpAny_ret_mkInt ?_
  grind
theorem KT.length{H:Hp}{l:List (List Key×V)}{m:List (List Key×Addr×Value)}(q:KT H l m):m.length=l.length:=by
 induction q with
 |nil=>rfl
 |cons _ _ a=>simp_all
theorem vx{X:Cx}:d_ X (.builtin "len") (λxs H Q=>∃a kvs,xs=[V.ref a]/\H a=some (.dT kvs)/\Q (.int kvs.length) H):=by
 intro pins s t H xs w Q I r h;obtain⟨a,kvs,rfl,e,q⟩:=h;obtain⟨u,rfl,f⟩:=vals1 r;cases f;obtain⟨z,g,xs,b,c⟩:=DL I.hok e;have d:=c.typeIs;obtain⟨o,i,j,k,x,l,n,y,A⟩:=c;have p:i.size=kvs.length:=by rw[size_of_entries n,b.length]
 refine Calls.call_function_entry kind_len plain_len entry_len (args_len1 _) ?_
 refine wpAny_bind (m:=callSpecial? _ _) (wpAny_callSpecial?_slot d F.slot_dict_len
  (call_meetsIn F.slot_dict_len d F.entry_dict_len (F.args_dict_len_1 _) (rV a g) ⟨o,j,k,l,?_⟩))
 refine wpAny_bind (wpAny_holding (wpAny_pure ?_));refine wpAny_bind (wpAny_letGo ?_);rw[sizeLine_eq]at z;rw[if_neg (by omega)]
 rw[if_neg (by omega)]
 refine wpAny_bind (wpAny_mkInt (wpAny_pure ⟨_,rfl,.int _,H,(I.tok _).tok _,⟨_,by rw[p]⟩,q⟩))
end L2
namespace HT
open PySem PyProof.Rows
section
variable{prog:Program}{w:World}{A:Around}{E:Value->Shared->Prop}{s:Shared}
end
end HT
namespace L2
open PySem PySem.Spec PyProof.Rows
section
variable{X:Cx}
end
end L2
namespace Mir
open PySem PySem.Spec PyProof.Rows L2
theorem dR{a b:Str}:cR a b=true↔a.cps.toList<=b.cps.toList:=by
 unfold cR
 simp_all
theorem jE(a b c:Str)(d:cR a b=true)(e:cR b c=true):cR a c=true:=dR.mpr (List.le_trans (dR.mp d) (dR.mp e))
theorem pW(a b:Str):(cR a b||cR b a)=true:=by
 rw[Bool.or_eq_true,dR,dR];exact List.le_total _ _
theorem rW{a b:Str}(c:cR a b=true)(d:cR b a=true):a=b:=by
 have e:=List.le_antisymm (dR.mp c) (dR.mp d);cases a;simp_all
theorem mV:∀{d:List Str}{p:Str},risingS p d=true->(p::d).Pairwise λa b=>cR a b=true
 |[],p,_=>by simp
 |x::r,p,h=>by
  simp only[risingS,Bool.and_eq_true,Bool.not_eq_true',ltCps_eq]at h;have c:cR p x=true:=by unfold cR;rw[h.1];rfl
  have e:=mV h.2;refine List.pairwise_cons.mpr ⟨λy hy=>?_,e⟩
  rcases List.mem_cons.mp hy with rfl|hy
  .exact c
  .exact jE _ _ _ c ((List.pairwise_cons.mp e).1 y hy)
theorem pX{d c:List Str}(e:c.Perm d)(f:sortedS c=true):c=d.mergeSort cR:=by
 refine List.Perm.eq_of_pairwise (λa b _ _ g h=>rW g h) ?_ (List.pairwise_mergeSort jE pW d) (e.trans (List.mergeSort_perm d _).symm)
 cases c with
 |nil=>simp
 |cons x r=>exact mV f
theorem yi{ns d:List Int}(e:d.Perm ns)(h:d.Pairwise (· <= ·)):d=ns.mergeSort λa b=>decide (a<=b):=by
 refine List.Perm.eq_of_pairwise (λa b _ _ f g=>?_) (by grind) (List.pairwise_mergeSort (λa b c f g=>?_) (λa b=>?_) ns) (e.trans (List.mergeSort_perm ns _).symm)
 .grind
 .grind
 grind
theorem ib:∀{a:List Str}{us:List Value},Vals (a.map V.str) us->StrsAre us a
 |[],_,r=>by cases r;exact .nil
 |x::a,_,r=>by
  cases r with
  |cons h t=>
   obtain⟨tk,rfl⟩:=h;exact .cons _ _ (ib t)
theorem jm:∀{us:List Value}{a:List Str},StrsAre us a->Vals (a.map V.str) us
 |_,_,.nil=>.nil
 |_,_,.cons x t h=>.cons ⟨t,rfl⟩ (jm h)
theorem vy{X:Cx}:d_ X (.builtin "sorted") (λxs H Q=>∃a,xs=[.ref a]/\((∃d:List Str,lX X.K H a (d.map V.str)/\d.length<64/\∀l,H l=none->Q (.ref l) (upd H l (.lst ((d.mergeSort cR).map V.str)))) \/
  ∃ns:List Int,lX X.K H a (ns.map V.int)/\ns.length<64/\∀l,H l=none->Q (.ref l) (upd H l (.lst ((ns.mergeSort λa b=>decide (a<=b)).map V.int))))):=by
 intro pins s D H xs E Q I r h;obtain⟨a,rfl,h⟩:=h;obtain⟨u,rfl,y⟩:=vals1 r;cases y;have fresh:=I.hok.fresh (Nat.le_succ _);rcases h with ⟨d,f,g,q⟩|⟨ns,f,g,q⟩
 .obtain⟨i,c,j,z⟩:=I.list f
  have k:=c.length;rw[List.length_map]at k;refine sorted_strs j.isList (ib c) (by omega) λm A n o p=>?_
  obtain⟨e,t⟩:=sortedAll_at _ _ _;have w:=pX o p;subst w;refine⟨.ref _,_,I.laid (λb B x=>sortedAll_old x) (Nat.le_succ _) ?_,rfl,q _ fresh⟩
  exact⟨by simp_all,_,e,jm n,t⟩
 .obtain⟨i,c,j,z⟩:=I.list f
  have k:=c.length;rw[List.length_map]at k;refine sorted_ints j.isList (intsAre_of c) (by omega) λm C n o p=>?_
  obtain⟨e,t⟩:=sortedAll_at _ _ _;have w:=yi o p;subst w;refine⟨.ref _,_,I.laid (λb B x=>sortedAll_old x) (Nat.le_succ _) ?_,rfl,q _ fresh⟩
  exact⟨by simp_all,_,e,jh n,t⟩
end Mir
namespace Mir
open PySem L2
structure pY where
 name:Str
 qual:Str
 params:Arguments
 body:List Stmt
 scope:Scope
 ps:List Str
 cn:List Str
class aw where
 tab:Nat->pY
 ta:Nat->Addr
inductive Cell where
 |lst (ds:List D)
 |dK (kvs:List (Key×D))
 |dT (kvs:List (List Key×D))
 |dF (kvs:List (Key×D))
 |dG (kvs:List (List Key×D))
 |ins (C:Str) (fs:List (Str×D))
 |fn (j:Nat) (de:List D)
 |tb (j:Nat) (p:Pos) (b:Bool)
abbrev aA:=List Cell
inductive ax (α:Type) where
 |ok (a:α) (Ω:aA)
 |exc (x:D) (Ω:aA)
 |bad
noncomputable def ax.bind{b c:Type}:ax b->(b->aA->ax c)->ax c
 |.ok a Ω,f=>f a Ω
 |.exc x Ω,_=>.exc x Ω
 |.bad,_=>.bad
abbrev aK:=List (Option D)
inductive aD {α β:Type} (R:α->β->Prop):List α->List β->Prop where
 |nil:aD R [] []
 |cons {a b as bs}:R a b->aD R as bs->aD R (a::as) (b::bs)
namespace aD
variable{α β:Type}{R S:α->β->Prop}
theorem length:∀{as:List α}{bs:List β},aD R as bs->bs.length=as.length
 |_,_,.nil=>rfl
 |_,_,.cons _ t=>by rw[List.length_cons,List.length_cons,length t]
theorem imp(h:∀a b,R a b->S a b):∀{as:List α}{bs:List β},aD R as bs->aD S as bs
 |_,_,.nil=>.nil
 |_,_,.cons r t=>.cons (h _ _ r) (imp h t)
theorem get:∀{as:List α}{bs:List β}{i:Nat}{a:α},aD R as bs->as[i]?=some a->∃b,bs[i]?=some b/\R a b
 |_,_,_,_,.nil,e=>by simp at e
 |_,_,0,_,.cons r _,e=>by simp_all
 |_,_,i+1,a,.cons _ t,e=>by
  obtain⟨u,h1,h2⟩:=get t (by simpa using e)
  simp_all
theorem Fj:∀{as:List α}{bs:List β}{i:Nat}{b:β},aD R as bs->bs[i]?=some b->∃a,as[i]?=some a/\R a b
 |_,_,_,_,.nil,e=>by simp at e
 |_,_,0,_,.cons r _,e=>by simp_all
 |_,_,i+1,a,.cons _ t,e=>by
  obtain⟨u,h1,h2⟩:=Fj t (by simpa using e)
  simp_all
theorem append:∀{as a:List α}{bs ds:List β},aD R as bs->aD R a ds->aD R (as++a) (bs++ds)
 |_,_,_,_,.nil,h=>h
 |_,_,_,_,.cons r t,h=>.cons r (append t h)
theorem one{a:α}{b:β}(h:R a b):aD R [a] [b]:=.cons h .nil
theorem take:∀{as:List α}{bs:List β} (n:Nat),aD R as bs->aD R (as.take n) (bs.take n)
 |_,_,0,_=>by exact .nil
 |_,_,n+1,.nil=>by exact .nil
 |_,_,n+1,.cons r t=>.cons r (take n t)
theorem drop:∀{as:List α}{bs:List β} (n:Nat),aD R as bs->aD R (as.drop n) (bs.drop n)
 |_,_,0,h=>h
 |_,_,n+1,.nil=>by exact .nil
 |_,_,n+1,.cons r t=>drop n t
theorem reverse:∀{as:List α}{bs:List β},aD R as bs->aD R as.reverse bs.reverse
 |_,_,.nil=>.nil
 |_,_,.cons r t=>by rw[List.reverse_cons,List.reverse_cons];exact(reverse t).append (one r)
theorem set{a:α}{b:β}(r:R a b):∀{as:List α}{bs:List β} (n:Nat),aD R as bs->aD R (as.set n a) (bs.set n b)
 |_,_,_,.nil=>.nil
 |_,_,0,.cons _ t=>.cons r t
 |_,_,n+1,.cons q t=>.cons q (set r n t)
theorem nil_inv{bs:List β}(h:aD R [] bs):bs=[]:=by cases h;rfl
theorem cons_inv{a:α}{as:List α}{bs:List β}(h:aD R (a::as) bs):∃b r,bs=b::r/\R a b/\aD R as r:=by
 cases h with
 |cons r t=>exact⟨_,_,rfl,r,t⟩
end aD
mutual
noncomputable def av(c:List Addr)(Z:Addr->Prop)(H:Hp):D->V->Prop
 |.non,v=>v=.non
 |.bl b,v=>v=.bl b
 |.int i,v=>v=.int i
 |.str x,v=>v=.str x
 |.lst ds,v=>∃a vs,v=.ref a/\Z a/\Rd H a (.lst vs)/\fw c Z H ds vs
 |.tup ds,v=>∃a vs,v=.ref a/\Z a/\H a=some (.tup vs)/\fw c Z H ds vs
 |.dct _ _,_=>False
 |.ref n,v=>∃a,c[n]?=some a/\v=.ref a
noncomputable def fw(a:List Addr)(Z:Addr->Prop)(H:Hp):List D->List V->Prop
 |[],vs=>vs=[]
 |d::ds,vs=>∃v r,vs=v::r/\av a Z H d v/\fw a Z H ds r
end
theorem cy{a:List Addr}{Z:Addr->Prop}{H:Hp}:∀{ds:List D}{vs:List V},fw a Z H ds vs↔aD (av a Z H) ds vs
 |[],vs=>by
  exact⟨λh=>by subst h;exact .nil,λh=>h.nil_inv⟩
 |d::ds,vs=>by
  constructor
  .rintro⟨v,r,rfl,h1,h2⟩
   exact .cons h1 (cy.mp h2)
  .intro h
   obtain⟨v,r,rfl,h1,h2⟩:=h.cons_inv;exact⟨v,r,rfl,h1,cy.mpr h2⟩
section
variable{α α':List Addr}{Z Z':Addr->Prop}{H H':Hp}
mutual
theorem av.mono(p:∀(n:Nat) (a:Addr),α[n]?=some a->α'[n]?=some a)(k:∀a o,Z a->H a=some o->H' a=some o)(z:∀a,Z a->Z' a):∀{d:D}{v:V},av α Z H d v->av α' Z' H' d v
 |.non,_,h=>by simpa only [av]using h
 |.bl _,_,h=>by simpa only [av]using h
 |.int _,_,h=>by simpa only [av]using h
 |.str _,_,h=>by simpa only [av]using h
 |.lst ds,v,h=>by
  obtain⟨a,vs,e,b,c,f⟩:=h;exact⟨a,vs,e,z a b,nV (λo=>k a o b) c,fw.mono p k z f⟩
 |.tup ds,v,h=>by
  obtain⟨a,vs,e,b,c,f⟩:=h;exact⟨a,vs,e,z a b,k a _ b c,fw.mono p k z f⟩
 |.dct g ds,v,h=>by simp only[av]at h
 |.ref n,v,h=>by
  simp only[av]at h ⊢
  grind
theorem fw.mono(p:∀(n:Nat) (a:Addr),α[n]?=some a->α'[n]?=some a)(k:∀a o,Z a->H a=some o->H' a=some o)(z:∀a,Z a->Z' a):∀{ds:List D}{vs:List V},fw α Z H ds vs->fw α' Z' H' ds vs
 |[],_,h=>by simpa only [fw]using h
 |d::ds,vs,h=>by
  simp only[fw]at h ⊢;obtain⟨v,r,e,h1,h2⟩:=h;exact⟨v,r,e,av.mono p k z h1,fw.mono p k z h2⟩
end
end
def j_{K:Type}(R:D->V->Prop)(kvs:List (K×D))(a:List (K×V)):Prop:=aD (λp q=>p.1=q.1/\R p.2 q.2) kvs a
variable [aw]
def GV(H:Hp)(a:Addr)(j:Nat)(p:Pos):Bool->Prop
 |false=>H a=some (.mB #[])
 |true=>∃b oc u vs t,H a=some (.mB #[rawInt p.line,rawInt p.col,.ref b])/\H b=some (.cL oc u)/\oc.data=.fields vs/\vs[1]?=some (.str (aw.tab j).qual t)
theorem GV.imp{H c:Hp}{a:Addr}{j:Nat}{p:Pos}{b:Bool}(e:∀o,H a=some o->c a=some o)(z:∀b o u,H b=some (.cL o u)->c b=some (.cL o u))(k:GV H a j p b):GV c a j p b:=by
 cases b with
 |false=>exact e _ k
 |true=>obtain⟨d,oc,u,f,t,g,h,i⟩:=k;exact⟨d,oc,u,f,t,e _ g,z _ _ _ h,i⟩
theorem GV.is{H:Hp}{a:Addr}{j:Nat}{p:Pos}{b:Bool}(k:GV H a j p b):∃ps,H a=some (.mB ps):=by
 cases b with
 |false=>exact⟨_,k⟩
 |true=>obtain⟨d,oc,u,e,t,c,f,g⟩:=k;exact⟨_,c⟩
def fb(κ:Str->Addr->Prop)(R:D->V->Prop)(H:Hp)(a:Addr):Cell->Prop
 |.lst ds=>∃vs,H a=some (.lst vs)/\aD R ds vs
 |.dK kvs=>∃c,H a=some (.dK c)/\j_ R kvs c
 |.dT kvs=>∃c,H a=some (.dT c)/\j_ R kvs c
 |.dF kvs=>∃o c,H a=some (.cL o (.dK c))/\j_ R kvs c
 |.dG kvs=>∃o c,H a=some (.cL o (.dT c))/\j_ R kvs c
 |.ins C fs=>∃e g d,κ C e/\H a=some (.ins e g d)/\j_ R fs d
 |.fn j de=>∃h cl f,DR H a h (aw.tab j).name (aw.tab j).qual (aw.tab j).params (aw.tab j).body (aw.tab j).scope cl/\pV H cl (aw.tab j).cn f/\aD R de f
 |.tb j p b=>a=aw.ta j/\GV H a j p b
theorem j_.imp{K:Type}{R S:D->V->Prop}(h:∀d v,R d v->S d v){kvs:List (K×D)}{c:List (K×V)}(k:j_ R kvs c):j_ S kvs c:=aD.imp (λa b q=>⟨q.1,h _ _ q.2⟩) k
theorem fb.imp{κ:Str->Addr->Prop}{R S:D->V->Prop}{H m:Hp}{a:Addr}{c:Cell}(h:∀d v,R d v->S d v)(e:∀o,H a=some o->m a=some o)(z:∀b o u,H b=some (.cL o u)->m b=some (.cL o u))(k:fb κ R H a c):fb κ S m a c:=by
 cases c with
 |lst X=>obtain⟨f,g,i⟩:=k;exact⟨f,e _ g,i.imp h⟩
 |dK l=>obtain⟨f,g,i⟩:=k;exact⟨f,e _ g,i.imp h⟩
 |dT l=>obtain⟨f,g,i⟩:=k;exact⟨f,e _ g,i.imp h⟩
 |dF l=>obtain⟨o,f,g,i⟩:=k;exact⟨o,f,e _ g,i.imp h⟩
 |dG l=>obtain⟨o,f,g,i⟩:=k;exact⟨o,f,e _ g,i.imp h⟩
 |ins C Y=>obtain⟨n,q,f,r,g,i⟩:=k;exact⟨n,q,f,r,e _ g,i.imp h⟩
 |fn j de=>
  obtain⟨s,w,y,⟨⟨A,B,E,u,g⟩,oc,F,f,t,i,G,I⟩,O,J⟩:=k;refine⟨s,w,y,⟨⟨_,B,_,u,z _ _ _ g⟩,oc,F,f,t,z _ _ _ i,G,I⟩,⟨O.len,λj x v K L=>?_,O.only,O.inj⟩,J.imp h⟩
  obtain⟨c,o,M,N,P,Q,T,U⟩:=O.get j x v K L;exact⟨c,o,M,_,P,z _ _ _ Q,T,U⟩
 |tb j p b=>exact⟨k.1,k.2.imp e z⟩
theorem fb.some{κ:Str->Addr->Prop}{R:D->V->Prop}{H:Hp}{a:Addr}{c:Cell}(k:fb κ R H a c):H a≠none:=by
 cases c with
 |lst l=>obtain⟨f,d,g⟩:=k;rw[d];simp
 |dK e=>obtain⟨f,d,g⟩:=k;rw[d];simp
 |dT e=>obtain⟨f,d,g⟩:=k;rw[d];simp
 |dF e=>obtain⟨o,f,d,g⟩:=k;rw[d];simp
 |dG e=>obtain⟨o,f,d,g⟩:=k;rw[d];simp
 |ins C m=>obtain⟨n,q,f,r,d,g⟩:=k;rw[d];simp
 |fn j de=>obtain⟨s,t,w,⟨⟨h,x,i,u,d⟩,_⟩,_⟩:=k;rw[d];simp
 |tb j p b=>obtain⟨y,d⟩:=k.2.is;rw[d];simp
structure bc(κ:Str->Addr->Prop)(α:List Addr)(Z:Addr->Prop)(Ω:aA)(H:Hp):Prop where
 jT:α.Nodup
 vz:aD (λc a=>fb κ (av α Z H) H a c) Ω α
 sep:∀a∈α,¬ Z a
 dom:∀a,Z a->H a≠none
structure bD(α:List Addr)(Z:Addr->Prop)(H:Hp)(α':List Addr)(Z':Addr->Prop)(H':Hp):Prop where
 pre:∀(n:Nat) (a:Addr),α[n]?=some a->α'[n]?=some a
 sub:∀a,Z a->Z' a
 new:∀a,Z' a->Z a\/H a=none\/(a∉α'/\∃vs,H a=some (.tup vs))
 wK:∀a∈α',a∈α\/H a=none
 frm:∀a o,H a=some o->a∉α->H' a=some o
 has:∀a∈α,H' a≠none
 cL:∀a o u,H a=some (.cL o u)->H' a=some (.cL o u)
section
variable{κ:Str->Addr->Prop}{α α' HZ:List Addr}{Z Z' Pe:Addr->Prop}{Ω au:aA}{H H' Pf:Hp}
theorem bD.refl(h:∀a∈α,H a≠none):bD α Z H α Z H:=⟨λ_ _ e=>e,λ_ h=>h,λ_ h=>.inl h,λ_ h=>.inl h,λ_ _ e _=>e,h,λ_ _ _ e=>e⟩
theorem bc.has(S:bc κ α Z Ω H):∀a∈α,H a≠none:=λa b=>by
 obtain⟨n,d⟩:=List.mem_iff_getElem?.mp b;obtain⟨c,_,h⟩:=S.vz.Fj d;exact h.some
theorem bD.none(g:bD α Z H α' Z' H'){a:Addr}(h:H' a=none):H a=none:=by
 cases q:H a with
 |none=>rfl
 |some o=>
  by_cases b:a∈α
  .exact absurd h (g.has a b)
  .rw[g.frm a o q b]at h;cases h
theorem bD.mem(g:bD α Z H α' Z' H'){a:Addr}(h:a∈α):a∈α':=by
 obtain⟨n,b⟩:=List.mem_iff_getElem?.mp h;exact List.mem_of_getElem? (g.pre n a b)
theorem bD.trans(g:bD α Z H α' Z' H')(b:bD α' Z' H' HZ Pe Pf):bD α Z H HZ Pe Pf where
 pre:=λn a e=>b.pre n a (g.pre n a e)
 sub:=λa h=>b.sub a (g.sub a h)
 new:=λa h=>by
  rcases b.new a h with h|h|⟨c,i,f⟩
  .rcases g.new a h with h|h|⟨c,i,f⟩
   .exact .inl h
   .exact .inr (.inl h)
   .refine .inr (.inr ⟨λq=>?_,i,f⟩)
    rcases b.wK a q with q|q
    .exact c q
    .rw[g.frm a _ f λz=>c (g.mem z)]at q;cases q
  .exact .inr (.inl (g.none h))
  .cases q:H a with
   |none=>exact .inr (.inl rfl)
   |some o=>
    have:=g.frm a o q λz=>c (b.mem (g.mem z))
    grind
 wK:=λa h=>by
  rcases b.wK a h with h|h
  .exact g.wK a h
  .exact .inr (g.none h)
 frm:=λa o e d=>b.frm a o (g.frm a o e d) λh=>by
  rcases g.wK a h with h|h
  .exact d h
  grind
 has:=λa d=>by
  obtain⟨n,j⟩:=List.mem_iff_getElem?.mp d;exact b.has a (List.mem_of_getElem? (g.pre n a j))
 cL:=λa o u e=>b.cL a o u (g.cL a o u e)
theorem bc.cS(S:bc κ α Z Ω H)(g:bD α Z H α' Z' H'){d:D}{v:V}(h:av α Z H d v):av α' Z' H' d v:=
 h.mono g.pre (λa o z e=>g.frm a o e λb=>S.sep a b z) g.sub
theorem bc.kW(S:bc κ α Z Ω H)(g:bD α Z H α' Z' H'){ds:List D}{vs:List V}(h:aD (av α Z H) ds vs):aD (av α' Z' H') ds vs:=h.imp λ_ _ q=>S.cS g q
theorem bc.cell(S:bc κ α Z Ω H){n:Nat}{c:Cell}(e:Ω[n]?=some c):∃a,α[n]?=some a/\fb κ (av α Z H) H a c:=S.vz.get e
theorem bc.len(S:bc κ α Z Ω H):α.length=Ω.length:=S.vz.length
theorem bc.tT(S:bc κ α Z Ω H){p:Addr}{o:HO}(h:H p=none)(z:Prop)[Decidable z]:bc κ α (if z then Zp Z p else Z) Ω (upd H p o)/\bD α Z H α (if z then Zp Z p else Z) (upd H p o):=by
 have k:∀a∈α,a≠p:=λa f e=>S.has a f (e▸h)
 have j:∀a,Z a->a≠p:=λa i e=>S.dom a i (e▸h)
 have l:∀a,Z a->(if z then Zp Z p else Z) a:=λa f=>by
  split
  .exact .inl f
  .exact f
 have g:bD α Z H α _ (upd H p o):=⟨λ_ _ e=>e,l,λa f=>by
   split at f
   .rcases f with f|rfl
    .exact .inl f
    grind
   grind,by grind,λa u e _=>by rw[ao (aP e h)];exact e,λa f=>by rw[ao (k a f)];exact S.has a f,λa m u e=>by rw[ao (aP e h)];exact e⟩
 refine⟨⟨S.jT,?_,λa f i=>?_,λa f=>?_⟩,g⟩
 .refine S.vz.imp λc a n=>?_
  refine n.imp (λd v r=>S.cS g r) (λu e=>?_) λb m q e=>?_
  .rw[ao (aP e h)];exact e
  .rw[ao (aP e h)];exact e
 .split at i
  .rcases i with i|rfl
   .exact S.sep a f i
   grind
  .exact S.sep a f i
 .split at f
  .rcases f with f|rfl
   .rw[ao (j a f)];exact S.dom a f
   .rw[aG];simp
  .rw[ao (j a f)];exact S.dom a f
theorem bc.laid(S:bc κ α Z Ω H){p:Addr}{o:HO}{c:Cell}(h:H p=none)(f:∀R:D->V->Prop,(∀d v,av α Z H d v->R d v)->fb κ R (upd H p o) p c):bc κ (α++[p]) Z (Ω++[c]) (upd H p o)/\bD α Z H (α++[p]) Z (upd H p o):=by
 have i:∀a∈α,a≠p:=λa ha e=>S.has a ha (e▸h)
 have j:∀a,Z a->a≠p:=λa k e=>S.dom a k (e▸h)
 have g:bD α Z H (α++[p]) Z (upd H p o):=⟨λn a e=>by rw[List.getElem?_append_left (List.getElem?_eq_some_iff.mp e).1];exact e,λ_ h=>h,λ_ h=>.inl h,by grind,λa u e _=>by rw[ao (aP e h)];exact e,λa ha=>by rw[ao (i a ha)];exact S.has a ha,λa l u e=>by rw[ao (aP e h)];exact e⟩
 refine⟨⟨?_,?_,λa ha k=>?_,λa ha=>by rw[ao (j a ha)];exact S.dom a ha⟩,g⟩
 .refine List.nodup_append.mpr ⟨S.jT,by simp,λa ha b m=>?_⟩
  simp_all
 .refine aD.append (S.vz.imp λc a f=>?_) (.one (f _ λd v r=>S.cS g r))
  refine f.imp (λd v r=>S.cS g r) (λu e=>?_) λb l q e=>?_
  .rw[ao (aP e h)];exact e
  .rw[ao (aP e h)];exact e
 .rcases List.mem_append.mp ha with ha|ha
  .exact S.sep a ha k
  simp_all
theorem bc.put(S:bc κ α Z Ω H){n:Nat}{p:Addr}{o:HO}{c:Cell}(C:α[n]?=some p)(s:∀o u,H p≠some (.cL o u))(G:∀R:D->V->Prop,(∀d v,av α Z H d v->R d v)->fb κ R (upd H p o) p c):bc κ α Z (Ω.set n c) (upd H p o)/\bD α Z H α Z (upd H p o):=by
 have g:bD α Z H α Z (upd H p o):=⟨λn a e=>e,λ_ h=>h,λ_ h=>.inl h,λa k=>.inl k,λa u e k=>by rw[ao (λ(q:a=p)=>k (by rw[q];exact(List.mem_of_getElem? C)))];exact e,λa k=>by
   by_cases q:a=p
   .subst q;rw[aG];simp
   .rw[ao q];exact S.has a k,λa l u e=>by rw[ao (λq=>s l u (by rw[←q];exact e))];exact e⟩
 refine⟨⟨S.jT,?_,S.sep,λa k=>?_⟩,g⟩
 .have w:∀{j:List Cell}{f:List Addr}{n:Nat},f.Nodup->aD (λc a=>fb κ (av α Z H) H a c) j f->f[n]?=some p->aD (λc a=>fb κ (av α Z (upd H p o)) (upd H p o) a c) (j.set n c) f:=by
   intro j f n x y
   induction y generalizing n with
   |nil=>simp
   |@cons J z j f r t A=>
    intro e;have i:=List.nodup_cons.mp x;cases n with
    |zero=>
     simp at e;subst e;refine .cons (G _ λd v r=>S.cS g r) (aD.imp (λ_ _ q=>q) ?_)
     have:∀{j:List Cell}{f:List Addr},z∉f->aD (λc a=>fb κ (av α Z H) H a c) j f->aD (λc a=>fb κ (av α Z (upd H z o)) (upd H z o) a c) j f:=by
      intro j f m y
      induction y with
      |nil=>exact .nil
      |@cons K L j f r t A=>
       refine .cons (r.imp (λd v q=>S.cS g q) (λu e=>?_) λb l B e=>?_) (A λq=>m (List.mem_cons_of_mem _ q))
       .rw[ao (λq=>m (by rw[q];simp))];exact e
       .rw[ao (λq=>s l B (by rw[←q];exact e))];exact e
     exact this i.1 t
    |succ n=>
     have E:=by simpa using e
     refine .cons (r.imp (λd v q=>S.cS g q) (λu I=>?_) λb l B F=>?_) (A i.2 E)
     .rw[ao (λq=>i.1 (by rw[q];exact List.mem_of_getElem? E))];exact I
     .rw[ao (λq=>s l B (by rw[←q];exact F))];exact F
  exact w S.jT S.vz C
 .by_cases q:a=p
  .subst q;rw[aG];simp
  .rw[ao q];exact S.dom a k
end
end Mir
namespace Mir
open PySem PySem.Spec PyProof.Rows L2
variable [aw]
abbrev eQ:=D->aA->List Addr->(Addr->Prop)->Hp->Prop
def ck(κ:Str->Addr->Prop)(Φ:eQ)(f:List Addr)(Z:Addr->Prop)(H:Hp)(r:ax D)(Q:VK):Prop:=match r with
 |.ok d b=>∀v c a e,bD f Z H a e c->bc κ a e b c->av a e c d v->Q v c
 |.exc x b=>∀c a e,bD f Z H a e c->bc κ a e b c->Φ x b a e c
 |.bad=>False
structure b7(κ:Str->Addr->Prop)(cm:List Addr)(Z0:Addr->Prop)(H0:Hp)(α:List Addr)(Z:Addr->Prop)(Ω:aA)(ρ:aK)(σ:L2.St)(H:Hp):Prop where
 st:bc κ α Z Ω H
 gr:bD cm Z0 H0 α Z H
 len:σ.length=ρ.length
 val:∀(i:Nat) (d:D),ρ[i]?=some (some d)->∃v,σ[i]?=some (some v)/\av α Z H d v
abbrev EM:=aK->aA->ax D
noncomputable def tO(κ:Str->Addr->Prop)(Φ:eQ)(cm:List Addr)(Z0:Addr->Prop)(H0:Hp)(m:EM)(ρ:aK)(Ω:aA):TE:=λb H Q=>
 ∃a Z,b7 κ cm Z0 H0 a Z Ω ρ b H/\ck κ Φ a Z H (m ρ Ω) Q
def bh(X:Cx)(κ:Str->Addr->Prop)(Φ:eQ)(e:Expr)(m:EM):Prop:=∀a b c d f,PE X e (tO κ Φ a b c m d f)
section
variable{κ:Str->Addr->Prop}{Φ:eQ}{α α' cm α1:List Addr}{Z Z' Z0 Z1:Addr->Prop}{Ω au:aA}{H H' H0 H1:Hp}{ρ:aK}{σ:L2.St}{Q Q':VK}{r:ax D}
theorem ck.from(g:bD α Z H α1 Z1 H1)(h:ck κ Φ α Z H r Q):ck κ Φ α1 Z1 H1 r Q:=by
 cases r with
 |ok d a=>exact λv b c e f=>h v b _ e (g.trans f)
 |exc x a=>exact λb c e f=>h b _ e (g.trans f)
 |bad=>exact h
theorem ck.use{f:D->aA->ax D}(h:ck κ Φ α Z H (r.bind f) Q)(k:∀d a,r=.ok d a->∀v c b e,bD α Z H b e c->bc κ b e a c->av b e c d v->ck κ Φ b e c (f d a) Q->Q' v c):ck κ Φ α Z H r Q':=by
 cases r with
 |ok d a=>exact λv c b e g s q=>k d _ rfl v c _ e g s q (ck.from g h)
 |exc x a=>exact h
 |bad=>exact h
theorem ck.ret{d:D}{v:V}(S:bc κ α Z Ω H)(q:av α Z H d v)(h:ck κ Φ α Z H (.ok d Ω) Q):Q v H:=h v H α Z (bD.refl S.has) S q
theorem b7.grow(S:b7 κ cm Z0 H0 α Z Ω ρ σ H)(g:bD α Z H α' Z' H')(s:bc κ α' Z' au H'):b7 κ cm Z0 H0 α' Z' au ρ σ H':=
 ⟨s,S.gr.trans g,S.len,λi d e=>let ⟨v,a,b⟩:=S.val i d e;⟨v,a,S.st.cS g b⟩⟩
theorem aR{d:D}{v:V}(h:fk d=some v):av α Z H d v:=by
 cases d<;>simp only[fk]at h<;>first|cases h;simp only[av]|cases h
theorem tU{d:D}(h:eV d=true):∃v,fk d=some v:=by
 cases d<;>first|exact⟨_,rfl⟩|cases h
theorem dn{d:D}{v w:V}(h:fk d=some w)(r:Rep Z H d v):v=w:=by
 cases d<;>simp only[fk]at h<;>first | (cases h;simpa only [Rep]using r)|cases h
noncomputable def bC{a b:Type}(f:a->Option b):List a->Option (List b)
 |[]=>some []
 |x::xs=>match f x,bC f xs with
  |some y,some ys=>some (y::ys)
  |_,_=>none
def fN(Ω:aA):Nat->D->Option D
 |_,.non=>some .non
 |_,.bl b=>some (.bl b)
 |_,.int i=>some (.int i)
 |_,.str x=>some (.str x)
 |0,_=>none
 |n+1,.lst ds=>(bC (fN Ω n) ds).map .lst
 |n+1,.tup ds=>(bC (fN Ω n) ds).map .tup
 |n+1,.ref k=>match Ω[k]? with
  |some (.lst ds)=>(bC (fN Ω n) ds).map .lst
  |_=>none
 |_+1,.dct _ _=>none
def Bt(b:List Addr)(Z:Addr->Prop):Addr->Prop:=λa=>Z a\/a∈b
theorem eK{f:D->Option D}{R:D->V->Prop}{S:D->V->Prop}(c:∀d b v,f d=some b->R d v->S b v):∀{ds a:List D}{vs:List V},bC f ds=some a->aD R ds vs->aD S a vs
 |[],a,vs,h,r=>by cases h;rw[r.nil_inv];exact .nil
 |d::ds,a,vs,h,r=>by
  simp only[bC]at h;split at h
  .rename_i y ys h1 h2
   cases h;obtain⟨v,e,rfl,i,g⟩:=r.cons_inv;exact .cons (by grind) (eK c h2 g)
  .cases h
theorem gj:∀{ds:List D}{vs:List V},aD (Rep Z H) ds vs->aW Z H ds vs
 |_,_,.nil=>.nil
 |_,_,.cons r t=>.cons r (gj t)
theorem ka(S:bc κ α Z Ω H):∀(n:Nat) {d b:D}{v:V},fN Ω n d=some b->av α Z H d v->Rep (Bt α Z) H b v:=by
 intro n
 induction n with
 |zero=>
  intro d b v h r;cases d<;>simp only[fN]at h<;>first | (cases h;simpa only [Rep,av]using r)|cases h
 |succ n i=>
  intro d b v h r;cases d with
  |lst m=>
   obtain⟨o,c,rfl⟩:=Option.map_eq_some_iff.mp h;obtain⟨a,e,rfl,j,l,f⟩:=r;exact⟨a,e,rfl,.inl j,l,gj (eK (S:=Rep _ H) (λd b v q r=>i q r) c (cy.mp f))⟩
  |tup m=>
   obtain⟨o,c,rfl⟩:=Option.map_eq_some_iff.mp h;obtain⟨a,e,rfl,j,l,f⟩:=r;exact⟨a,e,rfl,.inl j,.inl l,gj (eK (S:=Rep _ H) (λd b v q r=>i q r) c (cy.mp f))⟩
  |ref k=>
   simp only[fN]at h;split at h
   .rename_i m p
    obtain⟨o,c,rfl⟩:=Option.map_eq_some_iff.mp h;obtain⟨a,s,e,t,f⟩:=S.cell p;obtain⟨u,g,rfl⟩:=r;rw[s]at g;cases g;exact⟨a,e,rfl,.inr (by grind),.inl t,gj (eK (S:=Rep _ H) (λd b v q r=>i q r) c f)⟩
   .cases h
  |dct _ _=>cases h
  |_=>simp only[fN]at h;cases h;simpa only [Rep,av]using r
theorem dc(S:bc κ α Z Ω H):∀a,Bt α Z a->H a≠none:=λa h=>h.elim (S.dom a) (S.has a)
theorem bc.same(S:bc κ α Z Ω H)(h:iA H H'):bc κ α Z Ω H'/\bD α Z H α Z H':=by
 have g:bD α Z H α Z H':=⟨λ_ _ e=>e,λ_ z=>z,λ_ z=>.inl z,λ_ z=>.inl z,λa o e _=>h a o e,λa f=>by
  cases q:H a with
  |none=>exact absurd q (S.has a f)
  |some o=>rw[h a o q];simp,λa o u e=>h a _ e⟩
 refine⟨⟨S.jT,S.vz.imp λc a i=>i.imp (λd v r=>S.cS g r) (λo e=>h a o e) λb o u e=>h b _ e,S.sep,λa z=>?_⟩,g⟩
 cases q:H a with
 |none=>exact absurd q (S.dom a z)
 |some o=>rw[h a o q];simp
theorem bc.adopt(S:bc κ α Z Ω H)(h:iA H H'){p:Addr}(k:H p=none){c:Cell}(g:∀R:D->V->Prop,(∀d v,av α Z H' d v->R d v)->fb κ R H' p c):bc κ (α++[p]) Z (Ω++[c]) H'/\bD α Z H (α++[p]) Z H':=by
 obtain⟨l,i⟩:=S.same h;have m:∀a∈α,a≠p:=λa ha e=>S.has a ha (e▸k)
 have o:∀a,Z a->a≠p:=λa j e=>S.dom a j (e▸k)
 have f:∀(n:Nat) (a:Addr),α[n]?=some a->(α++[p])[n]?=some a:=λn a e=>by rwa[List.getElem?_append_left (List.getElem?_eq_some_iff.mp e).1]
 have mono:∀d v,av α Z H' d v->av _ Z H' d v:=λd v r=>r.mono f (λ_ _ _ e=>e) λ_ z=>z
 refine⟨⟨?_,?_,λa ha j=>?_,l.dom⟩,⟨f,λ_ z=>z,λ_ z=>.inl z,λa ha=>?_,i.frm,i.has,i.cL⟩⟩
 .refine List.nodup_append.mpr ⟨S.jT,by simp,λa ha b q=>?_⟩
  simp_all
 .exact aD.append (l.vz.imp λc a g=>g.imp mono (λ_ e=>e) λ_ _ _ e=>e) (.one (g _ mono))
 .rcases List.mem_append.mp ha with ha|ha
  .exact S.sep a ha j
  simp_all
 grind
noncomputable def gk(Ω:aA)(c:Cell):ax D:=.ok (.ref Ω.length) (Ω++[c])
def fX(Ω:aA):Out Rs->ax D
 |.ok (own,d)=>if eV d then .ok d Ω else match own,d with
  |true,.lst ds=>if ds.all eV then gk Ω (.lst ds)else .bad
  |_,_=>.bad
 |_=>.bad
theorem fx(S:bc κ α Z Ω H)(p:Addr):av (α++[p]) Z H' (.ref Ω.length) (.ref p):=by
 exact⟨p,by rw[←S.len];simp,rfl⟩
theorem mW:∀{ds:List D}{vs:List V},ds.all eV=true->aW Z1 H1 ds vs->aD (av α Z H) ds vs
 |[],vs,_,r=>by rw[r.nil_inv];exact .nil
 |d::ds,vs,h,r=>by
  obtain⟨v,b,rfl,c,e⟩:=r.cons_inv;simp only[List.all_cons,Bool.and_eq_true]at h;obtain⟨w,a⟩:=tU h.1;obtain rfl:=dn a c;exact .cons (aR a) (mW h.2 e)
theorem iD{bw:Bool}{r:Out Rs}(S:bc κ α Z Ω H)(h:ck κ Φ α Z H (fX Ω r) Q):∃e d,r=.ok (e,d)/\∀v b m f,eF m H f b->ey bw e f H b d v->Q v b:=by
 cases r with
 |ok q=>
  obtain⟨e,d⟩:=q;refine⟨_,d,rfl,λv b m f g q=>?_⟩
  simp only[fX]at h;split at h
  .rename_i o
   obtain⟨w,i⟩:=tU o
   have p:=by
    have n:=q.nw;cases d with
    |non=>exact dn (Z:=f) (H:=b) i n
    |bl _=>exact dn (Z:=f) (H:=b) i n
    |int _=>exact dn (Z:=f) (H:=b) i n
    |str _=>exact dn (Z:=f) (H:=b) i n
    |_=>cases o
   subst p;obtain⟨j,k⟩:=S.same g.same;exact h v b α Z k j (aR i)
  .split at h
   .rename_i s t
    split at h
    .rename_i l
     obtain⟨a,u,x,y,rfl,z,C,A,B⟩:=q;cases y;obtain⟨j,k⟩:=S.adopt (c:=.lst s) g.same z (λR hR=>⟨u,A,(mW l B).imp hR⟩)
     exact h _ b _ Z k j (fx S a)
    .exact h.elim
   .exact h.elim
 |exc c D=>exact h.elim
 |bad=>exact h.elim
end
def m1(f:D->aA->ax D)(a:EM):EM:=λb c=>(a b c).bind f
def m2(f:D->D->aA->ax D)(d e:EM):EM:=λc g=>(d c g).bind λx a=>(e c a).bind λy b=>f x y b
noncomputable def kb(a b:ax D):ax D:=match a with
 |.bad=>b
 |r=>r
def Fl(f g:D->aA->ax D):D->aA->ax D:=λx a=>kb (f x a) (g x a)
def fY(f g:D->D->aA->ax D):D->D->aA->ax D:=λx y a=>kb (f x y a) (g x y a)
def n_(f g:EM):EM:=λa b=>kb (f a b) (g a b)
def yj(f:D->Out Rs):D->aA->ax D:=λx a=>match fN a 8 x with
 |some b=>fX a (f b)
 |none=>.bad
def fZ(f:D->D->Out Rs):D->D->aA->ax D:=λx y a=>match fN a 8 x,fN a 8 y with
 |some b,some c=>fX a (f b c)
 |_,_=>.bad
def gW(Ω:aA):D->Option Bool
 |.ref k=>match Ω[k]? with
  |some (.lst ds)=>some (!ds.isEmpty)
  |some (.dK kvs)=>some (!kvs.isEmpty)
  |_=>none
 |d=>jR d
def dj:ax D->ax Bool
 |.ok d Ω=>match gW Ω d with
  |some b=>.ok b Ω
  |none=>.bad
 |.exc x Ω=>.exc x Ω
 |.bad=>.bad
def pf(κ:Str->Addr->Prop)(Φ:eQ)(f:List Addr)(Z:Addr->Prop)(H:Hp)(r:ax Bool)(Q:Bool->Hp->Prop):Prop:=match r with
 |.ok b c=>∀d a e,bD f Z H a e d->bc κ a e c d->Q b d
 |.exc x c=>∀d a e,bD f Z H a e d->bc κ a e c d->Φ x c a e d
 |.bad=>False
def ML(κ:Str->Addr->Prop)(Φ:eQ)(cm:List Addr)(Z0:Addr->Prop)(H0:Hp)(m:EM)(ρ:aK)(Ω:aA):TT:=λb H Q=>∃a Z,b7 κ cm Z0 H0 a Z Ω ρ b H/\pf κ Φ a Z H (dj (m ρ Ω)) Q
def gH(X:Cx)(κ:Str->Addr->Prop)(Φ:eQ)(e:Expr)(m:EM):Prop:=∀a b c d f,PT X e (ML κ Φ a b c m d f)
abbrev AM:=aK->aA->ax (List D)
def ph(κ:Str->Addr->Prop)(Φ:eQ)(e:List Addr)(Z:Addr->Prop)(H:Hp)(r:ax (List D))(Q:List V->Hp->Prop):Prop:=match r with
 |.ok g b=>∀f c a d,bD e Z H a d c->bc κ a d b c->aD (av a d c) g f->Q f c
 |.exc x b=>∀c a d,bD e Z H a d c->bc κ a d b c->Φ x b a d c
 |.bad=>False
noncomputable def Qu(κ:Str->Addr->Prop)(Φ:eQ)(cm:List Addr)(Z0:Addr->Prop)(H0:Hp)(m:AM)(ρ:aK)(Ω:aA):TA:=λb H Q=>∃a Z,b7 κ cm Z0 H0 a Z Ω ρ b H/\ph κ Φ a Z H (m ρ Ω) Q
def lY(X:Cx)(κ:Str->Addr->Prop)(Φ:eQ)(b:List Expr)(m:AM):Prop:=∀a c d e f,PA X b (Qu κ Φ a c d m e f)
noncomputable def aj:AM:=λ_ a=>.ok [] a
def ae(a:EM)(as:AM):AM:=λd e=>(a d e).bind λx b=>(as d b).bind λf c=>.ok (x::f) c
def mN(f:List D->aA->ax D)(as:AM):EM:=λa b=>(as a b).bind f
section
variable{X:Cx}{κ:Str->Addr->Prop}{Φ:eQ}{α α' cm α1:List Addr}{Z Z' Z0 Z1:Addr->Prop}{Ω au:aA}{H H' H0 H1:Hp}{ρ:aK}{σ:L2.St}{Q Q':VK}{r:ax D}{a b e:Expr}{es:List Expr}{ma mb mc m:EM}{as:AM}{pos:Pos}
theorem ph.from{r:ax (List D)}{Q:List V->Hp->Prop}(g:bD α Z H α1 Z1 H1)(h:ph κ Φ α Z H r Q):ph κ Φ α1 Z1 H1 r Q:=by
 cases r with
 |ok d a=>exact λv b c e f=>h v b _ e (g.trans f)
 |exc x a=>exact λb c e f=>h b _ e (g.trans f)
 |bad=>exact h
theorem pf.from{r:ax Bool}{Q:Bool->Hp->Prop}(g:bD α Z H α1 Z1 H1)(h:pf κ Φ α Z H r Q):pf κ Φ α1 Z1 H1 r Q:=by
 cases r with
 |ok d a=>exact λb c e f=>h b _ e (g.trans f)
 |exc x a=>exact λb c e f=>h b _ e (g.trans f)
 |bad=>exact h
theorem ph.use{r:ax (List D)}{f:List D->aA->ax D}{i:List V->Hp->Prop}(h:ck κ Φ α Z H (r.bind f) Q)(k:∀ds a,r=.ok ds a->∀vs c b e,bD α Z H b e c->bc κ b e a c->aD (av b e c) ds vs->ck κ Φ b e c (f ds a) Q->i vs c):ph κ Φ α Z H r i:=by
 cases r with
 |ok d a=>exact λv c b e g s q=>k d _ rfl v c _ e g s q (ck.from g h)
 |exc x a=>exact h
 |bad=>exact h
theorem PE.or{t u:TE}(h:PE X e t)(a:PE X e u):PE X e (λσ H Q=>t σ H Q\/u σ H Q):=λpins s σ H Q I q=>q.elim (h _ s σ H Q I) (a _ s σ H Q I)
theorem PT.or{t u:TT}(h:PT X e t)(a:PT X e u):PT X e (λσ H Q=>t σ H Q\/u σ H Q):=λpins s σ H Q I q=>q.elim (h _ s σ H Q I) (a _ s σ H Q I)
theorem mX{a b:ax D}:kb a b=a\/(a=.bad/\kb a b=b):=by cases a<;>simp[kb]
theorem bh.alt(h:bh X κ Φ e ma)(k:bh X κ Φ e mb):bh X κ Φ e (n_ ma mb):=by
 intro b f i c d;refine PE.imp (PE.or (h b f i c d) (k b f i c d)) ?_;rintro l H Q ⟨j,Z,S,g⟩;rcases mX (a:=ma c d)with q|⟨_,q⟩
 .exact .inl ⟨j,Z,S,by rw[←q];exact g⟩
 .exact .inr ⟨j,Z,S,by rw[←q];exact g⟩
theorem gH.alt(h:gH X κ Φ e ma)(k:gH X κ Φ e mb):gH X κ Φ e (n_ ma mb):=by
 intro b f i c d;refine PT.imp (PT.or (h b f i c d) (k b f i c d)) ?_;rintro l H Q ⟨j,Z,S,g⟩;rcases mX (a:=ma c d)with q|⟨_,q⟩
 .exact .inl ⟨j,Z,S,by rw[←q];exact g⟩
 .exact .inr ⟨j,Z,S,by rw[←q];exact g⟩
theorem ic{f g:D->D->aA->ax D}:m2 (fY f g) ma mb=n_ (m2 f ma mb) (m2 g ma mb):=by
 funext b a
 simp only[m2,n_];cases ma b a with
 |ok x c=>
  simp only[ax.bind];cases mb b _ with
  |ok y d=>rfl
  |exc x a=>rfl
  |bad=>rfl
 |exc x a=>rfl
 |bad=>rfl
theorem Fm{f g:D->aA->ax D}:m1 (Fl f g) ma=n_ (m1 f ma) (m1 g ma):=by
 funext b a
 simp only[m1,n_];cases ma b a with
 |ok x c=>rfl
 |exc x a=>rfl
 |bad=>rfl
theorem kc{f:D->aA->ax D}{r:V->Hp->VK->Prop}(h:∀l,PE X a l->PE X e λσ H Q=>l σ H λx c=>r x c Q)(n:bh X κ Φ a ma)
  (o:∀m x b Z Ω H Q,bc κ b Z Ω H->av b Z H m x->ck κ Φ b Z H (f m Ω) Q->r x H Q):bh X κ Φ e (m1 f ma):=by
 intro i p q s Ω;refine PE.imp (h _ (n i p q s Ω)) ?_;rintro σ H Q ⟨b,Z,S,g⟩;refine⟨b,Z,S,g.use λd j _ v c k t z u w y=>o d v k t j c Q u w y⟩
theorem dY{f:D->D->aA->ax D}{r:R2}(h:∀p tb,PE X a p->PE X b tb->PE X e (EI r p tb))(n:bh X κ Φ a ma)(o:bh X κ Φ b mb)
  (C:∀s t x y i Z Ω H Q,bc κ i Z Ω H->av i Z H s x->av i Z H t y->ck κ Φ i Z H (f s t Ω) Q->r x y H Q):bh X κ Φ e (m2 f ma mb):=by
 intro c k l j Ω;rcases q:ma j Ω with ⟨d,m⟩|⟨x,m⟩|_
 .refine PE.imp (h _ _ (n c k l j Ω) (o c k l j m)) ?_
  rintro u H Q ⟨i,Z,S,g⟩;refine⟨i,Z,S,ck.use g λU z A v V E F G B I J=>?_⟩
  rw[q]at A;cases A;refine⟨_,F,S.grow G B,J.use λd2 K _ w L M N O P R T=>?_⟩
  exact C d d2 v w _ N _ L Q P (B.cS O I) R T
 .refine PE.imp (h _ _ (n c k l j Ω) (o c k l j Ω)) ?_
  rintro u H Q ⟨i,Z,S,g⟩;refine⟨i,Z,S,?_⟩;simp only[m2,q,ax.bind]at g ⊢;exact g
 .refine PE.imp (h _ _ (n c k l j Ω) (o c k l j Ω)) ?_
  rintro u H Q ⟨i,Z,S,g⟩;simp only[m2,q,ax.bind]at g;exact g.elim
theorem pZ{bw:Bool}{f:D->Out Rs}{g:D}{x:V}(S:bc κ α Z Ω H)(j:av α Z H g x)(h:ck κ Φ α Z H (yj f g Ω) Q) :
  ∃d a b,Now (Bt α Z) H d x/\f d=.ok (a,b)/\∀v c i,eF (Bt α Z) H i c->ey bw a i H c b v->Q v c:=by
 unfold yj at h;split at h
 .rename_i d l
  obtain⟨a,b,e,k⟩:=iD (bw:=bw) S h;exact⟨d,_,b,(ka S 8 l j).now,e,by grind⟩
 .exact h.elim
theorem gm{bw:Bool}{f:D->D->Out Rs}{g i:D}{x y:V}(S:bc κ α Z Ω H)(l:av α Z H g x)(m:av α Z H i y)(h:ck κ Φ α Z H (fZ f g i Ω) Q) :
  ∃d e a b,Now (Bt α Z) H d x/\Now (Bt α Z) H e y/\f d e=.ok (a,b)/\∀v c j,eF (Bt α Z) H j c->ey bw a j H c b v->Q v c:=by
 unfold fZ at h;split at h
 .rename_i d e n o
  obtain⟨a,b,p,k⟩:=iD (bw:=bw) S h;exact⟨d,e,_,b,(ka S 8 n l).now,(ka S 8 o m).now,p,by grind⟩
 .exact h.elim
theorem oa{i:Nat}{x:Str}(c:X.N[i]?=some x)(e:nH X.env.scope x)(a:(x==("__debug__":Str))=false)(b:(x==("__classdict__":Str))=false):bh X κ Φ (.Name x pos) (λρ Ω=>match ρ[i]? with|some (some d)=>.ok d Ω|_=>.bad):=by
 intro f k l ρ Ω;refine PE.imp (hV c e a b) ?_;rintro m H Q ⟨n,Z,S,g⟩;dsimp only at g;split at g
 .rename_i d a
  obtain⟨v,h,j⟩:=S.val i d a;exact⟨v,h,ck.ret S.st j g⟩
 .exact g.elim
theorem gI{d:D}{v:V}(h:PE X e (tC v))(a:fk d=some v):bh X κ Φ e (λ_ Ω=>.ok d Ω):=by
 intro b c f i Ω;refine PE.imp h ?_;rintro j H Q ⟨k,Z,S,g⟩;exact ck.ret S.st (aR a) g
noncomputable def cT(Ω:aA):D->Option (List D)
 |.ref k=>match Ω[k]? with
  |some (.lst ds)=>some ds
  |_=>none
 |.lst ds=>some ds
 |_=>none
theorem bf{x:D}{v:V}{ds:List D}(S:bc κ α Z Ω H)(r:av α Z H x v)(h:cT Ω x=some ds):∃a vs,v=.ref a/\Rd H a (.lst vs)/\aD (av α Z H) ds vs:=by
 cases x with
 |ref k=>
  simp only[cT]at h;split at h
  .rename_i e f
   cases h;obtain⟨a,g,rfl⟩:=r;obtain⟨i,b,vs,c,d⟩:=S.cell f;rw[g]at b;cases b;exact⟨a,vs,rfl,.inl c,d⟩
  .cases h
 |lst j=>
  cases h;obtain⟨a,vs,rfl,_,c,d⟩:=r;exact⟨a,vs,rfl,c,cy.mp d⟩
 |_=>cases h
theorem ez{x:V}{ds:List D}(r:av α Z H (.tup ds) x):∃a vs,x=.ref a/\Z a/\H a=some (.tup vs)/\aD (av α Z H) ds vs:=by
 obtain⟨a,vs,e,b,c,d⟩:=r;exact⟨a,vs,e,b,c,cy.mp d⟩
theorem dq{ds:List D}{vs:List V}(S:bc κ α Z Ω H)(r:aD (av α Z H) ds vs)(k:ck κ Φ α Z H (gk Ω (.lst ds)) Q):∀p,H p=none->Q (.ref p) (upd H p (.lst vs)):=λp a=>by
 obtain⟨b,d⟩:=S.laid (c:=.lst ds) a λR hR=>⟨vs,aG,r.imp hR⟩
 exact k _ _ _ Z d b (fx S p)
theorem p_{ds:List D}{vs:List V}(S:bc κ α Z Ω H)(r:aD (av α Z H) ds vs)(k:ck κ Φ α Z H (.ok (.tup ds) Ω) Q):∀p,H p=none->Q (.ref p) (upd H p (.tup vs)):=λp b=>by
 obtain⟨c,a⟩:=S.tT b True;refine k _ _ _ _ a c ?_;exact⟨p,vs,rfl,.inr rfl,aG,cy.mpr (S.kW a r)⟩
theorem ke:lY X κ Φ [] aj:=by
 intro a c d e f;refine PA.imp je ?_;rintro h H Q ⟨b,Z,S,g⟩;exact g [] H b Z (bD.refl S.st.has) S.st .nil
theorem iE(k:bh X κ Φ e ma)(l:lY X κ Φ es as)(m:starEach (e::es) X.env=(false,eval e X.env)::starEach es X.env):lY X κ Φ (e::es) (ae ma as):=by
 intro a c f b h;rcases q:ma b h with ⟨d,i⟩|⟨x,i⟩|_
 .refine PA.imp (dX (k a c f b h) (l a c f b i) m) ?_
  rintro p H Q ⟨j,Z,S,g⟩;refine⟨j,Z,S,?_⟩;simp only[ae,q,ax.bind]at g ⊢;intro v C u w r s y;refine⟨_,w,S.grow r s,?_⟩;have g:=ph.from r g
  rcases n:as b _ with ⟨D,o⟩|⟨x,o⟩|_
  .rw[n]at g
   intro E F z G t A B;exact g _ _ _ _ t A (.cons (s.cS t y) B)
  .rw[n]at g;exact g
  .rw[n]at g;exact g
 .refine PA.imp (dX (k a c f b h) (l a c f b h) m) ?_
  rintro p H Q ⟨j,Z,S,g⟩;refine⟨j,Z,S,?_⟩;simp only[ae,q,ax.bind]at g ⊢;exact g
 .refine PA.imp (dX (k a c f b h) (l a c f b h) m) ?_
  rintro p H Q ⟨j,Z,S,g⟩;simp only[ae,q,ax.bind]at g;exact g.elim
def cD(ds:List D)(Ω:aA):ax D:=if small ds.length then gk Ω (.lst ds)else .bad
def f7(ds:List D)(Ω:aA):ax D:=if small ds.length then .ok (.tup ds) Ω else .bad
theorem Bu(h:lY X κ Φ es as):bh X κ Φ (.List es pos) (mN cD as):=by
 intro b d e f i;refine PE.imp (EX (h b d e f i)) ?_;rintro o H Q ⟨j,Z,S,g⟩;refine⟨j,Z,S,ph.use g λp k _ q r l s t m c a=>?_⟩
 unfold cD at a;split at a
 .rename_i n
  exact⟨by rw[c.length];exact br n,dq m c a⟩
 .exact a.elim
theorem Bv{x1}(h:lY X κ Φ es as):bh X κ Φ (.Tuple es x1 pos) (mN f7 as):=by
 intro b d e f i;refine PE.imp (EW (h b d e f i)) ?_;rintro o H Q ⟨j,Z,S,g⟩;refine⟨j,Z,S,ph.use g λp k _ q r l s t m c a=>?_⟩
 unfold f7 at a;split at a
 .rename_i n
  exact⟨by rw[c.length];exact br n,p_ m c a⟩
 .exact a.elim
def kX(x y:D)(Ω:aA):ax D:=match cT Ω x,cT Ω y with
 |some a,some b=>if small (a.length+b.length)then gk Ω (.lst (a++b))else .bad
 |_,_=>.bad
def aN(op:Operator):D->D->aA->ax D:=match op with
 |.Add=>fY kX (fZ (eS .Add))
 |op=>fZ (eS op)
theorem Bw{op:Operator}(j:bh X κ Φ a ma)(m:bh X κ Φ b mb):bh X κ Φ (.BinOp a op b pos) (m2 (aN op) ma mb):=by
 have E:bh X κ Φ (.BinOp a op b pos) (m2 (fZ (eS op)) ma mb):=dY (r:=Bc op) (λq tb c f=>wW (rL op) c f) j m λs t x y u Z w H Q S h i g=>by
  obtain⟨d,e,z,N,A,B,D,k⟩:=gm (bw:=false) S h i g;exact Fb (bw:=false) A B (dc S) D k
 have C:op=.Add->bh X κ Φ (.BinOp a op b pos) (m2 kX ma mb):=λe=>by
  subst e;refine dY (r:=Bc .Add) (λq tb c f=>wW (rL .Add) c f) j m λs t x y u Z w H Q S h i g=>?_
  unfold kX at g;split at g
  .rename_i O P F G
   obtain⟨l,I,rfl,J,o⟩:=bf S h F;obtain⟨n,K,rfl,L,p⟩:=bf S i G;split at g
   .rename_i M
    exact .inr (.inr ⟨l,n,I,K,rfl,rfl,J,L,by rw[o.length,p.length];exact br M,dq S (o.append p) g⟩)
   .exact g.elim
  .exact g.elim
 cases op with
 |Add=>show bh X κ Φ _ (m2 (fY kX (fZ (eS .Add))) ma mb);rw[ic];exact(C rfl).alt E
 |_=>exact E
def og:D->aA->ax D:=yj λx=>match x with|.int i=>.ok (false,.int (-i))|_=>.bad
theorem Bx(c:bh X κ Φ a ma):bh X κ Φ (.UnaryOp .USub a pos) (m1 og ma):=
 kc (λj e=>Hq EU e) c λl x m Z n H Q S f g=>by
  obtain⟨d,h,o,i,b,k⟩:=pZ (bw:=false) S f g;split at b
  .cases a_ i
   cases b;exact⟨_,rfl,k _ H _ (eF.refl (dc S)) (.rep (fo rfl))⟩
  .cases b
end
noncomputable def bQ{κ a:Type}[DecidableEq κ](kvs:List (κ×a))(k:κ):Option a:=(kvs.find? λb=>decide (b.1=k)).map (·.2)
noncomputable def cK{κ b:Type}[DecidableEq κ](kvs:List (κ×b))(k:κ)(v:b):List (κ×b):=
 if (kvs.any λa=>decide (a.1=k))=true then kvs.map (λa=>if a.1=k then (a.1,v)else a)else kvs++[(k,v)]
section
variable{κ:Type}[DecidableEq κ]{R:D->V->Prop}
theorem j_.val{kvs:List (κ×D)}{a:List (κ×V)}(h:j_ R kvs a)(k:κ):(∀d,bQ kvs k=some d->∃v,ix a k=some v/\R d v)/\(bQ kvs k=none->ix a k=none):=by
 induction h with
 |nil=>exact⟨λd e=>(by cases e),λ_=>rfl⟩
 |@cons p q b g r t i=>
  obtain⟨c,j⟩:=r
  by_cases e:p.1=k
  .have f:bQ (p::b) k=some p.2:=by simp[bQ,List.find?_cons,e]
   rw[iy (c▸e)]
   grind
  .have f:bQ (p::b) k=bQ b k:=by simp[bQ,List.find?_cons,e]
   rwa[f,iz (λz=>e (c.trans z))]
theorem j_.any{kvs:List (κ×D)}{a:List (κ×V)}(h:j_ R kvs a)(k:κ):(a.any λb=>decide (b.1=k))=kvs.any λb=>decide (b.1=k):=by
 induction h with
 |nil=>rfl
 |@cons p q c d r t e=>simp_all
theorem j_.put{kvs:List (κ×D)}{a:List (κ×V)}(h:j_ R kvs a)(k:κ){d:D}{v:V}(r:R d v):j_ R (cK kvs k d) (putK a k v):=by
 unfold cK putK;rw[h.any];split
 .rename_i b
  clear b
  induction h with
  |nil=>exact .nil
  |@cons p q e f g t c=>
   refine .cons ?_ c
   grind
 .exact aD.append h (.one ⟨rfl,r⟩)
theorem j_.length{kvs:List (κ×D)}{a:List (κ×V)}(h:j_ R kvs a):a.length=kvs.length:=aD.length h
end
noncomputable def oh:D->Option Key
 |.int i=>some (.inl i)
 |.str x=>some (.inr x)
 |_=>none
def mY:D->Option (List Key)
 |.tup ds=>bC oh ds
 |_=>none
section
variable{X:Cx}{κ:Str->Addr->Prop}{Φ:eQ}{α α' cm α1:List Addr}{Z Z' Z0 Z1:Addr->Prop}{Ω au:aA}{H H' H0 H1:Hp}{ρ:aK}{σ:L2.St}{Q Q':VK}{r:ax D}{a b e:Expr}{es:List Expr}{ma mb mc m:EM}{as:AM}{pos:Pos}
theorem gp{d:D}{k:Key}{v:V}(h:oh d=some k)(r:av α Z H d v):v=kV k:=by
 cases d with
 |int i=>cases h;exact r
 |str i=>cases h;exact r
 |_=>cases h
theorem qa:∀{ds:List D}{a:List Key}{vs:List V},bC oh ds=some a->aD (av α Z H) ds vs->vs=a.map kV
 |[],a,vs,h,r=>by cases h;rw[r.nil_inv];rfl
 |d::ds,a,vs,h,r=>by
  simp only[bC]at h;split at h
  .rename_i y ys h1 h2
   cases h;obtain⟨v,b,rfl,c,e⟩:=r.cons_inv;rw[gp h1 c,qa h2 e];rfl
  .cases h
theorem jn{d:D}{a:List Key}{v:V}(h:mY d=some a)(r:av α Z H d v):∃b,v=.ref b/\H b=some (.tup (a.map kV)):=by
 cases d with
 |tup f=>
  obtain⟨b,g,rfl,_,c,e⟩:=ez r;rw[qa h e]at c;exact⟨b,rfl,c⟩
 |_=>cases h
def qb(Ω:aA)(x y:D):Option (Option D):=match x with
 |.ref k=>match Ω[k]? with
  |some (.dK a)=>(oh y).map (bQ a)
  |some (.dT a)=>(mY y).map (bQ a)
  |some (.dF a)=>(oh y).map (bQ a)
  |some (.dG a)=>(mY y).map (bQ a)
  |_=>none
 |_=>none
theorem qf{x y:D}{v w:V}{o:Option D}(S:bc κ α Z Ω H)(C:av α Z H x v)(q:av α Z H y w)(h:qb Ω x y=some o):∃a s,v=.ref a/\jg H a w s/\(∀d,o=some d->∃u,s=some u/\av α Z H d u)/\(o=none->s=none):=by
 cases x with
 |ref k=>
  simp only[qb]at h;obtain⟨a,r,rfl⟩:=C;split at h
  .rename_i g i
   obtain⟨f,j,rfl⟩:=Option.map_eq_some_iff.mp h;obtain⟨z,c,e,l,m⟩:=S.cell i;rw[r]at c;cases c
   obtain rfl:=gp j q;obtain⟨n,p⟩:=m.val f;exact⟨a,_,rfl,jg.k l,n,p⟩
  .rename_i g i
   obtain⟨f,j,rfl⟩:=Option.map_eq_some_iff.mp h;obtain⟨z,c,e,l,m⟩:=S.cell i;rw[r]at c;cases c
   obtain⟨b,rfl,A⟩:=jn j q;obtain⟨n,p⟩:=m.val f;exact⟨a,_,rfl,jg.t l A,n,p⟩
  .rename_i g i
   obtain⟨f,j,rfl⟩:=Option.map_eq_some_iff.mp h;obtain⟨z,c,B,e,l,m⟩:=S.cell i;rw[r]at c;cases c
   obtain rfl:=gp j q;obtain⟨n,p⟩:=m.val f;exact⟨a,_,rfl,.inl ⟨_,f,.inr ⟨B,l⟩,rfl,rfl⟩,n,p⟩
  .rename_i g i
   obtain⟨f,j,rfl⟩:=Option.map_eq_some_iff.mp h;obtain⟨z,c,B,e,l,m⟩:=S.cell i;rw[r]at c;cases c
   obtain⟨b,rfl,A⟩:=jn j q;obtain⟨n,p⟩:=m.val f;exact⟨a,_,rfl,.inr ⟨_,f,b,.inr ⟨B,l⟩,rfl,A,rfl⟩,n,p⟩
  .cases h
 |_=>cases h
def dI(op:CmpOp):D->D->aA->ax D:=fZ λx y=>do let r ←dP op x y;Out.ok (false,D.bl r)
def jo(neg:Bool)(y x:D)(Ω:aA):ax D:=match qb Ω x y with
 |some o=>.ok (.bl (if neg then !o.isSome else o.isSome)) Ω
 |none=>.bad
noncomputable def gq(neg:Bool)(x y:D)(Ω:aA):ax D:=match x,y with
 |.ref _,.non=>.ok (.bl neg) Ω
 |_,_=>.bad
def aQ(op:CmpOp):D->D->aA->ax D:=match op with
 |.In=>fY (dI .In) (jo false)
 |.NotIn=>fY (dI .NotIn) (jo true)
 |.Is=>fY (gq false) (dI .Is)
 |.IsNot=>fY (gq true) (dI .IsNot)
 |op=>dI op
theorem rX{o:Option D}{a:Option V}{R:D->V->Prop}(b:∀d,o=some d->∃u,a=some u/\R d u)(c:o=none->a=none):a.isSome=o.isSome:=by
 cases o with
 |none=>rw[c rfl];rfl
 |some d=>obtain⟨u,e,_⟩:=b d rfl;rw[e];rfl
theorem iF{f:D->D->aA->ax D}{r:R2}(h:∀C tb,PE X a C->PE X b tb->PT X e (DI (EI r C tb)))(o:bh X κ Φ a ma)(p:bh X κ Φ b mb)(s:∀x y Ω d au,f x y Ω=.ok d au->∃t,d=.bl t)
  (L:∀E F x y i Z Ω H Q,bc κ i Z Ω H->av i Z H E x->av i Z H F y->ck κ Φ i Z H (f E F Ω) Q->r x y H Q):gH X κ Φ e (m2 f ma mb):=by
 intro c k l j Ω;rcases q:ma j Ω with ⟨d,m⟩|⟨x,m⟩|_
 .refine PT.imp (h _ _ (o c k l j Ω) (p c k l j m)) ?_
  rintro G H Q ⟨i,Z,S,g⟩;refine⟨i,Z,S,?_⟩;simp only[m2,q,ax.bind]at g ⊢;intro v H1 M N I J O;refine⟨_,N,S.grow I J,?_⟩;have g:=pf.from I g
  rcases z:mb j _ with ⟨d2,A⟩|⟨x,A⟩|_
  .rw[z]at g
   intro w P R T K U V;refine L d d2 v w _ T _ P _ U (J.cS K O) V ?_;have g:=pf.from K g
   dsimp only[ax.bind]at g;rcases n:f d d2 _ with ⟨d3,B⟩|⟨x,B⟩|_
   .rw[n]at g
    obtain⟨t,rfl⟩:=s _ _ _ _ _ n;intro u Y a0 Z3 g3 s3 r3;exact⟨t,r3,g Y _ Z3 g3 s3⟩
   .rw[n]at g;exact g
   .rw[n]at g;exact g
  .rw[z]at g;exact g
  .rw[z]at g;exact g
 .refine PT.imp (h _ _ (o c k l j Ω) (p c k l j Ω)) ?_
  rintro G H Q ⟨i,Z,S,g⟩;refine⟨i,Z,S,?_⟩;simp only[m2,q,ax.bind,dj]at g ⊢;exact g
 .refine PT.imp (h _ _ (o c k l j Ω) (p c k l j Ω)) ?_
  rintro G H Q ⟨i,Z,S,g⟩;simp only[m2,q,ax.bind,dj]at g;exact g.elim
noncomputable def Fo(neg:Bool):R2:=λy x H Q=>∃a o,x=.ref a/\jg H a y o/\Q (.bl (if neg then !o.isSome else o.isSome)) H
theorem yk(b:X.A.units+1<cLine):hY X (compareOp .In) (Fo false):=by
 intro pins s f H x y u v Q I c d h;obtain⟨a,o,rfl,g,q⟩:=h;obtain rfl:v=Value.ref a:=d;exact MF b I g c λi e=>⟨.bl _,H,e,rfl,q⟩
theorem mZ(b:X.A.units+1<cLine):hY X (compareOp .NotIn) (Fo true):=by
 intro pins s f H x y u v Q I c d h;obtain⟨a,o,rfl,g,q⟩:=h;obtain rfl:v=Value.ref a:=d;exact A7 b I g c λi e=>⟨.bl _,H,e,rfl,q⟩
theorem ym{op:CmpOp}{a b:D}{x y:V}(S:bc κ α Z Ω H)(c:av α Z H a x)(f:av α Z H b y)(g:ck κ Φ α Z H (dI op a b Ω) Q):Fc op x y H Q:=by
 obtain⟨d,e,h,m,i,j,l,k⟩:=gm S c f g;exact Fd (bw:=false) i j (dc S) l k
theorem oi{neg:Bool}{b c:D}{x y:V}(S:bc κ α Z Ω H)(d:av α Z H b x)(e:av α Z H c y)(g:ck κ Φ α Z H (jo neg b c Ω) Q):Fo neg x y H Q:=by
 unfold jo at g;split at g
 .rename_i o f
  obtain⟨a,h,rfl,i,j,k⟩:=qf S e d f;refine⟨a,h,rfl,i,?_⟩;rw[rX j k];exact ck.ret S (aR rfl) g
 .exact g.elim
theorem oj{neg:Bool}{op:CmpOp}(c:op=if neg then .IsNot else .Is){a b:D}{x y:V}(S:bc κ α Z Ω H)(d:av α Z H a x)(e:av α Z H b y)(g:ck κ Φ α Z H (gq neg a b Ω) Q) :
  (if neg then (y=.non/\Q (.bl (!decide (x=.non))) H)else (y=.non/\Q (.bl (decide (x=.non))) H)):=by
 unfold gq at g;split at g
 .simp only[av]at d e
  have:=ck.ret S (aR rfl) g
  grind
 .exact g.elim
theorem By{op:CmpOp}:∀x y Ω d au,dI op x y Ω=.ok d au->∃t,d=.bl t:=λx y Ω d au h=>by
 unfold dI fZ at h;split at h
 .rename_i a b _ _
  dsimp only at h;cases q:dP op a b with
  |ok t=>
   have e:(do let r ←dP op a b;Out.ok (false,D.bl r))=Out.ok (false,D.bl t):=by rw[q];rfl
   rw[e]at h;cases h
   grind
  |exc c f=>
   have e:(do let r ←dP op a b;Out.ok (false,D.bl r))=Out.exc c f:=by rw[q];rfl
   rw[e]at h;cases h
  |bad=>
   have e:(do let r ←dP op a b;Out.ok (false,D.bl r))=Out.bad:=by rw[q];rfl
   rw[e]at h;cases h
 .cases h
theorem tV{neg:Bool}:∀x y Ω d au,jo neg x y Ω=.ok d au->∃t,d=.bl t:=λx y Ω d au h=>by
 unfold jo at h
 grind
theorem tW{neg:Bool}:∀x y Ω d au,gq neg x y Ω=.ok d au->∃t,d=.bl t:=λx y Ω d au h=>by
 unfold gq at h
 grind
theorem tX{op:CmpOp}(s:X.A.units+64<cLine)(h:behindInMarks op b=false)(i:bh X κ Φ a ma)(j:bh X κ Φ b mb):bh X κ Φ (.Compare a [op] [b] pos) (m2 (aQ op) ma mb)/\gH X κ Φ (.Compare a [op] [b] pos) (m2 (aQ op) ma mb):=by
 have E:bh X κ Φ (.Compare a [op] [b] pos) _:=dY (λk tb c d=>iu (xI s op) c d h) i j λl m x y n Z o H Q S e f g=>ym S e f g
 have T:gH X κ Φ (.Compare a [op] [b] pos) (m2 (dI op) ma mb):=iF (λk tb c d=>iv (xI s op) c d h) i j By λl m x y n Z o H Q S e f g=>ym S e f g
 have p:X.A.units+1<cLine:=by omega
 cases op with
 |In=>
  have q:bh X κ Φ (.Compare a [.In] [b] pos) _:=dY (λk tb c d=>iu (yk p) c d h) i j λl m x y n Z o H Q S e f g=>oi S e f g
  have r:gH X κ Φ (.Compare a [.In] [b] pos) _:=iF (λk tb c d=>iv (yk p) c d h) i j tV λl m x y n Z o H Q S e f g=>oi S e f g
  show bh X κ Φ _ (m2 (fY (dI .In) (jo false)) ma mb)/\gH X κ Φ _ (m2 (fY (dI .In) (jo false)) ma mb)
  rw[ic];exact⟨E.alt q,T.alt r⟩
 |NotIn=>
  have q:bh X κ Φ (.Compare a [.NotIn] [b] pos) _:=dY (λk tb c d=>iu (mZ p) c d h) i j λl m x y n Z o H Q S e f g=>oi S e f g
  have r:gH X κ Φ (.Compare a [.NotIn] [b] pos) _:=iF (λk tb c d=>iv (mZ p) c d h) i j tV λl m x y n Z o H Q S e f g=>oi S e f g
  show bh X κ Φ _ (m2 (fY (dI .NotIn) (jo true)) ma mb)/\gH X κ Φ _ (m2 (fY (dI .NotIn) (jo true)) ma mb)
  rw[ic];exact⟨E.alt q,T.alt r⟩
 |Is=>
  have q:bh X κ Φ (.Compare a [.Is] [b] pos) _:=dY (λk tb c d=>iu wX c d h) i j λl m x y n Z o H Q S e f g=>oj (neg:=false) (op:=.Is) rfl S e f g
  have r:gH X κ Φ (.Compare a [.Is] [b] pos) _:=iF (λk tb c d=>iv wX c d h) i j tW λl m x y n Z o H Q S e f g=>oj (neg:=false) (op:=.Is) rfl S e f g
  show bh X κ Φ _ (m2 (fY (gq false) (dI .Is)) ma mb)/\gH X κ Φ _ (m2 (fY (gq false) (dI .Is)) ma mb)
  rw[ic];exact⟨q.alt E,r.alt T⟩
 |IsNot=>
  have q:bh X κ Φ (.Compare a [.IsNot] [b] pos) _:=dY (λk tb c d=>iu sZ c d h) i j λl m x y n Z o H Q S e f g=>oj (neg:=true) (op:=.IsNot) rfl S e f g
  have r:gH X κ Φ (.Compare a [.IsNot] [b] pos) _:=iF (λk tb c d=>iv sZ c d h) i j tW λl m x y n Z o H Q S e f g=>oj (neg:=true) (op:=.IsNot) rfl S e f g
  show bh X κ Φ _ (m2 (fY (gq true) (dI .IsNot)) ma mb)/\gH X κ Φ _ (m2 (fY (gq true) (dI .IsNot)) ma mb)
  rw[ic];exact⟨q.alt E,r.alt T⟩
 |Eq=>exact⟨E,T⟩
 |NotEq=>exact⟨E,T⟩
 |Lt=>exact⟨E,T⟩
 |LtE=>exact⟨E,T⟩
 |Gt=>exact⟨E,T⟩
 |GtE=>exact⟨E,T⟩
def gs(Ω:aA)(x:D):Option (List D):=match x with
 |.tup a=>some a
 |x=>cT Ω x
def Fp(x y:D)(Ω:aA):ax D:=match gs Ω x,y with
 |some a,.int i=>match L2.jP a i with
  |some d=>.ok d Ω
  |none=>.bad
 |_,_=>.bad
def Bz(x y:D)(Ω:aA):ax D:=match qb Ω x y with
 |some (some d)=>.ok d Ω
 |_=>.bad
def aM:D->D->aA->ax D:=fY Fp (fY Bz (fZ rJ))
theorem kY{x:D}{v:V}{ds:List D}{K:PySem.W.Frag}(S:bc κ α Z Ω H)(r:av α Z H x v)(h:gs Ω x=some ds):∃a vs,v=.ref a/\(lX K H a vs\/rn K H a vs)/\aD (av α Z H) ds vs:=by
 unfold gs at h;split at h
 .cases h
  obtain⟨a,vs,rfl,_,b,c⟩:=ez r;exact⟨a,vs,rfl,.inr (vp (.inl b)),c⟩
 .obtain⟨a,vs,rfl,b,c⟩:=bf S r h
  exact⟨a,vs,rfl,.inl (jS b),c⟩
theorem BA{ds:List D}{vs:List V}{R:D->V->Prop}{i:Int}{d:D}(r:aD R ds vs)(h:L2.jP ds i=some d):∃v,L2.jP vs i=some v/\R d v:=by
 unfold L2.jP at h ⊢;rw[r.length];cases q:L2.w_ _ i with
 |none=>simp_all
 |some n=>rw[q]at h;exact r.get h
theorem BB(F:X.A.units+1<cLine)(l:tp b)(m:bh X κ Φ a ma)(n:bh X κ Φ b mb):bh X κ Φ (.Subscript a b pos) (m2 aM ma mb):=by
 unfold aM;rw[ic,ic];refine bh.alt ?_ (bh.alt ?_ ?_)
 .refine dY (λs tb c f=>DK xl c f l) m n λt w x y z Z B H Q S h j g=>?_
  unfold Fp at g;split at g
  .rename_i L i o
   obtain⟨p,C,rfl,h2,q⟩:=kY S h o;subst j;split at g
   .rename_i d r
    obtain⟨v,D,E⟩:=BA q r;rcases h2 with h2|h2
    .exact .inl ⟨p,C,i,v,rfl,rfl,h2,D,ck.ret S E g⟩
    .exact .inr (.inl ⟨p,C,i,v,rfl,rfl,h2,D,ck.ret S E g⟩)
   .exact g.elim
  .exact g.elim
 .refine dY (λs tb c f=>A9 F c f l) m n λt w x y z Z B H Q S h j g=>?_
  unfold Bz at g;split at g
  .rename_i d r
   obtain⟨a,M,rfl,o,h2,_⟩:=qf S h j r;obtain⟨u,rfl,q⟩:=h2 d rfl;exact⟨a,u,rfl,o,ck.ret S q g⟩
  .exact g.elim
 .refine dY (λs tb c f=>DK xl c f l) m n λt w x y z Z B H Q S h j g=>?_
  obtain⟨d,e,G,N,I,J,K,k⟩:=gm S h j g;exact Ff (bw:=false) I J (dc S) K k
def g9(n:Bool)(m:EM):aK->aA->ax (Option Int):=λc b=>if n=true then .ok none b else (m c b).bind λd a=>match d with
 |.int i=>.ok (some i) a
 |_=>.bad
def jq(x:D)(a b:Option Int)(Ω:aA):ax D:=match x,cT Ω x with
 |_,some c=>gk Ω (.lst (cj c a b))
 |.str z,none=>fX Ω (xC (.str z) a b)
 |_,_=>.bad
def dJ(e:EM)(f:Bool)(g:EM)(i:Bool)(j:EM):EM:=λa k=>(e a k).bind λx b=>(g9 f g a b).bind λl c=>(g9 i j a c).bind λh d=>jq x l h d
def Kw(X:Cx)(κ:Str->Addr->Prop)(Φ:eQ)(o:Option Expr)(n:Bool)(m:EM):Prop:=(o=none/\n=true)\/∃e,o=some e/\n=false/\bh X κ Φ e m
theorem ea{o:Option Expr}{n:Bool}(h:Kw X κ Φ o n m)(cm:List Addr)(Z0:Addr->Prop)(H0:Hp)(ρ:aK)(Ω:aA):∃t,PO X o t/\∀σ H b Z Q,b7 κ cm Z0 H0 b Z Ω ρ σ H ->
  (match g9 n m ρ Ω with
   |.ok l rY=>∀c a f,bD b Z H a f c->bc κ a f rY c->Q l c
   |.exc x rY=>∀c a f,bD b Z H a f c->bc κ a f rY c->Φ x rY a f c
   |.bad=>False)->t σ H Q:=by
 rcases h with ⟨rfl,rfl⟩|⟨e,rfl,rfl,g⟩
 .refine⟨_,A2,λσ H b Z Q S k=>?_⟩
  exact k H b Z (bD.refl S.st.has) S.st
 .refine⟨_,A3 (g _ Z0 H0 ρ Ω),λσ H b Z Q S k=>⟨b,Z,S,?_⟩⟩
  simp only[g9,Bool.false_eq_true,if_false]at k;rcases q:m ρ Ω with ⟨d,rY⟩|⟨x,rY⟩|_
  .rw[q]at k
   intro v j p r s u w;cases d with
   |int i=>exact⟨i,w,k j _ r s u⟩
   |_=>exact k.elim
  .rw[q]at k;exact k
  .rw[q]at k;exact k
theorem BC{ds:List D}{vs:List V}{R:D->V->Prop}(h:aD R ds vs)(a b:Option Int):aD R (cj ds a b) (w9 vs a b):=by
 unfold cj w9;rw[h.length];exact(h.drop _).take _
theorem BD{lo hi:Option Expr}{M N:Bool}{O P:EM}{p2:Pos}(y:bh X κ Φ a ma)(R:Kw X κ Φ lo M O)(z:Kw X κ Φ hi N P):bh X κ Φ (.Subscript a (.Slice lo hi none p2) pos) (dJ ma M O N P):=by
 intro b e f c j;rcases q:ma c j with ⟨d,i⟩|⟨x,i⟩|_
 .obtain⟨tl,n,E⟩:=ea R b e f c i
  rcases A:g9 M O c i with ⟨l,o⟩|⟨x,o⟩|_
  .obtain⟨F,m,B⟩:=ea z b e f c o
   refine PE.imp (gg (r:=HS X.K) (iw.or kO) (y b e f c j) n m) ?_;rintro s H Q ⟨t,Z,S,g⟩;refine⟨t,Z,S,?_⟩;simp only[dJ,q,A,ax.bind]at g ⊢;intro v T u U C G r1;have g:=ck.from C g
   have S1:=S.grow C G;refine E s T u U _ S1 ?_;rw[A];intro V w Y D I;have g:=ck.from D g
   have S2:=S1.grow D I;refine B s V w Y _ S2 ?_;rcases q3:g9 N P c o with ⟨h,a0⟩|⟨x,a0⟩|_
   .rw[q3]at g
    intro H3 b0 Z3 g3 J;have g:=ck.from g3 g
    have r3:=I.cS g3 (G.cS D r1);dsimp only[ax.bind]at g;unfold jq at g;split at g
    .rename_i ds hd
     obtain⟨p,vs,rfl,h1,h2⟩:=bf J r3 hd;exact .inl ⟨p,vs,rfl,jS h1,dq J (BC h2 l h) g⟩
    ·
     simp only[av]at r3;subst r3;obtain⟨c0,d,L,k⟩:=iD (bw:=false) J g;simp only[xC]at L;split at L
     .rename_i hs
      cases L;exact .inr ⟨_,rfl,br hs,k _ H3 _ _ (eF.refl J.dom) (.rep (fo rfl))⟩
     .cases L
    .exact g.elim
   .rw[q3]at g;exact g
   .rw[q3]at g;exact g
  .obtain⟨F,m,B⟩:=ea z b e f c i
   refine PE.imp (gg (r:=HS X.K) (iw.or kO) (y b e f c j) n m) ?_;rintro s H Q ⟨t,Z,S,g⟩;refine⟨t,Z,S,?_⟩;simp only[dJ,q,A,ax.bind]at g ⊢;intro v T u U C G r1;refine E s T u U _ (S.grow C G) ?_;rw[A];intro V w Y D I;exact g V w Y (C.trans D) I
  .obtain⟨F,m,B⟩:=ea z b e f c i
   refine PE.imp (gg (r:=HS X.K) (iw.or kO) (y b e f c j) n m) ?_;rintro s H Q ⟨t,Z,S,g⟩;simp only[dJ,q,A,ax.bind]at g;exact g.elim
 .obtain⟨tl,n,E⟩:=ea R b e f c j
  obtain⟨F,m,B⟩:=ea z b e f c j;refine PE.imp (gg (r:=HS X.K) (iw.or kO) (y b e f c j) n m) ?_;rintro s H Q ⟨t,Z,S,g⟩;refine⟨t,Z,S,?_⟩;simp only[dJ,q,ax.bind]at g ⊢;exact g
 .obtain⟨tl,n,E⟩:=ea R b e f c j
  obtain⟨F,m,B⟩:=ea z b e f c j;refine PE.imp (gg (r:=HS X.K) (iw.or kO) (y b e f c j) n m) ?_;rintro s H Q ⟨t,Z,S,g⟩;simp only[dJ,q,ax.bind]at g;exact g.elim
end
theorem PE.ex{X:Cx}{e:Expr}{a:Type}{t:a->TE}(h:∀i,PE X e (t i)):PE X e (λσ H Q=>∃i,t i σ H Q):=λpins s σ H Q I ⟨i,q⟩=>h i _ s σ H Q I q
theorem PT.ex{X:Cx}{e:Expr}{a:Type}{t:a->TT}(h:∀i,PT X e (t i)):PT X e (λσ H Q=>∃i,t i σ H Q):=λpins s σ H Q I ⟨i,q⟩=>h i _ s σ H Q I q
theorem PW.ex{X:Cx}{e:Expr}{a:Type}{t:a->TT}(h:∀i,PW X e (t i)):PW X e (λσ H Q=>∃i,t i σ H Q):=λb pins s σ H Q I ⟨i,q⟩=>h i b _ s σ H Q I q
theorem PA.ex{X:Cx}{a:List Expr}{b:Type}{t:b->TA}(h:∀i,PA X a (t i)):PA X a (λσ H Q=>∃i,t i σ H Q):=λc pins s σ H Q I ⟨i,q⟩=>h i _ _ s σ H Q I q
def jr(c d:EM):EM:=λb e=>(c b e).bind λx a=>match gW a x with
 |some true=>d b a
 |some false=>.ok x a
 |none=>.bad
def Fq(c d:EM):EM:=λb e=>(c b e).bind λx a=>match gW a x with
 |some false=>d b a
 |some true=>.ok x a
 |none=>.bad
def qh(b:EM):EM:=λc d=>(dj (b c d)).bind λt a=>.ok (.bl (!t)) a
def GW(mc c d:EM):EM:=λb e=>(dj (mc b e)).bind λt a=>if t=true then c b a else d b a
section
variable{X:Cx}{κ:Str->Addr->Prop}{Φ:eQ}{α α' cm α1:List Addr}{Z Z' Z0 Z1:Addr->Prop}{Ω au:aA}{H H' H0 H1:Hp}{ρ:aK}{σ:L2.St}{Q Q':VK}{r:ax D}{a b e ce:Expr}{rest:List Expr}{es:List Expr}{ma mb mc m:EM}{as:AM}{pos p:Pos}
theorem gu{d:D}{v:V}{t:Bool}{K:PySem.W.Frag}(S:bc κ α Z Ω H)(r:av α Z H d v)(h:gW Ω d=some t):pA K v H t:=by
 cases d with
 |non=>subst r;cases h;rfl
 |bl b=>subst r;cases h;rfl
 |int b=>subst r;cases h;rfl
 |str b=>
  subst r;have n:Now Z H (.str b) (.str b):=by rfl
  exact Fe n h
 |lst ds=>
  cases h;obtain⟨a,c,rfl,e,f⟩:=bf S r rfl;refine .inl ⟨c,jS e,?_⟩;have:=f.length;cases ds<;>cases c<;>simp at this ⊢
 |tup ds=>
  cases h;obtain⟨a,c,rfl,_,e,f⟩:=ez r;refine .inr (.inl ⟨c,vp (.inl e),?_⟩);have:=f.length;cases ds<;>cases c<;>simp at this ⊢
 |dct _ _=>cases h
 |ref k=>
  simp only[gW]at h;split at h
  .rename_i ds i
   cases h;obtain⟨a,c,rfl,e,f⟩:=bf (ds:=ds) S r (by simp only[cT,i])
   refine .inl ⟨c,jS e,?_⟩;have:=f.length
   grind
  .rename_i l i
   cases h;obtain⟨a,m,rfl⟩:=r;obtain⟨o,g,j,e,f⟩:=S.cell i;rw[m]at g;cases g
   refine .inr (.inr ⟨_,e,?_⟩);have:=f.length
   grind
  .cases h
theorem pf.use{r:ax Bool}{f:Bool->aA->ax D}{i:Bool->Hp->Prop}(h:ck κ Φ α Z H (r.bind f) Q)(k:∀t a,r=.ok t a->∀c b e,bD α Z H b e c->bc κ b e a c->ck κ Φ b e c (f t a) Q->i t c):pf κ Φ α Z H r i:=by
 cases r with
 |ok d a=>exact λc b e g s=>k d _ rfl c _ e g s (ck.from g h)
 |exc x a=>exact h
 |bad=>exact h
theorem pf.Pg{Q:Bool->Hp->Prop}{K:PySem.W.Frag}(h:pf κ Φ α Z H (dj r) Q):ck κ Φ α Z H r (λv a=>∃t,pA K v a t/\Q t a):=by
 cases r with
 |ok d b=>
  intro v a c e g s q;simp only[dj]at h;split at h
  .rename_i t f
   exact⟨t,gu s q f,h a _ e g s⟩
  .exact h.elim
 |exc x b=>exact h
 |bad=>exact h.elim
theorem BE(h:bh X κ Φ e m)(c:∀a,isTrue e X.env a=(do let v ←a;standAt e.pos;holding [v] (truthy v))):gH X κ Φ e m:=by
 intro b d f i j;refine PT.imp (wY (h b d f i j) c) ?_;rintro l H Q ⟨k,Z,S,g⟩;exact⟨k,Z,S,g.Pg⟩
theorem BF(m:bh X κ Φ a ma)(n:bh X κ Φ (.BoolOp .And (b::rest) pos) mb):bh X κ Φ (.BoolOp .And (a::b::rest) pos) (jr ma mb):=by
 intro c j k l o;refine PE.imp (Bm (m c j k l o) (PE.ex λd=>n c j k l d)) ?_
 rintro t H Q ⟨p,Z,S,g⟩;refine⟨p,Z,S,ck.use g λx d _ v u q r s e h f=>?_⟩
 split at f
 .rename_i i
  exact⟨_,gu e h i,pN ⟨_,_,r,S.grow s e,f⟩⟩
 .rename_i i
  exact⟨_,gu e h i,pM (ck.ret e h f)⟩
 .exact f.elim
theorem Fs(m:bh X κ Φ a ma)(n:bh X κ Φ (.BoolOp .Or (b::rest) pos) mb):bh X κ Φ (.BoolOp .Or (a::b::rest) pos) (Fq ma mb):=by
 intro c j k l o;refine PE.imp (Fg (m c j k l o) (PE.ex λd=>n c j k l d)) ?_
 rintro t H Q ⟨p,Z,S,g⟩;refine⟨p,Z,S,ck.use g λx d _ v u q r s e h f=>?_⟩
 split at f
 .rename_i i
  exact⟨_,gu e h i,pM ⟨_,_,r,S.grow s e,f⟩⟩
 .rename_i i
  exact⟨_,gu e h i,pN (ck.ret e h f)⟩
 .exact f.elim
theorem vA{op:BoolOp}(b:bh X κ Φ a ma):bh X κ Φ (.BoolOp op [a] pos) ma:=λc d e f g=>Ey (b _ d e f g)
theorem BG(c:bh X κ Φ a ma):bh X κ Φ (.UnaryOp .Not a pos) (qh ma):=by
 intro b d e f h;refine PE.imp (Bn (c b d e f h)) ?_;rintro n H Q ⟨i,Z,S,g⟩;refine⟨i,Z,S,?_⟩;have:=pf.use g λt j _ o k p q l m=>ck.ret l (aR rfl) m
 exact this.Pg
theorem BH(d:gH X κ Φ a ma):gH X κ Φ (.UnaryOp .Not a pos) (qh ma):=by
 intro b e f h i;refine PT.imp (Ew (d b e f h i)) ?_;rintro p H Q ⟨j,Z,S,g⟩;refine⟨j,Z,S,?_⟩;simp only[qh]at g;cases q:dj _ with
 |ok t c=>rw[q]at g;exact λk l m n o=>g k _ m n o
 |exc x c=>rw[q]at g;exact g
 |bad=>rw[q]at g;exact g
def DS(X:Cx)(κ:Str->Addr->Prop)(Φ:eQ)(e:Expr)(m:EM):Prop:=∀a b c d f,PW X e (ML κ Φ a b c m d f)
theorem DS.pt(h:DS X κ Φ e m):gH X κ Φ e m:=λa b c d f=>(h _ b c d f).pt
theorem BI{op:BoolOp}(b:gH X κ Φ a ma):DS X κ Φ (.BoolOp op [a] pos) ma:=λg c d e f=>by
 cases op with
 |And=>exact pw_and1 (b _ c d e f)
 |Or=>exact pw_or1 (b _ c d e f)
theorem BJ(p:gH X κ Φ a ma)(r:DS X κ Φ (.BoolOp .And (b::rest) pos) mb):DS X κ Φ (.BoolOp .And (a::b::rest) pos) (jr ma mb):=by
 intro d l m h n;refine PW.imp (pw_and (p d l m h n) (PW.ex λc=>r d l m h c)) ?_
 rintro t H Q ⟨s,Z,S,g⟩;refine⟨s,Z,S,?_⟩;simp only[jr]at g;cases q:ma h n with
 |ok x c=>
  rw[q]at g;dsimp only[ax.bind]at g;simp only[dj];split at g
  .rename_i e
   rw[e];exact λo i j f k=>pN ⟨_,_,j,S.grow f k,pf.from f g⟩
  .rename_i e
   rw[e];simp only[dj,e]at g;exact λo i j f k=>pM (g o _ j f k)
  .exact g.elim
 |exc x c=>rw[q]at g;exact g
 |bad=>rw[q]at g;exact g.elim
theorem Ft(p:gH X κ Φ a ma)(r:DS X κ Φ (.BoolOp .Or (b::rest) pos) mb):DS X κ Φ (.BoolOp .Or (a::b::rest) pos) (Fq ma mb):=by
 intro d l m h n;refine PW.imp (pw_or (p d l m h n) (PW.ex λc=>r d l m h c)) ?_
 rintro t H Q ⟨s,Z,S,g⟩;refine⟨s,Z,S,?_⟩;simp only[Fq]at g;cases q:ma h n with
 |ok x c=>
  rw[q]at g;dsimp only[ax.bind]at g;simp only[dj];split at g
  .rename_i e
   rw[e];exact λo i j f k=>pM ⟨_,_,j,S.grow f k,pf.from f g⟩
  .rename_i e
   rw[e];simp only[dj,e]at g;exact λo i j f k=>pN (g o _ j f k)
  .exact g.elim
 |exc x c=>rw[q]at g;exact g
 |bad=>rw[q]at g;exact g.elim
theorem BK(m:gH X κ Φ ce mc)(n:bh X κ Φ a ma)(o:bh X κ Φ b mb):bh X κ Φ (.IfExp ce a b pos) (GW mc ma mb):=by
 intro d e f h p;refine PE.imp (wQ (m d e f h p) (PE.ex λc=>n d e f h c) (PE.ex λc=>o d e f h c)) ?_
 rintro s H Q ⟨q,Z,S,g⟩;refine⟨q,Z,S,pf.use g λt c _ u r i j k l=>?_⟩
 cases t with
 |true=>exact pN ⟨_,_,i,S.grow j k,l⟩
 |false=>exact pM ⟨_,_,i,S.grow j k,l⟩
theorem BL(r:gH X κ Φ ce mc)(u:gH X κ Φ a ma)(w:gH X κ Φ b mb):gH X κ Φ (.IfExp ce a b pos) (GW mc ma mb):=by
 intro i j k e o pins s l H Q I;rintro⟨y,Z,S,g⟩;simp only[GW]at g
 have n:ML κ Φ i j k mc e o l H (λt h=>∃c d f,b7 κ i j k d f c e l h/\pf κ Φ d f h (dj (if t=true then ma e c else mb e c)) Q):=by
  refine⟨y,Z,S,?_⟩;cases q:dj _ with
  |ok t c=>
   rw[q]at g;exact λh d f p m=>⟨_,_,f,S.grow p m,pf.from p g⟩
  |exc x c=>rw[q]at g;exact g
  |bad=>rw[q]at g;exact g.elim
 refine isTrue_IfExp (cu (r _ j k e o _ s l H _ I n) λv m ⟨h,I1,c,d,f,S1,k1⟩=>?_)
 cases v with
 |true=>exact u _ j k e _ _ m l h Q I1 ⟨_,f,S1,k1⟩
 |false=>exact w _ j k e _ _ m l h Q I1 ⟨_,f,S1,k1⟩
def cW(f:List D->Out Rs):List D->aA->ax D:=λb a=>match bC (fN a 8) b with
 |some c=>fX a (f c)
 |none=>.bad
theorem gv{bw:Bool}{f:List D->Out Rs}{xs:List D}{vs:List V}(S:bc κ α Z Ω H)(i:aD (av α Z H) xs vs)(h:ck κ Φ α Z H (cW f xs Ω) Q) :
  ∃ds a b,aW (Bt α Z) H ds vs/\f ds=.ok (a,b)/\∀v c g,eF (Bt α Z) H g c->ey bw a g H c b v->Q v c:=by
 unfold cW at h;split at h
 .rename_i ds j
  obtain⟨a,b,e,k⟩:=iD (bw:=bw) S h;exact⟨ds,_,b,gj (eK (S:=Rep _ H) (λd b v q r=>ka S 8 q r) j i),e,by grind⟩
 .exact h.elim
theorem vB{k:Nat}{x:Str}{F:List D->Out Rs}(F0:HU X k x F)(h:bE k X.A)(i:Gl X x)(a:(x==("__debug__":Str))=false)
  (j:starEach (e::es) X.env=(false,eval e X.env)::starEach es X.env) (b:(backTo pos (starEach es X.env)).any (·.1)=false) (l:lY X κ Φ (e::es) as) :
  bh X κ Φ (.Call (.Name x p) (e::es) [] pos) (mN (cW F) as):=by
 obtain⟨f,L,M,m,n,o,F1⟩:=F0.ex;intro c q r s t;refine PE.imp (nN F1 h i m n o .nil pL (l c q r s t) a j b) ?_;rintro N H Q ⟨u,Z,S,g⟩;refine⟨u,Z,S,ph.use g λO w _ P R y T U d z B=>?_⟩
 rw[List.append_nil];obtain⟨C,E,G,I,J,K⟩:=gv d z B;exact⟨_,C,_,G,dc d,I,J,K⟩
end
end Mir
namespace L2
open PySem PySem.Spec PyProof.Rows PySem.W
section
variable{P:Program}{w:World}{K:PySem.W.Frag}{mg:Str->Option Value}{base:Heap}
theorem tw.Qv{x qual:Str}{st:Stmt}{f:Addr}{t:FuncData}{N ps:List Str}{k:Nat}{sp:Sp}{c:Addr}(F:tw K x qual st f t)(y:t.code=.ref c)(S:gG N ps (af st))(d:∀vs H Q E,sp vs H Q E->vs.length=ps.length)
  (a:∀(A:Around) (outer:List Env) (s g:Shared) (H:Hp) (vs:List V) (Q:VK) (E:XK),bE k (A.deeper (envOfC qual (af st) s.heap.objs.size f (.ref c)))->sp vs H Q E ->
   Inv (bF dH P w K mg base N qual (af st) f (.ref c) A outer s H E).fg [] (start N vs) H g ->
   wpAny (model P w) (A.deeper (envOfC qual (af st) s.heap.objs.size f (.ref c))) (execs (aT st) (envOfC qual (af st) s.heap.objs.size f (.ref c)))
    (λfl m=>∃xs v u h p,(fl=.ret u\/fl=.next/\u=Value.none)/\Inv ((bF dH P w K mg base N qual (af st) f (.ref c) A outer s H E).fg.fz xs) [] h p m/\RelV v u/\Q v p) (λ_ _=>False) g) :
  bP P w K mg base dH (k+1) f t ps sp:=by
 obtain⟨oc,od,kV,O,pm,an,z,ct,R,rfl,T,B⟩:=F.ex;obtain rfl:z=.ref c:=y;refine⟨d,λA outer s H args us vs Q E C i U r j=>?_⟩
 have M:=i.mod.Er.keeps λb o e=>(i.bs b o e).1
 have D:=i.mod.nolimit.keeps λb o e=>(i.bs b o e).1
 refine codeAny_call_function C.depth (M _ _ T) rfl S.co S.gen rfl (PySem.W.codeRec_of M B) (U _ _ _ _ ?_)
 refine wpAny_newFunctionEnv_cells S.kind (λ⟨n,v⟩ X=>by
  rcases S.par n (List.of_mem_zip X).1 with q|q
  .exact .inl q
  .exact .inr ⟨q,PySem.W.cellsFrom_some _ _ _ (.inl q)⟩) λY Z g x=>?_
 subst Z;refine⟨D.keeps x.toInCall.keep,codeAny_func ?_⟩;have I:Inv (bF dH P w K mg _ N _ _ f _ A _ s H E) [] _ H g:=jf S C.hd i (d _ _ _ _ j) r x;refine wpAny_mono (a A _ s g H vs Q E (C.deeper _) j (I.wish _)) (λfl m G=>?_) λe m G=>G.elim
 obtain⟨xs,v,u,h,p,L,J,rv,q⟩:=G;have l:CE outer P w H s Q u m:=⟨v,p,J.os,J.bare,J.base,J.hok,rv,q⟩;rcases L with rfl|⟨rfl,rfl⟩
 .exact l
 .exact l
end
theorem vC{P:Program}{w:World}{K:PySem.W.Frag}{D X:Str->Option Value}{k:Nat}{fa a c T:Addr}{fd:FuncData}{x:Str}{sp:Sp}{f:Shared}{vs:List Value}{ns:List Int}
  (KX:K.In f.heap) (y:f.heap.Ns mainGlobals D) (Y:f.heap.Ns builtinsNs X) (Z:∀x:Str,x≠"__name__"->X x=bootBuiltins x) (J:f.heap.NoLimit) (hg:f.gens = #[])
  (a0:∃E ob,D "__builtins__"=some (.ref E)/\E≠builtinsNs/\f.heap.get? E=some ob/\ob.cls=.type "module"/\ob.dict=some builtinsNs/\ob.data=.plain)
  (hC:CodeHd f.heap c T) (G:f.heap.get? T=some (tabObj #[])) (b0:K.lookup T=none) (c0:K.lookup a=none)
  (A:f.heap.get? a=some {cls:=.type "list",data:=.seq vs.toArray}) (hi:IntsAre vs ns) (hl:ns.length<=sizeLine) (hr:bE k callerA)
  (F:∀base:Heap,K.In base->base.Ns mainGlobals D->CodeHd base c T->(∃Pl,base.BuiltinsAt D Pl)->bP P w K D base dH k fa fd [x] sp) (B:∀(s:Shared) (u:Value),BindsTo s fd ⟨[u],[]⟩ [(x,u)])
  (e0:∀H:Hp,H T=some (.mB #[])->a≠T->Rd H a (.lst (ns.map V.int))->sp [.ref a] H (λv _=>v=.bl true) λ_ _ _=>False) :
  codeAny (model P w) callerA (.call (.ref fa) ⟨[.ref a],[]⟩) (λr I=>r=.ok (.ret (.bool true))/\OldK f.heap I.heap/\I.os=f.os/\AllBare I.gens) f:=by
 have rv:=jh hi;have m0:=hi.length
 have L:a≠T:=λz=>by
  rw[z,G]at A;cases A
 let H:Hp:=λb=>if b=T then some (.mB #[])else if b=a then some (.cL {cls:=.type "list",data:=.seq vs.toArray} (.lst (ns.map V.int)))else none
 have HT:H T=some (.mB #[]):=if_pos rfl;have Ha:H a=some _:=(if_neg L).trans (if_pos rfl);have M:∀b,b≠T->b≠a->H b=none:=λb i j=>(if_neg i).trans (if_neg j)
 have f0:fE P w H f.heap:=λb u z=>by
  by_cases i:b=T
  .subst i
   rw[HT]at z;cases z
   exact G
  .by_cases j:b=a
   .subst j
    rw[Ha]at z;cases z
    exact⟨A,by rw[List.length_map];exact hl,vs,_,rv,A⟩
   .rw[M b i j]at z;cases z
 have g:∀{b:Addr}{o:Obj},f.heap.get? b=some o->H b=none->(nG f.heap H).get? b=some o:=λe n=>wN e n
 have N:∀{b:Addr}{o:Obj},f.heap.get? b=some o->o.cls≠.none->o.cls≠.type "list"->H b=none:=λ{b o} e i j=>M b (λz=>i (by rw[z,G]at e;cases e;rfl)) λz=>j (by rw[z,A]at e;cases e;rfl)
 have g0:∀{b:Addr}{o:Obj}{O:Array DictEntry}{Q:Nat},f.heap.get? b=some o->o.data=.dict O Q->H b=none:=λ{b o O Q} e d=>M b (λz=>by rw[z,G]at e;cases e;cases d) λz=>by rw[z,A]at e;cases e;cases d
 have l:∀{b:Addr}{m:Str->Option Value},f.heap.Ns b m->(nG f.heap H).Ns b m:=λ{b m} ⟨o,O,Q,e,d,r⟩=>⟨o,O,Q,g e (g0 e d),d,r⟩
 have R:K.In (nG f.heap H):=λb o e=>g (KX b o e) (M b (λz=>by rw[z,b0]at e;cases e) λz=>by rw[z,c0]at e;cases e)
 have hM:Mod K D (nG f.heap H):=⟨R,l y,⟨X,l Y,Z⟩,let ⟨mc,i,j⟩:=J;⟨mc,l i,j⟩⟩
 have h0:CodeHd (nG f.heap H) c T:=by
  obtain⟨o,i0,S,tf,C,tg,j0,U,tt,e,i,r⟩:=hC;exact⟨o,i0,S,tf,C,tg,j0,U,tt,g e (N e (by rw[i];nofun) (by rw[i];decide)),i,r⟩
 refine codeAny_mono ((F _ R (l y) h0 (by
  obtain⟨E,ob,i,j,h3,h4,h5,h6⟩:=a0;refine⟨E+1,E,ob,i,j,λz=>?_,Nat.ne_of_lt (Nat.lt_succ_self _),g h3 (N h3 (by rw[h4];nofun) (by rw[h4];decide)),h4,h5,h6⟩
  obtain⟨o,O,Q,e,d,_⟩:=y;rw[←z,h3]at e;cases e
  rw[h6]at d;cases d)).run callerA [] f H ⟨[.ref a],[]⟩ [.ref a] [.ref a] _ _ hr ⟨rfl,hM,λb o e=>AJ e,Nat.le_of_eq (uZ _ _),trivial,λb Y=>absurd (show b∈([]:List Addr)from Y) (by simp),f0,.of_eq hg⟩ (B f (.ref a)) (.cons rfl .nil) (e0 H HT L (.inr ⟨_,Ha⟩))) λr I h=>?_
 cases r with
 |error e=>exact h.elim
 |ok fl=>
  cases fl with
  |next=>exact False.elim h
  |brk=>exact False.elim h
  |cont=>exact False.elim h
  |ret u=>
   obtain⟨v,H',os,bare,un,t,r',q⟩:=h;have q':v=.bl true:=q;subst q';obtain rfl:u=Value.bool true:=r';obtain⟨more,hm⟩:=un.fF T #[] HT;have l0:I.heap.get? T=some (tabObj (#[]++more)):=t T _ hm
   have keep:∀b o,b≠T->f.heap.get? b=some o->I.heap.get? b=some o:=λb o p e=>by
    by_cases j:b=a
    .subst j
     obtain⟨e2,_⟩:=t b _ (un.e9 b _ _ Ha);rw[A]at e;cases e
     exact e2
    .exact un.keep b o e (M b p j) (by intro z;exact absurd (show b∈([]:List Addr)from z) (by simp)) (by simp)
   refine⟨rfl,⟨λb o e=>?_,λb o e=>?_⟩,os,bare⟩
   .by_cases p:b=T
    .subst p
     rw[G]at e;cases e
     exact .inr (.inl ⟨(hC.tab G).isCodeTable,rfl,#[],more,rfl,l0⟩)
    .exact .inl (keep b o p e)
   grind
theorem yn{l:PySem.W.OpenLaw}{n k:Nat}{q:Program}{m:List Str}{Q:(Str->Option Value)->Heap->Prop}{M:World->Heap->Prop}{d:DefRec}{K:Params->PySem.W.Frag}{sp:World->Sp}{x:Str}{c T:Addr}
  (R:l.most=some n) (B:n<=sizeLine) (C:d.params.defaults=[]) (S:bE k callerA)
  (U:∀(w:World) (h:Heap),M w h->(K w.params).In h/\h.get? T=some (tabObj #[])) (X:∀t,codeHdIn (K t) c T=true) (D:∀t,noTabs (K t)=true) (E:∀t a o,(K t).lookup a=some o->o.cls≠.type "list")
  (F:∀(w:World) (p:Str->Option Value) (A:Addr) (h:Heap),(K w.params).In h->h.Ns mainGlobals p->p d.name=some (.ref A) ->
   ∃I:FuncData,(∀(s:Shared) (u:Value),BindsTo s I ⟨[u],[]⟩ [(x,u)]) /\
    ∀base:Heap,(K w.params).In base->base.Ns mainGlobals p->CodeHd base c T->(∃Z,base.BuiltinsAt p Z)->bP l.prog w (K w.params) p base dH k A I [x] (sp w))
  (J:∀(w:World) (H:Hp) (a:Addr) (ns:List Int),ns.length<=n->H T=some (.mB #[])->a≠T->Rd H a (.lst (ns.map V.int))->sp w [.ref a] H (λv _=>v=.bl true) λ_ _ _=>False) :
  PySem.W.WalkO q m Q M l.row.toRowW d [] (λf vs=>PySem.call f vs):=by
 refine Pa.pK R C λw N O p mb A o t cd a0 a vs ns G Y ho hd b0 L i r j hg=>?_
 obtain⟨y,P⟩:=U w _ Y;obtain⟨I,hb,hF⟩:=F w p A _ y G.T.g L;refine vC y G.T.g G.T.b G.T.builtins G.T.nolimit hg G.T.bmain (codeHd_of_K y (X _)) P ?_ ?_ i r (Nat.le_trans j B) S hF hb (λH h1 h2 h3=>J w H a ns j h1 h2 h3)
 .cases e:(K w.params).lookup T with
  |none=>rfl
  |some o=>
   have z:=y _ _ e;rw[P]at z;cases z
   exact absurd (List.all_eq_true.mp (D w.params) _ (mem_of_lookupK e)) (by simp)
 .cases e:(K w.params).lookup a with
  |none=>rfl
  |some o=>
   have z:=y _ _ e;rw[i]at z;cases z
   exact absurd rfl (E _ _ _ e)
end L2
namespace L2
open PySem PySem.Spec PyProof.Rows
def H_(a:Addr)(o:Obj):It:=
 ⟨λi H=>∃b,H a=some (.cL o (.dK b))/\i<b.length,λi H x d=>d=H/\∀b,H a=some (.cL o (.dK b))->∃c,b[i]?=some c/\x=kV c.1,λi H=>∃b,H a=some (.cL o (.dK b))/\b.length<=i⟩
theorem ie{a b:Type}{F:a->b->Prop}:∀{xs:List a}{us:List b}{i:Nat}{x:a},Paired F xs us->xs[i]?=some x->∃u,us[i]?=some u/\F x u
 |_,_,_,_,.nil,e=>by simp at e
 |_,_,0,_,.cons r _,e=>by simp_all
 |_,_,i+1,x,.cons _ t,e=>by
  obtain⟨u,h1,h2⟩:=ie t (by simpa using e)
  simp_all
theorem tY{k:Key}{u:Value}{P:Program}{w:World}(h:(bW P w).is k u=true):RelV (kV k) u:=by
 rcases bK (h)with ⟨i,t,rfl,rfl⟩|⟨x,t,rfl,rfl⟩
 .exact⟨t,rfl⟩
 .exact⟨t,rfl⟩
theorem rZ{P:Program}{w:World}{H:Hp}{h:Heap}{a:Addr}{o:Obj}{kvs:List (Key×V)}{c:Array DictEntry}{ep:Nat}(ok:fE P w H h)(e:H a=some (.cL o (.dK kvs)))(d:o.data=.dict c ep) :
  ∃vs,KV kvs vs/\h.DictAt (bW P w) a vs ep/\c.size=vs.length/\(a==sysModules)=false:=by
 obtain⟨f,_,j,vs,r,q,k,l,b,m,g,n,i,p⟩:=ok a _ e;rw[f]at b;cases b
 rw[d]at g;cases g
 refine⟨vs,r,⟨o,c,f,m,d,n,i,p⟩,?_,j⟩;rw[←i.length];simp
theorem vD{P:Program}{w:World}{K:PySem.W.Frag}{S:Expr}(a it:Addr){o:Obj}{L:Array DictEntry}{ep:Nat}(M:o.data=.dict L ep):Turn P w K S (H_ a o) [it] it (λi h=>h.IsKeyIter it a i L.size ep) where
 mem:=by simp
 obj:=λi h f b g=>by
  have e:=by simpa using g
  obtain⟨o,e,c,d⟩:=f
  simp_all
 keep:=λi h N f k=>by
  obtain⟨o,e,c,d⟩:=f;exact⟨o,k it (by simp) o e,c,d⟩
 item:=by
  intro X m n p O i pins s T H E I j f t;subst m n p;obtain⟨u,x,Q⟩:=t;obtain⟨U,r,y,l,_⟩:=rZ I.hok x M;have z:=List.getElem?_eq_getElem Q;obtain⟨q,V,rq⟩:=ie r z;obtain⟨A,B,Y,C,D,F⟩:=j it (by simp)
  rw[l]at f;refine wpAny_pyNext_dict_item f y V λG N Z J sb=>?_
  obtain⟨o1,e1,c1,d1⟩:=id J;refine⟨G,rfl,mE e1 c1 d1 (by decide) ⟨_,H,(I.turned (t':=s.toks) (λb o g e=>(sb.2 b g).trans e) A B C D F),tY Z,⟨rfl,λR a0=>?_⟩,by rwa[l],λb g=>(j b g).1⟩⟩
  simp_all
 done:=by
  intro X m n p O i pins s T H E I j f t;subst m n p;obtain⟨u,x,Q⟩:=t;obtain⟨U,r,y,l,_⟩:=rZ I.hok x M;obtain⟨A,B,Y,C,D,F⟩:=j it (by simp)
  have hl:=r.length;rw[l]at f;exact wpAny_pyNext_dict_end (I.ok.hd O) f y (by grind) λN eb=>⟨rfl,I.turned (λb o g e=>eb b o g e) A B C D F⟩
 self:=λ_ _ _ _ _ f h=>wpAny_pyIter_keyiter f h
section
variable{X:Cx}{pins:List (Addr×Obj)}{σ:St}{H:Hp}{s:Shared}
theorem Inv.BN{a:Addr}{kvs:List (Key×V)}(I:Inv X pins σ H s)(e:H a=some (.dK kvs)):∃o b ep,s.heap.get? a=some o/\o.data=.dict b ep/\Inv X pins σ (upd H a (.cL o (.dK kvs))) s:=by
 obtain⟨z,f,g,r,o,b,ep,c,h,d,i,j,k⟩:=I.hok a _ e;refine⟨o,b,ep,c,d,?_⟩;have:=nT (t':=s.toks) (ob:=.cL o (.dK _)) I (by rw[e];exact True.intro) ⟨rfl,by simp⟩ ⟨o,c⟩ ⟨c,z,f,g,r,o,b,ep,c,h,d,i,j,k⟩
 exact this
def Ia(R:It->Hp->Prop)(x:V)(c:Hp):Prop:=∃a b,x=.ref a/\((c a=some (.dK b)/\∀o,R (H_ a o) (upd c a (.cL o (.dK b))))\/∃o,c a=some (.cL o (.dK b))/\R (H_ a o) c)
theorem BO{k:Expr}{x:V}{u:Value}{R:It->Hp->Prop}(l:Inv X pins σ H s)(p:RelV x u)(q:Ia R x H):wpAny (model X.prog X.w) X.A (pyIter u) (PIE X pins σ k R) X.xe s:=by
 obtain⟨a,i,rfl,q⟩:=q;cases (p)
 have f:∀(o:Obj) (g:Array _) (c:Nat) (d:Hp),Inv X pins σ d s->d a=some (.cL o (.dK i))->o.data=.dict g c->R (H_ a o) d->wpAny (model X.prog X.w) X.A (pyIter (.ref a)) (PIE X pins σ k R) X.xe s:=by
  intro o g c d e t h hR;obtain⟨m,r,y,B,n⟩:=rZ e.hok t h;refine wpAny_pyIter_dict n y ?_;have C:Inv X _ σ d {s with heap:=s.heap.push {cls:=.type "dict_keyiterator",data:=.fields #[.ref a,.int 0 0,.int m.length 0,.int c 0]} }:=e.kept λb o q=>Heap.get?_push_of_some _ q
  refine⟨_,_,_,_,d,rfl,C,vD a _ h,?_,λb D=>?_,hR⟩
  .rw[B]
   exact⟨_,Heap.get?_push_size _ rfl,rfl,rfl⟩
  .have z:=by simpa using D
   rw[z];have:=e.u7 (Nat.le_refl _) (e.hok.fresh (Nat.le_refl _));exact this
 rcases q with ⟨j,hR⟩|⟨o,j,hR⟩
 .obtain⟨o,g,c,E,h,e⟩:=l.BN j
  exact f o g c _ e aG h (hR o)
 .obtain⟨E,_,n,m,r,G,g,c,F,I,J,K⟩:=l.hok a _ j
  grind
end
section
variable{prog:Program}{w:World}{A:Around}{E:Value->Shared->Prop}{s:Shared}
theorem om{a:Addr}{o:Obj}{xs:Array Value}{k:Nat}{Q:Option Value->Shared->Prop}(n:s.heap.get? a=some o)(p:o.cls=.type "list")(f:o.data=.seq xs k)(q:o.dict=none)(t:A.handled=none)
  (h:∀m tk,(∀b o,s.heap.get? b=some o->m.get? b=some o)->Q none {s with heap:=m,toks:=tk}):wpAny (model prog w) A (getAttr? (.ref a) "keys") Q E s:=by
 obtain⟨c,u,x,y⟩:=o;simp only at p f q;subst p f q;obtain⟨z,g,d,tk,B⟩:=s;have r:∀j,(⟨z,g,d,j,B⟩:Shared).TypeIs (.ref a) "list":=λ_=>⟨_,n,rfl⟩
 have C:=sub_AttributeError;have D:=F.slot_list_getattribute.lookup;have G:=F.slot_list_getattribute.bind (.ref a);have H:=am_list_getattr_none;have i:typeLookup (.type "list") "keys"=pure none:=am_miss_of_fast (by kernel_rfl)
 unfold getAttr? getAttrBy? getAttrBy
 repeat (any_goals (first|assumption|exact r _ | ((with_reducible show wpAny _ _ (call (Value.builtin "list.__getattribute__") _ _) _ _ _);refine call_meets F.slot_list_getattribute (r _) am_entry_list_getattribute (F.args_list_getattribute_2 _ _) (meets_getattribute_miss_list a xs k y "keys" _ i (by decide) (by decide)) ⟨n,t,λm j e l=>?_⟩)|wp_step))
 obtain⟨I,J,K⟩:=l.there
 show wpAny _ _ (getattributeRaised _ _ _ _ _ _ _) _ _ _
 unfold getattributeRaised
 repeat (any_goals (first|assumption|wp_step))
 exact h _ _ λb o e=>l.keeps b o e
theorem eW:plainId "dict.update.loop"=true:=by decide +kernel
theorem eX:entryFor table "dict.update.loop"=some Builtin.«dict.update.loop» := entryFor_of_fast (by kernel_rfl)
variable{K:Type}[DecidableEq K]{knd:KeyKind prog w K}
theorem kZ{c d:Type}{F G:c->d->Prop}(h:∀a b,F a b->G a b):∀{xs:List c}{us:List d},Paired F xs us->Paired G xs us
 |_,_,.nil=>.nil
 |_,_,.cons r t=>.cons (h _ _ r) (kZ h t)
def k6(knd:KeyKind prog w K)(h:Heap)(p:K×Value)(u:Value):Prop:=∃b o a n,u=.ref b/\h.get? b=some o/\o.cls=.type "tuple"/\o.data=.seq #[a,p.2] n/\knd.is p.1 a=true
theorem qj{R:Result->Shared->Prop}{l it d:Addr}{items:List Value}{h₀:Heap}(hh:A.handled=none)(h:d≠it)(E:l≠d)(F:l≠it)(hl:h₀.IsList l items.toArray)(G:Value)(S:∀o,h₀.get? d=some o->o.cls≠.type "tuple")(U:∀o,h₀.get? it=some o->o.cls≠.type "tuple") :
  ∀(ps:List (K×Value)) (i:Nat) (t:Tok) (s:Shared) (c:List (K×Value)),Paired (k6 knd h₀) ps (items.drop i)->c.length+ps.length<=sizeLine->(∀b o,b≠d->b≠it->h₀.get? b=some o->s.heap.get? b=some o)->s.heap.IsListIter it l i->s.heap.DictOf knd d c ->
  (∀j tk,(∀b o,b≠d->b≠it->s.heap.get? b=some o->j.get? b=some o)->j.DictOf knd d (ps.foldl (λa p=>stored a p.1 p.2) c)->R (.ok (.ret G)) {s with heap:=j,toks:=tk}) ->
  codeAny (model prog w) A (.builtin "dict.update.loop" ⟨[.ref d,.ref it,.int i t,G],[]⟩) R s:=by
 intro ps
 induction ps with
 |nil=>
  intro i t s c H V I k X hR;refine codeAny_builtin eX ?_;have D:items.drop i=[]:=by generalize items.drop i=q at H;cases H;rfl
  have m:s.heap.IsList l items.toArray:=let ⟨o,y,r⟩:=hl;⟨o,I l o E F y,r⟩
  refine wpAny_bind (wpAny_pyNext_list_end hh k m (by simpa using List.drop_eq_nil_iff.mp D) λj eb=>?_)
  exact wpAny_bind (wpAny_pure (wpAny_pure (hR j s.toks (λb o _ Q e=>eb b o Q e) (X.extBut eb h))))
 |cons p ps ih=>
  intro i t s c H V I k X hR
  have D:∃u r,items.drop i=u::r/\k6 knd h₀ p u/\Paired (k6 knd h₀) ps r:=by
   generalize items.drop i=q at H;cases H with|cons a b=>exact⟨_,_,rfl,a,b⟩
  obtain⟨u,r,D,⟨b,o,g0,n,rfl,y,Y,J,L⟩,Z⟩:=D
  have hi:items[i]?=some (.ref b):=by
   have:=congrArg (·[0]?) D;simpa using this
  have hr:items.drop (i+1)=r:=by rw[←List.drop_drop,D];rfl
  have m:s.heap.IsList l items.toArray:=let ⟨o,y,r⟩:=hl;⟨o,I l o E F y,r⟩
  have a0:b≠d:=λe=>S o (e▸y) Y
  have M:b≠it:=λe=>U o (e▸y) Y
  refine codeAny_builtin eX ?_;refine wpAny_bind (wpAny_pyNext_list_item k m (x:=.ref b) (by simpa using hi) λh1 N z=>?_)
  have O:h1.get? b=some o:=(z.2 b M).trans (I b o a0 M y);have b0:h1.DictOf knd d c:=X.extBut z.extBut h;refine wpAny_bind (wpAny_holding (wpAny_bind (wpAny_tryCatch ?_)));unfold Builtin.Dict.pairItems;refine wpAny_bind (wpAny_typeOf (T:="tuple") ⟨o,O,Y⟩ ?_);rw[if_pos (by decide)]
  unfold seqItems?;refine wpAny_bind (wpAny_bind (wpAny_load O ?_));rw[J];refine wpAny_pure (wpAny_pure ?_);refine wpAny_holding (wpAny_dictSet_pairs L b0 (λQ c0 P=>?_) (by simp at V;omega))
  refine wpAny_pure ⟨plainId_quiet eW _,?_⟩;have keep:∀f g,f≠d->f≠it->s.heap.get? f=some g->Q.get? f=some g:=λf g B C e=>(P.2 f B).trans ((z.2 f C).trans e)
  have:=ih (i+1) 0 {s with heap:=Q,toks:=s.toks+1} (stored c p.1 p.2) (by rw[hr];exact Z) (by have:=stored_length_le c p.1 p.2;simp at V;omega) (λf g B C e=>keep f g B C (I f g B C e)) (N.at λo e=>(P.2 it (Ne.symm h)).trans e) c0 (λj tk e0 f0=>hR j tk (λf g B C e=>e0 f g B C (keep f g B C e)) f0)
  exact this
theorem k7{l:Addr}{o:Obj}{items:List Value}{n:Nat}{ps:List (K×Value)}{Q:Value->Shared->Prop}(Y:A.handled=none)(Z:s.heap.get? l=some o)(N:o.cls=.type "list")(f:o.data=.seq items.toArray n)(hd:o.dict=none)(hp:Paired (k6 knd s.heap) ps items)(O:ps.length<=sizeLine)
  (h:∀t tk,(∀b o,s.heap.get? b=some o->t.get? b=some o)->t.DictOf knd s.heap.objs.size (ps.foldl (λa p=>stored a p.1 p.2) [])->Q (.ref s.heap.objs.size) {s with heap:=t,toks:=tk}) :
  wpAny (model prog w) A (call (.type "dict") [.ref l]) Q E s:=by
 refine callType_codes (Q₁:=λx g=>x=.ref s.heap.objs.size/\g={s with heap:=s.heap.push {cls:=.type "dict",data:=.dict #[]} }) F.kt_called_dict (F.kt_typeCall_dict_1 _) F.entry_dict_init (kt_code_dict_new _ ⟨rfl,rfl⟩) ?_
 rintro x g ⟨rfl,rfl⟩;have c:(s.heap.push {cls:=.type "dict",data:=.dict #[]}).DictOf knd s.heap.objs.size []:=Heap.DictOf.new s.heap;have j:=Heap.get?_push_of_some {cls:=.type "dict",data:=.dict #[]} Z;refine⟨c.typeIs,F.args_dict_init_2 _ _,?_⟩;unfold Builtin.«dict.__init__»;refine wpAny_bind ?_;unfold Builtin.Dict.selfAndRest;refine wpAny_bind (wpAny_notOrdered_dict c.typeIs ?_);refine wpAny_pure ?_
 show wpAny _ _ (Builtin.Dict.updateFrom "dict.__init__" s.heap.objs.size (.ref l) [] .none) _ _ _
 unfold Builtin.Dict.updateFrom;refine wpAny_bind (wpAny_typeOf (T:="list") ⟨o,j,N⟩ ?_);rw[if_pos (by decide)]
 refine wpAny_bind (om (A:=A.in1.in1) j N f hd Y λi tk P=>?_)
 rw[if_pos (by decide)]
 refine wpAny_bind (wpAny_rule ?_);have y:i.IsList l items.toArray:=⟨o,P l o j,N,n,f⟩;refine wpAny_bind (wpAny_pyIter_list (s:={s with heap:=i,toks:=tk}) y ?_);refine wpAny_pure ⟨plainId_quiet eW _,?_⟩;have kp:=λb o e=>P b o (Heap.get?_push_of_some _ e)
 have z:i.DictOf knd s.heap.objs.size []:=let ⟨o,J,L,e,r⟩:=c;⟨o,J,L,P _ o e,r⟩
 have k:s.heap.objs.size<i.objs.size:=let ⟨o,_,_,e,_⟩:=z;Heap.lt_size e
 have B:l<s.heap.objs.size:=Heap.lt_size Z;generalize hq:i.push _=C;have M:∀b o,i.get? b=some o->C.get? b=some o:=λb o e=>by rw[←hq];exact Heap.get?_push_of_some _ e
 have D:C.IsListIter i.objs.size l 0:=by rw[←hq];exact⟨_,Heap.get?_push_size _ rfl,rfl,rfl⟩
 have G:C.DictOf knd s.heap.objs.size []:=let ⟨o,J,L,e,r⟩:=z;⟨o,J,L,M _ o e,r⟩
 have m:=qj (A:=A.in1) (R:=wants (λr H=>r=Value.none/\Q (Value.ref s.heap.objs.size) H) E) (knd:=knd) (h₀:=C) (l:=l) (it:=i.objs.size) (d:=s.heap.objs.size) (items:=items) Y (Nat.ne_of_lt k) (Nat.ne_of_lt B) (Nat.ne_of_lt (Nat.lt_trans B k))
  (let ⟨o,e,r⟩:=y;⟨o,M _ o e,r⟩) .none (λo e=>by
   obtain⟨o',J,L,I,q,_⟩:=G;rw[e]at I;cases I
   rw[q.1];decide) (λo e=>by
   obtain⟨o',I,q,_⟩:=D;rw[e]at I;cases I
   rw[q];decide) ps 0 0 {s with heap:=C,toks:=tk} [] (by
   rw[List.drop_zero]
   exact kZ (λp u S=>by
    obtain⟨b,o,m,n,e1,e2,r⟩:=S;exact⟨b,o,m,n,e1,M _ _ (kp _ _ e2),r⟩) hp) (by simpa using O) (λb o _ _ e=>e) D G (λt U V X=>?_)
 .exact m
 .refine⟨rfl,h t U (λb o e=>V b o ?_ ?_ (M _ _ (kp _ _ e))) X⟩
  .exact Nat.ne_of_lt (Heap.lt_size e)
  .exact Nat.ne_of_lt (Nat.lt_trans (Heap.lt_size e) k)
end
section
variable{X:Cx}
theorem BP{vs:List V}{c:Array Value}{P:Nat->Value->Prop}(h:ItemsOf P c vs.length)(j:∀(i:Nat) (u:Value) (v:V),P i u->vs[i]?=some v->RelV v u):Vals vs c.toList:=by
 have d:∀(l:List _) (vs:List V),l.length=vs.length->(∀(i:Nat) (u:Value) (v:V),l[i]?=some u->vs[i]?=some v->RelV v u)->Vals vs l:=by
  intro l
  induction l with
  |nil=>intro vs h _;cases vs with|nil=>exact .nil|cons a b=>simp at h
  |cons u l k=>
   intro vs h g;cases vs with
   |nil=>simp at h
   |cons v vs=>exact .cons (g 0 u v rfl rfl) (k vs (by simpa using h) λi m n e f=>g (i+1) m n (by simpa using e) (by simpa using f))
 exact d _ _ (by rw[Array.length_toList,h.1]) λi u v e f=>j i u v (h.2 i u (by simpa using e)) f
theorem r8(L:X.calm=true):d_ X (.type "dict") (λxs H Q=>∃a ys ps,xs=[V.ref a]/\Rd H a (.lst ys)/\Paired (λ(p:Key×V) (y:V)=>∃b,y=.ref b/\Rd H b (.tup [kV p.1,p.2])) ps ys/\∀l,H l=none->Q (.ref l) (upd H l (.dK (ps.foldl (λa p=>putK a p.1 p.2) [])))):=by
 intro pins s σ H xs M Q I r h;obtain⟨a,ys,ps,rfl,N,k,q⟩:=h;obtain⟨u,rfl,A⟩:=vals1 r;cases A;obtain⟨e,g,⟨o,n,O,B,C,i⟩,hz⟩:=I.list (.inl N)
 have D:∀{ps:List (Key×V)}{ys:List V}{e:List Value},Paired (λ(p:Key×V) (y:V)=>∃b,y=.ref b/\Rd H b (.tup [kV p.1,p.2])) ps ys->Vals ys e->∃f,KV ps f/\Paired (k6 (bW X.prog X.w) s.heap) f e:=by
  intro ps ys e k g
  induction k generalizing e with
  |nil=>cases g;exact⟨[],.nil,.nil⟩
  |@cons p y ps ys m _ t=>
   cases g with
   |@cons _ u _ M A g=>
    obtain⟨f,x,z⟩:=t g;obtain⟨b,rfl,P⟩:=m;cases (show u=Value.ref b from A)
    obtain⟨_,G,j,R,S,T,U,Y⟩:=(xq I.hok P);cases j with
    |@cons _ Z _ r1 rk j=>
     cases j with
     |@cons _ v' _ r2 E j=>
      cases j with
      |nil=>exact⟨(p.1,v')::f,.cons ⟨rfl,E⟩ x,.cons ⟨b,R,Z,U,rfl,S,T,Y,mK rk⟩ z⟩
 obtain⟨f,x,z⟩:=D k g;have hl:=x.length;have a0:=Paired.length k;refine k7 (knd:=bW X.prog X.w) (I.ok.hd L) O B i C z (by omega) λh' tk kp dd=>?_
 have hf:∀{ps:List (Key×V)}{f:List (Key×Value)} (c:List (Key×V)) (d:List (Key×Value)),KV c d->KV ps f->KV (ps.foldl (λa p=>putK a p.1 p.2) c) (f.foldl (λa p=>stored a p.1 p.2) d):=by
  intro ps f c d J r
  induction r generalizing c d with
  |nil=>exact J
  |@cons p q ps f m _ t=>
   simp only[List.foldl_cons];refine t _ _ ?_;rw[←m.1];exact J.put p.1 m.2
 have K:∀(ps:List (Key×V)) (c:List (Key×V)),(ps.foldl (λa p=>putK a p.1 p.2) c).length<=c.length+ps.length:=by
  intro ps
  induction ps with
  |nil=>intro c;simp
  |cons p ps t=>
   intro c;have z:=gh c p.1 p.2
   grind
 have F:(ps.foldl (λa p=>putK a p.1 p.2) []).length<=sizeLine:=by
  grind
 exact⟨.ref s.heap.objs.size,_,I.laid kp (Nat.le_refl _) (xr F (beq_eq_false_iff_ne.mpr (Ne.symm (Nat.ne_of_lt I.big))) (hf _ _ .nil x) dd),rfl,q _ (I.hok.fresh (Nat.le_refl _))⟩
end
section
variable{prog:Program}{w:World}{A:Around}{E:Value->Shared->Prop}{s:Shared}{d it:Addr}{o:Obj}{es:Array DictEntry}{i ep:Nat}
end
section
variable{X:Cx}{pins:List (Addr×Obj)}{σ:St}{H:Hp}{s:Shared}
end
end L2
namespace Mir
open PySem PySem.Spec PyProof.Rows L2
section
variable{X:Cx}{tg e:Expr}
def Ib(K:PySem.W.Frag)(d:TE):TI:=λe H R=>d e H λx b=>(∃a c,x=.ref a/\Rd b a (.lst c)/\R (Mu K a) b)\/(∃a c,x=.ref a/\Rd b a (.tup c)/\R (Mv K a) b)\/(∃y,x=.str y/\R (Pb y) b)\/Ia R x b
theorem BQ{m:TE}(n:PE X e m):PI X tg e (Ib X.K m):=by
 intro pins s p H R I h;refine cu (n pins s p H _ I h) λv c ⟨x,g,d,i,r⟩=>?_
 have j:∀b∈[c.heap.objs.size],l6 X pins g b:=λb u=>by
  obtain rfl:b=c.heap.objs.size:=by simpa using u
  exact d.u7 (Nat.le_refl _) (d.hok.fresh (Nat.le_refl _))
 rcases r with ⟨a,w,rfl,k,q⟩|⟨a,w,rfl,k,q⟩|⟨y,rfl,q⟩|q
 .cases i
  obtain⟨f,z,l,A⟩:=d.list (jS (K:=X.K) k);refine wpAny_pyIter_list l.isList ?_;exact⟨c.heap.objs.size,[c.heap.objs.size],_,_,g,rfl,d.kept (t':=c.toks) λb o e=>Heap.get?_push_of_some _ e,u9 a _,⟨_,Heap.get?_push_size _ rfl,rfl,rfl⟩,j,q⟩
 .cases i
  obtain⟨f,z,l,A⟩:=d.tuple (vp (K:=X.K) k);refine wpAny_pyIter_tuple (show c.heap.IsTuple a f.toArray from l) ?_
  exact⟨c.heap.objs.size,[c.heap.objs.size],_,_,g,rfl,d.kept (t':=c.toks) λb o e=>Heap.get?_push_of_some _ e,ro a _,⟨_,Heap.get?_push_size _ rfl,rfl,rfl⟩,j,q⟩
 .obtain⟨t,rfl⟩:=i
  refine wpAny_pyIter_strU ?_;exact⟨c.heap.objs.size,[c.heap.objs.size],_,_,g,rfl,d.kept (t':=c.toks) λb o e=>Heap.get?_push_of_some _ e,xW _ y t (strIterType y) (by unfold strIterType;split<;>simp),⟨_,Heap.get?_push_size _ rfl,rfl,rfl⟩,j,q⟩
 .exact BO d i q
end
end Mir
namespace L2
open PySem PySem.Spec PyProof.Rows
section
variable{prog:Program}{w:World}{A:Around}{E:Value->Shared->Prop}{s:Shared}
end
section
variable{X:Cx}{pins:List (Addr×Obj)}{σ:St}{H:Hp}{s:Shared}{a:Addr}
end
section
variable{prog:Program}{w:World}{K:Type}[DecidableEq K]{knd:HeapKind prog w K}{A:Around}{E:Value->Shared->Prop}{s:Shared}{d a:Addr}{k:K}{xs:List (K×Addr×Value)}
end
section
variable{X:Cx}{pins:List (Addr×Obj)}{σ:St}{H:Hp}{s:Shared}{a b:Addr}{kvs:List (List Key×V)}{k:List Key}{A:Around}{E:Value->Shared->Prop}
end
end L2
namespace Mir
open PySem PySem.Spec PyProof.Rows L2
variable [aw]
def jU(f g:List D->aA->ax D):List D->aA->ax D:=λa b=>kb (f a b) (g a b)
def yo(xs:List D)(Ω:aA):ax D:=match xs with
 |[x]=>match gs Ω x with
  |some a=>.ok (.int a.length) Ω
  |none=>.bad
 |_=>.bad
noncomputable def BR(xs:List D)(Ω:aA):ax D:=match xs with
 |[.ref k]=>match Ω[k]? with
  |some (.dT a)=>.ok (.int a.length) Ω
  |_=>.bad
 |_=>.bad
def qk(xs:List D)(Ω:aA):ax D:=match xs with
 |[x]=>match gs Ω x with
  |some a=>gk Ω (.lst a)
  |none=>.bad
 |_=>.bad
noncomputable def vE:Key->D
 |.inl i=>.int i
 |.inr x=>.str x
noncomputable def yp(Ω:aA)(x:D):Option (List (Key×D)):=match x with
 |.ref k=>(match Ω[k]? with
  |some (.dK a)=>some a
  |some (.dF a)=>some a
  |_=>none)
 |_=>none
def MM(a:List Key):D:=.tup (a.map vE)
def tZ:D->Option (Key×D)
 |.tup [k,v]=>(oh k).map λk=>(k,v)
 |_=>none
def qo(xs:List D)(Ω:aA):ax D:=match xs with
 |[x]=>match cT Ω x with
  |some b=>match bC tZ b with
   |some c=>gk Ω (.dK (c.foldl (λa p=>cK a p.1 p.2) []))
   |none=>.bad
  |none=>.bad
 |_=>.bad
def t5:List D->aA->ax D:=qo
def ig(xs:List D)(Ω:aA):ax D:=match xs with
 |[.tup a]=>.ok (.tup a) Ω
 |[x]=>match cT Ω x with
  |some a=>.ok (.tup a) Ω
  |none=>.bad
 |_=>.bad
def Fu:List D->Out Rs
 |[.str z]=>if small z.length then .ok (false,.int z.length)else .bad
 |_=>.bad
def Fv:List D->Out Rs
 |[.lst xs]=>match fj xs with|some bs=>.ok (false,.bl (bs.all id))|none=>.bad
 |_=>.bad
def Fw:List D->Out Rs
 |[.lst xs]=>match fj xs with|some bs=>.ok (false,.bl (bs.any id))|none=>.bad
 |_=>.bad
noncomputable def Fx:List D->Out Rs
 |[.int i,.int j]=>.ok (false,.int (if j<i then j else i))
 |_=>.bad
def vF:ji->List D->Out Rs
 |.len=>Fu
 |.all=>Fv
 |.any=>Fw
 |.min=>Fx
 |_=>λ_=>.bad
def r9(f:ji):List D->aA->ax D:=cW (vF f)
def bG(f:ji):List D->aA->ax D:=match f with
 |.len=>jU yo (jU BR (r9 .len))
 |.list=>qk
 |.tuple=>ig
 |f=>r9 f
section
variable{X:Cx}{κ:Str->Addr->Prop}{Φ:eQ}{α α' cm α1:List Addr}{Z Z' Z0 Z1:Addr->Prop}{Ω au:aA}{H H' H0 H1:Hp}{ρ:aK}{σ:L2.St}{Q Q':VK}{r:ax D}{a b e ce o:Expr}{rest:List Expr}{es:List Expr}{ma mb mc m mo:EM}{as:AM}{pos p apos cpos:Pos}
theorem r_{f g:List D->aA->ax D}:mN (jU f g) as=n_ (mN f as) (mN g as):=by
 funext b a
 simp only[mN,n_];cases as b a with
 |ok x c=>rfl
 |exc x a=>rfl
 |bad=>rfl
theorem ec{f:List D->aA->ax D}{id:String}{x:Str}{r:List V->Hp->VK->Prop}(h:d_ X (.builtin id) r)(i:Gl X x)(j:X.mg x=none)(k:bootBuiltins x=some (.builtin id))(l:x≠"__name__")(b:(x==("__debug__":Str))=false)
  (m:starEach (e::es) X.env=(false,eval e X.env)::starEach es X.env) (c:(backTo pos (starEach es X.env)).any (·.1)=false) (n:lY X κ Φ (e::es) as)
  (o:∀xs vs a Z Ω H Q,bc κ a Z Ω H->aD (av a Z H) xs vs->ck κ Φ a Z H (f xs Ω) Q->r vs H Q):bh X κ Φ (.Call (.Name x p) (e::es) [] pos) (mN f as):=by
 intro d q s t Ω;refine PE.imp (kD h i j k (n d q s t Ω) l b m c) ?_;rintro E H Q ⟨a,Z,S,g⟩;exact⟨a,Z,S,ph.use g λxs u _ vs w y z F A B C=>o xs vs _ z _ w Q A B C⟩
theorem k9{f:List D->aA->ax D}{id:String}{x:Str}{r:List V->Hp->VK->Prop}(h:d_ X (.type id) r)(i:Gl X x)(j:X.mg x=none)(k:bootBuiltins x=some (.type id))(l:x≠"__name__")(b:(x==("__debug__":Str))=false)
  (m:starEach (e::es) X.env=(false,eval e X.env)::starEach es X.env) (c:(backTo pos (starEach es X.env)).any (·.1)=false) (n:lY X κ Φ (e::es) as)
  (t:∀xs vs a Z Ω H Q,bc κ a Z Ω H->aD (av a Z H) xs vs->ck κ Φ a Z H (f xs Ω) Q->r vs H Q):bh X κ Φ (.Call (.Name x p) (e::es) [] pos) (mN f as):=by
 intro d o q s Ω;refine PE.imp (vh h i j k (n d o q s Ω) l b m c) ?_;rintro u H Q ⟨a,Z,S,g⟩;exact⟨a,Z,S,ph.use g (by grind)⟩
theorem fy:∀{ds:List D}{vs:List V},aW Z H ds vs->rP Z H ds vs
 |[],vs,h=>h.nil_inv
 |d::ds,vs,h=>by
  obtain⟨v,r,rfl,h1,h2⟩:=h.cons_inv;exact⟨v,r,rfl,h1.now,fy h2⟩
theorem yq{x:D}{v:V}{kvs:List (Key×D)}(S:bc κ α Z Ω H)(r:av α Z H x v)(h:yp Ω x=some kvs):∃a b,v=.ref a/\Rd H a (.dK b)/\j_ (av α Z H) kvs b:=by
 unfold yp at h;split at h
 .obtain⟨a,i,rfl⟩:=r
  split at h
  .rename_i d e
   cases h;obtain⟨j,c,b,f,g⟩:=S.cell e;rw[i]at c;cases c
   exact⟨a,_,rfl,.inl f,g⟩
  .rename_i d e
   cases h;obtain⟨j,c,k,b,f,g⟩:=S.cell e;rw[i]at c;cases c
   exact⟨a,_,rfl,.inr ⟨k,f⟩,g⟩
  .cases h
 .cases h
theorem Fy{kvs:List (Key×D)}{a:List (Key×V)}(S:bc κ α Z Ω H)(r:j_ (av α Z H) kvs a)(k:ck κ Φ α Z H (gk Ω (.dK kvs)) Q):∀p,H p=none->Q (.ref p) (upd H p (.dK a)):=λp b=>by
 obtain⟨d,e⟩:=S.laid (c:=.dK _) b λR hR=>⟨_,aG,r.imp hR⟩
 exact k _ _ _ _ e d (fx S p)
theorem m3:∀{ds:List D}{vs:List V}{ps:List (Key×D)},aD (av α Z H) ds vs->bC tZ ds=some ps->∃c,j_ (av α Z H) ps c/\Paired (λ(p:Key×V) (y:V)=>∃b,y=.ref b/\Rd H b (.tup [kV p.1,p.2])) c vs
 |[],vs,ps,r,h=>by cases h;rw[r.nil_inv];exact⟨[],.nil,.nil⟩
 |d::ds,vs,ps,r,h=>by
  simp only[bC]at h;split at h
  .rename_i y ys h1 h2
   cases h;obtain⟨v,f,rfl,g,i⟩:=r.cons_inv;obtain⟨c,j,k⟩:=m3 i h2;unfold tZ at h1;split at h1
   .obtain⟨l,m,rfl⟩:=Option.map_eq_some_iff.mp h1
    obtain⟨a,t,rfl,_,n,e⟩:=ez g;obtain⟨u,w,rfl,o,e⟩:=e.cons_inv;obtain⟨q,x,rfl,s,e⟩:=e.cons_inv;obtain rfl:=e.nil_inv;obtain rfl:=gp m o;exact⟨(l,q)::c,.cons ⟨rfl,s⟩ j,.cons ⟨a,rfl,.inl n⟩ k⟩
   .cases h1
  .cases h
theorem BS{xs:List D}{vs:List V}(S:bc κ α Z Ω H)(i:aD (av α Z H) xs vs)(g:ck κ Φ α Z H (qo xs Ω) Q):∃a ys ps,vs=[V.ref a]/\Rd H a (.lst ys)/\Paired (λ(p:Key×V) (y:V)=>∃b,y=.ref b/\Rd H b (.tup [kV p.1,p.2])) ps ys/\∀l,H l=none->Q (.ref l) (upd H l (.dK (ps.foldl (λa p=>putK a p.1 p.2) []))):=by
 unfold qo at g;split at g
 .split at g
  .rename_i x j
   split at g
   .rename_i ps k
    obtain⟨v,r,rfl,m,n⟩:=i.cons_inv;rw[n.nil_inv];obtain⟨a,ys,rfl,o,s⟩:=bf S m j;obtain⟨d,t,u⟩:=m3 s k;refine⟨a,ys,_,rfl,o,u,Fy S ?_ g⟩
    have:∀{ps:List _}{d:List _}{e:List _}{c:List (Key×V)},j_ _ e c->j_ (av α Z H) ps d->j_ (av α Z H) (ps.foldl (λa p=>cK a p.1 p.2) e) (d.foldl (λa p=>putK a p.1 p.2) c):=λ{ps d e c} f q=>by
     induction q generalizing e c with
     |nil=>exact f
     |@cons p q _ _ h _ w=>
      simp;refine w ?_;rw[h.1];exact f.put _ h.2
    exact this .nil t
   .exact g.elim
  .exact g.elim
 .exact g.elim
theorem yr(a:X.calm=true)(c:Gl X "dict")(d:X.mg "dict"=none)(f:starEach (e::es) X.env=(false,eval e X.env)::starEach es X.env)(b:(backTo pos (starEach es X.env)).any (·.1)=false)(h:lY X κ Φ (e::es) as):bh X κ Φ (.Call (.Name "dict" p) (e::es) [] pos) (mN t5 as):=k9 (r8 a) c d boot_dict (by decide) (by decide) f b h λj k l Z m H Q S i g=>BS S i g
theorem BU{f:ji}(i:X.calm=true)(O:f∈[ji.len,ji.all,ji.any,ji.list,ji.tuple,ji.min])(z:Gl X f.nm)(A:X.mg f.nm=none)
  (B:starEach (e::es) X.env=(false,eval e X.env)::starEach es X.env) (c:(backTo pos (starEach es X.env)).any (·.1)=false) (q:lY X κ Φ (e::es) as) :
  bh X κ Φ (.Call (.Name f.nm p) (e::es) [] pos) (mN (bG f) as):=by
 cases f with
 |len=>
  show bh X κ Φ _ (mN (jU yo (jU BR (r9 .len))) as)
  rw[r_,r_];refine bh.alt ?_ (bh.alt ?_ ?_)
  .refine ec nQ z A boot_len (by decide) (by decide) B c q ?_
   intro J P t Z u H Q S h g;unfold yo at g;split at g
   .split at g
    .rename_i s L
     obtain⟨v,r,rfl,o,w⟩:=h.cons_inv;rw[w.nil_inv];obtain⟨l,C,rfl,D,I⟩:=kY (K:=X.K) S o L;exact⟨l,C,rfl,D,by rw[I.length];exact ck.ret S (aR rfl) g⟩
    .exact g.elim
   .exact g.elim
  .refine ec vx z A boot_len (by decide) (by decide) B c q ?_
   intro J P t Z u H Q S h g;unfold BR at g;split at g
   .split at g
    .rename_i U V
     obtain⟨v,r,rfl,o,w⟩:=h.cons_inv;rw[w.nil_inv];simp only[av]at o;obtain⟨a,q,rfl⟩:=o;obtain⟨a',M,N,Y,h2⟩:=S.cell V;rw[q]at M;cases M
     exact⟨a,N,rfl,Y,by rw[h2.length];exact ck.ret S (aR rfl) g⟩
    .exact g.elim
   .exact g.elim
  .refine ec nR z A boot_len (by decide) (by decide) B c q ?_
   intro E F t Z u H Q S h g;obtain⟨s,G,d,j,b,k⟩:=gv (bw:=false) S h g;have j:=fy j;have m:=dc S;replace b:Fu s=_:=b;unfold Fu at b;split at b
   .obtain⟨x,rfl,n⟩:=j.one
    cases cO n;split at b
    .rename_i hs
     cases b;exact⟨_,rfl,br hs,ia m k rfl⟩
    .cases b
   .cases b
 |all=>
  refine ec (xT i) z A boot_all (by decide) (by decide) B c q ?_
  intro E F t Z u H Q S h g;obtain⟨s,G,d,j,b,k⟩:=gv (bw:=false) S h g;have j:=fy j;have m:=dc S;replace b:Fv s=_:=b;unfold Fv at b;split at b
  .obtain⟨x,rfl,n⟩:=j.one
   split at b
   .rename_i bs R
    cases b;exact⟨_,_,bs,x,rfl,n,R,ia m k rfl⟩
   .cases b
  .cases b
 |any=>
  refine ec (xU i) z A boot_any (by decide) (by decide) B c q ?_
  intro E F t Z u H Q S h g;obtain⟨s,G,d,j,b,k⟩:=gv (bw:=false) S h g;have j:=fy j;have m:=dc S;replace b:Fw s=_:=b;unfold Fw at b;split at b
  .obtain⟨x,rfl,n⟩:=j.one
   split at b
   .rename_i bs R
    cases b;exact⟨_,_,bs,x,rfl,n,R,ia m k rfl⟩
   .cases b
  .cases b
 |int=>simp at O
 |min=>
  refine ec (vf i) z A boot_min (by decide) (by decide) B c q ?_
  intro E F t Z u H Q S h g;obtain⟨s,G,d,j,b,k⟩:=gv (bw:=false) S h g;have j:=fy j;have m:=dc S;replace b:Fx s=_:=b;unfold Fx at b;split at b
  .obtain⟨x,y,rfl,n,n'⟩:=j.two
   cases a_ n;cases a_ n';cases b;exact⟨_,_,rfl,ia m k rfl⟩
  .cases b
 |max=>simp at O
 |list=>
  refine k9 nS z A boot_list (by decide) (by decide) B c q ?_
  intro J P t Z u H Q S h g;have g:ck κ Φ t Z H (qk J u) Q:=g;unfold qk at g;split at g
  .split at g
   .rename_i s L
    obtain⟨v,r,rfl,o,w⟩:=h.cons_inv;rw[w.nil_inv];obtain⟨l,C,rfl,D,I⟩:=kY (K:=X.K) S o L;exact⟨l,C,rfl,D,dq S I g⟩
   .exact g.elim
  .exact g.elim
 |tuple=>
  refine k9 l_ z A boot_tuple (by decide) (by decide) B c q ?_
  intro J P t Z u H Q S h g;have g:ck κ Φ t Z H (ig J u) Q:=g;unfold ig at g;split at g
  .obtain⟨v,r,rfl,o,w⟩:=h.cons_inv
   rw[w.nil_inv];have T:=o;obtain⟨l,C,rfl,_,D,I⟩:=ez o;exact⟨l,C,rfl,.inr ⟨vp (.inl D),ck.ret S T g⟩⟩
  .split at g
   .rename_i s L
    obtain⟨v,r,rfl,o,w⟩:=h.cons_inv;rw[w.nil_inv];obtain⟨l,C,rfl,D,I⟩:=bf S o L;exact⟨l,C,rfl,.inl ⟨jS D,p_ S I g⟩⟩
   .exact g.elim
  .exact g.elim
 |sorted=>simp at O
 |bool=>simp at O
def g_(xs:List D)(Ω:aA):ax D:=match xs with
 |[x]=>match cT Ω x with
  |some a=>match nU a with
   |.ok b=>gk Ω (.lst b)
   |_=>.bad
  |none=>.bad
 |_=>.bad
theorem qq:∀{ds:List D}{a:List Int}{vs:List V},xD ds=some a->aD (av α Z H) ds vs->vs=a.map V.int
 |[],a,vs,h,r=>by cases h;exact r.nil_inv
 |d::ds,a,vs,h,r=>by
  obtain⟨v,f,rfl,b,c⟩:=r.cons_inv;cases d with
  |int i=>
   obtain⟨g,e,rfl⟩:=Option.map_eq_some_iff.mp (h);rw[b,qq e c];rfl
  |_=>cases h
theorem qr:∀{ds:List D}{a:List Str}{vs:List V},mO ds=some a->aD (av α Z H) ds vs->vs=a.map V.str
 |[],a,vs,h,r=>by cases h;exact r.nil_inv
 |d::ds,a,vs,h,r=>by
  obtain⟨v,f,rfl,b,c⟩:=r.cons_inv;cases d with
  |str i=>
   obtain⟨g,e,rfl⟩:=Option.map_eq_some_iff.mp (h);rw[b,qr e c];rfl
  |_=>cases h
theorem iG{a:Type}{f:a->D}{g:a->V}(h:∀x,av α Z H (f x) (g x)):∀xs:List a,aD (av α Z H) (xs.map f) (xs.map g)
 |[]=>.nil
 |x::xs=>.cons (h x) (iG h xs)
theorem yt(l:Gl X "sorted")(m:X.mg "sorted"=none)(n:starEach (e::es) X.env=(false,eval e X.env)::starEach es X.env)(d:(backTo pos (starEach es X.env)).any (·.1)=false)(o:lY X κ Φ (e::es) as) :
  bh X κ Φ (.Call (.Name "sorted" p) (e::es) [] pos) (mN g_ as):=by
 refine ec vy l m (by decide +kernel) (by decide) (by decide) n d o ?_
 intro y z A Z B H Q S q g;unfold g_ at g;split at g
 .split at g
  .rename_i C s
   obtain⟨v,r,rfl,t,u⟩:=q.cons_inv;rw[u.nil_inv];obtain⟨a,E,rfl,k,c⟩:=bf S t s;split at g
   .rename_i F b
    unfold nU at b;split at b
    .cases b
    .rename_i w
     split at b
     .rename_i h i
      cases b;have j:=qq i c;subst j;exact⟨a,rfl,.inr ⟨h,jS k,(by have:=c.length;rw[List.length_map]at this;omega),dq S (iG (f:=D.int) (g:=V.int) (λx=>by simp only[av]) _) g⟩⟩
     .split at b
      .rename_i h i
       cases b;have j:=qr i c;subst j;exact⟨a,rfl,.inl ⟨h,jS k,(by have:=c.length;rw[List.length_map]at this;omega),dq S (iG (f:=D.str) (g:=V.str) (λx=>by simp only[av]) _) g⟩⟩
      .cases b
   .exact g.elim
  .exact g.elim
 .exact g.elim
def MN(t:Ty):D->aA->ax D:=yj λd=>match xE d t with|some b=>.ok (false,.bl b)|none=>.bad
noncomputable def Fz(t:Ty)(x:D)(Ω:aA):ax D:=match x with
 |.ref k=>match Ω[k]? with
  |some (.lst _)=>.ok (.bl (t==.list)) Ω
  |some (.dK _)=>.ok (.bl (t==.dict)) Ω
  |_=>.bad
 |.lst _=>.ok (.bl (t==.list)) Ω
 |.tup _=>.ok (.bl (t==.tuple)) Ω
 |_=>.bad
def gX(t:Ty):D->aA->ax D:=Fl (Fz t) (MN t)
def DT(K:PySem.W.Frag):List V->Hp->VK->Prop:=λd H Q=>∃a c t,d=[.ref a,.ty (Ty.id t)]/\((Rd H a (.lst c)/\Q (.bl (t==.list)) H)\/(Rd H a (.tup c)/\Q (.bl (t==.tuple)) H)\/(∃b,H a=some (.dK b)/\Q (.bl (t==.dict)) H))
theorem vG:d_ X (.builtin "isinstance") (DT X.K):=by
 intro pins s g H m n Q I r h;obtain⟨a,p,t,rfl,h⟩:=h;obtain⟨u,w,rfl,e,i⟩:=vals2 r;cases (i);obtain⟨x,y,A,B,f,j,k⟩:=tH X.K t;rcases h with ⟨b,q⟩|⟨b,q⟩|⟨l,b,q⟩
 .have d:∀c,EP X _ g Q _ _:=λc=>⟨.bl _,H,I.tok c,rfl,q⟩
  rcases b with b|⟨o,b⟩
  .exact cF I e (.lst b) f d
  .exact cF I e (.cL b) f d
 .cases e
  exact PySem.W.kia_one PySem.W.kitx_tuple I.fU (jz (K:=X.K) I b) j (λz=>nomatch z) (λc=>⟨.bl _,H,I.tok c,rfl,q⟩)
 .exact cF I e (.dK b) k (λc=>⟨.bl _,H,I.tok c,rfl,q⟩)
theorem BV{t:Ty}{f:Pos}(z:Gl X "isinstance")(A:X.mg "isinstance"=none)(s:Gl X t.nm)(u:X.mg t.nm=none)
  (n:starEach [a,Expr.Name t.nm f] X.env=(false,eval a X.env)::starEach [Expr.Name t.nm f] X.env) (h:(backTo pos (starEach [Expr.Name t.nm f] X.env)).any (·.1)=false) (o:bh X κ Φ a ma) :
  bh X κ Φ (.Call (.Name "isinstance" p) [a,.Name t.nm f] [] pos) (m1 (gX t) ma):=by
 have i:PE X (.Name t.nm f) (tC (.ty t.id)):=AN s u (Be t) rfl (by cases t<;>decide) (by cases t<;>decide)
 unfold gX;rw[Fm];refine bh.alt ?_ ?_
 .refine kc (r:=λx H Q=>DT X.K [x,.ty t.id] H Q) (λD w=>kD vG z A boot_isinstance (dX w (dX i je rfl) n) (by decide) (by decide) n h) o ?_
  intro E x F Z G H Q S e g;unfold Fz at g;split at g
  .split at g
   .rename_i k ds y
    obtain⟨a,j,rfl,c,B⟩:=bf (ds:=ds) S e (by simp only[cT,y])
    exact⟨a,j,t,rfl,.inl ⟨c,ck.ret S (aR rfl) g⟩⟩
   .rename_i k I y
    obtain⟨a,o,rfl⟩:=e;obtain⟨M,l,m,c,_⟩:=S.cell y;rw[o]at l;cases l
    exact⟨a,[],t,rfl,.inr (.inr ⟨m,c,ck.ret S (aR rfl) g⟩)⟩
   .exact g.elim
  .rename_i ds
   obtain⟨a,j,rfl,c,B⟩:=bf (ds:=ds) S e rfl;exact⟨a,j,t,rfl,.inl ⟨c,ck.ret S (aR rfl) g⟩⟩
  .obtain⟨a,j,rfl,_,c,B⟩:=ez e
   exact⟨a,j,t,rfl,.inr (.inl ⟨.inl c,ck.ret S (aR rfl) g⟩)⟩
  .exact g.elim
 .refine kc (r:=λx H Q=>HV X.K [x,.ty t.id] H Q) (λD w=>kD xV z A boot_isinstance (dX w (dX i je rfl) n) (by decide) (by decide) n h) o ?_
  intro E x F Z G H Q S e g;obtain⟨d,J,N,L,C,k⟩:=pZ (bw:=false) S e g;cases q:xE d t with
  |none=>grind
  |some b=>
   rw[q]at C;cases C;exact⟨_,d,x,t,b,rfl,L,q,ia (dc S) k rfl⟩
def cB(b:aA->D->Bool)(f:D->List D->aA->ax D)(e:EM)(as:AM):EM:=λd g=>(e d g).bind λx a=>if b a x=true then (as d a).bind λh c=>f x h c else .bad
def gY(Ω:aA)(x:D):Bool:=(cT Ω x).isSome
noncomputable def yu(_:aA)(x:D):Bool:=match x with
 |.str _=>true
 |_=>false
theorem oo{x:D}{v:V}{K:PySem.W.Frag}(S:bc κ α Z Ω H)(r:av α Z H x v)(h:gY Ω x=true):E5 K "list" v H:=by
 unfold gY at h;cases q:cT Ω x with
 |none=>grind
 |some d=>
  obtain⟨a,b,rfl,c,e⟩:=bf S r q;exact .inl ⟨rfl,b,jS c⟩
theorem BW{x:D}{v:V}{K:PySem.W.Frag}(S:bc κ α Z Ω H)(r:av α Z H x v)(h:yu Ω x=true):E5 K "str" v H:=by
 cases x with
 |str z=>subst r;rfl
 |_=>cases h
section
variable{T id:String}{name:Str}{r:V->List V->Hp->VK->Prop}{Kx:aA->D->Bool}{f:D->List D->aA->ax D}
theorem BX(m:PlainAttrs T)(slot:PySem.Slot T name id)(d:typeOf (.builtin id)=pure (.type "method_descriptor"))(n:GU X id r)
  (p:∀x v a Z Ω H,bc κ a Z Ω H->av a Z H x v->Kx Ω x=true->E5 X.K T v H)
  (q:∀x v xs vs a Z Ω H Q,bc κ a Z Ω H->av a Z H x v->aD (av a Z H) xs vs->ck κ Φ a Z H (f x xs Ω) Q->r v vs H Q)
  (b:attributeBase o name X.env (eval o X.env)=eval o X.env) (c:(apos.endLine==cpos.line)=true) (s:bh X κ Φ o mo):bh X κ Φ (.Call (.Attribute o name apos) [] [] cpos) (cB Kx f mo aj):=by
 intro e t u w Ω;refine PE.imp (L2.E7 m slot d n (s e t u w Ω) b c) ?_;rintro B H Q ⟨a,Z,S,g⟩;refine⟨a,Z,S,ck.use g λx y _ v i z j C k l h=>?_⟩
 split at h
 .rename_i A
  exact⟨p x v _ j _ i k l A,q x v [] [] _ j _ i Q k l .nil h⟩
 .exact h.elim
theorem yv{env:Env}:∀{a:List Expr},(∀e∈a,isStar e=false)->((backTo cpos (starEach a env)).all (λx=>!x.1))=true
 |[],_=>rfl
 |e::a,h=>by
  rw[aY (h e (by simp))]
  show(!false&&(backTo _ _).all _)=true
  rw[yv (by grind)];rfl
theorem oq(s:PlainAttrs T)(slot:PySem.Slot T name id)(i:typeOf (.builtin id)=pure (.type "method_descriptor"))(t:GU X id r)
  (O:∀x v a Z Ω H,bc κ a Z Ω H->av a Z H x v->Kx Ω x=true->E5 X.K T v H)
  (u:∀x v xs vs a Z Ω H Q,bc κ a Z Ω H->av a Z H x v->aD (av a Z H) xs vs->ck κ Φ a Z H (f x xs Ω) Q->r v vs H Q)
  (b:attributeBase o name X.env (eval o X.env)=eval o X.env) (c:(apos.endLine==cpos.line)=true) (w:bh X κ Φ o mo) (y:lY X κ Φ (e::es) as) (j:∀z∈e::es,isStar z=false) (l:(e::es).length<20):bh X κ Φ (.Call (.Attribute o name apos) (e::es) [] cpos) (cB Kx f mo as):=by
 intro d m n p Ω
 refine PE.imp (L2.HK s slot i t (w d m n p Ω) (PA.ex λh=>y d m n p h) b (by
  rw[yv j,decide_eq_true (by grind)];rfl) c (aY (by grind)) (bz (by grind))) ?_
 rintro P H Q ⟨a,Z,S,g⟩;refine⟨a,Z,S,ck.use g λx h _ v R A B C q D k=>?_⟩
 split at k
 .exact⟨by grind,_,_,B,S.grow C q,ph.use k λxs E _ vs F G I J L M N=>u x v xs vs _ I _ F Q L (q.cS J D) M N⟩
 .exact k.elim
end
noncomputable def qu(Ω:aA):D->Option (Nat×List D)
 |.ref k=>match Ω[k]? with
  |some (.lst ds)=>some (k,ds)
  |_=>none
 |_=>none
theorem iH{x:D}{v:V}{k:Nat}{ds:List D}(S:bc κ α Z Ω H)(r:av α Z H x v)(h:qu Ω x=some (k,ds)):∃a vs,v=.ref a/\α[k]?=some a/\H a=some (.lst vs)/\aD (av α Z H) ds vs:=by
 cases x with
 |ref n=>
  simp only[qu]at h;split at h
  .rename_i b c
   simp only[av]at r;obtain⟨e,d,vs,f,g⟩:=S.cell c
   grind
  .cases h
 |_=>cases h
theorem k_{k:Nat}{p:Addr}{ds:List D}{vs:List V}{d:D}{u:V}(S:bc κ α Z Ω H)(b:α[k]?=some p){e:List V}(i:H p=some (.lst e))(r:aD (av α Z H) ds vs)(f:av α Z H d u)(g:ck κ Φ α Z H (.ok d (Ω.set k (.lst ds))) Q):Q u (upd H p (.lst vs)):=by
 obtain⟨h,a⟩:=S.put (c:=.lst ds) b (λo u z=>by grind) λR hR=>⟨vs,aG,r.imp hR⟩
 exact g _ _ _ _ a h (S.cS a f)
def bH(x:D)(xs:List D)(Ω:aA):ax D:=match qu Ω x,xs with
 |some (k,a),[y]=>if small (a.length+1)then .ok .non (Ω.set k (.lst (a++[y])))else .bad
 |_,_=>.bad
def dr(x:D)(xs:List D)(Ω:aA):ax D:=match qu Ω x,xs with
 |some (k,a),[]=>.ok .non (Ω.set k (.lst a.reverse))
 |_,_=>.bad
def gJ(x:D)(xs:List D)(Ω:aA):ax D:=match qu Ω x,xs with
 |some (k,a),[y]=>match qu Ω y with
  |some (_,b)=>if small (a.length+b.length)then .ok .non (Ω.set k (.lst (a++b)))else .bad
  |none=>.bad
 |_,_=>.bad
def du(x:D)(xs:List D)(Ω:aA):ax D:=match xs with
 |[y]=>fZ (λa b=>match a with|.lst c=>rK .index (.lst c) (.tup [b])|_=>.bad) x y Ω
 |_=>.bad
def la(x:D)(xs:List D)(Ω:aA):ax D:=match xs with
 |[y]=>fZ (λa b=>rK .join a (.tup [b])) x y Ω
 |_=>.bad
theorem gK{R:D->V->Prop}{y:D}{vs:List V}(h:aD R [y] vs):∃v,vs=[v]/\R y v:=by
 obtain⟨v,r,rfl,a,b⟩:=h.cons_inv;rw[b.nil_inv];exact⟨v,rfl,a⟩
theorem BY{R:D->V->Prop}{y z:D}{vs:List V}(h:aD R [y,z] vs):∃v w,vs=[v,w]/\R y v/\R z w:=by
 obtain⟨v,r,rfl,a,b⟩:=h.cons_inv;obtain⟨w,rfl,c⟩:=gK b;exact⟨v,w,rfl,a,c⟩
theorem vH{x:D}{v:V}{xs:List D}{vs:List V}(S:bc κ α Z Ω H)(r:av α Z H x v)(rs:aD (av α Z H) xs vs)(g:ck κ Φ α Z H (bH x xs Ω) Q):tq v vs H Q:=by
 unfold bH at g;split at g
 .rename_i k j y d
  obtain⟨a,e,rfl,f,b,c⟩:=iH S r d;obtain⟨u,rfl,h⟩:=gK rs;split at g
  .rename_i i
   have:=br i;exact⟨a,e,u,rfl,rfl,b,by rw[c.length];omega,k_ S f b (c.append (.one h)) (aR rfl) g⟩
  .exact g.elim
 .exact g.elim
theorem sd{x:D}{v:V}{xs:List D}{vs:List V}(S:bc κ α Z Ω H)(r:av α Z H x v)(rs:aD (av α Z H) xs vs)(g:ck κ Φ α Z H (dr x xs Ω) Q):pF v vs H Q:=by
 unfold dr at g;split at g
 .rename_i k h c
  obtain⟨a,d,rfl,e,b,f⟩:=iH S r c;rw[rs.nil_inv];exact⟨a,d,rfl,rfl,b,k_ S e b f.reverse (aR rfl) g⟩
 .exact g.elim
theorem vI{x:D}{v:V}{xs:List D}{vs:List V}(S:bc κ α Z Ω H)(r:av α Z H x v)(rs:aD (av α Z H) xs vs)(g:ck κ Φ α Z H (gJ x xs Ω) Q):tr v vs H Q:=by
 unfold gJ at g;split at g
 .rename_i k q y f
  obtain⟨a,h,rfl,i,c,d⟩:=iH S r f;obtain⟨u,rfl,j⟩:=gK rs;split at g
  .rename_i n s l
   obtain⟨b,m,rfl,t,o,e⟩:=iH S j l;split at g
   .rename_i p
    exact⟨a,b,h,m,rfl,rfl,c,o,by rw[d.length,e.length];exact br p,k_ S i c (d.append e) (aR rfl) g⟩
   .exact g.elim
  .exact g.elim
 .exact g.elim
theorem yw{x:D}{v:V}{xs:List D}{vs:List V}(S:bc κ α Z Ω H)(r:av α Z H x v)(rs:aD (av α Z H) xs vs)(g:ck κ Φ α Z H (du x xs Ω) Q):xX v vs H Q:=by
 unfold du at g;split at g
 .obtain⟨u,rfl,c⟩:=gK rs
  obtain⟨d,e,f,n,h,i,a,k⟩:=gm (bw:=false) S r c g;cases d with
  |lst l=>
   (unfold rK at a;dsimp only at a)
   split at a
   .rename_i b
    simp only[Bool.and_eq_true]at b;split at a
    .rename_i j m
     cases a;exact⟨_,l,e,u,j,rfl,h,i,b.1,b.2,m,ia (dc S) k rfl⟩
    .cases a
   .cases a
  |_=>cases a
 .exact g.elim
theorem BZ{x:D}{v:V}{xs:List D}{vs:List V}(S:bc κ α Z Ω H)(r:av α Z H x v)(rs:aD (av α Z H) xs vs)(g:ck κ Φ α Z H (la x xs Ω) Q):rJoin v vs H Q:=by
 unfold la at g;split at g
 .obtain⟨u,rfl,c⟩:=gK rs
  obtain⟨d,e,f,n,h,i,a,k⟩:=gm (bw:=false) S r c g;cases d with
  |str z=>
   cases cO h;cases e with
   |lst j=>
    (unfold rK at a;dsimp only at a)
    split at a
    .rename_i l m
     split at a
     .rename_i b
      cases a;simp at b;exact⟨z,_,j,l,u,rfl,rfl,i,m,b.1,b.2,ia (dc S) k rfl⟩
     .cases a
    .cases a
   |_=>cases a
  |_=>cases e<;>cases a
 .exact g.elim
end
end Mir
namespace L2
open PySem PySem.Spec PyProof.Rows
noncomputable def Ky(a:Int)(n:Nat):It:=⟨λi _=>i<n,λi H x b=>b=H/\x=.int (a - i),λi _=>n<=i⟩
theorem vJ{P:Program}{w:World}{K:PySem.W.Frag}{C:Expr}(it:Addr)(d:Int)(n:Nat):Turn P w K C (Ky d n) [it] it (λi h=>IsRangeIter h it (d+(i:Nat)*(-1)) ((n:Int) - (i:Nat)) (-1)) where
 mem:=by simp
 obj:=λi h a b f=>by
  grind
 keep:=λi h g a k=>k it (by simp) _ a
 item:=by
  intro X y z A j i pins s B H E I l a m;subst y z A;obtain⟨p,q,D,r,u,x⟩:=l it (by simp)
  have W:=Walks.range (prog:=X.prog) (w:=X.w) (I.ok.hd j) it d (-1) n;refine W.item i s _ _ m a λv g F G c J=>?_
  obtain⟨t,rfl⟩:=G;have L:Inv X _ B H {s with heap:=g,toks:=F}:=I.turned (λb o f e=>J b o (by grind) e) p q r u x
  refine⟨_,rfl,mE c rfl rfl (by decide) ⟨.int _,H,L,⟨t,?_⟩,⟨rfl,rfl⟩,c,by grind⟩⟩
  grind
 done:=by
  intro X y z A j i pins s B H E I l a m;obtain⟨p,q,D,r,u,x⟩:=l it (by simp)
  exact wpAny_pyNext_range_end (I.ok.hd j) a (by have:n<=i:=m;omega) λg M=>⟨rfl,I.turned (λb o f e=>M b o f e) p q r u x⟩
 self:=λ_ _ _ _ _ a h=>wpAny_pyIter_rangeiter a h
section
variable{X:Cx}{tg:Expr}
theorem m4(a b:Int):Builtin.Range.rangeSize a b (-1)=((a - b).toNat:Int):=by
 unfold Builtin.Range.rangeSize
 grind
theorem small_down{a b:Int}(e : -(2 ^ 60)<a)(c:a<2 ^ 60)(f : -(2 ^ 60)<b)(d:b<2 ^ 60):Builtin.Range.small a b (-1)=true:=by
 unfold Builtin.Range.small;rw[m4];simp only[Builtin.Range.rangeFitsLong,Bool.and_eq_true,Bool.or_eq_true,decide_eq_true_eq,beq_iff_eq]
 grind
theorem B2{pins:List (Addr×Obj)}{σ:St}{H:Hp}{s:Shared}{R:It->Hp->Prop}{E:Value->Shared->Prop}{a c:Int}{t u v:Tok}{tk:Nat}(I:Inv X pins σ H s)(d:Builtin.Range.small a c (-1)=true)
  (q:R (Ky a (a - c).toNat) H):wpAny (model X.prog X.w) X.A (pyIter (.ref s.heap.objs.size)) (PIE X pins σ tg R) E {s with heap:=s.heap.push {cls:=.type "range",data:=.fields #[.int a t,.int c u,.int (-1) v]},toks:=tk}:=by
 refine wpAny_pyIter_range (IsRange.new ..) d ?_;have f:Inv X _ σ H {s with heap:=s.heap.push {cls:=.type "range",data:=.fields #[.int a t,.int c u,.int (-1) v]},toks:=tk}:=I.kept λb o e=>Heap.get?_push_of_some _ e
 refine⟨_,_,_,_,H,rfl,
  f.kept λb o e=>Heap.get?_push_of_some _ e,vJ _ a _,?_,λb i=>?_,q⟩
 .have g:a+((0:Nat))*(-1)=a:=by simp
  have h:(((a - c).toNat)) - ((0:Nat))=Builtin.Range.rangeSize a c (-1):=by rw[m4];omega
  rw[g,h];exact Heap.get?_push_size _ rfl
 .have e:b=(s.heap.push {cls:=.type "range",data:=.fields #[.int a t,.int c u,.int (-1) v]}).objs.size:=by grind
  subst e;exact f.u7 (Nat.le_refl _) (f.hok.fresh (Nat.le_refl _))
def Ic(a:TA):TI:=λb H R=>a b H λc d=>∃i j:Int,c=[.int i,.int j,.int (-1)]/\(-(2 ^ 60)<i/\i<2 ^ 60 /\ -(2 ^ 60)<j/\j<2 ^ 60)/\R (Ky i (i - j).toNat) d
theorem vK{a b c:Expr}{l:TA}{p pos:Pos}(m:Gl X "range")(n:X.mg "range"=none)(o:PA X [a,b,c] l)(u:starEach [a,b,c] X.env=(false,eval a X.env)::starEach [b,c] X.env)(f:(backTo pos (starEach [b,c] X.env)).any (·.1)=false) :
  PI X tg (.Call (.Name "range" p) [a,b,c] [] pos) (Ic l):=by
 intro pins s w H R I h;refine Call_ (fH I m n boot_range (PyProof.Rows.callWith_type1 (cu (o _ _ s w H _ I h) λD E ⟨F,H1,I1,x,g⟩=>?_) u f))
 obtain⟨i,j,e,⟨g,y,z,A⟩,q⟩:=g;subst e;cases x with
 |cons r d=>
  cases d with
  |cons B d=>
   cases d with
   |cons k d=>
    cases d;obtain⟨t,rfl⟩:=r;obtain⟨G,rfl⟩:=B;obtain⟨C,rfl⟩:=k;exact call_range_3 (by decide) (B2 I1 (small_down g y z A) q) (.inl (PyProof.noPylong_small (by decide)))
end
end L2
namespace Mir
open PySem PySem.Spec PyProof.Rows L2
variable [aw]
inductive Src where
 |seq (x:D)|ints (lo:Int) (n:Nat)|down (lo:Int) (n:Nat)|chars (z:Str)|MO (x:D)|keys (k:Nat)|items (k:Nat)
def fA:Src->aA->Option (List D)
 |.seq x,Ω=>gs Ω x
 |.ints lo n,_=>some (intsFrom lo n)
 |.down lo n,_=>some ((List.range n).map λi=>.int (lo - (i:Nat)))
 |.chars z,_=>some (z.cps.toList.map λc=>.str (cH c))
 |.MO x,Ω=>(cT Ω x).map (eu 0)
 |.keys k,Ω=>match Ω[k]? with
  |some (.dF kvs)=>some (kvs.map λa=>vE a.1)
  |some (.dG kvs)=>some (kvs.map λa=>MM a.1)
  |_=>none
 |.items k,Ω=>match Ω[k]? with
  |some (.dF kvs)=>some (kvs.map λa=>.tup [vE a.1,a.2])
  |_=>none
abbrev IM:=aK->aA->ax Src
def vL(κ:Str->Addr->Prop)(s:Src)(J:It)(j:List Addr)(Z:Addr->Prop)(H:Hp):Prop:=∀a f b c g,bD j Z H a f c->bc κ a f b c->fA s b=some g ->
 (∀(i:Nat) (d:D),g[i]?=some d->J.go i c/\∀x e,J.Ks i c x e->∃h,bD a f c a h e/\bc κ a h b e/\av a h e d x)/\∀i,g.length<=i->J.stop i c
def qv(κ:Str->Addr->Prop)(Φ:eQ)(e:List Addr)(Z:Addr->Prop)(H:Hp)(r:ax Src)(R:It->Hp->Prop):Prop:=match r with
 |.ok s b=>∀J c a d,bD e Z H a d c->bc κ a d b c->vL κ s J a d c->R J c
 |.exc x b=>∀c a d,bD e Z H a d c->bc κ a d b c->Φ x b a d c
 |.bad=>False
noncomputable def Qw(κ:Str->Addr->Prop)(Φ:eQ)(cm:List Addr)(Z0:Addr->Prop)(H0:Hp)(m:IM)(ρ:aK)(Ω:aA):TI:=λb H R=>∃a Z,b7 κ cm Z0 H0 a Z Ω ρ b H/\qv κ Φ a Z H (m ρ Ω) R
def vM(X:Cx)(κ:Str->Addr->Prop)(Φ:eQ)(b e:Expr)(m:IM):Prop:=∀a c d f g,PI X b e (Qw κ Φ a c d m f g)
def srcOf(Ω:aA)(x:D):ax Src:=match gs Ω x,x with
 |some _,x=>.ok (.seq x) Ω
 |none,.str z=>.ok (.chars z) Ω
 |none,.ref k=>(match Ω[k]? with
  |some (.dK a)=>.ok (.keys k) (Ω.set k (.dF a))
  |some (.dF _)=>.ok (.keys k) Ω
  |_=>.bad)
 |none,_=>.bad
def bg(m:EM):IM:=λb c=>(m b c).bind λx a=>srcOf a x
def yx(m:EM):IM:=λb c=>(m b c).bind λx a=>match cT a x with
 |some _=>.ok (.MO x) a
 |none=>.bad
def t6(xs:List D)(Ω:aA):ax Src:=match xs with
 |[.int j]=>if kG j then .ok (.ints 0 j.toNat) Ω else .bad
 |_=>.bad
def t7(xs:List D)(Ω:aA):ax Src:=match xs with
 |[.int i,.int j]=>if kG i&&kG j then .ok (.ints i (j - i).toNat) Ω else .bad
 |_=>.bad
noncomputable def t8(xs:List D)(Ω:aA):ax Src:=match xs with
 |[.int i,.int j,.int c]=>if -(2 ^ 60)<i/\i<2 ^ 60 /\ -(2 ^ 60)<j/\j<2 ^ 60/\c = -1 then .ok (.down i (i - j).toNat) Ω else .bad
 |_=>.bad
def yy(as:AM):IM:=λa b=>(as a b).bind t8
def gw(as:AM):IM:=λa b=>(as a b).bind t6
def yz(as:AM):IM:=λa b=>(as a b).bind t7
section
variable{X:Cx}{κ:Str->Addr->Prop}{Φ:eQ}{α α' cm α1:List Addr}{Z Z' Z0 Z1:Addr->Prop}{Ω au:aA}{H H' H0 H1:Hp}{ρ:aK}{σ:L2.St}{Q Q':VK}{r:ax D}{a b e ce o tg:Expr}{rest:List Expr}{es:List Expr}{ma mb mc m mo:EM}{as:AM}{pos p apos cpos tpos:Pos}
theorem qv.from{r:ax Src}{R:It->Hp->Prop}(g:bD α Z H α1 Z1 H1)(h:qv κ Φ α Z H r R):qv κ Φ α1 Z1 H1 r R:=by
 cases r with
 |ok d a=>exact λv b c e f=>h v b _ e (g.trans f)
 |exc x a=>exact λb c e f=>h b _ e (g.trans f)
 |bad=>exact h
theorem qv.use{r:ax D}{f:D->aA->ax Src}{R:It->Hp->Prop}(h:qv κ Φ α Z H (r.bind f) R)(k:∀d a,r=.ok d a->∀v c b e,bD α Z H b e c->bc κ b e a c->av b e c d v->qv κ Φ b e c (f d a) R->Q' v c):ck κ Φ α Z H r Q':=by
 cases r with
 |ok d a=>exact λv c b e g s q=>k d _ rfl v c _ e g s q (qv.from g h)
 |exc x a=>exact h
 |bad=>exact h
theorem qw{K:PySem.W.Frag}{x:D}{a:Addr}(o:av α Z H x (.ref a))(S:bc κ α Z Ω H)(p:(cT Ω x).isSome=true):vL κ (.seq x) (Mu K a) α Z H:=by
 intro q r b C t g s u;have c:=S.cS g o;have w:∀f,x≠.tup f:=λf e=>by subst e;cases p
 have h:cT b x=some t:=by
  cases x with
  |tup f=>grind
  |_=>exact u
 obtain⟨E,j,e,k,m⟩:=bf s c h;cases e;refine⟨λi d z=>?_,λi A=>⟨j,jS k,by rw[m.length];exact A⟩⟩
 obtain⟨v,n,B⟩:=m.get z;refine⟨⟨j,v,jS k,n⟩,λy F l=>?_⟩
 obtain⟨rfl,l⟩:=l;have:=l j (jS k);rw[n]at this;cases this;exact⟨r,bD.refl s.has,s,B⟩
theorem B3{K:PySem.W.Frag}{j:List D}{a:Addr}(m:av α Z H (.tup j) (.ref a))(S:bc κ α Z Ω H):vL κ (.seq (.tup j)) (Mv K a) α Z H:=by
 intro n o p w x g s q;have b:=S.cS g m;cases q;obtain⟨z,c,e,_,f,k⟩:=ez b;cases e;refine⟨λi d r=>?_,λi t=>⟨c,vp (.inl f),by rw[k.length];exact t⟩⟩
 obtain⟨v,l,u⟩:=k.get r;refine⟨⟨c,v,vp (.inl f),l⟩,λy A h=>?_⟩
 obtain⟨rfl,h⟩:=h;have:=h c (vp (.inl f));rw[l]at this;cases this;exact⟨o,bD.refl s.has,s,u⟩
theorem qx{k:Nat}{a:Addr}{o:Obj}{kvs:List (Key×V)}(w:α[k]?=some a)(y:H a=some (.cL o (.dK kvs))):vL κ (.keys k) (H_ a o) α Z H:=by
 intro z A B I J g s j;have l:=g.pre k a w;have b:=g.cL a _ _ y;simp only[fA]at j;split at j
 .rename_i e m
  cases j;obtain⟨C,c,D,f,n,r⟩:=s.cell m;rw[l]at c;cases c
  rw[b]at n;cases n
  have K:=r.length;refine⟨λi d u=>?_,λi L=>⟨_,b,by grind⟩⟩
  rw[List.getElem?_map]at u;obtain⟨p,E,rfl⟩:=Option.map_eq_some_iff.mp u;obtain⟨q,F,G,_⟩:=aD.get r E;refine⟨⟨_,b,by grind⟩,λx M t=>?_⟩
  obtain⟨rfl,t⟩:=t;obtain⟨N,h,rfl⟩:=t _ b;rw[F]at h;cases h
  refine⟨A,bD.refl s.has,s,?_⟩;rw[G];cases q.1<;>simp only[vE,kV,av]
 .rename_i e m
  obtain⟨C,c,D,f,n,r⟩:=s.cell m
  grind
 .cases j
theorem B4(h:bh X κ Φ e m):vM X κ Φ tg e (bg m):=by
 intro G O P Q T;refine PI.imp (BQ (h G O P Q T)) ?_;rintro σ H R ⟨U,Z,S,g⟩;refine⟨U,Z,S,qv.use g λx I _ v w k t g1 b r j=>?_⟩
 cases x with
 |tup M=>
  have l:=r;obtain⟨a,A,rfl,_,p,B⟩:=ez r;exact .inr (.inl ⟨a,A,rfl,.inl p,j _ w k t (bD.refl b.has) b (B3 l b)⟩)
 |lst M=>
  have l:=r;obtain⟨a,A,rfl,p,B⟩:=bf (ds:=M) b r rfl;exact .inl ⟨a,A,rfl,p,j _ w k t (bD.refl b.has) b (qw l b rfl)⟩
 |ref n=>
  cases s:cT I (.ref n)with
  |none=>
   simp only[srcOf,gs,s]at j;simp only[av]at r;obtain⟨a,C,rfl⟩:=r;split at j
   .rename_i D J
    obtain⟨V,q,f,p,B⟩:=b.cell J;rw[C]at q;cases q
    refine .inr (.inr (.inr ⟨a,f,rfl,.inl ⟨p,λo=>?_⟩⟩))
    obtain⟨E,N⟩:=b.put (o:=.cL o (.dK f)) (c:=.dF D) C (λo u z=>by rw[p]at z;cases z) λR hR=>⟨o,f,aG,B.imp hR⟩
    exact j _ _ k t N E (qx C aG)
   .rename_i D J
    obtain⟨V,q,o,f,p,B⟩:=b.cell J;rw[C]at q;cases q
    exact .inr (.inr (.inr ⟨a,f,rfl,.inr ⟨o,p,j _ w k t (bD.refl b.has) b (qx C p)⟩⟩))
   .exact j.elim
  |some ds=>
   simp only[srcOf,gs,s]at j;have l:=r;obtain⟨a,A,rfl,p,B⟩:=bf b r s;exact .inl ⟨a,A,rfl,p,j _ w k t (bD.refl b.has) b (qw l b (by rw[s];rfl))⟩
 |str z=>
  simp only[av]at r;subst r;refine .inr (.inr (.inl ⟨z,rfl,j _ w k t (bD.refl b.has) b ?_⟩));intro Y Z2 a0 H2 ds N E hs;cases hs;refine⟨λi d F=>?_,λi K=>by show z.cps.size<=i;simpa using K⟩
  have K:i<z.cps.size:=by
   have:=(List.getElem?_eq_some_iff.mp F).1;simpa using this
  refine⟨K,λy H3 hy=>?_⟩
  obtain⟨rfl,c,hc,rfl⟩:=hy;rw[List.getElem?_map]at F;have L:z.cps.toList[i]?=some c:=by simpa using hc
  rw[L]at F;cases F;exact⟨Z2,bD.refl E.has,E,aR rfl⟩
 |non=>exact j.elim
 |bl _=>exact j.elim
 |int _=>exact j.elim
 |dct _ _=>exact j.elim
theorem qy{b:Int}{n:Nat}:vL κ (.ints b n) (Hm b n) α Z H:=by
 intro e f h l m g s j;cases j;refine⟨λi d c=>?_,λi a=>by rw[kP]at a;exact a⟩
 have a:=(List.getElem?_eq_some_iff.mp c).1;rw[kP]at a;refine⟨a,λy o k=>?_⟩
 obtain⟨rfl,rfl⟩:=k;rw[ints_get _ _ _ _ c];exact⟨f,bD.refl s.has,s,aR rfl⟩
theorem qv.FA{r:ax (List D)}{f:List D->aA->ax Src}{R:It->Hp->Prop}{i:List V->Hp->Prop}(h:qv κ Φ α Z H (r.bind f) R)(k:∀ds a,r=.ok ds a->∀vs c b e,bD α Z H b e c->bc κ b e a c->aD (av b e c) ds vs->qv κ Φ b e c (f ds a) R->i vs c):ph κ Φ α Z H r i:=by
 cases r with
 |ok d a=>exact λv c b e g s q=>k d _ rfl v c _ e g s q (qv.from g h)
 |exc x a=>exact h
 |bad=>exact h
theorem yA(f:Gl X "range")(h:X.mg "range"=none)(i:lY X κ Φ [a] as)(j:starEach [a] X.env=[(false,eval a X.env)]):vM X κ Φ tg (.Call (.Name "range" p) [a] [] pos) (gw as):=by
 intro d k l m n;refine PI.imp (u_ f h (i d k l m n) j) ?_;rintro x H R ⟨o,Z,S,g⟩;refine⟨o,Z,S,qv.FA g λy q _ z r s t A e u b=>?_⟩
 unfold t6 at b;split at b
 .obtain⟨v,rfl,w⟩:=gK u
  subst w;split at b
  .rename_i c
   have c:=kH c;exact⟨_,rfl,c.1,c.2,b _ r _ t (bD.refl e.has) e qy⟩
  .exact b.elim
 .exact b.elim
theorem yB(k:Gl X "range")(l:X.mg "range"=none)(m:lY X κ Φ [a,b] as)(n:starEach [a,b] X.env=[(false,eval a X.env),(false,eval b X.env)])(d:starEach [b] X.env=[(false,eval b X.env)]):vM X κ Φ tg (.Call (.Name "range" p) [a,b] [] pos) (yz as):=by
 intro e o q r s;refine PI.imp (va k l (m e o q r s) n d) ?_;rintro D H R ⟨t,Z,S,g⟩;refine⟨t,Z,S,qv.FA g λE u _ F x y z G h A c=>?_⟩
 unfold t7 at c;split at c
 .obtain⟨v,w,rfl,B,C⟩:=BY A
  subst B C;split at c
  .rename_i f
   simp at f;have i:=kH f.1;have j:=kH f.2;exact⟨_,_,rfl,⟨i.1,i.2,j.1,j.2⟩,c _ x _ z (bD.refl h.has) h qy⟩
  .exact c.elim
 .exact c.elim
theorem yC{a:Int}{n:Nat}:vL κ (.down a n) (Ky a n) α Z H:=by
 intro e f h o p g s k;cases k;refine⟨λi d b=>?_,λi q=>by show n<=i;simp_all⟩
 rw[List.getElem?_map]at b;obtain⟨j,l,rfl⟩:=Option.map_eq_some_iff.mp b;obtain⟨r,c⟩:=List.getElem?_eq_some_iff.mp l;rw[List.getElem_range]at c;subst c;refine⟨by show i<n;simp_all,λy t m=>?_⟩
 obtain⟨rfl,rfl⟩:=m;exact⟨f,bD.refl s.has,s,aR rfl⟩
theorem yD{c:Expr}(i:Gl X "range")(j:X.mg "range"=none)(k:lY X κ Φ [a,b,c] as)(l:starEach [a,b,c] X.env=(false,eval a X.env)::starEach [b,c] X.env)(e:(backTo pos (starEach [b,c] X.env)).any (·.1)=false):vM X κ Φ tg (.Call (.Name "range" p) [a,b,c] [] pos) (yy as):=by
 intro f m n o q;refine PI.imp (vK i j (k f m n o q) l e) ?_;rintro N H R ⟨r,Z,S,g⟩;refine⟨r,Z,S,qv.FA g λO s _ P t u w Q h x d=>?_⟩
 unfold t8 at d;split at d
 .obtain⟨v1,y,rfl,z,A⟩:=x.cons_inv
  obtain⟨v2,B,rfl,C,D⟩:=A.cons_inv;obtain⟨T,E,rfl,F,G⟩:=D.cons_inv;obtain rfl:=G.nil_inv;subst z C F;split at d
  .rename_i I
   obtain⟨J,K,L,M,rfl⟩:=I;exact⟨_,_,rfl,⟨J,K,L,M⟩,d _ t _ w (bD.refl h.has) h yC⟩
  .exact d.elim
 .exact d.elim
noncomputable def ou(n:Nat)(d:D):Option aK:=match n,d with
 |0,d=>some [some d]
 |n,.tup a=>if a.length=n then some (a.map some)else none
 |_,_=>none
noncomputable def eT(cap:List Nat)(ρ:aK):aK:=cap.map λi=>(ρ[i]?).join
def jV(nc:Bool)(mc:EM)(ρ:aK)(Ω:aA):ax Bool:=if nc=true then .ok true Ω else dj (mc ρ Ω)
def t9(nc:Bool)(mc me:EM)(n:Nat)(b:aK)(src:Src):Nat->Nat->List D->aA->ax (List D)
 |0,_,_,_=>.bad
 |f+1,i,a,Ω=>match fA src Ω with
  |none=>.bad
  |some ds=>match ds[i]? with
   |none=>.ok a Ω
   |some d=>match ou n d with
    |none=>.bad
    |some c=>if small (a.length+1)then match jV nc mc (c++b) Ω with
     |.ok true rY=>match me (c++b) rY with
      |.ok y Kz=>t9 nc mc me n b src f (i+1) (a++[y]) Kz
      |_=>.bad
     |.ok false rY=>t9 nc mc me n b src f (i+1) a rY
     |_=>.bad else .bad
def cM(me:EM)(nc:Bool)(mc:EM)(mi:IM)(n:Nat)(cap:List Nat):EM:=λc d=>match mi c d with
 |.ok s a=>match t9 nc mc me n (eT cap c) s fuel 0 [] a with
  |.ok e b=>gk b (.lst e)
  |_=>.bad
 |.exc x a=>.exc x a
 |.bad=>.bad
noncomputable def gM:eQ:=λ_ _ _ _ _=>False
theorem qz{cap:List Nat}{ds:List D}{vs:List V}(S:b7 κ cm Z0 H0 α Z Ω ρ σ H)(g:bD α Z H α1 Z1 H1)(s:bc κ α1 Z1 au H1)(r:aD (av α1 Z1 H1) ds vs) :
  b7 κ α1 Z1 H1 α1 Z1 au (ds.map some++eT cap ρ) (vs.map some++pQ cap σ) H1:=by
 have e:=r.length;refine⟨s,bD.refl s.has,?_,λi d h=>?_⟩
 .rw[List.length_append,List.length_append,List.length_map]
  unfold pQ eT
  simp_all
 .by_cases f:i<ds.length
  .rw[List.getElem?_append_left (by simp_all),List.getElem?_map]at h
   rw[List.getElem?_append_left (by simp_all),List.getElem?_map]
   cases q:ds[i]? with
   |none=>rw[q]at h;cases h
   |some k=>
    rw[q]at h;cases h;obtain⟨v,b,a⟩:=r.get q;exact⟨v,by rw[b];rfl,a⟩
  .rw[List.getElem?_append_right (by simp_all)]at h
   rw[List.getElem?_append_right (by simp_all)]
   unfold eT at h;unfold pQ;rw[List.length_map,List.getElem?_map]at h;rw[List.length_map,e];cases q:cap[i - ds.length]? with
   |none=>simp_all
   |some j=>
    rw[q]at h;have h:=by simpa using h
    obtain⟨v,b,a⟩:=S.val j d (by
     cases c:ρ[j]? with
     |none=>rw[c]at h;cases h
     |some o=>rw[c]at h;rw[show o=some d from h])
    refine⟨v,?_,S.st.cS g a⟩
    simp_all
theorem bD.DU(g:bD α Z H α' Z' H'){a:Addr}{o:HO}(b:a∉α)(h:H a=some o):a∉α':=λq=>by
 rcases g.wK a q with q|q
 .exact b q
 grind
theorem bD.FC(g:bD α Z H α' Z' H'){a:Addr}{o:HO}(b:¬ Z a)(h:H a=some o)(c:∀vs,o≠.tup vs):¬ Z' a:=λq=>by
 rcases g.new a q with q|q|⟨_,vs,q⟩
 .exact b q
 .grind
 grind
theorem bD.side(g:bD α Z H α' Z' H'){a:Addr}{o:HO}(d:a∉α)(h:H a=Option.none):bD α Z H α' Z' (upd H' a o):=
 ⟨g.pre,g.sub,g.new,g.wK,λb u e c=>by rw[ao (aP e h)];exact g.frm b u e c,λb c=>by rw[ao (λ(q)=>d (by simp_all))];exact g.has b c,λb f u e=>by rw[ao (aP e h)];exact g.cL b f u e⟩
theorem B5{n:Nat}{d:D}{a:aK}(h:ou n d=some a):∃ds:List D,a=ds.map some:=by
 unfold ou at h;split at h
 .cases h;exact⟨[d],rfl⟩
 .grind
 .cases h
theorem bc.part(S:bc κ α Z Ω H){f:Addr}{vs:List V}{ds:List D}(h:H f=some (.lst vs))(j:f∉α)(k:¬ Z f)(r:aD (av α Z H) ds vs):bc κ (α++[f]) Z (Ω++[.lst ds]) H:=by
 have mono:∀d v,av α Z H d v->av (α++[f]) Z H d v:=λd v r=>r.mono (λn a e=>by rw[List.getElem?_append_left (List.getElem?_eq_some_iff.mp e).1];exact e) (λ_ _ _ e=>e) λ_ z=>z
 refine⟨?_,?_,λa ha g=>?_,S.dom⟩
 .refine List.nodup_append.mpr ⟨S.jT,by simp,λa ha b l e=>?_⟩
  simp_all
 .exact aD.append (S.vz.imp λc a i=>i.imp mono (λ_ e=>e) λ_ _ _ e=>e) (.one ⟨vs,h,r.imp mono⟩)
 .rcases List.mem_append.mp ha with ha|ha
  .exact S.sep a ha g
  simp_all
theorem bc.side(S:bc κ α Z Ω H){f:Addr}{o:HO}(n:f∉α)(m:¬ Z f)(p:∀o u,H f≠some (.cL o u)):bc κ α Z Ω (upd H f o)/\∀d v,av α Z H d v->av α Z (upd H f o) d v:=by
 have mono:∀d v,av α Z H d v->av α Z (upd H f o) d v:=λd v r=>r.mono (λ_ _ e=>e) (λa u z e=>by rwa[ao (λ(q)=>m (by simp_all))]) λ_ z=>z
 have k:∀{j:List _}{g:List _},(∀a∈g,a∈α)->aD (λc a=>fb κ (av α Z H) H a c) j g->aD (λc a=>fb κ (av α Z (upd H f o)) (upd H f o) a c) j g:=by
  intro j g i s
  induction s with
  |nil=>exact .nil
  |@cons c a j g r t w=>
   have l:a≠f:=λq=>n (q▸i a (by simp))
   exact .cons (r.imp mono (λu e=>by rwa[ao l]) λb x y e=>by rwa[ao (λq=>p x y (by simp_all))]) (w λb A=>i b (by simp[A]))
 exact⟨⟨S.jT,k (λa h=>h) S.vz,S.sep,λa z=>by rw[ao (λ(q)=>m (by simp_all))];exact S.dom a z⟩,mono⟩
end
section
variable{X:Cx}{κ:Str->Addr->Prop}{Φ:eQ}{tg iter elt:Expr}{ifs:List Expr}{scope:Scope}{tn cn:List Str}{cap:List Nat}{me mc:EM}{mi:IM}{nc:Bool}{pos:Pos}{n:Nat}
theorem vO{g:TG}(n0:vM X κ Φ tg iter mi)
  (o0:∀(d:D) (ds:List D) x p Z Ω H (m:L2.St) (k:L2.St->Hp->Prop),ou n d=some (ds.map some)->bc κ p Z Ω H->av p Z H d x->(∀vs,aD (av p Z H) ds vs->k (vs.map some++m) H)->g x (List.replicate tn.length none++m) H k)
  (hb:∀cl C h j fp,PG (blk X scope cl C (tn++cn) h j fp) tg g/\((ifs=[]/\nc=true)\/∃c,ifs=[c]/\nc=false/\gH (blk X scope cl C (tn++cn) h j fp) κ gM c mc)/\bh (blk X scope cl C (tn++cn) h j fp) κ gM elt me) :
  ∀cm Z0 H0 ρ Ω,∃wi tc te,PI X tg iter wi/\(∀cl C h j fp,PG (blk X scope cl C (tn++cn) h j fp) tg g/\Bf (blk X scope cl C (tn++cn) h j fp) ifs tc/\PE (blk X scope cl C (tn++cn) h j fp) elt te) /\
   ∀σ H Q,tO κ Φ cm Z0 H0 (cM me nc mc mi n cap) ρ Ω σ H Q->mP wi tn.length cap g tc te σ H Q:=by
 intro cm Z0 H0 ρ Ω
 let tc:TT:=λm H Q=>∃p Z Ω r,b7 κ p Z H p Z Ω r m H/\pf κ gM p Z H (jV nc mc r Ω) Q
 let te:TE:=λm H Q=>∃p Z Ω r,b7 κ p Z H p Z Ω r m H/\ck κ gM p Z H (me r Ω) Q
 have p0:∀cl C h j fp,PG (blk X scope cl C (tn++cn) h j fp) tg g/\Bf (blk X scope cl C (tn++cn) h j fp) ifs tc/\PE (blk X scope cl C (tn++cn) h j fp) elt te:=by
  intro cl C h j fp;obtain⟨h1,V,h3⟩:=hb cl C h j fp;refine⟨h1,?_,?_⟩
  .rcases V with ⟨e,hn⟩|⟨c,e,hn,V⟩
   .subst e
    intro pins s m H Q I q;obtain⟨p,Z,Ω,r,S,k⟩:=q;rw[jV,if_pos hn]at k;exact Bg pins s m H Q I (k H p Z (bD.refl S.st.has) S.st)
   .subst e
    intro pins s m H Q I q;obtain⟨p,Z,Ω,r,S,k⟩:=q;rw[jV,if_neg (by rw[hn];exact Bool.false_ne_true)]at k
    exact Bh (V p Z H r Ω) pins s m H Q I ⟨p,Z,S,k⟩
  .intro pins s m H Q I q
   obtain⟨p,Z,Ω,r,S,k⟩:=q;exact h3 p Z H r Ω pins s m H Q I ⟨p,Z,S,k⟩
 refine⟨_,tc,te,n0 cm Z0 H0 ρ Ω,p0,?_⟩;rintro σ H Q ⟨p,Z,S,k⟩;refine⟨p,Z,S,?_⟩;simp only[cM]at k;cases qi:mi ρ Ω with
 |exc x Y=>rw[qi]at k;exact k
 |bad=>rw[qi]at k;exact k.elim
 |ok a0 Y=>
  rw[qi]at k;dsimp only at k;intro J H1 G Z1 g1 s1 w1 B P;cases qg:t9 nc mc me n (eT cap ρ) a0 fuel 0 [] Y with
  |exc x e0=>rw[qg]at k;exact k.elim
  |bad=>rw[qg]at k;exact k.elim
  |ok ys e0=>
   rw[qg]at k;dsimp only at k;have R:¬ Z1 B:=λz=>s1.dom B z P
   have A:B∉G:=λz=>s1.has B z P
   refine⟨λi f vs T=>∃t U w E,bD G Z1 H1 t U T/\bc κ t U w T/\B∉t/\¬ U B/\T B=some (.lst vs)/\aD (av t U T) E vs/\t9 nc mc me n (eT cap ρ) a0 f i E w=.ok ys e0,
    ⟨fuel,G,Z1,Y,[],?_,?_,A,R,aG,.nil,qg⟩,?_⟩
   .exact⟨λ_ _ e=>e,λ_ z=>z,λ_ z=>.inl z,λ_ z=>.inl z,λa o e _=>by rw[ao (aP e P)];exact e,λa ha=>by rw[ao (λ(q:a=B)=>A (by rw[←q];exact ha))];exact s1.has a ha,λa o u e=>by rw[ao (aP e P)];exact e⟩
   .exact(s1.side A R λo u z=>by rw[P]at z;cases z).1
   rintro i f vs T ⟨t,U,w,E,F,s2,nD,nZ,K,r2,l⟩;refine⟨K,?_⟩;cases f with
   |zero=>cases l
   |succ f=>
    simp only[t9]at l;cases qs:fA a0 w with
    |none=>rw[qs]at l;cases l
    |some ds=>
     rw[qs]at l;dsimp only at l;obtain⟨q0,r0⟩:=w1 t U w T ds F s2 qs;cases qd:ds[i]? with
     |none=>
      rw[qd]at l;cases l;have hi:ds.length<=i:=List.getElem?_eq_none_iff.mp qd;refine .inl ⟨r0 i hi,?_⟩;have sf:=s2.part K nD nZ r2
      have gA:bD G Z1 H1 (t++[B]) U T:=⟨λn a e=>by rw[List.getElem?_append_left (List.getElem?_eq_some_iff.mp (F.pre n a e)).1];exact F.pre n a e,F.sub,λa z=>by
       rcases F.new a z with z|z|⟨h1,vs,V⟩
       .exact .inl z
       .exact .inr (.inl z)
       .exact .inr (.inr ⟨λq=>(List.mem_append.mp q).elim h1 (λq=>by rw[List.mem_singleton.mp q,P]at V;exact nomatch V),vs,V⟩),λa ha=>by
       rcases List.mem_append.mp ha with ha|ha
       .exact F.wK a ha
       .rw[List.mem_singleton.mp ha];exact .inr P,F.frm,F.has,F.cL⟩
      exact k _ T _ U (g1.trans gA) sf (fx s2 B)
     |some d=>
      rw[qd]at l;dsimp only at l;obtain⟨s0,t0⟩:=q0 i d qd;cases qt:ou n d with
      |none=>rw[qt]at l;cases l
      |some ts=>
       rw[qt]at l;dsimp only at l;obtain⟨es,rfl⟩:=B5 qt
       by_cases L:small (E.length+1)=true
       .rw[if_pos L]at l
        have L:=br L;refine .inr ⟨s0,by rw[r2.length];omega,λx H3 yl=>?_⟩
        obtain⟨Z3,g3,s3,rx⟩:=t0 x H3 yl;have u0:=g3.FC nZ K (λ_=>by simp)
        have b0:=g3.frm B _ K nD;refine o0 d es x t Z3 w H3 (pQ cap σ) _ qt s3 rx λws f0=>?_
        have gB:=g1.trans (F.trans g3);have SB:=qz (cap:=cap) S gB s3 f0;refine⟨t,Z3,w,_,SB,?_⟩;cases qc:jV nc mc (es.map some++eT cap ρ) w with
        |exc x M=>rw[qc]at l;cases l
        |bad=>rw[qc]at l;cases l
        |ok b M=>
         rw[qc]at l;intro H5 g0 Z5 N s5;have c0:=N.DU nD b0;have h0:=N.FC u0 b0 (λ_=>by simp)
         have O:=N.frm B _ b0 nD;cases b with
         |false=>
          refine pM ?_;exact⟨f,Nat.lt_succ_self _,g0,Z5,M,E,F.trans (g3.trans N),s5,c0,h0,O,s3.kW N (s2.kW g3 r2),l⟩
         |true=>
          refine pN ?_;dsimp only at l;have SC:=qz (cap:=cap) S (gB.trans N) s5 (s3.kW N f0);refine⟨g0,Z5,M,_,SC,?_⟩;cases qe:me (es.map some++eT cap ρ) M with
          |exc x i0=>rw[qe]at l;cases l
          |bad=>rw[qe]at l;cases l
          |ok y i0=>
           rw[qe]at l;intro v H6 v0 Z6 g6 s6 rv;have j0:=g6.DU c0 O;have l0:=g6.FC h0 O (λ_=>by simp)
           have m0:=g6.frm B _ O c0;obtain⟨s7,m7⟩:=s6.side (o:=.lst (vs++[v])) j0 l0 (λo u z=>by rw[m0]at z;cases z)
           refine⟨m0,f,Nat.lt_succ_self _,v0,Z6,i0,E++[y],((F.trans (g3.trans N)).trans g6).side A P,s7,j0,l0,aG,?_,l⟩;exact((s5.kW g6 (s3.kW N (s2.kW g3 r2))).append (.one rv)).imp m7
       .rw[if_neg L]at l;cases l
theorem lb{x:Str}{g:Pos}(h:vM X κ Φ (.Name x g) iter mi)(q:scope.names.lookup x=some .local)(i:([x]++cn).Nodup)
  (s:∀cl C b f fp,((ifs=[]/\nc=true)\/∃c,ifs=[c]/\nc=false/\gH (blk X scope cl C ([x]++cn) b f fp) κ gM c mc)/\bh (blk X scope cl C ([x]++cn) b f fp) κ gM elt me) :
  ∀cm Z0 H0 ρ Ω,∃l m n,PI X (.Name x g) iter l/\(∀cl C b f fp,PG (blk X scope cl C ([x]++cn) b f fp) (.Name x g) (iq 0)/\Bf (blk X scope cl C ([x]++cn) b f fp) ifs m/\PE (blk X scope cl C ([x]++cn) b f fp) elt n) /\
   ∀σ H Q,tO κ Φ cm Z0 H0 (cM me nc mc mi 0 cap) ρ Ω σ H Q->mP l [x].length cap (iq 0) m n σ H Q:=by
 have o:(relabel _ X.env).names.lookup x=some _:=lookup_relabel_local q;refine vO h (λd p y B Z Ω H t k j S u w=>?_) λcl C b f fp=>?_
 .have e:p=[d]:=by
   injection j with j;cases p with
   |nil=>cases j
   |cons a r=>
    simp_all
  subst e;exact w _ (.one u)
 .obtain⟨z,A⟩:=s cl C _ _ fp
  exact⟨j7 i rfl (.inl o) (.inr o),z,A⟩
theorem yF{x:Str}{f:Pos}(g:X.calm=true)(B:jA X scope [x] cn cap)(h:∀z,foldedSetIterable iter X.env z=pure z)(d:vM X κ Φ (.Name x f) iter mi)(i:scope.names.lookup x=some .local)(e:([x]++cn).Nodup)
  (j:∀cl C a b fp,((ifs=[]/\nc=true)\/∃c,ifs=[c]/\nc=false/\gH (blk X scope cl C ([x]++cn) a b fp) κ gM c mc)/\bh (blk X scope cl C ([x]++cn) a b fp) κ gM elt me) :
  bh X κ Φ (.ListComp elt [⟨.Name x f,iter,ifs,0⟩] scope pos) (cM me nc mc mi 0 cap):=by
 intro k l m n o;obtain⟨s,t,u,p,q,r⟩:=lb d i e j _ l m n o;exact PE.imp (Bi g B p h (jB 1 (by decide)) q) r
end
end Mir
namespace L2
open PySem PySem.Spec PyProof.Rows
section
variable{prog:Program}{w:World}{A:Around}{E:Value->Shared->Prop}
end
variable{X:Cx}
end L2
namespace Mir
open PySem PySem.Spec PyProof.Rows L2
variable [aw]
inductive fB where
 |nx (ρ:aK) (Ω:aA)|bk (ρ:aK) (Ω:aA)|ct (ρ:aK) (Ω:aA)|rt (d:D) (Ω:aA)|exc (x:D) (Ω:aA)|bad
abbrev SM:=aK->aA->fB
def dv(κ:Str->Addr->Prop)(Φ:eQ)(cm:List Addr)(Z0:Addr->Prop)(H0:Hp)(E:Ends):fB->Prop
 |.nx ρ Ω=>∀σ H a Z,b7 κ cm Z0 H0 a Z Ω ρ σ H->E.nx σ H
 |.bk ρ Ω=>∀σ H a Z,b7 κ cm Z0 H0 a Z Ω ρ σ H->E.bk σ H
 |.ct ρ Ω=>∀σ H a Z,b7 κ cm Z0 H0 a Z Ω ρ σ H->E.ct σ H
 |.rt d Ω=>∀v H a Z,bD cm Z0 H0 a Z H->bc κ a Z Ω H->av a Z H d v->E.rt v H
 |.exc x Ω=>∀H a Z,bD cm Z0 H0 a Z H->bc κ a Z Ω H->Φ x Ω a Z H
 |.bad=>False
noncomputable def FD(κ:Str->Addr->Prop)(Φ:eQ)(cm:List Addr)(Z0:Addr->Prop)(H0:Hp)(c:SM)(ρ:aK)(Ω:aA):TS:=λE a H=>∃b Z,b7 κ cm Z0 H0 b Z Ω ρ a H/\dv κ Φ cm Z0 H0 E (c ρ Ω)
def gZ(X:Cx)(κ:Str->Addr->Prop)(Φ:eQ)(st:Stmt)(c:SM):Prop:=∀a b d e f,PS X st (FD κ Φ a b d c e f)
def jW(X:Cx)(κ:Str->Addr->Prop)(Φ:eQ)(a:List Stmt)(c:SM):Prop:=∀b d e f g,gb X a (FD κ Φ b d e c f g)
noncomputable def cw{c:Type}(r:ax c)(k:c->aA->fB):fB:=match r with
 |.ok a b=>k a b
 |.exc x b=>.exc x b
 |.bad=>.bad
noncomputable def aq:SM:=λa b=>.nx a b
noncomputable def ak(a b:SM):SM:=λe f=>match a e f with
 |.nx c d=>b c d
 |r=>r
def aE(i:Nat)(m:EM):SM:=λb c=>cw (m b c) λd a=>.nx (b.set i (some d)) a
def eg(m:EM):SM:=λb c=>cw (m b c) λ_ a=>.nx b a
def cf(m:EM):SM:=λb c=>cw (m b c) λd a=>.rt d a
noncomputable def yG:SM:=λ_ a=>.rt .non a
def eU(m:EM)(a b:SM):SM:=λd e=>cw (dj (m d e)) λt c=>if t=true then a d c else b d c
noncomputable def dw:SM:=λ_ _=>.bad
def f9(m:EM)(b:SM):Nat->SM
 |0,_,_=>.bad
 |f+1,ρ,Ω=>cw (dj (m ρ Ω)) λt c=>if t=true then (match b ρ c with
  |.nx a au=>f9 m b f a au
  |.ct a au=>f9 m b f a au
  |.bk a au=>.nx a au
  |r=>r)else .nx ρ c
def lg(m:EM)(b:SM):SM:=f9 m b fuel
noncomputable def fO:List Nat->List D->aK->aK
 |i::a,d::ds,ρ=>fO a ds (ρ.set i (some d))
 |_,_,ρ=>ρ
noncomputable def bN(i:Nat)(d:D)(ρ:aK):Option aK:=some (ρ.set i (some d))
def jF(a:List Nat)(d:D)(ρ:aK):Option aK:=match d with
 |.tup b=>if b.length=a.length then some (fO a b ρ)else none
 |_=>none
def eh(c:D->aK->Option aK)(src:Src)(b:SM):Nat->Nat->SM
 |0,_,_,_=>.bad
 |f+1,i,ρ,Ω=>match fA src Ω with
  |none=>.bad
  |some ds=>match ds[i]? with
   |none=>.nx ρ Ω
   |some d=>match c d ρ with
    |none=>.bad
    |some e=>match b e Ω with
     |.nx a au=>eh c src b f (i+1) a au
     |.ct a au=>eh c src b f (i+1) a au
     |.bk a au=>.nx a au
     |r=>r
def dM(a:D->aK->Option aK)(mi:IM)(b:SM):SM:=λd e=>cw (mi d e) λs c=>eh a s b fuel 0 d c
def FE(e:List Nat)(m:EM):SM:=λc f=>cw (m c f) λd a=>match jF e d c with
 |some b=>.nx b a
 |none=>.bad
section
variable{X:Cx}{κ:Str->Addr->Prop}{Φ:eQ}{α α' cm α1:List Addr}{Z Z' Z0 Z1:Addr->Prop}{Ω au:aA}{H H' H0 H1:Hp}{ρ:aK}{σ:L2.St}{E:Ends}{a b e ce o tg:Expr}{st:Stmt}{rest ta tb:List Stmt}{m:EM}{mi:IM}{ca cb:SM}{pos pos':Pos}
theorem b7.set(S:b7 κ cm Z0 H0 α Z Ω ρ σ H){d:D}{v:V}(r:av α Z H d v)(i:Nat):b7 κ cm Z0 H0 α Z Ω (ρ.set i (some d)) (σ.set i (some v)) H:=by
 refine⟨S.st,S.gr,by simp[S.len],λj b h=>?_⟩
 by_cases a:i=j
 .subst a
  have c:=by
   have:=(List.getElem?_eq_some_iff.mp h).1;simpa using this
  rw[List.getElem?_set_self c]at h;cases h;exact⟨v,by rw[List.getElem?_set_self (by rwa[S.len])],r⟩
 .rw[List.getElem?_set_ne a]at h ⊢
  exact S.val j b h
theorem dv.use{r:ax D}{k:D->aA->fB}{Q:VK}(S:b7 κ cm Z0 H0 α Z Ω ρ σ H)(f:dv κ Φ cm Z0 H0 E (cw r k))(h:∀d a v c b e,r=.ok d a->bD α Z H b e c->b7 κ cm Z0 H0 b e a ρ σ c->av b e c d v->dv κ Φ cm Z0 H0 E (k d a)->Q v c):ck κ Φ α Z H r Q:=by
 cases r with
 |ok d a=>exact λv c b e g s q=>h d _ v c _ e rfl g (S.grow g s) q f
 |exc x a=>exact λc b e g s=>f c _ e (S.gr.trans g) s
 |bad=>exact f
theorem dv.Ie{r:ax Bool}{k:Bool->aA->fB}{Q:Bool->Hp->Prop}(S:b7 κ cm Z0 H0 α Z Ω ρ σ H)(f:dv κ Φ cm Z0 H0 E (cw r k))(h:∀t a c b e,r=.ok t a->bD α Z H b e c->b7 κ cm Z0 H0 b e a ρ σ c->dv κ Φ cm Z0 H0 E (k t a)->Q t c):pf κ Φ α Z H r Q:=by
 cases r with
 |ok d a=>exact λc b e g s=>h d _ c _ e rfl g (S.grow g s) f
 |exc x a=>exact λc b e g s=>f c _ e (S.gr.trans g) s
 |bad=>exact f
theorem gb.ex{b:Type}{t:b->TS}{a:List Stmt}(h:∀i,gb X a (t i)):gb X a (λD σ H=>∃i,t i D σ H):=λpins s σ H D I ⟨i,q⟩=>h i _ s σ H D I q
theorem t_:jW X κ Φ [] aq:=by
 intro a d e g h;refine gb.imp AO ?_;rintro E b H ⟨c,Z,S,f⟩;exact f b H c Z S
theorem qA(j:gZ X κ Φ st ca)(k:jW X κ Φ rest cb):jW X κ Φ (st::rest) (ak ca cb):=by
 intro c e g h i;refine gb.imp (wR (j c e g h i) (gb.ex λp:aK×aA=>k c e g p.1 p.2)) ?_
 rintro E s H ⟨l,Z,S,f⟩;refine⟨l,Z,S,?_⟩;simp only[ak]at f;cases q:ca h i with
 |nx b a=>rw[q]at f;exact λm t n o r=>⟨(b,a),_,o,r,f⟩
 |bk b a=>rw[q]at f;exact f
 |ct b a=>rw[q]at f;exact f
 |rt d a=>rw[q]at f;exact f
 |exc x a=>rw[q]at f;exact f
 |bad=>rw[q]at f;exact f.elim
theorem yH:gZ X κ Φ (.Return none pos) yG:=by
 intro a c d e g;refine PS.imp AQ ?_;rintro E h H ⟨b,Z,S,f⟩;exact f _ H b Z S.gr S.st (aR rfl)
theorem ua(h:bh X κ Φ e m):gZ X κ Φ (.Return (some e) pos) (cf m):=by
 intro a c i j k;refine PS.imp (Ez (h a c i j k)) ?_;rintro E t H ⟨l,Z,S,f⟩;exact⟨l,Z,S,dv.use S f λd n v o p q _ g b r s=>s v o _ q b.gr b.st r⟩
theorem ow{i:Nat}{x:Str}(b:X.N.Nodup)(c:X.N[i]?=some x)(j:Loc X.env.scope x)(k:X.fn x=true\/X.env.scope.names.lookup x=some .local)(l:swapsWith e (some (.Name x pos')) pos.line X.env=pure false)(h:bh X κ Φ e m) :
  gZ X κ Φ (.Assign [.Name x pos'] e pos) (aE i m):=by
 intro a n o p q;refine PS.imp (ED b c j (h a n o p q) l k) ?_;rintro E B H ⟨s,Z,S,f⟩;exact⟨s,Z,S,dv.use S f λd t v u w y _ g z r A=>A _ u _ y (z.set r i)⟩
theorem yJ{i:Nat}{x:Str}{e iter o:Expr}{k:List Expr}{scope:Scope}{n p:List Str}{cap:List Nat}{g:TG}(w:X.N.Nodup)(y:X.N[i]?=some x)(z:X.env.scope.names.lookup x=some .local)
  (A:swapsWith (.ListComp e [⟨o,iter,k,0⟩] scope pos) (some (.Name x pos')) pos'.line X.env=pure true) (D:X.calm=true) (B:jA X scope n p cap) (F:∀x,foldedSetIterable iter X.env x=pure x)
  (q:∀v σ H Q,g v σ H Q->g v σ H λl G=>Q l G/\l.length=σ.length/\∀j,n.length<=j->l[j]?=σ[j]?)
  (h:∀cm Z0 H0 ρ Ω,∃s t u,PI X o iter s/\(∀cl C a b fp,PG (blk X scope cl C (n++p) a b fp) o g/\Bf (blk X scope cl C (n++p) a b fp) k t/\PE (blk X scope cl C (n++p) a b fp) e u) /\
   ∀σ H Q,tO κ Φ cm Z0 H0 m ρ Ω σ H Q->mP s n.length cap g t u σ H Q) {c:Pos} (I:c.line=pos'.line) :
  gZ X κ Φ (.Assign [.Name x pos'] (.ListComp e [⟨o,iter,k,0⟩] scope pos) c) (aE i m):=by
 intro cm Z0 H0 ρ Ω;obtain⟨s,t,u,J,K,L⟩:=h _ Z0 H0 ρ Ω;refine PS.imp (rS w y z (by rwa[I]) D B J F q K) ?_
 rintro E σ H ⟨M,Z,S,f⟩;exact L σ H _ ⟨M,Z,S,dv.use S f λd O v P R T _ g U r V=>V _ P _ T (U.set r i)⟩
theorem B6(b:swapsWith e none pos.line X.env=pure false)(h:bh X κ Φ e m):gZ X κ Φ (.Expr e pos) (eg m):=by
 intro a c i j k;refine PS.imp (sY (h a c i j k) b) ?_;rintro E u H ⟨l,Z,S,f⟩;exact⟨l,Z,S,dv.use S f λd n v o p q _ g s r t=>t _ o _ q s⟩
theorem yK(l:gH X κ Φ e m)(n:jW X κ Φ ta ca)(o:jW X κ Φ tb cb):gZ X κ Φ (.If e ta tb pos) (eU m ca cb):=by
 intro b c d h p;refine PS.imp (Hj (l b c d h p) (gb.ex λa=>n b c d h a) (gb.ex λa=>o b c d h a)) ?_
 rintro E s H ⟨q,Z,S,f⟩;refine⟨q,Z,S,dv.Ie S f λt a u r i _ g j k=>?_⟩
 cases t with
 |true=>exact pN ⟨_,_,i,j,k⟩
 |false=>exact pM ⟨_,_,i,j,k⟩
theorem m5:gZ X κ Φ st dw:=λa b c d e pins s g H E I ⟨h,Z,S,f⟩=>f.elim
theorem m6(J:PassesOwn (model X.prog X.w) X.A X.env X.xe)(K:gH X κ Φ e m)(L:jW X κ Φ tb cb):gZ X κ Φ (.While e tb [] pos) (lg m cb):=by
 intro c k l n o;refine PS.imp (wV J (PT.ex λp:aK×aA=>K c k l p.1 p.2) (gb.ex λp:aK×aA=>L c k l p.1 p.2)) ?_
 rintro E C H ⟨r,Z,S,f⟩;refine⟨λf C H=>∃r Z n o,b7 κ _ k l r Z o n C H/\dv κ Φ _ k l E (f9 m cb f n o),⟨_,r,Z,n,o,S,f⟩,?_⟩
 rintro f M R ⟨N,O,h,s,D,F⟩;cases f with
 |zero=>exact F.elim
 |succ f=>
  refine⟨(h,s),_,O,D,dv.Ie D F λt u T P Q _ g G a=>?_⟩
  cases t with
  |false=>
   exact pM (a _ _ _ _ G)
  |true=>
   refine pN ⟨_,λi I q=>⟨f,by simp,q⟩,(h,u),_,Q,G,?_⟩
   cases q:cb _ _ with
   |nx j b=>rw[q]at a;exact λi I y z B=>⟨_,z,_,_,B,a⟩
   |ct j b=>rw[q]at a;exact λi I y z B=>⟨_,z,_,_,B,a⟩
   |bk j b=>rw[q]at a;exact a
   |rt d b=>rw[q]at a;exact a
   |exc x b=>rw[q]at a;exact a
   |bad=>rw[q]at a;exact a.elim
def yL(κ:Str->Addr->Prop)(e:D->aK->Option aK)(g:TG):Prop:=
 ∀(d:D) (x:V) a h i f Z j l b m H (k:L2.St->Hp->Prop),b7 κ a h i f Z j l m H->av f Z H d x->e d l=some b->(∀c,b7 κ a h i f Z j b c H->k c H)->g x m H k
theorem oy{u:D->aK->Option aK}{g:TG}(hp:PassesOwn (model X.prog X.w) X.A X.env X.xe)(hc:X.calm=true)(hi:vM X κ Φ tg e mi)(hg:PG X tg g)(Q:yL κ u g)(hb:jW X κ Φ tb cb)(hs:∀x,foldedSetIterable e X.env x=pure x):gZ X κ Φ (.For tg e tb [] pos) (dM u mi cb):=by
 intro G K L C M;have R:gb X tb (λD F H=>∃k m p b c,FD κ Φ _ m p cb _ _ D F H):=λpins s F H D I ⟨k,m,p,b,c,q⟩=>hb k m p b c _ s F H D I q
 refine PS.imp (EH hp hc (hi G K L C M) hg R hs) ?_;rintro E F H ⟨α,Z,S,f⟩;refine⟨α,Z,S,?_⟩;simp only[dM]at f;cases T:mi C M with
 |exc x U=>rw[T]at f;exact λp k m g s=>f p _ m (S.gr.trans g) s
 |bad=>rw[T]at f;exact f.elim
 |ok f0 U=>
  rw[T]at f;intro J p k m g1 s1 w1;have S1:=S.grow g1 s1;refine⟨λi f F H=>∃n N C M,b7 κ _ K L n N M C F H/\bD _ m p n N H/\dv κ Φ _ K L E (eh _ _ cb f i C M),⟨_,_,m,C,_,S1,bD.refl s1.has,f⟩,?_⟩
  rintro i f g0 H2 ⟨n,N,h0,y,V,g2,a⟩;cases f with
  |zero=>exact a.elim
  |succ f=>
   simp only[eh]at a;cases Y:fA _ _ with
   |none=>rw[Y]at a;exact a.elim
   |some ds=>
    rw[Y]at a;dsimp only at a;obtain⟨a0,i0⟩:=w1 _ N _ H2 ds g2 V.st Y;cases qd:ds[i]? with
    |none=>
     rw[qd]at a;exact .inl ⟨by grind,a _ H2 _ N V⟩
    |some d=>
     rw[qd]at a;dsimp only at a;obtain⟨b0,c0⟩:=a0 i d qd;cases qp:u d _ with
     |none=>rw[qp]at a;exact a.elim
     |some z=>
      rw[qp]at a;dsimp only at a;refine .inr ⟨b0,_,λj o q=>⟨f,by simp,q⟩,λx H3 yl=>?_⟩
      obtain⟨Z3,g3,s3,rx⟩:=c0 x H3 yl;have S3:=V.grow g3 s3;refine Q d x _ K L _ Z3 _ _ _ _ H3 _ S3 rx qp λe0 S4=>?_
      have base:=S1.gr;have gL:=g2.trans g3;have S5:b7 κ _ m p n Z3 y z e0 H3:=⟨S4.st,gL,S4.len,S4.val⟩;have B:∀{O Z4 P b j o},b7 κ k m p O Z4 P b j o->b7 κ G K L O Z4 P b j o:=λl=>⟨l.st,base.trans l.gr,l.len,l.val⟩
      refine⟨k,m,p,z,y,n,Z3,S5,?_⟩;cases q:cb z y with
      |nx b c=>rw[q]at a;exact λj o h t l=>⟨h,t,b,c,B l,l.gr,a⟩
      |ct b c=>rw[q]at a;exact λj o h t l=>⟨h,t,b,c,B l,l.gr,a⟩
      |bk b c=>rw[q]at a;exact λj o h t l=>a j o h t (B l)
      |rt d c=>rw[q]at a;exact λv o h t g s r=>a v o h t (base.trans g) s r
      |exc x c=>rw[q]at a;exact λo h t g s=>a o h t (base.trans g) s
      |bad=>rw[q]at a;exact a.elim
theorem yM(i:Nat):yL κ (bN i) (iq i):=λd x a c f g Z j l b m H k S r e h=>by
 cases e;exact h _ (S.set r i)
theorem lh:∀(a:List Nat) (ds:List D) (vs:List V) {ρ:aK}{σ:L2.St},aD (av α Z H) ds vs->ds.length=a.length->b7 κ cm Z0 H0 α Z Ω ρ σ H->∀(k:L2.St->Hp->Prop),(∀b,b7 κ cm Z0 H0 α Z Ω (fO a ds ρ) b H->k b H)->jk a vs σ H k
 |[],[],vs,ρ,σ,r,_,S,k,h=>by rw[r.nil_inv];exact⟨rfl,h σ S⟩
 |i::a,d::ds,vs,ρ,σ,r,c,S,k,h=>by
  obtain⟨v,ws,rfl,e,f⟩:=r.cons_inv;exact⟨v,ws,rfl,lh a ds ws f (by simp_all) (S.set e i) k h⟩
 |[],_::_,_,_,_,_,c,_,_,_=>by simp at c
 |_::_,[],_,_,_,_,c,_,_,_=>by simp at c
theorem yN{K:PySem.W.Frag}(b:List Nat):yL κ (jF b) (AS K b.length (jk b)):=λd x i n o p Z q s j t H k S r e h=>by
 cases d with
 |tup l=>
  simp only[jF]at e;split at e
  .rename_i c
   cases e;obtain⟨a,f,rfl,_,m,g⟩:=ez r;exact⟨a,f,rfl,vp (.inl m),by rw[g.length];exact c,lh b l f g c S k h⟩
  .cases e
 |_=>cases e
theorem B7{i:List Expr}{j:Nat}{p pos:Pos}{a:List Nat}(s:PG X (.Tuple i j p) (AS X.K a.length (jk a)))(t:ya e=true)(h:bh X κ Φ e m):gZ X κ Φ (.Assign [.Tuple i j p] e pos) (FE a m):=by
 intro b k l n u;refine PS.imp (EC (h b k l n u) s (by cases e<;>first|rfl) (by cases e<;>first|rfl | (cases t))) ?_
 rintro E w H ⟨x,Z,S,f⟩;refine⟨x,Z,S,dv.use S f λd y v o z q _ g A r c=>?_⟩
 split at c
 .rename_i B C
  exact yN a d v _ k l _ q _ n _ w o _ A r C λD F=>c _ o _ q F
 .exact c.elim
end
abbrev aX:=List D->aA->ax D
def ei(κ:Str->Addr->Prop)(F:aX):Sp:=λd H Q _=>∃a Z b c,bc κ a Z b H/\aD (av a Z H) c d/\ck κ gM a Z H (F c b) Q
noncomputable def Ig{a:Type}(r:ax a):ax a:=match r with
 |.ok d b=>.ok d b
 |_=>.bad
def aS(F:aX):aX:=λa b=>Ig (F a b)
structure yO(X:Cx)(κ:Str->Addr->Prop)(k:Nat)(x:Str)(F:aX):Prop where
 ex:∃(f:Addr) (fd:FuncData) (ps:List Str),X.mg x=some (.ref f)/\PySem.W.keepIn X.K (.ref f)=true/\Binds X.K fd ps []/\bP X.prog X.w X.K X.mg X.base dH k f fd ps (ei κ F)
noncomputable def Ih(C:Str)(F:aX)(xs:List D)(Ω:aA):ax D:=match F (.ref Ω.length::xs) (Ω++[.ins C []])with
 |.ok .non a=>.ok (.ref Ω.length) a
 |_=>.bad
def jG(x y v:D)(Ω:aA):Option aA:=match x with
 |.ref k=>match Ω[k]? with
  |some (.dK a)=>match oh y with
   |some b=>if small (a.length+1)then some (Ω.set k (.dK (cK a b v)))else none
   |none=>none
  |some (.dT a)=>match mY y with
   |some b=>if small (a.length+1)then some (Ω.set k (.dT (cK a b v)))else none
   |none=>none
  |some (.lst c)=>match y with
   |.int i=>match L2.w_ c.length i with
    |some n=>some (Ω.set k (.lst (c.set n v)))
    |none=>none
   |_=>none
  |_=>none
 |_=>none
def cC(f g h:EM):SM:=λa i=>cw (h a i) λv b=>cw (f a b) λx c=>cw (g a c) λy d=>match jG x y v d with
 |some e=>.nx a e
 |none=>.bad
section
variable{X:Cx}{κ:Str->Addr->Prop}{Φ:eQ}{α α' cm α1:List Addr}{Z Z' Z0 Z1:Addr->Prop}{Ω au:aA}{H H' H0 H1:Hp}{ρ:aK}{σ:L2.St}{Q:VK}{E:Ends}{a b e ce o tg:Expr}{es:List Expr}{st:Stmt}{rest ta tb:List Stmt}{m mo mv ma md mk:EM}{as:AM}{ca cb:SM}{pos pos' p apos:Pos}{F:aX}{C:Str}
theorem ck.ok0{r:ax D}(h:ck κ Φ α Z H (Ig r) Q):ck κ gM α Z H r Q:=by
 cases r with
 |ok d a=>exact h
 |exc x a=>exact h.elim
 |bad=>exact h
theorem yP{k:Nat}{x:Str}(F0:yO X κ k x F)(d:bE k X.A)(h:Gl X x)(a:(x==("__debug__":Str))=false)
  (i:starEach (e::es) X.env=(false,eval e X.env)::starEach es X.env) (b:(backTo pos (starEach es X.env)).any (·.1)=false) (j:lY X κ Φ (e::es) as) :
  bh X κ Φ (.Call (.Name x p) (e::es) [] pos) (mN (aS F) as):=by
 obtain⟨f,E,G,l,m,n,F1⟩:=F0.ex;intro c o q r s;refine PE.imp (nN F1 d h l m n .nil pL (j c o q r s) a i b) ?_;rintro I H Q ⟨t,Z,S,g⟩;refine⟨t,Z,S,ph.use g λu w _ J K y z L B C D=>?_⟩
 rw[List.append_nil];exact⟨_,z,_,u,B,C,ck.ok0 D⟩
theorem vP{k:Nat}{x:Str}(F0:yO X κ k x F)(b:bE k X.A)(c:Gl X x)(a:(x==("__debug__":Str))=false):bh X κ Φ (.Call (.Name x p) [] [] pos) (mN (aS F) aj):=by
 obtain⟨f,m,n,d,e,h,F1⟩:=F0.ex;intro i o q r j;refine PE.imp (w4 F1 b c d e h .nil pL a) ?_;rintro s H Q ⟨l,Z,S,g⟩;exact⟨l,Z,j,[],S.st,.nil,ck.ok0 g⟩
def yQ(K:PySem.W.Frag)(κ:Str->Addr->Prop)(b:List Str)(f:Str):Prop:=∀C a,b.contains C=true->κ C a->Hy K a/\dO K a f
def DV(P:Program)(w:World)(K:PySem.W.Frag)(h:Str->Option Value)(base:Heap)(κ:Str->Addr->Prop)(k:Nat)(C m:Str)(F:aX)(c f:Addr)(d:FuncData)(ps:List Str):Prop:=
 (∀a,κ C a->a=c)/\Hy K c/\Meth K c m f/\∃(e:List Value) (b:List V) (g:List D) (F1:aX),Binds K d ps e/\Vals b e/\(∀i Z H,aD (av i Z H) g b)/\bP P w K h base dH k f d ps (ei κ F1)/\F=λj=>F1 (j++g)
structure Ii(X:Cx)(κ:Str->Addr->Prop)(k:Nat)(C m:Str)(F:aX):Prop where
 ex:∃(Ca f:Addr) (fd:FuncData) (ps:List Str),DV X.prog X.w X.K X.mg X.base κ k C m F Ca f fd ps
structure Ij(X:Cx)(κ:Str->Addr->Prop)(k:Nat)(C:Str)(F:aX):Prop where
 ex:∃(Ca f:Addr) (fd:FuncData) (ps:List Str),κ C Ca/\Mk X.K Ca f/\X.mg C=some (.ref Ca)/\Binds X.K fd ps []/\bP X.prog X.w X.K X.mg X.base dH k f fd ps (ei κ F)
def DW(H:Hp)(a:Addr)(y v:V)(c:Hp):Prop:=pI H a y v c\/∃b k j,y=.int k/\H a=some (.lst b)/\w_ b.length k=some j/\c=upd H a (.lst (b.set j v))
noncomputable def FF(td d e:TE):TS:=λD b H=>e b H λv f=>td b f λx g=>d b g λy h=>∃a c,x=.ref a/\DW h a y v c/\D.nx b c
theorem lj{i b:Expr}{td d e:TE}(p:X.A.units+1<cLine)(q:PE X o td)(t:PE X i d)(w:PE X b e)(z:swapsWith b (some (.Subscript o i pos')) pos.line X.env=pure false) :
  PS X (.Assign [.Subscript o i pos'] b pos) (FF td d e):=by
 intro pins s c H D I h;refine wpAny_Assign_Subscript (cu (w _ s c H _ I h) λr B ⟨v,H1,I1,f,q1⟩=>cu (q _ B c H1 _ I1 q1) λu C ⟨x,H2,I2,l,q2⟩=>cu (t _ C c H2 _ I2 q2) λN E ⟨y,H3,m,n,a,H4,ex,g,q3⟩=>?_) z
 subst ex;rcases g with g|⟨F,k,j,rfl,G,J,rfl⟩
 .obtain rfl:u=Value.ref a:=l
  exact vm p m g n f λK L=>⟨c,H4,L,q3⟩
 .exact cu (set_list _ E c H3 _ _ _ _ _ _ _ m l n f ⟨a,F,k,j,rfl,rfl,G,J,q3⟩) λ_ K ⟨M,I5,q5⟩=>⟨c,M,I5,q5⟩
theorem aD.Ik{c d:Type}{R:c->d->Prop}{a:c}{b:d}:∀{as:List c}{bs:List d}{n:Nat},aD R as bs->R a b->aD R (as.set n a) (bs.set n b)
 |_,_,_,.nil,_=>.nil
 |_::_,_::_,0,.cons _ t,r=>.cons r t
 |_::_,_::_,n+1,.cons q t,r=>.cons q (aD.Ik t r)
theorem lr{x y d:D}{v w u:V}(S:bc κ α Z Ω H)(I:av α Z H x v)(s:av α Z H y w)(A:av α Z H d u)(h:jG x y d Ω=some au):∃a B,v=.ref a/\DW H a w u B/\bc κ α Z au B/\bD α Z H α Z B:=by
 cases x with
 |ref k=>
  simp only[jG]at h;obtain⟨a,j,rfl⟩:=I;split at h
  .rename_i C l
   obtain⟨G,e,m,p,f⟩:=S.cell l;rw[j]at e;cases e
   split at h
   .rename_i E g
    obtain rfl:=gp g s;split at h
    .rename_i F
     cases h;have:=br F;obtain⟨q,r⟩:=S.put (c:=.dK _) j (λo u z=>by grind) λR hR=>⟨_,aG,(f.put E A).imp hR⟩
     exact⟨a,_,rfl,.inl (pI.k p (by rw[f.length];omega)),q,r⟩
    .cases h
   .cases h
  .rename_i C l
   obtain⟨G,e,m,p,f⟩:=S.cell l;rw[j]at e;cases e
   split at h
   .rename_i E g
    obtain⟨b,rfl,J⟩:=jn g s;split at h
    .rename_i F
     cases h;have:=br F;obtain⟨q,r⟩:=S.put (c:=.dT _) j (λo u z=>by grind) λR hR=>⟨_,aG,(f.put E A).imp hR⟩
     exact⟨a,_,rfl,.inl (pI.t p J (by rw[f.length];omega)),q,r⟩
    .cases h
   .cases h
  .rename_i M l
   obtain⟨G,e,K,p,f⟩:=S.cell l;rw[j]at e;cases e
   split at h
   .rename_i i
    split at h
    .rename_i n L
     cases h;cases (s);obtain⟨q,r⟩:=S.put (c:=.lst _) j (λo u z=>by grind) λR hR=>⟨_,aG,(aD.Ik f A).imp hR⟩
     exact⟨a,_,rfl,.inr ⟨K,i,n,rfl,p,by rw[f.length];exact L,rfl⟩,q,r⟩
    .cases h
   .cases h
  .cases h
 |_=>cases h
theorem yR{i:Expr}(r:X.A.units+1<cLine)(s:bh X κ Φ o md)(t:bh X κ Φ i mk)(z:bh X κ Φ e mv)(B:swapsWith e (some (.Subscript o i pos')) pos.line X.env=pure false):gZ X κ Φ (.Assign [.Subscript o i pos'] e pos) (cC md mk mv):=by
 intro c h j k C;refine PS.imp (lj r (PE.ex λb=>s c h j k b) (PE.ex λb=>t c h j k b) (z c h j k C) B) ?_
 rintro E D H ⟨F,Z,S,f⟩;refine⟨F,Z,S,dv.use S f λd b v H1 G I _ g1 l J K=>⟨_,_,I,l,dv.use l K λx L w H2 M N _ O g P Q=>⟨_,_,N,g,dv.use g Q λy R u H3 T U _ n p V m=>?_⟩⟩⟩
 split at m
 .rename_i Y hq
  obtain⟨a,q,rfl,h1,s4,g4⟩:=lr p.st (g.st.cS n P) V (g.st.cS n (l.st.cS O J)) hq;exact⟨a,q,rfl,h1,m D q _ U (p.grow g4 s4)⟩
 .exact m.elim
theorem vQ:bh X κ Φ (.Dict [] [] pos) (λ_ Ω=>gk Ω (.dK [])):=by
 intro a f h i Ω;refine PE.imp xy ?_;rintro j H Q ⟨k,Z,S,g⟩ p b;obtain⟨d,e⟩:=S.st.laid (c:=.dK []) b λR hR=>⟨[],aG,.nil⟩
 exact g _ _ _ Z e d (fx S.st p)
theorem vR:bh X κ Φ (.Dict [] [] pos) (λ_ Ω=>gk Ω (.dT [])):=by
 intro a f h i Ω;refine PE.imp xB ?_;rintro j H Q ⟨k,Z,S,g⟩ p b;obtain⟨d,e⟩:=S.st.laid (c:=.dT []) b λR hR=>⟨[],aG,.nil⟩
 exact g _ _ _ Z e d (fx S.st p)
noncomputable def bu(n:Nat)(ds:List D):aK:=ds.map some++List.replicate (n - ds.length) none
noncomputable def dy:fB->ax D
 |.rt d Ω=>.ok d Ω
 |.nx _ Ω=>.ok .non Ω
 |.exc x Ω=>.exc x Ω
 |_=>.bad
def bA(n k:Nat)(c:SM):aX:=λa b=>if a.length=k then dy (c (bu n a) b)else .bad
theorem dU{ds:List D}{vs:List V}{N:List Str}(S:bc κ α Z Ω H)(r:aD (av α Z H) ds vs):b7 κ α Z H α Z Ω (bu N.length ds) (L2.start N vs) H where
 st:=S
 gr:=bD.refl S.has
 len:=by simp[bu,L2.start,r.length]
 val:=λi d a=>by
  unfold bu at a
  by_cases h:i<ds.length
  .rw[List.getElem?_append_left (by grind),List.getElem?_map]at a
   obtain⟨c,b,e⟩:=Option.map_eq_some_iff.mp a;obtain⟨v,f,g⟩:=r.get b;unfold L2.start
   grind
  grind
end
structure jH(P:Program)(w:World)(K:PySem.W.Frag)(mg:Str->Option Value)(base:Heap)(κ:Str->Addr->Prop)(k:Nat)(j:Nat)(F:List D->aX):Prop where
 run:∀(X:Cx) (f:Addr) (vs:List V) (σ:L2.St) (H:Hp) (Q:VK) (α:List Addr) (Z:Addr->Prop) (Ω:aA) (de ds:List D) (n:Nat),X.prog=P->X.w=w->X.K=K->X.mg=mg->X.base=base->bE k X.A ->
  bc κ α Z Ω H->α[n]?=some f->Ω[n]?=some (.fn j de)->aD (av α Z H) ds vs->ck κ gM α Z H (F de ds Ω) Q->yd X f vs σ H Q
theorem jH.mono{P:Program}{w:World}{K:PySem.W.Frag}{a:Str->Option Value}{base:Heap}{κ:Str->Addr->Prop}{k b j:Nat}{F:List D->aX}(h:jH P w K a base κ k j F)(c:k<=b):jH P w K a base κ b j F:=
 ⟨λX f d e H Q g Z i de l n m o p q r s=>h.run X f d e H Q g Z i _ l n m o p q r (s.mono c)⟩
def GX(M:List (List D->aX))(n:Nat)(xs:List D)(Ω:aA):ax D:=match Ω[n]? with
 |some (.fn j de)=>match M[j]? with
  |some F=>aS (F de) xs Ω
  |none=>.bad
 |_=>.bad
noncomputable def isFn(Ω:aA)(n:Nat):Bool:=match Ω[n]? with
 |some (.fn _ _)=>true
 |_=>false
def eo(M:List (List D->aX))(i:Nat)(as:AM):EM:=λb c=>match b[i]? with
 |some (some (.ref n))=>if isFn c n=true then (as b c).bind λd a=>GX M n d a else .bad
 |_=>.bad
section
variable{X:Cx}{κ:Str->Addr->Prop}{Φ:eQ}{α α' cm:List Addr}{Z Z' Z0:Addr->Prop}{Ω au:aA}{H H' H0:Hp}{ρ:aK}{σ:L2.St}
theorem bc.DX(S:bc κ α Z Ω H){n:Nat}{f:Addr}{j:Nat}{de:List D}(c:α[n]?=some f)(h:Ω[n]?=some (.fn j de)):tS H f:=by
 obtain⟨a,b,i,k,l,⟨⟨d,m,e,u,g⟩,_⟩,_⟩:=S.cell h;rw[c]at b;cases b
 exact⟨_,_,_,_,u,g⟩
theorem vS{k i:Nat}{x:Str}{M:List (List D->aX)}{p pos:Pos}{e:Expr}{c:List Expr}{as:AM}(E:X.N[i]?=some x)(G:nH X.env.scope x)(I:(x==("__debug__":Str))=false)(l:(x==("__classdict__":Str))=false)
  (J:starEach (e::c) X.env=(false,eval e X.env)::starEach c X.env) (m:(backTo pos (starEach c X.env)).any (·.1)=false) (d:∀j F,M[j]?=some F->jH X.prog X.w X.K X.mg X.base κ k j F) (L:bE k X.A) (O:lY X κ Φ (e::c) as) :
  bh X κ Φ (.Call (.Name x p) (e::c) [] pos) (eo M i as):=by
 intro o P R T z;refine PE.imp (ye E G I l (O o P R T z) J m) ?_;rintro U H Q ⟨V,Z,S,g⟩;unfold eo at g;split at g
 .rename_i n q
  obtain⟨v,r,s⟩:=S.val i _ q;obtain⟨f,t,rfl⟩:=s;split at g
  .rename_i u
   have a:∃j de,z[n]?=some (.fn j de):=by
    unfold isFn at u
    grind
   obtain⟨j,de,Y⟩:=a;refine⟨f,r,S.st.DX t Y,V,Z,S,ph.use g λxs a0 _ vs H1 b0 Z1 B C r1 b=>?_⟩
   unfold GX at b;split at b
   .rename_i j1 y h
    split at b
    .rename_i F hF
     exact⟨C.DX (B.pre n f t) h,(d j1 F hF).run X f vs U H1 Q _ Z1 _ _ xs n rfl rfl rfl rfl rfl L C (B.pre n f t) h r1 (ck.ok0 b)⟩
    .exact b.elim
   .exact b.elim
  .exact g.elim
 .exact g.elim
end
end Mir
namespace Mir
open PySem PySem.Spec PyProof.Rows L2
theorem sg{X:Cx}(O:X.calm=true):d_ X (.builtin "sorted") (λxs H Q=>∃a kvs,∃f:List Str,xs=[V.ref a]/\Rd H a (.dK kvs)/\kvs.map (·.1)=f.map Sum.inr/\f.length<64/\∀l,H l=none->Q (.ref l) (upd H l (.lst ((f.mergeSort cR).map V.str)))):=by
 intro pins s P H xs us Q I r h;obtain⟨a,kvs,f,rfl,R,g,S,q⟩:=h;obtain⟨u,rfl,T⟩:=vals1 r;cases T;obtain⟨z,U,vs,j,Y⟩:=mM I.hok R;obtain⟨o,Z,ep,d1,d2,d3,d4⟩:=Y;have hl:=j.length;have p:=by simpa using congrArg List.length g
 refine Calls.call_function_entry kind_sorted plain_sorted entry_sorted (args_sorted1 _) ?_;refine wpAny_bind (wpAny_pure ?_);refine wpAny_bind (PySem.W.kdu_collect (A:=X.A.in1) (PySem.W.kdl_dict (kvs:=vs) (ep:=ep) U) (I.ok.hd O) ⟨o,Z,d1,d2,d3,d4⟩ (by omega) λm D c kp it=>?_)
 have E:Vals (f.map V.str) c.toList:=BP (by rw[List.length_map,←p,←hl]at *;exact it) λi u v hp F=>by
  obtain⟨k,x,w,y⟩:=hp;rw[List.getElem?_map]at F;obtain⟨t,G,rfl⟩:=Option.map_eq_some_iff.mp F
  obtain⟨B,h4,h5⟩:∃B,kvs[i]?=some B/\B.1=Sum.inr t:=by
   have:=congrArg (·[i]?) g;simp at this
   simp_all
  obtain⟨q',J,h7⟩:=ie j h4;rw[w]at J;cases J
  have:=tY y;rw[show k=Sum.inr t from h7.1.symm.trans h5]at this
  exact this
 have C:=ib E;have a0:c.toList.length=f.length:=by have:=E.length;grind
 refine wpAny_bind (wpAny_newList ?_ (by omega))
 have d:(m.push _).get? m.objs.size=some (seqObj "list" c.toList.toArray 0):=Heap.get?_push_size _ rfl;refine wpAny_bind (wpAny_holding (wpAny_call_entry slot_list_sort ⟨_,d,rfl⟩ entry_list_sort (list_sort_treeK strKind_oneLt d C.keysOf (λK L rest e=>keyKind_strs (by rw[←e];exact C)) (by omega) λb0 a1 a2=>⟨_,rfl,?_⟩) (args_list_sort _)))
 refine wpAny_pure ⟨_,rfl,?_⟩;obtain⟨c0,w,y,G⟩:=sorted_out_str C a1 a2;have hs:=pX y G;subst hs;obtain⟨e,he⟩:=sortedHeap_at (vs:=c.toList) d;have M:Inv X pins P H {s with heap:=m,toks:=D}:=I.kept kp;refine⟨.ref m.objs.size,_,M.laid (t':=D) (λb ob N=>?_) (Nat.le_refl _) ?_,rfl,q _ (M.hok.fresh (Nat.le_refl _))⟩
 .have n:b<m.objs.size:=Heap.lt_size N
  rw[sortedHeap_old (Nat.ne_of_lt n) (by rw[size_push'];exact Nat.lt_succ_of_lt n)]
  exact Heap.get?_push_of_some _ N
 .exact⟨by simp_all,_,e,jm w,he⟩
variable [aw]
noncomputable def qB:List (Key×D)->Option (List Str)
 |[]=>some []
 | (.inr x,_)::r=>(qB r).map (x :: ·)
 |_=>none
def iI(xs:List D)(Ω:aA):ax D:=match xs with
 |[x]=>match yp Ω x with
  |some a=>match qB a with
   |some b=>if b.length<64 then gk Ω (.lst ((b.mergeSort cR).map .str))else .bad
   |none=>.bad
  |none=>.bad
 |_=>.bad
section
variable{X:Cx}{κ:Str->Addr->Prop}{Φ:eQ}{e:Expr}{es:List Expr}{as:AM}{p pos:Pos}{α:List Addr}{Z:Addr->Prop}{H:Hp}
theorem qC{R:D->V->Prop}:∀{kvs:List (Key×D)}{b:List Str}{a:List (Key×V)},qB kvs=some b->j_ R kvs a->a.map (·.1)=b.map Sum.inr
 |[],b,a,h,r=>by cases h;cases r;rfl
 | (.inr x,d)::kvs,b,a,h,r=>by
  obtain⟨c,h1,rfl⟩:=Option.map_eq_some_iff.mp (h);cases r with
  |cons e f=>
   rw[List.map_cons,List.map_cons,qC h1 f,←e.1]
 | (.inl i,d)::kvs,b,a,h,r=>by cases h
theorem vT(l:X.calm=true)(h:Gl X "sorted")(i:X.mg "sorted"=none)(j:starEach (e::es) X.env=(false,eval e X.env)::starEach es X.env)(b:(backTo pos (starEach es X.env)).any (·.1)=false)(k:lY X κ Φ (e::es) as) :
  bh X κ Φ (.Call (.Name "sorted" p) (e::es) [] pos) (mN (jU g_ iI) as):=by
 rw[r_];refine bh.alt (yt h i j b k) ?_;refine ec (sg l) h i (by decide +kernel) (by decide) (by decide) j b k ?_
 intro z A B Z C H Q S m g;unfold iI at g;split at g
 .split at g
  .rename_i n o
   obtain⟨v,r,rfl,q,s⟩:=m.cons_inv;rw[s.nil_inv];obtain⟨a,c,rfl,t,u⟩:=yq S q o;split at g
   .rename_i w y
    split at g
    .rename_i d
     exact⟨a,c,w,rfl,t,qC y u,d,dq S (iG (f:=D.str) (g:=V.str) (λx=>by simp only[av]) _) g⟩
    .exact g.elim
   .exact g.elim
  .exact g.elim
 .exact g.elim
end
noncomputable def aa(i:Nat):EM:=λa b=>match a[i]? with|some (some d)=>.ok d b|_=>.bad
noncomputable def ai(d:D):EM:=λ_ a=>.ok d a
def cU:EM:=λ_ a=>gk a (.dK [])
def sh:EM:=λ_ a=>gk a (.dT [])
noncomputable def o2{c d e:Type}(x:Option c)(y:Option d)(k:c->d->e):Option e:=match x,y with
 |some a,some b=>some (k a b)
 |_,_=>none
theorem bj{c d e:Type}{x:Option c}{y:Option d}{k:c->d->e}{z:e}(h:o2 x y k=some z):∃a b,x=some a/\y=some b/\z=k a b:=by
 unfold o2 at h
 grind
theorem bI{b c:Type}{x:Option b}{k:b->c}{z:c}(h:x.map k=some z):∃a,x=some a/\z=k a:=by
 cases x with
 |none=>cases h
 |some a=>grind
structure aO where
 fP:List (Str×(List D->Out Rs)):=[]
 fn:List (Str×aX):=[]
 cst:List (Str×D):=[]
 met:List (Str×Str×aX):=[]
 cls:List (Str×aX):=[]
 fld:List (Str×List Str):=[]
 clo:List (List D->aX):=[]
 fz:List Str:=[]
 xt:Bool:=false
def oz(T:aO)(a:Scope)(N:List Str)(x:Str):Option EM:=
 match g8 a N x with
 |some i=>some (aa i)
 |none=>if rm a x&&okN x then (T.cst.lookup x).map ai else none
def qD:Const->Option EM
 |.none=>some (ai .non)
 |.bool b=>some (ai (.bl b))
 |.int i=>some (ai (.int i))
 |.str x=>some (ai (.str x))
 |_=>none
def cz(f:Expr->Option EM):List Expr->Option AM
 |[]=>some aj
 |e::es=>o2 (f e) (cz f es) ae
def Qx(op:BoolOp)(a b:EM):EM:=match op with
 |.And=>jr a b
 |.Or=>Fq a b
def kf(f:Expr->Option EM)(op:BoolOp):List Expr->Option EM
 |[]=>none
 |[a]=>f a
 |a::b::r=>o2 (f a) (kf f op (b::r)) (Qx op)
def sj(f:Expr->Option EM):Option Expr->Option (Bool×EM)
 |none=>some (true,ai .non)
 |some e=>(f e).map λm=>(false,m)
inductive BM where
 |append|reverse|extend|index|join
noncomputable def BM.nm:BM->Str
 |.append=>"append" |.reverse=>"reverse" |.extend=>"extend" |.index=>"index" |.join=>"join"
noncomputable def BM.ar:BM->Nat
 |.append=>1|.reverse=>0|.extend=>1|.index=>1|.join=>1
def BM.ty:BM->aA->D->Bool
 |.join=>yu
 |_=>gY
def BM.f:BM->D->List D->aA->ax D
 |.append=>bH|.reverse=>dr|.extend=>gJ|.index=>du|.join=>la
def FG(m:Str)(n:Nat):Option BM:=[BM.append,.reverse,.extend,.index,.join].find? λb=>b.nm==m&&b.ar==n
def oA(T:aO)(m:Str)(n:Nat)(a:EM)(as:AM):Option EM:=(FG m n).map λb=>cB b.ty b.f a as
noncomputable def lu:Expr->Bool
 |.Name .. |.Attribute .. |.Subscript .. |.Constant (.str _) .. |.Call (.Attribute ..) ..=>true
 |_=>false
def sk(x:Str):Option ji:=[ji.len,ji.all,ji.any,ji.list,ji.tuple,ji.min].find? (λb=>b.nm==x)
theorem B8{x:Str}{b:ji}(h:sk x=some b):x=b.nm/\b∈[ji.len,ji.all,ji.any,ji.list,ji.tuple,ji.min]/\b.nm∈dm:=by
 unfold sk at h;have c:=List.find?_some h;have a:=List.mem_of_find?_eq_some h;refine⟨(eq_of_beq c).symm,a,?_⟩;cases b<;>first | (simp at a;done)|decide
def oC(T:aO)(a:Scope)(f:Expr->Option EM)(x:Str)(args:List Expr):Option EM:=
 if rm a x&&okN x then
  match T.fn.lookup x,T.fP.lookup x,sk x with
  |some F,_,_=>(cz f args).map (mN (aS F))
  |none,some F,_=>if args.isEmpty then none else (cz f args).map (mN (cW F))
  |none,none,some b=>if args.isEmpty then none else (cz f args).map (mN (bG b))
  |none,none,none=>if x==("sorted":Str)then (if args.isEmpty then none else (cz f args).map (mN (jU g_ iI)))else (if x==("dict":Str)then (if args.isEmpty then none else (cz f args).map (mN t5))else none)
 else none
def kg(T:aO)(a:Scope)(N:List Str)(f:Expr->Option EM)(x:Str)(args:List Expr):Option EM:=match g8 a N x with
 |some i=>if args.isEmpty then none else (cz f args).map (eo T.clo i)
 |none=>oC T a f x args
def yS(b:Scope):List Expr->Option (Expr×Ty×Pos)
 |[a,.Name t p]=>match DQ t with
  |some ty=>if rm b t then some (a,ty,p)else none
  |none=>none
 |_=>none
theorem vU{d:Scope}{args:List Expr}{a:Expr}{b:Ty}{p:Pos}(h:yS d args=some (a,b,p)):args=[a,.Name b.nm p]/\rm d b.nm=true/\b.nm∈dm:=by
 unfold yS at h;split at h
 .split at h
  .rename_i e c
   split at h
   .rename_i f
    obtain⟨rfl,m⟩:=HX c
    grind
   .cases h
  .cases h
 .cases h
def qE(b:Scope)(f:Expr->Option EM)(x:Str)(args:List Expr):Option EM:=if x==("isinstance":Str)&&rm b x then match yS b args with
 |some (a,c,_)=>(f a).map (m1 (gX c))
 |none=>none else none
def gx(f:Expr->Option EM)(d:Scope)(iter:Expr):Option IM:=match iter with
 |.Call (.Name g _) args [] _=>if g==("range":Str)then (if rm d g then (match args with
   |[a]=>(cz f [a]).map gw
   |[a,b]=>(cz f [a,b]).map yz
   |[a,b,c]=>(cz f [a,b,c]).map yy
   |_=>none)else none)else (f iter).map bg
 |_=>(f iter).map bg
def yT(f:Expr->Option EM):List Expr->Option (Bool×EM)
 |[]=>some (true,ai .non)
 |[c]=>(f c).map λm=>(false,m)
 |_=>none
noncomputable def emptyDict:List (Option Expr)->List Expr->Bool
 |[],[]=>true
 |_,_=>false
def cG(T:aO):Nat->Scope->List Str->Expr->Option EM
 |0,_,_,_=>none
 |n+1,sc,N,e=>match e with
  |.Name x _=>oz T sc N x
  |.Constant c _ _=>qD c
  |.BinOp a d b _=>o2 (cG T n sc N a) (cG T n sc N b) (m2 (aN d))
  |.UnaryOp .USub a _=>(cG T n sc N a).map (m1 og)
  |.UnaryOp .Not a _=>(cG T n sc N a).map qh
  |.BoolOp d (a::b::r) _=>kf (cG T n sc N) d (a::b::r)
  |.Compare a [d] [b] _=>if isSet b then none else o2 (cG T n sc N a) (cG T n sc N b) (m2 (aQ d))
  |.IfExp t a b _=>o2 (cG T n sc N t) (o2 (cG T n sc N a) (cG T n sc N b) Prod.mk) λx y=>GW x y.1 y.2
  |.Subscript a (.Slice lo hi none _) _=>o2 (cG T n sc N a) (o2 (sj (cG T n sc N) lo) (sj (cG T n sc N) hi) Prod.mk) λx y=>dJ x y.1.1 y.1.2 y.2.1 y.2.2
  |.Subscript a b _=>if isSlice b then none else o2 (cG T n sc N a) (cG T n sc N b) (m2 aM)
  |.List es _=>(cz (cG T n sc N) es).map (mN cD)
  |.Tuple es _ _=>(cz (cG T n sc N) es).map (mN f7)
  |.Call (.Name x _) args [] _=>match qE sc (cG T n sc N) x args with
   |some m=>some m
   |none=>kg T sc N (cG T n sc N) x args
  |.Call (.Attribute o m p1) args [] p2=>if p1.endLine==p2.line&&lu o&&decide (args.length<20)then (match cG T n sc N o,cz (cG T n sc N) args with
   |some mo,some as=>oA T m args.length mo as
   |_,_=>none)else none
  |.ListComp elt gens scope _=>match kR gens with
   |some (x,_,iter,ifs)=>if x5 scope sc x&&!isSet iter then (match rT sc N (et scope),gx (cG T n sc N) sc iter,cG T n (xZ scope sc) (x::et scope) elt,yT (cG T n (xZ scope sc) (x::et scope)) ifs with
    |some cap,some mi,some me,some (nc,mc)=>some (cM me nc mc mi 0 cap)
    |_,_,_,_=>none)else none
   |none=>none
  |.Dict ks vs _=>if emptyDict ks vs then some cU else none
  |_=>none
structure GoodO(X:Cx)(κ:Str->Addr->Prop)(T:aO)(k:Nat)(sc:Scope)(N:List Str):Prop where
 scope:X.env.scope=sc
 names:X.N=N
 calm:X.calm=true
 room:bE k X.A
 b8:∀x∈dm,X.mg x=none
 fP:∀x F,T.fP.lookup x=some F->HU X k x F
 fn:∀x F,T.fn.lookup x=some F->yO X κ k x F
 cst:∀x d,T.cst.lookup x=some d->∃v u,X.mg x=some u/\RelV v u/\fk d=some v
 met:∀m C F,(m,C,F)∈T.met->Ii X κ k C m F
 cls:∀C F,T.cls.lookup C=some F->∃j,j+1<=k/\Ij X κ j C F
 fld:∀f Cs,T.fld.lookup f=some Cs->yQ X.K κ Cs f
 clo:∀j F,T.clo[j]?=some F->jH X.prog X.w X.K X.mg X.base κ k j F
theorem GoodO.gl{X:Cx}{κ:Str->Addr->Prop}{T:aO}{k:Nat}{a:Scope}{N:List Str}{x:Str}(G:GoodO X κ T k a N)(h:rm a x=true):Gl X x:=by
 have e:=eq_of_beq h
 show X.env.scope.names.lookup x=some _
 rw[G.scope];exact e
theorem GoodO.hu{X:Cx}{κ:Str->Addr->Prop}{T:aO}{k:Nat}{a:Scope}{N:List Str}(G:GoodO X κ T k a N):X.A.units+64<cLine:=G.room.units
theorem GoodO.blk{X:Cx}{κ:Str->Addr->Prop}{T:aO}{k:Nat}{c:Scope}{N:List Str}(G:GoodO X κ T k c N)(scope:Scope)(cl:List (Str×Addr))(C:Addr)(d:List Str)(a:Shared)(b:Hp)(fp:List Addr):GoodO (blk X scope cl C d a b fp) κ T k (xZ scope c) d where
 scope:=by rw[←G.scope];rfl
 names:=rfl
 calm:=G.calm
 room:=G.room
 b8:=G.b8
 fP:=λx F h=>⟨(G.fP x F h).ex⟩
 fn:=λx F h=>⟨(G.fn x F h).ex⟩
 cst:=G.cst
 met:=λm C F h=>⟨(G.met m C F h).ex⟩
 cls:=λC F h=>let ⟨j,e,f⟩:=G.cls C F h;⟨j,e,⟨f.ex⟩⟩
 fld:=G.fld
 clo:=G.clo
def lZ(X:Cx)(κ:Str->Addr->Prop)(e:Expr)(m:EM):Prop:=(∀a,bh X κ a e m)/\(∀a,gH X κ a e m)/\isStar e=false
section
variable{X:Cx}{κ:Str->Addr->Prop}{T:aO}{k:Nat}{sc:Scope}{N:List Str}{f:Expr->Option EM}
theorem bX{e:Expr}{m:EM}(h:∀Φ,bh X κ Φ e m)(b:isStar e=false)(c:∀a,isTrue e X.env a=(do let v ←a;standAt e.pos;holding [v] (truthy v))):lZ X κ e m:=⟨h,λΦ=>BE (h Φ) c,b⟩
theorem bt(b:∀e m,f e=some m->lZ X κ e m):∀{a:List Expr}{as:AM},cz f a=some as->(∀Φ,lY X κ Φ a as)/\(∀e∈a,isStar e=false)
 |[],as,h=>by cases h;exact⟨λΦ=>ke,by simp⟩
 |e::a,as,h=>by
  obtain⟨m,c,h1,h2,rfl⟩:=bj h;obtain⟨d,_,g⟩:=b e m h1;obtain⟨i,j⟩:=bt b h2;refine⟨λΦ=>iE (d Φ) (i Φ) (aY g),λz k=>?_⟩
  grind
theorem yU(G:GoodO X κ T k sc N){x:Str}{pos:Pos}{m:EM}(h:oz T sc N x=some m):lZ X κ (.Name x pos) m:=by
 unfold oz at h;split at h
 .rename_i i q
  cases h;obtain⟨c,e,a,f⟩:=fM q;exact bX (λg=>oa (by rw[G.names];exact c) (by rw[G.scope];exact e) a f) rfl (λ_=>rfl)
 .split at h
  .rename_i b
   simp at b;obtain⟨d,a,rfl⟩:=bI h;obtain⟨v,u,j,l,n⟩:=G.cst x d a;obtain⟨o,p,r⟩:=tP b.2;exact bX (λg=>gI (AL (G.gl b.1) j l o) n) rfl (λ_=>rfl)
  .cases h
theorem vV{q:Const}{j:Nat}{pos:Pos}{m:EM}(h:qD q=some m):lZ X κ (.Constant q j pos) m:=by
 cases q<;>cases h
 .exact bX (λa=>gI Et rfl) rfl (λ_=>rfl)
 .exact bX (λa=>gI DF rfl) rfl (λ_=>rfl)
 .exact bX (λa=>gI Es rfl) rfl (λ_=>rfl)
 .exact bX (λa=>gI Eu rfl) rfl (λ_=>rfl)
theorem qF{op:BoolOp}{pos:Pos}(c:∀e m,f e=some m->lZ X κ e m):∀{d:List Expr}{m:EM},kf f op d=some m->(∀Φ,bh X κ Φ (.BoolOp op d pos) m)/\(∀Φ,DS X κ Φ (.BoolOp op d pos) m)
 |[],m,h=>by cases h
 |[a],m,h=>by
  obtain⟨p1,p2,p3⟩:=c a m h;exact⟨λΦ=>vA (p1 Φ),λΦ=>BI (p2 Φ)⟩
 |a::b::r,m,h=>by
  obtain⟨j,n,k,l,rfl⟩:=bj h;obtain⟨p1,p2,p3⟩:=c a j k;obtain⟨g,i⟩:=qF c l;cases op with
  |And=>exact⟨λΦ=>BF (p1 Φ) (g Φ),λΦ=>BJ (p2 Φ) (i Φ)⟩
  |Or=>exact⟨λΦ=>Fs (p1 Φ) (g Φ),λΦ=>Ft (p2 Φ) (i Φ)⟩
theorem qG(b:∀e m,f e=some m->lZ X κ e m){o:Option Expr}{n:Bool}{m:EM}{Φ:eQ}(h:sj f o=some (n,m)):Kw X κ Φ o n m:=by
 cases o with
 |none=>cases h;exact .inl ⟨rfl,rfl⟩
 |some e=>
  obtain⟨a,c,d⟩:=bI h;cases d;exact .inr ⟨e,rfl,rfl,(b e m c).1 Φ⟩
theorem B9{m:Str}{n:Nat}{b:BM}(h:FG m n=some b):m=b.nm/\n=b.ar:=by
 have:=List.find?_some h
 grind
theorem iJ{o:Expr}{n:Str}{env:Env}(h:lu o=true):attributeBase o n env (eval o env)=eval o env:=by
 cases o with
 |Call f a b p=>cases f<;>first|rfl | (cases h)
 |_=>rfl
theorem Il(B:X.A.units+64<cLine)(b:BM){o:Expr}{i:List Expr}{u:EM}{as:AM}{w y:Pos}{Φ:eQ}(k:lu o=true)(l:(w.endLine==y.line)=true)(n:i.length=b.ar)(p:bh X κ Φ o u)(z:cz f i=some as)(C:∀e m,f e=some m->lZ X κ e m) :
  bh X κ Φ (.Call (.Attribute o b.nm w) i [] y) (cB b.ty b.f u as):=by
 obtain⟨j,q⟩:=bt C z;have j:=j Φ;cases b with
 |append=>
  match i,n with
  |[e],_=>exact oq PySem.F.plainAttrs_list PySem.F.slot_list_append PySem.F.type_list_append mJ (λx v a Z c H S r h=>oo S r h) (λx v s t a Z c H Q S r d g=>vH S r d g) (iJ k) l p j q (by simp)
 |reverse=>
  match i,n with
  |[],_=>cases z;exact BX PySem.F.plainAttrs_list PySem.F.slot_list_reverse PySem.F.type_list_reverse rG (λx v a Z c H S r h=>oo S r h) (λx v s t a Z c H Q S r d g=>sd S r d g) (iJ k) l p
 |extend=>
  match i,n with
  |[e],_=>exact oq PySem.F.plainAttrs_list PySem.F.slot_list_extend PySem.F.type_list_extend vi (λx v a Z c H S r h=>oo S r h) (λx v s t a Z c H Q S r d g=>vI S r d g) (iJ k) l p j q (by simp)
 |index=>
  match i,n with
  |[e],_=>exact oq PySem.F.plainAttrs_list PySem.F.slot_list_index PySem.F.type_list_index (xY B) (λx v a Z c H S r h=>oo S r h) (λx v s t a Z c H Q S r d g=>yw S r d g) (iJ k) l p j q (by simp)
 |join=>
  match i,n with
  |[e],_=>exact oq PySem.F.plainAttrs_str PySem.F.slot_str_join PySem.F.type_str_join Bk (λx v a Z c H S r h=>BW S r h) (λx v s t a Z c H Q S r d g=>BZ S r d g) (iJ k) l p j q (by simp)
theorem yV(G:GoodO X κ T k sc N){o:Expr}{m:Str}{a:List Expr}{c:EM}{as:AM}{d g:Pos}{Φ:eQ}{x:EM}(l:lu o=true)(n:(d.endLine==g.line)=true)(j:a.length<20)(p:bh X κ Φ o c)(q:cz f a=some as)(r:∀e m,f e=some m->lZ X κ e m)
  (h:oA T m a.length c as=some x):bh X κ Φ (.Call (.Attribute o m d) a [] g) x:=by
 have one:∀b,FG m a.length=some b->bh X κ Φ (.Call (.Attribute o m d) a [] g) (cB b.ty b.f c as):=λb i=>by
  obtain⟨rfl,s⟩:=B9 i;exact Il G.hu b l n s p q r
 obtain⟨b,t,rfl⟩:=bI h;exact one b t
theorem yW(G:GoodO X κ T k sc N)(n:∀e m,f e=some m->lZ X κ e m){x:Str}{args:List Expr}{m:EM}{p pos:Pos}(h:oC T sc f x args=some m):lZ X κ (.Call (.Name x p) args [] pos) m:=by
 refine bX (λo=>?_) rfl (λ_=>rfl)
 unfold oC at h;split at h
 .rename_i s
  simp only[Bool.and_eq_true]at s;obtain⟨t,B,C⟩:=tP s.2;have l:=G.gl s.1;split at h
  .rename_i F q
   obtain⟨r,g,rfl⟩:=bI h;obtain⟨i,d⟩:=bt n g;cases args with
   |nil=>cases g;exact vP (G.fn x F q) G.room l t
   |cons a args=>exact yP (G.fn x F q) G.room l t (aY (d a (by simp))) (bz λz j=>d z (by simp[j])) (i o)
  .rename_i F _ q
   split at h
   .cases h
   .rename_i c
    obtain⟨r,g,rfl⟩:=bI h;obtain⟨i,d⟩:=bt n g;cases args with
    |nil=>exact absurd rfl c
    |cons a args=>exact vB (G.fP x F q) G.room l t (aY (d a (by simp))) (bz λz j=>d z (by simp[j])) (i o)
  .rename_i b _ _ w
   split at h
   .cases h
   .rename_i c
    obtain⟨r,g,rfl⟩:=bI h;obtain⟨i,d⟩:=bt n g;obtain⟨rfl,y,A⟩:=B8 w;cases args with
    |nil=>exact absurd rfl c
    |cons a args=>exact BU G.calm y l (G.b8 _ A) (aY (d a (by simp))) (bz λz j=>d z (by simp[j])) (i o)
  .split at h
   .rename_i u
    obtain rfl:=eq_of_beq u;split at h
    .cases h
    .rename_i c
     obtain⟨r,g,rfl⟩:=bI h;obtain⟨i,d⟩:=bt n g;cases args with
     |nil=>exact absurd rfl c
     |cons a args=>exact vT G.calm l (G.b8 _ (by decide)) (aY (d a (by simp))) (bz λz j=>d z (by simp[j])) (i o)
   .split at h
    .rename_i u
     obtain rfl:=eq_of_beq u;split at h
     .cases h
     .rename_i c
      obtain⟨r,g,rfl⟩:=bI h;obtain⟨i,d⟩:=bt n g;cases args with
      |nil=>exact absurd rfl c
      |cons a args=>exact yr G.calm l (G.b8 _ (by decide)) (aY (d a (by simp))) (bz λz j=>d z (by simp[j])) (i o)
    .cases h
 .cases h
theorem yX(G:GoodO X κ T k sc N)(c:∀e m,f e=some m->lZ X κ e m){x:Str}{args:List Expr}{m:EM}{p pos:Pos}(h:kg T sc N f x args=some m):lZ X κ (.Call (.Name x p) args [] pos) m:=by
 unfold kg at h;cases b:g8 sc N x with
 |none=>rw[b]at h;exact yW G c h
 |some i=>
  rw[b]at h;dsimp only at h;split at h
  .cases h
  .rename_i g
   obtain⟨t,j,rfl⟩:=bI h;obtain⟨l,d⟩:=bt c j;obtain⟨u,w,n,o⟩:=fM b;cases args with
   |nil=>simp_all
   |cons a q=>exact bX (λr=>vS (by rwa[G.names]) (by rwa[G.scope]) n o (aY (d a (by simp))) (bz λz s=>d z (by simp[s])) G.clo G.room (l r)) rfl (λ_=>rfl)
theorem B_(G:GoodO X κ T k sc N)(d:∀e m,f e=some m->lZ X κ e m){x:Str}{args:List Expr}{m:EM}{p pos:Pos}(h:qE sc f x args=some m):lZ X κ (.Call (.Name x p) args [] pos) m:=by
 unfold qE at h;split at h
 .rename_i b
  simp at b;obtain⟨rfl,g⟩:=b;split at h
  .rename_i a t u i
   obtain⟨rfl,j,l⟩:=vU i;obtain⟨n,o,rfl⟩:=bI h;obtain⟨q,_,r⟩:=d a n o;exact bX (λs=>BV (G.gl g) (G.b8 _ (by decide)) (G.gl j) (G.b8 _ l) (aY r) (bz λz c=>by simp at c;subst c;rfl) (q s)) rfl (λ_=>rfl)
  .cases h
 .cases h
theorem ly(G:GoodO X κ T k sc N)(i:∀e m,f e=some m->lZ X κ e m){iter:Expr}{mi:IM}(h:gx f sc iter=some mi):∀Φ j,vM X κ Φ j iter mi:=by
 intro Φ j
 have dflt:∀{mi},(f iter).map bg=some mi->vM X κ Φ j _ mi:=λ{mi} h=>by
  obtain⟨m,d,rfl⟩:=bI h;exact B4 ((i _ m d).1 Φ)
 unfold gx at h;split at h
 .split at h
  .rename_i p
   obtain rfl:=eq_of_beq p;split at h
   .rename_i l
    split at h
    .rename_i a
     obtain⟨n,d,rfl⟩:=bI h;obtain⟨g,o⟩:=bt i d;exact yA (G.gl l) (G.b8 _ (by decide)) (g Φ) (by rw[aY (by grind)];rfl)
    .rename_i a b
     obtain⟨n,d,rfl⟩:=bI h;obtain⟨g,o⟩:=bt i d;exact yB (G.gl l) (G.b8 _ (by decide)) (g Φ) (by rw[aY (by grind),aY (by grind)];rfl) (by rw[aY (by grind)];rfl)
    .rename_i a b c
     obtain⟨n,d,rfl⟩:=bI h;obtain⟨g,o⟩:=bt i d;exact yD (G.gl l) (G.b8 _ (by decide)) (g Φ) (aY (by grind)) (bz (by grind))
    .cases h
   .cases h
  grind
 grind
end
section
variable{κ:Str->Addr->Prop}{T:aO}{k:Nat}
theorem Cb{X:Cx}{a:Scope}{N:List Str}(G:GoodO X κ T k a N){scope:Scope}{x:Str}{cap:List Nat}(d:x5 scope a x=true)(e:rT a N (et scope)=some cap) :
  jA X scope [x] (et scope) cap/\scope.names.lookup x=some .local/\([x]++et scope).Nodup:=by
 simp only[x5,Bool.and_eq_true,decide_eq_true_eq,List.all_eq_true,Bool.not_eq_true',beq_iff_eq,Bool.or_eq_true]at d;obtain⟨⟨⟨⟨⟨f,p⟩,q⟩,r⟩,g⟩,h⟩:=d;obtain⟨l,s⟩:=x9 e
 have m:∀y∈scope.names,y.2=.free->(a.names.lookup y.1=some .cell\/a.names.lookup y.1=some .free)/\scope.names.lookup y.1=some .free:=λy b c=>by
  grind
 refine⟨⟨f,λy b c=>?_,λy b c=>?_,λy b c=>?_,l,λj i z n t=>?_⟩,g,h⟩
 .grind
 .grind
 .have:=(m y b c).1
  show X.env.scope.names.lookup _=_\/X.env.scope.names.lookup _=_
  rwa[G.scope]
 .refine⟨by rw[G.names];grind,?_⟩
  have o:=List.mem_of_getElem? n;unfold et at o
  grind
theorem lA{T:aO}{a:Scope}{N:List Str}{n:Nat}{b:Expr}{gens:List Comprehension}{scope:Scope}{pos:Pos}{m:EM}{P:Prop}(e:kR gens=none)(h:cG T (n+1) a N (.ListComp b gens scope pos)=some m):P:=by
 replace h:(match kR gens with
   |some (x,_,iter,c)=>if (x5 scope a x&&!isSet iter)=true then (match rT a N (et scope),gx (cG T n a N) a iter,cG T n (xZ scope a) (x::et scope) b,yT (cG T n (xZ scope a) (x::et scope)) c with
    |some d,some f,some g,some (i,j)=>some (cM g i j f 0 d)
    |_,_,_,_=>none)else none
   |none=>none)=some m:=h
 rw[e]at h;cases h
theorem jI{n:Nat}(o:∀(X:Cx) (g:Scope) (N:List Str) (e:Expr) (m:EM),GoodO X κ T k g N->cG T n g N e=some m->lZ X κ e m){X:Cx}{g:Scope}{N:List Str}(G:GoodO X κ T k g N){scope:Scope}{x:Str}{iter i:Expr}{f:List Expr}{p pos:Pos}{m:EM}
  (h:cG T (n+1) g N (.ListComp i [⟨.Name x p,iter,f,0⟩] scope pos)=some m):∃me nc mc mi cap,m=cM me nc mc mi 0 cap/\jA X scope [x] (et scope) cap/\scope.names.lookup x=some .local/\([x]++et scope).Nodup /\
   (∀z,foldedSetIterable iter X.env z=pure z)/\(∀Φ,vM X κ Φ (.Name x p) iter mi) /\
   ∀cl C b d fp,((f=[]/\nc=true)\/∃c,f=[c]/\nc=false/\gH (blk X scope cl C ([x]++et scope) b d fp) κ gM c mc)/\bh (blk X scope cl C ([x]++et scope) b d fp) κ gM i me:=by
 replace h:(if (x5 _ g x&&!isSet _)=true then (match rT g N _,gx _ g _,cG T n _ _ _,yT _ _ with
    |some _,some mi,some me,some (nc,mc)=>some _
    |_,_,_,_=>none)else none)=some m:=h
 split at h
 .rename_i l
  simp at l;split at h
  .rename_i cap mi me nc mc s t u j
   cases h;obtain⟨w,y,A⟩:=Cb G l.1 s;refine⟨me,nc,mc,mi,_,rfl,w,y,A,iC l.2,λΦ=>ly G (by grind) t Φ _,λcl C b d fp=>?_⟩
   have q:=G.blk scope cl C ([x]++et scope) b d fp;refine⟨?_,(o _ _ _ _ me q u).1 _⟩
   match f,j with
   |[],j=>cases j;grind
   |[r],j=>
    obtain⟨a,B,D⟩:=bI j;cases D;exact .inr ⟨r,rfl,rfl,(o _ _ _ r mc q B).2.1 _⟩
  .cases h
 .cases h
theorem er:∀(n:Nat) (X:Cx) (u:Scope) (N:List Str) (e:Expr) (m:EM),GoodO X κ T k u N->cG T n u N e=some m->lZ X κ e m:=by
 intro n
 induction n with
 |zero=>intro X u N e m G h;cases h
 |succ n L=>
  intro X u N e m G h;have g:∀e m,cG T n u N e=some m->lZ X κ e m:=λe m q=>L X u N e m G q
  cases e with
  |Name x pos=>exact yU G h
  |Constant c j pos=>exact vV h
  |BinOp a op b pos=>
   obtain⟨y,A,l,w,rfl⟩:=bj h;exact bX (λd=>Bw ((g a y l).1 d) ((g b A w).1 d)) rfl (λ_=>rfl)
  |UnaryOp op a pos=>
   cases op with
   |USub=>
    obtain⟨y,l,rfl⟩:=bI h;exact bX (λd=>Bx ((g a y l).1 d)) rfl (λ_=>rfl)
   |Not=>
    obtain⟨y,l,rfl⟩:=bI h;exact⟨λd=>BG ((g a y l).1 d),λd=>BH ((g a y l).2.1 d),rfl⟩
   |_=>cases h
  |BoolOp op D pos=>
   match D,h with
   |a::b::r,h=>
    obtain⟨Q,R⟩:=qF (pos:=pos) g (show kf (cG T n u N) op (a::b::r)=some m from h)
    exact⟨Q,λd=>(R d).pt,rfl⟩
   |[_],h=>cases h
   |[],h=>cases h
  |Compare a I S pos=>
   match I,S,h with
   |[op],[b],h=>
    replace h:(if isSet b=true then none else o2 (cG T n u N a) (cG T n u N b) (m2 (aQ op)))=some m:=h
    split at h
    .cases h
    .rename_i U
     obtain⟨y,A,l,w,rfl⟩:=bj h;have M:=x_ (op:=op) (b:=b) (by simpa using U)
     exact⟨λd=>(tX G.hu M ((g a y l).1 d) ((g b A w).1 d)).1,λd=>(tX G.hu M ((g a y l).1 d) ((g b A w).1 d)).2,rfl⟩
   |[],_,h=>cases h
   |[_],[],h=>cases h
   |[_],_::_::_,h=>cases h
   |_::_::_,[],h=>cases h
   |_::_::_,[_],h=>cases h
   |_::_::_,_::_::_,h=>cases h
  |IfExp t a b pos=>
   obtain⟨mt,V,l,z,rfl⟩:=bj h;obtain⟨y,A,w,E,rfl⟩:=bj z;exact⟨λd=>BK ((g _ _ l).2.1 d) ((g _ _ w).1 d) ((g _ _ E).1 d),λd=>BL ((g _ _ l).2.1 d) ((g _ _ w).2.1 d) ((g _ _ E).2.1 d),rfl⟩
  |Subscript a s pos=>
   have J:∀b,isSlice b=false->o2 (cG T n u N a) (cG T n u N b) (m2 aM)=some m->lZ X κ (.Subscript a b pos) m:=λb Y h=>by
    obtain⟨y,A,l,w,rfl⟩:=bj h;refine bX (λd=>BB (by have:=G.hu;omega) (λo i=>?_) ((g _ _ l).1 d) ((g _ _ w).1 d)) rfl (λ_=>rfl)
    cases b<;>first|rfl | (cases Y)
   cases s with
   |Slice Z B st p2=>
    cases st with
    |none=>
     obtain⟨y,a0,l,z,rfl⟩:=bj h;obtain⟨⟨nl,ml⟩,⟨nh,mh⟩,w,E,rfl⟩:=bj z;exact bX (λd=>BD ((g _ _ l).1 d) (qG g w) (qG g E)) rfl (λ_=>rfl)
    |some e=>
     cases Z with
     |none=>
      cases B with
      |none=>
       exact nomatch (show(none:Option EM)=some m from h)
      |some _=>exact nomatch (show(none:Option EM)=some m from h)
     |some _=>exact nomatch (show(none:Option EM)=some m from h)
   |_=>exact J _ rfl h
  |List es pos=>
   obtain⟨F,l,rfl⟩:=bI h;exact bX (λd=>Bu ((bt g l).1 d)) rfl (λ_=>rfl)
  |Tuple es j pos=>
   obtain⟨F,l,rfl⟩:=bI h;exact bX (λd=>Bv ((bt g l).1 d)) rfl (λ_=>rfl)
  |Call f args C pos=>
   cases f with
   |Name x p=>
    cases C with
    |nil=>
     replace h:(match qE u (cG T n u N) x args with|some m=>some m|none=>kg T u N (cG T n u N) x args)=some m:=h
     cases B:qE u (cG T n u N) x args with
     |some m'=>
      rw[B]at h;cases h;exact B_ G g B
     |none=>
      rw[B]at h;exact yX G g h
    |cons _ _=>cases h
   |Attribute o mm p1=>
    cases C with
    |nil=>
     replace h:(if (p1.endLine==pos.line&&lu o&&decide (args.length<20))=true then (match cG T n u N o,cz (cG T n u N) args with
   |some K,some F=>oA T mm args.length K F
   |_,_=>none)else none)=some m:=h
     split at h
     .rename_i H
      simp only[Bool.and_eq_true,decide_eq_true_eq]at H;split at h
      .rename_i K F l w
       exact bX (λd=>yV G H.1.2 H.1.1 H.2 ((g o K l).1 d) w g h) rfl (λ_=>rfl)
      .cases h
     .cases h
    |cons _ _=>cases h
   |_=>cases h
  |ListComp b0 gens scope pos=>
   cases O:kR gens with
   |none=>
    exact lA O h
   |some q=>
    obtain⟨x,px,iter,c0⟩:=q;obtain rfl:=mS O;obtain⟨me,nc,mc,mi,e0,rfl,b1,b2,b3,b4,b5,b6⟩:=jI (λX u N e m G q=>L X u N e m G q) G h
    exact bX (λd=>yF G.calm b1 b4 (b5 d) b2 b3 b6) rfl (λ_=>rfl)
  |Dict P D pos=>
   replace h:(if emptyDict P D=true then some cU else none)=some m:=h
   split at h
   .rename_i hd
    cases h
    match P,D,hd with
    |[],[],_=>exact bX (λd=>vQ) rfl (λ_=>rfl)
   .cases h
  |_=>cases h
end
structure cV(X:Cx)(κ:Str->Addr->Prop)(T:aO)(k:Nat)(sc:Scope)(N:List Str):Prop extends GoodO X κ T k sc N where
 own:PassesOwn (model X.prog X.w) X.A X.env X.xe
 Cc:∀x,vw sc x=true->T.fz.contains x=false->(X.fn x=true\/X.env.scope.names.lookup x=some .local)
 jT:N.Nodup
 kind:sc.kind=.function
 fg:T.xt=false->∀e s,¬ X.xe e s
def bO(f:Stmt->Option SM):List Stmt->Option SM
 |[]=>some aq
 |s::r=>o2 (f s) (bO f r) ak
def oD(f:Expr->Option EM)(b:Scope)(iter:Expr):Option IM:=match iter with
 |.Call (.Name g _) [a] [] _=>if g==("enumerate":Str)then (if rm b g then (f a).map yx else none)else gx f b iter
 |_=>gx f b iter
noncomputable def Im:Expr->Bool
 |.Dict [] [] _=>true
 |_=>false
theorem yY{e:Expr}(h:Im e=true):∃p,e=.Dict [] [] p:=by
 cases e<;>try cases h
 rename_i k v p;cases k<;>try cases h
 cases v<;>cases h
 exact⟨_,rfl⟩
def iK(T:aO)(a:Scope)(N:List Str)(x:Str):Option Nat:=if T.fz.contains x then none else pR a N x
def lB(T:aO)(a:Scope)(N:List Str)(nms:List (Str×Pos)):Option (List Nat):=if nms.any (λy=>T.fz.contains y.1)then none else n8 a N nms
def sm(T:aO)(td:List Str)(k:Nat)(a:Scope)(N:List Str)(x:Str)(b:Pos)(e:Expr)(pos:Pos):Option SM:=match iK T a N x with
   |some i=>if td.contains x&&Im e then some (aE i sh)else (match cG T k a N e with
    |some m=>if pS a x b e then (if pos.line==b.line then some (aE i m)else none)else some (aE i m)
    |none=>none)
   |none=>none
def sr(T:aO)(k:Nat)(a:Scope)(N:List Str)(b:List Expr)(e:Expr):Option SM:=match eI b with
   |some nms=>match lB T a N nms,cG T k a N e with
    |some c,some m=>if ya e then some (FE c m)else none
    |_,_=>none
   |none=>none
def fQ(T:aO)(td:List Str)(k:Nat)(d:Scope)(N:List Str):Nat->Stmt->Option SM
 |0,_=>none
 |n+1,st=>match st with
  |.Return none _=>some yG
  |.Return (some e) _=>some (match cG T k d N e with
   |some m=>cf m
   |none=>dw)
  |.Assign [.Name x f] e pos=>sm T td k d N x f e pos
  |.Assign [.Tuple es _ _] e _=>sr T k d N es e
  |.Assign [.Subscript o i _] e _=>if isSlice i||kS e then none else o2 (cG T k d N o) (o2 (cG T k d N i) (cG T k d N e) Prod.mk) λx y=>cC x y.1 y.2
  |.Expr e _=>if kS e then none else (cG T k d N e).map eg
  |.If c a b _=>o2 (cG T k d N c) (o2 (bO (fQ T td k d N n) a) (bO (fQ T td k d N n) b) Prod.mk) λx y=>eU x y.1 y.2
  |.While c b [] _=>o2 (cG T k d N c) (bO (fQ T td k d N n) b) lg
  |.For (.Name x _) it b [] _=>if isSet it then none else o2 (iK T d N x) (o2 (gx (cG T k d N) d it) (bO (fQ T td k d N n) b) Prod.mk) λi y=>dM (bN i) y.1 y.2
  |.For (.Tuple es _ _) it b [] _=>if isSet it then none else match eI es with
   |some nms=>o2 (lB T d N nms) (o2 (oD (cG T k d N) d it) (bO (fQ T td k d N n) b) Prod.mk) λg y=>dM (jF g) y.1 y.2
   |none=>none
  |.Raise _ _ _=>some dw
  |.Try b (_::_) [] [] _=>if T.xt then none else bO (fQ T td k d N n) b
  |_=>none
section
variable{X:Cx}{κ:Str->Addr->Prop}{Φ:eQ}{T:aO}{td:List Str}{k:Nat}{sc:Scope}{N:List Str}{α α' cm α1:List Addr}{Z Z' Z0 Z1:Addr->Prop}{Ω au:aA}{H H' H0 H1:Hp}
theorem Ce{es:List Expr}{x1:Nat}{j p pos:Pos}{a:Expr}{m:EM}(hg:Gl X "enumerate")(hm:X.mg "enumerate"=none)(O:starEach [a] X.env=[(false,eval a X.env)])(ha:bh X κ Φ a m) :
  vM X κ Φ (.Tuple es x1 j) (.Call (.Name "enumerate" p) [a] [] pos) (yx m):=by
 intro r Z0 H0 ρ Ω;refine PI.imp (Bj hg hm (dX (ha r Z0 H0 ρ Ω) je O) O) ?_;rintro σ H R ⟨α,Z,S,g⟩;refine⟨α,Z,S,qv.use g λx s _ v H1 t Z1 g1 l P n=>?_⟩
 have u:∀{b:List Addr}{h:Addr->Prop}{c:aA}{f:Hp}{i:Nat}{v:V}{q:D},bc κ b h c f->av b h f q v->∀p,f p=none->∃z,bD b h f b z (upd f p (.tup [.int i,v]))/\bc κ b z c (upd f p (.tup [.int i,v]))/\av b z (upd f p (.tup [.int i,v])) (.tup [.int (0+i:Nat),q]) (.ref p):=λ{b h c f i v q} k A p B=>by
  obtain⟨Q,C⟩:=k.tT (p:=p) (o:=.tup [.int i,v]) B True;simp only[if_true]at Q C;refine⟨Zp h p,C,Q,?_⟩;simp only[av];refine⟨p,_,rfl,.inr rfl,aG,cy.mpr (.cons ?_ (.one (k.cS C A)))⟩;simp only[av];simp
 cases E:cT s x with
 |none=>simp only[E]at n;exact n.elim
 |some a0=>
  simp only[E]at n;have F:=P;obtain⟨a,G,rfl,q1,q2⟩:=bf l P E;refine⟨a,rfl,⟨G,jS q1⟩,n _ H1 t Z1 (bD.refl l.has) l ?_⟩;intro b h c f ds g2 k I;obtain⟨J,h2,rfl⟩:=bI I;have r2:=l.cS g2 F;obtain⟨a',K,e,L,T⟩:=bf k r2 h2;cases e;refine⟨λi d hd=>?_,λi U=>by rw[j9]at U;exact⟨K,jS L,by rw[T.length];exact U⟩⟩
  obtain⟨q,M,rfl⟩:=n7 J 0 i d hd;obtain⟨v,Y,A⟩:=T.get M;refine⟨⟨K,v,jS L,Y⟩,λy H3 N=>?_⟩
  obtain⟨p,rfl,B,N⟩:=N;obtain⟨w,hw,rfl⟩:=N K (jS L);rw[Y]at hw;cases hw
  exact u k A p B
theorem Cf{body:List Stmt}{c:ExceptHandler}{d:List ExceptHandler}{pos:Pos}{b:SM}(g:∀e s,¬ X.xe e s)(i:jW X κ Φ body b):gZ X κ Φ (.Try body (c::d) [] [] pos) b:=by
 intro j k l m n pins s o H D I h;refine wpAny_Try_except (wpAny_mono (i _ k l m n _ s o H D I h) (λf a q=>?_) λe a q=>absurd q (g e a))
 cases f with
 |next=>exact wpAny_execs_nil q
 |_=>exact q
theorem Cg(G:GoodO X κ T k sc N){f:Expr->Option EM}(b:∀e m,f e=some m->lZ X κ e m){iter:Expr}{mi:IM}(h:oD f sc iter=some mi){c:List Expr}{j:Nat}{d:Pos}:∀Φ,vM X κ Φ (.Tuple c j d) iter mi:=by
 intro Φ;unfold oD at h;split at h
 .rename_i g p a i
  split at h
  .rename_i l
   obtain rfl:=eq_of_beq l;split at h
   .rename_i n
    obtain⟨o,e,rfl⟩:=bI h;obtain⟨q,_,r⟩:=b a o e;exact Ce (G.gl n) (G.b8 _ (by decide)) (by rw[aY r];rfl) (q Φ)
   .cases h
  .exact ly G b h Φ _
 .exact ly G b h Φ _
theorem vW(G:cV X κ T k sc N){x:Str}{i:Nat}(h:pR sc N x=some i):X.N[i]?=some x/\Loc X.env.scope x:=by
 unfold pR at h;split at h
 .rename_i a
  simp at a;refine⟨by rw[G.names];exact x8 h,?_⟩
  rw[G.scope];have b:=a.1;unfold vw at b;unfold L2.Loc
  grind
 .cases h
theorem cX{f:Stmt->Option SM}(e:∀s c,f s=some c->gZ X κ Φ s c):∀{d:List Stmt}{c:SM},bO f d=some c->jW X κ Φ d c
 |[],c,h=>by cases h;exact t_
 |s::d,c,h=>by
  obtain⟨a,b,h1,h2,rfl⟩:=bj h;exact qA (e s a h1) (cX e h2)
theorem fC(G:cV X κ T k sc N){x:Str}{i:Nat}(h:iK T sc N x=some i):X.N[i]?=some x/\Loc X.env.scope x/\(X.fn x=true\/X.env.scope.names.lookup x=some .local):=by
 unfold iK at h;split at h
 .cases h
 .rename_i c
  obtain⟨a,b⟩:=vW G h;refine⟨a,b,G.Cc x ?_ (by grind)⟩
  unfold pR at h
  grind
theorem lD(G:cV X κ T k sc N):∀{nms:List (Str×Pos)}{a:List Nat},(∀y∈nms,T.fz.contains y.1=false)->n8 sc N nms=some a->a.length=nms.length/\∀(j i:Nat) (x:Str×Pos),a[j]?=some i->nms[j]?=some x->X.N[i]?=some x.1/\Loc X.env.scope x.1/\(X.fn x.1=true\/X.env.scope.names.lookup x.1=some .local)
 |[],a,_,h=>by cases h;simp_all
 |x::xs,a,b,h=>by
  obtain⟨i,h1,h⟩:=Option.bind_eq_some_iff.mp h;obtain⟨c,d,h⟩:=Option.bind_eq_some_iff.mp h;cases h;obtain⟨l,e⟩:=lD G (λy f=>b y (by simp[f])) d
  refine⟨by simp_all,λj g y m n=>?_⟩
  cases j with
  |zero=>
   exact fC G (by unfold iK;simp_all)
  |succ j=>exact e j g y (by simp_all) (by simp_all)
theorem qH(G:cV X κ T k sc N){c:List Expr}{j:Nat}{p:Pos}{nms:List (Str×Pos)}{a:List Nat}(e:eI c=some nms)(f:lB T sc N nms=some a):PG X (.Tuple c j p) (AS X.K a.length (jk a)):=by
 obtain rfl:=jD e
 have b:(∀y∈nms,T.fz.contains y.1=false)/\n8 sc N nms=some a:=by
  unfold lB at f
  grind
 obtain⟨d,g⟩:=lD G b.1 b.2;obtain⟨h,i⟩:=mT _ _;exact EA G.calm (mR (nms:=nms) (by rw[G.names];exact G.jT) a _ d g) (by rw[h,d]) i
theorem qI{a:Expr}{gens:List Comprehension}{scope:Scope}{p b:Pos}{x:Str}{l:Nat}(G:cV X κ T k sc N) :
  swapsWith (.ListComp a gens scope p) (some (.Name x b)) l X.env=pure (pS sc x b (.ListComp a gens scope p)):=by
 have c:X.env.blockKind=.function:=by
  show(if X.env.scope.kind.isAnnotationScope=true then ScopeKind.function else X.env.scope.kind)=_
  rw[G.scope,G.kind];rfl
 show pure _=_
 rw[c]
 show pure (true&&X.env.scope.names.lookup x==some _&&b.line==p.line&&!(scope.names.any _))=_
 rw[G.scope];rfl
theorem ub(G:cV X κ T k sc N){n i:Nat}{x:Str}{a pos:Pos}{e:Expr}{m:EM}(j:iK T sc N x=some i)(h:cG T n sc N e=some m)(l:pS sc x a e=true->pos.line=a.line):gZ X κ Φ (.Assign [.Name x a] e pos) (aE i m):=by
 obtain⟨d,o,r⟩:=fC G j;have f:X.N.Nodup:=by rw[G.names];exact G.jT
 have E:=er n X sc N e m G.toGoodO h;have plain:swapsWith e (some (.Name x a)) pos.line X.env=pure false->gZ X κ Φ (.Assign [.Name x a] e pos) (aE i m):=λq=>ow f d o r q (E.1 Φ)
 cases e with
 |ListComp c gens scope p=>
  cases b:pS sc x a (.ListComp c gens scope p)with
  |false=>exact plain (by rw[qI G,b])
  |true=>
   cases n with
   |zero=>cases h
   |succ n=>
   cases g:kR gens with
   |none=>exact lA g h
   |some q=>
    obtain⟨y,D,iter,s⟩:=q;obtain rfl:=mS g;obtain⟨F,H,I,J,cap,rfl,t,u,w,z,A,B⟩:=jI (λX sc N e m G q=>er n X sc N e m G q) G.toGoodO h
    have C:X.env.scope.names.lookup x=some .local:=by
     rw[G.scope];unfold pS at b;simp only[Bool.and_eq_true,beq_iff_eq]at b;exact b.1.1
    exact yJ f d C (by rw[qI G,b]) G.calm t z (jB 1 (by decide)) (lb (cap:=cap) (A Φ) u w B) (l b)
 |SetComp=>cases n<;>cases h
 |DictComp=>cases n<;>cases h
 |_=>exact plain rfl
theorem oE{e:Expr}{t:Option Expr}{l:Nat}{env:Env}(h:kS e=false):swapsWith e t l env=pure false:=by
 cases e<;>first|rfl | (cases h)
theorem gN(G:cV X κ T k sc N):∀(n:Nat) (d:Nat) (st:Stmt) (c:SM),fQ T td d sc N n st=some c->gZ X κ Φ st c:=by
 intro n d;have E:∀e m,cG T d sc N e=some m->lZ X κ e m:=λe m q=>er d X sc N e m G.toGoodO q
 induction n with
 |zero=>intro st c h;cases h
 |succ n V=>
  intro st c h;have B:∀F c,bO (fQ T td d sc N n) F=some c->jW X κ Φ F c:=λF c q=>cX V q
  have P:X.N.Nodup:=by rw[G.names];exact G.jT
  cases st with
  |Return v f=>
   cases v with
   |none=>cases h;exact yH
   |some e=>
    replace h:some (match cG T d sc N e with
   |some m=>cf m
   |none=>dw)=some c:=h
    cases h;split
    .rename_i m g
     exact ua ((E e m g).1 Φ)
    .exact m5
  |Assign Y e f=>
   cases Y with
   |nil=>cases h
   |cons t r=>
   cases r with
   |cons t2 r=>cases t<;>cases h
   |nil=>
   cases t with
   |Name x Q=>
    replace h:sm T td d sc N x Q e f=some c:=h;unfold sm at h;split at h
    .rename_i i H
     split at h
     .rename_i R
      cases h;simp only[Bool.and_eq_true]at R;obtain⟨pd,rfl⟩:=yY R.2;obtain⟨I,J,K⟩:=fC G H;exact ow P I J K rfl vR
     .split at h
      .rename_i m S
       split at h
       .split at h
        .rename_i s Z
         cases h;exact ub G H S λ_=>eq_of_beq Z
        .cases h
       .rename_i s
        cases h;exact ub G H S λq=>absurd q s
      .cases h
    .cases h
   |Tuple L j p=>
    replace h:sr T d sc N L e=some c:=h;unfold sr at h;split at h
    .rename_i nms M
     split at h
     .rename_i A m g l
      split at h
      .rename_i hp
       cases h;exact B7 (qH G M g) hp ((E e m l).1 Φ)
      .cases h
     .cases h
    .cases h
   |Subscript o i p=>
    replace h:(if (isSlice i||kS e)=true then none else o2 (cG T d sc N o) (o2 (cG T d sc N i) (cG T d sc N e) Prod.mk) λx y=>cC x y.1 y.2)=some c:=h
    split at h
    .cases h
    .rename_i C
     simp only[Bool.or_eq_true,not_or,Bool.not_eq_true]at C;obtain⟨md,y,g,l,rfl⟩:=bj h;obtain⟨mk,mv,u,w,rfl⟩:=bj l;exact yR (by have:=G.hu;omega) ((E o md g).1 Φ) ((E i mk u).1 Φ) ((E e mv w).1 Φ) (oE C.2)
   |_=>cases h
  |Expr e f=>
   replace h:(if kS e=true then none else (cG T d sc N e).map eg)=some c:=h
   split at h
   .cases h
   .rename_i C
    obtain⟨m,g,rfl⟩:=bI h;exact B6 (oE (by simpa using C)) ((E e m g).1 Φ)
  |If O a b f=>
   obtain⟨m,y,g,l,rfl⟩:=bj h;obtain⟨ca,z,u,w,rfl⟩:=bj l;exact yK ((E O m g).2.1 Φ) (B a ca u) (B b z w)
  |While O b e f=>
   cases e with
   |nil=>
    obtain⟨m,z,g,l,rfl⟩:=bj h;exact m6 G.own ((E O m g).2.1 Φ) (B b z l)
   |cons _ _=>cases h
  |For U D b e f=>
   cases e with
   |nil=>
    cases U with
    |Name x Q=>
     replace h:(if isSet D=true then none else o2 (iK T sc N x) (o2 (gx (cG T d sc N) sc D) (bO (fQ T td d sc N n) b) Prod.mk) λi y=>dM (bN i) y.1 y.2)=some c:=h
     split at h
     .cases h
     .rename_i s
      obtain⟨i,y,g,l,rfl⟩:=bj h;obtain⟨mi,z,u,w,rfl⟩:=bj l;obtain⟨I,J,K⟩:=fC G g;exact oy G.own G.calm (ly G.toGoodO E u Φ _) (j7 P I J K) (yM i) (B b z w) (iC (by simpa using s))
    |Tuple L j p=>
     replace h:(if isSet D=true then none else match eI L with
   |some nms=>o2 (lB T sc N nms) (o2 (oD (cG T d sc N) sc D) (bO (fQ T td d sc N n) b) Prod.mk) λA y=>dM (jF A) y.1 y.2
   |none=>none)=some c:=h
     split at h
     .cases h
     .rename_i s
      split at h
      .rename_i nms M
       obtain⟨A,y,g,l,rfl⟩:=bj h;obtain⟨mi,z,u,w,rfl⟩:=bj l;exact oy G.own G.calm (Cg G.toGoodO E u Φ) (qH G M g) (yN A) (B b z w) (iC (by simpa using s))
      .cases h
    |_=>cases h
   |cons _ _=>cases U<;>cases h
  |Raise _ _ _=>cases h;exact m5
  |Try b s oe fi f=>
   match s,oe,fi,h with
   |h0::s,[],[],h=>
    replace h:(if T.xt then none else bO (fQ T td d sc N n) b)=some c:=h
    split at h
    .cases h
    .rename_i hx
     exact Cf (G.fg (by simpa using hx)) (B b c h)
   |[],_,_,h=>cases h
   |_::_,_::_,_,h=>cases h
   |_::_,[],_::_,h=>cases h
  |_=>cases h
def bS(b:Str->Option Value):Str->Addr->Prop:=λC a=>b C=some (.ref a)
structure ba(P:Program)(w:World)(K:PySem.W.Frag)(mg:Str->Option Value)(base:Heap)(T:aO)(k:Nat):Prop where
 b8:∀x∈dm,mg x=none
 fP:∀x F,T.fP.lookup x=some F->∃(f:Addr) (fd:FuncData) (ps:List Str),mg x=some (.ref f)/\PySem.W.keepIn K (.ref f)=true/\Binds K fd ps []/\bP P w K mg base dH k f fd ps (n4 F)
 fn:∀x F,T.fn.lookup x=some F->∃(f:Addr) (fd:FuncData) (ps:List Str),mg x=some (.ref f)/\PySem.W.keepIn K (.ref f)=true/\Binds K fd ps []/\bP P w K mg base dH k f fd ps (ei (bS mg) F)
 cst:∀x d,T.cst.lookup x=some d->∃v u,mg x=some u/\RelV v u/\fk d=some v
 met:∀m C F,(m,C,F)∈T.met->∃(Ca f:Addr) (fd:FuncData) (ps:List Str),DV P w K mg base (bS mg) k C m F Ca f fd ps
 cls:∀C F,T.cls.lookup C=some F->∃j,j+1<=k/\∃(Ca f:Addr) (fd:FuncData) (ps:List Str),bS mg C Ca/\Mk K Ca f/\mg C=some (.ref Ca)/\Binds K fd ps []/\bP P w K mg base dH j f fd ps (ei (bS mg) F)
 fld:∀f Cs,T.fld.lookup f=some Cs->yQ K (bS mg) Cs f
 clo:∀j F,T.clo[j]?=some F->jH P w K mg base (bS mg) k j F
def cY(T:aO)(td:List Str)(st:Stmt)(N:List Str):Option SM:=bO (fQ T td 60 (af st) N 30) (aT st)
end
section
variable{P:Program}{w:World}{K:PySem.W.Frag}{mg:Str->Option Value}{base:Heap}{T:aO}{k:Nat}
theorem iM(W:ba P w K mg base T k){x qual:Str}{st:Stmt}{f:Addr}{o:FuncData}(F:tw K x qual st f o){N ps td:List Str}{c:SM}(p:bL N ps (af st)=true)(z:cY T td st N=some c) :
    bP P w K mg base dH (k+1) f o ps (ei (bS mg) (bA N.length ps.length c)):=by
  refine F.ok (cQ p) (λB H Q E h=>?_) λD A outer s H B Q E I h=>?_
  · obtain⟨b,Z,e,J,S,r,g⟩:=h
    rw[r.length];unfold bA at g;split at g
    · grind
    · exact g.elim
  · obtain⟨b,Z,e,J,S,r,g⟩:=h
    have t:=cQ p
    have G:cV (bF dH P w K mg _ N _ _ f _ A outer s H E).fg _ T k _ N:=
      { scope:=rfl,names:=rfl,calm:=rfl,room:=I,b8:=W.b8,own:=PassesOwn.never,Cc:=λ_ _ _=>.inl rfl,jT:=t.nd,kind:=t.kind,fg:=λ_ _ _ h=>h,fld:=W.fld,cst:=W.cst
        fP:=λx F h=>⟨W.fP x F h⟩,fn:=λx F h=>⟨W.fn x F h⟩,met:=λm C F h=>⟨W.met m C F h⟩,cls:=λC F h=>let ⟨j,L,M⟩:=W.cls C F h;⟨j,L,⟨M⟩⟩,clo:=W.clo }
    refine⟨FD _ gM b Z H c _ e,cX (gN G 30 60) z b Z H _ e,b,Z,dU S r,?_⟩;unfold bA at g;split at g
    · cases q:c _ e with
      |rt d a=>rw[q]at g;exact λv i l n O st r=>g v i _ n O st r
      |nx u a=>rw[q]at g;exact λR i l n y=>g _ i _ n y.gr y.st (aR rfl)
      |bk u a=>rw[q]at g;exact g.elim
      |ct u a=>rw[q]at g;exact g.elim
      |exc x a=>rw[q]at g;exact g
      |bad=>rw[q]at g;exact g.elim
    · exact g.elim
theorem ba.mono(W:ba P w K mg base T k){j:Nat}(h:k<=j):ba P w K mg base T j:=
 ⟨W.b8,λx F q=>let ⟨f,i,l,a,b,c,d⟩:=W.fP x F q;⟨f,i,l,a,b,c,d.mono h⟩,λx F q=>let ⟨f,i,l,a,b,c,d⟩:=W.fn x F q;⟨f,i,l,a,b,c,d.mono h⟩,W.cst,
  λm C F q=>let ⟨n,f,i,l,a,b,c,o,p,r,F1,d,s,d2,e,g⟩:=W.met m C F q;⟨n,f,i,l,a,b,c,o,_,r,F1,d,s,d2,e.mono h,g⟩,λC F q=>let ⟨t,y,u⟩:=W.cls C F q;⟨t,by grind,u⟩,W.fld,λj F q=>(W.clo j F q).mono h⟩
end
noncomputable def aO.vX(T:aO)(x:Str)(F:List D->Out Rs):aO:={T with fP:=(x,F)::T.fP}
noncomputable def aO.dz(T:aO)(x:Str)(F:aX):aO:={T with fn:=(x,F)::T.fn}
noncomputable def aO.Ci(T:aO)(x:Str)(d:D):aO:={T with cst:=(x,d)::T.cst}
theorem jt{a:Type}{x y:Str}{F G:a}{l:List (Str×a)}(h:((x,F)::l).lookup y=some G):(y=x/\G=F)\/l.lookup y=some G:=by
 grind
section
variable{P:Program}{w:World}{K:PySem.W.Frag}{mg:Str->Option Value}{base:Heap}{T:aO}{k:Nat}
theorem ba.start(a:∀x∈dm,mg x=none):ba P w K mg base {} 0:=
 ⟨a,by simp,by simp,by simp,by simp,by simp,by simp,by simp⟩
theorem ba.vX(W:ba P w K mg base T k){x:Str}{F:List D->Out Rs}{f:Addr}{a:FuncData}{ps:List Str}{j:Nat}(b:mg x=some (.ref f))(c:PySem.W.keepIn K (.ref f)=true)(d:Binds K a ps [])(h:bP P w K mg base dH j f a ps (n4 F))(e:j<=k) :
  ba P w K mg base (T.vX x F) k:=
 ⟨W.b8,λy G q=>by
  rcases jt q with ⟨rfl,rfl⟩|q
  .exact⟨f,a,ps,b,c,d,h.mono e⟩
  .exact W.fP y G q,W.fn,W.cst,W.met,W.cls,W.fld,W.clo⟩
theorem ba.dz(W:ba P w K mg base T k){x:Str}{F:aX}{f:Addr}{b:FuncData}{ps:List Str}(c:mg x=some (.ref f))(d:PySem.W.keepIn K (.ref f)=true)(e:Binds K b ps [])(h:bP P w K mg base dH (k+1) f b ps (ei (bS mg) F)) :
  ba P w K mg base (T.dz x F) (k+1):=by
 have a:=W.mono (Nat.le_succ k)
 exact⟨a.b8,a.fP,λy G q=>by
  rcases jt q with ⟨rfl,rfl⟩|q
  .exact⟨f,b,ps,c,d,e,h⟩
  .exact a.fn y G q,a.cst,a.met,a.cls,a.fld,a.clo⟩
theorem ba.Ci(W:ba P w K mg base T k){x:Str}{d:D}{v:V}{u:Value}(a:mg x=some u)(b:RelV v u)(c:fk d=some v):ba P w K mg base (T.Ci x d) k:=
 ⟨W.b8,W.fP,W.fn,λy G q=>by
  rcases jt q with ⟨rfl,rfl⟩|q
  .exact⟨v,u,a,b,c⟩
  .exact W.cst y G q,W.met,W.cls,W.fld,W.clo⟩
end
end Mir
namespace Mir
open PySem PySem.Spec PyProof.Rows L2
def Io:D->Bool
 |.lst ds=>ds.all eV
 |d=>eV d
section
variable{α:List Addr}{Z Z1:Addr->Prop}{H H1:Hp}
theorem ud{d:D}{v:V}(a:eV d=true)(r:Rep Z H d v):av α Z1 H1 d v:=by
 cases d with
 |lst _=>cases a
 |tup _=>cases a
 |ref _=>cases a
 |dct _ _=>cases a
 |_=>exact r
theorem vY{d:D}{v:V}(a:eV d=true)(r:av α Z1 H1 d v):Rep Z H d v:=by
 cases d with
 |lst _=>cases a
 |tup _=>cases a
 |ref _=>cases a
 |dct _ _=>cases a
 |_=>exact r
theorem qJ:∀{ds:List D}{vs:List V},ds.all eV=true->aW Z H ds vs->fw α Z1 H1 ds vs
 |[],vs,_,r=>by exact r
 |d::ds,vs,h,r=>by
  simp only[List.all_cons,Bool.and_eq_true]at h;obtain⟨v,a,e,h1,h2⟩:=r;exact⟨v,a,e,ud h.1 h1,qJ h.2 h2⟩
theorem Ip{d:D}{v:V}(h:Io d=true)(r:Rep Z H d v):av α Z H d v:=by
 cases d with
 |lst g=>
  obtain⟨a,b,e,z,c,f⟩:=r;exact⟨a,b,e,z,c,qJ h f⟩
 |tup _=>cases h
 |ref _=>cases h
 |dct _ _=>cases h
 |_=>exact ud rfl r
theorem yZ:∀{ds:List D}{vs:List V},ds.all Io=true->aW Z H ds vs->aD (av α Z H) ds vs
 |[],vs,_,r=>by subst r;exact .nil
 |d::ds,vs,h,r=>by
  simp only[List.all_cons,Bool.and_eq_true]at h;obtain⟨v,a,rfl,h1,h2⟩:=r;exact .cons (Ip h.1 h1) (yZ h.2 h2)
end
variable [aw]
def pureOf(O:aX):List D->Out Rs:=λa=>if a.all Io=true then (match O a []with
  |.ok d _=>if eV d=true then .ok (false,d)else .bad
  |_=>.bad)else .bad
section
variable{P:Program}{w:World}{K:PySem.W.Frag}{mg:Str->Option Value}{base:Heap}{k:Nat}{f:Addr}{fd:FuncData}{ps:List Str}{O:aX}
theorem ue(h:bP P w K mg base dH k f fd ps (ei (bS mg) O)):bP P w K mg base dH k f fd ps (n4 (pureOf O)):=h.imp λC H Q E q=>by
 obtain⟨Z,c,n,d,i,r,e,g⟩:=q;unfold pureOf at e
 by_cases j:c.all Io=true
 .rw[if_pos j]at e
  refine⟨[],Z,[],c,⟨by simp,.nil,by simp,i⟩,yZ j r,?_⟩
  cases p:O c []with
  |exc x s=>grind
  |bad=>grind
  |ok t s=>
   rw[p]at e;dsimp only at e
   by_cases l:eV t=true
   .rw[if_pos l]at e
    cases e;intro v u y D m F z;refine g v u Z ⟨λb o A=>m.frm b o A (by simp),λ_ h=>h,by grind,λa G=>?_⟩ (.rep (vY l z))
    cases B:H a with
    |none=>simp_all
    |some o=>rw[m.frm a o B (by simp)];simp
   simp_all
 grind
end
end Mir
namespace Mir
open PySem
@[simp] theorem Iq:jR .non=some false:=rfl
@[simp] theorem KA{b:Bool}:jR (.bl b)=some b:=rfl
@[simp] theorem Ir{i:Int}:jR (.int i)=some (i != 0):=rfl
@[simp] theorem Iu{xs:List D}:jR (.lst xs)=some (!xs.isEmpty):=rfl
@[simp] theorem Iv{xs:List D}:jR (.tup xs)=some (!xs.isEmpty):=rfl
section
variable{Γ:mf}{ρ:A_}{a b:Pc}{e:Ex}{i j:Nat}{bw:Bool}
end
section
variable{bw:Bool}{i:Nat}{a b c es:Ex}
end
section
variable{Γ:mf}{ρ:A_}{bw:Bool}{i:Nat}{a b c es:Ex}
def Bd(o:Bool)(f:List D->D):D->Out Rs
 |.tup ds=>if small ds.length=true then .ok (o,f ds)else .bad
 |_=>.bad
@[simp] theorem Iw{o:Bool}{f:List D->D}{ds:List D}:Bd o f (.tup ds)=if small ds.length=true then .ok (o,f ds)else .bad:=rfl
end
@[simp] theorem KC{i j:Int}:eS .Add (.int i) (.int j)=.ok (false,.int (i+j)):=rfl
@[simp] theorem KD{i j:Int}:eS .Sub (.int i) (.int j)=.ok (false,.int (i - j)):=rfl
@[simp] theorem KG{i j:Int}:eS .Mult (.int i) (.int j)=if (gi i||gi j)=true then .ok (false,.int (i*j))else .bad:=rfl
@[simp] theorem KH{i j:Int}:eS .FloorDiv (.int i) (.int j)=if (decide (0<j)&&decide (j<1073741824))=true then .ok (false,.int (i / j))else .bad:=rfl
@[simp] theorem KI{i j:Int}:eS .Mod (.int i) (.int j)=if decide (0<j)=true then .ok (false,.int (i%j))else .bad:=rfl
@[simp] theorem KJ{i j:Int}:eS .Pow (.int i) (.int j)=if (decide (0<=j)&&decide (j<=1000)&&decide (i.natAbs<2 ^ 64))=true then .ok (false,.int (i ^ j.toNat))else .bad:=rfl
@[simp] theorem Iy{i j:Str}:eS .Add (.str i) (.str j)=if small (i.length+j.length)=true then .ok (false,.str (i++j))else .bad:=rfl
@[simp] theorem Iz{i j:List D}:eS .Add (.lst i) (.lst j)=if small (i.length+j.length)=true then .ok (true,.lst (i++j))else .bad:=rfl
@[simp] theorem MP{x y:D}:dP .Eq x y=if (aH 8 x&&aH 8 y)=true then .ok (en x y)else .bad:=rfl
@[simp] theorem MQ{x y:D}:dP .NotEq x y=if (aH 8 x&&aH 8 y)=true then .ok (!en x y)else .bad:=rfl
@[simp] theorem MR{i j:Int}:dP .Lt (.int i) (.int j)=.ok (decide (i<j)):=rfl
@[simp] theorem MS{i j:Int}:dP .LtE (.int i) (.int j)=.ok (decide (i<=j)):=rfl
@[simp] theorem cmp_gt{i j:Int}:dP .Gt (.int i) (.int j)=.ok (decide (j<i)):=rfl
@[simp] theorem MT{i j:Int}:dP .GtE (.int i) (.int j)=.ok (decide (j<=i)):=rfl
@[simp] theorem MU{x y:D}:dP .In x y=inD x y:=rfl
@[simp] theorem KL{x y:D}:dP .NotIn x y=inD x y >>= λb=>.ok (!b):=rfl
@[simp] theorem MV{x y:D}:dP .Is x y=isD x y:=rfl
@[simp] theorem KN{x y:D}:dP .IsNot x y=isD x y >>= λb=>.ok (!b):=rfl
@[simp] theorem MW{n:Nat}:aH n .non=true:=by cases n<;>rfl
@[simp] theorem Ph{n:Nat}{b:Bool}:aH n (.bl b)=true:=by cases n<;>rfl
@[simp] theorem MX{n:Nat}{i:Int}:aH n (.int i)=true:=by cases n<;>rfl
@[simp] theorem MY{n:Nat}{x:Str}:aH n (.str x)=true:=by cases n<;>rfl
@[simp] theorem MZ{n:Nat}{xs:List D}:aH (n+1) (.lst xs)=xs.all (aH n):=rfl
@[simp] theorem M3{n:Nat}{xs:List D}:aH (n+1) (.tup xs)=xs.all (aH n):=rfl
@[simp] theorem eq_int{i j:Int}:en (.int i) (.int j)=(i==j):=rfl
@[simp] theorem Pj{i j:Bool}:en (.bl i) (.bl j)=(i==j):=rfl
@[simp] theorem eq_str{i j:Str}:en (.str i) (.str j)=(i==j):=rfl
@[simp] theorem M4{i j:List D}:en (.lst i) (.lst j)=e_ i j:=rfl
@[simp] theorem M5{i j:List D}:en (.tup i) (.tup j)=e_ i j:=rfl
@[simp] theorem KO:e_ [] []=true:=rfl
@[simp] theorem y2{x y:D}{xs ys:List D}:e_ (x::xs) (y::ys)=(en x y&&e_ xs ys):=rfl
@[simp] theorem M6{y:D}{ys:List D}:e_ [] (y::ys)=false:=rfl
@[simp] theorem M7{y:D}{ys:List D}:e_ (y::ys) []=false:=rfl
theorem Cj{z:Str}{i:Int}{c:Nat}(h:small z.length=true)(e:L2.jP z.cps.toList i=some c):rJ (.str z) (.int i)=.ok (false,.str (cH c)):=by
 simp only[rJ,h,if_pos,e]
@[simp] theorem KP{xs:List D}{l h:Option Int}:xC (.lst xs) l h=.ok (true,.lst (cj xs l h)):=rfl
@[simp] theorem KQ{z:Str}{l h:Option Int}:xC (.str z) l h=if small z.length=true then .ok (false,.str ⟨(cj z.cps.toList l h).toArray⟩)else .bad:=rfl
@[simp] theorem KR{xs:List D}:hZ .len (.tup [.lst xs])=.ok (false,.int xs.length):=rfl
@[simp] theorem KS{xs:List D}:hZ .len (.tup [.tup xs])=.ok (false,.int xs.length):=rfl
@[simp] theorem len_str{z:Str}:hZ .len (.tup [.str z])=if small z.length=true then .ok (false,.int z.length)else .bad:=rfl
def y3(f:List Bool->Bool):Option (List Bool)->Out Rs
 |some bs=>.ok (false,.bl (f bs))
 |none=>.bad
@[simp] theorem GY{f:List Bool->Bool}{bs:List Bool}:y3 f (some bs)=.ok (false,.bl (f bs)):=rfl
@[simp] theorem KU{xs:List D}:hZ .all (.tup [.lst xs])=y3 (λbs=>bs.all id) (fj xs):=rfl
@[simp] theorem KW{xs:List D}:hZ .any (.tup [.lst xs])=y3 (λbs=>bs.any id) (fj xs):=rfl
@[simp] theorem ID{xs:List D}:hZ .list (.tup [.lst xs])=.ok (true,.lst xs):=rfl
@[simp] theorem IE{xs:List D}:hZ .list (.tup [.tup xs])=.ok (true,.lst xs):=rfl
@[simp] theorem GZ{xs:List D}:hZ .tuple (.tup [.lst xs])=.ok (false,.tup xs):=rfl
@[simp] theorem G4{xs:List D}:hZ .tuple (.tup [.tup xs])=.ok (false,.tup xs):=rfl
@[simp] theorem int_int{i:Int}:hZ .int (.tup [.int i])=.ok (false,.int i):=rfl
@[simp] theorem M8{k:Bool}:hZ .int (.tup [.bl k])=.ok (false,.int (if k then 1 else 0)):=rfl
@[simp] theorem KY{i j:Int}:hZ .min (.tup [.int i,.int j])=.ok (false,.int (if j<i then j else i)):=rfl
@[simp] theorem KZ{i j:Int}:hZ .max (.tup [.int i,.int j])=.ok (false,.int (if j>i then j else i)):=rfl
@[simp] theorem M9{t:Ty}:xE .non t=some false:=rfl
@[simp] theorem Pk{t:Ty}{b:Bool}:xE (.bl b) t=some (t==.bool||t==.int):=rfl
@[simp] theorem ty_int{t:Ty}{i:Int}:xE (.int i) t=some (t==.int):=rfl
@[simp] theorem ty_str{t:Ty}{x:Str}:xE (.str x) t=some (t==.str):=rfl
@[simp] theorem M_{t:Ty}{xs:List D}:xE (.lst xs) t=some (t==.list):=rfl
@[simp] theorem Na{t:Ty}{xs:List D}:xE (.tup xs) t=some (t==.tuple):=rfl
@[simp] theorem Nb{t:Ty}{a:List L2.Key}{xs:List D}:xE (.dct a xs) t=some (t==.dict):=rfl
theorem aI{n:Nat}(h:n<=100000):small n=true:=by
 unfold small;rw[decide_eq_true_eq,sizeLine_eq];omega
theorem dZ{i:Int}(a : -(2 ^ 64)<i)(b:i<2 ^ 64):gi i=true:=decide_eq_true (by omega)
theorem iN{i:Int}(a : -(2 ^ 62)<i)(b:i<2 ^ 62):kG i=true:=decide_eq_true (by omega)
theorem y6{a:Type}{xs:List a}{i:Int}(c:0<=i)(d:i<xs.length):∃x,x∈xs/\L2.jP xs i=some x:=by
 have b:i.toNat<xs.length:=by omega
 refine⟨xs[i.toNat],by simp,?_⟩
 have h:=L2.dk (List.getElem?_eq_getElem b)
 grind
@[simp] theorem in_str{x y:Str}:inD (.str x) (.str y)=.ok (DM x y):=rfl
theorem eB(n:Nat):∀a:Int,(intsFrom a n).length=n:=by
 induction n with
 |zero=>intro a;rfl
 |succ n b=>simp[intsFrom,b]
theorem iO{n:Nat}:∀{a:Int}{i:Nat}{d:D},(intsFrom a n)[i]?=some d->d=.int (a+i)/\i<n:=by
 induction n with
 |zero=>intro a i d h;simp[intsFrom]at h
 |succ n b=>
  intro a i d h;cases i with
  |zero=>simp[intsFrom]at h;grind
  |succ i=>
   simp[intsFrom]at h
   grind
noncomputable def L1(xs:List Str):D:=.lst (xs.map .str)
def LL(rs:List (List Str)):D:=.lst (rs.map L1)
theorem su{a:Type}(xs:List a)(k:Nat):cj xs (some (k:Int)) none=xs.drop k:=by
 unfold cj;rw[HT.pD,HT.tj];rcases Nat.le_total k _ with h|h
 .rw[Nat.min_eq_left h]
  exact List.take_of_length_le (by simp)
 simp_all
theorem oF{a:Type}(xs:List a)(k:Nat):cj xs none (some (k:Int))=xs.take k:=by
 unfold cj;rw[HT.pD,HT.tj,Nat.sub_zero]
 grind
@[simp] theorem Pm{a:Type}(xs:List a):cj xs (some 1) none=xs.tail:=by rw[show(1:Int)=((1:Nat):Int)from rfl,su];simp
theorem ug(n:Nat)(xs:List Str):(xs.map D.str).all (aH n)=true:=by
 simp
theorem Ck(xs:List Str)(n:Str):((xs.map D.str).any λy=>en y (.str n))=decide (n∈xs):=by
 induction xs with
 |nil=>rfl
 |cons x xs a=>
  simp only[List.map_cons,List.any_cons,a,eq_str,List.mem_cons]
  grind
theorem Cm(xs:List Str)(n:Str):inD (.str n) (.lst (xs.map .str))=.ok (decide (n∈xs)):=by
 have:inD _ (.lst _)=if aH 8 (.str n)&&(xs.map D.str).all _ then .ok _ else .bad:=rfl
 rw[this,Ck];simp
theorem Cn(xs ys:List Str):e_ (xs.map .str) (ys.map .str)=decide (xs=ys):=by
 induction xs generalizing ys with
 |nil=>cases ys<;>simp
 |cons x xs a=>
  cases ys with
  |nil=>simp
  |cons y ys=>
   simp only[List.map_cons,y2,eq_str,a,List.cons.injEq]
   grind
theorem IF(xs ys:List Str):en (L1 xs) (L1 ys)=decide (xs=ys):=Cn xs ys
theorem IG(n:Nat)(xs:List Str):aH (n+1) (L1 xs)=true:=ug n xs
noncomputable def freeOf(rs:List (List Str)):List Str->Option Str
 |[]=>none
 |n::_=>if ∃t∈rs,n∈t.tail then none else some n
theorem lE{rs:List (List Str)}{n:Str}{r:List Str}(h:∃t∈rs,n∈t.tail):freeOf rs (n::r)=none:=if_pos h
theorem ij{rs:List (List Str)}{n:Str}{r:List Str}(h:¬ ∃t∈rs,n∈t.tail):freeOf rs (n::r)=some n:=if_neg h
def free(rs:List (List Str)):Option Str:=rs.findSome? (freeOf rs)
noncomputable def y8:Option Str->D
 |none=>.non
 |some n=>.str n
@[simp] theorem Nc{x:Str}:isD (.str x) .non=.ok false:=rfl
@[simp] theorem K8:isD .non .non=.ok true:=rfl
@[simp] theorem Nd{x:Int}:isD (.int x) .non=.ok false:=rfl
@[simp] theorem Nf{x:List D}:isD (.lst x) .non=.ok false:=rfl
noncomputable def cZ(n:Str)(r:List Str):List Str:=if r.take 1=[n]then r.tail else r
inductive Mg:List (List Str)->List Str->Prop
 |done {rs}:(∀r∈rs,r=[])->Mg rs []
 |step {rs n o}:(∃r∈rs,r≠[])->free rs=some n->Mg (rs.map (cZ n)) o->Mg rs (n::o)
theorem any_rows(rs:List (List Str)):fj (rs.map L1)=some (rs.map λr=>!r.isEmpty):=by
 induction rs with
 |nil=>rfl
 |cons r rs a=>
  simp only[List.map_cons,fj,a];simp[L1]
theorem any_true{rs:List (List Str)}(h:∃r∈rs,r≠[]):(rs.map λr=>!r.isEmpty).any id=true:=by
 simp_all
theorem any_false{rs:List (List Str)}(h:∀r∈rs,r=[]):(rs.map λr=>!r.isEmpty).any id=false:=by
 grind
abbrev Fn:=List D->Out Rs
noncomputable def SC(ns:List Int):D:=.lst (ns.map .int)
theorem ints_map(a:Int)(n:Nat):intsFrom a n=(List.range n).map λ(i:Nat)=>D.int (a+i):=by
 apply List.ext_getElem?;intro i
 by_cases h:i<n
 .have b:i<(intsFrom a n).length:=by rwa[eB]
  have e:=(iO (List.getElem?_eq_getElem b)).1
  simp_all
 .rw[List.getElem?_eq_none (by rw[eB];omega),List.getElem?_eq_none (by simp;omega)]
noncomputable def abc:Str:="abcdefghijklmnopqrstuvwxyz"
theorem FH:∀q:Nat,q<26->abc.cps.toList[q]?=some (97+q):=by decide
theorem uh{q:Int}(a:0<=q)(b:q<26):rJ (.str abc) (.int q)=.ok (false,.str (cH (97+q.toNat))):=by
 refine Cj (aI (by decide)) ?_
 have:=L2.dk (FH q.toNat (by omega))
 grind
noncomputable def bs(a:Int->Int->Int->Int)(c:Int):List D:=(List.range 8).map λ(i:Nat)=>.int (a c i 26)
section
variable{Γ:mf}{M:Fn}{μ:Int->Int->Int->Int}{c:Int}{m:Nat}
def Nm(b:Int->Int->Int->Int)(c:Int)(m a k:Nat)(z:Str):Prop:=
 z.length<=8/\if b c 10 4=1/\m<9 then z.length=k+1 else z.cps.toList[a]?=some (97+((b c a 26+k)%26).toNat)
end
theorem Co{rs:List (List Str)}{r:List Str}{n:Str}(a:r∈rs)(h:freeOf rs r=some n):∃k,free rs=some k:=by
 unfold free;cases q:rs.findSome? _ with
 |some k=>simp
 |none=>
  grind
theorem kh{rs:List (List Str)}{n:Str}(h:free rs=some n):(∃r∈rs,∃t,r=n::t)/\∀t∈rs,n∉t.tail:=by
 obtain⟨r,b,e⟩:=List.exists_of_findSome?_eq_some h;cases r with
 |nil=>cases e
 |cons x t=>
  by_cases a:∃t∈rs,x∈t.tail
  .rw[lE a]at e;cases e
  .rw[ij a]at e
   grind
theorem Cp{n:Str}{rs:List (List Str)}(b:free rs=some n):∀r∈rs.map (cZ n),n∉r:=by
 intro r c a;obtain⟨t,d,rfl⟩:=List.mem_map.mp c;have e:=(kh b).2 t d;unfold cZ at a;split at a
 .grind
 .cases t with
  |nil=>simp at a
  |cons x t=>
   grind
theorem y9{n x:Str}{r:List Str}(h:x∈cZ n r):x∈r:=by
 unfold cZ at h;split at h
 .exact List.mem_of_mem_tail h
 .exact h
theorem oG{rs:List (List Str)}{o:List Str}(M:Mg rs o):∀x∈o,∃r∈rs,x∈r:=by
 induction M with
 |done h=>simp
 |@step rs n o c d _ f=>
  intro x a;rcases List.mem_cons.mp a with e|e
  .obtain⟨⟨r,b,t,rfl⟩,_⟩:=kh d
   grind
  .obtain⟨r,b,a⟩:=f x e
   obtain⟨t,g,rfl⟩:=List.mem_map.mp b;exact⟨t,g,y9 a⟩
theorem y_{rs:List (List Str)}{o:List Str}(M:Mg rs o):o.Nodup:=by
 induction M with
 |done h=>simp
 |@step rs n o a b c d=>
  refine List.nodup_cons.mpr ⟨λh=>?_,d⟩
  obtain⟨r,e,f⟩:=oG c n h;exact Cp b r e f
section
variable{Γ:mf}
noncomputable def behind(rs:List (List Str)):List Str:=rs.flatMap List.tail
end
@[simp] theorem K9{xs:List Str}:hZ .list (.tup [L1 xs])=.ok (true,L1 xs):=rfl
@[simp] theorem K_{xs:List (List Str)}:hZ .list (.tup [LL xs])=.ok (true,LL xs):=rfl
@[simp] theorem Pn{xs:List Str}{n:Str}:inD (.str n) (L1 xs)=.ok (decide (n∈xs)):=Cm xs n
@[simp] theorem Po{xs:List Str}{t:Ty}:xE (L1 xs) t=some (t==.list):=rfl
@[simp] theorem Qy{n:Nat}{xs:List Str}:aH (n+1) (L1 xs)=true:=IG n xs
@[simp] theorem Qz{xs ys:List Str}:en (L1 xs) (L1 ys)=decide (xs=ys):=IF xs ys
@[simp] theorem Pp{a b:Bool}:isD (.bl a) (.bl b)=.ok (a==b):=rfl
open L2
section
variable{α β:Type}{Ω au:aA}{ρ:aK}{d x y:D}{ma mb mc mi:EM}{as:AM}{a b:SM}
@[simp] theorem bU{a:α}{f:α->aA->ax β}:(ax.ok a Ω).bind f=f a Ω:=rfl
@[simp] theorem Ng{f:α->aA->ax β}:(ax.exc x Ω:ax α).bind f=.exc x Ω:=rfl
@[simp] theorem Nh{f:α->aA->ax β}:(ax.bad:ax α).bind f=.bad:=rfl
@[simp] theorem c_{a:α}{k:α->aA->fB}:cw (.ok a Ω) k=k a Ω:=rfl
@[simp] theorem Ni{k:α->aA->fB}:cw (.exc x Ω:ax α) k=.exc x Ω:=rfl
@[simp] theorem Nj{k:α->aA->fB}:cw (.bad:ax α) k=.bad:=rfl
@[simp] theorem Pq{b:ax D}:kb (.ok d Ω) b=.ok d Ω:=rfl
@[simp] theorem Nk{b:ax D}:kb (.exc d Ω) b=.exc d Ω:=rfl
@[simp] theorem Nl{b:ax D}:kb .bad b=b:=rfl
@[simp] theorem IH{f:D->aA->ax D}:m1 f ma ρ Ω=(ma ρ Ω).bind f:=rfl
@[simp] theorem ui{f:D->D->aA->ax D}:m2 f ma mb ρ Ω=(ma ρ Ω).bind λx a=>(mb ρ a).bind λy b=>f x y b:=rfl
@[simp] theorem za{f:List D->aA->ax D}:mN f as ρ Ω=(as ρ Ω).bind f:=rfl
@[simp] theorem iP:aj ρ Ω=.ok [] Ω:=rfl
@[simp] theorem gy:ae ma as ρ Ω=(ma ρ Ω).bind λx a=>(as ρ a).bind λxs b=>.ok (x::xs) b:=rfl
noncomputable def vr:Option (Option D)->aA->ax D
 |some (some d),Ω=>.ok d Ω
 |_,_=>.bad
@[simp] theorem Cq:vr (some (some d)) Ω=.ok d Ω:=rfl
@[simp] theorem Cr{i:Nat}:aa i ρ Ω=vr ρ[i]? Ω:=by
 unfold aa;cases ρ[i]? with
 |none=>rfl
 |some o=>cases o<;>rfl
@[simp] theorem La:ai d ρ Ω=.ok d Ω:=rfl
@[simp] theorem iQ{c:Cell}:gk Ω c=.ok (.ref Ω.length) (Ω++[c]):=rfl
noncomputable def tb(Ω:aA):Option Bool->ax Bool
 |some b=>.ok b Ω
 |none=>.bad
@[simp] theorem iR{t:Bool}:tb Ω (some t)=.ok t Ω:=rfl
@[simp] theorem gO:dj (.ok d Ω)=tb Ω (gW Ω d):=by rfl
@[simp] theorem ki{t:Bool}:gW Ω (.bl t)=some t:=rfl
@[simp] theorem II:gW Ω .non=some false:=rfl
@[simp] theorem IJ{i:Int}:gW Ω (.int i)=some (i != 0):=rfl
noncomputable def GS(t:Option Bool)(a b:ax D):ax D:=match t with
 |some true=>a
 |some false=>b
 |none=>.bad
@[simp] theorem Pr{a b:ax D}:Mir.GS (some true) a b=a:=rfl
@[simp] theorem Pt{a b:ax D}:Mir.GS (some false) a b=b:=rfl
@[simp] theorem Lb:jr ma mb ρ Ω=(ma ρ Ω).bind λx a=>Mir.GS (gW a x) (mb ρ a) (.ok x a):=by
 rfl
@[simp] theorem Nn:Fq ma mb ρ Ω=(ma ρ Ω).bind λx a=>Mir.GS (gW a x) (.ok x a) (mb ρ a):=by
 unfold Fq;cases ma ρ Ω with
 |ok x a=>
  simp only[bU];cases gW a x with
  |none=>rfl
  |some t=>cases t<;>rfl
 |exc x a=>rfl
 |bad=>rfl
@[simp] theorem Lc:qh ma ρ Ω=(dj (ma ρ Ω)).bind λt a=>.ok (.bl (!t)) a:=rfl
@[simp] theorem FI:GW mc ma mb ρ Ω=(dj (mc ρ Ω)).bind λt a=>if t=true then ma ρ a else mb ρ a:=rfl
@[simp] theorem Ct{f g:D->aA->ax D}:Fl f g x Ω=kb (f x Ω) (g x Ω):=rfl
@[simp] theorem gP{f g:D->D->aA->ax D}:fY f g x y Ω=kb (f x y Ω) (g x y Ω):=rfl
@[simp] theorem Cu{f g:List D->aA->ax D}{xs:List D}:jU f g xs Ω=kb (f xs Ω) (g xs Ω):=rfl
@[simp] theorem Ld{f g:EM}:n_ f g ρ Ω=kb (f ρ Ω) (g ρ Ω):=rfl
@[simp] theorem Le{n:Nat}:fN Ω n .non=some .non:=by cases n<;>rfl
@[simp] theorem FJ{n:Nat}{t:Bool}:fN Ω n (.bl t)=some (.bl t):=by cases n<;>rfl
@[simp] theorem Cv{n:Nat}{i:Int}:fN Ω n (.int i)=some (.int i):=by cases n<;>rfl
@[simp] theorem oH{n:Nat}{z:Str}:fN Ω n (.str z)=some (.str z):=by cases n<;>rfl
@[simp] theorem Np{f:α->Option β}:bC f []=some []:=rfl
noncomputable def oc:Option α->Option (List α)->Option (List α)
 |some y,some ys=>some (y::ys)
 |_,_=>none
@[simp] theorem Lf{y:α}{ys:List α}:oc (some y) (some ys)=some (y::ys):=rfl
@[simp] theorem uj{f:α->Option β}{x:α}{xs:List α}:bC f (x::xs)=oc (f x) (bC f xs):=by
 rfl
theorem lF{a:Type}{f:β->Option a}{g:α->β}{h:α->a}(e:∀x,f (g x)=some (h x)):∀xs:List α,bC f (xs.map g)=some (xs.map h)
 |[]=>rfl
 |x::xs=>by rw[List.map_cons,uj,e,lF e xs];rfl
@[simp] theorem Cw{n:Nat}{xs:List Str}:bC (fN Ω n) (xs.map .str)=some (xs.map .str):=lF (λ_=>oH) xs
@[simp] theorem Cy{n:Nat}{xs:List Int}:bC (fN Ω n) (xs.map .int)=some (xs.map .int):=lF (λ_=>Cv) xs
theorem Cz{n:Nat}{ds a:List D}(h:bC (fN Ω n) ds=some a):fN Ω (n+1) (.lst ds)=some (.lst a):=by simp only[fN,h,Option.map_some]
theorem kj{n k:Nat}{ds a:List D}(b:Ω[k]?=some (.lst ds))(h:bC (fN Ω n) ds=some a):fN Ω (n+1) (.ref k)=some (.lst a):=by simp only[fN,b,h,Option.map_some]
theorem ej{n k:Nat}{xs:List Str}(a:Ω[k]?=some (.lst (xs.map .str))):fN Ω (n+1) (.ref k)=some (L1 xs):=kj a Cw
@[simp] theorem Nq{n:Nat}{ns:List Int}:fN Ω (n+1) (SC ns)=some (SC ns):=Cz Cy
@[simp] theorem Lg{o:Bool}{i:Int}:fX Ω (.ok (o,.int i))=.ok (.int i) Ω:=rfl
@[simp] theorem Nr{o:Bool}{t:Bool}:fX Ω (.ok (o,.bl t))=.ok (.bl t) Ω:=rfl
@[simp] theorem CA{o:Bool}{z:Str}:fX Ω (.ok (o,.str z))=.ok (.str z) Ω:=rfl
@[simp] theorem Lh{o:Bool}:fX Ω (.ok (o,.non))=.ok .non Ω:=rfl
@[simp] theorem Li:fX Ω .bad=.bad:=rfl
def vN(Ω:aA)(f:List D->Out Rs):Option (List D)->ax D
 |some ds=>fX Ω (f ds)
 |none=>.bad
@[simp] theorem uk{f:List D->Out Rs}{ds:List D}:vN Ω f (some ds)=fX Ω (f ds):=rfl
@[simp] theorem um{f:List D->Out Rs}{xs:List D}:cW f xs Ω=vN Ω f (bC (fN Ω 8) xs):=by rfl
def v1(Ω:aA)(f:D->Out Rs):Option D->ax D
 |some d=>fX Ω (f d)
 |none=>.bad
@[simp] theorem Lj{f:D->Out Rs}:v1 Ω f (some d)=fX Ω (f d):=rfl
@[simp] theorem Lk{f:D->Out Rs}:yj f x Ω=v1 Ω f (fN Ω 8 x):=by rfl
def v2(Ω:aA)(f:D->D->Out Rs):Option D->Option D->ax D
 |some d,some e=>fX Ω (f d e)
 |_,_=>.bad
@[simp] theorem uo{f:D->D->Out Rs}{e:D}:v2 Ω f (some d) (some e)=fX Ω (f d e):=rfl
@[simp] theorem uq{f:D->D->Out Rs}:fZ f x y Ω=v2 Ω f (fN Ω 8 x) (fN Ω 8 y):=by rfl
@[simp] theorem IK{z:Str}:vF .len [.str z]=if small z.length=true then .ok (false,.int z.length)else .bad:=rfl
@[simp] theorem zb{xs:List D}:vF .all [.lst xs]=y3 (λbs=>bs.all id) (fj xs):=rfl
@[simp] theorem IL{xs:List D}:vF .any [.lst xs]=y3 (λbs=>bs.any id) (fj xs):=rfl
@[simp] theorem IP{i j:Int}:vF .min [.int i,.int j]=.ok (false,.int (if j<i then j else i)):=rfl
@[simp] theorem zc{F:aX}{xs:List D}:aS F xs Ω=Ig (F xs Ω):=rfl
@[simp] theorem Nt:Ig (.ok d Ω)=.ok d Ω:=rfl
@[simp] theorem oJ{op:CmpOp}:dI op x y Ω=v2 Ω (λx y=>do let r ←dP op x y;Out.ok (false,D.bl r)) (fN Ω 8 x) (fN Ω 8 y):=by rfl
@[simp] theorem uu:aQ .Eq x y Ω=dI .Eq x y Ω:=rfl
@[simp] theorem CB:aQ .NotEq x y Ω=dI .NotEq x y Ω:=rfl
@[simp] theorem Ll:aQ .Lt x y Ω=dI .Lt x y Ω:=rfl
@[simp] theorem Lm:aQ .LtE x y Ω=dI .LtE x y Ω:=rfl
@[simp] theorem Ln:aQ .Gt x y Ω=dI .Gt x y Ω:=rfl
@[simp] theorem Lo:aQ .GtE x y Ω=dI .GtE x y Ω:=rfl
@[simp] theorem oK:aQ .In x y Ω=kb (dI .In x y Ω) (jo false x y Ω):=rfl
@[simp] theorem lG:aQ .NotIn x y Ω=kb (dI .NotIn x y Ω) (jo true x y Ω):=rfl
@[simp] theorem Lp:aQ .Is x y Ω=kb (gq false x y Ω) (dI .Is x y Ω):=rfl
@[simp] theorem FK:aQ .IsNot x y Ω=kb (gq true x y Ω) (dI .IsNot x y Ω):=rfl
@[simp] theorem IQ{n:Bool}{k:Nat}:gq n (.ref k) .non Ω=.ok (.bl n) Ω:=rfl
@[simp] theorem G5{n:Bool}{i:Int}:gq n (.int i) y Ω=.bad:=rfl
@[simp] theorem G6{n:Bool}:gq n .non y Ω=.bad:=rfl
@[simp] theorem IS{n:Bool}{t:Bool}:gq n (.bl t) y Ω=.bad:=rfl
@[simp] theorem G7{n:Bool}{z:Str}:gq n (.str z) y Ω=.bad:=rfl
@[simp] theorem zd:aN .Add x y Ω=kb (kX x y Ω) (fZ (eS .Add) x y Ω):=rfl
@[simp] theorem IT:aN .Sub x y Ω=fZ (eS .Sub) x y Ω:=rfl
@[simp] theorem G8:aN .Mult x y Ω=fZ (eS .Mult) x y Ω:=rfl
@[simp] theorem IU:aN .Mod x y Ω=fZ (eS .Mod) x y Ω:=rfl
@[simp] theorem Lq:aN .FloorDiv x y Ω=fZ (eS .FloorDiv) x y Ω:=rfl
@[simp] theorem Lr{i:Int}:cT Ω (.int i)=none:=rfl
@[simp] theorem Ls{z:Str}:cT Ω (.str z)=none:=rfl
@[simp] theorem Lu{ds:List D}:cT Ω (.tup ds)=none:=rfl
@[simp] theorem Lv{ds:List D}:cT Ω (.lst ds)=some ds:=rfl
theorem ay{k:Nat}{ds:List D}(h:Ω[k]?=some (.lst ds)):cT Ω (.ref k)=some ds:=by simp only[cT,h]
theorem km{k:Nat}{ds:List D}(h:Ω[k]?=some (.lst ds)):qu Ω (.ref k)=some (k,ds):=by simp only[qu,h]
def ct(Ω:aA):Option (List D)->Option (List D)->ax D
 |some xs,some ys=>if small (xs.length+ys.length)then .ok (.ref Ω.length) (Ω++[.lst (xs++ys)])else .bad
 |_,_=>.bad
@[simp] theorem uv{xs ys:List D}:ct Ω (some xs) (some ys)=if small (xs.length+ys.length)then .ok (.ref Ω.length) (Ω++[.lst (xs++ys)])else .bad:=rfl
@[simp] theorem Pu{o:Option (List D)}:ct Ω none o=.bad:=rfl
@[simp] theorem uw:kX x y Ω=ct Ω (cT Ω x) (cT Ω y):=by rfl
@[simp] theorem CC{ds:List D}:gs Ω (.tup ds)=some ds:=rfl
@[simp] theorem aF{k:Nat}:gs Ω (.ref k)=cT Ω (.ref k):=rfl
@[simp] theorem Lw{ds:List D}:gs Ω (.lst ds)=some ds:=rfl
def ixs(Ω:aA):Option (List D)->D->ax D
 |some ds,.int i=>match L2.jP ds i with
  |some d=>.ok d Ω
  |none=>.bad
 |_,_=>.bad
theorem ko:Fp x y Ω=ixs Ω (gs Ω x) y:=by rfl
theorem sv{ds:List D}{i:Int}(h:L2.jP ds i=some d):ixs Ω (some ds) (.int i)=.ok d Ω:=by simp only[ixs,h]
theorem cE{k:Nat}{ds:List D}{i:Int}(h:Ω[k]?=some (.lst ds))(a:L2.jP ds i=some d):aM (.ref k) (.int i) Ω=.ok d Ω:=by
 unfold aM;rw[gP,ko,aF,ay h,sv a];rfl
theorem ze{ds:List D}{i:Int}(a:L2.jP ds i=some d):aM (.tup ds) (.int i) Ω=.ok d Ω:=by
 unfold aM;rw[gP,ko,CC,sv a];rfl
@[simp] theorem oM{xs:List D}:cD xs Ω=if small xs.length then .ok (.ref Ω.length) (Ω++[.lst xs])else .bad:=rfl
@[simp] theorem ux{xs:List D}:f7 xs Ω=if small xs.length then .ok (.tup xs) Ω else .bad:=rfl
def fl(Ω:aA)(a:List Str)(f:Str):Option (Nat×Str×List (Str×D))->ax D
 |some (_,C,fs)=>if a.contains C then (match fs.lookup f with
  |some d=>.ok d Ω
  |none=>.bad)else .bad
 |none=>.bad
noncomputable def sq(r:fB)(b:SM):fB:=match r with
 |.nx a c=>b a c
 |r=>r
@[simp] theorem aJ:sq (.nx ρ Ω) b=b ρ Ω:=rfl
@[simp] theorem IV:sq (.rt d Ω) b=.rt d Ω:=rfl
@[simp] theorem Pw:sq (.bk ρ Ω) b=.bk ρ Ω:=rfl
@[simp] theorem Px:sq (.ct ρ Ω) b=.ct ρ Ω:=rfl
@[simp] theorem Nu:sq (.exc d Ω) b=.exc d Ω:=rfl
@[simp] theorem Nv:sq .bad b=.bad:=rfl
@[simp] theorem ah:ak a b ρ Ω=sq (a ρ Ω) b:=by rfl
@[simp] theorem IW:aq ρ Ω=.nx ρ Ω:=rfl
@[simp] theorem gQ{i:Nat}:aE i ma ρ Ω=cw (ma ρ Ω) λd a=>.nx (ρ.set i (some d)) a:=rfl
@[simp] theorem iS:eg ma ρ Ω=cw (ma ρ Ω) λ_ a=>.nx ρ a:=rfl
@[simp] theorem iT:cf ma ρ Ω=cw (ma ρ Ω) λd a=>.rt d a:=rfl
@[simp] theorem IX:yG ρ Ω=.rt .non Ω:=rfl
@[simp] theorem gz:eU ma a b ρ Ω=cw (dj (ma ρ Ω)) λt c=>if t=true then a ρ c else b ρ c:=rfl
@[simp] theorem Lx{c:List Nat}:FE c ma ρ Ω=cw (ma ρ Ω) λd a=>match jF c d ρ with|some b=>.nx b a|none=>.bad:=rfl
@[simp] theorem G9{a:List Nat}{ds:List D}:jF a (.tup ds) ρ=if ds.length=a.length then some (fO a ds ρ)else none:=rfl
@[simp] theorem CD{i:Nat}{a:List Nat}{ds:List D}:fO (i::a) (d::ds) ρ=fO a ds (ρ.set i (some d)):=rfl
@[simp] theorem DY{ds:List D}:fO [] ds ρ=ρ:=by cases ds<;>rfl
@[simp] theorem CF:dy (.rt d Ω)=.ok d Ω:=rfl
@[simp] theorem Ly:dy (.nx ρ Ω)=.ok .non Ω:=rfl
theorem cp{n k:Nat}{c:SM}{ds:List D}(h:ds.length=k):bA n k c ds Ω=dy (c (bu n ds) Ω):=by unfold bA;rw[if_pos h]
@[simp] theorem cg:bg ma ρ Ω=(ma ρ Ω).bind λx a=>srcOf a x:=rfl
theorem aV{ds:List D}(h:gs Ω x=some ds):srcOf Ω x=.ok (.seq x) Ω:=by unfold srcOf;rw[h]
@[simp] theorem IY:gw as ρ Ω=(as ρ Ω).bind t6:=rfl
@[simp] theorem Lz{j:Int}:t6 [.int j] Ω=if kG j then .ok (.ints 0 j.toNat) Ω else .bad:=rfl
@[simp] theorem bY:fA (.seq x) Ω=gs Ω x:=rfl
@[simp] theorem IZ{a:Int}{n:Nat}:fA (.ints a n) Ω=some (intsFrom a n):=rfl
@[simp] theorem bZ{a:D->aK->Option aK}{mi:IM}:dM a mi b ρ Ω=cw (mi ρ Ω) λs c=>eh a s b fuel 0 ρ c:=rfl
def lH(r:fB)(I:aK->aA->Prop)(R:fB->Prop):Prop:=match r with
 |.nx a b=>I a b
 |.ct a b=>I a b
 |.bk a b=>R (.nx a b)
 |r=>R r
theorem bo{j:D->aK->Option aK}{src:Src}{b:SM}{ds:List D}(I:Nat->aK->aA->Prop){R:fB->Prop}(k:∀i ρ Ω,I i ρ Ω->fA src Ω=some ds)
  (h:∀(i:Nat) (d:D) ρ Ω,ds[i]?=some d->I i ρ Ω->∃e,j d ρ=some e/\lH (b e Ω) (I (i+1)) R) (hR:∀ρ Ω,I ds.length ρ Ω->R (.nx ρ Ω)) :
  ∀(f i:Nat) ρ Ω,ds.length - i<f->i<=ds.length->I i ρ Ω->R (eh j src b f i ρ Ω):=by
 intro f
 induction f with
 |zero=>simp
 |succ f m=>
  intro i ρ Ω r s n;simp only[eh,k i ρ Ω n]
  by_cases g:i<ds.length
  .have o:=List.getElem?_eq_getElem g
   rw[o];dsimp only;obtain⟨e,p,a⟩:=h i _ ρ Ω o n;rw[p];dsimp only;cases q:b _ Ω with
   |nx l c=>rw[q]at a;exact m _ _ _ (by omega) g a
   |ct l c=>rw[q]at a;exact m _ _ _ (by omega) g a
   |bk l c=>rw[q]at a;exact a
   |rt d c=>rw[q]at a;exact a
   |exc x c=>rw[q]at a;exact a
   |bad=>rw[q]at a;exact a
  grind
theorem CG{nc:Bool}{mc me:EM}{c:aK}{src:Src}{ds:List D}{p:D->Bool}{g:D->D}(e:fA src Ω=some ds)(j:∀d∈ds,jV nc mc ([some d]++c) Ω=.ok (p d) Ω)(k:∀d∈ds,p d=true->me ([some d]++c) Ω=.ok (g d) Ω) :
  ∀(f i:Nat) (a:List D),ds.length - i<f->i<=ds.length->a.length+ds.length<=100000+i->t9 nc mc me 0 c src f i a Ω=.ok (a++((ds.drop i).filter p).map g) Ω:=by
 intro f
 induction f with
 |zero=>omega
 |succ f l=>
  intro i a m n o;simp only[t9,e]
  by_cases b:i<ds.length
  .have q:=List.getElem_mem b
   rw[(List.getElem?_eq_getElem b)];have h:ou 0 ds[i]=some _:=rfl;simp only[h];rw[if_pos (aI (by omega)),List.drop_eq_getElem_cons b]
   grind
  grind
theorem dA{me mc:EM}{nc:Bool}{mi:IM}{cap:List Nat}{src:Src}{ds:List D}{p:D->Bool}{g:D->D}(a:mi ρ Ω=.ok src au)(b:fA src au=some ds)(c:∀d∈ds,jV nc mc ([some d]++eT cap ρ) au=.ok (p d) au)(e:∀d∈ds,p d=true->me ([some d]++eT cap ρ) au=.ok (g d) au)(f:ds.length<=90000) :
  cM me nc mc mi 0 cap ρ Ω=.ok (.ref au.length) (au++[.lst ((ds.filter p).map g)]):=by
 unfold cM;rw[a];dsimp only;rw[CG b c e _ 0 [] (by unfold fuel;omega) (Nat.zero_le _) (by simp;omega)]
 rfl
theorem cJ{k:Nat}{c:Cell}{l:aA}(h:Ω[k]?=some c):(Ω++l)[k]?=some c:=by rwa[List.getElem?_append_left (List.getElem?_eq_some_iff.mp h).1]
theorem az{c:Cell}{l:aA}:(Ω++c::l)[Ω.length]?=some c:=by simp
theorem lJ{j k:Nat}{c e:Cell}(h:Ω[k]?=some c)(a:k≠j):(Ω.set j e)[k]?=some c:=by rwa[List.getElem?_set_ne (Ne.symm a)]
theorem aZ{k:Nat}{c e:Cell}(h:Ω[k]?=some c):(Ω.set k e)[k]?=some e:=List.getElem?_set_self (List.getElem?_eq_some_iff.mp h).1
theorem bp{k:Nat}{c:Cell}(h:Ω[k]?=some c):k<Ω.length:=by grind
structure ag(fp:List Nat)(Ω au:aA):Prop where
 len:Ω.length<=au.length
 get:∀k c,Ω[k]?=some c->k∉fp->au[k]?=some c
theorem ag.refl{fp:List Nat}:ag fp Ω Ω:=⟨Nat.le_refl _,λ_ _ h _=>h⟩
theorem ag.trans{fp:List Nat}{a b d:aA}(h:ag fp a b)(e:ag fp b d):ag fp a d:=⟨Nat.le_trans h.len e.len,λk c q n=>e.get k c (h.get k c q n) n⟩
theorem ag.app{fp:List Nat}{l:aA}:ag fp Ω (Ω++l):=⟨by simp,λk c h _=>cJ h⟩
theorem ag.set{fp:List Nat}{j:Nat}{c:Cell}(h:j∈fp):ag fp Ω (Ω.set j c):=⟨by simp,λk e q n=>lJ q λz=>n (z▸h)⟩
theorem ag.sub{fp a:List Nat}(h:ag fp Ω au)(b:∀k∈fp,k∈a):ag a Ω au:=⟨h.len,λk c q n=>h.get k c q λz=>n (b k z)⟩
end
section
variable{Ω au:aA}{ρ:aK}{d x y:D}{k:Nat}{ws:List Str}{w:Str}{L:List (List Str)}{rs:List Nat}
theorem FL{y:D}{a:List Key}{kvs:List (List Key×D)}(h:Ω[k]?=some (.dT kvs))(b:mY y=some a):qb Ω (.ref k) y=some (bQ kvs a):=by simp only[qb,h,b,Option.map_some]
theorem m8{ds:List D}(h:Ω[k]?=some (.lst ds)):bG .tuple [.ref k] Ω=.ok (.tup ds) Ω:=by
 show ig [.ref k] Ω=_
 simp only[ig,ay h]
theorem kq{ds:List D}(h:Ω[k]?=some (.lst ds)):bG .len [.ref k] Ω=.ok (.int ds.length) Ω:=by
 show kb _ _=_
 simp only[yo,aF,ay h];rfl
theorem dW{ds:List D}{d:D}(h:Ω[k]?=some (.lst ds))(a:ds.length<=1000):bH (.ref k) [d] Ω=.ok .non (Ω.set k (.lst (ds++[d]))):=by
 simp only[bH,km h];rw[if_pos (aI (by omega))]
theorem dB{ds:List D}(h:Ω[k]?=some (.lst ds)):gY Ω (.ref k)=true:=by simp only[gY,ay h];rfl
theorem sx(h:Ω[k]?=some (.lst (ws.map .str))):aQ .In (.str w) (.ref k) Ω=.ok (.bl (decide (w∈ws))) Ω:=by
 simp[ej h]
theorem kr(h:Ω[k]?=some (.lst (ws.map .str))):aQ .NotIn (.str w) (.ref k) Ω=.ok (.bl (!decide (w∈ws))) Ω:=by
 simp[ej h]
theorem I_{c d:Type}[BEq c][LawfulBEq c]{f:c->d}{p:d->Bool}{a:c}(g:∀b,p (f b)=(b==a)):∀(xs:List c),a∈xs->(xs.map f).findIdx? p=some (xs.idxOf a)
 |[],h=>by simp at h
 |b::xs,h=>by
  rw[List.map_cons,List.findIdx?_cons,g,List.idxOf_cons];cases e:b==a with
  |true=>rfl
  |false=>
   have i:a∈xs:=by
    grind
   simp[I_ g xs i]
theorem sy(h:w∈ws):rK .index (.lst (ws.map .str)) (.tup [.str w])=.ok (false,.int (ws.idxOf w:Nat)):=by
 have e:(ws.map D.str).findIdx? (λy=>en y (.str w))=some _:=I_ (λb=>rfl) ws h
 unfold rK;simp only[ug 8 ws,e];rfl
theorem gR(h:Ω[k]?=some (.lst (ws.map .str)))(a:w∈ws):du (.ref k) [.str w] Ω=.ok (.int (ws.idxOf w:Nat)) Ω:=by
 have:=sy a;simp only[du,uq,ej h,oH,uo,L1,this];rfl
theorem zf{n:Nat}(b:Ω[k]?=some (.lst (rs.map .ref)))(h:aD (λj a=>Ω[j]?=some (.lst (a.map .str))) rs L):fN Ω (n+2) (.ref k)=some (LL L):=by
 refine kj b ?_;clear b
 induction h with
 |nil=>rfl
 |cons c e d=>rw[List.map_cons,uj,ej c,d];rfl
theorem Ja{mc me:EM}{c:aK}{src:Src}{ds:List D}{g:D->D}(I:aA->Prop)(j:∀Ω,I Ω->fA src Ω=some ds)(k:∀d∈ds,∀Ω,I Ω->∃au,me ([some d]++c) Ω=.ok (g d) au/\I au) :
  ∀(f i:Nat) (a:List D) Ω,I Ω->ds.length - i<f->i<=ds.length->a.length+ds.length<=100000+i->∃au,t9 true mc me 0 c src f i a Ω=.ok (a++(ds.drop i).map g) au/\I au:=by
 intro f
 induction f with
 |zero=>simp
 |succ f l=>
  intro i a Ω h q r s;simp only[t9,j Ω h]
  by_cases b:i<ds.length
  .rw[(List.getElem?_eq_getElem b)]
   have m:ou 0 ds[i]=some _:=rfl;obtain⟨e,t,n⟩:=k _ (List.getElem_mem b) Ω h;have o:jV true mc ([some ds[i]]++c) Ω=.ok true Ω:=rfl;simp only[m];rw[if_pos (aI (by omega)),o,List.drop_eq_getElem_cons b]
   dsimp only;obtain⟨p,u,w⟩:=l (i+1) (a++[g ds[i]]) e n (by omega) b (by grind)
   grind
  grind
theorem FN{me mc:EM}{mi:IM}{cap:List Nat}{src:Src}{ds:List D}{g:D->D}(I:aA->Prop)(h:mi ρ Ω=.ok src au)(b:I au)(c:∀Ω,I Ω->fA src Ω=some ds)(e:∀d∈ds,∀Ω,I Ω->∃au,me ([some d]++eT cap ρ) Ω=.ok (g d) au/\I au)(i:ds.length<=90000) :
  ∃a,cM me true mc mi 0 cap ρ Ω=.ok (.ref a.length) (a++[.lst (ds.map g)])/\I a:=by
 obtain⟨a,j,f⟩:=Ja (mc:=mc) I c e fuel 0 [] _ b (by unfold fuel;omega) (Nat.zero_le _) (by simp;omega)
 refine⟨_,?_,f⟩;unfold cM
 simp_all
theorem fc{a:aA->D->Bool}{f:D->List D->aA->ax D}{c:EM}{as:AM}(d:c ρ Ω=.ok x au)(h:a au x=true):cB a f c as ρ Ω=(as ρ au).bind λxs b=>f x xs b:=by
 unfold cB
 simp_all
end
def uy(F:List D->Out Rs):Prop:=∀(a:List Int) (k m:Int),a.length<=63->0<=k->k<100000->0<m->∃r,0<=r/\r<m/\F [SC a,.int k,.int m]=.ok (false,.int r)
def eY(b:List Int->Int->Int->Int)(F:List D->Out Rs):Prop:=∀(a:List Int) (k m:Int),a.length<=63->0<=k->k<100000->0<m->0<=b a k m/\b a k m<m/\F [SC a,.int k,.int m]=.ok (false,.int (b a k m))
theorem FO{F:List D->Out Rs}(h:uy F):∃g,eY g F:=by
 have i:∀(e:List Int) (k m:Int),∃r,e.length<=63->0<=k->k<100000->0<m->0<=r/\r<m/\F _=.ok _:=λe k m=>by
  by_cases f:e.length<=63/\0<=k/\k<100000/\0<m
  .obtain⟨r,j⟩:=h e k m f.1 f.2.1 f.2.2.1 f.2.2.2
   exact⟨r,λ_ _ _ _=>j⟩
  .exact⟨0,λa b c d=>absurd ⟨a,b,c,d⟩ f⟩
 exact⟨_,λe k m=>(i e k m).choose_spec⟩
variable [aw]
section
variable{Ω au rY Kz:aA}{ρ:aK}{k q:Nat}{x y:D}
theorem ag.new{fp:List Nat}(h:ag [] Ω rY)(a:ag fp rY Kz)(b:∀j∈fp,Ω.length<=j):ag [] Ω Kz:=⟨Nat.le_trans h.len a.len,λk c e _=>a.get k c (h.get k c e (by simp)) (by grind)⟩
theorem ek.up{fp:List Nat}(h:ag [] Ω au):ag fp Ω au:=h.sub (by simp)
@[simp] theorem Jb{z:Str}:aM (.str z) y Ω=v2 Ω rJ (some (.str z)) (fN Ω 8 y):=by
 rfl
@[simp] theorem Jc{z:Str}{l h:Option Int}:jq (.str z) l h Ω=fX Ω (xC (.str z) l h):=rfl
@[simp] theorem Jd{d e f:EM}{g i:Bool}:dJ d g e i f ρ Ω=(d ρ Ω).bind λx a=>(g9 g e ρ a).bind λl b=>(g9 i f ρ b).bind λh c=>jq x l h c:=rfl
@[simp] theorem LA{m:EM}:g9 true m ρ Ω=.ok none Ω:=rfl
noncomputable def Py(Ω:aA):D->ax (Option Int)
 |.int i=>.ok (some i) Ω
 |_=>.bad
@[simp] theorem LB{m:EM}:g9 false m ρ Ω=(m ρ Ω).bind λd a=>Py a d:=by
 rfl
@[simp] theorem LC{i:Int}:Py Ω (.int i)=.ok (some i) Ω:=rfl
theorem qK{ds:List D}(h:Ω[k]?=some (.lst ds)):dr (.ref k) [] Ω=.ok .non (Ω.set k (.lst ds.reverse)):=by
 simp only[dr,km h]
end
def nB:SM:=(ak (aE 11 (m2 aM (aa 3) (m2 (aN .Mod) (m2 (aN .Add) (m2 (aN .Add) (aa 4) (m2 (aN .Mult) (aa 8) (aa 5))) (aa 10)) (ai (.int 26)))))
 (ak (eg (cB gY bH (aa 9) (ae (m2 (aN .Add) (m2 (aN .Add) (dJ (aa 6) true (ai .non) false (aa 8)) (aa 11)) (dJ (aa 6) false (m2 (aN .Add) (aa 8) (ai (.int 1))) false (aa 7))) aj)))
 aq))
def nC:EM:=cM (m2 aM (aa 2) (m2 (aN .Mod) (m2 (aN .Add) (aa 1) (m2 (aN .Mult) (aa 0) (aa 3))) (ai (.int 26)))) true (ai .non) (gw (ae (ai (.int 8)) aj)) 0 [4,3,5]
def nD:EM:=cM (dJ (aa 1) true (ai .non) false (m2 (aN .Add) (aa 0) (ai (.int 1)))) true (ai .non) (gw (ae (aa 2) aj)) 0 [6]
def gS(F:List D->Out Rs):SM:=
 (ak (aE 3 (ai (.str "abcdefghijklmnopqrstuvwxyz")))
 (ak (aE 4 (mN (cW F) (ae (aa 0) (ae (aa 1) (ae (ai (.int 26)) aj)))))
 (ak (aE 5 (m2 (aN .Add) (ai (.int 1)) (mN (cW F) (ae (aa 0) (ae (m2 (aN .Add) (aa 1) (ai (.int 1))) (ae (ai (.int 25)) aj))))))
 (ak (aE 6 (cB yu la (ai (.str "")) (ae nC aj)))
 (ak (aE 7 (m2 (aN .Add) (ai (.int 1)) (mN (cW F) (ae (aa 0) (ae (m2 (aN .Add) (aa 1) (ai (.int 2))) (ae (ai (.int 8)) aj))))))
 (ak (aE 8 (mN (cW F) (ae (aa 0) (ae (m2 (aN .Add) (aa 1) (ai (.int 3))) (ae (aa 7) aj)))))
 (ak (aE 9 (mN cD aj))
 (ak (dM (bN 10) (gw (ae (aa 2) aj)) nB)
 (ak (eU (jr (m2 (aQ .Lt) (aa 2) (ai (.int 9))) (m2 (aQ .Eq) (mN (cW F) (ae (aa 0) (ae (m2 (aN .Add) (aa 1) (ai (.int 4))) (ae (ai (.int 4)) aj)))) (ai (.int 1))))
 (ak (aE 9 nD)
 aq)
 aq)
 (ak (eU (m2 (aQ .Eq) (mN (cW F) (ae (aa 0) (ae (m2 (aN .Add) (aa 1) (ai (.int 5))) (ae (ai (.int 2)) aj)))) (ai (.int 1)))
 (ak (eg (cB gY dr (aa 9) aj))
 aq)
 aq)
 (ak (cf (aa 9))
 aq)))))))))))
section
variable{Ω:aA}{F:List D->Out Rs}{δ:List Int->Int->Int->Int}{ns:List Int}
def CH(x:Str):Prop:=x.length<=17/\∃c∈x.cps.toList,97<=c
theorem Je(a b c d e f g h:Nat):∃S:Str,S.length=8/\S.cps.toList.head?=some a/\rK .join (.str "") (.tup [.lst [.str (cH a),.str (cH b),.str (cH c),.str (cH d),.str (cH e),.str (cH f),.str (cH g),.str (cH h)]])=.ok (false,.str S):=
 ⟨⟨_⟩,rfl,rfl,rfl⟩
theorem Jf{f st:Int}(m:0<=f)(y:f<26)(n:1<=st)(z:st<26){a0 a1 a2 a6 a7 a8 a9 a10 a11:Option D}:∃S:Str,S.length=8/\(∃c,S.cps.toList.head?=some c/\97<=c) /\
  cB yu la (ai (.str "")) (ae nC aj) [a0,a1,a2,some (.str abc),some (.int f),some (.int st),a6,a7,a8,a9,a10,a11] Ω=.ok (.str S) (Ω++[.lst ((intsFrom 0 8).map λd=>match d with|.int j=>.str (cH (97+((f+j*st)%26).toNat))|_=>.non)]):=by
 have o:gi st=true:=dZ (by omega) (by omega)
 have a:kG 8=true:=iN (by omega) (by omega)
 have h:=dA (Ω:=Ω) (au:=Ω) (ρ:=[a0,a1,a2,some (.str abc),some (.int f),some (.int st),a6,a7,a8,a9,a10,a11]) (me:=m2 aM (aa 2) (m2 (aN .Mod) (m2 (aN .Add) (aa 1) (m2 (aN .Mult) (aa 0) (aa 3))) (ai (.int 26)))) (nc:=true) (mc:=ai .non) (mi:=gw (ae (ai (.int 8)) aj)) (cap:=[4,3,5]) (src:=.ints 0 8) (ds:=intsFrom 0 8) (p:=λ_=>true)
  (g:=λd=>match d with|.int j=>.str (cH (97+((f+j*st)%26).toNat))|_=>.non) (by simp[a]) rfl (λd k=>rfl) (λd k _=>by
   obtain⟨i,r⟩:=List.mem_iff_getElem?.mp k;obtain⟨rfl,s⟩:=iO r;generalize l:(0:Int)+(i:Int)=j;have t:gi j=true:=dZ (by omega) (by omega)
   have b:=uh (q:=(f+j*st)%26) (by omega) (by omega)
   simp[eT,o,t,b]) (by rw[eB];omega)
 rw[List.filter_eq_self.mpr (by simp)]at h
 obtain⟨S,u,e,l⟩:=Je (97+((f+0*st)%26).toNat) (97+((f+1*st)%26).toNat) (97+((f+2*st)%26).toNat) (97+((f+3*st)%26).toNat) (97+((f+4*st)%26).toNat) (97+((f+5*st)%26).toNat) (97+((f+6*st)%26).toNat) (97+((f+7*st)%26).toNat);refine⟨S,u,⟨_,e,Nat.le_add_right _ _⟩,?_⟩;rw[fc (x:=.str "") (au:=Ω) rfl rfl]
 have w:fN (Ω++[.lst ((intsFrom 0 8).map λd=>match d with|.int j=>.str (cH (97+((f+j*st)%26).toNat))|_=>.non)]) 8 (.ref Ω.length)=some (.lst [.str _,.str (cH (97+((f+1*st)%26).toNat)),.str (cH (97+((f+2*st)%26).toNat)),.str (cH (97+((f+3*st)%26).toNat)),.str (cH (97+((f+4*st)%26).toNat)),.str (cH (97+((f+5*st)%26).toNat)),.str (cH (97+((f+6*st)%26).toNat)),.str (cH (97+((f+7*st)%26).toNat))]):=
  kj az rfl
 unfold nC;rw[gy,h];simp only[bU,iP,la,uq,oH,w,uo,l,CA]
abbrev EN(ns:List Int)(a:Int)(n:Nat)(f st:Int)(S:Str)(b pl:Int)(q:Nat)(a10 a11:Option D):aK:=
 [some (SC ns),some (.int a),some (.int n),some (.str abc),some (.int f),some (.int st),some (.str S),some (.int b),some (.int pl),some (.ref q),a10,a11]
def Nw(S:Str)(f st a pl:Int)(k:Nat):Str:=((⟨(cj S.cps.toList none (some pl)).toArray⟩:Str)++cH (97+((f+pl*st+(k:Int))%26).toNat))++(⟨(cj S.cps.toList (some (pl+1)) (some a)).toArray⟩:Str)
theorem FP{S:Str}{f st d pl:Int}{n:Nat}(j:n<=20):((List.range n).map (Nw S f st d pl)).Nodup:=by
 refine List.pairwise_map.mpr (List.Pairwise.imp_of_mem (λ{a b} e g c h=>c ?_) (List.nodup_range))
 have k:=List.mem_range.mp e;have l:=List.mem_range.mp g;have i:=congrArg (λz=>z.cps.toList) h
 simp[Nw,Str.cps_append,cH]at i;omega
theorem CI{j:aA}{a f st g pl:Int}{n q:Nat}{S:Str}(G:S.length=8)(H:0<=f)(Y:f<26)(I:1<=st)(Z:st<26)(J:1<=g)(hz:g<9)(L:0<=pl)(hp:pl<9)(M:n<=20)(N:j[q]?=some (.lst []))
  {R:fB->Prop} (hR:∀(xs:List Str) a10 a11 au,xs.length=n->(∀x∈xs,CH x)->xs.Nodup->au[q]?=some (.lst (xs.map .str))->ag [q] j au->R (.nx (EN ns a n f st S g pl q a10 a11) au)) :
  R (eh (bN 10) (.ints 0 n) nB fuel 0 (EN ns a n f st S g pl q none none) j):=by
 have O:gi st=true:=dZ (by omega) (by omega)
 have P:gi pl=true:=dZ (by omega) (by omega)
 have w:small S.length=true:=aI (by omega)
 have m:∀l h:Option Int,(⟨(cj S.cps.toList l h).toArray⟩:Str).length<=8:=λl h=>by
  have:=kM S.cps.toList l h;have h2:S.cps.toList.length=8:=by simpa[Str.length]using G
  show(cj S.cps.toList l h).toArray.size<=8
  simp;omega
 refine bo (ds:=intsFrom 0 n) (λi y b=>∃(xs:List Str) (a10 a11:Option D),y=EN ns a n f st S g pl q a10 a11/\xs.length=i/\(∀x∈xs,CH x)/\xs=(List.range i).map (Nw S f st g pl)/\b[q]?=some (.lst (xs.map .str))/\ag [q] j b) (λ_ _ _ _=>rfl) ?_ ?_ fuel 0 _ _ (by rw[eB];unfold fuel;omega) (Nat.zero_le _) ⟨[],none,none,rfl,rfl,by simp,rfl,N,ag.refl⟩
 .rintro i d y b Q ⟨xs,a10,a11,rfl,s,o,k,p,K⟩
  obtain⟨rfl,T⟩:=iO Q;refine⟨_,rfl,?_⟩;rw[show(0:Int)+(i:Int)=(i:Int)by omega]
  have r:=uh (q:=(f+pl*st+(i:Int))%26) (by omega) (by omega)
  generalize U:(97+((f+pl*st+(i:Int))%26).toNat)=c at r;have l1:=m none (some pl);have l2:=m (some (pl+1)) (some g);have one:(cH c).length=1:=rfl;have z:small ((⟨(cj S.cps.toList none (some pl)).toArray⟩:Str).length+(cH c).length)=true:=aI (by omega)
  have A:small (((⟨(cj S.cps.toList none (some pl)).toArray⟩:Str)++cH c).length+(⟨(cj S.cps.toList (some (pl+1)) (some g)).toArray⟩:Str).length)=true:=aI (by rw[Str.length_append];omega)
  have t:(((⟨(cj S.cps.toList none (some pl)).toArray⟩:Str)++cH c)++(⟨(cj S.cps.toList (some (pl+1)) (some g)).toArray⟩:Str)).length<=17:=by rw[Str.length_append,Str.length_append];omega
  have F:(m2 (aN .Add) (m2 (aN .Add) (dJ (aa 6) true (ai .non) false (aa 8)) (aa 11)) (dJ (aa 6) false (m2 (aN .Add) (aa 8) (ai (.int 1))) false (aa 7))) (EN ns a n f st S g pl q (some (.int i)) (some (.str (cH c)))) b=.ok (.str (((⟨(cj S.cps.toList none (some pl)).toArray⟩:Str)++cH c)++(⟨(cj S.cps.toList (some (pl+1)) (some g)).toArray⟩:Str))) b:=by
   simp[EN,w,z,A,-Str.length_append]
  have t:CH _:=⟨t,c,by simp[Str.cps_append,cH],by omega⟩
  generalize B:((⟨(cj S.cps.toList none (some pl)).toArray⟩:Str)++cH c)++(⟨(cj S.cps.toList (some (pl+1)) (some g)).toArray⟩:Str)=u at F t;have C:=dW (d:=.str u) p (by simp;omega)
  have V:cB gY bH (aa 9) (ae (m2 (aN .Add) (m2 (aN .Add) (dJ (aa 6) true (ai .non) false (aa 8)) (aa 11)) (dJ (aa 6) false (m2 (aN .Add) (aa 8) (ai (.int 1))) false (aa 7))) aj) (EN ns a n f st S g pl q (some (.int i)) (some (.str (cH c)))) b=.ok .non (b.set q (.lst (xs.map .str++[.str u]))):=by
   rw[fc (x:=.ref q) (au:=b) (by simp[EN]) (dB p),gy,F]
   simp[C]
  have e:nB (EN ns a n f st S g pl q (some (.int i)) a11) b=.nx (EN ns a n f st S g pl q (some (.int i)) (some (.str (cH c)))) (b.set q (.lst (xs.map .str++[.str u]))):=by
   have X:(aE 11 (m2 aM (aa 3) (m2 (aN .Mod) (m2 (aN .Add) (m2 (aN .Add) (aa 4) (m2 (aN .Mult) (aa 8) (aa 5))) (aa 10)) (ai (.int 26))))) (EN ns a n f st S g pl q (some (.int i)) a11) b=.nx (EN ns a n f st S g pl q (some (.int i)) (some (.str (cH c)))) b:=by
    simp[EN,O,P,r]
   unfold nB;rw[ah,X,aJ,ah,iS,V];rfl
  show lH (nB (EN ns a n f st S g pl q (some (.int i)) a11) b) _ _
  rw[e];refine⟨xs++[u],_,_,rfl,by simp[s],λx E=>?_,?_,?_,K.trans (ag.set (by simp))⟩
  .rcases List.mem_append.mp E with h|h
   .exact o x h
   .rw[List.mem_singleton.mp h];exact t
  .rw[List.range_succ,List.map_append,←k,←B,←U];rfl
  .rw[List.map_append];exact aZ p
 .rintro y b ⟨xs,a10,a11,rfl,s,o,k,p,K⟩
  rw[eB]at s;rw[eB]at k;exact hR xs a10 a11 b s o (by rw[k];exact FP M) p K
theorem m9(s:eY δ F)(G:ns.length<=63){a:Int}(h0:0<=a)(h1:a<10000){n:Nat}(hn:n<=20):∃(xs:List Str) (au:aA) (k:Nat),xs.length=n/\(∀x∈xs,CH x)/\xs.Nodup/\bA 12 3 (gS F) [SC ns,.int a,.int n] Ω=.ok (.ref k) au/\au[k]?=some (.lst (xs.map .str))/\ag [] Ω au/\Ω.length<=k:=by
 rw[cp (by rfl)]
 have e0:bu 12 [SC ns,.int a,.int n]=[some (SC ns),some (.int a),some (.int n),none,none,none,none,none,none,none,none,none]:=rfl;rw[e0];obtain⟨f0,f1,hf⟩:=s ns a 26 G h0 (by omega) (by omega)
 obtain⟨t0,L,ht⟩:=s ns (a+1) 25 G (by omega) (by omega) (by omega)
 obtain⟨z0,z1,hz⟩:=s ns (a+2) 8 G (by omega) (by omega) (by omega)
 generalize δ ns a 26=f at *;generalize δ ns (a+1) 25=t at *;generalize δ ns (a+2) 8=z at *;obtain⟨p0,p1,hp⟩:=s ns (a+3) (1+z) G (by omega) (by omega) (by omega)
 obtain⟨g0,g1,hg⟩:=s ns (a+4) 4 G (by omega) (by omega) (by omega)
 obtain⟨v0,v1,hv⟩:=s ns (a+5) 2 G (by omega) (by omega) (by omega)
 generalize δ ns (a+3) (1+z)=u at *;generalize δ ns (a+4) 4=g at *;generalize δ ns (a+5) 2=v at *;obtain⟨S,N,⟨c0,y,O⟩,hC⟩:=Jf (Ω:=Ω) f0 f1 (st:=1+t) (by omega) (by omega) (a0:=some (SC ns)) (a1:=some (.int a)) (a2:=some (.int n)) (a6:=none) (a7:=none) (a8:=none) (a9:=none) (a10:=none) (a11:=none)
 have P:ag [] Ω (Ω++[.lst ((intsFrom 0 8).map λd=>match d with|.int j=>.str (cH (97+((f+j*(1+t))%26).toNat))|_=>.non)]):=ag.app
 generalize (Ω++[Cell.lst ((intsFrom 0 8).map λd=>match d with|.int j=>D.str (cH (97+((f+j*(1+t))%26).toNat))|_=>D.non)])=c at hC P
 have M:(c++[Cell.lst []])[c.length]?=some (.lst []):=az;have K2:ag [] c (c++[Cell.lst []]):=ag.app;have H:kG (n:Int)=true:=iN (by omega) (by omega)
 have Q:Ω.length<=c.length:=P.len;unfold gS;have r1:(aE 3 (ai (.str "abcdefghijklmnopqrstuvwxyz"))) [some (SC ns),some (.int a),some (.int n),none,none,none,none,none,none,none,none,none] Ω=.nx [some (SC ns),some (.int a),some (.int n),some (.str abc),none,none,none,none,none,none,none,none] Ω:=rfl;have r2:(aE 4 (mN (cW F) (ae (aa 0) (ae (aa 1) (ae (ai (.int 26)) aj))))) [some (SC ns),some (.int a),some (.int n),some (.str abc),none,none,none,none,none,none,none,none] Ω=.nx [some (SC ns),some (.int a),some (.int n),some (.str abc),some (.int f),none,none,none,none,none,none,none] Ω:=by simp[hf]
 have r3:(aE 5 (m2 (aN .Add) (ai (.int 1)) (mN (cW F) (ae (aa 0) (ae (m2 (aN .Add) (aa 1) (ai (.int 1))) (ae (ai (.int 25)) aj)))))) [some (SC ns),some (.int a),some (.int n),some (.str abc),some (.int f),none,none,none,none,none,none,none] Ω=.nx [some (SC ns),some (.int a),some (.int n),some (.str abc),some (.int f),some (.int (1+t)),none,none,none,none,none,none] Ω:=by simp[ht]
 have r4:(aE 6 (cB yu la (ai (.str "")) (ae nC aj))) [some (SC ns),some (.int a),some (.int n),some (.str abc),some (.int f),some (.int (1+t)),none,none,none,none,none,none] Ω=.nx [some (SC ns),some (.int a),some (.int n),some (.str abc),some (.int f),some (.int (1+t)),some (.str S),none,none,none,none,none] c:=by
  rw[gQ,hC];rfl
 have r5:(aE 7 (m2 (aN .Add) (ai (.int 1)) (mN (cW F) (ae (aa 0) (ae (m2 (aN .Add) (aa 1) (ai (.int 2))) (ae (ai (.int 8)) aj)))))) [some (SC ns),some (.int a),some (.int n),some (.str abc),some (.int f),some (.int (1+t)),some (.str S),none,none,none,none,none] c=.nx [some (SC ns),some (.int a),some (.int n),some (.str abc),some (.int f),some (.int (1+t)),some (.str S),some (.int (1+z)),none,none,none,none] c:=by simp[hz]
 have r6:(aE 8 (mN (cW F) (ae (aa 0) (ae (m2 (aN .Add) (aa 1) (ai (.int 3))) (ae (aa 7) aj))))) [some (SC ns),some (.int a),some (.int n),some (.str abc),some (.int f),some (.int (1+t)),some (.str S),some (.int (1+z)),none,none,none,none] c=.nx [some (SC ns),some (.int a),some (.int n),some (.str abc),some (.int f),some (.int (1+t)),some (.str S),some (.int (1+z)),some (.int u),none,none,none] c:=by simp[hp]
 have r7:(aE 9 (mN cD aj)) [some (SC ns),some (.int a),some (.int n),some (.str abc),some (.int f),some (.int (1+t)),some (.str S),some (.int (1+z)),some (.int u),none,none,none] c=.nx (EN ns a n f (1+t) S (1+z) u c.length none none) (c++[Cell.lst []]):=by simp[EN,aI]
 have T:gw (ae (aa 2) aj) (EN ns a n f (1+t) S (1+z) u c.length none none) (c++[Cell.lst []])=.ok (.ints 0 n) (c++[Cell.lst []]):=by simp[EN,H]
 rw[ah,r1,aJ,ah,r2,aJ,ah,r3,aJ,ah,r4,aJ,ah,r5,aJ,ah,r6,aJ,ah,r7,aJ,ah,bZ,T,c_];generalize q0:c.length=q at *;refine CI (R:=λr=>∃(xs:List Str) (au:aA) (k:Nat),xs.length=n/\(∀x∈xs,CH x)/\xs.Nodup/\dy (sq r _)=.ok (.ref k) au/\au[k]?=some (.lst (xs.map .str))/\ag [] Ω au/\Ω.length<=k) N f0 f1 (by omega) (by omega) (by omega) (by omega) p0 (by omega) (by omega) M ?_
 intro xs a10 a11 l U V X hk K3;have Y:ag [] Ω l:=(P.trans K2).new K3 (by simp;omega)
 rw[aJ]
 have I:∀(o:List Str) (m:aA) (w:Nat),o.length=n->(∀x∈o,CH x)->o.Nodup->m[w]?=some (.lst (o.map .str))->ag [] Ω m->Ω.length<=w ->
   ∃(xs:List Str) (au:aA) (k:Nat),xs.length=n/\(∀x∈xs,CH x)/\xs.Nodup/\dy ((ak (eU (m2 (aQ .Eq) (mN (cW F) (ae (aa 0) (ae (m2 (aN .Add) (aa 1) (ai (.int 5))) (ae (ai (.int 2)) aj)))) (ai (.int 1))) (ak (eg (cB gY dr (aa 9) aj)) aq) aq) (ak (cf (aa 9)) aq)) (EN ns a n f (1+t) S (1+z) u w a10 a11) m)=.ok (.ref k) au/\au[k]?=some (.lst (xs.map .str))/\ag [] Ω au/\Ω.length<=k:=by
  intro o m w hy A B C K5 E
  by_cases J:v=1
  .subst J
   have Z:=qK C
   have hm:cB gY dr (aa 9) aj (EN ns a n f (1+t) S (1+z) u w a10 a11) m=.ok .non (m.set w (.lst (o.map .str).reverse)):=by
    rw[fc (x:=.ref w) (au:=m) (by simp[EN]) (dB C),iP,bU,Z]
   refine⟨o.reverse,m.set w (.lst (o.map .str).reverse),w,by simp[hy],λx h=>A x (List.mem_reverse.mp h),List.pairwise_reverse.mpr (List.Pairwise.imp (λh=>Ne.symm h) B),?_,by rw[List.map_reverse];exact aZ C,K5.new (ag.set (fp:=[w]) (by simp)) (by simpa using E),E⟩
   have b0:cB gY dr (aa 9) aj [some (SC ns),some (.int a),some (.int n),some (.str abc),some (.int f),some (.int (1+t)),some (.str S),some (.int (1+z)),some (.int u),some (.ref w),a10,a11] m=.ok .non (m.set w (.lst (o.map .str).reverse)):=hm;simp[EN,hv,b0,-List.map_reverse]
  .refine⟨o,m,w,hy,A,B,?_,C,K5,E⟩
   simp[EN,hv,J]
 by_cases hc:n<9/\g=1
 .obtain⟨r0,rfl⟩:=hc
  have K:(n:Int)<9:=by omega
  have i0:small S.length=true:=aI (by omega)
  have hD:=dA (Ω:=l) (au:=l) (ρ:=EN ns a n f (1+t) S (1+z) u q a10 a11) (me:=dJ (aa 1) true (ai .non) false (m2 (aN .Add) (aa 0) (ai (.int 1)))) (nc:=true) (mc:=ai .non) (mi:=gw (ae (aa 2) aj)) (cap:=[6]) (src:=.ints 0 n) (ds:=intsFrom 0 n) (p:=λ_=>true)
   (g:=λd=>match d with|.int j=>.str ⟨(cj S.cps.toList none (some (j+1))).toArray⟩|_=>.non) (by simp[EN,H]) rfl (λd hd=>rfl) (λd hd _=>by
    obtain⟨i,hi⟩:=List.mem_iff_getElem?.mp hd;obtain⟨rfl,s0⟩:=iO hi;generalize (0:Int)+(i:Int)=j;simp[eT,EN,i0]) (by rw[eB];omega)
  rw[List.filter_eq_self.mpr (by simp)]at hD
  obtain⟨o,j0,A,B,l0⟩:∃o:List Str,o.length=n/\(∀x∈o,CH x)/\o.Nodup/\((intsFrom 0 n).map λd=>match d with|.int j=>D.str ⟨(cj S.cps.toList none (some (j+1))).toArray⟩|_=>.non)=o.map .str:=by
   refine⟨(List.range n).map λ(i:Nat)=>⟨(cj S.cps.toList none (some ((0+(i:Int))+1))).toArray⟩,by simp,λx U=>?_,?_,?_⟩
   .obtain⟨i,_,rfl⟩:=List.mem_map.mp U
    have:=kM S.cps.toList none (some (0+(i:Int)+1));have h2:S.cps.toList.length=8:=by simpa[Str.length]using N
    refine⟨?_,c0,?_,O⟩
    .show(cj S.cps.toList none (some (0+(i:Int)+1))).toArray.size<=17
     simp at this h2 ⊢;omega
    .show c0∈(cj S.cps.toList none (some (0+(i:Int)+1))).toArray.toList
     rw[show(0+(i:Int)+1)=((i+1:Nat):Int)by omega,oF]
     cases M:S.cps.toList with
     |nil=>rw[M]at y;cases y
     |cons z zs=>rw[M]at y;cases y;simp
   .refine List.pairwise_map.mpr (List.Pairwise.imp_of_mem (λ{a b} ha hb m0 he=>m0 ?_) (List.nodup_range (n:=n)))
    have h1:=List.mem_range.mp ha;have h2:=List.mem_range.mp hb;have h8:S.cps.toList.length=8:=by simpa[Str.length]using N
    have h3:=congrArg (λz:Str=>z.cps.toList.length) he
    rw[show(0+(a:Int)+1)=((a+1:Nat):Int)by omega,show(0+(b:Int)+1)=((b+1:Nat):Int)by omega,oF,oF]at h3
    simp[List.length_take,h8]at h3;omega
   .rw[ints_map,List.map_map,List.map_map];rfl
  rw[l0]at hD
  have L:(eU (jr (m2 (aQ .Lt) (aa 2) (ai (.int 9))) (m2 (aQ .Eq) (mN (cW F) (ae (aa 0) (ae (m2 (aN .Add) (aa 1) (ai (.int 4))) (ae (ai (.int 4)) aj)))) (ai (.int 1)))) (ak (aE 9 nD) aq) aq) (EN ns a n f (1+t) S (1+z) u q a10 a11) l=.nx (EN ns a n f (1+t) S (1+z) u l.length a10 a11) (l++[Cell.lst (o.map .str)]):=by
   have n0:nD [some (SC ns),some (.int a),some (.int n),some (.str abc),some (.int f),some (.int (1+t)),some (.str S),some (.int (1+z)),some (.int u),some (.ref q),a10,a11] l=.ok (.ref l.length) (l++[Cell.lst (o.map .str)]):=hD;simp[EN,K,hg,n0]
  rw[ah,L,aJ];exact I o _ _ j0 A B az (Y.trans ag.app) Y.len
 .have L:(eU (jr (m2 (aQ .Lt) (aa 2) (ai (.int 9))) (m2 (aQ .Eq) (mN (cW F) (ae (aa 0) (ae (m2 (aN .Add) (aa 1) (ai (.int 4))) (ae (ai (.int 4)) aj)))) (ai (.int 1)))) (ak (aE 9 nD) aq) aq) (EN ns a n f (1+t) S (1+z) u q a10 a11) l=.nx (EN ns a n f (1+t) S (1+z) u q a10 a11) l:=by
   by_cases h9:(n:Int)<9
   .have o0:¬ g=1:=λe=>hc ⟨by omega,e⟩
    simp[EN,h9,hg,o0]
   .simp[EN,h9]
  rw[ah,L,aJ];exact I xs l q U V X hk Y Q
theorem vZ(b:eY δ F)(d:ns.length<=63){a:Int}(e:0<=a)(c:a<10000){n:Nat}(f:n<=20):∃(xs:List Str) (au:aA) (k:Nat),xs.length=n/\(∀x∈xs,CH x)/\bA 12 3 (gS F) [SC ns,.int a,.int n] Ω=.ok (.ref k) au/\au[k]?=some (.lst (xs.map .str))/\ag [] Ω au/\Ω.length<=k:=by
 obtain⟨xs,au,k,c,g,_,h⟩:=m9 b d e c f;exact⟨xs,_,k,c,g,h⟩
end
section
variable{κ β:Type}[DecidableEq κ]
theorem dh{p:κ×β}{kvs:List (κ×β)}{k:κ}:bQ (p::kvs) k=if p.1=k then some p.2 else bQ kvs k:=by
 unfold bQ
 grind
theorem qL{k a:κ}{v:c}:∀{kvs:List (κ×c)},bQ (kvs.map λb=>if b.1=k then (b.1,v)else b) a=if a=k then (bQ kvs k).map λ_=>v else bQ kvs a
 |[]=>by simp[bQ]
 |p::kvs=>by
  rw[List.map_cons,dh,dh,dh,qL]
  by_cases h:p.1=k
  .by_cases h':a=k
   .simp_all
   .have:¬ k=a:=λe=>h' e.symm
    simp_all
  .rw[if_neg h]
   by_cases h':a=k
   .simp_all
   .simp[h']
theorem qM{k a:κ}{v:b}:∀{kvs:List (κ×b)},bQ (kvs++[(k,v)]) a=match bQ kvs a with|some d=>some d|none=>if a=k then some v else none
 |[]=>by
  rw[List.nil_append,dh]
  by_cases h:k=a
  .subst h;simp[bQ]
  grind
 |p::kvs=>by
  rw[List.cons_append,dh,dh,qM]
  grind
theorem lK{k:κ}:∀{kvs:List (κ×b)},(kvs.any λa=>decide (a.1=k))=(bQ kvs k).isSome
 |[]=>rfl
 |p::kvs=>by
  rw[List.any_cons,dh,lK]
  by_cases h:p.1=k<;>simp[h]
theorem v3{kvs:List (κ×β)}{k a:κ}{v:β}:bQ (cK kvs k v) a=if a=k then some v else bQ kvs a:=by
 unfold cK;rw[lK];cases h:bQ _ k with
 |none=>
  rw[if_neg (by simp),qM]
  grind
 |some d=>
  rw[Option.isSome_some,if_pos rfl,qL]
  grind
theorem zg{kvs:List (κ×β)}{k:κ}{v:β}:(cK kvs k v).length<=kvs.length+1:=by
 unfold cK;split<;>simp
end
abbrev AI(x w:Str):List Key:=[.inr x,.inr w]
abbrev Nx(x w:Str):D:=.tup [.str x,.str w]
section
variable{Ω au:aA}{F:List D->Out Rs}{δ:List Int->Int->Int->Int}{ns:List Int}{t:Nat}{kvs:List (List Key×D)}
theorem FQ(h:Ω[t]?=some (.dT kvs)):bG .len [.ref t] Ω=.ok (.int kvs.length) Ω:=by
 simp only[bG,Cu,yo,gs,cT,h,BR];rfl
theorem uz{x w:Str}:mY (Nx x w)=some (AI x w):=rfl
theorem zh{x w:Str}{d:D}(h:Ω[t]?=some (.dT kvs))(a:bQ kvs (AI x w)=some d):aM (.ref t) (Nx x w) Ω=.ok d Ω:=by
 unfold aM;rw[gP,gP,ko];simp only[Bz,FL h uz,a,aF,cT,h];rfl
def tB(F:List D->Out Rs):SM:=(ak (aE 8 (mN (cW F) (ae (aa 0) (ae (m2 (aN .Add) (m2 (aN .Add) (aa 1) (ai (.int 1))) (mN (bG .len) (ae (aa 4) aj))) (ae (m2 (aN .Mult) (ai (.int 2)) (aa 5)) aj)))))
 (ak (cC (aa 4) (mN f7 (ae (aa 6) (ae (aa 7) aj))) (m2 aM (mN cD (ae (ai (.int 1)) (ae (ai (.int 2)) (ae (ai (.int 0)) aj)))) (mN (bG .min) (ae (ai (.int 2)) (ae (aa 8) aj)))))
 aq))
def ku(F:List D->Out Rs):SM:=
 (ak (aE 4 sh)
 (ak (aE 5 (m2 aM (mN cD (ae (ai (.int 2)) (ae (ai (.int 4)) (ae (ai (.int 9)) aj)))) (mN (cW F) (ae (aa 0) (ae (aa 1) (ae (ai (.int 3)) aj))))))
 (ak (dM (bN 6) (bg (aa 2))
 (ak (dM (bN 7) (bg (aa 3)) (tB F))
 aq))
 (ak (cf (aa 4))
 aq))))
theorem min2{p:Int}(a:0<=p):bG .min [.int 2,.int p] Ω=.ok (.int (if p<2 then p else 2)) Ω:=by
 rfl
theorem Jg(f:eY δ F)(m:ns.length<=63){a b:Int}{j k:Nat}{x w:Str}{a8:Option D}(z:0<=a)(A:a<10000)(d0:1<=b)(B:b<=9)(l:Ω[t]?=some (.dT kvs))(C:kvs.length<=1000) :
  ∃(v:Int) (g:Option D) (au:aA),0<=v/\v<=2/\tB F [some (SC ns),some (.int a),some (.ref j),some (.ref k),some (.ref t),some (.int b),some (.str x),some (.str w),a8] Ω=.nx [some (SC ns),some (.int a),some (.ref j),some (.ref k),some (.ref t),some (.int b),some (.str x),some (.str w),g] au /\
   au[t]?=some (.dT (cK kvs (AI x w) (.int v)))/\ag [t] Ω au:=by
 obtain⟨n,E,o⟩:=f ns (a+1+kvs.length) (2*b) m (by omega) (by omega) (by omega)
 generalize δ ns _ _=p at *;have q:gi b=true:=dZ (by omega) (by omega)
 have r:(Ω++[Cell.lst [.int 1,.int 2,.int 0]])[Ω.length]?=some _:=az;have s:=min2 (Ω:=Ω++[Cell.lst [.int 1,.int 2,.int 0]]) n
 obtain⟨v,u,v1,y⟩:∃v:Int,0<=v/\v<=2/\L2.jP [D.int 1,.int 2,.int 0] (if p<2 then p else 2)=some (.int v):=by
  have:p=0\/p=1\/2<=p:=by omega
  rcases this with rfl|rfl|h
  .exact⟨1,by omega,by omega,rfl⟩
  .exact⟨2,by omega,by omega,rfl⟩
  .rw[if_neg (by omega)];exact⟨0,by omega,by omega,rfl⟩
 have c:(Ω++[Cell.lst [.int 1,.int 2,.int 0]])[t]?=some _:=cJ l;generalize d:Ω++[Cell.lst _]=e at *
 have i:jG (.ref t) (Nx x w) (.int v) e=some (e.set t (.dT (cK kvs (AI x w) (.int v)))):=by
  simp only[jG,c,uz];rw[if_pos (aI (by omega))]
 refine⟨v,some (.int p),_,u,v1,?_,aZ c,(ek.up (by rw[←d];exact ag.app)).trans (ag.set (by simp))⟩
 simp[tB,(FQ l),q,o,cC,aI,d,s,(cE r y),i]
def iU(kvs:List (List Key×D))(P:Str->Str->Prop):Prop:=∀x w,P x w->∃v:Int,0<=v/\v<=2/\bQ kvs (AI x w)=some (.int v)
theorem iU.put{P:Str->Str->Prop}(h:iU kvs P){x w:Str}{v:Int}(b:0<=v)(v1:v<=2):iU (cK kvs (AI x w) (.int v)) λy u=>P y u\/(y=x/\u=w):=λy u a=>by
 rw[v3]
 by_cases e:AI y u=AI x w
 .rw[if_pos e];exact⟨v,b,v1,rfl⟩
 .rw[if_neg e]
  rcases a with a|⟨rfl,rfl⟩
  .exact h y u a
  simp_all
theorem iU.imp{P Q:Str->Str->Prop}(h:iU kvs P)(a:∀x w,Q x w->P x w):iU kvs Q:=λx w q=>h x w (a x w q)
abbrev ET(ns:List Int)(a:Int)(b c t:Nat)(d:Int)(a6 a7 a8:Option D):aK:=[some (SC ns),some (.int a),some (.ref b),some (.ref c),some (.ref t),some (.int d),a6,a7,a8]
theorem dg{xs:List Str}{i:Nat}{d:D}(h:(xs.map D.str)[i]?=some d):∃x,xs[i]?=some x/\d=.str x:=by
 rw[List.getElem?_map]at h;obtain⟨x,a,b⟩:=Option.map_eq_some_iff.mp h;exact⟨x,a,b.symm⟩
theorem lL{xs:List Str}{i:Nat}{x z:Str}(h:xs[i]?=some x)(a:z∈xs.take (i+1)):z∈xs.take i\/z=x:=by
 rw[List.take_succ]at a
 simp_all
theorem zi(q:eY δ F)(C:ns.length<=63){a l:Int}{r k:Nat}{x:Str}{f:List Str}{P:Str->Str->Prop}{a7 a8:Option D}(E:0<=a)(G:a<10000)(d0:1<=l)(H:l<=9)(I:Ω[k]?=some (.lst (f.map .str)))(J:Ω[t]?=some (.dT kvs))(L:iU kvs P)(U:kvs.length+f.length<=1000)
  {R:fB->Prop} (hR:∀b a7 a8 au,b.length<=kvs.length+f.length->iU b (λy u=>P y u\/(y=x/\u∈f))->au[t]?=some (.dT b)->ag [t] Ω au->R (.nx (ET ns a r k t l (some (.str x)) a7 a8) au)) :
  R (eh (bN 7) (.seq (.ref k)) (tB F) fuel 0 (ET ns a r k t l (some (.str x)) a7 a8) Ω):=by
 have s:k≠t:=λe=>by grind
 refine bo (ds:=f.map .str) (λi p c=>∃b a7 a8,p=ET ns a r k t l _ a7 a8/\b.length<=kvs.length+i/\i<=f.length/\iU b (λy u=>P y u\/(y=x/\u∈f.take i))/\c[t]?=some (.dT b)/\ag [t] Ω c) ?_ ?_ ?_ _ 0 _ _ (by unfold fuel;simp;omega) (Nat.zero_le _) ⟨_,a7,a8,rfl,Nat.le_refl _,Nat.zero_le _,L.imp (by simp),J,ag.refl⟩
 .rintro i p c ⟨_,_,_,_,_,_,_,_,K⟩
  rw[bY,aF,ay (K.get _ _ I (by simp[s]))]
 .rintro i d p c M ⟨b,z,m,rfl,g,N,n,j,K⟩
  obtain⟨w,o,rfl⟩:=dg M;have O:=(List.getElem?_eq_some_iff.mp o).1;refine⟨_,rfl,?_⟩;obtain⟨v,B,Q,S,v1,e,A,T⟩:=Jg q C E G d0 H j (by omega)
  show lH (tB F [some _,some _,some _,some _,some _,some _,some _,some _,m] _) _ _
  rw[e];refine⟨_,_,_,rfl,Nat.le_trans zg (by omega),by omega,(n.put S v1).imp λy u h=>?_,A,K.trans T⟩
  rcases h with h|⟨rfl,h⟩
  .simp_all
  .rcases lL o h with h|rfl
   .simp_all
   .simp
 .rintro p c ⟨b,z,m,rfl,g,N,n,j,K⟩
  rw[List.length_map]at g n;rw[List.take_length]at n;exact hR _ _ _ _ g n j K
theorem v7(o:eY δ F)(Y:ns.length<=63){a:Int}{f g:Nat}{xs k:List Str}(Z:0<=a)(h1:a<10000)(hx:Ω[f]?=some (.lst (xs.map .str)))(hw:Ω[g]?=some (.lst (k.map .str)))(bx:xs.length<=20)(bw:k.length<=20) :
  ∃kvs au t,bA 9 4 (ku F) [SC ns,.int a,.ref f,.ref g] Ω=.ok (.ref t) au/\au[t]?=some (.dT kvs)/\iU kvs (λx w=>x∈xs/\w∈k)/\kvs.length<=400/\ag [] Ω au/\Ω.length<=t:=by
 rw[cp (by rfl)]
 have e0:bu 9 [SC ns,.int a,.ref f,.ref g]=[some (SC ns),some (.int a),some (.ref f),some (.ref g),none,none,none,none,none]:=rfl;rw[e0];obtain⟨p0,p1,hp⟩:=o ns a 3 Y Z (by omega) (by omega)
 generalize δ ns a 3=p at *
 obtain⟨j,d0,d1,J⟩:∃j:Int,1<=j/\j<=9/\L2.jP [D.int 2,.int 4,.int 9] p=some (.int j):=by
  have:p=0\/p=1\/p=2:=by omega
  rcases this with rfl|rfl|rfl
  .exact⟨2,by omega,by omega,rfl⟩
  .exact⟨4,by omega,by omega,rfl⟩
  .exact⟨9,by omega,by omega,rfl⟩
 have ht:(Ω++[Cell.dT []])[Ω.length]?=some (.dT []):=az;have K1:ag [] Ω (Ω++[Cell.dT []]):=ag.app;have r1:(aE 4 sh) [some (SC ns),some (.int a),some (.ref f),some (.ref g),none,none,none,none,none] Ω=.nx [some (SC ns),some (.int a),some (.ref f),some (.ref g),some (.ref Ω.length),none,none,none,none] (Ω++[Cell.dT []]):=rfl;generalize a0:Ω++[Cell.dT []]=c at *;have hg:(c++[Cell.lst [.int 2,.int 4,.int 9]])[c.length]?=some (.lst [.int 2,.int 4,.int 9]):=az;have L:=cE hg J;have M:(c++[Cell.lst [.int 2,.int 4,.int 9]])[Ω.length]?=some (.dT []):=cJ ht;have K2:ag [] c (c++[Cell.lst [.int 2,.int 4,.int 9]]):=ag.app
 have r2:(aE 5 (m2 aM (mN cD (ae (ai (.int 2)) (ae (ai (.int 4)) (ae (ai (.int 9)) aj)))) (mN (cW F) (ae (aa 0) (ae (aa 1) (ae (ai (.int 3)) aj)))))) [some (SC ns),some (.int a),some (.ref f),some (.ref g),some (.ref Ω.length),none,none,none,none] c=.nx (ET ns a f g Ω.length j none none none) (c++[Cell.lst [.int 2,.int 4,.int 9]]):=by
  simp[aI,hp,L,ET]
 generalize b0:c++[Cell.lst [.int 2,.int 4,.int 9]]=l at *;have N:=K1.trans K2;have s:=N.get _ _ hx (by simp)
 have O:=N.get _ _ hw (by simp)
 have P:f≠Ω.length:=λe=>by have:=bp hx;omega
 have Q:g≠Ω.length:=λe=>by have:=bp hw;omega
 have m:bg (aa 2) (ET ns a f g Ω.length j none none none) l=.ok (.seq (.ref f)) l:=by
  simp[ET,aV (x:=.ref f) (by rw[aF,ay s])]
 unfold ku;rw[ah,r1,aJ,ah,r2,aJ,ah,bZ,m,c_]
 refine bo (R:=λr=>∃kvs au t,dy (sq r _)=.ok (.ref t) au/\au[t]?=some (.dT kvs)/\iU kvs (λx w=>x∈xs/\w∈k)/\kvs.length<=400/\ag [] Ω au/\Ω.length<=t) (ds:=xs.map .str)
  (λi I b=>∃kvs S z A,I=ET ns a f g Ω.length j S z A/\kvs.length<=i*k.length/\i<=xs.length/\iU kvs (λy u=>y∈xs.take i/\u∈k)/\b[Ω.length]?=some (.dT kvs)/\ag [Ω.length] l b) ?_ ?_ ?_ fuel 0 _ _ (by unfold fuel;simp;omega) (Nat.zero_le _) ⟨[],none,none,none,rfl,by simp,Nat.zero_le _,λy u h=>by simp at h,M,ag.refl⟩
 .rintro i I b ⟨_,_,_,_,_,_,_,_,_,K⟩
  rw[bY,aF,ay (K.get _ _ s (by simp[P]))]
 .rintro i d I b hd ⟨kvs,S,z,A,rfl,B,hi,C,n,K⟩
  obtain⟨x,E,rfl⟩:=dg hd;have c0:i<xs.length:=(List.getElem?_eq_some_iff.mp E).1;have hm:i*k.length<=20*20:=Nat.mul_le_mul (by omega) bw
  refine⟨_,rfl,?_⟩;have G:=K.get _ _ O (by simp[Q])
  have m:bg (aa 3) (ET ns a f g Ω.length j (some (.str x)) z A) b=.ok (.seq (.ref g)) b:=by
   simp[ET,aV (x:=.ref g) (by rw[aF,ay G])]
  show lH ((ak (dM (bN 7) (bg (aa 3)) (tB F)) aq) (ET ns a f g Ω.length j (some (.str x)) z A) b) _ _
  rw[ah,bZ,m,c_];refine zi (R:=λr=>lH (sq r aq) _ _) o Y Z h1 d0 d1 G n C (by omega) ?_
  intro H T U f0 g0 V X K4;rw[aJ];refine⟨H,_,T,U,rfl,by rw[Nat.succ_mul];omega,by omega,V.imp λy u h=>?_,X,K.trans K4⟩
  rcases lL E h.1 with q|rfl
  .exact .inl ⟨q,h.2⟩
  .exact .inr ⟨rfl,h.2⟩
 .rintro I b ⟨kvs,S,z,A,rfl,B,hi,C,n,K⟩
  rw[List.length_map]at B C;rw[List.take_length]at C;have hm:xs.length*k.length<=20*20:=Nat.mul_le_mul bx bw;refine⟨kvs,b,Ω.length,?_,n,C,by omega,N.new K (by simp),Nat.le_refl _⟩
  simp[ET]
end
theorem ju{O:aX}{ds:List D}{d:D}{au:aA}(a:ds.all Io=true)(h:O ds []=.ok d au)(b:eV d=true):pureOf O ds=.ok (false,d):=by
 unfold pureOf
 grind
def Jh:SM:=(ak (aE 3 (m2 (aN .FloorDiv) (aa 3) (ai (.int 840)))) aq)
def Ji:SM:=(eU (jr (m2 (aQ .Eq) (m2 (aN .Mod) (aa 0) (ai (.int 2))) (ai (.int 1))) (m2 (aQ .Gt) (aa 0) (m2 (aN .Pow) (ai (.int 10)) (ai (.int 18)))))
 (ak (dM (bN 4) (gw (ae (aa 1) aj)) Jh)
 (ak (cf (m2 (aN .Mod) (m2 (aN .Mod) (aa 3) (ai (.int 840))) (aa 2)))
 aq))
 aq)
def Pz:SM:=(ak (aE 5 (mN cD (ae (ai (.int 48271)) (ae (ai (.int 69621)) (ae (ai (.int 40692)) (ae (ai (.int 39373)) (ae (ai (.int 16807)) (ae (ai (.int 30323)) (ae (ai (.int 21403)) (ae (ai (.int 62089)) (ae (ai (.int 45742)) (ae (ai (.int 37907)) (ae (ai (.int 53611)) (ae (ai (.int 28411)) (ae (ai (.int 59393)) (ae (ai (.int 33391)) aj))))))))))))))))
 (ak (aE 6 (m2 (aN .Mod) (m2 (aN .Mult) (m2 (aN .Add) (m2 (aN .Mod) (aa 0) (ai (.int 1000000007))) (ai (.int 11))) (m2 aM (aa 5) (m2 (aN .Mod) (aa 1) (ai (.int 14))))) (ai (.int 2147483629))))
 (ak (aE 7 (m2 (aN .Mod) (m2 (aN .Mult) (aa 6) (m2 (aN .Add) (aa 6) (aa 1))) (ai (.int 1999999973))))
 (ak (cf (m2 (aN .Mod) (m2 (aN .FloorDiv) (m2 (aN .Mod) (m2 (aN .Mult) (aa 7) (ai (.int 16807))) (ai (.int 998244353))) (ai (.int 1000))) (aa 2)))
 aq))))
def qN:SM:=
 (ak (aE 3 (m2 (aN .FloorDiv) (aa 0) (ai (.int 2))))
 (ak Ji Pz))
def uA(M:List D->Out Rs):SM:=
 (ak (aE 3 (m2 (aN .Mult) (ai (.int 2)) (m2 (aN .Add) (m2 (aN .Mult) (ai (.int 7919)) (aa 1)) (ai (.int 13)))))
 (ak (eU (m2 (aQ .Lt) (m2 (aN .Mod) (aa 1) (ai (.int 63))) (mN (bG .len) (ae (aa 0) aj)))
 (ak (aE 3 (m2 aM (aa 0) (m2 (aN .Mod) (aa 1) (ai (.int 63)))))
 aq)
 aq)
 (ak (cf (mN (cW M) (ae (aa 3) (ae (m2 (aN .FloorDiv) (aa 1) (ai (.int 63))) (ae (aa 2) aj)))))
 aq)))
@[simp] theorem Jj{x y:D}{Ω:aA}:aN .Pow x y Ω=fZ (eS .Pow) x y Ω:=rfl
theorem CJ{c t m:Int}(E:0<=t)(s:t<100000)(g:0<m):∃r,0<=r/\r<m/\pureOf (bA 8 3 qN) [.int c,.int t,.int m]=.ok (false,.int r):=by
 have j:∃r b,0<=r/\r<m/\bA 8 3 qN [.int c,.int t,.int m] []=.ok (.int r) b:=by
  rw[cp (by rfl)]
  have u:bu 8 [D.int c,.int t,.int m]=[some (.int c),some (.int t),some (.int m),none,none,none,none,none]:=rfl;rw[u];unfold qN;have w:(aE 3 (m2 (aN .FloorDiv) (aa 0) (ai (.int 2)))) [some (.int c),some (.int t),some (.int m),none,none,none,none,none] []=.nx [some (.int c),some (.int t),some (.int m),some (.int (c / 2)),none,none,none,none] []:=by simp
  rw[ah,w,aJ,ah]
  by_cases k:c%2=1/\1000000000000000000<c
  .have l:kG t=true:=iN (by omega) (by omega)
   have n:∃x a,eh (bN 4) (.ints 0 t.toNat) Jh fuel 0 [some (.int c),some (.int t),some (.int m),some (.int (c / 2)),none,none,none,none] []=.nx [some (.int c),some (.int t),some (.int m),some (.int x),a,none,none,none] []:=by
    refine bo (R:=λr=>∃x a,r=.nx [some (.int c),some (.int t),some (.int m),some (.int x),a,none,none,none] []) (ds:=intsFrom 0 t.toNat) (λ_ o p=>∃x a,o=[some (.int c),some (.int t),some (.int m),some (.int x),a,none,none,none]/\p=[]) (λ_ _ _ _=>rfl) ?_ ?_ fuel 0 _ _ (by rw[eB];unfold fuel;omega) (Nat.zero_le _) ⟨_,_,rfl,rfl⟩
    .rintro i d o p q ⟨x,a,rfl,rfl⟩
     refine⟨_,rfl,?_⟩;have e:Jh [some (.int c),some (.int t),some (.int m),some (.int x),some d,none,none,none] []=.nx [some (.int c),some (.int t),some (.int m),some (.int (x / 840)),some d,none,none,none] []:=by simp[Jh]
     show lH (Jh [some (.int c),some (.int t),some (.int m),some (.int x),some d,none,none,none] []) _ _
     rw[e];exact⟨_,_,rfl,rfl⟩
    .rintro o p ⟨x,a,rfl,rfl⟩
     exact⟨x,a,rfl⟩
   obtain⟨x,a,n⟩:=n;refine⟨x%840%m,[],Int.emod_nonneg _ (by omega),Int.emod_lt_of_pos _ g,?_⟩
   simp[Ji,k.1,k.2,l,n,g]
  .obtain⟨d,q,e⟩:=y6 (xs:=[D.int 48271,.int 69621,.int 40692,.int 39373,.int 16807,.int 30323,.int 21403,.int 62089,.int 45742,.int 37907,.int 53611,.int 28411,.int 59393,.int 33391]) (i:=t%14) (Int.emod_nonneg _ (by omega)) (Int.emod_lt_of_pos _ (by omega))
   obtain⟨v,rfl⟩:∃v,d=.int v:=by
    simp only[List.mem_cons,List.not_mem_nil,or_false]at q;rcases q with h|h|h|h|h|h|h|h|h|h|h|h|h|h<;>exact⟨_,h⟩
   have y:([]++[Cell.lst [D.int 48271,.int 69621,.int 40692,.int 39373,.int 16807,.int 30323,.int 21403,.int 62089,.int 45742,.int 37907,.int 53611,.int 28411,.int 59393,.int 33391]]:aA)[0]?=some (.lst [D.int 48271,.int 69621,.int 40692,.int 39373,.int 16807,.int 30323,.int 21403,.int 62089,.int 45742,.int 37907,.int 53611,.int 28411,.int 59393,.int 33391]):=rfl;have F:=cE y e;have G:gi (c%1000000007+11)=true:=dZ (by omega) (by omega)
   have H:gi ((c%1000000007+11)*v%2147483629)=true:=dZ (by omega) (by omega)
   have I:gi ((c%1000000007+11)*v%2147483629*((c%1000000007+11)*v%2147483629+t)%1999999973)=true:=dZ (by omega) (by omega)
   have rI:Ji [some (.int c),some (.int t),some (.int m),some (.int (c / 2)),none,none,none,none] []=.nx [some (.int c),some (.int t),some (.int m),some (.int (c / 2)),none,none,none,none] []:=by
    by_cases f:c%2=1
    .have A:¬ 1000000000000000000<c:=λz=>k ⟨f,z⟩
     simp[Ji,f,A]
    .have B:(c%2==1)=false:=by simpa using f
     simp[Ji,B]
   refine⟨(c%1000000007+11)*v%2147483629*((c%1000000007+11)*v%2147483629+t)%1999999973*16807%998244353 / 1000%m,([]++[Cell.lst [D.int 48271,.int 69621,.int 40692,.int 39373,.int 16807,.int 30323,.int 21403,.int 62089,.int 45742,.int 37907,.int 53611,.int 28411,.int 59393,.int 33391]]:aA),Int.emod_nonneg _ (by omega),Int.emod_lt_of_pos _ g,?_⟩
   rw[rI,aJ];have J:(aE 5 (mN cD (ae (ai (.int 48271)) (ae (ai (.int 69621)) (ae (ai (.int 40692)) (ae (ai (.int 39373)) (ae (ai (.int 16807)) (ae (ai (.int 30323)) (ae (ai (.int 21403)) (ae (ai (.int 62089)) (ae (ai (.int 45742)) (ae (ai (.int 37907)) (ae (ai (.int 53611)) (ae (ai (.int 28411)) (ae (ai (.int 59393)) (ae (ai (.int 33391)) aj)))))))))))))))) [some (.int c),some (.int t),some (.int m),some (.int (c / 2)),none,none,none,none] []=.nx [some (.int c),some (.int t),some (.int m),some (.int (c / 2)),none,some (.ref 0),none,none] ([]++[Cell.lst [D.int 48271,.int 69621,.int 40692,.int 39373,.int 16807,.int 30323,.int 21403,.int 62089,.int 45742,.int 37907,.int 53611,.int 28411,.int 59393,.int 33391]]):=rfl;unfold Pz
   simp_all
 obtain⟨r,b,C,f,e⟩:=j;exact⟨r,C,f,ju rfl e rfl⟩
theorem v8{M:List D->Out Rs}(o:∀c t m:Int,0<=t->t<100000->0<m->∃r,0<=r/\r<m/\M [.int c,.int t,.int m]=.ok (false,.int r)):uy (pureOf (bA 4 3 (uA M))):=by
 intro a k m z A B p;have q:gi k=true:=dZ (by omega) (by omega)
 have s:gi (7919*k+13)=true:=dZ (by omega) (by omega)
 have f:=by
  have:(a.map D.int).all eV=true:=by
   induction a with
   |nil=>rfl
   |cons n a w=>
    rw[List.map_cons,List.all_cons,w (by grind)];rfl
  show((a.map D.int).all eV&&(true&&true))=true
  grind
 have u:bu 4 [SC a,D.int k,.int m]=[some (SC a),some _,some _,none]:=rfl
 have b:bG .len [SC a] []=.ok (.int a.length) []:=by
  show ax.ok _ []=_
  grind
 by_cases g:k%63<(a.length:Int)
 .obtain⟨d,x,e⟩:=y6 (xs:=a.map D.int) (i:=k%63) (by grind) (by grind)
  obtain⟨c,_,rfl⟩:=List.mem_map.mp x;obtain⟨r,h,j,l⟩:=o c (k / 63) m (by omega) (by omega) p
  have y:aM (SC a) (.int (k%63)) []=.ok (.int c) []:=by
   show kb (ixs [] (some _) (.int (k%63))) _=_
   rw[sv e];rfl
  refine⟨r,h,j,ju (au:=[]) f ?_ rfl⟩;rw[cp (by rfl),u]
  simp[uA,q,s,b,g,y,l]
 .obtain⟨r,h,j,l⟩:=o (2*(7919*k+13)) (k / 63) m (by omega) (by omega) p
  refine⟨r,h,j,ju (au:=[]) f ?_ rfl⟩;rw[cp (by rfl),u]
  simp[uA,q,s,b,g,l]
section
variable{Ω au:aA}{ρ:aK}
theorem FR{mc me:EM}{b:aK}{src:Src}{ds:List D}(I:Nat->List D->aA->Prop)(e:∀i a Ω,I i a Ω->fA src Ω=some ds)(k:∀i d a Ω,ds[i]?=some d->I i a Ω->∃y au,me ([some d]++b) Ω=.ok y au/\I (i+1) (a++[y]) au) :
  ∀(f i:Nat) (a:List D) Ω,I i a Ω->ds.length - i<f->i<=ds.length->a.length+ds.length<=100000+i->∃ys au,t9 true mc me 0 b src f i a Ω=.ok ys au/\I ds.length ys au:=by
 intro f
 induction f with
 |zero=>simp
 |succ f l=>
  intro i a Ω g m n o;simp only[t9,e i _ Ω g]
  by_cases c:i<ds.length
  .have h:=List.getElem?_eq_getElem c
   rw[h];have j:ou 0 ds[i]=some _:=rfl;have p:jV true mc ([some ds[i]]++b) Ω=.ok _ Ω:=rfl;simp only[j];rw[if_pos (aI (by omega))]
   grind
  grind
theorem uB{me mc:EM}{mi:IM}{cap:List Nat}{src:Src}{ds:List D}(I:Nat->List D->aA->Prop)(h:mi ρ Ω=.ok src au)(c:I 0 [] au)(e:∀i a Ω,I i a Ω->fA src Ω=some ds)(f:∀i d a Ω,ds[i]?=some d->I i a Ω->∃y au,me ([some d]++eT cap ρ) Ω=.ok y au/\I (i+1) (a++[y]) au)(j:ds.length<=90000) :
  ∃ys b,cM me true mc mi 0 cap ρ Ω=.ok (.ref b.length) (b++[.lst ys])/\I ds.length ys b:=by
 obtain⟨ys,b,k,g⟩:=FR (mc:=mc) I e f fuel 0 [] _ c (by unfold fuel;omega) (Nat.zero_le _) (by simp;omega)
 refine⟨ys,_,?_,g⟩;unfold cM
 simp_all
def PB(Ω:aA)(j:Nat)(a:List Str):Prop:=Ω[j]?=some (.lst (a.map .str))
def mj(Ω:aA)(a:List Nat)(rs:List (List Str)):Prop:=aD (PB Ω) a rs
structure Rw(Ω:aA)(k:Nat)(js:List Nat)(rs:List (List Str)):Prop where
 ce:Ω[k]?=some (.lst (js.map .ref))
 al:mj Ω js rs
section
variable{k:Nat}{js:List Nat}{rs:List (List Str)}{row:List Str}{n:Str}
theorem mj.keep:∀{a:List Nat}{rs:List (List Str)},mj Ω a rs->∀{fp:List Nat},ag fp Ω au->(∀j∈a,j∉fp)->mj au a rs
 |_,_,.nil,_,_,_=>.nil
 |_,_,.cons r t,fp,K,h=>.cons (K.get _ _ r (h _ (by simp))) (mj.keep t K λj b=>h j (by simp[b]))
theorem Rw.keep(R:Rw Ω k js rs)(K:ag [] Ω au):Rw au k js rs:=⟨K.get _ _ R.ce (by simp),R.al.keep K (by simp)⟩
theorem Rw.zj(R:Rw Ω k js rs){fp:List Nat}(K:ag fp Ω au)(a:k∉fp)(b:∀j∈js,j∉fp):Rw au k js rs:=⟨K.get _ _ R.ce a,R.al.keep K b⟩
theorem mj.len(h:mj Ω js rs):rs.length=js.length:=aD.length h
theorem Rw.len(R:Rw Ω k js rs):rs.length=js.length:=R.al.len
theorem mj.at{i:Nat}{a:List Str}(h:mj Ω js rs)(b:rs[i]?=some a):∃j,js[i]?=some j/\Ω[j]?=some (.lst (a.map .str)):=aD.Fj (R:=PB Ω) h b
theorem mj.at'{i j:Nat}(h:mj Ω js rs)(b:js[i]?=some j):∃a,rs[i]?=some a/\Ω[j]?=some (.lst (a.map .str)):=aD.get h b
theorem mj.lt(h:mj Ω js rs):∀j∈js,j<Ω.length:=λj a=>by
 obtain⟨i,b⟩:=List.mem_iff_getElem?.mp a;obtain⟨c,_,d⟩:=h.at' b;exact bp d
theorem sD{a:List Nat}{i:Nat}{d:D}(h:(a.map D.ref)[i]?=some d):∃j,a[i]?=some j/\d=.ref j:=by
 rw[List.getElem?_map]at h;obtain⟨x,b,c⟩:=Option.map_eq_some_iff.mp h;exact⟨x,b,c.symm⟩
def LF:SM:=(ak (eU (m2 (aQ .In) (aa 1) (dJ (aa 3) false (ai (.int 1)) true (ai .non))) (ak (cf (aa 2)) aq) aq) aq)
def qO:SM:=(ak (dM (jF [2,3]) (yx (aa 0)) LF) (ak (cf (ai .non)) aq))
theorem zk{j:Nat}(h:Ω[j]?=some (.lst (row.map .str))):jq (.ref j) (some 1) none Ω=.ok (.ref Ω.length) (Ω++[.lst (row.tail.map .str)]):=by
 have e:cj (row.map D.str) (some 1) none=row.tail.map .str:=by
  simp
 simp only[jq,ay h,iQ,e]
theorem FT{j i:Nat}(h:Ω[j]?=some (.lst (row.map .str))):∃au,ag [] Ω au/\LF [some (.ref k),some (.str n),some (.int i),some (.ref j)] Ω=if n∈row.tail then .rt (.int i) au else .nx [some (.ref k),some (.str n),some (.int i),some (.ref j)] au:=by
 have b:=zk h;have d:(Ω++[Cell.lst (row.tail.map .str)])[Ω.length]?=some _:=az;have e:ag [] Ω (Ω++[Cell.lst (row.tail.map .str)]):=ag.app;generalize Ω++[Cell.lst _]=f at *;have c:=sx (w:=n) d;refine⟨_,e,?_⟩
 by_cases a:n∈row.tail
 .rw[if_pos a,decide_eq_true a]at *
  simp[LF,b,c,-oK]
 .rw[if_neg a,decide_eq_false a]at *
  simp[LF,b,c,-oK]
theorem zl(R:Rw Ω k js rs)(B:rs.length<=1000):∃d au,bA 4 2 qO [.ref k,.str n] Ω=.ok d au/\ag [] Ω au/\((d=.non/\∀r∈rs,n∉r.tail)\/∃i:Nat,d=.int i/\∃r,rs[i]?=some r/\n∈r.tail):=by
 rw[cp (by rfl)]
 have x:bu 4 [D.ref k,.str n]=[some (.ref k),some (.str n),none,none]:=rfl;rw[x];have y:=R.len
 have o:yx (aa 0) [some (.ref k),some (.str n),none,none] Ω=.ok (.MO (.ref k)) Ω:=by
  unfold yx;simp[ay R.ce]
 unfold qO;rw[ah,bZ,o,c_]
 refine bo (R:=λr=>∃d au,dy (sq r _)=.ok d au/\ag [] Ω au/\((d=.non/\∀r∈rs,n∉r.tail)\/∃i:Nat,d=.int i/\∃r,rs[i]?=some r/\n∈r.tail)) (ds:=eu 0 (js.map .ref))
  (λi g a=>∃p q,g=[some (.ref k),some (.str n),p,q]/\(∀r∈rs.take i,n∉r.tail)/\ag [] Ω a) ?_ ?_ ?_ fuel 0 _ _ (by rw[j9];unfold fuel;simp;omega) (Nat.zero_le _) ⟨none,none,rfl,by simp,ag.refl⟩
 .rintro i g a ⟨_,_,_,_,K⟩
  show(gs a (.ref k)).map (eu 0)=_
  rw[aF,ay (R.keep K).ce];rfl
 .rintro i d g a z ⟨p,q,rfl,l,K⟩
  obtain⟨C,s,rfl⟩:=n7 _ 0 i d z;obtain⟨j,A,rfl⟩:=sD s;obtain⟨c,u,f⟩:=(R.keep K).al.at' A;rw[Nat.zero_add];refine⟨[some (.ref k),some (.str n),some (.int i),some (.ref j)],rfl,?_⟩;obtain⟨t,w,e⟩:=FT (k:=k) (n:=n) (i:=i) f;rw[e]
  by_cases m:n∈c.tail
  .rw[if_pos m]
   exact⟨.int i,t,rfl,K.trans w,.inr ⟨i,rfl,c,u,m⟩⟩
  .rw[if_neg m]
   refine⟨_,_,rfl,λr b=>?_,K.trans w⟩
   rw[List.take_succ,u]at b;simp at b;rcases b with h|rfl
   .exact l r h
   .exact m
 .rintro g a ⟨p,q,rfl,l,K⟩
  rw[j9,List.length_map,←y,List.take_length]at l;exact⟨.non,a,rfl,K,.inl ⟨rfl,l⟩⟩
def Jk(a:aX):SM:=(ak (eU (jr (aa 1) (m2 (aQ .Is) (mN (aS a) (ae (aa 0) (ae (m2 aM (aa 1) (ai (.int 0))) aj))) (ai .non))) (ak (cf (m2 aM (aa 1) (ai (.int 0)))) aq) aq) aq)
def CK(a:aX):SM:=(ak (dM (bN 1) (bg (aa 0)) (Jk a)) (ak (cf (ai .non)) aq))
theorem eL{j:Nat}{ds:List D}(h:Ω[j]?=some (.lst ds)):gW Ω (.ref j)=some (!ds.isEmpty):=by simp only[gW,h]
theorem FU{j:Nat}(R:Rw Ω k js rs)(l:rs.length<=1000)(h:Ω[j]?=some (.lst (row.map .str))):∃au,ag [] Ω au/\Jk (bA 4 2 qO) [some (.ref k),some (.ref j)] Ω=match freeOf rs row with|some m=>.rt (.str m) au|none=>.nx [some (.ref k),some (.ref j)] au:=by
 cases row with
 |nil=>
  refine⟨Ω,ag.refl,?_⟩;simp[Jk,freeOf,(eL h)]
 |cons m t=>
  have c:=eL h;have a:aM _ (.int 0) Ω=.ok _ Ω:=cE h (L2.dk rfl);obtain⟨d,o,e,f,p⟩:=zl (n:=m) R l;have b:aM _ (.int 0) _=.ok _ _:=cE (f.get _ _ h (by simp)) (L2.dk rfl)
  refine⟨_,f,?_⟩;rcases p with ⟨rfl,g⟩|⟨i,rfl,r,q,g⟩
  .rw[ij (by grind)]
   simp[Jk,c,a,e,b]
  .rw[lE ⟨r,by grind,g⟩]
   simp[Jk,c,a,e]
theorem FV(R:Rw Ω k js rs)(t:rs.length<=1000):∃au,bA 2 1 (CK (bA 4 2 qO)) [.ref k] Ω=.ok (y8 (free rs)) au/\ag [] Ω au:=by
 rw[cp (by rfl)]
 have u:bu 2 [D.ref k]=[some (.ref k),none]:=rfl;rw[u];have w:=R.len;have h:bg (aa 0) [some (.ref k),none] Ω=.ok (.seq (.ref k)) Ω:=by simp[aV (x:=.ref k) (by rw[aF,ay R.ce])]
 unfold CK;rw[ah,bZ,h,c_]
 refine bo (R:=λr=>∃au,dy (sq r _)=.ok (y8 (free rs)) au/\ag [] Ω au) (ds:=js.map .ref)
  (λi f a=>∃l,f=[some (.ref k),l]/\(rs.take i).findSome? (freeOf rs)=none/\ag [] Ω a) ?_ ?_ ?_ fuel 0 _ _ (by unfold fuel;simp;omega) (Nat.zero_le _) ⟨none,rfl,rfl,ag.refl⟩
 .rintro i f a ⟨_,_,_,K⟩
  rw[bY,aF,ay (R.keep K).ce]
 .rintro i d f a q ⟨l,rfl,n,K⟩
  obtain⟨j,y,rfl⟩:=sD q;have R2:=R.keep K;obtain⟨b,g,c⟩:=R2.al.at' y;refine⟨[some (.ref k),some (.ref j)],rfl,?_⟩;obtain⟨o,s,e⟩:=FU R2 t c;rw[e];have z:rs.take (i+1)=rs.take i++[b]:=by rw[List.take_succ,g];rfl
  cases A:freeOf rs b with
  |some m=>
   refine⟨o,?_,K.trans s⟩
   have:free rs=some m:=by
    unfold free
    have q:rs=rs.take i++(b::rs.drop (i+1)):=by
     have p:i<rs.length:=(List.getElem?_eq_some_iff.mp g).1;rw[List.getElem?_eq_getElem p]at g;cases g
     simp_all
    grind
   rw[this];rfl
  |none=>
   refine⟨_,rfl,?_,K.trans s⟩
   grind
 .rintro f a ⟨l,rfl,n,K⟩
  rw[List.length_map,←w,List.take_length]at n;refine⟨a,?_,K⟩;unfold free;rw[n];rfl
end
end
end Mir
namespace Mir
open PySem PySem.Spec PyProof.Rows L2
def oN(ps cn:List Str)(a:Scope):Bool:=
 a.kind==.function&&!a.isCoroutine&&!a.isGenerator&&decide (ps++cn).Nodup&&ps.all (λx=>a.names.lookup x==some .local)&&cn.all (λx=>a.names.lookup x==some .free)&&a.names.all (λy=>!(y.2==.free)||cn.contains y.1)&&a.names.all λy=>!(y.2==.cell)
theorem zm{ps a:List Str}{b:Scope}(h:oN ps a b=true):kT ps a b:=by
 simp only[oN,Bool.and_eq_true,Bool.not_eq_true',decide_eq_true_eq,List.all_eq_true,beq_iff_eq,Bool.or_eq_true]at h;obtain⟨⟨⟨⟨⟨⟨⟨c,d⟩,f⟩,g⟩,i⟩,j⟩,l⟩,m⟩:=h;refine⟨c,d,f,g,i,j,λy k e=>?_,λy k e=>?_⟩
 .grind
 grind
variable [aw]
def DZ(T:aO)(d:pY):Option SM:=bO (fQ T [] 60 d.scope (d.ps++d.cn) 30) d.body
def sE(k:Nat)(c:SM)(de:List D):aX:=λa b=>if a.length=k then dy (c ((a++de).map some) b)else .bad
noncomputable def aO.CL(T:aO)(F:List D->aX):aO:={T with clo:=T.clo++[F]}
section
variable{P:Program}{w:World}{K:PySem.W.Frag}{mg:Str->Option Value}{base:Heap}{T:aO}{k:Nat}
theorem FW(W:ba P w K mg base T k){j:Nat}{d:pY}{c:SM}(U:aw.tab j=d)(V:oN d.ps d.cn d.scope=true)(Y:DZ T d=some c)
    (hb:∀(cl:List (Str×Addr)) (e t:Value) (o:Addr) (l:Value) (us:List Value),us.length=d.ps.length->bindArgs (PySem.W.fnX d.name d.qual d.params d.body d.scope cl .none .none e t none (.ref o) l) ⟨us,[]⟩=pure (d.ps.zip us)) :
    jH P w K mg base (bS mg) (k+1) j (sE d.ps.length c):=by
  refine⟨λX f vs σ H Q u Z y de ds n e1 e2 e3 e4 e5 hr S hn ho r g=>?_⟩
  subst e1 e2 e3 e4 e5 U;obtain⟨a,I,o,cl,cv,C,O,J⟩:=S.cell ho;rw[hn]at I;cases I;have p:=zm V;unfold sE at g;split at g
  · rename_i hl
    refine yg (CX:=dH) (E:=E0) C p O hr pL (by rw[r.length];exact hl) (λe t l us=>hb cl e t o l us) λouter s z=>?_
    have G:cV (mU dH X.prog X.w X.K X.mg X.base _ _ _ f (.ref o) cl X.A outer s H E0).fg (bS X.mg) T k _ _:=
      { scope:=rfl,names:=rfl,calm:=rfl,room:=z,b8:=W.b8,own:=PassesOwn.never,jT:=p.nd,kind:=p.kind,fg:=λ_ _ _ h=>h,fld:=W.fld,cst:=W.cst
        Cc:=λx h _=>by
          right;unfold vw at h;split at h
          · assumption
          · rename_i q;exact absurd rfl (p.cell _ (PySem.mem_of_lookup q))
          · cases h
        fP:=λx F h=>⟨W.fP x F h⟩,fn:=λx F h=>⟨W.fn x F h⟩,met:=λm C F h=>⟨W.met m C F h⟩,cls:=λC F h=>let ⟨j,B,L⟩:=W.cls C F h;⟨j,B,⟨L⟩⟩,clo:=W.clo }
    refine⟨FD (bS X.mg) gM u Z H c _ y,gb.fg (cX (gN G 30 60) Y u Z H ((ds++de).map some) y),u,Z,⟨S,bD.refl S.has,by simp[r.length,J.length],λi d M=>?_⟩,?_⟩
    · rw[List.getElem?_map]at M
      obtain⟨d',B,L⟩:=Option.map_eq_some_iff.mp M;obtain⟨v,h3,h4⟩:=(r.append J).get B
      grind
    · cases q:c _ y with
      |rt d b=>rwa[q]at g
      |nx N b=>rw[q]at g;exact λσ H' D Z' R=>g .non H' D Z' R.gr R.st (aR rfl)
      |bk N b=>rw[q]at g;exact g.elim
      |ct N b=>rw[q]at g;exact g.elim
      |exc x b=>rw[q]at g;exact g
      |bad=>rw[q]at g;exact g.elim
  · exact g.elim
theorem ba.CL(W:ba P w K mg base T k){F:List D->aX}{j:Nat}(c:T.clo.length=j)(h:jH P w K mg base (bS mg) (k+1) j F):ba P w K mg base (T.CL F) (k+1):=by
 have a:=W.mono (Nat.le_succ k);refine⟨a.b8,a.fP,a.fn,a.cst,a.met,a.cls,a.fld,λi G q=>?_⟩
 have q:(T.clo++[F])[i]?=some G:=q
 by_cases b:i<T.clo.length
 .rw[List.getElem?_append_left b]at q
  exact a.clo i G q
 .have:i=j:=by
   have:=(List.getElem?_eq_some_iff.mp q).1;simp at this;omega
  simp_all
end
end Mir
namespace Mir
open PySem PySem.Spec PyProof.Rows L2
section
variable{X:Cx}{pins:List (Addr×Obj)}{σ:L2.St}{s:Shared}
theorem m_:∀(ys xs:List Str) (H:Hp),Inv (X.fz xs) pins σ H s->ys.Nodup->(∀y∈ys,X.fn y=true/\y∉xs/\∃c o a,X.env.cells.lookup y=some c/\s.heap.get? c=some o/\o.data=.cell (some a)) ->
  ∃d,Inv (X.fz (ys.reverse++xs)) pins σ d s/\(∀b o,H b=some o->d b=some o)/\∀y∈ys,∀c o,X.env.cells.lookup y=some c->s.heap.get? c=some o->d c=some (kU c o)
 |[],xs,H,I,_,_=>⟨H,I,by simp,by simp⟩
 |y::ys,xs,H,I,n,h=>by
  obtain⟨h1,h2,c,o,a,f,k,p⟩:=h y (by simp)
  have l:=by
   show(X.fn y&&!(xs.contains y))=true
   simp[h1,h2]
  have g:=List.nodup_cons.mp n
  obtain⟨d,A,m,q⟩:=m_ ys _ _ (I.freeze f l k p) g.2 λz hz=>by
   obtain⟨r,B,t⟩:=h z (by simp[hz])
   exact⟨r,by grind,t⟩
  refine⟨d,?_,λb u e=>m b u ?_,λz hz w x i j=>?_⟩
  .simp_all
  .rwa[ao (aP e ((I.cq y c f).2 l))]
  .rcases List.mem_cons.mp hz with rfl|hz
   .rw[f]at i;cases i
    rw[k]at j;cases j
    exact m _ _ aG
   .exact q z hz w x i j
end
variable [aw]
noncomputable def lM(ρ:aK):List Nat->Option (List D)
 |[]=>some []
 |i::a=>match ρ[i]?,lM ρ a with
  |some (some d),some ds=>some (d::ds)
  |_,_=>none
def qP(i j:Nat)(c:List Nat):SM:=λa b=>match lM a c with
 |some d=>.nx (a.set i (some (.ref b.length))) (b++[.fn j d])
 |none=>.bad
def zo(n:Nat)(a:SM)(i j:Nat)(b:List Nat)(c:SM):aX:=λd e=>dy (ak a (ak (qP i j b) c) (bu n d) e)
def oO(T0:Addr)(cm:List Addr)(D2:aA)(F:aX):Sp:=λe H Q _=>H T0=some (.mB #[])/\T0∉cm/\∃(a:Addr) (d:List Int) (c:aA),e=[.ref a]/\a≠T0/\(∀f,bc f cm (λb=>b=a) D2 H)/\Rd H a (.lst (d.map V.int))/\F [.lst (d.map D.int)] D2=.ok (.bl true) c/\∀g,Q (.bl true) g
section
variable{κ:Str->Addr->Prop}{α cm:List Addr}{Z Z0:Addr->Prop}{Ω:aA}{H H0 H2:Hp}{ρ:aK}{σ:L2.St}
theorem aD.Jl{c d:Type}{R S:c->d->Prop}:∀{as:List c}{bs:List d},aD R as bs->(∀a b,b∈bs->R a b->S a b)->aD S as bs
 |_,_,.nil,_=>.nil
 |_,_,.cons r t,h=>.cons (h _ _ (by simp) r) (aD.Jl t λa b m=>h a b (by simp[m]))
theorem bc.made(S:bc κ α Z Ω H){T0 f:Addr}{ps:Array Value}{c:Cell}(s:H T0=some (.mB ps))(g:¬ Z T0)(i:T0∉α)(keep:∀b o,H b=some o->b≠T0->H2 b=some o)(m:H f=none)
  (j:∀R:D->V->Prop,(∀d v,av α Z H d v->R d v)->fb κ R H2 f c):bc κ (α++[f]) Z (Ω++[c]) H2/\∀d v,av α Z H d v->av (α++[f]) Z H2 d v:=by
 have p:∀a∈α,a≠f:=λa ha e=>S.has a ha (e▸m)
 have k:∀d v,av α Z H d v->av (α++[f]) Z H2 d v:=λd v r=>r.mono (λn a e=>by rwa[List.getElem?_append_left (List.getElem?_eq_some_iff.mp e).1]) (λa o z e=>keep a o e λq=>g (q▸z)) λ_ h=>h
 refine⟨⟨?_,?_,λa ha l=>?_,λa ha=>?_⟩,k⟩
 .refine List.nodup_append.mpr ⟨S.jT,by simp,λa ha b t=>?_⟩
  simp_all
 .refine aD.append (S.vz.Jl λc a ha j=>?_) (.one (j _ k))
  exact j.imp k (λu e=>keep a u e λq=>i (q▸ha)) (by grind)
 .rcases List.mem_append.mp ha with ha|ha
  .exact S.sep a ha l
  .rw[List.mem_singleton.mp ha]at l;exact S.dom _ l m
 .cases q:H a with
  |none=>exact absurd q (S.dom a ha)
  |some o=>rw[keep a o q λe=>g (e▸ha)];simp
theorem ng(S:b7 κ cm Z0 H0 α Z Ω ρ σ H):∀{a:List Nat}{ds:List D},lM ρ a=some ds->∃b,aD (av α Z H) ds b/\b.length=a.length/\∀(m i:Nat) (v:V),a[m]?=some i->b[m]?=some v->σ[i]?=some (some v)
 |[],ds,h=>by cases h;exact⟨[],.nil,rfl,by simp⟩
 |i::a,ds,h=>by
  unfold lM at h;split at h
  .rename_i d c h1 h2
   cases h;obtain⟨b,r,f,j⟩:=ng S h2;obtain⟨v,e,g⟩:=S.val i d h1;refine⟨_,.cons g r,by simp[f],λm k l n o=>?_⟩
   grind
  .cases h
def zp(X:Cx)(κ:Str->Addr->Prop)(cm:List Addr)(Z0:Addr->Prop)(H0:Hp)(rest:List Stmt)(Q:Flow->Shared->Prop):fB->Prop
 |.nx ρ Ω=>∀σ H a Z b,b7 κ cm Z0 H0 a Z Ω ρ σ H->Inv X [] σ H b->wpAny (model X.prog X.w) X.A (execs rest X.env) Q X.xe b
 |.rt d Ω=>∀v u σ H a Z b,bD cm Z0 H0 a Z H->bc κ a Z Ω H->av a Z H d v->Inv X [] σ H b->RelV v u->Q (.ret u) b
 |_=>False
theorem uC{X:Cx}{f:Stmt->Option SM}{rest:List Stmt}{Q:Flow->Shared->Prop}(o:∀s c,f s=some c->gZ X κ gM s c):∀{k:List Stmt}{c:SM},bO f k=some c->∀{ρ:aK}{Ω:aA}{σ:L2.St}{H:Hp}{s:Shared}{e:List Addr}{Z:Addr->Prop},
  b7 κ cm Z0 H0 e Z Ω ρ σ H->Inv X [] σ H s->zp X κ cm Z0 H0 rest Q (c ρ Ω)->wpAny (model X.prog X.w) X.A (execs (k++rest) X.env) Q X.xe s
 |[],c,h,ρ,Ω,σ,H,s,e,Z,S,I,g=>by cases h;exact g σ H e Z s S I
 |st::k,c,h,ρ,Ω,σ,H,s,e,Z,S,I,g=>by
  obtain⟨a,b,h1,h2,rfl⟩:=bj h;have p:=o st a h1 cm Z0 H0 ρ Ω;refine wpAny_execs_cons ?_;cases q:a ρ Ω with
  |nx j i=>
   refine cu (p [] s σ H {nx:=λσ H=>∃e Z,b7 κ _ Z0 H0 e Z _ _ σ H,rt:=λ_ _=>False} I ⟨e,Z,S,by rw[q];exact λσ H e Z S=>⟨e,Z,S⟩⟩) λfl r z=>?_
   cases fl with
   |next=>obtain⟨l,t,m,n,y,B⟩:=z;exact uC o h2 B m (by
    have:ak a b ρ Ω=b j i:=by unfold ak;rw[q]
    rw[←this];exact g)
   |ret u=>obtain⟨_,_,_,_,_,z⟩:=z;exact z.elim
   |brk=>obtain⟨_,_,_,z⟩:=z;exact z.elim
   |cont=>obtain⟨_,_,_,z⟩:=z;exact z.elim
  |rt d i=>
   have C:zp X κ cm Z0 H0 rest Q (.rt d i):=by
    have:ak a b ρ Ω=.rt d i:=by unfold ak;rw[q]
    simp_all
   refine cu (p [] s σ H {nx:=λ_ _=>False,rt:=λv H=>∃e Z,bD _ Z0 H0 e Z H/\bc κ e Z _ H/\av e Z H d v} I ⟨e,Z,S,by rw[q];exact λv H e Z h1 h2 D=>⟨e,Z,h1,h2,D⟩⟩) λfl r z=>?_
   cases fl with
   |next=>obtain⟨_,_,_,z⟩:=z;exact z.elim
   |ret u=>obtain⟨v,l,t,m,E,n,y,F,G,J⟩:=z;exact C v u _ t _ y r F G J m E
   |brk=>obtain⟨_,_,_,z⟩:=z;exact z.elim
   |cont=>obtain⟨_,_,_,z⟩:=z;exact z.elim
  |bk j i=>unfold ak at g;rw[q]at g;exact g.elim
  |ct j i=>unfold ak at g;rw[q]at g;exact g.elim
  |exc x i=>unfold ak at g;rw[q]at g;exact g.elim
  |bad=>unfold ak at g;rw[q]at g;exact g.elim
end
section
variable{P:Program}{w:World}{K:PySem.W.Frag}{mg:Str->Option Value}{base:Heap}{T T2:aO}{k:Nat}
structure zq(qual:Str)(sc:Scope)(N:List Str)(d:pY)(i:Nat)(is:List Nat)(cl:Nat->List (Str×Addr)):Prop where
 slot:N[i]?=some d.name
 loc:sc.names.lookup d.name=some .local
 de:is.map (λm=>N[m]?)=d.cn.map some
 cell:∀y∈d.cn,sc.names.lookup y=some .cell
 nd:d.cn.Nodup
 qn:∀(L f c:Addr),qualnameIn (envOfC qual sc L f (.ref c)) d.name d.name=d.qual
 df:d.params.defaults=[]
 kd:d.params.kw_defaults=[]
 ann:∀env,annTrees d.params none env=[]
 clos:∀(L f c:Addr),closureFor d.scope (envOfC qual sc L f (.ref c))=pure (cl L)
 only:∀(L:Addr) y cc,(cl L).lookup y=some cc->y∈d.cn/\(cellsFrom (L+1) sc.names []).lookup y=some cc
 has:∀(L:Addr),∀y∈d.cn,∃cc,(cl L).lookup y=some cc
theorem CM{cm:List Addr}{D2:aA}(W:ba P w K mg base T k)(W2:ba P w K mg base T2 k){x qual x0:Str}{st:Stmt}{f c T0:Addr}{fd:FuncData}(F:tw K x qual st f fd)(q0:fd.code=.ref c){N td:List Str}(hs:bL N [x0] (af st)=true)
    {g0 h0:List Stmt}{d:pY}{pos:Pos} (hb:aT st=g0++.FunctionDef d.name d.params d.body [] none [] d.scope none d.name pos::h0) {c1 c2:SM} (h1:bO (fQ T td 60 (af st) N 30) g0=some c1) (h2:bO (fQ T2 td 60 (af st) N 30) h0=some c2)
    {i j:Nat}{L:List Nat}{cl:Nat->List (Str×Addr)} (hj:aw.tab j=d) (s0:T2.fz=d.cn) (A:zq qual (af st) N d i L cl) (hC:PySem.W.CodeHd base c T0) (hB:∃Pl,base.BuiltinsAt mg Pl) :
    bP P w K mg base dH (k+1) f fd [x0] (oO T0 cm D2 (zo N.length c1 i j L c2)):=by
  have Sc:=cQ hs;subst hj;refine F.Qv q0 Sc (λvs H Q E h=>?_) λAr outer s s1 H vs Q E hr h I=>?_
  · obtain⟨_,_,a,ns,I0,rfl,_⟩:=h;rfl
  obtain⟨hT,b0,a,ns,i0,rfl,t0,j0,hR,p,hQ⟩:=h;have S0:=j0 (bS mg);generalize O:(bF dH P w K mg base N qual (af st) f (.ref c) Ar outer s H E).fg=X at *
  have r0:aD (av cm (λb=>b=a) H) [.lst (ns.map D.int)] [.ref a]:=.one (by
    simp only[av];refine⟨a,ns.map V.int,rfl,rfl,hR,?_⟩;clear p hR S0 j0
    induction ns with
    |nil=>exact cy.mpr .nil
    |cons n ns ih=>exact cy.mpr (.cons (by simp only[av]) (cy.mp ih)))
  have l0:∀{α:List Addr}{Z:Addr->Prop}{H':Hp}{Ω:aA}{dd:D}{v:V},dd=.bl true->av α Z H' dd v->Q v H':=λ{α Z H' Ω dd v} e r=>by
    subst e;simp only[av]at r;subst r;exact hQ _
  have G:cV X (bS mg) T k (af st) N:=by
    subst O
    exact
      { scope:=rfl,names:=rfl,calm:=rfl,room:=hr,b8:=W.b8,own:=PassesOwn.never,Cc:=λ_ _ _=>.inl rfl,jT:=Sc.nd,kind:=Sc.kind,fg:=λ_ _ _ h=>h,fld:=W.fld,cst:=W.cst
        fP:=λx F h=>⟨W.fP x F h⟩,fn:=λx F h=>⟨W.fn x F h⟩,met:=λm C F h=>⟨W.met m C F h⟩,cls:=λC F h=>let ⟨j,h1,h2⟩:=W.cls C F h;⟨j,h1,⟨h2⟩⟩,clo:=W.clo }
  have G2:cV (X.fz ((aw.tab j).cn.reverse++[])) (bS mg) T2 k (af st) N:=by
    subst O
    exact
      { scope:=rfl,names:=rfl,calm:=rfl,room:=hr,b8:=W2.b8,own:=PassesOwn.never,jT:=Sc.nd,kind:=Sc.kind,fg:=λ_ _ _ h=>h,fld:=W2.fld,cst:=W2.cst
        Cc:=λy _ hy=>.inl (by
            show(true&&!(((aw.tab j).cn.reverse++[]).contains y))=true
            rw[s0]at hy;simpa using hy)
        fP:=λx F h=>⟨W2.fP x F h⟩,fn:=λx F h=>⟨W2.fn x F h⟩,met:=λm C F h=>⟨W2.met m C F h⟩,cls:=λC F h=>let ⟨j,h1,h2⟩:=W2.cls C F h;⟨j,h1,⟨h2⟩⟩,clo:=W2.clo }
  have eP:X.prog=P:=by subst O;rfl
  have ew:X.w=w:=by subst O;rfl
  have eA:X.A=Ar.deeper (envOfC qual (af st) s.heap.objs.size f (.ref c)):=by subst O;rfl
  have ee:X.env=envOfC qual (af st) s.heap.objs.size f (.ref c):=by subst O;rfl
  have eN:X.N=N:=by subst O;rfl
  have ex:X.xe=λ_ _=>False:=by subst O;rfl
  have eb:X.base=base:=by subst O;rfl
  have em:X.mg=mg:=by subst O;rfl
  have ef:∀y,X.fn y=true:=by subst O;exact λ_=>rfl
  rw[hb,←eP,←ew,←eA,←ee,←ex];unfold zo at p;refine uC (κ:=bS mg) (cm:=cm) (Z0:=λb=>b=a) (H0:=H) (λs c h=>gN G 30 60 s c h) h1 (dU S0 r0) I ?_
  cases q1:c1 (bu N.length [.lst (ns.map D.int)]) D2 with
  |bk q g=>unfold ak at p;rw[q1]at p;cases p
  |ct q g=>unfold ak at p;rw[q1]at p;cases p
  |exc x1 g=>unfold ak at p;rw[q1]at p;cases p
  |bad=>unfold ak at p;rw[q1]at p;cases p
  |rt dd g=>
    have hd:dd=.bl true:=by unfold ak at p;rw[q1]at p;cases p;rfl
    intro v u c0 H' u0 Z' s' g1 g2 g3 I' rv;exact⟨[],v,u,c0,H',.inl rfl,I'.yh,rv,l0 (Ω:=g) hd g3⟩
  |nx q g=>
    have p:dy (ak (qP i j L) c2 q g)=.ok (.bl true) i0:=by
      have:ak c1 (ak (qP i j L) c2) (bu N.length [.lst (ns.map D.int)]) D2=ak (qP i j L) c2 q g:=(λb=>by unfold ak;rw[q1]:∀b:SM,ak c1 b (bu N.length [.lst (ns.map D.int)]) D2=b q g) _
      rw[←this];exact p
    intro m0 H1 S Z1 s2 S1 I1;have n0:H1 T0=some (.mB #[]):=S1.gr.frm T0 _ hT b0
    have o0:T0∉S:=λz=>by
      rcases S1.gr.wK T0 z with z|z
      · exact b0 z
      · rw[hT]at z;cases z
    have v0:¬ Z1 T0:=λz=>by
      rcases S1.gr.new T0 z with z|z|⟨_,vs,z⟩
      · exact t0 z.symm
      · rw[hT]at z;cases z
      · rw[hT]at z;cases z
    cases q2:lM q L with
    |none=>unfold ak qP at p;rw[q2]at p;cases p
    |some ds=>
      have p:dy (c2 (q.set i (some (.ref g.length))) (g++[.fn j ds]))=.ok (.bl true) i0:=by
        have:ak (qP i j L) c2 q g=c2 (q.set i (some (.ref g.length))) (g++[.fn j ds]):=by unfold ak qP;rw[q2]
        rw[←this];exact p
      obtain⟨cv,rc,lc,gc⟩:=ng S1 q2;have J0:L.length=(aw.tab j).cn.length:=by simpa using congrArg List.length A.de
      have w0:∀(m:Nat) (y:Str),(aw.tab j).cn[m]?=some y->∃mi v,L[m]?=some mi/\N[mi]?=some y/\cv[m]?=some v/\m0[mi]?=some (some v)/\mi≠i:=λm y hm=>by
        have e0:m<(aw.tab j).cn.length:=(List.getElem?_eq_some_iff.mp hm).1;have M:L[m]?=some L[m]:=List.getElem?_eq_getElem (by omega)
        have B:=congrArg (λl=>l[m]?) A.de
        simp only[List.getElem?_map,M,hm,Option.map_some]at B;have B:N[L[m]]?=some y:=Option.some.inj B;have e3:cv[m]?=some cv[m]:=List.getElem?_eq_getElem (by omega)
        refine⟨_,_,M,B,e3,gc m _ _ M e3,λz=>?_⟩
        rw[z,A.slot]at B;have:=A.cell y (List.mem_of_getElem? hm);rw[←Option.some.inj B,A.loc]at this;cases this
      refine wpAny_execs_cons (Bs (qual:=(aw.tab j).qual) (i:=i) (cl:=cl s.heap.objs.size) I1 n0 trivial rfl (by rw[ee];rfl) (by rw[eb];exact hC) (by rw[eb,em];exact hB) (by rw[ee];exact A.qn _ _ _) A.df A.kd (A.ann _) (by rw[ee];exact A.clos _ _ _) (by rw[eN];exact Sc.nd) (by rw[eN];exact A.slot) (by rw[ee];exact A.loc) ?_)
      intro fn c' oc y0 pm z0 A0 t s3 n1 n2 C0 K0 L0 _ _ D0 hv I3
      have cells:∀(m:Nat) (y:Str),(aw.tab j).cn[m]?=some y->∃U o J v,X.env.cells.lookup y=some U/\s3.heap.get? U=some o/\o.data=.cell (some J)/\cv[m]?=some v/\RelV v J:=λm y hm=>by
        obtain⟨mi,v,M,B,e3,e4,ne⟩:=w0 m y hm;obtain⟨mm,_,hl⟩:=I3.loc;have hc:=A.cell y (List.mem_of_getElem? hm);obtain⟨u,rv,lk⟩:=hl mi y v (by rw[eN];exact B) (by rw[List.getElem?_set_ne (Ne.symm ne)];exact e4) (.inr (.inl (by rw[ee];exact hc)))
        rcases lk with ⟨lk,_⟩|⟨_,U,h3,o,h4,h5⟩
        · rw[ee]at lk
          have lk:(af st).names.lookup y=some (.local):=lk;rw[hc]at lk;cases lk
        · exact⟨U,o,u,v,h3,h4,h5,e3,rv⟩
      obtain⟨H4,I4,k4,z4⟩:=m_ (aw.tab j).cn [] _ I3.yh A.nd λy hy=>by
        obtain⟨m,hm⟩:=List.mem_iff_getElem?.mp hy;obtain⟨U,o,J,v,Y,q4,q5,_⟩:=cells m y hm;exact⟨ef y,by simp,U,o,J,Y,q4,q5⟩
      have keep:∀b o,H1 b=some o->b≠T0->H4 b=some o:=λb o e hb=>k4 b o (by
        unfold eJ;rw[ao (aP e n2),ao (aP e n1),ao hb];exact e)
      obtain⟨S4,rp⟩:=S1.st.made (c:=.fn j ds) n0 v0 o0 keep n2 λR hR=>by
        refine⟨c',cl s.heap.objs.size,cv,⟨⟨y0,pm,z0,_,k4 _ _ Bq⟩,oc,_,A0,t,k4 _ _ (Br C0),D0,hv⟩,⟨by omega,λm y v M B=>?_,λy U e=>(A.only _ _ _ e).1,λy z U M B=>?_⟩,rc.imp hR⟩
        · obtain⟨U,o,J,v',Y,q4,q5,q6,q7⟩:=cells m y M
          rw[B]at q6;cases q6
          obtain⟨c3,p0⟩:=A.has s.heap.objs.size y (List.mem_of_getElem? M);have q8:=(A.only _ _ _ p0).2;have a0:=Y;rw[ee]at a0;have a0:(cellsFrom (s.heap.objs.size+1) (af st).names []).lookup y=some U:=a0;rw[q8]at a0;cases a0
          exact⟨_,o,_,J,p0,z4 y (List.mem_of_getElem? M) _ o Y q4,q5,q7⟩
        · have o1:=(A.only _ _ _ M).2
          have o2:=(A.only _ _ _ B).2;exact I1.ok.inj y z U (by rw[ee];exact o1) (by rw[ee];exact o2)
      have R4:=cX (λs c h=>gN (Φ:=gM) G2 30 60 s c h) h2 (S++[fn]) Z1 H4 (q.set i (some (.ref g.length))) (g++[.fn j ds])
      have G0:=S1.st.len
      have S5:b7 (bS mg) (S++[fn]) Z1 H4 (S++[fn]) Z1 (g++[.fn j ds]) (q.set i (some (.ref g.length))) (m0.set i (some (.ref fn))) H4:=by
        refine⟨S4,bD.refl S4.has,by simp[S1.len],λn dd e=>?_⟩
        by_cases f0:n=i
        · subst f0
          have e0:n<q.length:=by
            have:=(List.getElem?_eq_some_iff.mp e).1;simpa using this
          rw[List.getElem?_set_self e0]at e;cases e;refine⟨.ref fn,List.getElem?_set_self (by rw[S1.len];exact e0),?_⟩
          simp only[av];exact⟨fn,by rw[←G0];simp,rfl⟩
        · rw[List.getElem?_set_ne (Ne.symm f0)]at e
          obtain⟨v,M,B⟩:=S1.val n dd e;exact⟨v,by rw[List.getElem?_set_ne (Ne.symm f0)];exact M,rp _ _ B⟩
      refine cu (R4 [] s3 _ H4 {nx:=λ_ _=>False,rt:=λv H'=>Q v H' } I4 ⟨S++[fn],Z1,S5,?_⟩) λfl s' z=>?_
      · cases Y:c2 (q.set i (some (.ref g.length))) (g++[.fn j ds])with
        |rt dd M0=>rw[Y]at p;cases p;exact λv H' u0 Z' _ _ r=>l0 (Ω:=[]) rfl r
        |nx _ _=>rw[Y]at p;cases p
        |bk _ _=>rw[Y]at p;cases p
        |ct _ _=>rw[Y]at p;cases p
        |exc _ _=>rw[Y]at p;cases p
        |bad=>rw[Y]at p;cases p
      · cases fl with
        |next=>obtain⟨_,_,_,z⟩:=z;exact z.elim
        |ret u=>obtain⟨v,c0,H',I',rv,z⟩:=z;exact⟨_,v,u,c0,H',.inl rfl,I',rv,z⟩
        |brk=>obtain⟨_,_,_,z⟩:=z;exact z.elim
        |cont=>obtain⟨_,_,_,z⟩:=z;exact z.elim
end
noncomputable def zr(a:List Str)(b:Scope)(L:Nat):List (Str×Addr):=a.reverse.filterMap λy=>((cellsFrom (L+1) b.names []).lookup y).map λc=>(y,c)
theorem v9{a:List Str}{b:Scope}{L:Addr}{y:Str}{d:Addr}(h:(zr a b L).lookup y=some d):y∈a/\(cellsFrom (L+1) b.names []).lookup y=some d:=by
 obtain⟨z,f,e⟩:=List.mem_filterMap.mp (PySem.mem_of_lookup h);obtain⟨c,g,i⟩:=Option.map_eq_some_iff.mp e
 grind
theorem zt{l:List (Str×Addr)}{y:Str}{c:Addr}(h:(y,c)∈l):∃a,l.lookup y=some a:=by
 induction l with
 |nil=>cases h
 |cons p r b=>
  obtain⟨z,k⟩:=p;rw[List.lookup_cons];cases e:y==z with
  |true=>simp
  |false=>
   grind
theorem zu{a:List Str}{b:Scope}(d:∀y∈a,b.names.lookup y=some .cell)(L:Addr){y:Str}(h:y∈a):∃f,(zr a b L).lookup y=some f:=by
 obtain⟨c,e⟩:=kC (d y h);refine zt (c:=c) (List.mem_filterMap.mpr ⟨y,by grind,?_⟩)
 rw[e];rfl
noncomputable def zv(a:Scope)(N:List Str)(d:pY)(i:Nat)(b:List Nat):Bool:=
 N[i]?==some d.name&&a.names.lookup d.name==some .local&&b.map (λm=>N[m]?)==d.cn.map some&&d.cn.all (λy=>a.names.lookup y==some .cell)&&decide d.cn.Nodup&&d.params.defaults.isEmpty&&d.params.kw_defaults.isEmpty
theorem zw{qual:Str}{a:Scope}{N:List Str}{d:pY}{i:Nat}{g:List Nat}(h:zv a N d i g=true)(k:∀(L f c:Addr),qualnameIn (envOfC qual a L f (.ref c)) d.name d.name=d.qual)(b:∀env,annTrees d.params none env=[])
  (clos:∀(L f c:Addr),closureFor d.scope (envOfC qual a L f (.ref c))=pure (zr d.cn a L)):zq qual a N d i g (zr d.cn a):=by
 simp only[zv,Bool.and_eq_true,beq_iff_eq,List.all_eq_true,decide_eq_true_eq,List.isEmpty_iff]at h;obtain⟨⟨⟨⟨⟨⟨l,m⟩,n⟩,j⟩,o⟩,p⟩,q⟩:=h;exact⟨l,m,n,j,o,k,p,q,b,clos,λL y s e=>v9 e,λL y r=>zu j L r⟩
noncomputable def FX:Stmt->Pos
 |.FunctionDef _ _ _ _ _ _ _ _ _ p=>p
 |_=>⟨0,0,0,0⟩
section
variable{P:Program}{w:World}{K:PySem.W.Frag}{mg:Str->Option Value}{base:Heap}{T:aO}{k:Nat}
theorem ba.FY(W:ba P w K mg base T k)(fz:List Str):ba P w K mg base {T with fz:=fz} k:=⟨W.b8,W.fP,W.fn,W.cst,W.met,W.cls,W.fld,W.clo⟩
theorem CN{K:PySem.W.Frag}(b:pT K=true){a:Addr}{o:Obj}(h:K.lookup a=some o):o.cls≠.type "list":=λz=>by
 have:=List.all_eq_true.mp b _ (pU h);rw[z]at this;exact absurd this (by decide)
end
end Mir
namespace Mir
open PySem L2
noncomputable def jX(σ:Str->Int):List Str->List Str->D
 |[],a=>.tup [.tup (a.map .str),.non,.int 0]
 |x::r,a=>if σ x=0 then jX σ r (a++[x])else .tup [.tup (a.map .str),.str x,.int (σ x)]
theorem zy{σ:Str->Int}{x:Str}:∀{line a:List Str}{i:Nat},(∀y∈line.take i,σ y=0)->line[i]?=some x->σ x≠0->jX σ line a=.tup [.tup ((a++line.take i).map .str),.str x,.int (σ x)]
 |[],a,i,_,h,_=>by simp at h
 |y::r,a,0,_,h,b=>by
  simp at h;subst h;simp[jX,b]
 |y::r,a,i+1,c,h,b=>by
  rw[jX,if_pos (c y (by simp)),zy (i:=i) (λz d=>c z (by simp[d])) (by grind) b]
  simp
theorem uD{σ:Str->Int}:∀{line a:List Str},(∀y∈line,σ y=0)->jX σ line a=.tup [.tup ((a++line).map .str),.non,.int 0]
 |[],a,_=>by simp[jX]
 |y::r,a,h=>by
  rw[jX,if_pos (h y (by simp)),uD λz b=>h z (by simp[b])]
  simp
variable [aw]
section
variable{Ω au:aA}{ρ:aK}{σ:Str->Int}{t kl:Nat}{kvs:List (List Key×D)}{line:List Str}{w x:Str}
theorem CO{ds:List D}{n:Nat}:cj ds none (some (n:Int))=ds.take n:=oF ds n
theorem zz{n:Nat}(h:Ω[kl]?=some (.lst (line.map .str))):jq (.ref kl) none (some (n:Int)) Ω=.ok (.ref Ω.length) (Ω++[.lst ((line.take n).map .str)]):=by
 simp only[jq,ay h,iQ,CO,List.map_take]
def sF(kvs:List (List Key×D))(w:Str)(line:List Str)(σ:Str->Int):Prop:=∀x∈line,0<=σ x/\σ x<=2/\bQ kvs (AI x w)=some (.int (σ x))
theorem qQ{M:List (List D->aX)}{i a j:Nat}{de:List D}{as:AM}(c:ρ[i]?=some (some (.ref a)))(d:isFn Ω a=true):eo M i as ρ Ω=(as ρ Ω).bind λxs b=>GX M a xs b:=by
 unfold eo
 grind
theorem uE{a j:Nat}{de:List D}(h:Ω[a]?=some (.fn j de)):isFn Ω a=true:=by simp only[isFn,h]
theorem zA{M:List (List D->aX)}{a j:Nat}{de xs:List D}{F:List D->aX}(h:Ω[a]?=some (.fn j de))(b:M[j]?=some F):GX M a xs Ω=Ig (F de xs Ω):=by
 simp only[GX,h,b,zc]
structure Asks(M:List (List D->aX))(fn:Nat)(w:Str)(σ:Str->Int)(line:List Str)(fp:List Nat)(b:Nat)(I:List Str->aA->Prop):Prop where
 stay:∀ys Ω au fq,I ys Ω->ag fq Ω au->(∀j∈fq,b<=j)->I ys au
 call:∀ys Ω x,x∈line->ys.length<=900->I ys Ω->isFn Ω fn=true/\∃au,GX M fn [.str x,.str w] Ω=.ok (.int (σ x)) au/\I (ys++[x]) au/\ag fp Ω au
 low:∀j∈fp,j<b
noncomputable def qR(σ:Str->Int):List Str->List Str
 |[]=>[]
 |x::r=>if σ x=0 then x::qR σ r else [x]
theorem zB{x:Str}:∀{line:List Str}{i:Nat},(∀y∈line.take i,σ y=0)->line[i]?=some x->σ x≠0->qR σ line=line.take i++[x]
 |[],i,_,h,_=>by simp at h
 |y::r,0,_,h,a=>by
  simp at h;subst h;simp[qR,a]
 |y::r,i+1,b,h,a=>by
  rw[qR,if_pos (by grind),zB (i:=i) (λz c=>b z (by simp[c])) (by grind) a]
  simp
theorem uF:∀{line:List Str},(∀y∈line,σ y=0)->qR σ line=line
 |[],_=>rfl
 |y::r,h=>by rw[qR,if_pos (h y (by simp)),uF (by grind)]
def oB(M:List (List D->aX)):SM:=(ak (aE 5 (eo M 2 (ae (aa 4) (ae (aa 1) aj))))
 (ak (eU (m2 (aQ .NotEq) (aa 5) (ai (.int 0)))
 (ak (cf (mN f7 (ae (mN (bG .tuple) (ae (aa 3) aj)) (ae (aa 4) (ae (aa 5) aj)))))
 aq)
 aq)
 (ak (eg (cB gY bH (aa 3) (ae (aa 4) aj)))
 aq)))
def jv(M:List (List D->aX)):SM:=
 (ak (aE 3 (mN cD aj))
 (ak (dM (bN 4) (bg (aa 0)) (oB M))
 (ak (cf (mN f7 (ae (mN (bG .tuple) (ae (aa 3) aj)) (ae (ai .non) (ae (ai (.int 0)) aj)))))
 aq)))
theorem zC{M:List (List D->aX)}{g b:Nat}{fp:List Nat}{I:List Str->aA->Prop}{ys:List Str}(A:Asks M g w σ line fp b I)(U:Ω[kl]?=some (.lst (line.map .str)))(Z:I ys Ω)(hb:b<=Ω.length)(hk:kl∉fp)(bl:ys.length+line.length<=900) :
  ∃au,bA 6 3 (jv M) [.ref kl,.str w,.ref g] Ω=.ok (jX σ line []) au/\I (ys++qR σ line) au/\ag fp Ω au:=by
 rw[cp (by rfl)]
 have e0:bu 6 [D.ref kl,.str w,.ref g]=[some (.ref kl),some (.str w),some (.ref g),none,none,none]:=rfl;rw[e0];have g0:(Ω++[Cell.lst []])[Ω.length]?=some (.lst []):=az;have J:ag [] Ω (Ω++[Cell.lst []]):=ag.app;have r1:(aE 3 (mN cD aj)) [some (.ref kl),some (.str w),some (.ref g),none,none,none] Ω=.nx [some (.ref kl),some (.str w),some (.ref g),some (.ref Ω.length),none,none] (Ω++[Cell.lst []]):=by simp[aI]
 have N:=A.stay ys _ _ [] Z J (by simp)
 have a0:=bp U;generalize Ω++[Cell.lst []]=l at *;generalize hq:Ω.length=q at *;have C:=J.get _ _ U (by simp)
 have O:bg (aa 0) [some (.ref kl),some (.str w),some (.ref g),some (.ref q),none,none] l=.ok (.seq (.ref kl)) l:=by
  simp[aV (x:=.ref kl) (by rw[aF,ay C])]
 unfold jv;rw[ah,r1,aJ,ah,bZ,O,c_]
 have E:∀{a:aA},ag (q::fp) l a->ag fp Ω a:=λ{a} K=>⟨Nat.le_trans J.len K.len,λk c e n=>K.get k c (J.get k c e (by simp)) λz=>by
  rcases List.mem_cons.mp z with z|z
  .have:=bp e;omega
  .exact n z⟩
 refine bo (R:=λr=>∃au,dy (sq r _)=.ok (jX σ line []) au/\I (ys++qR σ line) au/\ag fp Ω au) (ds:=line.map .str)
  (λi L a=>∃P u,L=[some (.ref kl),some (.str w),some (.ref g),some (.ref q),P,u]/\(∀y∈line.take i,σ y=0)/\a[q]?=some (.lst ((line.take i).map .str))/\I (ys++line.take i) a/\ag (q::fp) l a) ?_ ?_ ?_ fuel 0 _ _ (by unfold fuel;simp;omega) (Nat.zero_le _) ⟨none,none,rfl,by simp,by simpa using g0,by simpa using N,ag.refl⟩
 .rintro i L a ⟨_,_,_,_,_,_,K⟩
  rw[bY,aF,ay (K.get _ _ C (by simp[hk];omega))]
 .rintro i d L a hd ⟨P,u,rfl,s,m,o,K⟩
  obtain⟨x,B,rfl⟩:=dg hd;have b0:i<line.length:=(List.getElem?_eq_some_iff.mp B).1;refine⟨_,rfl,?_⟩
  show lH (oB M [some (.ref kl),some (.str w),some (.ref g),some (.ref q),some (.str x),u] a) _ _
  obtain⟨hf,f,hc,F,V⟩:=A.call _ a x (List.mem_of_getElem? B) (by simp;omega) o
  have Q:eo M 2 (ae (aa 4) (ae (aa 1) aj)) [some (.ref kl),some (.str w),some (.ref g),some (.ref q),some (.str x),u] a=.ok (.int (σ x)) f:=by
   rw[qQ (j:=0) (de:=[]) rfl hf];simp[hc]
  have r5:(aE 5 (eo M 2 (ae (aa 4) (ae (aa 1) aj)))) [some (.ref kl),some (.str w),some (.ref g),some (.ref q),some (.str x),u] a=.nx [some (.ref kl),some (.str w),some (.ref g),some (.ref q),some (.str x),some (.int (σ x))] f:=by
   rw[gQ,Q];rfl
  have S:q∉fp:=λz=>by have:=A.low q z;omega
  have p:=V.get _ _ m S;have G:ag (q::fp) l f:=K.trans (V.sub λk h=>List.mem_cons_of_mem _ h)
  unfold oB;rw[ah,r5,aJ]
  by_cases H:σ x=0
  .have T:=dW (d:=.str x) p (by simp;omega)
   have X:cB gY bH (aa 3) (ae (aa 4) aj) [some (.ref kl),some (.str w),some (.ref g),some (.ref q),some (.str x),some (.int (σ x))] f=.ok .non (f.set q (.lst ((line.take i).map .str++[.str x]))):=by
    rw[fc (x:=.ref q) (au:=f) (by simp) (dB p)]
    simp[T,-List.map_take]
   have e:(ak (eU (m2 (aQ .NotEq) (aa 5) (ai (.int 0))) (ak (cf (mN f7 (ae (mN (bG .tuple) (ae (aa 3) aj)) (ae (aa 4) (ae (aa 5) aj))))) aq) aq) (ak (eg (cB gY bH (aa 3) (ae (aa 4) aj))) aq)) [some (.ref kl),some (.str w),some (.ref g),some (.ref q),some (.str x),some (.int (σ x))] f=.nx [some (.ref kl),some (.str w),some (.ref g),some (.ref q),some (.str x),some (.int (σ x))] (f.set q (.lst ((line.take i).map .str++[.str x]))):=by
    rw[H]at X ⊢;simp[X,-List.map_take]
   rw[e];have Y:line.take (i+1)=line.take i++[x]:=by rw[List.take_succ,B];rfl
   refine⟨_,_,rfl,λy hy=>?_,?_,?_,G.trans (ag.set (by simp))⟩
   .rcases lL B hy with h|rfl
    .exact s y h
    .exact H
   .rw[Y,List.map_append];exact aZ p
   .rw[Y,←List.append_assoc]
    exact A.stay _ _ _ [q] F (ag.set (by simp)) (by simpa using hb)
  .have t:=m8 p
   have e:(ak (eU (m2 (aQ .NotEq) (aa 5) (ai (.int 0))) (ak (cf (mN f7 (ae (mN (bG .tuple) (ae (aa 3) aj)) (ae (aa 4) (ae (aa 5) aj))))) aq) aq) (ak (eg (cB gY bH (aa 3) (ae (aa 4) aj))) aq)) [some (.ref kl),some (.str w),some (.ref g),some (.ref q),some (.str x),some (.int (σ x))] f=.rt (.tup [.tup ((line.take i).map .str),.str x,.int (σ x)]) f:=by
    simp[H,t,aI,-List.map_take]
   rw[e];refine⟨f,?_,?_,E G⟩
   .rw[IV,CF,zy s B H];rfl
   .rw[zB s B H,←List.append_assoc];exact F
 .rintro L a ⟨P,u,rfl,s,m,o,K⟩
  rw[List.length_map]at s m o;rw[List.take_length]at s m o;have t:=m8 m;refine⟨a,?_,by rw[uF s];exact o,E K⟩
  rw[aJ,uD s];simp[t,aI]
@[simp] theorem LG{a:Ty}{ds:List D}:gX a (.tup ds) Ω=.ok (.bl (a==.tuple)) Ω:=rfl
@[simp] theorem LH{a:Ty}{z:Str}:gX a (.str z) Ω=.ok (.bl (a==.str)) Ω:=rfl
@[simp] theorem LI{a:Ty}:gX a .non Ω=.ok (.bl false) Ω:=rfl
@[simp] theorem Jm{ds:List D}:bG .len [.tup ds] Ω=.ok (.int ds.length) Ω:=rfl
end
section
variable{Ω au:aA}{ρ:aK}
theorem FZ{nc:Bool}{mc me:EM}{c:aK}{src:Src}{ds:List D}{p:D->Bool}{g:D->D}(I:Nat->aA->Prop)(m:∀i Ω,I i Ω->fA src Ω=some ds)
  (n:∀i d Ω,ds[i]?=some d->I i Ω->∃au,jV nc mc ([some d]++c) Ω=.ok (p d) au/\I (i+1) au/\(p d=true->me ([some d]++c) au=.ok (g d) au)) :
  ∀(f i:Nat) (a:List D) (Ω:aA),ds.length - i<f->i<=ds.length->a.length+ds.length<=100000+i->I i Ω->∃au,t9 nc mc me 0 c src f i a Ω=.ok (a++((ds.drop i).filter p).map g) au/\I ds.length au:=by
 intro f
 induction f with
 |zero=>simp
 |succ f h=>
  intro i a Ω u w x j;simp only[t9,m i Ω j]
  by_cases b:i<ds.length
  .have k:=List.getElem?_eq_getElem b
   rw[k];have o:ou 0 ds[i]=some _:=rfl;simp only[o];obtain⟨q,r,l,y⟩:=n i _ Ω k j;rw[if_pos (aI (by omega)),r,List.drop_eq_getElem_cons b]
   cases z:p _ with
   |true=>
    obtain⟨e,s,t⟩:=h _ (a++[g ds[i]]) _ (by omega) b (by grind) l
    grind
   |false=>
    obtain⟨e,s,t⟩:=h _ a _ (by omega) b (by omega) l
    grind
  grind
theorem CP{me mc:EM}{nc:Bool}{mi:IM}{cap:List Nat}{src:Src}{ds:List D}{p:D->Bool}{g:D->D}(I:Nat->aA->Prop)(b:mi ρ Ω=.ok src au)(c:∀i Ω,I i Ω->fA src Ω=some ds)
  (f:∀i d Ω,ds[i]?=some d->I i Ω->∃au,jV nc mc ([some d]++eT cap ρ) Ω=.ok (p d) au/\I (i+1) au/\(p d=true->me ([some d]++eT cap ρ) au=.ok (g d) au)) (k:ds.length<=90000) (j:I 0 au) :
  ∃a,cM me nc mc mi 0 cap ρ Ω=.ok (.ref a.length) (a++[.lst ((ds.filter p).map g)])/\I ds.length a:=by
 unfold cM;rw[b];dsimp only;obtain⟨a,e,h⟩:=FZ I c f fuel 0 [] _ (by unfold fuel;omega) (Nat.zero_le _) (by simp;omega) j
 refine⟨_,?_,h⟩;rw[e];rfl
end
section
variable{Ω au:aA}{ρ:aK}{σ:Str->Int}{kl fn b:Nat}{line ys:List Str}{w:Str}{M:List (List D->aX)}{fp:List Nat}{I:List Str->aA->Prop}
def di(M:List (List D->aX)):SM:=
 (ak (cf (cM (aa 0) false (m2 (aQ .NotEq) (eo M 1 (ae (aa 0) (ae (aa 2) aj))) (ai (.int 0))) (bg (aa 0)) 0 [2,1]))
 aq)
theorem CQ{k j:Nat}{us vs:List Str}(h:Ω[k]?=some (.lst (us.map .str)))(a:Ω[j]?=some (.lst (vs.map .str))):aQ .Eq (.ref k) (.ref j) Ω=.ok (.bl (decide (us=vs))) Ω:=by
 rw[uu,oJ,ej h,ej a]
 simp_all
theorem CS{k j:Nat}{us vs:List Str}(h:Ω[k]?=some (.lst (us.map .str)))(a:Ω[j]?=some (.lst (vs.map .str))):aQ .NotEq (.ref k) (.ref j) Ω=.ok (.bl (!decide (us=vs))) Ω:=by
 rw[CB,oJ,ej h,ej a]
 simp_all
def wB(M:List (List D->aX)):SM:=(ak (eU (Fq (m2 (aQ .NotEq) (dJ (aa 0) false (aa 5) false (m2 (aN .Add) (aa 5) (ai (.int 1)))) (mN cD (ae (aa 6) aj))) (m2 (aQ .NotEq) (eo M 2 (ae (aa 6) (ae (aa 1) aj))) (ai (.int 0))))
 (ak (cf (aa 5))
 aq)
 aq)
 aq)
theorem zD{i:Nat}{us:List Str}(h:Ω[kl]?=some (.lst (us.map .str))):jq (.ref kl) (some (i:Int)) none Ω=.ok (.ref Ω.length) (Ω++[.lst ((us.drop i).map .str)]):=by
 simp only[jq,ay h,iQ,su,List.map_drop]
end
section
variable{Ω au:aA}{ρ:aK}{k:Nat}{js:List Nat}{rs:List (List Str)}{row:List Str}{n:Str}
theorem mj.snoc{j:Nat}(h:mj Ω js rs)(a:Ω[j]?=some (.lst (row.map .str))):mj Ω (js++[j]) (rs++[row]):=aD.append h (.cons a .nil)
theorem eE{ds:List D}(h:Ω[k]?=some (.lst ds)):bG .list [.ref k] Ω=.ok (.ref Ω.length) (Ω++[.lst ds]):=by
 show qk [.ref k] Ω=_
 simp only[qk,aF,ay h];rfl
theorem qS{me mc:EM}{mi:IM}{cap:List Nat}{f:List Str->List Str}{P:Nat->Prop}(t:mi ρ Ω=.ok (.seq (.ref k)) Ω)(R:Rw Ω k js rs)(C:rs.length<=1000)
  (u:∀j g c,ag [] Ω c->j∈js->g∈rs->c[j]?=some (.lst (g.map .str))->∃m a,me ([some (.ref j)]++eT cap ρ) c=.ok (.ref m) a/\ag [] c a/\a[m]?=some (.lst ((f g).map .str))/\P m) :
  ∃b a,cM me true mc mi 0 cap ρ Ω=.ok (.ref a.length) (a++[.lst (b.map .ref)])/\ag [] Ω a/\mj a b (rs.map f)/\∀j∈b,P j:=by
 have w:=R.len
 obtain⟨D,a,e,b,rfl,o,y,p⟩:=uB (λi l a=>∃b,l=b.map .ref/\mj a b ((rs.take i).map f)/\ag [] Ω a/\∀j∈b,P j) t ⟨[],rfl,.nil,ag.refl,by simp⟩
  (λi l a h=>by
   obtain⟨_,_,_,K,_⟩:=h;rw[bY,aF,ay (R.keep K).ce])
  (λi d l c z h=>by
   obtain⟨b,rfl,o,K,p⟩:=h;obtain⟨j,q,rfl⟩:=sD z;obtain⟨g,r,n⟩:=(R.keep K).al.at' q;obtain⟨m,a,e,s,A,E⟩:=u j g c K (List.mem_of_getElem? q) (List.mem_of_getElem? r) n;refine⟨.ref m,a,e,b++[m],by simp,?_,K.trans s,?_⟩
   .rw[List.take_succ,r,List.map_append]
    exact(o.keep s (by simp)).snoc A
   .intro x B
    rcases List.mem_append.mp B with h|h
    .exact p x h
    simp_all) (by simp;omega)
 refine⟨b,a,e,y,?_,p⟩;rwa[List.length_map,←w,List.take_length]at o
def uG(i:Nat):EM:=cM (mN (bG .list) (ae (aa 0) aj)) true (ai .non) (bg (aa i)) 0 []
theorem uH{i:Nat}(l:ρ[i]?=some (some (.ref k)))(R:Rw Ω k js rs)(m:rs.length<=1000):∃a b au,uG i ρ Ω=.ok (.ref b) au/\ag [] Ω au/\Rw au b a rs/\(∀j∈a,Ω.length<=j)/\Ω.length<=b/\b∉a:=by
 have c:bg (aa i) ρ Ω=.ok (.seq (.ref k)) Ω:=by
  rw[cg,Cr,l,Cq];exact aV (by rw[aF,ay R.ce])
 obtain⟨a,n,e,K,d,o⟩:=qS (me:=mN (bG .list) (ae (aa 0) aj)) c R m (λj f g K _ _ h=>by
  refine⟨_,g++[.lst (f.map _)],?_,ag.app,az,K.len⟩;have:=eE h
  simp_all)
 rw[List.map_id']at d;refine⟨_,_,_,e,K.trans ag.app,⟨az,d.keep (fp:=[]) ag.app (by simp)⟩,o,K.len,λh=>?_⟩
 have:=d.lt _ h;omega
def stC:EM:=(GW (m2 (aQ .Eq) (dJ (aa 0) true (ai .non) false (ai (.int 1))) (mN cD (ae (aa 1) aj))) (dJ (aa 0) false (ai (.int 1)) true (ai .non)) (aa 0))
theorem F2{j:Nat}(h:Ω[j]?=some (.lst (row.map .str))):jq (.ref j) none (some 1) Ω=.ok (.ref Ω.length) (Ω++[.lst ((row.take 1).map .str)]):=zz h
theorem F4{j:Nat}(h:Ω[j]?=some (.lst (row.map .str))):∃c au,stC [some (.ref j),some (.str n)] Ω=.ok (.ref c) au/\ag [] Ω au/\au[c]?=some (.lst ((cZ n row).map .str))/\(c=j\/Ω.length<=c):=by
 have g:=F2 h;have i:(Ω++[Cell.lst ((row.take 1).map .str)])[Ω.length]?=some _:=az;have f:ag [] Ω (Ω++[Cell.lst ((row.take 1).map .str)]):=ag.app;generalize Ω++[Cell.lst _]=a at *;have k:(a++[Cell.lst [.str n]])[a.length]?=some (.lst ([n].map .str)):=az;have d:ag [] a (a++[Cell.lst [.str n]]):=ag.app;have l:=d.get _ _ (f.get _ _ h (by simp)) (by simp)
 have e:=CQ (d.get _ _ i (by simp)) k
 have m:(m2 (aQ .Eq) (dJ (aa 0) true (ai .non) false (ai (.int 1))) (mN cD (ae (aa 1) aj))) [some (.ref j),some (.str n)] Ω=.ok (.bl (decide (row.take 1=[n]))) (a++[Cell.lst [.str n]]):=by
  simp[g,aI,e,-uu]
 generalize a++[Cell.lst [.str n]]=b at *;have K:=f.trans d;unfold stC;rw[FI,m,gO,ki,iR,bU]
 by_cases e:row.take 1=[n]
 .rw[if_pos (by simp_all)]
  refine⟨b.length,b++[.lst (row.tail.map .str)],?_,K.trans ag.app,?_,.inr K.len⟩
  .simp[(zk l)]
  .unfold cZ;rw[if_pos e];exact az
 .rw[if_neg (by simp_all)]
  refine⟨j,b,by simp,K,?_,.inl rfl⟩
  unfold cZ;simp_all
def FnAt(d:aX):Prop:=∀b k e c,Rw b k e c->c.length<=1000->∃a,d [.ref k] b=.ok (y8 (free c)) a/\ag [] b a
theorem Jn:FnAt (bA 2 1 (CK (bA 4 2 qO))):=λ_ _ _ _ R a=>FV R a
def tM:EM:=(mN (bG .any) (ae (aa 1) aj))
def stM:EM:=(cM stC true (ai .non) (bg (aa 1)) 0 [3])
def bM(st:SM)(a:aX):SM:=(ak (aE 3 (mN (aS a) (ae (aa 1) aj)))
 (ak (eU (m2 (aQ .Is) (aa 3) (ai .non))
 (ak st
 aq)
 aq)
 (ak (eg (cB gY bH (aa 2) (ae (aa 3) aj)))
 (ak (aE 1 stM)
 aq))))
def qT(st:SM)(a:aX):SM:=
 (ak (aE 1 (uG 0))
 (ak (aE 2 (mN cD aj))
 (ak (lg tM (bM st a))
 (ak (cf (aa 2))
 aq))))
theorem kv(R:Rw Ω k js rs):bG .any [.ref k] Ω=.ok (.bl ((rs.map λr=>!r.isEmpty).any id)) Ω:=by
 show r9 _ _ Ω=_
 unfold r9;rw[um];have h:=zf (n:=6) R.ce R.al;have:bC (fN Ω 8) [.ref k]=some [LL rs]:=by simp[h]
 rw[this,uk];have:vF .any [LL rs]=.ok (false,.bl ((rs.map λr=>!r.isEmpty).any id)):=by simp[LL,any_rows,-List.any_map]
 simp_all
theorem D3{st:SM}{m:aX}(I:FnAt m){R0:D}{q:Nat}{a3:Option D}{b:List Str}(R:Rw Ω k js rs)(E:rs.length<=1000)(J:free rs=some n)(L:Ω[q]?=some (.lst (b.map .str)))(o:q≠k)(l:q∉js)(hp:b.length<=900) :
  ∃p c au,bM st m [some R0,some (.ref k),some (.ref q),a3] Ω=.nx [some R0,some (.ref p),some (.ref q),some (.str n)] au/\Rw au p c (rs.map (cZ n))/\au[q]?=some (.lst ((b++[n]).map .str))/\q≠p/\q∉c/\ag [q] Ω au:=by
 obtain⟨a,F,r⟩:=I Ω k js rs R E;rw[J]at F;have s:=r.get _ _ L (by simp)
 have M:=R.keep r;have t:=dW (d:=.str n) s (by simp;omega)
 have N:=dB s;have G:ag [q] a (a.set q (.lst (b.map .str++[.str n]))):=ag.set (by simp)
 have H:(a.set q (.lst (b.map .str++[.str n])))[q]?=some (.lst ((b++[n]).map .str)):=by rw[aZ s];simp
 generalize a.set q (.lst (b.map .str++[.str n]))=g at *;have R2:Rw g k js rs:=M.zj G (by simpa using Ne.symm o) (λj u h=>l (by rw[←List.mem_singleton.mp h];exact u))
 have w:bg (aa 1) [some R0,some (.ref k),some (.ref q),some (.str n)] g=.ok (.seq (.ref k)) g:=by
  rw[cg];exact aV (by rw[aF,ay R2.ce])
 have ql:=bp H
 obtain⟨c,i,O,y,Q,A⟩:=qS (me:=stC) (mc:=ai .non) (cap:=[3]) (f:=cZ n) (P:=λj=>j≠q) w R2 E (λj S i K u _ h=>by
  obtain⟨T,B,e,U,A,h5⟩:=F4 (n:=n) h;refine⟨T,B,e,U,A,?_⟩;rcases h5 with rfl|h5
  .exact λz=>l (z▸u)
  .have:=K.len
   omega)
 have V:=y.len;refine⟨i.length,c,i++[.lst (c.map .ref)],?_,⟨az,Q.keep (fp:=[]) ag.app (by simp)⟩,cJ (y.get _ _ H (by simp)),by omega,λh=>A q h rfl,?_⟩
 .have C:stM _ g=.ok (.ref i.length) (i++[.lst (c.map .ref)]):=O
  have X:(aE 3 (mN (aS m) (ae (aa 1) aj))) [some R0,some (.ref k),some (.ref q),a3] Ω=.nx [some R0,some (.ref k),some (.ref q),some (.str n)] a:=by simp[F,y8]
  have Y:(eU (m2 (aQ .Is) (aa 3) (ai .non)) (ak st aq) aq) [some R0,some (.ref k),some (.ref q),some (.str n)] a=.nx [some R0,some (.ref k),some (.ref q),some (.str n)] a:=by simp
  have Z:(eg (cB gY bH (aa 2) (ae (aa 3) aj))) [some R0,some (.ref k),some (.ref q),some (.str n)] a=.nx [some R0,some (.ref k),some (.ref q),some (.str n)] g:=by
   rw[iS,fc (x:=.ref q) (au:=a) (by simp) N]
   simp[t]
  unfold bM;rw[ah,X,aJ,ah,Y,aJ,ah,Z,aJ,ah,gQ,C];rfl
 .exact((ek.up r).trans G).trans (ek.up (y.trans ag.app))
theorem zE{st:SM}{p:aX}(t:FnAt p){R0:D}{rs:List (List Str)}{o:List Str}(M:Mg rs o) :
  ∀(Ω:aA) (a:List Str) (q k:Nat) (c:List Nat) (a3:Option D) (m:Nat),Rw Ω k c rs->Ω[q]?=some (.lst (a.map .str))->q≠k->q∉c->rs.length<=1000->a.length+o.length<=900->o.length<m ->
   ∃a1 b au,f9 tM (bM st p) m [some R0,some (.ref k),some (.ref q),a3] Ω=.nx [some R0,a1,some (.ref q),b] au/\au[q]?=some (.lst ((a++o).map .str))/\ag [q] Ω au:=by
 induction M with
 |@done rs h=>
  intro Ω a q k c a3 m R r _ _ _ _ s;obtain⟨m,rfl⟩:∃k,m=k+1:=⟨m - 1,by grind⟩
  refine⟨some (.ref k),a3,Ω,?_,by simp_all,ag.refl⟩
  have e:=kv R;rw[any_false h]at e;have d:tM [some R0,some (.ref k),some (.ref q),a3] Ω=.ok (.bl false) Ω:=by simp[tM,e]
  simp only[f9,d];rfl
 |@step rs n o h u _ w=>
  intro Ω a q k c a3 m R r f g x y s;obtain⟨m,rfl⟩:∃k,m=k+1:=⟨m - 1,by omega⟩
  rw[List.length_cons]at y s;obtain⟨z,i,j,H,A,B,C,E,F⟩:=D3 (st:=st) t (R0:=R0) (a3:=a3) R x u r f g (by omega)
  obtain⟨a1,b,l,I,J,G⟩:=w j (a++[n]) q z i (some (.str n)) m A B C E (by grind) (by simp;omega) (by omega)
  refine⟨a1,b,l,?_,by grind,F.trans G⟩
  have e:=kv R;rw[any_true h]at e;have d:tM [some R0,some (.ref k),some (.ref q),a3] Ω=.ok (.bl true) Ω:=by simp[tM,e]
  simp only[f9,d]
  simp_all
def oP(d:aX):Prop:=∀(b:aA) (k:Nat) (e:List Nat) (c:List (List Str)) (o:List Str),Rw b k e c->Mg c o->c.length<=1000->o.length<=900->∃q a,d [.ref k] b=.ok (.ref q) a/\a[q]?=some (.lst (o.map .str))/\b.length<=q/\ag [] b a
theorem D4{st:SM}{e:aX}(j:FnAt e):oP (bA 4 1 (qT st e)):=by
 intro l k w x o R M f y;rw[cp (by rfl)]
 have m:bu 4 [D.ref k]=[some _,none,none,none]:=rfl;rw[m];obtain⟨n,b,a,z,c,d,A,B,C⟩:=uH (ρ:=[some _,none,none,none]) (i:=0) rfl R f;have p:(aE 1 (uG 0)) [some (.ref k),none,none,none] l=.nx [some (.ref k),some (.ref b),none,none] a:=by simp_all
 have g:ag [] _ (a++[Cell.lst []]):=ag.app;have q:(aE 2 (mN cD aj)) [some (.ref k),some (.ref b),none,none] a=.nx [some (.ref k),some (.ref b),some (.ref a.length),none] (a++[Cell.lst []]):=by rfl
 have E:=bp d.ce;have F:=d.al.lt;obtain⟨G,H,r,s,t,u⟩:=zE j M _ [] _ b _ _ fuel (d.keep g) az (by omega) (λh=>by grind) f (by simp_all) (by unfold fuel;omega)
 refine⟨_,_,?_,t,c.len,ag.new (c.trans g) u (by simpa using c.len)⟩
 unfold qT;rw[ah,p,aJ,ah,q,aJ,ah];unfold lg;rw[s];rfl
end
end Mir
namespace Mir
open PySem
theorem all1{p:List Value->Prop}(h:∀a,p [a]):∀us:List Value,us.length=1->p us
 |[a],_=>h a
theorem F5{p:List Value->Prop}{n:Nat}(h:∀a us,us.length=n->p (a::us))(us:List Value)(b:us.length=n+1):p us:=by
 cases us with
 |nil=>exact absurd b (Nat.zero_ne_add_one n)
 |cons a r=>exact h a r (Nat.succ.inj b)
theorem all2{p:List Value->Prop}(h:∀a b,p [a,b]):∀us:List Value,us.length=2->p us:=F5 λa=>all1 (h a)
theorem sG{p:List Value->Prop}(h:∀a b c,p [a,b,c]):∀us:List Value,us.length=3->p us:=F5 λa=>all2 (h a)
theorem Ny{p:List Value->Prop}(h:∀a b c d,p [a,b,c,d]):∀us:List Value,us.length=4->p us:=F5 λa=>sG (h a)
open PySem.Spec PyProof.Rows L2
structure zF(K:PySem.W.Frag)(x:Str)(st:Stmt)(f:Addr)(fd:FuncData):Prop where
 ns:PySem.W.nsIn K mainGlobals x=some (some (.ref f))
 fn:tw K x x st f fd
theorem zG{K:PySem.W.Frag}{x:Str}{st:Stmt}{f:Addr}{oc:Value}{i g:Option Addr}{e:Array (Option Value)}{kV d h b ct:Value}(a:PySem.W.nsIn K mainGlobals x=some (some (.ref f)))
  (l:K.lookup f=some ⟨oc,i,.func (PySem.W.fnOf x x (cx st) (aT st) (af st) .none kV d h g b ct),e⟩) (c:PySem.W.codeIn K b x=true) (k:PySem.W.keepIn K (.ref f)=true):zF K x st f (PySem.W.fnOf x x (cx st) (aT st) (af st) .none kV d h g b ct):=⟨a,rH l c k⟩
end Mir
namespace Mir
open PySem L2
variable [aw]
abbrev oR(k:Nat):Option D:=some (.ref k)
abbrev oI(i:Int):Option D:=some (.int i)
abbrev oS(x:Str):Option D:=some (.str x)
def eD(Ω:aA)(e:Nat)(kvs:List (Key×D)):Prop:=Ω[e]?=some (.dK kvs)\/Ω[e]?=some (.dF kvs)
abbrev i_:=List (Str×List Str)
noncomputable def nms(E:i_):List Str:=E.map (·.1)
noncomputable def aU(E:i_)(n:Str):List Str:=(E.lookup n).getD []
def aL(P:Nat->Prop)(Ω:aA)(kvs:List (Key×D))(E:i_):Prop:=aD (λa p=>a.1=.inr p.1/\∃j,a.2=.ref j/\P j/\Ω[j]?=some (.lst (p.2.map .str))) kvs E
section
variable{Ω au:aA}{ρ:aK}{e q j:Nat}{kvs:List (Key×D)}{E:i_}{P P':Nat->Prop}{n:Str}{r:List Str}{fp:List Nat}{ord:List Str}
theorem eD.keep(h:eD Ω e kvs)(K:ag fp Ω au)(a:e∉fp):eD au e kvs:=h.imp (λz=>K.get _ _ z a) λz=>K.get _ _ z a
theorem eD.lt(h:eD Ω e kvs):e<Ω.length:=h.elim bp bp
theorem eD.nl(h:eD Ω e kvs):∀ds,Ω[e]?≠some (.lst ds):=λds z=>by rcases h with h|h<;>rw[h]at z<;>cases z
theorem Jo(h:eD Ω e kvs){m:Nat}:fN Ω (m+1) (.ref e)=none:=by rcases h with h|h<;>simp only[fN,h]
theorem zH(h:eD Ω e kvs):cT Ω (.ref e)=none:=by rcases h with h|h<;>simp only[cT,h]
theorem D5(h:eD Ω e kvs):qb Ω (.ref e) (.str n)=some (bQ kvs (.inr n)):=by rcases h with h|h<;>simp only[qb,h,oh,Option.map_some]
theorem v_(h:eD Ω e kvs):aQ .In (.str n) (.ref e) Ω=.ok (.bl (bQ kvs (.inr n)).isSome) Ω:=by
 rw[oK,oJ,Jo h]
 show kb _ _=_
 simp only[jo,D5 h];rfl
theorem eZ{d:D}(h:eD Ω e kvs)(a:bQ kvs (.inr n)=some d):aM (.ref e) (.str n) Ω=.ok d Ω:=by
 unfold aM;rw[gP,ko,aF,zH h]
 show kb _ _=_
 rw[gP];simp only[Bz,D5 h,a];rfl
theorem Jp(h:eD Ω e kvs):yp Ω (.ref e)=some kvs:=by rcases h with h|h<;>simp only[yp,h]
theorem set_same{c:Cell}(h:Ω[e]?=some c):Ω.set e c=Ω:=by
 apply List.ext_getElem?;intro i;rw[List.getElem?_set];split
 .rename_i z;subst z;rw[if_pos (bp h),h]
 .rfl
theorem lN(h:eD Ω e kvs):srcOf Ω (.ref e)=.ok (.keys e) (Ω.set e (.dF kvs)):=by
 unfold srcOf;rw[aF,zH h];rcases h with h|h
 .grind
 .simp only[h,set_same h]
theorem Jq(h:eD Ω e kvs):(Ω.set e (.dF kvs))[e]?=some (.dF kvs):=by rcases h with h|h<;>exact aZ h
theorem ik(h:Ω[e]?=some (.dF kvs)):fA (.keys e) Ω=some (kvs.map λa=>vE a.1):=by simp only[fA,h]
theorem aL.keep(h:aL P Ω kvs E)(K:ag fp Ω au)(e:∀j∈fp,¬ P j):aL P au kvs E:=aD.imp (λ_ _ ⟨a,j,b,c,d⟩=>⟨a,j,b,c,K.get _ _ d λz=>e j z c⟩) h
theorem aL.dC(h:aL P Ω kvs E)(K:ag fp Ω au)(e:∀j∈fp,∀ds,Ω[j]?≠some (.lst ds)):aL P au kvs E:=aD.imp (λ_ _ ⟨a,j,b,c,d⟩=>⟨a,j,b,c,K.get _ _ d λz=>e j z _ d⟩) h
theorem aL.lt(h:aL P Ω kvs E):aL (λj=>P j/\j<Ω.length) Ω kvs E:=aD.imp (λ_ _ ⟨a,j,b,c,d⟩=>⟨a,j,b,⟨c,bp d⟩,d⟩) h
theorem aL.len(h:aL P Ω kvs E):E.length=kvs.length:=aD.length h
theorem aL.keys(h:aL P Ω kvs E):(kvs.map λb=>vE b.1)=(nms E).map .str:=by
 induction h with
 |nil=>rfl
 |cons r _ a=>
  simp at a ⊢;rw[a,r.1];rfl
theorem aL.look(h:aL P Ω kvs E)(n:Str):(∀r,E.lookup n=some r->∃j,bQ kvs (.inr n)=oR j/\P j/\Ω[j]?=some (.lst (r.map .str)))/\(E.lookup n=none->bQ kvs (.inr n)=none):=by
 induction h with
 |nil=>exact⟨by simp,λ_=>rfl⟩
 |@cons b p kvs E a _ c=>
  obtain⟨d,j,e,f,g⟩:=a;rw[List.lookup_cons,dh]
  grind
theorem CU(h:E.lookup n=some r):(n,r)∈E:=by
 induction E with
 |nil=>simp at h
 |cons p E a=>
  grind
theorem lookup_some(h:n∈nms E):∃r,E.lookup n=some r:=by
 unfold nms at h
 induction E with
 |nil=>simp at h
 |cons p E a=>
  rw[List.lookup_cons];split
  .simp
  grind
theorem lO(h:n∈nms E):E.lookup n=some (aU E n):=by
 obtain⟨r,a⟩:=lookup_some h;unfold aU;rw[a];rfl
theorem lookup_none(h:n∉nms E):E.lookup n=none:=by
 cases q:E.lookup n with
 |none=>rfl
 |some r=>exact absurd (List.mem_map_of_mem (CU q)) h
theorem aL.at(h:aL P Ω kvs E)(a:n∈nms E):∃j,bQ kvs (.inr n)=oR j/\P j/\Ω[j]?=some (.lst ((aU E n).map .str)):=(h.look n).1 _ (lO a)
theorem aL.is(h:aL P Ω kvs E):(bQ kvs (.inr n)).isSome=decide (n∈nms E):=by
 by_cases q:n∈nms E
 .obtain⟨j,a,_⟩:=h.at q
  simp_all
 .rw[(h.look n).2 (lookup_none q),decide_eq_false q];rfl
theorem zI{k:Key}(h:bQ kvs k=none):(kvs.any λa=>decide (a.1=k))=false:=by rw[lK,h];rfl
theorem aL.put(h:aL P Ω kvs E)(a:n∉nms E)(b:P j)(c:Ω[j]?=some (.lst (r.map .str))):aL P Ω (cK kvs (.inr n) (.ref j)) (E++[(n,r)]):=by
 have:=zI ((h.look n).2 (lookup_none a));unfold cK;rw[if_neg (by grind)]
 exact aD.append h (.cons ⟨rfl,j,rfl,b,c⟩ .nil)
def qU(E:i_)(a:List Str):List Str:=(nms E).filter λn=>!decide (n∈a)&&(aU E n).all λx=>decide (x∈a)
def PC:EM:=(cM (m2 (aQ .In) (aa 0) (aa 1)) true (ai .non) (bg (m2 aM (aa 1) (aa 0))) 0 [2])
def Jr:EM:=(jr (m2 (aQ .NotIn) (aa 0) (aa 2)) (mN (bG .all) (ae PC aj)))
def LJ:SM:=(ak (cf (cM (aa 0) false Jr (bg (aa 0)) 0 [0,1])) aq)
theorem CV{a:List Bool}(h:Ω[q]?=some (.lst (a.map .bl))):bG .all [.ref q] Ω=.ok (.bl (a.all id)) Ω:=by
 show r9 _ _ Ω=_
 unfold r9;rw[um];have c:bC (fN Ω 7) _=some (a.map .bl):=lF (λ_=>FJ) a
 have:bC (fN Ω 8) [.ref q]=some [.lst (a.map .bl)]:=by simp[kj h c]
 rw[this,uk,zb]
 have d:fj (a.map D.bl)=some a:=by
  clear h c this
  induction a with
  |nil=>rfl
  |cons b a e=>simp[fj,e]
 rw[d];rfl
theorem oQ{a:Nat}{xs:List Str}{me:EM}{mi:IM}{cap:List Nat}(b:Ω[a]?=some (.lst (xs.map .str)))(c:mi ρ Ω=.ok (.seq (.ref a)) Ω){p:Str->Bool}(h:∀x∈xs,me ([oS x]++eT cap ρ) Ω=.ok (.bl (p x)) Ω)(i:xs.length<=90000) :
  ∃au,mN (bG .all) (ae (cM me true (ai .non) mi 0 cap) aj) ρ Ω=.ok (.bl (xs.all p)) au/\ag [] Ω au:=by
 have e:=dA (me:=me) (mc:=ai .non) (nc:=true) (cap:=cap) (g:=λd=>match d with|.str x=>.bl (p x)|d=>d) c (by rw[bY,aF,ay b]) (λd _=>rfl) (λd j _=>by
  grind) (by grind)
 have f:((xs.map D.str).filter λ_=>true).map (λd=>match d with|.str x=>D.bl (p x)|d=>d)=(xs.map p).map .bl:=by
  rw[List.filter_eq_self.mpr (λ_ _=>rfl),List.map_map,List.map_map]
  rfl
 rw[f]at e;refine⟨Ω++[.lst ((xs.map p).map .bl)],?_,ag.app⟩;rw[za,gy,e,bU,iP,bU,bU,CV az]
 simp_all
def F6(f:aX):Prop:=∀(c:aA) (e q:Nat) (b:List (Key×D)) (E:i_) (d:List Str) (P:Nat->Prop),eD c e b->aL P c b E->c[q]?=some (.lst (d.map .str))->(∀n∈nms E,(aU E n).length<=1000)->E.length<=1000 ->
 ∃z a,f [.ref e,.ref q] c=.ok (.ref z) a/\a[z]?=some (.lst ((qU E d).map .str))/\ag [e] c a/\a[e]?=some (.dF b)/\c.length<=z
theorem Js:F6 (bA 2 2 LJ):=by
 intro f e q c E a P l J L o hl;rw[cp (by rfl)]
 have Q:bu 2 [D.ref e,.ref q]=[oR e,oR q]:=rfl;rw[Q];have r:q≠e:=λz=>l.nl _ (z▸L)
 have s:ag [e] f (f.set e (.dF c)):=ag.set (by simp)
 have t:=Jq l;have u:=J.dC s (λj m=>by rw[List.mem_singleton.mp m];exact l.nl)
 have y:=s.get _ _ L (by simpa using r)
 have l0:(f.set e (.dF c)).length=f.length:=by simp
 have A:bg (aa 0) [oR e,oR q] f=.ok (.keys e) (f.set e (.dF c)):=by
  rw[cg];exact lN l
 generalize f.set e (.dF c)=B at *
 obtain⟨h,R,C⟩:=CP (ρ:=[oR e,oR q]) (me:=aa 0) (mc:=Jr) (nc:=false) (cap:=[0,1]) (p:=λd=>match d with|.str n=>!decide (n∈a)&&(aU E n).all _|_=>false) (g:=λd=>d) (λ_ b=>ag [] B b) A
  (λi b K=>by rw[ik (K.get _ _ t (by simp)),J.keys])
  (λi d b F K=>by
   obtain⟨n,S,rfl⟩:=dg F;have M:n∈nms E:=List.mem_of_getElem? S;have N:=K.get _ _ y (by simp)
   have T:=K.get _ _ t (by simp)
   have U:=u.keep K (by simp)
   obtain⟨j,V,_,m⟩:=U.at M;have k:=kr (w:=n) N;have G:=eZ (n:=n) (.inr T) V
   show ∃H,dj (Jr [oS n,oR e,oR q] b)=.ok (!decide (n∈a)&&(aU E n).all λx=>decide (x∈a)) H/\_
   by_cases X:n∈a
   .refine⟨b,?_,K,λ_=>rfl⟩
    rw[decide_eq_true X]at k ⊢;simp[Jr,k,-lG]
   .obtain⟨I,O,Y⟩:=oQ (ρ:=[oS n,oR e,oR q]) (me:=m2 (aQ .In) (aa 0) (aa 1)) (mi:=bg (m2 aM (aa 1) (aa 0))) (cap:=[2]) m (by
     show(aM (.ref e) (.str n) b).bind _=_
     rw[G,bU];exact aV (by rw[aF,ay m])) (λx _=>by
     exact sx N) (by have:=o n M;omega)
    refine⟨I,?_,K.trans Y,λ_=>rfl⟩
    have O:mN (bG .all) (ae PC aj) [oS n,oR e,oR q] b=_:=O;unfold Jr
    simp_all) (by simp[nms];omega) ag.refl
 refine⟨h.length,h++[.lst ((qU E a).map .str)],?_,az,?_,cJ (C.get _ _ t (by simp)),by have:=C.len;omega⟩
 .unfold LJ
  rw[ah,iT,R]
  have Z:(((nms E).map D.str).filter (λd=>match d with|.str n=>!decide (n∈a)&&(aU E n).all λx=>decide (x∈a)|_=>false)).map (λd=>d)=(qU E a).map .str:=by
   unfold qU;rw[List.map_id',List.filter_map];rfl
  rw[Z];rfl
 .exact(s.trans (ek.up C)).trans ag.app
end
theorem il{xs:List Str}:∀{o:List Str},o.Nodup->(∀x∈o,x∈xs)->o.length<=xs.length:=by
 intro o b e
 induction o generalizing xs with
 |nil=>simp
 |cons a o c=>
  have d:=List.nodup_cons.mp b
  have:=c (xs:=xs.erase a) d.2 (λx f=>by
   grind)
  grind
structure Ef(E:i_)(ord:List Str):Prop where
 nd:ord.Nodup
 sub:∀n∈ord,n∈nms E
 pre:∀(i:Nat) (n:Str),ord[i]?=some n->∀x∈aU E n,x∈ord.take i
structure Acy(E:i_):Prop where
 nd:(nms E).Nodup
 el:∀n∈nms E,∀x∈aU E n,x∈nms E
 rk:∃rk:Str->Nat,∀n∈nms E,∀x∈aU E n,rk x<rk n
section
variable{Ω au:aA}{ρ:aK}{e q j:Nat}{kvs:List (Key×D)}{E:i_}{P P':Nat->Prop}{n:Str}{r:List Str}{fp:List Nat}{ord:List Str}
theorem ky:n∈qU E ord↔n∈nms E/\n∉ord/\∀x∈aU E n,x∈ord:=by
 unfold qU
 simp_all
theorem Ef.step(h:Ef E ord)(f:(nms E).Nodup):Ef E (ord++qU E ord) where
 nd:=List.nodup_append.mpr ⟨h.nd,f.filter _,λa g b j z=>(ky.mp j).2.1 (z▸g)⟩
 sub:=λn k=>(List.mem_append.mp k).elim (h.sub n) λz=>(ky.mp z).1
 pre:=λi n c x d=>by
  by_cases e:i<ord.length
  .rw[List.getElem?_append_left e]at c
   rw[List.take_append_of_le_length (Nat.le_of_lt e)];exact h.pre i n c x d
  .rw[List.getElem?_append_right (by omega)]at c
   have:=(ky.mp (List.mem_of_getElem? c)).2.2 x d;rw[List.take_append,List.take_of_length_le (by omega)]
   simp_all
theorem F7(A:Acy E)(f:qU E ord=[]):∀n∈nms E,n∈ord:=by
 obtain⟨c,g⟩:=A.rk
 have b:∀(k:Nat) n,c n<k->n∈nms E->n∈ord:=by
  intro k
  induction k with
  |zero=>simp
  |succ k d=>
   intro n h a
   by_cases q:n∈ord
   .exact q
   .have:=ky.mpr ⟨a,q,λx e=>d x (by grind) (A.el n a x e)⟩
    grind
 exact λn a=>b _ n (Nat.lt_succ_self _) a
theorem sH{k a:Nat}{xs ys:List Str}(h:Ω[k]?=some (.lst (xs.map .str)))(b:Ω[a]?=some (.lst (ys.map .str)))(c:xs.length+ys.length<=10000):gJ (.ref k) [.ref a] Ω=.ok .non (Ω.set k (.lst ((xs++ys).map .str))):=by
 simp only[gJ,km h,km b];rw[if_pos (aI (by simp;omega)),List.map_append]
def LK(a:aX):SM:=(ak (eg (cB gY gJ (aa 1) (ae (aa 2) aj)))
 (ak (aE 2 (mN (aS a) (ae (aa 0) (ae (aa 1) aj))))
 aq))
def Nz(a:aX):SM:=
 (ak (aE 1 (mN cD aj))
 (ak (aE 2 (mN (aS a) (ae (aa 0) (ae (aa 1) aj))))
 (ak (lg (aa 2)
 (LK a))
 (ak (cf (aa 1))
 aq))))
structure Gd(E:i_):Prop extends Acy E where
 few:E.length<=100
 short:∀n∈nms E,(aU E n).length<=100
theorem zJ{u:aX}(hR:F6 u)(G:Gd E) :
  ∀(m:Nat) (Ω:aA) (a:List Str) (q z:Nat),Ω[e]?=some (.dF kvs)->aL P Ω kvs E->Ef E a->Ω[q]?=some (.lst (a.map .str))->Ω[z]?=some (.lst ((qU E a).map .str))->q≠z->¬ P q->E.length - a.length<m ->
   ∃b a2 au,f9 (aa 2) (LK u) m [oR e,oR q,oR z] Ω=.nx [oR e,oR q,a2] au/\au[q]?=some (.lst (b.map .str))/\Ef E b/\(∀n∈nms E,n∈b)/\ag [q] Ω au:=by
 intro m
 induction m with
 |zero=>intro Ω a q z _ _ _ _ _ _ _ h;omega
 |succ m T=>
  intro Ω a q z N U F l O V Q hm;have w:=eL O
  have X:a.length<=E.length:=by
   have:=il F.nd F.sub;simpa[nms]using this
  by_cases y:qU E a=[]
  .refine⟨a,oR z,Ω,?_,l,F,F7 G.toAcy y,ag.refl⟩
   have A:aa 2 [oR e,oR q,oR z] Ω=.ok (.ref z) Ω:=rfl;rw[y]at w;simp only[f9,A,gO,w];rfl
  .have A:aa 2 [oR e,oR q,oR z] Ω=.ok (.ref z) Ω:=rfl
   have B:=F.step G.nd
   have d:(a++qU E a).length<=E.length:=by
    have:=il B.nd B.sub;simpa[nms]using this
   have Y:=G.few;have hx:=sH l O (by rw[List.length_append]at d;omega)
   have Z:=dB l;have C:ag [q] Ω (Ω.set q (.lst ((a++qU E a).map .str))):=ag.set (by simp)
   have f:=aZ (e:=.lst ((a++qU E a).map .str)) l;have o:q≠e:=λz=>by rw[z,N]at l;cases l
   have g:=C.get _ _ N (by simpa using Ne.symm o)
   have p:=U.keep C (λj D=>by rw[List.mem_singleton.mp D];exact Q)
   generalize Ω.set q (.lst ((a++qU E a).map .str))=r at *;obtain⟨R,i,e2,H,t,s,lz⟩:=hR r e q kvs E (a++qU E a) P (.inr g) p f (λn S=>by have:=G.short n S;omega) (by omega)
   have I:ag [q] r i:=⟨t.len,λk c J S=>by
    by_cases h:k=e
    .subst h;rw[g]at J;cases J;exact s
    .exact t.get k c J (by simpa using h)⟩
   have K:=p.dC t (λj D ds=>by rw[List.mem_singleton.mp D,g];simp)
   have L:=t.get _ _ f (by simpa using o)
   have lq:=bp f
   obtain⟨b,a2,M,e3,h3,F3,h4,K3⟩:=T i (a++qU E a) q R s K B L H (by omega) Q (by
    have:0<(qU E a).length:=List.length_pos_iff.mpr y;rw[List.length_append]at d ⊢;omega)
   refine⟨b,a2,M,?_,h3,F3,h4,(C.trans I).trans K3⟩
   have r1:LK u [oR e,oR q,oR z] Ω=.nx [oR e,oR q,oR R] i:=by
    unfold LK;rw[ah,iS,fc (x:=.ref q) (au:=Ω) (by rfl) Z]
    simp_all
   simp only[f9,A,gO,w,iR]
   simp_all
def sI(f:aX):Prop:=∀(d:aA) (e:Nat) (b:List (Key×D)) (E:i_) (P:Nat->Prop),eD d e b->aL P d b E->Gd E ->
 ∃c z a,f [.ref e] d=.ok (.ref z) a/\a[z]?=some (.lst (c.map .str))/\Ef E c/\(∀n∈nms E,n∈c)/\ag [e] d a/\a[e]?=some (.dF b)/\d.length<=z
theorem Jt{g:aX}(hR:F6 g):sI (bA 3 1 (Nz g)):=by
 intro a e x E P s y G;rw[cp (by rfl)]
 have A:bu 3 [D.ref e]=[oR e,none,none]:=rfl;rw[A];have t:(a++[Cell.lst []])[a.length]?=some _:=az;have l:ag [] a (a++[Cell.lst []]):=ag.app;have B:(aE 1 (mN cD aj)) [oR e,none,none] a=.nx [oR e,oR a.length,none] (a++[Cell.lst []]):=by rfl
 have b:=s.keep l (by simp)
 have d:=(y.lt.keep l (by simp))
 have R:=s.lt;have S:(a++[Cell.lst []]).length=a.length+1:=by simp
 generalize a++[Cell.lst []]=m at *;have C:=G.few;obtain⟨z,o,H,p,q,f,T⟩:=hR _ e _ _ E [] _ b d t (λn r=>by have:=G.short n r;omega) (by omega)
 obtain⟨I,U,J,K,L,F,M,u⟩:=zJ hR G fuel _ [] _ z f (d.dC q (λj N O=>by rw[List.mem_singleton.mp N];exact b.nl O)) ⟨by simp,by simp,λi n h=>by simp at h⟩ (q.get _ _ t (by simp;omega)) p (by omega) (λh=>by omega) (by unfold fuel;omega)
 refine⟨_,_,_,?_,L,F,M,?_,u.get _ _ f (by simp;omega),Nat.le_refl _⟩
 .unfold Nz
  rw[ah,B,aJ,ah];have Q:(aE 2 (mN (aS g) (ae (aa 0) (ae (aa 1) aj)))) [oR e,oR a.length,none] m=.nx [oR e,oR a.length,oR z] o:=by simp[H]
  rw[Q,aJ,ah];unfold lg;rw[K];rfl
 .refine⟨by grind,λk c w r=>u.get k c (q.get k c (l.get k c w (by simp)) r) ?_⟩
  have:=bp w;simp;omega
def PD:EM:=(cM (aa 0) false (m2 (aQ .NotIn) (aa 0) (aa 1)) (bg (aa 0)) 0 [1])
def PF(a:aX)(rest:SM):SM:=
 (ak (aE 1 (mN (aS a) (ae (aa 0) aj)))
 (ak (aE 3 PD)
 (ak (eU (qh (aa 3))
 (ak (cf (ai .non))
 aq)
 aq)
 rest)))
def wa(d:aX):Prop:=∀(c:aA) (e:Nat) (a:List (Key×D)) (E:i_) (P:Nat->Prop),eD c e a->aL P c a E->Gd E ->
 ∃b,d [.ref e] c=.ok .non b/\ag [e] c b/\b[e]?=some (.dF a)
theorem Ju{j:aX}(m:sI j){rest:SM}:wa (bA 5 1 (PF j rest)):=by
 intro Ω e o E P f k G;rw[cp (by rfl)]
 have w:bu 5 [D.ref e]=[oR e,none,none,none,none]:=rfl;obtain⟨q,z,a,x,r,F,c,s,b,y⟩:=m Ω e _ E P f k G;have t:=G.few
 have i:bg (aa 0) [oR e,oR z,none,none,none] a=.ok (.keys e) a:=by
  show srcOf _ _=_
  rw[lN (.inr b),set_same b]
 have l:=dA (me:=aa 0) (mc:=m2 (aQ .NotIn) (aa 0) (aa 1)) (nc:=false) (cap:=[1]) (p:=λ_=>false) (g:=λd=>d) i (by rw[ik b,k.keys]) (λd f=>by
  obtain⟨n,u,rfl⟩:=List.mem_map.mp f
  show dj (aQ .NotIn _ _ _)=_
  rw[kr r,decide_eq_true (c n u)];rfl) (λd _ h=>by cases h) (by simp[nms];omega)
 have A:PD [oR e,oR z,none,none,none] a=.ok (.ref a.length) (a++[.lst []]):=by
  have:(((nms E).map D.str).filter (λ_=>false)).map (λd=>d)=[]:=by simp
  rw[this]at l;exact l
 refine⟨a++[.lst []],?_,s.trans ag.app,cJ b⟩;have B:=eL (Ω:=a++[Cell.lst []]) az;unfold PF
 simp_all
end
noncomputable def b9(ns:List Str)(L:Str->List Str):i_:=ns.map λn=>(n,L n)
def qV(E:i_)(L:Str->List Str):Prop:=∀n∈nms E,∃o,Mg ((aU E n).map L++[aU E n]) o/\L n=n::o
section
variable{Ω au:aA}{ρ:aK}{e q j:Nat}{kvs:List (Key×D)}{E:i_}{P P':Nat->Prop}{n:Str}{r:List Str}{fp:List Nat}{ord:List Str}{L:Str->List Str}
theorem bJ{ns:List Str}:nms (b9 ns L)=ns:=by
 unfold nms b9;rw[List.map_map];exact(List.map_congr_left λx _=>rfl).trans (List.map_id _)
theorem dE{ns:List Str}(h:n∈ns):aU (b9 ns L) n=L n:=by
 unfold aU b9
 induction ns with
 |nil=>simp at h
 |cons a ns b=>
  grind
theorem oU{a b:Nat}{xs ys:List D}(h:Ω[a]?=some (.lst xs))(c:Ω[b]?=some (.lst ys))(d:xs.length+ys.length<=10000):aN .Add (.ref a) (.ref b) Ω=.ok (.ref Ω.length) (Ω++[.lst (xs++ys)]):=by
 rw[zd,uw,ay h,ay c,uv,if_pos (aI (by omega))]
 rfl
def PH:EM:=(cM (mN (bG .list) (ae (m2 aM (aa 1) (aa 0)) aj)) true (ai .non) (bg (aa 1)) 0 [0])
def NA:EM:=(mN cD (ae (mN (bG .list) (ae (aa 1) aj)) aj))
def NB:SM:=(ak (cf (m2 (aN .Add) PH NA)) aq)
def oV(h:aX):Prop:=∀(c:aA) (l a:Nat) (e:List (Key×D)) (f:i_) (P:Nat->Prop) (b:List Str),eD c l e->aL P c e f->c[a]?=some (.lst (b.map .str))->(∀x∈b,x∈nms f)->b.length<=100 ->
 ∃g k d,h [.ref l,.ref a] c=.ok (.ref k) d/\Rw d k g (b.map (aU f)++[b])/\ag [] c d/\c.length<=k/\(∀j∈g,c.length<=j)/\k∉g
theorem Jv:oV (bA 2 2 NB):=by
 intro Ω l a J q P e L M r N hl;rw[cp (by rfl)]
 have O:bu 2 [D.ref l,.ref a]=[oR l,oR a]:=rfl;rw[O]
 have s:bg (aa 1) [oR l,oR a] Ω=.ok (.seq (.ref a)) Ω:=by
  rw[cg];exact aV (by rw[aF,ay r])
 obtain⟨ys,f,Q,g,rfl,p,G,t⟩:=uB (ρ:=[oR l,oR a]) (me:=mN (bG .list) (ae (m2 aM (aa 1) (aa 0)) aj)) (mc:=ai .non) (cap:=[0]) (ds:=e.map .str) (λi k b=>∃g,k=g.map .ref/\mj b g ((e.take i).map (aU q))/\ag [] Ω b/\∀j∈g,Ω.length<=j) s ⟨[],rfl,.nil,ag.refl,by simp⟩
  (λi k b h=>by
   obtain⟨_,_,_,K,_⟩:=h;rw[bY,aF,ay (K.get _ _ r (by simp))])
  (λi d k b u h=>by
   obtain⟨g,rfl,p,K,t⟩:=h;obtain⟨x,H,rfl⟩:=dg u;have w:=L.keep K (by simp)
   obtain⟨j,R,_,S⟩:=(M.keep K (by simp)).at (N x (List.mem_of_getElem? H))
   have z:=eZ (n:=x) w R;have m:=eE S;refine⟨.ref b.length,b++[.lst ((aU q x).map .str)],?_,g++[b.length],by simp,?_,K.trans ag.app,?_⟩
   .show((aM (.ref l) (.str x) b).bind _).bind _=_
    rw[z,bU]
    show bG .list [.ref j] b=_
    exact m
   .rw[List.take_succ,H,List.map_append]
    exact(p.keep (fp:=[]) ag.app (by simp)).snoc az
   .intro y A
    rcases List.mem_append.mp A with h|h
    .exact t y h
    .rw[List.mem_singleton.mp h];exact K.len) (by simp;omega)
 rw[List.length_map,List.take_length]at p;have B:PH [oR l,oR a] Ω=.ok (.ref f.length) (f++[.lst (g.map .ref)]):=Q;have T:(f++[Cell.lst (g.map .ref)])[f.length]?=some (.lst (g.map .ref)):=az;have I:ag [] Ω (f++[Cell.lst (g.map .ref)]):=G.trans ag.app;have C:mj (f++[Cell.lst (g.map .ref)]) g (e.map (aU q)):=p.keep (fp:=[]) ag.app (by simp)
 have l2:(f++[Cell.lst (g.map .ref)]).length=f.length+1:=by simp
 have U:=p.lt;have kl:=G.len;have V:=p.len;generalize f++[Cell.lst (g.map .ref)]=b at *;have m:=eE (I.get _ _ r (by simp))
 have X:NA [oR l,oR a] b=.ok (.ref (b.length+1)) ((b++[.lst (e.map .str)])++[.lst [.ref b.length]]):=by
  unfold NA
  have:(mN (bG .list) (ae (aa 1) aj)) [oR l,oR a] b=.ok (.ref b.length) (b++[.lst (e.map .str)]):=by
   show bG .list [.ref a] b=_
   exact m
  rw[za,gy,this,bU,iP,bU,bU,oM,if_pos (aI (by simp))]
  simp
 have E:ag [] b ((b++[Cell.lst (e.map .str)])++[Cell.lst [.ref b.length]]):=ag.app.trans ag.app
 have Y:((b++[Cell.lst (e.map .str)])++[Cell.lst [.ref b.length]])[b.length+1]?=some (.lst [.ref b.length]):=by
  have:=az (Ω:=b++[Cell.lst (e.map .str)]) (c:=.lst [.ref b.length]) (l:=[]);simpa using this
 have Z:((b++[Cell.lst (e.map .str)])++[Cell.lst [.ref b.length]])[b.length]?=some (.lst (e.map .str)):=cJ az;have l3:((b++[Cell.lst (e.map .str)])++[Cell.lst [.ref b.length]]).length=b.length+2:=by simp
 generalize (b++[Cell.lst (e.map .str)])++[Cell.lst [.ref b.length]]=o at *;have g3:=E.get _ _ T (by simp)
 have F:=C.keep E (by simp)
 have hc:=oU g3 Y (by simp at V ⊢;omega)
 refine⟨g++[b.length],o.length,o++[.lst (g.map .ref++[.ref b.length])],?_,⟨?_,?_⟩,(I.trans E).trans ag.app,by omega,?_,?_⟩
 .unfold NB
  rw[ah,iT,ui,B,bU,X,bU,hc];rfl
 .have:=az (Ω:=o) (c:=.lst (g.map .ref++[.ref b.length])) (l:=[])
  simpa using this
 .exact(F.snoc Z).keep (fp:=[]) ag.app (by simp)
 .intro y A
  rcases List.mem_append.mp A with h|h
  .exact t y h
  .rw[List.mem_singleton.mp h];omega
 .intro h
  rcases List.mem_append.mp h with h|h
  .have:=U _ h;omega
  .have:=List.mem_singleton.mp h;omega
theorem oW{kvs:List (Key×D)}{k:Key}{v:D}(h:k∉kvs.map (·.1)):cK kvs k v=kvs++[(k,v)]:=by
 unfold cK
 grind
theorem ni:∀(ps b:List (Key×D)),((b++ps).map (·.1)).Nodup->ps.foldl (λa p=>cK a p.1 p.2) b=b++ps
 |[],b,_=>by simp
 |p::ps,b,h=>by
  rw[List.foldl_cons,oW (by
   rw[List.map_append]at h;have:=(List.nodup_append.mp h).2.2;exact λz=>this _ z _ (by simp) rfl),ni ps _ (by simp_all)]
  simp
theorem qW{ns:List Str}{f:Str->D}(h:∀n∈ns,∃j,f n=.ref j/\P j/\Ω[j]?=some (.lst ((L n).map .str))):aL P Ω (ns.map λn=>(.inr n,f n)) (b9 ns L):=by
 induction ns with
 |nil=>exact .nil
 |cons a ns b=>exact .cons ⟨rfl,h a (by simp)⟩ (b λn c=>h n (by simp[c]))
theorem lP{me:EM}{mi:IM}{cap:List Nat}{src:Src}{ns:List Str}{f:Str->D}(c:mi ρ Ω=.ok src Ω)(i:fA src Ω=some (ns.map .str))(m:∀n∈ns,me ([oS n]++eT cap ρ) Ω=.ok (.tup [.str n,f n]) Ω)(o:ns.length<=1000)(p:ns.Nodup) :
  ∃q au,mN t5 (ae (cM me true (ai .non) mi 0 cap) aj) ρ Ω=.ok (.ref q) au/\au[q]?=some (.dK (ns.map λn=>(.inr n,f n)))/\ag [] Ω au/\Ω.length<=q:=by
 have e:=dA (me:=me) (mc:=ai .non) (nc:=true) (cap:=cap) (g:=λd=>match d with|.str n=>.tup [.str n,f n]|d=>d) c i (λd _=>rfl) (λd r _=>by
  grind) (by simp;omega)
 have j:((ns.map D.str).filter λ_=>true).map (λd=>match d with|.str n=>D.tup [.str n,f n]|d=>d)=ns.map λn=>.tup [.str n,f n]:=by
  rw[List.filter_eq_self.mpr (λ_ _=>rfl),List.map_map]
  rfl
 rw[j]at e;have k:(Ω++[Cell.lst (ns.map λn=>.tup [.str n,f n])])[Ω.length]?=some _:=az
 have b:ag [] Ω (Ω++[Cell.lst (ns.map λn=>.tup [.str n,f n])]):=ag.app
 generalize Ω++[Cell.lst _]=a at *
 have l:=ni (ns.map λn=>((.inr n),f n)) [] (by
  grind)
 refine⟨_,a++[.dK _],?_,az,b.trans ag.app,b.len⟩;rw[za,gy,e,bU,iP,bU,bU]
 show qo _ a=_
 simp only[qo,ay k,(lF (f:=tZ) (g:=λn=>D.tup [.str n,f n]) (h:=λn=>(.inr n,f n)) (λn=>rfl) ns),l]
 rfl
def Jw:EM:=(mN (bG .all) (ae (cM (m2 (aQ .In) (aa 0) (aa 1)) true (ai .non) (bg (m2 aM (aa 0) (aa 4))) 0 [2]) aj))
def LM(a b:aX):EM:=(m2 (aN .Add) (mN cD (ae (aa 4) aj)) (mN (aS a) (ae (mN (aS b) (ae (aa 2) (ae (m2 aM (aa 0) (aa 4)) aj))) aj)))
def LN(a b:aX):SM:=(ak (eU Jw
 (ak (ak (cC (aa 2) (aa 4) (LM a b))
 aq)
 aq)
 aq)
 aq)
def LP:SM:=(ak (eU (m2 (aQ .In) (aa 4) (aa 3))
 (ak dw
 aq)
 aq)
 aq)
def LQ:EM:=(mN t5 (ae (cM (mN f7 (ae (aa 0) (ae (m2 aM (aa 1) (aa 0)) aj))) true (ai .non) (bg (aa 0)) 0 [2]) aj))
def LR(a b c d:aX):SM:=
 (ak (aE 1 (mN (aS a) (ae (aa 0) aj)))
 (ak (eU (m2 (aQ .IsNot) (aa 1) (ai .non))
 (ak dw
 aq)
 aq)
 (ak (aE 2 cU)
 (ak (aE 3 cU)
 (ak (dM (bN 4) (bg (mN (aS b) (ae (aa 0) aj)))
 (LN c d))
 (ak (dM (bN 4) (bg (aa 0))
 LP)
 (ak (cf LQ)
 aq)))))))
theorem jw{k:Nat}{d:D}(h:Ω[k]?=some (.dK kvs))(a:kvs.length<=1000):jG (.ref k) (.str n) d Ω=some (Ω.set k (.dK (cK kvs (.inr n) d))):=by
 simp only[jG,h,oh];rw[if_pos (aI (by omega))]
theorem F8{F G:aX}(hM:oP F)(hB:oV G){l:Nat}{f:List (Key×D)}{g:List Str}{a1 a3 a5:Option D}{o:List Str}(he:Ω[e]?=some (.dF kvs))(hr:aL P Ω kvs E)(I:Ω[l]?=some (.dK f))(i:aL P' Ω f (b9 g L))(hn:n∈nms E)(J:n∉g)
  (h:∀x∈aU E n,x∈g) (K:Mg ((aU E n).map L++[aU E n]) o) (hL:L n=n::o) (y:(aU E n).length<=100) (a0:g.length<=100) (ho:o.length<=900) (M:∀j,Ω.length<=j->P' j) :
  ∃s au,LN F G [oR e,a1,oR l,a3,oS n,a5] Ω=.nx [oR e,a1,oR l,a3,oS n,a5] au/\au[l]?=some (.dK s)/\aL P' au s (b9 (g++[n]) L)/\ag [l] Ω au:=by
 obtain⟨a,hv,_,t⟩:=hr.at hn;have N:=eZ (n:=n) (.inr he) hv
 obtain⟨c,H,K1⟩:=oQ (ρ:=[oR e,a1,oR l,a3,oS n,a5]) (me:=m2 (aQ .In) (aa 0) (aa 1)) (mi:=bg (m2 aM (aa 0) (aa 4))) (cap:=[2]) (p:=λx=>true) t (by
  rw[cg]
  show(aM (.ref e) (.str n) Ω).bind _=_
  rw[N,bU];exact aV (by rw[aF,ay t])) (λx O=>by
  show aQ .In (.str x) (.ref l) Ω=_
  rw[v_ (.inl I),i.is,bJ,decide_eq_true (h x O)]) (by omega)
 have H:Jw [oR e,a1,oR l,a3,oS n,a5] Ω=.ok (.bl true) c:=by
  have:((aU E n).all λ_=>true)=true:=by simp
  rw[this]at H;exact H
 have g2:(c++[Cell.lst [.str n]])[c.length]?=some (.lst [.str n]):=az;have w:ag [] Ω (c++[Cell.lst [.str n]]):=K1.trans ag.app
 have e0:(mN cD (ae (aa 4) aj)) [oR e,a1,oR l,a3,oS n,a5] c=.ok (.ref c.length) (c++[Cell.lst [.str n]]):=by
  show cD [.str n] c=_
  rw[oM,if_pos (aI (by simp))]
 generalize c++[Cell.lst [.str n]]=Q at *;have R:=w.get _ _ I (by simp)
 have z:=i.keep w (by simp)
 have S:=w.get _ _ t (by simp)
 have b0:=eZ (n:=n) (.inr (w.get _ _ he (by simp))) hv
 obtain⟨js,k,T,e3,R3,U,h3,_,_⟩:=hB Q l a f _ _ _ (.inl R) z S (by rw[bJ];exact h) y
 have A:(aU E n).map (aU (b9 g L))=(aU E n).map L:=List.map_congr_left λx O=>dE (h x O)
 rw[A]at R3;obtain⟨q,b,e4,V,lq,X⟩:=hM T k js _ o R3 K (by simp;omega) ho
 have c0:=oU (X.get _ _ (U.get _ _ g2 (by simp)) (by simp)) V (by simp;omega)
 have Y:ag [] Ω (b++[Cell.lst ([.str n]++o.map .str)]):=((w.trans U).trans X).trans ag.app;have g5:(b++[Cell.lst ([.str n]++o.map .str)])[b.length]?=some (.lst ((L n).map .str)):=by rw[hL];exact az
 have l4:Ω.length<=b.length:=((w.trans U).trans X).len
 have e5:LM F G [oR e,a1,oR l,a3,oS n,a5] c=.ok (.ref b.length) (b++[Cell.lst ([.str n]++o.map .str)]):=by
  unfold LM
  simp_all
 generalize b++[Cell.lst ([.str n]++o.map .str)]=m at *;have u:=Y.get _ _ I (by simp)
 have B:=i.keep Y (by simp)
 have C:=i.len;have Z:f.length<=1000:=by rw[←C];simp[b9];omega
 have f0:=jw (n:=n) (d:=.ref b.length) u Z;have K6:ag [l] m (m.set l (.dK (cK f (.inr n) (.ref b.length)))):=ag.set (by simp)
 refine⟨cK f (.inr n) (.ref b.length),m.set l (.dK (cK f (.inr n) (.ref b.length))),?_,aZ u,?_,(ek.up Y).trans K6⟩
 .unfold LN
  rw[ah,gz,H,gO,ki,iR,c_,if_pos rfl,ah,ah]
  have:cC (aa 2) (aa 4) (LM F G) [oR e,a1,oR l,a3,oS n,a5] c=.nx [oR e,a1,oR l,a3,oS n,a5] (m.set l (.dK (cK f (.inr n) (.ref b.length)))):=by
   unfold cC
   simp_all
  rw[this];rfl
 .have:=B.put (n:=n) (r:=L n) (by rw[bJ];exact J) (M _ l4) g5
  have h6:=this.dC K6 (λj hj ds=>by rw[List.mem_singleton.mp hj,u];simp)
  have:b9 g L++[(n,L n)]=b9 (g++[n]) L:=by simp[b9]
  rw[this]at h6;exact h6
def zK(f:aX):Prop:=∀(c:aA) (e:Nat) (b:List (Key×D)) (E:i_) (P:Nat->Prop) (L:Str->List Str),eD c e b->aL P c b E->Gd E->qV E L->(∀n∈nms E,(L n).length<=900) ->
 ∃l d a,f [.ref e] c=.ok (.ref l) a/\a[l]?=some (.dK d)/\aL (λj=>c.length<=j) a d (b9 (nms E) L)/\ag [e] c a/\a[e]?=some (.dF b)/\c.length<=l
theorem Jx{LO EF MG RB:aX}(hO:wa LO)(hE:sI EF)(hM:oP MG)(hB:oV RB):zK (bA 6 1 (LR LO EF MG RB)):=by
 intro Ω e Z E P L hd hr G hL q0;rw[cp (by rfl)]
 have e0:bu 6 [D.ref e]=[oR e,none,none,none,none,none]:=rfl;rw[e0];have P0:=G.few;have r0:(nms E).length=E.length:=by simp[nms]
 obtain⟨a,e1,K1,s0⟩:=hO Ω e Z E P hd hr G;have t0:=hr.dC K1 (λj J ds=>by rw[List.mem_singleton.mp J];exact hd.nl ds)
 have le:=hd.lt;have K2:ag [] a (a++[Cell.dK []]):=ag.app;have g2:(a++[Cell.dK []])[a.length]?=some (.dK []):=az;have l2:(a++[Cell.dK []]).length=a.length+1:=by simp
 have r2:aE 2 cU [oR e,some .non,none,none,none,none] a=.nx [oR e,some .non,oR a.length,none,none,none] (a++[Cell.dK []]):=rfl;generalize a++[Cell.dK []]=g at *;have K3:ag [] g (g++[Cell.dK []]):=ag.app;have g3:(g++[Cell.dK []])[g.length]?=some (.dK []):=az;have l3:(g++[Cell.dK []]).length=g.length+1:=by simp
 have r3:aE 3 cU [oR e,some .non,oR a.length,none,none,none] g=.nx [oR e,some .non,oR a.length,oR g.length,none,none] (g++[Cell.dK []]):=rfl;generalize g++[Cell.dK []]=C at *;have y:=K2.trans K3;have M:=y.get _ _ s0 (by simp)
 have a0:=t0.keep y (by simp)
 have u0:=K3.get _ _ g2 (by simp)
 obtain⟨u,z,m,e4,b0,F,I,X,N,lz⟩:=hE C e Z E P (.inr M) a0 G;have O:a.length≠e:=by have:=K1.len;omega
 have c0:g.length≠e:=by have:=K1.len;omega
 have f0:=X.get _ _ u0 (by simpa using O)
 have v0:=X.get _ _ g3 (by simpa using c0)
 have w0:=a0.dC X (λj J ds=>by rw[List.mem_singleton.mp J,M];simp)
 have Q0:u.length<=E.length:=by
  have:=il F.nd F.sub;omega
 have L0:=X.len;have M0:=K1.len
 have x0:ag [] C m:=⟨X.len,λk c Y _=>by
  by_cases h:k=e
  .subst h;rw[M]at Y;cases Y;exact N
  .exact X.get k c Y (by simpa using h)⟩
 have g0:bg (mN (aS EF) (ae (aa 0) aj)) [oR e,some .non,oR a.length,oR g.length,none,none] C=.ok (.seq (.ref z)) m:=by
  rw[cg];have:(mN (aS EF) (ae (aa 0) aj)) [oR e,some .non,oR a.length,oR g.length,none,none] C=.ok (.ref z) m:=by simp[e4]
  rw[this,bU];exact aV (by rw[aF,ay b0])
 have h0:∃l w b,eh (bN 4) (.seq (.ref z)) (LN MG RB) fuel 0 [oR e,some .non,oR a.length,oR g.length,none,none] m=.nx [oR e,some .non,oR a.length,oR g.length,w,none] b/\b[a.length]?=some (.dK l)/\aL (λj=>m.length<=j) b l (b9 u L)/\ag [a.length] m b:=by
  have y0:∀A,ag [a.length] m A->A[z]?=some (.lst (u.map .str)):=λA K=>K.get _ _ b0 (by simp;omega)
  refine bo (R:=λr=>∃l w b,r=.nx [oR e,some .non,oR a.length,oR g.length,w,none] b/\b[a.length]?=some (.dK l)/\aL (λj=>m.length<=j) b l (b9 u L)/\ag [a.length] m b) (ds:=u.map .str)
   (λi ρ b=>∃l w,ρ=[oR e,some .non,oR a.length,oR g.length,w,none]/\b[a.length]?=some (.dK l)/\aL (λj=>m.length<=j) b l (b9 (u.take i) L)/\ag [a.length] m b) ?_ ?_ ?_ fuel 0 _ _ (by unfold fuel;simp;omega) (Nat.zero_le _) ⟨[],none,rfl,f0,.nil,ag.refl⟩
  .rintro i ρ b ⟨_,_,_,_,_,K⟩
   rw[bY,aF,ay (y0 _ K)]
  .rintro i d ρ b Q ⟨l,w,rfl,B,S,K⟩
   obtain⟨n,x,rfl⟩:=dg Q;refine⟨[oR e,some .non,oR a.length,oR g.length,oS n,none],rfl,?_⟩;have H:=F.sub n (List.mem_of_getElem? x);obtain⟨o,z0,i0⟩:=hL n H;have ho:o.length<=900:=by have:=q0 n H;rw[i0]at this;simp at this;omega
   have s:=K.get _ _ N (by simpa using Ne.symm O)
   have T:=w0.dC K (λj J ds=>by rw[List.mem_singleton.mp J,f0];simp)
   have A0:n∉u.take i:=by
    intro hm;obtain⟨i',U⟩:=List.mem_iff_getElem?.mp hm;have C0:=(List.getElem?_eq_some_iff.mp U).1;rw[List.length_take]at C0;rw[List.getElem?_take_of_lt (by omega)]at U
    have:=(List.getElem?_inj (by omega) F.nd).mp (U.trans x.symm)
    omega
   obtain⟨j0,t,e6,h6,h7,K6⟩:=F8 (P':=λj=>m.length<=j) hM hB (n:=n) (a1:=some .non) (a3:=oR g.length) (a5:=none) s T B S H A0 (F.pre i n x) z0 i0 (G.short n H) (by rw[List.length_take];omega) ho (λj J=>Nat.le_trans K.len J)
   rw[e6];refine⟨j0,oS n,rfl,h6,?_,K.trans K6⟩;rw[List.take_succ,x];exact h7
  .rintro ρ b ⟨l,w,rfl,B,S,K⟩
   rw[List.length_map,List.take_length]at S;exact⟨l,w,b,rfl,B,S,K⟩
 obtain⟨l,w,b,e5,h5,T,K5⟩:=h0;have s:=K5.get _ _ N (by simpa using Ne.symm O)
 have D0:=K5.get _ _ v0 (by simp;omega)
 have l0:bg (aa 0) [oR e,some .non,oR a.length,oR g.length,w,none] b=.ok (.keys e) b:=by
  rw[cg]
  show srcOf b (.ref e)=_
  rw[lN (.inr s),set_same s]
 have V:∃p,eh (bN 4) (.keys e) LP fuel 0 [oR e,some .non,oR a.length,oR g.length,w,none] b=.nx [oR e,some .non,oR a.length,oR g.length,p,none] b:=by
  refine bo (R:=λr=>∃p,r=.nx [oR e,some .non,oR a.length,oR g.length,p,none] b) (ds:=(nms E).map .str)
   (λi ρ t=>t=b/\∃p,ρ=[oR e,some .non,oR a.length,oR g.length,p,none]) ?_ ?_ ?_ fuel 0 _ _ (by unfold fuel;simp;omega) (Nat.zero_le _) ⟨rfl,w,rfl⟩
  .rintro i ρ t ⟨rfl,_⟩
   rw[ik s,hr.keys]
  .rintro i d ρ t Q ⟨rfl,p,rfl⟩
   obtain⟨n,x,rfl⟩:=dg Q;refine⟨[oR e,some .non,oR a.length,oR g.length,oS n,none],rfl,?_⟩;have G0:=v_ (n:=n) (.inl D0)
   have:LP [oR e,some .non,oR a.length,oR g.length,oS n,none] t=.nx [oR e,some .non,oR a.length,oR g.length,oS n,none] t:=by
    unfold LP;rw[ah,gz]
    show sq (cw (dj (aQ .In (.str n) (.ref g.length) t)) _) _=_
    rw[G0];rfl
   rw[this];exact⟨rfl,_,rfl⟩
  .rintro ρ t ⟨rfl,p,rfl⟩
   exact⟨p,rfl⟩
 obtain⟨p,e6⟩:=V
 have m0:∀n∈nms E,∃j,(bQ l (.inr n)).getD .non=.ref j/\m.length<=j/\b[j]?=some (.lst ((L n).map .str))/\bQ l (.inr n)=oR j:=λn x=>by
  obtain⟨j,B,S,h3⟩:=T.at (n:=n) (by rw[bJ];exact I n x)
  rw[dE (I n x)]at h3;exact⟨j,by rw[B];rfl,S,h3,B⟩
 have n0:bg (aa 0) [oR e,some .non,oR a.length,oR g.length,p,none] b=.ok (.keys e) b:=by
  rw[cg]
  show srcOf b (.ref e)=_
  rw[lN (.inr s),set_same s]
 obtain⟨q,o0,e7,g7,K7,lq⟩:=lP (ρ:=[oR e,some .non,oR a.length,oR g.length,p,none]) (me:=mN f7 (ae (aa 0) (ae (m2 aM (aa 1) (aa 0)) aj))) (cap:=[2]) (ns:=nms E) (f:=λn=>(bQ l (.inr n)).getD .non) n0 (by rw[ik s,hr.keys]) (λn x=>by
  obtain⟨j,B,_,_,h4⟩:=m0 n x;have I0:=eZ (n:=n) (.inl h5) h4
  show(((aM (.ref a.length) (.str n) b).bind _).bind _).bind _=_
  rw[I0]
  show f7 [.str n,.ref j] b=_
  rw[ux,if_pos (aI (by simp)),B]) (by omega) G.nd
 have p0:ag [] a b:=⟨by have:=y.len;have:=K5.len;omega,λk c Y _=>K5.get k c (x0.get k c (y.get k c Y (by simp)) (by simp)) (by have:=bp Y;simp;omega)⟩
 refine⟨q,_,o0,?_,g7,?_,K1.trans (ek.up (p0.trans K7)),K7.get _ _ s (by simp),by have:=p0.len;omega⟩
 .unfold LR
  have r1:(aE 1 (mN (aS LO) (ae (aa 0) aj))) [oR e,none,none,none,none,none] Ω=.nx [oR e,some .non,none,none,none,none] a:=by simp[e1]
  have J0:(eU (m2 (aQ .IsNot) (aa 1) (ai .non)) (ak dw aq) aq) [oR e,some .non,none,none,none,none] a=.nx [oR e,some .non,none,none,none,none] a:=by simp
  rw[ah,r1,aJ,ah,J0,aJ,ah,r2,aJ,ah,r3,aJ,ah,bZ,g0,c_,e5,aJ,ah,bZ,l0,c_,e6,aJ,ah,iT];have K0:LQ [oR e,some .non,oR a.length,oR g.length,p,none] b=.ok (.ref q) o0:=e7;rw[K0];rfl
 .refine qW λn x=>?_
  obtain⟨j,B,S,h3,_⟩:=m0 n x;exact⟨j,B,by have:=y.len;omega,K7.get _ _ h3 (by simp)⟩
end
end Mir
namespace Mir
open PySem
inductive Sk:List (List Str)->Prop
 |stuck {rs}:(∃r∈rs,r≠[])->free rs=none->Sk rs
 |step {rs n}:(∃r∈rs,r≠[])->free rs=some n->Sk (rs.map (cZ n))->Sk rs
noncomputable def tot(rs:List (List Str)):Nat:=(rs.map List.length).sum
theorem nj(n:Str)(r:List Str):(cZ n r).length<=r.length:=by
 unfold cZ
 grind
theorem zL(n:Str):∀rs:List (List Str),tot (rs.map (cZ n))<=tot rs
 |[]=>Nat.le_refl _
 |r::rs=>by
  have h1:=nj n r;have a:=zL n rs;simp only[tot,List.map_cons,List.sum_cons]at *;omega
theorem sJ{n:Str}:∀{rs:List (List Str)},(∃r∈rs,∃t,r=n::t)->tot (rs.map (cZ n))<tot rs
 |[],⟨r,h,_⟩=>by simp at h
 |r0::rs,⟨r,h,t,e⟩=>by
  have h1:=nj n r0;have b:=zL n rs;rcases List.mem_cons.mp h with rfl|h
  .subst e
   have a:(cZ n (n::t)).length=t.length:=by unfold cZ;simp_all
   simp only[tot,List.map_cons,List.sum_cons,List.length_cons]at *;omega
  .have a:=sJ ⟨r,h,t,e⟩
   simp only[tot,List.map_cons,List.sum_cons]at *;omega
theorem zM:∀(m:Nat) (rs:List (List Str)),tot rs<m->(∃o,Mg rs o/\o.length<=tot rs)\/Sk rs:=by
 intro m
 induction m with
 |zero=>simp
 |succ m c=>
  intro rs h
  by_cases b:∃r∈rs,r≠[]
  .cases a:free rs with
   |none=>exact .inr (.stuck b a)
   |some n=>
    have d:=sJ (kh a).1;rcases c (rs.map (cZ n)) (by omega)with ⟨o,M,e⟩|S
    .exact .inl ⟨_,.step b a M,by simp;omega⟩
    .exact .inr (.step b a S)
  .refine .inl ⟨[],.done λr f=>?_,by simp⟩
   grind
section
variable{f:Str->Str}{rs:List (List Str)}
end
theorem qX:∀(xs ys:List Str),xs.Nodup->(∀x∈xs,x∈ys)->xs.length<=ys.length
 |[],_,_,_=>Nat.zero_le _
 |x::xs,ys,b,c=>by
  have a:=List.nodup_cons.mp b;have:=qX xs (ys.erase x) a.2 (by grind)
  grind
abbrev lQ:=Str×Str×Nat
structure wL(left:List (List Str))(met:List Str)(steps:List lQ)(name:Str):Prop where
 sec:steps.map (·.2.1)=met
 fst:steps.map (·.1)=(met++[name]).tail
 D6:∀s∈steps,∃t,left[s.2.2]?=some (s.1::t)/\s.2.1∈t
 nd:met.Nodup
 hds:∀m∈met++[name],∃r∈left,∃t,r=m::t
section
variable{left:List (List Str)}{met:List Str}{steps:List lQ}{name h:Str}{t:List Str}{p:Nat}
theorem wL.step(c:wL left met steps name)(e:name∉met)(d:left[p]?=some (h::t))(f:name∈t):wL left (met++[name]) (steps++[(h,name,p)]) h where
 sec:=by rw[List.map_append,c.sec];rfl
 fst:=by
  rw[List.map_append,c.fst];cases met<;>simp
 D6:=λs hs=>by
  rcases List.mem_append.mp hs with hs|hs
  .exact c.D6 s hs
  .rw[List.mem_singleton.mp hs];exact⟨t,d,f⟩
 nd:=List.nodup_append.mpr ⟨c.nd,by simp,λa g b i=>by rw[List.mem_singleton.mp i];exact λq=>e (q▸g)⟩
 hds:=λm hm=>by
  rcases List.mem_append.mp hm with hm|hm
  .exact c.hds m hm
  .rw[List.mem_singleton.mp hm];exact⟨_,List.mem_of_getElem? d,t,rfl⟩
theorem wL.le(c:wL left met steps name):met.length<=left.length:=by
 simpa using (qX met (left.map λr=>r.headD "") c.nd λm a=>by
  obtain⟨r,b,t,rfl⟩:=c.hds m (by simp[a])
  exact List.mem_map.mpr ⟨_,b,rfl⟩)
theorem wL.len(c:wL left met steps name):steps.length=met.length:=by rw[←c.sec,List.length_map]
structure uI(left:List (List Str))(ss:List lQ):Prop where
 ex:∃n R,ss.map (·.1)=n::R/\ss.map (·.2.1)=R++[n]/\(n::R).Nodup
 D6:∀s∈ss,∃t,left[s.2.2]?=some (s.1::t)/\s.2.1∈t
theorem wL.ring(c:wL left met steps name)(d:name∈met):uI left (steps.drop (met.idxOf name)).reverse:=by
 have a:=List.idxOf_lt_length_of_mem d;have e:=List.getElem_idxOf a;have b:met.drop (met.idxOf name)=name::met.drop (met.idxOf name+1):=by rw[List.drop_eq_getElem_cons a,e]
 generalize met.idxOf name=j at *;have f:(name::met.drop (j+1)).Nodup:=by rw[←b];exact c.nd.sublist (List.drop_sublist _ _)
 have g:(steps.drop j).map (·.1)=met.drop (j+1)++[name]:=by
  rw[List.map_drop,c.fst,List.drop_tail,List.drop_append_of_le_length (by omega)]
 have h:(steps.drop j).map (·.2.1)=name::met.drop (j+1):=by rw[List.map_drop,c.sec,b]
 refine⟨⟨name,(met.drop (j+1)).reverse,?_,?_,?_⟩,λs i=>c.D6 s (by grind)⟩
 .simp_all
 .simp_all
 grind
end
end Mir
namespace L2
open PySem PySem.Spec PyProof.Rows
section
variable{prog:Program}{w:World}{A:Around}{R:Result->Shared->Prop}{h:Heap}{g:Array GenState}{d:Drawn}{t:Nat}{os:OsState}
variable{nm q:Str}{C N f:Addr}{bs bm bmB:List Value}{hdct:Bool}{sn:List Str}{sub:List Value}{ab:Bool}{col:Option Bool}{dd:Option Addr}{k0 k1 k2 k3 k5:Option Value}{B newId initId:String}
abbrev gT(h:Heap)(C:Addr)(rest:List Value):Heap:=(h.push {cls:=.type "tuple",data:=.seq rest.toArray}).push {cls:=.ref C,data:=.fields #[.ref h.objs.size,.none,.none,.none,.bool false,.none]}
theorem mn(F:ExcBaseFacts B newId initId bmB)(T:OwnTail h bmB bm){mN:Str->Option Value}{rest:List Value}
  (j:h.get? C=some (excClassObj nm q C N bs bm hdct sn sub ab col dd k0 k1 k2 k3 k5 newId)) (s:h.Ns N mN) (m:mN "__init__"=some (.ref f))
  (u:∀self,PySem.W.Looks (model prog w) h (bindSpecial (.ref f) self) (.ref f,[self])) (c:rest.length<=sizeLine)
  {Q:Fin->Shared->Prop}{E:Value->Shared->Prop}
  (x:codeAny (model prog w) A (.call (.ref f) ⟨.ref (h.objs.size+1)::rest,[]⟩) (λr n=>match r with|.ok (.ret v)=>v=.none/\Q (.done (.ret (.ref (h.objs.size+1)))) n|.ok _=>False|.error e=>E e n) ⟨gT h C rest,g,d,t,os⟩) :
  wpAny (model prog w) A (Builtin.«type.__call__» ⟨.ref C::rest,[]⟩) Q E ⟨h,g,d,t,os⟩:=by
 repeat (first|with_reducible refine wpAny_loadPart_at j ?_|with_reducible refine wpAny_madeBy_exc j ?_|wp_step)
 refine codeAny_call_builtin_code (Code.quiet_builtin _ F.quiet) (wpAny_check_new_subT F T j ?_);refine codeAny_exc_new_subT F T j ?_ c
 show wpAny _ _ _ _ _ _
 have k:∀b o,h.get? b=some o->(gT h C rest).get? b=some o:=λb o e=>Heap.get?_push_of_some _ (Heap.get?_push_of_some _ e)
 have a:=k _ _ j;have i:(gT h C rest).Ns N mN:=let ⟨o,es,ep,e,r⟩:=s;⟨o,es,ep,k _ _ e,r⟩
 have p:(Value.ref C::bm).contains (.ref C)=true:=by simp
 have l:=T.keeps k;have y:=(u (.ref (h.objs.size+1))).keeps k;unfold isInstance
 repeat (first|with_reducible refine wpAny_loadPart_at hget ?_ | (with_reducible refine wpAny_isSubtype_exc a ?_;rw[p])|wp_step)
 show wpAny _ _ (typeLookup (.ref C) _) _ _ _
 refine wpAny_typeLookup_tail a i l F.mroIs F.init.lookup ?_;rw[m];refine wpAny_holding (wpAny_bind (y.at ?_));refine wpAny_bind (wpAny_call (codeAny_mono x λr n z=>?_))
 rcases r with e | (v|_|_|_)<;>first|exact z|exact z.elim|skip
 obtain⟨rfl,z⟩:=z;exact wpAny_pure (wpAny_pure z)
theorem zN(F:ExcBaseFacts B newId initId bmB)(T:OwnTail h bmB bm){mN:Str->Option Value}{rest:List Value}
  (c:h.get? C=some (excClassObj nm q C N bs bm hdct sn sub ab col dd k0 k1 k2 k3 k5 newId)) (e:h.Ns N mN) (b:mN "__init__"=some (.ref f))
  (i:∀self,PySem.W.Looks (model prog w) h (bindSpecial (.ref f) self) (.ref f,[self])) (a:rest.length<=sizeLine)
  (j:codeAny (model prog w) (A.under (.builtin "type.__call__" ⟨.ref C::rest,[]⟩)) (.call (.ref f) ⟨.ref (h.objs.size+1)::rest,[]⟩) (PySem.W.InitBack (h.objs.size+1) R) ⟨gT h C rest,g,d,t,os⟩) :
  codeAny (model prog w) A (.call (.ref C) ⟨rest,[]⟩) R ⟨h,g,d,t,os⟩:=by
 have k:=tc_lookup;have l:=tc_bind (.ref C);refine codeAny_of_tree ?_
 repeat (any_goals (first|assumption|rfl|wp_step))
 refine⟨rfl,?_⟩;refine codeAny_call_builtin_at (Code.quiet_builtin _ (by decide +kernel)) entry_typeCall (wpAny_check_type_call_sub c (mn F T c e b i a ?_))
 exact j
end
end L2
namespace L2
open PySem PySem.Spec PyProof.Rows
open PySem.W (clsIn findIn takerIn InstAt)
open PySem.Builtin PySem.Builtin.ObjectAttr PySem.Builtin.Getset_descriptor
section
variable{K:PySem.W.Frag}{prog:Program}{w:World}{A:Around}{E:Value->Shared->Prop}{s:Shared}{x C:Addr}{name:Str}{v:Value}{R:Result->Shared->Prop}
abbrev oX:List Value:=[.type "ValueError",.type "Exception",.type "BaseException",.type "object"]
noncomputable def fe:List Value->Bool
 |.ref _::r=>fe r
 |l=>l==oX
theorem nk(self:Value):∀{l:List Value},fe l=true->refuseLoop self "__setattr__" l=pure ()
 |[],e=>by rfl
 |a::r,e=>by
  cases a with
  |ref c=>rw[refuseLoop_ref];exact nk _ e
  |_=>rw[eq_of_beq (e)];exact PySem.F.store_ValueError.passes _
theorem zO:∀{l:List Value},fe l=true->l.contains (.type "object")=true
 |[],e=>by simp[fe]at e
 |a::r,e=>by
  cases a with
  |ref c=>rw[List.contains_cons,zO (l:=r) e,Bool.or_true]
  |_=>rw[eq_of_beq (e)];decide
theorem uJ{o:Obj}{p:Option Obj}{tk:Tok}{g:ClassData}(X:K.In s.heap)(I:InstAt s.heap x o C p)(m:clsIn K C=some g)(i:fe g.mro=true)(r:takerIn K C name=some none)
  (h:∀b,wpAny (model prog w) A.in1 (storeInOwnDict (.ref x) (.ref C) (.str name tk) name v b) (λk j=>match k with|.done f=>R (.ok f) j|.again n=>n.quiet=true/\codeAny (model prog w) A n R j) (λe j=>R (.error e) j) s) :
  codeAny (model prog w) A (.call (.builtin "object.__setattr__") ⟨[.ref x,.str name tk,v],[]⟩) R s:=by
 have d:=PySem.F.store_object
 have D:g.mro.isEmpty=false:=by cases q:g.mro with
  |nil=>rw[q]at i;simp[fe]at i
  |cons _ _=>rfl
 have l:PySem.W.Looks (model prog w) _ (isInstance _ _) _:=I.type.andThen (PySem.W.looks_mroIn X (by unfold PySem.W.mroIn;rw[m,Option.bind_some,if_neg (by grind),zO i]))
 refine codeAny_call_builtin d.slot.plain d.entry (@PySem.W.check_slot _ _ _ s _ _ _ _ _ [] _ d.kind d.split l (d.args _ _ _) ?_);obtain⟨c,t,u⟩:=Option.bind_eq_some_iff.mp r;have y:PySem.W.Looks (model prog w) _ (mroOf (.ref C)) _:=(PySem.W.looks_clsIn X m).andThen .now
 have z:PySem.W.Looks (model prog w) s.heap (storeTaker? c) none:=by
  cases c with
  |none=>exact .now
  |some a=>
   obtain⟨b,B,e⟩:=Option.map_eq_some_iff.mp u;refine(PySem.W.looks_takesIn X B).andThen ?_;cases b with
   |true=>cases e
   |false=>exact .now
 rw[PySem.W.osa_eq,refuse_eq];refine wpAny_bind (wpAny_bind (I.type.here (wpAny_bind (y.here ?_))));rw[nk _ i];refine wpAny_pure (wpAny_bind (I.type.here (wpAny_bind ((PySem.W.looks_findIn X t).here (wpAny_bind (z.here ?_))))));exact h _
theorem CW{vs:Array Value}{d:Array (Option Value)}{k:ClassData}{Q:Unit->Shared->Prop}(X:K.In s.heap)(j:s.heap.get? x=some ⟨.ref C,none,.fields vs,d⟩)(u:clsIn K C=some k)(z:fe k.mro=true)(B:k.hasDict=true)
  (D:findIn K (.ref C) "__setattr__"=some (some (.builtin "object.__setattr__"))) (F:takerIn K C name=some none)
  (h:∀c t',c.get? x=some ⟨.ref C,some s.heap.objs.size,.fields vs,d⟩->c.Ns1 s.heap.objs.size (λy=>if y=name then some v else none)->(∀b o,b≠x->s.heap.get? b=some o->c.get? b=some o)->Q () {s with heap:=c,toks:=t' }) :
  wpAny (model prog w) A (setAttr (.ref x) name v) Q E s:=by
 have I:InstAt _ x ⟨_,_,_,d⟩ C none:=⟨j,rfl,rfl,trivial⟩;refine PySem.W.set_plain X I D (uJ X I u z F λb=>?_)
 have a:(s.heap.push {cls:=.type "dict",data:=.dict #[]}).get? x=some ⟨_,_,_,d⟩:=Heap.get?_push_of_some _ j;have f:=Nat.ne_of_lt (Heap.lt_size j);refine wpAny_bind (wpAny_pure (wpAny_bind (wpAny_bind (wpAny_loadPart j (wpAny_bind (PySem.W.Looks.here (PySem.W.looks_clsIn X u) ?_))))));rw[B];refine wpAny_bind (wpAny_alloc' (wpAny_bind (wpAny_update' a (wpAny_pure ?_))))
 have l:((s.heap.push _).update x λo=>{o with dict:=some s.heap.objs.size}).get? _=some {cls:=.type "dict",data:=.dict #[]}:=
  (Heap.get?_update_ne _ _ _ _ f.symm).trans (Heap.get?_push_at rfl rfl)
 have m:((s.heap.push _).update x _).Ns _ _:=
  ⟨_,_,_,l,rfl,λe G=>absurd G (by simp),λ_=>rfl⟩
 have n:((s.heap.push _).update x λo=>{o with dict:=some s.heap.objs.size}).get? x=some ⟨_,_,_,d⟩:=Heap.get?_update_self _ a rfl
 have p:∀b o,b≠x->s.heap.get? b=some o->((s.heap.push {cls:=.type "dict",data:=.dict #[]}).update x λo=>{o with dict:=some s.heap.objs.size}).get? b=some o:=λb o q e=>
  (Heap.get?_update_ne _ _ _ _ q).trans (Heap.get?_push_of_some _ e)
 refine wpAny_bind (wpAny_pure (wpAny_bind (wpAny_nsSet1 (Heap.Ns1.of_empty m) λc g i=>?_)))
 obtain⟨M,H,J,r,t,L⟩:=g.count (Within.cons _ v Within.nil);refine wpAny_bind (wpAny_lookBehind r (by rw[t];exact pastItsLine_dict (by grind)) ?_)
 refine wpAny_pure (h c _ ((i.2 x f).trans n) g λb o q e=>(i.2 b (Nat.ne_of_lt (Heap.lt_size e))).trans (p b o q e))
end
end L2
namespace L2
open PySem PySem.Spec PyProof.Rows
section
variable{prog:Program}{w:World}{A:Around}{R:Result->Shared->Prop}{h:Heap}{g:Array GenState}{d:Drawn}{t:Nat}{os:OsState}
variable{nm q:Str}{C N e:Addr}{bs bm bmB:List Value}{hdct:Bool}{sn:List Str}{sub:List Value}{ab:Bool}{col:Option Bool}{dd od:Option Addr}{k0 k1 k2 k3 k5:Option Value}{B newId initId:String}{a0:Addr}{sl:Array (Option Value)}
theorem mq(F:ExcBaseFacts B newId initId bmB)(T:OwnTail h bmB bm){rest:List Value}
  (k:h.get? C=some (excClassObj nm q C N bs bm hdct sn sub ab col dd k0 k1 k2 k3 k5 newId)) (c:h.get? e=some ⟨.ref C,od,.fields #[.ref a0,.none,.none,.none,.bool false,.none],sl⟩) (f:rest.length<=sizeLine)
  (l:∀a,a.get? e=some ⟨.ref C,od,.fields #[.ref h.objs.size,.none,.none,.none,.bool false,.none],sl⟩->a.get? h.objs.size=some {cls:=.type "tuple",data:=.seq rest.toArray}->(∀b o,b≠e->h.get? b=some o->a.get? b=some o)->R (.ok (.ret .none)) ⟨a,g,d,t,os⟩) :
  codeAny (model prog w) A (.call (.builtin initId) ⟨.ref e::rest,[]⟩) R ⟨h,g,d,t,os⟩:=by
 refine codeAny_call_builtin F.init.plain F.initEntry (wpAny_check_init_subT F T k c rfl ?_);have i:=Heap.get?_push_of_some (h:=h) {cls:=.type "tuple",data:=.seq rest.toArray} c;have j:h.objs.size≠e:=Nat.ne_of_gt (Heap.lt_size c)
 wp_walk
 refine l _ ?_ ?_ λb o m n=>?_
 .exact Heap.get?_update_self _ i rfl
 .rw[Heap.get?_update_other _ _ (Ne.symm j)]
  exact Heap.get?_push_at rfl rfl
 .rw[Heap.get?_update_other _ _ (Ne.symm m)]
  exact Heap.get?_push_of_some _ n
end
end L2
namespace L2
open PySem PySem.Spec PyProof.Rows
open PySem.W (clsIn findIn takerIn InstAt Looks mroIn)
structure zP(K:PySem.W.Frag)(C:Addr):Prop where
 ga:findIn K (.ref C) "__getattribute__"=some (some (.builtin "BaseException.__getattribute__"))
 gn:findIn K (.ref C) "__getattr__"=some none
 be:mroIn K C (.type "BaseException")=some true
section
variable{prog:Program}{w:World}{A:Around}{E:Value->Shared->Prop}{h:Heap}{g:Array GenState}{d:Drawn}{t:Nat}{os:OsState}{K:PySem.W.Frag}{x C:Addr}{ox:Obj}{od:Option Obj}{Jy:Value}
theorem zQ{Q:Unit->Shared->Prop}(X:K.In h)(I:InstAt h x ox C od)(G:zP K C)(b:Q () ⟨h,g,d,t,os⟩):wpAny (model prog w) A (checkBuiltinCall "BaseException.__getattribute__" ⟨[.ref x,Jy],[]⟩) Q E ⟨h,g,d,t,os⟩:=by
 have c:builtinKind "BaseException.__getattribute__"=some .slot:=by decide +kernel
 have a:splitId "BaseException.__getattribute__"=some ("BaseException","__getattribute__"):=by decide +kernel
 have L:Looks (model prog w) h (isInstance (.ref x) (.type "BaseException")) true:=(I.type).andThen (PySem.W.looks_mroIn X G.be);refine wpAny_bind (L.at ?_)
 repeat (any_goals (first|assumption|wp_step))
theorem CY{v:Value}{t':Nat}{R:Result->Shared->Prop}(X:K.In h)(I:InstAt h x ox C od)(G:zP K C)(a:∀(Q:Fin->Shared->Prop) (E:Value->Shared->Prop),Q (.done (.ret v)) ⟨h,g,d,t',os⟩->wpAny (model prog w) A.in1 (Builtin.«object.__getattribute__» ⟨[.ref x,Jy],[]⟩) Q E ⟨h,g,d,t,os⟩)
  (b:R (.ok (.ret v)) ⟨h,g,d,t',os⟩):codeAny (model prog w) A (.call (.builtin "BaseException.__getattribute__") ⟨[.ref x,Jy],[]⟩) R ⟨h,g,d,t,os⟩:=
 codeAny_call_builtin F.attr_ValueError.ga.plain F.entry_bexc_ga (zQ X I G (a _ _ b))
theorem Jz{v:Value}{t':Nat}{fill a:Bool}{Q:Value->Shared->Prop}(X:K.In h)(I:InstAt h x ox C od)(G:zP K C)(b:∀(A:Around) (Q:Fin->Shared->Prop) (E:Value->Shared->Prop),Q (.done (.ret v)) ⟨h,g,d,t',os⟩->wpAny (model prog w) A (Builtin.«object.__getattribute__» ⟨[.ref x,Jy],[]⟩) Q E ⟨h,g,d,t,os⟩)
  (c:handedOut v=pure v) (e:Q v ⟨h,g,d,t',os⟩):wpAny (model prog w) A (getAttrBy (.ref x) Jy fill a) Q E ⟨h,g,d,t,os⟩:=by
 have f:=I.type (M:=model prog w);have L1:=PySem.W.looks_findIn (M:=model prog w) X G.ga;have L2:=PySem.W.looks_findIn (M:=model prog w) X G.gn;have k:=F.attr_ValueError.ga.bind (.ref x);have i:(a&&onTheHeap (Value.builtin "BaseException.__getattribute__"))=false:=by cases a<;>rfl
 have j:(Value.builtin "BaseException.__getattribute__"==Value.builtin "object.__getattribute__")=false:=by rfl
 refine wpAny_holding (wpAny_bind (f.at (wpAny_bind (L1.at ?_))))
 show wpAny _ _ (if (onTheHeap (.ref C)&&Value.builtin _==Value.builtin _)=true then _ else _) _ _ _
 rw[if_neg (by simp)]
 unfold getAttrByItsOwn hookBefore;refine wpAny_bind (L2.at ?_)
 repeat (any_goals (first|wp_step))
 refine CY X I G (b _) ?_
 show wpAny _ _ (handedOut v) _ _ _
 rw[c];exact wpAny_pure e
theorem CZ{v:Value}{name:Str}{a:Bool}{Q:Value->Shared->Prop}(X:K.In h)(I:InstAt h x ox C od)(G:zP K C)(b:PySem.W.findObj K C od name=some (.value v))(c:PySem.W.handedIn v=true)(e:Q v ⟨h,g,d,t+1,os⟩) :
  wpAny (model prog w) A (getAttr (.ref x) name a) Q E ⟨h,g,d,t,os⟩:=by
 refine wpAny_bind (wpAny_mkText (Jz X I G (λi j k q=>?_) (PySem.W.handedOut_of c) e))
 have f:=I.type (M:=model prog w);have L1:=PySem.W.looks_find (M:=model prog w) X I b;refine wpAny_bind (wpAny_pure (wpAny_bind (wpAny_pure (wpAny_bind (f.at (wpAny_bind (L1.at ?_)))))));exact wpAny_pure q
end
end L2
namespace L2
open PySem PySem.Spec PyProof.Rows
open PySem.W (clsIn findIn takerIn InstAt)
structure lR(K:PySem.W.Frag)(C N fI:Addr):Prop where
 ex:∃(nm q:Str) (bs bm:List Value) (sn:List Str) (sub:List Value) (ab:Bool) (col:Option Bool) (dd:Option Addr) (k0 k1 k2 k3 k5:Option Value),
  K.lookup C=some (excClassObj nm q C N bs bm true sn sub ab col dd k0 k1 k2 k3 k5 "ValueError.__new__")/\(∀h:Heap,K.In h->OwnTail h oX bm)
 cd:∃cd,clsIn K C=some cd/\fe cd.mro=true/\cd.hasDict=true
 sa:findIn K (.ref C) "__setattr__"=some (some (.builtin "object.__setattr__"))
 xg:zP K C
 hd:PySem.W.hasDictIn K C=true
 ns:∀h:Heap,K.In h->∃mN,h.Ns N mN/\mN "__init__"=some (.ref fI)
 kp:PySem.W.keepIn K (.ref C)=true
 fn:PySem.W.typeIn K (.ref fI)=some (.type "function")
noncomputable def bB(C:Addr)(a:Option Addr)(t:Addr):Obj:=⟨.ref C,a,.fields #[.ref t,.none,.none,.none,.bool false,.none],#[]⟩
section
variable{X:Cx}{pins:List (Addr×Obj)}{σ:St}{H:Hp}{s:Shared}{e C N fI t:Addr}{fld:Str}
theorem Inv.zR(I:Inv X [] σ H s){o:Obj}(h:s.heap.get? e=some o)(a:H e=none)(b:e≠X.env.locals)(c:e∉X.fs)(d:∀v,o.data≠.cell v):Inv X [(e,o)] σ H s:=
 ⟨I.ok,I.os,I.bare,I.base,I.loc,I.cell,I.free,I.cq,λp f=>by
  rcases List.mem_append.mp f with q|q
  .exact I.pin p (by simp[q])
  .rw[List.mem_singleton.mp q];exact⟨h,a,b,c,d⟩,I.hok,I.len⟩
theorem Inv.zS(I:Inv X pins σ H s):Inv X [] σ H s:=
 ⟨I.ok,I.os,I.bare,I.base,I.loc,I.cell,I.free,I.cq,λp a=>I.pin p (by simp_all),I.hok,I.len⟩
theorem uK{Q:Value->Shared->Prop}{E:Value->Shared->Prop}{A:Around}{v:V}{b:Bool}{dd:Addr}{o:Obj}{c:List (Str×V)}(I:Inv X pins σ H s)(T:lR X.K C N fI)(f:dO X.K C fld)(i:s.heap.get? e=some o)(j:o.cls=.ref C)(k:o.dict=some dd)(a:PySem.W.notCls o=true)
  (m:H dd=some (.xd c)) (z:c.lookup fld=some v) (h:∀u,RelV v u->Inv X pins σ H {s with toks:=s.toks+1}->Q u {s with toks:=s.toks+1}):wpAny (model X.prog X.w) A (getAttr (.ref e) fld b) Q E s:=by
 obtain⟨p,n,r⟩:=I.hok dd _ m;obtain⟨u,q,d⟩:=hP.some_of (v:=v) (o:=p fld) (by grind)
 obtain⟨t,g,l⟩:=gF n;have J:InstAt _ e o C (some t):=⟨i,j,a,by grind⟩
 have x:=h u d (I.tok _);have y:=I.fU;exact CZ y J T.xg (PySem.W.findObj_own T.hd f (by rfl) (by rw[l,q])) (vg d) x
end
end L2
namespace L2
open PySem PySem.Spec PyProof.Rows
open PySem.W (clsIn findIn takerIn InstAt)
section
variable{X:Cx}{pins:List (Addr×Obj)}{σ:St}{H:Hp}{s:Shared}{e C N fI t dd:Addr}{fld:Str}{o o':Obj}{h':Heap}
structure wb(X:Cx)(e:Addr):Prop where
 new:e∈X.ex\/X.s₀.heap.objs.size<=e
 cell:∀x c,X.env.cells.lookup x=some c->c≠e
 pn:∀p∈X.pn,p.1≠e
theorem Inv.QA{t':Nat}(I:Inv X [(e,o)] σ H s)(F:wb X e)(i:h'.get? e=some o')(j:∀b ob,b≠e->s.heap.get? b=some ob->h'.get? b=some ob)(k:∀v,o'.data≠.cell v):Inv X [(e,o')] σ H {s with heap:=h',toks:=t' }:=by
 obtain⟨B,l,f,n,C⟩:=I.pin (e,o) (by simp)
 have r:=I.zS;have keep:∀b o,b∉[e]->s.heap.get? b=some o->h'.get? b=some o:=λb o c q=>j b o (by simp_all) q
 have J:Inv X [] σ H {s with heap:=h',toks:=t' }:=by
  refine r.step (λb c=>?_) (λb o _ _ c q _=>keep b o c q) (λb o _ _ c q _=>⟨_,keep b o c q⟩) (λb o c q g=>g) (λb o c q=>⟨o,keep b o c q⟩) (λb t q=>q) (λb o h q=>q) (λb D q=>⟨#[],by simp_all⟩) (λm g=>?_) ?_ I.bare
  .rw[List.mem_singleton.mp c]
   exact⟨F.new,f,F.cell,λp E=>F.pn p (by simp_all)⟩
  .obtain⟨o,w,x,y,A⟩:=g
   exact⟨o,w,x,keep _ o (by simp[Ne.symm f]) y,A⟩
  .intro a u q
   refine(I.hok a u q).stay (λb h c d=>keep b h (λz=>?_) d) (λb d=>d) λb t d=>d
   grind
 exact J.zR i l f n k
structure XBase(K:PySem.W.Frag)(mg:Str->Option Value)(bn:Str)(B0:Addr):Prop where
 mg:mg bn=some (.ref B0)
 ga:PySem.W.specialIn K (.ref B0) "__getattribute__"=some (some (.builtin "type.__getattribute__"))
 rd:PySem.W.readsIn K B0 (.type "type")=true
 ini:PySem.W.findCls K (.ref B0) (.type "type") "__init__"=some (.val (.builtin "ValueError.__init__"))
end
end L2
namespace L2
open PySem PySem.Spec PyProof.Rows
section
variable{X:Cx}{pins:List (Addr×Obj)}{σ:St}{H:Hp}{s:Shared}{e:Addr}
noncomputable def Cx.mk1(X:Cx)(e:Addr):Cx:={X with ex:=[e]}
theorem Inv.mk1(I:Inv X pins σ H s)(i:X.ex=[])(d:e≠X.env.locals)(f:∀x c,X.env.cells.lookup x=some c->c≠e)(g:∀o,X.base.get? e≠some o)(j:e∉X.fs):Inv (X.mk1 e) pins σ H s:=
 ⟨⟨I.ok.mod,I.ok.kind,I.ok.glob,I.ok.blt,I.ok.above,I.ok.inj,I.ok.has,I.ok.cab,I.ok.hd,I.ok.frames,I.ok.wJ,λb a=>by rw[List.mem_singleton.mp a];exact⟨d,f⟩,I.ok.bs,I.ok.pe,λb o q a=>by rw[List.mem_singleton.mp a]at q;exact g o q,λb a=>by rwa[List.mem_singleton.mp a],I.ok.eR,I.ok.rj⟩,
  I.os,I.bare,I.base.mono (λ_ h=>h) (by simp_all),I.loc,I.cell,I.free,I.cq,I.pin,I.hok,I.len⟩
end
section
variable{P:Program}{w:World}{K:PySem.W.Frag}{mg:Str->Option Value}{base:Heap}
end
section
variable{M:Model}{A:Around}{E:Value->Shared->Prop}{s:Shared}
structure uL(l:List Env)(e:Addr)(oe:Obj)(T:Addr)(h h':Heap):Prop where
 keep:∀b o,b≠e->b∉frs l->h.get? b=some o->h'.get? b=some o
 slot:∀b o,b≠e->h.get? b=some o->∃sl,h'.get? b=some {o with slots:=sl}
 at_:h'.get? e=some (oe.mapFields (·.setIfInBounds 1 (.ref T)))
 tb:∃oT ts,h'.get? T=some oT/\oT.data=.fields ts/\ts[3]?=some .none
 new:h.objs.size<=T
def sL(h:Heap)(vs:Array Value):Prop:=vs[1]?=some .none\/∃c a b,vs[1]?=some (.ref c)/\h.get? c=some a/\a.data=.fields b/\b[3]?=some .none
theorem uM{base:Heap}{env:Env}{outer:List Env}{L e:Addr}{C:Obj}{vs:Array Value}{head:Value}{g:Bool}{Q:Unit->Shared->Prop}
  (D:A.frames=some (env::outer)) (I:s.heap.FunFrames base (env::outer)) (N:env.frame=some L) (O:s.heap.get? e=some C) (J:C.data=.fields vs) (r:1<vs.size)
  (h:∀K T,uL (env::outer) e C T s.heap K->Q () {s with heap:=K}) :
  wpAny M A (do let a ←frameOf env;let B ←entryPlaceOf L g;let b ←EntryCells.newEntry head a .none (rawInt L) .none B;setField (.ref e) 1 b) (λ_ P=>wpAny M A (setFlight (.ref e) none) Q E P) E s:=by
 have t:e∉frs (env::outer):=λR=>by
  obtain⟨_,o,V,S⟩:=I.mem R
  grind
 refine wpAny_bind (wpAny_frameOf_fun D I N λc d=>?_)
 refine wpAny_bind (wpAny_entryPlaceOf λB F=>?_)
 refine wpAny_bind (wpAny_newObj_type ?_ (F.sizeOk5 _ _ _ _ _));have i:=(d.2.1 e t).trans O;generalize u:({cls:=.type "traceback",dict:=none,data:=.fields _}:Obj)=p at *;have j:p.data=.fields ([head,.ref L,.none,rawInt L,.none]++(if B.isEmpty then List.replicate 6 Value.none else B)).toArray:=by rw[←u]
 have w:p.isFreed=false:=by rw[←u];rfl
 have k:=Heap.get?_push_of_some (h:=c) p i;have y:=Nat.ne_of_gt (Heap.lt_size i);refine wpAny_setField k J r ?_;have l:=Obj.data_mapFields J (·.setIfInBounds 1 (Value.ref c.objs.size));have m:=Heap.get?_update_self _ k (Obj.isFreed_of_fields l);have n:((c.push p).update e (Obj.mapFields (·.setIfInBounds 1 (Value.ref c.objs.size)))).get? c.objs.size=some p:=(Heap.get?_update_other _ _ (Ne.symm y)).trans (Heap.get?_push_size c w);unfold setFlight;refine wpAny_bind (wpAny_field m l (x:=.ref c.objs.size) (by simp[r]) ?_)
 refine wpAny_setField n j (by simp) (h _ c.objs.size ?_)
 have keep:∀b o,b≠e->c.get? b=some o->(((c.push p).update e (Obj.mapFields (·.setIfInBounds 1 (Value.ref c.objs.size)))).update c.objs.size (Obj.mapFields (·.setIfInBounds 3 ((none:Option Addr).elim Value.none λf=>rawInt f)))).get? b=some o:=λb o G z=>by
  have H:c.objs.size≠b:=Nat.ne_of_gt (Heap.lt_size z);rw[Heap.get?_update_other _ _ H,Heap.get?_update_other _ _ (Ne.symm G)];exact Heap.get?_push_of_some _ z
 refine⟨λb o z U q=>keep b o z ((d.2.1 b U).trans q),λb o z q=>?_,?_,?_,by rw[d.1];exact Nat.le_refl _⟩
 .obtain⟨X,Y⟩:=d.2.2 b o q
  grind
 .rw[Heap.get?_update_other _ _ y];exact m
 .exact⟨_,_,Heap.get?_update_self _ n (Obj.isFreed_of_fields (Obj.data_mapFields j _)),Obj.data_mapFields j _,by simp⟩
theorem zT{base:Heap}{env:Env}{outer:List Env}{L e:Addr}{f:Obj}{vs:Array Value}{Q:Unit->Shared->Prop}
  (a:A.frames=some (env::outer)) (k:s.heap.FunFrames base (env::outer)) (g:env.frame=some L) (c:s.heap.get? e=some f) (d:f.data=.fields vs) (b:sL s.heap vs)
  (h:∀l T,uL (env::outer) e f T s.heap l->Q () {s with heap:=l}) :
  wpAny M A (noteFrame (.ref e) env) (λ_ n=>wpAny M A (setFlight (.ref e) none) Q E n) E s:=by
 unfold noteFrame;simp only[g];rcases b with b|⟨o,p,q,b,i,j,m⟩
 .refine wpAny_bind (wpAny_field c d b ?_)
  exact uM a k g c d (by grind) h
 .refine wpAny_bind (wpAny_field c d b ?_)
  refine wpAny_bind (wpAny_field i j m ?_);refine wpAny_bind (wpAny_setField i j (by grind) ?_)
  rw[Heap.update_setField_same _ o _ _ 3 _ i j m];exact uM a k g c d (by grind) h
theorem wc{base:Heap}{env:Env}{outer:List Env}{L e:Addr}{a:Obj}{vs:Array Value}{Q:Unit->Shared->Prop}
  (b:A.frames=some (env::outer)) (d:s.heap.FunFrames base (env::outer)) (f:env.frame=some L) (g:s.heap.get? e=some a) (i:a.data=.fields vs) (j:sL s.heap vs)
  (h:∀c T,uL (env::outer) e a T s.heap c->Q () {s with heap:=c}):wpAny M A (leaving env (.ref e)) Q E s:=by
 exact wpAny_bind (zT b d f g i j h)
end
section
variable{X:Cx}{pins:List (Addr×Obj)}{σ:St}{H:Hp}{s:Shared}{C N0 f c:Addr}{fd:FuncData}{st:Stmt}{qual fld sf pn:Str}{ve:Expr}{k:Nat}{v0:V}{u:Value}{ff:VK}
end
section
variable{M:Model}{A:Around}{E:Value->Shared->Prop}{s:Shared}{env:Env}
variable{nm q:Str}{C N:Addr}{bs bm:List Value}{hdct:Bool}{sn:List Str}{sub:List Value}{ab:Bool}{col:Option Bool}{dd:Option Addr}{k0 k1 k2 k3 k5:Option Value}{newId:String}
theorem sM{x:Sem Value}{Q:Flow->Shared->Prop}(b:bm.contains (.type "BaseException")=true)(k:A.handled=none)
  (h:wpAny M A x (λv a=>∃e f t,v=.ref e/\a.heap.get? C=some (excClassObj nm q C N bs bm hdct sn sub ab col dd k0 k1 k2 k3 k5 newId)/\a.heap.get? e=some (bB C f t)/\E (.ref e) a) E s) :
  wpAny M A (raiseStmt env (some x) none) Q E s:=by
 have i:(Value.ref C::bm).contains (.type "BaseException")=true:=by rw[List.contains_cons,b,Bool.or_true]
 unfold raiseStmt;refine wpAny_bind (wpAny_mono h (λv a c=>?_) λ_ _ x=>x)
 obtain⟨e,f,t,rfl,l,j,m⟩:=c;obtain⟨n,g,d,o,p⟩:=a;have j:n.get? e=some ⟨.ref C,f,_,#[]⟩:=j
 repeat (first | (with_reducible refine wpAny_isSubtype_exc l ?_;rw[i])|wp_step)
 exact wpAny_raiseNew_none k m
theorem wd{x:Expr}{pos:Pos}{Q:Flow->Shared->Prop}(b:bm.contains (.type "BaseException")=true)(d:A.handled=none)
  (h:wpAny M A (eval x env) (λv a=>∃e f t,v=.ref e/\a.heap.get? C=some (excClassObj nm q C N bs bm hdct sn sub ab col dd k0 k1 k2 k3 k5 newId)/\a.heap.get? e=some (bB C f t)/\E (.ref e) a) E s) :
  wpAny M A (exec (.Raise (some x) none pos) env) Q E s:=by
 first
  |exact wpAny_bind (wpAny_standAt (sM b d (wpAny_bind (wpAny_mono h (λv a c=>wpAny_bind (wpAny_standAt (wpAny_pure c))) λ_ _ x=>x))))
end
structure sN(P:Program)(w:World)(outer:List Env)(H:Hp)(s:Shared)(e C d:Addr)(H':Hp)(s':Shared):Prop where
 os:s'.os=s.os
 bare:AllBare s'.gens
 un:Un (frs outer) [] H H' s.heap s'.heap
 hok:fE P w H' s'.heap
 new:s.heap.objs.size<=e
 free:H' e=none
 obj:∃oe vs,s'.heap.get? e=some oe/\oe.cls=.ref C/\oe.dict=some d/\oe.data=.fields vs/\sL s'.heap vs
noncomputable def kz(P:Program)(w:World):pB:=λouter H s E x b=>∃e C d a,x=.ref e/\sN P w outer H s e C d a b/\E (.ref C) (some d) a
section
variable{X:Cx}{pins:List (Addr×Obj)}{σ:St}{H:Hp}{s:Shared}{e C d t:Addr}
theorem zU(I:Inv X pins σ H s)(l:X.ex=[])(g:X.stack=X.env::X.outer)(i:X.env.frame=some X.env.locals)(J:s.heap.get? e=some (bB C (some d) t))(y:X.s₀.heap.objs.size<=e)(K:H e=none){Q:Unit->Shared->Prop}{E:Value->Shared->Prop}
  (h:∀B,sN X.prog X.w X.outer X.H₀ X.s₀ e C d H B->Q () B):wpAny (model X.prog X.w) X.A (leaving X.env (.ref e)) Q E s:=by
 have j:=I.ok.frames;rw[g]at j;have D:=I.stack;rw[g]at D;refine wc j D i J rfl (.inl rfl) λS T F=>h _ ?_
 have m:∀b u,H b=some u->b∉frs _:=λb u q z=>by
  have:=I.j5 b (by omega)
  grind
 have c:∀b o,X.s₀.heap.get? b=some o->b≠e/\b≠X.env.locals:=λb o q=>⟨λz=>by rw[z]at q;exact absurd (Nat.lt_of_lt_of_le (Heap.lt_size q) y) (Nat.lt_irrefl _),λz=>by rw[z]at q;exact absurd (Nat.lt_of_lt_of_le (Heap.lt_size q) I.ok.above) (Nat.lt_irrefl _)⟩
 have p:∀b o,X.s₀.heap.get? b=some o->b∉X.fs->b∉frs _:=λb o q f z=>by
  unfold frs at z;rw[List.filterMap_cons,i]at z;rcases List.mem_cons.mp z with z|z
  .grind
  .exact f z
 refine⟨I.os,I.bare,⟨λb o q n f _=>?_,λb o q n f _=>?_,λb o q n _=>I.base.free b o q n (by rw[l];simp),λb o q _=>?_,I.base.tups,I.base.e9,I.base.fF⟩,λa u q=>?_,y,K,?_⟩
 .exact F.keep b o (c b o q).1 (p b o q f) (I.base.keep b o q n f (by rw[l];simp))
 .obtain⟨U,r⟩:=I.base.slot b o q n f (by rw[l];simp)
  obtain⟨x,G⟩:=F.slot b _ (c b o q).1 r
  grind
 .obtain⟨V,r⟩:=I.base.there b o q (by rw[l];simp)
  obtain⟨x,G⟩:=F.slot b _ (c b o q).1 r;exact⟨_,G⟩
 .refine(I.hok a u q).stay (λb L f k=>F.keep b L (λz=>?_) ?_ k) (λb k=>k) λb Y k=>k
  .grind
  grind
 .obtain⟨M,N,O,P,R⟩:=F.tb
  exact⟨_,_,F.at_,rfl,rfl,rfl,.inr ⟨T,M,N,by simp,O,P,R⟩⟩
end
section
variable{P:Program}{w:World}{K:PySem.W.Frag}{mg:Str->Option Value}{base:Heap}{N:List Str}{qual:Str}{scope:Scope}{f:Addr}{cd:Value}{A:Around}{outer:List Env}{s0:Shared}{H0:Hp}{E:XK}
variable{C N0 fI c:Addr}{fd:FuncData}{st:Stmt}{uN fld sf pn cn:Str}{ve arg:Expr}{k:Nat}{te:TE}{Arg:V->Hp->Prop}{ff:V->Hp->VK}{np cpos pos:Pos}
end
section
variable{X:Cx}{pins:List (Addr×Obj)}{σ:St}{H H':Hp}{s s':Shared}{e C d:Addr}{h':Heap}
noncomputable def Cx.l5(X:Cx)(e:Addr):Cx:={X with A:=X.A.mark (some (.ref e)),calm:=false,xe:=λ_ _=>False}
theorem Inv.l5(I:Inv X pins σ H s):Inv (X.l5 e) pins σ H s:=
 ⟨⟨I.ok.mod,I.ok.kind,I.ok.glob,I.ok.blt,I.ok.above,I.ok.inj,I.ok.has,I.ok.cab,(λz=>nomatch (z)),I.ok.frames,I.ok.wJ,I.ok.wO,I.ok.bs,I.ok.pe,I.ok.jM,I.ok.jN,I.ok.eR,I.ok.rj⟩,
  I.os,I.bare,I.base,I.loc,I.cell,I.free,I.cq,I.pin,I.hok,I.len⟩
theorem Inv.JA(ok:X.Ok)(I:Inv (X.l5 e) pins σ H s):Inv X [] σ H s:=
 ⟨ok,I.os,I.bare,I.base,I.loc,I.cell,I.free,I.cq,λp a=>I.pin p (by rw[List.append_nil]at a;simp[show p∈(X.l5 e).pn from a]),I.hok,I.len⟩
theorem Inv.flown{k:Obj}{T:Addr}(I:Inv X [] σ H s)(F:uL X.stack e k T s.heap h')(d:wb X e)(h:e≠X.env.locals)(D:H e=none):Inv X [] σ H {s with heap:=h' }:=by
 have f:=λb z=>List.mem_cons.mp (I.nI b z)
 refine I.step (ch:=[e]) (λb c=>?_) (λb o l c i q n=>F.keep b o (by grind) (λz=>(f b z).elim l c) q) (λb o _ _ i q _=>F.slot b o (by grind) q) (λ_ _ _ _ n=>n) (λb o i q=>?_) (λ_ _ q=>q) (λ_ _ _ q=>q) (λb E q=>⟨#[],by grind⟩) (λm r=>?_) (λa u q=>?_) I.bare
 .rw[List.mem_singleton.mp c]
  exact⟨d.new,h,d.cell,λp G=>d.pn p (by grind)⟩
 .obtain⟨t,j⟩:=F.slot b o (by grind) q
  grind
 .obtain⟨o,w,x,y,A,B⟩:=r
  obtain⟨t,j⟩:=F.slot _ o (Ne.symm h) y;exact⟨_,w,x,j,A,B⟩
 .refine(I.hok a u q).stay (λb C c g=>F.keep b C (λz=>?_) (λz=>?_) g) (λ_ g=>g) (by simp)
  .grind
  .have J:=I.j5 b z
   grind
theorem gC{M:Model}{A:Around}{E:Value->Shared->Prop}{Q:Unit->Shared->Prop}{d b:Obj}{vs c:Array Value}{T:Addr}(i:s.heap.get? e=some d)(j:d.data=.fields vs)(k:vs[1]?=some (.ref T))(g:s.heap.get? T=some b)(a:b.data=.fields c)(l:c[3]?=some .none)(h:Q () s) :
  wpAny M A (setFlight (.ref e) none) Q E s:=by
 refine wpAny_bind (wpAny_field i j k ?_);refine wpAny_setField g a (by grind) ?_
 have:s.heap.update T (Obj.mapFields (·.setIfInBounds 3 ((none:Option _).elim _ λf=>rawInt f)))=s.heap:=Heap.update_setField_same _ T b c 3 _ g a l
 simp_all
end
section
variable{X:Cx}{σ:St}{H H':Hp}{s s':Shared}{e C d:Addr}
end
section
variable{X:Cx}{σ:St}{H:Hp}{s:Shared}{C:Addr}{k:Nat}{f:Addr}{fd:FuncData}{ps:List Str}{sp:Sp}{ta:TA}{fs:List (Str×V)}{Rest:Hp->Prop}
end
section
variable{X:Cx}{pins:List (Addr×Obj)}{σ:St}{H:Hp}{s:Shared}{e C N fI:Addr}{oe:Obj}
noncomputable def Cx.uO(X:Cx)(e:Addr)(a:Obj):Cx:={X with pn:=X.pn++[(e,a)]}
theorem Inv.uO(I:Inv X [(e,oe)] σ H s):Inv (X.uO e oe) [] σ H s:=
 ⟨⟨I.ok.mod,I.ok.kind,I.ok.glob,I.ok.blt,I.ok.above,I.ok.inj,I.ok.has,I.ok.cab,I.ok.hd,I.ok.frames,I.ok.wJ,I.ok.wO,I.ok.bs,I.ok.pe,I.ok.jM,I.ok.jN,I.ok.eR,I.ok.rj⟩,
  I.os,I.bare,I.base,I.loc,I.cell,I.free,I.cq,λp a=>I.pin p (by simpa[Cx.uO]using a),I.hok,I.len⟩
theorem Inv.D7(I:Inv (X.uO e oe) [] σ H s):Inv X [(e,oe)] σ H s:=
 ⟨⟨I.ok.mod,I.ok.kind,I.ok.glob,I.ok.blt,I.ok.above,I.ok.inj,I.ok.has,I.ok.cab,I.ok.hd,I.ok.frames,I.ok.wJ,I.ok.wO,I.ok.bs,I.ok.pe,I.ok.jM,I.ok.jN,I.ok.eR,I.ok.rj⟩,
  I.os,I.bare,I.base,I.loc,I.cell,I.free,I.cq,λp a=>I.pin p (by simpa[Cx.uO]using a),I.hok,I.len⟩
structure NC(K:PySem.W.Frag)(C:Addr):Prop where
 ha:PySem.W.findIn K (.ref C) "__class__"=some (some (.builtin "object.__class__"))
 hn:PySem.W.specialIn K (.builtin "object.__class__") "__get__"=some (some (.builtin "getset_descriptor.__get__"))
 ht:PySem.W.takesIn K (.builtin "object.__class__")=some true
 hm:PySem.W.mroIn K C (.type "object")=some true
structure LS(X:Cx)(e C:Addr)(oe:Obj)(d:Addr)(N fI:Addr):Prop where
 pn:(e,oe)∈X.pn
 cls:oe.cls=.ref C
 dict:oe.dict=some d
 no:PySem.W.notCls oe=true
 txt:lR X.K C N fI
 is:NC X.K C
variable{d:Addr}
noncomputable def QB(i:Nat)(e d:Addr)(a:Str):TE:=λc H Q=>c[i]?=some (some (.ref e))/\∃b v,H d=some (.xd b)/\b.lookup a=some v/\Q v H
theorem JB{i:Nat}{n a:Str}{q p:Pos}(c:LS X e C oe d N fI)(g:dO X.K C a)(j:X.N[i]?=some n)(k:nH X.env.scope n)(b:(n==("__debug__":Str))=false:=by decide)(f:(n==("__classdict__":Str))=false:=by decide) :
  PE X (.Attribute (.Name n q) a p) (QB i e d a):=by
 intro pins s l H Q I h;obtain⟨m,B,v,o,r,t⟩:=h;refine s_ rfl (cu (hV j k b f _ s l H (λw x=>w=.ref e/\x=H) I ⟨_,m,rfl,rfl⟩) λu D ⟨w,H1,J1,y,hw,hH⟩=>?_)
 subst hw hH;cases (y);exact uK J1 c.txt g (J1.pin (e,oe) (by simp[c.pn])).1 c.cls c.dict c.no o r λE z A=>⟨v,H1,A,z,t⟩
end
end L2
namespace Mir
open PySem PySem.Spec PyProof.Rows L2
variable [aw]
section
variable{P:Program}{w:World}{K:PySem.W.Frag}{mg:Str->Option Value}{base:Heap}{T:aO}{k:Nat}
end
section
variable{P:Program}{w:World}{K:PySem.W.Frag}{mg:Str->Option Value}{base:Heap}{k:Nat}
end
end Mir
namespace L2
open PySem PySem.Spec PyProof.Rows
section
variable{X:Cx}{e C N fI d:Addr}{oe:Obj}
end
end L2
namespace Mir
open PySem PySem.Spec PyProof.Rows L2
variable [aw]
section
variable{P:Program}{w:World}{K:PySem.W.Frag}{mg:Str->Option Value}{base:Heap}{k:Nat}
end
structure F9(K:PySem.W.Frag)(x qual:Str)(st:Stmt)(dV:Value)(f:Addr)(fd:FuncData):Prop where
 ex:∃(oc:Value) (od:Option Addr) (kV doc pm:Value) (an:Option Addr) (cdv ct:Value) (osl:Array (Option Value)),
  fd=PySem.W.fnOf x qual (cx st) (aT st) (af st) dV kV doc pm an cdv ct/\K.lookup f=some ⟨oc,od,.func fd,osl⟩/\PySem.W.codeIn K cdv qual=true
 kp:PySem.W.keepIn K (.ref f)=true
section
variable{P:Program}{w:World}{K:PySem.W.Frag}{mg:Str->Option Value}{base:Heap}{T:aO}{k:Nat}
theorem oY(W:ba P w K mg base T k){x qual:Str}{st:Stmt}{z:Value}{f:Addr}{t:FuncData}(F:F9 K x qual st z f t){N ps td:List Str}{c:SM}(B:bL N ps (af st)=true)(D:cY T td st N=some c) :
    bP P w K mg base dH (k+1) f t ps (ei (bS mg) (bA N.length ps.length c)):=by
  obtain⟨oc,od,kV,I,pm,an,J,ct,L,rfl,M,i⟩:=F.ex;have l:=cQ B;refine w6 M i l (λO H Q E h=>?_) λA outer s H O Q E R h=>?_
  · obtain⟨b,Z,e,U,S,r,g⟩:=h
    rw[r.length];unfold bA at g;split at g
    · omega
    · exact g.elim
  · obtain⟨b,Z,e,U,S,r,g⟩:=h
    have G:cV (bF dH P w K mg _ N _ _ f _ A outer s H E).fg _ T k _ N:=
      { scope:=rfl,names:=rfl,calm:=rfl,room:=R,b8:=W.b8,own:=PassesOwn.never,Cc:=λ_ _ _=>.inl rfl,jT:=l.nd,kind:=l.kind,fg:=λ_ _ _ h=>h,fld:=W.fld,cst:=W.cst
        fP:=λx F h=>⟨W.fP x F h⟩,fn:=λx F h=>⟨W.fn x F h⟩,met:=λm C F h=>⟨W.met m C F h⟩,cls:=λC F h=>let ⟨j,V,X⟩:=W.cls C F h;⟨j,V,⟨X⟩⟩,clo:=W.clo }
    refine⟨FD _ gM b Z H c _ e,(cX (gN G 30 60) D b Z H _ e).fg,b,Z,dU S r,?_⟩;unfold bA at g;split at g
    · cases q:c _ e with
      |rt d a=>rw[q]at g;exact λv n o p Y st r=>g v n _ p Y st r
      |nx u a=>rw[q]at g;exact λσ n o p y=>g _ n _ p y.gr y.st (aR rfl)
      |bk u a=>rw[q]at g;exact g.elim
      |ct u a=>rw[q]at g;exact g.elim
      |exc x a=>rw[q]at g;exact g
      |bad=>rw[q]at g;exact g.elim
    · exact g.elim
end
end Mir
namespace L2
open PySem PySem.Spec PyProof.Rows
open PySem.W (clsIn findIn takerIn InstAt)
open PySem.Builtin.ObjectAttr
section
variable{prog:Program}{w:World}{A:Around}{s:Shared}{K:PySem.W.Frag}{name:Str}{x C dd:Addr}{v:Value}{E:Value->Shared->Prop}
theorem zV{a:Obj}{e:ClassData}{f:Str->Option Value}{ns:List Str}{Q:Unit->Shared->Prop}(X:K.In s.heap)(p:s.heap.get? x=some a)(c:a.cls=.ref C)(i:a.dict=some dd)(j:PySem.W.notCls a=true)(q:clsIn K C=some e)(t:fe e.mro=true)(u:e.hasDict=true)
  (z:findIn K (.ref C) "__setattr__"=some (some (.builtin "object.__setattr__"))) (B:takerIn K C name=some none) (r:s.heap.Ns1 dd f) (D:Within f ns) (O:ns.length<1000)
  (h:∀d t',d.Ns1 dd (λy=>if y=name then some v else f y)->Heap.SameBut dd s.heap d->Q () {s with heap:=d,toks:=t' }) :
  wpAny (model prog w) A (setAttr (.ref x) name v) Q E s:=by
 obtain⟨F,g,l⟩:=gF r;have I:InstAt _ x a C (some F):=⟨p,c,j,by grind⟩
 refine PySem.W.set_plain X I z (uJ X I q t B λb=>?_)
 obtain⟨oc,G,H,J⟩:=a;subst c i;refine wpAny_bind (wpAny_pure (wpAny_bind (wpAny_bind (wpAny_loadPart p (wpAny_bind (PySem.W.Looks.here (PySem.W.looks_clsIn X q) ?_))))));rw[u];refine wpAny_pure ?_;refine wpAny_bind (wpAny_pure (wpAny_bind (wpAny_nsSet1 r λd k L=>?_)))
 obtain⟨P,M,N,m,n,o⟩:=k.count (Within.cons _ v D);refine wpAny_bind (wpAny_lookBehind m (by rw[n];exact pastItsLine_dict (Nat.le_trans o (by rw[List.length_cons,sizeLine_eq];omega))) ?_)
 exact wpAny_pure (by grind)
end
section
variable{X:Cx}{pins:List (Addr×Obj)}{σ:St}{H:Hp}{s:Shared}{e C N fI t dd:Addr}{fld:Str}{fs:List (Str×V)}
theorem Inv.JC(I:Inv X pins σ H s){o:HO}(d:H dd=some o)(f:∀a u,o≠.cL a u):dd≠X.env.locals/\(∀x c,X.env.cells.lookup x=some c->c≠dd)/\∀p∈X.pn++pins,p.1≠dd:=by
 refine⟨λz=>?_,λx c e z=>?_,λp b z=>?_⟩
 .have:=I.free;grind
 .rcases(I.cq x c e).1 with q|⟨g,u,q⟩
  .grind
  grind
 .obtain⟨_,q,_⟩:=I.pin p b
  grind
theorem C2{b:Str->Option Value}{v:V}{u:Value}(d:∀f,hP (fs.lookup f) (b f))(a:fs.lookup fld=none)(r:RelV v u)(f:Str):hP ((fs++[(fld,v)]).lookup f) (if f=fld then some u else b f):=by
 rw[List.lookup_append]
 by_cases c:f=fld
 .subst c
  rw[a];simp[List.lookup];exact r
 grind
theorem we{a:Str->Option Value}(b:∀f,hP (fs.lookup f) (a f)):Within a (fs.map (·.1)):=λy d=>by
 have:=b y;cases q:fs.lookup y with
 |none=>
  rw[q]at this;cases c:a y with
  |none=>grind
  |some _=>rw[c]at this;exact this.elim
 |some v=>
  grind
theorem zW{Q:Unit->Shared->Prop}{E:Value->Shared->Prop}{A:Around}{v:V}{u:Value}(I:Inv X [(e,bB C none t)] σ H s)(T:lR X.K C N fI)(S:dO X.K C fld)(U:e∈X.ex\/X.s₀.heap.objs.size<=e)(l:∀x c,X.env.cells.lookup x=some c->c≠e)(n:∀p∈X.pn,p.1≠e)(r:RelV v u)
  (h:∀dd G,H dd=none->dd≠e->s.heap.objs.size<=dd->Inv X [(e,bB C (some dd) t)] σ (upd H dd (.xd [(fld,v)])) G->Q () G):wpAny (model X.prog X.w) A (setAttr (.ref e) fld u) Q E s:=by
 obtain⟨cd,Y,Z,c3⟩:=T.cd;obtain⟨y,L,k,M,p5⟩:=I.pin (e,bB C none t) (by simp)
 dsimp only at y L k M p5;have d:H s.heap.objs.size=none:=I.hok.fresh (Nat.le_refl _);have B:=Heap.lt_size y;have j:s.heap.objs.size≠e:=Nat.ne_of_gt B;refine CW I.fU y Y Z c3 T.sa S.taker λO t' g1 g2 g3=>h s.heap.objs.size _ d j (Nat.le_refl _) ?_
 have I0:=I.zS;have keep:∀b o,b∉[e]->s.heap.get? b=some o->O.get? b=some o:=λb o g q=>g3 b o (by simpa using g) q
 have J:Inv X [] σ (upd H s.heap.objs.size (.xd [(fld,v)])) {s with heap:=O,toks:=t' }:=by
  refine I0.step (ch:=[e]) (λb g=>?_) (λb o _ _ g q _=>keep b o g q) (λb o _ _ g q _=>⟨o.slots,keep b o g q⟩) (λb o g q D=>?_) (λb o g q=>⟨o,keep b o g q⟩) (λb xs q=>?_) (λb o P q=>?_) (λb ps q=>?_) (λm D=>?_) ?_ I.bare
  .rw[List.mem_singleton.mp g]
   exact⟨U,k,l,λp hp=>n p (by simpa using hp)⟩
  .rw[ao (Nat.ne_of_lt (Heap.lt_size q))];exact D
  .rw[ao (λz=>by rw[z,d]at q;cases q)];exact q
  .rw[ao (λz=>by rw[z,d]at q;cases q)];exact q
  .exact⟨#[],by rw[ao (λz=>by rw[z,d]at q;cases q),q];simp⟩
  .obtain⟨o,es,ep,e1,e2⟩:=D
   exact⟨o,es,ep,keep _ o (by simp[Ne.symm k]) e1,e2⟩
  .intro a o q
   by_cases R:a=s.heap.objs.size
   .subst R
    rw[aG]at q;cases q;refine⟨_,g2,λf=>?_⟩
    by_cases F:f=fld
    .rw[F,if_pos rfl];simp[List.lookup];exact r
    .rw[if_neg F]
     have:(f==fld)=false:=by simpa using F
     simp[List.lookup,this];exact trivial
   .rw[ao R]at q
    refine(I.hok a o q).stay (λb P g i=>keep b P (λz=>?_) i) (λb i=>?_) λb xs i=>?_
    .grind
    .rw[ao (λz=>by rw[z,d]at i;cases i)];exact i
    .rw[ao (λz=>by rw[z,d]at i;cases i)];exact i
 exact J.zR g1 (by rw[ao (Ne.symm j)];exact L) k M (λv=>by simp[bB])
theorem zX{Q:Unit->Shared->Prop}{E:Value->Shared->Prop}{A:Around}{v:V}{u:Value}(I:Inv X [(e,bB C (some dd) t)] σ H s)(T:lR X.K C N fI)(F:dO X.K C fld)(j:H dd=some (.xd fs))(g:X.s₀.heap.objs.size<=dd)(G:fs.length<900)(k:fs.lookup fld=none)(r:RelV v u)
  (h:∀p,Inv X [(e,bB C (some dd) t)] σ (upd H dd (.xd (fs++[(fld,v)]))) p->Q () p):wpAny (model X.prog X.w) A (setAttr (.ref e) fld u) Q E s:=by
 obtain⟨cd,J,L,M⟩:=T.cd;obtain⟨O,p2,p3,p4,p5⟩:=I.pin (e,bB C (some dd) t) (by simp)
 obtain⟨x,P,R⟩:=I.JC j (λ_ _ z=>nomatch z)
 obtain⟨mA,n,y⟩:=I.hok dd _ j;refine zV I.fU O rfl rfl rfl J L M T.sa F.taker n (we y) (by simp;omega) λS t' U Y=>h _ ?_
 have keep:∀b o,b≠dd->s.heap.get? b=some o->S.get? b=some o:=λb o c q=>(Y.2 b c).trans q
 have i:∀{b:Addr}{o:HO},H b=some o->(∀f,o≠.xd f)->b≠dd:=λ{b o} q Z z=>by rw[z,j]at q;cases q;exact Z _ rfl
 refine I.step (ch:=[dd]) (λb c=>?_) (λb o _ _ c q _=>keep b o (by simpa using c) q) (λb o _ _ c q _=>⟨o.slots,keep b o (by simpa using c) q⟩) (λb o c q l=>?_) (λb o c q=>⟨o,keep b o (by simpa using c) q⟩) (λb xs q=>?_) (λb o B q=>?_) (λb ps q=>?_) (λm l=>?_) ?_ I.bare
 .rw[List.mem_singleton.mp c]
  exact⟨.inr g,x,P,R⟩
 .rw[ao (by simpa using c)];exact l
 .rw[ao (i q λ_ z=>nomatch z)];exact q
 .rw[ao (i q λ_ z=>nomatch z)];exact q
 .exact⟨#[],by rw[ao (i q λ_ z=>nomatch z),q];simp⟩
 .obtain⟨o,es,ep,e1,e2⟩:=l
  exact⟨o,es,ep,keep _ o (Ne.symm x) e1,e2⟩
 .intro a o q
  by_cases D:a=dd
  .subst D
   rw[aG]at q;cases q;exact⟨_,U,C2 y k r⟩
  .rw[ao D]at q
   refine(I.hok a o q).stay (λb B c d=>keep b B (λz=>?_) d) (λb d=>?_) λb xs d=>?_
   .grind
   .rw[ao (i d λ_ z=>nomatch z)];exact d
   .rw[ao (i d λ_ z=>nomatch z)];exact d
end
end L2
namespace L2
open PySem PySem.Spec PyProof.Rows
structure fD where
 fld:Str
 ve:Expr
 a1:Pos
 a2:Pos
 a3:Pos
noncomputable def fD.st(a:Str)(r:fD):Stmt:=.Assign [.Attribute (.Name a r.a1) r.fld r.a2] r.ve r.a3
def lS(e b:Addr):List (Str×TE)->Option Addr->List (Str×V)->St->Hp->(Option Addr->List (Str×V)->Hp->Prop)->Prop
 |[],od,fs,_,H,Q=>Q od fs H
 | (f,te)::r,none,_,σ,H,Q=>te σ H λv a=>∀dd,a dd=none->dd≠e->b<=dd->lS e b r (some dd) [(f,v)] σ (upd a dd (.xd [(f,v)])) Q
 | (f,te)::r,some dd,fs,σ,H,Q=>te σ H λv a=>a dd=some (.xd fs)/\lS e b r (some dd) (fs++[(f,v)]) σ (upd a dd (.xd (fs++[(f,v)]))) Q
def G_(X:Cx)(H:Hp):Option Addr->List (Str×V)->Prop
 |none,fs=>fs=[]
 |some dd,fs=>H dd=some (.xd fs)/\X.s₀.heap.objs.size<=dd
section
variable{X:Cx}{σ:St}{H:Hp}{s:Shared}{e C N fI t:Addr}{sf:Str}{i:Nat}
theorem oZ(T:lR X.K C N fI)(F:wb X e)(m:X.N[i]?=some sf)(n:nH X.env.scope sf)(c:σ[i]?=some (some (.ref e)))(d:(sf==("__debug__":Str))=false)(f:(sf==("__classdict__":Str))=false){Q:Option Addr->List (Str×V)->Hp->Prop}{R:Flow->Shared->Prop}{rest:List Stmt}
  (K:∀b a h O,Inv X [(e,bB C b t)] σ h O->G_ X h b a->Q b a h->wpAny (model X.prog X.w) X.A (execs rest X.env) R X.xe O) :
  ∀(rs:List (fD×TE)) (b:Option Addr) (a:List (Str×V)) (H:Hp) (s:Shared),(∀r∈rs,PE X r.1.ve r.2/\dO X.K C r.1.fld/\∀env,swapsWith r.1.ve (some (.Attribute (.Name sf r.1.a1) r.1.fld r.1.a2)) r.1.a3.line env=pure false) ->
   ((a.map (·.1))++rs.map (·.1.fld)).Nodup->a.length+rs.length<900->Inv X [(e,bB C b t)] σ H s->G_ X H b a->lS e X.s₀.heap.objs.size (rs.map λr=>(r.1.fld,r.2)) b a σ H Q ->
   wpAny (model X.prog X.w) X.A (execs (rs.map (λr=>r.1.st sf)++rest) X.env) R X.xe s
 |[],b,a,H,s,_,_,_,I,st,q=>K b a H s I st q
 | (r,te)::rs,b,a,H,s,P,S,o,I,st,q=>by
  obtain⟨h1,U,x⟩:=P (r,te) (by simp)
  have j:=λy (Y:y∈rs)=>P y (List.mem_cons_of_mem _ Y)
  have g:((a.map (·.1)++[r.fld])++rs.map (·.1.fld)).Nodup:=by simpa using S
  have B:a.lookup r.fld=none:=by
   have hn:r.fld∉a.map (·.1):=λz=>by
    have:=(List.nodup_append.mp (List.nodup_append.mp g).1).2.2 _ z _ (List.mem_singleton.mpr rfl);exact this rfl
   clear S g o st q I
   induction a with
   |nil=>rfl
   |cons p y ih=>
    rw[List.lookup]
    grind
  refine wpAny_execs_cons (plainObj_wpAny_Assign_Attribute (?_) (x _));cases b with
  |none=>
   cases (show a=[]from st)
   refine cu (h1 _ s σ H _ I q) λZ s2 ⟨v,H2,J2,r2,q2⟩=>?_
   refine cu (hV (pos:=r.a1) m n d f _ _ _ H2 (λz h=>z=.ref e/\h=H2) J2 ⟨.ref e,c,rfl,rfl⟩) λD s3 ⟨z,H3,J3,E,hz,hH⟩=>?_
   subst hz hH;cases (show D=Value.ref e from E)
   have k:=J3.sz;refine zW J3 T U F.new F.cell F.pn r2 λu G J L l M=>?_
   exact oZ T F m n c d f K rs (some u) [(r.fld,v)] _ G j (by simpa using g) (by simp at o ⊢;omega) M ⟨aG,Nat.le_trans k l⟩ (q2 u J L (Nat.le_trans k l))
  |some u=>
   refine cu (h1 _ s σ H _ I q) λZ s2 ⟨v,H2,J2,r2,q1,q2⟩=>?_
   refine cu (hV (pos:=r.a1) m n d f _ _ _ H2 (λz h=>z=.ref e/\h=H2) J2 ⟨.ref e,c,rfl,rfl⟩) λD s3 ⟨z,H3,J3,E,hz,hH⟩=>?_
   subst hz hH;cases (show D=Value.ref e from E)
   refine zX J3 T U q1 st.2 (by simp at o;omega) B r2 λG M=>?_
   exact oZ T F m n c d f K rs (some u) (a++[(r.fld,v)]) _ G j (by simpa using g) (by simp at o ⊢;omega) M ⟨aG,st.2⟩ q2
end
noncomputable def qY(a:Str)(q:Str×Pos×Pos):Expr:=.Attribute (.Name a q.2.1) q.1 q.2.2
section
variable{X:Cx}{σ:St}{H:Hp}{s:Shared}{e C N fI t:Addr}{sf:Str}{i:Nat}{od:Option Addr}{fs:List (Str×V)}
theorem zY(T:lR X.K C N fI)(d:X.N[i]?=some sf)(f:nH X.env.scope sf)(a:σ[i]?=some (some (.ref e)))(b:(sf==("__debug__":Str))=false)(c:(sf==("__classdict__":Str))=false){pos:Pos}{dd:Addr}(g:H dd=some (.xd fs)) :
  ∀(L:List (Str×Pos×Pos)) (s:Shared) {Q:List Value->Shared->Prop},(∀q∈L,dO X.K C q.1/\∃v,fs.lookup q.1=some v)->Inv X [(e,bB C (some dd) t)] σ H s->(∀us j,us.length=L.length->Inv X [(e,bB C (some dd) t)] σ H j->Q us j) ->
   wpAny (model X.prog X.w) X.A (spliced (backTo pos (starEach (L.map (qY sf)) X.env))) Q X.xe s
 |[],s,Q,_,I,h=>Calls.spliced_nil (h [] s rfl I)
 |q::L,s,Q,k,I,h=>by
  obtain⟨l,v,m⟩:=k q (by simp)
  refine Calls.spliced_cons (s_ rfl (cu (hV d f b c _ _ σ H (λw n=>w=.ref e/\n=H) I ⟨_,a,rfl,rfl⟩) λu y ⟨w,H2,J2,o,hw,hH⟩=>?_))
  subst hw;rw[hH]at J2;cases (o);obtain⟨p,_,_,_,_⟩:=J2.pin (e,bB C (some dd) t) (by simp)
  refine uK J2 T l p rfl rfl rfl g m λu z r=>?_
  exact zY T d f a b c g L _ (λx B=>k x (by grind)) r (by grind)
theorem C3{a:Str}{G:Addr}{m k apos pos:Pos}{pl:Sem Bool}{L:List (Str×Pos×Pos)}{Q:Value->Shared->Prop}(I:Inv X [(e,bB C od t)] σ H s)(F:wb X e)(T:lR X.K C N fI)(B:XBase X.K X.mg a G)
  (st:G_ X H od fs) (x:∀q∈L,dO X.K C q.1/\∃v,fs.lookup q.1=some v) (n:L.length<=900) (y:X.N[i]?=some sf) (z:nH X.env.scope sf) (c:σ[i]?=some (some (.ref e))) (J:Gl X a)
  (D:eval (.Call (.Attribute (.Name a m) "__init__" apos) (.Name sf k::L.map (qY sf)) [] pos) X.env=(do
   let E ←eval (.Name a m) X.env
   standAt apos.atName
   let (f,first) ←holding [E] (getMethod E "__init__" pl)
   callWith pos f first (backTo pos (starEach (.Name sf k::L.map (qY sf)) X.env)) (backToKw pos (keywordEach [] X.env))))
  (h:∀t' b,Inv X [(e,bB C od t')] σ H b->Q .none b) (o:(a==("__debug__":Str))=false) (d:(sf==("__debug__":Str))=false) (g:(sf==("__classdict__":Str))=false) :
  wpAny (model X.prog X.w) X.A (eval (.Call (.Attribute (.Name a m) "__init__" apos) (.Name sf k::L.map (qY sf)) [] pos) X.env) Q X.xe s:=by
 refine PySem.W.methodCall_KW (fG I J B.mg ?_ o) D;refine PySem.W.method_cls I.fU B.ga (PySem.W.cls_value I.fU B.rd B.ini (by rfl) ?_)
 have M:=I.tok (s.toks+1);have j:starEach (.Name sf k::L.map (qY sf)) X.env=(false,eval _ X.env)::starEach _ X.env:=rfl;refine PyProof.Rows.callWith_builtin1 ?_ j ?_
 .refine Calls.spliced_cons (cu (hV y z d g _ _ σ H (λw O=>w=.ref e/\O=H) M ⟨_,c,rfl,rfl⟩) λu s1 ⟨w,H1,J1,P,hw,hH⟩=>?_)
  subst hw hH;cases (P)
  have p:∀r b,r.length=L.length->Inv X [(e,bB C od t)] σ H1 b->wpAny (model X.prog X.w) X.A (call _ (.ref e::r)) Q X.xe b:=λr b R l=>by
   obtain⟨nm,q,bs,bm,sn,S,ab,U,V,k0,k1,k2,k3,k5,Y,Z⟩:=T.ex;obtain⟨z1,_,_,_,_⟩:=l.pin (e,bB C od t) (by simp)
   refine wpAny_call (mq PySem.F.excBase_ValueError (Z _ l.fU) (l.fU _ _ Y) z1 (by rw[sizeLine_eq];omega) λh' g1 g2 g3=>?_)
   exact h _ _ (l.QA F g1 g3 (λv=>by simp[bB]))
  cases od with
  |none=>
   cases (st);cases L with
   |nil=>exact Calls.spliced_nil (by grind)
   |cons q L=>grind
  |some dd=>exact zY T y z c d g st.1 L _ x J1 p
 .clear j D x n
  induction L with
  |nil=>rfl
  |cons q L ih=>exact ih
end
structure iV(K:PySem.W.Frag)(mg:Str->Option Value)(C N0 f c:Addr)(fd:FuncData)(st:Stmt)(qual sf:Str)(ps:List Str)(rs:List fD):Prop where
 fn:∃x,tw K x qual st f fd
 cv:fd.code=.ref c
 sc:gG (sf::ps) (sf::ps) (af st)
 cls:lR K C N0 f
 bs:Binds K fd (sf::ps) []
 na:∀r∈rs,dO K C r.fld
 nd:(rs.map (·.fld)).Nodup
 sl:(af st).names.lookup sf=some .local
 d1:(sf==("__debug__":Str))=false
 d2:(sf==("__classdict__":Str))=false
 ln:rs.length<900
 pl:ps.length<900
 body:∃(bn:Str) (B0:Addr) (L:List (Str×Pos×Pos)) (p1 p2 p5 apos pos:Pos) (pl:Env->Sem Bool),XBase K mg bn B0/\(bn==("__debug__":Str))=false/\(af st).names.lookup bn=some .globalImplicit /\
  aT st=rs.map (fD.st sf)++[.Expr (.Call (.Attribute (.Name bn p1) "__init__" apos) (.Name sf p2::L.map (qY sf)) [] pos) p5]/\L.map (·.1)=rs.map (·.fld) /\
  (∀r∈rs,∀env,swapsWith r.ve (some (.Attribute (.Name sf r.a1) r.fld r.a2)) r.a3.line env=pure false) /\
  (∀env:Env,eval (.Call (.Attribute (.Name bn p1) "__init__" apos) (.Name sf p2::L.map (qY sf)) [] pos) env=(do
   let ov ←eval (.Name bn p1) env
   standAt apos.atName
   let (f,first) ←holding [ov] (getMethod ov "__init__" (pl env))
   callWith pos f first (backTo pos (starEach (.Name sf p2::L.map (qY sf)) env)) (backToKw pos (keywordEach [] env))))
section
variable{P:Program}{w:World}{K:PySem.W.Frag}{mg:Str->Option Value}{base:Heap}
theorem F_{qual g:Str}{ps:List Str}{rs:List fD}{st:Stmt}{f c C N0:Addr}{fd:FuncData}{k:Nat}{ff:Option Addr->List (Str×V)->Hp->Prop}(D:iV K mg C N0 f c fd st qual g ps rs)
  {A:Around}{outer:List Env}{s:Shared}{H:Hp}{us:List Value}{vs:List V}{e t0:Addr}{R:Result->Shared->Prop}
  (h0:∀E,∃l:List TE,l.length=rs.length/\(∀p∈rs.zip l,PE ((bF dH P w K mg base (g::ps) qual (af st) f (.ref c) A outer s H E).fg.mk1 e) p.1.ve p.2) /\
   lS e s.heap.objs.size ((rs.zip l).map λr=>(r.1.fld,r.2)) none [] (start (g::ps) (.ref e::vs)) H λa d U=>d.map (·.1)=rs.map (·.fld)/\ff a d U)
  (m:bE (k+1) A) (Y:pC P w K mg base A outer s H) (hb:BindsTo s fd ⟨.ref e::us,[]⟩ ((g::ps).zip (.ref e::us))) (Z:vs.length=ps.length) (rv:Vals vs us)
  (he:s.heap.get? e=some (bB C none t0)) (i0:base.objs.size<=e) (j0:H e=none) (a0:e∉frs outer)
  (h:∀a d i t' j,ff a d i->(a=none/\d=[]\/∃dd,a=some dd/\i dd=some (.xd d)/\s.heap.objs.size<=dd)->j.os=s.os->AllBare j.gens->Un (frs outer) [e] H i s.heap j.heap->fE P w i j.heap ->
   j.heap.get? e=some (bB C a t')->i e=none->R (.ok (.ret (.ref e))) j) :
  codeAny (model P w) A (.call (.ref f) ⟨.ref e::us,[]⟩) (PySem.W.InitBack e R) s:=by
 obtain⟨x,F⟩:=D.fn;have l0:=D.cv;have S:=D.sc;have T:=D.cls;obtain⟨bn,B0,L,p1,p2,p5,apos,D0,pl,B,m0,hg,n0,b0,o0,ht⟩:=D.body;obtain⟨oc,a,kV,G0,pm,an,p0,ct,I0,rfl,lk,q0⟩:=F.ex;obtain rfl:p0=.ref c:=l0;have KX:K.In s.heap:=Y.mod.Er.keeps λb o e=>(Y.bs b o e).1
 have r0:s.heap.NoLimit:=Y.mod.nolimit.keeps λb o e=>(Y.bs b o e).1
 refine codeAny_call_function m.depth (KX _ _ lk) rfl S.co S.gen rfl (PySem.W.codeRec_of KX q0) (hb _ _ _ _ ?_)
 refine wpAny_newFunctionEnv_cells S.kind (λ⟨n,v⟩ hy=>by
  rcases S.par n (List.of_mem_zip hy).1 with q|q
  .exact .inl q
  .exact .inr ⟨q,PySem.W.cellsFrom_some _ _ _ (.inl q)⟩) λJ0 s0 s1 x=>?_
 subst s0;refine⟨r0.keeps x.toInCall.keep,codeAny_func ?_⟩;have E:XK:=λ_ _ _=>False
 have I:Inv (bF dH P w K mg base (g::ps) qual (af st) f (.ref c) A outer s H E) [] (start (g::ps) (.ref e::vs)) H s1:=jf (us:=.ref e::us) S m.hd Y (by simp[Z]) (.cons rfl rv) x
 have c0:=Heap.lt_size he;have u:e≠s.heap.objs.size:=Nat.ne_of_lt c0
 have f0:∀(y:Str) (cc:Addr),(envOfC qual (af st) s.heap.objs.size f (.ref c)).cells.lookup y=some cc->cc≠e:=λy cc hy z=>by
  have:=I.ok.cab y cc rfl hy;rw[z]at this;exact absurd (Nat.lt_of_lt_of_le c0 this) (Nat.lt_irrefl _)
 have I1:=(I.wish (λ_ _=>False)).mk1 (e:=e) rfl u f0 (λo q=>absurd (Nat.lt_of_lt_of_le (Heap.lt_size q) i0) (Nat.lt_irrefl _)) a0
 have I2:=I1.zR (x.toInCall.keep _ _ he) j0 u a0 (λv=>by simp[bB])
 obtain⟨l,u0,v0,w0⟩:=h0 E
 have x0:wpAny (model P w) (A.deeper (envOfC qual (af st) s.heap.objs.size f (.ref c))) (execs (aT st) (envOfC qual (af st) s.heap.objs.size f (.ref c)))
   (λfl j=>fl=.next/\∃a d i t',ff a d i/\G_ (bF dH P w K mg base (g::ps) qual (af st) f (.ref c) A outer s H E) i a d/\Inv ((bF dH P w K mg base (g::ps) qual (af st) f (.ref c) A outer s H E).fg.mk1 e) [(e,bB C a t')] (start (g::ps) (.ref e::vs)) i j) (λ_ _=>False) s1:=by
  have y0:((bF dH P w K mg base (g::ps) qual (af st) f (.ref c) A outer s H E).fg.mk1 e).s₀=s:=rfl
  have z0:∀i a d,G_ ((bF dH P w K mg base (g::ps) qual (af st) f (.ref c) A outer s H E).fg.mk1 e) i a d->G_ (bF dH P w K mg base (g::ps) qual (af st) f (.ref c) A outer s H E) i a d:=λi a d q=>by
   cases a with
   |none=>exact q
   |some dd=>exact q
  generalize t:(bF dH P w K mg base (g::ps) qual (af st) f (.ref c) A outer s H E).fg.mk1 e=X at *;have xe:X.env=envOfC qual (af st) s.heap.objs.size f (.ref c):=by rw[←t];rfl
  have xN:X.N=g::ps:=by rw[←t];rfl
  have xA:X.A=A.deeper (envOfC qual (af st) s.heap.objs.size f (.ref c)):=by rw[←t];rfl
  have xK:X.K=K:=by rw[←t];rfl
  have xm:X.mg=mg:=by rw[←t];rfl
  have xp:X.prog=P:=by rw[←t];rfl
  have xw:X.w=w:=by rw[←t];rfl
  have xx:X.xe=λ_ _=>False:=by rw[←t];rfl
  have fr:wb X e:=⟨.inl (by rw[←t];simp[Cx.mk1]),by rw[xe];exact f0,by rw[←t];intro p hp;cases hp⟩
  rw[←xA,←xe,←xp,←xw,←xx,n0];have na:=D.na;rw[←xK]at T B na;rw[←xm]at B;have hN:X.N[0]?=some g:=by rw[xN];rfl
  have hv:nH X.env.scope g:=.inl (by rw[xe];exact D.sl)
  have A0:Gl X bn:=by show X.env.scope.names.lookup bn=_;rw[xe];exact hg
  have g0:rs.map (fD.st g)=(rs.zip l).map λr=>r.1.st g:=by
   have e1:=List.map_fst_zip (l₁:=rs) (l₂:=l) (by omega)
   conv=>lhs;rw[←e1]
   rw[List.map_map];rfl
  rw[g0];have G:∀r∈rs.zip l,r.1∈rs:=λr m=>(List.of_mem_zip m).1
  refine oZ (Q:=λa d U=>d.map (·.1)=rs.map (·.fld)/\ff a d U) T fr hN hv rfl D.d1 D.d2 (λa d U j J M q=>?_) (rs.zip l) none [] H s1 (λr m=>⟨v0 r m,na _ (G r m),o0 _ (G r m)⟩) ?_ ?_ I2 rfl (by rw[y0];exact w0)
  .obtain⟨q1,q2⟩:=q
   refine wpAny_execs_cons (wpAny_Expr_any (C3 J fr T B M (λq' C0=>?_) ?_ hN hv rfl A0 (ht X.env) (λt' s5 J5=>?_) m0 D.d1 D.d2) J.quiet (by rfl))
   .have h1:q'.1∈rs.map (·.fld):=by rw[←b0];exact List.mem_map_of_mem C0
    obtain⟨r,m,e1⟩:=List.mem_map.mp h1;refine⟨by rw[←e1];exact na r m,?_⟩
    rw[←q1]at h1;clear J M q1 q2
    induction d with
    |nil=>cases h1
    |cons p r ih=>
     rw[List.lookup];split
     .exact⟨_,rfl⟩
     .rename_i hb
      refine ih ?_
      simp_all
   .have:=congrArg List.length b0
    simp at this;have:=D.ln;omega
   .exact wpAny_execs_nil ⟨rfl,a,d,U,t',q2,z0 _ _ _ M,J5⟩
  .have e2:(rs.zip l).map (·.1.fld)=rs.map (·.fld):=by
    have e1:=List.map_fst_zip (l₁:=rs) (l₂:=l) (by omega)
    conv=>rhs;rw[←e1]
    rw[List.map_map];rfl
   simp only[List.map_nil,List.nil_append];rw[e2];exact D.nd
  .have:=D.ln
   simp[u0];omega
 refine wpAny_mono x0 (λfl j hs=>?_) λ_ _ z=>z.elim
 obtain⟨rfl,a,d,i,t',q2,O,J⟩:=hs;obtain⟨g1,g2,_,_,_⟩:=J.pin (e,bB C a t') (by simp)
 refine⟨rfl,h a d i t' j q2 ?_ J.os J.bare J.base J.hok g1 g2⟩;cases a with
 |none=>exact .inl ⟨rfl,O⟩
 |some dd=>exact .inr ⟨dd,rfl,O.1,O.2⟩
end
section
variable{X:Cx}{pins:List (Addr×Obj)}{σ:St}{H H':Hp}{s s':Shared}{e C d:Addr}{h':Heap}
theorem Inv.gone{t' i:Nat}{n:Str}{C:Option Value}{m:Str->Option Value}(ok:X.Ok)(I:Inv (X.l5 e) pins σ H s)(D:X.N.Nodup)(E:X.N[i]?=some n)
  (F:∀(j:Nat) (x:Str) (v:V),X.N[j]?=some x->σ[j]?=some (some v)->nH X.env.scope x->∃u,RelV v u/\Look X.env s.heap m x u)
  (G:h'.Ns X.env.locals (λx=>if x=n then C else m x)) (J:Heap.SameBut X.env.locals s.heap h'):Inv X [] (σ.set i none) H {s with heap:=h',toks:=t' }:=by
 have k:∀b o,b≠X.env.locals->s.heap.get? b=some o->h'.get? b=some o:=λb o f q=>(J.2 b f).trans q
 have d:∀b o,X.s₀.heap.get? b=some o->b≠X.env.locals:=λb o q=>Nat.ne_of_lt (Nat.lt_of_lt_of_le (Heap.lt_size q) I.ok.above)
 refine⟨ok,I.os,I.bare,⟨λb o q n f g=>k b o (d b o q) (I.base.keep b o q n f g),λb o q n f g=>?_,I.base.free,λb o q g=>?_,I.base.tups,I.base.e9,I.base.fF⟩,⟨_,G,λj x v w z K=>?_⟩,λx c q=>?_,I.free,I.cq,λp A=>?_,λa u q=>?_,by rw[List.length_set];exact I.len⟩
 .obtain⟨L,h⟩:=I.base.slot b o q n f g
  exact⟨L,k b _ (d b o q) h⟩
 .obtain⟨M,h⟩:=I.base.there b o q g
  exact⟨M,k b _ (d b o q) h⟩
 .by_cases l:j=i
  .rw[List.getElem?_set]at z
   simp_all
  .rw[List.getElem?_set_ne (Ne.symm l)]at z
   obtain⟨u,O,P⟩:=F j x v w z K;refine⟨u,O,?_⟩;rcases P with ⟨y,t⟩|⟨y,c,t,o,Q,R⟩
   .exact .inl ⟨y,by dsimp only;rw[if_neg (λS=>by
    subst S;exact l ((List.getElem?_inj (List.getElem?_eq_some_iff.mp w).1 D).mp (w.trans E.symm)))];exact t⟩
   .exact .inr ⟨y,c,t,o,k c o (I.GR x c t) Q,R⟩
 .obtain⟨v,o,h,T⟩:=I.cell x c q
  exact⟨v,o,k c o (I.GR x c q) h,T⟩
 .rw[List.append_nil]at A
  obtain⟨U,Y,B,Z,a5⟩:=I.pin p (by simp[show p∈(X.l5 e).pn from A])
  exact⟨k _ _ B U,Y,B,Z,a5⟩
 .refine(I.hok a u q).stay (λb u' f r=>k b u' (λz=>?_) r) (λ_ r=>r) λ_ _ r=>r
  have hf:H X.env.locals=none:=I.free
  grind
def Ga(nm:Option Str)(i:Nat)(σ:St):St:=if nm.isSome then σ.set i none else σ
theorem zZ{Y:Str}{nm:Option Str}{B0:Addr}{i:Nat}{b0:Stmt}{j:List Stmt}{hp pos:Pos}{fs:List (Str×V)}{Q:Flow->Shared->Prop}{E:Value->Shared->Prop}(I:Inv X [] σ H s)(k:sN X.prog X.w X.stack H s e C d H' s')(y:X.stack=X.env::X.outer)(a0:X.env.frame=some X.env.locals)
  (c0:H' d=some (.xd fs)) (hg:Gl X Y) (hm:X.mg Y=some (.ref B0)) (e0:PySem.W.exmOne X.K (.ref C) (.ref B0)=some true) (hN:X.N.Nodup) (Z:∀n,nm=some n->X.N[i]?=some n) (M:∀n,nm=some n->X.env.scope.names.lookup n=some .local)
  (g:∀t s4,t.cls=.ref C->t.dict=some d->PySem.W.notCls t=true->Inv (X.l5 e) [(e,t)] (if nm.isSome then σ.set i (some (.ref e))else σ) H' s4 ->
   wpAny (model X.prog X.w) (X.A.mark (some (.ref e))) (execs (b0::j) X.env) (λf s5=>∃u H5,Inv (X.l5 e) [(e,t)] u H5 s5/\∀s6,Inv X [] (Ga nm i u) H5 s6->Q f s6) (λ_ _=>False) s4)
  (f0:(Y==("__debug__":Str))=false:=by decide) :
  wpAny (model X.prog X.w) X.A (noteFrame (.ref e) X.env) (λ_ O=>wpAny (model X.prog X.w) X.A (setFlight (.ref e) none) (λ_ P=>wpAny (model X.prog X.w) X.A (handleBy (.ref e) X.env [.ExceptHandler (some (.Name Y hp)) nm (b0::j) pos]) Q E P) E O) E s':=by
 have I':Inv X [] σ H' s':=I.call' (ch:=[]) k.os k.un k.hok k.bare (by simp)
 obtain⟨t,vs,g1,g2,g3,g4,g5⟩:=k.obj;have R:=I'.ok.frames;rw[y]at R;have hl:=I'.stack;rw[y]at hl;have B:∀b o,s.heap.get? b=some o->b≠e:=λb o q z=>by rw[z]at q;exact absurd (Nat.lt_of_lt_of_le (Heap.lt_size q) k.new) (Nat.lt_irrefl _)
 have l:e≠X.env.locals:=λz=>by
  obtain⟨m,⟨o,_,_,ho,_⟩,_⟩:=I.loc;exact B _ _ ho z.symm
 have fr:wb X e:=⟨.inr (Nat.le_trans I.sz k.new),λx c q=>by
  obtain⟨v,o,q1,_⟩:=I.cell x c q;exact B _ _ q1,λp hp=>by
  obtain⟨q1,_⟩:=I.pin p (by simp[hp])
  exact B _ _ q1⟩
 have S:e∉X.fs:=λz=>by
  obtain⟨_,o,ho,_⟩:=I.ok.eR.mem z;exact absurd (Nat.lt_of_lt_of_le (Heap.lt_size ho) (Nat.le_trans I.sz k.new)) (Nat.lt_irrefl _)
 refine zT R hl a0 g1 g4 g5 λh' T F=>?_
 have J:=I'.flown (by rw[y];exact F) fr l k.free
 have r:=F.at_;obtain⟨oT,ts,t1,t2,t3⟩:=F.tb;have D:(t.mapFields (·.setIfInBounds 1 (.ref T))).cls=.ref C:=by rw[Obj.cls_mapFields];exact g2
 have a:=Obj.data_mapFields g4 (·.setIfInBounds 1 (Value.ref T))
 have G:(t.mapFields (·.setIfInBounds 1 (.ref T))).dict=some d:=by
  obtain⟨oc,od,dt,sl⟩:=t;cases dt<;>exact g3
 have U:1<vs.size:=by
  rcases g5 with z|⟨_,_,_,z,_⟩<;>exact(Array.getElem?_eq_some_iff.mp z).1
 generalize (t.mapFields _)=h at *;have L:PySem.W.notCls h=true:=by unfold PySem.W.notCls;rw[a]
 obtain⟨mA,nA,_⟩:=J.hok d _ c0;obtain⟨od,gd,_⟩:=gF nA;have g0:PySem.W.InstAt h' e h C (some od):=⟨r,D,L,by rw[G];exact gd⟩
 refine wpAny_handleBy_cons (codeAny_handlers_test ?_) (by intro q;cases q)
 refine fG (X:=X.l5 e) J.l5 hg hm ?_ f0;refine(PySem.W.exm_one (K:=X.K) J.fU g0.type e0).here ?_;cases nm with
 |none=>
  refine codeAny_handlers_suite ?_;refine gC r a (by simp[U]) t1 t2 t3 ?_
  have J1:Inv (X.l5 e) [(e,h)] σ H' {s' with heap:=h' }:=J.l5.zR r k.free l S (λv=>by rw[a];simp)
  exact wpAny_mono (g h _ D G L J1) (λf s5 ⟨u,H5,J5,q5⟩=>q5 _ (J5.JA I.ok)) (λ_ _ z=>z.elim)
 |some n=>
 have Z:=Z n rfl;have M:=M n rfl;refine codeAny_handlers_suite_as ?_;refine gC r a (by simp[U]) t1 t2 t3 ?_
 have J1:Inv (X.l5 e) [(e,h)] σ H' {s' with heap:=h' }:=J.l5.zR r k.free l S (λv=>by rw[a];simp)
 refine ip (X:=X.l5 e) J1 hN Z (.inl M) (v:=.ref e) rfl (λs4 J4=>?_) (.inr M)
 refine wpAny_mono (g h s4 D G L J4) (λf s5 ⟨u,H5,J5,q5⟩=>?_) (λ_ _ z=>z.elim)
 obtain⟨m,h0,i0⟩:=J5.loc;exact wpAny_nameGoes_keeps M h0 (by rw[I.ok.kind];rfl) λh6 v6 n6 j0=>q5 _ (J5.gone I.ok hN Z i0 n6 j0)
end
section
variable{X:Cx}{σ:St}{H:Hp}{s:Shared}{C:Addr}{k:Nat}{f:Addr}{fd:FuncData}{ps:List Str}{sp:Sp}{to:TE}{ta:TA}
noncomputable def JD(C:Addr)(W:Addr->List (Str×V)->Hp->Prop):XK:=λa e b=>a=.ref C/\∃d c,e=some d/\b d=some (.xd c)/\W d c b
end
section
open Mir
variable{X:Cx}{e C N fI d:Addr}{oe:Obj}
end
section
variable{X:Cx}{pins:List (Addr×Obj)}{σ:St}{H H':Hp}{s s':Shared}{e C d:Addr}{oe:Obj}
noncomputable def Cx.jY(X:Cx)(ps:List (Addr×Obj)):Cx:={X with pn:=X.pn++ps}
theorem Inv.jY(I:Inv X pins σ H s):Inv (X.jY pins) [] σ H s:=
 ⟨⟨I.ok.mod,I.ok.kind,I.ok.glob,I.ok.blt,I.ok.above,I.ok.inj,I.ok.has,I.ok.cab,I.ok.hd,I.ok.frames,I.ok.wJ,I.ok.wO,I.ok.bs,I.ok.pe,I.ok.jM,I.ok.jN,I.ok.eR,I.ok.rj⟩,
  I.os,I.bare,I.base,I.loc,I.cell,I.free,I.cq,λp a=>I.pin p (by simpa[Cx.jY]using a),I.hok,I.len⟩
theorem Inv.nq(I:Inv (X.jY pins) [] σ H s):Inv X pins σ H s:=
 ⟨⟨I.ok.mod,I.ok.kind,I.ok.glob,I.ok.blt,I.ok.above,I.ok.inj,I.ok.has,I.ok.cab,I.ok.hd,I.ok.frames,I.ok.wJ,I.ok.wO,I.ok.bs,I.ok.pe,I.ok.jM,I.ok.jN,I.ok.eR,I.ok.rj⟩,
  I.os,I.bare,I.base,I.loc,I.cell,I.free,I.cq,λp a=>I.pin p (by simpa[Cx.jY]using a),I.hok,I.len⟩
def iW(X:Cx)(σ:St)(E:XK):Prop:=∀(pins:List (Addr×Obj)) (H:Hp) (s:Shared) (e:Value) (a:Shared),Inv X pins σ H s->kz X.prog X.w X.stack H s E e a->X.xe e a
theorem D8{W:Addr->List (Str×V)->Hp->Prop}{body:List Stmt}{m:Str}{nm:Option Str}{S:Addr}{i:Nat}{T:Stmt}{b:List Stmt}{Y k pos:Pos}{D:Ends}(I:Inv X pins σ H s)
  (t:X.stack=X.env::X.outer) (y:X.env.frame=some X.env.locals) (Z:Gl X m) (B:X.mg m=some (.ref S)) (E:PySem.W.exmOne X.K (.ref C) (.ref S)=some true) (hN:X.N.Nodup) (hi:∀n,nm=some n->X.N[i]?=some n) (hn:∀n,nm=some n->X.env.scope.names.lookup n=some .local)
  (h:∀F:Value->Shared->Prop,iW ((X.jY pins).wish F) σ (JD C W)->wpAny (model X.prog X.w) X.A (execs body X.env) (SP ((X.jY pins).wish F) [] D) F s)
  (g:∀e d o j a p,a d=some (.xd o)->W d o a->j.cls=.ref C->j.dict=some d->PySem.W.notCls j=true->Inv (((X.jY pins).l5 e).uO e j) [] (if nm.isSome then σ.set i (some (.ref e))else σ) a p ->
   wpAny (model X.prog X.w) (X.A.mark (some (.ref e))) (execs (T::b) X.env) (SP (((X.jY pins).l5 e).uO e j) [] {nx:=λc a=>D.nx (Ga nm i c) a,rt:=D.rt}) (λ_ _=>False) p)
  (G:(m==("__debug__":Str))=false) :
  wpAny (model X.prog X.w) X.A (exec (.Try body [.ExceptHandler (some (.Name m Y)) nm (T::b) k] [] [] pos) X.env) (SP X pins D) X.xe s:=by
 refine wpAny_Try_except (wpAny_mono (h _ ?_) (λf U z=>?_) (λe U z=>z))
 .intro L H1 U x s2 J hT
  obtain⟨e,C',d,H2,rfl,Th,hE⟩:=hT;obtain⟨e1,d',o,e2,l,hW⟩:=hE;cases e1;cases e2;have J1:=J.dN.zS;refine zZ (X:=X.jY _) J1 Th t y l Z B E hN hi hn (λj p c1 c2 c3 J4=>?_) G
  refine wpAny_mono (g e d o j H2 p l hW c1 c2 c3 J4.uO) (λf s5 z=>?_) (λ_ _ z=>z.elim)
  cases f with
  |next=>
   obtain⟨M,O,P,Q⟩:=z;exact⟨_,O,P.D7,λs6 R=>⟨_,_,R.nq,Q⟩⟩
  |ret u=>
   obtain⟨v,M,O,P,rv,Q⟩:=z;exact⟨_,O,P.D7,λs6 R=>⟨v,_,_,R.nq,rv,Q⟩⟩
  |brk=>obtain⟨_,_,_,z⟩:=z;exact z.elim
  |cont=>obtain⟨_,_,_,z⟩:=z;exact z.elim
 .cases f with
  |next=>
   obtain⟨c,a,J,q⟩:=z;exact wpAny_execs_nil ⟨_,a,J.dN.nq,q⟩
  |ret u=>
   obtain⟨v,c,a,J,r,q⟩:=z;exact⟨v,_,a,J.dN.nq,r,q⟩
  |brk=>obtain⟨c,a,J,q⟩:=z;exact⟨_,a,J.dN.nq,q⟩
  |cont=>obtain⟨c,a,J,q⟩:=z;exact⟨_,a,J.dN.nq,q⟩
end
section
variable{X:Cx}{k:Nat}{f:Addr}{fd:FuncData}{ps:List Str}{sp:Sp}{E:XK}{x:Str}{p pos:Pos}{e:Expr}{es:List Expr}{t:TA}{uP:St}
theorem z5(F:bP X.prog X.w X.K X.mg X.base (kz X.prog X.w) k f fd ps sp)(l:bE k X.A)(m:Gl X x)(n:X.mg x=some (.ref f))(o:PySem.W.keepIn X.K (.ref f)=true)(y:Binds X.K fd ps [])(z:iW X uP E)
  (B:PA X (e::es) t) (d:(x==("__debug__":Str))=false) (C:starEach (e::es) X.env=(false,eval e X.env)::starEach es X.env) (g:(backTo pos (starEach es X.env)).any (·.1)=false) :
  PE X (.Call (.Name x p) (e::es) [] pos) (λσ H Q=>σ=uP/\t σ H λvs c=>sp vs c Q E):=by
 intro pins s σ H Q I h;obtain⟨rfl,h⟩:=h;refine wpAny_Call_Name_kw (fG I m n ?_ d);refine PySem.W.callWith_K I.ok.mod.Er o (cu (B _ _ s σ H _ I h) λi j ⟨vs,c,I1,r,q⟩=>⟨I1.fU,?_⟩) C g
 have a:=y j i I1.fU (by rw[List.append_nil];exact(by rw[←r.length];exact F.len _ _ _ _ q))
 rw[List.append_nil]at a;refine wpAny_call (codeAny_mono (F.run _ _ j c ⟨i,[]⟩ i vs Q E l I1.env0 a r q) λr D b=>?_)
 cases r with
 |error e=>exact z _ c j e D I1 b
 |ok fl=>
  cases fl with
  |ret u=>exact I1.after b
  |next=>exact False.elim b
  |brk=>exact False.elim b
  |cont=>exact False.elim b
end
section
variable{X:Cx}{pins:List (Addr×Obj)}{σ:St}{H:Hp}{s:Shared}{C N0 f c:Addr}{fd:FuncData}{st:Stmt}{qual sf:Str}{ps:List Str}{rs:List fD}{k:Nat}{vs:List V}{us:List Value}{ff:Option Addr->List (Str×V)->Hp->Prop}
theorem C4(D:iV X.K X.mg C N0 f c fd st qual sf ps rs)(I:Inv X pins σ H s)(S:bE (k+2) X.A)(T:Vals vs us)(i:vs.length=ps.length)(Y:∀d y,¬ ff none d y)
  (B:∀(A:Around) (g:Shared) (e:Addr) (E:XK),bE k (A.deeper (envOfC qual (af st) g.heap.objs.size f (.ref c)))->H e=none->∃G:List TE,G.length=rs.length/\(∀p∈rs.zip G,PE ((bF dH X.prog X.w X.K X.mg X.base (sf::ps) qual (af st) f (.ref c) A X.stack g H E).fg.mk1 e) p.1.ve p.2) /\
   lS e g.heap.objs.size ((rs.zip G).map λr=>(r.1.fld,r.2)) none [] (start (sf::ps) (.ref e::vs)) H λU d y=>d.map (·.1)=rs.map (·.fld)/\ff U d y)
  {Q:Value->Shared->Prop} (h:∀e dd d t l g,ff (some dd) d l->Inv X pins σ l g->g.heap.get? e=some (bB C (some dd) t)->s.heap.objs.size<=e->l e=none->l dd=some (.xd d)->Q (.ref e) g) :
  wpAny (model X.prog X.w) X.A (call (.ref C) us) Q X.xe s:=by
 obtain⟨nm,q,bs,bm,sn,Z,ab,a0,b0,k0,k1,k2,k3,k5,hC,ot⟩:=D.cls.ex;obtain⟨mN,hn,J⟩:=D.cls.ns _ I.fU;have m:∀b o,s.heap.get? b=some o->(gT _ C us).get? b=some o:=λb o e=>Heap.get?_push_of_some _ (Heap.get?_push_of_some _ e)
 have V:=I.kept (t':=s.toks) m;have u:=I.hok.fresh (Nat.le_succ _);have a:∀b o,s.heap.get? b=some o->b≠s.heap.objs.size+1:=λb o q=>Nat.ne_of_lt (Nat.lt_succ_of_lt (Heap.lt_size q))
 have x:=T.length.symm.trans i;refine wpAny_call ?_;refine zN PySem.F.excBase_ValueError (ot _ I.fU) (I.fU _ _ hC) hn J (λself=>PySem.W.bind_fn I.fU _ D.cls.fn) (by have:=D.pl;rw[x,sizeLine_eq];omega) ?_
 refine F_ D (λE=>B _ _ _ E ((S.make C us []).deeper _) u) (S.make C us []) (V.env0.make C us []) (by have:=D.bs _ (.ref (s.heap.objs.size+1)::us) V.fU (by simp[x]);simp_all) i T (by
  show(gT s.heap C us).get? (s.heap.objs.size+1)=some ({cls:=.ref C,data:=.fields #[.ref s.heap.objs.size,.none,.none,.none,.bool false,.none]}:Obj)
  heap_get) ?_ u (λz=>by
  obtain⟨_,o,L,_⟩:=I.stack.mem z;exact a _ _ L rfl) (λU d l t' g q2 M L N j O g1 g2=>?_)
 .exact Nat.le_trans (Nat.le_trans I.ok.pe I.sz) (Nat.le_succ _)
 .rcases M with ⟨rfl,rfl⟩|⟨dd,rfl,P,c0⟩
  .simp_all
  .exact h _ dd d t' l g q2 (I.call' (ch:=[]) L ⟨λb o e n R _=>j.keep b o (m b o e) n R (by simpa using a b o e),λb o e n R _=>j.slot b o (m b o e) n R (by simpa using a b o e),λb o e n _=>j.free b o (m b o e) n (by simpa using a b o e),λb o e _=>j.there b o (m b o e) (by simpa using a b o e),j.tups,j.e9,j.fF⟩ O N (by simp)) g1 (Nat.le_succ _) g2 P
end
section
variable{P:Program}{w:World}{K:PySem.W.Frag}{mg:Str->Option Value}{base:Heap}{N:List Str}{qual:Str}{scope:Scope}{f:Addr}{cd:Value}{A:Around}{outer:List Env}{s0:Shared}{H0:Hp}{E:XK}
variable{C N0 fI c:Addr}{fd:FuncData}{st:Stmt}{uN sf cn:Str}{ps:List Str}{rs:List fD}{k:Nat}{ta:TA}{Arg:List V->Hp->Prop}{ff:List V->Hp->Option Addr->List (Str×V)->Hp->Prop}{np cpos pos:Pos}{a1:Expr}{as:List Expr}
def C5(f:TA)(Arg:List V->Hp->Prop)(ff:List V->Hp->Option Addr->List (Str×V)->Hp->Prop)(n:Nat)(C:Addr)(E:XK):TS:=λ_ g H=>f g H λa d=>a.length=n/\Arg a d/\∀e b c,ff a d (some c) e b->b c=some (.xd e)->E (.ref C) (some c) b
theorem nr(D:iV K mg C N0 fI c fd st uN sf ps rs)(M:bE (k+2) (A.deeper (envOfC qual scope s0.heap.objs.size f cd)))(O:Gl (bF (kz P w) P w K mg base N qual scope f cd A outer s0 H0 E) cn)(Q:mg cn=some (.ref C))
  (g:PA (bF (kz P w) P w K mg base N qual scope f cd A outer s0 H0 E) (a1::as) ta) (l:∀vs a i m,¬ ff vs a none i m)
  (n:∀vs a,Arg vs a->∀(j:Around) (o:List Env) (d:Shared) (e:Addr) (u:XK),bE k (j.deeper (envOfC uN (af st) d.heap.objs.size fI (.ref c)))->a e=none->∃x:List TE,x.length=rs.length/\(∀p∈rs.zip x,PE ((bF dH P w K mg base (sf::ps) uN (af st) fI (.ref c) j o d a u).fg.mk1 e) p.1.ve p.2) /\
   lS e d.heap.objs.size ((rs.zip x).map λr=>(r.1.fld,r.2)) none [] (start (sf::ps) (.ref e::vs)) a λR i m=>i.map (·.1)=rs.map (·.fld)/\ff vs a R i m)
  (y:starEach (a1::as) (envOfC qual scope s0.heap.objs.size f cd)=(false,eval a1 (envOfC qual scope s0.heap.objs.size f cd))::starEach as (envOfC qual scope s0.heap.objs.size f cd)) (z:(backTo cpos (starEach as (envOfC qual scope s0.heap.objs.size f cd))).any (·.1)=false) (B:(cn==("__debug__":Str))=false) :
  PS (bF (kz P w) P w K mg base N qual scope f cd A outer s0 H0 E) (.Raise (some (.Call (.Name cn np) (a1::as) [] cpos)) none pos) (C5 ta Arg ff ps.length C E):=by
 intro pins s S H Dn I h;obtain⟨nm,q,bs,U,sn,sub,ab,col,F,k0,k1,k2,k3,k5,V,o⟩:=D.cls.ex;have b:U.contains (.type "BaseException")=true:=(o _ I.fU).hasType (by rfl)
 refine wd (C:=C) (nm:=nm) (q:=q) (N:=N0) (bs:=bs) (hdct:=true) (sn:=sn) (sub:=sub) (ab:=ab) (col:=col) (dd:=F) (k0:=k0) (k1:=k1) (k2:=k2) (k3:=k3) (k5:=k5) (newId:="ValueError.__new__") b (I.ok.hd rfl) ?_;refine wpAny_Call_Name_kw (fG I O Q ?_ B);refine PySem.W.callWith_K I.ok.mod.Er D.cls.kp (cu (g _ _ s S H _ I h) λus s1 ⟨vs,a,I1,r1,hl,ha,hq⟩=>⟨I1.fU,?_⟩) y z
 refine C4 D I1 M r1 hl (l vs a) (λj d e u G X=>n vs a ha j _ d e u G X) λe dd i t H2 d q2 J L Y Z g4=>⟨e,_,t,rfl,J.fU _ _ V,L,?_⟩
 exact zU J rfl rfl rfl L (Nat.le_trans I1.sz Y) Z λa0 T=>⟨e,C,dd,_,rfl,T,by grind⟩
end
end L2
namespace Mir
open PySem PySem.Spec PyProof.Rows L2
variable [aw]
noncomputable def fR(C a:Str)(d:D):D:=.tup [.str C,.str a,d]
noncomputable def eM(C:Str):D:=.tup [.str C]
def o5(C a:Str)(e:EM)(m:EM):SM:=λf g=>cw (m f g) λd b=>match e [none,some d] b with
 |.ok h c=>.exc (fR C a h) c
 |_=>.bad
def f_(κ:Str->Addr->Prop)(E:XK):eQ:=λx g e Z H=>(∃C b d,x=fR C b d/\∀c v a,κ C c->av e Z H d v->H a=none->E (.ref c) (some a) (upd H a (.xd [(b,v)])))\/(∃C,x=eM C/\∀c a f,κ C c->H a=some (.xd f)->E (.ref c) (some a) H)
def nt(κ:Str->Addr->Prop)(F:aX):Sp:=λd H Q E=>∃a Z b c,bc κ a Z b H/\aD (av a Z H) c d/\ck κ (f_ κ E) a Z H (F c b) Q
def uQ(R:List Stmt->Option SM)(T:aO)(td:List Str)(k:Nat)(d:Scope)(N:List Str)(st:Stmt):Option SM:=match st with
 |.If c a b _=>o2 (cG T k d N c) (o2 (R a) (R b) Prod.mk) λx y=>eU x y.1 y.2
 |.While c b [] _=>o2 (cG T k d N c) (R b) lg
 |.For (.Name x _) e b [] _=>if isSet e then none else o2 (iK T d N x) (o2 (gx (cG T k d N) d e) (R b) Prod.mk) λi y=>dM (bN i) y.1 y.2
 |_=>fQ T td k d N 1 st
def iX(a:Stmt->Option SM)(T:aO)(td:List Str)(k:Nat)(b:Scope)(N:List Str):Nat->Stmt->Option SM
 |0,_=>none
 |n+1,st=>match a st with
  |some c=>some c
  |none=>uQ (bO (iX a T td k b N n)) T td k b N st
section
variable{X:Cx}{κ:Str->Addr->Prop}{Φ:eQ}{T:aO}{k:Nat}{sc:Scope}{N td:List Str}{hk:Stmt->Option SM}
theorem o6(G:cV X κ T k sc N)(z:∀st c,hk st=some c->gZ X κ Φ st c):∀(n d:Nat) (st:Stmt) (c:SM),iX hk T td d sc N n st=some c->gZ X κ Φ st c:=by
 intro n d;have E:∀e m,cG T d sc N e=some m->lZ X κ e m:=λe m q=>er d X sc N e m G.toGoodO q
 induction n with
 |zero=>intro st c h;cases h
 |succ n A=>
  intro st c h;have B:∀o c,bO (iX hk T td d sc N n) o=some c->jW X κ Φ o c:=λo c q=>cX A q
  have C:X.N.Nodup:=by rw[G.names];exact G.jT
  cases p:hk st with
  |some L=>
   replace h:(match hk st with|some c=>some c|none=>uQ (bO (iX hk T td d sc N n)) T td d sc N st)=some c:=h
   rw[p]at h;cases h;exact z _ _ p
  |none=>
   have D:fQ T td d sc N 1 st=some c->gZ X κ Φ st c:=λq=>gN G 1 d st c q
   replace h:(match hk st with|some c=>some c|none=>uQ (bO (iX hk T td d sc N n)) T td d sc N st)=some c:=h
   rw[p]at h;replace h:uQ (bO (iX hk T td d sc N n)) T td d sc N st=some c:=h;cases st with
   |If r a b f=>
    obtain⟨m,y,g,j,rfl⟩:=bj h;obtain⟨F,l,s,t,rfl⟩:=bj j;exact yK ((E r m g).2.1 Φ) (B a F s) (B b l t)
   |While r b e f=>
    cases e with
    |nil=>
     obtain⟨m,l,g,j,rfl⟩:=bj h;exact m6 G.own ((E r m g).2.1 Φ) (B b l j)
    |cons _ _=>exact D h
   |For u w b e f=>
    cases e with
    |nil=>
     cases u with
     |Name x M=>
      replace h:(if isSet w=true then none else o2 (iK T sc N x) (o2 (gx (cG T d sc N) sc w) (bO (iX hk T td d sc N n) b) Prod.mk) λi y=>dM (bN i) y.1 y.2)=some c:=h
      split at h
      .cases h
      .rename_i H
       obtain⟨i,y,g,j,rfl⟩:=bj h;obtain⟨O,l,s,t,rfl⟩:=bj j;obtain⟨I,J,K⟩:=fC G g;exact oy G.own G.calm (ly G.toGoodO E s Φ _) (j7 C I J K) (yM i) (B b l t) (iC (by simpa using H))
     |_=>exact D h
    |cons _ _=>cases u<;>exact D h
   |_=>exact D h
end
section
variable{P:Program}{w:World}{K:PySem.W.Frag}{mg:Str->Option Value}{base:Heap}{T:aO}{k:Nat}
theorem ba.toXt(W:ba P w K mg base T k):ba P w K mg base {T with xt:=true} k:=⟨W.b8,W.fP,W.fn,W.cst,W.met,W.cls,W.fld,W.clo⟩
theorem wg{κ:Str->Addr->Prop}{N:List Str}{qual:Str}{scope:Scope}{f:Addr}{M:Value}{A:Around}{outer:List Env}{O:Shared}{H0:Hp}{E:XK}
  {C N0 fI c:Addr}{a0:FuncData}{F:Stmt}{j sf pn B:Str}{r:fD}{q:Expr}{np T pos:Pos}{m U:EM} (D:iV K mg C N0 fI c a0 F j sf [pn] [r]) (hr:bE (k+2) (A.deeper (envOfC qual scope O.heap.objs.size f M)))
  (hg:Gl (bF (kz P w) P w K mg base N qual scope f M A outer O H0 E) B) (hm:mg B=some (.ref C)) (b0:κ B C)
  (V:bh (bF (kz P w) P w K mg base N qual scope f M A outer O H0 E) κ (f_ κ E) q m)
  (c0:∀(A':Around) (ot:List Env) (s':Shared) (e:Addr) (n:Hp) (E':XK),bE k (A'.deeper (envOfC j (af F) s'.heap.objs.size fI (.ref c)))->bh ((bF dH P w K mg base [sf,pn] j (af F) fI (.ref c) A' ot s' n E').fg.mk1 e) κ gM r.ve U)
  (X:starEach [q] (envOfC qual scope O.heap.objs.size f M)=[(false,eval q (envOfC qual scope O.heap.objs.size f M))]) (e0:(B==("__debug__":Str))=false) :
  gZ (bF (kz P w) P w K mg base N qual scope f M A outer O H0 E) κ (f_ κ E) (.Raise (some (.Call (.Name B np) [q] [] T)) none pos) (o5 B r.fld U m):=by
 intro G Z0 J ρ Ω pins s σ H Dn I hF;obtain⟨α,Z,S,hF⟩:=hF
 refine nr (k:=k) (Arg:=λvs n=>∃v0 d h t b g u,vs=[v0]/\U [none,some d] h=.ok t b/\bD G Z0 J g u n/\bc κ g u h n/\av g u n d v0/\(∀o a l,bD G Z0 J a l o->bc κ a l b o->f_ κ E (fR B r.fld t) b a l o))
  (ff:=λ_ _ od fs o=>∃y v Q t b a l,od=some y/\fs=[(r.fld,v)]/\o=upd Q y (.xd [(r.fld,v)])/\Q y=none/\bc κ a l b Q/\av a l Q t v/\f_ κ E (fR B r.fld t) b a l Q) D hr hg hm (dX (V G Z0 J ρ Ω) je X) (λvs n fs H' hz=>by obtain⟨_,_,_,_,_,_,_,z,_⟩:=hz;cases z) (λvs n hA A' ot s' e E' f0 he=>?_) X rfl e0 pins s σ H Dn I ⟨α,Z,S,?_⟩
 .obtain⟨v0,d,h,t,b,g,u,rfl,e1,g1,s1,r1,h1⟩:=hA
  refine⟨[tO κ gM g u n U [none,some d] h],rfl,λp hp=>?_,g,u,⟨s1,bD.refl s1.has,rfl,λi y hi=>?_⟩,?_⟩
  .rw[List.mem_singleton.mp hp]
   exact c0 A' ot s' e n E' f0 g u n [none,some d] h
  .match i with
   |0=>cases hi
   |1=>cases hi;exact⟨v0,rfl,r1⟩
   |i+2=>cases hi
  .rw[e1]
   intro v o a l g2 Y r2 y L _ _;exact⟨rfl,y,v,o,t,b,a,l,rfl,rfl,rfl,L,Y,r2,h1 o a l (g1.trans g2) Y⟩
 .refine dv.use S hF λd h v n g u e1 g1 S1 r1 R=>?_
  cases hv:U [none,some d] h with
  |ok t b=>
   rw[hv]at R;refine⟨rfl,⟨v,d,h,t,b,g,u,rfl,hv,S1.gr,S1.st,r1,λo a l g2 Y=>R o a l g2 Y⟩,?_⟩
   rintro fs o y ⟨y,v',Q,d2,h0,a,l,e4,rfl,rfl,L,Y,r2,hp⟩ _;cases e4;rcases hp with ⟨C',g0,d3,e3,h3⟩|⟨C',e3,_⟩
   rotate_left
   .simp[fR,eM]at e3
   simp only[fR,Mir.D.tup.injEq,List.cons.injEq,Mir.D.str.injEq,and_true]at e3;obtain⟨rfl,e5,rfl⟩:=e3;rw[e5]at *;exact h3 C v' y b0 r2 L
  |exc x b=>rw[hv]at R;exact R.elim
  |bad=>rw[hv]at R;exact R.elim
theorem uR(W:ba P w K mg base T k)(M:T.xt=true){x qual:Str}{st:Stmt}{O:Value}{f:Addr}{y:FuncData}(F:F9 K x qual st O f y){N ps td:List Str}{c:SM}{z:Stmt->Option SM}(R:bL N ps (af st)=true)(U:bO (iX z T td 60 (af st) N 30) (aT st)=some c)
    (V:∀(a:Value) (A:Around) (outer:List Env) (s:Shared) (H:Hp) (E:XK),bE (k+2) (A.deeper (envOfC qual (af st) s.heap.objs.size f a))->GoodO (bF (kz P w) P w K mg base N qual (af st) f a A outer s H E) (bS mg) T k (af st) N ->
      ∀e B,z e=some B->gZ (bF (kz P w) P w K mg base N qual (af st) f a A outer s H E) (bS mg) (f_ (bS mg) E) e B) :
    bP P w K mg base (kz P w) (k+3) f y ps (nt (bS mg) (bA N.length ps.length c)):=by
  obtain⟨oc,od,kV,X,pm,an,a,ct,Y,rfl,lk,i⟩:=F.ex;have l:=cQ R;refine w6 lk i l (λvs H Q E h=>?_) λA outer s H vs Q E D h=>?_
  · obtain⟨n,Z,o,ds,S,r,g⟩:=h
    rw[r.length];unfold bA at g;split at g
    · omega
    · exact g.elim
  · obtain⟨n,Z,o,ds,S,r,g⟩:=h
    have I:GoodO (bF (kz P w) P w K mg _ N _ _ f _ A outer s H E) _ T k _ N:=
      { scope:=rfl,names:=rfl,calm:=rfl,room:=D.mono (by omega),b8:=W.b8,fld:=W.fld,cst:=W.cst
        fP:=λx F h=>⟨W.fP x F h⟩,fn:=λx F h=>⟨W.fn x F h⟩,met:=λm C F h=>⟨W.met m C F h⟩,cls:=λC F h=>let ⟨j,h1,h2⟩:=W.cls C F h;⟨j,h1,⟨h2⟩⟩,clo:=W.clo }
    have G:cV _ _ T k _ N:=
      {toGoodO:=I,own:=PassesOwn.leaving,Cc:=λ_ _ _=>.inl rfl,jT:=l.nd,kind:=l.kind,fg:=λq=>by grind}
    refine⟨_,cX (o6 G (V _ A _ s H E D I) 30 60) U n Z H _ o,n,Z,dU S r,?_⟩;unfold bA at g;split at g
    · cases q:c _ o with
      |rt d b=>rw[q]at g;exact λv p t u gr st r=>g v p _ u gr st r
      |nx J b=>rw[q]at g;exact λσ p t u L=>g _ p _ u L.gr L.st (aR rfl)
      |bk J b=>rw[q]at g;exact g.elim
      |ct J b=>rw[q]at g;exact g.elim
      |exc x b=>rw[q]at g;exact g
      |bad=>rw[q]at g;exact g.elim
    · exact g.elim
end
section
variable{X:Cx}{κ:Str->Addr->Prop}{e:Expr}{es:List Expr}{as:AM}{p pos:Pos}
end
section
variable{P:Program}{w:World}{K:PySem.W.Frag}{mg:Str->Option Value}{base:Heap}{T:aO}{k:Nat}
end
end Mir
namespace Mir
open PySem PySem.Spec PyProof.Rows L2
theorem da:PySem.Slot "list_reverseiterator" "__next__" "list_reverseiterator.__next__":=
 .of (owner:="list_reverseiterator") (n:="__next__") (by rfl) (by rfl) (by rfl) (by rfl)
  (by first|exact .inl (by rfl)) (by rfl)
theorem hG:PySem.Slot "list_reverseiterator" "__iter__" "list_reverseiterator.__iter__":=
 .of (owner:="list_reverseiterator") (n:="__iter__") (by rfl) (by rfl) (by rfl) (by rfl)
  (by first|exact .inl (by rfl)) (by rfl)
theorem gD:entryFor table "list_reverseiterator.__next__"=some Builtin.«list_reverseiterator.__next__» := entryFor_of_tree (by kernel_rfl)
theorem hI(a:Value):argsOk "list_reverseiterator.__next__" ⟨[a],[]⟩:=by rfl
theorem lT:entryFor table "list_reverseiterator.__iter__"=some Builtin.«dict_keyiterator.__iter__» :=
 entryFor_alias (id':="dict_keyiterator.__iter__") (by kernel_rfl) rfl (by decide +kernel) (by kernel_rfl)
theorem mr(a:Value):argsOk "list_reverseiterator.__iter__" ⟨[a],[]⟩:=by rfl
theorem sO:typeLookup (.type "list_reverseiterator") "__len__"=pure none:=by rfl
theorem mu:PySem.Slot "list_reverseiterator" "__length_hint__" "list_reverseiterator.__length_hint__":=
 .of (owner:="list_reverseiterator") (n:="__length_hint__") (by rfl) (by rfl) (by rfl) (by rfl)
  (by first|exact .inr (by rfl)) (by rfl)
abbrev hJ(h:Heap)(it l:Addr)(i:Int):Prop:=h.get? it=some {cls:=.type "list_reverseiterator",data:=.fields #[.ref l,rawInt i]}
section
variable{prog:Program}{w:World}{A:Around}{E:Value->Shared->Prop}{s:Shared}
theorem lU{it l:Addr}{i:Int}{Q:Value->Shared->Prop}(a:hJ s.heap it l i)(h:Q (.ref it) s):wpAny (model prog w) A (pyIter (.ref it)) Q E s:=by
 have b:s.TypeIs (.ref it) _:=⟨_,a,rfl⟩;refine wpAny_pyIter_slot b hG (wpAny_call_entry hG b lT ?_ (mr _));exact wpAny_pure ⟨_,rfl,_,_,b,da.lookup,h⟩
theorem jZ{it l:Addr}{i:Nat}{items:Array Value}{x:Value}{Q:Option Value->Shared->Prop}(a:hJ s.heap it l i)(f:s.heap.IsList l items)(g:items[i]?=some x)
  (h:∀b,hJ b it l ((i:Int) - 1)->Heap.SameBut it s.heap b->Q (some x) {s with heap:=b}):wpAny (model prog w) A (pyNext (.ref it)) Q E s:=by
 have e:s.TypeIs (.ref it) _:=⟨_,a,rfl⟩;obtain⟨m,c,_,n,d⟩:=f;refine wpAny_bind (wpAny_attempt (wpAny_callSpecial?_slot e da (wpAny_call_entry da e gD ?_ (hI _))))
 show wpAny _ _ (field _ 1 >>= _) _ _ s
 refine wpAny_bind (wpAny_field a rfl rfl ?_)
 show wpAny _ _ (if (i:Int)<0 then _ else _) _ _ s
 refine wpAny_bind (wpAny_field a rfl rfl ?_);refine wpAny_bind (wpAny_seqItems c d ?_);simp only[Int.toNat_natCast,g];refine wpAny_bind (wpAny_setField_rec a (by simp) λb j k=>?_)
 exact wpAny_pure ⟨x,rfl,wpAny_pure (h b j k)⟩
theorem lV{it l:Addr}{Q:Option Value->Shared->Prop}(g:A.handled=none)(c:hJ s.heap it l (-1))(h:∀d,(∀b o,s.heap.get? b=some o->d.get? b=some o)->Q none {s with heap:=d}):wpAny (model prog w) A (pyNext (.ref it)) Q E s:=by
 have f:s.TypeIs (.ref it) _:=⟨_,c,rfl⟩;unfold pyNext;refine wpAny_bind (wpAny_attempt (wpAny_callSpecial?_slot f da (wpAny_call_entry da f gD ?_ (hI _))))
 show wpAny _ _ (field (.ref it) 1 >>= _) _ _ s
 refine wpAny_bind (wpAny_field c rfl rfl ?_)
 show wpAny _ _ (if (-1:Int)<0 then _ else _) _ _ s
 refine wpAny_bind (wpAny_rule ?_);refine wpAny_bind ?_;refine wpAny_bind ?_;refine wpAny_bind (m:=firstArgMember _ _) (wpAny_of_eq (a:=Value.none) (by rfl) ?_)
 refine wpAny_newObj_type ?_ (by size_fits)
 refine wpAny_bind (wpAny_handled ?_);rw[g];refine wpAny_bind (wpAny_pure (wpAny_throw ?_));refine wpAny_bind (wpAny_isInstance (b:=true) ⟨_,Heap.get?_push_size _ rfl,rfl⟩ isSubtype_stop ?_);exact wpAny_pure (h _ λb o e=>Heap.get?_push_of_some _ (Heap.get?_push_of_some _ e))
theorem wh(u:A.handled=none)(it l:Addr)(m:it≠l)(items:Array Value):Walks prog w A it [it,l] [it] items.size (λi v=>items[items.size - 1 - i]?=some v) (λi h=>hJ h it l ((items.size:Int) - 1 - (i:Nat))/\h.IsList l items) where
 sub:=λb p=>by simp_all
 frame:=λi h j a k=>⟨k it (by simp) _ a.1,let ⟨o,n,r⟩:=a.2;⟨o,k l (by simp) o n,r⟩⟩
 item:=λi s Q E x a f=>by
  obtain⟨c,d⟩:=a;have q:items[items.size - 1 - i]?=some items[items.size - 1 - i]:=by simp
  have g:hJ s.heap it l ((items.size - 1 - i:Nat)):=by grind
  refine jZ g d q λj y t=>f _ j _ q ⟨?_,?_⟩ λb o p e=>t.extBut b o (λz=>p (by simp[z])) e
  .rwa[show(items.size) - 1 - ((i+1:Nat))=((items.size - 1 - i:Nat):Int) - 1 by omega]
  .obtain⟨o,n,r⟩:=d
   exact⟨o,t.extBut l o (Ne.symm m) n,r⟩
 done:=λs Q E a f=>by
  obtain⟨c,d⟩:=a;rw[show(items.size) - 1 - ((items.size):Int) = -1 by omega]at c
  exact lV u c λj k=>f j _ λb o _ e=>k b o e
 self:=λi s Q E a f=>lU a.1 f
theorem z6{it l:Addr}{i:Int}{Q:Bool->Shared->Prop}(b:hJ s.heap it l i)(h:Q false s):wpAny (model prog w) A (Builtin.List.listLengthHint (.ref it)) Q E s:=by
 have c:s.TypeIs (.ref it) _:=⟨_,b,rfl⟩;refine wpAny_bind (wpAny_specialOf c sO ?_);refine wpAny_bind (wpAny_specialOf c mu.lookup ?_);generalize d:("list_reverseiterator.__length_hint__":String)=e
 wp_delta
 subst d;refine wpAny_bind (wpAny_isInstance c (by rfl) ?_)
 refine wpAny_ite_split (λa=>absurd a (by decide)) (λ_=>?_)
 refine wpAny_ite_split (λ_=>?_) (λa=>absurd (by decide +kernel) a)
 refine wpAny_ite_split (λa=>absurd a (by decide)) (λ_=>wpAny_pure h)
theorem sP{R:Result->Shared->Prop}{it l:Addr}{items:Array Value}(z:A.handled=none)(m:it≠l)(c:hJ s.heap it l ((items.size:Int) - 1))(B:s.heap.IsList l items)(C:items.size<=sizeLine)(S:Addr)(g:Value)(h:Nat)(D:s.heap.get? S=some {cls:=.type "list",data:=.seq #[] h})(E:S≠l)
  (hR:∀n tk a d,(∀b o,b≠S->b≠it->s.heap.get? b=some o->n.get? b=some o)->n.get? S=some {cls:=.type "list",dict:=none,data:=.seq a d,slots := #[]}->ItemsOf (λi v=>items[items.size - 1 - i]?=some v) a items.size->R (.ok (.ret g)) {s with heap:=n,toks:=tk}) :
  wpAny (model prog w) A.in1 (Builtin.List.listExtendWith (.ref S) (.ref it) g)
   (λp j=>match p with|.done f=>R (.ok f) j|.again d=>d.quiet=true/\codeAny (model prog w) A d R j) (λe j=>R (.error e) j) s:=by
 have q:S≠it:=λe=>by
  simp_all
 have r:S∉[it,l]:=λt=>by
  simp_all
 refine wpAny_bind (wpAny_typeOf ⟨_,c,rfl⟩ ?_);have G:Builtin.List.listSameRef (.ref S) (.ref it)=false:=by simp[Builtin.List.listSameRef,q]
 have H:(Value.type "list_reverseiterator"==Value.type "list")=false:=by decide
 have I:(Value.type "list_reverseiterator"==Value.type "tuple")=false:=by decide
 simp only[G,H,I,Bool.or_false,Bool.false_eq_true,if_false];refine wpAny_bind (lU c ?_);refine wpAny_bind (wpAny_holding (z6 c ?_));refine wpAny_ite_split (λu=>absurd u (by decide)) (λ_=>wpAny_pure ⟨plainId_quiet F.plain_extend_loop _,?_⟩)
 refine codeAny_extend_loopS ((wh (prog:=prog) (w:=w) (A:=A.in1) z it l m items).toS) C S r _ _ 0 _ _ _ rfl (Nat.zero_le _) ⟨by grind,B⟩ D (ItemsOf.nil _) λj a d t x k=>?_
 rw[Moved.eq_with t];refine hR _ _ _ d (λb o K J e=>t.heap b o (λy=>?_) e) x k
 grind
theorem z7{R:Result->Shared->Prop}{it l:Addr}{items:Array Value}(y:A.handled=none)(m:it≠l)(n:hJ s.heap it l ((items.size:Int) - 1))(z:s.heap.IsList l items)(B:items.size<=sizeLine)(S:Addr)(p:s.heap.get? S=some {cls:=.type "list",data:=.seq #[]})(d:S≠l)(q:S≠it)
  (hR:∀j tk a g,(∀b o,b≠S->b≠it->s.heap.get? b=some o->j.get? b=some o)->j.get? S=some {cls:=.type "list",dict:=none,data:=.seq a g,slots := #[]}->ItemsOf (λi v=>items[items.size - 1 - i]?=some v) a items.size->R (.ok (.ret .none)) {s with heap:=j,toks:=tk}) :
  wpAny (model prog w) A.in1 (Builtin.«list.__init__» ⟨[.ref S,.ref it],[]⟩)
   (λt k=>match t with|.done f=>R (.ok f) k|.again g=>g.quiet=true/\codeAny (model prog w) A g R k) (λe k=>R (.error e) k) s:=by
 refine wpAny_bind ?_;refine wpAny_bind (wpAny_seqItems p rfl (wpAny_pure ?_));refine wpAny_bind (wpAny_updateSeq p rfl ?_);have c:=Heap.get?_update_self (Obj.mapSeq (λ_=>(#[]:Array Value))) p rfl
 have h:∀b o,b≠S->s.heap.get? b=some o->(s.heap.update S (Obj.mapSeq (λ_=>(#[]:Array Value)))).get? b=some o:=
  λb o C e=>(Heap.get?_update_other _ _ (Ne.symm C)).trans e
 have u:(s.heap.update S (Obj.mapSeq (λ_=>(#[]:Array Value)))).IsList l items:=by
  obtain⟨o,D,r⟩:=z;exact⟨o,h l o (Ne.symm d) D,r⟩
 refine sP y m (h it _ (Ne.symm q) n) u B S .none _ c d λj tk a g F E x=>?_
 grind
theorem mw{Q:Value->Shared->Prop}{it l:Addr}{items:Array Value}(u:A.handled=none)(k:it≠l)(d:hJ s.heap it l ((items.size:Int) - 1))(r:s.heap.IsList l items)(x:items.size<=sizeLine)
  (y:∀f tk a m,(∀b o,b≠it->s.heap.get? b=some o->f.get? b=some o)->f.get? s.heap.objs.size=some {cls:=.type "list",dict:=none,data:=.seq a m,slots := #[]}->ItemsOf (λi v=>items[items.size - 1 - i]?=some v) a items.size->Q (.ref s.heap.objs.size) {s with heap:=f,toks:=tk}) :
  wpAny (model prog w) A (call (.type "list") [.ref it]) Q E s:=by
 have n:s.heap.objs.size≠it:=λe=>Nat.lt_irrefl _ (e▸Heap.lt_size d)
 have p:s.heap.objs.size≠l:=λe=>by obtain⟨o,B,_⟩:=r;exact Nat.lt_irrefl _ (e▸Heap.lt_size B)
 refine callType_codes (Q₁:=λg c=>g=.ref _/\c={s with heap:=s.heap.push _}) F.called_list (F.typeCall_list_1 _) F.entry_list_init
  (code_list_new _ ⟨rfl,rfl⟩) λg c h=>?_
 obtain⟨rfl,rfl⟩:=h;have t:(s.heap.push _).get? _=some {cls:=.type "list",data:=.seq #[]}:=Heap.get?_push_size _ rfl;refine⟨⟨_,t,rfl⟩,F.args_list_init_2 _ _,z7 (A:=A.in1) (s:={s with heap:=s.heap.push _}) (u) k (Heap.get?_push_of_some _ d) (r.push _) x _ t p n λf tk a m C q j=>?_⟩
 exact⟨rfl,y f tk _ m (λb o D e=>C b o (λz=>absurd (Heap.lt_size e) (by grind)) D (Heap.get?_push_of_some _ e)) q j⟩
end
end Mir
namespace Mir
open PySem PySem.Spec PyProof.Rows L2
open AutoSeq1 (wpAny_loadPart')
theorem o7:isSubtype (.type "reversed") (.type "reversed")=pure true:=by rfl
theorem qZ:isSubtype (.type "list_reverseiterator") (.type "reversed")=pure false:=by rfl
theorem mro_reversed:mroOf (.type "reversed")=pure [.type "reversed",.type "object"]:=by rfl
theorem lookup_reversed_new:typeLookup (.type "reversed") "__new__"=pure (some (.builtin "reversed.__new__")):=by rfl
theorem made_reversed:Bind.madeBy (.type "reversed")=pure (some "reversed.__new__"):=madeBy_type mro_reversed lookup_reversed_new (by decide +kernel)
theorem iY(a:Value):checkTypeCall "reversed" ⟨[a],[]⟩=pure ():=by kernel_rfl
theorem jx(a:Value):checkBuiltinCall "reversed.__new__" ⟨[.type "reversed",a],[]⟩=pure ():=by kernel_rfl
theorem entry_reversed_new:entryFor table "reversed.__new__"=some Builtin.«reversed.__new__» := entryFor_of_tree (by kernel_rfl)
theorem plain_reversed_new:plainId "reversed.__new__"=true:=by decide +kernel
section
variable{prog:Program}{w:World}{A:Around}{E:Value->Shared->Prop}{s:Shared}
theorem code_reversed_new{l:Addr}{items:Array Value}{n:Nat}{Q₁:Value->Shared->Prop}(c:s.heap.get? l=some {cls:=.type "list",dict:=none,data:=.seq items n,slots := #[]})
  (h:Q₁ (.ref s.heap.objs.size) {s with heap:=s.heap.push {cls:=.type "list_reverseiterator",data:=.fields #[.ref l,rawInt ((items.size:Int) - 1)]} }) :
  codeAny (model prog w) A (.call (.builtin "reversed.__new__") ⟨[.type "reversed",.ref l],[]⟩) (wants Q₁ E) s:=by
 refine codeAny_of_tree ?_
 show wpAny _ A.in1 (do checkBuiltinCall "reversed.__new__" ⟨[.type "reversed",.ref l],[]⟩;again (.builtin "reversed.__new__" ⟨[.type "reversed",.ref l],[]⟩)) _ _ s
 refine wpAny_bind (wpAny_of_eq (jx _) (wpAny_pure ⟨plainId_quiet plain_reversed_new _,codeAny_builtin entry_reversed_new ?_⟩));rw[Around.under_plainId plain_reversed_new _];have f:=o7;have i:s.TypeIs (.ref l) "list":=⟨_,c,rfl⟩;have j:=PySem.F.slot_list_reversed.lookup;have k:=PySem.F.slot_list_reversed.bind (.ref l);obtain⟨m,g,d,o,p⟩:=s
 wp_walk
 refine codeAny_mono (codeAny_call_builtin (R:=wants (λv a=>Q₁ v a) E) PySem.F.slot_list_reversed.plain PySem.F.entry_list_reversed (PySem.F.slot_list_reversed.check _ _ _ _ _ _ _ _ i (PySem.F.args_list_reversed_1 _) (AutoListH.list___reversed___list_0 l items n prog w _ (wants (λv a=>Q₁ v a) E) _ ⟨c,h⟩))) λr a b=>?_
 cases r with
 |error e=>exact b
 |ok fl=>
  cases fl with
  |ret v=>exact wpAny_pure b
  |_=>exact b.elim
theorem mx{l:Addr}{items:Array Value}{n:Nat}{Q:Value->Shared->Prop}(i:s.heap.get? l=some {cls:=.type "list",dict:=none,data:=.seq items n,slots := #[]})
  (h:Q (.ref s.heap.objs.size) {s with heap:=s.heap.push {cls:=.type "list_reverseiterator",data:=.fields #[.ref l,rawInt ((items.size:Int) - 1)]} }) :
  wpAny (model prog w) A (call (.type "reversed") [.ref l]) Q E s:=by
 have f:=mro_reversed;have a:=made_reversed;have j:=iY (.ref l);refine wpAny_call (codeAny_of_tree ?_)
 show wpAny _ _ (callAny (.type "reversed") _) _ _ _
 refine wpAny_pure ⟨Code.quiet_builtin _ (by decide +kernel),codeAny_builtin F.entry_type_call ?_⟩
 rw[Around.under_plain (weight_type_call_type "reversed" [.ref l] []) rfl];have k:(Value.type "reversed"==Value.type "type")=false:=by decide +kernel
 have m:((Manifest.find? "reversed").bind (·.mro.findSome? λt=>(Manifest.find? t).bind λb=>if b.noNew then some true else if b.attrs.any (·.1=="__new__")then some false else none)).getD false=false:=by decide +kernel
 repeat (any_goals (first|assumption|wp_step))
 refine codeAny_mono (code_reversed_new (E:=E) (Q₁:=λv g=>v=.ref s.heap.objs.size/\g={s with heap:=s.heap.push {cls:=.type "list_reverseiterator",data:=.fields #[.ref l,rawInt ((items.size:Int) - 1)]} }) i ⟨rfl,rfl⟩) λr g c=>?_
 cases r with
 |error e=>exact c
 |ok fl=>
  cases fl with
  |ret v=>
   obtain⟨rfl,rfl⟩:=c;refine wpAny_bind (wpAny_isInstance (T:="list_reverseiterator") (b:=false) ⟨_,Heap.get?_push_size _ rfl,rfl⟩ qZ ?_);refine wpAny_ite_split (λ_=>wpAny_bind (wpAny_rule (wpAny_pure h))) (λd=>absurd rfl d)
  |_=>exact c.elim
end
end Mir
namespace Mir
open PySem PySem.Spec PyProof.Rows L2
def QC(c:TE)(K:PySem.W.Frag):TE:=λd H Q=>c d H λx a=>∃l b,x=.ref l/\Rd a l (.lst b)/\∀p,a p=none->Q (.ref p) (upd a p (.lst b.reverse))
theorem sQ{X:Cx}{e:Expr}{J:TE}{p P pos c:Pos}(R:X.calm=true)(S:Gl X "list")(T:X.mg "list"=none)(k:Gl X "reversed")(m:X.mg "reversed"=none)(L:starEach [e] X.env=[(false,eval e X.env)])(U:PE X e J) :
  PE X (.Call (.Name "list" p) [.Call (.Name "reversed" P) [e] [] c] [] pos) (QC J X.K):=by
 intro pins s M H Q I h;refine wpAny_Call_Name_kw (fH I S T boot_list ?_ (by decide) (by decide))
 refine PyProof.Rows.callWith_type1 ?_ rfl rfl;refine Calls.spliced_cons ?_;refine wpAny_Call_Name_kw (fH I k m boot_reversed ?_ (by decide) (by decide))
 refine PyProof.Rows.callWith_type1 (cu (dX U je L c pins s M H (λr f=>match r with|[x]=>(∃l d,x=V.ref l/\Rd f l (.lst d)/\∀p,f p=none->Q (.ref p) (upd f p (.lst d.reverse)))|_=>False) I h) λus s1 ⟨r,f,g,t,y⟩=>?_) L rfl
 match r,y,t with
 |[x],y,t=>
  obtain⟨l,d,rfl,hR,q⟩:=y;obtain⟨u,rfl,Y⟩:=t.one;cases Y;obtain⟨z,a,n,N,A⟩:d.length<=sizeLine/\∃(B:List Value) (n:Nat),Vals d B/\s1.heap.get? l=some _:=Rd.ok hR g.hok;have Z:=N.length;refine mx A ?_;refine Calls.spliced_nil ?_;have C:l<s1.heap.objs.size:=Heap.lt_size A;have D:=Heap.get?_push_of_some {cls:=.type "list_reverseiterator",data:=.fields #[.ref l,rawInt ((a.toArray.size:Int) - 1)]} A;refine mw (g.ok.hd R) (Nat.ne_of_gt C) (Heap.get?_push_size _ rfl) ⟨_,D,rfl,n,rfl⟩ (by rw[List.size_toArray];omega) λh' tk i c' kp E io=>?_
  obtain⟨i1,i2⟩:=io
  have j:i=a.reverse.toArray:=by
   apply Array.ext';apply List.ext_getElem?
   grind
  have O:L2.Inv X pins M f {s1 with heap:=s1.heap.push {cls:=.type "list_reverseiterator",data:=.fields #[.ref l,rawInt ((a.toArray.size:Int) - 1)]} }:=g.kept (t':=s1.toks) λb o e=>Heap.get?_push_of_some _ e
  subst j;have F:=O.hok.fresh (Nat.le_refl _);refine⟨.ref _,upd f _ (.lst d.reverse),?_,rfl,q _ F⟩
  have Ih:cI X.prog X.w (upd f (s1.heap.push {cls:=.type "list_reverseiterator",data:=.fields #[.ref l,rawInt ((a.toArray.size:Int) - 1)]}).objs.size (.lst d.reverse)) h' _ (.lst d.reverse):=
   ⟨by rw[List.length_reverse];exact z,a.reverse,c',N.reverse,E⟩
  exact jC (fp:=[s1.heap.objs.size]) (t':=tk) O (λb G=>by
   have e:b=s1.heap.objs.size:=by simpa using G
   subst e;exact g.u7 (Nat.le_refl _) (g.hok.fresh (Nat.le_refl _))) (λb o G e=>kp b o (λz=>G (by simp[z])) e) (Nat.le_refl _) Ih
section
variable{prog:Program}{w:World}{A:Around}{R:Result->Shared->Prop}{I:Addr}{fp wr:List Addr}{G:Array GenState->Array GenState->Prop}{n:Nat}{P:Nat->Value->Prop}{St:Nat->Shared->Prop}
end
section
variable{prog:Program}{w:World}{A:Around}{E:Value->Shared->Prop}{s:Shared}
end
variable [aw]
def wj(x:D)(Ω:aA):ax D:=match cT Ω x with
 |some a=>gk Ω (.lst a.reverse)
 |none=>.bad
section
variable{X:Cx}{κ:Str->Addr->Prop}{Φ:eQ}{e:Expr}{m:EM}{p p' pos pos':Pos}
theorem C6(d:X.calm=true)(f:Gl X "list")(h:X.mg "list"=none)(b:Gl X "reversed")(c:X.mg "reversed"=none)(i:starEach [e] X.env=[(false,eval e X.env)])(j:bh X κ Φ e m) :
  bh X κ Φ (.Call (.Name "list" p) [.Call (.Name "reversed" p') [e] [] pos'] [] pos) (m1 wj m):=
 kc (λs k=>sQ d f h b c i k) j λt x u Z w H Q S l g=>by
  unfold wj at g;split at g
  .rename_i y n
   obtain⟨a,o,rfl,q,r⟩:=bf S l n;exact⟨a,o,rfl,q,dq S r.reverse g⟩
  .exact g.elim
end
section
variable{P:Program}{w:World}{K:PySem.W.Frag}{mg:Str->Option Value}{base:Heap}{T:aO}{k:Nat}
theorem C7(W:ba P w K mg base T k){x qual:Str}{st:Stmt}{f:Addr}{p:FuncData}(F:tw K x qual st f p){N ps td:List Str}{c:SM}{t:Stmt->Option SM}(u:bL N ps (af st)=true)(I:bO (iX t T td 60 (af st) N 30) (aT st)=some c)
    (J:∀(X:Cx),GoodO X (bS mg) T k (af st) N->(∀x∈dm,X.mg x=none)->∀b y,t b=some y->gZ X (bS mg) gM b y) :
    bP P w K mg base dH (k+1) f p ps (ei (bS mg) (bA N.length ps.length c)):=by
  refine F.ok (cQ u) (λL H Q E h=>?_) λM A outer s H L Q E O h=>?_
  · obtain⟨e,Z,i,R,S,r,g⟩:=h
    rw[r.length];unfold bA at g;split at g
    · grind
    · exact g.elim
  · obtain⟨e,Z,i,R,S,r,g⟩:=h
    have z:=cQ u
    have G:cV (bF dH P w K mg _ N _ _ f _ A outer s H E).fg _ T k _ N:=
      { scope:=rfl,names:=rfl,calm:=rfl,room:=O,b8:=W.b8,own:=PassesOwn.never,Cc:=λ_ _ _=>.inl rfl,jT:=z.nd,kind:=z.kind,fg:=λ_ _ _ h=>h,fld:=W.fld,cst:=W.cst
        fP:=λx F h=>⟨W.fP x F h⟩,fn:=λx F h=>⟨W.fn x F h⟩,met:=λm C F h=>⟨W.met m C F h⟩,cls:=λC F h=>let ⟨j,U,V⟩:=W.cls C F h;⟨j,U,⟨V⟩⟩,clo:=W.clo }
    refine⟨_,cX (o6 G (J _ G.toGoodO W.b8) 30 60) I e Z H _ i,e,Z,dU S r,?_⟩;unfold bA at g;split at g
    · cases q:c _ i with
      |rt d a=>rw[q]at g;exact λv l n o Y st r=>g v l _ o Y st r
      |nx B a=>rw[q]at g;exact λσ l n o D=>g _ l _ o D.gr D.st (aR rfl)
      |bk B a=>rw[q]at g;exact g.elim
      |ct B a=>rw[q]at g;exact g.elim
      |exc x a=>rw[q]at g;exact g
      |bad=>rw[q]at g;exact g.elim
    · exact g.elim
end
end Mir
namespace Mir
open PySem L2
variable [aw]
noncomputable def b_(s:lQ):D:=.tup [.str s.1,.str s.2.1,.int s.2.2]
def z8(e:aX):Prop:=∀(c:aA) (k:Nat) (f:List Nat) (b:List (List Str)) (n:Str),Rw c k f b->b.length<=1000->∃d a,e [.ref k,.str n] c=.ok d a/\ag [] c a/\((d=.non/\∀r∈b,n∉r.tail)\/∃i:Nat,d=.int i/\∃r,b[i]?=some r/\n∈r.tail)
theorem JE:z8 (bA 4 2 qO):=λ_ _ _ _ _ R a=>zl R a
section
variable{Ω au:aA}{ρ:aK}{k:Nat}{js:List Nat}{rs:List (List Str)}{row:List Str}{n:Str}
def ND:EM:=(cM (m2 aM (aa 0) (ai (.int 0))) false (aa 0) (bg (aa 0)) 0 [])
def tR:EM:=(m2 (aQ .NotIn) (aa 2) (aa 3))
def hR:EM:=(m2 aM (m2 aM (aa 0) (aa 5)) (ai (.int 0)))
def bR(a:aX):SM:=
 (ak (eg (cB gY bH (aa 3) (ae (aa 2) aj)))
 (ak (aE 5 (mN (aS a) (ae (aa 0) (ae (aa 2) aj))))
 (ak (eg (cB gY bH (aa 4) (ae (mN f7 (ae hR (ae (aa 2) (ae (aa 5) aj)))) aj)))
 (ak (aE 2 hR)
 aq))))
def C8(a:aX):SM:=
 (ak (aE 1 ND)
 (ak (aE 2 (m2 aM (aa 1) (ai (.int 0))))
 (ak (aE 3 (mN cD aj))
 (ak (aE 4 (mN cD aj))
 (ak (lg tR (bR a))
 (ak (cf (m1 wj (dJ (aa 4) false (cB gY du (aa 3) (ae (aa 2) aj)) true (ai .non))))
 aq))))))
theorem q_{p:Nat}{h:Str}{t:List Str}(R:Rw Ω k js rs)(b:rs[p]?=some (h::t)){a1 a2 a3 a4:Option D}:hR [some (.ref k),a1,a2,a3,a4,some (.int p)] Ω=.ok (.str h) Ω:=by
 obtain⟨j,c,a⟩:=R.al.at b;have d:=cE R.ce (L2.dk (by rw[List.getElem?_map,c];rfl))
 have e:aM _ (.int 0) Ω=.ok _ Ω:=cE a (L2.dk rfl);simp[hR,d,e]
theorem JF{l:aX}(B:z8 l){R1 a5:Option D}{qm qs:Nat}{b:List Str}{steps:List lQ}{name:Str}(R:Rw Ω k js rs)(C:rs.length<=1000)(m:Ω[qm]?=some (.lst (b.map .str)))(E:Ω[qs]?=some (.lst (steps.map b_)))
  (y:qm≠qs) (d2:qm≠k) (d3:qs≠k) (d4:qm∉js) (d5:qs∉js) (F:∃r∈rs,name∈r.tail) (Y:b.length<=1000) (Z:steps.length<=1000) :
  ∃(p:Nat) (h:Str) (t:List Str) (au:aA),rs[p]?=some (h::t)/\name∈t/\bR l [some (.ref k),R1,some (.str name),some (.ref qm),some (.ref qs),a5] Ω=.nx [some (.ref k),R1,some (.str h),some (.ref qm),some (.ref qs),some (.int p)] au /\
   Rw au k js rs/\au[qm]?=some (.lst ((b++[name]).map .str))/\au[qs]?=some (.lst ((steps++[(h,name,p)]).map b_))/\ag [qm,qs] Ω au:=by
 have G:=dW (d:=.str name) m (by simp;omega)
 have H:=dB m;have n:ag [qm] Ω (Ω.set qm (.lst (b.map .str++[.str name]))):=ag.set (by simp)
 have m1:(Ω.set qm (.lst (b.map .str++[.str name])))[qm]?=some (.lst ((b++[name]).map .str)):=by rw[aZ m];simp
 have I:(Ω.set qm (.lst (b.map .str++[.str name])))[qs]?=some (.lst (steps.map b_)):=n.get _ _ E (by simpa using Ne.symm y)
 have J:(eg (cB gY bH (aa 3) (ae (aa 2) aj))) [some (.ref k),R1,some (.str name),some (.ref qm),some (.ref qs),a5] Ω=.nx [some (.ref k),R1,some (.str name),some (.ref qm),some (.ref qs),a5] (Ω.set qm (.lst (b.map .str++[.str name]))):=by
  rw[iS,fc (x:=.ref qm) (au:=Ω) (by simp) H]
  simp[G]
 generalize Ω.set qm (.lst (b.map .str++[.str name]))=f at *;have g:Rw f k js rs:=R.zj n (by simpa using Ne.symm d2) (λj o h=>d4 (by rw[←List.mem_singleton.mp h];exact o))
 obtain⟨d,a,K,i,L⟩:=B f k js rs name g C;rcases L with ⟨_,M⟩|⟨p,rfl,r,q,z⟩
 .obtain⟨r,N,O⟩:=F
  exact absurd O (M r N)
 cases r with
 |nil=>simp at z
 |cons h t=>
 have P:(aE 5 (mN (aS l) (ae (aa 0) (ae (aa 2) aj)))) [some (.ref k),R1,some (.str name),some (.ref qm),some (.ref qs),a5] f=.nx [some (.ref k),R1,some (.str name),some (.ref qm),some (.ref qs),some (.int p)] a:=by simp[K]
 have R2:=g.keep i;have m2:=i.get _ _ m1 (by simp)
 have s:=i.get _ _ I (by simp)
 have Q:hR [some (.ref k),R1,some (.str name),some (.ref qm),some (.ref qs),some (.int p)] a=.ok (.str h) a:=q_ R2 q;have S:=dW (d:=b_ (h,name,p)) s (by simp;omega)
 have T:=dB s;have u:ag [qs] a (a.set qs (.lst (steps.map b_++[b_ (h,name,p)]))):=ag.set (by simp)
 have U:(a.set qs (.lst (steps.map b_++[b_ (h,name,p)])))[qs]?=some (.lst ((steps++[(h,name,p)]).map b_)):=by rw[aZ s];simp
 have V:=u.get _ _ m2 (by simpa using y)
 have X:(eg (cB gY bH (aa 4) (ae (mN f7 (ae hR (ae (aa 2) (ae (aa 5) aj)))) aj))) [some (.ref k),R1,some (.str name),some (.ref qm),some (.ref qs),some (.int p)] a=.nx [some (.ref k),R1,some (.str name),some (.ref qm),some (.ref qs),some (.int p)] (a.set qs (.lst (steps.map b_++[b_ (h,name,p)]))):=by
  rw[iS,fc (x:=.ref qs) (au:=a) (by simp) T]
  have e:(ae (mN f7 (ae hR (ae (aa 2) (ae (aa 5) aj)))) aj) [some (.ref k),R1,some (.str name),some (.ref qm),some (.ref qs),some (.int p)] a=.ok [b_ (h,name,p)] a:=by
   simp[Q,aI,b_]
  rw[e];simp[S]
 generalize a.set qs (.lst (steps.map b_++[b_ (h,name,p)]))=c at *;have A:Rw c k js rs:=R2.zj u (by simpa using Ne.symm d3) (λj o h=>d5 (by rw[←List.mem_singleton.mp h];exact o))
 have w:hR [some (.ref k),R1,some (.str name),some (.ref qm),some (.ref qs),some (.int p)] c=.ok (.str h) c:=q_ A q;refine⟨p,h,t,c,q,z,?_,A,V,U,?_⟩
 .unfold bR
  rw[ah,J,aJ,ah,P,aJ,ah,X,aJ,ah,gQ,w];rfl
 .exact((n.sub (by simp)).trans (ek.up i)).trans (u.sub (by simp))
theorem Gb{q:aX}(y:z8 q){R1:Option D}{qm qs:Nat}(N:rs.length<=900)(i:∀h,(∃r∈rs,∃t,r=h::t)->∃r∈rs,h∈r.tail)(z:qm≠qs)(d2:qm≠k)(d3:qs≠k)(d4:qm∉js)(d5:qs∉js) :
  ∀(m:Nat) (Ω:aA) (e:List Str) (steps:List lQ) (name:Str) (a5:Option D),Rw Ω k js rs->Ω[qm]?=some (.lst (e.map .str))->Ω[qs]?=some (.lst (steps.map b_))->wL rs e steps name->rs.length - e.length<m ->
   ∃(d:List Str) (a:List lQ) (b:Str) (g:Option D) (au:aA),f9 tR (bR q) m [some (.ref k),R1,some (.str name),some (.ref qm),some (.ref qs),a5] Ω=.nx [some (.ref k),R1,some (.str b),some (.ref qm),some (.ref qs),g] au /\
    wL rs d a b/\b∈d/\au[qm]?=some (.lst (d.map .str))/\au[qs]?=some (.lst (a.map b_))/\ag [qm,qs] Ω au:=by
 intro m
 induction m with
 |zero=>simp
 |succ m A=>
  intro Ω e steps name a5 R j s c B
  have l:tR [some (.ref k),R1,some (.str name),some (.ref qm),some (.ref qs),a5] Ω=.ok (.bl (!decide (name∈e))) Ω:=by
   simp[tR,(kr (w:=name) j),-lG]
  by_cases f:name∈e
  .rw[decide_eq_true f]at l
   refine⟨_,_,_,a5,Ω,?_,c,f,j,s,ag.refl⟩;simp only[f9,l];rfl
  .have O:=c.le
   have u:=c.len;obtain⟨p,h,t,C,E,n,P,o,m1,F,G⟩:=JF y (R1:=R1) (a5:=a5) R (by omega) j s z d2 d3 d4 d5 (i _ (c.hds name (by simp))) (by omega) (by omega)
   have x:=c.step f E n;have H:=x.le;obtain⟨d,a,b,g,I,Q,J,K,m2,L,M⟩:=A _ _ _ h (some (.int p)) o m1 F x (by grind)
   refine⟨_,_,_,g,_,?_,J,K,m2,L,G.trans M⟩;simp only[f9,l]
   simp_all
theorem Ge{a1 a2 a3 a4 a5:Option D}(R:Rw Ω k js rs)(s:rs.length<=1000):ND [some (.ref k),a1,a2,a3,a4,a5] Ω=.ok (.ref Ω.length) (Ω++[.lst (((rs.filter λr=>!r.isEmpty).map λr=>r.headD "").map .str)]):=by
 have e:bg (aa 0) [some (.ref k),a1,a2,a3,a4,a5] Ω=.ok (.seq (.ref k)) Ω:=by
  exact aV (by rw[aF,ay R.ce])
 have w:=R.len
 have b:∀d∈js.map D.ref,∃(j:Nat) (a:List Str),d=.ref j/\Ω[j]?=some (.lst (a.map .str)):=λd c=>by
  obtain⟨j,l,rfl⟩:=List.mem_map.mp c;obtain⟨i,m⟩:=List.mem_iff_getElem?.mp l;obtain⟨a,_,n⟩:=R.al.at' m;exact⟨j,a,rfl,n⟩
 have o:=dA (me:=m2 aM (aa 0) (ai (.int 0))) (nc:=false) (mc:=aa 0) (cap:=[]) (p:=λd=>(gW Ω d).getD false) (g:=λd=>match aM d (.int 0) Ω with|.ok x _=>x|_=>.non) e (by rw[bY,aF,ay R.ce]) (λd c=>by
  obtain⟨j,a,rfl,h⟩:=b d c;have:=eL h;simp[jV,eT,this]) (λd c q=>by
  obtain⟨j,a,rfl,h⟩:=b d c;cases a with
  |nil=>simp[(eL h)]at q
  |cons x t=>
   have f:aM (.ref j) (.int 0) Ω=.ok _ Ω:=cE h (L2.dk rfl)
   simp_all) (by simp;omega)
 refine o.trans ?_
 congr 4
 have:∀{js:List Nat}{rs:List _},mj Ω js rs->((js.map D.ref).filter λd=>(gW Ω d).getD false).map (λd=>match aM d (.int 0) Ω with|.ok x _=>x|_=>.non)=((rs.filter λr=>!r.isEmpty).map λr=>r.headD "").map .str:=by
  intro js rs h
  induction h with
  |nil=>rfl
  |@cons j a js rs r t y=>
   have z:=eL r;cases a with
   |nil=>
    grind
   |cons x u=>
    have f:=cE r (L2.dk (j:=0) rfl)
    grind
 exact this R.al
def C9(e:aX):Prop:=∀(c:aA) (k:Nat) (f:List Nat) (b:List (List Str)),Rw c k f b->b.length<=900->(∃r∈b,r≠[])->free b=none->∃(d:List lQ) (q:Nat) (a:aA),e [.ref k] c=.ok (.ref q) a/\a[q]?=some (.lst (d.map b_))/\uI b d/\d.length<=b.length/\ag [] c a
theorem JG{J:aX}(P:z8 J):C9 (bA 6 1 (C8 J)):=by
 intro d k js g R Q w S;rw[cp (by rfl)]
 have T:bu 6 [D.ref k]=[some (.ref k),none,none,none,none,none]:=rfl;rw[T]
 have y:∀h,(∃r∈g,∃t,r=h::t)->∃r∈g,h∈r.tail:=by
  rintro h ⟨r,z,t,rfl⟩
  by_cases q:∃t∈g,h∈t.tail
  .exact q
  .obtain⟨n,e⟩:=Co z (ij q)
   rw[S]at e;cases e
 have K:=Ge (a1:=none) (a2:=none) (a3:=none) (a4:=none) (a5:=none) R (by omega)
 obtain⟨f,i,A,U,B,V,C⟩:∃f i,((g.filter λr=>!r.isEmpty).map λr=>r.headD "")=f::i/\∃r∈g,∃t,r=f::t:=by
  obtain⟨r,z,X⟩:=w;have o:r∈g.filter λr=>!r.isEmpty:=List.mem_filter.mpr ⟨z,by cases r<;>simp at X ⊢⟩
  cases q:g.filter λr=>!r.isEmpty with
  |nil=>rw[q]at o;simp at o
  |cons s l=>
   have Y:s∈g.filter λr=>!r.isEmpty:=by rw[q];simp
   obtain⟨Z,u⟩:=List.mem_filter.mp Y;cases s with
   |nil=>simp at u
   |cons x t=>exact⟨x,_,rfl,_,Z,t,rfl⟩
 rw[A]at K;have p:ag [] d (d++[Cell.lst ((f::i).map D.str)]):=ag.app;have g1:(d++[Cell.lst ((f::i).map D.str)])[d.length]?=some (.lst ((f::i).map .str)):=az;have s:(aE 1 ND) [some (.ref k),none,none,none,none,none] d=.nx [some (.ref k),some (.ref d.length),none,none,none,none] (d++[Cell.lst ((f::i).map D.str)]):=by rw[gQ,K];rfl
 have l1:d.length<(d++[Cell.lst ((f::i).map D.str)]).length:=by simp
 generalize L:d++[Cell.lst ((f::i).map D.str)]=a at *;have E:aM (.ref d.length) (.int 0) a=.ok (.str f) a:=cE g1 (L2.dk (j:=0) rfl);have r2:(aE 2 (m2 aM (aa 1) (ai (.int 0)))) [some (.ref k),some (.ref d.length),none,none,none,none] a=.nx [some (.ref k),some (.ref d.length),some (.str f),none,none,none] a:=by simp[E]
 have r3:(aE 3 (mN cD aj)) [some (.ref k),some (.ref d.length),some (.str f),none,none,none] a=.nx [some (.ref k),some (.ref d.length),some (.str f),some (.ref a.length),none,none] (a++[Cell.lst []]):=by simp[aI]
 have r4:(aE 4 (mN cD aj)) [some (.ref k),some (.ref d.length),some (.str f),some (.ref a.length),none,none] (a++[Cell.lst []])=.nx [some (.ref k),some (.ref d.length),some (.str f),some (.ref a.length),some (.ref (a.length+1)),none] (a++[Cell.lst []]++[Cell.lst []]):=by simp[aI]
 have M:ag [] a (a++[Cell.lst []]++[Cell.lst []]):=ag.app.trans ag.app;have g3:(a++[Cell.lst []]++[Cell.lst []])[a.length]?=some (.lst (([]:List Str).map .str)):=by simp
 have g4:(a++[Cell.lst []]++[Cell.lst []])[a.length+1]?=some (.lst (([]:List lQ).map b_)):=by simp
 generalize a++[Cell.lst []]++[Cell.lst []]=F at *;have R2:=(R.keep p).keep M;have lk:=bp (R.keep p).ce;have N:=(R.keep p).al.lt;have c0:wL g [] [] f:=⟨rfl,rfl,by simp,by simp,λm o=>by simp at o;subst o;exact⟨U,B,V,C⟩⟩
 obtain⟨c,steps,name,a5,b,e3,G,u,O,q3,K3⟩:=Gb P (R1:=some (.ref d.length)) (qm:=a.length) (qs:=a.length+1) Q y (by omega) (by omega) (by omega) (λh=>by have:=N _ h;omega) (λh=>by have:=N _ h;omega) fuel F [] [] f none R2 g3 g4 c0 (by unfold fuel;simp;omega)
 have hi:=gR O u;have iL:=dB O
 have H:jq (.ref (a.length+1)) (some ((c.idxOf name:Nat):Int)) none b=.ok (.ref b.length) (b++[.lst ((steps.drop (c.idxOf name)).map b_)]):=by
  simp only[jq,ay q3,iQ,su,List.map_drop]
 have g5:(b++[Cell.lst ((steps.drop (c.idxOf name)).map b_)])[b.length]?=some (.lst ((steps.drop (c.idxOf name)).map b_)):=az;have K4:ag [] b (b++[Cell.lst ((steps.drop (c.idxOf name)).map b_)]):=ag.app
 have I:(cB gY du (aa 3) (ae (aa 2) aj)) [some (.ref k),some (.ref d.length),some (.str name),some (.ref a.length),some (.ref (a.length+1)),a5] b=.ok (.int (c.idxOf name:Nat)) b:=by
  rw[fc (x:=.ref a.length) (au:=b) (by simp) iL]
  simp[hi]
 have r5:(m1 wj (dJ (aa 4) false (cB gY du (aa 3) (ae (aa 2) aj)) true (ai .non))) [some (.ref k),some (.ref d.length),some (.str name),some (.ref a.length),some (.ref (a.length+1)),a5] b=.ok (.ref (b.length+1)) (b++[Cell.lst ((steps.drop (c.idxOf name)).map b_)]++[.lst ((steps.drop (c.idxOf name)).reverse.map b_)]):=by
  have:(dJ (aa 4) false (cB gY du (aa 3) (ae (aa 2) aj)) true (ai .non)) [some (.ref k),some (.ref d.length),some (.str name),some (.ref a.length),some (.ref (a.length+1)),a5] b=.ok (.ref b.length) (b++[Cell.lst ((steps.drop (c.idxOf name)).map b_)]):=by
   simp[I,H]
  rw[IH,this,bU];simp only[wj,ay g5,iQ,List.map_reverse];simp
 refine⟨(steps.drop (c.idxOf name)).reverse,b.length+1,b++[Cell.lst ((steps.drop (c.idxOf name)).map b_)]++[.lst ((steps.drop (c.idxOf name)).reverse.map b_)],?_,?_,G.ring u,?_,?_⟩
 rotate_left
 .rw[show b.length+1=(b++[Cell.lst ((steps.drop (c.idxOf name)).map b_)]).length by simp]
  exact az
 .have:=G.le
  have:=G.len;simp;omega
 .refine ag.new (fp:=[a.length,a.length+1]) (p.trans M) (K3.trans (ek.up (K4.trans ag.app))) (λj hj=>?_)
  simp at hj;have:=p.len;omega
 .unfold C8
  rw[ah,s,aJ,ah,r2,aJ,ah,r3,aJ,ah,r4,aJ,ah];unfold lg;rw[e3,aJ,ah,iT,r5];rfl
end
structure jJ(rs:List (List Str))(ss:List lQ):Prop where
 ex:∃n R,ss.map (·.1)=n::R/\ss.map (·.2.1)=R++[n]/\(n::R).Nodup
 D6:∀s∈ss,∃u t,rs[s.2.2]?=some (u++s.1::t)/\s.2.1∈t
theorem jJ.step{rs:List (List Str)}{b:List lQ}{n:Str}(h:jJ (rs.map (cZ n)) b):jJ rs b:=⟨h.ex,λs f=>by
 obtain⟨u,t,e,c⟩:=h.D6 s f;rw[List.getElem?_map]at e;obtain⟨r,d,a⟩:=Option.map_eq_some_iff.mp e;unfold cZ at a;split at a
 .cases r with
  |nil=>simp at a
  |cons x r=>exact⟨x::u,t,by rw[d];simpa using a,c⟩
 .exact⟨u,t,by rw[d,a],c⟩⟩
theorem uI.toR{rs:List (List Str)}{a:List lQ}(h:uI rs a):jJ rs a:=⟨h.ex,λs b=>by
 obtain⟨t,e,c⟩:=h.D6 s b;exact⟨[],t,e,c⟩⟩
def wk(d:aX):Prop:=∀(b:aA) (k:Nat) (c:List lQ),b[k]?=some (.lst (c.map b_))->c.length<=900->∃q a,d [.ref k,.int 0] b=.ok (.ref q) a/\a[q]?=some (.lst (c.map b_))/\b.length<=q/\ag [] b a
def JH(a:aX):EM:=mN (λb c=>aS a (b++[.int 0]) c) (ae (mN (bG .list) (ae (aa 1) aj)) aj)
def z9(a b:aX):SM:=o5 "Ring" "steps" (JH a) (mN (aS b) (ae (aa 1) aj))
section
variable{Ω au:aA}{ρ:aK}{k:Nat}{js:List Nat}{rs:List (List Str)}{row:List Str}{n:Str}
theorem Gf{b:aX}(d:wk b){a:List lQ}(h:Ω[k]?=some (.lst (a.map b_)))(f:a.length<=900):∃q au,JH b [none,some (.ref k)] Ω=.ok (.ref q) au/\au[q]?=some (.lst (a.map b_))/\Ω.length<=q/\ag [] Ω au:=by
 have i:=eE h;have j:(Ω++[Cell.lst (a.map b_)])[Ω.length]?=some _:=az;have c:ag [] Ω (Ω++[Cell.lst (a.map b_)]):=ag.app;have p:=c.len;generalize Ω++[Cell.lst _]=m at *;obtain⟨q,n,e,g,l,o⟩:=d _ _ a j f;refine⟨q,_,?_,g,by omega,c.trans o⟩
 simp[JH,i,e]
theorem Gg{c d:aX}(f:wk c)(g:C9 d){R0:D}{q:Nat}{a3:Option D}(R:Rw Ω k js rs)(h:rs.length<=900)(b:∃r∈rs,r≠[])(i:free rs=none) :
  ∃(a:List lQ) (p:Nat) (au:aA),z9 c d [some R0,some (.ref k),some (.ref q),a3] Ω=.exc (fR "Ring" "steps" (.ref p)) au/\au[p]?=some (.lst (a.map b_))/\jJ rs a/\Ω.length<=p/\ag [] Ω au:=by
 obtain⟨a,t,j,u,l,m,w,e⟩:=g Ω k js rs R h b i;obtain⟨p,n,x,o,y,s⟩:=Gf f l (by omega)
 refine⟨a,p,_,?_,o,m.toR,by have:=e.len;omega,e.trans s⟩
 unfold z9 o5
 simp_all
theorem wm{f g i:aX}(G:wk f)(H:C9 g)(E:FnAt i){R0:D}{rs:List (List Str)}(S:Sk rs) :
  ∀(Ω:aA) (a:List Str) (q k:Nat) (o:List Nat) (a3:Option D) (m:Nat),Rw Ω k o rs->Ω[q]?=some (.lst (a.map .str))->q≠k->q∉o->rs.length<=900->a.length+tot rs<=900->tot rs<m ->
   ∃(j:List lQ) (p:Nat) (au:aA),f9 tM (bM (z9 f g) i) m [some R0,some (.ref k),some (.ref q),a3] Ω=.exc (fR "Ring" "steps" (.ref p)) au/\au[p]?=some (.lst (j.map b_))/\jJ rs j/\Ω.length<=p/\ag [q] Ω au:=by
 induction S with
 |@stuck rs h s=>
  intro Ω a q k o a3 m R F _ _ t _ I;obtain⟨m,rfl⟩:∃k,m=k+1:=⟨m - 1,by omega⟩
  obtain⟨c,u,l⟩:=E Ω k o rs R (by omega)
  rw[s]at u;obtain⟨j,p,d,J,w,x,K,y⟩:=Gg G H (R0:=R0) (q:=q) (a3:=some .non) (R.keep l) t h s;refine⟨j,p,d,?_,w,x,by have:=l.len;omega,ek.up (l.trans y)⟩
  have e:=kv R;rw[any_true h]at e;have z:tM [some R0,some (.ref k),some (.ref q),a3] Ω=.ok (.bl true) Ω:=by simp[tM,e]
  simp only[f9,z]
  show(match bM (z9 f g) i _ Ω with|.nx b au=>f9 tM (bM (z9 f g) i) m b au|.ct b au=>f9 tM (bM (z9 f g) i) m b au|.bk b au=>.nx b au|r=>r)=_
  have T:(aE 3 (mN (aS i) (ae (aa 1) aj))) [some R0,some (.ref k),some (.ref q),a3] Ω=.nx [some R0,some (.ref k),some (.ref q),some .non] c:=by simp[u,y8]
  have U:(eU (m2 (aQ .Is) (aa 3) (ai .non)) (ak (z9 f g) aq) aq) [some R0,some (.ref k),some (.ref q),some .non] c=.exc (fR "Ring" "steps" (.ref p)) d:=by
   simp_all
  unfold bM
  simp_all
 |@step rs n h s _ L=>
  intro Ω a q k o a3 m R F A B t V I;obtain⟨m,rfl⟩:∃k,m=k+1:=⟨m - 1,by omega⟩
  have X:=sJ (kh s).1;obtain⟨M,C,c,u,N,O,P,Q,l⟩:=D3 (st:=z9 f g) E (R0:=R0) (a3:=a3) R (by omega) s F A B (by omega)
  obtain⟨j,p,d,J,w,x,K,y⟩:=L c (a++[n]) q M C (some (.str n)) m N O P Q (by simpa using t) (by simp;omega) (by omega)
  refine⟨j,p,d,?_,w,x.step,by have:=l.len;omega,l.trans y⟩
  have e:=kv R;rw[any_true h]at e;have z:tM [some R0,some (.ref k),some (.ref q),a3] Ω=.ok (.bl true) Ω:=by simp[tM,e]
  simp only[f9,z]
  simp_all
def z_(e:aX):Prop:=∀(c:aA) (k:Nat) (f:List Nat) (b:List (List Str)),Rw c k f b->Sk b->b.length<=900->tot b<=900->∃(d:List lQ) (p:Nat) (a:aA),e [.ref k] c=.exc (fR "Ring" "steps" (.ref p)) a/\a[p]?=some (.lst (d.map b_))/\jJ b d/\c.length<=p/\ag [] c a
theorem JI{d e f:aX}(l:wk d)(m:C9 e)(n:FnAt f):z_ (bA 4 1 (qT (z9 d e) f)):=by
 intro o k B C R S q E;rw[cp (by rfl)]
 have r:bu 4 [D.ref k]=[some _,none,none,none]:=rfl;rw[r];obtain⟨s,b,a,F,g,c,G,H,I⟩:=uH (ρ:=[some _,none,none,none]) (i:=0) rfl R (by omega)
 have t:(aE 1 (uG 0)) [some (.ref k),none,none,none] o=.nx [some (.ref k),some (.ref b),none,none] a:=by simp_all
 have j:ag [] _ (a++[Cell.lst []]):=ag.app;have u:(aE 2 (mN cD aj)) [some (.ref k),some (.ref b),none,none] a=.nx [some (.ref k),some (.ref b),some (.ref a.length),none] (a++[Cell.lst []]):=by rfl
 have J:=bp c.ce;have K:=c.al.lt;obtain⟨w,p,x,y,z,hR,L,A⟩:=wm l m n S _ [] _ b _ _ fuel (c.keep j) az (by omega) (λh=>by grind) q (by simp_all) (by unfold fuel;omega)
 refine⟨w,p,_,?_,z,hR,?_,ag.new (g.trans j) A (by simpa using g.len)⟩
 .unfold qT
  rw[ah,t,aJ,ah,u,aJ,ah];unfold lg;rw[y];rfl
 grind
end
open PySem.Spec PyProof.Rows
section
variable{X:Cx}{κ:Str->Addr->Prop}{Φ:eQ}{e:Expr}{es:List Expr}{as:AM}{p pos:Pos}{T:aO}{k:Nat}{sc:Scope}{N:List Str}
theorem jy{j:Nat}{x:Str}{F:aX}{f:Addr}{h:FuncData}{ps:List Str}{ds:List Value}{ti:List V}{Dd:List D}(F1:bP X.prog X.w X.K X.mg X.base dH j f h ps (ei κ F))(i:bE j X.A)(k:Gl X x)(l:X.mg x=some (.ref f))(m:PySem.W.keepIn X.K (.ref f)=true)(n:Binds X.K h ps ds)(o:Vals ti ds)(q:∀a Z H,aD (av a Z H) Dd ti)(b:(x==("__debug__":Str))=false)
  (r:starEach (e::es) X.env=(false,eval e X.env)::starEach es X.env) (c:(backTo pos (starEach es X.env)).any (·.1)=false) (s:lY X κ Φ (e::es) as) :
  bh X κ Φ (.Call (.Name x p) (e::es) [] pos) (mN (λxs Ω=>aS F (xs++Dd) Ω) as):=by
 intro d t u y Ω;refine PE.imp (nN F1 i k l m n o pL (s d t u y Ω) b r c) ?_;rintro J H Q ⟨a,Z,S,g⟩;refine⟨a,Z,S,ph.use g λxs z _ L M B C N E G I=>?_⟩
 exact⟨_,C,_,_,E,G.append (q _ _ _),ck.ok0 I⟩
noncomputable def JJ:Stmt->Option Expr
 |.Return (some e) _=>some e
 |_=>none
theorem Aa{st:Stmt}{x:Expr}(h:JJ st=some x):∃p,st=.Return (some x) p:=by
 cases st with
 |Return v p=>
  cases v with
  |none=>cases h
  |some e=>cases h;exact⟨p,rfl⟩
 |_=>cases h
def NF(f:Expr)(p:Pos)(as:List Expr)(a:List Keyword):Option (Str×Expr):=match f,as,a with
 |.Name l _,[e],[]=>some (l,e)
 |_,_,_=>none
def LU:Expr->Option (Str×Expr)
 |.Call f as ks p=>NF f p as ks
 |_=>none
theorem o8{x:Expr}{l:Str}{e:Expr}(h:LU x=some (l,e)):∃q p,x=.Call (.Name l q) [e] [] p:=by
 cases x with
 |Call f b c p=>
  cases f with
  |Name d q=>
   cases b with
   |nil=>cases h
   |cons a r=>
    cases r with
    |nil=>
     cases c with
     |nil=>cases h;exact⟨q,p,rfl⟩
     |cons _ _=>cases h
    |cons _ _=>cases h
  |_=>cases h
 |_=>cases h
theorem bq{c d:Type}{o:Option c}{f:c->Option d}{b:d}(h:o.bind f=some b):∃a,o=some a/\f a=some b:=Option.bind_eq_some_iff.mp h
def D9(T:aO)(a:Scope)(N:List Str)(st:Stmt):Option SM:=(JJ st).bind λx=>(LU x).bind λu=>(LU u.2).bind λv=>
 if u.1==("list":Str)&&v.1==("reversed":Str)&&rm a u.1&&rm a v.1 then (cG T 60 a N v.2).map (λm=>cf (m1 wj m))else none
theorem Ab(G:GoodO X κ T k sc N)(st:Stmt)(c:SM)(h:D9 T sc N st=some c):gZ X κ Φ st c:=by
 obtain⟨x,v1,b⟩:=bq h;obtain⟨⟨l,y⟩,v2,d⟩:=bq b;obtain⟨⟨r,e⟩,f,g⟩:=bq d;obtain⟨q,rfl⟩:=Aa v1;obtain⟨s,t,rfl⟩:=o8 v2;obtain⟨u,w,rfl⟩:=o8 f;split at g
 .rename_i a
  simp only[Bool.and_eq_true]at a;obtain⟨⟨⟨i,j⟩,n⟩,o⟩:=a;obtain rfl:=eq_of_beq i;obtain rfl:=eq_of_beq j;obtain⟨m,p,rfl⟩:=bI g;have E:=er 60 X sc N _ m G p;exact ua (C6 G.calm (G.gl n) (G.b8 _ (by decide)) (G.gl o) (G.b8 _ (by decide)) (by rw[aY E.2.2];rfl) (E.1 Φ))
 .cases g
end
section
variable{P:Program}{w:World}{K:PySem.W.Frag}{mg:Str->Option Value}{base:Heap}{T:aO}{k:Nat}
noncomputable def Gh:Stmt->Option Expr
 |.Raise (some e) none _=>some e
 |_=>none
theorem ra{st:Stmt}{x:Expr}(h:Gh st=some x):∃p,st=.Raise (some x) none p:=by
 cases st with
 |Raise v u p=>
  cases v with
  |none=>cases h
  |some e=>
   cases u with
   |none=>cases h;exact⟨p,rfl⟩
   |some _=>cases h
 |_=>cases h
def uS(T:aO)(b:Scope)(N:List Str)(C a:Str)(c:EM)(st:Stmt):Option SM:=(Gh st).bind λx=>(LU x).bind λu=>
 if u.1==C&&rm b u.1&&!(isStar u.2)then (cG T 60 b N u.2).map (λm=>o5 C a c m)else none
theorem sR{N:List Str}{qual:Str}{scope:Scope}{f:Addr}{d:Value}{A:Around}{outer:List Env}{i:Shared}{H0:Hp}{E:XK}
  {C N0 fI c:Addr}{j:FuncData}{b:Stmt}{a s t n:Str}{r:fD}{u:EM} (D:iV K mg C N0 fI c j b a s [t] [r]) (I:bE (k+2) (A.deeper (envOfC qual scope i.heap.objs.size f d))) (y:mg n=some (.ref C)) (o:(n==("__debug__":Str))=false)
  (G:GoodO (bF (kz P w) P w K mg base N qual scope f d A outer i H0 E) (bS mg) T k scope N)
  (p:∀(z:Around) (J:List Env) (B:Shared) (e:Addr) (L:Hp) (M:XK),bE k (z.deeper (envOfC a (af b) B.heap.objs.size fI (.ref c)))->bh ((bF dH P w K mg base [s,t] a (af b) fI (.ref c) z J B L M).fg.mk1 e) (bS mg) gM r.ve u)
  (st:Stmt) (F:SM) (h:uS T scope N n r.fld u st=some F):gZ (bF (kz P w) P w K mg base N qual scope f d A outer i H0 E) (bS mg) (f_ (bS mg) E) st F:=by
 obtain⟨x,v1,O⟩:=bq h;obtain⟨⟨l,Q⟩,v2,g⟩:=bq O;obtain⟨X,rfl⟩:=ra v1;obtain⟨Y,Z,rfl⟩:=o8 v2;dsimp only at g;split at g
 .rename_i H
  simp only[Bool.and_eq_true,Bool.not_eq_true']at H;obtain⟨⟨R,S⟩,U⟩:=H;obtain rfl:=eq_of_beq R;obtain⟨m,q,rfl⟩:=bI g;have V:=er 60 _ scope N _ m G q;exact wg D I (G.gl S) y y (V.1 _) p (by rw[aY U];rfl) o
 .cases g
end
section
variable{P:Program}{w:World}{K:PySem.W.Frag}{mg:Str->Option Value}{base:Heap}
theorem Gi{k:Nat}{f:Addr}{a:FuncData}{ps:List Str}{κ:Str->Addr->Prop}:bP P w K mg base dH k f a ps (ei κ (λ_ _=>.bad)):=
 ⟨λ_ _ _ _ ⟨_,_,_,_,_,_,g⟩=>g.elim,λ_ _ _ _ _ _ _ _ _ _ _ _ _ ⟨_,_,_,_,_,_,g⟩=>g.elim⟩
end
section
variable{X:Cx}{κ:Str->Addr->Prop}{T:aO}{k j:Nat}{sc:Scope}{N:List Str}{f:Addr}{fd:FuncData}{ps:List Str}{MG:aX}{E':XK}{x a y:Str}{p pa py cpos pos:Pos}
end
noncomputable def D_(C a:Str)(x:D):Option D:=match x with
 |.tup [.str c,.str g,d]=>if c=C/\g=a then some d else none
 |_=>none
theorem C_{C a:Str}{x d:D}(h:D_ C a x=some d):x=fR C a d:=by
 unfold D_ at h;split at h
 .split at h
  .rename_i b;cases h;rw[b.1,b.2];rfl
  .cases h
 .cases h
section
variable{P:Program}{w:World}{K:PySem.W.Frag}{mg:Str->Option Value}{base:Heap}{k:Nat}{T:aO}
end
def Gj(X:Cx)(κ:Str->Addr->Prop)(Φ:eQ)(a:L2.St)(e:Expr)(m:EM):Prop:=∀b d f g h,PE X e (λc H Q=>c=a/\tO κ Φ b d f m g h c H Q)
def LV(X:Cx)(κ:Str->Addr->Prop)(Φ:eQ)(a:L2.St)(b:List Stmt)(c:SM):Prop:=∀d f g h i,gb X b (λD e H=>e=a/\FD κ Φ d f g c h i D e H)
noncomputable def my(b:Bool)(i:Nat)(ρ:aK):aK:=if b then ρ.set i none else ρ
def iZ(h:SM)(j c:Str)(k:D->SM)(b:Bool)(i:Nat):SM:=λg l=>match h g l with
 |.exc x e=>(match D_ j c x with
  |some d=>(match k d (my b i g) e with
   |.nx f a=>.nx (my b i f) a
   |.rt r a=>.rt r a
   |_=>.bad)
  |none=>.bad)
 |r=>r
section
variable{X:Cx}{κ:Str->Addr->Prop}{Φ:eQ}{uP:L2.St}{a b e:Expr}{ma mb m:EM}{es:List Expr}{as:AM}{p pos:Pos}
theorem Dc{f:D->D->aA->ax D}{r:R2}(h:∀p tb,PE X a p->PE X b tb->PE X e (EI r p tb))(n:bh X κ Φ a ma)(o:Gj X κ Φ uP b mb)
  (C:∀s t x y i Z Ω H Q,bc κ i Z Ω H->av i Z H s x->av i Z H t y->ck κ Φ i Z H (f s t Ω) Q->r x y H Q):Gj X κ Φ uP e (m2 f ma mb):=by
 intro c k l j Ω;rcases q:ma j Ω with ⟨d,m⟩|⟨x,m⟩|_
 .refine PE.imp (h _ _ (n c k l j Ω) (o c k l j m)) ?_
  rintro u H Q ⟨rfl,i,Z,S,g⟩;refine⟨i,Z,S,ck.use g λU z A v V E F G B I J=>?_⟩
  rw[q]at A;cases A;refine⟨rfl,_,F,S.grow G B,J.use λd2 K _ w L M N O P R T=>?_⟩
  exact C d d2 v w _ N _ L Q P (B.cS O I) R T
 .refine PE.imp (h _ _ (n c k l j Ω) (o c k l j Ω)) ?_
  rintro u H Q ⟨rfl,i,Z,S,g⟩;refine⟨i,Z,S,?_⟩;simp only[m2,q,ax.bind]at g ⊢;exact g
 .refine PE.imp (h _ _ (n c k l j Ω) (o c k l j Ω)) ?_
  rintro u H Q ⟨rfl,i,Z,S,g⟩;simp only[m2,q,ax.bind]at g;exact g.elim
theorem nu{k:Nat}{x:Str}{G:aX}{f:Addr}{d:FuncData}{ps:List Str}{E:XK}(F:bP X.prog X.w X.K X.mg X.base (kz X.prog X.w) k f d ps (nt κ G))(h:bE k X.A)(i:Gl X x)(j:X.mg x=some (.ref f))(l:PySem.W.keepIn X.K (.ref f)=true)(m:Binds X.K d ps [])(n:iW X uP E)(a:(x==("__debug__":Str))=false)
  (o:starEach (e::es) X.env=(false,eval e X.env)::starEach es X.env) (b:(backTo pos (starEach es X.env)).any (·.1)=false) (q:lY X κ (f_ κ E) (e::es) as) :
  Gj X κ (f_ κ E) uP (.Call (.Name x p) (e::es) [] pos) (mN G as):=by
 intro c r s t u;refine PE.imp (z5 F h i j l m n (q c r s t u) a o b) ?_;rintro M H Q ⟨rfl,y,Z,S,g⟩;exact⟨rfl,y,Z,S,ph.use g λz B _ N O C D P I J L=>⟨_,D,_,z,I,J,L⟩⟩
theorem b7.my{cm a:List Addr}{Z0 Z:Addr->Prop}{H0 H:Hp}{Ω:aA}{ρ:aK}{σ:L2.St}{i:Nat}{o:Option V}(S:b7 κ cm Z0 H0 a Z Ω ρ σ H):b7 κ cm Z0 H0 a Z Ω (ρ.set i none) (σ.set i o) H:=
 ⟨S.st,S.gr,by rw[List.length_set,List.length_set];exact S.len,λj d h=>by
  by_cases b:i=j
  .rw[List.getElem?_set]at h
   grind
  .rw[List.getElem?_set_ne b]at h ⊢
   exact S.val j d h⟩
theorem Ac{M:SM}{R:D->SM}{body t:List Stmt}{b0:Stmt}{O u c:Str}{nm:Option Str}{B0 C N0 fI:Addr}{i:Nat}{hp B:Pos}
  (T:X.stack=X.env::X.outer) (U:X.env.frame=some X.env.locals) (hg:Gl X O) (Y:X.mg O=some (.ref B0)) (a0:PySem.W.exmOne X.K (.ref C) (.ref B0)=some true) (hN:X.N.Nodup) (hi:∀n,nm=some n->X.N[i]?=some n) (hn:∀n,nm=some n->X.env.scope.names.lookup n=some .local)
  (c0:∀P,κ u P->P=C) (Tx:lR X.K C N0 fI) (is:NC X.K C)
  (hb:∀(pl:List (Addr×Obj)) (F:Value->Shared->Prop) (G:L2.St) (E:XK),iW ((X.jY pl).wish F) G E->LV ((X.jY pl).wish F) κ (f_ κ E) G body M)
  (e0:∀(pl:List (Addr×Obj)) (e d:Addr) (w:Obj),LS (((X.jY pl).l5 e).uO e w) e C w d N0 fI->∀(cm:List Addr) (Z0:Addr->Prop) (H0:Hp) (ρ:aK) (Ω:aA) (q:D) (v:V),
   gb (((X.jY pl).l5 e).uO e w) (b0::t) (λD σ H=>H d=some (.xd [(c,v)])/\(nm.isSome=true->σ[i]?=some (some (.ref e)))/\∃z Z,b7 κ cm Z0 H0 z Z Ω ρ σ H/\av z Z H q v/\dv κ gM cm Z0 H0 D (R q ρ Ω)))
  (f0:(O==("__debug__":Str))=false) :
  gZ X κ Φ (.Try body [.ExceptHandler (some (.Name O hp)) nm (b0::t) B] [] [] pos) (iZ M u c R nm.isSome i):=by
 intro cm Z0 H0 ρ Ω pins s σ H D I h;obtain⟨z,Z,S,f⟩:=h;refine D8 (W:=λd fs g0=>∃v g a l b q,fs=[(c,v)]/\g0=upd g d (.xd fs)/\g d=none/\M ρ Ω=.exc (fR u c q) b/\bD z Z H a l g/\bc κ a l b g/\av a l g q v) I T U hg Y a0 hN hi hn (λF h0=>?_) (λe d fs w g s4 n0 hW c1 c2 c3 J=>?_) f0
 .refine hb pins F σ _ h0 z Z H ρ Ω [] s σ H D (I.jY.wish F) ⟨rfl,z,Z,⟨S.st,bD.refl S.st.has,S.len,S.val⟩,?_⟩
  unfold iZ at f;cases j:M ρ Ω with
  |nx L b=>rw[j]at f;exact λm g a l k=>f m g a l ⟨k.st,S.gr.trans k.gr,k.len,k.val⟩
  |bk L b=>rw[j]at f;exact λm g a l k=>f m g a l ⟨k.st,S.gr.trans k.gr,k.len,k.val⟩
  |ct L b=>rw[j]at f;exact λm g a l k=>f m g a l ⟨k.st,S.gr.trans k.gr,k.len,k.val⟩
  |rt d b=>rw[j]at f;exact λv g a l g' s' r'=>f v g a l (S.gr.trans g') s' r'
  |bad=>rw[j]at f;exact f
  |exc x b=>
   rw[j]at f;dsimp only at f;cases hx:D_ u c x with
   |none=>rw[hx]at f;exact f.elim
   |some q=>
    obtain rfl:=C_ hx;intro g a l g1 Q;refine .inl ⟨u,c,q,rfl,λP v dd hk r1 y=>?_⟩
    cases c0 P hk;exact⟨rfl,dd,_,rfl,aG,v,g,a,l,b,q,rfl,rfl,y,rfl,g1,Q,r1⟩
 .obtain⟨v,H1,a,l,b,q,rfl,rfl,y,j,g1,Q,r1⟩:=hW
  have i0:LS (((X.jY pins).l5 e).uO e w) e C w d N0 fI:=⟨by simp[Cx.uO],c1,c2,c3,Tx,is⟩
  obtain⟨a1,a2⟩:=Q.tT (p:=d) (o:=.xd [(c,v)]) y False;have S2:=S.grow (g1.trans a2) a1;unfold iZ at f;rw[j]at f;dsimp only at f;rw[show D_ u c (fR u c q)=some q by unfold D_ fR;simp]at f
  dsimp only at f
  have S3:b7 κ cm Z0 H0 a l b (Mir.my nm.isSome i ρ) (if nm.isSome then σ.set i (some (.ref e))else σ) (upd H1 d (.xd [(c,v)])):=by
   cases nm with
   |none=>exact S2
   |some n=>exact S2.my
  refine e0 pins e d w i0 cm Z0 H0 (Mir.my nm.isSome i ρ) b q v [] s4 _ _ _ J ⟨aG,λhz=>?_,a,l,S3,Q.cS a2 r1,?_⟩
  .obtain⟨n,rfl⟩:=Option.isSome_iff_exists.mp hz
   have m0:i<σ.length:=by
    rw[I.len]
    grind
   grind
  .cases A:R q (Mir.my nm.isSome i ρ) b with
   |nx o0 j0=>
    rw[A]at f;intro m g l0 Z2 k;refine f (Ga nm i m) g l0 Z2 ?_;cases nm with
    |none=>exact k
    |some n=>exact k.my
   |rt r j0=>rw[A]at f;exact f
   |bk _ _=>rw[A]at f;exact f.elim
   |ct _ _=>rw[A]at f;exact f.elim
   |exc _ _=>rw[A]at f;exact f.elim
   |bad=>rw[A]at f;exact f.elim
end
def gE(C:Str):List EM->aK->aA->ax D
 |[],_,Ω=>.exc (eM C) Ω
 |m::r,ρ,Ω=>match m ρ Ω with
  |.ok _ rY=>gE C r ρ rY
  |_=>.bad
def e8(C:Str)(n:Nat)(ms:List EM)(as:AM):SM:=λd e=>cw (as d e) λc a=>if c.length=n then (match gE C ms (none::c.map some) a with
 |.exc x b=>.exc x b
 |_=>.bad)else .bad
section
variable{κ:Str->Addr->Prop}{Φ:eQ}{α α2:List Addr}{Z Z2:Addr->Prop}{Ω au:aA}{H H2:Hp}{dd e:Addr}{C:Str}
theorem chX{o:HO}(S:bc κ α Z Ω H)(j:dd∉α)(k:¬ Z dd)(l:∀o u,H dd≠some (.cL o u))(y:H dd≠none):bc κ α Z Ω (upd H dd o):=by
 refine⟨S.jT,?_,S.sep,λa f=>?_⟩
 .have h:∀{g:List _}{e:List _},(∀a∈e,a≠dd)->aD (λc a=>fb κ (av α Z H) H a c) g e->aD (λc a=>fb κ (av α Z (upd H dd o)) (upd H dd o) a c) g e:=by
   intro g e i m
   induction m with
   |nil=>exact .nil
   |@cons A n g e r t p=>
    refine .cons (r.imp (λd v r=>r.mono (λ_ _ q=>q) (λa B z q=>by rw[ao (λw=>k (by rw[←w];exact z))];exact q) λ_ z=>z) (λu q=>?_) λb s x q=>?_) (p λa f=>i a (List.mem_cons_of_mem _ f))
    .rwa[ao (i n (by simp))]
    .rwa[ao (λw=>l s x (by simp_all))]
  exact h (λa f w=>j (by simp_all)) S.vz
 .by_cases q:a=dd
  .simp_all
  .rw[ao q];exact S.dom a f
theorem chG{b:List Addr}{d:Addr->Prop}{e:Hp}{o:HO}(g:bD α Z H b d e)(i:H dd=Option.none)(f:dd∉b):bD α Z H b d (upd e dd o):=
 ⟨g.pre,g.sub,g.new,g.wK,λa u q c=>by rw[ao (λw=>by grind)];exact g.frm a u q c,λa c=>by
  have:a≠dd:=λw=>by
   obtain⟨n,h⟩:=List.mem_iff_getElem?.mp c;exact f (by rw[←w];exact List.mem_of_getElem? (g.pre n a h))
  rw[ao this];exact g.has a c,λa o u q=>by rw[ao (λw=>by grind)];exact g.cL a o u q⟩
structure NG(κ:Str->Addr->Prop)(α:List Addr)(Z:Addr->Prop)(H:Hp)(od:Option Addr)(fs:List (Str×V))(α2:List Addr)(Z2:Addr->Prop)(Ω:aA)(H2:Hp):Prop where
 st:bc κ α2 Z2 Ω H2
 gr:bD α Z H α2 Z2 H2
 PJ:od=none->fs=[]
 QD:∀dd,od=some dd->H2 dd=some (.xd fs)/\dd∉α2/\¬ Z2 dd/\H dd=none
theorem Ad{O:Addr}{ρ:aK}{σ:L2.St}{Q:VK}(G:bc κ α Z au H)(n:σ.length=ρ.length)(I:∀(i:Nat) (d:D),ρ[i]?=some (some d)->∃v,σ[i]?=some (some v)/\av α Z H d v){ff:Option Addr->List (Str×V)->Hp->Prop}{Nm:List Str}
  (J:∀h c b j a k,c.map (·.1)=Nm->NG κ α Z H h c b j a k->ck κ Φ α Z H (.exc (eM C) a) Q->ff h c k) :
  ∀(rs:List (Str×EM)) (h:Option Addr) (c:List (Str×V)) (b:List Addr) (j:Addr->Prop) (a:aA) (k:Hp),c.map (·.1)++rs.map (·.1)=Nm->NG κ α Z H h c b j a k->ck κ Φ α Z H (gE C (rs.map (·.2)) ρ a) Q ->
   lS e O (rs.map λr=>(r.1,λσ P R=>∃w,tO κ gM α Z H r.2 ρ w σ P R)) h c σ k ff
 |[],h,c,b,j,a,k,S,x,g=>J h c _ j a k (by simp_all) x g
 | (f,m)::rs,h,c,b,j,a,k,S,x,g=>by
  have y:b7 κ α Z H _ j _ ρ σ k:=⟨x.st,x.gr,n,λi d T=>let ⟨v,h1,h2⟩:=I i d T;⟨v,h1,G.cS x.gr h2⟩⟩
  replace g:ck κ Φ α Z H (match m ρ _ with|.ok _ w=>gE C _ ρ _|_=>.bad) Q:=g
  cases q:m ρ _ with
  |bad=>rw[q]at g;exact g.elim
  |exc z A=>rw[q]at g;exact g.elim
  |ok d A=>
   rw[q]at g;cases h with
   |none=>
    cases x.PJ rfl;refine⟨_,_,j,y,?_⟩;dsimp only;rw[q];intro v U B F p E X s l Y a0;obtain⟨s4,g4⟩:=E.tT l False
    exact Ad G n I J rs _ _ _ F A _ (by grind) ⟨s4,(x.gr.trans p).trans g4,by simp,λd' z=>by
     cases z;exact⟨aG,λt=>E.has _ t l,λt=>E.dom _ t l,(x.gr.trans p).none l⟩⟩ g
   |some s=>
    obtain⟨o1,o2,o3,M⟩:=x.QD s rfl;refine⟨_,_,j,y,?_⟩;dsimp only;rw[q];intro v U B F p E X;have K:=p.frm s _ o1 o2
    have L:s∉B:=λt=>by
     rcases p.wK s t with z|z
     .exact o2 z
     grind
    have N:¬ F s:=λt=>by
     rcases p.new s t with z|z|⟨_,vs,z⟩
     .exact o3 z
     .grind
     grind
    refine⟨K,Ad G n I J rs _ _ _ F _ _ (by grind) ⟨(chX E L N (λo u z=>by rw[K]at z;cases z) (by rw[K];simp)),chG (x.gr.trans p) M L,by simp,λd' z=>?_⟩ g⟩
    cases z;exact⟨aG,L,N,M⟩
theorem jK{A B:Type}{f:fD->A}{g:B->TE}:∀{rs:List fD}{ms:List B},((rs.zip (ms.map g)).map λr=>(r.1.fld,r.2))=((rs.map (·.fld)).zip ms).map λr=>(r.1,g r.2)
 |[],_=>rfl
 |_::_,[]=>rfl
 |r::rs,m::ms=>by
  have:=jK (f:=f) (g:=g) (rs:=rs) (ms:=ms)
  simp_all
theorem jL{A B T:Type}{g:B->T}{p:A×T}:∀{rs:List A}{ms:List B},p∈rs.zip (ms.map g)->∃m,(p.1,m)∈rs.zip ms/\p.2=g m
 |[],_,h=>by cases h
 |_::_,[],h=>by cases h
 |r::rs,m::ms,h=>by
  simp only[List.map_cons,List.zip_cons_cons,List.mem_cons]at h ⊢;rcases h with h|h
  .simp_all
  .obtain⟨a,h1,h2⟩:=jL h
   exact⟨a,.inr h1,h2⟩
theorem wo{N:List Str}{ds:List D}{vs:List V}{e:Addr}(r:aD (av α Z H) ds vs)(c:N.length=ds.length+1):(start N (.ref e::vs)).length=(none::ds.map some:aK).length/\∀(i:Nat) (d:D),(none::ds.map some:aK)[i]?=some (some d)->∃v,(start N (.ref e::vs))[i]?=some (some v)/\av α Z H d v:=by
 have f:=r.length;refine⟨by simp[L2.start];omega,λi d a=>?_⟩
 cases i with
 |zero=>cases a
 |succ i=>
  rw[List.getElem?_cons_succ,List.getElem?_map]at a;obtain⟨g,b,h⟩:=Option.map_eq_some_iff.mp a;obtain⟨v,j,k⟩:=r.get b;unfold L2.start
  simp_all
theorem nv{ρ:aK}{x:D}{a:aA}:∀(ms:List EM) (Ω:aA),gE C ms ρ Ω=.exc x a->x=eM C
 |[],Ω,h=>by cases h;rfl
 |m::ms,Ω,h=>by
  simp only[gE]at h;split at h
  .exact nv ms _ h
  .cases h
end
section
variable{P:Program}{w:World}{K:PySem.W.Frag}{mg:Str->Option Value}{base:Heap}{k:Nat}
theorem sS{κ:Str->Addr->Prop}{N:List Str}{qual:Str}{scope:Scope}{f:Addr}{B:Value}{A:Around}{outer:List Env}{F:Shared}{H0:Hp}{E:XK}
  {C N0 fI c:Addr}{a0:FuncData}{M:Stmt}{o sf r:Str}{ps:List Str}{rs:List fD}{ms:List EM}{a1:Expr}{as:List Expr}{am:AM}{np G pos:Pos} (D:iV K mg C N0 fI c a0 M o sf ps rs) (hr:bE (k+2) (A.deeper (envOfC qual scope F.heap.objs.size f B)))
  (hg:Gl (bF (kz P w) P w K mg base N qual scope f B A outer F H0 E) r) (hm:mg r=some (.ref C)) (n0:κ r C)
  (T:lY (bF (kz P w) P w K mg base N qual scope f B A outer F H0 E) κ (f_ κ E) (a1::as) am) (hl:ms.length=rs.length) (o0:rs≠[])
  (b0:∀(A':Around) (ot:List Env) (s':Shared) (e:Addr) (n:Hp) (E':XK),bE k (A'.deeper (envOfC o (af M) s'.heap.objs.size fI (.ref c)))->∀p∈rs.zip ms,bh ((bF dH P w K mg base (sf::ps) o (af M) fI (.ref c) A' ot s' n E').fg.mk1 e) κ gM p.1.ve p.2)
  (c0:starEach (a1::as) (envOfC qual scope F.heap.objs.size f B)=(false,eval a1 (envOfC qual scope F.heap.objs.size f B))::starEach as (envOfC qual scope F.heap.objs.size f B)) (e0:(backTo G (starEach as (envOfC qual scope F.heap.objs.size f B))).any (·.1)=false) (f0:(r==("__debug__":Str))=false) :
  gZ (bF (kz P w) P w K mg base N qual scope f B A outer F H0 E) κ (f_ κ E) (.Raise (some (.Call (.Name r np) (a1::as) [] G)) none pos) (e8 r ps.length ms am):=by
 intro u Z0 y ρ Ω pins s σ H Dn I q;obtain⟨α,Z,S,q⟩:=q
 refine nr (k:=k)
  (Arg:=λU n=>∃O b d t h,bD u Z0 y d t n/\bc κ d t b n/\aD (av d t n) O U/\O.length=ps.length/\gE r ms (none::O.map some) b=.exc (eM r) h/\∀j a i,bD u Z0 y a i j->bc κ a i h j->f_ κ E (eM r) h a i j)
  (ff:=λU n J L j=>(∃R,J=some R)/\∃h a i,bc κ a i h j/\f_ κ E (eM r) h a i j) D hr hg hm (T u Z0 y ρ Ω) (λU n L H' hz=>by grind) (λU n hA A' ot s' e E' g0 he=>?_) c0 e0 f0 pins s σ H Dn I ⟨α,Z,S,?_⟩
 .obtain⟨O,b,d,t,h,g1,X,h0,i0,e1,h1⟩:=hA
  refine⟨ms.map λm j0 H' Q'=>∃b,tO κ gM d t n m (none::O.map some) b j0 H' Q',by simp[hl],λp hp=>?_,?_⟩
  .obtain⟨m,l0,e2⟩:=jL hp
   rw[e2];exact PE.ex λb=>b0 A' ot s' e n E' g0 (p.1,m) l0 d t n (none::O.map some) b
  .rw[jK (f:=fD.fld)]
   have m0:∀J (L:List (Str×V)) a i l j,L.map (·.1)=rs.map (·.fld)->NG κ d t n J L a i l j->∃R,J=some R:=λJ L a i l j hn x=>by
    cases J with
    |none=>
     rw[x.PJ rfl]at hn
     simp_all
    |some R=>exact⟨R,rfl⟩
   obtain⟨l1,l2⟩:=wo (N:=sf::ps) (e:=e) h0 (by simp[i0])
   refine Ad (Φ:=f_ κ E) (C:=r) (Q:=λ_ _=>False) X l1 l2 (λJ L a i l j hn x g=>⟨hn,m0 J L a i l j hn x,l,a,i,x.st,g j a i x.gr x.st⟩) _ none [] d t b n ?_ ⟨X,bD.refl X.has,λ_=>rfl,λ_ z=>(nomatch z)⟩ ?_
   .exact List.map_fst_zip (by simp[hl])
   .rw[List.map_snd_zip (by simp[hl]),e1]
    exact λj a i g2 s2=>h1 j a i (g1.trans g2) s2
 .unfold e8 at q
  cases hq:am ρ Ω with
  |bad=>rw[hq]at q;exact q.elim
  |exc x b=>rw[hq]at q;exact λn d t g s=>q n d t (S.gr.trans g) s
  |ok xs b=>
   rw[hq]at q;replace q:dv κ (f_ κ E) u Z0 y Dn (if xs.length=ps.length then (match gE r ms (none::xs.map some) b with|.exc x h=>.exc x h|_=>.bad)else .bad):=q
   intro U n d t g1 X r1;split at q
   rotate_left
   .exact q.elim
   rename_i Y;split at q
   rotate_left
   .exact q.elim
   rename_i x h hu;obtain rfl:=nv ms b hu;refine⟨by rw[r1.length];exact Y,⟨xs,b,d,t,h,S.gr.trans g1,X,r1,Y,hu,λj a i g2 s2=>q j a i g2 s2⟩,?_⟩
   rintro L j R ⟨_,p0,a,i,s2,hp⟩ q0;rcases hp with ⟨_,_,_,z,_⟩|⟨C',z,hh⟩
   .simp[fR,eM]at z
   .simp only[eM,Mir.D.tup.injEq,List.cons.injEq,Mir.D.str.injEq,and_true]at z
    grind
end
noncomputable def JK(C:Str):D->Bool
 |.tup [.str c]=>c==C
 |_=>false
theorem De{C:Str}{x:D}(h:JK C x=true):x=eM C:=by
 unfold JK at h;split at h
 .rw[eq_of_beq h];rfl
 .cases h
theorem Gk{C:Str}:JK C (eM C)=true:=by simp[JK,eM]
def i6(e:SM)(f:Str)(g:SM):SM:=λd h=>match e d h with
 |.exc x b=>if JK f x then (match g d b with
   |.nx c a=>.nx c a
   |.rt r a=>.rt r a
   |_=>.bad)else .bad
 |r=>r
section
variable{X:Cx}{κ:Str->Addr->Prop}{Φ:eQ}{T:aO}{k:Nat}{sc:Scope}{N:List Str}
theorem GoodO.chg(G:GoodO X κ T k sc N){pl:List (Addr×Obj)}{a:Value->Shared->Prop}:GoodO ((X.jY pl).wish a) κ T k sc N where
 scope:=G.scope
 names:=G.names
 calm:=G.calm
 room:=G.room
 b8:=G.b8
 fP:=λx F h=>⟨(G.fP x F h).ex⟩
 fn:=λx F h=>⟨(G.fn x F h).ex⟩
 cst:=G.cst
 met:=λm C F h=>⟨(G.met m C F h).ex⟩
 cls:=λC F h=>let ⟨j,b,c⟩:=G.cls C F h;⟨j,b,⟨c.ex⟩⟩
 fld:=G.fld
 clo:=G.clo
theorem Ae{y G:SM}{body k:List Stmt}{b0:Stmt}{A B:Str}{B0 C:Addr}{hp o pos:Pos}
  (L:X.stack=X.env::X.outer) (M:X.env.frame=some X.env.locals) (hg:Gl X A) (O:X.mg A=some (.ref B0)) (P:PySem.W.exmOne X.K (.ref C) (.ref B0)=some true) (hN:X.N.Nodup)
  (Q:∀F,κ B F->F=C)
  (hb:∀(pl:List (Addr×Obj)) (p:Value->Shared->Prop) (q:L2.St) (E:XK),iW ((X.jY pl).wish p) q E->LV ((X.jY pl).wish p) κ (f_ κ E) q body y)
  (R:∀(pl:List (Addr×Obj)) (e:Addr) (T:Obj),jW (((X.jY pl).l5 e).uO e T) κ gM (b0::k) G)
  (U:(A==("__debug__":Str))=false) :
  gZ X κ Φ (.Try body [.ExceptHandler (some (.Name A hp)) none (b0::k) o] [] [] pos) (i6 y B G):=by
 intro V Z0 H0 t Y pins s σ H D I h;obtain⟨α,Z,S,f⟩:=h;refine D8 (i:=0) (W:=λd fs u=>∃a g b,y t Y=.exc (eM B) b/\bD α Z H a g u/\bc κ a g b u) I L M hg O P hN (λ_ z=>nomatch z) (λ_ z=>nomatch z) (λp a0=>?_) (λe d fs T m s4 f0 hW c1 c2 c3 J=>?_) U
 .refine hb pins p σ _ a0 α Z H t Y [] s σ H D (I.jY.wish p) ⟨rfl,α,Z,⟨S.st,bD.refl S.st.has,S.len,S.val⟩,?_⟩
  unfold i6 at f;cases c:y t Y with
  |nx w b=>rw[c]at f;exact λl m a g j=>f l m a g ⟨j.st,S.gr.trans j.gr,j.len,j.val⟩
  |bk w b=>rw[c]at f;exact λl m a g j=>f l m a g ⟨j.st,S.gr.trans j.gr,j.len,j.val⟩
  |ct w b=>rw[c]at f;exact λl m a g j=>f l m a g ⟨j.st,S.gr.trans j.gr,j.len,j.val⟩
  |rt d b=>rw[c]at f;exact λv m a g g' s' r'=>f v m a g (S.gr.trans g') s' r'
  |bad=>rw[c]at f;exact f
  |exc x b=>
   rw[c]at f;dsimp only at f;split at f
   .rename_i hx
    obtain rfl:=De hx;intro m a g g1 s1;refine .inr ⟨B,rfl,λF dd fs hk c0=>?_⟩
    cases Q F hk;exact⟨rfl,dd,fs,rfl,c0,a,g,b,rfl,g1,s1⟩
   .exact f.elim
 .obtain⟨a,g,b,c,g1,s1⟩:=hW
  have S2:=S.grow g1 s1;unfold i6 at f;rw[c]at f;dsimp only at f;rw[if_pos Gk]at f;refine R pins e T V Z0 H0 t b [] s4 _ _ _ J ⟨a,g,S2,?_⟩;cases n:G t b with
  |nx g0 e0=>rw[n]at f;exact f
  |rt r e0=>rw[n]at f;exact f
  |bk _ _=>rw[n]at f;exact f.elim
  |ct _ _=>rw[n]at f;exact f.elim
  |exc _ _=>rw[n]at f;exact f.elim
  |bad=>rw[n]at f;exact f.elim
end
section
variable{X:Cx}{κ:Str->Addr->Prop}{Φ:eQ}{uP:L2.St}{o i e a b:Expr}{md mk mv ma mb:EM}{pos pos':Pos}
theorem Af(r:X.A.units+1<cLine)(s:bh X κ Φ o md)(t:bh X κ Φ i mk)(z:Gj X κ Φ uP e mv)(B:swapsWith e (some (.Subscript o i pos')) pos.line X.env=pure false):LV X κ Φ uP [.Assign [.Subscript o i pos'] e pos] (cC md mk mv):=by
 intro c h j k C;refine gb.imp (nJ (lj r (PE.ex λb=>s c h j k b) (PE.ex λb=>t c h j k b) (z c h j k C) B)) ?_
 rintro E D H ⟨rfl,F,Z,S,f⟩;refine⟨rfl,F,Z,S,dv.use S f λd b v H1 G I _ g1 l J K=>⟨_,_,I,l,dv.use l K λx L w H2 M N _ O g P Q=>⟨_,_,N,g,dv.use g Q λy R u H3 T U _ n p V m=>?_⟩⟩⟩
 split at m
 .rename_i Y hq
  obtain⟨a,q,rfl,h1,s4,g4⟩:=lr p.st (g.st.cS n P) V (g.st.cS n (l.st.cS O J)) hq;exact⟨a,q,rfl,h1,m D q _ U (p.grow g4 s4)⟩
 .exact m.elim
theorem Df(e:bh X κ Φ a ma)(f:Gj X κ Φ uP b mb):Gj X κ Φ uP (.BinOp a .Add b pos) (m2 kX ma mb):=by
 refine Dc (λu tb h i=>wW (rL _) h i) e f λw z x y A Z B H Q S j k g=>?_
 unfold kX at g;split at g
 .rename_i C D m o
  obtain⟨l,p,rfl,q,c⟩:=bf S j m;obtain⟨n,r,rfl,s,d⟩:=bf S k o;split at g
  .rename_i t
   exact .inr (.inr ⟨l,n,p,r,rfl,rfl,q,s,by rw[c.length,d.length];exact br t,dq S (c.append d) g⟩)
  .exact g.elim
 .exact g.elim
theorem Dg(h:Gj X κ Φ uP e mv)(b:swapsWith e none pos.line X.env=pure false):LV X κ Φ uP [.Expr e pos] (eg mv):=by
 intro a c g i j;refine gb.imp (nJ (sY (h a c g i j) b)) ?_;rintro E r H ⟨rfl,k,Z,S,f⟩;exact⟨rfl,k,Z,S,dv.use S f λd l v m n o _ s p t q=>q _ m _ o p⟩
def putD(j k:Nat)(d:D):SM:=cC (aa j) (aa k) λ_ a=>.ok d a
theorem Dh{L d C N0 fI:Addr}{U:Obj}{n e g b:Str}{i j k:Nat}{M O Y p4 p5 p6:Pos}(hu:X.A.units+1<cLine)(m:LS X L C U d N0 fI)(na:dO X.K C b)(hi:X.N[i]?=some n)(hv:nH X.env.scope n)(o:(n==("__debug__":Str))=false)(p:(n==("__classdict__":Str))=false)
  (hj:X.N[j]?=some e) (q:nH X.env.scope e) (r:(e==("__debug__":Str))=false) (s:(e==("__classdict__":Str))=false) (hk:X.N[k]?=some g) (t:nH X.env.scope g) (z:(g==("__debug__":Str))=false) (B:(g==("__classdict__":Str))=false)
  (cm:List Addr) (Z0:Addr->Prop) (H0:Hp) (ρ:aK) (Ω:aA) (P:D) (v:V) :
  gb X [.Assign [.Subscript (.Name e M) (.Name g O) Y] (.Attribute (.Name n p4) b p5) p6] (λD σ H=>H d=some (.xd [(b,v)])/\(true=true->σ[i]?=some (some (.ref L)))/\∃h Z,b7 κ cm Z0 H0 h Z Ω ρ σ H/\av h Z H P v/\dv κ gM cm Z0 H0 D (putD j k P ρ Ω)):=by
 have vj:bh X κ gM (.Name e M) _:=oa hj q r s;have vk:bh X κ gM (.Name g O) _:=oa hk t z B;refine gb.imp (nJ (lj hu (PE.ex λc=>vj cm Z0 H0 ρ c) (PE.ex λc=>vk cm Z0 H0 ρ c) (JB m na hi hv o p) rfl)) ?_
 rintro E σ H ⟨F,G,h,Z,S,I,f⟩;refine⟨G rfl,_,v,F,by simp,?_⟩
 refine⟨Ω,h,Z,S,dv.use S (f) λx a0 w H2 b0 Z2 _ g2 l r2 f2=>⟨_,_,Z2,l,dv.use l f2 λy c0 u H3 e0 Z3 _ Q R r3 J=>?_⟩⟩
 split at J
 .rename_i f0 hq
  obtain⟨a,T,rfl,h1,s4,g4⟩:=lr R.st (l.st.cS Q r2) r3 (l.st.cS Q (S.st.cS g2 I)) hq;exact⟨a,T,rfl,h1,J σ T _ Z3 (R.grow g4 s4)⟩
 .exact J.elim
end
def Gm:Stmt->Option (Stmt×Expr×Option Str×Stmt)
 |.Try [b] [.ExceptHandler (some t) nm [h] _] [] [] _=>some (b,t,nm,h)
 |_=>none
theorem rb{st b h:Stmt}{t:Expr}{nm:Option Str}(q:Gm st=some (b,t,nm,h)):∃p a,st=.Try [b] [.ExceptHandler (some t) nm [h] p] [] [] a:=by
 cases st<;>try cases q
 rename_i bs c d e p;rcases bs with _|⟨b,_|_⟩<;>try cases q
 rcases c with _|⟨⟨t,nm,f,p⟩,g⟩<;>try cases q
 cases t<;>try cases q
 rcases f with _|⟨h,_|_⟩<;>try cases q
 cases g<;>try cases q
 cases d<;>try cases q
 cases e<;>cases q
 exact⟨_,_,rfl⟩
noncomputable def Gn:Stmt->Option (Expr×Expr×Expr)
 |.Assign [.Subscript o i _] v _=>some (o,i,v)
 |_=>none
theorem rf{st:Stmt}{o i v:Expr}(q:Gn st=some (o,i,v)):∃p a,st=.Assign [.Subscript o i p] v a:=by
 cases st<;>try cases q
 rename_i b v p;rcases b with _|⟨t,r⟩<;>try cases q
 cases t<;>try cases q
 cases r<;>cases q
 exact⟨_,_,rfl⟩
noncomputable def Hb:Expr->Option Str
 |.Name x _=>some x
 |_=>none
theorem i7{e:Expr}{x:Str}(q:Hb e=some x):∃p,e=.Name x p:=by
 cases e<;>cases q
 exact⟨_,rfl⟩
noncomputable def Ea:Expr->Option (Expr×Expr)
 |.BinOp a .Add b _=>some (a,b)
 |_=>none
theorem wq{e a b:Expr}(q:Ea e=some (a,b)):∃p,e=.BinOp a .Add b p:=by
 cases e<;>try cases q
 rename_i a o b p;cases o<;>cases q
 exact⟨_,rfl⟩
def Eb:Expr->Option (Expr×Str)
 |.Attribute o f _=>some (o,f)
 |_=>none
theorem wt{e o:Expr}{f:Str}(q:Eb e=some (o,f)):∃p,e=.Attribute o f p:=by
 cases e<;>cases q
 exact⟨_,rfl⟩
noncomputable def LW:Expr->Option (Str×Expr×List Expr)
 |.Call (.Name x _) (a::as) [] _=>some (x,a,as)
 |_=>none
theorem o9{e a:Expr}{x:Str}{as:List Expr}(q:LW e=some (x,a,as)):∃p b,e=.Call (.Name x p) (a::as) [] b:=by
 cases e<;>try cases q
 rename_i f r c p;cases f<;>try cases q
 cases r<;>try cases q
 cases c<;>cases q
 exact⟨_,_,rfl⟩
def PK(s:Stmt):Option (Expr×Expr×Expr×Str×Expr×List Expr):=(Gn s).bind λb=>(Ea b.2.2).bind λv=>(LW v.2).map λc=>(b.1,b.2.1,v.1,c)
theorem Di{s:Stmt}{o i a a1:Expr}{x:Str}{as:List Expr}(h:PK s=some (o,i,a,x,a1,as)):∃p b d e f,s=.Assign [.Subscript o i p] (.BinOp a .Add (.Call (.Name x d) (a1::as) [] e) f) b:=by
 obtain⟨⟨j,k,v⟩,v1,h⟩:=bq h;obtain⟨⟨l,w⟩,v2,h⟩:=bq h;obtain⟨c,g,h⟩:=Option.map_eq_some_iff.mp h;cases h;obtain⟨_,_,rfl⟩:=rf v1;obtain⟨_,rfl⟩:=wq v2;obtain⟨_,_,rfl⟩:=o9 g;exact⟨_,_,_,_,_,rfl⟩
def PL(s:Stmt):Option (Str×Str×Str×Str):=(Gn s).bind λz=>(Hb z.1).bind λa=>(Hb z.2.1).bind λb=>(Eb z.2.2).bind λw=>(Hb w.1).map λn=>(a,b,n,w.2)
theorem Dj{s:Stmt}{a b n f:Str}(h:PL s=some (a,b,n,f)):∃c d e g i j,s=.Assign [.Subscript (.Name a c) (.Name b d) e] (.Attribute (.Name n g) f i) j:=by
 obtain⟨⟨o,p,v⟩,v1,h⟩:=bq h;obtain⟨_,v2,h⟩:=bq h;obtain⟨_,k,h⟩:=bq h;obtain⟨⟨w,q⟩,l,h⟩:=bq h;obtain⟨_,m,h⟩:=Option.map_eq_some_iff.mp h;cases h;obtain⟨_,_,rfl⟩:=rf v1;obtain⟨_,rfl⟩:=i7 v2;obtain⟨_,rfl⟩:=i7 k;obtain⟨_,rfl⟩:=wt l;obtain⟨_,rfl⟩:=i7 m;exact⟨_,_,_,_,_,_,rfl⟩
def NH(T:aO)(b:Scope)(N:List Str)(e d c:Str)(G:aX)(o i a:Expr)(x:Str)(a1:Expr)(as:List Expr)(g n h j k f:Str):Option SM:=
 (o2 (cG T 60 b N o) (cG T 60 b N i) Prod.mk).bind λm=>(o2 (cG T 60 b N a) (cz (cG T 60 b N) (a1::as)) Prod.mk).bind λr=>(o2 (g8 b N h) (o2 (g8 b N j) (g8 b N n) Prod.mk) Prod.mk).bind λs=>
 if x==e&&rm b e&&g==d&&rm b d&&k==n&&f==c&&(b.names.lookup n==some .local)&&!(e==("__debug__":Str))&&!(d==("__debug__":Str))then some (iZ (cC m.1 m.2 (m2 kX r.1 (mN G r.2))) d c (putD s.1 s.2.1) true s.2.2)else none
def Ag(T:aO)(c:Scope)(N:List Str)(d e a:Str)(G:aX)(st:Stmt):Option SM:=
 (Gm st).bind λq=>(PK q.1).bind λb=>(Hb q.2.1).bind λf=>q.2.2.1.bind λn=>(PL q.2.2.2).bind λh=>NH T c N d e a G b.1 b.2.1 b.2.2.1 b.2.2.2.1 b.2.2.2.2.1 b.2.2.2.2.2 f n h.1 h.2.1 h.2.2.1 h.2.2.2
structure PM(X:Cx)(κ:Str->Addr->Prop)(cn:Str)(C N0 fI:Addr):Prop where
 st:X.stack=X.env::X.outer
 fm:X.env.frame=some X.env.locals
 nd:X.N.Nodup
 mg:X.mg cn=some (.ref C)
 ex:PySem.W.exmOne X.K (.ref C) (.ref C)=some true
 kp:∀Ca,κ cn Ca->Ca=C
 tx:lR X.K C N0 fI
 xs:NC X.K C
section
variable{X:Cx}{κ:Str->Addr->Prop}{Φ:eQ}{T:aO}{k:Nat}{sc:Scope}{N:List Str}{C N0 fI f:Addr}{fd:FuncData}{ps:List Str}{xf cn fld:Str}{G0:aX}
theorem wu(G:GoodO X κ T k sc N)(Y:PM X κ cn C N0 fI)(R:dO X.K C fld)(F:bP X.prog X.w X.K X.mg X.base (kz X.prog X.w) k f fd ps (nt κ G0))(S:X.mg xf=some (.ref f))(U:PySem.W.keepIn X.K (.ref f)=true)(V:Binds X.K fd ps [])(st:Stmt)(c:SM)(h:Ag T sc N xf cn fld G0 st=some c):gZ X κ Φ st c:=by
 obtain⟨⟨b0,t,nm,h0⟩,v1,h⟩:=bq h;obtain⟨⟨o,i0,a,x,Z,a0⟩,v2,h⟩:=bq h;obtain⟨bn,r,h⟩:=bq h;obtain⟨n,J,h⟩:=bq h;obtain⟨⟨tn,kn,n2,f2⟩,s,b⟩:=bq h;dsimp only at v2 r J s b;subst J;obtain⟨p1,c0,rfl⟩:=rb v1;obtain⟨p2,e0,p4,f0,p3,rfl⟩:=Di v2;obtain⟨p5,rfl⟩:=i7 r;obtain⟨p8,p9,p7,g0,j0,l0,rfl⟩:=Dj s;clear v1 v2 r s;obtain⟨⟨mo,mi⟩,u1,b⟩:=bq b;obtain⟨⟨ma,as⟩,u2,b⟩:=bq b;obtain⟨⟨j,kk,i⟩,u3,b⟩:=bq b;obtain⟨_,_,t1,t2,e1⟩:=bj u1;obtain⟨_,_,t3,t4,e2⟩:=bj u2;obtain⟨_,_,s1,u4,e3⟩:=bj u3;obtain⟨_,_,s2,s3,e4⟩:=bj u4;cases e1;cases e2;cases e3;cases e4
 dsimp only at b;split at b
 rotate_left
 .cases b
 rename_i L;cases b;simp only[Bool.and_eq_true,Bool.not_eq_true',beq_iff_eq]at L;obtain⟨⟨⟨⟨⟨⟨⟨⟨c1,c2⟩,c3⟩,c4⟩,c5⟩,c6⟩,c7⟩,c8⟩,c9⟩:=L;subst c1 c3 c5 c6;obtain⟨j1,j2,j3,j4⟩:=fM s1;obtain⟨k1,k2,k3,k4⟩:=fM s2;obtain⟨M,u,i3,i4⟩:=fM s3;have l:∀{y:Nat}{z:Str},N[y]?=some z->X.N[y]?=some z:=λh=>by rw[G.names];exact h
 have B:∀{z:Str},nH sc z->nH X.env.scope z:=λh=>by rw[G.scope];exact h
 have O:X.A.units+1<cLine:=by have:=G.hu;omega
 refine Ac (nm:=some n2) Y.st Y.fm (G.gl c4) Y.mg Y.ex Y.nd (λ_ e=>by cases e;exact l M) (λ_ e=>by cases e;rw[G.scope];exact c7) Y.kp Y.tx Y.xs (λp P m0 E D=>?_) (λp e d oe H I Z0 H0 ρ Ω dD v=>?_) c9
 .have Q:GoodO ((X.jY p).wish P) κ T k sc N:=G.chg
  have ok:=λe m q=>er 60 ((X.jY p).wish P) sc N e m Q q
  obtain⟨pa,g⟩:=bt ok t4;refine Af O ((ok _ _ t1).1 _) ((ok _ _ t2).1 _) (Df ((ok _ _ t3).1 _) ?_) (oE rfl);exact nu F G.room (Q.gl c2) S U V D c8 (aY (g Z (by simp))) (bz λz b=>g z (by simp[b])) (pa _)
 .exact Dh (X:=((X.jY p).l5 e).uO e oe) O H R (l M) (B u) i3 i4 (l j1) (B j2) j3 j4 (l k1) (B k2) k3 k4 I Z0 H0 ρ Ω dD v
noncomputable def JL:Stmt->Option Expr
 |.Expr e _=>some e
 |_=>none
theorem Ah{st:Stmt}{e:Expr}(q:JL st=some e):∃p,st=.Expr e p:=by
 cases st<;>cases q
 exact⟨_,rfl⟩
noncomputable def Ec:Stmt->Option (Str×Bool)
 |.Assign [.Name y _] (.Constant (.bool b) _ _) _=>some (y,b)
 |_=>none
theorem wx{st:Stmt}{y:Str}{b:Bool}(q:Ec st=some (y,b)):∃p j a d,st=.Assign [.Name y p] (.Constant (.bool b) j a) d:=by
 cases st<;>try cases q
 rename_i e v p;rcases e with _|⟨t,r⟩<;>try cases q
 cases t<;>try cases q
 cases r<;>try cases q
 cases v<;>try cases q
 rename_i c _ _;cases c<;>cases q
 exact⟨_,_,_,_,rfl⟩
def Ai(T:aO)(a:Scope)(N:List Str)(e d:Str)(G:aX)(st:Stmt):Option SM:=
 (Gm st).bind λq=>(JL q.1).bind λb=>(LW b).bind λc=>(Hb q.2.1).bind λf=>(Ec q.2.2.2).bind λy=>(cz (cG T 60 a N) (c.2.1::c.2.2)).bind λg=>(g8 a N y.1).bind λi=>
 if q.2.2.1.isNone&&c.1==e&&rm a e&&f==d&&rm a d&&(a.names.lookup y.1==some .local)&&!(e==("__debug__":Str))&&!(d==("__debug__":Str))then some (i6 (eg (mN G g)) d (ak (aE i (ai (.bl y.2))) aq))else none
theorem wy(G:GoodO X κ T k sc N)(Y:PM X κ cn C N0 fI)(F:bP X.prog X.w X.K X.mg X.base (kz X.prog X.w) k f fd ps (nt κ G0))(A:X.mg xf=some (.ref f))(B:PySem.W.keepIn X.K (.ref f)=true)(D:Binds X.K fd ps [])(st:Stmt)(c:SM)(h:Ai T sc N xf cn G0 st=some c):gZ X κ Φ st c:=by
 obtain⟨⟨b0,t,nm,h0⟩,v1,h⟩:=bq h;obtain⟨b,v2,h⟩:=bq h;obtain⟨⟨x,H,I⟩,g,h⟩:=bq h;obtain⟨bn,j,h⟩:=bq h;obtain⟨⟨y,bl⟩,l,h⟩:=bq h;obtain⟨as,n,h⟩:=bq h;obtain⟨i,o,h⟩:=bq h;dsimp only at v2 g j l n o h;split at h
 rotate_left
 .cases h
 rename_i p;cases h;simp only[Bool.and_eq_true,Bool.not_eq_true',beq_iff_eq,Option.isNone_iff_eq_none]at p;obtain⟨⟨⟨⟨⟨⟨⟨J,L⟩,M⟩,O⟩,P⟩,c7⟩,Q⟩,R⟩:=p;subst J L O;obtain⟨p1,S,rfl⟩:=rb v1;obtain⟨p2,rfl⟩:=Ah v2;obtain⟨p4,U,rfl⟩:=o9 g;obtain⟨p5,rfl⟩:=i7 j;obtain⟨p6,jj,V,Z,rfl⟩:=wx l;obtain⟨i1,a0,i3,i4⟩:=fM o;refine Ae Y.st Y.fm (G.gl P) Y.mg Y.ex Y.nd Y.kp (λr xe e0 E d=>?_) (λr e oe=>?_) R
 .have s:GoodO ((X.jY r).wish xe) κ T k sc N:=G.chg
  have ok:=λe m q=>er 60 _ sc N e m s q
  obtain⟨pa,a⟩:=bt ok n;exact Dg (nu F G.room (s.gl M) A B D d Q (aY (a H (by simp))) (bz λz hz=>a z (by simp[hz])) (pa _)) (oE rfl)
 .have u:X.env.scope.names.lookup y=some .local:=by rwa[G.scope]
  exact qA (ow Y.nd (by show X.N[i]?=some y;rwa[G.names]) (.inl u) (.inr u) rfl (gI DF rfl)) t_
end
section
variable{P:Program}{w:World}{K:PySem.W.Frag}{mg:Str->Option Value}{base:Heap}{T:aO}{k:Nat}
theorem Dk(W:ba P w K mg base T k){x qual:Str}{st:Stmt}{f:Addr}{t:FuncData}(F:tw K x qual st f t){N ps td:List Str}{c:SM}{u:Stmt->Option SM}(y:bL N ps (af st)=true)(J:bO (iX u T td 60 (af st) N 30) (aT st)=some c)
    (L:∀(b:Value) (A:Around) (outer:List Env) (s:Shared) (H:Hp) (E:XK),GoodO (bF dH P w K mg base N qual (af st) f b A outer s H E).fg (bS mg) T k (af st) N->∀e z,u e=some z->gZ (bF dH P w K mg base N qual (af st) f b A outer s H E).fg (bS mg) gM e z) :
    bP P w K mg base dH (k+1) f t ps (ei (bS mg) (bA N.length ps.length c)):=by
  refine F.ok (cQ y) (λM H Q E h=>?_) λb A outer s H M Q E O h=>?_
  · obtain⟨i,Z,l,R,S,r,g⟩:=h
    rw[r.length];unfold bA at g;split at g
    · omega
    · exact g.elim
  · obtain⟨i,Z,l,R,S,r,g⟩:=h
    have B:=cQ y
    have G:cV (bF dH P w K mg _ N _ _ f _ A outer s H E).fg _ T k _ N:=
      { scope:=rfl,names:=rfl,calm:=rfl,room:=O,b8:=W.b8,own:=PassesOwn.never,Cc:=λ_ _ _=>.inl rfl,jT:=B.nd,kind:=B.kind,fg:=λ_ _ _ h=>h,fld:=W.fld,cst:=W.cst
        fP:=λx F h=>⟨W.fP x F h⟩,fn:=λx F h=>⟨W.fn x F h⟩,met:=λm C F h=>⟨W.met m C F h⟩,cls:=λC F h=>let ⟨j,U,V⟩:=W.cls C F h;⟨j,U,⟨V⟩⟩,clo:=W.clo }
    refine⟨_,cX (o6 G (L _ A _ s H E G.toGoodO) 30 60) J i Z H _ l,i,Z,dU S r,?_⟩;unfold bA at g;split at g
    · cases q:c _ l with
      |rt d a=>rw[q]at g;exact λv n o p X st r=>g v n _ p X st r
      |nx D a=>rw[q]at g;exact λY n o p I=>g _ n _ p I.gr I.st (aR rfl)
      |bk D a=>rw[q]at g;exact g.elim
      |ct D a=>rw[q]at g;exact g.elim
      |exc x a=>rw[q]at g;exact g
      |bad=>rw[q]at g;exact g.elim
    · exact g.elim
def Ed(T:aO)(b:Scope)(N:List Str)(a:Str)(n:Nat)(ms:List EM)(st:Stmt):Option SM:=
 (Gh st).bind λx=>(LW x).bind λc=>(cz (cG T 60 b N) (c.2.1::c.2.2)).bind λd=>if c.1==a&&rm b a&&!(a==("__debug__":Str))then some (e8 a n ms d)else none
theorem Aj{N:List Str}{qual:Str}{scope:Scope}{f:Addr}{g:Value}{A:Around}{outer:List Env}{i:Shared}{H0:Hp}{E:XK}{C N0 fI c:Addr}{j:FuncData}{b:Stmt}{a r s:Str}{ps:List Str}{rs:List fD}{ms:List EM}
  (D:iV K mg C N0 fI c j b a r ps rs) (H:bE (k+2) (A.deeper (envOfC qual scope i.heap.objs.size f g))) (t:mg s=some (.ref C)) (G:GoodO (bF (kz P w) P w K mg base N qual scope f g A outer i H0 E) (bS mg) T k scope N) (I:ms.length=rs.length) (n:rs≠[])
  (o:∀(u:Around) (J:List Env) (y:Shared) (e:Addr) (L:Hp) (M:XK),bE k (u.deeper (envOfC a (af b) y.heap.objs.size fI (.ref c)))->∀p∈rs.zip ms,bh ((bF dH P w K mg base (r::ps) a (af b) fI (.ref c) u J y L M).fg.mk1 e) (bS mg) gM p.1.ve p.2)
  (st:Stmt) (B:SM) (h:Ed T scope N s ps.length ms st=some B):gZ (bF (kz P w) P w K mg base N qual scope f g A outer i H0 E) (bS mg) (f_ (bS mg) E) st B:=by
 obtain⟨x,v1,h⟩:=bq h;obtain⟨⟨l,O,Q⟩,v2,h⟩:=bq h;obtain⟨Z,R,h⟩:=bq h;split at h
 rotate_left
 .cases h
 rename_i F;cases h;simp only[Bool.and_eq_true,Bool.not_eq_true',beq_iff_eq]at F;obtain⟨⟨S,U⟩,V⟩:=F;subst S;obtain⟨p0,rfl⟩:=ra v1;obtain⟨p1,p2,rfl⟩:=o9 v2;obtain⟨X,d⟩:=bt (λe m q=>er 60 _ _ N e m G q) R
 exact sS D H (G.gl U) t t (X _) I n o (aY (d O (by simp))) (bz λz Y=>d z (by simp[Y])) V
end
section
variable{Ω au:aA}{ρ:aK}{e q j:Nat}{kvs:List (Key×D)}{E:i_}{P P':Nat->Prop}{n:Str}{r:List Str}{fp:List Nat}{ord:List Str}{L:Str->List Str}
theorem Ak{rs:List (List Str)}{a:List lQ}(h:jJ rs a):a.length<=tot rs:=by
 obtain⟨n,R,c,_,b⟩:=h.ex;rw[←c]at b
 have:=il b (λx d=>by
  obtain⟨s,f,rfl⟩:=List.mem_map.mp d;obtain⟨u,t,e,_⟩:=h.D6 s f;exact List.mem_flatten.mpr ⟨_,List.mem_of_getElem? e,by simp⟩)
 rw[List.length_map,List.length_flatten]at this;exact this
theorem Al{h:SM}{g a:Str}{j:D->SM}{b:Bool}{i:Nat}{d:D}{c e:aA}{f:aK}(k:h ρ Ω=.exc (fR g a d) c)(l:j d (my b i ρ) c=.nx f e):iZ h g a j b i ρ Ω=.nx (my b i f) e:=by
 unfold iZ;rw[k];dsimp only;rw[show D_ g _ _=some d by unfold D_ fR;simp]
 grind
def Ee(a b:aX):EM:=(m2 kX (mN cD (ae (aa 4) aj)) (mN a (ae (mN (aS b) (ae (aa 2) (ae (m2 aM (aa 0) (aa 4)) aj))) aj)))
def Gp(a b:aX):SM:=(ak (eU Jw
 (ak (iZ (cC (aa 2) (aa 4) (Ee a b)) "Ring" "steps" (putD 3 4) true 5)
 aq)
 aq)
 aq)
theorem JM{a b:Nat}{xs ys:List D}(h:Ω[a]?=some (.lst xs))(c:Ω[b]?=some (.lst ys))(d:xs.length+ys.length<=10000):kX (.ref a) (.ref b) Ω=.ok (.ref Ω.length) (Ω++[.lst (xs++ys)]):=by
 rw[uw,ay h,ay c,uv,if_pos (aI (by omega))]
theorem Am{y z:aX}(hM:oP y)(hB:oV z){l:Nat}{f:List (Key×D)}{g:List Str}{a1 a3 a5:Option D}{o:List Str}(he:Ω[e]?=some (.dF kvs))(hr:aL P Ω kvs E)(I:Ω[l]?=some (.dK f))(m:aL P' Ω f (b9 g L))(hn:n∈nms E)(J:n∉g)
  (h:∀x∈aU E n,x∈g) (K:Mg ((aU E n).map L++[aU E n]) o) (hL:L n=n::o) (A:(aU E n).length<=100) (a0:g.length<=100) (ho:o.length<=900) (M:∀j,Ω.length<=j->P' j) :
  ∃s au,Gp y z [oR e,a1,oR l,a3,oS n,a5] Ω=.nx [oR e,a1,oR l,a3,oS n,a5] au/\au[l]?=some (.dK s)/\aL P' au s (b9 (g++[n]) L)/\ag [l] Ω au:=by
 obtain⟨a,hv,_,t⟩:=hr.at hn;have N:=eZ (n:=n) (.inr he) hv
 obtain⟨c,H,K1⟩:=oQ (ρ:=[oR e,a1,oR l,a3,oS n,a5]) (me:=m2 (aQ .In) (aa 0) (aa 1)) (mi:=bg (m2 aM (aa 0) (aa 4))) (cap:=[2]) (p:=λx=>true) t (by
  rw[cg]
  show(aM (.ref e) (.str n) Ω).bind _=_
  rw[N,bU];exact aV (by rw[aF,ay t])) (λx O=>by
  show aQ .In (.str x) (.ref l) Ω=_
  rw[v_ (.inl I),m.is,bJ,decide_eq_true (h x O)]) (by omega)
 have H:Jw [oR e,a1,oR l,a3,oS n,a5] Ω=.ok (.bl true) c:=by
  have:((aU E n).all λ_=>true)=true:=by simp
  rw[this]at H;exact H
 have g2:(c++[Cell.lst [.str n]])[c.length]?=some (.lst [.str n]):=az;have w:ag [] Ω (c++[Cell.lst [.str n]]):=K1.trans ag.app
 have e0:(mN cD (ae (aa 4) aj)) [oR e,a1,oR l,a3,oS n,a5] c=.ok (.ref c.length) (c++[Cell.lst [.str n]]):=by
  show cD [.str n] c=_
  rw[oM,if_pos (aI (by simp))]
 generalize c++[Cell.lst [.str n]]=Q at *;have R:=w.get _ _ I (by simp)
 have B:=m.keep w (by simp)
 have S:=w.get _ _ t (by simp)
 have b0:=eZ (n:=n) (.inr (w.get _ _ he (by simp))) hv
 obtain⟨js,k,T,e3,R3,U,h3,_,_⟩:=hB Q l a f _ _ _ (.inl R) B S (by rw[bJ];exact h) A
 have C:(aU E n).map (aU (b9 g L))=(aU E n).map L:=List.map_congr_left λx O=>dE (h x O)
 rw[C]at R3;obtain⟨q,b,e4,V,lq,X⟩:=hM T k js _ o R3 K (by simp;omega) ho
 have c0:=JM (X.get _ _ (U.get _ _ g2 (by simp)) (by simp)) V (by simp;omega)
 have Y:ag [] Ω (b++[Cell.lst ([.str n]++o.map .str)]):=((w.trans U).trans X).trans ag.app;have g5:(b++[Cell.lst ([.str n]++o.map .str)])[b.length]?=some (.lst ((L n).map .str)):=by rw[hL];exact az
 have l4:Ω.length<=b.length:=((w.trans U).trans X).len
 have e5:Ee y z [oR e,a1,oR l,a3,oS n,a5] c=.ok (.ref b.length) (b++[Cell.lst ([.str n]++o.map .str)]):=by
  unfold Ee
  simp_all
 generalize b++[Cell.lst ([.str n]++o.map .str)]=i at *;have u:=Y.get _ _ I (by simp)
 have F:=m.keep Y (by simp)
 have G:=m.len;have Z:f.length<=1000:=by rw[←G];simp[b9];omega
 have f0:=jw (n:=n) (d:=.ref b.length) u Z;have K6:ag [l] i (i.set l (.dK (cK f (.inr n) (.ref b.length)))):=ag.set (by simp)
 refine⟨cK f (.inr n) (.ref b.length),i.set l (.dK (cK f (.inr n) (.ref b.length))),?_,aZ u,?_,(ek.up Y).trans K6⟩
 .unfold Gp
  rw[ah,gz,H,gO,ki,iR,c_,if_pos rfl,ah]
  have:cC (aa 2) (aa 4) (Ee y z) [oR e,a1,oR l,a3,oS n,a5] c=.nx [oR e,a1,oR l,a3,oS n,a5] (i.set l (.dK (cK f (.inr n) (.ref b.length)))):=by
   unfold cC
   simp_all
  have t2:iZ (cC (aa 2) (aa 4) (Ee y z)) "Ring" "steps" (putD 3 4) true 5 [oR e,a1,oR l,a3,oS n,a5] c=.nx [oR e,a1,oR l,a3,oS n,a5] (i.set l (.dK (cK f (.inr n) (.ref b.length)))):=by
   unfold iZ;rw[this]
  rw[t2];rfl
 .have:=F.put (n:=n) (r:=L n) (by rw[bJ];exact J) (M _ l4) g5
  have h6:=this.dC K6 (λj hj ds=>by rw[List.mem_singleton.mp hj,u];simp)
  have:b9 g L++[(n,L n)]=b9 (g++[n]) L:=by simp[b9]
  rw[this]at h6;exact h6
theorem Gq{z A:aX}(hM:z_ z)(hB:oV A){l t:Nat}{o h:List (Key×D)}{j:List Str}{a1 a5:Option D}(T:Ω[e]?=some (.dF kvs))(hr:aL P Ω kvs E)(U:Ω[l]?=some (.dK o))(F:Ω[t]?=some (.dK h))(a0:h.length<=100)(s:aL P' Ω o (b9 j L))(hn:n∈nms E)
  (g:∀x∈aU E n,x∈j) (hS:Sk ((aU E n).map L++[aU E n])) (m:tot ((aU E n).map L++[aU E n])<=900) (u:(aU E n).length<=100) (V:j.length<=100) :
  ∃(p:Nat) (B:List lQ) (au:aA),Gp z A [oR e,a1,oR l,oR t,oS n,a5] Ω=.nx [oR e,a1,oR l,oR t,oS n,none] au/\au[t]?=some (.dK (cK h (.inr n) (.ref p)))/\au[p]?=some (.lst (B.map b_))/\Ω.length<=p/\B.length<=900/\ag [t] Ω au:=by
 obtain⟨a,X,_,q⟩:=hr.at hn;have G:=eZ (n:=n) (.inr T) X
 obtain⟨c,C,K1⟩:=oQ (ρ:=[oR e,a1,oR l,oR t,oS n,a5]) (me:=m2 (aQ .In) (aa 0) (aa 1)) (mi:=bg (m2 aM (aa 0) (aa 4))) (cap:=[2]) q (by
  rw[cg]
  show(aM (.ref e) (.str n) Ω).bind _=_
  rw[G,bU];exact aV (by rw[aF,ay q])) (λx H=>by
  show aQ .In (.str x) (.ref l) Ω=_
  rw[v_ (.inl U),s.is,bJ,decide_eq_true (g x H)]) (by omega)
 have C:Jw [oR e,a1,oR l,oR t,oS n,a5] Ω=.ok (.bl true) c:=by
  have:((aU E n).all λ_=>true)=true:=by simp
  rw[this]at C;exact C
 have r:ag [] Ω (c++[Cell.lst [.str n]]):=K1.trans ag.app
 have b0:(mN cD (ae (aa 4) aj)) [oR e,a1,oR l,oR t,oS n,a5] c=.ok (.ref c.length) (c++[Cell.lst [.str n]]):=by
  rfl
 generalize c++[Cell.lst [.str n]]=I at *;have J:=r.get _ _ U (by simp)
 have w:=s.keep r (by simp)
 have K:=r.get _ _ q (by simp)
 have Y:=eZ (n:=n) (.inr (r.get _ _ T (by simp))) X
 obtain⟨js,k,M,e3,Z,K3,h3,_,_⟩:=hB I l a o _ _ _ (.inl J) w K (by rw[bJ];exact g) u
 have y:(aU E n).map (aU (b9 j L))=(aU E n).map L:=List.map_congr_left λx H=>dE (g x H)
 rw[y]at Z;obtain⟨B,p,f,e4,N,O,lp,K4⟩:=hM M k js _ Z hS (by simp;omega) m
 have Q:ag [] Ω f:=(r.trans K3).trans K4
 have e5:Ee z A [oR e,a1,oR l,oR t,oS n,a5] c=.exc (fR "Ring" "steps" (.ref p)) f:=by
  unfold Ee
  simp_all
 have R:=jw (n:=n) (d:=.ref p) (Q.get _ _ F (by simp)) (by omega)
 have t1:cC (aa 2) (aa 4) (Ee z A) [oR e,a1,oR l,oR t,oS n,a5] c=.exc (fR "Ring" "steps" (.ref p)) f:=by
  unfold cC;rw[e5];rfl
 have t2:putD 3 4 (.ref p) [oR e,a1,oR l,oR t,oS n,none] f=.nx [oR e,a1,oR l,oR t,oS n,none] (f.set t (.dK (cK h (.inr n) (.ref p)))):=by
  show(match jG (.ref t) (.str n) (.ref p) f with|some au=>fB.nx _ au|none=>.bad)=_
  rw[R]
 have S:Ω.length<=p:=Nat.le_trans (r.trans K3).len lp;have lt:=bp F;refine⟨p,B,_,?_,aZ (Q.get _ _ F (by simp)),lJ N (by omega),S,Nat.le_trans (Ak O) m,(ek.up Q).trans (ag.set (by simp))⟩
 unfold Gp;rw[ah,gz,C,gO,ki,iR,c_,if_pos rfl,ah]
 have t3:=by
  exact Al (b:=true) (i:=5) t1 t2
 rw[t3];rfl
end
section
variable{Ω au:aA}{ρ:aK}{e q j:Nat}{kvs:List (Key×D)}{E:i_}{P P':Nat->Prop}{n:Str}{r:List Str}{fp:List Nat}{ord:List Str}{L:Str->List Str}
def Dl(ms:List EM):SM:=(ak (eU (m2 (aQ .In) (aa 4) (aa 3))
 (ak (e8 "Tangled" 2 ms (ae (aa 4) (ae (m2 aM (aa 3) (aa 4)) aj)))
 aq)
 aq)
 aq)
def Gr(ms:List EM)(a b c d:aX):SM:=
 (ak (aE 1 (mN (aS a) (ae (aa 0) aj)))
 (ak (eU (m2 (aQ .IsNot) (aa 1) (ai .non))
 (ak dw
 aq)
 aq)
 (ak (aE 2 cU)
 (ak (aE 3 cU)
 (ak (dM (bN 4) (bg (mN (aS b) (ae (aa 0) aj)))
 (Gp c d))
 (ak (dM (bN 4) (bg (aa 0))
 (Dl ms))
 (ak (cf LQ)
 aq)))))))
theorem Gs{ms:List EM}{LO EF MG RB:aX}(hO:wa LO)(hE:sI EF)(hM:oP MG)(hB:oV RB):zK (bA 6 1 (Gr ms LO EF MG RB)):=by
 intro Ω e Z E P L hd hr G hL q0;rw[cp (by rfl)]
 have e0:bu 6 [D.ref e]=[oR e,none,none,none,none,none]:=rfl;rw[e0];have P0:=G.few;have r0:(nms E).length=E.length:=by simp[nms]
 obtain⟨a,e1,K1,s0⟩:=hO Ω e Z E P hd hr G;have t0:=hr.dC K1 (λj J ds=>by rw[List.mem_singleton.mp J];exact hd.nl ds)
 have le:=hd.lt;have K2:ag [] a (a++[Cell.dK []]):=ag.app;have g2:(a++[Cell.dK []])[a.length]?=some (.dK []):=az;have l2:(a++[Cell.dK []]).length=a.length+1:=by simp
 have r2:aE 2 cU [oR e,some .non,none,none,none,none] a=.nx [oR e,some .non,oR a.length,none,none,none] (a++[Cell.dK []]):=rfl;generalize a++[Cell.dK []]=g at *;have K3:ag [] g (g++[Cell.dK []]):=ag.app;have g3:(g++[Cell.dK []])[g.length]?=some (.dK []):=az;have l3:(g++[Cell.dK []]).length=g.length+1:=by simp
 have r3:aE 3 cU [oR e,some .non,oR a.length,none,none,none] g=.nx [oR e,some .non,oR a.length,oR g.length,none,none] (g++[Cell.dK []]):=rfl;generalize g++[Cell.dK []]=C at *;have y:=K2.trans K3;have M:=y.get _ _ s0 (by simp)
 have a0:=t0.keep y (by simp)
 have u0:=K3.get _ _ g2 (by simp)
 obtain⟨u,z,m,e4,b0,F,I,X,N,lz⟩:=hE C e Z E P (.inr M) a0 G;have O:a.length≠e:=by have:=K1.len;omega
 have c0:g.length≠e:=by have:=K1.len;omega
 have f0:=X.get _ _ u0 (by simpa using O)
 have v0:=X.get _ _ g3 (by simpa using c0)
 have w0:=a0.dC X (λj J ds=>by rw[List.mem_singleton.mp J,M];simp)
 have Q0:u.length<=E.length:=by
  have:=il F.nd F.sub;omega
 have L0:=X.len;have M0:=K1.len
 have x0:ag [] C m:=⟨X.len,λk c Y _=>by
  by_cases h:k=e
  .subst h;rw[M]at Y;cases Y;exact N
  .exact X.get k c Y (by simpa using h)⟩
 have g0:bg (mN (aS EF) (ae (aa 0) aj)) [oR e,some .non,oR a.length,oR g.length,none,none] C=.ok (.seq (.ref z)) m:=by
  rw[cg];have:(mN (aS EF) (ae (aa 0) aj)) [oR e,some .non,oR a.length,oR g.length,none,none] C=.ok (.ref z) m:=by simp[e4]
  rw[this,bU];exact aV (by rw[aF,ay b0])
 have h0:∃l w b,eh (bN 4) (.seq (.ref z)) (Gp MG RB) fuel 0 [oR e,some .non,oR a.length,oR g.length,none,none] m=.nx [oR e,some .non,oR a.length,oR g.length,w,none] b/\b[a.length]?=some (.dK l)/\aL (λj=>m.length<=j) b l (b9 u L)/\ag [a.length] m b:=by
  have y0:∀A,ag [a.length] m A->A[z]?=some (.lst (u.map .str)):=λA K=>K.get _ _ b0 (by simp;omega)
  refine bo (R:=λr=>∃l w b,r=.nx [oR e,some .non,oR a.length,oR g.length,w,none] b/\b[a.length]?=some (.dK l)/\aL (λj=>m.length<=j) b l (b9 u L)/\ag [a.length] m b) (ds:=u.map .str)
   (λi ρ b=>∃l w,ρ=[oR e,some .non,oR a.length,oR g.length,w,none]/\b[a.length]?=some (.dK l)/\aL (λj=>m.length<=j) b l (b9 (u.take i) L)/\ag [a.length] m b) ?_ ?_ ?_ fuel 0 _ _ (by unfold fuel;simp;omega) (Nat.zero_le _) ⟨[],none,rfl,f0,.nil,ag.refl⟩
  .rintro i ρ b ⟨_,_,_,_,_,K⟩
   rw[bY,aF,ay (y0 _ K)]
  .rintro i d ρ b Q ⟨l,w,rfl,B,S,K⟩
   obtain⟨n,x,rfl⟩:=dg Q;refine⟨[oR e,some .non,oR a.length,oR g.length,oS n,none],rfl,?_⟩;have H:=F.sub n (List.mem_of_getElem? x);obtain⟨o,z0,i0⟩:=hL n H;have ho:o.length<=900:=by have:=q0 n H;rw[i0]at this;simp at this;omega
   have s:=K.get _ _ N (by simpa using Ne.symm O)
   have T:=w0.dC K (λj J ds=>by rw[List.mem_singleton.mp J,f0];simp)
   have A0:n∉u.take i:=by
    intro hm;obtain⟨i',U⟩:=List.mem_iff_getElem?.mp hm;have C0:=(List.getElem?_eq_some_iff.mp U).1;rw[List.length_take]at C0;rw[List.getElem?_take_of_lt (by omega)]at U
    have:=(List.getElem?_inj (by omega) F.nd).mp (U.trans x.symm)
    omega
   obtain⟨j0,t,e6,h6,h7,K6⟩:=Am (P':=λj=>m.length<=j) hM hB (n:=n) (a1:=some .non) (a3:=oR g.length) (a5:=none) s T B S H A0 (F.pre i n x) z0 i0 (G.short n H) (by rw[List.length_take];omega) ho (λj J=>Nat.le_trans K.len J)
   rw[e6];refine⟨j0,oS n,rfl,h6,?_,K.trans K6⟩;rw[List.take_succ,x];exact h7
  .rintro ρ b ⟨l,w,rfl,B,S,K⟩
   rw[List.length_map,List.take_length]at S;exact⟨l,w,b,rfl,B,S,K⟩
 obtain⟨l,w,b,e5,h5,T,K5⟩:=h0;have s:=K5.get _ _ N (by simpa using Ne.symm O)
 have D0:=K5.get _ _ v0 (by simp;omega)
 have l0:bg (aa 0) [oR e,some .non,oR a.length,oR g.length,w,none] b=.ok (.keys e) b:=by
  rw[cg]
  show srcOf b (.ref e)=_
  rw[lN (.inr s),set_same s]
 have V:∃p,eh (bN 4) (.keys e) (Dl ms) fuel 0 [oR e,some .non,oR a.length,oR g.length,w,none] b=.nx [oR e,some .non,oR a.length,oR g.length,p,none] b:=by
  refine bo (R:=λr=>∃p,r=.nx [oR e,some .non,oR a.length,oR g.length,p,none] b) (ds:=(nms E).map .str)
   (λi ρ t=>t=b/\∃p,ρ=[oR e,some .non,oR a.length,oR g.length,p,none]) ?_ ?_ ?_ fuel 0 _ _ (by unfold fuel;simp;omega) (Nat.zero_le _) ⟨rfl,w,rfl⟩
  .rintro i ρ t ⟨rfl,_⟩
   rw[ik s,hr.keys]
  .rintro i d ρ t Q ⟨rfl,p,rfl⟩
   obtain⟨n,x,rfl⟩:=dg Q;refine⟨[oR e,some .non,oR a.length,oR g.length,oS n,none],rfl,?_⟩;have G0:=v_ (n:=n) (.inl D0)
   have:Dl ms [oR e,some .non,oR a.length,oR g.length,oS n,none] t=.nx [oR e,some .non,oR a.length,oR g.length,oS n,none] t:=by
    unfold Dl;rw[ah,gz]
    show sq (cw (dj (aQ .In (.str n) (.ref g.length) t)) _) _=_
    rw[G0];rfl
   rw[this];exact⟨rfl,_,rfl⟩
  .rintro ρ t ⟨rfl,p,rfl⟩
   exact⟨p,rfl⟩
 obtain⟨p,e6⟩:=V
 have m0:∀n∈nms E,∃j,(bQ l (.inr n)).getD .non=.ref j/\m.length<=j/\b[j]?=some (.lst ((L n).map .str))/\bQ l (.inr n)=oR j:=λn x=>by
  obtain⟨j,B,S,h3⟩:=T.at (n:=n) (by rw[bJ];exact I n x)
  rw[dE (I n x)]at h3;exact⟨j,by rw[B];rfl,S,h3,B⟩
 have n0:bg (aa 0) [oR e,some .non,oR a.length,oR g.length,p,none] b=.ok (.keys e) b:=by
  rw[cg]
  show srcOf b (.ref e)=_
  rw[lN (.inr s),set_same s]
 obtain⟨q,o0,e7,g7,K7,lq⟩:=lP (ρ:=[oR e,some .non,oR a.length,oR g.length,p,none]) (me:=mN f7 (ae (aa 0) (ae (m2 aM (aa 1) (aa 0)) aj))) (cap:=[2]) (ns:=nms E) (f:=λn=>(bQ l (.inr n)).getD .non) n0 (by rw[ik s,hr.keys]) (λn x=>by
  obtain⟨j,B,_,_,h4⟩:=m0 n x;have I0:=eZ (n:=n) (.inl h5) h4
  show(((aM (.ref a.length) (.str n) b).bind _).bind _).bind _=_
  rw[I0]
  show f7 [.str n,.ref j] b=_
  rw[ux,if_pos (aI (by simp)),B]) (by omega) G.nd
 have p0:ag [] a b:=⟨by have:=y.len;have:=K5.len;omega,λk c Y _=>K5.get k c (x0.get k c (y.get k c Y (by simp)) (by simp)) (by have:=bp Y;simp;omega)⟩
 refine⟨q,_,o0,?_,g7,?_,K1.trans (ek.up (p0.trans K7)),K7.get _ _ s (by simp),by have:=p0.len;omega⟩
 .unfold Gr
  have r1:(aE 1 (mN (aS LO) (ae (aa 0) aj))) [oR e,none,none,none,none,none] Ω=.nx [oR e,some .non,none,none,none,none] a:=by simp[e1]
  have J0:(eU (m2 (aQ .IsNot) (aa 1) (ai .non)) (ak dw aq) aq) [oR e,some .non,none,none,none,none] a=.nx [oR e,some .non,none,none,none,none] a:=by simp
  rw[ah,r1,aJ,ah,J0,aJ,ah,r2,aJ,ah,r3,aJ,ah,bZ,g0,c_,e5,aJ,ah,bZ,l0,c_,e6,aJ,ah,iT];have K0:LQ [oR e,some .non,oR a.length,oR g.length,p,none] b=.ok (.ref q) o0:=e7;rw[K0];rfl
 .refine qW λn x=>?_
  obtain⟨j,B,S,h3,_⟩:=m0 n x;exact⟨j,B,by have:=y.len;omega,K7.get _ _ h3 (by simp)⟩
end
section
variable{Ω au:aA}{ρ:aK}{e q j:Nat}{kvs:List (Key×D)}{E:i_}{P P':Nat->Prop}{n:Str}{r:List Str}{fp:List Nat}{ord:List Str}{L:Str->List Str}
def Dm(ms:List EM):Prop:=∀(b:aA) (n:Str) (p:Nat) (c:List lQ),b[p]?=some (.lst (c.map b_))->c.length<=900->∃a,gE "Tangled" ms [none,some (.str n),some (.ref p)] b=.exc (eM "Tangled") a/\ag [] b a
noncomputable def but(n0:Str)(xs:List Str):List Str:=xs.filter λx=>!decide (x=n0)
theorem uT{n0:Str}{xs:List Str}{x:Str}:x∈but n0 xs↔x∈xs/\x≠n0:=by unfold but;simp_all
theorem rg{n0:Str}{xs:List Str}{x:Str}:but n0 (xs++[x])=if x=n0 then but n0 xs else but n0 xs++[x]:=by
 unfold but
 by_cases h:x=n0<;>simp[h]
theorem Dp{n0:Str}{xs:List Str}:(but n0 xs).length<=xs.length:=List.length_filter_le _ _
theorem JN{ms:List EM}{LO EF MG RB:aX}(hO:wa LO)(hE:sI EF)(hM:oP MG)(hX:z_ MG)(hB:oV RB)(hU:Dm ms){n0:Str}(hd:eD Ω e kvs)(hr:aL P Ω kvs E)(G:Gd E)(h0:n0∈nms E)(y0:∀n∈nms E,n0∉aU E n)(hL:∀n∈nms E,n≠n0->∃o,Mg ((aU E n).map L++[aU E n]) o/\L n=n::o)(z0:∀n∈nms E,n≠n0->(L n).length<=900)
  (hS:Sk ((aU E n0).map L++[aU E n0])) (g0:tot ((aU E n0).map L++[aU E n0])<=900) :
  ∃au,bA 6 1 (Gr ms LO EF MG RB) [.ref e] Ω=.exc (eM "Tangled") au/\ag [e] Ω au/\au[e]?=some (.dF kvs):=by
 rw[cp (by rfl)]
 have e0:bu 6 [D.ref e]=[oR e,none,none,none,none,none]:=rfl;rw[e0];have b1:=G.few;have A0:(nms E).length=E.length:=by simp[nms]
 obtain⟨b,e1,K1,C0⟩:=hO Ω e kvs E P hd hr G;have D0:=hr.dC K1 (λj J ds=>by rw[List.mem_singleton.mp J];exact hd.nl ds)
 have le:=hd.lt;have K2:ag [] b (b++[Cell.dK []]):=ag.app;have g2:(b++[Cell.dK []])[b.length]?=some (.dK []):=az;have l2:(b++[Cell.dK []]).length=b.length+1:=by simp
 have r2:aE 2 cU [oR e,some .non,none,none,none,none] b=.nx [oR e,some .non,oR b.length,none,none,none] (b++[Cell.dK []]):=rfl;generalize b++[Cell.dK []]=a at *;have K3:ag [] a (a++[Cell.dK []]):=ag.app;have g3:(a++[Cell.dK []])[a.length]?=some (.dK []):=az;have l3:(a++[Cell.dK []]).length=a.length+1:=by simp
 have r3:aE 3 cU [oR e,some .non,oR b.length,none,none,none] a=.nx [oR e,some .non,oR b.length,oR a.length,none,none] (a++[Cell.dK []]):=rfl;generalize a++[Cell.dK []]=T at *;have M:=K2.trans K3;have U:=M.get _ _ C0 (by simp)
 have i0:=D0.keep M (by simp)
 have G0:=K3.get _ _ g2 (by simp)
 obtain⟨l,z,m,e4,j0,F,l0,K4,V,lz⟩:=hE T e kvs E P (.inr U) i0 G;have X0:=K1.len;have I0:b.length≠e:=by omega
 have m0:a.length≠e:=by omega
 have X:b.length≠a.length:=by omega
 have Y:=K4.get _ _ G0 (by simpa using I0)
 have o0:=K4.get _ _ g3 (by simpa using m0)
 have J0:=i0.dC K4 (λj J ds=>by rw[List.mem_singleton.mp J,U];simp)
 have c1:l.length<=E.length:=by
  have:=il F.nd F.sub;omega
 have Y0:=K4.len
 have p0:bg (mN (aS EF) (ae (aa 0) aj)) [oR e,some .non,oR b.length,oR a.length,none,none] T=.ok (.seq (.ref z)) m:=by
  rw[cg];have:(mN (aS EF) (ae (aa 0) aj)) [oR e,some .non,oR b.length,oR a.length,none,none] T=.ok (.ref z) m:=by simp[e4]
  rw[this,bU];exact aV (by rw[aF,ay j0])
 let TT:aA->List Str->Prop:=λf K0=>(n0∉K0/\f[a.length]?=some (.dK []))\/∃(p:Nat) (B:List lQ),f[a.length]?=some (.dK [(.inr n0,.ref p)])/\f[p]?=some (.lst (B.map b_))/\B.length<=900/\m.length<=p
 have q0:∃A f,eh (bN 4) (.seq (.ref z)) (Gp MG RB) fuel 0 [oR e,some .non,oR b.length,oR a.length,none,none] m=.nx [oR e,some .non,oR b.length,oR a.length,A,none] f/\TT f l/\ag [b.length,a.length] m f:=by
  have L0:∀C,ag [b.length,a.length] m C->C[z]?=some (.lst (l.map .str)):=λC K=>K.get _ _ j0 (by simp;omega)
  refine bo (R:=λr=>∃A f,r=.nx [oR e,some .non,oR b.length,oR a.length,A,none] f/\TT f l/\ag [b.length,a.length] m f) (ds:=l.map .str)
   (λi N f=>∃H A,N=[oR e,some .non,oR b.length,oR a.length,A,none]/\f[b.length]?=some (.dK H)/\aL (λj=>m.length<=j) f H (b9 (but n0 (l.take i)) L)/\TT f (l.take i)/\ag [b.length,a.length] m f) ?_ ?_ ?_ fuel 0 _ _ (by unfold fuel;simp;omega) (Nat.zero_le _) ⟨[],none,rfl,Y,.nil,.inl ⟨by simp,o0⟩,ag.refl⟩
  .rintro i N f ⟨_,_,_,_,_,_,K⟩
   rw[bY,aF,ay (L0 _ K)]
  .rintro i d N f Z ⟨H,A,rfl,h1,h2,Q,K⟩
   obtain⟨n,hn,rfl⟩:=dg Z;refine⟨[oR e,some .non,oR b.length,oR a.length,oS n,none],rfl,?_⟩;have t:=F.sub n (List.mem_of_getElem? hn);have u:=K.get _ _ V (by simp;omega)
   have r0:=J0.dC K (λj J ds=>by
    simp only[List.mem_cons,List.not_mem_nil,or_false]at J;rcases J with rfl|rfl
    .rw[Y];simp
    .rw[o0];simp)
   have w:n∉l.take i:=by
    intro hm;obtain⟨i',a0⟩:=List.mem_iff_getElem?.mp hm;have M0:=(List.getElem?_eq_some_iff.mp a0).1;rw[List.length_take]at M0;rw[List.getElem?_take_of_lt (by omega)]at a0
    have:=(List.getElem?_inj (by omega) F.nd).mp (a0.trans hn.symm)
    omega
   have S:∀x∈aU E n,x∈but n0 (l.take i):=λx hx=>uT.mpr ⟨F.pre i n hn x hx,λz=>y0 n t (z▸hx)⟩
   have s0:(but n0 (l.take i)).length<=100:=by have:=Dp (n0:=n0) (xs:=l.take i);rw[List.length_take]at this;omega
   have tk:l.take (i+1)=l.take i++[n]:=by rw[List.take_succ,hn];rfl
   by_cases s:n=n0
   .subst s
    have P0:f[a.length]?=some (.dK [])\/∃p,f[a.length]?=some (.dK [(.inr n,.ref p)]):=by
     rcases Q with ⟨_,h⟩|⟨p,_,h,_⟩
     .exact .inl h
     .exact .inr ⟨p,h⟩
    obtain⟨O,t0,Q0,u0⟩:∃O:List (Key×D),f[a.length]?=some (.dK O)/\O.length<=100/\∀p:Nat,cK O (.inr n) (.ref p)=[(.inr n,.ref p)]:=by
     rcases P0 with h|⟨p,h⟩
     .exact⟨[],h,by simp,λp=>rfl⟩
     .exact⟨_,h,by simp,λp'=>by simp[cK]⟩
    obtain⟨p,B,q,e6,h6,h7,lp,l9,I⟩:=Gq (P':=λj=>m.length<=j) hX hB (n:=n) (a1:=some .non) (a5:=none) u r0 h1 t0 Q0 h2 t S hS g0 (G.short n t) s0
    rw[e6];rw[u0]at h6;have b0:ag [b.length,a.length] f q:=I.sub (by simp)
    refine⟨H,oS n,rfl,I.get _ _ h1 (by simpa using X),?_,.inr ⟨p,B,h6,h7,l9,Nat.le_trans K.len lp⟩,K.trans b0⟩
    rw[tk,rg,if_pos rfl];exact h2.dC I (λj J ds=>by rw[List.mem_singleton.mp J,t0];simp)
   .obtain⟨o,R0,v0⟩:=hL n t s
    have ho:o.length<=900:=by have:=z0 n t s;rw[v0]at this;simp at this;omega
    obtain⟨w0,q,e6,h6,h7,I⟩:=Am (P':=λj=>m.length<=j) hM hB (n:=n) (a1:=some .non) (a3:=oR a.length) (a5:=none) u r0 h1 h2 t (λz=>w (uT.mp z).1) S R0 v0 (G.short n t) s0 ho (λj J=>Nat.le_trans K.len J)
    rw[e6];have b0:ag [b.length,a.length] f q:=I.sub (by simp)
    refine⟨w0,oS n,rfl,h6,by rw[tk,rg,if_neg s];exact h7,?_,K.trans b0⟩
    rcases Q with ⟨h,h'⟩|⟨p,B,h,h',l9,lp⟩
    .exact .inl ⟨by rw[tk];simp[h,Ne.symm s],I.get _ _ h' (by simpa using Ne.symm X)⟩
    .exact .inr ⟨p,B,I.get _ _ h (by simpa using Ne.symm X),I.get _ _ h' (by have:=bp Y;simp;omega),l9,lp⟩
  .rintro N f ⟨H,A,rfl,h1,h2,Q,K⟩
   rw[List.length_map,List.take_length]at Q;exact⟨A,f,rfl,Q,K⟩
 obtain⟨A,f,e5,S0,K5⟩:=q0
 obtain⟨p,B,Q,hp,l9,lp⟩:∃(p:Nat) (B:List lQ),f[a.length]?=some (.dK [(.inr n0,.ref p)])/\f[p]?=some (.lst (B.map b_))/\B.length<=900/\m.length<=p:=by
  rcases S0 with ⟨h,_⟩|h
  .exact absurd (l0 n0 h0) h
  .exact h
 have u:=K5.get _ _ V (by simp;omega)
 have x0:bg (aa 0) [oR e,some .non,oR b.length,oR a.length,A,none] f=.ok (.keys e) f:=by
  rw[cg]
  show srcOf f (.ref e)=_
  rw[lN (.inr u),set_same u]
 obtain⟨q,u6,I⟩:=hU f n0 p B hp l9
 have c0:eh (bN 4) (.keys e) (Dl ms) fuel 0 [oR e,some .non,oR b.length,oR a.length,A,none] f=.exc (eM "Tangled") q:=by
  refine bo (R:=λr=>r=.exc (eM "Tangled") q) (ds:=(nms E).map .str)
   (λi N g=>g=f/\n0∉(nms E).take i/\∃f0,N=[oR e,some .non,oR b.length,oR a.length,f0,none]) ?_ ?_ ?_ fuel 0 _ _ (by unfold fuel;simp;omega) (Nat.zero_le _) ⟨rfl,by simp,A,rfl⟩
  .rintro i N g ⟨rfl,_⟩
   rw[ik u,hr.keys]
  .rintro i d N g Z ⟨rfl,w,f0,rfl⟩
   obtain⟨n,hn,rfl⟩:=dg Z;refine⟨[oR e,some .non,oR b.length,oR a.length,oS n,none],rfl,?_⟩;have y:=v_ (n:=n) (.inl Q)
   by_cases s:n=n0
   .subst s
    have T0:=eZ (n:=n) (d:=.ref p) (.inl Q) (by simp[bQ])
    have y:aQ .In (.str n) (.ref a.length) g=.ok (.bl true) g:=by rw[y];simp[bQ]
    have:Dl ms [oR e,some .non,oR b.length,oR a.length,oS n,none] g=.exc (eM "Tangled") q:=by
     unfold Dl
     have q1:eU (m2 (aQ .In) (aa 4) (aa 3)) (ak (e8 "Tangled" 2 ms (ae (aa 4) (ae (m2 aM (aa 3) (aa 4)) aj))) aq) aq [oR e,some .non,oR b.length,oR a.length,oS n,none] g=.exc (eM "Tangled") q:=by
      rw[gz]
      show cw (dj (aQ .In (.str n) (.ref a.length) g)) _=_
      rw[y]
      show(ak (e8 "Tangled" 2 ms (ae (aa 4) (ae (m2 aM (aa 3) (aa 4)) aj))) aq) [oR e,some .non,oR b.length,oR a.length,oS n,none] g=_
      have q2:e8 "Tangled" 2 ms (ae (aa 4) (ae (m2 aM (aa 3) (aa 4)) aj)) [oR e,some .non,oR b.length,oR a.length,oS n,none] g=.exc (eM "Tangled") q:=by
       have q3:(ae (aa 4) (ae (m2 aM (aa 3) (aa 4)) aj):AM) [oR e,some .non,oR b.length,oR a.length,oS n,none] g=.ok [.str n,.ref p] g:=by
        show((((aM (.ref a.length) (.str n) g).bind _).bind _))=_
        rw[T0];rfl
       unfold e8;rw[q3]
       show(if ([D.str n,.ref p]:List D).length=2 then (match gE "Tangled" ms [none,some (.str n),some (.ref p)] g with|.exc x a=>fB.exc x a|_=>.bad)else .bad)=_
       rw[u6];rfl
      rw[ah,q2];rfl
     rw[ah,q1];rfl
    rw[this];exact rfl
   .have y:aQ .In (.str n) (.ref a.length) g=.ok (.bl false) g:=by rw[y];simp[bQ,Ne.symm s]
    have:Dl ms [oR e,some .non,oR b.length,oR a.length,oS n,none] g=.nx [oR e,some .non,oR b.length,oR a.length,oS n,none] g:=by
     unfold Dl;rw[ah,gz]
     show sq (cw (dj (aQ .In (.str n) (.ref a.length) g)) _) _=_
     rw[y];rfl
    rw[this];exact⟨rfl,by rw[List.take_succ,hn];simp[w,Ne.symm s],_,rfl⟩
  .rintro N g ⟨rfl,w,f0,rfl⟩
   rw[List.length_map,List.take_length]at w;exact absurd h0 w
 refine⟨q,?_,?_,I.get _ _ u (by simp)⟩
 .unfold Gr
  have r1:(aE 1 (mN (aS LO) (ae (aa 0) aj))) [oR e,none,none,none,none,none] Ω=.nx [oR e,some .non,none,none,none,none] b:=by simp[e1]
  have V0:(eU (m2 (aQ .IsNot) (aa 1) (ai .non)) (ak dw aq) aq) [oR e,some .non,none,none,none,none] b=.nx [oR e,some .non,none,none,none,none] b:=by simp
  rw[ah,r1,aJ,ah,V0,aJ,ah,r2,aJ,ah,r3,aJ,ah,bZ,p0,c_,e5,aJ,ah,bZ,x0,c_,c0];rfl
 .have W0:ag [] b f:=⟨by have:=M.len;have:=K5.len;omega,λk c hk _=>by
   have h3:=M.get k c hk (by simp)
   have h4:m[k]?=some c:=by
    by_cases h:k=e
    .subst h;rw[U]at h3;cases h3;exact V
    .exact K4.get k c h3 (by simpa using h)
   exact K5.get k c h4 (by have:=bp hk;simp;omega)⟩
  exact K1.trans (ek.up (W0.trans I))
end
end Mir
namespace L2
open PySem PySem.Spec PyProof.Rows
noncomputable def sT(B:Addr->Prop)[DecidablePred B](H:Hp):Hp:=λb=>if B b then (match H b with|some (.cL _ u)=>some u|x=>x)else H b
noncomputable def Gu:HO->Bool
 |.dK _=>true
 |.dT _=>true
 |_=>false
structure NI(B:Addr->Prop)(H H':Hp):Prop where
 NJ:∀b,B b->∃o u,Gu u=true/\H' b=some (.cL o u)
 was:∀b,B b->∃u,Gu u=true/\H b=some u
section
variable{B:Addr->Prop}[DecidablePred B]{H H':Hp}{b:Addr}{o:Obj}{u:HO}{P:Program}{w:World}{h h':Heap}{fs ex:List Addr}
theorem o_(a:B b)(q:H b=some (.cL o u)):sT B H b=some u:=by unfold sT;grind
theorem bV(a:¬ B b):sT B H b=H b:=by unfold sT;grind
theorem An{x:Option HO}(c:∀b,B b->∃o u,Gu u=true/\H b=some (.cL o u))(q:H b=x)(a:∀o u,x≠some (.cL o u)):sT B H b=x:=by
 rw[bV,q]
 grind
theorem Ao(ok:fE P w H h)(e:H b=some (.cL o u))(d:Gu u=true):∃a ep,o.data=.dict a ep:=by
 cases u with
 |dK c=>
  obtain⟨f,_,_,g,_,i,a,ep,j,_,k,_⟩:=ok _ _ e
  grind
 |dT c=>
  obtain⟨f,_,_,g,_,i,a,ep,j,_,k,_⟩:=ok _ _ e
  grind
 |_=>cases d
theorem fE.Ap(x:fE P w H h)(c:∀b,B b->∃o u,Gu u=true/\H b=some (.cL o u)):fE P w (sT B H) h:=λa i e=>by
 have f:∀b y,H b=some _->sT B H b=some (.own y):=λb y q=>An c q (λ_ _ z=>by cases z)
 have g:∀b j,H b=some _->sT B H b=some (.tup j):=λb y q=>An c q (λ_ _ z=>by cases z)
 by_cases d:B a
 .obtain⟨k,u,_,q⟩:=c a d
  rw[o_ d q]at e;cases e;obtain⟨_,y⟩:=x a _ q;exact cI.stay y (λ_ _ _ z=>z) (λb q=>f b _ q) g
 .rw[bV d]at e
  exact(x a i e).stay (λ_ _ _ z=>z) (λb q=>f b _ q) g
theorem Un.Ap(a:Un fs ex H H' h h')(t:NI B H H'):Un fs ex H (sT B H') h h' where
 keep:=a.keep
 slot:=a.slot
 free:=λb o e n f=>by
  rw[bV,a.free b o e n f];intro c;obtain⟨_,_,z⟩:=t.was b c;grind
 there:=a.there
 tups:=λb g e=>by
  rw[bV,a.tups b g e];intro c;obtain⟨_,d,z⟩:=t.was b c;rw[e]at z;cases z;cases d
 e9:=λb o u e=>by
  rw[bV,a.e9 b o u e];intro c;obtain⟨_,d,z⟩:=t.was b c;rw[e]at z;cases z;cases d
 fF:=λb i e=>by
  rw[bV]
  .exact a.fF b i e
  intro c;obtain⟨_,d,z⟩:=t.was b c;rw[e]at z;cases z;cases d
end
open Classical in
def spT(P:Program)(w:World)(sp:Sp):Sp:=λb H Q E=>sp b H (λv a=>∀h,fE P w a h->∃B:Addr->Prop,NI B H a/\Q v (sT B a)) E
open Classical in
theorem bP.Ap{P:Program}{w:World}{K:PySem.W.Frag}{a:Str->Option Value}{base:Heap}{CX:pB}{k:Nat}{f:Addr}{b:FuncData}{ps:List Str}{sp:Sp}(F:bP P w K a base CX k f b ps sp) :
  bP P w K a base CX k f b ps (spT P w sp):=
 ⟨λc H Q E q=>F.len _ _ _ _ q,λA outer s H args g c Q E h i j l m=>codeAny_mono (F.run A _ s H _ g c _ E h i j l m) λr y z=>by
  cases r with
  |error e=>exact z
  |ok f=>
   cases f with
   |ret u=>
    obtain⟨v,C,n,o,p,d,x,q⟩:=z;obtain⟨B,t,q⟩:=q _ d;exact⟨v,_,n,o,p.Ap t,d.Ap t.NJ,x,q⟩
   |_=>exact z⟩
section
variable{X:Cx}{pins:List (Addr×Obj)}{σ σ':St}{H H':Hp}{s s':Shared}{B:Addr->Prop}[DecidablePred B]
end
end L2
namespace Mir
open PySem PySem.Spec PyProof.Rows L2
variable [aw]
noncomputable def sU(c:Cell)(b:Option Cell):Cell:=match c,b with
 |.dF a,some (.dK _)=>.dK a
 |.dG a,some (.dT _)=>.dT a
 |c,_=>c
def i8(Ω au:aA):aA:=au.mapIdx λk c=>sU c Ω[k]?
def ny(F:aX):aX:=λc b=>match F c b with
 |.ok d a=>.ok d (i8 b a)
 |r=>r
theorem aD.of_get{c d:Type}{R:c->d->Prop}:∀{as:List c}{bs:List d},bs.length=as.length->(∀(i:Nat) (a:c) (b:d),as[i]?=some a->bs[i]?=some b->R a b)->aD R as bs
 |[],[],_,_=>.nil
 |a::as,b::bs,h,k=>.cons (k 0 a b rfl rfl) (aD.of_get (by simp_all) λi a b e f=>k (i+1) a b (by simp_all) (by simp_all))
 |[],_::_,h,_=>by simp at h
 |_::_,[],h,_=>by simp at h
section
variable{X:Cx}{κ:Str->Addr->Prop}{Φ:eQ}{α α' cm:List Addr}{Z Z' Z0:Addr->Prop}{Ω au:aA}{H H' H0:Hp}
open Classical in
theorem Aq(S:bc κ α Z Ω H)(g:bD α Z H α' Z' H')(M:bc κ α' Z' au H'){P:Program}{w:World}{h:Heap}(ok:fE P w H' h):∃B:Addr->Prop,NI B H H'/\bD α Z H α' Z' (sT B H')/\bc κ α' Z' (i8 Ω au) (sT B H')/\∀d v,av α' Z' H' d v->av α' Z' (sT B H') d v:=by
 let Cd:Cell->Cell->Prop:=λc G=>(∃l m,c=.dK l/\G=.dF m)\/∃l m,c=.dT l/\G=.dG m
 let B:Addr->Prop:=λb=>∃(k:Nat) (c G:Cell),α'[k]?=some b/\Ω[k]?=some c/\au[k]?=some G/\Cd c G
 have hw:∀b,B b->b∈α/\∃u,Gu u=true/\H b=some u:=λb ⟨k,c,G,J,Y,F,T⟩=>by
  obtain⟨a,I,E⟩:=S.cell Y;have:=g.pre k a I;rw[J]at this;cases this
  refine⟨List.mem_of_getElem? I,?_⟩;rcases T with ⟨l,m,rfl,rfl⟩|⟨l,m,rfl,rfl⟩
  .obtain⟨s,E,_⟩:=E;exact⟨_,rfl,E⟩
  .obtain⟨s,E,_⟩:=E;exact⟨_,rfl,E⟩
 have hc:∀b,B b->∃o u,Gu u=true/\H' b=some (.cL o u):=λb ⟨k,c,G,J,Y,F,T⟩=>by
  obtain⟨a,I,E⟩:=M.cell F;rw[J]at I;cases I
  rcases T with ⟨l,m,rfl,rfl⟩|⟨l,m,rfl,rfl⟩
  .obtain⟨o,s,E,_⟩:=E;exact⟨o,_,rfl,E⟩
  .obtain⟨o,s,E,_⟩:=E;exact⟨o,_,rfl,E⟩
 have hz:∀b,Z' b->¬ B b:=λb z ⟨k,_,_,J,_⟩=>M.sep b (List.mem_of_getElem? J) z
 have nd:∀b o u,H' b=some (.cL o u)->(∀U V,o.data≠.dict U V)->¬ B b:=λb o u e hd A=>by
  obtain⟨o',u',hu,e'⟩:=hc b A;rw[e]at e';cases e'
  obtain⟨U,V,z⟩:=Ao ok e hu;exact hd U V z
 have K:∀d v,av α' Z' H' d v->av α' Z' (sT B H') d v:=λd v r=>r.mono (λ_ _ e=>e) (λa o z e=>by rw[bV (hz a z)];exact e) λ_ z=>z
 have fz:∀a o u,H a=some (.cL o u)->sT B H' a=some (.cL o u):=λa o u e=>by
  rw[bV λA=>by obtain⟨_,u,hu,z⟩:=hw a A;rw[e]at z;cases z;cases hu];exact g.cL a o u e
 refine⟨B,⟨hc,λb A=>(hw b A).2⟩,⟨g.pre,g.sub,g.new,g.wK,λa o e ha=>?_,λa ha=>?_,fz⟩,⟨M.jT,?_,M.sep,λa z=>by rw[bV (hz a z)];exact M.dom a z⟩,K⟩
 .rw[bV λA=>ha (hw a A).1];exact g.frm a o e ha
 .by_cases A:B a
  .obtain⟨o,u,_,e⟩:=hc a A;rw[o_ A e];simp
  .rw[bV A];exact g.has a ha
 .refine aD.of_get (by unfold i8;rw[List.length_mapIdx];exact M.vz.length) λi c a e f=>?_
  unfold i8 at e;rw[List.getElem?_mapIdx]at e;obtain⟨G,J,rfl⟩:=Option.map_eq_some_iff.mp e;obtain⟨a',Y,F⟩:=M.cell J;rw[f]at Y;cases Y
  have Q:B a->∃c,Ω[i]?=some c/\Cd c G:=λ⟨k,c,N,D,y,p3,p4⟩=>by
   have:k=i:=by
    have l1:=(List.getElem?_eq_some_iff.mp D);have l2:=(List.getElem?_eq_some_iff.mp f)
    exact(List.getElem_inj M.jT).mp (l1.2.trans l2.2.symm)
   subst this;rw[J]at p3;cases p3
   exact⟨c,y,p4⟩
  have X:(∀c,¬ Cd c G)->¬ B a:=λq A=>by
   obtain⟨c,_,h⟩:=Q A;exact q c h
  cases G with
  |lst ds=>
   have n:=X λc h=>by rcases h with ⟨_,_,_,h⟩|⟨_,_,_,h⟩<;>cases h
   obtain⟨s,D,y⟩:=F;exact⟨s,by rw[bV n];exact D,y.imp K⟩
  |dK l=>
   have n:=X λc h=>by rcases h with ⟨_,_,_,h⟩|⟨_,_,_,h⟩<;>cases h
   obtain⟨s,D,y⟩:=F;exact⟨s,by rw[bV n];exact D,y.imp K⟩
  |dT l=>
   have n:=X λc h=>by rcases h with ⟨_,_,_,h⟩|⟨_,_,_,h⟩<;>cases h
   obtain⟨s,D,y⟩:=F;exact⟨s,by rw[bV n];exact D,y.imp K⟩
  |ins C fs=>
   have n:=X λc h=>by rcases h with ⟨_,_,_,h⟩|⟨_,_,_,h⟩<;>cases h
   obtain⟨Ca,dx,s,p0,D,y⟩:=F;exact⟨Ca,dx,s,p0,by rw[bV n];exact D,y.imp K⟩
  |tb j p b=>
   have n:=X λc h=>by rcases h with ⟨_,_,_,h⟩|⟨_,_,_,h⟩<;>cases h
   refine⟨F.1,?_⟩;have T:=F.2;cases b with
   |false=>exact(bV n).trans T
   |true=>
    obtain⟨N,oc,u,s,t,L,q2,q3,q4⟩:=T;refine⟨N,oc,u,s,t,(bV n).trans L,?_,q3,q4⟩;rw[bV (nd _ _ _ q2 λU V z=>by rw[q3]at z;cases z)];exact q2
  |dF l=>
   obtain⟨o,s,D,y⟩:=F
   by_cases R:∃k0,Ω[i]?=some (.dK k0)
   .obtain⟨k0,L⟩:=R
    show fb κ _ _ a (sU (.dF l) Ω[i]?)
    rw[L];exact⟨s,o_ ⟨i,_,_,f,L,J,.inl ⟨_,_,rfl,rfl⟩⟩ D,y.imp K⟩
   .have I:sU (.dF l) Ω[i]?=.dF l:=by
     unfold sU;split
     .rename_i z1 z2 z3;exact absurd ⟨_,z3⟩ R
     .rename_i z _;cases z
     .rfl
    rw[I];refine⟨o,s,?_,y.imp K⟩;rw[bV λA=>?_]
    .exact D
    .obtain⟨c,N,c2⟩:=Q A
     rcases c2 with ⟨_,_,rfl,_⟩|⟨_,_,_,h⟩
     .exact R ⟨_,N⟩
     .cases h
  |dG l=>
   obtain⟨o,s,D,y⟩:=F
   by_cases R:∃k0,Ω[i]?=some (.dT k0)
   .obtain⟨k0,L⟩:=R
    show fb κ _ _ a (sU (.dG l) Ω[i]?)
    rw[L];exact⟨s,o_ ⟨i,_,_,f,L,J,.inr ⟨_,_,rfl,rfl⟩⟩ D,y.imp K⟩
   .have I:sU (.dG l) Ω[i]?=.dG l:=by
     unfold sU;split
     .rename_i z _;cases z
     .rename_i z1 z2 z3;exact absurd ⟨_,z3⟩ R
     .rfl
    rw[I];refine⟨o,s,?_,y.imp K⟩;rw[bV λA=>?_]
    .exact D
    .obtain⟨c,N,c2⟩:=Q A
     rcases c2 with ⟨_,_,_,h⟩|⟨_,_,rfl,_⟩
     .cases h
     .exact R ⟨_,N⟩
  |fn j de=>
   have n:=X λc h=>by rcases h with ⟨_,_,_,h⟩|⟨_,_,_,h⟩<;>cases h
   obtain⟨N,cl,cv,⟨⟨a0,pm,b0,u,L⟩,oc,u1,s,t,q2,q3,q4⟩,O,q5⟩:=F;refine⟨N,cl,cv,⟨⟨a0,pm,b0,u,(bV n).trans L⟩,oc,u1,s,t,(bV (nd _ _ _ q2 λU V z=>by rw[q3]at z;cases z)).trans q2,q3,q4⟩,⟨O.len,λj x v I E=>?_,O.only,O.inj⟩,q5.imp K⟩
   obtain⟨c,o,u2,c0,D,y,p3,p4⟩:=O.get j x v I E;exact⟨c,o,u2,c0,D,(bV (nd _ _ _ y λU V z=>by rw[p3]at z;cases z)).trans y,p3,p4⟩
theorem Dq{P:Program}{w:World}{K:PySem.W.Frag}{b:Str->Option Value}{base:Heap}{CX:pB}{k:Nat}{f:Addr}{c:FuncData}{ps:List Str}{F:aX}(h:bP P w K b base CX k f c ps (ei κ F)):bP P w K b base CX k f c ps (ei κ (ny F)):=
 h.Ap.imp λz H Q E ⟨j,Z,e,i,S,r,g⟩=>⟨j,Z,e,i,S,r,by
  unfold ny at g;cases q:F i e with
  |ok d a=>
   rw[q]at g;intro v A l m n o p h ok;obtain⟨B,s,t,u,y⟩:=Aq S n o ok;exact⟨B,s,g v _ _ m t u (y d v p)⟩
  |exc x a=>rw[q]at g;exact g
  |bad=>rw[q]at g;exact g⟩
end
section
variable{Ω au:aA}{ρ:aK}{e q j:Nat}{kvs:List (Key×D)}{E:i_}{P P':Nat->Prop}{n:Str}{L:Str->List Str}
theorem nz(K:ag [e] Ω au)(d:Ω[e]?=some (.dK kvs))(f:au[e]?=some (.dF kvs)):ag [] Ω (i8 Ω au):=by
 refine⟨by unfold i8;rw[List.length_mapIdx];exact K.len,λk c a _=>?_⟩
 unfold i8;rw[List.getElem?_mapIdx]
 by_cases b:k=e
 .subst b
  rw[f,d];rw[d]at a;cases a;rfl
 .rw[K.get k c a (by simp_all),a]
  cases c<;>rfl
def Dr(a:aX):SM:=
 (ak (aE 1 (ai (.bl true)))
 (ak (i6 (eg (mN a (ae (aa 0) aj))) "Tangled" (ak (aE 1 (ai (.bl false))) aq))
 (ak (cf (aa 1))
 aq)))
theorem JO{a:aX}{d:D}(h:a [.ref e] Ω=.ok d au):bA 2 1 (Dr a) [.ref e] Ω=.ok (.bl true) au:=by
 show dy (Dr a [oR e,none] Ω)=_
 have b:aE 1 (ai (.bl true)) [oR e,none] Ω=.nx _ Ω:=rfl
 have c:i6 (eg (mN a (ae (aa 0) aj))) "Tangled" (ak (aE 1 (ai (.bl false))) aq) [oR e,some (.bl true)] Ω=.nx [oR e,some (.bl true)] au:=by
  have:eg (mN a (ae (aa 0) aj)) [oR e,some (.bl true)] Ω=.nx [oR e,some (.bl true)] au:=by
   simp_all
  unfold i6;rw[this]
 unfold Dr
 simp_all
theorem JP{a:aX}(h:a [.ref e] Ω=.exc (eM "Tangled") au):bA 2 1 (Dr a) [.ref e] Ω=.ok (.bl false) au:=by
 show dy (Dr a [oR e,none] Ω)=_
 have b:aE 1 (ai (.bl true)) [oR e,none] Ω=.nx _ Ω:=rfl
 have c:i6 (eg (mN a (ae (aa 0) aj))) "Tangled" (ak (aE 1 (ai (.bl false))) aq) [oR e,some (.bl true)] Ω=.nx [oR e,some (.bl false)] au:=by
  have:eg (mN a (ae (aa 0) aj)) [oR e,some (.bl true)] Ω=.exc (eM "Tangled") au:=by
   simp_all
  unfold i6;rw[this];rfl
 unfold Dr
 simp_all
end
section
variable{E:i_}{n:Str}{L:Str->List Str}
theorem JQ{rs:List (List Str)}{o:List Str}(M:Mg rs o):∀r∈rs,r.Sublist o:=by
 induction M with
 |done h=>grind
 |@step rs n o a e _ b=>
  intro r c;have h:=b _ (List.mem_map.mpr ⟨r,c,rfl⟩);unfold cZ at h;split at h
  .rename_i d
   cases r with
   |nil=>simp at d
   |cons x t=>
    grind
  grind
theorem uU{a:Str->Nat}(b:∀n∈nms E,∀x∈aU E n,x∈nms E)(c:∀n∈nms E,∀x∈aU E n,a x<a n)(d:qV E L):∀(m:Nat) (n:Str),a n<m->n∈nms E->∀x∈L n,x∈nms E/\(x=n\/a x<a n):=by
 intro m
 induction m with
 |zero=>simp
 |succ m h=>
  intro n i f x hx;obtain⟨o,M,e⟩:=d n f;rw[e]at hx;rcases List.mem_cons.mp hx with rfl|hx
  .grind
  .obtain⟨r,j,g⟩:=oG M x hx
   grind
theorem As(A:Acy E)(b:qV E L)(c:n∈nms E):∀x∈L n,x∈nms E:=by
 obtain⟨d,a⟩:=A.rk;exact λx e=>(uU A.el a b (d n+1) n (by omega) c x e).1
theorem Au(A:Acy E)(f:qV E L)(b:n∈nms E):(L n).Nodup:=by
 obtain⟨h,a⟩:=A.rk;obtain⟨o,M,e⟩:=f n b;rw[e,List.nodup_cons];refine⟨λc=>?_,y_ M⟩
 obtain⟨r,hr,d⟩:=oG M n c;rcases List.mem_append.mp hr with hr|hr
 .obtain⟨y,g,rfl⟩:=List.mem_map.mp hr
  have i:=a n b y g;rcases(uU A.el a f _ y (by omega) (A.el n b y g) n d).2 with rfl|h2<;>omega
 grind
theorem uV(A:Acy E)(a:qV E L)(b:n∈nms E):(L n).length<=E.length:=by
 have:=il (Au A a b) (As A a b);simpa[nms]using this
theorem Ds(A:Acy E)(j:qV E L):∀{n:Str},n∈nms E->∀x∈L n,(L x).Sublist (L n):=by
 obtain⟨g,d⟩:=A.rk
 have f:∀(m:Nat) (n:Str),g n<m->n∈nms E->∀x∈L n,(L x).Sublist (L n):=by
  intro m
  induction m with
  |zero=>intro n h;omega
  |succ m k=>
   intro n p b x l;obtain⟨o,M,e⟩:=j n b;have hx':=l;rw[e]at hx';rcases List.mem_cons.mp hx' with rfl|hx'
   .exact List.Sublist.refl _
   .have i:∀y∈aU E n,(L y).Sublist (L n):=λy c=>by
     rw[e];exact(JQ M _ (List.mem_append_left _ (List.mem_map.mpr ⟨y,c,rfl⟩))).cons n
    obtain⟨r,hr,a⟩:=oG M x hx';rcases List.mem_append.mp hr with hr|hr
    .obtain⟨y,c,rfl⟩:=List.mem_map.mp hr
     have q:=d n b y c;exact(k y (by omega) (A.el n b y c) x a).trans (i y c)
    .rw[List.mem_singleton.mp hr]at a
     exact i x a
 exact λ{n} b=>f (g n+1) n (by omega) b
theorem eO:∀{xs ys:List Str},xs.Sublist ys->ys.Nodup->ys.filter (λy=>decide (y∈xs))=xs
 |_,_,.slnil,_=>rfl
 |xs,y::ys,.cons _ h,a=>by
  rw[List.nodup_cons]at a;have:=λz=>a.1 (h.subset z)
  rw[List.filter_cons,if_neg (by grind)]
  exact eO h a.2
 |x::xs,_::ys,.cons₂ _ h,a=>by
  rw[List.nodup_cons]at a;rw[List.filter_cons,if_pos (by simp)]
  congr 1
  rw[show ys.filter _=ys.filter (λy=>decide (y∈xs))from List.filter_congr (by grind)]
  exact eO h a.2
theorem wz{xs ys:List Str}(h:xs.Sublist ys)(a:ys.Nodup)(p:Str->Bool):xs.filter p=(ys.filter p).filter (λy=>decide (y∈xs)):=by
 rw[List.filter_filter];have:ys.filter (λy=>decide (y∈xs)&&p y)=(ys.filter (λy=>decide (y∈xs))).filter p:=by rw[List.filter_filter];exact List.filter_congr λy _=>Bool.and_comm _ _
 rw[this,eO h a]
end
section
variable{Ω au:aA}{e:Nat}{kvs:List (Key×D)}{E:i_}{P:Nat->Prop}{n m:Str}{r:List Str}{L:Str->List Str}
theorem cN:nms (E++[(n,r)])=nms E++[n]:=by simp[nms]
theorem gU(h:m∈nms E):aU (E++[(n,r)]) m=aU E m:=by
 unfold aU;rw[List.lookup_append,lO h];rfl
theorem fS(h:n∉nms E):aU (E++[(n,r)]) n=r:=by
 unfold aU;rw[List.lookup_append,lookup_none h]
 grind
theorem Av(A:Acy E)(c:n∉nms E)(f:∀x∈r,x∈nms E):Acy (E++[(n,r)]) where
 nd:=by
  rw[cN];exact List.nodup_append.mpr ⟨A.nd,by simp,by grind⟩
 el:=λm hm x a=>by
  rw[cN]at hm ⊢;rcases List.mem_append.mp hm with hm|hm
  .rw[gU hm]at a
   exact List.mem_append_left _ (A.el m hm x a)
  .rw[List.mem_singleton.mp hm,fS c]at a
   grind
 rk:=by
  obtain⟨rk,e⟩:=A.rk
  have d:∀(b:List _) x,x∈b->rk x<=(b.map rk).sum:=by
   intro b
   induction b with
   |nil=>simp
   |cons y g h=>
    grind
  refine⟨λx=>if x=n then (r.map rk).sum+1 else rk x,λm hm x a=>?_⟩
  rw[cN]at hm;rcases List.mem_append.mp hm with hm|hm
  .rw[gU hm]at a
   have i:x≠n:=λz=>c (z▸A.el m hm x a)
   grind
  .rw[List.mem_singleton.mp hm]at a ⊢
   rw[fS c]at a
   grind
theorem pb(G:Gd E)(a:n∉nms E)(b:∀x∈r,x∈nms E)(c:r.length<=100)(d:E.length<100):Gd (E++[(n,r)]):=
  { Av G.toAcy a b with
    few:=by simp;omega
    short:=λm hm=>by
      rw[cN]at hm;rcases List.mem_append.mp hm with hm|hm
      · rw[gU hm];exact G.short m hm
      · rw[List.mem_singleton.mp hm,fS a];exact c }
noncomputable def i9(L:Str->List Str)(n:Str)(o:List Str):Str->List Str:=λx=>if x=n then n::o else L x
theorem rh{o:List Str}{xs:List Str}(h:n∉xs):xs.map (i9 L n o)=xs.map L:=List.map_congr_left λx a=>by
 unfold i9;rw[if_neg (λz:x=n=>h (z▸a))]
theorem lW(A:Acy E)(b:qV E L)(a:n∉nms E)(c:∀x∈r,x∈nms E){o:List Str}(M:Mg (r.map L++[r]) o):qV (E++[(n,r)]) (i9 L n o):=by
 intro m hm;rw[cN]at hm;rcases List.mem_append.mp hm with hm|hm
 .have e:m≠n:=λz=>a (z▸hm)
  obtain⟨d,f,g⟩:=b m hm;refine⟨d,?_,by unfold i9;simp_all⟩
  rwa[gU hm,rh λz=>a (A.el m hm n z)]
 .rw[List.mem_singleton.mp hm]
  refine⟨o,?_,by unfold i9;simp_all⟩
  rwa[fS a,rh λz=>a (c n z)]
theorem Eg{b:Nat}:∀{rs:List (List Str)},(∀x∈rs,x.length<=b)->tot rs<=rs.length*b
 |[],_=>by simp[tot]
 |x::rs,h=>by
  have h1:=Eg λy a=>h y (List.mem_cons_of_mem _ a)
  have c:=h x (by simp)
  have e:tot (x::rs)=x.length+tot rs:=by simp[tot]
  rw[List.length_cons,Nat.succ_mul];omega
theorem JR{ms:List EM}{w y k A:aX}(B:wa w)(C:sI y)(D:oP k)(K:z_ k)(F:oV A)(N:Dm ms)(j:Ω[e]?=some (.dK kvs))(H:aL P Ω kvs (E++[(n,r)]))(G:Gd E)(p:qV E L)(a:n∉nms E)(c:∀x∈r,x∈nms E)(R:r.length<=4)(g:E.length<=12) :
  ∃b au,ny (bA 2 1 (Dr (bA 6 1 (Gr ms w y k A)))) [.ref e] Ω=.ok (.bl b) au/\ag [] Ω au/\(b=true->∃o,Mg (r.map L++[r]) o):=by
 have I:=pb G a c (by omega) (by omega)
 have J:∀m∈nms E,(L m).length<=12:=λm hm=>Nat.le_trans (uV G.toAcy p hm) g
 have q:tot (r.map L++[r])<=60:=by
  have O:∀x∈r.map L++[r],x.length<=12:=λx h=>by
   grind
  have T:=Eg O
  grind
 have i:tot (r.map L++[r])<=900:=by omega
 rcases zM _ _ (Nat.lt_succ_self _)with ⟨o,M,U⟩|S
 .obtain⟨l,Q,d,s,_,_,t,f,_⟩:=Gs (ms:=ms) B C D F Ω e kvs (E++[(n,r)]) P (i9 L n o) (.inl j) H I (lW G.toAcy p a c M) (λm hm=>by
   rw[cN]at hm;unfold i9
   grind)
  refine⟨true,i8 Ω d,?_,nz t j f,λ_=>⟨o,M⟩⟩
  unfold ny;rw[JO s]
 .obtain⟨d,s,t,f⟩:=JN (ms:=ms) (L:=L) (n0:=n) B C D K F N (.inl j) H I (by rw[cN];simp) (λm hm h=>by
   rw[cN]at hm;rcases List.mem_append.mp hm with hm|hm
   .rw[gU hm]at h
    exact a (G.el m hm n h)
   .rw[List.mem_singleton.mp hm,fS a]at h
    exact a (c n h)) (λm hm u=>by
   rw[cN]at hm;rcases List.mem_append.mp hm with hm|hm
   .rw[gU hm];exact p m hm
   grind) (λm hm u=>by
   rw[cN]at hm
   grind) (by rw[fS a];exact S) (by rw[fS a];exact i)
  refine⟨false,i8 Ω d,?_,nz t j f,λz=>nomatch z⟩
  unfold ny;rw[JP s]
end
section
variable{Ω au:aA}{e kx s:Nat}{kvs:List (Key×D)}{E:i_}{P:Nat->Prop}{n:Str}{r xs ys:List Str}{L:Str->List Str}{F:List D->Out Rs}{δ:List Int->Int->Int->Int}{ns:List Int}{k:Int}{a5:Option D}
abbrev EE(ns:List Int)(a e:Nat)(a3 a4 a5:Option D):aK:=[some (SC ns),oR a,oR e,a3,a4,a5]
def JS(F:List D->Out Rs):SM:=
 (ak (eU (jr (m2 (aQ .Lt) (mN (bG .len) (ae (aa 4) aj)) (ai (.int 4))) (m2 (aQ .Eq) (mN (cW F) (ae (aa 0) (ae (m2 (aN .Add) (m2 (aN .Add) (ai (.int 30)) (m2 (aN .Mult) (ai (.int 12)) (aa 3))) (aa 5)) (ae (ai (.int 3)) aj)))) (ai (.int 0))))
 (ak (eg (cB gY bH (aa 4) (ae (m2 aM (aa 1) (aa 5)) aj)))
 aq)
 aq)
 aq)
theorem Gv(g:eY δ F)(p:ns.length<=63)(q:Ω[kx]?=some (.lst (xs.map .str)))(f:Ω[s]?=some (.lst (ys.map .str)))(r:ys.length<=4)(t:kx≠s){j:Nat}(u:0<=k)(C:k<=100)(w:j<xs.length)(m:xs.length<=20) :
  ∃(b:List Str) (au:aA),JS F (EE ns kx e (oI k) (oR s) (oI j)) Ω=.nx (EE ns kx e (oI k) (oR s) (oI j)) au/\au[s]?=some (.lst (b.map .str))/\b.length<=4/\(∀y∈b,y∈ys\/xs[j]?=some y)/\ag [s] Ω au:=by
 obtain⟨E,G,x⟩:=g ns (30+12*k+j) 3 p (by omega) (by omega) (by omega)
 generalize δ ns (30+12*k+j) 3=d at *;have h:gi 12=true:=by decide
 have a:=kq f;obtain⟨y,A⟩:∃y,xs[j]?=some y:=⟨_,List.getElem?_eq_getElem w⟩;have i:=cE q (L2.dk (show(xs.map D.str)[j]?=some (.str y)by simp[A]))
 by_cases c:(ys.length<4/\d=0)
 .have n:=dW (d:=.str y) f (by simp;omega)
  have B:ys.map D.str++[.str y]=(ys++[y]).map D.str:=by simp
  rw[B]at n;refine⟨ys++[y],_,?_,aZ f,by simp;omega,λz o=>?_,ag.set (by simp)⟩
  .unfold JS
   have l:((ys.length:Int)<4):=by omega
   simp[h,a,dP,l,x,c.2,eS,aH,en,cB,dB f,i,n,-List.map_append]
  grind
 .refine⟨ys,Ω,?_,f,r,λz o=>.inl o,ag.refl⟩
  unfold JS
  by_cases l:((ys.length:Int)<4)
  .have H:d≠0:=λz=>c ⟨by omega,z⟩
   simp_all
  .simp[a,dP,l]
def NK:IM:=yz (ae (m2 (aN .Add) (aa 3) (ai (.int 1))) (ae (mN (bG .len) (ae (aa 1) aj)) aj))
theorem QE(l:eY δ F)(u:ns.length<=63)(t:Ω[kx]?=some (.lst (xs.map .str)))(w:Ω[s]?=some (.lst []))(c:kx≠s){k:Nat}(N:k<xs.length)(f:xs.length<=20) :
  ∃(ys:List Str) (a:Option D) (au:aA),dM (bN 5) NK (JS F) (EE ns kx e (oI k) (oR s) a5) Ω=.nx (EE ns kx e (oI k) (oR s) a) au/\au[s]?=some (.lst (ys.map .str))/\ys.length<=4/\(∀y∈ys,y∈xs.drop (k+1))/\ag [s] Ω au:=by
 have g:=kq t
 have m:NK (EE ns kx e (oI k) (oR s) a5) Ω=.ok (.ints ((k:Int)+1) (xs.length - (k+1))) Ω:=by
  have n:kG ((k:Int)+1)=true:=iN (by omega) (by omega)
  have o:kG (xs.length:Int)=true:=iN (by omega) (by omega)
  have x:(ae (m2 (aN .Add) (aa 3) (ai (.int 1))) (ae (mN (bG .len) (ae (aa 1) aj)) aj):AM) (EE ns kx e (oI k) (oR s) a5) Ω=.ok [.int ((k:Int)+1),.int xs.length] Ω:=by simp[g]
  show((ae _ _:AM) _ Ω).bind t7=_
  rw[x,bU];simp only[t7,n,o,Bool.and_self,if_true]
  grind
 rw[bZ,m,c_]
 refine bo (R:=λr=>∃(ys:List Str) (a:Option D) (au:aA),r=.nx (EE ns kx e (oI k) (oR s) a) au/\au[s]?=some (.lst (ys.map .str))/\ys.length<=4/\(∀y∈ys,y∈xs.drop (k+1))/\ag [s] Ω au) (ds:=intsFrom ((k:Int)+1) (xs.length - (k+1)))
  (λi p b=>∃(ys:List Str) (a:Option D),p=EE ns kx e (oI k) (oR s) a/\b[s]?=some (.lst (ys.map .str))/\ys.length<=4/\(∀y∈ys,y∈xs.drop (k+1))/\ag [s] Ω b) ?_ ?_ ?_ fuel 0 _ _ (by unfold fuel;rw[eB];omega) (Nat.zero_le _) ⟨[],a5,rfl,w,by simp,by simp,ag.refl⟩
 .rintro i p b _;rfl
 .rintro i d p b z ⟨ys,a,rfl,n,o,A,K⟩
  obtain⟨rfl,B⟩:=iO z;have C:(k:Int)+1+(i:Int)=((k+1+i:Nat):Int):=by omega
  refine⟨EE ns kx e (oI k) (oR s) _,by rw[C];rfl,?_⟩
  obtain⟨q,E,G,H,I,J,L⟩:=Gv (e:=e) (k:=k) (j:=k+1+i) l u (K.get _ _ t (by simpa using c)) n o c (by omega) (by omega) (by omega) f
  rw[G];refine⟨q,_,rfl,H,I,λy M=>?_,K.trans L⟩
  rcases J y M with h|h
  .exact A y h
  .exact List.mem_of_getElem? (i:=i) (by grind)
 grind
def JT(LD:aX):Prop:=∀(d:aA) (e:Nat) (a:List (Key×D)) (E:i_) (P:Nat->Prop) (L:Str->List Str) (n:Str) (r:List Str),d[e]?=some (.dK a)->aL P d a (E++[(n,r)])->Gd E->qV E L->n∉nms E->(∀x∈r,x∈nms E)->r.length<=4->E.length<=12 ->
 ∃b c,LD [.ref e] d=.ok (.bl b) c/\ag [] d c/\(b=true->∃o,Mg (r.map L++[r]) o)
theorem Aw{n:Key}{v w:D}(h:n∉kvs.map (·.1)):cK (kvs++[(n,v)]) n w=kvs++[(n,w)]:=by
 unfold cK;rw[if_pos (by simp)]
 rw[List.map_append]
 congr 1
 .conv=>rhs;rw[←List.map_id kvs]
  refine List.map_congr_left λb a=>?_
  rw[if_neg λz=>h (List.mem_map.mpr ⟨b,a,z⟩)]
  rfl
 .simp
def LX(F:List D->Out Rs)(LD:aX):SM:=
 (ak (aE 4 (mN cD aj))
 (ak (dM (bN 5) NK (JS F))
 (ak (cC (aa 2) (m2 aM (aa 1) (aa 3)) (aa 4))
 (ak (eU (qh (mN (aS LD) (ae (aa 2) aj)))
 (ak (cC (aa 2) (m2 aM (aa 1) (aa 3)) (mN cD aj))
 aq)
 aq)
 aq))))
theorem aL.NL(h:aL P Ω kvs E)(a:n∉nms E):Sum.inr n∉kvs.map (·.1):=λb=>by
 obtain⟨g,c,d⟩:=List.mem_map.mp b;obtain⟨i,e⟩:=List.mem_iff_getElem?.mp c;obtain⟨p,f,q,_⟩:=aD.get h e;rw[d]at q;injection q with q;exact a (q▸List.mem_map.mpr ⟨p,List.mem_of_getElem? f,rfl⟩)
theorem Gw{LD:aX}{b:Nat}{a4:Option D}(Z:eY δ F)(a0:JT LD)(hl:ns.length<=63)(hx:Ω[kx]?=some (.lst (xs.map .str)))(hd:Ω[e]?=some (.dK kvs))(T:aL (λj=>b<=j) Ω kvs E)(hb:b<=Ω.length)(G:Gd E)(hL:qV E L){k:Nat}(U:k<xs.length)(t0:xs.length<=12)(b0:xs.Nodup)(V:nms E=(xs.drop (k+1)).reverse) :
  ∃u X L' c0 c au,LX F LD (EE ns kx e (oI k) a4 a5) Ω=.nx (EE ns kx e (oI k) c0 c) au/\au[e]?=some (.dK u)/\aL (λj=>b<=j) au u X/\Gd X/\qV X L'/\nms X=(xs.drop k).reverse/\ag [e] Ω au:=by
 obtain⟨n,C⟩:∃n,xs[k]?=some n:=⟨_,List.getElem?_eq_getElem U⟩
 have H:xs.drop k=n::xs.drop (k+1):=by
  rw[List.drop_eq_getElem_cons U];rw[List.getElem?_eq_getElem U]at C;injection C with C;rw[C]
 have f:n∉nms E:=by
  rw[V,List.mem_reverse];have:(xs.drop k).Nodup:=List.Nodup.sublist (List.drop_sublist _ _) b0;rw[H,List.nodup_cons]at this;exact this.1
 have e0:E.length<=12:=by
  have:=congrArg List.length V;simp[nms]at this;omega
 have s1:aE 4 (mN cD aj) (EE ns kx e (oI k) a4 a5) Ω=.nx (EE ns kx e (oI k) (oR Ω.length) a5) (Ω++[.lst []]):=by simp[aI]
 have K1:ag [] Ω (Ω++[.lst []]):=ag.app;have g1:(Ω++[Cell.lst []])[Ω.length]?=some (.lst []):=az;have lx:=bp hx;have le:=bp hd;obtain⟨I,c,g,e2,g2,y4,f0,K2⟩:=QE (e:=e) (a5:=a5) Z hl (cJ (l:=[.lst []]) hx) g1 (by omega) U (by omega)
 have p:ag [] Ω g:=K1.new K2 (by simp)
 have q:=p.get _ _ hx (by simp)
 have s:=p.get _ _ hd (by simp)
 have J:=T.keep p (by simp)
 have K:∀{i:aA},i[kx]?=some (.lst (xs.map .str))->aM (.ref kx) (.int (k:Int)) i=.ok (.str n) i:=λh=>cE h (L2.dk (show(xs.map D.str)[k]?=some (.str n)by simp[C]))
 have g0:kvs.length<=1000:=by have:=T.len;omega
 have N:=jw (n:=n) (d:=.ref Ω.length) s g0;have A:=J.NL f;have w:=J.put (r:=I) f hb g2;rw[oW A]at N w
 have s3:cC (aa 2) (m2 aM (aa 1) (aa 3)) (aa 4) (EE ns kx e (oI k) (oR Ω.length) c) g=.nx (EE ns kx e (oI k) (oR Ω.length) c) (g.set e (.dK (kvs++[(.inr n,.ref Ω.length)]))):=by
  simp[cC,K q,N]
 have K3:ag [e] g (g.set e (.dK (kvs++[(.inr n,.ref Ω.length)]))):=ag.set (by simp)
 have O:=aZ (e:=.dK (kvs++[(.inr n,.ref Ω.length)])) s;have P:=w.dC K3 (λj Q ds=>by rw[List.mem_singleton.mp Q,s];simp)
 have h0:=K3.get _ _ q (by simp;intro z;rw[z,s]at q;cases q)
 generalize g.set e (.dK (kvs++[(.inr n,.ref Ω.length)]))=i at *;have yE:∀y∈I,y∈nms E:=λy hy=>by rw[V,List.mem_reverse];exact f0 y hy
 obtain⟨bb,a,e4,Y,i0⟩:=a0 i e _ E _ L n I O P G hL f yE y4 e0;have R:=Y.get _ _ O (by simp)
 have j0:=P.keep Y (by simp)
 have l0:=Y.get _ _ h0 (by simp)
 have t:ag [e] Ω a:=((ek.up p).trans K3).trans (ek.up Y);have S:∀r,nms (E++[(n,r)])=(xs.drop k).reverse:=λr=>by rw[cN,V,H,List.reverse_cons]
 cases bb with
 |true=>
  obtain⟨o,M⟩:=i0 rfl;refine⟨_,E++[(n,I)],i9 L n o,oR Ω.length,c,a,?_,R,j0,pb G f yE (by omega) (by omega),lW G.toAcy hL f yE M,S I,t⟩
  unfold LX;rw[ah,s1,aJ,ah,e2,aJ,ah,s3,aJ];simp[e4]
 |false=>
  have K5:ag [] a (a++[.lst []]):=ag.app;have g5:(a++[Cell.lst []])[a.length]?=some (.lst (([]:List Str).map .str)):=az;have B:=cJ (l:=[.lst []]) R;have m0:=T.dC t (λj Q ds=>by rw[List.mem_singleton.mp Q,hd];simp)
  have n0:=m0.keep K5 (by simp)
  have m:=n0.put (r:=[]) f (Nat.le_trans hb t.len) g5;rw[oW A]at m;have x:=jw (n:=n) (d:=.ref a.length) B (by simp;have:=T.len;omega)
  rw[Aw A]at x;have o0:=cJ (l:=[.lst []]) l0;have K6:ag [e] (a++[Cell.lst []]) (List.set (a++[Cell.lst []]) e (Cell.dK (kvs++[(.inr n,.ref a.length)]))):=ag.set (by simp)
  have p0:=m.dC K6 (λj Q ds=>by rw[List.mem_singleton.mp Q,B];simp)
  have q0:=aZ (e:=.dK (kvs++[(.inr n,.ref a.length)])) B;have v5:mN cD aj (EE ns kx e (oI k) (oR Ω.length) c) a=.ok (.ref a.length) (a++[.lst []]):=by simp[aI]
  have r0:=(t.trans (ek.up K5)).trans K6
  have s5:cC (aa 2) (m2 aM (aa 1) (aa 3)) (mN cD aj) (EE ns kx e (oI k) (oR Ω.length) c) a=.nx (EE ns kx e (oI k) (oR Ω.length) c) (List.set (a++[Cell.lst []]) e (Cell.dK (kvs++[(.inr n,.ref a.length)]))):=by
   have s0:=K o0;generalize a++[Cell.lst []]=u0 at *;unfold cC;rw[v5];simp[s0,x]
  refine⟨_,E++[(n,[])],i9 L n [],oR Ω.length,c,_,?_,q0,p0,pb G f (by simp) (by simp) (by omega),lW G.toAcy hL f (by simp) (.done (by simp)),S [],r0⟩
  unfold LX
  simp_all
end
section
variable{Ω au:aA}{e kx s:Nat}{kvs:List (Key×D)}{E:i_}{P:Nat->Prop}{n:Str}{r xs ys:List Str}{L:Str->List Str}{F:List D->Out Rs}{δ:List Int->Int->Int->Int}{ns:List Int}{a5:Option D}
def PN:IM:=yy (ae (m2 (aN .Sub) (mN (bG .len) (ae (aa 1) aj)) (ai (.int 1))) (ae (m1 og (ai (.int 1))) (ae (m1 og (ai (.int 1))) aj)))
def Hc(F:List D->Out Rs)(LD:aX):SM:=
 (ak (aE 2 cU)
 (ak (dM (bN 3) PN (LX F LD))
 (ak (cf (aa 2))
 aq)))
theorem JU{LD:aX}(p:eY δ F)(q:JT LD)(J:ns.length<=63)(C:Ω[kx]?=some (.lst (xs.map .str)))(f:xs.length<=12)(s:xs.Nodup) :
  ∃e kvs E L au,bA 6 2 (Hc F LD) [SC ns,.ref kx] Ω=.ok (.ref e) au/\au[e]?=some (.dK kvs)/\aL (λj=>Ω.length<=j) au kvs E/\Gd E/\qV E L/\nms E=xs.reverse/\Ω.length<=e/\ag [] Ω au:=by
 rw[cp (by rfl)]
 show ∃e kvs E L au,dy (Hc F LD [some (SC ns),oR kx,none,none,none,none] Ω)=.ok (.ref e) au/\_
 have M:aE 2 cU [some (SC ns),oR kx,none,none,none,none] Ω=.nx (EE ns kx Ω.length none none none) (Ω++[.dK []]):=rfl;have g:=cJ (l:=[.dK []]) C;have N:(Ω++[Cell.dK []])[Ω.length]?=some (.dK []):=az;have c:=kq g;rw[List.length_map]at c;have lx:=bp C
 have t:PN (EE ns kx Ω.length none none none) (Ω++[.dK []])=.ok (.down ((xs.length:Int) - 1) xs.length) (Ω++[.dK []]):=by
  have O:(ae (m2 (aN .Sub) (mN (bG .len) (ae (aa 1) aj)) (ai (.int 1))) (ae (m1 og (ai (.int 1))) (ae (m1 og (ai (.int 1))) aj)):AM) (EE ns kx Ω.length none none none) (Ω++[.dK []])=.ok [.int ((xs.length:Int) - 1),.int (-1),.int (-1)] (Ω++[.dK []]):=by simp[c,eS,og]
  show((ae (m2 (aN .Sub) (mN (bG .len) (ae (aa 1) aj)) (ai (.int 1))) (ae (m1 og (ai (.int 1))) (ae (m1 og (ai (.int 1))) aj)):AM) (EE ns kx Ω.length none none none) (Ω++[.dK []])).bind t8=_
  rw[O,bU];simp only[t8]
  grind
 have P:ag [] Ω (Ω++[.dK []]):=ag.app;have l1:(Ω++[Cell.dK []]).length=Ω.length+1:=by simp
 generalize Ω++[Cell.dK []]=u at *;unfold Hc;rw[ah,M,aJ,ah,bZ,t,c_];have he:Ω.length≠kx:=by omega
 refine bo (R:=λr=>∃e kvs E L au,dy (sq r (ak (cf (aa 2)) aq))=.ok (.ref e) au/\au[e]?=some (.dK kvs)/\aL (λj=>Ω.length<=j) au kvs E/\Gd E/\qV E L/\nms E=xs.reverse/\Ω.length<=e/\ag [] Ω au) (ds:=(List.range xs.length).map λi=>D.int ((xs.length:Int) - 1 - (i:Nat)))
  (λi m a=>∃(w a4 a5:Option D) (kvs:List (Key×D)) (E:i_) (L:Str->List Str),m=EE ns kx Ω.length w a4 a5/\i<=xs.length/\a[Ω.length]?=some (.dK kvs)/\aL (λj=>Ω.length<=j) a kvs E/\Gd E/\qV E L/\nms E=(xs.drop (xs.length - i)).reverse/\ag [Ω.length] u a) ?_ ?_ ?_ fuel 0 _ _ (by unfold fuel;simp;omega) (Nat.zero_le _) ⟨none,none,none,[],[],λ_=>[],rfl,Nat.zero_le _,N,.nil,⟨⟨by simp[nms],by simp[nms],⟨λ_=>0,by simp[nms]⟩⟩,by simp,by simp[nms]⟩,by intro n Q;simp[nms]at Q,by simp[nms],ag.refl⟩
 .rintro i m a _;rfl
 .rintro i d m a H ⟨w,a4,a5,kvs,E,L,rfl,S,x,y,G,z,o,K⟩
  rw[List.getElem?_map]at H;obtain⟨i',T,rfl⟩:=Option.map_eq_some_iff.mp H;obtain⟨U,I⟩:=List.getElem?_eq_some_iff.mp T;rw[List.getElem_range]at I;subst I;rw[List.length_range]at U;have V:(xs.length:Int) - 1 - (i:Nat)=((xs.length - 1 - i:Nat):Int):=by omega
  refine⟨EE ns kx Ω.length (oI ((xs.length - 1 - i:Nat):Int)) a4 a5,by rw[V];rfl,?_⟩
  obtain⟨h,X,Y,A,B,Z,e3,g3,r3,G3,L3,n3,K3⟩:=Gw (a4:=a4) (a5:=a5) (b:=Ω.length) (k:=xs.length - 1 - i) p q J (K.get _ _ g (by simp;omega)) x y (by have:=K.len;omega) G z (by omega) f s (by rw[o,show xs.length - i=xs.length - 1 - i+1 by omega])
  rw[e3];exact⟨_,A,B,h,X,Y,rfl,by omega,g3,r3,G3,L3,by rw[n3,show xs.length - (i+1)=xs.length - 1 - i by omega],K.trans K3⟩
 .rintro m a ⟨w,a4,a5,kvs,E,L,rfl,S,x,y,G,z,o,K⟩
  rw[List.length_map,List.length_range]at o;rw[aJ];exact⟨Ω.length,kvs,E,L,a,rfl,x,y,G,z,by rw[o];simp,Nat.le_refl _,P.new K (by simp)⟩
end
section
variable{Ω au:aA}{e kx s t:Nat}{kvs:List (Key×D)}{E:i_}{P:Nat->Prop}{n:Str}{r xs ys zs:List Str}{L:Str->List Str}{F:List D->Out Rs}{δ:List Int->Int->Int->Int}{ns:List Int}{a5:Option D}
theorem sV(h:aL P Ω kvs E):qB kvs=some (nms E):=by
 induction h with
 |nil=>rfl
 |@cons a p kvs E b e c=>
  obtain⟨k,d⟩:=a;obtain⟨q,_⟩:=b;cases q
  show(qB _).map _=_
  rw[c];rfl
theorem Dt(h:eD Ω e kvs)(a:aL P Ω kvs E)(b:E.length<64):jU g_ iI [.ref e] Ω=.ok (.ref Ω.length) (Ω++[.lst (((nms E).mergeSort cR).map .str)]):=by
 show kb _ _=_
 have c:g_ [.ref e] Ω=.bad:=by simp only[g_,zH h]
 have d:iI [.ref e] Ω=.ok (.ref Ω.length) (Ω++[.lst (((nms E).mergeSort cR).map .str)]):=by
  simp only[iI,Jp h,sV a];rw[if_pos (by simpa[nms]using b)]
  rfl
 simp_all
def NM:SM:=(ak (cC (aa 2) (aa 5) (mN (bG .list) (ae (m2 aM (aa 1) (aa 5)) aj)))
 aq)
abbrev TU(ns:List Int)(e t s:Nat)(a4 a5:Option D):aK:=[some (SC ns),oR e,oR t,oR s,a4,a5]
theorem Gx{b:Nat}{c:List (Key×D)}{a:List Str}{a4:Option D}(u:eD Ω e kvs)(w:aL P Ω kvs E)(x:Ω[t]?=some (.dK c))(g:aL (λj=>b<=j) Ω c (b9 a (aU E)))(y:b<=Ω.length)(z:n∈nms E)(k:n∉a)(o:a.length<=100)(p:(aU E n).length<=100) :
  ∃f au,NM (TU ns e t s a4 (oS n)) Ω=.nx (TU ns e t s a4 (oS n)) au/\au[t]?=some (.dK f)/\aL (λj=>b<=j) au f (b9 (a++[n]) (aU E))/\ag [t] Ω au:=by
 obtain⟨j,A,_,q⟩:=w.at z;have l:ag [] Ω (Ω++[Cell.lst ((aU E n).map .str)]):=ag.app;have h:=l.get _ _ x (by simp)
 have m:=g.keep l (by simp)
 have i:=m.put (n:=n) (by rw[bJ];exact k) y az
 have B:=jw (n:=n) (d:=.ref Ω.length) h (by have:=g.len;simp[b9]at this;omega)
 have r:ag [t] (Ω++[Cell.lst ((aU E n).map .str)]) (List.set _ t (.dK (cK c (.inr n) (.ref Ω.length)))):=ag.set (by simp)
 refine⟨_,_,?_,aZ h,?_,(ek.up l).trans r⟩
 .unfold NM
  have v1:(mN (bG .list) (ae (m2 aM (aa 1) (aa 5)) aj)) (TU ns e t s a4 (oS n)) Ω=.ok (.ref Ω.length) (Ω++[Cell.lst ((aU E n).map .str)]):=by simp[(eZ (n:=n) u A),(eE q)]
  have:cC (aa 2) (aa 5) (mN (bG .list) (ae (m2 aM (aa 1) (aa 5)) aj)) (TU ns e t s a4 (oS n)) Ω=.nx (TU ns e t s a4 (oS n)) (List.set (Ω++[Cell.lst ((aU E n).map .str)]) t (.dK (cK c (.inr n) (.ref Ω.length)))):=by
   unfold cC;rw[v1]
   simp_all
  simp_all
 .have C:=i.dC r (λj q F=>by simp_all)
  have:b9 a (aU E)++[(n,aU E n)]=b9 (a++[n]) (aU E):=by simp[b9]
  simp_all
theorem Du(G:Gd E)(b:zs.Perm (nms E)):Gd (b9 zs (aU E)) where
 nd:=by rw[bJ];exact b.nodup_iff.mpr G.nd
 el:=λm a x c=>by
  rw[bJ]at a ⊢;rw[dE a]at c;exact b.mem_iff.mpr (G.el m (b.mem_iff.mp a) x c)
 rk:=by
  obtain⟨rk,h⟩:=G.rk;refine⟨rk,λm a x c=>?_⟩
  rw[bJ]at a;rw[dE a]at c;exact h m (b.mem_iff.mp a) x c
 few:=by have:=b.length_eq;simp[b9,nms]at *;have:=G.few;omega
 short:=λm a=>by
  rw[bJ]at a;rw[dE a];exact G.short m (b.mem_iff.mp a)
theorem Ax(b:qV E L)(c:zs.Perm (nms E)):qV (b9 zs (aU E)) L:=λm a=>by
 rw[bJ]at a;rw[dE a];exact b m (by grind)
def LY:EM:=(m2 (aN .Add) (dJ (aa 3) false (aa 4) true (ai .non)) (dJ (aa 3) true (ai .non) false (aa 4)))
def Hd(F:List D->Out Rs):SM:=
 (ak (aE 2 cU)
 (ak (aE 3 (mN (jU g_ iI) (ae (aa 1) aj)))
 (ak (aE 4 (mN (cW F) (ae (aa 0) (ae (ai (.int 17)) (ae (mN (bG .len) (ae (aa 3) aj)) aj)))))
 (ak (dM (bN 5) (bg LY)
 NM)
 (ak (cf (aa 2))
 aq)))))
theorem Gy{b:List Str}{d:Nat}{a5:Option D}(f:Ω[s]?=some (.lst (b.map .str)))(l:b.length<=100):∃au,LY (TU ns e t s (oI d) a5) Ω=.ok (.ref (Ω.length+2)) au/\au[Ω.length+2]?=some (.lst ((b.drop d++b.take d).map .str))/\ag [] Ω au:=by
 have m:=zD (i:=d) f;have j:(Ω++[Cell.lst ((b.drop d).map .str)])[Ω.length]?=some _:=az;have o:(Ω++[Cell.lst ((b.drop d).map .str)]).length=Ω.length+1:=by simp
 have g:ag [] Ω (Ω++[Cell.lst ((b.drop d).map .str)]):=ag.app;generalize Ω++[Cell.lst _]=a at *;have p:=zz (n:=d) (g.get _ _ f (by simp))
 have k:(a++[Cell.lst ((b.take d).map .str)])[a.length]?=some _:=az;have q:(a++[Cell.lst ((b.take d).map .str)]).length=a.length+1:=by simp
 have h:ag [] _ (a++[Cell.lst ((b.take d).map .str)]):=ag.app;generalize a++[Cell.lst _]=c at *;have r:=oU (h.get _ _ j (by simp)) k (by simp;omega)
 refine⟨c++[.lst ((b.drop d++b.take d).map .str)],?_,?_,(g.trans h).trans ag.app⟩
 .unfold LY
  simp_all
 simp_all
theorem JV(C:eY δ F)(hl:ns.length<=63)(z:eD Ω e kvs)(H:aL P Ω kvs E)(G:Gd E)(h1:1<=E.length)(a0:E.length<=12) :
  ∃(t:Nat) (f:List (Key×D)) (g:List Str) (au:aA),bA 6 2 (Hd F) [SC ns,.ref e] Ω=.ok (.ref t) au/\au[t]?=some (.dK f)/\aL (λj=>Ω.length<=j) au f (b9 g (aU E))/\g.Perm (nms E)/\Ω.length<=t/\ag [] Ω au:=by
 rw[cp (by rfl)]
 show ∃(t:Nat) (f:List (Key×D)) (g:List Str) (au:aA),dy (Hd F [some (SC ns),oR e,none,none,none,none] Ω)=.ok (.ref t) au/\_
 have s1:aE 2 cU [some (SC ns),oR e,none,none,none,none] Ω=.nx [some (SC ns),oR e,oR Ω.length,none,none,none] (Ω++[.dK []]):=rfl;have I:ag [] Ω (Ω++[.dK []]):=ag.app;have g1:(Ω++[Cell.dK []])[Ω.length]?=some (.dK []):=az;have l1:(Ω++[Cell.dK []]).length=Ω.length+1:=by simp
 have le:=z.lt;generalize Ω++[Cell.dK []]=a at *;have e2:=Dt (z.keep I (by simp)) (H.keep I (by simp)) (by omega)
 have J:((nms E).mergeSort cR).length=E.length:=by rw[List.length_mergeSort];simp[nms]
 have L:((nms E).mergeSort cR).Perm (nms E):=List.mergeSort_perm _ _;generalize (nms E).mergeSort cR=h at *;have X:(a++[Cell.lst (h.map .str)])[a.length]?=some (.lst (h.map .str)):=az;have Y:ag [] a (a++[Cell.lst (h.map .str)]):=ag.app;have l2:(a++[Cell.lst (h.map .str)]).length=a.length+1:=by simp
 have s2:aE 3 (mN (jU g_ iI) (ae (aa 1) aj)) [some (SC ns),oR e,oR Ω.length,none,none,none] a=.nx (TU ns e Ω.length a.length none none) (a++[.lst (h.map .str)]):=by
  rw[gQ]
  show cw (jU g_ iI [.ref e] a) _=_
  rw[e2];rfl
 generalize a++[Cell.lst (h.map .str)]=l at *;obtain⟨d0,d1,hd⟩:=C ns 17 E.length hl (by omega) (by omega) (by omega)
 generalize b0:δ ns 17 E.length=d at *;have p:=kq X;rw[List.length_map,J]at p;have ed:d=((d.toNat:Nat):Int):=by omega
 have s3:aE 4 (mN (cW F) (ae (aa 0) (ae (ai (.int 17)) (ae (mN (bG .len) (ae (aa 3) aj)) aj)))) (TU ns e Ω.length a.length none none) l=.nx (TU ns e Ω.length a.length (oI (d.toNat:Nat)) none) l:=by rw[←ed];simp[p,hd]
 obtain⟨q,e3,Z,K3⟩:=Gy (ns:=ns) (e:=e) (t:=Ω.length) (d:=d.toNat) (a5:=none) X (by omega)
 have m:(h.drop d.toNat++h.take d.toNat).Perm (nms E):=(List.perm_append_comm.trans (List.Perm.of_eq (List.take_append_drop _ _))).trans L;have c0:(h.drop d.toNat++h.take d.toNat).length=E.length:=by have:=m.length_eq;simpa[nms]using this
 generalize h.drop d.toNat++h.take d.toNat=g at *;have M:g.Nodup:=m.nodup_iff.mpr G.nd
 have N:bg LY (TU ns e Ω.length a.length (oI (d.toNat:Nat)) none) l=.ok (.seq (.ref (l.length+2))) q:=by
  rw[cg,e3,bU];exact aV (by rw[aF,ay Z])
 have o:ag [] Ω q:=(I.trans Y).trans K3;have e0:=z.keep o (by simp)
 have f0:=H.keep o (by simp)
 have O:=(Y.trans K3).get _ _ g1 (by simp)
 unfold Hd;rw[ah,s1,aJ,ah,s2,aJ,ah,s3,aJ,ah,bZ,N,c_]
 refine bo (R:=λr=>∃(t:Nat) (f:List (Key×D)) (g:List Str) (au:aA),dy (sq r (ak (cf (aa 2)) aq))=.ok (.ref t) au/\au[t]?=some (.dK f)/\aL (λj=>Ω.length<=j) au f (b9 g (aU E))/\g.Perm (nms E)/\Ω.length<=t/\ag [] Ω au) (ds:=g.map .str)
  (λi A c=>∃k a5,A=TU ns e Ω.length a.length (oI (d.toNat:Nat)) a5/\c[Ω.length]?=some (.dK k)/\aL (λj=>Ω.length<=j) c k (b9 (g.take i) (aU E))/\ag [Ω.length] q c) ?_ ?_ ?_ fuel 0 _ _ (by unfold fuel;simp;omega) (Nat.zero_le _) ⟨[],none,rfl,O,.nil,ag.refl⟩
 .rintro i A c ⟨_,_,_,_,_,K⟩
  rw[bY,aF,ay (K.get _ _ Z (by simp;omega))]
 .rintro i dd A c Q ⟨k,a5,rfl,S,B,K⟩
  obtain⟨n,T,rfl⟩:=dg Q;refine⟨TU ns e Ω.length a.length (oI (d.toNat:Nat)) (oS n),rfl,?_⟩;have x:n∈nms E:=m.mem_iff.mp (List.mem_of_getElem? T)
  have U:n∉g.take i:=by
   intro hm;obtain⟨i',u⟩:=List.mem_iff_getElem?.mp hm;have V:=(List.getElem?_eq_some_iff.mp u).1;rw[List.length_take]at V;rw[List.getElem?_take_of_lt (by omega)]at u
   have:=(List.getElem?_inj (by omega) M).mp (u.trans T.symm)
   omega
  have w:ag [] Ω c:=o.new K (by simp)
  obtain⟨y,g0,e5,g5,r5,K5⟩:=Gx (ns:=ns) (s:=a.length) (a4:=oI (d.toNat:Nat)) (b:=Ω.length) (z.keep w (by simp)) (H.keep w (by simp)) S B w.len x U (by rw[List.length_take];omega) (G.short n x)
  rw[e5];refine⟨y,oS n,rfl,g5,?_,K.trans K5⟩;rw[List.take_succ,T];exact r5
 .rintro A c ⟨k,a5,rfl,S,B,K⟩
  rw[List.length_map,List.take_length]at B;rw[aJ];exact⟨Ω.length,k,g,c,rfl,S,B,m,Nat.le_refl _,o.new K (by simp)⟩
end
end Mir
namespace Mir
open PySem L2
variable [aw]
section
variable{Ω au:aA}{ρ:aK}{σ:Str->Int}{kl fn kt:Nat}{line ps:List Str}{w:Str}{M:List (List D->aX)}{kvs:List (List Key×D)}{f:D}{v:Int}
def dS:SM:=(ak (cf (m2 aM (aa 2) (mN f7 (ae (aa 0) (ae (aa 1) aj))))) aq)
structure Tells(M:List (List D->aX))(fn kt:Nat)(w:Str)(σ:Str->Int)(line:List Str)(Ω:aA):Prop where
 ex:∃j kvs,M[j]?=some (sE 2 dS)/\Ω[fn]?=some (.fn j [.ref kt])/\Ω[kt]?=some (.dT kvs)/\sF kvs w line σ
theorem JW(T:Tells M fn kt w σ line Ω){i:Nat}{x:Str}{as:AM}(a:ρ[i]?=some (some (.ref fn)))(d:x∈line)(e:as ρ Ω=.ok [.str x,.str w] Ω):eo M i as ρ Ω=.ok (.int (σ x)) Ω:=by
 obtain⟨j,f,g,c,h,k⟩:=T.ex;rw[qQ (j:=j) (de:=[.ref kt]) a (uE c),e,bU,zA c g];obtain⟨_,_,l⟩:=k x d;have b:=zh h l
 have:sE 2 dS [.ref kt] [.str x,.str w] Ω=.ok (.int (σ x)) Ω:=by
  show dy _=_
  simp[dS,aI,b]
 simp_all
end
section
variable{Ω au:aA}{ρ:aK}{kl j:Nat}{line us vs:List Str}{x:Str}
def nE:SM:=
 (ak (eU (m2 (aQ .NotIn) (aa 1) (aa 0))
 (ak dw
 aq)
 aq)
 (ak (cf (dJ (aa 0) false (m2 (aN .Add) (cB gY du (aa 0) (ae (aa 1) aj)) (ai (.int 1))) true (ai .non)))
 aq))
theorem Dv(a:Ω[kl]?=some (.lst (line.map .str)))(b:x∈line):bA 2 2 nE [.ref kl,.str x] Ω=.ok (.ref Ω.length) (Ω++[.lst ((line.drop (line.idxOf x+1)).map .str)]):=by
 show dy (nE [some _,some _] Ω)=_
 have e:=kr (w:=x) a;have c:=gR a b;have f:=zD (i:=line.idxOf x+1) a
 have m1:cB gY du (aa 0) (ae (aa 1) aj) [some (.ref kl),some (.str x)] Ω=.ok (.int (line.idxOf x)) Ω:=by
  rw[fc rfl (dB a)];simp[c]
 have d:dj (m2 (aQ .NotIn) (aa 1) (aa 0) [some (.ref kl),some (.str x)] Ω)=.ok false Ω:=by
  simp_all
 unfold nE
 simp_all
end
section
variable{Ω au:aA}{kl:Nat}{line:List Str}
end
section
variable{Ω au:aA}{kl q fn:Nat}{line:List Str}{w:Str}{σ:Str->Int}
end
section
variable{Ω au:aA}{ρ:aK}{σ:Str->Int}{kl fn kt:Nat}{line:List Str}{w:Str}{M:List (List D->aX)}{kvs:List (List Key×D)}
theorem wD(σ:Str->Int)(line:List Str):((line.map D.str).filter λd=>match d with|.str x=>!(σ x==0)|_=>false).map (λd=>d)=(line.filter λx=>!(σ x==0)).map .str:=by
 rw[List.filter_map,List.map_map];rfl
theorem Ay(T:Tells M fn kt w σ line Ω)(a:Ω[kl]?=some (.lst (line.map .str)))(g:line.length<=1000) :
  bA 3 3 (di M) [.ref kl,.str w,.ref fn] Ω=.ok (.ref Ω.length) (Ω++[.lst ((line.filter λx=>!(σ x==0)).map .str)]):=by
 rw[cp (by rfl)]
 have h:bu 3 [D.ref kl,.str w,.ref fn]=[some _,some _,some _]:=rfl
 have c:=dA (Ω:=Ω) (au:=Ω) (ρ:=[some (.ref kl),some _,some _]) (me:=aa 0) (nc:=false) (mi:=bg (aa 0)) (cap:=[2,1]) (src:=.seq (.ref kl))
  (p:=λd=>match d with|.str x=>!(σ x==0)|_=>false) (by simp[aV (by rw[aF,ay a])]) (by rw[bY,aF,ay a]) (λd b=>by
   obtain⟨x,f,rfl⟩:=List.mem_map.mp b;have e:=JW T (ρ:=[some (.str x),some _,some (.str w)]) (i:=1) (as:=ae (aa 0) (ae (aa 2) aj)) rfl f (by simp)
   show dj (m2 (aQ .NotEq) (eo M 1 (ae (aa 0) (ae (aa 2) aj))) (ai (.int 0)) [some _,some (.ref fn),some (.str w)] Ω)=_
   simp_all) (λd b _=>rfl) (by simp;omega)
 rw[wD]at c;unfold di
 simp_all
end
open PySem.Spec PyProof.Rows
section
variable{Ω au:aA}{σ:Str->Int}{kx kw fn l t kl:Nat}{kvs:List (List Key×D)}{Az:List (Key×D)}{P:Nat->Prop}{zs line rest xs ws:List Str}{L:Str->List Str}{k el w:Str}{ns:List Int}{a1 a6 a7 a8 a9 a10:Option D}
theorem Eh:∀(line b:List Str),∃a d z,jX σ line b=.tup [a,d,z]/\(d=.non\/∃x∈line,d=.str x)
 |[],b=>⟨_,_,_,rfl,.inl rfl⟩
 |x::r,b=>by
  simp only[jX];split
  .obtain⟨a,d,z,h1,h2⟩:=Eh r _
   refine⟨a,d,z,h1,h2.imp id λ⟨y,hy,e⟩=>⟨y,by grind,e⟩⟩
  grind
theorem sW{x:Str}{m:Nat}(c:line.Nodup)(b:x∈line.drop (m+1)):m<line.idxOf x:=by
 obtain⟨i,a⟩:=List.mem_iff_getElem?.mp b;rw[List.getElem?_drop]at a;obtain⟨d,e⟩:=List.getElem?_eq_some_iff.mp a
 grind
abbrev wM:List (List D->aX):=[sE 2 dS]
def QF(a t:Nat)(kvs:List (List Key×D))(_:List Str)(Ω:aA):Prop:=Ω[a]?=some (.fn 0 [.ref t])/\Ω[t]?=some (.dT kvs)
theorem JX(b:sF kvs w line σ):Asks wM fn w σ line [] (max fn t+1) (QF fn t kvs):=by
 refine⟨λd a f i h K j=>⟨K.get _ _ h.1 λz=>?_,K.get _ _ h.2 λz=>?_⟩,λd a x g k h=>?_,by simp⟩
 .grind
 .grind
 .have c:=zh h.2 (b x g).2.2
  refine⟨uE h.1,a,?_,h,ag.refl⟩;rw[zA h.1 rfl]
  have e:sE 2 dS [.ref t] [.str x,.str w] a=.ok (.int (σ x)) a:=by
   show dy _=_
   simp[dS,aI,c]
  rw[e];rfl
theorem NN(b:Ω[fn]?=some (.fn 0 [.ref t]))(c:Ω[t]?=some (.dT kvs))(a:sF kvs w rest σ)(d:Ω[kl]?=some (.lst (rest.map .str)))(h:rest.length<=100):∃au,bA 6 3 (jv wM) [.ref kl,.str w,.ref fn] Ω=.ok (jX σ rest []) au/\ag [] Ω au:=by
 have i:=bp b;have j:=bp c;obtain⟨e,f,_,g⟩:=zC (JX a) (ys:=[]) d ⟨b,c⟩ (by omega) (by simp) (by simp;omega)
 exact⟨_,f,g⟩
abbrev E6(ns:List Int)(a1:Option D)(a b c l t:Nat)(a6 a7 a8 a9 a10:Option D):aK:=[some (SC ns),a1,oR a,oR b,oR c,oR l,a6,a7,a8,a9,a10,oR t]
def AA:EM:=(cM (aa 0) false (m2 (aQ .In) (aa 0) (m2 aM (aa 2) (aa 1))) (bg (mN (aS (bA 3 3 (di wM))) (ae (m2 aM (aa 5) (aa 6)) (ae (aa 8) (ae (aa 4) aj))))) 0 [7,5])
def LZ:SM:=(ak (cf (ai (.bl false))) aq)
def Gz:EM:=(jr (m2 (aQ .IsNot) (aa 10) (ai .non)) (m2 (aQ .LtE) (cB gY du (m2 aM (aa 5) (aa 6)) (ae (aa 10) aj)) (cB gY du (m2 aM (aa 5) (aa 6)) (ae (aa 7) aj))))
def NO:SM:=
 (ak (aE 9 (mN (aS (bA 3 3 (di wM))) (ae (m2 aM (aa 5) (aa 7)) (ae (aa 8) (ae (aa 4) aj)))))
 (ak (eU (m2 (aQ .NotEq) (aa 9) AA) LZ aq)
 (ak (aE 10 (m2 aM (mN (aS (bA 6 3 (jv wM))) (ae (mN (aS (bA 2 2 nE)) (ae (m2 aM (aa 5) (aa 6)) (ae (aa 7) aj))) (ae (aa 8) (ae (aa 4) aj)))) (ai (.int 1))))
 (ak (eU Gz LZ aq)
 aq))))
theorem GA(hl:Ω[l]?=some (.dK Az))(hr:aL P Ω Az (b9 zs L))(X:Ω[fn]?=some (.fn 0 [.ref t]))(Y:Ω[t]?=some (.dT kvs))(M:k∈zs)(Z:el∈L k)(z:el∈zs)(f:(L el).Sublist (L k))(A:(L k).Nodup)(r:sF kvs w (L k) σ)(q:(L k).length<=12) :
  ∃N B au,NO (E6 ns a1 kx kw fn l t (oS k) (oS el) (oS w) a9 a10) Ω=.nx (E6 ns a1 kx kw fn l t (oS k) (oS el) (oS w) N B) au/\ag [] Ω au:=by
 have C:sF kvs w (L el) σ:=λx s=>r x (f.subset s)
 have O:(L el).length<=12:=Nat.le_trans f.length_le q
 have i:∀{a:aA},ag [] Ω a->∀m∈zs,∃j,aM (.ref l) (.str m) a=.ok (.ref j) a/\a[j]?=some (.lst ((L m).map .str)):=λ{a} K m hm=>by
  obtain⟨j,h1,_,h2⟩:=(hr.keep K (by simp)).at (n:=m) (by rw[bJ];exact hm)
  rw[dE hm]at h2;exact⟨j,eZ (.inl (K.get _ _ hl (by simp))) h1,h2⟩
 have o:∀{a:aA}{line:List Str},ag [] Ω a->sF kvs w line σ->Tells wM fn t w σ line a:=λK h=>⟨0,kvs,rfl,K.get _ _ X (by simp),K.get _ _ Y (by simp),h⟩
 obtain⟨j1,x1,g1⟩:=i ag.refl el z;have e1:=Ay (o ag.refl C) g1 (by omega)
 have J:ag [] Ω (Ω++[.lst (((L el).filter λx=>!(σ x==0)).map .str)]):=ag.app
 have o1:(Ω++[Cell.lst (((L el).filter λx=>!(σ x==0)).map .str)])[Ω.length]?=some (.lst (((L el).filter λx=>!(σ x==0)).map .str)):=az
 have s1:aE 9 (mN (aS (bA 3 3 (di wM))) (ae (m2 aM (aa 5) (aa 7)) (ae (aa 8) (ae (aa 4) aj)))) (E6 ns a1 kx kw fn l t (oS k) (oS el) (oS w) a9 a10) Ω=.nx (E6 ns a1 kx kw fn l t (oS k) (oS el) (oS w) (oR Ω.length) a10) (Ω++[.lst (((L el).filter λx=>!(σ x==0)).map .str)]):=by simp[x1,e1]
 generalize Ω++[Cell.lst (((L el).filter λx=>!(σ x==0)).map .str)]=a at *
 obtain⟨j2,x2,g2⟩:=i J k M;have e2:=Ay (o J r) g2 (by omega)
 have Q:ag [] a (a++[.lst (((L k).filter λx=>!(σ x==0)).map .str)]):=ag.app
 have o2:(a++[Cell.lst (((L k).filter λx=>!(σ x==0)).map .str)])[a.length]?=some (.lst (((L k).filter λx=>!(σ x==0)).map .str)):=az
 generalize a0:a++[Cell.lst (((L k).filter λx=>!(σ x==0)).map .str)]=b at *
 obtain⟨j3,x3,g3⟩:=i (J.trans Q) el z
 have E:bg (mN (aS (bA 3 3 (di wM))) (ae (m2 aM (aa 5) (aa 6)) (ae (aa 8) (ae (aa 4) aj)))) (E6 ns a1 kx kw fn l t (oS k) (oS el) (oS w) (oR Ω.length) a10) a=.ok (.seq (.ref a.length)) b:=by
  rw[cg];have:mN (aS (bA 3 3 (di wM))) (ae (m2 aM (aa 5) (aa 6)) (ae (aa 8) (ae (aa 4) aj))) (E6 ns a1 kx kw fn l t (oS k) (oS el) (oS w) (oR Ω.length) a10) a=.ok (.ref a.length) b:=by simp[x2,e2]
  rw[this,bU];exact aV (by rw[aF,ay o2])
 have b0:((L k).filter λx=>!(σ x==0)).length<=12:=Nat.le_trans (List.length_filter_le _ _) q
 have e3:=dA (me:=aa 0) (nc:=false) (mc:=m2 (aQ .In) (aa 0) (m2 aM (aa 2) (aa 1))) (cap:=[7,5]) (p:=λd=>match d with|.str x=>decide (x∈L el)|_=>false) (g:=λd=>d) E (by rw[bY,aF,ay o2]) (λd hd=>by
  obtain⟨x,s,rfl⟩:=List.mem_map.mp hd
  show dj (m2 (aQ .In) (aa 0) (m2 aM (aa 2) (aa 1)) [oS x,oS el,oR l] b)=_
  have R:=sx (w:=x) g3
  have:m2 (aQ .In) (aa 0) (m2 aM (aa 2) (aa 1)) [oS x,oS el,oR l] b=.ok (.bl (decide (x∈L el))) b:=by
   rw[ui]
   show((m2 aM (aa 2) (aa 1) [oS x,oS el,oR l] b).bind _)=_
   rw[ui]
   show(((aM (.ref l) (.str el) b)).bind _)=_
   rw[x3,bU,R]
  rw[this];rfl) (λd hd _=>rfl) (by simp;omega)
 have S:(((((L k).filter λx=>!(σ x==0)).map D.str).filter λd=>match d with|.str x=>decide (x∈L el)|_=>false).map λd=>d)=((L el).filter λx=>!(σ x==0)).map .str:=by
  rw[List.filter_map,List.map_map];rw[wz f A (λx=>!(σ x==0))]
  rfl
 rw[S]at e3;have K3:ag [] b (b++[.lst (((L el).filter λx=>!(σ x==0)).map .str)]):=ag.app
 have o3:(b++[Cell.lst (((L el).filter λx=>!(σ x==0)).map .str)])[b.length]?=some (.lst (((L el).filter λx=>!(σ x==0)).map .str)):=az
 generalize b++[Cell.lst (((L el).filter λx=>!(σ x==0)).map .str)]=c at *
 have F:=CS ((Q.trans K3).get _ _ o1 (by simp)) o3
 rw[decide_eq_true rfl]at F
 have s2:eU (m2 (aQ .NotEq) (aa 9) AA) LZ aq (E6 ns a1 kx kw fn l t (oS k) (oS el) (oS w) (oR Ω.length) a10) a=.nx (E6 ns a1 kx kw fn l t (oS k) (oS el) (oS w) (oR Ω.length) a10) c:=by
  have:m2 (aQ .NotEq) (aa 9) AA (E6 ns a1 kx kw fn l t (oS k) (oS el) (oS w) (oR Ω.length) a10) a=.ok (.bl false) c:=by
   rw[ui]
   show((AA (E6 ns a1 kx kw fn l t (oS k) (oS el) (oS w) (oR Ω.length) a10) a).bind _)=_
   rw[show AA (E6 ns a1 kx kw fn l t (oS k) (oS el) (oS w) (oR Ω.length) a10) a=_ from e3,bU,F]
   rfl
  rw[gz,this];rfl
 have G:ag [] Ω c:=(J.trans Q).trans K3;obtain⟨j4,x4,g4⟩:=i G k M;have e4:=Dv g4 Z;have K4:ag [] c (c++[.lst (((L k).drop ((L k).idxOf el+1)).map .str)]):=ag.app;have o4:(c++[Cell.lst (((L k).drop ((L k).idxOf el+1)).map .str)])[c.length]?=some (.lst (((L k).drop ((L k).idxOf el+1)).map .str)):=az;generalize c++[Cell.lst (((L k).drop ((L k).idxOf el+1)).map .str)]=c0 at *;have u:=G.trans K4;obtain⟨e,e5,K5⟩:=NN (u.get _ _ X (by simp)) (u.get _ _ Y (by simp)) (w:=w) (σ:=σ) (λx s=>r x (List.mem_of_mem_drop s)) o4 (by rw[List.length_drop];omega)
 obtain⟨pa,y,pz,H,T⟩:=Eh (σ:=σ) ((L k).drop ((L k).idxOf el+1)) [];rw[H]at e5;have i5:aM (.tup [pa,y,pz]) (.int 1) e=.ok y e:=ze rfl;have s3:aE 10 (m2 aM (mN (aS (bA 6 3 (jv wM))) (ae (mN (aS (bA 2 2 nE)) (ae (m2 aM (aa 5) (aa 6)) (ae (aa 7) aj))) (ae (aa 8) (ae (aa 4) aj)))) (ai (.int 1))) (E6 ns a1 kx kw fn l t (oS k) (oS el) (oS w) (oR Ω.length) a10) c=.nx (E6 ns a1 kx kw fn l t (oS k) (oS el) (oS w) (oR Ω.length) (some y)) e:=by simp[x4,e4,e5,i5]
 have I:=u.trans K5;obtain⟨j6,x6,U⟩:=i I k M
 have s4:eU Gz LZ aq (E6 ns a1 kx kw fn l t (oS k) (oS el) (oS w) (oR Ω.length) (some y)) e=.nx (E6 ns a1 kx kw fn l t (oS k) (oS el) (oS w) (oR Ω.length) (some y)) e:=by
  unfold Gz;rcases T with rfl|⟨x,s,rfl⟩
  .simp[dP,isD]
  .have q1:=gR U (List.mem_of_mem_drop s)
   have q2:=gR U Z;have e0:=sW A s;have V:¬ (((L k).idxOf x:Nat):Int)<=((L k).idxOf el:Nat):=by omega
   simp[dP,isD,cB,x6,dB U,q1,q2,V]
 refine⟨oR Ω.length,some y,e,?_,I⟩;unfold NO;rw[ah,s1,aJ,ah,s2,aJ,ah,s3,aJ,ah,s4,aJ];rfl
end
section
variable{Ω au:aA}{kx kw fn l t:Nat}{kvs:List (List Key×D)}{Az:List (Key×D)}{P:Nat->Prop}{zs xs ws:List Str}{L:Str->List Str}{k el w:Str}{ns:List Int}{a1 a6 a7 a8 a9 a10:Option D}{F:List D->Out Rs}{δ:List Int->Int->Int->Int}
structure S6(Ω:aA)(kx kw fn l t:Nat)(xs ws zs:List Str)(Az:List (Key×D))(L:Str->List Str)(P:Nat->Prop)(kvs:List (List Key×D)):Prop where
 hx:Ω[kx]?=some (.lst (xs.map .str))
 hw:Ω[kw]?=some (.lst (ws.map .str))
 hf:Ω[fn]?=some (.fn 0 [.ref t])
 ht:Ω[t]?=some (.dT kvs)
 hl:Ω[l]?=some (.dK Az)
 hr:aL P Ω Az (b9 zs L)
theorem S6.keep(h:S6 Ω kx kw fn l t xs ws zs Az L P kvs)(K:ag [] Ω au):S6 au kx kw fn l t xs ws zs Az L P kvs:=⟨K.get _ _ h.hx (by simp),K.get _ _ h.hw (by simp),K.get _ _ h.hf (by simp),K.get _ _ h.ht (by simp),K.get _ _ h.hl (by simp),h.hr.keep K (by simp)⟩
structure Q6(zs xs ws:List Str)(L:Str->List Str)(kvs:List (List Key×D)):Prop where
 xz:∀x∈xs,x∈zs
 lz:∀k∈zs,∀x∈L k,x∈zs/\x∈xs
 sub:∀k∈zs,∀x∈L k,(L x).Sublist (L k)
 nd:∀k∈zs,(L k).Nodup
 len:∀k∈zs,(L k).length<=12
 has:iU kvs λx w=>x∈xs/\w∈ws
def GB(kvs:List (List Key×D))(w x:Str):Int:=match bQ kvs (AI x w)with
 |some (.int v)=>v
 |_=>0
theorem QG(q:Q6 zs xs ws L kvs)(a:w∈ws)(b:k∈zs):sF kvs w (L k) (GB kvs w):=λx c=>by
 obtain⟨v,d,v1,e⟩:=q.has x w ⟨(q.lz k b x c).2,a⟩;have:GB kvs w x=v:=by unfold GB;rw[e]
 rw[this];exact⟨d,v1,e⟩
def NP:SM:=ak (dM (bN 8) (bg (aa 3)) NO) aq
def NQ:SM:=ak (dM (bN 7) (bg (m2 aM (aa 5) (aa 6))) NP) aq
theorem GC(h:S6 Ω kx kw fn l t xs ws zs Az L P kvs)(q:Q6 zs xs ws L kvs)(f:k∈zs)(m:el∈L k)(o:ws.length<=20):∃b c a au,NP (E6 ns a1 kx kw fn l t (oS k) (oS el) a8 a9 a10) Ω=.nx (E6 ns a1 kx kw fn l t (oS k) (oS el) b c a) au/\ag [] Ω au:=by
 have n:bg (aa 3) (E6 ns a1 kx kw fn l t (oS k) (oS el) a8 a9 a10) Ω=.ok (.seq (.ref kw)) Ω:=by simp[aV (by rw[aF,ay h.hw])]
 unfold NP;rw[ah,bZ,n,c_];refine bo (R:=λr=>∃b c a au,sq r _=.nx (E6 ns a1 kx kw fn l t _ _ b c a) au/\ag [] Ω au) (ds:=ws.map .str) (λ_ g e=>∃b c a,g=E6 ns a1 kx kw fn l t _ _ b c a/\ag [] Ω e) ?_ ?_ ?_ _ 0 _ _ (by unfold fuel;simp;omega) (Nat.zero_le _) ⟨a8,a9,_,rfl,ag.refl⟩
 .rintro i g e ⟨_,_,_,_,K⟩
  rw[bY,aF,ay (h.keep K).hw]
 .rintro i d g e p ⟨b,c,a,rfl,K⟩
  obtain⟨w,s,rfl⟩:=dg p;refine⟨E6 ns a1 kx kw fn l t _ _ _ _ _,rfl,?_⟩;have j:=h.keep K;obtain⟨A,u,x,y,z⟩:=GA j.hl j.hr j.hf j.ht f m (q.lz k f el m).1 (q.sub k f el m) (q.nd k f) (QG q (List.mem_of_getElem? s) f) (q.len k f);rw[y];exact⟨_,_,_,rfl,K.trans z⟩
 .rintro g e ⟨b,c,a,rfl,K⟩
  exact⟨_,_,_,_,rfl,K⟩
theorem GD(h:S6 Ω kx kw fn l t xs ws zs Az L P kvs)(q:Q6 zs xs ws L kvs)(g:k∈zs)(n:ws.length<=20):∃b c e a au,NQ (E6 ns a1 kx kw fn l t (oS k) a7 a8 a9 a10) Ω=.nx (E6 ns a1 kx kw fn l t (oS k) b c e a) au/\ag [] Ω au:=by
 obtain⟨j,w,_,o⟩:=h.hr.at (by rw[bJ];exact g)
 rw[dE g]at o;have p:=eZ (.inl h.hl) w
 have s:bg (m2 aM (aa 5) (aa 6)) (E6 ns a1 kx kw fn l t (oS k) a7 a8 a9 a10) Ω=.ok (.seq (.ref j)) Ω:=by
  show((aM _ _ Ω).bind _)=_
  rw[p];exact aV (by rw[aF,ay o])
 have u:=q.len k g;unfold NQ;rw[ah,bZ,s,c_];refine bo (R:=λr=>∃b c e a au,sq r _=.nx (E6 ns a1 kx kw fn l t _ b c e a) au/\ag [] Ω au) (ds:=(L k).map .str) (λ_ m f=>∃b c e a,m=E6 ns a1 kx kw fn l t _ b c e a/\ag [] Ω f) ?_ ?_ ?_ _ 0 _ _ (by unfold fuel;simp;omega) (Nat.zero_le _) ⟨a7,a8,a9,_,rfl,ag.refl⟩
 .rintro i m f ⟨_,_,_,_,_,K⟩
  rw[bY,aF,ay (K.get _ _ o (by simp))]
 .rintro i d m f y ⟨b,c,e,a,rfl,K⟩
  obtain⟨x,z,rfl⟩:=dg y;refine⟨E6 ns a1 kx kw fn l t _ _ _ _ _,rfl,?_⟩;obtain⟨E,F,A,B,C,D⟩:=GC (h.keep K) q g (List.mem_of_getElem? z) n;rw[C];exact⟨_,_,_,_,rfl,K.trans D⟩
 .rintro m f ⟨b,c,e,a,rfl,K⟩
  exact⟨_,_,_,_,_,rfl,K⟩
def NS:SM:=ak (dM (bN 6) (bg (aa 2)) NQ) (ak (cf (ai (.bl true))) aq)
theorem GF(h:S6 Ω kx kw fn l t xs ws zs Az L P kvs)(q:Q6 zs xs ws L kvs)(n:xs.length<=20)(j:ws.length<=20):∃au,dy (NS (E6 ns a1 kx kw fn l t a6 a7 a8 a9 a10) Ω)=.ok (.bl true) au:=by
 have k:bg (aa 2) (E6 ns a1 kx kw fn l t a6 a7 a8 a9 a10) Ω=.ok (.seq (.ref kx)) Ω:=by simp[aV (by rw[aF,ay h.hx])]
 unfold NS;rw[ah,bZ,k,c_];refine bo (R:=λr=>∃au,dy (sq r _)=.ok _ au) (ds:=xs.map .str) (λ_ m b=>∃c e f g a,m=E6 ns a1 kx kw fn l t c e f g a/\ag [] Ω b) ?_ ?_ ?_ _ 0 _ _ (by unfold fuel;simp;omega) (Nat.zero_le _) ⟨a6,a7,a8,a9,_,rfl,ag.refl⟩
 .rintro i m b ⟨_,_,_,_,_,_,K⟩
  rw[bY,aF,ay (h.keep K).hx]
 .rintro i d m b o ⟨c,e,f,g,a,rfl,K⟩
  obtain⟨x,p,rfl⟩:=dg o;refine⟨E6 ns a1 kx kw fn l t (oS x) _ _ _ _,rfl,?_⟩;obtain⟨z,A,B,s,u,w,y⟩:=GD (h.keep K) q (q.xz x (List.mem_of_getElem? p)) j;rw[w];exact⟨_,_,_,_,_,rfl,K.trans y⟩
 .simp
end
section
variable{Ω au:aA}{ns:List Int}{F:List D->Out Rs}{δ:List Int->Int->Int->Int}
def L4(F:List D->Out Rs):SM:=
 (ak (aE 1 (m2 (aN .Add) (ai (.int 1)) (mN (cW F) (ae (aa 0) (ae (ai (.int 6)) (ae (ai (.int 7)) aj))))))
 (ak (eU (m2 (aQ .Eq) (mN (cW F) (ae (aa 0) (ae (ai (.int 7)) (ae (ai (.int 12)) aj)))) (ai (.int 1)))
 (ak (aE 1 (ai (.int 12)))
 aq)
 aq)
 (ak (aE 2 (mN (aS (bA 12 3 (gS F))) (ae (aa 0) (ae (ai (.int 0)) (ae (aa 1) aj)))))
 (ak (aE 3 (mN (aS (bA 12 3 (gS F))) (ae (aa 0) (ae (ai (.int 10)) (ae (m2 (aN .Add) (ai (.int 1)) (mN (cW F) (ae (aa 0) (ae (ai (.int 16)) (ae (ai (.int 2)) aj))))) aj)))))
 (ak (aE 11 (mN (aS (bA 9 4 (ku F))) (ae (aa 0) (ae (ai (.int 20)) (ae (aa 2) (ae (aa 3) aj))))))
 aq)))))
def L5(F:List D->Out Rs)(LD a:aX):SM:=
 (ak (aE 5 (mN (aS a) (ae (mN (aS (bA 6 2 (Hd F))) (ae (aa 0) (ae (mN (aS (bA 6 2 (Hc F LD))) (ae (aa 0) (ae (aa 2) aj))) aj))) aj)))
 NS)
theorem GG{LD z:aX}{p q r t:Nat}{kvs:List (List Key×D)}{xs s:List Str}{a1:Option D}(f:eY δ F)(A:JT LD)(B:zK z)(N:ns.length<=63)(b:Ω[p]?=some (.lst (xs.map .str)))(O:Ω[q]?=some (.lst (s.map .str)))(P:Ω[r]?=some (.fn 0 [.ref t]))(R:Ω[t]?=some (.dT kvs))(C:xs.Nodup)(x1:1<=xs.length)(H:xs.length<=12)(I:s.length<=20)(V:iU kvs λx w=>x∈xs/\w∈s) :
  ∃au,dy (L5 F LD z [some (SC ns),a1,oR p,oR q,oR r,none,none,none,none,none,none,oR t] Ω)=.ok (.bl true) au:=by
 obtain⟨e,X,E,L,Y,Z,g1,r1,G,hL,S,le,K1⟩:=JU (LD:=LD) f A N b H C;have a0:E.length=xs.length:=by have:=congrArg List.length S;simpa[nms]using this
 obtain⟨t',J,d,K,e2,g2,r2,u,lt,K2⟩:=JV (ns:=ns) f N (.inl g1) r1 G (by omega) (by omega)
 have g:=Du G u;have a:=Ax hL u;have h:nms (b9 d (aU E))=d:=bJ
 have i:∀n∈d,(L n).length<=12:=λn T=>by
  have:=uV g.toAcy a (n:=n) (by rw[h];exact T)
  have h2:(b9 d (aU E)).length=d.length:=by simp[b9]
  have h3:=u.length_eq
  grind
 obtain⟨l,b0,m,e3,g3,U,K3,_,ll⟩:=B K t' J _ _ L (.inl g2) r2 g a (λn T=>by grind)
 rw[h]at U;have M:=K1.trans K2;have lx:=bp b;have lw:=bp O;have lf:=bp P;have c0:=bp R;have y:∀j c,Ω[j]?=some c->m[j]?=some c:=λj c hj=>K3.get _ _ (M.get _ _ hj (by simp)) (by grind)
 have zx:∀x,x∈d↔x∈xs:=λx=>by rw[u.mem_iff,S,List.mem_reverse]
 have Q:Q6 d xs s L kvs:=⟨λx b=>(zx x).mpr b,λk o x b=>by
   have:=As g.toAcy a (n:=k) (by rw[h];exact o) x b
   simp_all,λk o x b=>Ds g.toAcy a (by rw[h];exact o) x b,λk o=>Au g.toAcy a (by rw[h];exact o),i,V⟩
 unfold L5;have s1:aE 5 (mN (aS z) (ae (mN (aS (bA 6 2 (Hd F))) (ae (aa 0) (ae (mN (aS (bA 6 2 (Hc F LD))) (ae (aa 0) (ae (aa 2) aj))) aj))) aj)) [some (SC ns),a1,oR p,oR q,oR r,none,none,none,none,none,none,oR t] Ω=.nx (E6 ns a1 p q r l t none none none none none) m:=by simp[Z,e2,e3]
 rw[ah,s1,aJ];exact GF ⟨y _ _ b,y _ _ O,y _ _ P,y _ _ R,g3,U⟩ Q (by omega) I
theorem JY{LD y:aX}(b:eY δ F)(i:JT LD)(j:zK y)(d:ns.length<=63):∃au,zo 12 (L4 F) 4 0 [11] (L5 F LD y) [.lst (ns.map .int)] []=.ok (.bl true) au:=by
 obtain⟨S,T,z⟩:=b ns 6 7 d (by omega) (by omega) (by omega)
 obtain⟨U,V,A⟩:=b ns 7 12 d (by omega) (by omega) (by omega)
 obtain⟨X,Y,H⟩:=b ns 16 2 d (by omega) (by omega) (by omega)
 generalize δ ns 6 7=p at *;generalize δ ns 7 12=q at *;generalize δ ns 16 2=r at *
 obtain⟨m,m1,I,J⟩:∃m:Nat,1<=m/\m<=12/\(∀c:SM,(ak (aE 1 (m2 (aN .Add) (ai (.int 1)) (mN (cW F) (ae (aa 0) (ae (ai (.int 6)) (ae (ai (.int 7)) aj)))))) (ak (eU (m2 (aQ .Eq) (mN (cW F) (ae (aa 0) (ae (ai (.int 7)) (ae (ai (.int 12)) aj)))) (ai (.int 1))) (ak (aE 1 (ai (.int 12))) aq) aq) c)) [some (SC ns),none,none,none,none,none,none,none,none,none,none,none] []=c [some (SC ns),oI m,none,none,none,none,none,none,none,none,none,none] []):=by
  by_cases h:q=1
  .refine⟨12,by omega,by omega,λc=>?_⟩
   simp[z,A,h,dP,aH,en]
  .refine⟨(1+p).toNat,by omega,by omega,λc=>?_⟩
   rw[show(((1+p).toNat:Nat):Int)=1+p by omega]
   simp[z,A,h,dP,aH,en]
 obtain⟨Z,k,B,lx,_,l,K,o,K1,_⟩:=m9 (Ω:=[]) b d (a:=0) (by omega) (by omega) (n:=m) (by omega)
 obtain⟨ws,s,C,lw,_,E,f,L,_⟩:=vZ (Ω:=k) b d (a:=10) (by omega) (by omega) (n:=(1+r).toNat) (by omega)
 rw[show(((1+r).toNat:Nat):Int)=1+r by omega]at E
 have g:=L.get _ _ o (by simp)
 obtain⟨M,e,t,N,u,O,_,G,_⟩:=v7 (Ω:=s) b d (a:=20) (by omega) (by omega) g f (by omega) (by omega)
 have w:=G.get _ _ g (by simp)
 have x:=G.get _ _ f (by simp)
 unfold zo;have P:bu 12 [D.lst (ns.map .int)]=[some (SC ns),none,none,none,none,none,none,none,none,none,none,none]:=rfl;rw[P]
 have Q:L4 F [some (SC ns),none,none,none,none,none,none,none,none,none,none,none] []=.nx [some (SC ns),oI m,oR B,oR C,none,none,none,none,none,none,none,oR t] e:=by
  unfold L4;rw[J];simp[K,H,E,N]
 have R:qP 4 0 [11] [some (SC ns),oI m,oR B,oR C,none,none,none,none,none,none,none,oR t] e=.nx _ (e++[.fn 0 [.ref t]]):=rfl;rw[ah,Q,aJ,ah,R,aJ];exact GG b i j d (cJ w) (cJ x) az (cJ u) l (by omega) (by omega) (by omega) O
end
end Mir
namespace Mir
open PySem L2
variable [aw]
section
variable{Ω au:aA}{ρ:aK}{F:List D->Out Rs}{μ:Int->Int->Int->Int}{c:Int}{m:Nat}
def PQ(F:List D->Out Rs):EM:=(cM (mN (cW F) (ae (aa 1) (ae (aa 0) (ae (ai (.int 26)) aj)))) true (ai .non) (gw (ae (ai (.int 8)) aj)) 0 [0])
end
section
variable{Ω au:aA}{ρ:aK}{F C:List D->Out Rs}{μ:Int->Int->Int->Int}{κ:List Int->Nat->Int}{c:Int}{m:Nat}
end
section
variable{Ω au:aA}{ρ:aK}{k:Nat}{js:List Nat}{rs:List (List Str)}{row:List Str}{n:Str}
end
section
variable{Ω au:aA}{ρ:aK}{k:Nat}{js:List Nat}{rs:List (List Str)}{row:List Str}{n:Str}
theorem Dw{j:Nat}{t:Ty}{ds:List D}(h:Ω[j]?=some (.lst ds)):gX t (.ref j) Ω=.ok (.bl (t==.list)) Ω:=by
 unfold gX;rw[Ct];simp only[Fz,h];rfl
end
def L6(O:aX):EM:=cM (mN (aS O) (ae (aa 0) (ae (m2 (aN .Add) (aa 1) (ai (.int 1))) aj))) true (ai .non) (bg (aa 0)) 0 [1]
def nF(O:aX):SM:=
 (ak (eU (m2 (aQ .Eq) (aa 1) (ai (.int 8)))
 (ak (cf (aa 0))
 aq)
 aq)
 (ak (eU (m1 (gX .list) (aa 0))
 (ak (cf (L6 O))
 aq)
 aq)
 (ak (eU (m1 (gX .tuple) (aa 0))
 (ak (cf (mN (bG .tuple) (ae (L6 O) aj)))
 aq)
 aq)
 (ak (eU (m1 (gX .dict) (aa 0))
 (ak dw
 aq)
 aq)
 (ak (cf (aa 0))
 aq)))))
noncomputable def isA:D->Bool
 |.str _=>true
 |.int _=>true
 |_=>false
section
variable{Ω au:aA}{O:aX}
theorem Dx{d:D}(a:isA d=true):bA 2 2 (nF O) [d,.int 2] Ω=.ok d Ω:=by
 show dy (nF O [some d,some _] Ω)=_
 have b:gX .list d Ω=.ok (.bl false) Ω:=by cases d<;>first|rfl|cases a
 have c:gX .tuple d Ω=.ok (.bl false) Ω:=by cases d<;>first|rfl|cases a
 have e:gX .dict d Ω=.ok (.bl false) Ω:=by cases d<;>first|rfl|cases a
 simp[nF,b,c,e]
theorem GH{ds:List D}(h:∀d∈ds,isA d=true)(j:ds.length<=900):bA 2 2 (nF (bA 2 2 (nF O))) [.tup ds,.int 1] Ω=.ok (.tup ds) (Ω++[.lst ds]):=by
 show dy (nF _ [some _,some _] Ω)=_
 have c:gX .list (.tup ds) Ω=.ok _ Ω:=rfl;have e:gX .tuple (.tup ds) Ω=.ok _ Ω:=rfl
 have a:=dA (ρ:=[some (.tup ds),some (.int 1)]) (Ω:=Ω) (me:=mN (aS (bA 2 2 (nF O))) (ae (aa 0) (ae (m2 (aN .Add) (aa 1) (ai (.int 1))) aj))) (nc:=true) (mc:=ai .non) (cap:=[1]) (g:=λd=>d) (mi:=bg (aa 0)) rfl rfl (λd b=>rfl) (λd b _=>by
  have:=Dx (Ω:=Ω) (O:=O) (h d b);simp[eT,this]) (by omega)
 rw[List.filter_eq_self.mpr (by simp)]at a
 have a:L6 _ _ Ω=.ok _ _:=a;have f:(Ω++[Cell.lst ds])[Ω.length]?=some _:=az
 have i:bG .tuple [.ref Ω.length] (Ω++[Cell.lst ds])=.ok (.tup ds) (Ω++[Cell.lst ds]):=by
  show ig [.ref _] _=_
  simp only[ig,aF,ay f]
 generalize bA 2 2 _=O1 at *;simp[nF,c,e,a,i]
theorem wF(s:lQ):∀d∈[D.str s.1,.str s.2.1,.int s.2.2],isA d=true:=by simp[isA]
theorem Ei:wk (bA 2 2 (nF (bA 2 2 (nF (bA 2 2 (nF O)))))):=by
 intro Ω k i b j
 show ∃q c,dy (nF _ [some _,some _] Ω)=_/\_
 have f:=Dw (t:=.list) b
 obtain⟨a,e,K⟩:=FN (ρ:=[some _,some (.int 0)]) (me:=mN (aS (bA 2 2 (nF (bA 2 2 (nF O))))) (ae (aa 0) (ae (m2 (aN .Add) (aa 1) (ai (.int 1))) aj))) (cap:=[1]) (g:=λd=>d) (mi:=bg (aa 0)) (λa=>ag [] Ω a) (by
  exact aV (by rw[aF,ay b])) ag.refl (λa K=>by rw[bY,aF,ay (K.get _ _ b (by simp))]) (λd h a K=>by
  obtain⟨s,_,rfl⟩:=List.mem_map.mp h;have:=GH (Ω:=a) (O:=O) (wF s) (by simp)
  refine⟨a++[Cell.lst [D.str s.1,.str s.2.1,.int s.2.2]],?_,K.trans ag.app⟩;have this:bA 2 2 _ [b_ s,.int 1] _=.ok (b_ s) _:=this;simp[eT,this]) (by simp;omega)
 have e:L6 _ _ Ω=.ok _ _:=e;refine⟨_,a++[.lst _],?_,az,K.len,K.trans ag.app⟩;generalize bA 2 2 _=O2 at *;simp[nF,f,e]
end
open PySem.Spec PyProof.Rows
section
variable{Ω au:aA}{O:aX}
def JZ(a:aX):EM:=mN (λb c=>aS a (b++[.int 0]) c) (ae (aa 1) aj)
def J6(a:aX):EM:=mN (λb c=>aS a (b++[.int 0]) c) (ae (mN (bG .list) (ae (aa 2) aj)) aj)
theorem J7{z:Str}:bA 2 2 (nF O) [.str z,.int 0] Ω=.ok (.str z) Ω:=by
 rfl
theorem J8{a:aX}(d:∀(z:Str) (Ω:aA),a [.str z,.int 0] Ω=.ok (.str z) Ω)(e:wk a):Dm [JZ a,J6 a]:=by
 intro Ω n p c f g
 have h:JZ a [none,some (.str n),some (.ref p)] Ω=.ok (.str n) Ω:=by
  have:=d n Ω;unfold JZ;simp[this]
 have i:=eE f;have j:(Ω++[Cell.lst (c.map b_)])[Ω.length]?=some _:=az;obtain⟨q,b,k,_,_,l⟩:=e _ _ c j g
 have m:J6 a [none,some (.str n),some (.ref p)] Ω=.ok (.ref q) b:=by
  unfold J6;simp[i,k]
 refine⟨_,?_,ag.app.trans l⟩;simp only[gE,h,m]
end
end Mir
namespace L2
open PySem PySem.Spec PyProof.Rows
noncomputable def AB(e:DictEntry):Bool:=match e.key with
 |.str _ _=>true
 |_=>false
def L7(K:PySem.W.Frag)(N:Addr)(nm:Str):Option (Option Value):=match K.lookup N with
 |some ⟨_,_,.dict a _,_⟩=>if a.toList.all AB=true then some (nsFind a nm)else none
 |_=>none
theorem Ej{K:PySem.W.Frag}{N:Addr}{nm:Str}{r:Option Value}(h:L7 K N nm=some r)(a:Heap)(X:K.In a):∃mN,a.Ns N mN/\mN nm=r:=by
 unfold L7 at h;split at h
 .rename_i c d b n i f
  split at h
  .rename_i g
   cases h;refine⟨_,⟨_,b,n,X _ _ f,rfl,λe j=>?_,λ_=>rfl⟩,rfl⟩
   have:=List.all_eq_true.mp g e (by grind)
   unfold AB at this
   grind
  .cases h
 .cases h
def ri(K:PySem.W.Frag):List Value->Bool
 |.ref A::tl=>(match K.lookup A with
  |some ⟨_,_,.cls cd,_⟩=>L7 K cd.ns "__init__"==some none
  |_=>false)&&ri K tl
 |l=>l==oX
theorem uW{K:PySem.W.Frag}:∀{l:List Value},ri K l=true->∀h:Heap,K.In h->OwnTail h oX l
 |[],e,h,X=>by simp[ri]at e
 |a::r,e,h,X=>by
  cases a with
  |ref A=>
   simp only[ri,Bool.and_eq_true]at e;obtain⟨b,f⟩:=e;split at b
   .rename_i c d k m g
    obtain⟨mN,i,j⟩:=Ej (eq_of_beq b) h X;exact .own (X _ _ g) i j (uW f h X)
   .cases b
  |_=>rw[eq_of_beq (e)];exact .base
end L2
namespace Ek
open PySem PySem.Spec PyProof.Rows L2 Mir
noncomputable def top(i:Nat):Stmt:=PySem.Challenge.pw_taglook_k36_whole_elders_found.main.body.getD i (.Pass ⟨0,0,0,0⟩)
def cst:Stmt:=(aT (top 32)).getD 5 (.Pass ⟨0,0,0,0⟩)
def CD0:pY:={name:="_law_strength",qual:="law.<locals>._law_strength",params:=cx cst,body:=aT cst,scope:=af cst,ps:=["_law_kind","_law_word"],cn:=["_law_table_here"]}
instance clos:aw:=⟨λ_=>CD0,λ_=>0⟩
noncomputable def td:List Str:=["_law_table_here"]
def NU:aO:=(({}:aO).Ci "DEEPEST" (.int 8))
noncomputable def PR:List Str:=["_law_cell","_law_turn","_law_many","_law_rest","_law_k","_law_turns","_law_one","_law_two"]
noncomputable def PU:List Str:=["_law_cell","_law_turn","_law_many"]
def PV:SM:=qN
def QH:aX:=bA 8 3 PV
def F0:List Mir.D->Out Rs:=pureOf QH
def NV:aO:=NU.vX "_law_mix" F0
theorem QI:bL PR PU (af (top 25))=true:=by decide +kernel
theorem QJ:cY NU td (top 25) PR=some PV:=rfl
noncomputable def PX:List Str:=["_law_script","_law_k","_law_many","_law_cell"]
noncomputable def PY:List Str:=["_law_script","_law_k","_law_many"]
def PZ:SM:=uA (pureOf (bA 8 3 qN))
def QK:aX:=bA 4 3 PZ
def F1:List Mir.D->Out Rs:=pureOf QK
def P2:aO:=NV.vX "_law_drawn" F1
theorem QL:bL PX PY (af (top 26))=true:=by decide +kernel
theorem QM:cY NV td (top 26) PX=some PZ:=rfl
def U0:aO:=P2
def d0:SM:=dS
def O0:List Mir.D->aX:=sE 2 d0
def U1:aO:=U0.CL O0
theorem QN:oN CD0.ps CD0.cn CD0.scope=true:=by decide +kernel
theorem QO:DZ U0 CD0=some d0:=rfl
noncomputable def P4:List Str:=["thing","depth"]
noncomputable def Dy:List Str:=["thing","depth"]
def O1:aX:=bA 2 2 (nF (bA 2 2 (nF (bA 2 2 (nF λ_ _=>.bad)))))
def U2:aO:=U1
theorem NW:bL P4 Dy (af (top 2))=true:=by decide +kernel
theorem NX(O:aX):cY (U1.dz "own_copy" O) td (top 2) P4=some (nF O):=rfl
noncomputable def P5:List Str:=["line","word","strength","passed","kind","one"]
noncomputable def QP:List Str:=["line","word","strength"]
def d2:SM:=jv wM
def O2:aX:=bA 6 3 d2
def U3:aO:=U2.dz "paper_of" O2
theorem QQ:bL P5 QP (af (top 9))=true:=by decide +kernel
theorem QS:cY U2 td (top 9) P5=some d2:=rfl
def P6:List Str:=["line","start"]
def QU:List Str:=["line","start"]
def d3:SM:=nE
def O3:aX:=bA 2 2 d3
def U4:aO:=U3.dz "rest_behind" O3
theorem QV:bL P6 QU (af (top 10))=true:=by decide +kernel
theorem QW:cY U3 td (top 10) P6=some d3:=rfl
noncomputable def P7:List Str:=["line","word","strength"]
noncomputable def QX:List Str:=["line","word","strength"]
def d4:SM:=di wM
def O4:aX:=bA 3 3 d4
def U5:aO:=U4.dz "found_all" O4
theorem QY:bL P7 QX (af (top 11))=true:=by decide +kernel
theorem QZ:cY U4 td (top 11) P7=some d4:=rfl
noncomputable def P8:List Str:=["elders","order"]
noncomputable def Q2:List Str:=["elders","order"]
def d5:SM:=LJ
def O5:aX:=bA 2 2 d5
def U6:aO:=U5.dz "ready_kinds" O5
theorem Q3:bL P8 Q2 (af (top 14))=true:=by decide +kernel
theorem Q4:cY U5 td (top 14) P8=some d5:=rfl
noncomputable def P9:List Str:=["elders","order","ready"]
noncomputable def Q5:List Str:=["elders"]
def d6:SM:=Nz (bA 2 2 LJ)
def O6:aX:=bA 3 1 d6
def U7:aO:=U6.dz "elders_first" O6
theorem Q7:bL P9 Q5 (af (top 13))=true:=by decide +kernel
theorem Q8:cY U6 td (top 13) P9=some d6:=rfl
noncomputable def P_:List Str:=["elders","order","name","left","met"]
noncomputable def Q9:List Str:=["elders"]
def d7:SM:=
 (ak (aE 1 (mN (aS O6) (ae (aa 0) aj)))
 (ak (aE 3 (cM (aa 0) false (m2 (aQ .NotIn) (aa 0) (aa 1)) (bg (aa 0)) 0 [1]))
 (ak (eU (qh (aa 3))
 (ak (cf (ai .non))
 aq)
 aq)
 (ak (aE 4 (mN cD aj))
 (ak (aE 2 (m2 aM (aa 3) (ai (.int 0))))
 (ak (lg (m2 (aQ .NotIn) (aa 2) (aa 4))
 (ak (eg (cB gY bH (aa 4) (ae (aa 2) aj)))
 (ak (aE 2 (m2 aM (cM (aa 0) false (m2 (aQ .In) (aa 0) (aa 1)) (bg (m2 aM (aa 0) (aa 2))) 0 [3]) (ai (.int 0))))
 aq)))
 (ak (cf (dJ (aa 4) false (cB gY du (aa 4) (ae (aa 2) aj)) true (ai .non)))
 aq)))))))
def O7:aX:=bA 5 1 d7
def U8:aO:=U7.dz "loop_of" O7
theorem Q_:bL P_ Q9 (af (top 15))=true:=by decide +kernel
theorem Ra:cY U7 td (top 15) P_=some d7:=rfl
noncomputable def Qa:List Str:=["left","name","place","row"]
noncomputable def Rb:List Str:=["left","name"]
def d8:SM:=qO
def O8:aX:=bA 4 2 d8
def U9:aO:=U8.dz "place_behind" O8
theorem Rc:bL Qa Rb (af (top 19))=true:=by decide +kernel
theorem Rf:cY U8 td (top 19) Qa=some d8:=rfl
noncomputable def Qb:List Str:=["left","row"]
noncomputable def Rg:List Str:=["left"]
def d9:SM:=CK (bA 4 2 qO)
def O9:aX:=bA 2 1 d9
def L8:aO:=U9.dz "free_name" O9
theorem Rh:bL Qb Rg (af (top 18))=true:=by decide +kernel
theorem Ri:cY U9 td (top 18) Qb=some d9:=rfl
noncomputable def GI:List Str:=["left","heads","name","met","steps","place"]
noncomputable def J9:List Str:=["left"]
def NY:aX:=bA 6 1 (C8 O8)
def L9:aO:=L8.dz "ring_among" NY
theorem NZ:bL GI J9 (af (top 20))=true:=by decide +kernel
theorem N2:bO (iX (D9 L8 (af (top 20)) GI) L8 td 60 (af (top 20)) GI 30) (aT (top 20))=some (C8 O8):=rfl
noncomputable def Dz:List Str:=["rows","left","order","name"]
noncomputable def GJ:List Str:=["rows"]
def L_:aX:=bA 4 1 (qT dw O9)
def N3:aO:={L9 with xt:=true}
def wG:aX:=bA 4 1 (qT (z9 O1 NY) O9)
def N4:aO:=L9.dz "merged" L_
theorem J_:bL Dz GJ (af (top 17))=true:=by decide +kernel
theorem N5:cY L9 td (top 17) Dz=some (qT dw O9):=rfl
theorem Ka:bO (iX (uS N3 (af (top 17)) Dz "Ring" "steps" (JH O1)) N3 td 60 (af (top 17)) Dz 30) (aT (top 17))=some (qT (z9 O1 NY) O9):=rfl
noncomputable def Kb:List Str:=["lines","own_elders"]
noncomputable def N6:List Str:=["lines","own_elders"]
def Qc:SM:=NB
def He:aX:=bA 2 2 Qc
def Ma:aO:=N4.dz "rows_by" He
theorem N7:bL Kb N6 (af (top 23))=true:=by decide +kernel
theorem N8:cY N4 td (top 23) Kb=some Qc:=rfl
noncomputable def AD:List Str:=["elders","ring","lines","tangles","name","refusal"]
noncomputable def GK:List Str:=["elders"]
def ms:List EM:=[JZ O1,J6 O1]
def Mb:aO:={Ma with xt:=true}
def N9:aX:=bA 6 1 (LR O7 O6 L_ He)
def DA:aX:=bA 6 1 (Gr ms O7 O6 wG He)
def N_(st:Stmt):Option SM:=(Ag Mb (af (top 22)) AD "merged" "Ring" "steps" wG st).or (Ed Mb (af (top 22)) AD "Tangled" 2 ms st)
def Oa:aO:=Ma.dz "lines_of" N9
theorem GL:bL AD GK (af (top 22))=true:=by decide +kernel
theorem Ob:cY Ma td (top 22) AD=some (LR O7 O6 L_ He):=rfl
theorem Kc:bO (iX N_ Mb td 60 (af (top 22)) AD 30) (aT (top 22))=some (Gr ms O7 O6 wG He):=rfl
noncomputable def Kd:List Str:=["_law_script","_law_at","_law_many","_law_letters","_law_first","_law_step","_law_base","_law_size","_law_place","_law_names_here","_law_k","_law_sign"]
noncomputable def Oc:List Str:=["_law_script","_law_at","_law_many"]
def Qd:SM:=gS F1
def Rj:aX:=bA 12 3 Qd
def Od:aO:=Oa.dz "_law_names" Rj
theorem Oe:bL Kd Oc (af (top 27))=true:=by decide +kernel
theorem Of:cY Oa td (top 27) Kd=some Qd:=rfl
noncomputable def Ke:List Str:=["_law_script","_law_at","_law_kinds","_law_words","_law_table_here","_law_dense","_law_kind","_law_word","_law_pick"]
noncomputable def Og:List Str:=["_law_script","_law_at","_law_kinds","_law_words"]
def Qe:SM:=ku F1
def Rk:aX:=bA 9 4 Qe
def Mc:aO:=Od.dz "_law_table" Rk
theorem Oh:bL Ke Og (af (top 28))=true:=by decide +kernel
theorem Oi:cY Od td (top 28) Ke=some Qe:=rfl
noncomputable def GN:List Str:=["_law_elders_here","_law_found"]
noncomputable def Kf:List Str:=["_law_elders_here"]
def Md:aX:=ny (bA 2 1 (Dr DA))
def Oj:aO:=Mc.dz "_law_lined" Md
theorem Kg:bL GN Kf (af (top 29))=true:=by decide +kernel
theorem Ol:bO (iX (Ai Mc (af (top 29)) GN "lines_of" "Tangled" DA) Mc td 60 (af (top 29)) GN 30) (aT (top 29))=some (Dr DA):=rfl
noncomputable def Kh:List Str:=["_law_script","_law_kinds","_law_elders_here","_law_k","_law_some","_law_j"]
noncomputable def Om:List Str:=["_law_script","_law_kinds"]
def Qf:SM:=Hc F1 Md
def Rl:aX:=bA 6 2 Qf
def Oo:aO:=Oj.dz "_law_elders" Rl
theorem Oq:bL Kh Om (af (top 30))=true:=by decide +kernel
theorem Ot:cY Oj td (top 30) Kh=some Qf:=rfl
noncomputable def Ki:List Str:=["_law_script","_law_elders_here","_law_turned_here","_law_names_here","_law_turn","_law_name"]
noncomputable def Ou:List Str:=["_law_script","_law_elders_here"]
def Qg:SM:=Hd F1
def Rm:aX:=bA 6 2 Qg
def Ov:aO:=Oo.dz "_law_turned" Rm
theorem Ow:bL Ki Ou (af (top 31))=true:=by decide +kernel
theorem Ox:cY Oo td (top 31) Ki=some Qg:=rfl
noncomputable def DB:List Str:=["_law_script","_law_many","_law_kinds","_law_words","_law_strength","_law_lines","_law_kind","_law_elder","_law_word","_law_own","_law_found","_law_table_here"]
noncomputable def GO:List Str:=["_law_script"]
def Kj:SM:=L4 F1
def Kk:SM:=L5 F1 Md N9
def Me:aX:=zo 12 Kj 4 0 [11] Kk
def UF:aO:={Ov with fz:=["_law_table_here"]}
def Kl:List Stmt:=(aT (top 32)).take 5
def Km:List Stmt:=(aT (top 32)).drop (5+1)
theorem Oy:bL DB GO (af (top 32))=true:=by decide +kernel
theorem Oz:bO (fQ Ov td 60 (af (top 32)) DB 30) Kl=some Kj:=rfl
theorem OA:bO (fQ UF td 60 (af (top 32)) DB 30) Km=some Kk:=rfl
theorem OB:aT (top 32)=Kl++.FunctionDef CD0.name CD0.params CD0.body [] none [] CD0.scope none CD0.name (FX cst)::Km:=rfl
theorem Rn:zq "law" (af (top 32)) DB CD0 4 [11] (zr CD0.cn (af (top 32))):=zw (by decide +kernel) (λ_ _ _=>rfl) (λ_=>rfl) λ_ _ _=>rfl
end Ek
namespace Ek
open PySem PySem.Spec L2 Mir
theorem Ro:∃a,eY a F1:=FO (v8 λc t m b d e=>CJ b d e)
theorem OC:sI O6:=Jt Js
theorem Qh:wa O7:=Ju OC
theorem Kn:oV He:=Jv
theorem Rp:z8 O8:=JE
theorem OD:FnAt O9:=Jn
theorem OE:oP L_:=D4 OD
theorem Ko:oP wG:=D4 OD
theorem Kp:z_ wG:=JI Ei (JG Rp) OD
theorem ur:Dm ms:=J8 (λz a=>J7) Ei
theorem OF:zK N9:=Jx Qh OC OE Kn
theorem OG:JT Md:=λk e a E P L n r b c d f g h i j=>JR Qh OC Ko Kp Kn ur b c d f g h i j
theorem AE(ns:List Int)(b:ns.length<=63):∃au,Me [.lst (ns.map .int)] []=.ok (.bl true) au:=by
 obtain⟨c,a⟩:=Ro;exact JY a OG OF b
open PyProof.Rows
noncomputable section
def DC:Stmt:=inClass (top 5) 0
def AF:Stmt:=inClass (top 6) 0
def rowOf(st:Stmt)(i:Nat)(f:Str):fD:=match (aT st).getD i (.Pass ⟨0,0,0,0⟩)with
 |.Assign [.Attribute (.Name _ a) _ b] v c=>⟨f,v,a,b,c⟩
 |_=>⟨f,.Constant .none 0 ⟨0,0,0,0⟩,⟨0,0,0,0⟩,⟨0,0,0,0⟩,⟨0,0,0,0⟩⟩
def rR:fD:=rowOf DC 0 "steps"
def OH:fD:=rowOf AF 0 "name"
def OI:fD:=rowOf AF 1 "steps"
theorem Rq:bL ["self","steps"] ["self","steps"] (af DC)=true:=by decide +kernel
theorem Rr:bL ["self","name","steps"] ["self","name","steps"] (af AF)=true:=by decide +kernel
end
theorem Kq{d:Type}{a b:Option d}{c:d}(h:a.or b=some c):a=some c\/b=some c:=by
 cases a with
 |none=>exact .inr h
 |some x=>exact .inl h
theorem DD{κ:Str->Addr->Prop}{H:Hp}{a:Addr}{o:HO}(hR:L2.Rd H a o):bc κ [] (λb=>b=a) [] H:=
 ⟨by simp,.nil,λa c=>by simp at c,λb e=>by
  subst e;rcases hR with e|⟨o,e⟩<;>rw[e]<;>simp⟩
section
variable{P:Program}{w:World}{K:PySem.W.Frag}{mg:Str->Option Value}{base:Heap}{k:Nat}
theorem Rt{U:aO}(W:ba P w K mg base U k){d fI f:Addr}{n:FuncData}{tk:Tok}(F:bP P w K mg base dH k d n Dy (ei (bS mg) O1))(p:Binds K n Dy [.int 0 tk])(q:mg "own_copy"=some (.ref d))(r:PySem.W.keepIn K (.ref d)=true) :
    ∀(b:Around) (g:List Env) (c:Shared) (e:Addr) (i:Hp) (l:XK),bE k (b.deeper (envOfC "Ring.__init__" (af DC) c.heap.objs.size fI (.ref f)))->bh ((bF dH P w K mg base ["self","steps"] "Ring.__init__" (af DC) fI (.ref f) b g c i l).fg.mk1 e) (bS mg) gM rR.ve (JH O1):=by
  intro b g c e i l o;have a:ba P w K mg base ({}:aO) k:=(ba.start W.b8).mono (Nat.zero_le k)
  have G:GoodO ((bF dH P w K mg base ["self","steps"] "Ring.__init__" (af DC) fI (.ref f) b g c i l).fg.mk1 e) (bS mg) {} k (af DC) ["self","steps"]:=
    { scope:=rfl,names:=rfl,calm:=rfl,room:=o,b8:=a.b8,fld:=a.fld,cst:=a.cst
      fP:=λx F h=>⟨a.fP x F h⟩,fn:=λx F h=>⟨a.fn x F h⟩,met:=λm C F h=>⟨a.met m C F h⟩,cls:=λC F h=>let ⟨j,s,t⟩:=a.cls C F h;⟨j,s,⟨t⟩⟩,clo:=a.clo }
  exact jy (Dd:=[.int 0]) (ti:=[.int 0]) F o rfl q r p (.cons ⟨tk,rfl⟩ .nil) (λ_ _ _=>.one (by simp only[av])) rfl rfl rfl (iE ((er 60 _ (af DC) ["self","steps"] _ (mN (bG .list) (ae (aa 1) aj)) G rfl).1 _) ke rfl)
theorem Ru{U:aO}(W:ba P w K mg base U k){d fI f:Addr}{o:FuncData}{tk:Tok}(F:bP P w K mg base dH k d o Dy (ei (bS mg) O1))(q:Binds K o Dy [.int 0 tk])(r:mg "own_copy"=some (.ref d))(s:PySem.W.keepIn K (.ref d)=true) :
    ∀(b:Around) (g:List Env) (c:Shared) (e:Addr) (i:Hp) (l:XK),bE k (b.deeper (envOfC "Tangled.__init__" (af AF) c.heap.objs.size fI (.ref f)))->∀p∈[OH,OI].zip ms,bh ((bF dH P w K mg base ("self"::["name","steps"]) "Tangled.__init__" (af AF) fI (.ref f) b g c i l).fg.mk1 e) (bS mg) gM p.1.ve p.2:=by
  intro b g c e i l n p hp;have a:ba P w K mg base ({}:aO) k:=(ba.start W.b8).mono (Nat.zero_le k)
  have G:GoodO ((bF dH P w K mg base ["self","name","steps"] "Tangled.__init__" (af AF) fI (.ref f) b g c i l).fg.mk1 e) (bS mg) {} k (af AF) ["self","name","steps"]:=
    { scope:=rfl,names:=rfl,calm:=rfl,room:=n,b8:=a.b8,fld:=a.fld,cst:=a.cst
      fP:=λx F h=>⟨a.fP x F h⟩,fn:=λx F h=>⟨a.fn x F h⟩,met:=λm C F h=>⟨a.met m C F h⟩,cls:=λC F h=>let ⟨j,t,u⟩:=a.cls C F h;⟨j,t,⟨u⟩⟩,clo:=a.clo }
  rcases List.mem_cons.mp (show p∈[(OH,JZ O1),(OI,J6 O1)]from hp)with rfl|hp
  · exact jy (Dd:=[.int 0]) (ti:=[.int 0]) F n rfl r s q (.cons ⟨tk,rfl⟩ .nil) (λ_ _ _=>.one (by simp only[av])) rfl rfl rfl (iE ((er 60 _ (af AF) ["self","name","steps"] _ (aa 1) G rfl).1 _) ke rfl)
  · rw[List.mem_singleton.mp hp]
    exact jy (Dd:=[.int 0]) (ti:=[.int 0]) F n rfl r s q (.cons ⟨tk,rfl⟩ .nil) (λ_ _ _=>.one (by simp only[av])) rfl rfl rfl (iE ((er 60 _ (af AF) ["self","name","steps"] _ (mN (bG .list) (ae (aa 2) aj)) G rfl).1 _) ke rfl)
end
abbrev fT(K:PySem.W.Frag)(x:Str)(st:Stmt):Prop:=∃f a,zF K x st f a
structure OJ(K:PySem.W.Frag)(x qual:Str)(st:Stmt)(C N f c:Addr)(fd:FuncData):Prop where
 a:PySem.W.nsIn K mainGlobals x=some (some (.ref C))
 cl:lR K C N f
 fn:tw K "__init__" qual st f fd
 cv:fd.code=.ref c
 hx:PySem.W.exmOne K (.ref C) (.ref C)=some true
 ja:PySem.W.findIn K (.ref C) "__class__"=some (some (.builtin "object.__class__"))
 jb:PySem.W.specialIn K (.builtin "object.__class__") "__get__"=some (some (.builtin "getset_descriptor.__get__"))
 jc:PySem.W.takesIn K (.builtin "object.__class__")=some true
 jd:PySem.W.mroIn K C (.type "object")=some true
theorem GP{K:PySem.W.Frag}{x qual:Str}{st:Stmt}{C N fI j:Addr}
  (z:PySem.W.nsIn K mainGlobals x=some (some (.ref C)))
  {k A:Str}{PQ b:List Value}{l:List Str}{c:List Value}{m:Bool}{d:Option Bool}{n:Option Addr}{o p q r s:Option Value} (B:K.lookup C=some (excClassObj k A C N PQ b true l c m d n o p q r s "ValueError.__new__")) (nC:PySem.W.nsIn K N "__init__"=some (some (.ref fI))) (tC:ri K b=true) {a:ClassData} (D:PySem.W.clsIn K C=some a) (E:fe a.mro=true) (F:a.hasDict=true) (G:PySem.W.findIn K (.ref C) "__setattr__"=some (some (.builtin "object.__setattr__"))) (H:PySem.W.findIn K (.ref C) "__getattribute__"=some (some (.builtin "BaseException.__getattribute__"))) (I:PySem.W.findIn K (.ref C) "__getattr__"=some none) (J:PySem.W.mroIn K C (.type "BaseException")=some true) (L:PySem.W.hasDictIn K C=true) (M:L7 K N "__init__"=some (some (.ref fI))) (O:PySem.W.keepIn K (.ref C)=true) (P:PySem.W.typeIn K (.ref fI)=some (.type "function"))
  {t e:Option Addr}{u:Array (Option Value)}{w f g h i:Value} (Q:K.lookup fI=some ⟨w,t,.func (PySem.W.fnOf "__init__" qual (cx st) (aT st) (af st) .none f g h e (.ref j) i),u⟩) (R:PySem.W.codeIn K (.ref j) qual=true) (S:PySem.W.keepIn K (.ref fI)=true) (y:PySem.W.exmOne K (.ref C) (.ref C)=some true)
  (T:PySem.W.findIn K (.ref C) "__class__"=some (some (.builtin "object.__class__"))) (U:PySem.W.specialIn K (.builtin "object.__class__") "__get__"=some (some (.builtin "getset_descriptor.__get__"))) (V:PySem.W.takesIn K (.builtin "object.__class__")=some true) (X:PySem.W.mroIn K C (.type "object")=some true):OJ K x qual st C N fI j (PySem.W.fnOf "__init__" qual (cx st) (aT st) (af st) .none f g h e (.ref j) i):=
 ⟨z,⟨⟨_,_,_,_,_,_,_,_,_,_,_,_,_,_,B,uW tC⟩,⟨_,D,E,F⟩,G,⟨H,I,J⟩,L,Ej M,O,P⟩,rH Q R S,rfl,y,T,U,V,X⟩
section
variable{P:Program}{w:World}{K:PySem.W.Frag}{mg:Str->Option Value}{base h:Heap}{T:aO}{k:Nat}{x:Str}{f:Addr}{st:Stmt}{fd:FuncData}{N ps td:List Str}{c:SM}
theorem wH(W:ba P w K mg base T k)(X:K.In h)(G:h.Ns mainGlobals mg)(a:zF K x st f fd)(e:bL N ps (af st)=true)(g:cY T td st N=some c)(i:∀(kV b j:Value) (l:Option Addr) (d ct:Value) (us:List Value),us.length=ps.length->bindArgs (PySem.W.fnOf x x (cx st) (aT st) (af st) .none kV b j l d ct) ⟨us,[]⟩=pure (ps.zip us)) :
  ba P w K mg base (T.dz x (bA N.length ps.length c)) (k+1):=W.dz (PySem.W.mg_of X G a.ns) a.fn.kp (a.fn.binds i) (iM W a.fn e g)
end
theorem all_mk{P:Program}{w:World}{K:PySem.W.Frag}{h:Heap}{b:Str->Option Value}{fa:Addr}(X:K.In h)(G:h.Ns mainGlobals b)(u1:b "law"=some (.ref fa))
  (nb:tQ K=true)
  {q0:Tok} (z0:PySem.W.nsIn K mainGlobals "DEEPEST"=some (some (.int 8 q0)))
  (a0:fT K "_law_mix" (top 25))
  (a1:fT K "_law_drawn" (top 26))
  {Z T1:Addr}{C0:Obj}{D0:Tok}{n1:Nat}{G0 y:Option Addr}{I0:Array (Option Value)}{J0 z B D n F:Value} (I:PySem.W.nsIn K mainGlobals "own_copy"=some (some (.ref Z))) (w1:K.lookup Z=some ⟨J0,G0,.func (PySem.W.fnOf "own_copy" "own_copy" (cx (top 2)) (aT (top 2)) (af (top 2)) (.ref T1) z B D y n F),I0⟩) (x1:PySem.W.codeIn K n "own_copy"=true) (o:PySem.W.keepIn K (.ref Z)=true) (K0:K.lookup T1=some C0) (L0:C0.data=.seq #[.int 0 D0] n1)
  (i0:fT K "paper_of" (top 9))
  (j0:fT K "rest_behind" (top 10))
  (l0:fT K "found_all" (top 11))
  (m0:fT K "ready_kinds" (top 14))
  (n0:fT K "elders_first" (top 13))
  (o0:fT K "loop_of" (top 15))
  (p0:fT K "place_behind" (top 19))
  (s0:fT K "free_name" (top 18))
  (i:fT K "ring_among" (top 20))
  (f:fT K "merged" (top 17))
  (J:fT K "rows_by" (top 23))
  (g:fT K "lines_of" (top 22))
  (L:fT K "_law_names" (top 27))
  (M:fT K "_law_table" (top 28))
  (k:fT K "_law_lined" (top 29))
  (N:fT K "_law_elders" (top 30))
  (O:fT K "_law_turned" (top 31))
  {Q:Addr}{t0 R:Option Addr}{u0:Array (Option Value)}{v0 S T U m V:Value} (M0:PySem.W.nsIn K mainGlobals "law"=some (some (.ref Q))) (P0:K.lookup Q=some ⟨v0,t0,.func (PySem.W.fnOf "law" "law" (cx (top 32)) (aT (top 32)) (af (top 32)) .none S T U R m V),u0⟩) (Q0:PySem.W.codeIn K m "law"=true) (R0:PySem.W.keepIn K (.ref Q)=true)
  {CR NR w0 S0:Addr}{y1:FuncData} (p:OJ K "Ring" "Ring.__init__" DC CR NR w0 S0 y1) (l:PySem.W.findIn K (.ref CR) "steps"=some none)
  {CT NT x0 W0:Addr}{z1:FuncData} (q:OJ K "Tangled" "Tangled.__init__" AF CT NT x0 W0 z1) (Y:PySem.W.findIn K (.ref CT) "name"=some none) (t:PySem.W.findIn K (.ref CT) "steps"=some none)
  {B0:Addr} (aB:PySem.W.nsIn K mainGlobals "LookError"=some (some (.ref B0))) (gB:PySem.W.specialIn K (.ref B0) "__getattribute__"=some (some (.builtin "type.__getattribute__"))) (rB:PySem.W.readsIn K B0 (.type "type")=true) (iB:PySem.W.findCls K (.ref B0) (.type "type") "__init__"=some (.val (.builtin "ValueError.__init__")))
  {cA tA:Addr} (A1:m=.ref cA)
  : ∃fd:FuncData,(∀(s:Shared) (v:Value),BindsTo s fd ⟨[v],[]⟩ [("_law_script",v)])/\∀base:Heap,K.In base->base.Ns mainGlobals b->PySem.W.CodeHd base cA tA->(∃Pl,base.BuiltinsAt b Pl)->bP P w K b base dH 25 fa fd GO (oO tA [] [] Me):=by
 have e:=u1.symm.trans (PySem.W.mg_of X G M0);cases e;obtain⟨_,_,a0⟩:=a0;have b0:=a0.fn.binds (ps:=PU) (λ_ _ _ _ _ _=>sG λ_ _ _=>rfl)
 obtain⟨_,_,a1⟩:=a1;have b1:=a1.fn.binds (ps:=PY) (λ_ _ _ _ _ _=>sG λ_ _ _=>rfl)
 have y0:F9 K "own_copy" "own_copy" (top 2) (.ref T1) Z _:=⟨⟨_,_,_,_,_,_,_,_,_,rfl,w1,x1⟩,o⟩;have A0:Binds K (PySem.W.fnOf "own_copy" "own_copy" (cx (top 2)) (aT (top 2)) (af (top 2)) (.ref T1) z B D y n F) Dy []:=λs us X hl=>match us,hl with|[_,_],_=>PySem.W.binds_K X rfl K0 L0 rfl rfl
 have f0:Binds K (PySem.W.fnOf "own_copy" "own_copy" (cx (top 2)) (aT (top 2)) (af (top 2)) (.ref T1) z B D y n F) Dy [.int 0 D0]:=λs us X hl=>by
  match us,hl with
  |[],h=>simp[Dy]at h
  |[_],_=>exact PySem.W.binds_K X rfl K0 L0 rfl rfl
  |_::_::_,h=>simp[Dy]at h
 have XB:XBase K b "LookError" B0:=⟨PySem.W.mg_of X G aB,gB,rB,iB⟩;have bR:=p.fn.binds (ps:=["self","steps"]) (λ_ _ _ _ _ _=>all2 λ_ _=>rfl)
 have Rv:iV K b CR NR w0 S0 _ DC "Ring.__init__" "self" ["steps"] [rR]:=⟨⟨_,p.fn⟩,p.cv,cQ Rq,p.cl,bR,λr hr=>by rw[List.mem_singleton.mp hr];exact l,by decide +kernel,rfl,rfl,rfl,by decide,by decide,"LookError",B0,[("steps",_,_)],_,_,_,_,_,_,XB,rfl,rfl,rfl,rfl,λr hr B1=>by rw[List.mem_singleton.mp hr];rfl,λ_=>rfl⟩
 have bT:=q.fn.binds (ps:=["self","name","steps"]) (λ_ _ _ _ _ _=>sG λ_ _ _=>rfl)
 have Rx:iV K b CT NT x0 W0 _ AF "Tangled.__init__" "self" ["name","steps"] [OH,OI]:=⟨⟨_,q.fn⟩,q.cv,cQ Rr,q.cl,bT,λr hr=>by
  rcases List.mem_cons.mp hr with rfl|hr
  .exact Y
  .rw[List.mem_singleton.mp hr];exact t,by decide +kernel,rfl,rfl,rfl,by decide,by decide,"LookError",B0,[("name",_,_),("steps",_,_)],_,_,_,_,_,_,XB,rfl,rfl,rfl,rfl,λr hr B1=>by
  rcases List.mem_cons.mp hr with rfl|hr
  .rfl
  .rw[List.mem_singleton.mp hr];rfl,λ_=>rfl⟩
 obtain⟨_,_,i0⟩:=i0;obtain⟨_,_,j0⟩:=j0;obtain⟨_,_,l0⟩:=l0;obtain⟨_,_,m0⟩:=m0;obtain⟨_,_,n0⟩:=n0;obtain⟨_,_,o0⟩:=o0;obtain⟨_,_,p0⟩:=p0;obtain⟨_,_,s0⟩:=s0;obtain⟨_,_,i⟩:=i;have e1:=i.fn.binds (ps:=J9) (λ_ _ _ _ _ _=>all1 λ_=>rfl)
 obtain⟨_,_,f⟩:=f;have g0:=f.fn.binds (ps:=GJ) (λ_ _ _ _ _ _=>all1 λ_=>rfl)
 obtain⟨_,_,J⟩:=J;obtain⟨_,_,g⟩:=g;have h0:=g.fn.binds (ps:=GK) (λ_ _ _ _ _ _=>all1 λ_=>rfl)
 obtain⟨_,_,L⟩:=L;obtain⟨_,_,M⟩:=M;obtain⟨_,_,k⟩:=k;have f1:=k.fn.binds (ps:=Kf) (λ_ _ _ _ _ _=>all1 λ_=>rfl)
 obtain⟨_,_,N⟩:=N;obtain⟨_,_,O⟩:=O;have g1:=rH (st:=(top 32)) P0 Q0 R0;refine⟨PySem.W.fnOf "law" "law" (cx (top 32)) (aT (top 32)) (af (top 32)) .none S T U R m V,λs v=>.of_eq rfl,λbase _ _ hC hB=>?_⟩
 have V0:ba P w K b base ({}:aO) 0:=ba.start (yc X G nb);have V1:=V0.Ci (x:="DEEPEST") (d:=.int 8) (v:=.int 8) (PySem.W.mg_of X G z0) ⟨_,rfl⟩ rfl;have Y0:ba P w K b base NU 0:=V1;have q0:=iM Y0 a0.fn QI QJ;have Y1:ba P w K b base NV 1:=(Y0.mono (Nat.le_succ 0)).vX (x:="_law_mix") (PySem.W.mg_of X G a0.ns) a0.fn.kp b0 (ue q0) (Nat.le_refl _);have q1:=iM Y1 a1.fn QL QM;have Y2:ba P w K b base P2 2:=(Y1.mono (Nat.le_succ 1)).vX (x:="_law_drawn") (PySem.W.mg_of X G a1.ns) a1.fn.kp b1 (ue q1) (Nat.le_refl _);have X0:ba P w K b base U0 2:=Y2;have r0:=FW X0 (j:=0) (d:=CD0) rfl QN QO (λcl S1 pm c1 W1 us hl=>match us,hl with|[_,_],_=>rfl)
 have X1:ba P w K b base U1 3:=X0.CL (j:=0) rfl r0;have wA:=(X1.mono (by decide:3<=4)).dz (x:="own_copy") (PySem.W.mg_of X G I) o A0 Gi
 have rA:=oY wA y0 NW (NX _);have wB:=(X1.mono (by decide:3<=5)).dz (x:="own_copy") (PySem.W.mg_of X G I) o A0 rA
 have C1:=oY wB y0 NW (NX _);have wC:=(X1.mono (by decide:3<=6)).dz (x:="own_copy") (PySem.W.mg_of X G I) o A0 C1
 have r1:=oY wC y0 NW (NX _);have X2:ba P w K b base U2 4:=X1.mono (by decide)
 have X3:ba P w K b base U3 5:=wH X2 X G i0 QQ QS (λ_ _ _ _ _ _=>sG λ_ _ _=>rfl)
 have X4:ba P w K b base U4 6:=wH X3 X G j0 QV QW (λ_ _ _ _ _ _=>all2 λ_ _=>rfl)
 have X5:ba P w K b base U5 7:=wH X4 X G l0 QY QZ (λ_ _ _ _ _ _=>sG λ_ _ _=>rfl)
 have X6:ba P w K b base U6 8:=wH X5 X G m0 Q3 Q4 (λ_ _ _ _ _ _=>all2 λ_ _=>rfl)
 have X7:ba P w K b base U7 9:=wH X6 X G n0 Q7 Q8 (λ_ _ _ _ _ _=>all1 λ_=>rfl)
 have X8:ba P w K b base U8 10:=wH X7 X G o0 Q_ Ra (λ_ _ _ _ _ _=>all1 λ_=>rfl)
 have X9:ba P w K b base U9 11:=wH X8 X G p0 Rc Rf (λ_ _ _ _ _ _=>all2 λ_ _=>rfl)
 have h1:ba P w K b base L8 12:=wH X9 X G s0 Rh Ri (λ_ _ _ _ _ _=>all1 λ_=>rfl)
 have D1:=C7 h1 i.fn NZ N2 (λX G _ st c h=>Ab G st c h)
 have c0:ba P w K b base L9 13:=h1.dz (PySem.W.mg_of X G i.ns) i.fn.kp e1 D1;have E1:=iM c0 f.fn J_ N5;have OK:ba P w K b base N3 13:=c0.toXt;have i1:bP P w K b base (kz P w) 16 _ _ GJ (nt (bS b) wG):=uR OK rfl ⟨f.fn.ex,f.fn.kp⟩ J_ Ka (λj1 A outer s H E hr G' u c' h=>sR Rv hr (PySem.W.mg_of X G p.a) rfl G' (Rt (c0.mono (by decide)) (r1.mono (by decide)) f0 (PySem.W.mg_of X G I) o) u c' h)
 have G1:ba P w K b base N4 14:=c0.dz (PySem.W.mg_of X G f.ns) f.fn.kp g0 E1;have e0:ba P w K b base Ma 15:=wH G1 X G J N7 N8 (λ_ _ _ _ _ _=>all2 λ_ _=>rfl)
 have H1:=iM e0 g.fn GL Ob;have OL:ba P w K b base Mb 18:=(e0.mono (by decide:15<=18)).toXt
 have I1:∀Ca,bS b "Ring" Ca->Ca=CR:=λCa h=>by
  have h:b "Ring"=some (.ref Ca):=h;rw[PySem.W.mg_of X G p.a]at h;cases h;rfl
 have J1:∀Ca,bS b "Tangled" Ca->Ca=CT:=λCa h=>by
  have h:b "Tangled"=some (.ref Ca):=h;rw[PySem.W.mg_of X G q.a]at h;cases h;rfl
 have l1:bP P w K b base (kz P w) 21 _ _ GK (nt (bS b) DA):=uR OL rfl ⟨g.fn.ex,g.fn.kp⟩ GL Kc (λj1 A outer s H E hr G' u c' h=>by
  rcases Kq h with h|h
  .exact wu (C:=CR) (N0:=NR) (fI:=w0) G' ⟨rfl,rfl,(cQ GL).nd,PySem.W.mg_of X G p.a,p.hx,I1,p.cl,⟨p.ja,p.jb,p.jc,p.jd⟩⟩ l (i1.mono (by decide)) (PySem.W.mg_of X G f.ns) f.fn.kp g0 u c' h
  .exact Aj Rx hr (PySem.W.mg_of X G q.a) G' rfl (by simp) (Ru (e0.mono (by decide)) (r1.mono (by decide)) f0 (PySem.W.mg_of X G I) o) u c' h)
 have K1:ba P w K b base Oa 16:=e0.dz (PySem.W.mg_of X G g.ns) g.fn.kp h0 H1;have M1:ba P w K b base Od 17:=wH K1 X G L Oe Of (λ_ _ _ _ _ _=>sG λ_ _ _=>rfl)
 have o1:ba P w K b base Mc 18:=wH M1 X G M Oh Oi (λ_ _ _ _ _ _=>Ny λ_ _ _ _=>rfl)
 have N1:=Dq (Dk (o1.mono (by decide:18<=21)) k.fn Kg Ol (λj1 A outer s H E G' u c' h=>wy (C:=CT) (N0:=NT) (fI:=x0) G' ⟨rfl,rfl,(cQ Kg).nd,PySem.W.mg_of X G q.a,q.hx,J1,q.cl,⟨q.ja,q.jb,q.jc,q.jd⟩⟩ l1 (PySem.W.mg_of X G g.ns) g.fn.kp h0 u c' h))
 have P1:ba P w K b base Oj 22:=(o1.mono (by decide:18<=21)).dz (PySem.W.mg_of X G k.ns) k.fn.kp f1 N1
 have Q1:ba P w K b base Oo 23:=wH P1 X G N Oq Ot (λ_ _ _ _ _ _=>all2 λ_ _=>rfl)
 have t1:ba P w K b base Ov 24:=wH Q1 X G O Ow Ox (λ_ _ _ _ _ _=>all2 λ_ _=>rfl)
 have R1:=CM (cm:=[]) (D2:=[]) (T0:=tA) t1 (t1.FY CD0.cn) g1 A1 Oy OB Oz OA (j:=0) rfl rfl Rn hC hB;exact R1
theorem walk{l:PySem.W.OpenLaw}{q:Program}{b:List Str}{y:(Str->Option Value)->Heap->Prop}{j:World->Heap->Prop}{d:DefRec}{K:Params->PySem.W.Frag}{cA tA:Addr}(z:l.most=some 63)(i:d.params.defaults=[])
  (A:∀(w:World) (h:Heap),j w h->(K w.params).In h/\h.get? tA=some (PySem.W.tabObj #[])) (B:∀e,pT (K e)=true) (C:∀e,PySem.W.noTabs (K e)=true) (D:∀e,PySem.W.codeHdIn (K e) cA tA=true)
  (F:∀(w:World) (g:Str->Option Value) (m:Addr) (h:Heap),(K w.params).In h->h.Ns mainGlobals g->g d.name=some (.ref m) ->
   ∃p:FuncData,(∀(s:Shared) (u:Value),BindsTo s p ⟨[u],[]⟩ [("_law_script",u)])/\∀base:Heap,(K w.params).In base->base.Ns mainGlobals g->PySem.W.CodeHd base cA tA->(∃E,base.BuiltinsAt g E)->bP l.prog w (K w.params) g base dH 25 m p GO (oO tA [] [] Me)) :
  PySem.W.WalkO q b y j l.row.toRowW d [] (λf vs=>PySem.call f vs):=
 L2.yn (n:=63) (k:=25) (x:="_law_script") (c:=cA) (T:=tA) (sp:=λw=>oO tA [] [] Me) z (by decide) i ⟨rfl,by decide,by decide⟩ A D C (λe a o h=>CN (B e) h) F λw H a r G I J t=>⟨I,by simp,a,r,_,rfl,J,λL=>DD t,t,(AE r G).choose_spec,λ_=>rfl⟩
end Ek
def PySem.W.Fast.tw7018645034842043332:PySem.Program:=PySem.Challenge.pw_taglook_k36_whole_elders_found
theorem PySem.W.Fast.te7018645034842043332:PySem.Challenge.pw_taglook_k36_whole_elders_found=PySem.W.Fast.tw7018645034842043332:=rfl
structure PySem.W.Fast:Prop where(tw9769977798095241863 tw13750786193186098589 tw12212780007457308150 tw6248449685831846371 tw822232245486310593 tw5148835232760631468 tw16322346922765103788 tw10165837612306891372 tw11235318508382610839 tw2439199643879046454 tw5562769297234549403 tw5827088093997851258 tw17321881132783077120 tw5737956020305440800 tw11446641491637104694 tw9336501816479837572 tw7271928326123900126 tw16756083970412611057 tw2658570344009534422 tw12307450534996412896 tw1862001446216094345 tw630669536136821412 tw13986298285025599092 tw6682595779191478770 tw9079980668081464524 tw17420327940870779897 tw2084742194436248801 tw4384111838228342774 tw6403187823642003904 tw10932318694792018938 tw11609650440053559482 tw11918968551046822349 tw10026550328656023997 tw17022518152783530284 tw15498264144348362714 tw9077901698996832814 tw14418170384140899073 tw2296030659707312034 tw1620077292718275472 tw17998817500230455204 tw3349622248274039607 tw444636972179622978 tw7028621493099558536 tw16343986296942306293 tw1847487874250947098 tw2952147303496669941 tw12751681721963682136 tw4334279989480526575 tw4872411151616794207 tw9832180341260699843 tw3942065592754562483 tw14735046508083199114 tw14386884091150099231 tw1521808898576392445 tw9335594050823772549 tw11235742031510707222 tw12544263625132452898 tw10732606293710336855 tw1491055683378983345 tw2893714043190243460 tw13333706865945752512 tw10347835317163104816 tw12531459859855598543 tw9969911902922832471 tw16872512916680370688 tw3308488787525649701 tw1487189214975940833 tw18116630812372656497 tw5553690310468422391 tw8748234918226022005 tw4731665695173484868 tw2996430348436259931 tw17000030928813544217 tw15964698123121428382 tw15854582710306749263 tw7087896457229559948 tw12651045225298603611 tw6856746367802072615 tw5552176978846984975 tw9821272665478821592 tw3127465413053616753 tw13507179773749218076 tw4297388415673482484 tw3897245927203224812 tw4735624018999104030 tw7152268159533125752 tw10998128000212548244 tw6360074438390724454 tw9206211233372685606 tw15355401514444392334 tw2310139912896256365 tw9040044529266331218 tw8003936221998527754 tw16293248513597623740 tw13187549305095871120 tw2526926789857119187 tw15129055069051952991 tw16848314055253143051 tw10019048929687009380 tw4502851013720139880 tw14390616823791290987 tw6702670447675007014 tw9935910406733803623 tw5125984440799820593 tw3966327074774858194 tw15184739365646493352 tw365903543269974610 tw7887244550106247653 tw12811109541084070262 tw290124233171082265 tw4774151563817643204 tw14991204048823828445 tw8678338860782209569 tw7774128166600571214 tw3378765524261900385 tw14639952253876498502 tw5052826075890120051 tw12615029380072627034 tw13480849082067599994 tw10870787529588763097 tw17211197885533604607 tw5311388242582935121 tw5202332898706457842 tw15407907699780951453 tw5391397900589714133 tw3664842619278551047 tw5502600869325991296 tw8978939400699671550 tw14704686481575307119 tw7097155268222493000 tw7691347619268071807 tw2482203362000605375 tw10740119197408843202 tw9404139075075432089 tw12683583444190351304 tw5063704640802200113 tw16950307012980266005 tw1051529067994748486 tw2182675562875451642 tw8261153117527580497 tw2750731803837251895 tw16383545085225164078 tw17024749550579934765 tw14937156070049531996 tw10602624806121896861 tw8121661899911137092 tw10906745421532645470 tw15453750040049502146 tw978434791299338286 tw4627577592847563139 tw15119263811123064315 tw453461167856009426 tw7394167076848666627 tw13997411232815346123 tw626449510048773163 tw8854937529455726613 tw8498689932847536126 tw3097687706406768587 tw565003249425905420 tw6393370910453224551 tw17651472187992655954 tw11583936046005490853 tw9133440303403160366 tw11166347674261231872 tw7906493000147783941 tw11487270129463851384 tw3455536858687780490 tw7630943875276852196 tw8289887092527631156 tw10363228135378048047 tw15218693595689726123 tw13748223189129788629 tw5256933657542896986 tw9602293783658144238 tw18151690822877913295 tw7109674582230231088 tw17228209252074178820 tw3190489576359844396 tw4387526976634170359 tw8558234125045284046 tw7642656178726739573 tw6762245845384971074 tw8516664934731237423 tw10276413860042970482 tw17499215418033843322 tw224912636067340497 tw6666936770817186235 tw6471551670516244914 tw16531336090116593079 tw17770688884860289257 tw4764335493535632165 tw3230878334925609045 tw462140718891546479 tw16988013150841094195 tw14775360349595604977 tw3222692064258197452 tw13595112120267237879 tw677942703154616830 tw5439446642311195739 tw359476680109617416 tw6614446560204214106 tw11914454215686713313 tw16219834833988666327 tw11193945670298810549 tw14630288099745452322 tw6166312629697807821 tw15970971030526331057 tw4074105514497117624 tw372513494977991287 tw13144659850036942009 tw8634671966001994384 tw8021361669397289910 tw7729396440804023585 tw6414657746812438711 tw16265933391057574235 tw8715464896350145183 tw14219168660155731025 tw14637331044715469390 tw12653583325597827893 tw1584318424877144639 tw13500311349267293297 tw6519806312640546305:True)
open PySem PySem.W PyProof.Rows
set_option maxRecDepth 100000 in
set_option maxHeartbeats 0 in
theorem PySem.Challenge.cw_taglook_k36_whole_elders_found_holds : PySem.Challenge.rw_taglook_k36_whole_elders_found.Holds := by
 w_on;o_law;k_head;(case hw=>w_witness2)
 k_fill
 refine Ek.walk (l:=PySem.Challenge.rw_taglook_k36_whole_elders_found) (cA:=230) (tA:=228) rfl rfl (λw h Y=>⟨PySem.W.km_in_of Y,PySem.W.km_tabs_of Y _ (List.Mem.head _)⟩) ?hK ?hT ?hC ?F
 case hK=>intro pm;exact(Eq.refl true)
 case hT=>intro pm;exact(Eq.refl true)
 case hC=>intro pm;exact(Eq.refl true)
 case F=>
  intro w mg fa h KX G hmg;refine' Ek.all_mk KX G hmg ?nb ?z0 ?a0 ?a1 ?Ry ?lo1 ?Rz ?RA ?RC ?RD ?RE ?RF ?RG ?RH ?RI ?RJ ?RK ?RL ?OM ?ON ?OO ?OP ?OQ ?OR ?OS ?OT ?OU ?OV ?OW ?OX ?OY ?QR ?AG ?QT ?DE ?AH ?aB ?gB ?rB ?iB ?hcd
  (case nb=>exact(Eq.refl true))
  (case a0 |a1 |RE |RF |RG |RH |RI |RJ |RK |RL |OM |ON |OO |OP |OQ |OR |OS |OT |OU=>refine' ⟨_,_,Mir.zG ?a ?l ?c ?k⟩;(case a=>k_is);(case l=>k_is);(case c=>k_is);(case k=>k_is))
  (case QR |QT=>refine' Ek.GP ?aC ?lC ?nC ?tC ?xa ?xb ?xc ?xd ?xe ?xf ?xg ?xh ?xi ?xj ?xk ?lI ?yI ?wI ?hex ?ja ?jb ?jc ?jd;(case aC=>k_is);(case lC=>k_is);(case nC=>k_is);(case tC=>exact(Eq.refl true));(case xa=>k_is);(case xb=>exact rfl);(case xc=>exact rfl);(case xd=>k_is);(case xe=>k_is);(case xf=>k_is);(case xg=>k_is);(case xh=>k_is);(case xi=>exact rfl);(case xj=>k_is);(case xk=>k_is);(case lI=>k_is);(case yI=>k_is);(case wI=>k_is);(case hex=>exact(Eq.refl (some true)));(case ja=>k_is);(case jb=>k_is);(case jc=>k_is);(case jd=>k_is))
  (case z0 |Ry |lo1 |Rz |RA |RC |OV |OW |OX |OY |AG |DE |AH |aB |gB |rB |iB=>k_is)
  (case RD=>exact rfl)
  (case hcd=>rfl)
