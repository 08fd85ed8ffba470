import PyProof.Rows.All
import Wide.All
import OpenK.AllK
import Wide.FinOn
import Lean
import PyProof.EqAt
import PyProof.EqKinds
import PyProof.TupleCall
import PyProof.StrCalls6
import PyProof.EnumFor
import PyProof.EnumMake
import PyProof.EnumStmt
import PyProof.Rows.EnumRows
import PyProof.RulesTry
import PyProof.Rows.StrWeight2
import PyProof.AutoListH
import PyProof.Draws
import PyProof.Rows.SortStr
import PyProof.Rows.SortShell
import PyProof.Rows.SortWalk
import PyProof.Rows.StrMeet
import PyProof.DictIter
import PyProof.DictWalks
import KE.KDictOf
import PyProof.AttrMissSeq
import PyProof.ListRange
import PyProof.DictItems
import PyProof.StrBlockG
import PyProof.Rows.StrFacts2
import PyProof.ZipIter
import PyProof.TupleIter
import PyProof.FitsBits
import PyProof.FString
import KE.KIntText
import KE.IntTextLaws
import PyProof.CallStr
import PyProof.IsInstanceT
import KE.KTab
import KE.KTops
import PyProof.StrLawsReplace
import PyProof.StrLawsTight
import PyProof.Rows.StrCountLaw
import PyProof.FitsReplace
import PySem.Challenge.RW_taglook_k91_words_read_and_written
set_option Elab.async false
set_option bootstrap.genMatcherCode false
set_option genSizeOfSpec false
set_option linter.all false
set_option maxRecDepth 100000
set_option maxHeartbeats 800000
noncomputable section
namespace L2
open PySem PySem.Spec PyProof.Rows
abbrev Key:=Sum Int Str
noncomputable def iM:Key->Value->Bool
 |.inl k,v=>Value.isInt k v
 |.inr x,v=>Value.isStrOf x v
noncomputable def Hs(w:World):Key->Int
 |.inl k=>hashInt k
 |.inr x=>hashStr w x
theorem bO:∀{k:Key}{v:Value},iM k v=true->(∃i t,k=Sum.inl i/\v=Value.int i t)\/(∃x t,k=Sum.inr x/\v=Value.str x t)
 |.inl i,v,h=>by
  obtain⟨t,e⟩:=Value.isInt_shape (k:=i) (v:=v) h;exact .inl ⟨i,t,rfl,e⟩
 |.inr x,v,h=>by
  obtain⟨t,e⟩:=Value.isStrOf_shape (x:=x) (v:=v) h;exact .inr ⟨x,t,rfl,e⟩
theorem rH(i:Int)(t:Tok):iM (.inl i) (.int i t)=true:=by simp[iM,Value.isInt]
theorem rJ(x:Str)(t:Tok):iM (.inr x) (.str x t)=true:=by simp[iM,Value.isStrOf]
theorem Aq(a b:Int):decide ((Sum.inl a:Key)=Sum.inl b)=(a==b):=by
 by_cases e:a=b
 .subst e;simp
 .have h:¬ (Sum.inl a:Key)=Sum.inl b:=λq=>e (Sum.inl.inj q)
  rw[decide_eq_false h];exact(beq_eq_false_iff_ne.mpr e).symm
theorem Ar(a b:Str):decide ((Sum.inr a:Key)=Sum.inr b)=decide (a=b):=by
 by_cases e:a=b
 .subst e;simp
 .have h:¬ (Sum.inr a:Key)=Sum.inr b:=λq=>e (Sum.inr.inj q)
  rw[decide_eq_false h,decide_eq_false e]
theorem As(a:Int)(b:Str):decide ((Sum.inl a:Key)=Sum.inr b)=false:=decide_eq_false (λq=>nomatch q)
theorem Au(a:Str)(b:Int):decide ((Sum.inr a:Key)=Sum.inl b)=false:=decide_eq_false (λq=>nomatch q)
def cq(prog:Program)(w:World):PySem.KeyKind prog w Key where
 is:=iM
 hash:=Hs w
 inj:=λv a b g f=>by
  rcases bO g with ⟨i,t,rfl,rfl⟩|⟨x,t,rfl,rfl⟩
  .rcases bO f with ⟨j,u,rfl,e⟩|⟨y,u,rfl,e⟩
   .injection e with c _;rw[c]
   .exact nomatch e
  .rcases bO f with ⟨j,u,rfl,e⟩|⟨y,u,rfl,e⟩
   .exact nomatch e
   .injection e with c _;rw[c]
 byValue:=λk v h=>by
  rcases bO h with ⟨i,t,rfl,rfl⟩|⟨x,t,rfl,rfl⟩<;>rfl
 pyHash:=λd h=>by
  rcases bO d with ⟨i,t,rfl,rfl⟩|⟨x,t,rfl,rfl⟩
  .exact wpAny_pyHash_int h
  .exact wpAny_pyHash_str h
 eqBool:=λl d h=>by
  rcases bO l with ⟨i,t,rfl,rfl⟩|⟨x,t,rfl,rfl⟩
  .rcases bO d with ⟨j,u,rfl,rfl⟩|⟨y,u,rfl,rfl⟩
   .rw[Aq]at h;exact wpAny_eqBool_int h
   .rw[As]at h;exact SeqAt.EqAt.int_str i t y u _ _ _ _ h
  .rcases bO d with ⟨j,u,rfl,rfl⟩|⟨y,u,rfl,rfl⟩
   .rw[Au]at h;exact SeqAt.EqAt.str_int x t j u _ _ _ _ h
   .rw[Ar]at h;exact wpAny_eqBool_str h
 «strs» := λk x t v h=>by
  rcases bO h with ⟨i,u,rfl,e⟩|⟨y,u,rfl,e⟩
  .exact nomatch e
  .injection e with c _
   subst c;cases v<;>rfl
theorem mD(prog:Program)(w:World)(i:Int)(t:Tok):(cq prog w).is (.inl i) (.int i t)=true:=rH i t
theorem mE(prog:Program)(w:World)(x:Str)(t:Tok):(cq prog w).is (.inr x) (.str x t)=true:=rJ x t
inductive V where
 |non|bl (b:Bool)|int (i:Int)|str (x:Str)|CQ (b:Array UInt8)|flt (b:UInt64)|ref (a:Addr)|ty (n:String)
 deriving DecidableEq
def RelV:V->Value->Prop
 |.non,u=>u=Value.none
 |.bl b,u=>u=Value.bool b
 |.int i,u=>∃t,u=Value.int i t
 |.str x,u=>∃t,u=Value.str x t
 |.CQ b,u=>∃t,u=Value.bytes b t
 |.flt b,u=>∃t,u=Value.float b t
 |.ref a,u=>u=Value.ref a
 |.ty n,u=>u=Value.type n
abbrev Vals:List V->List Value->Prop:=Paired RelV
theorem Vals.length{xs:List V}{us:List Value}(r:Vals xs us):xs.length=us.length:=Paired.length r
theorem Vals.get:∀{xs:List V}{us:List Value}{i:Nat}{x:V},Vals xs us->xs[i]?=some x->∃u,us[i]?=some u/\RelV x u
 |_,_,_,_,.nil,e=>by simp at e
 |_,_,0,_,.cons r _,e=>by simp at e;subst e;exact⟨_,rfl,r⟩
 |_,_,i+1,x,.cons _ t,e=>by
  obtain⟨u,h1,h2⟩:=Vals.get (i:=i) (x:=x) t (by simpa using e)
  exact⟨u,by simpa using h1,h2⟩
theorem Vals.set{x:V}{u:Value}(r:RelV x u):∀{xs:List V}{us:List Value} (i:Nat),Vals xs us->Vals (xs.set i x) (us.set i u)
 |_,_,_,.nil=>.nil
 |_,_,0,.cons _ t=>.cons r t
 |_,_,i+1,.cons q t=>.cons q (Vals.set r i t)
theorem Vals.append:∀{xs a:List V}{us b:List Value},Vals xs us->Vals a b->Vals (xs++a) (us++b)
 |_,_,_,_,.nil,s=>s
 |_,_,_,_,.cons r t,s=>.cons r (Vals.append t s)
theorem Vals.take:∀{xs:List V}{us:List Value} (n:Nat),Vals xs us->Vals (xs.take n) (us.take n)
 |_,_,0,_=>.nil
 |_,_,_+1,.nil=>.nil
 |_,_,n+1,.cons r t=>.cons r (Vals.take n t)
theorem Vals.drop:∀{xs:List V}{us:List Value} (n:Nat),Vals xs us->Vals (xs.drop n) (us.drop n)
 |_,_,0,r=>r
 |_,_,_+1,.nil=>.nil
 |_,_,n+1,.cons _ t=>Vals.drop n t
def rK:Option V->Option Value->Prop
 |some v,some u=>RelV v u
 |none,none=>True
 |_,_=>False
def KV{κ:Type}:List (κ×V)->List (κ×Value)->Prop:=Paired λ(p:κ×V) (q:κ×Value)=>p.1=q.1/\RelV p.2 q.2
noncomputable def kV:Key->V
 |.inl i=>.int i
 |.inr x=>.str x
inductive HO where
 |lst (xs:List V)
 |tup (xs:List V)
 |dK (kvs:List (Key×V))|dT (kvs:List (List Key×V))
 |set (S:Int->Bool) (n:Nat)
 |ins (C dx:Addr) (fs:List (Str×V))
 |own (x:Addr)
 |xd (fs:List (Str×V))
 |met (f x:Addr)
 |Ht (lo hi:Int)
 |ee (o:Obj) (u:HO)
 |Av (ps:Array Value)
 |ext (φ:Heap->Prop)
abbrev Hp:=Addr->Option HO
noncomputable def upd(H:Hp)(a:Addr)(o:HO):Hp:=λb=>if b=a then some o else H b
theorem bc{H:Hp}{a:Addr}{o:HO}:upd H a o a=some o:=by unfold upd;rw[if_pos rfl]
theorem aI{H:Hp}{a b:Addr}{o:HO}(h:b≠a):upd H a o b=H b:=by unfold upd;rw[if_neg h]
theorem aY{H:Hp}{a b:Addr}{o:HO}(h:H a=some o)(h':H b=none):a≠b:=by
 intro e;subst e;rw[h]at h';cases h'
section
variable(P:Program)(w:World)
def b_(H:Hp)(h:Heap)(a:Addr):HO->Prop
 |.lst xs=>xs.length<=sizeLine/\∃(b:List Value) (n:Nat),Vals xs b/\h.get? a=some {cls:=.type "list",data:=.seq b.toArray n}
 |.tup xs=>xs.length<=sizeLine/\∃b:List Value,Vals xs b/\IsTup h a b.toArray
 |.dK kvs=>kvs.length<=sizeLine/\(a==sysModules)=false/\∃e,KV kvs e/\h.DictOf (cq P w) a e
 |.dT kvs=>kvs.length<=sizeLine/\(a==sysModules)=false/\∃xs:List (List Key×Addr×Value),
   Paired (λ(p:List Key×V) (q:List Key×Addr×Value)=>p.1=q.1/\H q.2.1=some (.tup (p.1.map kV))/\RelV p.2 q.2.2) kvs xs /\
   ∃o es ep,h.get? a=some o/\o.ExactDict/\o.data=.dict es ep/\es.toList=xs.map (entryOfKey (tupleKind (cq P w)))/\(xs.map (·.1)).Nodup
 |.set S n=>h.SetOf (intKind P w) a S n
 |.ins C dx fs=>H dx=some (.own a)/\fs.length<=1000/\dx≠a/\h.get? a=some (PySem.W.instObj C dx) /\
   ∃c,h.Ns1 dx c/\(∀f,rK (fs.lookup f) (c f))/\PySem.Within c (fs.map (·.1))
 |.own _=>∃o,h.get? a=some o
 |.xd fs=>∃c,h.Ns1 a c/\∀f,rK (fs.lookup f) (c f)
 |.Ht lo hi=>∃t u v,h.get? a=some {cls:=.type "range",data:=.fields #[.int lo t,.int hi u,.int 1 v]}
 |.ee o u=>h.get? a=some o/\b_ H h a u
 |.Av ps=>h.get? a=some {cls:=.none,data:=.fields ps}
 |.met f x=>h.get? a=some (PySem.W.methodObj (.ref f) (.ref x))
 |.ext d=>d h/\(∃o,h.get? a=some o)/\∀g i:Heap,d g->(∀o,g.get? a=some o->i.get? a=some o)->d i
def gR(H:Hp)(h:Heap):Prop:=∀a o,H a=some o->b_ P w H h a o
end
section
variable{P:Program}{w:World}{H H':Hp}{h h':Heap}{a:Addr}{o:HO}
theorem b_.lt(x:b_ P w H h a o):a<h.objs.size:=by
 cases o with
 |lst c=>obtain⟨_,_,_,_,e⟩:=x;exact Heap.lt_size e
 |tup c=>obtain⟨_,_,_,p⟩:=x;exact p.lt
 |dK b=>obtain⟨_,_,_,_,o,_,_,e,_⟩:=x;exact Heap.lt_size e
 |dT b=>obtain⟨_,_,_,_,o,_,_,e,_⟩:=x;exact Heap.lt_size e
 |set S n=>obtain⟨o,_,_,_,e,_⟩:=x;exact Heap.lt_size e
 |ins C g d=>obtain⟨_,_,_,e,_⟩:=x;exact Heap.lt_size e
 |own y=>obtain⟨_,e⟩:=x;exact Heap.lt_size e
 |xd d=>obtain⟨_,⟨_,_,_,e,_⟩,_⟩:=x;exact Heap.lt_size e
 |Ht i j=>obtain⟨_,_,_,e⟩:=x;exact Heap.lt_size e
 |ee k u=>obtain⟨e,_⟩:=x;exact Heap.lt_size e
 |Av l=>exact Heap.lt_size (show h.get? a=some _ from x)
 |met f y=>exact Heap.lt_size (show h.get? a=some _ from x)
 |ext m=>obtain⟨_,⟨_,e⟩,_⟩:=x;exact Heap.lt_size e
theorem Paired.CS{α c:Type}{F G:α->c->Prop}:∀{l₁:List α}{l₂:List c},Paired F l₁ l₂->(∀a b,F a b->G a b)->Paired G l₁ l₂
 |_,_,.nil,_=>.nil
 |_,_,.cons r t,f=>.cons (f _ _ r) (Paired.CS t f)
theorem b_.stay(x:b_ P w H h a o)(k:∀b u,(b=a\/H b=some (.own a))->h.get? b=some u->h'.get? b=some u)
  (E:∀b,H b=some (.own a)->H' b=some (.own a)) (F:∀b xs,H b=some (.tup xs)->H' b=some (.tup xs)):b_ P w H' h' a o:=by
 induction o with
 |lst xs=>obtain⟨z,l,n,r,e⟩:=x;exact⟨z,l,n,r,k _ _ (.inl rfl) e⟩
 |tup xs=>obtain⟨z,l,r,g,e,c⟩:=x;exact⟨z,l,r,g,k _ _ (.inl rfl) e,c⟩
 |dK m=>obtain⟨z,y,G,r,g,i,j,e,c⟩:=x;exact⟨z,y,G,r,g,i,j,k _ _ (.inl rfl) e,c⟩
 |dT m=>
  obtain⟨z,y,xs,r,g,i,j,e,c⟩:=x;exact⟨z,y,xs,Paired.CS r λp q z=>⟨z.1,F _ _ z.2.1,z.2.2⟩,g,i,j,k _ _ (.inl rfl) e,c⟩
 |set S n=>obtain⟨g,i,j,t,e,c⟩:=x;exact⟨g,i,j,t,k _ _ (.inl rfl) e,c⟩
 |ins C M I=>
  obtain⟨d,z,J,e,s,⟨A,i,j,K,c⟩,r⟩:=x;exact⟨E _ d,z,J,k _ _ (.inl rfl) e,s,⟨A,i,j,k _ _ (.inr d) K,c⟩,r⟩
 |own y=>obtain⟨g,e⟩:=x;exact⟨g,k _ _ (.inl rfl) e⟩
 |xd I=>obtain⟨s,⟨A,i,j,e,c⟩,r⟩:=x;exact⟨s,⟨A,i,j,k _ _ (.inl rfl) e,c⟩,r⟩
 |Ht N O=>obtain⟨t,u,v,e⟩:=x;exact⟨t,u,v,k _ _ (.inl rfl) e⟩
 |ee g u L=>obtain⟨e,q⟩:=x;exact⟨k _ _ (.inl rfl) e,L q⟩
 |Av B=>
  have e:h.get? a=some {cls:=.none,data:=.fields B}:=x
  show h'.get? a=some {cls:=.none,data:=.fields B}
  exact k a _ (.inl rfl) e
 |met f y=>
  have e:h.get? a=some (PySem.W.methodObj (.ref f) (.ref y)):=x
  show h'.get? a=some (PySem.W.methodObj (.ref f) (.ref y))
  exact k a _ (.inl rfl) e
 |ext Q=>obtain⟨p,⟨o,e⟩,D⟩:=x;exact⟨D _ _ p λo q=>k _ _ (.inl rfl) q,⟨o,k _ _ (.inl rfl) e⟩,D⟩
theorem gR.lt(x:gR P w H h)(e:H a=some o):a<h.objs.size:=(x a o e).lt
theorem gR.fresh(x:gR P w H h)(e:h.objs.size<=a):H a=none:=by
 cases q:H a with
 |none=>rfl
 |some u=>exact absurd (Nat.lt_of_lt_of_le (x.lt q) e) (Nat.lt_irrefl _)
theorem gR.kept(x:gR P w H h)(k:∀b u,h.get? b=some u->h'.get? b=some u):gR P w H h':=λa o e=>
 (x a o e).stay (λb u _ q=>k b u q) (λ_ q=>q) λ_ _ q=>q
theorem gR.laid(x:gR P w H h)(k:∀b u,h.get? b=some u->h'.get? b=some u)(i:h.objs.size<=a)(d:b_ P w (upd H a o) h' a o):gR P w (upd H a o) h':=λb u e=>by
 have f:=x.fresh i
 by_cases g:b=a
 .subst g;rw[bc]at e;cases e;exact d
 .rw[aI g]at e
  exact(x b u e).stay (λc v _ q=>k c v q) (λc q=>by rw[aI (aY q f)];exact q) λc j q=>by rw[aI (aY q f)];exact q
end
def Rd(H:Hp)(a:Addr)(u:HO):Prop:=H a=some u\/∃o,H a=some (.ee o u)
theorem Rd.ok{P:Program}{w:World}{H:Hp}{h:Heap}{a:Addr}{u:HO}(r:Rd H a u)(x:gR P w H h):b_ P w H h a u:=by
 rcases r with r|⟨o,r⟩
 .exact x a u r
 .obtain⟨_,q⟩:=x a _ r
  exact q
def CT:Option HO->Prop
 |some (.lst _)=>True
 |some (.dK _)=>True
 |some (.dT _)=>True
 |some (.set _ _)=>True
 |some (.ins _ _ _)=>True
 |some (.ext _)=>True
 |_=>False
section
variable{P:Program}{w:World}{H:Hp}{h h':Heap}{x e:Addr}{o':HO}
theorem gR.write(ok:gR P w H h)(g:CT (H x))(n:e=x\/H e=some (.own x))(k:∀b u,b≠e->h.get? b=some u->h'.get? b=some u)(l:∃u,h'.get? e=some u)
  (m:b_ P w (upd H x o') h' x o'):gR P w (upd H x o') h':=λb u q=>by
 have d:∀c y,H c=some (.own y)->c≠x:=λc y r z=>by subst z;rw[r]at g;exact g
 have f:∀c i,H c=some (.tup i)->c≠x:=λc i r z=>by subst z;rw[r]at g;exact g
 by_cases j:b=x
 .subst j;rw[bc]at q;cases q;exact m
 .rw[aI j]at q
  by_cases a:b=e
  .have o:H b=some (.own x):=by
    rcases n with z|z
    .exact absurd (a.trans z) j
    .rw[a];exact z
   rw[q]at o;cases o
   obtain⟨v,p⟩:=l;exact⟨v,by rw[a];exact p⟩
  .refine(ok b u q).stay (λc v hc r=>k c v ?_ r) (λc r=>by rw[aI (d c b r)];exact r) λc i r=>by rw[aI (f c i r)];exact r
   rcases hc with rfl|hc
   .exact a
   .rintro rfl
    rcases n with z|z
    .exact d c b hc z
    .rw[hc]at z;cases z;exact j rfl
end
structure Un(fs ex:List Addr)(H H':Hp)(h h':Heap):Prop where
 keep:∀b o,h.get? b=some o->H b=none->b∉fs->b∉ex->h'.get? b=some o
 slot:∀b o,h.get? b=some o->H b=none->b∈fs->b∉ex->∃sl,h'.get? b=some {o with slots:=sl}
 free:∀b o,h.get? b=some o->H b=none->b∉ex->H' b=none
 there:∀b o,h.get? b=some o->b∉ex->∃o',h'.get? b=some o'
 tups:∀b xs,H b=some (.tup xs)->H' b=some (.tup xs)
 iN:∀b o u,H b=some (.ee o u)->H' b=some (.ee o u)
 mF:∀b ps,H b=some (.Av ps)->∃more,H' b=some (.Av (ps++more))
section
variable{fs fs' ex ex':List Addr}{H H1 H2:Hp}{h h1 h2 h':Heap}{a x e:Addr}{o:HO}
theorem Un.any(u:Un fs ex H H1 h h1){b:Addr}{ob:Obj}(q:h.get? b=some ob)(n:H b=none)(a:b∉ex):∃d,h1.get? b=some {ob with slots:=d}:=by
 by_cases c:b∈fs
 .exact u.slot b ob q n c a
 .exact⟨ob.slots,u.keep b ob q n c a⟩
theorem Un.kept(k:∀b u,h.get? b=some u->h'.get? b=some u):Un fs ex H H h h':=
 ⟨λb a q _ _ _=>k b a q,λb a q _ _ _=>⟨a.slots,k b a q⟩,λ_ _ _ n _=>n,λb a q _=>⟨a,k b a q⟩,λ_ _ q=>q,λ_ _ _ q=>q,λ_ c q=>⟨#[],by rw[q];simp⟩⟩
theorem Un.refl:Un fs ex H H h h:=Un.kept λ_ _ q=>q
theorem Un.laid(k:∀b u,h.get? b=some u->h'.get? b=some u)(d:h.objs.size<=a)(c:H a=none):Un fs ex H (upd H a o) h h' where
 keep:=λb u q _ _ _=>k b u q
 slot:=λb u q _ _ _=>⟨u.slots,k b u q⟩
 free:=λb u q n _=>by rw[aI (Nat.ne_of_lt (Nat.lt_of_lt_of_le (Heap.lt_size q) d))];exact n
 there:=λb u q _=>⟨u,k b u q⟩
 tups:=λb e q=>by rw[aI (aY q c)];exact q
 iN:=λb u e q=>by rw[aI (aY q c)];exact q
 mF:=λb f q=>⟨#[],by rw[aI (aY q c),q];simp⟩
theorem Un.write(c:CT (H x))(j:e=x\/H e=some (.own x))(k:∀b u,b≠e->h.get? b=some u->h'.get? b=some u)(d:∃u,h'.get? e=some u):Un fs ex H (upd H x o) h h':=by
 have g:∀b,H b=none->b≠x:=λb n z=>by subst z;rw[n]at c;exact c
 have i:∀b,H b=none->b≠e:=λb n z=>by
  subst z;rcases j with r|r
  .exact g b n r
  .rw[n]at r;cases r
 have f:∀b u,H b=some u->¬ CT (some u)->b≠x:=λb u q l z=>by subst z;rw[q]at c;exact l c
 refine⟨λb u q n _ _=>k b u (i b n) q,λb u q n _ _=>⟨u.slots,k b u (i b n) q⟩,λb u q n _=>by rw[aI (g b n)];exact n,λb u q _=>?_,
  λb m q=>by rw[aI (f b _ q λz=>z)];exact q,λb u m q=>by rw[aI (f b _ q λz=>z)];exact q,λb p q=>⟨#[],by rw[aI (f b _ q λz=>z),q];simp⟩⟩
 by_cases a:b=e
 .subst a;exact d
 .exact⟨u,k b u a q⟩
end
noncomputable def FV(h:Heap)(H:Hp):List Addr:=(List.range h.objs.size).filter λa=>(H a).isSome
def kP(h:Heap)(H:Hp):Heap:=PySem.W.hideAll h (FV h H)
theorem rL(h:Heap)(H:Hp):(kP h H).objs.size=h.objs.size:=PySem.W.hideAll_size _ _
theorem tI{h:Heap}{H:Hp}{b:Addr}{o:Obj}(e:h.get? b=some o)(n:H b=none):(kP h H).get? b=some o:=
 PySem.W.hideAll_get _ e λa=>by
  have q:(H b).isSome=true:=(List.mem_filter.mp a).2;rw[n]at q;simp at q
theorem wU{h:Heap}{H:Hp}{b:Addr}{o:Obj}(e:(kP h H).get? b=some o):h.get? b=some o/\H b=none:=by
 have a:h.get? b=some o:=PySem.W.of_hideAll (FV h H) e;refine⟨a,?_⟩;cases q:H b with
 |none=>rfl
 |some x=>
  have c:b∈FV h H:=List.mem_filter.mpr ⟨List.mem_range.mpr (Heap.lt_size a),by simp[q]⟩
  have z:(kP h H).get? b=none:=PySem.W.hideAll_none (FV h H) c;rw[z]at e;cases e
noncomputable def wV(g h:Heap)(L:Addr):List (Addr×Obj):=(List.range h.objs.size).filterMap λa=>if a=L\/(g.get? a).isSome=true then none else (h.get? a).map λo=>(a,o)
def rest(g h:Heap)(L d:Addr):List (Addr×Obj):=(wV g h L).filter λp=>decide (p.1≠d)
structure Mod(K:PySem.W.Frag)(mg:Str->Option Value)(base:Heap):Prop where
 Hu:K.In base
 glob:base.Ns mainGlobals mg
 blt:∃mb,base.Ns builtinsNs mb/\∀x:Str,x≠"__name__"->mb x=bootBuiltins x
 nolimit:base.NoLimit
structure Cx where
 prog:Program
 w:World
 K:PySem.W.Frag
 mg:Str->Option Value
 base:Heap
 A:Around
 N:List Str
 s₀:Shared
 H₀:Hp
 env:Env
 outer:List Env
 stack:List Env
 ex:List Addr
 fn:Str->Bool
 calm:Bool
 pn:List (Addr×Obj)
 xe:Value->Shared->Prop
noncomputable def frs(l:List Env):List Addr:=l.filterMap (·.frame)
abbrev Cx.fs(X:Cx):List Addr:=frs X.outer
def CD(a:Scope)(x:Str):Prop:=a.names.lookup x=some .local\/a.names.lookup x=some .cell\/a.names.lookup x=some .free
def Loc(a:Scope)(x:Str):Prop:=a.names.lookup x=some .local\/a.names.lookup x=some .cell
def Look(env:Env)(h:Heap)(m:Str->Option Value)(x:Str)(u:Value):Prop:=
 (env.kindOf x=some .local/\m x=some u)\/((env.kindOf x=some .cell\/env.kindOf x=some .free)/\∃c,env.cells.lookup x=some c/\h.IsCell c (some u))
structure Cx.Ok(X:Cx):Prop where
 mod:Mod X.K X.mg X.base
 kind:X.env.scope.kind=.function
 glob:X.env.globals=mainGlobals
 blt:X.env.builtins=builtinsNs
 above:X.s₀.heap.objs.size<=X.env.locals
 inj:∀x y c,X.env.cells.lookup x=some c->X.env.cells.lookup y=some c->x=y
 has:∀x,(X.env.kindOf x=some .cell\/X.env.kindOf x=some .free)->∃c,X.env.cells.lookup x=some c
 cab:∀x c,X.fn x=true->X.env.cells.lookup x=some c->X.s₀.heap.objs.size<=c
 hd:X.calm=true->X.A.handled=none
 frames:X.A.frames=some X.stack
 FW:X.stack=X.outer\/(X.stack=X.env::X.outer/\X.env.frame=some X.env.locals)
 FX:∀b∈X.ex,b≠X.env.locals/\∀x c,X.env.cells.lookup x=some c->c≠b
 bs:∀b o,X.base.get? b=some o->X.s₀.heap.get? b=some o/\X.H₀ b=none
 Aw:X.base.objs.size<=X.s₀.heap.objs.size
 tK:∀b o,X.base.get? b=some o->b∉X.ex
 tL:∀b∈X.ex,b∉X.fs
 iO:X.s₀.heap.FunFrames X.base X.outer
 CF:∀b∈X.fs,X.H₀ b=none
structure Inv(X:Cx)(pins:List (Addr×Obj))(σ:List (Option V))(H:Hp)(s:Shared):Prop where
 ok:X.Ok
 os:s.os=X.s₀.os
 bare:AllBare s.gens
 base:Un X.fs X.ex X.H₀ H X.s₀.heap s.heap
 loc:∃m,s.heap.Ns X.env.locals m/\∀(i:Nat) (x:Str) (v:V),X.N[i]?=some x->σ[i]?=some (some v)->CD X.env.scope x->∃u,RelV v u/\Look X.env s.heap m x u
 cell:∀x c,X.env.cells.lookup x=some c->∃v,s.heap.IsCell c v
 free:H X.env.locals=none
 fq:∀x c,X.env.cells.lookup x=some c->(H c=none\/∃o u,H c=some (.ee o u))/\(X.fn x=true->H c=none)
 pin:∀p∈X.pn++pins,s.heap.get? p.1=some p.2/\H p.1=none/\p.1≠X.env.locals/\p.1∉X.fs/\∀v,p.2.data≠.cell v
 hok:gR X.prog X.w H s.heap
 len:σ.length=X.N.length
section
variable{X:Cx}{pins:List (Addr×Obj)}{σ:List (Option V)}{H H':Hp}{s:Shared}{h':Heap}
theorem Cx.Ok.Hv(ok:X.Ok){b:Addr}{o:Obj}(e:X.base.get? b=some o):b∉X.fs:=λa=>by
 have:=(ok.iO.mem a).1;rw[e]at this;cases this
theorem Inv.bs(I:Inv X pins σ H s):∀b o,X.base.get? b=some o->s.heap.get? b=some o/\H b=none:=λb o e=>
 ⟨I.base.keep b o (I.ok.bs b o e).1 (I.ok.bs b o e).2 (I.ok.Hv e) (I.ok.tK b o e),I.base.free b o (I.ok.bs b o e).1 (I.ok.bs b o e).2 (I.ok.tK b o e)⟩
theorem Inv.bk(I:Inv X pins σ H s):∀b o,X.base.get? b=some o->s.heap.get? b=some o:=λb o e=>(I.bs b o e).1
theorem Inv.mod(I:Inv X pins σ H s):Mod X.K X.mg X.base:=I.ok.mod
theorem Inv.kh(I:Inv X pins σ H s):X.K.In s.heap:=I.ok.mod.Hu.keeps I.bk
theorem Inv.lt(I:Inv X pins σ H s):X.env.locals<s.heap.objs.size:=let ⟨_,a,_⟩:=I.loc;a.lt
theorem Inv.sz(I:Inv X pins σ H s):X.s₀.heap.objs.size<=s.heap.objs.size:=Nat.le_trans I.ok.above (Nat.le_of_lt I.lt)
theorem Inv.Hw(I:Inv X pins σ H s){a:Addr}(h:s.heap.objs.size<=a):a∉X.fs:=λb=>by
 obtain⟨_,o,c,_⟩:=I.ok.iO.mem b;exact absurd (Nat.lt_of_lt_of_le (Heap.lt_size c) (Nat.le_trans I.sz h)) (Nat.lt_irrefl _)
theorem Inv.Hx(I:Inv X pins σ H s):∀x c,X.env.cells.lookup x=some c->c≠X.env.locals:=λx c e z=>by
 obtain⟨v,o,b,d⟩:=I.cell x c e;obtain⟨m,⟨f,g,h,a,hd',_⟩,_⟩:=I.loc;rw[z,a]at b;cases b;rw[hd']at d;cases d
theorem Inv.iO(I:Inv X pins σ H s):s.heap.FunFrames X.base X.outer:=by
 have a:∀(l:List Env),(∀b∈frs l,b∈X.fs)->X.s₀.heap.FunFrames X.base l->s.heap.FunFrames X.base l:=by
  intro l
  induction l with
  |nil=>intro _ _;trivial
  |cons h r i=>
   intro g j;obtain⟨k,⟨L,o,c,m,n,p⟩,q⟩:=j;have d:L∈X.fs:=g L (by unfold frs;rw[List.filterMap_cons,c];exact List.mem_cons_self)
   obtain⟨t,e⟩:=I.base.slot L o n (I.ok.CF L d) d λz=>I.ok.tL L z d
   exact⟨k,⟨L,_,c,m,e,p⟩,i (λb f=>g b (by unfold frs;rw[List.filterMap_cons,c];exact List.mem_cons_of_mem _ f)) q⟩
 exact a X.outer (λ_ f=>f) I.ok.iO
theorem Inv.stack(I:Inv X pins σ H s):s.heap.FunFrames X.base X.stack:=by
 rcases I.ok.FW with e|⟨e,a⟩
 .rw[e];exact I.iO
 .rw[e]
  obtain⟨m,b,_⟩:=I.loc;refine .cons (by rw[I.ok.kind];decide) a b ?_ I.iO
  exact Heap.get?_none_of_le (Nat.le_trans I.ok.Aw I.ok.above)
theorem Inv.ox(I:Inv X pins σ H s):∀b∈frs X.stack,b∈X.env.locals::X.fs:=λb a=>by
 rcases I.ok.FW with e|⟨e,c⟩
 .rw[e]at a;exact List.mem_cons_of_mem _ a
 .rw[e]at a
  unfold frs at a;rw[List.filterMap_cons,c]at a;exact a
theorem Inv.pY(I:Inv X pins σ H s):∀b∈frs X.stack,H b=none:=λb hb=>by
 rcases List.mem_cons.mp (I.ox b hb)with e|hb
 .rw[e];exact I.free
 .obtain⟨_,o,a,_⟩:=I.ok.iO.mem hb
  exact I.base.free b o a (I.ok.CF b hb) λz=>I.ok.tL b z hb
theorem Inv.step{g':Array GenState}{t':Nat}{d':Drawn}{ch:List Addr}(I:Inv X pins σ H s)
  (h:∀b∈ch,(b∈X.ex\/X.s₀.heap.objs.size<=b)/\b≠X.env.locals/\(∀x c,X.env.cells.lookup x=some c->c≠b)/\∀p∈X.pn++pins,p.1≠b)
  (keep:∀b o,b≠X.env.locals->b∉X.fs->b∉ch->s.heap.get? b=some o->H b=none->h'.get? b=some o)
  (slot:∀b o,b≠X.env.locals->b∈X.fs->b∉ch->s.heap.get? b=some o->H b=none->∃M,h'.get? b=some {o with slots:=M}) (free:∀b o,b∉ch->s.heap.get? b=some o->H b=none->H' b=none)
  (there:∀b o,b∉ch->s.heap.get? b=some o->∃E,h'.get? b=some E)
  (tups:∀b xs,H b=some (.tup xs)->H' b=some (.tup xs)) (iN:∀b o u,H b=some (.ee o u)->H' b=some (.ee o u)) (mF:∀b ps,H b=some (.Av ps)->∃more,H' b=some (.Av (ps++more)))
  (S:∀m,s.heap.Ns X.env.locals m->h'.Ns X.env.locals m) (F:gR X.prog X.w H' h') (T:AllBare g') :
  Inv X pins σ H' {s with heap:=h',gens:=g',drawn:=d',toks:=t' }:=by
 have G:∀b o,X.s₀.heap.get? b=some o->b≠X.env.locals:=λb o e=>Nat.ne_of_lt (Nat.lt_of_lt_of_le (Heap.lt_size e) I.ok.above)
 have t:∀b o,X.s₀.heap.get? b=some o->b∉X.ex->b∉ch:=λb o e f A=>by
  rcases(h b A).1 with z|z
  .exact f z
  .exact absurd (Nat.lt_of_lt_of_le (Heap.lt_size e) z) (Nat.lt_irrefl _)
 have j:∀x c,X.env.cells.lookup x=some c->∀v,s.heap.IsCell c v->h'.IsCell c v:=λx c e v ⟨o,y,J⟩=>by
  have a:c∉ch:=λz=>(h c z).2.2.1 x c e rfl
  rcases(I.fq x c e).1 with C|⟨D,K,L⟩
  .by_cases O:c∈X.fs
   .obtain⟨M,q⟩:=slot c o (I.Hx x c e) O a y C
    exact⟨_,q,J⟩
   .exact⟨o,keep c o (I.Hx x c e) O a y C,J⟩
  .have g:s.heap.get? c=some D:=(I.hok c _ L).1
   have B:h'.get? c=some D:=(F c _ (iN c D K L)).1;rw[y]at g;cases g
   exact⟨o,B,J⟩
 refine⟨I.ok,I.os,T,⟨λb o e n A f=>?_,λb o e n A f=>?_,λb o e n f=>?_,λb o e f=>?_,λb xs e=>tups b xs (I.base.tups b xs e),λb o xs e=>iN b o xs (I.base.iN b o xs e),λb ps e=>?_⟩,?_,λx c e=>?_,?_,λx c e=>?_,λp P=>?_,F,I.len⟩
 .exact keep b o (G b o e) A (t b o e f) (I.base.keep b o e n A f) (I.base.free b o e n f)
 .obtain⟨M,g⟩:=I.base.slot b o e n A f
  obtain⟨N,B⟩:=slot b _ (G b o e) A (t b o e f) g (I.base.free b o e n f);exact⟨N,B⟩
 .obtain⟨E,g⟩:=I.base.there b o e f
  exact free b E (t b o e f) g (I.base.free b o e n f)
 .obtain⟨E,g⟩:=I.base.there b o e f
  exact there b E (t b o e f) g
 .obtain⟨m1,g⟩:=I.base.mF b ps e
  obtain⟨m2,B⟩:=mF b _ g;exact⟨m1++m2,by rw[B,Array.append_assoc]⟩
 .obtain⟨m,C,U⟩:=I.loc
  refine⟨m,S m C,λi x v g B V=>?_⟩
  obtain⟨u,r,l⟩:=U i x v g B V;refine⟨u,r,?_⟩;rcases l with l|⟨k,c,e,z⟩
  .exact .inl l
  .exact .inr ⟨k,c,e,j x c e _ z⟩
 .obtain⟨v,z⟩:=I.cell x c e
  exact⟨v,j x c e v z⟩
 .obtain⟨m,⟨o,_,_,y,_⟩,_⟩:=I.loc
  exact free _ o (λz=>(h _ z).2.1 rfl) y I.free
 .obtain⟨v,o,y,J⟩:=I.cell x c e
  have a:c∉ch:=λz=>(h c z).2.2.1 x c e rfl
  refine⟨?_,λY=>free c o a y ((I.fq x c e).2 Y)⟩
  rcases(I.fq x c e).1 with C|⟨D,K,L⟩
  .exact .inl (free c o a y C)
  .exact .inr ⟨D,K,iN c D K L⟩
 .obtain⟨e,n,Q,R,d⟩:=I.pin p P
  have a:p.1∉ch:=λz=>(h p.1 z).2.2.2 p P rfl
  exact⟨keep p.1 p.2 Q R a e n,free p.1 p.2 a e n,Q,R,d⟩
theorem Inv.un{t':Nat}(I:Inv X pins σ H s)(u:Un X.fs [] H H' s.heap h')(c:gR X.prog X.w H' h'):Inv X pins σ H' {s with heap:=h',toks:=t' }:=by
 obtain⟨m,⟨o,l,p,h,r⟩,_⟩:=id I.loc;obtain⟨q,i⟩:=u.any h I.free (by simp)
 exact I.step (g':=s.gens) (d':=s.drawn) (ch:=[]) (λ_ z=>nomatch z) (λb o _ d _ e n=>u.keep b o e n d (by simp)) (λb o _ d _ e n=>u.slot b o e n d (by simp)) (λb o _ e n=>u.free b o e n (by simp)) (λb o _ e=>u.there b o e (by simp)) u.tups u.iN u.mF (λt j=>by
  obtain⟨x,f,g,a,k⟩:=j;rw[h]at a;cases a
  exact⟨_,f,g,i,k⟩) c I.bare
theorem Inv.call{g':Array GenState}{t':Nat}{d':Drawn}{ch:List Addr}(I:Inv X pins σ H s)(u:Un (frs X.stack) ch H H' s.heap h')(g:gR X.prog X.w H' h')(l:AllBare g')
  (d:∀b∈ch,(b∈X.ex\/X.s₀.heap.objs.size<=b)/\b≠X.env.locals/\(∀x c,X.env.cells.lookup x=some c->c≠b)/\∀p∈X.pn++pins,p.1≠b) :
  Inv X pins σ H' {s with heap:=h',gens:=g',drawn:=d',toks:=t' }:=by
 obtain⟨m,⟨o,A,B,k,r⟩,_⟩:=id I.loc;obtain⟨C,h⟩:=u.any k I.free λz=>(d _ z).2.1 rfl
 exact I.step (ch:=ch) d (λb o h q a e n=>u.keep b o e n (λz=>(List.mem_cons.mp (I.ox b z)).elim h q) a) (λb o _ _ a e n=>u.any e n a) (λb o a e n=>u.free b o e n a) (λb o a e=>u.there b o e a) u.tups u.iN u.mF (λD t=>by
  obtain⟨E,i,j,f,y⟩:=t;rw[k]at f;cases f
  exact⟨_,i,j,h,y⟩) g l
theorem Inv.turned{t':Nat}{it:Addr}(I:Inv X pins σ H s)(k:∀b o,b≠it->s.heap.get? b=some o->h'.get? b=some o)(g:H it=none)(f:it≠X.env.locals)
  (h:it∈X.ex\/X.s₀.heap.objs.size<=it) (i:∀x c,X.env.cells.lookup x=some c->c≠it) (j:∀p∈X.pn++pins,p.1≠it):Inv X pins σ H {s with heap:=h',toks:=t' }:=by
 have d:∀b u,H b=some u->b≠it:=λb u e z=>by rw[z,g]at e;cases e
 refine I.step (g':=s.gens) (d':=s.drawn) (ch:=[it]) (λb l=>?_) (λb o _ _ a e _=>k b o (λz=>a (by simp[z])) e) (λb o _ _ a e _=>⟨o.slots,k b o (λz=>a (by simp[z])) e⟩) (λ_ _ _ _ n=>n)
  (λb o a e=>⟨o,k b o (λz=>a (by simp[z])) e⟩) (λ_ _ e=>e) (λ_ _ _ e=>e) (λb B e=>⟨#[],by rw[e];simp⟩) (λm t=>?_) (λb u e=>?_) I.bare
 .have e:b=it:=by simpa using l
  subst e;exact⟨h,f,i,j⟩
 .obtain⟨o,w,y,A,r⟩:=t
  exact⟨o,w,y,k _ o (Ne.symm f) A,r⟩
 .refine(I.hok b u e).stay (λc v a q=>k c v ?_ q) (λ_ q=>q) λ_ _ q=>q
  rcases a with z|z
  .rw[z];exact d b u e
  .exact d c _ z
theorem Inv.tok(I:Inv X pins σ H s)(t:Nat):Inv X pins σ H {s with toks:=t}:=I.un (h':=s.heap) (t':=t) Un.refl I.hok
theorem Inv.kept{t':Nat}(I:Inv X pins σ H s)(k:∀b u,s.heap.get? b=some u->h'.get? b=some u):Inv X pins σ H {s with heap:=h',toks:=t' }:=I.un (Un.kept k) (I.hok.kept k)
theorem Inv.laid{a:Addr}{o:HO}{t':Nat}(I:Inv X pins σ H s)(k:∀b u,s.heap.get? b=some u->h'.get? b=some u)(c:s.heap.objs.size<=a)(d:b_ X.prog X.w (upd H a o) h' a o) :
  Inv X pins σ (upd H a o) {s with heap:=h',toks:=t' }:=I.un (Un.laid k c (I.hok.fresh c)) (I.hok.laid k c d)
theorem Inv.write{x e:Addr}{o:HO}{t':Nat}(I:Inv X pins σ H s)(d:CT (H x))(f:e=x\/H e=some (.own x))(k:∀b u,b≠e->s.heap.get? b=some u->h'.get? b=some u)(a:∃u,h'.get? e=some u)
  (c:b_ X.prog X.w (upd H x o) h' x o):Inv X pins σ (upd H x o) {s with heap:=h',toks:=t' }:=I.un (Un.write d f k a) (I.hok.write d f k a c)
theorem Inv.weak{a:List (Option V)}(I:Inv X pins σ H s)(c:a.length=σ.length)(w:∀(i:Nat) v,a[i]?=some (some v)->σ[i]?=some (some v)):Inv X pins a H s:=
 ⟨I.ok,I.os,I.bare,I.base,let ⟨m,d,b⟩:=I.loc;⟨m,d,λi x v e f g=>b i x v e (w i v f) g⟩,I.cell,I.free,I.fq,I.pin,I.hok,c.trans I.len⟩
theorem Inv.pZ{a:List (Addr×Obj)}(I:Inv X pins σ H s)(h:∀p∈a,s.heap.get? p.1=some p.2/\H p.1=none/\p.1≠X.env.locals/\p.1∉X.fs/\∀v,p.2.data≠.cell v):Inv X a σ H s:=
 ⟨I.ok,I.os,I.bare,I.base,I.loc,I.cell,I.free,I.fq,λp b=>(List.mem_append.mp b).elim (λz=>I.pin p (List.mem_append_left _ z)) (h p),I.hok,I.len⟩
theorem mG{N:List Str}(c:N.Nodup){i j:Nat}{x:Str}(a:N[i]?=some x)(b:N[j]?=some x):i=j:=by
 obtain⟨f,d⟩:=List.getElem?_eq_some_iff.mp a;obtain⟨g,e⟩:=List.getElem?_eq_some_iff.mp b;exact(List.getElem_inj c).mp (d.trans e.symm)
theorem ki{M:Model}{A:Around}{E:Value->Shared->Prop}{i:Nat}{x:Str}{v:V}{u:Value}{Q:Unit->Shared->Prop}(I:Inv X pins σ H s)(hN:X.N.Nodup)(O:X.N[i]?=some x)(t:Loc X.env.scope x)(r:RelV v u)
  (h:∀s',Inv X pins (σ.set i (some v)) H s'->(∃a,Heap.SameBut a s.heap s'.heap/\(a=X.env.locals\/X.env.cells.lookup x=some a))->Q () s') (hf:X.fn x=true\/X.env.scope.names.lookup x=some .local:=by first|exact .inl rfl|exact .inr rfl|assumption):wpAny M A (storeName X.env x u) Q E s:=by
 obtain⟨m,hn,hl⟩:=id I.loc;have P:(X.env.scope.kind==.class||(X.env.scope.kind==.module&&X.env.locals != X.env.globals))=false:=by rw[I.ok.kind];rfl
 have F:i<σ.length:=by rw[I.len];exact(List.getElem?_eq_some_iff.mp O).1
 have G:=I.Hx
 have g:∀{a:Addr}{L:Heap},(∃o,s.heap.get? a=some o/\H a=none)->Heap.SameBut a s.heap L->gR X.prog X.w H L:=λ{a L} ha f b ob e=>by
  obtain⟨_,_,B⟩:=ha;refine(I.hok b ob e).stay (λc Y hc q=>(f.2 c ?_).trans q) (λ_ q=>q) λ_ _ q=>q
  rintro rfl;rcases hc with rfl|hc
  .rw[B]at e;cases e
  .rw[B]at hc;cases hc
 rcases t with hk|hk
 .refine wpAny_storeName_local hk hn (λL a0 f=>?_) P
  obtain⟨oL,_,_,b0,_⟩:=id hn;refine h _ ⟨I.ok,I.os,I.bare,⟨λb o e n J t=>?_,λb o e n J t=>?_,I.base.free,λb o e t=>?_,I.base.tups,I.base.iN,I.base.mF⟩,⟨_,a0,λj y v' l C e3=>?_⟩,λy c e=>?_,I.free,I.fq,λp hp=>?_,g ⟨oL,b0,I.free⟩ f,by simpa using I.len⟩ ⟨_,f,.inl rfl⟩
  .exact(f.2 b (Nat.ne_of_lt (Nat.lt_of_lt_of_le (Heap.lt_size e) I.ok.above))).trans (I.base.keep b o e n J t)
  .obtain⟨sl,l⟩:=I.base.slot b o e n J t
   exact⟨sl,(f.2 b (Nat.ne_of_lt (Nat.lt_of_lt_of_le (Heap.lt_size e) I.ok.above))).trans l⟩
  .obtain⟨o',l⟩:=I.base.there b o e t
   exact⟨o',(f.2 b (Nat.ne_of_lt (Nat.lt_of_lt_of_le (Heap.lt_size e) I.ok.above))).trans l⟩
  .by_cases K:j=i
   .subst K
    rw[O]at l;cases l
    rw[List.getElem?_set_self F]at C;cases C;exact⟨u,r,.inl ⟨hk,by simp⟩⟩
   .rw[List.getElem?_set_ne (Ne.symm K)]at C
    obtain⟨u',r',q⟩:=hl j y v' l C e3;refine⟨u',r',?_⟩;rcases q with ⟨k,e⟩|⟨k,c,e,z⟩
    .refine .inl ⟨k,?_⟩
     have:y≠x:=λe=>K (mG hN l (e▸O))
     simp[this,e]
    .exact .inr ⟨k,c,e,z.sameBut f (G y c e)⟩
  .obtain⟨Y,z⟩:=I.cell y c e
   exact⟨Y,z.sameBut f (G y c e)⟩
  .obtain⟨e,n,Z,nf,d⟩:=I.pin p hp
   exact⟨(f.2 p.1 Z).trans e,n,Z,nf,d⟩
 .have D:X.fn x=true:=by
   rcases hf with z|z
   .exact z
   .rw[z]at hk;cases hk
  obtain⟨c,hc⟩:=I.ok.has x (.inl hk);obtain⟨Y,z⟩:=I.cell x c hc;refine wpAny_storeName_cell I.ok.kind hk hc z (λL R f=>?_)
  obtain⟨oc,S,T⟩:=id z;refine h {s with heap:=L} ⟨I.ok,I.os,I.bare,⟨λb o e n J t=>?_,λb o e n J t=>?_,I.base.free,λb o e t=>?_,I.base.tups,I.base.iN,I.base.mF⟩,⟨m,hn.sameBut f (Ne.symm (G x c hc)),λj y v' l C e3=>?_⟩,λy c' e=>?_,I.free,I.fq,λp hp=>?_,g ⟨oc,S,(I.fq x c hc).2 D⟩ f,by simpa using I.len⟩ ⟨c,f,.inr hc⟩
  .exact(f.2 b (Nat.ne_of_lt (Nat.lt_of_lt_of_le (Heap.lt_size e) (I.ok.cab x c D hc)))).trans (I.base.keep b o e n J t)
  .obtain⟨sl,l⟩:=I.base.slot b o e n J t
   exact⟨sl,(f.2 b (Nat.ne_of_lt (Nat.lt_of_lt_of_le (Heap.lt_size e) (I.ok.cab x c D hc)))).trans l⟩
  .obtain⟨o',l⟩:=I.base.there b o e t
   exact⟨o',(f.2 b (Nat.ne_of_lt (Nat.lt_of_lt_of_le (Heap.lt_size e) (I.ok.cab x c D hc)))).trans l⟩
  .by_cases K:j=i
   .subst K
    rw[O]at l;cases l
    rw[List.getElem?_set_self F]at C;cases C;exact⟨u,r,.inr ⟨.inl hk,c,hc,R⟩⟩
   .rw[List.getElem?_set_ne (Ne.symm K)]at C
    obtain⟨u',r',q⟩:=hl j y v' l C e3;refine⟨u',r',?_⟩;rcases q with q|⟨k,c',e,z'⟩
    .exact .inl q
    .refine .inr ⟨k,c',e,z'.sameBut f ?_⟩
     rintro rfl;exact K (mG hN l (I.ok.inj _ _ _ e hc▸O))
  .by_cases U:c'=c
   .subst U;exact⟨_,R⟩
   .obtain⟨w2,z2⟩:=I.cell y c' e
    exact⟨w2,z2.sameBut f U⟩
  .obtain⟨e,n,Z,nf,d⟩:=I.pin p hp
   refine⟨(f.2 p.1 ?_).trans e,n,Z,nf,d⟩;intro q;rw[q,S]at e;have q':oc=p.2:=Option.some.inj e;exact d Y (by rw[←q'];exact T)
theorem iP{M:Model}{A:Around}{E:Value->Shared->Prop}{i:Nat}{x:Str}{v:V}{u:Value}{Q:Unit->Shared->Prop}(I:Inv X pins σ H s)(b:X.N.Nodup)(c:X.N[i]?=some x)(d:Loc X.env.scope x)(r:RelV v u)
  (h:∀a,Inv X pins (σ.set i (some v)) H a->Q () a) (e:X.fn x=true\/X.env.scope.names.lookup x=some .local:=by first|exact .inl rfl|exact .inr rfl|assumption):wpAny M A (storeName X.env x u) Q E s:=
 ki I b c d r (λa f _=>h a f) e
theorem Inv.call'{a:Shared}{ch:List Addr}(I:Inv X pins σ H s)(g:a.os=s.os)(u:Un (frs X.stack) ch H H' s.heap a.heap)(d:gR X.prog X.w H' a.heap)(h:AllBare a.gens)
  (f:∀b∈ch,(b∈X.ex\/X.s₀.heap.objs.size<=b)/\b≠X.env.locals/\(∀x c,X.env.cells.lookup x=some c->c≠b)/\∀p∈X.pn++pins,p.1≠b):Inv X pins σ H' a:=by
 obtain⟨j,g',d',t',i⟩:=a;have e:i=s.os:=g;subst e;exact I.call (g':=g') (t':=t') (d':=d') u d h f
end
abbrev XK:=Value->Option Addr->Hp->Prop
abbrev St:=List (Option V)
abbrev VK:=V->Hp->Prop
abbrev TE:=St->Hp->VK->Prop
abbrev TT:=St->Hp->(Bool->Hp->Prop)->Prop
abbrev TA:=St->Hp->(List V->Hp->Prop)->Prop
structure Ends where
 nx:St->Hp->Prop
 rt:VK
 bk:St->Hp->Prop:=λ_ _=>False
 ct:St->Hp->Prop:=λ_ _=>False
abbrev TS:=Ends->St->Hp->Prop
def EP(X:Cx)(pins:List (Addr×Obj))(b:St)(Q:VK)(u:Value)(c:Shared):Prop:=∃v a,Inv X pins b a c/\RelV v u/\Q v a
def TP(X:Cx)(pins:List (Addr×Obj))(c:St)(Q:Bool->Hp->Prop)(b:Bool)(d:Shared):Prop:=∃a,Inv X pins c a d/\Q b a
def AP(X:Cx)(pins:List (Addr×Obj))(c:St)(Q:List V->Hp->Prop)(us:List Value)(d:Shared):Prop:=∃a b,Inv X pins c b d/\Vals a us/\Q a b
def SP(X:Cx)(pins:List (Addr×Obj))(D:Ends)(f:Flow)(c:Shared):Prop:=
 match f with
 |.next=>∃a b,Inv X pins a b c/\D.nx a b
 |.brk=>∃a b,Inv X pins a b c/\D.bk a b
 |.cont=>∃a b,Inv X pins a b c/\D.ct a b
 |.ret u=>∃v a b,Inv X pins a b c/\RelV v u/\D.rt v b
def PE(X:Cx)(e:Expr)(t:TE):Prop:=
 ∀(pins:List (Addr×Obj)) (s:Shared) (a:St) (H:Hp) (Q:VK),Inv X pins a H s->t a H Q->wpAny (model X.prog X.w) X.A (eval e X.env) (EP X pins a Q) X.xe s
def PT(X:Cx)(e:Expr)(t:TT):Prop:=
 ∀(pins:List (Addr×Obj)) (s:Shared) (a:St) (H:Hp) (Q:Bool->Hp->Prop),Inv X pins a H s->t a H Q->wpAny (model X.prog X.w) X.A (isTrue e X.env (eval e X.env)) (TP X pins a Q) X.xe s
def PW(X:Cx)(e:Expr)(t:TT):Prop:=
 ∀(a:Sem Value) (pins:List (Addr×Obj)) (s:Shared) (b:St) (H:Hp) (Q:Bool->Hp->Prop),Inv X pins b H s->t b H Q->wpAny (model X.prog X.w) X.A (isTrue e X.env a) (TP X pins b Q) X.xe s
theorem PW.pt{X:Cx}{e:Expr}{t:TT}(h:PW X e t):PT X e t:=h _
def PA(X:Cx)(es:List Expr)(t:TA):Prop:=
 ∀(a:Pos) (pins:List (Addr×Obj)) (s:Shared) (b:St) (H:Hp) (Q:List V->Hp->Prop),Inv X pins b H s->t b H Q->wpAny (model X.prog X.w) X.A (spliced (backTo a (starEach es X.env))) (AP X pins b Q) X.xe s
def PS(X:Cx)(st:Stmt)(t:TS):Prop:=
 ∀(pins:List (Addr×Obj)) (s:Shared) (a:St) (H:Hp) (D:Ends),Inv X pins a H s->t D a H->wpAny (model X.prog X.w) X.A (exec st X.env) (SP X pins D) X.xe s
def gS(X:Cx)(st:List Stmt)(t:TS):Prop:=
 ∀(pins:List (Addr×Obj)) (s:Shared) (a:St) (H:Hp) (D:Ends),Inv X pins a H s->t D a H->wpAny (model X.prog X.w) X.A (execs st X.env) (SP X pins D) X.xe s
theorem cf{α:Type}{t:Sem α}{Q Q':α->Shared->Prop}{M:Model}{A:Around}{E:Value->Shared->Prop}{s:Shared}(h:wpAny M A t Q E s)(b:∀a s,Q a s->Q' a s):wpAny M A t Q' E s:=wpAny_mono h b λ_ _ x=>x
section
variable{X:Cx}
noncomputable def Hy(i:Nat):TE:=λa H Q=>∃v,a[i]?=some (some v)/\Q v H
noncomputable def tC(v:V):TE:=λ_ H Q=>Q v H
theorem Ax{i:Nat}{x:Str}{pos:Pos}(j:X.N[i]?=some x)(k:CD X.env.scope x)(d:(x==("__debug__":Str))=false:=by decide)(f:(x==("__classdict__":Str))=false:=by decide):PE X (.Name x pos) (Hy i):=by
 intro pins s n H Q I h;obtain⟨v,e,h⟩:=h;obtain⟨m,o,p⟩:=I.loc;obtain⟨u,r,l⟩:=p i x v j e k;have b:EP X pins n Q u s:=⟨v,H,I,r,h⟩;rcases l with ⟨hk,q⟩|⟨hk,c,g,a⟩
 .exact wpAny_Name (wpAny_loadName_local I.ok.kind hk o q b) d
 .rcases hk with hk|hk
  .exact wpAny_Name (wpAny_loadName_cell I.ok.kind hk g a b) d
  .exact wpAny_Name (wpAny_loadName_free I.ok.kind hk g a b f) d
theorem kQ{i j pos}:PE X (.Constant (.int i) j pos) (tC (.int i)):=λ_ _ _ H _ I h=>wpAny_Constant_int ⟨.int i,H,I.tok _,⟨_,rfl⟩,h⟩
theorem CU{b j pos}:PE X (.Constant (.bool b) j pos) (tC (.bl b)):=λ_ _ _ H _ I h=>Constant_bool ⟨.bl b,H,I,rfl,h⟩
theorem Ay{j pos}:PE X (.Constant .none j pos) (tC .non):=λ_ _ _ H _ I h=>Constant_none ⟨.non,H,I,rfl,h⟩
theorem gT{x j pos}:PE X (.Constant (.str x) j pos) (tC (.str x)):=λ_ _ _ H _ I h=>Calls.Constant_str ⟨.str x,H,I.tok _,⟨_,rfl⟩,h⟩
def Gl(X:Cx)(x:Str):Prop:=X.env.kindOf x=some .globalImplicit
theorem iv{E:Value->Shared->Prop}{pins:List (Addr×Obj)}{s:Shared}{a:St}{H:Hp}{x:Str}{u:Value}{pos:Pos}{Q:Value->Shared->Prop}(I:Inv X pins a H s)(b:Gl X x)(c:X.mg x=some u)(h:Q u s)
  (d:(x==("__debug__":Str))=false:=by decide):wpAny (model X.prog X.w) X.A (eval (.Name x pos) X.env) Q E s:=
 Calls.Name_function_global I.ok.kind b (Calls.loadGlobal_global (by rw[I.ok.glob];exact I.mod.glob.keeps I.bk) c h) d
theorem ft{E:Value->Shared->Prop}{pins:List (Addr×Obj)}{s:Shared}{a:St}{H:Hp}{x:Str}{u:Value}{pos:Pos}{Q:Value->Shared->Prop}(I:Inv X pins a H s)(b:Gl X x)(c:X.mg x=none)(d:bootBuiltins x=some u)(h:Q u s)
  (e:x≠"__name__":=by decide) (f:(x==("__debug__":Str))=false:=by decide):wpAny (model X.prog X.w) X.A (eval (.Name x pos) X.env) Q E s:=by
 obtain⟨j,g,i⟩:=I.mod.blt;exact Calls.Name_function_global I.ok.kind b (Calls.loadGlobal_builtin (by rw[I.ok.glob];exact I.mod.glob.keeps I.bk) c (by rw[I.ok.blt];exact g.keeps I.bk) ((i x e).trans d) h) f
theorem wW{x:Str}{v:V}{u:Value}{pos:Pos}(a:Gl X x)(b:X.mg x=some u)(r:RelV v u)(c:(x==("__debug__":Str))=false:=by decide):PE X (.Name x pos) (tC v):=
 λ_ _ _ H _ I h=>iv I a b ⟨v,H,I,r,h⟩ c
theorem wX{x:Str}{v:V}{u:Value}{pos:Pos}(a:Gl X x)(b:X.mg x=none)(c:bootBuiltins x=some u)(r:RelV v u)(d:x≠"__name__":=by decide)(e:(x==("__debug__":Str))=false:=by decide):PE X (.Name x pos) (tC v):=
 λ_ _ _ H _ I h=>ft I a b c ⟨v,H,I,r,h⟩ d e
variable{a b:Expr}{ta tb:TE}{pos:Pos}
variable{tA FY:TT}{rest:List Expr}
noncomputable def Hz(t u:TT):TT:=λa H Q=>t a H λc b=>if c=true then u a b Q else Q false b
noncomputable def Md(t u:TT):TT:=λa H Q=>t a H λc b=>if c=true then Q true b else u a b Q
noncomputable def HD(t:TT):TT:=λa H Q=>t a H λc b=>Q (!c) b
theorem pw_and1(b:PT X a tA):PW X (.BoolOp .And [a] pos) tA:=by
 intro f pins s d H Q I h;refine isTrue_and (cf (b pins s d H Q I h) λc g e=>?_)
 cases c with
 |true=>exact isTrue_and_nil e
 |false=>exact e
theorem pw_or1(b:PT X a tA):PW X (.BoolOp .Or [a] pos) tA:=by
 intro f pins s d H Q I h;refine isTrue_or (cf (b pins s d H Q I h) λc g e=>?_)
 cases c with
 |false=>exact isTrue_or_nil e
 |true=>exact e
theorem pw_and(f:PT X a tA)(g:PW X (.BoolOp .And (b::rest) pos) FY):PW X (.BoolOp .And (a::b::rest) pos) (Hz tA FY):=by
 intro i pins s d H Q I h;refine isTrue_and (cf (f pins s d H _ I h) λc j ⟨e,I1,q1⟩=>?_)
 cases c with
 |true=>exact g i pins j d e Q I1 q1
 |false=>exact⟨e,I1,q1⟩
theorem pw_or(f:PT X a tA)(g:PW X (.BoolOp .Or (b::rest) pos) FY):PW X (.BoolOp .Or (a::b::rest) pos) (Md tA FY):=by
 intro i pins s d H Q I h;refine isTrue_or (cf (f pins s d H _ I h) λc j ⟨e,I1,q1⟩=>?_)
 cases c with
 |true=>exact⟨e,I1,q1⟩
 |false=>exact g i pins j d e Q I1 q1
theorem Az(b:PT X a tA):PT X (.UnaryOp .Not a pos) (HD tA):=by
 intro pins s d H Q I h;exact isTrue_not (b pins s d H (λc e=>Q (!c) e) I h)
theorem AA{op}{t:TE}(h:PE X a t):PE X (.BoolOp op [a] pos) t:=λpins s b H Q I c=>BoolOp_one (h pins s b H Q I c)
noncomputable def AB(t:TT)(d tb:TE):TE:=λa H Q=>t a H λc b=>if c=true then d a b Q else tb a b Q
theorem tM{c:Expr}(i:PT X c tA)(j:PE X a ta)(k:PE X b tb):PE X (.IfExp c a b pos) (AB tA ta tb):=by
 intro pins s e H Q I h;refine wpAny_IfExp (cf (i pins s e H _ I h) λd f ⟨g,I1,q1⟩=>?_)
 cases d with
 |true=>exact j pins f e g Q I1 q1
 |false=>exact k pins f e g Q I1 q1
end
def kj(K:PySem.W.Frag)(H:Hp)(a:Addr)(xs:List V):Prop:=
 Rd H a (.lst xs) \/
  ∃(o:Obj) (b:Array Value) (n:Nat),K.lookup a=some o/\o.cls=.type "list"/\o.dict=none/\o.data=.seq b n/\b.size<=sizeLine/\Vals xs b.toList
def ig(K:PySem.W.Frag)(H:Hp)(a:Addr)(xs:List V):Prop:=
 Rd H a (.tup xs) \/
  ∃(o:Obj) (b:Array Value) (n:Nat),K.lookup a=some o/\o.cls=.type "tuple"/\o.data=.seq b n/\b.size<=sizeLine/\Vals xs b.toList
noncomputable def HE:Value->Option V
 |.none=>some .non
 |.bool b=>some (.bl b)
 |.int i _=>some (.int i)
 |.str x _=>some (.str x)
 |.bytes b _=>some (.CQ b)
 |.float b _=>some (.flt b)
 |.ref a=>some (.ref a)
 |.type n=>some (.ty n)
 |_=>none
theorem RelV.abs{x:V}{u:Value}(r:RelV x u):HE u=some x:=by
 cases x with
 |non=>cases r;rfl
 |bl _=>cases r;rfl
 |int _=>obtain⟨t,rfl⟩:=r;rfl
 |str _=>obtain⟨t,rfl⟩:=r;rfl
 |CQ _=>obtain⟨t,rfl⟩:=r;rfl
 |flt _=>obtain⟨t,rfl⟩:=r;rfl
 |ref _=>cases r;rfl
 |ty _=>cases r;rfl
theorem RelV.inj{x y:V}{u:Value}(r:RelV x u)(q:RelV y u):x=y:=Option.some.inj (r.abs.symm.trans q.abs)
theorem Vals.inj:∀{xs a:List V}{us:List Value},Vals xs us->Vals a us->xs=a
 |_,_,_,.nil,.nil=>rfl
 |_,_,_,.cons r t,.cons b c=>by rw[r.inj b,Vals.inj t c]
section
variable{X:Cx}{pins:List (Addr×Obj)}{σ:St}{H:Hp}{s:Shared}{a:Addr}{xs ys:List V}
theorem ig.of{K:PySem.W.Frag}(h:H a=some (.tup xs)):ig K H a xs:=.inl (.inl h)
theorem Inv.list(I:Inv X pins σ H s)(h:kj X.K H a xs):∃b:List Value,Vals xs b/\PlainL s.heap a b.toArray/\xs.length<=sizeLine:=by
 rcases h with h|⟨o,b,n,c,d,f,g,i,r⟩
 .obtain⟨z,b,n,r,e⟩:=h.ok I.hok
  exact⟨b,r,⟨_,n,e,rfl,rfl,rfl⟩,z⟩
 .refine⟨b.toList,r,⟨o,n,I.kh a o c,d,f,by simpa using g⟩,?_⟩
  have e:=r.length;simp only[Array.length_toList]at e;omega
theorem Inv.tuple(I:Inv X pins σ H s)(h:ig X.K H a xs):∃b:List Value,Vals xs b/\IsTup s.heap a b.toArray/\xs.length<=sizeLine:=by
 rcases h with h|⟨o,b,n,c,d,f,g,r⟩
 .obtain⟨z,b,r,p⟩:=h.ok I.hok
  exact⟨b,r,p,z⟩
 .refine⟨b.toList,r,⟨o,I.kh a o c,d,n,by simpa using f⟩,?_⟩
  have e:=r.length;simp only[Array.length_toList]at e;omega
theorem Inv.tN(I:Inv X pins σ H s)(h:kj X.K H a xs)(h':kj X.K H a ys):xs=ys:=by
 obtain⟨c,r,⟨o,n,e,_,_,d⟩,_⟩:=I.list h;obtain⟨b,i,⟨j,k,f,_,_,g⟩,_⟩:=I.list h';rw[e]at f;cases f
 rw[d]at g;injection g with d1 _;have:c=b:=by simpa using congrArg Array.toList d1
 subst this;exact r.inj i
theorem Inv.rM(I:Inv X pins σ H s)(h:ig X.K H a xs)(h':ig X.K H a ys):xs=ys:=by
 obtain⟨c,r,⟨o,e,_,n,d⟩,_⟩:=I.tuple h;obtain⟨b,i,⟨j,f,_,k,g⟩,_⟩:=I.tuple h';rw[e]at f;cases f
 rw[d]at g;injection g with d1 _;have:c=b:=by simpa using congrArg Array.toList d1
 subst this;exact r.inj i
end
abbrev Cx.wish(X:Cx)(E:Value->Shared->Prop):Cx:={X with xe:=E}
abbrev Cx.wY(X:Cx):Cx:=X.wish λ_ _=>False
theorem Cx.Ok.wish{X:Cx}(ok:X.Ok)(E:Value->Shared->Prop):(X.wish E).Ok:=
 ⟨ok.mod,ok.kind,ok.glob,ok.blt,ok.above,ok.inj,ok.has,ok.cab,ok.hd,ok.frames,ok.FW,ok.FX,ok.bs,ok.Aw,ok.tK,ok.tL,ok.iO,ok.CF⟩
theorem Cx.Ok.fu{X:Cx}{E:Value->Shared->Prop}(ok:(X.wish E).Ok):X.Ok:=
 ⟨ok.mod,ok.kind,ok.glob,ok.blt,ok.above,ok.inj,ok.has,ok.cab,ok.hd,ok.frames,ok.FW,ok.FX,ok.bs,ok.Aw,ok.tK,ok.tL,ok.iO,ok.CF⟩
section
variable{X:Cx}{pins:List (Addr×Obj)}{σ:St}{H:Hp}{s:Shared}{E:Value->Shared->Prop}
theorem Inv.wish(I:Inv X pins σ H s)(E:Value->Shared->Prop):Inv (X.wish E) pins σ H s:=⟨I.ok.wish E,I.os,I.bare,I.base,I.loc,I.cell,I.free,I.fq,I.pin,I.hok,I.len⟩
theorem Inv.fu(I:Inv (X.wish E) pins σ H s):Inv X pins σ H s:=⟨I.ok.fu,I.os,I.bare,I.base,I.loc,I.cell,I.free,I.fq,I.pin,I.hok,I.len⟩
theorem SP.fu{D:Ends}{f:Flow}{c:Shared}(h:SP (X.wish E) pins D f c):SP X pins D f c:=by
 cases f with
 |next=>obtain⟨a,b,I,q⟩:=h;exact⟨a,b,I.fu,q⟩
 |brk=>obtain⟨a,b,I,q⟩:=h;exact⟨a,b,I.fu,q⟩
 |cont=>obtain⟨a,b,I,q⟩:=h;exact⟨a,b,I.fu,q⟩
 |ret u=>obtain⟨v,a,b,I,r,q⟩:=h;exact⟨v,a,b,I.fu,r,q⟩
theorem gS.wY{st:List Stmt}{t:TS}(h:gS X.wY st t):gS X st t:=λpins s a H D I b=>
 wpAny_mono (h pins s a H D (I.wish _) b) (λ_ _ q=>q.fu) λ_ _ z=>False.elim z
end
section
variable{X:Cx}{st:Stmt}{rest:List Stmt}{t u:TS}{e:Expr}{te:TE}{pos:Pos}
noncomputable def CV:TS:=λD a H=>D.nx a H
noncomputable def AD(t u:TS):TS:=λD a H=>t {D with nx:=u D} a H
theorem wZ:gS X [] CV:=λ_ _ a H _ I h=>wpAny_execs_nil ⟨a,H,I,h⟩
theorem tP(b:PS X st t)(c:gS X rest u):gS X (st::rest) (AD t u):=by
 intro pins s d H D I h;refine wpAny_execs_cons (cf (b pins s d H {D with nx:=u D} I h) λf e q=>?_)
 cases f with
 |next=>
  obtain⟨a,g,i,q⟩:=q;exact c pins e a g D i q
 |ret v=>exact q
 |brk=>exact q
 |cont=>exact q
theorem Inv.quiet{pins:List (Addr×Obj)}{a:St}{H:Hp}{s:Shared}(I:Inv X pins a H s):interactive X.env=false:=by simp[interactive,I.ok.kind]
noncomputable def CW(b:TE):TS:=λD a H=>b a H λ_ c=>D.nx a c
theorem w9(b:PE X e te)(c:swapsWith e none pos.line X.env=pure false:=by rfl):PS X (.Expr e pos) (CW te):=by
 intro pins s a H D I h;exact wpAny_Expr_any (cf (b pins s a H _ I h) λv d ⟨x,H1,I1,r1,q1⟩=>⟨a,H1,I1,q1⟩) I.quiet c
noncomputable def HF(a:TE):TS:=λD b H=>a b H D.rt
theorem AE(b:PE X e te):PS X (.Return (some e) pos) (HF te):=by
 intro pins s a H D I h;exact wpAny_Return_some (cf (b pins s a H _ I h) λv c ⟨x,H1,I1,r1,q1⟩=>⟨x,a,H1,I1,r1,q1⟩)
noncomputable def HG(c:TT)(t u:TS):TS:=λD a H=>c a H λb d=>if b=true then t D a d else u D a d
theorem CY{c:Expr}{a b:List Stmt}{f:TT}(j:PT X c f)(k:gS X a t)(l:gS X b u):PS X (.If c a b pos) (HG f t u):=by
 intro pins s e H D I h;refine wpAny_If (cf (j pins s e H _ I h) λd g ⟨i,I1,q1⟩=>?_)
 cases d with
 |true=>exact k pins g e i D I1 q1
 |false=>exact l pins g e i D I1 q1
end
abbrev TG:=V->St->Hp->(St->Hp->Prop)->Prop
abbrev zM:=List V->St->Hp->(St->Hp->Prop)->Prop
def PG(X:Cx)(a:Expr)(t:TG):Prop:=
 ∀(pins:List (Addr×Obj)) (s:Shared) (c:St) (H:Hp) (v:V) (u:Value) (Q:St->Hp->Prop),Inv X pins c H s->RelV v u->t v c H Q ->
  wpAny (model X.prog X.w) X.A (assign a X.env u) (λ_ e=>∃b d,Inv X pins b d e/\Q b d) X.xe s
def FZ(X:Cx)(f:List Expr)(t:zM):Prop:=
 ∀(pins:List (Addr×Obj)) (s:Shared) (b:St) (H:Hp) (c:List V) (d:List Value) (Q:St->Hp->Prop),Inv X pins b H s->Vals c d->t c b H Q ->
  wpAny (model X.prog X.w) X.A (assignInOrder ((assignEach f X.env).map (·.2)) d) (λ_ g=>∃a e,Inv X pins a e g/\Q a e) X.xe s
abbrev HH:=V->V->V->Hp->(Hp->Prop)->Prop
def HI(X:Cx)(t:HH):Prop:=
 ∀(pins:List (Addr×Obj)) (s:Shared) (a:St) (H:Hp) (o i v:V) (b c u:Value) (Q:Hp->Prop),Inv X pins a H s->RelV o b->RelV i c->RelV v u->t o i v H Q ->
  wpAny (model X.prog X.w) X.A (setItem b c u) (λ_ e=>∃d,Inv X pins a d e/\Q d) X.xe s
section
variable{X:Cx}{pos:Pos}
noncomputable def fv(i:Nat):TG:=λv a H Q=>Q (a.set i (some v)) H
theorem iw{i:Nat}{x:Str}(a:X.N.Nodup)(b:X.N[i]?=some x)(c:Loc X.env.scope x)(d:X.fn x=true\/X.env.scope.names.lookup x=some .local:=by first|exact .inl rfl|exact .inr rfl|assumption):PG X (.Name x pos) (fv i):=by
 intro pins s f H v u Q I r h;exact wpAny_assign_Name (iP I a b c r (λg e=>⟨_,H,e,h⟩) d)
noncomputable def CZ:zM:=λa b H Q=>a=[]/\Q b H
noncomputable def zN(t:TG)(u:zM):zM:=λb c H Q=>∃v r,b=v::r/\t v c H λa d=>u r a d Q
theorem w_:FZ X [] CZ:=by
 intro pins s a H b c Q I r h;obtain⟨e,h⟩:=h;subst e;cases r;exact assignInOrder_nil ⟨a,H,I,h⟩
theorem mH{e:Expr}{es:List Expr}{t:TG}{u:zM}(b:PG X e t)(c:FZ X es u)
  (d:(assignEach (e::es) X.env).map (·.2)=assign e X.env::(assignEach es X.env).map (·.2):=by rfl):FZ X (e::es) (zN t u):=by
 intro pins s f H k l Q I r h;obtain⟨v,vr,g,h⟩:=h;subst g;cases r with
 |cons r i=>
  rw[d];refine assignInOrder_cons (cf (b pins s f H _ _ _ I r h) λ_ j ⟨a,H1,I1,q1⟩=>?_)
  exact c pins j a H1 _ _ Q I1 i q1
noncomputable def xa(K:PySem.W.Frag)(n:Nat)(t:zM):TG:=λv c H Q=>∃a b,v=.ref a/\ig K H a b/\b.length=n/\t b c H Q
theorem AF{es:List Expr}{k:Nat}{t:zM}{n:Nat}(i:X.calm=true)(h:FZ X es t)
  (j:(assignEach es X.env).length=n:=by rfl) (c:(assignEach es X.env).findIdx? (·.1)=none:=by rfl):PG X (.Tuple es k pos) (xa X.K n t):=by
 intro pins s f H v u Q I r d;obtain⟨a,l,m,p,q,d⟩:=d;subst m;cases r;obtain⟨w,g,x,B⟩:=I.tuple p;refine assign_Tuple_tuple (I.ok.hd i) x (by simp[j,←q,g.length]) c λy z=>?_
 have A:Inv X pins f H {s with heap:=y}:=I.kept (t':=s.toks) λb o e=>z b o (Nat.ne_of_lt (Heap.lt_size e)) e
 exact h pins _ f H l _ Q A (by simpa using g) d
noncomputable def AG(b:TE)(g:TG):TS:=λD a H=>b a H λx c=>g x a c D.nx
theorem AH{i:Nat}{x:Str}{e:Expr}{b:TE}{a:Pos}(c:X.N.Nodup)(d:X.N[i]?=some x)(f:Loc X.env.scope x)(g:PE X e b)(j:swapsWith e (some (.Name x a)) pos.line X.env=pure false:=by rfl)(k:X.fn x=true\/X.env.scope.names.lookup x=some .local:=by first|exact .inl rfl|exact .inr rfl|assumption) :
  PS X (.Assign [.Name x a] e pos) (AG b (fv i)):=by
 intro pins s l H D I h;refine wpAny_Assign_Name (cf (g pins s l H _ I h) λv r ⟨y,m,n,o,p⟩=>?_) j
 exact iP n c d f o (λt q=>⟨_,m,q,p⟩) k
end
structure It where
 go:Nat->Hp->Prop
 F8:Nat->Hp->V->Hp->Prop
 stop:Nat->Hp->Prop
def iQ(X:Cx)(pins:List (Addr×Obj))(H:Hp)(b:Addr):Prop:=
 H b=none/\b≠X.env.locals/\b∉X.fs/\(b∈X.ex\/X.s₀.heap.objs.size<=b)/\(∀x c,X.env.cells.lookup x=some c->c≠b)/\∀p∈X.pn++pins,p.1≠b
theorem Inv.xb{X:Cx}{pins:List (Addr×Obj)}{f:St}{H d:Hp}{s:Shared}{b:Addr}(I:Inv X pins f H s)(a:s.heap.objs.size<=b)(g:d b=none):iQ X pins d b:=by
 refine⟨g,Nat.ne_of_gt (Nat.lt_of_lt_of_le I.lt a),I.Hw a,.inr (Nat.le_trans I.sz a),λx c e z=>?_,λp h z=>?_⟩
 .obtain⟨v,q⟩:=I.cell x c e
  exact absurd (Nat.lt_of_lt_of_le q.lt (by rw[z];exact a)) (Nat.lt_irrefl _)
 .exact absurd (Nat.lt_of_lt_of_le (Heap.lt_size (I.pin p h).1) (by rw[z];exact a)) (Nat.lt_irrefl _)
structure Turn(P:Program)(w:World)(K:PySem.W.Frag)(tg:Expr)(J:It)(fp:List Addr)(it:Addr)(tn:Nat->Heap->Prop):Prop where
 mem:it∈fp
 obj:∀i h,tn i h->∀b∈fp,∃o,h.get? b=some o/\∀v,o.data≠.cell v
 keep:∀i h h',tn i h->(∀b∈fp,∀o,h.get? b=some o->h'.get? b=some o)->tn i h'
 item:∀(X:Cx),X.prog=P->X.w=w->X.K=K->X.calm=true->∀(i:Nat) (pins:List (Addr×Obj)) (s:Shared) (σ:St) (H:Hp) (E:Value->Shared->Prop),Inv X pins σ H s->(∀b∈fp,iQ X pins H b)->tn i s.heap->J.go i H ->
  wpAny (model P w) X.A (pyNext (.ref it)) (λr s1=>∃u,r=some u /\
   wpAny (model P w) X.A (letOwnedTupleGo tg (.ref it) u) (λ_ s2=>∃x H',Inv X pins σ H' s2/\RelV x u/\J.F8 i H x H'/\tn (i+1) s2.heap/\∀b∈fp,H' b=none) E s1) E s
 done:∀(X:Cx),X.prog=P->X.w=w->X.K=K->X.calm=true->∀(i:Nat) (pins:List (Addr×Obj)) (s:Shared) (σ:St) (H:Hp) (E:Value->Shared->Prop),Inv X pins σ H s->(∀b∈fp,iQ X pins H b)->tn i s.heap->J.stop i H ->
  wpAny (model P w) X.A (pyNext (.ref it)) (λr s1=>r=none/\Inv X pins σ H s1) E s
 self:∀(A:Around) (i:Nat) (s:Shared) (Q:Value->Shared->Prop) (E:Value->Shared->Prop),tn i s.heap->Q (.ref it) s->wpAny (model P w) A (pyIter (.ref it)) Q E s
abbrev TI:=St->Hp->(It->Hp->Prop)->Prop
def PIE(X:Cx)(pins:List (Addr×Obj))(h:St)(i:Expr)(R:It->Hp->Prop)(a:Value)(d:Shared):Prop:=
 ∃(e:Addr) (f:List Addr) (g:Nat->Heap->Prop) (J:It) (c:Hp),a=.ref e/\Inv X pins h c d/\Turn X.prog X.w X.K i J f e g/\g 0 d.heap/\(∀b∈f,iQ X pins c b)/\R J c
def PI(X:Cx)(b iter:Expr)(c:TI):Prop:=
 ∀(pins:List (Addr×Obj)) (s:Shared) (a:St) (H:Hp) (R:It->Hp->Prop),Inv X pins a H s->c a H R ->
  wpAny (model X.prog X.w) X.A (eval iter X.env) (λv d=>wpAny (model X.prog X.w) X.A (pyIter v) (PIE X pins a b R) X.xe d) X.xe s
theorem mI{M:Model}{A:Around}{E:Value->Shared->Prop}{s:Shared}{b:Expr}{it:Addr}{u:Value}{o:Obj}{n:String}{c:Array Value}{Q:Unit->Shared->Prop}(d:s.heap.get? it=some o)(e:o.cls=.type n)(f:o.data=.fields c)
    (g:["enumerate","zip","dict_itemiterator","dict_reverseitemiterator","odict_iterator","itertools.zip_longest","itertools.pairwise"].contains n=false) (a:Q () s):wpAny M A (letOwnedTupleGo b (.ref it) u) Q E s:=by
  unfold letOwnedTupleGo
  cases b<;>first
    |exact wpAny_pure a
    | (cases u<;>first
        |exact wpAny_pure a
        | (refine wpAny_bind (wpAny_load d ?_)
           rw[e,f]
           show wpAny M A (if (["enumerate","zip","dict_itemiterator","dict_reverseitemiterator","odict_iterator","itertools.zip_longest","itertools.pairwise"].contains n&&c[0]?==some (rawInt _))=true then _ else _) Q E s
           rw[if_neg (by intro h;rw[g,Bool.false_and]at h;cases h)]
           exact wpAny_pure a))
noncomputable def HJ(K:PySem.W.Frag)(a:Addr):It:=
 ⟨λi H=>∃b x,kj K H a b/\b[i]?=some x,λi H x c=>c=H/\∀b,kj K H a b->b[i]?=some x,λi H=>∃b,kj K H a b/\b.length<=i⟩
noncomputable def HK(K:PySem.W.Frag)(a:Addr):It:=
 ⟨λi H=>∃b x,ig K H a b/\b[i]?=some x,λi H x c=>c=H/\∀b,ig K H a b->b[i]?=some x,λi H=>∃b,ig K H a b/\b.length<=i⟩
noncomputable def C8(a:Int)(n:Nat):It:=⟨λi _=>i<n,λi H x b=>b=H/\x=.int (a+i),λi _=>n<=i⟩
theorem rN{P:Program}{w:World}{K:PySem.W.Frag}{O:Expr}(a it:Addr):Turn P w K O (HJ K a) [it] it (λi h=>h.IsListIter it a i) where
 mem:=by simp
 obj:=λi h f b g=>by
  have e:b=it:=by simpa using g
  subst e;obtain⟨o,e,c,d⟩:=f;exact⟨o,e,λv z=>by rw[d]at z;cases z⟩
 keep:=λi h l f k=>f.at λo e=>k it (by simp) o e
 item:=by
  intro X q r t M i pins s N H E I m f y;subst q r t;obtain⟨Q,x,n,A⟩:=y;obtain⟨B,C,p,R⟩:=I.list n;obtain⟨u,S,T⟩:=C.get A;obtain⟨D,F,U,G,J,L⟩:=m it (by simp)
  refine wpAny_pyNext_list_item f p.isList (x:=u) (by simpa using S) λl j V=>?_
  have Y:Inv X pins N H {s with heap:=l}:=I.turned (t':=s.toks) (λb o g e=>(V.2 b g).trans e) D F G J L
  obtain⟨o,e,c,d⟩:=id j;exact⟨u,rfl,mI (s:={s with heap:=l}) e c d (by decide) ⟨x,H,Y,T,⟨rfl,λys Z=>by rw[I.tN Z n];exact A⟩,j,λb g=>(m b g).1⟩⟩
 done:=by
  intro X q r t M i pins s N H E I m f y;subst q r t;obtain⟨Q,n,A⟩:=y;obtain⟨B,C,p,R⟩:=I.list n;obtain⟨D,F,U,G,J,L⟩:=m it (by simp)
  have hl:=C.length;exact wpAny_pyNext_list_end (I.ok.hd M) f p.isList (by simp;omega) λl eb=>⟨rfl,I.turned (t':=s.toks) (λb o g e=>eb b o g e) D F G J L⟩
 self:=λ_ _ _ _ _ f h=>wpAny_pyIter_listiter f h
theorem oy{P:Program}{w:World}{K:PySem.W.Frag}{O:Expr}(a it:Addr):Turn P w K O (HK K a) [it] it (λi h=>h.IsTupleIter it a i) where
 mem:=by simp
 obj:=λi h f b g=>by
  have e:b=it:=by simpa using g
  subst e;obtain⟨o,e,c,d⟩:=f;exact⟨o,e,λv z=>by rw[d]at z;cases z⟩
 keep:=λi h m f k=>f.at λo e=>k it (by simp) o e
 item:=by
  intro X r t y M i pins s N H E I n f A;subst r t y;obtain⟨Q,x,q,B⟩:=A;obtain⟨j,C,p,R⟩:=I.tuple q;obtain⟨u,S,T⟩:=C.get B;obtain⟨D,F,U,G,J,L⟩:=n it (by simp)
  refine wpAny_pyNext_tuple_item f (show s.heap.IsTuple a j.toArray from p) (x:=u) (by simpa using S) λm l V=>?_
  have Y:Inv X pins N H {s with heap:=m}:=I.turned (t':=s.toks) (λb o g e=>(V.2 b g).trans e) D F G J L
  obtain⟨o,e,c,d⟩:=id l;exact⟨u,rfl,mI (s:={s with heap:=m}) e c d (by decide) ⟨x,H,Y,T,⟨rfl,λys Z=>by rw[I.rM Z q];exact B⟩,l,λb g=>(n b g).1⟩⟩
 done:=by
  intro X r t y M i pins s N H E I n f A;subst r t y;obtain⟨Q,q,B⟩:=A;obtain⟨j,C,p,R⟩:=I.tuple q;obtain⟨D,F,U,G,J,L⟩:=n it (by simp)
  have hl:=C.length;exact wpAny_pyNext_tuple_end (I.ok.hd M) f (show s.heap.IsTuple a j.toArray from p) (by simp;omega) λm eb=>⟨rfl,I.turned (t':=s.toks) (λb o g e=>eb b o g e) D F G J L⟩
 self:=λ_ _ _ _ _ f h=>wpAny_pyIter_tupleiter f h
theorem oz{P:Program}{w:World}{K:PySem.W.Frag}{F:Expr}(it:Addr)(f:Int)(n:Nat):Turn P w K F (C8 f n) [it] it (λi h=>IsRangeIter h it (f+(i:Nat)*1) ((n:Int) - (i:Nat)) 1) where
 mem:=by simp
 obj:=λi h a b c=>by
  have e:b=it:=by simpa using c
  subst e
  exact⟨_,a,λv z=>by
   have G:Data.fields _=Data.cell v:=z;cases G⟩
 keep:=λi h g a k=>k it (by simp) _ a
 item:=by
  intro X l m p q i pins s C H E I j a r;subst l m p;obtain⟨u,x,J,y,A,B⟩:=j it (by simp)
  have W:=Walks.range (prog:=X.prog) (w:=X.w) (I.ok.hd q) it f 1 n;refine W.item i s _ _ r a λv g D L d M=>?_
  obtain⟨t,rfl⟩:=L;have N:Inv X pins C H {s with heap:=g,toks:=D}:=I.turned (λb o c e=>M b o (by simpa using c) e) u x y A B
  refine⟨_,rfl,mI (s:={s with heap:=g,toks:=D}) (n:="range_iterator") d rfl rfl (by decide) ⟨.int (f+i),H,N,⟨t,?_⟩,⟨rfl,rfl⟩,d,λb c=>(j b c).1⟩⟩
  rw[Int.mul_one]
 done:=by
  intro X l m p q i pins s C H E I j a r;subst l m p;obtain⟨u,x,J,y,A,B⟩:=j it (by simp)
  exact wpAny_pyNext_range_end (I.ok.hd q) a (by have:n<=i:=r;omega) λg O=>⟨rfl,I.turned (t':=s.toks) (λb o c e=>O b o c e) u x y A B⟩
 self:=λ_ _ _ _ _ a h=>wpAny_pyIter_rangeiter a h
section
variable{X:Cx}{tg:Expr}
theorem tQ{pins:List (Addr×Obj)}{d:St}{H:Hp}{s:Shared}{R:It->Hp->Prop}{E:Value->Shared->Prop}{a c:Int}{t u v:Tok}{f:Nat}(I:Inv X pins d H s)(h : -(2 ^ 62)<=a)(i:a<2 ^ 62)(j : -(2 ^ 62)<=c)(k:c<2 ^ 62)
  (q:R (C8 a (c - a).toNat) H):wpAny (model X.prog X.w) X.A (pyIter (.ref s.heap.objs.size)) (PIE X pins d tg R) E {s with heap:=s.heap.push {cls:=.type "range",data:=.fields #[.int a t,.int c u,.int 1 v]},toks:=f}:=by
 refine wpAny_pyIter_range (IsRange.new ..) (small_one h i j k) ?_;have g:Inv X pins d H {s with heap:=s.heap.push {cls:=.type "range",data:=.fields #[.int a t,.int c u,.int 1 v]},toks:=f}:=I.kept λb o e=>Heap.get?_push_of_some _ e
 refine⟨(s.heap.push {cls:=.type "range",data:=.fields #[.int a t,.int c u,.int 1 v]}).objs.size,[(s.heap.push {cls:=.type "range",data:=.fields #[.int a t,.int c u,.int 1 v]}).objs.size],_,_,H,rfl,
  g.kept (t':=f) λb o e=>Heap.get?_push_of_some _ e,oz _ a (c - a).toNat,?_,λb l=>?_,q⟩
 .have m:a+((0:Nat):Int)*1=a:=by simp
  have n:(((c - a).toNat:Nat):Int) - ((0:Nat):Int)=Builtin.Range.rangeSize a c 1:=by rw[rangeSize_one];split<;>omega
  show IsRangeIter _ _ (a+((0:Nat):Int)*1) ((((c - a).toNat:Nat):Int) - ((0:Nat):Int)) 1
  rw[m,n];exact Heap.get?_push_size _ rfl
 .have e:b=(s.heap.push {cls:=.type "range",data:=.fields #[.int a t,.int c u,.int 1 v]}).objs.size:=by simpa using l
  subst e;exact g.xb (Nat.le_refl _) (g.hok.fresh (Nat.le_refl _))
def C9(a:TA):TI:=λb H R=>a b H λc d=>∃j:Int,c=[.int j] /\ -(2 ^ 62)<=j/\j<2 ^ 62/\R (C8 0 j.toNat) d
theorem rO{a:Expr}{c:TA}{p pos:Pos}(d:Gl X "range")(f:X.mg "range"=none)(g:PA X [a] c)(i:starEach [a] X.env=[(false,eval a X.env)]:=by rfl):PI X tg (.Call (.Name "range" p) [a] [] pos) (C9 c):=by
 intro pins s k H R I h;refine Call_ (ft I d f boot_range (PyProof.Rows.callWith_type1 (cf (g pos pins s k H _ I h) λo u ⟨w,H1,I1,l,b⟩=>?_) i rfl))
 obtain⟨j,e,b,m,q⟩:=b;subst e;cases l with
 |cons r n=>
  cases n;obtain⟨t,rfl⟩:=r;exact call_range_1 (tQ I1 (by omega) (by omega) b m (by simpa using q))
noncomputable def HL(f:TI)(g:TG)(tb:TS):TS:=λD a H=>f a H λJ h=>∃W:Nat->Nat->St->Hp->Prop,(∃m,W 0 m a h)/\∀i m a H,W i m a H ->
 (J.stop i H/\D.nx a H)\/(J.go i H/\∃N:St->Hp->Prop,(∀b c,N b c->∃e,e<m/\W (i+1) e b c)/\∀x c,J.F8 i H x c->g x a c λd j=>tb {D with nx:=N,ct:=N,bk:=D.nx} d j)
noncomputable def iR(a:List Addr)(h:Heap):List (Addr×Obj):=a.filterMap λb=>(h.get? b).map λo=>(b,o)
theorem eV{a:List Addr}{h:Heap}{b:Addr}{o:Obj}(c:b∈a)(e:h.get? b=some o):(b,o)∈iR a h:=List.mem_filterMap.mpr ⟨b,c,by rw[e];rfl⟩
theorem rQ{a:List Addr}{h:Heap}{p:Addr×Obj}(c:p∈iR a h):p.1∈a/\h.get? p.1=some p.2:=by
 obtain⟨b,d,e⟩:=List.mem_filterMap.mp c;cases q:h.get? b with
 |none=>rw[q]at e;cases e
 |some o=>
  rw[q]at e;have f:(b,o)=p:=Option.some.inj e;subst f;exact⟨d,q⟩
theorem Inv.pinned{pins:List (Addr×Obj)}{c:St}{H:Hp}{s:Shared}{a:List Addr}(I:Inv X pins c H s)(h:∀b∈a,iQ X pins H b)(i:∀b∈a,∃o,s.heap.get? b=some o/\∀v,o.data≠.cell v):Inv X (pins++iR a s.heap) c H s:=
 I.pZ λp j=>(List.mem_append.mp j).elim (λz=>I.pin p (List.mem_append_right _ z)) λz=>by
  obtain⟨f,e⟩:=rQ z;obtain⟨k,l,m,_⟩:=h p.1 f;obtain⟨o,g,d⟩:=i p.1 f;rw[e]at g;cases g
  exact⟨e,k,l,m,d⟩
theorem Inv.gf{pins pl:List (Addr×Obj)}{a:St}{H:Hp}{s:Shared}(I:Inv X (pins++pl) a H s):Inv X pins a H s:=I.pZ λp b=>I.pin p (List.mem_append_right _ (List.mem_append_left _ b))
theorem AI{iter:Expr}{body:List Stmt}{R:TI}{g:TG}{tb:TS}{pos:Pos}(z:PassesOwn (model X.prog X.w) X.A X.env X.xe)(S:X.calm=true)(hi:PI X tg iter R)(hg:PG X tg g)(c:gS X body tb)
  (hs:∀x,foldedSetIterable iter X.env x=pure x:=by intro _;rfl):PS X (.For tg iter body [] pos) (HL R g tb):=by
 intro pins s U H D I h;refine wpAny_For (cf (hi pins s U H _ I h) λv s1 h1=>cf h1 λa0 s2 h2=>?_) hs
 obtain⟨it,B,V,J,H2,e,I2,T,L,Y,W,⟨m0,w0⟩,C⟩:=h2;subst e;have j:∀{t:Hp},(∀b∈B,t b=none)->∀b∈B,iQ X pins t b:=λhn b c=>⟨hn b c,(Y b c).2⟩
 refine codeAny_forLoop_any (λn Z=>∃i k t,Inv X pins k t Z/\V i Z.heap/\(∀b∈B,t b=none)/\W i n k t) ?_ m0 ⟨0,U,H2,I2,L,λb c=>(Y b c).1,w0⟩
 rintro n s3 ⟨i,l,K,I3,E,F,w3⟩;rcases C i n l K w3 with ⟨stop,qn⟩|⟨go,N,hN,step⟩
 .refine wpAny_passesOwn z (cf (T.done X rfl rfl rfl S i pins s3 l K X.xe I3 (j F) E stop) λr s4 ⟨M,I4⟩=>?_)
  subst M;exact wpAny_execs_nil ⟨l,K,I4,qn⟩
 .refine wpAny_passesOwn z (cf (T.item X rfl rfl rfl S i pins s3 l K X.xe I3 (j F) E go) λr s4 ⟨u,M,h4⟩=>?_)
  subst M;refine wpAny_passesOwn z (cf h4 λ_ s5 ⟨x,H5,I5,r5,y5,HM,Me⟩=>?_)
  have O:=I5.pinned (j Me) (T.obj _ _ HM);refine wpAny_passesOwn z (cf (hg _ s5 l H5 x u _ O r5 (step x H5 y5)) λ_ s6 ⟨P,H6,I6,q6⟩=>?_)
  refine wpAny_passesOwn z (cf (c _ s6 P H6 _ I6 q6) λf Q y=>?_)
  have again:∀{a:St}{p:Hp},Inv X (pins++iR B s5.heap) a p Q->N a p->∃m,m<n/\∃i k t,Inv X pins k t Q/\V i Q.heap/\(∀b∈B,t b=none)/\W i m k t:=λ{a p} q G=>by
   obtain⟨m',hm,w7⟩:=hN a p G;refine⟨m',hm,i+1,a,p,q.gf,T.keep _ _ _ HM λb c o e=>(q.pin (b,o) (List.mem_append_right _ (List.mem_append_right _ (eV c e)))).1,λb c=>?_,w7⟩
   obtain⟨o,e,d⟩:=T.obj _ _ HM b c;exact(q.pin (b,o) (List.mem_append_right _ (List.mem_append_right _ (eV c e)))).2.1
  cases f with
  |next=>obtain⟨a,p,q,G⟩:=y;exact again q G
  |cont=>obtain⟨a,p,q,G⟩:=y;exact again q G
  |brk=>obtain⟨a,p,q,y⟩:=y;exact⟨a,p,q.gf,y⟩
  |ret v=>obtain⟨x7,a,p,q,r7,y⟩:=y;exact⟨x7,a,p,q.gf,r7,y⟩
end
abbrev R2:=V->V->Hp->VK->Prop
def eW(X:Cx)(f:Value->Value->Sem Value)(r:R2):Prop:=
 ∀(pins:List (Addr×Obj)) (s:Shared) (a:St) (H:Hp) (x y:V) (v u:Value) (Q:VK),Inv X pins a H s->RelV x v->RelV y u->r x y H Q ->
  wpAny (model X.prog X.w) X.A (f v u) (EP X pins a Q) X.xe s
def HN(X:Cx)(f:Value->Sem Value)(r:V->Hp->VK->Prop):Prop:=
 ∀(pins:List (Addr×Obj)) (s:Shared) (a:St) (H:Hp) (x:V) (v:Value) (Q:VK),Inv X pins a H s->RelV x v->r x H Q ->
  wpAny (model X.prog X.w) X.A (f v) (EP X pins a Q) X.xe s
def dV(X:Cx)(f:Value)(r:List V->Hp->VK->Prop):Prop:=
 ∀(pins:List (Addr×Obj)) (s:Shared) (a:St) (H:Hp) (b:List V) (c:List Value) (Q:VK),Inv X pins a H s->Vals b c->r b H Q ->
  wpAny (model X.prog X.w) X.A (call f c) (EP X pins a Q) X.xe s
def HP(X:Cx)(r:V->Hp->(Bool->Hp->Prop)->Prop):Prop:=
 ∀(pins:List (Addr×Obj)) (s:Shared) (a:St) (H:Hp) (x:V) (v:Value) (Q:Bool->Hp->Prop),Inv X pins a H s->RelV x v->r x H Q ->
  wpAny (model X.prog X.w) X.A (truthy v) (TP X pins a Q) X.xe s
noncomputable def CG(r:R2)(b tb:TE):TE:=λa H Q=>b a H λx c=>tb a c λy d=>r x y d Q
noncomputable def Mf(r:V->Hp->VK->Prop)(a:TE):TE:=λb H Q=>a b H λx c=>r x c Q
noncomputable def rI(C:Int->Int->Prop)(g:Int->Int->V):R2:=λx y H Q=>∃i j,x=.int i/\y=.int j/\C i j/\Q (g i j) H
noncomputable def xc(g:Int->Int->V):R2:=λx y H Q=>∃i j,x=.int i/\y=.int j/\Q (g i j) H
def rU(g:Int->V):V->Hp->VK->Prop:=λx H Q=>∃i,x=.int i/\Q (g i) H
section
variable{X:Cx}{a b c:Expr}{ta tb tc:TE}{pos:Pos}
theorem AJ(k:PE X a ta)(l:PE X b tb){pins:List (Addr×Obj)}{s:Shared}{c:St}{H:Hp}{R:V->V->Hp->Prop}(I:Inv X pins c H s)
  (h:ta c H λx j=>tb c j λy d=>R x y d) {Q:Value->Shared->Prop}{f:Value->Value->Sem Value}
  (m:∀v u i x y d,Inv X pins c d i->RelV x v->RelV y u->R x y d->wpAny (model X.prog X.w) X.A (f v u) Q X.xe i) :
  wpAny (model X.prog X.w) X.A (eval a X.env) (λv e=>wpAny (model X.prog X.w) X.A (eval b X.env) (λu g=>wpAny (model X.prog X.w) X.A (f v u) Q X.xe g) X.xe e) X.xe s:=by
 refine cf (k pins s c H _ I h) λv n ⟨x,j,I1,r1,q1⟩=>?_
 refine cf (l pins n c j _ I1 q1) λu i ⟨y,d,I2,r2,q2⟩=>?_
 exact m v u i x y d I2 r1 r2 q2
theorem p9{op:Operator}{r:R2}(c:eW X (binaryOp op) r)(d:PE X a ta)(e:PE X b tb):PE X (.BinOp a op b pos) (CG r ta tb):=by
 intro pins s f H Q I h;exact wpAny_BinOp (AJ d e I h λv u g x y i j k l q=>c pins g f i x y v u Q j k l q)
theorem C_{op:UnaryOp}{r:V->Hp->VK->Prop}(c:HN X (unaryOp op) r)(d:PE X a ta):PE X (.UnaryOp op a pos) (Mf r ta):=by
 intro pins s b H Q I h;exact UnaryOp_ (cf (d pins s b H _ I h) λv e ⟨x,H1,I1,r1,q1⟩=>c pins e b H1 x v Q I1 r1 q1)
theorem Dc{f:Value->Value->Sem Value}{C:Int->Int->Prop}{g:Int->Int->Int}
  (rule:∀(i j:Int) (t u:Tok) (s:Shared) (Q:Value->Shared->Prop) (E:Value->Shared->Prop),C i j->Q (.int (g i j) s.toks) {s with toks:=s.toks+1}->wpAny (model X.prog X.w) X.A (f (.int i t) (.int j u)) Q E s) :
  eW X f (rI C λi j=>.int (g i j)):=by
 intro pins s e H x y v u Q I a b h;obtain⟨i,j,rfl,rfl,c,q⟩:=h;obtain⟨t,rfl⟩:=a;obtain⟨d,rfl⟩:=b;exact rule i j t d s _ _ c ⟨.int (g i j),H,I.tok _,⟨_,rfl⟩,q⟩
theorem Dd{f:Value->Value->Sem Value}{g:Int->Int->Int}
  (rule:∀(i j:Int) (t u:Tok) (s:Shared) (Q:Value->Shared->Prop) (E:Value->Shared->Prop),Q (.int (g i j) s.toks) {s with toks:=s.toks+1}->wpAny (model X.prog X.w) X.A (f (.int i t) (.int j u)) Q E s) :
  eW X f (xc λi j=>.int (g i j)):=by
 intro pins s d H x y v u Q I a b h;obtain⟨i,j,rfl,rfl,q⟩:=h;obtain⟨t,rfl⟩:=a;obtain⟨c,rfl⟩:=b;exact rule i j t c s _ _ ⟨.int (g i j),H,I.tok _,⟨_,rfl⟩,q⟩
theorem xf{f:Value->Value->Sem Value}{g:Int->Int->Bool}
  (rule:∀(i j:Int) (t u:Tok) (s:Shared) (Q:Value->Shared->Prop) (E:Value->Shared->Prop),Q (.bool (g i j)) s->wpAny (model X.prog X.w) X.A (f (.int i t) (.int j u)) Q E s) :
  eW X f (xc λi j=>.bl (g i j)):=by
 intro pins s d H x y v u Q I a b h;obtain⟨i,j,rfl,rfl,q⟩:=h;obtain⟨t,rfl⟩:=a;obtain⟨c,rfl⟩:=b;exact rule i j t c s _ _ ⟨.bl (g i j),H,I,rfl,q⟩
def De(i j:Int):Prop:=0<j/\j<1073741824
def Df(i j:Int):Prop:=0<=j/\j<=1000000/\i.natAbs<2 ^ 64
def xg(i j:Int):Prop:=(-(2 ^ 64)<i/\i<2 ^ 64)\/(-(2 ^ 64)<j/\j<2 ^ 64)
theorem xg.ok{i j:Int}(h:xg i j):IntMulOk i j:=by
 rcases h with ⟨a,b⟩|⟨a,b⟩
 .exact .of_left (intBits_le_64 a b)
 .exact .of_right (intBits_le_64 a b)
theorem AK:eW X (binaryOp .Add) (xc λi j=>.int (i+j)):=Dd λ_ _ _ _ _ _ _ q=>add_int q
theorem AL:eW X (binaryOp .Sub) (xc λi j=>.int (i - j)):=Dd λ_ _ _ _ _ _ _ q=>sub_int q
theorem AN:eW X (binaryOp .Mult) (rI xg λi j=>.int (i*j)):=Dc λ_ _ _ _ _ _ _ a q=>mul_int q a.ok
theorem xh:eW X (binaryOp .FloorDiv) (rI De λi j=>.int (i / j)):=Dc λi j _ _ _ _ _ a q=>by
 have b:(0:Int)<j:=a.1;have c:j<1073741824:=a.2;exact floordiv_int (by omega) (by rw[Int.fdiv_eq_ediv_of_nonneg i (by omega)];exact q) (.inl (PyProof.noPylong_small (by omega)))
theorem AO:eW X (binaryOp .Mod) (rI (λ_ j=>0<j) λi j=>.int (i%j)):=Dc λi j _ _ _ _ _ a q=>by
 have b:(0:Int)<j:=a;exact mod_int' (by omega) (by rw[Int.fmod_eq_emod_of_nonneg i (by omega)];exact q)
theorem AQ:eW X (binaryOp .Pow) (rI Df λi j=>.int (i ^ j.toNat)):=Dc λ_ _ _ _ _ _ _ a q=>pow_int_small a.1 a.2.1 a.2.2 q
theorem Mg{f:Value->Sem Value}{g:Int->Int}
  (rule:∀(i:Int) (t:Tok) (s:Shared) (Q:Value->Shared->Prop) (E:Value->Shared->Prop),Q (.int (g i) s.toks) {s with toks:=s.toks+1}->wpAny (model X.prog X.w) X.A (f (.int i t)) Q E s) :
  HN X f (rU λi=>.int (g i)):=by
 intro pins s b H x v Q I a h;obtain⟨i,rfl,q⟩:=h;obtain⟨t,rfl⟩:=a;exact rule i t s _ _ ⟨.int (g i),H,I.tok _,⟨_,rfl⟩,q⟩
theorem AR:HN X (unaryOp .USub) (rU λi=>.int (-i)):=Mg λ_ _ _ _ _ q=>neg_int q
theorem kR{pins:List (Addr×Obj)}{a:St}{H:Hp}{s:Shared}{Q:VK}{k b:Bool}(I:Inv X pins a H s)(q:Q (.bl k) H)(e:k=b):EP X pins a Q (.bool b) s:=by
 subst e;exact⟨.bl k,H,I,rfl,q⟩
theorem Dg:eW X (compareOp .Lt) (xc λi j=>.bl (decide (i<j))):=xf λ_ _ _ _ _ _ _ q=>lt_int q
theorem Dh:eW X (compareOp .LtE) (xc λi j=>.bl (decide (i<=j))):=xf λ_ _ _ _ _ _ _ q=>le_int q
theorem Di:eW X (compareOp .Gt) (xc λi j=>.bl (decide (j<i))):=xf λ_ _ _ _ _ _ _ q=>gt_int q
theorem Dj:eW X (compareOp .GtE) (xc λi j=>.bl (decide (j<=i))):=xf λ_ _ _ _ _ _ _ q=>ge_int q
theorem rR:eW X (compareOp .In) (λx y H Q=>∃i j,x=.str i/\y=.str j/\Q (.bl (!(Builtin.Str.occurrences j i 0 j.length 1).isEmpty)) H):=by
 intro pins s c H x y v u Q I a b h;obtain⟨i,j,rfl,rfl,q⟩:=h;obtain⟨t,rfl⟩:=a;obtain⟨d,rfl⟩:=b;exact in_str (kR I q rfl)
theorem tR:eW X (compareOp .Is) (λx y H Q=>y=.non/\Q (.bl (decide (x=.non))) H):=by
 intro pins s c H x y v u Q I a b h;obtain⟨rfl,q⟩:=h;cases b;refine is_none_gen (kR I q ?_)
 cases x<;>first
  | (cases a;rfl)
  | (obtain⟨t,rfl⟩:=a;rfl)
theorem p_:eW X (compareOp .IsNot) (λx y H Q=>y=.non/\Q (.bl (!decide (x=.non))) H):=by
 intro pins s c H x y v u Q I a b h;obtain⟨rfl,q⟩:=h;cases b;refine isnot_none_gen (kR I q ?_)
 cases x<;>first
  | (cases a;rfl)
  | (obtain⟨t,rfl⟩:=a;rfl)
theorem kS:eW X (compareOp .NotIn) (λx y H Q=>∃i j,x=.str i/\y=.str j/\Q (.bl (!(!(Builtin.Str.occurrences j i 0 j.length 1).isEmpty))) H):=by
 intro pins s c H x y v u Q I a b h;obtain⟨i,j,rfl,rfl,q⟩:=h;obtain⟨t,rfl⟩:=a;obtain⟨d,rfl⟩:=b;exact notIn_str (kR I q rfl)
theorem eW.or{f:Value->Value->Sem Value}{r a:R2}(h:eW X f r)(h':eW X f a):eW X f (λx y H Q=>r x y H Q\/a x y H Q):=by
 intro pins s b H x y v u Q I c d q;rcases q with q|q
 .exact h pins s b H x y v u Q I c d q
 .exact h' pins s b H x y v u Q I c d q
theorem gg{op:CmpOp}{r:R2}(c:eW X (compareOp op) r)(d:PE X a ta)(e:PE X b tb)(f:behindInMarks op b=false):PE X (.Compare a [op] [b] pos) (CG r ta tb):=by
 intro pins s g H Q I h;exact wpAny_Compare1 (AJ d e I h λv u i x y j k l m q=>c pins i g j x y v u Q k l m q) f
noncomputable def tT(t:TE):TT:=λa H Q=>t a H λx b=>∃k,x=.bl k/\Q k b
theorem gh{op:CmpOp}{r:R2}(f:eW X (compareOp op) r)(g:PE X a ta)(i:PE X b tb)(j:behindInMarks op b=false):PT X (.Compare a [op] [b] pos) (tT (CG r ta tb)):=by
 intro pins s d H Q I h
 refine wpAny_isTrue_Compare1 (cf (g pins s d H _ I h) λv l ⟨x,H1,I1,r1,q1⟩=>cf (i pins l d H1 _ I1 q1) λu m ⟨y,H2,I2,r2,q2⟩=>
  cf (f pins m d H2 x y v u _ I2 r1 r2 q2) λc s3 ⟨z,H3,I3,n,k,e,q3⟩=>?_) j
 subst e;cases n;exact wpAny_truthy_bool ⟨H3,I3,q3⟩
noncomputable def oA(r c:R2)(d tb e:TE):TE:=λa H Q=>d a H λx f=>tb a f λy g=>r x y g λz b=>∃k,z=.bl k /\
 (if k=true then e a b λh i=>c y h i Q else Q (.bl false) b)
theorem tU{op f:CmpOp}{r j:R2}(l:eW X (compareOp op) r)(i:eW X (compareOp f) j)(m:PE X a ta)(n:PE X b tb)(o:PE X c tc)
  (p:lastMarks [op,f] [b,c]=false:=by with_unfolding_all rfl):PE X (.Compare a [op,f] [b,c] pos) (oA r j ta tb tc):=by
 intro pins s g H Q I h
 refine Compare_chain (cf (m pins s g H _ I h) λv q ⟨x,H1,I1,r1,q1⟩=>chain_link (cf (n pins q g H1 _ I1 q1) λu t ⟨y,H2,I2,r2,q2⟩=>
  cf (l pins t g H2 x y v u _ I2 r1 r2 q2) λd s3 ⟨z,H3,I3,w,k,e,q3⟩=>?_)) p
 subst e;cases w;refine wpAny_truthy_bool ?_;cases k with
 |false=>exact ite_ff ⟨.bl false,H3,I3,rfl,q3⟩
 |true=>exact ite_tt (chain_last (cf (o pins s3 g H3 _ I3 q3) λA s4 ⟨B,H4,I4,r4,q4⟩=>i pins s4 g H4 y B u A Q I4 r2 r4 q4))
theorem tV{op f:CmpOp}{r j:R2}(l:eW X (compareOp op) r)(i:eW X (compareOp f) j)(m:PE X a ta)(n:PE X b tb)(o:PE X c tc)
  (p:lastMarks [op,f] [b,c]=false:=by with_unfolding_all rfl):PT X (.Compare a [op,f] [b,c] pos) (tT (oA r j ta tb tc)):=by
 intro pins s g H Q I h
 refine isTrue_chain (cf (m pins s g H _ I h) λv q ⟨x,H1,I1,r1,q1⟩=>test_link (cf (n pins q g H1 _ I1 q1) λu t ⟨y,H2,I2,r2,q2⟩=>
  cf (l pins t g H2 x y v u _ I2 r1 r2 q2) λd s3 ⟨z,H3,I3,w,k,e,q3⟩=>?_)) p
 subst e;cases w;refine wpAny_truthy_bool ?_;cases k with
 |false=>
  obtain⟨F,A,B⟩:=q3;cases A;exact ite_ff ⟨H3,I3,B⟩
 |true=>
  refine ite_tt (test_last (cf (o pins s3 g H3 _ I3 q3) λC s4 ⟨D,H4,I4,r4,q4⟩=>cf (i pins s4 g H4 y D u C _ I4 r2 r4 q4) λG J ⟨K,H5,I5,E,k2,e2,q5⟩=>?_))
  subst e2;cases E;exact wpAny_truthy_bool ⟨H5,I5,q5⟩
def mJ(K:PySem.W.Frag)(x:V)(H:Hp)(k:Bool):Prop:=
 match x with
 |.non=>k=false
 |.bl b=>k=b
 |.int i=>k=(i != 0)
 |.str y=>y.length<=sizeLine/\k=((y.length:Int) != 0)
 |.CQ y=>y.size<=sizeLine/\k=((y.size:Int) != 0)
 |.ref p=>(∃a,kj K H p a/\k=!a.isEmpty)\/(∃a,ig K H p a/\k=!a.isEmpty)\/∃c,H p=some (.dK c)/\k=!c.isEmpty
 |_=>False
theorem oC{κ:Type}{kvs:List (κ×V)}{a:List (κ×Value)}(r:KV kvs a):(!a.isEmpty)=!kvs.isEmpty:=by
 cases r<;>rfl
theorem iS{xs:List V}{a:List Value}(r:Vals xs a):(!a.toArray.isEmpty)=!xs.isEmpty:=by
 cases r<;>simp
theorem fw:(sizeLine:Nat)<2 ^ 63:=by rw[sizeLine_eq];decide
theorem kT:HP X (λx H Q=>∃k,mJ X.K x H k/\Q k H):=by
 intro pins s B H x v Q I g h;obtain⟨k,e,q⟩:=h;have C:=fw;have D:sizeLine=16777216:=sizeLine_eq;cases x with
 |non=>
  cases g;have a:k=false:=e;subst a;exact truthy_none ⟨H,I,q⟩
 |bl b=>
  cases g;have a:k=b:=e;subst a;exact wpAny_truthy_bool ⟨H,I,q⟩
 |int i=>
  obtain⟨t,rfl⟩:=g;have a:k=(i != 0):=e;subst a;exact PySem.P.truthy_int ⟨H,I,q⟩
 |str y=>
  obtain⟨t,rfl⟩:=g;obtain⟨z,a⟩:y.length<=sizeLine/\k=((y.length:Int) != 0):=e;subst a;exact PySem.P.truthy_str (by omega) ⟨H,I.tok _,q⟩
 |CQ y=>
  obtain⟨t,rfl⟩:=g;obtain⟨z,a⟩:y.size<=sizeLine/\k=((y.size:Int) != 0):=e;subst a;exact PySem.W.truthy_bytes (by omega) ⟨H,I.tok _,q⟩
 |ref p=>
  cases g;have a:(∃f,kj X.K H p f/\k=!f.isEmpty)\/(∃f,ig X.K H p f/\k=!f.isEmpty)\/∃c,H p=some (.dK c)/\k=!c.isEmpty:=e;rcases a with ⟨f,j,a⟩|⟨f,j,a⟩|⟨c,j,a⟩
  .subst a
   obtain⟨n,r,o,u⟩:=I.list j;have d:=r.length;exact wpAny_truthy_list o.isList (by simp only[List.size_toArray];omega) ⟨H,I.tok _,by rw[iS r];exact q⟩
  .subst a
   obtain⟨n,r,o,u⟩:=I.tuple j;have d:=r.length;exact truthy_tuple o (by simp only[List.size_toArray];omega) ⟨H,I.tok _,by rw[iS r];exact q⟩
  .subst a
   obtain⟨u,A,l,r,m⟩:c.length<=sizeLine/\(p==sysModules)=false/\∃l,KV c l/\s.heap.DictOf (cq X.prog X.w) p l:=I.hok p _ j;have d:c.length=l.length:=Paired.length r;exact wpAny_truthy_dict A m (by omega) ⟨H,I.tok _,by rw[oC r];exact q⟩
 |_=>exact(show False from e).elim
theorem tW(e:PE X a ta)(f:∀b,isTrue a X.env b=(do let v ←b;standAt a.pos;holding [v] (truthy v))) :
  PT X a (λc H Q=>ta c H λx d=>∃k,mJ X.K x d k/\Q k d):=by
 intro pins s c H Q I h;exact isTrue_plain (cf (e pins s c H _ I h) λv g ⟨x,H1,I1,r1,q1⟩=>kT pins g c H1 x v Q I1 r1 q1) (f _)
theorem oD:eW X (binaryOp .Add) (λx y H Q=>∃i j,x=.str i/\y=.str j/\i.length+j.length<=sizeLine/\Q (.str (i++j)) H):=by
 intro pins s e H x y v u Q I a b h;obtain⟨i,j,rfl,rfl,c,q⟩:=h;obtain⟨t,rfl⟩:=a;obtain⟨d,rfl⟩:=b;exact add_str (λd f=>⟨.str (i++j),H,I.tok _,⟨_,rfl⟩,q⟩) c
theorem vals1{x:V}{us:List Value}(r:Vals [x] us):∃u,us=[u]/\RelV x u:=by
 cases r with
 |cons a b=>cases b;exact⟨_,rfl,a⟩
theorem vals2{x y:V}{us:List Value}(r:Vals [x,y] us):∃u a,us=[u,a]/\RelV x u/\RelV y a:=by
 cases r with
 |cons b c=>
  cases c with
  |cons d e=>cases e;exact⟨_,_,rfl,b,d⟩
theorem rS:dV X (.type "int") (λxs H Q=>(∃i,xs=[.int i]/\Q (.int i) H)\/∃k,xs=[.bl k]/\Q (.int (if k then 1 else 0)) H):=by
 intro pins s b H xs c Q I r h;rcases h with ⟨i,rfl,q⟩|⟨k,rfl,q⟩
 .obtain⟨u,rfl,t,rfl⟩:=vals1 r
  exact call_int_int ⟨.int i,H,I,⟨_,rfl⟩,q⟩
 .obtain⟨u,rfl,a⟩:=vals1 r
  cases a;exact call_int_bool ⟨.int (if k then 1 else 0),H,I.tok _,⟨_,rfl⟩,q⟩
end
structure AS(h:Heap)(x dx C:Addr)(mA:Str->Option Value):Prop where
 obj:h.get? x=some (PySem.W.instObj C dx)
 ns:h.Ns1 dx mA
 ne:dx≠x
theorem rV{h:Heap}{c:Addr}{d:Str->Option Value}(n:h.Ns1 c d):∃f,h.get? c=some f/\∀name,PySem.W.lookIn name f=some (d name):=by
 obtain⟨o,g,r,i,j,k,_,l⟩:=n;refine⟨o,i,λname=>?_⟩
 have e:=l name;unfold nsFind findBy at e;rw[←Array.find?_toList]at e;unfold PySem.W.lookIn;rw[j];dsimp only;split
 .rename_i y q
  rw[q]at e;exact congrArg some e
 .rename_i q
  rw[q]at e
  have a:g.toList.any (·.refKey)=false:=by
   rw[List.any_eq_false];intro y m;obtain⟨z,t,b⟩:=k y (Array.mem_toList_iff.mp m);simp[DictEntry.refKey,b]
  have p:¬ g.toList.any (·.refKey)=true:=by rw[a];exact Bool.false_ne_true
  rw[if_neg p];exact congrArg some e
theorem AS.look{h:Heap}{x b C:Addr}{c:Str->Option Value}(I:AS h x b C c):∃a,PySem.W.InstAt h x (PySem.W.instObj C b) C (some a)/\∀name,PySem.W.lookIn name a=some (c name):=
 let ⟨a,d,e⟩:=rV I.ns
 ⟨a,⟨I.obj,rfl,rfl,d⟩,e⟩
section
variable{prog:Program}{w:World}{A:Around}{E:Value->Shared->Prop}{s:Shared}{K:PySem.W.Frag}{x dx C f:Addr}{mA:Str->Option Value}{name:Str}{v:Value}
end
section
variable{P:Program}{w:World}{H H':Hp}{h h':Heap}{a C dx:Addr}{fs fs':List (Str×V)}
theorem xi(c:gR P w H h)(e:H a=some (.ins C dx fs)):∃b,AS h a dx C b/\(∀f,rK (fs.lookup f) (b f))/\PySem.Within b (fs.map (·.1))/\fs.length<=1000/\H dx=some (.own a):=by
 obtain⟨d,z,g,i,b,n,r,q⟩:=(show b_ P w H h a (.ins C dx fs)from c a _ e)
 exact⟨b,⟨i,n,g⟩,r,q,z,d⟩
end
structure Dk(K:PySem.W.Frag)(C:Addr):Prop where
 pg:PySem.W.plainGet K C Str.empty=true
 hd:PySem.W.hasDictIn K C=true
 po:PySem.W.plainOver K C=true
 sa:PySem.W.findIn K (.ref C) "__setattr__"=some (some (.builtin "object.__setattr__"))
theorem Dk.get{K:PySem.W.Frag}{C:Addr}(c:Dk K C)(f:Str):PySem.W.plainGet K C f=true:=c.pg
def AU(K:PySem.W.Frag)(C:Addr)(f:Str):Prop:=PySem.W.findIn K (.ref C) f=some none
structure Meth(K:PySem.W.Frag)(C:Addr)(m:Str)(f:Addr):Prop where
 at_:PySem.W.findIn K (.ref C) m=some (some (.ref f))
 fn:PySem.W.isFn K (.ref f)=true
 kp:PySem.W.keepIn K (.ref f)=true
section
variable{X:Cx}{pins:List (Addr×Obj)}{σ:St}{H:Hp}{s:Shared}{a C dx:Addr}{fs:List (Str×V)}{f:Str}{v:V}{A:Around}{E:Value->Shared->Prop}
end
section
variable{X:Cx}{o e value:Expr}{f:Str}{pos pos' tpos:Pos}{ta tv:TE}
end
section
variable{X:Cx}{pins:List (Addr×Obj)}{σ:St}{H:Hp}{s:Shared}{A:Around}{E:Value->Shared->Prop}{Q:Value->Shared->Prop}{c:Value}{b:Bool}
inductive ih (K:PySem.W.Frag) (H:Hp):V->Value->Prop where
 |non:ih K H .non (.type "NoneType")
 |bl (x:Bool):ih K H (.bl x) (.type "bool")
 |int (i:Int):ih K H (.int i) (.type "int")
 |str (x:Str):ih K H (.str x) (.type "str")
 |flt (x:UInt64):ih K H (.flt x) (.type "float")
 |lst {a:Addr}{xs:List V} (e:H a=some (.lst xs)):ih K H (.ref a) (.type "list")
 |ee {a:Addr}{o:Obj}{xs:List V} (e:H a=some (.ee o (.lst xs))):ih K H (.ref a) (.type "list")
 |tup {a:Addr}{xs:List V} (e:H a=some (.tup xs)):ih K H (.ref a) (.type "tuple")
 |dK {a:Addr}{kvs:List (Key×V)} (e:H a=some (.dK kvs)):ih K H (.ref a) (.type "dict")
 |dT {a:Addr}{kvs:List (List Key×V)} (e:H a=some (.dT kvs)):ih K H (.ref a) (.type "dict")
 |ins {a C dx:Addr}{fs:List (Str×V)} (e:H a=some (.ins C dx fs)) (cl:Dk K C) (ha:PySem.W.findIn K (.ref C) "__class__"=some (some (.builtin "object.__class__")))
   (hn:PySem.W.specialIn K (.builtin "object.__class__") "__get__"=some (some (.builtin "getset_descriptor.__get__"))) (htk:PySem.W.takesIn K (.builtin "object.__class__")=some true)
   (hm:PySem.W.mroIn K C (.type "object")=some true):ih K H (.ref a) (.ref C)
theorem cE{x:V}{u t:Value}(I:Inv X pins σ H s)(d:RelV x u)(B:ih X.K H x t)(e:PySem.W.kitOne X.K t c=some b)(h:∀D,Q (.bool b) {s with toks:=D}) :
  wpAny (model X.prog X.w) A (call (.builtin "isinstance") [u,c]) Q E s:=by
 cases B with
 |non=>cases (show u=Value.none from d);exact PySem.W.kia_one PySem.W.kitx_none I.kh True.intro e (λz=>nomatch z) h
 |bl y=>cases (show u=Value.bool y from d);exact PySem.W.kia_one PySem.W.kitx_bool I.kh True.intro e (λz=>nomatch z) h
 |int i=>obtain⟨t,q⟩:=(show ∃t,u=Value.int i t from d);cases q;exact PySem.W.kia_one PySem.W.kitx_int I.kh True.intro e (λz=>nomatch z) h
 |str y=>obtain⟨t,q⟩:=(show ∃t,u=Value.str y t from d);cases q;exact PySem.W.kia_one PySem.W.kitx_str I.kh True.intro e (λz=>nomatch z) h
 |flt y=>obtain⟨t,q⟩:=(show ∃t,u=Value.float y t from d);cases q;exact PySem.W.kia_one PySem.W.kitx_float I.kh True.intro e (λz=>nomatch z) h
 |@lst a k f=>
  cases (show u=Value.ref a from d)
  obtain⟨_,_,n,_,g⟩:=(show b_ X.prog X.w H s.heap a (.lst k)from I.hok a _ f)
  exact PySem.W.kia_one PySem.W.kitx_list I.kh ⟨_,g,rfl⟩ e (λz=>nomatch z) h
 |@ee a F k f=>
  cases (show u=Value.ref a from d)
  obtain⟨_,_,_,n,_,g⟩:=(show b_ X.prog X.w H s.heap a (.ee F (.lst k))from I.hok a _ f)
  exact PySem.W.kia_one PySem.W.kitx_list I.kh ⟨_,g,rfl⟩ e (λz=>nomatch z) h
 |@tup a k f=>
  cases (show u=Value.ref a from d)
  obtain⟨_,_,_,p⟩:=(show b_ X.prog X.w H s.heap a (.tup k)from I.hok a _ f)
  obtain⟨o,g,l,_⟩:=p;exact PySem.W.kia_one PySem.W.kitx_tuple I.kh ⟨o,g,l⟩ e (λz=>nomatch z) h
 |@dK a j f=>
  cases (show u=Value.ref a from d)
  obtain⟨_,_,R,_,p⟩:=(show b_ X.prog X.w H s.heap a (.dK j)from I.hok a _ f)
  obtain⟨o,G,L,g,l,_⟩:=p;exact PySem.W.kia_one PySem.W.kitx_dict I.kh ⟨o,g,l.1⟩ e (λz=>nomatch z) h
 |@dT a j f=>
  cases (show u=Value.ref a from d)
  obtain⟨_,_,k,_,o,G,L,g,l,_⟩:=(show b_ X.prog X.w H s.heap a (.dT j)from I.hok a _ f)
  exact PySem.W.kia_one PySem.W.kitx_dict I.kh ⟨o,g,l.1⟩ e (λz=>nomatch z) h
 |@ins a C S T f r M N m P=>
  cases (show u=Value.ref a from d)
  obtain⟨U,O,_⟩:=xi I.hok f;obtain⟨Y,J,_⟩:=O.look;exact PySem.W.kia_one (PySem.W.kitx_own (r.get _) r.hd M N m P) I.kh J e (λz=>nomatch z) h
end
structure dW(k:Nat)(A:Around):Prop where
 hd:A.handled=none
 dp:A.depth+3*k+5<recursionLimit
 un:A.units+16*k+200<cLine
theorem dW.mono{j k:Nat}{A:Around}(r:dW k A)(h:j<=k):dW j A:=⟨r.hd,by have:=r.dp;omega,by have:=r.un;omega⟩
theorem dW.deeper{k:Nat}{A:Around}(r:dW (k+1) A)(env:Env):dW k (A.deeper env):=
 ⟨r.hd,by have:=r.dp;show A.depth+1+3*k+5<_;omega,by have:=r.un;show A.units+3+16*k+200<_;omega⟩
theorem dW.depth{k:Nat}{A:Around}(r:dW k A):A.depth<recursionLimit:=by have:=r.dp;omega
theorem dW.units{k:Nat}{A:Around}(r:dW k A):A.units+64<cLine:=by have:=r.un;omega
noncomputable def AV:TA:=λ_ H Q=>Q [] H
noncomputable def tX(b:TE)(c:TA):TA:=λa H Q=>b a H λx d=>c a d λe f=>Q (x::e) f
section
variable{X:Cx}{e:Expr}{es:List Expr}{te:TE}{t:TA}{pos:Pos}
theorem kU:PA X [] AV:=λ_ _ _ _ H Q I h=>Calls.spliced_nil ⟨[],H,I,.nil,h⟩
theorem eX(c:PE X e te)(d:PA X es t)(f:starEach (e::es) X.env=(false,eval e X.env)::starEach es X.env:=by rfl):PA X (e::es) (tX te t):=by
 intro a pins s b H Q I h;rw[f]
 show wpAny _ _ (spliced ((false,eval e X.env)::backTo a (starEach es X.env))) _ _ s
 refine Calls.spliced_cons (cf (c pins s b H _ I h) λu g ⟨x,H1,I1,r1,q1⟩=>?_)
 exact cf (d a pins g b H1 _ I1 q1) λj k ⟨i,H2,I2,r2,q2⟩=>⟨x::i,H2,I2,.cons r1 r2,q2⟩
def HQ(t:TA):TE:=λc H Q=>t c H λa b=>a.length<=sizeLine/\∀p,b p=none->Q (.ref p) (upd b p (.tup a))
def HR(t:TA):TE:=λc H Q=>t c H λa b=>a.length<=sizeLine/\∀p,b p=none->Q (.ref p) (upd b p (.lst a))
theorem AW{x1}(h:PA X es t):PE X (.Tuple es x1 pos) (HQ t):=by
 intro pins s c H Q I d;refine wpAny_Tuple_spliced (cf (h pos pins s c H _ I d) λf a ⟨g,H1,I1,r,z,q⟩=>⟨by rw[←r.length];exact z,?_⟩)
 have i:H1 a.heap.objs.size=none:=I1.hok.fresh (Nat.le_refl _);refine⟨.ref a.heap.objs.size,upd H1 a.heap.objs.size (.tup g),I1.laid (t':=a.toks) (λb u e=>Heap.get?_push_of_some _ e) (Nat.le_refl _) ?_,rfl,q _ i⟩
 exact⟨z,f,r,⟨_,Heap.get?_push_size _ rfl,rfl,_,rfl⟩⟩
theorem AX(h:PA X es t):PE X (.List es pos) (HR t):=by
 intro pins s c H Q I d;refine wpAny_List_spliced (cf (h pos pins s c H _ I d) λf a ⟨g,H1,I1,r,z,q⟩=>⟨by rw[←r.length];exact z,?_⟩)
 have i:H1 a.heap.objs.size=none:=I1.hok.fresh (Nat.le_refl _);refine⟨.ref a.heap.objs.size,upd H1 a.heap.objs.size (.lst g),I1.laid (t':=a.toks) (λb u e=>Heap.get?_push_of_some _ e) (Nat.le_refl _) ?_,rfl,q _ i⟩
 exact⟨z,f,0,r,Heap.get?_push_size _ rfl⟩
end
abbrev Sp:=List V->Hp->VK->XK->Prop
abbrev rW:=List Env->Hp->Shared->XK->Value->Shared->Prop
structure xj(P:Program)(w:World)(K:PySem.W.Frag)(mg:Str->Option Value)(base:Heap)(A:Around)(outer:List Env)(s:Shared)(H:Hp):Prop where
 frames:A.frames=some outer
 mod:Mod K mg base
 bs:∀b o,base.get? b=some o->s.heap.get? b=some o/\H b=none
 Aw:base.objs.size<=s.heap.objs.size
 iO:s.heap.FunFrames base outer
 CF:∀b∈frs outer,H b=none
 hok:gR P w H s.heap
 bare:AllBare s.gens
def CE(outer:List Env)(P:Program)(w:World)(H:Hp)(s:Shared)(Q:VK)(u:Value)(a:Shared):Prop:=
 ∃v b,a.os=s.os/\AllBare a.gens/\Un (frs outer) [] H b s.heap a.heap/\gR P w b a.heap/\RelV v u/\Q v b
def CR(CX:rW)(outer:List Env)(P:Program)(w:World)(H:Hp)(s:Shared)(Q:VK)(E:XK)(r:Result)(a:Shared):Prop:=
 match r with
 |.ok (.ret u)=>CE outer P w H s Q u a
 |.ok _=>False
 |.error e=>CX outer H s E e a
structure cX(P:Program)(w:World)(K:PySem.W.Frag)(mg:Str->Option Value)(base:Heap)(CX:rW)(k:Nat)(f:Addr)(fd:FuncData)(ps:List Str)(sp:Sp):Prop where
 len:∀vs H Q E,sp vs H Q E->vs.length=ps.length
 run:∀(A:Around) (outer:List Env) (s:Shared) (H:Hp) (args:Args) (us:List Value) (vs:List V) (Q:VK) (E:XK),dW k A->xj P w K mg base A outer s H->BindsTo s fd args (ps.zip us)->Vals vs us->sp vs H Q E ->
  codeAny (model P w) A (.call (.ref f) args) (CR CX outer P w H s Q E) s
theorem cX.mono{P:Program}{w:World}{K:PySem.W.Frag}{a:Str->Option Value}{base:Heap}{CX:rW}{j k:Nat}{f:Addr}{b:FuncData}{ps:List Str}{sp:Sp}(F:cX P w K a base CX j f b ps sp)(h:j<=k) :
  cX P w K a base CX k f b ps sp:=⟨F.len,λA outer s H args c d Q E e=>F.run A outer s H args c d Q E (e.mono h)⟩
theorem cX.imp{P:Program}{w:World}{K:PySem.W.Frag}{c:Str->Option Value}{base:Heap}{CX:rW}{k:Nat}{f:Addr}{d:FuncData}{ps:List Str}{sp b:Sp}(F:cX P w K c base CX k f d ps sp)
  (h:∀a H Q E,b a H Q E->sp a H Q E):cX P w K c base CX k f d ps b:=
 ⟨λa H Q E q=>F.len a H Q E (h _ _ _ _ q),λA outer s H args e a Q E g i j l m=>F.run A outer s H args e a Q E g i j l (h _ _ _ _ m)⟩
section
variable{X:Cx}{pins:List (Addr×Obj)}{σ:St}{H:Hp}{s s':Shared}
theorem Inv.env0(I:Inv X pins σ H s):xj X.prog X.w X.K X.mg X.base X.A X.stack s H:=
 ⟨I.ok.frames,I.ok.mod,I.bs,Nat.le_trans I.ok.Aw I.sz,I.stack,I.pY,I.hok,I.bare⟩
theorem Inv.after{Q:VK}{u:Value}(I:Inv X pins σ H s)(h:CE X.stack X.prog X.w H s Q u s'):EP X pins σ Q u s':=by
 obtain⟨v,e,f,bare,i,a,r,q⟩:=h;obtain⟨j,g,d,t,c⟩:=s';obtain rfl:c=s.os:=f;exact⟨v,e,I.call (h':=j) (g':=g) (d':=d) (t':=t) (ch:=[]) i a bare (λb z=>absurd z (by simp)),r,q⟩
end
noncomputable def zO(sp:Sp)(a:List V)(E:XK)(t:TA):TE:=λb H Q=>t b H λc d=>sp (c++a) d Q E
def Binds(K:PySem.W.Frag)(b:FuncData)(ps:List Str)(ds:List Value):Prop:=
 ∀(s:Shared) (a:List Value),K.In s.heap->(a++ds).length=ps.length->BindsTo s b ⟨a,[]⟩ (ps.zip (a++ds))
theorem Binds.all{K:PySem.W.Frag}{a:FuncData}{ps:List Str}(h:∀us:List Value,us.length=ps.length->bindArgs a ⟨us,[]⟩=pure (ps.zip us)):Binds K a ps []:=λs us _ b=>by
 rw[List.append_nil]at b ⊢;exact .of_eq (h us b)
def Passes(CX:rW)(X:Cx)(E:XK):Prop:=∀(pins:List (Addr×Obj)) (b:St) (H:Hp) (s:Shared) (e:Value) (a:Shared),Inv X pins b H s->CX X.stack H s E e a->X.xe e a
section
variable{X:Cx}{CX:rW}{k:Nat}{f C:Addr}{fd:FuncData}{ps:List Str}{sp:Sp}{zP:List V}{ds:List Value}{E:XK}{x m:Str}{p pos apos:Pos}{e o:Expr}{es:List Expr}{ta:TE}{t:TA}
theorem tY{pins:List (Addr×Obj)}{c:St}{H:Hp}{s:Shared}{Q:VK}{us:List Value}{b:List V}(F:cX X.prog X.w X.K X.mg X.base CX k f fd ps sp)(g:dW k X.A)(i:Binds X.K fd ps ds)(j:Vals zP ds)(l:Passes CX X E)
  (I:Inv X pins c H s) (r:Vals b us) (h:sp (b++zP) H Q E):wpAny (model X.prog X.w) X.A (call (.ref f) us) (EP X pins c Q) X.xe s:=by
 have d:Vals (b++zP) (us++ds):=r.append j;have m:(us++ds).length=ps.length:=by rw[←d.length];exact F.len _ _ _ _ h
 refine wpAny_call (codeAny_mono (F.run X.A X.stack s H ⟨us,[]⟩ (us++ds) (b++zP) Q E g I.env0 (i s us I.kh m) d h) λr n a=>?_)
 cases r with
 |error e=>exact l pins c H s e n I a
 |ok fl=>
  cases fl with
  |ret u=>exact I.after a
  |next=>exact False.elim a
  |brk=>exact False.elim a
  |cont=>exact False.elim a
theorem qa(F:cX X.prog X.w X.K X.mg X.base CX k f fd ps sp)(c:dW k X.A)(d:Gl X x)(g:X.mg x=some (.ref f))(i:PySem.W.keepIn X.K (.ref f)=true)(j:Binds X.K fd ps ds)(l:Vals zP ds)(m:Passes CX X E)
  (n:PA X (e::es) t) (a:(x==("__debug__":Str))=false:=by decide) (o:starEach (e::es) X.env=(false,eval e X.env)::starEach es X.env:=by rfl) (b:(backTo pos (starEach es X.env)).any (·.1)=false:=by rfl) :
  PE X (.Call (.Name x p) (e::es) [] pos) (zO sp zP E t):=by
 intro pins s u H Q I h;refine wpAny_Call_Name_kw (iv I d g ?_ a);refine PySem.W.callWith_K (h₀:=X.base) I.ok.mod.Hu i (cf (n pos pins s u H _ I h) λy z ⟨B,H1,I1,r,q⟩=>⟨I1.kh,?_⟩) o b
 exact tY F c j l m I1 r q
theorem tZ(F:cX X.prog X.w X.K X.mg X.base CX k f fd ps sp)(b:dW k X.A)(c:Gl X x)(d:X.mg x=some (.ref f))(e:PySem.W.keepIn X.K (.ref f)=true)(g:Binds X.K fd ps ds)(i:Vals zP ds)(j:Passes CX X E)
  (a:(x==("__debug__":Str))=false:=by decide):PE X (.Call (.Name x p) [] [] pos) (zO sp zP E AV):=by
 intro pins s l H Q I h;refine wpAny_Call_Name_kw (iv I c d ?_ a);exact PySem.W.callWith_K0 I.kh e (tY (us:=[]) F b g i j I .nil h)
structure Mk(K:PySem.W.Frag)(C f:Addr):Prop where
 makes:PySem.W.makesIn K C=true
 init:PySem.W.findIn K (.ref C) "__init__"=some (some (.ref f))
 fn:PySem.W.isFn K (.ref f)=true
 kp:PySem.W.keepIn K (.ref C)=true
end
section
variable{X:Cx}{CX:rW}{k:Nat}{f C:Addr}{fd:FuncData}{ps ks:List Str}{sp:Sp}{E:XK}{x m:Str}{p pos apos Mh:Pos}{e o:Expr}{es:List Expr}{kws:List Keyword}{te ta:TE}{t tk:TA}{nm:Option Str}
variable{g:List Value->List Value->List Value}{gV:List V->List V->List V}
end
structure ix(N P:List Str)(sc:Scope):Prop where
 kind:sc.kind=.function
 co:sc.isCoroutine=false
 gen:sc.isGenerator=false
 nd:N.Nodup
 pre:N.take P.length=P
 par:∀x∈P,sc.names.lookup x=some .local\/sc.names.lookup x=some .cell
 AY:∀y∈sc.names,y.2≠.free
theorem kk{kindOf:Str->Option NameKind}{x:Str}:∀{binds:List (Str×Value)}{m:Str->Option Value},(∀v,(x,v)∉binds)->bindL kindOf binds m x=m x
 |[],_,_=>rfl
 | (n,v)::r,m,h=>by
  unfold bindL;rw[kk λw a=>h w (List.mem_cons_of_mem _ a)]
  split
  .have:x≠n:=by rintro rfl;exact h v List.mem_cons_self
   simp[this]
  .rfl
theorem km{kindOf:Str->Option NameKind}{x:Str}:∀{binds:List (Str×Value)}{m:Str->Option Value},(∀v,(x,v)∉binds)->bindC kindOf binds m x=m x
 |[],_,_=>rfl
 | (n,v)::r,m,h=>by
  unfold bindC;rw[km λw a=>h w (List.mem_cons_of_mem _ a)]
  split
  .rfl
  .have:x≠n:=by rintro rfl;exact h v List.mem_cons_self
   simp[this]
theorem kn{kindOf:Str->Option NameKind}{x:Str}{v:Value}:∀{P:List Str}{a:List Value}{i:Nat}{m:Str->Option Value},P.Nodup->P[i]?=some x->a[i]?=some v->kindOf x=some .local ->
  bindL kindOf (P.zip a) m x=some v
 |[],_,_,_,_,h,_,_=>by simp at h
 |_::_,[],_,_,_,_,h,_=>by simp at h
 |p::P,w::a,0,m,b,h1,h2,c=>by
  simp at h1 h2;subst h1;subst h2
  show bindL kindOf ((p,w)::P.zip a) m p=_
  unfold bindL;rw[kk λv d=>(List.nodup_cons.mp b).1 (List.of_mem_zip d).1,if_pos c]
  simp
 |p::P,w::a,i+1,m,b,h1,h2,c=>by
  show bindL kindOf ((p,w)::P.zip a) m x=_
  unfold bindL;exact kn (i:=i) (List.nodup_cons.mp b).2 (by simpa using h1) (by simpa using h2) c
theorem ko{kindOf:Str->Option NameKind}{x:Str}{v:Value}:∀{P:List Str}{a:List Value}{i:Nat}{m:Str->Option Value},P.Nodup->P[i]?=some x->a[i]?=some v->kindOf x≠some .local ->
  bindC kindOf (P.zip a) m x=some v
 |[],_,_,_,_,h,_,_=>by simp at h
 |_::_,[],_,_,_,_,h,_=>by simp at h
 |p::P,w::a,0,m,b,h1,h2,c=>by
  simp at h1 h2;subst h1;subst h2
  show bindC kindOf ((p,w)::P.zip a) m p=_
  unfold bindC;rw[km λv d=>(List.nodup_cons.mp b).1 (List.of_mem_zip d).1,if_neg c]
  simp
 |p::P,w::a,i+1,m,b,h1,h2,c=>by
  show bindC kindOf ((p,w)::P.zip a) m x=_
  unfold bindC;exact ko (i:=i) (List.nodup_cons.mp b).2 (by simpa using h1) (by simpa using h2) c
noncomputable def start(N:List Str)(a:List V):St:=a.map some++List.replicate (N.length - a.length) none
noncomputable def mK(CX:rW)(P:Program)(w:World)(K:PySem.W.Frag)(mg:Str->Option Value)(base:Heap)(N:List Str)(qual:Str)(scope:Scope)(f:Addr)(b:Value)(A:Around)(outer:List Env)(s:Shared)(H:Hp)(E:XK):Cx where
 prog:=P
 w:=w
 K:=K
 mg:=mg
 base:=base
 A:=A.deeper (envOfC qual scope s.heap.objs.size f b)
 N:=N
 s₀:=s
 H₀:=H
 env:=envOfC qual scope s.heap.objs.size f b
 outer:=outer
 stack:=envOfC qual scope s.heap.objs.size f b::outer
 ex:=[]
 calm:=true
 fn:=λ_=>true
 pn:=[]
 xe:=λe c=>wpAny (model P w) (A.deeper (envOfC qual scope s.heap.objs.size f b)) (leaving (envOfC qual scope s.heap.objs.size f b) e) (λ_ a=>CX outer H s E e a) (λd a=>CX outer H s E d a) c
theorem mL{a:Scope}{n:Nat}{x:Str}(h:a.names.lookup x=some .cell):∃c,(cellsFrom n a.names []).lookup x=some c:=by
 have q:=PySem.W.cellsFrom_some a.names n [] (.inl h);exact Option.isSome_iff_exists.mp q
theorem rX{CX:rW}{P:Program}{w:World}{K:PySem.W.Frag}{D:Str->Option Value}{base:Heap}{N ps:List Str}{qual:Str}{scope:Scope}{f:Addr}{t:Value}{A:Around}{outer:List Env}{s s1:Shared}{H:Hp}{E:XK}{us:List Value}{j:List V}
  (S:ix N ps scope) (J:A.handled=none) (g:xj P w K D base A outer s H) (Q:j.length=ps.length) (r:Vals j us)
  (x:InCallC s s.heap.objs.size (bindL (envOfC qual scope s.heap.objs.size f t).kindOf (ps.zip us) λ_=>none) (cellsFrom (s.heap.objs.size+1) scope.names []) (bindC (envOfC qual scope s.heap.objs.size f t).kindOf (ps.zip us) λ_=>none) s1) :
  Inv (mK CX P w K D base N qual scope f t A outer s H E) [] (start N j) H s1:=by
 have L:ps.length<=N.length:=by have:=congrArg List.length S.pre;rw[List.length_take]at this;omega
 obtain⟨B,R,rfl,F⟩:=x.done;have l:∀b:Addr,b∉(mK CX P w K D base N qual scope f t A outer s H E).ex:=λb z=>absurd (show b∈([]:List Addr)from z) (by simp)
 refine⟨⟨g.mod,S.kind,rfl,rfl,Nat.le_refl _,λy z c B d=>?_,λy hy=>?_,λy c _ h=>?_,λ_=>J,Around.frames_deeper g.frames,.inr ⟨rfl,rfl⟩,λb z=>absurd z (l b),g.bs,g.Aw,λb _ _=>l b,λb z=>absurd z (l b),g.iO,g.CF⟩,
  rfl,g.bare,Un.kept F,⟨_,x.toInCall.ns,λi y v B d T=>?_⟩,λy c h=>⟨_,x.cell y c h⟩,g.hok.fresh (Nat.le_refl _),λy c h=>?_,λp m=>absurd (show p∈([]:List (Addr×Obj))from m) (by simp),g.hok.kept F,?_⟩
 .exact name_of_addr x.apart (PySem.mem_of_lookup B) (PySem.mem_of_lookup d)
 .have hy:scope.names.lookup y=some .cell\/scope.names.lookup y=some .free:=hy
  rcases hy with hy|hy
  .exact mL hy
  .exact absurd rfl (S.AY _ (PySem.mem_of_lookup hy))
 .exact Nat.le_of_lt (x.above y c (PySem.mem_of_lookup h))
 .have C:i<j.length:=by
   unfold start at d
   by_cases C:i<j.length
   .exact C
   .rw[List.getElem?_append_right (by simpa using C)]at d
    rw[List.getElem?_replicate]at d;split at d<;>cases d
  have M:j[i]?=some v:=by
   unfold start at d;rw[List.getElem?_append_left (by simpa using C),List.getElem?_map]at d
   cases e:j[i]? with
   |none=>rw[e]at d;cases d
   |some a=>rw[e]at d;cases d;rfl
  obtain⟨u,G,O⟩:=r.get M
  have m:ps[i]?=some y:=by
   rw[←S.pre,List.getElem?_take_of_lt (by omega)];exact B
  have o:ps.Nodup:=by rw[←S.pre];exact S.nd.sublist (List.take_sublist _ _)
  refine⟨u,O,?_⟩;rcases S.par y (List.mem_of_getElem? m)with k|k
  .exact .inl ⟨k,kn o m G k⟩
  .obtain⟨c,e⟩:=mL (n:=s.heap.objs.size+1) k
   refine .inr ⟨.inl k,c,e,?_⟩;have q:=x.cell y c e;rw[ko o m G (by show scope.names.lookup y≠_;rw[k];decide)]at q
   exact q
 .have I:=g.hok.fresh (Nat.le_of_lt (x.above y c (PySem.mem_of_lookup h)))
  exact⟨.inl I,λ_=>I⟩
 .unfold start
  show _=N.length
  rw[List.length_append,List.length_map,List.length_replicate];omega
theorem Dl{CX:rW}{P:Program}{w:World}{K:PySem.W.Frag}{C:Str->Option Value}{base:Heap}{k:Nat}{f:Addr}{name qual:Str}{params:Arguments}{body:List Stmt}{scope:Scope}{R kV l T a ct oc:Value}{U Z:Option Addr}
  {D:Array (Option Value)}{N ps:List Str}{sp:Sp} (lk:K.lookup f=some ⟨oc,Z,.func (PySem.W.fnOf name qual params body scope R kV l T U a ct),D⟩) (F:PySem.W.codeIn K a qual=true) (S:ix N ps scope)
  (m:∀c H Q E,sp c H Q E->c.length=ps.length)
  (h:∀(A:Around) (outer:List Env) (s:Shared) (H:Hp) (c:List V) (Q:VK) (E:XK),dW k (A.deeper (envOfC qual scope s.heap.objs.size f a))->sp c H Q E ->
   ∃t,gS (mK CX P w K C base N qual scope f a A outer s H E) body t/\t {nx:=λ_ g=>Q .non g,rt:=Q} (start N c) H) :
  cX P w K C base CX (k+1) f (PySem.W.fnOf name qual params body scope R kV l T U a ct) ps sp:=by
 refine⟨m,λA outer s H args us c Q E G p hb r z=>?_⟩
 have hl:=m _ _ _ _ z;have X:K.In s.heap:=p.mod.Hu.keeps λb o e=>(p.bs b o e).1
 have L:s.heap.NoLimit:=p.mod.nolimit.keeps λb o e=>(p.bs b o e).1
 have i:∀y∈ps.zip us,scope.names.lookup y.1=some .local\/(scope.names.lookup y.1=some .cell/\((cellsFrom (s.heap.objs.size+1) scope.names []).lookup y.1).isSome=true):=λ⟨n,v⟩ hy=>by
  rcases S.par n (List.of_mem_zip hy).1 with q|q
  .exact .inl q
  .exact .inr ⟨q,PySem.W.cellsFrom_some _ _ _ (.inl q)⟩
 refine codeAny_call_function G.depth (X _ _ lk) rfl S.co S.gen rfl (PySem.W.codeRec_of X F) (hb _ _ _ _ ?_);refine wpAny_newFunctionEnv_cells S.kind i λa0 he Y x=>?_
 subst he;refine⟨L.keeps x.toInCall.keep,codeAny_func ?_⟩;obtain⟨t,ht,hq⟩:=h A outer s H c Q E (G.deeper _) z;have I:Inv (mK CX P w K C base N qual scope f a A outer s H E) [] (start N c) H Y:=rX S G.hd p hl r x;refine wpAny_mono (ht [] Y (start N c) H _ I hq) (λfl M j=>?_) λe M j=>j
 have B:∀{d:St}{g:Hp}{v:V}{u:Value},Inv (mK CX P w K C base N qual scope f a A outer s H E) [] d g M->RelV v u->Q v g->CE outer P w H s Q u M:=
  λ{d g v u} J O q=>⟨v,g,J.os,J.bare,J.base,J.hok,O,q⟩
 cases fl with
 |ret u=>
  obtain⟨v,d,g,J,O,q⟩:=j;exact B J O q
 |next=>
  obtain⟨d,g,J,q⟩:=j;exact B (v:=V.non) (u:=Value.none) J rfl q
 |brk=>
  obtain⟨_,_,_,q⟩:=j;exact False.elim q
 |cont=>
  obtain⟨_,_,_,q⟩:=j;exact False.elim q
section
variable{X:Cx}{x:Str}{p pos:Pos}{e:Expr}{es:List Expr}{t:TA}{id T:String}{r:List V->Hp->VK->Prop}
noncomputable def Le(r:List V->Hp->VK->Prop)(t:TA):TE:=λa H Q=>t a H λb c=>r b c Q
theorem iT(d:dV X (.builtin id) r)(f:Gl X x)(g:X.mg x=none)(i:bootBuiltins x=some (.builtin id))(j:PA X (e::es) t)(k:x≠"__name__":=by decide)(a:(x==("__debug__":Str))=false:=by decide)
  (l:starEach (e::es) X.env=(false,eval e X.env)::starEach es X.env:=by rfl) (b:(backTo pos (starEach es X.env)).any (·.1)=false:=by rfl):PE X (.Call (.Name x p) (e::es) [] pos) (Le r t):=by
 intro pins s c H Q I h;refine wpAny_Call_Name_kw (ft I f g i ?_ k a);exact PyProof.Rows.callWith_builtin1 (cf (j pos pins s c H _ I h) λm n ⟨o,H1,I1,r1,q1⟩=>d pins n c H1 o m Q I1 r1 q1) l b
theorem rY(d:dV X (.type T) r)(f:Gl X x)(g:X.mg x=none)(i:bootBuiltins x=some (.type T))(j:PA X (e::es) t)(k:x≠"__name__":=by decide)(a:(x==("__debug__":Str))=false:=by decide)
  (l:starEach (e::es) X.env=(false,eval e X.env)::starEach es X.env:=by rfl) (b:(backTo pos (starEach es X.env)).any (·.1)=false:=by rfl):PE X (.Call (.Name x p) (e::es) [] pos) (Le r t):=by
 intro pins s c H Q I h;refine wpAny_Call_Name_kw (ft I f g i ?_ k a);exact PyProof.Rows.callWith_type1 (cf (j pos pins s c H _ I h) λm n ⟨o,H1,I1,r1,q1⟩=>d pins n c H1 o m Q I1 r1 q1) l b
end
end L2
namespace HT
open PySem PyProof.Rows
section
open PySem.SeqAt
open PySem.AutoSeq1 (wpAny_loadPart')
open PySem.MeetsSeq PySem.MeetsSeq2 PySem.MeetsSeq3
end
section
variable{prog:Program}{w:World}{A:Around}{E:Value->Shared->Prop}{s:Shared}
theorem xk{t b:Addr}{d a:List Value}{Q:Value->Shared->Prop}(x:IsTup s.heap t d.toArray)(y:IsTup s.heap b a.toArray)(l:d≠[])
  (z:a=[]->Q (.ref t) s) (B:a≠[]->Q (.ref s.heap.objs.size) {s with heap:=s.heap.push {cls:=.type "tuple",data:=.seq (d++a).toArray} })
  (hsz:d.length+a.length<=sizeLine):wpAny (model prog w) A (binaryOp .Add (.ref t) (.ref b)) Q E s:=by
 obtain⟨⟨cls,m,data,o⟩,j,p,n,q⟩:=id x;obtain⟨⟨r,f,data2,g⟩,c,h,u,i⟩:=id y;simp only at p q h i;subst p q h i;have e:d.toArray++a.toArray=(d++a).toArray:=by simp
 by_cases k:a=[]
 .exact concat_meets ⟨_,j,rfl⟩ ⟨_,c,rfl⟩ noFill_tuple_add seq_tuple_add PySem.F.slot_tuple_add PySem.F.entry_tuple_add (PySem.F.args_tuple_add_2 _ _)
   (tuple_addW1 t b d.toArray a.toArray n u m f o g (by simpa using l) (by simp[k])) ⟨j,c,z k⟩
 .refine concat_meets ⟨_,j,rfl⟩ ⟨_,c,rfl⟩ noFill_tuple_add seq_tuple_add PySem.F.slot_tuple_add PySem.F.entry_tuple_add (PySem.F.args_tuple_add_2 _ _)
   (tuple_addW2 t b d.toArray a.toArray n u m f o g (by simpa using l) (by simpa using k) (by rw[List.size_toArray,List.size_toArray];exact hsz)) ⟨j,c,?_⟩
  rw[e];exact B k
noncomputable def fj(n d:Nat):Option Int->Nat
 |none=>d
 |some v=>if v<0 then (v+(n:Int)).toNat else min v.toNat n
theorem mM(n d:Nat):fj n d none=d:=rfl
theorem qb(n d k:Nat):fj n d (some (k:Int))=min k n:=by
 show(if (k:Int)<0 then ((k:Int)+(n:Int)).toNat else min (k:Int).toNat n)=min k n
 rw[if_neg (by omega),Int.toNat_natCast]
theorem oE(n d:Nat)(b:d<=n)(o:Option Int):fj n d o<=n:=by
 cases o with
 |none=>exact b
 |some v=>
  show(if v<0 then (v+(n:Int)).toNat else min v.toNat n)<=n
  by_cases a:v<0
  .rw[if_pos a];omega
  .rw[if_neg a];exact Nat.min_le_right _ _
end
end HT
namespace L2
open PySem PySem.Spec PyProof.Rows
abbrev TO:=St->Hp->(Option Int->Hp->Prop)->Prop
def PO(X:Cx)(e:Option Expr)(t:TO):Prop:=
 ∀(pins:List (Addr×Obj)) (s:Shared) (a:St) (H:Hp) (Q:Option Int->Hp->Prop),Inv X pins a H s->t a H Q ->
  wpAny (model X.prog X.w) X.A (evalPart e X.env) (λu c=>∃o b,Inv X pins a b c/\IsPart u o/\Q o b) X.xe s
noncomputable def qf:TO:=λ_ H Q=>Q none H
noncomputable def Dm(t:TE):TO:=λa H Q=>t a H λx b=>∃i,x=.int i/\Q (some i) b
section
variable{X:Cx}{e:Expr}{te:TE}{lo hi:Option Expr}{tl th:TO}{pos p2:Pos}
theorem xl:PO X none qf:=by
 intro pins s a H Q I h;rw[evalPart_none];exact wpAny_pure ⟨none,H,I,.none,h⟩
theorem xm(h:PE X e te):PO X (some e) (Dm te):=by
 intro pins s a H Q I b;rw[evalPart_some];refine cf (h pins s a H _ I b) λu c ⟨x,H1,I1,r1,q1⟩=>?_
 obtain⟨i,rfl,q⟩:=q1;obtain⟨t,rfl⟩:=r1;exact⟨some i,H1,I1,.int i t,q⟩
def AZ(X:Cx)(r:V->Option Int->Option Int->Hp->VK->Prop):Prop:=
 ∀(pins:List (Addr×Obj)) (s:Shared) (a:St) (H:Hp) (x:V) (v b c:Value) (d e:Option Int) (f:Addr) (Q:VK),Inv X pins a H s->RelV x v->s.heap.IsSliceOf f b c .none->IsPart b d->IsPart c e->r x d e H Q ->
  ∃T id,typeLookup (.type T) "__getitem__"=pure (some (.builtin id))/\s.TypeIs v T/\wpAny (model X.prog X.w) X.A (getItem v (.ref f)) (EP X pins a Q) X.xe s
theorem AZ.or{r c:V->Option Int->Option Int->Hp->VK->Prop}(h:AZ X r)(h':AZ X c):AZ X (λx a b H Q=>r x a b H Q\/c x a b H Q):=by
 intro pins s d H x v e f a b g Q I i j k l q;rcases q with q|q
 .exact h pins s d H x v e f a b g Q I i j k l q
 .exact h' pins s d H x v e f a b g Q I i j k l q
noncomputable def Mi(r:V->Option Int->Option Int->Hp->VK->Prop)(b:TE)(c d:TO):TE:=λa H Q=>b a H λx e=>c a e λl f=>d a f λu g=>r x l u g Q
theorem fx{r:V->Option Int->Option Int->Hp->VK->Prop}(g:AZ X r)(i:PE X e te)(j:PO X lo tl)(k:PO X hi th):PE X (.Subscript e (.Slice lo hi none p2) pos) (Mi r te tl th):=by
 intro pins s a H Q I h;refine Subscript_ (cf (i pins s a H _ I h) λv m ⟨x,H1,I1,n,q1⟩=>?_)
 refine wpAny_Slice (cf (j pins m a H1 _ I1 q1) λc o ⟨l,H2,I2,p,q2⟩=>cf (k pins o a H2 _ I2 q2) λd s3 ⟨u,f,t,y,z⟩=>?_)
 rw[evalPart_none];refine wpAny_pure ?_;have B:Inv X pins a f {s3 with heap:=s3.heap.push {cls:=.type "slice",data:=.fields #[c,d,.none]} }:=t.kept (t':=s3.toks) λb F q=>Heap.get?_push_of_some _ q
 obtain⟨T,id,C,D,E⟩:=g pins {s3 with heap:=s3.heap.push {cls:=.type "slice",data:=.fields #[c,d,.none]} } a f x v c d l u s3.heap.objs.size Q B n (Heap.IsSliceOf.new ..) p y z
 show wpAny (model X.prog X.w) X.A (subscriptTail e (.Slice lo hi none p2) v (.ref s3.heap.objs.size)) (EP X pins a Q) X.xe {s3 with heap:=s3.heap.push {cls:=.type "slice",data:=.fields #[c,d,.none]} }
 exact tail_any (ops:=[.ref s3.heap.objs.size,v]) D C E (by with_unfolding_all rfl)
def rZ(xs:List V)(a b:Option Int):List V:=(xs.drop (HT.fj xs.length 0 a)).take (HT.fj xs.length xs.length b - HT.fj xs.length 0 a)
theorem mO(xs:List V)(a b:Option Int):(rZ xs a b).length<=xs.length:=by
 unfold rZ;rw[List.length_take,List.length_drop];omega
def zQ(K:PySem.W.Frag):R2:=λx y H Q=>∃a b d c,x=.ref a/\y=.ref b/\ig K H a d/\ig K H b c/\d≠[]/\d.length+c.length<=sizeLine /\
 (c=[]->Q (.ref a) H)/\(c≠[]->∀p,H p=none->Q (.ref p) (upd H p (.tup (d++c))))
theorem Vals.kW{xs:List V}{us:List Value}(r:Vals xs us):us=[]↔xs=[]:=by
 cases r with
 |nil=>simp
 |cons _ _=>simp
theorem xn:eW X (binaryOp .Add) (zQ X.K):=by
 intro pins s C H x y v u Q I g i h;obtain⟨a,b,j,k,rfl,rfl,l,m,n,e,p,r⟩:=h;cases g;cases i;obtain⟨t,d,A,_⟩:=I.tuple l;obtain⟨f,c,B,_⟩:=I.tuple m;refine HT.xk A B (λz=>n (d.kW.mp z)) (λz=>⟨.ref a,H,I,rfl,p (c.kW.mp z)⟩) (λz=>?_) (by rw[←d.length,←c.length];exact e)
 refine⟨.ref s.heap.objs.size,_,I.laid (t':=s.toks) (o:=.tup (j++k)) (λb D q=>Heap.get?_push_of_some _ q) (Nat.le_refl _) ?_,rfl,r (λw=>z (c.kW.mpr w)) _ (I.hok.fresh (Nat.le_refl _))⟩
 exact⟨by rw[List.length_append];exact e,_,d.append c,IsTup.new _ _⟩
end
noncomputable def oo(n:Nat)(i:Int):Option Nat:=if 0<=i then (if i<n then some i.toNat else none)else if -(n:Int)<=i then some (i+n).toNat else none
def fW{α:Type}(xs:List α)(i:Int):Option α:=(oo xs.length i).bind λj=>xs[j]?
theorem qh{n:Nat}{i:Int}{j:Nat}(h:oo n i=some j):seqIndex? i n=some j/\j<n /\ -(n:Int)<=i/\i<n:=by
 unfold oo at h
 by_cases b:0<=i
 .rw[if_pos b]at h
  by_cases a:i<n
  .rw[if_pos a]at h
   have e:i.toNat=j:=Option.some.inj h;exact⟨by rw[seqIndex_of b a,e],by omega,by omega,a⟩
  .rw[if_neg a]at h;cases h
 .rw[if_neg b]at h
  by_cases a : -(n:Int)<=i
  .rw[if_pos a]at h
   have e:(i+n).toNat=j:=Option.some.inj h;exact⟨by rw[seqIndex_neg (by omega) a,e],by omega,a,by omega⟩
  .rw[if_neg a]at h;cases h
theorem kX{α:Type}{xs:List α}{i:Int}{v:α}(h:fW xs i=some v):∃j,seqIndex? i xs.length=some j/\xs[j]?=some v/\j<xs.length /\ -(xs.length:Int)<=i/\i<xs.length:=by
 unfold fW at h;cases e:oo xs.length i with
 |none=>rw[e]at h;cases h
 |some j=>
  rw[e]at h;obtain⟨a,b,c,d⟩:=qh e;exact⟨j,a,h,b,c,d⟩
theorem gi{α:Type}{xs:List α}{j:Nat}{v:α}(h:xs[j]?=some v):fW xs (j:Int)=some v:=by
 have a:j<xs.length:=(List.getElem?_eq_some_iff.mp h).1
 have e:oo xs.length (j:Int)=some j:=by
  unfold oo;rw[if_pos (by omega),if_pos (by omega)];simp
 unfold fW;rw[e];exact h
def qj(b:Expr):Prop:=∀o i,subscripted b false o i=operate [o,i] (getItem o i)
def xo(X:Cx)(r:R2):Prop:=
 ∀(b a:Expr) (pins:List (Addr×Obj)) (s:Shared) (c:St) (H:Hp) (x y:V) (v u:Value) (Q:VK),Inv X pins c H s->RelV x v->RelV y u->r x y H Q ->
  subscripted a false v u=operate [v,u] (getItem v u)->wpAny (model X.prog X.w) X.A (subscriptTail b a v u) (EP X pins c Q) X.xe s
def wO(X:Cx)(id:String)(r:V->List V->Hp->VK->Prop):Prop:=
 ∀(pins:List (Addr×Obj)) (s:Shared) (a:St) (H:Hp) (x:V) (b:List V) (v:Value) (c:List Value) (Q:VK),Inv X pins a H s->RelV x v->Vals b c->r x b H Q ->
  wpAny (model X.prog X.w) X.A (call (.builtin id) (v::c)) (EP X pins a Q) X.xe s
section
variable{X:Cx}{a b:Expr}{ta tb:TE}{pos:Pos}
theorem xo.or{r c:R2}(h:xo X r)(h':xo X c):xo X (λx y H Q=>r x y H Q\/c x y H Q):=by
 intro a b pins s d H x y v u Q I e f q g;rcases q with q|q
 .exact h a b pins s d H x y v u Q I e f q g
 .exact h' a b pins s d H x y v u Q I e f q g
theorem t_{r:R2}(c:xo X r)(d:PE X a ta)(e:PE X b tb)(f:qj b):PE X (.Subscript a b pos) (CG r ta tb):=by
 intro pins s g H Q I h;exact Subscript_ (AJ d e I h λv u i x y j k l m q=>c a b pins i g j x y v u Q k l m q (f _ _))
def Dn(K:PySem.W.Frag):R2:=λx y H Q=>∃p a i v,x=.ref p/\y=.int i/\kj K H p a/\fW a i=some v/\Q v H
def Dp(K:PySem.W.Frag):R2:=λx y H Q=>∃p a i v,x=.ref p/\y=.int i/\ig K H p a/\fW a i=some v/\Q v H
def Dq:R2:=λx y H Q=>∃z i c,x=.str z/\y=.int i/\z.length<=sizeLine/\fW z.cps.toList i=some c/\Q (.str ⟨#[c]⟩) H
theorem xp:xo X (Dn X.K):=by
 intro c d pins s l H x y v u Q I A B h m;obtain⟨p,M,i,z,rfl,rfl,C,D,q⟩:=h;cases A;obtain⟨t,rfl⟩:=B;obtain⟨e,r,f,N⟩:=I.list C;obtain⟨j,b,E,O,F,G⟩:=kX D;obtain⟨w,n,g⟩:=r.get E;have J:=r.length;have P:=fw;have a:EP X pins l Q w s:=⟨z,H,I,g,q⟩
 by_cases o:0<=i
 .have k:i.toNat=j:=by
   rw[seqIndex_of o G]at b;exact Option.some.inj b
  exact item_listR f.isList o (by omega) (by rw[k];simpa using n) a m
 .have k:(i+(e.toArray.size:Int)).toNat=j:=by
   rw[seqIndex_neg (by omega) F]at b
   rw[List.size_toArray,←J];exact Option.some.inj b
  exact subscriptTail_builtinR (x:=w) f.isList.typeIs slot_list_getitem.lookup
   (wpAny_getItem_list_neg (Q:=λr L=>r=w/\EP X pins l Q r L) f.isList (by omega) (by rw[List.size_toArray]<;>omega) (by omega) (by rw[k];simpa using n) ⟨rfl,a⟩) m
theorem A9:xo X (Dp X.K):=by
 intro a b pins s e H x y v u Q I g k h l;obtain⟨p,F,i,z,rfl,rfl,m,n,q⟩:=h;cases g;obtain⟨t,rfl⟩:=k;obtain⟨o,r,f,G⟩:=I.tuple m;obtain⟨j,A,B,J,L,M⟩:=kX n;obtain⟨w,C,c⟩:=r.get B;have D:=r.length;have N:=fw;have d:EP X pins e Q w s:=⟨z,H,I,c,q⟩
 exact subscriptTail_builtinR (x:=w) f.typeIs slot_tuple_getitem.lookup
  (getItem_tuple (j:=j) (Q:=λr E=>r=w/\EP X pins e Q r E) f (by omega) (by omega) (by rw[List.size_toArray,←D];exact A) (by simpa using C) ⟨rfl,d⟩) l
theorem A_:xo X Dq:=by
 intro a b pins s w H x y v u Q I e f h g;obtain⟨z,i,c,rfl,rfl,A,k,q⟩:=h;obtain⟨t,rfl⟩:=e;obtain⟨B,rfl⟩:=f;obtain⟨j,d,l,C,m,n⟩:=kX k;have o:z.cps.toList.length=z.length:=by simp[Str.length]
 rw[o]at d m n;have D:=fw
 exact tail_any (typeIs_str s z t) slot_str_getitem.lookup (getItem_str (c:=c) (by
  have p:decide (i < -(2 ^ 63:Int))=false:=decide_eq_false (by omega)
  have r:decide (i≥2 ^ 63)=false:=decide_eq_false (by omega)
  rw[p,r,Bool.or_false]) (by rw[d];simpa using l) ⟨.str ⟨#[c]⟩,H,I.tok _,⟨_,rfl⟩,q⟩) g
def Dr(K:PySem.W.Frag):R2:=λx y H Q=>Dn K x y H Q\/Dp K x y H Q\/Dq x y H Q
theorem oF:xo X (Dr X.K):=xp.or (A9.or A_)
theorem oG(a:List Value)(n j:Nat)(u:Value):Obj.mapSeq (·.setIfInBounds j u) {cls:=.type "list",data:=.seq a.toArray n}={cls:=.type "list",data:=.seq (a.set j u).toArray n}:=by
 simp[Obj.mapSeq]
theorem Inv.lst{pins:List (Addr×Obj)}{b:St}{H:Hp}{s:Shared}{p:Addr}{xs:List V}(I:Inv X pins b H s)(h:H p=some (.lst xs)) :
  ∃(a:List Value) (n:Nat),Vals xs a/\s.heap.get? p=some {cls:=.type "list",data:=.seq a.toArray n}/\xs.length<=sizeLine:=by
 obtain⟨z,a,n,r,e⟩:=I.hok p _ h;exact⟨a,n,r,e,z⟩
theorem Inv.Ba{pins:List (Addr×Obj)}{g:St}{H:Hp}{s:Shared}{p:Addr}{xs c:List V}{a its':List Value}{n d:Nat}{f:Obj->Obj}(I:Inv X pins g H s)(h:H p=some (.lst xs))
  (j:s.heap.get? p=some {cls:=.type "list",data:=.seq a.toArray n}) (i:f {cls:=.type "list",data:=.seq a.toArray n}={cls:=.type "list",data:=.seq its'.toArray d}) (r:Vals c its') (hz:c.length<=sizeLine) (t:Nat) :
  Inv X pins g (upd H p (.lst c)) {s with heap:=s.heap.update p f,toks:=t}:=by
 have e:(s.heap.update p f).get? p=some {cls:=.type "list",data:=.seq its'.toArray d}:=by
  rw[Heap.get?_update_self f j (by rw[i]<;>rfl),i]
 refine I.write (x:=p) (e:=p) (by rw[h];trivial) (.inl rfl) (λb u k q=>(Heap.get?_update_other _ _ (Ne.symm k)).trans q) ⟨_,e⟩ ?_
 exact⟨hz,its',d,r,e⟩
def Ds:V->V->V->Hp->(Hp->Prop)->Prop:=λo i v H Q=>∃p a k j,o=.ref p/\i=.int k/\H p=some (.lst a)/\oo a.length k=some j/\Q (upd H p (.lst (a.set j v)))
theorem set_list:HI X Ds:=by
 intro pins s x H o i v E F u Q I y z A h;obtain⟨p,B,k,j,rfl,rfl,f,C,q⟩:=h;cases y;obtain⟨t,rfl⟩:=z;obtain⟨a,n,r,c,D⟩:=I.lst f;obtain⟨b,G,g,l⟩:=qh C;have d:=r.length;have J:=fw
 have m:Inv X pins x (upd H p (.lst (B.set j v))) {s with heap:=s.heap.update p (Obj.mapSeq (·.setIfInBounds j u))}:=
  I.Ba f c (oG a n j u) (r.set A j) (by rw[List.length_set];exact D) s.toks
 by_cases w:0<=k
 .have e:k.toNat=j:=by
   rw[seqIndex_of w l]at b;exact Option.some.inj b
  exact PySem.W.ki_setAt c w (by omega) (by rw[List.size_toArray,←d];exact l) (by rw[e];exact⟨_,m,q⟩)
 .have e:(k+(a.toArray.size:Int)).toNat=j:=by
   rw[seqIndex_neg (by omega) g]at b
   rw[List.size_toArray,←d];exact Option.some.inj b
  exact PySem.W.ki_setBack c (by omega) (by rw[List.size_toArray,←d];exact g) (by omega) (by rw[e];exact⟨_,m,q⟩)
theorem kY(a b:Option Int)(n:Nat):(sliceBounds a b none n).1=((HT.fj n 0 a:Nat):Int)/\(sliceBounds a b none n).2.1=((HT.fj n n b:Nat):Int)/\(sliceBounds a b none n).2.2=1:=by
 refine⟨?_,?_,rfl⟩
 .cases a with
  |none=>simp[sliceBounds,HT.fj]
  |some i=>
   simp only[sliceBounds,HT.fj,Option.getD_none,show(1:Int)>0 by decide,if_true]
   by_cases h:i<0
   .simp only[h,if_true]<;>omega
   .simp only[h,if_false]<;>omega
 .cases b with
  |none=>simp[sliceBounds,HT.fj]
  |some i=>
   simp only[sliceBounds,HT.fj,Option.getD_none,show(1:Int)>0 by decide,if_true]
   by_cases h:i<0
   .simp only[h,if_true]<;>omega
   .simp only[h,if_false]<;>omega
theorem j9(a:List Value)(b c:Option Int):slicePick a.toArray b c none=((a.drop (HT.fj a.length 0 b)).take (HT.fj a.length a.length c - HT.fj a.length 0 b)).toArray:=by
 obtain⟨d,e,f⟩:=kY b c a.toArray.size;unfold slicePick;rw[d,e,f];simp only[sliceRange_one,pick_run,List.size_toArray]<;>rfl
def Dt(K:PySem.W.Frag):V->Option Int->Option Int->Hp->VK->Prop:=λx c d H Q=>∃a b,x=.ref a/\kj K H a b/\∀p,H p=none->Q (.ref p) (upd H p (.lst (rZ b c d)))
theorem gj:AZ X (Dt X.K):=by
 intro pins s t H x v u w e f y Q I i j k l h;obtain⟨a,c,rfl,m,q⟩:=h;cases i;obtain⟨n,r,g,p⟩:=I.list m;have d:=r.length;refine⟨"list",_,slot_list_getitem.lookup,g.isList.typeIs,?_⟩;refine wpAny_getItem_list_slice g.isList j k l .none (by simp) ?_ (by rw[List.size_toArray]<;>omega)
 rw[j9,←d];refine⟨.ref s.heap.objs.size,_,I.laid (t':=s.toks) (o:=.lst (rZ c e f)) (λb z q=>Heap.get?_push_of_some _ q) (Nat.le_refl _) ?_,rfl,q _ (I.hok.fresh (Nat.le_refl _))⟩
 exact⟨Nat.le_trans (mO c e f) p,_,0,(r.drop (HT.fj c.length 0 e)).take (HT.fj c.length c.length f - HT.fj c.length 0 e),Heap.get?_push_size _ rfl⟩
theorem gk:dV X (.builtin "len") (λxs H Q=>∃p b,xs=[.ref p]/\(kj X.K H p b\/ig X.K H p b)/\Q (.int b.length) H):=by
 intro pins s i H xs j Q I r h;obtain⟨p,b,rfl,hq,q⟩:=h;obtain⟨u,rfl,f⟩:=vals1 r;cases f;have k:=fw;rcases hq with hq|hq
 .obtain⟨c,d,e,g⟩:=I.list hq
  have a:=d.length;exact Calls.call_len_list e.isList (by simp only[List.size_toArray]<;>omega) ⟨.int b.length,H,I.tok _,⟨s.toks+1,by rw[List.size_toArray,a]⟩,q⟩
 .obtain⟨c,d,e,g⟩:=I.tuple hq
  have a:=d.length;exact len_tuple e (by simp only[List.size_toArray]<;>omega) ⟨.int b.length,H,I.tok _,⟨s.toks+1,by rw[List.size_toArray,a]⟩,q⟩
theorem kZ:dV X (.builtin "len") (λxs H Q=>∃z,xs=[.str z]/\z.length<=sizeLine/\Q (.int z.length) H):=by
 intro pins s a H xs b Q I r h;obtain⟨z,rfl,c,q⟩:=h;obtain⟨u,rfl,t,rfl⟩:=vals1 r;have d:=fw;exact len_str (by omega) ⟨.int z.length,H,I.tok _,⟨_,rfl⟩,q⟩
theorem k_:dV X (.type "list") (λxs H Q=>∃p d,xs=[.ref p]/\(kj X.K H p d\/ig X.K H p d)/\∀l,H l=none->Q (.ref l) (upd H l (.lst d))):=by
 intro pins s B H xs D Q I r h;obtain⟨p,d,rfl,hq,q⟩:=h;obtain⟨u,rfl,C⟩:=vals1 r;cases C
 have i:∀(a:List Value),Vals d a->d.length<=sizeLine->∀(c:Heap) (f:Nat),(∀b A,s.heap.get? b=some A->c.get? b=some A) ->
   c.get? s.heap.objs.size=some {cls:=.type "list",dict:=none,data:=.seq a.toArray f,slots := #[]}->EP X pins B Q (.ref s.heap.objs.size) {s with heap:=c}:=λa g j c f k e=>
  ⟨.ref s.heap.objs.size,_,I.laid (t':=s.toks) k (Nat.le_refl _) (show b_ X.prog X.w _ c _ (.lst d)from⟨j,a,f,g,e⟩),rfl,q _ (I.hok.fresh (Nat.le_refl _))⟩
 rcases hq with hq|hq
 .obtain⟨a,g,t,j⟩:=I.list hq
  have m:=g.length;obtain⟨o,x,y,n,z⟩:=t.isList;exact call_list_seq p (.inl rfl) x y z (λc f k e=>i a g j c f k e) (by simp only[List.size_toArray]<;>omega)
 .obtain⟨a,g,t,j⟩:=I.tuple hq
  have m:=g.length;obtain⟨o,x,y,n,z⟩:=t;exact call_list_seq p (.inr rfl) x y z (λc f k e=>i a g j c f k e) (by simp only[List.size_toArray]<;>omega)
theorem j_:dV X (.type "tuple") (λxs H Q=>∃p c,xs=[.ref p]/\((kj X.K H p c/\∀l,H l=none->Q (.ref l) (upd H l (.tup c)))\/(ig X.K H p c/\Q (.ref p) H))):=by
 intro pins s j H xs z Q I r h;obtain⟨p,c,rfl,h⟩:=h;obtain⟨u,rfl,t⟩:=vals1 r;cases t;rcases h with ⟨f,q⟩|⟨f,q⟩
 .obtain⟨a,g,i,k⟩:=I.list f
  have m:=g.length;refine call_tuple_list i.isList (λd x=>?_) (by simp only[List.size_toArray]<;>omega)
  have n:Inv X pins j H {s with heap:=d}:=I.kept (t':=s.toks) x
  have y:Inv X pins j (upd H d.objs.size (.tup c)) {s with heap:=d.push {cls:=.type "tuple",data:=.seq a.toArray} }:=
   n.laid (t':=s.toks) (λb o e=>Heap.get?_push_of_some _ e) (Nat.le_refl _) (show b_ X.prog X.w _ _ _ (.tup c)from⟨k,a,g,IsTup.new _ _⟩)
  exact⟨.ref d.objs.size,_,y,rfl,q _ (n.hok.fresh (Nat.le_refl _))⟩
 .obtain⟨a,g,i,k⟩:=I.tuple f
  exact call_tuple_same i ⟨.ref p,H,I,rfl,q⟩
def CH(K:PySem.W.Frag)(T:String)(x:V)(H:Hp):Prop:=match x with
 |.str _=>T="str"
 |.int _=>T="int"
 |.ref p=>(T="list"/\∃b,kj K H p b)\/(T="tuple"/\∃o,K.lookup p=some o/\o.cls=.type "tuple"/\o.dict=none) \/
   (T="dict"/\((∃a,H p=some (.dK a))\/∃a,H p=some (.dT a)))\/(T="set"/\∃S n,H p=some (.set S n))
 |_=>False
theorem ua{pins:List (Addr×Obj)}{l:St}{H:Hp}{s:Shared}{T:String}{x:V}{v:Value}(I:Inv X pins l H s)(r:RelV x v)(f:CH X.K T x H) :
  s.TypeIs v T/\∀a,v=.ref a->∃ob,s.heap.get? a=some ob/\ob.dict=none:=by
 cases x with
 |str z=>
  obtain⟨t,rfl⟩:=r;cases (show T="str" from f)
  exact⟨typeIs_str s z t,λ_ e=>nomatch e⟩
 |int i=>
  obtain⟨t,rfl⟩:=r;cases (show T="int" from f)
  exact⟨typeIs_int s i t,λ_ e=>nomatch e⟩
 |ref p=>
  cases r;rcases f with ⟨rfl,w,m⟩|⟨rfl,o,b,q,g⟩|⟨rfl,b⟩|⟨rfl,S,n,b⟩
  .obtain⟨u,_,k,_⟩:=I.list m
   refine⟨k.isList.typeIs,λa e=>?_⟩
   cases e;obtain⟨o,n,e,c,g,_⟩:=k;exact⟨o,e,g⟩
  .refine⟨⟨o,I.kh p o b,q⟩,λa e=>?_⟩
   cases e;exact⟨o,I.kh _ o b,g⟩
  .have z:∃o,s.heap.get? p=some o/\o.ExactDict:=by
    rcases b with ⟨h,b⟩|⟨h,b⟩
    .obtain⟨_,_,_,_,o,_,_,e,d,_⟩:=I.hok p _ b
     exact⟨o,e,d⟩
    .obtain⟨_,_,_,_,o,_,_,e,d,_⟩:=I.hok p _ b
     exact⟨o,e,d⟩
   obtain⟨o,e,d⟩:=z;refine⟨⟨o,e,d.1⟩,λa j=>?_⟩
   cases j;exact⟨o,e,d.2.1⟩
  .obtain⟨o,_,_,_,e,d,_⟩:=I.hok p _ b
   refine⟨⟨o,e,d.1⟩,λa j=>?_⟩
   cases j;exact⟨o,e,d.2.1⟩
 |_=>exact False.elim f
noncomputable def Lf(K:PySem.W.Frag)(T:String)(r:V->List V->Hp->VK->Prop)(c:TE)(t:TA):TE:=λa H Q=>c a H λx b=>CH K T x b/\t a b λd e=>r x d e Q
variable{o e:Expr}{es:List Expr}{to:TE}{t:TA}{name:Str}{apos cpos:Pos}{T id:String}{r:V->List V->Hp->VK->Prop}
theorem Du(j:PlainAttrs T)(slot:Slot T name id)(f:typeOf (.builtin id)=pure (.type "method_descriptor"))(k:wO X id r)(l:PE X o to)(m:PA X (e::es) t)
  (b:attributeBase o name X.env (eval o X.env)=eval o X.env:=by rfl)
  (d:((backTo cpos (starEach (e::es) X.env)).all (λx=>!x.1)&&(backToKw cpos (keywordEach [] X.env)).all (λx=>x.1.isSome)
   && decide ((e::es).length+([]:List Keyword).length+(if ([]:List Keyword).isEmpty then 0 else 1)<30))=true:=by rfl)
  (c:(apos.endLine==cpos.line)=true:=by rfl) (n:starEach (e::es) X.env=(false,eval e X.env)::starEach es X.env:=by rfl) (a:(backTo cpos (starEach es X.env)).any (·.1)=false:=by rfl) :
  PE X (.Call (.Attribute o name apos) (e::es) [] cpos) (Lf X.K T r to t):=by
 intro pins s g H Q I h;refine wpAny_Call_method_late b d c rfl (cf (l pins s g H _ I h) λv p ⟨x,H1,I1,r1,ty,q1⟩=>?_)
 obtain⟨q,u⟩:=ua I1 r1 ty;refine⟨T,id,j,slot,f,q,u,?_⟩;have i:=m cpos pins p g H1 _ I1 q1;rw[n]at i ⊢;refine Calls.callWith_builtin (by show(false||(backTo cpos (starEach es X.env)).any (·.1))=false;rw[a]<;>rfl) (Calls.evalArgs_plain ?_)
 exact cf i λw y ⟨z,A,B,C,D⟩=>k pins y g A x z v w Q B r1 C D
end
def Mj(X:Cx)(id:String)(r:V->List V->Hp->VK->Prop):Prop:=
 ∀(pins:List (Addr×Obj)) (s:Shared) (a:St) (H:Hp) (x:V) (b:List V) (v:Value) (c:List Value) (Q:VK),Inv X pins a H s->RelV x v->Vals b c->r x b H Q ->
  wpAny (model X.prog X.w) X.A (call (.builtin id) (v::c)) (EP X pins a Q) X.xe s
theorem Vals.one:∀{x:V}{us:List Value},Vals [x] us->∃u,us=[u]/\RelV x u
 |_,_,.cons r .nil=>⟨_,rfl,r⟩
theorem Vals.two:∀{x y:V}{us:List Value},Vals [x,y] us->∃u v,us=[u,v]/\RelV x u/\RelV y v
 |_,_,_,.cons r (.cons q .nil)=>⟨_,_,rfl,r,q⟩
theorem Vals.rep{xs:List V}{us:List Value}(h:Vals xs us):∀k:Nat,Vals (List.replicate k xs).flatten (List.replicate k us).flatten
 |0=>.nil
 |k+1=>by
  rw[List.replicate_succ,List.replicate_succ,List.flatten_cons,List.flatten_cons];exact Vals.append h (Vals.rep h k)
theorem foldl_rep(a:List Value):∀(k:Nat) (acc:List Value),
  List.foldl (λx1 b=>x1++b) acc.toArray (List.replicate k a.toArray)=(acc++(List.replicate k a).flatten).toArray
 |0,acc=>by simp
 |k+1,acc=>by
  have e:acc.toArray++a.toArray=(acc++a).toArray:=by simp
  have c:(acc++a)++(List.replicate k a).flatten=acc++(List.replicate (k+1) a).flatten:=by
   rw[List.replicate_succ,List.flatten_cons,List.append_assoc]
  rw[←c,←foldl_rep a k (acc++a),←e,List.replicate_succ,List.foldl_cons]
section
variable{X:Cx}{pins:List (Addr×Obj)}{σ:St}{H:Hp}{s:Shared}{l b:Addr}{xs ys zs:List V}
theorem Inv.HS{a its':List Value}{n:Nat}{f:Array Value->Array Value}{t':Nat}(I:Inv X pins σ H s)(b:H l=some (.lst xs))
  (e:s.heap.get? l=some {cls:=.type "list",data:=.seq a.toArray n}) (c:f a.toArray=its'.toArray) (d:Vals ys its') (hz:ys.length<=sizeLine) :
  Inv X pins σ (upd H l (.lst ys)) {s with heap:=s.heap.update l (Obj.mapSeq f),toks:=t' }:=by
 have q:=PySem.IsL.update e f;rw[c]at q;refine I.write (x:=l) (e:=l) (by rw[b];exact trivial) (.inl rfl) (λi u g h=>(Heap.get?_update_other s.heap (Obj.mapSeq f) (Ne.symm g)).trans h) ⟨_,q⟩ ?_
 exact⟨hz,its',_,d,q⟩
theorem Inv.Dv{a:List Value}{t':Nat}(I:Inv X pins σ H s)(b:Vals ys a)(hz:ys.length<=sizeLine) :
  Inv X pins σ (upd H s.heap.objs.size (.lst ys)) {s with heap:=s.heap.push {cls:=.type "list",data:=.seq a.toArray},toks:=t' }:=
 I.laid (λ_ _ q=>Heap.get?_push_of_some _ q) (Nat.le_refl _) ⟨hz,a,0,b,Heap.get?_push_size _ rfl⟩
theorem Inv.fresh(I:Inv X pins σ H s):H s.heap.objs.size=none:=I.hok.fresh (Nat.le_refl _)
theorem Inv.Dw(I:Inv X pins σ H s)(b:H l=some (.lst xs)):xs.length<=sizeLine/\∃(a:List Value) (n:Nat),Vals xs a/\xs.length=a.length/\s.heap.get? l=some {cls:=.type "list",data:=.seq a.toArray n}:=by
 obtain⟨z,a,n,r,e⟩:=I.hok l _ b;exact⟨z,a,n,r,r.length,e⟩
theorem ub{n:Nat}(h:n<=sizeLine):Builtin.List.listTooLong n=false:=by
 unfold Builtin.List.listTooLong;exact decide_eq_false (by omega)
end
section
variable{X:Cx}
def qk:V->List V->Hp->VK->Prop:=λx b H Q=>∃l a y,x=.ref l/\b=[y]/\H l=some (.lst a)/\a.length<sizeLine/\Q .non (upd H l (.lst (a++[y])))
theorem kq:Mj X "list.append" qk:=by
 intro pins s g H x i v j Q I c d h;obtain⟨l,k,y,rfl,rfl,b,m,q⟩:=h;cases c;obtain⟨u,rfl,f⟩:=d.one;obtain⟨z,a,n,r,o,e⟩:=I.Dw b;refine call_meets F.slot_list_append ⟨_,e,rfl⟩ F.entry_list_append (F.args_list_append_2 _ _) (PySem.list_append l a.toArray n u (by rw[List.size_toArray];omega)) ⟨e,?_⟩
 refine⟨.non,_,I.HS (its':=a++[u]) b e (by simp) (r.append (.cons f .nil)) ?_,rfl,q⟩
 rw[List.length_append,List.length_singleton];omega
def Dx:R2:=λx y H Q=>∃l k a,x=.ref l/\y=.int k/\H l=some (.lst a) /\ -(2 ^ 63)<=k/\k<2 ^ 63/\a.length*k.toNat<=sizeLine /\
 ∀p,H p=none->Q (.ref p) (upd H p (.lst (List.replicate k.toNat a).flatten))
theorem len_rep{α:Type}(xs:List α)(k:Nat):(List.replicate k xs).flatten.length=k*xs.length:=by
 induction k with
 |zero=>simp
 |succ k a=>rw[List.replicate_succ,List.flatten_cons,List.length_append,a,Nat.succ_mul,Nat.add_comm]
theorem Bb:eW X (binaryOp .Mult) Dx:=by
 intro pins s K H x y v u Q I w A h;obtain⟨l,k,L,rfl,rfl,B,C,D,p,q⟩:=h;cases w;obtain⟨t,rfl⟩:=A;obtain⟨z,b,n,r,E,e⟩:=I.Dw B;have d:b.toArray.size*k.toNat<=sizeLine:=by rw[List.size_toArray,←E];exact p
 have f:¬ b.toArray.size*k.toNat>(2 ^ 63 - 1) / 8:=by
  have:(sizeLine:Nat)<=(2 ^ 63 - 1) / 8:=by decide
  omega
 have g:¬ (!Builtin.List.listFitsIndex k)=true:=by
  rw[fitsIndex_both C D];exact Bool.false_ne_true
 have c:¬ Builtin.List.listTooLong (b.toArray.size*k.toNat)=true:=by
  rw[ub d];exact Bool.false_ne_true
 have i:List.foldl (λj o=>j++o) #[] (List.replicate (if b.toArray.isEmpty=true then 0 else k.toNat) b.toArray)=(List.replicate k.toNat b).flatten.toArray:=by
  have G:∀m:Nat,List.foldl (λj o=>j++o) #[] (List.replicate m b.toArray)=(List.replicate m b).flatten.toArray:=λm=>by
   have:=foldl_rep b m [];rw[List.nil_append]at this;exact this
  rw[G];cases b with
  |nil=>simp
  |cons a M=>rw[if_neg (by simp)]
 refine wpAny_binaryOp_repeat_ref (T:="list") (U:="int") (by decide) ⟨_,e,rfl⟩ (λJ=>typeIs_int J k t) noFill_list_mul F.fills_int_mul F.slot_int_rmul repeat_list F.slot_int_index.lookup
  (call_meets F.slot_int_rmul (typeIs_int s k t) F.entry_int_rmul (F.args_int_rmul_2 _ _) (int___rmul___int_list k t l b.toArray n)
   ⟨e,rfl,⟨_,e,rfl⟩,call_meets F.slot_list_mul ⟨_,e,rfl⟩ F.entry_list_mul (F.args_list_mul_2 _ _) (AutoListH.list___mul___list_int_3 l b.toArray n k t g f c) ⟨e,?_⟩⟩)
 rw[i];exact⟨.ref _,_,I.Dv (t':=s.toks) (r.rep k.toNat) (by rw[len_rep,Nat.mul_comm];exact p),rfl,q _ I.fresh⟩
end
section
variable{prog:Program}{w:World}{A:Around}{E:Value->Shared->Prop}{s:Shared}
end
section
variable{X:Cx}
end
section
variable{κ:Type}[DecidableEq κ]
noncomputable def iU(kvs:List (κ×V))(k:κ):Option V:=(kvs.find? λa=>decide (a.1=k)).map (·.2)
noncomputable def putK(kvs:List (κ×V))(k:κ)(v:V):List (κ×V):=
 if (kvs.any λa=>decide (a.1=k))=true then kvs.map (λa=>if a.1=k then (a.1,v)else a)else kvs++[(k,v)]
theorem mP{p:κ×V}{r:List (κ×V)}{k:κ}(e:p.1=k):iU (p::r) k=some p.2:=by simp[iU,List.find?_cons,e]
theorem mQ{p:κ×V}{r:List (κ×V)}{k:κ}(e:¬ p.1=k):iU (p::r) k=iU r k:=by simp[iU,List.find?_cons,e]
theorem hV(kvs:List (κ×V))(k:κ)(v:V):(putK kvs k v).length<=kvs.length+1:=by
 unfold putK;split
 .rw[List.length_map];omega
 .rw[List.length_append,List.length_cons,List.length_nil];omega
theorem rK.getD{o:Option V}{u:Option Value}{d:V}{d':Value}(r:rK o u)(a:RelV d d'):RelV (o.getD d) (u.getD d'):=by
 cases o with
 |none=>cases u with
  |none=>exact a
  |some _=>exact(show False from r).elim
 |some _=>cases u with
  |none=>exact(show False from r).elim
  |some _=>exact r
theorem KV.val{kvs:List (κ×V)}{d:List (κ×Value)}(r:KV kvs d)(k:κ):rK (iU kvs k) (valueAt d k):=by
 unfold KV at r
 induction r with
 |nil=>exact True.intro
 |@cons p q j a h t g=>
  obtain⟨f,i⟩:=h
  by_cases e:p.1=k
  .have c:q.1=k:=f.symm.trans e
   have b:valueAt (q::a) k=some q.2:=by simp[valueAt,List.find?_cons,c]
   rw[mP e,b];exact i
  .have c:¬ q.1=k:=λz=>e (f.trans z)
   have b:valueAt (q::a) k=valueAt a k:=by simp[valueAt,List.find?_cons,c]
   rw[mQ e,b];exact g
theorem KV.any{kvs:List (κ×V)}{b:List (κ×Value)}(r:KV kvs b)(k:κ):(kvs.any λa=>decide (a.1=k))=b.any λa=>decide (a.1=k):=by
 unfold KV at r
 induction r with
 |nil=>rfl
 |cons h t c=>rw[List.any_cons,List.any_cons,c,h.1]
theorem KV.repl{kvs:List (κ×V)}{c:List (κ×Value)}(r:KV kvs c)(k:κ){y:V}{u:Value}(d:RelV y u) :
  KV (kvs.map λa=>if a.1=k then (a.1,y)else a) (c.map λa=>if a.1=k then (a.1,u)else a):=by
 unfold KV at r ⊢
 induction r with
 |nil=>exact .nil
 |@cons p q i j h t f=>
  rw[List.map_cons,List.map_cons];refine .cons ?_ f;obtain⟨b,g⟩:=h
  by_cases e:p.1=k
  .rw[if_pos e,if_pos (b.symm.trans e)];exact⟨b,d⟩
  .rw[if_neg e,if_neg (λz=>e (b.trans z))];exact⟨b,g⟩
theorem KV.put{kvs:List (κ×V)}{a:List (κ×Value)}(r:KV kvs a)(k:κ){y:V}{u:Value}(b:RelV y u):KV (putK kvs k y) (stored a k u):=by
 unfold putK stored;rw[r.any k]
 by_cases e:(a.any λc=>decide (c.1=k))=true
 .rw[if_pos e,if_pos e];exact r.repl k b
 .rw[if_neg e,if_neg e];exact Paired.snoc r ⟨rfl,b⟩
theorem KV.length{kvs:List (κ×V)}{a:List (κ×Value)}(r:KV kvs a):kvs.length=a.length:=Paired.length r
end
theorem uc{P:Program}{w:World}{k:Key}{u:Value}(r:RelV (kV k) u):(cq P w).is k u=true:=by
 cases k with
 |inl i=>obtain⟨t,e⟩:=(show ∃t,u=Value.int i t from r);subst e;exact mD P w i t
 |inr x=>obtain⟨t,e⟩:=(show ∃t,u=Value.str x t from r);subst e;exact mE P w x t
abbrev KT(H:Hp):List (List Key×V)->List (List Key×Addr×Value)->Prop:=Paired λp q=>p.1=q.1/\H q.2.1=some (.tup (p.1.map kV))/\RelV p.2 q.2.2
section
variable{P:Program}{w:World}{H:Hp}{h:Heap}{a:Addr}
theorem Dy{u:HO}(ok:gR P w H h)(e:Rd H a u):b_ P w H h a u:=e.ok ok
theorem ud{kvs:List (Key×V)}(ok:gR P w H h)(e:Rd H a (.dK kvs)):kvs.length<=sizeLine/\(a==sysModules)=false/\∃b,KV kvs b/\h.DictOf (cq P w) a b:=
 show b_ P w H h a (.dK kvs)from Dy ok e
theorem zR{kvs:List (Key×V)}(ok:gR P w H h)(e:H a=some (.dK kvs)):kvs.length<=sizeLine/\(a==sysModules)=false/\∃b,KV kvs b/\h.DictOf (cq P w) a b:=ud ok (.inl e)
end
def xq(H:Hp)(a:Addr)(y:V)(r:Option V):Prop:=
 (∃b k,Rd H a (.dK b)/\y=kV k/\r=iU b k)\/False
def ue(H:Hp)(a:Addr)(y v:V)(c:Hp):Prop:=
 (∃b k,H a=some (.dK b)/\y=kV k/\b.length<sizeLine/\c=upd H a (.dK (putK b k v)))\/False
theorem xq.k{H:Hp}{a:Addr}{kvs:List (Key×V)}{k:Key}(e:H a=some (.dK kvs)):xq H a (kV k) (iU kvs k):=.inl ⟨kvs,k,.inl e,rfl,rfl⟩
theorem ue.k{H:Hp}{a:Addr}{kvs:List (Key×V)}{k:Key}{v:V}(e:H a=some (.dK kvs))(b:kvs.length<sizeLine):ue H a (kV k) v (upd H a (.dK (putK kvs k v))):=.inl ⟨kvs,k,e,rfl,b,rfl⟩
section
variable{X:Cx}{pins:List (Addr×Obj)}{σ:St}{H:Hp}{s:Shared}{a:Addr}{y v:V}{u r:Value}{o:Option V}{A:Around}{E:Value->Shared->Prop}
theorem Inv.big(I:Inv X pins σ H s):sysModules<s.heap.objs.size:=by
 have h:mainGlobals<s.heap.objs.size:=(I.mod.glob.keeps I.bk).lt;exact Nat.lt_trans (by decide) h
theorem lb{h':Heap}{t':Nat}{ob:HO}(I:Inv X pins σ H s)(d:CT (H a))(f:Heap.SameBut a s.heap h')(g:∃q,h'.get? a=some q)(c:b_ X.prog X.w (upd H a ob) h' a ob) :
  Inv X pins σ (upd H a ob) {s with heap:=h',toks:=t' }:=
 I.write (x:=a) (e:=a) d (.inl rfl) (λb q h z=>(f.2 b h).trans z) g c
theorem uf{P:Program}{w:World}{d:Hp}{h':Heap}{kvs:List (Key×V)}{b:List (Key×Value)}(z:kvs.length<=sizeLine)(e:(a==sysModules)=false)(c:KV kvs b)(f:h'.DictOf (cq P w) a b) :
  b_ P w d h' a (.dK kvs):=⟨z,e,b,c,f⟩
theorem r_{f:Hp}{Q:Unit->Shared->Prop}(J:A.units+1<cLine)(I:Inv X pins σ H s)(g:ue H a y v f)(j:RelV y u)(m:RelV v r)(h:∀i,Inv X pins σ f i->Q () i) :
  wpAny (model X.prog X.w) A (setItem (.ref a) u r) Q E s:=by
 rcases g with ⟨b,k,e,n,l,o⟩|bad
 .subst n o
  obtain⟨z,p,t,c,x⟩:=zR I.hok e;have B:t.length<=sizeLine:=by rw[←c.length];exact z
  have C:(putK b k v).length<=sizeLine:=by have:=hV b k v;omega
  refine wpAny_setItem_pairs (hsz:=B) (uc j) x λD d F=>h _ ?_
  have G:∃q,D.get? a=some q:=let ⟨q,_,_,hq,_⟩:=d;⟨q,hq⟩
  exact lb I (by rw[e];exact True.intro) F G (uf C p (c.put k m) d)
 .exact bad.elim
end
section
variable{X:Cx}{pins:List (Addr×Obj)}{σ:St}{H:Hp}{s:Shared}{a:Addr}{kvs:List (Key×V)}{k:Key}{u:Value}{A:Around}{E:Value->Shared->Prop}
end
section
variable{X:Cx}{o i e value:Expr}{pos pos' tpos:Pos}{td ty tv:TE}
end
theorem ug{P:Program}{w:World}{H:Hp}(h:Heap)(a:sysModules<h.objs.size):b_ P w H (h.push {cls:=.type "dict",data:=.dict #[]}) h.objs.size (.dK []):=
 ⟨Nat.zero_le _,beq_eq_false_iff_ne.mpr (Ne.symm (Nat.ne_of_lt a)),[],.nil,Heap.DictOf.new h⟩
section
variable{X:Cx}{pos:Pos}
end
def oH:List (TE×TE)->St->Hp->(List (V×V)->Hp->Prop)->Prop
 |[],_,H,Q=>Q [] H
 | (tk,tv)::r,σ,H,Q=>tk σ H λx a=>tv σ a λy b=>oH r σ b λps c=>Q ((x,y)::ps) c
abbrev VV:List (V×V)->List (Value×Value)->Prop:=Paired λp q=>RelV p.1 q.1/\RelV p.2 q.2
def F9(X:Cx)(pos:Pos)(keys:List (Option Expr))(a:List Expr)(b:List (TE×TE)):Prop:=
 ∀(pins:List (Addr×Obj)) (s:Shared) (c:St) (H:Hp) (Q:List (V×V)->Hp->Prop),Inv X pins c H s->oH b c H Q ->
  wpAny (model X.prog X.w) X.A (evalPairs (pairTrees keys a X.env pos)) (λf g=>∃d e,Inv X pins c e g/\VV d f/\Q d e) X.xe s
theorem xr{X:Cx}{pos:Pos}:F9 X pos [] [] []:=λpins s a H Q I h=>pairTrees_nil_walk ⟨[],H,I,.nil,h⟩
theorem iV{X:Cx}{pos:Pos}{k v:Expr}{c:List (Option Expr)}{d:List Expr}{e f:TE}{a:List (TE×TE)}(g:PE X k e)(i:PE X v f)(j:F9 X pos c d a) :
  F9 X pos (some k::c) (v::d) ((e,f)::a):=λpins s b H Q I h=>
 pairTrees_cons_walk (cf (g pins s b H _ I h) λu l ⟨x,H1,I1,rx,q1⟩=>cf (i pins l b H1 _ I1 q1) λo m ⟨y,H2,I2,ry,q2⟩=>
  cf (j pins m b H2 _ I2 q2) λp s3 ⟨n,H3,I3,rel,q3⟩=>⟨(x,y)::n,H3,I3,.cons ⟨rx,ry⟩ rel,q3⟩)
def iW(kvs more:List (Key×V)):List (Key×V):=more.foldl (λa b=>putK a b.1 b.2) kvs
theorem KV.merge:∀{more:List (Key×V)}{b:List (Key×Value)}{kvs:List (Key×V)}{a:List (Key×Value)},KV more b->KV kvs a->KV (iW kvs more) (merged a b):=by
 intro more b kvs a r;unfold KV at r
 induction r generalizing kvs a with
 |nil=>intro q;exact q
 |@cons p q f g h t c=>
  intro d
  have e:KV (putK kvs p.1 p.2) (stored a q.1 q.2):=by
   have:=d.put p.1 h.2;rw[←h.1];exact this
  exact c e
theorem fS:∀(more kvs:List (Key×V)),(iW kvs more).length<=kvs.length+more.length
 |[],kvs=>by show kvs.length<=kvs.length+0;omega
 |p::r,kvs=>by
  have h1:=fS r (putK kvs p.1 p.2);have a:=hV kvs p.1 p.2
  show(iW (putK kvs p.1 p.2) r).length<=_
  rw[List.length_cons];omega
theorem iX{P:Program}{w:World}:∀{kvs:List (Key×V)}{e:List (Value×Value)},VV (kvs.map λf=>(kV f.1,f.2)) e->∃d,Carries (cq P w) e d/\KV kvs d
 |[],_,r=>by rw[List.map_nil]at r;cases r;exact⟨[],True.intro,.nil⟩
 |p::kvs,_,r=>by
  rw[List.map_cons]at r;cases r with
  |@cons a b as bs h t=>
   obtain⟨d,c,q⟩:=iX (P:=P) (w:=w) t;obtain⟨i,g⟩:=b;exact⟨(p.1,g)::d,⟨uc h.1,rfl,c⟩,.cons ⟨rfl,h.2⟩ q⟩
def Dz(b:List (TE×TE)):TE:=λe H Q=>∀p,H p=none->oH b e (upd H p (.dK [])) λf c=>c p=some (.dK [])/\∃a:List (Key×V),f=a.map (λd=>(kV d.1,d.2))/\a.length<=15/\Q (.ref p) (upd c p (.dK (iW [] a)))
theorem xu{X:Cx}{pos:Pos}{keys:List (Option Expr)}{b:List Expr}{d:List (TE×TE)}(h:F9 X pos keys b d)(f:keys.all (·.isSome)=true)(j:keys.length=b.length)(k:keys≠[])
  (i:keys.length<=15):PE X (.Dict keys b pos) (Dz d):=by
 intro pins s l H Q I q;have m:=I.hok.fresh (Nat.le_refl s.heap.objs.size);have n:=I.laid (a:=s.heap.objs.size) (o:=.dK []) (h':=s.heap.push {cls:=.type "dict",data:=.dict #[]}) (t':=s.toks) (λ_ _ q=>Heap.get?_push_of_some _ q) (Nat.le_refl _) (ug s.heap I.big)
 refine wpAny_Dict_walk (knd:=cq X.prog X.w) f j k i (cf (h pins _ l _ _ n (q _ m)) λE F ⟨G,H2,I2,rel,e,kvs,ep,lk,q2⟩=>?_)
 subst ep;obtain⟨p,c,r⟩:=iX (P:=X.prog) (w:=X.w) rel;obtain⟨z,t,u,x,y⟩:=zR I2.hok e;cases x;refine⟨p,c,y,λh' g A=>⟨.ref s.heap.objs.size,_,?_,rfl,q2⟩⟩
 have B:(iW [] kvs).length<=sizeLine:=by
  have C:=fS kvs [];rw[List.length_nil]at C;rw[sizeLine_eq];omega
 have D:∃q,h'.get? s.heap.objs.size=some q:=let ⟨q,_,_,hq,_⟩:=g;⟨q,hq⟩
 exact lb I2 (by rw[e];exact True.intro) A D (uf B t (r.merge .nil) g)
section
variable{X:Cx}{pins:List (Addr×Obj)}{σ:St}{H:Hp}{s:Shared}{a:Addr}{y d:V}{u r:Value}{o:Option V}{A:Around}{E:Value->Shared->Prop}
theorem Bc{Q:Value->Shared->Prop}(p:A.units+1<cLine)(I:Inv X pins σ H s)(g:xq H a y o)(i:RelV y u)(h:∀c d,Inv X pins σ H d->RelV (o.getD .non) c->Q c d) :
  wpAny (model X.prog X.w) A (call (.builtin "dict.get") [.ref a,u]) Q E s:=by
 rcases g with ⟨j,k,e,m,l⟩|bad
 .subst m
  obtain⟨z,n,q,b,f⟩:=ud I.hok e;refine call_meetsIn PySem.F.slot_dict_get f.typeIs PySem.F.entry_dict_get (PySem.F.args_dict_get_2 _ _) (meets_dict_get (cq X.prog X.w) a (uc i) n) ⟨_,f.mapOf,h _ _ (I.tok _) ?_⟩;rw[l];exact(b.val k).getD rfl
 .exact bad.elim
end
section
variable{X:Cx}{o e f:Expr}{apos cpos:Pos}{td ty tx:TE}
end
section
variable{X:Cx}{pins:List (Addr×Obj)}{σ:St}{H:Hp}{s:Shared}{a:Addr}{kvs:List (Key×V)}{A:Around}{E:Value->Shared->Prop}
end
section
variable{X:Cx}{pins:List (Addr×Obj)}{σ:St}{H:Hp}{s:Shared}{a:Addr}{y:V}{u:Value}{A:Around}{E:Value->Shared->Prop}
end
end L2
namespace F_
open PySem PySem.W PySem.Calls PyProof.Rows
theorem ij{P:Params}{h:Heap}:∀(c:List Int) (d:List Value),WellAll P h d (c.map WData.int)->IntsAre d c:=by
 intro c
 induction c with
 |nil=>
  intro d w;rw[List.map_nil]at w;cases w;exact .nil
 |cons n c e=>
  intro d w;rw[List.map_cons]at w;cases w with
  |cons a b=>
   cases a;exact .cons _ _ (e _ b)
theorem sd{l:OpenLaw}{n:Nat}(s:l.most=some n){P:Params}{h:Heap}{args:List WData}{c:List Value}
  (e:l.row.toRowW.claim.pre args=true) (k:WellAll P h c args) :
  ∃a o b,c=[Value.ref a]/\args=[WData.list (b.map WData.int)]/\h.get? a=some {cls:=.type "list",data:=.seq o.toArray}/\IntsAre o b/\b.length<=n:=by
 have m:WShape.hasAll [] args [.list .int]=true:=(pre_splitW e).1;have p:l.pre.holds [] {args:=args}=true:=(pre_splitW e).2;obtain⟨d,r,rfl,t,u⟩:=hasAllW_cons m;obtain rfl:=hasAllW_nil u;obtain⟨B,rfl,w⟩:=hasW_list t;obtain⟨b,rfl⟩:=items_int w
 have f:b.length<=n:=by
  unfold OpenLaw.pre at p
  have i:(WTm.not (.lt (.lit (.int (n:Int))) (.len (.arg 0)))).holds [] {args:=[.list (b.map .int)]}=true:=by
   have i:=(holds_andW p).1;rw[s]at i;exact i
  have j:=condW_of i (w_not (w_lt w_lit (w_len_list (w_arg rfl))));rw[List.length_map]at j;refine Nat.le_of_not_lt λq=>?_
  have x:(n:Int)<((b.length:Nat):Int):=by omega
  first
   | (rw[decide_eq_true x]at j;exact absurd j (by decide))
   | (simp at j;omega)
 cases k with
 |cons y z=>
  cases z;cases y with
  |list A g=>exact⟨_,_,b,rfl,rfl,A,ij b _ g,f⟩
theorem se(l:OpenLaw)(args:List WData):l.row.toRowW.claim.post args (.bool true) args=true:=
 postW_of (r:=l.row.toRowW) (X:=(true==true))
  (show WShape.has [] (.bool true) .bool=true by first|rfl|decide|simp[WShape.has,WShape.arms,WShape.armsAll])
  (show(WTm.eq .res (.lit (.bool true))).value [] {args:=args,res:=some (.bool true),after:=args}=some (.bool (true==true))from w_eq_bool (w_res rfl) w_lit) rfl
section
variable{prog:Program}{w:World}{A:Around}{E:Value->Shared->Prop}{s:Shared}{K:Frag}
end
end F_
namespace L2
open PySem PySem.Spec PyProof.Rows
theorem kr:∀{a:List Value}{b:List Int},IntsAre a b->Vals (b.map V.int) a
 |_,_,.nil=>.nil
 |_,_,.cons n t h=>.cons ⟨t,rfl⟩ (kr h)
def Only(H:Hp):Prop:=∀b,H b=none\/∃o a,H b=some (.ee o (.lst a))
theorem uh{P:Program}{w:World}{K:PySem.W.Frag}{y O:Str->Option Value}{CX:rW}{k:Nat}{Q a:Addr}{Z:FuncData}{x:Str}{sp:Sp}{c:Shared}{p:List Value}{A:List Int}
  (KX:K.In c.heap) (B:c.heap.Ns mainGlobals y) (g:c.heap.Ns builtinsNs O) (R:∀x:Str,x≠"__name__"->O x=bootBuiltins x) (C:c.heap.NoLimit) (hg:c.gens = #[])
  (N:c.heap.get? a=some {cls:=.type "list",data:=.seq p.toArray}) (hi:IntsAre p A) (hl:A.length<=sizeLine) (hr:dW k callerA)
  (F:∀base:Heap,K.In base->base.Ns mainGlobals y->cX P w K y base CX k Q Z [x] sp) (t:∀(s:Shared) (u:Value),BindsTo s Z ⟨[u],[]⟩ [(x,u)])
  (S:∀H:Hp,Only H->kj K H a (A.map V.int)->sp [.ref a] H (λv _=>v=.bl true) λ_ _ _=>False)
  (T:∀H e i,CX [] H c (λ_ _ _=>False) e i->False) :
  codeAny (model P w) callerA (.call (.ref Q) ⟨[.ref a],[]⟩) (λr i=>r=.ok (.ret (.bool true))/\OldK c.heap i.heap/\i.os=c.os/\AllBare i.gens) c:=by
 have rv:=kr hi;have D:=hi.length
 have l:∀H:Hp,Only H->kj K H a (A.map V.int)->gR P w H c.heap->(∀b,H b≠none->b=a)->(H a≠none->K.lookup a=none) ->
   codeAny (model P w) callerA (.call (.ref Q) ⟨[.ref a],[]⟩) (λr i=>r=.ok (.ret (.bool true))/\OldK c.heap i.heap/\i.os=c.os/\AllBare i.gens) c:=by
  intro H hO hS E hA hK;have f:∀{b:Addr}{o:Obj},c.heap.get? b=some o->H b=none->(kP c.heap H).get? b=some o:=λe n=>tI e n
  have U:∀{b:Addr}{o:Obj}{G:Array DictEntry}{I:Nat},c.heap.get? b=some o->o.data=.dict G I->H b=none:=λ{b o G I} e d=>by
   cases q:H b with
   |none=>rfl
   |some u=>
    have X:b=a:=hA b (by rw[q];simp)
    subst X;rw[N]at e;cases e
    have d':Data.seq p.toArray _=Data.dict G I:=d;cases d'
  have j:∀{b:Addr}{m:Str->Option Value},c.heap.Ns b m->(kP c.heap H).Ns b m:=λ{b m} ⟨o,G,I,e,d,r⟩=>⟨o,G,I,f e (U e d),d,r⟩
  have J:K.In (kP c.heap H):=λb o e=>f (KX b o e) (by
   cases q:H b with
   |none=>rfl
   |some u=>
    have X:b=a:=hA b (by rw[q];simp)
    subst X;rw[hK (by rw[q];simp)]at e;cases e)
  have hM:Mod K y (kP c.heap H):=⟨J,j B,⟨O,j g,R⟩,let ⟨mc,h1,h2⟩:=C;⟨mc,j h1,h2⟩⟩
  have e0:xj P w K y (kP c.heap H) callerA [] c H:=⟨rfl,hM,λb o e=>wU e,Nat.le_of_eq (rL _ _),trivial,λb g=>absurd (show b∈([]:List Addr)from g) (by simp),E,.of_eq hg⟩
  refine codeAny_mono ((F _ J (j B)).run callerA [] c H ⟨[.ref a],[]⟩ [.ref a] [.ref a] _ _ hr e0 (t c (.ref a)) (.cons rfl .nil) (S H hO hS)) λr i h=>?_
  cases r with
  |error e=>exact(T H e i h).elim
  |ok fl=>
   cases fl with
   |next=>exact False.elim h
   |brk=>exact False.elim h
   |cont=>exact False.elim h
   |ret u=>
    obtain⟨v,H',os,bare,un,L,r',q⟩:=h;have q':v=.bl true:=q;subst q';obtain rfl:u=Value.bool true:=r';refine⟨rfl,OldK.of_keep λb o e=>?_,os,bare⟩
    cases q:H b with
    |none=>exact un.keep b o e q (by intro z;exact absurd (show b∈([]:List Addr)from z) (by simp)) (by simp)
    |some u=>
     rcases hO b with z|⟨ob,xs,z⟩
     .rw[q]at z;cases z
     .have z2:=un.iN b ob _ z
      obtain⟨e1,_⟩:=E b _ z;obtain⟨e2,_⟩:=L b _ z2;rw[e]at e1;cases e1
      exact e2
 cases Y:K.lookup a with
 |some o=>
  have e:=KX a o Y;rw[N]at e;cases e;refine l (λ_=>none) (λ_=>.inl rfl) (.inr ⟨_,p.toArray,_,Y,rfl,rfl,rfl,by rw[List.size_toArray,D];exact hl,by simpa using rv⟩) (λb u z=>by have M:(none:Option HO)=some u:=z;cases M) (λb z=>absurd rfl z) λz=>absurd rfl z
 |none=>
  refine l (λb=>if b=a then some (.ee {cls:=.type "list",data:=.seq p.toArray} (.lst (A.map V.int)))else none) (λb=>?_) (.inl (.inr ⟨{cls:=.type "list",data:=.seq p.toArray},if_pos rfl⟩)) (λb u z=>?_) (λb z=>?_) λ_=>Y
  .by_cases g:b=a
   .exact .inr ⟨_,_,if_pos g⟩
   .exact .inl (if_neg g)
  .by_cases g:b=a
   .have M:=(if_pos g).symm.trans z
    cases M;subst g;exact⟨N,by rw[List.length_map];exact hl,p,_,rv,N⟩
   .have M:=(if_neg g).symm.trans z
    cases M
  .by_cases g:b=a
   .exact g
   .exact absurd (if_neg g) z
noncomputable def aZ(s:Stmt):Arguments:=match s with
 |.FunctionDef _ a _ _ _ _ _ _ _ _=>a
 |_=>{posonlyargs:=[],args:=[],vararg:=none,kwonlyargs:=[],kw_defaults:=[],kwarg:=none,defaults:=[]}
noncomputable def aV(s:Stmt):List Stmt:=match s with
 |.FunctionDef _ _ b _ _ _ _ _ _ _=>b
 |_=>[]
noncomputable def ao(s:Stmt):Scope:=match s with
 |.FunctionDef _ _ _ _ _ _ a _ _ _=>a
 |_=>{kind:=.function,names:=[],isGenerator:=false,isCoroutine:=false}
abbrev iy:rW:=λ_ _ _ _ _ _=>False
abbrev E0:XK:=λ_ _ _=>False
theorem ui{X:Cx}:Passes iy X E0:=λ_ _ _ _ _ _ _ h=>h.elim
structure xv(K:PySem.W.Frag)(x qual:Str)(st:Stmt)(f:Addr)(fd:FuncData):Prop where
 ex:∃(oc:Value) (od:Option Addr) (kV doc pm:Value) (an:Option Addr) (cdv ct:Value) (osl:Array (Option Value)),
  fd=PySem.W.fnOf x qual (aZ st) (aV st) (ao st) .none kV doc pm an cdv ct/\K.lookup f=some ⟨oc,od,.func fd,osl⟩/\PySem.W.codeIn K cdv qual=true
 kp:PySem.W.keepIn K (.ref f)=true
section
variable{P:Program}{w:World}{K:PySem.W.Frag}{mg:Str->Option Value}{base:Heap}
theorem xv.ok{x qual:Str}{st:Stmt}{f:Addr}{i:FuncData}{N ps:List Str}{k:Nat}{sp:Sp}(F:xv K x qual st f i)(S:ix N ps (ao st))(d:∀b H Q E,sp b H Q E->b.length=ps.length)
  (c:∀(a:Value) (A:Around) (outer:List Env) (s:Shared) (H:Hp) (b:List V) (Q:VK) (E:XK),dW k (A.deeper (envOfC qual (ao st) s.heap.objs.size f a))->sp b H Q E ->
   ∃t,gS (mK iy P w K mg base N qual (ao st) f a A outer s H E).wY (aV st) t/\t {nx:=λ_ j=>Q .non j,rt:=Q} (start N b) H):cX P w K mg base iy (k+1) f i ps sp:=by
 obtain⟨oc,p,kV,l,r,u,a,ct,m,rfl,n,e⟩:=F.ex;refine Dl n e S d λA outer s H b Q E o g=>?_
 obtain⟨t,h,q⟩:=c a A outer s H b Q E o g;exact⟨t,h.wY,q⟩
theorem xv.binds{x qual:Str}{st:Stmt}{f:Addr}{e:FuncData}{ps:List Str}(F:xv K x qual st f e)
  (h:∀(kV a c:Value) (d:Option Addr) (b ct:Value) (us:List Value),us.length=ps.length->bindArgs (PySem.W.fnOf x qual (aZ st) (aV st) (ao st) .none kV a c d b ct) ⟨us,[]⟩=pure (ps.zip us)):Binds K e ps []:=by
 obtain⟨oc,j,kV,a,c,d,b,ct,g,rfl,k,i⟩:=F.ex;exact .all (h kV a c d b ct)
theorem bU{x qual:Str}{st:Stmt}{f:Addr}{oc:Value}{h e:Option Addr}{d:Array (Option Value)}{kV b g a ct:Value}(l:K.lookup f=some ⟨oc,h,.func (PySem.W.fnOf x qual (aZ st) (aV st) (ao st) .none kV b g e a ct),d⟩)
  (c:PySem.W.codeIn K a qual=true) (k:PySem.W.keepIn K (.ref f)=true):xv K x qual st f (PySem.W.fnOf x qual (aZ st) (aV st) (ao st) .none kV b g e a ct):=⟨⟨oc,h,kV,b,g,e,a,ct,d,rfl,l,c⟩,k⟩
end
section
variable{X:Cx}
end
theorem oJ{A B:Prop}(h:B):if false=true then A else B:=by
 rw[if_neg Bool.false_ne_true];exact h
theorem oK{A B:Prop}(h:A):if true=true then A else B:=by
 rw[if_pos rfl];exact h
def ka(H a:Hp):Prop:=∀b o,H b=some o->a b=some o
theorem ka.refl(H:Hp):ka H H:=λ_ _ h=>h
section
variable{κ:Type}[DecidableEq κ]
end
end L2
namespace F_
open PySem PySem.W PySem.Calls PyProof.Rows
theorem ku{i:Int}:∀{a:List Int},i∈a->Builtin.Int.intBits i<=WData.weightAll (a.map .int)
 |n::a,h=>by
  rw[List.map_cons,WData.weightAll];rcases List.mem_cons.mp h with rfl|h
  .have:(WData.int i).weight=Builtin.Int.intBits i:=by rw[WData.weight];rfl
   omega
  .have:=ku h
   omega
theorem xw{b:List Int}(h:WData.layableAll [.list (b.map .int)]=true):∀i∈b,Builtin.Int.intBits i<=2 ^ 20:=λi d=>by
 have a:=(PySem.W.layW_cons h).1;unfold WData.layable at a;simp only[Bool.and_eq_true,decide_eq_true_eq]at a;have c:=a.2;rw[WData.weight]at c;exact Nat.le_trans (ku d) c
theorem lg{l:OpenLaw}{n:Nat}{q:Program}{c:List Str}{H:(Str->Option Value)->Heap->Prop}{I:World->Heap->Prop}{d:DefRec}
  (L:l.most=some n) (A:d.params.defaults=[])
  (call:∀(w:World) (e b:Shared) (x B:Str->Option Value) (k:Addr) (o:Obj) (C y g:Value) (a:Addr) (j:List Value) (m:List Int),
   Ground q c [] H w e x B b.heap->I w b.heap ->
   b.heap.get? k=some o->o.data=.func (docDef d.name d.params d.body d.scope C y g)->b.heap.CodeRec y d.name->x d.name=some (.ref k) ->
   b.heap.get? a=some {cls:=.type "list",data:=.seq j.toArray}->IntsAre j m->m.length<=n->(∀i∈m,Builtin.Int.intBits i<=2 ^ 20)->b.gens = #[] ->
   codeAny (model l.prog w) callerA (.call (.ref k) ⟨[.ref a],[]⟩) (λr z=>r=.ok (.ret (.bool true))/\OldK b.heap z.heap/\z.os=b.os/\AllBare z.gens) b) :
  WalkO q c H I l.row.toRowW d [] (λf j=>PySem.call f j):=by
 intro w e b x B G Y k o C y g M kV N O D J E P args K Z p s Q F R;obtain rfl:M=.none:=Dflts.none J A;obtain rfl:kV=.none:=Dflts.noKw J;obtain⟨a,j,m,rfl,rfl,t,h,u⟩:=sd L p F;refine enter_call (codeAny_mono (call w e b x B k o C y g a j m G Y N (fd_plain O) D E t h u (xw s) P) λr z S=>?_)
 obtain⟨rfl,T,U,V⟩:=S;exact⟨.inl ⟨.bool true,.bool true,[],rfl,λ_=>rfl,.bool true,se l _,λ_=>⟨List.Pairwise.nil,λ_ X=>(nomatch X)⟩⟩,T,U,V⟩
end F_
namespace L2
open PySem PySem.Spec PyProof.Rows
theorem uj{l:PySem.W.OpenLaw}{n k:Nat}{q:Program}{j:List Str}{Q:(Str->Option Value)->Heap->Prop}{M:World->Heap->Prop}{d:DefRec}{K:Params->PySem.W.Frag}{CX:World->rW}{sp:World->Sp}{x:Str}
  (R:l.most=some n) (B:n<=sizeLine) (C:d.params.defaults=[]) (S:dW k callerA)
  (U:∀(w:World) (h:Heap),M w h->(K w.params).In h)
  (F:∀(w:World) (r:Str->Option Value) (A:Addr) (h:Heap),(K w.params).In h->h.Ns mainGlobals r->r d.name=some (.ref A) ->
   ∃D:FuncData,(∀(s:Shared) (u:Value),BindsTo s D ⟨[u],[]⟩ [(x,u)]) /\
    ∀base:Heap,(K w.params).In base->base.Ns mainGlobals r->cX l.prog w (K w.params) r base (CX w) k A D [x] (sp w))
  (E:∀(w:World) (H:Hp) (a:Addr) (t:List Int),t.length<=n->(∀i∈t,Builtin.Int.intBits i<=2 ^ 20)->Only H->kj (K w.params) H a (t.map V.int)->sp w [.ref a] H (λv _=>v=.bl true) λ_ _ _=>False)
  (I:∀(w:World) (H:Hp) (s:Shared) (e:Value) (J:Shared),CX w [] H s (λ_ _ _=>False) e J->False) :
  PySem.W.WalkO q j Q M l.row.toRowW d [] (λf N=>PySem.call f N):=by
 refine F_.lg R C λw O y r mb A o pm cd X a N t G Y ho hd Z L z m c p hg=>?_
 have P:=U w _ Y;obtain⟨D,hb,hF⟩:=F w r A _ P G.T.g L;exact uh P G.T.g G.T.b G.T.builtins G.T.nolimit hg z m (Nat.le_trans c B) S hF hb (λH hO hS=>E w H a t c p hO hS) λH e J=>I w H y e J
theorem gU{M:Model}{b:PySem.Ctx}{p:Pos}{t:Sem Fin}{c:List Frame}{s a:Shared}{e:End}(h:Runs M b p t c s e a):s.toks<=a.toks:=by
 induction h<;>(try simp only[Shared.setGen]at *)<;>first|exact Nat.le_refl _|assumption|omega
theorem oM{M:Model}{j:PySem.Ctx}{p:Pos}{g:Nat}{r:Resume}{s i:Shared}{d:GenResult}(h:Wakes M j p g r s d i):s.toks<=i.toks:=by
 unfold Wakes at h;split at h
 .exact h.elim
 .split at h
  .obtain⟨e,f,a,b,c,rfl⟩:=h
   have h:(s.setGen g .running).toks<=f.toks:=gU a;exact h
  .rw[h.2];exact Nat.le_refl _
  .rw[h.2];exact Nat.le_refl _
 .obtain⟨e,f,a,b,c,rfl⟩:=h
  have h:(s.setGen g .running).toks<=f.toks:=gU a;exact h
 .rw[h.2];exact Nat.le_refl _
 .rw[h.2];exact Nat.le_refl _
theorem wp_toks{α:Type}{M:Model}{y:PySem.Ctx}{E:Value->Pos->Shared->Prop}{Q:α->Pos->Shared->Prop}(t:Sem α):∀{p:Pos}{s:Shared},Sem.wp M y t Q E p s->Sem.wp M y t (λa x j=>Q a x j/\s.toks<=j.toks) E p s:=by
 have m:∀{t:Sem α}{p:Pos}{s s1:Shared},s.toks<=s1.toks->Sem.wp M y t (λa x j=>Q a x j/\s1.toks<=j.toks) E p s1->Sem.wp M y t (λa x j=>Q a x j/\s.toks<=j.toks) E p s1:=λh w=>
  Sem.wp_mono M y _ (λ_ _ _ z=>⟨z.1,Nat.le_trans h z.2⟩) (λ_ _ _ z=>z) _ _ w
 induction t with
 |pure a=>intro p s h;exact⟨h,Nat.le_refl _⟩
 |raise e=>intro p s h;exact h
 |unsupported _=>intro p s h;exact h
 |finish _=>intro p s h;exact h
 |rule _ k d=>intro p s h;exact d () h
 | «at» x k d=>intro p s h;exact d () h
 |load a b k d=>intro p s h;obtain⟨o,i,u⟩:=h;exact⟨o,i,d o u⟩
 |update a b f k d=>intro p s h;exact⟨h.1,m (Nat.le_refl _) (d () h.2)⟩
 |loadIfAlive a k d=>intro p s h;exact d _ h
 |point _ k d=>intro p s h;exact d () h
 |register _ _=>intro p s h;exact h
 |alloc o k d=>intro p s h;exact m (Nat.le_refl _) (d _ h)
 |fresh k d=>intro p s h;exact m (s:=s) (s1:={s with toks:=s.toks+1}) (Nat.le_succ _) (d _ h)
 |ask k d=>intro p s h;exact d _ h
 |choose B n k d=>intro p s h;exact⟨h.1,m (Nat.le_refl _) (d _ h.2)⟩
 |os q l k d=>intro p s h;exact m (Nat.le_refl _) (d _ h)
 |call c F g l k d=>intro p s h;obtain⟨r,s1,i,u⟩:=h;exact⟨r,s1,i,m (gU i) (d r u)⟩
 |handled C k d=>intro p s h;exact d _ h
 |genState g k d=>intro p s h;obtain⟨D,i,u⟩:=h;exact⟨D,i,d _ u⟩
 |newGen c k d=>intro p s h;exact m (Nat.le_refl _) (d _ h)
 |resume g r l k d=>intro p s h;obtain⟨A,s1,i,u⟩:=h;exact⟨A,s1,i,m (oM i) (d _ u)⟩
 |yield _ _ _ _=>intro p s h;exact h
 |stack k d=>intro p s h;exact d _ h
 |fork _ _=>intro p s h;exact h
 |thread k d=>intro p s h;exact d _ h
 |await _ _ _ _ _=>intro p s h;exact h
def eY{α:Type}(t:Sem α):Prop:=∀(M:Model) (b:PySem.Ctx) (Q:α->Pos->Shared->Prop) (E:Value->Pos->Shared->Prop) (p:Pos) (s:Shared),Sem.wp M b t Q E p s->Sem.wp M b t (λa d c=>Q a d c/\0<c.toks) E p s
theorem iY{α d:Type}{a:Sem α}{k:α->Sem d}(h:eY a):eY (a >>= k):=λM b Q E p s w=>by
 rw[Sem.wp_bind']at w ⊢;exact Sem.wp_mono M b _ (λx e f z=>Sem.wp_mono M b _ (λy g i c=>⟨c.1,Nat.lt_of_lt_of_le z.2 c.2⟩) (λ_ _ _ z=>z) _ _ (wp_toks _ z.1)) (λ_ _ _ z=>z) _ _ (h M b _ E p s w)
theorem oN{α c:Type}{a:Sem α}{k:α->Sem c}(h:∀x,eY (k x)):eY (a >>= k):=λM b Q E p s w=>by
 rw[Sem.wp_bind']at w ⊢;exact Sem.wp_mono M b _ (λx d e z=>h x M b Q E d e z) (λ_ _ _ z=>z) _ _ w
theorem iZ{α:Type}{k:Tok->Sem α}:eY (.fresh k):=λM b Q E p s w=>by
 rw[Sem.wp_fresh]at w ⊢;exact Sem.wp_mono M b _ (λy c d a=>⟨a.1,Nat.lt_of_lt_of_le (Nat.succ_pos _) a.2⟩) (λ_ _ _ z=>z) _ _ (wp_toks _ w)
theorem sg{α:Type}{a:List Value}{t:Sem α}(h:eY t):eY (holding a t):=λM b Q E p s w=>by
 rw[Sem.wp_holding]at w ⊢;exact h M b Q E p s w
theorem eY.any{α:Type}{M:Model}{A:Around}{t:Sem α}{Q:α->Shared->Prop}{E:Value->Shared->Prop}{s:Shared}(h:eY t)(w:wpAny M A t Q E s):wpAny M A t (λa c=>Q a c/\0<c.toks) E s:=λd p b=>h M d _ _ p s (w d p b)
theorem uk{i:Int}{j:Nat}{pos:Pos}{env:Env}:eY (eval (.Constant (.int i) j pos) env):=iZ
theorem um{x:Str}{j:Nat}{pos:Pos}{env:Env}:eY (eval (.Constant (.str x) j pos) env):=iZ
theorem uo{l:Expr}{i:Int}{j:Nat}{op:CmpOp}{p pos:Pos}{env:Env}{b:Sem Value}(c:behindInMarks op (.Constant (.int i) j p)=false):eY (isTrue (.Compare l [op] [.Constant (.int i) j p] pos) env b):=by
 rw[isTrue_Compare1,markedBehindIn_of_false c];exact oN λa=>iY (sg uk)
theorem sh{op:BoolOp}{x:Expr}{r:List Expr}{pos:Pos}{env:Env}{a:Sem Value}(h:eY (isTrue x env (eval x env))):eY (isTrue (.BoolOp op (x::r) pos) env a):=by
 rw[arm_isTrue_BoolOp,arm_allTrue_cons];exact iY h
theorem xx{c:Expr}{a b:List Stmt}{pos:Pos}{env:Env}(h:eY (isTrue c env (eval c env))):eY (exec (.If c a b pos) env):=by
 rw[exec_If];exact oN λ_=>iY h
theorem mR{α:Type}{M:Model}{A:Around}{t:Sem α}{Q:α->Shared->Prop}{E:Value->Shared->Prop}{s:Shared}(w:wpAny M A t Q E s):wpAny M A t (λa c=>Q a c/\s.toks<=c.toks) E s:=λd p b=>wp_toks t (w d p b)
def uq(X:Cx)(e:Expr)(t:TE):Prop:=
 ∀(pins:List (Addr×Obj)) (s:Shared) (a:St) (H:Hp) (Q:VK),Inv X pins a H s->0<s.toks->t a H Q->wpAny (model X.prog X.w) X.A (eval e X.env) (EP X pins a Q) X.xe s
def Ga(X:Cx)(es:List Expr)(t:TA):Prop:=
 ∀(a:Pos) (pins:List (Addr×Obj)) (s:Shared) (b:St) (H:Hp) (Q:List V->Hp->Prop),Inv X pins b H s->0<s.toks->t b H Q->wpAny (model X.prog X.w) X.A (spliced (backTo a (starEach es X.env))) (AP X pins b Q) X.xe s
def Bd(X:Cx)(st:Stmt)(t:TS):Prop:=
 ∀(pins:List (Addr×Obj)) (s:Shared) (a:St) (H:Hp) (D:Ends),Inv X pins a H s->0<s.toks->t D a H->wpAny (model X.prog X.w) X.A (exec st X.env) (SP X pins D) X.xe s
def i9(X:Cx)(st:List Stmt)(t:TS):Prop:=
 ∀(pins:List (Addr×Obj)) (s:Shared) (a:St) (H:Hp) (D:Ends),Inv X pins a H s->0<s.toks->t D a H->wpAny (model X.prog X.w) X.A (execs st X.env) (SP X pins D) X.xe s
section
variable{X:Cx}{st:Stmt}{rest:List Stmt}{t u:TS}{e:Expr}{es:List Expr}{te:TE}{ta:TA}{pos:Pos}
theorem uq.imp{a:TE}(h:uq X e te)(f:∀b H Q,a b H Q->te b H Q):uq X e a:=λpins s b H Q I p q=>h pins s b H Q I p (f b H Q q)
theorem Bd.imp{t':TS}(h:Bd X st t)(f:∀D a H,t' D a H->t D a H):Bd X st t':=λpins s a H Q I p q=>h pins s a H Q I p (f Q a H q)
theorem i9.imp{t':TS}(h:i9 X rest t)(f:∀D a H,t' D a H->t D a H):i9 X rest t':=λpins s a H Q I p q=>h pins s a H Q I p (f Q a H q)
theorem i9.ex{b:Type}{t':b->TS}(h:∀i,i9 X rest (t' i)):i9 X rest λD a H=>∃i,t' i D a H:=λpins s a H Q I p q=>let ⟨i,q⟩:=q;h i pins s a H Q I p q
theorem si(b:PS X st t)(c:eY (exec st X.env))(d:i9 X rest u):gS X (st::rest) (AD t u):=by
 intro pins s e H D I h;refine wpAny_execs_cons (cf (c.any (b pins s e H {D with nx:=u D} I h)) λf g ⟨q,hk⟩=>?_)
 cases f with
 |next=>
  obtain⟨a,i,j,q⟩:=q;exact d pins g a i D j hk q
 |ret v=>exact q
 |brk=>exact q
 |cont=>exact q
theorem sj(b:Bd X st t)(c:gS X rest u):i9 X (st::rest) (AD t u):=by
 intro pins s d H D I e h;refine wpAny_execs_cons (cf (b pins s d H {D with nx:=u D} I e h) λf g q=>?_)
 cases f with
 |next=>
  obtain⟨a,i,j,q⟩:=q;exact c pins g a i D j q
 |ret v=>exact q
 |brk=>exact q
 |cont=>exact q
theorem xy{i:Nat}{x:Str}{a:Pos}(b:X.N.Nodup)(c:X.N[i]?=some x)(d:Loc X.env.scope x)(f:uq X e te)(g:swapsWith e (some (.Name x a)) pos.line X.env=pure false)(j:X.fn x=true\/X.env.scope.names.lookup x=some .local) :
  Bd X (.Assign [.Name x a] e pos) (AG te (fv i)):=by
 intro pins s k H D I l h;refine wpAny_Assign_Name (cf (f pins s k H _ I l h) λv n ⟨y,H1,I1,r1,q1⟩=>?_) g
 exact iP I1 b c d r1 (λo m=>⟨_,H1,m,q1⟩) j
theorem mS(c:PE X e te)(d:Ga X es ta)(f:starEach (e::es) X.env=(false,eval e X.env)::starEach es X.env):Ga X (e::es) (tX te ta):=by
 intro a pins s b H Q I g h;rw[f]
 show wpAny _ _ (spliced ((false,eval e X.env)::backTo a (starEach es X.env))) _ _ s
 refine Calls.spliced_cons (cf (mR (c pins s b H _ I h)) λu i ⟨⟨x,H1,I1,r1,q1⟩,hk⟩=>?_)
 exact cf (d a pins i b H1 _ I1 (Nat.lt_of_lt_of_le g hk) q1) λk l ⟨j,H2,I2,r2,q2⟩=>⟨x::j,H2,I2,.cons r1 r2,q2⟩
theorem ql(c:uq X e te)(d:starEach [e] X.env=[(false,eval e X.env)]):Ga X [e] (tX te AV):=by
 intro a pins s b H Q I f h;rw[d]
 show wpAny _ _ (spliced ((false,eval e X.env)::backTo a (starEach [] X.env))) _ _ s
 refine Calls.spliced_cons (cf (c pins s b H _ I f h) λu g ⟨x,H1,I1,r1,q1⟩=>?_)
 exact cf (kU a pins g b H1 _ I1 q1) λj k ⟨i,H2,I2,r2,q2⟩=>⟨x::i,H2,I2,.cons r1 r2,q2⟩
variable{T id:String}{name:Str}{r:V->List V->Hp->VK->Prop}{o:Expr}{to:TE}{apos cpos:Pos}
theorem Be(j:PlainAttrs T)(slot:Slot T name id)(f:typeOf (.builtin id)=pure (.type "method_descriptor"))(k:wO X id r)(l:uq X o to)(m:PA X (e::es) ta)
  (b:attributeBase o name X.env (eval o X.env)=eval o X.env)
  (d:((backTo cpos (starEach (e::es) X.env)).all (λx=>!x.1)&&(backToKw cpos (keywordEach [] X.env)).all (λx=>x.1.isSome)
   && decide ((e::es).length+([]:List Keyword).length+(if ([]:List Keyword).isEmpty then 0 else 1)<30))=true)
  (c:(apos.endLine==cpos.line)=true) (n:starEach (e::es) X.env=(false,eval e X.env)::starEach es X.env) (a:(backTo cpos (starEach es X.env)).any (·.1)=false) :
  uq X (.Call (.Attribute o name apos) (e::es) [] cpos) (Lf X.K T r to ta):=by
 intro pins s g H Q I p h;refine wpAny_Call_method_late b d c rfl (cf (l pins s g H _ I p h) λv q ⟨x,H1,I1,r1,ty,q1⟩=>?_)
 obtain⟨t,u⟩:=ua I1 r1 ty;refine⟨T,id,j,slot,f,t,u,?_⟩;have i:=m cpos pins q g H1 _ I1 q1;rw[n]at i ⊢;refine Calls.callWith_builtin (by show(false||(backTo cpos (starEach es X.env)).any (·.1))=false;rw[a]<;>rfl) (Calls.evalArgs_plain ?_)
 exact cf i λw y ⟨z,A,B,C,D⟩=>k pins y g A x z v w Q B r1 C D
theorem ur{y z:Str}{c d:Nat}{f g:Pos}(n:PE X o to)(i:(y==z)=false)(hz:z.length<=8)(a:attributeBase o "replace" X.env (eval o X.env)=eval o X.env)(b:(apos.endLine==cpos.line)=true) :
  uq X (.Call (.Attribute o "replace" apos) [.Constant (.str y) c f,.Constant (.str z) d g] [] cpos) (λj H Q=>to j H λx l=>∃w,x=.str w/\w.length<=4000/\Q (.str (Txt.replace w y z)) l):=by
 intro pins s j H Q I p h;refine wpAny_Call_method_late a rfl b rfl (cf (mR (n pins s j H _ I h)) λv m ⟨⟨x,l,q,r1,w,hw,hl,r⟩,hk⟩=>?_)
 subst hw;obtain⟨t,rfl⟩:=r1;refine⟨"str","str.replace",F.plainAttrs_str,F.slot_str_replace,F.type_str_replace,typeIs_str m w t,(λ_ e=>nomatch e),?_⟩
 refine Calls.callWith_builtin rfl (Calls.evalArgs_plain ?_)
 show wpAny _ _ (spliced [(false,eval (.Constant (.str y) c f) X.env),(false,eval (.Constant (.str z) d g) X.env)]) _ _ _
 refine Calls.spliced_cons (Calls.Constant_str (k:=c) (pos:=f) ?_);refine Calls.spliced_cons (Calls.Constant_str (k:=d) (pos:=g) (Calls.spliced_nil ?_));have u:0<m.toks:=Nat.lt_of_lt_of_le p hk;refine SC.replace (Nat.ne_of_gt u) (Nat.succ_ne_zero _) (Nat.ne_of_lt (Nat.lt_succ_self _)) i ?_ λA k=>⟨.str _,l,q.tok _,⟨A,rfl⟩,r⟩
 have:(w.length+1)*z.length<=4001*8:=Nat.mul_le_mul (by omega) hz
 omega
end
end L2
namespace Mir
open PySem
inductive D where
 |non|bl (b:Bool)|int (i:Int)|str (x:Str)
 |lst (xs:List D)|tup (xs:List D)|dct (ks:List L2.Key) (vs:List D)|ref (n:Nat)
 deriving Inhabited
inductive Out (α:Type) where
 |ok (a:α)|exc (c:Str) (fs:List (Str×D))|bad
noncomputable def Out.bind{α b:Type}:Out α->(α->Out b)->Out b
 |.ok a,f=>f a
 |.exc c fs,_=>.exc c fs
 |.bad,_=>.bad
instance:Monad Out where
 pure:=.ok
 bind:=Out.bind
@[simp] theorem Gb{α b:Type}(a:α)(f:α->Out b):(Out.ok a >>= f)=f a:=rfl
@[simp] theorem DA{α a:Type}(f:α->Out a):((Out.bad:Out α) >>= f)=.bad:=rfl
@[simp] theorem DB{α a:Type}(c fs)(f:α->Out a):((Out.exc c fs:Out α) >>= f)=.exc c fs:=rfl
@[simp] theorem Gd{α:Type}(a:α):(pure a:Out α)=.ok a:=rfl
mutual
noncomputable def dn:D->D->Bool
 |.non,.non=>true
 |.bl a,.bl b=>a==b
 |.bl a,.int j=>(if a then 1 else 0)==j
 |.int i,.bl b=>i==(if b then 1 else 0)
 |.int i,.int j=>i==j
 |.str x,.str y=>x==y
 |.lst xs,.lst ys=>ez xs ys
 |.tup xs,.tup ys=>ez xs ys
 |_,_=>false
noncomputable def ez:List D->List D->Bool
 |[],[]=>true
 |x::xs,y::ys=>dn x y&&ez xs ys
 |_,_=>false
end
noncomputable def aK:Nat->D->Bool
 |_,.non|_,.bl _|_,.int _|_,.str _=>true
 |n+1,.lst xs|n+1,.tup xs=>xs.all (aK n)
 |_,_=>false
noncomputable def small(n:Nat):Bool:=decide (n<=sizeLine)
def gW:D->Option Bool
 |.non=>some false
 |.bl b=>some b
 |.int i=>some (i != 0)
 |.str x=>if small x.length then some (x.length != 0)else none
 |.lst xs=>some (!xs.isEmpty)
 |.tup xs=>some (!xs.isEmpty)
 |_=>none
abbrev Rs:=Bool×D
noncomputable def kb(i:Int):Bool:=decide (i.natAbs<18446744073709551616)
theorem mT{i:Int}(h:kb i=true): -(2 ^ 64)<i/\i<2 ^ 64:=by
 have:=of_decide_eq_true h;omega
def eA(op:Operator)(x y:D):Out Rs:=
 match op,x,y with
 |.Add,.int i,.int j=>.ok (false,.int (i+j))
 |.Sub,.int i,.int j=>.ok (false,.int (i - j))
 |.Mult,.int i,.int j=>if kb i||kb j then .ok (false,.int (i*j))else .bad
 |.FloorDiv,.int i,.int j=>if decide (0<j)&&decide (j<1073741824)then .ok (false,.int (i / j))else .bad
 |.Mod,.int i,.int j=>if decide (0<j)then .ok (false,.int (i%j))else .bad
 |.Pow,.int i,.int j=>if decide (0<=j)&&decide (j<=1000)&&decide (i.natAbs<2 ^ 64)then .ok (false,.int (i ^ j.toNat))else .bad
 |.Add,.str i,.str j=>if small (i.length+j.length)then .ok (false,.str (i++j))else .bad
 |.Add,.lst i,.lst j=>if small (i.length+j.length)then .ok (true,.lst (i++j))else .bad
 |_,_,_=>.bad
noncomputable def c_(x y:Str):Bool := !(Builtin.Str.occurrences y x 0 y.length 1).isEmpty
def inD(x y:D):Out Bool:=
 match x,y with
 |x,.lst a=>if aK 8 x&&a.all (aK 8)then .ok (a.any λy=>dn y x)else .bad
 |x,.tup a=>if aK 8 x&&a.all (aK 8)then .ok (a.any λy=>dn y x)else .bad
 |.str x,.str y=>.ok (c_ x y)
 |_,_=>.bad
noncomputable def isD(x y:D):Out Bool:=
 match x,y with
 |.non,.non=>.ok true
 |_,.non=>.ok false
 |.bl a,.bl b=>.ok (a==b)
 |.non,.bl _=>.ok false
 |.int _,.bl _=>.ok false
 |.str _,.bl _=>.ok false
 |.lst _,.bl _=>.ok false
 |.tup _,.bl _=>.ok false
 |_,_=>.bad
def bY(op:CmpOp)(x y:D):Out Bool:=
 match op,x,y with
 |.Eq,x,y=>if aK 8 x&&aK 8 y then .ok (dn x y)else .bad
 |.NotEq,x,y=>if aK 8 x&&aK 8 y then .ok (!dn x y)else .bad
 |.Lt,.int i,.int j=>.ok (decide (i<j))
 |.LtE,.int i,.int j=>.ok (decide (i<=j))
 |.Gt,.int i,.int j=>.ok (decide (j<i))
 |.GtE,.int i,.int j=>.ok (decide (j<=i))
 |.In,x,y=>inD x y
 |.NotIn,x,y=>do let b ←inD x y;.ok (!b)
 |.Is,x,y=>isD x y
 |.IsNot,x,y=>do let b ←isD x y;.ok (!b)
 |_,_,_=>.bad
noncomputable def aD(c:Nat):Str:=⟨#[c]⟩
def oO(x y:D):Out Rs:=
 match x,y with
 |.lst a,.int i=>match L2.fW a i with|some d=>.ok (false,d)|none=>.bad
 |.tup a,.int i=>match L2.fW a i with|some d=>.ok (false,d)|none=>.bad
 |.str z,.int i=>if small z.length then (match L2.fW z.cps.toList i with|some c=>.ok (false,.str (aD c))|none=>.bad)else .bad
 |_,_=>.bad
def bZ{α:Type}(xs:List α)(a b:Option Int):List α:=(xs.drop (HT.fj xs.length 0 a)).take (HT.fj xs.length xs.length b - HT.fj xs.length 0 a)
def uu(x:D)(a b:Option Int):Out Rs:=
 match x with
 |.lst c=>.ok (true,.lst (bZ c a b))
 |.str z=>if small z.length then .ok (false,.str ⟨(bZ z.cps.toList a b).toArray⟩)else .bad
 |_=>.bad
noncomputable def intsFrom(a:Int):Nat->List D
 |0=>[]
 |n+1=>.int a::intsFrom (a+1) n
noncomputable def mU(i:Int):Bool:=decide (i.natAbs<4611686018427387904)
theorem uv{i:Int}(h:mU i=true): -(2 ^ 62)<=i/\i<2 ^ 62:=by
 have:=of_decide_eq_true h;omega
noncomputable def qm(i:Nat):List D->List D
 |[]=>[]
 |d::ds=>.tup [.int i,d]::qm (i+1) ds
inductive i_ where
 |len|all|any|sorted|list|tuple|int|min|max|bool
 deriving DecidableEq
def ja:List D->Option (List Bool)
 |[]=>some []
 |d::r=>match gW d,ja r with|some b,some bs=>some (b::bs)|_,_=>none
noncomputable def eh:List D->Option (List Str)
 |[]=>some []
 |.str i::r=>(eh r).map (i :: ·)
 |_=>none
inductive Ml where
 |index|join
 deriving DecidableEq
def sk(m:Ml)(x:D)(a:D):Out Rs:=
 match m,x,a with
 |.index,.lst b,.tup [d]=>if aK 8 d&&b.all (aK 8)then (match b.findIdx? λy=>dn y d with|some j=>.ok (false,.int j)|none=>.bad)else .bad
 |.index,.str z,.tup [.str y]=>match Builtin.Str.occurrences z y 0 z.length 1 with|i::_=>.ok (false,.int i)|[]=>.bad
 |.join,.str z,.tup [.lst c]=>match eh c with|some b=>if decide (z.length<=16)&&decide ((b.map (·.length)).sum+b.length<=1048576)then .ok (false,.str (Txt.join z b))else .bad|none=>.bad
 |_,_,_=>.bad
inductive Ty where
 |int|str|bool|list|tuple|dict
 deriving DecidableEq
noncomputable def uw:D->Ty->Option Bool
 |.non,_=>some false
 |.bl _,t=>some (t==.bool||t==.int)
 |.int _,t=>some (t==.int)
 |.str _,t=>some (t==.str)
 |.lst _,t=>some (t==.list)
 |.tup _,t=>some (t==.tuple)
 |.dct _ _,t=>some (t==.dict)
 |.ref _,_=>none
noncomputable def eB:D->Bool
 |.non|.bl _|.int _|.str _=>true
 |_=>false
noncomputable def fuel:Nat:=100000
end Mir
namespace Mir
open PySem PySem.Spec PyProof.Rows L2
mutual
noncomputable def Rep(Z:Addr->Prop)(H:Hp):D->V->Prop
 |.non,v=>v=.non
 |.bl b,v=>v=.bl b
 |.int i,v=>v=.int i
 |.str x,v=>v=.str x
 |.lst ds,v=>∃a c,v=.ref a/\Z a/\Rd H a (.lst c)/\aW Z H ds c
 |.tup ds,v=>∃a c,v=.ref a/\Z a/\Rd H a (.tup c)/\aW Z H ds c
 |.dct ks ds,v=>∃a c,v=.ref a/\Z a/\H a=some (.dK (ks.zip c))/\aW Z H ds c
 |.ref _,_=>False
noncomputable def aW(Z:Addr->Prop)(H:Hp):List D->List V->Prop
 |[],a=>a=[]
 |d::ds,a=>∃v r,a=v::r/\Rep Z H d v/\aW Z H ds r
end
section
variable{Z Z':Addr->Prop}{H H':Hp}
theorem lj{a:Addr}{u:HO}(k:∀o,H a=some o->H' a=some o)(h:Rd H a u):Rd H' a u:=by
 rcases h with h|⟨o,h⟩
 .exact .inl (k _ h)
 .exact .inr ⟨o,k _ h⟩
mutual
theorem Rep.mono(k:∀a o,Z a->H a=some o->H' a=some o)(z:∀a,Z a->Z' a):∀{d:D}{v:V},Rep Z H d v->Rep Z' H' d v
 |.non,_,h=>by simpa only [Rep]using h
 |.bl _,_,h=>by simpa only [Rep]using h
 |.int _,_,h=>by simpa only [Rep]using h
 |.str _,_,h=>by simpa only [Rep]using h
 |.lst ds,v,h=>by
  simp only[Rep]at h ⊢;obtain⟨a,c,e,b,f,g⟩:=h;exact⟨a,c,e,z a b,lj (λo=>k a o b) f,aW.mono k z g⟩
 |.tup ds,v,h=>by
  simp only[Rep]at h ⊢;obtain⟨a,c,e,b,f,g⟩:=h;exact⟨a,c,e,z a b,lj (λo=>k a o b) f,aW.mono k z g⟩
 |.dct i ds,v,h=>by
  simp only[Rep]at h ⊢;obtain⟨a,c,e,b,f,g⟩:=h;exact⟨a,c,e,z a b,k a _ b f,aW.mono k z g⟩
 |.ref _,_,h=>by simp only[Rep]at h
theorem aW.mono(k:∀a o,Z a->H a=some o->H' a=some o)(z:∀a,Z a->Z' a):∀{ds:List D}{b:List V},aW Z H ds b->aW Z' H' ds b
 |[],_,h=>by simpa only [aW]using h
 |d::ds,b,h=>by
  simp only[aW]at h ⊢;obtain⟨v,r,e,h1,h2⟩:=h;exact⟨v,r,e,Rep.mono k z h1,aW.mono k z h2⟩
end
theorem aW.length:∀{ds:List D}{a:List V},aW Z H ds a->a.length=ds.length
 |[],_,h=>by simp only[aW]at h;rw[h];rfl
 |d::ds,_,h=>by
  simp only[aW]at h;obtain⟨v,r,e,_,h2⟩:=h;rw[e,List.length_cons,List.length_cons,aW.length h2]
theorem aW.get:∀{ds:List D}{a:List V}{i:Nat}{d:D},aW Z H ds a->ds[i]?=some d->∃v,a[i]?=some v/\Rep Z H d v
 |[],_,_,_,_,e=>by simp at e
 |d::ds,_,0,_,h,e=>by
  simp only[aW]at h;obtain⟨v,r,rfl,h1,_⟩:=h;simp at e;subst e
  exact⟨v,rfl,h1⟩
 |d::ds,_,i+1,b,h,e=>by
  simp only[aW]at h;obtain⟨v,r,rfl,_,c⟩:=h;obtain⟨u,f,g⟩:=aW.get (i:=i) (d:=b) c (by simpa using e)
  exact⟨u,by simpa using f,g⟩
theorem aW.append:∀{ds es:List D}{a b:List V},aW Z H ds a->aW Z H es b->aW Z H (ds++es) (a++b)
 |[],_,_,_,h,h'=>by simp only[aW]at h;rw[h];exact h'
 |d::ds,_,_,_,h,h'=>by
  simp only[aW]at h;obtain⟨v,r,rfl,h1,h2⟩:=h
  show aW Z H (d::(ds++_)) (v::(r++_))
  simp only[aW];exact⟨v,_,rfl,h1,aW.append h2 h'⟩
theorem aW.nil:aW Z H [] []:=by simp only[aW]
theorem aW.cons{d:D}{ds:List D}{v:V}{a:List V}(h:Rep Z H d v)(h':aW Z H ds a):aW Z H (d::ds) (v::a):=by
 simp only[aW];exact⟨v,a,rfl,h,h'⟩
theorem aW.nil_inv{a:List V}(h:aW Z H [] a):a=[]:=by simpa only [aW]using h
theorem aW.cons_inv{d:D}{ds:List D}{a:List V}(h:aW Z H (d::ds) a):∃v r,a=v::r/\Rep Z H d v/\aW Z H ds r:=by simpa only [aW]using h
def Now(Z:Addr->Prop)(H:Hp)(d:D)(v:V):Prop:=
 match d with
 |.lst c=>∃a b,v=.ref a/\Rd H a (.lst b)/\aW Z H c b
 |d=>Rep Z H d v
theorem Rep.now{d:D}{v:V}(h:Rep Z H d v):Now Z H d v:=by
 cases d with
 |lst c=>
  simp only[Rep]at h;obtain⟨a,b,e,_,h⟩:=h;exact⟨a,b,e,h⟩
 |_=>exact h
end
structure dX(Z:Addr->Prop)(H:Hp)(Z':Addr->Prop)(H':Hp):Prop where
 same:ka H H'
 sub:∀a,Z a->Z' a
 new:∀a,Z' a->Z a\/H a=none
 dom:∀a,Z' a->H' a≠none
theorem dX.refl{Z:Addr->Prop}{H:Hp}(d:∀a,Z a->H a≠none):dX Z H Z H:=⟨ka.refl _,λ_ h=>h,λ_ h=>.inl h,d⟩
theorem ka.laid{H:Hp}{p:Addr}{o:HO}(h:H p=none):ka H (upd H p o):=λb u e=>by rw[aI (aY e h)];exact e
theorem dX.laid{Z:Addr->Prop}{H:Hp}{p:Addr}{o:HO}(d:∀a,Z a->H a≠none)(h:H p=none):dX Z H Z (upd H p o):=
 ⟨ka.laid h,λ_ h=>h,λ_ h=>.inl h,λa b=>by
  have c:a≠p:=λe=>d a b (by rw[e];exact h)
  rw[aI c];exact d a b⟩
def Zp(Z:Addr->Prop)(p:Addr):Addr->Prop:=λa=>Z a\/a=p
section
variable{Z0 Z Z':Addr->Prop}{H0 H H':Hp}{ρ:xA}{σ:L2.St}
end
def dB(bw b:Bool)(Z:Addr->Prop)(f H:Hp)(d:D)(v:V):Prop:=
 if b=true then ∃a c e,d=.lst e/\v=.ref a/\f a=none/\¬ Z a/\H a=some (.lst c)/\aW Z H e c
 else if bw=true then Now Z H d v else Rep Z H d v
theorem dB.own{bw:Bool}{Z:Addr->Prop}{c H:Hp}{a:Addr}{ds:List D}{b:List V}(d:c a=none)(e:¬ Z a)(f:H a=some (.lst b))(g:aW Z H ds b):dB bw true Z c H (.lst ds) (.ref a):=by
 unfold dB;rw[if_pos rfl];exact⟨a,b,ds,rfl,rfl,d,e,f,g⟩
theorem dB.rep{bw:Bool}{Z:Addr->Prop}{a H:Hp}{d:D}{v:V}(h:Rep Z H d v):dB bw false Z a H d v:=by
 unfold dB;rw[if_neg Bool.false_ne_true]
 split
 .exact h.now
 .exact h
theorem dB.now{b:Bool}{Z:Addr->Prop}{c H:Hp}{d:D}{v:V}(h:dB true b Z c H d v):Now Z H d v:=by
 unfold dB at h;split at h
 .obtain⟨a,e,i,rfl,rfl,_,_,f,g⟩:=h
  exact⟨a,e,rfl,.inl f,g⟩
 .rw[if_pos rfl]at h;exact h
theorem PE.imp{X:Cx}{e:Expr}{t t':TE}(h:PE X e t)(i:∀a H Q,t' a H Q->t a H Q):PE X e t':=λpins s a H Q I q=>h pins s a H Q I (i a H Q q)
theorem jb{α d:Type}{x:Out α}{f:α->Out d}{b:d}(h:(x >>= f)=.ok b):∃a,x=.ok a/\f a=.ok b:=by
 cases x with
 |ok a=>exact⟨a,rfl,h⟩
 |exc c e=>cases h
 |bad=>cases h
section
variable{Γ:kc}{Z0 Z:Addr->Prop}{H0 H:Hp}{ρ:xA}{σ:L2.St}{c:Ex}{Q:VK}{own:Bool}{d:D}
end
end Mir
namespace Mir
open PySem PySem.Spec PyProof.Rows L2
section
variable{Z Z':Addr->Prop}{H H2 H':Hp}{d:D}{v:V}{bw own:Bool}
theorem bA{n:Nat}(h:small n=true):n<=sizeLine:=of_decide_eq_true h
end
section
variable{X:Cx}{Γ:kc}{bw:Bool}{a b e:Expr}{ca cb c:Ex}{pos:Pos}
noncomputable def ei:D->Option V
 |.non=>some .non
 |.bl b=>some (.bl b)
 |.int i=>some (.int i)
 |.str x=>some (.str x)
 |_=>none
theorem eD{Z:Addr->Prop}{H:Hp}{d:D}{v:V}(h:ei d=some v):Rep Z H d v:=by
 cases d<;>simp only[ei]at h<;>first|cases h;simp only[Rep]|cases h
end
section
variable{Z:Addr->Prop}{H:Hp}{x:V}
theorem eZ(h:Now Z H .non x):x=.non:=by simpa only [Now,Rep]using h
theorem bh{i:Int}(h:Now Z H (.int i) x):x=.int i:=by simpa only [Now,Rep]using h
theorem fy{i:Bool}(h:Now Z H (.bl i) x):x=.bl i:=by simpa only [Now,Rep]using h
theorem cM{i:Str}(h:Now Z H (.str i) x):x=.str i:=by simpa only [Now,Rep]using h
theorem dg{ds:List D}(h:Now Z H (.lst ds) x):∃a b,x=.ref a/\Rd H a (.lst b)/\aW Z H ds b:=h
theorem e9{ds:List D}(h:Now Z H (.tup ds) x):∃a b,x=.ref a/\Z a/\Rd H a (.tup b)/\aW Z H ds b:=by simpa only [Now,Rep]using h
theorem ll{K:PySem.W.Frag}{a:Addr}{b:List V}(h:Rd H a (.lst b)):kj K H a b:=.inl h
theorem oq{K:PySem.W.Frag}{a:Addr}{b:List V}(h:Rd H a (.tup b)):ig K H a b:=.inl h
theorem xB{bw:Bool}{Q:VK}{ds:List D}{e:List V}(b:∀a,Z a->H a≠none)(g:aW Z H ds e)
  (k:∀v d f,dX Z H f d->dB bw true f H d (.lst ds) v->Q v d):∀p,H p=none->Q (.ref p) (upd H p (.lst e)):=λp c=>
 k _ _ Z (dX.laid b c) (.own c (λz=>b p z c) bc (g.mono (λa o _=>ka.laid c a o) λ_ z=>z))
end
section
variable{X:Cx}{Γ:kc}{bw:Bool}{a b e:Expr}{ca cb c:Ex}{pos:Pos}
def zT:R2:=λx y H Q=>∃l b a c,x=.ref l/\y=.ref b/\Rd H l (.lst a)/\Rd H b (.lst c)/\a.length+c.length<=sizeLine/\∀p,H p=none->Q (.ref p) (upd H p (.lst (a++c)))
theorem xC:eW X (binaryOp .Add) zT:=by
 intro pins s w H x y v u Q I i j h;obtain⟨l,b,d,f,rfl,rfl,k,m,A,q⟩:=h;cases i;cases j;obtain⟨z,a,n,r,e⟩:d.length<=sizeLine/\∃(a:List Value) (n:Nat),Vals d a/\s.heap.get? l=some {cls:=.type "list",data:=.seq a.toArray n}:=Rd.ok k I.hok;obtain⟨B,c,C,g,o⟩:f.length<=sizeLine/\∃(a:List Value) (n:Nat),Vals f a/\s.heap.get? b=some {cls:=.type "list",data:=.seq a.toArray n}:=Rd.ok m I.hok;have D:=r.length;have p:=g.length;refine PySem.P.add_list e o ?_ (by rw[List.size_toArray,List.size_toArray];omega)
 have t:a.toArray++c.toArray=(a++c).toArray:=by simp
 rw[t];exact⟨.ref _,_,I.Dv (t':=s.toks) (r.append g) (by rw[List.length_append];omega),rfl,q _ I.fresh⟩
def xD(op:Operator):R2:=λx y H Q=>match op with
 |.Add=>(∃i j,x=.int i/\y=.int j/\Q (.int (i+j)) H)\/(∃i j,x=.str i/\y=.str j/\i.length+j.length<=sizeLine/\Q (.str (i++j)) H)\/zT x y H Q
 |.Sub=>∃i j,x=.int i/\y=.int j/\Q (.int (i - j)) H
 |.Mult=>∃i j,x=.int i/\y=.int j/\xg i j/\Q (.int (i*j)) H
 |.FloorDiv=>∃i j,x=.int i/\y=.int j/\De i j/\Q (.int (i / j)) H
 |.Mod=>∃i j,x=.int i/\y=.int j/\0<j/\Q (.int (i%j)) H
 |.Pow=>∃i j,x=.int i/\y=.int j/\Df i j/\Q (.int (i ^ j.toNat)) H
 |_=>False
theorem ux(op:Operator):eW X (binaryOp op) (xD op):=by
 cases op with
 |Add=>exact AK.or (oD.or xC)
 |Sub=>exact AL
 |Mult=>exact AN
 |FloorDiv=>exact xh
 |Mod=>exact AO
 |Pow=>exact AQ
 |_=>exact λ_ _ _ _ _ _ _ _ _ _ _ _ h=>h.elim
theorem Bf{op:Operator}{j n:D}{x y:V}{Z:Addr->Prop}{H:Hp}{g:Bool}{d:D}{Q:VK}(e:Now Z H j x)(f:Now Z H n y)(h:∀a,Z a->H a≠none)(b:eA op j n=.ok (g,d))
  (k:∀v i o,dX Z H o i->dB bw g o H i d v->Q v i):xD op x y H Q:=by
 have flat:∀{p:D}{v:V},ei p=some v->Out.ok (false,p)=Out.ok (g,d)->Q v H:=λt q=>by
  cases q;exact k _ H Z (dX.refl h) (.rep (eD t))
 unfold eA at b;split at b
 .cases bh e;cases bh f
  exact .inl ⟨_,_,rfl,rfl,flat rfl b⟩
 .cases bh e;cases bh f
  exact⟨_,_,rfl,rfl,flat rfl b⟩
 .cases bh e;cases bh f
  split at b
  .rename_i c
   refine⟨_,_,rfl,rfl,?_,flat rfl b⟩;simp only[Bool.or_eq_true]at c;have c:=c.imp mT mT;exact c
  .cases b
 .cases bh e;cases bh f
  split at b
  .rename_i c
   refine⟨_,_,rfl,rfl,?_,flat rfl b⟩;simp only[Bool.and_eq_true,decide_eq_true_eq]at c;exact c
  .cases b
 .cases bh e;cases bh f
  split at b
  .rename_i c
   exact⟨_,_,rfl,rfl,of_decide_eq_true c,flat rfl b⟩
  .cases b
 .cases bh e;cases bh f
  split at b
  .rename_i c
   refine⟨_,_,rfl,rfl,?_,flat rfl b⟩;simp only[Bool.and_eq_true,decide_eq_true_eq]at c;exact⟨c.1.1,Int.le_trans c.1.2 (by decide),c.2⟩
  .cases b
 .cases cM e;cases cM f
  split at b
  .rename_i c
   exact .inr (.inl ⟨_,_,rfl,rfl,bA c,flat rfl b⟩)
  .cases b
 .obtain⟨l,u,rfl,w,r⟩:=dg e
  obtain⟨m,z,rfl,A,s⟩:=dg f;split at b
  .rename_i c
   cases b;have B:=bA c;exact .inr (.inr ⟨l,m,u,z,rfl,rfl,w,A,by rw[r.length,s.length];exact B,xB h (r.append s) k⟩)
  .cases b
 .cases b
end
section
variable{Z:Addr->Prop}{H:Hp}
theorem lp{a:Addr}{u b:HO}(d:∀o w,u≠.ee o w)(c:∀o w,b≠.ee o w)(h:Rd H a u)(h':Rd H a b):u=b:=by
 rcases h with h|⟨o,h⟩<;>rcases h' with h' |⟨f,h'⟩<;>rw[h]at h'<;>injection h' with e
 .exact absurd e (d _ _)
 .exact absurd e.symm (c _ _)
 .injection e
theorem oP{a:Addr}{xs b:List V}(h:Rd H a (.lst xs))(h':Rd H a (.lst b)):xs=b:=by
 have e:=lp (λ_ _ z=>by cases z) (λ_ _ z=>by cases z) h h'
 injection e
theorem oQ{a:Addr}{xs b:List V}(h:Rd H a (.tup xs))(h':Rd H a (.tup b)):xs=b:=by
 have e:=lp (λ_ _ z=>by cases z) (λ_ _ z=>by cases z) h h'
 injection e
theorem qo{a:Addr}{xs b:List V}(h:Rd H a (.lst xs))(h':Rd H a (.tup b)):False:=by
 have e:=lp (λ_ _ z=>by cases z) (λ_ _ z=>by cases z) h h'
 cases e
mutual
theorem Rep.uniq:∀(n:Nat) (d d':D) (v:V),aK n d=true->aK n d'=true->Rep Z H d v->Rep Z H d' v->d=d'
 |n,.lst xs,d',v,o,o',h,h'=>by
  simp only[Rep]at h;obtain⟨a,g,rfl,_,h1,h2⟩:=h;cases d'<;>simp only[Rep]at h'
  case lst ys=>
   obtain⟨b,i,e,_,c,f⟩:=h';cases e;cases oP h1 c;cases n with
   |zero=>simp[aK]at o
   |succ n=>rw[aW.uniq n xs ys g (by simpa[aK]using o) (by simpa[aK]using o') h2 f]
  case tup ys=>
   obtain⟨b,i,e,_,c,f⟩:=h';cases e;exact(qo h1 c).elim
  case dct ks ys=>cases n<;>simp[aK]at o'
  all_goals cases h'
 |n,.tup xs,d',v,o,o',h,h'=>by
  simp only[Rep]at h;obtain⟨a,g,rfl,_,h1,h2⟩:=h;cases d'<;>simp only[Rep]at h'
  case tup ys=>
   obtain⟨b,i,e,_,c,f⟩:=h';cases e;cases oQ h1 c;cases n with
   |zero=>simp[aK]at o
   |succ n=>rw[aW.uniq n xs ys g (by simpa[aK]using o) (by simpa[aK]using o') h2 f]
  case lst ys=>
   obtain⟨b,i,e,_,c,f⟩:=h';cases e;exact(qo c h1).elim
  case dct ks ys=>cases n<;>simp[aK]at o'
  all_goals cases h'
 |n,.dct ks xs,_,_,o,_,_,_=>by cases n<;>simp[aK]at o
 |n,.ref _,_,_,_,_,h,_=>by simp only[Rep]at h
 |n,.non,d',v,_,o',h,h'=>by
  simp only[Rep]at h;subst h
  cases d'<;>simp only[Rep]at h'<;>first|rfl | (obtain⟨_,_,e,_⟩:=h';cases e;done) | (cases h';done)
 |n,.bl b,d',v,_,o',h,h'=>by
  simp only[Rep]at h;subst h
  cases d'<;>simp only[Rep]at h'<;>first | (obtain⟨_,_,e,_⟩:=h';cases e;done) | (cases h';rfl) | (cases h';done)
 |n,.int b,d',v,_,o',h,h'=>by
  simp only[Rep]at h;subst h
  cases d'<;>simp only[Rep]at h'<;>first | (obtain⟨_,_,e,_⟩:=h';cases e;done) | (cases h';rfl) | (cases h';done)
 |n,.str b,d',v,_,o',h,h'=>by
  simp only[Rep]at h;subst h
  cases d'<;>simp only[Rep]at h'<;>first | (obtain⟨_,_,e,_⟩:=h';cases e;done) | (cases h';rfl) | (cases h';done)
theorem aW.uniq:∀(n:Nat) (xs a:List D) (b:List V),(∀x∈xs,aK n x=true)->(∀x∈a,aK n x=true)->aW Z H xs b->aW Z H a b->xs=a
 |n,[],a,b,_,_,h,h'=>by
  rw[h.nil_inv]at h';cases a with
  |nil=>rfl
  |cons y a=>obtain⟨_,_,e,_⟩:=h'.cons_inv;cases e
 |n,x::xs,a,b,o,d,h,h'=>by
  obtain⟨v,r,rfl,f,g⟩:=h.cons_inv;cases a with
  |nil=>exact absurd h'.nil_inv (by simp)
  |cons y a=>
   obtain⟨w,k,e,i,j⟩:=h'.cons_inv;cases e;rw[Rep.uniq n x y v (o x (by simp)) (d y (by simp)) f i,aW.uniq n xs a r (λz c=>o z (by simp[c])) (λz c=>d z (by simp[c])) g j]
end
mutual
theorem uy:∀(n:Nat) (d:D),aK n d=true->dn d d=true
 |n,.lst xs,o=>by
  cases n with
  |zero=>simp[aK]at o
  |succ n=>simp only[dn];exact eE n xs (by simpa[aK]using o)
 |n,.tup xs,o=>by
  cases n with
  |zero=>simp[aK]at o
  |succ n=>simp only[dn];exact eE n xs (by simpa[aK]using o)
 |n,.dct _ _,o=>by cases n<;>simp[aK]at o
 |n,.ref _,o=>by cases n<;>simp[aK]at o
 |n,.non,_=>by simp[dn]
 |n,.bl _,_=>by simp[dn]
 |n,.int _,_=>by simp[dn]
 |n,.str _,_=>by simp[dn]
theorem eE:∀(n:Nat) (xs:List D),(∀x∈xs,aK n x=true)->ez xs xs=true
 |n,[],_=>by simp[ez]
 |n,x::xs,o=>by
  simp only[ez,uy n x (o x (by simp)),eE n xs λz hz=>o z (by simp[hz]),Bool.and_self]
end
theorem dr:∀(xs a:List D),((List.range (min xs.length a.length)).all (λj=>dn (xs.getD j .non) (a.getD j .non))&&(xs.length==a.length))=ez xs a
 |[],[]=>by simp[ez]
 |[],_::_=>by simp[ez]
 |_::_,[]=>by simp[ez]
 |x::xs,y::a=>by
  have b:=dr xs a;have c:min (x::xs).length (y::a).length=min xs.length a.length+1:=by simp only[List.length_cons];omega
  rw[c,List.range_succ_eq_map,List.all_cons,List.all_map,ez,←b];simp[Function.comp_def,Bool.and_assoc]
theorem jc{xs a:List D}(h:xs.length=a.length):(List.range xs.length).all (λj=>dn (xs.getD j .non) (a.getD j .non))=ez xs a:=by
 have e:=dr xs a;rw[←h,Nat.min_self]at e;simpa using e
theorem lq{xs a:List D}(h:xs.length≠a.length):ez xs a=false:=by
 rw[←dr xs a];simp[h]
end
inductive Vw (s:Shared) (Z:Addr->Prop) (H:Hp):D->Value->Prop where
 |non:Vw s Z H .non .none
 |bl (b:Bool):Vw s Z H (.bl b) (.bool b)
 |int (i:Int) (t:Tok):Vw s Z H (.int i) (.int i t)
 |str (x:Str) (t:Tok):Vw s Z H (.str x) (.str x t)
 |lst {l:Addr}{its:List Value}{vs:List V}{ds:List D}:s.heap.IsList l its.toArray->Vals vs its->Rd H l (.lst vs)/\aW Z H ds vs->Vw s Z H (.lst ds) (.ref l)
 |tup {l:Addr}{its:List Value}{vs:List V}{ds:List D}:s.heap.IsTuple l its.toArray->Vals vs its->Rd H l (.tup vs)/\aW Z H ds vs->Vw s Z H (.tup ds) (.ref l)
section
variable{X:Cx}{pins:List (Addr×Obj)}{σ:L2.St}{Z:Addr->Prop}{H:Hp}{s:Shared}{A:Around}
theorem fT{n:Nat}{d:D}{v:V}{u:Value}(I:Inv X pins σ H s)(c:Now Z H d v)(r:RelV v u)(o:aK n d=true):Vw s Z H d u:=by
 cases d with
 |non=>cases eZ c;cases r;exact .non
 |bl b=>cases fy c;cases r;exact .bl b
 |int b=>cases bh c;obtain⟨t,rfl⟩:=r;exact .int b t
 |str b=>cases cM c;obtain⟨t,rfl⟩:=r;exact .str b t
 |lst i=>
  obtain⟨a,j,rfl,e,f⟩:=dg c;cases r;obtain⟨g,h,p,l⟩:=I.list (ll (K:=X.K) e);exact .lst p.isList h ⟨e,f⟩
 |tup i=>
  obtain⟨a,j,rfl,_,e,f⟩:=e9 c;cases r;obtain⟨g,h,p,l⟩:=I.tuple (oq (K:=X.K) e);exact .tup p h ⟨e,f⟩
 |dct m i=>cases n<;>simp[aK]at o
 |ref k=>cases n<;>simp[aK]at o
theorem lr{b:List V}{a:List Value}(r:Vals b a){j:Nat}(e:j<a.length):∃v,b[j]?=some v/\RelV v a[j]:=by
 have g:=r.length;have c:b[j]?=some b[j]:=by simp[show j<b.length by omega]
 obtain⟨u,d,f⟩:=r.get c;rw[List.getElem?_eq_getElem e]at d;cases d;exact⟨_,c,f⟩
theorem eF{n:Nat}(I:Inv X pins σ H s)(y:∀(A:Around) (e f:D) (u w:Value),A.units+n<cLine->aK n e=true->aK n f=true->Vw s Z H e u->Vw s Z H f w->SeqAt.EqAt A s u w (dn e f))
  {ds es:List D} (z:∀x∈ds,aK n x=true) (B:∀x∈es,aK n x=true) (K:A.units+(n+1)<cLine) {k l:List V}{b a:List Value} (m:Vals k b) (o:Vals l a) (pl:aW Z H ds k) (p:aW Z H es l) :
  ∀j (g:j<b.toArray.size) (h:j<a.toArray.size),SeqAt.EqAt A.in1 s b.toArray[j] a.toArray[j] (dn (ds.getD j .non) (es.getD j .non)):=by
 intro j g h;have L:=m.length;have M:=o.length;have N:=pl.length;have O:=p.length;simp only[List.size_toArray]at g h;simp only[List.getElem_toArray];obtain⟨v,C,E⟩:=lr m g;obtain⟨w,F,i⟩:=lr o h;have q:ds[j]?=some (ds.getD j .non):=by simp[List.getD,show j<ds.length by omega]
 have r:es[j]?=some (es.getD j .non):=by simp[List.getD,show j<es.length by omega]
 obtain⟨P,c,G⟩:=pl.get q;obtain⟨Q,d,J⟩:=p.get r;rw[C]at c;cases c
 rw[F]at d;cases d
 have t:=z _ (List.mem_of_getElem? q);have o2:=B _ (List.mem_of_getElem? r);exact y A.in1 _ _ _ _ (by show A.units+1+n<cLine;omega) t o2 (fT I G.now E t) (fT I J.now i o2)
theorem fA(I:Inv X pins σ H s):∀(n:Nat) (A:Around) (G J:D) (u w:Value),A.units+n<cLine->aK n G=true->aK n J=true->Vw s Z H G u->Vw s Z H J w->SeqAt.EqAt A s u w (dn G J):=by
 intro n
 induction n with
 |zero=>
  intro A G J u w N E K O o;have f:A.units<cLine:=by omega
  cases O with
  |non=>
   cases o with
   |non=>exact SeqAt.EqAt.same _
   |bl p=>exact SeqAt.EqAt.none_bool _
   |int q k=>exact SeqAt.EqAt.none_int _ _
   |str r k=>exact SeqAt.EqAt.none_str _ _
   |@lst m a d c e h g=>exact SeqAt.EqAt.none_list e f
   |@tup m a d c e h g=>exact SeqAt.EqAt.none_tuple e f
  |bl b=>
   cases o with
   |non=>exact SeqAt.EqAt.bool_none _
   |bl p=>exact SeqAt.EqAt.bool_bool _ _
   |int q k=>exact SeqAt.EqAt.bool_int _ _ _
   |str r k=>exact SeqAt.EqAt.bool_str _ _ _
   |@lst m a d c e h g=>exact SeqAt.EqAt.bool_list _ e f
   |@tup m a d c e h g=>exact SeqAt.EqAt.bool_tuple _ e f
  |int i t=>
   cases o with
   |non=>exact SeqAt.EqAt.int_none _ _
   |bl p=>exact SeqAt.EqAt.int_bool _ _ _
   |int q k=>exact SeqAt.EqAt.int_int _ _ _ _
   |str r k=>exact SeqAt.EqAt.int_str _ _ _ _
   |@lst m a d c e h g=>exact SeqAt.EqAt.int_list _ _ e f
   |@tup m a d c e h g=>exact SeqAt.EqAt.int_tuple _ _ e f
  |str x t=>
   cases o with
   |non=>exact SeqAt.EqAt.str_none _ _
   |bl p=>exact SeqAt.EqAt.str_bool _ _ _
   |int q k=>exact SeqAt.EqAt.str_int _ _ _ _
   |str r k=>exact SeqAt.EqAt.str_str _ _ _ _
   |@lst m a d c e h g=>exact SeqAt.EqAt.str_list _ _ e f
   |@tup m a d c e h g=>exact SeqAt.EqAt.str_tuple _ _ e f
  |@lst l y L z j F B=>
   cases o with
   |non=>exact SeqAt.EqAt.list_none j f
   |bl p=>exact SeqAt.EqAt.list_bool _ j f
   |int q k=>exact SeqAt.EqAt.list_int _ _ j f
   |str r k=>exact SeqAt.EqAt.list_str _ _ j f
   |@lst m a d c e h g=>
    simp[aK]at E
   |@tup m a d c e h g=>exact SeqAt.EqAt.list_tuple j e f
  |@tup l y L z j F B=>
   cases o with
   |non=>exact SeqAt.EqAt.tuple_none j f
   |bl p=>exact SeqAt.EqAt.tuple_bool _ j f
   |int q k=>exact SeqAt.EqAt.tuple_int _ _ j f
   |str r k=>exact SeqAt.EqAt.tuple_str _ _ j f
   |@lst m a d c e h g=>exact SeqAt.EqAt.tuple_list j e f
   |@tup m a d c e h g=>
    simp[aK]at E
 |succ n R=>
  intro A G J u w N E K O o;have f:A.units<cLine:=by omega
  cases O with
  |non=>
   cases o with
   |non=>exact SeqAt.EqAt.same _
   |bl p=>exact SeqAt.EqAt.none_bool _
   |int q k=>exact SeqAt.EqAt.none_int _ _
   |str r k=>exact SeqAt.EqAt.none_str _ _
   |@lst m a d c e h g=>exact SeqAt.EqAt.none_list e f
   |@tup m a d c e h g=>exact SeqAt.EqAt.none_tuple e f
  |bl b=>
   cases o with
   |non=>exact SeqAt.EqAt.bool_none _
   |bl p=>exact SeqAt.EqAt.bool_bool _ _
   |int q k=>exact SeqAt.EqAt.bool_int _ _ _
   |str r k=>exact SeqAt.EqAt.bool_str _ _ _
   |@lst m a d c e h g=>exact SeqAt.EqAt.bool_list _ e f
   |@tup m a d c e h g=>exact SeqAt.EqAt.bool_tuple _ e f
  |int i t=>
   cases o with
   |non=>exact SeqAt.EqAt.int_none _ _
   |bl p=>exact SeqAt.EqAt.int_bool _ _ _
   |int q k=>exact SeqAt.EqAt.int_int _ _ _ _
   |str r k=>exact SeqAt.EqAt.int_str _ _ _ _
   |@lst m a d c e h g=>exact SeqAt.EqAt.int_list _ _ e f
   |@tup m a d c e h g=>exact SeqAt.EqAt.int_tuple _ _ e f
  |str x t=>
   cases o with
   |non=>exact SeqAt.EqAt.str_none _ _
   |bl p=>exact SeqAt.EqAt.str_bool _ _ _
   |int q k=>exact SeqAt.EqAt.str_int _ _ _ _
   |str r k=>exact SeqAt.EqAt.str_str _ _ _ _
   |@lst m a d c e h g=>exact SeqAt.EqAt.str_list _ _ e f
   |@tup m a d c e h g=>exact SeqAt.EqAt.str_tuple _ _ e f
  |@lst l y L z j F B=>
   cases o with
   |non=>exact SeqAt.EqAt.list_none j f
   |bl p=>exact SeqAt.EqAt.list_bool _ j f
   |int q k=>exact SeqAt.EqAt.list_int _ _ j f
   |str r k=>exact SeqAt.EqAt.list_str _ _ j f
   |@lst m a d c e h g=>
    have S:=F.length;have T:=h.length;have U:=B.2.length;have V:=g.2.length;simp only[dn]
    by_cases C:l=m
    .subst C
     have P:=oP B.1 g.1;subst P;have Q:=aW.uniq n z c L (by simpa[aK]using E) (by simpa[aK]using K) B.2 g.2
     subst Q;rw[eE n z (by simpa[aK]using E)]
     exact SeqAt.EqAt.same _
    .refine SeqAt.EqAt.of_refs C ?_
     by_cases M:z.length=c.length
     .rw[←jc M]
      have:=SeqAt.RcAt.lists j e (by simp only[List.size_toArray];omega) f (eF I R (by simpa[aK]using E) (by simpa[aK]using K) N F h B.2 g.2)
      rw[show y.toArray.size=z.length by simp only[List.size_toArray];omega]at this
      exact this
     .rw[lq M]
      exact SeqAt.RcAt.lists_lengths j e (by simp only[List.size_toArray,bne_iff_ne];omega) f
   |@tup m a d c e h g=>exact SeqAt.EqAt.list_tuple j e f
  |@tup l y L z j F B=>
   cases o with
   |non=>exact SeqAt.EqAt.tuple_none j f
   |bl p=>exact SeqAt.EqAt.tuple_bool _ j f
   |int q k=>exact SeqAt.EqAt.tuple_int _ _ j f
   |str r k=>exact SeqAt.EqAt.tuple_str _ _ j f
   |@lst m a d c e h g=>exact SeqAt.EqAt.tuple_list j e f
   |@tup m a d c e h g=>
    have S:=F.length;have T:=h.length;have U:=B.2.length;have V:=g.2.length;simp only[dn]
    by_cases C:l=m
    .subst C
     have P:=oQ B.1 g.1;subst P;have Q:=aW.uniq n z c L (by simpa[aK]using E) (by simpa[aK]using K) B.2 g.2
     subst Q;rw[eE n z (by simpa[aK]using E)]
     exact SeqAt.EqAt.same _
    .refine SeqAt.EqAt.of_refs C ?_
     rw[←dr z c];have:=SeqAt.RcAt.tuples j e f (eF I R (by simpa[aK]using E) (by simpa[aK]using K) N F h B.2 g.2)
     rw[show y.toArray.size=z.length by simp only[List.size_toArray];omega,show a.toArray.size=c.length by simp only[List.size_toArray];omega]at this
     exact this
theorem uz(I:Inv X pins σ H s){n:Nat}{F G:D}{u w:Value}(J:A.units+(n+1)<cLine)(K:aK (n+1) F=true)(L:aK (n+1) G=true)(M:Vw s Z H F u)(p:Vw s Z H G w):SeqAt.RcAt A s u w (dn F G):=by
 have f:A.units<cLine:=by omega
 cases M with
 |non=>
  cases p with
  |non=>exact SeqAt.RcAt.none_none
  |bl q=>exact SeqAt.RcAt.none_bool _
  |int r k=>exact SeqAt.RcAt.none_int _ _
  |str y k=>exact SeqAt.RcAt.none_str _ _
  |@lst m a e c d g h=>exact SeqAt.RcAt.none_list d f
  |@tup m a e c d g h=>exact SeqAt.RcAt.none_tuple d f
 |bl b=>
  cases p with
  |non=>exact SeqAt.RcAt.bool_none _
  |bl q=>exact SeqAt.RcAt.bool_bool _ _
  |int r k=>exact SeqAt.RcAt.bool_int _ _ _
  |str y k=>exact SeqAt.RcAt.bool_str _ _ _
  |@lst m a e c d g h=>exact SeqAt.RcAt.bool_list _ d f
  |@tup m a e c d g h=>exact SeqAt.RcAt.bool_tuple _ d f
 |int i t=>
  cases p with
  |non=>exact SeqAt.RcAt.int_none _ _
  |bl q=>exact SeqAt.RcAt.int_bool _ _ _
  |int r k=>exact SeqAt.RcAt.int_int _ _ _ _
  |str y k=>exact SeqAt.RcAt.int_str _ _ _ _
  |@lst m a e c d g h=>exact SeqAt.RcAt.int_list _ _ d f
  |@tup m a e c d g h=>exact SeqAt.RcAt.int_tuple _ _ d f
 |str x t=>
  cases p with
  |non=>exact SeqAt.RcAt.str_none _ _
  |bl q=>exact SeqAt.RcAt.str_bool _ _ _
  |int r k=>exact SeqAt.RcAt.str_int _ _ _ _
  |str y k=>exact SeqAt.RcAt.str_str _ _ _ _
  |@lst m a e c d g h=>exact SeqAt.RcAt.str_list _ _ d f
  |@tup m a e c d g h=>exact SeqAt.RcAt.str_tuple _ _ d f
 |@lst l o N z j B C=>
  cases p with
  |non=>exact SeqAt.RcAt.list_none j f
  |bl q=>exact SeqAt.RcAt.list_bool _ j f
  |int r k=>exact SeqAt.RcAt.list_int _ _ j f
  |str y k=>exact SeqAt.RcAt.list_str _ _ j f
  |@lst m a e c d g h=>
   have O:=B.length;have P:=g.length;have Q:=C.2.length;have R:=h.2.length;simp only[dn]
   by_cases E:z.length=c.length
   .rw[←jc E]
    have:=SeqAt.RcAt.lists j d (by simp only[List.size_toArray];omega) f (eF I (fA I n) (by simpa[aK]using K) (by simpa[aK]using L) J B g C.2 h.2)
    rw[show o.toArray.size=z.length by simp only[List.size_toArray];omega]at this
    exact this
   .rw[lq E]
    exact SeqAt.RcAt.lists_lengths j d (by simp only[List.size_toArray,bne_iff_ne];omega) f
  |@tup m a e c d g h=>exact SeqAt.RcAt.list_tuple j d f
 |@tup l o N z j B C=>
  cases p with
  |non=>exact SeqAt.RcAt.tuple_none j f
  |bl q=>exact SeqAt.RcAt.tuple_bool _ j f
  |int r k=>exact SeqAt.RcAt.tuple_int _ _ j f
  |str y k=>exact SeqAt.RcAt.tuple_str _ _ j f
  |@lst m a e c d g h=>exact SeqAt.RcAt.tuple_list j d f
  |@tup m a e c d g h=>
   have O:=B.length;have P:=g.length;have Q:=C.2.length;have R:=h.2.length;simp only[dn];rw[←dr z c];have:=SeqAt.RcAt.tuples j d f (eF I (fA I n) (by simpa[aK]using K) (by simpa[aK]using L) J B g C.2 h.2)
   rw[show o.toArray.size=z.length by simp only[List.size_toArray];omega,show a.toArray.size=c.length by simp only[List.size_toArray];omega]at this
   exact this
theorem oT(I:Inv X pins σ H s){n:Nat}{F G:D}{u w:Value}(J:A.units+(n+1)<cLine)(K:aK (n+1) F=true)(L:aK (n+1) G=true)(M:Vw s Z H F u)(p:Vw s Z H G w):SeqAt.RcNeAt A s u w (!dn F G):=by
 have f:A.units<cLine:=by omega
 cases M with
 |non=>
  cases p with
  |non=>exact SeqAt.RcNeAt.none_none
  |bl q=>exact SeqAt.RcNeAt.none_bool _
  |int r k=>exact SeqAt.RcNeAt.none_int _ _
  |str y k=>exact SeqAt.RcNeAt.none_str _ _
  |@lst m a e c d g h=>exact SeqAt.RcNeAt.none_list d f
  |@tup m a e c d g h=>exact SeqAt.RcNeAt.none_tuple d f
 |bl b=>
  cases p with
  |non=>exact SeqAt.RcNeAt.bool_none _
  |bl q=>exact SeqAt.RcNeAt.bool_bool _ _
  |int r k=>exact SeqAt.RcNeAt.bool_int _ _ _
  |str y k=>exact SeqAt.RcNeAt.bool_str _ _ _
  |@lst m a e c d g h=>exact SeqAt.RcNeAt.bool_list _ d f
  |@tup m a e c d g h=>exact SeqAt.RcNeAt.bool_tuple _ d f
 |int i t=>
  cases p with
  |non=>exact SeqAt.RcNeAt.int_none _ _
  |bl q=>exact SeqAt.RcNeAt.int_bool _ _ _
  |int r k=>exact SeqAt.RcNeAt.int_int _ _ _ _
  |str y k=>exact SeqAt.RcNeAt.int_str _ _ _ _
  |@lst m a e c d g h=>exact SeqAt.RcNeAt.int_list _ _ d f
  |@tup m a e c d g h=>exact SeqAt.RcNeAt.int_tuple _ _ d f
 |str x t=>
  cases p with
  |non=>exact SeqAt.RcNeAt.str_none _ _
  |bl q=>exact SeqAt.RcNeAt.str_bool _ _ _
  |int r k=>exact SeqAt.RcNeAt.str_int _ _ _ _
  |str y k=>exact SeqAt.RcNeAt.str_str _ _ _ _
  |@lst m a e c d g h=>exact SeqAt.RcNeAt.str_list _ _ d f
  |@tup m a e c d g h=>exact SeqAt.RcNeAt.str_tuple _ _ d f
 |@lst l o N z j B C=>
  cases p with
  |non=>exact SeqAt.RcNeAt.list_none j f
  |bl q=>exact SeqAt.RcNeAt.list_bool _ j f
  |int r k=>exact SeqAt.RcNeAt.list_int _ _ j f
  |str y k=>exact SeqAt.RcNeAt.list_str _ _ j f
  |@lst m a e c d g h=>
   have O:=B.length;have P:=g.length;have Q:=C.2.length;have R:=h.2.length;simp only[dn]
   by_cases E:z.length=c.length
   .rw[←jc E]
    have:=SeqAt.RcNeAt.lists j d (by simp only[List.size_toArray];omega) f (eF I (fA I n) (by simpa[aK]using K) (by simpa[aK]using L) J B g C.2 h.2)
    rw[show o.toArray.size=z.length by simp only[List.size_toArray];omega]at this
    exact this
   .rw[lq E]
    exact SeqAt.RcNeAt.lists_lengths j d (by simp only[List.size_toArray,bne_iff_ne];omega) f
  |@tup m a e c d g h=>exact SeqAt.RcNeAt.list_tuple j d f
 |@tup l o N z j B C=>
  cases p with
  |non=>exact SeqAt.RcNeAt.tuple_none j f
  |bl q=>exact SeqAt.RcNeAt.tuple_bool _ j f
  |int r k=>exact SeqAt.RcNeAt.tuple_int _ _ j f
  |str y k=>exact SeqAt.RcNeAt.tuple_str _ _ j f
  |@lst m a e c d g h=>exact SeqAt.RcNeAt.tuple_list j d f
  |@tup m a e c d g h=>
   have O:=B.length;have P:=g.length;have Q:=C.2.length;have R:=h.2.length;simp only[dn];rw[←dr z c];have:=SeqAt.RcNeAt.tuples j d f (eF I (fA I n) (by simpa[aK]using K) (by simpa[aK]using L) J B g C.2 h.2)
   rw[show o.toArray.size=z.length by simp only[List.size_toArray];omega,show a.toArray.size=c.length by simp only[List.size_toArray];omega]at this
   exact this
end
end Mir
namespace Mir
open PySem PySem.Spec PyProof.Rows L2
theorem Vw.uniq{s:Shared}{Z:Addr->Prop}{H:Hp}{n:Nat}{d d':D}{u:Value}(h:Vw s Z H d u)(h':Vw s Z H d' u)(o:aK n d=true)(r:aK n d'=true):d=d':=by
 cases h with
 |non=>cases h';rfl
 |bl b=>cases h';rfl
 |int i t=>cases h';rfl
 |str x t=>cases h';rfl
 |@lst l j k m w y f=>
  cases h' with
  |@lst _ a g c p q e=>
   cases oP f.1 e.1;cases n with
   |zero=>simp[aK]at o
   |succ n=>rw[aW.uniq n m c k (by simpa[aK]using o) (by simpa[aK]using r) f.2 e.2]
  |@tup _ a g c p q e=>exact(qo f.1 e.1).elim
 |@tup l j k m w y f=>
  cases h' with
  |@tup _ a g c p q e=>
   cases oQ f.1 e.1;cases n with
   |zero=>simp[aK]at o
   |succ n=>rw[aW.uniq n m c k (by simpa[aK]using o) (by simpa[aK]using r) f.2 e.2]
  |@lst _ a g c p q e=>exact(qo e.1 f.1).elim
section
variable{X:Cx}{pins:List (Addr×Obj)}{σ:L2.St}{Z:Addr->Prop}{H:Hp}{s:Shared}
def ik(s:Shared)(Z:Addr->Prop)(H:Hp)(a:D)(u:Value):Bool:=@decide (∃d,aK 8 d=true/\Vw s Z H d u/\dn d a=true) (Classical.propDecidable _)
theorem qq{a d:D}{u:Value}(o:aK 8 d=true)(h:Vw s Z H d u):ik s Z H a u=dn d a:=by
 unfold ik;cases e:dn d a with
 |true=>exact @decide_eq_true _ (Classical.propDecidable _) ⟨d,o,h,e⟩
 |false=>
  refine @decide_eq_false _ (Classical.propDecidable _) ?_;rintro⟨g,c,f,b⟩;rw[Vw.uniq f h c o,e]at b;cases b
theorem jd(I:Inv X pins σ H s){b:D}:∀{ds:List D}{c:List V}{a:List Value},aW Z H ds c->Vals c a->(∀d∈ds,aK 8 d=true)->a.any (ik s Z H b)=ds.any λd=>dn d b
 |[],_,_,h,r,_=>by rw[h.nil_inv]at r;cases r;rfl
 |d::ds,_,_,h,r,o=>by
  obtain⟨v,vr,rfl,h1,h2⟩:=h.cons_inv;cases r with
  |cons e f=>
   rw[List.any_cons,List.any_cons,jd I h2 f λz g=>o z (by simp[g]),qq (o d (by simp)) (fT I h1.now e (o d (by simp)))]
theorem je(I:Inv X pins σ H s){A:Around}{b:D}{w:Value}(c:A.units+8<cLine)(f:aK 8 b=true)(g:Vw s Z H b w) :
  ∀{ds:List D}{i:List V}{a:List Value},aW Z H ds i->Vals i a->(∀d∈ds,aK 8 d=true)->∀u∈a,SeqAt.EqAt A s u w (ik s Z H b u)
 |[],_,_,h,r,_,u,hm=>by rw[h.nil_inv]at r;cases r;simp at hm
 |d::ds,_,_,h,r,o,u,hm=>by
  obtain⟨v,vr,rfl,h1,h2⟩:=h.cons_inv;cases r with
  |cons k l=>
   rcases List.mem_cons.mp hm with e|hm
   .subst e
    have j:=fT I h1.now k (o d (by simp))
    rw[qq (o d (by simp)) j]
    exact fA I 8 A d b _ w c (o d (by simp)) f j g
   .exact je I c f g h2 l (λz m=>o z (by simp[m])) u hm
end
section
variable{X:Cx}{Γ:kc}{bw:Bool}{a b e:Expr}{ca cb cc c:Ex}{pos:Pos}
def uA(op:CmpOp):R2:=λx y H Q=>∃Z a b k,Now Z H a x/\Now Z H b y/\bY op a b=.ok k/\Q (.bl k) H
theorem mV{Z:Addr->Prop}{H:Hp}{b:List L2.Key}{ds:List D}{x:V}(h:Now Z H (.dct b ds) x):∃a,x=.ref a:=by
 have h:Rep Z H (.dct b ds) x:=h;simp only[Rep]at h;obtain⟨a,_,e,_⟩:=h;exact⟨a,e⟩
theorem jf{Z:Addr->Prop}{H:Hp}{f l:D}{x y:V}{k:Bool}{u v:Value}(d:Now Z H f x)(m:Now Z H l y)(e:RelV x u)(o:RelV y v)(h:isD f l=.ok k):plainIs u v=true/\(u==v)=k:=by
 have xE:∀{g:List D}{x:V}{u:Value},Now Z H (.lst g) x->RelV x u->∃a,u=.ref a:=λn r=>by
  obtain⟨a,_,rfl,_⟩:=dg n;exact⟨a,r⟩
 have j:∀{g:List D}{x:V}{u:Value},Now Z H (.tup g) x->RelV x u->∃a,u=.ref a:=λn r=>by
  obtain⟨a,_,rfl,_⟩:=e9 n;exact⟨a,r⟩
 cases l with
 |non=>
  cases eZ m;cases o;cases f with
  |non=>cases eZ d;cases e;cases h;exact⟨rfl,rfl⟩
  |bl b=>cases fy d;cases e;cases h;exact⟨rfl,rfl⟩
  |int i=>cases bh d;obtain⟨t,rfl⟩:=e;cases h;exact⟨rfl,rfl⟩
  |str i=>cases cM d;obtain⟨t,rfl⟩:=e;cases h;exact⟨rfl,rfl⟩
  |lst g=>obtain⟨a,rfl⟩:=xE d e;cases h;exact⟨rfl,rfl⟩
  |tup g=>obtain⟨a,rfl⟩:=j d e;cases h;exact⟨rfl,rfl⟩
  |dct p g=>obtain⟨a,rfl⟩:=mV d;cases e;cases h;exact⟨rfl,rfl⟩
  |ref n=>exact(show False by simpa only [Now,Rep]using d).elim
 |bl c=>
  cases fy m;cases o;cases f with
  |non=>cases eZ d;cases e;cases h;exact⟨rfl,rfl⟩
  |bl b=>cases fy d;cases e;cases h;exact⟨rfl,by cases b<;>cases c<;>rfl⟩
  |int i=>cases bh d;obtain⟨t,rfl⟩:=e;cases h;exact⟨rfl,rfl⟩
  |str i=>cases cM d;obtain⟨t,rfl⟩:=e;cases h;exact⟨rfl,rfl⟩
  |lst g=>obtain⟨a,rfl⟩:=xE d e;cases h;exact⟨rfl,rfl⟩
  |tup g=>obtain⟨a,rfl⟩:=j d e;cases h;exact⟨rfl,rfl⟩
  |dct p g=>cases h
  |ref n=>cases h
 |int _=>cases f<;>cases h
 |str _=>cases f<;>cases h
 |lst _=>cases f<;>cases h
 |tup _=>cases f<;>cases h
 |dct _ _=>cases f<;>cases h
 |ref _=>cases f<;>cases h
theorem zU{pins:List (Addr×Obj)}{s:Shared}{d:L2.St}{H:Hp}{x y:V}{u v:Value}{Q:VK}(L:X.A.units+64<cLine)(I:Inv X pins d H s)(n:RelV x u)(o:RelV y v)
  {Z:Addr->Prop}{a F:D}{k:Bool} (r:Now Z H a x) (t:Now Z H F y) (e:inD a F=.ok k) :
  (Q (.bl k) H->wpAny (model X.prog X.w) X.A (compareOp .In u v) (EP X pins d Q) X.xe s)/\(Q (.bl !k) H->wpAny (model X.prog X.w) X.A (compareOp .NotIn u v) (EP X pins d Q) X.xe s):=by
 unfold inD at e;split at e
 .rename_i z
  split at e
  .rename_i f
   cases e;simp only[Bool.and_eq_true]at f;obtain⟨g,c⟩:=f;have c:=List.all_eq_true.mp c;obtain⟨l,G,rfl,B,h⟩:=dg t;cases o;obtain⟨b,i,p,J⟩:=I.list (ll (K:=X.K) B);have C:=fT I r n g;have j:∀w,w∈b.toArray->SeqAt.EqAt X.A.in1 s w u (ik s Z H a w):=λw E=>je I (A:=X.A.in1) (by show X.A.units+1+8<cLine;omega) g C h i c w (by simpa using E)
   have m:b.toArray.any (ik s Z H a)=z.any λy=>dn y a:=by
    rw[←jd I h i c];simp
   exact⟨λq=>SeqAt.in_listAt (ik s Z H a) p.isList j ⟨.bl _,H,I,rfl,by rw[m];exact q⟩,λq=>SeqAt.notIn_listAt (ik s Z H a) p.isList j ⟨.bl _,H,I,rfl,by rw[m];exact q⟩⟩
  .cases e
 .rename_i z
  split at e
  .rename_i f
   cases e;simp only[Bool.and_eq_true]at f;obtain⟨g,c⟩:=f;have c:=List.all_eq_true.mp c;obtain⟨l,G,rfl,_,B,h⟩:=e9 t;cases o;obtain⟨b,i,p,J⟩:=I.tuple (oq (K:=X.K) B);have C:=fT I r n g;have j:∀w,w∈b.toArray->SeqAt.EqAt X.A.in1 s w u (ik s Z H a w):=λw E=>je I (A:=X.A.in1) (by show X.A.units+1+8<cLine;omega) g C h i c w (by simpa using E)
   have m:b.toArray.any (ik s Z H a)=z.any λy=>dn y a:=by
    rw[←jd I h i c];simp
   exact⟨λq=>SeqAt.in_tupleAt (ik s Z H a) p j ⟨.bl _,H,I,rfl,by rw[m];exact q⟩,λq=>SeqAt.notIn_tupleAt (ik s Z H a) p j ⟨.bl _,H,I,rfl,by rw[m];exact q⟩⟩
  .cases e
 .cases e
  cases cM r;cases cM t;exact⟨λq=>rR pins s d H _ _ u v Q I n o ⟨_,_,rfl,rfl,q⟩,λq=>kS pins s d H _ _ u v Q I n o ⟨_,_,rfl,rfl,q⟩⟩
 .cases e
theorem gX(F:X.A.units+64<cLine)(op:CmpOp):eW X (compareOp op) (uA op):=by
 intro pins s D H x y u v Q I m p h;obtain⟨Z,c,d,k,r,t,e,q⟩:=h;have l:EP X pins D Q (.bool k) s:=⟨.bl k,H,I,rfl,q⟩
 have a:∀{i j:Int}{o:CmpOp}{g:Int->Int->Bool},eW X (compareOp o) (xc λi j=>.bl (g i j))->c=.int i->d=.int j->k=g i j->wpAny (model X.prog X.w) X.A (compareOp o u v) (EP X pins D Q) X.xe s:=by
  intro i j o g z B C G;subst B C G;cases bh r;cases bh t;exact z pins s D H _ _ u v Q I m p ⟨_,_,rfl,rfl,q⟩
 cases op with
 |Eq=>
  unfold bY at e;dsimp only at e;split at e
  .rename_i f
   cases e;simp only[Bool.and_eq_true]at f;exact uz I (n:=7) (by omega) f.1 f.2 (fT I r m f.1) (fT I t p f.2) X.prog X.w X.xe _ l
  .cases e
 |NotEq=>
  unfold bY at e;dsimp only at e;split at e
  .rename_i f
   cases e;simp only[Bool.and_eq_true]at f;exact oT I (n:=7) (by omega) f.1 f.2 (fT I r m f.1) (fT I t p f.2) X.prog X.w X.xe _ l
  .cases e
 |Lt=>cases c<;>cases d<;>first | (cases e;exact a Dg rfl rfl rfl)|cases e
 |LtE=>cases c<;>cases d<;>first | (cases e;exact a Dh rfl rfl rfl)|cases e
 |Gt=>cases c<;>cases d<;>first | (cases e;exact a Di rfl rfl rfl)|cases e
 |GtE=>cases c<;>cases d<;>first | (cases e;exact a Dj rfl rfl rfl)|cases e
 |In=>
  have e:inD c d=.ok k:=by cases c<;>cases d<;>exact e
  exact(zU F I m p r t e).1 q
 |NotIn=>
  have e:(do let b ←inD c d;Out.ok (!b))=.ok k:=by cases c<;>cases d<;>exact e
  obtain⟨b,B,C⟩:=jb e;cases C;exact(zU F I m p r t B).2 q
 |Is=>
  have e:isD c d=.ok k:=by cases c<;>cases d<;>exact e
  obtain⟨z,E⟩:=jf r t m p e;exact wpAny_is_plain z (by rw[E];exact l)
 |IsNot=>
  have e:(do let b ←isD c d;Out.ok (!b))=.ok k:=by cases c<;>cases d<;>exact e
  obtain⟨b,B,C⟩:=jb e;cases C;obtain⟨z,E⟩:=jf r t m p B;exact wpAny_isNot_plain z (by rw[E];exact l)
theorem Bg{op:CmpOp}{c e:D}{x y:V}{Z:Addr->Prop}{H:Hp}{b:Bool}{d:D}{Q:VK}(i:Now Z H c x)(j:Now Z H e y)(f:∀a,Z a->H a≠none)
  (l:(do let r ←bY op c e;Out.ok (false,D.bl r))=.ok (b,d)) (k:∀v g h,dX Z H h g->dB bw b h H g d v->Q v g):uA op x y H Q:=by
 obtain⟨r,m,n⟩:=jb l;cases n;exact⟨Z,c,e,r,i,j,m,k _ H Z (dX.refl f) (.rep (eD rfl))⟩
end
theorem PT.imp{X:Cx}{e:Expr}{t t':TT}(h:PT X e t)(i:∀a H Q,t' a H Q->t a H Q):PT X e t':=λpins s a H Q I q=>h pins s a H Q I (i a H Q q)
theorem PW.imp{X:Cx}{e:Expr}{t t':TT}(h:PW X e t)(i:∀a H Q,t' a H Q->t a H Q):PW X e t':=λb pins s a H Q I q=>h b pins s a H Q I (i a H Q q)
section
variable{X:Cx}{Γ:kc}{bw:Bool}{a b e:Expr}{ca cb cc c:Ex}{pos:Pos}
theorem Bh{Z:Addr->Prop}{H:Hp}{d:D}{x:V}{t:Bool}{K:PySem.W.Frag}(n:Now Z H d x)(h:gW d=some t):mJ K x H t:=by
 cases d with
 |non=>cases eZ n;cases h;rfl
 |bl b=>cases fy n;cases h;rfl
 |int b=>cases bh n;cases h;rfl
 |str b=>
  cases cM n;simp only[gW]at h;split at h
  .rename_i j
   cases h;refine⟨bA j,?_⟩
   have e:((b.length:Int) != 0)=(b.length != 0):=by
    rw[Bool.eq_iff_iff];simp only[bne_iff_ne,ne_eq];omega
   rw[e]
  .cases h
 |lst f=>
  obtain⟨a,c,rfl,g,i⟩:=dg n;cases h;refine .inl ⟨c,ll g,?_⟩;have:=i.length;cases f<;>cases c<;>simp at this ⊢
 |tup f=>
  obtain⟨a,c,rfl,_,g,i⟩:=e9 n;cases h;refine .inr (.inl ⟨c,oq g,?_⟩);have:=i.length;cases f<;>cases c<;>simp at this ⊢
 |dct l f=>cases h
 |ref k=>cases h
end
def uB(Z:Addr->Prop)(H:Hp):List D->List V->Prop
 |[],a=>a=[]
 |d::ds,a=>∃v r,a=v::r/\Now Z H d v/\uB Z H ds r
section
variable{Z Z':Addr->Prop}{H H':Hp}
theorem uB.one{d:D}{xs:List V}(h:uB Z H [d] xs):∃x,xs=[x]/\Now Z H d x:=by
 obtain⟨v,r,e,a,b⟩:=h;exact⟨v,by rw[e,show r=[]from b],a⟩
end
def Args(bw:Bool)(Z:Addr->Prop)(H:Hp)(ds:List D)(a:List V):Prop:=if bw=true then uB Z H ds a else aW Z H ds a
theorem PA.imp{X:Cx}{e:List Expr}{t t':TA}(h:PA X e t)(i:∀a H Q,t' a H Q->t a H Q):PA X e t':=λb pins s a H Q I q=>h b pins s a H Q I (i a H Q q)
section
variable{X:Cx}{Γ:kc}{bw:Bool}{a b e:Expr}{es:List Expr}{ca cb cc c cs:Ex}{pos p:Pos}
theorem uC{Z:Addr->Prop}{H:Hp}{ds:List D}{a:List V}{i:Int}{d:D}(h:aW Z H ds a)(e:fW ds i=some d):∃v,fW a i=some v/\Rep Z H d v:=by
 unfold fW at e ⊢;rw[h.length];cases q:oo ds.length i with
 |none=>rw[q]at e;cases e
 |some j=>
  rw[q]at e;exact h.get e
theorem Bi{q r:D}{x y:V}{Z:Addr->Prop}{H:Hp}{e:Bool}{d:D}{Q:VK}{K:PySem.W.Frag}(g:Now Z H q x)(h:Now Z H r y)(c:∀a,Z a->H a≠none)(b:oO q r=.ok (e,d))
  (k:∀v i s,dX Z H s i->dB bw e s H i d v->Q v i):Dr K x y H Q:=by
 unfold oO at b;split at b
 .obtain⟨l,j,rfl,m,n⟩:=dg g
  cases bh h;split at b
  .rename_i t f
   cases b;obtain⟨v,o,p⟩:=uC n f;exact .inl ⟨l,j,_,v,rfl,rfl,ll m,o,k v H Z (dX.refl c) (.rep p)⟩
  .cases b
 .obtain⟨l,j,rfl,_,m,n⟩:=e9 g
  cases bh h;split at b
  .rename_i t f
   cases b;obtain⟨v,o,p⟩:=uC n f;exact .inr (.inl ⟨l,j,_,v,rfl,rfl,oq m,o,k v H Z (dX.refl c) (.rep p)⟩)
  .cases b
 .cases cM g
  cases bh h;split at b
  .rename_i u
   split at b
   .rename_i w f
    cases b;exact .inr (.inr ⟨_,_,w,rfl,rfl,bA u,f,k _ H Z (dX.refl c) (.rep (eD rfl))⟩)
   .cases b
  .cases b
 .cases b
theorem uD{α:Type}(xs:List α)(a b:Option Int):(bZ xs a b).length<=xs.length:=by
 unfold bZ;rw[List.length_take,List.length_drop];omega
theorem qr(n d:Nat)(v:Int):max 0 (min (if v<0 then v+(n:Int)else v) (n:Int))=((HT.fj n d (some v):Nat):Int):=by
 show max 0 (min (if v<0 then v+(n:Int)else v) (n:Int))=(((if v<0 then (v+(n:Int)).toNat else min v.toNat n):Nat):Int)
 by_cases a:v<0
 .simp only[if_pos a];omega
 .simp only[if_neg a];omega
theorem uE{a b:Int}{p q:Nat}(d:a=p)(e:b=q):sliceRange a b 1=(List.range (q - p)).map λk=>p+k:=by
 subst d e;unfold sliceRange;simp only[show((1:Int)>0)=True from by simp,if_true]
 by_cases c:(p:Int)<q
 .rw[if_pos c]
  have f:(((q:Int) - p+1 - 1) / 1).toNat=q - p:=by first|omega | (simp;done) | (simp;omega)
  rw[f];refine List.map_congr_left λk _=>?_
  omega
 .rw[if_neg c]
  have:q - p=0:=by omega
  rw[this];rfl
theorem jg(a b:Option Int)(n:Nat):Builtin.Str.strSliceIndices a b 1 n=(List.range (HT.fj n n b - HT.fj n 0 a)).map λk=>HT.fj n 0 a+k:=by
 unfold Builtin.Str.strSliceIndices;simp only[show((1:Int)>0)=True from by simp,if_true]
 refine uE ?_ ?_
 .cases a with
  |none=>rfl
  |some v=>exact qr n 0 v
 .cases b with
  |none=>rfl
  |some v=>exact qr n n v
theorem sm:∀(n a:Nat) (l:List Nat),a+n<=l.length->((List.range n).map λk=>a+k).filterMap (λi=>l[i]?)=(l.drop a).take n:=by
 intro n
 induction n with
 |zero=>intro a l _;simp
 |succ n c=>
  intro a l h;have b:a+n<l.length:=by omega
  rw[List.range_succ,List.map_append,List.filterMap_append,c a l (by omega),List.take_add_one,List.getElem?_drop]
  simp[List.getElem?_eq_getElem b]
theorem uF(x:Str)(a b:Option Int):(Builtin.Str.strSliceIndices a b 1 x.length).filterMap (x.cps[·]?)=bZ x.cps.toList a b:=by
 have c:x.cps.toList.length=x.length:=by simp[Str.length]
 have e:=HT.oE x.length 0 (Nat.zero_le _) a;have f:=HT.oE x.length x.length (Nat.le_refl _) b;rw[jg];unfold bZ;rw[c];generalize HT.fj x.length 0 a=p at *;generalize HT.fj x.length x.length b=q at *
 by_cases d:p<=q
 .have:=sm (q - p) p x.cps.toList (by rw[c];omega)
  simpa using this
 .have:q - p=0:=by omega
  rw[this];simp
def DC:V->Option Int->Option Int->Hp->VK->Prop:=λx a b H Q=>∃z,x=.str z/\z.length<=sizeLine/\Q (.str ⟨(bZ z.cps.toList a b).toArray⟩) H
theorem jh:AZ X DC:=by
 intro pins s G H x v J K a b L Q I j k m n h;obtain⟨z,rfl,M,q⟩:=h;obtain⟨t,rfl⟩:=j;refine⟨"str",_,F.slot_str_getitem.lookup,typeIs_str _ _ _,?_⟩
 have part:∀{w:Value}{o:Option Int},IsPart w o->∃p:Option (Int×Tok),w=partValue p/\p.map (·.1)=o:=λh=>by
  cases h with
  |none=>exact⟨none,rfl,rfl⟩
  |int i t=>exact⟨some (i,t),rfl,rfl⟩
 obtain⟨d,r,m1⟩:=part m;obtain⟨e,y,m2⟩:=part n;subst r y;refine wpAny_getItem_str_slice (l:=d) (u:=e) (st:=none) k rfl ?_
 have A:(slicePicked z d e none).filterMap (z.cps[·]?)=bZ z.cps.toList a b:=by
  unfold slicePicked;rw[m1,m2];exact uF z a b
 have N:(bZ z.cps.toList a b).length<=z.length:=by
  have:=uD z.cps.toList a b;simpa[Str.length]using this
 unfold sliceMade;split
 .rename_i g
  have c:(slicePicked z d e none).length=z.length:=by
   simp only[Bool.and_eq_true,beq_iff_eq]at g;exact g.2
  have B:(⟨(bZ z.cps.toList a b).toArray⟩:Str)=z:=by
   unfold slicePicked at c;rw[m1,m2]at c;have c:(Builtin.Str.strSliceIndices a b 1 z.length).length=z.length:=c;rw[jg,List.length_map,List.length_range]at c;have O:=HT.oE z.length z.length (Nat.le_refl _) b;have f:z.cps.toList.length=z.length:=by simp[Str.length]
   have C:bZ z.cps.toList a b=z.cps.toList:=by
    unfold bZ;rw[f]
    by_cases D:z.length=0
    .have:z.cps.toList=[]:=List.eq_nil_of_length_eq_zero (by rw[f];exact D)
     rw[this];simp
    .have E:HT.fj z.length 0 a=0:=by omega
     rw[E,List.drop_zero,List.take_of_length_le (by rw[f];omega)]
   rw[C]
  refine⟨.str z,H,I,⟨t,rfl⟩,?_⟩;rw[B]at q;exact q
 .rw[A]
  refine⟨?_,.str _,H,I.tok _,⟨_,rfl⟩,q⟩
  show(bZ z.cps.toList a b).toArray.size<=sizeLine
  rw[List.size_toArray];omega
def DD(K:PySem.W.Frag):V->Option Int->Option Int->Hp->VK->Prop:=λx a b H Q=>Dt K x a b H Q\/DC x a b H Q
end
noncomputable def ji(F:List D->Out Rs):Sp:=λg H Q _=>
 ∃Z e b d,(∀a,Z a->H a≠none)/\aW Z H e g/\F e=.ok (b,d)/\∀v c f,dX Z H f c->dB false b f H c d v->Q v c
theorem dB.weak{bw a:Bool}{Z:Addr->Prop}{c H:Hp}{d:D}{v:V}(h:dB false a Z c H d v):dB bw a Z c H d v:=by
 unfold dB at h ⊢;split
 .rename_i b;rw[if_pos b]at h;exact h
 .rename_i b;rw[if_neg b,if_neg Bool.false_ne_true]at h
  split
  .exact h.now
  .exact h
section
variable{X:Cx}{Γ:kc}{bw:Bool}{a b e:Expr}{es:List Expr}{ca cb cc c cs:Ex}{pos p:Pos}
structure DE(X:Cx)(k:Nat)(x:Str)(F:List D->Out Rs):Prop where
 ex:∃(f:Addr) (fd:FuncData) (ps:List Str),X.mg x=some (.ref f)/\PySem.W.keepIn X.K (.ref f)=true/\Binds X.K fd ps []/\cX X.prog X.w X.K X.mg X.base iy k f fd ps (ji F)
inductive ej (h:Heap):Value->Bool->Prop where
 |non:ej h .none false
 |bl (b:Bool):ej h (.bool b) b
 |int (i:Int) (t:Tok):ej h (.int i t) (i != 0)
 |str (x:Str) (t:Tok):x.length<=sizeLine->ej h (.str x t) ((x.length:Int) != 0)
 |lst {l:Addr}{its:Array Value}:h.IsList l its->its.size<=sizeLine->ej h (.ref l) (!its.isEmpty)
 |tup {l:Addr}{its:Array Value}:IsTup h l its->its.size<=sizeLine->ej h (.ref l) (!its.isEmpty)
theorem ej.keep{h h':Heap}{u:Value}{t:Bool}(k:∀b o,(u=.ref b)->h.get? b=some o->h'.get? b=some o)(x:ej h u t):ej h' u t:=by
 cases x with
 |non=>exact .non
 |bl=>exact .bl _
 |int i t=>exact .int i t
 |str x t z=>exact .str x t z
 |lst q z=>obtain⟨o,a,c⟩:=q;exact .lst ⟨o,k _ o rfl a,c⟩ z
 |tup q z=>obtain⟨o,a,c⟩:=q;exact .tup ⟨o,k _ o rfl a,c⟩ z
theorem ej.run{prog:Program}{w:World}{A:Around}{E:Value->Shared->Prop}{s:Shared}{u:Value}{t:Bool}{Q:Bool->Shared->Prop}(x:ej s.heap u t)(q:∀a,Q t {s with toks:=a}):wpAny (model prog w) A (truthy u) Q E s:=by
 have b:=fw;cases x with
 |non=>exact truthy_none (q s.toks)
 |bl=>exact wpAny_truthy_bool (q s.toks)
 |int i t=>exact PySem.P.truthy_int (q s.toks)
 |str x t z=>exact PySem.P.truthy_str (by omega) (q _)
 |lst h z=>exact wpAny_truthy_list h (by omega) (q _)
 |tup h z=>exact truthy_tuple h (by omega) (q _)
theorem uG{pins:List (Addr×Obj)}{w:L2.St}{H:Hp}{s:Shared}{Z:Addr->Prop}{d:D}{v:V}{u:Value}{t:Bool}(I:Inv X pins w H s)(n:Now Z H d v)(r:RelV v u)(h:gW d=some t):ej s.heap u t:=by
 cases d with
 |non=>cases eZ n;cases r;cases h;exact .non
 |bl b=>cases fy n;cases r;cases h;exact .bl _
 |int b=>cases bh n;obtain⟨k,rfl⟩:=r;cases h;exact .int _ _
 |str b=>
  cases cM n;obtain⟨k,rfl⟩:=r;simp only[gW]at h;split at h
  .rename_i x
   cases h
   have e:((b.length:Int) != 0)=(b.length != 0):=by
    rw[Bool.eq_iff_iff];simp only[bne_iff_ne,ne_eq];omega
   rw[←e];exact .str b k (bA x)
  .cases h
 |lst f=>
  obtain⟨a,i,rfl,j,l⟩:=dg n;cases r;cases h;obtain⟨c,g,p,m⟩:=I.list (ll (K:=X.K) j)
  have e:(!f.isEmpty)=!c.toArray.isEmpty:=by
   have o:=l.length;have q:=g.length;cases f<;>cases i<;>cases c<;>simp at o q ⊢
  rw[e];exact .lst p.isList (by rw[List.size_toArray,←g.length];exact m)
 |tup f=>
  obtain⟨a,i,rfl,_,j,l⟩:=e9 n;cases r;cases h;obtain⟨c,g,p,m⟩:=I.tuple (oq (K:=X.K) j)
  have e:(!f.isEmpty)=!c.toArray.isEmpty:=by
   have o:=l.length;have q:=g.length;cases f<;>cases i<;>cases c<;>simp at o q ⊢
  rw[e];exact .tup p (by rw[List.size_toArray,←g.length];exact m)
 |dct y f=>cases h
 |ref k=>cases h
section
variable{prog:Program}{w:World}{A:Around}{R:Result->Shared->Prop}{J:Addr}{fp wr:List Addr}{n:Nat}{P:Nat->Value->Prop}{T:Nat->Heap->Prop}
theorem uH(W:Walks prog w A.in1 J fp wr n P T)(f:Nat->Bool)(G:Heap->Prop)(B:∀h h':Heap,G h->(∀b o,b∉wr->h.get? b=some o->h'.get? b=some o)->G h')
  (C:∀i v (h:Heap),P i v->G h->ej h v (f i)):∀(m i:Nat) (s:Shared),n - i=m->i<=n->T i s.heap->G s.heap ->
  (∀h' c,(∀b o,b∉wr->s.heap.get? b=some o->h'.get? b=some o)->R (.ok (.ret (.bool (((List.range n).drop i).all f)))) {s with heap:=h',toks:=c}) ->
  codeAny (model prog w) A (.builtin "all.loop" ⟨[.ref J],[]⟩) R s:=by
 intro m
 induction m with
 |zero=>
  intro i s D E j g a;obtain rfl:i=n:=by omega
  refine codeAny_builtin PySem.F.entry_all_loop ?_;rw[Around.under_plainId PySem.F.plain_all_loop _];refine wpAny_bind (m:=pyNext (.ref J)) (W.done s _ _ j λh' c d=>wpAny_bind (wpAny_rule (wpAny_pure ?_)))
  have q:=a h' c d;rw[List.drop_of_length_le (by simp)]at q
  exact q
 |succ m H=>
  intro i s D E j g a;have k:i<n:=by omega
  have u:(List.range n).drop i=i::(List.range n).drop (i+1):=by
   rw[List.drop_eq_getElem_cons (by simpa using k)];simp
  refine codeAny_builtin PySem.F.entry_all_loop ?_;rw[Around.under_plainId PySem.F.plain_all_loop _];refine wpAny_bind (m:=pyNext (.ref J)) (W.item i s _ _ k j λv h' c I l d=>?_)
  have x:G h':=B _ _ g d;refine wpAny_bind (wpAny_holding ((C i v h' I x).run (s:={s with heap:=h',toks:=c}) λp=>?_))
  refine wpAny_bind (wpAny_letGo ?_);cases e:f i with
  |true=>
   simp only[if_true];refine wpAny_pure ⟨plainId_quiet PySem.F.plain_all_loop _,H (i+1) _ (by omega) k l x λK r t=>?_⟩
   have q:=a K r λb o y z=>t b o y (d b o y z)
   rw[u,List.all_cons,e,Bool.true_and]at q;exact q
  |false=>
   simp only[Bool.false_eq_true,if_false];refine wpAny_bind (wpAny_rule (wpAny_pure ?_));have q:=a h' p d;rw[u,List.all_cons,e,Bool.false_and]at q;exact q
end
theorem qu:∀{ds:List D}{bs:List Bool},ja ds=some bs->bs.length=ds.length
 |[],_,h=>by cases h;rfl
 |d::ds,bs,h=>by
  simp only[ja]at h;split at h
  .rename_i b a h1 h2
   cases h;rw[List.length_cons,List.length_cons,qu h2]
  .cases h
theorem qv:∀{ds:List D}{bs:List Bool}{i:Nat}{d:D},ja ds=some bs->ds[i]?=some d->∃b,bs[i]?=some b/\gW d=some b
 |[],_,_,_,_,h=>by simp at h
 |d::ds,bs,i,j,h,a=>by
  simp only[ja]at h;split at h
  .rename_i b e h1 h2
   cases h;cases i with
   |zero=>simp at a;subst a;exact⟨b,rfl,h1⟩
   |succ i=>
    obtain⟨c,f,g⟩:=qv (i:=i) h2 (by simpa using a)
    exact⟨c,by simpa using f,g⟩
  .cases h
theorem all_range:∀(bs:List Bool),((List.range bs.length).all λi=>(bs[i]?).getD true)=bs.all id
 |[]=>rfl
 |b::bs=>by
  rw[List.length_cons,List.range_succ_eq_map,List.all_cons,List.all_map,List.all_cons,←all_range bs];rfl
def HU(K:PySem.W.Frag):List V->Hp->VK->Prop:=λb H Q=>∃Z a bs x,b=[x]/\Now Z H (.lst a) x/\ja a=some bs/\Q (.bl (bs.all id)) H
theorem Bj{pins:List (Addr×Obj)}{k:L2.St}{H:Hp}{s:Shared}{Z:Addr->Prop}{ds:List D}{d:List V}{a:List Value}{bs:List Bool}(I:Inv X pins k H s)(e:aW Z H ds d)(f:Vals d a)(l:ja ds=some bs)(dflt:Bool) :
  ∀(i:Nat) (v:Value),a.toArray[i]?=some v->ej s.heap v ((bs[i]?).getD dflt):=by
 intro i v c;have c:a[i]?=some v:=by simpa using c
 obtain⟨m,n⟩:=List.getElem?_eq_some_iff.mp c;obtain⟨x,o,g⟩:=lr f m;have t:=e.length;have u:=f.length;have h:ds[i]?=some ds[i]:=by simp[show i<ds.length by omega]
 obtain⟨y,j,p⟩:=e.get h;rw[o]at j;cases j
 obtain⟨b,q,r⟩:=qv l h;rw[q];rw[n]at g;exact uG I p.now g r
theorem uI(t:X.calm=true):dV X (.builtin "all") (HU X.K):=by
 intro pins s G H J L Q I r h;obtain⟨Z,M,bs,x,rfl,w,j,q⟩:=h;obtain⟨u,rfl,y⟩:=vals1 r;obtain⟨l,N,rfl,B,k⟩:=dg w;cases y;obtain⟨a,n,p,O⟩:=I.list (ll (K:=X.K) B);have c:l<s.heap.objs.size:=by obtain⟨_,e,_⟩:=p.isList;exact Heap.lt_size e
 have C:=Bj I k n j true;refine call_function_tree PySem.F.kind_all PySem.F.plain_all PySem.F.entry_all (PySem.F.args_all1 _) ?_;unfold Builtin.«all»;refine wpAny_bind (m:=oneArg "all" _) (wpAny_pure (wpAny_bind (wpAny_pyIter_list p.isList ?_)))
 refine wpAny_pure ⟨plainId_quiet PySem.F.plain_all_loop _,uH (Walks.list (A:=X.A.in1) (I.ok.hd t) s.heap.objs.size l (Nat.ne_of_lt c) a.toArray) (λi=>(bs[i]?).getD true)
  (λh=>∀b o,b≠s.heap.objs.size->s.heap.get? b=some o->h.get? b=some o) (λh h' g d b o f e=>d b o (by simpa using f) (g b o f e))
  (λi v h D g=>(C i v D).keep λb o e z=>g b o (Nat.ne_of_lt (Heap.lt_size z)) z) _ 0 _ rfl (Nat.zero_le _) ⟨⟨_,Heap.get?_push_size _ rfl,rfl,rfl⟩,p.isList.push _⟩ (λb o f e=>Heap.get?_push_of_some _ e) λh' E d=>?_⟩
 have e:((List.range a.toArray.size).drop 0).all (λi=>(bs[i]?).getD true)=bs.all id:=by
  rw[List.drop_zero,List.size_toArray,←n.length,k.length,←qu j];exact all_range bs
 rw[e]
 exact⟨.bl _,H,I.kept (h':=h') (t':=E) λb o z=>d b o (by
  have:=Nat.ne_of_lt (Heap.lt_size z);simpa using this) (Heap.get?_push_of_some _ z),rfl,q⟩
end
section
variable{X:Cx}{Γ:kc}{bw:Bool}{a b e:Expr}{es:List Expr}{ca cb cc c cs:Ex}{pos p:Pos}
noncomputable def i_.nm:i_->Str
 |.len=>"len" |.all=>"all" |.any=>"any" |.sorted=>"sorted" |.list=>"list" |.tuple=>"tuple" |.int=>"int" |.min=>"min" |.max=>"max" |.bool=>"bool"
theorem gY{Z:Addr->Prop}{H:Hp}{d:D}{v:V}{Q:VK}(b:∀a,Z a->H a≠none)(k:∀v c e,dX Z H e c->dB bw false e H c d v->Q v c)(h:ei d=some v):Q v H:=
 k _ H Z (dX.refl b) (.rep (eD h))
noncomputable def Ty.nm:Ty->Str
 |.int=>"int" |.str=>"str" |.bool=>"bool" |.list=>"list" |.tuple=>"tuple" |.dict=>"dict"
noncomputable def Ty.id:Ty->String
 |.int=>"int" |.str=>"str" |.bool=>"bool" |.list=>"list" |.tuple=>"tuple" |.dict=>"dict"
theorem xF(t:Ty):bootBuiltins t.nm=some (.type t.id):=by cases t<;>decide +kernel
theorem qw(K:PySem.W.Frag)(t:Ty):PySem.W.kitOne K (.type "NoneType") (.type t.id)=some false/\PySem.W.kitOne K (.type "bool") (.type t.id)=some (t==.bool||t==.int)/\PySem.W.kitOne K (.type "int") (.type t.id)=some (t==.int) /\
  PySem.W.kitOne K (.type "str") (.type t.id)=some (t==.str)/\PySem.W.kitOne K (.type "list") (.type t.id)=some (t==.list)/\PySem.W.kitOne K (.type "tuple") (.type t.id)=some (t==.tuple)/\PySem.W.kitOne K (.type "dict") (.type t.id)=some (t==.dict):=by
 cases t<;>refine⟨?_,?_,?_,?_,?_,?_,?_⟩<;>with_unfolding_all rfl
def DF(K:PySem.W.Frag):List V->Hp->VK->Prop:=λa H Q=>∃Z d x t b,a=[x,.ty (Ty.id t)]/\Now Z H d x/\uw d t=some b/\Q (.bl b) H
theorem hW{K:PySem.W.Frag}{H:Hp}{a:Addr}{c:List V}{X:Cx}{pins:List (Addr×Obj)}{d:L2.St}{s:Shared}(I:Inv X pins d H s)(h:Rd H a (.tup c)):∃o,s.heap.get? a=some o/\o.cls=.type "tuple":=by
 obtain⟨_,b,_,o,e,f,_⟩:c.length<=sizeLine/\∃b:List Value,Vals c b/\IsTup s.heap a b.toArray:=Rd.ok h I.hok;exact⟨o,e,f⟩
theorem uJ:dV X (.builtin "isinstance") (DF X.K):=by
 intro pins s y H M N Q I r h;obtain⟨Z,d,x,t,b,rfl,f,i,q⟩:=h;obtain⟨u,A,rfl,j,B⟩:=vals2 r;cases (show A=Value.type (Ty.id t)from B)
 obtain⟨C,D,E,F,n,G,J⟩:=qw X.K t;have e:∀l,EP X pins y Q (.bool b) {s with toks:=l}:=λl=>⟨.bl b,H,I.tok l,rfl,q⟩
 cases d with
 |non=>cases eZ f;cases i;exact cE I j .non C e
 |bl c=>cases fy f;cases i;exact cE I j (.bl c) D e
 |int c=>cases bh f;cases i;exact cE I j (.int c) E e
 |str c=>cases cM f;cases i;exact cE I j (.str c) F e
 |lst m=>
  obtain⟨a,p,rfl,g,w⟩:=dg f;cases i;rcases g with g|⟨o,g⟩
  .exact cE I j (.lst g) n e
  .exact cE I j (.ee g) n e
 |tup m=>
  obtain⟨a,p,rfl,_,g,w⟩:=e9 f;cases i;cases j;exact PySem.W.kia_one PySem.W.kitx_tuple I.kh (hW (K:=X.K) I g) G (λz=>nomatch z) e
 |dct L m=>
  have f:Rep Z H (.dct L m) x:=f;simp only[Rep]at f;obtain⟨a,p,rfl,_,g,w⟩:=f;cases i;exact cE I j (.dK g) J e
 |ref k=>cases i
end
abbrev qx(ifs:List Expr)(env:Env):Sem Bool:=forIn ifs true λc r=>if r=true then do let ok ←isTrue c env (eval c env);pure (ForInStep.yield ok)else pure (ForInStep.yield r)
section
variable{prog:Program}{w:World}{A:Around}{R:Result->Shared->Prop}{s:Shared}
theorem so{elt b iter:Expr}{ifs:List Expr}{scope:Scope}{pos:Pos}{it acc:Value}{env:Env}(J:Nat->Shared->Prop)
  (a:∀n s,J n s->wpAny (model prog w) A (pyNext it) (λr s1=>match r with
   |none=>R (.ok .next) s1
   |some v=>wpAny (model prog w) A (letOwnedTupleGo b it v) (λ_ d=>wpAny (model prog w) A (assign b env v) (λ_ s3=>wpAny (model prog w) A (qx ifs env) (λok s4=>
      if ok=true then wpAny (model prog w) A (eval elt env) (λx e=>wpAny (model prog w) A (call (.builtin "list.append") [acc,x]) (λ_ f=>∃m,m<n/\J m f) (λ_ _=>False) e) (λ_ _=>False) s4
      else ∃m,m<n/\J m s4) (λ_ _=>False) s3) (λ_ _=>False) d) (λ_ _=>False) s1) (λ_ _=>False) s)
  (n:Nat) (h:J n s):codeAny (model prog w) A (.compLoop (.ListComp elt [⟨b,iter,ifs,0⟩] scope pos) 0 it acc env) R s:=by
 refine codeAny_loop rfl J (λn s i=>?_) n h
 refine wpAny_noted (env:=env) (m:=compTurn (.ListComp elt [⟨b,iter,ifs,0⟩] scope pos) 0 it acc env) ?_;rw[compTurn_list];refine wpAny_bind (wpAny_standAt (wpAny_bind (wpAny_mono (a n s i) (λr s1 g=>?_) λ_ _ z=>z.elim)))
 cases r with
 |none=>exact wpAny_pure g
 |some v=>
  refine wpAny_bind (wpAny_mono g (λ_ d j=>wpAny_bind (wpAny_mono j (λ_ s3 k=>wpAny_bind (wpAny_mono k (λok s4 c=>?_) λ_ _ z=>z.elim)) λ_ _ z=>z.elim)) λ_ _ z=>z.elim)
  cases ok with
  |false=>exact wpAny_pure ⟨rfl,by simpa using c⟩
  |true=>
   rw[if_pos rfl]at c;refine wpAny_bind (wpAny_bind (wpAny_mono c (λx e l=>wpAny_bind (wpAny_mono l (λ_ f o=>?_) λ_ _ z=>z.elim)) λ_ _ z=>z.elim))
   exact wpAny_pure (wpAny_pure ⟨rfl,o⟩)
end
theorem oU{scope:Scope}{env:Env}(h:∀y∈scope.names,y.2=.free->∃c,env.cells.lookup y.1=some c) :
  ∃d,closureFor scope env=pure d/\(∀n c,(n,c)∈d->env.cells.lookup n=some c)/\∀y∈scope.names,y.2=.free->∃c,(y.1,c)∈d:=by
 have u:∀(l:List (Str×NameKind)) (b:List (Str×Addr)),(∀y∈l,y.2=.free->∃c,env.cells.lookup y.1=some c)->(∀n c,(n,c)∈b->env.cells.lookup n=some c) ->
   ∃d,(forIn l b λx r=>match x with | (name,kind)=>if (kind==NameKind.free)=true then do let a ←cellOf env name;pure (ForInStep.yield ((name,a)::r))else pure (ForInStep.yield r):Sem (List (Str×Addr)))=pure d /\
    (∀n c,(n,c)∈d->env.cells.lookup n=some c)/\(∀p∈b,p∈d)/\∀y∈l,y.2=.free->∃c,(y.1,c)∈d:=by
  intro l
  induction l with
  |nil=>intro b _ o;exact⟨b,rfl,o,λ_ w=>w,λ_ D=>absurd D (by simp)⟩
  |cons y l C=>
   intro b A o;obtain⟨n,k⟩:=y;cases g:(k==NameKind.free)with
   |false=>
    obtain⟨d,e,i,s,j⟩:=C b (λz hz=>A z (by simp[hz])) o
    refine⟨d,?_,i,s,λz hz f=>?_⟩
    .rw[List.forIn_cons]
     simp only[g,Bool.false_eq_true,if_false];exact e
    .rcases List.mem_cons.mp hz with rfl|hz
     .have:k=.free:=f
      rw[this]at g;exact absurd g (by decide)
     .exact j z hz f
   |true=>
    have B:k=.free:=by simpa using g
    obtain⟨c,t⟩:=A (n,k) (by simp) B
    obtain⟨d,e,i,s,j⟩:=C ((n,c)::b) (λz hz=>A z (by simp[hz])) (λE F G=>by
     rcases List.mem_cons.mp G with q|q
     .cases q;exact t
     .exact o E F q)
    refine⟨d,?_,i,λp w=>s p (by simp[w]),λz hz f=>?_⟩
    .rw[List.forIn_cons]
     simp only[g,if_true]
     have:cellOf env n=pure c:=by
      have t:env.cells.lookup n=some c:=t;unfold cellOf;rw[t]
     rw[this];exact e
    .rcases List.mem_cons.mp hz with rfl|hz
     .exact⟨c,s _ (by simp)⟩
     .exact j z hz f
 obtain⟨d,e,i,_,j⟩:=u scope.names [] h (λ_ _ z=>absurd z (by simp))
 refine⟨d,?_,i,j⟩;unfold closureFor;have H:=congrArg (λm:Sem (List (Str×Addr))=>m >>= λr=>pure r) e
 exact H
noncomputable def blk(X:Cx)(scope:Scope)(a:List (Str×Addr))(C:Addr)(N:List Str)(s₀:Shared)(H₀:Hp)(b:List Addr):Cx:=
 {X with N:=N,s₀:=s₀,H₀:=H₀,env:=compEnvC scope a C X.env,outer:=X.stack,stack:=X.stack,ex:=b,fn:=λ_=>false,pn:=[],xe:=λ_ _=>False}
theorem lookup_mem{α a:Type}[BEq α][LawfulBEq α]:∀{l:List (α×a)}{x:α}{v:a},l.lookup x=some v->(x,v)∈l
 |[],_,_,h=>by simp at h
 | (n,k)::r,x,v,h=>by
  rw[List.lookup_cons]at h;cases e:x==n with
  |true=>rw[e]at h;cases h;rw[eq_of_beq e];simp
  |false=>rw[e]at h;exact List.mem_cons_of_mem _ (lookup_mem h)
theorem mem_lookup{α a:Type}[BEq α][LawfulBEq α]:∀{l:List (α×a)}{x:α}{v:a},(x,v)∈l->∃u,l.lookup x=some u
 |[],_,_,h=>by simp at h
 | (n,k)::r,x,v,h=>by
  rw[List.lookup_cons];cases e:x==n with
  |true=>exact⟨k,rfl⟩
  |false=>
   rcases List.mem_cons.mp h with q|q
   .cases q;simp at e
   .exact mem_lookup q
theorem dY{env:Env}:∀(names:List (Str×NameKind)) (x:Str),(names.map λ(n,k)=>if (k==NameKind.free&&env.scope.kind==.function&&env.kindOf n==some .cell)then (n,NameKind.cell)else (n,k)).lookup x =
  (names.lookup x).map λk=>if (k==NameKind.free&&env.scope.kind==.function&&env.kindOf x==some .cell)then NameKind.cell else k
 |[],_=>rfl
 | (n,k)::r,x=>by
  have c:=dY (env:=env) r x
  show List.lookup x ((if (k==NameKind.free&&env.scope.kind==.function&&env.kindOf n==some .cell)=true then (n,NameKind.cell)else (n,k))::_)=_
  cases b:x==n with
  |true=>
   obtain rfl:x=n:=eq_of_beq b
   by_cases a:(k==NameKind.free&&env.scope.kind==.function&&env.kindOf x==some .cell)=true
   .rw[if_pos a,List.lookup_cons,List.lookup_cons]
    simp only[b,Option.map_some,if_pos a]
   .rw[if_neg a,List.lookup_cons,List.lookup_cons]
    simp only[b,Option.map_some,if_neg a]
  |false=>
   by_cases a:(k==NameKind.free&&env.scope.kind==.function&&env.kindOf n==some .cell)=true
   .rw[if_pos a,List.lookup_cons,List.lookup_cons]
    simp only[b];exact c
   .rw[if_neg a,List.lookup_cons,List.lookup_cons]
    simp only[b];exact c
structure fU(X:Cx)(scope:Scope)(tn cn:List Str)(cap:List Nat):Prop where
 kind:scope.kind=.function
 cell:∀y∈scope.names,y.2≠.cell
 names:∀y∈scope.names,y.2=.local->scope.names.lookup y.1=some .local
 free:∀y∈scope.names,y.2=.free->X.env.kindOf y.1=some .cell\/X.env.kindOf y.1=some .free
 len:cn.length=cap.length
 at':∀(j i:Nat) (x:Str),cn[j]?=some x->cap[j]?=some i->X.N[i]?=some x/\scope.names.lookup x=some .free
noncomputable def mW(cap:List Nat)(a:L2.St):L2.St:=cap.map λi=>(a[i]?).join
def fi(a:Nat)(cap:List Nat)(b:L2.St):L2.St:=List.replicate a none++mW cap b
section
variable{X:Cx}{scope:Scope}{tn cn:List Str}{cap:List Nat}
theorem sr{pins:List (Addr×Obj)}{j:L2.St}{H:Hp}{s:Shared}{J:List Addr}{D:List (Str×Addr)}{K:Heap}{tk:Nat}{m:Str->Option Value}(B:fU X scope tn cn cap)
  (I:Inv X pins j H s) (L:∀b∈J,iQ X pins H b) (O:∀b∈J,∃o,s.heap.get? b=some o) (w:∀n c,(n,c)∈D->X.env.cells.lookup n=some c) (c2:∀y∈scope.names,y.2=.free->∃c,(y.1,c)∈D)
  (M:∀b o,s.heap.get? b=some o->K.get? b=some o) (r:∃n,K.get? s.heap.objs.size=some {cls:=.type "list",data:=.seq ([]:List Value).toArray n}) (ns:K.Ns (s.heap.objs.size+1) m) :
  Inv (blk X scope D (s.heap.objs.size+1) (tn++cn) s H J) [] (fi tn.length cap j) (upd H s.heap.objs.size (.lst [])) {s with heap:=K,toks:=tk}:=by
 have P:∀b o,s.heap.get? b=some o->b≠s.heap.objs.size+1:=λb o e=>Nat.ne_of_lt (Nat.lt_succ_of_lt (Heap.lt_size e))
 have Q:∀b o,s.heap.get? b=some o->b≠s.heap.objs.size:=λb o e=>Nat.ne_of_lt (Heap.lt_size e)
 have cell:∀x c,D.lookup x=some c->∃v,s.heap.IsCell c v:=λx c e=>I.cell x c (w x c (lookup_mem e))
 have R:∀x c,D.lookup x=some c->c≠s.heap.objs.size+1/\c≠s.heap.objs.size:=λx c e=>by
  obtain⟨v,o,A,_⟩:=cell x c e;exact⟨P c o A,Q c o A⟩
 have S:∀b∈J,b<s.heap.objs.size:=λb g=>let ⟨o,e⟩:=O b g;Heap.lt_size e
 have fr:=I.hok.fresh (Nat.le_refl s.heap.objs.size);obtain⟨nd,r⟩:=r
 refine⟨⟨I.ok.mod,B.kind,I.ok.glob,I.ok.blt,Nat.le_succ _,λx y c C a=>?_,λx f=>?_,λx c e _=>absurd (show false=true from e) Bool.false_ne_true,I.ok.hd,I.ok.frames,.inl rfl,λb g=>⟨?_,λx c e z=>?_⟩,λb o e=>I.bs b o e,Nat.le_trans I.ok.Aw I.sz,λb o e g=>?_,λb g T=>?_,I.stack,I.pY⟩,
  rfl,I.bare,?_,⟨m,ns,λi x v C a e3=>?_⟩,λx c e=>?_,?_,λx c e=>?_,λp hp=>absurd (show p∈([]:List (Addr×Obj))from hp) (by simp),?_,?_⟩
 .exact I.ok.inj x y c (w x c (lookup_mem C)) (w y c (lookup_mem a))
 .have f:(relabel scope X.env).names.lookup x=some .cell\/(relabel scope X.env).names.lookup x=some .free:=f
  unfold relabel at f;simp only[dY]at f;cases q:scope.names.lookup x with
  |none=>rw[q]at f;simp at f
  |some k=>
   rw[q]at f;have hm:=lookup_mem q
   have h:k=.free:=by
    by_cases h:k=.free
    .exact h
    .have U:(k==NameKind.free)=false:=by simpa using h
     rw[Option.map_some]at f;simp only[U,Bool.false_and,Bool.false_eq_true,if_false,Option.some.injEq]at f;rcases f with z|z
     .exact absurd z (B.cell _ hm)
     .exact z
   obtain⟨c,V⟩:=c2 _ hm h;exact mem_lookup V
 .exact Nat.ne_of_lt (Nat.lt_succ_of_lt (S b g))
 .exact(L b g).2.2.2.2.1 x c (w x c (lookup_mem e)) z
 .rcases(L b g).2.2.2.1 with z|z
  .exact I.ok.tK b o e z
  .exact absurd (Nat.lt_of_lt_of_le (Heap.lt_size (I.ok.bs b o e).1) z) (Nat.lt_irrefl _)
 .rcases List.mem_cons.mp (I.ox b T)with z|z
  .exact(L b g).2.1 z
  .exact(L b g).2.2.1 z
 .exact Un.laid M (Nat.le_refl _) fr
 .have E:i<tn.length->False:=λF=>by
   have:(fi tn.length cap j)[i]?=some none:=by
    unfold fi;rw[List.getElem?_append_left (by simpa using F),List.getElem?_replicate,if_pos F]
   rw[this]at a;cases a
  have F:tn.length<=i:=Nat.le_of_not_lt E;have C:(tn++cn)[i]?=some x:=C;rw[List.getElem?_append_right F]at C
  have d:(mW cap j)[i - tn.length]?=some (some v):=by
   unfold fi at a;rw[List.getElem?_append_right (by simpa using F)]at a
   simpa using a
  unfold mW at d;rw[List.getElem?_map]at d;cases q:cap[i - tn.length]? with
  |none=>rw[q]at d;cases d
  |some N=>
   rw[q]at d;have a:(j[N]?).join=some v:=by simpa using d
   have e4:j[N]?=some (some v):=by
    cases q2:j[N]? with
    |none=>rw[q2]at a;cases a
    |some z=>rw[q2]at a;cases z with
     |none=>cases a
     |some z=>cases a;rfl
   obtain⟨hN,t⟩:=B.at' _ _ _ C q;have h:=B.free _ (lookup_mem t) rfl;have h:X.env.kindOf x=some .cell\/X.env.kindOf x=some .free:=h
   have G:CD X.env.scope x:=by
    rcases h with z|z
    .exact .inr (.inl z)
    .exact .inr (.inr z)
   obtain⟨m0,c0,Y⟩:=I.loc;obtain⟨u,ru,Z⟩:=Y N x v hN e4 G;refine⟨u,ru,.inr ⟨?_,?_⟩⟩
   .show(relabel scope X.env).names.lookup x=some .cell\/(relabel scope X.env).names.lookup x=some .free
    unfold relabel;simp only[dY,t,Option.map_some];split
    .exact .inl rfl
    .exact .inr rfl
   .have Z:∃c,X.env.cells.lookup x=some c/\s.heap.IsCell c (some u):=by
     rcases Z with ⟨z,_⟩|⟨_,z⟩
     .rcases h with y|y<;>rw[y]at z<;>cases z
     .exact z
    obtain⟨c,V,a0⟩:=Z;obtain⟨c',b0⟩:=c2 _ (lookup_mem t) rfl;obtain⟨e0,l⟩:=mem_lookup b0;have:=w _ _ (lookup_mem l);rw[V]at this;cases this
    obtain⟨o,A,r⟩:=a0;exact⟨c,l,o,M _ _ A,r⟩
 .obtain⟨v,o,A,r⟩:=cell x c e
  exact⟨v,o,M _ _ A,r⟩
 .show upd H s.heap.objs.size (.lst []) (s.heap.objs.size+1)=none
  rw[aI (Nat.succ_ne_self _)];exact I.hok.fresh (Nat.le_succ _)
 .refine⟨?_,λhz=>absurd (show false=true from hz) Bool.false_ne_true⟩
  rw[aI (R x c e).2];exact(I.fq x c (w x c (lookup_mem e))).1
 .refine I.hok.laid M (Nat.le_refl _) ⟨Nat.zero_le _,[],nd,.nil,r⟩
 .show(fi tn.length cap j).length=(tn++cn).length
  unfold fi mW;rw[List.length_append,List.length_append,List.length_replicate,List.length_map,B.len]
def xG(X:Cx)(ifs:List Expr)(t:TT):Prop:=∀(pins:List (Addr×Obj)) (s:Shared) (a:L2.St) (H:Hp) (Q:Bool->Hp->Prop),Inv X pins a H s->t a H Q->wpAny (model X.prog X.w) X.A (qx ifs X.env) (TP X pins a Q) X.xe s
theorem xH:xG X [] (λ_ H Q=>Q true H):=λpins s a H Q I h=>wpAny_pure ⟨H,I,h⟩
theorem xI{c:Expr}{t:TT}(h:PT X c t):xG X [c] t:=λpins s a H Q I q=>wpAny_tests_one (h pins s a H Q I q)
def kv(n:TI)(o:Nat)(cap:List Nat)(g:TG)(p:TT)(q:TE):TE:=λf H Q=>n f H λJ h=>∀D,h D=none->∃W:Nat->Nat->List V->Hp->Prop,(∃m,W 0 m [] (upd h D (.lst []))) /\
 ∀i m a c,W i m a c->c D=some (.lst a)/\((J.stop i c/\Q (.ref D) c)\/(J.go i c/\a.length<sizeLine/\∀x j,J.F8 i c x j->g x (fi o cap f) j λd r=>p d r λb k=>
  if b=true then q d k λy l=>l D=some (.lst a)/\∃e,e<m/\W (i+1) e (a++[y]) (upd l D (.lst (a++[y])))else ∃e,e<m/\W (i+1) e a k))
theorem kx{tg iter elt:Expr}{ifs:List Expr}{pos V:Pos}{wi:TI}{g:TG}{tc:TT}{te:TE}{use:Option (Value->Sem Unit)}{Q':Value->Shared->Prop}{Q:VK}{pins:List (Addr×Obj)}{f:L2.St}{H:Hp}{s:Shared}
  (hc:X.calm=true) (B:fU X scope tn cn cap) (hi:PI X tg iter wi) (hs:∀x,foldedSetIterable iter X.env x=pure x)
  (i0:∀v f H Q,g v f H Q->g v f H λM k=>Q M k/\M.length=f.length/\∀j,tn.length<=j->M[j]?=f[j]?)
  (a:∀l C t E d,PG (blk X scope l C (tn++cn) t E d) tg g/\xG (blk X scope l C (tn++cn) t E d) ifs tc/\PE (blk X scope l C (tn++cn) t E d) elt te)
  (j0:∀(S:Shared) (k:Hp) (C D:Addr) (m:Str->Option Value),Inv X pins f k S->S.heap.Ns C m->k C=none->C≠X.env.locals->X.s₀.heap.objs.size<=C->(∀x c,X.env.cells.lookup x=some c->c≠C)->(∀p∈X.pn++pins,p.1≠C)->Q (.ref D) k ->
   compPost (model X.prog X.w) X.A X.xe use Q' (.ref D) C (.ok .next) S)
  (I:Inv X pins f H s) (h:kv wi tn.length cap g tc te f H Q) :
  wpAny (model X.prog X.w) X.A (comprehension (.ListComp elt [⟨tg,iter,ifs,0⟩] scope pos) scope X.env V (newList []) false (eval iter X.env) use) Q' X.xe s:=by
 have k0:∀y∈scope.names,y.2=.free->∃c,X.env.cells.lookup y.1=some c:=λy hy hk=>I.ok.has y.1 (B.free y hy hk)
 obtain⟨l,l0,c1,c2⟩:=oU k0;refine wpAny_comprehension_free (use:=use) rfl hs l0 B.kind B.names ?_;refine cf (hi pins s f H _ I h) λv s1 N=>cf N λs0 s2 h2=>?_
 obtain⟨it,d,O,J,F,e,P,T,Y,f2,h⟩:=h2;subst e;have fr:=P.hok.fresh (Nat.le_refl s2.heap.objs.size);obtain⟨W,⟨m0,w0⟩,Z⟩:=h s2.heap.objs.size fr;refine wpAny_newObj_type (wpAny_newFunctionEnv B.cell (λy hy=>absurd hy (by simp)) (λN ns sb=>?_) B.kind)
 have n0:(s2.heap.push {cls:=.type "list",dict:=none,data:=.seq ([]:List Value).toArray}).objs.size=s2.heap.objs.size+1:=Heap.size_push _ _;dsimp only at ns sb ⊢;rw[n0]at ns sb ⊢;have kp:∀b o,s2.heap.get? b=some o->N.get? b=some o:=λb o e=>sb.extBut b o (Nat.ne_of_lt (Nat.lt_succ_of_lt (Heap.lt_size e))) (Heap.get?_push_of_some _ (Heap.get?_push_of_some _ e))
 have hD:∃n,N.get? s2.heap.objs.size=some {cls:=.type "list",data:=.seq ([]:List Value).toArray n}:=⟨0,sb.extBut _ _ (Nat.ne_of_lt (Nat.lt_succ_self _)) (Heap.get?_push_of_some _ (Heap.get?_push_size _ rfl))⟩;have a0:∀b∈d,∃o,s2.heap.get? b=some o:=λb a=>let ⟨o,e,_⟩:=T.obj 0 _ Y b a;⟨o,e⟩
 have I4:Inv (blk X scope l (s2.heap.objs.size+1) (tn++cn) s2 F d) [] (fi tn.length cap f) (upd F s2.heap.objs.size (.lst [])) {s2 with heap:=N,toks:=s2.toks+([]:List (Str×Value)).length}:=
  sr B P f2 a0 c1 c2 kp hD ns
 obtain⟨hg,ht,he⟩:=a l (s2.heap.objs.size+1) s2 F d;have b0:O 0 N:=T.keep 0 _ _ Y λb a o e=>kp b o e
 have o0:∀b∈d,upd F s2.heap.objs.size (.lst []) b=none:=λb a=>by
  obtain⟨o,e⟩:=a0 b a;rw[aI (Nat.ne_of_lt (Heap.lt_size e))];exact(f2 b a).1
 have G:∀{k:Hp}{pl:List (Addr×Obj)},(∀b∈d,k b=none)->∀b∈d,iQ (blk X scope l (s2.heap.objs.size+1) (tn++cn) s2 F d) [] k b:=λhn b a=>
  ⟨hn b a,(I4.ok.FX b a).1,I4.ok.tL b a,.inl a,(I4.ok.FX b a).2,λp hp=>absurd (show p∈([]:List (Addr×Obj))from hp) (by simp)⟩
 have L:codeAny (model X.prog X.w) X.A (.compLoop (.ListComp elt [⟨tg,iter,ifs,0⟩] scope pos) 0 (.ref it) (.ref s2.heap.objs.size) (compEnvC scope l (s2.heap.objs.size+1) X.env))
   (compPost (model X.prog X.w) X.A X.xe use Q' (.ref s2.heap.objs.size) (s2.heap.objs.size+1)) {s2 with heap:=N,toks:=s2.toks+([]:List (Str×Value)).length}:=by
  refine so (λn S=>∃i R k,Inv (blk X scope l (s2.heap.objs.size+1) (tn++cn) s2 F d) [] (fi tn.length cap f) k S/\O i S.heap/\(∀b∈d,k b=none)/\W i n R k) ?_ m0 ⟨0,[],_,I4,b0,o0,w0⟩
  rintro n s5 ⟨i,R,H5,I5,c0,e0,w5⟩;obtain⟨t0,p0⟩:=Z i n R H5 w5;rcases p0 with ⟨stop,qn⟩|⟨go,g0,step⟩
  .refine cf (T.done (blk X scope l (s2.heap.objs.size+1) (tn++cn) s2 F d) rfl rfl rfl hc i [] s5 _ H5 _ I5 (G (pl:=[]) e0) c0 stop) λr s6 ⟨hr,U⟩=>?_
   subst hr;obtain⟨mC,nC,_⟩:=U.loc
   have I7:Inv X pins f H5 s6:=by
    refine P.call' U.os U.base U.hok U.bare λb a=>?_
    obtain⟨f0,f1,f3,f4,f5,f6⟩:=f2 b a;exact⟨f4,f1,f5,f6⟩
   have hC:s2.heap.objs.size<=s2.heap.objs.size+1:=Nat.le_succ _;refine j0 s6 H5 (s2.heap.objs.size+1) s2.heap.objs.size mC I7 nC U.free (Nat.ne_of_gt (Nat.lt_of_lt_of_le P.lt hC)) (Nat.le_trans P.sz hC) (λx c e z=>?_) (λp hp z=>?_) qn
   .obtain⟨v,q⟩:=P.cell x c e
    exact absurd (Nat.lt_of_lt_of_le q.lt (by rw[z];exact hC)) (Nat.lt_irrefl _)
   .exact absurd (Nat.lt_of_lt_of_le (Heap.lt_size (P.pin p hp).1) (by rw[z];exact hC)) (Nat.lt_irrefl _)
  .refine cf (T.item (blk X scope l (s2.heap.objs.size+1) (tn++cn) s2 F d) rfl rfl rfl hc i [] s5 _ H5 _ I5 (G (pl:=[]) e0) c0 go) λr s6 ⟨u,hr,h6⟩=>?_
   subst hr;refine cf h6 λ_ s7 ⟨x,H7,I7,r7,y7,HV,Mm⟩=>?_
   have q0:=I7.pinned (G (pl:=[]) Mm) (T.obj _ _ HV);refine cf (hg _ s7 _ H7 x u _ q0 r7 (i0 _ _ _ _ (step x H7 y7))) λ_ s8 ⟨K,H8,I8,q8,l8,k8⟩=>?_
   refine cf (ht _ s8 K H8 _ I8 q8) λok s9 ⟨H9,I9,q9⟩=>?_
   have again:∀{sA:Shared}{HA:Hp},Inv (blk X scope l (s2.heap.objs.size+1) (tn++cn) s2 F d) ([]++iR d s7.heap) K HA sA->Inv (blk X scope l (s2.heap.objs.size+1) (tn++cn) s2 F d) [] (fi tn.length cap f) HA sA/\O (i+1) sA.heap/\∀b∈d,HA b=none:=λ{sA HA} IA=>by
    refine⟨(IA.gf (pins:=[])).weak l8.symm λj v hj=>?_,T.keep _ _ _ HV λb a o e=>(IA.pin (b,o) (List.mem_append_right _ (List.mem_append_right _ (eV a e)))).1,λb a=>?_⟩
    .have r0:tn.length<=j:=by
      refine Nat.le_of_not_lt λh0=>?_
      have:(fi tn.length cap f)[j]?=some none:=by
       unfold fi;rw[List.getElem?_append_left (by simpa using h0),List.getElem?_replicate,if_pos h0]
      rw[this]at hj;cases hj
     rw[k8 j r0];exact hj
    .obtain⟨o,e,_⟩:=T.obj _ _ HV b a
     exact(IA.pin (b,o) (List.mem_append_right _ (List.mem_append_right _ (eV a e)))).2.1
   cases ok with
   |false=>
    rw[if_neg Bool.false_ne_true]at q9 ⊢;obtain⟨m',hm,w'⟩:=q9;obtain⟨a1,a2,a3⟩:=again I9;exact⟨m',hm,i+1,R,H9,a1,a2,a3,w'⟩
   |true=>
    rw[if_pos rfl]at q9 ⊢;refine cf (he _ s9 K H9 _ I9 q9) λy sB ⟨v,HB,IB,rB,Mn,m',hm,w'⟩=>?_
    have hx:=kq (X:=blk X scope l (s2.heap.objs.size+1) (tn++cn) s2 F d) _ sB K HB (.ref s2.heap.objs.size) [v] (.ref s2.heap.objs.size) [y] (λ_ k=>k=upd HB s2.heap.objs.size (.lst (R++[v]))) IB rfl (.cons rB .nil)
     ⟨s2.heap.objs.size,R,v,rfl,rfl,Mn,g0,rfl⟩
    refine cf hx λ_ sC ⟨_,HC,IC,_,eC⟩=>?_
    subst eC;obtain⟨a1,a2,a3⟩:=again IC;exact⟨m',hm,i+1,R++[v],_,a1,a2,a3,w'⟩
 exact codeAny_compStart_list L (T.self X.A 0 _ _ _ b0 L)
theorem qy{i iter elt:Expr}{ifs:List Expr}{pos:Pos}{r:TI}{g:TG}{t:TT}{u:TE}(w:X.calm=true)(B:fU X scope tn cn cap)(y:PI X i iter r)(z:∀x,foldedSetIterable iter X.env x=pure x)
  (k:∀v f H Q,g v f H Q->g v f H λd l=>Q d l/\d.length=f.length/\∀j,tn.length<=j->d[j]?=f[j]?)
  (A:∀n C a c p,PG (blk X scope n C (tn++cn) a c p) i g/\xG (blk X scope n C (tn++cn) a c p) ifs t/\PE (blk X scope n C (tn++cn) a c p) elt u) :
  PE X (.ListComp elt [⟨i,iter,ifs,0⟩] scope pos) (kv r tn.length cap g t u):=by
 intro pins s f H Q I h;rw[eval_ListComp];refine kx (use:=none) w B y z k A (λE l C D m F G J K L M N q=>⟨m,G,λR O=>?_⟩) I h
 exact⟨.ref D,l,F.turned (it:=C) (t':=E.toks) (λb o P e=>O.extBut b o P e) J K (.inr L) M N,rfl,q⟩
theorem oV{n iter elt:Expr}{ifs:List Expr}{pos c k:Pos}{M:TI}{g:TG}{O:TT}{P:TE}{i:Nat}{x:Str}(V:X.N.Nodup)(r:X.N[i]?=some x)(R:X.env.scope.names.lookup x=some .local)
  (t:swapsWith (.ListComp elt [⟨n,iter,ifs,0⟩] scope pos) (some (.Name x c)) k.line X.env=pure true) (Y:X.calm=true) (B:fU X scope tn cn cap) (Z:PI X n iter M) (hs:∀x,foldedSetIterable iter X.env x=pure x)
  (u:∀v p H Q,g v p H Q->g v p H λl y=>Q l y/\l.length=p.length/\∀j,tn.length<=j->l[j]?=p[j]?)
  (hb:∀E C d f F,PG (blk X scope E C (tn++cn) d f F) n g/\xG (blk X scope E C (tn++cn) d f F) ifs O/\PE (blk X scope E C (tn++cn) d f F) elt P) :
  PS X (.Assign [.Name x c] (.ListComp elt [⟨n,iter,ifs,0⟩] scope pos) k) (AG (kv M tn.length cap g O P) (fv i)):=by
 intro pins s p H D I h;rw[exec_Assign_Name_used _ _ _ _ t];refine wpAny_bind (wpAny_standAt (wpAny_bind ?_));refine wpAny_bind (m:=comprehension (.ListComp elt [⟨n,iter,ifs,0⟩] scope pos) scope X.env _ (newList []) false (eval iter X.env) (some (assign (.Name x c) X.env))) ?_;refine kx (use:=some (assign (.Name x c) X.env)) (Q':=λ_ G=>wpAny (model X.prog X.w) X.A (pure ()) (λ_ J=>wpAny (model X.prog X.w) X.A (pure Flow.next) (SP X pins D) X.xe J) X.xe G) Y B Z hs u hb (λG y C S m I' ns h1 T h3 U h5 q=>?_) I h
 show wpAny (model X.prog X.w) X.A (assign (.Name x c) X.env (.ref S)) _ _ G
 refine wpAny_assign_Name (ki I' V r (.inl R) (v:=.ref S) rfl (λs2 I2 ch=>?_) (.inr R))
 obtain⟨a,sb,ha⟩:=ch
 have K:C≠a:=by
  rcases ha with rfl|ha
  .exact T
  .exact λz=>U _ _ ha z.symm
 refine⟨m,ns.sameBut sb K,λh' L=>wpAny_pure (wpAny_pure ?_)⟩
 exact⟨_,y,I2.turned (it:=C) (t':=s2.toks) (λb o nb e=>L.extBut b o nb e) h1 T (.inr h3) U h5,q⟩
end
theorem PI.imp{X:Cx}{b e:Expr}{t t':TI}(h:PI X b e t)(i:∀a H R,t' a H R->t a H R):PI X b e t':=λpins s a H R I q=>h pins s a H R I (i a H R q)
section
variable{Z:Addr->Prop}{H:Hp}
theorem jj:∀(n:Nat) (a:Int),(intsFrom a n).length=n
 |0,_=>rfl
 |n+1,a=>by rw[intsFrom,List.length_cons,jj n]
theorem ints_get:∀(n:Nat) (a:Int) (i:Nat) (d:D),(intsFrom a n)[i]?=some d->d=.int (a+i)
 |0,_,_,_,h=>by simp[intsFrom]at h
 |n+1,a,0,d,h=>by simp[intsFrom]at h;subst h;simp
 |n+1,a,i+1,d,h=>by
  simp only[intsFrom,List.getElem?_cons_succ]at h;rw[ints_get n (a+1) i d h]
  congr 1
  omega
noncomputable def Lg(x:Str):It:=⟨λi _=>i<x.cps.size,λi H v a=>a=H/\∃c,x.cps[i]?=some c/\v=.str ⟨#[c]⟩,λi _=>x.cps.size<=i⟩
end
theorem uK{P:Program}{w:World}{K:PySem.W.Frag}{U:Expr}(it:Addr)(x:Str)(t:Tok)(j:String)(f:j="str_ascii_iterator"\/j="str_iterator"):Turn P w K U (Lg x) [it] it (λi h=>h.IsStrIter it j x t i) where
 mem:=by simp
 obj:=λi h a b g=>by
  obtain rfl:b=it:=by simpa using g
  obtain⟨o,e,c,d⟩:=a;exact⟨o,e,λv z=>by rw[d]at z;cases z⟩
 keep:=λi h l a k=>let ⟨o,e,r⟩:=a;⟨o,k it (by simp) o e,r⟩
 item:=by
  intro X J L M m i pins s R H E I y a N;subst J L M;obtain⟨B,C,V,D,F,G⟩:=y it (by simp)
  have W:Walks X.prog X.w X.A it [it] [it] x.cps.size (SignAt x) (λi h=>h.IsStrIter it j x t i):=by
   rcases f with rfl|rfl
   .exact Walks.strAscii (I.ok.hd m) it x t
   .exact Walks.strWide (I.ok.hd m) it x t
  refine W.item i s _ _ N a λv l S Y p Z=>?_
  obtain⟨c,u,hx,rfl⟩:=Y;have I1:Inv X pins R H {s with heap:=l,toks:=S}:=I.turned (λb o g e=>Z b o (by simpa using g) e) B C D F G
  obtain⟨o,e,q,d⟩:=id p;refine⟨_,rfl,mI (s:={s with heap:=l,toks:=S}) (n:=j) e q d (by rcases f with rfl|rfl<;>decide) ⟨.str ⟨#[c]⟩,H,I1,⟨u,rfl⟩,⟨rfl,c,hx,rfl⟩,p,λb g=>(y b g).1⟩⟩
 done:=by
  intro X J L M m i pins s R H E I y a N;subst J L M;obtain⟨B,C,V,D,F,G⟩:=y it (by simp)
  have T:x.cps.size<=i:=N;rcases f with rfl|rfl
  .exact wpAny_pyNext_ascii_end (I.ok.hd m) a (by simp[T]) λl O=>⟨rfl,I.turned (t':=s.toks) (λb o g e=>O b o g e) B C D F G⟩
  .exact wpAny_pyNext_wide_end (I.ok.hd m) a (by simp[T]) λl O=>⟨rfl,I.turned (t':=s.toks) (λb o g e=>O b o g e) B C D F G⟩
 self:=λA i s Q E a h=>by
  rcases f with rfl|rfl
  .exact wpAny_pyIter_striter_ascii a h
  .exact wpAny_pyIter_striter_wide a h
section
variable{X:Cx}{Γ:kc}{bw:Bool}{tg e:Expr}{c cs:Ex}{pos p:Pos}
end
section
variable{X:Cx}{Γ:kc}{bw:Bool}{tg iter elt:Expr}{ifs:List Expr}{scope:Scope}{tn cn:List Str}{cap:List Nat}{Mo cc NI:Ex}{pos:Pos}{n:Nat}
theorem hX(n:Nat)(d:0<n):∀v b H Q,fv 0 v b H Q->fv 0 v b H λa c=>Q a c/\a.length=b.length/\∀j,n<=j->a[j]?=b[j]?:=λv b H Q h=>⟨h,by simp,λj e=>by
 rw[List.getElem?_set_ne];omega⟩
end
theorem PS.imp{X:Cx}{st:Stmt}{t t':TS}(h:PS X st t)(i:∀D a H,t' D a H->t D a H):PS X st t':=λpins s a H D I q=>h pins s a H D I (i D a H q)
theorem gS.imp{X:Cx}{st:List Stmt}{t t':TS}(h:gS X st t)(i:∀D a H,t' D a H->t D a H):gS X st t':=λpins s a H D I q=>h pins s a H D I (i D a H q)
section
variable{X:Cx}{Γ:kc}{e:Expr}{c:Ex}{st:Stmt}{rest:List Stmt}{a b:Lh}{pos pos':Pos}
end
section
variable{Z0 Z1 Z:Addr->Prop}{H0 H1 H:Hp}{ρ:xA}{σ:L2.St}
end
section
variable{X:Cx}{Γ:kc}{tg e:Expr}{c:Ex}{b:Lh}{tb:List Stmt}{pos pos':Pos}
def lx:List Nat->zM
 |[]=>CZ
 |i::a=>zN (fv i) (lx a)
end
section
variable{X:Cx}{Γ:kc}{e o:Expr}{c:Ex}{i j:Nat}{x y:Str}{p0 p1 p2 p3 p4 p5 pos:Pos}
end
theorem mX{X:Cx}{pins:List (Addr×Obj)}{p:L2.St}{H:Hp}{s:Shared}{h':Heap}{t':Nat}{h:List Addr}{a:Addr}{o:HO}(I:Inv X pins p H s)(j:∀b∈h,iQ X pins H b)
  (k:∀b o,b∉h->s.heap.get? b=some o->h'.get? b=some o) (t:s.heap.objs.size<=a) (l:b_ X.prog X.w (upd H a o) h' a o):Inv X pins p (upd H a o) {s with heap:=h',toks:=t' }:=by
 have x:=I.hok.fresh t;have f:∀b u,H b=some u->b∉h:=λb u e z=>by rw[(j b z).1]at e;cases e
 have g:∀b u,H b=some u->upd H a o b=some u:=λb u e=>by rw[aI (aY e x)];exact e
 refine I.step (g':=s.gens) (d':=s.drawn) (ch:=h) (λb i=>?_) (λb o _ _ d e _=>k b o d e) (λb o _ _ d e _=>⟨o.slots,k b o d e⟩) (λb u _ e n=>?_)
  (λb o d e=>⟨o,k b o d e⟩) (λb J e=>g b _ e) (λb u v e=>g b _ e) (λb K e=>⟨#[],by rw[g b _ e];simp⟩) (λm y=>?_) (λb u e=>?_) I.bare
 .obtain⟨L,A,M,B,C,D⟩:=j b i
  exact⟨B,A,C,D⟩
 .have:b≠a:=λz=>absurd (Heap.lt_size e) (by rw[z];exact Nat.not_lt.mpr t)
  rw[aI this];exact n
 .obtain⟨o,E,F,G,r⟩:=y
  exact⟨o,E,F,k _ o (λz=>(j _ z).2.1 rfl) G,r⟩
 .by_cases i:b=a
  .subst i
   rw[bc]at e;cases e
   exact l
  .rw[aI i]at e
   refine(I.hok b u e).stay (λc v d q=>k c v ?_ q) (λc q=>g c _ q) λc _ q=>g c _ q
   rcases d with z|z
   .rw[z];exact f b u e
   .exact f c _ z
theorem qz:∀{ds:List D}{xs:List Str}{Z:Addr->Prop}{H:Hp}{a:List V}{us:List Value},eh ds=some xs->aW Z H ds a->Vals a us->StrsAre us xs
 |[],xs,Z,H,a,us,h,r,q=>by
  cases h;rw[r.nil_inv]at q;cases q;exact .nil
 |d::ds,xs,Z,H,a,us,h,r,q=>by
  obtain⟨v,rs,rfl,b,c⟩:=r.cons_inv;cases d with
  |str x=>
   simp only[eh]at h;obtain⟨i,e,rfl⟩:=Option.map_eq_some_iff.mp h;simp only[Rep]at b;subst b;cases q with
   |cons f g=>
    obtain⟨t,rfl⟩:=f;exact .cons x t (qz e c g)
  |_=>cases h
def rJoin:V->List V->Hp->VK->Prop:=λx c H Q=>∃z Z b a y,x=.str z/\c=[y]/\Now Z H (.lst b) y/\eh b=some a/\z.length<=16/\(a.map (·.length)).sum+a.length<=1048576/\Q (.str (Txt.join z a)) H
theorem qA{X:Cx}:wO X "str.join" rJoin:=by
 intro pins s r H x w v A Q I b c h;obtain⟨z,Z,B,C,y,rfl,rfl,n,d,e,f,q⟩:=h;obtain⟨t,rfl⟩:=b;obtain⟨l,D,rfl,g,i⟩:=dg n;obtain⟨u,rfl,j⟩:=c.one;cases j;obtain⟨m,a,o,E⟩:=I.list (ll (K:=X.K) g);exact join_listW o.isList (by simpa using qz d i a) e f λp k=>⟨.str _,H,I.tok _,⟨p,rfl⟩,q⟩
section
variable{X:Cx}{Γ:kc}{bw:Bool}{a b:Expr}{rest:List Expr}{ca cb:Ex}{pos:Pos}
theorem xJ{i tb:TE}(j:PE X a i)(k:PE X (.BoolOp .And (b::rest) pos) tb):PE X (.BoolOp .And (a::b::rest) pos) (λe H Q=>i e H λx f=>∃c,mJ X.K x f c/\if c=true then tb e f Q else Q x f):=by
 intro pins s e H Q I h;refine BoolOp_and (cf (j pins s e H _ I h) λv l ⟨x,f,I1,r1,c,t1,q1⟩=>?_)
 refine cf (kT pins l e f x v (λd g=>d=c/\g=f) I1 r1 ⟨c,t1,rfl,rfl⟩) λd m ⟨g,I2,e1,e2⟩=>?_
 subst e1 e2;cases d with
 |true=>exact k pins m e g Q I2 q1
 |false=>exact⟨x,g,I2,r1,q1⟩
theorem Bk{i tb:TE}(j:PE X a i)(k:PE X (.BoolOp .Or (b::rest) pos) tb):PE X (.BoolOp .Or (a::b::rest) pos) (λe H Q=>i e H λx f=>∃c,mJ X.K x f c/\if c=true then Q x f else tb e f Q):=by
 intro pins s e H Q I h;refine BoolOp_or (cf (j pins s e H _ I h) λv l ⟨x,f,I1,r1,c,t1,q1⟩=>?_)
 refine cf (kT pins l e f x v (λd g=>d=c/\g=f) I1 r1 ⟨c,t1,rfl,rfl⟩) λd m ⟨g,I2,e1,e2⟩=>?_
 subst e1 e2;cases d with
 |false=>exact k pins m e g Q I2 q1
 |true=>exact⟨x,g,I2,r1,q1⟩
theorem xK{g:TE}(i:PE X a g):PE X (.UnaryOp .Not a pos) (λe H Q=>g e H λx b=>∃c,mJ X.K x b c/\Q (.bl (!c)) b):=by
 intro pins s e H Q I h;refine UnaryOp_ (cf (i pins s e H _ I h) λv j ⟨x,b,I1,r1,c,t1,q1⟩=>?_)
 refine not_of (cf (kT pins j e b x v (λd f=>d=c/\f=b) I1 r1 ⟨c,t1,rfl,rfl⟩) λd k ⟨f,I2,e1,e2⟩=>?_)
 subst e1 e2;exact⟨.bl (!d),f,I2,rfl,q1⟩
theorem dB.nw{a:Bool}{Z:Addr->Prop}{b H:Hp}{d:D}{v:V}(h:dB bw a Z b H d v):Now Z H d v:=by
 cases bw with
 |true=>exact h.now
 |false=>exact(h.weak (bw:=true)).now
end
noncomputable def DG(a:Scope)(x:Str):Bool:=match a.names.lookup x with
 |some .local|some .cell|some .free=>true
 |_=>false
noncomputable def uL(a:Scope)(x:Str):Bool:=match a.names.lookup x with
 |some .local|some .cell=>true
 |_=>false
noncomputable def ot(a:Scope)(x:Str):Bool:=a.names.lookup x==some .globalImplicit
noncomputable def okN(x:Str):Bool := !(x==("__debug__":Str))&&!(x==("__classdict__":Str))&&!(x==("__name__":Str))
noncomputable def xM(N:List Str)(x:Str):Option Nat:=N.findIdx? (· == x)
def ky(a:Scope)(N:List Str)(x:Str):Option Nat:=if DG a x&&okN x then xM N x else none
def uM(x:Str):Option Ty:=[Ty.int,.str,.bool,.list,.tuple,.dict].find? (λt=>t.nm==x)
noncomputable def isStar:Expr->Bool
 |.Starred _ _=>true
 |_=>false
noncomputable def isSlice:Expr->Bool
 |.Slice _ _ _ _=>true
 |_=>false
noncomputable def isSet:Expr->Bool
 |.Set _ _ _=>true
 |_=>false
noncomputable def il(scope a:Scope):Scope:={scope with names:=scope.names.map λ(n,k)=>if (k==.free&&a.kind==.function&&a.names.lookup n==some .cell)then (n,.cell)else (n,k)}
noncomputable def bP(scope:Scope):List Str:=(scope.names.filter λy=>y.2==.free).map (·.1)
def jk(a:Scope)(N:List Str):List Str->Option (List Nat)
 |[]=>some []
 |x::xs=>do let i ←ky a N x;let b ←jk a N xs;some (i::b)
def oW(scope:Scope)(sc:Scope)(x:Str):Bool:=
 scope.kind==.function&&scope.names.all (λy=>!(y.2==.cell))&&scope.names.all (λy=>!(y.2==.local)||scope.names.lookup y.1==some .local) &&
 scope.names.all (λy=>!(y.2==.free)||(sc.names.lookup y.1==some .cell||sc.names.lookup y.1==some .free)&&scope.names.lookup y.1==some .free) &&
 scope.names.lookup x==some .local&&decide ((x::bP scope).Nodup)
noncomputable def gm:List Comprehension->Option (Str×Pos×Expr×List Expr)
 |[⟨.Name x p,iter,ifs,0⟩]=>some (x,p,iter,ifs)
 |_=>none
theorem kz{a:List Comprehension}{x:Str}{p:Pos}{iter:Expr}{ifs:List Expr}(h:gm a=some (x,p,iter,ifs)):a=[⟨.Name x p,iter,ifs,0⟩]:=by
 unfold gm at h;split at h
 .cases h;rfl
 .cases h
theorem uN{N:List Str}{x:Str}{i:Nat}(h:xM N x=some i):N[i]?=some x:=by
 unfold xM at h;obtain⟨a,b,_⟩:=List.findIdx?_eq_some_iff_getElem.mp h;rw[List.getElem?_eq_getElem a,eq_of_beq b]
theorem qB{c:Scope}{N:List Str}{x:Str}{i:Nat}(h:ky c N x=some i):N[i]?=some x/\CD c x/\(x==("__debug__":Str))=false/\(x==("__classdict__":Str))=false:=by
 unfold ky at h;split at h
 .rename_i a
  simp only[Bool.and_eq_true,okN,Bool.not_eq_true']at a;refine⟨uN h,?_,a.2.1.1,a.2.1.2⟩;have b:=a.1;unfold DG at b;unfold CD;split at b
  .rename_i q;exact .inl q
  .rename_i q;exact .inr (.inl q)
  .rename_i q;exact .inr (.inr q)
  .cases b
 .cases h
theorem qC{x:Str}(h:okN x=true):(x==("__debug__":Str))=false/\(x==("__classdict__":Str))=false/\x≠"__name__":=by
 simp only[okN,Bool.and_eq_true,Bool.not_eq_true']at h;refine⟨h.1.1,h.1.2,λe=>?_⟩
 rw[e]at h;simp at h
noncomputable def dC:List Str:=["len","all","any","list","tuple","int","min","max","bool","isinstance","str","dict","range","sorted","enumerate","reversed","set","zip"]
theorem bu{e:Expr}{es:List Expr}{env:Env}(h:isStar e=false):starEach (e::es) env=(false,eval e env)::starEach es env:=by
 cases e<;>first|rfl | (cases h)
theorem cH{env:Env}{pos:Pos}:∀{es:List Expr},(∀e∈es,isStar e=false)->(backTo pos (starEach es env)).any (·.1)=false
 |[],_=>rfl
 |e::es,h=>by
  rw[bu (h e (by simp))]
  show(false||(backTo pos (starEach es env)).any (·.1))=false
  rw[cH λz hz=>h z (by simp[hz])]
  rfl
section
variable{X:Cx}{Γ:kc}{T:Tab}{k:Nat}{sc:Scope}{N:List Str}
theorem DH{x:Str}{t:Ty}(h:uM x=some t):x=t.nm/\t.nm∈dC:=by
 unfold uM at h;have a:=List.find?_some h;exact⟨(eq_of_beq a).symm,by cases t<;>decide⟩
end
section
variable{X:Cx}{Γ:kc}{T:Tab}{k:Nat}{sc:Scope}{N:List Str}
theorem uO{d:Scope}{N:List Str}:∀{xs:List Str}{a:List Nat},jk d N xs=some a->xs.length=a.length/\∀(j i:Nat) (x:Str),xs[j]?=some x->a[j]?=some i->N[i]?=some x
 |[],a,h=>by cases h;exact⟨rfl,λj i x e=>by simp at e⟩
 |x::xs,a,h=>by
  simp only[jk,Option.bind_eq_bind]at h;obtain⟨i,h1,h⟩:=Option.bind_eq_some_iff.mp h;obtain⟨f,g,h⟩:=Option.bind_eq_some_iff.mp h;cases h;obtain⟨k,l⟩:=uO g;refine⟨by rw[List.length_cons,List.length_cons,k],λj m y b c=>?_⟩
  cases j with
  |zero=>simp at b c;subst b c;exact(qB h1).1
  |succ j=>exact l j m y (by simpa using b) (by simpa using c)
theorem jl{iter:Expr}{env:Env}(h:isSet iter=false):∀x,foldedSetIterable iter env x=pure x:=by
 intro x;cases iter<;>first|rfl | (simp[isSet]at h)
theorem mY{op:CmpOp}{b:Expr}(h:isSet b=false):behindInMarks op b=false:=by
 cases b<;>first|rfl | (simp[isSet]at h)
end
def qD(a:Scope)(N:List Str)(x:Str):Option Nat:=if uL a x&&okN x then xM N x else none
noncomputable def jm:Expr->Bool
 |.ListComp .. |.SetComp .. |.DictComp ..=>true
 |_=>false
noncomputable def mZ(a:Scope)(x:Str)(b:Pos)(e:Expr):Bool:=match e with
 |.ListComp _ _ s _=>a.names.lookup x==some .local&&b.line==e.pos.line&&!(s.names.any λ(n,k)=>n==x&&(k==.local||k==.cell))
 |_=>false
section
variable{X:Cx}{Γ:kc}{T:Tab}{k:Nat}{sc:Scope}{N:List Str}
end
def bQ(N ps:List Str)(a:Scope):Bool:=
 a.kind==.function&&!a.isCoroutine&&!a.isGenerator&&decide N.Nodup&&decide (N.take ps.length=ps)&&ps.all (uL a)&&a.names.all λy=>!(y.2==.free)
theorem iz{N ps:List Str}{b:Scope}(h:bQ N ps b=true):ix N ps b:=by
 simp only[bQ,Bool.and_eq_true,Bool.not_eq_true',decide_eq_true_eq,List.all_eq_true,beq_iff_eq]at h;obtain⟨⟨⟨⟨⟨⟨c,d⟩,f⟩,g⟩,i⟩,j⟩,k⟩:=h;refine⟨c,d,f,g,i,λx l=>?_,λy m e=>?_⟩
 .have a:=j x l
  unfold uL at a;split at a
  .rename_i q;exact .inl q
  .rename_i q;exact .inr q
  .cases a
 .have:=k y m
  rw[e]at this;exact absurd this (by decide)
section
variable{P:Program}{w:World}{K:PySem.W.Frag}{mg:Str->Option Value}{base:Heap}{Γ:kc}{T:Tab}{k:Nat}
end
noncomputable def xN:Value->Bool
 |.type x=>x=="list"
 |_=>false
def m9(K:PySem.W.Frag):Bool:=K.all λp=>!xN p.2.cls
theorem m_:∀{K:PySem.W.Frag}{a:Addr}{o:Obj},K.lookup a=some o->(a,o)∈K
 |[],_,_,h=>by cases h
 | (b,p)::K,a,o,h=>by
  rw[List.lookup_cons]at h;split at h
  .rename_i e
   cases h;rw[eq_of_beq e];simp
  .exact List.mem_cons_of_mem _ (m_ h)
theorem DI{K:PySem.W.Frag}(b:m9 K=true){H:Hp}{a:Addr}{xs:List V}(h:kj K H a xs):Rd H a (.lst xs):=by
 rcases h with h|⟨o,c,n,d,e,_⟩
 .exact h
 .have f:=m_ d
  have:=List.all_eq_true.mp b _ f;rw[e]at this;exact absurd this (by decide)
noncomputable def uP(K:PySem.W.Frag)(x:Str):Bool:=match PySem.W.nsIn K mainGlobals x with
 |some none=>true
 |_=>false
def qE(K:PySem.W.Frag):Bool:=dC.all (uP K)
theorem uQ{K:PySem.W.Frag}{h:Heap}{a:Str->Option Value}(X:K.In h)(G:h.Ns mainGlobals a)(b:qE K=true):∀x∈dC,a x=none:=λx c=>by
 have:=List.all_eq_true.mp b x c;unfold uP at this;split at this
 .rename_i q;exact PySem.W.mg_none_of X G q
 .cases this
section
variable{prog:Program}{w:World}{A:Around}{E:Value->Shared->Prop}{s:Shared}
end
end Mir
namespace L2
open PySem PySem.Spec PyProof.Rows PySem.W
def DJ(X:Cx)(f:Addr)(c:List V)(a:St)(H:Hp)(Q:VK):Prop:=∀(pins:List (Addr×Obj)) (s:Shared) (b:List Value),Inv X pins a H s->Vals c b->wpAny (model X.prog X.w) X.A (call (.ref f) b) (EP X pins a Q) X.xe s
noncomputable def Cx.fz(X:Cx)(xs:List Str):Cx:={X with fn:=λy=>X.fn y&&!(xs.contains y)}
section
variable{X:Cx}{pins:List (Addr×Obj)}{σ:St}{H:Hp}{s:Shared}
end
end L2
namespace L2
open PySem PySem.Spec PyProof.Rows
theorem KT.length{H:Hp}{l:List (List Key×V)}{m:List (List Key×Addr×Value)}(q:KT H l m):m.length=l.length:=by
 induction q with
 |nil=>rfl
 |cons _ _ a=>rw[List.length_cons,List.length_cons,a]
end L2
namespace HT
open PySem PyProof.Rows
section
variable{prog:Program}{w:World}{A:Around}{E:Value->Shared->Prop}{s:Shared}
theorem uR{t b:Addr}{g:List Value}{Q:Value->Shared->Prop}(m:IsTup s.heap t #[])(o:IsTup s.heap b g.toArray)(h:Q (.ref b) s):wpAny (model prog w) A (binaryOp .Add (.ref t) (.ref b)) Q E s:=by
 obtain⟨⟨p,q,data,r⟩,i,j,n,k⟩:=id m;obtain⟨⟨l,e,data2,f⟩,a,c,u,d⟩:=id o;simp only at j k c d;subst j k c d
 exact concat_meets ⟨_,i,rfl⟩ ⟨_,a,rfl⟩ noFill_tuple_add seq_tuple_add PySem.F.slot_tuple_add PySem.F.entry_tuple_add (PySem.F.args_tuple_add_2 _ _)
   (tuple_addW0 t b #[] g.toArray n u q e r f rfl) ⟨i,a,h⟩
end
end HT
namespace L2
open PySem PySem.Spec PyProof.Rows
section
variable{X:Cx}
noncomputable def zV(K:PySem.W.Frag):R2:=λx y H Q=>∃a b c,x=.ref a/\y=.ref b/\ig K H a []/\ig K H b c/\Q (.ref b) H
theorem xO:eW X (binaryOp .Add) (zV X.K):=by
 intro pins s m H x y v u Q I d e h;obtain⟨a,b,n,rfl,rfl,f,g,q⟩:=h;cases d;cases e;obtain⟨i,j,k,_⟩:=I.tuple f;obtain⟨c,o,l,_⟩:=I.tuple g;cases j;exact HT.uR k l ⟨.ref b,H,I,rfl,q⟩
end
end L2
namespace Mir
open PySem PySem.Spec PyProof.Rows L2
end Mir
namespace Mir
open PySem L2
structure HW where
 name:Str
 qual:Str
 params:Arguments
 body:List Stmt
 scope:Scope
 ps:List Str
 cn:List Str
class aU where
 tab:Nat->HW
 ta:Nat->Addr
inductive Cell where
 |lst (ds:List D)
 |dK (kvs:List (Key×D))
 |dT (kvs:List (List Key×D))
 |dF (kvs:List (Key×D))
 |ins (C:Str) (fs:List (Str×D))
 |fn (j:Nat) (ly:List D)
 |tb (j:Nat) (p:Pos) (b:Bool)
abbrev aE:=List Cell
inductive aq (α:Type) where
 |ok (a:α) (Ω:aE)
 |exc (x:D) (Ω:aE)
 |bad
noncomputable def aq.bind{α b:Type}:aq α->(α->aE->aq b)->aq b
 |.ok a Ω,f=>f a Ω
 |.exc x Ω,_=>.exc x Ω
 |.bad,_=>.bad
abbrev aR:=List (Option D)
inductive aL {α β:Type} (R:α->β->Prop):List α->List β->Prop where
 |nil:aL R [] []
 |cons {a b as bs}:R a b->aL R as bs->aL R (a::as) (b::bs)
namespace aL
variable{α β:Type}{R S:α->β->Prop}
theorem length:∀{as:List α}{bs:List β},aL R as bs->bs.length=as.length
 |_,_,.nil=>rfl
 |_,_,.cons _ t=>by rw[List.length_cons,List.length_cons,length t]
theorem imp(h:∀a b,R a b->S a b):∀{as:List α}{bs:List β},aL R as bs->aL S as bs
 |_,_,.nil=>.nil
 |_,_,.cons r t=>.cons (h _ _ r) (imp h t)
theorem get:∀{as:List α}{bs:List β}{i:Nat}{a:α},aL R as bs->as[i]?=some a->∃b,bs[i]?=some b/\R a b
 |_,_,_,_,.nil,e=>by simp at e
 |_,_,0,_,.cons r _,e=>by simp at e;subst e;exact⟨_,rfl,r⟩
 |_,_,i+1,a,.cons _ t,e=>by
  obtain⟨u,h1,h2⟩:=get (i:=i) (a:=a) t (by simpa using e)
  exact⟨u,by simpa using h1,h2⟩
theorem DK:∀{as:List α}{bs:List β}{i:Nat}{b:β},aL R as bs->bs[i]?=some b->∃a,as[i]?=some a/\R a b
 |_,_,_,_,.nil,e=>by simp at e
 |_,_,0,_,.cons r _,e=>by simp at e;subst e;exact⟨_,rfl,r⟩
 |_,_,i+1,a,.cons _ t,e=>by
  obtain⟨u,h1,h2⟩:=DK (i:=i) (b:=a) t (by simpa using e)
  exact⟨u,by simpa using h1,h2⟩
theorem append:∀{as a:List α}{bs ds:List β},aL R as bs->aL R a ds->aL R (as++a) (bs++ds)
 |_,_,_,_,.nil,h=>h
 |_,_,_,_,.cons r t,h=>.cons r (append t h)
theorem one{a:α}{b:β}(h:R a b):aL R [a] [b]:=.cons h .nil
theorem take:∀{as:List α}{bs:List β} (n:Nat),aL R as bs->aL R (as.take n) (bs.take n)
 |_,_,0,_=>by simp;exact .nil
 |_,_,n+1,.nil=>by simp;exact .nil
 |_,_,n+1,.cons r t=>.cons r (take n t)
theorem drop:∀{as:List α}{bs:List β} (n:Nat),aL R as bs->aL R (as.drop n) (bs.drop n)
 |_,_,0,h=>h
 |_,_,n+1,.nil=>by simp;exact .nil
 |_,_,n+1,.cons r t=>drop n t
theorem reverse:∀{as:List α}{bs:List β},aL R as bs->aL R as.reverse bs.reverse
 |_,_,.nil=>.nil
 |_,_,.cons r t=>by rw[List.reverse_cons,List.reverse_cons];exact(reverse t).append (one r)
theorem set{a:α}{b:β}(r:R a b):∀{as:List α}{bs:List β} (n:Nat),aL R as bs->aL R (as.set n a) (bs.set n b)
 |_,_,_,.nil=>.nil
 |_,_,0,.cons _ t=>.cons r t
 |_,_,n+1,.cons q t=>.cons q (set r n t)
theorem nil_inv{bs:List β}(h:aL R [] bs):bs=[]:=by cases h;rfl
theorem cons_inv{a:α}{as:List α}{bs:List β}(h:aL R (a::as) bs):∃b r,bs=b::r/\R a b/\aL R as r:=by
 cases h with
 |cons r t=>exact⟨_,_,rfl,r,t⟩
end aL
mutual
noncomputable def au(α:List Addr)(Z:Addr->Prop)(H:Hp):D->V->Prop
 |.non,v=>v=.non
 |.bl b,v=>v=.bl b
 |.int i,v=>v=.int i
 |.str x,v=>v=.str x
 |.lst ds,v=>∃a c,v=.ref a/\Z a/\Rd H a (.lst c)/\dD α Z H ds c
 |.tup ds,v=>∃a c,v=.ref a/\Z a/\H a=some (.tup c)/\dD α Z H ds c
 |.dct _ _,_=>False
 |.ref n,v=>∃a,α[n]?=some a/\v=.ref a
noncomputable def dD(α:List Addr)(Z:Addr->Prop)(H:Hp):List D->List V->Prop
 |[],a=>a=[]
 |d::ds,a=>∃v r,a=v::r/\au α Z H d v/\dD α Z H ds r
end
theorem bB{α:List Addr}{Z:Addr->Prop}{H:Hp}:∀{ds:List D}{a:List V},dD α Z H ds a↔aL (au α Z H) ds a
 |[],a=>by
  simp only[dD];exact⟨λh=>by subst h;exact .nil,λh=>h.nil_inv⟩
 |d::ds,a=>by
  simp only[dD];constructor
  .rintro⟨v,r,rfl,h1,h2⟩
   exact .cons h1 (bB.mp h2)
  .intro h
   obtain⟨v,r,rfl,h1,h2⟩:=h.cons_inv;exact⟨v,r,rfl,h1,bB.mpr h2⟩
section
variable{α α':List Addr}{Z Z':Addr->Prop}{H H':Hp}
mutual
theorem au.mono(p:∀(n:Nat) (a:Addr),α[n]?=some a->α'[n]?=some a)(k:∀a o,Z a->H a=some o->H' a=some o)(z:∀a,Z a->Z' a):∀{d:D}{v:V},au α Z H d v->au α' Z' H' d v
 |.non,_,h=>by simpa only [au]using h
 |.bl _,_,h=>by simpa only [au]using h
 |.int _,_,h=>by simpa only [au]using h
 |.str _,_,h=>by simpa only [au]using h
 |.lst ds,v,h=>by
  simp only[au]at h ⊢;obtain⟨a,c,e,b,f,g⟩:=h;exact⟨a,c,e,z a b,lj (λo=>k a o b) f,dD.mono p k z g⟩
 |.tup ds,v,h=>by
  simp only[au]at h ⊢;obtain⟨a,c,e,b,f,g⟩:=h;exact⟨a,c,e,z a b,k a _ b f,dD.mono p k z g⟩
 |.dct i ds,v,h=>by simp only[au]at h
 |.ref n,v,h=>by
  simp only[au]at h ⊢;obtain⟨a,e,h⟩:=h;exact⟨a,p n a e,h⟩
theorem dD.mono(p:∀(n:Nat) (a:Addr),α[n]?=some a->α'[n]?=some a)(k:∀a o,Z a->H a=some o->H' a=some o)(z:∀a,Z a->Z' a):∀{ds:List D}{b:List V},dD α Z H ds b->dD α' Z' H' ds b
 |[],_,h=>by simpa only [dD]using h
 |d::ds,b,h=>by
  simp only[dD]at h ⊢;obtain⟨v,r,e,h1,h2⟩:=h;exact⟨v,r,e,au.mono p k z h1,dD.mono p k z h2⟩
end
end
def jn{K:Type}(R:D->V->Prop)(kvs:List (K×D))(kvs':List (K×V)):Prop:=aL (λp q=>p.1=q.1/\R p.2 q.2) kvs kvs'
variable [aU]
def fR(κ:Str->Addr->Prop)(R:D->V->Prop)(H:Hp)(a:Addr):Cell->Prop
 |.lst ds=>∃c,H a=some (.lst c)/\aL R ds c
 |.dK kvs=>∃kvs',H a=some (.dK kvs')/\jn R kvs kvs'
 |.dT kvs=>False
 |.dF kvs=>∃o kvs',H a=some (.ee o (.dK kvs'))/\jn R kvs kvs'
 |.ins C fs=>∃d e b,κ C d/\H a=some (.ins d e b)/\jn R fs b
 |_=>False
theorem jn.imp{K:Type}{R S:D->V->Prop}(h:∀d v,R d v->S d v){kvs:List (K×D)}{kvs':List (K×V)}(k:jn R kvs kvs'):jn S kvs kvs':=aL.imp (λa b q=>⟨q.1,h _ _ q.2⟩) k
theorem fR.imp{κ:Str->Addr->Prop}{R S:D->V->Prop}{H m:Hp}{a:Addr}{c:Cell}(h:∀d v,R d v->S d v)(e:∀o,H a=some o->m a=some o)(z:∀b o u,H b=some (.ee o u)->m b=some (.ee o u))(k:fR κ R H a c):fR κ S m a c:=by
 cases c with
 |lst s=>obtain⟨f,g,i⟩:=k;exact⟨f,e _ g,i.imp h⟩
 |dK l=>obtain⟨f,g,i⟩:=k;exact⟨f,e _ g,i.imp h⟩
 |dT l=>exact k.elim
 |dF l=>obtain⟨o,f,g,i⟩:=k;exact⟨o,f,e _ g,i.imp h⟩
 |ins C t=>obtain⟨n,q,f,r,g,i⟩:=k;exact⟨n,q,f,r,e _ g,i.imp h⟩
 |fn j ly=>exact k.elim
 |tb j p b=>exact k.elim
theorem fR.some{κ:Str->Addr->Prop}{R:D->V->Prop}{H:Hp}{a:Addr}{c:Cell}(k:fR κ R H a c):H a≠none:=by
 cases c with
 |lst h=>obtain⟨f,d,g⟩:=k;rw[d];simp
 |dK e=>obtain⟨f,d,g⟩:=k;rw[d];simp
 |dT e=>exact k.elim
 |dF e=>obtain⟨o,f,d,g⟩:=k;rw[d];simp
 |ins C i=>obtain⟨l,m,f,n,d,g⟩:=k;rw[d];simp
 |fn j ly=>exact k.elim
 |tb j p b=>exact k.elim
structure bI(κ:Str->Addr->Prop)(α:List Addr)(Z:Addr->Prop)(Ω:aE)(H:Hp):Prop where
 qF:α.Nodup
 wQ:aL (λc a=>fR κ (au α Z H) H a c) Ω α
 sep:∀a∈α,¬ Z a
 dom:∀a,Z a->H a≠none
structure cw(α:List Addr)(Z:Addr->Prop)(H:Hp)(α':List Addr)(Z':Addr->Prop)(H':Hp):Prop where
 pre:∀(n:Nat) (a:Addr),α[n]?=some a->α'[n]?=some a
 sub:∀a,Z a->Z' a
 new:∀a,Z' a->Z a\/H a=none
 Bl:∀a∈α',a∈α\/H a=none
 frm:∀a o,H a=some o->a∉α->H' a=some o
 has:∀a∈α,H' a≠none
 ee:∀a o u,H a=some (.ee o u)->H' a=some (.ee o u)
section
variable{κ:Str->Addr->Prop}{α α' DL:List Addr}{Z Z' Li:Addr->Prop}{Ω az:aE}{H H' Lj:Hp}
theorem cw.refl(h:∀a∈α,H a≠none):cw α Z H α Z H:=⟨λ_ _ e=>e,λ_ h=>h,λ_ h=>.inl h,λ_ h=>.inl h,λ_ _ e _=>e,h,λ_ _ _ e=>e⟩
theorem bI.has(S:bI κ α Z Ω H):∀a∈α,H a≠none:=λa b=>by
 obtain⟨n,d⟩:=List.mem_iff_getElem?.mp b;obtain⟨c,_,h⟩:=S.wQ.DK d;exact h.some
theorem cw.none(g:cw α Z H α' Z' H'){a:Addr}(h:H' a=none):H a=none:=by
 cases q:H a with
 |none=>rfl
 |some o=>
  by_cases b:a∈α
  .exact absurd h (g.has a b)
  .rw[g.frm a o q b]at h;cases h
theorem cw.trans(g:cw α Z H α' Z' H')(g':cw α' Z' H' DL Li Lj):cw α Z H DL Li Lj where
 pre:=λn a e=>g'.pre n a (g.pre n a e)
 sub:=λa h=>g'.sub a (g.sub a h)
 new:=λa h=>by
  rcases g'.new a h with h|h
  .exact g.new a h
  .exact .inr (g.none h)
 Bl:=λa h=>by
  rcases g'.Bl a h with h|h
  .exact g.Bl a h
  .exact .inr (g.none h)
 frm:=λa o e b=>g'.frm a o (g.frm a o e b) λh=>by
  rcases g.Bl a h with h|h
  .exact b h
  .rw[e]at h;cases h
 has:=λa b=>by
  obtain⟨n,c⟩:=List.mem_iff_getElem?.mp b;exact g'.has a (List.mem_of_getElem? (g.pre n a c))
 ee:=λa o u e=>g'.ee a o u (g.ee a o u e)
theorem bI.cY(S:bI κ α Z Ω H)(g:cw α Z H α' Z' H'){d:D}{v:V}(h:au α Z H d v):au α' Z' H' d v:=
 h.mono g.pre (λa o z e=>g.frm a o e λb=>S.sep a b z) g.sub
theorem bI.jo(S:bI κ α Z Ω H)(g:cw α Z H α' Z' H'){ds:List D}{a:List V}(h:aL (au α Z H) ds a):aL (au α' Z' H') ds a:=h.imp λ_ _ q=>S.cY g q
theorem bI.cell(S:bI κ α Z Ω H){n:Nat}{c:Cell}(e:Ω[n]?=some c):∃a,α[n]?=some a/\fR κ (au α Z H) H a c:=S.wQ.get e
theorem bI.len(S:bI κ α Z Ω H):α.length=Ω.length:=S.wQ.length
theorem bI.zW(S:bI κ α Z Ω H){p:Addr}{o:HO}(h:H p=none)(z:Prop)[Decidable z]:bI κ α (if z then Zp Z p else Z) Ω (upd H p o)/\cw α Z H α (if z then Zp Z p else Z) (upd H p o):=by
 have j:∀a∈α,a≠p:=λa f e=>S.has a f (e▸h)
 have k:∀a,Z a->a≠p:=λa i e=>S.dom a i (e▸h)
 have l:∀a,Z a->(if z then Zp Z p else Z) a:=λa f=>by
  split
  .exact .inl f
  .exact f
 have g:cw α Z H α (if z then Zp Z p else Z) (upd H p o):=⟨λ_ _ e=>e,l,λa f=>by
   split at f
   .rcases f with f|rfl
    .exact .inl f
    .exact .inr h
   .exact .inl f,λ_ f=>.inl f,λa u e _=>by rw[aI (aY e h)];exact e,λa f=>by rw[aI (j a f)];exact S.has a f,λa m u e=>by rw[aI (aY e h)];exact e⟩
 refine⟨⟨S.qF,?_,λa f i=>?_,λa f=>?_⟩,g⟩
 .refine S.wQ.imp λc a n=>?_
  refine n.imp (λd v r=>S.cY g r) (λu e=>?_) λb m q e=>?_
  .rw[aI (aY e h)];exact e
  .rw[aI (aY e h)];exact e
 .split at i
  .rcases i with i|rfl
   .exact S.sep a f i
   .exact j _ f rfl
  .exact S.sep a f i
 .split at f
  .rcases f with f|rfl
   .rw[aI (k a f)];exact S.dom a f
   .rw[bc];simp
  .rw[aI (k a f)];exact S.dom a f
theorem bI.laid(S:bI κ α Z Ω H){p:Addr}{o:HO}{c:Cell}(h:H p=none)(k:∀R:D->V->Prop,(∀d v,au α Z H d v->R d v)->fR κ R (upd H p o) p c):bI κ (α++[p]) Z (Ω++[c]) (upd H p o)/\cw α Z H (α++[p]) Z (upd H p o):=by
 have f:∀a∈α,a≠p:=λa ha e=>S.has a ha (e▸h)
 have i:∀a,Z a->a≠p:=λa j e=>S.dom a j (e▸h)
 have g:cw α Z H (α++[p]) Z (upd H p o):=⟨λn a e=>by rw[List.getElem?_append_left (List.getElem?_eq_some_iff.mp e).1];exact e,λ_ h=>h,λ_ h=>.inl h,λa ha=>by
   rcases List.mem_append.mp ha with ha|ha
   .exact .inl ha
   .rw[List.mem_singleton.mp ha];exact .inr h,λa u e _=>by rw[aI (aY e h)];exact e,λa ha=>by rw[aI (f a ha)];exact S.has a ha,λa l u e=>by rw[aI (aY e h)];exact e⟩
 refine⟨⟨?_,?_,λa ha j=>?_,λa ha=>by rw[aI (i a ha)];exact S.dom a ha⟩,g⟩
 .refine List.nodup_append.mpr ⟨S.qF,by simp,λa ha b m=>?_⟩
  rw[List.mem_singleton.mp m];exact f a ha
 .refine aL.append (S.wQ.imp λc a k=>?_) (.one (k _ λd v r=>S.cY g r))
  refine k.imp (λd v r=>S.cY g r) (λu e=>?_) λb l q e=>?_
  .rw[aI (aY e h)];exact e
  .rw[aI (aY e h)];exact e
 .rcases List.mem_append.mp ha with ha|ha
  .exact S.sep a ha j
  .rw[List.mem_singleton.mp ha]at j;exact i _ j rfl
theorem bI.put(S:bI κ α Z Ω H){n:Nat}{p:Addr}{o:HO}{c:Cell}(E:α[n]?=some p)(s:∀o u,H p≠some (.ee o u))(I:∀R:D->V->Prop,(∀d v,au α Z H d v->R d v)->fR κ R (upd H p o) p c):bI κ α Z (Ω.set n c) (upd H p o)/\cw α Z H α Z (upd H p o):=by
 have w:p∈α:=List.mem_of_getElem? E
 have g:cw α Z H α Z (upd H p o):=⟨λn a e=>e,λ_ h=>h,λ_ h=>.inl h,λa k=>.inl k,λa u e k=>by rw[aI (λ(q:a=p)=>k (by rw[q];exact w))];exact e,λa k=>by
   by_cases q:a=p
   .subst q;rw[bc];simp
   .rw[aI q];exact S.has a k,λa l u e=>by rw[aI (λq=>s l u (by rw[←q];exact e))];exact e⟩
 refine⟨⟨S.qF,?_,S.sep,λa k=>?_⟩,g⟩
 .have x:∀{j:List Cell}{f:List Addr}{n:Nat},f.Nodup->aL (λc a=>fR κ (au α Z H) H a c) j f->f[n]?=some p->aL (λc a=>fR κ (au α Z (upd H p o)) (upd H p o) a c) (j.set n c) f:=by
   intro j f n y z
   induction z generalizing n with
   |nil=>intro e;simp at e
   |@cons K A j f r t B=>
    intro e;have i:=List.nodup_cons.mp y;cases n with
    |zero=>
     simp at e;subst e;refine .cons (I _ λd v r=>S.cY g r) (aL.imp (λ_ _ q=>q) ?_)
     have:∀{j:List Cell}{f:List Addr},A∉f->aL (λc a=>fR κ (au α Z H) H a c) j f->aL (λc a=>fR κ (au α Z (upd H A o)) (upd H A o) a c) j f:=by
      intro j f m z
      induction z with
      |nil=>exact .nil
      |@cons L M j f r t B=>
       refine .cons (r.imp (λd v q=>S.cY g q) (λu e=>?_) λb l C e=>?_) (B λq=>m (List.mem_cons_of_mem _ q))
       .rw[aI (λq=>m (by rw[q];simp))];exact e
       .rw[aI (λq=>s l C (by rw[←q];exact e))];exact e
     exact this i.1 t
    |succ n=>
     have F:f[n]?=some p:=by simpa using e
     refine .cons (r.imp (λd v q=>S.cY g q) (λu J=>?_) λb l C G=>?_) (B i.2 F)
     .rw[aI (λq=>i.1 (by rw[q];exact List.mem_of_getElem? F))];exact J
     .rw[aI (λq=>s l C (by rw[←q];exact G))];exact G
  exact x S.qF S.wQ E
 .by_cases q:a=p
  .subst q;rw[bc];simp
  .rw[aI q];exact S.dom a k
end
end Mir
namespace Mir
open PySem PySem.Spec PyProof.Rows L2
variable [aU]
abbrev dE:=D->aE->List Addr->(Addr->Prop)->Hp->Prop
def bK(κ:Str->Addr->Prop)(Φ:dE)(α:List Addr)(Z:Addr->Prop)(H:Hp)(r:aq D)(Q:VK):Prop:=match r with
 |.ok d b=>∀v c a e,cw α Z H a e c->bI κ a e b c->au a e c d v->Q v c
 |.exc x b=>∀c a e,cw α Z H a e c->bI κ a e b c->Φ x b a e c
 |.bad=>False
structure cP(κ:Str->Addr->Prop)(gn:List Addr)(Z0:Addr->Prop)(H0:Hp)(α:List Addr)(Z:Addr->Prop)(Ω:aE)(ρ:aR)(σ:L2.St)(H:Hp):Prop where
 st:bI κ α Z Ω H
 gr:cw gn Z0 H0 α Z H
 len:σ.length=ρ.length
 val:∀(i:Nat) (d:D),ρ[i]?=some (some d)->∃v,σ[i]?=some (some v)/\au α Z H d v
abbrev EM:=aR->aE->aq D
noncomputable def tO(κ:Str->Addr->Prop)(Φ:dE)(a:List Addr)(c:Addr->Prop)(d:Hp)(m:EM)(ρ:aR)(Ω:aE):TE:=λe H Q=>
 ∃b Z,cP κ a c d b Z Ω ρ e H/\bK κ Φ b Z H (m ρ Ω) Q
def bo(X:Cx)(κ:Str->Addr->Prop)(Φ:dE)(e:Expr)(m:EM):Prop:=∀a b c d f,PE X e (tO κ Φ a b c m d f)
section
variable{κ:Str->Addr->Prop}{Φ:dE}{α α' gn α1:List Addr}{Z Z' Z0 Z1:Addr->Prop}{Ω az:aE}{H H' H0 H1:Hp}{ρ:aR}{σ:L2.St}{Q Q':VK}{r:aq D}
theorem bK.from(g:cw α Z H α1 Z1 H1)(h:bK κ Φ α Z H r Q):bK κ Φ α1 Z1 H1 r Q:=by
 cases r with
 |ok d b=>exact λv c a e f=>h v c a e (g.trans f)
 |exc x b=>exact λc a e f=>h c a e (g.trans f)
 |bad=>exact h
theorem bK.use{f:D->aE->aq D}(h:bK κ Φ α Z H (r.bind f) Q)(k:∀d aM,r=.ok d aM->∀v b a c,cw α Z H a c b->bI κ a c aM b->au a c b d v->bK κ Φ a c b (f d aM) Q->Q' v b):bK κ Φ α Z H r Q':=by
 cases r with
 |ok d aM=>exact λv b a c g s q=>k d aM rfl v b a c g s q (bK.from g h)
 |exc x aM=>exact h
 |bad=>exact h
theorem bK.ret{d:D}{v:V}(S:bI κ α Z Ω H)(q:au α Z H d v)(h:bK κ Φ α Z H (.ok d Ω) Q):Q v H:=h v H α Z (cw.refl S.has) S q
theorem cP.grow(S:cP κ gn Z0 H0 α Z Ω ρ σ H)(g:cw α Z H α' Z' H')(s:bI κ α' Z' az H'):cP κ gn Z0 H0 α' Z' az ρ σ H':=
 ⟨s,S.gr.trans g,S.len,λi d e=>let ⟨v,a,b⟩:=S.val i d e;⟨v,a,S.st.cY g b⟩⟩
theorem aG{d:D}{v:V}(h:ei d=some v):au α Z H d v:=by
 cases d<;>simp only[ei]at h<;>first|cases h;simp only[au]|cases h
theorem qG{d:D}(h:eB d=true):∃v,ei d=some v:=by
 cases d<;>first|exact⟨_,rfl⟩|cases h
theorem dh{d:D}{v w:V}(h:ei d=some w)(r:Rep Z H d v):v=w:=by
 cases d<;>simp only[ei]at h<;>first | (cases h;simpa only [Rep]using r)|cases h
noncomputable def bF{α a:Type}(f:α->Option a):List α->Option (List a)
 |[]=>some []
 |x::xs=>match f x,bF f xs with
  |some y,some ys=>some (y::ys)
  |_,_=>none
def ef(Ω:aE):Nat->D->Option D
 |_,.non=>some .non
 |_,.bl b=>some (.bl b)
 |_,.int i=>some (.int i)
 |_,.str x=>some (.str x)
 |0,_=>none
 |n+1,.lst ds=>(bF (ef Ω n) ds).map .lst
 |n+1,.tup ds=>(bF (ef Ω n) ds).map .tup
 |n+1,.ref k=>match Ω[k]? with
  |some (.lst ds)=>(bF (ef Ω n) ds).map .lst
  |_=>none
 |_+1,.dct _ _=>none
def qH(α:List Addr)(Z:Addr->Prop):Addr->Prop:=λa=>Z a\/a∈α
theorem dZ{f:D->Option D}{R:D->V->Prop}{S:D->V->Prop}(b:∀d d' v,f d=some d'->R d v->S d' v):∀{ds es:List D}{a:List V},bF f ds=some es->aL R ds a->aL S es a
 |[],es,a,h,r=>by cases h;rw[r.nil_inv];exact .nil
 |d::ds,es,a,h,r=>by
  simp only[bF]at h;split at h
  .rename_i y ys h1 h2
   cases h;obtain⟨v,c,rfl,e,g⟩:=r.cons_inv;exact .cons (b d y v h1 e) (dZ b h2 g)
  .cases h
theorem fB:∀{ds:List D}{a:List V},aL (Rep Z H) ds a->aW Z H ds a
 |_,_,.nil=>.nil
 |_,_,.cons r t=>.cons r (fB t)
theorem iA(S:bI κ α Z Ω H):∀(n:Nat) {d d':D}{v:V},ef Ω n d=some d'->au α Z H d v->Rep (qH α Z) H d' v:=by
 intro n
 induction n with
 |zero=>
  intro d d' v h r;cases d<;>simp only[ef]at h<;>first | (cases h;simpa only [Rep,au]using r)|cases h
 |succ n g=>
  intro d d' v h r;cases d with
  |lst l=>
   simp only[ef]at h;obtain⟨m,b,rfl⟩:=Option.map_eq_some_iff.mp h;simp only[au]at r;obtain⟨a,c,rfl,i,j,e⟩:=r;simp only[Rep];exact⟨a,c,rfl,.inl i,j,fB (dZ (S:=Rep (qH α Z) H) (λd d' v q r=>g q r) b (bB.mp e))⟩
  |tup l=>
   simp only[ef]at h;obtain⟨m,b,rfl⟩:=Option.map_eq_some_iff.mp h;simp only[au]at r;obtain⟨a,c,rfl,i,j,e⟩:=r;simp only[Rep];exact⟨a,c,rfl,.inl i,.inl j,fB (dZ (S:=Rep (qH α Z) H) (λd d' v q r=>g q r) b (bB.mp e))⟩
  |ref k=>
   simp only[ef]at h;split at h
   .rename_i l p
    obtain⟨m,b,rfl⟩:=Option.map_eq_some_iff.mp h;obtain⟨a,o,c,s,e⟩:=S.cell p;simp only[au]at r;obtain⟨t,f,rfl⟩:=r;rw[o]at f;cases f;simp only[Rep];exact⟨a,c,rfl,.inr (List.mem_of_getElem? o),.inl s,fB (dZ (S:=Rep (qH α Z) H) (λd d' v q r=>g q r) b e)⟩
   .cases h
  |dct _ _=>cases h
  |_=>simp only[ef]at h;cases h;simpa only [Rep,au]using r
theorem dw(S:bI κ α Z Ω H):∀a,qH α Z a->H a≠none:=λa h=>h.elim (S.dom a) (S.has a)
theorem bI.same(S:bI κ α Z Ω H)(h:ka H H'):bI κ α Z Ω H'/\cw α Z H α Z H':=by
 have g:cw α Z H α Z H':=⟨λ_ _ e=>e,λ_ z=>z,λ_ z=>.inl z,λ_ z=>.inl z,λa o e _=>h a o e,λa f=>by
  cases q:H a with
  |none=>exact absurd q (S.has a f)
  |some o=>rw[h a o q];simp,λa o u e=>h a _ e⟩
 refine⟨⟨S.qF,S.wQ.imp λc a i=>i.imp (λd v r=>S.cY g r) (λo e=>h a o e) λb o u e=>h b _ e,S.sep,λa z=>?_⟩,g⟩
 cases q:H a with
 |none=>exact absurd q (S.dom a z)
 |some o=>rw[h a o q];simp
theorem bI.adopt(S:bI κ α Z Ω H)(h:ka H H'){p:Addr}(i:H p=none){c:Cell}(j:∀R:D->V->Prop,(∀d v,au α Z H' d v->R d v)->fR κ R H' p c):bI κ (α++[p]) Z (Ω++[c]) H'/\cw α Z H (α++[p]) Z H':=by
 obtain⟨o,k⟩:=S.same h;have l:∀a∈α,a≠p:=λa ha e=>S.has a ha (e▸i)
 have m:∀a,Z a->a≠p:=λa f e=>S.dom a f (e▸i)
 have g:∀(n:Nat) (a:Addr),α[n]?=some a->(α++[p])[n]?=some a:=λn a e=>by rw[List.getElem?_append_left (List.getElem?_eq_some_iff.mp e).1];exact e
 have mono:∀d v,au α Z H' d v->au (α++[p]) Z H' d v:=λd v r=>r.mono g (λ_ _ _ e=>e) λ_ z=>z
 refine⟨⟨?_,?_,λa ha f=>?_,o.dom⟩,⟨g,λ_ z=>z,λ_ z=>.inl z,λa ha=>?_,k.frm,k.has,k.ee⟩⟩
 .refine List.nodup_append.mpr ⟨S.qF,by simp,λa ha b q=>?_⟩
  rw[List.mem_singleton.mp q];exact l a ha
 .exact aL.append (o.wQ.imp λc a j=>j.imp mono (λ_ e=>e) λ_ _ _ e=>e) (.one (j _ mono))
 .rcases List.mem_append.mp ha with ha|ha
  .exact S.sep a ha f
  .rw[List.mem_singleton.mp ha]at f;exact m _ f rfl
 .rcases List.mem_append.mp ha with ha|ha
  .exact .inl ha
  .rw[List.mem_singleton.mp ha];exact .inr i
noncomputable def fk(Ω:aE)(c:Cell):aq D:=.ok (.ref Ω.length) (Ω++[c])
def dG(Ω:aE):Out Rs->aq D
 |.ok (own,d)=>if eB d then .ok d Ω else match own,d with
  |true,.lst ds=>if ds.all eB then fk Ω (.lst ds)else .bad
  |_,_=>.bad
 |_=>.bad
theorem gp(S:bI κ α Z Ω H)(p:Addr):au (α++[p]) Z H' (.ref Ω.length) (.ref p):=by
 simp only[au];exact⟨p,by rw[←S.len];simp,rfl⟩
theorem kA:∀{ds:List D}{a:List V},ds.all eB=true->aW Z1 H1 ds a->aL (au α Z H) ds a
 |[],a,_,r=>by rw[r.nil_inv];exact .nil
 |d::ds,a,h,r=>by
  obtain⟨v,c,rfl,e,f⟩:=r.cons_inv;simp only[List.all_cons,Bool.and_eq_true]at h;obtain⟨w,b⟩:=qG h.1;obtain rfl:=dh b e;exact .cons (aG b) (kA h.2 f)
theorem gq{bw:Bool}{r:Out Rs}(S:bI κ α Z Ω H)(h:bK κ Φ α Z H (dG Ω r) Q):∃e d,r=.ok (e,d)/\∀v b m f,dX m H f b->dB bw e f H b d v->Q v b:=by
 cases r with
 |ok q=>
  obtain⟨e,d⟩:=q;refine⟨e,d,rfl,λv b m f g q=>?_⟩
  simp only[dG]at h;split at h
  .rename_i o
   obtain⟨w,i⟩:=qG o
   have p:v=w:=by
    have n:=q.nw;cases d with
    |non=>exact dh (Z:=f) (H:=b) i n
    |bl _=>exact dh (Z:=f) (H:=b) i n
    |int _=>exact dh (Z:=f) (H:=b) i n
    |str _=>exact dh (Z:=f) (H:=b) i n
    |_=>cases o
   subst p;obtain⟨j,k⟩:=S.same g.same;exact h v b α Z k j (aG i)
  .split at h
   .rename_i s t
    split at h
    .rename_i l
     unfold dB at q;rw[if_pos rfl]at q;obtain⟨a,u,x,y,rfl,z,D,A,B⟩:=q;cases y;obtain⟨j,k⟩:=S.adopt (c:=.lst s) g.same z (λR C=>⟨u,A,(kA l B).imp C⟩)
     exact h _ b _ Z k j (gp S a)
    .exact h.elim
   .exact h.elim
 |exc c E=>exact h.elim
 |bad=>exact h.elim
end
def m1(f:D->aE->aq D)(a:EM):EM:=λb c=>(a b c).bind f
def m2(f:D->D->aE->aq D)(d e:EM):EM:=λc g=>(d c g).bind λx a=>(e c a).bind λy b=>f x y b
noncomputable def gd(a b:aq D):aq D:=match a with
 |.bad=>b
 |r=>r
def Bm(f g:D->aE->aq D):D->aE->aq D:=λx a=>gd (f x a) (g x a)
def eG(f g:D->D->aE->aq D):D->D->aE->aq D:=λx y a=>gd (f x y a) (g x y a)
def eH(f g:EM):EM:=λa b=>gd (f a b) (g a b)
def su(f:D->Out Rs):D->aE->aq D:=λx a=>match ef a 8 x with
 |some b=>dG a (f b)
 |none=>.bad
def eI(f:D->D->Out Rs):D->D->aE->aq D:=λx y a=>match ef a 8 x,ef a 8 y with
 |some b,some c=>dG a (f b c)
 |_,_=>.bad
def fC(Ω:aE):D->Option Bool
 |.ref k=>match Ω[k]? with
  |some (.lst ds)=>some (!ds.isEmpty)
  |some (.dK kvs)=>some (!kvs.isEmpty)
  |_=>none
 |d=>gW d
def dO:aq D->aq Bool
 |.ok d Ω=>match fC Ω d with
  |some b=>.ok b Ω
  |none=>.bad
 |.exc x Ω=>.exc x Ω
 |.bad=>.bad
def mz(κ:Str->Addr->Prop)(Φ:dE)(α:List Addr)(Z:Addr->Prop)(H:Hp)(r:aq Bool)(Q:Bool->Hp->Prop):Prop:=match r with
 |.ok b c=>∀d a e,cw α Z H a e d->bI κ a e c d->Q b d
 |.exc x c=>∀d a e,cw α Z H a e d->bI κ a e c d->Φ x c a e d
 |.bad=>False
def HX(κ:Str->Addr->Prop)(Φ:dE)(a:List Addr)(c:Addr->Prop)(d:Hp)(m:EM)(ρ:aR)(Ω:aE):TT:=λe H Q=>∃b Z,cP κ a c d b Z Ω ρ e H/\mz κ Φ b Z H (dO (m ρ Ω)) Q
def fK(X:Cx)(κ:Str->Addr->Prop)(Φ:dE)(e:Expr)(m:EM):Prop:=∀a b c d f,PT X e (HX κ Φ a b c m d f)
abbrev AM:=aR->aE->aq (List D)
def lz(κ:Str->Addr->Prop)(Φ:dE)(α:List Addr)(Z:Addr->Prop)(H:Hp)(r:aq (List D))(Q:List V->Hp->Prop):Prop:=match r with
 |.ok f b=>∀e c a d,cw α Z H a d c->bI κ a d b c->aL (au a d c) f e->Q e c
 |.exc x b=>∀c a d,cw α Z H a d c->bI κ a d b c->Φ x b a d c
 |.bad=>False
noncomputable def HY(κ:Str->Addr->Prop)(Φ:dE)(a:List Addr)(c:Addr->Prop)(d:Hp)(m:AM)(ρ:aR)(Ω:aE):TA:=λe H Q=>∃b Z,cP κ a c d b Z Ω ρ e H/\lz κ Φ b Z H (m ρ Ω) Q
def ng(X:Cx)(κ:Str->Addr->Prop)(Φ:dE)(es:List Expr)(m:AM):Prop:=∀a b c d e,PA X es (HY κ Φ a b c m d e)
noncomputable def ag:AM:=λ_ a=>.ok [] a
def aa(a:EM)(as:AM):AM:=λd e=>(a d e).bind λx b=>(as d b).bind λf c=>.ok (x::f) c
def mN(f:List D->aE->aq D)(as:AM):EM:=λa b=>(as a b).bind f
section
variable{X:Cx}{κ:Str->Addr->Prop}{Φ:dE}{α α' gn α1:List Addr}{Z Z' Z0 Z1:Addr->Prop}{Ω az:aE}{H H' H0 H1:Hp}{ρ:aR}{σ:L2.St}{Q Q':VK}{r:aq D}{a b e:Expr}{es:List Expr}{ma mb mc m:EM}{as:AM}{pos:Pos}
theorem lz.from{r:aq (List D)}{Q:List V->Hp->Prop}(g:cw α Z H α1 Z1 H1)(h:lz κ Φ α Z H r Q):lz κ Φ α1 Z1 H1 r Q:=by
 cases r with
 |ok d b=>exact λv c a e f=>h v c a e (g.trans f)
 |exc x b=>exact λc a e f=>h c a e (g.trans f)
 |bad=>exact h
theorem mz.from{r:aq Bool}{Q:Bool->Hp->Prop}(g:cw α Z H α1 Z1 H1)(h:mz κ Φ α Z H r Q):mz κ Φ α1 Z1 H1 r Q:=by
 cases r with
 |ok d b=>exact λc a e f=>h c a e (g.trans f)
 |exc x b=>exact λc a e f=>h c a e (g.trans f)
 |bad=>exact h
theorem lz.use{r:aq (List D)}{f:List D->aE->aq D}{Q':List V->Hp->Prop}(h:bK κ Φ α Z H (r.bind f) Q)(k:∀ds aM,r=.ok ds aM->∀e b a c,cw α Z H a c b->bI κ a c aM b->aL (au a c b) ds e->bK κ Φ a c b (f ds aM) Q->Q' e b):lz κ Φ α Z H r Q':=by
 cases r with
 |ok d aM=>exact λv b a c g s q=>k d aM rfl v b a c g s q (bK.from g h)
 |exc x aM=>exact h
 |bad=>exact h
theorem PE.or{t u:TE}(h:PE X e t)(h':PE X e u):PE X e (λa H Q=>t a H Q\/u a H Q):=λpins s a H Q I q=>q.elim (h pins s a H Q I) (h' pins s a H Q I)
theorem PT.or{t u:TT}(h:PT X e t)(h':PT X e u):PT X e (λa H Q=>t a H Q\/u a H Q):=λpins s a H Q I q=>q.elim (h pins s a H Q I) (h' pins s a H Q I)
theorem kB{a b:aq D}:gd a b=a\/(a=.bad/\gd a b=b):=by cases a<;>simp[gd]
theorem bo.alt(h:bo X κ Φ e ma)(h':bo X κ Φ e mb):bo X κ Φ e (eH ma mb):=by
 intro c i j d f;refine PE.imp (PE.or (h c i j d f) (h' c i j d f)) ?_;rintro l H Q ⟨k,Z,S,g⟩;rcases kB (a:=ma d f) (b:=mb d f)with q|⟨_,q⟩
 .exact .inl ⟨k,Z,S,by rw[←q];exact g⟩
 .exact .inr ⟨k,Z,S,by rw[←q];exact g⟩
theorem fK.alt(h:fK X κ Φ e ma)(h':fK X κ Φ e mb):fK X κ Φ e (eH ma mb):=by
 intro c i j d f;refine PT.imp (PT.or (h c i j d f) (h' c i j d f)) ?_;rintro l H Q ⟨k,Z,S,g⟩;rcases kB (a:=ma d f) (b:=mb d f)with q|⟨_,q⟩
 .exact .inl ⟨k,Z,S,by rw[←q];exact g⟩
 .exact .inr ⟨k,Z,S,by rw[←q];exact g⟩
theorem fD{f g:D->D->aE->aq D}:m2 (eG f g) ma mb=eH (m2 f ma mb) (m2 g ma mb):=by
 funext c a
 simp only[m2,eH];cases ma c a with
 |ok x b=>
  simp only[aq.bind];cases mb c b with
  |ok y d=>rfl
  |exc x a=>rfl
  |bad=>rfl
 |exc x a=>rfl
 |bad=>rfl
theorem Bn{f g:D->aE->aq D}:m1 (Bm f g) ma=eH (m1 f ma) (m1 g ma):=by
 funext b a
 simp only[m1,eH];cases ma b a with
 |ok x c=>rfl
 |exc x a=>rfl
 |bad=>rfl
theorem fL{f:D->aE->aq D}{r:V->Hp->VK->Prop}(h:∀k,PE X a k->PE X e λl H Q=>k l H λx b=>r x b Q)(n:bo X κ Φ a ma)
  (o:∀m x α Z Ω H Q,bI κ α Z Ω H->au α Z H m x->bK κ Φ α Z H (f m Ω) Q->r x H Q):bo X κ Φ e (m1 f ma):=by
 intro c p q s Ω;refine PE.imp (h _ (n c p q s Ω)) ?_;rintro l H Q ⟨α,Z,S,g⟩;refine⟨α,Z,S,g.use λd i _ v b j t z u w y=>?_⟩
 exact o d v j t i b Q u w y
theorem cV{f:D->D->aE->aq D}{r:R2}(h:∀t tb,PE X a t->PE X b tb->PE X e (CG r t tb))(m:bo X κ Φ a ma)(n:bo X κ Φ b mb)
  (F:∀u z x y α Z Ω H Q,bI κ α Z Ω H->au α Z H u x->au α Z H z y->bK κ Φ α Z H (f u z Ω) Q->r x y H Q):bo X κ Φ e (m2 f ma mb):=by
 intro c j k i Ω;rcases q:ma i Ω with ⟨d,l⟩|⟨x,l⟩|_
 .refine PE.imp (h _ _ (m c j k i Ω) (n c j k i l)) ?_
  rintro A H Q ⟨α,Z,S,g⟩;refine⟨α,Z,S,bK.use g λT B C v U o G I E J K=>?_⟩
  rw[q]at C;cases C;refine⟨o,G,S.grow I E,K.use λd2 p _ w L s M N O P R=>?_⟩
  exact F d d2 v w s M p L Q O (E.cY N J) P R
 .refine PE.imp (h _ _ (m c j k i Ω) (n c j k i Ω)) ?_
  rintro A H Q ⟨α,Z,S,g⟩;refine⟨α,Z,S,?_⟩;simp only[m2,q,aq.bind]at g ⊢;exact g
 .refine PE.imp (h _ _ (m c j k i Ω) (n c j k i Ω)) ?_
  rintro A H Q ⟨α,Z,S,g⟩;simp only[m2,q,aq.bind]at g;exact g.elim
theorem ni{bw:Bool}{f:D->Out Rs}{i:D}{x:V}(S:bI κ α Z Ω H)(j:au α Z H i x)(h:bK κ Φ α Z H (su f i Ω) Q) :
  ∃d a d',Now (qH α Z) H d x/\f d=.ok (a,d')/\∀v b c,dX (qH α Z) H c b->dB bw a c H b d' v->Q v b:=by
 unfold su at h;split at h
 .rename_i d l
  obtain⟨a,d',e,k⟩:=gq (bw:=bw) S h;exact⟨d,a,d',(iA S 8 l j).now,e,λv b c g q=>k v b _ c g q⟩
 .exact h.elim
theorem gs{bw:Bool}{f:D->D->Out Rs}{i j:D}{x y:V}(S:bI κ α Z Ω H)(l:au α Z H i x)(m:au α Z H j y)(h:bK κ Φ α Z H (eI f i j Ω) Q) :
  ∃d e a d',Now (qH α Z) H d x/\Now (qH α Z) H e y/\f d e=.ok (a,d')/\∀v b c,dX (qH α Z) H c b->dB bw a c H b d' v->Q v b:=by
 unfold eI at h;split at h
 .rename_i d e n o
  obtain⟨a,d',p,k⟩:=gq (bw:=bw) S h;exact⟨d,e,a,d',(iA S 8 n l).now,(iA S 8 o m).now,p,λv b c g q=>k v b _ c g q⟩
 .exact h.elim
theorem xP{i:Nat}{x:Str}(c:X.N[i]?=some x)(e:CD X.env.scope x)(a:(x==("__debug__":Str))=false)(b:(x==("__classdict__":Str))=false):bo X κ Φ (.Name x pos) (λρ Ω=>match ρ[i]? with|some (some d)=>.ok d Ω|_=>.bad):=by
 intro f k l ρ Ω;refine PE.imp (Ax c e a b) ?_;rintro m H Q ⟨n,Z,S,g⟩;dsimp only at g;split at g
 .rename_i d a
  obtain⟨v,h,j⟩:=S.val i d a;exact⟨v,h,bK.ret S.st j g⟩
 .exact g.elim
theorem e_{d:D}{v:V}(h:PE X e (tC v))(a:ei d=some v):bo X κ Φ e (λ_ Ω=>.ok d Ω):=by
 intro b c f i Ω;refine PE.imp h ?_;rintro j H Q ⟨k,Z,S,g⟩;exact bK.ret S.st (aG a) g
noncomputable def cI(Ω:aE):D->Option (List D)
 |.ref k=>match Ω[k]? with
  |some (.lst ds)=>some ds
  |_=>none
 |.lst ds=>some ds
 |_=>none
theorem bJ{x:D}{v:V}{ds:List D}(S:bI κ α Z Ω H)(r:au α Z H x v)(h:cI Ω x=some ds):∃a b,v=.ref a/\Rd H a (.lst b)/\aL (au α Z H) ds b:=by
 cases x with
 |ref k=>
  simp only[cI]at h;split at h
  .rename_i f g
   cases h;simp only[au]at r;obtain⟨a,i,rfl⟩:=r;obtain⟨j,c,b,d,e⟩:=S.cell g;rw[i]at c;cases c;exact⟨a,b,rfl,.inl d,e⟩
  .cases h
 |lst l=>
  cases h;simp only[au]at r;obtain⟨a,b,rfl,_,d,e⟩:=r;exact⟨a,b,rfl,d,bB.mp e⟩
 |_=>cases h
theorem di{x:V}{ds:List D}(r:au α Z H (.tup ds) x):∃a b,x=.ref a/\Z a/\H a=some (.tup b)/\aL (au α Z H) ds b:=by
 simp only[au]at r;obtain⟨a,b,e,c,d,f⟩:=r;exact⟨a,b,e,c,d,bB.mp f⟩
theorem dH{ds:List D}{a:List V}(S:bI κ α Z Ω H)(r:aL (au α Z H) ds a)(k:bK κ Φ α Z H (fk Ω (.lst ds)) Q):∀p,H p=none->Q (.ref p) (upd H p (.lst a)):=λp b=>by
 obtain⟨d,e⟩:=S.laid (p:=p) (o:=.lst a) (c:=.lst ds) b λR f=>⟨a,bc,r.imp f⟩
 exact k _ _ _ Z e d (gp S p)
theorem jq{ds:List D}{a:List V}(S:bI κ α Z Ω H)(r:aL (au α Z H) ds a)(k:bK κ Φ α Z H (.ok (.tup ds) Ω) Q):∀p,H p=none->Q (.ref p) (upd H p (.tup a)):=λp d=>by
 obtain⟨c,b⟩:=S.zW (p:=p) (o:=.tup a) d True;simp only[if_true]at c b;refine k _ _ _ _ b c ?_;simp only[au];exact⟨p,a,rfl,.inr rfl,bc,bB.mpr (S.jo b r)⟩
theorem qI:ng X κ Φ [] ag:=by
 intro a c d e f;refine PA.imp kU ?_;rintro h H Q ⟨b,Z,S,g⟩;exact g [] H b Z (cw.refl S.st.has) S.st .nil
theorem nj(k:bo X κ Φ e ma)(l:ng X κ Φ es as)(m:starEach (e::es) X.env=(false,eval e X.env)::starEach es X.env):ng X κ Φ (e::es) (aa ma as):=by
 intro a f h b i;rcases q:ma b i with ⟨d,c⟩|⟨x,c⟩|_
 .refine PA.imp (eX (k a f h b i) (l a f h b c) m) ?_
  rintro r H Q ⟨j,Z,S,g⟩;refine⟨j,Z,S,?_⟩;simp only[aa,q,aq.bind]at g ⊢;intro v C n w s t y;refine⟨n,w,S.grow s t,?_⟩;have g:=lz.from s g
  rcases o:as b c with ⟨D,p⟩|⟨x,p⟩|_
  .rw[o]at g
   intro E F z G u A B;exact g _ _ _ _ u A (.cons (t.cY u y) B)
  .rw[o]at g;exact g
  .rw[o]at g;exact g
 .refine PA.imp (eX (k a f h b i) (l a f h b i) m) ?_
  rintro r H Q ⟨j,Z,S,g⟩;refine⟨j,Z,S,?_⟩;simp only[aa,q,aq.bind]at g ⊢;exact g
 .refine PA.imp (eX (k a f h b i) (l a f h b i) m) ?_
  rintro r H Q ⟨j,Z,S,g⟩;simp only[aa,q,aq.bind]at g;exact g.elim
def b9(ds:List D)(Ω:aE):aq D:=if small ds.length then fk Ω (.lst ds)else .bad
def eJ(ds:List D)(Ω:aE):aq D:=if small ds.length then .ok (.tup ds) Ω else .bad
theorem xQ(h:ng X κ Φ es as):bo X κ Φ (.List es pos) (mN b9 as):=by
 intro b d e f i;refine PE.imp (AX (h b d e f i)) ?_;rintro o H Q ⟨j,Z,S,g⟩;refine⟨j,Z,S,lz.use g λp k _ q r l s t m c a=>?_⟩
 unfold b9 at a;split at a
 .rename_i n
  exact⟨by rw[c.length];exact bA n,dH m c a⟩
 .exact a.elim
theorem xR{x1}(h:ng X κ Φ es as):bo X κ Φ (.Tuple es x1 pos) (mN eJ as):=by
 intro b d e f i;refine PE.imp (AW (h b d e f i)) ?_;rintro o H Q ⟨j,Z,S,g⟩;refine⟨j,Z,S,lz.use g λp k _ q r l s t m c a=>?_⟩
 unfold eJ at a;split at a
 .rename_i n
  exact⟨by rw[c.length];exact bA n,jq m c a⟩
 .exact a.elim
def lA(x y:D)(Ω:aE):aq D:=match cI Ω x,cI Ω y with
 |some a,some b=>if small (a.length+b.length)then fk Ω (.lst (a++b))else .bad
 |_,_=>.bad
def lB(x y:D)(Ω:aE):aq D:=match x,y with
 |.tup a,.tup b=>if small (a.length+b.length)then .ok (.tup (a++b)) Ω else .bad
 |_,_=>.bad
def ax(op:Operator):D->D->aE->aq D:=match op with
 |.Add=>eG lA (eG lB (eI (eA .Add)))
 |op=>eI (eA op)
theorem xS{op:Operator}(u:bo X κ Φ a ma)(w:bo X κ Φ b mb):bo X κ Φ (.BinOp a op b pos) (m2 (ax op) ma mb):=by
 have E:bo X κ Φ (.BinOp a op b pos) (m2 (eI (eA op)) ma mb):=cV (r:=xD op) (λD tb m o=>p9 (ux op) m o) u w λF G x y I Z J H Q S c f g=>by
  obtain⟨d,e,P,d',R,T,p,k⟩:=gs (bw:=false) S c f g;exact Bf (bw:=false) R T (dw S) p k
 have C:op=.Add->bo X κ Φ (.BinOp a op b pos) (m2 lA ma mb):=λe=>by
  subst e;refine cV (r:=xD .Add) (λD tb m o=>p9 (ux .Add) m o) u w λF G x y I Z J H Q S c f g=>?_
  unfold lA at g;split at g
  .rename_i L M U V
   obtain⟨l,q,rfl,s,h⟩:=bJ S c U;obtain⟨n,t,rfl,Y,N⟩:=bJ S f V;split at g
   .rename_i z
    exact .inr (.inr ⟨l,n,q,t,rfl,rfl,s,Y,by rw[h.length,N.length];exact bA z,dH S (h.append N) g⟩)
   .exact g.elim
  .exact g.elim
 have C2:op=.Add->bo X κ Φ (.BinOp a op b pos) (m2 lB ma mb):=λe=>by
  subst e;refine cV (r:=λx y H Q=>zQ X.K x y H Q\/zV X.K x y H Q) (λD tb m o=>p9 (xn.or xO) m o) u w λF G x y I Z J H Q S c f g=>?_
  unfold lB at g;split at g
  .rename_i L M
   simp only[au]at c f;obtain⟨A,q,rfl,z1,s,i⟩:=c;obtain⟨B,t,rfl,z2,h,j⟩:=f;have i:=bB.mp i;have j:=bB.mp j;split at g
   .rename_i z
    by_cases O:q=[]
    .subst O
     have p:L=[]:=by have:=i.length;simp at this;exact List.length_eq_zero_iff.mp this.symm
     subst p;refine .inr ⟨A,B,t,rfl,rfl,ig.of s,ig.of h,bK.ret S ?_ g⟩;simp only[au,List.nil_append];exact⟨B,t,rfl,z2,h,bB.mpr j⟩
    .refine .inl ⟨A,B,q,t,rfl,rfl,ig.of s,ig.of h,O,by rw[i.length,j.length];exact bA z,λhy=>?_,λ_=>jq S (i.append j) g⟩
     subst hy;have p:M=[]:=by have:=j.length;simp at this;exact List.length_eq_zero_iff.mp this.symm
     subst p;refine bK.ret S ?_ g;simp only[au,List.append_nil];exact⟨A,q,rfl,z1,s,bB.mpr i⟩
   .exact g.elim
  .exact g.elim
 cases op with
 |Add=>show bo X κ Φ _ (m2 (eG lA (eG lB (eI (eA .Add)))) ma mb);rw[fD,fD];exact(C rfl).alt ((C2 rfl).alt E)
 |_=>exact E
def xT:D->aE->aq D:=su λx=>match x with|.int i=>.ok (false,.int (-i))|_=>.bad
theorem xU(c:bo X κ Φ a ma):bo X κ Φ (.UnaryOp .USub a pos) (m1 xT ma):=
 fL (r:=rU λi=>.int (-i)) (λl e=>C_ AR e) c λm x n Z o H Q S f g=>by
  obtain⟨d,h,p,j,b,k⟩:=ni (bw:=false) S f g;split at b
  .cases bh j
   cases b;exact⟨_,rfl,k _ H _ (dX.refl (dw S)) (.rep (eD rfl))⟩
  .cases b
end
noncomputable def jr{κ a:Type}[DecidableEq κ](kvs:List (κ×a))(k:κ):Option a:=(kvs.find? λb=>decide (b.1=k)).map (·.2)
noncomputable def oX{κ b:Type}[DecidableEq κ](kvs:List (κ×b))(k:κ)(v:b):List (κ×b):=
 if (kvs.any λa=>decide (a.1=k))=true then kvs.map (λa=>if a.1=k then (a.1,v)else a)else kvs++[(k,v)]
section
variable{κ:Type}[DecidableEq κ]{R:D->V->Prop}
theorem jn.val{kvs:List (κ×D)}{kvs':List (κ×V)}(h:jn R kvs kvs')(k:κ):(∀d,jr kvs k=some d->∃v,iU kvs' k=some v/\R d v)/\(jr kvs k=none->iU kvs' k=none):=by
 unfold jn at h
 induction h with
 |nil=>exact⟨λd e=>(by cases e),λ_=>rfl⟩
 |@cons p q a m r t g=>
  obtain⟨f,i⟩:=r
  by_cases e:p.1=k
  .have b:q.1=k:=f▸e
   have c:jr (p::a) k=some p.2:=by simp[jr,List.find?_cons,e]
   rw[c,mP b];exact⟨λd j=>by cases j;exact⟨_,rfl,i⟩,λl=>by cases l⟩
  .have b:¬ q.1=k:=λz=>e (f.trans z)
   have c:jr (p::a) k=jr a k:=by simp[jr,List.find?_cons,e]
   rw[c,mQ b];exact g
theorem jn.any{kvs:List (κ×D)}{kvs':List (κ×V)}(h:jn R kvs kvs')(k:κ):(kvs'.any λa=>decide (a.1=k))=kvs.any λa=>decide (a.1=k):=by
 unfold jn at h
 induction h with
 |nil=>rfl
 |@cons p q c d r t b=>rw[List.any_cons,List.any_cons,b,r.1]
theorem jn.put{kvs:List (κ×D)}{kvs':List (κ×V)}(h:jn R kvs kvs')(k:κ){d:D}{v:V}(r:R d v):jn R (oX kvs k d) (putK kvs' k v):=by
 unfold oX putK;rw[h.any];split
 .rename_i b
  clear b;unfold jn at h
  induction h with
  |nil=>exact .nil
  |@cons p q f g a t c=>
   rw[List.map_cons,List.map_cons];refine .cons ?_ c
   by_cases e:p.1=k
   .rw[if_pos e,if_pos (a.1▸e)];exact⟨a.1,r⟩
   .rw[if_neg e,if_neg (λz=>e (a.1.trans z))];exact a
 .exact aL.append h (.one ⟨rfl,r⟩)
theorem jn.length{kvs:List (κ×D)}{kvs':List (κ×V)}(h:jn R kvs kvs'):kvs'.length=kvs.length:=aL.length h
end
noncomputable def xV:D->Option Key
 |.int i=>some (.inl i)
 |.str x=>some (.inr x)
 |_=>none
section
variable{X:Cx}{κ:Str->Addr->Prop}{Φ:dE}{α α' gn α1:List Addr}{Z Z' Z0 Z1:Addr->Prop}{Ω az:aE}{H H' H0 H1:Hp}{ρ:aR}{σ:L2.St}{Q Q':VK}{r:aq D}{a b e:Expr}{es:List Expr}{ma mb mc m:EM}{as:AM}{pos:Pos}
theorem nk{d:D}{k:Key}{v:V}(h:xV d=some k)(r:au α Z H d v):v=kV k:=by
 cases d with
 |int i=>cases h;simp only[au]at r;exact r
 |str i=>cases h;simp only[au]at r;exact r
 |_=>cases h
noncomputable def Bo(Ω:aE)(x y:D):Option (Option D):=none
def cu(op:CmpOp):D->D->aE->aq D:=eI λx y=>do let r ←bY op x y;Out.ok (false,D.bl r)
def fX(neg:Bool)(y x:D)(Ω:aE):aq D:=match Bo Ω x y with
 |some o=>.ok (.bl (if neg then !o.isSome else o.isSome)) Ω
 |none=>.bad
noncomputable def eo(neg:Bool)(x y:D)(Ω:aE):aq D:=match x,y with
 |.ref _,.non=>.ok (.bl neg) Ω
 |_,_=>.bad
def aw(op:CmpOp):D->D->aE->aq D:=match op with
 |.In=>eG (cu .In) (fX false)
 |.NotIn=>eG (cu .NotIn) (fX true)
 |.Is=>eG (eo false) (cu .Is)
 |.IsNot=>eG (eo true) (cu .IsNot)
 |op=>cu op
theorem gu{f:D->D->aE->aq D}{r:R2}(h:∀F tb,PE X a F->PE X b tb->PT X e (tT (CG r F tb)))(o:bo X κ Φ a ma)(p:bo X κ Φ b mb)(s:∀x y Ω d az,f x y Ω=.ok d az->∃t,d=.bl t)
  (O:∀G I x y α Z Ω H Q,bI κ α Z Ω H->au α Z H G x->au α Z H I y->bK κ Φ α Z H (f G I Ω) Q->r x y H Q):fK X κ Φ e (m2 f ma mb):=by
 intro c l m i Ω;rcases q:ma i Ω with ⟨d,j⟩|⟨x,j⟩|_
 .refine PT.imp (h _ _ (o c l m i Ω) (p c l m i j)) ?_
  rintro J H Q ⟨α,Z,S,g⟩;refine⟨α,Z,S,?_⟩;simp only[m2,q,aq.bind]at g ⊢;intro v H1 z P K L R;refine⟨z,P,S.grow K L,?_⟩;have g:=mz.from K g
  rcases A:mb i j with ⟨d2,k⟩|⟨x,k⟩|_
  .rw[A]at g
   intro w T B U M V Y;refine O d d2 v w B U k T _ V (L.cY M R) Y ?_;have g:=mz.from M g
   dsimp only[aq.bind]at g;rcases n:f d d2 k with ⟨d3,C⟩|⟨x,C⟩|_
   .rw[n]at g
    obtain⟨t,rfl⟩:=s _ _ _ _ _ n;intro u H3 E Z3 g3 s3 N;simp only[au]at N;exact⟨t,N,g H3 E Z3 g3 s3⟩
   .rw[n]at g;exact g
   .rw[n]at g;exact g
  .rw[A]at g;exact g
  .rw[A]at g;exact g
 .refine PT.imp (h _ _ (o c l m i Ω) (p c l m i Ω)) ?_
  rintro J H Q ⟨α,Z,S,g⟩;refine⟨α,Z,S,?_⟩;simp only[m2,q,aq.bind,dO]at g ⊢;exact g
 .refine PT.imp (h _ _ (o c l m i Ω) (p c l m i Ω)) ?_
  rintro J H Q ⟨α,Z,S,g⟩;simp only[m2,q,aq.bind,dO]at g;exact g.elim
noncomputable def Bp(neg:Bool):R2:=λ_ _ _ _=>False
theorem uS(a:X.A.units+1<cLine):eW X (compareOp .In) (Bp false):=by
 intro pins s b H x y u v Q I c d h;exact(show False from h).elim
theorem kC(a:X.A.units+1<cLine):eW X (compareOp .NotIn) (Bp true):=by
 intro pins s b H x y u v Q I c d h;exact(show False from h).elim
theorem lC{op:CmpOp}{a b:D}{x y:V}(S:bI κ α Z Ω H)(c:au α Z H a x)(f:au α Z H b y)(g:bK κ Φ α Z H (cu op a b Ω) Q):uA op x y H Q:=by
 obtain⟨d,e,h,m,i,j,l,k⟩:=gs (bw:=false) S c f g;exact Bg (bw:=false) i j (dw S) l k
theorem lD{neg:Bool}{a b:D}{x y:V}(S:bI κ α Z Ω H)(c:au α Z H a x)(d:au α Z H b y)(g:bK κ Φ α Z H (fX neg a b Ω) Q):Bp neg x y H Q:=(show False from g).elim
theorem lE{neg:Bool}{op:CmpOp}(h:op=if neg then .IsNot else .Is){c e:D}{x y:V}(S:bI κ α Z Ω H)(f:au α Z H c x)(b:au α Z H e y)(g:bK κ Φ α Z H (eo neg c e Ω) Q) :
  (if neg then (y=.non/\Q (.bl (!decide (x=.non))) H)else (y=.non/\Q (.bl (decide (x=.non))) H)):=by
 unfold eo at g;split at g
 .simp only[au]at f b
  obtain⟨a,_,rfl⟩:=f;have:=bK.ret S (aG (d:=.bl neg) rfl) g;cases neg
  .exact⟨b,this⟩
  .exact⟨b,this⟩
 .exact g.elim
theorem lF{op:CmpOp}:∀x y Ω d az,cu op x y Ω=.ok d az->∃t,d=.bl t:=λx y Ω d az h=>by
 unfold cu eI at h;split at h
 .rename_i a b _ _
  dsimp only at h;cases q:bY op a b with
  |ok t=>
   have e:(do let r ←bY op a b;Out.ok (false,D.bl r))=Out.ok (false,D.bl t):=by rw[q];rfl
   rw[e]at h;simp only[dG,eB,if_true]at h;cases h;exact⟨_,rfl⟩
  |exc c f=>
   have e:(do let r ←bY op a b;Out.ok (false,D.bl r))=Out.exc c f:=by rw[q];rfl
   rw[e]at h;cases h
  |bad=>
   have e:(do let r ←bY op a b;Out.ok (false,D.bl r))=Out.bad:=by rw[q];rfl
   rw[e]at h;cases h
 .cases h
theorem qJ{neg:Bool}:∀x y Ω d az,fX neg x y Ω=.ok d az->∃t,d=.bl t:=λx y Ω d az h=>by
 unfold fX at h;split at h
 .cases h;exact⟨_,rfl⟩
 .cases h
theorem qK{neg:Bool}:∀x y Ω d az,eo neg x y Ω=.ok d az->∃t,d=.bl t:=λx y Ω d az h=>by
 unfold eo at h;split at h
 .cases h;exact⟨_,rfl⟩
 .cases h
theorem qL{op:CmpOp}(s:X.A.units+64<cLine)(h:behindInMarks op b=false)(i:bo X κ Φ a ma)(j:bo X κ Φ b mb):bo X κ Φ (.Compare a [op] [b] pos) (m2 (aw op) ma mb)/\fK X κ Φ (.Compare a [op] [b] pos) (m2 (aw op) ma mb):=by
 have E:bo X κ Φ (.Compare a [op] [b] pos) (m2 (cu op) ma mb):=cV (λk tb c d=>gg (gX s op) c d h) i j λl m x y n Z o H Q S e f g=>lC S e f g
 have T:fK X κ Φ (.Compare a [op] [b] pos) (m2 (cu op) ma mb):=gu (λk tb c d=>gh (gX s op) c d h) i j lF λl m x y n Z o H Q S e f g=>lC S e f g
 have p:X.A.units+1<cLine:=by omega
 cases op with
 |In=>
  have q:bo X κ Φ (.Compare a [.In] [b] pos) (m2 (fX false) ma mb):=cV (λk tb c d=>gg (uS p) c d h) i j λl m x y n Z o H Q S e f g=>lD S e f g
  have r:fK X κ Φ (.Compare a [.In] [b] pos) (m2 (fX false) ma mb):=gu (λk tb c d=>gh (uS p) c d h) i j qJ λl m x y n Z o H Q S e f g=>lD S e f g
  show bo X κ Φ _ (m2 (eG (cu .In) (fX false)) ma mb)/\fK X κ Φ _ (m2 (eG (cu .In) (fX false)) ma mb)
  rw[fD];exact⟨E.alt q,T.alt r⟩
 |NotIn=>
  have q:bo X κ Φ (.Compare a [.NotIn] [b] pos) (m2 (fX true) ma mb):=cV (λk tb c d=>gg (kC p) c d h) i j λl m x y n Z o H Q S e f g=>lD S e f g
  have r:fK X κ Φ (.Compare a [.NotIn] [b] pos) (m2 (fX true) ma mb):=gu (λk tb c d=>gh (kC p) c d h) i j qJ λl m x y n Z o H Q S e f g=>lD S e f g
  show bo X κ Φ _ (m2 (eG (cu .NotIn) (fX true)) ma mb)/\fK X κ Φ _ (m2 (eG (cu .NotIn) (fX true)) ma mb)
  rw[fD];exact⟨E.alt q,T.alt r⟩
 |Is=>
  have q:bo X κ Φ (.Compare a [.Is] [b] pos) (m2 (eo false) ma mb):=cV (λk tb c d=>gg tR c d h) i j λl m x y n Z o H Q S e f g=>lE (neg:=false) (op:=.Is) rfl S e f g
  have r:fK X κ Φ (.Compare a [.Is] [b] pos) (m2 (eo false) ma mb):=gu (λk tb c d=>gh tR c d h) i j qK λl m x y n Z o H Q S e f g=>lE (neg:=false) (op:=.Is) rfl S e f g
  show bo X κ Φ _ (m2 (eG (eo false) (cu .Is)) ma mb)/\fK X κ Φ _ (m2 (eG (eo false) (cu .Is)) ma mb)
  rw[fD];exact⟨q.alt E,r.alt T⟩
 |IsNot=>
  have q:bo X κ Φ (.Compare a [.IsNot] [b] pos) (m2 (eo true) ma mb):=cV (λk tb c d=>gg p_ c d h) i j λl m x y n Z o H Q S e f g=>lE (neg:=true) (op:=.IsNot) rfl S e f g
  have r:fK X κ Φ (.Compare a [.IsNot] [b] pos) (m2 (eo true) ma mb):=gu (λk tb c d=>gh p_ c d h) i j qK λl m x y n Z o H Q S e f g=>lE (neg:=true) (op:=.IsNot) rfl S e f g
  show bo X κ Φ _ (m2 (eG (eo true) (cu .IsNot)) ma mb)/\fK X κ Φ _ (m2 (eG (eo true) (cu .IsNot)) ma mb)
  rw[fD];exact⟨q.alt E,r.alt T⟩
 |Eq=>exact⟨E,T⟩
 |NotEq=>exact⟨E,T⟩
 |Lt=>exact⟨E,T⟩
 |LtE=>exact⟨E,T⟩
 |Gt=>exact⟨E,T⟩
 |GtE=>exact⟨E,T⟩
def fE(Ω:aE)(x:D):Option (List D):=match x with
 |.tup a=>some a
 |x=>cI Ω x
def xW(x y:D)(Ω:aE):aq D:=match fE Ω x,y with
 |some a,.int i=>match L2.fW a i with
  |some d=>.ok d Ω
  |none=>.bad
 |_,_=>.bad
def DM(x y:D)(Ω:aE):aq D:=match Bo Ω x y with
 |some (some d)=>.ok d Ω
 |_=>.bad
def aA:D->D->aE->aq D:=eG xW (eG DM (eI oO))
theorem jt{x:D}{v:V}{ds:List D}{K:PySem.W.Frag}(S:bI κ α Z Ω H)(r:au α Z H x v)(h:fE Ω x=some ds):∃a b,v=.ref a/\(kj K H a b\/ig K H a b)/\aL (au α Z H) ds b:=by
 unfold fE at h;split at h
 .cases h
  obtain⟨a,b,rfl,_,c,d⟩:=di r;exact⟨a,b,rfl,.inr (oq (.inl c)),d⟩
 .obtain⟨a,b,rfl,c,d⟩:=bJ S r h
  exact⟨a,b,rfl,.inl (ll c),d⟩
theorem xX{ds:List D}{a:List V}{R:D->V->Prop}{i:Int}{d:D}(r:aL R ds a)(h:L2.fW ds i=some d):∃v,L2.fW a i=some v/\R d v:=by
 unfold L2.fW at h ⊢;rw[r.length];cases q:L2.oo ds.length i with
 |none=>rw[q]at h;cases h
 |some n=>rw[q]at h;exact r.get h
theorem xY(L:X.A.units+1<cLine)(l:qj b)(m:bo X κ Φ a ma)(n:bo X κ Φ b mb):bo X κ Φ (.Subscript a b pos) (m2 aA ma mb):=by
 unfold aA;rw[fD,fD];refine bo.alt ?_ (bo.alt ?_ ?_)
 .refine cV (r:=Dr X.K) (λo tb c f=>t_ oF c f l) m n λq s x y t Z u H Q S j h g=>?_
  unfold xW at g;split at g
  .rename_i M i C
   obtain⟨p,w,rfl,h2,D⟩:=jt (K:=X.K) S j C;simp only[au]at h;subst h;split at g
   .rename_i d E
    obtain⟨v,z,B⟩:=xX D E;rcases h2 with h2|h2
    .exact .inl ⟨p,w,i,v,rfl,rfl,h2,z,bK.ret S B g⟩
    .exact .inr (.inl ⟨p,w,i,v,rfl,rfl,h2,z,bK.ret S B g⟩)
   .exact g.elim
  .exact g.elim
 .exact cV (r:=Dr X.K) (λo tb c f=>t_ oF c f l) m n λq s x y t Z u H Q S j h g=>(show False from g).elim
 .refine cV (r:=Dr X.K) (λo tb c f=>t_ oF c f l) m n λq s x y t Z u H Q S j h g=>?_
  obtain⟨d,e,F,N,G,I,J,k⟩:=gs (bw:=false) S j h g;exact Bi (bw:=false) G I (dw S) J k
def d_(n:Bool)(m:EM):aR->aE->aq (Option Int):=λc b=>if n=true then .ok none b else (m c b).bind λd a=>match d with
 |.int i=>.ok (some i) a
 |_=>.bad
def ip(x:D)(a b:Option Int)(Ω:aE):aq D:=match x,cI Ω x with
 |_,some c=>fk Ω (.lst (bZ c a b))
 |.str z,none=>dG Ω (uu (.str z) a b)
 |_,_=>.bad
def bL(e:EM)(f:Bool)(g:EM)(i:Bool)(j:EM):EM:=λa k=>(e a k).bind λx b=>(d_ f g a b).bind λl c=>(d_ i j a c).bind λh d=>ip x l h d
def Ge(X:Cx)(κ:Str->Addr->Prop)(Φ:dE)(o:Option Expr)(n:Bool)(m:EM):Prop:=(o=none/\n=true)\/∃e,o=some e/\n=false/\bo X κ Φ e m
theorem dI{o:Option Expr}{n:Bool}(h:Ge X κ Φ o n m)(f:List Addr)(p:Addr->Prop)(r:Hp)(ρ:aR)(Ω:aE):∃t,PO X o t/\∀g H α Z Q,cP κ f p r α Z Ω ρ g H ->
  (match d_ n m ρ Ω with
   |.ok l aM=>∀b a c,cw α Z H a c b->bI κ a c aM b->Q l b
   |.exc x aM=>∀b a c,cw α Z H a c b->bI κ a c aM b->Φ x aM a c b
   |.bad=>False)->t g H Q:=by
 rcases h with ⟨rfl,rfl⟩|⟨e,rfl,rfl,u⟩
 .refine⟨qf,xl,λg H α Z Q S k=>?_⟩
  exact k H α Z (cw.refl S.st.has) S.st
 .refine⟨_,xm (u f p r ρ Ω),λg H α Z Q S k=>⟨α,Z,S,?_⟩⟩
  simp only[d_,Bool.false_eq_true,if_false]at k;rcases q:m ρ Ω with ⟨d,aM⟩|⟨x,aM⟩|_
  .rw[q]at k
   intro v w j y z A s;cases d with
   |int i=>simp only[au]at s;exact⟨i,s,k w j y z A⟩
   |_=>exact k.elim
  .rw[q]at k;exact k
  .rw[q]at k;exact k
theorem xZ{ds:List D}{a:List V}{R:D->V->Prop}(h:aL R ds a)(b c:Option Int):aL R (bZ ds b c) (rZ a b c):=by
 unfold bZ rZ;rw[h.length];exact(h.drop _).take _
theorem x9{lo hi:Option Expr}{L M:Bool}{N O:EM}{p2:Pos}(y:bo X κ Φ a ma)(P:Ge X κ Φ lo L N)(z:Ge X κ Φ hi M O):bo X κ Φ (.Subscript a (.Slice lo hi none p2) pos) (bL ma L N M O):=by
 intro b e f c j;rcases q:ma c j with ⟨d,i⟩|⟨x,i⟩|_
 .obtain⟨tl,n,E⟩:=dI P b e f c i
  rcases A:d_ L N c i with ⟨l,o⟩|⟨x,o⟩|_
  .obtain⟨F,m,B⟩:=dI z b e f c o
   refine PE.imp (fx (r:=DD X.K) (gj.or jh) (y b e f c j) n m) ?_;rintro s H Q ⟨t,Z,S,g⟩;refine⟨t,Z,S,?_⟩;simp only[bL,q,A,aq.bind]at g ⊢;intro v R u T C G r1;have g:=bK.from C g
   have S1:=S.grow C G;refine E s R u T _ S1 ?_;rw[A];intro U w V D I;have g:=bK.from D g
   have S2:=S1.grow D I;refine B s U w V _ S2 ?_;rcases Y:d_ M O c o with ⟨h,a0⟩|⟨x,a0⟩|_
   .rw[Y]at g
    intro H3 b0 Z3 g3 s3;have g:=bK.from g3 g
    have r3:=I.cY g3 (G.cY D r1);dsimp only[aq.bind]at g;unfold ip at g;split at g
    .rename_i ds hd
     obtain⟨p,vs,rfl,h1,h2⟩:=bJ s3 r3 hd;exact .inl ⟨p,vs,rfl,ll h1,dH s3 (xZ h2 l h) g⟩
    ·
     simp only[au]at r3;subst r3;obtain⟨c0,d,J,k⟩:=gq (bw:=false) s3 g;simp only[uu]at J;split at J
     .rename_i hs
      cases J;exact .inr ⟨_,rfl,bA hs,k _ H3 _ _ (dX.refl s3.dom) (.rep (eD rfl))⟩
     .cases J
    .exact g.elim
   .rw[Y]at g;exact g
   .rw[Y]at g;exact g
  .obtain⟨F,m,B⟩:=dI z b e f c i
   refine PE.imp (fx (r:=DD X.K) (gj.or jh) (y b e f c j) n m) ?_;rintro s H Q ⟨t,Z,S,g⟩;refine⟨t,Z,S,?_⟩;simp only[bL,q,A,aq.bind]at g ⊢;intro v R u T C G r1;refine E s R u T _ (S.grow C G) ?_;rw[A];intro U w V D I;exact g U w V (C.trans D) I
  .obtain⟨F,m,B⟩:=dI z b e f c i
   refine PE.imp (fx (r:=DD X.K) (gj.or jh) (y b e f c j) n m) ?_;rintro s H Q ⟨t,Z,S,g⟩;simp only[bL,q,A,aq.bind]at g;exact g.elim
 .obtain⟨tl,n,E⟩:=dI P b e f c j
  obtain⟨F,m,B⟩:=dI z b e f c j;refine PE.imp (fx (r:=DD X.K) (gj.or jh) (y b e f c j) n m) ?_;rintro s H Q ⟨t,Z,S,g⟩;refine⟨t,Z,S,?_⟩;simp only[bL,q,aq.bind]at g ⊢;exact g
 .obtain⟨tl,n,E⟩:=dI P b e f c j
  obtain⟨F,m,B⟩:=dI z b e f c j;refine PE.imp (fx (r:=DD X.K) (gj.or jh) (y b e f c j) n m) ?_;rintro s H Q ⟨t,Z,S,g⟩;simp only[bL,q,aq.bind]at g;exact g.elim
end
theorem PE.ex{X:Cx}{e:Expr}{b:Type}{t:b->TE}(h:∀i,PE X e (t i)):PE X e (λa H Q=>∃i,t i a H Q):=λpins s a H Q I ⟨i,q⟩=>h i pins s a H Q I q
theorem PW.ex{X:Cx}{e:Expr}{b:Type}{t:b->TT}(h:∀i,PW X e (t i)):PW X e (λa H Q=>∃i,t i a H Q):=λc pins s a H Q I ⟨i,q⟩=>h i c pins s a H Q I q
theorem PA.ex{X:Cx}{es:List Expr}{c:Type}{t:c->TA}(h:∀i,PA X es (t i)):PA X es (λa H Q=>∃i,t i a H Q):=λb pins s a H Q I ⟨i,q⟩=>h i b pins s a H Q I q
def bV(c d:EM):EM:=λb e=>(c b e).bind λx a=>match fC a x with
 |some true=>d b a
 |some false=>.ok x a
 |none=>.bad
def fY(c d:EM):EM:=λb e=>(c b e).bind λx a=>match fC a x with
 |some false=>d b a
 |some true=>.ok x a
 |none=>.bad
def dP(b:EM):EM:=λc d=>(dO (b c d)).bind λt a=>.ok (.bl (!t)) a
def ou(mc c d:EM):EM:=λb e=>(dO (mc b e)).bind λt a=>if t=true then c b a else d b a
section
variable{X:Cx}{κ:Str->Addr->Prop}{Φ:dE}{α α' gn α1:List Addr}{Z Z' Z0 Z1:Addr->Prop}{Ω az:aE}{H H' H0 H1:Hp}{ρ:aR}{σ:L2.St}{Q Q':VK}{r:aq D}{a b e ce:Expr}{rest:List Expr}{es:List Expr}{ma mb mc m:EM}{as:AM}{pos p:Pos}
theorem fF{d:D}{v:V}{t:Bool}{K:PySem.W.Frag}(S:bI κ α Z Ω H)(r:au α Z H d v)(h:fC Ω d=some t):mJ K v H t:=by
 cases d with
 |non=>simp only[au]at r;subst r;cases h;rfl
 |bl b=>simp only[au]at r;subst r;cases h;rfl
 |int b=>simp only[au]at r;subst r;cases h;rfl
 |str b=>
  simp only[au]at r;subst r
  have n:Now Z H (.str b) (.str b):=by simp only[Now,Rep]
  exact Bh n h
 |lst ds=>
  cases h;obtain⟨a,c,rfl,f,g⟩:=bJ (ds:=ds) S r rfl;refine .inl ⟨c,ll f,?_⟩;have:=g.length;cases ds<;>cases c<;>simp at this ⊢
 |tup ds=>
  cases h;obtain⟨a,c,rfl,_,f,g⟩:=di r;refine .inr (.inl ⟨c,oq (.inl f),?_⟩);have:=g.length;cases ds<;>cases c<;>simp at this ⊢
 |dct _ _=>cases h
 |ref k=>
  simp only[fC]at h;split at h
  .rename_i ds j
   cases h;obtain⟨a,c,rfl,f,g⟩:=bJ (ds:=ds) S r (by simp only[cI,j])
   refine .inl ⟨c,ll f,?_⟩;have:=g.length;cases ds<;>cases c<;>simp at this ⊢
  .rename_i l j
   cases h;simp only[au]at r;obtain⟨a,m,rfl⟩:=r;obtain⟨o,i,e,f,g⟩:=S.cell j;rw[m]at i;cases i
   refine .inr (.inr ⟨e,f,?_⟩);have:=g.length;cases l<;>cases e<;>simp at this ⊢
  .cases h
theorem mz.use{r:aq Bool}{f:Bool->aE->aq D}{Q':Bool->Hp->Prop}(h:bK κ Φ α Z H (r.bind f) Q)(k:∀t aM,r=.ok t aM->∀b a c,cw α Z H a c b->bI κ a c aM b->bK κ Φ a c b (f t aM) Q->Q' t b):mz κ Φ α Z H r Q':=by
 cases r with
 |ok d aM=>exact λb a c g s=>k d aM rfl b a c g s (bK.from g h)
 |exc x aM=>exact h
 |bad=>exact h
theorem mz.Lk{Q:Bool->Hp->Prop}{K:PySem.W.Frag}(h:mz κ Φ α Z H (dO r) Q):bK κ Φ α Z H r (λv a=>∃t,mJ K v a t/\Q t a):=by
 cases r with
 |ok d b=>
  intro v a c e g s q;simp only[dO]at h;split at h
  .rename_i t f
   exact⟨t,fF s q f,h a c e g s⟩
  .exact h.elim
 |exc x b=>exact h
 |bad=>exact h.elim
theorem x_(h:bo X κ Φ e m)(c:∀a,isTrue e X.env a=(do let v ←a;standAt e.pos;holding [v] (truthy v))):fK X κ Φ e m:=by
 intro b d f i j;refine PT.imp (tW (h b d f i j) c) ?_;rintro l H Q ⟨k,Z,S,g⟩;exact⟨k,Z,S,g.Lk⟩
theorem ya(n:bo X κ Φ a ma)(o:bo X κ Φ (.BoolOp .And (b::rest) pos) mb):bo X κ Φ (.BoolOp .And (a::b::rest) pos) (bV ma mb):=by
 intro d k l m p;refine PE.imp (xJ (n d k l m p) (PE.ex λc=>o d k l m c)) ?_
 rintro t H Q ⟨q,Z,S,g⟩;refine⟨q,Z,S,bK.use g λx c _ v u h r s e i f=>?_⟩
 split at f
 .rename_i j
  exact⟨true,fF e i j,oK ⟨c,h,r,S.grow s e,f⟩⟩
 .rename_i j
  exact⟨false,fF e i j,oJ (bK.ret e i f)⟩
 .exact f.elim
theorem Bq(n:bo X κ Φ a ma)(o:bo X κ Φ (.BoolOp .Or (b::rest) pos) mb):bo X κ Φ (.BoolOp .Or (a::b::rest) pos) (fY ma mb):=by
 intro d k l m p;refine PE.imp (Bk (n d k l m p) (PE.ex λc=>o d k l m c)) ?_
 rintro t H Q ⟨q,Z,S,g⟩;refine⟨q,Z,S,bK.use g λx c _ v u h r s e i f=>?_⟩
 split at f
 .rename_i j
  exact⟨false,fF e i j,oJ ⟨c,h,r,S.grow s e,f⟩⟩
 .rename_i j
  exact⟨true,fF e i j,oK (bK.ret e i f)⟩
 .exact f.elim
theorem sv{op:BoolOp}(c:bo X κ Φ a ma):bo X κ Φ (.BoolOp op [a] pos) ma:=λb d e f g=>AA (c b d e f g)
theorem yb(d:bo X κ Φ a ma):bo X κ Φ (.UnaryOp .Not a pos) (dP ma):=by
 intro b e f h i;refine PE.imp (xK (d b e f h i)) ?_;rintro o H Q ⟨j,Z,S,g⟩;refine⟨j,Z,S,?_⟩;have:=mz.use (Q':=λt c=>Q (.bl (!t)) c) g λt k _ c l p q m n=>bK.ret m (aG rfl) n
 exact this.Lk
theorem yc(h:fK X κ Φ a ma):fK X κ Φ (.UnaryOp .Not a pos) (dP ma):=by
 intro b i j e f;refine PT.imp (Az (h b i j e f)) ?_;rintro p H Q ⟨k,Z,S,g⟩;refine⟨k,Z,S,?_⟩;simp only[dP]at g;cases q:dO (ma e f)with
 |ok t c=>rw[q]at g;exact λl d m n o=>g l d m n o
 |exc x c=>rw[q]at g;exact g
 |bad=>rw[q]at g;exact g
def zX(X:Cx)(κ:Str->Addr->Prop)(Φ:dE)(e:Expr)(m:EM):Prop:=∀a b c d f,PW X e (HX κ Φ a b c m d f)
theorem zX.pt(h:zX X κ Φ e m):fK X κ Φ e m:=λa b c d f=>(h a b c d f).pt
theorem yd{op:BoolOp}(c:fK X κ Φ a ma):zX X κ Φ (.BoolOp op [a] pos) ma:=λb d e f g=>by
 cases op with
 |And=>exact pw_and1 (c b d e f g)
 |Or=>exact pw_or1 (c b d e f g)
theorem ye(p:fK X κ Φ a ma)(r:zX X κ Φ (.BoolOp .And (b::rest) pos) mb):zX X κ Φ (.BoolOp .And (a::b::rest) pos) (bV ma mb):=by
 intro e l m i n;refine PW.imp (pw_and (p e l m i n) (PW.ex λc=>r e l m i c)) ?_
 rintro t H Q ⟨s,Z,S,g⟩;refine⟨s,Z,S,?_⟩;simp only[bV]at g;cases q:ma i n with
 |ok x c=>
  rw[q]at g;dsimp only[aq.bind]at g;simp only[dO];split at g
  .rename_i f
   rw[f];exact λo d j h k=>oK ⟨c,d,j,S.grow h k,mz.from h g⟩
  .rename_i f
   rw[f];simp only[dO,f]at g;exact λo d j h k=>oJ (g o d j h k)
  .exact g.elim
 |exc x c=>rw[q]at g;exact g
 |bad=>rw[q]at g;exact g.elim
theorem Br(p:fK X κ Φ a ma)(r:zX X κ Φ (.BoolOp .Or (b::rest) pos) mb):zX X κ Φ (.BoolOp .Or (a::b::rest) pos) (fY ma mb):=by
 intro e l m i n;refine PW.imp (pw_or (p e l m i n) (PW.ex λc=>r e l m i c)) ?_
 rintro t H Q ⟨s,Z,S,g⟩;refine⟨s,Z,S,?_⟩;simp only[fY]at g;cases q:ma i n with
 |ok x c=>
  rw[q]at g;dsimp only[aq.bind]at g;simp only[dO];split at g
  .rename_i f
   rw[f];exact λo d j h k=>oJ ⟨c,d,j,S.grow h k,mz.from h g⟩
  .rename_i f
   rw[f];simp only[dO,f]at g;exact λo d j h k=>oK (g o d j h k)
  .exact g.elim
 |exc x c=>rw[q]at g;exact g
 |bad=>rw[q]at g;exact g.elim
theorem yf(n:fK X κ Φ ce mc)(o:bo X κ Φ a ma)(p:bo X κ Φ b mb):bo X κ Φ (.IfExp ce a b pos) (ou mc ma mb):=by
 intro d h i j q;refine PE.imp (tM (n d h i j q) (PE.ex λc=>o d h i j c) (PE.ex λc=>p d h i j c)) ?_
 rintro s H Q ⟨r,Z,S,g⟩;refine⟨r,Z,S,mz.use g λt c _ u e k l m f=>?_⟩
 cases t with
 |true=>rw[if_pos rfl]at f;exact oK ⟨c,e,k,S.grow l m,f⟩
 |false=>rw[if_neg Bool.false_ne_true]at f;exact oJ ⟨c,e,k,S.grow l m,f⟩
theorem yg(r:fK X κ Φ ce mc)(u:fK X κ Φ a ma)(w:fK X κ Φ b mb):fK X κ Φ (.IfExp ce a b pos) (ou mc ma mb):=by
 intro e j k f n pins s l H Q I;rintro⟨y,Z,S,g⟩;simp only[ou]at g
 have o:HX κ Φ e j k mc f n l H (λt i=>∃c d h,cP κ e j k d h c f l i/\mz κ Φ d h i (dO (if t=true then ma f c else mb f c)) Q):=by
  refine⟨y,Z,S,?_⟩;cases q:dO (mc f n)with
  |ok t c=>
   rw[q]at g;exact λi d h p m=>⟨c,d,h,S.grow p m,mz.from p g⟩
  |exc x c=>rw[q]at g;exact g
  |bad=>rw[q]at g;exact g.elim
 refine isTrue_IfExp (cf (r e j k f n pins s l H _ I o) λv m ⟨i,I1,c,d,h,S1,k1⟩=>?_)
 cases v with
 |true=>rw[if_pos rfl]at k1;exact u e j k f c pins m l i Q I1 ⟨d,h,S1,k1⟩
 |false=>rw[if_neg Bool.false_ne_true]at k1;exact w e j k f c pins m l i Q I1 ⟨d,h,S1,k1⟩
def fm(op b:CmpOp)(g h mc:EM):EM:=λc i=>(g c i).bind λx d=>(h c d).bind λy e=>(dO (cu op x y e)).bind λt a=>if t=true then (mc c a).bind λz f=>cu b y z f else .ok (.bl false) a
theorem uT{op b:CmpOp}(S:cP κ gn Z0 H0 α Z Ω ρ f H)(g:bK κ Φ α Z H (fm op b ma mb mc ρ Ω) Q) :
  oA (uA op) (uA b) (tO κ Φ gn Z0 H0 ma ρ Ω) (λf H Q=>∃aM,tO κ Φ gn Z0 H0 mb ρ aM f H Q) (λf H Q=>∃aM,tO κ Φ gn Z0 H0 mc ρ aM f H Q) f H Q:=by
 refine⟨α,Z,S,bK.use g λx aM _ v N i B p j C D=>?_⟩
 refine⟨aM,i,B,S.grow p j,bK.use D λy k _ w E l F r m s c=>?_⟩
 have G:=(S.grow p j).grow r m;refine lC (op:=op) (κ:=κ) (Φ:=Φ) m (j.cY r C) s ?_;cases q:cu op x y k with
 |ok d a=>
  obtain⟨t,rfl⟩:=lF _ _ _ _ _ q;intro u O n I o s3 A;simp only[au]at A;refine⟨t,A,?_⟩;rw[q]at c;have e:bK κ Φ l F E (if t=true then (mc ρ a).bind λz h=>cu b y z h else .ok (.bl false) a) Q:=c
  have e:=bK.from o e
  cases t with
  |true=>
   rw[if_pos rfl]at e ⊢;refine⟨a,n,I,G.grow o s3,bK.use e λz h _ P R J T K s4 L M=>?_⟩
   exact lC s4 (s3.cY K (m.cY o s)) L M
  |false=>
   rw[if_neg Bool.false_ne_true]at e ⊢;exact bK.ret s3 (aG rfl) e
 |exc x a=>rw[q]at c;exact c
 |bad=>rw[q]at c;exact c
theorem yh{op c:CmpOp}(j:X.A.units+64<cLine)(k:lastMarks [op,c] [b,ce]=false)(l:bo X κ Φ a ma)(m:bo X κ Φ b mb)(n:bo X κ Φ ce mc):bo X κ Φ (.Compare a [op,c] [b,ce] pos) (fm op c ma mb mc):=by
 intro d f h i o;refine PE.imp (tU (gX j op) (gX j c) (l d f h i o) (PE.ex λe=>m d f h i e) (PE.ex λe=>n d f h i e) k) ?_
 rintro p H Q ⟨q,Z,S,g⟩;exact uT S g
theorem Bs{op a:CmpOp}{d:D}{az:aE}(h:fm op a ma mb mc ρ Ω=.ok d az):∃t,d=.bl t:=by
 simp only[fm]at h;cases b:ma ρ Ω with
 |ok x c=>
  rw[b]at h;dsimp only[aq.bind]at h
  cases e:mb ρ c with
  |ok y f=>
   rw[e]at h;dsimp only[aq.bind]at h
   cases g:dO (cu op x y f)with
   |ok t i=>
    rw[g]at h;dsimp only[aq.bind]at h
    split at h
    .cases j:mc ρ i with
     |ok z k=>rw[j]at h;exact lF _ _ _ _ _ h
     |exc _ _=>rw[j]at h;cases h
     |bad=>rw[j]at h;cases h
    .cases h;exact⟨_,rfl⟩
   |exc _ _=>rw[g]at h;cases h
   |bad=>rw[g]at h;cases h
  |exc _ _=>rw[e]at h;cases h
  |bad=>rw[e]at h;cases h
 |exc _ _=>rw[b]at h;cases h
 |bad=>rw[b]at h;cases h
theorem yi{op c:CmpOp}(l:X.A.units+64<cLine)(o:lastMarks [op,c] [b,ce]=false)(p:bo X κ Φ a ma)(r:bo X κ Φ b mb)(s:bo X κ Φ ce mc):fK X κ Φ (.Compare a [op,c] [b,ce] pos) (fm op c ma mb mc):=by
 intro f i j h m;refine PT.imp (tV (gX l op) (gX l c) (p f i j h m) (PE.ex λe=>r f i j h e) (PE.ex λe=>s f i j h e) o) ?_
 rintro B H Q ⟨C,Z,S,g⟩;refine uT S ?_;cases q:fm op c ma mb mc h m with
 |ok d e=>
  obtain⟨t,rfl⟩:=Bs q;rw[q]at g;intro v u k w y z n;simp only[au]at n;exact⟨t,n,g u k w y z⟩
 |exc x e=>rw[q]at g;exact g
 |bad=>rw[q]at g;exact g.elim
def bS(f:List D->Out Rs):List D->aE->aq D:=λb a=>match bF (ef a 8) b with
 |some c=>dG a (f c)
 |none=>.bad
theorem gv{bw:Bool}{f:List D->Out Rs}{xs:List D}{i:List V}(S:bI κ α Z Ω H)(j:aL (au α Z H) xs i)(h:bK κ Φ α Z H (bS f xs Ω) Q) :
  ∃ds a d',aW (qH α Z) H ds i/\f ds=.ok (a,d')/\∀v b c,dX (qH α Z) H c b->dB bw a c H b d' v->Q v b:=by
 unfold bS at h;split at h
 .rename_i ds l
  obtain⟨a,d',e,k⟩:=gq (bw:=bw) S h;exact⟨ds,a,d',fB (dZ (S:=Rep (qH α Z) H) (λd d' v q r=>iA S 8 q r) l j),e,λv b c g q=>k v b _ c g q⟩
 .exact h.elim
theorem sx{k:Nat}{x:Str}{F:List D->Out Rs}(F0:DE X k x F)(j:dW k X.A)(l:Gl X x)(a:(x==("__debug__":Str))=false)
  (m:starEach (e::es) X.env=(false,eval e X.env)::starEach es X.env) (b:(backTo pos (starEach es X.env)).any (·.1)=false) (n:ng X κ Φ (e::es) as) :
  bo X κ Φ (.Call (.Name x p) (e::es) [] pos) (mN (bS F) as):=by
 obtain⟨f,P,R,o,q,r,s⟩:=F0.ex;intro c t u w y;refine PE.imp (qa s j l o q r .nil ui (n c t u w y) a m b) ?_;rintro T H Q ⟨z,Z,S,g⟩;refine⟨z,Z,S,lz.use g λU B _ C E d G V i I J=>?_⟩
 show ji F (C++[]) E Q E0
 rw[List.append_nil];obtain⟨K,h,L,M,N,O⟩:=gv (bw:=false) i I J;exact⟨qH d G,K,h,L,dw i,M,N,O⟩
end
end Mir
namespace L2
open PySem PySem.Spec PyProof.Rows PySem.W
section
variable{P:Program}{w:World}{K:PySem.W.Frag}{mg:Str->Option Value}{base:Heap}
end
end L2
namespace L2
open PySem PySem.Spec PyProof.Rows
def DN(a:Addr)(o:Obj):It:=
 ⟨λi H=>∃b,H a=some (.ee o (.dK b))/\i<b.length,λi H x d=>d=H/\∀b,H a=some (.ee o (.dK b))->∃c,b[i]?=some c/\x=kV c.1,λi H=>∃b,H a=some (.ee o (.dK b))/\b.length<=i⟩
theorem fZ{α a:Type}{F:α->a->Prop}:∀{xs:List α}{us:List a}{i:Nat}{x:α},Paired F xs us->xs[i]?=some x->∃u,us[i]?=some u/\F x u
 |_,_,_,_,.nil,e=>by simp at e
 |_,_,0,_,.cons r _,e=>by simp at e;subst e;exact⟨_,rfl,r⟩
 |_,_,i+1,x,.cons _ t,e=>by
  obtain⟨u,h1,h2⟩:=fZ (i:=i) (x:=x) t (by simpa using e)
  exact⟨u,by simpa using h1,h2⟩
theorem qM{k:Key}{u:Value}{P:Program}{w:World}(h:(cq P w).is k u=true):RelV (kV k) u:=by
 rcases bO (show iM k u=true from h)with ⟨i,t,rfl,rfl⟩|⟨x,t,rfl,rfl⟩
 .exact⟨t,rfl⟩
 .exact⟨t,rfl⟩
theorem oY{P:Program}{w:World}{H:Hp}{h:Heap}{a:Addr}{o:Obj}{kvs:List (Key×V)}{es:Array DictEntry}{ep:Nat}(ok:gR P w H h)(e:H a=some (.ee o (.dK kvs)))(d:o.data=.dict es ep) :
  ∃b,KV kvs b/\h.DictAt (cq P w) a b ep/\es.size=b.length/\(a==sysModules)=false:=by
 obtain⟨f,_,j,b,r,q,k,l,c,m,g,n,i,p⟩:=ok a _ e;rw[f]at c;cases c
 rw[d]at g;cases g
 refine⟨b,r,⟨o,es,f,m,d,n,i,p⟩,?_,j⟩;rw[←i.length];simp
theorem sy{P:Program}{w:World}{K:PySem.W.Frag}{U:Expr}(a it:Addr){o:Obj}{es:Array DictEntry}{ep:Nat}(O:o.data=.dict es ep):Turn P w K U (DN a o) [it] it (λi h=>h.IsKeyIter it a i es.size ep) where
 mem:=by simp
 obj:=λi h f b j=>by
  have e:b=it:=by simpa using j
  subst e;obtain⟨o,e,c,d⟩:=f;exact⟨o,e,λv z=>by rw[d]at z;cases z⟩
 keep:=λi h p f k=>by
  obtain⟨o,e,c,d⟩:=f;exact⟨o,k it (by simp) o e,c,d⟩
 item:=by
  intro X y A B Q i pins s R H E I t f C;subst y A B;obtain⟨g,u,S⟩:=C;obtain⟨V,r,D,x,_⟩:=oY I.hok u O;have l:g[i]?=some g[i]:=List.getElem?_eq_getElem S;obtain⟨q,Y,Z⟩:=fZ r l;obtain⟨F,G,f2,J,L,M⟩:=t it (by simp)
  rw[x]at f;refine wpAny_pyNext_dict_item f D (k:=q.1) (v:=q.2) Y λN p hk m sb=>?_
  have I1:Inv X pins R H {s with heap:=p}:=I.turned (t':=s.toks) (λb o j e=>(sb.2 b j).trans e) F G J L M
  obtain⟨o1,e1,c1,d1⟩:=id m;refine⟨N,rfl,mI (s:={s with heap:=p}) e1 c1 d1 (by decide) ⟨kV q.1,H,I1,qM hk,⟨rfl,λT n=>?_⟩,by rw[x];exact m,λb j=>(t b j).1⟩⟩
  rw[u]at n;cases n
  exact⟨g[i],l,by rw[Z.1]⟩
 done:=by
  intro X y A B Q i pins s R H E I t f C;subst y A B;obtain⟨g,u,S⟩:=C;obtain⟨V,r,D,x,_⟩:=oY I.hok u O;obtain⟨F,G,f2,J,L,M⟩:=t it (by simp)
  have hl:=r.length;rw[x]at f;exact wpAny_pyNext_dict_end (I.ok.hd Q) f D (List.getElem?_eq_none (by omega)) λp eb=>⟨rfl,I.turned (t':=s.toks) (λb o j e=>eb b o j e) F G J L M⟩
 self:=λ_ _ _ _ _ f h=>wpAny_pyIter_keyiter f h
section
variable{X:Cx}{pins:List (Addr×Obj)}{σ:St}{H:Hp}{s:Shared}
theorem Inv.yj{a:Addr}{kvs:List (Key×V)}(I:Inv X pins σ H s)(e:H a=some (.dK kvs)):∃o es ep,s.heap.get? a=some o/\o.data=.dict es ep/\Inv X pins σ (upd H a (.ee o (.dK kvs))) s:=by
 obtain⟨z,d,f,r,o,es,ep,b,g,c,h,i,j⟩:=I.hok a _ e;refine⟨o,es,ep,b,c,?_⟩;have:=lb (t':=s.toks) (h':=s.heap) (ob:=.ee o (.dK kvs)) I (by rw[e];exact True.intro) ⟨rfl,λ_ _=>rfl⟩ ⟨o,b⟩ ⟨b,z,d,f,r,o,es,ep,b,g,c,h,i,j⟩
 exact this
def DO(R:It->Hp->Prop)(x:V)(c:Hp):Prop:=∃a b,x=.ref a/\((c a=some (.dK b)/\∀o,R (DN a o) (upd c a (.ee o (.dK b))))\/∃o,c a=some (.ee o (.dK b))/\R (DN a o) c)
theorem yk{p:Expr}{x:V}{u:Value}{R:It->Hp->Prop}(l:Inv X pins σ H s)(B:RelV x u)(q:DO R x H):wpAny (model X.prog X.w) X.A (pyIter u) (PIE X pins σ p R) X.xe s:=by
 obtain⟨a,m,rfl,q⟩:=q;cases (show u=Value.ref a from B)
 have c:∀(o:Obj) (e:Array DictEntry) (d:Nat) (f:Hp),Inv X pins σ f s->f a=some (.ee o (.dK m))->o.data=.dict e d->R (DN a o) f->wpAny (model X.prog X.w) X.A (pyIter (.ref a)) (PIE X pins σ p R) X.xe s:=by
  intro o e d f g C j h;obtain⟨n,r,D,E,t⟩:=oY g.hok C j;refine wpAny_pyIter_dict t D ?_;have F:Inv X pins σ f {s with heap:=s.heap.push {cls:=.type "dict_keyiterator",data:=.fields #[.ref a,.int 0 0,.int n.length 0,.int d 0]} }:=g.kept (t':=s.toks) λb o q=>Heap.get?_push_of_some _ q
  refine⟨s.heap.objs.size,[s.heap.objs.size],_,_,f,rfl,F,sy a _ j,?_,λb G=>?_,h⟩
  .rw[E]
   exact⟨{cls:=.type "dict_keyiterator",data:=.fields #[.ref a,.int 0 0,.int n.length 0,.int d 0]},Heap.get?_push_size _ rfl,rfl,rfl⟩
  .have z:b=s.heap.objs.size:=by simpa using G
   rw[z];have:=g.xb (b:=s.heap.objs.size) (Nat.le_refl _) (g.hok.fresh (Nat.le_refl _));exact this
 rcases q with ⟨k,h⟩|⟨o,k,h⟩
 .obtain⟨o,e,d,y,j,g⟩:=l.yj k
  exact c o e d _ g bc j (h o)
 .obtain⟨y,_,t,n,r,J,e,d,i,K,I,L⟩:=l.hok a _ k
  rw[y]at i;cases i
  exact c o e d _ l k I h
end
section
variable{prog:Program}{w:World}{A:Around}{E:Value->Shared->Prop}{s:Shared}
theorem sD{a:Addr}{Q:Bool->Shared->Prop}(e:s.TypeIs (.ref a) "dict")(h:Q false s):wpAny (model prog w) A (Builtin.List.listLengthHint (.ref a)) Q E s:=by
 unfold Builtin.List.listLengthHint;refine wpAny_bind (wpAny_specialOf e F.slot_dict_len.lookup ?_);generalize d:("dict.__len__":String)=f
 wp_delta
 rw[show splitId f=some ("dict","__len__")from by subst d;decide +kernel]
 subst d;refine wpAny_bind (wpAny_isInstance (T:="dict") (b:=true) e isSubtype_dict_dict ?_);refine wpAny_ite_split (λc=>absurd c (by decide)) (λ_=>?_)
 refine wpAny_ite_split (λ_=>?_) (λc=>absurd (by decide +kernel) c)
 refine wpAny_bind (wpAny_typeOf e ?_);exact wpAny_pure h
variable{K:Type}[DecidableEq K]{knd:KeyKind prog w K}
theorem ju{a:Addr}{kvs:List (K×Value)}{ep:Nat}{Q:Value->Shared->Prop}(hh:A.handled=none)(lo:(a==sysModules)=false)(da:s.heap.DictAt knd a kvs ep)(hn:kvs.length<=sizeLine)
  (hQ:∀h' tk f M,(∀b o,s.heap.get? b=some o->h'.get? b=some o)->h'.get? s.heap.objs.size=some {cls:=.type "list",dict:=none,data:=.seq f M,slots := #[]}->ItemsOf (λi v=>∃k x,kvs[i]?=some (k,x)/\knd.is k v=true) f kvs.length->Q (.ref s.heap.objs.size) {s with heap:=h',toks:=tk}) :
  wpAny (model prog w) A (call (.type "list") [.ref a]) Q E s:=by
 refine callType_codes (Q₁:=λu m=>u=.ref s.heap.objs.size/\m={s with heap:=s.heap.push {cls:=.type "list",data:=.seq #[]} }) F.called_list (F.typeCall_list_1 _) F.entry_list_init
  (code_list_new _ ⟨rfl,rfl⟩) λu m y=>?_
 obtain⟨rfl,rfl⟩:=y;generalize d:s.heap.objs.size=S;have I:(s.heap.push {cls:=.type "list",data:=.seq #[]}).get? S=some {cls:=.type "list",data:=.seq #[]}:=by rw[←d];exact Heap.get?_push_size _ rfl
 refine⟨⟨_,I,rfl⟩,F.args_list_init_2 _ _,?_⟩
 show wpAny _ A.in1.in1 (do let N ←Builtin.List.listItems (.ref S);Builtin.List.listUpdate (.ref S) (λ_=>#[]);letGo N.toList.reverse;Builtin.List.listExtendWith (.ref S) (.ref a) .none) _ _ _
 refine wpAny_bind ?_;unfold Builtin.List.listItems;refine wpAny_bind (wpAny_seqItems I rfl (wpAny_pure ?_))
 show wpAny _ _ (updateSeq S (λ_=>#[]) >>= λ_=>letGo (#[]:Array Value).toList.reverse >>= λ_=>Builtin.List.listExtendWith (.ref S) (.ref a) .none) _ _ _
 refine wpAny_bind (wpAny_updateSeq I rfl ?_);have c:=Heap.get?_update_self (Obj.mapSeq (λ_=>(#[]:Array Value))) I rfl
 have n:S≠a:=λe=>by
  obtain⟨o,es,p,_⟩:=da;exact Nat.lt_irrefl _ ((e▸d)▸Heap.lt_size p)
 refine wpAny_bind (wpAny_letGo ?_);generalize O:(s.heap.push {cls:=.type "list",data:=.seq #[]}).update S (Obj.mapSeq (λ_=>(#[]:Array Value)))=g at c
 have k1:∀b o,s.heap.get? b=some o->g.get? b=some o:=λb o e=>by
  rw[←O];exact(Heap.get?_update_other _ _ (λz=>Nat.lt_irrefl _ ((z▸d)▸Heap.lt_size e))).trans (Heap.get?_push_of_some _ e)
 have l:g.DictAt knd a kvs ep:=da.at' λo e=>k1 a o e
 have P:({s with heap:=g}:Shared).TypeIs (.ref a) "dict":=let ⟨o,_,p,R,_⟩:=l;⟨o,p,R.1⟩
 show wpAny _ _ (Builtin.List.listExtendWith (.ref S) (.ref a) .none) _ _ {s with heap:=g}
 unfold Builtin.List.listExtendWith;refine wpAny_bind (wpAny_typeOf P ?_);have T:Builtin.List.listSameRef (.ref S) (.ref a)=false:=by simp[Builtin.List.listSameRef,n]
 have U:(Value.type "dict"==Value.type "list")=false:=by decide
 have V:(Value.type "dict"==Value.type "tuple")=false:=by decide
 simp only[T,U,V,Bool.or_false,Bool.false_eq_true,if_false];refine wpAny_bind (wpAny_pyIter_dict lo l ?_);generalize B:g.push {cls:=.type "dict_keyiterator",data:=.fields #[.ref a,.int 0 0,.int kvs.length 0,.int ep 0]}=q;have J:∀b o,g.get? b=some o->q.get? b=some o:=λb o e=>by rw[←B];exact Heap.get?_push_of_some _ e
 have X:q.IsKeyIter g.objs.size a 0 kvs.length ep:=by rw[←B];exact⟨_,Heap.get?_push_size _ rfl,rfl,rfl⟩
 have C:q.DictAt knd a kvs ep:=l.at' λo e=>J a o e
 have Y:({s with heap:=q}:Shared).TypeIs (.ref a) "dict":=let ⟨o,_,p,R,_⟩:=C;⟨o,p,R.1⟩
 refine wpAny_bind (wpAny_holding (sD (s:={s with heap:=q}) Y ?_));refine wpAny_ite_split (λ_=>?_) (λZ=>absurd (by decide) Z)
 refine wpAny_bind (wpAny_rule ?_);refine wpAny_bind ?_
 show wpAny _ _ (updateSeq S (·.push .none) >>= λ_=>updateSeq S (·.pop)) _ _ _
 refine wpAny_bind (wpAny_updateSeq (J _ _ c) rfl ?_);have h:=Heap.get?_update_self (Obj.mapSeq (·.push Value.none)) (J _ _ c) rfl;refine wpAny_updateSeq (hz:=by seq_fits) h rfl ?_
 have j:=Heap.get?_update_self (Obj.mapSeq (·.pop)) h rfl;refine wpAny_pure ⟨plainId_quiet F.plain_extend_loop _,?_⟩;generalize a0:(q.update S (Obj.mapSeq (·.push Value.none))).update S (Obj.mapSeq (·.pop))=h3 at j
 have k3:∀b o,b≠S->q.get? b=some o->h3.get? b=some o:=λb o r e=>by
  rw[←a0];exact(Heap.get?_update_other _ _ (Ne.symm r)).trans ((Heap.get?_update_other _ _ (Ne.symm r)).trans e)
 have b0:a<g.objs.size:=let ⟨o,_,p,_⟩:=l;Heap.lt_size p
 have t:S<g.objs.size:=Heap.lt_size c;have W:=(Walks.dictKeys (prog:=prog) (w:=w) (A:=A.in1.in1) (knd:=knd) hh g.objs.size a (Nat.ne_of_lt b0) kvs ep).toS;refine codeAny_extend_loopS W hn S (λL=>?_) .none kvs.length 0 _ #[] _ rfl (Nat.zero_le _) ⟨X.at λo e=>k3 _ o (Ne.symm (Nat.ne_of_lt t)) e,C.at' λo e=>k3 _ o (Ne.symm n) e⟩ j (ItemsOf.nil _) λs' f M L D G=>?_
 .rcases List.mem_cons.mp L with e|e
  .exact Nat.ne_of_lt t e
  .exact n (by simpa using e)
 .rw[Moved.eq_with L]at D ⊢
  refine⟨rfl,?_⟩;have:=hQ s'.heap s'.toks f M (λb o e=>L.heap b o (λH=>?_) (k3 _ _ (λz=>Nat.lt_irrefl _ ((z▸d)▸Heap.lt_size e)) (J _ _ (k1 _ _ e)))) (by rw[d];exact D) G
  .rw[d]at this;exact this
  .have r:=Heap.lt_size e
   rcases List.mem_cons.mp H with e' |e'
   .rw[e',←d]at r;exact Nat.lt_irrefl _ r
   .have e':b=g.objs.size:=by simpa using e'
    rw[e',d]at r;exact Nat.lt_irrefl _ (Nat.lt_trans r t)
end
section
variable{X:Cx}
theorem ym{c:List V}{acc:Array Value}{P:Nat->Value->Prop}(h:ItemsOf P acc c.length)(j:∀(i:Nat) (u:Value) (v:V),P i u->c[i]?=some v->RelV v u):Vals c acc.toList:=by
 have d:∀(l:List Value) (c:List V),l.length=c.length->(∀(i:Nat) (u:Value) (v:V),l[i]?=some u->c[i]?=some v->RelV v u)->Vals c l:=by
  intro l
  induction l with
  |nil=>intro c h _;cases c with|nil=>exact .nil|cons a b=>simp at h
  |cons u l k=>
   intro c h g;cases c with
   |nil=>simp at h
   |cons v c=>exact .cons (g 0 u v rfl rfl) (k c (by simpa using h) λi m n e f=>g (i+1) m n (by simpa using e) (by simpa using f))
 exact d _ _ (by rw[Array.length_toList,h.1]) λi u v e f=>j i u v (h.2 i u (by simpa using e)) f
theorem oZ(n:X.calm=true):dV X (.type "list") (λxs H Q=>∃a kvs,xs=[V.ref a]/\Rd H a (.dK kvs)/\∀l,H l=none->Q (.ref l) (upd H l (.lst (kvs.map λb=>kV b.1)))):=by
 intro pins s S H xs T Q I r h;obtain⟨a,kvs,rfl,p,q⟩:=h;obtain⟨u,rfl,t⟩:=vals1 r;cases t;obtain⟨z,y,g,d,A⟩:=ud I.hok p;obtain⟨o,B,ep,d1,d2,d3,d4⟩:=A;have C:=d.length;refine ju (knd:=cq X.prog X.w) (kvs:=g) (ep:=ep) (I.ok.hd n) y ⟨o,B,d1,d2,d3,d4⟩ (by omega) λD U c E F e G=>?_
 have J:Vals (kvs.map λb=>kV b.1) c.toList:=ym (P:=λi v=>∃k x,g[i]?=some (k,x)/\(cq X.prog X.w).is k v=true) (by rw[List.length_map,←C]at *;exact G) λi u v K f=>by
  obtain⟨k,x,L,M⟩:=K
  have N:∃b,kvs[i]?=some b/\v=kV b.1:=by
   rw[List.getElem?_map]at f;cases j:kvs[i]? with
   |none=>rw[j]at f;cases f
   |some b=>rw[j]at f;cases f;exact⟨b,rfl,rfl⟩
  obtain⟨b,O,rfl⟩:=N;obtain⟨Y,m,R⟩:=fZ d O;rw[L]at m;cases m
  rw[R.1];exact qM M
 exact⟨.ref s.heap.objs.size,_,I.laid F (Nat.le_refl _) (show b_ X.prog X.w _ D _ (.lst _)from⟨by simpa using z,c.toList,E,J,by simpa using e⟩),rfl,q _ (I.hok.fresh (Nat.le_refl _))⟩
end
end L2
namespace Mir
open PySem PySem.Spec PyProof.Rows L2
section
variable{X:Cx}{tg e:Expr}
def DP(K:PySem.W.Frag)(d:TE):TI:=λe H R=>d e H λx b=>(∃a c,x=.ref a/\Rd b a (.lst c)/\R (HJ K a) b)\/(∃a c,x=.ref a/\Rd b a (.tup c)/\R (HK K a) b)\/(∃y,x=.str y/\R (Lg y) b)\/DO R x b
theorem yn{m:TE}(n:PE X e m):PI X tg e (DP X.K m):=by
 intro pins s p H R I h;refine cf (n pins s p H _ I h) λv c ⟨x,g,d,i,r⟩=>?_
 have j:∀b∈[c.heap.objs.size],iQ X pins g b:=λb u=>by
  obtain rfl:b=c.heap.objs.size:=by simpa using u
  exact d.xb (Nat.le_refl _) (d.hok.fresh (Nat.le_refl _))
 rcases r with ⟨a,w,rfl,k,q⟩|⟨a,w,rfl,k,q⟩|⟨y,rfl,q⟩|q
 .cases i
  obtain⟨f,z,l,A⟩:=d.list (ll (K:=X.K) k);refine wpAny_pyIter_list l.isList ?_;exact⟨c.heap.objs.size,[c.heap.objs.size],_,_,g,rfl,d.kept (t':=c.toks) λb o e=>Heap.get?_push_of_some _ e,rN a _,⟨_,Heap.get?_push_size _ rfl,rfl,rfl⟩,j,q⟩
 .cases i
  obtain⟨f,z,l,A⟩:=d.tuple (oq (K:=X.K) k);refine wpAny_pyIter_tuple (show c.heap.IsTuple a f.toArray from l) ?_
  exact⟨c.heap.objs.size,[c.heap.objs.size],_,_,g,rfl,d.kept (t':=c.toks) λb o e=>Heap.get?_push_of_some _ e,oy a _,⟨_,Heap.get?_push_size _ rfl,rfl,rfl⟩,j,q⟩
 .obtain⟨t,rfl⟩:=i
  refine wpAny_pyIter_strU ?_;exact⟨c.heap.objs.size,[c.heap.objs.size],_,_,g,rfl,d.kept (t':=c.toks) λb o e=>Heap.get?_push_of_some _ e,uK _ y t (strIterType y) (by unfold strIterType;split<;>simp),⟨_,Heap.get?_push_size _ rfl,rfl,rfl⟩,j,q⟩
 .exact yk d i q
end
variable [aU]
def nq(f g:List D->aE->aq D):List D->aE->aq D:=λa b=>gd (f a b) (g a b)
def uU(xs:List D)(Ω:aE):aq D:=match xs with
 |[x]=>match fE Ω x with
  |some a=>.ok (.int a.length) Ω
  |none=>.bad
 |_=>.bad
noncomputable def DQ(xs:List D)(Ω:aE):aq D:=.bad
def qN(xs:List D)(Ω:aE):aq D:=match xs with
 |[x]=>match fE Ω x with
  |some a=>fk Ω (.lst a)
  |none=>.bad
 |_=>.bad
noncomputable def o9:Key->D
 |.inl i=>.int i
 |.inr x=>.str x
noncomputable def Bt(Ω:aE)(x:D):Option (List (Key×D)):=match x with
 |.ref k=>(match Ω[k]? with
  |some (.dK a)=>some a
  |some (.dF a)=>some a
  |_=>none)
 |_=>none
def qO(xs:List D)(Ω:aE):aq D:=match xs with
 |[x]=>match Bt Ω x with
  |some a=>fk Ω (.lst (a.map λb=>o9 b.1))
  |none=>.bad
 |_=>.bad
def jv(xs:List D)(Ω:aE):aq D:=match xs with
 |[.tup a]=>.ok (.tup a) Ω
 |[x]=>match cI Ω x with
  |some a=>.ok (.tup a) Ω
  |none=>.bad
 |_=>.bad
def Bu:List D->Out Rs
 |[.str z]=>if small z.length then .ok (false,.int z.length)else .bad
 |_=>.bad
def Bv:List D->Out Rs
 |[.lst xs]=>match ja xs with|some bs=>.ok (false,.bl (bs.all id))|none=>.bad
 |_=>.bad
noncomputable def Bw:List D->Out Rs
 |[.int i]=>.ok (false,.int i)
 |[.bl k]=>.ok (false,.int (if k then 1 else 0))
 |_=>.bad
def uV:i_->List D->Out Rs
 |.len=>Bu
 |.all=>Bv
 |.int=>Bw
 |_=>λ_=>.bad
def lG(f:i_):List D->aE->aq D:=bS (uV f)
def aH(f:i_):List D->aE->aq D:=match f with
 |.len=>nq uU (nq DQ (lG .len))
 |.list=>nq qN qO
 |.tuple=>jv
 |f=>lG f
section
variable{X:Cx}{κ:Str->Addr->Prop}{Φ:dE}{α α' gn α1:List Addr}{Z Z' Z0 Z1:Addr->Prop}{Ω az:aE}{H H' H0 H1:Hp}{ρ:aR}{σ:L2.St}{Q Q':VK}{r:aq D}{a b e ce o:Expr}{rest:List Expr}{es:List Expr}{ma mb mc m mo:EM}{as:AM}{pos p apos cpos:Pos}
theorem o_{f g:List D->aE->aq D}:mN (nq f g) as=eH (mN f as) (mN g as):=by
 funext b a
 simp only[mN,eH];cases as b a with
 |ok x c=>rfl
 |exc x a=>rfl
 |bad=>rfl
theorem gw{f:List D->aE->aq D}{id:String}{x:Str}{r:List V->Hp->VK->Prop}(j:dV X (.builtin id) r)(k:Gl X x)(l:X.mg x=none)(m:bootBuiltins x=some (.builtin id))(n:x≠"__name__")(b:(x==("__debug__":Str))=false)
  (o:starEach (e::es) X.env=(false,eval e X.env)::starEach es X.env) (c:(backTo pos (starEach es X.env)).any (·.1)=false) (q:ng X κ Φ (e::es) as)
  (s:∀xs a α Z Ω H Q,bI κ α Z Ω H->aL (au α Z H) xs a->bK κ Φ α Z H (f xs Ω) Q->r a H Q):bo X κ Φ (.Call (.Name x p) (e::es) [] pos) (mN f as):=by
 intro d t u w Ω;refine PE.imp (iT j k l m (q d t u w Ω) n b o c) ?_;rintro E H Q ⟨α,Z,S,g⟩;exact⟨α,Z,S,lz.use g λxs h _ a y i z F A B C=>s xs a i z h y Q A B C⟩
theorem eK{f:List D->aE->aq D}{id:String}{x:Str}{r:List V->Hp->VK->Prop}(j:dV X (.type id) r)(k:Gl X x)(l:X.mg x=none)(m:bootBuiltins x=some (.type id))(n:x≠"__name__")(b:(x==("__debug__":Str))=false)
  (o:starEach (e::es) X.env=(false,eval e X.env)::starEach es X.env) (c:(backTo pos (starEach es X.env)).any (·.1)=false) (q:ng X κ Φ (e::es) as)
  (s:∀xs a α Z Ω H Q,bI κ α Z Ω H->aL (au α Z H) xs a->bK κ Φ α Z H (f xs Ω) Q->r a H Q):bo X κ Φ (.Call (.Name x p) (e::es) [] pos) (mN f as):=by
 intro d t u w Ω;refine PE.imp (rY j k l m (q d t u w Ω) n b o c) ?_;rintro E H Q ⟨α,Z,S,g⟩;exact⟨α,Z,S,lz.use g λxs h _ a y i z F A B C=>s xs a i z h y Q A B C⟩
theorem fM:∀{ds:List D}{a:List V},aW Z H ds a->uB Z H ds a
 |[],a,h=>h.nil_inv
 |d::ds,a,h=>by
  obtain⟨v,r,rfl,h1,h2⟩:=h.cons_inv;exact⟨v,r,rfl,h1.now,fM h2⟩
theorem uW{x:D}{v:V}{kvs:List (Key×D)}(S:bI κ α Z Ω H)(r:au α Z H x v)(h:Bt Ω x=some kvs):∃a kvs',v=.ref a/\Rd H a (.dK kvs')/\jn (au α Z H) kvs kvs':=by
 unfold Bt at h;split at h
 .rename_i k
  simp only[au]at r;obtain⟨a,g,rfl⟩:=r;split at h
  .rename_i c d
   cases h;obtain⟨i,b,kvs',e,f⟩:=S.cell d;rw[g]at b;cases b
   exact⟨a,kvs',rfl,.inl e,f⟩
  .rename_i c d
   cases h;obtain⟨i,b,j,kvs',e,f⟩:=S.cell d;rw[g]at b;cases b
   exact⟨a,kvs',rfl,.inr ⟨j,e⟩,f⟩
  .cases h
 .cases h
theorem yo{xs:List D}{d:List V}(S:bI κ α Z Ω H)(e:aL (au α Z H) xs d)(g:bK κ Φ α Z H (qO xs Ω) Q):∃a kvs,d=[V.ref a]/\Rd H a (.dK kvs)/\∀l,H l=none->Q (.ref l) (upd H l (.lst (kvs.map λc=>kV c.1))):=by
 unfold qO at g;split at g
 .split at g
  .rename_i kvs f
   obtain⟨v,r,rfl,h,i⟩:=e.cons_inv;rw[i.nil_inv];obtain⟨a,b,rfl,j,k⟩:=uW S h f;refine⟨a,b,rfl,j,dH S ?_ g⟩
   have:∀{kvs:List (Key×D)}{b:List (Key×V)},jn (au α Z H) kvs b->aL (au α Z H) (kvs.map λc=>o9 c.1) (b.map λc=>kV c.1):=λ{kvs b} q=>by
    unfold jn at q
    induction q with
    |nil=>exact .nil
    |@cons p q _ _ m _ n=>
     refine .cons ?_ n
     show au α Z H (o9 p.1) (kV q.1)
     rw[m.1];cases q.1<;>simp only[o9,kV,au]
   exact this k
  .exact g.elim
 .exact g.elim
theorem yp{f:i_}(j:X.calm=true)(E:f∈[i_.len,i_.all,i_.list,i_.tuple,i_.int])(q:Gl X f.nm)(s:X.mg f.nm=none)
  (t:starEach (e::es) X.env=(false,eval e X.env)::starEach es X.env) (b:(backTo pos (starEach es X.env)).any (·.1)=false) (u:ng X κ Φ (e::es) as) :
  bo X κ Φ (.Call (.Name f.nm p) (e::es) [] pos) (mN (aH f) as):=by
 cases f with
 |len=>
  show bo X κ Φ _ (mN (nq uU (nq DQ (lG .len))) as)
  rw[o_,o_];refine bo.alt ?_ (bo.alt ?_ ?_)
  .refine gw gk q s boot_len (by decide) (by decide) t b u ?_
   intro C L m Z o H Q S c g;unfold uU at g;split at g
   .split at g
    .rename_i w F
     obtain⟨v,r,rfl,y,z⟩:=c.cons_inv;rw[z.nil_inv];obtain⟨l,A,rfl,B,D⟩:=jt (K:=X.K) S y F;exact⟨l,A,rfl,B,by rw[D.length];exact bK.ret S (aG rfl) g⟩
    .exact g.elim
   .exact g.elim
  .exact gw gk q s boot_len (by decide) (by decide) t b u λC L m Z o H Q S c g=>(show False from g).elim
  .refine gw kZ q s boot_len (by decide) (by decide) t b u ?_
   intro G I m Z o H Q S c g;obtain⟨w,J,d,i,a,k⟩:=gv (bw:=false) S c g;have i:=fM i;have h:=dw S;replace a:Bu w=_:=a;unfold Bu at a;split at a
   .obtain⟨x,rfl,n⟩:=i.one
    cases cM n;split at a
    .rename_i N
     cases a;exact⟨_,rfl,bA N,gY h k rfl⟩
    .cases a
   .cases a
 |all=>
  refine gw (uI j) q s boot_all (by decide) (by decide) t b u ?_
  intro G I m Z o H Q S c g;obtain⟨w,J,d,i,a,k⟩:=gv (bw:=false) S c g;have i:=fM i;have h:=dw S;replace a:Bv w=_:=a;unfold Bv at a;split at a
  .obtain⟨x,rfl,n⟩:=i.one
   split at a
   .rename_i bs O
    cases a;exact⟨_,_,bs,x,rfl,n,O,gY h k rfl⟩
   .cases a
  .cases a
 |any=>simp at E
 |int=>
  refine eK rS q s boot_int (by decide) (by decide) t b u ?_
  intro G I m Z o H Q S c g;obtain⟨w,J,d,i,a,k⟩:=gv (bw:=false) S c g;have i:=fM i;have h:=dw S;replace a:Bw w=_:=a;unfold Bw at a;split at a
  .obtain⟨x,rfl,n⟩:=i.one
   cases bh n;cases a;exact .inl ⟨_,rfl,gY h k rfl⟩
  .obtain⟨x,rfl,n⟩:=i.one
   cases fy n;cases a;exact .inr ⟨_,rfl,gY h k rfl⟩
  .cases a
 |min=>simp at E
 |max=>simp at E
 |list=>
  show bo X κ Φ _ (mN (nq qN qO) as)
  rw[o_];refine bo.alt ?_ (eK (oZ j) q s boot_list (by decide) (by decide) t b u λC L m Z o H Q S c g=>yo S c g)
  refine eK k_ q s boot_list (by decide) (by decide) t b u ?_
  intro C L m Z o H Q S c g;have g:bK κ Φ m Z H (qN C o) Q:=g;unfold qN at g;split at g
  .split at g
   .rename_i w F
    obtain⟨v,r,rfl,y,z⟩:=c.cons_inv;rw[z.nil_inv];obtain⟨l,A,rfl,B,D⟩:=jt (K:=X.K) S y F;exact⟨l,A,rfl,B,dH S D g⟩
   .exact g.elim
  .exact g.elim
 |tuple=>
  refine eK j_ q s boot_tuple (by decide) (by decide) t b u ?_
  intro C L m Z o H Q S c g;have g:bK κ Φ m Z H (jv C o) Q:=g;unfold jv at g;split at g
  .obtain⟨v,r,rfl,y,z⟩:=c.cons_inv
   rw[z.nil_inv];have M:=y;obtain⟨l,A,rfl,_,B,D⟩:=di y;exact⟨l,A,rfl,.inr ⟨oq (.inl B),bK.ret S M g⟩⟩
  .split at g
   .rename_i w F
    obtain⟨v,r,rfl,y,z⟩:=c.cons_inv;rw[z.nil_inv];obtain⟨l,A,rfl,B,D⟩:=bJ S y F;exact⟨l,A,rfl,.inl ⟨ll B,jq S D g⟩⟩
   .exact g.elim
  .exact g.elim
 |sorted=>simp at E
 |bool=>simp at E
def HZ(t:Ty):D->aE->aq D:=su λd=>match uw d t with|some b=>.ok (false,.bl b)|none=>.bad
noncomputable def Bx(t:Ty)(x:D)(Ω:aE):aq D:=match x with
 |.ref k=>match Ω[k]? with
  |some (.lst _)=>.ok (.bl (t==.list)) Ω
  |some (.dK _)=>.ok (.bl (t==.dict)) Ω
  |_=>.bad
 |.lst _=>.ok (.bl (t==.list)) Ω
 |.tup _=>.ok (.bl (t==.tuple)) Ω
 |_=>.bad
def cA(t:Ty):D->aE->aq D:=Bm (Bx t) (HZ t)
def zY(K:PySem.W.Frag):List V->Hp->VK->Prop:=λd H Q=>∃a c t,d=[.ref a,.ty (Ty.id t)]/\((Rd H a (.lst c)/\Q (.bl (t==.list)) H)\/(Rd H a (.tup c)/\Q (.bl (t==.tuple)) H)\/(∃b,H a=some (.dK b)/\Q (.bl (t==.dict)) H))
theorem sE:dV X (.builtin "isinstance") (zY X.K):=by
 intro pins s f H n p Q I r h;obtain⟨a,w,t,rfl,h⟩:=h;obtain⟨u,i,rfl,e,j⟩:=vals2 r;cases (show i=Value.type (Ty.id t)from j)
 obtain⟨x,y,A,B,g,k,l⟩:=qw X.K t;rcases h with ⟨d,q⟩|⟨d,q⟩|⟨m,d,q⟩
 .have b:∀c,EP X pins f Q (.bool (t==.list)) {s with toks:=c}:=λc=>⟨.bl _,H,I.tok c,rfl,q⟩
  rcases d with d|⟨o,d⟩
  .exact cE I e (.lst d) g b
  .exact cE I e (.ee d) g b
 .have b:∀c,EP X pins f Q (.bool (t==.tuple)) {s with toks:=c}:=λc=>⟨.bl _,H,I.tok c,rfl,q⟩
  cases e;exact PySem.W.kia_one PySem.W.kitx_tuple I.kh (hW (K:=X.K) I d) k (λz=>nomatch z) b
 .have b:∀c,EP X pins f Q (.bool (t==.dict)) {s with toks:=c}:=λc=>⟨.bl _,H,I.tok c,rfl,q⟩
  exact cE I e (.dK d) l b
theorem yq{t:Ty}{f:Pos}(A:Gl X "isinstance")(B:X.mg "isinstance"=none)(u:Gl X t.nm)(w:X.mg t.nm=none)
  (n:starEach [a,Expr.Name t.nm f] X.env=(false,eval a X.env)::starEach [Expr.Name t.nm f] X.env) (h:(backTo pos (starEach [Expr.Name t.nm f] X.env)).any (·.1)=false) (o:bo X κ Φ a ma) :
  bo X κ Φ (.Call (.Name "isinstance" p) [a,.Name t.nm f] [] pos) (m1 (cA t) ma):=by
 have i:PE X (.Name t.nm f) (tC (.ty t.id)):=wX u w (xF t) rfl (by cases t<;>decide) (by cases t<;>decide)
 unfold cA;rw[Bn];refine bo.alt ?_ ?_
 .refine fL (r:=λx H Q=>zY X.K [x,.ty t.id] H Q) (λD y=>iT sE A B boot_isinstance (eX y (eX i kU rfl) n) (by decide) (by decide) n h) o ?_
  intro E x F Z G H Q S c g;unfold Bx at g;split at g
  .split at g
   .rename_i k ds z
    obtain⟨a,j,rfl,e,C⟩:=bJ (ds:=ds) S c (by simp only[cI,z])
    exact⟨a,j,t,rfl,.inl ⟨e,bK.ret S (aG rfl) g⟩⟩
   .rename_i k I z
    simp only[au]at c;obtain⟨a,o,rfl⟩:=c;obtain⟨M,l,m,e,_⟩:=S.cell z;rw[o]at l;cases l
    exact⟨a,[],t,rfl,.inr (.inr ⟨m,e,bK.ret S (aG rfl) g⟩)⟩
   .exact g.elim
  .rename_i ds
   obtain⟨a,j,rfl,e,C⟩:=bJ (ds:=ds) S c rfl;exact⟨a,j,t,rfl,.inl ⟨e,bK.ret S (aG rfl) g⟩⟩
  .obtain⟨a,j,rfl,_,e,C⟩:=di c
   exact⟨a,j,t,rfl,.inr (.inl ⟨.inl e,bK.ret S (aG rfl) g⟩)⟩
  .exact g.elim
 .refine fL (r:=λx H Q=>DF X.K [x,.ty t.id] H Q) (λD y=>iT uJ A B boot_isinstance (eX y (eX i kU rfl) n) (by decide) (by decide) n h) o ?_
  intro E x F Z G H Q S c g;obtain⟨d,J,N,L,s,k⟩:=ni (bw:=false) S c g;cases q:uw d t with
  |none=>rw[q]at s;cases s
  |some b=>
   rw[q]at s;cases s;exact⟨_,d,x,t,b,rfl,L,q,gY (dw S) k rfl⟩
def bx(b:aE->D->Bool)(f:D->List D->aE->aq D)(e:EM)(as:AM):EM:=λd g=>(e d g).bind λx a=>if b a x=true then (as d a).bind λh c=>f x h c else .bad
def sF(Ω:aE)(x:D):Bool:=(cI Ω x).isSome
noncomputable def cp(_:aE)(x:D):Bool:=match x with
 |.str _=>true
 |_=>false
theorem By{x:D}{v:V}{K:PySem.W.Frag}(S:bI κ α Z Ω H)(r:au α Z H x v)(h:sF Ω x=true):CH K "list" v H:=by
 unfold sF at h;cases q:cI Ω x with
 |none=>rw[q]at h;cases h
 |some d=>
  obtain⟨a,b,rfl,c,e⟩:=bJ S r q;exact .inl ⟨rfl,b,ll c⟩
theorem fb{x:D}{v:V}{K:PySem.W.Frag}(S:bI κ α Z Ω H)(r:au α Z H x v)(h:cp Ω x=true):CH K "str" v H:=by
 cases x with
 |str z=>simp only[au]at r;subst r;rfl
 |_=>cases h
section
variable{T id:String}{name:Str}{r:V->List V->Hp->VK->Prop}{Ll:aE->D->Bool}{f:D->List D->aE->aq D}
theorem pa{env:Env}:∀{es:List Expr},(∀e∈es,isStar e=false)->((backTo cpos (starEach es env)).all (λx=>!x.1))=true
 |[],_=>rfl
 |e::es,h=>by
  rw[bu (h e (by simp))]
  show(!false&&(backTo cpos (starEach es env)).all (λx=>!x.1))=true
  rw[pa λz hz=>h z (by simp[hz])];rfl
theorem fG(B:PlainAttrs T)(slot:PySem.Slot T name id)(l:typeOf (.builtin id)=pure (.type "method_descriptor"))(C:wO X id r)
  (D:∀x v α Z Ω H,bI κ α Z Ω H->au α Z H x v->Ll Ω x=true->CH X.K T v H)
  (E:∀x v xs k α Z Ω H Q,bI κ α Z Ω H->au α Z H x v->aL (au α Z H) xs k->bK κ Φ α Z H (f x xs Ω) Q->r v k H Q)
  (b:attributeBase o name X.env (eval o X.env)=eval o X.env) (c:(apos.endLine==cpos.line)=true) (F:bo X κ Φ o mo) (G:ng X κ Φ (e::es) as) (d:∀z∈e::es,isStar z=false) (s:(e::es).length<20):bo X κ Φ (.Call (.Attribute o name apos) (e::es) [] cpos) (bx Ll f mo as):=by
 intro h t u w Ω
 have i:((backTo cpos (starEach (e::es) X.env)).all (λx=>!x.1)&&(backToKw cpos (keywordEach [] X.env)).all (λx=>x.1.isSome)
   && decide ((e::es).length+([]:List Keyword).length+(if ([]:List Keyword).isEmpty then 0 else 1)<30))=true:=by
  rw[pa d,decide_eq_true (by show(e::es).length+0+0<30;omega)];rfl
 refine PE.imp (L2.Du B slot l C (F h t u w Ω) (PA.ex λa=>G h t u w a) b i c (bu (d e (by simp))) (cH λz I=>d z (by simp[I]))) ?_
 rintro Y H Q ⟨α,Z,S,g⟩;refine⟨α,Z,S,bK.use g λx a _ v J j y L m A n=>?_⟩
 split at n
 .rename_i M
  exact⟨D x v j y a J m A M,a,j,y,S.grow L m,lz.use n λxs p _ k N q O P R U V=>E x v xs k q O p N Q R (m.cY P A) U V⟩
 .exact n.elim
end
noncomputable def pb(Ω:aE):D->Option (Nat×List D)
 |.ref k=>match Ω[k]? with
  |some (.lst ds)=>some (k,ds)
  |_=>none
 |_=>none
theorem nr{x:D}{v:V}{k:Nat}{ds:List D}(S:bI κ α Z Ω H)(r:au α Z H x v)(h:pb Ω x=some (k,ds)):∃a c,v=.ref a/\α[k]?=some a/\H a=some (.lst c)/\aL (au α Z H) ds c:=by
 cases x with
 |ref n=>
  simp only[pb]at h;split at h
  .rename_i e f
   cases h;simp only[au]at r;obtain⟨a,d,rfl⟩:=r;obtain⟨j,b,c,g,i⟩:=S.cell f;rw[d]at b;cases b;exact⟨a,c,rfl,d,g,i⟩
  .cases h
 |_=>cases h
theorem uX{k:Nat}{p:Addr}{ds:List D}{a:List V}{d:D}{u:V}(S:bI κ α Z Ω H)(e:α[k]?=some p){f:List V}(h:H p=some (.lst f))(r:aL (au α Z H) ds a)(i:au α Z H d u)(g:bK κ Φ α Z H (.ok d (Ω.set k (.lst ds))) Q):Q u (upd H p (.lst a)):=by
 obtain⟨j,b⟩:=S.put (o:=.lst a) (c:=.lst ds) e (λo u z=>by rw[h]at z;cases z) λR l=>⟨a,bc,r.imp l⟩
 exact g _ _ _ _ b j (S.cY b i)
def cx(x:D)(xs:List D)(Ω:aE):aq D:=match pb Ω x,xs with
 |some (k,a),[y]=>if small (a.length+1)then .ok .non (Ω.set k (.lst (a++[y])))else .bad
 |_,_=>.bad
def kD(x:D)(xs:List D)(Ω:aE):aq D:=match xs with
 |[y]=>eI (λa b=>sk .join a (.tup [b])) x y Ω
 |_=>.bad
theorem dy{R:D->V->Prop}{y:D}{a:List V}(h:aL R [y] a):∃v,a=[v]/\R y v:=by
 obtain⟨v,r,rfl,b,c⟩:=h.cons_inv;rw[c.nil_inv];exact⟨v,rfl,b⟩
theorem qP{R:D->V->Prop}{y z:D}{a:List V}(h:aL R [y,z] a):∃v w,a=[v,w]/\R y v/\R z w:=by
 obtain⟨v,r,rfl,b,c⟩:=h.cons_inv;obtain⟨w,rfl,d⟩:=dy c;exact⟨v,w,rfl,b,d⟩
theorem sG{x:D}{v:V}{xs:List D}{b:List V}(S:bI κ α Z Ω H)(r:au α Z H x v)(e:aL (au α Z H) xs b)(g:bK κ Φ α Z H (cx x xs Ω) Q):qk v b H Q:=by
 unfold cx at g;split at g
 .rename_i k m y f
  obtain⟨a,h,rfl,i,c,d⟩:=nr S r f;obtain⟨u,rfl,j⟩:=dy e;split at g
  .rename_i l
   have:=bA l;exact⟨a,h,u,rfl,rfl,c,by rw[d.length];omega,uX S i c (d.append (.one j)) (aG rfl) g⟩
  .exact g.elim
 .exact g.elim
theorem qQ{x:D}{v:V}{xs:List D}{c:List V}(S:bI κ α Z Ω H)(r:au α Z H x v)(f:aL (au α Z H) xs c)(g:bK κ Φ α Z H (kD x xs Ω) Q):rJoin v c H Q:=by
 unfold kD at g;split at g
 .obtain⟨u,rfl,h⟩:=dy f
  obtain⟨d,e,i,p,j,l,a,k⟩:=gs (bw:=false) S r h g;cases d with
  |str z=>
   cases cM j;cases e with
   |lst m=>
    (unfold sk at a;dsimp only at a)
    split at a
    .rename_i n o
     split at a
     .rename_i b
      cases a;simp only[Bool.and_eq_true,decide_eq_true_eq]at b;exact⟨z,_,m,n,u,rfl,rfl,l,o,b.1,b.2,gY (dw S) k rfl⟩
     .cases a
    .cases a
   |_=>cases a
  |_=>cases e<;>cases a
 .exact g.elim
end
section
variable{κ:Str->Addr->Prop}{Φ:dE}{α:List Addr}{Z:Addr->Prop}{Ω:aE}{H:Hp}{Q:VK}
end
end Mir
namespace Mir
open PySem PySem.Spec PyProof.Rows L2 Builtin Builtin.Str
section
variable{X:Cx}
def uY:V->List V->Hp->VK->Prop:=λx a H Q=>∃z y,x=.str z/\a=[.str y]/\(y.length==0)=false/\z.length<=4000/\∀p,H p=none->Q (.ref p) (upd H p (.lst ((Txt.split z y).map .str)))
theorem kE:∀(l:List (Str×Tok)),Vals ((l.map (·.1)).map V.str) (strValues l)
 |[]=>.nil
 |p::l=>.cons ⟨p.2,rfl⟩ (kE l)
theorem nt:wO X "str.split" uY:=by
 intro pins s j H x r v A Q I k m h;obtain⟨z,y,rfl,rfl,i,B,q⟩:=h;obtain⟨t,rfl⟩:=k;obtain⟨u,rfl,n⟩:=m.one;obtain⟨d,rfl⟩:=n
 have b:∀(l:List (Str×Tok)) (f:Nat),l.map (·.1)=Txt.split z y->EP X pins j Q (.ref s.heap.objs.size) {s with toks:=f,heap:=s.heap.push {cls:=.type "list",data:=.seq (strValues l).toArray} }:=λl f e=>by
  have C:l.length<=4002:=by
   have a:=(fact_split z y).2;rw[←e,List.length_map]at a;omega
  have g:b_ X.prog X.w (upd H s.heap.objs.size (.lst ((Txt.split z y).map .str))) (s.heap.push {cls:=.type "list",data:=.seq (strValues l).toArray}) s.heap.objs.size (.lst ((Txt.split z y).map .str)):=by
   refine⟨by rw[←e,sizeLine_eq];simp;omega,strValues l,_,?_,Heap.get?_push_size _ rfl⟩
   rw[←e];exact kE l
  exact⟨.ref s.heap.objs.size,_,I.laid (t':=f) (λ_ _ q=>Heap.get?_push_of_some _ q) (Nat.le_refl _) g,rfl,q _ (I.hok.fresh (Nat.le_refl _))⟩
 have o:z.length<=sizeLine:=by rw[sizeLine_eq];omega
 have p:(partsBetween z (occurrences z y 0 z.length (z.length+1)) y.length).length<=sizeLine:=by
  have a:=StrLaws.occ_length_le_len z y 0 z.length (z.length+1);unfold partsBetween;rw[sizeLine_eq];simp;omega
 cases a:(decide (z.length<y.length)||decide (strKind z<strKind y))
 .cases c:(occurrences z y 0 z.length (z.length+1)).isEmpty
  .refine call_meets F.slot_str_split (typeIs_str s z t) F.entry_str_split (F.args_str_split_2 _ _) (meets_str_split_sep z y t d a i c o p) ?_
   have:=b (numbered s.toks (partsBetween z (occurrences z y 0 z.length (z.length+1)) y.length)) (s.toks+(partsBetween z (occurrences z y 0 z.length (z.length+1)) y.length).length) ((numbered_texts _ _).trans ((if_neg (ne_true_of_eq_false a)).trans (if_neg (ne_true_of_eq_false c))).symm);rw[←strsFrom_eq]at this;exact this
  .refine call_meets F.slot_str_split (typeIs_str s z t) F.entry_str_split (F.args_str_split_2 _ _) (meets_str_split_not_found z y t d a i c) ?_
   exact b [(z,t)] s.toks ((if_neg (ne_true_of_eq_false a)).trans (if_pos c)).symm
 .refine call_meets F.slot_str_split (typeIs_str s z t) F.entry_str_split (F.args_str_split_2 _ _) (meets_str_split_cannot_occur z y t d a) ?_
  exact b [(z,t)] s.toks (if_pos a).symm
noncomputable def dQ(z y:Str):Int:=((occurrences z y 0 z.length (z.length+1)).length:Nat)
noncomputable def cZ(z y:Str):Int:=match occurrences z y 0 z.length 1 with|i::_=>(i:Int)|[]=>-1
noncomputable def kd(z y:Str):Bool:=decide (0+y.length<=z.length)&&subAt z y 0
def Gf(f:Str->Str->V):V->List V->Hp->VK->Prop:=λx a H Q=>∃z y,x=.str z/\a=[.str y]/\Q (f z y) H
theorem uZ:wO X "str.count" (Gf λz y=>.int (dQ z y)):=by
 intro pins s e H x f v g Q I a b h;obtain⟨z,y,rfl,rfl,q⟩:=h;obtain⟨t,rfl⟩:=a;obtain⟨u,rfl,c⟩:=b.one;obtain⟨d,rfl⟩:=c;refine call_meets F.slot_str_count (typeIs_str s z t) F.entry_str_count (F.args_str_count_2 _ _) (gives_str_count z y t d).meets ?_;exact⟨.int _,H,I.tok _,⟨_,rfl⟩,q⟩
theorem yr:wO X "str.find" (Gf λz y=>.int (cZ z y)):=by
 intro pins s e H x f v g Q I a b h;obtain⟨z,y,rfl,rfl,q⟩:=h;obtain⟨t,rfl⟩:=a;obtain⟨u,rfl,c⟩:=b.one;obtain⟨d,rfl⟩:=c;refine call_meets F.slot_str_find (typeIs_str s z t) F.entry_str_find (F.args_str_find_2 _ _) (gives_str_find z y t d).meets ?_;exact⟨.int _,H,I.tok _,⟨_,rfl⟩,q⟩
theorem sH:wO X "str.startswith" (Gf λz y=>.bl (kd z y)):=by
 intro pins s e H x f v g Q I a b h;obtain⟨z,y,rfl,rfl,q⟩:=h;obtain⟨t,rfl⟩:=a;obtain⟨u,rfl,c⟩:=b.one;obtain⟨d,rfl⟩:=c;refine call_meets F.slot_str_startswith (typeIs_str s z t) F.entry_str_startswith (F.args_str_startswith_2 _ _) (gives_str_startswith z y t d).meets ?_;exact⟨.bl _,H,I,rfl,q⟩
def u9:V->List V->Hp->VK->Prop:=λx c H Q=>rJoin x c H Q\/∃z a b,x=.str z/\c=[.ref a]/\Rd H a (.tup (b.map .str))/\z.length<=16/\(b.map (·.length)).sum+b.length<=1048576/\Q (.str (Txt.join z b)) H
theorem nu:∀{xs:List Str}{us:List Value},Vals (xs.map V.str) us->StrsAre us xs
 |[],us,h=>by cases h;exact .nil
 |x::xs,us,h=>by
  cases h with
  |cons h1 h2=>
   obtain⟨t,rfl⟩:=h1;exact .cons x t (nu h2)
theorem u_:wO X "str.join" u9:=by
 intro pins s e H x f v g Q I c d h;rcases h with h|⟨z,a,r,rfl,rfl,i,j,l,q⟩
 .exact qA pins s e H x f v g Q I c d h
 .obtain⟨t,rfl⟩:=c
  obtain⟨u,rfl,m⟩:=d.one;cases m;obtain⟨n,b,o,w⟩:=I.tuple (oq (K:=X.K) i);exact join_tupleW o (by simpa using nu b) j l λp k=>⟨.str _,H,I.tok _,⟨p,rfl⟩,q⟩
end
variable [aU]
section
variable{κ:Str->Addr->Prop}{Φ:dE}{α:List Addr}{Z:Addr->Prop}{Ω:aE}{H:Hp}{Q:VK}
def bM(x:D)(xs:List D)(Ω:aE):aq D:=match x,xs with
 |.str z,[.str y]=>if !(y.length==0)&&decide (z.length<=4000)then fk Ω (.lst ((Txt.split z y).map .str))else .bad
 |_,_=>.bad
theorem sI(l:List Str):aL (au α Z H) (l.map D.str) (l.map V.str):=by
 induction l with
 |nil=>exact .nil
 |cons a l b=>exact .cons (aG rfl) b
theorem nv{x:D}{v:V}{xs:List D}{b:List V}(S:bI κ α Z Ω H)(r:au α Z H x v)(d:aL (au α Z H) xs b)(g:bK κ Φ α Z H (bM x xs Ω) Q):uY v b H Q:=by
 unfold bM at g;split at g
 .rename_i z y
  obtain⟨u,rfl,c⟩:=dy d;simp only[au]at r c;subst r;subst c;split at g
  .rename_i a
   simp only[Bool.and_eq_true,Bool.not_eq_true',decide_eq_true_eq]at a;exact⟨z,y,rfl,rfl,a.1,a.2,dH S (sI _) g⟩
  .exact g.elim
 .exact g.elim
noncomputable def sJ(f:Str->Str->D)(x:D)(xs:List D)(Ω:aE):aq D:=match x,xs with
 |.str z,[.str y]=>.ok (f z y) Ω
 |_,_=>.bad
theorem va{f:Str->Str->D}{a:Str->Str->V}(d:∀z y,ei (f z y)=some (a z y)){x:D}{v:V}{xs:List D}{b:List V}(S:bI κ α Z Ω H)(r:au α Z H x v)(e:aL (au α Z H) xs b)(g:bK κ Φ α Z H (sJ f x xs Ω) Q):Gf a v b H Q:=by
 unfold sJ at g;split at g
 .rename_i z y
  obtain⟨u,rfl,c⟩:=dy e;simp only[au]at r c;subst r;subst c;exact⟨z,y,rfl,rfl,bK.ret S (aG (d z y)) g⟩
 .exact g.elim
def dM(x:D)(xs:List D)(Ω:aE):aq D:=match xs with
 |[.tup b]=>(match x,eh b with
  |.str z,some a=>if z.length<=16/\(a.map (·.length)).sum+a.length<=1048576 then .ok (.str (Txt.join z a)) Ω else .bad
  |_,_=>.bad)
 |_=>kD x xs Ω
theorem kF:∀{ds:List D}{a:List Str},eh ds=some a->ds=a.map .str
 |[],a,h=>by cases h;rfl
 |d::ds,a,h=>by
  cases d with
  |str z=>
   unfold eh at h;cases b:eh ds with
   |none=>rw[b]at h;cases h
   |some r=>rw[b]at h;cases h;rw[kF b];rfl
  |_=>cases h
theorem qR:∀{b:List Str}{a:List V},aL (au α Z H) (b.map D.str) a->a=b.map .str
 |[],a,h=>h.nil_inv
 |y::b,a,h=>by
  obtain⟨v,r,rfl,h1,h2⟩:=h.cons_inv;simp only[au]at h1;rw[h1,qR h2];rfl
theorem yt{x:D}{v:V}{xs:List D}{b:List V}(S:bI κ α Z Ω H)(r:au α Z H x v)(c:aL (au α Z H) xs b)(g:bK κ Φ α Z H (dM x xs Ω) Q):u9 v b H Q:=by
 unfold dM at g;split at g
 .split at g
  .rename_i k _ _ z h i
   split at g
   .rename_i d
    obtain⟨u,rfl,e⟩:=dy c;simp only[au]at r;subst r;rw[kF i]at e;obtain⟨a,l,rfl,_,f,j⟩:=di e;rw[qR j]at f;exact .inr ⟨z,a,h,rfl,rfl,.inl f,d.1,d.2,bK.ret S (aG rfl) g⟩
   .exact g.elim
  .exact g.elim
 .exact .inl (qQ S r c g)
end
end Mir
namespace PySem
open Sem (wp)
def tG(b:Bool)(h:Heap)(l:Addr)(xs:Array Value):Prop:=match b with
 |false=>h.IsList l xs
 |true=>h.IsTuple l xs
def ov(b:Bool)(h:Heap)(i l:Addr)(k:Nat):Prop:=match b with
 |false=>h.IsListIter i l k
 |true=>h.IsTupleIter i l k
noncomputable def DR(b:Bool)(l:Addr):Obj:=match b with
 |false=>{cls:=.type "list_iterator",data:=.fields #[.ref l,.int 0 0]}
 |true=>{cls:=.type "tuple_iterator",data:=.fields #[.ref l,.int 0 0]}
theorem tG.at{b:Bool}{h h':Heap}{l:Addr}{xs:Array Value}(x:tG b h l xs)(k:∀o,h.get? l=some o->h'.get? l=some o):tG b h' l xs:=by
 cases b<;>exact let ⟨o,a,r⟩:=x;⟨o,k o a,r⟩
theorem ov.at{b:Bool}{h h':Heap}{i l:Addr}{n:Nat}(x:ov b h i l n)(k:∀o,h.get? i=some o->h'.get? i=some o):ov b h' i l n:=by
 cases b<;>exact let ⟨o,a,r⟩:=x;⟨o,k o a,r⟩
theorem ov.obj{b:Bool}{h:Heap}{i l:Addr}{n:Nat}(x:ov b h i l n):∃o,h.get? i=some o/\∀v,o.data≠.cell v:=by
 cases b<;>(obtain⟨o,a,_,r⟩:=x;exact⟨o,a,λv z=>by rw[r]at z;cases z⟩)
theorem ov.new{b:Bool}{h:Heap}{l i:Addr}(e:h.get? i=some (DR b l)):ov b h i l 0:=by
 cases b<;>exact⟨_,e,rfl,rfl⟩
section
variable{prog:Program}{w:World}{A:Around}{E:Value->Shared->Prop}{s:Shared}
theorem qS{b:Bool}{it l:Addr}{i:Nat}{xs:Array Value}{x:Value}{Q:Value->Shared->Prop}(a:ov b s.heap it l i)(g:tG b s.heap l xs)(h:xs[i]?=some x)
  (j:∀h',ov b h' it l (i+1)->Heap.SameBut it s.heap h'->Q x {s with heap:=h' }):wpAny (model prog w) A (Builtin.SmallTypes.nextOf (.ref it)) Q E s:=by
 cases b with
 |false=>exact wpAny_nextOf_list_item a g h j
 |true=>
  have k:s.TypeIs (.ref it) "tuple_iterator":=Heap.IsTupleIter.typeIs a;obtain⟨o,d,m,c⟩:=id a;obtain⟨n,e,_,p,f⟩:=g;unfold Builtin.SmallTypes.nextOf;refine wpAny_bind (wpAny_callSpecial?_slot (name:=Str.ofString "__next__") k F.slot_tuple_iterator_next (wpAny_call_entry F.slot_tuple_iterator_next k F.entry_tuple_iterator_next ?_ (F.args_tuple_iterator_next_1 _)))
  show wpAny _ _ (field (.ref it) 0 >>= _) _ _ s
  refine wpAny_bind (wpAny_field d c (x:=.ref l) rfl ?_)
  show wpAny _ _ (if (Value.ref l==Value.none)=true then _ else _) _ _ s
  rw[if_neg (show ¬ ((Value.ref l==Value.none)=true)from Bool.false_ne_true)]
  show wpAny _ _ (field (.ref it) 1 >>= _) _ _ s
  refine wpAny_bind (wpAny_field d c (x:=.int i 0) rfl ?_)
  show wpAny _ _ (seqItems? (.ref l) >>= _) _ _ s
  refine wpAny_bind (wpAny_seqItems e f ?_);simp only[Int.toNat_natCast,h];refine wpAny_bind (wpAny_setField d c (by simp) (wpAny_pure ⟨x,rfl,wpAny_pure (j _ ?_ (Heap.SameBut.update ..))⟩))
  exact⟨_,Heap.get?_update_self _ d (Obj.isFreed_of_fields (Obj.data_mapFields c _)),(Obj.cls_mapFields ..).trans m,by rw[Obj.data_mapFields c];simp[rawInt]⟩
theorem Bz{b:Bool}{it l:Addr}{i:Nat}{xs:Array Value}{Q:Value->Shared->Prop}(d:A.handled=none)(c:ov b s.heap it l i)(k:tG b s.heap l xs)(n:xs[i]?=none)
  (p:∀h' e,Heap.ExtBut it s.heap h'->(∃o,h'.get? e=some o/\o.cls=.type "StopIteration")->E (.ref e) {s with heap:=h' }):wpAny (model prog w) A (Builtin.SmallTypes.nextOf (.ref it)) Q E s:=by
 cases b with
 |false=>exact wpAny_nextOf_list_end d c k n p
 |true=>
  have q:s.TypeIs (.ref it) "tuple_iterator":=Heap.IsTupleIter.typeIs c;obtain⟨o,f,r,g⟩:=id c;obtain⟨t,h,_,u,j⟩:=k;unfold Builtin.SmallTypes.nextOf;refine wpAny_bind (wpAny_callSpecial?_slot (name:=Str.ofString "__next__") q F.slot_tuple_iterator_next (wpAny_call_entry F.slot_tuple_iterator_next q F.entry_tuple_iterator_next ?_ (F.args_tuple_iterator_next_1 _)))
  show wpAny _ _ (field (.ref it) 0 >>= _) _ _ s
  refine wpAny_bind (wpAny_field f g (x:=.ref l) rfl ?_)
  show wpAny _ _ (if (Value.ref l==Value.none)=true then _ else _) _ _ s
  rw[if_neg (show ¬ ((Value.ref l==Value.none)=true)from Bool.false_ne_true)]
  show wpAny _ _ (field (.ref it) 1 >>= _) _ _ s
  refine wpAny_bind (wpAny_field f g (x:=.int i 0) rfl ?_)
  show wpAny _ _ (seqItems? (.ref l) >>= _) _ _ s
  refine wpAny_bind (wpAny_seqItems h j ?_);simp only[Int.toNat_natCast,n];refine wpAny_bind (wpAny_rule (wpAny_bind (wpAny_setField f g (by simp) ?_)))
  show wpAny _ _ (newExc (.type "StopIteration") [] >>= _) _ _ _
  refine wpAny_bind ?_;simp only[newExc,newTuple];refine wpAny_bind (wpAny_newObj_type ?_ (by size_fits))
  refine wpAny_bind (m:=firstArgMember _ _) (wpAny_of_eq (a:=Value.none) (by first|rfl | (simp only[firstArgMember];rfl)) ?_)
  refine wpAny_newObj_type ?_ (by size_fits)
  simp only[raiseNew];refine wpAny_bind (wpAny_handled ?_)
  first|rw[show A.in1.handled=none from d]|rw[d]
  exact wpAny_bind (wpAny_pure (wpAny_throw (p _ _ (((Heap.SameBut.update ..).extBut.push _).push _) ⟨_,Heap.get?_push_size _ rfl,rfl⟩)))
structure vb(b:Bool)(h:Heap)(z TI TO i1 i2 l1 l2:Addr)(f0:Value)(k:Nat):Prop where
 hz:IsZip h z TI TO f0
 hTI:IsPair h TI (.ref i1) (.ref i2)
 hTO:∃a c,IsPair h TO a c
 h1:ov b h i1 l1 k
 h2:ov b h i2 l2 k
theorem sL{b:Bool}{z TI TO L N l1 l2:Addr}{k:Nat}{xs ys:Array Value}{x y:Value}{Q:Option Value->Shared->Prop}(D:ZipApart z TI TO L N l1 l2)(Z:vb b s.heap z TI TO L N l1 l2 .none k)
  (i0:tG b s.heap l1 xs) (j0:tG b s.heap l2 ys) (hx:xs[k]?=some x) (hy:ys[k]?=some y)
  (hQ:∀h',vb b h' z TI TO L N l1 l2 (rawInt s.heap.objs.size) (k+1)->IsPair h' s.heap.objs.size x y->h'.objs.size=s.heap.objs.size+1 ->
   (∀c o,c≠z->c≠TO->c≠L->c≠N->s.heap.get? c=some o->h'.get? c=some o)->Q (some (.ref s.heap.objs.size)) {s with heap:=h' }):wpAny (model prog w) A (pyNext (.ref z)) Q E s:=by
 obtain⟨hz,a0,⟨a,c,k0⟩,h1,h2⟩:=Z;have hT:s.TypeIs (.ref z) "zip":=⟨_,hz,rfl⟩;unfold pyNext;refine wpAny_bind (wpAny_attempt (wpAny_callSpecial?_slot (name:=Str.ofString "__next__") hT F.slot_zip_next (wpAny_call_entry F.slot_zip_next hT F.entry_zip_next ?_ (F.args_zip_next_1 _))))
 show wpAny _ _ (field (.ref z) 2 >>= _) _ _ _
 refine wpAny_bind (wpAny_field hz rfl (x:=.bool false) rfl ?_)
 show wpAny _ _ (field (.ref z) 3 >>= _) _ _ _
 refine wpAny_bind (wpAny_field hz rfl (x:=.ref TI) rfl (wpAny_bind (wpAny_seqItems a0 rfl ?_)))
 show wpAny _ _ (Builtin.SmallTypes.ownedTupleIsFree (.ref z) >>= _) _ _ _
 refine wpAny_bind ?_;unfold Builtin.SmallTypes.ownedTupleIsFree;refine wpAny_bind (wpAny_field hz rfl (x:=.none) rfl (wpAny_pure ?_));simp only[if_true];refine wpAny_bind (wpAny_rule (wpAny_bind (wpAny_field hz rfl (x:=.ref TO) rfl (wpAny_bind (wpAny_setField_rec hz (by simp) λO r g=>?_)))))
 replace r:IsZip O z TI TO .ellipsis:=r;refine wpAny_bind ?_;simp only[List.zipIdx_cons,List.zipIdx_nil,List.forIn_cons,List.forIn_nil];refine wpAny_bind (wpAny_bind (wpAny_onRaise ?_))
 show wpAny _ _ (Builtin.SmallTypes.nextOf (.ref L) >>= _) _ _ _
 refine wpAny_bind (qS (s:={s with heap:=O}) (h1.at λo e=>g.extBut _ _ D.i1z e) (i0.at λo e=>g.extBut _ _ D.l1z e) hx λb0 R j=>wpAny_pure ?_)
 have C:IsPair b0 TO a c:=j.extBut _ _ D.TOi1 (g.extBut _ _ D.TOz k0);refine wpAny_bind (wpAny_seqItems C rfl (wpAny_bind (wpAny_updateSeq_pair C λH l m=>?_)))
 replace l:IsPair H TO x c:=l;refine wpAny_bind (wpAny_letGo (wpAny_pure (wpAny_bind (wpAny_bind (wpAny_onRaise ?_)))))
 show wpAny _ _ (Builtin.SmallTypes.nextOf (.ref N) >>= _) _ _ _
 have S:∀q o,q≠z->q≠L->q≠TO->s.heap.get? q=some o->H.get? q=some o:=λq o q1 q2 q3 e=>m.extBut _ _ q3 (j.extBut _ _ q2 (g.extBut _ _ q1 e))
 refine wpAny_bind (qS (s:={s with heap:=H}) (h2.at λo e=>S _ _ D.i2z D.i12.symm D.TOi2.symm e) (j0.at λo e=>S _ _ D.l2z D.l2i1 D.l2TO e) hy λc0 T h=>wpAny_pure ?_)
 have G:IsPair c0 TO x c:=h.extBut _ _ D.TOi2 l;refine wpAny_bind (wpAny_seqItems G rfl (wpAny_bind (wpAny_updateSeq_pair G λd f i=>?_)))
 replace f:IsPair d TO x y:=f;refine wpAny_bind (wpAny_letGo (wpAny_pure (wpAny_pure (wpAny_bind (wpAny_seqItems f rfl (wpAny_bind (wpAny_newTuple ?_)))))));have e0:d.objs.size=s.heap.objs.size:=by rw[i.1,h.1,m.1,j.1,g.1]
 have I:IsZip d z TI TO .ellipsis:=i.extBut _ _ D.TOz.symm (h.extBut _ _ D.i2z.symm (m.extBut _ _ D.TOz.symm (j.extBut _ _ D.i1z.symm r)));have J:∀q o,q≠z->q≠TO->q≠L->q≠N->s.heap.get? q=some o->d.get? q=some o:=λq o U c2 c3 c4 e=>i.extBut _ _ c2 (h.extBut _ _ c4 (S q o U c3 c2 e))
 have V:ov b d L l1 (k+1):=R.at λo e=>i.extBut _ _ D.TOi1.symm (h.extBut _ _ D.i12 (m.extBut _ _ D.TOi1.symm e))
 have X:ov b d N l2 (k+1):=T.at λo e=>i.extBut _ _ D.TOi2.symm e
 have P:z<d.objs.size:=Heap.lt_size I
 show wpAny _ _ (Builtin.SmallTypes.ownedTupleHandOut (.ref z) (.ref d.objs.size) >>= _) _ _ _
 refine wpAny_bind ?_;unfold Builtin.SmallTypes.ownedTupleHandOut;have Y:IsZip (d.push {cls:=.type "tuple",data:=.seq #[x,y]}) z TI TO .ellipsis:=Heap.get?_push_of_some _ I;refine wpAny_bind (wpAny_setField_rec Y (by simp) λg0 t u=>?_)
 replace t:IsZip g0 z TI TO (rawInt d.objs.size):=t;refine wpAny_setField_rec t (by simp) λp n B=>?_
 replace n:IsZip p z TI TO (rawInt d.objs.size):=n;have up:∀q o,q≠z->d.get? q=some o->p.get? q=some o:=λq o U e=>B.extBut _ _ U (u.extBut _ _ U (Heap.get?_push_of_some _ e))
 have K:IsPair p d.objs.size x y:=B.extBut _ _ (Nat.ne_of_gt P) (u.extBut _ _ (Nat.ne_of_gt P) (Heap.get?_push_size _ rfl));have h0:p.objs.size=d.objs.size+1:=by rw[B.1,u.1,Heap.size_push]
 have M:IsPair d TI (.ref L) (.ref N):=J _ _ D.TIz D.TITO D.TIi1 D.TIi2 a0;rw[e0]at n K h0;refine wpAny_pure ⟨_,rfl,wpAny_pure ?_⟩
 show Q (some (.ref d.objs.size)) _
 rw[e0];exact hQ p ⟨n,up _ _ D.TIz M,⟨x,y,up _ _ D.TOz f⟩,V.at λo e=>up _ o D.i1z e,X.at λo e=>up _ o D.i2z e⟩ K h0 λq o U c2 c3 c4 e=>up q o U (J q o U c2 c3 c4 e)
theorem vc{b:Bool}{z TI TO r t u G:Addr}{k:Nat}{xs:Array Value}{Q:Option Value->Shared->Prop}(K:A.handled=none)(D:ZipApart z TI TO r t u G)(Z:vb b s.heap z TI TO r t u G .none k)
  (y:tG b s.heap u xs) (L:xs[k]?=none) (M:∀h',(∀c o,c≠z->c≠TO->c≠r->c≠t->s.heap.get? c=some o->h'.get? c=some o)->Q none {s with heap:=h' }):wpAny (model prog w) A (pyNext (.ref z)) Q E s:=by
 obtain⟨m,B,⟨a,c,N⟩,O,U⟩:=Z;have H:s.TypeIs (.ref z) "zip":=⟨_,m,rfl⟩;unfold pyNext;refine wpAny_bind (wpAny_attempt (wpAny_callSpecial?_slot (name:=Str.ofString "__next__") H F.slot_zip_next (wpAny_call_entry F.slot_zip_next H F.entry_zip_next ?_ (F.args_zip_next_1 _))))
 show wpAny _ _ (field (.ref z) 2 >>= _) _ _ _
 refine wpAny_bind (wpAny_field m rfl (x:=.bool false) rfl ?_)
 show wpAny _ _ (field (.ref z) 3 >>= _) _ _ _
 refine wpAny_bind (wpAny_field m rfl (x:=.ref TI) rfl (wpAny_bind (wpAny_seqItems B rfl ?_)))
 show wpAny _ _ (Builtin.SmallTypes.ownedTupleIsFree (.ref z) >>= _) _ _ _
 refine wpAny_bind ?_;unfold Builtin.SmallTypes.ownedTupleIsFree;refine wpAny_bind (wpAny_field m rfl (x:=.none) rfl (wpAny_pure ?_));simp only[if_true];refine wpAny_bind (wpAny_rule (wpAny_bind (wpAny_field m rfl (x:=.ref TO) rfl (wpAny_bind (wpAny_setField_rec m (by simp) λj d f=>?_)))))
 replace d:IsZip j z TI TO .ellipsis:=d;refine wpAny_bind ?_;simp only[List.zipIdx_cons,List.zipIdx_nil,List.forIn_cons,List.forIn_nil];refine wpAny_bind (wpAny_bind (wpAny_onRaise ?_))
 show wpAny _ _ (Builtin.SmallTypes.nextOf (.ref r) >>= _) _ _ _
 refine wpAny_bind (Bz (s:={s with heap:=j}) K (O.at λo e=>f.extBut _ _ D.i1z e) (y.at λo e=>f.extBut _ _ D.l1z e) L λn e g P=>?_)
 obtain⟨R,l,p⟩:=P;have h:IsZip n z TI TO .ellipsis:=g _ _ D.i1z.symm d;have C:e≠z:=λx=>by subst x;rw[h]at l;cases l;simp at p
 refine wpAny_setField_rec h (by simp) λI _ i=>?_
 refine wpAny_bind (wpAny_isInstance (T:="StopIteration") (b:=true) ⟨R,i.extBut _ _ C l,p⟩ isSubtype_stop ?_);exact wpAny_pure (M _ λq o J _ S _ x=>i.extBut _ _ J (g _ _ S (f.extBut _ _ J x)))
def yu(b:Bool)(h:Heap)(a:Addr):Heap:=h.push (DR b a)
def jZ(b:Bool)(h:Heap)(a c:Addr):Heap:=(yu b h a).push (DR b c)
def BA(b:Bool)(h:Heap)(a c:Addr):Heap:=(((jZ b h a c).push {cls:=.type "tuple",data:=.seq #[.ref h.objs.size,.ref (yu b h a).objs.size]}).push {cls:=.type "tuple",data:=.seq #[.none,.none]}).push {cls:=.type "zip",data:=.fields #[.none,.bool false,.bool false,.ref (jZ b h a c).objs.size,.ref ((jZ b h a c).push {cls:=.type "tuple",data:=.seq #[.ref h.objs.size,.ref (yu b h a).objs.size]}).objs.size]}
end
set_option maxHeartbeats 4000000 in
theorem pd(b:Bool)(a i:Addr)(xs n:Array Value) :
  Meets (Builtin.«zip.__new__» ⟨[.type "zip",.ref a,.ref i],[]⟩) (λ_ R s=>tG b s.heap a xs/\tG b s.heap i n/\R (.ok (.ret (.ref (s.heap.objs.size+4)))) {s with heap:=BA b s.heap a i}):=
 .of_wp λprog w A R s h=>by
  obtain⟨c,g,d,j,k⟩:=s;obtain⟨l,m,h⟩:=h;have o:=sub_zip
  have p:(Shared.heap ⟨c,g,d,j,k⟩).objs.size+4=(((jZ b c a i).push {cls:=.type "tuple",data:=.seq #[.ref c.objs.size,.ref (yu b c a).objs.size]}).push {cls:=.type "tuple",data:=.seq #[.none,.none]}).objs.size:=by
   unfold jZ yu;simp only[Heap.size_push]
  rw[p]at h;cases b with
  |false=>
   have e:Heap.IsList (Shared.heap ⟨c,g,d,j,k⟩) a xs:=l;have f:Heap.IsList (Shared.heap ⟨c.push {cls:=.type "list_iterator",data:=.fields #[.ref a,.int 0 0]},g,d,j,k⟩) i n:=Heap.IsList.push m _
   wp_walk using wpAny_pyIter_list e,wpAny_pyIter_list f
   exact⟨_,rfl,h⟩
  |true=>
   have e:Heap.IsTuple (Shared.heap ⟨c,g,d,j,k⟩) a xs:=l;have f:Heap.IsTuple (Shared.heap ⟨c.push {cls:=.type "tuple_iterator",data:=.fields #[.ref a,.int 0 0]},g,d,j,k⟩) i n:=Heap.IsTuple.push m _
   wp_walk using wpAny_pyIter_tuple e,wpAny_pyIter_tuple f
   exact⟨_,rfl,h⟩
end PySem
namespace Mir
open PySem PySem.Spec PyProof.Rows L2
theorem ny{X:Cx}{pins:List (Addr×Obj)}{h:L2.St}{H:Hp}{s:Shared}{h':Heap}{t':Nat}{f:List Addr}(I:Inv X pins h H s)(g:∀b∈f,iQ X pins H b)
  (k:∀b o,b∉f->s.heap.get? b=some o->h'.get? b=some o):Inv X pins h H {s with heap:=h',toks:=t' }:=by
 have d:∀b u,H b=some u->b∉f:=λb u e z=>by rw[(g b z).1]at e;cases e
 refine I.step (g':=s.gens) (d':=s.drawn) (ch:=f) (λb i=>?_) (λb o _ _ a e _=>k b o a e) (λb o _ _ a e _=>⟨o.slots,k b o a e⟩) (λ_ _ _ _ n=>n)
  (λb o a e=>⟨o,k b o a e⟩) (λ_ _ e=>e) (λ_ _ _ e=>e) (λb B e=>⟨#[],by rw[e];simp⟩) (λm j=>?_) (λb u e=>?_) I.bare
 .obtain⟨C,l,D,p,t,w⟩:=g b i
  exact⟨p,l,t,w⟩
 .obtain⟨o,x,y,A,r⟩:=j
  exact⟨o,x,y,k _ o (λz=>(g _ z).2.1 rfl) A,r⟩
 .refine(I.hok b u e).stay (λc v a q=>k c v ?_ q) (λ_ q=>q) λ_ _ q=>q
  rcases a with z|z
  .rw[z];exact d b u e
  .exact d c _ z
def qT(b:Bool)(H:Hp)(a:Addr)(xs:List V):Prop:=match b with
 |false=>Rd H a (.lst xs)
 |true=>Rd H a (.tup xs)
theorem vd{b:Bool}{H:Hp}{a:Addr}{xs c:List V}(h:qT b H a xs)(h':qT b H a c):xs=c:=by
 cases b<;>(rcases h with h|⟨o,h⟩<;>rcases h' with h' |⟨d,h'⟩<;>(rw[h]at h';cases h';try rfl))
theorem jw{b:Bool}{X:Cx}{pins:List (Addr×Obj)}{f:L2.St}{H:Hp}{s:Shared}{a:Addr}{xs:List V}(I:Inv X pins f H s)(h:qT b H a xs):∃c,Vals xs c/\tG b s.heap a c.toArray:=by
 cases b with
 |false=>
  obtain⟨c,d,e,g⟩:=I.list (ll (K:=X.K) h);exact⟨c,d,e.isList⟩
 |true=>
  obtain⟨c,d,e,g⟩:=I.tuple (oq (K:=X.K) h);exact⟨c,d,e⟩
def H_(b:Bool)(a c:Addr):It:=
 ⟨λi H=>∃d e,qT b H a d/\qT b H c e/\d.length=e.length/\i<d.length,λi H x f=>∃p,x=.ref p/\H p=none/\∀d e,qT b H a d->qT b H c e->∃u v,d[i]?=some u/\e[i]?=some v/\f=upd H p (.tup [u,v]),λi H=>∃d,qT b H a d/\d.length<=i⟩
theorem ve{P:Program}{w:World}{K:PySem.W.Frag}{r:List Expr}{x1:Nat}{t:Pos}{b:Bool}{z TI TO j l a c:Addr}(D:ZipApart z TI TO j l a c) :
  Turn P w K (.Tuple r x1 t) (H_ b a c) [z,TI,TO,j,l] z (λi h=>vb b h z TI TO j l a c .none i) where
 mem:=by simp
 obj:=λi h d q f=>by
  simp only[List.mem_cons,List.not_mem_nil,or_false]at f;rcases f with rfl|rfl|rfl|rfl|rfl
  .exact⟨_,d.hz,λv e=>by cases e⟩
  .exact⟨_,d.hTI,λv e=>by cases e⟩
  .obtain⟨x,y,e⟩:=d.hTO
   exact⟨_,e,λv e=>by cases e⟩
  .exact d.h1.obj
  .exact d.h2.obj
 keep:=λi h h' d k=>⟨k z (by simp) _ d.hz,k TI (by simp) _ d.hTI,let ⟨x,y,e⟩:=d.hTO;⟨x,y,k TO (by simp) _ e⟩,d.h1.at λo e=>k j (by simp) o e,d.h2.at λo e=>k l (by simp) o e⟩
 item:=by
  intro X O Q R hc i pins s σ H E I G d S;subst O Q R;obtain⟨T,ys,J,hy,hl,hi⟩:=S;obtain⟨U,L,sq⟩:=jw I J;obtain⟨j0,A,V⟩:=jw I hy;have l1:=L.length;have l2:=A.length;obtain⟨M,B⟩:∃u,T[i]?=some u:=⟨T[i]'(by omega),List.getElem?_eq_getElem _⟩
  obtain⟨N,C⟩:∃v,ys[i]?=some v:=⟨ys[i]'(by omega),List.getElem?_eq_getElem _⟩
  obtain⟨u,hu,ru⟩:=Vals.get L B;obtain⟨v,hv,Y⟩:=Vals.get A C;have g:z<s.heap.objs.size:=Heap.lt_size d.hz
  have lt:∀q∈[z,TI,TO,j,l],q<s.heap.objs.size:=λq f=>by
   simp only[List.mem_cons,List.not_mem_nil,or_false]at f;rcases f with rfl|rfl|rfl|rfl|rfl
   .exact g
   .exact Heap.lt_size d.hTI
   .obtain⟨x,y,e⟩:=d.hTO;exact Heap.lt_size e
   .obtain⟨o,e,_⟩:=d.h1.obj;exact Heap.lt_size e
   .obtain⟨o,e,_⟩:=d.h2.obj;exact Heap.lt_size e
  refine sL D d sq V (by simpa using hu) (by simpa using hv) λh' F pr sz Z=>?_
  refine⟨_,rfl,wpAny_letOwnedTupleGo_zip (s:={s with heap:=h' }) F.hz λm a0 sb=>?_⟩
  have p:∀q o,q≠z->h'.get? q=some o->m.get? q=some o:=λq o n e=>sb.extBut q o n e
  have b0:∀q o,q∉[z,TI,TO,j,l]->s.heap.get? q=some o->m.get? q=some o:=λq o f e=>by
   simp only[List.mem_cons,List.not_mem_nil,or_false,not_or]at f;exact p q o f.1 (Z q o f.1 f.2.2.1 f.2.2.2.1 f.2.2.2.2 e)
  have c0:m.get? s.heap.objs.size=some {cls:=.type "tuple",data:=.seq #[u,v]}:=p _ _ (Nat.ne_of_gt g) pr;refine⟨.ref s.heap.objs.size,upd H s.heap.objs.size (.tup [M,N]),?_,rfl,⟨_,rfl,I.hok.fresh (Nat.le_refl _),λk0 l0 e0 g0=>?_⟩,⟨a0,p _ _ D.TIz F.hTI,let ⟨x,y,e⟩:=F.hTO;⟨x,y,p _ _ D.TOz e⟩,F.h1.at λo e=>p _ o D.i1z e,F.h2.at λo e=>p _ o D.i2z e⟩,λq f=>?_⟩
  .have h0:IsTup m s.heap.objs.size [u,v].toArray:=⟨_,c0,rfl,_,rfl⟩
   have i0:b_ X.prog X.w (upd H s.heap.objs.size (.tup [M,N])) m s.heap.objs.size (.tup [M,N]):=⟨by rw[sizeLine_eq];simp,[u,v],.cons ru (.cons Y .nil),h0⟩
   have:=mX (s:=s) (h':=m) (t':=s.toks) I G b0 (Nat.le_refl _) i0;exact this
  .obtain rfl:=vd J e0
   obtain rfl:=vd hy g0;exact⟨M,N,B,C,rfl⟩
  .rw[aI (Nat.ne_of_lt (lt q f))]
   exact(G q f).1
 done:=by
  intro X O Q R hc i pins s σ H E I G d S;subst O Q R;obtain⟨T,J,hi⟩:=S;obtain⟨U,L,sq⟩:=jw I J;have l1:=L.length;refine vc (I.ok.hd hc) D d sq (by simpa using List.getElem?_eq_none (by omega)) λh' Z=>⟨rfl,?_⟩
  exact ny (t':=s.toks) I G λq o f e=>by
   simp only[List.mem_cons,List.not_mem_nil,or_false,not_or]at f;exact Z q o f.1 f.2.2.1 f.2.2.2.1 f.2.2.2.2 e
 self:=λ_ _ _ _ _ d h=>wpAny_pyIter_zip d.hz h
theorem sM:bootBuiltins "zip"=some (.type "zip"):=by decide +kernel
theorem BB(b:Bool)(h:Heap)(a d:Addr):vb b (BA b h a d) (h.objs.size+4) (h.objs.size+2) (h.objs.size+3) h.objs.size (h.objs.size+1) a d .none 0/\∀c o,h.get? c=some o->(BA b h a d).get? c=some o:=by
 have i:(yu b h a).objs.size=h.objs.size+1:=Heap.size_push ..;have j:(jZ b h a d).objs.size=h.objs.size+2:=by unfold jZ;rw[Heap.size_push,i]
 generalize k:({cls:=.type "tuple",data:=.seq #[.ref h.objs.size,.ref (yu b h a).objs.size]}:Obj)=f;generalize l:({cls:=.type "tuple",data:=.seq #[.none,.none]}:Obj)=oB;have m:((jZ b h a d).push f).objs.size=h.objs.size+3:=by rw[Heap.size_push,j]
 have y:(((jZ b h a d).push f).push oB).objs.size=h.objs.size+4:=by rw[Heap.size_push,m]
 generalize n:({cls:=.type "zip",data:=.fields #[.none,.bool false,.bool false,.ref (jZ b h a d).objs.size,.ref ((jZ b h a d).push f).objs.size]}:Obj)=g;have z:BA b h a d=(((jZ b h a d).push f).push oB).push g:=by unfold BA;rw[k,l,n]
 rw[z];have p:∀c o,(((jZ b h a d).push f).push oB).get? c=some o->((((jZ b h a d).push f).push oB).push g).get? c=some o:=λc o e=>Heap.get?_push_of_some _ e
 have q:∀c o,((jZ b h a d).push f).get? c=some o->((((jZ b h a d).push f).push oB).push g).get? c=some o:=λc o e=>p c o (Heap.get?_push_of_some _ e)
 have r:∀c o,(jZ b h a d).get? c=some o->((((jZ b h a d).push f).push oB).push g).get? c=some o:=λc o e=>q c o (Heap.get?_push_of_some _ e)
 have s:∀c o,(yu b h a).get? c=some o->((((jZ b h a d).push f).push oB).push g).get? c=some o:=λc o e=>r c o (Heap.get?_push_of_some _ e)
 have t:=Heap.get?_push_size (((jZ b h a d).push f).push oB) (show Obj.isFreed g=false by rw[←n];rfl)
 have u:=p _ _ (Heap.get?_push_size ((jZ b h a d).push f) (show Obj.isFreed oB=false by rw[←l];rfl))
 have w:=q _ _ (Heap.get?_push_size (jZ b h a d) (show Obj.isFreed f=false by rw[←k];rfl))
 have x:=r _ _ (Heap.get?_push_size (yu b h a) (show Obj.isFreed (DR b d)=false by cases b<;>rfl))
 have A:=s _ _ (Heap.get?_push_size h (show Obj.isFreed (DR b a)=false by cases b<;>rfl))
 rw[y]at t;rw[m]at u;rw[j]at w;rw[i]at x;refine⟨⟨?_,?_,⟨.none,.none,?_⟩,ov.new A,ov.new x⟩,λc o e=>s c o (Heap.get?_push_of_some _ e)⟩
 .show _=_
  rw[t,←n,j,m]
 .show _=_
  rw[w,←k,i]
 .show _=_
  rw[u,←l]
theorem sN{n a b:Nat}(c:a<n)(d:b<n):ZipApart (n+4) (n+2) (n+3) n (n+1) a b:=by
 have k:∀{x y:Nat},x<y\/y<x->x≠y:=λh=>by omega
 constructor<;>exact k (by omega)
def Ia(d:TA):TI:=λe H R=>d e H λf b=>∃a c k g h,f=[.ref a,.ref c]/\qT k b a g/\qT k b c h/\R (H_ k a c) b
theorem BC{X:Cx}{es:List Expr}{x1:Nat}{d p pos:Pos}{a b:Expr}{y:TA}(E:Gl X "zip")(G:X.mg "zip"=none)(J:PA X [a,b] y)(K:starEach [a,b] X.env=(false,eval a X.env)::starEach [b] X.env)(n:(backTo pos (starEach [b] X.env)).any (·.1)=false) :
  PI X (.Tuple es x1 d) (.Call (.Name "zip" p) [a,b] [] pos) (Ia y):=by
 intro pins s z H R I h;refine Call_ (ft I E G sM (PyProof.Rows.callWith_type1 (cf (J pos pins s z H _ I h) λT s1 ⟨U,A,f,r,q1⟩=>?_) K n) (by decide) (by decide))
 obtain⟨j,m,k,V,Y,rfl,L,M,q⟩:=q1;obtain⟨Z,u2,rfl,r,N⟩:=r.two;cases r;cases N;obtain⟨t,rv,sq⟩:=jw f L;obtain⟨u,O,g⟩:=jw f M
 have B:∀{l:Addr}{C:Array Value},tG k s1.heap l C->l<s1.heap.objs.size:=λ{l C} P=>by
  cases k<;>(obtain⟨o,e,_⟩:=P;exact Heap.lt_size e)
 refine callType_new F.called_zip (by decide) (F.typeCall_zip_2 _ _) (F.newCall_zip_2 _ _) (λw=>F.args_object_init_3 w _ _) F.entry_zip_new (pd k j m t.toArray u.toArray) ⟨sq,g,?_⟩
 obtain⟨x,Q⟩:=BB k s1.heap j m;refine⟨⟨_,x.hz,rfl⟩,wpAny_pyIter_zip (s:={s1 with heap:=BA k s1.heap j m}) x.hz ?_⟩;have S:L2.Inv X pins z A {s1 with heap:=BA k s1.heap j m}:=f.kept (t':=s1.toks) Q;refine⟨s1.heap.objs.size+4,[s1.heap.objs.size+4,s1.heap.objs.size+2,s1.heap.objs.size+3,s1.heap.objs.size,s1.heap.objs.size+1],_,_,A,rfl,S,ve (b:=k) (sN (B sq) (B g)),x,λc D=>?_,q⟩
 have i:s1.heap.objs.size<=c:=by
  simp only[List.mem_cons,List.not_mem_nil,or_false]at D;rcases D with rfl|rfl|rfl|rfl|rfl<;>omega
 exact f.xb i (f.hok.fresh i)
variable [aU]
inductive Src where
 |zip (x y:D)|seq (x:D)|ints (lo:Int) (n:Nat)|chars (z:Str)|Mp (x:D)|keys (k:Nat)|items (k:Nat)
noncomputable def iq(xs c:List D):Option (List D):=if xs.length=c.length then some (List.zipWith (λa b=>.tup [a,b]) xs c)else none
def pe(Ω:aE):D->D->Option (List D)
 |.tup xs,.tup ys=>iq xs ys
 |x,y=>match cI Ω x,cI Ω y with
  |some xs,some ys=>iq xs ys
  |_,_=>none
def f9:Src->aE->Option (List D)
 |.zip x y,Ω=>pe Ω x y
 |.seq x,Ω=>fE Ω x
 |.ints lo n,_=>some (intsFrom lo n)
 |.chars z,_=>some (z.cps.toList.map λc=>.str (aD c))
 |.Mp x,Ω=>(cI Ω x).map (qm 0)
 |.keys k,Ω=>match Ω[k]? with
  |some (.dF kvs)=>some (kvs.map λa=>o9 a.1)
  |_=>none
 |.items k,Ω=>match Ω[k]? with
  |some (.dF kvs)=>some (kvs.map λa=>.tup [o9 a.1,a.2])
  |_=>none
abbrev IM:=aR->aE->aq Src
def sO(κ:Str->Addr->Prop)(s:Src)(J:It)(α:List Addr)(Z:Addr->Prop)(H:Hp):Prop:=∀a f b c g,cw α Z H a f c->bI κ a f b c->f9 s b=some g ->
 (∀(i:Nat) (d:D),g[i]?=some d->J.go i c/\∀x e,J.F8 i c x e->∃h,cw a f c a h e/\bI κ a h b e/\au a h e d x)/\∀i,g.length<=i->J.stop i c
def lH(κ:Str->Addr->Prop)(Φ:dE)(α:List Addr)(Z:Addr->Prop)(H:Hp)(r:aq Src)(R:It->Hp->Prop):Prop:=match r with
 |.ok s b=>∀J c a d,cw α Z H a d c->bI κ a d b c->sO κ s J a d c->R J c
 |.exc x b=>∀c a d,cw α Z H a d c->bI κ a d b c->Φ x b a d c
 |.bad=>False
noncomputable def Mq(κ:Str->Addr->Prop)(Φ:dE)(a:List Addr)(c:Addr->Prop)(d:Hp)(m:IM)(ρ:aR)(Ω:aE):TI:=λe H R=>∃b Z,cP κ a c d b Z Ω ρ e H/\lH κ Φ b Z H (m ρ Ω) R
def vf(X:Cx)(κ:Str->Addr->Prop)(Φ:dE)(b e:Expr)(m:IM):Prop:=∀a c d f g,PI X b e (Mq κ Φ a c d m f g)
def srcOf(Ω:aE)(x:D):aq Src:=match fE Ω x,x with
 |some _,x=>.ok (.seq x) Ω
 |none,.str z=>.ok (.chars z) Ω
 |none,.ref k=>(match Ω[k]? with
  |some (.dK a)=>.ok (.keys k) (Ω.set k (.dF a))
  |some (.dF _)=>.ok (.keys k) Ω
  |_=>.bad)
 |none,_=>.bad
def cJ(m:EM):IM:=λb c=>(m b c).bind λx a=>srcOf a x
noncomputable def BD:D->D->Bool
 |.tup _,.tup _=>true
 |_,_=>false
def vg(xs:List D)(Ω:aE):aq Src:=match xs with
 |[x,y]=>match pe Ω x y with
  |some _=>.ok (.zip x y) Ω
  |none=>.bad
 |_=>.bad
def sP(as:AM):IM:=λa b=>(as a b).bind vg
def qU(xs:List D)(Ω:aE):aq Src:=match xs with
 |[.int j]=>if mU j then .ok (.ints 0 j.toNat) Ω else .bad
 |_=>.bad
def dd(as:AM):IM:=λa b=>(as a b).bind qU
section
variable{X:Cx}{κ:Str->Addr->Prop}{Φ:dE}{α α' gn α1:List Addr}{Z Z' Z0 Z1:Addr->Prop}{Ω az:aE}{H H' H0 H1:Hp}{ρ:aR}{σ:L2.St}{Q Q':VK}{r:aq D}{a b e ce o tg:Expr}{rest:List Expr}{es:List Expr}{ma mb mc m mo:EM}{as:AM}{pos p apos cpos tpos:Pos}
theorem lH.from{r:aq Src}{R:It->Hp->Prop}(g:cw α Z H α1 Z1 H1)(h:lH κ Φ α Z H r R):lH κ Φ α1 Z1 H1 r R:=by
 cases r with
 |ok d b=>exact λv c a e f=>h v c a e (g.trans f)
 |exc x b=>exact λc a e f=>h c a e (g.trans f)
 |bad=>exact h
theorem lH.use{r:aq D}{f:D->aE->aq Src}{R:It->Hp->Prop}(h:lH κ Φ α Z H (r.bind f) R)(k:∀d aM,r=.ok d aM->∀v b a c,cw α Z H a c b->bI κ a c aM b->au a c b d v->lH κ Φ a c b (f d aM) R->Q' v b):bK κ Φ α Z H r Q':=by
 cases r with
 |ok d aM=>exact λv b a c g s q=>k d aM rfl v b a c g s q (lH.from g h)
 |exc x aM=>exact h
 |bad=>exact h
theorem nz{K:PySem.W.Frag}{x:D}{a:Addr}(p:au α Z H x (.ref a))(S:bI κ α Z Ω H)(q:(cI Ω x).isSome=true):sO κ (.seq x) (HJ K a) α Z H:=by
 intro r t b C u g s w;have c:=S.cY g p;have f:∀h,x≠.tup h:=λh e=>by subst e;cases q
 have j:cI b x=some u:=by
  cases x with
  |tup h=>exact absurd rfl (f _)
  |_=>exact w
 obtain⟨E,k,e,l,n⟩:=bJ s c j;cases e;refine⟨λi d z=>?_,λi A=>⟨k,ll l,by rw[n.length];exact A⟩⟩
 obtain⟨v,o,B⟩:=n.get z;refine⟨⟨k,v,ll l,o⟩,λy F m=>?_⟩
 obtain⟨rfl,m⟩:=m;have:=m k (ll l);rw[o]at this;cases this;exact⟨t,cw.refl s.has,s,B⟩
theorem yv{K:PySem.W.Frag}{es:List D}{a:Addr}(l:au α Z H (.tup es) (.ref a))(S:bI κ α Z Ω H):sO κ (.seq (.tup es)) (HK K a) α Z H:=by
 intro m n o u w g s p;have b:=S.cY g l;cases p;obtain⟨x,c,e,_,f,j⟩:=di b;cases e;refine⟨λi d q=>?_,λi r=>⟨c,oq (.inl f),by rw[j.length];exact r⟩⟩
 obtain⟨v,k,t⟩:=j.get q;refine⟨⟨c,v,oq (.inl f),k⟩,λy z h=>?_⟩
 obtain⟨rfl,h⟩:=h;have:=h c (oq (.inl f));rw[k]at this;cases this;exact⟨n,cw.refl s.has,s,t⟩
theorem nA{k:Nat}{a:Addr}{o:Obj}{kvs:List (Key×V)}(w:α[k]?=some a)(y:H a=some (.ee o (.dK kvs))):sO κ (.keys k) (DN a o) α Z H:=by
 intro z A B G I g s f;have h:=g.pre k a w;have b:=g.ee a _ _ y;simp only[f9]at f;split at f
 .rename_i l C
  cases f;obtain⟨J,c,K,m,n,r⟩:=s.cell C;rw[h]at c;cases c
  rw[b]at n;cases n
  have L:=r.length;refine⟨λi d t=>?_,λi D=>⟨kvs,b,by rw[List.length_map]at D;omega⟩⟩
  rw[List.getElem?_map]at t;obtain⟨p,E,rfl⟩:=Option.map_eq_some_iff.mp t;obtain⟨q,u,F,_⟩:=aL.get r E;refine⟨⟨kvs,b,(List.getElem?_eq_some_iff.mp u).1⟩,λx M j=>?_⟩
  obtain⟨rfl,j⟩:=j;obtain⟨N,e,rfl⟩:=j kvs b;rw[u]at e;cases e
  refine⟨A,cw.refl s.has,s,?_⟩;rw[F];cases q.1<;>simp only[o9,kV,au]
 .cases f
theorem zip_get{xs e ds:List D}(h:iq xs e=some ds):xs.length=e.length/\ds.length=xs.length/\∀(i:Nat) (d:D),ds[i]?=some d->∃a b,xs[i]?=some a/\e[i]?=some b/\d=.tup [a,b]:=by
 unfold iq at h;split at h
 .rename_i g
  cases h;refine⟨g,by simp[g],λi d c=>?_⟩
  rw[List.getElem?_zipWith]at c;cases f:xs[i]? with
  |none=>rw[f]at c;cases c
  |some a=>
   cases j:e[i]? with
   |none=>rw[f,j]at c;cases c
   |some b=>rw[f,j]at c;cases c;exact⟨a,b,rfl,rfl,rfl⟩
 .cases h
theorem nB{x y:D}{v u:V}{ds:List D}(S:bI κ α Z Ω H)(f:au α Z H x v)(g:au α Z H y u)(h:pe Ω x y=some ds):∃a c xs b d e,v=.ref a/\u=.ref c/\qT (BD x y) H a d/\qT (BD x y) H c e/\iq xs b=some ds/\aL (au α Z H) xs d/\aL (au α Z H) b e:=by
 have L:∀{x y:D},au α Z H x v->au α Z H y u->(match cI Ω x,cI Ω y with|some xs,some b=>iq xs b|_,_=>none)=some ds->∃a c xs b d e,v=.ref a/\u=.ref c/\qT false H a d/\qT false H c e/\iq xs b=some ds/\aL (au α Z H) xs d/\aL (au α Z H) b e:=λ{x y} f g h=>by
  split at h
  .rename_i xs b i j
   obtain⟨a,d,rfl,k,l⟩:=bJ S f i;obtain⟨c,e,rfl,m,n⟩:=bJ S g j;exact⟨a,c,xs,b,d,e,rfl,rfl,k,m,h,l,n⟩
  .cases h
 cases x with
 |tup xs=>
  cases y with
  |tup b=>
   obtain⟨a,d,rfl,_,i,j⟩:=di f;obtain⟨c,e,rfl,_,o,p⟩:=di g;exact⟨a,c,xs,b,d,e,rfl,rfl,.inl i,.inl o,h,j,p⟩
  |_=>exact L f g h
 |_=>exact L f g h
theorem yw{x y:D}{a c:Addr}(S:bI κ α Z Ω H)(E:au α Z H x (.ref a))(F:au α Z H y (.ref c)):sO κ (.zip x y) (H_ (BD x y) a c) α Z H:=by
 intro G I J U V g s K;obtain⟨X,Y,xs,ys,f,n,L,M,h,r,N,t,u⟩:=nB s (S.cY g E) (S.cY g F) K;cases L;cases M;obtain⟨hl,hd,O⟩:=zip_get N;have l1:=t.length;have l2:=u.length;refine⟨λi d A=>?_,λi A=>⟨f,h,by omega⟩⟩
 obtain⟨p,q,P,Q,rfl⟩:=O i d A;obtain⟨v,B,R⟩:=t.get P;obtain⟨w,T,j⟩:=u.get Q;refine⟨⟨f,n,h,r,by omega,(List.getElem?_eq_some_iff.mp B).1⟩,λz H2 k=>?_⟩
 obtain⟨l,rfl,m,k⟩:=k;obtain⟨u',v',C,b,rfl⟩:=k f n h r;rw[B]at C;cases C
 rw[T]at b;cases b
 obtain⟨s3,e⟩:=s.zW (p:=l) (o:=.tup [v,w]) m True;simp only[if_true]at s3 e;refine⟨Zp I l,e,s3,?_⟩;simp only[au];exact⟨l,_,rfl,.inr rfl,bc,bB.mpr (.cons (s.cY e R) (.one (s.cY e j)))⟩
theorem lH.Ib{r:aq (List D)}{f:List D->aE->aq Src}{R:It->Hp->Prop}{e:List V->Hp->Prop}(h:lH κ Φ α Z H (r.bind f) R)(k:∀ds aM,r=.ok ds aM->∀i b a c,cw α Z H a c b->bI κ a c aM b->aL (au a c b) ds i->lH κ Φ a c b (f ds aM) R->e i b):lz κ Φ α Z H r e:=by
 cases r with
 |ok d aM=>exact λv b a c g s q=>k d aM rfl v b a c g s q (lH.from g h)
 |exc x aM=>exact h
 |bad=>exact h
theorem yx{h:List Expr}{x1:Nat}{d o c:Pos}(p:Gl X "zip")(q:X.mg "zip"=none)(r:ng X κ Φ [a,b] as)(s:starEach [a,b] X.env=(false,eval a X.env)::starEach [b] X.env)(i:(backTo c (starEach [b] X.env)).any (·.1)=false) :
  vf X κ Φ (.Tuple h x1 d) (.Call (.Name "zip" o) [a,b] [] c) (sP as):=by
 intro j t u z A;refine PI.imp (BC p q (r j t u z A) s i) ?_;rintro P H R ⟨B,Z,S,g⟩;refine⟨B,Z,S,lH.Ib g λC D _ l E k F Q f G e=>?_⟩
 unfold vg at e;split at e
 .rename_i x y
  split at e
  .rename_i T I
   obtain⟨v,w,rfl,m,n⟩:=qP G;obtain⟨J,K,C,U,l,L,rfl,rfl,M,N,O,V,Y⟩:=nB f m n I;exact⟨J,K,_,l,L,rfl,M,N,e _ E k F (cw.refl f.has) f (yw f m n)⟩
  .exact e.elim
 .exact e.elim
theorem yy(h:bo X κ Φ e m):vf X κ Φ tg e (cJ m):=by
 intro G O P Q T;refine PI.imp (yn (h G O P Q T)) ?_;rintro σ H R ⟨U,Z,S,g⟩;refine⟨U,Z,S,lH.use g λx I _ v w k t g1 b r j=>?_⟩
 cases x with
 |tup M=>
  have l:=r;obtain⟨a,A,rfl,_,p,B⟩:=di r;exact .inr (.inl ⟨a,A,rfl,.inl p,j _ w k t (cw.refl b.has) b (yv l b)⟩)
 |lst M=>
  have l:=r;obtain⟨a,A,rfl,p,B⟩:=bJ (ds:=M) b r rfl;exact .inl ⟨a,A,rfl,p,j _ w k t (cw.refl b.has) b (nz l b rfl)⟩
 |ref n=>
  cases s:cI I (.ref n)with
  |none=>
   simp only[srcOf,fE,s]at j;simp only[au]at r;obtain⟨a,C,rfl⟩:=r;split at j
   .rename_i D J
    obtain⟨V,q,f,p,B⟩:=b.cell J;rw[C]at q;cases q
    refine .inr (.inr (.inr ⟨a,f,rfl,.inl ⟨p,λo=>?_⟩⟩))
    obtain⟨E,N⟩:=b.put (o:=.ee o (.dK f)) (c:=.dF D) C (λo u z=>by rw[p]at z;cases z) λR Y=>⟨o,f,bc,B.imp Y⟩
    exact j _ _ k t N E (nA C bc)
   .rename_i D J
    obtain⟨V,q,o,f,p,B⟩:=b.cell J;rw[C]at q;cases q
    exact .inr (.inr (.inr ⟨a,f,rfl,.inr ⟨o,p,j _ w k t (cw.refl b.has) b (nA C p)⟩⟩))
   .exact j.elim
  |some ds=>
   simp only[srcOf,fE,s]at j;have l:=r;obtain⟨a,A,rfl,p,B⟩:=bJ b r s;exact .inl ⟨a,A,rfl,p,j _ w k t (cw.refl b.has) b (nz l b (by rw[s];rfl))⟩
 |str z=>
  simp only[au]at r;subst r;refine .inr (.inr (.inl ⟨z,rfl,j _ w k t (cw.refl b.has) b ?_⟩));intro a0 Z2 b0 H2 ds N E hs;cases hs;refine⟨λi d F=>?_,λi K=>by show z.cps.size<=i;simpa using K⟩
  have K:i<z.cps.size:=by
   have:=(List.getElem?_eq_some_iff.mp F).1;simpa using this
  refine⟨K,λy H3 hy=>?_⟩
  obtain⟨rfl,c,hc,rfl⟩:=hy;rw[List.getElem?_map]at F;have L:z.cps.toList[i]?=some c:=by simpa using hc
  rw[L]at F;cases F;exact⟨Z2,cw.refl E.has,E,aG rfl⟩
 |non=>exact j.elim
 |bl _=>exact j.elim
 |int _=>exact j.elim
 |dct _ _=>exact j.elim
theorem vh{b:Int}{n:Nat}:sO κ (.ints b n) (C8 b n) α Z H:=by
 intro e f h l m g s j;cases j;refine⟨λi d c=>?_,λi a=>by rw[jj]at a;exact a⟩
 have a:=(List.getElem?_eq_some_iff.mp c).1;rw[jj]at a;refine⟨a,λy o k=>?_⟩
 obtain⟨rfl,rfl⟩:=k;rw[ints_get _ _ _ _ c];exact⟨f,cw.refl s.has,s,aG rfl⟩
theorem lH.Ic{r:aq (List D)}{f:List D->aE->aq Src}{R:It->Hp->Prop}{Q':List V->Hp->Prop}(h:lH κ Φ α Z H (r.bind f) R)(k:∀ds aM,r=.ok ds aM->∀e b a c,cw α Z H a c b->bI κ a c aM b->aL (au a c b) ds e->lH κ Φ a c b (f ds aM) R->Q' e b):lz κ Φ α Z H r Q':=by
 cases r with
 |ok d aM=>exact λv b a c g s q=>k d aM rfl v b a c g s q (lH.from g h)
 |exc x aM=>exact h
 |bad=>exact h
theorem vi(l:Gl X "range")(m:X.mg "range"=none)(n:ng X κ Φ [a] as)(o:starEach [a] X.env=[(false,eval a X.env)]):vf X κ Φ tg (.Call (.Name "range" p) [a] [] pos) (dd as):=by
 intro d q r s t;refine PI.imp (rO l m (n d q r s t) o) ?_;rintro z H R ⟨u,Z,S,g⟩;refine⟨u,Z,S,lH.Ic (Q':=λh e=>∃j:Int,h=[.int j] /\ -(2 ^ 62)<=j/\j<2 ^ 62/\R (C8 0 j.toNat) e) g λA w _ h e f x B i y b=>?_⟩
 unfold qU at b;split at b
 .obtain⟨v,rfl,k⟩:=dy y
  simp only[au]at k;subst k;split at b
  .rename_i c
   have c:=uv c;exact⟨_,rfl,c.1,c.2,b _ e f x (cw.refl i.has) i vh⟩
  .exact b.elim
 .exact b.elim
noncomputable def lK(n:Nat)(d:D):Option aR:=match n,d with
 |0,d=>some [some d]
 |n,.tup a=>if a.length=n then some (a.map some)else none
 |_,_=>none
noncomputable def gZ(cap:List Nat)(ρ:aR):aR:=cap.map λi=>(ρ[i]?).join
def lL(nc:Bool)(mc:EM)(ρ:aR)(Ω:aE):aq Bool:=if nc=true then .ok true Ω else dO (mc ρ Ω)
def sQ(nc:Bool)(mc me:EM)(n:Nat)(τ:aR)(src:Src):Nat->Nat->List D->aE->aq (List D)
 |0,_,_,_=>.bad
 |f+1,i,a,Ω=>match f9 src Ω with
  |none=>.bad
  |some ds=>match ds[i]? with
   |none=>.ok a Ω
   |some d=>match lK n d with
    |none=>.bad
    |some b=>if small (a.length+1)then match lL nc mc (b++τ) Ω with
     |.ok true aM=>match me (b++τ) aM with
      |.ok y cR=>sQ nc mc me n τ src f (i+1) (a++[y]) cR
      |_=>.bad
     |.ok false aM=>sQ nc mc me n τ src f (i+1) a aM
     |_=>.bad else .bad
def cg(me:EM)(nc:Bool)(mc:EM)(mi:IM)(n:Nat)(cap:List Nat):EM:=λc d=>match mi c d with
 |.ok s a=>match sQ nc mc me n (gZ cap c) s fuel 0 [] a with
  |.ok e b=>fk b (.lst e)
  |_=>.bad
 |.exc x a=>.exc x a
 |.bad=>.bad
noncomputable def kG:dE:=λ_ _ _ _ _=>False
theorem nE{cap:List Nat}{ds:List D}{f:List V}(S:cP κ gn Z0 H0 α Z Ω ρ σ H)(g:cw α Z H α1 Z1 H1)(s:bI κ α1 Z1 az H1)(r:aL (au α1 Z1 H1) ds f) :
  cP κ α1 Z1 H1 α1 Z1 az (ds.map some++gZ cap ρ) (f.map some++mW cap σ) H1:=by
 have a:=r.length;refine⟨s,cw.refl s.has,?_,λi d h=>?_⟩
 .rw[List.length_append,List.length_append,List.length_map,List.length_map,a]
  unfold mW gZ;rw[List.length_map,List.length_map]
 .by_cases b:i<ds.length
  .rw[List.getElem?_append_left (by simpa using b),List.getElem?_map]at h
   rw[List.getElem?_append_left (by simpa[a]using b),List.getElem?_map]
   cases q:ds[i]? with
   |none=>rw[q]at h;cases h
   |some m=>
    rw[q]at h;cases h;obtain⟨v,c,e⟩:=r.get q;exact⟨v,by rw[c];rfl,e⟩
  .rw[List.getElem?_append_right (by simpa using b)]at h
   rw[List.getElem?_append_right (by simpa[a]using b)]
   unfold gZ at h;unfold mW;rw[List.length_map,List.getElem?_map]at h;rw[List.length_map,a,List.getElem?_map];cases q:cap[i - ds.length]? with
   |none=>rw[q]at h;cases h
   |some j=>
    rw[q]at h;have h:(ρ[j]?).join=some d:=by simpa using h
    have l:ρ[j]?=some (some d):=by
     cases k:ρ[j]? with
     |none=>rw[k]at h;cases h
     |some o=>rw[k]at h;rw[show o=some d from h]
    obtain⟨v,c,e⟩:=S.val j d l;refine⟨v,?_,S.st.cY g e⟩
    show some ((σ[j]?).join)=_
    rw[c];rfl
theorem cw.zZ(g:cw α Z H α' Z' H'){a:Addr}{o:HO}(b:a∉α)(h:H a=some o):a∉α':=λq=>by
 rcases g.Bl a q with q|q
 .exact b q
 .rw[h]at q;cases q
theorem cw.BE(g:cw α Z H α' Z' H'){a:Addr}{o:HO}(b:¬ Z a)(h:H a=some o):¬ Z' a:=λq=>by
 rcases g.new a q with q|q
 .exact b q
 .rw[h]at q;cases q
theorem cw.side(g:cw α Z H α' Z' H'){a:Addr}{o:HO}(d:a∉α)(h:H a=Option.none):cw α Z H α' Z' (upd H' a o):=
 ⟨g.pre,g.sub,g.new,g.Bl,λb u e c=>by rw[aI (aY e h)];exact g.frm b u e c,λb c=>by rw[aI (λ(q:b=a)=>d (by rw[←q];exact c))];exact g.has b c,λb f u e=>by rw[aI (aY e h)];exact g.ee b f u e⟩
theorem yz{n:Nat}{d:D}{τ:aR}(h:lK n d=some τ):∃ds:List D,τ=ds.map some:=by
 unfold lK at h;split at h
 .cases h;exact⟨[d],rfl⟩
 .split at h
  .cases h;exact⟨_,rfl⟩
  .cases h
 .cases h
theorem bI.part(S:bI κ α Z Ω H){g:Addr}{h:List V}{ds:List D}(j:H g=some (.lst h))(k:g∉α)(hz:¬ Z g)(r:aL (au α Z H) ds h):bI κ (α++[g]) Z (Ω++[.lst ds]) H:=by
 have i:∀(n:Nat) (a:Addr),α[n]?=some a->(α++[g])[n]?=some a:=λn a e=>by rw[List.getElem?_append_left (List.getElem?_eq_some_iff.mp e).1];exact e
 have mono:∀d v,au α Z H d v->au (α++[g]) Z H d v:=λd v r=>r.mono i (λ_ _ _ e=>e) λ_ z=>z
 refine⟨?_,?_,λa ha f=>?_,S.dom⟩
 .refine List.nodup_append.mpr ⟨S.qF,by simp,λa ha b l e=>?_⟩
  rw[List.mem_singleton.mp l]at e;exact k (e▸ha)
 .exact aL.append (S.wQ.imp λc a m=>m.imp mono (λ_ e=>e) λ_ _ _ e=>e) (.one ⟨h,j,r.imp mono⟩)
 .rcases List.mem_append.mp ha with ha|ha
  .exact S.sep a ha f
  .rw[List.mem_singleton.mp ha]at f;exact hz f
theorem bI.side(S:bI κ α Z Ω H){f:Addr}{o:HO}(m:f∉α)(hz:¬ Z f)(n:∀o u,H f≠some (.ee o u)):bI κ α Z Ω (upd H f o)/\∀d v,au α Z H d v->au α Z (upd H f o) d v:=by
 have mono:∀d v,au α Z H d v->au α Z (upd H f o) d v:=λd v r=>r.mono (λ_ _ e=>e) (λa u z e=>by rw[aI (λ(q:a=f)=>hz (by rw[←q];exact z))];exact e) λ_ z=>z
 have k:∀{j:List Cell}{g:List Addr},(∀a∈g,a∈α)->aL (λc a=>fR κ (au α Z H) H a c) j g->aL (λc a=>fR κ (au α Z (upd H f o)) (upd H f o) a c) j g:=by
  intro j g i p
  induction p with
  |nil=>exact .nil
  |@cons c a j g r t s=>
   have l:a≠f:=λq=>m (q▸i a (by simp))
   exact .cons (r.imp mono (λu e=>by rw[aI l];exact e) λb w x e=>by rw[aI (λq=>n w x (by rw[←q];exact e))];exact e) (s λb y=>i b (by simp[y]))
 exact⟨⟨S.qF,k (λa h=>h) S.wQ,S.sep,λa z=>by rw[aI (λ(q:a=f)=>hz (by rw[←q];exact z))];exact S.dom a z⟩,mono⟩
end
section
variable{X:Cx}{κ:Str->Addr->Prop}{Φ:dE}{tg iter elt:Expr}{ifs:List Expr}{scope:Scope}{tn cn:List Str}{cap:List Nat}{me mc:EM}{mi:IM}{nc:Bool}{pos:Pos}{n:Nat}
theorem kH{g:TG}(o0:vf X κ Φ tg iter mi)
  (p0:∀(d:D) (ds:List D) x α Z Ω H (m:L2.St) (k:L2.St->Hp->Prop),lK n d=some (ds.map some)->bI κ α Z Ω H->au α Z H d x->(∀V,aL (au α Z H) ds V->k (V.map some++m) H)->g x (List.replicate tn.length none++m) H k)
  (hb:∀A C h j B,PG (blk X scope A C (tn++cn) h j B) tg g/\((ifs=[]/\nc=true)\/∃c,ifs=[c]/\nc=false/\fK (blk X scope A C (tn++cn) h j B) κ kG c mc)/\bo (blk X scope A C (tn++cn) h j B) κ kG elt me) :
  ∀Y Z0 H0 ρ Ω,∃wi tc te,PI X tg iter wi/\(∀A C h j B,PG (blk X scope A C (tn++cn) h j B) tg g/\xG (blk X scope A C (tn++cn) h j B) ifs tc/\PE (blk X scope A C (tn++cn) h j B) elt te) /\
   ∀σ H Q,tO κ Φ Y Z0 H0 (cg me nc mc mi n cap) ρ Ω σ H Q->kv wi tn.length cap g tc te σ H Q:=by
 intro Y Z0 H0 ρ Ω
 let tc:TT:=λm H Q=>∃α Z Ω p,cP κ α Z H α Z Ω p m H/\mz κ kG α Z H (lL nc mc p Ω) Q
 let te:TE:=λm H Q=>∃α Z Ω p,cP κ α Z H α Z Ω p m H/\bK κ kG α Z H (me p Ω) Q
 have q0:∀A C h j B,PG (blk X scope A C (tn++cn) h j B) tg g/\xG (blk X scope A C (tn++cn) h j B) ifs tc/\PE (blk X scope A C (tn++cn) h j B) elt te:=by
  intro A C h j B;obtain⟨h1,h2,h3⟩:=hb A C h j B;refine⟨h1,?_,?_⟩
  .rcases h2 with ⟨e,hn⟩|⟨c,e,hn,h2⟩
   .subst e
    intro pins s m H Q I q;obtain⟨α,Z,Ω,p,S,k⟩:=q;rw[lL,if_pos hn]at k;exact xH pins s m H Q I (k H α Z (cw.refl S.st.has) S.st)
   .subst e
    intro pins s m H Q I q;obtain⟨α,Z,Ω,p,S,k⟩:=q;rw[lL,if_neg (by rw[hn];exact Bool.false_ne_true)]at k
    exact xI (h2 α Z H p Ω) pins s m H Q I ⟨α,Z,S,k⟩
  .intro pins s m H Q I q
   obtain⟨α,Z,Ω,p,S,k⟩:=q;exact h3 α Z H p Ω pins s m H Q I ⟨α,Z,S,k⟩
 refine⟨_,tc,te,o0 Y Z0 H0 ρ Ω,q0,?_⟩;rintro σ H Q ⟨α,Z,S,k⟩;refine⟨α,Z,S,?_⟩;simp only[cg]at k;cases qi:mi ρ Ω with
 |exc x a0=>rw[qi]at k;exact k
 |bad=>rw[qi]at k;exact k.elim
 |ok b0 a0=>
  rw[qi]at k;dsimp only at k;intro J H1 K Z1 g1 s1 w1 E hD;cases qg:sQ nc mc me n (gZ cap ρ) b0 fuel 0 [] a0 with
  |exc x g0=>rw[qg]at k;exact k.elim
  |bad=>rw[qg]at k;exact k.elim
  |ok ys g0=>
   rw[qg]at k;dsimp only at k;have R:¬ Z1 E:=λz=>s1.dom E z hD
   have w:E∉K:=λz=>s1.has E z hD
   refine⟨λi f V T=>∃r U t F,cw K Z1 H1 r U T/\bI κ r U t T/\E∉r/\¬ U E/\T E=some (.lst V)/\aL (au r U T) F V/\sQ nc mc me n (gZ cap ρ) b0 f i F t=.ok ys g0,
    ⟨fuel,K,Z1,a0,[],?_,?_,w,R,bc,.nil,qg⟩,?_⟩
   .exact⟨λ_ _ e=>e,λ_ z=>z,λ_ z=>.inl z,λ_ z=>.inl z,λa o e _=>by rw[aI (aY e hD)];exact e,λa ha=>by rw[aI (λ(q:a=E)=>w (by rw[←q];exact ha))];exact s1.has a ha,λa o u e=>by rw[aI (aY e hD)];exact e⟩
   .exact(s1.side w R λo u z=>by rw[hD]at z;cases z).1
   rintro i f V T ⟨r,U,t,F,G,s2,nD,nZ,L,r2,l⟩;refine⟨L,?_⟩;cases f with
   |zero=>cases l
   |succ f=>
    simp only[sQ]at l;cases qs:f9 b0 t with
    |none=>rw[qs]at l;cases l
    |some ds=>
     rw[qs]at l;dsimp only at l;obtain⟨r0,s0⟩:=w1 r U t T ds G s2 qs;cases qd:ds[i]? with
     |none=>
      rw[qd]at l;cases l;have hi:ds.length<=i:=List.getElem?_eq_none_iff.mp qd;refine .inl ⟨s0 i hi,?_⟩;have sf:=s2.part L nD nZ r2
      have gA:cw K Z1 H1 (r++[E]) U T:=⟨λn a e=>by rw[List.getElem?_append_left (List.getElem?_eq_some_iff.mp (G.pre n a e)).1];exact G.pre n a e,G.sub,G.new,λa ha=>by
       rcases List.mem_append.mp ha with ha|ha
       .exact G.Bl a ha
       .rw[List.mem_singleton.mp ha];exact .inr hD,G.frm,G.has,G.ee⟩
      exact k _ T _ U (g1.trans gA) sf (gp s2 E)
     |some d=>
      rw[qd]at l;dsimp only at l;obtain⟨t0,u0⟩:=r0 i d qd;cases qt:lK n d with
      |none=>rw[qt]at l;cases l
      |some ts=>
       rw[qt]at l;dsimp only at l;obtain⟨es,rfl⟩:=yz qt
       by_cases M:small (F.length+1)=true
       .rw[if_pos M]at l
        have M:=bA M;refine .inr ⟨t0,by rw[r2.length];omega,λx H3 yl=>?_⟩
        obtain⟨Z3,g3,s3,rx⟩:=u0 x H3 yl;have v0:=g3.BE nZ L;have c0:=g3.frm E _ L nD;refine p0 d es x r Z3 t H3 (mW cap σ) _ qt s3 rx λws h0=>?_
        have gB:=g1.trans (G.trans g3);have SB:=nE (cap:=cap) S gB s3 h0;refine⟨r,Z3,t,_,SB,?_⟩;cases qc:lL nc mc (es.map some++gZ cap ρ) t with
        |exc x N=>rw[qc]at l;cases l
        |bad=>rw[qc]at l;cases l
        |ok b N=>
         rw[qc]at l;intro H5 i0 Z5 O s5;have e0:=O.zZ nD c0;have j0:=O.BE v0 c0;have P:=O.frm E _ c0 nD;cases b with
         |false=>
          refine oJ ?_;exact⟨f,Nat.lt_succ_self _,i0,Z5,N,F,G.trans (g3.trans O),s5,e0,j0,P,s3.jo O (s2.jo g3 r2),l⟩
         |true=>
          refine oK ?_;dsimp only at l;have SC:=nE (cap:=cap) S (gB.trans O) s5 (s3.jo O h0);refine⟨i0,Z5,N,_,SC,?_⟩;cases qe:me (es.map some++gZ cap ρ) N with
          |exc x k0=>rw[qe]at l;cases l
          |bad=>rw[qe]at l;cases l
          |ok y k0=>
           rw[qe]at l;intro v H6 w0 Z6 g6 s6 rv;have l0:=g6.zZ e0 P;have m0:=g6.BE j0 P;have n0:=g6.frm E _ P e0;obtain⟨s7,m7⟩:=s6.side (o:=.lst (V++[v])) l0 m0 (λo u z=>by rw[n0]at z;cases z)
           refine⟨n0,f,Nat.lt_succ_self _,w0,Z6,k0,F++[y],((G.trans (g3.trans O)).trans g6).side w hD,s7,l0,m0,bc,?_,l⟩;exact((s5.jo g6 (s3.jo O (s2.jo g3 r2))).append (.one rv)).imp m7
       .rw[if_neg M]at l;cases l
theorem jx{x:Str}{l:Pos}(m:vf X κ Φ (.Name x l) iter mi)(z:scope.names.lookup x=some .local)(n:([x]++cn).Nodup)
  (A:∀h C b f i,((ifs=[]/\nc=true)\/∃c,ifs=[c]/\nc=false/\fK (blk X scope h C ([x]++cn) b f i) κ kG c mc)/\bo (blk X scope h C ([x]++cn) b f i) κ kG elt me) :
  ∀o B D ρ Ω,∃q s t,PI X (.Name x l) iter q/\(∀h C b f i,PG (blk X scope h C ([x]++cn) b f i) (.Name x l) (fv 0)/\xG (blk X scope h C ([x]++cn) b f i) ifs s/\PE (blk X scope h C ([x]++cn) b f i) elt t) /\
   ∀u H Q,tO κ Φ o B D (cg me nc mc mi 0 cap) ρ Ω u H Q->kv q [x].length cap (fv 0) s t u H Q:=by
 have w:(relabel scope X.env).names.lookup x=some .local:=lookup_relabel_local z;refine kH (g:=fv 0) (tn:=[x]) m (λd p y K Z Ω H E k j S F G=>?_) λh C b f i=>?_
 .have j:some [some d]=some (p.map some):=j
  have e:p=[d]:=by
   injection j with j;cases p with
   |nil=>cases j
   |cons a r=>
    cases r with
    |nil=>simp only[List.map_cons,List.map_nil,List.cons.injEq,Option.some.injEq,and_true]at j;rw[j]
    |cons _ _=>cases j
  subst e;exact G [y] (.one F)
 .obtain⟨I,J⟩:=A h C b f i
  exact⟨iw (X:=blk X scope h C ([x]++cn) b f i) n rfl (.inl w) (.inr w),I,J⟩
theorem vj{x:Str}{g:Pos}(j:X.calm=true)(B:fU X scope [x] cn cap)(k:∀z,foldedSetIterable iter X.env z=pure z)(d:vf X κ Φ (.Name x g) iter mi)(l:scope.names.lookup x=some .local)(e:([x]++cn).Nodup)
  (m:∀h C a b i,((ifs=[]/\nc=true)\/∃c,ifs=[c]/\nc=false/\fK (blk X scope h C ([x]++cn) a b i) κ kG c mc)/\bo (blk X scope h C ([x]++cn) a b i) κ kG elt me) :
  bo X κ Φ (.ListComp elt [⟨.Name x g,iter,ifs,0⟩] scope pos) (cg me nc mc mi 0 cap):=by
 intro f n o p q;obtain⟨u,w,y,r,s,t⟩:=jx (cap:=cap) d l e m f n o p q;exact PE.imp (qy j B r k (hX 1 (by decide)) s) t
theorem pf{K:PySem.W.Frag}:∀v c H Q,xa K 2 (lx [0,1]) v c H Q->xa K 2 (lx [0,1]) v c H λb d=>Q b d/\b.length=c.length/\∀j,2<=j->b[j]?=c[j]?:=λv c H Q h=>by
 obtain⟨a,g,rfl,e,f,v1,i,rfl,v2,k,rfl,rfl,q⟩:=h;refine⟨a,_,rfl,e,f,v1,_,rfl,v2,_,rfl,rfl,q,by simp,λj l=>?_⟩
 rw[List.getElem?_set_ne (by omega),List.getElem?_set_ne (by omega)]
theorem vk{x y:Str}{u A D:Pos}{E:Nat}(F:X.calm=true)(B:fU X scope [x,y] cn cap)(L:∀z,foldedSetIterable iter X.env z=pure z)(r:vf X κ Φ (.Tuple [.Name x u,.Name y A] E D) iter mi)(M:scope.names.lookup x=some .local)(N:scope.names.lookup y=some .local)(m:([x,y]++cn).Nodup)
  (O:∀j C b c l,bo (blk X scope j C ([x,y]++cn) b c l) κ kG elt me) :
  bo X κ Φ (.ListComp elt [⟨.Tuple [.Name x u,.Name y A] E D,iter,[],0⟩] scope pos) (cg me true mc mi 2 cap):=by
 intro s P Q R G;have I:(relabel scope X.env).names.lookup x=some .local:=lookup_relabel_local M;have o:(relabel scope X.env).names.lookup y=some .local:=lookup_relabel_local N
 obtain⟨wi,tc,te,t,p,T⟩:=kH (g:=xa X.K 2 (lx [0,1])) (tn:=[x,y]) (cn:=cn) (cap:=cap) (n:=2) (ifs:=[]) (mc:=mc) (nc:=true) (scope:=scope) (elt:=elt) (me:=me) r (λd J z α Z G H U k f S V Y=>by
   cases d with
   |tup es=>
    simp only[lK]at f;split at f
    .rename_i q
     injection f with f;have e:J=es:=(List.map_inj_right (λ_ _ h=>by injection h)).mp f.symm
     subst e;obtain⟨a,vs,rfl,_,t,p⟩:=di V
     match J,q,p with
     |[d1,d2],_,p=>
      obtain⟨v,w,rfl,q1,q2⟩:=qP p;exact⟨a,_,rfl,oq (.inl t),rfl,v,_,rfl,w,_,rfl,rfl,Y [v,w] (.cons q1 (.one q2))⟩
    .cases f
   |_=>cases f) (λj C b c l=>⟨AF (X:=blk X scope j C ([x,y]++cn) b c l) F (mH (iw (X:=blk X scope j C ([x,y]++cn) b c l) m rfl (.inl I) (.inr I)) (mH (iw (X:=blk X scope j C ([x,y]++cn) b c l) (i:=1) m rfl (.inl o) (.inr o)) w_)),.inl ⟨rfl,rfl⟩,O j C b c l⟩) s P Q R G
 exact PE.imp (qy F B t L pf p) T
end
inductive f_ where
 |nx (ρ:aR) (Ω:aE)|bk (ρ:aR) (Ω:aE)|ct (ρ:aR) (Ω:aE)|rt (d:D) (Ω:aE)|exc (x:D) (Ω:aE)|bad
abbrev SM:=aR->aE->f_
def fc(κ:Str->Addr->Prop)(Φ:dE)(a:List Addr)(c:Addr->Prop)(e:Hp)(E:Ends):f_->Prop
 |.nx ρ Ω=>∀b H α Z,cP κ a c e α Z Ω ρ b H->E.nx b H
 |.bk ρ Ω=>∀b H α Z,cP κ a c e α Z Ω ρ b H->E.bk b H
 |.ct ρ Ω=>∀b H α Z,cP κ a c e α Z Ω ρ b H->E.ct b H
 |.rt d Ω=>∀v H α Z,cw a c e α Z H->bI κ α Z Ω H->au α Z H d v->E.rt v H
 |.exc x Ω=>∀H α Z,cw a c e α Z H->bI κ α Z Ω H->Φ x Ω α Z H
 |.bad=>False
noncomputable def BF(κ:Str->Addr->Prop)(Φ:dE)(a:List Addr)(b:Addr->Prop)(d:Hp)(c:SM)(ρ:aR)(Ω:aE):TS:=λE e H=>∃f Z,cP κ a b d f Z Ω ρ e H/\fc κ Φ a b d E (c ρ Ω)
def ph(X:Cx)(κ:Str->Addr->Prop)(Φ:dE)(st:Stmt)(c:SM):Prop:=∀a b d e f,PS X st (BF κ Φ a b d c e f)
def ir(X:Cx)(κ:Str->Addr->Prop)(Φ:dE)(a:List Stmt)(c:SM):Prop:=∀b d e f g,gS X a (BF κ Φ b d e c f g)
noncomputable def cm{c:Type}(r:aq c)(k:c->aE->f_):f_:=match r with
 |.ok a b=>k a b
 |.exc x b=>.exc x b
 |.bad=>.bad
noncomputable def ak:SM:=λa b=>.nx a b
noncomputable def aj(a b:SM):SM:=λe f=>match a e f with
 |.nx c d=>b c d
 |r=>r
def aT(i:Nat)(m:EM):SM:=λb c=>cm (m b c) λd a=>.nx (b.set i (some d)) a
def ke(m:EM):SM:=λb c=>cm (m b c) λ_ a=>.nx b a
def bf(m:EM):SM:=λb c=>cm (m b c) λd a=>.rt d a
def dN(m:EM)(a b:SM):SM:=λd e=>cm (dO (m d e)) λt c=>if t=true then a d c else b d c
noncomputable def pj:SM:=λ_ _=>.bad
noncomputable def de(i:Nat)(d:D)(ρ:aR):Option aR:=some (ρ.set i (some d))
def eM(c:D->aR->Option aR)(src:Src)(b:SM):Nat->Nat->SM
 |0,_,_,_=>.bad
 |f+1,i,ρ,Ω=>match f9 src Ω with
  |none=>.bad
  |some ds=>match ds[i]? with
   |none=>.nx ρ Ω
   |some d=>match c d ρ with
    |none=>.bad
    |some e=>match b e Ω with
     |.nx a az=>eM c src b f (i+1) a az
     |.ct a az=>eM c src b f (i+1) a az
     |.bk a az=>.nx a az
     |r=>r
def fo(a:D->aR->Option aR)(mi:IM)(b:SM):SM:=λd e=>cm (mi d e) λs c=>eM a s b fuel 0 d c
section
variable{X:Cx}{κ:Str->Addr->Prop}{Φ:dE}{α α' gn α1:List Addr}{Z Z' Z0 Z1:Addr->Prop}{Ω az:aE}{H H' H0 H1:Hp}{ρ:aR}{σ:L2.St}{E:Ends}{a b e ce o tg:Expr}{st:Stmt}{rest ta tb:List Stmt}{m:EM}{mi:IM}{ca cb:SM}{pos pos':Pos}
theorem cP.set(S:cP κ gn Z0 H0 α Z Ω ρ σ H){d:D}{v:V}(r:au α Z H d v)(i:Nat):cP κ gn Z0 H0 α Z Ω (ρ.set i (some d)) (σ.set i (some v)) H:=by
 refine⟨S.st,S.gr,by simp[S.len],λj c h=>?_⟩
 by_cases a:i=j
 .subst a
  have b:i<ρ.length:=by
   have:=(List.getElem?_eq_some_iff.mp h).1;simpa using this
  rw[List.getElem?_set_self b]at h;cases h;exact⟨v,by rw[List.getElem?_set_self (by rw[S.len];exact b)],r⟩
 .rw[List.getElem?_set_ne a]at h ⊢
  exact S.val j c h
theorem fc.use{r:aq D}{k:D->aE->f_}{Q:VK}(S:cP κ gn Z0 H0 α Z Ω ρ σ H)(f:fc κ Φ gn Z0 H0 E (cm r k))(h:∀d aM v b a c,r=.ok d aM->cw α Z H a c b->cP κ gn Z0 H0 a c aM ρ σ b->au a c b d v->fc κ Φ gn Z0 H0 E (k d aM)->Q v b):bK κ Φ α Z H r Q:=by
 cases r with
 |ok d aM=>exact λv b a c g s q=>h d aM v b a c rfl g (S.grow g s) q f
 |exc x aM=>exact λb a c g s=>f b a c (S.gr.trans g) s
 |bad=>exact f
theorem fc.Ie{r:aq Bool}{k:Bool->aE->f_}{Q:Bool->Hp->Prop}(S:cP κ gn Z0 H0 α Z Ω ρ σ H)(f:fc κ Φ gn Z0 H0 E (cm r k))(h:∀t aM b a c,r=.ok t aM->cw α Z H a c b->cP κ gn Z0 H0 a c aM ρ σ b->fc κ Φ gn Z0 H0 E (k t aM)->Q t b):mz κ Φ α Z H r Q:=by
 cases r with
 |ok d aM=>exact λb a c g s=>h d aM b a c rfl g (S.grow g s) f
 |exc x aM=>exact λb a c g s=>f b a c (S.gr.trans g) s
 |bad=>exact f
theorem gS.ex{c:Type}{t:c->TS}{a:List Stmt}(h:∀i,gS X a (t i)):gS X a (λD b H=>∃i,t i D b H):=λpins s b H D I ⟨i,q⟩=>h i pins s b H D I q
theorem iB:ir X κ Φ [] ak:=by
 intro a d e g h;refine gS.imp wZ ?_;rintro E b H ⟨c,Z,S,f⟩;exact f b H c Z S
theorem gx(k:ph X κ Φ st ca)(l:ir X κ Φ rest cb):ir X κ Φ (st::rest) (aj ca cb):=by
 intro c g h i j;refine gS.imp (tP (k c g h i j) (gS.ex λp:aR×aE=>l c g h p.1 p.2)) ?_
 rintro E s H ⟨m,Z,S,f⟩;refine⟨m,Z,S,?_⟩;simp only[aj]at f;cases q:ca i j with
 |nx b a=>rw[q]at f;exact λn t e o r=>⟨(b,a),e,o,r,f⟩
 |bk b a=>rw[q]at f;exact f
 |ct b a=>rw[q]at f;exact f
 |rt d a=>rw[q]at f;exact f
 |exc x a=>rw[q]at f;exact f
 |bad=>rw[q]at f;exact f.elim
theorem qV(h:bo X κ Φ e m):ph X κ Φ (.Return (some e) pos) (bf m):=by
 intro a i j k l;refine PS.imp (AE (h a i j k l)) ?_;rintro E t H ⟨n,Z,S,f⟩;exact⟨n,Z,S,fc.use S f λd o v p b q _ g c r s=>s v p b q c.gr c.st r⟩
theorem yA{i:Nat}{x:Str}(c:X.N.Nodup)(j:X.N[i]?=some x)(k:Loc X.env.scope x)(l:X.fn x=true\/X.env.scope.names.lookup x=some .local)(n:swapsWith e (some (.Name x pos')) pos.line X.env=pure false)(h:bo X κ Φ e m) :
  ph X κ Φ (.Assign [.Name x pos'] e pos) (aT i m):=by
 intro a o p q s;refine PS.imp (AH c j k (h a o p q s) n l) ?_;rintro E B H ⟨t,Z,S,f⟩;exact⟨t,Z,S,fc.use S f λd u v w b y _ g z r A=>A _ w b y (z.set r i)⟩
theorem vl{i:Nat}{x:Str}{elt iter n:Expr}{ifs:List Expr}{scope:Scope}{tn cn:List Str}{cap:List Nat}{g:TG}(D:X.N.Nodup)(F:X.N[i]?=some x)(G:X.env.scope.names.lookup x=some .local)
  (o:swapsWith (.ListComp elt [⟨n,iter,ifs,0⟩] scope pos) (some (.Name x pos')) pos'.line X.env=pure true) (I:X.calm=true) (B:fU X scope tn cn cap) (J:∀x,foldedSetIterable iter X.env x=pure x)
  (p:∀v c H Q,g v c H Q->g v c H λk K=>Q k K/\k.length=c.length/\∀j,tn.length<=j->k[j]?=c[j]?)
  (h:∀l q s ρ Ω,∃t u w,PI X n iter t/\(∀y C a b z,PG (blk X scope y C (tn++cn) a b z) n g/\xG (blk X scope y C (tn++cn) a b z) ifs u/\PE (blk X scope y C (tn++cn) a b z) elt w) /\
   ∀c H Q,tO κ Φ l q s m ρ Ω c H Q->kv t tn.length cap g u w c H Q) {e:Pos} (L:e.line=pos'.line) :
  ph X κ Φ (.Assign [.Name x pos'] (.ListComp elt [⟨n,iter,ifs,0⟩] scope pos) e) (aT i m):=by
 intro l q s ρ Ω;obtain⟨t,u,w,M,O,P⟩:=h l q s ρ Ω;refine PS.imp (oV D F G (by rw[L];exact o) I B M J p O) ?_
 rintro E c H ⟨R,Z,S,f⟩;exact P c H _ ⟨R,Z,S,fc.use S f λd T v U A V _ g Y r f1=>f1 _ U A V (Y.set r i)⟩
theorem yB(c:swapsWith e none pos.line X.env=pure false)(h:bo X κ Φ e m):ph X κ Φ (.Expr e pos) (ke m):=by
 intro a i j k l;refine PS.imp (w9 (h a i j k l) c) ?_;rintro E u H ⟨n,Z,S,f⟩;exact⟨n,Z,S,fc.use S f λd o v p b q _ g s r t=>t _ p b q s⟩
theorem BG(n:fK X κ Φ e m)(o:ir X κ Φ ta ca)(p:ir X κ Φ tb cb):ph X κ Φ (.If e ta tb pos) (dN m ca cb):=by
 intro b h i j q;refine PS.imp (CY (n b h i j q) (gS.ex λa=>o b h i j a) (gS.ex λa=>p b h i j a)) ?_
 rintro E s H ⟨r,Z,S,f⟩;refine⟨r,Z,S,fc.Ie S f λt a u c k _ g l d=>?_⟩
 cases t with
 |true=>rw[if_pos rfl]at d;exact oK ⟨a,c,k,l,d⟩
 |false=>rw[if_neg Bool.false_ne_true]at d;exact oJ ⟨a,c,k,l,d⟩
theorem sR:ph X κ Φ st pj:=λa b c d e pins s g H E I ⟨h,Z,S,f⟩=>f.elim
def z9(κ:Str->Addr->Prop)(e:D->aR->Option aR)(g:TG):Prop:=
 ∀(d:D) (x:V) a h i f Z j l b m H (k:L2.St->Hp->Prop),cP κ a h i f Z j l m H->au f Z H d x->e d l=some b->(∀c,cP κ a h i f Z j b c H->k c H)->g x m H k
theorem yC{p:D->aR->Option aR}{g:TG}(hp:PassesOwn (model X.prog X.w) X.A X.env X.xe)(hc:X.calm=true)(hi:vf X κ Φ tg e mi)(hg:PG X tg g)(a0:z9 κ p g)(hb:ir X κ Φ tb cb)(hs:∀x,foldedSetIterable e X.env x=pure x):ph X κ Φ (.For tg e tb [] pos) (fo p mi cb):=by
 intro j C F B M;have b0:gS X tb (λD Q H=>∃a n t c h,BF κ Φ a n t cb c h D Q H):=λpins s Q H D I ⟨a,n,t,c,h,q⟩=>hb a n t c h pins s Q H D I q
 refine PS.imp (AI hp hc (hi j C F B M) hg b0 hs) ?_;rintro E Q H ⟨α,Z,S,f⟩;refine⟨α,Z,S,?_⟩;simp only[fo]at f;cases qi:mi B M with
 |exc x N=>rw[qi]at f;exact λt a n g s=>f t a n (S.gr.trans g) s
 |bad=>rw[qi]at f;exact f.elim
 |ok G N=>
  rw[qi]at f;have f:fc κ Φ j C F E (eM p G cb fuel 0 B N):=f;intro J t a n g1 s1 w1;have S1:=S.grow g1 s1;refine⟨λi f Q H=>∃k R B M,cP κ j C F k R M B Q H/\cw a n t k R H/\fc κ Φ j C F E (eM p G cb f i B M),⟨fuel,a,n,B,N,S1,cw.refl s1.has,f⟩,?_⟩
  rintro i f T H2 ⟨k,R,U,u,S2,g2,b⟩;cases f with
  |zero=>exact b.elim
  |succ f=>
   simp only[eM]at b;cases qs:f9 G u with
   |none=>rw[qs]at b;exact b.elim
   |some ds=>
    rw[qs]at b;dsimp only at b;obtain⟨c0,e0⟩:=w1 k R u H2 ds g2 S2.st qs;cases Y:ds[i]? with
    |none=>
     rw[Y]at b;exact .inl ⟨e0 i (List.getElem?_eq_none_iff.mp Y),b T H2 k R S2⟩
    |some d=>
     rw[Y]at b;dsimp only at b;obtain⟨g0,h0⟩:=c0 i d Y;cases qp:p d U with
     |none=>rw[qp]at b;exact b.elim
     |some K=>
      rw[qp]at b;dsimp only at b;refine .inr ⟨g0,λl o=>∃z O B M,cP κ j C F z O M B l o/\cw a n t z O o/\fc κ Φ j C F E (eM p G cb f (i+1) B M),λl o q=>⟨f,Nat.lt_succ_self f,q⟩,λx H3 yl=>?_⟩
      obtain⟨O,g3,s3,rx⟩:=h0 x H3 yl;have S3:=S2.grow g3 s3;refine a0 d x j C F k O u U K T H3 _ S3 rx qp λi0 S4=>?_
      have base:cw j C F a n t:=S1.gr;have gL:cw a n t k O H3:=g2.trans g3;have S5:cP κ a n t k O u K i0 H3:=⟨S4.st,gL,S4.len,S4.val⟩;have P:∀{z Z4 V c l o},cP κ a n t z Z4 V c l o->cP κ j C F z Z4 V c l o:=λy=>⟨y.st,base.trans y.gr,y.len,y.val⟩
      refine⟨a,n,t,K,u,k,O,S5,?_⟩;cases q:cb K u with
      |nx c h=>rw[q]at b;exact λl o m L y=>⟨m,L,c,h,P y,y.gr,b⟩
      |ct c h=>rw[q]at b;exact λl o m L y=>⟨m,L,c,h,P y,y.gr,b⟩
      |bk c h=>rw[q]at b;exact λl o m L y=>b l o m L (P y)
      |rt d h=>rw[q]at b;exact λv o m L g s r=>b v o m L (base.trans g) s r
      |exc x h=>rw[q]at b;exact λo m L g s=>b o m L (base.trans g) s
      |bad=>rw[q]at b;exact b.elim
theorem BH(i:Nat):z9 κ (de i) (fv i):=λd x a c f g Z j l b m H k S r e h=>by
 cases e;exact h _ (S.set r i)
end
abbrev c9:=List D->aE->aq D
def dJ(κ:Str->Addr->Prop)(F:c9):Sp:=λd H Q _=>∃a Z b c,bI κ a Z b H/\aL (au a Z H) c d/\bK κ kG a Z H (F c b) Q
noncomputable def CI{a:Type}(r:aq a):aq a:=match r with
 |.ok d b=>.ok d b
 |_=>.bad
def aB(F:c9):c9:=λa b=>CI (F a b)
structure vm(X:Cx)(κ:Str->Addr->Prop)(k:Nat)(x:Str)(F:c9):Prop where
 ex:∃(f:Addr) (fd:FuncData) (ps:List Str),X.mg x=some (.ref f)/\PySem.W.keepIn X.K (.ref f)=true/\Binds X.K fd ps []/\cX X.prog X.w X.K X.mg X.base iy k f fd ps (dJ κ F)
def hY(x y v:D)(Ω:aE):Option aE:=match x with
 |.ref k=>match Ω[k]? with
  |some (.dK a)=>match xV y with
   |some c=>if small (a.length+1)then some (Ω.set k (.dK (oX a c v)))else none
   |none=>none
  |some (.lst b)=>match y with
   |.int i=>match L2.oo b.length i with
    |some n=>some (Ω.set k (.lst (b.set n v)))
    |none=>none
   |_=>none
  |_=>none
 |_=>none
def hZ(f g h:EM):SM:=λa i=>cm (h a i) λv b=>cm (f a b) λx c=>cm (g a c) λy d=>match hY x y v d with
 |some e=>.nx a e
 |none=>.bad
section
variable{X:Cx}{κ:Str->Addr->Prop}{Φ:dE}{α α' gn α1:List Addr}{Z Z' Z0 Z1:Addr->Prop}{Ω az:aE}{H H' H0 H1:Hp}{ρ:aR}{σ:L2.St}{Q:VK}{E:Ends}{a b e ce o tg:Expr}{es:List Expr}{st:Stmt}{rest ta tb:List Stmt}{m mo mv ma md mk:EM}{as:AM}{ca cb:SM}{pos pos' p apos:Pos}{F:c9}{C:Str}
theorem bK.ok0{r:aq D}(h:bK κ Φ α Z H (CI r) Q):bK κ kG α Z H r Q:=by
 cases r with
 |ok d a=>exact h
 |exc x a=>exact h.elim
 |bad=>exact h
theorem vn{k:Nat}{x:Str}(F0:vm X κ k x F)(i:dW k X.A)(j:Gl X x)(a:(x==("__debug__":Str))=false)
  (l:starEach (e::es) X.env=(false,eval e X.env)::starEach es X.env) (b:(backTo pos (starEach es X.env)).any (·.1)=false) (m:ng X κ Φ (e::es) as) :
  bo X κ Φ (.Call (.Name x p) (e::es) [] pos) (mN (aB F) as):=by
 obtain⟨f,J,K,n,o,q,r⟩:=F0.ex;intro c s t u w;refine PE.imp (qa r i j n o q .nil ui (m c s t u w) a l b) ?_;rintro L H Q ⟨y,Z,S,g⟩;refine⟨y,Z,S,lz.use g λz d _ B C h D M E G I=>?_⟩
 show dJ κ F (B++[]) C Q E0
 rw[List.append_nil];exact⟨h,D,d,z,E,G,bK.ok0 I⟩
theorem sS{k:Nat}{x:Str}(F0:vm X κ k x F)(b:dW k X.A)(c:Gl X x)(a:(x==("__debug__":Str))=false):bo X κ Φ (.Call (.Name x p) [] [] pos) (mN (aB F) ag):=by
 obtain⟨f,n,o,d,e,h,i⟩:=F0.ex;intro j q r s l;refine PE.imp (tZ i b c d e h .nil ui a) ?_;rintro t H Q ⟨m,Z,S,g⟩;exact⟨m,Z,l,[],S.st,.nil,bK.ok0 g⟩
def vo(K:PySem.W.Frag)(κ:Str->Addr->Prop)(b:List Str)(f:Str):Prop:=∀C a,b.contains C=true->κ C a->Dk K a/\AU K a f
def z_(P:Program)(w:World)(K:PySem.W.Frag)(i:Str->Option Value)(base:Heap)(κ:Str->Addr->Prop)(k:Nat)(C m:Str)(F:c9)(c f:Addr)(d:FuncData)(ps:List Str):Prop:=
 (∀a,κ C a->a=c)/\Dk K c/\Meth K c m f/\∃(e:List Value) (b:List V) (g:List D) (h:c9),Binds K d ps e/\Vals b e/\(∀j Z H,aL (au j Z H) g b)/\cX P w K i base iy k f d ps (dJ κ h)/\F=λl=>h (l++g)
structure DS(X:Cx)(κ:Str->Addr->Prop)(k:Nat)(C m:Str)(F:c9):Prop where
 ex:∃(Ca f:Addr) (fd:FuncData) (ps:List Str),z_ X.prog X.w X.K X.mg X.base κ k C m F Ca f fd ps
structure DT(X:Cx)(κ:Str->Addr->Prop)(k:Nat)(C:Str)(F:c9):Prop where
 ex:∃(Ca f:Addr) (fd:FuncData) (ps:List Str),κ C Ca/\Mk X.K Ca f/\X.mg C=some (.ref Ca)/\Binds X.K fd ps []/\cX X.prog X.w X.K X.mg X.base iy k f fd ps (dJ κ F)
def Aa(H:Hp)(a:Addr)(y v:V)(c:Hp):Prop:=ue H a y v c\/∃b k j,y=.int k/\H a=some (.lst b)/\oo b.length k=some j/\c=upd H a (.lst (b.set j v))
noncomputable def BI(td d e:TE):TS:=λD b H=>e b H λv f=>td b f λx g=>d b g λy h=>∃a c,x=.ref a/\Aa h a y v c/\D.nx b c
theorem vp{i b:Expr}{td d e:TE}(p:X.A.units+1<cLine)(q:PE X o td)(t:PE X i d)(w:PE X b e)(z:swapsWith b (some (.Subscript o i pos')) pos.line X.env=pure false) :
  PS X (.Assign [.Subscript o i pos'] b pos) (BI td d e):=by
 intro pins s c H D I h;refine wpAny_Assign_Subscript (cf (w pins s c H _ I h) λr B ⟨v,H1,I1,f,q1⟩=>cf (q pins B c H1 _ I1 q1) λu C ⟨x,H2,I2,l,q2⟩=>cf (t pins C c H2 _ I2 q2) λM s3 ⟨y,H3,m,n,a,H4,ex,g,q3⟩=>?_) z
 subst ex;rcases g with g|⟨E,k,j,rfl,F,G,rfl⟩
 .obtain rfl:u=Value.ref a:=l
  exact r_ p m g n f λs4 J=>⟨c,H4,J,q3⟩
 .exact cf (set_list pins s3 c H3 _ _ _ _ _ _ (λK=>D.nx c K) m l n f ⟨a,E,k,j,rfl,rfl,F,G,q3⟩) λ_ s4 ⟨L,I5,q5⟩=>⟨c,L,I5,q5⟩
theorem aL.DU{α c:Type}{R:α->c->Prop}{a:α}{b:c}:∀{as:List α}{bs:List c}{n:Nat},aL R as bs->R a b->aL R (as.set n a) (bs.set n b)
 |_,_,_,.nil,_=>.nil
 |_::_,_::_,0,.cons _ t,r=>.cons r t
 |_::_,_::_,n+1,.cons q t,r=>.cons q (aL.DU t r)
theorem vq{x y d:D}{v w u:V}(S:bI κ α Z Ω H)(B:au α Z H x v)(C:au α Z H y w)(E:au α Z H d u)(h:hY x y d Ω=some az):∃a l,v=.ref a/\Aa H a w u l/\bI κ α Z az l/\cw α Z H α Z l:=by
 cases x with
 |ref k=>
  simp only[hY]at h;simp only[au]at B;obtain⟨a,j,rfl⟩:=B;split at h
  .rename_i m p
   obtain⟨G,b,e,f,g⟩:=S.cell p;rw[j]at b;cases b
   split at h
   .rename_i q r
    obtain rfl:=nk r C;split at h
    .rename_i I
     cases h;have:=bA I;obtain⟨s,t⟩:=S.put (o:=.dK (putK e q u)) (c:=.dK (oX m q d)) j (λo u z=>by rw[f]at z;cases z) λR A=>⟨_,bc,(g.put q E).imp A⟩
     exact⟨a,_,rfl,.inl (ue.k f (by rw[g.length];omega)),s,t⟩
    .cases h
   .cases h
  .rename_i J p
   obtain⟨G,b,F,f,g⟩:=S.cell p;rw[j]at b;cases b
   split at h
   .rename_i i
    split at h
    .rename_i n K
     cases h;cases (show w=V.int i from C)
     obtain⟨s,t⟩:=S.put (o:=.lst (F.set n u)) (c:=.lst (J.set n d)) j (λo u z=>by rw[f]at z;cases z) λR A=>⟨_,bc,(aL.DU g E).imp A⟩
     exact⟨a,_,rfl,.inr ⟨F,i,n,rfl,f,by rw[g.length];exact K,rfl⟩,s,t⟩
    .cases h
   .cases h
  .cases h
 |_=>cases h
theorem vt{i:Expr}(B:X.A.units+1<cLine)(C:bo X κ Φ o md)(D:bo X κ Φ i mk)(F:bo X κ Φ e mv)(G:swapsWith e (some (.Subscript o i pos')) pos.line X.env=pure false):ph X κ Φ (.Assign [.Subscript o i pos'] e pos) (hZ md mk mv):=by
 intro c h j k I;refine PS.imp (vp B (PE.ex λb=>C c h j k b) (PE.ex λb=>D c h j k b) (F c h j k I) G) ?_
 rintro E J H ⟨K,Z,S,f⟩;refine⟨K,Z,S,fc.use S f λd b v H1 l L _ g1 m M N=>⟨b,l,L,m,fc.use m N λx n w H2 p O _ P g Q R=>⟨n,p,O,g,fc.use g R λy T u H3 q U _ s t V r=>?_⟩⟩⟩
 split at r
 .rename_i Y hq
  obtain⟨a,z,rfl,h1,s4,g4⟩:=vq t.st (g.st.cY s Q) V (g.st.cY s (m.st.cY P M)) hq;exact⟨a,z,rfl,h1,r J z q U (t.grow g4 s4)⟩
 .exact r.elim
noncomputable def ba(n:Nat)(ds:List D):aR:=ds.map some++List.replicate (n - ds.length) none
noncomputable def bW:f_->aq D
 |.rt d Ω=>.ok d Ω
 |.nx _ Ω=>.ok .non Ω
 |.exc x Ω=>.exc x Ω
 |_=>.bad
def cQ(n k:Nat)(c:SM):c9:=λa b=>if a.length=k then bW (c (ba n a) b)else .bad
theorem jy{ds:List D}{b:List V}{N:List Str}(S:bI κ α Z Ω H)(r:aL (au α Z H) ds b):cP κ α Z H α Z Ω (ba N.length ds) (L2.start N b) H where
 st:=S
 gr:=cw.refl S.has
 len:=by simp[ba,L2.start,r.length]
 val:=λi d a=>by
  unfold ba at a
  by_cases h:i<ds.length
  .rw[List.getElem?_append_left (by simpa using h),List.getElem?_map]at a
   obtain⟨j,c,e⟩:=Option.map_eq_some_iff.mp a;cases e;obtain⟨v,f,g⟩:=r.get c;refine⟨v,?_,g⟩;unfold L2.start;rw[List.getElem?_append_left (by simpa[r.length]using h),List.getElem?_map,f]
   rfl
  .rw[List.getElem?_append_right (by simpa using h),List.getElem?_replicate]at a
   split at a<;>cases a
end
structure nF(P:Program)(w:World)(K:PySem.W.Frag)(mg:Str->Option Value)(base:Heap)(κ:Str->Addr->Prop)(k:Nat)(j:Nat)(F:List D->c9):Prop where
 run:∀(X:Cx) (f:Addr) (vs:List V) (σ:L2.St) (H:Hp) (Q:VK) (α:List Addr) (Z:Addr->Prop) (Ω:aE) (ly ds:List D) (n:Nat),X.prog=P->X.w=w->X.K=K->X.mg=mg->X.base=base->dW k X.A ->
  bI κ α Z Ω H->α[n]?=some f->Ω[n]?=some (.fn j ly)->aL (au α Z H) ds vs->bK κ kG α Z H (F ly ds Ω) Q->DJ X f vs σ H Q
theorem nF.mono{P:Program}{w:World}{K:PySem.W.Frag}{a:Str->Option Value}{base:Heap}{κ:Str->Addr->Prop}{k b j:Nat}{F:List D->c9}(h:nF P w K a base κ k j F)(c:k<=b):nF P w K a base κ b j F:=
 ⟨λX f d e H Q g Z i ly l n m o p q r s=>h.run X f d e H Q g Z i ly l n m o p q r (s.mono c)⟩
def Mr(M:List (List D->c9))(n:Nat)(xs:List D)(Ω:aE):aq D:=match Ω[n]? with
 |some (.fn j ly)=>match M[j]? with
  |some F=>aB (F ly) xs Ω
  |none=>.bad
 |_=>.bad
noncomputable def isFn(Ω:aE)(n:Nat):Bool:=match Ω[n]? with
 |some (.fn _ _)=>true
 |_=>false
def BJ(M:List (List D->c9))(i:Nat)(as:AM):EM:=λb c=>match b[i]? with
 |some (some (.ref n))=>if isFn c n=true then (as b c).bind λd a=>Mr M n d a else .bad
 |_=>.bad
section
variable{X:Cx}{κ:Str->Addr->Prop}{Φ:dE}{α α' gn:List Addr}{Z Z' Z0:Addr->Prop}{Ω az:aE}{H H' H0:Hp}{ρ:aR}{σ:L2.St}
end
end Mir
namespace Mir
open PySem PySem.Spec PyProof.Rows L2
def Ab(i j:Int):Prop:=Builtin.Int.intBits i<=2 ^ 20/\Builtin.Int.intBits j<=2 ^ 20
theorem yD{X:Cx}:eW X (binaryOp .Mult) (rI Ab λi j=>.int (i*j)):=Dc λ_ _ _ _ _ _ _ a q=>mul_int q (IntMulOk.of_bits a.1 a.2)
def DV:R2:=λx y H Q=>rI Ab (λi j=>.int (i*j)) x y H Q\/Dx x y H Q
variable [aU]
def kf(x y:D)(Ω:aE):aq D:=match x,y with
 |.int i,.int j=>if Builtin.Int.intBits i<=2 ^ 20/\Builtin.Int.intBits j<=2 ^ 20 then .ok (.int (i*j)) Ω else .bad
 |x,.int k=>match pb Ω x with
  |some (_,a)=>if 0<=k/\k<=1000/\a.length<=100 then fk Ω (.lst (List.replicate k.toNat a).flatten)else .bad
  |none=>.bad
 |_,_=>.bad
section
variable{X:Cx}{κ:Str->Addr->Prop}{Φ:dE}{a b:Expr}{ma mb:EM}{pos:Pos}
theorem nG{α:List Addr}{Z:Addr->Prop}{H:Hp}{ds:List D}{a:List V}(h:aL (au α Z H) ds a):∀n:Nat,aL (au α Z H) (List.replicate n ds).flatten (List.replicate n a).flatten
 |0=>.nil
 |n+1=>by
  rw[List.replicate_succ,List.replicate_succ,List.flatten_cons,List.flatten_cons];exact h.append (nG h n)
theorem vu(l:bo X κ Φ a ma)(m:bo X κ Φ b mb):bo X κ Φ (.BinOp a .Mult b pos) (m2 kf ma mb):=by
 refine cV (r:=DV) (λw tb n o=>p9 (yD.or Bb) n o) l m λz A x y B Z C H Q S d c g=>?_
 unfold kf at g;split at g
 .rename_i i j
  simp only[au]at d c;subst d;subst c;split at g
  .rename_i e
   exact .inl ⟨i,j,rfl,rfl,e,bK.ret S (aG rfl) g⟩
  .exact g.elim
 .rename_i k _
  simp only[au]at c;subst c;split at g
  .rename_i j D q
   split at g
   .rename_i e
    obtain⟨p,f,rfl,_,s,h⟩:=nr S d q;have E:=h.length;refine .inr ⟨p,k,f,rfl,rfl,s,by omega,by omega,?_,dH S (nG h k.toNat) g⟩
    have t:k.toNat<=1000:=by omega
    have u:f.length<=100:=by omega
    have:=Nat.mul_le_mul u t;rw[sizeLine_eq];omega
   .exact g.elim
  .exact g.elim
 .exact g.elim
end
noncomputable def BK:Expr->Operator->Expr->Bool
 |.List ..,.Mult,_=>true
 |_,.Mult,.BinOp _ .Pow _ _=>true
 |_,_,_=>false
def Ig(a:Expr)(op:Operator)(b:Expr):D->D->aE->aq D:=if BK a op b then kf else ax op
theorem vv{a:Expr}{op:Operator}{b:Expr}(h:BK a op b=true):op=.Mult:=by
 unfold BK at h;split at h
 .rfl
 .rfl
 .cases h
theorem yE{X:Cx}{κ:Str->Addr->Prop}{Φ:dE}{a b:Expr}{c d:EM}{pos:Pos}{op:Operator}(e:bo X κ Φ a c)(f:bo X κ Φ b d):bo X κ Φ (.BinOp a op b pos) (m2 (Ig a op b) c d):=by
 unfold Ig;split
 .rename_i h
  obtain rfl:=vv h;exact vu e f
 .exact xS e f
end Mir
namespace L2
open PySem PySem.Spec PyProof.Rows
section
variable{X:Cx}{e:Expr}{te:TE}{pos:Pos}
theorem DW(d:PE X e te):PE X (.FormattedValue e (-1) none pos) (λb H Q=>te b H λv a=>(∃x,v=.str x/\x.length<=4000/\Q (.str x) a)\/(∃i,v=.int i/\i.natAbs.log2<1920/\Q (.str (toString i)) a)):=by
 intro pins s b H Q I h;refine wpAny_FormattedValue_plain (cf (d pins s b H _ I h) λv f ⟨y,a,I1,r1,q⟩=>?_)
 rcases q with ⟨x,rfl,c,q⟩|⟨i,rfl,c,q⟩
 .obtain⟨t,rfl⟩:=r1
  exact wpAny_formatField_str ⟨.str x,a,I1,⟨_,rfl⟩,q⟩ ⟨.str x,a,I1.tok _,⟨_,rfl⟩,q⟩ (by rw[sizeLine_eq];omega)
 .obtain⟨t,rfl⟩:=r1
  exact wpAny_formatField_int c ⟨.str _,a,I1.tok _,⟨_,rfl⟩,q⟩
def tJ:List TE->Str->St->Hp->(Str->Hp->Prop)->Prop
 |[],a,_,H,Q=>Q a H
 |te::b,a,σ,H,Q=>te σ H λv c=>∃y,v=.str y/\(a++y).length<=8000/\tJ b (a++y) σ c Q
inductive CJ (X:Cx):List Expr->List TE->Prop
 |nil:CJ X [] []
 |cons {e:Expr}{te:TE}{es:List Expr}{ts:List TE}:PE X e te->CJ X es ts->CJ X (e::es) (te::ts)
theorem nH:∀{es:List Expr}{d:List TE},CJ X es d->∀(pins:List (Addr×Obj)) (s:Shared) (a:St) (H:Hp) (acc:Str) (Q:Str->Hp->Prop),Inv X pins a H s->tJ d acc a H Q->Joins (model X.prog X.w) X.A X.xe (evalEach es X.env) acc (λc s1=>∃b,Inv X pins a b s1/\Q c b) s
 |_,_,.nil,pins,s,a,H,acc,Q,I,h=>⟨H,I,h⟩
 |_,_,.cons e f,pins,s,a,H,acc,Q,I,h=>by
  refine cf (e pins s a H _ I h) λv s1 ⟨y,b,I1,r1,z,hz,hl,q⟩=>?_
  subst hz;obtain⟨t,rfl⟩:=r1;exact⟨z,t,rfl,by rw[sizeLine_eq];omega,nH f pins s1 a b _ Q I1 q⟩
theorem sT{a b:Expr}{r:List Expr}{f:List TE}(h:CJ X (a::b::r) f):PE X (.JoinedStr (a::b::r) pos) (λi H Q=>tJ f Str.empty i H λc j=>c.length<=8000/\Q (.str c) j):=by
 intro pins s i H Q I q;refine wpAny_JoinedStr ?_;have l:=nH h pins s i H Str.empty _ I q
 have mono:∀(f:List (Sem Value)) (d:Str) (s:Shared) (P g:Str->Shared->Prop),(∀o s,P o s->g o s)->Joins (model X.prog X.w) X.A X.xe f d P s->Joins (model X.prog X.w) X.A X.xe f d g s:=by
  intro f
  induction f with
  |nil=>intro d s P g k h;exact k _ _ h
  |cons t f m=>
   intro d s P g k h;exact wpAny_mono h (λv n ⟨y,t,e,hl,q⟩=>⟨y,t,e,hl,m _ _ P g k q⟩) λ_ _ x=>x
 refine mono _ _ _ _ _ (λc n ⟨j,I1,hl,q⟩=>?_) l
 exact⟨by rw[sizeLine_eq];omega,.str c,j,I1.tok _,⟨_,rfl⟩,q⟩
end
end L2
namespace Mir
open PySem PySem.Spec PyProof.Rows L2
variable [aU]
noncomputable def vw(x:D)(Ω:aE):aq D:=match x with
 |.str z=>if z.length<=4000 then .ok (.str z) Ω else .bad
 |.int i=>if i.natAbs.log2<1920 then .ok (.str (toString i)) Ω else .bad
 |_=>.bad
def jO:List EM->Str->EM
 |[],a=>λ_ Ω=>if a.length<=8000 then .ok (.str a) Ω else .bad
 |m::b,a=>λρ Ω=>(m ρ Ω).bind λd aM=>match d with
  |.str y=>if (a++y).length<=8000 then jO b (a++y) ρ aM else .bad
  |_=>.bad
section
variable{X:Cx}{κ:Str->Addr->Prop}{Φ:dE}{e:Expr}{m:EM}{pos:Pos}
theorem BL(c:bo X κ Φ e m):bo X κ Φ (.FormattedValue e (-1) none pos) (m1 vw m):=
 fL (λf d=>DW d) c λh x j Z k H Q S a g=>by
  unfold vw at g;split at g
  .rename_i z
   simp only[au]at a;subst a;split at g
   .rename_i b;exact .inl ⟨z,rfl,b,bK.ret S (aG rfl) g⟩
   .exact g.elim
  .rename_i i
   simp only[au]at a;subst a;split at g
   .rename_i b;exact .inr ⟨i,rfl,b,bK.ret S (aG rfl) g⟩
   .exact g.elim
  .exact g.elim
inductive CK (X:Cx) (κ:Str->Addr->Prop) (Φ:dE):List Expr->List EM->Prop
 |nil:CK X κ Φ [] []
 |cons {e:Expr}{m:EM}{es:List Expr}{ms:List EM}:bo X κ Φ e m->CK X κ Φ es ms->CK X κ Φ (e::es) (m::ms)
theorem pk{a b:Expr}{r:List Expr}{e:List EM}(h:CK X κ Φ (a::b::r) e):bo X κ Φ (.JoinedStr (a::b::r) pos) (jO e Str.empty):=by
 intro f o p q Ω
 have P:∀{j:List Expr}{e:List EM},CK X κ Φ j e->CJ X j (e.map λm=>λs H Q=>∃c,tO κ Φ f o p m q c s H Q):=by
  intro j e h
  induction h with
  |nil=>exact .nil
  |cons u _ k=>exact .cons (PE.ex λc=>u f o p q c) k
 refine PE.imp (sT (P h)) ?_;rintro s H Q ⟨α,Z,S,g⟩;clear h P;generalize Str.empty=acc at g ⊢
 induction e generalizing acc α Z Ω H with
 |nil=>
  unfold jO at g;split at g
  .rename_i l;exact⟨l,bK.ret S.st (aG rfl) g⟩
  .exact g.elim
 |cons m e k=>
  unfold jO at g;refine⟨Ω,α,Z,S,g.use λd c w v x n z A B t i=>?_⟩
  clear w;split at i
  .rename_i y
   simp only[au]at t;subst t;split at i
   .rename_i l
    exact⟨y,rfl,l,k (Ω:=c) (α:=n) (Z:=z) (H:=x) (S:=S.grow A B) (acc:=acc++y) i⟩
   .exact i.elim
  .exact i.elim
end
def Ac(f:Expr->Option EM):Expr->Option EM
 |.FormattedValue e c none _=>if c == -1 then (f e).map (m1 vw)else none
 |.Constant (.str x) _ _=>some λ_ Ω=>.ok (.str x) Ω
 |_=>none
def jz(f:Expr->Option EM):List Expr->Option (List EM)
 |[]=>some []
 |e::es=>match Ac f e,jz f es with
  |some m,some a=>some (m::a)
  |_,_=>none
theorem kI{X:Cx}{κ:Str->Addr->Prop}{Φ:dE}{f:Expr->Option EM}(d:∀e m,f e=some m->bo X κ Φ e m):∀{es:List Expr}{b:List EM},jz f es=some b->CK X κ Φ es b
 |[],b,h=>by cases h;exact .nil
 |e::es,b,h=>by
  unfold jz at h;split at h
  .rename_i m g h1 h2
   cases h;refine .cons ?_ (kI d h2);unfold Ac at h1;split at h1
   .rename_i e c p
    split at h1
    .rename_i i
     obtain rfl:=eq_of_beq i;obtain⟨a,j,rfl⟩:=Option.map_eq_some_iff.mp h1;exact BL (d e a j)
    .cases h1
   .cases h1;exact e_ gT rfl
   .cases h1
  .cases h
end Mir
namespace Mir
open PySem PySem.Spec PyProof.Rows L2
section
variable{X:Cx}
def DX:List V->Hp->VK->Prop:=λa H Q=>∃x n,a=[.str x]/\PySem.intText? x=some n/\x.length<=640/\Q (.int n) H
theorem sU:dV X (.type "int") DX:=by
 intro pins s e H f g Q I a h;obtain⟨x,n,rfl,b,c,q⟩:=h;obtain⟨u,rfl,d⟩:=a.one;obtain⟨t,rfl⟩:=d;exact PySem.W.KIN.call_text b c ⟨.int n,H,I.tok _,⟨_,rfl⟩,q⟩
def DY:List V->Hp->VK->Prop:=λa H Q=>∃i:Int,a=[.int i]/\i.natAbs.log2<1920/\Q (.str (toString i)) H
theorem sV:dV X (.type "str") DY:=by
 intro pins s d H e f Q I a h;obtain⟨i,rfl,b,q⟩:=h;obtain⟨u,rfl,c⟩:=a.one;obtain⟨t,rfl⟩:=c;exact PySem.P.str_of_int b ⟨.str _,H,I.tok _,⟨_,rfl⟩,q⟩
end
variable [aU]
noncomputable def eN(xs:List D)(Ω:aE):aq D:=match xs with
 |[.str z]=>match PySem.intText? z with
  |some n=>if z.length<=640 then .ok (.int n) Ω else .bad
  |none=>.bad
 |_=>.bad
noncomputable def kJ(xs:List D)(Ω:aE):aq D:=match xs with
 |[.int i]=>if i.natAbs.log2<1920 then .ok (.str (toString i)) Ω else .bad
 |_=>.bad
section
variable{X:Cx}{κ:Str->Addr->Prop}{Φ:dE}{e:Expr}{es:List Expr}{as:AM}{p pos:Pos}
theorem vx(c:Gl X "int")(d:X.mg "int"=none)(f:starEach (e::es) X.env=(false,eval e X.env)::starEach es X.env)(a:(backTo pos (starEach es X.env)).any (·.1)=false)(h:ng X κ Φ (e::es) as):bo X κ Φ (.Call (.Name "int" p) (e::es) [] pos) (mN eN as):=
 eK sU c d boot_int (by decide) (by decide) f a h λk l m Z o H Q S r g=>by
  unfold eN at g;split at g
  .rename_i z
   obtain⟨u,rfl,b⟩:=dy r;simp only[au]at b;subst b;split at g
   .rename_i n i
    split at g
    .rename_i j
     exact⟨z,n,rfl,i,j,bK.ret S (aG rfl) g⟩
    .exact g.elim
   .exact g.elim
  .exact g.elim
theorem vy(c:Gl X "str")(d:X.mg "str"=none)(f:starEach (e::es) X.env=(false,eval e X.env)::starEach es X.env)(a:(backTo pos (starEach es X.env)).any (·.1)=false)(h:ng X κ Φ (e::es) as):bo X κ Φ (.Call (.Name "str" p) (e::es) [] pos) (mN kJ as):=
 eK sV c d boot_str (by decide) (by decide) f a h λk l m Z n H Q S r g=>by
  unfold kJ at g;split at g
  .rename_i i
   obtain⟨u,rfl,b⟩:=dy r;simp only[au]at b;subst b;split at g
   .rename_i j
    exact⟨i,rfl,j,bK.ret S (aG rfl) g⟩
   .exact g.elim
  .exact g.elim
end
end Mir
namespace Mir
open PySem PySem.Spec PyProof.Rows L2
def Ms(v:V)(H:Hp)(Q:VK):Prop:=(∃x,v=.str x/\Q (.bl false) H)\/(∃i,v=.int i/\Q (.bl false) H)\/(∃a b,v=.ref a/\Rd H a (.lst b)/\Q (.bl true) H)\/(∃a b,v=.ref a/\Rd H a (.tup b)/\Q (.bl true) H)
section
variable{X:Cx}{a:Expr}{ta:TE}{p p1 p2 r pos:Pos}{x1:Nat}
theorem h_:typeOf (.type "list")=pure (.type "type")/\typeOf (.type "tuple")=pure (.type "type"):=⟨by kernel_rfl,by kernel_rfl⟩
theorem yF{x:Str}{u:Tok}:AnswersAll (λs=>s.TypeIs (.str x u) "str") (.str x u) [.type "list",.type "tuple"] [false,false]:=.cons (.of_false_str (by decide) h_.1 (by kernel_rfl)) (.cons (.of_false_str (by decide) h_.2 (by kernel_rfl)) .nil)
theorem yG{x:Int}{u:Tok}:AnswersAll (λs=>s.TypeIs (.int x u) "int") (.int x u) [.type "list",.type "tuple"] [false,false]:=.cons (.of_false_int (by decide) h_.1 (by kernel_rfl)) (.cons (.of_false_int (by decide) h_.2 (by kernel_rfl)) .nil)
theorem yH{a:Addr}:AnswersAll (λs=>s.TypeIs (.ref a) "list") (.ref a) [.type "list",.type "tuple"] [true,false]:=.cons (.of_true h_.1 (by kernel_rfl)) (.cons (.of_false_list (by decide) h_.2 (by kernel_rfl)) .nil)
theorem yI{a:Addr}:AnswersAll (λs=>s.TypeIs (.ref a) "tuple") (.ref a) [.type "list",.type "tuple"] [false,true]:=.cons (.of_false_tuple (by decide) h_.1 (by kernel_rfl)) (.cons (.of_true h_.2 (by kernel_rfl)) .nil)
theorem yJ(B:Gl X "isinstance")(C:X.mg "isinstance"=none)(D:Gl X "list")(k:X.mg "list"=none)(E:Gl X "tuple")(l:X.mg "tuple"=none)(A:starEach [a,.Tuple [.Name "list" p1,.Name "tuple" p2] x1 r] X.env=(false,eval a X.env)::starEach [.Tuple [.Name "list" p1,.Name "tuple" p2] x1 r] X.env)(F:PE X a ta) :
  PE X (.Call (.Name "isinstance" p) [a,.Tuple [.Name "list" p1,.Name "tuple" p2] x1 r] [] pos) (λg H Q=>ta g H λv c=>Ms v c Q):=by
 intro pins s g H Q I h;refine wpAny_Call_Name_kw (ft I B C boot_isinstance ?_ (by decide) (by decide))
 refine PyProof.Rows.callWith_builtin1 ?_ A rfl;rw[A]
 show wpAny _ _ (spliced ((false,eval a X.env)::[(false,eval (.Tuple [.Name "list" p1,.Name "tuple" p2] x1 r) X.env)])) _ _ s
 refine Calls.spliced_cons (cf (F pins s g H _ I h) λu s1 ⟨v,c,m,j,q⟩=>?_)
 refine Calls.spliced_cons (wpAny_Tuple_spliced (x1:=x1) (Calls.spliced_cons (ft (pos:=p1) m D k boot_list (Calls.spliced_cons (ft (pos:=p2) m E l boot_tuple (Calls.spliced_nil ⟨by rw[sizeLine_eq];simp,Calls.spliced_nil ?_⟩) (by decide) (by decide))) (by decide) (by decide))))
 have e:Inv X pins g c {s1 with heap:=s1.heap.push {cls:=.type "tuple",data:=.seq [Value.type "list",Value.type "tuple"].toArray} }:=m.kept (t':=s1.toks) λb o z=>Heap.get?_push_of_some _ z
 rcases q with ⟨x,rfl,q⟩|⟨i,rfl,q⟩|⟨b,G,rfl,n,q⟩|⟨b,G,rfl,n,q⟩
 .obtain⟨t,rfl⟩:=j
  exact call_isinstance (isinstance_tuple yF) ⟨typeIs_str _ _ _,Heap.get?_push_size _ rfl,λd=>⟨.bl false,c,e.tok d,rfl,q⟩⟩
 .obtain⟨t,rfl⟩:=j
  exact call_isinstance (isinstance_tuple yG) ⟨typeIs_int _ _ _,Heap.get?_push_size _ rfl,λd=>⟨.bl false,c,e.tok d,rfl,q⟩⟩
 .cases j
  obtain⟨f,J,w,L⟩:=e.list (ll (K:=X.K) n);exact call_isinstance (isinstance_tuple yH) ⟨w.isList.typeIs,Heap.get?_push_size _ rfl,λd=>⟨.bl true,c,e.tok d,rfl,q⟩⟩
 .cases j
  obtain⟨f,J,w,L⟩:=e.tuple (oq (K:=X.K) n);have y:Heap.IsTuple (s1.heap.push {cls:=.type "tuple",data:=.seq [Value.type "list",Value.type "tuple"].toArray}) b f.toArray:=w;exact call_isinstance (isinstance_tuple yI) ⟨y.typeIs,Heap.get?_push_size _ rfl,λd=>⟨.bl true,c,e.tok d,rfl,q⟩⟩
end
variable [aU]
def isLT(x:D)(Ω:aE):aq D:=match x with
 |.str _=>.ok (.bl false) Ω
 |.int _=>.ok (.bl false) Ω
 |.tup _=>.ok (.bl true) Ω
 |x=>match cI Ω x with
  |some _=>.ok (.bl true) Ω
  |none=>.bad
section
variable{X:Cx}{κ:Str->Addr->Prop}{Φ:dE}{a:Expr}{ma:EM}{p p1 p2 r pos:Pos}{x1:Nat}
theorem vz(h:Gl X "isinstance")(i:X.mg "isinstance"=none)(j:Gl X "list")(c:X.mg "list"=none)(k:Gl X "tuple")(d:X.mg "tuple"=none)(l:starEach [a,.Tuple [.Name "list" p1,.Name "tuple" p2] x1 r] X.env=(false,eval a X.env)::starEach [.Tuple [.Name "list" p1,.Name "tuple" p2] x1 r] X.env)(m:bo X κ Φ a ma) :
  bo X κ Φ (.Call (.Name "isinstance" p) [a,.Tuple [.Name "list" p1,.Name "tuple" p2] x1 r] [] pos) (m1 isLT ma):=
 fL (λs n=>yJ h i j c k d l n) m λt x u Z w H Q S b g=>by
  unfold isLT at g;split at g
  .rename_i z
   simp only[au]at b;exact .inl ⟨z,b,bK.ret S (aG rfl) g⟩
  .rename_i z
   simp only[au]at b;exact .inr (.inl ⟨z,b,bK.ret S (aG rfl) g⟩)
  .obtain⟨a,e,rfl,_,f,o⟩:=di b
   exact .inr (.inr (.inr ⟨a,e,rfl,.inl f,bK.ret S (aG rfl) g⟩))
  .split at g
   .rename_i y q
    obtain⟨a,e,rfl,f,o⟩:=bJ S b q;exact .inr (.inr (.inl ⟨a,e,rfl,f,bK.ret S (aG rfl) g⟩))
   .exact g.elim
end
noncomputable def nI(Ω:aE)(x:D):Bool:=match x with
 |.ref k=>match Ω[k]? with
  |some (.dK _)=>true
  |_=>false
 |_=>false
section
variable{κ:Str->Addr->Prop}{Φ:dE}{α:List Addr}{Z:Addr->Prop}{Ω:aE}{H:Hp}{Q:VK}
theorem yK{x:D}{v:V}{K:PySem.W.Frag}(S:bI κ α Z Ω H)(r:au α Z H x v)(h:nI Ω x=true):CH K "dict" v H:=by
 unfold nI at h;split at h
 .rename_i k
  simp only[au]at r;obtain⟨a,d,rfl⟩:=r;split at h
  .rename_i e f
   obtain⟨i,b,c,g,j⟩:=S.cell f;rw[d]at b;cases b
   exact .inr (.inr (.inl ⟨rfl,.inl ⟨_,g⟩⟩))
  .cases h
 .cases h
end
def qW(x y z:Str)(i j k:Int):List (Key×D):=oX (oX (oX [] (.inr x) (.int i)) (.inr y) (.int j)) (.inr z) (.int k)
def ek(x y z:Str)(i j k:Int):EM:=λ_ a=>fk a (.dK (qW x y z i j k))
theorem Mt{R:D->V->Prop}(h:∀n:Int,R (.int n) (.int n))(x y z:Str)(i j k:Int):jn R (qW x y z i j k) (putK (putK (putK [] (Sum.inr x:Key) (V.int i)) (Sum.inr y) (V.int j)) (Sum.inr z) (V.int k)):=
 ((jn.put (kvs:=[]) (kvs':=[]) .nil (Sum.inr x) (h i)).put (Sum.inr y) (h j)).put (Sum.inr z) (h k)
theorem pq{X:Cx}{κ:Str->Addr->Prop}{Φ:dE}{pos l m q r s t:Pos}{w A B C D E:Nat}{x y z:Str}{i j k:Int}:bo X κ Φ (.Dict [some (.Constant (.str x) w l),some (.Constant (.str y) A m),some (.Constant (.str z) B q)] [.Constant (.int i) C r,.Constant (.int j) D s,.Constant (.int k) E t] pos) (ek x y z i j k):=by
 intro F M N O a;refine PE.imp (xu (iV gT kQ (iV gT kQ (iV gT kQ xr))) rfl rfl (by simp) (by simp)) ?_
 rintro P H Q ⟨d,Z,S,g⟩ p G;obtain⟨I,J⟩:=S.st.laid (p:=p) (o:=.dK []) (c:=.dK []) G λR f=>⟨[],bc,.nil⟩
 have h:au (d++[p]) Z (upd H p (.dK [])) (.ref a.length) (.ref p):=gp S.st p;unfold ek fk at g;refine⟨bc,[(.inr x,.int i),(.inr y,.int j),(.inr z,.int k)],rfl,by simp,?_⟩
 have b:(d++[p])[a.length]?=some p:=by
  simp only[au]at h;obtain⟨c,b,K⟩:=h;cases K;exact b
 obtain⟨s4,L⟩:=I.put (o:=.dK (putK (putK (putK [] (.inr x) (.int i)) (.inr y) (.int j)) (.inr z) (.int k))) (c:=.dK (qW x y z i j k)) b (λo u z=>by rw[bc]at z;cases z) λR f=>⟨_,bc,Mt (λn=>f _ _ (aG rfl)) x y z i j k⟩
 have e:(a++[Cell.dK []]).set a.length (.dK (qW x y z i j k))=a++[.dK (qW x y z i j k)]:=by simp
 rw[e]at s4;refine g _ _ _ _ (J.trans L) s4 ?_;simp only[au];exact⟨p,b,rfl⟩
noncomputable def lM:List (Option Expr)->List Expr->Option (Str×Str×Str×Int×Int×Int)
 |[some (.Constant (.str x) _ _),some (.Constant (.str y) _ _),some (.Constant (.str z) _ _)],[.Constant (.int i) _ _,.Constant (.int j) _ _,.Constant (.int k) _ _]=>some (x,y,z,i,j,k)
 |_,_=>none
theorem pv{a:List (Option Expr)}{b:List Expr}{x y z:Str}{i j k:Int}(h:lM a b=some (x,y,z,i,j,k)):∃c d e f g l m n o p q r,a=[some (.Constant (.str x) c d),some (.Constant (.str y) e f),some (.Constant (.str z) g l)]/\b=[.Constant (.int i) m n,.Constant (.int j) o p,.Constant (.int k) q r]:=by
 unfold lM at h;split at h
 .cases h;exact⟨_,_,_,_,_,_,_,_,_,_,_,_,rfl,rfl⟩
 .cases h
def Ad:V->List V->Hp->VK->Prop:=λx c H Q=>∃a b k,x=.ref a/\c=[kV k]/\H a=some (.dK b)/\Q ((iU b k).getD .non) H
theorem yL{X:Cx}(j:X.A.units+64<cLine):wO X "dict.get" Ad:=by
 intro pins s l H x m v n Q I b c h;obtain⟨a,d,k,rfl,rfl,e,q⟩:=h;cases b;obtain⟨u,rfl,f⟩:=c.one;exact Bc (by omega) I (xq.k e) f λo p g i=>⟨_,_,g,i,q⟩
def jA(x:D)(xs:List D)(Ω:aE):aq D:=match x,xs with
 |.ref k,[y]=>match Ω[k]?,xV y with
  |some (.dK a),some b=>.ok ((jr a b).getD .non) Ω
  |_,_=>.bad
 |_,_=>.bad
section
variable{κ:Str->Addr->Prop}{Φ:dE}{α:List Addr}{Z:Addr->Prop}{Ω:aE}{H:Hp}{Q:VK}
theorem yM{x:D}{v:V}{xs:List D}{h:List V}(S:bI κ α Z Ω H)(r:au α Z H x v)(l:aL (au α Z H) xs h)(g:bK κ Φ α Z H (jA x xs Ω) Q):Ad v h H Q:=by
 unfold jA at g;split at g
 .rename_i k y
  simp only[au]at r;obtain⟨a,m,rfl⟩:=r;obtain⟨w,rfl,n⟩:=dy l;split at g
  .rename_i f e o p
   obtain rfl:=nk p n;obtain⟨z,b,c,q,i⟩:=S.cell o;rw[m]at b;cases b
   refine⟨a,c,e,rfl,rfl,q,bK.ret S ?_ g⟩;cases j:jr f e with
   |some d=>
    obtain⟨u,s,t⟩:=(i.val e).1 d j;rw[s];exact t
   |none=>
    rw[(i.val e).2 j];exact aG rfl
  .exact g.elim
 .exact g.elim
end
noncomputable def ab(i:Nat):EM:=λa b=>match a[i]? with|some (some d)=>.ok d b|_=>.bad
noncomputable def ae(d:D):EM:=λ_ a=>.ok d a
noncomputable def o2{α c d:Type}(x:Option α)(y:Option c)(k:α->c->d):Option d:=match x,y with
 |some a,some b=>some (k a b)
 |_,_=>none
theorem bG{α c d:Type}{x:Option α}{y:Option c}{k:α->c->d}{z:d}(h:o2 x y k=some z):∃a b,x=some a/\y=some b/\z=k a b:=by
 unfold o2 at h;split at h
 .cases h;exact⟨_,_,rfl,rfl,rfl⟩
 .cases h
theorem cy{α b:Type}{x:Option α}{k:α->b}{z:b}(h:x.map k=some z):∃a,x=some a/\z=k a:=by
 cases x with
 |none=>cases h
 |some a=>cases h;exact⟨a,rfl,rfl⟩
structure bb where
 mB:List (Str×(List D->Out Rs)):=[]
 fn:List (Str×c9):=[]
 cst:List (Str×D):=[]
 met:List (Str×Str×c9):=[]
 cls:List (Str×c9):=[]
 fld:List (Str×List Str):=[]
 clo:List (List D->c9):=[]
 fz:List Str:=[]
 xt:Bool:=false
def lN(T:bb)(a:Scope)(N:List Str)(x:Str):Option EM:=
 match ky a N x with
 |some i=>some (ab i)
 |none=>if ot a x&&okN x then (T.cst.lookup x).map ae else none
def jB:Const->Option EM
 |.none=>some (ae .non)
 |.bool b=>some (ae (.bl b))
 |.int i=>some (ae (.int i))
 |.str x=>some (ae (.str x))
 |_=>none
def cK(f:Expr->Option EM):List Expr->Option AM
 |[]=>some ag
 |e::es=>o2 (f e) (cK f es) aa
def Mu(op:BoolOp)(a b:EM):EM:=match op with
 |.And=>bV a b
 |.Or=>fY a b
def gy(f:Expr->Option EM)(op:BoolOp):List Expr->Option EM
 |[]=>none
 |[a]=>f a
 |a::b::r=>o2 (f a) (gy f op (b::r)) (Mu op)
def pw(f:Expr->Option EM):Option Expr->Option (Bool×EM)
 |none=>some (true,ae .non)
 |some e=>(f e).map λm=>(false,m)
inductive BM where
 |append|join
noncomputable def BM.nm:BM->Str
 |.append=>"append" |.join=>"join"
noncomputable def BM.ar:BM->Nat
 |.append=>1|.join=>1
def BM.ty:BM->aE->D->Bool
 |.join=>cp
 |_=>sF
def BM.f:BM->D->List D->aE->aq D
 |.append=>cx|.join=>kD
def BN(m:Str)(n:Nat):Option BM:=[BM.append,.join].find? λb=>b.nm==m&&b.ar==n
def qX(T:bb)(m:Str)(n:Nat)(a:EM)(as:AM):Option EM:=(BN m n).map λb=>bx b.ty b.f a as
def DZ(m:Str)(n:Nat):Option ((aE->D->Bool)×(D->List D->aE->aq D)):=if n==1 then
 (if m==("split":Str)then some (cp,bM)else if m==("count":Str)then some (cp,sJ λz y=>.int (dQ z y))else if m==("find":Str)then some (cp,sJ λz y=>.int (cZ z y))else if m==("startswith":Str)then some (cp,sJ λz y=>.bl (kd z y))else if m==("get":Str)then some (nI,jA)else if m==("join":Str)then some (cp,dM)else none)else none
def iC(T:bb)(m:Str)(n:Nat)(a:EM)(as:AM):Option EM:=match DZ m n with
 |some b=>some (bx b.1 b.2 a as)
 |none=>qX T m n a as
noncomputable def g_:Expr->Bool
 |.Name .. |.Attribute .. |.Constant (.str _) .. |.Subscript .. |.Call (.Attribute ..) .. |.Dict ..=>true
 |_=>false
def pz(x:Str):Option i_:=[i_.len,i_.all,i_.list,i_.tuple,i_.int].find? (λb=>b.nm==x)
theorem yN{x:Str}{b:i_}(h:pz x=some b):x=b.nm/\b∈[i_.len,i_.all,i_.list,i_.tuple,i_.int]/\b.nm∈dC:=by
 unfold pz at h;have c:=List.find?_some h;have a:=List.mem_of_find?_eq_some h;refine⟨(eq_of_beq c).symm,a,?_⟩;cases b<;>first | (simp at a;done)|decide
noncomputable def BO:List Expr->Bool
 |[.Compare ..]=>true
 |_=>false
def lO(T:bb)(c:Scope)(f:Expr->Option EM)(x:Str)(args:List Expr):Option EM:=
 if ot c x&&okN x then
  match T.fn.lookup x,T.mB.lookup x,pz x with
  |some F,_,_=>(cK f args).map (mN (aB F))
  |none,some F,_=>if args.isEmpty then none else (cK f args).map (mN (bS F))
  |none,none,some b=>if args.isEmpty then none else (cK f args).map λa=>if b.nm==("int":Str)&&!BO args then eH (mN (aH b) a) (mN eN a)else mN (aH b) a
  |none,none,none=>(if x==("str":Str)then (if args.isEmpty then none else (cK f args).map (mN kJ))else none)
 else none
def iD(T:bb)(a:Scope)(N:List Str)(f:Expr->Option EM)(x:Str)(args:List Expr):Option EM:=match ky a N x with
 |some _=>none
 |none=>lO T a f x args
def vA(b:Scope):List Expr->Option (Expr×Ty×Pos)
 |[a,.Name t p]=>match uM t with
  |some ty=>if ot b t then some (a,ty,p)else none
  |none=>none
 |_=>none
theorem sW{d:Scope}{args:List Expr}{a:Expr}{b:Ty}{p:Pos}(h:vA d args=some (a,b,p)):args=[a,.Name b.nm p]/\ot d b.nm=true/\b.nm∈dC:=by
 unfold vA at h;split at h
 .split at h
  .rename_i e c
   split at h
   .rename_i f
    cases h;obtain⟨rfl,m⟩:=DH c;exact⟨rfl,f,m⟩
   .cases h
  .cases h
 .cases h
def pA(b:Scope):List Expr->Option (Expr×Pos×Pos×Nat×Pos)
 |[a,.Tuple [.Name l p1,.Name t p2] j r]=>if l==("list":Str)&&t==("tuple":Str)&&ot b l&&ot b t then some (a,p1,p2,j,r)else none
 |_=>none
theorem pB{b:Scope}{args:List Expr}{a:Expr}{c d r:Pos}{j:Nat}(h:pA b args=some (a,c,d,j,r)):args=[a,.Tuple [.Name "list" c,.Name "tuple" d] j r]/\ot b "list"=true/\ot b "tuple"=true:=by
 unfold pA at h;split at h
 .split at h
  .rename_i e
   simp only[Bool.and_eq_true,beq_iff_eq]at e;obtain⟨⟨⟨rfl,rfl⟩,f⟩,g⟩:=e;cases h;exact⟨rfl,f,g⟩
  .cases h
 .cases h
def nJ(b:Scope)(f:Expr->Option EM)(x:Str)(args:List Expr):Option EM:=if x==("isinstance":Str)&&ot b x then match vA b args with
 |some (a,c,_)=>(f a).map (m1 (cA c))
 |none=>(match pA b args with
  |some (a,_,_,_,_)=>(f a).map (m1 isLT)
  |none=>none)else none
def ia(f:Expr->Option EM)(b:Scope)(iter:Expr):Option IM:=match iter with
 |.Call (.Name g _) args [] _=>if g==("range":Str)then (if ot b g then (match args with
   |[a]=>(cK f [a]).map dd
   |_=>none)else none)else (f iter).map cJ
 |_=>(f iter).map cJ
def qY(f:Expr->Option EM):List Expr->Option (Bool×EM)
 |[]=>some (true,ae .non)
 |[c]=>(f c).map λm=>(false,m)
 |_=>none
noncomputable def er:List Comprehension->Option (Str×Str×Expr×Expr)
 |[⟨.Tuple [.Name x _,.Name y _] _ _,.Call (.Name g _) [a,b] [] _,[],0⟩]=>if g==("zip":Str)then some (x,y,a,b)else none
 |_=>none
theorem pC{c:List Comprehension}{x y:Str}{a b:Expr}(h:er c=some (x,y,a,b)):∃d e j f g i,c=[⟨.Tuple [.Name x d,.Name y e] j f,.Call (.Name "zip" g) [a,b] [] i,[],0⟩]:=by
 unfold er at h;split at h
 .split at h
  .rename_i k
   obtain rfl:=eq_of_beq k;cases h;exact⟨_,_,_,_,_,_,rfl⟩
  .cases h
 .cases h
def qZ(scope:Scope)(a:Scope)(x y:Str):Bool:=oW scope a x&&scope.names.lookup y==some .local&&decide ((x::y::bP scope).Nodup)
def lP:Expr->Bool
 |.ListComp _ gens _ _=>(er gens).isSome
 |_=>false
def ck(T:bb):Nat->Scope->List Str->Expr->Option EM
 |0,_,_,_=>none
 |n+1,sc,N,e=>match e with
  |.Name x _=>lN T sc N x
  |.Constant c _ _=>jB c
  |.BinOp a d b _=>o2 (ck T n sc N a) (ck T n sc N b) (m2 (Ig a d b))
  |.UnaryOp .USub a _=>(ck T n sc N a).map (m1 xT)
  |.UnaryOp .Not a _=>(ck T n sc N a).map dP
  |.BoolOp d (a::b::r) _=>gy (ck T n sc N) d (a::b::r)
  |.Compare a [d] [b] _=>if isSet b then none else o2 (ck T n sc N a) (ck T n sc N b) (m2 (aw d))
  |.Compare a [d,f] [b,c] _=>if isSet c then none else o2 (ck T n sc N a) (o2 (ck T n sc N b) (ck T n sc N c) Prod.mk) λx y=>fm d f x y.1 y.2
  |.IfExp t a b _=>o2 (ck T n sc N t) (o2 (ck T n sc N a) (ck T n sc N b) Prod.mk) λx y=>ou x y.1 y.2
  |.Subscript a (.Slice lo hi none _) _=>o2 (ck T n sc N a) (o2 (pw (ck T n sc N) lo) (pw (ck T n sc N) hi) Prod.mk) λx y=>bL x y.1.1 y.1.2 y.2.1 y.2.2
  |.Subscript a b _=>if isSlice b then none else o2 (ck T n sc N a) (ck T n sc N b) (m2 aA)
  |.List es _=>(cK (ck T n sc N) es).map (mN b9)
  |.Tuple es _ _=>(cK (ck T n sc N) es).map (mN eJ)
  |.Call (.Name x _) args [] _=>match nJ sc (ck T n sc N) x args with
   |some m=>some m
   |none=>iD T sc N (ck T n sc N) x args
  |.Call (.Attribute o m p1) args [] p2=>if p1.endLine==p2.line&&g_ o&&decide (args.length<20)then (match ck T n sc N o,cK (ck T n sc N) args with
   |some mo,some as=>iC T m args.length mo as
   |_,_=>none)else none
  |.JoinedStr (a::b::r) _=>(jz (ck T n sc N) (a::b::r)).map (jO · Str.empty)
  |.ListComp elt gens scope _=>match gm gens with
   |some (x,_,iter,ifs)=>if oW scope sc x&&!isSet iter then (match jk sc N (bP scope),ia (ck T n sc N) sc iter,ck T n (il scope sc) (x::bP scope) elt,qY (ck T n (il scope sc) (x::bP scope)) ifs with
    |some cap,some mi,some me,some (nc,mc)=>some (cg me nc mc mi 0 cap)
    |_,_,_,_=>none)else none
   |none=>(match er gens with
    |some (x,y,a,b)=>if qZ scope sc x y&&ot sc ("zip":Str)then (match jk sc N (bP scope),cK (ck T n sc N) [a,b],ck T n (il scope sc) (x::y::bP scope) elt with
     |some cap,some as,some me=>some (cg me true (ae .non) (sP as) 2 cap)
     |_,_,_=>none)else none
    |none=>none)
  |.Dict ks g _=>(match lM ks g with
   |some (x,y,z,i,j,k)=>some (ek x y z i j k)
   |none=>none)
  |_=>none
structure GoodO(X:Cx)(κ:Str->Addr->Prop)(T:bb)(k:Nat)(sc:Scope)(N:List Str):Prop where
 scope:X.env.scope=sc
 names:X.N=N
 calm:X.calm=true
 room:dW k X.A
 eu:∀x∈dC,X.mg x=none
 mB:∀x F,T.mB.lookup x=some F->DE X k x F
 fn:∀x F,T.fn.lookup x=some F->vm X κ k x F
 cst:∀x d,T.cst.lookup x=some d->∃v u,X.mg x=some u/\RelV v u/\ei d=some v
 met:∀m C F,(m,C,F)∈T.met->DS X κ k C m F
 cls:∀C F,T.cls.lookup C=some F->∃j,j+1<=k/\DT X κ j C F
 fld:∀f Cs,T.fld.lookup f=some Cs->vo X.K κ Cs f
 clo:∀j F,T.clo[j]?=some F->nF X.prog X.w X.K X.mg X.base κ k j F
theorem GoodO.gl{X:Cx}{κ:Str->Addr->Prop}{T:bb}{k:Nat}{a:Scope}{N:List Str}{x:Str}(G:GoodO X κ T k a N)(h:ot a x=true):Gl X x:=by
 unfold ot at h;have e:=eq_of_beq h
 show X.env.scope.names.lookup x=some .globalImplicit
 rw[G.scope];exact e
theorem GoodO.hu{X:Cx}{κ:Str->Addr->Prop}{T:bb}{k:Nat}{a:Scope}{N:List Str}(G:GoodO X κ T k a N):X.A.units+64<cLine:=G.room.units
theorem GoodO.blk{X:Cx}{κ:Str->Addr->Prop}{T:bb}{k:Nat}{c:Scope}{N:List Str}(G:GoodO X κ T k c N)(scope:Scope)(e:List (Str×Addr))(C:Addr)(d:List Str)(a:Shared)(b:Hp)(f:List Addr):GoodO (blk X scope e C d a b f) κ T k (il scope c) d where
 scope:=by rw[←G.scope];rfl
 names:=rfl
 calm:=G.calm
 room:=G.room
 eu:=G.eu
 mB:=λx F h=>⟨(G.mB x F h).ex⟩
 fn:=λx F h=>⟨(G.fn x F h).ex⟩
 cst:=G.cst
 met:=λm C F h=>⟨(G.met m C F h).ex⟩
 cls:=λC F h=>let ⟨j,g,i⟩:=G.cls C F h;⟨j,g,⟨i.ex⟩⟩
 fld:=G.fld
 clo:=G.clo
def iE(X:Cx)(κ:Str->Addr->Prop)(e:Expr)(m:EM):Prop:=(∀a,bo X κ a e m)/\(∀a,fK X κ a e m)/\isStar e=false
section
variable{X:Cx}{κ:Str->Addr->Prop}{T:bb}{k:Nat}{sc:Scope}{N:List Str}{f:Expr->Option EM}
theorem bD{e:Expr}{m:EM}(h:∀Φ,bo X κ Φ e m)(b:isStar e=false)(c:∀a,isTrue e X.env a=(do let v ←a;standAt e.pos;holding [v] (truthy v))):iE X κ e m:=⟨h,λΦ=>x_ (h Φ) c,b⟩
theorem cv(a:∀e m,f e=some m->iE X κ e m):∀{es:List Expr}{as:AM},cK f es=some as->(∀Φ,ng X κ Φ es as)/\(∀e∈es,isStar e=false)
 |[],as,h=>by cases h;exact⟨λΦ=>qI,λe c=>absurd c (by simp)⟩
 |e::es,as,h=>by
  obtain⟨m,d,h1,h2,rfl⟩:=bG h;obtain⟨g,_,b⟩:=a e m h1;obtain⟨i,j⟩:=cv a h2;refine⟨λΦ=>nj (g Φ) (i Φ) (bu b),λz hz=>?_⟩
  rcases List.mem_cons.mp hz with rfl|hz
  .exact b
  .exact j z hz
theorem vB(G:GoodO X κ T k sc N){x:Str}{pos:Pos}{m:EM}(h:lN T sc N x=some m):iE X κ (.Name x pos) m:=by
 unfold lN at h;split at h
 .rename_i i q
  cases h;obtain⟨c,e,a,f⟩:=qB q;exact bD (λg=>xP (by rw[G.names];exact c) (by rw[G.scope];exact e) a f) rfl (λ_=>rfl)
 .split at h
  .rename_i b
   simp only[Bool.and_eq_true]at b;obtain⟨d,a,rfl⟩:=cy h;obtain⟨v,u,j,l,n⟩:=G.cst x d a;obtain⟨o,p,r⟩:=qC b.2;exact bD (λg=>e_ (wW (G.gl b.1) j l o) n) rfl (λ_=>rfl)
  .cases h
theorem sX{q:Const}{j:Nat}{pos:Pos}{m:EM}(h:jB q=some m):iE X κ (.Constant q j pos) m:=by
 cases q<;>simp only[jB]at h<;>cases h
 .exact bD (λa=>e_ Ay rfl) rfl (λ_=>rfl)
 .exact bD (λa=>e_ CU rfl) rfl (λ_=>rfl)
 .exact bD (λa=>e_ kQ rfl) rfl (λ_=>rfl)
 .exact bD (λa=>e_ gT rfl) rfl (λ_=>rfl)
theorem nK{op:BoolOp}{pos:Pos}(c:∀e m,f e=some m->iE X κ e m):∀{es:List Expr}{m:EM},gy f op es=some m->(∀Φ,bo X κ Φ (.BoolOp op es pos) m)/\(∀Φ,zX X κ Φ (.BoolOp op es pos) m)
 |[],m,h=>by cases h
 |[a],m,h=>by
  obtain⟨p1,p2,p3⟩:=c a m h;exact⟨λΦ=>sv (p1 Φ),λΦ=>yd (p2 Φ)⟩
 |a::b::r,m,h=>by
  simp only[gy]at h;obtain⟨i,l,j,k,rfl⟩:=bG h;obtain⟨p1,p2,p3⟩:=c a i j;obtain⟨d,g⟩:=nK c k;cases op with
  |And=>exact⟨λΦ=>ya (p1 Φ) (d Φ),λΦ=>ye (p2 Φ) (g Φ)⟩
  |Or=>exact⟨λΦ=>Bq (p1 Φ) (d Φ),λΦ=>Br (p2 Φ) (g Φ)⟩
theorem nL(b:∀e m,f e=some m->iE X κ e m){o:Option Expr}{n:Bool}{m:EM}{Φ:dE}(h:pw f o=some (n,m)):Ge X κ Φ o n m:=by
 cases o with
 |none=>cases h;exact .inl ⟨rfl,rfl⟩
 |some e=>
  obtain⟨a,c,d⟩:=cy h;cases d;exact .inr ⟨e,rfl,rfl,(b e m c).1 Φ⟩
theorem yO{m:Str}{n:Nat}{b:BM}(h:BN m n=some b):m=b.nm/\n=b.ar:=by
 have:=List.find?_some h;simp only[Bool.and_eq_true,beq_iff_eq]at this;exact⟨this.1.symm,this.2.symm⟩
theorem el{o:Expr}{n:Str}{env:Env}(h:g_ o=true):attributeBase o n env (eval o env)=eval o env:=by
 cases o with
 |Call f a b p=>cases f<;>first|rfl | (cases h)
 |_=>first|rfl | (cases h)
theorem D8(B:X.A.units+64<cLine)(b:BM){o:Expr}{es:List Expr}{j:EM}{as:AM}{k l:Pos}{Φ:dE}(n:g_ o=true)(p:(k.endLine==l.line)=true)(q:es.length=b.ar)(s:bo X κ Φ o j)(u:cK f es=some as)(w:∀e m,f e=some m->iE X κ e m) :
  bo X κ Φ (.Call (.Attribute o b.nm k) es [] l) (bx b.ty b.f j as):=by
 obtain⟨a,t⟩:=cv w u;have a:=a Φ;cases b with
 |append=>
  match es,q with
  |[e],_=>exact fG PySem.F.plainAttrs_list PySem.F.slot_list_append PySem.F.type_list_append kq (λx v c Z d H S r h=>By S r h) (λx v y z c Z d H Q S r i g=>sG S r i g) (el n) p s a t (by simp)
 |join=>
  match es,q with
  |[e],_=>exact fG PySem.F.plainAttrs_str PySem.F.slot_str_join PySem.F.type_str_join qA (λx v c Z d H S r h=>fb S r h) (λx v y z c Z d H Q S r i g=>qQ S r i g) (el n) p s a t (by simp)
theorem vC(G:GoodO X κ T k sc N){o:Expr}{m:Str}{es:List Expr}{a:EM}{as:AM}{c d:Pos}{Φ:dE}{x:EM}(j:g_ o=true)(l:(c.endLine==d.line)=true)(i:es.length<20)(n:bo X κ Φ o a)(p:cK f es=some as)(q:∀e m,f e=some m->iE X κ e m)
  (h:qX T m es.length a as=some x):bo X κ Φ (.Call (.Attribute o m c) es [] d) x:=by
 have one:∀b,BN m es.length=some b->bo X κ Φ (.Call (.Attribute o m c) es [] d) (bx b.ty b.f a as):=λb g=>by
  obtain⟨rfl,r⟩:=yO g;exact D8 G.hu b j l r n p q
 obtain⟨b,s,rfl⟩:=cy h;exact one b s
theorem vD(G:GoodO X κ T k sc N){o:Expr}{m:Str}{es:List Expr}{y:EM}{as:AM}{z A:Pos}{Φ:dE}{x:EM}(n:g_ o=true)(p:(z.endLine==A.line)=true)(t:es.length<20)(q:bo X κ Φ o y)(B:cK f es=some as)(C:∀e m,f e=some m->iE X κ e m)
  (h:iC T m es.length y as=some x):bo X κ Φ (.Call (.Attribute o m z) es [] A) x:=by
 unfold iC at h;split at h
 .rename_i b a
  cases h;unfold DZ at a;split at a
  .rename_i D
   obtain⟨l,s⟩:=cv C B;have l:=l Φ
   match es,D with
   |[e],_=>
    split at a
    .rename_i c;obtain rfl:=eq_of_beq c;cases a
     exact fG PySem.F.plainAttrs_str PySem.F.slot_str_split PySem.F.type_str_split nt (λx v d Z i H S r h=>fb S r h) (λx v u w d Z i H Q S r j g=>nv S r j g) (el n) p q l s (by simp)
    split at a
    .rename_i c;obtain rfl:=eq_of_beq c;cases a
     exact fG PySem.F.plainAttrs_str PySem.F.slot_str_count PySem.F.type_str_count uZ (λx v d Z i H S r h=>fb S r h) (λx v u w d Z i H Q S r j g=>va (λ_ _=>rfl) S r j g) (el n) p q l s (by simp)
    split at a
    .rename_i c;obtain rfl:=eq_of_beq c;cases a
     exact fG PySem.F.plainAttrs_str PySem.F.slot_str_find PySem.F.type_str_find yr (λx v d Z i H S r h=>fb S r h) (λx v u w d Z i H Q S r j g=>va (λ_ _=>rfl) S r j g) (el n) p q l s (by simp)
    split at a
    .rename_i c;obtain rfl:=eq_of_beq c;cases a
     exact fG PySem.F.plainAttrs_str PySem.F.slot_str_startswith PySem.F.type_str_startswith sH (λx v d Z i H S r h=>fb S r h) (λx v u w d Z i H Q S r j g=>va (λ_ _=>rfl) S r j g) (el n) p q l s (by simp)
    split at a
    .rename_i c;obtain rfl:=eq_of_beq c;cases a
     exact fG PySem.F.plainAttrs_dict PySem.F.slot_dict_get PySem.F.type_dict_get (yL G.hu) (λx v d Z i H S r h=>yK S r h) (λx v u w d Z i H Q S r j g=>yM S r j g) (el n) p q l s (by simp)
    split at a
    .rename_i c;obtain rfl:=eq_of_beq c;cases a
     exact fG PySem.F.plainAttrs_str PySem.F.slot_str_join PySem.F.type_str_join u_ (λx v d Z i H S r h=>fb S r h) (λx v u w d Z i H Q S r j g=>yt S r j g) (el n) p q l s (by simp)
    .cases a
  .cases a
 .exact vC G n p t q B C h
theorem vE(G:GoodO X κ T k sc N)(o:∀e m,f e=some m->iE X κ e m){x:Str}{args:List Expr}{m:EM}{p pos:Pos}(h:lO T sc f x args=some m):iE X κ (.Call (.Name x p) args [] pos) m:=by
 refine bD (λn=>?_) rfl (λ_=>rfl)
 unfold lO at h;split at h
 .rename_i s
  simp only[Bool.and_eq_true]at s;obtain⟨t,D,E⟩:=qC s.2;have l:=G.gl s.1;split at h
  .rename_i F q
   obtain⟨r,i,rfl⟩:=cy h;obtain⟨j,c⟩:=cv o i;cases args with
   |nil=>cases i;exact sS (G.fn x F q) G.room l t
   |cons a args=>exact vn (G.fn x F q) G.room l t (bu (c a (by simp))) (cH λz g=>c z (by simp[g])) (j n)
  .rename_i F _ q
   split at h
   .cases h
   .rename_i d
    obtain⟨r,i,rfl⟩:=cy h;obtain⟨j,c⟩:=cv o i;cases args with
    |nil=>exact absurd rfl d
    |cons a args=>exact sx (G.mB x F q) G.room l t (bu (c a (by simp))) (cH λz g=>c z (by simp[g])) (j n)
  .rename_i b _ _ y
   split at h
   .cases h
   .rename_i d
    obtain⟨r,i,rfl⟩:=cy h;obtain⟨j,c⟩:=cv o i;obtain⟨rfl,A,B⟩:=yN y;cases args with
    |nil=>exact absurd rfl d
    |cons a args=>
     have u:bo X κ n (.Call (.Name b.nm p) (a::args) [] pos) (mN (aH b) r):=yp G.calm A l (G.eu _ B) (bu (c a (by simp))) (cH λz g=>c z (by simp[g])) (j n)
     split
     .rename_i w
      refine u.alt ?_;simp only[Bool.and_eq_true]at w;rw[eq_of_beq w.1]at l ⊢;exact vx l (G.eu _ (by decide)) (bu (c a (by simp))) (cH λz g=>c z (by simp[g])) (j n)
     .exact u
  .split at h
   .rename_i C
    obtain rfl:=eq_of_beq C;split at h
    .cases h
    .rename_i d
     obtain⟨r,i,rfl⟩:=cy h;obtain⟨j,c⟩:=cv o i;cases args with
     |nil=>exact absurd rfl d
     |cons a args=>exact vy l (G.eu _ (by decide)) (bu (c a (by simp))) (cH λz g=>c z (by simp[g])) (j n)
   .cases h
 .cases h
theorem vF(G:GoodO X κ T k sc N)(b:∀e m,f e=some m->iE X κ e m){x:Str}{args:List Expr}{m:EM}{p pos:Pos}(h:iD T sc N f x args=some m):iE X κ (.Call (.Name x p) args [] pos) m:=by
 unfold iD at h;cases a:ky sc N x with
 |none=>rw[a]at h;exact vE G b h
 |some i=>
  rw[a]at h;cases h
theorem yP(G:GoodO X κ T k sc N)(q:∀e m,f e=some m->iE X κ e m){x:Str}{args:List Expr}{m:EM}{p pos:Pos}(h:nJ sc f x args=some m):iE X κ (.Call (.Name x p) args [] pos) m:=by
 unfold nJ at h;split at h
 .rename_i s
  simp only[Bool.and_eq_true,beq_iff_eq]at s;obtain⟨rfl,t⟩:=s;split at h
  .rename_i a w y b
   obtain⟨rfl,c,d⟩:=sW b;obtain⟨g,i,rfl⟩:=cy h;obtain⟨l,_,n⟩:=q a g i;exact bD (λo=>yq (G.gl t) (G.eu _ (by decide)) (G.gl c) (G.eu _ d) (bu n) (cH (es:=[Expr.Name w.nm y]) λz u=>by simp at u;subst u;rfl) (l o)) rfl (λ_=>rfl)
  .split at h
   .rename_i a A B j r b
    obtain⟨rfl,c,d⟩:=pB b;obtain⟨g,i,rfl⟩:=cy h;obtain⟨l,_,n⟩:=q a g i;exact bD (λo=>vz (G.gl t) (G.eu _ (by decide)) (G.gl c) (G.eu _ (by decide)) (G.gl d) (G.eu _ (by decide)) (bu n) (l o)) rfl (λ_=>rfl)
   .cases h
 .cases h
theorem vG(G:GoodO X κ T k sc N)(d:∀e m,f e=some m->iE X κ e m){iter:Expr}{mi:IM}(h:ia f sc iter=some mi):∀Φ b,vf X κ Φ b iter mi:=by
 intro Φ b
 have dflt:∀{mi},(f iter).map cJ=some mi->vf X κ Φ b iter mi:=λ{mi} h=>by
  obtain⟨m,c,rfl⟩:=cy h;exact yy ((d iter m c).1 Φ)
 unfold ia at h;split at h
 .rename_i g p args i
  split at h
  .rename_i j
   obtain rfl:=eq_of_beq j;split at h
   .rename_i l
    split at h
    .rename_i a
     obtain⟨q,c,rfl⟩:=cy h;obtain⟨n,o⟩:=cv d c;exact vi (G.gl l) (G.eu _ (by decide)) (n Φ) (by rw[bu (o a (by simp))];rfl)
    .cases h
   .cases h
  .exact dflt h
 .exact dflt h
end
section
variable{κ:Str->Addr->Prop}{T:bb}{k:Nat}
theorem q_{X:Cx}{c:Scope}{N:List Str}(G:GoodO X κ T k c N){scope:Scope}{x:Str}{cap:List Nat}(f:oW scope c x=true)(m:jk c N (bP scope)=some cap) :
  fU X scope [x] (bP scope) cap/\scope.names.lookup x=some .local/\([x]++bP scope).Nodup:=by
 simp only[oW,Bool.and_eq_true,decide_eq_true_eq,List.all_eq_true,Bool.not_eq_true',beq_iff_eq,Bool.or_eq_true]at f;obtain⟨⟨⟨⟨⟨n,o⟩,p⟩,r⟩,s⟩,t⟩:=f;obtain⟨u,w⟩:=uO m
 have g:∀y∈scope.names,y.2=.free->(c.names.lookup y.1=some .cell\/c.names.lookup y.1=some .free)/\scope.names.lookup y.1=some .free:=λy a b=>by
  rcases r y a with q|q
  .rw[b]at q;exact absurd q (by decide)
  .exact q
 refine⟨⟨n,λy a b=>?_,λy a b=>?_,λy a b=>?_,u,λj i z h A=>?_⟩,s,t⟩
 .have:=o y a
  rw[b]at this;exact absurd this (by decide)
 .rcases p y a with q|q
  .rw[b]at q;exact absurd q (by decide)
  .exact q
 .have:=(g y a b).1
  show X.env.scope.names.lookup y.1=_\/X.env.scope.names.lookup y.1=_
  rw[G.scope];exact this
 .refine⟨by rw[G.names];exact w j i z h A,?_⟩
  have l:z∈bP scope:=List.mem_of_getElem? h;unfold bP at l;obtain⟨y,a,rfl⟩:=List.mem_map.mp l;obtain⟨d,e⟩:=List.mem_filter.mp a;exact(g y d (by simpa using e)).2
theorem jD{T:bb}{c:Scope}{N:List Str}{n:Nat}{elt:Expr}{gens:List Comprehension}{scope:Scope}{pos:Pos}{m:EM}{P:Prop}(g:gm gens=none)(hz:er gens=none)(h:ck T (n+1) c N (.ListComp elt gens scope pos)=some m):P:=by
 replace h:(match gm gens with
   |some (x,_,iter,e)=>if (oW scope c x&&!isSet iter)=true then (match jk c N (bP scope),ia (ck T n c N) c iter,ck T n (il scope c) (x::bP scope) elt,qY (ck T n (il scope c) (x::bP scope)) e with
    |some d,some i,some f,some (j,k)=>some (cg f j k i 0 d)
    |_,_,_,_=>none)else none
   |none=>(match er gens with
    |some (x,y,a,b)=>if (qZ scope c x y&&ot c ("zip":Str))=true then (match jk c N (bP scope),cK (ck T n c N) [a,b],ck T n (il scope c) (x::y::bP scope) elt with
     |some d,some l,some f=>some (cg f true (ae .non) (sP l) 2 d)
     |_,_,_=>none)else none
    |none=>none))=some m:=h
 rw[g,hz]at h;cases h
theorem ib{n:Nat}(l:∀(X:Cx) (f:Scope) (N:List Str) (e:Expr) (m:EM),GoodO X κ T k f N->ck T n f N e=some m->iE X κ e m){X:Cx}{f:Scope}{N:List Str}(G:GoodO X κ T k f N){scope:Scope}{x:Str}{iter elt:Expr}{ifs:List Expr}{p pos:Pos}{m:EM}
  (h:ck T (n+1) f N (.ListComp elt [⟨.Name x p,iter,ifs,0⟩] scope pos)=some m):∃me nc mc mi cap,m=cg me nc mc mi 0 cap/\fU X scope [x] (bP scope) cap/\scope.names.lookup x=some .local/\([x]++bP scope).Nodup /\
   (∀z,foldedSetIterable iter X.env z=pure z)/\(∀Φ,vf X κ Φ (.Name x p) iter mi) /\
   ∀i C b d j,((ifs=[]/\nc=true)\/∃c,ifs=[c]/\nc=false/\fK (blk X scope i C ([x]++bP scope) b d j) κ kG c mc)/\bo (blk X scope i C ([x]++bP scope) b d j) κ kG elt me:=by
 replace h:(if (oW scope f x&&!isSet iter)=true then (match jk f N (bP scope),ia (ck T n f N) f iter,ck T n (il scope f) (x::bP scope) elt,qY (ck T n (il scope f) (x::bP scope)) ifs with
    |some cap,some mi,some me,some (nc,mc)=>some (cg me nc mc mi 0 cap)
    |_,_,_,_=>none)else none)=some m:=h
 split at h
 .rename_i o
  simp only[Bool.and_eq_true,Bool.not_eq_true']at o;split at h
  .rename_i cap mi me nc mc s t u g
   cases h;obtain⟨w,y,A⟩:=q_ G o.1 s;refine⟨me,nc,mc,mi,cap,rfl,w,y,A,jl o.2,λΦ=>vG G (l X f N · · G) t Φ _,λi C b d j=>?_⟩
   have q:=G.blk scope i C ([x]++bP scope) b d j;refine⟨?_,(l _ _ _ elt me q u).1 kG⟩
   match ifs,g with
   |[],g=>cases g;exact .inl ⟨rfl,rfl⟩
   |[r],g=>
    obtain⟨a,B,D⟩:=cy g;cases D;exact .inr ⟨r,rfl,rfl,(l _ _ _ r mc q B).2.1 kG⟩
  .cases h
 .cases h
theorem vH{n:Nat}(s:∀(X:Cx) (c:Scope) (N:List Str) (e:Expr) (m:EM),GoodO X κ T k c N->ck T n c N e=some m->iE X κ e m){X:Cx}{c:Scope}{N:List Str}(G:GoodO X κ T k c N){scope:Scope}{x y:Str}{elt a b:Expr}{gens:List Comprehension}{pos:Pos}{m:EM}
  (z:gm gens=none) (hz:er gens=some (x,y,a,b)) (h:ck T (n+1) c N (.ListComp elt gens scope pos)=some m):iE X κ (.ListComp elt gens scope pos) m:=by
 replace h:(match gm gens with
   |some (x,_,iter,o)=>if (oW scope c x&&!isSet iter)=true then (match jk c N (bP scope),ia (ck T n c N) c iter,ck T n (il scope c) (x::bP scope) elt,qY (ck T n (il scope c) (x::bP scope)) o with
    |some d,some A,some g,some (B,D)=>some (cg g B D A 0 d)
    |_,_,_,_=>none)else none
   |none=>(match er gens with
    |some (x,y,a,b)=>if (qZ scope c x y&&ot c ("zip":Str))=true then (match jk c N (bP scope),cK (ck T n c N) [a,b],ck T n (il scope c) (x::y::bP scope) elt with
     |some d,some t,some g=>some (cg g true (ae .non) (sP t) 2 d)
     |_,_,_=>none)else none
    |none=>none))=some m:=h
 rw[z,hz]at h;dsimp only at h;obtain⟨R,S,j,U,V,Y,rfl⟩:=pC hz;split at h
 .rename_i u
  simp only[Bool.and_eq_true,qZ,decide_eq_true_eq,beq_iff_eq]at u;obtain⟨⟨⟨E,F⟩,p⟩,r⟩:=u;split at h
  .rename_i d t g H I J
   cases h;obtain⟨f,K,Z⟩:=q_ G E H;obtain⟨L,w⟩:=cv (λe m q=>s X c N e m G q) I
   have M:fU X scope [x,y] (bP scope) d:=⟨f.kind,f.cell,f.names,f.free,f.len,f.at'⟩;exact bD (λO=>vk G.calm M (jl rfl) (yx (G.gl r) (G.eu _ (by decide)) (L O) (bu (w a (by simp))) (by rw[bu (w b (by simp))];rfl)) K F p λP C i l Q=>(s _ _ _ elt g (G.blk scope P C ([x,y]++bP scope) i l Q) J).1 kG) rfl (λ_=>rfl)
  .cases h
 .cases h
theorem jE:∀(n:Nat) (X:Cx) (u:Scope) (N:List Str) (e:Expr) (m:EM),GoodO X κ T k u N->ck T n u N e=some m->iE X κ e m:=by
 intro n
 induction n with
 |zero=>intro X u N e m G h;cases h
 |succ n O=>
  intro X u N e m G h;have g:∀e m,ck T n u N e=some m->iE X κ e m:=λe m q=>O X u N e m G q
  cases e with
  |Name x pos=>exact vB G h
  |Constant c j pos=>exact sX h
  |BinOp a op b pos=>
   obtain⟨A,C,l,w,rfl⟩:=bG h;exact bD (λd=>yE ((g a A l).1 d) ((g b C w).1 d)) rfl (λ_=>rfl)
  |UnaryOp op a pos=>
   cases op with
   |USub=>
    obtain⟨A,l,rfl⟩:=cy h;exact bD (λd=>xU ((g a A l).1 d)) rfl (λ_=>rfl)
   |Not=>
    obtain⟨A,l,rfl⟩:=cy h;exact⟨λd=>yb ((g a A l).1 d),λd=>yc ((g a A l).2.1 d),rfl⟩
   |_=>cases h
  |BoolOp op F pos=>
   match F,h with
   |a::b::r,h=>
    obtain⟨V,Y⟩:=nK (pos:=pos) g (show gy (ck T n u N) op (a::b::r)=some m from h)
    exact⟨V,λd=>(Y d).pt,rfl⟩
   |[_],h=>cases h
   |[],h=>cases h
  |Compare a P cs pos=>
   match P,cs,h with
   |[op],[b],h=>
    replace h:(if isSet b=true then none else o2 (ck T n u N a) (ck T n u N b) (m2 (aw op)))=some m:=h
    split at h
    .cases h
    .rename_i Q
     obtain⟨A,C,l,w,rfl⟩:=bG h;have H:=mY (op:=op) (b:=b) (by simpa using Q)
     exact⟨λd=>(qL G.hu H ((g a A l).1 d) ((g b C w).1 d)).1,λd=>(qL G.hu H ((g a A l).1 d) ((g b C w).1 d)).2,rfl⟩
   |[op,D],[b,K],h=>
    replace h:(if isSet K=true then none else o2 (ck T n u N a) (o2 (ck T n u N b) (ck T n u N K) Prod.mk) λx y=>fm op D x y.1 y.2)=some m:=h
    split at h
    .cases h
    .rename_i Q
     obtain⟨A,a0,l,B,rfl⟩:=bG h;obtain⟨C,mc,w,E,rfl⟩:=bG B;have H:lastMarks [op,D] [b,K]=false:=mY (op:=D) (b:=K) (by simpa using Q)
     exact⟨λd=>yh G.hu H ((g _ _ l).1 d) ((g _ _ w).1 d) ((g _ _ E).1 d),λd=>yi G.hu H ((g _ _ l).1 d) ((g _ _ w).1 d) ((g _ _ E).1 d),rfl⟩
   |[],_,h=>cases h
   |[_],[],h=>cases h
   |[_],_::_::_,h=>cases h
   |[_,_],[],h=>cases h
   |[_,_],[_],h=>cases h
   |[_,_],_::_::_::_,h=>cases h
   |_::_::_::_,[],h=>cases h
   |_::_::_::_,[_],h=>cases h
   |_::_::_::_,_::_::_,h=>cases h
  |IfExp t a b pos=>
   obtain⟨mt,b0,l,B,rfl⟩:=bG h;obtain⟨A,C,w,E,rfl⟩:=bG B;exact⟨λd=>yf ((g _ _ l).2.1 d) ((g _ _ w).1 d) ((g _ _ E).1 d),λd=>yg ((g _ _ l).2.1 d) ((g _ _ w).2.1 d) ((g _ _ E).2.1 d),rfl⟩
  |Subscript a s pos=>
   have R:∀b,isSlice b=false->o2 (ck T n u N a) (ck T n u N b) (m2 aA)=some m->iE X κ (.Subscript a b pos) m:=λb hb h=>by
    obtain⟨A,C,l,w,rfl⟩:=bG h;refine bD (λd=>xY (by have:=G.hu;omega) (λo i=>?_) ((g _ _ l).1 d) ((g _ _ w).1 d)) rfl (λ_=>rfl)
    cases b<;>first|rfl | (cases hb)
   cases s with
   |Slice lo I st p2=>
    cases st with
    |none=>
     obtain⟨A,c0,l,B,rfl⟩:=bG h;obtain⟨⟨nl,ml⟩,⟨nh,mh⟩,w,E,rfl⟩:=bG B;exact bD (λd=>x9 ((g _ _ l).1 d) (nL g w) (nL g E)) rfl (λ_=>rfl)
    |some e=>
     cases lo with
     |none=>
      cases I with
      |none=>
       exact nomatch (show(none:Option EM)=some m from h)
      |some _=>exact nomatch (show(none:Option EM)=some m from h)
     |some _=>exact nomatch (show(none:Option EM)=some m from h)
   |_=>exact R _ rfl h
  |List es pos=>
   obtain⟨L,l,rfl⟩:=cy h;exact bD (λd=>xQ ((cv g l).1 d)) rfl (λ_=>rfl)
  |Tuple es j pos=>
   obtain⟨L,l,rfl⟩:=cy h;exact bD (λd=>xR ((cv g l).1 d)) rfl (λ_=>rfl)
  |Call f args J pos=>
   cases f with
   |Name x p=>
    cases J with
    |nil=>
     replace h:(match nJ u (ck T n u N) x args with|some m=>some m|none=>iD T u N (ck T n u N) x args)=some m:=h
     cases I:nJ u (ck T n u N) x args with
     |some m'=>
      rw[I]at h;cases h;exact yP G g I
     |none=>
      rw[I]at h;exact vF G g h
    |cons _ _=>cases h
   |Attribute o mm Z=>
    cases J with
    |nil=>
     replace h:(if (Z.endLine==pos.line&&g_ o&&decide (args.length<20))=true then (match ck T n u N o,cK (ck T n u N) args with
   |some S,some L=>iC T mm args.length S L
   |_,_=>none)else none)=some m:=h
     split at h
     .rename_i M
      simp only[Bool.and_eq_true,decide_eq_true_eq]at M;split at h
      .rename_i S L l w
       exact bD (λd=>vD G M.1.2 M.1.1 M.2 ((g o S l).1 d) w g h) rfl (λ_=>rfl)
      .cases h
     .cases h
    |cons _ _=>cases h
   |_=>cases h
  |JoinedStr F pos=>
   match F,h with
   |[],h=>cases h
   |[_],h=>cases h
   |a::b::r,h=>
    replace h:(jz (ck T n u N) (a::b::r)).map (jO · Str.empty)=some m:=h;obtain⟨ms,l,rfl⟩:=cy h;exact bD (λd=>pk (kI (λe m q=>(g e m q).1 d) l)) rfl (λ_=>rfl)
  |ListComp e0 gens scope pos=>
   cases U:gm gens with
   |none=>
    cases hz:er gens with
    |none=>exact jD U hz h
    |some q=>obtain⟨x,y,a,b⟩:=q;exact vH (λX u N e m G q=>O X u N e m G q) G U hz h
   |some q=>
    obtain⟨x,px,iter,g0⟩:=q;obtain rfl:=kz U;obtain⟨me,nc,mc,mi,h0,rfl,b1,b2,b3,b4,b5,b6⟩:=ib (λX u N e m G q=>O X u N e m G q) G h
    exact bD (λd=>vj G.calm b1 b4 (b5 d) b2 b3 b6) rfl (λ_=>rfl)
  |Dict ks F pos=>
   replace h:(match lM ks F with
    |some (x,y,z,i,j,k)=>some (ek x y z i j k)
    |none=>none)=some m:=h
   split at h
   .rename_i l
    obtain⟨j1,Z,j2,p2,j3,p3,l1,V,l2,Y,l3,q3,rfl,rfl⟩:=pv l;cases h;exact bD (λd=>pq) rfl (λ_=>rfl)
   .cases h
  |_=>cases h
end
structure fe(X:Cx)(κ:Str->Addr->Prop)(T:bb)(k:Nat)(sc:Scope)(N:List Str):Prop extends GoodO X κ T k sc N where
 own:PassesOwn (model X.prog X.w) X.A X.env X.xe
 Ih:∀x,uL sc x=true->T.fz.contains x=false->(X.fn x=true\/X.env.scope.names.lookup x=some .local)
 qF:N.Nodup
 kind:sc.kind=.function
 wY:T.xt=false->∀e s,¬ X.xe e s
def ic(f:Stmt->Option SM):List Stmt->Option SM
 |[]=>some ak
 |s::r=>o2 (f s) (ic f r) aj
def ie(T:bb)(a:Scope)(N:List Str)(x:Str):Option Nat:=if T.fz.contains x then none else qD a N x
def pD(T:bb)(td:List Str)(k:Nat)(a:Scope)(N:List Str)(x:Str)(b:Pos)(e:Expr)(pos:Pos):Option SM:=match ie T a N x with
   |some i=>if lP e then none else (match ck T k a N e with
    |some m=>if mZ a x b e then (if pos.line==b.line then some (aT i m)else none)else some (aT i m)
    |none=>none)
   |none=>none
def nM(T:bb)(td:List Str)(k:Nat)(d:Scope)(N:List Str):Nat->Stmt->Option SM
 |0,_=>none
 |n+1,st=>match st with
  |.Return (some e) _=>some (match ck T k d N e with
   |some m=>bf m
   |none=>pj)
  |.Assign [.Name x g] e pos=>pD T td k d N x g e pos
  |.Assign [.Subscript o i _] e _=>if isSlice i||jm e then none else o2 (ck T k d N o) (o2 (ck T k d N i) (ck T k d N e) Prod.mk) λx y=>hZ x y.1 y.2
  |.Expr e _=>if jm e then none else (ck T k d N e).map ke
  |.If c a b _=>o2 (ck T k d N c) (o2 (ic (nM T td k d N n) a) (ic (nM T td k d N n) b) Prod.mk) λx y=>dN x y.1 y.2
  |.For (.Name x _) f b [] _=>if isSet f then none else o2 (ie T d N x) (o2 (ia (ck T k d N) d f) (ic (nM T td k d N n) b) Prod.mk) λi y=>fo (de i) y.1 y.2
  |_=>none
section
variable{X:Cx}{κ:Str->Addr->Prop}{Φ:dE}{T:bb}{td:List Str}{k:Nat}{sc:Scope}{N:List Str}{α α' gn α1:List Addr}{Z Z' Z0 Z1:Addr->Prop}{Ω az:aE}{H H' H0 H1:Hp}
theorem sY(G:fe X κ T k sc N){x:Str}{i:Nat}(h:qD sc N x=some i):X.N[i]?=some x/\Loc X.env.scope x:=by
 unfold qD at h;split at h
 .rename_i b
  simp only[Bool.and_eq_true]at b;refine⟨by rw[G.names];exact uN h,?_⟩
  rw[G.scope];have a:=b.1;unfold uL at a;unfold L2.Loc;split at a
  .rename_i q;exact .inl q
  .rename_i q;exact .inr q
  .cases a
 .cases h
theorem jF{f:Stmt->Option SM}(e:∀s c,f s=some c->ph X κ Φ s c):∀{d:List Stmt}{c:SM},ic f d=some c->ir X κ Φ d c
 |[],c,h=>by cases h;exact iB
 |s::d,c,h=>by
  obtain⟨a,b,h1,h2,rfl⟩:=bG h;exact gx (e s a h1) (jF e h2)
theorem fN(G:fe X κ T k sc N){x:Str}{i:Nat}(h:ie T sc N x=some i):X.N[i]?=some x/\Loc X.env.scope x/\(X.fn x=true\/X.env.scope.names.lookup x=some .local):=by
 unfold ie at h;split at h
 .cases h
 .rename_i d
  obtain⟨a,b⟩:=sY G h;refine⟨a,b,G.Ih x ?_ (by simpa using d)⟩
  unfold qD at h;split at h
  .rename_i c;simp only[Bool.and_eq_true]at c;exact c.1
  .cases h
theorem nN{elt:Expr}{gens:List Comprehension}{scope:Scope}{p a:Pos}{x:Str}{l:Nat}(G:fe X κ T k sc N) :
  swapsWith (.ListComp elt gens scope p) (some (.Name x a)) l X.env=pure (mZ sc x a (.ListComp elt gens scope p)):=by
 have b:X.env.blockKind=.function:=by
  show(if X.env.scope.kind.isAnnotationScope=true then ScopeKind.function else X.env.scope.kind)=_
  rw[G.scope,G.kind];rfl
 show pure (X.env.blockKind==.function&&X.env.kindOf x==some .local&&a.line==p.line&&!(scope.names.any λ(n,k)=>n==x&&(k==.local||k==.cell)))=_
 rw[b]
 show pure (true&&X.env.scope.names.lookup x==some .local&&a.line==p.line&&!(scope.names.any λ(n,k)=>n==x&&(k==.local||k==.cell)))=_
 rw[G.scope];rfl
theorem ra(G:fe X κ T k sc N){n i:Nat}{x:Str}{a pos:Pos}{e:Expr}{m:EM}(l:ie T sc N x=some i)(h:ck T n sc N e=some m)(c:lP e=false)(o:mZ sc x a e=true->pos.line=a.line):ph X κ Φ (.Assign [.Name x a] e pos) (aT i m):=by
 obtain⟨f,r,s3⟩:=fN G l;have g:X.N.Nodup:=by rw[G.names];exact G.qF
 have E:=jE n X sc N e m G.toGoodO h;have plain:swapsWith e (some (.Name x a)) pos.line X.env=pure false->ph X κ Φ (.Assign [.Name x a] e pos) (aT i m):=λq=>yA g f r s3 q (E.1 Φ)
 cases e with
 |ListComp d gens scope p=>
  cases b:mZ sc x a (.ListComp d gens scope p)with
  |false=>exact plain (by rw[nN G,b])
  |true=>
   cases n with
   |zero=>cases h
   |succ n=>
   cases j:gm gens with
   |none=>exact jD j (by cases s:er gens with|none=>rfl|some q=>rw[lP,s]at c;cases c) h
   |some q=>
    obtain⟨y,F,iter,t⟩:=q;obtain rfl:=kz j;obtain⟨H,I,J,K,cap,rfl,u,w,z,A,B,C⟩:=ib (λX sc N e m G q=>jE n X sc N e m G q) G.toGoodO h
    have D:X.env.scope.names.lookup x=some .local:=by
     rw[G.scope];unfold mZ at b;simp only[Bool.and_eq_true,beq_iff_eq]at b;exact b.1.1
    exact vl g f D (by rw[nN G,b]) G.calm u A (hX 1 (by decide)) (jx (cap:=cap) (B Φ) w z C) (o b)
 |SetComp=>cases n<;>cases h
 |DictComp=>cases n<;>cases h
 |_=>exact plain rfl
theorem vI{e:Expr}{t:Option Expr}{l:Nat}{env:Env}(h:jm e=false):swapsWith e t l env=pure false:=by
 cases e<;>first|rfl | (cases h)
theorem rb(G:fe X κ T k sc N):∀(n:Nat) (d:Nat) (st:Stmt) (c:SM),nM T td d sc N n st=some c->ph X κ Φ st c:=by
 intro n d;have E:∀e m,ck T d sc N e=some m->iE X κ e m:=λe m q=>jE d X sc N e m G.toGoodO q
 induction n with
 |zero=>intro st c h;cases h
 |succ n K=>
  intro st c h;have B:∀A c,ic (nM T td d sc N n) A=some c->ir X κ Φ A c:=λA c q=>jF K q
  have L:X.N.Nodup:=by rw[G.names];exact G.qF
  cases st with
  |Return v f=>
   cases v with
   |none=>cases h
   |some e=>
    replace h:some (match ck T d sc N e with
   |some m=>bf m
   |none=>pj)=some c:=h
    cases h;split
    .rename_i m g
     exact qV ((E e m g).1 Φ)
    .exact sR
  |Assign M e f=>
   cases M with
   |nil=>cases h
   |cons t r=>
   cases r with
   |cons Z r=>cases t<;>cases h
   |nil=>
   cases t with
   |Name x D=>
    replace h:pD T td d sc N x D e f=some c:=h;unfold pD at h;split at h
    .rename_i i F
     split at h
     .cases h
     rename_i j;have j:lP e=false:=by simpa using j
     .split at h
      .rename_i m H
       split at h
       .split at h
        .rename_i w O
         cases h;exact ra G F H j λ_=>eq_of_beq O
        .cases h
       .rename_i w
        cases h;exact ra G F H j λq=>absurd q w
      .cases h
    .cases h
   |Subscript o i p=>
    replace h:(if (isSlice i||jm e)=true then none else o2 (ck T d sc N o) (o2 (ck T d sc N i) (ck T d sc N e) Prod.mk) λx y=>hZ x y.1 y.2)=some c:=h
    split at h
    .cases h
    .rename_i z
     simp only[Bool.or_eq_true,not_or,Bool.not_eq_true]at z;obtain⟨P,y,g,l,rfl⟩:=bG h;obtain⟨Q,R,s,u,rfl⟩:=bG l;exact vt (by have:=G.hu;omega) ((E o P g).1 Φ) ((E i Q s).1 Φ) ((E e R u).1 Φ) (vI z.2)
   |_=>cases h
  |Expr e f=>
   replace h:(if jm e=true then none else (ck T d sc N e).map ke)=some c:=h
   split at h
   .cases h
   .rename_i z
    obtain⟨m,g,rfl⟩:=cy h;exact yB (vI (by simpa using z)) ((E e m g).1 Φ)
  |If S a b f=>
   obtain⟨m,y,g,l,rfl⟩:=bG h;obtain⟨U,C,s,u,rfl⟩:=bG l;exact BG ((E S m g).2.1 Φ) (B a U s) (B b C u)
  |For I J b e f=>
   cases e with
   |nil=>
    cases I with
    |Name x D=>
     replace h:(if isSet J=true then none else o2 (ie T sc N x) (o2 (ia (ck T d sc N) sc J) (ic (nM T td d sc N n) b) Prod.mk) λi y=>fo (de i) y.1 y.2)=some c:=h
     split at h
     .cases h
     .rename_i w
      obtain⟨i,y,g,l,rfl⟩:=bG h;obtain⟨mi,C,s,u,rfl⟩:=bG l;obtain⟨V,Y,s3⟩:=fN G g;exact yC G.own G.calm (vG G.toGoodO E s Φ _) (iw L V Y s3) (BH i) (B b C u) (jl (by simpa using w))
    |_=>cases h
   |cons _ _=>cases I<;>cases h
  |_=>cases h
def ew(b:Str->Option Value):Str->Addr->Prop:=λC a=>b C=some (.ref a)
structure bT(P:Program)(w:World)(K:PySem.W.Frag)(mg:Str->Option Value)(base:Heap)(T:bb)(k:Nat):Prop where
 eu:∀x∈dC,mg x=none
 mB:∀x F,T.mB.lookup x=some F->∃(f:Addr) (fd:FuncData) (ps:List Str),mg x=some (.ref f)/\PySem.W.keepIn K (.ref f)=true/\Binds K fd ps []/\cX P w K mg base iy k f fd ps (ji F)
 fn:∀x F,T.fn.lookup x=some F->∃(f:Addr) (fd:FuncData) (ps:List Str),mg x=some (.ref f)/\PySem.W.keepIn K (.ref f)=true/\Binds K fd ps []/\cX P w K mg base iy k f fd ps (dJ (ew mg) F)
 cst:∀x d,T.cst.lookup x=some d->∃v u,mg x=some u/\RelV v u/\ei d=some v
 met:∀m C F,(m,C,F)∈T.met->∃(Ca f:Addr) (fd:FuncData) (ps:List Str),z_ P w K mg base (ew mg) k C m F Ca f fd ps
 cls:∀C F,T.cls.lookup C=some F->∃j,j+1<=k/\∃(Ca f:Addr) (fd:FuncData) (ps:List Str),ew mg C Ca/\Mk K Ca f/\mg C=some (.ref Ca)/\Binds K fd ps []/\cX P w K mg base iy j f fd ps (dJ (ew mg) F)
 fld:∀f Cs,T.fld.lookup f=some Cs->vo K (ew mg) Cs f
 clo:∀j F,T.clo[j]?=some F->nF P w K mg base (ew mg) k j F
def cF(T:bb)(td:List Str)(st:Stmt)(N:List Str):Option SM:=ic (nM T td 60 (ao st) N 30) (aV st)
end
section
variable{P:Program}{w:World}{K:PySem.W.Frag}{mg:Str->Option Value}{base:Heap}{T:bb}{k:Nat}
theorem bq(W:bT P w K mg base T k){x qual:Str}{st:Stmt}{f:Addr}{t:FuncData}(F:xv K x qual st f t){N ps td:List Str}{c:SM}(u:bQ N ps (ao st)=true)(D:cF T td st N=some c) :
    cX P w K mg base iy (k+1) f t ps (dJ (ew mg) (cQ N.length ps.length c)):=by
  refine F.ok (iz u) (λI H Q E h=>?_) λn A outer s H I Q E J h=>?_
  · obtain⟨e,Z,i,l,S,r,g⟩:=h
    rw[r.length];unfold cQ at g;split at g
    · rename_i L;exact L
    · exact g.elim
  · obtain⟨e,Z,i,l,S,r,g⟩:=h
    have y:=iz u
    have G:fe (mK iy P w K mg base N qual (ao st) f n A outer s H E).wY (ew mg) T k (ao st) N:=
      { scope:=rfl,names:=rfl,calm:=rfl,room:=J,eu:=W.eu,own:=PassesOwn.never,Ih:=λ_ _ _=>.inl rfl,qF:=y.nd,kind:=y.kind,wY:=λ_ _ _ h=>h,fld:=W.fld,cst:=W.cst
        mB:=λx F h=>⟨W.mB x F h⟩,fn:=λx F h=>⟨W.fn x F h⟩,met:=λm C F h=>⟨W.met m C F h⟩,cls:=λC F h=>let ⟨j,M,O⟩:=W.cls C F h;⟨j,M,⟨O⟩⟩,clo:=W.clo }
    refine⟨BF (ew mg) kG e Z H c (ba N.length l) i,jF (rb G 30 60) D e Z H (ba N.length l) i,e,Z,jy S r,?_⟩;unfold cQ at g;split at g
    · cases q:c (ba N.length l) i with
      |rt d a=>rw[q]at g;exact λv o b p R st r=>g v o b p R st r
      |nx z a=>rw[q]at g;exact λU o b p B=>g .non o b p B.gr B.st (aG rfl)
      |bk z a=>rw[q]at g;exact g.elim
      |ct z a=>rw[q]at g;exact g.elim
      |exc x a=>rw[q]at g;exact g
      |bad=>rw[q]at g;exact g.elim
    · exact g.elim
theorem yQ{F:c9}{az:aE}{H:Hp}{a:Addr}{c:List Int}{κ:Str->Addr->Prop}(d:Rd H a (.lst (c.map V.int)))(h:F [.lst (c.map D.int)] []=.ok (.bl true) az):dJ κ F [.ref a] H (λv _=>v=.bl true) E0:=by
 refine⟨[],λb=>b=a,[],[.lst (c.map D.int)],⟨List.nodup_nil,.nil,λ_ h=>by simp at h,λb e=>?_⟩,.one ?_,?_⟩
 .subst e
  rcases d with e|⟨o,e⟩<;>rw[e]<;>simp
 .simp only[au]
  refine⟨a,c.map V.int,rfl,rfl,d,?_⟩;clear h d
  induction c with
  |nil=>exact bB.mpr .nil
  |cons n c f=>exact bB.mpr (.cons (by simp only[au]) (bB.mp f))
 .rw[h]
  intro v j i k g s r;simpa only [au]using r
theorem bT.mono(W:bT P w K mg base T k){j:Nat}(h:k<=j):bT P w K mg base T j:=
 ⟨W.eu,λx F q=>let ⟨f,i,l,a,b,c,d⟩:=W.mB x F q;⟨f,i,l,a,b,c,d.mono h⟩,λx F q=>let ⟨f,i,l,a,b,c,d⟩:=W.fn x F q;⟨f,i,l,a,b,c,d.mono h⟩,W.cst,
  λm C F q=>let ⟨o,f,i,l,a,b,c,p,n,r,s,d,d1,d2,e,g⟩:=W.met m C F q;⟨o,f,i,l,a,b,c,p,n,r,s,d,d1,d2,e.mono h,g⟩,λC F q=>let ⟨t,u,y⟩:=W.cls C F q;⟨t,Nat.le_trans u h,y⟩,W.fld,λj F q=>(W.clo j F q).mono h⟩
end
def sZ(X:Cx)(κ:Str->Addr->Prop)(Φ:dE)(e:Expr)(m:EM):Prop:=∀a b c d f,uq X e (tO κ Φ a b c m d f)
def yR(X:Cx)(κ:Str->Addr->Prop)(Φ:dE)(es:List Expr)(m:AM):Prop:=∀a b c d e,Ga X es (HY κ Φ a b c m d e)
def yS(X:Cx)(κ:Str->Addr->Prop)(Φ:dE)(st:Stmt)(c:SM):Prop:=∀a b d e f,Bd X st (BF κ Φ a b d c e f)
def Ae(X:Cx)(κ:Str->Addr->Prop)(Φ:dE)(a:List Stmt)(c:SM):Prop:=∀b d e f g,i9 X a (BF κ Φ b d e c f g)
noncomputable def gz(y z:Str)(x:D)(Ω:aE):aq D:=match x with
 |.str w=>if w.length<=4000 then .ok (.str (Txt.replace w y z)) Ω else .bad
 |_=>.bad
section
variable{X:Cx}{κ:Str->Addr->Prop}{Φ:dE}{e o:Expr}{es:List Expr}{m mo ma:EM}{as:AM}{st st2:Stmt}{rest:List Stmt}{ca cb cc:SM}{apos cpos pos pos':Pos}
theorem kK{y z:Str}{i j:Nat}{k l:Pos}(m:bo X κ Φ o mo)(e:(y==z)=false)(hz:z.length<=8)(a:attributeBase o "replace" X.env (eval o X.env)=eval o X.env)(b:(apos.endLine==cpos.line)=true) :
  sZ X κ Φ (.Call (.Attribute o "replace" apos) [.Constant (.str y) i k,.Constant (.str z) j l] [] cpos) (m1 (gz y z) mo):=by
 intro f n p q r;refine uq.imp (ur (m f n p q r) e hz a b) ?_;rintro C H Q ⟨s,Z,S,g⟩;refine⟨s,Z,S,g.use λd t u v D x E F A h c=>?_⟩
 clear u;unfold gz at c;split at c
 .rename_i w
  simp only[au]at h;subst h;split at c
  .rename_i B
   exact⟨w,rfl,B,bK.ret A (aG rfl) c⟩
  .exact c.elim
 .exact c.elim
theorem pE(a:attributeBase o "split" X.env (eval o X.env)=eval o X.env)(b:(apos.endLine==cpos.line)=true)(r:sZ X κ Φ o mo)(s:ng X κ Φ [e] as)(d:isStar e=false):sZ X κ Φ (.Call (.Attribute o "split" apos) [e] [] cpos) (bx cp bM mo as):=by
 intro f m n p t;have h:∀z∈[e],isStar z=false:=λz u=>by rw[List.mem_singleton.mp u];exact d
 have i:((backTo cpos (starEach [e] X.env)).all (λx=>!x.1)&&(backToKw cpos (keywordEach [] X.env)).all (λx=>x.1.isSome)
   && decide ([e].length+([]:List Keyword).length+(if ([]:List Keyword).isEmpty then 0 else 1)<30))=true:=by
  rw[pa h,decide_eq_true (by show [e].length+0+0<30;simp)];rfl
 refine uq.imp (Be PySem.F.plainAttrs_str PySem.F.slot_str_split PySem.F.type_str_split nt (r f m n p t) (PA.ex λc=>s f m n p c) a i b (bu d) rfl) ?_
 rintro K H Q ⟨w,Z,S,g⟩;refine⟨w,Z,S,bK.use g λx c _ v L j y A k q l=>?_⟩
 split at l
 .rename_i B
  exact⟨fb k q B,c,j,y,S.grow A k,lz.use l λM C _ N O D P E G I J=>nv G (k.cY E q) I J⟩
 .exact l.elim
theorem vJ(k:sZ X κ Φ e ma)(l:starEach [e] X.env=[(false,eval e X.env)]):yR X κ Φ [e] (aa ma ag):=by
 intro a m n c f b pins s o H Q I p h;obtain⟨r,Z,S,g⟩:=h;rcases q:ma c f with ⟨d,i⟩|⟨x,i⟩|_
 .refine ql (k a m n c f) l b pins s o H Q I p ⟨r,Z,S,?_⟩
  simp only[aa,ag,q,aq.bind]at g ⊢;intro v t j u w y z;exact g [v] t j u w y (.cons z .nil)
 .refine ql (k a m n c f) l b pins s o H Q I p ⟨r,Z,S,?_⟩
  simp only[aa,ag,q,aq.bind]at g ⊢;exact g
 .simp only[aa,ag,q,aq.bind]at g
  exact g.elim
theorem hB(p:bo X κ Φ e ma)(r:yR X κ Φ es as)(t:starEach (e::es) X.env=(false,eval e X.env)::starEach es X.env):yR X κ Φ (e::es) (aa ma as):=by
 intro a i j c k f pins s u H Q I w h;obtain⟨y,Z,S,g⟩:=h;rcases q:ma c k with ⟨d,b⟩|⟨x,b⟩|_
 .refine mS (p a i j c k) (r a i j c b) t f pins s u H Q I w ⟨y,Z,S,?_⟩
  simp only[aa,q,aq.bind]at g ⊢;intro v L l C z A D;refine⟨l,C,S.grow z A,?_⟩;have g:=lz.from z g
  rcases m:as c b with ⟨M,n⟩|⟨x,n⟩|_
  .rw[m]at g
   intro E F o G B J K;exact g (v::E) F o G B J (.cons (A.cY B D) K)
  .rw[m]at g;exact g
  .rw[m]at g;exact g.elim
 .refine mS (p a i j c k) (r a i j c k) t f pins s u H Q I w ⟨y,Z,S,?_⟩
  simp only[aa,q,aq.bind]at g ⊢;exact g
 .simp only[aa,q,aq.bind]at g
  exact g.elim
theorem vK(h:yR X κ Φ es as):sZ X κ Φ (.List es pos) (mN b9 as):=by
 intro d j k l m pins s n H Q I t w;obtain⟨x,Z,S,g⟩:=w
 have y:HY κ Φ d j k as l m n H (λf a=>f.length<=sizeLine/\∀p,a p=none->Q (.ref p) (upd a p (.lst f))):=by
  refine⟨x,Z,S,lz.use g λF A _ G a B J K c o i=>?_⟩
  unfold b9 at i;split at i
  .rename_i C
   exact⟨by rw[o.length];exact bA C,dH c o i⟩
  .exact i.elim
 refine wpAny_List_spliced (cf (h d j k l m pos pins s n H _ I t y) λD c ⟨f,a,I1,r,z,q⟩=>⟨by rw[←r.length];exact z,?_⟩)
 have E:a c.heap.objs.size=none:=I1.hok.fresh (Nat.le_refl _);refine⟨.ref c.heap.objs.size,upd a c.heap.objs.size (.lst f),I1.laid (t':=c.toks) (λb u e=>Heap.get?_push_of_some _ e) (Nat.le_refl _) ?_,rfl,q _ E⟩
 exact⟨z,D,0,r,Heap.get?_push_size _ rfl⟩
theorem nO{i:Nat}{x:Str}(c:X.N.Nodup)(j:X.N[i]?=some x)(k:Loc X.env.scope x)(l:X.fn x=true\/X.env.scope.names.lookup x=some .local)(n:swapsWith e (some (.Name x pos')) pos.line X.env=pure false)(h:sZ X κ Φ e m) :
  yS X κ Φ (.Assign [.Name x pos'] e pos) (aT i m):=by
 intro a o p q s;refine Bd.imp (xy c j k (h a o p q s) n l) ?_;rintro E B H ⟨t,Z,S,f⟩;exact⟨t,Z,S,fc.use S f λd u v w b y _ g z r A=>A _ w b y (z.set r i)⟩
theorem s_(k:yS X κ Φ st ca)(l:ir X κ Φ rest cb):Ae X κ Φ (st::rest) (aj ca cb):=by
 intro c g h i j;refine i9.imp (sj (k c g h i j) (gS.ex λp:aR×aE=>l c g h p.1 p.2)) ?_
 rintro E s H ⟨m,Z,S,f⟩;refine⟨m,Z,S,?_⟩;simp only[aj]at f;cases q:ca i j with
 |nx b a=>rw[q]at f;exact λn t e o r=>⟨(b,a),e,o,r,f⟩
 |bk b a=>rw[q]at f;exact f
 |ct b a=>rw[q]at f;exact f
 |rt d a=>rw[q]at f;exact f
 |exc x a=>rw[q]at f;exact f
 |bad=>rw[q]at f;exact f.elim
theorem tf(k:ph X κ Φ st ca)(l:eY (exec st X.env))(m:Ae X κ Φ rest cb):ir X κ Φ (st::rest) (aj ca cb):=by
 intro c g h i j;refine gS.imp (si (k c g h i j) l (i9.ex λp:aR×aE=>m c g h p.1 p.2)) ?_
 rintro E t H ⟨n,Z,S,f⟩;refine⟨n,Z,S,?_⟩;simp only[aj]at f;cases q:ca i j with
 |nx b a=>rw[q]at f;exact λo u e r s=>⟨(b,a),e,r,s,f⟩
 |bk b a=>rw[q]at f;exact f
 |ct b a=>rw[q]at f;exact f
 |rt d a=>rw[q]at f;exact f
 |exc x a=>rw[q]at f;exact f
 |bad=>rw[q]at f;exact f.elim
end
end Mir
namespace L2
open PySem PySem.Spec PyProof.Rows
noncomputable def ti(D:List (Str×Int))(k:Str):V:=match D.lookup k with
 |some i=>.int i
 |none=>.non
noncomputable def nP(D:List (Str×Int)):List (Str×KTD.Dat):=D.map λp=>(p.1,.flat (.int p.2))
theorem hE(k:Str):∀(D:List (Str×Int)),KTD.datumAt k (nP D)=(D.lookup k).map λi=>.flat (.int i)
 |[]=>rfl
 | (x,i)::D=>by
  show(if decide (k=x)=true then _ else KTD.datumAt k (nP D))=_
  by_cases h:k=x
  .subst h;simp
  .rw[if_neg (by simpa using h),hE k D]
   have:(k==x)=false:=by simpa using h
   rw[List.lookup_cons,this]
theorem tj{X:Cx}{x:Str}{a:Addr}{D:List (Str×Int)}{e:Expr}{n:TE}{w o p:Pos}(z:Gl X x)(A:X.mg x=some (.ref a))(b:(x==("__debug__":Str))=false)(T:KTD.TextTab X.base a (nP D))(c:(o.endLine==p.line)=true)(B:PE X e n)(j:starEach [e] X.env=[(false,eval e X.env)]) :
  PE X (.Call (.Attribute (.Name x w) "get" o) [e] [] p) (λl H Q=>n l H λv g=>∃k,v=.str k/\Q (ti D k) g):=by
 intro pins s l H Q I h;refine wpAny_Call_method1_late rfl c (by rw[j];rfl) (iv I z A ?_ b)
 have r:KTD.Here X.base s.heap a (nP D):=⟨T,I.bk⟩;refine⟨"dict","dict.get",F.plainAttrs_dict,F.slot_dict_get,F.type_dict_get,r.typeIs,r.noDict,?_⟩;refine Calls.callWith_builtin rfl (Calls.evalArgs_plain ?_);refine Calls.spliced_cons (cf (B pins s l H _ I h) λv C ⟨y,g,I1,r1,k,hk,q⟩=>?_)
 subst hk;obtain⟨t,rfl⟩:=r1;have f:KTD.Here X.base C.heap a (nP D):=⟨T,I1.bk⟩;refine Calls.spliced_nil ?_;refine call_meetsIn F.slot_dict_get f.typeIs F.entry_dict_get (F.args_dict_get_2 _ _) KTD.meets_get1 ⟨f,λd v b E=>?_,λb=>?_⟩
 .rw[hE]at b
  obtain⟨i,G,rfl⟩:=Option.map_eq_some_iff.mp b
  obtain⟨u,rfl⟩:∃u,v=.int i u:=by
   have m:Reads X.base v (.int i) []:=E X.base;cases m;exact⟨_,rfl⟩
  refine⟨.int i,g,I1.tok _,⟨_,rfl⟩,?_⟩;have:ti D k=.int i:=by unfold ti;rw[G]
  rw[this]at q;exact q
 .rw[hE,Option.map_eq_none_iff]at b
  refine⟨.non,g,I1.tok _,rfl,?_⟩;have:ti D k=.non:=by unfold ti;rw[b]
  rw[this]at q;exact q
end L2
namespace Mir
open PySem PySem.Spec PyProof.Rows L2
variable [aU]
noncomputable def bb.yT(T:bb)(x:Str)(F:List D->Out Rs):bb:={T with mB:=(x,F)::T.mB}
noncomputable def bb.bC(T:bb)(x:Str)(F:c9):bb:={T with fn:=(x,F)::T.fn}
noncomputable def bb.kg(T:bb)(x:Str)(d:D):bb:={T with cst:=(x,d)::T.cst}
theorem hG{a:Type}{x y:Str}{F G:a}{l:List (Str×a)}(h:((x,F)::l).lookup y=some G):(y=x/\G=F)\/l.lookup y=some G:=by
 rw[List.lookup_cons]at h;cases e:y==x with
 |true=>rw[e]at h;cases h;exact .inl ⟨eq_of_beq e,rfl⟩
 |false=>rw[e]at h;exact .inr h
section
variable{P:Program}{w:World}{K:PySem.W.Frag}{mg:Str->Option Value}{base:Heap}{T:bb}{k:Nat}
theorem bT.start(a:∀x∈dC,mg x=none):bT P w K mg base {} 0:=
 ⟨a,λx F h=>(by cases h),λx F h=>(by cases h),λx d h=>(by cases h),λm C F h=>(by cases h),λC F h=>(by cases h),λf b h=>(by cases h),λj F h=>(by cases h)⟩
theorem bT.yT(W:bT P w K mg base T k){x:Str}{F:List D->Out Rs}{f:Addr}{a:FuncData}{ps:List Str}{j:Nat}(b:mg x=some (.ref f))(c:PySem.W.keepIn K (.ref f)=true)(d:Binds K a ps [])(h:cX P w K mg base iy j f a ps (ji F))(e:j<=k) :
  bT P w K mg base (T.yT x F) k:=
 ⟨W.eu,λy G q=>by
  rcases hG q with ⟨rfl,rfl⟩|q
  .exact⟨f,a,ps,b,c,d,h.mono e⟩
  .exact W.mB y G q,W.fn,W.cst,W.met,W.cls,W.fld,W.clo⟩
theorem bT.bC(W:bT P w K mg base T k){x:Str}{F:c9}{f:Addr}{b:FuncData}{ps:List Str}(c:mg x=some (.ref f))(d:PySem.W.keepIn K (.ref f)=true)(e:Binds K b ps [])(h:cX P w K mg base iy (k+1) f b ps (dJ (ew mg) F)) :
  bT P w K mg base (T.bC x F) (k+1):=by
 have a:=W.mono (Nat.le_succ k)
 exact⟨a.eu,a.mB,λy G q=>by
  rcases hG q with ⟨rfl,rfl⟩|q
  .exact⟨f,b,ps,c,d,e,h⟩
  .exact a.fn y G q,a.cst,a.met,a.cls,a.fld,a.clo⟩
theorem bT.kg(W:bT P w K mg base T k){x:Str}{d:D}{v:V}{u:Value}(a:mg x=some u)(b:RelV v u)(c:ei d=some v):bT P w K mg base (T.kg x d) k:=
 ⟨W.eu,W.mB,W.fn,λy G q=>by
  rcases hG q with ⟨rfl,rfl⟩|q
  .exact⟨v,u,a,b,c⟩
  .exact W.cst y G q,W.met,W.cls,W.fld,W.clo⟩
end
def D9(F:c9):Sp:=λa H Q E=>∀b,dJ b F a H Q E
noncomputable def vL:Stmt->Bool
 |.If (.BoolOp _ (.Compare _ [_] [.Constant (.int _) _ _] _::_) _) _ _ _=>true
 |.Assign [.Name _ _] (.Call (.Attribute (.Constant (.str _) _ _) _ _) _ [] _) _=>true
 |_=>false
theorem vM{st:Stmt}{env:Env}(h:vL st=true):eY (exec st env):=by
 unfold vL at h;split at h
 .exact xx (sh (uo rfl))
 .rename_i x f y j b m c d a e
  have g:eval (.Call (.Attribute (.Constant (.str y) j b) m c) d [] a) env=(do
   let i ←eval (.Constant (.str y) j b) env
   standAt c.atName
   methodCall (.Constant (.str y) j b) m c a env i (d.length+([]:List Keyword).length) (backTo a (starEach d env)) (backToKw a (keywordEach [] env))):=rfl
  rw[arm_exec_Assign,g];have k:swapsWithSole [.Name x f] (.Call (.Attribute (.Constant (.str y) j b) m c) d [] a) e.line env=pure false:=rfl;rw[k];refine oN λ_=>?_
  simp only[pure_bind,Bool.false_eq_true,if_false];exact iY (iY um)
 .cases h
def Ii(T:bb)(k:Nat)(d:Scope)(N:List Str):Stmt->Option SM
 |.Assign [.Name x _] (.Call (.Attribute (.Call (.Attribute (.Name w e) m1 p2) [.Constant (.str y) _ _,.Constant (.str z) _ _] [] p3) m2 p4) [.Constant (.str c) _ _] [] p5) _=>
  if m1==("replace":Str)&&m2==("split":Str)&&p2.endLine==p3.line&&p4.endLine==p5.line&&!(y==z)&&decide (z.length<=8)then
   o2 (ie T d N x) (ck T k d N (.Name w e)) λi m=>aT i (bx cp bM (Mir.m1 (gz y z) m) (aa (ae (.str c)) ag))else none
 |.Assign [.Name x _] (.List [f,e2,g,.Call (.Attribute (.Name w e) m1 p2) [.Constant (.str y) _ _,.Constant (.str z) _ _] [] p3] _) _=>
  if m1==("replace":Str)&&p2.endLine==p3.line&&!(y==z)&&decide (z.length<=8)then
   o2 (o2 (ie T d N x) (ck T k d N (.Name w e)) Prod.mk) (o2 (ck T k d N f) (o2 (ck T k d N e2) (ck T k d N g) Prod.mk) Prod.mk) λa b=>aT a.1 (mN b9 (aa b.1 (aa b.2.1 (aa b.2.2 (aa (Mir.m1 (gz y z) a.2) ag)))))else none
 |_=>none
section
variable{X:Cx}{κ:Str->Addr->Prop}{Φ:dE}{T:bb}{k:Nat}{sc:Scope}{N td:List Str}
theorem BP(G:fe X κ T k sc N){f:Nat}{st:Stmt}{c:SM}(h:Ii T f sc N st=some c):yS X κ Φ st c:=by
 have E:∀e m,ck T f sc N e=some m->iE X κ e m:=λe m q=>jE f X sc N e m G.toGoodO q
 have u:X.N.Nodup:=by rw[G.names];exact G.qF
 unfold Ii at h;split at h
 .split at h
  .rename_i d
   simp only[Bool.and_eq_true,Bool.not_eq_true',decide_eq_true_eq]at d;obtain⟨⟨⟨⟨⟨g,z⟩,j⟩,A⟩,l⟩,n⟩:=d;obtain rfl:=eq_of_beq g;obtain rfl:=eq_of_beq z;obtain⟨i,m,o,p,rfl⟩:=bG h;obtain⟨r,s,s3⟩:=fN G o;exact nO u r s s3 rfl (pE rfl A (kK ((E _ m p).1 Φ) l n rfl j) (nj (e_ gT rfl) qI rfl) rfl)
  .cases h
 .split at h
  .rename_i d
   simp only[Bool.and_eq_true,Bool.not_eq_true',decide_eq_true_eq]at d;obtain⟨⟨⟨g,j⟩,l⟩,n⟩:=d;obtain rfl:=eq_of_beq g;obtain⟨a,b,B,C,rfl⟩:=bG h;obtain⟨i,m,o,p,rfl⟩:=bG B;obtain⟨D,F,w,t,rfl⟩:=bG C;obtain⟨H,I,x,y,rfl⟩:=bG t;obtain⟨r,s,s3⟩:=fN G o;exact nO u r s s3 rfl (vK (hB ((E _ _ w).1 Φ) (hB ((E _ _ x).1 Φ) (hB ((E _ _ y).1 Φ) (vJ (kK ((E _ m p).1 Φ) l n rfl j) rfl) (bu (E _ _ y).2.2)) (bu (E _ _ x).2.2)) (bu (E _ _ w).2.2)))
  .cases h
 .cases h
def nQ(f b:Stmt->Option SM):List Stmt->Option SM
 |[]=>some ak
 |[s]=>(f s).map λa=>aj a ak
 |s::d::r=>match b d with
  |some cb=>if vL s then o2 (f s) (nQ f b r) λa c=>aj a (aj cb c)else none
  |none=>o2 (f s) (nQ f b (d::r)) aj
theorem jG{f g:Stmt->Option SM}(b:∀s c,f s=some c->ph X κ Φ s c)(d:∀s c,g s=some c->yS X κ Φ s c):∀{i:List Stmt}{c:SM},nQ f g i=some c->ir X κ Φ i c
 |[],c,h=>by cases h;exact iB
 |[s],c,h=>by
  obtain⟨a,h1,rfl⟩:=cy h;exact gx (b s a h1) iB
 |s::j::r,c,h=>by
  unfold nQ at h;split at h
  .rename_i k l
   split at h
   .rename_i m
    obtain⟨a,n,h1,e,rfl⟩:=bG h;exact tf (b s a h1) (vM m) (s_ (d j k l) (jG b d e))
   .cases h
  .obtain⟨a,n,h1,e,rfl⟩:=bG h
   exact gx (b s a h1) (jG b d e)
end
section
variable{P:Program}{w:World}{K:PySem.W.Frag}{mg:Str->Option Value}{base:Heap}{T:bb}{k:Nat}
theorem rd(W:bT P w K mg base T k){x qual:Str}{st:Stmt}{f:Addr}{t:FuncData}(F:xv K x qual st f t){N ps:List Str}{c:SM}(u:bQ N ps (ao st)=true)
    (D:∀(X:Cx),X.mg=mg->X.base=base->fe X (ew mg) T k (ao st) N->ir X (ew mg) kG (aV st) c) :
    cX P w K mg base iy (k+1) f t ps (dJ (ew mg) (cQ N.length ps.length c)):=by
  refine F.ok (iz u) (λI H Q E h=>?_) λn A outer s H I Q E J h=>?_
  · obtain⟨e,Z,i,l,S,r,g⟩:=h
    rw[r.length];unfold cQ at g;split at g
    · rename_i L;exact L
    · exact g.elim
  · obtain⟨e,Z,i,l,S,r,g⟩:=h
    have y:=iz u
    have G:fe (mK iy P w K mg base N qual (ao st) f n A outer s H E).wY (ew mg) T k (ao st) N:=
      { scope:=rfl,names:=rfl,calm:=rfl,room:=J,eu:=W.eu,own:=PassesOwn.never,Ih:=λ_ _ _=>.inl rfl,qF:=y.nd,kind:=y.kind,wY:=λ_ _ _ h=>h,fld:=W.fld,cst:=W.cst
        mB:=λx F h=>⟨W.mB x F h⟩,fn:=λx F h=>⟨W.fn x F h⟩,met:=λm C F h=>⟨W.met m C F h⟩,cls:=λC F h=>let ⟨j,M,O⟩:=W.cls C F h;⟨j,M,⟨O⟩⟩,clo:=W.clo }
    refine⟨BF (ew mg) kG e Z H c (ba N.length l) i,D _ rfl rfl G e Z H (ba N.length l) i,e,Z,jy S r,?_⟩;unfold cQ at g;split at g
    · cases q:c (ba N.length l) i with
      |rt d a=>rw[q]at g;exact λv o b p R st r=>g v o b p R st r
      |nx z a=>rw[q]at g;exact λU o b p B=>g .non o b p B.gr B.st (aG rfl)
      |bk z a=>rw[q]at g;exact g.elim
      |ct z a=>rw[q]at g;exact g.elim
      |exc x a=>rw[q]at g;exact g
      |bad=>rw[q]at g;exact g.elim
    · exact g.elim
def vO(T:bb)(td:List Str)(st:Stmt)(N:List Str):Option SM:=nQ (nM T td 60 (ao st) N 30) (Ii T 60 (ao st) N) (aV st)
theorem rf(W:bT P w K mg base T k){x qual:Str}{st:Stmt}{f:Addr}{a:FuncData}(F:xv K x qual st f a){N ps td:List Str}{c:SM}(b:bQ N ps (ao st)=true)(d:vO T td st N=some c) :
  cX P w K mg base iy (k+1) f a ps (dJ (ew mg) (cQ N.length ps.length c)):=
 rd W F b λX _ _ G=>jG (rb G 30 60) (λs c h=>BP G h) d
end
noncomputable def yU(L:List (Str×Int))(x:D)(Ω:aE):aq D:=match x with
 |.str k=>.ok (match L.lookup k with|some i=>.int i|none=>.non) Ω
 |_=>.bad
theorem pF{X:Cx}{κ:Str->Addr->Prop}{Φ:dE}{x:Str}{a:Addr}{L:List (Str×Int)}{e:Expr}{m:EM}{i d f:Pos}(j:Gl X x)(l:X.mg x=some (.ref a))(n:(x==("__debug__":Str))=false)(T:KTD.TextTab X.base a (nP L))(b:(d.endLine==f.line)=true)(o:bo X κ Φ e m)(c:starEach [e] X.env=[(false,eval e X.env)]) :
  bo X κ Φ (.Call (.Attribute (.Name x i) "get" d) [e] [] f) (m1 (yU L) m):=
 fL (λq p=>tj j l n T b p c) o λr y s Z t H Q S h g=>by
  unfold yU at g;split at g
  .rename_i k
   simp only[au]at h;refine⟨k,h,bK.ret S ?_ g⟩;unfold ti;cases L.lookup k<;>exact aG rfl
  .exact g.elim
section
variable{P:Program}{w:World}{K:PySem.W.Frag}{mg:Str->Option Value}{base:Heap}{T:bb}{k:Nat}
theorem yV(W:bT P w K mg base T k){x qual t y:Str}{st:Stmt}{f a:Addr}{d:FuncData}(F:xv K x qual st f d){N ps:List Str}{L:List (Str×Int)}{i e g h pos:Pos}(j:bQ N ps (ao st)=true)
  (c:aV st=[.Return (some (.Call (.Attribute (.Name t i) "get" e) [.Name y h] [] g)) pos]) (l:(e.endLine==g.line)=true) (m:ot (ao st) t=true) (n:(t==("__debug__":Str))=false) (o:ck T 60 (ao st) N (.Name y h)=some (ab 0)) (p:mg t=some (.ref a)) (X:K.In base) (q:KTD.tabLook (KTD.datLooks λb=>K.lookup b) (λb=>K.lookup b) a (nP L)=true) :
  cX P w K mg base iy (k+1) f d ps (dJ (ew mg) (cQ N.length ps.length (aj (bf (m1 (yU L) (ab 0))) ak))):=
 rd W F j λY r s G=>by
  subst r s;rw[c];exact gx (qV (pF (G.gl m) p n (PySem.W.kt_text_in X q) l ((jE 60 Y (ao st) N _ _ G.toGoodO o).1 _) rfl)) iB
end
noncomputable def yW:c9:=λ_ _=>.bad
theorem yX{P:Program}{w:World}{K:PySem.W.Frag}{a:Str->Option Value}{base:Heap}{k:Nat}{f:Addr}{b:FuncData}{ps:List Str}{κ:Str->Addr->Prop}:cX P w K a base iy k f b ps (dJ κ yW):=
 ⟨λ_ _ _ _ ⟨_,_,_,_,_,_,g⟩=>g.elim,λ_ _ _ _ _ _ _ _ _ _ _ _ _ ⟨_,_,_,_,_,_,g⟩=>g.elim⟩
end Mir
namespace Mir
open PySem PySem.Spec PyProof.Rows L2
def D_:D->Bool
 |.lst ds=>ds.all eB
 |d=>eB d
section
variable{α:List Addr}{Z Z1:Addr->Prop}{H H1:Hp}
theorem rg{d:D}{v:V}(a:eB d=true)(r:Rep Z H d v):au α Z1 H1 d v:=by
 cases d with
 |lst _=>cases a
 |tup _=>cases a
 |ref _=>cases a
 |dct _ _=>cases a
 |_=>simp only[Rep]at r;simp only[au];exact r
theorem tm{d:D}{v:V}(a:eB d=true)(r:au α Z1 H1 d v):Rep Z H d v:=by
 cases d with
 |lst _=>cases a
 |tup _=>cases a
 |ref _=>cases a
 |dct _ _=>cases a
 |_=>simp only[au]at r;simp only[Rep];exact r
theorem nR:∀{ds:List D}{a:List V},ds.all eB=true->aW Z H ds a->dD α Z1 H1 ds a
 |[],a,_,r=>by simp only[aW]at r;simp only[dD];exact r
 |d::ds,a,h,r=>by
  simp only[List.all_cons,Bool.and_eq_true]at h;simp only[aW]at r;obtain⟨v,b,e,h1,h2⟩:=r;simp only[dD];exact⟨v,b,e,rg h.1 h1,nR h.2 h2⟩
theorem Ea{d:D}{v:V}(h:D_ d=true)(r:Rep Z H d v):au α Z H d v:=by
 cases d with
 |lst g=>
  simp only[Rep]at r;obtain⟨a,b,e,z,c,f⟩:=r;simp only[au];exact⟨a,b,e,z,c,nR h f⟩
 |tup _=>cases h
 |ref _=>cases h
 |dct _ _=>cases h
 |_=>exact rg rfl r
theorem vP:∀{ds:List D}{a:List V},ds.all D_=true->aW Z H ds a->aL (au α Z H) ds a
 |[],a,_,r=>by simp only[aW]at r;subst r;exact .nil
 |d::ds,a,h,r=>by
  simp only[List.all_cons,Bool.and_eq_true]at h;simp only[aW]at r;obtain⟨v,b,rfl,h1,h2⟩:=r;exact .cons (Ea h.1 h1) (vP h.2 h2)
end
variable [aU]
def pureOf(O:c9):List D->Out Rs:=λa=>if a.all D_=true then (match O a []with
  |.ok d _=>if eB d=true then .ok (false,d)else .bad
  |_=>.bad)else .bad
section
variable{P:Program}{w:World}{K:PySem.W.Frag}{mg:Str->Option Value}{base:Heap}{k:Nat}{f:Addr}{fd:FuncData}{ps:List Str}{O:c9}
theorem yY(h:cX P w K mg base iy k f fd ps (dJ (ew mg) O)):cX P w K mg base iy k f fd ps (ji (pureOf O)):=h.imp λC H Q E q=>by
 obtain⟨Z,i,t,d,c,r,e,g⟩:=q;unfold pureOf at e
 by_cases j:i.all D_=true
 .rw[if_pos j]at e
  refine⟨[],Z,[],i,⟨List.nodup_nil,.nil,λa l=>by simp at l,c⟩,vP j r,?_⟩
  cases m:O i []with
  |exc x u=>rw[m]at e;cases e
  |bad=>rw[m]at e;cases e
  |ok d1 u=>
   rw[m]at e;dsimp only at e
   by_cases n:eB d1=true
   .rw[if_pos n]at e
    cases e;intro v y z D p F A;refine g v y Z ⟨λb o B=>p.frm b o B (by simp),λ_ h=>h,λ_ h=>.inl h,λa l=>?_⟩ (.rep (tm n A))
    cases s:H a with
    |none=>exact absurd s (c a l)
    |some o=>rw[p.frm a o s (by simp)];simp
   .rw[if_neg n]at e;cases e
 .rw[if_neg j]at e;cases e
end
end Mir
namespace Mir
open PySem Builtin Builtin.Str
noncomputable def a_(p:Nat->Bool):List Nat->List (List Nat)
 |[]=>[[]]
 |x::r=>if p x then []::a_ p r else match a_ p r with
  |h::t=>(x::h)::t
  |[]=>[[x]]
theorem dR(p:Nat->Bool):∀l,a_ p l≠[]
 |[]=>by simp[a_]
 |x::r=>by
  unfold a_;split
  .simp
  .split<;>simp
theorem ea{p:Nat->Bool}{x:Nat}{r:List Nat}(h:p x=true):a_ p (x::r)=[]::a_ p r:=by
 conv=>lhs;unfold a_
 rw[if_pos h]
theorem fH{p:Nat->Bool}{x:Nat}{r u:List Nat}{t:List (List Nat)}(h:¬ p x=true)(e:a_ p r=u::t):a_ p (x::r)=(x::u)::t:=by
 conv=>lhs;unfold a_
 rw[if_neg h,e]
theorem cS(p:Nat->Bool):∀l:List Nat,(a_ p l).length=1+l.countP p
 |[]=>rfl
 |x::r=>by
  have b:=cS p r;unfold a_
  by_cases h:p x=true
  .rw[if_pos h,List.countP_cons_of_pos h,List.length_cons,b];omega
  .rw[if_neg h,List.countP_cons_of_neg h]
   cases q:a_ p r with
   |nil=>exact absurd q (dR p r)
   |cons a t=>rw[q]at b;simpa using b
theorem hH{p:Nat->Bool}:∀{l:List Nat},(∀c∈l,p c=false)->a_ p l=[l]
 |[],_=>rfl
 |x::r,h=>by
  have a:p x=false:=h x (by simp)
  unfold a_;rw[if_neg (by simp[a]),hH λc b=>h c (by simp[b])]
theorem nS{p:Nat->Bool}{c:Nat}(e:p c=true):∀(a b:List Nat),a_ p (a++c::b)=a_ p a++a_ p b
 |[],b=>ea e
 |x::a,b=>by
  have d:=nS e a b
  show a_ p (x::(a++c::b))=_
  by_cases h:p x=true
  .rw[ea h,ea h,d];rfl
  .cases q:a_ p a with
   |nil=>exact absurd q (dR p a)
   |cons u t=>
    rw[q]at d;rw[fH h d,fH h q];rfl
theorem ec{p:Nat->Bool}:∀{l:List Nat}{q:List Nat},q∈a_ p l->(∀c∈q,p c=false/\c∈l)
 |[],q,h=>by simp[a_]at h;subst h;simp
 |x::r,q,h=>by
  unfold a_ at h
  by_cases a:p x=true
  .rw[if_pos a]at h
   rcases List.mem_cons.mp h with rfl|h
   .simp
   .exact λc hc=>⟨(ec h c hc).1,by simp[(ec h c hc).2]⟩
  .rw[if_neg a]at h
   cases e:a_ p r with
   |nil=>exact absurd e (dR p r)
   |cons u t=>
    rw[e]at h;dsimp only at h;rcases List.mem_cons.mp h with rfl|h
    .intro c hc
     rcases List.mem_cons.mp hc with rfl|hc
     .exact⟨by simpa using a,by simp⟩
     .have:=ec (l:=r) (q:=u) (by rw[e];simp) c hc
      exact⟨this.1,by simp[this.2]⟩
    .intro c hc
     have:=ec (l:=r) (q:=q) (by rw[e];simp[h]) c hc
     exact⟨this.1,by simp[this.2]⟩
noncomputable def inter(c:Nat):List (List Nat)->List Nat
 |[]=>[]
 |[a]=>a
 |a::b::r=>a++c::inter c (b::r)
theorem fO(c:Nat):∀l:List Nat,inter c (a_ (· == c) l)=l
 |[]=>rfl
 |x::r=>by
  have a:=fO c r;unfold a_
  by_cases h:(x==c)=true
  .rw[if_pos h]
   obtain rfl:=eq_of_beq h;cases q:a_ (· == x) r with
   |nil=>exact absurd q (dR _ r)
   |cons u t=>rw[q]at a;show x::inter x (u::t)=_;rw[a]
  .rw[if_neg h]
   cases q:a_ (· == c) r with
   |nil=>exact absurd q (dR _ r)
   |cons u t=>
    rw[q]at a;cases t with
    |nil=>show x::u=_;rw[←a];rfl
    |cons v t=>show x::u++c::inter c (v::t)=_;rw[←a];rfl
theorem hI{p:Nat->Bool}{c:Nat}(d:p c=true):∀{ps:List (List Nat)},ps≠[]->a_ p (inter c ps)=ps.flatMap (a_ p)
 |[],h=>absurd rfl h
 |[a],_=>by show a_ p a=[a].flatMap _;simp
 |a::b::r,_=>by
  show a_ p (a++c::inter c (b::r))=_
  rw[nS d,hI d (ps:=b::r) (by simp)]
  rfl
theorem jH{c:Nat}{ps:List (List Nat)}(b:ps≠[])(h:∀q∈ps,c∉q):a_ (· == c) (inter c ps)=ps:=by
 rw[hI (by simp) b]
 clear b
 induction ps with
 |nil=>rfl
 |cons a r d=>
  rw[List.flatMap_cons,d λq f=>h q (by simp[f]),hH λx g=>by
   have:=h a (by simp)
   simp;intro e;subst e;exact this g]
  rfl
theorem lQ(p q:Nat->Bool):∀l:List Nat,a_ (λc=>p c||q c) l=(a_ p l).flatMap (a_ q)
 |[]=>rfl
 |x::r=>by
  have a:=lQ p q r;cases e:a_ p r with
  |nil=>exact absurd e (dR p r)
  |cons u t=>
   rw[e,List.flatMap_cons]at a
   by_cases b:p x=true
   .rw[ea (by simp[b]),ea b,e,List.flatMap_cons,List.flatMap_cons,a];rfl
   .rw[fH b e,List.flatMap_cons]
    by_cases d:q x=true
    .rw[ea (by simp[d]),ea d,a];rfl
    .cases f:a_ q u with
     |nil=>exact absurd f (dR q u)
     |cons v s=>
      rw[f]at a;rw[fH (by simp[b,d]) a,fH d f];rfl
theorem vQ(p q:Nat->Bool)(l:List Nat):(a_ p l).flatMap (a_ q)=(a_ q l).flatMap (a_ p):=by
 rw[←lQ,←lQ]
 congr 1
 funext c
 exact Bool.or_comm _ _
noncomputable def cT(l:List Nat):Str:=⟨l.toArray⟩
theorem ff(z:Str):cT z.cps.toList=z:=by cases z;simp[cT]
theorem toList_mkS(l:List Nat):(cT l).cps.toList=l:=by simp[cT]
theorem yZ{x y:Str}(h:x.cps.toList=y.cps.toList):x=y:=by rw[←ff x,←ff y,h]
theorem gb(c:Nat):∀ps:List Str,(Str.join ⟨#[c]⟩ ps).cps.toList=inter c (ps.map λz=>z.cps.toList)
 |[]=>rfl
 |[a]=>rfl
 |a::b::r=>by
  have d:=gb c (b::r)
  show(a++⟨#[c]⟩++Str.join ⟨#[c]⟩ (b::r)).cps.toList=a.cps.toList++c::inter c ((b::r).map λz=>z.cps.toList)
  rw[Str.cps_append,Str.cps_append,Array.toList_append,Array.toList_append,d];simp
theorem eO(x y:Str):Txt.split x y≠[]:=by
 have:=(PyProof.Rows.fact_split x y).1;intro e;rw[e]at this;simp at this
theorem dt(z:Str)(c:Nat):Txt.split z ⟨#[c]⟩=(a_ (· == c) z.cps.toList).map cT:=by
 have a:=StrLaws.join_split z ⟨#[c]⟩;have b:=StrLaws.split_free z c;have d:=eO z ⟨#[c]⟩;generalize Txt.split z ⟨#[c]⟩=e at a b d;have f:z.cps.toList=inter c (e.map λz=>z.cps.toList):=by rw[←gb,a]
 rw[f,jH (by simpa using d) (by simpa using b),List.map_map]
 conv=>lhs;rw[←List.map_id e]
 exact List.map_congr_left λz _=>(ff z).symm
theorem vR(z:Str)(c d:Nat):(Txt.replace z ⟨#[c]⟩ ⟨#[d]⟩).cps.toList=inter d (a_ (· == c) z.cps.toList):=by
 rw[StrLaws.replace_one,gb,dt,List.map_map]
 congr 1
 conv=>rhs;rw[←List.map_id (a_ _ _)]
 exact List.map_congr_left λl _=>toList_mkS l
theorem jJ(z:Str)(c d:Nat):Txt.split (Txt.replace z ⟨#[c]⟩ ⟨#[d]⟩) ⟨#[d]⟩=((a_ (· == c) z.cps.toList).flatMap (a_ (· == d))).map cT:=by
 rw[dt,vR,hI (by simp) (dR _ _)]
theorem gC(z:Str)(c:Nat)(y:Str):(Txt.replace z ⟨#[c]⟩ y).length<=z.length+(z.length+2)*y.length:=by
 rw[StrLaws.replace_one];have f:=StrLaws.join_split z ⟨#[c]⟩;have h:=(PyProof.Rows.fact_split z ⟨#[c]⟩).2;generalize Txt.split z ⟨#[c]⟩=d at f h
 have e:∀(w:Str) (d:List Str),(Str.join w d).length+w.length=(d.map (·.length)).sum+max 1 d.length*w.length:=by
  intro w d
  induction d with
  |nil=>show 0+w.length=0+max 1 0*w.length;simp
  |cons a r i=>
   cases r with
   |nil=>show a.length+w.length=_;simp
   |cons b r=>
    show(a++w++Str.join w (b::r)).length+w.length=_
    rw[Str.length_append,Str.length_append,Nat.add_assoc,i];simp only[List.map_cons,List.sum_cons,List.length_cons];rw[show max 1 (r.length+1+1)=max 1 (r.length+1)+1 by omega,Nat.add_mul]
    omega
 have g:=e ⟨#[c]⟩ d;have k:=e y d;rw[f]at g;have j:(⟨#[c]⟩:Str).length=1:=rfl;rw[j]at g;have:max 1 d.length*y.length<=(z.length+2)*y.length:=Nat.mul_le_mul_right _ (by omega)
 omega
theorem lS(z:Str)(c i:Nat):StrLaws.At z ⟨#[c]⟩ z.length i↔z.cps.toList[i]?=some c:=StrLaws.subAt_one z c i
theorem pG(c:Nat)(l:List Nat):PyProof.Rows.cnt c l=((l.countP (· == c):Nat):Int):=by
 induction l with
 |nil=>rfl
 |cons a r b=>
  rw[PyProof.Rows.cnt_cons,b]
  by_cases h:a=c
  .rw[if_pos h,List.countP_cons_of_pos (by simpa using h)];omega
  .rw[if_neg h,List.countP_cons_of_neg (by simpa using h)];omega
theorem nT(z:Str)(c:Nat):dQ z ⟨#[c]⟩=((z.cps.toList.countP (· == c):Nat):Int):=by
 obtain⟨f,a,b⟩:=StrLaws.occ_tight z ⟨#[c]⟩ (Nat.le_refl 1);have:=PyProof.Rows.chain_count z c _ 0 f a b;rw[List.drop_zero,pG]at this;unfold dQ;exact this.symm
theorem nU(z:Str)(c:Nat):(cZ z ⟨#[c]⟩ = -1/\c∉z.cps.toList)\/∃i:Nat,cZ z ⟨#[c]⟩=(i:Int)/\z.cps.toList[i]?=some c/\∀k,k<i->z.cps.toList[k]?≠some c:=by
 unfold cZ;rcases StrLaws.occ_head z ⟨#[c]⟩ 1 (Nat.le_refl 1)with ⟨h,d⟩|⟨i,r,h,a,f⟩
 .rw[h]
  refine .inl ⟨rfl,λg=>?_⟩
  obtain⟨i,a⟩:=List.mem_iff_getElem?.mp g;exact d i ((lS z c i).mpr a)
 .rw[h]
  exact .inr ⟨i,rfl,(lS z c i).mp a,λk b e=>f k b ((lS z c k).mpr e)⟩
theorem lT{z:Str}{c d:Nat}{a b:List Nat}(r:c≠d)(hz:z.cps.toList=a++d::b)(s:d∉a)(t:c∈z.cps.toList):cZ z ⟨#[c]⟩<cZ z ⟨#[d]⟩↔c∈a:=by
 rcases nU z d with ⟨l,g⟩|⟨j,u,e,m⟩
 .exact absurd (by rw[hz];simp) g
 rcases nU z c with ⟨l,g⟩|⟨i,w,f,n⟩
 .exact absurd t g
 rw[w,u]
 have x:j=a.length:=by
  have l:z.cps.toList[a.length]?=some d:=by rw[hz];simp
  have g:¬ a.length<j:=λh=>m _ h l
  have y:¬ j<a.length:=λh=>by
   rw[hz,List.getElem?_append_left h]at e;exact s (List.mem_of_getElem? e)
  omega
 subst x;constructor
 .intro h
  have h:i<a.length:=by omega
  rw[hz,List.getElem?_append_left h]at f;exact List.mem_of_getElem? f
 .intro h
  obtain⟨k,p⟩:=List.mem_iff_getElem?.mp h;have o:=(List.getElem?_eq_some_iff.mp p).1;have:¬ k<i:=λq=>n k q (by rw[hz,List.getElem?_append_left o];exact p)
  omega
theorem nV(z:Str)(c:Nat):kd z ⟨#[c]⟩=decide (z.cps.toList[0]?=some c):=by
 have:=lS z c 0;unfold kd;unfold StrLaws.At at this
 by_cases h:z.cps.toList[0]?=some c
 .have a:=this.mpr h
  rw[decide_eq_true h,a.2,decide_eq_true a.1];rfl
 .have b:¬ (decide (0+(⟨#[c]⟩:Str).length<=z.length)&&subAt z ⟨#[c]⟩ 0)=true:=λe=>h (this.mp (by simpa using e))
  rw[Bool.not_eq_true]at b;rw[decide_eq_false h,b]
noncomputable def tp(c:Nat):Bool:=decide (97<=c)&&decide (c<=122)
def dm(z:Str):Bool:=decide (1<=z.length)&&decide (z.length<=8)&&z.cps.toList.all tp
noncomputable def s3(z:Str):Option Int:=[(("0":Str),(0:Int)),("1",1),("2",2)].lookup z
def s4(z:Str):Bool:=(s3 z).isSome||z==("?":Str)
theorem eP(z:Str):(z="0"/\s3 z=some 0)\/(z="1"/\s3 z=some 1)\/(z="2"/\s3 z=some 2)\/(z≠"0"/\z≠"1"/\z≠"2"/\s3 z=none):=by
 unfold s3
 by_cases a:z="0"
 .subst a;exact .inl ⟨rfl,rfl⟩
 by_cases b:z="1"
 .subst b;exact .inr (.inl ⟨rfl,rfl⟩)
 by_cases c:z="2"
 .subst c;exact .inr (.inr (.inl ⟨rfl,rfl⟩))
 .refine .inr (.inr (.inr ⟨a,b,c,?_⟩))
  have d:(z==("0":Str))=false:=by simpa using a
  have e:(z==("1":Str))=false:=by simpa using b
  have f:(z==("2":Str))=false:=by simpa using c
  simp only[List.lookup_cons,d,e,f,List.lookup_nil]
theorem y9{z:Str}(h:s4 z=true):46∉z.cps.toList/\61∉z.cps.toList:=by
 unfold s4 at h;rcases eP z with ⟨rfl,_⟩|⟨rfl,_⟩|⟨rfl,_⟩|⟨_,_,_,e⟩
 .decide
 .decide
 .decide
 .rw[e]at h
  have:z="?":=by simpa using h
  subst this;decide
theorem y_{z:Str}(h:dm z=true){c:Nat}(a:tp c=false):c∉z.cps.toList:=λb=>by
 unfold dm at h;simp only[Bool.and_eq_true,List.all_eq_true]at h;rw[h.2 c b]at a;cases a
def ey(z:Str):Option (List Str):=if z="-" then some []else if (Txt.split z ",").all dm then some (Txt.split z ",")else none
theorem vS{z:Str}(h:(ey z).isSome=true){c:Nat}(k:tp c=false)(l:c≠44)(m:c≠45):c∉z.cps.toList:=by
 unfold ey at h;split at h
 .rename_i e
  subst e
  show c∉[45]
  simpa using m
 .split at h
  .rename_i j
   intro n;have o:Txt.split z ","=(a_ (· == 44) z.cps.toList).map cT:=dt z 44;rw[o,List.all_map,List.all_eq_true]at j;have p:=fO 44 z.cps.toList
   have g:∀f:List (List Nat),(∀q∈f,c∉q)->c∉inter 44 f:=by
    intro f
    induction f with
    |nil=>intro _;simp[inter]
    |cons a r s=>
     intro d;cases r with
     |nil=>exact d a (by simp)
     |cons b r=>
      show c∉a++44::inter 44 (b::r)
      simp only[List.mem_append,List.mem_cons,not_or];exact⟨d a (by simp),l,s λq i=>d q (by simp[i])⟩
   refine g _ (λq d=>?_) (by rw[p];exact n)
   have:=y_ (j q d) k;rwa[toList_mkS]at this
  .cases h
def BQ(z:Str):Option (Str×List Str):=match Txt.split z ":" with
 |[a,b]=>if dm a then (ey b).map λc=>(a,c)else none
 |_=>none
def pH(z:Str):Option (Str×Str×Option Int):=match Txt.split z "=" with
 |[a,b]=>match Txt.split a "." with
  |[x,y]=>if dm x&&dm y&&s4 b then some (x,y,s3 b)else none
  |_=>none
 |_=>none
def BR(z:Str):Option (Str×Str×Option Int):=match Txt.split (Txt.replace z "." "=") "=" with
 |[x,y,b]=>if dQ z "."=1/\cZ z "."<cZ z "=" then (if dm x&&dm y&&s4 b then some (x,y,s3 b)else none)else none
 |_=>none
def knd(z:Str):Bool:=z==("-":Str)||dm z
def iF(z:Str):Option (List Str×Option Str×Int):=match Txt.split z ">" with
 |[a,b]=>match Txt.split b "=" with
  |[x,y]=>match ey a,s3 y with
   |some c,some i=>if knd x then some (c,if x="-" then none else some x,i)else none
   |_,_=>none
  |_=>none
 |_=>none
def BS(z:Str):Option (List Str×Option Str×Int):=match Txt.split (Txt.replace z ">" "=") "=" with
 |[a,x,y]=>if dQ z ">"=1/\cZ z ">"<cZ z "=" then (match ey a,s3 y with
   |some b,some i=>if knd x then some (b,if x="-" then none else some x,i)else none
   |_,_=>none)else none
 |_=>none
theorem fV(p:Nat->Bool){d:Nat}(c:p d=false)(a b:List Nat):(a++d::b).countP p=a.countP p+b.countP p:=by
 rw[List.countP_append,List.countP_cons_of_neg (by simp[c])]
theorem du{c:Nat}{l:List Nat}(h:l.countP (· == c)=0):c∉l:=λa=>by
 have:=List.countP_pos_iff (p:=(· == c)) (l:=l) |>.mpr ⟨c,a,beq_self_eq_true c⟩
 omega
theorem dj{c:Nat}{l:List Nat}(h:l.countP (· == c)≠0):c∈l:=by
 obtain⟨x,a,b⟩:=List.countP_pos_iff.mp (show 0<l.countP (· == c)by omega)
 obtain rfl:=eq_of_beq b;exact a
theorem Eb{c:Nat}{l:List Nat}(h:l.countP (· == c)=0):a_ (· == c) l=[l]:=hH λx a=>by
 have:=du h;simp;intro e;subst e;exact this a
theorem za{c:Nat}{l:List Nat}(h:l.countP (· == c)=1):∃a b,a_ (· == c) l=[a,b]/\l=a++c::b/\c∉a/\c∉b:=by
 have e:=cS (· == c) l;rw[h]at e
 match q:a_ (· == c) l,e with
 |[a,b],_=>
  refine⟨a,b,rfl,?_,λd=>?_,λd=>?_⟩
  .have:=fO c l
   rw[q]at this;exact this.symm
  .have:=(ec (p:=(· == c)) (l:=l) (q:=a) (by rw[q];simp) c d).1
   simp at this
  .have:=(ec (p:=(· == c)) (l:=l) (q:=b) (by rw[q];simp) c d).1
   simp at this
theorem pI{c d:Nat}(h:c≠d)(l:List Nat):l.countP (λx=>x==c||x==d)=l.countP (· == c)+l.countP (· == d):=by
 induction l with
 |nil=>rfl
 |cons a r e=>
  by_cases b:a=c
  .subst b
   rw[List.countP_cons_of_pos (by simp),List.countP_cons_of_pos (by simp),List.countP_cons_of_neg (by simpa using h),e];omega
  .by_cases f:a=d
   .subst f
    rw[List.countP_cons_of_pos (by simp),List.countP_cons_of_neg (by simpa using b),List.countP_cons_of_pos (by simp),e];omega
   .rw[List.countP_cons_of_neg (by simp[b,f]),List.countP_cons_of_neg (by simpa using b),List.countP_cons_of_neg (by simpa using f),e]
theorem vT(z:Str):pH z=BR z:=by
 have u:Txt.split z "="=(a_ (· == 61) z.cps.toList).map cT:=dt z 61
 have w:Txt.split (Txt.replace z "." "=") "="=((a_ (· == 61) z.cps.toList).flatMap (a_ (· == 46))).map cT:=by
  rw[←vQ];exact jJ z 46 61
 have A:dQ z "."=((z.cps.toList.countP (· == 46):Nat):Int):=nT z 46;have i:=cS (· == 61) z.cps.toList;unfold pH BR;rw[u,w,A];have g:=fO 61 z.cps.toList;have k:=λq j=>ec (p:=(· == 61)) (l:=z.cps.toList) (q:=q) j
 match q:a_ (· == 61) z.cps.toList,i with
 |[],i=>exact absurd q (dR _ _)
 |[a],_=>
  rw[q]at g;have g:a=z.cps.toList:=g;subst g;have m:=cS (· == 46) z.cps.toList
  show none=match ([z.cps.toList].flatMap (a_ (· == 46))).map cT with|[x,y,b]=>_|_=>none
  rw[List.flatMap_singleton];split
  .rename_i x y b B
   have:(a_ (· == 46) z.cps.toList).length=3:=by rw[←List.length_map (f:=cT),B];rfl
   rw[if_neg (by omega)]
  .rfl
 |[a,b],_=>
  rw[q]at g k;have g:a++61::b=z.cps.toList:=g;have n:61∉a:=λh=>by have:=(k a (by simp) 61 h).1;simp at this
  have C:=fV (· == 46) (d:=61) rfl a b;rw[g]at C;have la:=cS (· == 46) a;have o:=cS (· == 46) b;have D:Txt.split (cT a) "."=(a_ (· == 46) a).map cT:=by have:=dt (cT a) 46;rwa[toList_mkS]at this
  show(match Txt.split (cT a) "." with|[x,y]=>if (dm x&&dm y&&s4 (cT b))=true then some (x,y,s3 (cT b))else none|_=>none)=_
  rw[D];have E:([a,b].flatMap (a_ (· == 46)))=a_ (· == 46) a++a_ (· == 46) b:=by simp
  rw[E,List.map_append]
  by_cases F:a.countP (· == 46)=1
  .obtain⟨x,y,G,H,_,_⟩:=za F
   rw[G]
   by_cases s:b.countP (· == 46)=0
   .rw[Eb s]
    show _=(if _/\_ then (if (dm (cT x)&&dm (cT y)&&s4 (cT b))=true then some (cT x,cT y,s3 (cT b))else none)else none)
    rw[if_pos ⟨by omega,(lT (c:=46) (d:=61) (by decide) g.symm n (dj (by omega))).mpr (dj (by omega))⟩]
    rfl
   .have I:s4 (cT b)=false:=by
     cases j:s4 (cT b)with
     |false=>rfl
     |true=>have:=(y9 j).1;rw[toList_mkS]at this;exact absurd (dj s) this
    show(if (dm (cT x)&&dm (cT y)&&s4 (cT b))=true then _ else none)=_
    rw[I,Bool.and_false,if_neg (by simp)]
    split
    .rename_i e
     have:=congrArg List.length e;simp only[List.length_append,List.length_map,List.length_cons,List.length_nil,o]at this;omega
    .rfl
  .have J:∀x y,(a_ (· == 46) a).map cT≠[x,y]:=λx y h=>by
    have:=congrArg List.length h;simp only[List.length_map,List.length_cons,List.length_nil,la]at this;omega
   have K:(match (a_ (· == 46) a).map cT with|[x,y]=>if (dm x&&dm y&&s4 (cT b))=true then some (x,y,s3 (cT b))else none|_=>none)=none:=by
    split
    .rename_i x y h;exact absurd h (J x y)
    .rfl
   rw[K];split
   .rename_i e
    have:=congrArg List.length e;simp only[List.length_append,List.length_map,List.length_cons,List.length_nil,la,o]at this
    by_cases L:a.countP (· == 46)=0
    .rw[if_neg]
     rintro⟨M,t⟩;exact du L ((lT (c:=46) (d:=61) (by decide) g.symm n (dj (by omega))).mp t)
    .rw[if_neg]
     rintro⟨M,t⟩;omega
   .rfl
 |a::b::c::r,i=>
  show none=_
  have m:=cS (λx=>(x==61||x==46)) z.cps.toList
  rw[lQ (· == 61) (· == 46),q,pI (by decide)]at m
  split
  .rename_i e
   have N:=congrArg List.length e;simp only[List.length_map,List.length_cons,List.length_nil]at N;simp only[List.length_cons]at i;rw[if_neg (by omega)]
  .rfl
theorem tq(z:Str):iF z=BS z:=by
 have s:Txt.split z ">"=(a_ (· == 62) z.cps.toList).map cT:=dt z 62;have t:Txt.split (Txt.replace z ">" "=") "="=((a_ (· == 62) z.cps.toList).flatMap (a_ (· == 61))).map cT:=jJ z 62 61;have u:dQ z ">"=((z.cps.toList.countP (· == 62):Nat):Int):=nT z 62;have w:=cS (· == 62) z.cps.toList;unfold iF BS;rw[s,t,u]
 by_cases A:z.cps.toList.countP (· == 62)=1
 .obtain⟨a,b,q,k,B,P⟩:=za A
  rw[q];have C:=fV (· == 61) (d:=62) rfl a b;rw[←k]at C;have la:=cS (· == 61) a;have r:=cS (· == 61) b;have D:Txt.split (cT b) "="=(a_ (· == 61) b).map cT:=by have:=dt (cT b) 61;rwa[toList_mkS]at this
  have E:([a,b].flatMap (a_ (· == 61)))=a_ (· == 61) a++a_ (· == 61) b:=by simp
  rw[E,List.map_append]
  show(match Txt.split (cT b) "=" with|[x,y]=>(match ey (cT a),s3 y with|some f,some i=>if knd x=true then some (f,if x="-" then none else some x,i)else none|_,_=>none)|_=>none)=_
  rw[D]
  by_cases F:b.countP (· == 61)=1
  .obtain⟨x,y,G,e,g,m⟩:=za F
   rw[G]
   by_cases n:a.countP (· == 61)=0
   .rw[Eb n]
    have o:z.cps.toList=(a++62::x)++61::y:=by rw[k,e];simp
    have H:61∉a++62::x:=by
     have:=du n;simp[this,g]
    show _=(if _/\_ then (match ey (cT a),s3 (cT y)with|some f,some i=>if knd (cT x)=true then some (f,if cT x="-" then none else some (cT x),i)else none|_,_=>none)else none)
    rw[if_pos ⟨by omega,(lT (c:=62) (d:=61) (by decide) o H (by rw[k];simp)).mpr (by simp)⟩]
    rfl
   .have I:ey (cT a)=none:=by
     cases J:ey (cT a)with
     |none=>rfl
     |some f=>
      have:=vS (z:=cT a) (by rw[J];rfl) (c:=61) rfl (by decide) (by decide)
      rw[toList_mkS]at this;exact absurd (dj n) this
    show(match ey (cT a),s3 (cT y)with|some f,some i=>if knd (cT x)=true then some (f,if cT x="-" then none else some (cT x),i)else none|_,_=>none)=_
    rw[I]
    show none=_
    split
    .rename_i j
     have:=congrArg List.length j;simp only[List.length_append,List.length_map,List.length_cons,List.length_nil,la]at this;omega
    .rfl
  .have K:∀x y,(a_ (· == 61) b).map cT≠[x,y]:=λx y h=>by
    have:=congrArg List.length h;simp only[List.length_map,List.length_cons,List.length_nil,r]at this;omega
   have p:(match (a_ (· == 61) b).map cT with|[x,y]=>(match ey (cT a),s3 y with|some f,some i=>if knd x=true then some (f,if x="-" then none else some x,i)else none|_,_=>none)|_=>none)=none:=by
    split
    .rename_i x y h;exact absurd h (K x y)
    .rfl
   rw[p];split
   .rename_i j
    have:=congrArg List.length j;simp only[List.length_append,List.length_map,List.length_cons,List.length_nil,la,r]at this;rw[if_neg];rintro⟨Q,L⟩;obtain⟨M,N,_,e,g,m⟩:=za (c:=61) (l:=a) (by omega)
    have o:z.cps.toList=M++61::(N++62::b):=by rw[k,e];simp
    have O:=(lT (c:=62) (d:=61) (by decide) o g (by rw[k];simp)).mp L
    exact B (by rw[e];simp[O])
   .rfl
 .have p:∀x y,(a_ (· == 62) z.cps.toList).map cT≠[x,y]:=λx y h=>by
   have:=congrArg List.length h;simp only[List.length_map,List.length_cons,List.length_nil,w]at this;omega
  split
  .rename_i a b h;exact absurd h (p a b)
  .split
   .rw[if_neg (by omega)]
   .rfl
end Mir
namespace Mir
open PySem
@[simp] theorem Ec:gW .non=some false:=rfl
@[simp] theorem Gg{b:Bool}:gW (.bl b)=some b:=rfl
@[simp] theorem Ed{i:Int}:gW (.int i)=some (i != 0):=rfl
@[simp] theorem Ee{xs:List D}:gW (.lst xs)=some (!xs.isEmpty):=rfl
@[simp] theorem Ef{xs:List D}:gW (.tup xs)=some (!xs.isEmpty):=rfl
section
variable{Γ:kc}{ρ:xA}{a b:Lh}{e:Ex}{i j:Nat}{bw:Bool}
end
section
variable{bw:Bool}{i:Nat}{a b c es:Ex}
end
section
variable{Γ:kc}{ρ:xA}{bw:Bool}{i:Nat}{a b c es:Ex}
def xE(o:Bool)(f:List D->D):D->Out Rs
 |.tup ds=>if small ds.length=true then .ok (o,f ds)else .bad
 |_=>.bad
@[simp] theorem Eg{o:Bool}{f:List D->D}{ds:List D}:xE o f (.tup ds)=if small ds.length=true then .ok (o,f ds)else .bad:=rfl
end
@[simp] theorem Gh{i j:Int}:eA .Add (.int i) (.int j)=.ok (false,.int (i+j)):=rfl
@[simp] theorem Gi{i j:Int}:eA .Sub (.int i) (.int j)=.ok (false,.int (i - j)):=rfl
@[simp] theorem Gj{i j:Int}:eA .Mult (.int i) (.int j)=if (kb i||kb j)=true then .ok (false,.int (i*j))else .bad:=rfl
@[simp] theorem Gk{i j:Int}:eA .FloorDiv (.int i) (.int j)=if (decide (0<j)&&decide (j<1073741824))=true then .ok (false,.int (i / j))else .bad:=rfl
@[simp] theorem Gm{i j:Int}:eA .Mod (.int i) (.int j)=if decide (0<j)=true then .ok (false,.int (i%j))else .bad:=rfl
@[simp] theorem Gn{i j:Int}:eA .Pow (.int i) (.int j)=if (decide (0<=j)&&decide (j<=1000)&&decide (i.natAbs<2 ^ 64))=true then .ok (false,.int (i ^ j.toNat))else .bad:=rfl
@[simp] theorem Eh{i j:Str}:eA .Add (.str i) (.str j)=if small (i.length+j.length)=true then .ok (false,.str (i++j))else .bad:=rfl
@[simp] theorem Ei{i j:List D}:eA .Add (.lst i) (.lst j)=if small (i.length+j.length)=true then .ok (true,.lst (i++j))else .bad:=rfl
@[simp] theorem Ij{x y:D}:bY .Eq x y=if (aK 8 x&&aK 8 y)=true then .ok (dn x y)else .bad:=rfl
@[simp] theorem Ik{x y:D}:bY .NotEq x y=if (aK 8 x&&aK 8 y)=true then .ok (!dn x y)else .bad:=rfl
@[simp] theorem Il{i j:Int}:bY .Lt (.int i) (.int j)=.ok (decide (i<j)):=rfl
@[simp] theorem Im{i j:Int}:bY .LtE (.int i) (.int j)=.ok (decide (i<=j)):=rfl
@[simp] theorem cmp_gt{i j:Int}:bY .Gt (.int i) (.int j)=.ok (decide (j<i)):=rfl
@[simp] theorem Io{i j:Int}:bY .GtE (.int i) (.int j)=.ok (decide (j<=i)):=rfl
@[simp] theorem Ip{x y:D}:bY .In x y=inD x y:=rfl
@[simp] theorem Gp{x y:D}:bY .NotIn x y=inD x y >>= λb=>.ok (!b):=rfl
@[simp] theorem Iq{x y:D}:bY .Is x y=isD x y:=rfl
@[simp] theorem Gq{x y:D}:bY .IsNot x y=isD x y >>= λb=>.ok (!b):=rfl
@[simp] theorem Ir{n:Nat}:aK n .non=true:=by cases n<;>rfl
@[simp] theorem Lm{n:Nat}{b:Bool}:aK n (.bl b)=true:=by cases n<;>rfl
@[simp] theorem Iu{n:Nat}{i:Int}:aK n (.int i)=true:=by cases n<;>rfl
@[simp] theorem Iv{n:Nat}{x:Str}:aK n (.str x)=true:=by cases n<;>rfl
@[simp] theorem Iw{n:Nat}{xs:List D}:aK (n+1) (.lst xs)=xs.all (aK n):=rfl
@[simp] theorem Iy{n:Nat}{xs:List D}:aK (n+1) (.tup xs)=xs.all (aK n):=rfl
@[simp] theorem eq_int{i j:Int}:dn (.int i) (.int j)=(i==j):=rfl
@[simp] theorem Ln{i j:Bool}:dn (.bl i) (.bl j)=(i==j):=rfl
@[simp] theorem eq_str{i j:Str}:dn (.str i) (.str j)=(i==j):=rfl
@[simp] theorem Iz{i j:List D}:dn (.lst i) (.lst j)=ez i j:=rfl
@[simp] theorem ID{i j:List D}:dn (.tup i) (.tup j)=ez i j:=rfl
@[simp] theorem Gr:ez [] []=true:=rfl
@[simp] theorem Ej{x y:D}{xs a:List D}:ez (x::xs) (y::a)=(dn x y&&ez xs a):=rfl
@[simp] theorem IE{y:D}{a:List D}:ez [] (y::a)=false:=rfl
@[simp] theorem IF{y:D}{a:List D}:ez (y::a) []=false:=rfl
theorem rh{z:Str}{i:Int}{c:Nat}(h:small z.length=true)(e:L2.fW z.cps.toList i=some c):oO (.str z) (.int i)=.ok (false,.str (aD c)):=by
 simp only[oO,h,if_pos,e]
@[simp] theorem Gs{xs:List D}{l h:Option Int}:uu (.lst xs) l h=.ok (true,.lst (bZ xs l h)):=rfl
@[simp] theorem ri{z:Str}{l h:Option Int}:uu (.str z) l h=if small z.length=true then .ok (false,.str ⟨(bZ z.cps.toList l h).toArray⟩)else .bad:=rfl
def Ek(f:List Bool->Bool):Option (List Bool)->Out Rs
 |some bs=>.ok (false,.bl (f bs))
 |none=>.bad
@[simp] theorem CL{f:List Bool->Bool}{bs:List Bool}:Ek f (some bs)=.ok (false,.bl (f bs)):=rfl
@[simp] theorem IG{t:Ty}:uw .non t=some false:=rfl
@[simp] theorem Lo{t:Ty}{b:Bool}:uw (.bl b) t=some (t==.bool||t==.int):=rfl
@[simp] theorem ty_int{t:Ty}{i:Int}:uw (.int i) t=some (t==.int):=rfl
@[simp] theorem ty_str{t:Ty}{x:Str}:uw (.str x) t=some (t==.str):=rfl
@[simp] theorem IH{t:Ty}{xs:List D}:uw (.lst xs) t=some (t==.list):=rfl
@[simp] theorem II{t:Ty}{xs:List D}:uw (.tup xs) t=some (t==.tuple):=rfl
@[simp] theorem IJ{t:Ty}{a:List L2.Key}{xs:List D}:uw (.dct a xs) t=some (t==.dict):=rfl
theorem bz{n:Nat}(h:n<=100000):small n=true:=by
 unfold small;rw[decide_eq_true_eq,sizeLine_eq];omega
theorem iG{i:Int}(a : -(2 ^ 64)<i)(b:i<2 ^ 64):kb i=true:=decide_eq_true (by omega)
theorem iH{i:Int}(a : -(2 ^ 62)<i)(b:i<2 ^ 62):mU i=true:=decide_eq_true (by omega)
theorem BU{α:Type}{xs:List α}{i:Int}(b:0<=i)(c:i<xs.length):∃x,x∈xs/\L2.fW xs i=some x:=by
 have a:i.toNat<xs.length:=by omega
 refine⟨xs[i.toNat],List.getElem_mem a,?_⟩;have h:=L2.gi (List.getElem?_eq_getElem a);rw[show(i.toNat:Int)=i by omega]at h
 exact h
@[simp] theorem in_str{x y:Str}:inD (.str x) (.str y)=.ok (c_ x y):=rfl
theorem lU{α:Type}(xs:List α)(a b:Option Int):(bZ xs a b).length<=xs.length:=by
 unfold bZ;rw[List.length_take,List.length_drop];omega
theorem en(n:Nat):∀a:Int,(intsFrom a n).length=n:=by
 induction n with
 |zero=>intro a;rfl
 |succ n b=>intro a;simp[intsFrom,b]
theorem gD{n:Nat}:∀{a:Int}{i:Nat}{d:D},(intsFrom a n)[i]?=some d->d=.int (a+i)/\i<n:=by
 induction n with
 |zero=>intro a i d h;simp[intsFrom]at h
 |succ n b=>
  intro a i d h;cases i with
  |zero=>simp[intsFrom]at h;subst h;exact⟨by simp,by omega⟩
  |succ i=>
   simp[intsFrom]at h;obtain⟨c,e⟩:=b h;exact⟨by rw[c];congr 1;omega,by omega⟩
theorem str_len{z:Str}:z.length=z.cps.toList.length:=by unfold Str.length;simp
theorem jK{c:Nat}:(aD c).length=1:=rfl
noncomputable def L1(xs:List Str):D:=.lst (xs.map .str)
theorem vU{α:Type}(xs:List α)(k:Nat):bZ xs (some (k:Int)) none=xs.drop k:=by
 unfold bZ;rw[HT.mM,HT.qb];rcases Nat.le_total k xs.length with h|h
 .rw[Nat.min_eq_left h]
  exact List.take_of_length_le (by simp)
 .rw[Nat.min_eq_right h,List.drop_eq_nil_of_le (Nat.le_refl _),List.drop_eq_nil_of_le h];simp
theorem vV{α:Type}(xs:List α)(k:Nat):bZ xs none (some (k:Int))=xs.take k:=by
 unfold bZ;rw[HT.mM,HT.qb,List.drop_zero,Nat.sub_zero];rcases Nat.le_total k xs.length with h|h
 .rw[Nat.min_eq_left h]
 .rw[Nat.min_eq_right h,List.take_of_length_le (Nat.le_refl _),List.take_of_length_le h]
@[simp] theorem vW{α:Type}(xs:List α):bZ xs (some 1) none=xs.tail:=by rw[show(1:Int)=((1:Nat):Int)from rfl,vU];simp
noncomputable def freeOf(a:List (List Str)):List Str->Option Str
 |[]=>none
 |n::_=>if ∃t∈a,n∈t.tail then none else some n
def free(a:List (List Str)):Option Str:=a.findSome? (freeOf a)
noncomputable def dq:Option Str->D
 |none=>.non
 |some n=>.str n
@[simp] theorem hJ{x:Str}:isD (.str x) .non=.ok false:=rfl
@[simp] theorem Gu:isD .non .non=.ok true:=rfl
@[simp] theorem IK{x:Int}:isD (.int x) .non=.ok false:=rfl
@[simp] theorem IL{x:List D}:isD (.lst x) .non=.ok false:=rfl
abbrev Fn:=List D->Out Rs
def cU(a:Int->Int->Int->Int)(F:Fn):Prop:=∀c t m,0<=t->t<100000->0<m->0<=a c t m/\a c t m<m/\F [.int c,.int t,.int m]=.ok (false,.int (a c t m))
noncomputable def SC(a:List Int):D:=.lst (a.map .int)
theorem ints_map(a:Int)(n:Nat):intsFrom a n=(List.range n).map λ(i:Nat)=>D.int (a+i):=by
 apply List.ext_getElem?;intro i
 by_cases h:i<n
 .have b:i<(intsFrom a n).length:=by rw[en];exact h
  have e:=(gD (List.getElem?_eq_getElem b)).1;rw[List.getElem?_eq_getElem b,e];simp[h]
 .rw[List.getElem?_eq_none (by rw[en];omega),List.getElem?_eq_none (by simp;omega)]
theorem tr(n:Nat):intsFrom 0 n=(List.range n).map λ(i:Nat)=>D.int i:=by
 rw[ints_map];congr 1;funext i;simp
noncomputable def abc:Str:="abcdefghijklmnopqrstuvwxyz"
theorem BV:∀q:Nat,q<26->abc.cps.toList[q]?=some (97+q):=by decide
theorem rj{q:Int}(a:0<=q)(b:q<26):oO (.str abc) (.int q)=.ok (false,.str (aD (97+q.toNat))):=by
 refine rh (bz (by decide)) ?_
 have:=L2.gi (BV q.toNat (by omega))
 rwa[show((q.toNat:Nat):Int)=q by omega]at this
noncomputable def bs(a:Int->Int->Int->Int)(c:Int):List D:=(List.range 8).map λ(i:Nat)=>.int (a c i 26)
section
variable{Γ:kc}{M:Fn}{μ:Int->Int->Int->Int}{c:Int}{m:Nat}
def Nm(b:Int->Int->Int->Int)(c:Int)(m a k:Nat)(z:Str):Prop:=
 z.length<=8/\if b c 10 4=1/\m<9 then z.length=k+1 else z.cps.toList[a]?=some (97+((b c a 26+k)%26).toNat)
theorem El{a k b:Nat}{z d:Str}(i:k<m)(g:b<m)(j:m<=24)(h:Nm μ c m a k z)(h':Nm μ c m a b d)(e:z=d):k=b:=by
 subst e;obtain⟨_,h⟩:=h;obtain⟨_,h'⟩:=h'
 by_cases f:μ c 10 4=1/\m<9
 .rw[if_pos f]at h h';omega
 .rw[if_neg f]at h h'
  rw[h]at h';have:=Option.some.inj h';omega
end
section
variable{Γ:kc}
noncomputable def behind(a:List (List Str)):List Str:=a.flatMap List.tail
end
@[simp] theorem Lp{xs:List Str}{t:Ty}:uw (L1 xs) t=some (t==.list):=rfl
@[simp] theorem Lq{a b:Bool}:isD (.bl a) (.bl b)=.ok (a==b):=rfl
open L2
section
variable{α β:Type}{Ω az:aE}{ρ:aR}{d x y:D}{ma mb mc mi:EM}{as:AM}{a b:SM}
@[simp] theorem af{a:α}{f:α->aE->aq β}:(aq.ok a Ω).bind f=f a Ω:=rfl
@[simp] theorem IP{f:α->aE->aq β}:(aq.exc x Ω:aq α).bind f=.exc x Ω:=rfl
@[simp] theorem IQ{f:α->aE->aq β}:(aq.bad:aq α).bind f=.bad:=rfl
@[simp] theorem aJ{a:α}{k:α->aE->f_}:cm (.ok a Ω) k=k a Ω:=rfl
@[simp] theorem IS{k:α->aE->f_}:cm (.exc x Ω:aq α) k=.exc x Ω:=rfl
@[simp] theorem IT{k:α->aE->f_}:cm (.bad:aq α) k=.bad:=rfl
@[simp] theorem Em{b:aq D}:gd (.ok d Ω) b=.ok d Ω:=rfl
@[simp] theorem IU{b:aq D}:gd (.exc d Ω) b=.exc d Ω:=rfl
@[simp] theorem vX{b:aq D}:gd .bad b=b:=rfl
@[simp] theorem Af{f:D->aE->aq D}:m1 f ma ρ Ω=(ma ρ Ω).bind f:=rfl
@[simp] theorem aX{f:D->D->aE->aq D}:m2 f ma mb ρ Ω=(ma ρ Ω).bind λx aM=>(mb ρ aM).bind λy cR=>f x y cR:=rfl
@[simp] theorem bt{f:List D->aE->aq D}:mN f as ρ Ω=(as ρ Ω).bind f:=rfl
@[simp] theorem bj:ag ρ Ω=.ok [] Ω:=rfl
@[simp] theorem ai:aa ma as ρ Ω=(ma ρ Ω).bind λx aM=>(as ρ aM).bind λxs cR=>.ok (x::xs) cR:=rfl
noncomputable def vr:Option (Option D)->aE->aq D
 |some (some d),Ω=>.ok d Ω
 |_,_=>.bad
@[simp] theorem cz:vr (some (some d)) Ω=.ok d Ω:=rfl
@[simp] theorem bN{i:Nat}:ab i ρ Ω=vr ρ[i]? Ω:=by
 unfold ab;cases ρ[i]? with
 |none=>rfl
 |some o=>cases o<;>rfl
@[simp] theorem aO:ae d ρ Ω=.ok d Ω:=rfl
@[simp] theorem iI{c:Cell}:fk Ω c=.ok (.ref Ω.length) (Ω++[c]):=rfl
noncomputable def tb(Ω:aE):Option Bool->aq Bool
 |some b=>.ok b Ω
 |none=>.bad
@[simp] theorem aP{t:Bool}:tb Ω (some t)=.ok t Ω:=rfl
@[simp] theorem aQ:dO (.ok d Ω)=tb Ω (fC Ω d):=by simp only[dO];cases fC Ω d<;>rfl
@[simp] theorem ay{t:Bool}:fC Ω (.bl t)=some t:=rfl
@[simp] theorem En:fC Ω .non=some false:=rfl
@[simp] theorem Eo{i:Int}:fC Ω (.int i)=some (i != 0):=rfl
noncomputable def AB(t:Option Bool)(a b:aq D):aq D:=match t with
 |some true=>a
 |some false=>b
 |none=>.bad
@[simp] theorem cj{a b:aq D}:Mir.AB (some true) a b=a:=rfl
@[simp] theorem df{a b:aq D}:Mir.AB (some false) a b=b:=rfl
@[simp] theorem bE:bV ma mb ρ Ω=(ma ρ Ω).bind λx aM=>Mir.AB (fC aM x) (mb ρ aM) (.ok x aM):=by
 unfold bV;cases ma ρ Ω with
 |ok x aM=>
  simp only[af];cases fC aM x with
  |none=>rfl
  |some t=>cases t<;>rfl
 |exc x aM=>rfl
 |bad=>rfl
@[simp] theorem dk:fY ma mb ρ Ω=(ma ρ Ω).bind λx aM=>Mir.AB (fC aM x) (.ok x aM) (mb ρ aM):=by
 unfold fY;cases ma ρ Ω with
 |ok x aM=>
  simp only[af];cases fC aM x with
  |none=>rfl
  |some t=>cases t<;>rfl
 |exc x aM=>rfl
 |bad=>rfl
@[simp] theorem dS:dP ma ρ Ω=(dO (ma ρ Ω)).bind λt aM=>.ok (.bl (!t)) aM:=rfl
@[simp] theorem gc:ou mc ma mb ρ Ω=(dO (mc ρ Ω)).bind λt aM=>if t=true then ma ρ aM else mb ρ aM:=rfl
@[simp] theorem zb{f g:D->aE->aq D}:Bm f g x Ω=gd (f x Ω) (g x Ω):=rfl
@[simp] theorem iJ{f g:D->D->aE->aq D}:eG f g x y Ω=gd (f x y Ω) (g x y Ω):=rfl
@[simp] theorem Gv{f g:List D->aE->aq D}{xs:List D}:nq f g xs Ω=gd (f xs Ω) (g xs Ω):=rfl
@[simp] theorem lV{f g:EM}:eH f g ρ Ω=gd (f ρ Ω) (g ρ Ω):=rfl
@[simp] theorem Gw{n:Nat}:ef Ω n .non=some .non:=by cases n<;>rfl
@[simp] theorem vY{n:Nat}{t:Bool}:ef Ω n (.bl t)=some (.bl t):=by cases n<;>rfl
@[simp] theorem zc{n:Nat}{i:Int}:ef Ω n (.int i)=some (.int i):=by cases n<;>rfl
@[simp] theorem lW{n:Nat}{z:Str}:ef Ω n (.str z)=some (.str z):=by cases n<;>rfl
@[simp] theorem IV{f:α->Option β}:bF f []=some []:=rfl
noncomputable def oc:Option α->Option (List α)->Option (List α)
 |some y,some ys=>some (y::ys)
 |_,_=>none
@[simp] theorem Gx{y:α}{a:List α}:oc (some y) (some a)=some (y::a):=rfl
@[simp] theorem zd{f:α->Option β}{x:α}{xs:List α}:bF f (x::xs)=oc (f x) (bF f xs):=by
 simp only[bF];cases f x<;>cases bF f xs<;>rfl
theorem pJ{a:Type}{f:β->Option a}{g:α->β}{h:α->a}(e:∀x,f (g x)=some (h x)):∀xs:List α,bF f (xs.map g)=some (xs.map h)
 |[]=>rfl
 |x::xs=>by rw[List.map_cons,zd,e,pJ e xs];rfl
@[simp] theorem rk{n:Nat}{xs:List Str}:bF (ef Ω n) (xs.map .str)=some (xs.map .str):=pJ (λ_=>lW) xs
theorem fh{n:Nat}{ds es:List D}(h:bF (ef Ω n) ds=some es):ef Ω (n+1) (.tup ds)=some (.tup es):=by simp only[ef,h,Option.map_some]
theorem gE{n k:Nat}{ds es:List D}(a:Ω[k]?=some (.lst ds))(h:bF (ef Ω n) ds=some es):ef Ω (n+1) (.ref k)=some (.lst es):=by simp only[ef,a,h,Option.map_some]
theorem nW{n k:Nat}{xs:List Str}(a:Ω[k]?=some (.lst (xs.map .str))):ef Ω (n+1) (.ref k)=some (L1 xs):=gE a rk
@[simp] theorem Gy{o:Bool}{i:Int}:dG Ω (.ok (o,.int i))=.ok (.int i) Ω:=rfl
@[simp] theorem IW{o:Bool}{t:Bool}:dG Ω (.ok (o,.bl t))=.ok (.bl t) Ω:=rfl
@[simp] theorem rl{o:Bool}{z:Str}:dG Ω (.ok (o,.str z))=.ok (.str z) Ω:=rfl
@[simp] theorem Gz{o:Bool}:dG Ω (.ok (o,.non))=.ok .non Ω:=rfl
@[simp] theorem GA:dG Ω .bad=.bad:=rfl
def vN(Ω:aE)(f:List D->Out Rs):Option (List D)->aq D
 |some ds=>dG Ω (f ds)
 |none=>.bad
@[simp] theorem ze{f:List D->Out Rs}{ds:List D}:vN Ω f (some ds)=dG Ω (f ds):=rfl
@[simp] theorem rm{f:List D->Out Rs}{xs:List D}:bS f xs Ω=vN Ω f (bF (ef Ω 8) xs):=by unfold bS;cases bF (ef Ω 8) xs<;>rfl
def v1(Ω:aE)(f:D->Out Rs):Option D->aq D
 |some d=>dG Ω (f d)
 |none=>.bad
@[simp] theorem GB{f:D->Out Rs}:v1 Ω f (some d)=dG Ω (f d):=rfl
@[simp] theorem GC{f:D->Out Rs}:su f x Ω=v1 Ω f (ef Ω 8 x):=by unfold su;cases ef Ω 8 x<;>rfl
def v2(Ω:aE)(f:D->D->Out Rs):Option D->Option D->aq D
 |some d,some e=>dG Ω (f d e)
 |_,_=>.bad
@[simp] theorem iK{f:D->D->Out Rs}{e:D}:v2 Ω f (some d) (some e)=dG Ω (f d e):=rfl
@[simp] theorem fP{f:D->D->Out Rs}:eI f x y Ω=v2 Ω f (ef Ω 8 x) (ef Ω 8 y):=by unfold eI;cases ef Ω 8 x<;>cases ef Ω 8 y<;>rfl
@[simp] theorem Ep{z:Str}:uV .len [.str z]=if small z.length=true then .ok (false,.int z.length)else .bad:=rfl
@[simp] theorem vZ{xs:List D}:uV .all [.lst xs]=Ek (λbs=>bs.all id) (ja xs):=rfl
@[simp] theorem Er{i:Int}:uV .int [.int i]=.ok (false,.int i):=rfl
@[simp] theorem GD{k:Bool}:uV .int [.bl k]=.ok (false,.int (if k then 1 else 0)):=rfl
@[simp] theorem jL{F:c9}{xs:List D}:aB F xs Ω=CI (F xs Ω):=rfl
@[simp] theorem IX:CI (.ok d Ω)=.ok d Ω:=rfl
@[simp] theorem zf{op:CmpOp}:cu op x y Ω=v2 Ω (λx y=>do let r ←bY op x y;Out.ok (false,D.bl r)) (ef Ω 8 x) (ef Ω 8 y):=by unfold cu;rw[fP]
@[simp] theorem GF:aw .Eq x y Ω=cu .Eq x y Ω:=rfl
@[simp] theorem GG:aw .NotEq x y Ω=cu .NotEq x y Ω:=rfl
@[simp] theorem GH:aw .Lt x y Ω=cu .Lt x y Ω:=rfl
@[simp] theorem GI:aw .LtE x y Ω=cu .LtE x y Ω:=rfl
@[simp] theorem GJ:aw .Gt x y Ω=cu .Gt x y Ω:=rfl
@[simp] theorem GK:aw .GtE x y Ω=cu .GtE x y Ω:=rfl
@[simp] theorem zg:aw .In x y Ω=gd (cu .In x y Ω) (fX false x y Ω):=rfl
@[simp] theorem BW:aw .NotIn x y Ω=gd (cu .NotIn x y Ω) (fX true x y Ω):=rfl
@[simp] theorem GL:aw .Is x y Ω=gd (eo false x y Ω) (cu .Is x y Ω):=rfl
@[simp] theorem BX:aw .IsNot x y Ω=gd (eo true x y Ω) (cu .IsNot x y Ω):=rfl
@[simp] theorem Es{n:Bool}{k:Nat}:eo n (.ref k) .non Ω=.ok (.bl n) Ω:=rfl
@[simp] theorem CM{n:Bool}{i:Int}:eo n (.int i) y Ω=.bad:=rfl
@[simp] theorem CN{n:Bool}:eo n .non y Ω=.bad:=rfl
@[simp] theorem Et{n:Bool}{t:Bool}:eo n (.bl t) y Ω=.bad:=rfl
@[simp] theorem CO{n:Bool}{z:Str}:eo n (.str z) y Ω=.bad:=rfl
@[simp] theorem v9:ax .Add x y Ω=gd (lA x y Ω) (gd (lB x y Ω) (eI (eA .Add) x y Ω)):=rfl
@[simp] theorem Eu{i:Int}:lB (.int i) y Ω=.bad:=rfl
@[simp] theorem Ew{z:Str}:lB (.str z) y Ω=.bad:=rfl
@[simp] theorem Ey{k:Nat}:lB (.ref k) y Ω=.bad:=rfl
@[simp] theorem Ez{xs a:List D}:lB (.tup xs) (.tup a) Ω=if small (xs.length+a.length)then .ok (.tup (xs++a)) Ω else .bad:=rfl
@[simp] theorem EA:ax .Sub x y Ω=eI (eA .Sub) x y Ω:=rfl
@[simp] theorem CP:ax .Mult x y Ω=eI (eA .Mult) x y Ω:=rfl
@[simp] theorem EB:ax .Mod x y Ω=eI (eA .Mod) x y Ω:=rfl
@[simp] theorem GN:ax .FloorDiv x y Ω=eI (eA .FloorDiv) x y Ω:=rfl
@[simp] theorem GO{i:Int}:cI Ω (.int i)=none:=rfl
@[simp] theorem GP{z:Str}:cI Ω (.str z)=none:=rfl
@[simp] theorem GQ{ds:List D}:cI Ω (.tup ds)=none:=rfl
@[simp] theorem GR{ds:List D}:cI Ω (.lst ds)=some ds:=rfl
theorem bg{k:Nat}{ds:List D}(h:Ω[k]?=some (.lst ds)):cI Ω (.ref k)=some ds:=by simp only[cI,h]
theorem lX{k:Nat}{ds:List D}(h:Ω[k]?=some (.lst ds)):pb Ω (.ref k)=some (k,ds):=by simp only[pb,h]
def ct(Ω:aE):Option (List D)->Option (List D)->aq D
 |some xs,some ys=>if small (xs.length+ys.length)then .ok (.ref Ω.length) (Ω++[.lst (xs++ys)])else .bad
 |_,_=>.bad
@[simp] theorem zh{xs a:List D}:ct Ω (some xs) (some a)=if small (xs.length+a.length)then .ok (.ref Ω.length) (Ω++[.lst (xs++a)])else .bad:=rfl
@[simp] theorem Lr{o:Option (List D)}:ct Ω none o=.bad:=rfl
@[simp] theorem zi:lA x y Ω=ct Ω (cI Ω x) (cI Ω y):=by unfold lA;cases cI Ω x<;>cases cI Ω y<;>rfl
@[simp] theorem zj{ds:List D}:fE Ω (.tup ds)=some ds:=rfl
@[simp] theorem cW{k:Nat}:fE Ω (.ref k)=cI Ω (.ref k):=rfl
@[simp] theorem GS{ds:List D}:fE Ω (.lst ds)=some ds:=rfl
def ixs(Ω:aE):Option (List D)->D->aq D
 |some ds,.int i=>match L2.fW ds i with
  |some d=>.ok d Ω
  |none=>.bad
 |_,_=>.bad
theorem lY:xW x y Ω=ixs Ω (fE Ω x) y:=by unfold xW;cases fE Ω x<;>cases y<;>rfl
theorem v_{ds:List D}{i:Int}(h:L2.fW ds i=some d):ixs Ω (some ds) (.int i)=.ok d Ω:=by simp only[ixs,h]
theorem cC{k:Nat}{ds:List D}{i:Int}(h:Ω[k]?=some (.lst ds))(a:L2.fW ds i=some d):aA (.ref k) (.int i) Ω=.ok d Ω:=by
 unfold aA;rw[iJ,lY,cW,bg h,v_ a];rfl
theorem eQ{ds:List D}{i:Int}(a:L2.fW ds i=some d):aA (.tup ds) (.int i) Ω=.ok d Ω:=by
 unfold aA;rw[iJ,lY,zj,v_ a];rfl
@[simp] theorem zk{xs:List D}:b9 xs Ω=if small xs.length then .ok (.ref Ω.length) (Ω++[.lst xs])else .bad:=rfl
@[simp] theorem GU{xs:List D}:eJ xs Ω=if small xs.length then .ok (.tup xs) Ω else .bad:=rfl
def fl(Ω:aE)(a:List Str)(f:Str):Option (Nat×Str×List (Str×D))->aq D
 |some (_,C,fs)=>if a.contains C then (match fs.lookup f with
  |some d=>.ok d Ω
  |none=>.bad)else .bad
 |none=>.bad
noncomputable def sq(r:f_)(b:SM):f_:=match r with
 |.nx a c=>b a c
 |r=>r
@[simp] theorem aC:sq (.nx ρ Ω) b=b ρ Ω:=rfl
@[simp] theorem Ls:sq (.rt d Ω) b=.rt d Ω:=rfl
@[simp] theorem Lu:sq (.bk ρ Ω) b=.bk ρ Ω:=rfl
@[simp] theorem Lv:sq (.ct ρ Ω) b=.ct ρ Ω:=rfl
@[simp] theorem IY:sq (.exc d Ω) b=.exc d Ω:=rfl
@[simp] theorem IZ:sq .bad b=.bad:=rfl
@[simp] theorem ah:aj a b ρ Ω=sq (a ρ Ω) b:=by unfold aj;cases a ρ Ω<;>rfl
@[simp] theorem cD:ak ρ Ω=.nx ρ Ω:=rfl
@[simp] theorem aN{i:Nat}:aT i ma ρ Ω=cm (ma ρ Ω) λd aM=>.nx (ρ.set i (some d)) aM:=rfl
@[simp] theorem rn:ke ma ρ Ω=cm (ma ρ Ω) λ_ aM=>.nx ρ aM:=rfl
@[simp] theorem br:bf ma ρ Ω=cm (ma ρ Ω) λd aM=>.rt d aM:=rfl
@[simp] theorem bp:dN ma a b ρ Ω=cm (dO (ma ρ Ω)) λt aM=>if t=true then a ρ aM else b ρ aM:=rfl
@[simp] theorem GV:bW (.rt d Ω)=.ok d Ω:=rfl
@[simp] theorem GW:bW (.nx ρ Ω)=.ok .non Ω:=rfl
theorem bH{n k:Nat}{c:SM}{ds:List D}(h:ds.length=k):cQ n k c ds Ω=bW (c (ba n ds) Ω):=by unfold cQ;rw[if_pos h]
@[simp] theorem gF:cJ ma ρ Ω=(ma ρ Ω).bind λx aM=>srcOf aM x:=rfl
theorem eR{ds:List D}(h:fE Ω x=some ds):srcOf Ω x=.ok (.seq x) Ω:=by unfold srcOf;rw[h]
@[simp] theorem wa:dd as ρ Ω=(as ρ Ω).bind qU:=rfl
@[simp] theorem GX{j:Int}:qU [.int j] Ω=if mU j then .ok (.ints 0 j.toNat) Ω else .bad:=rfl
@[simp] theorem gG:f9 (.seq x) Ω=fE Ω x:=rfl
@[simp] theorem EC{a:Int}{n:Nat}:f9 (.ints a n) Ω=some (intsFrom a n):=rfl
@[simp] theorem lZ{a:D->aR->Option aR}{mi:IM}:fo a mi b ρ Ω=cm (mi ρ Ω) λs aM=>eM a s b fuel 0 ρ aM:=rfl
def Ag(r:f_)(I:aR->aE->Prop)(R:f_->Prop):Prop:=match r with
 |.nx a b=>I a b
 |.ct a b=>I a b
 |.bk a b=>R (.nx a b)
 |r=>R r
theorem gH{k:D->aR->Option aR}{src:Src}{b:SM}{ds:List D}(I:Nat->aR->aE->Prop){R:f_->Prop}(l:∀i ρ Ω,I i ρ Ω->f9 src Ω=some ds)
  (h:∀(i:Nat) (d:D) ρ Ω,ds[i]?=some d->I i ρ Ω->∃e,k d ρ=some e/\Ag (b e Ω) (I (i+1)) R) (p:∀ρ Ω,I ds.length ρ Ω->R (.nx ρ Ω)) :
  ∀(f i:Nat) ρ Ω,ds.length - i<f->i<=ds.length->I i ρ Ω->R (eM k src b f i ρ Ω):=by
 intro f
 induction f with
 |zero=>intro i ρ Ω r;omega
 |succ f o=>
  intro i ρ Ω r t n;simp only[eM,l i ρ Ω n]
  by_cases j:i<ds.length
  .have m:ds[i]?=some ds[i]:=List.getElem?_eq_getElem j
   rw[m];dsimp only;obtain⟨e,s,c⟩:=h i ds[i] ρ Ω m n;rw[s];dsimp only;cases q:b e Ω with
   |nx g a=>rw[q]at c;exact o (i+1) g a (by omega) j c
   |ct g a=>rw[q]at c;exact o (i+1) g a (by omega) j c
   |bk g a=>rw[q]at c;exact c
   |rt d a=>rw[q]at c;exact c
   |exc x a=>rw[q]at c;exact c
   |bad=>rw[q]at c;exact c
  .have m:ds[i]?=none:=List.getElem?_eq_none (by omega)
   rw[m];have:i=ds.length:=by omega
   subst this;exact p ρ Ω n
theorem zl{nc:Bool}{mc me:EM}{τ:aR}{src:Src}{ds:List D}{p:D->Bool}{g:D->D}(h:f9 src Ω=some ds)(j:∀d∈ds,lL nc mc ([some d]++τ) Ω=.ok (p d) Ω)(k:∀d∈ds,p d=true->me ([some d]++τ) Ω=.ok (g d) Ω) :
  ∀(f i:Nat) (acc:List D),ds.length - i<f->i<=ds.length->acc.length+ds.length<=100000+i->sQ nc mc me 0 τ src f i acc Ω=.ok (acc++((ds.drop i).filter p).map g) Ω:=by
 intro f
 induction f with
 |zero=>intro i acc l;omega
 |succ f c=>
  intro i acc l q r;simp only[sQ,h]
  by_cases a:i<ds.length
  .have b:ds[i]?=some ds[i]:=List.getElem?_eq_getElem a
   have e:ds[i]∈ds:=List.getElem_mem a;rw[b];have m:lK 0 ds[i]=some [some ds[i]]:=rfl;simp only[m];rw[if_pos (bz (n:=acc.length+1) (by omega)),j _ e,List.drop_eq_getElem_cons a,List.filter_cons]
   cases o:p ds[i]with
   |true=>
    dsimp only;rw[k _ e o];dsimp only;rw[c (i+1) _ (by omega) a (by rw[List.length_append];simp;omega)]
    simp
   |false=>
    dsimp only;rw[c (i+1) _ (by omega) a (by omega)]
    simp
  .have b:ds[i]?=none:=List.getElem?_eq_none (by omega)
   rw[b,List.drop_of_length_le (by omega)]
   simp
theorem jM{me mc:EM}{nc:Bool}{mi:IM}{cap:List Nat}{src:Src}{ds:List D}{p:D->Bool}{g:D->D}(a:mi ρ Ω=.ok src az)(b:f9 src az=some ds)(c:∀d∈ds,lL nc mc ([some d]++gZ cap ρ) az=.ok (p d) az)(e:∀d∈ds,p d=true->me ([some d]++gZ cap ρ) az=.ok (g d) az)(f:ds.length<=90000) :
  cg me nc mc mi 0 cap ρ Ω=.ok (.ref az.length) (az++[.lst ((ds.filter p).map g)]):=by
 unfold cg;rw[a];dsimp only;rw[zl b c e fuel 0 [] (by unfold fuel;omega) (Nat.zero_le _) (by simp;omega)]
 rfl
theorem zm{k:Nat}{c:Cell}{l:aE}(h:Ω[k]?=some c):(Ω++l)[k]?=some c:=by rw[List.getElem?_append_left (List.getElem?_eq_some_iff.mp h).1];exact h
theorem aF{c:Cell}{l:aE}:(Ω++c::l)[Ω.length]?=some c:=by rw[List.getElem?_append_right (Nat.le_refl _)];simp
theorem pK{j k:Nat}{c e:Cell}(h:Ω[k]?=some c)(a:k≠j):(Ω.set j e)[k]?=some c:=by rw[List.getElem?_set_ne (Ne.symm a)];exact h
theorem pL{k:Nat}{c e:Cell}(h:Ω[k]?=some c):(Ω.set k e)[k]?=some e:=List.getElem?_set_self (List.getElem?_eq_some_iff.mp h).1
theorem wb{k:Nat}{c:Cell}(h:Ω[k]?=some c):k<Ω.length:=(List.getElem?_eq_some_iff.mp h).1
structure av(fp:List Nat)(Ω az:aE):Prop where
 len:Ω.length<=az.length
 get:∀k c,Ω[k]?=some c->k∉fp->az[k]?=some c
theorem av.refl{a:List Nat}:av a Ω Ω:=⟨Nat.le_refl _,λ_ _ h _=>h⟩
theorem av.trans{b:List Nat}{aM cR a:aE}(h:av b aM cR)(h':av b cR a):av b aM a:=⟨Nat.le_trans h.len h'.len,λk c q n=>h'.get k c (h.get k c q n) n⟩
theorem av.app{a:List Nat}{l:aE}:av a Ω (Ω++l):=⟨by simp,λk c h _=>zm h⟩
theorem av.set{a:List Nat}{j:Nat}{c:Cell}(h:j∈a):av a Ω (Ω.set j c):=⟨by simp,λk e q n=>pK q λz=>n (z▸h)⟩
theorem av.sub{a b:List Nat}(h:av a Ω az)(d:∀k∈a,k∈b):av b Ω az:=⟨h.len,λk c q n=>h.get k c q λz=>n (d k z)⟩
end
section
variable{Ω az:aE}{ρ:aR}{d x y:D}{k:Nat}{ws:List Str}{w:Str}{L:List (List Str)}{rs:List Nat}
theorem fQ{ds:List D}(h:Ω[k]?=some (.lst ds)):aH .tuple [.ref k] Ω=.ok (.tup ds) Ω:=by
 show jv [.ref k] Ω=_
 simp only[jv,bg h]
theorem l9{ds:List D}(h:Ω[k]?=some (.lst ds)):aH .len [.ref k] Ω=.ok (.int ds.length) Ω:=by
 show gd (uU [.ref k] Ω) _=_
 simp only[uU,cW,bg h];rfl
theorem pM{ds:List D}{d:D}(h:Ω[k]?=some (.lst ds))(a:ds.length<=1000):cx (.ref k) [d] Ω=.ok .non (Ω.set k (.lst (ds++[d]))):=by
 simp only[cx,lX h];rw[if_pos (bz (by omega))]
theorem zo{ds:List D}(h:Ω[k]?=some (.lst ds)):sF Ω (.ref k)=true:=by simp only[sF,bg h];rfl
theorem ED{mc me:EM}{τ:aR}{src:Src}{ds:List D}{g:D->D}(I:aE->Prop)(j:∀Ω,I Ω->f9 src Ω=some ds)(k:∀d∈ds,∀Ω,I Ω->∃az,me ([some d]++τ) Ω=.ok (g d) az/\I az) :
  ∀(f i:Nat) (acc:List D) Ω,I Ω->ds.length - i<f->i<=ds.length->acc.length+ds.length<=100000+i->∃az,sQ true mc me 0 τ src f i acc Ω=.ok (acc++(ds.drop i).map g) az/\I az:=by
 intro f
 induction f with
 |zero=>intro i acc Ω b l;omega
 |succ f m=>
  intro i acc Ω b l w x;simp only[sQ,j Ω b]
  by_cases a:i<ds.length
  .have c:ds[i]?=some ds[i]:=List.getElem?_eq_getElem a
   have o:ds[i]∈ds:=List.getElem_mem a;rw[c];have p:lK 0 ds[i]=some [some ds[i]]:=rfl;obtain⟨e,q,r⟩:=k _ o Ω b;have s:lL true mc ([some ds[i]]++τ) Ω=.ok true Ω:=rfl;simp only[p];rw[if_pos (bz (n:=acc.length+1) (by omega)),s,List.drop_eq_getElem_cons a]
   dsimp only;rw[q];dsimp only;obtain⟨h,t,u⟩:=m (i+1) (acc++[g ds[i]]) e r (by omega) a (by rw[List.length_append];simp;omega)
   exact⟨h,by rw[t,List.append_assoc];rfl,u⟩
  .have c:ds[i]?=none:=List.getElem?_eq_none (by omega)
   rw[c,List.drop_of_length_le (by omega)]
   exact⟨Ω,by simp,b⟩
theorem BY{me mc:EM}{mi:IM}{cap:List Nat}{src:Src}{ds:List D}{g:D->D}(I:aE->Prop)(a:mi ρ Ω=.ok src az)(b:I az)(c:∀Ω,I Ω->f9 src Ω=some ds)(e:∀d∈ds,∀Ω,I Ω->∃az,me ([some d]++gZ cap ρ) Ω=.ok (g d) az/\I az)(i:ds.length<=90000) :
  ∃cR,cg me true mc mi 0 cap ρ Ω=.ok (.ref cR.length) (cR++[.lst (ds.map g)])/\I cR:=by
 obtain⟨cR,f,h⟩:=ED (mc:=mc) I c e fuel 0 [] az b (by unfold fuel;omega) (Nat.zero_le _) (by simp;omega)
 refine⟨cR,?_,h⟩;unfold cg;rw[a];dsimp only;rw[f];rfl
theorem hP{a:aE->D->Bool}{f:D->List D->aE->aq D}{b:EM}{as:AM}(c:b ρ Ω=.ok x az)(h:a az x=true):bx a f b as ρ Ω=(as ρ az).bind λxs cR=>f x xs cR:=by
 unfold bx;rw[c]
 show(if a az x=true then _ else _)=_
 rw[if_pos h]
end
variable [aU]
section
variable{Ω az aM cR:aE}{ρ:aR}{k q:Nat}{x y:D}
theorem av.new{a:List Nat}(h:av [] Ω aM)(h':av a aM cR)(b:∀j∈a,Ω.length<=j):av [] Ω cR:=⟨Nat.le_trans h.len h'.len,λk c e _=>h'.get k c (h.get k c e (by simp)) λz=>by have:=b k z;have:=wb e;omega⟩
theorem Ah.up{a:List Nat}(h:av [] Ω az):av a Ω az:=h.sub (by simp)
@[simp] theorem wc{z:Str}:aA (.str z) y Ω=v2 Ω oO (some (.str z)) (ef Ω 8 y):=by
 unfold aA;rw[iJ,iJ,lY,fP];simp[fE,cI,ixs,DM,Bo]
@[simp] theorem nX{z:Str}{l h:Option Int}:ip (.str z) l h Ω=dG Ω (uu (.str z) l h):=rfl
@[simp] theorem jN{b c d:EM}{e f:Bool}:bL b e c f d ρ Ω=(b ρ Ω).bind λx aM=>(d_ e c ρ aM).bind λl cR=>(d_ f d ρ cR).bind λh a=>ip x l h a:=rfl
@[simp] theorem l_{m:EM}:d_ true m ρ Ω=.ok none Ω:=rfl
noncomputable def Lw(Ω:aE):D->aq (Option Int)
 |.int i=>.ok (some i) Ω
 |_=>.bad
@[simp] theorem mf{m:EM}:d_ false m ρ Ω=(m ρ Ω).bind λd aM=>Lw aM d:=by
 simp only[d_,Bool.false_eq_true,if_false]
 congr 1
@[simp] theorem mj{i:Int}:Lw Ω (.int i)=.ok (some i) Ω:=rfl
end
def nC:EM:=cg (m2 aA (ab 2) (m2 (ax .Mod) (m2 (ax .Add) (ab 1) (m2 (ax .Mult) (ab 0) (ab 3))) (ae (.int 26)))) true (ae .non) (dd (aa (ae (.int 8)) ag)) 0 [4,3,5]
def nD:EM:=cg (bL (ab 1) true (ae .non) false (m2 (ax .Add) (ab 0) (ae (.int 1)))) true (ae .non) (dd (aa (ab 2) ag)) 0 [6]
section
variable{Ω:aE}{F:List D->Out Rs}{δ:List Int->Int->Int->Int}{ns:List Int}
end
section
variable{κ β:Type}[DecidableEq κ]
end
section
variable{Ω az:aE}{F:List D->Out Rs}{δ:List Int->Int->Int->Int}{ns:List Int}{t:Nat}{kvs:List (List Key×D)}
end
theorem tu{O:c9}{ds:List D}{d:D}{az:aE}(a:ds.all D_=true)(h:O ds []=.ok d az)(b:eB d=true):pureOf O ds=.ok (false,d):=by
 unfold pureOf;rw[if_pos a,h];dsimp only;rw[if_pos b]
def EE:SM:=(aj (aT 3 (m2 (ax .FloorDiv) (ab 3) (ae (.int 840)))) ak)
def EF:SM:=(dN (bV (m2 (aw .Eq) (m2 (ax .Mod) (ab 0) (ae (.int 2))) (ae (.int 1))) (m2 (aw .Gt) (ab 0) (m2 (ax .Pow) (ae (.int 10)) (ae (.int 18)))))
 (aj (fo (de 4) (dd (aa (ab 1) ag)) EE)
 (aj (bf (m2 (ax .Mod) (m2 (ax .Mod) (ab 3) (ae (.int 840))) (ab 2)))
 ak))
 ak)
def Lx:SM:=(aj (aT 5 (mN b9 (aa (ae (.int 48271)) (aa (ae (.int 69621)) (aa (ae (.int 40692)) (aa (ae (.int 39373)) (aa (ae (.int 16807)) (aa (ae (.int 30323)) (aa (ae (.int 21403)) (aa (ae (.int 62089)) (aa (ae (.int 45742)) (aa (ae (.int 37907)) (aa (ae (.int 53611)) (aa (ae (.int 28411)) (aa (ae (.int 59393)) (aa (ae (.int 33391)) ag))))))))))))))))
 (aj (aT 6 (m2 (ax .Mod) (m2 (ax .Mult) (m2 (ax .Add) (m2 (ax .Mod) (ab 0) (ae (.int 1000000007))) (ae (.int 11))) (m2 aA (ab 5) (m2 (ax .Mod) (ab 1) (ae (.int 14))))) (ae (.int 2147483629))))
 (aj (aT 7 (m2 (ax .Mod) (m2 (ax .Mult) (ab 6) (m2 (ax .Add) (ab 6) (ab 1))) (ae (.int 1999999973))))
 (aj (bf (m2 (ax .Mod) (m2 (ax .FloorDiv) (m2 (ax .Mod) (m2 (ax .Mult) (ab 7) (ae (.int 16807))) (ae (.int 998244353))) (ae (.int 1000))) (ab 2)))
 ak))))
def nY:SM:=
 (aj (aT 3 (m2 (ax .FloorDiv) (ab 0) (ae (.int 2))))
 (aj EF Lx))
@[simp] theorem EG{x y:D}{Ω:aE}:ax .Pow x y Ω=eI (eA .Pow) x y Ω:=rfl
theorem zp{c t m:Int}(J:0<=t)(s:t<100000)(f:0<m):∃r,0<=r/\r<m/\pureOf (cQ 8 3 nY) [.int c,.int t,.int m]=.ok (false,.int r):=by
 have g:∃r a,0<=r/\r<m/\cQ 8 3 nY [.int c,.int t,.int m] []=.ok (.int r) a:=by
  rw[bH (by rfl)]
  have u:ba 8 [D.int c,.int t,.int m]=[some (.int c),some (.int t),some (.int m),none,none,none,none,none]:=rfl;rw[u];unfold nY;have w:(aT 3 (m2 (ax .FloorDiv) (ab 0) (ae (.int 2)))) [some (.int c),some (.int t),some (.int m),none,none,none,none,none] []=.nx [some (.int c),some (.int t),some (.int m),some (.int (c / 2)),none,none,none,none] []:=by simp
  rw[ah,w,aC,ah]
  by_cases j:c%2=1/\1000000000000000000<c
  .have k:mU t=true:=iH (by omega) (by omega)
   have l:∃x s4,eM (de 4) (.ints 0 t.toNat) EE fuel 0 [some (.int c),some (.int t),some (.int m),some (.int (c / 2)),none,none,none,none] []=.nx [some (.int c),some (.int t),some (.int m),some (.int x),s4,none,none,none] []:=by
    refine gH (R:=λr=>∃x s4,r=.nx [some (.int c),some (.int t),some (.int m),some (.int x),s4,none,none,none] []) (ds:=intsFrom 0 t.toNat) (λ_ n o=>∃x s4,n=[some (.int c),some (.int t),some (.int m),some (.int x),s4,none,none,none]/\o=[]) (λ_ _ _ _=>rfl) ?_ ?_ fuel 0 _ _ (by rw[en];unfold fuel;omega) (Nat.zero_le _) ⟨_,_,rfl,rfl⟩
    .rintro i d n o p ⟨x,s4,rfl,rfl⟩
     refine⟨_,rfl,?_⟩;have e:EE [some (.int c),some (.int t),some (.int m),some (.int x),some d,none,none,none] []=.nx [some (.int c),some (.int t),some (.int m),some (.int (x / 840)),some d,none,none,none] []:=by simp[EE]
     show Ag (EE [some (.int c),some (.int t),some (.int m),some (.int x),some d,none,none,none] []) _ _
     rw[e];exact⟨_,_,rfl,rfl⟩
    .rintro n o ⟨x,s4,rfl,rfl⟩
     exact⟨x,s4,rfl⟩
   obtain⟨x,s4,l⟩:=l;refine⟨x%840%m,[],Int.emod_nonneg _ (by omega),Int.emod_lt_of_pos _ f,?_⟩
   simp[EF,j.1,j.2,k,l,f]
  .obtain⟨d,p,e⟩:=BU (xs:=[D.int 48271,.int 69621,.int 40692,.int 39373,.int 16807,.int 30323,.int 21403,.int 62089,.int 45742,.int 37907,.int 53611,.int 28411,.int 59393,.int 33391]) (i:=t%14) (Int.emod_nonneg _ (by omega)) (Int.emod_lt_of_pos _ (by omega))
   obtain⟨v,rfl⟩:∃v,d=.int v:=by
    simp only[List.mem_cons,List.not_mem_nil,or_false]at p;rcases p with h|h|h|h|h|h|h|h|h|h|h|h|h|h<;>exact⟨_,h⟩
   have y:([]++[Cell.lst [D.int 48271,.int 69621,.int 40692,.int 39373,.int 16807,.int 30323,.int 21403,.int 62089,.int 45742,.int 37907,.int 53611,.int 28411,.int 59393,.int 33391]]:aE)[0]?=some (.lst [D.int 48271,.int 69621,.int 40692,.int 39373,.int 16807,.int 30323,.int 21403,.int 62089,.int 45742,.int 37907,.int 53611,.int 28411,.int 59393,.int 33391]):=rfl;have q:=cC y e;have A:kb (c%1000000007+11)=true:=iG (by omega) (by omega)
   have B:kb ((c%1000000007+11)*v%2147483629)=true:=iG (by omega) (by omega)
   have C:kb ((c%1000000007+11)*v%2147483629*((c%1000000007+11)*v%2147483629+t)%1999999973)=true:=iG (by omega) (by omega)
   have rI:EF [some (.int c),some (.int t),some (.int m),some (.int (c / 2)),none,none,none,none] []=.nx [some (.int c),some (.int t),some (.int m),some (.int (c / 2)),none,none,none,none] []:=by
    by_cases b:c%2=1
    .have E:¬ 1000000000000000000<c:=λz=>j ⟨b,z⟩
     simp[EF,b,E]
    .have F:(c%2==1)=false:=by simpa using b
     simp[EF,F]
   refine⟨(c%1000000007+11)*v%2147483629*((c%1000000007+11)*v%2147483629+t)%1999999973*16807%998244353 / 1000%m,([]++[Cell.lst [D.int 48271,.int 69621,.int 40692,.int 39373,.int 16807,.int 30323,.int 21403,.int 62089,.int 45742,.int 37907,.int 53611,.int 28411,.int 59393,.int 33391]]:aE),Int.emod_nonneg _ (by omega),Int.emod_lt_of_pos _ f,?_⟩
   rw[rI,aC];have G:(aT 5 (mN b9 (aa (ae (.int 48271)) (aa (ae (.int 69621)) (aa (ae (.int 40692)) (aa (ae (.int 39373)) (aa (ae (.int 16807)) (aa (ae (.int 30323)) (aa (ae (.int 21403)) (aa (ae (.int 62089)) (aa (ae (.int 45742)) (aa (ae (.int 37907)) (aa (ae (.int 53611)) (aa (ae (.int 28411)) (aa (ae (.int 59393)) (aa (ae (.int 33391)) ag)))))))))))))))) [some (.int c),some (.int t),some (.int m),some (.int (c / 2)),none,none,none,none] []=.nx [some (.int c),some (.int t),some (.int m),some (.int (c / 2)),none,some (.ref 0),none,none] ([]++[Cell.lst [D.int 48271,.int 69621,.int 40692,.int 39373,.int 16807,.int 30323,.int 21403,.int 62089,.int 45742,.int 37907,.int 53611,.int 28411,.int 59393,.int 33391]]):=rfl;unfold Lx;rw[ah,G,aC];generalize ([]++[Cell.lst [D.int 48271,.int 69621,.int 40692,.int 39373,.int 16807,.int 30323,.int 21403,.int 62089,.int 45742,.int 37907,.int 53611,.int 28411,.int 59393,.int 33391]]:aE)=H at q;simp[q,A,B,C,f]
 obtain⟨r,a,I,b,e⟩:=g;exact⟨r,I,b,tu rfl e rfl⟩
section
variable{Ω az:aE}{ρ:aR}
def Mv(Ω:aE)(j:Nat)(a:List Str):Prop:=Ω[j]?=some (.lst (a.map .str))
def I_(Ω:aE)(a:List Nat)(b:List (List Str)):Prop:=aL (Mv Ω) a b
structure Rw(Ω:aE)(k:Nat)(js:List Nat)(rs:List (List Str)):Prop where
 ce:Ω[k]?=some (.lst (js.map .ref))
 al:I_ Ω js rs
section
variable{k:Nat}{js:List Nat}{rs:List (List Str)}{row:List Str}{n:Str}
theorem I_.len(h:I_ Ω js rs):rs.length=js.length:=aL.length h
theorem Rw.len(R:Rw Ω k js rs):rs.length=js.length:=R.al.len
theorem wd{j:Nat}{ds:List D}(h:Ω[j]?=some (.lst ds)):fC Ω (.ref j)=some (!ds.isEmpty):=by simp only[fC,h]
end
end
open PySem.Spec PyProof.Rows
section
variable{P:Program}{w:World}{K:PySem.W.Frag}{mg:Str->Option Value}{base:Heap}{T:bb}{k:Nat}
end
end Mir
namespace Mir
open PySem PySem.Spec PyProof.Rows L2
section
variable{X:Cx}{pins:List (Addr×Obj)}{σ:L2.St}{s:Shared}
end
variable [aU]
section
variable{κ:Str->Addr->Prop}{α gn:List Addr}{Z Z0:Addr->Prop}{Ω:aE}{H H0 H2:Hp}{ρ:aR}{σ:L2.St}
end
section
variable{P:Program}{w:World}{K:PySem.W.Frag}{mg:Str->Option Value}{base:Heap}{T T2:bb}{k:Nat}
end
section
variable{P:Program}{w:World}{K:PySem.W.Frag}{mg:Str->Option Value}{base:Heap}{T:bb}{k:Nat}
end
end Mir
namespace Mir
open PySem L2
variable [aU]
section
variable{Ω az:aE}{ρ:aR}{σ:Str->Int}{t kl:Nat}{kvs:List (List Key×D)}{line:List Str}{w x:Str}
theorem zq{ds:List D}{n:Nat}:bZ ds none (some (n:Int))=ds.take n:=vV ds n
theorem BZ{n:Nat}(h:Ω[kl]?=some (.lst (line.map .str))):ip (.ref kl) none (some (n:Int)) Ω=.ok (.ref Ω.length) (Ω++[.lst ((line.take n).map .str)]):=by
 simp only[ip,bg h,iI,zq,List.map_take]
def oB(M:List (List D->c9)):SM:=(aj (aT 5 (BJ M 2 (aa (ab 4) (aa (ab 1) ag))))
 (aj (dN (m2 (aw .NotEq) (ab 5) (ae (.int 0)))
 (aj (bf (mN eJ (aa (mN (aH .tuple) (aa (ab 3) ag)) (aa (ab 4) (aa (ab 5) ag)))))
 ak)
 ak)
 (aj (ke (bx sF cx (ab 3) (aa (ab 4) ag)))
 ak)))
@[simp] theorem GY{a:Ty}{ds:List D}:cA a (.tup ds) Ω=.ok (.bl (a==.tuple)) Ω:=rfl
@[simp] theorem GZ{a:Ty}{z:Str}:cA a (.str z) Ω=.ok (.bl (a==.str)) Ω:=rfl
@[simp] theorem G8{a:Ty}:cA a .non Ω=.ok (.bl false) Ω:=rfl
@[simp] theorem EH{ds:List D}:aH .len [.tup ds] Ω=.ok (.int ds.length) Ω:=rfl
theorem tw{a b c:D}:aA (.tup [a,b,c]) (.int 0) Ω=.ok a Ω:=eQ rfl
theorem tB{a b c:D}:aA (.tup [a,b,c]) (.int 1) Ω=.ok b Ω:=eQ rfl
theorem EI{a b c:D}:aA (.tup [a,b,c]) (.int 2) Ω=.ok c Ω:=eQ rfl
theorem zr{n:Nat}{ps:List Str}{f:D}{v:Int}(a:f=.non\/∃x,f=.str x):ef Ω (n+2) (.tup [.tup (ps.map .str),f,.int v])=some (.tup [.tup (ps.map .str),f,.int v]):=by
 refine fh ?_;have:=fh (Ω:=Ω) (n:=n) (rk (Ω:=Ω) (n:=n) (xs:=ps));rcases a with rfl|⟨x,rfl⟩<;>simp[this]
end
section
variable{Ω az:aE}{ρ:aR}
end
section
variable{Ω az:aE}{ρ:aR}{σ:Str->Int}{kl fn b:Nat}{line ys:List Str}{w:Str}{M:List (List D->c9)}{fp:List Nat}{I:List Str->aE->Prop}
theorem B8{i:Nat}{us:List Str}(h:Ω[kl]?=some (.lst (us.map .str))):ip (.ref kl) (some (i:Int)) none Ω=.ok (.ref Ω.length) (Ω++[.lst ((us.drop i).map .str)]):=by
 simp only[ip,bg h,iI,vU,List.map_drop]
end
section
variable{Ω az:aE}{ρ:aR}{k:Nat}{js:List Nat}{rs:List (List Str)}{row:List Str}{n:Str}
end
theorem zt:∃e,cU e (pureOf (cQ 8 3 nY)):=by
 have h:∀c t m:Int,∃r,0<=t->t<100000->0<m->0<=r/\r<m/\pureOf (cQ 8 3 nY) [.int c,.int t,.int m]=.ok (false,.int r):=λc t m=>by
  by_cases d:0<=t/\t<100000/\0<m
  .obtain⟨r,f,g,i⟩:=zp (c:=c) d.1 d.2.1 d.2.2
   exact⟨r,λ_ _ _=>⟨f,g,i⟩⟩
  .exact⟨0,λa b c=>absurd ⟨a,b,c⟩ d⟩
 exact⟨λc t m=>(h c t m).choose,λc t m=>(h c t m).choose_spec⟩
section
variable{Ω az:aE}{ρ:aR}{F:List D->Out Rs}{μ:Int->Int->Int->Int}{c:Int}{m:Nat}
def we:SM:=(aj (aT 8 (m2 (ax .Add) (ab 8) (m2 aA (ab 2) (m2 (ax .Mod) (m2 (ax .Add) (m2 aA (ab 4) (ab 9)) (m2 (ax .Mult) (ab 3) (mN (aH .int) (aa (m2 (aw .Eq) (ab 9) (ab 6)) ag)))) (ae (.int 26))))))
 ak)
def jC:EM:=(cg (m2 aA (ab 1) (ab 0)) true (ae .non) (cJ (bL (ab 4) true (ae .non) false (m2 (ax .Add) (ab 3) (ae (.int 1))))) 0 [2])
def jI(F:List D->Out Rs):SM:=(dN (bV (m2 (aw .Eq) (mN (bS F) (aa (ab 0) (aa (ae (.int 10)) (aa (ae (.int 4)) ag)))) (ae (.int 1))) (m2 (aw .Lt) (ab 1) (ae (.int 9))))
 (aj (aT 8 (bx cp dM (ae (.str "")) (aa jC ag)))
 ak)
 ak)
def n9(F:List D->Out Rs):SM:=
 (aj (aT 8 (ae (.str "")))
 (aj (fo (de 9) (dd (aa (ab 5) ag)) we)
 (aj (jI F)
 (aj (ke (bx sF cx (ab 7) (aa (ab 8) ag)))
 ak))))
def Ja(F:List D->Out Rs):EM:=(cg (mN (bS F) (aa (ab 1) (aa (ab 0) (aa (ae (.int 26)) ag)))) true (ae .non) (dd (aa (ae (.int 8)) ag)) 0 [0])
def EJ(F:List D->Out Rs):SM:=
 (aj (aT 2 (ae (.str "abcdefghijklmnopqrstuvwxyz")))
 (aj (aT 4 (Ja F))
 (aj (aT 5 (m2 (ax .Add) (ae (.int 1)) (mN (bS F) (aa (ab 0) (aa (ae (.int 8)) (aa (ae (.int 8)) ag))))))
 (aj (aT 6 (mN (bS F) (aa (ab 0) (aa (ae (.int 9)) (aa (ab 5) ag)))))
 (aj (aT 7 (mN b9 ag))
 (aj (fo (de 3) (dd (aa (ab 1) ag)) (n9 F))
 (aj (aT 10 (mN (bS F) (aa (ab 0) (aa (ae (.int 11)) (aa (ab 1) ag)))))
 (aj (bf (m2 (ax .Add) (bL (ab 7) false (ab 10) true (ae .non)) (bL (ab 7) true (ae .non) false (ab 10))))
 ak))))))))
abbrev NV(c:Int)(m k b sz a q:Nat)(a8 a9:Option D):aR:=[some (.int c),some (.int m),some (.str abc),some (.int k),some (.ref b),some (.int sz),some (.int a),some (.ref q),a8,a9,none]
theorem B9(l:cU μ F){k a sz i b q:Nat}{z:Str}(n:Ω[b]?=some (.lst (bs μ c)))(y:k<1000)(o:i<8)(hz:z.length<=100) :
  we (NV c m k b sz a q (some (.str z)) (some (.int i))) Ω=.nx (NV c m k b sz a q (some (.str (z++aD (97+((μ c i 26+if i=a then (k:Int)else 0)%26).toNat)))) (some (.int i))) Ω:=by
 have e:L2.fW (bs μ c) (i:Int)=some (.int (μ c i 26)):=L2.gi (by simp[bs,o])
 have f:=cC n e;have g:kb (k:Int)=true:=iG (by omega) (by omega)
 have p:∀q,small (z.length+(aD q).length)=true:=λq=>bz (by rw[jK];omega)
 have r:=rj (q:=(μ c i 26+if i=a then (k:Int)else 0)%26) (Int.emod_nonneg _ (by omega)) (Int.emod_lt_of_pos _ (by omega))
 have d:(k:Int)*(if ((i:Int)==(a:Int))=true then 1 else 0)=if i=a then (k:Int)else 0:=by
  by_cases h:i=a
  .subst h;simp
  .have:((i:Int)==(a:Int))=false:=by simp;omega
   rw[this];simp[h]
 have s:(mN (aH .int) (aa (m2 (aw .Eq) (ab 9) (ab 6)) ag)) (NV c m k b sz a q (some (.str z)) (some (.int i))) Ω=.ok (.int (if ((i:Int)==(a:Int))=true then 1 else 0)) Ω:=by
  have:aH .int [.bl ((i:Int)==(a:Int))] Ω=.ok (.int (if ((i:Int)==(a:Int))=true then 1 else 0)) Ω:=by
   show lG .int [.bl ((i:Int)==(a:Int))] Ω=_
   unfold lG;rw[rm];simp
  simp[NV,-beq_iff_eq]at this ⊢;exact this
 have t:(m2 (ax .Mult) (ab 3) (mN (aH .int) (aa (m2 (aw .Eq) (ab 9) (ab 6)) ag))) (NV c m k b sz a q (some (.str z)) (some (.int i))) Ω=.ok (.int (if i=a then (k:Int)else 0)) Ω:=by
  rw[aX,show ab 3 (NV c m k b sz a q (some (.str z)) (some (.int i))) Ω=.ok (.int k) Ω from rfl,af,s,af,←d]
  generalize (if ((i:Int)==(a:Int))=true then (1:Int)else 0)=u
  simp[g]
 have w:(m2 (ax .Add) (m2 aA (ab 4) (ab 9)) (m2 (ax .Mult) (ab 3) (mN (aH .int) (aa (m2 (aw .Eq) (ab 9) (ab 6)) ag)))) (NV c m k b sz a q (some (.str z)) (some (.int i))) Ω=.ok (.int (μ c i 26+if i=a then (k:Int)else 0)) Ω:=by
  rw[aX,show m2 aA (ab 4) (ab 9) (NV c m k b sz a q (some (.str z)) (some (.int i))) Ω=.ok (.int (μ c i 26)) Ω from f,af,t,af]
  simp
 generalize (μ c i 26+if i=a then (k:Int)else 0)=u at *
 have x:(m2 aA (ab 2) (m2 (ax .Mod) (m2 (ax .Add) (m2 aA (ab 4) (ab 9)) (m2 (ax .Mult) (ab 3) (mN (aH .int) (aa (m2 (aw .Eq) (ab 9) (ab 6)) ag)))) (ae (.int 26)))) (NV c m k b sz a q (some (.str z)) (some (.int i))) Ω=.ok (.str (aD (97+(u%26).toNat))) Ω:=by
  rw[aX,show ab 2 (NV c m k b sz a q (some (.str z)) (some (.int i))) Ω=.ok (.str abc) Ω from rfl,af,aX,w]
  simp[r]
 generalize (97+(u%26).toNat)=v at *;have j:=p v;unfold we;rw[ah,aN,aX,show ab 8 (NV c m k b sz a q (some (.str z)) (some (.int i))) Ω=.ok (.str z) Ω from rfl,af,x,af]
 simp[j]
theorem wg(l:cU μ F){k a sz b q:Nat}{a9:Option D}(p:Ω[b]?=some (.lst (bs μ c)))(s:k<1000)(hsz:sz<=8)(n:a<sz) :
  ∃(z:Str) (e:Option D),z.length=sz/\z.cps.toList[a]?=some (97+((μ c a 26+k)%26).toNat) /\
   eM (de 9) (.ints 0 sz) we fuel 0 (NV c m k b sz a q (some (.str "")) a9) Ω=.nx (NV c m k b sz a q (some (.str z)) e) Ω:=by
 refine gH (R:=λr=>∃(z:Str) (e:Option D),z.length=sz/\z.cps.toList[a]?=some (97+((μ c a 26+k)%26).toNat)/\r=.nx (NV c m k b sz a q (some (.str z)) e) Ω) (ds:=intsFrom 0 sz)
  (λi o g=>∃(z:Str) (e:Option D),z.length=i/\(a<i->z.cps.toList[a]?=some (97+((μ c a 26+k)%26).toNat))/\o=NV c m k b sz a q (some (.str z)) e/\g=Ω) (λ_ _ _ _=>rfl) ?_ ?_ fuel 0 _ _ (by rw[en];unfold fuel;omega) (Nat.zero_le _) ⟨"",a9,by decide,λh=>by omega,rfl,rfl⟩
 .rintro i d o g t ⟨z,e,j,f,rfl,rfl⟩
  obtain⟨rfl,u⟩:=gD t;rw[show(0:Int)+(i:Int)=(i:Int)by omega]
  refine⟨NV c m k b sz a q (some (.str z)) (some (.int i)),rfl,?_⟩;rw[B9 l p s (by omega) (by omega)]
  refine⟨_,_,by rw[Str.length_append,jK];omega,λw=>?_,rfl,rfl⟩
  rw[Str.cps_append,Array.toList_append]
  by_cases x:a<i
  .rw[List.getElem?_append_left (by rw[←str_len];omega)]
   exact f x
  .obtain rfl:a=i:=by omega
   rw[List.getElem?_append_right (by rw[←str_len];omega),←str_len,j,Nat.sub_self,if_pos rfl]
   rfl
 .rintro o g ⟨z,e,j,f,rfl,rfl⟩
  rw[en]at j f;exact⟨z,e,j,f n,rfl⟩
theorem join_ones(f:Nat->Nat)(k:Nat)(o:k<1000):∃S:Str,S.length=k+1/\sk .join (.str "") (.tup [L1 ((List.range (k+1)).map λi=>aD (f i))])=.ok (false,.str S):=by
 let a:List Str:=(List.range (k+1)).map λ(i:Nat)=>aD (f i)
 have e:∀c:List Str,eh (c.map .str)=some c:=λc=>by
  induction c with
  |nil=>rfl
  |cons x c l=>simp[eh,l]
 have g:=e a;have h:a.length=k+1:=by simp[a]
 have d:(a.map (·.length)).sum=k+1:=by
  have:a.map (·.length)=List.replicate a.length 1:=by
   apply List.eq_replicate_iff.mpr;refine⟨by simp,λb m=>?_⟩
   obtain⟨y,n,rfl⟩:=List.mem_map.mp m;obtain⟨i,_,rfl⟩:=List.mem_map.mp n;exact jK
  rw[this,h];simp
 have j:(Txt.join "" a).length=k+1:=by
  show(Builtin.Str.glued "" a).length=_
  rw[size_glued,d,show("":Str).length=0 by decide];simp
 refine⟨Txt.join "" a,j,?_⟩
 show sk .join (.str "") (.tup [.lst (a.map .str)])=_
 unfold sk;simp only[g];rw[if_pos];rw[Bool.and_eq_true,decide_eq_true_eq,decide_eq_true_eq];exact⟨by decide,by omega⟩
theorem EK(r:cU μ F){k a sz b q:Nat}{z:Str}{a9:Option D}(w:Ω[b]?=some (.lst (bs μ c)))(hm:m<=24)(hk:k<m)(hz:z.length<=8)(s:z.cps.toList[a]?=some (97+((μ c a 26+k)%26).toNat)) :
  ∃(J:Str) (az:aE),Nm μ c m a k J/\jI F (NV c m k b sz a q (some (.str z)) a9) Ω=.nx (NV c m k b sz a q (some (.str J)) a9) az/\av [] Ω az:=by
 obtain⟨w0,w1,f⟩:=r c 10 4 (by omega) (by omega) (by omega)
 by_cases u:μ c 10 4=1/\m<9
 .have l:(m:Int)<9:=by omega
  have t:bZ (bs μ c) none (some ((k:Int)+1))=(List.range (k+1)).map λ(i:Nat)=>.int (μ c i 26):=by
   rw[show(k:Int)+1=((k+1:Nat):Int)by omega,vV,bs,←List.map_take,List.take_range,Nat.min_eq_left (by omega)]
  have y:ip (.ref b) none (some ((k:Int)+1)) Ω=.ok (.ref Ω.length) (Ω++[.lst ((List.range (k+1)).map λ(i:Nat)=>.int (μ c i 26))]):=by
   simp only[ip,bg w,iI,t]
  have K:(Ω++[Cell.lst ((List.range (k+1)).map λ(i:Nat)=>D.int (μ c i 26))])[Ω.length]?=some (.lst ((List.range (k+1)).map λ(i:Nat)=>.int (μ c i 26))):=aF
  have M:av [] Ω (Ω++[Cell.lst ((List.range (k+1)).map λ(i:Nat)=>D.int (μ c i 26))]):=av.app
  generalize Ω++[Cell.lst ((List.range (k+1)).map λ(i:Nat)=>D.int (μ c i 26))]=e at *
  have A:(cJ (bL (ab 4) true (ae .non) false (m2 (ax .Add) (ab 3) (ae (.int 1))))) (NV c m k b sz a q (some (.str z)) a9) Ω=.ok (.seq (.ref Ω.length)) e:=by
   have:=eR (x:=.ref Ω.length) (Ω:=e) (by rw[cW,bg K])
   simp[y,this]
  have B:=jM (me:=m2 aA (ab 1) (ab 0)) (nc:=true) (mc:=ae .non) (cap:=[2]) (p:=λ_=>true) (g:=λd=>match d with|.int j=>.str (aD (97+j.toNat))|_=>.non) A (by rw[gG,cW,bg K]) (λd L=>rfl) (λd L _=>by
   obtain⟨i,N,rfl⟩:=List.mem_map.mp L;have O:i<k+1:=by simpa using N
   have P:i<8:=by omega
   obtain⟨Q,R,_⟩:=r c i 26 (by omega) (by omega) (by omega)
   have C:=rj Q R;simp[gZ,C]) (by simp;omega)
  rw[List.filter_eq_self.mpr (by simp),List.map_map]at B
  have E:((List.range (k+1)).map ((λd:D=>match d with|.int j=>D.str (aD (97+j.toNat))|_=>.non) ∘ λ(i:Nat)=>D.int (μ c i 26)))=((List.range (k+1)).map λi=>aD (97+(μ c (i:Nat) 26).toNat)).map .str:=by
   rw[List.map_map];rfl
  rw[E]at B;obtain⟨S,T,G⟩:=join_ones (λi=>97+(μ c (i:Nat) 26).toNat) k (by omega)
  have U:(e++[Cell.lst (((List.range (k+1)).map λi=>aD (97+(μ c (i:Nat) 26).toNat)).map .str)])[e.length]?=some (.lst (((List.range (k+1)).map λi=>aD (97+(μ c (i:Nat) 26).toNat)).map .str)):=aF
  have V:av [] e (e++[Cell.lst (((List.range (k+1)).map λi=>aD (97+(μ c (i:Nat) 26).toNat)).map .str)]):=av.app
  generalize ((List.range (k+1)).map λi=>aD (97+(μ c (i:Nat) 26).toNat))=X at *
  generalize e++[Cell.lst (X.map .str)]=o at *;have Y:=nW (n:=7) U;have H:jC (NV c m k b sz a q (some (.str z)) a9) Ω=.ok (.ref e.length) o:=B;refine⟨S,o,⟨by omega,by rw[if_pos u];exact T⟩,?_,M.trans V⟩
  have Z:(aT 8 (bx cp dM (ae (.str "")) (aa jC ag))) (NV c m k b sz a q (some (.str z)) a9) Ω=.nx (NV c m k b sz a q (some (.str S)) a9) o:=by
   rw[aN,hP (x:=.str "") (az:=Ω) rfl rfl,ai,H];simp only[af,bj,dM,kD,fP,lW,Y,iK,G,rl];rfl
  have rt:(bV (m2 (aw .Eq) (mN (bS F) (aa (ab 0) (aa (ae (.int 10)) (aa (ae (.int 4)) ag)))) (ae (.int 1))) (m2 (aw .Lt) (ab 1) (ae (.int 9)))) (NV c m k b sz a q (some (.str z)) a9) Ω=.ok (.bl true) Ω:=by
   simp[f,u.1,l]
  unfold jI;rw[bp,rt];simp only[aQ,ay,aP,aJ,if_true,ah,Z,aC,cD]
 .refine⟨z,Ω,⟨hz,by rw[if_neg u];exact s⟩,?_,av.refl⟩
  by_cases I:μ c 10 4=1
  .have l:¬ (m:Int)<9:=λh=>u ⟨I,by omega⟩
   simp[jI,f,I,l]
  .have w:(μ c 10 4==1)=false:=by simpa using I
   simp[jI,f,w]
theorem zu(i:cU μ F){k a sz b q:Nat}{j:List Str}{a8 a9:Option D}(t:Ω[b]?=some (.lst (bs μ c)))(w:Ω[q]?=some (.lst (j.map .str)))(y:m<=24)(A:k<m)(hsz:sz<=8)(n:a<sz)(J:j.length<=900) :
  ∃(z:Str) (o f:Option D) (az:aE),Nm μ c m a k z/\n9 F (NV c m k b sz a q a8 a9) Ω=.nx (NV c m k b sz a q o f) az/\az[q]?=some (.lst ((j++[z]).map .str))/\av [q] Ω az:=by
 obtain⟨z,f,K,l,e⟩:=wg (m:=m) (q:=q) (a9:=a9) i t (k:=k) (by omega) hsz n
 obtain⟨h,g,B,C,u⟩:=EK (sz:=sz) (q:=q) (a9:=f) i t y A (by omega) l
 have p:mU (sz:Int)=true:=iH (by omega) (by omega)
 have r:=u.get _ _ w (by simp)
 have s:=pM (d:=.str h) r (by simp;omega)
 have E:=zo r;refine⟨h,some (.str h),f,g.set q (.lst (j.map .str++[.str h])),B,?_,by rw[pL r];simp,(Ah.up u).trans (av.set (by simp))⟩
 have G:(aT 8 (ae (.str ""))) (NV c m k b sz a q a8 a9) Ω=.nx (NV c m k b sz a q (some (.str "")) a9) Ω:=rfl
 have H:(fo (de 9) (dd (aa (ab 5) ag)) we) (NV c m k b sz a q (some (.str "")) a9) Ω=.nx (NV c m k b sz a q (some (.str z)) f) Ω:=by
  rw[lZ];have:dd (aa (ab 5) ag) (NV c m k b sz a q (some (.str "")) a9) Ω=.ok (.ints 0 sz) Ω:=by simp[p]
  rw[this,aJ,e]
 have I:(ke (bx sF cx (ab 7) (aa (ab 8) ag))) (NV c m k b sz a q (some (.str h)) f) g=.nx (NV c m k b sz a q (some (.str h)) f) (g.set q (.lst (j.map .str++[.str h]))):=by
  rw[rn,hP (x:=.ref q) (az:=g) (by simp) E]
  simp[s]
 unfold n9;rw[ah,G,aC,ah,H,aC,ah,C,aC,ah,I];rfl
def Ai(N:c9):Prop:=∀(d:aE) (c:Int) (m:Nat),2<=m->m<=24->∃(b:List Str) (q:Nat) (a:aE),(b.Nodup/\∀x∈b,x≠""/\x.length<=8)/\b.length=m/\N [.int c,.int m] d=.ok (.ref q) a/\a[q]?=some (.lst (b.map .str))/\av [] d a
theorem zv{a k:Nat}{z:Str}(h:Nm μ c m a k z):z≠"":=by
 rintro rfl;obtain⟨_,h⟩:=h;split at h
 .exact absurd h (Nat.zero_ne_add_one k)
 .rw[show(Str.ofString "").cps.toList=[]from rfl]at h
  simp at h
theorem B_(B:cU μ F):Ai (cQ 11 2 (EJ F)):=by
 intro Ω c m m0 hm;rw[bH (by rfl)]
 have e0:ba 11 [D.int c,.int m]=[some (.int c),some (.int m),none,none,none,none,none,none,none,none,none]:=rfl;rw[e0];obtain⟨a0,a1,ha⟩:=B c 8 8 (by omega) (by omega) (by omega)
 obtain⟨b0,b1,hb⟩:=B c 9 (1+μ c 8 8) (by omega) (by omega) (by omega)
 obtain⟨t0,t1,ht⟩:=B c 11 (m:Int) (by omega) (by omega) (by omega)
 obtain⟨o,I⟩:∃o:Nat,(o:Int)=1+μ c 8 8:=⟨(1+μ c 8 8).toNat,by omega⟩
 obtain⟨f,O⟩:∃f:Nat,(f:Int)=μ c 9 (1+μ c 8 8):=⟨(μ c 9 (1+μ c 8 8)).toNat,by omega⟩
 obtain⟨l,P⟩:∃l:Nat,(l:Int)=μ c 11 (m:Int):=⟨(μ c 11 (m:Int)).toNat,by omega⟩
 have J:mU 8=true:=iH (by omega) (by omega)
 have Q:mU (m:Int)=true:=iH (by omega) (by omega)
 have E:=jM (Ω:=Ω) (az:=Ω) (ρ:=[some (.int c),some (.int m),some (.str abc),none,none,none,none,none,none,none,none]) (me:=mN (bS F) (aa (ab 1) (aa (ab 0) (aa (ae (.int 26)) ag)))) (nc:=true) (mc:=ae .non) (mi:=dd (aa (ae (.int 8)) ag)) (cap:=[0]) (src:=.ints 0 8) (ds:=intsFrom 0 8) (p:=λ_=>true) (g:=λd=>match d with|.int j=>.int (μ c j 26)|_=>.non)
  (by simp[J]) rfl (λd N=>rfl) (λd N _=>by
   obtain⟨i,S⟩:=List.mem_iff_getElem?.mp N;obtain⟨rfl,L⟩:=gD S;obtain⟨_,_,q⟩:=B c (0+(i:Int)) 26 (by omega) (by omega) (by omega)
   generalize (0+(i:Int))=j at *;simp[gZ,q]) (by rw[en];omega)
 rw[List.filter_eq_self.mpr (by simp),tr,List.map_map]at E
 have E:Ja F [some (.int c),some (.int m),some (.str abc),none,none,none,none,none,none,none,none] Ω=.ok (.ref Ω.length) (Ω++[.lst (bs μ c)]):=E;have g1:(Ω++[Cell.lst (bs μ c)])[Ω.length]?=some (.lst (bs μ c)):=aF;have K1:av [] Ω (Ω++[Cell.lst (bs μ c)]):=av.app;have r1:(aT 2 (ae (.str "abcdefghijklmnopqrstuvwxyz"))) [some (.int c),some (.int m),none,none,none,none,none,none,none,none,none] Ω=.nx [some (.int c),some (.int m),some (.str abc),none,none,none,none,none,none,none,none] Ω:=rfl
 have r2:(aT 4 (Ja F)) [some (.int c),some (.int m),some (.str abc),none,none,none,none,none,none,none,none] Ω=.nx [some (.int c),some (.int m),some (.str abc),none,some (.ref Ω.length),none,none,none,none,none,none] (Ω++[Cell.lst (bs μ c)]):=by
  rw[aN,E];rfl
 have n0:=wb g1;generalize Ω++[Cell.lst (bs μ c)]=a at *
 have r3:(aT 5 (m2 (ax .Add) (ae (.int 1)) (mN (bS F) (aa (ab 0) (aa (ae (.int 8)) (aa (ae (.int 8)) ag)))))) [some (.int c),some (.int m),some (.str abc),none,some (.ref Ω.length),none,none,none,none,none,none] a=.nx [some (.int c),some (.int m),some (.str abc),none,some (.ref Ω.length),some (.int o),none,none,none,none,none] a:=by
  rw[I];simp[ha]
 have r4:(aT 6 (mN (bS F) (aa (ab 0) (aa (ae (.int 9)) (aa (ab 5) ag))))) [some (.int c),some (.int m),some (.str abc),none,some (.ref Ω.length),some (.int o),none,none,none,none,none] a=.nx [some (.int c),some (.int m),some (.str abc),none,some (.ref Ω.length),some (.int o),some (.int f),none,none,none,none] a:=by
  rw[O,I];simp[hb]
 have g2:(a++[Cell.lst []])[a.length]?=some (.lst (([]:List Str).map .str)):=aF;have K2:av [] a (a++[Cell.lst []]):=av.app;have r5:(aT 7 (mN b9 ag)) [some (.int c),some (.int m),some (.str abc),none,some (.ref Ω.length),some (.int o),some (.int f),none,none,none,none] a=.nx [some (.int c),some (.int m),some (.str abc),none,some (.ref Ω.length),some (.int o),some (.int f),some (.ref a.length),none,none,none] (a++[Cell.lst []]):=by simp[bz]
 have T:=K2.get _ _ g1 (by simp)
 have U:=K1.trans K2;generalize l0:a++[Cell.lst []]=t at *
 have hL:∃(k:List Str) (w a8 a9:Option D) (b:aE),k.length=m/\(∀j z,k[j]?=some z->Nm μ c m f j z)/\eM (de 3) (.ints 0 m) (n9 F) fuel 0 [some (.int c),some (.int m),some (.str abc),none,some (.ref Ω.length),some (.int o),some (.int f),some (.ref a.length),none,none,none] t=.nx [some (.int c),some (.int m),some (.str abc),w,some (.ref Ω.length),some (.int o),some (.int f),some (.ref a.length),a8,a9,none] b/\b[a.length]?=some (.lst (k.map .str))/\av [a.length] t b:=by
  refine gH (R:=λr=>∃(k:List Str) (w a8 a9:Option D) (b:aE),k.length=m/\(∀j z,k[j]?=some z->Nm μ c m f j z)/\r=.nx [some (.int c),some (.int m),some (.str abc),w,some (.ref Ω.length),some (.int o),some (.int f),some (.ref a.length),a8,a9,none] b/\b[a.length]?=some (.lst (k.map .str))/\av [a.length] t b) (ds:=intsFrom 0 m)
   (λi ρ b=>∃(k:List Str) (w a8 a9:Option D),k.length=i/\(∀j z,k[j]?=some z->Nm μ c m f j z)/\ρ=[some (.int c),some (.int m),some (.str abc),w,some (.ref Ω.length),some (.int o),some (.int f),some (.ref a.length),a8,a9,none]/\b[a.length]?=some (.lst (k.map .str))/\av [a.length] t b) (λ_ _ _ _=>rfl) ?_ ?_ fuel 0 _ _ (by rw[en];unfold fuel;omega) (Nat.zero_le _) ⟨[],none,none,none,rfl,λj z h=>by simp at h,rfl,g2,av.refl⟩
  .rintro i d ρ b N ⟨k,w,a8,a9,M,s,rfl,H,K⟩
   obtain⟨rfl,L⟩:=gD N;rw[show(0:Int)+(i:Int)=(i:Int)by omega]
   refine⟨NV c m i Ω.length o f a.length a8 a9,rfl,?_⟩;obtain⟨z,V,X,A,hz,e,Y,K'⟩:=zu (a8:=a8) (a9:=a9) B (K.get _ _ T (by simp;omega)) H hm L (show o<=8 by omega) (show f<o by omega) (by omega)
   rw[e];refine⟨k++[z],some (.int i),V,X,by rw[List.length_append,List.length_singleton];omega,λj y C=>?_,rfl,Y,K.trans K'⟩
   by_cases Z:j<k.length
   .rw[List.getElem?_append_left Z]at C
    exact s j y C
   .rw[List.getElem?_append_right (by omega)]at C
    have c0:j - k.length=0:=by
     have:=(List.getElem?_eq_some_iff.mp C).1;simp at this;omega
    rw[c0]at C;have hy:z=y:=by simpa using C
    subst hy;obtain rfl:j=i:=by omega
    exact hz
  .rintro ρ b ⟨k,w,a8,a9,M,s,rfl,H,K⟩
   rw[en]at M;exact⟨k,w,a8,a9,b,M,s,rfl,H,K⟩
 obtain⟨k,w,a8,a9,b,M,s,eL,H,K3⟩:=hL
 have g0:k.Nodup:=by
  refine List.pairwise_iff_getElem.mpr λi j S C o0 h0=>?_
  have:=El (m:=m) (by omega) (by omega) hm (s i _ (List.getElem?_eq_getElem S)) (s j _ (List.getElem?_eq_getElem C)) h0
  omega
 have u:(k.drop l++k.take l).Perm k:=by
  have:=(List.perm_append_comm (l₁:=k.drop l) (l₂:=k.take l));rwa[List.take_append_drop]at this
 have r6:(fo (de 3) (dd (aa (ab 1) ag)) (n9 F)) [some (.int c),some (.int m),some (.str abc),none,some (.ref Ω.length),some (.int o),some (.int f),some (.ref a.length),none,none,none] t=.nx [some (.int c),some (.int m),some (.str abc),w,some (.ref Ω.length),some (.int o),some (.int f),some (.ref a.length),a8,a9,none] b:=by
  rw[lZ];have:dd (aa (ab 1) ag) [some (.int c),some (.int m),some (.str abc),none,some (.ref Ω.length),some (.int o),some (.int f),some (.ref a.length),none,none,none] t=.ok (.ints 0 m) t:=by simp[Q]
  rw[this,aJ,eL]
 have r7:(aT 10 (mN (bS F) (aa (ab 0) (aa (ae (.int 11)) (aa (ab 1) ag))))) [some (.int c),some (.int m),some (.str abc),w,some (.ref Ω.length),some (.int o),some (.int f),some (.ref a.length),a8,a9,none] b=.nx [some (.int c),some (.int m),some (.str abc),w,some (.ref Ω.length),some (.int o),some (.int f),some (.ref a.length),a8,a9,some (.int l)] b:=by
  rw[P];simp[ht]
 have s1:=B8 (i:=l) H;have g3:(b++[Cell.lst ((k.drop l).map .str)])[b.length]?=some (.lst ((k.drop l).map .str)):=aF;have K4:av [] b (b++[Cell.lst ((k.drop l).map .str)]):=av.app;have i0:=K4.get _ _ H (by simp)
 generalize b++[Cell.lst ((k.drop l).map .str)]=A at *;have s2:=BZ (n:=l) i0;have g4:(A++[Cell.lst ((k.take l).map .str)])[A.length]?=some (.lst ((k.take l).map .str)):=aF;have K5:av [] A (A++[Cell.lst ((k.take l).map .str)]):=av.app;have j0:=K5.get _ _ g3 (by simp)
 generalize A++[Cell.lst ((k.take l).map .str)]=G at *;have k0:small (((k.drop l).map D.str).length+((k.take l).map D.str).length)=true:=bz (by simp;omega)
 refine⟨k.drop l++k.take l,G.length,G++[.lst ((k.drop l).map .str++(k.take l).map .str)],⟨u.nodup_iff.mpr g0,λx hx=>by
  obtain⟨j,C⟩:=List.mem_iff_getElem?.mp (u.mem_iff.mp hx);exact⟨zv (s j x C),(s j x C).1⟩⟩,by rw[u.length_eq];exact M,?_,by rw[List.map_append];exact aF,av.new U (K3.trans (Ah.up ((K4.trans K5).trans av.app))) (by simpa using K1.len)⟩
 unfold EJ;rw[ah,r1,aC,ah,r2,aC,ah,r3,aC,ah,r4,aC,ah,r5,aC,ah,r6,aC,ah,r7,aC]
 have rr:(m2 (ax .Add) (bL (ab 7) false (ab 10) true (ae .non)) (bL (ab 7) true (ae .non) false (ab 10))) [some (.int c),some (.int m),some (.str abc),w,some (.ref Ω.length),some (.int o),some (.int f),some (.ref a.length),a8,a9,some (.int l)] b=.ok (.ref G.length) (G++[.lst ((k.drop l).map .str++(k.take l).map .str)]):=by
  simp only[aX,jN,bN,List.getElem?_cons_zero,List.getElem?_cons_succ,cz,af,mf,l_,mj,s1,s2,v9,zi,bg j0,bg g4,zh];rw[if_pos k0];rfl
 rw[ah,br,rr];rfl
end
abbrev oS(x:Str):Option D:=some (.str x)
abbrev oR(k:Nat):Option D:=some (.ref k)
section
variable{Ω az:aE}{ρ:aR}{q j k i:Nat}
theorem wh{a:List Bool}:bF (ef Ω j) (a.map .bl)=some (a.map .bl):=pJ (λ_=>vY) a
theorem gI{a:List Bool}(h:Ω[q]?=some (.lst (a.map .bl))):aH .all [.ref q] Ω=.ok (.bl (a.all id)) Ω:=by
 show lG .all [.ref q] Ω=_
 unfold lG;rw[rm];have:bF (ef Ω 8) [.ref q]=some [.lst (a.map .bl)]:=by simp[gE h (wh (j:=7))]
 rw[this,ze,vZ]
 have c:ja (a.map D.bl)=some a:=by
  clear h this
  induction a with
  |nil=>rfl
  |cons b a d=>simp[ja,d,gW]
 rw[c];rfl
theorem ro{a:List Bool}(h:Ω[q]?=some (.lst (a.map .bl))):aw .In (.bl false) (.ref q) Ω=.ok (.bl (!(a.all id))) Ω:=by
 have e:(a.map D.bl).any (λy=>dn y (.bl false))=!(a.all id):=by
  clear h
  induction a with
  |nil=>rfl
  |cons t a b=>rw[List.map_cons,List.any_cons,b,List.all_cons];cases t<;>simp[dn]
 have o:(a.map D.bl).all (aK 8)=true:=by
  clear h e
  induction a with
  |nil=>rfl
  |cons t a b=>rw[List.map_cons,List.all_cons,b];rfl
 have c:inD (.bl false) (.lst (a.map .bl))=.ok (!(a.all id)):=by
  show(if (aK 8 (.bl false)&&(a.map D.bl).all (aK 8))=true then _ else _)=_
  rw[e,o];rfl
 rw[zg,zf,vY,gE (n:=7) h (wh (j:=7)),iK]
 have:(do let r ←bY .In (.bl false) (.lst (a.map .bl));Out.ok (false,D.bl r))=Out.ok (false,D.bl (!(a.all id))):=by
  show(do let r ←inD (.bl false) (.lst (a.map .bl));Out.ok (false,D.bl r))=_
  rw[c];rfl
 rw[this];rfl
theorem eS{x:Str}(h:x.length<=90000):aH .len [.str x] Ω=.ok (.int x.length) Ω:=by
 show lG .len [.str x] Ω=_
 unfold lG;simp[bz (n:=x.length) (by omega)]
theorem pN{L z:Str}(b:ρ[i]?=some (oS z))(hz:z.length<=80000):cg (m2 (aw .In) (ab 0) (ae (.str L))) true (ae .non) (cJ (ab i)) 0 [] ρ Ω=.ok (.ref Ω.length) (Ω++[.lst ((z.cps.toList.map λc=>c_ (aD c) L).map .bl)]):=by
 have a:cJ (ab i) ρ Ω=.ok (.chars z) Ω:=by rw[gF,bN,b];rfl
 have e:=jM (ρ:=ρ) (Ω:=Ω) (az:=Ω) (me:=m2 (aw .In) (ab 0) (ae (.str L))) (mc:=ae .non) (nc:=true) (mi:=cJ (ab i)) (cap:=[]) (src:=.chars z) (ds:=z.cps.toList.map λc=>.str (aD c)) (p:=λ_=>true) (g:=λd=>match d with|.str y=>.bl (c_ y L)|_=>.non) a rfl (λd _=>rfl) (λd f _=>by
  obtain⟨c,h,rfl⟩:=List.mem_map.mp f
  show aw .In (.str (aD c)) (.str _) Ω=_
  simp[bY,inD]) (by
  have:z.cps.toList.length=z.length:=by simp[Str.length]
  simp only[List.length_map];omega)
 rw[e,List.filter_eq_self.mpr (λ_ _=>rfl),List.map_map,List.map_map]
 rfl
theorem wj(L:Str)(c:Nat):c_ (aD c) L=decide (c∈L.cps.toList):=StrLaws.found_one L c
theorem pO(c:Nat):c_ (aD c) "abcdefghijklmnopqrstuvwxyz"=tp c:=by
 rw[wj];have:("abcdefghijklmnopqrstuvwxyz":Str).cps.toList=List.range' 97 26:=by decide +kernel
 rw[this];unfold tp;rw[←Bool.decide_and]
 congr 1
 rw[List.mem_range'_1];exact propext ⟨λh=>by omega,λh=>by omega⟩
noncomputable def jP(c:Nat):Bool:=decide (48<=c)&&decide (c<=57)
theorem iL(c:Nat):c_ (aD c) "0123456789"=jP c:=by
 rw[wj];have:("0123456789":Str).cps.toList=List.range' 48 10:=by decide +kernel
 rw[this];unfold jP;rw[←Bool.decide_and]
 congr 1
 rw[List.mem_range'_1];exact propext ⟨λh=>by omega,λh=>by omega⟩
theorem dv{α:Type}{p:α->Bool}(l:List α):(l.map p).all id=l.all p:=by rw[List.all_map];rfl
theorem kL{z y:Str}(hz:z.length<=4000)(a:(y.length==0)=false):bM (.str z) [.str y] Ω=.ok (.ref Ω.length) (Ω++[.lst ((Txt.split z y).map .str)]):=by
 show(if (!(y.length==0)&&decide (z.length<=4000))=true then fk Ω (.lst ((Txt.split z y).map .str))else .bad)=_
 rw[a,decide_eq_true hz];rfl
theorem eT{z y:Str}(b:ρ[i]?=some (oS z))(hz:z.length<=4000)(c:(y.length==0)=false):bx cp bM (ab i) (aa (ae (.str y)) ag) ρ Ω=.ok (.ref Ω.length) (Ω++[.lst ((Txt.split z y).map .str)]):=by
 unfold bx;rw[bN,b,cz,af]
 show((aa (ae (.str y)) ag) ρ Ω).bind (λd a=>bM (.str z) d a)=_
 rw[ai,aO,af,bj,af,af,kL hz c]
theorem n_{z y p:Str}(h:p∈Txt.split z y):p.length<=z.length:=by
 have c:=StrLaws.join_split z y;generalize Txt.split z y=d at h c;rw[←c];clear c
 induction d with
 |nil=>simp at h
 |cons a r e=>
  cases r with
  |nil=>
   rw[List.mem_singleton.mp h];exact Nat.le_refl _
  |cons b r=>
   show _<=(a++y++Str.join y (b::r)).length
   rw[Str.length_append,Str.length_append];rcases List.mem_cons.mp h with rfl|h
   .omega
   .have:=e h;omega
theorem split_len(z y:Str):(Txt.split z y).length<=z.length+2:=(PyProof.Rows.fact_split z y).2
end
def iu(Ω:aE)(d:D):Option (List Str)->Prop
 |none=>d=.non
 |some xs=>∃k,d=.ref k/\Ω[k]?=some (.lst (xs.map .str))
theorem iu.keep{Ω az:aE}{d:D}{o:Option (List Str)}(h:iu Ω d o)(K:av [] Ω az):iu az d o:=by
 cases o with
 |none=>exact h
 |some c=>obtain⟨k,a,b⟩:=h;exact⟨k,a,K.get k _ b (by simp)⟩
end Mir
namespace eg
open PySem PySem.Spec PyProof.Rows L2 Mir
noncomputable def top(i:Nat):Stmt:=PySem.Challenge.pw_taglook_k91_words_read_and_written.main.body.getD i (.Pass ⟨0,0,0,0⟩)
instance clos:aU:=⟨λ_=>⟨"","",aZ (top 0),[],ao (top 0),[],[]⟩,λ_=>0⟩
noncomputable def td:List Str:=[]
def Jb:bb:=((((({}:bb).kg "MOST_FIGURES" (.int 60)).kg "FIGURES" (.str "0123456789")).kg "MOST_LETTERS" (.int 8)).kg "LETTERS" (.str "abcdefghijklmnopqrstuvwxyz"))
noncomputable def Ly:List Str:=["_law_cell_here","_law_turn","_law_many","_law_rest","_law_k","_law_turns","_law_one","_law_two"]
noncomputable def Lz:List Str:=["_law_cell_here","_law_turn","_law_many"]
def LA:SM:=
 (aj (aT 3 (m2 (ax .FloorDiv) (ab 0) (ae (.int 2))))
 (aj (dN (bV (m2 (aw .Eq) (m2 (ax .Mod) (ab 0) (ae (.int 2))) (ae (.int 1))) (m2 (aw .Gt) (ab 0) (m2 (ax .Pow) (ae (.int 10)) (ae (.int 18)))))
 (aj (fo (de 4) (dd (aa (ab 1) ag))
 (aj (aT 3 (m2 (ax .FloorDiv) (ab 3) (ae (.int 840))))
 ak))
 (aj (bf (m2 (ax .Mod) (m2 (ax .Mod) (ab 3) (ae (.int 840))) (ab 2)))
 ak))
 ak)
 (aj (aT 5 (mN b9 (aa (ae (.int 48271)) (aa (ae (.int 69621)) (aa (ae (.int 40692)) (aa (ae (.int 39373)) (aa (ae (.int 16807)) (aa (ae (.int 30323)) (aa (ae (.int 21403)) (aa (ae (.int 62089)) (aa (ae (.int 45742)) (aa (ae (.int 37907)) (aa (ae (.int 53611)) (aa (ae (.int 28411)) (aa (ae (.int 59393)) (aa (ae (.int 33391)) ag))))))))))))))))
 (aj (aT 6 (m2 (ax .Mod) (m2 (ax .Mult) (m2 (ax .Add) (m2 (ax .Mod) (ab 0) (ae (.int 1000000007))) (ae (.int 11))) (m2 aA (ab 5) (m2 (ax .Mod) (ab 1) (ae (.int 14))))) (ae (.int 2147483629))))
 (aj (aT 7 (m2 (ax .Mod) (m2 (ax .Mult) (ab 6) (m2 (ax .Add) (ab 6) (ab 1))) (ae (.int 1999999973))))
 (aj (bf (m2 (ax .Mod) (m2 (ax .FloorDiv) (m2 (ax .Mod) (m2 (ax .Mult) (ab 7) (ae (.int 16807))) (ae (.int 998244353))) (ae (.int 1000))) (ab 2)))
 ak))))))
def Mw:c9:=cQ 8 3 LA
def F0:List Mir.D->Out Rs:=pureOf Mw
def LB:bb:=Jb.yT "_law_mix" F0
theorem Mx:bQ Ly Lz (ao (top 19))=true:=by decide +kernel
theorem My:cF Jb td (top 19) Ly=some LA:=rfl
def U0:bb:=LB
noncomputable def LC:List Str:=["thing"]
noncomputable def LD:List Str:=["thing"]
def d0:SM:=
 (aj (dN (dP (m1 (cA .str) (ab 0)))
 (aj (bf (ae (.bl false)))
 ak)
 ak)
 (aj (bf (bV (fm .LtE .LtE (ae (.int 1)) (mN (aH .len) (aa (ab 0) ag)) (ae (.int 8))) (mN (aH .all) (aa (cg (m2 (aw .In) (ab 0) (ae (.str "abcdefghijklmnopqrstuvwxyz"))) true (ae .non) (cJ (ab 0)) 0 []) ag))))
 ak))
def O0:c9:=cQ 1 1 d0
def U1:bb:=U0.bC "is_name" O0
theorem Mz:bQ LC LD (ao (top 3))=true:=by decide +kernel
theorem MA:cF U0 td (top 3) LC=some d0:=rfl
noncomputable def LF:List Str:=["text"]
noncomputable def LG:List Str:=["text"]
def d1:SM:=
 (aj (bf (mN (aH .tuple) (aa (bx cp bM (ab 0) (aa (ae (.str " ")) ag)) ag)))
 ak)
def O1:c9:=cQ 1 1 d1
def U2:bb:=U1.bC "read_row" O1
theorem MB:bQ LF LG (ao (top 8))=true:=by decide +kernel
theorem MC:cF U1 td (top 8) LF=some d1:=rfl
noncomputable def LH:List Str:=["word","names"]
noncomputable def LI:List Str:=["word"]
def d2:SM:=
 (aj (dN (m2 (aw .Eq) (ab 0) (ae (.str "-")))
 (aj (bf (mN b9 ag))
 ak)
 ak)
 (aj (aT 1 (bx cp bM (ab 0) (aa (ae (.str ",")) ag)))
 (aj (bf (ou (mN (aH .all) (aa (cg (mN (aB O0) (aa (ab 0) ag)) true (ae .non) (cJ (ab 1)) 0 []) ag)) (ab 1) (ae .non)))
 ak)))
def O2:c9:=cQ 2 1 d2
def U3:bb:=U2.bC "read_names" O2
theorem MD:bQ LH LI (ao (top 9))=true:=by decide +kernel
theorem ME:cF U2 td (top 9) LH=some d2:=rfl
noncomputable def LJ:List Str:=["word","figures"]
noncomputable def LK:List Str:=["word"]
def d3:SM:=
 (aj (aT 1 (ou (bx cp (sJ λz y=>.bl (kd z y)) (ab 0) (aa (ae (.str "-")) ag)) (bL (ab 0) false (ae (.int 1)) true (ae .non)) (ab 0)))
 (aj (dN (fY (dP (fm .LtE .LtE (ae (.int 1)) (mN (aH .len) (aa (ab 1) ag)) (ae (.int 60)))) (dP (mN (aH .all) (aa (cg (m2 (aw .In) (ab 0) (ae (.str "0123456789"))) true (ae .non) (cJ (ab 1)) 0 []) ag))))
 (aj (bf (ae .non))
 ak)
 ak)
 (aj (dN (bV (bx cp (sJ λz y=>.bl (kd z y)) (ab 1) (aa (ae (.str "0")) ag)) (m2 (aw .NotEq) (ab 0) (ae (.str "0"))))
 (aj (bf (ae .non))
 ak)
 ak)
 (aj (bf (eH (mN (aH .int) (aa (ab 0) ag)) (mN eN (aa (ab 0) ag))))
 ak))))
def O3:c9:=cQ 2 1 d3
def U4:bb:=U3.bC "read_whole" O3
theorem MF:bQ LJ LK (ao (top 10))=true:=by decide +kernel
theorem MG:cF U3 td (top 10) LJ=some d3:=rfl
noncomputable def MH:List Str:=["word"]
noncomputable def LL:List Str:=["word"]
def d4:SM:=
 (aj (bf (m1 (yU [("0",0),("1",1),("2",2)]) (ab 0)))
 ak)
def O4:c9:=cQ 1 1 d4
def U5:bb:=U4.bC "read_strength" O4
theorem MI:bQ MH LL (ao (top 11))=true:=by decide +kernel
noncomputable def LM:List Str:=["word","parts","names"]
noncomputable def LN:List Str:=["word"]
def d5:SM:=
 (aj (aT 1 (bx cp bM (ab 0) (aa (ae (.str ":")) ag)))
 (aj (dN (fY (m2 (aw .NotEq) (mN (aH .len) (aa (ab 1) ag)) (ae (.int 2))) (dP (mN (aB O0) (aa (m2 aA (ab 1) (ae (.int 0))) ag))))
 (aj (bf (ae .non))
 ak)
 ak)
 (aj (aT 2 (mN (aB O2) (aa (m2 aA (ab 1) (ae (.int 1))) ag)))
 (aj (bf (ou (m2 (aw .Is) (ab 2) (ae .non)) (ae .non) (mN eJ (aa (m2 aA (ab 1) (ae (.int 0))) (aa (ab 2) ag)))))
 ak))))
def O5:c9:=cQ 3 1 d5
def U6:bb:=U5.bC "read_turn" O5
theorem MJ:bQ LM LN (ao (top 12))=true:=by decide +kernel
theorem MK:cF U5 td (top 12) LM=some d5:=rfl
noncomputable def LO:List Str:=["word","parts","names","one"]
noncomputable def LP:List Str:=["word"]
def d6:SM:=
 (aj (aT 1 (bx cp bM (ab 0) (aa (ae (.str "=")) ag)))
 (aj (aT 2 (bx cp bM (m2 aA (ab 1) (ae (.int 0))) (aa (ae (.str ".")) ag)))
 (aj (dN (fY (m2 (aw .NotEq) (mN (aH .len) (aa (ab 1) ag)) (ae (.int 2))) (fY (m2 (aw .NotEq) (mN (aH .len) (aa (ab 2) ag)) (ae (.int 2))) (dP (mN (aH .all) (aa (cg (mN (aB O0) (aa (ab 0) ag)) true (ae .non) (cJ (ab 2)) 0 []) ag)))))
 (aj (bf (ae .non))
 ak)
 ak)
 (aj (aT 3 (mN (aB O4) (aa (m2 aA (ab 1) (ae (.int 1))) ag)))
 (aj (bf (ou (bV (m2 (aw .Is) (ab 3) (ae .non)) (m2 (aw .NotEq) (m2 aA (ab 1) (ae (.int 1))) (ae (.str "?")))) (ae .non) (mN eJ (aa (m2 aA (ab 2) (ae (.int 0))) (aa (m2 aA (ab 2) (ae (.int 1))) (aa (ab 3) ag))))))
 ak)))))
def O6:c9:=cQ 4 1 d6
def U7:bb:=U6.bC "read_fact" O6
theorem ML:bQ LO LP (ao (top 13))=true:=by decide +kernel
theorem MM:cF U6 td (top 13) LO=some d6:=rfl
noncomputable def LQ:List Str:=["word","parts","ends","passed","strength"]
noncomputable def LR:List Str:=["word"]
def d7:SM:=
 (aj (aT 1 (bx cp bM (ab 0) (aa (ae (.str ">")) ag)))
 (aj (aT 2 (bx cp bM (m2 aA (ab 1) (m1 xT (ae (.int 1)))) (aa (ae (.str "=")) ag)))
 (aj (dN (fY (m2 (aw .NotEq) (mN (aH .len) (aa (ab 1) ag)) (ae (.int 2))) (m2 (aw .NotEq) (mN (aH .len) (aa (ab 2) ag)) (ae (.int 2))))
 (aj (bf (ae .non))
 ak)
 ak)
 (aj (aT 3 (mN (aB O2) (aa (m2 aA (ab 1) (ae (.int 0))) ag)))
 (aj (aT 4 (mN (aB O4) (aa (m2 aA (ab 2) (ae (.int 1))) ag)))
 (aj (dN (fY (m2 (aw .Is) (ab 3) (ae .non)) (fY (m2 (aw .Is) (ab 4) (ae .non)) (dP (fY (m2 (aw .Eq) (m2 aA (ab 2) (ae (.int 0))) (ae (.str "-"))) (mN (aB O0) (aa (m2 aA (ab 2) (ae (.int 0))) ag))))))
 (aj (bf (ae .non))
 ak)
 ak)
 (aj (bf (mN eJ (aa (mN (aH .tuple) (aa (ab 3) ag)) (aa (ou (m2 (aw .Eq) (m2 aA (ab 2) (ae (.int 0))) (ae (.str "-"))) (ae .non) (m2 aA (ab 2) (ae (.int 0)))) (aa (ab 4) ag)))))
 ak)))))))
def O7:c9:=cQ 5 1 d7
def U8:bb:=U7.bC "read_paper" O7
theorem MN:bQ LQ LR (ao (top 14))=true:=by decide +kernel
theorem MO:cF U7 td (top 14) LQ=some d7:=rfl
noncomputable def LS:List Str:=["names"]
noncomputable def LU:List Str:=["names"]
def d8:SM:=
 (aj (bf (ou (ab 0) (bx cp dM (ae (.str ",")) (aa (ab 0) ag)) (ae (.str "-"))))
 ak)
def O8:c9:=cQ 1 1 d8
def U9:bb:=U8.bC "show_names" O8
theorem MP:bQ LS LU (ao (top 15))=true:=by decide +kernel
theorem MQ:cF U8 td (top 15) LS=some d8:=rfl
noncomputable def LV:List Str:=["paper","passed","found","strength"]
noncomputable def LW:List Str:=["paper"]
def d9:SM:=
 (aj (aT 1 (mN (aB O8) (aa (m2 aA (ab 0) (ae (.int 0))) ag)))
 (aj (aT 2 (ou (m2 (aw .Is) (m2 aA (ab 0) (ae (.int 1))) (ae .non)) (ae (.str "-")) (m2 aA (ab 0) (ae (.int 1)))))
 (aj (aT 3 (m2 aA (ab 0) (ae (.int 2))))
 (aj (bf (jO ((m1 vw (ab 1))::((ae (.str ">"))::((m1 vw (ab 2))::((ae (.str "="))::((m1 vw (ab 3))::[]))))) Str.empty))
 ak))))
def O9:c9:=cQ 4 1 d9
def Jc:bb:=U9.bC "show_paper" O9
theorem MR:bQ LV LW (ao (top 16))=true:=by decide +kernel
theorem MS:cF U9 td (top 16) LV=some d9:=rfl
noncomputable def EL:List Str:=["_law_cell_here","_law_many","_law_letters","_law_k","_law_base","_law_size","_law_at","_law_names_here","_law_name","_law_j","_law_turn"]
noncomputable def EN:List Str:=["_law_cell_here","_law_many"]
def LX:SM:=
 (aj (aT 2 (ae (.str "abcdefghijklmnopqrstuvwxyz")))
 (aj (aT 4 (cg (mN (bS F0) (aa (ab 1) (aa (ab 0) (aa (ae (.int 26)) ag)))) true (ae .non) (dd (aa (ae (.int 8)) ag)) 0 [0]))
 (aj (aT 5 (m2 (ax .Add) (ae (.int 1)) (mN (bS F0) (aa (ab 0) (aa (ae (.int 8)) (aa (ae (.int 8)) ag))))))
 (aj (aT 6 (mN (bS F0) (aa (ab 0) (aa (ae (.int 9)) (aa (ab 5) ag)))))
 (aj (aT 7 (mN b9 ag))
 (aj (fo (de 3) (dd (aa (ab 1) ag))
 (aj (aT 8 (ae (.str "")))
 (aj (fo (de 9) (dd (aa (ab 5) ag))
 (aj (aT 8 (m2 (ax .Add) (ab 8) (m2 aA (ab 2) (m2 (ax .Mod) (m2 (ax .Add) (m2 aA (ab 4) (ab 9)) (m2 (ax .Mult) (ab 3) (mN (aH .int) (aa (m2 (aw .Eq) (ab 9) (ab 6)) ag)))) (ae (.int 26))))))
 ak))
 (aj (dN (bV (m2 (aw .Eq) (mN (bS F0) (aa (ab 0) (aa (ae (.int 10)) (aa (ae (.int 4)) ag)))) (ae (.int 1))) (m2 (aw .Lt) (ab 1) (ae (.int 9))))
 (aj (aT 8 (bx cp dM (ae (.str "")) (aa (cg (m2 aA (ab 1) (ab 0)) true (ae .non) (cJ (bL (ab 4) true (ae .non) false (m2 (ax .Add) (ab 3) (ae (.int 1))))) 0 [2]) ag)))
 ak)
 ak)
 (aj (ke (bx sF cx (ab 7) (aa (ab 8) ag)))
 ak)))))
 (aj (aT 10 (mN (bS F0) (aa (ab 0) (aa (ae (.int 11)) (aa (ab 1) ag)))))
 (aj (bf (m2 (ax .Add) (bL (ab 7) false (ab 10) true (ae .non)) (bL (ab 7) true (ae .non) false (ab 10))))
 ak))))))))
def G9:c9:=cQ 11 2 LX
def Jd:bb:=Jc.bC "_law_names" G9
theorem Je:bQ EL EN (ao (top 20))=true:=by decide +kernel
theorem Jf:cF Jc td (top 20) EL=some LX:=rfl
noncomputable def EO:List Str:=["_law_word"]
noncomputable def ER:List Str:=["_law_word"]
def G_:SM:=
 (aj (bf (bV (fm .Lt .Lt (ae (.int 0)) (mN (aH .len) (aa (ab 0) ag)) (ae (.int 9))) (mN (aH .all) (aa (cg (m2 (aw .In) (ab 0) (ae (.str "abcdefghijklmnopqrstuvwxyz"))) true (ae .non) (cJ (ab 0)) 0 []) ag))))
 ak)
def wk:c9:=cQ 1 1 G_
def Jg:bb:=Jd.bC "_law_is_name" wk
theorem Jh:bQ EO ER (ao (top 21))=true:=by decide +kernel
theorem Ji:cF Jd td (top 21) EO=some G_:=rfl
noncomputable def ES:List Str:=["_law_word","_law_names_here"]
noncomputable def ET:List Str:=["_law_word"]
def Ha:SM:=
 (aj (dN (m2 (aw .Eq) (ab 0) (ae (.str "-")))
 (aj (bf (mN b9 ag))
 ak)
 ak)
 (aj (aT 1 (bx cp bM (ab 0) (aa (ae (.str ",")) ag)))
 (aj (bf (m2 aA (mN b9 (aa (ab 1) (aa (ae .non) ag))) (mN (aH .int) (aa (m2 (aw .In) (ae (.bl false)) (cg (mN (aB wk) (aa (ab 0) ag)) true (ae .non) (cJ (ab 1)) 0 [])) ag))))
 ak)))
def pP:c9:=cQ 2 1 Ha
def Jj:bb:=Jg.bC "_law_listed" pP
theorem Jk:bQ ES ET (ao (top 22))=true:=by decide +kernel
theorem Jl:cF Jg td (top 22) ES=some Ha:=rfl
noncomputable def EU:List Str:=["_law_word","_law_figures"]
noncomputable def EV:List Str:=["_law_word"]
def Hb:SM:=
 (aj (aT 1 (bL (ab 0) false (mN (aH .int) (aa (m2 (aw .Eq) (bL (ab 0) true (ae .non) false (ae (.int 1))) (ae (.str "-"))) ag)) true (ae .non)))
 (aj (dN (fY (m2 (aw .Eq) (mN (aH .len) (aa (ab 1) ag)) (ae (.int 0))) (fY (m2 (aw .Gt) (mN (aH .len) (aa (ab 1) ag)) (ae (.int 60))) (m2 (aw .In) (ae (.bl false)) (cg (m2 (aw .In) (ab 0) (ae (.str "0123456789"))) true (ae .non) (cJ (ab 1)) 0 []))))
 (aj (bf (ae .non))
 ak)
 ak)
 (aj (dN (bV (m2 (aw .Eq) (m2 aA (ab 1) (ae (.int 0))) (ae (.str "0"))) (m2 (aw .NotEq) (ab 0) (ae (.str "0"))))
 (aj (bf (ae .non))
 ak)
 ak)
 (aj (bf (eH (mN (aH .int) (aa (ab 0) ag)) (mN eN (aa (ab 0) ag))))
 ak))))
def EW:c9:=cQ 2 1 Hb
def Jm:bb:=Jj.bC "_law_number" EW
theorem Jn:bQ EU EV (ao (top 23))=true:=by decide +kernel
theorem Jo:cF Jj td (top 23) EU=some Hb:=rfl
noncomputable def EX:List Str:=["_law_word","_law_found","_law_parts","_law_kind"]
noncomputable def EY:List Str:=["_law_word"]
def rT:SM:=(dN (bV (m2 (aw .Eq) (mN (aH .len) (aa (ab 2) ag)) (ae (.int 2))) (bV (mN (aB wk) (aa (m2 aA (ab 2) (ae (.int 0))) ag)) (m2 (aw .IsNot) (mN (aB pP) (aa (m2 aA (ab 2) (ae (.int 1))) ag)) (ae .non))))
 (aj (hZ (ab 1) (ae (.int 2)) (mN eJ (aa (m2 aA (ab 2) (ae (.int 0))) (aa (mN (aB pP) (aa (m2 aA (ab 2) (ae (.int 1))) ag)) ag))))
 ak)
 ak)
def Jp:SM:=(dN (bV (mN (aB wk) (aa (m2 aA (ab 2) (ae (.int 0))) ag)) (bV (mN (aB wk) (aa (m2 aA (ab 2) (ae (.int 1))) ag)) (m2 (aw .In) (m2 aA (ab 2) (ae (.int 2))) (mN eJ (aa (ae (.str "0")) (aa (ae (.str "1")) (aa (ae (.str "2")) (aa (ae (.str "?")) ag))))))))
 (aj (hZ (ab 1) (ae (.int 3)) (mN eJ (aa (m2 aA (ab 2) (ae (.int 0))) (aa (m2 aA (ab 2) (ae (.int 1))) (aa (bx nI jA (ek "0" "1" "2" 0 1 2) (aa (m2 aA (ab 2) (ae (.int 2))) ag)) ag)))))
 ak)
 ak)
def rC(y:Str):EM:=(bV (m2 (aw .Eq) (mN (aH .len) (aa (ab 2) ag)) (ae (.int 3))) (bV (m2 (aw .Eq) (bx cp (sJ λz y=>.int (dQ z y)) (ab 0) (aa (ae (.str y)) ag)) (ae (.int 1))) (m2 (aw .Lt) (bx cp (sJ λz y=>.int (cZ z y)) (ab 0) (aa (ae (.str y)) ag)) (bx cp (sJ λz y=>.int (cZ z y)) (ab 0) (aa (ae (.str "=")) ag)))))
def rF:SM:=(dN (rC ".") (aj Jp ak) ak)
def LY:SM:=(dN (fY (m2 (aw .Eq) (m2 aA (ab 2) (ae (.int 1))) (ae (.str "-"))) (mN (aB wk) (aa (m2 aA (ab 2) (ae (.int 1))) ag)))
 (aj (aT 3 (m2 aA (mN b9 (aa (m2 aA (ab 2) (ae (.int 1))) (aa (ae .non) ag))) (mN (aH .int) (aa (m2 (aw .Eq) (m2 aA (ab 2) (ae (.int 1))) (ae (.str "-"))) ag))))
 (aj (hZ (ab 1) (ae (.int 4)) (mN eJ (aa (mN (aH .tuple) (aa (mN (aB pP) (aa (m2 aA (ab 2) (ae (.int 0))) ag)) ag)) (aa (ab 3) (aa (eH (mN (aH .int) (aa (m2 aA (ab 2) (ae (.int 2))) ag)) (mN eN (aa (m2 aA (ab 2) (ae (.int 2))) ag))) ag)))))
 ak))
 ak)
def Jq:SM:=(dN (bV (m2 (aw .IsNot) (mN (aB pP) (aa (m2 aA (ab 2) (ae (.int 0))) ag)) (ae .non)) (m2 (aw .In) (m2 aA (ab 2) (ae (.int 2))) (mN eJ (aa (ae (.str "0")) (aa (ae (.str "1")) (aa (ae (.str "2")) ag))))))
 (aj LY ak)
 ak)
def rP:SM:=(dN (rC ">") (aj Jq ak) ak)
def Hc:SM:=(aj (aT 1 (mN b9 (aa (mN (aB pP) (aa (ab 0) ag)) (aa (mN (aB EW) (aa (ab 0) ag)) (aa (ae .non) (aa (ae .non) (aa (ae .non) ag)))))))
 (aj (aT 2 (bx cp bM (ab 0) (aa (ae (.str ":")) ag)))
 (aj rT
 (aj (aT 2 (bx cp bM (m1 (gz "." "=") (ab 0)) (aa (ae (.str "=")) ag)))
 (aj rF
 (aj (aT 2 (bx cp bM (m1 (gz ">" "=") (ab 0)) (aa (ae (.str "=")) ag)))
 (aj rP
 (aj (bf (ab 1)) ak))))))))
def Hd:c9:=cQ 4 1 Hc
def LZ:bb:=Jm.bC "_law_read" Hd
theorem Jr:bQ EX EY (ao (top 24))=true:=by decide +kernel
theorem Js:vO Jm td (top 24) EX=some Hc:=rfl
def Jt:bb:=LZ.bC "_law_alike" yW
noncomputable def EZ:List Str:=["_law_found","_law_due"]
noncomputable def E8:List Str:=["_law_found","_law_due"]
def zC(G:c9):EM:=(cg (mN (aB G) (aa (ab 0) (aa (ab 1) ag))) true (ae .non) (sP (aa (ab 0) (aa (ab 1) ag))) 2 [])
def dA(G:c9):SM:=
 (aj (dN (fY (m2 (aw .Is) (ab 1) (ae .non)) (m2 (aw .Is) (ab 0) (ae .non)))
 (aj (bf (bV (m2 (aw .Is) (ab 0) (ae .non)) (m2 (aw .Is) (ab 1) (ae .non))))
 ak)
 ak)
 (aj (dN (m1 isLT (ab 1))
 (aj (dN (fY (m2 (aw .NotEq) (m1 (cA .list) (ab 0)) (m1 (cA .list) (ab 1))) (m2 (aw .NotEq) (m1 (cA .tuple) (ab 0)) (m1 (cA .tuple) (ab 1))))
 (aj (bf (ae (.bl false)))
 ak)
 ak)
 (aj (bf (bV (m2 (aw .Eq) (mN (aH .len) (aa (ab 0) ag)) (mN (aH .len) (aa (ab 1) ag))) (mN (aH .all) (aa (zC G) ag))))
 ak))
 ak)
 (aj (dN (m1 (cA .str) (ab 1))
 (aj (bf (bV (m1 (cA .str) (ab 0)) (m2 (aw .Eq) (ab 0) (ab 1))))
 ak)
 ak)
 (aj (bf (bV (m1 (cA .int) (ab 0)) (bV (dP (m1 (cA .bool) (ab 0))) (m2 (aw .Eq) (ab 0) (ab 1)))))
 ak))))
def L8:SM:=dA yW
def E9:c9:=cQ 2 2 L8
def Ju:bb:=Jt.bC "_law_alike" E9
theorem Jv:bQ EZ E8 (ao (top 25))=true:=by decide +kernel
theorem Jw:cF Jt td (top 25) EZ=some L8:=rfl
noncomputable def E_:List Str:=["_law_found","_law_due"]
noncomputable def Jx:List Str:=["_law_found","_law_due"]
def L9:SM:=dA E9
def Fb:c9:=cQ 2 2 L9
def Jy:bb:=Ju.bC "_law_alike" Fb
theorem Jz:bQ E_ Jx (ao (top 25))=true:=by decide +kernel
theorem JA:cF Ju td (top 25) E_=some L9:=rfl
noncomputable def Fc:List Str:=["_law_found","_law_due"]
noncomputable def JB:List Str:=["_law_found","_law_due"]
def L_:SM:=dA Fb
def Fd:c9:=cQ 2 2 L_
def JC:bb:=Jy.bC "_law_alike" Fd
theorem JD:bQ Fc JB (ao (top 25))=true:=by decide +kernel
theorem JE:cF Jy td (top 25) Fc=some L_:=rfl
noncomputable def Fe:List Str:=["_law_found","_law_due"]
noncomputable def JF:List Str:=["_law_found","_law_due"]
def Ma:SM:=dA Fd
def wR:c9:=cQ 2 2 Ma
def JG:bb:=JC.bC "_law_alike" wR
theorem JH:bQ Fe JF (ao (top 25))=true:=by decide +kernel
theorem JI:cF JC td (top 25) Fe=some Ma:=rfl
noncomputable def Ff:List Str:=["_law_word"]
noncomputable def Fg:List Str:=["_law_word"]
def He:SM:=
 (aj (bf (mN b9 (aa (mN (aB O2) (aa (ab 0) ag)) (aa (mN (aB O3) (aa (ab 0) ag)) (aa (mN (aB O5) (aa (ab 0) ag)) (aa (mN (aB O6) (aa (ab 0) ag)) (aa (mN (aB O7) (aa (ab 0) ag)) ag)))))))
 ak)
def Cb:c9:=cQ 1 1 He
def JJ:bb:=JG.bC "_law_told" Cb
theorem JK:bQ Ff Fg (ao (top 26))=true:=by decide +kernel
theorem JL:cF JG td (top 26) Ff=some He:=rfl
noncomputable def Fh:List Str:=["_law_word","_law_due","_law_found"]
noncomputable def Fi:List Str:=["_law_word"]
def rA:SM:=(dN (m2 (aw .IsNot) (m2 aA (ab 1) (ae (.int 0))) (ae .non))
 (aj (ke (bx sF cx (m2 aA (ab 2) (ae (.int 0))) (aa (ae (.str "x")) ag)))
 (aj (dN (fY (m2 (aw .NotEq) (mN (aB O8) (aa (m2 aA (ab 1) (ae (.int 0))) ag)) (ab 0)) (m2 (aw .NotEq) (mN (aB O8) (aa (mN (aH .tuple) (aa (m2 aA (ab 1) (ae (.int 0))) ag)) ag)) (ab 0)))
 (aj (bf (ae (.bl false)))
 ak)
 ak)
 ak))
 ak)
def rB:SM:=(dN (bV (m2 (aw .IsNot) (m2 aA (ab 1) (ae (.int 4))) (ae .non)) (m2 (aw .NotEq) (mN (aB O9) (aa (m2 aA (ab 2) (ae (.int 4))) ag)) (ab 0)))
 (aj (bf (ae (.bl false)))
 ak)
 ak)
def Hf:SM:=(aj (aT 1 (mN (aB Hd) (aa (ab 0) ag)))
 (aj (aT 2 (mN (aB Cb) (aa (ab 0) ag)))
 (aj (dN (dP (mN (aB wR) (aa (ab 2) (aa (ab 1) ag))))
 (aj (bf (ae (.bl false)))
 ak)
 ak)
 (aj rA (aj rB
 (aj (bf (mN (aB wR) (aa (mN (aB Cb) (aa (ab 0) ag)) (aa (ab 1) ag))))
 ak))))))
def wm:c9:=cQ 3 1 Hf
def JM:bb:=JJ.bC "_law_right" wm
theorem JN:bQ Fh Fi (ao (top 27))=true:=by decide +kernel
theorem JO:cF JJ td (top 27) Fh=some Hf:=rfl
noncomputable def Fj:List Str:=["_law_cell_here","_law_names_here","_law_some","_law_far","_law_number_here","_law_sign","_law_size","_law_found","_law_words_here"]
noncomputable def Fl:List Str:=["_law_cell_here"]
def zw:EM:=(bV (m2 (aw .Eq) (mN (bS F0) (aa (ab 0) (aa (ae (.int 15)) (aa (ae (.int 2)) ag)))) (ae (.int 1))) (m2 (aw .Gt) (ab 4) (ae (.int 0))))
def Mb:EM:=(m2 aA (mN b9 (aa (ae (.str "")) (aa (ae (.str "-")) ag))) (eH (mN (aH .int) (aa zw ag)) (mN eN (aa zw ag))))
def JP:EM:=(m2 aA (m2 (ax .Add) (m2 kf (mN b9 (aa (m2 aA (ab 1) (ae (.int 5))) ag)) (ae (.int 3))) (mN b9 (aa (ae (.str "-")) ag))) (mN (bS F0) (aa (ab 0) (aa (ae (.int 17)) (aa (ae (.int 4)) ag)))))
def Hg:SM :=   (aj (aT 1 (mN (aB G9) (aa (ab 0) (aa (ae (.int 6)) ag))))
 (aj (aT 2 (bx cp dM (ae (.str ",")) (aa (bL (ab 1) true (ae .non) false (mN (bS F0) (aa (ab 0) (aa (ae (.int 12)) (aa (ae (.int 6)) ag))))) ag)))
 (aj (dN (m2 (aw .Eq) (ab 2) (ae (.str "")))
 (aj (aT 2 (ae (.str "-")))
 ak)
 ak)
 (aj (aT 3 (m2 aA (mN b9 (aa (ae (.int 10)) (aa (ae (.int 1000)) (aa (m2 (ax .Pow) (ae (.int 10)) (ae (.int 30))) (aa (m2 (ax .Pow) (ae (.int 10)) (ae (.int 60))) ag))))) (mN (bS F0) (aa (ab 0) (aa (ae (.int 13)) (aa (ae (.int 4)) ag))))))
 (aj (aT 4 (m2 aA (mN b9 (aa (m2 (ax .Mod) (m2 (ax .FloorDiv) (ab 0) (ae (.int 2))) (ab 3)) (aa (ae (.int 0)) (aa (m2 (ax .Sub) (ab 3) (ae (.int 1))) (aa (m2 (ax .Mod) (m2 kf (ab 0) (m2 (ax .Pow) (ae (.int 982451653)) (ae (.int 7)))) (ab 3)) ag))))) (mN (bS F0) (aa (ab 0) (aa (ae (.int 14)) (aa (ae (.int 4)) ag))))))
 (aj (aT 5 Mb)
 (aj (aT 6 (m2 aA (ae (.str "012?")) (mN (bS F0) (aa (ab 0) (aa (ae (.int 16)) (aa (ae (.int 4)) ag))))))
 (aj (aT 7 JP)
 (aj (aT 8 (mN b9 (aa (ab 2) (aa (m2 (ax .Add) (ab 5) (mN kJ (aa (ab 4) ag))) (aa (m2 (ax .Add) (m2 (ax .Add) (m2 aA (ab 1) (ae (.int 4))) (ae (.str ":"))) (ab 2)) (aa (m2 (ax .Add) (m2 (ax .Add) (m2 (ax .Add) (m2 (ax .Add) (m2 aA (ab 1) (ae (.int 3))) (ae (.str "."))) (m2 aA (ab 1) (ae (.int 2)))) (ae (.str "="))) (ab 6)) ag))))))
 (aj (bf (m2 (ax .Add) (ab 8) (mN b9 (aa (m2 (ax .Add) (m2 (ax .Add) (m2 (ax .Add) (m2 (ax .Add) (ab 2) (ae (.str ">"))) (ab 7)) (ae (.str "="))) (m2 aA (ae (.str "012")) (mN (bS F0) (aa (ab 0) (aa (ae (.int 18)) (aa (ae (.int 3)) ag)))))) ag))))
 ak))))))))))
def Hh:c9:=cQ 9 1 Hg
def JQ:bb:=JM.bC "_law_words" Hh
theorem JR:bQ Fj Fl (ao (top 28))=true:=by decide +kernel
theorem JS:cF JM td (top 28) Fj=some Hg:=rfl
noncomputable def Fm:List Str:=["_law_word","_law_cell_here","_law_turn","_law_signs","_law_sign","_law_at","_law_some"]
noncomputable def Fo:List Str:=["_law_word","_law_cell_here","_law_turn"]
def Hi:SM:=
 (aj (aT 3 (ae (.str "a0A9-,.:=>?+ 12_<;/\n\t~!`{")))
 (aj (aT 4 (m2 aA (ab 3) (mN (bS F0) (aa (ab 1) (aa (ab 2) (aa (mN (aH .len) (aa (ab 3) ag)) ag))))))
 (aj (aT 5 (mN (bS F0) (aa (ab 1) (aa (m2 (ax .Add) (ab 2) (ae (.int 1))) (aa (mN (aH .len) (aa (ab 0) ag)) ag)))))
 (aj (aT 6 (mN b9 (aa (m2 (ax .Add) (m2 (ax .Add) (bL (ab 0) true (ae .non) false (ab 5)) (ab 4)) (bL (ab 0) false (ab 5) true (ae .non))) (aa (m2 (ax .Add) (m2 (ax .Add) (bL (ab 0) true (ae .non) false (ab 5)) (ab 4)) (bL (ab 0) false (m2 (ax .Add) (ab 5) (ae (.int 1))) true (ae .non))) (aa (m2 (ax .Add) (bL (ab 0) true (ae .non) false (ab 5)) (bL (ab 0) false (m2 (ax .Add) (ab 5) (ae (.int 1))) true (ae .non))) (aa (m2 (ax .Add) (ab 0) (ab 4)) ag))))))
 (aj (bf (m2 (ax .Add) (ab 6) (mN b9 (aa (m2 (ax .Add) (ab 4) (ab 0)) (aa (m2 (ax .Add) (ab 0) (ab 0)) (aa (m2 (ax .Add) (m2 (ax .Add) (ab 0) (ae (.str ","))) (ab 0)) (aa (m2 (ax .Add) (ae (.str "0")) (ab 0)) ag)))))))
 ak)))))
def Hj:c9:=cQ 7 3 Hi
def JT:bb:=JQ.bC "_law_spoilt" Hj
theorem JU:bQ Fm Fo (ao (top 29))=true:=by decide +kernel
theorem JV:cF JQ td (top 29) Fm=some Hi:=rfl
noncomputable def Fp:List Str:=["_law_cell_here","_law_words_here","_law_row","_law_some","_law_text","_law_found"]
noncomputable def Fq:List Str:=["_law_cell_here","_law_words_here"]
def Hk:SM:=(aj (aT 5 (mN (aB O1) (aa (ab 4) ag)))
 (aj (dN (dP (mN (aB wR) (aa (ab 5) (aa (mN (aH .tuple) (aa (bx cp bM (ab 4) (aa (ae (.str " ")) ag)) ag)) ag))))
 (aj (bf (ae (.bl false)))
 ak)
 ak)
 ak))
def Hl:SM:=(aj (aT 2 (bx cp dM (ae (.str " ")) (aa (bL (ab 1) true (ae .non) false (mN (bS F0) (aa (ab 0) (aa (ae (.int 19)) (aa (ae (.int 6)) ag))))) ag)))
 (aj (aT 3 (mN b9 (aa (ab 2) (aa (m2 (ax .Add) (ab 2) (ae (.str " "))) (aa (m2 (ax .Add) (ae (.str " ")) (ab 2)) (aa (m1 (gz " " "  ") (ab 2)) ag))))))
 (aj (fo (de 4) (cJ (ab 3)) Hk)
 (aj (bf (ae (.bl true))) ak))))
def Fs:c9:=cQ 6 2 Hl
def Mc:bb:=JT.bC "_law_rows" Fs
theorem JW:bQ Fp Fq (ao (top 30))=true:=by decide +kernel
theorem JX:vO JT td (top 30) Fp=some Hl:=rfl
noncomputable def Ft:List Str:=["_law_script","_law_cell_here","_law_words_here","_law_k","_law_one"]
noncomputable def Cc:List Str:=["_law_script"]
def Hm:SM:=(aj (dN (dP (mN (aB wm) (aa (ab 4) ag)))
 (aj (bf (ae (.bl false)))
 ak)
 ak)
 ak)
def lI:IM:=(cJ (mN (aB Hj) (aa (m2 aA (ab 2) (ab 3)) (aa (ab 1) (aa (m2 (ax .Add) (ae (.int 20)) (m2 (ax .Mult) (ae (.int 2)) (ab 3))) ag)))))
def Hn:SM:=(aj (dN (dP (mN (aB wm) (aa (m2 aA (ab 2) (ab 3)) ag)))
 (aj (bf (ae (.bl false)))
 ak)
 ak)
 (aj (fo (de 4) lI Hm)
 ak))
def Ho:SM:=(aj (aT 2 (mN (aB Hh) (aa (ab 1) ag)))
 (aj (dN (dP (mN (aB Fs) (aa (ab 1) (aa (ab 2) ag))))
 (aj (bf (ae (.bl false)))
 ak)
 ak)
 (aj (fo (de 3) (dd (aa (mN (aH .len) (aa (ab 2) ag)) ag)) Hn)
 ak)))
def lJ:IM:=(cJ (m2 (ax .Add) (bL (ab 0) true (ae .non) false (ae (.int 20))) (mN b9 (aa (ae (.int 0)) (aa (ae (.int 2)) (aa (ae (.int 4)) ag))))))
def lR:EM:=(bV (mN (aB wm) (aa (ae (.str "")) ag)) (bV (mN (aB wm) (aa (ae (.str "->-=0")) ag)) (bV (mN (aB wm) (aa (ae (.str "-")) ag)) (bV (mN (aB wm) (aa (ae (.str "-0")) ag)) (mN (aB wm) (aa (ae (.str "a:-")) ag))))))
def Hq:SM:=(aj (fo (de 1) lJ Ho) (aj (bf lR) ak))
def Hr:c9:=cQ 5 1 Hq
theorem JY:bQ Ft Cc (ao (top 31))=true:=by decide +kernel
theorem JZ:cF Mc td (top 31) Ft=some Hq:=rfl
section
variable{Ω az:aE}{z:Str}
theorem pQ{z:Str}(h:z.length<=4000):z.length<=80000:=by omega
theorem oa(hz:z.length<=4000){op:CmpOp}{a b:Int}(e:∀Ω,(fm op op (ae (.int a)) (mN (aH .len) (aa (ab 0) ag)) (ae (.int b))) [oS z] Ω=.ok (.bl (decide (1<=z.length)&&decide (z.length<=8))) Ω) :
  ∃az,(bV (fm op op (ae (.int a)) (mN (aH .len) (aa (ab 0) ag)) (ae (.int b))) (mN (aH .all) (aa (cg (m2 (aw .In) (ab 0) (ae (.str "abcdefghijklmnopqrstuvwxyz"))) true (ae .non) (cJ (ab 0)) 0 []) ag))) [oS z] Ω=.ok (.bl (dm z)) az/\av [] Ω az:=by
 have f:=pN (Ω:=Ω) (ρ:=[oS z]) (i:=0) (L:="abcdefghijklmnopqrstuvwxyz") rfl (pQ hz);have d:=gI (Ω:=Ω++[.lst ((z.cps.toList.map λc=>c_ (aD c) "abcdefghijklmnopqrstuvwxyz").map .bl)]) aF
 have g:(z.cps.toList.map λc=>c_ (aD c) "abcdefghijklmnopqrstuvwxyz").all id=z.cps.toList.all tp:=by
  rw[dv];congr 1;funext c;exact pO c
 rw[g]at d;rw[bE,e,af,ay];cases h:(decide (1<=z.length)&&decide (z.length<=8))with
 |true=>
  refine⟨Ω++[.lst ((z.cps.toList.map λc=>c_ (aD c) "abcdefghijklmnopqrstuvwxyz").map .bl)],?_,av.app⟩
  rw[cj,bt,ai,f,af,bj,af,af,d];unfold dm;rw[h];rfl
 |false=>
  refine⟨Ω,?_,av.refl⟩;rw[df];unfold dm;rw[h];rfl
theorem jf(hz:z.length<=4000):∃az,O0 [.str z] Ω=.ok (.bl (dm z)) az/\av [] Ω az:=by
 obtain⟨az,c,d⟩:=oa (Ω:=Ω) hz (op:=.LtE) (a:=1) (b:=8) λΩ=>by
  have e:(mN (aH .len) (aa (ab 0) ag)) [oS z] Ω=.ok (.int z.length) Ω:=eS (by omega)
  have f:cu .LtE (.int 1) (.int z.length) Ω=.ok (.bl (decide (1<=z.length))) Ω:=by
   have:decide ((1:Int)<=z.length)=decide (1<=z.length):=by congr 1;exact propext ⟨λh=>by omega,λh=>by omega⟩
   simp[bY,this]
  have g:cu .LtE (.int z.length) (.int 8) Ω=.ok (.bl (decide (z.length<=8))) Ω:=by
   have:decide ((z.length:Int)<=8)=decide (z.length<=8):=by congr 1;exact propext ⟨λh=>by omega,λh=>by omega⟩
   simp[bY,this]
  unfold fm;rw[aO,af,e,af,f,aQ,ay,aP,af];cases h:decide (1<=z.length)with
  |true=>rw[if_pos rfl,aO,af,g];rfl
  |false=>rw[if_neg (by simp)];rfl
 refine⟨az,?_,d⟩
 show cQ 1 1 d0 [.str z] Ω=_
 rw[bH (by rfl)]
 have i:ba 1 [D.str z]=[oS z]:=rfl;have j:(dN (dP (m1 (cA .str) (ab 0))) (aj (bf (ae (.bl false))) ak) ak) [oS z] Ω=.nx [oS z] Ω:=by rfl
 unfold d0;rw[i,ah,j,aC,ah,br,c];rfl
theorem jQ(hz:z.length<=4000):∃az,wk [.str z] Ω=.ok (.bl (dm z)) az/\av [] Ω az:=by
 obtain⟨az,c,d⟩:=oa (Ω:=Ω) hz (op:=.Lt) (a:=0) (b:=9) λΩ=>by
  have e:(mN (aH .len) (aa (ab 0) ag)) [oS z] Ω=.ok (.int z.length) Ω:=eS (by omega)
  have f:cu .Lt (.int 0) (.int z.length) Ω=.ok (.bl (decide (1<=z.length))) Ω:=by
   simp[bY];omega
  have g:cu .Lt (.int z.length) (.int 9) Ω=.ok (.bl (decide (z.length<=8))) Ω:=by
   have:decide ((z.length:Int)<9)=decide (z.length<=8):=by congr 1;exact propext ⟨λh=>by omega,λh=>by omega⟩
   simp[bY,this]
  unfold fm;rw[aO,af,e,af,f,aQ,ay,aP,af];cases h:decide (1<=z.length)with
  |true=>rw[if_pos rfl,aO,af,g];rfl
  |false=>rw[if_neg (by simp)];rfl
 refine⟨az,?_,d⟩
 show cQ 1 1 G_ [.str z] Ω=_
 rw[bH (by rfl)]
 have i:ba 1 [D.str z]=[oS z]:=rfl;unfold G_;rw[i,ah,br,c];rfl
theorem pR{G:c9}(l:∀(Ω:aE) (z:Str),z.length<=4000->∃az,G [.str z] Ω=.ok (.bl (dm z)) az/\av [] Ω az){ρ:aR}{i k:Nat}{xs:List Str}(m:ρ[i]?=some (oR k))(j:Ω[k]?=some (.lst (xs.map .str)))(n:∀x∈xs,x.length<=4000)(r:xs.length<=80000) :
  ∃cR,cg (mN (aB G) (aa (ab 0) ag)) true (ae .non) (cJ (ab i)) 0 [] ρ Ω=.ok (.ref cR.length) (cR++[.lst ((xs.map dm).map .bl)])/\av [] Ω cR:=by
 have b:cJ (ab i) ρ Ω=.ok (.seq (.ref k)) Ω:=by
  rw[gF,bN,m,cz,af];exact eR (by rw[cW,bg j])
 obtain⟨cR,e,h⟩:=BY (ρ:=ρ) (Ω:=Ω) (az:=Ω) (me:=mN (aB G) (aa (ab 0) ag)) (mc:=ae .non) (mi:=cJ (ab i)) (cap:=[]) (src:=.seq (.ref k)) (ds:=xs.map .str) (g:=λd=>match d with|.str y=>.bl (dm y)|_=>.non) (λa=>av [] Ω a) b av.refl (λa K=>by rw[gG,cW,bg (K.get _ _ j (by simp))]) (λd o a K=>by
  obtain⟨x,c,rfl⟩:=List.mem_map.mp o;obtain⟨f,p,q⟩:=l a x (n x c);refine⟨f,?_,K.trans q⟩
  show(mN (aB G) (aa (ab 0) ag)) [oS x] a=_
  rw[bt,ai,bN]
  show CI (G [.str x] a)=_
  rw[p];rfl) (by simpa using (by omega:xs.length<=90000))
 refine⟨cR,?_,h⟩;rw[e,List.map_map,List.map_map];rfl
end
section
variable{Ω az:aE}{z:Str}
theorem kM{x:Str}(hz:z.length<=4000)(h:x∈Txt.split z ","):x.length<=4000:=Nat.le_trans (n_ h) hz
theorem dU(z y:Str):aw .Eq (.str z) (.str y) Ω=.ok (.bl (decide (z=y))) Ω:=by
 have:(z==y)=decide (z=y):=by by_cases h:z=y<;>simp[h]
 simp[bY,aK,dn,this]
theorem gJ(z y:Str):aw .NotEq (.str z) (.str y) Ω=.ok (.bl (!decide (z=y))) Ω:=by
 have:(z==y)=decide (z=y):=by by_cases h:z=y<;>simp[h]
 simp[bY,aK,dn,this]
theorem jR(hz:z.length<=4000):∃d az,O2 [.str z] Ω=.ok d az/\av [] Ω az/\iu az d (ey z)/\∀k,d=.ref k->Ω.length<=k:=by
 have o:ba 2 [D.str z]=[oS z,none]:=rfl
 show ∃d az,cQ 2 1 d2 [.str z] Ω=.ok d az/\_
 rw[bH (by rfl),o]
 unfold d2
 by_cases h:z="-"
 .subst h
  refine⟨.ref Ω.length,Ω++[.lst []],rfl,av.app,⟨Ω.length,rfl,aF⟩,λk e=>by cases e;exact Nat.le_refl _⟩
 .have p:(m2 (aw .Eq) (ab 0) (ae (.str "-"))) [oS z,none] Ω=.ok (.bl false) Ω:=by
   show aw .Eq (.str z) (.str "-") Ω=_
   rw[dU,decide_eq_false h]
  have f:=eT (Ω:=Ω) (ρ:=[oS z,none]) (i:=0) (y:=",") rfl hz rfl;have c:(Ω++[Cell.lst ((Txt.split z ",").map .str)])[Ω.length]?=some (.lst ((Txt.split z ",").map .str)):=aF;have g:av [] Ω (Ω++[Cell.lst ((Txt.split z ",").map .str)]):=av.app;generalize Ω++[Cell.lst ((Txt.split z ",").map .str)]=b at f c g;obtain⟨a,q,j⟩:=pR (Ω:=b) (λΩ z hz=>jf hz) (ρ:=[oS z,oR Ω.length]) (i:=1) (k:=Ω.length) rfl c (λx r=>kM hz r) (by have:=split_len z ",";omega)
  have s:=j.get _ _ c (by simp)
  have l:av [] a (a++[Cell.lst (((Txt.split z ",").map dm).map .bl)]):=av.app;have t:=l.get _ _ s (by simp)
  have m:=gI (Ω:=a++[Cell.lst (((Txt.split z ",").map dm).map .bl)]) aF;rw[dv]at m;rw[ah,bp,p,aQ,ay,aP,aJ,if_neg (by simp),cD,aC,ah,aN,f,aJ,aC]
  show ∃d az,bW ((aj (bf (ou (mN (aH .all) (aa (cg (mN (aB O0) (aa (ab 0) ag)) true (ae .non) (cJ (ab 1)) 0 []) ag)) (ab 1) (ae .non))) ak) [oS z,oR Ω.length] b)=.ok d az/\_
  have u:(mN (aH .all) (aa (cg (mN (aB O0) (aa (ab 0) ag)) true (ae .non) (cJ (ab 1)) 0 []) ag)) [oS z,oR Ω.length] b=.ok (.bl ((Txt.split z ",").all dm)) (a++[Cell.lst (((Txt.split z ",").map dm).map .bl)]):=by
   rw[bt,ai,q,af,bj,af,af,m]
  rw[ah,br,gc,u,aQ,ay,aP,af];have n:=(g.trans j).trans l;unfold ey;rw[if_neg h];cases w:(Txt.split z ",").all dm with
  |true=>
   rw[if_pos rfl,if_pos rfl];exact⟨.ref Ω.length,_,rfl,n,⟨Ω.length,rfl,t⟩,λk e=>by cases e;exact Nat.le_refl _⟩
  |false=>
   rw[if_neg (by simp),if_neg (by simp)]
   exact⟨.non,_,rfl,n,rfl,λk e=>by cases e⟩
theorem eU(hz:z.length<=4000):∃d az,pP [.str z] Ω=.ok d az/\av [] Ω az/\iu az d (ey z)/\∀k,d=.ref k->Ω.length<=k:=by
 have u:ba 2 [D.str z]=[oS z,none]:=rfl
 show ∃d az,cQ 2 1 Ha [.str z] Ω=.ok d az/\_
 rw[bH (by rfl),u]
 unfold Ha
 by_cases h:z="-"
 .subst h
  refine⟨.ref Ω.length,Ω++[.lst []],rfl,av.app,⟨Ω.length,rfl,aF⟩,λk e=>by cases e;exact Nat.le_refl _⟩
 .have w:(m2 (aw .Eq) (ab 0) (ae (.str "-"))) [oS z,none] Ω=.ok (.bl false) Ω:=by
   show aw .Eq (.str z) (.str "-") Ω=_
   rw[dU,decide_eq_false h]
  have n:=eT (Ω:=Ω) (ρ:=[oS z,none]) (i:=0) (y:=",") rfl hz rfl;have o:(Ω++[Cell.lst ((Txt.split z ",").map .str)])[Ω.length]?=some (.lst ((Txt.split z ",").map .str)):=aF;have p:av [] Ω (Ω++[Cell.lst ((Txt.split z ",").map .str)]):=av.app;generalize Ω++[Cell.lst ((Txt.split z ",").map .str)]=a at n o p;have q:(mN b9 (aa (ab 1) (aa (ae .non) ag))) [oS z,oR Ω.length] a=.ok (.ref a.length) (a++[.lst [.ref Ω.length,.non]]):=by rfl
  have r:(a++[Cell.lst [.ref Ω.length,.non]])[a.length]?=some (.lst [.ref Ω.length,.non]):=aF;have j:av [] a (a++[Cell.lst [.ref Ω.length,.non]]):=av.app;have c:=j.get _ _ o (by simp)
  generalize a++[Cell.lst [.ref Ω.length,.non]]=f at q r j c;obtain⟨b,A,l⟩:=pR (Ω:=f) (λΩ z hz=>jQ hz) (ρ:=[oS z,oR Ω.length]) (i:=1) (k:=Ω.length) rfl c (λx B=>kM hz B) (by have:=split_len z ",";omega)
  have C:=l.get _ _ c (by simp)
  have m:av [] b (b++[Cell.lst (((Txt.split z ",").map dm).map .bl)]):=av.app;have E:=m.get _ _ C (by simp)
  have g:=m.get _ _ (l.get _ _ r (by simp)) (by simp)
  have s:=ro (Ω:=b++[Cell.lst (((Txt.split z ",").map dm).map .bl)]) aF;rw[dv]at s;rw[ah,bp,w,aQ,ay,aP,aJ,if_neg (by simp),cD,aC,ah,aN,n,aJ,aC]
  show ∃d az,bW ((aj (bf (m2 aA (mN b9 (aa (ab 1) (aa (ae .non) ag))) (mN (aH .int) (aa (m2 (aw .In) (ae (.bl false)) (cg (mN (aB wk) (aa (ab 0) ag)) true (ae .non) (cJ (ab 1)) 0 [])) ag)))) ak) [oS z,oR Ω.length] a)=.ok d az/\_
  have F:(mN (aH .int) (aa (m2 (aw .In) (ae (.bl false)) (cg (mN (aB wk) (aa (ab 0) ag)) true (ae .non) (cJ (ab 1)) 0 [])) ag)) [oS z,oR Ω.length] f=.ok (.int (if (!(Txt.split z ",").all dm)then 1 else 0)) (b++[Cell.lst (((Txt.split z ",").map dm).map .bl)]):=by
   rw[bt,ai,aX,aO,af,A,af,s,af,bj,af,af];rfl
  rw[ah,br,aX,q,af,F,af];have t:=((p.trans j).trans l).trans m;unfold ey;rw[if_neg h];cases G:(Txt.split z ",").all dm with
  |true=>
   rw[if_pos rfl];have:=cC (i:=0) g (d:=.ref Ω.length) rfl;refine⟨.ref Ω.length,_,?_,t,⟨Ω.length,rfl,E⟩,λk e=>by cases e;exact Nat.le_refl _⟩
   show bW (sq (cm (aA (.ref a.length) (.int 0) _) _) _)=_
   rw[this];rfl
  |false=>
   rw[if_neg (show ¬ (false=true)by simp)]
   have:=cC (i:=1) g (d:=.non) rfl;refine⟨.non,_,?_,t,rfl,λk e=>by cases e⟩
   show bW (sq (cm (aA (.ref a.length) (.int 1) _) _) _)=_
   rw[this];rfl
end
theorem Fu(n d:Nat):HT.fj n d (some 1)=min 1 n:=by
 unfold HT.fj;simp
theorem J8(n d:Nat):HT.fj n d (some 0)=0:=by
 unfold HT.fj;simp
theorem wo(n d:Nat):HT.fj n d none=d:=rfl
theorem vW(l:List Nat):bZ l (some 1) none=l.drop 1:=by
 unfold bZ;rw[Fu,wo];cases l with
 |nil=>rfl
 |cons a l=>simp
theorem Fw(l:List Nat):bZ l (some 0) none=l:=by
 unfold bZ;rw[J8,wo];simp
theorem Fx(l:List Nat):bZ l none (some 1)=l.take 1:=by
 unfold bZ;rw[Fu,wo];cases l with
 |nil=>rfl
 |cons a l=>simp
noncomputable def zx(z:Str):Bool:=decide (z.cps.toList[0]?=some 45)
def fg(z:Str):Str:=if zx z then cT (z.cps.toList.drop 1)else z
def tD(f:Str):Bool:=decide (1<=f.length)&&decide (f.length<=60)&&f.cps.toList.all jP
def ow(z:Str):Option Int:=if tD (fg z)then (if (fg z).cps.toList[0]?=some 48/\z≠"0" then none else PySem.intText? z)else none
noncomputable def cL:Option Int->D
 |some i=>.int i
 |none=>.non
theorem bX(z:Str):z.cps.toList.length=z.length:=by simp[Str.length]
theorem pS(z:Str):(fg z).length<=z.length/\z.length<=(fg z).length+1:=by
 unfold fg;split
 .have a:(cT (z.cps.toList.drop 1)).length=(z.cps.toList.drop 1).length:=by rw[←bX,toList_mkS]
  rw[a,List.length_drop,bX];omega
 .omega
theorem jS{l:List Nat}(h:l.all jP=true):PySem.NumText.AllDigits l:=λc a=>by
 have:=List.all_eq_true.mp h c a;unfold jP at this;simpa using this
theorem wq{z:Str}(h:tD (fg z)=true):∃n,PySem.intText? z=some n/\z.length<=640:=by
 have m:=pS z;unfold tD at h;simp only[Bool.and_eq_true,decide_eq_true_eq]at h;obtain⟨⟨i,k⟩,c⟩:=h
 by_cases d:zx z=true
 .have f:fg z=cT (z.cps.toList.drop 1):=by unfold fg;rw[if_pos d]
  rw[f,toList_mkS]at c;have g:z.cps.toList[0]?=some 45:=by unfold zx at d;simpa using d
  have l:z.cps.toList=45::z.cps.toList.drop 1:=by
   cases j:z.cps.toList with
   |nil=>rw[j]at g;cases g
   |cons a r=>rw[j]at g;cases g;rfl
  have b:z.cps.toList.drop 1≠[]:=λe=>by
   have:(cT (z.cps.toList.drop 1)).length=0:=by rw[←bX,toList_mkS,e];rfl
   rw[f]at i;omega
  exact⟨_,PySem.intText_neg l (jS c) b (by omega),by omega⟩
 .have f:fg z=z:=by unfold fg;rw[if_neg d]
  rw[f]at i k c
  have b:z.cps.toList≠[]:=λe=>by
   have:z.length=0:=by rw[←bX,e];rfl
   omega
  exact⟨_,PySem.intText_digits (jS c) b (by omega),by omega⟩
section
variable{Ω az:aE}{z:Str}{ρ:aR}
theorem oe{f:Str->Str->D}{i:Nat}{y:Str}(a:ρ[i]?=some (oS z)):bx cp (sJ f) (ab i) (aa (ae (.str y)) ag) ρ Ω=.ok (f z y) Ω:=by
 unfold bx;rw[bN,a];rfl
theorem fI{i:Nat}{m:EM}{j:Int}(a:ρ[i]?=some (oS z))(hz:z.length<=4000)(b:m ρ Ω=.ok (.int j) Ω):bL (ab i) false m true (ae .non) ρ Ω=.ok (.str ⟨(bZ z.cps.toList (some j) none).toArray⟩) Ω:=by
 rw[jN,bN,a,cz,af,mf,b,af,mj,af,l_,af,nX,ri,if_pos (bz (by omega))]
 rfl
theorem og{i:Nat}{m:EM}{j:Int}(a:ρ[i]?=some (oS z))(hz:z.length<=4000)(b:m ρ Ω=.ok (.int j) Ω):bL (ab i) true (ae .non) false m ρ Ω=.ok (.str ⟨(bZ z.cps.toList none (some j)).toArray⟩) Ω:=by
 rw[jN,bN,a,cz,af,l_,af,mf,b,af,mj,af,nX,ri,if_pos (bz (by omega))]
 rfl
theorem wt{f:Str}(d:ρ[1]?=some (oS f))(e:f.length<=4000):(mN (aH .all) (aa (cg (m2 (aw .In) (ab 0) (ae (.str "0123456789"))) true (ae .non) (cJ (ab 1)) 0 []) ag)) ρ Ω=.ok (.bl (f.cps.toList.all jP)) (Ω++[.lst ((f.cps.toList.map λc=>c_ (aD c) "0123456789").map .bl)]):=by
 have a:=pN (Ω:=Ω) (ρ:=ρ) (i:=1) (L:="0123456789") d (pQ e);have b:=gI (Ω:=Ω++[.lst ((f.cps.toList.map λc=>c_ (aD c) "0123456789").map .bl)]) aF
 rw[dv,show(λc=>c_ (aD c) "0123456789")=jP from funext iL]at b
 rw[show(λc=>c_ (aD c) "0123456789")=jP from funext iL]at a ⊢
 rw[bt,ai,a,af,bj,af,af,b]
theorem wu{f:Str}(d:ρ[1]?=some (oS f))(e:f.length<=4000):(m2 (aw .In) (ae (.bl false)) (cg (m2 (aw .In) (ab 0) (ae (.str "0123456789"))) true (ae .non) (cJ (ab 1)) 0 [])) ρ Ω=.ok (.bl (!f.cps.toList.all jP)) (Ω++[.lst ((f.cps.toList.map λc=>c_ (aD c) "0123456789").map .bl)]):=by
 have a:=pN (Ω:=Ω) (ρ:=ρ) (i:=1) (L:="0123456789") d (pQ e);have b:=ro (Ω:=Ω++[.lst ((f.cps.toList.map λc=>c_ (aD c) "0123456789").map .bl)]) aF
 rw[dv,show(λc=>c_ (aD c) "0123456789")=jP from funext iL]at b
 rw[show(λc=>c_ (aD c) "0123456789")=jP from funext iL]at a ⊢
 rw[aX,aO,af,a,af,b]
theorem rp{n:Int}(a:ρ[0]?=some (oS z))(h:PySem.intText? z=some n)(b:z.length<=640):(eH (mN (aH .int) (aa (ab 0) ag)) (mN eN (aa (ab 0) ag))) ρ Ω=.ok (.int n) Ω:=by
 have c:(aa (ab 0) ag) ρ Ω=.ok [.str z] Ω:=by rw[ai,bN,a];rfl
 rw[lV,bt,bt,c,af,af];have d:aH .int [.str z] Ω=.bad:=rfl;rw[d,vX]
 show(match PySem.intText? z with|some n=>if z.length<=640 then (aq.ok (D.int n) Ω:aq D)else .bad|none=>.bad)=_
 rw[h];exact if_pos b
theorem wx(hz:z.length<=4000):∃az,O3 [.str z] Ω=.ok (cL (ow z)) az/\av [] Ω az:=by
 have k:ba 2 [D.str z]=[oS z,none]:=rfl
 show ∃az,cQ 2 1 d3 [.str z] Ω=_/\_
 rw[bH (by rfl),k]
 have t:=pS z
 have m:(ou (bx cp (sJ λz y=>.bl (kd z y)) (ab 0) (aa (ae (.str "-")) ag)) (bL (ab 0) false (ae (.int 1)) true (ae .non)) (ab 0)) [oS z,none] Ω=.ok (.str (fg z)) Ω:=by
  rw[gc,oe (z:=z) rfl,aQ,ay,aP,af];have:kd z "-"=zx z:=nV z 45;rw[this];unfold fg;cases h:zx z with
  |true=>
   rw[if_pos rfl,if_pos rfl,fI rfl hz rfl,vW];rfl
  |false=>rfl
 have e:∃a,(fY (dP (fm .LtE .LtE (ae (.int 1)) (mN (aH .len) (aa (ab 1) ag)) (ae (.int 60)))) (dP (mN (aH .all) (aa (cg (m2 (aw .In) (ab 0) (ae (.str "0123456789"))) true (ae .non) (cJ (ab 1)) 0 []) ag)))) [oS z,oS (fg z)] Ω=.ok (.bl (!tD (fg z))) a/\av [] Ω a:=by
  have o:(fm .LtE .LtE (ae (.int 1)) (mN (aH .len) (aa (ab 1) ag)) (ae (.int 60))) [oS z,oS (fg z)] Ω=.ok (.bl (decide (1<=(fg z).length)&&decide ((fg z).length<=60))) Ω:=by
   have g:(mN (aH .len) (aa (ab 1) ag)) [oS z,oS (fg z)] Ω=.ok (.int (fg z).length) Ω:=eS (by omega)
   have p:cu .LtE (.int 1) (.int (fg z).length) Ω=.ok (.bl (decide (1<=(fg z).length))) Ω:=by
    have:decide ((1:Int)<=(fg z).length)=decide (1<=(fg z).length):=by congr 1;exact propext ⟨λh=>by omega,λh=>by omega⟩
    simp[bY,this]
   have r:cu .LtE (.int (fg z).length) (.int 60) Ω=.ok (.bl (decide ((fg z).length<=60))) Ω:=by
    have:decide (((fg z).length:Int)<=60)=decide ((fg z).length<=60):=by congr 1;exact propext ⟨λh=>by omega,λh=>by omega⟩
    simp[bY,this]
   unfold fm;rw[aO,af,g,af,p,aQ,ay,aP,af];cases h:decide (1<=(fg z).length)with
   |true=>rw[if_pos rfl,aO,af,r];rfl
   |false=>rw[if_neg (by simp)];rfl
  rw[dk,dS,o,aQ,ay,aP,af,af,ay];cases h:(decide (1<=(fg z).length)&&decide ((fg z).length<=60))with
  |true=>
   refine⟨_,?_,av.app (l:=[.lst (((fg z).cps.toList.map λc=>c_ (aD c) "0123456789").map .bl)])⟩
   rw[show(!true)=false from rfl,df,dS,wt (f:=fg z) rfl (by omega),aQ,ay,aP,af]
   unfold tD;rw[h];rfl
  |false=>
   refine⟨Ω,?_,av.refl⟩;rw[show(!false)=true from rfl,cj]
   unfold tD;rw[h];rfl
 obtain⟨a,e,i⟩:=e;unfold d3;rw[ah,aN,m,aJ,aC]
 show ∃az,bW ((aj _ _) [oS z,oS (fg z)] Ω)=_/\_
 rw[ah,bp,e,aQ,ay,aP,aJ];unfold ow;cases h:tD (fg z)with
 |false=>
  rw[show(!false)=true from rfl,if_pos (show true=true from rfl),if_neg (show ¬ (false=true)by simp)]
  exact⟨a,rfl,i⟩
 |true=>
  rw[show(!true)=false from rfl,if_neg (show ¬ (false=true)by simp),if_pos (show true=true from rfl),cD,aC,ah,bp]
  have s:(bV (bx cp (sJ λz y=>.bl (kd z y)) (ab 1) (aa (ae (.str "0")) ag)) (m2 (aw .NotEq) (ab 0) (ae (.str "0")))) [oS z,oS (fg z)] a=.ok (.bl (decide ((fg z).cps.toList[0]?=some 48/\z≠"0"))) a:=by
   rw[bE,oe (z:=fg z) rfl,af,ay];have:kd (fg z) "0"=decide ((fg z).cps.toList[0]?=some 48):=nV (fg z) 48;rw[this]
   by_cases d:(fg z).cps.toList[0]?=some 48
   .rw[decide_eq_true d,cj]
    show aw .NotEq (.str z) (.str "0") a=_
    rw[gJ]
    by_cases b:z="0"<;>simp[d,b]
   .rw[decide_eq_false d,df,decide_eq_false λq=>d q.1]
  rw[s,aQ,ay,aP,aJ]
  by_cases b:(fg z).cps.toList[0]?=some 48/\z≠"0"
  .rw[decide_eq_true b,if_pos (show true=true from rfl),if_pos b]
   exact⟨a,rfl,i⟩
  .obtain⟨n,j,g⟩:=wq h
   rw[decide_eq_false b,if_neg (show ¬ (false=true)by simp),if_neg b,cD,aC,ah,br,rp (z:=z) rfl j g,j]
   exact⟨a,rfl,i⟩
theorem tE(hz:z.length<=4000):∃az,EW [.str z] Ω=.ok (cL (ow z)) az/\av [] Ω az:=by
 have u:ba 2 [D.str z]=[oS z,none]:=rfl
 show ∃az,cQ 2 1 Hb [.str z] Ω=_/\_
 rw[bH (by rfl),u]
 have C:=pS z
 have w:(bL (ab 0) false (mN (aH .int) (aa (m2 (aw .Eq) (bL (ab 0) true (ae .non) false (ae (.int 1))) (ae (.str "-"))) ag)) true (ae .non)) [oS z,none] Ω=.ok (.str (fg z)) Ω:=by
  have k:(mN (aH .int) (aa (m2 (aw .Eq) (bL (ab 0) true (ae .non) false (ae (.int 1))) (ae (.str "-"))) ag)) [oS z,none] Ω=.ok (.int (if zx z then 1 else 0)) Ω:=by
   rw[bt,ai,aX,og (z:=z) rfl hz rfl,af,aO,af,dU,af,bj,af,af]
   have:decide ((⟨(bZ z.cps.toList none (some 1)).toArray⟩:Str)="-")=zx z:=by
    rw[Fx];unfold zx
    congr 1
    apply propext
    show cT (z.cps.toList.take 1)=cT [45]↔_
    cases z.cps.toList with
    |nil=>simp[cT]
    |cons a r=>simp[cT]
   rw[this];rfl
  cases h:zx z with
  |true=>
   rw[h]at k;rw[fI rfl hz k,show(if true=true then (1:Int)else 0)=1 from rfl,vW]
   unfold fg;rw[h];rfl
  |false=>
   rw[h]at k;rw[fI rfl hz k,show(if false=true then (1:Int)else 0)=0 from rfl,Fw]
   unfold fg;rw[h]
   show aq.ok (D.str (cT z.cps.toList)) Ω=_
   rw[ff];rfl
 have m:∀Ω,(mN (aH .len) (aa (ab 1) ag)) [oS z,oS (fg z)] Ω=.ok (.int (fg z).length) Ω:=λΩ=>eS (by omega)
 have o:∃b,(fY (m2 (aw .Eq) (mN (aH .len) (aa (ab 1) ag)) (ae (.int 0))) (fY (m2 (aw .Gt) (mN (aH .len) (aa (ab 1) ag)) (ae (.int 60))) (m2 (aw .In) (ae (.bl false)) (cg (m2 (aw .In) (ab 0) (ae (.str "0123456789"))) true (ae .non) (cJ (ab 1)) 0 [])))) [oS z,oS (fg z)] Ω=.ok (.bl (!tD (fg z))) b/\av [] Ω b:=by
  have x:(m2 (aw .Eq) (mN (aH .len) (aa (ab 1) ag)) (ae (.int 0))) [oS z,oS (fg z)] Ω=.ok (.bl (decide ((fg z).length=0))) Ω:=by
   rw[aX,m,af,aO,af]
   by_cases h:(fg z).length=0<;>simp[bY,aK,dn,h]
  have y:(m2 (aw .Gt) (mN (aH .len) (aa (ab 1) ag)) (ae (.int 60))) [oS z,oS (fg z)] Ω=.ok (.bl (decide (60<(fg z).length))) Ω:=by
   rw[aX,m,af,aO,af];simp[bY];omega
  rw[dk,x,af,ay]
  by_cases g:(fg z).length=0
  .rw[decide_eq_true g,cj]
   refine⟨Ω,?_,av.refl⟩;unfold tD;rw[decide_eq_false (show ¬ 1<=(fg z).length by omega)];rfl
  .rw[decide_eq_false g,df,dk,y,af,ay]
   by_cases d:60<(fg z).length
   .rw[decide_eq_true d,cj]
    refine⟨Ω,?_,av.refl⟩;unfold tD;rw[decide_eq_false (show ¬ (fg z).length<=60 by omega),Bool.and_false];rfl
   .rw[decide_eq_false d,df,wu (f:=fg z) rfl (by omega)]
    refine⟨_,?_,av.app (l:=[.lst (((fg z).cps.toList.map λc=>c_ (aD c) "0123456789").map .bl)])⟩
    unfold tD;rw[decide_eq_true (show 1<=(fg z).length by omega),decide_eq_true (show(fg z).length<=60 by omega)];rfl
 obtain⟨b,o,p⟩:=o;unfold Hb;rw[ah,aN,w,aJ,aC]
 show ∃az,bW ((aj _ _) [oS z,oS (fg z)] Ω)=_/\_
 rw[ah,bp,o,aQ,ay,aP,aJ];unfold ow;cases h:tD (fg z)with
 |false=>
  rw[show(!false)=true from rfl,if_pos (show true=true from rfl),if_neg (show ¬ (false=true)by simp)]
  exact⟨b,rfl,p⟩
 |true=>
  rw[show(!true)=false from rfl,if_neg (show ¬ (false=true)by simp),if_pos (show true=true from rfl),cD,aC,ah,bp]
  have g:1<=(fg z).length:=by unfold tD at h;simp only[Bool.and_eq_true,decide_eq_true_eq]at h;exact h.1.1
  obtain⟨c,s⟩:∃c,(fg z).cps.toList[0]?=some c:=by
   have:0<(fg z).cps.toList.length:=by rw[bX];omega
   exact⟨_,List.getElem?_eq_getElem this⟩
  have A:aA (.str (fg z)) (.int 0) b=.ok (.str (aD c)) b:=by
   have:=rh (z:=fg z) (i:=0) (bz (by omega)) (L2.gi (j:=0) s)
   rw[wc,zc,iK,this];rfl
  have B:(bV (m2 (aw .Eq) (m2 aA (ab 1) (ae (.int 0))) (ae (.str "0"))) (m2 (aw .NotEq) (ab 0) (ae (.str "0")))) [oS z,oS (fg z)] b=.ok (.bl (decide ((fg z).cps.toList[0]?=some 48/\z≠"0"))) b:=by
   have k:(m2 (aw .Eq) (m2 aA (ab 1) (ae (.int 0))) (ae (.str "0"))) [oS z,oS (fg z)] b=.ok (.bl (decide ((fg z).cps.toList[0]?=some 48))) b:=by
    rw[aX]
    show((aA (.str (fg z)) (.int 0) b).bind _)=_
    rw[A,af,aO,af,dU]
    congr 2
    rw[s]
    congr 1
    apply propext;constructor
    .intro e
     have:=congrArg (λq:Str=>q.cps.toList) e
     have:[c]=[48]:=this;rw[List.cons.inj this |>.1]
    .intro e
     cases e;rfl
   rw[bE,k,af,ay]
   by_cases g:(fg z).cps.toList[0]?=some 48
   .rw[decide_eq_true g,cj]
    show aw .NotEq (.str z) (.str "0") b=_
    rw[gJ]
    by_cases d:z="0"<;>simp[g,d]
   .rw[decide_eq_false g,df,decide_eq_false λq=>g q.1]
  rw[B,aQ,ay,aP,aJ]
  by_cases d:(fg z).cps.toList[0]?=some 48/\z≠"0"
  .rw[decide_eq_true d,if_pos (show true=true from rfl),if_pos d]
   exact⟨b,rfl,p⟩
  .obtain⟨n,t,m⟩:=wq h
   rw[decide_eq_false d,if_neg (show ¬ (false=true)by simp),if_neg d,cD,aC,ah,br,rp (z:=z) rfl t m,t]
   exact⟨b,rfl,p⟩
end
noncomputable def dq:Option Str->D
 |some x=>.str x
 |none=>.non
def hR(Ω:aE)(d:D):Option (Str×List Str)->Prop
 |none=>d=.non
 |some (a,ys)=>∃k,d=.tup [.str a,.ref k]/\Ω[k]?=some (.lst (ys.map .str))
def tH:Option (Str×Str×Option Int)->D
 |none=>.non
 |some (x,y,o)=>.tup [.str x,.str y,cL o]
def mn:Option (List Str×Option Str×Int)->D
 |none=>.non
 |some (ys,o,i)=>.tup [.tup (ys.map .str),dq o,.int i]
section
variable{Ω az aM:aE}{z x:Str}{ρ:aR}{i k:Nat}{xs:List Str}
theorem mq(a:ρ[i]?=some (oR k))(b:Ω[k]?=some (.lst (xs.map .str))):(mN (aH .len) (aa (ab i) ag)) ρ Ω=.ok (.int xs.length) Ω:=by
 rw[bt,ai,bN,a,cz,af,bj,af,af,l9 b,List.length_map]
theorem Cd(n:Nat)(a:ρ[i]?=some (oR k))(b:Ω[k]?=some (.lst (xs.map .str))):(m2 (aw .NotEq) (mN (aH .len) (aa (ab i) ag)) (ae (.int n))) ρ Ω=.ok (.bl (!decide (xs.length=n))) Ω:=by
 rw[aX,mq a b,af,aO,af]
 by_cases h:xs.length=n
 .simp[bY,aK,dn,h]
 .have:¬ (xs.length:Int)=n:=by omega
  simp[bY,aK,dn,h,this]
theorem len_eq(n:Nat)(a:ρ[i]?=some (oR k))(b:Ω[k]?=some (.lst (xs.map .str))):(m2 (aw .Eq) (mN (aH .len) (aa (ab i) ag)) (ae (.int n))) ρ Ω=.ok (.bl (decide (xs.length=n))) Ω:=by
 rw[aX,mq a b,af,aO,af]
 by_cases h:xs.length=n
 .simp[bY,aK,dn,h]
 .have:¬ (xs.length:Int)=n:=by omega
  simp[bY,aK,dn,h,this]
theorem pT{j:Nat}(a:ρ[i]?=some (oR k))(b:Ω[k]?=some (.lst (xs.map .str)))(c:xs[j]?=some x):(m2 aA (ab i) (ae (.int j))) ρ Ω=.ok (.str x) Ω:=by
 rw[aX,bN,a,cz,af,aO,af];exact cC b (L2.gi (by simp[c]))
theorem tw(a:ρ[i]?=some (oR k))(b:Ω[k]?=some (.lst (xs.map .str)))(c:xs[0]?=some x):(m2 aA (ab i) (ae (.int 0))) ρ Ω=.ok (.str x) Ω:=pT (j:=0) a b c
theorem tB(a:ρ[i]?=some (oR k))(b:Ω[k]?=some (.lst (xs.map .str)))(c:xs[1]?=some x):(m2 aA (ab i) (ae (.int 1))) ρ Ω=.ok (.str x) Ω:=pT (j:=1) a b c
theorem EI(a:ρ[i]?=some (oR k))(b:Ω[k]?=some (.lst (xs.map .str)))(c:xs[2]?=some x):(m2 aA (ab i) (ae (.int 2))) ρ Ω=.ok (.str x) Ω:=pT (j:=2) a b c
theorem gK(a:ρ[i]?=some (oR k))(b:Ω[k]?=some (.lst (xs.map .str))):(m2 (aw .NotEq) (mN (aH .len) (aa (ab i) ag)) (ae (.int 2))) ρ Ω=.ok (.bl (!decide (xs.length=2))) Ω:=Cd 2 a b
theorem zy(a:ρ[i]?=some (oR k))(b:Ω[k]?=some (.lst (xs.map .str))):(m2 (aw .Eq) (mN (aH .len) (aa (ab i) ag)) (ae (.int 2))) ρ Ω=.ok (.bl (decide (xs.length=2))) Ω:=len_eq 2 a b
theorem zz(a:ρ[i]?=some (oR k))(b:Ω[k]?=some (.lst (xs.map .str))):(m2 (aw .Eq) (mN (aH .len) (aa (ab i) ag)) (ae (.int 3))) ρ Ω=.ok (.bl (decide (xs.length=3))) Ω:=len_eq 3 a b
theorem bR{G:c9}{e:EM}{d d':D}(a:e ρ Ω=.ok d Ω)(b:G [d] Ω=.ok d' az):(mN (aB G) (aa e ag)) ρ Ω=.ok d' az:=by
 rw[bt,ai,a,af,bj,af,af,jL,b];rfl
theorem wy(x:Str):O4 [.str x] Ω=.ok (cL (s3 x)) Ω:=by
 show cQ 1 1 d4 [.str x] Ω=_
 rw[bH (by rfl)]
 have b:ba 1 [D.str x]=[oS x]:=rfl;unfold d4;rw[b,ah,br,Af]
 show bW (sq (aq.ok (match [(("0":Str),(0:Int)),("1",1),("2",2)].lookup x with|some i=>D.int i|none=>.non) Ω |> λr=>cm r λd a=>.rt d a) ak)=_
 unfold s3 cL;cases [(("0":Str),(0:Int)),("1",1),("2",2)].lookup x<;>rfl
theorem cN{p:Str}{y:Str}(hz:z.length<=4000)(h:p∈Txt.split z y):p.length<=4000:=Nat.le_trans (n_ h) hz
theorem hR.keep{d:D}{o:Option (Str×List Str)}(h:hR Ω d o)(K:av [] Ω az):hR az d o:=by
 cases o with
 |none=>exact h
 |some q=>obtain⟨a,e⟩:=q;obtain⟨k,b,c⟩:=h;exact⟨k,b,K.get k _ c (by simp)⟩
theorem hJ{d:D}{o:Option (List Str)}(h:iu Ω d o):aw .Is d .non Ω=.ok (.bl o.isNone) Ω/\aw .IsNot d .non Ω=.ok (.bl o.isSome) Ω:=by
 cases o with
 |none=>cases h;exact⟨rfl,rfl⟩
 |some a=>obtain⟨k,rfl,_⟩:=h;exact⟨rfl,rfl⟩
theorem zA(hz:z.length<=4000):∃d az,O5 [.str z] Ω=.ok d az/\av [] Ω az/\hR az d (BQ z):=by
 have w:ba 3 [D.str z]=[oS z,none,none]:=rfl
 show ∃d az,cQ 3 1 d5 [.str z] Ω=.ok d az/\_
 rw[bH (by rfl),w]
 have t:=eT (Ω:=Ω) (ρ:=[oS z,none,none]) (i:=0) (y:=":") rfl hz rfl;have j:(Ω++[Cell.lst ((Txt.split z ":").map .str)])[Ω.length]?=some (.lst ((Txt.split z ":").map .str)):=aF;have h:av [] Ω (Ω++[Cell.lst ((Txt.split z ":").map .str)]):=av.app;generalize Ω++[Cell.lst ((Txt.split z ":").map .str)]=f at t j h;unfold d5;rw[ah,aN,t,aJ,aC]
 show ∃d az,bW ((aj _ _) [oS z,oR Ω.length,none] f)=.ok d az/\_
 have A:=gK (ρ:=[oS z,oR Ω.length,none]) (i:=1) rfl j;rw[ah,bp,dk];rw[A,af,ay];have l:=λp l=>cN (p:=p) (y:=":") hz l
 unfold BQ
 match hq:Txt.split z ":" with
 |[a,b]=>
  rw[hq]at j l;obtain⟨g,B,m⟩:=jf (Ω:=f) (z:=a) (l a (by simp))
  have C:=tw (ρ:=[oS z,oR Ω.length,none]) (i:=1) (x:=a) rfl j rfl;rw[show(!decide ([a,b].length=2))=false from rfl,df,dS,bR C B,aQ,ay,aP,af,aQ,ay,aP,aJ]
  show ∃d az,_/\_/\hR az d (if dm a=true then (ey b).map λn=>(a,n)else none)
  cases L:dm a with
  |false=>
   rw[show(!false)=true from rfl,if_pos (show true=true from rfl),if_neg (show ¬ (false=true)by simp)]
   exact⟨.non,g,rfl,h.trans m,rfl⟩
  |true=>
   rw[show(!true)=false from rfl,if_neg (show ¬ (false=true)by simp),if_pos (show true=true from rfl),cD,aC,ah,aN]
   have u:=m.get _ _ j (by simp)
   have E:=tB (Ω:=g) (ρ:=[oS z,oR Ω.length,none]) (i:=1) (x:=b) rfl u rfl;obtain⟨d,e,F,o,q,_⟩:=jR (Ω:=g) (z:=b) (l b (by simp))
   have G:=o.get _ _ u (by simp)
   rw[bR E F,aJ,aC]
   show ∃H az,bW ((aj _ _) [oS z,oR Ω.length,some d] e)=.ok H az/\_
   have s:=tw (Ω:=e) (ρ:=[oS z,oR Ω.length,some d]) (i:=1) (x:=a) rfl G rfl;have I:(m2 (aw .Is) (ab 2) (ae .non)) [oS z,oR Ω.length,some d] e=.ok (.bl (ey b).isNone) e:=(hJ q).1;rw[ah,br,gc,I,aQ,ay,aP,af];cases J:ey b with
   |none=>
    rw[show(none:Option (List Str)).isNone=true from rfl,if_pos (show true=true from rfl)]
    exact⟨.non,e,rfl,(h.trans m).trans o,rfl⟩
   |some n=>
    rw[J]at q;obtain⟨k,rfl,K⟩:=q;rw[show(some n).isNone=false from rfl,if_neg (show ¬ (false=true)by simp)]
    refine⟨.tup [.str a,.ref k],e,?_,(h.trans m).trans o,⟨k,rfl,K⟩⟩;rw[bt,ai];have s:(m2 aA (ab 1) (ae (.int 0))) [oS z,oR Ω.length,oR k] e=_:=s;rw[s];rfl
 |[]=>exact absurd hq (eO _ _)
 |[a]=>
  rw[show(!decide ([a].length=2))=true from rfl,cj]
  exact⟨.non,f,rfl,h,rfl⟩
 |a::b::c::r=>
  have:(!decide ((a::b::c::r).length=2))=true:=by simp
  rw[this,cj];exact⟨.non,f,rfl,h,rfl⟩
end
section
variable{Ω az aM:aE}{z x:Str}{ρ:aR}{i k:Nat}{xs:List Str}
theorem fJ{e:EM}{y:Str}(b:e ρ Ω=.ok (.str x) Ω)(c:x.length<=4000)(d:(y.length==0)=false):bx cp bM e (aa (ae (.str y)) ag) ρ Ω=.ok (.ref Ω.length) (Ω++[.lst ((Txt.split x y).map .str)]):=by
 unfold bx;rw[b,af]
 show((aa (ae (.str y)) ag) ρ Ω).bind (λf a=>bM (.str x) f a)=_
 rw[ai,aO,af,bj,af,af,kL c d]
theorem Ce(b:ρ[i]?=some (oR k))(c:Ω[k]?=some (.lst (xs.map .str)))(d:∀x∈xs,x.length<=4000)(e:xs.length<=80000) :
  ∃cR,(mN (aH .all) (aa (cg (mN (aB O0) (aa (ab 0) ag)) true (ae .non) (cJ (ab i)) 0 []) ag)) ρ Ω=.ok (.bl (xs.all dm)) cR/\av [] Ω cR:=by
 obtain⟨cR,f,g⟩:=pR (Ω:=Ω) (λΩ z h=>jf h) (ρ:=ρ) (i:=i) (k:=k) b c d e
 have a:=gI (Ω:=cR++[Cell.lst ((xs.map dm).map .bl)]) aF;rw[dv]at a;exact⟨_,by rw[bt,ai,f,af,bj,af,af,a],g.trans av.app⟩
theorem wz(o:Option Int):aw .Is (cL o) .non Ω=.ok (.bl o.isNone) Ω:=by cases o<;>rfl
theorem zB(hz:z.length<=4000):∃az,O6 [.str z] Ω=.ok (tH (pH z)) az/\av [] Ω az:=by
 have P:ba 4 [D.str z]=[oS z,none,none,none]:=rfl
 show ∃az,cQ 4 1 d6 [.str z] Ω=_/\_
 rw[bH (by rfl),P]
 have J:=eT (Ω:=Ω) (ρ:=[oS z,none,none,none]) (i:=0) (y:="=") rfl hz rfl;have F:(Ω++[Cell.lst ((Txt.split z "=").map .str)])[Ω.length]?=some (.lst ((Txt.split z "=").map .str)):=aF;have L:av [] Ω (Ω++[Cell.lst ((Txt.split z "=").map .str)]):=av.app;generalize Ω++[Cell.lst ((Txt.split z "=").map .str)]=c at J F L;have k:=λp k=>cN (p:=p) (y:="=") hz k
 obtain⟨a,C⟩:∃a,(Txt.split z "=")[0]?=some a:=by
  cases h:Txt.split z "=" with
  |nil=>exact absurd h (eO _ _)
  |cons a r=>exact⟨a,rfl⟩
 have l:=k a (List.mem_of_getElem? C);have M:=fJ (Ω:=c) (ρ:=[oS z,oR Ω.length,none,none]) (y:=".") (tw (i:=1) rfl F C) l rfl;have E:(c++[Cell.lst ((Txt.split a ".").map .str)])[c.length]?=some (.lst ((Txt.split a ".").map .str)):=aF;have G:av [] c (c++[Cell.lst ((Txt.split a ".").map .str)]):=av.app;generalize c++[Cell.lst ((Txt.split a ".").map .str)]=m at M E G;have o:=G.get _ _ F (by simp)
 have H:=λp k=>cN (p:=p) (y:=".") l k
 unfold d6;rw[ah,aN,J,aJ,aC]
 show ∃az,bW ((aj _ _) [oS z,oR Ω.length,none,none] c)=_/\_
 rw[ah,aN,M,aJ,aC]
 show ∃az,bW ((aj _ _) [oS z,oR Ω.length,oR c.length,none] m)=_/\_
 have Q:=gK (ρ:=[oS z,oR Ω.length,oR c.length,none]) (i:=1) rfl o;have R:=gK (ρ:=[oS z,oR Ω.length,oR c.length,none]) (i:=2) rfl E;rw[ah,bp,dk,Q,af,ay];have q:=L.trans G;have N:∀{az},av [] Ω az->pH z=none->∃e,bW (sq (.rt D.non az) ak)=.ok (tH (pH z)) e/\av [] Ω e:=λ{az} K h=>⟨az,by rw[h];rfl,K⟩
 by_cases s:(Txt.split z "=").length=2
 .rw[decide_eq_true s,show(!true)=false from rfl,df,dk,R,af,ay]
  obtain⟨b,I⟩:∃b,Txt.split z "="=[a,b]:=by
   match j:Txt.split z "=",s with
   |[u,v],_=>rw[j]at C;cases C;exact⟨v,rfl⟩
  by_cases t:(Txt.split a ".").length=2
  .rw[decide_eq_true t,show(!true)=false from rfl,df]
   obtain⟨x,y,f⟩:∃x y,Txt.split a "."=[x,y]:=by
    match j:Txt.split a ".",t with
    |[u,v],_=>exact⟨u,v,rfl⟩
   obtain⟨d,S,w⟩:=Ce (Ω:=m) (ρ:=[oS z,oR Ω.length,oR c.length,none]) (i:=2) rfl E H (by omega)
   have T:pH z=if dm x&&dm y&&s4 b then some (x,y,s3 b)else none:=by
    unfold pH;rw[I]
    show(match Txt.split a "." with|[x,y]=>if dm x&&dm y&&s4 b then some (x,y,s3 b)else none|_=>none)=_
    rw[f]
   rw[dS,S,aQ,ay,aP,af,aQ,ay,aP,aJ];have A:(Txt.split a ".").all dm=(dm x&&dm y):=by rw[f];simp
   rw[A,T];cases V:(dm x&&dm y)with
   |false=>
    rw[show(!false)=true from rfl,if_pos (show true=true from rfl),Bool.false_and,if_neg (show ¬ (false=true)by simp)]
    exact⟨d,rfl,q.trans w⟩
   |true=>
    have B:=w.get _ _ o (by simp)
    have g:=w.get _ _ E (by simp)
    rw[I]at B;rw[f]at g;have O:∀ρ:aR,ρ[1]?=some (oR Ω.length)->(m2 aA (ab 1) (ae (.int 1))) ρ d=.ok (.str b) d:=λρ h=>tB (i:=1) h B rfl
    rw[show(!true)=false from rfl,if_neg (show ¬ (false=true)by simp),Bool.true_and,cD,aC,ah,aN,bR (O _ rfl) (wy b),aJ,aC]
    show ∃az,bW ((aj _ _) [oS z,oR Ω.length,oR c.length,some (cL (s3 b))] d)=_/\_
    have U:(bV (m2 (aw .Is) (ab 3) (ae .non)) (m2 (aw .NotEq) (m2 aA (ab 1) (ae (.int 1))) (ae (.str "?")))) [oS z,oR Ω.length,oR c.length,some (cL (s3 b))] d=.ok (.bl (!s4 b)) d:=by
     have d1:(m2 (aw .Is) (ab 3) (ae .non)) [oS z,oR Ω.length,oR c.length,some (cL (s3 b))] d=.ok (.bl (s3 b).isNone) d:=wz _;rw[bE,d1,af,ay];unfold s4;cases h:s3 b with
     |some n=>rfl
     |none=>
      rw[show(none:Option Int).isNone=true from rfl,cj,aX,O _ rfl,af,aO,af,gJ]
      have:(b==("?":Str))=decide (b="?"):=by by_cases h:b="?"<;>simp[h]
      rw[this];rfl
    rw[ah,br,gc,U,aQ,ay,aP,af];cases X:s4 b with
    |false=>
     rw[show(!false)=true from rfl,if_pos (show true=true from rfl),if_neg (show ¬ (false=true)by simp)]
     exact⟨d,rfl,q.trans w⟩
    |true=>
     rw[show(!true)=false from rfl,if_neg (show ¬ (false=true)by simp),if_pos (show true=true from rfl)]
     refine⟨d,?_,q.trans w⟩;rw[bt,ai,tw (i:=2) (x:=x) rfl g rfl,af,ai,tB (i:=2) (x:=y) rfl g rfl];rfl
  .rw[decide_eq_false t,show(!false)=true from rfl,cj]
   refine N q ?_;unfold pH;rw[I]
   show(match Txt.split a "." with|[x,y]=>if dm x&&dm y&&s4 b then some (x,y,s3 b)else none|_=>none)=none
   split
   .rename_i j;rw[j]at t;exact absurd rfl t
   .rfl
 .rw[decide_eq_false s,show(!false)=true from rfl,cj]
  refine N q ?_;unfold pH;split
  .rename_i j;rw[j]at s;exact absurd rfl s
  .rfl
theorem wA(hz:z.length<=4000):∃az,O7 [.str z] Ω=.ok (mn (iF z)) az/\av [] Ω az:=by
 have Y:ba 5 [D.str z]=[oS z,none,none,none,none]:=rfl
 show ∃az,cQ 5 1 d7 [.str z] Ω=_/\_
 rw[bH (by rfl),Y]
 have H:=eT (Ω:=Ω) (ρ:=[oS z,none,none,none,none]) (i:=0) (y:=">") rfl hz rfl;have L:(Ω++[Cell.lst ((Txt.split z ">").map .str)])[Ω.length]?=some (.lst ((Txt.split z ">").map .str)):=aF;have T:av [] Ω (Ω++[Cell.lst ((Txt.split z ">").map .str)]):=av.app;generalize Ω++[Cell.lst ((Txt.split z ">").map .str)]=b at H L T;have o:=λp o=>cN (p:=p) (y:=">") hz o
 obtain⟨c,r,g⟩:∃c r,Txt.split z ">"=r++[c]:=⟨_,_,(List.dropLast_concat_getLast (eO z ">")).symm⟩;have t:=o c (by rw[g];simp)
 have Z:(m2 aA (ab 1) (m1 xT (ae (.int 1)))) [oS z,oR Ω.length,none,none,none] b=.ok (.str c) b:=by
  show aA (.ref Ω.length) (.int (-1)) b=_
  refine cC L ?_;rw[g];unfold L2.fW L2.oo;have e1:(-1+((r.length:Int)+1)).toNat=r.length:=by omega
  have H:(1:Int)<=(r.length:Int)+1:=by omega
  simp[e1,H]
 have U:=fJ (Ω:=b) (ρ:=[oS z,oR Ω.length,none,none,none]) (y:="=") Z t rfl;have I:(b++[Cell.lst ((Txt.split c "=").map .str)])[b.length]?=some (.lst ((Txt.split c "=").map .str)):=aF;have M:av [] b (b++[Cell.lst ((Txt.split c "=").map .str)]):=av.app;generalize b++[Cell.lst ((Txt.split c "=").map .str)]=w at U I M;have q:=M.get _ _ L (by simp)
 have A:=λp o=>cN (p:=p) (y:="=") t o
 unfold d7;rw[ah,aN,H,aJ,aC]
 show ∃az,bW ((aj _ _) [oS z,oR Ω.length,none,none,none] b)=_/\_
 rw[ah,aN,U,aJ,aC]
 show ∃az,bW ((aj _ _) [oS z,oR Ω.length,oR b.length,none,none] w)=_/\_
 have l1:=gK (ρ:=[oS z,oR Ω.length,oR b.length,none,none]) (i:=1) rfl q;have l2:=gK (ρ:=[oS z,oR Ω.length,oR b.length,none,none]) (i:=2) rfl I;rw[ah,bp,dk,l1,af,ay];have N:=T.trans M;have V:∀{az},av [] Ω az->iF z=none->∃m,bW (sq (.rt D.non az) ak)=.ok (mn (iF z)) m/\av [] Ω m:=λ{az} K h=>⟨az,by rw[h];rfl,K⟩
 by_cases B:(Txt.split z ">").length=2
 .rw[decide_eq_true B,show(!true)=false from rfl,df,l2,aQ,ay,aP,aJ]
  obtain⟨a,O⟩:∃a,Txt.split z ">"=[a,c]:=by
   rw[g,List.length_append,List.length_singleton]at B;obtain⟨u,rfl⟩:=List.length_eq_one_iff.mp (show r.length=1 by omega)
   exact⟨u,g⟩
  by_cases C:(Txt.split c "=").length=2
  .obtain⟨x,y,E⟩:∃x y,Txt.split c "="=[x,y]:=by
    match J:Txt.split c "=",C with
    |[u,v],_=>exact⟨u,v,rfl⟩
   have hv:iF z=(match ey a,s3 y with|some j,some i=>if knd x then some (j,if x="-" then none else some x,i)else none|_,_=>none):=by
    unfold iF;rw[O]
    show(match Txt.split c "=" with|[x,y]=>(match ey a,s3 y with|some j,some i=>if knd x then some (j,if x="-" then none else some x,i)else none|_,_=>none)|_=>none)=_
    rw[E]
   rw[decide_eq_true C,show(!true)=false from rfl,if_neg (show ¬ (false=true)by simp),cD,aC,ah,aN]
   rw[O]at q o;rw[E]at I A;obtain⟨d,f,h3,X,P,_⟩:=jR (Ω:=w) (z:=a) (o a (by simp))
   rw[bR (tw (i:=1) (x:=a) rfl q rfl) h3,aJ,aC]
   show ∃az,bW ((aj _ _) [oS z,oR Ω.length,oR b.length,some d,none] f)=_/\_
   have F:=X.get _ _ I (by simp)
   rw[ah,aN,bR (tB (i:=2) (x:=y) rfl F rfl) (wy y),aJ,aC]
   show ∃az,bW ((aj _ _) [oS z,oR Ω.length,oR b.length,some d,some (cL (s3 y))] f)=_/\_
   have l:=N.trans X;have c1:(m2 (aw .Is) (ab 3) (ae .non)) [oS z,oR Ω.length,oR b.length,some d,some (cL (s3 y))] f=.ok (.bl (ey a).isNone) f:=(hJ P).1;have c2:(m2 (aw .Is) (ab 4) (ae .non)) [oS z,oR Ω.length,oR b.length,some d,some (cL (s3 y))] f=.ok (.bl (s3 y).isNone) f:=wz _;have G:∀e,av [] f e->(m2 aA (ab 2) (ae (.int 0))) [oS z,oR Ω.length,oR b.length,some d,some (cL (s3 y))] e=.ok (.str x) e:=λe K=>tw (i:=2) (x:=x) rfl (K.get _ _ F (by simp)) rfl
   rw[hv,ah,bp,dk,c1,af,ay];cases Q:ey a with
   |none=>
    rw[show(none:Option (List Str)).isNone=true from rfl,cj]
    exact⟨f,rfl,l⟩
   |some j=>
    rw[Q]at P;obtain⟨k,rfl,hk⟩:=P;rw[show(some j).isNone=false from rfl,df,dk,c2,af,ay]
    cases hs:s3 y with
    |none=>
     rw[show(none:Option Int).isNone=true from rfl,cj]
     exact⟨f,rfl,l⟩
    |some n=>
     rw[hs]at G;rw[show(some n).isNone=false from rfl,df]
     have R:∃e,(fY (m2 (aw .Eq) (m2 aA (ab 2) (ae (.int 0))) (ae (.str "-"))) (mN (aB O0) (aa (m2 aA (ab 2) (ae (.int 0))) ag))) [oS z,oR Ω.length,oR b.length,oR k,some (cL (some n))] f=.ok (.bl (knd x)) e/\av [] f e:=by
      rw[dk,aX,G _ av.refl,af,aO,af,dU,af,ay];have S:(x==("-":Str))=decide (x="-"):=by by_cases h:x="-"<;>simp[h]
      unfold knd;rw[S];cases decide (x="-")with
      |true=>exact⟨f,rfl,av.refl⟩
      |false=>
       obtain⟨e,h4,s⟩:=jf (Ω:=f) (z:=x) (A x (by simp))
       exact⟨e,by rw[df,bR (G _ av.refl) h4];rfl,s⟩
     obtain⟨e,R,s⟩:=R;rw[dS,R,aQ,ay,aP,af,aQ,ay,aP,aJ]
     show ∃az,_=aq.ok (mn (if knd x=true then some (j,if x="-" then none else some x,n)else none)) az/\_
     cases a0:knd x with
     |false=>
      rw[show(!false)=true from rfl,if_pos (show true=true from rfl),if_neg (show ¬ (false=true)by simp)]
      exact⟨e,rfl,l.trans s⟩
     |true=>
      rw[show(!true)=false from rfl,if_neg (show ¬ (false=true)by simp),if_pos (show true=true from rfl),cD,aC,ah,br]
      refine⟨e,?_,l.trans s⟩;have t1:(mN (aH .tuple) (aa (ab 3) ag)) [oS z,oR Ω.length,oR b.length,oR k,some (cL (some n))] e=.ok (.tup (j.map .str)) e:=fQ (s.get _ _ hk (by simp))
      have t2:(ou (m2 (aw .Eq) (m2 aA (ab 2) (ae (.int 0))) (ae (.str "-"))) (ae .non) (m2 aA (ab 2) (ae (.int 0)))) [oS z,oR Ω.length,oR b.length,oR k,some (cL (some n))] e=.ok (dq (if x="-" then none else some x)) e:=by
       rw[gc,aX,G _ s,af,aO,af,dU,aQ,ay,aP,af]
       by_cases h:x="-"
       .rw[decide_eq_true h,if_pos (show true=true from rfl),if_pos h];rfl
       .rw[decide_eq_false h,if_neg (show ¬ (false=true)by simp),if_neg h,G _ s];rfl
      rw[bt,ai,t1,af,ai,t2];rfl
  .rw[decide_eq_false C,show(!false)=true from rfl,if_pos (show true=true from rfl)]
   refine V N ?_;unfold iF;rw[O]
   show(match Txt.split c "=" with|[x,y]=>(match ey a,s3 y with|some j,some i=>if knd x then some (j,if x="-" then none else some x,i)else none|_,_=>none)|_=>none)=_
   split
   .rename_i J;rw[J]at C;exact absurd rfl C
   .rfl
 .rw[decide_eq_false B,show(!false)=true from rfl,cj]
  refine V N ?_;unfold iF;split
  .rename_i J;rw[J]at B;exact absurd rfl B
  .rfl
end
section
variable{Ω az aM:aE}{z x:Str}{ρ:aR}{i k j:Nat}{xs:List Str}{ds:List D}{d0 d1 d2 d3 d4:D}
theorem pU{n:Nat}{v:D}(a:Ω[k]?=some (.lst ds))(b:n<ds.length):hY (.ref k) (.int (n:Nat)) v Ω=some (Ω.set k (.lst (ds.set n v))):=by
 have:L2.oo ds.length ((n:Nat):Int)=some n:=by
  unfold L2.oo;rw[if_pos (by omega),if_pos (by omega)];simp
 simp only[hY,a,this]
theorem cO{c:Cell}(h:Ω[k]?=some c):k<Ω.length:=(List.getElem?_eq_some_iff.mp h).1
theorem J9(hz:z.length<=4000){x3:Option D}(K:Ω[k]?=some (.lst [d0,d1,.non,d3,d4]))(C:Ω[j]?=some (.lst ((Txt.split z ":").map .str))) :
  ∃d2 az,rT [oS z,oR k,oR j,x3] Ω=.nx [oS z,oR k,oR j,x3] az/\av [k] Ω az/\az[k]?=some (.lst [d0,d1,d2,d3,d4])/\hR az d2 (BQ z):=by
 have O:=zy (ρ:=[oS z,oR k,oR j,x3]) (i:=2) rfl C;have m:=λp m=>cN (p:=p) (y:=":") hz m
 unfold rT;rw[bp,bE,O,af,ay];unfold BQ
 have E:(Txt.split z ":").length≠2->∃d2 az,cm (dO (Mir.AB (some (decide ((Txt.split z ":").length=2))) ((bV (mN (aB wk) (aa (m2 aA (ab 2) (ae (.int 0))) ag)) (m2 (aw .IsNot) (mN (aB pP) (aa (m2 aA (ab 2) (ae (.int 1))) ag)) (ae .non))) [oS z,oR k,oR j,x3] Ω) (.ok (.bl (decide ((Txt.split z ":").length=2))) Ω))) (λt n=>if t=true then (aj (hZ (ab 1) (ae (.int 2)) (mN eJ (aa (m2 aA (ab 2) (ae (.int 0))) (aa (mN (aB pP) (aa (m2 aA (ab 2) (ae (.int 1))) ag)) ag)))) ak) [oS z,oR k,oR j,x3] n else ak [oS z,oR k,oR j,x3] n)=.nx [oS z,oR k,oR j,x3] az/\av [k] Ω az/\az[k]?=some (.lst [d0,d1,d2,d3,d4])/\hR az d2 none:=λh=>by
  rw[decide_eq_false h,df];exact⟨.non,Ω,rfl,av.refl,K,rfl⟩
 match hq:Txt.split z ":" with
 |[a,b]=>
  rw[hq]at C m;rw[show(decide ([a,b].length=2))=true from rfl,cj]
  obtain⟨o,L,F⟩:=jQ (Ω:=Ω) (z:=a) (m a (by simp))
  rw[bE,bR (tw (i:=2) (x:=a) rfl C rfl) L,af,ay]
  show ∃d2 az,_/\_/\_/\hR az d2 (if dm a=true then (ey b).map λG=>(a,G)else none)
  have s:=F.get _ _ K (by simp)
  have u:=F.get _ _ C (by simp)
  cases V:dm a with
  |false=>
   rw[df,if_neg (show ¬ (false=true)by simp)]
   exact⟨.non,o,rfl,F.sub (by simp),s,rfl⟩
  |true=>
   obtain⟨d,g,P,H,Q,_⟩:=eU (Ω:=o) (z:=b) (m b (by simp))
   rw[cj,if_pos (show true=true from rfl),aX,bR (tB (i:=2) (x:=b) rfl u rfl) P,af,aO,af,(hJ Q).2,aQ,ay,aP,aJ]
   have l:=H.get _ _ s (by simp)
   have w:=H.get _ _ u (by simp)
   have A:=F.trans H;cases R:ey b with
   |none=>
    rw[show(none:Option (List Str)).isSome=false from rfl,if_neg (show ¬ (false=true)by simp)]
    exact⟨.non,g,rfl,A.sub (by simp),l,rfl⟩
   |some G=>
    rw[show(some G).isSome=true from rfl,if_pos (show true=true from rfl)]
    obtain⟨X,f,S,M,N,T⟩:=eU (Ω:=g) (z:=b) (m b (by simp))
    rw[R]at N;obtain⟨q,rfl,I⟩:=N;have B:=M.get _ _ l (by simp)
    have J:k≠q:=λe=>by
     have L:=cO l;have Y:=T q rfl;omega
    have U:(mN eJ (aa (m2 aA (ab 2) (ae (.int 0))) (aa (mN (aB pP) (aa (m2 aA (ab 2) (ae (.int 1))) ag)) ag))) [oS z,oR k,oR j,x3] g=.ok (.tup [.str a,.ref q]) f:=by
     rw[bt,ai,tw (i:=2) (x:=a) rfl w rfl,af,ai,bR (tB (i:=2) (x:=b) rfl w rfl) S];rfl
    refine⟨.tup [.str a,.ref q],f.set k (.lst [d0,d1,.tup [.str a,.ref q],d3,d4]),?_,(A.sub (by simp)).trans ((M.sub (by simp)).trans (av.set (by simp))),?_,⟨q,rfl,?_⟩⟩
    .rw[ah]
     show sq (cm _ _) _=_
     rw[U,aJ]
     show sq (cm (aq.ok (D.ref k) f) _) _=_
     rw[aJ]
     show sq (match hY (.ref k) (.int ((2:Nat):Int)) (.tup [.str a,.ref q]) f with|some f=>_|none=>_) _=_
     rw[pU B (by simp)]
     rfl
    .rw[List.getElem?_set_self (cO B)]
    .rw[List.getElem?_set_ne J];exact I
 |[]=>exact absurd hq (eO _ _)
 |[a]=>rw[hq]at E;exact E (by simp)
 |a::b::c::r=>rw[hq]at E;exact E (by simp)
end
section
variable{Ω az aM:aE}{z x:Str}{ρ:aR}{i k j:Nat}{xs:List Str}{ds:List D}{d0 d1 d2 d3 d4:D}
def cB(y z:Str)(ps:List Str):Bool:=decide (ps.length=3)&&(decide (dQ z y=1)&&decide (cZ z y<cZ z "="))
theorem Aj{y:Str}{ρ:aR}(a:ρ[0]?=some (oS z))(b:ρ[2]?=some (oR j))(c:Ω[j]?=some (.lst (xs.map .str))):rC y ρ Ω=.ok (.bl (cB y z xs)) Ω:=by
 unfold rC cB;rw[bE,zz b c,af,ay];cases decide (xs.length=3)with
 |false=>rfl
 |true=>
  rw[cj,bE,aX,oe a,af,aO,af]
  have d:aw .Eq (.int (dQ z y)) (.int 1) Ω=.ok (.bl (decide (dQ z y=1))) Ω:=by
   by_cases h:dQ z y=1<;>simp[bY,aK,dn,h]
  rw[d,af,ay];cases decide (dQ z y=1)with
  |false=>rfl
  |true=>
   rw[cj,aX,oe a,af,oe a,af];simp[bY]
theorem in4(b:Str):aw .In (.str b) (.tup [.str "0",.str "1",.str "2",.str "?"]) Ω=.ok (.bl (s4 b)) Ω:=by
 have e:(("0":Str)==b||(("1":Str)==b||(("2":Str)==b||(("?":Str)==b))))=s4 b:=by
  unfold s4;rcases eP b with ⟨rfl,h⟩|⟨rfl,h⟩|⟨rfl,h⟩|⟨c,d,f,h⟩
  .rw[h];rfl
  .rw[h];decide
  .rw[h];decide
  .rw[h]
   have g:(("0":Str)==b)=false:=by simpa using Ne.symm c
   have i:(("1":Str)==b)=false:=by simpa using Ne.symm d
   have j:(("2":Str)==b)=false:=by simpa using Ne.symm f
   rw[g,i,j]
   by_cases a:b="?"
   .subst a;decide
   .have k:(("?":Str)==b)=false:=by simpa using Ne.symm a
    have l:(b==("?":Str))=false:=by simpa using a
    rw[k,l];rfl
 rw[←e];simp[bY,inD,aK,dn,fh (n:=7) (ds:=[D.str "0",.str "1",.str "2",.str "?"]) (es:=[D.str "0",.str "1",.str "2",.str "?"]) rfl]
theorem MT(b:Str):aw .In (.str b) (.tup [.str "0",.str "1",.str "2"]) Ω=.ok (.bl (s3 b).isSome) Ω:=by
 have e:(("0":Str)==b||(("1":Str)==b||(("2":Str)==b)))=(s3 b).isSome:=by
  rcases eP b with ⟨rfl,h⟩|⟨rfl,h⟩|⟨rfl,h⟩|⟨a,c,d,h⟩
  .rw[h];rfl
  .rw[h];decide
  .rw[h];decide
  .rw[h]
   have f:(("0":Str)==b)=false:=by simpa using Ne.symm a
   have g:(("1":Str)==b)=false:=by simpa using Ne.symm c
   have i:(("2":Str)==b)=false:=by simpa using Ne.symm d
   rw[f,g,i];rfl
 rw[←e];simp[bY,inD,aK,dn,fh (n:=7) (ds:=[D.str "0",.str "1",.str "2"]) (es:=[D.str "0",.str "1",.str "2"]) rfl]
theorem get3{e:EM}{b:Str}(a:∀cR,av [] Ω cR->e ρ cR=.ok (.str b) cR):bx nI jA (ek "0" "1" "2" 0 1 2) (aa e ag) ρ Ω=.ok (cL (s3 b)) (Ω++[.dK (qW "0" "1" "2" 0 1 2)]):=by
 have g:(Ω++[Cell.dK (qW "0" "1" "2" 0 1 2)])[Ω.length]?=some (.dK (qW "0" "1" "2" 0 1 2)):=aF;have a:=a (Ω++[.dK (qW "0" "1" "2" 0 1 2)]) av.app;unfold bx ek;rw[iI,af];have d:nI (Ω++[Cell.dK (qW "0" "1" "2" 0 1 2)]) (.ref Ω.length)=true:=by simp only[nI,g]
 rw[if_pos d,ai,a,af,bj,af,af]
 have f:(jr (qW "0" "1" "2" 0 1 2) (.inr b)).getD .non=cL (s3 b):=by
  rcases eP b with ⟨rfl,h⟩|⟨rfl,h⟩|⟨rfl,h⟩|⟨i,j,k,h⟩
  .rw[h];rfl
  .rw[h];rfl
  .rw[h];rfl
  .rw[h]
   have l:qW "0" "1" "2" 0 1 2=[(.inr "0",.int 0),(.inr "1",.int 1),(.inr "2",.int 2)]:=rfl;rw[l];unfold jr;have m:decide ((Sum.inr ("0":Str):Key)=Sum.inr b)=false:=decide_eq_false λe=>i (Sum.inr.inj e).symm
   have n:decide ((Sum.inr ("1":Str):Key)=Sum.inr b)=false:=decide_eq_false λe=>j (Sum.inr.inj e).symm
   have o:decide ((Sum.inr ("2":Str):Key)=Sum.inr b)=false:=decide_eq_false λe=>k (Sum.inr.inj e).symm
   simp only[List.find?_cons,m,n,o,List.find?_nil];rfl
 have c:xV (.str b)=some (.inr b):=rfl;simp only[jA,g,c,f]
theorem Fy{a b c:Str}(h:Txt.split (Txt.replace z "." "=") "="=[a,b,c]):BR z=if dQ z "."=1/\cZ z "."<cZ z "=" then (if dm a&&dm b&&s4 c then some (a,b,s3 c)else none)else none:=by
 unfold BR;rw[h]
theorem Fz(h:(Txt.split (Txt.replace z "." "=") "=").length≠3):BR z=none:=by
 unfold BR;split
 .rename_i a;rw[a]at h;exact absurd rfl h
 .rfl
def Cf(a x y:Str):Option (List Str×Option Str×Int):=match ey a,s3 y with
 |some b,some i=>if knd x then some (b,if x="-" then none else some x,i)else none
 |_,_=>none
theorem FA{a x y:Str}(h:ey a=none):Cf a x y=none:=by unfold Cf;rw[h]
theorem FC{a x y:Str}(h:s3 y=none):Cf a x y=none:=by unfold Cf;rw[h];cases ey a<;>rfl
theorem FD{a x y:Str}{b:List Str}{i:Int}(h:ey a=some b)(h':s3 y=some i):Cf a x y=if knd x then some (b,if x="-" then none else some x,i)else none:=by unfold Cf;rw[h,h']
theorem FE{a b c:Str}(h:Txt.split (Txt.replace z ">" "=") "="=[a,b,c]):BS z=if dQ z ">"=1/\cZ z ">"<cZ z "=" then Cf a b c else none:=by
 unfold BS;rw[h];rfl
theorem FF(h:(Txt.split (Txt.replace z ">" "=") "=").length≠3):BS z=none:=by
 unfold BS;split
 .rename_i a;rw[a]at h;exact absurd rfl h
 .rfl
theorem three{ps:List Str}(h:ps.length=3):∃a b c,ps=[a,b,c]:=by
 match ps,h with
 |[a,b,c],_=>exact⟨a,b,c,rfl⟩
theorem J_(hz:z.length<=1900){x3:Option D}(I:Ω[k]?=some (.lst [d0,d1,d2,.non,d4]))(w:Ω[j]?=some (.lst ((Txt.split (Txt.replace z "." "=") "=").map .str))) :
  ∃az,rF [oS z,oR k,oR j,x3] Ω=.nx [oS z,oR k,oR j,x3] az/\av [k] Ω az/\az[k]?=some (.lst [d0,d1,d2,tH (BR z),d4]):=by
 have B:(Txt.replace z "." "=").length<=4000:=by
  have:=gC z 46 "=";have e:("=":Str).length=1:=rfl;rw[e]at this;have C:(Txt.replace z ⟨#[46]⟩ "=").length<=4000:=by omega
  exact C
 have n:=λp n=>cN (p:=p) (y:="=") B n
 unfold rF;rw[bp,Aj (y:=".") (z:=z) rfl rfl w,aQ,ay,aP,aJ];unfold cB
 have J:∀{t:Bool},t=false->∃az,(if t=true then (aj Jp ak) [oS z,oR k,oR j,x3] Ω else ak [oS z,oR k,oR j,x3] Ω)=.nx [oS z,oR k,oR j,x3] az/\av [k] Ω az/\az[k]?=some (.lst [d0,d1,d2,tH none,d4]):=λh=>by
  rw[h];exact⟨Ω,rfl,av.refl,I⟩
 by_cases E:(Txt.split (Txt.replace z "." "=") "=").length=3
 .obtain⟨a,b,c,F⟩:=three E
  .rw[Fy F,F]
   rw[F]at w n
   by_cases o:dQ z "."=1/\cZ z "."<cZ z "="
   .rw[if_pos o,show(decide ([a,b,c].length=3)&&(decide (dQ z "."=1)&&decide (cZ z "."<cZ z "=")))=true by simp[o.1,o.2],if_pos (show true=true from rfl),ah]
    unfold Jp;obtain⟨q,C,A⟩:=jQ (Ω:=Ω) (z:=a) (n a (by simp))
    have r:=A.get _ _ w (by simp)
    have s:=A.get _ _ I (by simp)
    rw[bp,bE,bR (tw (i:=2) (x:=a) rfl w rfl) C,af,ay];cases N:dm a with
    |false=>exact⟨q,rfl,A.sub (by simp),s⟩
    |true=>
     obtain⟨d,O,G⟩:=jQ (Ω:=q) (z:=b) (n b (by simp))
     have g:=G.get _ _ r (by simp)
     have l:=G.get _ _ s (by simp)
     have m:=A.trans G;rw[cj,bE,bR (tB (i:=2) (x:=b) rfl r rfl) O,af,ay];cases P:dm b with
     |false=>exact⟨d,rfl,m.sub (by simp),l⟩
     |true=>
      have Q:(m2 (aw .In) (m2 aA (ab 2) (ae (.int 2))) (mN eJ (aa (ae (.str "0")) (aa (ae (.str "1")) (aa (ae (.str "2")) (aa (ae (.str "?")) ag)))))) [oS z,oR k,oR j,x3] d=.ok (.bl (s4 c)) d:=by
       rw[aX,EI (i:=2) (x:=c) rfl g rfl,af];exact in4 c
      rw[cj,Q,aQ,ay,aP,aJ,Bool.true_and,Bool.true_and];cases S:s4 c with
      |false=>exact⟨d,rfl,m.sub (by simp),l⟩
      |true=>
       rw[if_pos (show true=true from rfl),if_pos (show true=true from rfl)]
       have L:=get3 (Ω:=d) (ρ:=[oS z,oR k,oR j,x3]) (e:=m2 aA (ab 2) (ae (.int 2))) (b:=c) λf K=>EI (i:=2) (x:=c) rfl (K.get _ _ g (by simp)) rfl
       have H:av [] d (d++[.dK (qW "0" "1" "2" 0 1 2)]):=av.app;generalize d++[Cell.dK (qW "0" "1" "2" 0 1 2)]=f at L H;have u:=H.get _ _ l (by simp)
       have R:(mN eJ (aa (m2 aA (ab 2) (ae (.int 0))) (aa (m2 aA (ab 2) (ae (.int 1))) (aa (bx nI jA (ek "0" "1" "2" 0 1 2) (aa (m2 aA (ab 2) (ae (.int 2))) ag)) ag)))) [oS z,oR k,oR j,x3] d=.ok (.tup [.str a,.str b,cL (s3 c)]) f:=by
        rw[bt,ai,tw (i:=2) (x:=a) rfl g rfl,af,ai,tB (i:=2) (x:=b) rfl g rfl,af,ai,L];rfl
       refine⟨f.set k (.lst [d0,d1,d2,.tup [.str a,.str b,cL (s3 c)],d4]),?_,(m.sub (by simp)).trans ((H.sub (by simp)).trans (av.set (by simp))),?_⟩
       .rw[ah]
        show sq (sq (cm _ _) _) _=_
        rw[R,aJ]
        show sq (sq (cm (aq.ok (D.ref k) f) _) _) _=_
        rw[aJ]
        show sq (sq (match hY (.ref k) (.int ((3:Nat):Int)) (.tup [.str a,.str b,cL (s3 c)]) f with|some f=>_|none=>_) _) _=_
        rw[pU u (by simp)]
        rfl
       .rw[List.getElem?_set_self (cO u)];rfl
   .rw[if_neg o]
    refine J ?_
    have:(decide (dQ z "."=1)&&decide (cZ z "."<cZ z "="))=false:=by
     rw[Bool.and_eq_false_iff]
     by_cases M:dQ z "."=1
     .exact .inr (decide_eq_false λh=>o ⟨M,h⟩)
     .exact .inl (decide_eq_false M)
    rw[this,Bool.and_false]
 .rw[Fz E]
  exact J (by rw[decide_eq_false E];rfl)
theorem Ka{y:Str}{n:Int}(h:s3 y=some n):PySem.intText? y=some n/\y.length<=640:=by
 rcases eP y with ⟨rfl,a⟩|⟨rfl,a⟩|⟨rfl,a⟩|⟨_,_,_,a⟩
 .rw[a]at h;cases h;decide +kernel
 .rw[a]at h;cases h;decide +kernel
 .rw[a]at h;cases h;decide +kernel
 .rw[a]at h;cases h
theorem Kb(hz:z.length<=1900){x3:Option D}(hk:Ω[k]?=some (.lst [d0,d1,d2,d3,.non]))(L:Ω[j]?=some (.lst ((Txt.split (Txt.replace z ">" "=") "=").map .str))) :
  ∃r az,rP [oS z,oR k,oR j,x3] Ω=.nx [oS z,oR k,oR j,r] az/\av [k] Ω az/\az[k]?=some (.lst [d0,d1,d2,d3,mn (BS z)]):=by
 have N:(Txt.replace z ">" "=").length<=4000:=by
  have:=gC z 62 "=";have e:("=":Str).length=1:=rfl;rw[e]at this;have O:(Txt.replace z ⟨#[62]⟩ "=").length<=4000:=by omega
  exact O
 have B:=λp B=>cN (p:=p) (y:="=") N B
 unfold rP;rw[bp,Aj (y:=">") (z:=z) rfl rfl L,aQ,ay,aP,aJ];unfold cB
 have no:∀{t:Bool},t=false->∃r az,(if t=true then (aj Jq ak) [oS z,oR k,oR j,x3] Ω else ak [oS z,oR k,oR j,x3] Ω)=.nx [oS z,oR k,oR j,r] az/\av [k] Ω az/\az[k]?=some (.lst [d0,d1,d2,d3,mn none]):=λh=>by
  rw[h];exact⟨x3,Ω,rfl,av.refl,hk⟩
 by_cases P:(Txt.split (Txt.replace z ">" "=") "=").length=3
 .obtain⟨a,b,c,Q⟩:=three P
  .rw[FE Q,Q]
   rw[Q]at L B
   by_cases E:dQ z ">"=1/\cZ z ">"<cZ z "="
   .rw[if_pos E,show(decide ([a,b,c].length=3)&&(decide (dQ z ">"=1)&&decide (cZ z ">"<cZ z "=")))=true by simp[E.1,E.2],if_pos (show true=true from rfl),ah]
    unfold Jq;obtain⟨d,l,O,F,R,_⟩:=eU (Ω:=Ω) (z:=a) (B a (by simp))
    have s:=F.get _ _ L (by simp)
    have u:=F.get _ _ hk (by simp)
    rw[bp,bE,aX,bR (tw (i:=2) (x:=a) rfl L rfl) O,af,aO,af,(hJ R).2,af,ay];cases w:ey a with
    |none=>rw[FA w];exact⟨x3,l,rfl,F.sub (by simp),u⟩
    |some C=>
     have i3:(m2 (aw .In) (m2 aA (ab 2) (ae (.int 2))) (mN eJ (aa (ae (.str "0")) (aa (ae (.str "1")) (aa (ae (.str "2")) ag))))) [oS z,oR k,oR j,x3] l=.ok (.bl (s3 c).isSome) l:=by
      rw[aX,EI (i:=2) (x:=c) rfl s rfl,af];exact MT c
     rw[show(some C).isSome=true from rfl,cj,i3,aQ,ay,aP,aJ]
     cases S:s3 c with
     |none=>rw[FC S];exact⟨x3,l,rfl,F.sub (by simp),u⟩
     |some n=>
      rw[show(some n).isSome=true from rfl,if_pos (show true=true from rfl),ah]
      unfold LY;have T:(b==("-":Str))=decide (b="-"):=by by_cases h:b="-"<;>simp[h]
      have U:∃f,(fY (m2 (aw .Eq) (m2 aA (ab 2) (ae (.int 1))) (ae (.str "-"))) (mN (aB wk) (aa (m2 aA (ab 2) (ae (.int 1))) ag))) [oS z,oR k,oR j,x3] l=.ok (.bl (knd b)) f/\av [] l f:=by
       rw[dk,aX,tB (i:=2) (x:=b) rfl s rfl,af,aO,af,dU,af,ay];unfold knd;rw[T];cases decide (b="-")with
       |true=>exact⟨l,rfl,av.refl⟩
       |false=>
        obtain⟨f,h4,G⟩:=jQ (Ω:=l) (z:=b) (B b (by simp))
        exact⟨f,by rw[df,bR (tB (i:=2) (x:=b) rfl s rfl) h4];rfl,G⟩
      obtain⟨f,U,G⟩:=U;have H:=G.get _ _ s (by simp)
      have I:=G.get _ _ u (by simp)
      have J:=F.trans G;rw[bp,U,aQ,ay,aP,aJ];rw[FD w S];cases e0:knd b with
      |false=>exact⟨x3,f,rfl,J.sub (by simp),I⟩
      |true=>
       rw[if_pos (show true=true from rfl),if_pos (show true=true from rfl),ah,aN]
       have ep:(mN b9 (aa (m2 aA (ab 2) (ae (.int 1))) (aa (ae .non) ag))) [oS z,oR k,oR j,x3] f=.ok (.ref f.length) (f++[.lst [.str b,.non]]):=by
        rw[bt,ai,tB (i:=2) (x:=b) rfl H rfl];rfl
       have V:(f++[Cell.lst [.str b,.non]])[f.length]?=some (.lst [.str b,.non]):=aF;have M:av [] f (f++[Cell.lst [.str b,.non]]):=av.app;generalize f++[Cell.lst [.str b,.non]]=m at ep V M;have A:=M.get _ _ H (by simp)
       have X:=M.get _ _ I (by simp)
       have e5:(m2 aA (mN b9 (aa (m2 aA (ab 2) (ae (.int 1))) (aa (ae .non) ag))) (mN (aH .int) (aa (m2 (aw .Eq) (m2 aA (ab 2) (ae (.int 1))) (ae (.str "-"))) ag))) [oS z,oR k,oR j,x3] f=.ok (dq (if b="-" then none else some b)) m:=by
        have e6:(mN (aH .int) (aa (m2 (aw .Eq) (m2 aA (ab 2) (ae (.int 1))) (ae (.str "-"))) ag)) [oS z,oR k,oR j,x3] m=.ok (.int (if decide (b="-")then 1 else 0)) m:=by
         rw[bt,ai,aX,tB (i:=2) (x:=b) rfl A rfl,af,aO,af,dU];rfl
        rw[aX,ep,af,e6,af]
        by_cases h:b="-"
        .rw[decide_eq_true h,if_pos h]
         exact cC (i:=1) V (d:=.non) rfl
        .rw[decide_eq_false h,if_neg h]
         exact cC (i:=0) V (d:=.str b) rfl
       rw[e5,aJ,aC]
       show ∃r az,sq ((aj _ _) [oS z,oR k,oR j,some (dq (if b="-" then none else some b))] m) ak=_/\_
       generalize Y:dq (if b="-" then none else some b)=o
       obtain⟨d',g,h6,Z,L6,_⟩:=eU (Ω:=m) (z:=a) (B a (by simp))
       rw[w]at L6;obtain⟨q,rfl,a0⟩:=L6;have b0:=Z.get _ _ A (by simp)
       have K:=Z.get _ _ X (by simp)
       obtain⟨hn,c0⟩:=Ka S
       have t1:(mN (aH .tuple) (aa (mN (aB pP) (aa (m2 aA (ab 2) (ae (.int 0))) ag)) ag)) [oS z,oR k,oR j,some o] m=.ok (.tup (C.map .str)) g:=by
        rw[bt,ai,bR (tw (i:=2) (x:=a) rfl A rfl) h6,af,bj,af,af];exact fQ a0
       have t3:(eH (mN (aH .int) (aa (m2 aA (ab 2) (ae (.int 2))) ag)) (mN eN (aa (m2 aA (ab 2) (ae (.int 2))) ag))) [oS z,oR k,oR j,some o] g=.ok (.int n) g:=by
        have e1:(aa (m2 aA (ab 2) (ae (.int 2))) ag) [oS z,oR k,oR j,some o] g=.ok [.str c] g:=by rw[ai,EI (i:=2) (x:=c) rfl b0 rfl];rfl
        rw[lV,bt,bt,e1,af,af];have e2:aH .int [.str c] g=.bad:=rfl;rw[e2,vX]
        show(match PySem.intText? c with|some n=>if c.length<=640 then (aq.ok (D.int n) g:aq D)else .bad|none=>.bad)=_
        rw[hn];exact if_pos c0
       have et:(mN eJ (aa (mN (aH .tuple) (aa (mN (aB pP) (aa (m2 aA (ab 2) (ae (.int 0))) ag)) ag)) (aa (ab 3) (aa (eH (mN (aH .int) (aa (m2 aA (ab 2) (ae (.int 2))) ag)) (mN eN (aa (m2 aA (ab 2) (ae (.int 2))) ag))) ag)))) [oS z,oR k,oR j,some o] m=.ok (.tup [.tup (C.map .str),o,.int n]) g:=by
        rw[bt,ai,t1,af,ai,bN];rw[show([oS z,oR k,oR j,some o]:aR)[3]?=some (some o)from rfl,cz,af,ai,t3]
        rfl
       refine⟨some o,g.set k (.lst [d0,d1,d2,d3,.tup [.tup (C.map .str),o,.int n]]),?_,(J.sub (by simp)).trans (((M.trans Z).sub (by simp)).trans (av.set (by simp))),?_⟩
       .have ed:(hZ (ab 1) (ae (.int 4)) (mN eJ (aa (mN (aH .tuple) (aa (mN (aB pP) (aa (m2 aA (ab 2) (ae (.int 0))) ag)) ag)) (aa (ab 3) (aa (eH (mN (aH .int) (aa (m2 aA (ab 2) (ae (.int 2))) ag)) (mN eN (aa (m2 aA (ab 2) (ae (.int 2))) ag))) ag))))) [oS z,oR k,oR j,some o] m=.nx [oS z,oR k,oR j,some o] (g.set k (.lst [d0,d1,d2,d3,.tup [.tup (C.map .str),o,.int n]])):=by
         show cm _ _=_
         rw[et,aJ]
         show cm (aq.ok (D.ref k) g) _=_
         rw[aJ]
         show(match hY (.ref k) (.int ((4:Nat):Int)) (.tup [.tup (C.map .str),o,.int n]) g with|some f=>_|none=>_)=_
         rw[pU K (by simp)]
         rfl
        simp only[ah,ed,aC,cD]
       .rw[List.getElem?_set_self (cO K),←Y];rfl
   .rw[if_neg E]
    refine no ?_
    have:(decide (dQ z ">"=1)&&decide (cZ z ">"<cZ z "="))=false:=by
     rw[Bool.and_eq_false_iff]
     by_cases h1:dQ z ">"=1
     .exact .inr (decide_eq_false λh=>E ⟨h1,h⟩)
     .exact .inl (decide_eq_false h1)
    rw[this,Bool.and_false]
 .rw[FF P]
  exact no (by rw[decide_eq_false P];rfl)
end
structure Fv(Ω:aE)(k:Nat)(z:Str)(d0 d2:D):Prop where
 at':Ω[k]?=some (.lst [d0,cL (ow z),d2,tH (pH z),mn (iF z)])
 ls:iu Ω d0 (ey z)
 tn:hR Ω d2 (BQ z)
section
variable{Ω az aM:aE}{z x:Str}{ρ:aR}{i k j:Nat}{xs:List Str}{d d0 d1 d2 d3 d4:D}
theorem Fv.keep(h:Fv Ω k z d0 d2)(K:av [] Ω az):Fv az k z d0 d2:=⟨K.get _ _ h.at' (by simp),h.ls.keep K,h.tn.keep K⟩
theorem zD{o:Option (List Str)}(h:iu Ω d o)(K:av [k] Ω az)(b:∀q,d=.ref q->q≠k):iu az d o:=by
 cases o with
 |none=>exact h
 |some e=>obtain⟨q,a,c⟩:=h;exact⟨q,a,K.get q _ c (by simpa using b q a)⟩
theorem rq{o:Option (Str×List Str)}{g i j m:D}(h:hR Ω d o)(b:Ω[k]?=some (.lst [g,i,d,j,m]))(K:av [k] Ω az):hR az d o:=by
 cases o with
 |none=>exact h
 |some q=>
  obtain⟨a,n⟩:=q;obtain⟨q,c,e⟩:=h;refine⟨q,c,K.get q _ e ?_⟩;simp only[List.mem_singleton];rintro rfl;rw[e]at b;injection b with b;injection b with b;have:=congrArg (λl=>l[2]?) b
  simp only[List.getElem?_map,List.getElem?_cons_succ,List.getElem?_cons_zero]at this;rw[c]at this;cases f:n[2]? with
  |none=>rw[f]at this;cases this
  |some y=>rw[f]at this;cases this
theorem mr{c y:Str}(a:ρ[i]?=some (oS z))(hz:z.length<=1900):(m1 (gz c y) (ab i)) ρ Ω=.ok (.str (Txt.replace z c y)) Ω:=by
 rw[Af,bN,a,cz,af]
 show(if z.length<=4000 then _ else _)=_
 rw[if_pos (by omega)]
theorem rz(c:Nat)(hz:z.length<=1900):(Txt.replace z ⟨#[c]⟩ "=").length<=4000:=by
 have:=gC z c "=";have e:("=":Str).length=1:=rfl;rw[e]at this;omega
theorem zE(hz:z.length<=1900):∃k d0 d2 az,Hd [.str z] Ω=.ok (.ref k) az/\av [] Ω az/\Fv az k z d0 d2:=by
 have V:ba 4 [D.str z]=[oS z,none,none,none]:=rfl
 show ∃k d0 d2 az,cQ 4 1 Hc [.str z] Ω=_/\_
 rw[bH (by rfl),V]
 unfold Hc;obtain⟨d0,j,F,w,h,F1⟩:=eU (Ω:=Ω) (z:=z) (by omega)
 obtain⟨b,G,l⟩:=tE (Ω:=j) (z:=z) (by omega)
 have X:(mN (aB pP) (aa (ab 0) ag)) [oS z,none,none,none] Ω=.ok d0 j:=bR (e:=ab 0) (d:=.str z) rfl F;have Y:(mN (aB EW) (aa (ab 0) ag)) [oS z,none,none,none] j=.ok (cL (ow z)) b:=bR (e:=ab 0) (d:=.str z) rfl G
 have x:(mN b9 (aa (mN (aB pP) (aa (ab 0) ag)) (aa (mN (aB EW) (aa (ab 0) ag)) (aa (ae .non) (aa (ae .non) (aa (ae .non) ag)))))) [oS z,none,none,none] Ω=.ok (.ref b.length) (b++[.lst [d0,cL (ow z),.non,.non,.non]]):=by
  rw[bt,ai,X,af,ai,Y];rfl
 have A:(b++[Cell.lst [d0,cL (ow z),.non,.non,.non]])[b.length]?=some (.lst [d0,cL (ow z),.non,.non,.non]):=aF;have s:av [] b (b++[Cell.lst [d0,cL (ow z),.non,.non,.non]]):=av.app;generalize b++[Cell.lst [d0,cL (ow z),.non,.non,.non]]=a at x A s;have Z:iu a d0 (ey z):=(h.keep l).keep s
 have H:∀q,d0=.ref q->q≠b.length:=λq e=>by
  cases I:ey z with
  |none=>rw[I]at h;rw[show d0=.non from h]at e;cases e
  |some ys=>
   rw[I]at h;obtain⟨q',J,B⟩:=h;rw[e]at J;cases J;have:=cO B;have:=l.len;omega
 generalize a0:b.length=k at x A H;have K:=eT (Ω:=a) (ρ:=[oS z,oR k,none,none]) (i:=0) (y:=":") rfl (by omega) rfl
 have L:(a++[Cell.lst ((Txt.split z ":").map .str)])[a.length]?=some (.lst ((Txt.split z ":").map .str)):=aF;have C:av [] a (a++[Cell.lst ((Txt.split z ":").map .str)]):=av.app;generalize a++[Cell.lst ((Txt.split z ":").map .str)]=n at K L C;obtain⟨d2,f,h5,K5,k5,t5⟩:=J9 (Ω:=n) (z:=z) (x3:=none) (by omega) (C.get _ _ A (by simp)) L
 have M:=fJ (Ω:=f) (ρ:=[oS z,oR k,oR a.length,none]) (y:="=") (mr (c:=".") (y:="=") (i:=0) rfl hz) (rz 46 hz) rfl;have N:(f++[Cell.lst ((Txt.split (Txt.replace z "." "=") "=").map .str)])[f.length]?=some (.lst ((Txt.split (Txt.replace z "." "=") "=").map .str)):=aF;have t:av [] f (f++[Cell.lst ((Txt.split (Txt.replace z "." "=") "=").map .str)]):=av.app;generalize f++[Cell.lst ((Txt.split (Txt.replace z "." "=") "=").map .str)]=o at M N t;have O:=t.get _ _ k5 (by simp)
 obtain⟨g,h7,P,k7⟩:=J_ (Ω:=o) (z:=z) (x3:=none) hz O N;have Q:=fJ (Ω:=g) (ρ:=[oS z,oR k,oR f.length,none]) (y:="=") (mr (c:=">") (y:="=") (i:=0) rfl hz) (rz 62 hz) rfl;have R:(g++[Cell.lst ((Txt.split (Txt.replace z ">" "=") "=").map .str)])[g.length]?=some (.lst ((Txt.split (Txt.replace z ">" "=") "=").map .str)):=aF;have u:av [] g (g++[Cell.lst ((Txt.split (Txt.replace z ">" "=") "=").map .str)]):=av.app;generalize g++[Cell.lst ((Txt.split (Txt.replace z ">" "=") "=").map .str)]=p at Q R u;have S:=u.get _ _ k7 (by simp)
 obtain⟨x3,r,h9,T,k9⟩:=Kb (Ω:=p) (z:=z) (x3:=none) hz S R;have t9:=rq ((rq (t5.keep t) O P).keep u) S T;have E:av [k] a r:=(C.sub (by simp)).trans (K5.trans ((t.sub (by simp)).trans (P.trans ((u.sub (by simp)).trans T))))
 refine⟨k,d0,d2,r,?_,?_,⟨by rw[vT,tq];exact k9,zD Z E H,t9⟩⟩
 .rw[ah,aN,x,aJ,aC]
  show bW ((aj _ _) [oS z,oR k,none,none] a)=_
  rw[ah,aN,K,aJ,aC]
  show bW ((aj _ _) [oS z,oR k,oR a.length,none] n)=_
  rw[ah,h5,aC,ah,aN,M,aJ,aC]
  show bW ((aj _ _) [oS z,oR k,oR f.length,none] o)=_
  rw[ah,h7,aC,ah,aN,Q,aJ,aC]
  show bW ((aj _ _) [oS z,oR k,oR g.length,none] p)=_
  rw[ah,h9,aC];rfl
 .refine⟨Nat.le_trans w.len (Nat.le_trans l.len (Nat.le_trans s.len E.len)),λm c U _=>?_⟩
  refine E.get m c (s.get _ _ (l.get _ _ (w.get _ _ U (by simp)) (by simp)) (by simp)) ?_
  simp only[List.mem_singleton];rintro rfl;have F:=cO U;have G:=w.len;have h3:=l.len;omega
theorem rD(hz:z.length<=4000):∃k d0 d2 az,Cb [.str z] Ω=.ok (.ref k) az/\av [] Ω az/\Fv az k z d0 d2/\(∀q,d0=.ref q->Ω.length<=q/\q≠k):=by
 have r:ba 1 [D.str z]=[oS z]:=rfl
 show ∃k d0 d2 az,cQ 1 1 He [.str z] Ω=_/\_
 rw[bH (by rfl),r]
 obtain⟨d0,c,s,t,a,u⟩:=jR (Ω:=Ω) (z:=z) hz;obtain⟨f,w,x⟩:=wx (Ω:=c) (z:=z) hz;obtain⟨d2,g,y,A,B⟩:=zA (Ω:=f) (z:=z) hz;obtain⟨h,C,m⟩:=zB (Ω:=g) (z:=z) hz;obtain⟨b,E,n⟩:=wA (Ω:=h) (z:=z) hz;have F:(mN (aB O2) (aa (ab 0) ag)) [oS z] Ω=.ok d0 c:=bR (e:=ab 0) (d:=.str z) rfl s;have G:(mN (aB O3) (aa (ab 0) ag)) [oS z] c=.ok (cL (ow z)) f:=bR (e:=ab 0) (d:=.str z) rfl w;have H:(mN (aB O5) (aa (ab 0) ag)) [oS z] f=.ok d2 g:=bR (e:=ab 0) (d:=.str z) rfl y;have I:(mN (aB O6) (aa (ab 0) ag)) [oS z] g=.ok (tH (pH z)) h:=bR (e:=ab 0) (d:=.str z) rfl C;have J:(mN (aB O7) (aa (ab 0) ag)) [oS z] h=.ok (mn (iF z)) b:=bR (e:=ab 0) (d:=.str z) rfl E;have j:av [] b (b++[Cell.lst [d0,cL (ow z),d2,tH (pH z),mn (iF z)]]):=av.app;have i:=((x.trans A).trans m).trans n;refine⟨b.length,d0,d2,b++[.lst [d0,cL (ow z),d2,tH (pH z),mn (iF z)]],?_,(t.trans i).trans j,⟨aF,(a.keep i).keep j,((B.keep m).keep n).keep j⟩,λq e=>⟨u q e,?_⟩⟩
 .unfold He
  rw[ah,br,bt,ai,F,af,ai,G,af,ai,H,af,ai,I,af,ai,J];rfl
 .cases o:ey z with
  |none=>rw[o]at a;rw[show d0=.non from a]at e;cases e
  |some K=>
   rw[o]at a;obtain⟨L,p,l⟩:=a;rw[e]at p;cases p;have:=cO l;have:=i.len;omega
end
def Flt(x:D):Prop:=x=.non\/(∃i,x=.int i)\/∃z,x=.str z
def Sm(Ω:aE):Nat->D->D->Prop
 |0,x,y=>x=y/\Flt x
 |n+1,x,y=>(x=y/\Flt x)\/(∃xs a,x=.tup xs/\y=.tup a/\xs.length<=5000/\aL (Sm Ω n) xs a)\/(∃p q xs a,x=.ref p/\y=.ref q/\Ω[p]?=some (.lst xs)/\Ω[q]?=some (.lst a)/\xs.length<=5000/\aL (Sm Ω n) xs a)
theorem Sm.keep{Ω az:aE}(K:av [] Ω az):∀{n:Nat}{x y:D},Sm Ω n x y->Sm az n x y
 |0,_,_,h=>h
 |n+1,_,_,h=>by
  rcases h with h|⟨xs,ys,rfl,rfl,a,h⟩|⟨p,q,xs,ys,rfl,rfl,h1,h2,a,h⟩
  .exact .inl h
  .exact .inr (.inl ⟨xs,ys,rfl,rfl,a,h.imp λ_ _ r=>Sm.keep K r⟩)
  .exact .inr (.inr ⟨p,q,xs,ys,rfl,rfl,K.get _ _ h1 (by simp),K.get _ _ h2 (by simp),a,h.imp λ_ _ r=>Sm.keep K r⟩)
theorem Sm.flat{Ω:aE}{n:Nat}{x:D}(h:Flt x):Sm Ω n x x:=by
 cases n with
 |zero=>exact⟨rfl,h⟩
 |succ n=>exact .inl ⟨rfl,h⟩
def jT(n:Nat)(G:c9):Prop:=∀(b:aE) (x y:D),Sm b n x y->∃a,G [x,y] b=.ok (.bl true) a/\av [] b a
theorem Cg:E9=cQ 2 2 (dA yW):=rfl
theorem Ci:Fb=cQ 2 2 (dA E9):=rfl
theorem Cj:Fd=cQ 2 2 (dA Fb):=rfl
theorem Ck:wR=cQ 2 2 (dA Fd):=rfl
theorem mu{f:D->Option D}:∀{xs a:List D},aL (λx y=>(∃d,f x=some d)/\∃e,f y=some e) xs a->(∃ds,bF f xs=some ds)/\∃es,bF f a=some es
 |[],[],.nil=>⟨⟨[],rfl⟩,⟨[],rfl⟩⟩
 |x::xs,y::a,.cons h b=>by
  obtain⟨⟨d,h1⟩,e,h2⟩:=h;obtain⟨⟨ds,c⟩,es,g⟩:=mu b;exact⟨⟨d::ds,by simp only[bF,h1,c]⟩,e::es,by simp only[bF,h2,g]⟩
theorem pV{Ω:aE}:∀{n m:Nat}{x y:D},Sm Ω n x y->n<=m->(∃d,ef Ω m x=some d)/\∃e,ef Ω m y=some e
 |0,m,x,y,h,_=>by
  obtain⟨rfl,h⟩:=h;rcases h with rfl|⟨i,rfl⟩|⟨z,rfl⟩<;>simp
 |n+1,0,x,y,h,c=>by omega
 |n+1,m+1,x,y,h,c=>by
  rcases h with ⟨rfl,h⟩|⟨f,g,rfl,rfl,j,h⟩|⟨p,q,f,g,rfl,rfl,k,l,j,h⟩
  .rcases h with rfl|⟨i,rfl⟩|⟨z,rfl⟩<;>simp
  .obtain⟨⟨o,a⟩,s,b⟩:=mu (h.imp λ_ _ r=>pV (m:=m) r (by omega))
   exact⟨⟨_,fh a⟩,_,fh b⟩
  .obtain⟨⟨o,a⟩,s,b⟩:=mu (h.imp λ_ _ r=>pV (m:=m) r (by omega))
   exact⟨⟨_,gE k a⟩,_,gE l b⟩
theorem is_tup{Ω:aE}{n:Nat}{xs b:List D}(h:aL (Sm Ω n) xs b)(c:n<=7):aw .Is (.tup xs) .non Ω=.ok (.bl false) Ω/\aw .Is (.tup b) .non Ω=.ok (.bl false) Ω:=by
 obtain⟨⟨a,d⟩,i,f⟩:=mu (h.imp λ_ _ r=>pV (m:=7) r c)
 have t:∀{xs a:List D},bF (ef Ω 7) xs=some a->aw .Is (.tup xs) .non Ω=.ok (.bl false) Ω:=λ{xs a} e=>by
  have g:ef Ω 8 (.tup xs)=some (.tup a):=fh e
  show gd aq.bad (eI _ _ _ _)=_
  rw[fP,g];rfl
 exact⟨t d,t f⟩
section
variable{Ω az aM:aE}{z:Str}{ρ:aR}{G:c9}{n:Nat}
theorem rE{x:D}(h:Flt x):cQ 2 2 (dA G) [x,x] Ω=.ok (.bl true) Ω:=by
 rw[bH (by rfl)]
 have e:ba 2 [x,x]=[some x,some x]:=rfl;rw[e];rcases h with rfl|⟨i,rfl⟩|⟨z,rfl⟩
 .rfl
 .have a:aw .Eq (.int i) (.int i) Ω=.ok (.bl true) Ω:=by simp[bY,aK,dn]
  have b:(bV (m1 (cA .int) (ab 0)) (bV (dP (m1 (cA .bool) (ab 0))) (m2 (aw .Eq) (ab 0) (ab 1)))) [some (.int i),some (.int i)] Ω=.ok (.bl true) Ω:=by
   show((cA .int (.int i) Ω).bind _:aq D)=_
   exact a
  unfold dA;have c:(dN (fY (m2 (aw .Is) (ab 1) (ae .non)) (m2 (aw .Is) (ab 0) (ae .non))) (aj (bf (bV (m2 (aw .Is) (ab 0) (ae .non)) (m2 (aw .Is) (ab 1) (ae .non)))) ak) ak) [some (.int i),some (.int i)] Ω=.nx [some (.int i),some (.int i)] Ω:=rfl;have d:(dN (m1 (cA .str) (ab 1)) (aj (bf (bV (m1 (cA .str) (ab 0)) (m2 (aw .Eq) (ab 0) (ab 1)))) ak) ak) [some (.int i),some (.int i)] Ω=.nx [some (.int i),some (.int i)] Ω:=rfl;rw[ah,c,aC,ah]
  show bW (sq (.nx [some (.int i),some (.int i)] Ω) _)=_
  rw[aC,ah,d,aC,ah,br,b];rfl
 .have a:aw .Eq (.str z) (.str z) Ω=.ok (.bl true) Ω:=by simp[bY,aK,dn]
  have b:(bV (m1 (cA .str) (ab 0)) (m2 (aw .Eq) (ab 0) (ab 1))) [oS z,oS z] Ω=.ok (.bl true) Ω:=by
   show((cA .str (.str z) Ω).bind _:aq D)=_
   exact a
  unfold dA;have c:(dN (fY (m2 (aw .Is) (ab 1) (ae .non)) (m2 (aw .Is) (ab 0) (ae .non))) (aj (bf (bV (m2 (aw .Is) (ab 0) (ae .non)) (m2 (aw .Is) (ab 1) (ae .non)))) ak) ak) [oS z,oS z] Ω=.nx [oS z,oS z] Ω:=rfl;rw[ah,c,aC,ah]
  show bW (sq (.nx [oS z,oS z] Ω) _)=_
  rw[aC,ah,bp];have d:(m1 (cA .str) (ab 1)) [oS z,oS z] Ω=.ok (.bl true) Ω:=rfl;rw[d,aQ,ay,aP,aJ,if_pos rfl,ah,br,b];rfl
theorem Cm{me mc:EM}{τ:aR}{src:Src}{xs c:List D}(I:aE->Prop)(w:xs.length=c.length)(k:∀Ω,I Ω->f9 src Ω=some (List.zipWith (λa b=>D.tup [a,b]) xs c))(l:∀(i:Nat) (a b:D) Ω,xs[i]?=some a->c[i]?=some b->I Ω->∃az,me ([some a,some b]++τ) Ω=.ok (.bl true) az/\I az) :
  ∀(f i:Nat) (acc:List D) Ω,I Ω->xs.length - i<f->i<=xs.length->acc.length+xs.length<=100000+i->∃az,sQ true mc me 2 τ src f i acc Ω=.ok (acc++List.replicate (xs.length - i) (.bl true)) az/\I az:=by
 intro f
 induction f with
 |zero=>intro i acc Ω e m;omega
 |succ f o=>
  intro i acc Ω e m x y;simp only[sQ,k Ω e]
  by_cases d:i<xs.length
  .have h:xs[i]?=some xs[i]:=List.getElem?_eq_getElem d
   have j:c[i]?=some (c[i]'(by omega)):=List.getElem?_eq_getElem (by omega)
   rw[List.getElem?_zipWith,h,j];have p:lK 2 (.tup [xs[i],c[i]'(by omega)])=some [some xs[i],some (c[i]'(by omega))]:=rfl
   simp only[p];rw[if_pos (bz (n:=acc.length+1) (by omega))]
   obtain⟨g,q,r⟩:=l i _ _ Ω h j e;have s:lL true mc ([some xs[i],some (c[i]'(by omega))]++τ) Ω=.ok true Ω:=rfl
   rw[s];dsimp only;rw[q];dsimp only;obtain⟨az,t,u⟩:=o (i+1) (acc++[.bl true]) g r (by omega) d (by rw[List.length_append];simp;omega)
   refine⟨az,?_,u⟩;rw[t,show xs.length - i=(xs.length - (i+1))+1 by omega,List.replicate_succ]
   simp
  .rw[List.getElem?_zipWith,List.getElem?_eq_none (by omega:xs.length<=i)]
   refine⟨Ω,?_,e⟩;rw[show xs.length - i=0 by omega]
   simp
theorem wB{R:D->D->Prop}{xs c:List D}(h:aL R xs c){i:Nat}{a b:D}(e:xs[i]?=some a)(f:c[i]?=some b):R a b:=by
 obtain⟨j,d,g⟩:=h.get e;rw[f]at d;cases d;exact g
theorem Ak(l:jT n G){x y:D}{xs d:List D}(hz:∀aM,av [] Ω aM->pe aM x y=iq xs d)(h:aL (Sm Ω n) xs d)(j:xs.length<=5000):∃az,(mN (aH .all) (aa (zC G) ag)) [some x,some y] Ω=.ok (.bl true) az/\av [] Ω az:=by
 have k:xs.length=d.length:=h.length.symm;have e:iq xs d=some (List.zipWith (λa b=>D.tup [a,b]) xs d):=by unfold iq;rw[if_pos k]
 obtain⟨c,m,o⟩:=Cm (me:=mN (aB G) (aa (ab 0) (aa (ab 1) ag))) (mc:=ae .non) (τ:=[]) (src:=.zip x y) (λaM=>av [] Ω aM) k (λaM K=>by show pe aM x y=_;rw[hz aM K,e]) (λi a b aM p q K=>by
  obtain⟨f,r,s⟩:=l aM a b ((wB h p q).keep K);refine⟨f,?_,K.trans s⟩
  show CI (G [a,b] aM)=_
  rw[r];rfl) fuel 0 [] Ω av.refl (by unfold fuel;omega) (Nat.zero_le _) (by simp;omega)
 have t:zC G [some x,some y] Ω=.ok (.ref c.length) (c++[.lst (List.replicate xs.length (.bl true))]):=by
  unfold zC cg
  have:sP (aa (ab 0) (aa (ab 1) ag)) [some x,some y] Ω=.ok (.zip x y) Ω:=by
   show vg [x,y] Ω=_
   show(match pe Ω x y with|some _=>aq.ok (Src.zip x y) Ω|none=>.bad)=_
   rw[hz Ω av.refl,e]
  rw[this];dsimp only
  show(match sQ true (ae .non) (mN (aB G) (aa (ab 0) (aa (ab 1) ag))) 2 [] (.zip x y) fuel 0 [] Ω with|.ok d c=>fk c (.lst d)|_=>.bad)=_
  rw[m];simp
 have g:(c++[Cell.lst (List.replicate xs.length (D.bl true))])[c.length]?=some (.lst ((List.replicate xs.length true).map .bl)):=by
  rw[List.map_replicate];exact aF
 have u:=gI g;refine⟨c++[.lst (List.replicate xs.length (.bl true))],?_,o.trans av.app⟩;rw[bt,ai,t,af,bj,af,af,u];simp
theorem jU(w:jT n G)(B:n<=7):jT (n+1) (cQ 2 2 (dA G)):=by
 intro Ω x y h;rcases h with ⟨rfl,h⟩|⟨c,d,rfl,rfl,i,h⟩|⟨p,q,c,d,rfl,rfl,j,g,i,h⟩
 .exact⟨Ω,rE h,av.refl⟩
 .obtain⟨e,k,K⟩:=Ak (Ω:=Ω) w (x:=.tup c) (y:=.tup d) (λa _=>rfl) h i
  refine⟨e,?_,K⟩;rw[bH (by rfl)]
  have l:ba 2 [D.tup c,.tup d]=[some (.tup c),some (.tup d)]:=rfl;rw[l]
  have m:(dN (fY (m2 (aw .Is) (ab 1) (ae .non)) (m2 (aw .Is) (ab 0) (ae .non))) (aj (bf (bV (m2 (aw .Is) (ab 0) (ae .non)) (m2 (aw .Is) (ab 1) (ae .non)))) ak) ak) [some (.tup c),some (.tup d)] Ω=.nx [some (.tup c),some (.tup d)] Ω:=by
   obtain⟨C,E⟩:=is_tup h B;have F:(m2 (aw .Is) (ab 1) (ae .non)) [some (.tup c),some (.tup d)] Ω=.ok (.bl false) Ω:=E;have H:(m2 (aw .Is) (ab 0) (ae .non)) [some (.tup c),some (.tup d)] Ω=.ok (.bl false) Ω:=C;rw[bp,dk,F,af,ay,df,H];rfl
  have o:(m1 isLT (ab 1)) [some (.tup c),some (.tup d)] Ω=.ok (.bl true) Ω:=rfl;have s:(dN (fY (m2 (aw .NotEq) (m1 (cA .list) (ab 0)) (m1 (cA .list) (ab 1))) (m2 (aw .NotEq) (m1 (cA .tuple) (ab 0)) (m1 (cA .tuple) (ab 1)))) (aj (bf (ae (.bl false))) ak) ak) [some (.tup c),some (.tup d)] Ω=.nx [some (.tup c),some (.tup d)] Ω:=rfl
  have u:(m2 (aw .Eq) (mN (aH .len) (aa (ab 0) ag)) (mN (aH .len) (aa (ab 1) ag))) [some (.tup c),some (.tup d)] Ω=.ok (.bl true) Ω:=by
   show aw .Eq (.int c.length) (.int d.length) Ω=_
   rw[h.length];simp[bY,aK,dn]
  unfold dA;rw[ah,m,aC,ah,bp,o,aQ,ay,aP,aJ,if_pos rfl,ah,s,aC,ah,br,bE,u,af,ay,cj,k];rfl
 .have I:∀a,av [] Ω a->pe a (.ref p) (.ref q)=iq c d:=λa K=>by
   show(match cI a (.ref p),cI a (.ref q)with|some c,some d=>iq c d|_,_=>none)=_
   rw[bg (K.get _ _ j (by simp)),bg (K.get _ _ g (by simp))]
  obtain⟨e,k,K⟩:=Ak (Ω:=Ω) w (x:=.ref p) (y:=.ref q) I h i;refine⟨e,?_,K⟩;rw[bH (by rfl)]
  have l:ba 2 [D.ref p,.ref q]=[oR p,oR q]:=rfl;rw[l];have m:(dN (fY (m2 (aw .Is) (ab 1) (ae .non)) (m2 (aw .Is) (ab 0) (ae .non))) (aj (bf (bV (m2 (aw .Is) (ab 0) (ae .non)) (m2 (aw .Is) (ab 1) (ae .non)))) ak) ak) [oR p,oR q] Ω=.nx [oR p,oR q] Ω:=rfl
  have o:(m1 isLT (ab 1)) [oR p,oR q] Ω=.ok (.bl true) Ω:=by
   show(match cI Ω (.ref q)with|some _=>aq.ok (D.bl true) Ω|none=>.bad)=_
   rw[bg g]
  have z:∀(t:Ty) (r:Nat) (A:List D),Ω[r]?=some (.lst A)->cA t (.ref r) Ω=.ok (.bl (t==.list)) Ω:=λt r A J=>by
   unfold cA;rw[zb];simp only[Bx,J,Em]
  have L:∀t:Bool,aw .NotEq (.bl t) (.bl t) Ω=.ok (.bl false) Ω:=λt=>by cases t<;>rfl
  have s:(dN (fY (m2 (aw .NotEq) (m1 (cA .list) (ab 0)) (m1 (cA .list) (ab 1))) (m2 (aw .NotEq) (m1 (cA .tuple) (ab 0)) (m1 (cA .tuple) (ab 1)))) (aj (bf (ae (.bl false))) ak) ak) [oR p,oR q] Ω=.nx [oR p,oR q] Ω:=by
   have b:∀t,(m2 (aw .NotEq) (m1 (cA t) (ab 0)) (m1 (cA t) (ab 1))) [oR p,oR q] Ω=.ok (.bl false) Ω:=λt=>by
    show((cA t (.ref p) Ω).bind λx a=>(cA t (.ref q) a).bind λy f=>aw .NotEq x y f)=_
    rw[z t p c j,af,z t q d g,af,L]
   rw[bp,dk,b,af,ay,df,b];rfl
  have u:(m2 (aw .Eq) (mN (aH .len) (aa (ab 0) ag)) (mN (aH .len) (aa (ab 1) ag))) [oR p,oR q] Ω=.ok (.bl true) Ω:=by
   show((aH .len [.ref p] Ω).bind λx a=>(aH .len [.ref q] a).bind λy f=>aw .Eq x y f)=_
   rw[l9 j,af,l9 g,af,h.length];simp[bY,aK,dn]
  unfold dA;rw[ah,m,aC,ah,bp,o,aQ,ay,aP,aJ,if_pos rfl,ah,s,aC,ah,br,bE,u,af,ay,cj,k];rfl
theorem FG:jT 0 E9:=λa x y h=>by
 obtain⟨rfl,h⟩:=h;exact⟨a,by rw[Cg];exact rE h,av.refl⟩
theorem FH:jT 1 Fb:=by rw[Ci];exact jU FG (by omega)
theorem FI:jT 2 Fd:=by rw[Cj];exact jU FH (by omega)
theorem wC:jT 3 wR:=by rw[Ck];exact jU FI (by omega)
end
abbrev oI(i:Int):Option D:=some (.int i)
section
variable{Ω az aM:aE}{z x:Str}{ρ:aR}{i k j:Nat}{xs ys:List Str}{d e d0 d2 e0 e2:D}
theorem gM{n:Nat}:∀xs:List Str,aL (Sm Ω n) (xs.map .str) (xs.map .str)
 |[]=>.nil
 |x::xs=>.cons (Sm.flat (.inr (.inr ⟨x,rfl⟩))) (gM xs)
theorem FJ{n:Nat}{o:Option (List Str)}(a:iu Ω d o)(b:iu Ω e o)(c:∀xs,o=some xs->xs.length<=5000):Sm Ω (n+1) d e:=by
 cases o with
 |none=>rw[show d=.non from a,show e=.non from b];exact Sm.flat (.inl rfl)
 |some xs=>
  obtain⟨p,rfl,f⟩:=a;obtain⟨q,rfl,g⟩:=b;exact .inr (.inr ⟨p,q,_,_,rfl,rfl,f,g,by simpa using c xs rfl,gM xs⟩)
theorem pW(h:ey z=some xs):(z="-"/\xs=[])\/(z≠"-"/\xs=Txt.split z ","/\∀x∈xs,dm x=true):=by
 unfold ey at h;split at h
 .rename_i a;cases h;exact .inl ⟨a,rfl⟩
 .rename_i a
  split at h
  .rename_i b;cases h;exact .inr ⟨a,rfl,λx c=>by simpa using List.all_eq_true.mp b x c⟩
  .cases h
theorem gN(hz:z.length<=4000)(h:ey z=some xs):xs.length<=5000:=by
 rcases pW h with ⟨_,rfl⟩|⟨_,rfl,_⟩
 .simp
 .have:=split_len z ",";omega
theorem zF{a:Str}(hz:z.length<=4000)(h:BQ z=some (a,xs)):xs.length<=5000:=by
 unfold BQ at h;split at h
 .rename_i a b d
  split at h
  .cases c:ey b with
   |none=>rw[c]at h;cases h
   |some e=>
    rw[c]at h;cases h;exact gN (cN hz (p:=b) (y:=":") (by rw[d];simp)) c
  .cases h
 .cases h
theorem wD{o:Option Str}{i:Int}(h:iF z=some (ys,o,i)):∃a b x y,Txt.split z ">"=[a,b]/\Txt.split b "="=[x,y]/\ey a=some ys/\s3 y=some i/\knd x=true/\o=if x="-" then none else some x:=by
 unfold iF at h;split at h
 .rename_i a b d
  split at h
  .rename_i x y c
   split at h
   .rename_i e k f g
    split at h
    .rename_i j
     injection h with h;injection h with e1 h;injection h with e2 e3;exact⟨a,b,x,y,d,c,by rw[f,e1],by rw[g,e3],j,e2.symm⟩
    .cases h
   .cases h
  .cases h
 .cases h
theorem FK{n:Nat}{o:Option (Str×List Str)}(b:hR Ω d o)(c:hR Ω e o)(g:∀a xs,o=some (a,xs)->xs.length<=5000):Sm Ω (n+2) d e:=by
 cases o with
 |none=>rw[show d=.non from b,show e=.non from c];exact Sm.flat (.inl rfl)
 |some q=>
  obtain⟨a,f⟩:=q;obtain⟨p,rfl,h⟩:=b;obtain⟨q,rfl,i⟩:=c;exact .inr (.inl ⟨_,_,rfl,rfl,by simp,.cons (Sm.flat (.inr (.inr ⟨a,rfl⟩))) (.cons (.inr (.inr ⟨p,q,_,_,rfl,rfl,h,i,by simpa using g a f rfl,gM f⟩)) .nil)⟩)
theorem Al{n:Nat}(o:Option Int):Sm Ω n (cL o) (cL o):=by
 cases o with
 |none=>exact Sm.flat (.inl rfl)
 |some i=>exact Sm.flat (.inr (.inl ⟨i,rfl⟩))
theorem FL{n:Nat}(o:Option Str):Sm Ω n (dq o) (dq o):=by
 cases o with
 |none=>exact Sm.flat (.inl rfl)
 |some i=>exact Sm.flat (.inr (.inr ⟨i,rfl⟩))
theorem FN{n:Nat}(o:Option (Str×Str×Option Int)):Sm Ω (n+1) (tH o) (tH o):=by
 cases o with
 |none=>exact Sm.flat (.inl rfl)
 |some q=>
  obtain⟨a,b,o⟩:=q;exact .inr (.inl ⟨_,_,rfl,rfl,by simp,.cons (Sm.flat (.inr (.inr ⟨a,rfl⟩))) (.cons (Sm.flat (.inr (.inr ⟨b,rfl⟩))) (.cons (Al o) .nil))⟩)
theorem FO{n:Nat}(o:Option (List Str×Option Str×Int))(b:∀a p i,o=some (a,p,i)->a.length<=5000):Sm Ω (n+2) (mn o) (mn o):=by
 cases o with
 |none=>exact Sm.flat (.inl rfl)
 |some q=>
  obtain⟨a,p,i⟩:=q;exact .inr (.inl ⟨_,_,rfl,rfl,by simp,.cons (.inr (.inl ⟨_,_,rfl,rfl,by simpa using b a p i rfl,gM a⟩)) (.cons (FL p) (.cons (Sm.flat (.inr (.inl ⟨i,rfl⟩))) .nil))⟩)
theorem Am(hz:z.length<=4000)(c:Fv Ω k z d0 d2)(d:Fv Ω j z e0 e2):Sm Ω 3 (.ref k) (.ref j):=
 .inr (.inr ⟨k,j,_,_,rfl,rfl,c.at',d.at',by simp,.cons (FJ c.ls d.ls λe h=>gN hz h) (.cons (Al _) (.cons (FK c.tn d.tn λa e h=>zF hz h) (.cons (FN _) (.cons (FO _ λl p i h=>by
  obtain⟨a,b,x,y,f,_,g,_⟩:=wD h;exact gN (cN hz (p:=a) (y:=">") (by rw[f];simp)) g) .nil))))⟩)
noncomputable def shown(xs:List Str):Str:=if xs.isEmpty then "-" else Str.join "," xs
theorem oh(h:ey z=some xs):shown xs=z:=by
 unfold shown;rcases pW h with ⟨rfl,rfl⟩|⟨_,rfl,_⟩
 .rfl
 .have:=eO z ","
  cases b:Txt.split z "," with
  |nil=>exact absurd b this
  |cons a r=>
   rw[←b];have c:(Txt.split z ",").isEmpty=false:=by rw[b];rfl
   rw[c];exact StrLaws.join_split z ","
theorem pX(hz:z.length<=4000)(h:ey z=some xs):(xs.map (·.length)).sum+xs.length<=1048576:=by
 have c:=gN hz h
 have d:(xs.map (·.length)).sum<=xs.length*8:=StrLaws.sumLen_le xs λy a=>by
  rcases pW h with ⟨_,rfl⟩|⟨_,_,b⟩
  .cases a
  .have:=b y a
   unfold dm at this;simp only[Bool.and_eq_true,decide_eq_true_eq]at this;exact this.1.2
 omega
theorem jV:∀xs:List Str,eh (xs.map .str)=some xs
 |[]=>rfl
 |x::xs=>by
  show(eh (xs.map .str)).map (x :: ·)=_
  rw[jV xs];rfl
def Cn(Ω:aE)(d:D)(xs:List Str):Prop:=d=.tup (xs.map .str)\/∃k,d=.ref k/\Ω[k]?=some (.lst (xs.map .str))
theorem hU{c:Str}(a:c.length<=16)(h:Cn Ω d xs)(b:(xs.map (·.length)).sum+xs.length<=1048576):dM (.str c) [d] Ω=.ok (.str (Str.join c xs)) Ω:=by
 have e:Txt.join c xs=Str.join c xs:=StrLaws.glued_eq_join c xs;rw[←e];rcases h with rfl|⟨k,rfl,f⟩
 .simp only[dM,jV]
  rw[if_pos ⟨a,b⟩]
 .have g:sk .join (.str c) (.tup [L1 xs])=.ok (false,.str (Txt.join c xs)):=by
   show(match eh (xs.map .str)with|some xs=>(if (decide (c.length<=16)&&decide ((xs.map λy:Str=>y.length).sum+xs.length<=1048576))=true then Out.ok (false,D.str (Txt.join c xs))else .bad)|none=>.bad)=_
   rw[jV];simp[a,b]
  have i:ef Ω 8 (.ref k)=some (L1 xs):=nW f;simp only[dM,kD,fP,lW,i,iK,g,rl]
theorem Co(h:Cn Ω d xs):fC Ω d=some (!xs.isEmpty):=by
 rcases h with rfl|⟨k,rfl,a⟩
 .cases xs<;>rfl
 .rw[wd a];cases xs<;>rfl
theorem mw(h:Cn Ω d xs)(b:(xs.map (·.length)).sum+xs.length<=1048576):O8 [d] Ω=.ok (.str (shown xs)) Ω:=by
 show cQ 1 1 d8 [d] Ω=_
 have c:ba 1 [d]=[some d]:=rfl;rw[bH (by rfl),c]
 unfold d8;have a:(ab 0) [some d] Ω=.ok d Ω:=rfl
 have e:(bx cp dM (ae (.str ",")) (aa (ab 0) ag)) [some d] Ω=.ok (.str (Str.join "," xs)) Ω:=by
  rw[hP (x:=.str ",") (az:=Ω) rfl rfl,ai,a,af,bj,af,af];exact hU (by decide) h b
 rw[ah,br,gc,a,aQ,Co h,aP,af,e];unfold shown;cases xs<;>rfl
end
section
variable{Ω az aM:aE}{z x:Str}{ρ:aR}{i k j:Nat}{xs ys:List Str}{d e d0 d2 e0 e2:D}
theorem gO{m:EM}{a:List EM}{acc y:Str}(h:m ρ Ω=.ok (.str y) aM)(b:(acc++y).length<=8000):jO (m::a) acc ρ Ω=jO a (acc++y) ρ aM:=by
 show((m ρ Ω).bind _:aq D)=_
 rw[h,af];exact if_pos b
theorem Cp{acc:Str}(a:acc.length<=8000):jO [] acc ρ Ω=.ok (.str acc) Ω:=if_pos a
theorem wF(h:z.length<=4000):vw (.str z) Ω=.ok (.str z) Ω:=if_pos h
theorem zG{y:Str}{i:Int}(h:s3 y=some i):vw (.int i) Ω=.ok (.str y) Ω:=by
 rcases eP y with ⟨rfl,a⟩|⟨rfl,a⟩|⟨rfl,a⟩|⟨_,_,_,a⟩<;>rw[h]at a<;>cases a
 .have e:(toString (0:Int):Str)="0":=by decide
  show(if (0:Int).natAbs.log2<1920 then (aq.ok (D.str (toString (0:Int))) Ω:aq D)else .bad)=_
  rw[e];rfl
 .have e:(toString (1:Int):Str)="1":=by decide
  show(if (1:Int).natAbs.log2<1920 then (aq.ok (D.str (toString (1:Int))) Ω:aq D)else .bad)=_
  rw[e];rfl
 .have e:(toString (2:Int):Str)="2":=by decide
  show(if (2:Int).natAbs.log2<1920 then (aq.ok (D.str (toString (2:Int))) Ω:aq D)else .bad)=_
  rw[e];rfl
theorem wG{a b c:Str}(h:Txt.split z c=[a,b]):z=a++c++b:=by
 have:=StrLaws.join_split z c;rw[h]at this;exact this.symm
theorem oi{o:Option Str}{i:Int}(hz:z.length<=4000)(h:iF z=some (ys,o,i)):O9 [mn (some (ys,o,i))] Ω=.ok (.str z) Ω:=by
 obtain⟨a,b,x,y,k,c,m,u,N,e⟩:=wD h;have n:a.length<=4000:=cN hz (p:=a) (y:=">") (by rw[k];simp)
 have A:b.length<=4000:=cN hz (p:=b) (y:=">") (by rw[k];simp)
 have B:x.length<=4000:=cN A (p:=x) (y:="=") (by rw[c];simp)
 have f:z=a++">"++(x++"="++y):=by rw[wG k,wG c]
 have g:((((Str.empty++a)++">")++x)++"=")++y=z:=by
  rw[f,Str.empty_append];simp only[Str.append_assoc]
 show cQ 4 1 d9 [.tup [.tup (ys.map .str),dq o,.int i]] Ω=_
 have C:ba 4 [D.tup [.tup (ys.map .str),dq o,.int i]]=[some (.tup [.tup (ys.map .str),dq o,.int i]),none,none,none]:=rfl;rw[bH (by rfl),C]
 unfold d9;have E:∀r:aR,(m2 aA (ab 0) (ae (.int 0))) (some (.tup [.tup (ys.map .str),dq o,.int i])::r) Ω=.ok (.tup (ys.map .str)) Ω:=λr=>eQ (ds:=[.tup (ys.map .str),dq o,.int i]) (i:=0) (d:=.tup (ys.map .str)) rfl
 have q:∀r:aR,(m2 aA (ab 0) (ae (.int 1))) (some (.tup [.tup (ys.map .str),dq o,.int i])::r) Ω=.ok (dq o) Ω:=λr=>eQ (ds:=[.tup (ys.map .str),dq o,.int i]) (i:=1) (d:=dq o) rfl
 have F:∀r:aR,(m2 aA (ab 0) (ae (.int 2))) (some (.tup [.tup (ys.map .str),dq o,.int i])::r) Ω=.ok (.int i) Ω:=λr=>eQ (ds:=[.tup (ys.map .str),dq o,.int i]) (i:=2) (d:=.int i) rfl
 have s:=mw (Ω:=Ω) (d:=.tup (ys.map .str)) (.inl rfl) (pX n m);rw[oh m]at s
 have G:(ou (m2 (aw .Is) (m2 aA (ab 0) (ae (.int 1))) (ae .non)) (ae (.str "-")) (m2 aA (ab 0) (ae (.int 1)))) [some (.tup [.tup (ys.map .str),dq o,.int i]),oS a,none,none] Ω=.ok (.str x) Ω:=by
  rw[gc,aX,q,af,aO,af]
  by_cases l:x="-"
  .rw[if_pos l]at e
   rw[e,l];rfl
  .rw[if_neg l]at e
   have H:aw .Is (dq o) .non Ω=.ok (.bl false) Ω:=by rw[e];rfl
   rw[H,aQ,ay,aP,af,if_neg (by simp),q,e];rfl
 have j:∀w:Str,∀v:Str,z=w++v->w.length<=8000:=λw v h=>by
  have:=congrArg Str.length h;rw[Str.length_append]at this;omega
 have I:(Str.empty++a).length<=8000:=j _ (">"++(x++"="++y)) (by rw[f,Str.empty_append];simp only[Str.append_assoc])
 have J:((Str.empty++a)++">").length<=8000:=j _ (x++"="++y) (by rw[f,Str.empty_append])
 have K:(((Str.empty++a)++">")++x).length<=8000:=j _ ("="++y) (by rw[f,Str.empty_append];simp only[Str.append_assoc])
 have L:((((Str.empty++a)++">")++x)++"=").length<=8000:=j _ y (by rw[f,Str.empty_append];simp only[Str.append_assoc])
 have t:(((((Str.empty++a)++">")++x)++"=")++y).length<=8000:=by rw[g];omega
 have M:jO ((m1 vw (ab 1))::((ae (.str ">"))::((m1 vw (ab 2))::((ae (.str "="))::((m1 vw (ab 3))::[]))))) Str.empty [some (.tup [.tup (ys.map .str),dq o,.int i]),oS a,oS x,some (.int i)] Ω=.ok (.str z) Ω:=by
  rw[gO (y:=a) (aM:=Ω) (wF n) I,gO (y:=">") (aM:=Ω) rfl J,gO (y:=x) (aM:=Ω) (wF B) K,gO (y:="=") (aM:=Ω) rfl L,gO (y:=y) (aM:=Ω) (zG u) t,Cp t,g]
 rw[ah,aN,bR (E _) s,aJ,aC]
 show bW ((aj _ _) [some (.tup [.tup (ys.map .str),dq o,.int i]),oS a,none,none] Ω)=_
 rw[ah,aN,G,aJ,aC]
 show bW ((aj _ _) [some (.tup [.tup (ys.map .str),dq o,.int i]),oS a,oS x,none] Ω)=_
 rw[ah,aN,F,aJ,aC]
 show bW ((aj _ _) [some (.tup [.tup (ys.map .str),dq o,.int i]),oS a,oS x,some (.int i)] Ω)=_
 rw[ah,br,M];rfl
end
section
variable{Ω az aM cR zH:aE}{z x:Str}{ρ:aR}{i k j:Nat}{xs ys:List Str}{d e d0 d2 e0 e2:D}
theorem call2{G:c9}{m1 m2:EM}{a b c:D}(d:m1 ρ Ω=.ok a aM)(e:m2 ρ aM=.ok b cR)(f:G [a,b] cR=.ok c zH):(mN (aB G) (aa m1 (aa m2 ag))) ρ Ω=.ok c zH:=by
 rw[bt,ai,d,af,ai,e,af,bj,af,af,af,jL,f];rfl
theorem wH{ds:List D}{d:D}(h:Ω[k]?=some (.lst ds))(a:ds.length<=90000):cx (.ref k) [d] Ω=.ok .non (Ω.set k (.lst (ds++[d]))):=by
 simp only[cx,lX h];rw[if_pos (bz (n:=ds.length+1) (by omega))]
theorem Cq(o:Option (List Str×Option Str×Int)):aw .IsNot (mn o) .non Ω=.ok (.bl o.isSome) Ω:=by
 cases o with
 |none=>rfl
 |some q=>
  obtain⟨a,p,i⟩:=q;have b:ef Ω 8 (.tup [.tup (a.map .str),dq p,.int i])=some (.tup [.tup (a.map .str),dq p,.int i]):=zr (by cases p with|none=>exact .inl rfl|some x=>exact .inr ⟨x,rfl⟩)
  show gd aq.bad (eI _ (.tup [.tup (a.map .str),dq p,.int i]) _ _)=_
  rw[fP,b];rfl
theorem gP{ds:List D}{n:Int}(a:ρ[i]?=some (oR k))(b:Ω[k]?=some (.lst ds))(c:L2.fW ds n=some d):(m2 aA (ab i) (ae (.int n))) ρ Ω=.ok d Ω:=by
 rw[aX,bN,a,cz,af,aO,af];exact cC b c
theorem FP(hz:z.length<=4000)(Q:aM.length<=Ω.length)(K:av [] aM Ω)(s:Fv aM k z d0 d2)(r:Fv Ω j z e0 e2)(G:∀q,e0=.ref q->aM.length<=q/\q≠j) :
  ∃az,rA [oS z,oR k,oR j] Ω=.nx [oS z,oR k,oR j] az/\av [] aM az/\az[j]?=some (.lst [e0,cL (ow z),e2,tH (pH z),mn (iF z)]):=by
 have f:=s.keep K;unfold rA
 have H:(m2 (aw .IsNot) (m2 aA (ab 1) (ae (.int 0))) (ae .non)) [oS z,oR k,oR j] Ω=.ok (.bl (ey z).isSome) Ω:=by
  rw[aX,gP (i:=1) (n:=0) (d:=d0) rfl f.at' rfl,af,aO,af,(hJ f.ls).2]
 rw[bp,H,aQ,ay,aP,aJ];cases g:ey z with
 |none=>exact⟨Ω,rfl,K,r.at'⟩
 |some e=>
  have u:=s.ls;have w:=r.ls;rw[g]at u w;obtain⟨p,rfl,I⟩:=u;obtain⟨q,rfl,y⟩:=w;obtain⟨R,J⟩:=G q rfl;have A:=gN hz g
  have b:∀m c,aM[m]?=some c->(Ω.set q (.lst (e.map .str++[.str "x"])))[m]?=some c:=λm c h=>by
   have:=cO h;rw[List.getElem?_set_ne (by omega)]
   exact K.get m c h (by simp)
  have l:(Ω.set q (.lst (e.map .str++[.str "x"])))[j]?=some (.lst [.ref q,cL (ow z),e2,tH (pH z),mn (iF z)]):=by
   rw[List.getElem?_set_ne J];exact r.at'
  have B:(ke (bx sF cx (m2 aA (ab 2) (ae (.int 0))) (aa (ae (.str "x")) ag))) [oS z,oR k,oR j] Ω=.nx [oS z,oR k,oR j] (Ω.set q (.lst (e.map .str++[.str "x"]))):=by
   have L:(bx sF cx (m2 aA (ab 2) (ae (.int 0))) (aa (ae (.str "x")) ag)) [oS z,oR k,oR j] Ω=.ok .non (Ω.set q (.lst (e.map .str++[.str "x"]))):=by
    rw[hP (x:=.ref q) (az:=Ω) (gP (i:=2) (n:=0) (d:=.ref q) rfl r.at' rfl) (by unfold sF;rw[bg y];rfl)]
    show cx (.ref q) [.str "x"] Ω=_
    exact wH y (by simp;omega)
   rw[rn,L];rfl
  generalize Ω.set q (.lst (e.map .str++[.str "x"]))=a at b l B;have t:=b _ _ s.at';have o:=b _ _ I;have C:=gP (Ω:=a) (ρ:=[oS z,oR k,oR j]) (i:=1) (n:=0) (d:=.ref p) rfl t rfl;have D:=mw (Ω:=a) (d:=.ref p) (.inr ⟨p,rfl,o⟩) (pX hz g);have E:=mw (Ω:=a) (d:=.tup (e.map .str)) (.inl rfl) (pX hz g);rw[oh g]at D E;have F:aw .NotEq (.str z) (.str z) a=.ok (.bl false) a:=by rw[gJ];simp
  have M:(mN (aH .tuple) (aa (m2 aA (ab 1) (ae (.int 0))) ag)) [oS z,oR k,oR j] a=.ok (.tup (e.map .str)) a:=by
   rw[bt,ai,C,af,bj,af,af];exact fQ o
  have N:(m2 (aw .NotEq) (mN (aB O8) (aa (m2 aA (ab 1) (ae (.int 0))) ag)) (ab 0)) [oS z,oR k,oR j] a=.ok (.bl false) a:=by
   rw[aX,bR C D,af];exact F
  have O:(m2 (aw .NotEq) (mN (aB O8) (aa (mN (aH .tuple) (aa (m2 aA (ab 1) (ae (.int 0))) ag)) ag)) (ab 0)) [oS z,oR k,oR j] a=.ok (.bl false) a:=by
   rw[aX,bR M E,af];exact F
  refine⟨a,?_,⟨?_,λm c h _=>b m c h⟩,l⟩
  .rw[show(some e).isSome=true from rfl,if_pos (show true=true from rfl),ah,B,aC,ah,bp,dk,N,af,ay,df,O,aQ,ay,aP,aJ]
   rfl
  .rcases Nat.eq_zero_or_pos aM.length with h0|h0
   .omega
   .have P:aM.length - 1<aM.length:=by omega
    have:=cO (b _ _ (List.getElem?_eq_getElem P));omega
theorem FQ(hz:z.length<=4000){c e:D}{a0 a1 a2 a3:D}(f:Ω[k]?=some (.lst [a0,a1,a2,a3,mn (iF z)]))(g:Ω[j]?=some (.lst [e0,c,e2,e,mn (iF z)])):rB [oS z,oR k,oR j] Ω=.nx [oS z,oR k,oR j] Ω:=by
 unfold rB
 have h:(m2 (aw .IsNot) (m2 aA (ab 1) (ae (.int 4))) (ae .non)) [oS z,oR k,oR j] Ω=.ok (.bl (iF z).isSome) Ω:=by
  rw[aX,gP (i:=1) (n:=4) (d:=mn (iF z)) rfl f rfl,af,aO,af,Cq]
 rw[bp,bE,h,af,ay];cases a:iF z with
 |none=>rfl
 |some q=>
  obtain⟨l,o,i⟩:=q;have m:=oi (Ω:=Ω) hz a;have b:=gP (Ω:=Ω) (ρ:=[oS z,oR k,oR j]) (i:=2) (n:=4) (d:=mn (iF z)) rfl g rfl;rw[a]at b;have p:aw .NotEq (.str z) (.str z) Ω=.ok (.bl false) Ω:=by rw[gJ];simp
  have r:(m2 (aw .NotEq) (mN (aB O9) (aa (m2 aA (ab 2) (ae (.int 4))) ag)) (ab 0)) [oS z,oR k,oR j] Ω=.ok (.bl false) Ω:=by
   rw[aX,bR b m,af];exact p
  rw[show(some (l,o,i)).isSome=true from rfl,cj,r,aQ,ay,aP,aJ]
  rfl
theorem oj(hz:z.length<=1900):∃az,wm [.str z] Ω=.ok (.bl true) az/\av [] Ω az:=by
 obtain⟨k,d0,d2,f,u,w,n⟩:=zE (Ω:=Ω) hz;obtain⟨j,r,P,c,x,o,s,y⟩:=rD (Ω:=f) (z:=z) (by omega)
 obtain⟨h,A,p⟩:=wC c (.ref j) (.ref k) (Am (by omega) s (n.keep o))
 obtain⟨g,B,q,C⟩:=FP (Ω:=h) (by omega) (o.trans p).len (o.trans p) n (s.keep p) y
 have E:=FQ (Ω:=g) (by omega) (n.keep q).at' C
 obtain⟨l,Q,R,i,F,t,G,_⟩:=rD (Ω:=g) (z:=z) (by omega)
 obtain⟨m,H,I⟩:=wC i (.ref l) (.ref k) (Am (by omega) G (n.keep (q.trans t)))
 refine⟨m,?_,w.trans ((q.trans t).trans I)⟩
 show cQ 3 1 Hf [.str z] Ω=_
 have r:ba 3 [D.str z]=[oS z,none,none]:=rfl;rw[bH (by rfl),r]
 unfold Hf;have J:(mN (aB Hd) (aa (ab 0) ag)) [oS z,none,none] Ω=.ok (.ref k) f:=bR (e:=ab 0) (d:=.str z) rfl u;have K:(mN (aB Cb) (aa (ab 0) ag)) [oS z,oR k,none] f=.ok (.ref j) c:=bR (e:=ab 0) (d:=.str z) rfl x;have L:(mN (aB wR) (aa (ab 2) (aa (ab 1) ag))) [oS z,oR k,oR j] c=.ok (.bl true) h:=call2 (a:=.ref j) (b:=.ref k) rfl rfl A;have M:(mN (aB Cb) (aa (ab 0) ag)) [oS z,oR k,oR j] g=.ok (.ref l) i:=bR (e:=ab 0) (d:=.str z) rfl F;have N:(mN (aB wR) (aa (mN (aB Cb) (aa (ab 0) ag)) (aa (ab 1) ag))) [oS z,oR k,oR j] g=.ok (.bl true) m:=call2 (a:=.ref l) (b:=.ref k) M rfl H;rw[ah,aN,J,aJ,aC]
 show bW ((aj _ _) [oS z,oR k,none] f)=_
 rw[ah,aN,K,aJ,aC]
 show bW ((aj _ _) [oS z,oR k,oR j] c)=_
 have O:(dN (dP (mN (aB wR) (aa (ab 2) (aa (ab 1) ag)))) (aj (bf (ae (.bl false))) ak) ak) [oS z,oR k,oR j] c=.nx [oS z,oR k,oR j] h:=by
  rw[bp,dS,L];rfl
 rw[ah,O,aC,ah,B,aC,ah,E,aC,ah,br,N];rfl
end
section
variable{Ω az aM cR zH:aE}{z x:Str}{ρ:aR}{i k j:Nat}{xs ys:List Str}{d e:D}{μ:Int->Int->Int->Int}{c t m r:Int}{mt mm mi:EM}
theorem wI(a:cU μ F0)(b:ρ[i]?=some (some (.int c)))(d:mt ρ Ω=.ok (.int t) Ω)(e:mm ρ Ω=.ok (.int m) Ω)(f:0<=t)(g:t<100000)(h:0<m) :
  (mN (bS F0) (aa (ab i) (aa mt (aa mm ag)))) ρ Ω=.ok (.int (μ c t m)) Ω:=by
 rw[bt,ai,bN,b,cz,af,ai,d,af,ai,e,af,bj,af,af,af,af]
 show dG Ω (F0 [.int c,.int t,.int m])=_
 rw[(a c t m f g h).2.2];rfl
theorem jW(a:cU μ F0)(b:ρ[i]?=some (some (.int c)))(d:0<=t)(e:t<100000)(f:0<m) :
  (mN (bS F0) (aa (ab i) (aa (ae (.int t)) (aa (ae (.int m)) ag)))) ρ Ω=.ok (.int (μ c t m)) Ω:=wI a b rfl rfl d e f
theorem mx{α:Type}{ds:List α}(b:0<=r)(c:r<ds.length):∃d,L2.fW ds r=some d/\d∈ds:=by
 have a:r.toNat<ds.length:=by omega
 refine⟨ds[r.toNat],?_,List.getElem_mem a⟩;unfold L2.fW L2.oo;rw[if_pos b,if_pos c];exact List.getElem?_eq_getElem a
theorem pick{as:AM}{ds:List D}(a:as ρ Ω=.ok ds Ω)(h:ds.length<=1000)(b:∀Ω,mi ρ Ω=.ok (.int r) Ω)(c:0<=r)(e:r<ds.length):∃d∈ds,(m2 aA (mN b9 as) mi) ρ Ω=.ok d (Ω++[.lst ds]):=by
 obtain⟨d,f,g⟩:=mx c e;refine⟨d,g,?_⟩;rw[aX,bt,a,af,zk,if_pos (bz (by omega)),af,b,af]
 exact cC aF f
theorem Cr{a b:Str}(h:a.length+b.length<=90000):ax .Add (.str a) (.str b) Ω=.ok (.str (a++b)) Ω:=by
 show gd aq.bad (gd aq.bad (dG Ω (if small (a.length+b.length)=true then Out.ok (false,D.str (a++b))else .bad)))=_
 rw[if_pos (bz (by omega))]
 rfl
theorem cG{c d:EM}{a b:Str}(e:c ρ Ω=.ok (.str a) Ω)(f:d ρ Ω=.ok (.str b) Ω)(h:a.length+b.length<=90000):(m2 (ax .Add) c d) ρ Ω=.ok (.str (a++b)) Ω:=by
 rw[aX,e,af,f,af,Cr h]
theorem wJ{a b:Int}(h:0<b):ax .Mod (.int a) (.int b) Ω=.ok (.int (a%b)) Ω:=by
 show dG Ω (if decide (0<b)=true then Out.ok (false,D.int (a%b))else .bad)=_
 rw[if_pos (decide_eq_true h)];rfl
theorem An{z:Str}(hz:z.length<=100)(a:0<=r)(b:r<z.length):∃c:Nat,aA (.str z) (.int r) Ω=.ok (.str (aD c)) Ω:=by
 have d:z.cps.toList.length=z.length:=bX z;obtain⟨c,e,_⟩:=mx (ds:=z.cps.toList) a (by rw[d];exact b)
 refine⟨c,?_⟩
 show gd (ixs Ω none (.int r)) (gd aq.bad (dG Ω (if small z.length=true then (match L2.fW z.cps.toList r with|some c=>Out.ok (false,D.str (aD c))|none=>.bad)else .bad)))=_
 rw[if_pos (bz (by omega)),e]
 rfl
theorem rG{ds es:List D}(a:Ω[j]?=some (.lst ds))(b:Ω[k]?=some (.lst es))(c:ds.length+es.length<=1000):ax .Add (.ref j) (.ref k) Ω=.ok (.ref Ω.length) (Ω++[.lst (ds++es)]):=by
 show gd (lA _ _ _) _=_
 unfold lA;rw[bg a,bg b];dsimp only;rw[if_pos (bz (by omega))]
 rfl
theorem jX(w:Str):∀ps:List Str,(Str.join w ps).length<=(ps.map (·.length)).sum+ps.length*w.length
 |[]=>by simp[Str.join];rfl
 |[a]=>by show a.length<=_;simp
 |a::b::r=>by
  have c:=jX w (b::r)
  show(a++w++Str.join w (b::r)).length<=_
  rw[Str.length_append,Str.length_append];simp only[List.map_cons,List.sum_cons,List.length_cons,Nat.add_mul]at c ⊢;omega
theorem zI{n:Int}(b:0<=n)(c:n<10 ^ 60):1<=(Str.ofString (toString n)).length/\(Str.ofString (toString n)).length<=60/\n.natAbs.log2<1920:=by
 obtain⟨m,rfl⟩:=Int.eq_ofNat_of_zero_le b
 have d:(Str.ofString (toString ((m:Nat):Int))).length=(Nat.toDigits 10 m).length:=by
  rw[←bX,PySem.W.KIN.signs_num,List.length_map]
 have a:m<10 ^ 60:=by exact_mod_cast c
 rw[d];refine⟨tDigits_len_ge 10 m,digits10_le (by omega) a,?_⟩
 show m.log2<1920
 rcases Nat.eq_zero_or_pos m with rfl|hp
 .decide
 .refine(Nat.log2_lt (by omega)).mpr (Nat.lt_of_lt_of_le a ?_)
  exact(by decide +kernel:(10:Nat) ^ 60<=2 ^ 1920)
end
section
variable{Ω az aM cR zH:aE}{z x:Str}{ρ:aR}{i k j:Nat}{xs ys:List Str}{d e:D}{μ:Int->Int->Int->Int}{c t m r:Int}{mt mm mi:EM}
theorem Ct:∃a,cU a F0:=zt
theorem FR(a:cU μ F0):Ai G9:=B_ a
theorem kN{ds:List D}(d:ρ[i]?=some (oR k))(e:Ω[k]?=some (.lst ds))(f:∀Ω,mi ρ Ω=.ok (.int r) Ω)(g:0<=r):(bL (ab i) true (ae .non) false mi) ρ Ω=.ok (.ref Ω.length) (Ω++[.lst (ds.take r.toNat)]):=by
 have j:bZ ds none (some r)=ds.take r.toNat:=by
  obtain⟨n,rfl⟩:=Int.eq_ofNat_of_zero_le g
  have:HT.fj ds.length ds.length (some (n:Int))=min n ds.length:=by
   unfold HT.fj;simp;try omega
  unfold bZ;rw[this,wo,List.drop_zero,Nat.sub_zero,Int.toNat_natCast];rcases Nat.le_total n ds.length with h|h
  .rw[Nat.min_eq_left h]
  .rw[Nat.min_eq_right h,List.take_of_length_le (Nat.le_refl _),List.take_of_length_le h]
 show((ab i ρ Ω).bind λx a=>(d_ true (ae .non) ρ a).bind λl b=>(d_ false mi ρ b).bind λh c=>ip x l h c)=_
 rw[bN,d,cz,af];have m:d_ true (ae .non) ρ Ω=.ok none Ω:=rfl
 have o:d_ false mi ρ Ω=.ok (some r) Ω:=by
  show((mi ρ Ω).bind _:aq (Option Int))=_
  rw[f,af]
 rw[m,af,o,af];unfold ip;rw[bg e]
 show fk Ω (.lst (bZ ds none (some r)))=_
 rw[j];rfl
theorem jY(n:Nat)(xs:List Str):(xs.map D.str).take n=(xs.take n).map .str:=by rw[List.map_take]
theorem Ao{B:Nat}(h:∀x∈xs,x.length<=B):(xs.map (·.length)).sum<=xs.length*B:=StrLaws.sumLen_le xs h
theorem zJ(a:cU μ F0)(d:∀x∈xs,x≠""/\x.length<=8)(l:xs.length=6)(f:Ω[k]?=some (.lst (xs.map .str)))(g:ρ[0]?=some (some (.int c)))(i:ρ[1]?=some (oR k)) :
  ∃z az,(bx cp dM (ae (.str ",")) (aa (bL (ab 1) true (ae .non) false (mN (bS F0) (aa (ab 0) (aa (ae (.int 12)) (aa (ae (.int 6)) ag))))) ag)) ρ Ω=.ok (.str z) az/\av [] Ω az/\z.length<=54:=by
 have j:=a c 12 6 (by omega) (by omega) (by omega)
 have b:=kN (mi:=(mN (bS F0) (aa (ab 0) (aa (ae (.int 12)) (aa (ae (.int 6)) ag))))) i f (λΩ=>jW (Ω:=Ω) a g (by omega) (by omega) (by omega)) j.1
 rw[jY]at b;have m:(xs.take (μ c 12 6).toNat).length<=6:=by rw[List.length_take];omega
 have n:((xs.take (μ c 12 6).toNat).map (·.length)).sum<=(xs.take (μ c 12 6).toNat).length*8:=Ao λx h=>(d x (List.mem_of_mem_take h)).2
 refine⟨Str.join "," (xs.take (μ c 12 6).toNat),Ω++[.lst ((xs.take (μ c 12 6).toNat).map .str)],?_,av.app,?_⟩
 .rw[hP (x:=.str ",") (az:=Ω) rfl rfl,ai,b,af,bj,af,af]
  exact hU (by decide) (.inr ⟨_,rfl,aF⟩) (by omega)
 .have:=jX "," (xs.take (μ c 12 6).toNat)
  have e:(",":Str).length=1:=rfl;rw[e]at this;omega
theorem Cu(a:cU μ F0)(k:ρ[0]?=some (some (.int c))):∃(f:Int) (az:aE),(m2 aA (mN b9 (aa (ae (.int 10)) (aa (ae (.int 1000)) (aa (m2 (ax .Pow) (ae (.int 10)) (ae (.int 30))) (aa (m2 (ax .Pow) (ae (.int 10)) (ae (.int 60))) ag))))) (mN (bS F0) (aa (ab 0) (aa (ae (.int 13)) (aa (ae (.int 4)) ag))))) ρ Ω=.ok (.int f) az/\av [] Ω az/\0<f/\f<=10 ^ 60:=by
 have g:=a c 13 4 (by omega) (by omega) (by omega)
 have i:∀n:Int,0<=n->n<=1000->ax .Pow (.int 10) (.int n) Ω=.ok (.int (10 ^ n.toNat)) Ω:=λn b e=>by
  show dG Ω (if (decide (0<=n)&&decide (n<=1000)&&decide ((10:Int).natAbs<2 ^ 64))=true then Out.ok (false,D.int (10 ^ n.toNat))else .bad)=_
  rw[if_pos (by simp[b,e])]
  rfl
 have l:(aa (ae (.int 10)) (aa (ae (.int 1000)) (aa (m2 (ax .Pow) (ae (.int 10)) (ae (.int 30))) (aa (m2 (ax .Pow) (ae (.int 10)) (ae (.int 60))) ag)))) ρ Ω=.ok [.int 10,.int 1000,.int (10 ^ 30),.int (10 ^ 60)] Ω:=by
  have m:(m2 (ax .Pow) (ae (.int 10)) (ae (.int 30))) ρ Ω=.ok (.int (10 ^ 30)) Ω:=i 30 (by omega) (by omega)
  have o:(m2 (ax .Pow) (ae (.int 10)) (ae (.int 60))) ρ Ω=.ok (.int (10 ^ 60)) Ω:=i 60 (by omega) (by omega)
  rw[ai,aO,af,ai,aO,af,ai,m,af,ai,o];rfl
 obtain⟨d,j,h⟩:=pick (mi:=(mN (bS F0) (aa (ab 0) (aa (ae (.int 13)) (aa (ae (.int 4)) ag))))) l (by simp) (λΩ=>jW (Ω:=Ω) a k (by omega) (by omega) (by omega)) g.1 g.2.1
 have:∃f:Int,d=.int f/\0<f/\f<=10 ^ 60:=by
  simp only[List.mem_cons,List.not_mem_nil,or_false]at j;rcases j with rfl|rfl|rfl|rfl
  .exact⟨_,rfl,by decide,by decide⟩
  .exact⟨_,rfl,by decide,by decide⟩
  .exact⟨_,rfl,by decide,by decide⟩
  .exact⟨_,rfl,by decide,by decide⟩
 obtain⟨f,rfl,b,e⟩:=this;exact⟨f,_,h,av.app,b,e⟩
theorem Cv(a:cU μ F0){f:Int}(l:Builtin.Int.intBits c<=2 ^ 20)(b:0<f)(g:ρ[0]?=some (some (.int c)))(m:ρ[3]?=some (some (.int f))):∃(n:Int) (az:aE),(m2 aA (mN b9 (aa (m2 (ax .Mod) (m2 (ax .FloorDiv) (ab 0) (ae (.int 2))) (ab 3)) (aa (ae (.int 0)) (aa (m2 (ax .Sub) (ab 3) (ae (.int 1))) (aa (m2 (ax .Mod) (m2 kf (ab 0) (m2 (ax .Pow) (ae (.int 982451653)) (ae (.int 7)))) (ab 3)) ag))))) (mN (bS F0) (aa (ab 0) (aa (ae (.int 14)) (aa (ae (.int 4)) ag))))) ρ Ω=.ok (.int n) az/\av [] Ω az/\0<=n/\n<f:=by
 have i:=a c 14 4 (by omega) (by omega) (by omega)
 have j:(ab 0) ρ Ω=.ok (.int c) Ω:=by rw[bN,g,cz]
 have e:(ab 3) ρ Ω=.ok (.int f) Ω:=by rw[bN,m,cz]
 have o:(m2 (ax .Mod) (m2 (ax .FloorDiv) (ab 0) (ae (.int 2))) (ab 3)) ρ Ω=.ok (.int (c / 2%f)) Ω:=by
  have q:(m2 (ax .FloorDiv) (ab 0) (ae (.int 2))) ρ Ω=.ok (.int (c / 2)) Ω:=by
   rw[aX,j,af,aO,af];rfl
  rw[aX,q,af,e,af,wJ b]
 have p:(m2 (ax .Sub) (ab 3) (ae (.int 1))) ρ Ω=.ok (.int (f - 1)) Ω:=by
  rw[aX,e,af,aO,af];rfl
 have r:(m2 (ax .Mod) (m2 kf (ab 0) (m2 (ax .Pow) (ae (.int 982451653)) (ae (.int 7)))) (ab 3)) ρ Ω=.ok (.int (c*982451653 ^ 7%f)) Ω:=by
  have s:(m2 (ax .Pow) (ae (.int 982451653)) (ae (.int 7))) ρ Ω=.ok (.int (982451653 ^ 7)) Ω:=by
   rw[aX,aO,af,aO,af]
   show dG Ω (if (decide ((0:Int)<=7)&&decide ((7:Int)<=1000)&&decide ((982451653:Int).natAbs<2 ^ 64))=true then Out.ok (false,D.int (982451653 ^ (7:Int).toNat))else .bad)=_
   rw[if_pos (by decide)]
   rfl
  have q:(m2 kf (ab 0) (m2 (ax .Pow) (ae (.int 982451653)) (ae (.int 7)))) ρ Ω=.ok (.int (c*982451653 ^ 7)) Ω:=by
   rw[aX,j,af,s,af]
   show(if Builtin.Int.intBits c<=2 ^ 20/\Builtin.Int.intBits (982451653 ^ 7)<=2 ^ 20 then (aq.ok (D.int (c*982451653 ^ 7)) Ω:aq D)else .bad)=_
   exact if_pos ⟨l,by decide +kernel⟩
  rw[aX,q,af,e,af,wJ b]
 have t:(aa (m2 (ax .Mod) (m2 (ax .FloorDiv) (ab 0) (ae (.int 2))) (ab 3)) (aa (ae (.int 0)) (aa (m2 (ax .Sub) (ab 3) (ae (.int 1))) (aa (m2 (ax .Mod) (m2 kf (ab 0) (m2 (ax .Pow) (ae (.int 982451653)) (ae (.int 7)))) (ab 3)) ag)))) ρ Ω=.ok [.int (c / 2%f),.int 0,.int (f - 1),.int (c*982451653 ^ 7%f)] Ω:=by
  rw[ai,o,af,ai,aO,af,ai,p,af,ai,r];rfl
 obtain⟨d,k,h⟩:=pick (mi:=(mN (bS F0) (aa (ab 0) (aa (ae (.int 14)) (aa (ae (.int 4)) ag))))) t (by simp) (λΩ=>jW (Ω:=Ω) a g (by omega) (by omega) (by omega)) i.1 i.2.1
 have:∃n:Int,d=.int n/\0<=n/\n<f:=by
  simp only[List.mem_cons,List.not_mem_nil,or_false]at k;rcases k with rfl|rfl|rfl|rfl
  .exact⟨_,rfl,Int.emod_nonneg _ (by omega),Int.emod_lt_of_pos _ b⟩
  .exact⟨_,rfl,by omega,b⟩
  .exact⟨_,rfl,by omega,by omega⟩
  .exact⟨_,rfl,Int.emod_nonneg _ (by omega),Int.emod_lt_of_pos _ b⟩
 obtain⟨n,rfl,u,w⟩:=this;exact⟨n,_,h,av.app,u,w⟩
end
section
variable{Ω az aM cR zH:aE}{z x:Str}{ρ:aR}{i k j:Nat}{xs ys:List Str}{d e:D}{μ:Int->Int->Int->Int}{c t m r:Int}{mt mm mi:EM}
theorem FT{a b:Int}:aw .Eq (.int a) (.int b) Ω=.ok (.bl (decide (a=b))) Ω:=by
 by_cases h:a=b<;>simp[bY,aK,dn,h]
theorem zK(e:cU μ F0){n:Int}(i:ρ[0]?=some (some (.int c)))(j:ρ[4]?=some (some (.int n))):∃(z:Str) (az:aE),Mb ρ Ω=.ok (.str z) az/\av [] Ω az/\z.length<=1:=by
 have f:∃b:Bool,∀Ω,zw ρ Ω=.ok (.bl b) Ω:=by
  have g:∀Ω,(m2 (aw .Eq) (mN (bS F0) (aa (ab 0) (aa (ae (.int 15)) (aa (ae (.int 2)) ag)))) (ae (.int 1))) ρ Ω=.ok (.bl (decide (μ c 15 2=1))) Ω:=λΩ=>by
   rw[aX,jW (Ω:=Ω) e i (by omega) (by omega) (by omega),af,aO,af,FT]
  have k:∀Ω,(m2 (aw .Gt) (ab 4) (ae (.int 0))) ρ Ω=.ok (.bl (decide (0<n))) Ω:=λΩ=>by
   rw[aX,bN,j,cz,af,aO,af];simp[bY]
  cases a:decide (μ c 15 2=1)with
  |false=>exact⟨false,λΩ=>by unfold zw;rw[bE,g,a,af,ay,df]⟩
  |true=>exact⟨decide (0<n),λΩ=>by unfold zw;rw[bE,g,a,af,ay,cj,k]⟩
 obtain⟨b,f⟩:=f
 have l:∀Ω,(eH (mN (aH .int) (aa zw ag)) (mN eN (aa zw ag))) ρ Ω=.ok (.int (if b then 1 else 0)) Ω:=λΩ=>by
  rw[lV,bt,ai,f,af,bj,af,af];cases b<;>rfl
 obtain⟨d,a,h⟩:=pick (Ω:=Ω) (ρ:=ρ) (as:=(aa (ae (.str "")) (aa (ae (.str "-")) ag))) (ds:=[.str "",.str "-"]) (mi:=(eH (mN (aH .int) (aa zw ag)) (mN eN (aa zw ag)))) (r:=if b then 1 else 0) rfl (by simp) l (by cases b<;>decide) (by cases b<;>decide)
 have:∃z:Str,d=.str z/\z.length<=1:=by
  simp only[List.mem_cons,List.not_mem_nil,or_false]at a;rcases a with rfl|rfl
  .exact⟨_,rfl,by decide⟩
  .exact⟨_,rfl,by decide⟩
 obtain⟨z,rfl,m⟩:=this;exact⟨z,_,h,av.app,m⟩
theorem len_one(c:Nat):(aD c).length=1:=rfl
theorem Ap(a:cU μ F0){w:Str}{n:Int}(h:ρ[0]?=some (some (.int c)))(l:(w.length:Int)=n)(i:w.length<=100)(e:0<n)(b:0<=t)(d:t<100000):∃q:Nat,∀Ω,(m2 aA (ae (.str w)) (mN (bS F0) (aa (ab 0) (aa (ae (.int t)) (aa (ae (.int n)) ag))))) ρ Ω=.ok (.str (aD q)) Ω:=by
 have f:=a c t n b d e
 have:∃q:Nat,∀Ω,aA (.str w) (.int (μ c t n)) Ω=.ok (.str (aD q)) Ω:=by
  obtain⟨q,g⟩:=An (Ω:=[]) (z:=w) (r:=μ c t n) i f.1 (by omega)
  have j:w.cps.toList.length=w.length:=bX w;obtain⟨q,k,_⟩:=mx (ds:=w.cps.toList) (r:=μ c t n) f.1 (by rw[j];omega)
  refine⟨q,λΩ=>?_⟩
  show gd (ixs Ω none (.int (μ c t n))) (gd aq.bad (dG Ω (if small w.length=true then (match L2.fW w.cps.toList (μ c t n)with|some c=>Out.ok (false,D.str (aD c))|none=>.bad)else .bad)))=_
  rw[if_pos (bz (by omega)),k]
  rfl
 obtain⟨q,g⟩:=this;refine⟨q,λΩ=>?_⟩
 rw[aX,aO,af,jW (Ω:=Ω) a h b d e,af,g]
theorem wK(f:cU μ F0){x5:Str}(s:ρ[0]?=some (some (.int c)))(t:(m2 aA (ab 1) (ae (.int 5))) ρ Ω=.ok (.str x5) Ω)(g:x5.length<=8):∃(z:Str) (az:aE),JP ρ Ω=.ok (.str z) az/\av [] Ω az/\z.length<=8:=by
 have i:=f c 17 4 (by omega) (by omega) (by omega)
 have j:(mN b9 (aa (m2 aA (ab 1) (ae (.int 5))) ag)) ρ Ω=.ok (.ref Ω.length) (Ω++[.lst [.str x5]]):=by
  rw[bt,ai,t,af,bj,af,af];rfl
 have k:(Ω++[Cell.lst [D.str x5]])[Ω.length]?=some (.lst [.str x5]):=aF;have l:av [] Ω (Ω++[Cell.lst [D.str x5]]):=av.app;generalize Ω++[Cell.lst [D.str x5]]=a at j k l
 have m:kf (.ref Ω.length) (.int 3) a=.ok (.ref a.length) (a++[.lst [.str x5,.str x5,.str x5]]):=by
  show(match pb a (.ref Ω.length)with|some (_,ds)=>if (0:Int)<=3/\(3:Int)<=1000/\ds.length<=100 then fk a (.lst (List.replicate (3:Int).toNat ds).flatten)else .bad|none=>.bad)=_
  rw[lX k];rfl
 have n:(a++[Cell.lst [D.str x5,.str x5,.str x5]])[a.length]?=some (.lst [.str x5,.str x5,.str x5]):=aF;have o:av [] a (a++[Cell.lst [D.str x5,.str x5,.str x5]]):=av.app;generalize a++[Cell.lst [D.str x5,.str x5,.str x5]]=b at m n o;have p:(mN b9 (aa (ae (.str "-")) ag)) ρ b=.ok (.ref b.length) (b++[.lst [.str "-"]]):=rfl;have q:(b++[Cell.lst [D.str "-"]])[b.length]?=some (.lst [.str "-"]):=aF;have h:av [] b (b++[Cell.lst [D.str "-"]]):=av.app;generalize b++[Cell.lst [D.str "-"]]=e at p q h;have u:=rG (h.get _ _ n (by simp)) q (by simp)
 have w:(e++[Cell.lst ([D.str x5,.str x5,.str x5]++[.str "-"])])[e.length]?=some (.lst ([D.str x5,.str x5,.str x5]++[.str "-"])):=aF;obtain⟨d,x,r⟩:=mx (ds:=[D.str x5,.str x5,.str x5]++[D.str "-"]) i.1 (by show μ c 17 4<4;exact i.2.1)
 have:∃z:Str,d=.str z/\z.length<=8:=by
  simp only[List.cons_append,List.nil_append,List.mem_cons,List.not_mem_nil,or_false]at r;rcases r with rfl|rfl|rfl|rfl
  .exact⟨_,rfl,g⟩
  .exact⟨_,rfl,g⟩
  .exact⟨_,rfl,g⟩
  .exact⟨_,rfl,by decide⟩
 obtain⟨z,rfl,y⟩:=this;refine⟨z,e++[.lst ([D.str x5,.str x5,.str x5]++[.str "-"])],?_,(l.trans o).trans (h.trans av.app),y⟩;unfold JP;rw[aX,aX,aX,j,af,aO,af,m,af,p,af,u,af,jW f s (by omega) (by omega) (by omega),af]
 exact cC w x
end
section
variable{Ω az aM cR zH:aE}{z x:Str}{ρ:aR}{i k j:Nat}{xs ys:List Str}{d e:D}{μ:Int->Int->Int->Int}{c t m r:Int}{mt mm mi:EM}
theorem six(h:xs.length=6):∃a b c d e f,xs=[a,b,c,d,e,f]:=by
 match xs,h with
 |[a,b,c,d,e,f],_=>exact⟨a,b,c,d,e,f,rfl⟩
theorem la(a b:Str):(a++b).length=a.length+b.length:=Str.length_append a b
theorem wL(m:cU μ F0)(hb:Builtin.Int.intBits c<=2 ^ 20):∃(N:List Str) (k:Nat) (az:aE),Hh [.int c] Ω=.ok (.ref k) az/\av [] Ω az/\az[k]?=some (.lst (N.map .str))/\N.length=5/\∀w∈N,1<=w.length/\w.length<=200:=by
 obtain⟨xs,q,aM,⟨_,G⟩,h6,n1,g1,K1⟩:=FR m Ω c 6 (by omega) (by omega)
 obtain⟨x0,x1,o,r,s,x5,rfl⟩:=six h6;have l2:o.length<=8:=(G o (by simp)).2
 have l3:r.length<=8:=(G r (by simp)).2
 have l4:s.length<=8:=(G s (by simp)).2
 have l5:x5.length<=8:=(G x5 (by simp)).2
 show ∃(N:List Str) (k:Nat) (az:aE),cQ 9 1 Hg [.int c] Ω=_/\_
 have e0:ba 9 [D.int c]=[oI c,none,none,none,none,none,none,none,none]:=rfl;rw[bH (by rfl),e0]
 unfold Hg;have c1:(mN (aB G9) (aa (ab 0) (aa (ae (.int 6)) ag))) [oI c,none,none,none,none,none,none,none,none] Ω=.ok (.ref q) aM:=call2 (a:=.int c) (b:=.int 6) (aM:=Ω) (cR:=Ω) rfl rfl n1;obtain⟨A,cR,c2,K2,O⟩:=zJ (Ω:=aM) (ρ:=[oI c,oR q,none,none,none,none,none,none,none]) m G h6 g1 rfl rfl
 have P:∃z:Str,(dN (m2 (aw .Eq) (ab 2) (ae (.str ""))) (aj (aT 2 (ae (.str "-"))) ak) ak) [oI c,oR q,oS A,none,none,none,none,none,none] cR=.nx [oI c,oR q,oS z,none,none,none,none,none,none] cR/\1<=z.length/\z.length<=54:=by
  have e1:(m2 (aw .Eq) (ab 2) (ae (.str ""))) [oI c,oR q,oS A,none,none,none,none,none,none] cR=.ok (.bl (decide (A=""))) cR:=dU A "";rw[bp,e1,aQ,ay,aP,aJ]
  by_cases h:A=""
  .rw[decide_eq_true h];exact⟨"-",rfl,by decide,by decide⟩
  .rw[decide_eq_false h]
   refine⟨A,rfl,?_,O⟩;rcases Nat.eq_zero_or_pos A.length with h1|h1
   .have h2:A.cps.toList=[]:=List.eq_nil_of_length_eq_zero (by rw[bX];exact h1)
    exact absurd (yZ (x:=A) (y:="") (h2.trans rfl)) h
   .exact h1
 obtain⟨z,P,c0,g0⟩:=P;obtain⟨f,H,c4,K3,Q,R⟩:=Cu (Ω:=cR) (ρ:=[oI c,oR q,oS z,none,none,none,none,none,none]) m rfl;obtain⟨n,I,c5,K4,S,T⟩:=Cv (Ω:=H) (ρ:=[oI c,oR q,oS z,oI f,none,none,none,none,none]) m hb Q rfl rfl;obtain⟨j,B,c6,K5,h0⟩:=zK (Ω:=I) (ρ:=[oI c,oR q,oS z,oI f,oI n,none,none,none,none]) m rfl rfl;obtain⟨u,c7⟩:=Ap (ρ:=[oI c,oR q,oS z,oI f,oI n,oS j,none,none,none]) (w:="012?") (n:=4) (t:=16) m rfl rfl (by decide) (by omega) (by omega) (by omega)
 have J:B[q]?=some (.lst ([x0,x1,o,r,s,x5].map .str)):=K5.get _ _ (K4.get _ _ (K3.get _ _ (K2.get _ _ g1 (by simp)) (by simp)) (by simp)) (by simp)
 obtain⟨l,e,c8,K6,i0⟩:=wK (Ω:=B) (ρ:=[oI c,oR q,oS z,oI f,oI n,oS j,oS (aD u),none,none]) m (x5:=x5) rfl (gP (i:=1) (n:=5) (d:=.str x5) rfl J rfl) l5;have F:=K6.get _ _ J (by simp)
 obtain⟨U,V,X⟩:=zI S (Int.lt_of_lt_of_le T R);generalize Y:Str.ofString (toString n)=C at U V;have i2:∀E,(m2 aA (ab 1) (ae (.int 2))) [oI c,oR q,oS z,oI f,oI n,oS j,oS (aD u),oS l,E] e=.ok (.str o) e:=λE=>gP (i:=1) (n:=2) (d:=.str o) rfl F rfl
 have i3:∀E,(m2 aA (ab 1) (ae (.int 3))) [oI c,oR q,oS z,oI f,oI n,oS j,oS (aD u),oS l,E] e=.ok (.str r) e:=λE=>gP (i:=1) (n:=3) (d:=.str r) rfl F rfl
 have i4:∀E,(m2 aA (ab 1) (ae (.int 4))) [oI c,oR q,oS z,oI f,oI n,oS j,oS (aD u),oS l,E] e=.ok (.str s) e:=λE=>gP (i:=1) (n:=4) (d:=.str s) rfl F rfl
 have lu:(aD u).length=1:=len_one u;have d1:(":":Str).length=1:=rfl;have d2:(".":Str).length=1:=rfl;have d3:("=":Str).length=1:=rfl;have d4:(">":Str).length=1:=rfl
 have p1:(m2 (ax .Add) (ab 5) (mN kJ (aa (ab 4) ag))) [oI c,oR q,oS z,oI f,oI n,oS j,oS (aD u),oS l,none] e=.ok (.str (j++C)) e:=by
  refine cG (a:=j) (b:=C) rfl ?_ (by omega)
  show(if n.natAbs.log2<1920 then (aq.ok (D.str (Str.ofString (toString n))) e:aq D)else .bad)=_
  rw[if_pos X,Y]
 have p2:(m2 (ax .Add) (m2 (ax .Add) (m2 aA (ab 1) (ae (.int 4))) (ae (.str ":"))) (ab 2)) [oI c,oR q,oS z,oI f,oI n,oS j,oS (aD u),oS l,none] e=.ok (.str (s++":"++z)) e:=
  cG (cG (i4 none) rfl (by omega)) rfl (by rw[la];omega)
 have p3:(m2 (ax .Add) (m2 (ax .Add) (m2 (ax .Add) (m2 (ax .Add) (m2 aA (ab 1) (ae (.int 3))) (ae (.str "."))) (m2 aA (ab 1) (ae (.int 2)))) (ae (.str "="))) (ab 6)) [oI c,oR q,oS z,oI f,oI n,oS j,oS (aD u),oS l,none] e=.ok (.str (r++"."++o++"="++aD u)) e:=
  cG (cG (cG (cG (i3 none) rfl (by omega)) (i2 none) (by rw[la];omega)) rfl (by rw[la,la];omega)) rfl (by rw[la,la,la];omega)
 have Z:(mN b9 (aa (ab 2) (aa (m2 (ax .Add) (ab 5) (mN kJ (aa (ab 4) ag))) (aa (m2 (ax .Add) (m2 (ax .Add) (m2 aA (ab 1) (ae (.int 4))) (ae (.str ":"))) (ab 2)) (aa (m2 (ax .Add) (m2 (ax .Add) (m2 (ax .Add) (m2 (ax .Add) (m2 aA (ab 1) (ae (.int 3))) (ae (.str "."))) (m2 aA (ab 1) (ae (.int 2)))) (ae (.str "="))) (ab 6)) ag))))) [oI c,oR q,oS z,oI f,oI n,oS j,oS (aD u),oS l,none] e=.ok (.ref e.length) (e++[.lst ([z,j++C,s++":"++z,r++"."++o++"="++aD u].map .str)]):=by
  rw[bt,ai];rw[show(ab 2) [oI c,oR q,oS z,oI f,oI n,oS j,oS (aD u),oS l,none] e=.ok (.str z) e from rfl,af,ai,p1,af,ai,p2,af,ai,p3]
  rfl
 have g9:(e++[Cell.lst ([z,j++C,s++":"++z,r++"."++o++"="++aD u].map .str)])[e.length]?=some (.lst ([z,j++C,s++":"++z,r++"."++o++"="++aD u].map .str)):=aF;have K7:av [] e (e++[Cell.lst ([z,j++C,s++":"++z,r++"."++o++"="++aD u].map .str)]):=av.app;generalize e++[Cell.lst ([z,j++C,s++":"++z,r++"."++o++"="++aD u].map .str)]=g at Z g9 K7;generalize hp:e.length=p at Z g9;obtain⟨v,a0⟩:=Ap (ρ:=[oI c,oR q,oS z,oI f,oI n,oS j,oS (aD u),oS l,oR p]) (w:="012") (n:=3) (t:=18) m rfl rfl (by decide) (by omega) (by omega) (by omega)
 have lv:(aD v).length=1:=len_one v
 have p4:(m2 (ax .Add) (m2 (ax .Add) (m2 (ax .Add) (m2 (ax .Add) (ab 2) (ae (.str ">"))) (ab 7)) (ae (.str "="))) (m2 aA (ae (.str "012")) (mN (bS F0) (aa (ab 0) (aa (ae (.int 18)) (aa (ae (.int 3)) ag)))))) [oI c,oR q,oS z,oI f,oI n,oS j,oS (aD u),oS l,oR p] g=.ok (.str (z++">"++l++"="++aD v)) g:=
  cG (cG (cG (cG (a:=z) rfl rfl (by omega)) rfl (by rw[la];omega)) rfl (by rw[la,la];omega)) (a0 g) (by rw[la,la,la];omega)
 have K:(mN b9 (aa (m2 (ax .Add) (m2 (ax .Add) (m2 (ax .Add) (m2 (ax .Add) (ab 2) (ae (.str ">"))) (ab 7)) (ae (.str "="))) (m2 aA (ae (.str "012")) (mN (bS F0) (aa (ab 0) (aa (ae (.int 18)) (aa (ae (.int 3)) ag)))))) ag)) [oI c,oR q,oS z,oI f,oI n,oS j,oS (aD u),oS l,oR p] g=.ok (.ref g.length) (g++[.lst ([z++">"++l++"="++aD v].map .str)]):=by
  rw[bt,ai,p4];rfl
 have L:(g++[Cell.lst ([z++">"++l++"="++aD v].map .str)])[g.length]?=some (.lst ([z++">"++l++"="++aD v].map .str)):=aF;have K8:av [] g (g++[Cell.lst ([z++">"++l++"="++aD v].map .str)]):=av.app;generalize g++[Cell.lst ([z++">"++l++"="++aD v].map .str)]=M at K L K8;have b0:=rG (K8.get _ _ g9 (by simp)) L (by simp)
 refine⟨[z,j++C,s++":"++z,r++"."++o++"="++aD u,z++">"++l++"="++aD v],M.length,M++[.lst ([z,j++C,s++":"++z,r++"."++o++"="++aD u].map .str++[z++">"++l++"="++aD v].map .str)],?_,?_,aF,rfl,?_⟩
 .rw[ah,aN,c1,aJ,aC]
  show bW ((aj _ _) [oI c,oR q,none,none,none,none,none,none,none] aM)=_
  rw[ah,aN,c2,aJ,aC]
  show bW ((aj _ _) [oI c,oR q,oS A,none,none,none,none,none,none] cR)=_
  rw[ah,P,aC,ah,aN,c4,aJ,aC]
  show bW ((aj _ _) [oI c,oR q,oS z,oI f,none,none,none,none,none] H)=_
  rw[ah,aN,c5,aJ,aC]
  show bW ((aj _ _) [oI c,oR q,oS z,oI f,oI n,none,none,none,none] I)=_
  rw[ah,aN,c6,aJ,aC]
  show bW ((aj _ _) [oI c,oR q,oS z,oI f,oI n,oS j,none,none,none] B)=_
  rw[ah,aN,c7,aJ,aC]
  show bW ((aj _ _) [oI c,oR q,oS z,oI f,oI n,oS j,oS (aD u),none,none] B)=_
  rw[ah,aN,c8,aJ,aC]
  show bW ((aj _ _) [oI c,oR q,oS z,oI f,oI n,oS j,oS (aD u),oS l,none] e)=_
  rw[ah,aN,Z,aJ,aC]
  show bW ((aj _ _) [oI c,oR q,oS z,oI f,oI n,oS j,oS (aD u),oS l,oR p] g)=_
  have v8:(ab 8) [oI c,oR q,oS z,oI f,oI n,oS j,oS (aD u),oS l,oR p] g=.ok (.ref p) g:=rfl;rw[ah,br,aX,v8,af,K,af,b0];rfl
 .exact K1.trans (K2.trans (K3.trans (K4.trans (K5.trans (K6.trans (K7.trans (K8.trans av.app)))))))
 .intro w hw
  simp only[List.mem_cons,List.not_mem_nil,or_false]at hw;rcases hw with rfl|rfl|rfl|rfl|rfl<;>(try simp only[la])<;>omega
end
section
variable{Ω az aM cR zH:aE}{z x w:Str}{ρ:aR}{i k j:Nat}{xs ys ws:List Str}{d e:D}{μ:Int->Int->Int->Int}{c t m r:Int}{mt mm mi:EM}
theorem my{mi:IM}{src:Src}{b:SM}{ds:List D}(I:aR->aE->Prop)(f:mi ρ Ω=.ok src aM)(g:I ρ aM)(j:∀ρ Ω,I ρ Ω->f9 src Ω=some ds)
  (k:∀d∈ds,∀ρ Ω,I ρ Ω->∃c,de i d ρ=some c/\∃e cR,b c Ω=.nx e cR/\I e cR) (p:ds.length<=5000):∃a az,fo (de i) mi b ρ Ω=.nx a az/\I a az:=by
 rw[lZ,f,aJ]
 exact gH (ds:=ds) (λ_ ρ Ω=>I ρ Ω) (R:=λr=>∃a az,r=.nx a az/\I a az) (λ_ ρ Ω h=>j ρ Ω h) (λi d ρ Ω l h=>by
  obtain⟨c,m,e,cR,n,o⟩:=k d (List.mem_of_getElem? l) ρ Ω h;refine⟨c,m,?_⟩;rw[n];exact o) (λρ Ω h=>⟨ρ,Ω,rfl,h⟩) fuel 0 ρ aM (by unfold fuel;omega) (Nat.zero_le _) g
theorem lU(l:List Nat)(a b:Option Int):(bZ l a b).length<=l.length:=by
 unfold bZ;rw[List.length_take,List.length_drop];omega
def hd'(w:Str)(r:Int):Str:=⟨(bZ w.cps.toList none (some r)).toArray⟩
def tl'(w:Str)(r:Int):Str:=⟨(bZ w.cps.toList (some r) none).toArray⟩
theorem Cw:(hd' w r).length<=w.length:=by
 have:=lU w.cps.toList none (some r);rw[bX]at this;exact this
theorem wM:(tl' w r).length<=w.length:=by
 have:=lU w.cps.toList (some r) none;rw[bX]at this;exact this
theorem tF(f:cU μ F0)(Z:1<=w.length)(h2:w.length<=200)(h:0<=t)(L:t<1000):∃(n:List Str) (k:Nat) (az:aE),Hj [.str w,.int c,.int t] Ω=.ok (.ref k) az/\av [] Ω az/\az[k]?=some (.lst (n.map .str))/\n.length=8/\∀w∈n,w.length<=1900:=by
 show ∃(n:List Str) (k:Nat) (az:aE),cQ 7 3 Hi [.str w,.int c,.int t] Ω=_/\_
 have M:ba 7 [D.str w,.int c,.int t]=[oS w,oI c,oI t,none,none,none,none]:=rfl;rw[bH (by rfl),M]
 unfold Hi;generalize p:(Str.ofString "a0A9-,.:=>?+ 12_<;/\n\t~!`{")=e;have q:e.length=25:=by rw[←p];decide
 have m1:=f c t 25 h (by omega) (by omega)
 have s:(mN (aH .len) (aa (ab 3) ag)) [oS w,oI c,oI t,oS e,none,none,none] Ω=.ok (.int 25) Ω:=by
  have:=eS (Ω:=Ω) (x:=e) (by omega)
  rw[q]at this;exact this
 obtain⟨u,N⟩:=An (Ω:=Ω) (z:=e) (r:=μ c t 25) (by omega) m1.1 (by omega)
 have O:(m2 aA (ab 3) (mN (bS F0) (aa (ab 1) (aa (ab 2) (aa (mN (aH .len) (aa (ab 3) ag)) ag))))) [oS w,oI c,oI t,oS e,none,none,none] Ω=.ok (.str (aD u)) Ω:=by
  have P:=wI (Ω:=Ω) (ρ:=[oS w,oI c,oI t,oS e,none,none,none]) (i:=1) (c:=c) (t:=t) (m:=25) (mt:=ab 2) (mm:=(mN (aH .len) (aa (ab 3) ag))) f rfl rfl s h (by omega) (by omega)
  have o:(ab 3) [oS w,oI c,oI t,oS e,none,none,none] Ω=.ok (.str e) Ω:=rfl;rw[aX,o,af,P,af,N]
 have y:=f c (t+1) w.length (by omega) (by omega) (by omega)
 generalize Q:μ c (t+1) w.length=r at y
 have R:(mN (bS F0) (aa (ab 1) (aa (m2 (ax .Add) (ab 2) (ae (.int 1))) (aa (mN (aH .len) (aa (ab 0) ag)) ag)))) [oS w,oI c,oI t,oS e,oS (aD u),none,none] Ω=.ok (.int r) Ω:=by
  rw[←Q];exact wI (i:=1) f rfl rfl (eS (x:=w) (by omega)) (by omega) (by omega) (by omega)
 have F:(ab 5) [oS w,oI c,oI t,oS e,oS (aD u),oI r,none] Ω=.ok (.int r) Ω:=rfl;have A:(ab 4) [oS w,oI c,oI t,oS e,oS (aD u),oI r,none] Ω=.ok (.str (aD u)) Ω:=rfl;have S:(ab 0) [oS w,oI c,oI t,oS e,oS (aD u),oI r,none] Ω=.ok (.str w) Ω:=rfl;have B:(m2 (ax .Add) (ab 5) (ae (.int 1))) [oS w,oI c,oI t,oS e,oS (aD u),oI r,none] Ω=.ok (.int (r+1)) Ω:=rfl;have C:(bL (ab 0) true (ae .non) false (ab 5)) [oS w,oI c,oI t,oS e,oS (aD u),oI r,none] Ω=.ok (.str (hd' w r)) Ω:=og (i:=0) rfl (by omega) F
 have T:(bL (ab 0) false (ab 5) true (ae .non)) [oS w,oI c,oI t,oS e,oS (aD u),oI r,none] Ω=.ok (.str (tl' w r)) Ω:=fI (i:=0) rfl (by omega) F
 have j:(bL (ab 0) false (m2 (ax .Add) (ab 5) (ae (.int 1))) true (ae .non)) [oS w,oI c,oI t,oS e,oS (aD u),oI r,none] Ω=.ok (.str (tl' w (r+1))) Ω:=fI (i:=0) rfl (by omega) B
 have lh:=Cw (w:=w) (r:=r);have lt:=wM (w:=w) (r:=r);have U:=wM (w:=w) (r:=r+1);have lu:(aD u).length=1:=len_one u
 have G:(mN b9 (aa (m2 (ax .Add) (m2 (ax .Add) (bL (ab 0) true (ae .non) false (ab 5)) (ab 4)) (bL (ab 0) false (ab 5) true (ae .non))) (aa (m2 (ax .Add) (m2 (ax .Add) (bL (ab 0) true (ae .non) false (ab 5)) (ab 4)) (bL (ab 0) false (m2 (ax .Add) (ab 5) (ae (.int 1))) true (ae .non))) (aa (m2 (ax .Add) (bL (ab 0) true (ae .non) false (ab 5)) (bL (ab 0) false (m2 (ax .Add) (ab 5) (ae (.int 1))) true (ae .non))) (aa (m2 (ax .Add) (ab 0) (ab 4)) ag))))) [oS w,oI c,oI t,oS e,oS (aD u),oI r,none] Ω=.ok (.ref Ω.length) (Ω++[.lst ([hd' w r++aD u++tl' w r,hd' w r++aD u++tl' w (r+1),hd' w r++tl' w (r+1),w++aD u].map .str)]):=by
  rw[bt,ai,cG (cG C A (by omega)) T (by rw[la];omega),af,ai,cG (cG C A (by omega)) j (by rw[la];omega),af,ai,cG C j (by omega),af,ai,cG S A (by omega)]
  rfl
 have H:(Ω++[Cell.lst ([hd' w r++aD u++tl' w r,hd' w r++aD u++tl' w (r+1),hd' w r++tl' w (r+1),w++aD u].map .str)])[Ω.length]?=some (.lst ([hd' w r++aD u++tl' w r,hd' w r++aD u++tl' w (r+1),hd' w r++tl' w (r+1),w++aD u].map .str)):=aF;have I:av [] Ω (Ω++[Cell.lst ([hd' w r++aD u++tl' w r,hd' w r++aD u++tl' w (r+1),hd' w r++tl' w (r+1),w++aD u].map .str)]):=av.app;generalize Ω++[Cell.lst ([hd' w r++aD u++tl' w r,hd' w r++aD u++tl' w (r+1),hd' w r++tl' w (r+1),w++aD u].map .str)]=d at G H I;have dc:(",":Str).length=1:=rfl;have dz:("0":Str).length=1:=rfl;have g:(ab 0) [oS w,oI c,oI t,oS e,oS (aD u),oI r,oR Ω.length] d=.ok (.str w) d:=rfl;have V:(ab 4) [oS w,oI c,oI t,oS e,oS (aD u),oI r,oR Ω.length] d=.ok (.str (aD u)) d:=rfl
 have J:(mN b9 (aa (m2 (ax .Add) (ab 4) (ab 0)) (aa (m2 (ax .Add) (ab 0) (ab 0)) (aa (m2 (ax .Add) (m2 (ax .Add) (ab 0) (ae (.str ","))) (ab 0)) (aa (m2 (ax .Add) (ae (.str "0")) (ab 0)) ag))))) [oS w,oI c,oI t,oS e,oS (aD u),oI r,oR Ω.length] d=.ok (.ref d.length) (d++[.lst ([aD u++w,w++w,w++","++w,"0"++w].map .str)]):=by
  rw[bt,ai,cG V g (by omega),af,ai,cG g g (by omega),af,ai,cG (cG g (b:=",") rfl (by omega)) g (by rw[la];omega),af,ai,cG (a:="0") rfl g (by omega)]
  rfl
 have K:(d++[Cell.lst ([aD u++w,w++w,w++","++w,"0"++w].map .str)])[d.length]?=some (.lst ([aD u++w,w++w,w++","++w,"0"++w].map .str)):=aF;have E:av [] d (d++[Cell.lst ([aD u++w,w++w,w++","++w,"0"++w].map .str)]):=av.app;generalize d++[Cell.lst ([aD u++w,w++w,w++","++w,"0"++w].map .str)]=l at J K E;have X:=rG (E.get _ _ H (by simp)) K (by simp)
 refine⟨[hd' w r++aD u++tl' w r,hd' w r++aD u++tl' w (r+1),hd' w r++tl' w (r+1),w++aD u]++[aD u++w,w++w,w++","++w,"0"++w],l.length,l++[.lst ([hd' w r++aD u++tl' w r,hd' w r++aD u++tl' w (r+1),hd' w r++tl' w (r+1),w++aD u].map .str++[aD u++w,w++w,w++","++w,"0"++w].map .str)],?_,?_,?_,rfl,?_⟩
 .rw[ah,aN,aO,aJ,aC]
  show bW ((aj _ _) [oS w,oI c,oI t,oS e,none,none,none] Ω)=_
  rw[ah,aN,O,aJ,aC]
  show bW ((aj _ _) [oS w,oI c,oI t,oS e,oS (aD u),none,none] Ω)=_
  rw[ah,aN,R,aJ,aC]
  show bW ((aj _ _) [oS w,oI c,oI t,oS e,oS (aD u),oI r,none] Ω)=_
  rw[ah,aN,G,aJ,aC]
  show bW ((aj _ _) [oS w,oI c,oI t,oS e,oS (aD u),oI r,oR Ω.length] d)=_
  have Y:(ab 6) [oS w,oI c,oI t,oS e,oS (aD u),oI r,oR Ω.length] d=.ok (.ref Ω.length) d:=rfl;rw[ah,br,aX,Y,af,J,af,X];rfl
 .exact I.trans (E.trans av.app)
 .rw[List.map_append];exact aF
 .intro v o
  simp only[List.cons_append,List.nil_append,List.mem_cons,List.not_mem_nil,or_false]at o;rcases o with rfl|rfl|rfl|rfl|rfl|rfl|rfl|rfl<;>simp only[la]<;>omega
end
section
variable{Ω az aM cR zH:aE}{z x w:Str}{ρ:aR}{i k j:Nat}{xs ys ws:List Str}{d e:D}{μ:Int->Int->Int->Int}{c t m r:Int}{mt mm mi:EM}
theorem kO{e:EM}(a:e ρ Ω=.ok (.str x) Ω)(b:x.length<=4000):∃az,(mN (aH .tuple) (aa (bx cp bM e (aa (ae (.str " ")) ag)) ag)) ρ Ω=.ok (.tup ((Txt.split x " ").map .str)) az/\av [] Ω az:=by
 have c:=fJ (y:=" ") a b rfl;refine⟨Ω++[.lst ((Txt.split x " ").map .str)],?_,av.app⟩;rw[bt,ai,c,af,bj,af,af];exact fQ aF
theorem Cy(a:x.length<=4000):∃az,O1 [.str x] Ω=.ok (.tup ((Txt.split x " ").map .str)) az/\av [] Ω az:=by
 obtain⟨az,h,K⟩:=kO (Ω:=Ω) (ρ:=[oS x]) (e:=ab 0) rfl a;refine⟨az,?_,K⟩
 show cQ 1 1 d1 [.str x] Ω=_
 have b:ba 1 [D.str x]=[oS x]:=rfl;rw[bH (by rfl),b]
 unfold d1;rw[ah,br,h];rfl
theorem Cz{a0 a1 a2 a3 a5:Option D}(g:x.length<=4000):∃c az,Hk [a0,a1,a2,a3,oS x,a5] Ω=.nx [a0,a1,a2,a3,oS x,c] az/\av [] Ω az:=by
 obtain⟨aM,h,i⟩:=Cy (Ω:=Ω) g;have j:(mN (aB O1) (aa (ab 4) ag)) [a0,a1,a2,a3,oS x,a5] Ω=.ok (.tup ((Txt.split x " ").map .str)) aM:=bR (e:=ab 4) (d:=.str x) rfl h;obtain⟨f,k,l⟩:=kO (Ω:=aM) (ρ:=[a0,a1,a2,a3,oS x,some (.tup ((Txt.split x " ").map .str))]) (e:=ab 4) (x:=x) rfl g;have p:=split_len x " ";obtain⟨b,m,n⟩:=wC f (.tup ((Txt.split x " ").map .str)) (.tup ((Txt.split x " ").map .str)) (.inr (.inl ⟨_,_,rfl,rfl,by rw[List.length_map];omega,gM _⟩))
 have o:(mN (aB wR) (aa (ab 5) (aa (mN (aH .tuple) (aa (bx cp bM (ab 4) (aa (ae (.str " ")) ag)) ag)) ag))) [a0,a1,a2,a3,oS x,some (.tup ((Txt.split x " ").map .str))] aM=.ok (.bl true) b:=call2 (a:=.tup ((Txt.split x " ").map .str)) (aM:=aM) rfl k m;refine⟨some (.tup ((Txt.split x " ").map .str)),b,?_,i.trans (l.trans n)⟩;unfold Hk;rw[ah,aN,j,aJ,aC]
 show(aj _ _) [a0,a1,a2,a3,oS x,some (.tup ((Txt.split x " ").map .str))] aM=_
 rw[ah,bp,dS,o];rfl
theorem zL(j:cU μ F0)(E:Ω[k]?=some (.lst (ws.map .str)))(R:ws.length=5)(F:∀w∈ws,1<=w.length/\w.length<=200):∃az,Fs [.int c,.ref k] Ω=.ok (.bl true) az/\av [] Ω az:=by
 show ∃az,cQ 6 2 Hl [.int c,.ref k] Ω=_/\_
 have G:ba 6 [D.int c,.ref k]=[oI c,oR k,none,none,none,none]:=rfl;rw[bH (by rfl),G]
 unfold Hl;have H:=j c 19 6 (by omega) (by omega) (by omega)
 have u:=kN (Ω:=Ω) (ρ:=[oI c,oR k,none,none,none,none]) (i:=1) (mi:=(mN (bS F0) (aa (ab 0) (aa (ae (.int 19)) (aa (ae (.int 6)) ag))))) rfl E (λΩ=>jW (Ω:=Ω) j rfl (by omega) (by omega) (by omega)) H.1
 rw[jY]at u;have S:(ws.take (μ c 19 6).toNat).length<=5:=by rw[List.length_take];omega
 have T:((ws.take (μ c 19 6).toNat).map (·.length)).sum<=(ws.take (μ c 19 6).toNat).length*200:=Ao λx h=>(F x (List.mem_of_mem_take h)).2
 have A:=jX " " (ws.take (μ c 19 6).toNat);have I:(" ":Str).length=1:=rfl;rw[I]at A
 have m:∃az,(bx cp dM (ae (.str " ")) (aa (bL (ab 1) true (ae .non) false (mN (bS F0) (aa (ab 0) (aa (ae (.int 19)) (aa (ae (.int 6)) ag))))) ag)) [oI c,oR k,none,none,none,none] Ω=.ok (.str (Str.join " " (ws.take (μ c 19 6).toNat))) az/\av [] Ω az:=by
  refine⟨Ω++[.lst ((ws.take (μ c 19 6).toNat).map .str)],?_,av.app⟩;rw[hP (x:=.str " ") (az:=Ω) rfl rfl,ai,u,af,bj,af,af];exact hU (by decide) (.inr ⟨_,rfl,aF⟩) (by omega)
 obtain⟨aM,m,J⟩:=m;generalize Str.join " " (ws.take (μ c 19 6).toNat)=f at A m;have U:f.length<=1005:=by omega
 have L:(Txt.replace f " " "  ").length<=4000:=by
  have:=gC f 32 "  ";have e:("  ":Str).length=2:=rfl;rw[e]at this;have M:(Txt.replace f ⟨#[32]⟩ "  ").length<=4000:=by omega
  exact M
 have p:(mN b9 (aa (ab 2) (aa (m2 (ax .Add) (ab 2) (ae (.str " "))) (aa (m2 (ax .Add) (ae (.str " ")) (ab 2)) (aa (m1 (gz " " "  ") (ab 2)) ag))))) [oI c,oR k,oS f,none,none,none] aM=.ok (.ref aM.length) (aM++[.lst ([f,f++" "," "++f,Txt.replace f " " "  "].map .str)]):=by
  have v2:(ab 2) [oI c,oR k,oS f,none,none,none] aM=.ok (.str f) aM:=rfl;rw[bt,ai,v2,af,ai,cG v2 (b:=" ") rfl (by omega),af,ai,cG (a:=" ") rfl v2 (by omega),af,ai,mr (i:=2) (z:=f) rfl (by omega)]
  rfl
 have n:(aM++[Cell.lst ([f,f++" "," "++f,Txt.replace f " " "  "].map .str)])[aM.length]?=some (.lst ([f,f++" "," "++f,Txt.replace f " " "  "].map .str)):=aF;have B:av [] aM (aM++[Cell.lst ([f,f++" "," "++f,Txt.replace f " " "  "].map .str)]):=av.app;generalize aM++[Cell.lst ([f,f++" "," "++f,Txt.replace f " " "  "].map .str)]=g at p n B;generalize aM.length=l at p n
 obtain⟨N,az,O,⟨o,a5,rfl,q⟩⟩:=my (i:=4) (Ω:=g) (aM:=g) (ρ:=[oI c,oR k,oS f,oR l,none,none]) (mi:=cJ (ab 3)) (src:=.seq (.ref l)) (b:=Hk) (ds:=[f,f++" "," "++f,Txt.replace f " " "  "].map .str)
  (λρ Ω=>∃o a5,ρ=[oI c,oR k,oS f,oR l,o,a5]/\av [] g Ω) (by
   rw[gF]
   show srcOf g (.ref l)=_
   exact eR (ds:=[f,f++" "," "++f,Txt.replace f " " "  "].map .str) (by rw[cW,bg n])) ⟨none,none,rfl,av.refl⟩ (λρ Ω h=>by
   obtain⟨o,a5,rfl,K⟩:=h;rw[gG,cW,bg (K.get _ _ n (by simp))]) (λd P ρ Ω h=>by
   obtain⟨o,a5,rfl,K⟩:=h;obtain⟨y,C,rfl⟩:=List.mem_map.mp P
   have r:y.length<=4000:=by
    simp only[List.mem_cons,List.not_mem_nil,or_false]at C;rcases C with rfl|rfl|rfl|rfl
    .omega
    .rw[la];omega
    .rw[la];omega
    .exact L
   obtain⟨s,t,Q,q⟩:=Cz (Ω:=Ω) (a0:=oI c) (a1:=oR k) (a2:=oS f) (a3:=oR l) (a5:=a5) r;exact⟨_,rfl,_,t,Q,oS y,s,rfl,K.trans q⟩) (by simp)
 refine⟨az,?_,J.trans (B.trans q)⟩;rw[ah,aN,m,aJ,aC]
 show bW ((aj _ _) [oI c,oR k,oS f,none,none,none] aM)=_
 rw[ah,aN,p,aJ,aC]
 show bW ((aj _ _) [oI c,oR k,oS f,oR l,none,none] g)=_
 rw[ah,O,aC];rfl
end
section
variable{Ω az aM cR zH:aE}{z x w:Str}{ρ:aR}{i k j:Nat}{xs ys ws:List Str}{d e:D}{μ:Int->Int->Int->Int}{c t m r:Int}{mt mm mi:EM}
theorem om{e:EM}(a:e ρ Ω=.ok (.str z) Ω)(hz:z.length<=1900):∃az,(dN (dP (mN (aB wm) (aa e ag))) (aj (bf (ae (.bl false))) ak) ak) ρ Ω=.nx ρ az/\av [] Ω az:=by
 obtain⟨az,h,K⟩:=oj (Ω:=Ω) hz;refine⟨az,?_,K⟩;rw[bp,dS,bR a h];rfl
theorem CA{a0 a1 a2 a3:Option D}(hz:z.length<=1900):∃az,Hm [a0,a1,a2,a3,oS z] Ω=.nx [a0,a1,a2,a3,oS z] az/\av [] Ω az:=by
 obtain⟨az,h,K⟩:=om (Ω:=Ω) (ρ:=[a0,a1,a2,a3,oS z]) (e:=ab 4) rfl hz;refine⟨az,?_,K⟩;unfold Hm;rw[ah,h,aC];rfl
theorem CB(m:cU μ F0){a0 a4:Option D}{n:Nat}(j:Ω[k]?=some (.lst (ws.map .str)))(P:ws.length=5)(A:∀w∈ws,1<=w.length/\w.length<=200)(Q:n<5):∃a az,Hn [a0,oI c,oR k,oI n,a4] Ω=.nx [a0,oI c,oR k,oI n,a] az/\av [] Ω az:=by
 have r:ws[n]?=some (ws[n]'(by omega)):=List.getElem?_eq_getElem (by omega)
 have f:=A (ws[n]'(by omega)) (List.getElem_mem _)
 generalize ws[n]'(by omega)=w at r f
 have s:∀{Ω a4},Ω[k]?=some (.lst (ws.map .str))->(m2 aA (ab 2) (ab 3)) [a0,oI c,oR k,oI n,a4] Ω=.ok (.str w) Ω:=λ{Ω a4} j=>by
  show aA (.ref k) (.int (n:Int)) Ω=_
  refine cC j ?_;unfold L2.fW L2.oo;rw[if_pos (by omega),if_pos (by rw[List.length_map];omega)]
  show(ws.map D.str)[((n:Nat):Int).toNat]?=_
  rw[Int.toNat_natCast,List.getElem?_map,r];rfl
 obtain⟨aM,B,u⟩:=om (Ω:=Ω) (ρ:=[a0,oI c,oR k,oI n,a4]) (e:=m2 aA (ab 2) (ab 3)) (s j) (by omega)
 have o:=u.get _ _ j (by simp)
 obtain⟨x,l,g,C,E,z,_,F⟩:=tF (Ω:=aM) (c:=c) (t:=20+2*(n:Int)) m f.1 f.2 (by omega) (by omega)
 have G:(mN (aB Hj) (aa (m2 aA (ab 2) (ab 3)) (aa (ab 1) (aa (m2 (ax .Add) (ae (.int 20)) (m2 (ax .Mult) (ae (.int 2)) (ab 3))) ag)))) [a0,oI c,oR k,oI n,a4] aM=.ok (.ref l) g:=by
  have H:(m2 (ax .Add) (ae (.int 20)) (m2 (ax .Mult) (ae (.int 2)) (ab 3))) [a0,oI c,oR k,oI n,a4] aM=.ok (.int (20+2*(n:Int))) aM:=rfl;have I:(ab 1) [a0,oI c,oR k,oI n,a4] aM=.ok (.int c) aM:=rfl;rw[bt,ai,s o,af,ai,I,af,ai,H,af,bj,af,af,af,af,jL,C];rfl
 obtain⟨J,az,L,⟨a,rfl,p⟩⟩:=my (i:=4) (Ω:=aM) (aM:=g) (ρ:=[a0,oI c,oR k,oI n,a4]) (mi:=lI) (src:=.seq (.ref l)) (b:=Hm) (ds:=x.map .str)
  (λρ Ω=>∃a4,ρ=[a0,oI c,oR k,oI n,a4]/\av [] g Ω) (by
   unfold lI;rw[gF,G,af];exact eR (ds:=x.map .str) (by rw[cW,bg z])) ⟨a4,rfl,av.refl⟩ (λρ Ω h=>by
   obtain⟨a4,rfl,K⟩:=h;rw[gG,cW,bg (K.get _ _ z (by simp))]) (λd M ρ Ω h=>by
   obtain⟨a4,rfl,K⟩:=h;obtain⟨y,N,rfl⟩:=List.mem_map.mp M;obtain⟨q,O,p⟩:=CA (Ω:=Ω) (a0:=a0) (a1:=oI c) (a2:=oR k) (a3:=oI n) (F y N);exact⟨_,rfl,_,q,O,oS y,rfl,K.trans p⟩) (by rw[List.length_map];omega)
 refine⟨a,az,?_,u.trans (E.trans p)⟩;unfold Hn;rw[ah,B,aC,ah,L,aC];rfl
theorem CC(g:cU μ F0){a0 a2 a3 a4:Option D}(w:Builtin.Int.intBits c<=2 ^ 20):∃l j f az,Ho [a0,oI c,a2,a3,a4] Ω=.nx [a0,oI c,l,j,f] az/\av [] Ω az:=by
 obtain⟨L,k,aM,x,y,q,m,r⟩:=wL (Ω:=Ω) g w;obtain⟨cR,z,s⟩:=zL (Ω:=aM) (c:=c) g q m r;have t:=s.get _ _ q (by simp)
 have A:(mN (aB Hh) (aa (ab 1) ag)) [a0,oI c,a2,a3,a4] Ω=.ok (.ref k) aM:=bR (e:=ab 1) (d:=.int c) rfl x;have B:(mN (aB Fs) (aa (ab 1) (aa (ab 2) ag))) [a0,oI c,oR k,a3,a4] aM=.ok (.bl true) cR:=call2 (a:=.int c) (b:=.ref k) (aM:=aM) (cR:=aM) rfl rfl z
 obtain⟨C,az,E,⟨j,f,rfl,o⟩⟩:=my (i:=3) (Ω:=cR) (aM:=cR) (ρ:=[a0,oI c,oR k,a3,a4]) (mi:=dd (aa (mN (aH .len) (aa (ab 2) ag)) ag)) (src:=.ints 0 5) (b:=Hn) (ds:=intsFrom 0 5)
  (λρ Ω=>∃a3 a4,ρ=[a0,oI c,oR k,a3,a4]/\av [] cR Ω) (by
   have u:=mq (Ω:=cR) (ρ:=[a0,oI c,oR k,a3,a4]) (i:=2) rfl t;rw[m]at u;rw[wa,ai,u,af,bj,af,af];rfl) ⟨a3,a4,rfl,av.refl⟩ (λρ Ω h=>rfl) (λd F ρ Ω h=>by
   obtain⟨a3,a4,rfl,K⟩:=h;obtain⟨n,G⟩:=List.mem_iff_getElem?.mp F;obtain⟨rfl,H⟩:=gD G;obtain⟨f,p,I,o⟩:=CB (Ω:=Ω) (c:=c) (a0:=a0) (a4:=a4) (n:=n) g (K.get _ _ t (by simp)) m r (by omega)
   have e:(0:Int)+(n:Int)=(n:Int):=by omega
   rw[e];exact⟨_,rfl,_,p,I,oI n,f,rfl,K.trans o⟩) (by decide)
 refine⟨oR k,j,f,az,?_,y.trans (s.trans o)⟩;unfold Ho;rw[ah,aN,A,aJ,aC]
 show(aj _ _) [a0,oI c,oR k,a3,a4] aM=_
 have J:(dN (dP (mN (aB Fs) (aa (ab 1) (aa (ab 2) ag)))) (aj (bf (ae (.bl false))) ak) ak) [a0,oI c,oR k,a3,a4] aM=.nx [a0,oI c,oR k,a3,a4] cR:=by
  rw[bp,dS,B];rfl
 rw[ah,J,aC,ah,E,aC];rfl
theorem gQ(z:Str)(hz:z.length<=1900)(ρ:aR)(Ω:aE):∃az,(mN (aB wm) (aa (ae (.str z)) ag)) ρ Ω=.ok (.bl true) az:=by
 obtain⟨az,h,_⟩:=oj (Ω:=Ω) hz;exact⟨az,bR rfl h⟩
theorem FU:∃az,lR ρ Ω=.ok (.bl true) az:=by
 obtain⟨a,f⟩:=gQ "" (by decide) ρ Ω
 obtain⟨b,g⟩:=gQ "->-=0" (by decide) ρ a
 obtain⟨c,h⟩:=gQ "-" (by decide) ρ b
 obtain⟨d,i⟩:=gQ "-0" (by decide) ρ c
 obtain⟨e,j⟩:=gQ "a:-" (by decide) ρ d
 refine⟨e,?_⟩;unfold lR;rw[bE,f,af,ay,cj,bE,g,af,ay,cj,bE,h,af,ay,cj,bE,i,af,ay,cj,j]
theorem wN(a:List Int)(J:a.length<=63)(s:∀i∈a,Builtin.Int.intBits i<=2 ^ 20):∃az,Hr [.lst (a.map .int)] []=.ok (.bl true) az:=by
 obtain⟨L,m⟩:=Ct
 show ∃az,cQ 5 1 Hq [.lst (a.map .int)] []=_
 have t:ba 5 [D.lst (a.map .int)]=[some (.lst (a.map .int)),none,none,none,none]:=rfl;rw[bH (by rfl),t]
 unfold Hq
 have u:bZ (a.map D.int) none (some 20)=(a.take 20).map .int:=by
  have:HT.fj (a.map D.int).length (a.map D.int).length (some 20)=min 20 a.length:=by
   unfold HT.fj;simp;try omega
  unfold bZ;rw[this,wo,List.drop_zero,Nat.sub_zero,←List.map_take]
  congr 1
  rcases Nat.le_total 20 a.length with h|h
  .rw[Nat.min_eq_left h]
  .rw[Nat.min_eq_right h,List.take_of_length_le (Nat.le_refl _),List.take_of_length_le h]
 have w:(bL (ab 0) true (ae .non) false (ae (.int 20))) [some (.lst (a.map .int)),none,none,none,none] []=.ok (.ref 0) [.lst ((a.take 20).map .int)]:=by
  show fk [] (.lst (bZ (a.map D.int) none (some 20)))=_
  rw[u];rfl
 have x:(mN b9 (aa (ae (.int 0)) (aa (ae (.int 2)) (aa (ae (.int 4)) ag)))) [some (.lst (a.map .int)),none,none,none,none] [.lst ((a.take 20).map .int)]=.ok (.ref 1) [.lst ((a.take 20).map .int),.lst [.int 0,.int 2,.int 4]]:=rfl;have M:(a.take 20).length<=20:=by rw[List.length_take];omega
 have n:=rG (Ω:=[.lst ((a.take 20).map .int),.lst [.int 0,.int 2,.int 4]]) (j:=0) (k:=1) (ds:=(a.take 20).map .int) (es:=[.int 0,.int 2,.int 4]) rfl rfl (by rw[List.length_map];simp;omega)
 have g:([Cell.lst ((a.take 20).map .int),.lst [.int 0,.int 2,.int 4]]++[Cell.lst ((a.take 20).map .int++[.int 0,.int 2,.int 4])])[([Cell.lst ((a.take 20).map .int),.lst [.int 0,.int 2,.int 4]]:aE).length]?=some (.lst ((a.take 20).map .int++[.int 0,.int 2,.int 4])):=aF;generalize ([Cell.lst ((a.take 20).map .int),.lst [.int 0,.int 2,.int 4]]++[Cell.lst ((a.take 20).map .int++[.int 0,.int 2,.int 4])]:aE)=e at n g;generalize ([Cell.lst ((a.take 20).map .int),.lst [.int 0,.int 2,.int 4]]:aE).length=l at n g
 obtain⟨y,az,z,⟨f,a2,a3,a4,rfl,r⟩⟩:=my (i:=1) (Ω:=[]) (aM:=e) (ρ:=[some (.lst (a.map .int)),none,none,none,none]) (mi:=lJ) (src:=.seq (.ref l)) (b:=Ho) (ds:=(a.take 20).map .int++[.int 0,.int 2,.int 4])
  (λρ Ω=>∃f a2 a3 a4,ρ=[some (.lst (a.map .int)),f,a2,a3,a4]/\av [] e Ω) (by
   unfold lJ;rw[gF,aX,w,af,x,af,n,af];exact eR (ds:=(a.take 20).map .int++[.int 0,.int 2,.int 4]) (by rw[cW,bg g])) ⟨none,none,none,none,rfl,av.refl⟩ (λρ Ω h=>by
   obtain⟨f,a2,a3,a4,rfl,K⟩:=h;rw[gG,cW,bg (K.get _ _ g (by simp))]) (λd A ρ Ω h=>by
   obtain⟨f,a2,a3,a4,rfl,K⟩:=h
   have B:∃c:Int,d=.int c/\Builtin.Int.intBits c<=2 ^ 20:=by
    rcases List.mem_append.mp A with h|h
    .obtain⟨c,C,rfl⟩:=List.mem_map.mp h
     exact⟨c,rfl,s c (List.mem_of_mem_take C)⟩
    .simp only[List.mem_cons,List.not_mem_nil,or_false]at h
     rcases h with rfl|rfl|rfl
     .exact⟨0,rfl,by decide⟩
     .exact⟨2,rfl,by decide⟩
     .exact⟨4,rfl,by decide⟩
   obtain⟨c,rfl,o⟩:=B;obtain⟨E,F,G,p,H,r⟩:=CC (Ω:=Ω) (c:=c) (a0:=some (.lst (a.map .int))) (a2:=a2) (a3:=a3) (a4:=a4) m o;exact⟨_,rfl,_,p,H,oI c,E,F,G,rfl,K.trans r⟩) (by rw[List.length_append,List.length_map];simp;omega)
 obtain⟨q,I⟩:=FU (Ω:=az) (ρ:=[some (.lst (a.map .int)),f,a2,a3,a4]);refine⟨q,?_⟩;rw[ah,z,aC,ah,br,I];rfl
end
theorem all_mk{P:Program}{w:World}{K:PySem.W.Frag}{h:Heap}{f:Str->Option Value}{fa:Addr}(X:K.In h)(G:h.Ns mainGlobals f)(h7:f "law"=some (.ref fa))
  (nb:qE K=true)
  {q0:Tok} (z0:PySem.W.nsIn K mainGlobals "LETTERS"=some (some (.str "abcdefghijklmnopqrstuvwxyz" q0)))
  {q1:Tok} (z1:PySem.W.nsIn K mainGlobals "MOST_LETTERS"=some (some (.int 8 q1)))
  {q2:Tok} (z2:PySem.W.nsIn K mainGlobals "FIGURES"=some (some (.str "0123456789" q2)))
  {q3:Tok} (z3:PySem.W.nsIn K mainGlobals "MOST_FIGURES"=some (some (.int 60 q3)))
  {f0:Addr}{i7 j7:Option Addr}{k7:Array (Option Value)}{l7 m7 n7 o7 E3 p7:Value} (a0:PySem.W.nsIn K mainGlobals "_law_mix"=some (some (.ref f0))) (l0:K.lookup f0=some ⟨l7,i7,.func (PySem.W.fnOf "_law_mix" "_law_mix" (aZ (top 19)) (aV (top 19)) (ao (top 19)) .none m7 n7 o7 j7 E3 p7),k7⟩) (y0:PySem.W.codeIn K E3 "_law_mix"=true) (w0:PySem.W.keepIn K (.ref f0)=true)
  {Q0:Addr}{F3 G3:Option Addr}{H3:Array (Option Value)}{I3 J3 K3 L3 Y M3:Value} (q7:PySem.W.nsIn K mainGlobals "is_name"=some (some (.ref Q0))) (s7:K.lookup Q0=some ⟨I3,F3,.func (PySem.W.fnOf "is_name" "is_name" (aZ (top 3)) (aV (top 3)) (ao (top 3)) .none J3 K3 L3 G3 Y M3),H3⟩) (t7:PySem.W.codeIn K Y "is_name"=true) (N3:PySem.W.keepIn K (.ref Q0)=true)
  {R0:Addr}{Q3 R3:Option Addr}{S3:Array (Option Value)}{T3 W3 Y3 Z3 Z a4:Value} (u7:PySem.W.nsIn K mainGlobals "read_row"=some (some (.ref R0))) (v7:K.lookup R0=some ⟨T3,Q3,.func (PySem.W.fnOf "read_row" "read_row" (aZ (top 8)) (aV (top 8)) (ao (top 8)) .none W3 Y3 Z3 R3 Z a4),S3⟩) (w7:PySem.W.codeIn K Z "read_row"=true) (b4:PySem.W.keepIn K (.ref R0)=true)
  {S0:Addr}{c4 e4:Option Addr}{f4:Array (Option Value)}{g4 h4 i4 j4 c0 k4:Value} (x7:PySem.W.nsIn K mainGlobals "read_names"=some (some (.ref S0))) (y7:K.lookup S0=some ⟨g4,c4,.func (PySem.W.fnOf "read_names" "read_names" (aZ (top 9)) (aV (top 9)) (ao (top 9)) .none h4 i4 j4 e4 c0 k4),f4⟩) (z7:PySem.W.codeIn K c0 "read_names"=true) (l4:PySem.W.keepIn K (.ref S0)=true)
  {T0:Addr}{m4 n4:Option Addr}{o4:Array (Option Value)}{p4 q4 t4 u4 e0 v4:Value} (A7:PySem.W.nsIn K mainGlobals "read_whole"=some (some (.ref T0))) (B7:K.lookup T0=some ⟨p4,m4,.func (PySem.W.fnOf "read_whole" "read_whole" (aZ (top 10)) (aV (top 10)) (ao (top 10)) .none q4 t4 u4 n4 e0 v4),o4⟩) (C7:PySem.W.codeIn K e0 "read_whole"=true) (w4:PySem.W.keepIn K (.ref T0)=true)
  {W0:Addr}{x4 y4:Option Addr}{z4:Array (Option Value)}{A4 B4 C4 D4 g0 E4:Value} (D7:PySem.W.nsIn K mainGlobals "read_strength"=some (some (.ref W0))) (E7:K.lookup W0=some ⟨A4,x4,.func (PySem.W.fnOf "read_strength" "read_strength" (aZ (top 11)) (aV (top 11)) (ao (top 11)) .none B4 C4 D4 y4 g0 E4),z4⟩) (F7:PySem.W.codeIn K g0 "read_strength"=true) (F4:PySem.W.keepIn K (.ref W0)=true)
  {a1:Addr}{G4 H4:Option Addr}{I4:Array (Option Value)}{J4 K4 L4 M4 h0 N4:Value} (G7:PySem.W.nsIn K mainGlobals "read_turn"=some (some (.ref a1))) (H7:K.lookup a1=some ⟨J4,G4,.func (PySem.W.fnOf "read_turn" "read_turn" (aZ (top 12)) (aV (top 12)) (ao (top 12)) .none K4 L4 M4 H4 h0 N4),I4⟩) (I7:PySem.W.codeIn K h0 "read_turn"=true) (P4:PySem.W.keepIn K (.ref a1)=true)
  {b1:Addr}{Q4 R4:Option Addr}{S4:Array (Option Value)}{T4 W4 Y4 Z4 i0 a5:Value} (J7:PySem.W.nsIn K mainGlobals "read_fact"=some (some (.ref b1))) (K7:K.lookup b1=some ⟨T4,Q4,.func (PySem.W.fnOf "read_fact" "read_fact" (aZ (top 13)) (aV (top 13)) (ao (top 13)) .none W4 Y4 Z4 R4 i0 a5),S4⟩) (L7:PySem.W.codeIn K i0 "read_fact"=true) (b5:PySem.W.keepIn K (.ref b1)=true)
  {c1:Addr}{c5 e5:Option Addr}{f5:Array (Option Value)}{g5 h5 i5 j5 j0 k5:Value} (M7:PySem.W.nsIn K mainGlobals "read_paper"=some (some (.ref c1))) (N7:K.lookup c1=some ⟨g5,c5,.func (PySem.W.fnOf "read_paper" "read_paper" (aZ (top 14)) (aV (top 14)) (ao (top 14)) .none h5 i5 j5 e5 j0 k5),f5⟩) (P7:PySem.W.codeIn K j0 "read_paper"=true) (l5:PySem.W.keepIn K (.ref c1)=true)
  {e1:Addr}{m5 n5:Option Addr}{o5:Array (Option Value)}{p5 q5 s5 t5 k0 u5:Value} (Q7:PySem.W.nsIn K mainGlobals "show_names"=some (some (.ref e1))) (R7:K.lookup e1=some ⟨p5,m5,.func (PySem.W.fnOf "show_names" "show_names" (aZ (top 15)) (aV (top 15)) (ao (top 15)) .none q5 s5 t5 n5 k0 u5),o5⟩) (S7:PySem.W.codeIn K k0 "show_names"=true) (v5:PySem.W.keepIn K (.ref e1)=true)
  {f1:Addr}{w5 x5:Option Addr}{y5:Array (Option Value)}{z5 A5 B5 C5 m0 D5:Value} (T7:PySem.W.nsIn K mainGlobals "show_paper"=some (some (.ref f1))) (V7:K.lookup f1=some ⟨z5,w5,.func (PySem.W.fnOf "show_paper" "show_paper" (aZ (top 16)) (aV (top 16)) (ao (top 16)) .none A5 B5 C5 x5 m0 D5),y5⟩) (W7:PySem.W.codeIn K m0 "show_paper"=true) (E5:PySem.W.keepIn K (.ref f1)=true)
  {m:Addr}{g1 j1:Option Addr}{k1:Array (Option Value)}{n1 o1 p1 t1 n u1:Value} (F5:PySem.W.nsIn K mainGlobals "_law_names"=some (some (.ref m))) (G5:K.lookup m=some ⟨n1,g1,.func (PySem.W.fnOf "_law_names" "_law_names" (aZ (top 20)) (aV (top 20)) (ao (top 20)) .none o1 p1 t1 j1 n u1),k1⟩) (H5:PySem.W.codeIn K n "_law_names"=true) (n0:PySem.W.keepIn K (.ref m)=true)
  {o:Addr}{w1 x1:Option Addr}{y1:Array (Option Value)}{A1 B1 C1 D1 p E1:Value} (I5:PySem.W.nsIn K mainGlobals "_law_is_name"=some (some (.ref o))) (J5:K.lookup o=some ⟨A1,w1,.func (PySem.W.fnOf "_law_is_name" "_law_is_name" (aZ (top 21)) (aV (top 21)) (ao (top 21)) .none B1 C1 D1 x1 p E1),y1⟩) (K5:PySem.W.codeIn K p "_law_is_name"=true) (o0:PySem.W.keepIn K (.ref o)=true)
  {q:Addr}{F1 G1:Option Addr}{H1:Array (Option Value)}{I1 J1 K1 M1 r N1:Value} (L5:PySem.W.nsIn K mainGlobals "_law_listed"=some (some (.ref q))) (M5:K.lookup q=some ⟨I1,F1,.func (PySem.W.fnOf "_law_listed" "_law_listed" (aZ (top 22)) (aV (top 22)) (ao (top 22)) .none J1 K1 M1 G1 r N1),H1⟩) (N5:PySem.W.codeIn K r "_law_listed"=true) (p0:PySem.W.keepIn K (.ref q)=true)
  {t:Addr}{P1 Q1:Option Addr}{R1:Array (Option Value)}{S1 T1 W1 Z1 u a2:Value} (P5:PySem.W.nsIn K mainGlobals "_law_number"=some (some (.ref t))) (Q5:K.lookup t=some ⟨S1,P1,.func (PySem.W.fnOf "_law_number" "_law_number" (aZ (top 23)) (aV (top 23)) (ao (top 23)) .none T1 W1 Z1 Q1 u a2),R1⟩) (R5:PySem.W.codeIn K u "_law_number"=true) (s0:PySem.W.keepIn K (.ref t)=true)
  {y:Addr}{b2 c2:Option Addr}{e2:Array (Option Value)}{f2 g2 j2 k2 z n2:Value} (S5:PySem.W.nsIn K mainGlobals "_law_read"=some (some (.ref y))) (T5:K.lookup y=some ⟨f2,b2,.func (PySem.W.fnOf "_law_read" "_law_read" (aZ (top 24)) (aV (top 24)) (ao (top 24)) .none g2 j2 k2 c2 z n2),e2⟩) (V5:PySem.W.codeIn K z "_law_read"=true) (t0:PySem.W.keepIn K (.ref y)=true)
  {A:Addr}{p2 t2:Option Addr}{u2:Array (Option Value)}{w2 x2 y2 A2 B B2:Value} (i:PySem.W.nsIn K mainGlobals "_law_alike"=some (some (.ref A))) (W5:K.lookup A=some ⟨w2,p2,.func (PySem.W.fnOf "_law_alike" "_law_alike" (aZ (top 25)) (aV (top 25)) (ao (top 25)) .none x2 y2 A2 t2 B B2),u2⟩) (Y5:PySem.W.codeIn K B "_law_alike"=true) (g:PySem.W.keepIn K (.ref A)=true)
  {C:Addr}{C2 D2:Option Addr}{E2:Array (Option Value)}{F2 G2 H2 I2 D J2:Value} (Z5:PySem.W.nsIn K mainGlobals "_law_told"=some (some (.ref C))) (a6:K.lookup C=some ⟨F2,C2,.func (PySem.W.fnOf "_law_told" "_law_told" (aZ (top 26)) (aV (top 26)) (ao (top 26)) .none G2 H2 I2 D2 D J2),E2⟩) (b6:PySem.W.codeIn K D "_law_told"=true) (u0:PySem.W.keepIn K (.ref C)=true)
  {E:Addr}{K2 M2:Option Addr}{N2:Array (Option Value)}{P2 Q2 S2 T2 F W2:Value} (c6:PySem.W.nsIn K mainGlobals "_law_right"=some (some (.ref E))) (e6:K.lookup E=some ⟨P2,K2,.func (PySem.W.fnOf "_law_right" "_law_right" (aZ (top 27)) (aV (top 27)) (ao (top 27)) .none Q2 S2 T2 M2 F W2),N2⟩) (f6:PySem.W.codeIn K F "_law_right"=true) (v0:PySem.W.keepIn K (.ref E)=true)
  {H:Addr}{Y2 Z2:Option Addr}{a3:Array (Option Value)}{b3 c3 e3 f3 I g3:Value} (g6:PySem.W.nsIn K mainGlobals "_law_words"=some (some (.ref H))) (h6:K.lookup H=some ⟨b3,Y2,.func (PySem.W.fnOf "_law_words" "_law_words" (aZ (top 28)) (aV (top 28)) (ao (top 28)) .none c3 e3 f3 Z2 I g3),a3⟩) (i6:PySem.W.codeIn K I "_law_words"=true) (x0:PySem.W.keepIn K (.ref H)=true)
  {J:Addr}{h3 i3:Option Addr}{j3:Array (Option Value)}{k3 l3 m3 n3 M o3:Value} (j6:PySem.W.nsIn K mainGlobals "_law_spoilt"=some (some (.ref J))) (k6:K.lookup J=some ⟨k3,h3,.func (PySem.W.fnOf "_law_spoilt" "_law_spoilt" (aZ (top 29)) (aV (top 29)) (ao (top 29)) .none l3 m3 n3 i3 M o3),j3⟩) (l6:PySem.W.codeIn K M "_law_spoilt"=true) (A0:PySem.W.keepIn K (.ref J)=true)
  {N:Addr}{p3 t3:Option Addr}{u3:Array (Option Value)}{v3 w3 x3 y3 O A3:Value} (m6:PySem.W.nsIn K mainGlobals "_law_rows"=some (some (.ref N))) (n6:K.lookup N=some ⟨v3,p3,.func (PySem.W.fnOf "_law_rows" "_law_rows" (aZ (top 30)) (aV (top 30)) (ao (top 30)) .none w3 x3 y3 t3 O A3),u3⟩) (o6:PySem.W.codeIn K O "_law_rows"=true) (B0:PySem.W.keepIn K (.ref N)=true)
  {Q:Addr}{B3 R:Option Addr}{C3:Array (Option Value)}{D3 S T U l V:Value} (p6:PySem.W.nsIn K mainGlobals "law"=some (some (.ref Q))) (q6:K.lookup Q=some ⟨D3,B3,.func (PySem.W.fnOf "law" "law" (aZ (top 31)) (aV (top 31)) (ao (top 31)) .none S T U R l V),C3⟩) (s6:PySem.W.codeIn K l "law"=true) (t6:PySem.W.keepIn K (.ref Q)=true)
  {aS:Addr} (zS:PySem.W.nsIn K mainGlobals "STRENGTHS"=some (some (.ref aS))) (tS:KTD.tabLook (KTD.datLooks λb=>K.lookup b) (λb=>K.lookup b) aS (nP [("0",0),("1",1),("2",2)])=true)
  : ∃fd:FuncData,(∀(s:Shared) (v:Value),BindsTo s fd ⟨[v],[]⟩ [("_law_script",v)])/\∀base:Heap,K.In base->base.Ns mainGlobals f->cX P w K f base iy 27 fa fd Cc (dJ (ew f) Hr):=by
 have e:=h7.symm.trans (PySem.W.mg_of X G p6);cases e;have E0:=bU (st:=top 19) l0 y0 w0;have b0:=E0.binds (ps:=Lz) λ_ _ _ _ _ _ a c=>match a,c with|[_,_,_],_=>rfl
 have u6:=bU (st:=(top 3)) s7 t7 N3;have Y7:=u6.binds (ps:=LD) λ_ _ _ _ _ _ a c=>match a,c with|[_],_=>rfl
 have v6:=bU (st:=(top 8)) v7 w7 b4;have Z7:=v6.binds (ps:=LG) λ_ _ _ _ _ _ a c=>match a,c with|[_],_=>rfl
 have w6:=bU (st:=(top 9)) y7 z7 l4;have a8:=w6.binds (ps:=LI) λ_ _ _ _ _ _ a c=>match a,c with|[_],_=>rfl
 have x6:=bU (st:=(top 10)) B7 C7 w4;have b8:=x6.binds (ps:=LK) λ_ _ _ _ _ _ a c=>match a,c with|[_],_=>rfl
 have y6:=bU (st:=(top 11)) E7 F7 F4;have c8:=y6.binds (ps:=LL) λ_ _ _ _ _ _ a c=>match a,c with|[_],_=>rfl
 have z6:=bU (st:=(top 12)) H7 I7 P4;have e8:=z6.binds (ps:=LN) λ_ _ _ _ _ _ a c=>match a,c with|[_],_=>rfl
 have A6:=bU (st:=(top 13)) K7 L7 b5;have f8:=A6.binds (ps:=LP) λ_ _ _ _ _ _ a c=>match a,c with|[_],_=>rfl
 have B6:=bU (st:=(top 14)) N7 P7 l5;have g8:=B6.binds (ps:=LR) λ_ _ _ _ _ _ a c=>match a,c with|[_],_=>rfl
 have C6:=bU (st:=(top 15)) R7 S7 v5;have h8:=C6.binds (ps:=LU) λ_ _ _ _ _ _ a c=>match a,c with|[_],_=>rfl
 have D6:=bU (st:=(top 16)) V7 W7 E5;have i8:=D6.binds (ps:=LW) λ_ _ _ _ _ _ a c=>match a,c with|[_],_=>rfl
 have C0:=bU (st:=(top 20)) G5 H5 n0;have E6:=C0.binds (ps:=EN) λ_ _ _ _ _ _ a c=>match a,c with|[_,_],_=>rfl
 have D0:=bU (st:=(top 21)) J5 K5 o0;have F6:=D0.binds (ps:=ER) λ_ _ _ _ _ _ a c=>match a,c with|[_],_=>rfl
 have G0:=bU (st:=(top 22)) M5 N5 p0;have G6:=G0.binds (ps:=ET) λ_ _ _ _ _ _ a c=>match a,c with|[_],_=>rfl
 have I0:=bU (st:=(top 23)) Q5 R5 s0;have H6:=I0.binds (ps:=EV) λ_ _ _ _ _ _ a c=>match a,c with|[_],_=>rfl
 have J0:=bU (st:=(top 24)) T5 V5 t0;have I6:=J0.binds (ps:=EY) λ_ _ _ _ _ _ a c=>match a,c with|[_],_=>rfl
 have j:=bU (st:=(top 25)) W5 Y5 g;have k:=j.binds (ps:=E8) λ_ _ _ _ _ _ a c=>match a,c with|[_,_],_=>rfl
 have K0:=bU (st:=(top 26)) a6 b6 u0;have J6:=K0.binds (ps:=Fg) λ_ _ _ _ _ _ a c=>match a,c with|[_],_=>rfl
 have L0:=bU (st:=(top 27)) e6 f6 v0;have K6:=L0.binds (ps:=Fi) λ_ _ _ _ _ _ a c=>match a,c with|[_],_=>rfl
 have M0:=bU (st:=(top 28)) h6 i6 x0;have L6:=M0.binds (ps:=Fl) λ_ _ _ _ _ _ a c=>match a,c with|[_],_=>rfl
 have N0:=bU (st:=(top 29)) k6 l6 A0;have M6:=N0.binds (ps:=Fo) λ_ _ _ _ _ _ a c=>match a,c with|[_,_,_],_=>rfl
 have P0:=bU (st:=(top 30)) n6 o6 B0;have N6:=P0.binds (ps:=Fq) λ_ _ _ _ _ _ a c=>match a,c with|[_,_],_=>rfl
 have P6:=bU (st:=(top 31)) q6 s6 t6;refine⟨PySem.W.fnOf "law" "law" (aZ (top 31)) (aV (top 31)) (ao (top 31)) .none S T U R l V,λs v=>.of_eq rfl,λbase XB _=>?_⟩
 have V0:bT P w K f base ({}:bb) 0:=bT.start (uQ X G nb);have V1:=V0.kg (x:="MOST_FIGURES") (d:=.int 60) (v:=.int 60) (PySem.W.mg_of X G z3) ⟨_,rfl⟩ rfl;have V2:=V1.kg (x:="FIGURES") (d:=.str "0123456789") (v:=.str "0123456789") (PySem.W.mg_of X G z2) ⟨_,rfl⟩ rfl;have V3:=V2.kg (x:="MOST_LETTERS") (d:=.int 8) (v:=.int 8) (PySem.W.mg_of X G z1) ⟨_,rfl⟩ rfl;have V4:=V3.kg (x:="LETTERS") (d:=.str "abcdefghijklmnopqrstuvwxyz") (v:=.str "abcdefghijklmnopqrstuvwxyz") (PySem.W.mg_of X G z0) ⟨_,rfl⟩ rfl;have Y0:bT P w K f base Jb 0:=V4;have q0:=bq Y0 E0 Mx My;have Y1:bT P w K f base LB 1:=(Y0.mono (Nat.le_succ 0)).yT (x:="_law_mix") (PySem.W.mg_of X G a0) w0 b0 (yY q0) (Nat.le_refl _);have X0:bT P w K f base U0 1:=Y1;have r0:=bq X0 u6 Mz MA;have X1:bT P w K f base U1 2:=X0.bC (PySem.W.mg_of X G q7) N3 Y7 r0;have r1:=bq X1 v6 MB MC;have X2:bT P w K f base U2 3:=X1.bC (PySem.W.mg_of X G u7) b4 Z7 r1;have r2:=bq X2 w6 MD ME;have X3:bT P w K f base U3 4:=X2.bC (PySem.W.mg_of X G x7) l4 a8 r2;have r3:=bq X3 x6 MF MG;have X4:bT P w K f base U4 5:=X3.bC (PySem.W.mg_of X G A7) w4 b8 r3;have r4:=yV (L:=[("0",0),("1",1),("2",2)]) X4 y6 MI rfl rfl (by decide +kernel) (by decide) rfl (PySem.W.mg_of X G zS) XB tS
 have X5:bT P w K f base U5 6:=X4.bC (PySem.W.mg_of X G D7) F4 c8 r4;have r5:=bq X5 z6 MJ MK;have X6:bT P w K f base U6 7:=X5.bC (PySem.W.mg_of X G G7) P4 e8 r5;have r6:=bq X6 A6 ML MM;have X7:bT P w K f base U7 8:=X6.bC (PySem.W.mg_of X G J7) b5 f8 r6;have r7:=bq X7 B6 MN MO;have X8:bT P w K f base U8 9:=X7.bC (PySem.W.mg_of X G M7) l5 g8 r7;have r8:=bq X8 C6 MP MQ;have X9:bT P w K f base U9 10:=X8.bC (PySem.W.mg_of X G Q7) v5 h8 r8;have r9:=bq X9 D6 MR MS;have Q6:bT P w K f base Jc 11:=X9.bC (PySem.W.mg_of X G T7) E5 i8 r9;have j8:=bq Q6 C0 Je Jf;have R6:bT P w K f base Jd 12:=Q6.bC (PySem.W.mg_of X G F5) n0 E6 j8;have k8:=bq R6 D0 Jh Ji;have S6:bT P w K f base Jg 13:=R6.bC (PySem.W.mg_of X G I5) o0 F6 k8;have l8:=bq S6 G0 Jk Jl;have T6:bT P w K f base Jj 14:=S6.bC (PySem.W.mg_of X G L5) p0 G6 l8;have m8:=bq T6 I0 Jn Jo;have V6:bT P w K f base Jm 15:=T6.bC (PySem.W.mg_of X G P5) s0 H6 m8;have n8:=rf V6 J0 Jr Js;have o8:bT P w K f base LZ 16:=V6.bC (PySem.W.mg_of X G S5) t0 I6 n8;have W6:bT P w K f base Jt 17:=o8.bC (PySem.W.mg_of X G i) g k yX;have p8:=bq W6 j Jv Jw;have Y6:bT P w K f base Ju 18:=W6.bC (PySem.W.mg_of X G i) g k p8;have q8:=bq Y6 j Jz JA;have Z6:bT P w K f base Jy 19:=Y6.bC (PySem.W.mg_of X G i) g k q8;have s8:=bq Z6 j JD JE;have a7:bT P w K f base JC 20:=Z6.bC (PySem.W.mg_of X G i) g k s8;have t8:=bq a7 j JH JI;have b7:bT P w K f base JG 21:=a7.bC (PySem.W.mg_of X G i) g k t8;have u8:=bq b7 K0 JK JL;have c7:bT P w K f base JJ 22:=b7.bC (PySem.W.mg_of X G Z5) u0 J6 u8;have v8:=bq c7 L0 JN JO;have e7:bT P w K f base JM 23:=c7.bC (PySem.W.mg_of X G c6) v0 K6 v8;have w8:=bq e7 M0 JR JS;have f7:bT P w K f base JQ 24:=e7.bC (PySem.W.mg_of X G g6) x0 L6 w8;have x8:=bq f7 N0 JU JV;have g7:bT P w K f base JT 25:=f7.bC (PySem.W.mg_of X G j6) A0 M6 x8;have y8:=rf g7 P0 JW JX;have z8:bT P w K f base Mc 26:=g7.bC (PySem.W.mg_of X G m6) B0 N6 y8;have A8:=bq z8 P6 JY JZ;exact A8
theorem walk{l:PySem.W.OpenLaw}{q:Program}{i:List Str}{t:(Str->Option Value)->Heap->Prop}{p:World->Heap->Prop}{d:DefRec}{K:Params->PySem.W.Frag}(y:l.most=some 63)(o:d.params.defaults=[])
  (A:∀(w:World) (h:Heap),p w h->(K w.params).In h) (B:∀C,m9 (K C)=true)
  (F:∀(w:World) (g:Str->Option Value) (j:Addr) (h:Heap),(K w.params).In h->h.Ns mainGlobals g->g d.name=some (.ref j) ->
   ∃m:FuncData,(∀(s:Shared) (u:Value),BindsTo s m ⟨[u],[]⟩ [("_law_script",u)])/\∀base:Heap,(K w.params).In base->base.Ns mainGlobals g->cX l.prog w (K w.params) g base iy 27 j m Cc (dJ (ew g) Hr)) :
  PySem.W.WalkO q i t p l.row.toRowW d [] (λf r=>PySem.call f r):=
 L2.uj (n:=63) (k:=27) (x:="_law_script") (CX:=λ_=>iy) (sp:=λw=>D9 Hr) y (by decide) o ⟨rfl,by decide,by decide⟩ A (λw g j h a b c=>let ⟨m,D,G⟩:=F w g j h a b c;⟨m,D,λbase d e=>(G base d e).imp λr H Q E z=>z (ew g)⟩) (λw H a I J L _ M N=>yQ (DI (B w.params) M) (wN I J L).choose_spec) λ_ _ _ _ _ z=>z
end eg
def PySem.W.Fast.tw11734150338993162029:PySem.Program:=PySem.Challenge.pw_taglook_k91_words_read_and_written
theorem PySem.W.Fast.te11734150338993162029:PySem.Challenge.pw_taglook_k91_words_read_and_written=PySem.W.Fast.tw11734150338993162029:=rfl
structure PySem.W.Fast:Prop where(tw14139761193279395343 tw4693362975967442324 tw16765263423946522962 tw11287087820014561369 tw748787503490786968 tw7241686692818386320 tw12127849903051355174 tw10013295883017179015 tw5169205972926472740 tw15925868112735085962 tw7720156110453196640 tw11377417964472540185 tw5527453599813673637 tw15449891588964542404 tw10359736367842692653 tw3043209711040825382 tw1097287637082831186 tw5990499639599781185 tw16807145162573415429 tw4988352183760058935 tw17830676208299202022 tw7503865583740555661 tw17141200568293819537 tw15789842366366033729 tw12410285459689212666 tw4518993822202648271 tw17890461890575894166 tw6538190306343697933 tw2751524113645069221 tw8881715447226780269 tw3626165875096579712 tw1138684922247189613 tw7685116482909027435 tw6327069180773037454 tw11701772918496194004 tw86776770822097775 tw2109653062730230628 tw4524638107276789890 tw4694053358314796924 tw12283862188987571771 tw3315359526414342898 tw17878823957746482033 tw4783394601651795765 tw6699304252249723069 tw14491682519122854866 tw8990666397252361516 tw4035802005571454444 tw3423877893006561748 tw4581927635182587273 tw6579343018471727500 tw9892493200602562109 tw15330589027359836682 tw17024973312940214179 tw10355635375233701619 tw15179623437925273116 tw9928269365033384121 tw15408625713150741234 tw1402911714392435322 tw7787116968085586102 tw2816973335264898960 tw16549912010419998410 tw9951403186946991158 tw8731581323144075117 tw11854322838799441921 tw6026125947923161583 tw12536374220010010223 tw3824529727816492743 tw13113642825129585648 tw11308129830229468474 tw14097125048989639780 tw5710979976286193743 tw591298804477742885 tw11614805835437058461 tw6223516941922345262 tw17716089676124887455 tw1649736890921574085 tw17550651758477885976 tw98227231500596738 tw18306964088766615137 tw1671533279505187569 tw16566716764336423088 tw5073941280939833838 tw15756295825582793798 tw1393805689233234952 tw16355028942692410329 tw15297541812200492713 tw12990468479081644393 tw17235497442474643450 tw13200902982100461470 tw10133766185236233564 tw6969097715662465852 tw923273588159327242 tw4867915878208988402 tw17625361386011284574 tw6955946810275233535 tw13447608730395358039 tw9651844022838435178 tw3248884056416389371 tw17417162702487992604 tw6555436029283212383 tw10968246677173089841 tw4471724818204433773 tw13936232444424447032 tw449190923336580868 tw11468451994150425972 tw12723135379692996552 tw16518908234977952172 tw16355298980317338817 tw12021776861274836954 tw2214027752049819625 tw10390359481927531323 tw6392785682481316128 tw17010358733004807813 tw2634698011717285353 tw7449691143394751857 tw10527680149195465830 tw1183876871793263814 tw16131705530612640572 tw6659762590914847767 tw5368816978015256091 tw15366739793107291418 tw12566265578871752623 tw16267868152797166283 tw5460490633059708175 tw8546125537277834129 tw2134255354923960212 tw10781663293511145840 tw7265865423879036577 tw12646945860972405208 tw5385208449971177569 tw11412205031901056544 tw9527969073643293273 tw3585414850338026212 tw16523667291133815295 tw11564643605726714775 tw9628009849369245679 tw4531593287604437963 tw10186681788197426396 tw14544374773092254217 tw4246199217696424522 tw57788423954807499 tw3149969669955813324 tw9687950845027506172 tw13177371422406523499 tw811537154158490044:True)
open PySem PySem.W PyProof.Rows
set_option maxRecDepth 100000 in
set_option maxHeartbeats 0 in
theorem PySem.Challenge.cw_taglook_k91_words_read_and_written_holds : PySem.Challenge.rw_taglook_k91_words_read_and_written.Holds := by
 w_on;o_law;k_head;(case hw=>w_witness2)
 k_fill
 refine eg.walk (l:=PySem.Challenge.rw_taglook_k91_words_read_and_written) rfl rfl (λw h Y=>PySem.W.kIn_of Y) ?hK ?F
 case hK=>intro pm;exact(Eq.refl true)
 case F=>
  intro w mg fa h KX G hmg;refine' eg.all_mk KX G hmg ?nb ?z0 ?z1 ?z2 ?z3 ?a0 ?l0 ?y0 ?w0 ?MU ?MV ?MW ?MX ?MY ?lo1 ?MZ ?M8 ?M9 ?lo2 ?M_ ?Na ?Nb ?Nc ?Nd ?Nf ?Ng ?Nh ?Ni ?Nj ?Nk ?Nl ?Nn ?Np ?Nq ?Nr ?Nt ?Nu ?Nv ?Nw ?Nx ?Ny ?Nz ?NA ?NB ?NC ?ND ?NF ?NG ?NH ?Kc ?Kd ?Ke ?Kf ?Kg ?Kh ?Ki ?Kj ?Kk ?Kl ?Km ?Kn ?Ko ?Kp ?Kq ?Kr ?Ks ?Kt ?Ku ?Kv ?Kw ?Kx ?Ky ?Kz ?KA ?KC ?KD ?KG ?KH ?KI ?KJ ?KL ?KN ?KO ?KP ?KQ ?KR ?KS ?KU ?KW ?KY ?KZ ?K9 ?K_ ?La ?Lb ?Lc ?Ld ?zS ?tS
  (case nb=>exact(Eq.refl true))
  (case z0=>k_is)
  (case z1=>k_is)
  (case z2=>k_is)
  (case z3=>k_is)
  (case a0=>k_is)
  (case l0=>k_is)
  (case y0=>k_is)
  (case w0=>k_is)
  (case MU=>k_is)
  (case MV=>k_is)
  (case MW=>k_is)
  (case MX=>k_is)
  (case MY=>k_is)
  (case lo1=>k_is)
  (case MZ=>k_is)
  (case M8=>k_is)
  (case M9=>k_is)
  (case lo2=>k_is)
  (case M_=>k_is)
  (case Na=>k_is)
  (case Nb=>k_is)
  (case Nc=>k_is)
  (case Nd=>k_is)
  (case Nf=>k_is)
  (case Ng=>k_is)
  (case Nh=>k_is)
  (case Ni=>k_is)
  (case Nj=>k_is)
  (case Nk=>k_is)
  (case Nl=>k_is)
  (case Nn=>k_is)
  (case Np=>k_is)
  (case Nq=>k_is)
  (case Nr=>k_is)
  (case Nt=>k_is)
  (case Nu=>k_is)
  (case Nv=>k_is)
  (case Nw=>k_is)
  (case Nx=>k_is)
  (case Ny=>k_is)
  (case Nz=>k_is)
  (case NA=>k_is)
  (case NB=>k_is)
  (case NC=>k_is)
  (case ND=>k_is)
  (case NF=>k_is)
  (case NG=>k_is)
  (case NH=>k_is)
  (case Kc=>k_is)
  (case Kd=>k_is)
  (case Ke=>k_is)
  (case Kf=>k_is)
  (case Kg=>k_is)
  (case Kh=>k_is)
  (case Ki=>k_is)
  (case Kj=>k_is)
  (case Kk=>k_is)
  (case Kl=>k_is)
  (case Km=>k_is)
  (case Kn=>k_is)
  (case Ko=>k_is)
  (case Kp=>k_is)
  (case Kq=>k_is)
  (case Kr=>k_is)
  (case Ks=>k_is)
  (case Kt=>k_is)
  (case Ku=>k_is)
  (case Kv=>k_is)
  (case Kw=>k_is)
  (case Kx=>k_is)
  (case Ky=>k_is)
  (case Kz=>k_is)
  (case KA=>k_is)
  (case KC=>k_is)
  (case KD=>k_is)
  (case KG=>k_is)
  (case KH=>k_is)
  (case KI=>k_is)
  (case KJ=>k_is)
  (case KL=>k_is)
  (case KN=>k_is)
  (case KO=>k_is)
  (case KP=>k_is)
  (case KQ=>k_is)
  (case KR=>k_is)
  (case KS=>k_is)
  (case KU=>k_is)
  (case KW=>k_is)
  (case KY=>k_is)
  (case KZ=>k_is)
  (case K9=>k_is)
  (case K_=>k_is)
  (case La=>k_is)
  (case Lb=>k_is)
  (case Lc=>k_is)
  (case Ld=>k_is)
  (case zS=>k_is)
  (case tS=>exact(Eq.refl true))
