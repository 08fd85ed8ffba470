import PyProof.Rows.All
import Wide.All
import OpenK.AllK
import Wide.FinOn
import Lean
import PyProof.EqAt
import PyProof.EqKinds
import PyProof.TupleCall
import PyProof.EnumFor
import PyProof.EnumMake
import PyProof.EnumStmt
import PyProof.Rows.EnumRows
import PyProof.RulesTry
import PyProof.Rows.StrWeight2
import PyProof.AutoListH
import PyProof.Draws
import PyProof.Rows.SortStr
import PyProof.Rows.SortShell
import PyProof.Rows.SortWalk
import PyProof.Rows.StrMeet
import PyProof.DictIter
import PyProof.DictWalks
import KE.KDictOf
import PyProof.AttrMissSeq
import PyProof.ListRange
import PyProof.DictItems
import PyProof.ZipIter
import PyProof.AttrMissHeap
import PyProof.Rows.Range3
import PyProof.FitsReplace
import PySem.Challenge.RW_taglook_k66_slots_and_values
set_option Elab.async false
set_option bootstrap.genMatcherCode false
set_option genSizeOfSpec false
set_option linter.all false
set_option maxRecDepth 100000
noncomputable section
namespace L2
open PySem PySem.Spec PyProof.Rows
abbrev Key:=Sum Int Str
noncomputable def kc:Key->Value->Bool
 |.inl k,v=>Value.isInt k v
 |.inr x,v=>Value.isStrOf x v
noncomputable def KJ(w:World):Key->Int
 |.inl k=>hashInt k
 |.inr x=>hashStr w x
theorem bV:∀{k:Key}{v:Value},kc k v=true->(∃i t,k=Sum.inl i/\v=Value.int i t)\/(∃x t,k=Sum.inr x/\v=Value.str x t)
 |.inl i,v,h=>by
  obtain⟨t,e⟩:=Value.isInt_shape (k:=i) (v:=v) h;exact .inl ⟨i,t,rfl,e⟩
 |.inr x,v,h=>by
  obtain⟨t,e⟩:=Value.isStrOf_shape (x:=x) (v:=v) h;exact .inr ⟨x,t,rfl,e⟩
theorem uy(i:Int)(t:Tok):kc (.inl i) (.int i t)=true:=by simp[kc,Value.isInt]
theorem uz(x:Str)(t:Tok):kc (.inr x) (.str x t)=true:=by simp[kc,Value.isStrOf]
theorem Cw(a b:Int):decide ((Sum.inl a:Key)=Sum.inl b)=(a==b):=by
 by_cases e:a=b
 .subst e;simp
 .have h:¬ (Sum.inl a:Key)=Sum.inl b:=λq=>e (Sum.inl.inj q)
  rw[decide_eq_false h];exact(beq_eq_false_iff_ne.mpr e).symm
theorem Cy(a b:Str):decide ((Sum.inr a:Key)=Sum.inr b)=decide (a=b):=by
 by_cases e:a=b
 .subst e;simp
 .have h:¬ (Sum.inr a:Key)=Sum.inr b:=λq=>e (Sum.inr.inj q)
  rw[decide_eq_false h,decide_eq_false e]
theorem Cz(a:Int)(b:Str):decide ((Sum.inl a:Key)=Sum.inr b)=false:=decide_eq_false (λq=>nomatch q)
theorem CA(a:Str)(b:Int):decide ((Sum.inr a:Key)=Sum.inl b)=false:=decide_eq_false (λq=>nomatch q)
def ba(prog:Program)(w:World):PySem.KeyKind prog w Key where
 is:=kc
 hash:=KJ w
 inj:=λv a b g f=>by
  rcases bV g with ⟨i,t,rfl,rfl⟩|⟨x,t,rfl,rfl⟩
  .rcases bV f with ⟨j,u,rfl,e⟩|⟨y,u,rfl,e⟩
   .injection e with c _;rw[c]
   .exact nomatch e
  .rcases bV f with ⟨j,u,rfl,e⟩|⟨y,u,rfl,e⟩
   .exact nomatch e
   .injection e with c _;rw[c]
 byValue:=λk v h=>by
  rcases bV h with ⟨i,t,rfl,rfl⟩|⟨x,t,rfl,rfl⟩<;>rfl
 pyHash:=λd h=>by
  rcases bV d with ⟨i,t,rfl,rfl⟩|⟨x,t,rfl,rfl⟩
  .exact wpAny_pyHash_int h
  .exact wpAny_pyHash_str h
 eqBool:=λl d h=>by
  rcases bV l with ⟨i,t,rfl,rfl⟩|⟨x,t,rfl,rfl⟩
  .rcases bV d with ⟨j,u,rfl,rfl⟩|⟨y,u,rfl,rfl⟩
   .rw[Cw]at h;exact wpAny_eqBool_int h
   .rw[Cz]at h;exact SeqAt.EqAt.int_str i t y u _ _ _ _ h
  .rcases bV d with ⟨j,u,rfl,rfl⟩|⟨y,u,rfl,rfl⟩
   .rw[CA]at h;exact SeqAt.EqAt.str_int x t j u _ _ _ _ h
   .rw[Cy]at h;exact wpAny_eqBool_str h
 «strs» := λk x t v h=>by
  rcases bV h with ⟨i,u,rfl,e⟩|⟨y,u,rfl,e⟩
  .exact nomatch e
  .injection e with c _
   subst c;cases v<;>rfl
theorem oU(prog:Program)(w:World)(i:Int)(t:Tok):(ba prog w).is (.inl i) (.int i t)=true:=uy i t
theorem oV(prog:Program)(w:World)(x:Str)(t:Tok):(ba prog w).is (.inr x) (.str x t)=true:=uz x t
inductive V where
 |non|bl (b:Bool)|int (i:Int)|str (x:Str)|EJ (b:Array UInt8)|flt (b:UInt64)|ref (a:Addr)|ty (n:String)
 deriving DecidableEq
def RelV:V->Value->Prop
 |.non,u=>u=Value.none
 |.bl b,u=>u=Value.bool b
 |.int i,u=>∃t,u=Value.int i t
 |.str x,u=>∃t,u=Value.str x t
 |.EJ b,u=>∃t,u=Value.bytes b t
 |.flt b,u=>∃t,u=Value.float b t
 |.ref a,u=>u=Value.ref a
 |.ty n,u=>u=Value.type n
abbrev Vals:List V->List Value->Prop:=Paired RelV
theorem Vals.length{xs:List V}{us:List Value}(r:Vals xs us):xs.length=us.length:=Paired.length r
theorem Vals.get:∀{xs:List V}{us:List Value}{i:Nat}{x:V},Vals xs us->xs[i]?=some x->∃u,us[i]?=some u/\RelV x u
 |_,_,_,_,.nil,e=>by simp at e
 |_,_,0,_,.cons r _,e=>by simp at e;subst e;exact⟨_,rfl,r⟩
 |_,_,i+1,x,.cons _ t,e=>by
  obtain⟨u,h1,h2⟩:=Vals.get (i:=i) (x:=x) t (by simpa using e)
  exact⟨u,by simpa using h1,h2⟩
theorem Vals.set{x:V}{u:Value}(r:RelV x u):∀{xs:List V}{us:List Value} (i:Nat),Vals xs us->Vals (xs.set i x) (us.set i u)
 |_,_,_,.nil=>.nil
 |_,_,0,.cons _ t=>.cons r t
 |_,_,i+1,.cons q t=>.cons q (Vals.set r i t)
theorem Vals.append:∀{xs a:List V}{us ws:List Value},Vals xs us->Vals a ws->Vals (xs++a) (us++ws)
 |_,_,_,_,.nil,s=>s
 |_,_,_,_,.cons r t,s=>.cons r (Vals.append t s)
theorem Vals.take:∀{xs:List V}{us:List Value} (n:Nat),Vals xs us->Vals (xs.take n) (us.take n)
 |_,_,0,_=>.nil
 |_,_,_+1,.nil=>.nil
 |_,_,n+1,.cons r t=>.cons r (Vals.take n t)
theorem Vals.drop:∀{xs:List V}{us:List Value} (n:Nat),Vals xs us->Vals (xs.drop n) (us.drop n)
 |_,_,0,r=>r
 |_,_,_+1,.nil=>.nil
 |_,_,n+1,.cons _ t=>Vals.drop n t
def fP:Option V->Option Value->Prop
 |some v,some u=>RelV v u
 |none,none=>True
 |_,_=>False
def KV{κ:Type}:List (κ×V)->List (κ×Value)->Prop:=Paired λ(p:κ×V) (q:κ×Value)=>p.1=q.1/\RelV p.2 q.2
noncomputable def kV:Key->V
 |.inl i=>.int i
 |.inr x=>.str x
inductive HO where
 |lst (xs:List V)
 |tup (xs:List V)
 |dK (kvs:List (Key×V))|dT (kvs:List (List Key×V))
 |set (S:Int->Bool) (n:Nat)
 |ins (C dx:Addr) (fs:List (Str×V))
 |own (x:Addr)
 |xd (fs:List (Str×V))
 |met (f x:Addr)
 |KL (lo hi:Int)
 |dJ (o:Obj) (u:HO)
 |CB (ps:Array Value)
 |ext (φ:Heap->Prop)
abbrev Hp:=Addr->Option HO
noncomputable def upd(H:Hp)(a:Addr)(o:HO):Hp:=λb=>if b=a then some o else H b
theorem aN{H:Hp}{a:Addr}{o:HO}:upd H a o a=some o:=by unfold upd;rw[if_pos rfl]
theorem aE{H:Hp}{a b:Addr}{o:HO}(h:b≠a):upd H a o b=H b:=by unfold upd;rw[if_neg h]
theorem BL{H:Hp}{a b:Addr}{o u:HO}(h:H a=some o)(h':H b=some u)(d:o≠u):a≠b:=by
 intro e;subst e;rw[h]at h';exact d (Option.some.inj h')
theorem aY{H:Hp}{a b:Addr}{o:HO}(h:H a=some o)(h':H b=none):a≠b:=by
 intro e;subst e;rw[h]at h';cases h'
section
variable(P:Program)(w:World)
def bL(H:Hp)(h:Heap)(a:Addr):HO->Prop
 |.lst xs=>xs.length<=sizeLine/\∃(b:List Value) (n:Nat),Vals xs b/\h.get? a=some {cls:=.type "list",data:=.seq b.toArray n}
 |.tup xs=>xs.length<=sizeLine/\∃b:List Value,Vals xs b/\IsTup h a b.toArray
 |.dK kvs=>kvs.length<=sizeLine/\(a==sysModules)=false/\∃vs,KV kvs vs/\h.DictOf (ba P w) a vs
 |.dT kvs=>kvs.length<=sizeLine/\(a==sysModules)=false/\∃xs:List (List Key×Addr×Value),
   Paired (λ(p:List Key×V) (q:List Key×Addr×Value)=>p.1=q.1/\H q.2.1=some (.tup (p.1.map kV))/\RelV p.2 q.2.2) kvs xs /\
   ∃o es ep,h.get? a=some o/\o.ExactDict/\o.data=.dict es ep/\es.toList=xs.map (entryOfKey (tupleKind (ba P w)))/\(xs.map (·.1)).Nodup
 |.set S n=>h.SetOf (intKind P w) a S n
 |.ins C dx fs=>H dx=some (.own a)/\fs.length<=1000/\dx≠a/\h.get? a=some (PySem.W.instObj C dx) /\
   ∃c,h.Ns1 dx c/\(∀f,fP (fs.lookup f) (c f))/\PySem.Within c (fs.map (·.1))
 |.own _=>∃o,h.get? a=some o
 |.xd fs=>∃c,h.Ns1 a c/\∀f,fP (fs.lookup f) (c f)
 |.KL lo hi=>∃t u v,h.get? a=some {cls:=.type "range",data:=.fields #[.int lo t,.int hi u,.int 1 v]}
 |.dJ o u=>h.get? a=some o/\bL H h a u
 |.CB ps=>h.get? a=some {cls:=.none,data:=.fields ps}
 |.met f x=>h.get? a=some (PySem.W.methodObj (.ref f) (.ref x))
 |.ext d=>d h/\(∃o,h.get? a=some o)/\∀e g:Heap,d e->(∀o,e.get? a=some o->g.get? a=some o)->d g
def g_(H:Hp)(h:Heap):Prop:=∀a o,H a=some o->bL P w H h a o
end
section
variable{P:Program}{w:World}{H H':Hp}{h h':Heap}{a:Addr}{o:HO}
theorem bL.lt(x:bL P w H h a o):a<h.objs.size:=by
 cases o with
 |lst c=>obtain⟨_,_,_,_,e⟩:=x;exact Heap.lt_size e
 |tup c=>obtain⟨_,_,_,p⟩:=x;exact p.lt
 |dK b=>obtain⟨_,_,_,_,o,_,_,e,_⟩:=x;exact Heap.lt_size e
 |dT b=>obtain⟨_,_,_,_,o,_,_,e,_⟩:=x;exact Heap.lt_size e
 |set S n=>obtain⟨o,_,_,_,e,_⟩:=x;exact Heap.lt_size e
 |ins C g d=>obtain⟨_,_,_,e,_⟩:=x;exact Heap.lt_size e
 |own y=>obtain⟨_,e⟩:=x;exact Heap.lt_size e
 |xd d=>obtain⟨_,⟨_,_,_,e,_⟩,_⟩:=x;exact Heap.lt_size e
 |KL i j=>obtain⟨_,_,_,e⟩:=x;exact Heap.lt_size e
 |dJ k u=>obtain⟨e,_⟩:=x;exact Heap.lt_size e
 |CB l=>exact Heap.lt_size (show h.get? a=some _ from x)
 |met f y=>exact Heap.lt_size (show h.get? a=some _ from x)
 |ext m=>obtain⟨_,⟨_,e⟩,_⟩:=x;exact Heap.lt_size e
theorem Paired.CC{c d:Type}{F G:c->d->Prop}:∀{l₁:List c}{l₂:List d},Paired F l₁ l₂->(∀a b,F a b->G a b)->Paired G l₁ l₂
 |_,_,.nil,_=>.nil
 |_,_,.cons r t,f=>.cons (f _ _ r) (Paired.CC t f)
theorem bL.stay(x:bL P w H h a o)(k:∀b u,(b=a\/H b=some (.own a))->h.get? b=some u->h'.get? b=some u)
  (E:∀b,H b=some (.own a)->H' b=some (.own a)) (F:∀b xs,H b=some (.tup xs)->H' b=some (.tup xs)):bL P w H' h' a o:=by
 induction o with
 |lst xs=>obtain⟨z,l,n,r,e⟩:=x;exact⟨z,l,n,r,k _ _ (.inl rfl) e⟩
 |tup xs=>obtain⟨z,l,r,g,e,c⟩:=x;exact⟨z,l,r,g,k _ _ (.inl rfl) e,c⟩
 |dK m=>obtain⟨z,y,G,r,g,i,j,e,c⟩:=x;exact⟨z,y,G,r,g,i,j,k _ _ (.inl rfl) e,c⟩
 |dT m=>
  obtain⟨z,y,xs,r,g,i,j,e,c⟩:=x;exact⟨z,y,xs,Paired.CC r λp q z=>⟨z.1,F _ _ z.2.1,z.2.2⟩,g,i,j,k _ _ (.inl rfl) e,c⟩
 |set S n=>obtain⟨g,i,j,t,e,c⟩:=x;exact⟨g,i,j,t,k _ _ (.inl rfl) e,c⟩
 |ins C M I=>
  obtain⟨d,z,J,e,s,⟨A,i,j,K,c⟩,r⟩:=x;exact⟨E _ d,z,J,k _ _ (.inl rfl) e,s,⟨A,i,j,k _ _ (.inr d) K,c⟩,r⟩
 |own y=>obtain⟨g,e⟩:=x;exact⟨g,k _ _ (.inl rfl) e⟩
 |xd I=>obtain⟨s,⟨A,i,j,e,c⟩,r⟩:=x;exact⟨s,⟨A,i,j,k _ _ (.inl rfl) e,c⟩,r⟩
 |KL N O=>obtain⟨t,u,v,e⟩:=x;exact⟨t,u,v,k _ _ (.inl rfl) e⟩
 |dJ g u L=>obtain⟨e,q⟩:=x;exact⟨k _ _ (.inl rfl) e,L q⟩
 |CB B=>
  have e:h.get? a=some {cls:=.none,data:=.fields B}:=x
  show h'.get? a=some {cls:=.none,data:=.fields B}
  exact k a _ (.inl rfl) e
 |met f y=>
  have e:h.get? a=some (PySem.W.methodObj (.ref f) (.ref y)):=x
  show h'.get? a=some (PySem.W.methodObj (.ref f) (.ref y))
  exact k a _ (.inl rfl) e
 |ext Q=>obtain⟨p,⟨o,e⟩,D⟩:=x;exact⟨D _ _ p λo q=>k _ _ (.inl rfl) q,⟨o,k _ _ (.inl rfl) e⟩,D⟩
theorem g_.lt(x:g_ P w H h)(e:H a=some o):a<h.objs.size:=(x a o e).lt
theorem g_.fresh(x:g_ P w H h)(e:h.objs.size<=a):H a=none:=by
 cases q:H a with
 |none=>rfl
 |some u=>exact absurd (Nat.lt_of_lt_of_le (x.lt q) e) (Nat.lt_irrefl _)
theorem g_.kept(x:g_ P w H h)(k:∀b u,h.get? b=some u->h'.get? b=some u):g_ P w H h':=λa o e=>
 (x a o e).stay (λb u _ q=>k b u q) (λ_ q=>q) λ_ _ q=>q
theorem g_.laid(x:g_ P w H h)(k:∀b u,h.get? b=some u->h'.get? b=some u)(i:h.objs.size<=a)(d:bL P w (upd H a o) h' a o):g_ P w (upd H a o) h':=λb u e=>by
 have f:=x.fresh i
 by_cases g:b=a
 .subst g;rw[aN]at e;cases e;exact d
 .rw[aE g]at e
  exact(x b u e).stay (λc v _ q=>k c v q) (λc q=>by rw[aE (aY q f)];exact q) λc j q=>by rw[aE (aY q f)];exact q
end
def Rd(H:Hp)(a:Addr)(u:HO):Prop:=H a=some u\/∃o,H a=some (.dJ o u)
theorem Rd.ok{P:Program}{w:World}{H:Hp}{h:Heap}{a:Addr}{u:HO}(r:Rd H a u)(x:g_ P w H h):bL P w H h a u:=by
 rcases r with r|⟨o,r⟩
 .exact x a u r
 .obtain⟨_,q⟩:=x a _ r
  exact q
def Fc:Option HO->Prop
 |some (.lst _)=>True
 |some (.dK _)=>True
 |some (.dT _)=>True
 |some (.set _ _)=>True
 |some (.ins _ _ _)=>True
 |some (.ext _)=>True
 |_=>False
section
variable{P:Program}{w:World}{H:Hp}{h h':Heap}{x e:Addr}{o':HO}
theorem g_.write(ok:g_ P w H h)(g:Fc (H x))(n:e=x\/H e=some (.own x))(k:∀b u,b≠e->h.get? b=some u->h'.get? b=some u)(l:∃u,h'.get? e=some u)
  (m:bL P w (upd H x o') h' x o'):g_ P w (upd H x o') h':=λb u q=>by
 have d:∀c y,H c=some (.own y)->c≠x:=λc y r z=>by subst z;rw[r]at g;exact g
 have f:∀c i,H c=some (.tup i)->c≠x:=λc i r z=>by subst z;rw[r]at g;exact g
 by_cases j:b=x
 .subst j;rw[aN]at q;cases q;exact m
 .rw[aE j]at q
  by_cases a:b=e
  .have o:H b=some (.own x):=by
    rcases n with z|z
    .exact absurd (a.trans z) j
    .rw[a];exact z
   rw[q]at o;cases o
   obtain⟨v,p⟩:=l;exact⟨v,by rw[a];exact p⟩
  .refine(ok b u q).stay (λc v hc r=>k c v ?_ r) (λc r=>by rw[aE (d c b r)];exact r) λc i r=>by rw[aE (f c i r)];exact r
   rcases hc with rfl|hc
   .exact a
   .rintro rfl
    rcases n with z|z
    .exact d c b hc z
    .rw[hc]at z;cases z;exact j rfl
end
structure Un(fs ex:List Addr)(H H':Hp)(h h':Heap):Prop where
 keep:∀b o,h.get? b=some o->H b=none->b∉fs->b∉ex->h'.get? b=some o
 slot:∀b o,h.get? b=some o->H b=none->b∈fs->b∉ex->∃sl,h'.get? b=some {o with slots:=sl}
 free:∀b o,h.get? b=some o->H b=none->b∉ex->H' b=none
 there:∀b o,h.get? b=some o->b∉ex->∃o',h'.get? b=some o'
 tups:∀b xs,H b=some (.tup xs)->H' b=some (.tup xs)
 ij:∀b o u,H b=some (.dJ o u)->H' b=some (.dJ o u)
 ke:∀b ps,H b=some (.CB ps)->∃more,H' b=some (.CB (ps++more))
section
variable{fs fs' ex ex':List Addr}{H H1 H2:Hp}{h h1 h2 h':Heap}{a x e:Addr}{o:HO}
theorem Un.any(u:Un fs ex H H1 h h1){b:Addr}{ob:Obj}(q:h.get? b=some ob)(n:H b=none)(a:b∉ex):∃d,h1.get? b=some {ob with slots:=d}:=by
 by_cases c:b∈fs
 .exact u.slot b ob q n c a
 .exact⟨ob.slots,u.keep b ob q n c a⟩
theorem Un.trans(a:Un fs ex H H1 h h1)(b:Un fs ex H1 H2 h1 h2):Un fs ex H H2 h h2 where
 keep:=λc d q n g e=>b.keep c d (a.keep c d q n g e) (a.free c d q n e) g e
 slot:=λc d q n g e=>by
  obtain⟨o,f⟩:=a.slot c d q n g e;obtain⟨j,k⟩:=b.slot c _ f (a.free c d q n e) g e;exact⟨j,k⟩
 free:=λc d q n e=>by
  obtain⟨l,f⟩:=a.there c d q e;exact b.free c l f (a.free c d q n e) e
 there:=λc d q e=>by
  obtain⟨l,f⟩:=a.there c d q e;exact b.there c l f e
 tups:=λc i q=>b.tups c i (a.tups c i q)
 ij:=λc d i q=>b.ij c d i (a.ij c d i q)
 ke:=λc m q=>by
  obtain⟨m1,f⟩:=a.ke c m q;obtain⟨m2,k⟩:=b.ke c _ f;exact⟨m1++m2,by rw[k,Array.append_assoc]⟩
theorem Un.kept(k:∀b u,h.get? b=some u->h'.get? b=some u):Un fs ex H H h h':=
 ⟨λb a q _ _ _=>k b a q,λb a q _ _ _=>⟨a.slots,k b a q⟩,λ_ _ _ n _=>n,λb a q _=>⟨a,k b a q⟩,λ_ _ q=>q,λ_ _ _ q=>q,λ_ c q=>⟨#[],by rw[q];simp⟩⟩
theorem Un.refl:Un fs ex H H h h:=Un.kept λ_ _ q=>q
theorem Un.laid(k:∀b u,h.get? b=some u->h'.get? b=some u)(d:h.objs.size<=a)(c:H a=none):Un fs ex H (upd H a o) h h' where
 keep:=λb u q _ _ _=>k b u q
 slot:=λb u q _ _ _=>⟨u.slots,k b u q⟩
 free:=λb u q n _=>by rw[aE (Nat.ne_of_lt (Nat.lt_of_lt_of_le (Heap.lt_size q) d))];exact n
 there:=λb u q _=>⟨u,k b u q⟩
 tups:=λb e q=>by rw[aE (aY q c)];exact q
 ij:=λb u e q=>by rw[aE (aY q c)];exact q
 ke:=λb f q=>⟨#[],by rw[aE (aY q c),q];simp⟩
theorem Un.write(c:Fc (H x))(j:e=x\/H e=some (.own x))(k:∀b u,b≠e->h.get? b=some u->h'.get? b=some u)(d:∃u,h'.get? e=some u):Un fs ex H (upd H x o) h h':=by
 have g:∀b,H b=none->b≠x:=λb n z=>by subst z;rw[n]at c;exact c
 have i:∀b,H b=none->b≠e:=λb n z=>by
  subst z;rcases j with r|r
  .exact g b n r
  .rw[n]at r;cases r
 have f:∀b u,H b=some u->¬ Fc (some u)->b≠x:=λb u q l z=>by subst z;rw[q]at c;exact l c
 refine⟨λb u q n _ _=>k b u (i b n) q,λb u q n _ _=>⟨u.slots,k b u (i b n) q⟩,λb u q n _=>by rw[aE (g b n)];exact n,λb u q _=>?_,
  λb m q=>by rw[aE (f b _ q λz=>z)];exact q,λb u m q=>by rw[aE (f b _ q λz=>z)];exact q,λb p q=>⟨#[],by rw[aE (f b _ q λz=>z),q];simp⟩⟩
 by_cases a:b=e
 .subst a;exact d
 .exact⟨u,k b u a q⟩
end
noncomputable def Je(h:Heap)(H:Hp):List Addr:=(List.range h.objs.size).filter λa=>(H a).isSome
def mX(h:Heap)(H:Hp):Heap:=PySem.W.hideAll h (Je h H)
theorem uA(h:Heap)(H:Hp):(mX h H).objs.size=h.objs.size:=PySem.W.hideAll_size _ _
theorem vM{h:Heap}{H:Hp}{b:Addr}{o:Obj}(e:h.get? b=some o)(n:H b=none):(mX h H).get? b=some o:=
 PySem.W.hideAll_get _ e λa=>by
  have q:(H b).isSome=true:=(List.mem_filter.mp a).2;rw[n]at q;simp at q
theorem y9{h:Heap}{H:Hp}{b:Addr}{o:Obj}(e:(mX h H).get? b=some o):h.get? b=some o/\H b=none:=by
 have a:h.get? b=some o:=PySem.W.of_hideAll (Je h H) e;refine⟨a,?_⟩;cases q:H b with
 |none=>rfl
 |some x=>
  have c:b∈Je h H:=List.mem_filter.mpr ⟨List.mem_range.mpr (Heap.lt_size a),by simp[q]⟩
  have z:(mX h H).get? b=none:=PySem.W.hideAll_none (Je h H) c;rw[z]at e;cases e
noncomputable def y_(g h:Heap)(L:Addr):List (Addr×Obj):=(List.range h.objs.size).filterMap λa=>if a=L\/(g.get? a).isSome=true then none else (h.get? a).map λo=>(a,o)
def rest(g h:Heap)(L d:Addr):List (Addr×Obj):=(y_ g h L).filter λp=>decide (p.1≠d)
structure Mod(K:PySem.W.Frag)(mg:Str->Option Value)(base:Heap):Prop where
 Fd:K.In base
 glob:base.Ns mainGlobals mg
 blt:∃mb,base.Ns builtinsNs mb/\∀x:Str,x≠"__name__"->mb x=bootBuiltins x
 nolimit:base.NoLimit
structure Cx where
 prog:Program
 w:World
 K:PySem.W.Frag
 mg:Str->Option Value
 base:Heap
 A:Around
 N:List Str
 s₀:Shared
 H₀:Hp
 env:Env
 outer:List Env
 stack:List Env
 ex:List Addr
 fn:Str->Bool
 calm:Bool
 pn:List (Addr×Obj)
 xe:Value->Shared->Prop
noncomputable def frs(l:List Env):List Addr:=l.filterMap (·.frame)
abbrev Cx.fs(X:Cx):List Addr:=frs X.outer
def EK(a:Scope)(x:Str):Prop:=a.names.lookup x=some .local\/a.names.lookup x=some .cell\/a.names.lookup x=some .free
def Loc(a:Scope)(x:Str):Prop:=a.names.lookup x=some .local\/a.names.lookup x=some .cell
def Look(env:Env)(h:Heap)(m:Str->Option Value)(x:Str)(u:Value):Prop:=
 (env.kindOf x=some .local/\m x=some u)\/((env.kindOf x=some .cell\/env.kindOf x=some .free)/\∃c,env.cells.lookup x=some c/\h.IsCell c (some u))
structure Cx.Ok(X:Cx):Prop where
 mod:Mod X.K X.mg X.base
 kind:X.env.scope.kind=.function
 glob:X.env.globals=mainGlobals
 blt:X.env.builtins=builtinsNs
 above:X.s₀.heap.objs.size<=X.env.locals
 inj:∀x y c,X.env.cells.lookup x=some c->X.env.cells.lookup y=some c->x=y
 has:∀x,(X.env.kindOf x=some .cell\/X.env.kindOf x=some .free)->∃c,X.env.cells.lookup x=some c
 cab:∀x c,X.fn x=true->X.env.cells.lookup x=some c->X.s₀.heap.objs.size<=c
 hd:X.calm=true->X.A.handled=none
 frames:X.A.frames=some X.stack
 Jf:X.stack=X.outer\/(X.stack=X.env::X.outer/\X.env.frame=some X.env.locals)
 Jg:∀b∈X.ex,b≠X.env.locals/\∀x c,X.env.cells.lookup x=some c->c≠b
 bs:∀b o,X.base.get? b=some o->X.s₀.heap.get? b=some o/\X.H₀ b=none
 BN:X.base.objs.size<=X.s₀.heap.objs.size
 vO:∀b o,X.base.get? b=some o->b∉X.ex
 vP:∀b∈X.ex,b∉X.fs
 jz:X.s₀.heap.FunFrames X.base X.outer
 CD:∀b∈X.fs,X.H₀ b=none
structure Inv(X:Cx)(pins:List (Addr×Obj))(σ:List (Option V))(H:Hp)(s:Shared):Prop where
 ok:X.Ok
 os:s.os=X.s₀.os
 bare:AllBare s.gens
 base:Un X.fs X.ex X.H₀ H X.s₀.heap s.heap
 loc:∃m,s.heap.Ns X.env.locals m/\∀(i:Nat) (x:Str) (v:V),X.N[i]?=some x->σ[i]?=some (some v)->EK X.env.scope x->∃u,RelV v u/\Look X.env s.heap m x u
 cell:∀x c,X.env.cells.lookup x=some c->∃v,s.heap.IsCell c v
 free:H X.env.locals=none
 fT:∀x c,X.env.cells.lookup x=some c->(H c=none\/∃o u,H c=some (.dJ o u))/\(X.fn x=true->H c=none)
 pin:∀p∈X.pn++pins,s.heap.get? p.1=some p.2/\H p.1=none/\p.1≠X.env.locals/\p.1∉X.fs/\∀v,p.2.data≠.cell v
 hok:g_ X.prog X.w H s.heap
 len:σ.length=X.N.length
section
variable{X:Cx}{pins:List (Addr×Obj)}{σ:List (Option V)}{H H':Hp}{s:Shared}{h':Heap}
theorem Cx.Ok.KN(ok:X.Ok){b:Addr}{o:Obj}(e:X.base.get? b=some o):b∉X.fs:=λa=>by
 have:=(ok.jz.mem a).1;rw[e]at this;cases this
theorem Inv.bs(I:Inv X pins σ H s):∀b o,X.base.get? b=some o->s.heap.get? b=some o/\H b=none:=λb o e=>
 ⟨I.base.keep b o (I.ok.bs b o e).1 (I.ok.bs b o e).2 (I.ok.KN e) (I.ok.vO b o e),I.base.free b o (I.ok.bs b o e).1 (I.ok.bs b o e).2 (I.ok.vO b o e)⟩
theorem Inv.bk(I:Inv X pins σ H s):∀b o,X.base.get? b=some o->s.heap.get? b=some o:=λb o e=>(I.bs b o e).1
theorem Inv.mod(I:Inv X pins σ H s):Mod X.K X.mg X.base:=I.ok.mod
theorem Inv.iZ(I:Inv X pins σ H s):X.K.In s.heap:=I.ok.mod.Fd.keeps I.bk
theorem Inv.lt(I:Inv X pins σ H s):X.env.locals<s.heap.objs.size:=let ⟨_,a,_⟩:=I.loc;a.lt
theorem Inv.sz(I:Inv X pins σ H s):X.s₀.heap.objs.size<=s.heap.objs.size:=Nat.le_trans I.ok.above (Nat.le_of_lt I.lt)
theorem Inv.KO(I:Inv X pins σ H s){a:Addr}(h:s.heap.objs.size<=a):a∉X.fs:=λb=>by
 obtain⟨_,o,c,_⟩:=I.ok.jz.mem b;exact absurd (Nat.lt_of_lt_of_le (Heap.lt_size c) (Nat.le_trans I.sz h)) (Nat.lt_irrefl _)
theorem Inv.KP(I:Inv X pins σ H s):∀x c,X.env.cells.lookup x=some c->c≠X.env.locals:=λx c e z=>by
 obtain⟨v,o,d,f⟩:=I.cell x c e;obtain⟨m,⟨g,h,i,a,b,_⟩,_⟩:=I.loc;rw[z,a]at d;cases d;rw[b]at f;cases f
theorem Inv.jz(I:Inv X pins σ H s):s.heap.FunFrames X.base X.outer:=by
 have a:∀(l:List Env),(∀b∈frs l,b∈X.fs)->X.s₀.heap.FunFrames X.base l->s.heap.FunFrames X.base l:=by
  intro l
  induction l with
  |nil=>intro _ _;trivial
  |cons h r i=>
   intro g j;obtain⟨k,⟨L,o,c,m,n,p⟩,q⟩:=j;have d:L∈X.fs:=g L (by unfold frs;rw[List.filterMap_cons,c];exact List.mem_cons_self)
   obtain⟨t,e⟩:=I.base.slot L o n (I.ok.CD L d) d λz=>I.ok.vP L z d
   exact⟨k,⟨L,_,c,m,e,p⟩,i (λb f=>g b (by unfold frs;rw[List.filterMap_cons,c];exact List.mem_cons_of_mem _ f)) q⟩
 exact a X.outer (λ_ f=>f) I.ok.jz
theorem Inv.stack(I:Inv X pins σ H s):s.heap.FunFrames X.base X.stack:=by
 rcases I.ok.Jf with e|⟨e,a⟩
 .rw[e];exact I.jz
 .rw[e]
  obtain⟨m,b,_⟩:=I.loc;refine .cons (by rw[I.ok.kind];decide) a b ?_ I.jz
  exact Heap.get?_none_of_le (Nat.le_trans I.ok.BN I.ok.above)
theorem Inv.qH(I:Inv X pins σ H s):∀b∈frs X.stack,b∈X.env.locals::X.fs:=λb a=>by
 rcases I.ok.Jf with e|⟨e,c⟩
 .rw[e]at a;exact List.mem_cons_of_mem _ a
 .rw[e]at a
  unfold frs at a;rw[List.filterMap_cons,c]at a;exact a
theorem Inv.sH(I:Inv X pins σ H s):∀b∈frs X.stack,H b=none:=λb hb=>by
 rcases List.mem_cons.mp (I.qH b hb)with e|hb
 .rw[e];exact I.free
 .obtain⟨_,o,a,_⟩:=I.ok.jz.mem hb
  exact I.base.free b o a (I.ok.CD b hb) λz=>I.ok.vP b z hb
theorem Inv.step{g':Array GenState}{t':Nat}{d':Drawn}{ch:List Addr}(I:Inv X pins σ H s)
  (h:∀b∈ch,(b∈X.ex\/X.s₀.heap.objs.size<=b)/\b≠X.env.locals/\(∀x c,X.env.cells.lookup x=some c->c≠b)/\∀p∈X.pn++pins,p.1≠b)
  (keep:∀b o,b≠X.env.locals->b∉X.fs->b∉ch->s.heap.get? b=some o->H b=none->h'.get? b=some o)
  (slot:∀b o,b≠X.env.locals->b∈X.fs->b∉ch->s.heap.get? b=some o->H b=none->∃M,h'.get? b=some {o with slots:=M}) (free:∀b o,b∉ch->s.heap.get? b=some o->H b=none->H' b=none)
  (there:∀b o,b∉ch->s.heap.get? b=some o->∃E,h'.get? b=some E)
  (tups:∀b xs,H b=some (.tup xs)->H' b=some (.tup xs)) (ij:∀b o u,H b=some (.dJ o u)->H' b=some (.dJ o u)) (ke:∀b ps,H b=some (.CB ps)->∃more,H' b=some (.CB (ps++more)))
  (ns:∀m,s.heap.Ns X.env.locals m->h'.Ns X.env.locals m) (F:g_ X.prog X.w H' h') (S:AllBare g') :
  Inv X pins σ H' {s with heap:=h',gens:=g',drawn:=d',toks:=t' }:=by
 have G:∀b o,X.s₀.heap.get? b=some o->b≠X.env.locals:=λb o e=>Nat.ne_of_lt (Nat.lt_of_lt_of_le (Heap.lt_size e) I.ok.above)
 have t:∀b o,X.s₀.heap.get? b=some o->b∉X.ex->b∉ch:=λb o e f A=>by
  rcases(h b A).1 with z|z
  .exact f z
  .exact absurd (Nat.lt_of_lt_of_le (Heap.lt_size e) z) (Nat.lt_irrefl _)
 have j:∀x c,X.env.cells.lookup x=some c->∀v,s.heap.IsCell c v->h'.IsCell c v:=λx c e v ⟨o,y,J⟩=>by
  have a:c∉ch:=λz=>(h c z).2.2.1 x c e rfl
  rcases(I.fT x c e).1 with C|⟨D,K,L⟩
  .by_cases O:c∈X.fs
   .obtain⟨M,q⟩:=slot c o (I.KP x c e) O a y C
    exact⟨_,q,J⟩
   .exact⟨o,keep c o (I.KP x c e) O a y C,J⟩
  .have g:s.heap.get? c=some D:=(I.hok c _ L).1
   have B:h'.get? c=some D:=(F c _ (ij c D K L)).1;rw[y]at g;cases g
   exact⟨o,B,J⟩
 refine⟨I.ok,I.os,S,⟨λb o e n A f=>?_,λb o e n A f=>?_,λb o e n f=>?_,λb o e f=>?_,λb xs e=>tups b xs (I.base.tups b xs e),λb o xs e=>ij b o xs (I.base.ij b o xs e),λb ps e=>?_⟩,?_,λx c e=>?_,?_,λx c e=>?_,λp P=>?_,F,I.len⟩
 .exact keep b o (G b o e) A (t b o e f) (I.base.keep b o e n A f) (I.base.free b o e n f)
 .obtain⟨M,g⟩:=I.base.slot b o e n A f
  obtain⟨N,B⟩:=slot b _ (G b o e) A (t b o e f) g (I.base.free b o e n f);exact⟨N,B⟩
 .obtain⟨E,g⟩:=I.base.there b o e f
  exact free b E (t b o e f) g (I.base.free b o e n f)
 .obtain⟨E,g⟩:=I.base.there b o e f
  exact there b E (t b o e f) g
 .obtain⟨m1,g⟩:=I.base.ke b ps e
  obtain⟨m2,B⟩:=ke b _ g;exact⟨m1++m2,by rw[B,Array.append_assoc]⟩
 .obtain⟨m,C,T⟩:=I.loc
  refine⟨m,ns m C,λi x v g B U=>?_⟩
  obtain⟨u,r,l⟩:=T i x v g B U;refine⟨u,r,?_⟩;rcases l with l|⟨k,c,e,z⟩
  .exact .inl l
  .exact .inr ⟨k,c,e,j x c e _ z⟩
 .obtain⟨v,z⟩:=I.cell x c e
  exact⟨v,j x c e v z⟩
 .obtain⟨m,⟨o,_,_,y,_⟩,_⟩:=I.loc
  exact free _ o (λz=>(h _ z).2.1 rfl) y I.free
 .obtain⟨v,o,y,J⟩:=I.cell x c e
  have a:c∉ch:=λz=>(h c z).2.2.1 x c e rfl
  refine⟨?_,λV=>free c o a y ((I.fT x c e).2 V)⟩
  rcases(I.fT x c e).1 with C|⟨D,K,L⟩
  .exact .inl (free c o a y C)
  .exact .inr ⟨D,K,ij c D K L⟩
 .obtain⟨e,n,Q,R,d⟩:=I.pin p P
  have a:p.1∉ch:=λz=>(h p.1 z).2.2.2 p P rfl
  exact⟨keep p.1 p.2 Q R a e n,free p.1 p.2 a e n,Q,R,d⟩
theorem Inv.un{t':Nat}(I:Inv X pins σ H s)(u:Un X.fs [] H H' s.heap h')(c:g_ X.prog X.w H' h'):Inv X pins σ H' {s with heap:=h',toks:=t' }:=by
 obtain⟨m,⟨o,l,p,h,r⟩,_⟩:=id I.loc;obtain⟨q,i⟩:=u.any h I.free (by simp)
 exact I.step (g':=s.gens) (d':=s.drawn) (ch:=[]) (λ_ z=>nomatch z) (λb o _ d _ e n=>u.keep b o e n d (by simp)) (λb o _ d _ e n=>u.slot b o e n d (by simp)) (λb o _ e n=>u.free b o e n (by simp)) (λb o _ e=>u.there b o e (by simp)) u.tups u.ij u.ke (λt j=>by
  obtain⟨x,f,g,a,k⟩:=j;rw[h]at a;cases a
  exact⟨_,f,g,i,k⟩) c I.bare
theorem Inv.call{g':Array GenState}{t':Nat}{d':Drawn}{ch:List Addr}(I:Inv X pins σ H s)(u:Un (frs X.stack) ch H H' s.heap h')(g:g_ X.prog X.w H' h')(l:AllBare g')
  (d:∀b∈ch,(b∈X.ex\/X.s₀.heap.objs.size<=b)/\b≠X.env.locals/\(∀x c,X.env.cells.lookup x=some c->c≠b)/\∀p∈X.pn++pins,p.1≠b) :
  Inv X pins σ H' {s with heap:=h',gens:=g',drawn:=d',toks:=t' }:=by
 obtain⟨m,⟨o,A,B,k,r⟩,_⟩:=id I.loc;obtain⟨C,h⟩:=u.any k I.free λz=>(d _ z).2.1 rfl
 exact I.step (ch:=ch) d (λb o h q a e n=>u.keep b o e n (λz=>(List.mem_cons.mp (I.qH b z)).elim h q) a) (λb o _ _ a e n=>u.any e n a) (λb o a e n=>u.free b o e n a) (λb o a e=>u.there b o e a) u.tups u.ij u.ke (λD t=>by
  obtain⟨E,i,j,f,y⟩:=t;rw[k]at f;cases f
  exact⟨_,i,j,h,y⟩) g l
theorem Inv.turned{t':Nat}{it:Addr}(I:Inv X pins σ H s)(k:∀b o,b≠it->s.heap.get? b=some o->h'.get? b=some o)(g:H it=none)(f:it≠X.env.locals)
  (h:it∈X.ex\/X.s₀.heap.objs.size<=it) (i:∀x c,X.env.cells.lookup x=some c->c≠it) (j:∀p∈X.pn++pins,p.1≠it):Inv X pins σ H {s with heap:=h',toks:=t' }:=by
 have d:∀b u,H b=some u->b≠it:=λb u e z=>by rw[z,g]at e;cases e
 refine I.step (g':=s.gens) (d':=s.drawn) (ch:=[it]) (λb l=>?_) (λb o _ _ a e _=>k b o (λz=>a (by simp[z])) e) (λb o _ _ a e _=>⟨o.slots,k b o (λz=>a (by simp[z])) e⟩) (λ_ _ _ _ n=>n)
  (λb o a e=>⟨o,k b o (λz=>a (by simp[z])) e⟩) (λ_ _ e=>e) (λ_ _ _ e=>e) (λb B e=>⟨#[],by rw[e];simp⟩) (λm t=>?_) (λb u e=>?_) I.bare
 .have e:b=it:=by simpa using l
  subst e;exact⟨h,f,i,j⟩
 .obtain⟨o,w,y,A,r⟩:=t
  exact⟨o,w,y,k _ o (Ne.symm f) A,r⟩
 .refine(I.hok b u e).stay (λc v a q=>k c v ?_ q) (λ_ q=>q) λ_ _ q=>q
  rcases a with z|z
  .rw[z];exact d b u e
  .exact d c _ z
theorem Inv.tok(I:Inv X pins σ H s)(t:Nat):Inv X pins σ H {s with toks:=t}:=I.un (h':=s.heap) (t':=t) Un.refl I.hok
theorem Inv.kept{t':Nat}(I:Inv X pins σ H s)(k:∀b u,s.heap.get? b=some u->h'.get? b=some u):Inv X pins σ H {s with heap:=h',toks:=t' }:=I.un (Un.kept k) (I.hok.kept k)
theorem Inv.laid{a:Addr}{o:HO}{t':Nat}(I:Inv X pins σ H s)(k:∀b u,s.heap.get? b=some u->h'.get? b=some u)(c:s.heap.objs.size<=a)(d:bL X.prog X.w (upd H a o) h' a o) :
  Inv X pins σ (upd H a o) {s with heap:=h',toks:=t' }:=I.un (Un.laid k c (I.hok.fresh c)) (I.hok.laid k c d)
theorem Inv.write{x e:Addr}{o:HO}{t':Nat}(I:Inv X pins σ H s)(d:Fc (H x))(f:e=x\/H e=some (.own x))(k:∀b u,b≠e->s.heap.get? b=some u->h'.get? b=some u)(a:∃u,h'.get? e=some u)
  (c:bL X.prog X.w (upd H x o) h' x o):Inv X pins σ (upd H x o) {s with heap:=h',toks:=t' }:=I.un (Un.write d f k a) (I.hok.write d f k a c)
theorem Inv.weak{a:List (Option V)}(I:Inv X pins σ H s)(c:a.length=σ.length)(w:∀(i:Nat) v,a[i]?=some (some v)->σ[i]?=some (some v)):Inv X pins a H s:=
 ⟨I.ok,I.os,I.bare,I.base,let ⟨m,d,b⟩:=I.loc;⟨m,d,λi x v e f g=>b i x v e (w i v f) g⟩,I.cell,I.free,I.fT,I.pin,I.hok,c.trans I.len⟩
theorem Inv.sI{a:List (Addr×Obj)}(I:Inv X pins σ H s)(h:∀p∈a,s.heap.get? p.1=some p.2/\H p.1=none/\p.1≠X.env.locals/\p.1∉X.fs/\∀v,p.2.data≠.cell v):Inv X a σ H s:=
 ⟨I.ok,I.os,I.bare,I.base,I.loc,I.cell,I.free,I.fT,λp b=>(List.mem_append.mp b).elim (λz=>I.pin p (List.mem_append_left _ z)) (h p),I.hok,I.len⟩
theorem oW{N:List Str}(c:N.Nodup){i j:Nat}{x:Str}(a:N[i]?=some x)(b:N[j]?=some x):i=j:=by
 obtain⟨f,d⟩:=List.getElem?_eq_some_iff.mp a;obtain⟨g,e⟩:=List.getElem?_eq_some_iff.mp b;exact(List.getElem_inj c).mp (d.trans e.symm)
theorem lW{M:Model}{A:Around}{E:Value->Shared->Prop}{i:Nat}{x:Str}{v:V}{u:Value}{Q:Unit->Shared->Prop}(I:Inv X pins σ H s)(hN:X.N.Nodup)(O:X.N[i]?=some x)(t:Loc X.env.scope x)(r:RelV v u)
  (h:∀s',Inv X pins (σ.set i (some v)) H s'->(∃a,Heap.SameBut a s.heap s'.heap/\(a=X.env.locals\/X.env.cells.lookup x=some a))->Q () s') (hf:X.fn x=true\/X.env.scope.names.lookup x=some .local:=by first|exact .inl rfl|exact .inr rfl|assumption):wpAny M A (storeName X.env x u) Q E s:=by
 obtain⟨m,hn,hl⟩:=id I.loc;have P:(X.env.scope.kind==.class||(X.env.scope.kind==.module&&X.env.locals != X.env.globals))=false:=by rw[I.ok.kind];rfl
 have F:i<σ.length:=by rw[I.len];exact(List.getElem?_eq_some_iff.mp O).1
 have G:=I.KP
 have g:∀{a:Addr}{L:Heap},(∃o,s.heap.get? a=some o/\H a=none)->Heap.SameBut a s.heap L->g_ X.prog X.w H L:=λ{a L} ha f b ob e=>by
  obtain⟨_,_,B⟩:=ha;refine(I.hok b ob e).stay (λc Y hc q=>(f.2 c ?_).trans q) (λ_ q=>q) λ_ _ q=>q
  rintro rfl;rcases hc with rfl|hc
  .rw[B]at e;cases e
  .rw[B]at hc;cases hc
 rcases t with hk|hk
 .refine wpAny_storeName_local hk hn (λL a0 f=>?_) P
  obtain⟨oL,_,_,b0,_⟩:=id hn;refine h _ ⟨I.ok,I.os,I.bare,⟨λb o e n J t=>?_,λb o e n J t=>?_,I.base.free,λb o e t=>?_,I.base.tups,I.base.ij,I.base.ke⟩,⟨_,a0,λj y v' l C e3=>?_⟩,λy c e=>?_,I.free,I.fT,λp hp=>?_,g ⟨oL,b0,I.free⟩ f,by simpa using I.len⟩ ⟨_,f,.inl rfl⟩
  .exact(f.2 b (Nat.ne_of_lt (Nat.lt_of_lt_of_le (Heap.lt_size e) I.ok.above))).trans (I.base.keep b o e n J t)
  .obtain⟨sl,l⟩:=I.base.slot b o e n J t
   exact⟨sl,(f.2 b (Nat.ne_of_lt (Nat.lt_of_lt_of_le (Heap.lt_size e) I.ok.above))).trans l⟩
  .obtain⟨o',l⟩:=I.base.there b o e t
   exact⟨o',(f.2 b (Nat.ne_of_lt (Nat.lt_of_lt_of_le (Heap.lt_size e) I.ok.above))).trans l⟩
  .by_cases K:j=i
   .subst K
    rw[O]at l;cases l
    rw[List.getElem?_set_self F]at C;cases C;exact⟨u,r,.inl ⟨hk,by simp⟩⟩
   .rw[List.getElem?_set_ne (Ne.symm K)]at C
    obtain⟨u',r',q⟩:=hl j y v' l C e3;refine⟨u',r',?_⟩;rcases q with ⟨k,e⟩|⟨k,c,e,z⟩
    .refine .inl ⟨k,?_⟩
     have:y≠x:=λe=>K (oW hN l (e▸O))
     simp[this,e]
    .exact .inr ⟨k,c,e,z.sameBut f (G y c e)⟩
  .obtain⟨Y,z⟩:=I.cell y c e
   exact⟨Y,z.sameBut f (G y c e)⟩
  .obtain⟨e,n,Z,nf,d⟩:=I.pin p hp
   exact⟨(f.2 p.1 Z).trans e,n,Z,nf,d⟩
 .have D:X.fn x=true:=by
   rcases hf with z|z
   .exact z
   .rw[z]at hk;cases hk
  obtain⟨c,hc⟩:=I.ok.has x (.inl hk);obtain⟨Y,z⟩:=I.cell x c hc;refine wpAny_storeName_cell I.ok.kind hk hc z (λL R f=>?_)
  obtain⟨oc,S,T⟩:=id z;refine h {s with heap:=L} ⟨I.ok,I.os,I.bare,⟨λb o e n J t=>?_,λb o e n J t=>?_,I.base.free,λb o e t=>?_,I.base.tups,I.base.ij,I.base.ke⟩,⟨m,hn.sameBut f (Ne.symm (G x c hc)),λj y v' l C e3=>?_⟩,λy c' e=>?_,I.free,I.fT,λp hp=>?_,g ⟨oc,S,(I.fT x c hc).2 D⟩ f,by simpa using I.len⟩ ⟨c,f,.inr hc⟩
  .exact(f.2 b (Nat.ne_of_lt (Nat.lt_of_lt_of_le (Heap.lt_size e) (I.ok.cab x c D hc)))).trans (I.base.keep b o e n J t)
  .obtain⟨sl,l⟩:=I.base.slot b o e n J t
   exact⟨sl,(f.2 b (Nat.ne_of_lt (Nat.lt_of_lt_of_le (Heap.lt_size e) (I.ok.cab x c D hc)))).trans l⟩
  .obtain⟨o',l⟩:=I.base.there b o e t
   exact⟨o',(f.2 b (Nat.ne_of_lt (Nat.lt_of_lt_of_le (Heap.lt_size e) (I.ok.cab x c D hc)))).trans l⟩
  .by_cases K:j=i
   .subst K
    rw[O]at l;cases l
    rw[List.getElem?_set_self F]at C;cases C;exact⟨u,r,.inr ⟨.inl hk,c,hc,R⟩⟩
   .rw[List.getElem?_set_ne (Ne.symm K)]at C
    obtain⟨u',r',q⟩:=hl j y v' l C e3;refine⟨u',r',?_⟩;rcases q with q|⟨k,c',e,z'⟩
    .exact .inl q
    .refine .inr ⟨k,c',e,z'.sameBut f ?_⟩
     rintro rfl;exact K (oW hN l (I.ok.inj _ _ _ e hc▸O))
  .by_cases U:c'=c
   .subst U;exact⟨_,R⟩
   .obtain⟨w2,z2⟩:=I.cell y c' e
    exact⟨w2,z2.sameBut f U⟩
  .obtain⟨e,n,Z,nf,d⟩:=I.pin p hp
   refine⟨(f.2 p.1 ?_).trans e,n,Z,nf,d⟩;intro q;rw[q,S]at e;have q':oc=p.2:=Option.some.inj e;exact d Y (by rw[←q'];exact T)
theorem oX{M:Model}{A:Around}{E:Value->Shared->Prop}{i:Nat}{x:Str}{v:V}{u:Value}{Q:Unit->Shared->Prop}(I:Inv X pins σ H s)(b:X.N.Nodup)(c:X.N[i]?=some x)(d:Loc X.env.scope x)(r:RelV v u)
  (h:∀a,Inv X pins (σ.set i (some v)) H a->Q () a) (e:X.fn x=true\/X.env.scope.names.lookup x=some .local:=by first|exact .inl rfl|exact .inr rfl|assumption):wpAny M A (storeName X.env x u) Q E s:=
 lW I b c d r (λa f _=>h a f) e
theorem Inv.call'{a:Shared}{ch:List Addr}(I:Inv X pins σ H s)(g:a.os=s.os)(u:Un (frs X.stack) ch H H' s.heap a.heap)(d:g_ X.prog X.w H' a.heap)(h:AllBare a.gens)
  (f:∀b∈ch,(b∈X.ex\/X.s₀.heap.objs.size<=b)/\b≠X.env.locals/\(∀x c,X.env.cells.lookup x=some c->c≠b)/\∀p∈X.pn++pins,p.1≠b):Inv X pins σ H' a:=by
 obtain⟨j,g',d',t',i⟩:=a;have e:i=s.os:=g;subst e;exact I.call (g':=g') (t':=t') (d':=d') u d h f
end
abbrev XK:=Value->Option Addr->Hp->Prop
abbrev St:=List (Option V)
abbrev VK:=V->Hp->Prop
abbrev TE:=St->Hp->VK->Prop
abbrev TT:=St->Hp->(Bool->Hp->Prop)->Prop
abbrev TA:=St->Hp->(List V->Hp->Prop)->Prop
structure Ends where
 nx:St->Hp->Prop
 rt:VK
 bk:St->Hp->Prop:=λ_ _=>False
 ct:St->Hp->Prop:=λ_ _=>False
abbrev TS:=Ends->St->Hp->Prop
def EP(X:Cx)(pins:List (Addr×Obj))(b:St)(Q:VK)(u:Value)(c:Shared):Prop:=∃v a,Inv X pins b a c/\RelV v u/\Q v a
def TP(X:Cx)(pins:List (Addr×Obj))(c:St)(Q:Bool->Hp->Prop)(b:Bool)(d:Shared):Prop:=∃a,Inv X pins c a d/\Q b a
def AP(X:Cx)(pins:List (Addr×Obj))(c:St)(Q:List V->Hp->Prop)(us:List Value)(d:Shared):Prop:=∃a b,Inv X pins c b d/\Vals a us/\Q a b
def SP(X:Cx)(pins:List (Addr×Obj))(D:Ends)(f:Flow)(c:Shared):Prop:=
 match f with
 |.next=>∃a b,Inv X pins a b c/\D.nx a b
 |.brk=>∃a b,Inv X pins a b c/\D.bk a b
 |.cont=>∃a b,Inv X pins a b c/\D.ct a b
 |.ret u=>∃v a b,Inv X pins a b c/\RelV v u/\D.rt v b
def PE(X:Cx)(e:Expr)(t:TE):Prop:=
 ∀(pins:List (Addr×Obj)) (s:Shared) (a:St) (H:Hp) (Q:VK),Inv X pins a H s->t a H Q->wpAny (model X.prog X.w) X.A (eval e X.env) (EP X pins a Q) X.xe s
def PT(X:Cx)(e:Expr)(t:TT):Prop:=
 ∀(pins:List (Addr×Obj)) (s:Shared) (a:St) (H:Hp) (Q:Bool->Hp->Prop),Inv X pins a H s->t a H Q->wpAny (model X.prog X.w) X.A (isTrue e X.env (eval e X.env)) (TP X pins a Q) X.xe s
def PW(X:Cx)(e:Expr)(t:TT):Prop:=
 ∀(a:Sem Value) (pins:List (Addr×Obj)) (s:Shared) (b:St) (H:Hp) (Q:Bool->Hp->Prop),Inv X pins b H s->t b H Q->wpAny (model X.prog X.w) X.A (isTrue e X.env a) (TP X pins b Q) X.xe s
theorem PW.pt{X:Cx}{e:Expr}{t:TT}(h:PW X e t):PT X e t:=h _
def PA(X:Cx)(es:List Expr)(t:TA):Prop:=
 ∀(a:Pos) (pins:List (Addr×Obj)) (s:Shared) (b:St) (H:Hp) (Q:List V->Hp->Prop),Inv X pins b H s->t b H Q->wpAny (model X.prog X.w) X.A (spliced (backTo a (starEach es X.env))) (AP X pins b Q) X.xe s
def PS(X:Cx)(st:Stmt)(t:TS):Prop:=
 ∀(pins:List (Addr×Obj)) (s:Shared) (a:St) (H:Hp) (D:Ends),Inv X pins a H s->t D a H->wpAny (model X.prog X.w) X.A (exec st X.env) (SP X pins D) X.xe s
def jA(X:Cx)(st:List Stmt)(t:TS):Prop:=
 ∀(pins:List (Addr×Obj)) (s:Shared) (a:St) (H:Hp) (D:Ends),Inv X pins a H s->t D a H->wpAny (model X.prog X.w) X.A (execs st X.env) (SP X pins D) X.xe s
theorem bZ{b:Type}{t:Sem b}{Q Q':b->Shared->Prop}{M:Model}{A:Around}{E:Value->Shared->Prop}{s:Shared}(h:wpAny M A t Q E s)(c:∀a s,Q a s->Q' a s):wpAny M A t Q' E s:=wpAny_mono h c λ_ _ x=>x
section
variable{X:Cx}
noncomputable def KQ(i:Nat):TE:=λa H Q=>∃v,a[i]?=some (some v)/\Q v H
noncomputable def tC(v:V):TE:=λ_ H Q=>Q v H
theorem CF{i:Nat}{x:Str}{pos:Pos}(j:X.N[i]?=some x)(k:EK X.env.scope x)(d:(x==("__debug__":Str))=false:=by decide)(f:(x==("__classdict__":Str))=false:=by decide):PE X (.Name x pos) (KQ i):=by
 intro pins s n H Q I h;obtain⟨v,e,h⟩:=h;obtain⟨m,o,p⟩:=I.loc;obtain⟨u,r,l⟩:=p i x v j e k;have b:EP X pins n Q u s:=⟨v,H,I,r,h⟩;rcases l with ⟨hk,q⟩|⟨hk,c,g,a⟩
 .exact wpAny_Name (wpAny_loadName_local I.ok.kind hk o q b) d
 .rcases hk with hk|hk
  .exact wpAny_Name (wpAny_loadName_cell I.ok.kind hk g a b) d
  .exact wpAny_Name (wpAny_loadName_free I.ok.kind hk g a b f) d
theorem vQ{i j pos}:PE X (.Constant (.int i) j pos) (tC (.int i)):=λ_ _ _ H _ I h=>wpAny_Constant_int ⟨.int i,H,I.tok _,⟨_,rfl⟩,h⟩
theorem Fe{b j pos}:PE X (.Constant (.bool b) j pos) (tC (.bl b)):=λ_ _ _ H _ I h=>Constant_bool ⟨.bl b,H,I,rfl,h⟩
theorem CG{j pos}:PE X (.Constant .none j pos) (tC .non):=λ_ _ _ H _ I h=>Constant_none ⟨.non,H,I,rfl,h⟩
theorem qI{x j pos}:PE X (.Constant (.str x) j pos) (tC (.str x)):=λ_ _ _ H _ I h=>Calls.Constant_str ⟨.str x,H,I.tok _,⟨_,rfl⟩,h⟩
def Gl(X:Cx)(x:Str):Prop:=X.env.kindOf x=some .globalImplicit
theorem ik{E:Value->Shared->Prop}{pins:List (Addr×Obj)}{s:Shared}{a:St}{H:Hp}{x:Str}{u:Value}{pos:Pos}{Q:Value->Shared->Prop}(I:Inv X pins a H s)(b:Gl X x)(c:X.mg x=some u)(h:Q u s)
  (d:(x==("__debug__":Str))=false:=by decide):wpAny (model X.prog X.w) X.A (eval (.Name x pos) X.env) Q E s:=
 Calls.Name_function_global I.ok.kind b (Calls.loadGlobal_global (by rw[I.ok.glob];exact I.mod.glob.keeps I.bk) c h) d
theorem fU{E:Value->Shared->Prop}{pins:List (Addr×Obj)}{s:Shared}{a:St}{H:Hp}{x:Str}{u:Value}{pos:Pos}{Q:Value->Shared->Prop}(I:Inv X pins a H s)(b:Gl X x)(c:X.mg x=none)(d:bootBuiltins x=some u)(h:Q u s)
  (e:x≠"__name__":=by decide) (f:(x==("__debug__":Str))=false:=by decide):wpAny (model X.prog X.w) X.A (eval (.Name x pos) X.env) Q E s:=by
 obtain⟨j,g,i⟩:=I.mod.blt;exact Calls.Name_function_global I.ok.kind b (Calls.loadGlobal_builtin (by rw[I.ok.glob];exact I.mod.glob.keeps I.bk) c (by rw[I.ok.blt];exact g.keeps I.bk) ((i x e).trans d) h) f
theorem za{x:Str}{v:V}{u:Value}{pos:Pos}(a:Gl X x)(b:X.mg x=some u)(r:RelV v u)(c:(x==("__debug__":Str))=false:=by decide):PE X (.Name x pos) (tC v):=
 λ_ _ _ H _ I h=>ik I a b ⟨v,H,I,r,h⟩ c
theorem zb{x:Str}{v:V}{u:Value}{pos:Pos}(a:Gl X x)(b:X.mg x=none)(c:bootBuiltins x=some u)(r:RelV v u)(d:x≠"__name__":=by decide)(e:(x==("__debug__":Str))=false:=by decide):PE X (.Name x pos) (tC v):=
 λ_ _ _ H _ I h=>fU I a b c ⟨v,H,I,r,h⟩ d e
variable{a b:Expr}{ta tb:TE}{pos:Pos}
variable{tA Jh:TT}{rest:List Expr}
noncomputable def KR(t u:TT):TT:=λa H Q=>t a H λc b=>if c=true then u a b Q else Q false b
noncomputable def SI(t u:TT):TT:=λa H Q=>t a H λc b=>if c=true then Q true b else u a b Q
noncomputable def KS(t:TT):TT:=λa H Q=>t a H λc b=>Q (!c) b
theorem pw_and1(b:PT X a tA):PW X (.BoolOp .And [a] pos) tA:=by
 intro f pins s d H Q I h;refine isTrue_and (bZ (b pins s d H Q I h) λc g e=>?_)
 cases c with
 |true=>exact isTrue_and_nil e
 |false=>exact e
theorem pw_or1(b:PT X a tA):PW X (.BoolOp .Or [a] pos) tA:=by
 intro f pins s d H Q I h;refine isTrue_or (bZ (b pins s d H Q I h) λc g e=>?_)
 cases c with
 |false=>exact isTrue_or_nil e
 |true=>exact e
theorem pw_and(f:PT X a tA)(g:PW X (.BoolOp .And (b::rest) pos) Jh):PW X (.BoolOp .And (a::b::rest) pos) (KR tA Jh):=by
 intro i pins s d H Q I h;refine isTrue_and (bZ (f pins s d H _ I h) λc j ⟨e,I1,q1⟩=>?_)
 cases c with
 |true=>exact g i pins j d e Q I1 q1
 |false=>exact⟨e,I1,q1⟩
theorem pw_or(f:PT X a tA)(g:PW X (.BoolOp .Or (b::rest) pos) Jh):PW X (.BoolOp .Or (a::b::rest) pos) (SI tA Jh):=by
 intro i pins s d H Q I h;refine isTrue_or (bZ (f pins s d H _ I h) λc j ⟨e,I1,q1⟩=>?_)
 cases c with
 |true=>exact⟨e,I1,q1⟩
 |false=>exact g i pins j d e Q I1 q1
theorem CH(b:PT X a tA):PT X (.UnaryOp .Not a pos) (KS tA):=by
 intro pins s d H Q I h;exact isTrue_not (b pins s d H (λc e=>Q (!c) e) I h)
theorem CI{op}{t:TE}(h:PE X a t):PE X (.BoolOp op [a] pos) t:=λpins s b H Q I c=>BoolOp_one (h pins s b H Q I c)
noncomputable def EL(t:TT)(d tb:TE):TE:=λa H Q=>t a H λc b=>if c=true then d a b Q else tb a b Q
theorem vR{c:Expr}(i:PT X c tA)(j:PE X a ta)(k:PE X b tb):PE X (.IfExp c a b pos) (EL tA ta tb):=by
 intro pins s e H Q I h;refine wpAny_IfExp (bZ (i pins s e H _ I h) λd f ⟨g,I1,q1⟩=>?_)
 cases d with
 |true=>exact j pins f e g Q I1 q1
 |false=>exact k pins f e g Q I1 q1
end
def jM(K:PySem.W.Frag)(H:Hp)(a:Addr)(xs:List V):Prop:=
 Rd H a (.lst xs) \/
  ∃(o:Obj) (b:Array Value) (n:Nat),K.lookup a=some o/\o.cls=.type "list"/\o.dict=none/\o.data=.seq b n/\b.size<=sizeLine/\Vals xs b.toList
def qJ(K:PySem.W.Frag)(H:Hp)(a:Addr)(xs:List V):Prop:=
 Rd H a (.tup xs) \/
  ∃(o:Obj) (b:Array Value) (n:Nat),K.lookup a=some o/\o.cls=.type "tuple"/\o.data=.seq b n/\b.size<=sizeLine/\Vals xs b.toList
noncomputable def KU:Value->Option V
 |.none=>some .non
 |.bool b=>some (.bl b)
 |.int i _=>some (.int i)
 |.str x _=>some (.str x)
 |.bytes b _=>some (.EJ b)
 |.float b _=>some (.flt b)
 |.ref a=>some (.ref a)
 |.type n=>some (.ty n)
 |_=>none
theorem RelV.abs{x:V}{u:Value}(r:RelV x u):KU u=some x:=by
 cases x with
 |non=>cases r;rfl
 |bl _=>cases r;rfl
 |int _=>obtain⟨t,rfl⟩:=r;rfl
 |str _=>obtain⟨t,rfl⟩:=r;rfl
 |EJ _=>obtain⟨t,rfl⟩:=r;rfl
 |flt _=>obtain⟨t,rfl⟩:=r;rfl
 |ref _=>cases r;rfl
 |ty _=>cases r;rfl
theorem RelV.inj{x y:V}{u:Value}(r:RelV x u)(q:RelV y u):x=y:=Option.some.inj (r.abs.symm.trans q.abs)
theorem Vals.inj:∀{xs a:List V}{us:List Value},Vals xs us->Vals a us->xs=a
 |_,_,_,.nil,.nil=>rfl
 |_,_,_,.cons r t,.cons b c=>by rw[r.inj b,Vals.inj t c]
section
variable{X:Cx}{pins:List (Addr×Obj)}{σ:St}{H:Hp}{s:Shared}{a:Addr}{xs ys:List V}
theorem Inv.list(I:Inv X pins σ H s)(h:jM X.K H a xs):∃b:List Value,Vals xs b/\PlainL s.heap a b.toArray/\xs.length<=sizeLine:=by
 rcases h with h|⟨o,b,n,c,d,f,g,i,r⟩
 .obtain⟨z,b,n,r,e⟩:=h.ok I.hok
  exact⟨b,r,⟨_,n,e,rfl,rfl,rfl⟩,z⟩
 .refine⟨b.toList,r,⟨o,n,I.iZ a o c,d,f,by simpa using g⟩,?_⟩
  have e:=r.length;simp only[Array.length_toList]at e;omega
theorem Inv.tuple(I:Inv X pins σ H s)(h:qJ X.K H a xs):∃b:List Value,Vals xs b/\IsTup s.heap a b.toArray/\xs.length<=sizeLine:=by
 rcases h with h|⟨o,b,n,c,d,f,g,r⟩
 .obtain⟨z,b,r,p⟩:=h.ok I.hok
  exact⟨b,r,p,z⟩
 .refine⟨b.toList,r,⟨o,I.iZ a o c,d,n,by simpa using f⟩,?_⟩
  have e:=r.length;simp only[Array.length_toList]at e;omega
theorem Inv.oY(I:Inv X pins σ H s)(h:jM X.K H a xs)(h':jM X.K H a ys):xs=ys:=by
 obtain⟨c,r,⟨o,n,e,_,_,d⟩,_⟩:=I.list h;obtain⟨b,i,⟨j,k,f,_,_,g⟩,_⟩:=I.list h';rw[e]at f;cases f
 rw[d]at g;injection g with d1 _;have:c=b:=by simpa using congrArg Array.toList d1
 subst this;exact r.inj i
theorem Inv.uB(I:Inv X pins σ H s)(h:qJ X.K H a xs)(h':qJ X.K H a ys):xs=ys:=by
 obtain⟨c,r,⟨o,e,_,n,d⟩,_⟩:=I.tuple h;obtain⟨b,i,⟨j,f,_,k,g⟩,_⟩:=I.tuple h';rw[e]at f;cases f
 rw[d]at g;injection g with d1 _;have:c=b:=by simpa using congrArg Array.toList d1
 subst this;exact r.inj i
end
abbrev Cx.wish(X:Cx)(E:Value->Shared->Prop):Cx:={X with xe:=E}
abbrev Cx.CJ(X:Cx):Cx:=X.wish λ_ _=>False
theorem Cx.Ok.wish{X:Cx}(ok:X.Ok)(E:Value->Shared->Prop):(X.wish E).Ok:=
 ⟨ok.mod,ok.kind,ok.glob,ok.blt,ok.above,ok.inj,ok.has,ok.cab,ok.hd,ok.frames,ok.Jf,ok.Jg,ok.bs,ok.BN,ok.vO,ok.vP,ok.jz,ok.CD⟩
theorem Cx.Ok.fV{X:Cx}{E:Value->Shared->Prop}(ok:(X.wish E).Ok):X.Ok:=
 ⟨ok.mod,ok.kind,ok.glob,ok.blt,ok.above,ok.inj,ok.has,ok.cab,ok.hd,ok.frames,ok.Jf,ok.Jg,ok.bs,ok.BN,ok.vO,ok.vP,ok.jz,ok.CD⟩
section
variable{X:Cx}{pins:List (Addr×Obj)}{σ:St}{H:Hp}{s:Shared}{E:Value->Shared->Prop}
theorem Inv.wish(I:Inv X pins σ H s)(E:Value->Shared->Prop):Inv (X.wish E) pins σ H s:=⟨I.ok.wish E,I.os,I.bare,I.base,I.loc,I.cell,I.free,I.fT,I.pin,I.hok,I.len⟩
theorem Inv.fV(I:Inv (X.wish E) pins σ H s):Inv X pins σ H s:=⟨I.ok.fV,I.os,I.bare,I.base,I.loc,I.cell,I.free,I.fT,I.pin,I.hok,I.len⟩
theorem SP.fV{D:Ends}{f:Flow}{c:Shared}(h:SP (X.wish E) pins D f c):SP X pins D f c:=by
 cases f with
 |next=>obtain⟨a,b,I,q⟩:=h;exact⟨a,b,I.fV,q⟩
 |brk=>obtain⟨a,b,I,q⟩:=h;exact⟨a,b,I.fV,q⟩
 |cont=>obtain⟨a,b,I,q⟩:=h;exact⟨a,b,I.fV,q⟩
 |ret u=>obtain⟨v,a,b,I,r,q⟩:=h;exact⟨v,a,b,I.fV,r,q⟩
theorem jA.CJ{st:List Stmt}{t:TS}(h:jA X.CJ st t):jA X st t:=λpins s a H D I b=>
 wpAny_mono (h pins s a H D (I.wish _) b) (λ_ _ q=>q.fV) λ_ _ z=>False.elim z
end
section
variable{X:Cx}{st:Stmt}{rest:List Stmt}{t u:TS}{e:Expr}{te:TE}{pos:Pos}
noncomputable def Ff:TS:=λD a H=>D.nx a H
noncomputable def KW(t u:TS):TS:=λD a H=>t {D with nx:=u D} a H
theorem zc:jA X [] Ff:=λ_ _ a H _ I h=>wpAny_execs_nil ⟨a,H,I,h⟩
theorem vS(b:PS X st t)(c:jA X rest u):jA X (st::rest) (KW t u):=by
 intro pins s d H D I h;refine wpAny_execs_cons (bZ (b pins s d H {D with nx:=u D} I h) λf e q=>?_)
 cases f with
 |next=>
  obtain⟨a,g,i,q⟩:=q;exact c pins e a g D i q
 |ret v=>exact q
 |brk=>exact q
 |cont=>exact q
theorem Inv.quiet{pins:List (Addr×Obj)}{a:St}{H:Hp}{s:Shared}(I:Inv X pins a H s):interactive X.env=false:=by simp[interactive,I.ok.kind]
noncomputable def Fg(b:TE):TS:=λD a H=>b a H λ_ c=>D.nx a c
theorem zd(b:PE X e te)(c:swapsWith e none pos.line X.env=pure false:=by rfl):PS X (.Expr e pos) (Fg te):=by
 intro pins s a H D I h;exact wpAny_Expr_any (bZ (b pins s a H _ I h) λv d ⟨x,H1,I1,r1,q1⟩=>⟨a,H1,I1,q1⟩) I.quiet c
noncomputable def KY(a:TE):TS:=λD b H=>a b H D.rt
theorem CL(b:PE X e te):PS X (.Return (some e) pos) (KY te):=by
 intro pins s a H D I h;exact wpAny_Return_some (bZ (b pins s a H _ I h) λv c ⟨x,H1,I1,r1,q1⟩=>⟨x,a,H1,I1,r1,q1⟩)
noncomputable def Fh:TS:=λD _ H=>D.rt .non H
theorem ze:PS X (.Return none pos) Fh:=λ_ _ a H _ I h=>wpAny_Return_none ⟨.non,a,H,I,rfl,h⟩
noncomputable def KZ(c:TT)(t u:TS):TS:=λD a H=>c a H λb d=>if b=true then t D a d else u D a d
theorem Fi{c:Expr}{a b:List Stmt}{f:TT}(j:PT X c f)(k:jA X a t)(l:jA X b u):PS X (.If c a b pos) (KZ f t u):=by
 intro pins s e H D I h;refine wpAny_If (bZ (j pins s e H _ I h) λd g ⟨i,I1,q1⟩=>?_)
 cases d with
 |true=>exact k pins g e i D I1 q1
 |false=>exact l pins g e i D I1 q1
end
abbrev TG:=V->St->Hp->(St->Hp->Prop)->Prop
abbrev BO:=List V->St->Hp->(St->Hp->Prop)->Prop
def PG(X:Cx)(a:Expr)(t:TG):Prop:=
 ∀(pins:List (Addr×Obj)) (s:Shared) (c:St) (H:Hp) (v:V) (u:Value) (Q:St->Hp->Prop),Inv X pins c H s->RelV v u->t v c H Q ->
  wpAny (model X.prog X.w) X.A (assign a X.env u) (λ_ e=>∃b d,Inv X pins b d e/\Q b d) X.xe s
def Fj(X:Cx)(f:List Expr)(t:BO):Prop:=
 ∀(pins:List (Addr×Obj)) (s:Shared) (b:St) (H:Hp) (c:List V) (d:List Value) (Q:St->Hp->Prop),Inv X pins b H s->Vals c d->t c b H Q ->
  wpAny (model X.prog X.w) X.A (assignInOrder ((assignEach f X.env).map (·.2)) d) (λ_ g=>∃a e,Inv X pins a e g/\Q a e) X.xe s
abbrev K9:=V->V->V->Hp->(Hp->Prop)->Prop
def K_(X:Cx)(t:K9):Prop:=
 ∀(pins:List (Addr×Obj)) (s:Shared) (a:St) (H:Hp) (o i v:V) (b c u:Value) (Q:Hp->Prop),Inv X pins a H s->RelV o b->RelV i c->RelV v u->t o i v H Q ->
  wpAny (model X.prog X.w) X.A (setItem b c u) (λ_ e=>∃d,Inv X pins a d e/\Q d) X.xe s
section
variable{X:Cx}{pos:Pos}
noncomputable def gT(i:Nat):TG:=λv a H Q=>Q (a.set i (some v)) H
theorem mY{i:Nat}{x:Str}(a:X.N.Nodup)(b:X.N[i]?=some x)(c:Loc X.env.scope x)(d:X.fn x=true\/X.env.scope.names.lookup x=some .local:=by first|exact .inl rfl|exact .inr rfl|assumption):PG X (.Name x pos) (gT i):=by
 intro pins s f H v u Q I r h;exact wpAny_assign_Name (oX I a b c r (λg e=>⟨_,H,e,h⟩) d)
noncomputable def Fl:BO:=λa b H Q=>a=[]/\Q b H
noncomputable def BP(t:TG)(u:BO):BO:=λb c H Q=>∃v r,b=v::r/\t v c H λa d=>u r a d Q
theorem zf:Fj X [] Fl:=by
 intro pins s a H b c Q I r h;obtain⟨e,h⟩:=h;subst e;cases r;exact assignInOrder_nil ⟨a,H,I,h⟩
theorem vT{e:Expr}{es:List Expr}{t:TG}{u:BO}(b:PG X e t)(c:Fj X es u)
  (d:(assignEach (e::es) X.env).map (·.2)=assign e X.env::(assignEach es X.env).map (·.2):=by rfl):Fj X (e::es) (BP t u):=by
 intro pins s f H k l Q I r h;obtain⟨v,vr,g,h⟩:=h;subst g;cases r with
 |cons r i=>
  rw[d];refine assignInOrder_cons (bZ (b pins s f H _ _ _ I r h) λ_ j ⟨a,H1,I1,q1⟩=>?_)
  exact c pins j a H1 _ _ Q I1 i q1
noncomputable def zg(K:PySem.W.Frag)(n:Nat)(t:BO):TG:=λv c H Q=>∃a b,v=.ref a/\qJ K H a b/\b.length=n/\t b c H Q
theorem CM{es:List Expr}{k:Nat}{t:BO}{n:Nat}(i:X.calm=true)(h:Fj X es t)
  (j:(assignEach es X.env).length=n:=by rfl) (c:(assignEach es X.env).findIdx? (·.1)=none:=by rfl):PG X (.Tuple es k pos) (zg X.K n t):=by
 intro pins s f H v u Q I r d;obtain⟨a,l,m,p,q,d⟩:=d;subst m;cases r;obtain⟨w,g,x,B⟩:=I.tuple p;refine assign_Tuple_tuple (I.ok.hd i) x (by simp[j,←q,g.length]) c λy z=>?_
 have A:Inv X pins f H {s with heap:=y}:=I.kept (t':=s.toks) λb o e=>z b o (Nat.ne_of_lt (Heap.lt_size e)) e
 exact h pins _ f H l _ Q A (by simpa using g) d
noncomputable def CN(b:TE)(g:TG):TS:=λD a H=>b a H λx c=>g x a c D.nx
theorem CO{a e:Expr}{b:TE}{g:TG}(d:PE X e b)(f:PG X a g)(i:swapsWithSole [a] e pos.line X.env=pure false:=by rfl)(j:swappedStores [a] e X.env=pure none:=by rfl)
  (k:(assignEach [a] X.env).map (·.2)=[assign a X.env]:=by rfl):PS X (.Assign [a] e pos) (CN b g):=by
 intro pins s c H D I h;refine wpAny_Assign_stores (bZ (d pins s c H _ I h) λv l ⟨x,H1,I1,r1,q1⟩=>?_) i j
 rw[k];exact bZ (f pins l c H1 x v _ I1 r1 q1) λ_ m q=>q
theorem CP{i:Nat}{x:Str}{e:Expr}{b:TE}{a:Pos}(c:X.N.Nodup)(d:X.N[i]?=some x)(f:Loc X.env.scope x)(g:PE X e b)(j:swapsWith e (some (.Name x a)) pos.line X.env=pure false:=by rfl)(k:X.fn x=true\/X.env.scope.names.lookup x=some .local:=by first|exact .inl rfl|exact .inr rfl|assumption) :
  PS X (.Assign [.Name x a] e pos) (CN b (gT i)):=by
 intro pins s l H D I h;refine wpAny_Assign_Name (bZ (g pins s l H _ I h) λv r ⟨y,m,n,o,p⟩=>?_) j
 exact oX n c d f o (λt q=>⟨_,m,q,p⟩) k
noncomputable def CQ(c:TT)(tb:TS):TS:=λD a H=>∃W:Nat->St->Hp->Prop,(∃m,W m a H)/\∀m a H,W m a H ->
 c a H λb e=>if b=true then ∃N:St->Hp->Prop,(∀d f,N d f->∃g,g<m/\W g d f)/\tb {D with nx:=N,ct:=N,bk:=D.nx} a e else D.nx a e
theorem vU{c:Expr}{body:List Stmt}{r:TT}{tb:TS}(t:PassesOwn (model X.prog X.w) X.A X.env X.xe)(B:PT X c r)(C:jA X body tb):PS X (.While c body [] pos) (CQ r tb):=by
 intro pins s E H D I h;obtain⟨W,⟨F,G⟩,e⟩:=h;refine wpAny_While (codeAny_whileLoop (λn J=>∃g u,Inv X pins g u J/\W n g u) ?_ F ⟨E,H,I,G⟩)
 rintro n K ⟨d,x,L,M⟩;refine wpAny_passesOwn t (bZ (B pins K d x _ L (e n d x M)) λb O ⟨y,I2,j⟩=>?_)
 cases b with
 |true=>
  obtain⟨N,z,j⟩:=j;rw[if_pos rfl];refine wpAny_passesOwn t (bZ (C pins O d y _ I2 j) λf P k=>?_)
  cases f with
  |next=>
   obtain⟨a,i,l,m⟩:=k;obtain⟨o,p,q⟩:=z a i m;exact⟨o,p,a,i,l,q⟩
  |cont=>
   obtain⟨a,i,l,m⟩:=k;obtain⟨o,p,q⟩:=z a i m;exact⟨o,p,a,i,l,q⟩
  |brk=>exact k
  |ret v=>exact k
 |false=>
  rw[if_neg Bool.false_ne_true];exact wpAny_execs_nil ⟨d,y,I2,j⟩
end
structure It where
 go:Nat->Hp->Prop
 Ji:Nat->Hp->V->Hp->Prop
 stop:Nat->Hp->Prop
def lL(X:Cx)(pins:List (Addr×Obj))(H:Hp)(b:Addr):Prop:=
 H b=none/\b≠X.env.locals/\b∉X.fs/\(b∈X.ex\/X.s₀.heap.objs.size<=b)/\(∀x c,X.env.cells.lookup x=some c->c≠b)/\∀p∈X.pn++pins,p.1≠b
theorem Inv.uC{X:Cx}{pins:List (Addr×Obj)}{f:St}{H d:Hp}{s:Shared}{b:Addr}(I:Inv X pins f H s)(a:s.heap.objs.size<=b)(g:d b=none):lL X pins d b:=by
 refine⟨g,Nat.ne_of_gt (Nat.lt_of_lt_of_le I.lt a),I.KO a,.inr (Nat.le_trans I.sz a),λx c e z=>?_,λp h z=>?_⟩
 .obtain⟨v,q⟩:=I.cell x c e
  exact absurd (Nat.lt_of_lt_of_le q.lt (by rw[z];exact a)) (Nat.lt_irrefl _)
 .exact absurd (Nat.lt_of_lt_of_le (Heap.lt_size (I.pin p h).1) (by rw[z];exact a)) (Nat.lt_irrefl _)
structure Turn(P:Program)(w:World)(K:PySem.W.Frag)(tg:Expr)(J:It)(fp:List Addr)(it:Addr)(tn:Nat->Heap->Prop):Prop where
 mem:it∈fp
 obj:∀i h,tn i h->∀b∈fp,∃o,h.get? b=some o/\∀v,o.data≠.cell v
 keep:∀i h h',tn i h->(∀b∈fp,∀o,h.get? b=some o->h'.get? b=some o)->tn i h'
 item:∀(X:Cx),X.prog=P->X.w=w->X.K=K->X.calm=true->∀(i:Nat) (pins:List (Addr×Obj)) (s:Shared) (σ:St) (H:Hp) (E:Value->Shared->Prop),Inv X pins σ H s->(∀b∈fp,lL X pins H b)->tn i s.heap->J.go i H ->
  wpAny (model P w) X.A (pyNext (.ref it)) (λr s1=>∃u,r=some u /\
   wpAny (model P w) X.A (letOwnedTupleGo tg (.ref it) u) (λ_ s2=>∃x H',Inv X pins σ H' s2/\RelV x u/\J.Ji i H x H'/\tn (i+1) s2.heap/\∀b∈fp,H' b=none) E s1) E s
 done:∀(X:Cx),X.prog=P->X.w=w->X.K=K->X.calm=true->∀(i:Nat) (pins:List (Addr×Obj)) (s:Shared) (σ:St) (H:Hp) (E:Value->Shared->Prop),Inv X pins σ H s->(∀b∈fp,lL X pins H b)->tn i s.heap->J.stop i H ->
  wpAny (model P w) X.A (pyNext (.ref it)) (λr s1=>r=none/\Inv X pins σ H s1) E s
 self:∀(A:Around) (i:Nat) (s:Shared) (Q:Value->Shared->Prop) (E:Value->Shared->Prop),tn i s.heap->Q (.ref it) s->wpAny (model P w) A (pyIter (.ref it)) Q E s
abbrev TI:=St->Hp->(It->Hp->Prop)->Prop
def PIE(X:Cx)(pins:List (Addr×Obj))(h:St)(i:Expr)(R:It->Hp->Prop)(a:Value)(d:Shared):Prop:=
 ∃(e:Addr) (f:List Addr) (g:Nat->Heap->Prop) (J:It) (c:Hp),a=.ref e/\Inv X pins h c d/\Turn X.prog X.w X.K i J f e g/\g 0 d.heap/\(∀b∈f,lL X pins c b)/\R J c
def PI(X:Cx)(b iter:Expr)(c:TI):Prop:=
 ∀(pins:List (Addr×Obj)) (s:Shared) (a:St) (H:Hp) (R:It->Hp->Prop),Inv X pins a H s->c a H R ->
  wpAny (model X.prog X.w) X.A (eval iter X.env) (λv d=>wpAny (model X.prog X.w) X.A (pyIter v) (PIE X pins a b R) X.xe d) X.xe s
theorem lX{M:Model}{A:Around}{E:Value->Shared->Prop}{s:Shared}{b:Expr}{it:Addr}{u:Value}{o:Obj}{n:String}{vs:Array Value}{Q:Unit->Shared->Prop}(c:s.heap.get? it=some o)(d:o.cls=.type n)(e:o.data=.fields vs)
    (f:["enumerate","zip","dict_itemiterator","dict_reverseitemiterator","odict_iterator","itertools.zip_longest","itertools.pairwise"].contains n=false) (a:Q () s):wpAny M A (letOwnedTupleGo b (.ref it) u) Q E s:=by
  unfold letOwnedTupleGo
  cases b<;>first
    |exact wpAny_pure a
    | (cases u<;>first
        |exact wpAny_pure a
        | (refine wpAny_bind (wpAny_load c ?_)
           rw[d,e]
           show wpAny M A (if (["enumerate","zip","dict_itemiterator","dict_reverseitemiterator","odict_iterator","itertools.zip_longest","itertools.pairwise"].contains n&&vs[0]?==some (rawInt _))=true then _ else _) Q E s
           rw[if_neg (by intro h;rw[f,Bool.false_and]at h;cases h)]
           exact wpAny_pure a))
noncomputable def La(K:PySem.W.Frag)(a:Addr):It:=
 ⟨λi H=>∃b x,jM K H a b/\b[i]?=some x,λi H x c=>c=H/\∀b,jM K H a b->b[i]?=some x,λi H=>∃b,jM K H a b/\b.length<=i⟩
noncomputable def Lb(K:PySem.W.Frag)(a:Addr):It:=
 ⟨λi H=>∃b x,qJ K H a b/\b[i]?=some x,λi H x c=>c=H/\∀b,qJ K H a b->b[i]?=some x,λi H=>∃b,qJ K H a b/\b.length<=i⟩
noncomputable def Fm(a:Int)(n:Nat):It:=⟨λi _=>i<n,λi H x b=>b=H/\x=.int (a+i),λi _=>n<=i⟩
theorem uD{P:Program}{w:World}{K:PySem.W.Frag}{O:Expr}(a it:Addr):Turn P w K O (La K a) [it] it (λi h=>h.IsListIter it a i) where
 mem:=by simp
 obj:=λi h f b g=>by
  have e:b=it:=by simpa using g
  subst e;obtain⟨o,e,c,d⟩:=f;exact⟨o,e,λv z=>by rw[d]at z;cases z⟩
 keep:=λi h l f k=>f.at λo e=>k it (by simp) o e
 item:=by
  intro X q r t M i pins s N H E I m f y;subst q r t;obtain⟨Q,x,n,A⟩:=y;obtain⟨B,C,p,R⟩:=I.list n;obtain⟨u,S,T⟩:=C.get A;obtain⟨D,F,U,G,J,L⟩:=m it (by simp)
  refine wpAny_pyNext_list_item f p.isList (x:=u) (by simpa using S) λl j V=>?_
  have Y:Inv X pins N H {s with heap:=l}:=I.turned (t':=s.toks) (λb o g e=>(V.2 b g).trans e) D F G J L
  obtain⟨o,e,c,d⟩:=id j;exact⟨u,rfl,lX (s:={s with heap:=l}) e c d (by decide) ⟨x,H,Y,T,⟨rfl,λys Z=>by rw[I.oY Z n];exact A⟩,j,λb g=>(m b g).1⟩⟩
 done:=by
  intro X q r t M i pins s N H E I m f y;subst q r t;obtain⟨Q,n,A⟩:=y;obtain⟨B,C,p,R⟩:=I.list n;obtain⟨D,F,U,G,J,L⟩:=m it (by simp)
  have hl:=C.length;exact wpAny_pyNext_list_end (I.ok.hd M) f p.isList (by simp;omega) λl eb=>⟨rfl,I.turned (t':=s.toks) (λb o g e=>eb b o g e) D F G J L⟩
 self:=λ_ _ _ _ _ f h=>wpAny_pyIter_listiter f h
theorem qK{P:Program}{w:World}{K:PySem.W.Frag}{O:Expr}(a it:Addr):Turn P w K O (Lb K a) [it] it (λi h=>h.IsTupleIter it a i) where
 mem:=by simp
 obj:=λi h f b g=>by
  have e:b=it:=by simpa using g
  subst e;obtain⟨o,e,c,d⟩:=f;exact⟨o,e,λv z=>by rw[d]at z;cases z⟩
 keep:=λi h m f k=>f.at λo e=>k it (by simp) o e
 item:=by
  intro X r t y M i pins s N H E I n f A;subst r t y;obtain⟨Q,x,q,B⟩:=A;obtain⟨j,C,p,R⟩:=I.tuple q;obtain⟨u,S,T⟩:=C.get B;obtain⟨D,F,U,G,J,L⟩:=n it (by simp)
  refine wpAny_pyNext_tuple_item f (show s.heap.IsTuple a j.toArray from p) (x:=u) (by simpa using S) λm l V=>?_
  have Y:Inv X pins N H {s with heap:=m}:=I.turned (t':=s.toks) (λb o g e=>(V.2 b g).trans e) D F G J L
  obtain⟨o,e,c,d⟩:=id l;exact⟨u,rfl,lX (s:={s with heap:=m}) e c d (by decide) ⟨x,H,Y,T,⟨rfl,λys Z=>by rw[I.uB Z q];exact B⟩,l,λb g=>(n b g).1⟩⟩
 done:=by
  intro X r t y M i pins s N H E I n f A;subst r t y;obtain⟨Q,q,B⟩:=A;obtain⟨j,C,p,R⟩:=I.tuple q;obtain⟨D,F,U,G,J,L⟩:=n it (by simp)
  have hl:=C.length;exact wpAny_pyNext_tuple_end (I.ok.hd M) f (show s.heap.IsTuple a j.toArray from p) (by simp;omega) λm eb=>⟨rfl,I.turned (t':=s.toks) (λb o g e=>eb b o g e) D F G J L⟩
 self:=λ_ _ _ _ _ f h=>wpAny_pyIter_tupleiter f h
theorem qL{P:Program}{w:World}{K:PySem.W.Frag}{F:Expr}(it:Addr)(f:Int)(n:Nat):Turn P w K F (Fm f n) [it] it (λi h=>IsRangeIter h it (f+(i:Nat)*1) ((n:Int) - (i:Nat)) 1) where
 mem:=by simp
 obj:=λi h a b c=>by
  have e:b=it:=by simpa using c
  subst e
  exact⟨_,a,λv z=>by
   have G:Data.fields _=Data.cell v:=z;cases G⟩
 keep:=λi h g a k=>k it (by simp) _ a
 item:=by
  intro X l m p q i pins s C H E I j a r;subst l m p;obtain⟨u,x,J,y,A,B⟩:=j it (by simp)
  have W:=Walks.range (prog:=X.prog) (w:=X.w) (I.ok.hd q) it f 1 n;refine W.item i s _ _ r a λv g D L d M=>?_
  obtain⟨t,rfl⟩:=L;have N:Inv X pins C H {s with heap:=g,toks:=D}:=I.turned (λb o c e=>M b o (by simpa using c) e) u x y A B
  refine⟨_,rfl,lX (s:={s with heap:=g,toks:=D}) (n:="range_iterator") d rfl rfl (by decide) ⟨.int (f+i),H,N,⟨t,?_⟩,⟨rfl,rfl⟩,d,λb c=>(j b c).1⟩⟩
  rw[Int.mul_one]
 done:=by
  intro X l m p q i pins s C H E I j a r;subst l m p;obtain⟨u,x,J,y,A,B⟩:=j it (by simp)
  exact wpAny_pyNext_range_end (I.ok.hd q) a (by have:n<=i:=r;omega) λg O=>⟨rfl,I.turned (t':=s.toks) (λb o c e=>O b o c e) u x y A B⟩
 self:=λ_ _ _ _ _ a h=>wpAny_pyIter_rangeiter a h
section
variable{X:Cx}{tg:Expr}
theorem vV{pins:List (Addr×Obj)}{d:St}{H:Hp}{s:Shared}{R:It->Hp->Prop}{E:Value->Shared->Prop}{a c:Int}{t u v:Tok}{f:Nat}(I:Inv X pins d H s)(h : -(2 ^ 62)<=a)(i:a<2 ^ 62)(j : -(2 ^ 62)<=c)(k:c<2 ^ 62)
  (q:R (Fm a (c - a).toNat) H):wpAny (model X.prog X.w) X.A (pyIter (.ref s.heap.objs.size)) (PIE X pins d tg R) E {s with heap:=s.heap.push {cls:=.type "range",data:=.fields #[.int a t,.int c u,.int 1 v]},toks:=f}:=by
 refine wpAny_pyIter_range (IsRange.new ..) (small_one h i j k) ?_;have g:Inv X pins d H {s with heap:=s.heap.push {cls:=.type "range",data:=.fields #[.int a t,.int c u,.int 1 v]},toks:=f}:=I.kept λb o e=>Heap.get?_push_of_some _ e
 refine⟨(s.heap.push {cls:=.type "range",data:=.fields #[.int a t,.int c u,.int 1 v]}).objs.size,[(s.heap.push {cls:=.type "range",data:=.fields #[.int a t,.int c u,.int 1 v]}).objs.size],_,_,H,rfl,
  g.kept (t':=f) λb o e=>Heap.get?_push_of_some _ e,qL _ a (c - a).toNat,?_,λb l=>?_,q⟩
 .have m:a+((0:Nat):Int)*1=a:=by simp
  have n:(((c - a).toNat:Nat):Int) - ((0:Nat):Int)=Builtin.Range.rangeSize a c 1:=by rw[rangeSize_one];split<;>omega
  show IsRangeIter _ _ (a+((0:Nat):Int)*1) ((((c - a).toNat:Nat):Int) - ((0:Nat):Int)) 1
  rw[m,n];exact Heap.get?_push_size _ rfl
 .have e:b=(s.heap.push {cls:=.type "range",data:=.fields #[.int a t,.int c u,.int 1 v]}).objs.size:=by simpa using l
  subst e;exact g.uC (Nat.le_refl _) (g.hok.fresh (Nat.le_refl _))
def Fo(a:TA):TI:=λb H R=>a b H λc d=>∃j:Int,c=[.int j] /\ -(2 ^ 62)<=j/\j<2 ^ 62/\R (Fm 0 j.toNat) d
theorem uE{a:Expr}{c:TA}{p pos:Pos}(d:Gl X "range")(f:X.mg "range"=none)(g:PA X [a] c)(i:starEach [a] X.env=[(false,eval a X.env)]:=by rfl):PI X tg (.Call (.Name "range" p) [a] [] pos) (Fo c):=by
 intro pins s k H R I h;refine Call_ (fU I d f boot_range (PyProof.Rows.callWith_type1 (bZ (g pos pins s k H _ I h) λo u ⟨w,H1,I1,l,b⟩=>?_) i rfl))
 obtain⟨j,e,b,m,q⟩:=b;subst e;cases l with
 |cons r n=>
  cases n;obtain⟨t,rfl⟩:=r;exact call_range_1 (vV I1 (by omega) (by omega) b m (by simpa using q))
noncomputable def Lc(f:TI)(g:TG)(tb:TS):TS:=λD a H=>f a H λJ h=>∃W:Nat->Nat->St->Hp->Prop,(∃m,W 0 m a h)/\∀i m a H,W i m a H ->
 (J.stop i H/\D.nx a H)\/(J.go i H/\∃N:St->Hp->Prop,(∀b c,N b c->∃e,e<m/\W (i+1) e b c)/\∀x c,J.Ji i H x c->g x a c λd j=>tb {D with nx:=N,ct:=N,bk:=D.nx} d j)
noncomputable def kf(fp:List Addr)(h:Heap):List (Addr×Obj):=fp.filterMap λb=>(h.get? b).map λo=>(b,o)
theorem fj{fp:List Addr}{h:Heap}{b:Addr}{o:Obj}(a:b∈fp)(e:h.get? b=some o):(b,o)∈kf fp h:=List.mem_filterMap.mpr ⟨b,a,by rw[e];rfl⟩
theorem uF{fp:List Addr}{h:Heap}{p:Addr×Obj}(a:p∈kf fp h):p.1∈fp/\h.get? p.1=some p.2:=by
 obtain⟨b,c,e⟩:=List.mem_filterMap.mp a;cases q:h.get? b with
 |none=>rw[q]at e;cases e
 |some o=>
  rw[q]at e;have d:(b,o)=p:=Option.some.inj e;subst d;exact⟨c,q⟩
theorem Inv.pinned{pins:List (Addr×Obj)}{a:St}{H:Hp}{s:Shared}{fp:List Addr}(I:Inv X pins a H s)(g:∀b∈fp,lL X pins H b)(h:∀b∈fp,∃o,s.heap.get? b=some o/\∀v,o.data≠.cell v):Inv X (pins++kf fp s.heap) a H s:=
 I.sI λp i=>(List.mem_append.mp i).elim (λz=>I.pin p (List.mem_append_right _ z)) λz=>by
  obtain⟨c,e⟩:=uF z;obtain⟨j,k,l,_⟩:=g p.1 c;obtain⟨o,f,d⟩:=h p.1 c;rw[e]at f;cases f
  exact⟨e,j,k,l,d⟩
theorem Inv.il{pins pl:List (Addr×Obj)}{a:St}{H:Hp}{s:Shared}(I:Inv X (pins++pl) a H s):Inv X pins a H s:=I.sI λp b=>I.pin p (List.mem_append_right _ (List.mem_append_left _ b))
theorem CS{iter:Expr}{body:List Stmt}{R:TI}{g:TG}{tb:TS}{pos:Pos}(z:PassesOwn (model X.prog X.w) X.A X.env X.xe)(S:X.calm=true)(hi:PI X tg iter R)(hg:PG X tg g)(c:jA X body tb)
  (hs:∀x,foldedSetIterable iter X.env x=pure x:=by intro _;rfl):PS X (.For tg iter body [] pos) (Lc R g tb):=by
 intro pins s U H D I h;refine wpAny_For (bZ (hi pins s U H _ I h) λv s1 h1=>bZ h1 λa0 s2 h2=>?_) hs
 obtain⟨it,B,V,J,H2,e,I2,T,L,Y,W,⟨m0,w0⟩,C⟩:=h2;subst e;have j:∀{t:Hp},(∀b∈B,t b=none)->∀b∈B,lL X pins t b:=λhn b c=>⟨hn b c,(Y b c).2⟩
 refine codeAny_forLoop_any (λn Z=>∃i k t,Inv X pins k t Z/\V i Z.heap/\(∀b∈B,t b=none)/\W i n k t) ?_ m0 ⟨0,U,H2,I2,L,λb c=>(Y b c).1,w0⟩
 rintro n s3 ⟨i,l,K,I3,E,F,w3⟩;rcases C i n l K w3 with ⟨stop,qn⟩|⟨go,N,hN,step⟩
 .refine wpAny_passesOwn z (bZ (T.done X rfl rfl rfl S i pins s3 l K X.xe I3 (j F) E stop) λr s4 ⟨M,I4⟩=>?_)
  subst M;exact wpAny_execs_nil ⟨l,K,I4,qn⟩
 .refine wpAny_passesOwn z (bZ (T.item X rfl rfl rfl S i pins s3 l K X.xe I3 (j F) E go) λr s4 ⟨u,M,h4⟩=>?_)
  subst M;refine wpAny_passesOwn z (bZ h4 λ_ s5 ⟨x,H5,I5,r5,y5,Ld,SJ⟩=>?_)
  have O:=I5.pinned (j SJ) (T.obj _ _ Ld);refine wpAny_passesOwn z (bZ (hg _ s5 l H5 x u _ O r5 (step x H5 y5)) λ_ s6 ⟨P,H6,I6,q6⟩=>?_)
  refine wpAny_passesOwn z (bZ (c _ s6 P H6 _ I6 q6) λf Q y=>?_)
  have again:∀{a:St}{p:Hp},Inv X (pins++kf B s5.heap) a p Q->N a p->∃m,m<n/\∃i k t,Inv X pins k t Q/\V i Q.heap/\(∀b∈B,t b=none)/\W i m k t:=λ{a p} q G=>by
   obtain⟨m',hm,w7⟩:=hN a p G;refine⟨m',hm,i+1,a,p,q.il,T.keep _ _ _ Ld λb c o e=>(q.pin (b,o) (List.mem_append_right _ (List.mem_append_right _ (fj c e)))).1,λb c=>?_,w7⟩
   obtain⟨o,e,d⟩:=T.obj _ _ Ld b c;exact(q.pin (b,o) (List.mem_append_right _ (List.mem_append_right _ (fj c e)))).2.1
  cases f with
  |next=>obtain⟨a,p,q,G⟩:=y;exact again q G
  |cont=>obtain⟨a,p,q,G⟩:=y;exact again q G
  |brk=>obtain⟨a,p,q,y⟩:=y;exact⟨a,p,q.il,y⟩
  |ret v=>obtain⟨x7,a,p,q,r7,y⟩:=y;exact⟨x7,a,p,q.il,r7,y⟩
end
abbrev R2:=V->V->Hp->VK->Prop
def fW(X:Cx)(f:Value->Value->Sem Value)(r:R2):Prop:=
 ∀(pins:List (Addr×Obj)) (s:Shared) (a:St) (H:Hp) (x y:V) (v u:Value) (Q:VK),Inv X pins a H s->RelV x v->RelV y u->r x y H Q ->
  wpAny (model X.prog X.w) X.A (f v u) (EP X pins a Q) X.xe s
def Le(X:Cx)(f:Value->Sem Value)(r:V->Hp->VK->Prop):Prop:=
 ∀(pins:List (Addr×Obj)) (s:Shared) (a:St) (H:Hp) (x:V) (v:Value) (Q:VK),Inv X pins a H s->RelV x v->r x H Q ->
  wpAny (model X.prog X.w) X.A (f v) (EP X pins a Q) X.xe s
def dn(X:Cx)(f:Value)(r:List V->Hp->VK->Prop):Prop:=
 ∀(pins:List (Addr×Obj)) (s:Shared) (a:St) (H:Hp) (b:List V) (c:List Value) (Q:VK),Inv X pins a H s->Vals b c->r b H Q ->
  wpAny (model X.prog X.w) X.A (call f c) (EP X pins a Q) X.xe s
def Lf(X:Cx)(r:V->Hp->(Bool->Hp->Prop)->Prop):Prop:=
 ∀(pins:List (Addr×Obj)) (s:Shared) (a:St) (H:Hp) (x:V) (v:Value) (Q:Bool->Hp->Prop),Inv X pins a H s->RelV x v->r x H Q ->
  wpAny (model X.prog X.w) X.A (truthy v) (TP X pins a Q) X.xe s
noncomputable def EN(r:R2)(b tb:TE):TE:=λa H Q=>b a H λx c=>tb a c λy d=>r x y d Q
noncomputable def SK(r:V->Hp->VK->Prop)(a:TE):TE:=λb H Q=>a b H λx c=>r x c Q
noncomputable def rI(C:Int->Int->Prop)(g:Int->Int->V):R2:=λx y H Q=>∃i j,x=.int i/\y=.int j/\C i j/\Q (g i j) H
noncomputable def zh(g:Int->Int->V):R2:=λx y H Q=>∃i j,x=.int i/\y=.int j/\Q (g i j) H
def rU(g:Int->V):V->Hp->VK->Prop:=λx H Q=>∃i,x=.int i/\Q (g i) H
section
variable{X:Cx}{a b c:Expr}{ta tb tc:TE}{pos:Pos}
theorem CT(k:PE X a ta)(l:PE X b tb){pins:List (Addr×Obj)}{s:Shared}{c:St}{H:Hp}{R:V->V->Hp->Prop}(I:Inv X pins c H s)
  (h:ta c H λx j=>tb c j λy d=>R x y d) {Q:Value->Shared->Prop}{f:Value->Value->Sem Value}
  (m:∀v u i x y d,Inv X pins c d i->RelV x v->RelV y u->R x y d->wpAny (model X.prog X.w) X.A (f v u) Q X.xe i) :
  wpAny (model X.prog X.w) X.A (eval a X.env) (λv e=>wpAny (model X.prog X.w) X.A (eval b X.env) (λu g=>wpAny (model X.prog X.w) X.A (f v u) Q X.xe g) X.xe e) X.xe s:=by
 refine bZ (k pins s c H _ I h) λv n ⟨x,j,I1,r1,q1⟩=>?_
 refine bZ (l pins n c j _ I1 q1) λu i ⟨y,d,I2,r2,q2⟩=>?_
 exact m v u i x y d I2 r1 r2 q2
theorem BQ{op:Operator}{r:R2}(c:fW X (binaryOp op) r)(d:PE X a ta)(e:PE X b tb):PE X (.BinOp a op b pos) (EN r ta tb):=by
 intro pins s f H Q I h;exact wpAny_BinOp (CT d e I h λv u g x y i j k l q=>c pins g f i x y v u Q j k l q)
theorem Fp{op:UnaryOp}{r:V->Hp->VK->Prop}(c:Le X (unaryOp op) r)(d:PE X a ta):PE X (.UnaryOp op a pos) (SK r ta):=by
 intro pins s b H Q I h;exact UnaryOp_ (bZ (d pins s b H _ I h) λv e ⟨x,H1,I1,r1,q1⟩=>c pins e b H1 x v Q I1 r1 q1)
theorem Jj{f:Value->Value->Sem Value}{C:Int->Int->Prop}{g:Int->Int->Int}
  (rule:∀(i j:Int) (t u:Tok) (s:Shared) (Q:Value->Shared->Prop) (E:Value->Shared->Prop),C i j->Q (.int (g i j) s.toks) {s with toks:=s.toks+1}->wpAny (model X.prog X.w) X.A (f (.int i t) (.int j u)) Q E s) :
  fW X f (rI C λi j=>.int (g i j)):=by
 intro pins s e H x y v u Q I a b h;obtain⟨i,j,rfl,rfl,c,q⟩:=h;obtain⟨t,rfl⟩:=a;obtain⟨d,rfl⟩:=b;exact rule i j t d s _ _ c ⟨.int (g i j),H,I.tok _,⟨_,rfl⟩,q⟩
theorem Fq{f:Value->Value->Sem Value}{g:Int->Int->Int}
  (rule:∀(i j:Int) (t u:Tok) (s:Shared) (Q:Value->Shared->Prop) (E:Value->Shared->Prop),Q (.int (g i j) s.toks) {s with toks:=s.toks+1}->wpAny (model X.prog X.w) X.A (f (.int i t) (.int j u)) Q E s) :
  fW X f (zh λi j=>.int (g i j)):=by
 intro pins s d H x y v u Q I a b h;obtain⟨i,j,rfl,rfl,q⟩:=h;obtain⟨t,rfl⟩:=a;obtain⟨c,rfl⟩:=b;exact rule i j t c s _ _ ⟨.int (g i j),H,I.tok _,⟨_,rfl⟩,q⟩
theorem zi{f:Value->Value->Sem Value}{g:Int->Int->Bool}
  (rule:∀(i j:Int) (t u:Tok) (s:Shared) (Q:Value->Shared->Prop) (E:Value->Shared->Prop),Q (.bool (g i j)) s->wpAny (model X.prog X.w) X.A (f (.int i t) (.int j u)) Q E s) :
  fW X f (zh λi j=>.bl (g i j)):=by
 intro pins s d H x y v u Q I a b h;obtain⟨i,j,rfl,rfl,q⟩:=h;obtain⟨t,rfl⟩:=a;obtain⟨c,rfl⟩:=b;exact rule i j t c s _ _ ⟨.bl (g i j),H,I,rfl,q⟩
def Fs(i j:Int):Prop:=0<j/\j<1073741824
def Ft(i j:Int):Prop:=0<=j/\j<=1000000/\i.natAbs<2 ^ 64
def zj(i j:Int):Prop:=(-(2 ^ 64)<i/\i<2 ^ 64)\/(-(2 ^ 64)<j/\j<2 ^ 64)
theorem zj.ok{i j:Int}(h:zj i j):IntMulOk i j:=by
 rcases h with ⟨a,b⟩|⟨a,b⟩
 .exact .of_left (intBits_le_64 a b)
 .exact .of_right (intBits_le_64 a b)
theorem CU:fW X (binaryOp .Add) (zh λi j=>.int (i+j)):=Fq λ_ _ _ _ _ _ _ q=>add_int q
theorem CV:fW X (binaryOp .Sub) (zh λi j=>.int (i - j)):=Fq λ_ _ _ _ _ _ _ q=>sub_int q
theorem CW:fW X (binaryOp .Mult) (rI zj λi j=>.int (i*j)):=Jj λ_ _ _ _ _ _ _ a q=>mul_int q a.ok
theorem zk:fW X (binaryOp .FloorDiv) (rI Fs λi j=>.int (i / j)):=Jj λi j _ _ _ _ _ a q=>by
 have b:(0:Int)<j:=a.1;have c:j<1073741824:=a.2;exact floordiv_int (by omega) (by rw[Int.fdiv_eq_ediv_of_nonneg i (by omega)];exact q) (.inl (PyProof.noPylong_small (by omega)))
theorem CY:fW X (binaryOp .Mod) (rI (λ_ j=>0<j) λi j=>.int (i%j)):=Jj λi j _ _ _ _ _ a q=>by
 have b:(0:Int)<j:=a;exact mod_int' (by omega) (by rw[Int.fmod_eq_emod_of_nonneg i (by omega)];exact q)
theorem CZ:fW X (binaryOp .Pow) (rI Ft λi j=>.int (i ^ j.toNat)):=Jj λ_ _ _ _ _ _ _ a q=>pow_int_small a.1 a.2.1 a.2.2 q
theorem SN{f:Value->Sem Value}{g:Int->Int}
  (rule:∀(i:Int) (t:Tok) (s:Shared) (Q:Value->Shared->Prop) (E:Value->Shared->Prop),Q (.int (g i) s.toks) {s with toks:=s.toks+1}->wpAny (model X.prog X.w) X.A (f (.int i t)) Q E s) :
  Le X f (rU λi=>.int (g i)):=by
 intro pins s b H x v Q I a h;obtain⟨i,rfl,q⟩:=h;obtain⟨t,rfl⟩:=a;exact rule i t s _ _ ⟨.int (g i),H,I.tok _,⟨_,rfl⟩,q⟩
theorem C1:Le X (unaryOp .USub) (rU λi=>.int (-i)):=SN λ_ _ _ _ _ q=>neg_int q
theorem mZ{pins:List (Addr×Obj)}{a:St}{H:Hp}{s:Shared}{Q:VK}{k b:Bool}(I:Inv X pins a H s)(q:Q (.bl k) H)(e:k=b):EP X pins a Q (.bool b) s:=by
 subst e;exact⟨.bl k,H,I,rfl,q⟩
theorem Fu:fW X (compareOp .Lt) (zh λi j=>.bl (decide (i<j))):=zi λ_ _ _ _ _ _ _ q=>lt_int q
theorem Fv:fW X (compareOp .LtE) (zh λi j=>.bl (decide (i<=j))):=zi λ_ _ _ _ _ _ _ q=>le_int q
theorem Fw:fW X (compareOp .Gt) (zh λi j=>.bl (decide (j<i))):=zi λ_ _ _ _ _ _ _ q=>gt_int q
theorem Fx:fW X (compareOp .GtE) (zh λi j=>.bl (decide (j<=i))):=zi λ_ _ _ _ _ _ _ q=>ge_int q
theorem uG:fW X (compareOp .In) (λx y H Q=>∃i j,x=.str i/\y=.str j/\Q (.bl (!(Builtin.Str.occurrences j i 0 j.length 1).isEmpty)) H):=by
 intro pins s c H x y v u Q I a b h;obtain⟨i,j,rfl,rfl,q⟩:=h;obtain⟨t,rfl⟩:=a;obtain⟨d,rfl⟩:=b;exact in_str (mZ I q rfl)
theorem vW:fW X (compareOp .Is) (λx y H Q=>y=.non/\Q (.bl (decide (x=.non))) H):=by
 intro pins s c H x y v u Q I a b h;obtain⟨rfl,q⟩:=h;cases b;refine is_none_gen (mZ I q ?_)
 cases x<;>first
  | (cases a;rfl)
  | (obtain⟨t,rfl⟩:=a;rfl)
theorem sJ:fW X (compareOp .IsNot) (λx y H Q=>y=.non/\Q (.bl (!decide (x=.non))) H):=by
 intro pins s c H x y v u Q I a b h;obtain⟨rfl,q⟩:=h;cases b;refine isnot_none_gen (mZ I q ?_)
 cases x<;>first
  | (cases a;rfl)
  | (obtain⟨t,rfl⟩:=a;rfl)
theorem m8:fW X (compareOp .NotIn) (λx y H Q=>∃i j,x=.str i/\y=.str j/\Q (.bl (!(!(Builtin.Str.occurrences j i 0 j.length 1).isEmpty))) H):=by
 intro pins s c H x y v u Q I a b h;obtain⟨i,j,rfl,rfl,q⟩:=h;obtain⟨t,rfl⟩:=a;obtain⟨d,rfl⟩:=b;exact notIn_str (mZ I q rfl)
theorem fW.or{f:Value->Value->Sem Value}{r a:R2}(h:fW X f r)(h':fW X f a):fW X f (λx y H Q=>r x y H Q\/a x y H Q):=by
 intro pins s b H x y v u Q I c d q;rcases q with q|q
 .exact h pins s b H x y v u Q I c d q
 .exact h' pins s b H x y v u Q I c d q
theorem ip{op:CmpOp}{r:R2}(c:fW X (compareOp op) r)(d:PE X a ta)(e:PE X b tb)(f:behindInMarks op b=false):PE X (.Compare a [op] [b] pos) (EN r ta tb):=by
 intro pins s g H Q I h;exact wpAny_Compare1 (CT d e I h λv u i x y j k l m q=>c pins i g j x y v u Q k l m q) f
noncomputable def vX(t:TE):TT:=λa H Q=>t a H λx b=>∃k,x=.bl k/\Q k b
theorem iq{op:CmpOp}{r:R2}(f:fW X (compareOp op) r)(g:PE X a ta)(i:PE X b tb)(j:behindInMarks op b=false):PT X (.Compare a [op] [b] pos) (vX (EN r ta tb)):=by
 intro pins s d H Q I h
 refine wpAny_isTrue_Compare1 (bZ (g pins s d H _ I h) λv l ⟨x,H1,I1,r1,q1⟩=>bZ (i pins l d H1 _ I1 q1) λu m ⟨y,H2,I2,r2,q2⟩=>
  bZ (f pins m d H2 x y v u _ I2 r1 r2 q2) λc o ⟨z,H3,I3,n,k,e,q3⟩=>?_) j
 subst e;cases n;exact wpAny_truthy_bool ⟨H3,I3,q3⟩
noncomputable def qM(r c:R2)(d tb e:TE):TE:=λa H Q=>d a H λx f=>tb a f λy g=>r x y g λz b=>∃k,z=.bl k /\
 (if k=true then e a b λh i=>c y h i Q else Q (.bl false) b)
theorem vY{op f:CmpOp}{r j:R2}(l:fW X (compareOp op) r)(i:fW X (compareOp f) j)(m:PE X a ta)(n:PE X b tb)(o:PE X c tc)
  (p:lastMarks [op,f] [b,c]=false:=by with_unfolding_all rfl):PE X (.Compare a [op,f] [b,c] pos) (qM r j ta tb tc):=by
 intro pins s g H Q I h
 refine Compare_chain (bZ (m pins s g H _ I h) λv q ⟨x,H1,I1,r1,q1⟩=>chain_link (bZ (n pins q g H1 _ I1 q1) λu t ⟨y,H2,I2,r2,q2⟩=>
  bZ (l pins t g H2 x y v u _ I2 r1 r2 q2) λd w ⟨z,H3,I3,A,k,e,q3⟩=>?_)) p
 subst e;cases A;refine wpAny_truthy_bool ?_;cases k with
 |false=>exact ite_ff ⟨.bl false,H3,I3,rfl,q3⟩
 |true=>exact ite_tt (chain_last (bZ (o pins w g H3 _ I3 q3) λB C ⟨D,H4,I4,r4,q4⟩=>i pins C g H4 y D u B Q I4 r2 r4 q4))
theorem vZ{op f:CmpOp}{r j:R2}(l:fW X (compareOp op) r)(i:fW X (compareOp f) j)(m:PE X a ta)(n:PE X b tb)(o:PE X c tc)
  (p:lastMarks [op,f] [b,c]=false:=by with_unfolding_all rfl):PT X (.Compare a [op,f] [b,c] pos) (vX (qM r j ta tb tc)):=by
 intro pins s g H Q I h
 refine isTrue_chain (bZ (m pins s g H _ I h) λv q ⟨x,H1,I1,r1,q1⟩=>test_link (bZ (n pins q g H1 _ I1 q1) λu t ⟨y,H2,I2,r2,q2⟩=>
  bZ (l pins t g H2 x y v u _ I2 r1 r2 q2) λd w ⟨z,H3,I3,A,k,e,q3⟩=>?_)) p
 subst e;cases A;refine wpAny_truthy_bool ?_;cases k with
 |false=>
  obtain⟨J,B,C⟩:=q3;cases B;exact ite_ff ⟨H3,I3,C⟩
 |true=>
  refine ite_tt (test_last (bZ (o pins w g H3 _ I3 q3) λD E ⟨F,H4,I4,r4,q4⟩=>bZ (i pins E g H4 y F u D _ I4 r2 r4 q4) λK L ⟨M,H5,I5,G,k2,e2,q5⟩=>?_))
  subst e2;cases G;exact wpAny_truthy_bool ⟨H5,I5,q5⟩
def oZ(K:PySem.W.Frag)(x:V)(H:Hp)(k:Bool):Prop:=
 match x with
 |.non=>k=false
 |.bl b=>k=b
 |.int i=>k=(i != 0)
 |.str y=>y.length<=sizeLine/\k=((y.length:Int) != 0)
 |.EJ y=>y.size<=sizeLine/\k=((y.size:Int) != 0)
 |.ref p=>(∃a,jM K H p a/\k=!a.isEmpty)\/(∃a,qJ K H p a/\k=!a.isEmpty)\/∃c,H p=some (.dK c)/\k=!c.isEmpty
 |_=>False
theorem qN{κ:Type}{kvs:List (κ×V)}{vs:List (κ×Value)}(r:KV kvs vs):(!vs.isEmpty)=!kvs.isEmpty:=by
 cases r<;>rfl
theorem kg{xs:List V}{a:List Value}(r:Vals xs a):(!a.toArray.isEmpty)=!xs.isEmpty:=by
 cases r<;>simp
theorem fX:(sizeLine:Nat)<2 ^ 63:=by rw[sizeLine_eq];decide
theorem m9:Lf X (λx H Q=>∃k,oZ X.K x H k/\Q k H):=by
 intro pins s B H x v Q I g h;obtain⟨k,e,q⟩:=h;have C:=fX;have D:sizeLine=16777216:=sizeLine_eq;cases x with
 |non=>
  cases g;have a:k=false:=e;subst a;exact truthy_none ⟨H,I,q⟩
 |bl b=>
  cases g;have a:k=b:=e;subst a;exact wpAny_truthy_bool ⟨H,I,q⟩
 |int i=>
  obtain⟨t,rfl⟩:=g;have a:k=(i != 0):=e;subst a;exact PySem.P.truthy_int ⟨H,I,q⟩
 |str y=>
  obtain⟨t,rfl⟩:=g;obtain⟨z,a⟩:y.length<=sizeLine/\k=((y.length:Int) != 0):=e;subst a;exact PySem.P.truthy_str (by omega) ⟨H,I.tok _,q⟩
 |EJ y=>
  obtain⟨t,rfl⟩:=g;obtain⟨z,a⟩:y.size<=sizeLine/\k=((y.size:Int) != 0):=e;subst a;exact PySem.W.truthy_bytes (by omega) ⟨H,I.tok _,q⟩
 |ref p=>
  cases g;have a:(∃f,jM X.K H p f/\k=!f.isEmpty)\/(∃f,qJ X.K H p f/\k=!f.isEmpty)\/∃c,H p=some (.dK c)/\k=!c.isEmpty:=e;rcases a with ⟨f,j,a⟩|⟨f,j,a⟩|⟨c,j,a⟩
  .subst a
   obtain⟨n,r,o,u⟩:=I.list j;have d:=r.length;exact wpAny_truthy_list o.isList (by simp only[List.size_toArray];omega) ⟨H,I.tok _,by rw[kg r];exact q⟩
  .subst a
   obtain⟨n,r,o,u⟩:=I.tuple j;have d:=r.length;exact truthy_tuple o (by simp only[List.size_toArray];omega) ⟨H,I.tok _,by rw[kg r];exact q⟩
  .subst a
   obtain⟨u,A,l,r,m⟩:c.length<=sizeLine/\(p==sysModules)=false/\∃l,KV c l/\s.heap.DictOf (ba X.prog X.w) p l:=I.hok p _ j;have d:c.length=l.length:=Paired.length r;exact wpAny_truthy_dict A m (by omega) ⟨H,I.tok _,by rw[qN r];exact q⟩
 |_=>exact(show False from e).elim
theorem v8(e:PE X a ta)(f:∀b,isTrue a X.env b=(do let v ←b;standAt a.pos;holding [v] (truthy v))) :
  PT X a (λc H Q=>ta c H λx d=>∃k,oZ X.K x d k/\Q k d):=by
 intro pins s c H Q I h;exact isTrue_plain (bZ (e pins s c H _ I h) λv g ⟨x,H1,I1,r1,q1⟩=>m9 pins g c H1 x v Q I1 r1 q1) (f _)
theorem qO:fW X (binaryOp .Add) (λx y H Q=>∃i j,x=.str i/\y=.str j/\i.length+j.length<=sizeLine/\Q (.str (i++j)) H):=by
 intro pins s e H x y v u Q I a b h;obtain⟨i,j,rfl,rfl,c,q⟩:=h;obtain⟨t,rfl⟩:=a;obtain⟨d,rfl⟩:=b;exact add_str (λd f=>⟨.str (i++j),H,I.tok _,⟨_,rfl⟩,q⟩) c
theorem vals1{x:V}{us:List Value}(r:Vals [x] us):∃u,us=[u]/\RelV x u:=by
 cases r with
 |cons a b=>cases b;exact⟨_,rfl,a⟩
theorem vals2{x y:V}{us:List Value}(r:Vals [x,y] us):∃u a,us=[u,a]/\RelV x u/\RelV y a:=by
 cases r with
 |cons b c=>
  cases c with
  |cons d e=>cases e;exact⟨_,_,rfl,b,d⟩
end
structure qP(h:Heap)(x dx C:Addr)(mA:Str->Option Value):Prop where
 obj:h.get? x=some (PySem.W.instObj C dx)
 ns:h.Ns1 dx mA
 ne:dx≠x
theorem uH{h:Heap}{c:Addr}{d:Str->Option Value}(n:h.Ns1 c d):∃f,h.get? c=some f/\∀name,PySem.W.lookIn name f=some (d name):=by
 obtain⟨o,g,r,i,j,k,_,l⟩:=n;refine⟨o,i,λname=>?_⟩
 have e:=l name;unfold nsFind findBy at e;rw[←Array.find?_toList]at e;unfold PySem.W.lookIn;rw[j];dsimp only;split
 .rename_i y q
  rw[q]at e;exact congrArg some e
 .rename_i q
  rw[q]at e
  have a:g.toList.any (·.refKey)=false:=by
   rw[List.any_eq_false];intro y m;obtain⟨z,t,b⟩:=k y (Array.mem_toList_iff.mp m);simp[DictEntry.refKey,b]
  have p:¬ g.toList.any (·.refKey)=true:=by rw[a];exact Bool.false_ne_true
  rw[if_neg p];exact congrArg some e
theorem qP.look{h:Heap}{x b C:Addr}{c:Str->Option Value}(I:qP h x b C c):∃a,PySem.W.InstAt h x (PySem.W.instObj C b) C (some a)/\∀name,PySem.W.lookIn name a=some (c name):=
 let ⟨a,d,e⟩:=uH I.ns
 ⟨a,⟨I.obj,rfl,rfl,d⟩,e⟩
section
variable{prog:Program}{w:World}{A:Around}{E:Value->Shared->Prop}{s:Shared}{K:PySem.W.Frag}{x dx C f:Addr}{mA:Str->Option Value}{name:Str}{v:Value}
theorem get_map{a:Bool}{Q:Value->Shared->Prop}(X:K.In s.heap)(I:qP s.heap x dx C mA)(c:PySem.W.plainGet K C name=true)(d:PySem.W.hasDictIn K C=true)
  (e:PySem.W.findIn K (.ref C) name=some none) (f:mA name=some v) (b:PySem.W.handedIn v=true) (h:Q v {s with toks:=s.toks+1}) :
  wpAny (model prog w) A (getAttr (.ref x) name a) Q E s:=by
 obtain⟨i,J,g⟩:=I.look;exact PySem.W.get_value X J (PySem.W.plainGet_of c).1 (PySem.W.findObj_own d e rfl (by rw[g,f])) b h
theorem v9{pl:Sem Bool}{Q:Value×List Value->Shared->Prop}(X:K.In s.heap)(I:qP s.heap x dx C mA)(a:PySem.W.plainGet K C name=true)
  (b:PySem.W.findIn K (.ref C) name=some (some (.ref f))) (c:PySem.W.isFn K (.ref f)=true) (d:mA name=none) (h:Q (.ref f,[.ref x]) s) :
  wpAny (model prog w) A (getMethod (.ref x) name pl) Q E s:=by
 obtain⟨e,J,g⟩:=I.look;exact PySem.W.method_fn X J (PySem.W.plainGet_of a).1 (PySem.W.plainGet_of a).2 b (beq_iff_eq.mp c) (by show(PySem.W.lookIn name e).map (·.isSome)=some false;rw[g,d];rfl) h
theorem zl{ns:List Str}{Q:Unit->Shared->Prop}(X:K.In s.heap)(I:qP s.heap x dx C mA)
  (j:PySem.W.findIn K (.ref C) "__setattr__"=some (some (.builtin "object.__setattr__"))) (k:PySem.W.plainOver K C=true) (l:PySem.W.takerIn K C name=some none) (m:PySem.W.hasDictIn K C=true)
  (n:PySem.Within mA ns) (hsz:ns.length<=sizeLine)
  (h:∀h',qP h' x dx C (λy=>if y=name then some v else mA y)->Heap.SameBut dx s.heap h'->Q () {s with heap:=h',toks:=s.toks+2}) :
  wpAny (model prog w) A (setAttr (.ref x) name v) Q E s:=by
 obtain⟨u,J,z⟩:=I.look;refine PySem.W.set_plain X J j (PySem.W.osa_open (s:={s with toks:=s.toks+1}) (r:=none) X J k l λb=>?_)
 obtain⟨B,o,e⟩:=PySem.W.any_some m;have p:s.heap.get? x=some ⟨.ref C,some dx,.plain,#[]⟩:=I.obj;refine wpAny_bind (wpAny_pure (wpAny_bind (wpAny_bind (wpAny_loadPart p (wpAny_bind (PySem.W.Looks.here (s:={s with toks:=s.toks+1}) (PySem.W.looks_clsIn X o) ?_))))));rw[e];refine wpAny_pure (a:=some dx) (wpAny_bind (wpAny_pure (wpAny_bind ?_)));refine wpAny_nsSet1 (s:={s with toks:=s.toks+1}) I.ns λh' c d=>?_
 obtain⟨D,q,t,f,g,i⟩:=c.count (PySem.Within.cons name v n);refine wpAny_bind (wpAny_lookBehind f (by rw[g];exact pastItsLine_dict (Nat.le_trans i (by rw[List.length_cons];omega))) ?_)
 exact wpAny_pure (h _ ⟨(d.2 _ (Ne.symm I.ne)).trans I.obj,c,I.ne⟩ d)
theorem v_{R:Result->Shared->Prop}{vs:List Value}{a:List (Str×Value)}(X:K.In s.heap)(b:PySem.W.makesIn K C=true)
  (c:PySem.W.findIn K (.ref C) "__init__"=some (some (.ref f))) (e:PySem.W.typeIn K (.ref f)=some (.type "function"))
  (h:codeAny (model prog w) (A.under (.builtin "type.__call__" ⟨.ref C::vs,a⟩)) (.call (.ref f) ⟨.ref (s.heap.objs.size+1)::vs,a⟩) (PySem.W.InitBack (s.heap.objs.size+1) R)
   {s with heap:=(s.heap.push PySem.W.emptyDict).push (PySem.W.instObj C s.heap.objs.size)}) :
  codeAny (model prog w) A (.call (.ref C) ⟨vs,a⟩) R s:=by
 obtain⟨i,g,d,t,j⟩:=s;exact PySem.W.make_core (PySem.W.makes_of X b) (PySem.W.looks_findIn X c) (λself=>PySem.W.bind_fn X self e) (.inl rfl) h
end
noncomputable def eP(f:Str)(v:V):List (Str×V)->List (Str×V)
 |[]=>[(f,v)]
 | (g,x)::r=>if g=f then (g,v)::r else (g,x)::eP f v r
theorem jm(f g:Str)(v:V):∀c:List (Str×V),(eP f v c).lookup g=if g=f then some v else c.lookup g
 |[]=>by
  show List.lookup g [(f,v)]=_
  by_cases h:g=f
  .have a:(g==f)=true:=beq_iff_eq.mpr h
   simp only[List.lookup,a,if_pos h]
  .have a:(g==f)=false:=beq_eq_false_iff_ne.mpr h
   simp only[List.lookup,a,if_neg h]
 | (k,x)::r=>by
  have d:=jm f g v r;rw[show eP f v ((k,x)::r)=(if k=f then (k,v)::r else (k,x)::eP f v r)from rfl]
  by_cases b:k=f
  .rw[if_pos b]
   by_cases h:g=k
   .have a:(g==k)=true:=beq_iff_eq.mpr h
    simp only[List.lookup,a,if_pos (h.trans b)]
   .have a:(g==k)=false:=beq_eq_false_iff_ne.mpr h
    simp only[List.lookup,a,if_neg (λe:g=f=>h (e.trans b.symm))]
  .rw[if_neg b]
   by_cases h:g=k
   .have a:(g==k)=true:=beq_iff_eq.mpr h
    simp only[List.lookup,a,if_neg (λe:g=f=>b (h.symm.trans e))]
   .have a:(g==k)=false:=beq_eq_false_iff_ne.mpr h
    simp only[List.lookup,a];exact d
theorem i8(f:Str)(v:V):∀a:List (Str×V),f∈(eP f v a).map (·.1)/\∀g,g∈a.map (·.1)->g∈(eP f v a).map (·.1)
 |[]=>⟨by simp[eP],λg h=>by simp at h⟩
 | (k,x)::r=>by
  obtain⟨c,d⟩:=i8 f v r;rw[show eP f v ((k,x)::r)=(if k=f then (k,v)::r else (k,x)::eP f v r)from rfl]
  by_cases b:k=f
  .rw[if_pos b]
   subst b;exact⟨by simp,λg h=>by simpa using h⟩
  .rw[if_neg b]
   refine⟨?_,λg h=>?_⟩
   .rw[List.map_cons]
    exact List.mem_cons_of_mem _ c
   .rw[List.map_cons]at h ⊢
    rcases List.mem_cons.mp h with e|e
    .exact List.mem_cons.mpr (.inl e)
    .exact List.mem_cons_of_mem _ (d g e)
theorem jn(f:Str)(v:V):∀a:List (Str×V),(eP f v a).length<=a.length+1
 |[]=>by simp[eP]
 | (k,x)::r=>by
  have c:=jn f v r;rw[show eP f v ((k,x)::r)=(if k=f then (k,v)::r else (k,x)::eP f v r)from rfl]
  by_cases b:k=f
  .rw[if_pos b,List.length_cons,List.length_cons];omega
  .rw[if_neg b,List.length_cons,List.length_cons];omega
theorem fP.some_of{v:V}{o:Option Value}(r:fP (some v) o):∃u,o=some u/\RelV v u:=by
 cases o with
 |none=>exact(show False from r).elim
 |some u=>exact⟨u,rfl,r⟩
theorem fP.none_of{o:Option Value}(r:fP none o):o=none:=by
 cases o with
 |none=>rfl
 |some u=>exact(show False from r).elim
theorem uI{v:V}{u:Value}(r:RelV v u):PySem.W.handedIn u=true:=by
 cases v with
 |non=>cases (show u=Value.none from r);rfl
 |bl b=>cases (show u=Value.bool b from r);rfl
 |int i=>obtain⟨t,e⟩:=(show ∃t,u=Value.int i t from r);cases e;rfl
 |str x=>obtain⟨t,e⟩:=(show ∃t,u=Value.str x t from r);cases e;rfl
 |EJ b=>obtain⟨t,e⟩:=(show ∃t,u=Value.bytes b t from r);cases e;rfl
 |flt b=>obtain⟨t,e⟩:=(show ∃t,u=Value.float b t from r);cases e;rfl
 |ref a=>cases (show u=Value.ref a from r);rfl
 |ty n=>cases (show u=Value.type n from r);rfl
section
variable{P:Program}{w:World}{H H':Hp}{h h':Heap}{a C dx:Addr}{fs fs':List (Str×V)}
theorem jN(c:g_ P w H h)(e:H a=some (.ins C dx fs)):∃b,qP h a dx C b/\(∀f,fP (fs.lookup f) (b f))/\PySem.Within b (fs.map (·.1))/\fs.length<=1000/\H dx=some (.own a):=by
 obtain⟨d,z,g,i,b,n,r,q⟩:=(show bL P w H h a (.ins C dx fs)from c a _ e)
 exact⟨b,⟨i,n,g⟩,r,q,z,d⟩
end
structure jO(K:PySem.W.Frag)(C:Addr):Prop where
 pg:PySem.W.plainGet K C Str.empty=true
 hd:PySem.W.hasDictIn K C=true
 po:PySem.W.plainOver K C=true
 sa:PySem.W.findIn K (.ref C) "__setattr__"=some (some (.builtin "object.__setattr__"))
theorem jO.get{K:PySem.W.Frag}{C:Addr}(c:jO K C)(f:Str):PySem.W.plainGet K C f=true:=c.pg
def fk(K:PySem.W.Frag)(C:Addr)(f:Str):Prop:=PySem.W.findIn K (.ref C) f=some none
theorem fk.taker{K:PySem.W.Frag}{C:Addr}{f:Str}(n:fk K C f):PySem.W.takerIn K C f=some none:=by
 unfold PySem.W.takerIn;rw[show PySem.W.findIn K (.ref C) f=some none from n]
 rfl
structure Meth(K:PySem.W.Frag)(C:Addr)(m:Str)(f:Addr):Prop where
 at_:PySem.W.findIn K (.ref C) m=some (some (.ref f))
 fn:PySem.W.isFn K (.ref f)=true
 kp:PySem.W.keepIn K (.ref f)=true
section
variable{X:Cx}{pins:List (Addr×Obj)}{σ:St}{H:Hp}{s:Shared}{a C dx:Addr}{fs:List (Str×V)}{f:Str}{v:V}{A:Around}{E:Value->Shared->Prop}
theorem kh{b:Bool}{Q:Value->Shared->Prop}(I:Inv X pins σ H s)(e:H a=some (.ins C dx fs))(c:jO X.K C)(n:fk X.K C f)(l:fs.lookup f=some v)
  (h:∀u d,Inv X pins σ H d->RelV v u->Q u d):wpAny (model X.prog X.w) A (getAttr (.ref a) f b) Q E s:=by
 obtain⟨i,O,r,_,_,_⟩:=jN I.hok e;obtain⟨u,j,g⟩:=fP.some_of (v:=v) (o:=i f) (by rw[←l];exact r f)
 exact get_map I.iZ O (c.get f) c.hd n j (uI g) (h u _ (I.tok _) g)
theorem ki{m:Str}{g:Addr}{pl:Sem Bool}{Q:Value×List Value->Shared->Prop}(I:Inv X pins σ H s)(e:H a=some (.ins C dx fs))(c:jO X.K C)(k:Meth X.K C m g)(l:fs.lookup m=none)
  (h:Q (.ref g,[.ref a]) s):wpAny (model X.prog X.w) A (getMethod (.ref a) m pl) Q E s:=by
 obtain⟨b,O,r,_,_,_⟩:=jN I.hok e;have d:b m=none:=fP.none_of (by rw[←l];exact r m)
 exact v9 I.iZ O (c.get m) k.at_ k.fn d h
theorem kj{y:V}{u:Value}{Q:Unit->Shared->Prop}(I:Inv X pins σ H s)(e:H a=some (.ins C dx fs))(c:jO X.K C)(n:fk X.K C f)(J:fs.length<1000)(m:RelV y u)
  (h:∀i,Inv X pins σ (upd H a (.ins C dx (eP f y fs))) i->Q () i):wpAny (model X.prog X.w) A (setAttr (.ref a) f u) Q E s:=by
 obtain⟨j,O,r,k,_,l⟩:=jN I.hok e;have p:(fs.map (·.1)).length<=sizeLine:=by rw[List.length_map,sizeLine_eq];omega
 refine zl I.iZ O c.sa c.po n.taker c.hd k p λt d B=>h _ ?_
 have D:∃o,t.get? dx=some o:=let ⟨o,_,_,e',_⟩:=d.ns;⟨o,e'⟩
 refine I.write (x:=a) (e:=dx) (by rw[e];exact True.intro) (.inr l) (λb q F z=>(B.2 b F).trans z) D ?_
 refine⟨by rw[aE O.ne];exact l,?_,O.ne,d.obj,_,d.ns,λg=>?_,λg G=>?_⟩
 .have:=jn f y fs;omega
 .show fP ((eP f y fs).lookup g) (if g=f then some u else j g)
  rw[jm]
  by_cases q:g=f
  .rw[if_pos q,if_pos q];exact m
  .rw[if_neg q,if_neg q];exact r g
 .by_cases q:g=f
  .rw[q];exact(i8 f y fs).1
  .refine(i8 f y fs).2 g (k g λz=>G ?_)
   show(if g=f then some u else j g)=none
   rw[if_neg q];exact z
theorem Inv.made(I:Inv X pins σ H s):Inv X pins σ (upd (upd H s.heap.objs.size (.own (s.heap.objs.size+1))) (s.heap.objs.size+1) (.ins C s.heap.objs.size []))
  {s with heap:=(s.heap.push PySem.W.emptyDict).push (PySem.W.instObj C s.heap.objs.size)}:=by
 have c:(s.heap.push PySem.W.emptyDict).get? s.heap.objs.size=some PySem.W.emptyDict:=Heap.get?_push_size s.heap rfl
 have f:((s.heap.push PySem.W.emptyDict).push (PySem.W.instObj C s.heap.objs.size)).get? (s.heap.objs.size+1)=some (PySem.W.instObj C s.heap.objs.size):=by
  have:=Heap.get?_push_size (s.heap.push PySem.W.emptyDict) (o:=PySem.W.instObj C s.heap.objs.size) rfl;rwa[Heap.size_push]at this
 have g:(s.heap.push PySem.W.emptyDict).Ns s.heap.objs.size (λ_=>none):=⟨PySem.W.emptyDict,#[],_,c,rfl,(λe h=>absurd h (by simp)),λ_=>rfl⟩
 have i:=I.laid (a:=s.heap.objs.size) (o:=.own (s.heap.objs.size+1)) (h':=s.heap.push PySem.W.emptyDict) (t':=s.toks) (λb u q=>Heap.get?_push_of_some _ q) (Nat.le_refl _) ⟨_,c⟩
 refine i.laid (a:=s.heap.objs.size+1) (o:=.ins C s.heap.objs.size []) (t':=s.toks) (λb u q=>Heap.get?_push_of_some _ q) (Nat.le_of_eq (Heap.size_push _ _)) ?_
 have d:s.heap.objs.size≠s.heap.objs.size+1:=Nat.ne_of_lt (Nat.lt_succ_self _);refine⟨by rw[aE d,aN],Nat.zero_le _,d,f,λ_=>none,(Heap.Ns1.of_empty g).at λo q=>Heap.get?_push_of_some _ q,λ_=>True.intro,λy j=>absurd rfl j⟩
theorem zm{prog:Program}{w:World}{env:Env}{e:Expr}{f:Str}{pos:Pos}{s:Shared}{Q:Value->Shared->Prop}(b:attributeBase e f env (eval e env)=eval e env)
  (h:wpAny (model prog w) A (eval e env) (λo a=>wpAny (model prog w) A (getAttr o f true) Q E a) E s):wpAny (model prog w) A (eval (.Attribute e f pos) env) Q E s:=
 Attribute_any_ h (by rw[arm_eval_Attribute,b])
end
noncomputable def Lg(K:PySem.W.Frag)(d:TE)(f:Str):TE:=λe H Q=>d e H λx b=>∃a C g c v,x=.ref a/\b a=some (.ins C g c)/\jO K C/\fk K C f/\c.lookup f=some v/\Q v b
def Lh(K:PySem.W.Frag)(g h:TE)(f:Str):TS:=λD b H=>h b H λy i=>g b i λx d=>∃a C e c,x=.ref a/\d a=some (.ins C e c)/\jO K C/\fk K C f/\c.length<1000 /\
 D.nx b (upd d a (.ins C e (eP f y c)))
def Fy(X:Cx)(op:Operator)(b:V->V->Hp->VK->Prop):Prop:=
 ∀(pins:List (Addr×Obj)) (s:Shared) (a:St) (H:Hp) (x y:V) (u v:Value) (Q:VK),Inv X pins a H s->RelV x u->RelV y v->b x y H Q->wpAny (model X.prog X.w) X.A (inplaceOp op u v) (EP X pins a Q) X.xe s
def zo(K:PySem.W.Frag)(i j:TE)(k:V->V->Hp->VK->Prop)(f:Str):TS:=λD d H=>i d H λx e=>∃a C l g v,x=.ref a/\e a=some (.ins C l g)/\jO K C/\fk K C f/\g.lookup f=some v /\
 j d e λy m=>k v y m λz h=>∃c b,h a=some (.ins C c b)/\b.length<1000/\D.nx d (upd h a (.ins C c (eP f z b)))
section
variable{X:Cx}{o e value:Expr}{f:Str}{pos pos' tpos:Pos}{ta tv:TE}
theorem C2(b:PE X e ta)(d:attributeBase e f X.env (eval e X.env)=eval e X.env):PE X (.Attribute e f pos) (Lg X.K ta f):=by
 intro pins s g H Q I h;refine zm d (bZ (b pins s g H _ I h) λu k ⟨x,H1,I1,rx,a,C,dx,fs,v,ex,ea,c,n,l,q⟩=>?_)
 subst ex;obtain rfl:u=Value.ref a:=rx;exact kh I1 ea c n l λm o i j=>⟨v,H1,i,j,q⟩
theorem C3(d:PE X o ta)(e:PE X value tv)(g:swapsWith value (some (.Attribute o f pos')) pos.line X.env=pure false):PS X (.Assign [.Attribute o f pos'] value pos) (Lh X.K ta tv f):=by
 intro pins s b H D I h;refine plainObj_wpAny_Assign_Attribute (bZ (e pins s b H _ I h) λu i ⟨y,H1,I1,ry,q⟩=>bZ (d pins i b H1 _ I1 q) λj m ⟨x,H2,I2,rx,a,C,dx,fs,ex,ea,c,n,l,q2⟩=>?_) g
 subst ex;obtain rfl:j=Value.ref a:=rx;exact kj I2 ea c n l ry λp k=>⟨b,_,k,q2⟩
theorem uJ{op:Operator}{e:V->V->Hp->VK->Prop}(g:PE X o ta)(i:PE X value tv)(d:Fy X op e):PS X (.AugAssign (.Attribute o f tpos) op value pos) (zo X.K ta tv e f):=by
 intro pins s b H D I h;refine wpAny_AugAssign_AttributeAny (bZ (g pins s b H _ I h) λj A ⟨x,H1,I1,rx,a,C,dx,fs,v,ex,ea,c,n,l,q⟩=>?_)
 subst ex;obtain rfl:j=Value.ref a:=rx;refine kh I1 ea c n l λu k m p=>bZ (i pins k b H1 _ m q) λr t ⟨y,H2,I3,ry,q3⟩=>bZ (d pins t b H2 v y u r _ I3 p ry q3) λB E ⟨z,H3,I4,rz,Vg,fs',SO,l',q4⟩=>?_
 exact kj I4 SO c n l' rz λF w=>⟨b,_,w,q4⟩
def Li:V->V->Hp->VK->Prop:=λx y H Q=>∃i j,x=.int i/\y=.int j/\Q (.int (i+j)) H
theorem C4:Fy X .Add Li:=by
 rintro pins s d H x y u v Q I b c ⟨i,j,rfl,rfl,q⟩;obtain⟨t,rfl⟩:=(show ∃t,u=Value.int i t from b)
 obtain⟨a,rfl⟩:=(show ∃a,v=Value.int j a from c)
 exact PyProof.Rows.iadd_int ⟨.int (i+j),H,I.tok _,⟨_,rfl⟩,q⟩
end
section
variable{X:Cx}{pins:List (Addr×Obj)}{σ:St}{H:Hp}{s:Shared}{A:Around}{E:Value->Shared->Prop}{Q:Value->Shared->Prop}{c:Value}{b:Bool}
inductive jB (K:PySem.W.Frag) (H:Hp):V->Value->Prop where
 |non:jB K H .non (.type "NoneType")
 |bl (x:Bool):jB K H (.bl x) (.type "bool")
 |int (i:Int):jB K H (.int i) (.type "int")
 |str (x:Str):jB K H (.str x) (.type "str")
 |flt (x:UInt64):jB K H (.flt x) (.type "float")
 |lst {a:Addr}{xs:List V} (e:H a=some (.lst xs)):jB K H (.ref a) (.type "list")
 |dJ {a:Addr}{o:Obj}{xs:List V} (e:H a=some (.dJ o (.lst xs))):jB K H (.ref a) (.type "list")
 |tup {a:Addr}{xs:List V} (e:H a=some (.tup xs)):jB K H (.ref a) (.type "tuple")
 |dK {a:Addr}{kvs:List (Key×V)} (e:H a=some (.dK kvs)):jB K H (.ref a) (.type "dict")
 |dT {a:Addr}{kvs:List (List Key×V)} (e:H a=some (.dT kvs)):jB K H (.ref a) (.type "dict")
 |ins {a C dx:Addr}{fs:List (Str×V)} (e:H a=some (.ins C dx fs)) (cl:jO K C) (ha:PySem.W.findIn K (.ref C) "__class__"=some (some (.builtin "object.__class__")))
   (hn:PySem.W.specialIn K (.builtin "object.__class__") "__get__"=some (some (.builtin "getset_descriptor.__get__"))) (htk:PySem.W.takesIn K (.builtin "object.__class__")=some true)
   (hm:PySem.W.mroIn K C (.type "object")=some true):jB K H (.ref a) (.ref C)
theorem dM{x:V}{u t:Value}(I:Inv X pins σ H s)(d:RelV x u)(B:jB X.K H x t)(e:PySem.W.kitOne X.K t c=some b)(h:∀D,Q (.bool b) {s with toks:=D}) :
  wpAny (model X.prog X.w) A (call (.builtin "isinstance") [u,c]) Q E s:=by
 cases B with
 |non=>cases (show u=Value.none from d);exact PySem.W.kia_one PySem.W.kitx_none I.iZ True.intro e (λz=>nomatch z) h
 |bl y=>cases (show u=Value.bool y from d);exact PySem.W.kia_one PySem.W.kitx_bool I.iZ True.intro e (λz=>nomatch z) h
 |int i=>obtain⟨t,q⟩:=(show ∃t,u=Value.int i t from d);cases q;exact PySem.W.kia_one PySem.W.kitx_int I.iZ True.intro e (λz=>nomatch z) h
 |str y=>obtain⟨t,q⟩:=(show ∃t,u=Value.str y t from d);cases q;exact PySem.W.kia_one PySem.W.kitx_str I.iZ True.intro e (λz=>nomatch z) h
 |flt y=>obtain⟨t,q⟩:=(show ∃t,u=Value.float y t from d);cases q;exact PySem.W.kia_one PySem.W.kitx_float I.iZ True.intro e (λz=>nomatch z) h
 |@lst a k f=>
  cases (show u=Value.ref a from d)
  obtain⟨_,_,n,_,g⟩:=(show bL X.prog X.w H s.heap a (.lst k)from I.hok a _ f)
  exact PySem.W.kia_one PySem.W.kitx_list I.iZ ⟨_,g,rfl⟩ e (λz=>nomatch z) h
 |@dJ a F k f=>
  cases (show u=Value.ref a from d)
  obtain⟨_,_,_,n,_,g⟩:=(show bL X.prog X.w H s.heap a (.dJ F (.lst k))from I.hok a _ f)
  exact PySem.W.kia_one PySem.W.kitx_list I.iZ ⟨_,g,rfl⟩ e (λz=>nomatch z) h
 |@tup a k f=>
  cases (show u=Value.ref a from d)
  obtain⟨_,_,_,p⟩:=(show bL X.prog X.w H s.heap a (.tup k)from I.hok a _ f)
  obtain⟨o,g,l,_⟩:=p;exact PySem.W.kia_one PySem.W.kitx_tuple I.iZ ⟨o,g,l⟩ e (λz=>nomatch z) h
 |@dK a j f=>
  cases (show u=Value.ref a from d)
  obtain⟨_,_,R,_,p⟩:=(show bL X.prog X.w H s.heap a (.dK j)from I.hok a _ f)
  obtain⟨o,G,L,g,l,_⟩:=p;exact PySem.W.kia_one PySem.W.kitx_dict I.iZ ⟨o,g,l.1⟩ e (λz=>nomatch z) h
 |@dT a j f=>
  cases (show u=Value.ref a from d)
  obtain⟨_,_,k,_,o,G,L,g,l,_⟩:=(show bL X.prog X.w H s.heap a (.dT j)from I.hok a _ f)
  exact PySem.W.kia_one PySem.W.kitx_dict I.iZ ⟨o,g,l.1⟩ e (λz=>nomatch z) h
 |@ins a C S T f r M N m P=>
  cases (show u=Value.ref a from d)
  obtain⟨U,O,_⟩:=jN I.hok f;obtain⟨Y,J,_⟩:=O.look;exact PySem.W.kia_one (PySem.W.kitx_own (r.get _) r.hd M N m P) I.iZ J e (λz=>nomatch z) h
end
structure cD(k:Nat)(A:Around):Prop where
 hd:A.handled=none
 dp:A.depth+3*k+5<recursionLimit
 un:A.units+16*k+200<cLine
theorem cD.mono{j k:Nat}{A:Around}(r:cD k A)(h:j<=k):cD j A:=⟨r.hd,by have:=r.dp;omega,by have:=r.un;omega⟩
theorem cD.deeper{k:Nat}{A:Around}(r:cD (k+1) A)(env:Env):cD k (A.deeper env):=
 ⟨r.hd,by have:=r.dp;show A.depth+1+3*k+5<_;omega,by have:=r.un;show A.units+3+16*k+200<_;omega⟩
theorem cD.in1{k:Nat}{A:Around}(r:cD (k+1) A):cD k A.in1:=
 ⟨r.hd,by have:=r.dp;show A.depth+3*k+5<_;omega,by have:=r.un;show A.units+1+16*k+200<_;omega⟩
theorem qQ{A:Around}{C:Addr}{us:List Value}{a:List (Str×Value)}:(A.under (.builtin "type.__call__" ⟨.ref C::us,a⟩)).depth=A.depth+1:=by
 first|rfl|simp[Around.under,Code.weight,Code.isCreation,Code.isGuard,Code.isCaller,Code.frames,Code.isFrame,guardIds]
theorem qR{A:Around}{C:Addr}{us:List Value}{a:List (Str×Value)}:(A.under (.builtin "type.__call__" ⟨.ref C::us,a⟩)).units=A.units+1:=by
 first|rfl|simp[Around.under,Code.cUnits,Code.frames,Code.isFrame]
theorem cD.make{k:Nat}{A:Around}(r:cD (k+1) A)(C:Addr)(us:List Value)(a:List (Str×Value)):cD k (A.under (.builtin "type.__call__" ⟨.ref C::us,a⟩)):=
 ⟨r.hd,by have:=r.dp;rw[qQ];omega,by have:=r.un;rw[qR];omega⟩
theorem cD.depth{k:Nat}{A:Around}(r:cD k A):A.depth<recursionLimit:=by have:=r.dp;omega
theorem cD.units{k:Nat}{A:Around}(r:cD k A):A.units+64<cLine:=by have:=r.un;omega
noncomputable def zp:TA:=λ_ H Q=>Q [] H
noncomputable def Fz(b:TE)(c:TA):TA:=λa H Q=>b a H λx d=>c a d λe f=>Q (x::e) f
section
variable{X:Cx}{e:Expr}{es:List Expr}{te:TE}{t:TA}{pos:Pos}
theorem qS:PA X [] zp:=λ_ _ _ _ H Q I h=>Calls.spliced_nil ⟨[],H,I,.nil,h⟩
theorem gw(c:PE X e te)(d:PA X es t)(f:starEach (e::es) X.env=(false,eval e X.env)::starEach es X.env:=by rfl):PA X (e::es) (Fz te t):=by
 intro a pins s b H Q I h;rw[f]
 show wpAny _ _ (spliced ((false,eval e X.env)::backTo a (starEach es X.env))) _ _ s
 refine Calls.spliced_cons (bZ (c pins s b H _ I h) λu g ⟨x,H1,I1,r1,q1⟩=>?_)
 exact bZ (d a pins g b H1 _ I1 q1) λj k ⟨i,H2,I2,r2,q2⟩=>⟨x::i,H2,I2,.cons r1 r2,q2⟩
def Lj(t:TA):TE:=λc H Q=>t c H λa b=>a.length<=sizeLine/\∀p,b p=none->Q (.ref p) (upd b p (.tup a))
def Lk(t:TA):TE:=λc H Q=>t c H λa b=>a.length<=sizeLine/\∀p,b p=none->Q (.ref p) (upd b p (.lst a))
theorem C5{x1}(h:PA X es t):PE X (.Tuple es x1 pos) (Lj t):=by
 intro pins s c H Q I d;refine wpAny_Tuple_spliced (bZ (h pos pins s c H _ I d) λf a ⟨g,H1,I1,r,z,q⟩=>⟨by rw[←r.length];exact z,?_⟩)
 have i:H1 a.heap.objs.size=none:=I1.hok.fresh (Nat.le_refl _);refine⟨.ref a.heap.objs.size,upd H1 a.heap.objs.size (.tup g),I1.laid (t':=a.toks) (λb u e=>Heap.get?_push_of_some _ e) (Nat.le_refl _) ?_,rfl,q _ i⟩
 exact⟨z,f,r,⟨_,Heap.get?_push_size _ rfl,rfl,_,rfl⟩⟩
theorem C7(h:PA X es t):PE X (.List es pos) (Lk t):=by
 intro pins s c H Q I d;refine wpAny_List_spliced (bZ (h pos pins s c H _ I d) λf a ⟨g,H1,I1,r,z,q⟩=>⟨by rw[←r.length];exact z,?_⟩)
 have i:H1 a.heap.objs.size=none:=I1.hok.fresh (Nat.le_refl _);refine⟨.ref a.heap.objs.size,upd H1 a.heap.objs.size (.lst g),I1.laid (t':=a.toks) (λb u e=>Heap.get?_push_of_some _ e) (Nat.le_refl _) ?_,rfl,q _ i⟩
 exact⟨z,f,0,r,Heap.get?_push_size _ rfl⟩
end
abbrev Sp:=List V->Hp->VK->XK->Prop
abbrev uK:=List Env->Hp->Shared->XK->Value->Shared->Prop
structure qT(P:Program)(w:World)(K:PySem.W.Frag)(mg:Str->Option Value)(base:Heap)(A:Around)(outer:List Env)(s:Shared)(H:Hp):Prop where
 frames:A.frames=some outer
 mod:Mod K mg base
 bs:∀b o,base.get? b=some o->s.heap.get? b=some o/\H b=none
 BN:base.objs.size<=s.heap.objs.size
 jz:s.heap.FunFrames base outer
 CD:∀b∈frs outer,H b=none
 hok:g_ P w H s.heap
 bare:AllBare s.gens
def CE(outer:List Env)(P:Program)(w:World)(H:Hp)(s:Shared)(Q:VK)(u:Value)(a:Shared):Prop:=
 ∃v b,a.os=s.os/\AllBare a.gens/\Un (frs outer) [] H b s.heap a.heap/\g_ P w b a.heap/\RelV v u/\Q v b
def CR(CX:uK)(outer:List Env)(P:Program)(w:World)(H:Hp)(s:Shared)(Q:VK)(E:XK)(r:Result)(a:Shared):Prop:=
 match r with
 |.ok (.ret u)=>CE outer P w H s Q u a
 |.ok _=>False
 |.error e=>CX outer H s E e a
structure cS(P:Program)(w:World)(K:PySem.W.Frag)(mg:Str->Option Value)(base:Heap)(CX:uK)(k:Nat)(f:Addr)(fd:FuncData)(ps:List Str)(sp:Sp):Prop where
 len:∀vs H Q E,sp vs H Q E->vs.length=ps.length
 run:∀(A:Around) (outer:List Env) (s:Shared) (H:Hp) (args:Args) (us:List Value) (vs:List V) (Q:VK) (E:XK),cD k A->qT P w K mg base A outer s H->BindsTo s fd args (ps.zip us)->Vals vs us->sp vs H Q E ->
  codeAny (model P w) A (.call (.ref f) args) (CR CX outer P w H s Q E) s
theorem cS.mono{P:Program}{w:World}{K:PySem.W.Frag}{a:Str->Option Value}{base:Heap}{CX:uK}{j k:Nat}{f:Addr}{b:FuncData}{ps:List Str}{sp:Sp}(F:cS P w K a base CX j f b ps sp)(h:j<=k) :
  cS P w K a base CX k f b ps sp:=⟨F.len,λA outer s H args c d Q E e=>F.run A outer s H args c d Q E (e.mono h)⟩
theorem cS.imp{P:Program}{w:World}{K:PySem.W.Frag}{b:Str->Option Value}{base:Heap}{CX:uK}{k:Nat}{f:Addr}{c:FuncData}{ps:List Str}{sp a:Sp}(F:cS P w K b base CX k f c ps sp)
  (h:∀vs H Q E,a vs H Q E->sp vs H Q E):cS P w K b base CX k f c ps a:=
 ⟨λvs H Q E q=>F.len vs H Q E (h _ _ _ _ q),λA outer s H args d vs Q E e g i j l=>F.run A outer s H args d vs Q E e g i j (h _ _ _ _ l)⟩
theorem qT.make{P:Program}{w:World}{K:PySem.W.Frag}{a:Str->Option Value}{base:Heap}{A:Around}{outer:List Env}{s:Shared}{H:Hp}(e:qT P w K a base A outer s H)(C:Addr)(us:List Value)(b:List (Str×Value)) :
  qT P w K a base (A.under (.builtin "type.__call__" ⟨.ref C::us,b⟩)) outer s H:=⟨by first|exact e.frames | (simpa[Around.under,Code.envs,Code.isFrame,pushEnvs]using e.frames),e.mod,e.bs,e.BN,e.jz,e.CD,e.hok,e.bare⟩
section
variable{X:Cx}{pins:List (Addr×Obj)}{σ:St}{H:Hp}{s s':Shared}
theorem Inv.env0(I:Inv X pins σ H s):qT X.prog X.w X.K X.mg X.base X.A X.stack s H:=
 ⟨I.ok.frames,I.ok.mod,I.bs,Nat.le_trans I.ok.BN I.sz,I.stack,I.sH,I.hok,I.bare⟩
theorem Inv.after{Q:VK}{u:Value}(I:Inv X pins σ H s)(h:CE X.stack X.prog X.w H s Q u s'):EP X pins σ Q u s':=by
 obtain⟨v,e,f,bare,i,a,r,q⟩:=h;obtain⟨j,g,d,t,c⟩:=s';obtain rfl:c=s.os:=f;exact⟨v,e,I.call (h':=j) (g':=g) (d':=d) (t':=t) (ch:=[]) i a bare (λb z=>absurd z (by simp)),r,q⟩
end
noncomputable def BR(sp:Sp)(a:List V)(E:XK)(t:TA):TE:=λb H Q=>t b H λc d=>sp (c++a) d Q E
noncomputable def BS(C:Addr)(m:Str)(sp:Sp)(b:List V)(E:XK)(f:TE)(t:TA):TE:=λc H Q=>f c H λx d=>∃a g e,x=.ref a/\d a=some (.ins C g e)/\e.lookup m=none /\
 t c d λh i=>sp (x::(h++b)) i Q E
def BU(C:Addr)(sp:Sp)(b:List V)(E:XK)(t:TA):TE:=λd H Q=>t d H λe c=>∀x a,c x=none->c a=none->a≠x ->
 sp (.ref x::(e++b)) (upd (upd c a (.own x)) x (.ins C a [])) (λv f=>v=.non/\Q (.ref x) f) E
def Binds(K:PySem.W.Frag)(b:FuncData)(ps:List Str)(ds:List Value):Prop:=
 ∀(s:Shared) (a:List Value),K.In s.heap->(a++ds).length=ps.length->BindsTo s b ⟨a,[]⟩ (ps.zip (a++ds))
theorem Binds.all{K:PySem.W.Frag}{a:FuncData}{ps:List Str}(h:∀us:List Value,us.length=ps.length->bindArgs a ⟨us,[]⟩=pure (ps.zip us)):Binds K a ps []:=λs us _ b=>by
 rw[List.append_nil]at b ⊢;exact .of_eq (h us b)
def Passes(CX:uK)(X:Cx)(E:XK):Prop:=∀(pins:List (Addr×Obj)) (b:St) (H:Hp) (s:Shared) (e:Value) (a:Shared),Inv X pins b H s->CX X.stack H s E e a->X.xe e a
section
variable{X:Cx}{CX:uK}{k:Nat}{f C:Addr}{fd:FuncData}{ps:List Str}{sp:Sp}{m_:List V}{ds:List Value}{E:XK}{x m:Str}{p pos apos:Pos}{e o:Expr}{es:List Expr}{ta:TE}{t:TA}
theorem ng{pins:List (Addr×Obj)}{b:St}{H:Hp}{s:Shared}{Q:VK}{us:List Value}{vs:List V}(F:cS X.prog X.w X.K X.mg X.base CX k f fd ps sp)(d:cD k X.A)(g:Binds X.K fd ps ds)(i:Vals m_ ds)(j:Passes CX X E)
  (I:Inv X pins b H s) (r:Vals vs us) (h:sp (vs++m_) H Q E):wpAny (model X.prog X.w) X.A (call (.ref f) us) (EP X pins b Q) X.xe s:=by
 have c:Vals (vs++m_) (us++ds):=r.append i;have l:(us++ds).length=ps.length:=by rw[←c.length];exact F.len _ _ _ _ h
 refine wpAny_call (codeAny_mono (F.run X.A X.stack s H ⟨us,[]⟩ (us++ds) (vs++m_) Q E d I.env0 (g s us I.iZ l) c h) λr m a=>?_)
 cases r with
 |error e=>exact j pins b H s e m I a
 |ok fl=>
  cases fl with
  |ret u=>exact I.after a
  |next=>exact False.elim a
  |brk=>exact False.elim a
  |cont=>exact False.elim a
theorem sL(F:cS X.prog X.w X.K X.mg X.base CX k f fd ps sp)(c:cD k X.A)(d:Gl X x)(g:X.mg x=some (.ref f))(i:PySem.W.keepIn X.K (.ref f)=true)(j:Binds X.K fd ps ds)(l:Vals m_ ds)(m:Passes CX X E)
  (n:PA X (e::es) t) (a:(x==("__debug__":Str))=false:=by decide) (o:starEach (e::es) X.env=(false,eval e X.env)::starEach es X.env:=by rfl) (b:(backTo pos (starEach es X.env)).any (·.1)=false:=by rfl) :
  PE X (.Call (.Name x p) (e::es) [] pos) (BR sp m_ E t):=by
 intro pins s u H Q I h;refine wpAny_Call_Name_kw (ik I d g ?_ a);refine PySem.W.callWith_K (h₀:=X.base) I.ok.mod.Fd i (bZ (n pos pins s u H _ I h) λy z ⟨B,H1,I1,r,q⟩=>⟨I1.iZ,?_⟩) o b
 exact ng F c j l m I1 r q
theorem wa(F:cS X.prog X.w X.K X.mg X.base CX k f fd ps sp)(b:cD k X.A)(c:Gl X x)(d:X.mg x=some (.ref f))(e:PySem.W.keepIn X.K (.ref f)=true)(g:Binds X.K fd ps ds)(i:Vals m_ ds)(j:Passes CX X E)
  (a:(x==("__debug__":Str))=false:=by decide):PE X (.Call (.Name x p) [] [] pos) (BR sp m_ E zp):=by
 intro pins s l H Q I h;refine wpAny_Call_Name_kw (ik I c d ?_ a);exact PySem.W.callWith_K0 I.iZ e (ng (us:=[]) F b g i j I .nil h)
theorem zq{pl:Sem Bool}(n:PE X o ta)(c:jO X.K C)(g:Meth X.K C m f)(F:cS X.prog X.w X.K X.mg X.base CX k f fd ps sp)(p:cD k X.A)(y:Binds X.K fd ps ds)(z:Vals m_ ds)(B:Passes CX X E)(D:PA X (e::es) t)
  (b:starEach (e::es) X.env=(false,eval e X.env)::starEach es X.env:=by rfl) (d:(backTo pos (starEach es X.env)).any (·.1)=false:=by rfl)
  (G:eval (.Call (.Attribute o m apos) (e::es) [] pos) X.env=(do
   let i ←eval o X.env
   standAt apos.atName
   let (f,first) ←holding [i] (getMethod i m pl)
   callWith pos f first (backTo pos (starEach (e::es) X.env)) (backToKw pos (keywordEach [] X.env))):=by rfl) :
  PE X (.Call (.Attribute o m apos) (e::es) [] pos) (BS C m sp m_ E ta t):=by
 intro pins s j H Q I h;refine PySem.W.methodCall_KW (pl:=pl) (bZ (n pins s j H _ I h) λu J ⟨x,H1,I1,rx,a,dx,fs,ex,ea,l,q⟩=>?_) G
 subst ex;obtain rfl:u=Value.ref a:=rx;refine ki I1 ea c g l ?_;refine PySem.W.callWith_K (first:=[.ref a]) (h₀:=X.base) I.ok.mod.Fd g.kp (bZ (D pos pins J j H1 _ I1 q) λus L ⟨vs,H2,I2,r,q2⟩=>⟨I2.iZ,?_⟩) b d
 exact ng (us:=.ref a::us) (vs:=.ref a::vs) F p y z B I2 (.cons rfl r) q2
theorem wb{pl:Sem Bool}(e:PE X o ta)(c:jO X.K C)(b:Meth X.K C m f)(F:cS X.prog X.w X.K X.mg X.base CX k f fd ps sp)(g:cD k X.A)(i:Binds X.K fd ps ds)(j:Vals m_ ds)(n:Passes CX X E)
  (p:eval (.Call (.Attribute o m apos) [] [] pos) X.env=(do
   let d ←eval o X.env
   standAt apos.atName
   let (f,first) ←holding [d] (getMethod d m pl)
   callWith pos f first (backTo pos (starEach [] X.env)) (backToKw pos (keywordEach [] X.env))):=by rfl) :
  PE X (.Call (.Attribute o m apos) [] [] pos) (BS C m sp m_ E ta zp):=by
 intro pins s r H Q I h;refine PySem.W.methodCall_KW (pl:=pl) (bZ (e pins s r H _ I h) λu t ⟨x,H1,I1,rx,a,dx,fs,ex,ea,l,q⟩=>?_) p
 subst ex;obtain rfl:u=Value.ref a:=rx;refine ki I1 ea c b l ?_;exact PySem.W.callWith_K0 (first:=[.ref a]) I1.iZ b.kp (ng (us:=[.ref a]) (vs:=[.ref a]) F g i j n I1 (.cons rfl .nil) q)
structure Mk(K:PySem.W.Frag)(C f:Addr):Prop where
 makes:PySem.W.makesIn K C=true
 init:PySem.W.findIn K (.ref C) "__init__"=some (some (.ref f))
 fn:PySem.W.isFn K (.ref f)=true
 kp:PySem.W.keepIn K (.ref C)=true
theorem o8{pins:List (Addr×Obj)}{d:St}{H:Hp}{s:Shared}{Q:VK}{us:List Value}{vs:List V}(M:Mk X.K C f)(F:cS X.prog X.w X.K X.mg X.base CX k f fd ps sp)(j:cD (k+1) X.A)(l:Binds X.K fd ps ds)(m:Vals m_ ds)
  (n:Passes CX X E) (I:Inv X pins d H s) (r:Vals vs us)
  (h:∀x b,H x=none->H b=none->b≠x->sp (.ref x::(vs++m_)) (upd (upd H b (.own x)) x (.ins C b [])) (λv o=>v=.non/\Q (.ref x) o) E) :
  wpAny (model X.prog X.w) X.A (call (.ref C) us) (EP X pins d Q) X.xe s:=by
 have g:=h (s.heap.objs.size+1) s.heap.objs.size (I.hok.fresh (Nat.le_succ _)) (I.hok.fresh (Nat.le_refl _)) (Nat.ne_of_lt (Nat.lt_succ_self _));have c:=Inv.made (C:=C) I;have i:Vals (V.ref (s.heap.objs.size+1)::(vs++m_)) (Value.ref (s.heap.objs.size+1)::(us++ds)):=.cons rfl (r.append m)
 have p:(Value.ref (s.heap.objs.size+1)::us++ds).length=ps.length:=by
  have e:=i.length;rw[F.len _ _ _ _ g]at e;exact e.symm
 refine wpAny_call (v_ (f:=f) I.iZ M.makes M.init (beq_iff_eq.mp M.fn) (codeAny_mono (F.run _ X.stack _ _ ⟨Value.ref (s.heap.objs.size+1)::us,[]⟩ (Value.ref (s.heap.objs.size+1)::(us++ds)) _ _ E (j.make C us [])
  (c.env0.make C us []) (l _ (Value.ref (s.heap.objs.size+1)::us) c.iZ p) i g) λr q a=>?_))
 cases r with
 |error e=>exact n pins d _ _ e q c a
 |ok fl=>
  cases fl with
  |ret u=>
   obtain⟨v,t,y,z,B,D⟩:=c.after a;subst B;exact⟨z,⟨V.ref (s.heap.objs.size+1),t,y,rfl,D⟩⟩
  |next=>exact False.elim a
  |brk=>exact False.elim a
  |cont=>exact False.elim a
theorem zr(M:Mk X.K C f)(F:cS X.prog X.w X.K X.mg X.base CX k f fd ps sp)(c:cD (k+1) X.A)(d:Gl X x)(g:X.mg x=some (.ref C))(i:Binds X.K fd ps ds)(j:Vals m_ ds)(l:Passes CX X E)
  (m:PA X (e::es) t) (a:(x==("__debug__":Str))=false:=by decide) (n:starEach (e::es) X.env=(false,eval e X.env)::starEach es X.env:=by rfl) (b:(backTo pos (starEach es X.env)).any (·.1)=false:=by rfl) :
  PE X (.Call (.Name x p) (e::es) [] pos) (BU C sp m_ E t):=by
 intro pins s o H Q I h;refine wpAny_Call_Name_kw (ik I d g ?_ a);refine PySem.W.callWith_K (h₀:=X.base) I.ok.mod.Fd M.kp (bZ (m pos pins s o H _ I h) λu y ⟨z,H1,I1,r,q⟩=>⟨I1.iZ,?_⟩) n b
 exact o8 M F c i j l I1 r q
theorem wc(M:Mk X.K C f)(F:cS X.prog X.w X.K X.mg X.base CX k f fd ps sp)(b:cD (k+1) X.A)(c:Gl X x)(d:X.mg x=some (.ref C))(e:Binds X.K fd ps ds)(g:Vals m_ ds)(i:Passes CX X E)
  (a:(x==("__debug__":Str))=false:=by decide):PE X (.Call (.Name x p) [] [] pos) (BU C sp m_ E zp):=by
 intro pins s j H Q I h;refine wpAny_Call_Name_kw (ik I c d ?_ a);exact PySem.W.callWith_K0 I.iZ M.kp (o8 (us:=[]) M F b e g i I .nil h)
end
section
variable{X:Cx}{CX:uK}{k:Nat}{f C:Addr}{fd:FuncData}{ps ks:List Str}{sp:Sp}{E:XK}{x m:Str}{p pos apos SQ:Pos}{e o:Expr}{es:List Expr}{kws:List Keyword}{te ta:TE}{t tk:TA}{nm:Option Str}
variable{g:List Value->List Value->List Value}{gV:List V->List V->List V}
end
structure nk(N P:List Str)(sc:Scope):Prop where
 kind:sc.kind=.function
 co:sc.isCoroutine=false
 gen:sc.isGenerator=false
 nd:N.Nodup
 pre:N.take P.length=P
 par:∀x∈P,sc.names.lookup x=some .local\/sc.names.lookup x=some .cell
 C8:∀y∈sc.names,y.2≠.free
theorem lY{kindOf:Str->Option NameKind}{x:Str}:∀{binds:List (Str×Value)}{m:Str->Option Value},(∀v,(x,v)∉binds)->bindL kindOf binds m x=m x
 |[],_,_=>rfl
 | (n,v)::r,m,h=>by
  unfold bindL;rw[lY λw a=>h w (List.mem_cons_of_mem _ a)]
  split
  .have:x≠n:=by rintro rfl;exact h v List.mem_cons_self
   simp[this]
  .rfl
theorem lZ{kindOf:Str->Option NameKind}{x:Str}:∀{binds:List (Str×Value)}{m:Str->Option Value},(∀v,(x,v)∉binds)->bindC kindOf binds m x=m x
 |[],_,_=>rfl
 | (n,v)::r,m,h=>by
  unfold bindC;rw[lZ λw a=>h w (List.mem_cons_of_mem _ a)]
  split
  .rfl
  .have:x≠n:=by rintro rfl;exact h v List.mem_cons_self
   simp[this]
theorem l9{kindOf:Str->Option NameKind}{x:Str}{v:Value}:∀{P:List Str}{vs:List Value}{i:Nat}{m:Str->Option Value},P.Nodup->P[i]?=some x->vs[i]?=some v->kindOf x=some .local ->
  bindL kindOf (P.zip vs) m x=some v
 |[],_,_,_,_,h,_,_=>by simp at h
 |_::_,[],_,_,_,_,h,_=>by simp at h
 |p::P,w::vs,0,m,a,h1,h2,b=>by
  simp at h1 h2;subst h1;subst h2
  show bindL kindOf ((p,w)::P.zip vs) m p=_
  unfold bindL;rw[lY λv c=>(List.nodup_cons.mp a).1 (List.of_mem_zip c).1,if_pos b]
  simp
 |p::P,w::vs,i+1,m,a,h1,h2,b=>by
  show bindL kindOf ((p,w)::P.zip vs) m x=_
  unfold bindL;exact l9 (i:=i) (List.nodup_cons.mp a).2 (by simpa using h1) (by simpa using h2) b
theorem l_{kindOf:Str->Option NameKind}{x:Str}{v:Value}:∀{P:List Str}{vs:List Value}{i:Nat}{m:Str->Option Value},P.Nodup->P[i]?=some x->vs[i]?=some v->kindOf x≠some .local ->
  bindC kindOf (P.zip vs) m x=some v
 |[],_,_,_,_,h,_,_=>by simp at h
 |_::_,[],_,_,_,_,h,_=>by simp at h
 |p::P,w::vs,0,m,a,h1,h2,b=>by
  simp at h1 h2;subst h1;subst h2
  show bindC kindOf ((p,w)::P.zip vs) m p=_
  unfold bindC;rw[lZ λv c=>(List.nodup_cons.mp a).1 (List.of_mem_zip c).1,if_neg b]
  simp
 |p::P,w::vs,i+1,m,a,h1,h2,b=>by
  show bindC kindOf ((p,w)::P.zip vs) m x=_
  unfold bindC;exact l_ (i:=i) (List.nodup_cons.mp a).2 (by simpa using h1) (by simpa using h2) b
noncomputable def start(N:List Str)(vs:List V):St:=vs.map some++List.replicate (N.length - vs.length) none
noncomputable def uL(CX:uK)(P:Program)(w:World)(K:PySem.W.Frag)(mg:Str->Option Value)(base:Heap)(N:List Str)(qual:Str)(scope:Scope)(f:Addr)(b:Value)(A:Around)(outer:List Env)(s:Shared)(H:Hp)(E:XK):Cx where
 prog:=P
 w:=w
 K:=K
 mg:=mg
 base:=base
 A:=A.deeper (envOfC qual scope s.heap.objs.size f b)
 N:=N
 s₀:=s
 H₀:=H
 env:=envOfC qual scope s.heap.objs.size f b
 outer:=outer
 stack:=envOfC qual scope s.heap.objs.size f b::outer
 ex:=[]
 calm:=true
 fn:=λ_=>true
 pn:=[]
 xe:=λe c=>wpAny (model P w) (A.deeper (envOfC qual scope s.heap.objs.size f b)) (leaving (envOfC qual scope s.heap.objs.size f b) e) (λ_ a=>CX outer H s E e a) (λd a=>CX outer H s E d a) c
theorem o9{a:Scope}{n:Nat}{x:Str}(h:a.names.lookup x=some .cell):∃c,(cellsFrom n a.names []).lookup x=some c:=by
 have q:=PySem.W.cellsFrom_some a.names n [] (.inl h);exact Option.isSome_iff_exists.mp q
theorem uM{CX:uK}{P:Program}{w:World}{K:PySem.W.Frag}{C:Str->Option Value}{base:Heap}{N ps:List Str}{qual:Str}{scope:Scope}{f:Addr}{o:Value}{A:Around}{outer:List Env}{s D:Shared}{H:Hp}{E:XK}{us:List Value}{vs:List V}
  (S:nk N ps scope) (J:A.handled=none) (g:qT P w K C base A outer s H) (Q:vs.length=ps.length) (r:Vals vs us)
  (x:InCallC s s.heap.objs.size (bindL (envOfC qual scope s.heap.objs.size f o).kindOf (ps.zip us) λ_=>none) (cellsFrom (s.heap.objs.size+1) scope.names []) (bindC (envOfC qual scope s.heap.objs.size f o).kindOf (ps.zip us) λ_=>none) D) :
  Inv (uL CX P w K C base N qual scope f o A outer s H E) [] (start N vs) H D:=by
 have L:ps.length<=N.length:=by have:=congrArg List.length S.pre;rw[List.length_take]at this;omega
 obtain⟨t,R,rfl,F⟩:=x.done;have j:∀b:Addr,b∉(uL CX P w K C base N qual scope f o A outer s H E).ex:=λb z=>absurd (show b∈([]:List Addr)from z) (by simp)
 refine⟨⟨g.mod,S.kind,rfl,rfl,Nat.le_refl _,λy z c t d=>?_,λy hy=>?_,λy c _ h=>?_,λ_=>J,Around.frames_deeper g.frames,.inr ⟨rfl,rfl⟩,λb z=>absurd z (j b),g.bs,g.BN,λb _ _=>j b,λb z=>absurd z (j b),g.jz,g.CD⟩,
  rfl,g.bare,Un.kept F,⟨_,x.toInCall.ns,λi y v t d T=>?_⟩,λy c h=>⟨_,x.cell y c h⟩,g.hok.fresh (Nat.le_refl _),λy c h=>?_,λp l=>absurd (show p∈([]:List (Addr×Obj))from l) (by simp),g.hok.kept F,?_⟩
 .exact name_of_addr x.apart (PySem.mem_of_lookup t) (PySem.mem_of_lookup d)
 .have hy:scope.names.lookup y=some .cell\/scope.names.lookup y=some .free:=hy
  rcases hy with hy|hy
  .exact o9 hy
  .exact absurd rfl (S.C8 _ (PySem.mem_of_lookup hy))
 .exact Nat.le_of_lt (x.above y c (PySem.mem_of_lookup h))
 .have B:i<vs.length:=by
   unfold start at d
   by_cases B:i<vs.length
   .exact B
   .rw[List.getElem?_append_right (by simpa using B)]at d
    rw[List.getElem?_replicate]at d;split at d<;>cases d
  have M:vs[i]?=some v:=by
   unfold start at d;rw[List.getElem?_append_left (by simpa using B),List.getElem?_map]at d
   cases e:vs[i]? with
   |none=>rw[e]at d;cases d
   |some a=>rw[e]at d;cases d;rfl
  obtain⟨u,G,O⟩:=r.get M
  have l:ps[i]?=some y:=by
   rw[←S.pre,List.getElem?_take_of_lt (by omega)];exact t
  have m:ps.Nodup:=by rw[←S.pre];exact S.nd.sublist (List.take_sublist _ _)
  refine⟨u,O,?_⟩;rcases S.par y (List.mem_of_getElem? l)with k|k
  .exact .inl ⟨k,l9 m l G k⟩
  .obtain⟨c,e⟩:=o9 (n:=s.heap.objs.size+1) k
   refine .inr ⟨.inl k,c,e,?_⟩;have q:=x.cell y c e;rw[l_ m l G (by show scope.names.lookup y≠_;rw[k];decide)]at q
   exact q
 .have I:=g.hok.fresh (Nat.le_of_lt (x.above y c (PySem.mem_of_lookup h)))
  exact⟨.inl I,λ_=>I⟩
 .unfold start
  show _=N.length
  rw[List.length_append,List.length_map,List.length_replicate];omega
theorem FA{CX:uK}{P:Program}{w:World}{K:PySem.W.Frag}{B:Str->Option Value}{base:Heap}{k:Nat}{f:Addr}{name qual:Str}{params:Arguments}{body:List Stmt}{scope:Scope}{O kV j R a ct oc:Value}{T Y:Option Addr}
  {C:Array (Option Value)}{N ps:List Str}{sp:Sp} (Z:K.lookup f=some ⟨oc,Y,.func (PySem.W.fnOf name qual params body scope O kV j R T a ct),C⟩) (D:PySem.W.codeIn K a qual=true) (S:nk N ps scope)
  (l:∀vs H Q E,sp vs H Q E->vs.length=ps.length)
  (g:∀(A:Around) (outer:List Env) (s:Shared) (H:Hp) (vs:List V) (Q:VK) (E:XK),cD k (A.deeper (envOfC qual scope s.heap.objs.size f a))->sp vs H Q E ->
   ∃t,jA (uL CX P w K B base N qual scope f a A outer s H E) body t/\t {nx:=λ_ d=>Q .non d,rt:=Q} (start N vs) H) :
  cS P w K B base CX (k+1) f (PySem.W.fnOf name qual params body scope O kV j R T a ct) ps sp:=by
 refine⟨l,λA outer s H args us vs Q E F m hb r p=>?_⟩
 have hl:=l _ _ _ _ p;have U:K.In s.heap:=m.mod.Fd.keeps λb o e=>(m.bs b o e).1
 have G:s.heap.NoLimit:=m.mod.nolimit.keeps λb o e=>(m.bs b o e).1
 have h:∀y∈ps.zip us,scope.names.lookup y.1=some .local\/(scope.names.lookup y.1=some .cell/\((cellsFrom (s.heap.objs.size+1) scope.names []).lookup y.1).isSome=true):=λ⟨n,v⟩ hy=>by
  rcases S.par n (List.of_mem_zip hy).1 with q|q
  .exact .inl q
  .exact .inr ⟨q,PySem.W.cellsFrom_some _ _ _ (.inl q)⟩
 refine codeAny_call_function F.depth (U _ _ Z) rfl S.co S.gen rfl (PySem.W.codeRec_of U D) (hb _ _ _ _ ?_);refine wpAny_newFunctionEnv_cells S.kind h λa0 he X x=>?_
 subst he;refine⟨G.keeps x.toInCall.keep,codeAny_func ?_⟩;obtain⟨t,ht,hq⟩:=g A outer s H vs Q E (F.deeper _) p;have I:Inv (uL CX P w K B base N qual scope f a A outer s H E) [] (start N vs) H X:=uM S F.hd m hl r x;refine wpAny_mono (ht [] X (start N vs) H _ I hq) (λfl L i=>?_) λe L i=>i
 have z:∀{c:St}{d:Hp}{v:V}{u:Value},Inv (uL CX P w K B base N qual scope f a A outer s H E) [] c d L->RelV v u->Q v d->CE outer P w H s Q u L:=
  λ{c d v u} J M q=>⟨v,d,J.os,J.bare,J.base,J.hok,M,q⟩
 cases fl with
 |ret u=>
  obtain⟨v,c,d,J,M,q⟩:=i;exact z J M q
 |next=>
  obtain⟨c,d,J,q⟩:=i;exact z (v:=V.non) (u:=Value.none) J rfl q
 |brk=>
  obtain⟨_,_,_,q⟩:=i;exact False.elim q
 |cont=>
  obtain⟨_,_,_,q⟩:=i;exact False.elim q
section
variable{X:Cx}{x:Str}{p pos:Pos}{e:Expr}{es:List Expr}{t:TA}{id T:String}{r:List V->Hp->VK->Prop}
noncomputable def QH(r:List V->Hp->VK->Prop)(t:TA):TE:=λa H Q=>t a H λb c=>r b c Q
theorem o_(d:dn X (.builtin id) r)(f:Gl X x)(g:X.mg x=none)(i:bootBuiltins x=some (.builtin id))(j:PA X (e::es) t)(k:x≠"__name__":=by decide)(a:(x==("__debug__":Str))=false:=by decide)
  (l:starEach (e::es) X.env=(false,eval e X.env)::starEach es X.env:=by rfl) (b:(backTo pos (starEach es X.env)).any (·.1)=false:=by rfl):PE X (.Call (.Name x p) (e::es) [] pos) (QH r t):=by
 intro pins s c H Q I h;refine wpAny_Call_Name_kw (fU I f g i ?_ k a);exact PyProof.Rows.callWith_builtin1 (bZ (j pos pins s c H _ I h) λm n ⟨o,H1,I1,r1,q1⟩=>d pins n c H1 o m Q I1 r1 q1) l b
theorem uN(d:dn X (.type T) r)(f:Gl X x)(g:X.mg x=none)(i:bootBuiltins x=some (.type T))(j:PA X (e::es) t)(k:x≠"__name__":=by decide)(a:(x==("__debug__":Str))=false:=by decide)
  (l:starEach (e::es) X.env=(false,eval e X.env)::starEach es X.env:=by rfl) (b:(backTo pos (starEach es X.env)).any (·.1)=false:=by rfl):PE X (.Call (.Name x p) (e::es) [] pos) (QH r t):=by
 intro pins s c H Q I h;refine wpAny_Call_Name_kw (fU I f g i ?_ k a);exact PyProof.Rows.callWith_type1 (bZ (j pos pins s c H _ I h) λm n ⟨o,H1,I1,r1,q1⟩=>d pins n c H1 o m Q I1 r1 q1) l b
end
end L2
namespace HT
open PySem PyProof.Rows
section
open PySem.SeqAt
open PySem.AutoSeq1 (wpAny_loadPart')
open PySem.MeetsSeq PySem.MeetsSeq2 PySem.MeetsSeq3
end
section
variable{prog:Program}{w:World}{A:Around}{E:Value->Shared->Prop}{s:Shared}
noncomputable def gx(n d:Nat):Option Int->Nat
 |none=>d
 |some v=>if v<0 then (v+(n:Int)).toNat else min v.toNat n
theorem pa(n d:Nat):gx n d none=d:=rfl
theorem jP(n d k:Nat):gx n d (some (k:Int))=min k n:=by
 show(if (k:Int)<0 then ((k:Int)+(n:Int)).toNat else min (k:Int).toNat n)=min k n
 rw[if_neg (by omega),Int.toNat_natCast]
theorem qU(n d:Nat)(b:d<=n)(o:Option Int):gx n d o<=n:=by
 cases o with
 |none=>exact b
 |some v=>
  show(if v<0 then (v+(n:Int)).toNat else min v.toNat n)<=n
  by_cases a:v<0
  .rw[if_pos a];omega
  .rw[if_neg a];exact Nat.min_le_right _ _
end
end HT
namespace L2
open PySem PySem.Spec PyProof.Rows
abbrev TO:=St->Hp->(Option Int->Hp->Prop)->Prop
def PO(X:Cx)(e:Option Expr)(t:TO):Prop:=
 ∀(pins:List (Addr×Obj)) (s:Shared) (a:St) (H:Hp) (Q:Option Int->Hp->Prop),Inv X pins a H s->t a H Q ->
  wpAny (model X.prog X.w) X.A (evalPart e X.env) (λu c=>∃o b,Inv X pins a b c/\IsPart u o/\Q o b) X.xe s
noncomputable def sM:TO:=λ_ H Q=>Q none H
noncomputable def FC(t:TE):TO:=λa H Q=>t a H λx b=>∃i,x=.int i/\Q (some i) b
section
variable{X:Cx}{e:Expr}{te:TE}{lo hi:Option Expr}{tl th:TO}{pos p2:Pos}
theorem zt:PO X none sM:=by
 intro pins s a H Q I h;rw[evalPart_none];exact wpAny_pure ⟨none,H,I,.none,h⟩
theorem zu(h:PE X e te):PO X (some e) (FC te):=by
 intro pins s a H Q I b;rw[evalPart_some];refine bZ (h pins s a H _ I b) λu c ⟨x,H1,I1,r1,q1⟩=>?_
 obtain⟨i,rfl,q⟩:=q1;obtain⟨t,rfl⟩:=r1;exact⟨some i,H1,I1,.int i t,q⟩
def C9(X:Cx)(r:V->Option Int->Option Int->Hp->VK->Prop):Prop:=
 ∀(pins:List (Addr×Obj)) (s:Shared) (a:St) (H:Hp) (x:V) (v b c:Value) (d e:Option Int) (f:Addr) (Q:VK),Inv X pins a H s->RelV x v->s.heap.IsSliceOf f b c .none->IsPart b d->IsPart c e->r x d e H Q ->
  ∃T g,typeLookup (.type T) "__getitem__"=pure (some (.builtin g))/\s.TypeIs v T/\wpAny (model X.prog X.w) X.A (getItem v (.ref f)) (EP X pins a Q) X.xe s
theorem C9.or{r c:V->Option Int->Option Int->Hp->VK->Prop}(h:C9 X r)(h':C9 X c):C9 X (λx a b H Q=>r x a b H Q\/c x a b H Q):=by
 intro pins s d H x v e f a b g Q I i j k l q;rcases q with q|q
 .exact h pins s d H x v e f a b g Q I i j k l q
 .exact h' pins s d H x v e f a b g Q I i j k l q
noncomputable def SR(r:V->Option Int->Option Int->Hp->VK->Prop)(b:TE)(c d:TO):TE:=λa H Q=>b a H λx e=>c a e λl f=>d a f λu g=>r x l u g Q
theorem fY{r:V->Option Int->Option Int->Hp->VK->Prop}(g:C9 X r)(i:PE X e te)(j:PO X lo tl)(k:PO X hi th):PE X (.Subscript e (.Slice lo hi none p2) pos) (SR r te tl th):=by
 intro pins s a H Q I h;refine Subscript_ (bZ (i pins s a H _ I h) λv m ⟨x,H1,I1,n,q1⟩=>?_)
 refine wpAny_Slice (bZ (j pins m a H1 _ I1 q1) λc o ⟨l,H2,I2,p,q2⟩=>bZ (k pins o a H2 _ I2 q2) λd s3 ⟨u,f,t,y,z⟩=>?_)
 rw[evalPart_none];refine wpAny_pure ?_;have B:Inv X pins a f {s3 with heap:=s3.heap.push {cls:=.type "slice",data:=.fields #[c,d,.none]} }:=t.kept (t':=s3.toks) λb F q=>Heap.get?_push_of_some _ q
 obtain⟨T,G,C,D,E⟩:=g pins {s3 with heap:=s3.heap.push {cls:=.type "slice",data:=.fields #[c,d,.none]} } a f x v c d l u s3.heap.objs.size Q B n (Heap.IsSliceOf.new ..) p y z
 show wpAny (model X.prog X.w) X.A (subscriptTail e (.Slice lo hi none p2) v (.ref s3.heap.objs.size)) (EP X pins a Q) X.xe {s3 with heap:=s3.heap.push {cls:=.type "slice",data:=.fields #[c,d,.none]} }
 exact tail_any (ops:=[.ref s3.heap.objs.size,v]) D C E (by with_unfolding_all rfl)
def uO(xs:List V)(a b:Option Int):List V:=(xs.drop (HT.gx xs.length 0 a)).take (HT.gx xs.length xs.length b - HT.gx xs.length 0 a)
theorem pb(xs:List V)(a b:Option Int):(uO xs a b).length<=xs.length:=by
 unfold uO;rw[List.length_take,List.length_drop];omega
end
noncomputable def qF(n:Nat)(i:Int):Option Nat:=if 0<=i then (if i<n then some i.toNat else none)else if -(n:Int)<=i then some (i+n).toNat else none
def jC{a:Type}(xs:List a)(i:Int):Option a:=(qF xs.length i).bind λj=>xs[j]?
theorem nq{n:Nat}{i:Int}{j:Nat}(h:qF n i=some j):seqIndex? i n=some j/\j<n /\ -(n:Int)<=i/\i<n:=by
 unfold qF at h
 by_cases b:0<=i
 .rw[if_pos b]at h
  by_cases a:i<n
  .rw[if_pos a]at h
   have e:i.toNat=j:=Option.some.inj h;exact⟨by rw[seqIndex_of b a,e],by omega,by omega,a⟩
  .rw[if_neg a]at h;cases h
 .rw[if_neg b]at h
  by_cases a : -(n:Int)<=i
  .rw[if_pos a]at h
   have e:(i+n).toNat=j:=Option.some.inj h;exact⟨by rw[seqIndex_neg (by omega) a,e],by omega,a,by omega⟩
  .rw[if_neg a]at h;cases h
theorem nr{a:Type}{xs:List a}{i:Int}{v:a}(h:jC xs i=some v):∃j,seqIndex? i xs.length=some j/\xs[j]?=some v/\j<xs.length /\ -(xs.length:Int)<=i/\i<xs.length:=by
 unfold jC at h;cases e:qF xs.length i with
 |none=>rw[e]at h;cases h
 |some j=>
  rw[e]at h;obtain⟨b,c,d,f⟩:=nq e;exact⟨j,b,h,c,d,f⟩
theorem dw{a:Type}{xs:List a}{j:Nat}{v:a}(h:xs[j]?=some v):jC xs (j:Int)=some v:=by
 have b:j<xs.length:=(List.getElem?_eq_some_iff.mp h).1
 have e:qF xs.length (j:Int)=some j:=by
  unfold qF;rw[if_pos (by omega),if_pos (by omega)];simp
 unfold jC;rw[e];exact h
def sN(b:Expr):Prop:=∀o i,subscripted b false o i=operate [o,i] (getItem o i)
def zv(X:Cx)(r:R2):Prop:=
 ∀(b a:Expr) (pins:List (Addr×Obj)) (s:Shared) (c:St) (H:Hp) (x y:V) (v u:Value) (Q:VK),Inv X pins c H s->RelV x v->RelV y u->r x y H Q ->
  subscripted a false v u=operate [v,u] (getItem v u)->wpAny (model X.prog X.w) X.A (subscriptTail b a v u) (EP X pins c Q) X.xe s
def FD(X:Cx)(d:String)(r:V->List V->Hp->VK->Prop):Prop:=
 ∀(pins:List (Addr×Obj)) (s:Shared) (a:St) (H:Hp) (x:V) (b:List V) (v:Value) (c:List Value) (Q:VK),Inv X pins a H s->RelV x v->Vals b c->r x b H Q ->
  wpAny (model X.prog X.w) X.A (call (.builtin d) (v::c)) (EP X pins a Q) X.xe s
section
variable{X:Cx}{a b:Expr}{ta tb:TE}{pos:Pos}
theorem zv.or{r c:R2}(h:zv X r)(h':zv X c):zv X (λx y H Q=>r x y H Q\/c x y H Q):=by
 intro a b pins s d H x y v u Q I e f q g;rcases q with q|q
 .exact h a b pins s d H x y v u Q I e f q g
 .exact h' a b pins s d H x y v u Q I e f q g
theorem BV{r:R2}(c:zv X r)(d:PE X a ta)(e:PE X b tb)(f:sN b):PE X (.Subscript a b pos) (EN r ta tb):=by
 intro pins s g H Q I h;exact Subscript_ (CT d e I h λv u i x y j k l m q=>c a b pins i g j x y v u Q k l m q (f _ _))
def FE(K:PySem.W.Frag):R2:=λx y H Q=>∃p a i v,x=.ref p/\y=.int i/\jM K H p a/\jC a i=some v/\Q v H
def FF(K:PySem.W.Frag):R2:=λx y H Q=>∃p a i v,x=.ref p/\y=.int i/\qJ K H p a/\jC a i=some v/\Q v H
def FG:R2:=λx y H Q=>∃z i c,x=.str z/\y=.int i/\z.length<=sizeLine/\jC z.cps.toList i=some c/\Q (.str ⟨#[c]⟩) H
theorem zw:zv X (FE X.K):=by
 intro c d pins s l H x y v u Q I A B h m;obtain⟨p,M,i,z,rfl,rfl,C,D,q⟩:=h;cases A;obtain⟨t,rfl⟩:=B;obtain⟨e,r,f,N⟩:=I.list C;obtain⟨j,b,E,O,F,G⟩:=nr D;obtain⟨w,n,g⟩:=r.get E;have J:=r.length;have P:=fX;have a:EP X pins l Q w s:=⟨z,H,I,g,q⟩
 by_cases o:0<=i
 .have k:i.toNat=j:=by
   rw[seqIndex_of o G]at b;exact Option.some.inj b
  exact item_listR f.isList o (by omega) (by rw[k];simpa using n) a m
 .have k:(i+(e.toArray.size:Int)).toNat=j:=by
   rw[seqIndex_neg (by omega) F]at b
   rw[List.size_toArray,←J];exact Option.some.inj b
  exact subscriptTail_builtinR (x:=w) f.isList.typeIs slot_list_getitem.lookup
   (wpAny_getItem_list_neg (Q:=λr L=>r=w/\EP X pins l Q r L) f.isList (by omega) (by rw[List.size_toArray]<;>omega) (by omega) (by rw[k];simpa using n) ⟨rfl,a⟩) m
theorem C_:zv X (FF X.K):=by
 intro a b pins s e H x y v u Q I g k h l;obtain⟨p,F,i,z,rfl,rfl,m,n,q⟩:=h;cases g;obtain⟨t,rfl⟩:=k;obtain⟨o,r,f,G⟩:=I.tuple m;obtain⟨j,A,B,J,L,M⟩:=nr n;obtain⟨w,C,c⟩:=r.get B;have D:=r.length;have N:=fX;have d:EP X pins e Q w s:=⟨z,H,I,c,q⟩
 exact subscriptTail_builtinR (x:=w) f.typeIs slot_tuple_getitem.lookup
  (getItem_tuple (j:=j) (Q:=λr E=>r=w/\EP X pins e Q r E) f (by omega) (by omega) (by rw[List.size_toArray,←D];exact A) (by simpa using C) ⟨rfl,d⟩) l
theorem Dc:zv X FG:=by
 intro a b pins s w H x y v u Q I e f h g;obtain⟨z,i,c,rfl,rfl,A,k,q⟩:=h;obtain⟨t,rfl⟩:=e;obtain⟨B,rfl⟩:=f;obtain⟨j,d,l,C,m,n⟩:=nr k;have o:z.cps.toList.length=z.length:=by simp[Str.length]
 rw[o]at d m n;have D:=fX
 exact tail_any (typeIs_str s z t) slot_str_getitem.lookup (getItem_str (c:=c) (by
  have p:decide (i < -(2 ^ 63:Int))=false:=decide_eq_false (by omega)
  have r:decide (i≥2 ^ 63)=false:=decide_eq_false (by omega)
  rw[p,r,Bool.or_false]) (by rw[d];simpa using l) ⟨.str ⟨#[c]⟩,H,I.tok _,⟨_,rfl⟩,q⟩) g
def Jk(K:PySem.W.Frag):R2:=λx y H Q=>FE K x y H Q\/FF K x y H Q\/FG x y H Q
theorem we:zv X (Jk X.K):=zw.or (C_.or Dc)
theorem qV(a:List Value)(n j:Nat)(u:Value):Obj.mapSeq (·.setIfInBounds j u) {cls:=.type "list",data:=.seq a.toArray n}={cls:=.type "list",data:=.seq (a.set j u).toArray n}:=by
 simp[Obj.mapSeq]
theorem Inv.lst{pins:List (Addr×Obj)}{b:St}{H:Hp}{s:Shared}{p:Addr}{xs:List V}(I:Inv X pins b H s)(h:H p=some (.lst xs)) :
  ∃(a:List Value) (n:Nat),Vals xs a/\s.heap.get? p=some {cls:=.type "list",data:=.seq a.toArray n}/\xs.length<=sizeLine:=by
 obtain⟨z,a,n,r,e⟩:=I.hok p _ h;exact⟨a,n,r,e,z⟩
theorem Inv.De{pins:List (Addr×Obj)}{g:St}{H:Hp}{s:Shared}{p:Addr}{xs c:List V}{a its':List Value}{n d:Nat}{f:Obj->Obj}(I:Inv X pins g H s)(h:H p=some (.lst xs))
  (j:s.heap.get? p=some {cls:=.type "list",data:=.seq a.toArray n}) (i:f {cls:=.type "list",data:=.seq a.toArray n}={cls:=.type "list",data:=.seq its'.toArray d}) (r:Vals c its') (hz:c.length<=sizeLine) (t:Nat) :
  Inv X pins g (upd H p (.lst c)) {s with heap:=s.heap.update p f,toks:=t}:=by
 have e:(s.heap.update p f).get? p=some {cls:=.type "list",data:=.seq its'.toArray d}:=by
  rw[Heap.get?_update_self f j (by rw[i]<;>rfl),i]
 refine I.write (x:=p) (e:=p) (by rw[h];trivial) (.inl rfl) (λb u k q=>(Heap.get?_update_other _ _ (Ne.symm k)).trans q) ⟨_,e⟩ ?_
 exact⟨hz,its',d,r,e⟩
def FH:V->V->V->Hp->(Hp->Prop)->Prop:=λo i v H Q=>∃p a k j,o=.ref p/\i=.int k/\H p=some (.lst a)/\qF a.length k=some j/\Q (upd H p (.lst (a.set j v)))
theorem set_list:K_ X FH:=by
 intro pins s x H o i v E F u Q I y z A h;obtain⟨p,B,k,j,rfl,rfl,f,C,q⟩:=h;cases y;obtain⟨t,rfl⟩:=z;obtain⟨a,n,r,c,D⟩:=I.lst f;obtain⟨b,G,g,l⟩:=nq C;have d:=r.length;have J:=fX
 have m:Inv X pins x (upd H p (.lst (B.set j v))) {s with heap:=s.heap.update p (Obj.mapSeq (·.setIfInBounds j u))}:=
  I.De f c (qV a n j u) (r.set A j) (by rw[List.length_set];exact D) s.toks
 by_cases w:0<=k
 .have e:k.toNat=j:=by
   rw[seqIndex_of w l]at b;exact Option.some.inj b
  exact PySem.W.ki_setAt c w (by omega) (by rw[List.size_toArray,←d];exact l) (by rw[e];exact⟨_,m,q⟩)
 .have e:(k+(a.toArray.size:Int)).toNat=j:=by
   rw[seqIndex_neg (by omega) g]at b
   rw[List.size_toArray,←d];exact Option.some.inj b
  exact PySem.W.ki_setBack c (by omega) (by rw[List.size_toArray,←d];exact g) (by omega) (by rw[e];exact⟨_,m,q⟩)
theorem nt(a b:Option Int)(n:Nat):(sliceBounds a b none n).1=((HT.gx n 0 a:Nat):Int)/\(sliceBounds a b none n).2.1=((HT.gx n n b:Nat):Int)/\(sliceBounds a b none n).2.2=1:=by
 refine⟨?_,?_,rfl⟩
 .cases a with
  |none=>simp[sliceBounds,HT.gx]
  |some i=>
   simp only[sliceBounds,HT.gx,Option.getD_none,show(1:Int)>0 by decide,if_true]
   by_cases h:i<0
   .simp only[h,if_true]<;>omega
   .simp only[h,if_false]<;>omega
 .cases b with
  |none=>simp[sliceBounds,HT.gx]
  |some i=>
   simp only[sliceBounds,HT.gx,Option.getD_none,show(1:Int)>0 by decide,if_true]
   by_cases h:i<0
   .simp only[h,if_true]<;>omega
   .simp only[h,if_false]<;>omega
theorem lM(a:List Value)(b c:Option Int):slicePick a.toArray b c none=((a.drop (HT.gx a.length 0 b)).take (HT.gx a.length a.length c - HT.gx a.length 0 b)).toArray:=by
 obtain⟨d,e,f⟩:=nt b c a.toArray.size;unfold slicePick;rw[d,e,f];simp only[sliceRange_one,pick_run,List.size_toArray]<;>rfl
def FI(K:PySem.W.Frag):V->Option Int->Option Int->Hp->VK->Prop:=λx c d H Q=>∃a b,x=.ref a/\jM K H a b/\∀p,H p=none->Q (.ref p) (upd H p (.lst (uO b c d)))
theorem ir:C9 X (FI X.K):=by
 intro pins s t H x v u w e f y Q I i j k l h;obtain⟨a,c,rfl,m,q⟩:=h;cases i;obtain⟨n,r,g,p⟩:=I.list m;have d:=r.length;refine⟨"list",_,slot_list_getitem.lookup,g.isList.typeIs,?_⟩;refine wpAny_getItem_list_slice g.isList j k l .none (by simp) ?_ (by rw[List.size_toArray]<;>omega)
 rw[lM,←d];refine⟨.ref s.heap.objs.size,_,I.laid (t':=s.toks) (o:=.lst (uO c e f)) (λb z q=>Heap.get?_push_of_some _ q) (Nat.le_refl _) ?_,rfl,q _ (I.hok.fresh (Nat.le_refl _))⟩
 exact⟨Nat.le_trans (pb c e f) p,_,0,(r.drop (HT.gx c.length 0 e)).take (HT.gx c.length c.length f - HT.gx c.length 0 e),Heap.get?_push_size _ rfl⟩
theorem nv:dn X (.builtin "len") (λxs H Q=>∃p b,xs=[.ref p]/\(jM X.K H p b\/qJ X.K H p b)/\Q (.int b.length) H):=by
 intro pins s i H xs j Q I r h;obtain⟨p,b,rfl,hq,q⟩:=h;obtain⟨u,rfl,f⟩:=vals1 r;cases f;have k:=fX;rcases hq with hq|hq
 .obtain⟨c,d,e,g⟩:=I.list hq
  have a:=d.length;exact Calls.call_len_list e.isList (by simp only[List.size_toArray]<;>omega) ⟨.int b.length,H,I.tok _,⟨s.toks+1,by rw[List.size_toArray,a]⟩,q⟩
 .obtain⟨c,d,e,g⟩:=I.tuple hq
  have a:=d.length;exact len_tuple e (by simp only[List.size_toArray]<;>omega) ⟨.int b.length,H,I.tok _,⟨s.toks+1,by rw[List.size_toArray,a]⟩,q⟩
theorem ny:dn X (.builtin "len") (λxs H Q=>∃z,xs=[.str z]/\z.length<=sizeLine/\Q (.int z.length) H):=by
 intro pins s a H xs b Q I r h;obtain⟨z,rfl,c,q⟩:=h;obtain⟨u,rfl,t,rfl⟩:=vals1 r;have d:=fX;exact len_str (by omega) ⟨.int z.length,H,I.tok _,⟨_,rfl⟩,q⟩
theorem dn.or{f:Value}{r a:List V->Hp->VK->Prop}(h:dn X f r)(h':dn X f a):dn X f (λxs H Q=>r xs H Q\/a xs H Q):=by
 intro pins s b H xs c Q I d q;rcases q with q|q
 .exact h pins s b H xs c Q I d q
 .exact h' pins s b H xs c Q I d q
theorem nz:dn X (.type "list") (λxs H Q=>∃p d,xs=[.ref p]/\(jM X.K H p d\/qJ X.K H p d)/\∀l,H l=none->Q (.ref l) (upd H l (.lst d))):=by
 intro pins s B H xs D Q I r h;obtain⟨p,d,rfl,hq,q⟩:=h;obtain⟨u,rfl,C⟩:=vals1 r;cases C
 have i:∀(a:List Value),Vals d a->d.length<=sizeLine->∀(c:Heap) (f:Nat),(∀b A,s.heap.get? b=some A->c.get? b=some A) ->
   c.get? s.heap.objs.size=some {cls:=.type "list",dict:=none,data:=.seq a.toArray f,slots := #[]}->EP X pins B Q (.ref s.heap.objs.size) {s with heap:=c}:=λa g j c f k e=>
  ⟨.ref s.heap.objs.size,_,I.laid (t':=s.toks) k (Nat.le_refl _) (show bL X.prog X.w _ c _ (.lst d)from⟨j,a,f,g,e⟩),rfl,q _ (I.hok.fresh (Nat.le_refl _))⟩
 rcases hq with hq|hq
 .obtain⟨a,g,t,j⟩:=I.list hq
  have m:=g.length;obtain⟨o,x,y,n,z⟩:=t.isList;exact call_list_seq p (.inl rfl) x y z (λc f k e=>i a g j c f k e) (by simp only[List.size_toArray]<;>omega)
 .obtain⟨a,g,t,j⟩:=I.tuple hq
  have m:=g.length;obtain⟨o,x,y,n,z⟩:=t;exact call_list_seq p (.inr rfl) x y z (λc f k e=>i a g j c f k e) (by simp only[List.size_toArray]<;>omega)
theorem lN:dn X (.type "tuple") (λxs H Q=>∃p c,xs=[.ref p]/\((jM X.K H p c/\∀l,H l=none->Q (.ref l) (upd H l (.tup c)))\/(qJ X.K H p c/\Q (.ref p) H))):=by
 intro pins s j H xs z Q I r h;obtain⟨p,c,rfl,h⟩:=h;obtain⟨u,rfl,t⟩:=vals1 r;cases t;rcases h with ⟨f,q⟩|⟨f,q⟩
 .obtain⟨a,g,i,k⟩:=I.list f
  have m:=g.length;refine call_tuple_list i.isList (λd x=>?_) (by simp only[List.size_toArray]<;>omega)
  have n:Inv X pins j H {s with heap:=d}:=I.kept (t':=s.toks) x
  have y:Inv X pins j (upd H d.objs.size (.tup c)) {s with heap:=d.push {cls:=.type "tuple",data:=.seq a.toArray} }:=
   n.laid (t':=s.toks) (λb o e=>Heap.get?_push_of_some _ e) (Nat.le_refl _) (show bL X.prog X.w _ _ _ (.tup c)from⟨k,a,g,IsTup.new _ _⟩)
  exact⟨.ref d.objs.size,_,y,rfl,q _ (n.hok.fresh (Nat.le_refl _))⟩
 .obtain⟨a,g,i,k⟩:=I.tuple f
  exact call_tuple_same i ⟨.ref p,H,I,rfl,q⟩
def FJ(K:PySem.W.Frag)(T:String)(x:V)(H:Hp):Prop:=match x with
 |.str _=>T="str"
 |.int _=>T="int"
 |.ref p=>(T="list"/\∃b,jM K H p b)\/(T="tuple"/\∃o,K.lookup p=some o/\o.cls=.type "tuple"/\o.dict=none) \/
   (T="dict"/\((∃a,H p=some (.dK a))\/∃a,H p=some (.dT a)))\/(T="set"/\∃S n,H p=some (.set S n))
 |_=>False
theorem Df{pins:List (Addr×Obj)}{l:St}{H:Hp}{s:Shared}{T:String}{x:V}{v:Value}(I:Inv X pins l H s)(r:RelV x v)(f:FJ X.K T x H) :
  s.TypeIs v T/\∀a,v=.ref a->∃ob,s.heap.get? a=some ob/\ob.dict=none:=by
 cases x with
 |str z=>
  obtain⟨t,rfl⟩:=r;cases (show T="str" from f)
  exact⟨typeIs_str s z t,λ_ e=>nomatch e⟩
 |int i=>
  obtain⟨t,rfl⟩:=r;cases (show T="int" from f)
  exact⟨typeIs_int s i t,λ_ e=>nomatch e⟩
 |ref p=>
  cases r;rcases f with ⟨rfl,w,m⟩|⟨rfl,o,b,q,g⟩|⟨rfl,b⟩|⟨rfl,S,n,b⟩
  .obtain⟨u,_,k,_⟩:=I.list m
   refine⟨k.isList.typeIs,λa e=>?_⟩
   cases e;obtain⟨o,n,e,c,g,_⟩:=k;exact⟨o,e,g⟩
  .refine⟨⟨o,I.iZ p o b,q⟩,λa e=>?_⟩
   cases e;exact⟨o,I.iZ _ o b,g⟩
  .have z:∃o,s.heap.get? p=some o/\o.ExactDict:=by
    rcases b with ⟨h,b⟩|⟨h,b⟩
    .obtain⟨_,_,_,_,o,_,_,e,d,_⟩:=I.hok p _ b
     exact⟨o,e,d⟩
    .obtain⟨_,_,_,_,o,_,_,e,d,_⟩:=I.hok p _ b
     exact⟨o,e,d⟩
   obtain⟨o,e,d⟩:=z;refine⟨⟨o,e,d.1⟩,λa j=>?_⟩
   cases j;exact⟨o,e,d.2.1⟩
  .obtain⟨o,_,_,_,e,d,_⟩:=I.hok p _ b
   refine⟨⟨o,e,d.1⟩,λa j=>?_⟩
   cases j;exact⟨o,e,d.2.1⟩
 |_=>exact False.elim f
noncomputable def SS(K:PySem.W.Frag)(T:String)(r:V->List V->Hp->VK->Prop)(c:TE)(t:TA):TE:=λa H Q=>c a H λx b=>FJ K T x b/\t a b λd e=>r x d e Q
variable{o e:Expr}{es:List Expr}{to:TE}{t:TA}{name:Str}{apos cpos:Pos}{T id:String}{r:V->List V->Hp->VK->Prop}
theorem FK(j:PlainAttrs T)(slot:Slot T name id)(f:typeOf (.builtin id)=pure (.type "method_descriptor"))(k:FD X id r)(l:PE X o to)(m:PA X (e::es) t)
  (b:attributeBase o name X.env (eval o X.env)=eval o X.env:=by rfl)
  (d:((backTo cpos (starEach (e::es) X.env)).all (λx=>!x.1)&&(backToKw cpos (keywordEach [] X.env)).all (λx=>x.1.isSome)
   && decide ((e::es).length+([]:List Keyword).length+(if ([]:List Keyword).isEmpty then 0 else 1)<30))=true:=by rfl)
  (c:(apos.endLine==cpos.line)=true:=by rfl) (n:starEach (e::es) X.env=(false,eval e X.env)::starEach es X.env:=by rfl) (a:(backTo cpos (starEach es X.env)).any (·.1)=false:=by rfl) :
  PE X (.Call (.Attribute o name apos) (e::es) [] cpos) (SS X.K T r to t):=by
 intro pins s g H Q I h;refine wpAny_Call_method_late b d c rfl (bZ (l pins s g H _ I h) λv p ⟨x,H1,I1,r1,ty,q1⟩=>?_)
 obtain⟨q,u⟩:=Df I1 r1 ty;refine⟨T,id,j,slot,f,q,u,?_⟩;have i:=m cpos pins p g H1 _ I1 q1;rw[n]at i ⊢;refine Calls.callWith_builtin (by show(false||(backTo cpos (starEach es X.env)).any (·.1))=false;rw[a]<;>rfl) (Calls.evalArgs_plain ?_)
 exact bZ i λw y ⟨z,A,B,C,D⟩=>k pins y g A x z v w Q B r1 C D
end
def Jl(X:Cx)(d:String)(r:V->List V->Hp->VK->Prop):Prop:=
 ∀(pins:List (Addr×Obj)) (s:Shared) (a:St) (H:Hp) (x:V) (b:List V) (v:Value) (c:List Value) (Q:VK),Inv X pins a H s->RelV x v->Vals b c->r x b H Q ->
  wpAny (model X.prog X.w) X.A (call (.builtin d) (v::c)) (EP X pins a Q) X.xe s
theorem Vals.one:∀{x:V}{us:List Value},Vals [x] us->∃u,us=[u]/\RelV x u
 |_,_,.cons r .nil=>⟨_,rfl,r⟩
theorem Vals.two:∀{x y:V}{us:List Value},Vals [x,y] us->∃u v,us=[u,v]/\RelV x u/\RelV y v
 |_,_,_,.cons r (.cons q .nil)=>⟨_,_,rfl,r,q⟩
theorem Vals.eraseIdx:∀{xs:List V}{us:List Value} (i:Nat),Vals xs us->Vals (xs.eraseIdx i) (us.eraseIdx i)
 |_,_,_,.nil=>.nil
 |_,_,0,.cons _ t=>t
 |_,_,i+1,.cons r t=>.cons r (Vals.eraseIdx i t)
theorem mf{a:Type}:∀(l:List a) (i:Nat),(l.eraseIdx i).length<=l.length
 |[],_=>Nat.le_refl _
 |_::_,0=>Nat.le_succ _
 |_::r,i+1=>Nat.succ_le_succ (mf r i)
section
variable{X:Cx}{pins:List (Addr×Obj)}{σ:St}{H:Hp}{s:Shared}{l b:Addr}{xs ys zs:List V}
theorem Inv.zx{a its':List Value}{n:Nat}{f:Array Value->Array Value}{t':Nat}(I:Inv X pins σ H s)(b:H l=some (.lst xs))
  (e:s.heap.get? l=some {cls:=.type "list",data:=.seq a.toArray n}) (c:f a.toArray=its'.toArray) (d:Vals ys its') (hz:ys.length<=sizeLine) :
  Inv X pins σ (upd H l (.lst ys)) {s with heap:=s.heap.update l (Obj.mapSeq f),toks:=t' }:=by
 have q:=PySem.IsL.update e f;rw[c]at q;refine I.write (x:=l) (e:=l) (by rw[b];exact trivial) (.inl rfl) (λi u g h=>(Heap.get?_update_other s.heap (Obj.mapSeq f) (Ne.symm g)).trans h) ⟨_,q⟩ ?_
 exact⟨hz,its',_,d,q⟩
theorem Inv.Ll{a:List Value}{t':Nat}(I:Inv X pins σ H s)(b:Vals ys a)(hz:ys.length<=sizeLine) :
  Inv X pins σ (upd H s.heap.objs.size (.lst ys)) {s with heap:=s.heap.push {cls:=.type "list",data:=.seq a.toArray},toks:=t' }:=
 I.laid (λ_ _ q=>Heap.get?_push_of_some _ q) (Nat.le_refl _) ⟨hz,a,0,b,Heap.get?_push_size _ rfl⟩
theorem Inv.fresh(I:Inv X pins σ H s):H s.heap.objs.size=none:=I.hok.fresh (Nat.le_refl _)
theorem Inv.wg(I:Inv X pins σ H s)(b:H l=some (.lst xs)):xs.length<=sizeLine/\∃(a:List Value) (n:Nat),Vals xs a/\xs.length=a.length/\s.heap.get? l=some {cls:=.type "list",data:=.seq a.toArray n}:=by
 obtain⟨z,a,n,r,e⟩:=I.hok l _ b;exact⟨z,a,n,r,r.length,e⟩
theorem wh{n:Nat}(h:n<=sizeLine):Builtin.List.listTooLong n=false:=by
 unfold Builtin.List.listTooLong;exact decide_eq_false (by omega)
end
section
variable{X:Cx}
def sO:V->List V->Hp->VK->Prop:=λx b H Q=>∃l a y,x=.ref l/\b=[y]/\H l=some (.lst a)/\a.length<sizeLine/\Q .non (upd H l (.lst (a++[y])))
theorem mj:Jl X "list.append" sO:=by
 intro pins s g H x i v j Q I c d h;obtain⟨l,k,y,rfl,rfl,b,m,q⟩:=h;cases c;obtain⟨u,rfl,f⟩:=d.one;obtain⟨z,a,n,r,o,e⟩:=I.wg b;refine call_meets F.slot_list_append ⟨_,e,rfl⟩ F.entry_list_append (F.args_list_append_2 _ _) (PySem.list_append l a.toArray n u (by rw[List.size_toArray];omega)) ⟨e,?_⟩
 refine⟨.non,_,I.zx (its':=a++[u]) b e (by simp) (r.append (.cons f .nil)) ?_,rfl,q⟩
 rw[List.length_append,List.length_singleton];omega
def sP:V->List V->Hp->VK->Prop:=λx d H Q=>∃l b a c,x=.ref l/\d=[.ref b]/\H l=some (.lst a)/\H b=some (.lst c)/\a.length+c.length<=sizeLine/\Q .non (upd H l (.lst (a++c)))
theorem uP:Jl X "list.extend" sP:=by
 intro pins s y H x A v B Q I i j h;obtain⟨l,b,C,D,rfl,rfl,g,k,E,q⟩:=h;cases i;obtain⟨u,rfl,m⟩:=j.one;cases m;obtain⟨z,c,n,r,G,e⟩:=I.wg g;obtain⟨J,a,o,p,t,w⟩:=I.wg k;have f:c.toArray.size+a.toArray.size<=sizeLine:=by rw[List.size_toArray,List.size_toArray];omega
 have d:¬ (!c.toArray.isEmpty&&Builtin.List.listTooLong (c.toArray.size+a.toArray.size))=true:=by
  rw[wh f,Bool.and_false];exact Bool.false_ne_true
 refine call_meets F.slot_list_extend ⟨_,e,rfl⟩ F.entry_list_extend (F.args_list_extend_2 _ _)
  (AutoSeq1.list_extend_list_list_0 l c.toArray n b a.toArray o d (by rw[List.size_toArray];omega) (by omega)) ⟨e,w,?_⟩
 refine⟨.non,_,I.zx (its':=c++a) g e (by simp) (r.append p) ?_,rfl,q⟩
 rw[List.length_append];omega
def wj:V->List V->Hp->VK->Prop:=λx b H Q=>∃l a i k y,x=.ref l/\b=[.int i]/\H l=some (.lst a) /\ -(2 ^ 63)<=i/\i<2 ^ 63/\seqIndex? i a.length=some k/\a[k]?=some y/\Q y (upd H l (.lst (a.eraseIdx k)))
theorem wk:Jl X "list.pop" wj:=by
 intro pins s D H x E v G Q I d f h;obtain⟨l,g,i,k,y,rfl,rfl,c,j,m,o,p,q⟩:=h;cases d;obtain⟨u,rfl,A⟩:=f.one;obtain⟨t,rfl⟩:=A;obtain⟨z,a,n,r,B,e⟩:=I.wg c;obtain⟨w,C,b⟩:=r.get p
 refine call_meets F.slot_list_pop ⟨_,e,rfl⟩ F.entry_list_pop (F.args_list_pop_2 _ _)
  (MeetsSeq.list_pop_at l a.toArray n i t k w (fitsIndex_both j m) (by rw[List.size_toArray,←B];exact o) (by rw[←Array.getElem?_toList];exact C) (by rw[List.size_toArray];omega)) ⟨e,?_⟩
 refine⟨y,_,I.zx (its':=a.eraseIdx k) c e ?_ (r.eraseIdx k) ?_,b,q⟩
 .show a.toArray.eraseIdxIfInBounds k=(a.eraseIdx k).toArray
  rw[List.eraseIdxIfInBounds_toArray]
 .have:=mf g k
  omega
end
section
variable{prog:Program}{w:World}{A:Around}{E:Value->Shared->Prop}{s:Shared}
end
section
variable{X:Cx}
end
section
variable{κ:Type}[DecidableEq κ]
noncomputable def iu(kvs:List (κ×V))(k:κ):Option V:=(kvs.find? λa=>decide (a.1=k)).map (·.2)
noncomputable def putK(kvs:List (κ×V))(k:κ)(v:V):List (κ×V):=
 if (kvs.any λa=>decide (a.1=k))=true then kvs.map (λa=>if a.1=k then (a.1,v)else a)else kvs++[(k,v)]
theorem iv{p:κ×V}{r:List (κ×V)}{k:κ}(e:p.1=k):iu (p::r) k=some p.2:=by simp[iu,List.find?_cons,e]
theorem iw{p:κ×V}{r:List (κ×V)}{k:κ}(e:¬ p.1=k):iu (p::r) k=iu r k:=by simp[iu,List.find?_cons,e]
theorem pe(k:κ):∀kvs:List (κ×V),(kvs.any λa=>decide (a.1=k))=(iu kvs k).isSome
 |[]=>rfl
 |p::r=>by
  rw[List.any_cons]
  by_cases e:p.1=k
  .simp only[iv e,decide_eq_true e,Bool.true_or,Option.isSome_some]
  .rw[iw e,decide_eq_false e,Bool.false_or];exact pe k r
theorem dq(kvs:List (κ×V))(k:κ)(v:V):(putK kvs k v).length<=kvs.length+1:=by
 unfold putK;split
 .rw[List.length_map];omega
 .rw[List.length_append,List.length_cons,List.length_nil];omega
theorem fP.eT{o:Option V}{u:Option Value}(r:fP o u):o.isSome=u.isSome:=by
 cases o with
 |none=>cases u with
  |none=>rfl
  |some _=>exact(show False from r).elim
 |some _=>cases u with
  |none=>exact(show False from r).elim
  |some _=>rfl
theorem fP.getD{o:Option V}{u:Option Value}{d:V}{d':Value}(r:fP o u)(a:RelV d d'):RelV (o.getD d) (u.getD d'):=by
 cases o with
 |none=>cases u with
  |none=>exact a
  |some _=>exact(show False from r).elim
 |some _=>cases u with
  |none=>exact(show False from r).elim
  |some _=>exact r
theorem KV.val{kvs:List (κ×V)}{vs:List (κ×Value)}(r:KV kvs vs)(k:κ):fP (iu kvs k) (valueAt vs k):=by
 unfold KV at r
 induction r with
 |nil=>exact True.intro
 |@cons p q i a h t f=>
  obtain⟨d,g⟩:=h
  by_cases e:p.1=k
  .have c:q.1=k:=d.symm.trans e
   have b:valueAt (q::a) k=some q.2:=by simp[valueAt,List.find?_cons,c]
   rw[iv e,b];exact g
  .have c:¬ q.1=k:=λz=>e (d.trans z)
   have b:valueAt (q::a) k=valueAt a k:=by simp[valueAt,List.find?_cons,c]
   rw[iw e,b];exact f
theorem KV.any{kvs:List (κ×V)}{vs:List (κ×Value)}(r:KV kvs vs)(k:κ):(kvs.any λa=>decide (a.1=k))=vs.any λa=>decide (a.1=k):=by
 unfold KV at r
 induction r with
 |nil=>rfl
 |cons h t b=>rw[List.any_cons,List.any_cons,b,h.1]
theorem KV.repl{kvs:List (κ×V)}{vs:List (κ×Value)}(r:KV kvs vs)(k:κ){y:V}{u:Value}(c:RelV y u) :
  KV (kvs.map λa=>if a.1=k then (a.1,y)else a) (vs.map λa=>if a.1=k then (a.1,u)else a):=by
 unfold KV at r ⊢
 induction r with
 |nil=>exact .nil
 |@cons p q g i h t d=>
  rw[List.map_cons,List.map_cons];refine .cons ?_ d;obtain⟨b,f⟩:=h
  by_cases e:p.1=k
  .rw[if_pos e,if_pos (b.symm.trans e)];exact⟨b,c⟩
  .rw[if_neg e,if_neg (λz=>e (b.trans z))];exact⟨b,f⟩
theorem KV.put{kvs:List (κ×V)}{vs:List (κ×Value)}(r:KV kvs vs)(k:κ){y:V}{u:Value}(a:RelV y u):KV (putK kvs k y) (stored vs k u):=by
 unfold putK stored;rw[r.any k]
 by_cases e:(vs.any λb=>decide (b.1=k))=true
 .rw[if_pos e,if_pos e];exact r.repl k a
 .rw[if_neg e,if_neg e];exact Paired.snoc r ⟨rfl,a⟩
theorem KV.length{kvs:List (κ×V)}{vs:List (κ×Value)}(r:KV kvs vs):kvs.length=vs.length:=Paired.length r
end
theorem jo{P:Program}{w:World}{k:Key}{u:Value}(r:RelV (kV k) u):(ba P w).is k u=true:=by
 cases k with
 |inl i=>obtain⟨t,e⟩:=(show ∃t,u=Value.int i t from r);subst e;exact oU P w i t
 |inr x=>obtain⟨t,e⟩:=(show ∃t,u=Value.str x t from r);subst e;exact oV P w x t
theorem mn{P:Program}{w:World}:∀{a:List Key}{us:List Value},Vals (a.map kV) us->ItemsAre (ba P w) a us
 |[],_,r=>by rw[List.map_nil]at r;cases r;exact .nil
 |k::a,_,r=>by
  rw[List.map_cons]at r;cases r with
  |cons h t=>exact .cons (jo h) (mn t)
abbrev KT(H:Hp):List (List Key×V)->List (List Key×Addr×Value)->Prop:=Paired λp q=>p.1=q.1/\H q.2.1=some (.tup (p.1.map kV))/\RelV p.2 q.2.2
theorem KT.val{H:Hp}{kvs:List (List Key×V)}{xs:List (List Key×Addr×Value)}(r:KT H kvs xs)(k:List Key):fP (iu kvs k) ((atKey xs k).map (·.2)):=by
 induction r with
 |nil=>exact True.intro
 |@cons p q i a h t f=>
  obtain⟨d,_,g⟩:=h
  by_cases e:p.1=k
  .have c:q.1=k:=d.symm.trans e
   have b:atKey (q::a) k=some q.2:=by simp[atKey,List.find?_cons,c]
   rw[iv e,b];exact g
  .have c:¬ q.1=k:=λz=>e (d.trans z)
   have b:atKey (q::a) k=atKey a k:=by simp[atKey,List.find?_cons,c]
   rw[iw e,b];exact f
theorem KT.repl{H:Hp}{kvs:List (List Key×V)}{xs:List (List Key×Addr×Value)}(r:KT H kvs xs)(k:List Key){y:V}{u:Value}(d:RelV y u) :
  KT H (kvs.map λb=>if b.1=k then (b.1,y)else b) (xs.map (putAt k u)):=by
 induction r with
 |nil=>exact .nil
 |@cons p q i j h t f=>
  rw[List.map_cons,List.map_cons];refine .cons ?_ f;obtain⟨a,c,g⟩:=h;unfold putAt
  by_cases e:p.1=k
  .rw[if_pos e,if_pos (a.symm.trans e)];exact⟨a,c,d⟩
  .rw[if_neg e,if_neg (λz=>e (a.trans z))];exact⟨a,c,g⟩
theorem KT.put{H:Hp}{kvs:List (List Key×V)}{xs:List (List Key×Addr×Value)}(r:KT H kvs xs)(k:List Key){b:Addr}{y:V}{u:Value}(c:H b=some (.tup (k.map kV)))(a:RelV y u) :
  KT H (putK kvs k y) (storedH xs k b u):=by
 have e:(kvs.any λd=>decide (d.1=k))=(atKey xs k).isSome:=by
  rw[pe,(r.val k).eT,Option.isSome_map]
 unfold putK storedH;rw[e]
 by_cases q:(atKey xs k).isSome=true
 .rw[if_pos q,if_pos q];exact r.repl k a
 .rw[if_neg q,if_neg q];exact Paired.snoc r ⟨rfl,c,a⟩
theorem KT.keeps{H a:Hp}{kvs:List (List Key×V)}{xs:List (List Key×Addr×Value)}(r:KT H kvs xs)(d:∀b c,H b=some (.tup c)->a b=some (.tup c)):KT a kvs xs:=
 Paired.CC r λ_ _ z=>⟨z.1,d _ _ z.2.1,z.2.2⟩
section
variable{P:Program}{w:World}{H:Hp}{h:Heap}{a:Addr}
theorem wm{u:HO}(ok:g_ P w H h)(e:Rd H a u):bL P w H h a u:=e.ok ok
theorem iy{kvs:List (Key×V)}(ok:g_ P w H h)(e:Rd H a (.dK kvs)):kvs.length<=sizeLine/\(a==sysModules)=false/\∃vs,KV kvs vs/\h.DictOf (ba P w) a vs:=
 show bL P w H h a (.dK kvs)from wm ok e
theorem BW{kvs:List (Key×V)}(ok:g_ P w H h)(e:H a=some (.dK kvs)):kvs.length<=sizeLine/\(a==sysModules)=false/\∃vs,KV kvs vs/\h.DictOf (ba P w) a vs:=iy ok (.inl e)
theorem i9{b:List Key}(ok:g_ P w H h)(e:H a=some (.tup (b.map kV))):(tupleKind (ba P w)).is h b a:=by
 obtain⟨_,c,r,o,d,f,n,g⟩:=(show bL P w H h a (.tup (b.map kV))from ok a _ e)
 exact⟨o,c.toArray,n,d,f,g,by simpa using mn r⟩
theorem mq{kvs:List (List Key×V)}(ok:g_ P w H h)(e:Rd H a (.dT kvs)):kvs.length<=sizeLine/\(a==sysModules)=false /\
  ∃xs,KT H kvs xs/\h.DictOfH (tupleKind (ba P w)) a xs:=by
 obtain⟨z,y,xs,r,o,d,f,g,i,j,k,n⟩:=(show bL P w H h a (.dT kvs)from wm ok e)
 refine⟨z,y,xs,r,o,d,f,g,i,j,k,λx hx=>?_,n⟩
 have b:∀{l:List (List Key×V)}{m:List (List Key×Addr×Value)},KT H l m->∀x∈m,(tupleKind (ba P w)).is h x.1 x.2.1:=by
  intro l m q
  induction q with
  |nil=>intro x hx;exact nomatch hx
  |@cons p q u A c t s=>
   intro x hx;rcases List.mem_cons.mp hx with e|hx
   .subst e
    exact i9 ok (by rw[←c.1];exact c.2.1)
   .exact s x hx
 exact b r x hx
theorem wo{kvs:List (List Key×V)}(ok:g_ P w H h)(e:H a=some (.dT kvs)):kvs.length<=sizeLine/\(a==sysModules)=false /\
  ∃xs,KT H kvs xs/\h.DictOfH (tupleKind (ba P w)) a xs:=mq ok (.inl e)
end
def iz(H:Hp)(a:Addr)(y:V)(r:Option V):Prop:=
 (∃c k,Rd H a (.dK c)/\y=kV k/\r=iu c k)\/∃c k b,Rd H a (.dT c)/\y=.ref b/\H b=some (.tup (k.map kV))/\r=iu c k
def pf(H:Hp)(a:Addr)(y v:V)(d:Hp):Prop:=
 (∃c k,H a=some (.dK c)/\y=kV k/\c.length<sizeLine/\d=upd H a (.dK (putK c k v))) \/
 ∃c k b,H a=some (.dT c)/\y=.ref b/\H b=some (.tup (k.map kV))/\c.length<sizeLine/\d=upd H a (.dT (putK c k v))
theorem iz.k{H:Hp}{a:Addr}{kvs:List (Key×V)}{k:Key}(e:H a=some (.dK kvs)):iz H a (kV k) (iu kvs k):=.inl ⟨kvs,k,.inl e,rfl,rfl⟩
theorem iz.t{H:Hp}{a b:Addr}{kvs:List (List Key×V)}{k:List Key}(e:H a=some (.dT kvs))(c:H b=some (.tup (k.map kV))):iz H a (.ref b) (iu kvs k):=.inr ⟨kvs,k,b,.inl e,rfl,c,rfl⟩
theorem pf.k{H:Hp}{a:Addr}{kvs:List (Key×V)}{k:Key}{v:V}(e:H a=some (.dK kvs))(b:kvs.length<sizeLine):pf H a (kV k) v (upd H a (.dK (putK kvs k v))):=.inl ⟨kvs,k,e,rfl,b,rfl⟩
theorem pf.t{H:Hp}{a b:Addr}{kvs:List (List Key×V)}{k:List Key}{v:V}(e:H a=some (.dT kvs))(c:H b=some (.tup (k.map kV)))(d:kvs.length<sizeLine) :
  pf H a (.ref b) v (upd H a (.dT (putK kvs k v))):=.inr ⟨kvs,k,b,e,rfl,c,d,rfl⟩
section
variable{X:Cx}{pins:List (Addr×Obj)}{σ:St}{H:Hp}{s:Shared}{a:Addr}{y v:V}{u r:Value}{o:Option V}{A:Around}{E:Value->Shared->Prop}
theorem Inv.big(I:Inv X pins σ H s):sysModules<s.heap.objs.size:=by
 have h:mainGlobals<s.heap.objs.size:=(I.mod.glob.keeps I.bk).lt;exact Nat.lt_trans (by decide) h
theorem uQ{Q:Value->Shared->Prop}(x:A.units+1<cLine)(I:Inv X pins σ H s)(g:iz H a y (some v))(r:RelV y u)(h:∀f t,Inv X pins σ H t->RelV v f->Q f t) :
  wpAny (model X.prog X.w) A (getItem (.ref a) u) Q E s:=by
 rcases g with ⟨i,k,e,j,l⟩|⟨i,k,b,e,j,B,l⟩
 .subst j
  obtain⟨z,C,D,c,m⟩:=iy I.hok e;obtain⟨f,n,d⟩:=fP.some_of (v:=v) (o:=valueAt D k) (by rw[l];exact c.val k)
  exact wpAny_getItem_of (jo r) m.mapOf n (h f _ (I.tok _) d)
 .subst j
  cases (show u=Value.ref b from r)
  obtain⟨z,C,F,c,m⟩:=mq I.hok e;obtain⟨f,n,d⟩:=fP.some_of (v:=v) (o:=(atKey F k).map (·.2)) (by rw[l];exact c.val k)
  obtain⟨p,G,q⟩:=Option.map_eq_some_iff.mp n;refine wpAny_getItem_heap (tupleKind_room_in1 x) (i9 I.hok B) m G ?_;rw[q];exact h f _ (I.tok _) d
theorem Lm{Q:Value->Shared->Prop}(p:A.units+1<cLine)(I:Inv X pins σ H s)(g:iz H a y o)(m:RelV y u)(h:∀n,Inv X pins σ H n->Q (.bool o.isSome) n) :
  wpAny (model X.prog X.w) A (compareOp .In u (.ref a)) Q E s:=by
 rcases g with ⟨d,k,e,f,l⟩|⟨d,k,b,e,f,r,l⟩
 .subst f
  obtain⟨z,i,t,c,j⟩:=iy I.hok e;refine wpAny_in_of (jo m) i j.mapOf ?_;rw[←(c.val k).eT,←l];exact h _ (I.tok _)
 .subst f
  cases (show u=Value.ref b from m)
  obtain⟨z,i,x,c,j⟩:=mq I.hok e;refine wpAny_in_heap (tupleKind_room_in1 p) (i9 I.hok r) i j ?_;have q:=(c.val k).eT;rw[Option.isSome_map]at q;rw[←q,←l];exact h _ (I.tok _)
theorem zy{Q:Value->Shared->Prop}(p:A.units+1<cLine)(I:Inv X pins σ H s)(g:iz H a y o)(m:RelV y u)(h:∀n,Inv X pins σ H n->Q (.bool (!o.isSome)) n) :
  wpAny (model X.prog X.w) A (compareOp .NotIn u (.ref a)) Q E s:=by
 rcases g with ⟨d,k,e,f,l⟩|⟨d,k,b,e,f,r,l⟩
 .subst f
  obtain⟨z,i,t,c,j⟩:=iy I.hok e;refine wpAny_notIn_of (jo m) i j.mapOf ?_;rw[←(c.val k).eT,←l];exact h _ (I.tok _)
 .subst f
  cases (show u=Value.ref b from m)
  obtain⟨z,i,x,c,j⟩:=mq I.hok e;refine wpAny_notIn_heap (tupleKind_room_in1 p) (i9 I.hok r) i j ?_;have q:=(c.val k).eT;rw[Option.isSome_map]at q;rw[←q,←l];exact h _ (I.tok _)
theorem iA{h':Heap}{t':Nat}{ob:HO}(I:Inv X pins σ H s)(d:Fc (H a))(f:Heap.SameBut a s.heap h')(g:∃q,h'.get? a=some q)(c:bL X.prog X.w (upd H a ob) h' a ob) :
  Inv X pins σ (upd H a ob) {s with heap:=h',toks:=t' }:=
 I.write (x:=a) (e:=a) d (.inl rfl) (λb q h z=>(f.2 b h).trans z) g c
theorem kk{P:Program}{w:World}{c:Hp}{h':Heap}{kvs:List (Key×V)}{vs:List (Key×Value)}(z:kvs.length<=sizeLine)(d:(a==sysModules)=false)(b:KV kvs vs)(e:h'.DictOf (ba P w) a vs) :
  bL P w c h' a (.dK kvs):=⟨z,d,vs,b,e⟩
theorem uR{C:Hp}{Q:Unit->Shared->Prop}(M:A.units+1<cLine)(I:Inv X pins σ H s)(g:pf H a y v C)(D:RelV y u)(F:RelV v r)(h:∀G,Inv X pins σ C G->Q () G) :
  wpAny (model X.prog X.w) A (setItem (.ref a) u r) Q E s:=by
 rcases g with ⟨d,k,e,m,l,n⟩|⟨d,k,b,e,m,J,l,n⟩
 .subst m n
  obtain⟨z,o,N,f,p⟩:=BW I.hok e;have t:N.length<=sizeLine:=by rw[←f.length];exact z
  have x:(putK d k v).length<=sizeLine:=by have:=dq d k v;omega
  refine wpAny_setItem_pairs (hsz:=t) (jo D) p λK i B=>h _ ?_
  have O:∃q,K.get? a=some q:=let ⟨q,_,_,j,_⟩:=i;⟨q,j⟩
  exact iA I (by rw[e];exact True.intro) B O (kk x o (f.put k F) i)
 .subst m n
  cases (show u=Value.ref b from D)
  obtain⟨z,o,P,f,p⟩:=wo I.hok e;have t:P.length<=sizeLine:=by rw[←Paired.length f];exact z
  have x:(putK d k v).length<=sizeLine:=by have:=dq d k v;omega
  refine wpAny_setItem_heap (hsz:=t) (tupleKind_room_in1 M) (i9 I.hok J) p λK i B=>h _ ?_
  obtain⟨q,R,S,j,T,U,V,_,Y⟩:=i;refine iA I (by rw[e];exact True.intro) B ⟨q,j⟩ ⟨x,o,_,(f.put k J F).keeps λc Z L=>?_,q,R,S,j,T,U,V,Y⟩
  rw[aE (BL L e (λz=>nomatch z))]
  exact L
end
section
variable{X:Cx}{pins:List (Addr×Obj)}{σ:St}{H:Hp}{s:Shared}{a:Addr}{kvs:List (Key×V)}{k:Key}{u:Value}{A:Around}{E:Value->Shared->Prop}
theorem FL{Q:Value->Shared->Prop}(I:Inv X pins σ H s)(e:Rd H a (.dK kvs))(h:∀t c,Inv X pins σ H c->Q (.int kvs.length t) c):wpAny (model X.prog X.w) A (call (.builtin "len") [.ref a]) Q E s:=by
 obtain⟨z,d,g,b,f⟩:=iy I.hok e;refine call_len_dict d f (by rw[←b.length];rw[sizeLine_eq]at z;omega) ?_
 rw[←b.length];exact h _ _ (I.tok _)
end
def FN(i:Expr):Prop:=∀a b,subscripted i false a b=operate [a,b] (getItem a b)
theorem zz{prog:Program}{w:World}{A:Around}{E:Value->Shared->Prop}{s:Shared}{env:Env}{b a:Expr}{pos:Pos}{T m:String}{Q:Value->Shared->Prop}
  (n:typeLookup (.type T) "__getitem__"=pure (some (.builtin m))) (p:FN a)
  (h:wpAny (model prog w) A (eval b env) (λo e=>wpAny (model prog w) A (eval a env) (λi c=>c.TypeIs o T/\wpAny (model prog w) A (getItem o i) Q E c) E e) E s) :
  wpAny (model prog w) A (eval (.Subscript b a pos) env) Q E s:=by
 refine Subscript_ (wpAny_mono h (λo e j=>wpAny_mono j (λi c d=>?_) λ_ _ x=>x) λ_ _ x=>x)
 obtain⟨l,d⟩:=d;unfold subscriptTail;refine wpAny_bind ?_;rw[getitemInPython_of_ne l.not_modules];refine wpAny_bind (wpAny_specialOf l n ?_)
 have g:wpAny (model prog w) A (subscripted a false o i) (λr f=>wpAny (model prog w) A (letTemporaryGo b o r >>= λ_=>pure r) Q E f) E c:=by
  rw[p o i];exact wpAny_operating (wpAny_mono d (λr f k=>wpAny_bind (wpAny_letTemporaryGo (wpAny_pure k))) λ_ _ x=>x)
 first
  |exact wpAny_pure (wpAny_bind g)
  |exact wpAny_bind (wpAny_pure (wpAny_bind g))
  |exact wpAny_bind g
theorem ph{X:Cx}{pins:List (Addr×Obj)}{f:St}{H:Hp}{s:Shared}{a:Addr}{y:V}{o:Option V}(I:Inv X pins f H s)(g:iz H a y o):s.TypeIs (.ref a) "dict":=by
 rcases g with ⟨c,k,e,_,_⟩|⟨c,k,b,e,_,_,_⟩
 .obtain⟨_,_,h,_,d⟩:=iy I.hok e
  exact d.typeIs
 .obtain⟨_,_,i,_,d⟩:=mq I.hok e
  exact d.typeIs
noncomputable def FO(td d:TE):TE:=λb H Q=>td b H λx e=>d b e λy c=>∃a v,x=.ref a/\iz c a y (some v)/\Q v c
section
variable{X:Cx}{o i e value:Expr}{pos pos' tpos:Pos}{td ty tv:TE}
theorem zA(d:X.A.units+1<cLine)(e:PE X o td)(f:PE X i ty)(j:FN i):PE X (.Subscript o i pos) (FO td ty):=by
 intro pins s c H Q I h;refine zz PySem.F.slot_dict_getitem.lookup j (bZ (e pins s c H _ I h) λu k ⟨x,H1,I1,rx,q1⟩=>bZ (f pins k c H1 _ I1 q1) λm n ⟨y,H2,I2,ry,a,v,ex,g,q2⟩=>?_)
 subst ex;obtain rfl:u=Value.ref a:=rx;exact⟨ph I2 g,uQ d I2 g ry λp q l b=>⟨v,H2,l,b,q2⟩⟩
end
theorem pj{P:Program}{w:World}{H:Hp}(h:Heap)(a:sysModules<h.objs.size):bL P w H (h.push {cls:=.type "dict",data:=.dict #[]}) h.objs.size (.dK []):=
 ⟨Nat.zero_le _,beq_eq_false_iff_ne.mpr (Ne.symm (Nat.ne_of_lt a)),[],.nil,Heap.DictOf.new h⟩
theorem pk{P:Program}{w:World}{H:Hp}(h:Heap)(a:sysModules<h.objs.size):bL P w H (h.push {cls:=.type "dict",data:=.dict #[]}) h.objs.size (.dT []):=
 ⟨Nat.zero_le _,beq_eq_false_iff_ne.mpr (Ne.symm (Nat.ne_of_lt a)),[],.nil,_,#[],0,Heap.get?_push_size _ rfl,⟨rfl,rfl,rfl⟩,rfl,rfl,List.nodup_nil⟩
def Dg:TE:=λ_ H Q=>∀p,H p=none->Q (.ref p) (upd H p (.dK []))
def Dh:TE:=λ_ H Q=>∀p,H p=none->Q (.ref p) (upd H p (.dT []))
section
variable{X:Cx}{pos:Pos}
theorem wq:PE X (.Dict [] [] pos) Dg:=λpins s b H Q I h=>
 wpAny_Dict_empty ⟨.ref s.heap.objs.size,_,I.laid (a:=s.heap.objs.size) (o:=.dK []) (t':=s.toks) (λ_ _ q=>Heap.get?_push_of_some _ q) (Nat.le_refl _) (pj s.heap I.big),rfl,h _ (I.hok.fresh (Nat.le_refl _))⟩
theorem wt:PE X (.Dict [] [] pos) Dh:=λpins s b H Q I h=>
 wpAny_Dict_empty ⟨.ref s.heap.objs.size,_,I.laid (a:=s.heap.objs.size) (o:=.dT []) (t':=s.toks) (λ_ _ q=>Heap.get?_push_of_some _ q) (Nat.le_refl _) (pk s.heap I.big),rfl,h _ (I.hok.fresh (Nat.le_refl _))⟩
end
def qW:List (TE×TE)->St->Hp->(List (V×V)->Hp->Prop)->Prop
 |[],_,H,Q=>Q [] H
 | (tk,tv)::r,σ,H,Q=>tk σ H λx a=>tv σ a λy b=>qW r σ b λps c=>Q ((x,y)::ps) c
abbrev VV:List (V×V)->List (Value×Value)->Prop:=Paired λp q=>RelV p.1 q.1/\RelV p.2 q.2
def FP(X:Cx)(pos:Pos)(keys:List (Option Expr))(a:List Expr)(b:List (TE×TE)):Prop:=
 ∀(pins:List (Addr×Obj)) (s:Shared) (c:St) (H:Hp) (Q:List (V×V)->Hp->Prop),Inv X pins c H s->qW b c H Q ->
  wpAny (model X.prog X.w) X.A (evalPairs (pairTrees keys a X.env pos)) (λf g=>∃d e,Inv X pins c e g/\VV d f/\Q d e) X.xe s
theorem sQ{X:Cx}{pos:Pos}:FP X pos [] [] []:=λpins s a H Q I h=>pairTrees_nil_walk ⟨[],H,I,.nil,h⟩
theorem km{X:Cx}{pos:Pos}{k v:Expr}{c:List (Option Expr)}{vs:List Expr}{d e:TE}{a:List (TE×TE)}(f:PE X k d)(g:PE X v e)(i:FP X pos c vs a) :
  FP X pos (some k::c) (v::vs) ((d,e)::a):=λpins s b H Q I h=>
 pairTrees_cons_walk (bZ (f pins s b H _ I h) λu j ⟨x,H1,I1,rx,q1⟩=>bZ (g pins j b H1 _ I1 q1) λn l ⟨y,H2,I2,ry,q2⟩=>
  bZ (i pins l b H2 _ I2 q2) λo p ⟨m,H3,I3,rel,q3⟩=>⟨(x,y)::m,H3,I3,.cons ⟨rx,ry⟩ rel,q3⟩)
def kn(kvs more:List (Key×V)):List (Key×V):=more.foldl (λa b=>putK a b.1 b.2) kvs
theorem KV.merge:∀{more:List (Key×V)}{rs:List (Key×Value)}{kvs:List (Key×V)}{vs:List (Key×Value)},KV more rs->KV kvs vs->KV (kn kvs more) (merged vs rs):=by
 intro more rs kvs vs r;unfold KV at r
 induction r generalizing kvs vs with
 |nil=>intro q;exact q
 |@cons p q c d h t a=>
  intro b
  have e:KV (putK kvs p.1 p.2) (stored vs q.1 q.2):=by
   have:=b.put p.1 h.2;rw[←h.1];exact this
  exact a e
theorem gU:∀(more kvs:List (Key×V)),(kn kvs more).length<=kvs.length+more.length
 |[],kvs=>by show kvs.length<=kvs.length+0;omega
 |p::r,kvs=>by
  have h1:=gU r (putK kvs p.1 p.2);have a:=dq kvs p.1 p.2
  show(kn (putK kvs p.1 p.2) r).length<=_
  rw[List.length_cons];omega
theorem ko{P:Program}{w:World}:∀{kvs:List (Key×V)}{ws:List (Value×Value)},VV (kvs.map λd=>(kV d.1,d.2)) ws->∃rs,Carries (ba P w) ws rs/\KV kvs rs
 |[],_,r=>by rw[List.map_nil]at r;cases r;exact⟨[],True.intro,.nil⟩
 |p::kvs,_,r=>by
  rw[List.map_cons]at r;cases r with
  |@cons a b as bs h t=>
   obtain⟨rs,c,q⟩:=ko (P:=P) (w:=w) t;obtain⟨f,e⟩:=b;exact⟨(p.1,e)::rs,⟨jo h.1,rfl,c⟩,.cons ⟨rfl,h.2⟩ q⟩
def FQ(b:List (TE×TE)):TE:=λe H Q=>∀p,H p=none->qW b e (upd H p (.dK [])) λf c=>c p=some (.dK [])/\∃a:List (Key×V),f=a.map (λd=>(kV d.1,d.2))/\a.length<=15/\Q (.ref p) (upd c p (.dK (kn [] a)))
theorem zB{X:Cx}{pos:Pos}{keys:List (Option Expr)}{b:List Expr}{d:List (TE×TE)}(h:FP X pos keys b d)(f:keys.all (·.isSome)=true)(j:keys.length=b.length)(k:keys≠[])
  (i:keys.length<=15):PE X (.Dict keys b pos) (FQ d):=by
 intro pins s l H Q I q;have m:=I.hok.fresh (Nat.le_refl s.heap.objs.size);have n:=I.laid (a:=s.heap.objs.size) (o:=.dK []) (h':=s.heap.push {cls:=.type "dict",data:=.dict #[]}) (t':=s.toks) (λ_ _ q=>Heap.get?_push_of_some _ q) (Nat.le_refl _) (pj s.heap I.big)
 refine wpAny_Dict_walk (knd:=ba X.prog X.w) f j k i (bZ (h pins _ l _ _ n (q _ m)) λE F ⟨G,H2,I2,rel,e,kvs,ep,lk,q2⟩=>?_)
 subst ep;obtain⟨p,c,r⟩:=ko (P:=X.prog) (w:=X.w) rel;obtain⟨z,t,u,x,y⟩:=BW I2.hok e;cases x;refine⟨p,c,y,λh' g A=>⟨.ref s.heap.objs.size,_,?_,rfl,q2⟩⟩
 have B:(kn [] kvs).length<=sizeLine:=by
  have C:=gU kvs [];rw[List.length_nil]at C;rw[sizeLine_eq];omega
 have D:∃q,h'.get? s.heap.objs.size=some q:=let ⟨q,_,_,hq,_⟩:=g;⟨q,hq⟩
 exact iA I2 (by rw[e];exact True.intro) A D (kk B t (r.merge .nil) g)
def SU(H:Hp)(a:Addr):Prop:=(∃b,Rd H a (.dK b))\/∃b,Rd H a (.dT b)
theorem wu{X:Cx}{pins:List (Addr×Obj)}{j:St}{H:Hp}{s:Shared}{a:Addr}(I:Inv X pins j H s)(d:SU H a) :
  s.TypeIs (.ref a) "dict"/\(∀b,Value.ref a=.ref b->∃ob,s.heap.get? b=some ob/\ob.dict=none)/\(a==sysModules)=false:=by
 rcases d with ⟨f,e⟩|⟨f,e⟩
 .obtain⟨_,g,k,_,c⟩:=iy I.hok e
  refine⟨c.typeIs,λb q=>?_,g⟩
  cases q;obtain⟨ob,_,_,h,i,_⟩:=c;exact⟨ob,h,i.2.1⟩
 .obtain⟨_,g,l,_,c⟩:=mq I.hok e
  refine⟨c.typeIs,λb q=>?_,g⟩
  cases q;obtain⟨ob,_,_,h,i,_⟩:=c;exact⟨ob,h,i.2.1⟩
section
variable{X:Cx}{pins:List (Addr×Obj)}{σ:St}{H:Hp}{s:Shared}{a:Addr}{y d:V}{u r:Value}{o:Option V}{A:Around}{E:Value->Shared->Prop}
end
section
variable{X:Cx}{o e f:Expr}{apos cpos:Pos}{td ty tx:TE}
end
section
variable{X:Cx}{pins:List (Addr×Obj)}{σ:St}{H:Hp}{s:Shared}{a:Addr}{kvs:List (Key×V)}{A:Around}{E:Value->Shared->Prop}
end
section
variable{X:Cx}{pins:List (Addr×Obj)}{σ:St}{H:Hp}{s:Shared}{a:Addr}{y:V}{u:Value}{A:Around}{E:Value->Shared->Prop}
end
end L2
namespace QI
open PySem PySem.W PySem.Calls PyProof.Rows
theorem jD{P:Params}{h:Heap}:∀(ns:List Int) (vs:List Value),WellAll P h vs (ns.map WData.int)->IntsAre vs ns:=by
 intro ns
 induction ns with
 |nil=>
  intro vs w;rw[List.map_nil]at w;cases w;exact .nil
 |cons n ns c=>
  intro vs w;rw[List.map_cons]at w;cases w with
  |cons a b=>
   cases a;exact .cons _ _ (c _ b)
theorem uS{l:OpenLaw}{n:Nat}(o:l.most=some n){P:Params}{h:Heap}{args:List WData}{b:List Value}
  (c:l.row.toRowW.claim.pre args=true) (j:WellAll P h b args) :
  ∃a vs ns,b=[Value.ref a]/\args=[WData.list (ns.map WData.int)]/\h.get? a=some {cls:=.type "list",data:=.seq vs.toArray}/\IntsAre vs ns/\ns.length<=n:=by
 have k:WShape.hasAll [] args [.list .int]=true:=(pre_splitW c).1;have m:l.pre.holds [] {args:=args}=true:=(pre_splitW c).2;obtain⟨d,r,rfl,p,s⟩:=hasAllW_cons k;obtain rfl:=hasAllW_nil s;obtain⟨z,rfl,t⟩:=hasW_list p;obtain⟨ns,rfl⟩:=items_int t
 have e:ns.length<=n:=by
  unfold OpenLaw.pre at m
  have g:(WTm.not (.lt (.lit (.int (n:Int))) (.len (.arg 0)))).holds [] {args:=[.list (ns.map .int)]}=true:=by
   have g:=(holds_andW m).1;rw[o]at g;exact g
  have i:=condW_of g (w_not (w_lt w_lit (w_len_list (w_arg rfl))));rw[List.length_map]at i;refine Nat.le_of_not_lt λq=>?_
  have u:(n:Int)<((ns.length:Nat):Int):=by omega
  first
   | (rw[decide_eq_true u]at i;exact absurd i (by decide))
   | (simp at i;omega)
 cases j with
 |cons w x=>
  cases x;cases w with
  |list y f=>exact⟨_,_,ns,rfl,rfl,y,jD ns _ f,e⟩
theorem uT(l:OpenLaw)(args:List WData):l.row.toRowW.claim.post args (.bool true) args=true:=
 postW_of (r:=l.row.toRowW) (X:=(true==true))
  (show WShape.has [] (.bool true) .bool=true by first|rfl|decide|simp[WShape.has,WShape.arms,WShape.armsAll])
  (show(WTm.eq .res (.lit (.bool true))).value [] {args:=args,res:=some (.bool true),after:=args}=some (.bool (true==true))from w_eq_bool (w_res rfl) w_lit) rfl
theorem pq{l:OpenLaw}{n:Nat}{q:Program}{c:List Str}{C:(Str->Option Value)->Heap->Prop}{D:World->Heap->Prop}{d:DefRec}
  (I:l.most=some n) (u:d.params.defaults=[])
  (call:∀(w:World) (e b:Shared) (p x:Str->Option Value) (i:Addr) (o:Obj) (y s g:Value) (a:Addr) (vs:List Value) (ns:List Int),
   Ground q c [] C w e p x b.heap->D w b.heap ->
   b.heap.get? i=some o->o.data=.func (docDef d.name d.params d.body d.scope y s g)->b.heap.CodeRec s d.name->p d.name=some (.ref i) ->
   b.heap.get? a=some {cls:=.type "list",data:=.seq vs.toArray}->IntsAre vs ns->ns.length<=n->b.gens = #[] ->
   codeAny (model l.prog w) callerA (.call (.ref i) ⟨[.ref a],[]⟩) (λr t=>r=.ok (.ret (.bool true))/\OldK b.heap t.heap/\t.os=b.os/\AllBare t.gens) b) :
  WalkO q c C D l.row.toRowW d [] (λf vs=>PySem.call f vs):=by
 intro w e b p x G Y i o y s g J kV K L z E A M args F U j H N B O;obtain rfl:J=.none:=Dflts.none E u;obtain rfl:kV=.none:=Dflts.noKw E;obtain⟨a,vs,ns,rfl,rfl,k,h,m⟩:=uS I j B;refine enter_call (codeAny_mono (call w e b p x i o y s g a vs ns G Y K (fd_plain L) z A k h m M) λr t P=>?_)
 obtain⟨rfl,Q,R,S⟩:=P;exact⟨.inl ⟨.bool true,.bool true,[],rfl,λ_=>rfl,.bool true,uT l _,λ_=>⟨List.Pairwise.nil,λ_ T=>(nomatch T)⟩⟩,Q,R,S⟩
section
variable{prog:Program}{w:World}{A:Around}{E:Value->Shared->Prop}{s:Shared}{K:Frag}
end
end QI
namespace L2
open PySem PySem.Spec PyProof.Rows
theorem mr:∀{vs:List Value}{ns:List Int},IntsAre vs ns->Vals (ns.map V.int) vs
 |_,_,.nil=>.nil
 |_,_,.cons n t h=>.cons ⟨t,rfl⟩ (mr h)
def Only(H:Hp):Prop:=∀b,H b=none\/∃o a,H b=some (.dJ o (.lst a))
theorem wx{P:Program}{w:World}{K:PySem.W.Frag}{t M:Str->Option Value}{CX:uK}{k:Nat}{N a:Addr}{X:FuncData}{x:Str}{sp:Sp}{c:Shared}{vs:List Value}{ns:List Int}
  (Y:K.In c.heap) (y:c.heap.Ns mainGlobals t) (g:c.heap.Ns builtinsNs M) (O:∀x:Str,x≠"__name__"->M x=bootBuiltins x) (A:c.heap.NoLimit) (hg:c.gens = #[])
  (L:c.heap.get? a=some {cls:=.type "list",data:=.seq vs.toArray}) (Z:IntsAre vs ns) (hl:ns.length<=sizeLine) (hr:cD k callerA)
  (F:∀base:Heap,K.In base->base.Ns mainGlobals t->cS P w K t base CX k N X [x] sp) (p:∀(s:Shared) (u:Value),BindsTo s X ⟨[u],[]⟩ [(x,u)])
  (Q:∀H:Hp,Only H->jM K H a (ns.map V.int)->sp [.ref a] H (λv _=>v=.bl true) λ_ _ _=>False)
  (R:∀H e i,CX [] H c (λ_ _ _=>False) e i->False) :
  codeAny (model P w) callerA (.call (.ref N) ⟨[.ref a],[]⟩) (λr i=>r=.ok (.ret (.bool true))/\OldK c.heap i.heap/\i.os=c.os/\AllBare i.gens) c:=by
 have rv:=mr Z;have B:=Z.length
 have l:∀H:Hp,Only H->jM K H a (ns.map V.int)->g_ P w H c.heap->(∀b,H b≠none->b=a)->(H a≠none->K.lookup a=none) ->
   codeAny (model P w) callerA (.call (.ref N) ⟨[.ref a],[]⟩) (λr i=>r=.ok (.ret (.bool true))/\OldK c.heap i.heap/\i.os=c.os/\AllBare i.gens) c:=by
  intro H hO hS C hA hK;have f:∀{b:Addr}{o:Obj},c.heap.get? b=some o->H b=none->(mX c.heap H).get? b=some o:=λe n=>vM e n
  have S:∀{b:Addr}{o:Obj}{D:Array DictEntry}{E:Nat},c.heap.get? b=some o->o.data=.dict D E->H b=none:=λ{b o D E} e d=>by
   cases q:H b with
   |none=>rfl
   |some u=>
    have T:b=a:=hA b (by rw[q];simp)
    subst T;rw[L]at e;cases e
    have d':Data.seq vs.toArray _=Data.dict D E:=d;cases d'
  have j:∀{b:Addr}{m:Str->Option Value},c.heap.Ns b m->(mX c.heap H).Ns b m:=λ{b m} ⟨o,D,E,e,d,r⟩=>⟨o,D,E,f e (S e d),d,r⟩
  have G:K.In (mX c.heap H):=λb o e=>f (Y b o e) (by
   cases q:H b with
   |none=>rfl
   |some u=>
    have T:b=a:=hA b (by rw[q];simp)
    subst T;rw[hK (by rw[q];simp)]at e;cases e)
  have hM:Mod K t (mX c.heap H):=⟨G,j y,⟨M,j g,O⟩,let ⟨mc,h1,h2⟩:=A;⟨mc,j h1,h2⟩⟩
  have e0:qT P w K t (mX c.heap H) callerA [] c H:=⟨rfl,hM,λb o e=>y9 e,Nat.le_of_eq (uA _ _),trivial,λb g=>absurd (show b∈([]:List Addr)from g) (by simp),C,.of_eq hg⟩
  refine codeAny_mono ((F _ G (j y)).run callerA [] c H ⟨[.ref a],[]⟩ [.ref a] [.ref a] _ _ hr e0 (p c (.ref a)) (.cons rfl .nil) (Q H hO hS)) λr i h=>?_
  cases r with
  |error e=>exact(R H e i h).elim
  |ok fl=>
   cases fl with
   |next=>exact False.elim h
   |brk=>exact False.elim h
   |cont=>exact False.elim h
   |ret u=>
    obtain⟨v,H',os,bare,un,I,r',q⟩:=h;have q':v=.bl true:=q;subst q';obtain rfl:u=Value.bool true:=r';refine⟨rfl,OldK.of_keep λb o e=>?_,os,bare⟩
    cases q:H b with
    |none=>exact un.keep b o e q (by intro z;exact absurd (show b∈([]:List Addr)from z) (by simp)) (by simp)
    |some u=>
     rcases hO b with z|⟨ob,xs,z⟩
     .rw[q]at z;cases z
     .have z2:=un.ij b ob _ z
      obtain⟨e1,_⟩:=C b _ z;obtain⟨e2,_⟩:=I b _ z2;rw[e]at e1;cases e1
      exact e2
 cases U:K.lookup a with
 |some o=>
  have e:=Y a o U;rw[L]at e;cases e;refine l (λ_=>none) (λ_=>.inl rfl) (.inr ⟨_,vs.toArray,_,U,rfl,rfl,rfl,by rw[List.size_toArray,B];exact hl,by simpa using rv⟩) (λb u z=>by have J:(none:Option HO)=some u:=z;cases J) (λb z=>absurd rfl z) λz=>absurd rfl z
 |none=>
  refine l (λb=>if b=a then some (.dJ {cls:=.type "list",data:=.seq vs.toArray} (.lst (ns.map V.int)))else none) (λb=>?_) (.inl (.inr ⟨{cls:=.type "list",data:=.seq vs.toArray},if_pos rfl⟩)) (λb u z=>?_) (λb z=>?_) λ_=>U
  .by_cases g:b=a
   .exact .inr ⟨_,_,if_pos g⟩
   .exact .inl (if_neg g)
  .by_cases g:b=a
   .have J:=(if_pos g).symm.trans z
    cases J;subst g;exact⟨L,by rw[List.length_map];exact hl,vs,_,rv,L⟩
   .have J:=(if_neg g).symm.trans z
    cases J
  .by_cases g:b=a
   .exact g
   .exact absurd (if_neg g) z
theorem zC{l:PySem.W.OpenLaw}{n k:Nat}{q:Program}{i:List Str}{M:(Str->Option Value)->Heap->Prop}{I:World->Heap->Prop}{d:DefRec}{K:Params->PySem.W.Frag}{CX:World->uK}{sp:World->Sp}{x:Str}
  (N:l.most=some n) (y:n<=sizeLine) (z:d.params.defaults=[]) (O:cD k callerA)
  (P:∀(w:World) (h:Heap),I w h->(K w.params).In h)
  (F:∀(w:World) (m:Str->Option Value) (t:Addr) (h:Heap),(K w.params).In h->h.Ns mainGlobals m->m d.name=some (.ref t) ->
   ∃A:FuncData,(∀(s:Shared) (u:Value),BindsTo s A ⟨[u],[]⟩ [(x,u)]) /\
    ∀base:Heap,(K w.params).In base->base.Ns mainGlobals m->cS l.prog w (K w.params) m base (CX w) k t A [x] (sp w))
  (B:∀(w:World) (H:Hp) (a:Addr) (ns:List Int),ns.length<=n->Only H->jM (K w.params) H a (ns.map V.int)->sp w [.ref a] H (λv _=>v=.bl true) λ_ _ _=>False)
  (C:∀(w:World) (H:Hp) (s:Shared) (e:Value) (D:Shared),CX w [] H s (λ_ _ _=>False) e D->False) :
  PySem.W.WalkO q i M I l.row.toRowW d [] (λf vs=>PySem.call f vs):=by
 refine QI.pq N z λw J p m mb t o pm cd Q a vs ns G Y ho hd R E r j c S=>?_
 have L:=P w _ Y;obtain⟨A,U,X⟩:=F w m t _ L G.T.g E;exact wx L G.T.g G.T.b G.T.builtins G.T.nolimit S r j (Nat.le_trans c y) O X U (λH Z hS=>B w H a ns c Z hS) λH e D=>C w H p e D
noncomputable def inClass(s:Stmt)(j:Nat):Stmt:=match s with
 |.ClassDef _ _ _ body _ _ _ _ _ _ _=>body.getD j (.Pass ⟨0,0,0,0⟩)
 |_=>.Pass ⟨0,0,0,0⟩
noncomputable def bQ(s:Stmt):Arguments:=match s with
 |.FunctionDef _ a _ _ _ _ _ _ _ _=>a
 |_=>{posonlyargs:=[],args:=[],vararg:=none,kwonlyargs:=[],kw_defaults:=[],kwarg:=none,defaults:=[]}
noncomputable def bR(s:Stmt):List Stmt:=match s with
 |.FunctionDef _ _ b _ _ _ _ _ _ _=>b
 |_=>[]
noncomputable def ao(s:Stmt):Scope:=match s with
 |.FunctionDef _ _ _ _ _ _ a _ _ _=>a
 |_=>{kind:=.function,names:=[],isGenerator:=false,isCoroutine:=false}
abbrev mu:uK:=λ_ _ _ _ _ _=>False
abbrev E0:XK:=λ_ _ _=>False
theorem kr{X:Cx}:Passes mu X E0:=λ_ _ _ _ _ _ _ h=>h.elim
structure EO(K:PySem.W.Frag)(x qual:Str)(st:Stmt)(f:Addr)(fd:FuncData):Prop where
 ex:∃(oc:Value) (od:Option Addr) (kV doc pm:Value) (an:Option Addr) (cdv ct:Value) (osl:Array (Option Value)),
  fd=PySem.W.fnOf x qual (bQ st) (bR st) (ao st) .none kV doc pm an cdv ct/\K.lookup f=some ⟨oc,od,.func fd,osl⟩/\PySem.W.codeIn K cdv qual=true
 kp:PySem.W.keepIn K (.ref f)=true
section
variable{P:Program}{w:World}{K:PySem.W.Frag}{mg:Str->Option Value}{base:Heap}
theorem EO.binds{x qual:Str}{st:Stmt}{f:Addr}{e:FuncData}{ps:List Str}(F:EO K x qual st f e)
  (h:∀(kV a c:Value) (d:Option Addr) (b ct:Value) (us:List Value),us.length=ps.length->bindArgs (PySem.W.fnOf x qual (bQ st) (bR st) (ao st) .none kV a c d b ct) ⟨us,[]⟩=pure (ps.zip us)):Binds K e ps []:=by
 obtain⟨oc,j,kV,a,c,d,b,ct,g,rfl,k,i⟩:=F.ex;exact .all (h kV a c d b ct)
theorem qX{x qual:Str}{st:Stmt}{f:Addr}{oc:Value}{h e:Option Addr}{d:Array (Option Value)}{kV b g a ct:Value}(l:K.lookup f=some ⟨oc,h,.func (PySem.W.fnOf x qual (bQ st) (bR st) (ao st) .none kV b g e a ct),d⟩)
  (c:PySem.W.codeIn K a qual=true) (k:PySem.W.keepIn K (.ref f)=true):EO K x qual st f (PySem.W.fnOf x qual (bQ st) (bR st) (ao st) .none kV b g e a ct):=⟨⟨oc,h,kV,b,g,e,a,ct,d,rfl,l,c⟩,k⟩
end
section
variable{X:Cx}
theorem uU:dn X (.builtin "len") (λxs H Q=>∃a kvs,xs=[V.ref a]/\Rd H a (.dK kvs)/\Q (.int kvs.length) H):=by
 intro pins s e H xs f Q I r h;obtain⟨a,kvs,rfl,b,q⟩:=h;obtain⟨u,rfl,c⟩:=vals1 r;cases c;exact FL I b λt g d=>⟨.int kvs.length,H,d,⟨t,rfl⟩,q⟩
end
theorem pv{A B:Prop}(h:B):if false=true then A else B:=by
 rw[if_neg Bool.false_ne_true];exact h
theorem pw{A B:Prop}(h:A):if true=true then A else B:=by
 rw[if_pos rfl];exact h
def iB(H a:Hp):Prop:=∀b o,H b=some o->a b=some o
theorem iB.refl(H:Hp):iB H H:=λ_ _ h=>h
theorem iB.trans{H d e:Hp}(a:iB H d)(b:iB d e):iB H e:=λc o h=>b c o (a c o h)
section
variable{κ:Type}[DecidableEq κ]
end
end L2
namespace Mir
open PySem
inductive D where
 |non|bl (b:Bool)|int (i:Int)|str (x:Str)
 |lst (xs:List D)|tup (xs:List D)|dct (ks:List L2.Key) (vs:List D)|ref (n:Nat)
 deriving Inhabited
inductive Out (α:Type) where
 |ok (a:α)|exc (c:Str) (fs:List (Str×D))|bad
noncomputable def Out.bind{b d:Type}:Out b->(b->Out d)->Out d
 |.ok a,f=>f a
 |.exc c fs,_=>.exc c fs
 |.bad,_=>.bad
instance:Monad Out where
 pure:=.ok
 bind:=Out.bind
@[simp] theorem Jm{b c:Type}(a:b)(f:b->Out c):(Out.ok a >>= f)=f a:=rfl
@[simp] theorem FR{a b:Type}(f:a->Out b):((Out.bad:Out a) >>= f)=.bad:=rfl
@[simp] theorem FT{a b:Type}(c fs)(f:a->Out b):((Out.exc c fs:Out a) >>= f)=.exc c fs:=rfl
@[simp] theorem Jn{b:Type}(a:b):(pure a:Out b)=.ok a:=rfl
mutual
noncomputable def ei:D->D->Bool
 |.non,.non=>true
 |.bl a,.bl b=>a==b
 |.bl a,.int j=>(if a then 1 else 0)==j
 |.int i,.bl b=>i==(if b then 1 else 0)
 |.int i,.int j=>i==j
 |.str x,.str y=>x==y
 |.lst xs,.lst ys=>eu xs ys
 |.tup xs,.tup ys=>eu xs ys
 |_,_=>false
noncomputable def eu:List D->List D->Bool
 |[],[]=>true
 |x::xs,y::ys=>ei x y&&eu xs ys
 |_,_=>false
end
noncomputable def aH:Nat->D->Bool
 |_,.non|_,.bl _|_,.int _|_,.str _=>true
 |n+1,.lst xs|n+1,.tup xs=>xs.all (aH n)
 |_,_=>false
noncomputable def small(n:Nat):Bool:=decide (n<=sizeLine)
def jE:D->Option Bool
 |.non=>some false
 |.bl b=>some b
 |.int i=>some (i != 0)
 |.str x=>if small x.length then some (x.length != 0)else none
 |.lst xs=>some (!xs.isEmpty)
 |.tup xs=>some (!xs.isEmpty)
 |_=>none
abbrev Rs:=Bool×D
noncomputable def jF(i:Int):Bool:=decide (i.natAbs<18446744073709551616)
theorem pz{i:Int}(h:jF i=true): -(2 ^ 64)<i/\i<2 ^ 64:=by
 have:=of_decide_eq_true h;omega
def eU(op:Operator)(x y:D):Out Rs:=
 match op,x,y with
 |.Add,.int i,.int j=>.ok (false,.int (i+j))
 |.Sub,.int i,.int j=>.ok (false,.int (i - j))
 |.Mult,.int i,.int j=>if jF i||jF j then .ok (false,.int (i*j))else .bad
 |.FloorDiv,.int i,.int j=>if decide (0<j)&&decide (j<1073741824)then .ok (false,.int (i / j))else .bad
 |.Mod,.int i,.int j=>if decide (0<j)then .ok (false,.int (i%j))else .bad
 |.Pow,.int i,.int j=>if decide (0<=j)&&decide (j<=1000)&&decide (i.natAbs<2 ^ 64)then .ok (false,.int (i ^ j.toNat))else .bad
 |.Add,.str i,.str j=>if small (i.length+j.length)then .ok (false,.str (i++j))else .bad
 |.Add,.lst i,.lst j=>if small (i.length+j.length)then .ok (true,.lst (i++j))else .bad
 |_,_,_=>.bad
noncomputable def sR(x y:Str):Bool := !(Builtin.Str.occurrences y x 0 y.length 1).isEmpty
def inD(x y:D):Out Bool:=
 match x,y with
 |x,.lst a=>if aH 8 x&&a.all (aH 8)then .ok (a.any λy=>ei y x)else .bad
 |x,.tup a=>if aH 8 x&&a.all (aH 8)then .ok (a.any λy=>ei y x)else .bad
 |.str x,.str y=>.ok (sR x y)
 |_,_=>.bad
noncomputable def isD(x y:D):Out Bool:=
 match x,y with
 |.non,.non=>.ok true
 |_,.non=>.ok false
 |.bl a,.bl b=>.ok (a==b)
 |.non,.bl _=>.ok false
 |.int _,.bl _=>.ok false
 |.str _,.bl _=>.ok false
 |.lst _,.bl _=>.ok false
 |.tup _,.bl _=>.ok false
 |_,_=>.bad
def de(op:CmpOp)(x y:D):Out Bool:=
 match op,x,y with
 |.Eq,x,y=>if aH 8 x&&aH 8 y then .ok (ei x y)else .bad
 |.NotEq,x,y=>if aH 8 x&&aH 8 y then .ok (!ei x y)else .bad
 |.Lt,.int i,.int j=>.ok (decide (i<j))
 |.LtE,.int i,.int j=>.ok (decide (i<=j))
 |.Gt,.int i,.int j=>.ok (decide (j<i))
 |.GtE,.int i,.int j=>.ok (decide (j<=i))
 |.In,x,y=>inD x y
 |.NotIn,x,y=>do let b ←inD x y;.ok (!b)
 |.Is,x,y=>isD x y
 |.IsNot,x,y=>do let b ←isD x y;.ok (!b)
 |_,_,_=>.bad
noncomputable def ay(c:Nat):Str:=⟨#[c]⟩
def qY(x y:D):Out Rs:=
 match x,y with
 |.lst a,.int i=>match L2.jC a i with|some d=>.ok (false,d)|none=>.bad
 |.tup a,.int i=>match L2.jC a i with|some d=>.ok (false,d)|none=>.bad
 |.str z,.int i=>if small z.length then (match L2.jC z.cps.toList i with|some c=>.ok (false,.str (ay c))|none=>.bad)else .bad
 |_,_=>.bad
def df{a:Type}(xs:List a)(b c:Option Int):List a:=(xs.drop (HT.gx xs.length 0 b)).take (HT.gx xs.length xs.length c - HT.gx xs.length 0 b)
def wy(x:D)(a b:Option Int):Out Rs:=
 match x with
 |.lst c=>.ok (true,.lst (df c a b))
 |.str z=>if small z.length then .ok (false,.str ⟨(df z.cps.toList a b).toArray⟩)else .bad
 |_=>.bad
noncomputable def intsFrom(a:Int):Nat->List D
 |0=>[]
 |n+1=>.int a::intsFrom (a+1) n
noncomputable def i_(i:Int):Bool:=decide (i.natAbs<4611686018427387904)
theorem ku{i:Int}(h:i_ i=true): -(2 ^ 62)<=i/\i<2 ^ 62:=by
 have:=of_decide_eq_true h;omega
noncomputable def dh(i:Nat):List D->List D
 |[]=>[]
 |d::ds=>.tup [.int i,d]::dh (i+1) ds
inductive jQ where
 |len|all|any|sorted|list|tuple|int|min|max|bool
 deriving DecidableEq
def eV:List D->Option (List Bool)
 |[]=>some []
 |d::r=>match jE d,eV r with|some b,some bs=>some (b::bs)|_,_=>none
noncomputable def BX:List D->Option (List Int)
 |[]=>some []
 |.int i::r=>(BX r).map (i :: ·)
 |_=>none
noncomputable def mx:List D->Option (List Str)
 |[]=>some []
 |.str i::r=>(mx r).map (i :: ·)
 |_=>none
noncomputable def FU(a b:Str):Bool := !decide (b.cps.toList<a.cps.toList)
def zD(ds:List D):Out (List D):=
 if 64<=ds.length then .bad else
 match BX ds with
 |some c=>.ok ((c.mergeSort λa b=>decide (a<=b)).map .int)
 |none=>match mx ds with
  |some d=>.ok ((d.mergeSort FU).map .str)
  |none=>.bad
def hF(f:jQ)(a:D):Out Rs:=
 match f,a with
 |.len,.tup [.lst b]=>.ok (false,.int b.length)
 |.len,.tup [.tup b]=>.ok (false,.int b.length)
 |.len,.tup [.str z]=>if small z.length then .ok (false,.int z.length)else .bad
 |.all,.tup [.lst b]=>match eV b with|some bs=>.ok (false,.bl (bs.all id))|none=>.bad
 |.any,.tup [.lst b]=>match eV b with|some bs=>.ok (false,.bl (bs.any id))|none=>.bad
 |.sorted,.tup [.lst b]=>do let c ←zD b;.ok (true,.lst c)
 |.list,.tup [.lst b]=>.ok (true,.lst b)
 |.list,.tup [.tup b]=>.ok (true,.lst b)
 |.tuple,.tup [.lst b]=>.ok (false,.tup b)
 |.tuple,.tup [.tup b]=>.ok (false,.tup b)
 |.int,.tup [.int i]=>.ok (false,.int i)
 |.int,.tup [.bl k]=>.ok (false,.int (if k then 1 else 0))
 |.min,.tup [.int i,.int j]=>.ok (false,.int (if j<i then j else i))
 |.max,.tup [.int i,.int j]=>.ok (false,.int (if j>i then j else i))
 |_,_=>.bad
inductive SV where
 |index|join
 deriving DecidableEq
def qZ(m:SV)(x:D)(a:D):Out Rs:=
 match m,x,a with
 |.index,.lst b,.tup [d]=>if aH 8 d&&b.all (aH 8)then (match b.findIdx? λy=>ei y d with|some j=>.ok (false,.int j)|none=>.bad)else .bad
 |.index,.str z,.tup [.str y]=>match Builtin.Str.occurrences z y 0 z.length 1 with|i::_=>.ok (false,.int i)|[]=>.bad
 |.join,.str z,.tup [.lst c]=>match mx c with|some b=>if decide (z.length<=16)&&decide ((b.map (·.length)).sum+b.length<=1048576)then .ok (false,.str (Txt.join z b))else .bad|none=>.bad
 |_,_,_=>.bad
inductive Ty where
 |int|str|bool|list|tuple|dict
 deriving DecidableEq
noncomputable def wz:D->Ty->Option Bool
 |.non,_=>some false
 |.bl _,t=>some (t==.bool||t==.int)
 |.int _,t=>some (t==.int)
 |.str _,t=>some (t==.str)
 |.lst _,t=>some (t==.list)
 |.tup _,t=>some (t==.tuple)
 |.dct _ _,t=>some (t==.dict)
 |.ref _,_=>none
noncomputable def eJ:D->Bool
 |.non|.bl _|.int _|.str _=>true
 |_=>false
noncomputable def fuel:Nat:=100000
def nA{a:Type}(xs:List a)(i:Int)(x:a):List a:=let k:=HT.gx xs.length 0 (some i);xs.take k++x::xs.drop k
end Mir
namespace Mir
open PySem PySem.Spec PyProof.Rows L2
mutual
noncomputable def Rep(Z:Addr->Prop)(H:Hp):D->V->Prop
 |.non,v=>v=.non
 |.bl b,v=>v=.bl b
 |.int i,v=>v=.int i
 |.str x,v=>v=.str x
 |.lst ds,v=>∃a vs,v=.ref a/\Z a/\Rd H a (.lst vs)/\aU Z H ds vs
 |.tup ds,v=>∃a vs,v=.ref a/\Z a/\Rd H a (.tup vs)/\aU Z H ds vs
 |.dct ks ds,v=>∃a vs,v=.ref a/\Z a/\H a=some (.dK (ks.zip vs))/\aU Z H ds vs
 |.ref _,_=>False
noncomputable def aU(Z:Addr->Prop)(H:Hp):List D->List V->Prop
 |[],a=>a=[]
 |d::ds,a=>∃v r,a=v::r/\Rep Z H d v/\aU Z H ds r
end
section
variable{Z Z':Addr->Prop}{H H':Hp}
theorem nB{a:Addr}{u:HO}(k:∀o,H a=some o->H' a=some o)(h:Rd H a u):Rd H' a u:=by
 rcases h with h|⟨o,h⟩
 .exact .inl (k _ h)
 .exact .inr ⟨o,k _ h⟩
mutual
theorem Rep.mono(k:∀a o,Z a->H a=some o->H' a=some o)(z:∀a,Z a->Z' a):∀{d:D}{v:V},Rep Z H d v->Rep Z' H' d v
 |.non,_,h=>by simpa only [Rep]using h
 |.bl _,_,h=>by simpa only [Rep]using h
 |.int _,_,h=>by simpa only [Rep]using h
 |.str _,_,h=>by simpa only [Rep]using h
 |.lst ds,v,h=>by
  simp only[Rep]at h ⊢;obtain⟨a,c,e,b,f,g⟩:=h;exact⟨a,c,e,z a b,nB (λo=>k a o b) f,aU.mono k z g⟩
 |.tup ds,v,h=>by
  simp only[Rep]at h ⊢;obtain⟨a,c,e,b,f,g⟩:=h;exact⟨a,c,e,z a b,nB (λo=>k a o b) f,aU.mono k z g⟩
 |.dct i ds,v,h=>by
  simp only[Rep]at h ⊢;obtain⟨a,c,e,b,f,g⟩:=h;exact⟨a,c,e,z a b,k a _ b f,aU.mono k z g⟩
 |.ref _,_,h=>by simp only[Rep]at h
theorem aU.mono(k:∀a o,Z a->H a=some o->H' a=some o)(z:∀a,Z a->Z' a):∀{ds:List D}{vs:List V},aU Z H ds vs->aU Z' H' ds vs
 |[],_,h=>by simpa only [aU]using h
 |d::ds,vs,h=>by
  simp only[aU]at h ⊢;obtain⟨v,r,e,h1,h2⟩:=h;exact⟨v,r,e,Rep.mono k z h1,aU.mono k z h2⟩
end
theorem aU.length:∀{ds:List D}{vs:List V},aU Z H ds vs->vs.length=ds.length
 |[],_,h=>by simp only[aU]at h;rw[h];rfl
 |d::ds,_,h=>by
  simp only[aU]at h;obtain⟨v,r,e,_,h2⟩:=h;rw[e,List.length_cons,List.length_cons,aU.length h2]
theorem aU.get:∀{ds:List D}{vs:List V}{i:Nat}{d:D},aU Z H ds vs->ds[i]?=some d->∃v,vs[i]?=some v/\Rep Z H d v
 |[],_,_,_,_,e=>by simp at e
 |d::ds,_,0,_,h,e=>by
  simp only[aU]at h;obtain⟨v,r,rfl,h1,_⟩:=h;simp at e;subst e
  exact⟨v,rfl,h1⟩
 |d::ds,_,i+1,a,h,e=>by
  simp only[aU]at h;obtain⟨v,r,rfl,_,b⟩:=h;obtain⟨u,c,f⟩:=aU.get (i:=i) (d:=a) b (by simpa using e)
  exact⟨u,by simpa using c,f⟩
theorem aU.append:∀{ds es:List D}{vs ws:List V},aU Z H ds vs->aU Z H es ws->aU Z H (ds++es) (vs++ws)
 |[],_,_,_,h,h'=>by simp only[aU]at h;rw[h];exact h'
 |d::ds,_,_,_,h,h'=>by
  simp only[aU]at h;obtain⟨v,r,rfl,h1,h2⟩:=h
  show aU Z H (d::(ds++_)) (v::(r++_))
  simp only[aU];exact⟨v,_,rfl,h1,aU.append h2 h'⟩
theorem aU.nil:aU Z H [] []:=by simp only[aU]
theorem aU.cons{d:D}{ds:List D}{v:V}{vs:List V}(h:Rep Z H d v)(h':aU Z H ds vs):aU Z H (d::ds) (v::vs):=by
 simp only[aU];exact⟨v,vs,rfl,h,h'⟩
theorem aU.nil_inv{vs:List V}(h:aU Z H [] vs):vs=[]:=by simpa only [aU]using h
theorem aU.cons_inv{d:D}{ds:List D}{vs:List V}(h:aU Z H (d::ds) vs):∃v r,vs=v::r/\Rep Z H d v/\aU Z H ds r:=by simpa only [aU]using h
def Now(Z:Addr->Prop)(H:Hp)(d:D)(v:V):Prop:=
 match d with
 |.lst c=>∃a b,v=.ref a/\Rd H a (.lst b)/\aU Z H c b
 |d=>Rep Z H d v
theorem Rep.now{d:D}{v:V}(h:Rep Z H d v):Now Z H d v:=by
 cases d with
 |lst c=>
  simp only[Rep]at h;obtain⟨a,b,e,_,h⟩:=h;exact⟨a,b,e,h⟩
 |_=>exact h
end
structure ew(Z:Addr->Prop)(H:Hp)(Z':Addr->Prop)(H':Hp):Prop where
 same:iB H H'
 sub:∀a,Z a->Z' a
 new:∀a,Z' a->Z a\/H a=none
 dom:∀a,Z' a->H' a≠none
theorem ew.refl{Z:Addr->Prop}{H:Hp}(d:∀a,Z a->H a≠none):ew Z H Z H:=⟨iB.refl _,λ_ h=>h,λ_ h=>.inl h,d⟩
theorem iB.laid{H:Hp}{p:Addr}{o:HO}(h:H p=none):iB H (upd H p o):=λb u e=>by rw[aE (aY e h)];exact e
theorem ew.laid{Z:Addr->Prop}{H:Hp}{p:Addr}{o:HO}(d:∀a,Z a->H a≠none)(h:H p=none):ew Z H Z (upd H p o):=
 ⟨iB.laid h,λ_ h=>h,λ_ h=>.inl h,λa b=>by
  have c:a≠p:=λe=>d a b (by rw[e];exact h)
  rw[aE c];exact d a b⟩
def Zp(Z:Addr->Prop)(p:Addr):Addr->Prop:=λa=>Z a\/a=p
section
variable{Z0 Z Z':Addr->Prop}{H0 H H':Hp}{ρ:zE}{σ:L2.St}
end
def dW(bw b:Bool)(Z:Addr->Prop)(f H:Hp)(d:D)(v:V):Prop:=
 if b=true then ∃a c e,d=.lst e/\v=.ref a/\f a=none/\¬ Z a/\H a=some (.lst c)/\aU Z H e c
 else if bw=true then Now Z H d v else Rep Z H d v
theorem dW.own{bw:Bool}{Z:Addr->Prop}{b H:Hp}{a:Addr}{ds:List D}{vs:List V}(c:b a=none)(d:¬ Z a)(e:H a=some (.lst vs))(f:aU Z H ds vs):dW bw true Z b H (.lst ds) (.ref a):=by
 unfold dW;rw[if_pos rfl];exact⟨a,vs,ds,rfl,rfl,c,d,e,f⟩
theorem dW.rep{bw:Bool}{Z:Addr->Prop}{a H:Hp}{d:D}{v:V}(h:Rep Z H d v):dW bw false Z a H d v:=by
 unfold dW;rw[if_neg Bool.false_ne_true]
 split
 .exact h.now
 .exact h
theorem dW.now{b:Bool}{Z:Addr->Prop}{c H:Hp}{d:D}{v:V}(h:dW true b Z c H d v):Now Z H d v:=by
 unfold dW at h;split at h
 .obtain⟨a,e,i,rfl,rfl,_,_,f,g⟩:=h
  exact⟨a,e,rfl,.inl f,g⟩
 .rw[if_pos rfl]at h;exact h
theorem PE.imp{X:Cx}{e:Expr}{t t':TE}(h:PE X e t)(i:∀a H Q,t' a H Q->t a H Q):PE X e t':=λpins s a H Q I q=>h pins s a H Q I (i a H Q q)
theorem kx{d e:Type}{x:Out d}{f:d->Out e}{b:e}(h:(x >>= f)=.ok b):∃a,x=.ok a/\f a=.ok b:=by
 cases x with
 |ok a=>exact⟨a,rfl,h⟩
 |exc c g=>cases h
 |bad=>cases h
section
variable{Γ:lO}{Z0 Z:Addr->Prop}{H0 H:Hp}{ρ:zE}{σ:L2.St}{c:Ex}{Q:VK}{own:Bool}{d:D}
end
end Mir
namespace Mir
open PySem PySem.Spec PyProof.Rows L2
section
variable{Z Z':Addr->Prop}{H H2 H':Hp}{d:D}{v:V}{bw own:Bool}
theorem bE{n:Nat}(h:small n=true):n<=sizeLine:=of_decide_eq_true h
end
section
variable{X:Cx}{Γ:lO}{bw:Bool}{a b e:Expr}{ca cb c:Ex}{pos:Pos}
noncomputable def fM:D->Option V
 |.non=>some .non
 |.bl b=>some (.bl b)
 |.int i=>some (.int i)
 |.str x=>some (.str x)
 |_=>none
theorem eW{Z:Addr->Prop}{H:Hp}{d:D}{v:V}(h:fM d=some v):Rep Z H d v:=by
 cases d<;>simp only[fM]at h<;>first|cases h;simp only[Rep]|cases h
end
section
variable{Z:Addr->Prop}{H:Hp}{x:V}
theorem fm(h:Now Z H .non x):x=.non:=by simpa only [Now,Rep]using h
theorem bA{i:Int}(h:Now Z H (.int i) x):x=.int i:=by simpa only [Now,Rep]using h
theorem hH{i:Bool}(h:Now Z H (.bl i) x):x=.bl i:=by simpa only [Now,Rep]using h
theorem cT{i:Str}(h:Now Z H (.str i) x):x=.str i:=by simpa only [Now,Rep]using h
theorem cU{ds:List D}(h:Now Z H (.lst ds) x):∃a vs,x=.ref a/\Rd H a (.lst vs)/\aU Z H ds vs:=h
theorem fo{ds:List D}(h:Now Z H (.tup ds) x):∃a vs,x=.ref a/\Z a/\Rd H a (.tup vs)/\aU Z H ds vs:=by simpa only [Now,Rep]using h
theorem ky{K:PySem.W.Frag}{a:Addr}{vs:List V}(h:Rd H a (.lst vs)):jM K H a vs:=.inl h
theorem uV{K:PySem.W.Frag}{a:Addr}{vs:List V}(h:Rd H a (.tup vs)):qJ K H a vs:=.inl h
theorem zF{bw:Bool}{Q:VK}{ds:List D}{vs:List V}(b:∀a,Z a->H a≠none)(f:aU Z H ds vs)
  (k:∀v d e,ew Z H e d->dW bw true e H d (.lst ds) v->Q v d):∀p,H p=none->Q (.ref p) (upd H p (.lst vs)):=λp c=>
 k _ _ Z (ew.laid b c) (.own c (λz=>b p z c) aN (f.mono (λa o _=>iB.laid c a o) λ_ z=>z))
end
section
variable{X:Cx}{Γ:lO}{bw:Bool}{a b e:Expr}{ca cb c:Ex}{pos:Pos}
def BY:R2:=λx y H Q=>∃l b a c,x=.ref l/\y=.ref b/\Rd H l (.lst a)/\Rd H b (.lst c)/\a.length+c.length<=sizeLine/\∀p,H p=none->Q (.ref p) (upd H p (.lst (a++c)))
theorem zG:fW X (binaryOp .Add) BY:=by
 intro pins s w H x y v u Q I i j h;obtain⟨l,b,d,f,rfl,rfl,k,m,A,q⟩:=h;cases i;cases j;obtain⟨z,a,n,r,e⟩:d.length<=sizeLine/\∃(a:List Value) (n:Nat),Vals d a/\s.heap.get? l=some {cls:=.type "list",data:=.seq a.toArray n}:=Rd.ok k I.hok;obtain⟨B,c,C,g,o⟩:f.length<=sizeLine/\∃(a:List Value) (n:Nat),Vals f a/\s.heap.get? b=some {cls:=.type "list",data:=.seq a.toArray n}:=Rd.ok m I.hok;have D:=r.length;have p:=g.length;refine PySem.P.add_list e o ?_ (by rw[List.size_toArray,List.size_toArray];omega)
 have t:a.toArray++c.toArray=(a++c).toArray:=by simp
 rw[t];exact⟨.ref _,_,I.Ll (t':=s.toks) (r.append g) (by rw[List.length_append];omega),rfl,q _ I.fresh⟩
def zH(op:Operator):R2:=λx y H Q=>match op with
 |.Add=>(∃i j,x=.int i/\y=.int j/\Q (.int (i+j)) H)\/(∃i j,x=.str i/\y=.str j/\i.length+j.length<=sizeLine/\Q (.str (i++j)) H)\/BY x y H Q
 |.Sub=>∃i j,x=.int i/\y=.int j/\Q (.int (i - j)) H
 |.Mult=>∃i j,x=.int i/\y=.int j/\zj i j/\Q (.int (i*j)) H
 |.FloorDiv=>∃i j,x=.int i/\y=.int j/\Fs i j/\Q (.int (i / j)) H
 |.Mod=>∃i j,x=.int i/\y=.int j/\0<j/\Q (.int (i%j)) H
 |.Pow=>∃i j,x=.int i/\y=.int j/\Ft i j/\Q (.int (i ^ j.toNat)) H
 |_=>False
theorem wA(op:Operator):fW X (binaryOp op) (zH op):=by
 cases op with
 |Add=>exact CU.or (qO.or zG)
 |Sub=>exact CV
 |Mult=>exact CW
 |FloorDiv=>exact zk
 |Mod=>exact CY
 |Pow=>exact CZ
 |_=>exact λ_ _ _ _ _ _ _ _ _ _ _ _ h=>h.elim
theorem Di{op:Operator}{n o:D}{x y:V}{Z:Addr->Prop}{H:Hp}{h:Bool}{d:D}{Q:VK}(f:Now Z H n x)(g:Now Z H o y)(i:∀a,Z a->H a≠none)(b:eU op n o=.ok (h,d))
  (k:∀v j p,ew Z H p j->dW bw h p H j d v->Q v j):zH op x y H Q:=by
 have c:∀{r:D}{v:V},fM r=some v->Out.ok (false,r)=Out.ok (h,d)->Q v H:=λu q=>by
  cases q;exact k _ H Z (ew.refl i) (.rep (eW u))
 unfold eU at b;split at b
 .cases bA f;cases bA g
  exact .inl ⟨_,_,rfl,rfl,c rfl b⟩
 .cases bA f;cases bA g
  exact⟨_,_,rfl,rfl,c rfl b⟩
 .cases bA f;cases bA g
  split at b
  .rename_i e
   refine⟨_,_,rfl,rfl,?_,c rfl b⟩;simp only[Bool.or_eq_true]at e;have e:=e.imp pz pz;exact e
  .cases b
 .cases bA f;cases bA g
  split at b
  .rename_i e
   refine⟨_,_,rfl,rfl,?_,c rfl b⟩;simp only[Bool.and_eq_true,decide_eq_true_eq]at e;exact e
  .cases b
 .cases bA f;cases bA g
  split at b
  .rename_i e
   exact⟨_,_,rfl,rfl,of_decide_eq_true e,c rfl b⟩
  .cases b
 .cases bA f;cases bA g
  split at b
  .rename_i e
   refine⟨_,_,rfl,rfl,?_,c rfl b⟩;simp only[Bool.and_eq_true,decide_eq_true_eq]at e;exact⟨e.1.1,Int.le_trans e.1.2 (by decide),e.2⟩
  .cases b
 .cases cT f;cases cT g
  split at b
  .rename_i e
   exact .inr (.inl ⟨_,_,rfl,rfl,bE e,c rfl b⟩)
  .cases b
 .obtain⟨l,w,rfl,z,s⟩:=cU f
  obtain⟨m,A,rfl,B,t⟩:=cU g;split at b
  .rename_i e
   cases b;have C:=bE e;exact .inr (.inr ⟨l,m,w,A,rfl,rfl,z,B,by rw[s.length,t.length];exact C,zF i (s.append t) k⟩)
  .cases b
 .cases b
end
section
variable{Z:Addr->Prop}{H:Hp}
theorem nE{a:Addr}{u b:HO}(d:∀o w,u≠.dJ o w)(c:∀o w,b≠.dJ o w)(h:Rd H a u)(h':Rd H a b):u=b:=by
 rcases h with h|⟨o,h⟩<;>rcases h' with h' |⟨f,h'⟩<;>rw[h]at h'<;>injection h' with e
 .exact absurd e (d _ _)
 .exact absurd e.symm (c _ _)
 .injection e
theorem q_{a:Addr}{xs b:List V}(h:Rd H a (.lst xs))(h':Rd H a (.lst b)):xs=b:=by
 have e:=nE (λ_ _ z=>by cases z) (λ_ _ z=>by cases z) h h'
 injection e
theorem rd{a:Addr}{xs b:List V}(h:Rd H a (.tup xs))(h':Rd H a (.tup b)):xs=b:=by
 have e:=nE (λ_ _ z=>by cases z) (λ_ _ z=>by cases z) h h'
 injection e
theorem sS{a:Addr}{xs b:List V}(h:Rd H a (.lst xs))(h':Rd H a (.tup b)):False:=by
 have e:=nE (λ_ _ z=>by cases z) (λ_ _ z=>by cases z) h h'
 cases e
mutual
theorem Rep.uniq:∀(n:Nat) (d d':D) (v:V),aH n d=true->aH n d'=true->Rep Z H d v->Rep Z H d' v->d=d'
 |n,.lst xs,d',v,o,o',h,h'=>by
  simp only[Rep]at h;obtain⟨a,g,rfl,_,h1,h2⟩:=h;cases d'<;>simp only[Rep]at h'
  case lst ys=>
   obtain⟨b,i,e,_,c,f⟩:=h';cases e;cases q_ h1 c;cases n with
   |zero=>simp[aH]at o
   |succ n=>rw[aU.uniq n xs ys g (by simpa[aH]using o) (by simpa[aH]using o') h2 f]
  case tup ys=>
   obtain⟨b,i,e,_,c,f⟩:=h';cases e;exact(sS h1 c).elim
  case dct ks ys=>cases n<;>simp[aH]at o'
  all_goals cases h'
 |n,.tup xs,d',v,o,o',h,h'=>by
  simp only[Rep]at h;obtain⟨a,g,rfl,_,h1,h2⟩:=h;cases d'<;>simp only[Rep]at h'
  case tup ys=>
   obtain⟨b,i,e,_,c,f⟩:=h';cases e;cases rd h1 c;cases n with
   |zero=>simp[aH]at o
   |succ n=>rw[aU.uniq n xs ys g (by simpa[aH]using o) (by simpa[aH]using o') h2 f]
  case lst ys=>
   obtain⟨b,i,e,_,c,f⟩:=h';cases e;exact(sS c h1).elim
  case dct ks ys=>cases n<;>simp[aH]at o'
  all_goals cases h'
 |n,.dct ks xs,_,_,o,_,_,_=>by cases n<;>simp[aH]at o
 |n,.ref _,_,_,_,_,h,_=>by simp only[Rep]at h
 |n,.non,d',v,_,o',h,h'=>by
  simp only[Rep]at h;subst h
  cases d'<;>simp only[Rep]at h'<;>first|rfl | (obtain⟨_,_,e,_⟩:=h';cases e;done) | (cases h';done)
 |n,.bl b,d',v,_,o',h,h'=>by
  simp only[Rep]at h;subst h
  cases d'<;>simp only[Rep]at h'<;>first | (obtain⟨_,_,e,_⟩:=h';cases e;done) | (cases h';rfl) | (cases h';done)
 |n,.int b,d',v,_,o',h,h'=>by
  simp only[Rep]at h;subst h
  cases d'<;>simp only[Rep]at h'<;>first | (obtain⟨_,_,e,_⟩:=h';cases e;done) | (cases h';rfl) | (cases h';done)
 |n,.str b,d',v,_,o',h,h'=>by
  simp only[Rep]at h;subst h
  cases d'<;>simp only[Rep]at h'<;>first | (obtain⟨_,_,e,_⟩:=h';cases e;done) | (cases h';rfl) | (cases h';done)
theorem aU.uniq:∀(n:Nat) (xs a:List D) (vs:List V),(∀x∈xs,aH n x=true)->(∀x∈a,aH n x=true)->aU Z H xs vs->aU Z H a vs->xs=a
 |n,[],a,vs,_,_,h,h'=>by
  rw[h.nil_inv]at h';cases a with
  |nil=>rfl
  |cons y a=>obtain⟨_,_,e,_⟩:=h'.cons_inv;cases e
 |n,x::xs,a,vs,o,c,h,h'=>by
  obtain⟨v,r,rfl,d,f⟩:=h.cons_inv;cases a with
  |nil=>exact absurd h'.nil_inv (by simp)
  |cons y a=>
   obtain⟨w,j,e,g,i⟩:=h'.cons_inv;cases e;rw[Rep.uniq n x y v (o x (by simp)) (c y (by simp)) d g,aU.uniq n xs a r (λz b=>o z (by simp[b])) (λz b=>c z (by simp[b])) f i]
end
mutual
theorem wB:∀(n:Nat) (d:D),aH n d=true->ei d d=true
 |n,.lst xs,o=>by
  cases n with
  |zero=>simp[aH]at o
  |succ n=>simp only[ei];exact eX n xs (by simpa[aH]using o)
 |n,.tup xs,o=>by
  cases n with
  |zero=>simp[aH]at o
  |succ n=>simp only[ei];exact eX n xs (by simpa[aH]using o)
 |n,.dct _ _,o=>by cases n<;>simp[aH]at o
 |n,.ref _,o=>by cases n<;>simp[aH]at o
 |n,.non,_=>by simp[ei]
 |n,.bl _,_=>by simp[ei]
 |n,.int _,_=>by simp[ei]
 |n,.str _,_=>by simp[ei]
theorem eX:∀(n:Nat) (xs:List D),(∀x∈xs,aH n x=true)->eu xs xs=true
 |n,[],_=>by simp[eu]
 |n,x::xs,o=>by
  simp only[eu,wB n x (o x (by simp)),eX n xs λz hz=>o z (by simp[hz]),Bool.and_self]
end
theorem dN:∀(xs a:List D),((List.range (min xs.length a.length)).all (λj=>ei (xs.getD j .non) (a.getD j .non))&&(xs.length==a.length))=eu xs a
 |[],[]=>by simp[eu]
 |[],_::_=>by simp[eu]
 |_::_,[]=>by simp[eu]
 |x::xs,y::a=>by
  have b:=dN xs a;have c:min (x::xs).length (y::a).length=min xs.length a.length+1:=by simp only[List.length_cons];omega
  rw[c,List.range_succ_eq_map,List.all_cons,List.all_map,eu,←b];simp[Function.comp_def,Bool.and_assoc]
theorem kz{xs a:List D}(h:xs.length=a.length):(List.range xs.length).all (λj=>ei (xs.getD j .non) (a.getD j .non))=eu xs a:=by
 have e:=dN xs a;rw[←h,Nat.min_self]at e;simpa using e
theorem nF{xs a:List D}(h:xs.length≠a.length):eu xs a=false:=by
 rw[←dN xs a];simp[h]
end
inductive Vw (s:Shared) (Z:Addr->Prop) (H:Hp):D->Value->Prop where
 |non:Vw s Z H .non .none
 |bl (b:Bool):Vw s Z H (.bl b) (.bool b)
 |int (i:Int) (t:Tok):Vw s Z H (.int i) (.int i t)
 |str (x:Str) (t:Tok):Vw s Z H (.str x) (.str x t)
 |lst {l:Addr}{its:List Value}{vs:List V}{ds:List D}:s.heap.IsList l its.toArray->Vals vs its->Rd H l (.lst vs)/\aU Z H ds vs->Vw s Z H (.lst ds) (.ref l)
 |tup {l:Addr}{its:List Value}{vs:List V}{ds:List D}:s.heap.IsTuple l its.toArray->Vals vs its->Rd H l (.tup vs)/\aU Z H ds vs->Vw s Z H (.tup ds) (.ref l)
section
variable{X:Cx}{pins:List (Addr×Obj)}{σ:L2.St}{Z:Addr->Prop}{H:Hp}{s:Shared}{A:Around}
theorem fN{n:Nat}{d:D}{v:V}{u:Value}(I:Inv X pins σ H s)(c:Now Z H d v)(r:RelV v u)(o:aH n d=true):Vw s Z H d u:=by
 cases d with
 |non=>cases fm c;cases r;exact .non
 |bl b=>cases hH c;cases r;exact .bl b
 |int b=>cases bA c;obtain⟨t,rfl⟩:=r;exact .int b t
 |str b=>cases cT c;obtain⟨t,rfl⟩:=r;exact .str b t
 |lst i=>
  obtain⟨a,j,rfl,e,f⟩:=cU c;cases r;obtain⟨g,h,p,l⟩:=I.list (ky (K:=X.K) e);exact .lst p.isList h ⟨e,f⟩
 |tup i=>
  obtain⟨a,j,rfl,_,e,f⟩:=fo c;cases r;obtain⟨g,h,p,l⟩:=I.tuple (uV (K:=X.K) e);exact .tup p h ⟨e,f⟩
 |dct m i=>cases n<;>simp[aH]at o
 |ref k=>cases n<;>simp[aH]at o
theorem nG{vs:List V}{a:List Value}(r:Vals vs a){j:Nat}(d:j<a.length):∃v,vs[j]?=some v/\RelV v a[j]:=by
 have f:=r.length;have b:vs[j]?=some vs[j]:=by simp[show j<vs.length by omega]
 obtain⟨u,c,e⟩:=r.get b;rw[List.getElem?_eq_getElem d]at c;cases c;exact⟨_,b,e⟩
theorem eY{n:Nat}(I:Inv X pins σ H s)(r:∀(A:Around) (e f:D) (u w:Value),A.units+n<cLine->aH n e=true->aH n f=true->Vw s Z H e u->Vw s Z H f w->SeqAt.EqAt A s u w (ei e f))
  {ds es:List D} (t:∀x∈ds,aH n x=true) (y:∀x∈es,aH n x=true) (G:A.units+(n+1)<cLine) {vs ws:List V}{b a:List Value} (k:Vals vs b) (l:Vals ws a) (pl:aU Z H ds vs) (m:aU Z H es ws) :
  ∀j (g:j<b.toArray.size) (h:j<a.toArray.size),SeqAt.EqAt A.in1 s b.toArray[j] a.toArray[j] (ei (ds.getD j .non) (es.getD j .non)):=by
 intro j g h;have J:=k.length;have K:=l.length;have L:=pl.length;have M:=m.length;simp only[List.size_toArray]at g h;simp only[List.getElem_toArray];obtain⟨v,z,B⟩:=nG k g;obtain⟨w,C,i⟩:=nG l h;have o:ds[j]?=some (ds.getD j .non):=by simp[List.getD,show j<ds.length by omega]
 have p:es[j]?=some (es.getD j .non):=by simp[List.getD,show j<es.length by omega]
 obtain⟨N,c,E⟩:=pl.get o;obtain⟨O,d,F⟩:=m.get p;rw[z]at c;cases c
 rw[C]at d;cases d
 have q:=t _ (List.mem_of_getElem? o);have o2:=y _ (List.mem_of_getElem? p);exact r A.in1 _ _ _ _ (by show A.units+1+n<cLine;omega) q o2 (fN I E.now B q) (fN I F.now i o2)
theorem eZ(I:Inv X pins σ H s):∀(n:Nat) (A:Around) (G J:D) (u w:Value),A.units+n<cLine->aH n G=true->aH n J=true->Vw s Z H G u->Vw s Z H J w->SeqAt.EqAt A s u w (ei G J):=by
 intro n
 induction n with
 |zero=>
  intro A G J u w N E K O o;have f:A.units<cLine:=by omega
  cases O with
  |non=>
   cases o with
   |non=>exact SeqAt.EqAt.same _
   |bl p=>exact SeqAt.EqAt.none_bool _
   |int q k=>exact SeqAt.EqAt.none_int _ _
   |str r k=>exact SeqAt.EqAt.none_str _ _
   |@lst m a d c e h g=>exact SeqAt.EqAt.none_list e f
   |@tup m a d c e h g=>exact SeqAt.EqAt.none_tuple e f
  |bl b=>
   cases o with
   |non=>exact SeqAt.EqAt.bool_none _
   |bl p=>exact SeqAt.EqAt.bool_bool _ _
   |int q k=>exact SeqAt.EqAt.bool_int _ _ _
   |str r k=>exact SeqAt.EqAt.bool_str _ _ _
   |@lst m a d c e h g=>exact SeqAt.EqAt.bool_list _ e f
   |@tup m a d c e h g=>exact SeqAt.EqAt.bool_tuple _ e f
  |int i t=>
   cases o with
   |non=>exact SeqAt.EqAt.int_none _ _
   |bl p=>exact SeqAt.EqAt.int_bool _ _ _
   |int q k=>exact SeqAt.EqAt.int_int _ _ _ _
   |str r k=>exact SeqAt.EqAt.int_str _ _ _ _
   |@lst m a d c e h g=>exact SeqAt.EqAt.int_list _ _ e f
   |@tup m a d c e h g=>exact SeqAt.EqAt.int_tuple _ _ e f
  |str x t=>
   cases o with
   |non=>exact SeqAt.EqAt.str_none _ _
   |bl p=>exact SeqAt.EqAt.str_bool _ _ _
   |int q k=>exact SeqAt.EqAt.str_int _ _ _ _
   |str r k=>exact SeqAt.EqAt.str_str _ _ _ _
   |@lst m a d c e h g=>exact SeqAt.EqAt.str_list _ _ e f
   |@tup m a d c e h g=>exact SeqAt.EqAt.str_tuple _ _ e f
  |@lst l y L z j F B=>
   cases o with
   |non=>exact SeqAt.EqAt.list_none j f
   |bl p=>exact SeqAt.EqAt.list_bool _ j f
   |int q k=>exact SeqAt.EqAt.list_int _ _ j f
   |str r k=>exact SeqAt.EqAt.list_str _ _ j f
   |@lst m a d c e h g=>
    simp[aH]at E
   |@tup m a d c e h g=>exact SeqAt.EqAt.list_tuple j e f
  |@tup l y L z j F B=>
   cases o with
   |non=>exact SeqAt.EqAt.tuple_none j f
   |bl p=>exact SeqAt.EqAt.tuple_bool _ j f
   |int q k=>exact SeqAt.EqAt.tuple_int _ _ j f
   |str r k=>exact SeqAt.EqAt.tuple_str _ _ j f
   |@lst m a d c e h g=>exact SeqAt.EqAt.tuple_list j e f
   |@tup m a d c e h g=>
    simp[aH]at E
 |succ n R=>
  intro A G J u w N E K O o;have f:A.units<cLine:=by omega
  cases O with
  |non=>
   cases o with
   |non=>exact SeqAt.EqAt.same _
   |bl p=>exact SeqAt.EqAt.none_bool _
   |int q k=>exact SeqAt.EqAt.none_int _ _
   |str r k=>exact SeqAt.EqAt.none_str _ _
   |@lst m a d c e h g=>exact SeqAt.EqAt.none_list e f
   |@tup m a d c e h g=>exact SeqAt.EqAt.none_tuple e f
  |bl b=>
   cases o with
   |non=>exact SeqAt.EqAt.bool_none _
   |bl p=>exact SeqAt.EqAt.bool_bool _ _
   |int q k=>exact SeqAt.EqAt.bool_int _ _ _
   |str r k=>exact SeqAt.EqAt.bool_str _ _ _
   |@lst m a d c e h g=>exact SeqAt.EqAt.bool_list _ e f
   |@tup m a d c e h g=>exact SeqAt.EqAt.bool_tuple _ e f
  |int i t=>
   cases o with
   |non=>exact SeqAt.EqAt.int_none _ _
   |bl p=>exact SeqAt.EqAt.int_bool _ _ _
   |int q k=>exact SeqAt.EqAt.int_int _ _ _ _
   |str r k=>exact SeqAt.EqAt.int_str _ _ _ _
   |@lst m a d c e h g=>exact SeqAt.EqAt.int_list _ _ e f
   |@tup m a d c e h g=>exact SeqAt.EqAt.int_tuple _ _ e f
  |str x t=>
   cases o with
   |non=>exact SeqAt.EqAt.str_none _ _
   |bl p=>exact SeqAt.EqAt.str_bool _ _ _
   |int q k=>exact SeqAt.EqAt.str_int _ _ _ _
   |str r k=>exact SeqAt.EqAt.str_str _ _ _ _
   |@lst m a d c e h g=>exact SeqAt.EqAt.str_list _ _ e f
   |@tup m a d c e h g=>exact SeqAt.EqAt.str_tuple _ _ e f
  |@lst l y L z j F B=>
   cases o with
   |non=>exact SeqAt.EqAt.list_none j f
   |bl p=>exact SeqAt.EqAt.list_bool _ j f
   |int q k=>exact SeqAt.EqAt.list_int _ _ j f
   |str r k=>exact SeqAt.EqAt.list_str _ _ j f
   |@lst m a d c e h g=>
    have S:=F.length;have T:=h.length;have U:=B.2.length;have V:=g.2.length;simp only[ei]
    by_cases C:l=m
    .subst C
     have P:=q_ B.1 g.1;subst P;have Q:=aU.uniq n z c L (by simpa[aH]using E) (by simpa[aH]using K) B.2 g.2
     subst Q;rw[eX n z (by simpa[aH]using E)]
     exact SeqAt.EqAt.same _
    .refine SeqAt.EqAt.of_refs C ?_
     by_cases M:z.length=c.length
     .rw[←kz M]
      have:=SeqAt.RcAt.lists j e (by simp only[List.size_toArray];omega) f (eY I R (by simpa[aH]using E) (by simpa[aH]using K) N F h B.2 g.2)
      rw[show y.toArray.size=z.length by simp only[List.size_toArray];omega]at this
      exact this
     .rw[nF M]
      exact SeqAt.RcAt.lists_lengths j e (by simp only[List.size_toArray,bne_iff_ne];omega) f
   |@tup m a d c e h g=>exact SeqAt.EqAt.list_tuple j e f
  |@tup l y L z j F B=>
   cases o with
   |non=>exact SeqAt.EqAt.tuple_none j f
   |bl p=>exact SeqAt.EqAt.tuple_bool _ j f
   |int q k=>exact SeqAt.EqAt.tuple_int _ _ j f
   |str r k=>exact SeqAt.EqAt.tuple_str _ _ j f
   |@lst m a d c e h g=>exact SeqAt.EqAt.tuple_list j e f
   |@tup m a d c e h g=>
    have S:=F.length;have T:=h.length;have U:=B.2.length;have V:=g.2.length;simp only[ei]
    by_cases C:l=m
    .subst C
     have P:=rd B.1 g.1;subst P;have Q:=aU.uniq n z c L (by simpa[aH]using E) (by simpa[aH]using K) B.2 g.2
     subst Q;rw[eX n z (by simpa[aH]using E)]
     exact SeqAt.EqAt.same _
    .refine SeqAt.EqAt.of_refs C ?_
     rw[←dN z c];have:=SeqAt.RcAt.tuples j e f (eY I R (by simpa[aH]using E) (by simpa[aH]using K) N F h B.2 g.2)
     rw[show y.toArray.size=z.length by simp only[List.size_toArray];omega,show a.toArray.size=c.length by simp only[List.size_toArray];omega]at this
     exact this
theorem wC(I:Inv X pins σ H s){n:Nat}{F G:D}{u w:Value}(J:A.units+(n+1)<cLine)(K:aH (n+1) F=true)(L:aH (n+1) G=true)(M:Vw s Z H F u)(p:Vw s Z H G w):SeqAt.RcAt A s u w (ei F G):=by
 have f:A.units<cLine:=by omega
 cases M with
 |non=>
  cases p with
  |non=>exact SeqAt.RcAt.none_none
  |bl q=>exact SeqAt.RcAt.none_bool _
  |int r k=>exact SeqAt.RcAt.none_int _ _
  |str y k=>exact SeqAt.RcAt.none_str _ _
  |@lst m a e c d g h=>exact SeqAt.RcAt.none_list d f
  |@tup m a e c d g h=>exact SeqAt.RcAt.none_tuple d f
 |bl b=>
  cases p with
  |non=>exact SeqAt.RcAt.bool_none _
  |bl q=>exact SeqAt.RcAt.bool_bool _ _
  |int r k=>exact SeqAt.RcAt.bool_int _ _ _
  |str y k=>exact SeqAt.RcAt.bool_str _ _ _
  |@lst m a e c d g h=>exact SeqAt.RcAt.bool_list _ d f
  |@tup m a e c d g h=>exact SeqAt.RcAt.bool_tuple _ d f
 |int i t=>
  cases p with
  |non=>exact SeqAt.RcAt.int_none _ _
  |bl q=>exact SeqAt.RcAt.int_bool _ _ _
  |int r k=>exact SeqAt.RcAt.int_int _ _ _ _
  |str y k=>exact SeqAt.RcAt.int_str _ _ _ _
  |@lst m a e c d g h=>exact SeqAt.RcAt.int_list _ _ d f
  |@tup m a e c d g h=>exact SeqAt.RcAt.int_tuple _ _ d f
 |str x t=>
  cases p with
  |non=>exact SeqAt.RcAt.str_none _ _
  |bl q=>exact SeqAt.RcAt.str_bool _ _ _
  |int r k=>exact SeqAt.RcAt.str_int _ _ _ _
  |str y k=>exact SeqAt.RcAt.str_str _ _ _ _
  |@lst m a e c d g h=>exact SeqAt.RcAt.str_list _ _ d f
  |@tup m a e c d g h=>exact SeqAt.RcAt.str_tuple _ _ d f
 |@lst l o N z j B C=>
  cases p with
  |non=>exact SeqAt.RcAt.list_none j f
  |bl q=>exact SeqAt.RcAt.list_bool _ j f
  |int r k=>exact SeqAt.RcAt.list_int _ _ j f
  |str y k=>exact SeqAt.RcAt.list_str _ _ j f
  |@lst m a e c d g h=>
   have O:=B.length;have P:=g.length;have Q:=C.2.length;have R:=h.2.length;simp only[ei]
   by_cases E:z.length=c.length
   .rw[←kz E]
    have:=SeqAt.RcAt.lists j d (by simp only[List.size_toArray];omega) f (eY I (eZ I n) (by simpa[aH]using K) (by simpa[aH]using L) J B g C.2 h.2)
    rw[show o.toArray.size=z.length by simp only[List.size_toArray];omega]at this
    exact this
   .rw[nF E]
    exact SeqAt.RcAt.lists_lengths j d (by simp only[List.size_toArray,bne_iff_ne];omega) f
  |@tup m a e c d g h=>exact SeqAt.RcAt.list_tuple j d f
 |@tup l o N z j B C=>
  cases p with
  |non=>exact SeqAt.RcAt.tuple_none j f
  |bl q=>exact SeqAt.RcAt.tuple_bool _ j f
  |int r k=>exact SeqAt.RcAt.tuple_int _ _ j f
  |str y k=>exact SeqAt.RcAt.tuple_str _ _ j f
  |@lst m a e c d g h=>exact SeqAt.RcAt.tuple_list j d f
  |@tup m a e c d g h=>
   have O:=B.length;have P:=g.length;have Q:=C.2.length;have R:=h.2.length;simp only[ei];rw[←dN z c];have:=SeqAt.RcAt.tuples j d f (eY I (eZ I n) (by simpa[aH]using K) (by simpa[aH]using L) J B g C.2 h.2)
   rw[show o.toArray.size=z.length by simp only[List.size_toArray];omega,show a.toArray.size=c.length by simp only[List.size_toArray];omega]at this
   exact this
theorem rf(I:Inv X pins σ H s){n:Nat}{F G:D}{u w:Value}(J:A.units+(n+1)<cLine)(K:aH (n+1) F=true)(L:aH (n+1) G=true)(M:Vw s Z H F u)(p:Vw s Z H G w):SeqAt.RcNeAt A s u w (!ei F G):=by
 have f:A.units<cLine:=by omega
 cases M with
 |non=>
  cases p with
  |non=>exact SeqAt.RcNeAt.none_none
  |bl q=>exact SeqAt.RcNeAt.none_bool _
  |int r k=>exact SeqAt.RcNeAt.none_int _ _
  |str y k=>exact SeqAt.RcNeAt.none_str _ _
  |@lst m a e c d g h=>exact SeqAt.RcNeAt.none_list d f
  |@tup m a e c d g h=>exact SeqAt.RcNeAt.none_tuple d f
 |bl b=>
  cases p with
  |non=>exact SeqAt.RcNeAt.bool_none _
  |bl q=>exact SeqAt.RcNeAt.bool_bool _ _
  |int r k=>exact SeqAt.RcNeAt.bool_int _ _ _
  |str y k=>exact SeqAt.RcNeAt.bool_str _ _ _
  |@lst m a e c d g h=>exact SeqAt.RcNeAt.bool_list _ d f
  |@tup m a e c d g h=>exact SeqAt.RcNeAt.bool_tuple _ d f
 |int i t=>
  cases p with
  |non=>exact SeqAt.RcNeAt.int_none _ _
  |bl q=>exact SeqAt.RcNeAt.int_bool _ _ _
  |int r k=>exact SeqAt.RcNeAt.int_int _ _ _ _
  |str y k=>exact SeqAt.RcNeAt.int_str _ _ _ _
  |@lst m a e c d g h=>exact SeqAt.RcNeAt.int_list _ _ d f
  |@tup m a e c d g h=>exact SeqAt.RcNeAt.int_tuple _ _ d f
 |str x t=>
  cases p with
  |non=>exact SeqAt.RcNeAt.str_none _ _
  |bl q=>exact SeqAt.RcNeAt.str_bool _ _ _
  |int r k=>exact SeqAt.RcNeAt.str_int _ _ _ _
  |str y k=>exact SeqAt.RcNeAt.str_str _ _ _ _
  |@lst m a e c d g h=>exact SeqAt.RcNeAt.str_list _ _ d f
  |@tup m a e c d g h=>exact SeqAt.RcNeAt.str_tuple _ _ d f
 |@lst l o N z j B C=>
  cases p with
  |non=>exact SeqAt.RcNeAt.list_none j f
  |bl q=>exact SeqAt.RcNeAt.list_bool _ j f
  |int r k=>exact SeqAt.RcNeAt.list_int _ _ j f
  |str y k=>exact SeqAt.RcNeAt.list_str _ _ j f
  |@lst m a e c d g h=>
   have O:=B.length;have P:=g.length;have Q:=C.2.length;have R:=h.2.length;simp only[ei]
   by_cases E:z.length=c.length
   .rw[←kz E]
    have:=SeqAt.RcNeAt.lists j d (by simp only[List.size_toArray];omega) f (eY I (eZ I n) (by simpa[aH]using K) (by simpa[aH]using L) J B g C.2 h.2)
    rw[show o.toArray.size=z.length by simp only[List.size_toArray];omega]at this
    exact this
   .rw[nF E]
    exact SeqAt.RcNeAt.lists_lengths j d (by simp only[List.size_toArray,bne_iff_ne];omega) f
  |@tup m a e c d g h=>exact SeqAt.RcNeAt.list_tuple j d f
 |@tup l o N z j B C=>
  cases p with
  |non=>exact SeqAt.RcNeAt.tuple_none j f
  |bl q=>exact SeqAt.RcNeAt.tuple_bool _ j f
  |int r k=>exact SeqAt.RcNeAt.tuple_int _ _ j f
  |str y k=>exact SeqAt.RcNeAt.tuple_str _ _ j f
  |@lst m a e c d g h=>exact SeqAt.RcNeAt.tuple_list j d f
  |@tup m a e c d g h=>
   have O:=B.length;have P:=g.length;have Q:=C.2.length;have R:=h.2.length;simp only[ei];rw[←dN z c];have:=SeqAt.RcNeAt.tuples j d f (eY I (eZ I n) (by simpa[aH]using K) (by simpa[aH]using L) J B g C.2 h.2)
   rw[show o.toArray.size=z.length by simp only[List.size_toArray];omega,show a.toArray.size=c.length by simp only[List.size_toArray];omega]at this
   exact this
end
end Mir
namespace Mir
open PySem PySem.Spec PyProof.Rows L2
theorem Vw.uniq{s:Shared}{Z:Addr->Prop}{H:Hp}{n:Nat}{d d':D}{u:Value}(h:Vw s Z H d u)(h':Vw s Z H d' u)(o:aH n d=true)(r:aH n d'=true):d=d':=by
 cases h with
 |non=>cases h';rfl
 |bl b=>cases h';rfl
 |int i t=>cases h';rfl
 |str x t=>cases h';rfl
 |@lst l j k m w y f=>
  cases h' with
  |@lst _ a g c p q e=>
   cases q_ f.1 e.1;cases n with
   |zero=>simp[aH]at o
   |succ n=>rw[aU.uniq n m c k (by simpa[aH]using o) (by simpa[aH]using r) f.2 e.2]
  |@tup _ a g c p q e=>exact(sS f.1 e.1).elim
 |@tup l j k m w y f=>
  cases h' with
  |@tup _ a g c p q e=>
   cases rd f.1 e.1;cases n with
   |zero=>simp[aH]at o
   |succ n=>rw[aU.uniq n m c k (by simpa[aH]using o) (by simpa[aH]using r) f.2 e.2]
  |@lst _ a g c p q e=>exact(sS e.1 f.1).elim
section
variable{X:Cx}{pins:List (Addr×Obj)}{σ:L2.St}{Z:Addr->Prop}{H:Hp}{s:Shared}
def jG(s:Shared)(Z:Addr->Prop)(H:Hp)(a:D)(u:Value):Bool:=@decide (∃d,aH 8 d=true/\Vw s Z H d u/\ei d a=true) (Classical.propDecidable _)
theorem sT{a d:D}{u:Value}(o:aH 8 d=true)(h:Vw s Z H d u):jG s Z H a u=ei d a:=by
 unfold jG;cases e:ei d a with
 |true=>exact @decide_eq_true _ (Classical.propDecidable _) ⟨d,o,h,e⟩
 |false=>
  refine @decide_eq_false _ (Classical.propDecidable _) ?_;rintro⟨g,c,f,b⟩;rw[Vw.uniq f h c o,e]at b;cases b
theorem kA(I:Inv X pins σ H s){b:D}:∀{ds:List D}{vs:List V}{a:List Value},aU Z H ds vs->Vals vs a->(∀d∈ds,aH 8 d=true)->a.any (jG s Z H b)=ds.any λd=>ei d b
 |[],_,_,h,r,_=>by rw[h.nil_inv]at r;cases r;rfl
 |d::ds,_,_,h,r,o=>by
  obtain⟨v,vr,rfl,h1,h2⟩:=h.cons_inv;cases r with
  |cons c e=>
   rw[List.any_cons,List.any_cons,kA I h2 e λz f=>o z (by simp[f]),sT (o d (by simp)) (fN I h1.now c (o d (by simp)))]
theorem kB(I:Inv X pins σ H s){A:Around}{b:D}{w:Value}(c:A.units+8<cLine)(f:aH 8 b=true)(g:Vw s Z H b w) :
  ∀{ds:List D}{vs:List V}{a:List Value},aU Z H ds vs->Vals vs a->(∀d∈ds,aH 8 d=true)->∀u∈a,SeqAt.EqAt A s u w (jG s Z H b u)
 |[],_,_,h,r,_,u,hm=>by rw[h.nil_inv]at r;cases r;simp at hm
 |d::ds,_,_,h,r,o,u,hm=>by
  obtain⟨v,vr,rfl,h1,h2⟩:=h.cons_inv;cases r with
  |cons j k=>
   rcases List.mem_cons.mp hm with e|hm
   .subst e
    have i:=fN I h1.now j (o d (by simp))
    rw[sT (o d (by simp)) i]
    exact eZ I 8 A d b _ w c (o d (by simp)) f i g
   .exact kB I c f g h2 k (λz l=>o z (by simp[l])) u hm
end
section
variable{X:Cx}{Γ:lO}{bw:Bool}{a b e:Expr}{ca cb cc c:Ex}{pos:Pos}
def wD(op:CmpOp):R2:=λx y H Q=>∃Z a b k,Now Z H a x/\Now Z H b y/\de op a b=.ok k/\Q (.bl k) H
theorem pA{Z:Addr->Prop}{H:Hp}{b:List L2.Key}{ds:List D}{x:V}(h:Now Z H (.dct b ds) x):∃a,x=.ref a:=by
 have h:Rep Z H (.dct b ds) x:=h;simp only[Rep]at h;obtain⟨a,_,e,_⟩:=h;exact⟨a,e⟩
theorem BZ{Z:Addr->Prop}{H:Hp}{f l:D}{x y:V}{k:Bool}{u v:Value}(d:Now Z H f x)(m:Now Z H l y)(e:RelV x u)(o:RelV y v)(h:isD f l=.ok k):plainIs u v=true/\(u==v)=k:=by
 have zI:∀{g:List D}{x:V}{u:Value},Now Z H (.lst g) x->RelV x u->∃a,u=.ref a:=λn r=>by
  obtain⟨a,_,rfl,_⟩:=cU n;exact⟨a,r⟩
 have j:∀{g:List D}{x:V}{u:Value},Now Z H (.tup g) x->RelV x u->∃a,u=.ref a:=λn r=>by
  obtain⟨a,_,rfl,_⟩:=fo n;exact⟨a,r⟩
 cases l with
 |non=>
  cases fm m;cases o;cases f with
  |non=>cases fm d;cases e;cases h;exact⟨rfl,rfl⟩
  |bl b=>cases hH d;cases e;cases h;exact⟨rfl,rfl⟩
  |int i=>cases bA d;obtain⟨t,rfl⟩:=e;cases h;exact⟨rfl,rfl⟩
  |str i=>cases cT d;obtain⟨t,rfl⟩:=e;cases h;exact⟨rfl,rfl⟩
  |lst g=>obtain⟨a,rfl⟩:=zI d e;cases h;exact⟨rfl,rfl⟩
  |tup g=>obtain⟨a,rfl⟩:=j d e;cases h;exact⟨rfl,rfl⟩
  |dct p g=>obtain⟨a,rfl⟩:=pA d;cases e;cases h;exact⟨rfl,rfl⟩
  |ref n=>exact(show False by simpa only [Now,Rep]using d).elim
 |bl c=>
  cases hH m;cases o;cases f with
  |non=>cases fm d;cases e;cases h;exact⟨rfl,rfl⟩
  |bl b=>cases hH d;cases e;cases h;exact⟨rfl,by cases b<;>cases c<;>rfl⟩
  |int i=>cases bA d;obtain⟨t,rfl⟩:=e;cases h;exact⟨rfl,rfl⟩
  |str i=>cases cT d;obtain⟨t,rfl⟩:=e;cases h;exact⟨rfl,rfl⟩
  |lst g=>obtain⟨a,rfl⟩:=zI d e;cases h;exact⟨rfl,rfl⟩
  |tup g=>obtain⟨a,rfl⟩:=j d e;cases h;exact⟨rfl,rfl⟩
  |dct p g=>cases h
  |ref n=>cases h
 |int _=>cases f<;>cases h
 |str _=>cases f<;>cases h
 |lst _=>cases f<;>cases h
 |tup _=>cases f<;>cases h
 |dct _ _=>cases f<;>cases h
 |ref _=>cases f<;>cases h
theorem B7{pins:List (Addr×Obj)}{s:Shared}{d:L2.St}{H:Hp}{x y:V}{u v:Value}{Q:VK}(L:X.A.units+64<cLine)(I:Inv X pins d H s)(n:RelV x u)(o:RelV y v)
  {Z:Addr->Prop}{a F:D}{k:Bool} (r:Now Z H a x) (t:Now Z H F y) (e:inD a F=.ok k) :
  (Q (.bl k) H->wpAny (model X.prog X.w) X.A (compareOp .In u v) (EP X pins d Q) X.xe s)/\(Q (.bl !k) H->wpAny (model X.prog X.w) X.A (compareOp .NotIn u v) (EP X pins d Q) X.xe s):=by
 unfold inD at e;split at e
 .rename_i z
  split at e
  .rename_i f
   cases e;simp only[Bool.and_eq_true]at f;obtain⟨g,c⟩:=f;have c:=List.all_eq_true.mp c;obtain⟨l,G,rfl,B,h⟩:=cU t;cases o;obtain⟨b,i,p,J⟩:=I.list (ky (K:=X.K) B);have C:=fN I r n g;have j:∀w,w∈b.toArray->SeqAt.EqAt X.A.in1 s w u (jG s Z H a w):=λw E=>kB I (A:=X.A.in1) (by show X.A.units+1+8<cLine;omega) g C h i c w (by simpa using E)
   have m:b.toArray.any (jG s Z H a)=z.any λy=>ei y a:=by
    rw[←kA I h i c];simp
   exact⟨λq=>SeqAt.in_listAt (jG s Z H a) p.isList j ⟨.bl _,H,I,rfl,by rw[m];exact q⟩,λq=>SeqAt.notIn_listAt (jG s Z H a) p.isList j ⟨.bl _,H,I,rfl,by rw[m];exact q⟩⟩
  .cases e
 .rename_i z
  split at e
  .rename_i f
   cases e;simp only[Bool.and_eq_true]at f;obtain⟨g,c⟩:=f;have c:=List.all_eq_true.mp c;obtain⟨l,G,rfl,_,B,h⟩:=fo t;cases o;obtain⟨b,i,p,J⟩:=I.tuple (uV (K:=X.K) B);have C:=fN I r n g;have j:∀w,w∈b.toArray->SeqAt.EqAt X.A.in1 s w u (jG s Z H a w):=λw E=>kB I (A:=X.A.in1) (by show X.A.units+1+8<cLine;omega) g C h i c w (by simpa using E)
   have m:b.toArray.any (jG s Z H a)=z.any λy=>ei y a:=by
    rw[←kA I h i c];simp
   exact⟨λq=>SeqAt.in_tupleAt (jG s Z H a) p j ⟨.bl _,H,I,rfl,by rw[m];exact q⟩,λq=>SeqAt.notIn_tupleAt (jG s Z H a) p j ⟨.bl _,H,I,rfl,by rw[m];exact q⟩⟩
  .cases e
 .cases e
  cases cT r;cases cT t;exact⟨λq=>uG pins s d H _ _ u v Q I n o ⟨_,_,rfl,rfl,q⟩,λq=>m8 pins s d H _ _ u v Q I n o ⟨_,_,rfl,rfl,q⟩⟩
 .cases e
theorem ja(F:X.A.units+64<cLine)(op:CmpOp):fW X (compareOp op) (wD op):=by
 intro pins s D H x y u v Q I m p h;obtain⟨Z,c,d,k,r,t,e,q⟩:=h;have l:EP X pins D Q (.bool k) s:=⟨.bl k,H,I,rfl,q⟩
 have a:∀{i j:Int}{o:CmpOp}{g:Int->Int->Bool},fW X (compareOp o) (zh λi j=>.bl (g i j))->c=.int i->d=.int j->k=g i j->wpAny (model X.prog X.w) X.A (compareOp o u v) (EP X pins D Q) X.xe s:=by
  intro i j o g z B C G;subst B C G;cases bA r;cases bA t;exact z pins s D H _ _ u v Q I m p ⟨_,_,rfl,rfl,q⟩
 cases op with
 |Eq=>
  unfold de at e;dsimp only at e;split at e
  .rename_i f
   cases e;simp only[Bool.and_eq_true]at f;exact wC I (n:=7) (by omega) f.1 f.2 (fN I r m f.1) (fN I t p f.2) X.prog X.w X.xe _ l
  .cases e
 |NotEq=>
  unfold de at e;dsimp only at e;split at e
  .rename_i f
   cases e;simp only[Bool.and_eq_true]at f;exact rf I (n:=7) (by omega) f.1 f.2 (fN I r m f.1) (fN I t p f.2) X.prog X.w X.xe _ l
  .cases e
 |Lt=>cases c<;>cases d<;>first | (cases e;exact a Fu rfl rfl rfl)|cases e
 |LtE=>cases c<;>cases d<;>first | (cases e;exact a Fv rfl rfl rfl)|cases e
 |Gt=>cases c<;>cases d<;>first | (cases e;exact a Fw rfl rfl rfl)|cases e
 |GtE=>cases c<;>cases d<;>first | (cases e;exact a Fx rfl rfl rfl)|cases e
 |In=>
  have e:inD c d=.ok k:=by cases c<;>cases d<;>exact e
  exact(B7 F I m p r t e).1 q
 |NotIn=>
  have e:(do let b ←inD c d;Out.ok (!b))=.ok k:=by cases c<;>cases d<;>exact e
  obtain⟨b,B,C⟩:=kx e;cases C;exact(B7 F I m p r t B).2 q
 |Is=>
  have e:isD c d=.ok k:=by cases c<;>cases d<;>exact e
  obtain⟨z,E⟩:=BZ r t m p e;exact wpAny_is_plain z (by rw[E];exact l)
 |IsNot=>
  have e:(do let b ←isD c d;Out.ok (!b))=.ok k:=by cases c<;>cases d<;>exact e
  obtain⟨b,B,C⟩:=kx e;cases C;obtain⟨z,E⟩:=BZ r t m p B;exact wpAny_isNot_plain z (by rw[E];exact l)
theorem Dj{op:CmpOp}{c e:D}{x y:V}{Z:Addr->Prop}{H:Hp}{b:Bool}{d:D}{Q:VK}(i:Now Z H c x)(j:Now Z H e y)(f:∀a,Z a->H a≠none)
  (l:(do let r ←de op c e;Out.ok (false,D.bl r))=.ok (b,d)) (k:∀v g h,ew Z H h g->dW bw b h H g d v->Q v g):wD op x y H Q:=by
 obtain⟨r,m,n⟩:=kx l;cases n;exact⟨Z,c,e,r,i,j,m,k _ H Z (ew.refl f) (.rep (eW rfl))⟩
end
theorem PT.imp{X:Cx}{e:Expr}{t t':TT}(h:PT X e t)(i:∀a H Q,t' a H Q->t a H Q):PT X e t':=λpins s a H Q I q=>h pins s a H Q I (i a H Q q)
theorem PW.imp{X:Cx}{e:Expr}{t t':TT}(h:PW X e t)(i:∀a H Q,t' a H Q->t a H Q):PW X e t':=λb pins s a H Q I q=>h b pins s a H Q I (i a H Q q)
section
variable{X:Cx}{Γ:lO}{bw:Bool}{a b e:Expr}{ca cb cc c:Ex}{pos:Pos}
theorem Dk{Z:Addr->Prop}{H:Hp}{d:D}{x:V}{t:Bool}{K:PySem.W.Frag}(n:Now Z H d x)(h:jE d=some t):oZ K x H t:=by
 cases d with
 |non=>cases fm n;cases h;rfl
 |bl b=>cases hH n;cases h;rfl
 |int b=>cases bA n;cases h;rfl
 |str b=>
  cases cT n;simp only[jE]at h;split at h
  .rename_i j
   cases h;refine⟨bE j,?_⟩
   have e:((b.length:Int) != 0)=(b.length != 0):=by
    rw[Bool.eq_iff_iff];simp only[bne_iff_ne,ne_eq];omega
   rw[e]
  .cases h
 |lst f=>
  obtain⟨a,c,rfl,g,i⟩:=cU n;cases h;refine .inl ⟨c,ky g,?_⟩;have:=i.length;cases f<;>cases c<;>simp at this ⊢
 |tup f=>
  obtain⟨a,c,rfl,_,g,i⟩:=fo n;cases h;refine .inr (.inl ⟨c,uV g,?_⟩);have:=i.length;cases f<;>cases c<;>simp at this ⊢
 |dct l f=>cases h
 |ref k=>cases h
end
def wF(Z:Addr->Prop)(H:Hp):List D->List V->Prop
 |[],a=>a=[]
 |d::ds,a=>∃v r,a=v::r/\Now Z H d v/\wF Z H ds r
section
variable{Z Z':Addr->Prop}{H H':Hp}
theorem wF.one{d:D}{xs:List V}(h:wF Z H [d] xs):∃x,xs=[x]/\Now Z H d x:=by
 obtain⟨v,r,e,a,b⟩:=h;exact⟨v,by rw[e,show r=[]from b],a⟩
end
def Args(bw:Bool)(Z:Addr->Prop)(H:Hp)(ds:List D)(vs:List V):Prop:=if bw=true then wF Z H ds vs else aU Z H ds vs
theorem PA.imp{X:Cx}{e:List Expr}{t t':TA}(h:PA X e t)(i:∀a H Q,t' a H Q->t a H Q):PA X e t':=λb pins s a H Q I q=>h b pins s a H Q I (i a H Q q)
section
variable{X:Cx}{Γ:lO}{bw:Bool}{a b e:Expr}{es:List Expr}{ca cb cc c cs:Ex}{pos p:Pos}
theorem wG{Z:Addr->Prop}{H:Hp}{ds:List D}{vs:List V}{i:Int}{d:D}(h:aU Z H ds vs)(e:jC ds i=some d):∃v,jC vs i=some v/\Rep Z H d v:=by
 unfold jC at e ⊢;rw[h.length];cases q:qF ds.length i with
 |none=>rw[q]at e;cases e
 |some j=>
  rw[q]at e;exact h.get e
theorem Dl{q r:D}{x y:V}{Z:Addr->Prop}{H:Hp}{e:Bool}{d:D}{Q:VK}{K:PySem.W.Frag}(g:Now Z H q x)(h:Now Z H r y)(c:∀a,Z a->H a≠none)(b:qY q r=.ok (e,d))
  (k:∀v i s,ew Z H s i->dW bw e s H i d v->Q v i):Jk K x y H Q:=by
 unfold qY at b;split at b
 .obtain⟨l,j,rfl,m,n⟩:=cU g
  cases bA h;split at b
  .rename_i t f
   cases b;obtain⟨v,o,p⟩:=wG n f;exact .inl ⟨l,j,_,v,rfl,rfl,ky m,o,k v H Z (ew.refl c) (.rep p)⟩
  .cases b
 .obtain⟨l,j,rfl,_,m,n⟩:=fo g
  cases bA h;split at b
  .rename_i t f
   cases b;obtain⟨v,o,p⟩:=wG n f;exact .inr (.inl ⟨l,j,_,v,rfl,rfl,uV m,o,k v H Z (ew.refl c) (.rep p)⟩)
  .cases b
 .cases cT g
  cases bA h;split at b
  .rename_i u
   split at b
   .rename_i w f
    cases b;exact .inr (.inr ⟨_,_,w,rfl,rfl,bE u,f,k _ H Z (ew.refl c) (.rep (eW rfl))⟩)
   .cases b
  .cases b
 .cases b
theorem wH{a:Type}(xs:List a)(b c:Option Int):(df xs b c).length<=xs.length:=by
 unfold df;rw[List.length_take,List.length_drop];omega
theorem sU(n d:Nat)(v:Int):max 0 (min (if v<0 then v+(n:Int)else v) (n:Int))=((HT.gx n d (some v):Nat):Int):=by
 show max 0 (min (if v<0 then v+(n:Int)else v) (n:Int))=(((if v<0 then (v+(n:Int)).toNat else min v.toNat n):Nat):Int)
 by_cases a:v<0
 .simp only[if_pos a];omega
 .simp only[if_neg a];omega
theorem wI{a b:Int}{p q:Nat}(d:a=p)(e:b=q):sliceRange a b 1=(List.range (q - p)).map λk=>p+k:=by
 subst d e;unfold sliceRange;simp only[show((1:Int)>0)=True from by simp,if_true]
 by_cases c:(p:Int)<q
 .rw[if_pos c]
  have f:(((q:Int) - p+1 - 1) / 1).toNat=q - p:=by first|omega | (simp;done) | (simp;omega)
  rw[f];refine List.map_congr_left λk _=>?_
  omega
 .rw[if_neg c]
  have:q - p=0:=by omega
  rw[this];rfl
theorem kC(a b:Option Int)(n:Nat):Builtin.Str.strSliceIndices a b 1 n=(List.range (HT.gx n n b - HT.gx n 0 a)).map λk=>HT.gx n 0 a+k:=by
 unfold Builtin.Str.strSliceIndices;simp only[show((1:Int)>0)=True from by simp,if_true]
 refine wI ?_ ?_
 .cases a with
  |none=>rfl
  |some v=>exact sU n 0 v
 .cases b with
  |none=>rfl
  |some v=>exact sU n n v
theorem uW:∀(n a:Nat) (l:List Nat),a+n<=l.length->((List.range n).map λk=>a+k).filterMap (λi=>l[i]?)=(l.drop a).take n:=by
 intro n
 induction n with
 |zero=>intro a l _;simp
 |succ n c=>
  intro a l h;have b:a+n<l.length:=by omega
  rw[List.range_succ,List.map_append,List.filterMap_append,c a l (by omega),List.take_add_one,List.getElem?_drop]
  simp[List.getElem?_eq_getElem b]
theorem wJ(x:Str)(a b:Option Int):(Builtin.Str.strSliceIndices a b 1 x.length).filterMap (x.cps[·]?)=df x.cps.toList a b:=by
 have c:x.cps.toList.length=x.length:=by simp[Str.length]
 have e:=HT.qU x.length 0 (Nat.zero_le _) a;have f:=HT.qU x.length x.length (Nat.le_refl _) b;rw[kC];unfold df;rw[c];generalize HT.gx x.length 0 a=p at *;generalize HT.gx x.length x.length b=q at *
 by_cases d:p<=q
 .have:=uW (q - p) p x.cps.toList (by rw[c];omega)
  simpa using this
 .have:q - p=0:=by omega
  rw[this];simp
def FV:V->Option Int->Option Int->Hp->VK->Prop:=λx a b H Q=>∃z,x=.str z/\z.length<=sizeLine/\Q (.str ⟨(df z.cps.toList a b).toArray⟩) H
theorem kD:C9 X FV:=by
 intro pins s G H x v J K a b L Q I j k m n h;obtain⟨z,rfl,M,q⟩:=h;obtain⟨t,rfl⟩:=j;refine⟨"str",_,F.slot_str_getitem.lookup,typeIs_str _ _ _,?_⟩
 have part:∀{w:Value}{o:Option Int},IsPart w o->∃p:Option (Int×Tok),w=partValue p/\p.map (·.1)=o:=λh=>by
  cases h with
  |none=>exact⟨none,rfl,rfl⟩
  |int i t=>exact⟨some (i,t),rfl,rfl⟩
 obtain⟨d,r,m1⟩:=part m;obtain⟨e,y,m2⟩:=part n;subst r y;refine wpAny_getItem_str_slice (l:=d) (u:=e) (st:=none) k rfl ?_
 have A:(slicePicked z d e none).filterMap (z.cps[·]?)=df z.cps.toList a b:=by
  unfold slicePicked;rw[m1,m2];exact wJ z a b
 have N:(df z.cps.toList a b).length<=z.length:=by
  have:=wH z.cps.toList a b;simpa[Str.length]using this
 unfold sliceMade;split
 .rename_i g
  have c:(slicePicked z d e none).length=z.length:=by
   simp only[Bool.and_eq_true,beq_iff_eq]at g;exact g.2
  have B:(⟨(df z.cps.toList a b).toArray⟩:Str)=z:=by
   unfold slicePicked at c;rw[m1,m2]at c;have c:(Builtin.Str.strSliceIndices a b 1 z.length).length=z.length:=c;rw[kC,List.length_map,List.length_range]at c;have O:=HT.qU z.length z.length (Nat.le_refl _) b;have f:z.cps.toList.length=z.length:=by simp[Str.length]
   have C:df z.cps.toList a b=z.cps.toList:=by
    unfold df;rw[f]
    by_cases D:z.length=0
    .have:z.cps.toList=[]:=List.eq_nil_of_length_eq_zero (by rw[f];exact D)
     rw[this];simp
    .have E:HT.gx z.length 0 a=0:=by omega
     rw[E,List.drop_zero,List.take_of_length_le (by rw[f];omega)]
   rw[C]
  refine⟨.str z,H,I,⟨t,rfl⟩,?_⟩;rw[B]at q;exact q
 .rw[A]
  refine⟨?_,.str _,H,I.tok _,⟨_,rfl⟩,q⟩
  show(df z.cps.toList a b).toArray.size<=sizeLine
  rw[List.size_toArray];omega
def FW(K:PySem.W.Frag):V->Option Int->Option Int->Hp->VK->Prop:=λx a b H Q=>FI K x a b H Q\/FV x a b H Q
end
noncomputable def kE(F:List D->Out Rs):Sp:=λg H Q _=>
 ∃Z e b d,(∀a,Z a->H a≠none)/\aU Z H e g/\F e=.ok (b,d)/\∀v c f,ew Z H f c->dW false b f H c d v->Q v c
theorem dW.weak{bw a:Bool}{Z:Addr->Prop}{c H:Hp}{d:D}{v:V}(h:dW false a Z c H d v):dW bw a Z c H d v:=by
 unfold dW at h ⊢;split
 .rename_i b;rw[if_pos b]at h;exact h
 .rename_i b;rw[if_neg b,if_neg Bool.false_ne_true]at h
  split
  .exact h.now
  .exact h
section
variable{X:Cx}{Γ:lO}{bw:Bool}{a b e:Expr}{es:List Expr}{ca cb cc c cs:Ex}{pos p:Pos}
structure FX(X:Cx)(k:Nat)(x:Str)(F:List D->Out Rs):Prop where
 ex:∃(f:Addr) (fd:FuncData) (ps:List Str),X.mg x=some (.ref f)/\PySem.W.keepIn X.K (.ref f)=true/\Binds X.K fd ps []/\cS X.prog X.w X.K X.mg X.base mu k f fd ps (kE F)
inductive ey (h:Heap):Value->Bool->Prop where
 |non:ey h .none false
 |bl (b:Bool):ey h (.bool b) b
 |int (i:Int) (t:Tok):ey h (.int i t) (i != 0)
 |str (x:Str) (t:Tok):x.length<=sizeLine->ey h (.str x t) ((x.length:Int) != 0)
 |lst {l:Addr}{its:Array Value}:h.IsList l its->its.size<=sizeLine->ey h (.ref l) (!its.isEmpty)
 |tup {l:Addr}{its:Array Value}:IsTup h l its->its.size<=sizeLine->ey h (.ref l) (!its.isEmpty)
theorem ey.keep{h h':Heap}{u:Value}{t:Bool}(k:∀b o,(u=.ref b)->h.get? b=some o->h'.get? b=some o)(x:ey h u t):ey h' u t:=by
 cases x with
 |non=>exact .non
 |bl=>exact .bl _
 |int i t=>exact .int i t
 |str x t z=>exact .str x t z
 |lst q z=>obtain⟨o,a,c⟩:=q;exact .lst ⟨o,k _ o rfl a,c⟩ z
 |tup q z=>obtain⟨o,a,c⟩:=q;exact .tup ⟨o,k _ o rfl a,c⟩ z
theorem ey.run{prog:Program}{w:World}{A:Around}{E:Value->Shared->Prop}{s:Shared}{u:Value}{t:Bool}{Q:Bool->Shared->Prop}(x:ey s.heap u t)(q:∀a,Q t {s with toks:=a}):wpAny (model prog w) A (truthy u) Q E s:=by
 have b:=fX;cases x with
 |non=>exact truthy_none (q s.toks)
 |bl=>exact wpAny_truthy_bool (q s.toks)
 |int i t=>exact PySem.P.truthy_int (q s.toks)
 |str x t z=>exact PySem.P.truthy_str (by omega) (q _)
 |lst h z=>exact wpAny_truthy_list h (by omega) (q _)
 |tup h z=>exact truthy_tuple h (by omega) (q _)
theorem wK{pins:List (Addr×Obj)}{w:L2.St}{H:Hp}{s:Shared}{Z:Addr->Prop}{d:D}{v:V}{u:Value}{t:Bool}(I:Inv X pins w H s)(n:Now Z H d v)(r:RelV v u)(h:jE d=some t):ey s.heap u t:=by
 cases d with
 |non=>cases fm n;cases r;cases h;exact .non
 |bl b=>cases hH n;cases r;cases h;exact .bl _
 |int b=>cases bA n;obtain⟨k,rfl⟩:=r;cases h;exact .int _ _
 |str b=>
  cases cT n;obtain⟨k,rfl⟩:=r;simp only[jE]at h;split at h
  .rename_i x
   cases h
   have e:((b.length:Int) != 0)=(b.length != 0):=by
    rw[Bool.eq_iff_iff];simp only[bne_iff_ne,ne_eq];omega
   rw[←e];exact .str b k (bE x)
  .cases h
 |lst f=>
  obtain⟨a,i,rfl,j,l⟩:=cU n;cases r;cases h;obtain⟨c,g,p,m⟩:=I.list (ky (K:=X.K) j)
  have e:(!f.isEmpty)=!c.toArray.isEmpty:=by
   have o:=l.length;have q:=g.length;cases f<;>cases i<;>cases c<;>simp at o q ⊢
  rw[e];exact .lst p.isList (by rw[List.size_toArray,←g.length];exact m)
 |tup f=>
  obtain⟨a,i,rfl,_,j,l⟩:=fo n;cases r;cases h;obtain⟨c,g,p,m⟩:=I.tuple (uV (K:=X.K) j)
  have e:(!f.isEmpty)=!c.toArray.isEmpty:=by
   have o:=l.length;have q:=g.length;cases f<;>cases i<;>cases c<;>simp at o q ⊢
  rw[e];exact .tup p (by rw[List.size_toArray,←g.length];exact m)
 |dct y f=>cases h
 |ref k=>cases h
section
variable{prog:Program}{w:World}{A:Around}{R:Result->Shared->Prop}{J:Addr}{fp wr:List Addr}{n:Nat}{P:Nat->Value->Prop}{T:Nat->Heap->Prop}
theorem wL(W:Walks prog w A.in1 J fp wr n P T)(f:Nat->Bool)(G:Heap->Prop)(B:∀h h':Heap,G h->(∀b o,b∉wr->h.get? b=some o->h'.get? b=some o)->G h')
  (C:∀i v (h:Heap),P i v->G h->ey h v (f i)):∀(m i:Nat) (s:Shared),n - i=m->i<=n->T i s.heap->G s.heap ->
  (∀h' c,(∀b o,b∉wr->s.heap.get? b=some o->h'.get? b=some o)->R (.ok (.ret (.bool (((List.range n).drop i).all f)))) {s with heap:=h',toks:=c}) ->
  codeAny (model prog w) A (.builtin "all.loop" ⟨[.ref J],[]⟩) R s:=by
 intro m
 induction m with
 |zero=>
  intro i s D E j g a;obtain rfl:i=n:=by omega
  refine codeAny_builtin PySem.F.entry_all_loop ?_;rw[Around.under_plainId PySem.F.plain_all_loop _];refine wpAny_bind (m:=pyNext (.ref J)) (W.done s _ _ j λh' c d=>wpAny_bind (wpAny_rule (wpAny_pure ?_)))
  have q:=a h' c d;rw[List.drop_of_length_le (by simp)]at q
  exact q
 |succ m H=>
  intro i s D E j g a;have k:i<n:=by omega
  have u:(List.range n).drop i=i::(List.range n).drop (i+1):=by
   rw[List.drop_eq_getElem_cons (by simpa using k)];simp
  refine codeAny_builtin PySem.F.entry_all_loop ?_;rw[Around.under_plainId PySem.F.plain_all_loop _];refine wpAny_bind (m:=pyNext (.ref J)) (W.item i s _ _ k j λv h' c I l d=>?_)
  have x:G h':=B _ _ g d;refine wpAny_bind (wpAny_holding ((C i v h' I x).run (s:={s with heap:=h',toks:=c}) λp=>?_))
  refine wpAny_bind (wpAny_letGo ?_);cases e:f i with
  |true=>
   simp only[if_true];refine wpAny_pure ⟨plainId_quiet PySem.F.plain_all_loop _,H (i+1) _ (by omega) k l x λK r t=>?_⟩
   have q:=a K r λb o y z=>t b o y (d b o y z)
   rw[u,List.all_cons,e,Bool.true_and]at q;exact q
  |false=>
   simp only[Bool.false_eq_true,if_false];refine wpAny_bind (wpAny_rule (wpAny_pure ?_));have q:=a h' p d;rw[u,List.all_cons,e,Bool.false_and]at q;exact q
theorem wM(W:Walks prog w A.in1 J fp wr n P T)(f:Nat->Bool)(G:Heap->Prop)(B:∀h h':Heap,G h->(∀b o,b∉wr->h.get? b=some o->h'.get? b=some o)->G h')
  (C:∀i v (h:Heap),P i v->G h->ey h v (f i)):∀(m i:Nat) (s:Shared),n - i=m->i<=n->T i s.heap->G s.heap ->
  (∀h' c,(∀b o,b∉wr->s.heap.get? b=some o->h'.get? b=some o)->R (.ok (.ret (.bool (((List.range n).drop i).any f)))) {s with heap:=h',toks:=c}) ->
  codeAny (model prog w) A (.builtin "any.loop" ⟨[.ref J],[]⟩) R s:=by
 intro m
 induction m with
 |zero=>
  intro i s D E j g a;obtain rfl:i=n:=by omega
  refine codeAny_builtin PySem.F.entry_any_loop ?_;rw[Around.under_plainId PySem.F.plain_any_loop _];refine wpAny_bind (m:=pyNext (.ref J)) (W.done s _ _ j λh' c d=>wpAny_bind (wpAny_rule (wpAny_pure ?_)))
  have q:=a h' c d;rw[List.drop_of_length_le (by simp)]at q
  exact q
 |succ m H=>
  intro i s D E j g a;have k:i<n:=by omega
  have u:(List.range n).drop i=i::(List.range n).drop (i+1):=by
   rw[List.drop_eq_getElem_cons (by simpa using k)];simp
  refine codeAny_builtin PySem.F.entry_any_loop ?_;rw[Around.under_plainId PySem.F.plain_any_loop _];refine wpAny_bind (m:=pyNext (.ref J)) (W.item i s _ _ k j λv h' c I l d=>?_)
  have x:G h':=B _ _ g d;refine wpAny_bind (wpAny_holding ((C i v h' I x).run (s:={s with heap:=h',toks:=c}) λp=>?_))
  refine wpAny_bind (wpAny_letGo ?_);cases e:f i with
  |false=>
   simp only[Bool.false_eq_true,if_false];refine wpAny_pure ⟨plainId_quiet PySem.F.plain_any_loop _,H (i+1) _ (by omega) k l x λK r t=>?_⟩
   have q:=a K r λb o y z=>t b o y (d b o y z)
   rw[u,List.any_cons,e,Bool.false_or]at q;exact q
  |true=>
   simp only[if_true];refine wpAny_bind (wpAny_rule (wpAny_pure ?_));have q:=a h' p d;rw[u,List.any_cons,e,Bool.true_or]at q;exact q
end
theorem nH:∀{ds:List D}{bs:List Bool},eV ds=some bs->bs.length=ds.length
 |[],_,h=>by cases h;rfl
 |d::ds,bs,h=>by
  simp only[eV]at h;split at h
  .rename_i b a h1 h2
   cases h;rw[List.length_cons,List.length_cons,nH h2]
  .cases h
theorem sV:∀{ds:List D}{bs:List Bool}{i:Nat}{d:D},eV ds=some bs->ds[i]?=some d->∃b,bs[i]?=some b/\jE d=some b
 |[],_,_,_,_,h=>by simp at h
 |d::ds,bs,i,j,h,a=>by
  simp only[eV]at h;split at h
  .rename_i b e h1 h2
   cases h;cases i with
   |zero=>simp at a;subst a;exact⟨b,rfl,h1⟩
   |succ i=>
    obtain⟨c,f,g⟩:=sV (i:=i) h2 (by simpa using a)
    exact⟨c,by simpa using f,g⟩
  .cases h
theorem all_range:∀(bs:List Bool),((List.range bs.length).all λi=>(bs[i]?).getD true)=bs.all id
 |[]=>rfl
 |b::bs=>by
  rw[List.length_cons,List.range_succ_eq_map,List.all_cons,List.all_map,List.all_cons,←all_range bs];rfl
theorem any_range:∀(bs:List Bool),((List.range bs.length).any λi=>(bs[i]?).getD false)=bs.any id
 |[]=>rfl
 |b::bs=>by
  rw[List.length_cons,List.range_succ_eq_map,List.any_cons,List.any_map,List.any_cons,←any_range bs];rfl
def Ln(K:PySem.W.Frag):List V->Hp->VK->Prop:=λb H Q=>∃Z a bs x,b=[x]/\Now Z H (.lst a) x/\eV a=some bs/\Q (.bl (bs.all id)) H
def Lo(K:PySem.W.Frag):List V->Hp->VK->Prop:=λb H Q=>∃Z a bs x,b=[x]/\Now Z H (.lst a) x/\eV a=some bs/\Q (.bl (bs.any id)) H
theorem wN{pins:List (Addr×Obj)}{j:L2.St}{H:Hp}{s:Shared}{Z:Addr->Prop}{ds:List D}{vs:List V}{a:List Value}{bs:List Bool}(I:Inv X pins j H s)(d:aU Z H ds vs)(e:Vals vs a)(k:eV ds=some bs)(dflt:Bool) :
  ∀(i:Nat) (v:Value),a.toArray[i]?=some v->ey s.heap v ((bs[i]?).getD dflt):=by
 intro i v c;have c:a[i]?=some v:=by simpa using c
 obtain⟨l,m⟩:=List.getElem?_eq_some_iff.mp c;obtain⟨x,n,f⟩:=nG e l;have r:=d.length;have t:=e.length;have g:ds[i]?=some ds[i]:=by simp[show i<ds.length by omega]
 obtain⟨y,h,o⟩:=d.get g;rw[n]at h;cases h
 obtain⟨b,p,q⟩:=sV k g;rw[p];rw[m]at f;exact wK I o.now f q
theorem wO(t:X.calm=true):dn X (.builtin "all") (Ln X.K):=by
 intro pins s G H J L Q I r h;obtain⟨Z,M,bs,x,rfl,w,j,q⟩:=h;obtain⟨u,rfl,y⟩:=vals1 r;obtain⟨l,N,rfl,B,k⟩:=cU w;cases y;obtain⟨a,n,p,O⟩:=I.list (ky (K:=X.K) B);have c:l<s.heap.objs.size:=by obtain⟨_,e,_⟩:=p.isList;exact Heap.lt_size e
 have C:=wN I k n j true;refine call_function_tree PySem.F.kind_all PySem.F.plain_all PySem.F.entry_all (PySem.F.args_all1 _) ?_;unfold Builtin.«all»;refine wpAny_bind (m:=oneArg "all" _) (wpAny_pure (wpAny_bind (wpAny_pyIter_list p.isList ?_)))
 refine wpAny_pure ⟨plainId_quiet PySem.F.plain_all_loop _,wL (Walks.list (A:=X.A.in1) (I.ok.hd t) s.heap.objs.size l (Nat.ne_of_lt c) a.toArray) (λi=>(bs[i]?).getD true)
  (λh=>∀b o,b≠s.heap.objs.size->s.heap.get? b=some o->h.get? b=some o) (λh h' g d b o f e=>d b o (by simpa using f) (g b o f e))
  (λi v h D g=>(C i v D).keep λb o e z=>g b o (Nat.ne_of_lt (Heap.lt_size z)) z) _ 0 _ rfl (Nat.zero_le _) ⟨⟨_,Heap.get?_push_size _ rfl,rfl,rfl⟩,p.isList.push _⟩ (λb o f e=>Heap.get?_push_of_some _ e) λh' E d=>?_⟩
 have e:((List.range a.toArray.size).drop 0).all (λi=>(bs[i]?).getD true)=bs.all id:=by
  rw[List.drop_zero,List.size_toArray,←n.length,k.length,←nH j];exact all_range bs
 rw[e]
 exact⟨.bl _,H,I.kept (h':=h') (t':=E) λb o z=>d b o (by
  have:=Nat.ne_of_lt (Heap.lt_size z);simpa using this) (Heap.get?_push_of_some _ z),rfl,q⟩
theorem wQ(t:X.calm=true):dn X (.builtin "any") (Lo X.K):=by
 intro pins s G H J L Q I r h;obtain⟨Z,M,bs,x,rfl,w,j,q⟩:=h;obtain⟨u,rfl,y⟩:=vals1 r;obtain⟨l,N,rfl,B,k⟩:=cU w;cases y;obtain⟨a,n,p,O⟩:=I.list (ky (K:=X.K) B);have c:l<s.heap.objs.size:=by obtain⟨_,e,_⟩:=p.isList;exact Heap.lt_size e
 have C:=wN I k n j false;refine call_function_tree PySem.F.kind_any PySem.F.plain_any PySem.F.entry_any (PySem.F.args_any1 _) ?_;unfold Builtin.«any»;refine wpAny_bind (m:=oneArg "any" _) (wpAny_pure (wpAny_bind (wpAny_pyIter_list p.isList ?_)))
 refine wpAny_pure ⟨plainId_quiet PySem.F.plain_any_loop _,wM (Walks.list (A:=X.A.in1) (I.ok.hd t) s.heap.objs.size l (Nat.ne_of_lt c) a.toArray) (λi=>(bs[i]?).getD false)
  (λh=>∀b o,b≠s.heap.objs.size->s.heap.get? b=some o->h.get? b=some o) (λh h' g d b o f e=>d b o (by simpa using f) (g b o f e))
  (λi v h D g=>(C i v D).keep λb o e z=>g b o (Nat.ne_of_lt (Heap.lt_size z)) z) _ 0 _ rfl (Nat.zero_le _) ⟨⟨_,Heap.get?_push_size _ rfl,rfl,rfl⟩,p.isList.push _⟩ (λb o f e=>Heap.get?_push_of_some _ e) λh' E d=>?_⟩
 have e:((List.range a.toArray.size).drop 0).any (λi=>(bs[i]?).getD false)=bs.any id:=by
  rw[List.drop_zero,List.size_toArray,←n.length,k.length,←nH j];exact any_range bs
 rw[e]
 exact⟨.bl _,H,I.kept (h':=h') (t':=E) λb o z=>d b o (by
  have:=Nat.ne_of_lt (Heap.lt_size z);simpa using this) (Heap.get?_push_of_some _ z),rfl,q⟩
end
section
variable{X:Cx}{Γ:lO}{bw:Bool}{a b e:Expr}{es:List Expr}{ca cb cc c cs:Ex}{pos p:Pos}
noncomputable def jQ.nm:jQ->Str
 |.len=>"len" |.all=>"all" |.any=>"any" |.sorted=>"sorted" |.list=>"list" |.tuple=>"tuple" |.int=>"int" |.min=>"min" |.max=>"max" |.bool=>"bool"
theorem jb{Z:Addr->Prop}{H:Hp}{d:D}{v:V}{Q:VK}(b:∀a,Z a->H a≠none)(k:∀v c e,ew Z H e c->dW bw false e H c d v->Q v c)(h:fM d=some v):Q v H:=
 k _ H Z (ew.refl b) (.rep (eW h))
noncomputable def Ty.nm:Ty->Str
 |.int=>"int" |.str=>"str" |.bool=>"bool" |.list=>"list" |.tuple=>"tuple" |.dict=>"dict"
noncomputable def Ty.id:Ty->String
 |.int=>"int" |.str=>"str" |.bool=>"bool" |.list=>"list" |.tuple=>"tuple" |.dict=>"dict"
theorem zJ(t:Ty):bootBuiltins t.nm=some (.type t.id):=by cases t<;>decide +kernel
theorem zK(K:PySem.W.Frag)(t:Ty):PySem.W.kitOne K (.type "NoneType") (.type t.id)=some false/\PySem.W.kitOne K (.type "bool") (.type t.id)=some (t==.bool||t==.int)/\PySem.W.kitOne K (.type "int") (.type t.id)=some (t==.int) /\
  PySem.W.kitOne K (.type "str") (.type t.id)=some (t==.str)/\PySem.W.kitOne K (.type "list") (.type t.id)=some (t==.list)/\PySem.W.kitOne K (.type "tuple") (.type t.id)=some (t==.tuple)/\PySem.W.kitOne K (.type "dict") (.type t.id)=some (t==.dict):=by
 cases t<;>refine⟨?_,?_,?_,?_,?_,?_,?_⟩<;>with_unfolding_all rfl
def FY(K:PySem.W.Frag):List V->Hp->VK->Prop:=λa H Q=>∃Z d x t b,a=[x,.ty (Ty.id t)]/\Now Z H d x/\wz d t=some b/\Q (.bl b) H
theorem pB{K:PySem.W.Frag}{H:Hp}{a:Addr}{vs:List V}{X:Cx}{pins:List (Addr×Obj)}{c:L2.St}{s:Shared}(I:Inv X pins c H s)(h:Rd H a (.tup vs)):∃o,s.heap.get? a=some o/\o.cls=.type "tuple":=by
 obtain⟨_,b,_,o,d,e,_⟩:vs.length<=sizeLine/\∃b:List Value,Vals vs b/\IsTup s.heap a b.toArray:=Rd.ok h I.hok;exact⟨o,d,e⟩
theorem wR:dn X (.builtin "isinstance") (FY X.K):=by
 intro pins s y H M N Q I r h;obtain⟨Z,d,x,t,b,rfl,f,i,q⟩:=h;obtain⟨u,A,rfl,j,B⟩:=vals2 r;cases (show A=Value.type (Ty.id t)from B)
 obtain⟨C,D,E,F,n,G,J⟩:=zK X.K t;have e:∀l,EP X pins y Q (.bool b) {s with toks:=l}:=λl=>⟨.bl b,H,I.tok l,rfl,q⟩
 cases d with
 |non=>cases fm f;cases i;exact dM I j .non C e
 |bl c=>cases hH f;cases i;exact dM I j (.bl c) D e
 |int c=>cases bA f;cases i;exact dM I j (.int c) E e
 |str c=>cases cT f;cases i;exact dM I j (.str c) F e
 |lst m=>
  obtain⟨a,p,rfl,g,w⟩:=cU f;cases i;rcases g with g|⟨o,g⟩
  .exact dM I j (.lst g) n e
  .exact dM I j (.dJ g) n e
 |tup m=>
  obtain⟨a,p,rfl,_,g,w⟩:=fo f;cases i;cases j;exact PySem.W.kia_one PySem.W.kitx_tuple I.iZ (pB (K:=X.K) I g) G (λz=>nomatch z) e
 |dct L m=>
  have f:Rep Z H (.dct L m) x:=f;simp only[Rep]at f;obtain⟨a,p,rfl,_,g,w⟩:=f;cases i;exact dM I j (.dK g) J e
 |ref k=>cases i
end
abbrev sW(a:List Expr)(env:Env):Sem Bool:=forIn a true λc r=>if r=true then do let ok ←isTrue c env (eval c env);pure (ForInStep.yield ok)else pure (ForInStep.yield r)
section
variable{prog:Program}{w:World}{A:Around}{R:Result->Shared->Prop}{s:Shared}
theorem uX{a e iter:Expr}{b:List Expr}{scope:Scope}{pos:Pos}{it c:Value}{env:Env}(J:Nat->Shared->Prop)
  (d:∀n s,J n s->wpAny (model prog w) A (pyNext it) (λr f=>match r with
   |none=>R (.ok .next) f
   |some v=>wpAny (model prog w) A (letOwnedTupleGo e it v) (λ_ j=>wpAny (model prog w) A (assign e env v) (λ_ k=>wpAny (model prog w) A (sW b env) (λok g=>
      if ok=true then wpAny (model prog w) A (eval a env) (λx l=>wpAny (model prog w) A (call (.builtin "list.append") [c,x]) (λ_ o=>∃m,m<n/\J m o) (λ_ _=>False) l) (λ_ _=>False) g
      else ∃m,m<n/\J m g) (λ_ _=>False) k) (λ_ _=>False) j) (λ_ _=>False) f) (λ_ _=>False) s)
  (n:Nat) (h:J n s):codeAny (model prog w) A (.compLoop (.ListComp a [⟨e,iter,b,0⟩] scope pos) 0 it c env) R s:=by
 refine codeAny_loop rfl J (λn s q=>?_) n h
 refine wpAny_noted (env:=env) (m:=compTurn (.ListComp a [⟨e,iter,b,0⟩] scope pos) 0 it c env) ?_;rw[compTurn_list];refine wpAny_bind (wpAny_standAt (wpAny_bind (wpAny_mono (d n s q) (λr f p=>?_) λ_ _ z=>z.elim)))
 cases r with
 |none=>exact wpAny_pure p
 |some v=>
  refine wpAny_bind (wpAny_mono p (λ_ j t=>wpAny_bind (wpAny_mono t (λ_ k u=>wpAny_bind (wpAny_mono u (λok g i=>?_) λ_ _ z=>z.elim)) λ_ _ z=>z.elim)) λ_ _ z=>z.elim)
  cases ok with
  |false=>exact wpAny_pure ⟨rfl,by simpa using i⟩
  |true=>
   rw[if_pos rfl]at i;refine wpAny_bind (wpAny_bind (wpAny_mono i (λx l y=>wpAny_bind (wpAny_mono y (λ_ o B=>?_) λ_ _ z=>z.elim)) λ_ _ z=>z.elim))
   exact wpAny_pure (wpAny_pure ⟨rfl,B⟩)
end
theorem rg{scope:Scope}{env:Env}(h:∀y∈scope.names,y.2=.free->∃c,env.cells.lookup y.1=some c) :
  ∃d,closureFor scope env=pure d/\(∀n c,(n,c)∈d->env.cells.lookup n=some c)/\∀y∈scope.names,y.2=.free->∃c,(y.1,c)∈d:=by
 have u:∀(l:List (Str×NameKind)) (b:List (Str×Addr)),(∀y∈l,y.2=.free->∃c,env.cells.lookup y.1=some c)->(∀n c,(n,c)∈b->env.cells.lookup n=some c) ->
   ∃d,(forIn l b λx r=>match x with | (name,kind)=>if (kind==NameKind.free)=true then do let a ←cellOf env name;pure (ForInStep.yield ((name,a)::r))else pure (ForInStep.yield r):Sem (List (Str×Addr)))=pure d /\
    (∀n c,(n,c)∈d->env.cells.lookup n=some c)/\(∀p∈b,p∈d)/\∀y∈l,y.2=.free->∃c,(y.1,c)∈d:=by
  intro l
  induction l with
  |nil=>intro b _ o;exact⟨b,rfl,o,λ_ w=>w,λ_ D=>absurd D (by simp)⟩
  |cons y l C=>
   intro b A o;obtain⟨n,k⟩:=y;cases g:(k==NameKind.free)with
   |false=>
    obtain⟨d,e,i,s,j⟩:=C b (λz hz=>A z (by simp[hz])) o
    refine⟨d,?_,i,s,λz hz f=>?_⟩
    .rw[List.forIn_cons]
     simp only[g,Bool.false_eq_true,if_false];exact e
    .rcases List.mem_cons.mp hz with rfl|hz
     .have:k=.free:=f
      rw[this]at g;exact absurd g (by decide)
     .exact j z hz f
   |true=>
    have B:k=.free:=by simpa using g
    obtain⟨c,t⟩:=A (n,k) (by simp) B
    obtain⟨d,e,i,s,j⟩:=C ((n,c)::b) (λz hz=>A z (by simp[hz])) (λE F G=>by
     rcases List.mem_cons.mp G with q|q
     .cases q;exact t
     .exact o E F q)
    refine⟨d,?_,i,λp w=>s p (by simp[w]),λz hz f=>?_⟩
    .rw[List.forIn_cons]
     simp only[g,if_true]
     have:cellOf env n=pure c:=by
      have t:env.cells.lookup n=some c:=t;unfold cellOf;rw[t]
     rw[this];exact e
    .rcases List.mem_cons.mp hz with rfl|hz
     .exact⟨c,s _ (by simp)⟩
     .exact j z hz f
 obtain⟨d,e,i,_,j⟩:=u scope.names [] h (λ_ _ z=>absurd z (by simp))
 refine⟨d,?_,i,j⟩;unfold closureFor;have H:=congrArg (λm:Sem (List (Str×Addr))=>m >>= λr=>pure r) e
 exact H
noncomputable def blk(X:Cx)(scope:Scope)(a:List (Str×Addr))(C:Addr)(N:List Str)(s₀:Shared)(H₀:Hp)(fp:List Addr):Cx:=
 {X with N:=N,s₀:=s₀,H₀:=H₀,env:=compEnvC scope a C X.env,outer:=X.stack,stack:=X.stack,ex:=fp,fn:=λ_=>false,pn:=[],xe:=λ_ _=>False}
theorem lookup_mem{a b:Type}[BEq a][LawfulBEq a]:∀{l:List (a×b)}{x:a}{v:b},l.lookup x=some v->(x,v)∈l
 |[],_,_,h=>by simp at h
 | (n,k)::r,x,v,h=>by
  rw[List.lookup_cons]at h;cases e:x==n with
  |true=>rw[e]at h;cases h;rw[eq_of_beq e];simp
  |false=>rw[e]at h;exact List.mem_cons_of_mem _ (lookup_mem h)
theorem mem_lookup{a b:Type}[BEq a][LawfulBEq a]:∀{l:List (a×b)}{x:a}{v:b},(x,v)∈l->∃u,l.lookup x=some u
 |[],_,_,h=>by simp at h
 | (n,k)::r,x,v,h=>by
  rw[List.lookup_cons];cases e:x==n with
  |true=>exact⟨k,rfl⟩
  |false=>
   rcases List.mem_cons.mp h with q|q
   .cases q;simp at e
   .exact mem_lookup q
theorem ez{env:Env}:∀(names:List (Str×NameKind)) (x:Str),(names.map λ(n,k)=>if (k==NameKind.free&&env.scope.kind==.function&&env.kindOf n==some .cell)then (n,NameKind.cell)else (n,k)).lookup x =
  (names.lookup x).map λk=>if (k==NameKind.free&&env.scope.kind==.function&&env.kindOf x==some .cell)then NameKind.cell else k
 |[],_=>rfl
 | (n,k)::r,x=>by
  have c:=ez (env:=env) r x
  show List.lookup x ((if (k==NameKind.free&&env.scope.kind==.function&&env.kindOf n==some .cell)=true then (n,NameKind.cell)else (n,k))::_)=_
  cases b:x==n with
  |true=>
   obtain rfl:x=n:=eq_of_beq b
   by_cases a:(k==NameKind.free&&env.scope.kind==.function&&env.kindOf x==some .cell)=true
   .rw[if_pos a,List.lookup_cons,List.lookup_cons]
    simp only[b,Option.map_some,if_pos a]
   .rw[if_neg a,List.lookup_cons,List.lookup_cons]
    simp only[b,Option.map_some,if_neg a]
  |false=>
   by_cases a:(k==NameKind.free&&env.scope.kind==.function&&env.kindOf n==some .cell)=true
   .rw[if_pos a,List.lookup_cons,List.lookup_cons]
    simp only[b];exact c
   .rw[if_neg a,List.lookup_cons,List.lookup_cons]
    simp only[b];exact c
structure jq(X:Cx)(scope:Scope)(tn cn:List Str)(cap:List Nat):Prop where
 kind:scope.kind=.function
 cell:∀y∈scope.names,y.2≠.cell
 names:∀y∈scope.names,y.2=.local->scope.names.lookup y.1=some .local
 free:∀y∈scope.names,y.2=.free->X.env.kindOf y.1=some .cell\/X.env.kindOf y.1=some .free
 len:cn.length=cap.length
 at':∀(j i:Nat) (x:Str),cn[j]?=some x->cap[j]?=some i->X.N[i]?=some x/\scope.names.lookup x=some .free
noncomputable def pC(cap:List Nat)(a:L2.St):L2.St:=cap.map λi=>(a[i]?).join
def fO(a:Nat)(cap:List Nat)(b:L2.St):L2.St:=List.replicate a none++pC cap b
section
variable{X:Cx}{scope:Scope}{tn cn:List Str}{cap:List Nat}
theorem uY{pins:List (Addr×Obj)}{j:L2.St}{H:Hp}{s:Shared}{fp:List Addr}{D:List (Str×Addr)}{J:Heap}{tk:Nat}{m:Str->Option Value}(B:jq X scope tn cn cap)
  (I:Inv X pins j H s) (K:∀b∈fp,lL X pins H b) (N:∀b∈fp,∃o,s.heap.get? b=some o) (w:∀n c,(n,c)∈D->X.env.cells.lookup n=some c) (c2:∀y∈scope.names,y.2=.free->∃c,(y.1,c)∈D)
  (L:∀b o,s.heap.get? b=some o->J.get? b=some o) (r:∃n,J.get? s.heap.objs.size=some {cls:=.type "list",data:=.seq ([]:List Value).toArray n}) (ns:J.Ns (s.heap.objs.size+1) m) :
  Inv (blk X scope D (s.heap.objs.size+1) (tn++cn) s H fp) [] (fO tn.length cap j) (upd H s.heap.objs.size (.lst [])) {s with heap:=J,toks:=tk}:=by
 have O:∀b o,s.heap.get? b=some o->b≠s.heap.objs.size+1:=λb o e=>Nat.ne_of_lt (Nat.lt_succ_of_lt (Heap.lt_size e))
 have P:∀b o,s.heap.get? b=some o->b≠s.heap.objs.size:=λb o e=>Nat.ne_of_lt (Heap.lt_size e)
 have cell:∀x c,D.lookup x=some c->∃v,s.heap.IsCell c v:=λx c e=>I.cell x c (w x c (lookup_mem e))
 have Q:∀x c,D.lookup x=some c->c≠s.heap.objs.size+1/\c≠s.heap.objs.size:=λx c e=>by
  obtain⟨v,o,A,_⟩:=cell x c e;exact⟨O c o A,P c o A⟩
 have R:∀b∈fp,b<s.heap.objs.size:=λb g=>let ⟨o,e⟩:=N b g;Heap.lt_size e
 have fr:=I.hok.fresh (Nat.le_refl s.heap.objs.size);obtain⟨nd,r⟩:=r
 refine⟨⟨I.ok.mod,B.kind,I.ok.glob,I.ok.blt,Nat.le_succ _,λx y c C a=>?_,λx f=>?_,λx c e _=>absurd (show false=true from e) Bool.false_ne_true,I.ok.hd,I.ok.frames,.inl rfl,λb g=>⟨?_,λx c e z=>?_⟩,λb o e=>I.bs b o e,Nat.le_trans I.ok.BN I.sz,λb o e g=>?_,λb g S=>?_,I.stack,I.sH⟩,
  rfl,I.bare,?_,⟨m,ns,λi x v C a e3=>?_⟩,λx c e=>?_,?_,λx c e=>?_,λp hp=>absurd (show p∈([]:List (Addr×Obj))from hp) (by simp),?_,?_⟩
 .exact I.ok.inj x y c (w x c (lookup_mem C)) (w y c (lookup_mem a))
 .have f:(relabel scope X.env).names.lookup x=some .cell\/(relabel scope X.env).names.lookup x=some .free:=f
  unfold relabel at f;simp only[ez]at f;cases q:scope.names.lookup x with
  |none=>rw[q]at f;simp at f
  |some k=>
   rw[q]at f;have hm:=lookup_mem q
   have h:k=.free:=by
    by_cases h:k=.free
    .exact h
    .have T:(k==NameKind.free)=false:=by simpa using h
     rw[Option.map_some]at f;simp only[T,Bool.false_and,Bool.false_eq_true,if_false,Option.some.injEq]at f;rcases f with z|z
     .exact absurd z (B.cell _ hm)
     .exact z
   obtain⟨c,U⟩:=c2 _ hm h;exact mem_lookup U
 .exact Nat.ne_of_lt (Nat.lt_succ_of_lt (R b g))
 .exact(K b g).2.2.2.2.1 x c (w x c (lookup_mem e)) z
 .rcases(K b g).2.2.2.1 with z|z
  .exact I.ok.vO b o e z
  .exact absurd (Nat.lt_of_lt_of_le (Heap.lt_size (I.ok.bs b o e).1) z) (Nat.lt_irrefl _)
 .rcases List.mem_cons.mp (I.qH b S)with z|z
  .exact(K b g).2.1 z
  .exact(K b g).2.2.1 z
 .exact Un.laid L (Nat.le_refl _) fr
 .have E:i<tn.length->False:=λF=>by
   have:(fO tn.length cap j)[i]?=some none:=by
    unfold fO;rw[List.getElem?_append_left (by simpa using F),List.getElem?_replicate,if_pos F]
   rw[this]at a;cases a
  have F:tn.length<=i:=Nat.le_of_not_lt E;have C:(tn++cn)[i]?=some x:=C;rw[List.getElem?_append_right F]at C
  have d:(pC cap j)[i - tn.length]?=some (some v):=by
   unfold fO at a;rw[List.getElem?_append_right (by simpa using F)]at a
   simpa using a
  unfold pC at d;rw[List.getElem?_map]at d;cases q:cap[i - tn.length]? with
  |none=>rw[q]at d;cases d
  |some M=>
   rw[q]at d;have a:(j[M]?).join=some v:=by simpa using d
   have e4:j[M]?=some (some v):=by
    cases q2:j[M]? with
    |none=>rw[q2]at a;cases a
    |some z=>rw[q2]at a;cases z with
     |none=>cases a
     |some z=>cases a;rfl
   obtain⟨hN,t⟩:=B.at' _ _ _ C q;have h:=B.free _ (lookup_mem t) rfl;have h:X.env.kindOf x=some .cell\/X.env.kindOf x=some .free:=h
   have G:EK X.env.scope x:=by
    rcases h with z|z
    .exact .inr (.inl z)
    .exact .inr (.inr z)
   obtain⟨m0,b0,V⟩:=I.loc;obtain⟨u,ru,Y⟩:=V M x v hN e4 G;refine⟨u,ru,.inr ⟨?_,?_⟩⟩
   .show(relabel scope X.env).names.lookup x=some .cell\/(relabel scope X.env).names.lookup x=some .free
    unfold relabel;simp only[ez,t,Option.map_some];split
    .exact .inl rfl
    .exact .inr rfl
   .have Y:∃c,X.env.cells.lookup x=some c/\s.heap.IsCell c (some u):=by
     rcases Y with ⟨z,_⟩|⟨_,z⟩
     .rcases h with y|y<;>rw[y]at z<;>cases z
     .exact z
    obtain⟨c,U,Z⟩:=Y;obtain⟨c',a0⟩:=c2 _ (lookup_mem t) rfl;obtain⟨c0,l⟩:=mem_lookup a0;have:=w _ _ (lookup_mem l);rw[U]at this;cases this
    obtain⟨o,A,r⟩:=Z;exact⟨c,l,o,L _ _ A,r⟩
 .obtain⟨v,o,A,r⟩:=cell x c e
  exact⟨v,o,L _ _ A,r⟩
 .show upd H s.heap.objs.size (.lst []) (s.heap.objs.size+1)=none
  rw[aE (Nat.succ_ne_self _)];exact I.hok.fresh (Nat.le_succ _)
 .refine⟨?_,λhz=>absurd (show false=true from hz) Bool.false_ne_true⟩
  rw[aE (Q x c e).2];exact(I.fT x c (w x c (lookup_mem e))).1
 .refine I.hok.laid L (Nat.le_refl _) ⟨Nat.zero_le _,[],nd,.nil,r⟩
 .show(fO tn.length cap j).length=(tn++cn).length
  unfold fO pC;rw[List.length_append,List.length_append,List.length_replicate,List.length_map,B.len]
def zL(X:Cx)(a:List Expr)(t:TT):Prop:=∀(pins:List (Addr×Obj)) (s:Shared) (b:L2.St) (H:Hp) (Q:Bool->Hp->Prop),Inv X pins b H s->t b H Q->wpAny (model X.prog X.w) X.A (sW a X.env) (TP X pins b Q) X.xe s
theorem zM:zL X [] (λ_ H Q=>Q true H):=λpins s a H Q I h=>wpAny_pure ⟨H,I,h⟩
theorem zN{c:Expr}{t:TT}(h:PT X c t):zL X [c] t:=λpins s a H Q I q=>wpAny_tests_one (h pins s a H Q I q)
def my(n:TI)(o:Nat)(cap:List Nat)(g:TG)(p:TT)(q:TE):TE:=λf H Q=>n f H λJ h=>∀D,h D=none->∃W:Nat->Nat->List V->Hp->Prop,(∃m,W 0 m [] (upd h D (.lst []))) /\
 ∀i m a c,W i m a c->c D=some (.lst a)/\((J.stop i c/\Q (.ref D) c)\/(J.go i c/\a.length<sizeLine/\∀x j,J.Ji i c x j->g x (fO o cap f) j λd r=>p d r λb k=>
  if b=true then q d k λy l=>l D=some (.lst a)/\∃e,e<m/\W (i+1) e (a++[y]) (upd l D (.lst (a++[y])))else ∃e,e<m/\W (i+1) e a k))
theorem mz{tg iter L:Expr}{M:List Expr}{pos Y:Pos}{wi:TI}{g:TG}{tc:TT}{te:TE}{use:Option (Value->Sem Unit)}{Q':Value->Shared->Prop}{Q:VK}{pins:List (Addr×Obj)}{d:L2.St}{H:Hp}{s:Shared}
  (hc:X.calm=true) (B:jq X scope tn cn cap) (hi:PI X tg iter wi) (hs:∀x,foldedSetIterable iter X.env x=pure x)
  (j0:∀v d H Q,g v d H Q->g v d H λN f=>Q N f/\N.length=d.length/\∀j,tn.length<=j->N[j]?=d[j]?)
  (a:∀k C l t fp,PG (blk X scope k C (tn++cn) l t fp) tg g/\zL (blk X scope k C (tn++cn) l t fp) M tc/\PE (blk X scope k C (tn++cn) l t fp) L te)
  (k0:∀(U:Shared) (f:Hp) (C D:Addr) (m:Str->Option Value),Inv X pins d f U->U.heap.Ns C m->f C=none->C≠X.env.locals->X.s₀.heap.objs.size<=C->(∀x c,X.env.cells.lookup x=some c->c≠C)->(∀p∈X.pn++pins,p.1≠C)->Q (.ref D) f ->
   compPost (model X.prog X.w) X.A X.xe use Q' (.ref D) C (.ok .next) U)
  (I:Inv X pins d H s) (h:my wi tn.length cap g tc te d H Q) :
  wpAny (model X.prog X.w) X.A (comprehension (.ListComp L [⟨tg,iter,M,0⟩] scope pos) scope X.env Y (newList []) false (eval iter X.env) use) Q' X.xe s:=by
 have l0:∀y∈scope.names,y.2=.free->∃c,X.env.cells.lookup y.1=some c:=λy hy hk=>I.ok.has y.1 (B.free y hy hk)
 obtain⟨k,o0,c1,c2⟩:=rg l0;refine wpAny_comprehension_free (use:=use) rfl hs o0 B.kind B.names ?_;refine bZ (hi pins s d H _ I h) λv s1 O=>bZ O λu0 s2 h2=>?_
 obtain⟨it,fp,P,J,E,e,R,T,Z,f2,h⟩:=h2;subst e;have fr:=R.hok.fresh (Nat.le_refl s2.heap.objs.size);obtain⟨W,⟨m0,w0⟩,a0⟩:=h s2.heap.objs.size fr;refine wpAny_newObj_type (wpAny_newFunctionEnv B.cell (λy hy=>absurd hy (by simp)) (λO ns sb=>?_) B.kind)
 have p0:(s2.heap.push {cls:=.type "list",dict:=none,data:=.seq ([]:List Value).toArray}).objs.size=s2.heap.objs.size+1:=Heap.size_push _ _;dsimp only at ns sb ⊢;rw[p0]at ns sb ⊢;have kp:∀b o,s2.heap.get? b=some o->O.get? b=some o:=λb o e=>sb.extBut b o (Nat.ne_of_lt (Nat.lt_succ_of_lt (Heap.lt_size e))) (Heap.get?_push_of_some _ (Heap.get?_push_of_some _ e))
 have hD:∃n,O.get? s2.heap.objs.size=some {cls:=.type "list",data:=.seq ([]:List Value).toArray n}:=⟨0,sb.extBut _ _ (Nat.ne_of_lt (Nat.lt_succ_self _)) (Heap.get?_push_of_some _ (Heap.get?_push_size _ rfl))⟩;have b0:∀b∈fp,∃o,s2.heap.get? b=some o:=λb a=>let ⟨o,e,_⟩:=T.obj 0 _ Z b a;⟨o,e⟩
 have I4:Inv (blk X scope k (s2.heap.objs.size+1) (tn++cn) s2 E fp) [] (fO tn.length cap d) (upd E s2.heap.objs.size (.lst [])) {s2 with heap:=O,toks:=s2.toks+([]:List (Str×Value)).length}:=
  uY B R f2 b0 c1 c2 kp hD ns
 obtain⟨hg,ht,he⟩:=a k (s2.heap.objs.size+1) s2 E fp;have c0:P 0 O:=T.keep 0 _ _ Z λb a o e=>kp b o e
 have q0:∀b∈fp,upd E s2.heap.objs.size (.lst []) b=none:=λb a=>by
  obtain⟨o,e⟩:=b0 b a;rw[aE (Nat.ne_of_lt (Heap.lt_size e))];exact(f2 b a).1
 have F:∀{f:Hp}{pl:List (Addr×Obj)},(∀b∈fp,f b=none)->∀b∈fp,lL (blk X scope k (s2.heap.objs.size+1) (tn++cn) s2 E fp) [] f b:=λhn b a=>
  ⟨hn b a,(I4.ok.Jg b a).1,I4.ok.vP b a,.inl a,(I4.ok.Jg b a).2,λp hp=>absurd (show p∈([]:List (Addr×Obj))from hp) (by simp)⟩
 have K:codeAny (model X.prog X.w) X.A (.compLoop (.ListComp L [⟨tg,iter,M,0⟩] scope pos) 0 (.ref it) (.ref s2.heap.objs.size) (compEnvC scope k (s2.heap.objs.size+1) X.env))
   (compPost (model X.prog X.w) X.A X.xe use Q' (.ref s2.heap.objs.size) (s2.heap.objs.size+1)) {s2 with heap:=O,toks:=s2.toks+([]:List (Str×Value)).length}:=by
  refine uX (λn U=>∃i S f,Inv (blk X scope k (s2.heap.objs.size+1) (tn++cn) s2 E fp) [] (fO tn.length cap d) f U/\P i U.heap/\(∀b∈fp,f b=none)/\W i n S f) ?_ m0 ⟨0,[],_,I4,c0,q0,w0⟩
  rintro n s5 ⟨i,S,H5,I5,e0,g0,w5⟩;obtain⟨v0,r0⟩:=a0 i n S H5 w5;rcases r0 with ⟨stop,qn⟩|⟨go,h0,step⟩
  .refine bZ (T.done (blk X scope k (s2.heap.objs.size+1) (tn++cn) s2 E fp) rfl rfl rfl hc i [] s5 _ H5 _ I5 (F (pl:=[]) g0) e0 stop) λr s6 ⟨hr,V⟩=>?_
   subst hr;obtain⟨mC,nC,_⟩:=V.loc
   have I7:Inv X pins d H5 s6:=by
    refine R.call' V.os V.base V.hok V.bare λb a=>?_
    obtain⟨f0,f1,f3,f4,f5,f6⟩:=f2 b a;exact⟨f4,f1,f5,f6⟩
   have hC:s2.heap.objs.size<=s2.heap.objs.size+1:=Nat.le_succ _;refine k0 s6 H5 (s2.heap.objs.size+1) s2.heap.objs.size mC I7 nC V.free (Nat.ne_of_gt (Nat.lt_of_lt_of_le R.lt hC)) (Nat.le_trans R.sz hC) (λx c e z=>?_) (λp hp z=>?_) qn
   .obtain⟨v,q⟩:=R.cell x c e
    exact absurd (Nat.lt_of_lt_of_le q.lt (by rw[z];exact hC)) (Nat.lt_irrefl _)
   .exact absurd (Nat.lt_of_lt_of_le (Heap.lt_size (R.pin p hp).1) (by rw[z];exact hC)) (Nat.lt_irrefl _)
  .refine bZ (T.item (blk X scope k (s2.heap.objs.size+1) (tn++cn) s2 E fp) rfl rfl rfl hc i [] s5 _ H5 _ I5 (F (pl:=[]) g0) e0 go) λr s6 ⟨u,hr,h6⟩=>?_
   subst hr;refine bZ h6 λ_ s7 ⟨x,H7,I7,r7,y7,Lp,SW⟩=>?_
   have s0:=I7.pinned (F (pl:=[]) SW) (T.obj _ _ Lp);refine bZ (hg _ s7 _ H7 x u _ s0 r7 (j0 _ _ _ _ (step x H7 y7))) λ_ s8 ⟨G,H8,I8,q8,l8,k8⟩=>?_
   refine bZ (ht _ s8 G H8 _ I8 q8) λok s9 ⟨H9,I9,q9⟩=>?_
   have again:∀{sA:Shared}{HA:Hp},Inv (blk X scope k (s2.heap.objs.size+1) (tn++cn) s2 E fp) ([]++kf fp s7.heap) G HA sA->Inv (blk X scope k (s2.heap.objs.size+1) (tn++cn) s2 E fp) [] (fO tn.length cap d) HA sA/\P (i+1) sA.heap/\∀b∈fp,HA b=none:=λ{sA HA} IA=>by
    refine⟨(IA.il (pins:=[])).weak l8.symm λj v hj=>?_,T.keep _ _ _ Lp λb a o e=>(IA.pin (b,o) (List.mem_append_right _ (List.mem_append_right _ (fj a e)))).1,λb a=>?_⟩
    .have t0:tn.length<=j:=by
      refine Nat.le_of_not_lt λi0=>?_
      have:(fO tn.length cap d)[j]?=some none:=by
       unfold fO;rw[List.getElem?_append_left (by simpa using i0),List.getElem?_replicate,if_pos i0]
      rw[this]at hj;cases hj
     rw[k8 j t0];exact hj
    .obtain⟨o,e,_⟩:=T.obj _ _ Lp b a
     exact(IA.pin (b,o) (List.mem_append_right _ (List.mem_append_right _ (fj a e)))).2.1
   cases ok with
   |false=>
    rw[if_neg Bool.false_ne_true]at q9 ⊢;obtain⟨m',hm,w'⟩:=q9;obtain⟨a1,a2,a3⟩:=again I9;exact⟨m',hm,i+1,S,H9,a1,a2,a3,w'⟩
   |true=>
    rw[if_pos rfl]at q9 ⊢;refine bZ (he _ s9 G H9 _ I9 q9) λy sB ⟨v,HB,IB,rB,SX,m',hm,w'⟩=>?_
    have hx:=mj (X:=blk X scope k (s2.heap.objs.size+1) (tn++cn) s2 E fp) _ sB G HB (.ref s2.heap.objs.size) [v] (.ref s2.heap.objs.size) [y] (λ_ f=>f=upd HB s2.heap.objs.size (.lst (S++[v]))) IB rfl (.cons rB .nil)
     ⟨s2.heap.objs.size,S,v,rfl,rfl,SX,h0,rfl⟩
    refine bZ hx λ_ sC ⟨_,HC,IC,_,eC⟩=>?_
    subst eC;obtain⟨a1,a2,a3⟩:=again IC;exact⟨m',hm,i+1,S++[v],_,a1,a2,a3,w'⟩
 exact codeAny_compStart_list K (T.self X.A 0 _ _ _ c0 K)
theorem zO{l iter f:Expr}{i:List Expr}{pos:Pos}{t:TI}{g:TG}{u:TT}{w:TE}(y:X.calm=true)(B:jq X scope tn cn cap)(z:PI X l iter t)(A:∀x,foldedSetIterable iter X.env x=pure x)
  (n:∀v k H Q,g v k H Q->g v k H λd p=>Q d p/\d.length=k.length/\∀j,tn.length<=j->d[j]?=k[j]?)
  (E:∀r C a c fp,PG (blk X scope r C (tn++cn) a c fp) l g/\zL (blk X scope r C (tn++cn) a c fp) i u/\PE (blk X scope r C (tn++cn) a c fp) f w) :
  PE X (.ListComp f [⟨l,iter,i,0⟩] scope pos) (my t tn.length cap g u w):=by
 intro pins s k H Q I h;rw[eval_ListComp];refine mz (use:=none) y B z A n E (λF p C D m G J K L M N O q=>⟨m,J,λS P=>?_⟩) I h
 exact⟨.ref D,p,G.turned (it:=C) (t':=F.toks) (λb o R e=>P.extBut b o R e) K L (.inr M) N O,rfl,q⟩
theorem rh{r iter k:Expr}{l:List Expr}{pos c n:Pos}{O:TI}{g:TG}{P:TT}{R:TE}{i:Nat}{x:Str}(Y:X.N.Nodup)(u:X.N[i]?=some x)(S:X.env.scope.names.lookup x=some .local)
  (y:swapsWith (.ListComp k [⟨r,iter,l,0⟩] scope pos) (some (.Name x c)) n.line X.env=pure true) (Z:X.calm=true) (B:jq X scope tn cn cap) (hi:PI X r iter O) (hs:∀x,foldedSetIterable iter X.env x=pure x)
  (E:∀v t H Q,g v t H Q->g v t H λp F=>Q p F/\p.length=t.length/\∀j,tn.length<=j->p[j]?=t[j]?)
  (hb:∀G C d f fp,PG (blk X scope G C (tn++cn) d f fp) r g/\zL (blk X scope G C (tn++cn) d f fp) l P/\PE (blk X scope G C (tn++cn) d f fp) k R) :
  PS X (.Assign [.Name x c] (.ListComp k [⟨r,iter,l,0⟩] scope pos) n) (CN (my O tn.length cap g P R) (gT i)):=by
 intro pins s t H D I h;rw[exec_Assign_Name_used _ _ _ _ y];refine wpAny_bind (wpAny_standAt (wpAny_bind ?_));refine wpAny_bind (m:=comprehension (.ListComp k [⟨r,iter,l,0⟩] scope pos) scope X.env _ (newList []) false (eval iter X.env) (some (assign (.Name x c) X.env))) ?_;refine mz (use:=some (assign (.Name x c) X.env)) (Q':=λ_ J=>wpAny (model X.prog X.w) X.A (pure ()) (λ_ K=>wpAny (model X.prog X.w) X.A (pure Flow.next) (SP X pins D) X.xe K) X.xe J) Z B hi hs E hb (λJ F C T m I' ns h1 U h3 V h5 q=>?_) I h
 show wpAny (model X.prog X.w) X.A (assign (.Name x c) X.env (.ref T)) _ _ J
 refine wpAny_assign_Name (lW I' Y u (.inl S) (v:=.ref T) rfl (λs2 I2 ch=>?_) (.inr S))
 obtain⟨a,sb,ha⟩:=ch
 have L:C≠a:=by
  rcases ha with rfl|ha
  .exact U
  .exact λz=>V _ _ ha z.symm
 refine⟨m,ns.sameBut sb L,λh' M=>wpAny_pure (wpAny_pure ?_)⟩
 exact⟨_,F,I2.turned (it:=C) (t':=s2.toks) (λb o nb e=>M.extBut b o nb e) h1 U (.inr h3) V h5,q⟩
end
theorem PI.imp{X:Cx}{b e:Expr}{t t':TI}(h:PI X b e t)(i:∀a H R,t' a H R->t a H R):PI X b e t':=λpins s a H R I q=>h pins s a H R I (i a H R q)
section
variable{Z:Addr->Prop}{H:Hp}
theorem kF:∀(n:Nat) (a:Int),(intsFrom a n).length=n
 |0,_=>rfl
 |n+1,a=>by rw[intsFrom,List.length_cons,kF n]
theorem ints_get:∀(n:Nat) (a:Int) (i:Nat) (d:D),(intsFrom a n)[i]?=some d->d=.int (a+i)
 |0,_,_,_,h=>by simp[intsFrom]at h
 |n+1,a,0,d,h=>by simp[intsFrom]at h;subst h;simp
 |n+1,a,i+1,d,h=>by
  simp only[intsFrom,List.getElem?_cons_succ]at h;rw[ints_get n (a+1) i d h]
  congr 1
  omega
noncomputable def QJ(x:Str):It:=⟨λi _=>i<x.cps.size,λi H v a=>a=H/\∃c,x.cps[i]?=some c/\v=.str ⟨#[c]⟩,λi _=>x.cps.size<=i⟩
end
theorem wU{P:Program}{w:World}{K:PySem.W.Frag}{U:Expr}(it:Addr)(x:Str)(t:Tok)(j:String)(f:j="str_ascii_iterator"\/j="str_iterator"):Turn P w K U (QJ x) [it] it (λi h=>h.IsStrIter it j x t i) where
 mem:=by simp
 obj:=λi h a b g=>by
  obtain rfl:b=it:=by simpa using g
  obtain⟨o,e,c,d⟩:=a;exact⟨o,e,λv z=>by rw[d]at z;cases z⟩
 keep:=λi h l a k=>let ⟨o,e,r⟩:=a;⟨o,k it (by simp) o e,r⟩
 item:=by
  intro X J L M m i pins s R H E I y a N;subst J L M;obtain⟨B,C,V,D,F,G⟩:=y it (by simp)
  have W:Walks X.prog X.w X.A it [it] [it] x.cps.size (SignAt x) (λi h=>h.IsStrIter it j x t i):=by
   rcases f with rfl|rfl
   .exact Walks.strAscii (I.ok.hd m) it x t
   .exact Walks.strWide (I.ok.hd m) it x t
  refine W.item i s _ _ N a λv l S Y p Z=>?_
  obtain⟨c,u,hx,rfl⟩:=Y;have I1:Inv X pins R H {s with heap:=l,toks:=S}:=I.turned (λb o g e=>Z b o (by simpa using g) e) B C D F G
  obtain⟨o,e,q,d⟩:=id p;refine⟨_,rfl,lX (s:={s with heap:=l,toks:=S}) (n:=j) e q d (by rcases f with rfl|rfl<;>decide) ⟨.str ⟨#[c]⟩,H,I1,⟨u,rfl⟩,⟨rfl,c,hx,rfl⟩,p,λb g=>(y b g).1⟩⟩
 done:=by
  intro X J L M m i pins s R H E I y a N;subst J L M;obtain⟨B,C,V,D,F,G⟩:=y it (by simp)
  have T:x.cps.size<=i:=N;rcases f with rfl|rfl
  .exact wpAny_pyNext_ascii_end (I.ok.hd m) a (by simp[T]) λl O=>⟨rfl,I.turned (t':=s.toks) (λb o g e=>O b o g e) B C D F G⟩
  .exact wpAny_pyNext_wide_end (I.ok.hd m) a (by simp[T]) λl O=>⟨rfl,I.turned (t':=s.toks) (λb o g e=>O b o g e) B C D F G⟩
 self:=λA i s Q E a h=>by
  rcases f with rfl|rfl
  .exact wpAny_pyIter_striter_ascii a h
  .exact wpAny_pyIter_striter_wide a h
section
variable{X:Cx}{Γ:lO}{bw:Bool}{tg e:Expr}{c cs:Ex}{pos p:Pos}
end
section
variable{X:Cx}{Γ:lO}{bw:Bool}{tg iter elt:Expr}{ifs:List Expr}{scope:Scope}{tn cn:List Str}{cap:List Nat}{SY cc Vh:Ex}{pos:Pos}{n:Nat}
theorem jr(n:Nat)(d:0<n):∀v b H Q,gT 0 v b H Q->gT 0 v b H λa c=>Q a c/\a.length=b.length/\∀j,n<=j->a[j]?=b[j]?:=λv b H Q h=>⟨h,by simp,λj e=>by
 rw[List.getElem?_set_ne];omega⟩
end
theorem PS.imp{X:Cx}{st:Stmt}{t t':TS}(h:PS X st t)(i:∀D a H,t' D a H->t D a H):PS X st t':=λpins s a H D I q=>h pins s a H D I (i D a H q)
theorem jA.imp{X:Cx}{st:List Stmt}{t t':TS}(h:jA X st t)(i:∀D a H,t' D a H->t D a H):jA X st t':=λpins s a H D I q=>h pins s a H D I (i D a H q)
section
variable{X:Cx}{Γ:lO}{e:Expr}{c:Ex}{st:Stmt}{rest:List Stmt}{a b:QK}{pos pos':Pos}
end
section
variable{Z0 Z1 Z:Addr->Prop}{H0 H1 H:Hp}{ρ:zE}{σ:L2.St}
end
section
variable{X:Cx}{Γ:lO}{tg e:Expr}{c:Ex}{b:QK}{tb:List Stmt}{pos pos':Pos}
def jc:List Nat->BO
 |[]=>Fl
 |i::a=>BP (gT i) (jc a)
theorem mB{nms:List (Str×Pos)}(b:X.N.Nodup):∀(a:List Nat) (nms:List (Str×Pos)),a.length=nms.length->(∀(j i:Nat) (x:Str×Pos),a[j]?=some i->nms[j]?=some x->X.N[i]?=some x.1/\Loc X.env.scope x.1/\(X.fn x.1=true\/X.env.scope.names.lookup x.1=some .local)) ->
  Fj X (nms.map λx=>Expr.Name x.1 x.2) (jc a)
 |[],[],_,_=>zf
 |[],_::_,h,_=>by cases h
 |_::_,[],h,_=>by cases h
 |i::a,(x,c)::nms,d,h=>by
  obtain⟨h1,h2,e⟩:=h 0 i (x,c) rfl rfl;exact vT (mY b h1 h2 e) (mB (nms:=nms) b a nms (by simpa using d) λj i x f g=>h (j+1) i x (by simpa using f) (by simpa using g))
end
section
variable{X:Cx}{Γ:lO}{e o:Expr}{c:Ex}{i j:Nat}{x y:Str}{p0 p1 p2 p3 p4 p5 pos:Pos}
def sX:V->List V->Hp->VK->Prop:=λx b H Q=>∃l a k y,x=.ref l/\b=[.int k,y]/\H l=some (.lst a) /\ -(2 ^ 63)<=k/\k<2 ^ 63/\a.length<sizeLine/\Q .non (upd H l (.lst (nA a k y)))
end
theorem jt{X:Cx}{pins:List (Addr×Obj)}{l:L2.St}{H:Hp}{s:Shared}{h':Heap}{t':Nat}{fp:List Addr}{a:Addr}{o:HO}(I:Inv X pins l H s)(i:∀b∈fp,lL X pins H b)
  (k:∀b o,b∉fp->s.heap.get? b=some o->h'.get? b=some o) (p:s.heap.objs.size<=a) (j:bL X.prog X.w (upd H a o) h' a o):Inv X pins l (upd H a o) {s with heap:=h',toks:=t' }:=by
 have t:=I.hok.fresh p;have f:∀b u,H b=some u->b∉fp:=λb u e z=>by rw[(i b z).1]at e;cases e
 have g:∀b u,H b=some u->upd H a o b=some u:=λb u e=>by rw[aE (aY e t)];exact e
 refine I.step (g':=s.gens) (d':=s.drawn) (ch:=fp) (λb h=>?_) (λb o _ _ d e _=>k b o d e) (λb o _ _ d e _=>⟨o.slots,k b o d e⟩) (λb u _ e n=>?_)
  (λb o d e=>⟨o,k b o d e⟩) (λb G e=>g b _ e) (λb u v e=>g b _ e) (λb J e=>⟨#[],by rw[g b _ e];simp⟩) (λm x=>?_) (λb u e=>?_) I.bare
 .obtain⟨K,y,L,A,B,C⟩:=i b h
  exact⟨A,y,B,C⟩
 .have:b≠a:=λz=>absurd (Heap.lt_size e) (by rw[z];exact Nat.not_lt.mpr p)
  rw[aE this];exact n
 .obtain⟨o,D,E,F,r⟩:=x
  exact⟨o,D,E,k _ o (λz=>(i _ z).2.1 rfl) F,r⟩
 .by_cases h:b=a
  .subst h
   rw[aN]at e;cases e
   exact j
  .rw[aE h]at e
   refine(I.hok b u e).stay (λc v d q=>k c v ?_ q) (λc q=>g c _ q) λc _ q=>g c _ q
   rcases d with z|z
   .rw[z];exact f b u e
   .exact f c _ z
def QL(K:PySem.W.Frag)(a:Addr):It:=
 ⟨λi H=>∃b x,jM K H a b/\b[i]?=some x,λi H x c=>∃p,x=.ref p/\H p=none/\∀b,jM K H a b->∃v,b[i]?=some v/\c=upd H p (.tup [.int i,v]),λi H=>∃b,jM K H a b/\b.length<=i⟩
theorem uZ{P:Program}{w:World}{K:PySem.W.Frag}{r:List Expr}{x1:Nat}{t:Pos}(a e it:Addr)(y:e≠it) :
  Turn P w K (.Tuple r x1 t) (QL K a) [e,it] e (λi h=>(∃g,IsEnum h e it i g)/\h.IsListIter it a i) where
 mem:=by simp
 obj:=λi h l b m=>by
  obtain⟨⟨g,f⟩,o,e2,c,d⟩:=l;rcases List.mem_cons.mp m with z|z
  .subst z
   exact⟨_,f,λv z=>by
    have z':Data.fields _=Data.cell v:=z;cases z'⟩
  .have z:b=it:=by simpa using z
   subst z;exact⟨o,e2,λv z=>by rw[d]at z;cases z⟩
 keep:=λi h h' l k=>by
  obtain⟨⟨g,f⟩,j⟩:=l;exact⟨⟨g,k e (by simp) _ f⟩,j.at λo q=>k it (by simp) o q⟩
 item:=by
  intro X D F G Y i pins s σ H E I B l J;subst D F G;obtain⟨xs,x,C,L⟩:=J;obtain⟨⟨g,f⟩,j⟩:=l;obtain⟨M,N,p,hz⟩:=I.list C;obtain⟨u,hu,ru⟩:=N.get L;refine wpAny_pyNext_enum_item f j p.isList (x:=u) (by simpa using hu) y λh' so si tu sz kp=>?_
  refine⟨_,rfl,wpAny_letOwnedTupleGo_enum (s:={s with heap:=h',toks:=s.toks+1}) so λn se O=>?_⟩
  have Q:∀b o,b∉[e,it]->s.heap.get? b=some o->n.get? b=some o:=λb o m q=>by
   have Z:b≠e:=λz=>m (by simp[z])
   have h3:b≠it:=λz=>m (by simp[z])
   exact O.extBut b o Z (kp b o Z h3 q)
  have A:e<s.heap.objs.size:=Heap.lt_size f;have R:n.get? s.heap.objs.size=some {cls:=.type "tuple",data:=.seq #[.int i s.toks,u]}:=O.extBut _ _ (Nat.ne_of_gt A) tu;have S:∃g,IsEnum n e it ((i+1:Nat):Int) g:=⟨u,by rw[show((i+1:Nat):Int)=(i:Int)+1 by omega];exact se⟩
  refine⟨.ref s.heap.objs.size,upd H s.heap.objs.size (.tup [.int i,x]),?_,rfl,⟨_,rfl,I.hok.fresh (Nat.le_refl _),λys hy=>⟨x,by rw[I.oY hy C];exact L,rfl⟩⟩,⟨S,?_⟩,λb m=>?_⟩
  .have T:IsTup n s.heap.objs.size [Value.int i s.toks,u].toArray:=⟨_,R,rfl,_,rfl⟩
   have U:bL X.prog X.w (upd H s.heap.objs.size (.tup [.int i,x])) n s.heap.objs.size (.tup [.int i,x]):=⟨by rw[sizeLine_eq];simp,[.int i s.toks,u],.cons ⟨_,rfl⟩ (.cons ru .nil),T⟩
   have:=jt (s:=s) (h':=n) (t':=s.toks+1) I B Q (Nat.le_refl _) U;exact this
  .exact si.extBut O.extBut (Ne.symm y)
  .have V:b<s.heap.objs.size:=by
    rcases List.mem_cons.mp m with z|z
    .subst z;exact A
    .have z:b=it:=by simpa using z
     subst z;obtain⟨o,q,_⟩:=j;exact Heap.lt_size q
   rw[aE (Nat.ne_of_lt V)];exact(B b m).1
 done:=by
  intro X D F G Y i pins s σ H E I B l J;subst D F G;obtain⟨xs,C,L⟩:=J;obtain⟨⟨g,f⟩,j⟩:=l;obtain⟨M,N,p,hz⟩:=I.list C;obtain⟨f0,f1,f2,f3,f4,f5⟩:=B it (by simp)
  have hl:=N.length;exact wpAny_pyNext_enum_end (I.ok.hd Y) f j p.isList (by simp;omega) λh' eb=>⟨rfl,I.turned (t':=s.toks) (λb o m e=>eb b o m e) f0 f1 f3 f4 f5⟩
 self:=λ_ _ _ _ _ l h=>by
  obtain⟨⟨g,f⟩,_⟩:=l;exact wpAny_pyIter_enum f h
def Lq(K:PySem.W.Frag)(c:TA):TI:=λd H R=>c d H λe b=>∃a,e=[.ref a]/\(∃f,jM K b a f)/\R (QL K a) b
theorem zP{X:Cx}{es:List Expr}{m:Nat}{c p pos:Pos}{a:Expr}{f:TA}(n:Gl X "enumerate")(o:X.mg "enumerate"=none)(t:PA X [a] f)(u:starEach [a] X.env=[(false,eval a X.env)]) :
  PI X (.Tuple es m c) (.Call (.Name "enumerate" p) [a] [] pos) (Lq X.K f):=by
 intro pins s g H R I h;refine Call_ (fU I n o boot_enumerate (PyProof.Rows.callWith_type1 (bZ (t pos pins s g H _ I h) λG s1 ⟨J,i,e,w,q1⟩=>?_) u rfl))
 obtain⟨l,rfl,⟨L,x⟩,q⟩:=q1;cases w with
 |cons r y=>
  cases y;cases r;obtain⟨A,M,B,N⟩:=e.list x;refine call_enumerate_list B.isList λj k C O D=>wpAny_pyIter_enum (s:={s1 with heap:=j}) k ?_
  have E:L2.Inv X pins g i {s1 with heap:=j}:=e.kept (t':=s1.toks) D;refine⟨s1.heap.objs.size+1,[s1.heap.objs.size+1,s1.heap.objs.size],_,_,i,rfl,E,uZ l _ _ (Nat.succ_ne_self _),⟨⟨_,k⟩,C⟩,λb F=>?_,q⟩
  have d:s1.heap.objs.size<=b:=by
   rcases List.mem_cons.mp F with z|z
   .rw[z];exact Nat.le_succ _
   .have z:b=s1.heap.objs.size:=by simpa using z
    rw[z];exact Nat.le_refl _
  exact e.uC d (e.hok.fresh d)
theorem iC:∀(ds:List D) (k:Nat),(dh k ds).length=ds.length
 |[],_=>rfl
 |d::ds,k=>by rw[dh,List.length_cons,List.length_cons,iC ds]
theorem jR:∀(ds:List D) (k i:Nat) (d:D),(dh k ds)[i]?=some d->∃x,ds[i]?=some x/\d=.tup [.int (k+i:Nat),x]
 |[],_,_,_,h=>by simp[dh]at h
 |d::ds,k,0,a,h=>by simp[dh]at h;exact⟨d,rfl,h.symm⟩
 |d::ds,k,i+1,a,h=>by
  simp only[dh,List.getElem?_cons_succ]at h;obtain⟨x,h1,h2⟩:=jR ds (k+1) i a h;exact⟨x,by simpa using h1,by rw[h2,show k+1+i=k+(i+1)by omega]⟩
theorem sY:∀{ds:List D}{xs:List Str}{Z:Addr->Prop}{H:Hp}{vs:List V}{us:List Value},mx ds=some xs->aU Z H ds vs->Vals vs us->StrsAre us xs
 |[],xs,Z,H,vs,us,h,r,q=>by
  cases h;rw[r.nil_inv]at q;cases q;exact .nil
 |d::ds,xs,Z,H,vs,us,h,r,q=>by
  obtain⟨v,rs,rfl,a,b⟩:=r.cons_inv;cases d with
  |str x=>
   simp only[mx]at h;obtain⟨g,c,rfl⟩:=Option.map_eq_some_iff.mp h;simp only[Rep]at a;subst a;cases q with
   |cons e f=>
    obtain⟨t,rfl⟩:=e;exact .cons x t (sY c b f)
  |_=>cases h
def rJoin:V->List V->Hp->VK->Prop:=λx c H Q=>∃z Z b a y,x=.str z/\c=[y]/\Now Z H (.lst b) y/\mx b=some a/\z.length<=16/\(a.map (·.length)).sum+a.length<=1048576/\Q (.str (Txt.join z a)) H
theorem zQ{X:Cx}:FD X "str.join" rJoin:=by
 intro pins s r H x w v A Q I b c h;obtain⟨z,Z,B,C,y,rfl,rfl,n,d,e,f,q⟩:=h;obtain⟨t,rfl⟩:=b;obtain⟨l,D,rfl,g,i⟩:=cU n;obtain⟨u,rfl,j⟩:=c.one;cases j;obtain⟨m,a,o,E⟩:=I.list (ky (K:=X.K) g);exact join_listW o.isList (by simpa using sY d i a) e f λp k=>⟨.str _,H,I.tok _,⟨p,rfl⟩,q⟩
theorem u9{X:Cx}:Jl X "list.insert" sX:=by
 intro pins s B H x C v D Q I f g h;obtain⟨l,i,k,y,rfl,rfl,d,j,m,E,q⟩:=h;cases f;obtain⟨u,b,rfl,o,c⟩:=g.two;obtain⟨t,rfl⟩:=o;obtain⟨z,a,n,r,p,e⟩:=I.wg d;refine call_meets F.slot_list_insert ⟨_,e,rfl⟩ F.entry_list_insert (F.args_list_insert_3 _ _ _) (AutoListH.list_insert_list_int_val_1 l a.toArray n k t b (by rw[fitsIndex_both j m];simp) (by rw[List.size_toArray];omega)) ⟨e,?_⟩
 refine⟨.non,_,I.zx (its':=nA a k b) d e ?_ ?_ ?_,rfl,q⟩
 .have w:(if k<0 then (k+(a.toArray.size:Int)).toNat else min k.toNat a.toArray.size)=HT.gx a.length 0 (some k):=by rw[List.size_toArray];rfl
  show(a.toArray.extract 0 (if k<0 then (k+(a.toArray.size:Int)).toNat else min k.toNat a.toArray.size)).push b++a.toArray.extract (if k<0 then (k+(a.toArray.size:Int)).toNat else min k.toNat a.toArray.size)=_
  rw[w];unfold nA;apply Array.ext';simp;exact List.take_of_length_le (by simp)
 .have A:HT.gx i.length 0 (some k)=HT.gx a.length 0 (some k):=by rw[p]
  unfold nA;rw[A];exact(r.take _).append (.cons c (r.drop _))
 .unfold nA
  simp only[List.length_append,List.length_cons,List.length_take,List.length_drop];omega
theorem zR{v a:V}{u:Value}(h:L2.RelV v u)(h':L2.RelV a u):v=a:=by
 cases v<;>cases a<;>simp only[L2.RelV]at h h'<;>first
  | (obtain⟨t,rfl⟩:=h;obtain⟨b,e⟩:=h';cases e;done)
  | (obtain⟨t,rfl⟩:=h;obtain⟨b,e⟩:=h';cases e;rfl)
  | (obtain⟨t,rfl⟩:=h;cases h';done)
  | (subst h;obtain⟨b,e⟩:=h';cases e;done)
  | (subst h;cases h';done)
  | (subst h;cases h';rfl)
  |rfl
theorem sZ{H:Hp}{a:Addr}{u:HO}{vs:List V}(h:Rd H a (.lst vs))(h':Rd H a u)(b:∀o w,u≠.dJ o w):u=.lst vs:=by
 rcases h with h|⟨o,h⟩<;>rcases h' with h' |⟨c,h'⟩<;>rw[h]at h'<;>cases h'<;>first|rfl|exact absurd rfl (b _ _)
theorem s_{H:Hp}{a:Addr}{u:HO}{vs:List V}(h:Rd H a (.tup vs))(h':Rd H a u)(b:∀o w,u≠.dJ o w):u=.tup vs:=by
 rcases h with h|⟨o,h⟩<;>rcases h' with h' |⟨c,h'⟩<;>rw[h]at h'<;>cases h'<;>first|rfl|exact absurd rfl (b _ _)
mutual
theorem tf{Z:Addr->Prop}{H:Hp}:∀{n:Nat}{d d':D}{v:V},aH n d=true->aH n d'=true->Rep Z H d v->Rep Z H d' v->d=d'
 |n,.non,d',v,_,o',h,h'=>by
  simp only[Rep]at h;subst h
  cases d'<;>simp only[Rep]at h'<;>first|rfl | (cases h';done) | (obtain⟨_,_,e,_⟩:=h';cases e)
 |n,.bl b,d',v,_,o',h,h'=>by
  simp only[Rep]at h;subst h
  cases d'<;>simp only[Rep]at h'<;>first | (cases h';rfl) | (cases h';done) | (obtain⟨_,_,e,_⟩:=h';cases e)
 |n,.int b,d',v,_,o',h,h'=>by
  simp only[Rep]at h;subst h
  cases d'<;>simp only[Rep]at h'<;>first | (cases h';rfl) | (cases h';done) | (obtain⟨_,_,e,_⟩:=h';cases e)
 |n,.str b,d',v,_,o',h,h'=>by
  simp only[Rep]at h;subst h
  cases d'<;>simp only[Rep]at h'<;>first | (cases h';rfl) | (cases h';done) | (obtain⟨_,_,e,_⟩:=h';cases e)
 |0,.lst ds,_,_,o,_,_,_=>by simp[aH]at o
 |0,.tup ds,_,_,o,_,_,_=>by simp[aH]at o
 |n+1,.lst ds,d',v,o,o',h,h'=>by
  simp only[Rep]at h;obtain⟨a,k,rfl,_,h1,h2⟩:=h;cases d' with
  |lst g=>
   simp only[Rep]at h';obtain⟨j,i,e,_,c,f⟩:=h';cases e;have:=sZ h1 c (λ_ _ z=>by cases z)
   cases this;simp only[aH]at o o';rw[kG o o' h2 f]
  |tup g=>
   simp only[Rep]at h';obtain⟨j,i,e,_,c,f⟩:=h';cases e;have:=sZ h1 c (λ_ _ z=>by cases z)
   cases this
  |dct _ _=>simp[aH]at o'
  |ref _=>simp[aH]at o'
  |_=>simp only[Rep]at h';cases h'
 |n+1,.tup ds,d',v,o,o',h,h'=>by
  simp only[Rep]at h;obtain⟨a,k,rfl,_,h1,h2⟩:=h;cases d' with
  |lst g=>
   simp only[Rep]at h';obtain⟨j,i,e,_,c,f⟩:=h';cases e;have:=s_ h1 c (λ_ _ z=>by cases z)
   cases this
  |tup g=>
   simp only[Rep]at h';obtain⟨j,i,e,_,c,f⟩:=h';cases e;have:=s_ h1 c (λ_ _ z=>by cases z)
   cases this;simp only[aH]at o o';rw[kG o o' h2 f]
  |dct _ _=>simp[aH]at o'
  |ref _=>simp[aH]at o'
  |_=>simp only[Rep]at h';cases h'
 |n,.dct _ _,_,_,o,_,_,_=>by cases n<;>simp[aH]at o
 |n,.ref _,_,_,o,_,_,_=>by cases n<;>simp[aH]at o
theorem kG{Z:Addr->Prop}{H:Hp}:∀{n:Nat}{ds a:List D}{vs:List V},ds.all (aH n)=true->a.all (aH n)=true->aU Z H ds vs->aU Z H a vs->ds=a
 |n,[],a,vs,_,_,h,h'=>by
  rw[h.nil_inv]at h';cases a with
  |nil=>rfl
  |cons d r=>obtain⟨_,_,e,_⟩:=h'.cons_inv;cases e
 |n,d::ds,a,vs,o,b,h,h'=>by
  obtain⟨v,r,rfl,g,i⟩:=h.cons_inv;cases a with
  |nil=>exact absurd h'.nil_inv (by simp)
  |cons j a=>
   obtain⟨k,l,e,c,f⟩:=h'.cons_inv;cases e;simp only[List.all_cons,Bool.and_eq_true]at o b;rw[tf o.1 b.1 g c,kG o.2 b.2 i f]
end
def wV:V->List V->Hp->VK->Prop:=λx b H Q=>∃Z a d y j,b=[y]/\Now Z H (.lst a) x/\Now Z H d y/\aH 8 d=true/\a.all (aH 8)=true/\a.findIdx? (λe=>ei e d)=some j/\Q (.int j) H
theorem jd{Z:Addr->Prop}{H:Hp}{ds:List D}{vs:List V}{a:List Value}{m:Nat}(r:aU Z H ds vs)(q:Vals vs a)(c:m<a.length)(e:m<ds.length):∃v,Rep Z H ds[m] v/\L2.RelV v a[m]:=by
 obtain⟨v,f,g⟩:=r.get (i:=m) (d:=ds[m]) (by simp[e])
 obtain⟨u,b,h⟩:=q.get f;rw[List.getElem?_eq_getElem c]at b;cases b;exact⟨v,g,h⟩
theorem wW{X:Cx}(hu:X.A.units+64<cLine):FD X "list.index" wV:=by
 intro pins s σ H x vs v us Q I S T h;obtain⟨Z,i,d,y,j,rfl,U,V,M,o2,Y,q⟩:=h;obtain⟨l,ws,rfl,q1,z⟩:=cU U;cases S;obtain⟨u,rfl,ru⟩:=T.one;obtain⟨a,f,pl,hz⟩:=I.list (ky (K:=X.K) q1);obtain⟨B,he,C⟩:=List.findIdx?_eq_some_iff_getElem.mp Y;have hl:=f.length;have a0:=z.length;obtain⟨o,n,N,O,k,D⟩:=pl;have g:∀m (c:m<i.length),aH 8 i[m]=true:=λm c=>List.all_eq_true.mp o2 _ (List.getElem_mem c)
 have t:j<a.length:=by omega
 classical
 let e:Value->Bool:=λw=>decide (∃m,∃(c:m<a.length) (k:m<i.length),a[m]=w/\ei i[m] d=true)
 have p:∀m (c:m<a.length) (k:m<i.length),e a[m]=ei i[m] d:=λm c k=>by
  cases E:ei i[m] d with
  |true=>exact decide_eq_true ⟨m,c,k,rfl,E⟩
  |false=>
   refine decide_eq_false ?_;rintro⟨m',r,b,e1,P⟩;obtain⟨v1,G,J⟩:=jd z f c k;obtain⟨v2,r2,R⟩:=jd z f r b;rw[e1]at R;have:=zR J R;subst this;rw[tf (g m k) (g m' b) G r2]at E;rw[E]at P;cases P
 refine call_meets F.slot_list_index ⟨_,N,O⟩ F.entry_list_index (F.args_list_index_2 _ _)
  (SeqAt.list_indexAt l a.toArray n none o.slots u e j (by rw[List.size_toArray];exact t) (by rw[sizeLine_eq]at hz;omega) ?_ ?_) ⟨?_,λw hw=>?_,?_⟩
 .show e a[j]=true
  rw[p j t B];exact he
 .intro m c L
  have r:m<a.length:=by simpa using c
  show e a[m]=false
  rw[p m r (by omega)]
  simpa using C m L
 .rw[N]
  obtain⟨c',d',dt,sl⟩:=o;cases O;cases k;cases D;rfl
 .obtain⟨m,c,rfl⟩:=List.mem_iff_getElem.mp (show w∈a by simpa using hw)
  have b:m<i.length:=by omega
  rw[p m c b];obtain⟨v1,G,J⟩:=jd z f c b;exact eZ I 8 _ _ _ _ _ (by simp[Around.in1];omega) (g m b) M (fN I G.now J (g m b)) (fN I V ru M)
 .exact⟨.int j,H,I.tok _,⟨_,rfl⟩,q⟩
theorem u_(m:String)(x y:Str)(t u:Tok):Builtin.Str.searchArgs m {pos:=[Value.str x t,Value.str y u]}=pure (x,y,0,x.length):=by
 unfold Builtin.Str.searchArgs Builtin.Str.strSomeArgs Builtin.Str.strArg Builtin.Str.searchRange;have a:∀n,selfAndSome n m 1 3 {pos:=[Value.str x t,Value.str y u]}=pure (Value.str x t,[Value.str y u]):=λn=>by rfl
 have b:Builtin.Str.textOf (Value.str x t)=pure x:=by rfl
 have c:asStr? (Value.str y u)=pure (some y):=by rfl
 simp[a,b,c]
theorem gives_str_index(x y:Str)(t u:Tok)(i:Nat)(r:List Nat)(h:Builtin.Str.occurrences x y 0 x.length 1=i::r):Gives (Builtin.«str.index» {pos:=[Value.str x t,Value.str y u]}) (Made.int i):=by
 have g:=gives_str_find x y t u;unfold Builtin.«str.find» at g;unfold Builtin.«str.index»;rw[u_]at g ⊢;rw[h]at g;simp only[pure_bind,h]at g ⊢;exact g
def tj:V->List V->Hp->VK->Prop:=λx a H Q=>∃z y i r,x=.str z/\a=[.str y]/\Builtin.Str.occurrences z y 0 z.length 1=i::r/\Q (.int (i:Nat)) H
theorem va{X:Cx}:FD X "str.index" tj:=by
 intro pins s f H x g v j Q I a b h;obtain⟨z,y,i,r,rfl,rfl,c,q⟩:=h;obtain⟨t,rfl⟩:=a;obtain⟨u,rfl,d⟩:=b.one;obtain⟨e,rfl⟩:=d;refine call_meets F.slot_str_index (typeIs_str s z t) F.entry_str_index (F.args_str_index_2 _ _) (gives_str_index z y t e i r c).meets ?_;exact⟨.int i,H,I.tok _,⟨_,rfl⟩,q⟩
end Mir
namespace Mir
open PySem PySem.Spec PyProof.Rows L2
section
variable{X:Cx}{Γ:lO}{bw:Bool}{a b:Expr}{rest:List Expr}{ca cb:Ex}{pos:Pos}
theorem zS{i tb:TE}(j:PE X a i)(k:PE X (.BoolOp .And (b::rest) pos) tb):PE X (.BoolOp .And (a::b::rest) pos) (λe H Q=>i e H λx f=>∃c,oZ X.K x f c/\if c=true then tb e f Q else Q x f):=by
 intro pins s e H Q I h;refine BoolOp_and (bZ (j pins s e H _ I h) λv l ⟨x,f,I1,r1,c,t1,q1⟩=>?_)
 refine bZ (m9 pins l e f x v (λd g=>d=c/\g=f) I1 r1 ⟨c,t1,rfl,rfl⟩) λd m ⟨g,I2,e1,e2⟩=>?_
 subst e1 e2;cases d with
 |true=>exact k pins m e g Q I2 q1
 |false=>exact⟨x,g,I2,r1,q1⟩
theorem Dm{i tb:TE}(j:PE X a i)(k:PE X (.BoolOp .Or (b::rest) pos) tb):PE X (.BoolOp .Or (a::b::rest) pos) (λe H Q=>i e H λx f=>∃c,oZ X.K x f c/\if c=true then Q x f else tb e f Q):=by
 intro pins s e H Q I h;refine BoolOp_or (bZ (j pins s e H _ I h) λv l ⟨x,f,I1,r1,c,t1,q1⟩=>?_)
 refine bZ (m9 pins l e f x v (λd g=>d=c/\g=f) I1 r1 ⟨c,t1,rfl,rfl⟩) λd m ⟨g,I2,e1,e2⟩=>?_
 subst e1 e2;cases d with
 |false=>exact k pins m e g Q I2 q1
 |true=>exact⟨x,g,I2,r1,q1⟩
theorem zT{g:TE}(i:PE X a g):PE X (.UnaryOp .Not a pos) (λe H Q=>g e H λx b=>∃c,oZ X.K x b c/\Q (.bl (!c)) b):=by
 intro pins s e H Q I h;refine UnaryOp_ (bZ (i pins s e H _ I h) λv j ⟨x,b,I1,r1,c,t1,q1⟩=>?_)
 refine not_of (bZ (m9 pins j e b x v (λd f=>d=c/\f=b) I1 r1 ⟨c,t1,rfl,rfl⟩) λd k ⟨f,I2,e1,e2⟩=>?_)
 subst e1 e2;exact⟨.bl (!d),f,I2,rfl,q1⟩
theorem dW.nw{a:Bool}{Z:Addr->Prop}{b H:Hp}{d:D}{v:V}(h:dW bw a Z b H d v):Now Z H d v:=by
 cases bw with
 |true=>exact h.now
 |false=>exact(h.weak (bw:=true)).now
end
noncomputable def FZ(a:Scope)(x:Str):Bool:=match a.names.lookup x with
 |some .local|some .cell|some .free=>true
 |_=>false
noncomputable def wX(a:Scope)(x:Str):Bool:=match a.names.lookup x with
 |some .local|some .cell=>true
 |_=>false
noncomputable def wY(a:Scope)(x:Str):Bool:=a.names.lookup x==some .globalImplicit
noncomputable def okN(x:Str):Bool := !(x==("__debug__":Str))&&!(x==("__classdict__":Str))&&!(x==("__name__":Str))
noncomputable def zU(N:List Str)(x:Str):Option Nat:=N.findIdx? (· == x)
def mD(a:Scope)(N:List Str)(x:Str):Option Nat:=if FZ a x&&okN x then zU N x else none
def wZ(x:Str):Option Ty:=[Ty.int,.str,.bool,.list,.tuple,.dict].find? (λt=>t.nm==x)
noncomputable def isStar:Expr->Bool
 |.Starred _ _=>true
 |_=>false
noncomputable def isSlice:Expr->Bool
 |.Slice _ _ _ _=>true
 |_=>false
noncomputable def isSet:Expr->Bool
 |.Set _ _ _=>true
 |_=>false
noncomputable def ri(scope a:Scope):Scope:={scope with names:=scope.names.map λ(n,k)=>if (k==.free&&a.kind==.function&&a.names.lookup n==some .cell)then (n,.cell)else (n,k)}
noncomputable def dr(scope:Scope):List Str:=(scope.names.filter λy=>y.2==.free).map (·.1)
def rj(a:Scope)(N:List Str):List Str->Option (List Nat)
 |[]=>some []
 |x::xs=>do let i ←mD a N x;let b ←rj a N xs;some (i::b)
def w8(scope:Scope)(sc:Scope)(x:Str):Bool:=
 scope.kind==.function&&scope.names.all (λy=>!(y.2==.cell))&&scope.names.all (λy=>!(y.2==.local)||scope.names.lookup y.1==some .local) &&
 scope.names.all (λy=>!(y.2==.free)||(sc.names.lookup y.1==some .cell||sc.names.lookup y.1==some .free)&&scope.names.lookup y.1==some .free) &&
 scope.names.lookup x==some .local&&decide ((x::dr scope).Nodup)
noncomputable def kH:List Comprehension->Option (Str×Pos×Expr×List Expr)
 |[⟨.Name x p,iter,ifs,0⟩]=>some (x,p,iter,ifs)
 |_=>none
theorem mE{b:List Comprehension}{x:Str}{p:Pos}{iter:Expr}{a:List Expr}(h:kH b=some (x,p,iter,a)):b=[⟨.Name x p,iter,a,0⟩]:=by
 unfold kH at h;split at h
 .cases h;rfl
 .cases h
theorem w9{N:List Str}{x:Str}{i:Nat}(h:zU N x=some i):N[i]?=some x:=by
 unfold zU at h;obtain⟨a,b,_⟩:=List.findIdx?_eq_some_iff_getElem.mp h;rw[List.getElem?_eq_getElem a,eq_of_beq b]
theorem tm{c:Scope}{N:List Str}{x:Str}{i:Nat}(h:mD c N x=some i):N[i]?=some x/\EK c x/\(x==("__debug__":Str))=false/\(x==("__classdict__":Str))=false:=by
 unfold mD at h;split at h
 .rename_i a
  simp only[Bool.and_eq_true,okN,Bool.not_eq_true']at a;refine⟨w9 h,?_,a.2.1.1,a.2.1.2⟩;have b:=a.1;unfold FZ at b;unfold EK;split at b
  .rename_i q;exact .inl q
  .rename_i q;exact .inr (.inl q)
  .rename_i q;exact .inr (.inr q)
  .cases b
 .cases h
theorem tp{x:Str}(h:okN x=true):(x==("__debug__":Str))=false/\(x==("__classdict__":Str))=false/\x≠"__name__":=by
 simp only[okN,Bool.and_eq_true,Bool.not_eq_true']at h;refine⟨h.1.1,h.1.2,λe=>?_⟩
 rw[e]at h;simp at h
noncomputable def dX:List Str:=["len","all","any","list","tuple","int","min","max","bool","isinstance","str","dict","range","sorted","enumerate","reversed","set","zip"]
theorem bW{e:Expr}{es:List Expr}{env:Env}(h:isStar e=false):starEach (e::es) env=(false,eval e env)::starEach es env:=by
 cases e<;>first|rfl | (cases h)
theorem bX{env:Env}{pos:Pos}:∀{es:List Expr},(∀e∈es,isStar e=false)->(backTo pos (starEach es env)).any (·.1)=false
 |[],_=>rfl
 |e::es,h=>by
  rw[bW (h e (by simp))]
  show(false||(backTo pos (starEach es env)).any (·.1))=false
  rw[bX λz hz=>h z (by simp[hz])]
  rfl
section
variable{X:Cx}{Γ:lO}{T:Tab}{k:Nat}{sc:Scope}{N:List Str}
theorem F7{x:Str}{t:Ty}(h:wZ x=some t):x=t.nm/\t.nm∈dX:=by
 unfold wZ at h;have a:=List.find?_some h;exact⟨(eq_of_beq a).symm,by cases t<;>decide⟩
end
section
variable{X:Cx}{Γ:lO}{T:Tab}{k:Nat}{sc:Scope}{N:List Str}
theorem w_{d:Scope}{N:List Str}:∀{xs:List Str}{a:List Nat},rj d N xs=some a->xs.length=a.length/\∀(j i:Nat) (x:Str),xs[j]?=some x->a[j]?=some i->N[i]?=some x
 |[],a,h=>by cases h;exact⟨rfl,λj i x e=>by simp at e⟩
 |x::xs,a,h=>by
  simp only[rj,Option.bind_eq_bind]at h;obtain⟨i,h1,h⟩:=Option.bind_eq_some_iff.mp h;obtain⟨f,g,h⟩:=Option.bind_eq_some_iff.mp h;cases h;obtain⟨k,l⟩:=w_ g;refine⟨by rw[List.length_cons,List.length_cons,k],λj m y b c=>?_⟩
  cases j with
  |zero=>simp at b c;subst b c;exact(tm h1).1
  |succ j=>exact l j m y (by simpa using b) (by simpa using c)
theorem kI{iter:Expr}{env:Env}(h:isSet iter=false):∀x,foldedSetIterable iter env x=pure x:=by
 intro x;cases iter<;>first|rfl | (simp[isSet]at h)
theorem pD{op:CmpOp}{b:Expr}(h:isSet b=false):behindInMarks op b=false:=by
 cases b<;>first|rfl | (simp[isSet]at h)
end
def pE(a:Scope)(N:List Str)(x:Str):Option Nat:=if wX a x&&okN x then zU N x else none
noncomputable def hJ:Expr->Bool
 |.ListComp .. |.SetComp .. |.DictComp ..=>true
 |_=>false
noncomputable def pF(a:Scope)(x:Str)(b:Pos)(e:Expr):Bool:=match e with
 |.ListComp _ _ s _=>a.names.lookup x==some .local&&b.line==e.pos.line&&!(s.names.any λ(n,k)=>n==x&&(k==.local||k==.cell))
 |_=>false
noncomputable def eA:List Expr->Option (List (Str×Pos))
 |[]=>some []
 |.Name x p::r=>(eA r).map ((x,p):: ·)
 |_=>none
def kJ(a:Scope)(N:List Str):List (Str×Pos)->Option (List Nat)
 |[]=>some []
 |x::xs=>do let i ←pE a N x.1;let b ←kJ a N xs;some (i::b)
noncomputable def xa:Expr->Bool
 |.Call .. |.Name .. |.Subscript ..=>true
 |_=>false
section
variable{X:Cx}{Γ:lO}{T:Tab}{k:Nat}{sc:Scope}{N:List Str}
theorem ju:∀{es:List Expr}{nms:List (Str×Pos)},eA es=some nms->es=nms.map λx=>Expr.Name x.1 x.2
 |[],_,h=>by cases h;rfl
 |e::es,nms,h=>by
  unfold eA at h;split at h
  .rename_i e;cases e
  .rename_i x p r q
   cases q;obtain⟨ns,h1,h⟩:=Option.map_eq_some_iff.mp h;subst h;rw[ju h1];rfl
  .cases h
theorem mF(env:Env):∀(nms:List (Str×Pos)),(assignEach (nms.map λx=>Expr.Name x.1 x.2) env).length=nms.length/\(assignEach (nms.map λx=>Expr.Name x.1 x.2) env).findIdx? (·.1)=none
 |[]=>⟨rfl,rfl⟩
 |x::r=>by
  obtain⟨h1,h2⟩:=mF env r;refine⟨?_,?_⟩
  .show(assignEach (r.map λx=>Expr.Name x.1 x.2) env).length+1=_
   rw[h1];rfl
  .show List.findIdx? (·.1) ((false,_)::assignEach (r.map λx=>Expr.Name x.1 x.2) env)=none
   rw[List.findIdx?_cons,h2];rfl
end
def bc(N ps:List Str)(a:Scope):Bool:=
 a.kind==.function&&!a.isCoroutine&&!a.isGenerator&&decide N.Nodup&&decide (N.take ps.length=ps)&&ps.all (wX a)&&a.names.all λy=>!(y.2==.free)
theorem zV{N ps:List Str}{b:Scope}(h:bc N ps b=true):nk N ps b:=by
 simp only[bc,Bool.and_eq_true,Bool.not_eq_true',decide_eq_true_eq,List.all_eq_true,beq_iff_eq]at h;obtain⟨⟨⟨⟨⟨⟨c,d⟩,f⟩,g⟩,i⟩,j⟩,k⟩:=h;refine⟨c,d,f,g,i,λx l=>?_,λy m e=>?_⟩
 .have a:=j x l
  unfold wX at a;split at a
  .rename_i q;exact .inl q
  .rename_i q;exact .inr q
  .cases a
 .have:=k y m
  rw[e]at this;exact absurd this (by decide)
section
variable{P:Program}{w:World}{K:PySem.W.Frag}{mg:Str->Option Value}{base:Heap}{Γ:lO}{T:Tab}{k:Nat}
end
noncomputable def zW:Value->Bool
 |.type x=>x=="list"
 |_=>false
def pG(K:PySem.W.Frag):Bool:=K.all λp=>!zW p.2.cls
theorem pH:∀{K:PySem.W.Frag}{a:Addr}{o:Obj},K.lookup a=some o->(a,o)∈K
 |[],_,_,h=>by cases h
 | (b,p)::K,a,o,h=>by
  rw[List.lookup_cons]at h;split at h
  .rename_i e
   cases h;rw[eq_of_beq e];simp
  .exact List.mem_cons_of_mem _ (pH h)
theorem F8{K:PySem.W.Frag}(b:pG K=true){H:Hp}{a:Addr}{xs:List V}(h:jM K H a xs):Rd H a (.lst xs):=by
 rcases h with h|⟨o,c,n,d,e,_⟩
 .exact h
 .have f:=pH d
  have:=List.all_eq_true.mp b _ f;rw[e]at this;exact absurd this (by decide)
noncomputable def xb(K:PySem.W.Frag)(x:Str):Bool:=match PySem.W.nsIn K mainGlobals x with
 |some none=>true
 |_=>false
def tq(K:PySem.W.Frag):Bool:=dX.all (xb K)
theorem xc{K:PySem.W.Frag}{h:Heap}{a:Str->Option Value}(X:K.In h)(G:h.Ns mainGlobals a)(b:tq K=true):∀x∈dX,a x=none:=λx c=>by
 have:=List.all_eq_true.mp b x c;unfold xb at this;split at this
 .rename_i q;exact PySem.W.mg_none_of X G q
 .cases this
section
variable{prog:Program}{w:World}{A:Around}{E:Value->Shared->Prop}{s:Shared}
end
end Mir
namespace L2
open PySem PySem.Spec PyProof.Rows PySem.W
def F9(X:Cx)(f:Addr)(vs:List V)(a:St)(H:Hp)(Q:VK):Prop:=∀(pins:List (Addr×Obj)) (s:Shared) (b:List Value),Inv X pins a H s->Vals vs b->wpAny (model X.prog X.w) X.A (call (.ref f) b) (EP X pins a Q) X.xe s
noncomputable def Cx.fz(X:Cx)(xs:List Str):Cx:={X with fn:=λy=>X.fn y&&!(xs.contains y)}
section
variable{X:Cx}{pins:List (Addr×Obj)}{σ:St}{H:Hp}{s:Shared}
end
end L2
namespace L2
open PySem PySem.Spec PyProof.Rows
theorem rl{prog:Program}{w:World}{es:Array DictEntry}(d:Addr)(a:(d==sysModules)=false) :
  MeetsIn prog w (Builtin.«dict.__len__» ⟨[.ref d],[]⟩) (λ_ R s=>∃o ep,s.heap.get? d=some o/\o.data=.dict es ep/\R (.ok (.ret (.int es.size s.toks))) {s with toks:=s.toks+1}):=
 .of_wp λA R s ⟨o,ep,ho,hdat,h⟩=>by
  show wpAny _ _ (dictSize d >>= _) _ _ s
  unfold dictSize;refine wpAny_bind (wpAny_bind (wpAny_dictEntries ho hdat (wpAny_pure ?_)))
  show wpAny _ _ (Builtin.Dict.pendingCount d >>= _) _ _ s
  refine wpAny_bind (wpAny_pendingCount_other a ?_);refine wpAny_ret_mkInt ?_;rw[Nat.add_zero];exact h
theorem KT.length{H:Hp}{l:List (List Key×V)}{m:List (List Key×Addr×Value)}(q:KT H l m):m.length=l.length:=by
 induction q with
 |nil=>rfl
 |cons _ _ a=>rw[List.length_cons,List.length_cons,a]
theorem vb{X:Cx}:dn X (.builtin "len") (λxs H Q=>∃a kvs,xs=[V.ref a]/\H a=some (.dT kvs)/\Q (.int kvs.length) H):=by
 intro pins s p H xs t Q I r h;obtain⟨a,kvs,rfl,e,q⟩:=h;obtain⟨u,rfl,f⟩:=vals1 r;cases f;obtain⟨z,g,xs,b,c⟩:=wo I.hok e;have d:=c.typeIs;obtain⟨o,es,i,j,w,k,l,x,y⟩:=c;have n:es.size=kvs.length:=by rw[size_of_entries l,b.length]
 refine Calls.call_function_entry kind_len plain_len entry_len (args_len1 _) ?_;unfold Builtin.«len»;refine wpAny_bind (m:=oneArg "len" _) (wpAny_pure ?_)
 refine wpAny_bind (m:=callSpecial? (.ref a) (Str.ofString "__len__")) (wpAny_callSpecial?_slot (name:=Str.ofString "__len__") d F.slot_dict_len
  (call_meetsIn F.slot_dict_len d F.entry_dict_len (F.args_dict_len_1 _) (rl (es:=es) a g) ⟨o,i,j,k,?_⟩))
 show wpAny _ _ _ _ _ {s with toks:=s.toks+1}
 refine wpAny_bind (wpAny_holding (wpAny_pure ?_));refine wpAny_bind (wpAny_letGo ?_);rw[sizeLine_eq]at z
 show wpAny _ _ (if ((es.size:Nat):Int)<0 then _ else _) _ _ _
 rw[if_neg (by omega)]
 show wpAny _ _ (if ((es.size:Nat):Int)≥2 ^ 63 then _ else _) _ _ _
 rw[if_neg (by omega)]
 refine wpAny_bind (wpAny_mkInt (wpAny_pure ⟨_,rfl,.int kvs.length,H,(I.tok _).tok _,⟨_,by rw[n]⟩,q⟩))
end L2
namespace HT
open PySem PyProof.Rows
section
variable{prog:Program}{w:World}{A:Around}{E:Value->Shared->Prop}{s:Shared}
end
end HT
namespace L2
open PySem PySem.Spec PyProof.Rows
section
variable{X:Cx}
end
end L2
namespace Mir
open PySem PySem.Spec PyProof.Rows L2
end Mir
namespace Mir
open PySem L2
structure Lr where
 name:Str
 qual:Str
 params:Arguments
 body:List Stmt
 scope:Scope
 ps:List Str
 cn:List Str
class aO where
 tab:Nat->Lr
 ta:Nat->Addr
inductive Cell where
 |lst (ds:List D)
 |dK (kvs:List (Key×D))
 |dT (kvs:List (List Key×D))
 |dF (kvs:List (Key×D))
 |ins (C:Str) (fs:List (Str×D))
 |fn (j:Nat) (rm:List D)
 |tb (j:Nat) (p:Pos) (b:Bool)
abbrev aD:=List Cell
inductive aw (α:Type) where
 |ok (a:α) (Ω:aD)
 |exc (x:D) (Ω:aD)
 |bad
noncomputable def aw.bind{b c:Type}:aw b->(b->aD->aw c)->aw c
 |.ok a Ω,f=>f a Ω
 |.exc x Ω,_=>.exc x Ω
 |.bad,_=>.bad
abbrev aX:=List (Option D)
inductive az {α β:Type} (R:α->β->Prop):List α->List β->Prop where
 |nil:az R [] []
 |cons {a b as bs}:R a b->az R as bs->az R (a::as) (b::bs)
namespace az
variable{α β:Type}{R S:α->β->Prop}
theorem length:∀{a:List α}{bs:List β},az R a bs->bs.length=a.length
 |_,_,.nil=>rfl
 |_,_,.cons _ t=>by rw[List.length_cons,List.length_cons,length t]
theorem imp(h:∀a b,R a b->S a b):∀{c:List α}{bs:List β},az R c bs->az S c bs
 |_,_,.nil=>.nil
 |_,_,.cons r t=>.cons (h _ _ r) (imp h t)
theorem get:∀{c:List α}{bs:List β}{i:Nat}{a:α},az R c bs->c[i]?=some a->∃b,bs[i]?=some b/\R a b
 |_,_,_,_,.nil,e=>by simp at e
 |_,_,0,_,.cons r _,e=>by simp at e;subst e;exact⟨_,rfl,r⟩
 |_,_,i+1,a,.cons _ t,e=>by
  obtain⟨u,h1,h2⟩:=get (i:=i) (a:=a) t (by simpa using e)
  exact⟨u,by simpa using h1,h2⟩
theorem Dn:∀{c:List α}{bs:List β}{i:Nat}{b:β},az R c bs->bs[i]?=some b->∃a,c[i]?=some a/\R a b
 |_,_,_,_,.nil,e=>by simp at e
 |_,_,0,_,.cons r _,e=>by simp at e;subst e;exact⟨_,rfl,r⟩
 |_,_,i+1,a,.cons _ t,e=>by
  obtain⟨u,h1,h2⟩:=Dn (i:=i) (b:=a) t (by simpa using e)
  exact⟨u,by simpa using h1,h2⟩
theorem append:∀{a b:List α}{bs ds:List β},az R a bs->az R b ds->az R (a++b) (bs++ds)
 |_,_,_,_,.nil,h=>h
 |_,_,_,_,.cons r t,h=>.cons r (append t h)
theorem one{a:α}{b:β}(h:R a b):az R [a] [b]:=.cons h .nil
theorem take:∀{a:List α}{bs:List β} (n:Nat),az R a bs->az R (a.take n) (bs.take n)
 |_,_,0,_=>by simp;exact .nil
 |_,_,n+1,.nil=>by simp;exact .nil
 |_,_,n+1,.cons r t=>.cons r (take n t)
theorem drop:∀{a:List α}{bs:List β} (n:Nat),az R a bs->az R (a.drop n) (bs.drop n)
 |_,_,0,h=>h
 |_,_,n+1,.nil=>by simp;exact .nil
 |_,_,n+1,.cons r t=>drop n t
theorem eraseIdx:∀{a:List α}{bs:List β} (n:Nat),az R a bs->az R (a.eraseIdx n) (bs.eraseIdx n)
 |_,_,n,.nil=>by simp;exact .nil
 |_,_,0,.cons _ t=>t
 |_,_,n+1,.cons r t=>.cons r (eraseIdx n t)
theorem set{a:α}{b:β}(r:R a b):∀{c:List α}{bs:List β} (n:Nat),az R c bs->az R (c.set n a) (bs.set n b)
 |_,_,_,.nil=>.nil
 |_,_,0,.cons _ t=>.cons r t
 |_,_,n+1,.cons q t=>.cons q (set r n t)
theorem nil_inv{bs:List β}(h:az R [] bs):bs=[]:=by cases h;rfl
theorem cons_inv{a:α}{c:List α}{bs:List β}(h:az R (a::c) bs):∃b r,bs=b::r/\R a b/\az R c r:=by
 cases h with
 |cons r t=>exact⟨_,_,rfl,r,t⟩
end az
mutual
noncomputable def ak(c:List Addr)(Z:Addr->Prop)(H:Hp):D->V->Prop
 |.non,v=>v=.non
 |.bl b,v=>v=.bl b
 |.int i,v=>v=.int i
 |.str x,v=>v=.str x
 |.lst ds,v=>∃a vs,v=.ref a/\Z a/\Rd H a (.lst vs)/\dY c Z H ds vs
 |.tup ds,v=>∃a vs,v=.ref a/\Z a/\H a=some (.tup vs)/\dY c Z H ds vs
 |.dct _ _,_=>True
 |.ref n,v=>∃a,c[n]?=some a/\v=.ref a
noncomputable def dY(b:List Addr)(Z:Addr->Prop)(H:Hp):List D->List V->Prop
 |[],a=>a=[]
 |d::ds,a=>∃v r,a=v::r/\ak b Z H d v/\dY b Z H ds r
end
theorem b9{a:List Addr}{Z:Addr->Prop}{H:Hp}:∀{ds:List D}{vs:List V},dY a Z H ds vs↔az (ak a Z H) ds vs
 |[],vs=>by
  simp only[dY];exact⟨λh=>by subst h;exact .nil,λh=>h.nil_inv⟩
 |d::ds,vs=>by
  simp only[dY];constructor
  .rintro⟨v,r,rfl,h1,h2⟩
   exact .cons h1 (b9.mp h2)
  .intro h
   obtain⟨v,r,rfl,h1,h2⟩:=h.cons_inv;exact⟨v,r,rfl,h1,b9.mpr h2⟩
section
variable{α α':List Addr}{Z Z':Addr->Prop}{H H':Hp}
mutual
theorem ak.mono(p:∀(n:Nat) (a:Addr),α[n]?=some a->α'[n]?=some a)(k:∀a o,Z a->H a=some o->H' a=some o)(z:∀a,Z a->Z' a):∀{d:D}{v:V},ak α Z H d v->ak α' Z' H' d v
 |.non,_,h=>by simpa only [ak]using h
 |.bl _,_,h=>by simpa only [ak]using h
 |.int _,_,h=>by simpa only [ak]using h
 |.str _,_,h=>by simpa only [ak]using h
 |.lst ds,v,h=>by
  simp only[ak]at h ⊢;obtain⟨a,c,e,b,f,g⟩:=h;exact⟨a,c,e,z a b,nB (λo=>k a o b) f,dY.mono p k z g⟩
 |.tup ds,v,h=>by
  simp only[ak]at h ⊢;obtain⟨a,c,e,b,f,g⟩:=h;exact⟨a,c,e,z a b,k a _ b f,dY.mono p k z g⟩
 |.dct i ds,v,h=>by simp only[ak]
 |.ref n,v,h=>by
  simp only[ak]at h ⊢;obtain⟨a,e,h⟩:=h;exact⟨a,p n a e,h⟩
theorem dY.mono(p:∀(n:Nat) (a:Addr),α[n]?=some a->α'[n]?=some a)(k:∀a o,Z a->H a=some o->H' a=some o)(z:∀a,Z a->Z' a):∀{ds:List D}{vs:List V},dY α Z H ds vs->dY α' Z' H' ds vs
 |[],_,h=>by simpa only [dY]using h
 |d::ds,vs,h=>by
  simp only[dY]at h ⊢;obtain⟨v,r,e,h1,h2⟩:=h;exact⟨v,r,e,ak.mono p k z h1,dY.mono p k z h2⟩
end
end
def eQ{K:Type}(R:D->V->Prop)(kvs:List (K×D))(a:List (K×V)):Prop:=az (λp q=>p.1=q.1/\R p.2 q.2) kvs a
variable [aO]
def gO(κ:Str->Addr->Prop)(R:D->V->Prop)(H:Hp)(a:Addr):Cell->Prop
 |.lst ds=>∃vs,H a=some (.lst vs)/\az R ds vs
 |.dK kvs=>∃b,H a=some (.dK b)/\eQ R kvs b
 |.dT kvs=>∃b,H a=some (.dT b)/\eQ R kvs b
 |.dF kvs=>∃o b,H a=some (.dJ o (.dK b))/\eQ R kvs b
 |.ins C fs=>∃d e c,κ C d/\H a=some (.ins d e c)/\eQ R fs c
 |_=>False
theorem eQ.imp{K:Type}{R S:D->V->Prop}(h:∀d v,R d v->S d v){kvs:List (K×D)}{c:List (K×V)}(k:eQ R kvs c):eQ S kvs c:=az.imp (λa b q=>⟨q.1,h _ _ q.2⟩) k
theorem gO.imp{κ:Str->Addr->Prop}{R S:D->V->Prop}{H m:Hp}{a:Addr}{c:Cell}(h:∀d v,R d v->S d v)(e:∀o,H a=some o->m a=some o)(z:∀b o u,H b=some (.dJ o u)->m b=some (.dJ o u))(k:gO κ R H a c):gO κ S m a c:=by
 cases c with
 |lst s=>obtain⟨f,g,i⟩:=k;exact⟨f,e _ g,i.imp h⟩
 |dK l=>obtain⟨f,g,i⟩:=k;exact⟨f,e _ g,i.imp h⟩
 |dT l=>obtain⟨f,g,i⟩:=k;exact⟨f,e _ g,i.imp h⟩
 |dF l=>obtain⟨o,f,g,i⟩:=k;exact⟨o,f,e _ g,i.imp h⟩
 |ins C t=>obtain⟨n,q,f,r,g,i⟩:=k;exact⟨n,q,f,r,e _ g,i.imp h⟩
 |fn j rm=>exact k.elim
 |tb j p b=>exact k.elim
theorem gO.some{κ:Str->Addr->Prop}{R:D->V->Prop}{H:Hp}{a:Addr}{c:Cell}(k:gO κ R H a c):H a≠none:=by
 cases c with
 |lst h=>obtain⟨f,d,g⟩:=k;rw[d];simp
 |dK e=>obtain⟨f,d,g⟩:=k;rw[d];simp
 |dT e=>obtain⟨f,d,g⟩:=k;rw[d];simp
 |dF e=>obtain⟨o,f,d,g⟩:=k;rw[d];simp
 |ins C i=>obtain⟨l,m,f,n,d,g⟩:=k;rw[d];simp
 |fn j rm=>exact k.elim
 |tb j p b=>exact k.elim
structure bK(κ:Str->Addr->Prop)(α:List Addr)(Z:Addr->Prop)(Ω:aD)(H:Hp):Prop where
 vc:α.Nodup
 yW:az (λc a=>gO κ (ak α Z H) H a c) Ω α
 sep:∀a∈α,¬ Z a
 dom:∀a,Z a->H a≠none
structure cv(α:List Addr)(Z:Addr->Prop)(H:Hp)(α':List Addr)(Z':Addr->Prop)(H':Hp):Prop where
 pre:∀(n:Nat) (a:Addr),α[n]?=some a->α'[n]?=some a
 sub:∀a,Z a->Z' a
 new:∀a,Z' a->Z a\/H a=none
 Dp:∀a∈α',a∈α\/H a=none
 frm:∀a o,H a=some o->a∉α->H' a=some o
 has:∀a∈α,H' a≠none
 dJ:∀a o u,H a=some (.dJ o u)->H' a=some (.dJ o u)
section
variable{κ:Str->Addr->Prop}{α α' F_:List Addr}{Z Z' QM:Addr->Prop}{Ω au:aD}{H H' QN:Hp}
theorem cv.refl(h:∀a∈α,H a≠none):cv α Z H α Z H:=⟨λ_ _ e=>e,λ_ h=>h,λ_ h=>.inl h,λ_ h=>.inl h,λ_ _ e _=>e,h,λ_ _ _ e=>e⟩
theorem bK.has(S:bK κ α Z Ω H):∀a∈α,H a≠none:=λa b=>by
 obtain⟨n,d⟩:=List.mem_iff_getElem?.mp b;obtain⟨c,_,h⟩:=S.yW.Dn d;exact h.some
theorem cv.none(g:cv α Z H α' Z' H'){a:Addr}(h:H' a=none):H a=none:=by
 cases q:H a with
 |none=>rfl
 |some o=>
  by_cases b:a∈α
  .exact absurd h (g.has a b)
  .rw[g.frm a o q b]at h;cases h
theorem cv.trans(g:cv α Z H α' Z' H')(g':cv α' Z' H' F_ QM QN):cv α Z H F_ QM QN where
 pre:=λn a e=>g'.pre n a (g.pre n a e)
 sub:=λa h=>g'.sub a (g.sub a h)
 new:=λa h=>by
  rcases g'.new a h with h|h
  .exact g.new a h
  .exact .inr (g.none h)
 Dp:=λa h=>by
  rcases g'.Dp a h with h|h
  .exact g.Dp a h
  .exact .inr (g.none h)
 frm:=λa o e b=>g'.frm a o (g.frm a o e b) λh=>by
  rcases g.Dp a h with h|h
  .exact b h
  .rw[e]at h;cases h
 has:=λa b=>by
  obtain⟨n,c⟩:=List.mem_iff_getElem?.mp b;exact g'.has a (List.mem_of_getElem? (g.pre n a c))
 dJ:=λa o u e=>g'.dJ a o u (g.dJ a o u e)
theorem bK.cG(S:bK κ α Z Ω H)(g:cv α Z H α' Z' H'){d:D}{v:V}(h:ak α Z H d v):ak α' Z' H' d v:=
 h.mono g.pre (λa o z e=>g.frm a o e λb=>S.sep a b z) g.sub
theorem bK.jv(S:bK κ α Z Ω H)(g:cv α Z H α' Z' H'){ds:List D}{vs:List V}(h:az (ak α Z H) ds vs):az (ak α' Z' H') ds vs:=h.imp λ_ _ q=>S.cG g q
theorem bK.cell(S:bK κ α Z Ω H){n:Nat}{c:Cell}(e:Ω[n]?=some c):∃a,α[n]?=some a/\gO κ (ak α Z H) H a c:=S.yW.get e
theorem bK.len(S:bK κ α Z Ω H):α.length=Ω.length:=S.yW.length
theorem bK.tr(S:bK κ α Z Ω H){p:Addr}{o:HO}(h:H p=none)(z:Prop)[Decidable z]:bK κ α (if z then Zp Z p else Z) Ω (upd H p o)/\cv α Z H α (if z then Zp Z p else Z) (upd H p o):=by
 have j:∀a∈α,a≠p:=λa f e=>S.has a f (e▸h)
 have k:∀a,Z a->a≠p:=λa i e=>S.dom a i (e▸h)
 have l:∀a,Z a->(if z then Zp Z p else Z) a:=λa f=>by
  split
  .exact .inl f
  .exact f
 have g:cv α Z H α (if z then Zp Z p else Z) (upd H p o):=⟨λ_ _ e=>e,l,λa f=>by
   split at f
   .rcases f with f|rfl
    .exact .inl f
    .exact .inr h
   .exact .inl f,λ_ f=>.inl f,λa u e _=>by rw[aE (aY e h)];exact e,λa f=>by rw[aE (j a f)];exact S.has a f,λa m u e=>by rw[aE (aY e h)];exact e⟩
 refine⟨⟨S.vc,?_,λa f i=>?_,λa f=>?_⟩,g⟩
 .refine S.yW.imp λc a n=>?_
  refine n.imp (λd v r=>S.cG g r) (λu e=>?_) λb m q e=>?_
  .rw[aE (aY e h)];exact e
  .rw[aE (aY e h)];exact e
 .split at i
  .rcases i with i|rfl
   .exact S.sep a f i
   .exact j _ f rfl
  .exact S.sep a f i
 .split at f
  .rcases f with f|rfl
   .rw[aE (k a f)];exact S.dom a f
   .rw[aN];simp
  .rw[aE (k a f)];exact S.dom a f
theorem bK.laid(S:bK κ α Z Ω H){p:Addr}{o:HO}{c:Cell}(h:H p=none)(k:∀R:D->V->Prop,(∀d v,ak α Z H d v->R d v)->gO κ R (upd H p o) p c):bK κ (α++[p]) Z (Ω++[c]) (upd H p o)/\cv α Z H (α++[p]) Z (upd H p o):=by
 have f:∀a∈α,a≠p:=λa ha e=>S.has a ha (e▸h)
 have i:∀a,Z a->a≠p:=λa j e=>S.dom a j (e▸h)
 have g:cv α Z H (α++[p]) Z (upd H p o):=⟨λn a e=>by rw[List.getElem?_append_left (List.getElem?_eq_some_iff.mp e).1];exact e,λ_ h=>h,λ_ h=>.inl h,λa ha=>by
   rcases List.mem_append.mp ha with ha|ha
   .exact .inl ha
   .rw[List.mem_singleton.mp ha];exact .inr h,λa u e _=>by rw[aE (aY e h)];exact e,λa ha=>by rw[aE (f a ha)];exact S.has a ha,λa l u e=>by rw[aE (aY e h)];exact e⟩
 refine⟨⟨?_,?_,λa ha j=>?_,λa ha=>by rw[aE (i a ha)];exact S.dom a ha⟩,g⟩
 .refine List.nodup_append.mpr ⟨S.vc,by simp,λa ha b m=>?_⟩
  rw[List.mem_singleton.mp m];exact f a ha
 .refine az.append (S.yW.imp λc a k=>?_) (.one (k _ λd v r=>S.cG g r))
  refine k.imp (λd v r=>S.cG g r) (λu e=>?_) λb l q e=>?_
  .rw[aE (aY e h)];exact e
  .rw[aE (aY e h)];exact e
 .rcases List.mem_append.mp ha with ha|ha
  .exact S.sep a ha j
  .rw[List.mem_singleton.mp ha]at j;exact i _ j rfl
theorem bK.put(S:bK κ α Z Ω H){n:Nat}{p:Addr}{o:HO}{c:Cell}(E:α[n]?=some p)(s:∀o u,H p≠some (.dJ o u))(I:∀R:D->V->Prop,(∀d v,ak α Z H d v->R d v)->gO κ R (upd H p o) p c):bK κ α Z (Ω.set n c) (upd H p o)/\cv α Z H α Z (upd H p o):=by
 have w:p∈α:=List.mem_of_getElem? E
 have g:cv α Z H α Z (upd H p o):=⟨λn a e=>e,λ_ h=>h,λ_ h=>.inl h,λa k=>.inl k,λa u e k=>by rw[aE (λ(q:a=p)=>k (by rw[q];exact w))];exact e,λa k=>by
   by_cases q:a=p
   .subst q;rw[aN];simp
   .rw[aE q];exact S.has a k,λa l u e=>by rw[aE (λq=>s l u (by rw[←q];exact e))];exact e⟩
 refine⟨⟨S.vc,?_,S.sep,λa k=>?_⟩,g⟩
 .have x:∀{j:List Cell}{f:List Addr}{n:Nat},f.Nodup->az (λc a=>gO κ (ak α Z H) H a c) j f->f[n]?=some p->az (λc a=>gO κ (ak α Z (upd H p o)) (upd H p o) a c) (j.set n c) f:=by
   intro j f n y z
   induction z generalizing n with
   |nil=>intro e;simp at e
   |@cons K A j f r t B=>
    intro e;have i:=List.nodup_cons.mp y;cases n with
    |zero=>
     simp at e;subst e;refine .cons (I _ λd v r=>S.cG g r) (az.imp (λ_ _ q=>q) ?_)
     have:∀{j:List Cell}{f:List Addr},A∉f->az (λc a=>gO κ (ak α Z H) H a c) j f->az (λc a=>gO κ (ak α Z (upd H A o)) (upd H A o) a c) j f:=by
      intro j f m z
      induction z with
      |nil=>exact .nil
      |@cons L M j f r t B=>
       refine .cons (r.imp (λd v q=>S.cG g q) (λu e=>?_) λb l C e=>?_) (B λq=>m (List.mem_cons_of_mem _ q))
       .rw[aE (λq=>m (by rw[q];simp))];exact e
       .rw[aE (λq=>s l C (by rw[←q];exact e))];exact e
     exact this i.1 t
    |succ n=>
     have F:f[n]?=some p:=by simpa using e
     refine .cons (r.imp (λd v q=>S.cG g q) (λu J=>?_) λb l C G=>?_) (B i.2 F)
     .rw[aE (λq=>i.1 (by rw[q];exact List.mem_of_getElem? F))];exact J
     .rw[aE (λq=>s l C (by rw[←q];exact G))];exact G
  exact x S.vc S.yW E
 .by_cases q:a=p
  .subst q;rw[aN];simp
  .rw[aE q];exact S.dom a k
end
end Mir
namespace Mir
open PySem PySem.Spec PyProof.Rows L2
variable [aO]
abbrev e8:=D->aD->List Addr->(Addr->Prop)->Hp->Prop
def bS(κ:Str->Addr->Prop)(Φ:e8)(f:List Addr)(Z:Addr->Prop)(H:Hp)(r:aw D)(Q:VK):Prop:=match r with
 |.ok d b=>∀v c a e,cv f Z H a e c->bK κ a e b c->ak a e c d v->Q v c
 |.exc x b=>∀c a e,cv f Z H a e c->bK κ a e b c->Φ x b a e c
 |.bad=>False
structure cH(κ:Str->Addr->Prop)(hU:List Addr)(Z0:Addr->Prop)(H0:Hp)(α:List Addr)(Z:Addr->Prop)(Ω:aD)(ρ:aX)(σ:L2.St)(H:Hp):Prop where
 st:bK κ α Z Ω H
 gr:cv hU Z0 H0 α Z H
 len:σ.length=ρ.length
 val:∀(i:Nat) (d:D),ρ[i]?=some (some d)->∃v,σ[i]?=some (some v)/\ak α Z H d v
abbrev EM:=aX->aD->aw D
noncomputable def tO(κ:Str->Addr->Prop)(Φ:e8)(a:List Addr)(c:Addr->Prop)(d:Hp)(m:EM)(ρ:aX)(Ω:aD):TE:=λe H Q=>
 ∃b Z,cH κ a c d b Z Ω ρ e H/\bS κ Φ b Z H (m ρ Ω) Q
def bt(X:Cx)(κ:Str->Addr->Prop)(Φ:e8)(e:Expr)(m:EM):Prop:=∀a b c d f,PE X e (tO κ Φ a b c m d f)
section
variable{κ:Str->Addr->Prop}{Φ:e8}{α α' hU α1:List Addr}{Z Z' Z0 Z1:Addr->Prop}{Ω au:aD}{H H' H0 H1:Hp}{ρ:aX}{σ:L2.St}{Q Q':VK}{r:aw D}
theorem bS.from(g:cv α Z H α1 Z1 H1)(h:bS κ Φ α Z H r Q):bS κ Φ α1 Z1 H1 r Q:=by
 cases r with
 |ok d b=>exact λv c a e f=>h v c a e (g.trans f)
 |exc x b=>exact λc a e f=>h c a e (g.trans f)
 |bad=>exact h
theorem bS.use{f:D->aD->aw D}(h:bS κ Φ α Z H (r.bind f) Q)(k:∀d aQ,r=.ok d aQ->∀v b a c,cv α Z H a c b->bK κ a c aQ b->ak a c b d v->bS κ Φ a c b (f d aQ) Q->Q' v b):bS κ Φ α Z H r Q':=by
 cases r with
 |ok d aQ=>exact λv b a c g s q=>k d aQ rfl v b a c g s q (bS.from g h)
 |exc x aQ=>exact h
 |bad=>exact h
theorem bS.ret{d:D}{v:V}(S:bK κ α Z Ω H)(q:ak α Z H d v)(h:bS κ Φ α Z H (.ok d Ω) Q):Q v H:=h v H α Z (cv.refl S.has) S q
theorem cH.grow(S:cH κ hU Z0 H0 α Z Ω ρ σ H)(g:cv α Z H α' Z' H')(s:bK κ α' Z' au H'):cH κ hU Z0 H0 α' Z' au ρ σ H':=
 ⟨s,S.gr.trans g,S.len,λi d e=>let ⟨v,a,b⟩:=S.val i d e;⟨v,a,S.st.cG g b⟩⟩
theorem bb{d:D}{v:V}(h:fM d=some v):ak α Z H d v:=by
 cases d<;>simp only[fM]at h<;>first|cases h;simp only[ak]|cases h
theorem tw{d:D}(h:eJ d=true):∃v,fM d=some v:=by
 cases d<;>first|exact⟨_,rfl⟩|cases h
theorem dy{d:D}{v w:V}(h:fM d=some w)(r:Rep Z H d v):v=w:=by
 cases d<;>simp only[fM]at h<;>first | (cases h;simpa only [Rep]using r)|cases h
noncomputable def bo{a b:Type}(f:a->Option b):List a->Option (List b)
 |[]=>some []
 |x::xs=>match f x,bo f xs with
  |some y,some ys=>some (y::ys)
  |_,_=>none
def ef(Ω:aD):Nat->D->Option D
 |_,.non=>some .non
 |_,.bl b=>some (.bl b)
 |_,.int i=>some (.int i)
 |_,.str x=>some (.str x)
 |0,_=>none
 |n+1,.lst ds=>(bo (ef Ω n) ds).map .lst
 |n+1,.tup ds=>(bo (ef Ω n) ds).map .tup
 |n+1,.ref k=>match Ω[k]? with
  |some (.lst ds)=>(bo (ef Ω n) ds).map .lst
  |_=>none
 |_+1,.dct _ _=>none
def tB(b:List Addr)(Z:Addr->Prop):Addr->Prop:=λa=>Z a\/a∈b
theorem eB{f:D->Option D}{R:D->V->Prop}{S:D->V->Prop}(a:∀d d' v,f d=some d'->R d v->S d' v):∀{ds es:List D}{vs:List V},bo f ds=some es->az R ds vs->az S es vs
 |[],es,vs,h,r=>by cases h;rw[r.nil_inv];exact .nil
 |d::ds,es,vs,h,r=>by
  simp only[bo]at h;split at h
  .rename_i y ys h1 h2
   cases h;obtain⟨v,b,rfl,c,e⟩:=r.cons_inv;exact .cons (a d y v h1 c) (eB a h2 e)
  .cases h
theorem fZ:∀{ds:List D}{vs:List V},az (Rep Z H) ds vs->aU Z H ds vs
 |_,_,.nil=>.nil
 |_,_,.cons r t=>.cons r (fZ t)
theorem jS(S:bK κ α Z Ω H):∀(n:Nat) {d d':D}{v:V},ef Ω n d=some d'->ak α Z H d v->Rep (tB α Z) H d' v:=by
 intro n
 induction n with
 |zero=>
  intro d d' v h r;cases d<;>simp only[ef]at h<;>first | (cases h;simpa only [Rep,ak]using r)|cases h
 |succ n g=>
  intro d d' v h r;cases d with
  |lst l=>
   simp only[ef]at h;obtain⟨m,b,rfl⟩:=Option.map_eq_some_iff.mp h;simp only[ak]at r;obtain⟨a,c,rfl,i,j,e⟩:=r;simp only[Rep];exact⟨a,c,rfl,.inl i,j,fZ (eB (S:=Rep (tB α Z) H) (λd d' v q r=>g q r) b (b9.mp e))⟩
  |tup l=>
   simp only[ef]at h;obtain⟨m,b,rfl⟩:=Option.map_eq_some_iff.mp h;simp only[ak]at r;obtain⟨a,c,rfl,i,j,e⟩:=r;simp only[Rep];exact⟨a,c,rfl,.inl i,.inl j,fZ (eB (S:=Rep (tB α Z) H) (λd d' v q r=>g q r) b (b9.mp e))⟩
  |ref k=>
   simp only[ef]at h;split at h
   .rename_i l p
    obtain⟨m,b,rfl⟩:=Option.map_eq_some_iff.mp h;obtain⟨a,o,c,s,e⟩:=S.cell p;simp only[ak]at r;obtain⟨t,f,rfl⟩:=r;rw[o]at f;cases f;simp only[Rep];exact⟨a,c,rfl,.inr (List.mem_of_getElem? o),.inl s,fZ (eB (S:=Rep (tB α Z) H) (λd d' v q r=>g q r) b e)⟩
   .cases h
  |dct _ _=>cases h
  |_=>simp only[ef]at h;cases h;simpa only [Rep,ak]using r
theorem dz(S:bK κ α Z Ω H):∀a,tB α Z a->H a≠none:=λa h=>h.elim (S.dom a) (S.has a)
theorem bK.same(S:bK κ α Z Ω H)(h:iB H H'):bK κ α Z Ω H'/\cv α Z H α Z H':=by
 have g:cv α Z H α Z H':=⟨λ_ _ e=>e,λ_ z=>z,λ_ z=>.inl z,λ_ z=>.inl z,λa o e _=>h a o e,λa f=>by
  cases q:H a with
  |none=>exact absurd q (S.has a f)
  |some o=>rw[h a o q];simp,λa o u e=>h a _ e⟩
 refine⟨⟨S.vc,S.yW.imp λc a i=>i.imp (λd v r=>S.cG g r) (λo e=>h a o e) λb o u e=>h b _ e,S.sep,λa z=>?_⟩,g⟩
 cases q:H a with
 |none=>exact absurd q (S.dom a z)
 |some o=>rw[h a o q];simp
theorem bK.adopt(S:bK κ α Z Ω H)(h:iB H H'){p:Addr}(i:H p=none){c:Cell}(j:∀R:D->V->Prop,(∀d v,ak α Z H' d v->R d v)->gO κ R H' p c):bK κ (α++[p]) Z (Ω++[c]) H'/\cv α Z H (α++[p]) Z H':=by
 obtain⟨o,k⟩:=S.same h;have l:∀a∈α,a≠p:=λa ha e=>S.has a ha (e▸i)
 have m:∀a,Z a->a≠p:=λa f e=>S.dom a f (e▸i)
 have g:∀(n:Nat) (a:Addr),α[n]?=some a->(α++[p])[n]?=some a:=λn a e=>by rw[List.getElem?_append_left (List.getElem?_eq_some_iff.mp e).1];exact e
 have mono:∀d v,ak α Z H' d v->ak (α++[p]) Z H' d v:=λd v r=>r.mono g (λ_ _ _ e=>e) λ_ z=>z
 refine⟨⟨?_,?_,λa ha f=>?_,o.dom⟩,⟨g,λ_ z=>z,λ_ z=>.inl z,λa ha=>?_,k.frm,k.has,k.dJ⟩⟩
 .refine List.nodup_append.mpr ⟨S.vc,by simp,λa ha b q=>?_⟩
  rw[List.mem_singleton.mp q];exact l a ha
 .exact az.append (o.yW.imp λc a j=>j.imp mono (λ_ e=>e) λ_ _ _ e=>e) (.one (j _ mono))
 .rcases List.mem_append.mp ha with ha|ha
  .exact S.sep a ha f
  .rw[List.mem_singleton.mp ha]at f;exact m _ f rfl
 .rcases List.mem_append.mp ha with ha|ha
  .exact .inl ha
  .rw[List.mem_singleton.mp ha];exact .inr i
noncomputable def f9(Ω:aD)(c:Cell):aw D:=.ok (.ref Ω.length) (Ω++[c])
def fq(Ω:aD):Out Rs->aw D
 |.ok (own,d)=>if eJ d then .ok d Ω else match own,d with
  |true,.lst ds=>if ds.all eJ then f9 Ω (.lst ds)else .bad
  |_,_=>.bad
 |_=>.bad
theorem dA(S:bK κ α Z Ω H)(p:Addr):ak (α++[p]) Z H' (.ref Ω.length) (.ref p):=by
 simp only[ak];exact⟨p,by rw[←S.len];simp,rfl⟩
theorem mG:∀{ds:List D}{vs:List V},ds.all eJ=true->aU Z1 H1 ds vs->az (ak α Z H) ds vs
 |[],vs,_,r=>by rw[r.nil_inv];exact .nil
 |d::ds,vs,h,r=>by
  obtain⟨v,b,rfl,c,e⟩:=r.cons_inv;simp only[List.all_cons,Bool.and_eq_true]at h;obtain⟨w,a⟩:=tw h.1;obtain rfl:=dy a c;exact .cons (bb a) (mG h.2 e)
theorem iD{bw:Bool}{r:Out Rs}(S:bK κ α Z Ω H)(h:bS κ Φ α Z H (fq Ω r) Q):∃e d,r=.ok (e,d)/\∀v b m f,ew m H f b->dW bw e f H b d v->Q v b:=by
 cases r with
 |ok q=>
  obtain⟨e,d⟩:=q;refine⟨e,d,rfl,λv b m f g q=>?_⟩
  simp only[fq]at h;split at h
  .rename_i o
   obtain⟨w,i⟩:=tw o
   have p:v=w:=by
    have n:=q.nw;cases d with
    |non=>exact dy (Z:=f) (H:=b) i n
    |bl _=>exact dy (Z:=f) (H:=b) i n
    |int _=>exact dy (Z:=f) (H:=b) i n
    |str _=>exact dy (Z:=f) (H:=b) i n
    |_=>cases o
   subst p;obtain⟨j,k⟩:=S.same g.same;exact h v b α Z k j (bb i)
  .split at h
   .rename_i s t
    split at h
    .rename_i l
     unfold dW at q;rw[if_pos rfl]at q;obtain⟨a,u,x,y,rfl,z,D,A,B⟩:=q;cases y;obtain⟨j,k⟩:=S.adopt (c:=.lst s) g.same z (λR C=>⟨u,A,(mG l B).imp C⟩)
     exact h _ b _ Z k j (dA S a)
    .exact h.elim
   .exact h.elim
 |exc c E=>exact h.elim
 |bad=>exact h.elim
end
def m1(f:D->aD->aw D)(a:EM):EM:=λb c=>(a b c).bind f
def m2(f:D->D->aD->aw D)(d e:EM):EM:=λc g=>(d c g).bind λx a=>(e c a).bind λy b=>f x y b
noncomputable def ie(a b:aw D):aw D:=match a with
 |.bad=>b
 |r=>r
def fQ(f g:D->D->aD->aw D):D->D->aD->aw D:=λx y a=>ie (f x y a) (g x y a)
def f_(f g:EM):EM:=λa b=>ie (f a b) (g a b)
def vd(f:D->Out Rs):D->aD->aw D:=λx a=>match ef a 8 x with
 |some b=>fq a (f b)
 |none=>.bad
def ft(f:D->D->Out Rs):D->D->aD->aw D:=λx y a=>match ef a 8 x,ef a 8 y with
 |some b,some c=>fq a (f b c)
 |_,_=>.bad
def fR(Ω:aD):D->Option Bool
 |.ref k=>match Ω[k]? with
  |some (.lst ds)=>some (!ds.isEmpty)
  |some (.dK kvs)=>some (!kvs.isEmpty)
  |_=>none
 |d=>jE d
def dv:aw D->aw Bool
 |.ok d Ω=>match fR Ω d with
  |some b=>.ok b Ω
  |none=>.bad
 |.exc x Ω=>.exc x Ω
 |.bad=>.bad
def oO(κ:Str->Addr->Prop)(Φ:e8)(f:List Addr)(Z:Addr->Prop)(H:Hp)(r:aw Bool)(Q:Bool->Hp->Prop):Prop:=match r with
 |.ok b c=>∀d a e,cv f Z H a e d->bK κ a e c d->Q b d
 |.exc x c=>∀d a e,cv f Z H a e d->bK κ a e c d->Φ x c a e d
 |.bad=>False
def Ls(κ:Str->Addr->Prop)(Φ:e8)(a:List Addr)(c:Addr->Prop)(d:Hp)(m:EM)(ρ:aX)(Ω:aD):TT:=λe H Q=>∃b Z,cH κ a c d b Z Ω ρ e H/\oO κ Φ b Z H (dv (m ρ Ω)) Q
def gb(X:Cx)(κ:Str->Addr->Prop)(Φ:e8)(e:Expr)(m:EM):Prop:=∀a b c d f,PT X e (Ls κ Φ a b c m d f)
abbrev AM:=aX->aD->aw (List D)
def oP(κ:Str->Addr->Prop)(Φ:e8)(e:List Addr)(Z:Addr->Prop)(H:Hp)(r:aw (List D))(Q:List V->Hp->Prop):Prop:=match r with
 |.ok g b=>∀f c a d,cv e Z H a d c->bK κ a d b c->az (ak a d c) g f->Q f c
 |.exc x b=>∀c a d,cv e Z H a d c->bK κ a d b c->Φ x b a d c
 |.bad=>False
noncomputable def S7(κ:Str->Addr->Prop)(Φ:e8)(a:List Addr)(c:Addr->Prop)(d:Hp)(m:AM)(ρ:aX)(Ω:aD):TA:=λe H Q=>∃b Z,cH κ a c d b Z Ω ρ e H/\oP κ Φ b Z H (m ρ Ω) Q
def oQ(X:Cx)(κ:Str->Addr->Prop)(Φ:e8)(es:List Expr)(m:AM):Prop:=∀a b c d e,PA X es (S7 κ Φ a b c m d e)
noncomputable def af:AM:=λ_ a=>.ok [] a
def ab(a:EM)(e:AM):AM:=λd f=>(a d f).bind λx b=>(e d b).bind λg c=>.ok (x::g) c
def mN(f:List D->aD->aw D)(a:AM):EM:=λb c=>(a b c).bind f
section
variable{X:Cx}{κ:Str->Addr->Prop}{Φ:e8}{α α' hU α1:List Addr}{Z Z' Z0 Z1:Addr->Prop}{Ω au:aD}{H H' H0 H1:Hp}{ρ:aX}{σ:L2.St}{Q Q':VK}{r:aw D}{a b e:Expr}{es:List Expr}{ma mb mc m:EM}{as:AM}{pos:Pos}
theorem oP.from{r:aw (List D)}{Q:List V->Hp->Prop}(g:cv α Z H α1 Z1 H1)(h:oP κ Φ α Z H r Q):oP κ Φ α1 Z1 H1 r Q:=by
 cases r with
 |ok d b=>exact λv c a e f=>h v c a e (g.trans f)
 |exc x b=>exact λc a e f=>h c a e (g.trans f)
 |bad=>exact h
theorem oO.from{r:aw Bool}{Q:Bool->Hp->Prop}(g:cv α Z H α1 Z1 H1)(h:oO κ Φ α Z H r Q):oO κ Φ α1 Z1 H1 r Q:=by
 cases r with
 |ok d b=>exact λc a e f=>h c a e (g.trans f)
 |exc x b=>exact λc a e f=>h c a e (g.trans f)
 |bad=>exact h
theorem oP.use{r:aw (List D)}{f:List D->aD->aw D}{Q':List V->Hp->Prop}(h:bS κ Φ α Z H (r.bind f) Q)(k:∀ds aQ,r=.ok ds aQ->∀vs b a c,cv α Z H a c b->bK κ a c aQ b->az (ak a c b) ds vs->bS κ Φ a c b (f ds aQ) Q->Q' vs b):oP κ Φ α Z H r Q':=by
 cases r with
 |ok d aQ=>exact λv b a c g s q=>k d aQ rfl v b a c g s q (bS.from g h)
 |exc x aQ=>exact h
 |bad=>exact h
theorem PE.or{t u:TE}(h:PE X e t)(h':PE X e u):PE X e (λa H Q=>t a H Q\/u a H Q):=λpins s a H Q I q=>q.elim (h pins s a H Q I) (h' pins s a H Q I)
theorem PT.or{t u:TT}(h:PT X e t)(h':PT X e u):PT X e (λa H Q=>t a H Q\/u a H Q):=λpins s a H Q I q=>q.elim (h pins s a H Q I) (h' pins s a H Q I)
theorem mH{a b:aw D}:ie a b=a\/(a=.bad/\ie a b=b):=by cases a<;>simp[ie]
theorem bt.alt(h:bt X κ Φ e ma)(h':bt X κ Φ e mb):bt X κ Φ e (f_ ma mb):=by
 intro c i j d f;refine PE.imp (PE.or (h c i j d f) (h' c i j d f)) ?_;rintro l H Q ⟨k,Z,S,g⟩;rcases mH (a:=ma d f) (b:=mb d f)with q|⟨_,q⟩
 .exact .inl ⟨k,Z,S,by rw[←q];exact g⟩
 .exact .inr ⟨k,Z,S,by rw[←q];exact g⟩
theorem gb.alt(h:gb X κ Φ e ma)(h':gb X κ Φ e mb):gb X κ Φ e (f_ ma mb):=by
 intro c i j d f;refine PT.imp (PT.or (h c i j d f) (h' c i j d f)) ?_;rintro l H Q ⟨k,Z,S,g⟩;rcases mH (a:=ma d f) (b:=mb d f)with q|⟨_,q⟩
 .exact .inl ⟨k,Z,S,by rw[←q];exact g⟩
 .exact .inr ⟨k,Z,S,by rw[←q];exact g⟩
theorem hV{f g:D->D->aD->aw D}:m2 (fQ f g) ma mb=f_ (m2 f ma mb) (m2 g ma mb):=by
 funext c a
 simp only[m2,f_];cases ma c a with
 |ok x b=>
  simp only[aw.bind];cases mb c b with
  |ok y d=>rfl
  |exc x a=>rfl
  |bad=>rfl
 |exc x a=>rfl
 |bad=>rfl
theorem nI{f:D->aD->aw D}{r:V->Hp->VK->Prop}(h:∀l,PE X a l->PE X e λm H Q=>l m H λx c=>r x c Q)(o:bt X κ Φ a ma)
  (p:∀n x b Z Ω H Q,bK κ b Z Ω H->ak b Z H n x->bS κ Φ b Z H (f n Ω) Q->r x H Q):bt X κ Φ e (m1 f ma):=by
 intro i q s t Ω;refine PE.imp (h _ (o i q s t Ω)) ?_;rintro m H Q ⟨b,Z,S,g⟩;refine⟨b,Z,S,g.use λd j _ v c k u A w y z=>?_⟩
 exact p d v k u j c Q w y z
theorem dQ{f:D->D->aD->aw D}{r:R2}(h:∀u tb,PE X a u->PE X b tb->PE X e (EN r u tb))(n:bt X κ Φ a ma)(o:bt X κ Φ b mb)
  (G:∀z A x y i Z Ω H Q,bK κ i Z Ω H->ak i Z H z x->ak i Z H A y->bS κ Φ i Z H (f z A Ω) Q->r x y H Q):bt X κ Φ e (m2 f ma mb):=by
 intro c k l j Ω;rcases q:ma j Ω with ⟨d,m⟩|⟨x,m⟩|_
 .refine PE.imp (h _ _ (n c k l j Ω) (o c k l j m)) ?_
  rintro B H Q ⟨i,Z,S,g⟩;refine⟨i,Z,S,bS.use g λU C E v V p I J F K L=>?_⟩
  rw[q]at E;cases E;refine⟨p,I,S.grow J F,L.use λd2 s _ w M t N O P R T=>?_⟩
  exact G d d2 v w t N s M Q P (F.cG O K) R T
 .refine PE.imp (h _ _ (n c k l j Ω) (o c k l j Ω)) ?_
  rintro B H Q ⟨i,Z,S,g⟩;refine⟨i,Z,S,?_⟩;simp only[m2,q,aw.bind]at g ⊢;exact g
 .refine PE.imp (h _ _ (n c k l j Ω) (o c k l j Ω)) ?_
  rintro B H Q ⟨i,Z,S,g⟩;simp only[m2,q,aw.bind]at g;exact g.elim
theorem pI{bw:Bool}{f:D->Out Rs}{i:D}{x:V}(S:bK κ α Z Ω H)(j:ak α Z H i x)(h:bS κ Φ α Z H (vd f i Ω) Q) :
  ∃d a d',Now (tB α Z) H d x/\f d=.ok (a,d')/\∀v b c,ew (tB α Z) H c b->dW bw a c H b d' v->Q v b:=by
 unfold vd at h;split at h
 .rename_i d l
  obtain⟨a,d',e,k⟩:=iD (bw:=bw) S h;exact⟨d,a,d',(jS S 8 l j).now,e,λv b c g q=>k v b _ c g q⟩
 .exact h.elim
theorem gc{bw:Bool}{f:D->D->Out Rs}{i j:D}{x y:V}(S:bK κ α Z Ω H)(l:ak α Z H i x)(m:ak α Z H j y)(h:bS κ Φ α Z H (ft f i j Ω) Q) :
  ∃d e a d',Now (tB α Z) H d x/\Now (tB α Z) H e y/\f d e=.ok (a,d')/\∀v b c,ew (tB α Z) H c b->dW bw a c H b d' v->Q v b:=by
 unfold ft at h;split at h
 .rename_i d e n o
  obtain⟨a,d',p,k⟩:=iD (bw:=bw) S h;exact⟨d,e,a,d',(jS S 8 n l).now,(jS S 8 o m).now,p,λv b c g q=>k v b _ c g q⟩
 .exact h.elim
theorem zX{i:Nat}{x:Str}(c:X.N[i]?=some x)(e:EK X.env.scope x)(a:(x==("__debug__":Str))=false)(b:(x==("__classdict__":Str))=false):bt X κ Φ (.Name x pos) (λρ Ω=>match ρ[i]? with|some (some d)=>.ok d Ω|_=>.bad):=by
 intro f k l ρ Ω;refine PE.imp (CF c e a b) ?_;rintro m H Q ⟨n,Z,S,g⟩;dsimp only at g;split at g
 .rename_i d a
  obtain⟨v,h,j⟩:=S.val i d a;exact⟨v,h,bS.ret S.st j g⟩
 .exact g.elim
theorem jT{d:D}{v:V}(h:PE X e (tC v))(a:fM d=some v):bt X κ Φ e (λ_ Ω=>.ok d Ω):=by
 intro b c f i Ω;refine PE.imp h ?_;rintro j H Q ⟨k,Z,S,g⟩;exact bS.ret S.st (bb a) g
def Dq(d:D)(v:V):Prop:=fM d=some v\/d=.dct [] []
theorem xf{d:D}{v:V}(h:PE X e (tC v))(a:Dq d v):bt X κ Φ e (λ_ Ω=>.ok d Ω):=by
 intro b c f i Ω;refine PE.imp h ?_;rintro j H Q ⟨k,Z,S,g⟩;refine bS.ret S.st ?_ g;rcases a with a|rfl
 .exact bb a
 .simp only[ak]
noncomputable def cV(Ω:aD):D->Option (List D)
 |.ref k=>match Ω[k]? with
  |some (.lst ds)=>some ds
  |_=>none
 |.lst ds=>some ds
 |_=>none
theorem bO{x:D}{v:V}{ds:List D}(S:bK κ α Z Ω H)(r:ak α Z H x v)(h:cV Ω x=some ds):∃a vs,v=.ref a/\Rd H a (.lst vs)/\az (ak α Z H) ds vs:=by
 cases x with
 |ref k=>
  simp only[cV]at h;split at h
  .rename_i e f
   cases h;simp only[ak]at r;obtain⟨a,g,rfl⟩:=r;obtain⟨i,b,vs,c,d⟩:=S.cell f;rw[g]at b;cases b;exact⟨a,vs,rfl,.inl c,d⟩
  .cases h
 |lst j=>
  cases h;simp only[ak]at r;obtain⟨a,vs,rfl,_,c,d⟩:=r;exact⟨a,vs,rfl,c,b9.mp d⟩
 |_=>cases h
theorem eK{x:V}{ds:List D}(r:ak α Z H (.tup ds) x):∃a vs,x=.ref a/\Z a/\H a=some (.tup vs)/\az (ak α Z H) ds vs:=by
 simp only[ak]at r;obtain⟨a,vs,e,b,c,d⟩:=r;exact⟨a,vs,e,b,c,b9.mp d⟩
theorem gd{ds:List D}{vs:List V}(S:bK κ α Z Ω H)(r:az (ak α Z H) ds vs)(k:bS κ Φ α Z H (f9 Ω (.lst ds)) Q):∀p,H p=none->Q (.ref p) (upd H p (.lst vs)):=λp a=>by
 obtain⟨b,d⟩:=S.laid (p:=p) (o:=.lst vs) (c:=.lst ds) a λR e=>⟨vs,aN,r.imp e⟩
 exact k _ _ _ Z d b (dA S p)
theorem pJ{ds:List D}{vs:List V}(S:bK κ α Z Ω H)(r:az (ak α Z H) ds vs)(k:bS κ Φ α Z H (.ok (.tup ds) Ω) Q):∀p,H p=none->Q (.ref p) (upd H p (.tup vs)):=λp c=>by
 obtain⟨b,a⟩:=S.tr (p:=p) (o:=.tup vs) c True;simp only[if_true]at b a;refine k _ _ _ _ a b ?_;simp only[ak];exact⟨p,vs,rfl,.inr rfl,aN,b9.mpr (S.jv a r)⟩
theorem zY:oQ X κ Φ [] af:=by
 intro a c d e f;refine PA.imp qS ?_;rintro h H Q ⟨b,Z,S,g⟩;exact g [] H b Z (cv.refl S.st.has) S.st .nil
theorem xg(k:bt X κ Φ e ma)(l:oQ X κ Φ es as)(m:starEach (e::es) X.env=(false,eval e X.env)::starEach es X.env):oQ X κ Φ (e::es) (ab ma as):=by
 intro a f h b i;rcases q:ma b i with ⟨d,c⟩|⟨x,c⟩|_
 .refine PA.imp (gw (k a f h b i) (l a f h b c) m) ?_
  rintro r H Q ⟨j,Z,S,g⟩;refine⟨j,Z,S,?_⟩;simp only[ab,q,aw.bind]at g ⊢;intro v C n w s t y;refine⟨n,w,S.grow s t,?_⟩;have g:=oP.from s g
  rcases o:as b c with ⟨D,p⟩|⟨x,p⟩|_
  .rw[o]at g
   intro E F z G u A B;exact g _ _ _ _ u A (.cons (t.cG u y) B)
  .rw[o]at g;exact g
  .rw[o]at g;exact g
 .refine PA.imp (gw (k a f h b i) (l a f h b i) m) ?_
  rintro r H Q ⟨j,Z,S,g⟩;refine⟨j,Z,S,?_⟩;simp only[ab,q,aw.bind]at g ⊢;exact g
 .refine PA.imp (gw (k a f h b i) (l a f h b i) m) ?_
  rintro r H Q ⟨j,Z,S,g⟩;simp only[ab,q,aw.bind]at g;exact g.elim
def bB(ds:List D)(Ω:aD):aw D:=if small ds.length then f9 Ω (.lst ds)else .bad
def hX(ds:List D)(Ω:aD):aw D:=if small ds.length then .ok (.tup ds) Ω else .bad
theorem zZ(h:oQ X κ Φ es as):bt X κ Φ (.List es pos) (mN bB as):=by
 intro b d e f i;refine PE.imp (C7 (h b d e f i)) ?_;rintro o H Q ⟨j,Z,S,g⟩;refine⟨j,Z,S,oP.use g λp k _ q r l s t m c a=>?_⟩
 unfold bB at a;split at a
 .rename_i n
  exact⟨by rw[c.length];exact bE n,gd m c a⟩
 .exact a.elim
theorem z7{x1}(h:oQ X κ Φ es as):bt X κ Φ (.Tuple es x1 pos) (mN hX as):=by
 intro b d e f i;refine PE.imp (C5 (h b d e f i)) ?_;rintro o H Q ⟨j,Z,S,g⟩;refine⟨j,Z,S,oP.use g λp k _ q r l s t m c a=>?_⟩
 unfold hX at a;split at a
 .rename_i n
  exact⟨by rw[c.length];exact bE n,pJ m c a⟩
 .exact a.elim
def rn(x y:D)(Ω:aD):aw D:=match cV Ω x,cV Ω y with
 |some a,some b=>if small (a.length+b.length)then f9 Ω (.lst (a++b))else .bad
 |_,_=>.bad
def bf(op:Operator):D->D->aD->aw D:=match op with
 |.Add=>fQ rn (ft (eU .Add))
 |op=>ft (eU op)
theorem z8{op:Operator}(j:bt X κ Φ a ma)(m:bt X κ Φ b mb):bt X κ Φ (.BinOp a op b pos) (m2 (bf op) ma mb):=by
 have E:bt X κ Φ (.BinOp a op b pos) (m2 (ft (eU op)) ma mb):=dQ (r:=zH op) (λq tb c f=>BQ (wA op) c f) j m λs t x y u Z w H Q S h i g=>by
  obtain⟨d,e,z,N,A,B,D,k⟩:=gc (bw:=false) S h i g;exact Di (bw:=false) A B (dz S) D k
 have C:op=.Add->bt X κ Φ (.BinOp a op b pos) (m2 rn ma mb):=λe=>by
  subst e;refine dQ (r:=zH .Add) (λq tb c f=>BQ (wA .Add) c f) j m λs t x y u Z w H Q S h i g=>?_
  unfold rn at g;split at g
  .rename_i O P F G
   obtain⟨l,I,rfl,J,o⟩:=bO S h F;obtain⟨n,K,rfl,L,p⟩:=bO S i G;split at g
   .rename_i M
    exact .inr (.inr ⟨l,n,I,K,rfl,rfl,J,L,by rw[o.length,p.length];exact bE M,gd S (o.append p) g⟩)
   .exact g.elim
  .exact g.elim
 cases op with
 |Add=>show bt X κ Φ _ (m2 (fQ rn (ft (eU .Add))) ma mb);rw[hV];exact(C rfl).alt E
 |_=>exact E
def rq:D->aD->aw D:=vd λx=>match x with|.int i=>.ok (false,.int (-i))|_=>.bad
theorem z9(c:bt X κ Φ a ma):bt X κ Φ (.UnaryOp .USub a pos) (m1 rq ma):=
 nI (r:=rU λi=>.int (-i)) (λl e=>Fp C1 e) c λm x n Z o H Q S f g=>by
  obtain⟨d,h,p,j,b,k⟩:=pI (bw:=false) S f g;split at b
  .cases bA j
   cases b;exact⟨_,rfl,k _ H _ (ew.refl (dz S)) (.rep (eW rfl))⟩
  .cases b
end
noncomputable def bC{κ a:Type}[DecidableEq κ](kvs:List (κ×a))(k:κ):Option a:=(kvs.find? λb=>decide (b.1=k)).map (·.2)
noncomputable def bH{κ b:Type}[DecidableEq κ](kvs:List (κ×b))(k:κ)(v:b):List (κ×b):=
 if (kvs.any λa=>decide (a.1=k))=true then kvs.map (λa=>if a.1=k then (a.1,v)else a)else kvs++[(k,v)]
section
variable{κ:Type}[DecidableEq κ]{R:D->V->Prop}
theorem eQ.val{kvs:List (κ×D)}{a:List (κ×V)}(h:eQ R kvs a)(k:κ):(∀d,bC kvs k=some d->∃v,iu a k=some v/\R d v)/\(bC kvs k=none->iu a k=none):=by
 unfold eQ at h
 induction h with
 |nil=>exact⟨λd e=>(by cases e),λ_=>rfl⟩
 |@cons p q b n r t i=>
  obtain⟨g,j⟩:=r
  by_cases e:p.1=k
  .have c:q.1=k:=g▸e
   have f:bC (p::b) k=some p.2:=by simp[bC,List.find?_cons,e]
   rw[f,iv c];exact⟨λd l=>by cases l;exact⟨_,rfl,j⟩,λm=>by cases m⟩
  .have c:¬ q.1=k:=λz=>e (g.trans z)
   have f:bC (p::b) k=bC b k:=by simp[bC,List.find?_cons,e]
   rw[f,iw c];exact i
theorem eQ.any{kvs:List (κ×D)}{a:List (κ×V)}(h:eQ R kvs a)(k:κ):(a.any λb=>decide (b.1=k))=kvs.any λb=>decide (b.1=k):=by
 unfold eQ at h
 induction h with
 |nil=>rfl
 |@cons p q d e r t c=>rw[List.any_cons,List.any_cons,c,r.1]
theorem eQ.put{kvs:List (κ×D)}{a:List (κ×V)}(h:eQ R kvs a)(k:κ){d:D}{v:V}(r:R d v):eQ R (bH kvs k d) (putK a k v):=by
 unfold bH putK;rw[h.any];split
 .rename_i c
  clear c;unfold eQ at h
  induction h with
  |nil=>exact .nil
  |@cons p q g i b t f=>
   rw[List.map_cons,List.map_cons];refine .cons ?_ f
   by_cases e:p.1=k
   .rw[if_pos e,if_pos (b.1▸e)];exact⟨b.1,r⟩
   .rw[if_neg e,if_neg (λz=>e (b.1.trans z))];exact b
 .exact az.append h (.one ⟨rfl,r⟩)
theorem eQ.length{kvs:List (κ×D)}{a:List (κ×V)}(h:eQ R kvs a):a.length=kvs.length:=az.length h
end
noncomputable def je:D->Option Key
 |.int i=>some (.inl i)
 |.str x=>some (.inr x)
 |_=>none
def mI:D->Option (List Key)
 |.tup ds=>bo je ds
 |_=>none
section
variable{X:Cx}{κ:Str->Addr->Prop}{Φ:e8}{α α' hU α1:List Addr}{Z Z' Z0 Z1:Addr->Prop}{Ω au:aD}{H H' H0 H1:Hp}{ρ:aX}{σ:L2.St}{Q Q':VK}{r:aw D}{a b e:Expr}{es:List Expr}{ma mb mc m:EM}{as:AM}{pos:Pos}
theorem gf{d:D}{k:Key}{v:V}(h:je d=some k)(r:ak α Z H d v):v=kV k:=by
 cases d with
 |int i=>cases h;simp only[ak]at r;exact r
 |str i=>cases h;simp only[ak]at r;exact r
 |_=>cases h
theorem kK:∀{ds:List D}{a:List Key}{vs:List V},bo je ds=some a->az (ak α Z H) ds vs->vs=a.map kV
 |[],a,vs,h,r=>by cases h;rw[r.nil_inv];rfl
 |d::ds,a,vs,h,r=>by
  simp only[bo]at h;split at h
  .rename_i y ys h1 h2
   cases h;obtain⟨v,b,rfl,c,e⟩:=r.cons_inv;rw[gf h1 c,kK h2 e];rfl
  .cases h
theorem jf{d:D}{a:List Key}{v:V}(h:mI d=some a)(r:ak α Z H d v):∃b,v=.ref b/\H b=some (.tup (a.map kV)):=by
 cases d with
 |tup f=>
  obtain⟨b,g,rfl,_,c,e⟩:=eK r;rw[kK h e]at c;exact⟨b,rfl,c⟩
 |_=>cases h
def nJ(Ω:aD)(x y:D):Option (Option D):=match x with
 |.ref k=>match Ω[k]? with
  |some (.dK a)=>(je y).map (bC a)
  |some (.dT a)=>(mI y).map (bC a)
  |some (.dF a)=>(je y).map (bC a)
  |_=>none
 |_=>none
theorem pK{x y:D}{v w:V}{o:Option D}(S:bK κ α Z Ω H)(z:ak α Z H x v)(q:ak α Z H y w)(h:nJ Ω x y=some o):∃a r,v=.ref a/\iz H a w r/\(∀d,o=some d->∃u,r=some u/\ak α Z H d u)/\(o=none->r=none):=by
 cases x with
 |ref k=>
  simp only[nJ]at h;simp only[ak]at z;obtain⟨a,s,rfl⟩:=z;split at h
  .rename_i g i
   obtain⟨f,j,rfl⟩:=Option.map_eq_some_iff.mp h;obtain⟨A,c,e,l,m⟩:=S.cell i;rw[s]at c;cases c
   obtain rfl:=gf j q;obtain⟨n,p⟩:=m.val f;exact⟨a,_,rfl,iz.k l,n,p⟩
  .rename_i g i
   obtain⟨f,j,rfl⟩:=Option.map_eq_some_iff.mp h;obtain⟨A,c,e,l,m⟩:=S.cell i;rw[s]at c;cases c
   obtain⟨b,rfl,B⟩:=jf j q;obtain⟨n,p⟩:=m.val f;exact⟨a,_,rfl,iz.t l B,n,p⟩
  .rename_i g i
   obtain⟨f,j,rfl⟩:=Option.map_eq_some_iff.mp h;obtain⟨A,c,C,e,l,m⟩:=S.cell i;rw[s]at c;cases c
   obtain rfl:=gf j q;obtain⟨n,p⟩:=m.val f;exact⟨a,_,rfl,.inl ⟨e,f,.inr ⟨C,l⟩,rfl,rfl⟩,n,p⟩
  .cases h
 |_=>cases h
def cI(op:CmpOp):D->D->aD->aw D:=ft λx y=>do let r ←de op x y;Out.ok (false,D.bl r)
def eH(neg:Bool)(y x:D)(Ω:aD):aw D:=match nJ Ω x y with
 |some o=>.ok (.bl (if neg then !o.isSome else o.isSome)) Ω
 |none=>.bad
noncomputable def eR(neg:Bool)(x y:D)(Ω:aD):aw D:=match x,y with
 |.ref _,.non=>.ok (.bl neg) Ω
 |_,_=>.bad
def aG(op:CmpOp):D->D->aD->aw D:=match op with
 |.In=>fQ (cI .In) (eH false)
 |.NotIn=>fQ (cI .NotIn) (eH true)
 |.Is=>fQ (eR false) (cI .Is)
 |.IsNot=>fQ (eR true) (cI .IsNot)
 |op=>cI op
theorem rr{o:Option D}{a:Option V}{R:D->V->Prop}(b:∀d,o=some d->∃u,a=some u/\R d u)(c:o=none->a=none):a.isSome=o.isSome:=by
 cases o with
 |none=>rw[c rfl];rfl
 |some d=>obtain⟨u,e,_⟩:=b d rfl;rw[e];rfl
theorem iE{f:D->D->aD->aw D}{r:R2}(h:∀G tb,PE X a G->PE X b tb->PT X e (vX (EN r G tb)))(p:bt X κ Φ a ma)(s:bt X κ Φ b mb)(z:∀x y Ω d au,f x y Ω=.ok d au->∃t,d=.bl t)
  (P:∀I J x y i Z Ω H Q,bK κ i Z Ω H->ak i Z H I x->ak i Z H J y->bS κ Φ i Z H (f I J Ω) Q->r x y H Q):gb X κ Φ e (m2 f ma mb):=by
 intro c m n j Ω;rcases q:ma j Ω with ⟨d,k⟩|⟨x,k⟩|_
 .refine PT.imp (h _ _ (p c m n j Ω) (s c m n j k)) ?_
  rintro K H Q ⟨i,Z,S,g⟩;refine⟨i,Z,S,?_⟩;simp only[m2,q,aw.bind]at g ⊢;intro v H1 A R L M T;refine⟨A,R,S.grow L M,?_⟩;have g:=oO.from L g
  rcases B:mb j k with ⟨d2,l⟩|⟨x,l⟩|_
  .rw[B]at g
   intro w U C V N Y r2;refine P d d2 v w C V l U _ Y (M.cG N T) r2 ?_;have g:=oO.from N g
   dsimp only[aw.bind]at g;rcases o:f d d2 l with ⟨d3,E⟩|⟨x,E⟩|_
   .rw[o]at g
    obtain⟨t,rfl⟩:=z _ _ _ _ _ o;intro u H3 F Z3 g3 s3 O;simp only[ak]at O;exact⟨t,O,g H3 F Z3 g3 s3⟩
   .rw[o]at g;exact g
   .rw[o]at g;exact g
  .rw[B]at g;exact g
  .rw[B]at g;exact g
 .refine PT.imp (h _ _ (p c m n j Ω) (s c m n j Ω)) ?_
  rintro K H Q ⟨i,Z,S,g⟩;refine⟨i,Z,S,?_⟩;simp only[m2,q,aw.bind,dv]at g ⊢;exact g
 .refine PT.imp (h _ _ (p c m n j Ω) (s c m n j Ω)) ?_
  rintro K H Q ⟨i,Z,S,g⟩;simp only[m2,q,aw.bind,dv]at g;exact g.elim
noncomputable def Dr(neg:Bool):R2:=λy x H Q=>∃a o,x=.ref a/\iz H a y o/\Q (.bl (if neg then !o.isSome else o.isSome)) H
theorem xh(b:X.A.units+1<cLine):fW X (compareOp .In) (Dr false):=by
 intro pins s f H x y u v Q I c d h;obtain⟨a,o,rfl,g,q⟩:=h;obtain rfl:v=Value.ref a:=d;exact Lm b I g c λi e=>⟨.bl o.isSome,H,e,rfl,q⟩
theorem mJ(b:X.A.units+1<cLine):fW X (compareOp .NotIn) (Dr true):=by
 intro pins s f H x y u v Q I c d h;obtain⟨a,o,rfl,g,q⟩:=h;obtain rfl:v=Value.ref a:=d;exact zy b I g c λi e=>⟨.bl (!o.isSome),H,e,rfl,q⟩
theorem nK{op:CmpOp}{a b:D}{x y:V}(S:bK κ α Z Ω H)(c:ak α Z H a x)(f:ak α Z H b y)(g:bS κ Φ α Z H (cI op a b Ω) Q):wD op x y H Q:=by
 obtain⟨d,e,h,m,i,j,l,k⟩:=gc (bw:=false) S c f g;exact Dj (bw:=false) i j (dz S) l k
theorem nL{neg:Bool}{b c:D}{x y:V}(S:bK κ α Z Ω H)(d:ak α Z H b x)(e:ak α Z H c y)(g:bS κ Φ α Z H (eH neg b c Ω) Q):Dr neg x y H Q:=by
 unfold eH at g;split at g
 .rename_i o f
  obtain⟨a,h,rfl,i,j,k⟩:=pK S e d f;refine⟨a,h,rfl,i,?_⟩;rw[rr j k];exact bS.ret S (bb rfl) g
 .exact g.elim
theorem nM{neg:Bool}{op:CmpOp}(h:op=if neg then .IsNot else .Is){c e:D}{x y:V}(S:bK κ α Z Ω H)(f:ak α Z H c x)(b:ak α Z H e y)(g:bS κ Φ α Z H (eR neg c e Ω) Q) :
  (if neg then (y=.non/\Q (.bl (!decide (x=.non))) H)else (y=.non/\Q (.bl (decide (x=.non))) H)):=by
 unfold eR at g;split at g
 .simp only[ak]at f b
  obtain⟨a,_,rfl⟩:=f;have:=bS.ret S (bb (d:=.bl neg) rfl) g;cases neg
  .exact⟨b,this⟩
  .exact⟨b,this⟩
 .exact g.elim
theorem nN{op:CmpOp}:∀x y Ω d au,cI op x y Ω=.ok d au->∃t,d=.bl t:=λx y Ω d au h=>by
 unfold cI ft at h;split at h
 .rename_i a b _ _
  dsimp only at h;cases q:de op a b with
  |ok t=>
   have e:(do let r ←de op a b;Out.ok (false,D.bl r))=Out.ok (false,D.bl t):=by rw[q];rfl
   rw[e]at h;simp only[fq,eJ,if_true]at h;cases h;exact⟨_,rfl⟩
  |exc c f=>
   have e:(do let r ←de op a b;Out.ok (false,D.bl r))=Out.exc c f:=by rw[q];rfl
   rw[e]at h;cases h
  |bad=>
   have e:(do let r ←de op a b;Out.ok (false,D.bl r))=Out.bad:=by rw[q];rfl
   rw[e]at h;cases h
 .cases h
theorem tD{neg:Bool}:∀x y Ω d au,eH neg x y Ω=.ok d au->∃t,d=.bl t:=λx y Ω d au h=>by
 unfold eH at h;split at h
 .cases h;exact⟨_,rfl⟩
 .cases h
theorem tE{neg:Bool}:∀x y Ω d au,eR neg x y Ω=.ok d au->∃t,d=.bl t:=λx y Ω d au h=>by
 unfold eR at h;split at h
 .cases h;exact⟨_,rfl⟩
 .cases h
theorem tF{op:CmpOp}(s:X.A.units+64<cLine)(h:behindInMarks op b=false)(i:bt X κ Φ a ma)(j:bt X κ Φ b mb):bt X κ Φ (.Compare a [op] [b] pos) (m2 (aG op) ma mb)/\gb X κ Φ (.Compare a [op] [b] pos) (m2 (aG op) ma mb):=by
 have E:bt X κ Φ (.Compare a [op] [b] pos) (m2 (cI op) ma mb):=dQ (λk tb c d=>ip (ja s op) c d h) i j λl m x y n Z o H Q S e f g=>nK S e f g
 have T:gb X κ Φ (.Compare a [op] [b] pos) (m2 (cI op) ma mb):=iE (λk tb c d=>iq (ja s op) c d h) i j nN λl m x y n Z o H Q S e f g=>nK S e f g
 have p:X.A.units+1<cLine:=by omega
 cases op with
 |In=>
  have q:bt X κ Φ (.Compare a [.In] [b] pos) (m2 (eH false) ma mb):=dQ (λk tb c d=>ip (xh p) c d h) i j λl m x y n Z o H Q S e f g=>nL S e f g
  have r:gb X κ Φ (.Compare a [.In] [b] pos) (m2 (eH false) ma mb):=iE (λk tb c d=>iq (xh p) c d h) i j tD λl m x y n Z o H Q S e f g=>nL S e f g
  show bt X κ Φ _ (m2 (fQ (cI .In) (eH false)) ma mb)/\gb X κ Φ _ (m2 (fQ (cI .In) (eH false)) ma mb)
  rw[hV];exact⟨E.alt q,T.alt r⟩
 |NotIn=>
  have q:bt X κ Φ (.Compare a [.NotIn] [b] pos) (m2 (eH true) ma mb):=dQ (λk tb c d=>ip (mJ p) c d h) i j λl m x y n Z o H Q S e f g=>nL S e f g
  have r:gb X κ Φ (.Compare a [.NotIn] [b] pos) (m2 (eH true) ma mb):=iE (λk tb c d=>iq (mJ p) c d h) i j tD λl m x y n Z o H Q S e f g=>nL S e f g
  show bt X κ Φ _ (m2 (fQ (cI .NotIn) (eH true)) ma mb)/\gb X κ Φ _ (m2 (fQ (cI .NotIn) (eH true)) ma mb)
  rw[hV];exact⟨E.alt q,T.alt r⟩
 |Is=>
  have q:bt X κ Φ (.Compare a [.Is] [b] pos) (m2 (eR false) ma mb):=dQ (λk tb c d=>ip vW c d h) i j λl m x y n Z o H Q S e f g=>nM (neg:=false) (op:=.Is) rfl S e f g
  have r:gb X κ Φ (.Compare a [.Is] [b] pos) (m2 (eR false) ma mb):=iE (λk tb c d=>iq vW c d h) i j tE λl m x y n Z o H Q S e f g=>nM (neg:=false) (op:=.Is) rfl S e f g
  show bt X κ Φ _ (m2 (fQ (eR false) (cI .Is)) ma mb)/\gb X κ Φ _ (m2 (fQ (eR false) (cI .Is)) ma mb)
  rw[hV];exact⟨q.alt E,r.alt T⟩
 |IsNot=>
  have q:bt X κ Φ (.Compare a [.IsNot] [b] pos) (m2 (eR true) ma mb):=dQ (λk tb c d=>ip sJ c d h) i j λl m x y n Z o H Q S e f g=>nM (neg:=true) (op:=.IsNot) rfl S e f g
  have r:gb X κ Φ (.Compare a [.IsNot] [b] pos) (m2 (eR true) ma mb):=iE (λk tb c d=>iq sJ c d h) i j tE λl m x y n Z o H Q S e f g=>nM (neg:=true) (op:=.IsNot) rfl S e f g
  show bt X κ Φ _ (m2 (fQ (eR true) (cI .IsNot)) ma mb)/\gb X κ Φ _ (m2 (fQ (eR true) (cI .IsNot)) ma mb)
  rw[hV];exact⟨q.alt E,r.alt T⟩
 |Eq=>exact⟨E,T⟩
 |NotEq=>exact⟨E,T⟩
 |Lt=>exact⟨E,T⟩
 |LtE=>exact⟨E,T⟩
 |Gt=>exact⟨E,T⟩
 |GtE=>exact⟨E,T⟩
def fu(Ω:aD)(x:D):Option (List D):=match x with
 |.tup a=>some a
 |x=>cV Ω x
def z_(x y:D)(Ω:aD):aw D:=match fu Ω x,y with
 |some a,.int i=>match L2.jC a i with
  |some d=>.ok d Ω
  |none=>.bad
 |_,_=>.bad
def xi(x y:D)(Ω:aD):aw D:=match nJ Ω x y with
 |some (some d)=>.ok d Ω
 |_=>.bad
def aF:D->D->aD->aw D:=fQ z_ (fQ xi (ft qY))
theorem kL{x:D}{v:V}{ds:List D}{K:PySem.W.Frag}(S:bK κ α Z Ω H)(r:ak α Z H x v)(h:fu Ω x=some ds):∃a vs,v=.ref a/\(jM K H a vs\/qJ K H a vs)/\az (ak α Z H) ds vs:=by
 unfold fu at h;split at h
 .cases h
  obtain⟨a,vs,rfl,_,b,c⟩:=eK r;exact⟨a,vs,rfl,.inr (uV (.inl b)),c⟩
 .obtain⟨a,vs,rfl,b,c⟩:=bO S r h
  exact⟨a,vs,rfl,.inl (ky b),c⟩
theorem Aa{ds:List D}{vs:List V}{R:D->V->Prop}{i:Int}{d:D}(r:az R ds vs)(h:L2.jC ds i=some d):∃v,L2.jC vs i=some v/\R d v:=by
 unfold L2.jC at h ⊢;rw[r.length];cases q:L2.qF ds.length i with
 |none=>rw[q]at h;cases h
 |some n=>rw[q]at h;exact r.get h
theorem Ab(G:X.A.units+1<cLine)(l:sN b)(m:bt X κ Φ a ma)(n:bt X κ Φ b mb):bt X κ Φ (.Subscript a b pos) (m2 aF ma mb):=by
 unfold aF;rw[hV,hV];refine bt.alt ?_ (bt.alt ?_ ?_)
 .refine dQ (r:=Jk X.K) (λt tb f h=>BV we f h l) m n λw z x y B Z C H Q S j c g=>?_
  unfold z_ at g;split at g
  .rename_i N i o
   obtain⟨p,D,rfl,h2,q⟩:=kL (K:=X.K) S j o;simp only[ak]at c;subst c;split at g
   .rename_i d s
    obtain⟨v,E,F⟩:=Aa q s;rcases h2 with h2|h2
    .exact .inl ⟨p,D,i,v,rfl,rfl,h2,E,bS.ret S F g⟩
    .exact .inr (.inl ⟨p,D,i,v,rfl,rfl,h2,E,bS.ret S F g⟩)
   .exact g.elim
  .exact g.elim
 .refine dQ (r:=λx y H Q=>∃a v,x=.ref a/\iz H a y (some v)/\Q v H) (λt tb f h=>zA G f h l) m n λw z x y B Z C H Q S j c g=>?_
  unfold xi at g;split at g
  .rename_i d s
   obtain⟨a,O,rfl,o,h2,_⟩:=pK S j c s;obtain⟨u,rfl,q⟩:=h2 d rfl;exact⟨a,u,rfl,o,bS.ret S q g⟩
  .exact g.elim
 .refine dQ (r:=Jk X.K) (λt tb f h=>BV we f h l) m n λw z x y B Z C H Q S j c g=>?_
  obtain⟨d,e,I,P,J,L,M,k⟩:=gc (bw:=false) S j c g;exact Dl (bw:=false) J L (dz S) M k
def gg(n:Bool)(m:EM):aX->aD->aw (Option Int):=λc b=>if n=true then .ok none b else (m c b).bind λd a=>match d with
 |.int i=>.ok (some i) a
 |_=>.bad
def jH(x:D)(a b:Option Int)(Ω:aD):aw D:=match x,cV Ω x with
 |_,some c=>f9 Ω (.lst (df c a b))
 |.str z,none=>fq Ω (wy (.str z) a b)
 |_,_=>.bad
def dZ(e:EM)(f:Bool)(g:EM)(i:Bool)(j:EM):EM:=λa k=>(e a k).bind λx b=>(gg f g a b).bind λl c=>(gg i j a c).bind λh d=>jH x l h d
def Jo(X:Cx)(κ:Str->Addr->Prop)(Φ:e8)(o:Option Expr)(n:Bool)(m:EM):Prop:=(o=none/\n=true)\/∃e,o=some e/\n=false/\bt X κ Φ e m
theorem d_{o:Option Expr}{n:Bool}(h:Jo X κ Φ o n m)(g:List Addr)(r:Addr->Prop)(s:Hp)(ρ:aX)(Ω:aD):∃t,PO X o t/\∀j H b Z Q,cH κ g r s b Z Ω ρ j H ->
  (match gg n m ρ Ω with
   |.ok l aQ=>∀c a f,cv b Z H a f c->bK κ a f aQ c->Q l c
   |.exc x aQ=>∀c a f,cv b Z H a f c->bK κ a f aQ c->Φ x aQ a f c
   |.bad=>False)->t j H Q:=by
 rcases h with ⟨rfl,rfl⟩|⟨e,rfl,rfl,w⟩
 .refine⟨sM,zt,λj H b Z Q S k=>?_⟩
  exact k H b Z (cv.refl S.st.has) S.st
 .refine⟨_,zu (w g r s ρ Ω),λj H b Z Q S k=>⟨b,Z,S,?_⟩⟩
  simp only[gg,Bool.false_eq_true,if_false]at k;rcases q:m ρ Ω with ⟨d,aQ⟩|⟨x,aQ⟩|_
  .rw[q]at k
   intro v y p z A B u;cases d with
   |int i=>simp only[ak]at u;exact⟨i,u,k y p z A B⟩
   |_=>exact k.elim
  .rw[q]at k;exact k
  .rw[q]at k;exact k
theorem Ac{ds:List D}{vs:List V}{R:D->V->Prop}(h:az R ds vs)(a b:Option Int):az R (df ds a b) (uO vs a b):=by
 unfold df uO;rw[h.length];exact(h.drop _).take _
theorem Ae{lo hi:Option Expr}{M N:Bool}{O P:EM}{p2:Pos}(y:bt X κ Φ a ma)(R:Jo X κ Φ lo M O)(z:Jo X κ Φ hi N P):bt X κ Φ (.Subscript a (.Slice lo hi none p2) pos) (dZ ma M O N P):=by
 intro b e f c j;rcases q:ma c j with ⟨d,i⟩|⟨x,i⟩|_
 .obtain⟨tl,n,E⟩:=d_ R b e f c i
  rcases A:gg M O c i with ⟨l,o⟩|⟨x,o⟩|_
  .obtain⟨F,m,B⟩:=d_ z b e f c o
   refine PE.imp (fY (r:=FW X.K) (ir.or kD) (y b e f c j) n m) ?_;rintro s H Q ⟨t,Z,S,g⟩;refine⟨t,Z,S,?_⟩;simp only[dZ,q,A,aw.bind]at g ⊢;intro v T u U C G r1;have g:=bS.from C g
   have S1:=S.grow C G;refine E s T u U _ S1 ?_;rw[A];intro V w Y D I;have g:=bS.from D g
   have S2:=S1.grow D I;refine B s V w Y _ S2 ?_;rcases q3:gg N P c o with ⟨h,a0⟩|⟨x,a0⟩|_
   .rw[q3]at g
    intro H3 b0 Z3 g3 J;have g:=bS.from g3 g
    have r3:=I.cG g3 (G.cG D r1);dsimp only[aw.bind]at g;unfold jH at g;split at g
    .rename_i ds hd
     obtain⟨p,vs,rfl,h1,h2⟩:=bO J r3 hd;exact .inl ⟨p,vs,rfl,ky h1,gd J (Ac h2 l h) g⟩
    ·
     simp only[ak]at r3;subst r3;obtain⟨c0,d,L,k⟩:=iD (bw:=false) J g;simp only[wy]at L;split at L
     .rename_i hs
      cases L;exact .inr ⟨_,rfl,bE hs,k _ H3 _ _ (ew.refl J.dom) (.rep (eW rfl))⟩
     .cases L
    .exact g.elim
   .rw[q3]at g;exact g
   .rw[q3]at g;exact g
  .obtain⟨F,m,B⟩:=d_ z b e f c i
   refine PE.imp (fY (r:=FW X.K) (ir.or kD) (y b e f c j) n m) ?_;rintro s H Q ⟨t,Z,S,g⟩;refine⟨t,Z,S,?_⟩;simp only[dZ,q,A,aw.bind]at g ⊢;intro v T u U C G r1;refine E s T u U _ (S.grow C G) ?_;rw[A];intro V w Y D I;exact g V w Y (C.trans D) I
  .obtain⟨F,m,B⟩:=d_ z b e f c i
   refine PE.imp (fY (r:=FW X.K) (ir.or kD) (y b e f c j) n m) ?_;rintro s H Q ⟨t,Z,S,g⟩;simp only[dZ,q,A,aw.bind]at g;exact g.elim
 .obtain⟨tl,n,E⟩:=d_ R b e f c j
  obtain⟨F,m,B⟩:=d_ z b e f c j;refine PE.imp (fY (r:=FW X.K) (ir.or kD) (y b e f c j) n m) ?_;rintro s H Q ⟨t,Z,S,g⟩;refine⟨t,Z,S,?_⟩;simp only[dZ,q,aw.bind]at g ⊢;exact g
 .obtain⟨tl,n,E⟩:=d_ R b e f c j
  obtain⟨F,m,B⟩:=d_ z b e f c j;refine PE.imp (fY (r:=FW X.K) (ir.or kD) (y b e f c j) n m) ?_;rintro s H Q ⟨t,Z,S,g⟩;simp only[dZ,q,aw.bind]at g;exact g.elim
end
theorem PE.ex{X:Cx}{e:Expr}{b:Type}{t:b->TE}(h:∀i,PE X e (t i)):PE X e (λa H Q=>∃i,t i a H Q):=λpins s a H Q I ⟨i,q⟩=>h i pins s a H Q I q
theorem PT.ex{X:Cx}{e:Expr}{b:Type}{t:b->TT}(h:∀i,PT X e (t i)):PT X e (λa H Q=>∃i,t i a H Q):=λpins s a H Q I ⟨i,q⟩=>h i pins s a H Q I q
theorem PW.ex{X:Cx}{e:Expr}{b:Type}{t:b->TT}(h:∀i,PW X e (t i)):PW X e (λa H Q=>∃i,t i a H Q):=λc pins s a H Q I ⟨i,q⟩=>h i c pins s a H Q I q
theorem PA.ex{X:Cx}{es:List Expr}{c:Type}{t:c->TA}(h:∀i,PA X es (t i)):PA X es (λa H Q=>∃i,t i a H Q):=λb pins s a H Q I ⟨i,q⟩=>h i b pins s a H Q I q
def gh(c d:EM):EM:=λb e=>(c b e).bind λx a=>match fR a x with
 |some true=>d b a
 |some false=>.ok x a
 |none=>.bad
def ve(c d:EM):EM:=λb e=>(c b e).bind λx a=>match fR a x with
 |some false=>d b a
 |some true=>.ok x a
 |none=>.bad
def fv(b:EM):EM:=λc d=>(dv (b c d)).bind λt a=>.ok (.bl (!t)) a
def yX(mc c d:EM):EM:=λb e=>(dv (mc b e)).bind λt a=>if t=true then c b a else d b a
section
variable{X:Cx}{κ:Str->Addr->Prop}{Φ:e8}{α α' hU α1:List Addr}{Z Z' Z0 Z1:Addr->Prop}{Ω au:aD}{H H' H0 H1:Hp}{ρ:aX}{σ:L2.St}{Q Q':VK}{r:aw D}{a b e ce:Expr}{rest:List Expr}{es:List Expr}{ma mb mc m:EM}{as:AM}{pos p:Pos}
theorem gi{d:D}{v:V}{t:Bool}{K:PySem.W.Frag}(S:bK κ α Z Ω H)(r:ak α Z H d v)(h:fR Ω d=some t):oZ K v H t:=by
 cases d with
 |non=>simp only[ak]at r;subst r;cases h;rfl
 |bl b=>simp only[ak]at r;subst r;cases h;rfl
 |int b=>simp only[ak]at r;subst r;cases h;rfl
 |str b=>
  simp only[ak]at r;subst r
  have n:Now Z H (.str b) (.str b):=by simp only[Now,Rep]
  exact Dk n h
 |lst ds=>
  cases h;obtain⟨a,c,rfl,f,g⟩:=bO (ds:=ds) S r rfl;refine .inl ⟨c,ky f,?_⟩;have:=g.length;cases ds<;>cases c<;>simp at this ⊢
 |tup ds=>
  cases h;obtain⟨a,c,rfl,_,f,g⟩:=eK r;refine .inr (.inl ⟨c,uV (.inl f),?_⟩);have:=g.length;cases ds<;>cases c<;>simp at this ⊢
 |dct _ _=>cases h
 |ref k=>
  simp only[fR]at h;split at h
  .rename_i ds j
   cases h;obtain⟨a,c,rfl,f,g⟩:=bO (ds:=ds) S r (by simp only[cV,j])
   refine .inl ⟨c,ky f,?_⟩;have:=g.length;cases ds<;>cases c<;>simp at this ⊢
  .rename_i l j
   cases h;simp only[ak]at r;obtain⟨a,m,rfl⟩:=r;obtain⟨o,i,e,f,g⟩:=S.cell j;rw[m]at i;cases i
   refine .inr (.inr ⟨e,f,?_⟩);have:=g.length;cases l<;>cases e<;>simp at this ⊢
  .cases h
theorem oO.use{r:aw Bool}{f:Bool->aD->aw D}{Q':Bool->Hp->Prop}(h:bS κ Φ α Z H (r.bind f) Q)(k:∀t aQ,r=.ok t aQ->∀b a c,cv α Z H a c b->bK κ a c aQ b->bS κ Φ a c b (f t aQ) Q->Q' t b):oO κ Φ α Z H r Q':=by
 cases r with
 |ok d aQ=>exact λb a c g s=>k d aQ rfl b a c g s (bS.from g h)
 |exc x aQ=>exact h
 |bad=>exact h
theorem oO.QO{Q:Bool->Hp->Prop}{K:PySem.W.Frag}(h:oO κ Φ α Z H (dv r) Q):bS κ Φ α Z H r (λv a=>∃t,oZ K v a t/\Q t a):=by
 cases r with
 |ok d b=>
  intro v a c e g s q;simp only[dv]at h;split at h
  .rename_i t f
   exact⟨t,gi s q f,h a c e g s⟩
  .exact h.elim
 |exc x b=>exact h
 |bad=>exact h.elim
theorem Af(h:bt X κ Φ e m)(c:∀a,isTrue e X.env a=(do let v ←a;standAt e.pos;holding [v] (truthy v))):gb X κ Φ e m:=by
 intro b d f i j;refine PT.imp (v8 (h b d f i j) c) ?_;rintro l H Q ⟨k,Z,S,g⟩;exact⟨k,Z,S,g.QO⟩
theorem Ag(n:bt X κ Φ a ma)(o:bt X κ Φ (.BoolOp .And (b::rest) pos) mb):bt X κ Φ (.BoolOp .And (a::b::rest) pos) (gh ma mb):=by
 intro d k l m p;refine PE.imp (zS (n d k l m p) (PE.ex λc=>o d k l m c)) ?_
 rintro t H Q ⟨q,Z,S,g⟩;refine⟨q,Z,S,bS.use g λx c _ v u h r s e i f=>?_⟩
 split at f
 .rename_i j
  exact⟨true,gi e i j,pw ⟨c,h,r,S.grow s e,f⟩⟩
 .rename_i j
  exact⟨false,gi e i j,pv (bS.ret e i f)⟩
 .exact f.elim
theorem Ds(n:bt X κ Φ a ma)(o:bt X κ Φ (.BoolOp .Or (b::rest) pos) mb):bt X κ Φ (.BoolOp .Or (a::b::rest) pos) (ve ma mb):=by
 intro d k l m p;refine PE.imp (Dm (n d k l m p) (PE.ex λc=>o d k l m c)) ?_
 rintro t H Q ⟨q,Z,S,g⟩;refine⟨q,Z,S,bS.use g λx c _ v u h r s e i f=>?_⟩
 split at f
 .rename_i j
  exact⟨false,gi e i j,pv ⟨c,h,r,S.grow s e,f⟩⟩
 .rename_i j
  exact⟨true,gi e i j,pw (bS.ret e i f)⟩
 .exact f.elim
theorem vf{op:BoolOp}(c:bt X κ Φ a ma):bt X κ Φ (.BoolOp op [a] pos) ma:=λb d e f g=>CI (c b d e f g)
theorem Ah(d:bt X κ Φ a ma):bt X κ Φ (.UnaryOp .Not a pos) (fv ma):=by
 intro b e f h i;refine PE.imp (zT (d b e f h i)) ?_;rintro o H Q ⟨j,Z,S,g⟩;refine⟨j,Z,S,?_⟩;have:=oO.use (Q':=λt c=>Q (.bl (!t)) c) g λt k _ c l p q m n=>bS.ret m (bb rfl) n
 exact this.QO
theorem Ai(h:gb X κ Φ a ma):gb X κ Φ (.UnaryOp .Not a pos) (fv ma):=by
 intro b i j e f;refine PT.imp (CH (h b i j e f)) ?_;rintro p H Q ⟨k,Z,S,g⟩;refine⟨k,Z,S,?_⟩;simp only[fv]at g;cases q:dv (ma e f)with
 |ok t c=>rw[q]at g;exact λl d m n o=>g l d m n o
 |exc x c=>rw[q]at g;exact g
 |bad=>rw[q]at g;exact g
def B8(X:Cx)(κ:Str->Addr->Prop)(Φ:e8)(e:Expr)(m:EM):Prop:=∀a b c d f,PW X e (Ls κ Φ a b c m d f)
theorem B8.pt(h:B8 X κ Φ e m):gb X κ Φ e m:=λa b c d f=>(h a b c d f).pt
theorem Aj{op:BoolOp}(c:gb X κ Φ a ma):B8 X κ Φ (.BoolOp op [a] pos) ma:=λb d e f g=>by
 cases op with
 |And=>exact pw_and1 (c b d e f g)
 |Or=>exact pw_or1 (c b d e f g)
theorem Ak(p:gb X κ Φ a ma)(r:B8 X κ Φ (.BoolOp .And (b::rest) pos) mb):B8 X κ Φ (.BoolOp .And (a::b::rest) pos) (gh ma mb):=by
 intro e l m i n;refine PW.imp (pw_and (p e l m i n) (PW.ex λc=>r e l m i c)) ?_
 rintro t H Q ⟨s,Z,S,g⟩;refine⟨s,Z,S,?_⟩;simp only[gh]at g;cases q:ma i n with
 |ok x c=>
  rw[q]at g;dsimp only[aw.bind]at g;simp only[dv];split at g
  .rename_i f
   rw[f];exact λo d j h k=>pw ⟨c,d,j,S.grow h k,oO.from h g⟩
  .rename_i f
   rw[f];simp only[dv,f]at g;exact λo d j h k=>pv (g o d j h k)
  .exact g.elim
 |exc x c=>rw[q]at g;exact g
 |bad=>rw[q]at g;exact g.elim
theorem Dt(p:gb X κ Φ a ma)(r:B8 X κ Φ (.BoolOp .Or (b::rest) pos) mb):B8 X κ Φ (.BoolOp .Or (a::b::rest) pos) (ve ma mb):=by
 intro e l m i n;refine PW.imp (pw_or (p e l m i n) (PW.ex λc=>r e l m i c)) ?_
 rintro t H Q ⟨s,Z,S,g⟩;refine⟨s,Z,S,?_⟩;simp only[ve]at g;cases q:ma i n with
 |ok x c=>
  rw[q]at g;dsimp only[aw.bind]at g;simp only[dv];split at g
  .rename_i f
   rw[f];exact λo d j h k=>pv ⟨c,d,j,S.grow h k,oO.from h g⟩
  .rename_i f
   rw[f];simp only[dv,f]at g;exact λo d j h k=>pw (g o d j h k)
  .exact g.elim
 |exc x c=>rw[q]at g;exact g
 |bad=>rw[q]at g;exact g.elim
theorem Al(n:gb X κ Φ ce mc)(o:bt X κ Φ a ma)(p:bt X κ Φ b mb):bt X κ Φ (.IfExp ce a b pos) (yX mc ma mb):=by
 intro d h i j q;refine PE.imp (vR (n d h i j q) (PE.ex λc=>o d h i j c) (PE.ex λc=>p d h i j c)) ?_
 rintro s H Q ⟨r,Z,S,g⟩;refine⟨r,Z,S,oO.use g λt c _ u e k l m f=>?_⟩
 cases t with
 |true=>rw[if_pos rfl]at f;exact pw ⟨c,e,k,S.grow l m,f⟩
 |false=>rw[if_neg Bool.false_ne_true]at f;exact pv ⟨c,e,k,S.grow l m,f⟩
theorem Am(r:gb X κ Φ ce mc)(u:gb X κ Φ a ma)(w:gb X κ Φ b mb):gb X κ Φ (.IfExp ce a b pos) (yX mc ma mb):=by
 intro e j k f n pins s l H Q I;rintro⟨y,Z,S,g⟩;simp only[yX]at g
 have o:Ls κ Φ e j k mc f n l H (λt i=>∃c d h,cH κ e j k d h c f l i/\oO κ Φ d h i (dv (if t=true then ma f c else mb f c)) Q):=by
  refine⟨y,Z,S,?_⟩;cases q:dv (mc f n)with
  |ok t c=>
   rw[q]at g;exact λi d h p m=>⟨c,d,h,S.grow p m,oO.from p g⟩
  |exc x c=>rw[q]at g;exact g
  |bad=>rw[q]at g;exact g.elim
 refine isTrue_IfExp (bZ (r e j k f n pins s l H _ I o) λv m ⟨i,I1,c,d,h,S1,k1⟩=>?_)
 cases v with
 |true=>rw[if_pos rfl]at k1;exact u e j k f c pins m l i Q I1 ⟨d,h,S1,k1⟩
 |false=>rw[if_neg Bool.false_ne_true]at k1;exact w e j k f c pins m l i Q I1 ⟨d,h,S1,k1⟩
def kM(op b:CmpOp)(g h mc:EM):EM:=λc i=>(g c i).bind λx d=>(h c d).bind λy e=>(dv (cI op x y e)).bind λt a=>if t=true then (mc c a).bind λz f=>cI b y z f else .ok (.bl false) a
theorem xj{op b:CmpOp}(S:cH κ hU Z0 H0 α Z Ω ρ f H)(g:bS κ Φ α Z H (kM op b ma mb mc ρ Ω) Q) :
  qM (wD op) (wD b) (tO κ Φ hU Z0 H0 ma ρ Ω) (λf H Q=>∃aQ,tO κ Φ hU Z0 H0 mb ρ aQ f H Q) (λf H Q=>∃aQ,tO κ Φ hU Z0 H0 mc ρ aQ f H Q) f H Q:=by
 refine⟨α,Z,S,bS.use g λx aQ _ v P i C r j D E=>?_⟩
 refine⟨aQ,i,C,S.grow r j,bS.use E λy k _ w F l G s m A c=>?_⟩
 have I:=(S.grow r j).grow s m;refine nK (op:=op) (κ:=κ) (Φ:=Φ) m (j.cG s D) A ?_;cases q:cI op x y k with
 |ok d a=>
  obtain⟨t,rfl⟩:=nN _ _ _ _ _ q;intro u R n J o p B;simp only[ak]at B;refine⟨t,B,?_⟩;rw[q]at c;have e:bS κ Φ l G F (if t=true then (mc ρ a).bind λz h=>cI b y z h else .ok (.bl false) a) Q:=c
  have e:=bS.from o e
  cases t with
  |true=>
   rw[if_pos rfl]at e ⊢;refine⟨a,n,J,I.grow o p,bS.use e λz h _ T U K V L M N O=>?_⟩
   exact nK M (p.cG L (m.cG o A)) N O
  |false=>
   rw[if_neg Bool.false_ne_true]at e ⊢;exact bS.ret p (bb rfl) e
 |exc x a=>rw[q]at c;exact c
 |bad=>rw[q]at c;exact c
theorem An{op c:CmpOp}(j:X.A.units+64<cLine)(k:lastMarks [op,c] [b,ce]=false)(l:bt X κ Φ a ma)(m:bt X κ Φ b mb)(n:bt X κ Φ ce mc):bt X κ Φ (.Compare a [op,c] [b,ce] pos) (kM op c ma mb mc):=by
 intro d f h i o;refine PE.imp (vY (ja j op) (ja j c) (l d f h i o) (PE.ex λe=>m d f h i e) (PE.ex λe=>n d f h i e) k) ?_
 rintro p H Q ⟨q,Z,S,g⟩;exact xj S g
theorem Du{op a:CmpOp}{d:D}{au:aD}(h:kM op a ma mb mc ρ Ω=.ok d au):∃t,d=.bl t:=by
 simp only[kM]at h;cases b:ma ρ Ω with
 |ok x c=>
  rw[b]at h;dsimp only[aw.bind]at h
  cases e:mb ρ c with
  |ok y f=>
   rw[e]at h;dsimp only[aw.bind]at h
   cases g:dv (cI op x y f)with
   |ok t i=>
    rw[g]at h;dsimp only[aw.bind]at h
    split at h
    .cases j:mc ρ i with
     |ok z k=>rw[j]at h;exact nN _ _ _ _ _ h
     |exc _ _=>rw[j]at h;cases h
     |bad=>rw[j]at h;cases h
    .cases h;exact⟨_,rfl⟩
   |exc _ _=>rw[g]at h;cases h
   |bad=>rw[g]at h;cases h
  |exc _ _=>rw[e]at h;cases h
  |bad=>rw[e]at h;cases h
 |exc _ _=>rw[b]at h;cases h
 |bad=>rw[b]at h;cases h
theorem Ao{op c:CmpOp}(l:X.A.units+64<cLine)(o:lastMarks [op,c] [b,ce]=false)(p:bt X κ Φ a ma)(r:bt X κ Φ b mb)(s:bt X κ Φ ce mc):gb X κ Φ (.Compare a [op,c] [b,ce] pos) (kM op c ma mb mc):=by
 intro f i j h m;refine PT.imp (vZ (ja l op) (ja l c) (p f i j h m) (PE.ex λe=>r f i j h e) (PE.ex λe=>s f i j h e) o) ?_
 rintro B H Q ⟨C,Z,S,g⟩;refine xj S ?_;cases q:kM op c ma mb mc h m with
 |ok d e=>
  obtain⟨t,rfl⟩:=Du q;rw[q]at g;intro v u k w y z n;simp only[ak]at n;exact⟨t,n,g u k w y z⟩
 |exc x e=>rw[q]at g;exact g
 |bad=>rw[q]at g;exact g.elim
def cz(f:List D->Out Rs):List D->aD->aw D:=λb a=>match bo (ef a 8) b with
 |some c=>fq a (f c)
 |none=>.bad
theorem iF{bw:Bool}{f:List D->Out Rs}{xs:List D}{vs:List V}(S:bK κ α Z Ω H)(i:az (ak α Z H) xs vs)(h:bS κ Φ α Z H (cz f xs Ω) Q) :
  ∃ds a d',aU (tB α Z) H ds vs/\f ds=.ok (a,d')/\∀v b c,ew (tB α Z) H c b->dW bw a c H b d' v->Q v b:=by
 unfold cz at h;split at h
 .rename_i ds j
  obtain⟨a,d',e,k⟩:=iD (bw:=bw) S h;exact⟨ds,a,d',fZ (eB (S:=Rep (tB α Z) H) (λd d' v q r=>jS S 8 q r) j i),e,λv b c g q=>k v b _ c g q⟩
 .exact h.elim
theorem vg{k:Nat}{x:Str}{F:List D->Out Rs}(F0:FX X k x F)(j:cD k X.A)(l:Gl X x)(a:(x==("__debug__":Str))=false)
  (m:starEach (e::es) X.env=(false,eval e X.env)::starEach es X.env) (b:(backTo pos (starEach es X.env)).any (·.1)=false) (n:oQ X κ Φ (e::es) as) :
  bt X κ Φ (.Call (.Name x p) (e::es) [] pos) (mN (cz F) as):=by
 obtain⟨f,O,P,o,q,r,F1⟩:=F0.ex;intro c s t u w;refine PE.imp (sL F1 j l o q r .nil kr (n c s t u w) a m b) ?_;rintro R H Q ⟨y,Z,S,g⟩;refine⟨y,Z,S,oP.use g λT z _ B C d E U i G I=>?_⟩
 show kE F (B++[]) C Q E0
 rw[List.append_nil];obtain⟨J,h,K,L,M,N⟩:=iF (bw:=false) i G I;exact⟨tB d E,J,h,K,dz i,L,M,N⟩
end
end Mir
namespace L2
open PySem PySem.Spec PyProof.Rows PySem.W
section
variable{P:Program}{w:World}{K:PySem.W.Frag}{mg:Str->Option Value}{base:Heap}
end
end L2
namespace L2
open PySem PySem.Spec PyProof.Rows
def Ga(a:Addr)(o:Obj):It:=
 ⟨λi H=>∃b,H a=some (.dJ o (.dK b))/\i<b.length,λi H x d=>d=H/\∀b,H a=some (.dJ o (.dK b))->∃c,b[i]?=some c/\x=kV c.1,λi H=>∃b,H a=some (.dJ o (.dK b))/\b.length<=i⟩
theorem fw{a b:Type}{F:a->b->Prop}:∀{xs:List a}{us:List b}{i:Nat}{x:a},Paired F xs us->xs[i]?=some x->∃u,us[i]?=some u/\F x u
 |_,_,_,_,.nil,e=>by simp at e
 |_,_,0,_,.cons r _,e=>by simp at e;subst e;exact⟨_,rfl,r⟩
 |_,_,i+1,x,.cons _ t,e=>by
  obtain⟨u,h1,h2⟩:=fw (i:=i) (x:=x) t (by simpa using e)
  exact⟨u,by simpa using h1,h2⟩
theorem nO{k:Key}{u:Value}{P:Program}{w:World}(h:(ba P w).is k u=true):RelV (kV k) u:=by
 rcases bV (show kc k u=true from h)with ⟨i,t,rfl,rfl⟩|⟨x,t,rfl,rfl⟩
 .exact⟨t,rfl⟩
 .exact⟨t,rfl⟩
theorem jg{P:Program}{w:World}{H:Hp}{h:Heap}{a:Addr}{o:Obj}{kvs:List (Key×V)}{es:Array DictEntry}{ep:Nat}(ok:g_ P w H h)(e:H a=some (.dJ o (.dK kvs)))(c:o.data=.dict es ep) :
  ∃vs,KV kvs vs/\h.DictAt (ba P w) a vs ep/\es.size=vs.length/\(a==sysModules)=false:=by
 obtain⟨d,_,i,vs,r,p,j,k,b,l,f,m,g,n⟩:=ok a _ e;rw[d]at b;cases b
 rw[c]at f;cases f
 refine⟨vs,r,⟨o,es,d,l,c,m,g,n⟩,?_,i⟩;rw[←g.length];simp
theorem vh{P:Program}{w:World}{K:PySem.W.Frag}{U:Expr}(a it:Addr){o:Obj}{es:Array DictEntry}{ep:Nat}(O:o.data=.dict es ep):Turn P w K U (Ga a o) [it] it (λi h=>h.IsKeyIter it a i es.size ep) where
 mem:=by simp
 obj:=λi h f b j=>by
  have e:b=it:=by simpa using j
  subst e;obtain⟨o,e,c,d⟩:=f;exact⟨o,e,λv z=>by rw[d]at z;cases z⟩
 keep:=λi h p f k=>by
  obtain⟨o,e,c,d⟩:=f;exact⟨o,k it (by simp) o e,c,d⟩
 item:=by
  intro X y A B Q i pins s R H E I t f C;subst y A B;obtain⟨g,u,S⟩:=C;obtain⟨V,r,D,x,_⟩:=jg I.hok u O;have l:g[i]?=some g[i]:=List.getElem?_eq_getElem S;obtain⟨q,Y,Z⟩:=fw r l;obtain⟨F,G,f2,J,L,M⟩:=t it (by simp)
  rw[x]at f;refine wpAny_pyNext_dict_item f D (k:=q.1) (v:=q.2) Y λN p hk m sb=>?_
  have I1:Inv X pins R H {s with heap:=p}:=I.turned (t':=s.toks) (λb o j e=>(sb.2 b j).trans e) F G J L M
  obtain⟨o1,e1,c1,d1⟩:=id m;refine⟨N,rfl,lX (s:={s with heap:=p}) e1 c1 d1 (by decide) ⟨kV q.1,H,I1,nO hk,⟨rfl,λT n=>?_⟩,by rw[x];exact m,λb j=>(t b j).1⟩⟩
  rw[u]at n;cases n
  exact⟨g[i],l,by rw[Z.1]⟩
 done:=by
  intro X y A B Q i pins s R H E I t f C;subst y A B;obtain⟨g,u,S⟩:=C;obtain⟨V,r,D,x,_⟩:=jg I.hok u O;obtain⟨F,G,f2,J,L,M⟩:=t it (by simp)
  have hl:=r.length;rw[x]at f;exact wpAny_pyNext_dict_end (I.ok.hd Q) f D (List.getElem?_eq_none (by omega)) λp eb=>⟨rfl,I.turned (t':=s.toks) (λb o j e=>eb b o j e) F G J L M⟩
 self:=λ_ _ _ _ _ f h=>wpAny_pyIter_keyiter f h
section
variable{X:Cx}{pins:List (Addr×Obj)}{σ:St}{H:Hp}{s:Shared}
theorem Inv.tG{a:Addr}{kvs:List (Key×V)}(I:Inv X pins σ H s)(e:H a=some (.dK kvs)):∃o es ep,s.heap.get? a=some o/\o.data=.dict es ep/\Inv X pins σ (upd H a (.dJ o (.dK kvs))) s:=by
 obtain⟨z,d,f,r,o,es,ep,b,g,c,h,i,j⟩:=I.hok a _ e;refine⟨o,es,ep,b,c,?_⟩;have:=iA (t':=s.toks) (h':=s.heap) (ob:=.dJ o (.dK kvs)) I (by rw[e];exact True.intro) ⟨rfl,λ_ _=>rfl⟩ ⟨o,b⟩ ⟨b,z,d,f,r,o,es,ep,b,g,c,h,i,j⟩
 exact this
def Gb(R:It->Hp->Prop)(x:V)(c:Hp):Prop:=∃a b,x=.ref a/\((c a=some (.dK b)/\∀o,R (Ga a o) (upd c a (.dJ o (.dK b))))\/∃o,c a=some (.dJ o (.dK b))/\R (Ga a o) c)
theorem Ap{p:Expr}{x:V}{u:Value}{R:It->Hp->Prop}(l:Inv X pins σ H s)(B:RelV x u)(q:Gb R x H):wpAny (model X.prog X.w) X.A (pyIter u) (PIE X pins σ p R) X.xe s:=by
 obtain⟨a,m,rfl,q⟩:=q;cases (show u=Value.ref a from B)
 have c:∀(o:Obj) (e:Array DictEntry) (d:Nat) (f:Hp),Inv X pins σ f s->f a=some (.dJ o (.dK m))->o.data=.dict e d->R (Ga a o) f->wpAny (model X.prog X.w) X.A (pyIter (.ref a)) (PIE X pins σ p R) X.xe s:=by
  intro o e d f g C j h;obtain⟨n,r,D,E,t⟩:=jg g.hok C j;refine wpAny_pyIter_dict t D ?_;have F:Inv X pins σ f {s with heap:=s.heap.push {cls:=.type "dict_keyiterator",data:=.fields #[.ref a,.int 0 0,.int n.length 0,.int d 0]} }:=g.kept (t':=s.toks) λb o q=>Heap.get?_push_of_some _ q
  refine⟨s.heap.objs.size,[s.heap.objs.size],_,_,f,rfl,F,vh a _ j,?_,λb G=>?_,h⟩
  .rw[E]
   exact⟨{cls:=.type "dict_keyiterator",data:=.fields #[.ref a,.int 0 0,.int n.length 0,.int d 0]},Heap.get?_push_size _ rfl,rfl,rfl⟩
  .have z:b=s.heap.objs.size:=by simpa using G
   rw[z];have:=g.uC (b:=s.heap.objs.size) (Nat.le_refl _) (g.hok.fresh (Nat.le_refl _));exact this
 rcases q with ⟨k,h⟩|⟨o,k,h⟩
 .obtain⟨o,e,d,y,j,g⟩:=l.tG k
  exact c o e d _ g aN j (h o)
 .obtain⟨y,_,t,n,r,J,e,d,i,K,I,L⟩:=l.hok a _ k
  rw[y]at i;cases i
  exact c o e d _ l k I h
end
section
variable{prog:Program}{w:World}{A:Around}{E:Value->Shared->Prop}{s:Shared}
theorem vi{a:Addr}{Q:Bool->Shared->Prop}(e:s.TypeIs (.ref a) "dict")(h:Q false s):wpAny (model prog w) A (Builtin.List.listLengthHint (.ref a)) Q E s:=by
 unfold Builtin.List.listLengthHint;refine wpAny_bind (wpAny_specialOf e F.slot_dict_len.lookup ?_);generalize d:("dict.__len__":String)=f
 wp_delta
 rw[show splitId f=some ("dict","__len__")from by subst d;decide +kernel]
 subst d;refine wpAny_bind (wpAny_isInstance (T:="dict") (b:=true) e isSubtype_dict_dict ?_);refine wpAny_ite_split (λc=>absurd c (by decide)) (λ_=>?_)
 refine wpAny_ite_split (λ_=>?_) (λc=>absurd (by decide +kernel) c)
 refine wpAny_bind (wpAny_typeOf e ?_);exact wpAny_pure h
theorem nP{a:Addr}{o:Obj}{xs:Array Value}{k:Nat}{Q:Option Value->Shared->Prop}(m:s.heap.get? a=some o)(n:o.cls=.type "list")(f:o.data=.seq xs k)(p:o.dict=none)(t:A.handled=none)
  (h:∀h' q,(∀b o,s.heap.get? b=some o->h'.get? b=some o)->Q none {s with heap:=h',toks:=q}):wpAny (model prog w) A (getAttr? (.ref a) "keys") Q E s:=by
 obtain⟨c,u,x,y⟩:=o;simp only at n f p;subst n f p;obtain⟨z,g,d,q,B⟩:=s;have r:∀j,(⟨z,g,d,j,B⟩:Shared).TypeIs (.ref a) "list":=λ_=>⟨_,m,rfl⟩
 have C:=sub_AttributeError;have D:=F.slot_list_getattribute.lookup;have G:=F.slot_list_getattribute.bind (.ref a);have H:=am_list_getattr_none;have i:typeLookup (.type "list") "keys"=pure none:=am_miss_of_fast (by kernel_rfl)
 unfold getAttr? getAttrBy? getAttrBy
 repeat (any_goals (first|assumption|exact r _ | ((with_reducible show wpAny _ _ (call (Value.builtin "list.__getattribute__") _ _) _ _ _);refine call_meets F.slot_list_getattribute (r _) am_entry_list_getattribute (F.args_list_getattribute_2 _ _) (meets_getattribute_miss_list a xs k y "keys" _ i (by decide) (by decide)) ⟨m,t,λh' j e l=>?_⟩)|wp_step))
 obtain⟨I,J,K⟩:=l.there
 show wpAny _ _ (getattributeRaised _ _ _ _ _ _ _) _ _ _
 unfold getattributeRaised
 repeat (any_goals (first|assumption|wp_step))
 exact h _ _ λb o e=>l.keeps b o e
theorem bq:plainId "dict.update.loop"=true:=by decide +kernel
theorem cM:entryFor table "dict.update.loop"=some Builtin.«dict.update.loop» := entryFor_of_fast (by kernel_rfl)
variable{K:Type}[DecidableEq K]{knd:KeyKind prog w K}
theorem kN{c d:Type}{F G:c->d->Prop}(h:∀a b,F a b->G a b):∀{xs:List c}{us:List d},Paired F xs us->Paired G xs us
 |_,_,.nil=>.nil
 |_,_,.cons r t=>.cons (h _ _ r) (kN h t)
def kO(knd:KeyKind prog w K)(h:Heap)(p:K×Value)(u:Value):Prop:=∃b o a n,u=.ref b/\h.get? b=some o/\o.cls=.type "tuple"/\o.data=.seq #[a,p.2] n/\knd.is p.1 a=true
theorem pL{R:Result->Shared->Prop}{l it d:Addr}{items:List Value}{h₀:Heap}(hh:A.handled=none)(h:d≠it)(E:l≠d)(F:l≠it)(hl:h₀.IsList l items.toArray)(j:Value)(S:∀o,h₀.get? d=some o->o.cls≠.type "tuple")(U:∀o,h₀.get? it=some o->o.cls≠.type "tuple") :
  ∀(ps:List (K×Value)) (i:Nat) (t:Tok) (s:Shared) (c:List (K×Value)),Paired (kO knd h₀) ps (items.drop i)->c.length+ps.length<=sizeLine->(∀b o,b≠d->b≠it->h₀.get? b=some o->s.heap.get? b=some o)->s.heap.IsListIter it l i->s.heap.DictOf knd d c ->
  (∀h' V,(∀b o,b≠d->b≠it->s.heap.get? b=some o->h'.get? b=some o)->h'.DictOf knd d (ps.foldl (λa p=>stored a p.1 p.2) c)->R (.ok (.ret j)) {s with heap:=h',toks:=V}) ->
  codeAny (model prog w) A (.builtin "dict.update.loop" ⟨[.ref d,.ref it,.int i t,j],[]⟩) R s:=by
 intro ps
 induction ps with
 |nil=>
  intro i t s c G X H k Y Z;refine codeAny_builtin cM ?_;rw[Around.under_plainId bq _];have D:items.drop i=[]:=by generalize items.drop i=q at G;cases G;rfl
  have m:s.heap.IsList l items.toArray:=let ⟨o,y,r⟩:=hl;⟨o,H l o E F y,r⟩
  show wpAny _ A.in1 (pyNext (.ref it) >>= _) _ _ s
  refine wpAny_bind (wpAny_pyNext_list_end hh k m (by simpa using List.drop_eq_nil_iff.mp D) λh' eb=>?_)
  show wpAny _ _ (Builtin.Dict.addKeywords d [] >>= _) _ _ _
  exact wpAny_bind (wpAny_pure (wpAny_pure (Z h' s.toks (λb o _ Q e=>eb b o Q e) (Y.extBut eb h))))
 |cons p ps ih=>
  intro i t s c G X H k Y Z
  have D:∃u r,items.drop i=u::r/\kO knd h₀ p u/\Paired (kO knd h₀) ps r:=by
   generalize items.drop i=q at G;cases G with|cons a b=>exact⟨_,_,rfl,a,b⟩
  obtain⟨u,r,D,⟨b,o,I,n,rfl,y,hc,J,L⟩,a0⟩:=D
  have hi:items[i]?=some (.ref b):=by
   have:=congrArg (·[0]?) D;simpa using this
  have hr:items.drop (i+1)=r:=by rw[←List.drop_drop,D];rfl
  have m:s.heap.IsList l items.toArray:=let ⟨o,y,r⟩:=hl;⟨o,H l o E F y,r⟩
  have b0:b≠d:=λe=>S o (e▸y) hc
  have M:b≠it:=λe=>U o (e▸y) hc
  refine codeAny_builtin cM ?_;rw[Around.under_plainId bq _]
  show wpAny _ A.in1 (pyNext (.ref it) >>= _) _ _ s
  refine wpAny_bind (wpAny_pyNext_list_item k m (x:=.ref b) (by simpa using hi) λh1 N z=>?_)
  have O:h1.get? b=some o:=(z.2 b M).trans (H b o b0 M y);have c0:h1.DictOf knd d c:=Y.extBut z.extBut h;refine wpAny_bind (wpAny_holding (wpAny_bind (wpAny_tryCatch ?_)));unfold Builtin.Dict.pairItems;refine wpAny_bind (wpAny_typeOf (T:="tuple") ⟨o,O,hc⟩ ?_);rw[if_pos (by decide)]
  unfold seqItems?;refine wpAny_bind (wpAny_bind (wpAny_load O ?_));rw[J];refine wpAny_pure (wpAny_pure ?_)
  show wpAny _ _ (holding [I,p.2] (dictSet d I p.2)) _ _ _
  refine wpAny_holding (wpAny_dictSet_pairs L c0 (λQ e0 P=>?_) (by simp at X;omega))
  refine wpAny_pure ⟨plainId_quiet bq _,?_⟩;have keep:∀f g,f≠d->f≠it->s.heap.get? f=some g->Q.get? f=some g:=λf g B C e=>(P.2 f B).trans ((z.2 f C).trans e)
  show codeAny _ _ (.builtin "dict.update.loop" ⟨[.ref d,.ref it,rawInt ((i:Int)+1),j],[]⟩) _ _
  have:=ih (i+1) 0 {s with heap:=Q,toks:=s.toks+1} (stored c p.1 p.2) (by rw[hr];exact a0) (by have:=stored_length_le c p.1 p.2;simp at X;omega) (λf g B C e=>keep f g B C (H f g B C e)) (N.at λo e=>(P.2 it (Ne.symm h)).trans e) e0 (λh' V f0 g0=>Z h' V (λf g B C e=>f0 f g B C (keep f g B C e)) g0)
  exact this
theorem kP{l:Addr}{o:Obj}{items:List Value}{n:Nat}{ps:List (K×Value)}{Q:Value->Shared->Prop}(X:A.handled=none)(Y:s.heap.get? l=some o)(N:o.cls=.type "list")(g:o.data=.seq items.toArray n)(hd:o.dict=none)(hp:Paired (kO knd s.heap) ps items)(hsz:ps.length<=sizeLine)
  (h:∀h' I,(∀b o,s.heap.get? b=some o->h'.get? b=some o)->h'.DictOf knd s.heap.objs.size (ps.foldl (λa p=>stored a p.1 p.2) [])->Q (.ref s.heap.objs.size) {s with heap:=h',toks:=I}) :
  wpAny (model prog w) A (call (.type "dict") [.ref l]) Q E s:=by
 refine callType_codes (Q₁:=λt i=>t=.ref s.heap.objs.size/\i={s with heap:=s.heap.push {cls:=.type "dict",data:=.dict #[]} }) F.kt_called_dict (F.kt_typeCall_dict_1 _) F.entry_dict_init (kt_code_dict_new _ ⟨rfl,rfl⟩) ?_
 rintro t i ⟨rfl,rfl⟩;have c:(s.heap.push {cls:=.type "dict",data:=.dict #[]}).DictOf knd s.heap.objs.size []:=Heap.DictOf.new s.heap;have j:=Heap.get?_push_of_some {cls:=.type "dict",data:=.dict #[]} Y;refine⟨c.typeIs,F.args_dict_init_2 _ _,?_⟩;unfold Builtin.«dict.__init__»;refine wpAny_bind ?_;unfold Builtin.Dict.selfAndRest;refine wpAny_bind (wpAny_notOrdered_dict c.typeIs ?_)
 show wpAny _ _ (pure (s.heap.objs.size,[Value.ref l])) _ _ _
 refine wpAny_pure ?_
 show wpAny _ _ (Builtin.Dict.updateFrom "dict.__init__" s.heap.objs.size (.ref l) [] .none) _ _ _
 unfold Builtin.Dict.updateFrom;refine wpAny_bind (wpAny_typeOf (T:="list") ⟨o,j,N⟩ ?_);rw[if_pos (by decide)]
 refine wpAny_bind (nP (A:=A.in1.in1) j N g hd X λf I O=>?_)
 rw[if_pos (by decide)]
 refine wpAny_bind (wpAny_rule ?_);have x:f.IsList l items.toArray:=⟨o,O l o j,N,n,g⟩;refine wpAny_bind (wpAny_pyIter_list (s:={s with heap:=f,toks:=I}) x ?_);refine wpAny_pure ⟨plainId_quiet bq _,?_⟩;have Z:∀b o,s.heap.get? b=some o->f.get? b=some o:=λb o e=>O b o (Heap.get?_push_of_some _ e)
 have y:f.DictOf knd s.heap.objs.size []:=let ⟨o,J,L,e,r⟩:=c;⟨o,J,L,O _ o e,r⟩
 have k:s.heap.objs.size<f.objs.size:=let ⟨o,_,_,e,_⟩:=y;Heap.lt_size e
 have z:l<s.heap.objs.size:=Heap.lt_size Y;generalize hq:f.push {cls:=Value.type "list_iterator",data:=.fields #[.ref l,.int 0 0]}=B;have M:∀b o,f.get? b=some o->B.get? b=some o:=λb o e=>by rw[←hq];exact Heap.get?_push_of_some _ e
 have C:B.IsListIter f.objs.size l 0:=by rw[←hq];exact⟨_,Heap.get?_push_size _ rfl,rfl,rfl⟩
 have D:B.DictOf knd s.heap.objs.size []:=let ⟨o,J,L,e,r⟩:=y;⟨o,J,L,M _ o e,r⟩
 have m:=pL (A:=A.in1) (R:=wants (λr G=>r=Value.none/\Q (Value.ref s.heap.objs.size) G) E) (knd:=knd) (h₀:=B) (l:=l) (it:=f.objs.size) (d:=s.heap.objs.size) (items:=items) X (Nat.ne_of_lt k) (Nat.ne_of_lt z) (Nat.ne_of_lt (Nat.lt_trans z k))
  (let ⟨o,e,r⟩:=x;⟨o,M _ o e,r⟩) .none (λo e=>by
   obtain⟨o',J,L,H,q,_⟩:=D;rw[e]at H;cases H
   rw[q.1];decide) (λo e=>by
   obtain⟨o',H,q,_⟩:=C;rw[e]at H;cases H
   rw[q];decide) ps 0 0 {s with heap:=B,toks:=I} [] (by
   rw[List.drop_zero]
   exact kN (λp u P=>by
    obtain⟨b,o,m,n,e1,e2,r⟩:=P;exact⟨b,o,m,n,e1,M _ _ (Z _ _ e2),r⟩) hp) (by simpa using hsz) (λb o _ _ e=>e) C D (λh' S U V=>?_)
 .exact m
 .refine⟨rfl,h h' S (λb o e=>U b o ?_ ?_ (M _ _ (Z _ _ e))) V⟩
  .exact Nat.ne_of_lt (Heap.lt_size e)
  .exact Nat.ne_of_lt (Nat.lt_trans (Heap.lt_size e) k)
theorem kQ{a:Addr}{kvs:List (K×Value)}{ep:Nat}{Q:Value->Shared->Prop}(hh:A.handled=none)(lo:(a==sysModules)=false)(da:s.heap.DictAt knd a kvs ep)(hn:kvs.length<=sizeLine)
  (hQ:∀h' tk f M,(∀b o,s.heap.get? b=some o->h'.get? b=some o)->h'.get? s.heap.objs.size=some {cls:=.type "list",dict:=none,data:=.seq f M,slots := #[]}->ItemsOf (λi v=>∃k x,kvs[i]?=some (k,x)/\knd.is k v=true) f kvs.length->Q (.ref s.heap.objs.size) {s with heap:=h',toks:=tk}) :
  wpAny (model prog w) A (call (.type "list") [.ref a]) Q E s:=by
 refine callType_codes (Q₁:=λu m=>u=.ref s.heap.objs.size/\m={s with heap:=s.heap.push {cls:=.type "list",data:=.seq #[]} }) F.called_list (F.typeCall_list_1 _) F.entry_list_init
  (code_list_new _ ⟨rfl,rfl⟩) λu m y=>?_
 obtain⟨rfl,rfl⟩:=y;generalize d:s.heap.objs.size=S;have I:(s.heap.push {cls:=.type "list",data:=.seq #[]}).get? S=some {cls:=.type "list",data:=.seq #[]}:=by rw[←d];exact Heap.get?_push_size _ rfl
 refine⟨⟨_,I,rfl⟩,F.args_list_init_2 _ _,?_⟩
 show wpAny _ A.in1.in1 (do let N ←Builtin.List.listItems (.ref S);Builtin.List.listUpdate (.ref S) (λ_=>#[]);letGo N.toList.reverse;Builtin.List.listExtendWith (.ref S) (.ref a) .none) _ _ _
 refine wpAny_bind ?_;unfold Builtin.List.listItems;refine wpAny_bind (wpAny_seqItems I rfl (wpAny_pure ?_))
 show wpAny _ _ (updateSeq S (λ_=>#[]) >>= λ_=>letGo (#[]:Array Value).toList.reverse >>= λ_=>Builtin.List.listExtendWith (.ref S) (.ref a) .none) _ _ _
 refine wpAny_bind (wpAny_updateSeq I rfl ?_);have c:=Heap.get?_update_self (Obj.mapSeq (λ_=>(#[]:Array Value))) I rfl
 have n:S≠a:=λe=>by
  obtain⟨o,es,p,_⟩:=da;exact Nat.lt_irrefl _ ((e▸d)▸Heap.lt_size p)
 refine wpAny_bind (wpAny_letGo ?_);generalize O:(s.heap.push {cls:=.type "list",data:=.seq #[]}).update S (Obj.mapSeq (λ_=>(#[]:Array Value)))=g at c
 have k1:∀b o,s.heap.get? b=some o->g.get? b=some o:=λb o e=>by
  rw[←O];exact(Heap.get?_update_other _ _ (λz=>Nat.lt_irrefl _ ((z▸d)▸Heap.lt_size e))).trans (Heap.get?_push_of_some _ e)
 have l:g.DictAt knd a kvs ep:=da.at' λo e=>k1 a o e
 have P:({s with heap:=g}:Shared).TypeIs (.ref a) "dict":=let ⟨o,_,p,R,_⟩:=l;⟨o,p,R.1⟩
 show wpAny _ _ (Builtin.List.listExtendWith (.ref S) (.ref a) .none) _ _ {s with heap:=g}
 unfold Builtin.List.listExtendWith;refine wpAny_bind (wpAny_typeOf P ?_);have T:Builtin.List.listSameRef (.ref S) (.ref a)=false:=by simp[Builtin.List.listSameRef,n]
 have U:(Value.type "dict"==Value.type "list")=false:=by decide
 have V:(Value.type "dict"==Value.type "tuple")=false:=by decide
 simp only[T,U,V,Bool.or_false,Bool.false_eq_true,if_false];refine wpAny_bind (wpAny_pyIter_dict lo l ?_);generalize B:g.push {cls:=.type "dict_keyiterator",data:=.fields #[.ref a,.int 0 0,.int kvs.length 0,.int ep 0]}=q;have J:∀b o,g.get? b=some o->q.get? b=some o:=λb o e=>by rw[←B];exact Heap.get?_push_of_some _ e
 have X:q.IsKeyIter g.objs.size a 0 kvs.length ep:=by rw[←B];exact⟨_,Heap.get?_push_size _ rfl,rfl,rfl⟩
 have C:q.DictAt knd a kvs ep:=l.at' λo e=>J a o e
 have Y:({s with heap:=q}:Shared).TypeIs (.ref a) "dict":=let ⟨o,_,p,R,_⟩:=C;⟨o,p,R.1⟩
 refine wpAny_bind (wpAny_holding (vi (s:={s with heap:=q}) Y ?_));refine wpAny_ite_split (λ_=>?_) (λZ=>absurd (by decide) Z)
 refine wpAny_bind (wpAny_rule ?_);refine wpAny_bind ?_
 show wpAny _ _ (updateSeq S (·.push .none) >>= λ_=>updateSeq S (·.pop)) _ _ _
 refine wpAny_bind (wpAny_updateSeq (J _ _ c) rfl ?_);have h:=Heap.get?_update_self (Obj.mapSeq (·.push Value.none)) (J _ _ c) rfl;refine wpAny_updateSeq (hz:=by seq_fits) h rfl ?_
 have j:=Heap.get?_update_self (Obj.mapSeq (·.pop)) h rfl;refine wpAny_pure ⟨plainId_quiet F.plain_extend_loop _,?_⟩;generalize a0:(q.update S (Obj.mapSeq (·.push Value.none))).update S (Obj.mapSeq (·.pop))=h3 at j
 have k3:∀b o,b≠S->q.get? b=some o->h3.get? b=some o:=λb o r e=>by
  rw[←a0];exact(Heap.get?_update_other _ _ (Ne.symm r)).trans ((Heap.get?_update_other _ _ (Ne.symm r)).trans e)
 have b0:a<g.objs.size:=let ⟨o,_,p,_⟩:=l;Heap.lt_size p
 have t:S<g.objs.size:=Heap.lt_size c;have W:=(Walks.dictKeys (prog:=prog) (w:=w) (A:=A.in1.in1) (knd:=knd) hh g.objs.size a (Nat.ne_of_lt b0) kvs ep).toS;refine codeAny_extend_loopS W hn S (λL=>?_) .none kvs.length 0 _ #[] _ rfl (Nat.zero_le _) ⟨X.at λo e=>k3 _ o (Ne.symm (Nat.ne_of_lt t)) e,C.at' λo e=>k3 _ o (Ne.symm n) e⟩ j (ItemsOf.nil _) λs' f M L D G=>?_
 .rcases List.mem_cons.mp L with e|e
  .exact Nat.ne_of_lt t e
  .exact n (by simpa using e)
 .rw[Moved.eq_with L]at D ⊢
  refine⟨rfl,?_⟩;have:=hQ s'.heap s'.toks f M (λb o e=>L.heap b o (λH=>?_) (k3 _ _ (λz=>Nat.lt_irrefl _ ((z▸d)▸Heap.lt_size e)) (J _ _ (k1 _ _ e)))) (by rw[d];exact D) G
  .rw[d]at this;exact this
  .have r:=Heap.lt_size e
   rcases List.mem_cons.mp H with e' |e'
   .rw[e',←d]at r;exact Nat.lt_irrefl _ r
   .have e':b=g.objs.size:=by simpa using e'
    rw[e',d]at r;exact Nat.lt_irrefl _ (Nat.lt_trans r t)
end
section
variable{X:Cx}
theorem Aq{vs:List V}{c:Array Value}{P:Nat->Value->Prop}(h:ItemsOf P c vs.length)(j:∀(i:Nat) (u:Value) (v:V),P i u->vs[i]?=some v->RelV v u):Vals vs c.toList:=by
 have d:∀(l:List Value) (vs:List V),l.length=vs.length->(∀(i:Nat) (u:Value) (v:V),l[i]?=some u->vs[i]?=some v->RelV v u)->Vals vs l:=by
  intro l
  induction l with
  |nil=>intro vs h _;cases vs with|nil=>exact .nil|cons a b=>simp at h
  |cons u l k=>
   intro vs h g;cases vs with
   |nil=>simp at h
   |cons v vs=>exact .cons (g 0 u v rfl rfl) (k vs (by simpa using h) λi m n e f=>g (i+1) m n (by simpa using e) (by simpa using f))
 exact d _ _ (by rw[Array.length_toList,h.1]) λi u v e f=>j i u v (h.2 i u (by simpa using e)) f
theorem rC(n:X.calm=true):dn X (.type "list") (λxs H Q=>∃a kvs,xs=[V.ref a]/\Rd H a (.dK kvs)/\∀l,H l=none->Q (.ref l) (upd H l (.lst (kvs.map λb=>kV b.1)))):=by
 intro pins s S H xs T Q I r h;obtain⟨a,kvs,rfl,p,q⟩:=h;obtain⟨u,rfl,t⟩:=vals1 r;cases t;obtain⟨z,y,g,d,A⟩:=iy I.hok p;obtain⟨o,B,ep,d1,d2,d3,d4⟩:=A;have C:=d.length;refine kQ (knd:=ba X.prog X.w) (kvs:=g) (ep:=ep) (I.ok.hd n) y ⟨o,B,d1,d2,d3,d4⟩ (by omega) λD U c E F e G=>?_
 have J:Vals (kvs.map λb=>kV b.1) c.toList:=Aq (P:=λi v=>∃k x,g[i]?=some (k,x)/\(ba X.prog X.w).is k v=true) (by rw[List.length_map,←C]at *;exact G) λi u v K f=>by
  obtain⟨k,x,L,M⟩:=K
  have N:∃b,kvs[i]?=some b/\v=kV b.1:=by
   rw[List.getElem?_map]at f;cases j:kvs[i]? with
   |none=>rw[j]at f;cases f
   |some b=>rw[j]at f;cases f;exact⟨b,rfl,rfl⟩
  obtain⟨b,O,rfl⟩:=N;obtain⟨Y,m,R⟩:=fw d O;rw[L]at m;cases m
  rw[R.1];exact nO M
 exact⟨.ref s.heap.objs.size,_,I.laid F (Nat.le_refl _) (show bL X.prog X.w _ D _ (.lst _)from⟨by simpa using z,c.toList,E,J,by simpa using e⟩),rfl,q _ (I.hok.fresh (Nat.le_refl _))⟩
theorem rD:dn X (.type "dict") (λxs H Q=>∃a kvs,xs=[V.ref a]/\Rd H a (.dK kvs)/\∀l,H l=none->Q (.ref l) (upd H l (.dK kvs))):=by
 intro pins s t H xs x Q I r h;obtain⟨a,kvs,rfl,i,q⟩:=h;obtain⟨u,rfl,j⟩:=vals1 r;cases j;obtain⟨z,k,y,c,m⟩:=iy I.hok i;have A:=c.length;refine kt_call_dict (knd:=ba X.prog X.w) k m (by omega) λn d p=>?_
 have f:∀b o,s.heap.get? b=some o->n.get? b=some o:=λb o e=>(p.2 b (Nat.ne_of_lt (Heap.lt_size e))).trans (Heap.get?_push_of_some _ e)
 have g:(s.heap.objs.size==sysModules)=false:=beq_eq_false_iff_ne.mpr (Ne.symm (Nat.ne_of_lt I.big));exact⟨.ref s.heap.objs.size,_,I.laid (t':=s.toks) f (Nat.le_refl _) (kk z g c d),rfl,q _ (I.hok.fresh (Nat.le_refl _))⟩
theorem rE(M:X.calm=true):dn X (.type "dict") (λxs H Q=>∃a g ps,xs=[V.ref a]/\Rd H a (.lst g)/\Paired (λ(p:Key×V) (y:V)=>∃b,y=.ref b/\Rd H b (.tup [kV p.1,p.2])) ps g/\∀l,H l=none->Q (.ref l) (upd H l (.dK (ps.foldl (λa p=>putK a p.1 p.2) [])))):=by
 intro pins s σ H xs N Q I r h;obtain⟨a,g,ps,rfl,O,z,q⟩:=h;obtain⟨u,rfl,C⟩:=vals1 r;cases C;obtain⟨e,i,⟨o,n,P,D,E,k⟩,hz⟩:=I.list (.inl O)
 have F:∀{ps:List (Key×V)}{g:List V}{e:List Value},Paired (λ(p:Key×V) (y:V)=>∃b,y=.ref b/\Rd H b (.tup [kV p.1,p.2])) ps g->Vals g e->∃f,KV ps f/\Paired (kO (ba X.prog X.w) s.heap) f e:=by
  intro ps g e z i
  induction z generalizing e with
  |nil=>cases i;exact⟨[],.nil,.nil⟩
  |@cons p y ps g A _ m=>
   cases i with
   |@cons _ u _ N C i=>
    obtain⟨f,j,B⟩:=m i;obtain⟨b,rfl,R⟩:=A;cases (show u=Value.ref b from C)
    obtain⟨_,K,t,S,T,U,Y,Z⟩:=(show bL X.prog X.w H s.heap b (.tup [kV p.1,p.2])from wm I.hok R)
    cases t with
    |@cons _ k' _ r1 rk t=>
     cases t with
     |@cons _ v' _ r2 G t=>
      cases t with
      |nil=>exact⟨(p.1,v')::f,.cons ⟨rfl,G⟩ j,.cons ⟨b,S,k',Y,rfl,T,U,Z,jo rk⟩ B⟩
 obtain⟨f,j,B⟩:=F z i;have hl:=j.length;have a0:=Paired.length z;refine kP (knd:=ba X.prog X.w) (I.ok.hd M) P D k E B (by omega) λh' tk kp dd=>?_
 have hf:∀{ps:List (Key×V)}{f:List (Key×Value)} (c:List (Key×V)) (d:List (Key×Value)),KV c d->KV ps f->KV (ps.foldl (λa p=>putK a p.1 p.2) c) (f.foldl (λa p=>stored a p.1 p.2) d):=by
  intro ps f c d L r
  induction r generalizing c d with
  |nil=>exact L
  |@cons p q ps f A _ m=>
   simp only[List.foldl_cons];refine m _ _ ?_;rw[←A.1];exact L.put p.1 A.2
 have x:∀(ps:List (Key×V)) (c:List (Key×V)),(ps.foldl (λa p=>putK a p.1 p.2) c).length<=c.length+ps.length:=by
  intro ps
  induction ps with
  |nil=>intro c;simp
  |cons p ps m=>
   intro c;have j:=m (putK c p.1 p.2);have B:=dq c p.1 p.2;simp only[List.foldl_cons,List.length_cons]at j ⊢;omega
 have J:(ps.foldl (λa p=>putK a p.1 p.2) []).length<=sizeLine:=by
  have:=x ps [];simp at this;omega
 exact⟨.ref s.heap.objs.size,_,I.laid kp (Nat.le_refl _) (kk J (beq_eq_false_iff_ne.mpr (Ne.symm (Nat.ne_of_lt I.big))) (hf _ _ .nil j) dd),rfl,q _ (I.hok.fresh (Nat.le_refl _))⟩
end
end L2
namespace Mir
open PySem PySem.Spec PyProof.Rows L2
section
variable{X:Cx}{tg e:Expr}
def Ge(K:PySem.W.Frag)(d:TE):TI:=λe H R=>d e H λx b=>(∃a c,x=.ref a/\Rd b a (.lst c)/\R (La K a) b)\/(∃a c,x=.ref a/\Rd b a (.tup c)/\R (Lb K a) b)\/(∃y,x=.str y/\R (QJ y) b)\/Gb R x b
theorem Ar{m:TE}(n:PE X e m):PI X tg e (Ge X.K m):=by
 intro pins s p H R I h;refine bZ (n pins s p H _ I h) λv c ⟨x,g,d,i,r⟩=>?_
 have j:∀b∈[c.heap.objs.size],lL X pins g b:=λb u=>by
  obtain rfl:b=c.heap.objs.size:=by simpa using u
  exact d.uC (Nat.le_refl _) (d.hok.fresh (Nat.le_refl _))
 rcases r with ⟨a,w,rfl,k,q⟩|⟨a,w,rfl,k,q⟩|⟨y,rfl,q⟩|q
 .cases i
  obtain⟨f,z,l,A⟩:=d.list (ky (K:=X.K) k);refine wpAny_pyIter_list l.isList ?_;exact⟨c.heap.objs.size,[c.heap.objs.size],_,_,g,rfl,d.kept (t':=c.toks) λb o e=>Heap.get?_push_of_some _ e,uD a _,⟨_,Heap.get?_push_size _ rfl,rfl,rfl⟩,j,q⟩
 .cases i
  obtain⟨f,z,l,A⟩:=d.tuple (uV (K:=X.K) k);refine wpAny_pyIter_tuple (show c.heap.IsTuple a f.toArray from l) ?_
  exact⟨c.heap.objs.size,[c.heap.objs.size],_,_,g,rfl,d.kept (t':=c.toks) λb o e=>Heap.get?_push_of_some _ e,qK a _,⟨_,Heap.get?_push_size _ rfl,rfl,rfl⟩,j,q⟩
 .obtain⟨t,rfl⟩:=i
  refine wpAny_pyIter_strU ?_;exact⟨c.heap.objs.size,[c.heap.objs.size],_,_,g,rfl,d.kept (t':=c.toks) λb o e=>Heap.get?_push_of_some _ e,wU _ y t (strIterType y) (by unfold strIterType;split<;>simp),⟨_,Heap.get?_push_size _ rfl,rfl,rfl⟩,j,q⟩
 .exact Ap d i q
end
def Gf(a:Addr)(o:Obj):It:=
 ⟨λi H=>∃b,H a=some (.dJ o (.dK b))/\i<b.length,λi H x d=>∃p,x=.ref p/\H p=none/\∀b,H a=some (.dJ o (.dK b))->∃c,b[i]?=some c/\d=upd H p (.tup [kV c.1,c.2]),λi H=>∃b,H a=some (.dJ o (.dK b))/\b.length<=i⟩
theorem vj:entryFor table "dict_itemiterator.__iter__"=some Builtin.«dict_keyiterator.__iter__» :=
 entryFor_alias (id':="dict_keyiterator.__iter__") (by kernel_rfl) (by decide +kernel) (by decide +kernel) (by kernel_rfl)
theorem rF{prog:Program}{w:World}{A:Around}{E:Value->Shared->Prop}{s:Shared}{it d:Addr}{i n ep:Nat}{ok c:Value}{Q:Value->Shared->Prop}(a:IsItemIter s.heap it d i n ep ok c)(h:Q (.ref it) s):wpAny (model prog w) A (pyIter (.ref it)) Q E s:=by
 have b:s.TypeIs (.ref it) "dict_itemiterator":=⟨_,a,rfl⟩;refine wpAny_pyIter_slot b F.slot_dict_itemiterator_iter (wpAny_call_entry F.slot_dict_itemiterator_iter b vj ?_ (F.args_dict_itemiterator_iter_1 _))
 show wpAny _ _ (ret (.ref it)) _ _ s
 exact wpAny_pure ⟨_,rfl,"dict_itemiterator",_,b,F.slot_dict_itemiterator_next.lookup,h⟩
theorem rG{P:Program}{w:World}{K:PySem.W.Frag}{l:List Expr}{Y:Nat}{m:Pos}(a it:Addr){o:Obj}{es:Array DictEntry}{ep:Nat}(O:o.data=.dict es ep) :
  Turn P w K (.Tuple l Y m) (Gf a o) [it] it (λi h=>∃ok g,IsItemIter h it a i es.size ep ok g) where
 mem:=by simp
 obj:=λi h c b f=>by
  have e:b=it:=by simpa using f
  subst e;obtain⟨ok,g,c⟩:=c
  exact⟨_,c,λv z=>by
   have Z:Data.fields _=Data.cell v:=z;cases Z⟩
 keep:=λi h h' c k=>by
  obtain⟨ok,g,c⟩:=c;exact⟨ok,g,k it (by simp) _ c⟩
 item:=by
  intro X B C D Q i pins s σ H E I x c F;subst B C D;obtain⟨d,y,R⟩:=F;obtain⟨ok,g,c⟩:=c;obtain⟨vs,r,G,A,_⟩:=jg I.hok y O;have n:d[i]?=some d[i]:=List.getElem?_eq_getElem R;obtain⟨q,hv,S⟩:=fw r n;have p:it<s.heap.objs.size:=Heap.lt_size c;rw[A]at c;refine wpAny_pyNext_items_item c G (k:=q.1) (v:=q.2) hv λj h' hk so tu sz kp=>?_
  refine⟨_,rfl,wpAny_letOwnedTupleGo_items (s:={s with heap:=h' }) so λt se T=>?_⟩
  have J:∀b o,b∉[it]->s.heap.get? b=some o->t.get? b=some o:=λb o f q=>by
   have U:b≠it:=λz=>f (by simp[z])
   exact T.extBut b o U (kp b o U q)
  have L:t.get? s.heap.objs.size=some {cls:=.type "tuple",data:=.seq #[j,q.2]}:=T.extBut _ _ (Nat.ne_of_gt p) tu;refine⟨.ref s.heap.objs.size,upd H s.heap.objs.size (.tup [kV d[i].1,d[i].2]),?_,rfl,⟨_,rfl,I.hok.fresh (Nat.le_refl _),λV u=>?_⟩,⟨_,_,by rw[A];exact se⟩,λb f=>?_⟩
  .have M:IsTup t s.heap.objs.size [j,q.2].toArray:=⟨_,L,rfl,_,rfl⟩
   have N:bL X.prog X.w (upd H s.heap.objs.size (.tup [kV d[i].1,d[i].2])) t s.heap.objs.size (.tup [kV d[i].1,d[i].2]):=⟨by rw[sizeLine_eq];simp,[j,q.2],.cons (by rw[S.1];exact nO hk) (.cons S.2 .nil),M⟩
   have:=jt (s:=s) (h':=t) (t':=s.toks) I x J (Nat.le_refl _) N;exact this
  .rw[y]at u;cases u
   exact⟨d[i],n,rfl⟩
  .have e:b=it:=by simpa using f
   subst e;rw[aE (Nat.ne_of_lt p)];exact(x b f).1
 done:=by
  intro X B C D Q i pins s σ H E I x c F;subst B C D;obtain⟨d,y,R⟩:=F;obtain⟨ok,g,c⟩:=c;obtain⟨vs,r,G,A,_⟩:=jg I.hok y O;obtain⟨f0,f1,f2,f3,f4,f5⟩:=x it (by simp)
  have hl:=r.length;rw[A]at c;exact wpAny_pyNext_items_end (I.ok.hd Q) c G (List.getElem?_eq_none (by omega)) λh' eb=>⟨rfl,I.turned (t':=s.toks) (λb o f e=>eb b o f e) f0 f1 f3 f4 f5⟩
 self:=λ_ _ _ _ _ c h=>by
  obtain⟨ok,g,c⟩:=c;exact rF c h
def Lu(R:It->Hp->Prop)(x:V)(c:Hp):Prop:=∃a b,x=.ref a/\((c a=some (.dK b)/\∀o,R (Gf a o) (upd c a (.dJ o (.dK b))))\/∃o,c a=some (.dJ o (.dK b))/\R (Gf a o) c)
theorem xk{X:Cx}{o:Expr}{S:TE}{g:List Expr}{M:Nat}{i j k:Pos}(n:attributeBase o "items" X.env (eval o X.env)=eval o X.env)(p:(j.endLine==k.line)=true)(B:PE X o S) :
  PI X (.Tuple g M i) (.Call (.Attribute o "items" j) [] [] k) (λt H R=>S t H (Lu R)):=by
 intro pins s t H R I h;refine wpAny_Call_method0_late n p (bZ (B pins s t H _ I h) λv s1 ⟨x,H1,I1,Z,q1⟩=>?_)
 obtain⟨a,u,rfl,q⟩:=q1;cases (show v=Value.ref a from Z)
 have l:∀(c:Obj) (m:Array DictEntry) (f:Nat) (y:Hp),Inv X pins t y s1->y a=some (.dJ c (.dK u))->c.data=.dict m f->R (Gf a c) y->wpAny (model X.prog X.w) X.A (call (.builtin "dict.items") [.ref a]) (λv s2=>wpAny (model X.prog X.w) X.A (pyIter v) (PIE X pins t (.Tuple g M i) R) X.xe s2) X.xe s1:=by
  intro c m f y K e2 L D;obtain⟨E,r,T,hz,U⟩:=jg K.hok e2 L;have V:s1.heap.DictOf (ba X.prog X.w) a E:=let ⟨o,m,B,r⟩:=T;⟨o,m,f,B,r⟩
  refine call_meetsIn F.slot_dict_items V.typeIs F.entry_dict_items (F.args_dict_items_1 _) (meets_dict_items (ba X.prog X.w) a U) ⟨⟨E,V⟩,?_⟩;generalize G:s1.heap.push {cls:=.type "dict_items",data:=.fields #[.ref a]}=d;have Y:∀b o,s1.heap.get? b=some o->d.get? b=some o:=λb o e=>by rw[←G];exact Heap.get?_push_of_some _ e
  have hv:d.IsItemsView s1.heap.objs.size a:=by rw[←G];exact⟨_,Heap.get?_push_size _ rfl,rfl,rfl⟩
  have N:d.DictAt (ba X.prog X.w) a E f:=T.at' λo e=>Y a o e
  have O:Inv X pins t y {s1 with heap:=d}:=K.kept (t':=s1.toks) Y;refine wpAny_pyIter_items (s:={s1 with heap:=d}) hv N ?_;have I4:Inv X pins t y {s1 with heap:=d.push {cls:=.type "dict_itemiterator",data:=.fields #[.none,.bool false,.ref a,.int 0 0,.int E.length 0,.int f 0,.none,.none]} }:=O.kept (t':=s1.toks) λb o q=>Heap.get?_push_of_some _ q
  refine⟨d.objs.size,[d.objs.size],_,_,y,rfl,I4,rG a _ L,?_,λb hb=>?_,D⟩
  .rw[hz]
   exact⟨_,_,Heap.get?_push_size _ rfl⟩
  .have z:b=d.objs.size:=by simpa using hb
   rw[z];exact O.uC (b:=d.objs.size) (Nat.le_refl _) (O.hok.fresh (Nat.le_refl _))
 rcases q with ⟨C,D⟩|⟨c,C,D⟩
 .obtain⟨P,Q,t3⟩:=wu I1 (.inl ⟨u,.inl C⟩)
  obtain⟨c,m,f,B,L,K⟩:=I1.tG C;exact⟨"dict","dict.items",F.plainAttrs_dict,F.slot_dict_items,F.type_dict_items,P,Q,Calls.callWith_builtin rfl (PySem.evalArgs_none (l c m f _ K aN L (D c)))⟩
 .obtain⟨P,Q,t3⟩:=wu I1 (.inl ⟨u,.inr ⟨c,C⟩⟩)
  obtain⟨B,_,U,E,r,o',m,f,J,M,x2,x3⟩:=I1.hok a _ C;rw[B]at J;cases J
  exact⟨"dict","dict.items",F.plainAttrs_dict,F.slot_dict_items,F.type_dict_items,P,Q,Calls.callWith_builtin rfl (PySem.evalArgs_none (l c m f _ I1 C x2 D))⟩
variable [aO]
def lP(f g:List D->aD->aw D):List D->aD->aw D:=λa b=>ie (f a b) (g a b)
def nQ(xs:List D)(Ω:aD):aw D:=match xs with
 |[x]=>match fu Ω x with
  |some a=>.ok (.int a.length) Ω
  |none=>.bad
 |_=>.bad
noncomputable def rH(xs:List D)(Ω:aD):aw D:=match xs with
 |[.ref k]=>match Ω[k]? with
  |some (.dK a)=>.ok (.int a.length) Ω
  |some (.dT a)=>.ok (.int a.length) Ω
  |some (.dF a)=>.ok (.int a.length) Ω
  |_=>.bad
 |_=>.bad
def iG(xs:List D)(Ω:aD):aw D:=match xs with
 |[x]=>match fu Ω x with
  |some a=>f9 Ω (.lst a)
  |none=>.bad
 |_=>.bad
noncomputable def jh:Key->D
 |.inl i=>.int i
 |.inr x=>.str x
noncomputable def vk(Ω:aD)(x:D):Option (List (Key×D)):=match x with
 |.ref k=>(match Ω[k]? with
  |some (.dK a)=>some a
  |some (.dF a)=>some a
  |_=>none)
 |_=>none
def jw(xs:List D)(Ω:aD):aw D:=match xs with
 |[x]=>match vk Ω x with
  |some a=>f9 Ω (.lst (a.map λb=>jh b.1))
  |none=>.bad
 |_=>.bad
def tH(xs:List D)(Ω:aD):aw D:=match xs with
 |[x]=>match vk Ω x with
  |some a=>f9 Ω (.dK a)
  |none=>.bad
 |_=>.bad
def kR:D->Option (Key×D)
 |.tup [k,v]=>(je k).map λk=>(k,v)
 |_=>none
def jx(xs:List D)(Ω:aD):aw D:=match xs with
 |[x]=>match cV Ω x with
  |some b=>match bo kR b with
   |some c=>f9 Ω (.dK (c.foldl (λa p=>bH a p.1 p.2) []))
   |none=>.bad
  |none=>.bad
 |_=>.bad
def pM:List D->aD->aw D:=lP jx tH
def kT(xs:List D)(Ω:aD):aw D:=match xs with
 |[.tup a]=>.ok (.tup a) Ω
 |[x]=>match cV Ω x with
  |some a=>.ok (.tup a) Ω
  |none=>.bad
 |_=>.bad
def Dv:List D->Out Rs
 |[.str z]=>if small z.length then .ok (false,.int z.length)else .bad
 |_=>.bad
def Dw:List D->Out Rs
 |[.lst xs]=>match eV xs with|some bs=>.ok (false,.bl (bs.all id))|none=>.bad
 |_=>.bad
def Dx:List D->Out Rs
 |[.lst xs]=>match eV xs with|some bs=>.ok (false,.bl (bs.any id))|none=>.bad
 |_=>.bad
def xl:jQ->List D->Out Rs
 |.len=>Dv
 |.all=>Dw
 |.any=>Dx
 |_=>λ_=>.bad
def lQ(f:jQ):List D->aD->aw D:=cz (xl f)
def bu(f:jQ):List D->aD->aw D:=match f with
 |.len=>lP nQ (lP rH (lQ .len))
 |.list=>lP iG jw
 |.tuple=>kT
 |f=>lQ f
section
variable{X:Cx}{κ:Str->Addr->Prop}{Φ:e8}{α α' hU α1:List Addr}{Z Z' Z0 Z1:Addr->Prop}{Ω au:aD}{H H' H0 H1:Hp}{ρ:aX}{σ:L2.St}{Q Q':VK}{r:aw D}{a b e ce o:Expr}{rest:List Expr}{es:List Expr}{ma mb mc m mo:EM}{as:AM}{pos p apos cpos:Pos}
theorem nS{f g:List D->aD->aw D}:mN (lP f g) as=f_ (mN f as) (mN g as):=by
 funext b a
 simp only[mN,f_];cases as b a with
 |ok x c=>rfl
 |exc x a=>rfl
 |bad=>rfl
theorem gj{f:List D->aD->aw D}{j:String}{x:Str}{r:List V->Hp->VK->Prop}(k:dn X (.builtin j) r)(l:Gl X x)(m:X.mg x=none)(n:bootBuiltins x=some (.builtin j))(o:x≠"__name__")(b:(x==("__debug__":Str))=false)
  (q:starEach (e::es) X.env=(false,eval e X.env)::starEach es X.env) (c:(backTo pos (starEach es X.env)).any (·.1)=false) (s:oQ X κ Φ (e::es) as)
  (t:∀xs vs a Z Ω H Q,bK κ a Z Ω H->az (ak a Z H) xs vs->bS κ Φ a Z H (f xs Ω) Q->r vs H Q):bt X κ Φ (.Call (.Name x p) (e::es) [] pos) (mN f as):=by
 intro d u w y Ω;refine PE.imp (o_ k l m n (s d u w y Ω) o b q c) ?_;rintro F H Q ⟨a,Z,S,g⟩;exact⟨a,Z,S,oP.use g λxs h _ vs z i A G B C E=>t xs vs i A h z Q B C E⟩
theorem gk{f:List D->aD->aw D}{j:String}{x:Str}{r:List V->Hp->VK->Prop}(k:dn X (.type j) r)(l:Gl X x)(m:X.mg x=none)(n:bootBuiltins x=some (.type j))(o:x≠"__name__")(b:(x==("__debug__":Str))=false)
  (q:starEach (e::es) X.env=(false,eval e X.env)::starEach es X.env) (c:(backTo pos (starEach es X.env)).any (·.1)=false) (s:oQ X κ Φ (e::es) as)
  (t:∀xs vs a Z Ω H Q,bK κ a Z Ω H->az (ak a Z H) xs vs->bS κ Φ a Z H (f xs Ω) Q->r vs H Q):bt X κ Φ (.Call (.Name x p) (e::es) [] pos) (mN f as):=by
 intro d u w y Ω;refine PE.imp (uN k l m n (s d u w y Ω) o b q c) ?_;rintro F H Q ⟨a,Z,S,g⟩;exact⟨a,Z,S,oP.use g λxs h _ vs z i A G B C E=>t xs vs i A h z Q B C E⟩
theorem gy:∀{ds:List D}{vs:List V},aU Z H ds vs->wF Z H ds vs
 |[],vs,h=>h.nil_inv
 |d::ds,vs,h=>by
  obtain⟨v,r,rfl,h1,h2⟩:=h.cons_inv;exact⟨v,r,rfl,h1.now,gy h2⟩
theorem pN{x:D}{v:V}{kvs:List (Key×D)}(S:bK κ α Z Ω H)(r:ak α Z H x v)(h:vk Ω x=some kvs):∃a b,v=.ref a/\Rd H a (.dK b)/\eQ (ak α Z H) kvs b:=by
 unfold vk at h;split at h
 .rename_i k
  simp only[ak]at r;obtain⟨a,i,rfl⟩:=r;split at h
  .rename_i d e
   cases h;obtain⟨j,c,b,f,g⟩:=S.cell e;rw[i]at c;cases c
   exact⟨a,b,rfl,.inl f,g⟩
  .rename_i d e
   cases h;obtain⟨j,c,l,b,f,g⟩:=S.cell e;rw[i]at c;cases c
   exact⟨a,b,rfl,.inr ⟨l,f⟩,g⟩
  .cases h
 .cases h
theorem As{xs:List D}{vs:List V}(S:bK κ α Z Ω H)(d:az (ak α Z H) xs vs)(g:bS κ Φ α Z H (jw xs Ω) Q):∃a kvs,vs=[V.ref a]/\Rd H a (.dK kvs)/\∀l,H l=none->Q (.ref l) (upd H l (.lst (kvs.map λc=>kV c.1))):=by
 unfold jw at g;split at g
 .split at g
  .rename_i kvs e
   obtain⟨v,r,rfl,f,h⟩:=d.cons_inv;rw[h.nil_inv];obtain⟨a,b,rfl,i,j⟩:=pN S f e;refine⟨a,b,rfl,i,gd S ?_ g⟩
   have:∀{kvs:List (Key×D)}{b:List (Key×V)},eQ (ak α Z H) kvs b->az (ak α Z H) (kvs.map λc=>jh c.1) (b.map λc=>kV c.1):=λ{kvs b} q=>by
    unfold eQ at q
    induction q with
    |nil=>exact .nil
    |@cons p q _ _ k _ m=>
     refine .cons ?_ m
     show ak α Z H (jh p.1) (kV q.1)
     rw[k.1];cases q.1<;>simp only[jh,kV,ak]
   exact this j
  .exact g.elim
 .exact g.elim
theorem rJ{kvs:List (Key×D)}{a:List (Key×V)}(S:bK κ α Z Ω H)(r:eQ (ak α Z H) kvs a)(k:bS κ Φ α Z H (f9 Ω (.dK kvs)) Q):∀p,H p=none->Q (.ref p) (upd H p (.dK a)):=λp b=>by
 obtain⟨d,e⟩:=S.laid (p:=p) (o:=.dK a) (c:=.dK kvs) b λR f=>⟨a,aN,r.imp f⟩
 exact k _ _ _ _ e d (dA S p)
theorem Au{xs:List D}{vs:List V}(S:bK κ α Z Ω H)(c:az (ak α Z H) xs vs)(g:bS κ Φ α Z H (tH xs Ω) Q):∃a kvs,vs=[V.ref a]/\Rd H a (.dK kvs)/\∀l,H l=none->Q (.ref l) (upd H l (.dK kvs)):=by
 unfold tH at g;split at g
 .split at g
  .rename_i kvs d
   obtain⟨v,r,rfl,e,f⟩:=c.cons_inv;rw[f.nil_inv];obtain⟨a,b,rfl,h,i⟩:=pN S e d;exact⟨a,b,rfl,h,rJ S i g⟩
  .exact g.elim
 .exact g.elim
theorem mK:∀{ds:List D}{vs:List V}{ps:List (Key×D)},az (ak α Z H) ds vs->bo kR ds=some ps->∃c,eQ (ak α Z H) ps c/\Paired (λ(p:Key×V) (y:V)=>∃b,y=.ref b/\Rd H b (.tup [kV p.1,p.2])) c vs
 |[],vs,ps,r,h=>by cases h;rw[r.nil_inv];exact⟨[],.nil,.nil⟩
 |d::ds,vs,ps,r,h=>by
  simp only[bo]at h;split at h
  .rename_i y ys h1 h2
   cases h;obtain⟨v,f,rfl,g,i⟩:=r.cons_inv;obtain⟨c,j,l⟩:=mK i h2;unfold kR at h1;split at h1
   .rename_i k w
    obtain⟨m,n,rfl⟩:=Option.map_eq_some_iff.mp h1;obtain⟨a,u,rfl,_,o,e⟩:=eK g;obtain⟨x,z,rfl,q,e⟩:=e.cons_inv;obtain⟨s,A,rfl,t,e⟩:=e.cons_inv;obtain rfl:=e.nil_inv;obtain rfl:=gf n q;exact⟨(m,s)::c,.cons ⟨rfl,t⟩ j,.cons ⟨a,rfl,.inl o⟩ l⟩
   .cases h1
  .cases h
theorem Av{xs:List D}{vs:List V}(S:bK κ α Z Ω H)(j:az (ak α Z H) xs vs)(g:bS κ Φ α Z H (jx xs Ω) Q):∃a f ps,vs=[V.ref a]/\Rd H a (.lst f)/\Paired (λ(p:Key×V) (y:V)=>∃b,y=.ref b/\Rd H b (.tup [kV p.1,p.2])) ps f/\∀l,H l=none->Q (.ref l) (upd H l (.dK (ps.foldl (λa p=>putK a p.1 p.2) []))):=by
 unfold jx at g;split at g
 .split at g
  .rename_i z k
   split at g
   .rename_i ps m
    obtain⟨v,r,rfl,n,o⟩:=j.cons_inv;rw[o.nil_inv];obtain⟨a,f,rfl,s,t⟩:=bO S n k;obtain⟨d,u,w⟩:=mK t m;refine⟨a,f,d,rfl,s,w,rJ S ?_ g⟩
    have:∀{ps:List (Key×D)}{d:List (Key×V)}{e:List (Key×D)}{c:List (Key×V)},eQ (ak α Z H) e c->eQ (ak α Z H) ps d->eQ (ak α Z H) (ps.foldl (λa p=>bH a p.1 p.2) e) (d.foldl (λa p=>putK a p.1 p.2) c):=λ{ps d e c} h q=>by
     unfold eQ at q
     induction q generalizing e c with
     |nil=>exact h
     |@cons p q _ _ i _ x=>
      simp only[List.foldl_cons];refine x ?_;rw[i.1];exact h.put q.1 i.2
    exact this .nil u
   .exact g.elim
  .exact g.elim
 .exact g.elim
theorem xm(a:X.calm=true)(d:Gl X "dict")(f:X.mg "dict"=none)(h:starEach (e::es) X.env=(false,eval e X.env)::starEach es X.env)(b:(backTo pos (starEach es X.env)).any (·.1)=false)(i:oQ X κ Φ (e::es) as):bt X κ Φ (.Call (.Name "dict" p) (e::es) [] pos) (mN pM as):=by
 show bt X κ Φ _ (mN (lP jx tH) as)
 rw[nS];exact bt.alt (gk (rE a) d f boot_dict (by decide) (by decide) h b i λj k l Z m H Q S c g=>Av S c g) (gk rD d f boot_dict (by decide) (by decide) h b i λj k l Z m H Q S c g=>Au S c g)
theorem Aw{f:jQ}(o:X.calm=true)(I:f∈[jQ.len,jQ.all,jQ.any,jQ.list,jQ.tuple])(z:Gl X f.nm)(A:X.mg f.nm=none)
  (B:starEach (e::es) X.env=(false,eval e X.env)::starEach es X.env) (h:(backTo pos (starEach es X.env)).any (·.1)=false) (q:oQ X κ Φ (e::es) as) :
  bt X κ Φ (.Call (.Name f.nm p) (e::es) [] pos) (mN (bu f) as):=by
 cases f with
 |len=>
  show bt X κ Φ _ (mN (lP nQ (lP rH (lQ .len))) as)
  rw[nS,nS];refine bt.alt ?_ (bt.alt ?_ ?_)
  .refine gj nv z A boot_len (by decide) (by decide) B h q ?_
   intro F U w Z y H Q S c g;unfold nQ at g;split at g
   .split at g
    .rename_i C J
     obtain⟨v,r,rfl,i,s⟩:=c.cons_inv;rw[s.nil_inv];obtain⟨l,D,rfl,E,G⟩:=kL (K:=X.K) S i J;exact⟨l,D,rfl,E,by rw[G.length];exact bS.ret S (bb rfl) g⟩
    .exact g.elim
   .exact g.elim
  .refine gj (uU.or vb) z A boot_len (by decide) (by decide) B h q ?_
   intro F U w Z y H Q S c g;unfold rH at g;split at g
   .split at g
    .rename_i L M
     obtain⟨v,r,rfl,i,s⟩:=c.cons_inv;rw[s.nil_inv];simp only[ak]at i;obtain⟨a,q,rfl⟩:=i;obtain⟨a',j,m,N,O⟩:=S.cell M;rw[q]at j;cases j
     exact .inl ⟨a,m,rfl,.inl N,by rw[O.length];exact bS.ret S (bb rfl) g⟩
    .rename_i L M
     obtain⟨v,r,rfl,i,s⟩:=c.cons_inv;rw[s.nil_inv];simp only[ak]at i;obtain⟨a,q,rfl⟩:=i;obtain⟨a',j,m,N,O⟩:=S.cell M;rw[q]at j;cases j
     exact .inr ⟨a,m,rfl,N,by rw[O.length];exact bS.ret S (bb rfl) g⟩
    .rename_i L M
     obtain⟨v,r,rfl,i,s⟩:=c.cons_inv;rw[s.nil_inv];simp only[ak]at i;obtain⟨a,q,rfl⟩:=i;obtain⟨a',j,of,m,N,O⟩:=S.cell M;rw[q]at j;cases j
     exact .inl ⟨a,m,rfl,.inr ⟨of,N⟩,by rw[O.length];exact bS.ret S (bb rfl) g⟩
    .exact g.elim
   .exact g.elim
  .refine gj ny z A boot_len (by decide) (by decide) B h q ?_
   intro P R w Z y H Q S c g;obtain⟨C,T,d,t,b,k⟩:=iF (bw:=false) S c g;have t:=gy t;have u:=dz S;replace b:Dv C=_:=b;unfold Dv at b;split at b
   .obtain⟨x,rfl,n⟩:=t.one
    cases cT n;split at b
    .rename_i hs
     cases b;exact⟨_,rfl,bE hs,jb u k rfl⟩
    .cases b
   .cases b
 |all=>
  refine gj (wO o) z A boot_all (by decide) (by decide) B h q ?_
  intro P R w Z y H Q S c g;obtain⟨C,T,d,t,b,k⟩:=iF (bw:=false) S c g;have t:=gy t;have u:=dz S;replace b:Dw C=_:=b;unfold Dw at b;split at b
  .obtain⟨x,rfl,n⟩:=t.one
   split at b
   .rename_i bs V
    cases b;exact⟨_,_,bs,x,rfl,n,V,jb u k rfl⟩
   .cases b
  .cases b
 |any=>
  refine gj (wQ o) z A boot_any (by decide) (by decide) B h q ?_
  intro P R w Z y H Q S c g;obtain⟨C,T,d,t,b,k⟩:=iF (bw:=false) S c g;have t:=gy t;have u:=dz S;replace b:Dx C=_:=b;unfold Dx at b;split at b
  .obtain⟨x,rfl,n⟩:=t.one
   split at b
   .rename_i bs V
    cases b;exact⟨_,_,bs,x,rfl,n,V,jb u k rfl⟩
   .cases b
  .cases b
 |int=>simp at I
 |min=>simp at I
 |max=>simp at I
 |list=>
  show bt X κ Φ _ (mN (lP iG jw) as)
  rw[nS];refine bt.alt ?_ (gk (rC o) z A boot_list (by decide) (by decide) B h q λF U w Z y H Q S c g=>As S c g)
  refine gk nz z A boot_list (by decide) (by decide) B h q ?_
  intro F U w Z y H Q S c g;have g:bS κ Φ w Z H (iG F y) Q:=g;unfold iG at g;split at g
  .split at g
   .rename_i C J
    obtain⟨v,r,rfl,i,s⟩:=c.cons_inv;rw[s.nil_inv];obtain⟨l,D,rfl,E,G⟩:=kL (K:=X.K) S i J;exact⟨l,D,rfl,E,gd S G g⟩
   .exact g.elim
  .exact g.elim
 |tuple=>
  refine gk lN z A boot_tuple (by decide) (by decide) B h q ?_
  intro F U w Z y H Q S c g;have g:bS κ Φ w Z H (kT F y) Q:=g;unfold kT at g;split at g
  .obtain⟨v,r,rfl,i,s⟩:=c.cons_inv
   rw[s.nil_inv];have Y:=i;obtain⟨l,D,rfl,_,E,G⟩:=eK i;exact⟨l,D,rfl,.inr ⟨uV (.inl E),bS.ret S Y g⟩⟩
  .split at g
   .rename_i C J
    obtain⟨v,r,rfl,i,s⟩:=c.cons_inv;rw[s.nil_inv];obtain⟨l,D,rfl,E,G⟩:=bO S i J;exact⟨l,D,rfl,.inl ⟨ky E,pJ S G g⟩⟩
   .exact g.elim
  .exact g.elim
 |sorted=>simp at I
 |bool=>simp at I
def Lv(t:Ty):D->aD->aw D:=vd λd=>match wz d t with|some b=>.ok (false,.bl b)|none=>.bad
def nT(t:Ty):D->aD->aw D:=Lv t
theorem Ax{t:Ty}{c:Pos}(m:Gl X "isinstance")(n:X.mg "isinstance"=none)(f:Gl X t.nm)(h:X.mg t.nm=none)
  (l:starEach [a,Expr.Name t.nm c] X.env=(false,eval a X.env)::starEach [Expr.Name t.nm c] X.env) (i:(backTo pos (starEach [Expr.Name t.nm c] X.env)).any (·.1)=false) (o:bt X κ Φ a ma) :
  bt X κ Φ (.Call (.Name "isinstance" p) [a,.Name t.nm c] [] pos) (m1 (nT t) ma):=by
 have j:PE X (.Name t.nm c) (tC (.ty t.id)):=zb f h (zJ t) rfl (by cases t<;>decide) (by cases t<;>decide)
 unfold nT
 .refine nI (r:=λx H Q=>FY X.K [x,.ty t.id] H Q) (λz s=>o_ wR m n boot_isinstance (gw s (gw j qS rfl) l) (by decide) (by decide) l i) o ?_
  intro A x B Z C H Q S u g;obtain⟨d,w,D,y,e,k⟩:=pI (bw:=false) S u g;cases q:wz d t with
  |none=>rw[q]at e;cases e
  |some b=>
   rw[q]at e;cases e;exact⟨_,d,x,t,b,rfl,y,q,jb (dz S) k rfl⟩
def cE(b:aD->D->Bool)(f:D->List D->aD->aw D)(e:EM)(g:AM):EM:=λd h=>(e d h).bind λx a=>if b a x=true then (g d a).bind λi c=>f x i c else .bad
def jI(Ω:aD)(x:D):Bool:=(cV Ω x).isSome
noncomputable def nU(_:aD)(x:D):Bool:=match x with
 |.str _=>true
 |_=>false
theorem kU{x:D}{v:V}{K:PySem.W.Frag}(S:bK κ α Z Ω H)(r:ak α Z H x v)(h:jI Ω x=true):FJ K "list" v H:=by
 unfold jI at h;cases q:cV Ω x with
 |none=>rw[q]at h;cases h
 |some d=>
  obtain⟨a,b,rfl,c,e⟩:=bO S r q;exact .inl ⟨rfl,b,ky c⟩
theorem tI{x:D}{v:V}{K:PySem.W.Frag}(S:bK κ α Z Ω H)(r:ak α Z H x v)(h:nU Ω x=true):FJ K "str" v H:=by
 cases x with
 |str z=>simp only[ak]at r;subst r;rfl
 |_=>cases h
section
variable{T id:String}{name:Str}{r:V->List V->Hp->VK->Prop}{QP:aD->D->Bool}{f:D->List D->aD->aw D}
theorem rK{env:Env}:∀{es:List Expr},(∀e∈es,isStar e=false)->((backTo cpos (starEach es env)).all (λx=>!x.1))=true
 |[],_=>rfl
 |e::es,h=>by
  rw[bW (h e (by simp))]
  show(!false&&(backTo cpos (starEach es env)).all (λx=>!x.1))=true
  rw[rK λz hz=>h z (by simp[hz])];rfl
theorem hY(B:PlainAttrs T)(slot:PySem.Slot T name id)(l:typeOf (.builtin id)=pure (.type "method_descriptor"))(C:FD X id r)
  (D:∀x v a Z Ω H,bK κ a Z Ω H->ak a Z H x v->QP Ω x=true->FJ X.K T v H)
  (E:∀x v xs vs a Z Ω H Q,bK κ a Z Ω H->ak a Z H x v->az (ak a Z H) xs vs->bS κ Φ a Z H (f x xs Ω) Q->r v vs H Q)
  (c:attributeBase o name X.env (eval o X.env)=eval o X.env) (d:(apos.endLine==cpos.line)=true) (F:bt X κ Φ o mo) (G:oQ X κ Φ (e::es) as) (h:∀z∈e::es,isStar z=false) (s:(e::es).length<20):bt X κ Φ (.Call (.Attribute o name apos) (e::es) [] cpos) (cE QP f mo as):=by
 intro i t u w Ω
 have j:((backTo cpos (starEach (e::es) X.env)).all (λx=>!x.1)&&(backToKw cpos (keywordEach [] X.env)).all (λx=>x.1.isSome)
   && decide ((e::es).length+([]:List Keyword).length+(if ([]:List Keyword).isEmpty then 0 else 1)<30))=true:=by
  rw[rK h,decide_eq_true (by show(e::es).length+0+0<30;omega)];rfl
 refine PE.imp (L2.FK B slot l C (F i t u w Ω) (PA.ex λb=>G i t u w b) c j d (bW (h e (by simp))) (bX λz I=>h z (by simp[I]))) ?_
 rintro Y H Q ⟨a,Z,S,g⟩;refine⟨a,Z,S,bS.use g λx b _ v J k y L m A n=>?_⟩
 split at n
 .rename_i M
  exact⟨D x v k y b J m A M,b,k,y,S.grow L m,oP.use n λxs p _ vs N q O P R U V=>E x v xs vs q O p N Q R (m.cG P A) U V⟩
 .exact n.elim
end
noncomputable def nV(Ω:aD):D->Option (Nat×List D)
 |.ref k=>match Ω[k]? with
  |some (.lst ds)=>some (k,ds)
  |_=>none
 |_=>none
theorem gm{x:D}{v:V}{k:Nat}{ds:List D}(S:bK κ α Z Ω H)(r:ak α Z H x v)(h:nV Ω x=some (k,ds)):∃a vs,v=.ref a/\α[k]?=some a/\H a=some (.lst vs)/\az (ak α Z H) ds vs:=by
 cases x with
 |ref n=>
  simp only[nV]at h;split at h
  .rename_i d e
   cases h;simp only[ak]at r;obtain⟨a,c,rfl⟩:=r;obtain⟨i,b,vs,f,g⟩:=S.cell e;rw[c]at b;cases b;exact⟨a,vs,rfl,c,f,g⟩
  .cases h
 |_=>cases h
theorem iH{k:Nat}{p:Addr}{ds:List D}{vs:List V}{d:D}{u:V}(S:bK κ α Z Ω H)(b:α[k]?=some p){ws:List V}(e:H p=some (.lst ws))(r:az (ak α Z H) ds vs)(f:ak α Z H d u)(g:bS κ Φ α Z H (.ok d (Ω.set k (.lst ds))) Q):Q u (upd H p (.lst vs)):=by
 obtain⟨h,a⟩:=S.put (o:=.lst vs) (c:=.lst ds) b (λo u z=>by rw[e]at z;cases z) λR i=>⟨vs,aN,r.imp i⟩
 exact g _ _ _ _ a h (S.cG a f)
def cW(x:D)(xs:List D)(Ω:aD):aw D:=match nV Ω x,xs with
 |some (k,a),[y]=>if small (a.length+1)then .ok .non (Ω.set k (.lst (a++[y])))else .bad
 |_,_=>.bad
def eS(x:D)(xs:List D)(Ω:aD):aw D:=match nV Ω x,xs with
 |some (k,a),[.int i]=>if i_ i=true then (match L2.qF a.length i with
  |some n=>match a[n]? with
   |some d=>.ok d (Ω.set k (.lst (a.eraseIdx n)))
   |none=>.bad
  |none=>.bad)else .bad
 |_,_=>.bad
def gz(x:D)(xs:List D)(Ω:aD):aw D:=match nV Ω x,xs with
 |some (k,a),[.int i,y]=>if small (a.length+1)&&i_ i then .ok .non (Ω.set k (.lst (nA a i y)))else .bad
 |_,_=>.bad
def gC(x:D)(xs:List D)(Ω:aD):aw D:=match nV Ω x,xs with
 |some (k,a),[y]=>match nV Ω y with
  |some (_,b)=>if small (a.length+b.length)then .ok .non (Ω.set k (.lst (a++b)))else .bad
  |none=>.bad
 |_,_=>.bad
def eD(x:D)(xs:List D)(Ω:aD):aw D:=match xs with
 |[y]=>ft (λa b=>match a with|.lst c=>qZ .index (.lst c) (.tup [b])|_=>.bad) x y Ω
 |_=>.bad
def pO(x:D)(xs:List D)(Ω:aD):aw D:=match xs with
 |[y]=>ft (λa b=>qZ .join a (.tup [b])) x y Ω
 |_=>.bad
theorem eL{R:D->V->Prop}{y:D}{vs:List V}(h:az R [y] vs):∃v,vs=[v]/\R y v:=by
 obtain⟨v,r,rfl,a,b⟩:=h.cons_inv;rw[b.nil_inv];exact⟨v,rfl,a⟩
theorem tJ{R:D->V->Prop}{y z:D}{vs:List V}(h:az R [y,z] vs):∃v w,vs=[v,w]/\R y v/\R z w:=by
 obtain⟨v,r,rfl,a,b⟩:=h.cons_inv;obtain⟨w,rfl,c⟩:=eL b;exact⟨v,w,rfl,a,c⟩
theorem vm{x:D}{v:V}{xs:List D}{vs:List V}(S:bK κ α Z Ω H)(r:ak α Z H x v)(rs:az (ak α Z H) xs vs)(g:bS κ Φ α Z H (cW x xs Ω) Q):sO v vs H Q:=by
 unfold cW at g;split at g
 .rename_i k j y d
  obtain⟨a,e,rfl,f,b,c⟩:=gm S r d;obtain⟨u,rfl,h⟩:=eL rs;split at g
  .rename_i i
   have:=bE i;exact⟨a,e,u,rfl,rfl,b,by rw[c.length];omega,iH S f b (c.append (.one h)) (bb rfl) g⟩
  .exact g.elim
 .exact g.elim
theorem xn{x:D}{v:V}{xs:List D}{vs:List V}(S:bK κ α Z Ω H)(r:ak α Z H x v)(rs:az (ak α Z H) xs vs)(g:bS κ Φ α Z H (eS x xs Ω) Q):wj v vs H Q:=by
 unfold eS at g;split at g
 .rename_i k t i h
  obtain⟨a,j,rfl,l,e,b⟩:=gm S r h;obtain⟨u,rfl,f⟩:=eL rs;simp only[ak]at f;subst f;split at g
  .rename_i c
   have w:=ku c;split at g
   .rename_i n m
    split at g
    .rename_i d o
     obtain⟨u,p,q⟩:=b.get o;obtain⟨s,y,z,A⟩:=nq m;exact⟨a,j,i,n,u,rfl,rfl,e,by omega,by omega,by rw[b.length];exact s,p,iH S l e (b.eraseIdx n) q g⟩
    .exact g.elim
   .exact g.elim
  .exact g.elim
 .exact g.elim
theorem vn{x:D}{v:V}{xs:List D}{vs:List V}(S:bK κ α Z Ω H)(r:ak α Z H x v)(rs:az (ak α Z H) xs vs)(g:bS κ Φ α Z H (gz x xs Ω) Q):sX v vs H Q:=by
 unfold gz at g;split at g
 .rename_i k m i y f
  obtain⟨a,h,rfl,j,d,b⟩:=gm S r f;obtain⟨u,w,rfl,e,l⟩:=tJ rs;simp only[ak]at e;subst e;split at g
  .rename_i c
   simp only[Bool.and_eq_true]at c;have:=bE c.1;have n:=ku c.2;refine⟨a,h,i,w,rfl,rfl,d,by omega,by omega,by rw[b.length];omega,iH S j d ?_ (bb rfl) g⟩
   unfold nA;rw[b.length];exact(b.take _).append (.cons l (b.drop _))
  .exact g.elim
 .exact g.elim
theorem vo{x:D}{v:V}{xs:List D}{vs:List V}(S:bK κ α Z Ω H)(r:ak α Z H x v)(rs:az (ak α Z H) xs vs)(g:bS κ Φ α Z H (gC x xs Ω) Q):sP v vs H Q:=by
 unfold gC at g;split at g
 .rename_i k q y f
  obtain⟨a,h,rfl,i,c,d⟩:=gm S r f;obtain⟨u,rfl,j⟩:=eL rs;split at g
  .rename_i n s l
   obtain⟨b,m,rfl,t,o,e⟩:=gm S j l;split at g
   .rename_i p
    exact⟨a,b,h,m,rfl,rfl,c,o,by rw[d.length,e.length];exact bE p,iH S i c (d.append e) (bb rfl) g⟩
   .exact g.elim
  .exact g.elim
 .exact g.elim
theorem xo{x:D}{v:V}{xs:List D}{vs:List V}(S:bK κ α Z Ω H)(r:ak α Z H x v)(rs:az (ak α Z H) xs vs)(g:bS κ Φ α Z H (eD x xs Ω) Q):wV v vs H Q:=by
 unfold eD at g;split at g
 .obtain⟨u,rfl,c⟩:=eL rs
  obtain⟨d,e,f,n,h,i,a,k⟩:=gc (bw:=false) S r c g;cases d with
  |lst l=>
   (unfold qZ at a;dsimp only at a)
   split at a
   .rename_i b
    simp only[Bool.and_eq_true]at b;split at a
    .rename_i j m
     cases a;exact⟨_,l,e,u,j,rfl,h,i,b.1,b.2,m,jb (dz S) k rfl⟩
    .cases a
   .cases a
  |_=>cases a
 .exact g.elim
theorem Ay{x:D}{v:V}{xs:List D}{vs:List V}(S:bK κ α Z Ω H)(r:ak α Z H x v)(rs:az (ak α Z H) xs vs)(g:bS κ Φ α Z H (pO x xs Ω) Q):rJoin v vs H Q:=by
 unfold pO at g;split at g
 .obtain⟨u,rfl,c⟩:=eL rs
  obtain⟨d,e,f,n,h,i,a,k⟩:=gc (bw:=false) S r c g;cases d with
  |str z=>
   cases cT h;cases e with
   |lst j=>
    (unfold qZ at a;dsimp only at a)
    split at a
    .rename_i l m
     split at a
     .rename_i b
      cases a;simp only[Bool.and_eq_true,decide_eq_true_eq]at b;exact⟨z,_,j,l,u,rfl,rfl,i,m,b.1,b.2,jb (dz S) k rfl⟩
     .cases a
    .cases a
   |_=>cases a
  |_=>cases e<;>cases a
 .exact g.elim
end
inductive Src where
 |seq (x:D)|ints (lo:Int) (n:Nat)|Jp (lo:Int) (n:Nat)|chars (z:Str)|Jq (x:D)|keys (k:Nat)|items (k:Nat)
def e9:Src->aD->Option (List D)
 |.seq x,Ω=>fu Ω x
 |.ints lo n,_=>some (intsFrom lo n)
 |.Jp lo n,_=>some ((List.range n).map λk:Nat=>.int (lo - k))
 |.chars z,_=>some (z.cps.toList.map λc=>.str (ay c))
 |.Jq x,Ω=>(cV Ω x).map (dh 0)
 |.keys k,Ω=>match Ω[k]? with
  |some (.dF kvs)=>some (kvs.map λa=>jh a.1)
  |_=>none
 |.items k,Ω=>match Ω[k]? with
  |some (.dF kvs)=>some (kvs.map λa=>.tup [jh a.1,a.2])
  |_=>none
abbrev IM:=aX->aD->aw Src
def rL(κ:Str->Addr->Prop)(s:Src)(J:It)(j:List Addr)(Z:Addr->Prop)(H:Hp):Prop:=∀a f b c g,cv j Z H a f c->bK κ a f b c->e9 s b=some g ->
 (∀(i:Nat) (d:D),g[i]?=some d->J.go i c/\∀x e,J.Ji i c x e->∃h,cv a f c a h e/\bK κ a h b e/\ak a h e d x)/\∀i,g.length<=i->J.stop i c
def pP(κ:Str->Addr->Prop)(Φ:e8)(e:List Addr)(Z:Addr->Prop)(H:Hp)(r:aw Src)(R:It->Hp->Prop):Prop:=match r with
 |.ok s b=>∀J c a d,cv e Z H a d c->bK κ a d b c->rL κ s J a d c->R J c
 |.exc x b=>∀c a d,cv e Z H a d c->bK κ a d b c->Φ x b a d c
 |.bad=>False
noncomputable def S8(κ:Str->Addr->Prop)(Φ:e8)(a:List Addr)(c:Addr->Prop)(d:Hp)(m:IM)(ρ:aX)(Ω:aD):TI:=λe H R=>∃b Z,cH κ a c d b Z Ω ρ e H/\pP κ Φ b Z H (m ρ Ω) R
def vp(X:Cx)(κ:Str->Addr->Prop)(Φ:e8)(b e:Expr)(m:IM):Prop:=∀a c d f g,PI X b e (S8 κ Φ a c d m f g)
def srcOf(Ω:aD)(x:D):aw Src:=match fu Ω x,x with
 |some _,x=>.ok (.seq x) Ω
 |none,.str z=>.ok (.chars z) Ω
 |none,.ref k=>(match Ω[k]? with
  |some (.dK a)=>.ok (.keys k) (Ω.set k (.dF a))
  |some (.dF _)=>.ok (.keys k) Ω
  |_=>.bad)
 |none,_=>.bad
def bG(m:EM):IM:=λb c=>(m b c).bind λx a=>srcOf a x
noncomputable def B9(Ω:aD)(x:D):aw Src:=match x with
 |.ref k=>(match Ω[k]? with
  |some (.dK a)=>.ok (.items k) (Ω.set k (.dF a))
  |some (.dF _)=>.ok (.items k) Ω
  |_=>.bad)
 |_=>.bad
def xp(m:EM):IM:=λb c=>(m b c).bind λx a=>B9 a x
def pQ(m:EM):IM:=λb c=>(m b c).bind λx a=>match cV a x with
 |some _=>.ok (.Jq x) a
 |none=>.bad
def tK(xs:List D)(Ω:aD):aw Src:=match xs with
 |[.int j]=>if i_ j then .ok (.ints 0 j.toNat) Ω else .bad
 |_=>.bad
def dH(a:AM):IM:=λb c=>(a b c).bind tK
section
variable{X:Cx}{κ:Str->Addr->Prop}{Φ:e8}{α α' hU α1:List Addr}{Z Z' Z0 Z1:Addr->Prop}{Ω au:aD}{H H' H0 H1:Hp}{ρ:aX}{σ:L2.St}{Q Q':VK}{r:aw D}{a b e ce o tg:Expr}{rest:List Expr}{es:List Expr}{ma mb mc m mo:EM}{as:AM}{pos p apos cpos tpos:Pos}
theorem pP.from{r:aw Src}{R:It->Hp->Prop}(g:cv α Z H α1 Z1 H1)(h:pP κ Φ α Z H r R):pP κ Φ α1 Z1 H1 r R:=by
 cases r with
 |ok d b=>exact λv c a e f=>h v c a e (g.trans f)
 |exc x b=>exact λc a e f=>h c a e (g.trans f)
 |bad=>exact h
theorem pP.use{r:aw D}{f:D->aD->aw Src}{R:It->Hp->Prop}(h:pP κ Φ α Z H (r.bind f) R)(k:∀d aQ,r=.ok d aQ->∀v b a c,cv α Z H a c b->bK κ a c aQ b->ak a c b d v->pP κ Φ a c b (f d aQ) R->Q' v b):bS κ Φ α Z H r Q':=by
 cases r with
 |ok d aQ=>exact λv b a c g s q=>k d aQ rfl v b a c g s q (pP.from g h)
 |exc x aQ=>exact h
 |bad=>exact h
theorem pR{K:PySem.W.Frag}{x:D}{a:Addr}(p:ak α Z H x (.ref a))(S:bK κ α Z Ω H)(q:(cV Ω x).isSome=true):rL κ (.seq x) (La K a) α Z H:=by
 intro r t b C u g s w;have c:=S.cG g p;have f:∀h,x≠.tup h:=λh e=>by subst e;cases q
 have j:cV b x=some u:=by
  cases x with
  |tup h=>exact absurd rfl (f _)
  |_=>exact w
 obtain⟨E,k,e,l,n⟩:=bO s c j;cases e;refine⟨λi d z=>?_,λi A=>⟨k,ky l,by rw[n.length];exact A⟩⟩
 obtain⟨v,o,B⟩:=n.get z;refine⟨⟨k,v,ky l,o⟩,λy F m=>?_⟩
 obtain⟨rfl,m⟩:=m;have:=m k (ky l);rw[o]at this;cases this;exact⟨t,cv.refl s.has,s,B⟩
theorem Az{K:PySem.W.Frag}{es:List D}{a:Addr}(l:ak α Z H (.tup es) (.ref a))(S:bK κ α Z Ω H):rL κ (.seq (.tup es)) (Lb K a) α Z H:=by
 intro m n o u w g s p;have b:=S.cG g l;cases p;obtain⟨x,c,e,_,f,j⟩:=eK b;cases e;refine⟨λi d q=>?_,λi r=>⟨c,uV (.inl f),by rw[j.length];exact r⟩⟩
 obtain⟨v,k,t⟩:=j.get q;refine⟨⟨c,v,uV (.inl f),k⟩,λy z h=>?_⟩
 obtain⟨rfl,h⟩:=h;have:=h c (uV (.inl f));rw[k]at this;cases this;exact⟨n,cv.refl s.has,s,t⟩
theorem pS{k:Nat}{a:Addr}{o:Obj}{kvs:List (Key×V)}(w:α[k]?=some a)(y:H a=some (.dJ o (.dK kvs))):rL κ (.keys k) (Ga a o) α Z H:=by
 intro z A B G I g s f;have h:=g.pre k a w;have b:=g.dJ a _ _ y;simp only[e9]at f;split at f
 .rename_i l C
  cases f;obtain⟨J,c,K,m,n,r⟩:=s.cell C;rw[h]at c;cases c
  rw[b]at n;cases n
  have L:=r.length;refine⟨λi d t=>?_,λi D=>⟨kvs,b,by rw[List.length_map]at D;omega⟩⟩
  rw[List.getElem?_map]at t;obtain⟨p,E,rfl⟩:=Option.map_eq_some_iff.mp t;obtain⟨q,u,F,_⟩:=az.get r E;refine⟨⟨kvs,b,(List.getElem?_eq_some_iff.mp u).1⟩,λx M j=>?_⟩
  obtain⟨rfl,j⟩:=j;obtain⟨N,e,rfl⟩:=j kvs b;rw[u]at e;cases e
  refine⟨A,cv.refl s.has,s,?_⟩;rw[F];cases q.1<;>simp only[jh,kV,ak]
 .cases f
theorem mL{k:Nat}{a:Addr}{o:Obj}{kvs:List (Key×V)}(B:α[k]?=some a)(C:H a=some (.dJ o (.dK kvs))):rL κ (.items k) (Gf a o) α Z H:=by
 intro D E F M N g s f;have h:=g.pre k a B;have b:=g.dJ a _ _ C;simp only[e9]at f;split at f
 .rename_i r G
  cases f;obtain⟨O,c,P,t,u,w⟩:=s.cell G;rw[h]at c;cases c
  rw[b]at u;cases u
  have Q:=w.length;refine⟨λi d y=>?_,λi I=>⟨kvs,b,by rw[List.length_map]at I;omega⟩⟩
  rw[List.getElem?_map]at y;obtain⟨p,J,rfl⟩:=Option.map_eq_some_iff.mp y;obtain⟨q,z,K,L⟩:=az.get w J;refine⟨⟨kvs,b,(List.getElem?_eq_some_iff.mp z).1⟩,λx R j=>?_⟩
  obtain⟨l,rfl,m,j⟩:=j;obtain⟨S,e,rfl⟩:=j kvs b;rw[z]at e;cases e
  obtain⟨A,n⟩:=s.tr (p:=l) (o:=.tup [kV q.1,q.2]) m True;simp only[if_true]at A n;refine⟨Zp E l,n,A,?_⟩;simp only[ak];refine⟨l,_,rfl,.inr rfl,aN,b9.mpr (.cons ?_ (.one (s.cG n L)))⟩;rw[K];cases q.1<;>simp only[jh,kV,ak]
 .cases f
theorem AA(h:bt X κ Φ e m):vp X κ Φ tg e (bG m):=by
 intro G O P Q T;refine PI.imp (Ar (h G O P Q T)) ?_;rintro σ H R ⟨U,Z,S,g⟩;refine⟨U,Z,S,pP.use g λx I _ v w k t g1 b r j=>?_⟩
 cases x with
 |tup M=>
  have l:=r;obtain⟨a,A,rfl,_,p,B⟩:=eK r;exact .inr (.inl ⟨a,A,rfl,.inl p,j _ w k t (cv.refl b.has) b (Az l b)⟩)
 |lst M=>
  have l:=r;obtain⟨a,A,rfl,p,B⟩:=bO (ds:=M) b r rfl;exact .inl ⟨a,A,rfl,p,j _ w k t (cv.refl b.has) b (pR l b rfl)⟩
 |ref n=>
  cases s:cV I (.ref n)with
  |none=>
   simp only[srcOf,fu,s]at j;simp only[ak]at r;obtain⟨a,C,rfl⟩:=r;split at j
   .rename_i D J
    obtain⟨V,q,f,p,B⟩:=b.cell J;rw[C]at q;cases q
    refine .inr (.inr (.inr ⟨a,f,rfl,.inl ⟨p,λo=>?_⟩⟩))
    obtain⟨E,N⟩:=b.put (o:=.dJ o (.dK f)) (c:=.dF D) C (λo u z=>by rw[p]at z;cases z) λR Y=>⟨o,f,aN,B.imp Y⟩
    exact j _ _ k t N E (pS C aN)
   .rename_i D J
    obtain⟨V,q,o,f,p,B⟩:=b.cell J;rw[C]at q;cases q
    exact .inr (.inr (.inr ⟨a,f,rfl,.inr ⟨o,p,j _ w k t (cv.refl b.has) b (pS C p)⟩⟩))
   .exact j.elim
  |some ds=>
   simp only[srcOf,fu,s]at j;have l:=r;obtain⟨a,A,rfl,p,B⟩:=bO b r s;exact .inl ⟨a,A,rfl,p,j _ w k t (cv.refl b.has) b (pR l b (by rw[s];rfl))⟩
 |str z=>
  simp only[ak]at r;subst r;refine .inr (.inr (.inl ⟨z,rfl,j _ w k t (cv.refl b.has) b ?_⟩));intro a0 Z2 b0 H2 ds N E hs;cases hs;refine⟨λi d F=>?_,λi K=>by show z.cps.size<=i;simpa using K⟩
  have K:i<z.cps.size:=by
   have:=(List.getElem?_eq_some_iff.mp F).1;simpa using this
  refine⟨K,λy H3 hy=>?_⟩
  obtain⟨rfl,c,hc,rfl⟩:=hy;rw[List.getElem?_map]at F;have L:z.cps.toList[i]?=some c:=by simpa using hc
  rw[L]at F;cases F;exact⟨Z2,cv.refl E.has,E,bb rfl⟩
 |non=>exact j.elim
 |bl _=>exact j.elim
 |int _=>exact j.elim
 |dct _ _=>exact j.elim
theorem xq{b:Int}{n:Nat}:rL κ (.ints b n) (Fm b n) α Z H:=by
 intro e f h l m g s j;cases j;refine⟨λi d c=>?_,λi a=>by rw[kF]at a;exact a⟩
 have a:=(List.getElem?_eq_some_iff.mp c).1;rw[kF]at a;refine⟨a,λy o k=>?_⟩
 obtain⟨rfl,rfl⟩:=k;rw[ints_get _ _ _ _ c];exact⟨f,cv.refl s.has,s,bb rfl⟩
theorem pP.Gg{r:aw (List D)}{f:List D->aD->aw Src}{R:It->Hp->Prop}{Q':List V->Hp->Prop}(h:pP κ Φ α Z H (r.bind f) R)(k:∀ds aQ,r=.ok ds aQ->∀vs b a c,cv α Z H a c b->bK κ a c aQ b->az (ak a c b) ds vs->pP κ Φ a c b (f ds aQ) R->Q' vs b):oP κ Φ α Z H r Q':=by
 cases r with
 |ok d aQ=>exact λv b a c g s q=>k d aQ rfl v b a c g s q (pP.from g h)
 |exc x aQ=>exact h
 |bad=>exact h
theorem xr(l:Gl X "range")(m:X.mg "range"=none)(n:oQ X κ Φ [a] as)(o:starEach [a] X.env=[(false,eval a X.env)]):vp X κ Φ tg (.Call (.Name "range" p) [a] [] pos) (dH as):=by
 intro d q r s t;refine PI.imp (uE l m (n d q r s t) o) ?_;rintro z H R ⟨u,Z,S,g⟩;refine⟨u,Z,S,pP.Gg (Q':=λh e=>∃j:Int,h=[.int j] /\ -(2 ^ 62)<=j/\j<2 ^ 62/\R (Fm 0 j.toNat) e) g λA w _ h e f x B i y b=>?_⟩
 unfold tK at b;split at b
 .obtain⟨v,rfl,k⟩:=eL y
  simp only[ak]at k;subst k;split at b
  .rename_i c
   have c:=ku c;exact⟨_,rfl,c.1,c.2,b _ e f x (cv.refl i.has) i xq⟩
  .exact b.elim
 .exact b.elim
noncomputable def pT(n:Nat)(d:D):Option aX:=match n,d with
 |0,d=>some [some d]
 |n,.tup a=>if a.length=n then some (a.map some)else none
 |_,_=>none
noncomputable def eI(cap:List Nat)(ρ:aX):aX:=cap.map λi=>(ρ[i]?).join
def kW(nc:Bool)(mc:EM)(ρ:aX)(Ω:aD):aw Bool:=if nc=true then .ok true Ω else dv (mc ρ Ω)
def vK(nc:Bool)(mc me:EM)(n:Nat)(b:aX)(src:Src):Nat->Nat->List D->aD->aw (List D)
 |0,_,_,_=>.bad
 |f+1,i,a,Ω=>match e9 src Ω with
  |none=>.bad
  |some ds=>match ds[i]? with
   |none=>.ok a Ω
   |some d=>match pT n d with
    |none=>.bad
    |some c=>if small (a.length+1)then match kW nc mc (c++b) Ω with
     |.ok true aQ=>match me (c++b) aQ with
      |.ok y Jr=>vK nc mc me n b src f (i+1) (a++[y]) Jr
      |_=>.bad
     |.ok false aQ=>vK nc mc me n b src f (i+1) a aQ
     |_=>.bad else .bad
def cJ(me:EM)(nc:Bool)(mc:EM)(mi:IM)(n:Nat)(cap:List Nat):EM:=λc d=>match mi c d with
 |.ok s a=>match vK nc mc me n (eI cap c) s fuel 0 [] a with
  |.ok e b=>f9 b (.lst e)
  |_=>.bad
 |.exc x a=>.exc x a
 |.bad=>.bad
noncomputable def qG:e8:=λ_ _ _ _ _=>False
theorem pU{cap:List Nat}{ds:List D}{vs:List V}(S:cH κ hU Z0 H0 α Z Ω ρ σ H)(g:cv α Z H α1 Z1 H1)(s:bK κ α1 Z1 au H1)(r:az (ak α1 Z1 H1) ds vs) :
  cH κ α1 Z1 H1 α1 Z1 au (ds.map some++eI cap ρ) (vs.map some++pC cap σ) H1:=by
 have a:=r.length;refine⟨s,cv.refl s.has,?_,λi d h=>?_⟩
 .rw[List.length_append,List.length_append,List.length_map,List.length_map,a]
  unfold pC eI;rw[List.length_map,List.length_map]
 .by_cases b:i<ds.length
  .rw[List.getElem?_append_left (by simpa using b),List.getElem?_map]at h
   rw[List.getElem?_append_left (by simpa[a]using b),List.getElem?_map]
   cases q:ds[i]? with
   |none=>rw[q]at h;cases h
   |some l=>
    rw[q]at h;cases h;obtain⟨v,c,e⟩:=r.get q;exact⟨v,by rw[c];rfl,e⟩
  .rw[List.getElem?_append_right (by simpa using b)]at h
   rw[List.getElem?_append_right (by simpa[a]using b)]
   unfold eI at h;unfold pC;rw[List.length_map,List.getElem?_map]at h;rw[List.length_map,a,List.getElem?_map];cases q:cap[i - ds.length]? with
   |none=>rw[q]at h;cases h
   |some j=>
    rw[q]at h;have h:(ρ[j]?).join=some d:=by simpa using h
    have k:ρ[j]?=some (some d):=by
     cases f:ρ[j]? with
     |none=>rw[f]at h;cases h
     |some o=>rw[f]at h;rw[show o=some d from h]
    obtain⟨v,c,e⟩:=S.val j d k;refine⟨v,?_,S.st.cG g e⟩
    show some ((σ[j]?).join)=_
    rw[c];rfl
theorem cv.pV(g:cv α Z H α' Z' H'){a:Addr}{o:HO}(b:a∉α)(h:H a=some o):a∉α':=λq=>by
 rcases g.Dp a q with q|q
 .exact b q
 .rw[h]at q;cases q
theorem cv.Dy(g:cv α Z H α' Z' H'){a:Addr}{o:HO}(b:¬ Z a)(h:H a=some o):¬ Z' a:=λq=>by
 rcases g.new a q with q|q
 .exact b q
 .rw[h]at q;cases q
theorem cv.side(g:cv α Z H α' Z' H'){a:Addr}{o:HO}(d:a∉α)(h:H a=Option.none):cv α Z H α' Z' (upd H' a o):=
 ⟨g.pre,g.sub,g.new,g.Dp,λb u e c=>by rw[aE (aY e h)];exact g.frm b u e c,λb c=>by rw[aE (λ(q:b=a)=>d (by rw[←q];exact c))];exact g.has b c,λb f u e=>by rw[aE (aY e h)];exact g.dJ b f u e⟩
theorem AB{n:Nat}{d:D}{a:aX}(h:pT n d=some a):∃ds:List D,a=ds.map some:=by
 unfold pT at h;split at h
 .cases h;exact⟨[d],rfl⟩
 .split at h
  .cases h;exact⟨_,rfl⟩
  .cases h
 .cases h
theorem bK.part(S:bK κ α Z Ω H){g:Addr}{vs:List V}{ds:List D}(i:H g=some (.lst vs))(j:g∉α)(hz:¬ Z g)(r:az (ak α Z H) ds vs):bK κ (α++[g]) Z (Ω++[.lst ds]) H:=by
 have h:∀(n:Nat) (a:Addr),α[n]?=some a->(α++[g])[n]?=some a:=λn a e=>by rw[List.getElem?_append_left (List.getElem?_eq_some_iff.mp e).1];exact e
 have mono:∀d v,ak α Z H d v->ak (α++[g]) Z H d v:=λd v r=>r.mono h (λ_ _ _ e=>e) λ_ z=>z
 refine⟨?_,?_,λa ha f=>?_,S.dom⟩
 .refine List.nodup_append.mpr ⟨S.vc,by simp,λa ha b k e=>?_⟩
  rw[List.mem_singleton.mp k]at e;exact j (e▸ha)
 .exact az.append (S.yW.imp λc a l=>l.imp mono (λ_ e=>e) λ_ _ _ e=>e) (.one ⟨vs,i,r.imp mono⟩)
 .rcases List.mem_append.mp ha with ha|ha
  .exact S.sep a ha f
  .rw[List.mem_singleton.mp ha]at f;exact hz f
theorem bK.side(S:bK κ α Z Ω H){f:Addr}{o:HO}(m:f∉α)(hz:¬ Z f)(n:∀o u,H f≠some (.dJ o u)):bK κ α Z Ω (upd H f o)/\∀d v,ak α Z H d v->ak α Z (upd H f o) d v:=by
 have mono:∀d v,ak α Z H d v->ak α Z (upd H f o) d v:=λd v r=>r.mono (λ_ _ e=>e) (λa u z e=>by rw[aE (λ(q:a=f)=>hz (by rw[←q];exact z))];exact e) λ_ z=>z
 have k:∀{j:List Cell}{g:List Addr},(∀a∈g,a∈α)->az (λc a=>gO κ (ak α Z H) H a c) j g->az (λc a=>gO κ (ak α Z (upd H f o)) (upd H f o) a c) j g:=by
  intro j g i p
  induction p with
  |nil=>exact .nil
  |@cons c a j g r t s=>
   have l:a≠f:=λq=>m (q▸i a (by simp))
   exact .cons (r.imp mono (λu e=>by rw[aE l];exact e) λb w x e=>by rw[aE (λq=>n w x (by rw[←q];exact e))];exact e) (s λb y=>i b (by simp[y]))
 exact⟨⟨S.vc,k (λa h=>h) S.yW,S.sep,λa z=>by rw[aE (λ(q:a=f)=>hz (by rw[←q];exact z))];exact S.dom a z⟩,mono⟩
end
section
variable{X:Cx}{κ:Str->Addr->Prop}{Φ:e8}{tg iter elt:Expr}{ifs:List Expr}{scope:Scope}{tn cn:List Str}{cap:List Nat}{me mc:EM}{mi:IM}{nc:Bool}{pos:Pos}{n:Nat}
theorem vq{g:TG}(m0:vp X κ Φ tg iter mi)
  (o0:∀(d:D) (ds:List D) x p Z Ω H (m:L2.St) (k:L2.St->Hp->Prop),pT n d=some (ds.map some)->bK κ p Z Ω H->ak p Z H d x->(∀vs,az (ak p Z H) ds vs->k (vs.map some++m) H)->g x (List.replicate tn.length none++m) H k)
  (hb:∀B C h j fp,PG (blk X scope B C (tn++cn) h j fp) tg g/\((ifs=[]/\nc=true)\/∃c,ifs=[c]/\nc=false/\gb (blk X scope B C (tn++cn) h j fp) κ qG c mc)/\bt (blk X scope B C (tn++cn) h j fp) κ qG elt me) :
  ∀V Z0 H0 ρ Ω,∃wi tc te,PI X tg iter wi/\(∀B C h j fp,PG (blk X scope B C (tn++cn) h j fp) tg g/\zL (blk X scope B C (tn++cn) h j fp) ifs tc/\PE (blk X scope B C (tn++cn) h j fp) elt te) /\
   ∀σ H Q,tO κ Φ V Z0 H0 (cJ me nc mc mi n cap) ρ Ω σ H Q->my wi tn.length cap g tc te σ H Q:=by
 intro V Z0 H0 ρ Ω
 let tc:TT:=λm H Q=>∃p Z Ω r,cH κ p Z H p Z Ω r m H/\oO κ qG p Z H (kW nc mc r Ω) Q
 let te:TE:=λm H Q=>∃p Z Ω r,cH κ p Z H p Z Ω r m H/\bS κ qG p Z H (me r Ω) Q
 have p0:∀B C h j fp,PG (blk X scope B C (tn++cn) h j fp) tg g/\zL (blk X scope B C (tn++cn) h j fp) ifs tc/\PE (blk X scope B C (tn++cn) h j fp) elt te:=by
  intro B C h j fp;obtain⟨h1,h2,h3⟩:=hb B C h j fp;refine⟨h1,?_,?_⟩
  .rcases h2 with ⟨e,hn⟩|⟨c,e,hn,h2⟩
   .subst e
    intro pins s m H Q I q;obtain⟨p,Z,Ω,r,S,k⟩:=q;rw[kW,if_pos hn]at k;exact zM pins s m H Q I (k H p Z (cv.refl S.st.has) S.st)
   .subst e
    intro pins s m H Q I q;obtain⟨p,Z,Ω,r,S,k⟩:=q;rw[kW,if_neg (by rw[hn];exact Bool.false_ne_true)]at k
    exact zN (h2 p Z H r Ω) pins s m H Q I ⟨p,Z,S,k⟩
  .intro pins s m H Q I q
   obtain⟨p,Z,Ω,r,S,k⟩:=q;exact h3 p Z H r Ω pins s m H Q I ⟨p,Z,S,k⟩
 refine⟨_,tc,te,m0 V Z0 H0 ρ Ω,p0,?_⟩;rintro σ H Q ⟨p,Z,S,k⟩;refine⟨p,Z,S,?_⟩;simp only[cJ]at k;cases qi:mi ρ Ω with
 |exc x Y=>rw[qi]at k;exact k
 |bad=>rw[qi]at k;exact k.elim
 |ok a0 Y=>
  rw[qi]at k;dsimp only at k;intro J H1 K Z1 g1 s1 w1 E hD;cases qg:vK nc mc me n (eI cap ρ) a0 fuel 0 [] Y with
  |exc x e0=>rw[qg]at k;exact k.elim
  |bad=>rw[qg]at k;exact k.elim
  |ok ys e0=>
   rw[qg]at k;dsimp only at k;have R:¬ Z1 E:=λz=>s1.dom E z hD
   have A:E∉K:=λz=>s1.has E z hD
   refine⟨λi f vs T=>∃t U w F,cv K Z1 H1 t U T/\bK κ t U w T/\E∉t/\¬ U E/\T E=some (.lst vs)/\az (ak t U T) F vs/\vK nc mc me n (eI cap ρ) a0 f i F w=.ok ys e0,
    ⟨fuel,K,Z1,Y,[],?_,?_,A,R,aN,.nil,qg⟩,?_⟩
   .exact⟨λ_ _ e=>e,λ_ z=>z,λ_ z=>.inl z,λ_ z=>.inl z,λa o e _=>by rw[aE (aY e hD)];exact e,λa ha=>by rw[aE (λ(q:a=E)=>A (by rw[←q];exact ha))];exact s1.has a ha,λa o u e=>by rw[aE (aY e hD)];exact e⟩
   .exact(s1.side A R λo u z=>by rw[hD]at z;cases z).1
   rintro i f vs T ⟨t,U,w,F,G,s2,nD,nZ,L,r2,l⟩;refine⟨L,?_⟩;cases f with
   |zero=>cases l
   |succ f=>
    simp only[vK]at l;cases qs:e9 a0 w with
    |none=>rw[qs]at l;cases l
    |some ds=>
     rw[qs]at l;dsimp only at l;obtain⟨q0,r0⟩:=w1 t U w T ds G s2 qs;cases qd:ds[i]? with
     |none=>
      rw[qd]at l;cases l;have hi:ds.length<=i:=List.getElem?_eq_none_iff.mp qd;refine .inl ⟨r0 i hi,?_⟩;have sf:=s2.part L nD nZ r2
      have gA:cv K Z1 H1 (t++[E]) U T:=⟨λn a e=>by rw[List.getElem?_append_left (List.getElem?_eq_some_iff.mp (G.pre n a e)).1];exact G.pre n a e,G.sub,G.new,λa ha=>by
       rcases List.mem_append.mp ha with ha|ha
       .exact G.Dp a ha
       .rw[List.mem_singleton.mp ha];exact .inr hD,G.frm,G.has,G.dJ⟩
      exact k _ T _ U (g1.trans gA) sf (dA s2 E)
     |some d=>
      rw[qd]at l;dsimp only at l;obtain⟨s0,t0⟩:=q0 i d qd;cases qt:pT n d with
      |none=>rw[qt]at l;cases l
      |some ts=>
       rw[qt]at l;dsimp only at l;obtain⟨es,rfl⟩:=AB qt
       by_cases M:small (F.length+1)=true
       .rw[if_pos M]at l
        have M:=bE M;refine .inr ⟨s0,by rw[r2.length];omega,λx H3 yl=>?_⟩
        obtain⟨Z3,g3,s3,rx⟩:=t0 x H3 yl;have u0:=g3.Dy nZ L;have b0:=g3.frm E _ L nD;refine o0 d es x t Z3 w H3 (pC cap σ) _ qt s3 rx λws f0=>?_
        have gB:=g1.trans (G.trans g3);have SB:=pU (cap:=cap) S gB s3 f0;refine⟨t,Z3,w,_,SB,?_⟩;cases qc:kW nc mc (es.map some++eI cap ρ) w with
        |exc x N=>rw[qc]at l;cases l
        |bad=>rw[qc]at l;cases l
        |ok b N=>
         rw[qc]at l;intro H5 g0 Z5 O s5;have c0:=O.pV nD b0;have h0:=O.Dy u0 b0;have P:=O.frm E _ b0 nD;cases b with
         |false=>
          refine pv ?_;exact⟨f,Nat.lt_succ_self _,g0,Z5,N,F,G.trans (g3.trans O),s5,c0,h0,P,s3.jv O (s2.jv g3 r2),l⟩
         |true=>
          refine pw ?_;dsimp only at l;have SC:=pU (cap:=cap) S (gB.trans O) s5 (s3.jv O f0);refine⟨g0,Z5,N,_,SC,?_⟩;cases qe:me (es.map some++eI cap ρ) N with
          |exc x i0=>rw[qe]at l;cases l
          |bad=>rw[qe]at l;cases l
          |ok y i0=>
           rw[qe]at l;intro v H6 v0 Z6 g6 s6 rv;have j0:=g6.pV c0 P;have k0:=g6.Dy h0 P;have l0:=g6.frm E _ P c0;obtain⟨s7,m7⟩:=s6.side (o:=.lst (vs++[v])) j0 k0 (λo u z=>by rw[l0]at z;cases z)
           refine⟨l0,f,Nat.lt_succ_self _,v0,Z6,i0,F++[y],((G.trans (g3.trans O)).trans g6).side A hD,s7,j0,k0,aN,?_,l⟩;exact((s5.jv g6 (s3.jv O (s2.jv g3 r2))).append (.one rv)).imp m7
       .rw[if_neg M]at l;cases l
theorem kX{x:Str}{j:Pos}(l:vp X κ Φ (.Name x j) iter mi)(w:scope.names.lookup x=some .local)(m:([x]++cn).Nodup)
  (z:∀h C b f fp,((ifs=[]/\nc=true)\/∃c,ifs=[c]/\nc=false/\gb (blk X scope h C ([x]++cn) b f fp) κ qG c mc)/\bt (blk X scope h C ([x]++cn) b f fp) κ qG elt me) :
  ∀n A B ρ Ω,∃p q s,PI X (.Name x j) iter p/\(∀h C b f fp,PG (blk X scope h C ([x]++cn) b f fp) (.Name x j) (gT 0)/\zL (blk X scope h C ([x]++cn) b f fp) ifs q/\PE (blk X scope h C ([x]++cn) b f fp) elt s) /\
   ∀t H Q,tO κ Φ n A B (cJ me nc mc mi 0 cap) ρ Ω t H Q->my p [x].length cap (gT 0) q s t H Q:=by
 have u:(relabel scope X.env).names.lookup x=some .local:=lookup_relabel_local w;refine vq (g:=gT 0) (tn:=[x]) l (λd o y J Z Ω H D k i S E F=>?_) λh C b f fp=>?_
 .have i:some [some d]=some (o.map some):=i
  have e:o=[d]:=by
   injection i with i;cases o with
   |nil=>cases i
   |cons a r=>
    cases r with
    |nil=>simp only[List.map_cons,List.map_nil,List.cons.injEq,Option.some.injEq,and_true]at i;rw[i]
    |cons _ _=>cases i
  subst e;exact F [y] (.one E)
 .obtain⟨G,I⟩:=z h C b f fp
  exact⟨mY (X:=blk X scope h C ([x]++cn) b f fp) m rfl (.inl u) (.inr u),G,I⟩
theorem xu{x:Str}{g:Pos}(i:X.calm=true)(B:jq X scope [x] cn cap)(j:∀z,foldedSetIterable iter X.env z=pure z)(d:vp X κ Φ (.Name x g) iter mi)(k:scope.names.lookup x=some .local)(e:([x]++cn).Nodup)
  (l:∀h C a b fp,((ifs=[]/\nc=true)\/∃c,ifs=[c]/\nc=false/\gb (blk X scope h C ([x]++cn) a b fp) κ qG c mc)/\bt (blk X scope h C ([x]++cn) a b fp) κ qG elt me) :
  bt X κ Φ (.ListComp elt [⟨.Name x g,iter,ifs,0⟩] scope pos) (cJ me nc mc mi 0 cap):=by
 intro f m n o p;obtain⟨t,u,w,q,r,s⟩:=kX (cap:=cap) d k e l f m n o p;exact PE.imp (zO i B q j (jr 1 (by decide)) r) s
end
inductive gP where
 |nx (ρ:aX) (Ω:aD)|bk (ρ:aX) (Ω:aD)|ct (ρ:aX) (Ω:aD)|rt (d:D) (Ω:aD)|exc (x:D) (Ω:aD)|bad
abbrev SM:=aX->aD->gP
def eg(κ:Str->Addr->Prop)(Φ:e8)(b:List Addr)(e:Addr->Prop)(f:Hp)(E:Ends):gP->Prop
 |.nx ρ Ω=>∀c H a Z,cH κ b e f a Z Ω ρ c H->E.nx c H
 |.bk ρ Ω=>∀c H a Z,cH κ b e f a Z Ω ρ c H->E.bk c H
 |.ct ρ Ω=>∀c H a Z,cH κ b e f a Z Ω ρ c H->E.ct c H
 |.rt d Ω=>∀v H a Z,cv b e f a Z H->bK κ a Z Ω H->ak a Z H d v->E.rt v H
 |.exc x Ω=>∀H a Z,cv b e f a Z H->bK κ a Z Ω H->Φ x Ω a Z H
 |.bad=>False
noncomputable def Js(κ:Str->Addr->Prop)(Φ:e8)(a:List Addr)(b:Addr->Prop)(d:Hp)(c:SM)(ρ:aX)(Ω:aD):TS:=λE e H=>∃f Z,cH κ a b d f Z Ω ρ e H/\eg κ Φ a b d E (c ρ Ω)
def nW(X:Cx)(κ:Str->Addr->Prop)(Φ:e8)(st:Stmt)(c:SM):Prop:=∀a b d e f,PS X st (Js κ Φ a b d c e f)
def lS(X:Cx)(κ:Str->Addr->Prop)(Φ:e8)(a:List Stmt)(c:SM):Prop:=∀b d e f g,jA X a (Js κ Φ b d e c f g)
noncomputable def cq{c:Type}(r:aw c)(k:c->aD->gP):gP:=match r with
 |.ok a b=>k a b
 |.exc x b=>.exc x b
 |.bad=>.bad
noncomputable def ai:SM:=λa b=>.nx a b
noncomputable def aj(a b:SM):SM:=λe f=>match a e f with
 |.nx c d=>b c d
 |r=>r
def aJ(i:Nat)(m:EM):SM:=λb c=>cq (m b c) λd a=>.nx (b.set i (some d)) a
def ck(m:EM):SM:=λb c=>cq (m b c) λ_ a=>.nx b a
def bP(m:EM):SM:=λb c=>cq (m b c) λd a=>.rt d a
noncomputable def mM:SM:=λ_ a=>.rt .non a
def dR(m:EM)(a b:SM):SM:=λd e=>cq (dv (m d e)) λt c=>if t=true then a d c else b d c
noncomputable def bz:SM:=λ_ _=>.bad
def gQ(m:EM)(b:SM):Nat->SM
 |0,_,_=>.bad
 |f+1,ρ,Ω=>cq (dv (m ρ Ω)) λt aQ=>if t=true then (match b ρ aQ with
  |.nx a au=>gQ m b f a au
  |.ct a au=>gQ m b f a au
  |.bk a au=>.nx a au
  |r=>r)else .nx ρ aQ
def rM(m:EM)(b:SM):SM:=gQ m b fuel
noncomputable def fx:List Nat->List D->aX->aX
 |i::a,d::ds,ρ=>fx a ds (ρ.set i (some d))
 |_,_,ρ=>ρ
noncomputable def du(i:Nat)(d:D)(ρ:aX):Option aX:=some (ρ.set i (some d))
def iI(a:List Nat)(d:D)(ρ:aX):Option aX:=match d with
 |.tup b=>if b.length=a.length then some (fx a b ρ)else none
 |_=>none
def e_(c:D->aX->Option aX)(src:Src)(b:SM):Nat->Nat->SM
 |0,_,_,_=>.bad
 |f+1,i,ρ,Ω=>match e9 src Ω with
  |none=>.bad
  |some ds=>match ds[i]? with
   |none=>.nx ρ Ω
   |some d=>match c d ρ with
    |none=>.bad
    |some e=>match b e Ω with
     |.nx a au=>e_ c src b f (i+1) a au
     |.ct a au=>e_ c src b f (i+1) a au
     |.bk a au=>.nx a au
     |r=>r
def eE(a:D->aX->Option aX)(mi:IM)(b:SM):SM:=λd e=>cq (mi d e) λs c=>e_ a s b fuel 0 d c
def Dz(e:List Nat)(m:EM):SM:=λc f=>cq (m c f) λd a=>match iI e d c with
 |some b=>.nx b a
 |none=>.bad
section
variable{X:Cx}{κ:Str->Addr->Prop}{Φ:e8}{α α' hU α1:List Addr}{Z Z' Z0 Z1:Addr->Prop}{Ω au:aD}{H H' H0 H1:Hp}{ρ:aX}{σ:L2.St}{E:Ends}{a b e ce o tg:Expr}{st:Stmt}{rest ta tb:List Stmt}{m:EM}{mi:IM}{ca cb:SM}{pos pos':Pos}
theorem cH.set(S:cH κ hU Z0 H0 α Z Ω ρ σ H){d:D}{v:V}(r:ak α Z H d v)(i:Nat):cH κ hU Z0 H0 α Z Ω (ρ.set i (some d)) (σ.set i (some v)) H:=by
 refine⟨S.st,S.gr,by simp[S.len],λj c h=>?_⟩
 by_cases a:i=j
 .subst a
  have b:i<ρ.length:=by
   have:=(List.getElem?_eq_some_iff.mp h).1;simpa using this
  rw[List.getElem?_set_self b]at h;cases h;exact⟨v,by rw[List.getElem?_set_self (by rw[S.len];exact b)],r⟩
 .rw[List.getElem?_set_ne a]at h ⊢
  exact S.val j c h
theorem eg.use{r:aw D}{k:D->aD->gP}{Q:VK}(S:cH κ hU Z0 H0 α Z Ω ρ σ H)(f:eg κ Φ hU Z0 H0 E (cq r k))(h:∀d aQ v b a c,r=.ok d aQ->cv α Z H a c b->cH κ hU Z0 H0 a c aQ ρ σ b->ak a c b d v->eg κ Φ hU Z0 H0 E (k d aQ)->Q v b):bS κ Φ α Z H r Q:=by
 cases r with
 |ok d aQ=>exact λv b a c g s q=>h d aQ v b a c rfl g (S.grow g s) q f
 |exc x aQ=>exact λb a c g s=>f b a c (S.gr.trans g) s
 |bad=>exact f
theorem eg.Gh{r:aw Bool}{k:Bool->aD->gP}{Q:Bool->Hp->Prop}(S:cH κ hU Z0 H0 α Z Ω ρ σ H)(f:eg κ Φ hU Z0 H0 E (cq r k))(h:∀t aQ b a c,r=.ok t aQ->cv α Z H a c b->cH κ hU Z0 H0 a c aQ ρ σ b->eg κ Φ hU Z0 H0 E (k t aQ)->Q t b):oO κ Φ α Z H r Q:=by
 cases r with
 |ok d aQ=>exact λb a c g s=>h d aQ b a c rfl g (S.grow g s) f
 |exc x aQ=>exact λb a c g s=>f b a c (S.gr.trans g) s
 |bad=>exact f
theorem jA.ex{c:Type}{t:c->TS}{a:List Stmt}(h:∀i,jA X a (t i)):jA X a (λD b H=>∃i,t i D b H):=λpins s b H D I ⟨i,q⟩=>h i pins s b H D I q
theorem AD:lS X κ Φ [] ai:=by
 intro a d e g h;refine jA.imp zc ?_;rintro E b H ⟨c,Z,S,f⟩;exact f b H c Z S
theorem xv(k:nW X κ Φ st ca)(l:lS X κ Φ rest cb):lS X κ Φ (st::rest) (aj ca cb):=by
 intro c g h i j;refine jA.imp (vS (k c g h i j) (jA.ex λp:aX×aD=>l c g h p.1 p.2)) ?_
 rintro E s H ⟨m,Z,S,f⟩;refine⟨m,Z,S,?_⟩;simp only[aj]at f;cases q:ca i j with
 |nx b a=>rw[q]at f;exact λn t e o r=>⟨(b,a),e,o,r,f⟩
 |bk b a=>rw[q]at f;exact f
 |ct b a=>rw[q]at f;exact f
 |rt d a=>rw[q]at f;exact f
 |exc x a=>rw[q]at f;exact f
 |bad=>rw[q]at f;exact f.elim
theorem xw:nW X κ Φ (.Return none pos) mM:=by
 intro a c d e g;refine PS.imp ze ?_;rintro E h H ⟨b,Z,S,f⟩;exact f .non H b Z S.gr S.st (bb rfl)
theorem AE(h:bt X κ Φ e m):nW X κ Φ (.Return (some e) pos) (bP m):=by
 intro a i j k l;refine PS.imp (CL (h a i j k l)) ?_;rintro E t H ⟨n,Z,S,f⟩;exact⟨n,Z,S,eg.use S f λd o v p b q _ g c r s=>s v p b q c.gr c.st r⟩
theorem tL{i:Nat}{x:Str}(c:X.N.Nodup)(j:X.N[i]?=some x)(k:Loc X.env.scope x)(l:X.fn x=true\/X.env.scope.names.lookup x=some .local)(n:swapsWith e (some (.Name x pos')) pos.line X.env=pure false)(h:bt X κ Φ e m) :
  nW X κ Φ (.Assign [.Name x pos'] e pos) (aJ i m):=by
 intro a o p q s;refine PS.imp (CP c j k (h a o p q s) n l) ?_;rintro E B H ⟨t,Z,S,f⟩;exact⟨t,Z,S,eg.use S f λd u v w b y _ g z r A=>A _ w b y (z.set r i)⟩
theorem xx{i:Nat}{x:Str}{k iter p:Expr}{l:List Expr}{scope:Scope}{tn q:List Str}{cap:List Nat}{g:TG}(G:X.N.Nodup)(I:X.N[i]?=some x)(J:X.env.scope.names.lookup x=some .local)
  (s:swapsWith (.ListComp k [⟨p,iter,l,0⟩] scope pos) (some (.Name x pos')) pos'.line X.env=pure true) (K:X.calm=true) (B:jq X scope tn q cap) (L:∀x,foldedSetIterable iter X.env x=pure x)
  (t:∀v c H Q,g v c H Q->g v c H λn M=>Q n M/\n.length=c.length/\∀j,tn.length<=j->n[j]?=c[j]?)
  (h:∀o u w ρ Ω,∃y z A,PI X p iter y/\(∀D C a b fp,PG (blk X scope D C (tn++q) a b fp) p g/\zL (blk X scope D C (tn++q) a b fp) l z/\PE (blk X scope D C (tn++q) a b fp) k A) /\
   ∀c H Q,tO κ Φ o u w m ρ Ω c H Q->my y tn.length cap g z A c H Q) {e:Pos} (O:e.line=pos'.line) :
  nW X κ Φ (.Assign [.Name x pos'] (.ListComp k [⟨p,iter,l,0⟩] scope pos) e) (aJ i m):=by
 intro o u w ρ Ω;obtain⟨y,z,A,P,R,T⟩:=h o u w ρ Ω;refine PS.imp (rh G I J (by rw[O];exact s) K B P L t R) ?_
 rintro E c H ⟨U,Z,S,f⟩;exact T c H _ ⟨U,Z,S,eg.use S f λd V v Y F Z1 _ g S1 r f1=>f1 _ Y F Z1 (S1.set r i)⟩
theorem AF(c:swapsWith e none pos.line X.env=pure false)(h:bt X κ Φ e m):nW X κ Φ (.Expr e pos) (ck m):=by
 intro a i j k l;refine PS.imp (zd (h a i j k l) c) ?_;rintro E u H ⟨n,Z,S,f⟩;exact⟨n,Z,S,eg.use S f λd o v p b q _ g s r t=>t _ p b q s⟩
theorem DA(n:gb X κ Φ e m)(o:lS X κ Φ ta ca)(p:lS X κ Φ tb cb):nW X κ Φ (.If e ta tb pos) (dR m ca cb):=by
 intro b h i j q;refine PS.imp (Fi (n b h i j q) (jA.ex λa=>o b h i j a) (jA.ex λa=>p b h i j a)) ?_
 rintro E s H ⟨r,Z,S,f⟩;refine⟨r,Z,S,eg.Gh S f λt a u c k _ g l d=>?_⟩
 cases t with
 |true=>rw[if_pos rfl]at d;exact pw ⟨a,c,k,l,d⟩
 |false=>rw[if_neg Bool.false_ne_true]at d;exact pv ⟨a,c,k,l,d⟩
theorem mO:nW X κ Φ st bz:=λa b c d e pins s g H E I ⟨h,Z,S,f⟩=>f.elim
theorem vt(L:PassesOwn (model X.prog X.w) X.A X.env X.xe)(M:gb X κ Φ e m)(N:lS X κ Φ tb cb):nW X κ Φ (.While e tb [] pos) (rM m cb):=by
 intro b o r j k;refine PS.imp (vU L (PT.ex λp:aX×aD=>M b o r p.1 p.2) (jA.ex λp:aX×aD=>N b o r p.1 p.2)) ?_
 rintro E I H ⟨s,Z,S,f⟩;refine⟨λf I H=>∃s Z j k,cH κ b o r s Z k j I H/\eg κ Φ b o r E (gQ m cb f j k),⟨fuel,s,Z,j,k,S,f⟩,?_⟩
 rintro f O R ⟨z,P,l,B,J,C⟩;cases f with
 |zero=>exact C.elim
 |succ f=>
  simp only[gQ]at C;refine⟨(l,B),z,P,J,eg.Gh J C λt u T D Q _ g K a=>?_⟩
  cases t with
  |false=>
   rw[if_neg Bool.false_ne_true]at a;exact pv (a _ _ _ _ K)
  |true=>
   rw[if_pos rfl]at a;refine pw ⟨λh y=>∃s Z j k,cH κ b o r s Z k j h y/\eg κ Φ b o r E (gQ m cb f j k),λh y q=>⟨f,Nat.lt_succ_self f,q⟩,(l,u),D,Q,K,?_⟩
   cases q:cb l u with
   |nx i c=>rw[q]at a;exact λh y n F G=>⟨n,F,i,c,G,a⟩
   |ct i c=>rw[q]at a;exact λh y n F G=>⟨n,F,i,c,G,a⟩
   |bk i c=>rw[q]at a;exact a
   |rt d c=>rw[q]at a;exact a
   |exc x c=>rw[q]at a;exact a
   |bad=>rw[q]at a;exact a.elim
def xy(κ:Str->Addr->Prop)(e:D->aX->Option aX)(g:TG):Prop:=
 ∀(d:D) (x:V) a h i f Z j l b m H (k:L2.St->Hp->Prop),cH κ a h i f Z j l m H->ak f Z H d x->e d l=some b->(∀c,cH κ a h i f Z j b c H->k c H)->g x m H k
theorem tN{p:D->aX->Option aX}{g:TG}(hp:PassesOwn (model X.prog X.w) X.A X.env X.xe)(hc:X.calm=true)(hi:vp X κ Φ tg e mi)(hg:PG X tg g)(a0:xy κ p g)(hb:lS X κ Φ tb cb)(hs:∀x,foldedSetIterable e X.env x=pure x):nW X κ Φ (.For tg e tb [] pos) (eE p mi cb):=by
 intro j C F B M;have b0:jA X tb (λD Q H=>∃a n t c h,Js κ Φ a n t cb c h D Q H):=λpins s Q H D I ⟨a,n,t,c,h,q⟩=>hb a n t c h pins s Q H D I q
 refine PS.imp (CS hp hc (hi j C F B M) hg b0 hs) ?_;rintro E Q H ⟨α,Z,S,f⟩;refine⟨α,Z,S,?_⟩;simp only[eE]at f;cases qi:mi B M with
 |exc x N=>rw[qi]at f;exact λt a n g s=>f t a n (S.gr.trans g) s
 |bad=>rw[qi]at f;exact f.elim
 |ok G N=>
  rw[qi]at f;have f:eg κ Φ j C F E (e_ p G cb fuel 0 B N):=f;intro J t a n g1 s1 w1;have S1:=S.grow g1 s1;refine⟨λi f Q H=>∃k R B M,cH κ j C F k R M B Q H/\cv a n t k R H/\eg κ Φ j C F E (e_ p G cb f i B M),⟨fuel,a,n,B,N,S1,cv.refl s1.has,f⟩,?_⟩
  rintro i f T H2 ⟨k,R,U,u,S2,g2,b⟩;cases f with
  |zero=>exact b.elim
  |succ f=>
   simp only[e_]at b;cases qs:e9 G u with
   |none=>rw[qs]at b;exact b.elim
   |some ds=>
    rw[qs]at b;dsimp only at b;obtain⟨c0,e0⟩:=w1 k R u H2 ds g2 S2.st qs;cases Y:ds[i]? with
    |none=>
     rw[Y]at b;exact .inl ⟨e0 i (List.getElem?_eq_none_iff.mp Y),b T H2 k R S2⟩
    |some d=>
     rw[Y]at b;dsimp only at b;obtain⟨f0,g0⟩:=c0 i d Y;cases qp:p d U with
     |none=>rw[qp]at b;exact b.elim
     |some K=>
      rw[qp]at b;dsimp only at b;refine .inr ⟨f0,λl o=>∃z O B M,cH κ j C F z O M B l o/\cv a n t z O o/\eg κ Φ j C F E (e_ p G cb f (i+1) B M),λl o q=>⟨f,Nat.lt_succ_self f,q⟩,λx H3 yl=>?_⟩
      obtain⟨O,g3,s3,rx⟩:=g0 x H3 yl;have S3:=S2.grow g3 s3;refine a0 d x j C F k O u U K T H3 _ S3 rx qp λh0 S4=>?_
      have base:cv j C F a n t:=S1.gr;have gL:cv a n t k O H3:=g2.trans g3;have S5:cH κ a n t k O u K h0 H3:=⟨S4.st,gL,S4.len,S4.val⟩;have P:∀{z Z4 V c l o},cH κ a n t z Z4 V c l o->cH κ j C F z Z4 V c l o:=λy=>⟨y.st,base.trans y.gr,y.len,y.val⟩
      refine⟨a,n,t,K,u,k,O,S5,?_⟩;cases q:cb K u with
      |nx c h=>rw[q]at b;exact λl o m L y=>⟨m,L,c,h,P y,y.gr,b⟩
      |ct c h=>rw[q]at b;exact λl o m L y=>⟨m,L,c,h,P y,y.gr,b⟩
      |bk c h=>rw[q]at b;exact λl o m L y=>b l o m L (P y)
      |rt d h=>rw[q]at b;exact λv o m L g s r=>b v o m L (base.trans g) s r
      |exc x h=>rw[q]at b;exact λo m L g s=>b o m L (base.trans g) s
      |bad=>rw[q]at b;exact b.elim
theorem DB(i:Nat):xy κ (du i) (gT i):=λd x a c f g Z j l b m H k S r e h=>by
 cases e;exact h _ (S.set r i)
theorem kY:∀(a:List Nat) (ds:List D) (vs:List V) {ρ:aX}{b:L2.St},az (ak α Z H) ds vs->ds.length=a.length->cH κ hU Z0 H0 α Z Ω ρ b H->∀(k:L2.St->Hp->Prop),(∀c,cH κ hU Z0 H0 α Z Ω (fx a ds ρ) c H->k c H)->jc a vs b H k
 |[],[],vs,ρ,b,r,_,S,k,h=>by rw[r.nil_inv];exact⟨rfl,h b S⟩
 |i::a,d::ds,vs,ρ,b,r,e,S,k,h=>by
  obtain⟨v,ws,rfl,f,g⟩:=r.cons_inv;exact⟨v,ws,rfl,kY a ds ws g (by simpa using e) (S.set f i) k h⟩
 |[],_::_,_,_,_,_,e,_,_,_=>by simp at e
 |_::_,[],_,_,_,_,e,_,_,_=>by simp at e
theorem xA{K:PySem.W.Frag}(b:List Nat):xy κ (iI b) (zg K b.length (jc b)):=λd x i n o p Z q s j t H k S r e h=>by
 cases d with
 |tup l=>
  simp only[iI]at e;split at e
  .rename_i c
   cases e;obtain⟨a,f,rfl,_,m,g⟩:=eK r;exact⟨a,f,rfl,uV (.inl m),by rw[g.length];exact c,kY b l f g c S k h⟩
  .cases e
 |_=>cases e
theorem AG{es:List Expr}{j:Nat}{p pos:Pos}{c:List Nat}(x:PG X (.Tuple es j p) (zg X.K c.length (jc c)))(o:xa e=true)(h:bt X κ Φ e m):nW X κ Φ (.Assign [.Tuple es j p] e pos) (Dz c m):=by
 intro a q s t y;refine PS.imp (CO (h a q s t y) x (by cases e<;>first|rfl | (cases o)) (by cases e<;>first|rfl | (cases o))) ?_
 rintro E z H ⟨A,Z,S,f⟩;refine⟨A,Z,S,eg.use S f λd i v u b w _ g B r k=>?_⟩
 split at k
 .rename_i l C
  exact xA (K:=X.K) c d v a q s b w i t l z u _ B r C λn D=>k n u b w D
 .exact k.elim
end
abbrev aR:=List D->aD->aw D
def ec(κ:Str->Addr->Prop)(F:aR):Sp:=λd H Q _=>∃a Z b c,bK κ a Z b H/\az (ak a Z H) c d/\bS κ qG a Z H (F c b) Q
noncomputable def xB{a:Type}(r:aw a):aw a:=match r with
 |.ok d b=>.ok d b
 |_=>.bad
def bj(F:aR):aR:=λa b=>xB (F a b)
structure xC(X:Cx)(κ:Str->Addr->Prop)(k:Nat)(x:Str)(F:aR):Prop where
 ex:∃(f:Addr) (fd:FuncData) (ps:List Str),X.mg x=some (.ref f)/\PySem.W.keepIn X.K (.ref f)=true/\Binds X.K fd ps []/\cS X.prog X.w X.K X.mg X.base mu k f fd ps (ec κ F)
noncomputable def nX(Ω:aD):D->Option (Nat×Str×List (Str×D))
 |.ref k=>match Ω[k]? with
  |some (.ins C fs)=>some (k,C,fs)
  |_=>none
 |_=>none
def aW(Cs:List Str)(f:Str)(x:D)(Ω:aD):aw D:=match nX Ω x with
 |some (_,C,a)=>if Cs.contains C then (match a.lookup f with
  |some d=>.ok d Ω
  |none=>.bad)else .bad
 |none=>.bad
noncomputable def iJ(f:Str)(v:D):List (Str×D)->List (Str×D)
 |[]=>[(f,v)]
 | (g,x)::r=>if g=f then (g,v)::r else (g,x)::iJ f v r
def aC(C m:Str)(F:aR)(d:EM)(e:AM):EM:=λc f=>(d c f).bind λx a=>match nX a x with
 |some (_,g,h)=>if g=C/\h.lookup m=none then (e c a).bind λi b=>bj F (x::i) b else .bad
 |none=>.bad
noncomputable def dB(C:Str)(F:aR)(xs:List D)(Ω:aD):aw D:=match F (.ref Ω.length::xs) (Ω++[.ins C []])with
 |.ok .non a=>.ok (.ref Ω.length) a
 |_=>.bad
def aZ(Cs:List Str)(f:Str)(e g:EM):SM:=λb h=>cq (g b h) λy c=>cq (e b c) λx a=>match nX a x with
 |some (k,C,d)=>if Cs.contains C&&decide (d.length<1000)then .nx b (a.set k (.ins C (iJ f y d)))else .bad
 |none=>.bad
def gW(x y v:D)(Ω:aD):Option aD:=match x with
 |.ref k=>match Ω[k]? with
  |some (.dK a)=>match je y with
   |some b=>if small (a.length+1)then some (Ω.set k (.dK (bH a b v)))else none
   |none=>none
  |some (.dT a)=>match mI y with
   |some b=>if small (a.length+1)then some (Ω.set k (.dT (bH a b v)))else none
   |none=>none
  |some (.lst c)=>match y with
   |.int i=>match L2.qF c.length i with
    |some n=>some (Ω.set k (.lst (c.set n v)))
    |none=>none
   |_=>none
  |_=>none
 |_=>none
def dI(f g h:EM):SM:=λa i=>cq (h a i) λv b=>cq (f a b) λx c=>cq (g a c) λy d=>match gW x y v d with
 |some e=>.nx a e
 |none=>.bad
section
variable{X:Cx}{κ:Str->Addr->Prop}{Φ:e8}{α α' hU α1:List Addr}{Z Z' Z0 Z1:Addr->Prop}{Ω au:aD}{H H' H0 H1:Hp}{ρ:aX}{σ:L2.St}{Q:VK}{E:Ends}{a b e ce o tg:Expr}{es:List Expr}{st:Stmt}{rest ta tb:List Stmt}{m mo mv ma md mk:EM}{as:AM}{ca cb:SM}{pos pos' p apos:Pos}{F:aR}{C:Str}
theorem bS.ok0{r:aw D}(h:bS κ Φ α Z H (xB r) Q):bS κ qG α Z H r Q:=by
 cases r with
 |ok d a=>exact h
 |exc x a=>exact h.elim
 |bad=>exact h
theorem xD{k:Nat}{x:Str}(F0:xC X κ k x F)(i:cD k X.A)(j:Gl X x)(a:(x==("__debug__":Str))=false)
  (l:starEach (e::es) X.env=(false,eval e X.env)::starEach es X.env) (b:(backTo pos (starEach es X.env)).any (·.1)=false) (m:oQ X κ Φ (e::es) as) :
  bt X κ Φ (.Call (.Name x p) (e::es) [] pos) (mN (bj F) as):=by
 obtain⟨f,I,J,n,o,q,F1⟩:=F0.ex;intro c r s t u;refine PE.imp (sL F1 i j n o q .nil kr (m c r s t u) a l b) ?_;rintro K H Q ⟨w,Z,S,g⟩;refine⟨w,Z,S,oP.use g λy d _ z B h C L D E G=>?_⟩
 show ec κ F (z++[]) B Q E0
 rw[List.append_nil];exact⟨h,C,d,y,D,E,bS.ok0 G⟩
theorem vu{k:Nat}{x:Str}(F0:xC X κ k x F)(b:cD k X.A)(c:Gl X x)(a:(x==("__debug__":Str))=false):bt X κ Φ (.Call (.Name x p) [] [] pos) (mN (bj F) af):=by
 obtain⟨f,m,n,d,e,h,F1⟩:=F0.ex;intro i o q r j;refine PE.imp (wa F1 b c d e h .nil kr a) ?_;rintro s H Q ⟨l,Z,S,g⟩;exact⟨l,Z,j,[],S.st,.nil,bS.ok0 g⟩
theorem fy{R:D->V->Prop}{f:Str}:∀{b:List (Str×D)}{a:List (Str×V)},eQ R b a->(∀d,b.lookup f=some d->∃v,a.lookup f=some v/\R d v)/\(b.lookup f=none->a.lookup f=none):=by
 intro b a h;unfold eQ at h
 induction h with
 |nil=>exact⟨λd e=>(by cases e),λ_=>rfl⟩
 |@cons p q j l r t c=>
  obtain⟨g,i⟩:=r;obtain⟨k,d⟩:=p;obtain⟨m,v⟩:=q;cases g;rw[List.lookup_cons,List.lookup_cons];cases f==k with
  |true=>exact⟨λn e=>by cases e;exact⟨v,rfl,i⟩,λe=>by cases e⟩
  |false=>exact c
theorem pW{R:D->V->Prop}{f:Str}{d:D}{v:V}(r:R d v){c:List (Str×D)}{a:List (Str×V)}(h:eQ R c a):eQ R (iJ f d c) (eP f v a):=by
 unfold eQ at h
 induction h with
 |nil=>exact .cons ⟨rfl,r⟩ .nil
 |@cons p q j l b t g=>
  obtain⟨b,i⟩:=b;obtain⟨k,d⟩:=p;obtain⟨m,n⟩:=q;cases b;simp only[iJ,eP]
  by_cases e:k=f
  .rw[if_pos e,if_pos e];exact .cons ⟨rfl,r⟩ t
  .rw[if_neg e,if_neg e];exact .cons ⟨rfl,i⟩ g
theorem gn{x:D}{v:V}{k:Nat}{C:Str}{f:List (Str×D)}(S:bK κ α Z Ω H)(r:ak α Z H x v)(h:nX Ω x=some (k,C,f)):∃a d e b,v=.ref a/\x=.ref k/\α[k]?=some a/\κ C d/\H a=some (.ins d e b)/\eQ (ak α Z H) f b:=by
 cases x with
 |ref n=>
  simp only[nX]at h;split at h
  .rename_i o b i
   cases h;simp only[ak]at r;obtain⟨a,g,rfl⟩:=r;obtain⟨p,c,d,e,b,j,l,m⟩:=S.cell i;rw[g]at c;cases c;exact⟨a,d,e,b,rfl,rfl,g,j,l,m⟩
  .cases h
 |_=>cases h
def hZ(K:PySem.W.Frag)(κ:Str->Addr->Prop)(Cs:List Str)(f:Str):Prop:=∀C a,Cs.contains C=true->κ C a->jO K a/\fk K a f
theorem AH{f:Str}{Cs:List Str}(i:hZ X.K κ Cs f)(j:attributeBase o f X.env (eval o X.env)=eval o X.env)(l:bt X κ Φ o mo):bt X κ Φ (.Attribute o f pos) (m1 (aW Cs f) mo):=
 nI (r:=λx H Q=>∃a C b c v,x=.ref a/\H a=some (.ins C b c)/\jO X.K C/\fk X.K C f/\c.lookup f=some v/\Q v H) (λD m=>C2 m j) l λb x E Z F H Q S n g=>by
  unfold aW at g;split at g
  .rename_i k C c p
   obtain⟨a,h,b,e,rfl,_,_,q,s,t⟩:=gn S n p;split at g
   .rename_i u
    obtain⟨w,y⟩:=i C h u q;split at g
    .rename_i d z
     obtain⟨v,A,B⟩:=(fy t).1 d z;exact⟨a,h,b,e,v,rfl,s,w,y,A,bS.ret S B g⟩
    .exact g.elim
   .exact g.elim
  .exact g.elim
def B_(P:Program)(w:World)(K:PySem.W.Frag)(h:Str->Option Value)(base:Heap)(κ:Str->Addr->Prop)(k:Nat)(C m:Str)(F:aR)(c f:Addr)(d:FuncData)(ps:List Str):Prop:=
 (∀a,κ C a->a=c)/\jO K c/\Meth K c m f/\∃(e:List Value) (b:List V) (g:List D) (F1:aR),Binds K d ps e/\Vals b e/\(∀i Z H,az (ak i Z H) g b)/\cS P w K h base mu k f d ps (ec κ F1)/\F=λj=>F1 (j++g)
structure tP(X:Cx)(κ:Str->Addr->Prop)(k:Nat)(C m:Str)(F:aR):Prop where
 ex:∃(Ca f:Addr) (fd:FuncData) (ps:List Str),B_ X.prog X.w X.K X.mg X.base κ k C m F Ca f fd ps
theorem xE{k:Nat}{m:Str}(M:tP X κ k C m F)(E:cD k X.A)(G:bt X κ Φ o mo)(I:oQ X κ Φ (e::es) as){pl:Sem Bool}
  (h:starEach (e::es) X.env=(false,eval e X.env)::starEach es X.env) (i:(backTo pos (starEach es X.env)).any (·.1)=false)
  (J:eval (.Call (.Attribute o m apos) (e::es) [] pos) X.env=(do
   let w ←eval o X.env
   standAt apos.atName
   let (f,first) ←holding [w] (getMethod w m pl)
   callWith pos f first (backTo pos (starEach (e::es) X.env)) (backToKw pos (keywordEach [] X.env)))) :
  bt X κ Φ (.Call (.Attribute o m apos) (e::es) [] pos) (aC C m F mo as):=by
 obtain⟨Ca,f,fd,ps,K,j,L,N,O,Dd,F0,P,l,R,F1,rfl⟩:=M.ex;intro c y z B T;refine PE.imp (zq (G c y z B T) j L F1 E P l kr (PA.ex λb=>I c y z B b) h i J) ?_
 rintro σ H Q ⟨U,Z,S,g⟩;refine⟨U,Z,S,bS.use g λx b _ v H1 p V Y q D d=>?_⟩
 split at d
 .rename_i n C' fs hk
  split at d
  .rename_i hc
   obtain⟨rfl,hl⟩:=hc;obtain⟨a,r,dx,s,rfl,rfl,_,q1,q2,q3⟩:=gn q D hk;obtain rfl:=K r q1;refine⟨a,dx,s,rfl,q2,(fy q3).2 hl,b,p,V,S.grow Y q,oP.use d λxs t _ vs H2 u Z2 g2 s2 r2 k2=>?_⟩
   exact⟨u,Z2,t,_,s2,.cons (q.cG g2 D) (r2.append (R _ _ _)),bS.ok0 k2⟩
  .exact d.elim
 .exact d.elim
theorem vv{k:Nat}{m:Str}(M:tP X κ k C m F)(s:cD k X.A)(t:bt X κ Φ o mo){pl:Sem Bool}
  (u:eval (.Call (.Attribute o m apos) [] [] pos) X.env=(do
   let p ←eval o X.env
   standAt apos.atName
   let (f,first) ←holding [p] (getMethod p m pl)
   callWith pos f first (backTo pos (starEach [] X.env)) (backToKw pos (keywordEach [] X.env)))) :
  bt X κ Φ (.Call (.Attribute o m apos) [] [] pos) (aC C m F mo af):=by
 obtain⟨Ca,f,fd,ps,w,c,y,z,B,Dd,F0,D,d,E,F1,rfl⟩:=M.ex;intro e G I J K;refine PE.imp (wb (t e G I J K) c y F1 s D d kr u) ?_;rintro σ H Q ⟨L,Z,S,g⟩;refine⟨L,Z,S,bS.use g λx h _ v H1 i N g1 q r b=>?_⟩
 split at b
 .rename_i n C' fs O
  split at b
  .rename_i P
   obtain⟨rfl,R⟩:=P;obtain⟨a,j,T,l,rfl,rfl,_,U,V,Y⟩:=gn q r O;obtain rfl:=w j U;exact⟨a,T,l,rfl,V,(fy Y).2 R,i,N,h,_,q,.cons r (E _ _ _),bS.ok0 b⟩
  .exact b.elim
 .exact b.elim
structure xF(X:Cx)(κ:Str->Addr->Prop)(k:Nat)(C:Str)(F:aR):Prop where
 ex:∃(Ca f:Addr) (fd:FuncData) (ps:List Str),κ C Ca/\Mk X.K Ca f/\X.mg C=some (.ref Ca)/\Binds X.K fd ps []/\cS X.prog X.w X.K X.mg X.base mu k f fd ps (ec κ F)
theorem pX{xs:List D}{vs:List V}{b x a:Addr}(S:bK κ α Z Ω H)(r:az (ak α Z H) xs vs)(e:κ C b)(g:bS κ Φ α Z H (dB C F xs Ω) Q)(y:H x=none)(f:H a=none)(h:a≠x) :
  ec κ F (.ref x::(vs++[])) (upd (upd H a (.own x)) x (.ins b a [])) (λv z=>v=.non/\Q (.ref x) z) E0:=by
 rw[List.append_nil];obtain⟨i,m⟩:=S.tr (p:=a) (o:=.own x) f False;simp only[if_false]at i m;have j:upd H a (.own x) x=none:=by rw[aE (Ne.symm h)];exact y
 obtain⟨n,A⟩:=i.laid (p:=x) (o:=.ins b a []) (c:=.ins C []) j λR I=>⟨b,a,[],e,aN,.nil⟩
 have s:=m.trans A;have t:ak (α++[x]) Z (upd (upd H a (.own x)) x (.ins b a [])) (.ref Ω.length) (.ref x):=dA i x;refine⟨α++[x],Z,Ω++[.ins C []],.ref Ω.length::xs,n,.cons t (S.jv s r),?_⟩;unfold dB at g;cases q:F (.ref Ω.length::xs) (Ω++[.ins C []])with
 |ok d k=>
  rw[q]at g;cases d with
  |non=>
   intro v B l E u G w;simp only[ak]at w;exact⟨w,g _ B l E (s.trans u) G (n.cG u t)⟩
  |_=>exact g.elim
 |exc x k=>rw[q]at g;exact g.elim
 |bad=>rw[q]at g;exact g.elim
theorem AI{k:Nat}(M:xF X κ k C F)(j:cD (k+1) X.A)(l:Gl X C)(a:(C==("__debug__":Str))=false)
  (m:starEach (e::es) X.env=(false,eval e X.env)::starEach es X.env) (b:(backTo pos (starEach es X.env)).any (·.1)=false) (n:oQ X κ Φ (e::es) as):bt X κ Φ (.Call (.Name C p) (e::es) [] pos) (mN (dB C F) as):=by
 obtain⟨J,f,K,L,c,o,q,r,F1⟩:=M.ex;intro d s t u w;refine PE.imp (zr o F1 j l q r .nil kr (n d s t u w) a m b) ?_;rintro N H Q ⟨y,Z,S,g⟩;exact⟨y,Z,S,oP.use g λO z _ P R B T U D E G x V I h i=>pX D E c G I h i⟩
theorem xG{k:Nat}(M:xF X κ k C F)(e:cD (k+1) X.A)(h:Gl X C)(a:(C==("__debug__":Str))=false):bt X κ Φ (.Call (.Name C p) [] [] pos) (mN (dB C F) af):=by
 obtain⟨o,f,q,r,b,i,j,l,F1⟩:=M.ex;intro m s t u w;refine PE.imp (wc i F1 e h j l .nil kr a) ?_;rintro y H Q ⟨z,Z,S,g⟩;exact λx B n c d=>pX S.st .nil b g n c d
theorem AJ{f:Str}{Cs:List Str}(F:hZ X.K κ Cs f)(G:swapsWith e (some (.Attribute o f pos')) pos.line X.env=pure false)(I:bt X κ Φ o mo)(J:bt X κ Φ e mv):nW X κ Φ (.Assign [.Attribute o f pos'] e pos) (aZ Cs f mo mv):=by
 intro d r s t L;refine PS.imp (C3 (PE.ex λb=>I d r s t b) (J d r s t L) G) ?_
 rintro E M H ⟨N,Z,S,f⟩;refine⟨N,Z,S,eg.use S f λy b v H1 j O _ g1 l P Q=>⟨b,j,O,l,eg.use l Q λx T w H2 m U _ V n Y g=>?_⟩⟩
 split at g
 .rename_i k C fs hk
  obtain⟨a,i,p,h,rfl,rfl,h0,A,B,D⟩:=gn n.st Y hk;split at g
  .rename_i q
   simp only[Bool.and_eq_true,decide_eq_true_eq]at q;obtain⟨c1,c2⟩:=F C i q.1 A;have ry:=l.st.cG V P;obtain⟨s3,g3⟩:=n.st.put (o:=.ins i p (eP _ v h)) (c:=.ins C (iJ _ y fs)) h0 (λo u z=>by rw[B]at z;cases z) λR hR=>⟨i,p,_,A,aN,(pW ry D).imp hR⟩
   exact⟨a,i,p,h,rfl,B,c1,c2,by rw[eQ.length D];exact q.2,g M _ m U (n.grow g3 s3)⟩
  .exact g.elim
 .exact g.elim
def Cb(H:Hp)(a:Addr)(y v:V)(c:Hp):Prop:=pf H a y v c\/∃b k j,y=.int k/\H a=some (.lst b)/\qF b.length k=some j/\c=upd H a (.lst (b.set j v))
noncomputable def DC(td d e:TE):TS:=λD b H=>e b H λv f=>td b f λx g=>d b g λy h=>∃a c,x=.ref a/\Cb h a y v c/\D.nx b c
theorem xH{i b:Expr}{td d e:TE}(p:X.A.units+1<cLine)(q:PE X o td)(t:PE X i d)(w:PE X b e)(z:swapsWith b (some (.Subscript o i pos')) pos.line X.env=pure false) :
  PS X (.Assign [.Subscript o i pos'] b pos) (DC td d e):=by
 intro pins s c H D I h;refine wpAny_Assign_Subscript (bZ (w pins s c H _ I h) λr B ⟨v,H1,I1,f,q1⟩=>bZ (q pins B c H1 _ I1 q1) λu C ⟨x,H2,I2,l,q2⟩=>bZ (t pins C c H2 _ I2 q2) λO E ⟨y,H3,m,n,a,H4,ex,g,q3⟩=>?_) z
 subst ex;rcases g with g|⟨F,k,j,rfl,G,J,rfl⟩
 .obtain rfl:u=Value.ref a:=l
  exact uR p m g n f λK L=>⟨c,H4,L,q3⟩
 .exact bZ (set_list pins E c H3 _ _ _ _ _ _ (λM=>D.nx c M) m l n f ⟨a,F,k,j,rfl,rfl,G,J,q3⟩) λ_ K ⟨N,I5,q5⟩=>⟨c,N,I5,q5⟩
theorem az.Gi{c d:Type}{R:c->d->Prop}{a:c}{b:d}:∀{e:List c}{bs:List d}{n:Nat},az R e bs->R a b->az R (e.set n a) (bs.set n b)
 |_,_,_,.nil,_=>.nil
 |_::_,_::_,0,.cons _ t,r=>.cons r t
 |_::_,_::_,n+1,.cons q t,r=>.cons q (az.Gi t r)
theorem xI{x y d:D}{v w u:V}(S:bK κ α Z Ω H)(I:ak α Z H x v)(C:ak α Z H y w)(E:ak α Z H d u)(h:gW x y d Ω=some au):∃a F,v=.ref a/\Cb H a w u F/\bK κ α Z au F/\cv α Z H α Z F:=by
 cases x with
 |ref k=>
  simp only[gW]at h;simp only[ak]at I;obtain⟨a,q,rfl⟩:=I;split at h
  .rename_i l r
   obtain⟨J,e,f,g,j⟩:=S.cell r;rw[q]at e;cases e
   split at h
   .rename_i m p
    obtain rfl:=gf p C;split at h
    .rename_i G
     cases h;have:=bE G;obtain⟨s,A⟩:=S.put (o:=.dK (putK f m u)) (c:=.dK (bH l m d)) q (λo u z=>by rw[g]at z;cases z) λR B=>⟨_,aN,(j.put m E).imp B⟩
     exact⟨a,_,rfl,.inl (pf.k g (by rw[j.length];omega)),s,A⟩
    .cases h
   .cases h
  .rename_i l r
   obtain⟨J,e,f,g,j⟩:=S.cell r;rw[q]at e;cases e
   split at h
   .rename_i m p
    obtain⟨b,rfl,L⟩:=jf p C;split at h
    .rename_i G
     cases h;have:=bE G;obtain⟨s,A⟩:=S.put (o:=.dT (putK f m u)) (c:=.dT (bH l m d)) q (λo u z=>by rw[g]at z;cases z) λR B=>⟨_,aN,(j.put m E).imp B⟩
     exact⟨a,_,rfl,.inl (pf.t g L (by rw[j.length];omega)),s,A⟩
    .cases h
   .cases h
  .rename_i M r
   obtain⟨J,e,K,g,j⟩:=S.cell r;rw[q]at e;cases e
   split at h
   .rename_i i
    split at h
    .rename_i n N
     cases h;cases (show w=V.int i from C)
     obtain⟨s,A⟩:=S.put (o:=.lst (K.set n u)) (c:=.lst (M.set n d)) q (λo u z=>by rw[g]at z;cases z) λR B=>⟨_,aN,(az.Gi j E).imp B⟩
     exact⟨a,_,rfl,.inr ⟨K,i,n,rfl,g,by rw[j.length];exact N,rfl⟩,s,A⟩
    .cases h
   .cases h
  .cases h
 |_=>cases h
theorem xJ{i:Expr}(B:X.A.units+1<cLine)(C:bt X κ Φ o md)(D:bt X κ Φ i mk)(F:bt X κ Φ e mv)(G:swapsWith e (some (.Subscript o i pos')) pos.line X.env=pure false):nW X κ Φ (.Assign [.Subscript o i pos'] e pos) (dI md mk mv):=by
 intro c h j k I;refine PS.imp (xH B (PE.ex λb=>C c h j k b) (PE.ex λb=>D c h j k b) (F c h j k I) G) ?_
 rintro E J H ⟨K,Z,S,f⟩;refine⟨K,Z,S,eg.use S f λd b v H1 l L _ g1 m M N=>⟨b,l,L,m,eg.use m N λx n w H2 p O _ P g Q R=>⟨n,p,O,g,eg.use g R λy T u H3 q U _ s t V r=>?_⟩⟩⟩
 split at r
 .rename_i Y hq
  obtain⟨a,z,rfl,h1,s4,g4⟩:=xI t.st (g.st.cG s Q) V (g.st.cG s (m.st.cG P M)) hq;exact⟨a,z,rfl,h1,r J z q U (t.grow g4 s4)⟩
 .exact r.elim
theorem vw:bt X κ Φ (.Dict [] [] pos) (λ_ Ω=>f9 Ω (.dK [])):=by
 intro a f h i Ω;refine PE.imp wq ?_;rintro j H Q ⟨k,Z,S,g⟩ p b;obtain⟨d,e⟩:=S.st.laid (p:=p) (o:=.dK []) (c:=.dK []) b λR l=>⟨[],aN,.nil⟩
 exact g _ _ _ Z e d (dA S.st p)
theorem vx:bt X κ Φ (.Dict [] [] pos) (λ_ Ω=>f9 Ω (.dT [])):=by
 intro a f h i Ω;refine PE.imp wt ?_;rintro j H Q ⟨k,Z,S,g⟩ p b;obtain⟨d,e⟩:=S.st.laid (p:=p) (o:=.dT []) (c:=.dT []) b λR l=>⟨[],aN,.nil⟩
 exact g _ _ _ Z e d (dA S.st p)
noncomputable def aL(n:Nat)(ds:List D):aX:=ds.map some++List.replicate (n - ds.length) none
noncomputable def h8:gP->aw D
 |.rt d Ω=>.ok d Ω
 |.nx _ Ω=>.ok .non Ω
 |.exc x Ω=>.exc x Ω
 |_=>.bad
def aK(n k:Nat)(c:SM):aR:=λa b=>if a.length=k then h8 (c (aL n a) b)else .bad
theorem rN{ds:List D}{vs:List V}{N:List Str}(S:bK κ α Z Ω H)(r:az (ak α Z H) ds vs):cH κ α Z H α Z Ω (aL N.length ds) (L2.start N vs) H where
 st:=S
 gr:=cv.refl S.has
 len:=by simp[aL,L2.start,r.length]
 val:=λi d a=>by
  unfold aL at a
  by_cases h:i<ds.length
  .rw[List.getElem?_append_left (by simpa using h),List.getElem?_map]at a
   obtain⟨g,b,c⟩:=Option.map_eq_some_iff.mp a;cases c;obtain⟨v,e,f⟩:=r.get b;refine⟨v,?_,f⟩;unfold L2.start;rw[List.getElem?_append_left (by simpa[r.length]using h),List.getElem?_map,e]
   rfl
  .rw[List.getElem?_append_right (by simpa using h),List.getElem?_replicate]at a
   split at a<;>cases a
end
def AK(e f:TE):TE:=λc H Q=>∀p,H p=none->e c (upd H p (.dT [])) λx g=>f c g λy a=>a p=some (.dT [])/\∃b d,x=.ref b/\a b=some (.tup (d.map kV))/\Q (.ref p) (upd a p (.dT (putK [] d y)))
theorem vy{X:Cx}{pos:Pos}{k v:Expr}{j l:TE}(hu:X.A.units+1<cLine)(J:PE X k j)(K:PE X v l):PE X (.Dict [some k] [v] pos) (AK j l):=by
 intro pins s L H Q I q;have M:=I.hok.fresh (Nat.le_refl s.heap.objs.size);have N:=I.laid (a:=s.heap.objs.size) (o:=.dT []) (h':=s.heap.push {cls:=.type "dict",data:=.dict #[]}) (t':=s.toks) (λ_ _ q=>Heap.get?_push_of_some _ q) (Nat.le_refl _) (pk s.heap I.big)
 have O:FP X pos [some k] [v] [(j,l)]:=km J K sQ;refine wpAny_Dict_any rfl rfl (by simp) (by simp) (bZ (O pins _ L _ (λm g=>match m with|[(x,y)]=>g s.heap.objs.size=some (.dT [])/\∃b d,x=.ref b/\g b=some (.tup (d.map kV))/\Q (.ref s.heap.objs.size) (upd g s.heap.objs.size (.dT (putK [] d y)))|_=>False) N (q _ M)) λws s2 n=>?_)
 obtain⟨m,g,u,f,h⟩:=n;split at h
 .rename_i x y
  obtain⟨e,b,d,rfl,D,P⟩:=h;cases f with
  |@cons p R m S r t=>
   cases t;obtain⟨T,U⟩:=r;obtain⟨Y,w2⟩:=R;cases (show Y=Value.ref b from T)
   unfold storeAll;rw[List.forIn_cons];obtain⟨z,Z,xs,f,dd⟩:=wo u.hok e;cases f;refine wpAny_bind (wpAny_bind (wpAny_dictSet_heap (knd:=tupleKind (ba X.prog X.w)) ?_ (i9 u.hok D) dd λh' B hs=>?_))
   .show X.A.units<cLine
    omega
   .refine wpAny_pure ?_
    dsimp only;rw[List.forIn_nil];refine wpAny_pure ?_;obtain⟨E,es,ep,F,n,h,h4,_,h5⟩:=B
    have hl:(putK ([]:List (List Key×V)) d y).length<=sizeLine:=by
     have:=dq ([]:List (List Key×V)) d y;rw[sizeLine_eq];simp at this;omega
    have i:KT g ([]:List (List Key×V)) []:=.nil
    have C:bL X.prog X.w (upd g s.heap.objs.size (.dT (putK [] d y))) h' s.heap.objs.size (.dT (putK [] d y)):=⟨hl,Z,_,(i.put d D U).keeps λc ys G=>by
     rw[aE (BL G e (λz=>nomatch z))]
     exact G,E,es,ep,F,n,h,h4,h5⟩
    exact⟨.ref s.heap.objs.size,_,iA u (by rw[e];exact True.intro) hs ⟨E,F⟩ C,rfl,P⟩
 .exact h.elim
def eM(e f:EM):EM:=λd b=>(e d (b++[.dT []])).bind λy c=>(f d c).bind λv a=>match a[b.length]?,mI y with
 |some (.dT []),some g=>.ok (.ref b.length) (a.set b.length (.dT (bH [] g v)))
 |_,_=>.bad
theorem rO{X:Cx}{κ:Str->Addr->Prop}{Φ:e8}{pos:Pos}{k v:Expr}{x B:EM}(U:X.A.units+1<cLine)(V:bt X κ Φ k x)(Y:bt X κ Φ v B):bt X κ Φ (.Dict [some k] [v] pos) (eM x B):=by
 intro f C D E F;refine PE.imp (vy U (PE.ex λe=>V f C D E e) (PE.ex λe=>Y f C D E e)) ?_
 rintro σ H Q ⟨G,Z,S,g⟩ p hp;obtain⟨I,J⟩:=S.st.laid (p:=p) (o:=.dT []) (c:=.dT []) hp λR K=>⟨[],aN,.nil⟩
 have L:=S.grow J I;have rp:ak (G++[p]) Z (upd H p (.dT [])) (.ref F.length) (.ref p):=dA S.st p;have g:=bS.from J g
 unfold eM at g;refine⟨F++[.dT []],G++[p],Z,L,bS.use g λy m _ w H2 n Z2 M q r2 k2=>⟨m,n,Z2,L.grow M q,k2.use λd a0 _ u H3 b0 Z3 N O r3 r=>?_⟩⟩
 split at r
 .rename_i l hc s
  have h:=q.cG N (I.cG M rp);simp only[ak]at h;obtain⟨a,t,ea⟩:=h;cases ea;obtain⟨a',i,j,P,T⟩:=O.cell hc;rw[t]at i;cases i;have hn:=eQ.length T;obtain rfl:j=[]:=List.eq_nil_of_length_eq_zero (by simpa using hn)
  obtain⟨b,rfl,hb⟩:=jf s (q.cG N r2);refine⟨P,b,l,rfl,hb,?_⟩;obtain⟨s4,g4⟩:=O.put (o:=.dT (putK [] l u)) (c:=.dT (bH [] l d)) t (λo u z=>by rw[P]at z;cases z) λR K=>⟨_,aN,(T.put l r3).imp K⟩
  refine r _ _ _ _ g4 s4 ?_;simp only[ak];exact⟨p,t,rfl⟩
 .exact r.elim
structure pY(P:Program)(w:World)(K:PySem.W.Frag)(mg:Str->Option Value)(base:Heap)(κ:Str->Addr->Prop)(k:Nat)(j:Nat)(F:List D->aR):Prop where
 run:∀(X:Cx) (f:Addr) (vs:List V) (σ:L2.St) (H:Hp) (Q:VK) (α:List Addr) (Z:Addr->Prop) (Ω:aD) (rm ds:List D) (n:Nat),X.prog=P->X.w=w->X.K=K->X.mg=mg->X.base=base->cD k X.A ->
  bK κ α Z Ω H->α[n]?=some f->Ω[n]?=some (.fn j rm)->az (ak α Z H) ds vs->bS κ qG α Z H (F rm ds Ω) Q->F9 X f vs σ H Q
theorem pY.mono{P:Program}{w:World}{K:PySem.W.Frag}{a:Str->Option Value}{base:Heap}{κ:Str->Addr->Prop}{k b j:Nat}{F:List D->aR}(h:pY P w K a base κ k j F)(c:k<=b):pY P w K a base κ b j F:=
 ⟨λX f d e H Q g Z i rm l n m o p q r s=>h.run X f d e H Q g Z i rm l n m o p q r (s.mono c)⟩
noncomputable def isFn(Ω:aD)(n:Nat):Bool:=match Ω[n]? with
 |some (.fn _ _)=>true
 |_=>false
section
variable{X:Cx}{κ:Str->Addr->Prop}{Φ:e8}{α α' hU:List Addr}{Z Z' Z0:Addr->Prop}{Ω au:aD}{H H' H0:Hp}{ρ:aX}{σ:L2.St}
end
section
variable{κ:Str->Addr->Prop}{Φ:e8}{α:List Addr}{Z:Addr->Prop}{Ω:aD}{H:Hp}{Q:VK}
noncomputable def gX(x:D)(xs:List D)(Ω:aD):aw D:=match x,xs with
 |.str z,[.str y]=>match Builtin.Str.occurrences z y 0 z.length 1 with
  |i::_=>.ok (.int (i:Nat)) Ω
  |[]=>.bad
 |_,_=>.bad
theorem AL{x:D}{v:V}{xs:List D}{vs:List V}(S:bK κ α Z Ω H)(r:ak α Z H x v)(rs:az (ak α Z H) xs vs)(g:bS κ Φ α Z H (gX x xs Ω) Q):tj v vs H Q:=by
 unfold gX at g;split at g
 .rename_i z y
  obtain⟨u,rfl,a⟩:=eL rs;simp only[ak]at r a;subst r;subst a;split at g
  .rename_i i b c
   exact⟨z,y,i,b,rfl,rfl,c,bS.ret S (bb rfl) g⟩
  .exact g.elim
 .exact g.elim
end
end Mir
namespace PySem
open Sem (wp)
abbrev h9(h:Heap)(z TI TO T:Addr)(b:Bool):Prop:=
 h.get? z=some {cls:=.type "zip",dict:=none,data:=.fields #[rawInt T,.bool b,.bool false,.ref TI,.ref TO],slots := #[]}
section
variable{prog:Program}{w:World}{A:Around}{E:Value->Shared->Prop}{s:Shared}
theorem iK{a:Addr}{Q:Option Obj->Shared->Prop}(h:Q (s.heap.get? a) s):wpAny (model prog w) A (loadIfAlive a) Q E s:=by
 intro c p b;unfold loadIfAlive;rw[Sem.wp_loadIfAlive];exact(wpAny_pure (M:=model prog w) (A:=A) (E:=E) h) c p b
theorem kZ{z TI TO T:Addr}{b:Bool}{o:Obj}{Q:Bool->Shared->Prop}(hz:h9 s.heap z TI TO T b)(f:s.heap.get? T=some o)
  (e:∀h',h9 h' z TI TO T true->Heap.SameBut z s.heap h'->Q false {s with heap:=h' }):wpAny (model prog w) A (Builtin.SmallTypes.ownedTupleIsFree (.ref z)) Q E s:=by
 unfold Builtin.SmallTypes.ownedTupleIsFree;refine wpAny_bind (wpAny_field hz rfl (x:=rawInt T) rfl ?_)
 show wpAny _ _ (loadIfAlive ((T:Int).toNat) >>= _) _ _ _
 refine wpAny_bind (iK ?_);rw[Int.toNat_natCast,f]
 show wpAny _ _ (field (.ref z) 1 >>= _) _ _ _
 refine wpAny_bind (wpAny_field hz rfl (x:=.bool b) rfl ?_);cases b with
 |true=>exact wpAny_pure (e _ hz (Heap.SameBut.refl _ _))
 |false=>
  show wpAny _ _ (setField (.ref z) 1 (.bool true) >>= _) _ _ _
  exact wpAny_bind (wpAny_setField_rec hz (by simp) λd a c=>wpAny_pure (e d a c))
theorem k9{z TI TO T h i p q:Addr}{b:Bool}{o:Obj}{r t:Nat}{xs G:Array Value}{x y:Value}{Q:Value->Shared->Prop}(D:ZipApart z TI TO h i p q)
  (hz:h9 s.heap z TI TO T b) (K:s.heap.get? T=some o) (u:IsPair s.heap TI (.ref h) (.ref i))
  (L:s.heap.IsListIter h p r) (M:s.heap.IsListIter i q t) (B:s.heap.IsList p xs) (C:s.heap.IsList q G) (N:xs[r]?=some x) (O:G[t]?=some y)
  (P:∀h',h9 h' z TI TO T true->h'.IsListIter h p (r+1)->h'.IsListIter i q (t+1)->IsPair h' s.heap.objs.size x y->h'.objs.size=s.heap.objs.size+1 ->
   (∀c o,c≠z->c≠h->c≠i->s.heap.get? c=some o->h'.get? c=some o)->Q (.ref s.heap.objs.size) {s with heap:=h' }) :
  wpAny (model prog w) A (Builtin.«zip.__next__» ⟨[.ref z],[]⟩) (λF R=>∃v,F=.done (.ret v)/\Q v R) E s:=by
 show wpAny _ _ (field (.ref z) 2 >>= _) _ _ _
 refine wpAny_bind (wpAny_field hz rfl (x:=.bool false) rfl ?_)
 show wpAny _ _ (field (.ref z) 3 >>= _) _ _ _
 refine wpAny_bind (wpAny_field hz rfl (x:=.ref TI) rfl ?_);refine wpAny_bind (wpAny_seqItems u rfl ?_)
 show wpAny _ _ (Builtin.SmallTypes.ownedTupleIsFree (.ref z) >>= _) _ _ _
 refine wpAny_bind (kZ hz K λH j a=>?_)
 simp only[Bool.false_eq_true,if_false];refine wpAny_bind ?_;simp only[List.forIn_toArray,Array.forIn_toList,List.forIn_cons,List.forIn_nil];refine wpAny_bind (wpAny_bind (wpAny_holding ?_))
 show wpAny _ _ (Builtin.SmallTypes.nextOf (.ref h) >>= _) _ _ _
 refine wpAny_bind (wpAny_nextOf_list_item (L.extBut a.extBut D.i1z) (B.extBut a.extBut D.l1z) N λI k d=>wpAny_pure ?_)
 refine wpAny_pure ?_;refine wpAny_bind (wpAny_bind (wpAny_holding ?_))
 show wpAny _ _ (Builtin.SmallTypes.nextOf (.ref i) >>= _) _ _ _
 refine wpAny_bind (wpAny_nextOf_list_item ((M.extBut a.extBut D.i2z).extBut d.extBut D.i12.symm) ((C.extBut a.extBut D.l2z).extBut d.extBut D.l2i1) O λf l g=>wpAny_pure ?_)
 refine wpAny_pure (wpAny_pure ?_);refine wpAny_bind (wpAny_newTuple (hsz:=by show([x,y]:List Value).length<=sizeLine;rw[sizeLine_eq];simp) ?_)
 have hsz:f.objs.size=s.heap.objs.size:=by rw[g.1,d.1,a.1]
 refine wpAny_pure ⟨_,rfl,?_⟩
 show Q (.ref f.objs.size) _
 have S:∀c o,c≠z->c≠h->c≠i->s.heap.get? c=some o->(f.push {cls:=.type "tuple",data:=.seq #[x,y]}).get? c=some o:=λc o U V X e=>Heap.get?_push_of_some _ (g.extBut _ _ X (d.extBut _ _ V (a.extBut _ _ U e)))
 have m:h9 f z TI TO T true:=g.extBut _ _ D.i2z.symm (d.extBut _ _ D.i1z.symm j);have n:f.IsListIter h p (r+1):=k.extBut g.extBut D.i12;have J:IsPair (f.push {cls:=.type "tuple",data:=.seq #[x,y]}) f.objs.size x y:=Heap.get?_push_size _ rfl;rw[hsz]at J ⊢;exact P _ (Heap.get?_push_of_some _ m) (n.at λo e=>Heap.get?_push_of_some _ e) (l.at λo e=>Heap.get?_push_of_some _ e) J (by rw[Heap.size_push,hsz]) S
theorem lT{z TI TO T i j n p:Addr}{b:Bool}{o:Obj}{q r:Nat}{xs t:Array Value}{Q:Fin->Shared->Prop}(J:A.handled=none)(D:ZipApart z TI TO i j n p)
  (hz:h9 s.heap z TI TO T b) (N:s.heap.get? T=some o) (u:IsPair s.heap TI (.ref i) (.ref j))
  (K:s.heap.IsListIter i n q) (O:s.heap.IsListIter j p r) (k:s.heap.IsList n xs) (y:s.heap.IsList p t) (l:xs[q]?=none\/t[r]?=none)
  (L:∀h' e,(∀c o,c≠z->c≠i->c≠j->s.heap.get? c=some o->h'.get? c=some o)->(∃o,h'.get? e=some o/\o.cls=.type "StopIteration")->E (.ref e) {s with heap:=h' }) :
  wpAny (model prog w) A (Builtin.«zip.__next__» ⟨[.ref z],[]⟩) Q E s:=by
 show wpAny _ _ (field (.ref z) 2 >>= _) _ _ _
 refine wpAny_bind (wpAny_field hz rfl (x:=.bool false) rfl ?_)
 show wpAny _ _ (field (.ref z) 3 >>= _) _ _ _
 refine wpAny_bind (wpAny_field hz rfl (x:=.ref TI) rfl ?_);refine wpAny_bind (wpAny_seqItems u rfl ?_)
 show wpAny _ _ (Builtin.SmallTypes.ownedTupleIsFree (.ref z) >>= _) _ _ _
 refine wpAny_bind (kZ hz N λM B a=>?_)
 simp only[Bool.false_eq_true,if_false];refine wpAny_bind ?_;simp only[List.forIn_toArray,Array.forIn_toList,List.forIn_cons,List.forIn_nil];refine wpAny_bind (wpAny_bind (wpAny_holding ?_))
 show wpAny _ _ (Builtin.SmallTypes.nextOf (.ref i) >>= _) _ _ _
 cases C:xs[q]? with
 |none=>
  exact wpAny_bind (wpAny_nextOf_list_end J (K.extBut a.extBut D.i1z) (k.extBut a.extBut D.l1z) C λf e d F=>L f e (λc o G H _ x=>d _ _ H (a.extBut _ _ G x)) F)
 |some x=>
  have P:t[r]?=none:=by rcases l with h|h;rw[C]at h;cases h;exact h
  refine wpAny_bind (wpAny_nextOf_list_item (K.extBut a.extBut D.i1z) (k.extBut a.extBut D.l1z) C λf I d=>wpAny_pure ?_)
  refine wpAny_pure ?_;refine wpAny_bind (wpAny_bind (wpAny_holding ?_))
  show wpAny _ _ (Builtin.SmallTypes.nextOf (.ref j) >>= _) _ _ _
  exact wpAny_bind (wpAny_nextOf_list_end J ((O.extBut a.extBut D.i2z).extBut d.extBut D.i12.symm) ((y.extBut a.extBut D.l2z).extBut d.extBut D.l2i1) P λm e g F=>L m e (λc o G H R x=>g _ _ R (d.extBut _ _ H (a.extBut _ _ G x))) F)
structure gY(h:Heap)(z TI TO i1 i2 l1 l2:Addr)(xs ys:Array Value)(k:Nat):Prop where
 st:IsZip h z TI TO .none\/∃T b p q,h9 h z TI TO T b/\IsPair h T p q
 ti:IsPair h TI (.ref i1) (.ref i2)
 to:∃a b,IsPair h TO a b
 Vi:h.IsListIter i1 l1 k
 Vj:h.IsListIter i2 l2 k
 Vk:h.IsList l1 xs
 Vl:h.IsList l2 ys
theorem rP{z TI TO l m u B:Addr}{k:Nat}{xs C:Array Value}{x y:Value}{Q:Option Value->Shared->Prop}(D:ZipApart z TI TO l m u B)(hz:gY s.heap z TI TO l m u B xs C k)(K:xs[k]?=some x)(L:C[k]?=some y)
  (M:∀h',gY h' z TI TO l m u B xs C (k+1)->IsPair h' s.heap.objs.size x y->(∀c o,c≠z->c≠TO->c≠l->c≠m->s.heap.get? c=some o->h'.get? c=some o)->Q (some (.ref s.heap.objs.size)) {s with heap:=h' }) :
  wpAny (model prog w) A (pyNext (.ref z)) Q E s:=by
 obtain⟨h,t,⟨a,b,N⟩,i,j,f,g⟩:=hz;rcases h with h|⟨T,Y,p,q,h,n⟩
 .refine wpAny_pyNext_zip_item D h t N i j f g K L λh' G H I J O _ d=>M h' ⟨.inr ⟨_,false,_,_,G,O⟩,d _ _ D.TIz D.TITO D.TIi1 D.TIi2 t,⟨_,_,H⟩,I,J,f.at λo e=>d _ o D.l1z D.l1TO D.l1i1 D.l1i2 e,g.at λo e=>d _ o D.l2z D.l2TO D.l2i1 D.l2i2 e⟩ O d
 .have r:s.TypeIs (.ref z) "zip":=⟨_,h,rfl⟩
  have P:T≠z:=λe=>by subst e;have:=h.symm.trans n;simp at this
  have R:T≠l:=λe=>by subst e;obtain⟨o,e,c,_⟩:=i;cases n.symm.trans e;simp at c
  have S:T≠m:=λe=>by subst e;obtain⟨o,e,c,_⟩:=j;cases n.symm.trans e;simp at c
  unfold pyNext
  exact wpAny_bind (wpAny_attempt (wpAny_callSpecial?_slot (name:=Str.ofString "__next__") r F.slot_zip_next
   (wpAny_call_entry F.slot_zip_next r F.entry_zip_next
    (k9 D h n t i j f g K L λh' G H I J _ d=>wpAny_pure (M h' ⟨.inr ⟨T,true,p,q,G,d _ _ P R S n⟩,d _ _ D.TIz D.TIi1 D.TIi2 t,⟨a,b,d _ _ D.TOz D.TOi1 D.TOi2 N⟩,H,I,f.at λo e=>d _ o D.l1z D.l1i1 D.l1i2 e,g.at λo e=>d _ o D.l2z D.l2i1 D.l2i2 e⟩ J λc o U _ V X e=>d c o U V X e)) (F.args_zip_next_1 _))))
theorem k_{z TI TO m n r t:Addr}{k:Nat}{xs u:Array Value}{Q:Option Value->Shared->Prop}(x:A.handled=none)(D:ZipApart z TI TO m n r t)(hz:gY s.heap z TI TO m n r t xs u k)(d:xs[k]?=none\/u[k]?=none)
  (y:∀h',(∀c o,c≠z->c≠TO->c≠m->c≠n->s.heap.get? c=some o->h'.get? c=some o)->Q none {s with heap:=h' }):wpAny (model prog w) A (pyNext (.ref z)) Q E s:=by
 obtain⟨f,B,⟨a,b,C⟩,g,h,i,j⟩:=hz;rcases f with f|⟨T,O,p,q,f,G⟩
 .exact wpAny_pyNext_zip_end x D f B C g h i j d y
 .have l:s.TypeIs (.ref z) "zip":=⟨_,f,rfl⟩
  unfold pyNext
  refine wpAny_bind (wpAny_attempt (wpAny_callSpecial?_slot (name:=Str.ofString "__next__") l F.slot_zip_next
   (wpAny_call_entry F.slot_zip_next l F.entry_zip_next (lT x D f G B g h i j d λh' e H I=>?_) (F.args_zip_next_1 _))))
  obtain⟨o,J,K⟩:=I;refine wpAny_bind (wpAny_isInstance (T:="StopIteration") (b:=true) ⟨o,J,K⟩ isSubtype_stop ?_);exact wpAny_pure (y _ λc o L _ M N e=>H c o L M N e)
theorem gY.ext{h h':Heap}{z TI TO i j l m d:Addr}{xs u:Array Value}{k:Nat}(hz:gY h z TI TO i j l m xs u k)(f:∀c o,c≠d->h.get? c=some o->h'.get? c=some o)(y:z≠d/\TI≠d/\TO≠d/\i≠d/\j≠d/\l≠d/\m≠d)(A:∀T p q,IsPair h T p q->T≠d):gY h' z TI TO i j l m xs u k:=by
 obtain⟨g,B,⟨a,b,C⟩,n,r,s,t⟩:=hz;obtain⟨w,D,E,F,G,H,I⟩:=y;refine⟨?_,f _ _ D B,⟨a,b,f _ _ E C⟩,n.at λo e=>f _ o F e,r.at λo e=>f _ o G e,s.at λo e=>f _ o H e,t.at λo e=>f _ o I e⟩
 rcases g with g|⟨T,J,p,q,g,x⟩
 .exact .inl (f _ _ w g)
 .exact .inr ⟨T,J,p,q,f _ _ w g,f _ _ (A T p q x) x⟩
variable{K:Type}[DecidableEq K]{knd:KeyKind prog w K}
def PZ(knd:KeyKind prog w K)(xs b:Array Value):Nat->List (K×Value)->Prop
 |k,[]=>xs[k]?=none\/b[k]?=none
 |k,p::ps=>∃a,xs[k]?=some a/\b[k]?=some p.2/\knd.is p.1 a=true/\PZ knd xs b (k+1) ps
theorem nY{R:Result->Shared->Prop}{z TI TO l m F G d:Addr}{xs N:Array Value}(hh:A.handled=none)(D:ZipApart z TI TO l m F G)(g:z≠d/\TI≠d/\TO≠d/\l≠d/\m≠d/\F≠d/\G≠d)(h:Value) :
  ∀(ps:List (K×Value)) (k:Nat) (t:Tok) (s:Shared) (f:List (K×Value)),PZ knd xs N k ps->f.length+ps.length<=sizeLine->gY s.heap z TI TO l m F G xs N k->s.heap.DictOf knd d f ->
  (∀h' O,(∀c o,c≠d->c≠z->c≠TO->c≠l->c≠m->s.heap.get? c=some o->h'.get? c=some o)->h'.DictOf knd d (ps.foldl (λa p=>stored a p.1 p.2) f)->R (.ok (.ret h)) {s with heap:=h',toks:=O}) ->
  codeAny (model prog w) A (.builtin "dict.update.loop" ⟨[.ref d,.ref z,.int k t,h],[]⟩) R s:=by
 intro ps
 induction ps with
 |nil=>
  intro k t s f n P Q S U;refine codeAny_builtin L2.cM ?_;rw[Around.under_plainId L2.bq _]
  show wpAny _ A.in1 (pyNext (.ref z) >>= _) _ _ s
  refine wpAny_bind (k_ hh D Q n λh' hk=>?_)
  show wpAny _ _ (Builtin.Dict.addKeywords d [] >>= _) _ _ _
  have i:h'.DictOf knd d f:=let ⟨o,H,I,e,r⟩:=S;⟨o,H,I,hk _ o g.1.symm g.2.2.1.symm g.2.2.2.1.symm g.2.2.2.2.1.symm e,r⟩
  exact wpAny_bind (wpAny_pure (wpAny_pure (U h' s.toks (λb o _ J j L M e=>hk b o J j L M e) i)))
 |cons p ps ih=>
  intro k t s f n P Q S U;obtain⟨u,hx,hy,x,V⟩:=n;refine codeAny_builtin L2.cM ?_;rw[Around.under_plainId L2.bq _]
  show wpAny _ A.in1 (pyNext (.ref z) >>= _) _ _ s
  refine wpAny_bind (rP D Q hx hy λh1 X y B=>?_)
  have C:h1.DictOf knd d f:=let ⟨o,H,I,e,r⟩:=S;⟨o,H,I,B _ o g.1.symm g.2.2.1.symm g.2.2.2.1.symm g.2.2.2.2.1.symm e,r⟩
  refine wpAny_bind (wpAny_holding (wpAny_bind (wpAny_tryCatch ?_)));unfold Builtin.Dict.pairItems;refine wpAny_bind (wpAny_typeOf (T:="tuple") ⟨_,y,rfl⟩ ?_);rw[if_pos (by decide)]
  unfold seqItems?;refine wpAny_bind (wpAny_bind (wpAny_load y ?_));refine wpAny_pure (wpAny_pure ?_)
  show wpAny _ _ (holding [u,p.2] (dictSet d u p.2)) _ _ _
  refine wpAny_holding (wpAny_dictSet_pairs x C (λJ Y E=>?_) (by simp at P;omega))
  refine wpAny_pure ⟨plainId_quiet L2.bq _,?_⟩
  show codeAny _ _ (.builtin "dict.update.loop" ⟨[.ref d,.ref z,rawInt ((k:Int)+1),h],[]⟩) _ _
  have Z:gY J z TI TO l m F G xs N (k+1):=X.ext (d:=d) (λc o j e=>(E.2 c j).trans e) g λT p q n e=>by
   subst e;obtain⟨o,H,I,e',hc,_⟩:=C;cases n.symm.trans e';exact absurd hc.1 (by simp)
  have:=ih (k+1) 0 {s with heap:=J,toks:=s.toks+1} (stored f p.1 p.2) V (by have:=stored_length_le f p.1 p.2;simp at P;omega) Z Y (λh' O a0 i=>U h' O (λb' o' j L M h6 h7 e=>a0 b' o' j L M h6 h7 ((E.2 b' j).trans (B b' o' L M h6 h7 e))) i)
  exact this
end
end PySem
namespace PySem
open Sem (wp)
theorem ji:typeLookup (.type "zip") "__getattr__"=pure none:=by rw[typeLookup_type,builtinLookup_eq_fast];kernel_rfl
theorem fA:entryFor table "zip.__getattribute__"=some Builtin.«object.__getattribute__» :=
 entryFor_alias (id':="object.__getattribute__") (by kernel_rfl) (by decide +kernel) (by decide +kernel) (by kernel_rfl)
theorem en(a:Addr)(xs:Array Value)(f:Array (Option Value))(name:Str)(u:Tok)(e:typeLookup (.type "zip") name=pure none)(b:(["__module__","__name__","__qualname__","__doc__","__annotations__"]:List Str).contains name=false)(hsz:name.length+100<=sizeLine:=by size_fits) :
  Meets (Builtin.«object.__getattribute__» ⟨[.ref a,.str name u],[]⟩) (λA R s=>s.heap.get? a=some {cls:=.type "zip",dict:=none,data:=.fields xs,slots:=f}/\raisesAttr (.ref a) name A R s):=
 Meets.of_wp λprog w A R s c=>by
  obtain⟨h,g,d,i,j⟩:=s;obtain⟨k,c⟩:=c;have l:(⟨h,g,d,i,j⟩:Shared).TypeIs (.ref a) "zip":=⟨_,k,rfl⟩;unfold Builtin.«object.__getattribute__»
  repeat (any_goals (first|assumption|wp_step))
  simp only[b,Bool.false_eq_true,if_false]
  repeat (any_goals (first|assumption|wp_step))
  exact wpAny_raiseAttrError c.1 c.2 (attrMsg_fits (by decide +kernel) hsz)
end PySem
namespace L2
open PySem PySem.Spec PyProof.Rows
section
variable{prog:Program}{w:World}{A:Around}{E:Value->Shared->Prop}{s:Shared}
theorem pZ{a:Addr}{xs:Array Value}{j:Array (Option Value)}{Q:Option Value->Shared->Prop}(k:s.heap.get? a=some {cls:=.type "zip",dict:=none,data:=.fields xs,slots:=j})(n:A.handled=none)
  (h:∀h' l,(∀b o,s.heap.get? b=some o->h'.get? b=some o)->Q none {s with heap:=h',toks:=l}):wpAny (model prog w) A (getAttr? (.ref a) "keys") Q E s:=by
 obtain⟨p,g,d,l,q⟩:=s;have m:∀f,(⟨p,g,d,f,q⟩:Shared).TypeIs (.ref a) "zip":=λ_=>⟨_,k,rfl⟩
 have r:=sub_AttributeError;have t:=F.slot_zip_getattribute.lookup;have u:=F.slot_zip_getattribute.bind (.ref a);have x:=ji;have c:typeLookup (.type "zip") "keys"=pure none:=am_miss_of_fast (by kernel_rfl)
 unfold getAttr? getAttrBy? getAttrBy
 repeat (any_goals (first|assumption|exact m _ | ((with_reducible show wpAny _ _ (call (Value.builtin "zip.__getattribute__") _ _) _ _ _);refine call_meets F.slot_zip_getattribute (m _) fA (F.args_zip_getattribute_2 _ _) (en a xs j "keys" _ c (by decide) (by decide)) ⟨k,n,λh' f e i=>?_⟩)|wp_step))
 obtain⟨y,z,B⟩:=i.there
 show wpAny _ _ (getattributeRaised _ _ _ _ _ _ _) _ _ _
 unfold getattributeRaised
 repeat (any_goals (first|assumption|wp_step))
 exact h _ _ λb o e=>i.keeps b o e
end
section
variable{prog:Program}{w:World}{A:Around}{E:Value->Shared->Prop}{s:Shared}{K:Type}[DecidableEq K]{knd:KeyKind prog w K}
theorem lU{z TI TO k l C G:Addr}{xs I:Array Value}{ps:List (K×Value)}{Q:Value->Shared->Prop}(P:A.handled=none)(D:ZipApart z TI TO k l C G)(hz:IsZip s.heap z TI TO .none)(Z:gY s.heap z TI TO k l C G xs I 0)(X:PZ knd xs I 0 ps)(hsz:ps.length<=sizeLine)
  (h:∀h' H,(∀c o,c≠z->c≠TO->c≠k->c≠l->s.heap.get? c=some o->h'.get? c=some o)->h'.DictOf knd s.heap.objs.size (ps.foldl (λa p=>stored a p.1 p.2) [])->Q (.ref s.heap.objs.size) {s with heap:=h',toks:=H}) :
  wpAny (model prog w) A (call (.type "dict") [.ref z]) Q E s:=by
 refine callType_codes (Q₁:=λm i=>m=.ref s.heap.objs.size/\i={s with heap:=s.heap.push {cls:=.type "dict",data:=.dict #[]} }) F.kt_called_dict (F.kt_typeCall_dict_1 _) F.entry_dict_init (kt_code_dict_new _ ⟨rfl,rfl⟩) ?_
 rintro m i ⟨rfl,rfl⟩;have f:(s.heap.push {cls:=.type "dict",data:=.dict #[]}).DictOf knd s.heap.objs.size []:=Heap.DictOf.new s.heap;have n:IsZip (s.heap.push {cls:=.type "dict",data:=.dict #[]}) z TI TO .none:=Heap.get?_push_of_some _ hz;refine⟨f.typeIs,F.args_dict_init_2 _ _,?_⟩;unfold Builtin.«dict.__init__»;refine wpAny_bind ?_;unfold Builtin.Dict.selfAndRest;refine wpAny_bind (wpAny_notOrdered_dict f.typeIs ?_)
 show wpAny _ _ (pure (s.heap.objs.size,[Value.ref z])) _ _ _
 refine wpAny_pure ?_
 show wpAny _ _ (Builtin.Dict.updateFrom "dict.__init__" s.heap.objs.size (.ref z) [] .none) _ _ _
 unfold Builtin.Dict.updateFrom;refine wpAny_bind (wpAny_typeOf (T:="zip") ⟨_,n,rfl⟩ ?_);rw[if_pos (by decide)]
 refine wpAny_bind (pZ (A:=A.in1.in1) n P λq H S=>?_)
 rw[if_pos (by decide)]
 refine wpAny_bind (wpAny_rule ?_);have g:∀b o,s.heap.get? b=some o->q.get? b=some o:=λb o e=>S b o (Heap.get?_push_of_some _ e)
 refine wpAny_bind (wpAny_pyIter_zip (s:={s with heap:=q,toks:=H}) (g _ _ hz) ?_);refine wpAny_pure ⟨plainId_quiet bq _,?_⟩;have J:q.DictOf knd s.heap.objs.size []:=let ⟨o,es,ep,e,r⟩:=f;⟨o,es,ep,S _ o e,r⟩
 have j:∀{c o},s.heap.get? c=some o->c≠s.heap.objs.size:=λe=>Nat.ne_of_lt (Heap.lt_size e)
 obtain⟨st,U,⟨a,b,V⟩,t,u,x,y⟩:=Z
 have Y:z≠s.heap.objs.size/\TI≠s.heap.objs.size/\TO≠s.heap.objs.size/\k≠s.heap.objs.size/\l≠s.heap.objs.size/\C≠s.heap.objs.size/\G≠s.heap.objs.size:=
  ⟨j hz,j U,j V,(by obtain⟨o,e,_⟩:=t;exact j e),(by obtain⟨o,e,_⟩:=u;exact j e),(by obtain⟨o,e,_⟩:=x;exact j e),(by obtain⟨o,e,_⟩:=y;exact j e)⟩
 have Z1:gY q z TI TO k l C G xs I 0:=⟨.inl (g _ _ hz),g _ _ U,⟨a,b,g _ _ V⟩,t.at λo e=>g _ o e,u.at λo e=>g _ o e,x.at λo e=>g _ o e,y.at λo e=>g _ o e⟩
 have L:=nY (A:=A.in1) (R:=wants (λr B=>r=Value.none/\Q (Value.ref s.heap.objs.size) B) E) (knd:=knd) (d:=s.heap.objs.size) P D Y .none ps 0 0 {s with heap:=q,toks:=H} [] X (by simpa using hsz) Z1 J (λh' M N O=>?_)
 .exact L
 .exact⟨rfl,h h' M (λc o c1 c2 c3 c4 e=>N c o (j e) c1 c2 c3 c4 (g _ _ e)) O⟩
end
theorem boot_zip:bootBuiltins "zip"=some (.type "zip"):=by decide +kernel
theorem Cc{P:Program}{w:World}:∀(b:List Key) (us vs:List Value) (k:Nat) (xs a:Array Value),Vals (b.map kV) us->(∀i,xs[k+i]?=us[i]?)->(∀i,a[k+i]?=vs[i]?)->PZ (ba P w) xs a k (b.zip vs)
 |[],us,vs,k,xs,a,r,c,d=>by
  cases r;exact .inl (by simpa using c 0)
 |key::b,us,vs,k,xs,a,r,c,d=>by
  rw[List.map_cons]at r;cases r with
  |@cons _ u _ us e f=>
   cases vs with
   |nil=>exact .inr (by simpa using d 0)
   |cons v vs=>exact⟨u,by simpa using c 0,by simpa using d 0,jo e,Cc b us vs (k+1) xs a f (λi=>by have:=c (i+1);rw[show k+(i+1)=k+1+i by omega]at this;simpa using this) (λi=>by have:=d (i+1);rw[show k+(i+1)=k+1+i by omega]at this;simpa using this)⟩
theorem xK:∀(a:List Key) {b:List V}{vs:List Value},Vals b vs->KV (a.zip b) (a.zip vs)
 |[],_,_,_=>.nil
 |k::a,_,_,.nil=>.nil
 |k::a,_,_,.cons r t=>.cons ⟨rfl,r⟩ (xK a t)
theorem AN{ps:List (Key×V)}{vs:List (Key×Value)}(r:KV ps vs):∀(c:List (Key×V)) (b:List (Key×Value)),KV c b->KV (ps.foldl (λa p=>putK a p.1 p.2) c) (vs.foldl (λa p=>stored a p.1 p.2) b):=by
 induction r with
 |nil=>intro c b d;exact d
 |@cons p q ps vs e _ f=>
  intro c b d;simp only[List.foldl_cons];refine f _ _ ?_;rw[←e.1];exact d.put p.1 e.2
theorem p8:∀(ps b:List (Key×V)),(ps.foldl (λa p=>putK a p.1 p.2) b).length<=b.length+ps.length
 |[],b=>by simp
 |p::ps,b=>by
  have h1:=p8 ps (putK b p.1 p.2);have c:=dq b p.1 p.2;simp only[List.foldl_cons,List.length_cons];omega
theorem xM{n a b:Nat}(c:a<n)(d:b<n):ZipApart (n+4) (n+2) (n+3) n (n+1) a b:=by
 have k:∀{x y:Nat},x<y\/y<x->x≠y:=λh=>by omega
 constructor<;>exact k (by omega)
theorem n8{c n j:Nat}(h:c<n):c≠n+j:=by omega
theorem DD{m n k:Nat}(h:m<n)(e:k=n+5):k≠m:=by omega
theorem xN{n k:Nat}(e:k=n+5):n<=k:=by omega
def S9(f:TA):TE:=λg H Q=>f g H λh c=>∃(a b:Addr) (d:List Key) (e:List V),h=[.ref a,.ref b]/\Rd c a (.lst (d.map kV))/\Rd c b (.lst e)/\∀p,c p=none->Q (.ref p) (upd c p (.dK ((d.zip e).foldl (λa p=>putK a p.1 p.2) [])))
theorem AO{X:Cx}{a b:Expr}{M:TA}{p N pos d:Pos}(U:X.calm=true)(V:Gl X "dict")(Y:X.mg "dict"=none)(y:Gl X "zip")(z:X.mg "zip"=none)(Z:PA X [a,b] M)(hs:starEach [a,b] X.env=(false,eval a X.env)::starEach [b] X.env)(A:(backTo d (starEach [b] X.env)).any (·.1)=false) :
  PE X (.Call (.Name "dict" p) [.Call (.Name "zip" N) [a,b] [] d] [] pos) (S9 M):=by
 intro pins s σ H Q I h;refine wpAny_Call_Name_kw (fU I V Y boot_dict ?_ (by decide) (by decide))
 refine PyProof.Rows.callWith_type1 ?_ rfl rfl
 show wpAny _ _ (spliced ((false,eval (.Call (.Name "zip" N) [a,b] [] d) X.env)::backTo pos (starEach [] X.env))) _ _ s
 refine Calls.spliced_cons ?_;refine wpAny_Call_Name_kw (fU I y z boot_zip ?_ (by decide) (by decide))
 refine PyProof.Rows.callWith_type1 (bZ (Z d pins s σ H _ I h) λus s1 ⟨vs,H1,I1,r1,q1⟩=>?_) hs A
 obtain⟨O,P,m,R,rfl,ra,rb,q⟩:=q1;cases r1 with
 |cons r B=>
  cases B with
  |cons r' B=>
   cases B;cases r;cases r';obtain⟨g,C,k,a0⟩:=I1.list (.inl ra);obtain⟨f,t,l,b0⟩:=I1.list (.inl rb);refine call_zip_2 k.isList l.isList λx S a2 a3 a4 a5 E F=>?_
   refine Calls.spliced_nil ?_;have n:∀{c o},s1.heap.get? c=some o->c<s1.heap.objs.size:=λe=>Heap.lt_size e
   have n1:O<s1.heap.objs.size:=by obtain⟨o,e,_⟩:=k.isList;exact n e
   have n2:P<s1.heap.objs.size:=by obtain⟨o,e,_⟩:=l.isList;exact n e
   have D:ZipApart (s1.heap.objs.size+4) (s1.heap.objs.size+2) (s1.heap.objs.size+3) s1.heap.objs.size (s1.heap.objs.size+1) O P:=xM n1 n2;have G:PZ (ba X.prog X.w) g.toArray f.toArray 0 (m.zip f):=Cc m g f 0 _ _ C (λi=>by simp) (λi=>by simp)
   have c0:=Vals.length t;have u:(m.zip f).length<=sizeLine:=by rw[List.length_zip];omega
   refine lU (knd:=ba X.prog X.w) (s:={s1 with heap:=x}) (I1.ok.hd U) D S ⟨.inl S,a2,⟨_,_,a3⟩,a4,a5,k.isList.at λo e=>F _ o e,l.isList.at λo e=>F _ o e⟩ G u λh' tk hk dd=>?_
   have J:∀c o,s1.heap.get? c=some o->h'.get? c=some o:=λc o e=>by
    exact hk c o (n8 (n e)) (n8 (n e)) (n8 (j:=0) (n e)) (n8 (n e)) (F c o e)
   have K:=AN (xK m t) [] [] .nil
   have hl:((m.zip R).foldl (λa p=>putK a p.1 p.2) []).length<=sizeLine:=by
    have T:=p8 (m.zip R) [];rw[List.length_zip]at T;rw[List.length_zip]at u;simp at T;omega
   have L:((x.objs.size:Addr)==sysModules)=false:=beq_eq_false_iff_ne.mpr (DD I1.big E);exact⟨.ref x.objs.size,_,I1.laid (a:=x.objs.size) J (xN E) (kk hl L K dd),rfl,q _ (I1.hok.fresh (xN E))⟩
end L2
namespace Mir
open PySem PySem.Spec PyProof.Rows L2
variable [aO]
def DE(xs:List D)(Ω:aD):aw D:=match xs with
 |[x,y]=>match cV Ω x,cV Ω y with
  |some b,some c=>match bo je b with
   |some d=>f9 Ω (.dK ((d.zip c).foldl (λa p=>bH a p.1 p.2) []))
   |none=>.bad
  |_,_=>.bad
 |_=>.bad
section
variable{X:Cx}{κ:Str->Addr->Prop}{Φ:e8}{α:List Addr}{Z:Addr->Prop}{Ω:aD}{H:Hp}{Q:VK}{a b:Expr}{as:AM}{p p' pos pos':Pos}
theorem tQ:∀(a:List Key) {es:List D}{b:List V},az (ak α Z H) es b->eQ (ak α Z H) (a.zip es) (a.zip b)
 |[],_,_,_=>.nil
 |_::_,_,_,.nil=>.nil
 |k::a,_,_,.cons r t=>.cons ⟨rfl,r⟩ (tQ a t)
theorem xO{ps:List (Key×D)}{d:List (Key×V)}{c:List (Key×D)}{b:List (Key×V)}(e:eQ (ak α Z H) c b)(q:eQ (ak α Z H) ps d):eQ (ak α Z H) (ps.foldl (λa p=>bH a p.1 p.2) c) (d.foldl (λa p=>putK a p.1 p.2) b):=by
 unfold eQ at q
 induction q generalizing c b with
 |nil=>exact e
 |@cons p q _ _ f _ g=>
  simp only[List.foldl_cons];refine g ?_;rw[f.1];exact e.put q.1 f.2
theorem Gj{xs:List D}{vs:List V}(S:bK κ α Z Ω H)(e:az (ak α Z H) xs vs)(g:bS κ Φ α Z H (DE xs Ω) Q):∃(a b:Addr) (c:List Key) (d:List V),vs=[.ref a,.ref b]/\Rd H a (.lst (c.map kV))/\Rd H b (.lst d)/\∀p,H p=none->Q (.ref p) (upd H p (.dK ((c.zip d).foldl (λa p=>putK a p.1 p.2) []))):=by
 unfold DE at g;split at g
 .split at g
  .rename_i r s f h
   split at g
   .rename_i c i
    obtain⟨v,w,rfl,j,k⟩:=tJ e;obtain⟨a,l,rfl,m,n⟩:=bO S j f;obtain⟨b,d,rfl,o,q⟩:=bO S k h;obtain rfl:=kK i n;exact⟨a,b,c,d,rfl,m,o,rJ S (xO .nil (tQ c q)) g⟩
   .exact g.elim
  .exact g.elim
 .exact g.elim
theorem xP(h:X.calm=true)(i:Gl X "dict")(j:X.mg "dict"=none)(c:Gl X "zip")(d:X.mg "zip"=none)(k:oQ X κ Φ [a,b] as)(l:starEach [a,b] X.env=(false,eval a X.env)::starEach [b] X.env)(e:(backTo pos' (starEach [b] X.env)).any (·.1)=false) :
  bt X κ Φ (.Call (.Name "dict" p) [.Call (.Name "zip" p') [a,b] [] pos'] [] pos) (mN DE as):=by
 intro f m n o q;refine PE.imp (AO h i j c d (k f m n o q) l e) ?_;rintro y H Q ⟨r,Z,S,g⟩;exact⟨r,Z,S,oP.use g λz s _ A B t C D u w x=>Gj u w x⟩
end
noncomputable def DF(x:Str)(args:List Expr):Option (Expr×Expr×Pos):=match args with
 |[.Call (.Name y _) [a,b] [] c]=>if x==("dict":Str)&&y==("zip":Str)then some (a,b,c)else none
 |_=>none
theorem xQ{x:Str}{args:List Expr}{a b:Expr}{pos:Pos}(h:DF x args=some (a,b,pos)):x="dict"/\∃p,args=[.Call (.Name "zip" p) [a,b] [] pos]:=by
 unfold DF at h;split at h
 .split at h
  .rename_i c
   simp only[Bool.and_eq_true,beq_iff_eq]at c;obtain⟨rfl,rfl⟩:=c;cases h;exact⟨rfl,_,rfl⟩
  .cases h
 .cases h
end Mir
namespace L2
open PySem PySem.Spec PyProof.Rows
theorem rangeSize_down(a b:Int):Builtin.Range.rangeSize a b (-1)=if b<a then a - b else 0:=by
 unfold Builtin.Range.rangeSize;simp
theorem small_down{a b:Int}(e : -(2 ^ 62)<=a)(c:a<2 ^ 62)(f : -(2 ^ 62)<=b)(d:b<2 ^ 62):Builtin.Range.small a b (-1)=true:=by
 unfold Builtin.Range.small;rw[rangeSize_down];simp only[Builtin.Range.rangeFitsLong,Bool.and_eq_true,Bool.or_eq_true,decide_eq_true_eq,beq_iff_eq];simp;split<;>omega
noncomputable def Gk(a:Int)(n:Nat):It:=⟨λi _=>i<n,λi H x b=>b=H/\x=.int (a - i),λi _=>n<=i⟩
theorem p9{P:Program}{w:World}{K:PySem.W.Frag}{F:Expr}(it:Addr)(d:Int)(n:Nat):Turn P w K F (Gk d n) [it] it (λi h=>IsRangeIter h it (d+(i:Nat)*(-1)) ((n:Int) - (i:Nat)) (-1)) where
 mem:=by simp
 obj:=λi h a b c=>by
  have e:b=it:=by simpa using c
  subst e
  exact⟨_,a,λv z=>by
   have G:Data.fields _=Data.cell v:=z;cases G⟩
 keep:=λi h g a k=>k it (by simp) _ a
 item:=by
  intro X l m p q i pins s C H E I j a r;subst l m p;obtain⟨u,x,J,y,A,B⟩:=j it (by simp)
  have W:=Walks.range (prog:=X.prog) (w:=X.w) (I.ok.hd q) it d (-1) n;refine W.item i s _ _ r a λv g D L f M=>?_
  obtain⟨t,rfl⟩:=L;have N:Inv X pins C H {s with heap:=g,toks:=D}:=I.turned (λb o c e=>M b o (by simpa using c) e) u x y A B
  refine⟨_,rfl,lX (s:={s with heap:=g,toks:=D}) (n:="range_iterator") f rfl rfl (by decide) ⟨.int (d - i),H,N,⟨t,?_⟩,⟨rfl,rfl⟩,f,λb c=>(j b c).1⟩⟩
  rw[show d+(i:Int)*(-1)=d - i by omega]
 done:=by
  intro X l m p q i pins s C H E I j a r;subst l m p;obtain⟨u,x,J,y,A,B⟩:=j it (by simp)
  exact wpAny_pyNext_range_end (I.ok.hd q) a (by have:n<=i:=r;omega) λg O=>⟨rfl,I.turned (t':=s.toks) (λb o c e=>O b o c e) u x y A B⟩
 self:=λ_ _ _ _ _ a h=>wpAny_pyIter_rangeiter a h
section
variable{X:Cx}{tg:Expr}
theorem vz{pins:List (Addr×Obj)}{d:St}{H:Hp}{s:Shared}{R:It->Hp->Prop}{E:Value->Shared->Prop}{a c:Int}{t u v:Tok}{f:Nat}(I:Inv X pins d H s)(h : -(2 ^ 62)<=a)(i:a<2 ^ 62)(j : -(2 ^ 62)<=c)(k:c<2 ^ 62)
  (q:R (Gk a (a - c).toNat) H):wpAny (model X.prog X.w) X.A (pyIter (.ref s.heap.objs.size)) (PIE X pins d tg R) E {s with heap:=s.heap.push {cls:=.type "range",data:=.fields #[.int a t,.int c u,.int (-1) v]},toks:=f}:=by
 refine wpAny_pyIter_range (IsRange.new ..) (small_down h i j k) ?_;have g:Inv X pins d H {s with heap:=s.heap.push {cls:=.type "range",data:=.fields #[.int a t,.int c u,.int (-1) v]},toks:=f}:=I.kept λb o e=>Heap.get?_push_of_some _ e
 refine⟨(s.heap.push {cls:=.type "range",data:=.fields #[.int a t,.int c u,.int (-1) v]}).objs.size,[(s.heap.push {cls:=.type "range",data:=.fields #[.int a t,.int c u,.int (-1) v]}).objs.size],_,_,H,rfl,
  g.kept (t':=f) λb o e=>Heap.get?_push_of_some _ e,p9 _ a (a - c).toNat,?_,λb l=>?_,q⟩
 .have m:a+((0:Nat):Int)*(-1)=a:=by simp
  have n:(((a - c).toNat:Nat):Int) - ((0:Nat):Int)=Builtin.Range.rangeSize a c (-1):=by rw[rangeSize_down];split<;>omega
  show IsRangeIter _ _ (a+((0:Nat):Int)*(-1)) ((((a - c).toNat:Nat):Int) - ((0:Nat):Int)) (-1)
  rw[m,n];exact Heap.get?_push_size _ rfl
 .have e:b=(s.heap.push {cls:=.type "range",data:=.fields #[.int a t,.int c u,.int (-1) v]}).objs.size:=by simpa using l
  subst e;exact g.uC (Nat.le_refl _) (g.hok.fresh (Nat.le_refl _))
def Gm(a:TA):TI:=λb H R=>a b H λc d=>∃i j:Int,c=[.int i,.int j,.int (-1)]/\(-(2 ^ 61)<=i/\i<2 ^ 61 /\ -(2 ^ 61)<=j/\j<2 ^ 61)/\R (Gk i (i - j).toNat) d
theorem vA{a b c:Expr}{g:TA}{p pos:Pos}(l:Gl X "range")(m:X.mg "range"=none)(n:PA X [a,b,c] g)(o:starEach [a,b,c] X.env=(false,eval a X.env)::starEach [b,c] X.env)(f:(backTo pos (starEach [b,c] X.env)).any (·.1)=false) :
  PI X tg (.Call (.Name "range" p) [a,b,c] [] pos) (Gm g):=by
 intro pins s u H R I h;refine Call_ (fU I l m boot_range (PyProof.Rows.callWith_type1 (bZ (n pos pins s u H _ I h) λz A ⟨B,H1,I1,w,k⟩=>?_) o f))
 obtain⟨i,j,e,⟨k,C,D,E⟩,q⟩:=k;subst e;cases w with
 |cons r d=>
  cases d with
  |cons x d=>
   cases d with
   |cons y d=>
    cases d;obtain⟨t,rfl⟩:=r;obtain⟨F,rfl⟩:=x;obtain⟨G,rfl⟩:=y;exact call_range_3 (by decide) (vz I1 (by omega) (by omega) (by omega) (by omega) q) (Or.inl (PyProof.noPylong_small (by omega)))
end
end L2
namespace Mir
open PySem PySem.Spec PyProof.Rows L2
variable [aO]
noncomputable def rQ(i:Int):Bool:=decide (i.natAbs<2305843009213693952)
theorem p_{i:Int}(h:rQ i=true): -(2 ^ 61)<=i/\i<2 ^ 61:=by
 unfold rQ at h;simp only[decide_eq_true_eq]at h;omega
def xR(xs:List D)(Ω:aD):aw Src:=match xs with
 |[.int i,.int j,.int (-1)]=>if rQ i&&rQ j then .ok (.Jp i (i - j).toNat) Ω else .bad
 |_=>.bad
def qa(a:AM):IM:=λb c=>(a b c).bind xR
section
variable{X:Cx}{κ:Str->Addr->Prop}{Φ:e8}{α:List Addr}{Z:Addr->Prop}{H:Hp}{a b c tg:Expr}{as:AM}{pos p:Pos}
theorem AQ{c:Int}{n:Nat}:rL κ (.Jp c n) (Gk c n) α Z H:=by
 intro e f h l m g s j;cases j;refine⟨λi d b=>?_,λi a=>by rw[List.length_map,List.length_range]at a;exact a⟩
 have a:=(List.getElem?_eq_some_iff.mp b).1;rw[List.length_map,List.length_range]at a;refine⟨a,λy o k=>?_⟩
 obtain⟨rfl,rfl⟩:=k;rw[List.getElem?_map,List.getElem?_range a]at b;cases b;exact⟨f,cv.refl s.has,s,bb rfl⟩
theorem xS(z:Gl X "range")(A:X.mg "range"=none)(B:oQ X κ Φ [a,b,c] as)(C:starEach [a,b,c] X.env=(false,eval a X.env)::starEach [b,c] X.env)(f:(backTo pos (starEach [b,c] X.env)).any (·.1)=false):vp X κ Φ tg (.Call (.Name "range" p) [a,b,c] [] pos) (qa as):=by
 intro h D E F G;refine PI.imp (vA z A (B h D E F G) C f) ?_;rintro L H R ⟨I,Z,S,g⟩;refine⟨I,Z,S,pP.Gg (Q':=λn k=>∃i j:Int,n=[.int i,.int j,.int (-1)]/\(-(2 ^ 61)<=i/\i<2 ^ 61 /\ -(2 ^ 61)<=j/\j<2 ^ 61)/\R (Gk i (i - j).toNat) k) g λM J _ n k l K N o d e=>?_⟩
 unfold xR at e;split at e
 .obtain⟨v,r,rfl,q,d⟩:=d.cons_inv
  obtain⟨w,r,rfl,s,d⟩:=d.cons_inv;obtain⟨u,r,rfl,t,d⟩:=d.cons_inv;rw[d.nil_inv];simp only[ak]at q s t;subst q s t;split at e
  .rename_i m
   simp only[Bool.and_eq_true]at m;have x:=p_ m.1;have y:=p_ m.2;exact⟨_,_,rfl,⟨x.1,x.2,y.1,y.2⟩,e _ k l K (cv.refl o.has) o AQ⟩
  .exact e.elim
 .exact e.elim
end
def eN(x y:Str)(g h:EM):EM:=λf d=>(g f (d++[.dK []])).bind λa e=>(h f e).bind λb c=>match c[d.length]? with
 |some (.dK [])=>.ok (.ref d.length) (c.set d.length (.dK (bH (bH [] (.inr x) a) (.inr y) b)))
 |_=>.bad
theorem rR{X:Cx}{κ:Str->Addr->Prop}{Φ:e8}{pos p1 p2:Pos}{O P:Nat}{x y:Str}{v w:Expr}{q r:EM}(T:bt X κ Φ v q)(U:bt X κ Φ w r):bt X κ Φ (.Dict [some (.Constant (.str x) O p1),some (.Constant (.str y) P p2)] [v,w] pos) (eN x y q r):=by
 intro e s A B C;refine PE.imp (zB (km qI (PE.ex λd=>T e s A B d) (km qI (PE.ex λd=>U e s A B d) sQ)) rfl rfl (by simp) (by simp)) ?_
 rintro σ H Q ⟨D,Z,S,g⟩ p V;obtain⟨E,F⟩:=S.st.laid (p:=p) (o:=.dK []) (c:=.dK []) V λR G=>⟨[],aN,.nil⟩
 have I:=S.grow F E;have Y:ak (D++[p]) Z (upd H p (.dK [])) (.ref C.length) (.ref p):=dA S.st p;have g:=bS.from F g
 unfold eN at g;refine⟨C++[.dK []],D++[p],Z,I,bS.use g λa j _ u H2 k Z2 J l r2 k2=>⟨j,k,Z2,I.grow J l,k2.use λb a0 _ t H3 b0 Z3 K L r3 m=>?_⟩⟩
 split at m
 .rename_i hc
  have f:=l.cG K (E.cG J Y);simp only[ak]at f;obtain⟨c,n,ea⟩:=f;cases ea;obtain⟨a',h,i,M,N⟩:=L.cell hc;rw[n]at h;cases h;have hn:=eQ.length N;obtain rfl:i=[]:=List.eq_nil_of_length_eq_zero (by simpa using hn)
  refine⟨M,[(.inr x,u),(.inr y,t)],rfl,by simp,?_⟩
  obtain⟨s4,g4⟩:=L.put (o:=.dK (putK (putK [] (.inr x) u) (.inr y) t)) (c:=.dK (bH (bH [] (.inr x) a) (.inr y) b)) n (λo u z=>by rw[M]at z;cases z) λR G=>⟨_,aN,((N.put (.inr x) (l.cG K r2)).put (.inr y) r3).imp G⟩
  refine m _ _ _ _ g4 s4 ?_;simp only[ak];exact⟨p,n,rfl⟩
 .exact m.elim
noncomputable def AR:List (Option Expr)->List Expr->Option (Str×Str×Expr×Expr)
 |[some (.Constant (.str x) _ _),some (.Constant (.str y) _ _)],[v,w]=>some (x,y,v,w)
 |_,_=>none
theorem xT{a:List (Option Expr)}{vs:List Expr}{x y:Str}{v w:Expr}(h:AR a vs=some (x,y,v,w)):∃b p1 c p2,a=[some (.Constant (.str x) b p1),some (.Constant (.str y) c p2)]/\vs=[v,w]:=by
 unfold AR at h;split at h
 .cases h;exact⟨_,_,_,_,rfl,rfl⟩
 .cases h
noncomputable def aa(i:Nat):EM:=λa b=>match a[i]? with|some (some d)=>.ok d b|_=>.bad
noncomputable def ah(d:D):EM:=λ_ a=>.ok d a
def bY:EM:=λ_ a=>f9 a (.dK [])
def DG:EM:=λ_ a=>f9 a (.dT [])
noncomputable def o2{c d e:Type}(x:Option c)(y:Option d)(k:c->d->e):Option e:=match x,y with
 |some a,some b=>some (k a b)
 |_,_=>none
theorem bI{c d e:Type}{x:Option c}{y:Option d}{k:c->d->e}{z:e}(h:o2 x y k=some z):∃a b,x=some a/\y=some b/\z=k a b:=by
 unfold o2 at h;split at h
 .cases h;exact⟨_,_,rfl,rfl,rfl⟩
 .cases h
theorem cm{b c:Type}{x:Option b}{k:b->c}{z:c}(h:x.map k=some z):∃a,x=some a/\z=k a:=by
 cases x with
 |none=>cases h
 |some a=>cases h;exact⟨a,rfl,rfl⟩
structure aM where
 lK:List (Str×(List D->Out Rs)):=[]
 fn:List (Str×aR):=[]
 cst:List (Str×D):=[]
 met:List (Str×Str×aR):=[]
 cls:List (Str×aR):=[]
 fld:List (Str×List Str):=[]
 clo:List (List D->aR):=[]
 fz:List Str:=[]
 xt:Bool:=false
def n9(T:aM)(a:Scope)(N:List Str)(x:Str):Option EM:=
 match mD a N x with
 |some i=>some (aa i)
 |none=>if wY a x&&okN x then (T.cst.lookup x).map ah else none
def la:Const->Option EM
 |.none=>some (ah .non)
 |.bool b=>some (ah (.bl b))
 |.int i=>some (ah (.int i))
 |.str x=>some (ah (.str x))
 |_=>none
def cK(f:Expr->Option EM):List Expr->Option AM
 |[]=>some af
 |e::es=>o2 (f e) (cK f es) ab
def S_(op:BoolOp)(a b:EM):EM:=match op with
 |.And=>gh a b
 |.Or=>ve a b
def iL(f:Expr->Option EM)(op:BoolOp):List Expr->Option EM
 |[]=>none
 |[a]=>f a
 |a::b::r=>o2 (f a) (iL f op (b::r)) (S_ op)
def rS(f:Expr->Option EM):Option Expr->Option (Bool×EM)
 |none=>some (true,ah .non)
 |some e=>(f e).map λm=>(false,m)
inductive BM where
 |append|insert|extend|qb|index|join
noncomputable def BM.nm:BM->Str
 |.append=>"append" |.insert=>"insert" |.extend=>"extend" |.qb=>"pop" |.index=>"index" |.join=>"join"
noncomputable def BM.ar:BM->Nat
 |.append=>1|.insert=>2|.extend=>1|.qb=>1|.index=>1|.join=>1
def BM.ty:BM->aD->D->Bool
 |.join=>nU
 |_=>jI
def BM.f:BM->D->List D->aD->aw D
 |.append=>cW|.insert=>gz|.extend=>gC|.qb=>eS|.index=>eD|.join=>pO
def DH(m:Str)(n:Nat):Option BM:=[BM.append,.insert,.extend,.qb,.index,.join].find? λb=>b.nm==m&&b.ar==n
def gD(a:EM)(b:AM)(m:Str):List (Str×Str×aR)->Option EM
 |[]=>none
 | (c,C,F)::r=>if c==m then (match gD a b m r with
  |some x=>some (f_ (aC C m F a b) x)
  |none=>some (aC C m F a b))else gD a b m r
def n_(T:aM)(m:Str)(n:Nat)(a:EM)(c:AM):Option EM:=match DH m n,gD a c m T.met with
 |some b,some x=>some (f_ (cE b.ty b.f a c) x)
 |some b,none=>some (cE b.ty b.f a c)
 |none,x=>x
def jU(T:aM)(m:Str)(n:Nat)(a:EM)(b:AM):Option EM:=match n_ T m n a b with
 |some x=>if m==("index":Str)&&n==1 then some (f_ x (cE nU gX a b))else some x
 |none=>none
noncomputable def dO:Expr->Bool
 |.Name .. |.Attribute .. |.Constant (.str _) .. |.Subscript .. |.Call (.Attribute ..) ..=>true
 |_=>false
def rT(x:Str):Option jQ:=[jQ.len,jQ.all,jQ.any,jQ.list,jQ.tuple].find? (λb=>b.nm==x)
theorem AS{x:Str}{b:jQ}(h:rT x=some b):x=b.nm/\b∈[jQ.len,jQ.all,jQ.any,jQ.list,jQ.tuple]/\b.nm∈dX:=by
 unfold rT at h;have c:=List.find?_some h;have a:=List.mem_of_find?_eq_some h;refine⟨(eq_of_beq c).symm,a,?_⟩;cases b<;>first | (simp at a;done)|decide
def oa(T:aM)(a:Scope)(f:Expr->Option EM)(x:Str)(args:List Expr):Option EM:=
 if wY a x&&okN x then
  match T.fn.lookup x,T.lK.lookup x,T.cls.lookup x,rT x with
  |some F,_,_,_=>(cK f args).map (mN (bj F))
  |none,some F,_,_=>if args.isEmpty then none else (cK f args).map (mN (cz F))
  |none,none,some F,_=>(cK f args).map (mN (dB x F))
  |none,none,none,some b=>if args.isEmpty then none else (cK f args).map (mN (bu b))
  |none,none,none,none=>(if x==("dict":Str)then (if args.isEmpty then none else (cK f args).map (mN pM))else none)
 else none
def jV(T:aM)(a:Scope)(N:List Str)(f:Expr->Option EM)(x:Str)(args:List Expr):Option EM:=match mD a N x with
 |some _=>none
 |none=>oa T a f x args
def xU(b:Scope):List Expr->Option (Expr×Ty×Pos)
 |[a,.Name t p]=>match wZ t with
  |some ty=>if wY b t then some (a,ty,p)else none
  |none=>none
 |_=>none
theorem vB{d:Scope}{args:List Expr}{a:Expr}{b:Ty}{p:Pos}(h:xU d args=some (a,b,p)):args=[a,.Name b.nm p]/\wY d b.nm=true/\b.nm∈dX:=by
 unfold xU at h;split at h
 .split at h
  .rename_i e c
   split at h
   .rename_i f
    cases h;obtain⟨rfl,m⟩:=F7 c;exact⟨rfl,f,m⟩
   .cases h
  .cases h
 .cases h
def xV(b:Scope)(f:Expr->Option EM)(x:Str)(args:List Expr):Option EM:=if x==("isinstance":Str)&&wY b x then match xU b args with
 |some (a,c,_)=>(f a).map (m1 (nT c))
 |none=>none else none
def DI(c:Scope)(f:Expr->Option EM)(x:Str)(args:List Expr):Option EM:=match DF x args with
 |some (a,b,_)=>if wY c x&&wY c ("zip":Str)then (cK f [a,b]).map (mN DE)else none
 |none=>none
def lj(a:Scope)(f:Expr->Option EM)(x:Str)(args:List Expr):Option EM:=match xV a f x args with
 |some m=>some m
 |none=>DI a f x args
def gZ(f:Expr->Option EM)(d:Scope)(iter:Expr):Option IM:=match iter with
 |.Call (.Name g _) args [] _=>if g==("range":Str)then (if wY d g then (match args with
   |[a]=>(cK f [a]).map dH
   |[a,b,c]=>(cK f [a,b,c]).map qa
   |_=>none)else none)else (f iter).map bG
 |_=>(f iter).map bG
def xW(f:Expr->Option EM):List Expr->Option (Bool×EM)
 |[]=>some (true,ah .non)
 |[c]=>(f c).map λm=>(false,m)
 |_=>none
noncomputable def emptyDict:List (Option Expr)->List Expr->Bool
 |[],[]=>true
 |_,_=>false
noncomputable def AU:List (Option Expr)->List Expr->Option (Expr×Expr)
 |[some (.Tuple es j p)],[v]=>some (.Tuple es j p,v)
 |_,_=>none
theorem xX{a:List (Option Expr)}{vs:List Expr}{k v:Expr}(h:AU a vs=some (k,v)):a=[some k]/\vs=[v]:=by
 unfold AU at h;split at h
 .cases h;exact⟨rfl,rfl⟩
 .cases h
def cp(T:aM):Nat->Scope->List Str->Expr->Option EM
 |0,_,_,_=>none
 |n+1,sc,N,e=>match e with
  |.Name x _=>n9 T sc N x
  |.Constant c _ _=>la c
  |.BinOp a d b _=>o2 (cp T n sc N a) (cp T n sc N b) (m2 (bf d))
  |.UnaryOp .USub a _=>(cp T n sc N a).map (m1 rq)
  |.UnaryOp .Not a _=>(cp T n sc N a).map fv
  |.BoolOp d (a::b::r) _=>iL (cp T n sc N) d (a::b::r)
  |.Compare a [d] [b] _=>if isSet b then none else o2 (cp T n sc N a) (cp T n sc N b) (m2 (aG d))
  |.Compare a [d,g] [b,c] _=>if isSet c then none else o2 (cp T n sc N a) (o2 (cp T n sc N b) (cp T n sc N c) Prod.mk) λx y=>kM d g x y.1 y.2
  |.IfExp t a b _=>o2 (cp T n sc N t) (o2 (cp T n sc N a) (cp T n sc N b) Prod.mk) λx y=>yX x y.1 y.2
  |.Subscript a (.Slice lo hi none _) _=>o2 (cp T n sc N a) (o2 (rS (cp T n sc N) lo) (rS (cp T n sc N) hi) Prod.mk) λx y=>dZ x y.1.1 y.1.2 y.2.1 y.2.2
  |.Subscript a b _=>if isSlice b then none else o2 (cp T n sc N a) (cp T n sc N b) (m2 aF)
  |.List es _=>(cK (cp T n sc N) es).map (mN bB)
  |.Tuple es _ _=>(cK (cp T n sc N) es).map (mN hX)
  |.Attribute o f _=>if dO o then o2 (T.fld.lookup f) (cp T n sc N o) λCs m=>m1 (aW Cs f) m else none
  |.Call (.Name x _) args [] _=>match lj sc (cp T n sc N) x args with
   |some m=>some m
   |none=>jV T sc N (cp T n sc N) x args
  |.Call (.Attribute o m p1) args [] p2=>if p1.endLine==p2.line&&dO o&&decide (args.length<20)then (match cp T n sc N o,cK (cp T n sc N) args with
   |some mo,some as=>jU T m args.length mo as
   |_,_=>none)else none
  |.ListComp elt gens scope _=>match kH gens with
   |some (x,_,iter,ifs)=>if w8 scope sc x&&!isSet iter then (match rj sc N (dr scope),gZ (cp T n sc N) sc iter,cp T n (ri scope sc) (x::dr scope) elt,xW (cp T n (ri scope sc) (x::dr scope)) ifs with
    |some cap,some mi,some me,some (nc,mc)=>some (cJ me nc mc mi 0 cap)
    |_,_,_,_=>none)else none
   |none=>none
  |.Dict ks h _=>if emptyDict ks h then some bY else (match AU ks h with
   |some (k,v)=>o2 (cp T n sc N k) (cp T n sc N v) eM
   |none=>(match AR ks h with
    |some (x,y,v,w)=>o2 (cp T n sc N v) (cp T n sc N w) (eN x y)
    |none=>none))
  |_=>none
structure GoodO(X:Cx)(κ:Str->Addr->Prop)(T:aM)(k:Nat)(sc:Scope)(N:List Str):Prop where
 scope:X.env.scope=sc
 names:X.N=N
 calm:X.calm=true
 room:cD k X.A
 eo:∀x∈dX,X.mg x=none
 lK:∀x F,T.lK.lookup x=some F->FX X k x F
 fn:∀x F,T.fn.lookup x=some F->xC X κ k x F
 cst:∀x d,T.cst.lookup x=some d->∃v u,X.mg x=some u/\RelV v u/\Dq d v
 met:∀m C F,(m,C,F)∈T.met->tP X κ k C m F
 cls:∀C F,T.cls.lookup C=some F->∃j,j+1<=k/\xF X κ j C F
 fld:∀f Cs,T.fld.lookup f=some Cs->hZ X.K κ Cs f
 clo:∀j F,T.clo[j]?=some F->pY X.prog X.w X.K X.mg X.base κ k j F
theorem GoodO.gl{X:Cx}{κ:Str->Addr->Prop}{T:aM}{k:Nat}{a:Scope}{N:List Str}{x:Str}(G:GoodO X κ T k a N)(h:wY a x=true):Gl X x:=by
 unfold wY at h;have e:=eq_of_beq h
 show X.env.scope.names.lookup x=some .globalImplicit
 rw[G.scope];exact e
theorem GoodO.hu{X:Cx}{κ:Str->Addr->Prop}{T:aM}{k:Nat}{a:Scope}{N:List Str}(G:GoodO X κ T k a N):X.A.units+64<cLine:=G.room.units
theorem GoodO.blk{X:Cx}{κ:Str->Addr->Prop}{T:aM}{k:Nat}{c:Scope}{N:List Str}(G:GoodO X κ T k c N)(scope:Scope)(e:List (Str×Addr))(C:Addr)(d:List Str)(a:Shared)(b:Hp)(fp:List Addr):GoodO (blk X scope e C d a b fp) κ T k (ri scope c) d where
 scope:=by rw[←G.scope];rfl
 names:=rfl
 calm:=G.calm
 room:=G.room
 eo:=G.eo
 lK:=λx F h=>⟨(G.lK x F h).ex⟩
 fn:=λx F h=>⟨(G.fn x F h).ex⟩
 cst:=G.cst
 met:=λm C F h=>⟨(G.met m C F h).ex⟩
 cls:=λC F h=>let ⟨j,f,g⟩:=G.cls C F h;⟨j,f,⟨g.ex⟩⟩
 fld:=G.fld
 clo:=G.clo
def jk(X:Cx)(κ:Str->Addr->Prop)(e:Expr)(m:EM):Prop:=(∀a,bt X κ a e m)/\(∀a,gb X κ a e m)/\isStar e=false
section
variable{X:Cx}{κ:Str->Addr->Prop}{T:aM}{k:Nat}{sc:Scope}{N:List Str}{f:Expr->Option EM}
theorem bJ{e:Expr}{m:EM}(h:∀Φ,bt X κ Φ e m)(b:isStar e=false)(c:∀a,isTrue e X.env a=(do let v ←a;standAt e.pos;holding [v] (truthy v))):jk X κ e m:=⟨h,λΦ=>Af (h Φ) c,b⟩
theorem bN(b:∀e m,f e=some m->jk X κ e m):∀{es:List Expr}{a:AM},cK f es=some a->(∀Φ,oQ X κ Φ es a)/\(∀e∈es,isStar e=false)
 |[],a,h=>by cases h;exact⟨λΦ=>zY,λe d=>absurd d (by simp)⟩
 |e::es,a,h=>by
  obtain⟨m,g,h1,h2,rfl⟩:=bI h;obtain⟨i,_,c⟩:=b e m h1;obtain⟨j,k⟩:=bN b h2;refine⟨λΦ=>xg (i Φ) (j Φ) (bW c),λz hz=>?_⟩
  rcases List.mem_cons.mp hz with rfl|hz
  .exact c
  .exact k z hz
theorem xY(G:GoodO X κ T k sc N){x:Str}{pos:Pos}{m:EM}(h:n9 T sc N x=some m):jk X κ (.Name x pos) m:=by
 unfold n9 at h;split at h
 .rename_i i q
  cases h;obtain⟨c,e,a,f⟩:=tm q;exact bJ (λg=>zX (by rw[G.names];exact c) (by rw[G.scope];exact e) a f) rfl (λ_=>rfl)
 .split at h
  .rename_i b
   simp only[Bool.and_eq_true]at b;obtain⟨d,a,rfl⟩:=cm h;obtain⟨v,u,j,l,n⟩:=G.cst x d a;obtain⟨o,p,r⟩:=tp b.2;exact bJ (λg=>xf (za (G.gl b.1) j l o) n) rfl (λ_=>rfl)
  .cases h
theorem vC{q:Const}{j:Nat}{pos:Pos}{m:EM}(h:la q=some m):jk X κ (.Constant q j pos) m:=by
 cases q<;>simp only[la]at h<;>cases h
 .exact bJ (λa=>jT CG rfl) rfl (λ_=>rfl)
 .exact bJ (λa=>jT Fe rfl) rfl (λ_=>rfl)
 .exact bJ (λa=>jT vQ rfl) rfl (λ_=>rfl)
 .exact bJ (λa=>jT qI rfl) rfl (λ_=>rfl)
theorem qf{op:BoolOp}{pos:Pos}(c:∀e m,f e=some m->jk X κ e m):∀{es:List Expr}{m:EM},iL f op es=some m->(∀Φ,bt X κ Φ (.BoolOp op es pos) m)/\(∀Φ,B8 X κ Φ (.BoolOp op es pos) m)
 |[],m,h=>by cases h
 |[a],m,h=>by
  obtain⟨p1,p2,p3⟩:=c a m h;exact⟨λΦ=>vf (p1 Φ),λΦ=>Aj (p2 Φ)⟩
 |a::b::r,m,h=>by
  simp only[iL]at h;obtain⟨i,l,j,k,rfl⟩:=bI h;obtain⟨p1,p2,p3⟩:=c a i j;obtain⟨d,g⟩:=qf c k;cases op with
  |And=>exact⟨λΦ=>Ag (p1 Φ) (d Φ),λΦ=>Ak (p2 Φ) (g Φ)⟩
  |Or=>exact⟨λΦ=>Ds (p1 Φ) (d Φ),λΦ=>Dt (p2 Φ) (g Φ)⟩
theorem qh(b:∀e m,f e=some m->jk X κ e m){o:Option Expr}{n:Bool}{m:EM}{Φ:e8}(h:rS f o=some (n,m)):Jo X κ Φ o n m:=by
 cases o with
 |none=>cases h;exact .inl ⟨rfl,rfl⟩
 |some e=>
  obtain⟨a,c,d⟩:=cm h;cases d;exact .inr ⟨e,rfl,rfl,(b e m c).1 Φ⟩
theorem AV{m:Str}{n:Nat}{b:BM}(h:DH m n=some b):m=b.nm/\n=b.ar:=by
 have:=List.find?_some h;simp only[Bool.and_eq_true,beq_iff_eq]at this;exact⟨this.1.symm,this.2.symm⟩
theorem dC{o:Expr}{n:Str}{env:Env}(h:dO o=true):attributeBase o n env (eval o env)=eval o env:=by
 cases o with
 |Call f a b p=>cases f<;>first|rfl | (cases h)
 |_=>first|rfl | (cases h)
theorem Gn(w:X.A.units+64<cLine)(b:BM){o:Expr}{es:List Expr}{t:EM}{u:AM}{p1 p2:Pos}{Φ:e8}(j:dO o=true)(k:(p1.endLine==p2.line)=true)(l:es.length=b.ar)(n:bt X κ Φ o t)(y:cK f es=some u)(z:∀e m,f e=some m->jk X κ e m) :
  bt X κ Φ (.Call (.Attribute o b.nm p1) es [] p2) (cE b.ty b.f t u):=by
 obtain⟨i,p⟩:=bN z y;have i:=i Φ;cases b with
 |append=>
  match es,l with
  |[e],_=>exact hY PySem.F.plainAttrs_list PySem.F.slot_list_append PySem.F.type_list_append mj (λx v a Z c H S r h=>kU S r h) (λx v q s a Z c H Q S r d g=>vm S r d g) (dC j) k n i p (by simp)
 |qb=>
  match es,l with
  |[e],_=>exact hY PySem.F.plainAttrs_list PySem.F.slot_list_pop PySem.F.type_list_pop wk (λx v a Z c H S r h=>kU S r h) (λx v q s a Z c H Q S r d g=>xn S r d g) (dC j) k n i p (by simp)
 |insert=>
  match es,l with
  |[e,B],_=>exact hY PySem.F.plainAttrs_list PySem.F.slot_list_insert PySem.F.type_list_insert u9 (λx v a Z c H S r h=>kU S r h) (λx v q s a Z c H Q S r d g=>vn S r d g) (dC j) k n i p (by simp)
 |extend=>
  match es,l with
  |[e],_=>exact hY PySem.F.plainAttrs_list PySem.F.slot_list_extend PySem.F.type_list_extend uP (λx v a Z c H S r h=>kU S r h) (λx v q s a Z c H Q S r d g=>vo S r d g) (dC j) k n i p (by simp)
 |index=>
  match es,l with
  |[e],_=>exact hY PySem.F.plainAttrs_list PySem.F.slot_list_index PySem.F.type_list_index (wW w) (λx v a Z c H S r h=>kU S r h) (λx v q s a Z c H Q S r d g=>xo S r d g) (dC j) k n i p (by simp)
 |join=>
  match es,l with
  |[e],_=>exact hY PySem.F.plainAttrs_str PySem.F.slot_str_join PySem.F.type_str_join zQ (λx v a Z c H S r h=>tI S r h) (λx v q s a Z c H Q S r d g=>Ay S r d g) (dC j) k n i p (by simp)
theorem tR{o:Expr}{m:Str}{a pos:Pos}{es:List Expr}{env:Env}(d:attributeBase o m env (eval o env)=eval o env)(g:∀e∈es,isStar e=false)(c:es.length<20)(h:(a.endLine==pos.line)=true) :
  eval (.Call (.Attribute o m a) es [] pos) env=(do
   let b ←eval o env
   standAt a.atName
   let (f,first) ←holding [b] (getMethod b m (do let l ←importBound o env;pure (l.getD true)))
   callWith pos f first (backTo pos (starEach es env)) (backToKw pos (keywordEach [] env))):=by
 have i:methodCallForm (es.length+([]:List Keyword).length) (backTo pos (starEach es env)) (backToKw pos (keywordEach [] env))=true:=by
  unfold methodCallForm;rw[rK g,decide_eq_true (by show es.length+0+0<30;omega)];rfl
 have j:eval (.Call (.Attribute o m a) es [] pos) env=(do
   let b ←attributeBase o m env (eval o env)
   standAt a.atName
   methodCall o m a pos env b (es.length+([]:List Keyword).length) (backTo pos (starEach es env)) (backToKw pos (keywordEach [] env))):=by rfl
 rw[j,d];unfold methodCall calleeOf methodCallPos;rw[i];simp only[if_true,Bool.not_true,Bool.false_or,h];rfl
theorem h_(b:cD k X.A){o:Expr}{m:Str}{es:List Expr}{p:EM}{r:AM}{p1 p2:Pos}{Φ:e8}(c:dO o=true)(d:(p1.endLine==p2.line)=true)(a:es.length<20)(g:bt X κ Φ o p)(i:cK f es=some r)(s:∀e m,f e=some m->jk X κ e m):∀{t:List (Str×Str×aR)}{x:EM},(∀m C F,(m,C,F)∈t->tP X κ k C m F)->gD p r m t=some x->bt X κ Φ (.Call (.Attribute o m p1) es [] p2) x
 |[],x,_,h=>by cases h
 | (j,C,F)::t,x,l,h=>by
  obtain⟨u,n⟩:=bN s i;simp only[gD]at h;split at h
  .rename_i w
   obtain rfl:=eq_of_beq w
   have one:bt X κ Φ (.Call (.Attribute o j p1) es [] p2) (aC C j F p r):=by
    cases es with
    |nil=>cases i;exact vv (l j C F (by simp)) b g (tR (dC c) n a d)
    |cons e es=>exact xE (l j C F (by simp)) b g (u Φ) (bW (n e (by simp))) (bX λz B=>n z (by simp[B])) (tR (dC c) n a d)
   split at h
   .rename_i y D
    cases h;exact one.alt (h_ b c d a g i s (λm C F q=>l m C F (by simp[q])) D)
   .cases h;exact one
  .exact h_ b c d a g i s (λm C F q=>l m C F (by simp[q])) h
theorem xZ(G:GoodO X κ T k sc N){o:Expr}{m:Str}{es:List Expr}{d:EM}{g:AM}{p1 p2:Pos}{Φ:e8}{x:EM}(l:dO o=true)(n:(p1.endLine==p2.line)=true)(a:es.length<20)(p:bt X κ Φ o d)(q:cK f es=some g)(r:∀e m,f e=some m->jk X κ e m)
  (h:n_ T m es.length d g=some x):bt X κ Φ (.Call (.Attribute o m p1) es [] p2) x:=by
 have one:∀b,DH m es.length=some b->bt X κ Φ (.Call (.Attribute o m p1) es [] p2) (cE b.ty b.f d g):=λb j=>by
  obtain⟨rfl,t⟩:=AV j;exact Gn G.hu b l n t p q r
 have c:∀y,gD d g m T.met=some y->bt X κ Φ (.Call (.Attribute o m p1) es [] p2) y:=λy u=>h_ G.room l n a p q r G.met u
 unfold n_ at h;split at h
 .rename_i b y i s
  cases h;exact(one b i).alt (c y s)
 .rename_i b i s
  cases h;exact one b i
 .rename_i i
  exact c x h
theorem x8(G:GoodO X κ T k sc N){o:Expr}{m:Str}{es:List Expr}{b:EM}{c:AM}{p1 p2:Pos}{Φ:e8}{x:EM}(d:dO o=true)(i:(p1.endLine==p2.line)=true)(a:es.length<20)(j:bt X κ Φ o b)(l:cK f es=some c)(n:∀e m,f e=some m->jk X κ e m)
  (h:jU T m es.length b c=some x):bt X κ Φ (.Call (.Attribute o m p1) es [] p2) x:=by
 unfold jU at h;split at h
 .rename_i y s
  have p:=xZ (p1:=p1) (p2:=p2) G d i a j l n s;split at h
  .rename_i q
   simp only[Bool.and_eq_true,beq_iff_eq]at q;obtain⟨rfl,t⟩:=q;cases h;refine p.alt ?_;obtain⟨u,w⟩:=bN n l
   match es,t with
   |[e],_=>exact hY PySem.F.plainAttrs_str PySem.F.slot_str_index PySem.F.type_str_index va (λx v z Z A H S r h=>tI S r h) (λx v C D z Z A H Q S r B g=>AL S r B g) (dC d) i j (u Φ) w (by simp)
  .cases h;exact p
 .cases h
theorem x9(G:GoodO X κ T k sc N)(q:∀e m,f e=some m->jk X κ e m){x:Str}{args:List Expr}{m:EM}{p pos:Pos}(h:oa T sc f x args=some m):jk X κ (.Call (.Name x p) args [] pos) m:=by
 refine bJ (λr=>?_) rfl (λ_=>rfl)
 unfold oa at h;split at h
 .rename_i u
  simp only[Bool.and_eq_true]at u;obtain⟨s,D,E⟩:=tp u.2;have n:=G.gl u.1;split at h
  .rename_i F o
   obtain⟨t,d,rfl⟩:=cm h;obtain⟨i,c⟩:=bN q d;cases args with
   |nil=>cases d;exact vu (G.fn x F o) G.room n s
   |cons a args=>exact xD (G.fn x F o) G.room n s (bW (c a (by simp))) (bX λz l=>c z (by simp[l])) (i r)
  .rename_i F _ o
   split at h
   .cases h
   .rename_i g
    obtain⟨t,d,rfl⟩:=cm h;obtain⟨i,c⟩:=bN q d;cases args with
    |nil=>exact absurd rfl g
    |cons a args=>exact vg (G.lK x F o) G.room n s (bW (c a (by simp))) (bX λz l=>c z (by simp[l])) (i r)
  .rename_i F _ _ o
   obtain⟨t,d,rfl⟩:=cm h;obtain⟨i,c⟩:=bN q d;obtain⟨j,w,M⟩:=G.cls x F o;cases args with
   |nil=>cases d;exact xG M (G.room.mono w) n s
   |cons a args=>exact AI M (G.room.mono w) n s (bW (c a (by simp))) (bX λz l=>c z (by simp[l])) (i r)
  .rename_i b _ _ _ y
   split at h
   .cases h
   .rename_i g
    obtain⟨t,d,rfl⟩:=cm h;obtain⟨i,c⟩:=bN q d;obtain⟨rfl,A,B⟩:=AS y;cases args with
    |nil=>exact absurd rfl g
    |cons a args=>exact Aw G.calm A n (G.eo _ B) (bW (c a (by simp))) (bX λz l=>c z (by simp[l])) (i r)
  .split at h
   .rename_i C
    obtain rfl:=eq_of_beq C;split at h
    .cases h
    .rename_i g
     obtain⟨t,d,rfl⟩:=cm h;obtain⟨i,c⟩:=bN q d;cases args with
     |nil=>exact absurd rfl g
     |cons a args=>exact xm G.calm n (G.eo _ (by decide)) (bW (c a (by simp))) (bX λz l=>c z (by simp[l])) (i r)
   .cases h
 .cases h
theorem x_(G:GoodO X κ T k sc N)(b:∀e m,f e=some m->jk X κ e m){x:Str}{args:List Expr}{m:EM}{p pos:Pos}(h:jV T sc N f x args=some m):jk X κ (.Call (.Name x p) args [] pos) m:=by
 unfold jV at h;cases a:mD sc N x with
 |none=>rw[a]at h;exact x9 G b h
 |some i=>
  rw[a]at h;cases h
theorem AW(G:GoodO X κ T k sc N)(d:∀e m,f e=some m->jk X κ e m){x:Str}{args:List Expr}{m:EM}{p pos:Pos}(h:xV sc f x args=some m):jk X κ (.Call (.Name x p) args [] pos) m:=by
 unfold xV at h;split at h
 .rename_i b
  simp only[Bool.and_eq_true,beq_iff_eq]at b;obtain⟨rfl,g⟩:=b;split at h
  .rename_i a i j l
   obtain⟨rfl,n,o⟩:=vB l;obtain⟨q,r,rfl⟩:=cm h;obtain⟨s,_,t⟩:=d a q r;exact bJ (λu=>Ax (G.gl g) (G.eo _ (by decide)) (G.gl n) (G.eo _ o) (bW t) (bX (es:=[Expr.Name i.nm j]) λz c=>by simp at c;subst c;rfl) (s u)) rfl (λ_=>rfl)
  .cases h
 .cases h
theorem DJ(G:GoodO X κ T k sc N)(i:∀e m,f e=some m->jk X κ e m){x:Str}{args:List Expr}{m:EM}{p pos:Pos}(h:DI sc f x args=some m):jk X κ (.Call (.Name x p) args [] pos) m:=by
 unfold DI at h;split at h
 .rename_i a b o c
  obtain⟨rfl,q,rfl⟩:=xQ c;split at h
  .rename_i d
   simp only[Bool.and_eq_true]at d;obtain⟨r,j,rfl⟩:=cm h;obtain⟨l,g⟩:=bN i j;exact bJ (λn=>xP G.calm (G.gl d.1) (G.eo _ (by decide)) (G.gl d.2) (G.eo _ (by decide)) (l n) (bW (g a (by simp))) (bX λz c=>g z (by simp[c]))) rfl (λ_=>rfl)
  .cases h
 .cases h
theorem AX(G:GoodO X κ T k sc N)(a:∀e m,f e=some m->jk X κ e m){x:Str}{args:List Expr}{m:EM}{p pos:Pos}(h:lj sc f x args=some m):jk X κ (.Call (.Name x p) args [] pos) m:=by
 unfold lj at h;split at h
 .rename_i b;cases h;exact AW G a b
 .exact DJ G a h
theorem lp(G:GoodO X κ T k sc N)(j:∀e m,f e=some m->jk X κ e m){iter:Expr}{mi:IM}(h:gZ f sc iter=some mi):∀Φ l,vp X κ Φ l iter mi:=by
 intro Φ l
 have dflt:∀{mi},(f iter).map bG=some mi->vp X κ Φ l iter mi:=λ{mi} h=>by
  obtain⟨m,d,rfl⟩:=cm h;exact AA ((j iter m d).1 Φ)
 unfold gZ at h;split at h
 .rename_i g p args q
  split at h
  .rename_i r
   obtain rfl:=eq_of_beq r;split at h
   .rename_i o
    split at h
    .rename_i a
     obtain⟨s,d,rfl⟩:=cm h;obtain⟨n,i⟩:=bN j d;exact xr (G.gl o) (G.eo _ (by decide)) (n Φ) (by rw[bW (i a (by simp))];rfl)
    .rename_i a b c
     obtain⟨s,d,rfl⟩:=cm h;obtain⟨n,i⟩:=bN j d;exact xS (G.gl o) (G.eo _ (by decide)) (n Φ) (bW (i a (by simp))) (bX λz t=>i z (by simp[t]))
    .cases h
   .cases h
  .exact dflt h
 .exact dflt h
end
section
variable{X:Cx}{κ:Str->Addr->Prop}{Φ:e8}{o:Expr}{mo:EM}{pos tpos cpos:Pos}
def mP(Cs:List Str)(f:Str)(d:EM)(n:Int):SM:=λc e=>cq (d c e) λx a=>match nX a x with
 |some (k,C,b)=>if Cs.contains C&&decide (b.length<1000)then (match b.lookup f with
  |some (.int i)=>.nx c (a.set k (.ins C (iJ f (.int (i+n)) b)))
  |_=>.bad)else .bad
 |none=>.bad
theorem ya{f:Str}{Cs:List Str}{n:Int}{j:Nat}(A:hZ X.K κ Cs f)(B:bt X κ Φ o mo):nW X κ Φ (.AugAssign (.Attribute o f tpos) .Add (.Constant (.int n) j cpos) pos) (mP Cs f mo n):=by
 intro l D F G I;refine PS.imp (uJ (B l D F G I) vQ C4) ?_;rintro E J H ⟨L,Z,S,f⟩;refine⟨L,Z,S,eg.use S f λx M w N e s _ g2 m O b=>?_⟩
 split at b
 .rename_i k C P Q
  obtain⟨a,g,h,d,rfl,rfl,T,t,p,q⟩:=gn m.st O Q;split at b
  .rename_i r
   simp only[Bool.and_eq_true,decide_eq_true_eq]at r;obtain⟨U,V⟩:=A C g r.1 t;split at b
   .rename_i i Y
    obtain⟨v,hv,y⟩:=(fy q).1 _ Y;simp only[ak]at y;subst y;have ry:ak e s N (.int (i+n)) (.int (i+n)):=by simp only[ak]
    obtain⟨s3,g3⟩:=m.st.put (o:=.ins g h (eP _ (.int (i+n)) d)) (c:=.ins C (iJ _ (.int (i+n)) P)) T (λo u z=>by rw[p]at z;cases z) λR hR=>⟨g,h,_,t,aN,(pW ry q).imp hR⟩
    exact⟨a,g,h,d,.int i,rfl,p,U,V,hv,i,n,rfl,rfl,h,d,p,by rw[eQ.length q];exact r.2,b J _ e s (m.grow g3 s3)⟩
   .exact b.elim
  .exact b.elim
 .exact b.elim
def tT(a:Expr)(op:Operator)(v:Expr):Option (Expr×Str×Int):=match a,op,v with
 |.Attribute o f _,.Add,.Constant (.int n) _ _=>some (o,f,n)
 |_,_,_=>none
theorem vD{a v:Expr}{op:Operator}{f:Str}{n:Int}(h:tT a op v=some (o,f,n)):∃p j q,a=.Attribute o f p/\op=.Add/\v=.Constant (.int n) j q:=by
 unfold tT at h;split at h
 .cases h;exact⟨_,_,_,rfl,rfl,rfl⟩
 .cases h
end
section
variable{κ:Str->Addr->Prop}{T:aM}{k:Nat}
theorem AY{X:Cx}{c:Scope}{N:List Str}(G:GoodO X κ T k c N){scope:Scope}{x:Str}{cap:List Nat}(f:w8 scope c x=true)(m:rj c N (dr scope)=some cap) :
  jq X scope [x] (dr scope) cap/\scope.names.lookup x=some .local/\([x]++dr scope).Nodup:=by
 simp only[w8,Bool.and_eq_true,decide_eq_true_eq,List.all_eq_true,Bool.not_eq_true',beq_iff_eq,Bool.or_eq_true]at f;obtain⟨⟨⟨⟨⟨n,o⟩,p⟩,r⟩,s⟩,t⟩:=f;obtain⟨u,w⟩:=w_ m
 have g:∀y∈scope.names,y.2=.free->(c.names.lookup y.1=some .cell\/c.names.lookup y.1=some .free)/\scope.names.lookup y.1=some .free:=λy a b=>by
  rcases r y a with q|q
  .rw[b]at q;exact absurd q (by decide)
  .exact q
 refine⟨⟨n,λy a b=>?_,λy a b=>?_,λy a b=>?_,u,λj i z h A=>?_⟩,s,t⟩
 .have:=o y a
  rw[b]at this;exact absurd this (by decide)
 .rcases p y a with q|q
  .rw[b]at q;exact absurd q (by decide)
  .exact q
 .have:=(g y a b).1
  show X.env.scope.names.lookup y.1=_\/X.env.scope.names.lookup y.1=_
  rw[G.scope];exact this
 .refine⟨by rw[G.names];exact w j i z h A,?_⟩
  have l:z∈dr scope:=List.mem_of_getElem? h;unfold dr at l;obtain⟨y,a,rfl⟩:=List.mem_map.mp l;obtain⟨d,e⟩:=List.mem_filter.mp a;exact(g y d (by simpa using e)).2
theorem lr{T:aM}{a:Scope}{N:List Str}{n:Nat}{b:Expr}{gens:List Comprehension}{scope:Scope}{pos:Pos}{m:EM}{P:Prop}(e:kH gens=none)(h:cp T (n+1) a N (.ListComp b gens scope pos)=some m):P:=by
 replace h:(match kH gens with
   |some (x,_,iter,c)=>if (w8 scope a x&&!isSet iter)=true then (match rj a N (dr scope),gZ (cp T n a N) a iter,cp T n (ri scope a) (x::dr scope) b,xW (cp T n (ri scope a) (x::dr scope)) c with
    |some d,some f,some g,some (i,j)=>some (cJ g i j f 0 d)
    |_,_,_,_=>none)else none
   |none=>none)=some m:=h
 rw[e]at h;cases h
theorem jy{n:Nat}(o:∀(X:Cx) (f:Scope) (N:List Str) (e:Expr) (m:EM),GoodO X κ T k f N->cp T n f N e=some m->jk X κ e m){X:Cx}{f:Scope}{N:List Str}(G:GoodO X κ T k f N){scope:Scope}{x:Str}{iter i:Expr}{g:List Expr}{q pos:Pos}{m:EM}
  (h:cp T (n+1) f N (.ListComp i [⟨.Name x q,iter,g,0⟩] scope pos)=some m):∃me nc mc mi cap,m=cJ me nc mc mi 0 cap/\jq X scope [x] (dr scope) cap/\scope.names.lookup x=some .local/\([x]++dr scope).Nodup /\
   (∀z,foldedSetIterable iter X.env z=pure z)/\(∀Φ,vp X κ Φ (.Name x q) iter mi) /\
   ∀l C b d fp,((g=[]/\nc=true)\/∃c,g=[c]/\nc=false/\gb (blk X scope l C ([x]++dr scope) b d fp) κ qG c mc)/\bt (blk X scope l C ([x]++dr scope) b d fp) κ qG i me:=by
 replace h:(if (w8 scope f x&&!isSet iter)=true then (match rj f N (dr scope),gZ (cp T n f N) f iter,cp T n (ri scope f) (x::dr scope) i,xW (cp T n (ri scope f) (x::dr scope)) g with
    |some cap,some mi,some me,some (nc,mc)=>some (cJ me nc mc mi 0 cap)
    |_,_,_,_=>none)else none)=some m:=h
 split at h
 .rename_i p
  simp only[Bool.and_eq_true,Bool.not_eq_true']at p;split at h
  .rename_i cap mi me nc mc t u w j
   cases h;obtain⟨y,A,B⟩:=AY G p.1 t;refine⟨me,nc,mc,mi,cap,rfl,y,A,B,kI p.2,λΦ=>lp G (o X f N · · G) u Φ _,λl C b d fp=>?_⟩
   have r:=G.blk scope l C ([x]++dr scope) b d fp;refine⟨?_,(o _ _ _ i me r w).1 qG⟩
   match g,j with
   |[],j=>cases j;exact .inl ⟨rfl,rfl⟩
   |[s],j=>
    obtain⟨a,D,E⟩:=cm j;cases E;exact .inr ⟨s,rfl,rfl,(o _ _ _ s mc r D).2.1 qG⟩
  .cases h
 .cases h
theorem rV:∀(n:Nat) (X:Cx) (u:Scope) (N:List Str) (e:Expr) (m:EM),GoodO X κ T k u N->cp T n u N e=some m->jk X κ e m:=by
 intro n
 induction n with
 |zero=>intro X u N e m G h;cases h
 |succ n Y=>
  intro X u N e m G h;have g:∀e m,cp T n u N e=some m->jk X κ e m:=λe m q=>Y X u N e m G q
  cases e with
  |Name x pos=>exact xY G h
  |Constant c j pos=>exact vC h
  |BinOp a op b pos=>
   obtain⟨A,D,l,z,rfl⟩:=bI h;exact bJ (λd=>z8 ((g a A l).1 d) ((g b D z).1 d)) rfl (λ_=>rfl)
  |UnaryOp op a pos=>
   cases op with
   |USub=>
    obtain⟨A,l,rfl⟩:=cm h;exact bJ (λd=>z9 ((g a A l).1 d)) rfl (λ_=>rfl)
   |Not=>
    obtain⟨A,l,rfl⟩:=cm h;exact⟨λd=>Ah ((g a A l).1 d),λd=>Ai ((g a A l).2.1 d),rfl⟩
   |_=>cases h
  |BoolOp op F pos=>
   match F,h with
   |a::b::r,h=>
    obtain⟨q1,q2⟩:=qf (pos:=pos) g (show iL (cp T n u N) op (a::b::r)=some m from h)
    exact⟨q1,λd=>(q2 d).pt,rfl⟩
   |[_],h=>cases h
   |[],h=>cases h
  |Compare a Q cs pos=>
   match Q,cs,h with
   |[op],[b],h=>
    replace h:(if isSet b=true then none else o2 (cp T n u N a) (cp T n u N b) (m2 (aG op)))=some m:=h
    split at h
    .cases h
    .rename_i R
     obtain⟨A,D,l,z,rfl⟩:=bI h;have H:=pD (op:=op) (b:=b) (by simpa using R)
     exact⟨λd=>(tF G.hu H ((g a A l).1 d) ((g b D z).1 d)).1,λd=>(tF G.hu H ((g a A l).1 d) ((g b D z).1 d)).2,rfl⟩
   |[op,E],[b,L],h=>
    replace h:(if isSet L=true then none else o2 (cp T n u N a) (o2 (cp T n u N b) (cp T n u N L) Prod.mk) λx y=>kM op E x y.1 y.2)=some m:=h
    split at h
    .cases h
    .rename_i R
     obtain⟨A,a0,l,B,rfl⟩:=bI h;obtain⟨D,mc,z,C,rfl⟩:=bI B;have H:lastMarks [op,E] [b,L]=false:=pD (op:=E) (b:=L) (by simpa using R)
     exact⟨λd=>An G.hu H ((g _ _ l).1 d) ((g _ _ z).1 d) ((g _ _ C).1 d),λd=>Ao G.hu H ((g _ _ l).1 d) ((g _ _ z).1 d) ((g _ _ C).1 d),rfl⟩
   |[],_,h=>cases h
   |[_],[],h=>cases h
   |[_],_::_::_,h=>cases h
   |[_,_],[],h=>cases h
   |[_,_],[_],h=>cases h
   |[_,_],_::_::_::_,h=>cases h
   |_::_::_::_,[],h=>cases h
   |_::_::_::_,[_],h=>cases h
   |_::_::_::_,_::_::_,h=>cases h
  |IfExp t a b pos=>
   obtain⟨mt,b0,l,B,rfl⟩:=bI h;obtain⟨A,D,z,C,rfl⟩:=bI B;exact⟨λd=>Al ((g _ _ l).2.1 d) ((g _ _ z).1 d) ((g _ _ C).1 d),λd=>Am ((g _ _ l).2.1 d) ((g _ _ z).2.1 d) ((g _ _ C).2.1 d),rfl⟩
  |Subscript a s pos=>
   have S:∀b,isSlice b=false->o2 (cp T n u N a) (cp T n u N b) (m2 aF)=some m->jk X κ (.Subscript a b pos) m:=λb U h=>by
    obtain⟨A,D,l,z,rfl⟩:=bI h;refine bJ (λd=>Ab (by have:=G.hu;omega) (λo i=>?_) ((g _ _ l).1 d) ((g _ _ z).1 d)) rfl (λ_=>rfl)
    cases b<;>first|rfl | (cases U)
   cases s with
   |Slice lo I st p2=>
    cases st with
    |none=>
     obtain⟨A,c0,l,B,rfl⟩:=bI h;obtain⟨⟨nl,ml⟩,⟨nh,mh⟩,z,C,rfl⟩:=bI B;exact bJ (λd=>Ae ((g _ _ l).1 d) (qh g z) (qh g C)) rfl (λ_=>rfl)
    |some e=>
     cases lo with
     |none=>
      cases I with
      |none=>
       exact nomatch (show(none:Option EM)=some m from h)
      |some _=>exact nomatch (show(none:Option EM)=some m from h)
     |some _=>exact nomatch (show(none:Option EM)=some m from h)
   |_=>exact S _ rfl h
  |List es pos=>
   obtain⟨M,l,rfl⟩:=cm h;exact bJ (λd=>zZ ((bN g l).1 d)) rfl (λ_=>rfl)
  |Tuple es j pos=>
   obtain⟨M,l,rfl⟩:=cm h;exact bJ (λd=>z7 ((bN g l).1 d)) rfl (λ_=>rfl)
  |Attribute o f pos=>
   replace h:(if dO o=true then o2 (T.fld.lookup f) (cp T n u N o) λV m=>m1 (aW V f) m else none)=some m:=h
   split at h
   .rename_i U
    obtain⟨V,J,l,z,rfl⟩:=bI h;exact bJ (λd=>AH (G.fld f V l) (dC U) ((g o J z).1 d)) rfl (λ_=>rfl)
   .cases h
  |Call f args K pos=>
   cases f with
   |Name x p=>
    cases K with
    |nil=>
     replace h:(match lj u (cp T n u N) x args with|some m=>some m|none=>jV T u N (cp T n u N) x args)=some m:=h
     cases I:lj u (cp T n u N) x args with
     |some m'=>
      rw[I]at h;cases h;exact AX G g I
     |none=>
      rw[I]at h;exact x_ G g h
    |cons _ _=>cases h
   |Attribute o mm Z=>
    cases K with
    |nil=>
     replace h:(if (Z.endLine==pos.line&&dO o&&decide (args.length<20))=true then (match cp T n u N o,cK (cp T n u N) args with
   |some J,some M=>jU T mm args.length J M
   |_,_=>none)else none)=some m:=h
     split at h
     .rename_i O
      simp only[Bool.and_eq_true,decide_eq_true_eq]at O;split at h
      .rename_i J M l z
       exact bJ (λd=>x8 G O.1.2 O.1.1 O.2 ((g o J l).1 d) z g h) rfl (λ_=>rfl)
      .cases h
     .cases h
    |cons _ _=>cases h
   |_=>cases h
  |ListComp e0 gens scope pos=>
   cases hg:kH gens with
   |none=>exact lr hg h
   |some q=>
    obtain⟨x,px,iter,f0⟩:=q;obtain rfl:=mE hg;obtain⟨me,nc,mc,mi,g0,rfl,b1,b2,b3,b4,b5,b6⟩:=jy (λX u N e m G q=>Y X u N e m G q) G h
    exact bJ (λd=>xu G.calm b1 b4 (b5 d) b2 b3 b6) rfl (λ_=>rfl)
  |Dict P F pos=>
   replace h:(if emptyDict P F=true then some bY else (match AU P F with
   |some (k,v)=>o2 (cp T n u N k) (cp T n u N v) eM
   |none=>(match AR P F with
    |some (x,y,v,w)=>o2 (cp T n u N v) (cp T n u N w) (eN x y)
    |none=>none)))=some m:=h
   split at h
   .rename_i hd
    cases h
    match P,F,hd with
    |[],[],_=>exact bJ (λd=>vw) rfl (λ_=>rfl)
   .split at h
    .rename_i k0 v0 l
     obtain⟨rfl,rfl⟩:=xX l;obtain⟨mk,mv,z,C,rfl⟩:=bI h;exact bJ (λd=>rO (by have:=G.hu;omega) ((g _ _ z).1 d) ((g _ _ C).1 d)) rfl (λ_=>rfl)
    .split at h
     .rename_i x y v0 w0 l
      obtain⟨j1,Z,j2,p2,rfl,rfl⟩:=xT l;obtain⟨mv,mw,z,C,rfl⟩:=bI h;exact bJ (λd=>rR ((g _ _ z).1 d) ((g _ _ C).1 d)) rfl (λ_=>rfl)
     .cases h
  |_=>cases h
end
structure gp(X:Cx)(κ:Str->Addr->Prop)(T:aM)(k:Nat)(sc:Scope)(N:List Str):Prop extends GoodO X κ T k sc N where
 own:PassesOwn (model X.prog X.w) X.A X.env X.xe
 QQ:∀x,wX sc x=true->T.fz.contains x=false->(X.fn x=true\/X.env.scope.names.lookup x=some .local)
 vc:N.Nodup
 kind:sc.kind=.function
 CJ:T.xt=false->∀e s,¬ X.xe e s
def fb(f:Stmt->Option SM):List Stmt->Option SM
 |[]=>some ai
 |s::r=>o2 (f s) (fb f r) aj
def og(f:Expr->Option EM)(b:Scope)(iter:Expr):Option IM:=match iter with
 |.Call (.Name g _) [a] [] _=>if g==("enumerate":Str)then (if wY b g then (f a).map pQ else none)else gZ f b iter
 |.Call (.Attribute o c d) [] [] e=>if c==("items":Str)&&d.endLine==e.line&&dO o then (f o).map xp else gZ f b iter
 |_=>gZ f b iter
noncomputable def DK:Expr->Bool
 |.Dict [] [] _=>true
 |_=>false
theorem yb{e:Expr}(h:DK e=true):∃p,e=.Dict [] [] p:=by
 unfold DK at h;split at h
 .exact⟨_,rfl⟩
 .cases h
def lu(T:aM)(a:Scope)(N:List Str)(x:Str):Option Nat:=if T.fz.contains x then none else pE a N x
def lx(T:aM)(a:Scope)(N:List Str)(nms:List (Str×Pos)):Option (List Nat):=if nms.any (λy=>T.fz.contains y.1)then none else kJ a N nms
def rW(T:aM)(td:List Str)(k:Nat)(a:Scope)(N:List Str)(x:Str)(b:Pos)(e:Expr)(pos:Pos):Option SM:=match lu T a N x with
   |some i=>if td.contains x&&DK e then some (aJ i DG)else (match cp T k a N e with
    |some m=>if pF a x b e then (if pos.line==b.line then some (aJ i m)else none)else some (aJ i m)
    |none=>none)
   |none=>none
def rX(T:aM)(k:Nat)(a:Scope)(N:List Str)(es:List Expr)(e:Expr):Option SM:=match eA es with
   |some nms=>match lx T a N nms,cp T k a N e with
    |some b,some m=>if xa e then some (Dz b m)else none
    |_,_=>none
   |none=>none
def jJ(T:aM)(td:List Str)(k:Nat)(d:Scope)(N:List Str):Nat->Stmt->Option SM
 |0,_=>none
 |n+1,st=>match st with
  |.Return none _=>some mM
  |.Return (some e) _=>some (match cp T k d N e with
   |some m=>bP m
   |none=>bz)
  |.Assign [.Name x h] e pos=>rW T td k d N x h e pos
  |.Assign [.Tuple es _ _] e _=>rX T k d N es e
  |.Assign [.Attribute o f _] e _=>if dO o&&!hJ e then o2 (T.fld.lookup f) (o2 (cp T k d N o) (cp T k d N e) Prod.mk) λCs y=>aZ Cs f y.1 y.2 else none
  |.Assign [.Subscript o i _] e _=>if isSlice i||hJ e then none else o2 (cp T k d N o) (o2 (cp T k d N i) (cp T k d N e) Prod.mk) λx y=>dI x y.1 y.2
  |.Expr e _=>if hJ e then none else (cp T k d N e).map ck
  |.If c a b _=>o2 (cp T k d N c) (o2 (fb (jJ T td k d N n) a) (fb (jJ T td k d N n) b) Prod.mk) λx y=>dR x y.1 y.2
  |.While c b [] _=>o2 (cp T k d N c) (fb (jJ T td k d N n) b) rM
  |.For (.Name x _) g b [] _=>if isSet g then none else o2 (lu T d N x) (o2 (gZ (cp T k d N) d g) (fb (jJ T td k d N n) b) Prod.mk) λi y=>eE (du i) y.1 y.2
  |.For (.Tuple es _ _) g b [] _=>if isSet g then none else match eA es with
   |some nms=>o2 (lx T d N nms) (o2 (og (cp T k d N) d g) (fb (jJ T td k d N n) b) Prod.mk) λl y=>eE (iI l) y.1 y.2
   |none=>none
  |.Raise _ _ _=>some bz
  |.AugAssign tg p v _=>(match tT tg p v with
   |some (o,f,j)=>o2 (T.fld.lookup f) (cp T k d N o) λCs m=>mP Cs f m j
   |none=>none)
  |.Try b (_::_) [] [] _=>if T.xt then none else fb (jJ T td k d N n) b
  |_=>none
section
variable{X:Cx}{κ:Str->Addr->Prop}{Φ:e8}{T:aM}{td:List Str}{k:Nat}{sc:Scope}{N:List Str}{α α' hU α1:List Addr}{Z Z' Z0 Z1:Addr->Prop}{Ω au:aD}{H H' H0 H1:Hp}
theorem AZ{es:List Expr}{x1:Nat}{j p pos:Pos}{a:Expr}{m:EM}(hg:Gl X "enumerate")(hm:X.mg "enumerate"=none)(O:starEach [a] X.env=[(false,eval a X.env)])(ha:bt X κ Φ a m) :
  vp X κ Φ (.Tuple es x1 j) (.Call (.Name "enumerate" p) [a] [] pos) (pQ m):=by
 intro r Z0 H0 ρ Ω;refine PI.imp (zP hg hm (gw (ha r Z0 H0 ρ Ω) qS O) O) ?_;rintro σ H R ⟨α,Z,S,g⟩;refine⟨α,Z,S,pP.use g λx s _ v H1 t Z1 g1 l P n=>?_⟩
 have u:∀{b:List Addr}{h:Addr->Prop}{c:aD}{f:Hp}{i:Nat}{v:V}{q:D},bK κ b h c f->ak b h f q v->∀p,f p=none->∃z,cv b h f b z (upd f p (.tup [.int i,v]))/\bK κ b z c (upd f p (.tup [.int i,v]))/\ak b z (upd f p (.tup [.int i,v])) (.tup [.int (0+i:Nat),q]) (.ref p):=λ{b h c f i v q} k A p B=>by
  obtain⟨Q,C⟩:=k.tr (p:=p) (o:=.tup [.int i,v]) B True;simp only[if_true]at Q C;refine⟨Zp h p,C,Q,?_⟩;simp only[ak];refine⟨p,_,rfl,.inr rfl,aN,b9.mpr (.cons ?_ (.one (k.cG C A)))⟩;simp only[ak];simp
 cases E:cV s x with
 |none=>simp only[E]at n;exact n.elim
 |some a0=>
  simp only[E]at n;have F:=P;obtain⟨a,G,rfl,q1,q2⟩:=bO l P E;refine⟨a,rfl,⟨G,ky q1⟩,n _ H1 t Z1 (cv.refl l.has) l ?_⟩;intro b h c f ds g2 k I;obtain⟨J,h2,rfl⟩:=cm I;have r2:=l.cG g2 F;obtain⟨a',K,e,L,T⟩:=bO k r2 h2;cases e;refine⟨λi d hd=>?_,λi U=>by rw[iC]at U;exact⟨K,ky L,by rw[T.length];exact U⟩⟩
  obtain⟨q,M,rfl⟩:=jR J 0 i d hd;obtain⟨v,Y,A⟩:=T.get M;refine⟨⟨K,v,ky L,Y⟩,λy H3 N=>?_⟩
  obtain⟨p,rfl,B,N⟩:=N;obtain⟨w,hw,rfl⟩:=N K (ky L);rw[Y]at hw;cases hw
  exact u k A p B
theorem vE{es:List Expr}{t:Nat}{h p1 p2:Pos}{a:Expr}{m:EM}(w:dO a=true)(y:(p1.endLine==p2.line)=true)(e:bt X κ Φ a m) :
  vp X κ Φ (.Tuple es t h) (.Call (.Attribute a "items" p1) [] [] p2) (xp m):=by
 intro n z A B C;refine PI.imp (xk (dC w) y (e n z A B C)) ?_;rintro M H R ⟨D,Z,S,g⟩;refine⟨D,Z,S,pP.use g λx E _ v N F O P i r f=>?_⟩
 unfold B9 at f;split at f
 .rename_i k
  simp only[ak]at r;obtain⟨a,e,rfl⟩:=r;split at f
  .rename_i j p
   obtain⟨G,d,b,l,s⟩:=i.cell p;rw[e]at d;cases d
   refine⟨a,b,rfl,.inl ⟨l,λo=>?_⟩⟩
   obtain⟨I,J⟩:=i.put (c:=.dF j) (o:=.dJ o (.dK b)) e (λo u q=>by rw[l]at q;cases q) λR K=>⟨o,b,aN,s.imp K⟩
   exact f _ _ _ _ J I (mL e aN)
  .rename_i j p
   obtain⟨G,d,L,b,l,s⟩:=i.cell p;rw[e]at d;cases d
   exact⟨a,b,rfl,.inr ⟨L,l,f _ _ _ _ (cv.refl i.has) i (mL e l)⟩⟩
  .exact f.elim
 .exact f.elim
theorem A7{body:List Stmt}{d:ExceptHandler}{g:List ExceptHandler}{pos:Pos}{b:SM}(i:∀e s,¬ X.xe e s)(j:lS X κ Φ body b):nW X κ Φ (.Try body (d::g) [] [] pos) b:=by
 intro a k l m n pins s o H D I h;refine wpAny_Try_except (wpAny_mono (j a k l m n pins s o H D I h) (λf c q=>?_) λe c q=>absurd q (i e c))
 cases f with
 |next=>exact wpAny_execs_nil q
 |_=>exact q
theorem A8(G:GoodO X κ T k sc N){f:Expr->Option EM}(b:∀e m,f e=some m->jk X κ e m){iter:Expr}{mi:IM}(h:og f sc iter=some mi){es:List Expr}{j:Nat}{l:Pos}:∀Φ,vp X κ Φ (.Tuple es j l) iter mi:=by
 intro Φ;unfold og at h;split at h
 .rename_i g p a n
  split at h
  .rename_i q
   obtain rfl:=eq_of_beq q;split at h
   .rename_i c
    obtain⟨d,e,rfl⟩:=cm h;obtain⟨i,_,r⟩:=b a d e;exact AZ (G.gl c) (G.eo _ (by decide)) (by rw[bW r];rfl) (i Φ)
   .cases h
  .exact lp G b h Φ _
 .rename_i o u i w
  split at h
  .rename_i c
   simp only[Bool.and_eq_true,beq_iff_eq]at c;obtain⟨⟨rfl,s⟩,t⟩:=c;obtain⟨d,e,rfl⟩:=cm h;exact vE t (by simpa using s) ((b o d e).1 Φ)
  .exact lp G b h Φ _
 .exact lp G b h Φ _
theorem vF(G:gp X κ T k sc N){x:Str}{i:Nat}(h:pE sc N x=some i):X.N[i]?=some x/\Loc X.env.scope x:=by
 unfold pE at h;split at h
 .rename_i b
  simp only[Bool.and_eq_true]at b;refine⟨by rw[G.names];exact w9 h,?_⟩
  rw[G.scope];have a:=b.1;unfold wX at a;unfold L2.Loc;split at a
  .rename_i q;exact .inl q
  .rename_i q;exact .inr q
  .cases a
 .cases h
theorem ly{f:Stmt->Option SM}(e:∀s c,f s=some c->nW X κ Φ s c):∀{d:List Stmt}{c:SM},fb f d=some c->lS X κ Φ d c
 |[],c,h=>by cases h;exact AD
 |s::d,c,h=>by
  obtain⟨a,b,h1,h2,rfl⟩:=bI h;exact xv (e s a h1) (ly e h2)
theorem gE(G:gp X κ T k sc N){x:Str}{i:Nat}(h:lu T sc N x=some i):X.N[i]?=some x/\Loc X.env.scope x/\(X.fn x=true\/X.env.scope.names.lookup x=some .local):=by
 unfold lu at h;split at h
 .cases h
 .rename_i d
  obtain⟨a,b⟩:=vF G h;refine⟨a,b,G.QQ x ?_ (by simpa using d)⟩
  unfold pE at h;split at h
  .rename_i c;simp only[Bool.and_eq_true]at c;exact c.1
  .cases h
theorem lA(G:gp X κ T k sc N):∀{nms:List (Str×Pos)}{a:List Nat},(∀y∈nms,T.fz.contains y.1=false)->kJ sc N nms=some a->a.length=nms.length/\∀(j i:Nat) (x:Str×Pos),a[j]?=some i->nms[j]?=some x->X.N[i]?=some x.1/\Loc X.env.scope x.1/\(X.fn x.1=true\/X.env.scope.names.lookup x.1=some .local)
 |[],a,_,h=>by cases h;exact⟨rfl,λj i x e=>by simp at e⟩
 |x::xs,a,d,h=>by
  simp only[kJ,Option.bind_eq_bind]at h;obtain⟨i,h1,h⟩:=Option.bind_eq_some_iff.mp h;obtain⟨f,g,h⟩:=Option.bind_eq_some_iff.mp h;cases h;obtain⟨l,m⟩:=lA G (λy n=>d y (by simp[n])) g
  refine⟨by rw[List.length_cons,List.length_cons,l],λj o y b c=>?_⟩
  cases j with
  |zero=>
   simp at b c;subst b c
   exact gE G (by unfold lu;rw[if_neg (by rw[d x (by simp)];simp)];exact h1)
  |succ j=>exact m j o y (by simpa using b) (by simpa using c)
theorem qj(G:gp X κ T k sc N){es:List Expr}{j:Nat}{p:Pos}{nms:List (Str×Pos)}{a:List Nat}(e:eA es=some nms)(c:lx T sc N nms=some a):PG X (.Tuple es j p) (zg X.K a.length (jc a)):=by
 obtain rfl:=ju e
 have b:(∀y∈nms,T.fz.contains y.1=false)/\kJ sc N nms=some a:=by
  unfold lx at c;split at c
  .cases c
  .rename_i f
   refine⟨λy g=>?_,c⟩
   cases q:T.fz.contains y.1 with
   |false=>rfl
   |true=>exact absurd (List.any_eq_true.mpr ⟨y,g,q⟩) f
 obtain⟨d,h⟩:=lA G b.1 b.2;obtain⟨i,l⟩:=mF X.env nms;exact CM G.calm (mB (nms:=nms) (by rw[G.names];exact G.vc) a nms d h) (by rw[i,d]) l
theorem qk{a:Expr}{gens:List Comprehension}{scope:Scope}{p b:Pos}{x:Str}{l:Nat}(G:gp X κ T k sc N) :
  swapsWith (.ListComp a gens scope p) (some (.Name x b)) l X.env=pure (pF sc x b (.ListComp a gens scope p)):=by
 have c:X.env.blockKind=.function:=by
  show(if X.env.scope.kind.isAnnotationScope=true then ScopeKind.function else X.env.scope.kind)=_
  rw[G.scope,G.kind];rfl
 show pure (X.env.blockKind==.function&&X.env.kindOf x==some .local&&b.line==p.line&&!(scope.names.any λ(n,k)=>n==x&&(k==.local||k==.cell)))=_
 rw[c]
 show pure (true&&X.env.scope.names.lookup x==some .local&&b.line==p.line&&!(scope.names.any λ(n,k)=>n==x&&(k==.local||k==.cell)))=_
 rw[G.scope];rfl
theorem tU(G:gp X κ T k sc N){n i:Nat}{x:Str}{a pos:Pos}{e:Expr}{m:EM}(j:lu T sc N x=some i)(h:cp T n sc N e=some m)(l:pF sc x a e=true->pos.line=a.line):nW X κ Φ (.Assign [.Name x a] e pos) (aJ i m):=by
 obtain⟨d,o,r⟩:=gE G j;have f:X.N.Nodup:=by rw[G.names];exact G.vc
 have E:=rV n X sc N e m G.toGoodO h;have plain:swapsWith e (some (.Name x a)) pos.line X.env=pure false->nW X κ Φ (.Assign [.Name x a] e pos) (aJ i m):=λq=>tL f d o r q (E.1 Φ)
 cases e with
 |ListComp c gens scope p=>
  cases b:pF sc x a (.ListComp c gens scope p)with
  |false=>exact plain (by rw[qk G,b])
  |true=>
   cases n with
   |zero=>cases h
   |succ n=>
   cases g:kH gens with
   |none=>exact lr g h
   |some q=>
    obtain⟨y,D,iter,s⟩:=q;obtain rfl:=mE g;obtain⟨F,H,I,J,cap,rfl,t,u,w,z,A,B⟩:=jy (λX sc N e m G q=>rV n X sc N e m G q) G.toGoodO h
    have C:X.env.scope.names.lookup x=some .local:=by
     rw[G.scope];unfold pF at b;simp only[Bool.and_eq_true,beq_iff_eq]at b;exact b.1.1
    exact xx f d C (by rw[qk G,b]) G.calm t z (jr 1 (by decide)) (kX (cap:=cap) (A Φ) u w B) (l b)
 |SetComp=>cases n<;>cases h
 |DictComp=>cases n<;>cases h
 |_=>exact plain rfl
theorem rY{e:Expr}{t:Option Expr}{l:Nat}{env:Env}(h:hJ e=false):swapsWith e t l env=pure false:=by
 cases e<;>first|rfl | (cases h)
theorem A9(G:gp X κ T k sc N):∀(n:Nat) (d:Nat) (st:Stmt) (c:SM),jJ T td d sc N n st=some c->nW X κ Φ st c:=by
 intro n d;have E:∀e m,cp T d sc N e=some m->jk X κ e m:=λe m q=>rV d X sc N e m G.toGoodO q
 induction n with
 |zero=>intro st c h;cases h
 |succ n ih=>
  intro st c h;have B:∀J c,fb (jJ T td d sc N n) J=some c->lS X κ Φ J c:=λJ c q=>ly ih q
  have U:X.N.Nodup:=by rw[G.names];exact G.vc
  cases st with
  |Return v l=>
   cases v with
   |none=>cases h;exact xw
   |some e=>
    replace h:some (match cp T d sc N e with
   |some m=>bP m
   |none=>bz)=some c:=h
    cases h;split
    .rename_i m g
     exact AE ((E e m g).1 Φ)
    .exact mO
  |Assign ts e l=>
   cases ts with
   |nil=>cases h
   |cons t r=>
   cases r with
   |cons t2 r=>cases t<;>cases h
   |nil=>
   cases t with
   |Name x V=>
    replace h:rW T td d sc N x V e l=some c:=h;unfold rW at h;split at h
    .rename_i i K
     split at h
     .rename_i Y
      cases h;simp only[Bool.and_eq_true]at Y;obtain⟨pd,rfl⟩:=yb Y.2;obtain⟨L,M,O⟩:=gE G K;exact tL U L M O rfl vx
     .split at h
      .rename_i m Z
       split at h
       .split at h
        .rename_i u hl
         cases h;exact tU G K Z λ_=>eq_of_beq hl
        .cases h
       .rename_i u
        cases h;exact tU G K Z λq=>absurd q u
      .cases h
    .cases h
   |Tuple P j p=>
    replace h:rX T d sc N P e=some c:=h;unfold rX at h;split at h
    .rename_i nms Q
     split at h
     .rename_i F m g s
      split at h
      .rename_i hp
       cases h;exact AG (qj G Q g) hp ((E e m s).1 Φ)
      .cases h
     .cases h
    .cases h
   |Attribute o f p=>
    replace h:(if (dO o&&!hJ e)=true then o2 (T.fld.lookup f) (o2 (cp T d sc N o) (cp T d sc N e) Prod.mk) λA y=>aZ A f y.1 y.2 else none)=some c:=h
    split at h
    .rename_i C
     simp only[Bool.and_eq_true,Bool.not_eq_true']at C;obtain⟨A,y,g,s,rfl⟩:=bI h;obtain⟨mo,R,w,z,rfl⟩:=bI s;exact AJ (G.fld f A g) (rY C.2) ((E o mo w).1 Φ) ((E e R z).1 Φ)
    .cases h
   |Subscript o i p=>
    replace h:(if (isSlice i||hJ e)=true then none else o2 (cp T d sc N o) (o2 (cp T d sc N i) (cp T d sc N e) Prod.mk) λx y=>dI x y.1 y.2)=some c:=h
    split at h
    .cases h
    .rename_i C
     simp only[Bool.or_eq_true,not_or,Bool.not_eq_true]at C;obtain⟨md,y,g,s,rfl⟩:=bI h;obtain⟨mk,R,w,z,rfl⟩:=bI s;exact xJ (by have:=G.hu;omega) ((E o md g).1 Φ) ((E i mk w).1 Φ) ((E e R z).1 Φ) (rY C.2)
   |_=>cases h
  |Expr e l=>
   replace h:(if hJ e=true then none else (cp T d sc N e).map ck)=some c:=h
   split at h
   .cases h
   .rename_i C
    obtain⟨m,g,rfl⟩:=cm h;exact AF (rY (by simpa using C)) ((E e m g).1 Φ)
  |If S a b l=>
   obtain⟨m,y,g,s,rfl⟩:=bI h;obtain⟨ca,D,w,z,rfl⟩:=bI s;exact DA ((E S m g).2.1 Φ) (B a ca w) (B b D z)
  |While S b e l=>
   cases e with
   |nil=>
    obtain⟨m,D,g,s,rfl⟩:=bI h;exact vt G.own ((E S m g).2.1 Φ) (B b D s)
   |cons _ _=>cases h
  |For H I b e l=>
   cases e with
   |nil=>
    cases H with
    |Name x V=>
     replace h:(if isSet I=true then none else o2 (lu T sc N x) (o2 (gZ (cp T d sc N) sc I) (fb (jJ T td d sc N n) b) Prod.mk) λi y=>eE (du i) y.1 y.2)=some c:=h
     split at h
     .cases h
     .rename_i u
      obtain⟨i,y,g,s,rfl⟩:=bI h;obtain⟨mi,D,w,z,rfl⟩:=bI s;obtain⟨L,M,O⟩:=gE G g;exact tN G.own G.calm (lp G.toGoodO E w Φ _) (mY U L M O) (DB i) (B b D z) (kI (by simpa using u))
    |Tuple P j p=>
     replace h:(if isSet I=true then none else match eA P with
   |some nms=>o2 (lx T sc N nms) (o2 (og (cp T d sc N) sc I) (fb (jJ T td d sc N n) b) Prod.mk) λF y=>eE (iI F) y.1 y.2
   |none=>none)=some c:=h
     split at h
     .cases h
     .rename_i u
      split at h
      .rename_i nms Q
       obtain⟨F,y,g,s,rfl⟩:=bI h;obtain⟨mi,D,w,z,rfl⟩:=bI s;exact tN G.own G.calm (A8 G.toGoodO E w Φ) (qj G Q g) (xA F) (B b D z) (kI (by simpa using u))
      .cases h
    |_=>cases h
   |cons _ _=>cases H<;>cases h
  |Raise _ _ _=>cases h;exact mO
  |AugAssign H op v l=>
   replace h:(match tT H op v with
   |some (o,f,j)=>o2 (T.fld.lookup f) (cp T d sc N o) λA m=>mP A f m j
   |none=>none)=some c:=h
   split at h
   .rename_i o f j ha
    obtain⟨p,j',q,rfl,rfl,rfl⟩:=vD ha;obtain⟨A,m,g,s,rfl⟩:=bI h;exact ya (G.fld f A g) ((E o m s).1 Φ)
   .cases h
  |Try b u oe fi l=>
   match u,oe,fi,h with
   |h0::u,[],[],h=>
    replace h:(if T.xt then none else fb (jJ T td d sc N n) b)=some c:=h
    split at h
    .cases h
    .rename_i hx
     exact A7 (G.CJ (by simpa using hx)) (B b c h)
   |[],_,_,h=>cases h
   |_::_,_::_,_,h=>cases h
   |_::_,[],_::_,h=>cases h
  |_=>cases h
def fB(b:Str->Option Value):Str->Addr->Prop:=λC a=>b C=some (.ref a)
structure aS(P:Program)(w:World)(K:PySem.W.Frag)(mg:Str->Option Value)(base:Heap)(T:aM)(k:Nat):Prop where
 eo:∀x∈dX,mg x=none
 lK:∀x F,T.lK.lookup x=some F->∃(f:Addr) (fd:FuncData) (ps:List Str),mg x=some (.ref f)/\PySem.W.keepIn K (.ref f)=true/\Binds K fd ps []/\cS P w K mg base mu k f fd ps (kE F)
 fn:∀x F,T.fn.lookup x=some F->∃(f:Addr) (fd:FuncData) (ps:List Str),mg x=some (.ref f)/\PySem.W.keepIn K (.ref f)=true/\Binds K fd ps []/\cS P w K mg base mu k f fd ps (ec (fB mg) F)
 cst:∀x d,T.cst.lookup x=some d->∃v u,mg x=some u/\RelV v u/\Dq d v
 met:∀m C F,(m,C,F)∈T.met->∃(Ca f:Addr) (fd:FuncData) (ps:List Str),B_ P w K mg base (fB mg) k C m F Ca f fd ps
 cls:∀C F,T.cls.lookup C=some F->∃j,j+1<=k/\∃(Ca f:Addr) (fd:FuncData) (ps:List Str),fB mg C Ca/\Mk K Ca f/\mg C=some (.ref Ca)/\Binds K fd ps []/\cS P w K mg base mu j f fd ps (ec (fB mg) F)
 fld:∀f Cs,T.fld.lookup f=some Cs->hZ K (fB mg) Cs f
 clo:∀j F,T.clo[j]?=some F->pY P w K mg base (fB mg) k j F
def bh(T:aM)(td:List Str)(st:Stmt)(N:List Str):Option SM:=fb (jJ T td 60 (ao st) N 30) (bR st)
end
section
variable{P:Program}{w:World}{K:PySem.W.Frag}{mg:Str->Option Value}{base:Heap}{T:aM}{k:Nat}
theorem A_{F:aR}{au:aD}{H:Hp}{a:Addr}{ns:List Int}{κ:Str->Addr->Prop}(c:Rd H a (.lst (ns.map V.int)))(h:F [.lst (ns.map D.int)] []=.ok (.bl true) au):ec κ F [.ref a] H (λv _=>v=.bl true) E0:=by
 refine⟨[],λb=>b=a,[],[.lst (ns.map D.int)],⟨List.nodup_nil,.nil,λ_ h=>by simp at h,λb e=>?_⟩,.one ?_,?_⟩
 .subst e
  rcases c with e|⟨o,e⟩<;>rw[e]<;>simp
 .simp only[ak]
  refine⟨a,ns.map V.int,rfl,rfl,c,?_⟩;clear h c
  induction ns with
  |nil=>exact b9.mpr .nil
  |cons n ns d=>exact b9.mpr (.cons (by simp only[ak]) (b9.mp d))
 .rw[h]
  intro v i f j g s r;simpa only [ak]using r
theorem aS.mono(W:aS P w K mg base T k){j:Nat}(h:k<=j):aS P w K mg base T j:=
 ⟨W.eo,λx F q=>let ⟨f,i,l,a,b,c,d⟩:=W.lK x F q;⟨f,i,l,a,b,c,d.mono h⟩,λx F q=>let ⟨f,i,l,a,b,c,d⟩:=W.fn x F q;⟨f,i,l,a,b,c,d.mono h⟩,W.cst,
  λm C F q=>let ⟨o,f,i,l,a,b,c,p,n,r,F1,d,d1,d2,e,g⟩:=W.met m C F q;⟨o,f,i,l,a,b,c,p,n,r,F1,d,d1,d2,e.mono h,g⟩,λC F q=>let ⟨s,t,u⟩:=W.cls C F q;⟨s,Nat.le_trans t h,u⟩,W.fld,λj F q=>(W.clo j F q).mono h⟩
end
noncomputable def aM.vG(T:aM)(x:Str)(F:List D->Out Rs):aM:={T with lK:=(x,F)::T.lK}
noncomputable def aM.fC(T:aM)(x:Str)(F:aR):aM:={T with fn:=(x,F)::T.fn}
noncomputable def aM.cB(T:aM)(C m:Str)(F:aR):aM:={T with met:=(m,C,F)::T.met}
noncomputable def aM.iM(T:aM)(C:Str)(F:aR):aM:={T with cls:=(C,F)::T.cls}
def aM.cQ(T:aM)(f:Str)(Cs:List Str):aM:={T with fld:=(f,Cs)::T.fld}
noncomputable def aM.gR(T:aM)(x:Str)(d:D):aM:={T with cst:=(x,d)::T.cst}
theorem er{a:Type}{x y:Str}{F G:a}{l:List (Str×a)}(h:((x,F)::l).lookup y=some G):(y=x/\G=F)\/l.lookup y=some G:=by
 rw[List.lookup_cons]at h;cases e:y==x with
 |true=>rw[e]at h;cases h;exact .inl ⟨eq_of_beq e,rfl⟩
 |false=>rw[e]at h;exact .inr h
section
variable{P:Program}{w:World}{K:PySem.W.Frag}{mg:Str->Option Value}{base:Heap}{T:aM}{k:Nat}
theorem aS.start(a:∀x∈dX,mg x=none):aS P w K mg base {} 0:=
 ⟨a,λx F h=>(by cases h),λx F h=>(by cases h),λx d h=>(by cases h),λm C F h=>(by cases h),λC F h=>(by cases h),λf b h=>(by cases h),λj F h=>(by cases h)⟩
theorem aS.vG(W:aS P w K mg base T k){x:Str}{F:List D->Out Rs}{f:Addr}{a:FuncData}{ps:List Str}{j:Nat}(b:mg x=some (.ref f))(c:PySem.W.keepIn K (.ref f)=true)(d:Binds K a ps [])(h:cS P w K mg base mu j f a ps (kE F))(e:j<=k) :
  aS P w K mg base (T.vG x F) k:=
 ⟨W.eo,λy G q=>by
  rcases er q with ⟨rfl,rfl⟩|q
  .exact⟨f,a,ps,b,c,d,h.mono e⟩
  .exact W.lK y G q,W.fn,W.cst,W.met,W.cls,W.fld,W.clo⟩
theorem aS.fC(W:aS P w K mg base T k){x:Str}{F:aR}{f:Addr}{b:FuncData}{ps:List Str}(c:mg x=some (.ref f))(d:PySem.W.keepIn K (.ref f)=true)(e:Binds K b ps [])(h:cS P w K mg base mu (k+1) f b ps (ec (fB mg) F)) :
  aS P w K mg base (T.fC x F) (k+1):=by
 have a:=W.mono (Nat.le_succ k)
 exact⟨a.eo,a.lK,λy G q=>by
  rcases er q with ⟨rfl,rfl⟩|q
  .exact⟨f,b,ps,c,d,e,h⟩
  .exact a.fn y G q,a.cst,a.met,a.cls,a.fld,a.clo⟩
theorem aS.cB(W:aS P w K mg base T k){C m:Str}{F:aR}{c f:Addr}{e:FuncData}{ps:List Str}(g:mg C=some (.ref c))(i:jO K c)(M:Meth K c m f)(j:Binds K e ps [])(h:cS P w K mg base mu (k+1) f e ps (ec (fB mg) F)) :
  aS P w K mg base (T.cB C m F) (k+1):=by
 have b:=W.mono (Nat.le_succ k)
 exact⟨b.eo,b.lK,b.fn,b.cst,λl n G q=>by
  rcases List.mem_cons.mp q with q|q
  .cases q
   refine⟨c,f,e,ps,λa d=>?_,i,M,[],[],[],F,j,.nil,λ_ _ _=>.nil,h,by funext o;rw[List.append_nil]⟩
   have d:mg C=some (.ref a):=d;rw[g]at d;cases d;rfl
  .exact b.met l n G q,b.cls,b.fld,b.clo⟩
theorem aS.Cd(W:aS P w K mg base T k){C m:Str}{F:aR}{d f:Addr}{g:FuncData}{ps:List Str}{ds:List Value}{c:List V}{Dd:List D}(i:mg C=some (.ref d))(j:jO K d)(M:Meth K d m f)(l:Binds K g ps ds)(n:Vals c ds)(o:∀p Z H,az (ak p Z H) Dd c)(h:cS P w K mg base mu (k+1) f g ps (ec (fB mg) F)) :
  aS P w K mg base (T.cB C m λxs=>F (xs++Dd)) (k+1):=by
 have b:=W.mono (Nat.le_succ k)
 exact⟨b.eo,b.lK,b.fn,b.cst,λr s G q=>by
  rcases List.mem_cons.mp q with q|q
  .cases q
   refine⟨d,f,g,ps,λa e=>?_,j,M,ds,c,Dd,F,l,n,o,h,rfl⟩
   have e:mg C=some (.ref a):=e;rw[i]at e;cases e;rfl
  .exact b.met r s G q,b.cls,b.fld,b.clo⟩
theorem aS.iM(W:aS P w K mg base T k){C:Str}{F:aR}{b f:Addr}{c:FuncData}{ps:List Str}{j:Nat}(d:mg C=some (.ref b))(M:Mk K b f)(e:Binds K c ps [])(h:cS P w K mg base mu j f c ps (ec (fB mg) F))(g:j<=k) :
  aS P w K mg base (T.iM C F) (k+1):=by
 have a:=W.mono (Nat.le_succ k)
 exact⟨a.eo,a.lK,a.fn,a.cst,a.met,λy G q=>by
  rcases er q with ⟨rfl,rfl⟩|q
  .exact⟨j,by omega,b,f,c,ps,d,M,d,e,h⟩
  .exact a.cls y G q,a.fld,a.clo⟩
theorem aS.cQ(W:aS P w K mg base T k){f:Str}{Cs:List Str}(h:hZ K (fB mg) Cs f):aS P w K mg base (T.cQ f Cs) k:=
 ⟨W.eo,W.lK,W.fn,W.cst,W.met,W.cls,λy G q=>by
  rcases er q with ⟨rfl,rfl⟩|q
  .exact h
  .exact W.fld y G q,W.clo⟩
theorem aS.gR(W:aS P w K mg base T k){x:Str}{d:D}{v:V}{u:Value}(a:mg x=some u)(b:RelV v u)(c:fM d=some v):aS P w K mg base (T.gR x d) k:=
 ⟨W.eo,W.lK,W.fn,λy G q=>by
  rcases er q with ⟨rfl,rfl⟩|q
  .exact⟨v,u,a,b,.inl c⟩
  .exact W.cst y G q,W.met,W.cls,W.fld,W.clo⟩
theorem aS.Gp(W:aS P w K mg base T k){x:Str}{f:Addr}(a:mg x=some (.ref f)):aS P w K mg base (T.gR x (.dct [] [])) k:=
 ⟨W.eo,W.lK,W.fn,λy G q=>by
  rcases er q with ⟨rfl,rfl⟩|q
  .exact⟨.ref f,.ref f,a,rfl,.inr rfl⟩
  .exact W.cst y G q,W.met,W.cls,W.fld,W.clo⟩
theorem aS.Gq(W:aS P w K mg base T k)(p:Str×Str×aR->Bool):aS P w K mg base {T with met:=T.met.filter p} k:=⟨W.eo,W.lK,W.fn,W.cst,λm C F q=>W.met m C F (List.mem_filter.mp q).1,W.cls,W.fld,W.clo⟩
theorem plain1{C f:Str}{c:Addr}(g:mg C=some (.ref c))(h:jO K c)(n:PySem.W.findIn K (.ref c) f=some none):hZ K (fB mg) [C] f:=λe a d b=>by
 have d:e=C:=by simpa using d
 subst d;have b:mg e=some (.ref a):=b;rw[g]at b;cases b;exact⟨h,n⟩
end
def Gr(F:aR):Sp:=λa H Q E=>∀b,ec b F a H Q E
end Mir
namespace Mir
open PySem PySem.Spec PyProof.Rows L2
def DL:D->Bool
 |.lst ds=>ds.all eJ
 |d=>eJ d
section
variable{α:List Addr}{Z Z1:Addr->Prop}{H H1:Hp}
theorem tV{d:D}{v:V}(a:eJ d=true)(r:Rep Z H d v):ak α Z1 H1 d v:=by
 cases d with
 |lst _=>cases a
 |tup _=>cases a
 |ref _=>cases a
 |dct _ _=>cases a
 |_=>simp only[Rep]at r;simp only[ak];exact r
theorem vH{d:D}{v:V}(a:eJ d=true)(r:ak α Z1 H1 d v):Rep Z H d v:=by
 cases d with
 |lst _=>cases a
 |tup _=>cases a
 |ref _=>cases a
 |dct _ _=>cases a
 |_=>simp only[ak]at r;simp only[Rep];exact r
theorem qm:∀{ds:List D}{vs:List V},ds.all eJ=true->aU Z H ds vs->dY α Z1 H1 ds vs
 |[],vs,_,r=>by simp only[aU]at r;simp only[dY];exact r
 |d::ds,vs,h,r=>by
  simp only[List.all_cons,Bool.and_eq_true]at h;simp only[aU]at r;obtain⟨v,a,e,h1,h2⟩:=r;simp only[dY];exact⟨v,a,e,tV h.1 h1,qm h.2 h2⟩
theorem Gs{d:D}{v:V}(h:DL d=true)(r:Rep Z H d v):ak α Z H d v:=by
 cases d with
 |lst g=>
  simp only[Rep]at r;obtain⟨a,b,e,z,c,f⟩:=r;simp only[ak];exact⟨a,b,e,z,c,qm h f⟩
 |tup _=>cases h
 |ref _=>cases h
 |dct _ _=>cases h
 |_=>exact tV rfl r
theorem yc:∀{ds:List D}{vs:List V},ds.all DL=true->aU Z H ds vs->az (ak α Z H) ds vs
 |[],vs,_,r=>by simp only[aU]at r;subst r;exact .nil
 |d::ds,vs,h,r=>by
  simp only[List.all_cons,Bool.and_eq_true]at h;simp only[aU]at r;obtain⟨v,a,rfl,h1,h2⟩:=r;exact .cons (Gs h.1 h1) (yc h.2 h2)
end
variable [aO]
def pureOf(O:aR):List D->Out Rs:=λa=>if a.all DL=true then (match O a []with
  |.ok d _=>if eJ d=true then .ok (false,d)else .bad
  |_=>.bad)else .bad
section
variable{P:Program}{w:World}{K:PySem.W.Frag}{mg:Str->Option Value}{base:Heap}{k:Nat}{f:Addr}{fd:FuncData}{ps:List Str}{O:aR}
theorem tW(h:cS P w K mg base mu k f fd ps (ec (fB mg) O)):cS P w K mg base mu k f fd ps (kE (pureOf O)):=h.imp λC H Q E q=>by
 obtain⟨Z,i,t,d,c,r,e,g⟩:=q;unfold pureOf at e
 by_cases j:i.all DL=true
 .rw[if_pos j]at e
  refine⟨[],Z,[],i,⟨List.nodup_nil,.nil,λa l=>by simp at l,c⟩,yc j r,?_⟩
  cases m:O i []with
  |exc x u=>rw[m]at e;cases e
  |bad=>rw[m]at e;cases e
  |ok d1 u=>
   rw[m]at e;dsimp only at e
   by_cases n:eJ d1=true
   .rw[if_pos n]at e
    cases e;intro v y z D p F A;refine g v y Z ⟨λb o B=>p.frm b o B (by simp),λ_ h=>h,λ_ h=>.inl h,λa l=>?_⟩ (.rep (vH n A))
    cases s:H a with
    |none=>exact absurd s (c a l)
    |some o=>rw[p.frm a o s (by simp)];simp
   .rw[if_neg n]at e;cases e
 .rw[if_neg j]at e;cases e
end
end Mir
namespace Mir
open PySem
@[simp] theorem Gu:jE .non=some false:=rfl
@[simp] theorem Jt{b:Bool}:jE (.bl b)=some b:=rfl
@[simp] theorem Gv{i:Int}:jE (.int i)=some (i != 0):=rfl
@[simp] theorem Gw{xs:List D}:jE (.lst xs)=some (!xs.isEmpty):=rfl
@[simp] theorem Gx{xs:List D}:jE (.tup xs)=some (!xs.isEmpty):=rfl
section
variable{Γ:lO}{ρ:zE}{a b:QK}{e:Ex}{i j:Nat}{bw:Bool}
end
section
variable{bw:Bool}{i:Nat}{a b c es:Ex}
end
section
variable{Γ:lO}{ρ:zE}{bw:Bool}{i:Nat}{a b c es:Ex}
def zI(o:Bool)(f:List D->D):D->Out Rs
 |.tup ds=>if small ds.length=true then .ok (o,f ds)else .bad
 |_=>.bad
@[simp] theorem Gy{o:Bool}{f:List D->D}{ds:List D}:zI o f (.tup ds)=if small ds.length=true then .ok (o,f ds)else .bad:=rfl
end
@[simp] theorem Ju{i j:Int}:eU .Add (.int i) (.int j)=.ok (false,.int (i+j)):=rfl
@[simp] theorem Jv{i j:Int}:eU .Sub (.int i) (.int j)=.ok (false,.int (i - j)):=rfl
@[simp] theorem Jw{i j:Int}:eU .Mult (.int i) (.int j)=if (jF i||jF j)=true then .ok (false,.int (i*j))else .bad:=rfl
@[simp] theorem Jx{i j:Int}:eU .FloorDiv (.int i) (.int j)=if (decide (0<j)&&decide (j<1073741824))=true then .ok (false,.int (i / j))else .bad:=rfl
@[simp] theorem Jy{i j:Int}:eU .Mod (.int i) (.int j)=if decide (0<j)=true then .ok (false,.int (i%j))else .bad:=rfl
@[simp] theorem Jz{i j:Int}:eU .Pow (.int i) (.int j)=if (decide (0<=j)&&decide (j<=1000)&&decide (i.natAbs<2 ^ 64))=true then .ok (false,.int (i ^ j.toNat))else .bad:=rfl
@[simp] theorem Gz{i j:Str}:eU .Add (.str i) (.str j)=if small (i.length+j.length)=true then .ok (false,.str (i++j))else .bad:=rfl
@[simp] theorem GA{i j:List D}:eU .Add (.lst i) (.lst j)=if small (i.length+j.length)=true then .ok (true,.lst (i++j))else .bad:=rfl
@[simp] theorem DM{x y:D}:de .Eq x y=if (aH 8 x&&aH 8 y)=true then .ok (ei x y)else .bad:=rfl
@[simp] theorem DN{x y:D}:de .NotEq x y=if (aH 8 x&&aH 8 y)=true then .ok (!ei x y)else .bad:=rfl
@[simp] theorem Lw{i j:Int}:de .Lt (.int i) (.int j)=.ok (decide (i<j)):=rfl
@[simp] theorem Lx{i j:Int}:de .LtE (.int i) (.int j)=.ok (decide (i<=j)):=rfl
@[simp] theorem cmp_gt{i j:Int}:de .Gt (.int i) (.int j)=.ok (decide (j<i)):=rfl
@[simp] theorem Ly{i j:Int}:de .GtE (.int i) (.int j)=.ok (decide (j<=i)):=rfl
@[simp] theorem Lz{x y:D}:de .In x y=inD x y:=rfl
@[simp] theorem JA{x y:D}:de .NotIn x y=inD x y >>= λb=>.ok (!b):=rfl
@[simp] theorem LA{x y:D}:de .Is x y=isD x y:=rfl
@[simp] theorem JB{x y:D}:de .IsNot x y=isD x y >>= λb=>.ok (!b):=rfl
@[simp] theorem LB{n:Nat}:aH n .non=true:=by cases n<;>rfl
@[simp] theorem QR{n:Nat}{b:Bool}:aH n (.bl b)=true:=by cases n<;>rfl
@[simp] theorem LC{n:Nat}{i:Int}:aH n (.int i)=true:=by cases n<;>rfl
@[simp] theorem LD{n:Nat}{x:Str}:aH n (.str x)=true:=by cases n<;>rfl
@[simp] theorem LF{n:Nat}{xs:List D}:aH (n+1) (.lst xs)=xs.all (aH n):=rfl
@[simp] theorem LG{n:Nat}{xs:List D}:aH (n+1) (.tup xs)=xs.all (aH n):=rfl
@[simp] theorem eq_int{i j:Int}:ei (.int i) (.int j)=(i==j):=rfl
@[simp] theorem QS{i j:Bool}:ei (.bl i) (.bl j)=(i==j):=rfl
@[simp] theorem eq_str{i j:Str}:ei (.str i) (.str j)=(i==j):=rfl
@[simp] theorem LH{i j:List D}:ei (.lst i) (.lst j)=eu i j:=rfl
@[simp] theorem LI{i j:List D}:ei (.tup i) (.tup j)=eu i j:=rfl
@[simp] theorem JC:eu [] []=true:=rfl
@[simp] theorem yd{x y:D}{xs a:List D}:eu (x::xs) (y::a)=(ei x y&&eu xs a):=rfl
@[simp] theorem LJ{y:D}{a:List D}:eu [] (y::a)=false:=rfl
@[simp] theorem LK{y:D}{a:List D}:eu (y::a) []=false:=rfl
theorem tX{z:Str}{i:Int}{c:Nat}(h:small z.length=true)(e:L2.jC z.cps.toList i=some c):qY (.str z) (.int i)=.ok (false,.str (ay c)):=by
 simp only[qY,h,if_pos,e]
@[simp] theorem JD{xs:List D}{l h:Option Int}:wy (.lst xs) l h=.ok (true,.lst (df xs l h)):=rfl
@[simp] theorem JE{z:Str}{l h:Option Int}:wy (.str z) l h=if small z.length=true then .ok (false,.str ⟨(df z.cps.toList l h).toArray⟩)else .bad:=rfl
@[simp] theorem JF{xs:List D}:hF .len (.tup [.lst xs])=.ok (false,.int xs.length):=rfl
@[simp] theorem JG{xs:List D}:hF .len (.tup [.tup xs])=.ok (false,.int xs.length):=rfl
@[simp] theorem len_str{z:Str}:hF .len (.tup [.str z])=if small z.length=true then .ok (false,.int z.length)else .bad:=rfl
def ye(f:List Bool->Bool):Option (List Bool)->Out Rs
 |some bs=>.ok (false,.bl (f bs))
 |none=>.bad
@[simp] theorem ER{f:List Bool->Bool}{bs:List Bool}:ye f (some bs)=.ok (false,.bl (f bs)):=rfl
@[simp] theorem JH{xs:List D}:hF .all (.tup [.lst xs])=ye (λbs=>bs.all id) (eV xs):=rfl
@[simp] theorem JI{xs:List D}:hF .any (.tup [.lst xs])=ye (λbs=>bs.any id) (eV xs):=rfl
@[simp] theorem GB{xs:List D}:hF .list (.tup [.lst xs])=.ok (true,.lst xs):=rfl
@[simp] theorem GC{xs:List D}:hF .list (.tup [.tup xs])=.ok (true,.lst xs):=rfl
@[simp] theorem ES{xs:List D}:hF .tuple (.tup [.lst xs])=.ok (false,.tup xs):=rfl
@[simp] theorem ET{xs:List D}:hF .tuple (.tup [.tup xs])=.ok (false,.tup xs):=rfl
@[simp] theorem int_int{i:Int}:hF .int (.tup [.int i])=.ok (false,.int i):=rfl
@[simp] theorem LM{k:Bool}:hF .int (.tup [.bl k])=.ok (false,.int (if k then 1 else 0)):=rfl
@[simp] theorem JJ{i j:Int}:hF .min (.tup [.int i,.int j])=.ok (false,.int (if j<i then j else i)):=rfl
@[simp] theorem JK{i j:Int}:hF .max (.tup [.int i,.int j])=.ok (false,.int (if j>i then j else i)):=rfl
@[simp] theorem LN{t:Ty}:wz .non t=some false:=rfl
@[simp] theorem QT{t:Ty}{b:Bool}:wz (.bl b) t=some (t==.bool||t==.int):=rfl
@[simp] theorem ty_int{t:Ty}{i:Int}:wz (.int i) t=some (t==.int):=rfl
@[simp] theorem ty_str{t:Ty}{x:Str}:wz (.str x) t=some (t==.str):=rfl
@[simp] theorem LP{t:Ty}{xs:List D}:wz (.lst xs) t=some (t==.list):=rfl
@[simp] theorem LQ{t:Ty}{xs:List D}:wz (.tup xs) t=some (t==.tuple):=rfl
@[simp] theorem LR{t:Ty}{a:List L2.Key}{xs:List D}:wz (.dct a xs) t=some (t==.dict):=rfl
theorem aA{n:Nat}(h:n<=100000):small n=true:=by
 unfold small;rw[decide_eq_true_eq,sizeLine_eq];omega
theorem iN{i:Int}(a : -(2 ^ 64)<i)(b:i<2 ^ 64):jF i=true:=decide_eq_true (by omega)
theorem eO{i:Int}(a : -(2 ^ 62)<i)(b:i<2 ^ 62):i_ i=true:=decide_eq_true (by omega)
theorem DO{b:Type}{xs:List b}{i:Int}(c:0<=i)(d:i<xs.length):∃x,x∈xs/\L2.jC xs i=some x:=by
 have a:i.toNat<xs.length:=by omega
 refine⟨xs[i.toNat],List.getElem_mem a,?_⟩;have h:=L2.dw (List.getElem?_eq_getElem a);rw[show(i.toNat:Int)=i by omega]at h
 exact h
@[simp] theorem in_str{x y:Str}:inD (.str x) (.str y)=.ok (sR x y):=rfl
theorem dS(n:Nat):∀a:Int,(intsFrom a n).length=n:=by
 induction n with
 |zero=>intro a;rfl
 |succ n b=>intro a;simp[intsFrom,b]
theorem fD{n:Nat}:∀{a:Int}{i:Nat}{d:D},(intsFrom a n)[i]?=some d->d=.int (a+i)/\i<n:=by
 induction n with
 |zero=>intro a i d h;simp[intsFrom]at h
 |succ n b=>
  intro a i d h;cases i with
  |zero=>simp[intsFrom]at h;subst h;exact⟨by simp,by omega⟩
  |succ i=>
   simp[intsFrom]at h;obtain⟨c,e⟩:=b h;exact⟨by rw[c];congr 1;omega,by omega⟩
noncomputable def L1(xs:List Str):D:=.lst (xs.map .str)
def LL(rs:List (List Str)):D:=.lst (rs.map L1)
theorem rZ{a:Type}(xs:List a)(k:Nat):df xs (some (k:Int)) none=xs.drop k:=by
 unfold df;rw[HT.pa,HT.jP];rcases Nat.le_total k xs.length with h|h
 .rw[Nat.min_eq_left h]
  exact List.take_of_length_le (by simp)
 .rw[Nat.min_eq_right h,List.drop_eq_nil_of_le (Nat.le_refl _),List.drop_eq_nil_of_le h];simp
theorem r_{a:Type}(xs:List a)(k:Nat):df xs none (some (k:Int))=xs.take k:=by
 unfold df;rw[HT.pa,HT.jP,List.drop_zero,Nat.sub_zero];rcases Nat.le_total k xs.length with h|h
 .rw[Nat.min_eq_left h]
 .rw[Nat.min_eq_right h,List.take_of_length_le (Nat.le_refl _),List.take_of_length_le h]
theorem yf{a:Type}(xs:List a)(k m:Nat):df xs (some (k:Int)) (some (m:Int))=(xs.drop k).take (m - k):=by
 unfold df;rw[HT.jP,HT.jP];rcases Nat.le_total k xs.length with h|h
 .rw[Nat.min_eq_left h]
  rcases Nat.le_total m xs.length with h' |h'
  .rw[Nat.min_eq_left h']
  .rw[Nat.min_eq_right h',List.take_of_length_le (by simp),List.take_of_length_le (by simp;omega)]
 .rw[Nat.min_eq_right h,List.drop_eq_nil_of_le (Nat.le_refl _),List.drop_eq_nil_of_le h];simp
@[simp] theorem QU{a:Type}(xs:List a):df xs (some 1) none=xs.tail:=by rw[show(1:Int)=((1:Nat):Int)from rfl,rZ];simp
theorem oh(n:Nat)(xs:List Str):(xs.map D.str).all (aH n)=true:=by
 rw[List.all_eq_true];intro d a;obtain⟨x,_,rfl⟩:=List.mem_map.mp a;simp
theorem Ba(xs:List Str)(n:Str):((xs.map D.str).any λy=>ei y (.str n))=decide (n∈xs):=by
 induction xs with
 |nil=>rfl
 |cons x xs a=>
  simp only[List.map_cons,List.any_cons,a,eq_str,List.mem_cons]
  by_cases h:n=x
  .subst h;simp
  .have:(x==n)=false:=by simp;exact λe=>h e.symm
   simp[this,h]
theorem Bb(xs:List Str)(n:Str):inD (.str n) (.lst (xs.map .str))=.ok (decide (n∈xs)):=by
 have:inD (.str n) (.lst (xs.map .str))=if aH 8 (.str n)&&(xs.map D.str).all (aH 8)then .ok ((xs.map D.str).any λy=>ei y (.str n))else .bad:=rfl
 rw[this,oh,Ba];simp
theorem tY(xs a:List Str):eu (xs.map .str) (a.map .str)=decide (xs=a):=by
 induction xs generalizing a with
 |nil=>cases a<;>simp
 |cons x xs b=>
  cases a with
  |nil=>simp
  |cons y a=>
   simp only[List.map_cons,yd,eq_str,b,List.cons.injEq]
   by_cases h:x=y
   .subst h;simp
   .simp[h]
theorem tZ(n:Nat)(xs:List Str):aH (n+1) (L1 xs)=true:=oh n xs
noncomputable def freeOf(rs:List (List Str)):List Str->Option Str
 |[]=>none
 |n::_=>if ∃t∈rs,n∈t.tail then none else some n
theorem sd{rs:List (List Str)}{n:Str}{r:List Str}(h:∃t∈rs,n∈t.tail):freeOf rs (n::r)=none:=if_pos h
theorem sg{rs:List (List Str)}{n:Str}{r:List Str}(h:¬ ∃t∈rs,n∈t.tail):freeOf rs (n::r)=some n:=if_neg h
def free(rs:List (List Str)):Option Str:=rs.findSome? (freeOf rs)
noncomputable def Bc:Option Str->D
 |none=>.non
 |some n=>.str n
@[simp] theorem LS{x:Str}:isD (.str x) .non=.ok false:=rfl
@[simp] theorem JL:isD .non .non=.ok true:=rfl
@[simp] theorem LU{x:Int}:isD (.int x) .non=.ok false:=rfl
@[simp] theorem LV{x:List D}:isD (.lst x) .non=.ok false:=rfl
noncomputable def mQ(n:Str)(r:List Str):List Str:=if r.take 1=[n]then r.tail else r
inductive Mg:List (List Str)->List Str->Prop
 |done {rs}:(∀r∈rs,r=[])->Mg rs []
 |step {rs n o}:(∃r∈rs,r≠[])->free rs=some n->Mg (rs.map (mQ n)) o->Mg rs (n::o)
theorem any_rows(rs:List (List Str)):eV (rs.map L1)=some (rs.map λr=>!r.isEmpty):=by
 induction rs with
 |nil=>rfl
 |cons r rs a=>
  simp only[List.map_cons,eV,a];simp[L1]
theorem any_true{rs:List (List Str)}(h:∃r∈rs,r≠[]):(rs.map λr=>!r.isEmpty).any id=true:=by
 obtain⟨r,a,b⟩:=h;rw[List.any_eq_true];exact⟨_,List.mem_map.mpr ⟨r,a,rfl⟩,by cases r<;>simp at b ⊢⟩
theorem any_false{rs:List (List Str)}(h:∀r∈rs,r=[]):(rs.map λr=>!r.isEmpty).any id=false:=by
 rw[List.any_eq_false];intro b a;obtain⟨r,c,rfl⟩:=List.mem_map.mp a;rw[h r c];simp
abbrev Fn:=List D->Out Rs
def iO(a:Int->Int->Int->Int)(F:Fn):Prop:=∀c t m,0<=t->t<100000->0<m->0<=a c t m/\a c t m<m/\F [.int c,.int t,.int m]=.ok (false,.int (a c t m))
noncomputable def SC(ns:List Int):D:=.lst (ns.map .int)
def oi(κ:List Int->Nat->Int)(F:Fn):Prop:=∀a (k:Nat),F [SC a,.int k]=.ok (false,.int (κ a k))
theorem ints_map(a:Int)(n:Nat):intsFrom a n=(List.range n).map λ(i:Nat)=>D.int (a+i):=by
 apply List.ext_getElem?;intro i
 by_cases h:i<n
 .have b:i<(intsFrom a n).length:=by rw[dS];exact h
  have e:=(fD (List.getElem?_eq_getElem b)).1;rw[List.getElem?_eq_getElem b,e];simp[h]
 .rw[List.getElem?_eq_none (by rw[dS];omega),List.getElem?_eq_none (by simp;omega)]
theorem mR(n:Nat):intsFrom 0 n=(List.range n).map λ(i:Nat)=>D.int i:=by
 rw[ints_map];congr 1;funext i;simp
noncomputable def abc:Str:="abcdefghijklmnopqrstuvwxyz"
theorem DP:∀q:Nat,q<26->abc.cps.toList[q]?=some (97+q):=by decide
theorem oj{q:Int}(a:0<=q)(b:q<26):qY (.str abc) (.int q)=.ok (false,.str (ay (97+q.toNat))):=by
 refine tX (aA (by decide)) ?_
 have:=L2.dw (DP q.toNat (by omega))
 rwa[show((q.toNat:Nat):Int)=q by omega]at this
noncomputable def bs(a:Int->Int->Int->Int)(c:Int):List D:=(List.range 8).map λ(i:Nat)=>.int (a c i 26)
section
variable{Γ:lO}{M:Fn}{μ:Int->Int->Int->Int}{c:Int}{m:Nat}
end
section
variable{Γ:lO}
noncomputable def behind(rs:List (List Str)):List Str:=rs.flatMap List.tail
end
@[simp] theorem JM{xs:List Str}:hF .list (.tup [L1 xs])=.ok (true,L1 xs):=rfl
@[simp] theorem JN{xs:List (List Str)}:hF .list (.tup [LL xs])=.ok (true,LL xs):=rfl
@[simp] theorem QV{xs:List Str}{n:Str}:inD (.str n) (L1 xs)=.ok (decide (n∈xs)):=Bb xs n
@[simp] theorem QW{xs:List Str}{t:Ty}:wz (L1 xs) t=some (t==.list):=rfl
@[simp] theorem QX{a b:Bool}:isD (.bl a) (.bl b)=.ok (a==b):=rfl
open L2
section
variable{α β:Type}{Ω au:aD}{ρ:aX}{d x y:D}{ma mb mc mi:EM}{as:AM}{a b:SM}
@[simp] theorem av{a:α}{f:α->aD->aw β}:(aw.ok a Ω).bind f=f a Ω:=rfl
@[simp] theorem LW{f:α->aD->aw β}:(aw.exc x Ω:aw α).bind f=.exc x Ω:=rfl
@[simp] theorem LX{f:α->aD->aw β}:(aw.bad:aw α).bind f=.bad:=rfl
@[simp] theorem cu{a:α}{k:α->aD->gP}:cq (.ok a Ω) k=k a Ω:=rfl
@[simp] theorem LY{k:α->aD->gP}:cq (.exc x Ω:aw α) k=.exc x Ω:=rfl
@[simp] theorem LZ{k:α->aD->gP}:cq (.bad:aw α) k=.bad:=rfl
@[simp] theorem GD{b:aw D}:ie (.ok d Ω) b=.ok d Ω:=rfl
@[simp] theorem L7{b:aw D}:ie (.exc d Ω) b=.exc d Ω:=rfl
@[simp] theorem om{b:aw D}:ie .bad b=b:=rfl
@[simp] theorem QY{f:D->aD->aw D}:m1 f ma ρ Ω=(ma ρ Ω).bind f:=rfl
@[simp] theorem cN{f:D->D->aD->aw D}:m2 f ma mb ρ Ω=(ma ρ Ω).bind λx aQ=>(mb ρ aQ).bind λy a=>f x y a:=rfl
@[simp] theorem fc{f:List D->aD->aw D}:mN f as ρ Ω=(as ρ Ω).bind f:=rfl
@[simp] theorem b_:af ρ Ω=.ok [] Ω:=rfl
@[simp] theorem aV:ab ma as ρ Ω=(ma ρ Ω).bind λx aQ=>(as ρ aQ).bind λxs a=>.ok (x::xs) a:=rfl
noncomputable def vr:Option (Option D)->aD->aw D
 |some (some d),Ω=>.ok d Ω
 |_,_=>.bad
@[simp] theorem fE:vr (some (some d)) Ω=.ok d Ω:=rfl
@[simp] theorem fF{i:Nat}:aa i ρ Ω=vr ρ[i]? Ω:=by
 unfold aa;cases ρ[i]? with
 |none=>rfl
 |some o=>cases o<;>rfl
@[simp] theorem fG:ah d ρ Ω=.ok d Ω:=rfl
@[simp] theorem oo{c:Cell}:f9 Ω c=.ok (.ref Ω.length) (Ω++[c]):=rfl
noncomputable def tb(Ω:aD):Option Bool->aw Bool
 |some b=>.ok b Ω
 |none=>.bad
@[simp] theorem cO{t:Bool}:tb Ω (some t)=.ok t Ω:=rfl
@[simp] theorem cC:dv (.ok d Ω)=tb Ω (fR Ω d):=by simp only[dv];cases fR Ω d<;>rfl
@[simp] theorem cw{t:Bool}:fR Ω (.bl t)=some t:=rfl
@[simp] theorem GF:fR Ω .non=some false:=rfl
@[simp] theorem GG{i:Int}:fR Ω (.int i)=some (i != 0):=rfl
noncomputable def EL(t:Option Bool)(a b:aw D):aw D:=match t with
 |some true=>a
 |some false=>b
 |none=>.bad
@[simp] theorem Ce{a b:aw D}:Mir.EL (some true) a b=a:=rfl
@[simp] theorem QZ{a b:aw D}:Mir.EL (some false) a b=b:=rfl
@[simp] theorem oq:gh ma mb ρ Ω=(ma ρ Ω).bind λx aQ=>Mir.EL (fR aQ x) (mb ρ aQ) (.ok x aQ):=by
 unfold gh;cases ma ρ Ω with
 |ok x aQ=>
  simp only[av];cases fR aQ x with
  |none=>rfl
  |some t=>cases t<;>rfl
 |exc x aQ=>rfl
 |bad=>rfl
@[simp] theorem L8:ve ma mb ρ Ω=(ma ρ Ω).bind λx aQ=>Mir.EL (fR aQ x) (.ok x aQ) (mb ρ aQ):=by
 unfold ve;cases ma ρ Ω with
 |ok x aQ=>
  simp only[av];cases fR aQ x with
  |none=>rfl
  |some t=>cases t<;>rfl
 |exc x aQ=>rfl
 |bad=>rfl
@[simp] theorem JO:fv ma ρ Ω=(dv (ma ρ Ω)).bind λt aQ=>.ok (.bl (!t)) aQ:=rfl
@[simp] theorem ot:yX mc ma mb ρ Ω=(dv (mc ρ Ω)).bind λt aQ=>if t=true then ma ρ aQ else mb ρ aQ:=rfl
@[simp] theorem dD{f g:D->D->aD->aw D}:fQ f g x y Ω=ie (f x y Ω) (g x y Ω):=rfl
@[simp] theorem JP{f g:List D->aD->aw D}{xs:List D}:lP f g xs Ω=ie (f xs Ω) (g xs Ω):=rfl
@[simp] theorem ou{f g:EM}:f_ f g ρ Ω=ie (f ρ Ω) (g ρ Ω):=rfl
@[simp] theorem JQ{n:Nat}:ef Ω n .non=some .non:=by cases n<;>rfl
@[simp] theorem DQ{n:Nat}{t:Bool}:ef Ω n (.bl t)=some (.bl t):=by cases n<;>rfl
@[simp] theorem t8{n:Nat}{i:Int}:ef Ω n (.int i)=some (.int i):=by cases n<;>rfl
@[simp] theorem gF{n:Nat}{z:Str}:ef Ω n (.str z)=some (.str z):=by cases n<;>rfl
@[simp] theorem L9{f:α->Option β}:bo f []=some []:=rfl
noncomputable def oc:Option α->Option (List α)->Option (List α)
 |some y,some ys=>some (y::ys)
 |_,_=>none
@[simp] theorem JR{y:α}{a:List α}:oc (some y) (some a)=some (y::a):=rfl
@[simp] theorem t9{f:α->Option β}{x:α}{xs:List α}:bo f (x::xs)=oc (f x) (bo f xs):=by
 simp only[bo];cases f x<;>cases bo f xs<;>rfl
theorem gq{a:Type}{f:β->Option a}{g:α->β}{h:α->a}(e:∀x,f (g x)=some (h x)):∀xs:List α,bo f (xs.map g)=some (xs.map h)
 |[]=>rfl
 |x::xs=>by rw[List.map_cons,t9,e,gq e xs];rfl
@[simp] theorem t_{n:Nat}{xs:List Str}:bo (ef Ω n) (xs.map .str)=some (xs.map .str):=gq (λ_=>gF) xs
@[simp] theorem Bd{n:Nat}{xs:List Int}:bo (ef Ω n) (xs.map .int)=some (xs.map .int):=gq (λ_=>t8) xs
theorem Be{n:Nat}{ds es:List D}(h:bo (ef Ω n) ds=some es):ef Ω (n+1) (.lst ds)=some (.lst es):=by simp only[ef,h,Option.map_some]
theorem Bf{n:Nat}{ds es:List D}(h:bo (ef Ω n) ds=some es):ef Ω (n+1) (.tup ds)=some (.tup es):=by simp only[ef,h,Option.map_some]
theorem jW{n k:Nat}{ds es:List D}(a:Ω[k]?=some (.lst ds))(h:bo (ef Ω n) ds=some es):ef Ω (n+1) (.ref k)=some (.lst es):=by simp only[ef,a,h,Option.map_some]
theorem ed{n k:Nat}{xs:List Str}(a:Ω[k]?=some (.lst (xs.map .str))):ef Ω (n+1) (.ref k)=some (L1 xs):=jW a t_
@[simp] theorem L_{n:Nat}{ns:List Int}:ef Ω (n+1) (SC ns)=some (SC ns):=Be Bd
@[simp] theorem JS{o:Bool}{i:Int}:fq Ω (.ok (o,.int i))=.ok (.int i) Ω:=rfl
@[simp] theorem DR{o:Bool}{t:Bool}:fq Ω (.ok (o,.bl t))=.ok (.bl t) Ω:=rfl
@[simp] theorem Bg{o:Bool}{z:Str}:fq Ω (.ok (o,.str z))=.ok (.str z) Ω:=rfl
@[simp] theorem JT{o:Bool}:fq Ω (.ok (o,.non))=.ok .non Ω:=rfl
@[simp] theorem JU:fq Ω .bad=.bad:=rfl
def vN(Ω:aD)(f:List D->Out Rs):Option (List D)->aw D
 |some ds=>fq Ω (f ds)
 |none=>.bad
@[simp] theorem ua{f:List D->Out Rs}{ds:List D}:vN Ω f (some ds)=fq Ω (f ds):=rfl
@[simp] theorem ub{f:List D->Out Rs}{xs:List D}:cz f xs Ω=vN Ω f (bo (ef Ω 8) xs):=by unfold cz;cases bo (ef Ω 8) xs<;>rfl
def v1(Ω:aD)(f:D->Out Rs):Option D->aw D
 |some d=>fq Ω (f d)
 |none=>.bad
@[simp] theorem JV{f:D->Out Rs}:v1 Ω f (some d)=fq Ω (f d):=rfl
@[simp] theorem JW{f:D->Out Rs}:vd f x Ω=v1 Ω f (ef Ω 8 x):=by unfold vd;cases ef Ω 8 x<;>rfl
def v2(Ω:aD)(f:D->D->Out Rs):Option D->Option D->aw D
 |some d,some e=>fq Ω (f d e)
 |_,_=>.bad
@[simp] theorem iP{f:D->D->Out Rs}{e:D}:v2 Ω f (some d) (some e)=fq Ω (f d e):=rfl
@[simp] theorem iQ{f:D->D->Out Rs}:ft f x y Ω=v2 Ω f (ef Ω 8 x) (ef Ω 8 y):=by unfold ft;cases ef Ω 8 x<;>cases ef Ω 8 y<;>rfl
@[simp] theorem GH{z:Str}:xl .len [.str z]=if small z.length=true then .ok (false,.int z.length)else .bad:=rfl
@[simp] theorem yg{xs:List D}:xl .all [.lst xs]=ye (λbs=>bs.all id) (eV xs):=rfl
@[simp] theorem GI{xs:List D}:xl .any [.lst xs]=ye (λbs=>bs.any id) (eV xs):=rfl
@[simp] theorem qo{F:aR}{xs:List D}:bj F xs Ω=xB (F xs Ω):=rfl
@[simp] theorem jl:xB (.ok d Ω)=.ok d Ω:=rfl
@[simp] theorem jX{op:CmpOp}:cI op x y Ω=v2 Ω (λx y=>do let r ←de op x y;Out.ok (false,D.bl r)) (ef Ω 8 x) (ef Ω 8 y):=by unfold cI;rw[iQ]
@[simp] theorem jY:aG .Eq x y Ω=cI .Eq x y Ω:=rfl
@[simp] theorem ov:aG .NotEq x y Ω=cI .NotEq x y Ω:=rfl
@[simp] theorem JX:aG .Lt x y Ω=cI .Lt x y Ω:=rfl
@[simp] theorem JY:aG .LtE x y Ω=cI .LtE x y Ω:=rfl
@[simp] theorem JZ:aG .Gt x y Ω=cI .Gt x y Ω:=rfl
@[simp] theorem J7:aG .GtE x y Ω=cI .GtE x y Ω:=rfl
@[simp] theorem di:aG .In x y Ω=ie (cI .In x y Ω) (eH false x y Ω):=rfl
@[simp] theorem ia:aG .NotIn x y Ω=ie (cI .NotIn x y Ω) (eH true x y Ω):=rfl
@[simp] theorem J8:aG .Is x y Ω=ie (eR false x y Ω) (cI .Is x y Ω):=rfl
@[simp] theorem DS:aG .IsNot x y Ω=ie (eR true x y Ω) (cI .IsNot x y Ω):=rfl
@[simp] theorem GJ{n:Bool}{k:Nat}:eR n (.ref k) .non Ω=.ok (.bl n) Ω:=rfl
@[simp] theorem EU{n:Bool}{i:Int}:eR n (.int i) y Ω=.bad:=rfl
@[simp] theorem EV{n:Bool}:eR n .non y Ω=.bad:=rfl
@[simp] theorem GK{n:Bool}{t:Bool}:eR n (.bl t) y Ω=.bad:=rfl
@[simp] theorem EW{n:Bool}{z:Str}:eR n (.str z) y Ω=.bad:=rfl
@[simp] theorem iR:bf .Add x y Ω=ie (rn x y Ω) (ft (eU .Add) x y Ω):=rfl
@[simp] theorem GL:bf .Sub x y Ω=ft (eU .Sub) x y Ω:=rfl
@[simp] theorem EX:bf .Mult x y Ω=ft (eU .Mult) x y Ω:=rfl
@[simp] theorem GN:bf .Mod x y Ω=ft (eU .Mod) x y Ω:=rfl
@[simp] theorem J9:bf .FloorDiv x y Ω=ft (eU .FloorDiv) x y Ω:=rfl
@[simp] theorem J_{i:Int}:cV Ω (.int i)=none:=rfl
@[simp] theorem Ka{z:Str}:cV Ω (.str z)=none:=rfl
@[simp] theorem Kb{ds:List D}:cV Ω (.tup ds)=none:=rfl
@[simp] theorem Kc{ds:List D}:cV Ω (.lst ds)=some ds:=rfl
theorem aB{k:Nat}{ds:List D}(h:Ω[k]?=some (.lst ds)):cV Ω (.ref k)=some ds:=by simp only[cV,h]
theorem iS{k:Nat}{ds:List D}(h:Ω[k]?=some (.lst ds)):nV Ω (.ref k)=some (k,ds):=by simp only[nV,h]
theorem iT{k:Nat}{C:Str}{a:List (Str×D)}(h:Ω[k]?=some (.ins C a)):nX Ω (.ref k)=some (k,C,a):=by simp only[nX,h]
def ct(Ω:aD):Option (List D)->Option (List D)->aw D
 |some xs,some ys=>if small (xs.length+ys.length)then .ok (.ref Ω.length) (Ω++[.lst (xs++ys)])else .bad
 |_,_=>.bad
@[simp] theorem uc{xs a:List D}:ct Ω (some xs) (some a)=if small (xs.length+a.length)then .ok (.ref Ω.length) (Ω++[.lst (xs++a)])else .bad:=rfl
@[simp] theorem Q7{o:Option (List D)}:ct Ω none o=.bad:=rfl
@[simp] theorem ud:rn x y Ω=ct Ω (cV Ω x) (cV Ω y):=by unfold rn;cases cV Ω x<;>cases cV Ω y<;>rfl
@[simp] theorem Kd{ds:List D}:fu Ω (.tup ds)=some ds:=rfl
@[simp] theorem aP{k:Nat}:fu Ω (.ref k)=cV Ω (.ref k):=rfl
@[simp] theorem Ke{ds:List D}:fu Ω (.lst ds)=some ds:=rfl
def ixs(Ω:aD):Option (List D)->D->aw D
 |some ds,.int i=>match L2.jC ds i with
  |some d=>.ok d Ω
  |none=>.bad
 |_,_=>.bad
theorem gG:z_ x y Ω=ixs Ω (fu Ω x) y:=by unfold z_;cases fu Ω x<;>cases y<;>rfl
theorem yh{ds:List D}{i:Int}(h:L2.jC ds i=some d):ixs Ω (some ds) (.int i)=.ok d Ω:=by simp only[ixs,h]
theorem bx{k:Nat}{ds:List D}{i:Int}(h:Ω[k]?=some (.lst ds))(a:L2.jC ds i=some d):aF (.ref k) (.int i) Ω=.ok d Ω:=by
 unfold aF;rw[dD,gG,aP,aB h,yh a];rfl
@[simp] theorem ow{xs:List D}:bB xs Ω=if small xs.length then .ok (.ref Ω.length) (Ω++[.lst xs])else .bad:=rfl
@[simp] theorem ox{xs:List D}:hX xs Ω=if small xs.length then .ok (.tup xs) Ω else .bad:=rfl
def fl(Ω:aD)(Cs:List Str)(f:Str):Option (Nat×Str×List (Str×D))->aw D
 |some (_,C,fs)=>if Cs.contains C then (match fs.lookup f with
  |some d=>.ok d Ω
  |none=>.bad)else .bad
 |none=>.bad
theorem cx{Cs:List Str}{f C:Str}{k:Nat}{a:List (Str×D)}(h:Ω[k]?=some (.ins C a))(b:Cs.contains C=true)(c:a.lookup f=some d):aW Cs f (.ref k) Ω=.ok d Ω:=by
 unfold aW;rw[iT h];simp only[b,if_true,c]
noncomputable def sq(r:gP)(b:SM):gP:=match r with
 |.nx a c=>b a c
 |r=>r
@[simp] theorem ax:sq (.nx ρ Ω) b=b ρ Ω:=rfl
@[simp] theorem GO:sq (.rt d Ω) b=.rt d Ω:=rfl
@[simp] theorem Q8:sq (.bk ρ Ω) b=.bk ρ Ω:=rfl
@[simp] theorem Q9:sq (.ct ρ Ω) b=.ct ρ Ω:=rfl
@[simp] theorem Ma:sq (.exc d Ω) b=.exc d Ω:=rfl
@[simp] theorem Mb:sq .bad b=.bad:=rfl
@[simp] theorem ae:aj a b ρ Ω=sq (a ρ Ω) b:=by unfold aj;cases a ρ Ω<;>rfl
@[simp] theorem GP:ai ρ Ω=.nx ρ Ω:=rfl
@[simp] theorem br{i:Nat}:aJ i ma ρ Ω=cq (ma ρ Ω) λd aQ=>.nx (ρ.set i (some d)) aQ:=rfl
@[simp] theorem cy:ck ma ρ Ω=cq (ma ρ Ω) λ_ aQ=>.nx ρ aQ:=rfl
@[simp] theorem cX:bP ma ρ Ω=cq (ma ρ Ω) λd aQ=>.rt d aQ:=rfl
@[simp] theorem GQ:mM ρ Ω=.rt .non Ω:=rfl
@[simp] theorem cR:dR ma a b ρ Ω=cq (dv (ma ρ Ω)) λt aQ=>if t=true then a ρ aQ else b ρ aQ:=rfl
@[simp] theorem Kf{b:List Nat}:Dz b ma ρ Ω=cq (ma ρ Ω) λd aQ=>match iI b d ρ with|some a=>.nx a aQ|none=>.bad:=rfl
@[simp] theorem EY{a:List Nat}{ds:List D}:iI a (.tup ds) ρ=if ds.length=a.length then some (fx a ds ρ)else none:=rfl
@[simp] theorem Bh{i:Nat}{a:List Nat}{ds:List D}:fx (i::a) (d::ds) ρ=fx a ds (ρ.set i (some d)):=rfl
@[simp] theorem Cf{ds:List D}:fx [] ds ρ=ρ:=by cases ds<;>rfl
@[simp] theorem Bi:h8 (.rt d Ω)=.ok d Ω:=rfl
@[simp] theorem Kg:h8 (.nx ρ Ω)=.ok .non Ω:=rfl
theorem aT{n k:Nat}{c:SM}{ds:List D}(h:ds.length=k):aK n k c ds Ω=h8 (c (aL n ds) Ω):=by unfold aK;rw[if_pos h]
@[simp] theorem bT:bG ma ρ Ω=(ma ρ Ω).bind λx aQ=>srcOf aQ x:=rfl
theorem bF{ds:List D}(h:fu Ω x=some ds):srcOf Ω x=.ok (.seq x) Ω:=by unfold srcOf;rw[h]
@[simp] theorem GS:dH as ρ Ω=(as ρ Ω).bind tK:=rfl
@[simp] theorem Kh{j:Int}:tK [.int j] Ω=if i_ j then .ok (.ints 0 j.toNat) Ω else .bad:=rfl
@[simp] theorem cP:e9 (.seq x) Ω=fu Ω x:=rfl
@[simp] theorem GU{a:Int}{n:Nat}:e9 (.ints a n) Ω=some (intsFrom a n):=rfl
@[simp] theorem cY{a:D->aX->Option aX}{mi:IM}:eE a mi b ρ Ω=cq (mi ρ Ω) λs aQ=>e_ a s b fuel 0 ρ aQ:=rfl
def Cg(r:gP)(I:aX->aD->Prop)(R:gP->Prop):Prop:=match r with
 |.nx a b=>I a b
 |.ct a b=>I a b
 |.bk a b=>R (.nx a b)
 |r=>R r
theorem cf{k:D->aX->Option aX}{src:Src}{b:SM}{ds:List D}(I:Nat->aX->aD->Prop){R:gP->Prop}(l:∀i ρ Ω,I i ρ Ω->e9 src Ω=some ds)
  (h:∀(i:Nat) (d:D) ρ Ω,ds[i]?=some d->I i ρ Ω->∃e,k d ρ=some e/\Cg (b e Ω) (I (i+1)) R) (p:∀ρ Ω,I ds.length ρ Ω->R (.nx ρ Ω)) :
  ∀(f i:Nat) ρ Ω,ds.length - i<f->i<=ds.length->I i ρ Ω->R (e_ k src b f i ρ Ω):=by
 intro f
 induction f with
 |zero=>intro i ρ Ω r;omega
 |succ f o=>
  intro i ρ Ω r t n;simp only[e_,l i ρ Ω n]
  by_cases j:i<ds.length
  .have m:ds[i]?=some ds[i]:=List.getElem?_eq_getElem j
   rw[m];dsimp only;obtain⟨e,s,c⟩:=h i ds[i] ρ Ω m n;rw[s];dsimp only;cases q:b e Ω with
   |nx g a=>rw[q]at c;exact o (i+1) g a (by omega) j c
   |ct g a=>rw[q]at c;exact o (i+1) g a (by omega) j c
   |bk g a=>rw[q]at c;exact c
   |rt d a=>rw[q]at c;exact c
   |exc x a=>rw[q]at c;exact c
   |bad=>rw[q]at c;exact c
  .have m:ds[i]?=none:=List.getElem?_eq_none (by omega)
   rw[m];have:i=ds.length:=by omega
   subst this;exact p ρ Ω n
theorem Bj{nc:Bool}{mc me:EM}{c:aX}{src:Src}{ds:List D}{p:D->Bool}{g:D->D}(k:e9 src Ω=some ds)(l:∀d∈ds,kW nc mc ([some d]++c) Ω=.ok (p d) Ω)(m:∀d∈ds,p d=true->me ([some d]++c) Ω=.ok (g d) Ω) :
  ∀(f i:Nat) (a:List D),ds.length - i<f->i<=ds.length->a.length+ds.length<=100000+i->vK nc mc me 0 c src f i a Ω=.ok (a++((ds.drop i).filter p).map g) Ω:=by
 intro f
 induction f with
 |zero=>intro i a o;omega
 |succ f h=>
  intro i a o s t;simp only[vK,k]
  by_cases b:i<ds.length
  .have e:ds[i]?=some ds[i]:=List.getElem?_eq_getElem b
   have j:ds[i]∈ds:=List.getElem_mem b;rw[e];have q:pT 0 ds[i]=some [some ds[i]]:=rfl;simp only[q];rw[if_pos (aA (n:=a.length+1) (by omega)),l _ j,List.drop_eq_getElem_cons b,List.filter_cons]
   cases r:p ds[i]with
   |true=>
    dsimp only;rw[m _ j r];dsimp only;rw[h (i+1) _ (by omega) b (by rw[List.length_append];simp;omega)]
    simp
   |false=>
    dsimp only;rw[h (i+1) _ (by omega) b (by omega)]
    simp
  .have e:ds[i]?=none:=List.getElem?_eq_none (by omega)
   rw[e,List.drop_of_length_le (by omega)]
   simp
theorem dg{me mc:EM}{nc:Bool}{mi:IM}{cap:List Nat}{src:Src}{ds:List D}{p:D->Bool}{g:D->D}(a:mi ρ Ω=.ok src au)(b:e9 src au=some ds)(c:∀d∈ds,kW nc mc ([some d]++eI cap ρ) au=.ok (p d) au)(e:∀d∈ds,p d=true->me ([some d]++eI cap ρ) au=.ok (g d) au)(f:ds.length<=90000) :
  cJ me nc mc mi 0 cap ρ Ω=.ok (.ref au.length) (au++[.lst ((ds.filter p).map g)]):=by
 unfold cJ;rw[a];dsimp only;rw[Bj b c e fuel 0 [] (by unfold fuel;omega) (Nat.zero_le _) (by simp;omega)]
 rfl
theorem cg{k:Nat}{c:Cell}{l:aD}(h:Ω[k]?=some c):(Ω++l)[k]?=some c:=by rw[List.getElem?_append_left (List.getElem?_eq_some_iff.mp h).1];exact h
theorem aq{c:Cell}{l:aD}:(Ω++c::l)[Ω.length]?=some c:=by rw[List.getElem?_append_right (Nat.le_refl _)];simp
theorem bp{j k:Nat}{c e:Cell}(h:Ω[k]?=some c)(a:k≠j):(Ω.set j e)[k]?=some c:=by rw[List.getElem?_set_ne (Ne.symm a)];exact h
theorem aI{k:Nat}{c e:Cell}(h:Ω[k]?=some c):(Ω.set k e)[k]?=some e:=List.getElem?_set_self (List.getElem?_eq_some_iff.mp h).1
theorem bU{k:Nat}{c:Cell}(h:Ω[k]?=some c):k<Ω.length:=(List.getElem?_eq_some_iff.mp h).1
structure ag(fp:List Nat)(Ω au:aD):Prop where
 len:Ω.length<=au.length
 get:∀k c,Ω[k]?=some c->k∉fp->au[k]?=some c
theorem ag.refl{fp:List Nat}:ag fp Ω Ω:=⟨Nat.le_refl _,λ_ _ h _=>h⟩
theorem ag.trans{fp:List Nat}{aQ a b:aD}(h:ag fp aQ a)(h':ag fp a b):ag fp aQ b:=⟨Nat.le_trans h.len h'.len,λk c q n=>h'.get k c (h.get k c q n) n⟩
theorem ag.app{fp:List Nat}{l:aD}:ag fp Ω (Ω++l):=⟨by simp,λk c h _=>cg h⟩
theorem ag.set{fp:List Nat}{j:Nat}{c:Cell}(h:j∈fp):ag fp Ω (Ω.set j c):=⟨by simp,λk e q n=>bp q λz=>n (z▸h)⟩
theorem ag.sub{fp a:List Nat}(h:ag fp Ω au)(b:∀k∈fp,k∈a):ag a Ω au:=⟨h.len,λk c q n=>h.get k c q λz=>n (b k z)⟩
end
section
variable{Ω au:aD}{ρ:aX}{d x y:D}{k:Nat}{ws:List Str}{w:Str}{L:List (List Str)}{rs:List Nat}
theorem DT{n:Nat}{kvs:List (List Key×D)}(h:Ω[k]?=some (.dT kvs)):ef Ω (n+1) (.ref k)=none:=by simp only[ef,h]
theorem yi{y:D}{a:List Key}{kvs:List (List Key×D)}(h:Ω[k]?=some (.dT kvs))(b:mI y=some a):nJ Ω (.ref k) y=some (bC kvs a):=by simp only[nJ,h,b,Option.map_some]
theorem vI{ds:List D}(h:Ω[k]?=some (.lst ds)):bu .tuple [.ref k] Ω=.ok (.tup ds) Ω:=by
 show kT [.ref k] Ω=_
 simp only[kT,aB h]
theorem fH{ds:List D}(h:Ω[k]?=some (.lst ds)):bu .len [.ref k] Ω=.ok (.int ds.length) Ω:=by
 show ie (nQ [.ref k] Ω) _=_
 simp only[nQ,aP,aB h];rfl
theorem fI{ds:List D}{d:D}(h:Ω[k]?=some (.lst ds))(a:ds.length<=1000):cW (.ref k) [d] Ω=.ok .non (Ω.set k (.lst (ds++[d]))):=by
 simp only[cW,iS h];rw[if_pos (aA (by omega))]
theorem dU{ds:List D}(h:Ω[k]?=some (.lst ds)):jI Ω (.ref k)=true:=by simp only[jI,aB h];rfl
theorem lB(h:Ω[k]?=some (.lst (ws.map .str))):aG .In (.str w) (.ref k) Ω=.ok (.bl (decide (w∈ws))) Ω:=by
 simp[ed (n:=7) h]
theorem oy(h:Ω[k]?=some (.lst (ws.map .str))):aG .NotIn (.str w) (.ref k) Ω=.ok (.bl (!decide (w∈ws))) Ω:=by
 simp[ed (n:=7) h]
theorem GV{c d:Type}[BEq c][LawfulBEq c]{f:c->d}{p:d->Bool}{a:c}(g:∀b,p (f b)=(b==a)):∀(xs:List c),a∈xs->(xs.map f).findIdx? p=some (xs.idxOf a)
 |[],h=>by simp at h
 |b::xs,h=>by
  rw[List.map_cons,List.findIdx?_cons,g,List.idxOf_cons];cases e:b==a with
  |true=>rfl
  |false=>
   have i:a∈xs:=by
    rcases List.mem_cons.mp h with z|z
    .rw[z,beq_self_eq_true]at e;cases e
    .exact z
   simp[GV g xs i]
theorem sj(h:w∈ws):qZ .index (.lst (ws.map .str)) (.tup [.str w])=.ok (false,.int (ws.idxOf w:Nat)):=by
 have e:(ws.map D.str).findIdx? (λy=>ei y (.str w))=some (ws.idxOf w):=GV (λb=>rfl) ws h
 unfold qZ;simp only[oh 8 ws,e];rfl
theorem mS(h:Ω[k]?=some (.lst (ws.map .str)))(a:w∈ws):eD (.ref k) [.str w] Ω=.ok (.int (ws.idxOf w:Nat)) Ω:=by
 have:=sj a;simp only[eD,iQ,ed (n:=7) h,gF,iP,L1,this];rfl
theorem yj{n:Nat}(a:Ω[k]?=some (.lst (rs.map .ref)))(h:az (λj row=>Ω[j]?=some (.lst (row.map .str))) rs L):ef Ω (n+2) (.ref k)=some (LL L):=by
 refine jW (es:=L.map L1) a ?_;clear a
 induction h with
 |nil=>rfl
 |cons b d c=>rw[List.map_cons,t9,ed b,c];rfl
theorem fJ{C m:Str}{F:aR}{c:EM}{d:AM}{a:List (Str×D)}(e:c ρ Ω=.ok (.ref k) au)(f:au[k]?=some (.ins C a))(g:a.lookup m=none):aC C m F c d ρ Ω=(d ρ au).bind λxs b=>xB (F (.ref k::xs) b):=by
 unfold aC;rw[e]
 show(match nX au (.ref k)with|some (_,h,a)=>_|none=>_)=_
 rw[iT f];simp only[g,and_self,if_true];rfl
theorem gs{a:aD->D->Bool}{f:D->List D->aD->aw D}{c:EM}{d:AM}(e:c ρ Ω=.ok x au)(h:a au x=true):cE a f c d ρ Ω=(d ρ au).bind λxs b=>f x xs b:=by
 unfold cE;rw[e]
 show(if a au x=true then _ else _)=_
 rw[if_pos h]
end
variable [aO]
section
variable{Ω au aQ Jr:aD}{ρ:aX}{k q:Nat}{x y:D}
theorem ag.new{fp:List Nat}(h:ag [] Ω aQ)(h':ag fp aQ Jr)(a:∀j∈fp,Ω.length<=j):ag [] Ω Jr:=⟨Nat.le_trans h.len h'.len,λk c e _=>h'.get k c (h.get k c e (by simp)) λz=>by have:=a k z;have:=bU e;omega⟩
theorem qq.up{fp:List Nat}(h:ag [] Ω au):ag fp Ω au:=h.sub (by simp)
@[simp] theorem GW{z:Str}:aF (.str z) y Ω=v2 Ω qY (some (.str z)) (ef Ω 8 y):=by
 unfold aF;rw[dD,dD,gG,iQ];simp[fu,cV,ixs,xi,nJ]
@[simp] theorem GX{z:Str}{l h:Option Int}:jH (.str z) l h Ω=fq Ω (wy (.str z) l h):=rfl
@[simp] theorem iU{c d e:EM}{f g:Bool}:dZ c f d g e ρ Ω=(c ρ Ω).bind λx aQ=>(gg f d ρ aQ).bind λl a=>(gg g e ρ a).bind λh b=>jH x l h b:=rfl
@[simp] theorem oz{m:EM}:gg true m ρ Ω=.ok none Ω:=rfl
noncomputable def Q_(Ω:aD):D->aw (Option Int)
 |.int i=>.ok (some i) Ω
 |_=>.bad
@[simp] theorem oA{m:EM}:gg false m ρ Ω=(m ρ Ω).bind λd aQ=>Q_ aQ d:=by
 simp only[gg,Bool.false_eq_true,if_false]
 congr 1
@[simp] theorem ue{i:Int}:Q_ Ω (.int i)=.ok (some i) Ω:=rfl
end
def nC:EM:=cJ (m2 aF (aa 2) (m2 (bf .Mod) (m2 (bf .Add) (aa 1) (m2 (bf .Mult) (aa 0) (aa 3))) (ah (.int 26)))) true (ah .non) (dH (ab (ah (.int 8)) af)) 0 [4,3,5]
def nD:EM:=cJ (dZ (aa 1) true (ah .non) false (m2 (bf .Add) (aa 0) (ah (.int 1)))) true (ah .non) (dH (ab (aa 2) af)) 0 [6]
section
variable{Ω:aD}{F:List D->Out Rs}{δ:List Int->Int->Int->Int}{ns:List Int}
end
section
variable{κ β:Type}[DecidableEq κ]
theorem cF{p:κ×β}{kvs:List (κ×β)}{k:κ}:bC (p::kvs) k=if p.1=k then some p.2 else bC kvs k:=by
 unfold bC;rw[List.find?_cons]
 by_cases h:p.1=k<;>simp[h]
theorem qr{k a:κ}{v:c}:∀{kvs:List (κ×c)},bC (kvs.map λb=>if b.1=k then (b.1,v)else b) a=if a=k then (bC kvs k).map λ_=>v else bC kvs a
 |[]=>by simp[bC]
 |p::kvs=>by
  rw[List.map_cons,cF,cF,cF,qr]
  by_cases h:p.1=k
  .rw[if_pos h]
   by_cases h':a=k
   .subst h';simp[h]
   .have:¬ k=a:=λe=>h' e.symm
    simp[h,h',this]
  .rw[if_neg h]
   by_cases h':a=k
   .subst h';simp[h]
   .simp[h']
theorem qu{k a:κ}{v:b}:∀{kvs:List (κ×b)},bC (kvs++[(k,v)]) a=match bC kvs a with|some d=>some d|none=>if a=k then some v else none
 |[]=>by
  rw[List.nil_append,cF]
  by_cases h:k=a
  .subst h;simp[bC]
  .have:¬ a=k:=λe=>h e.symm
   simp[bC,h,this]
 |p::kvs=>by
  rw[List.cons_append,cF,cF,qu]
  by_cases h:p.1=a<;>simp[h]
theorem lC{k:κ}:∀{kvs:List (κ×b)},(kvs.any λa=>decide (a.1=k))=(bC kvs k).isSome
 |[]=>rfl
 |p::kvs=>by
  rw[List.any_cons,cF,lC]
  by_cases h:p.1=k<;>simp[h]
theorem gH{kvs:List (κ×β)}{k a:κ}{v:β}:bC (bH kvs k v) a=if a=k then some v else bC kvs a:=by
 unfold bH;rw[lC];cases h:bC kvs k with
 |none=>
  rw[Option.isSome_none,if_neg (by simp),qu]
  by_cases b:a=k
  .subst b;simp[h]
  .cases q:bC kvs a<;>simp[b]
 |some d=>
  rw[Option.isSome_some,if_pos rfl,qr,h]
  by_cases b:a=k<;>simp[b]
theorem yk{kvs:List (κ×β)}{k:κ}{v:β}:(bH kvs k v).length<=kvs.length+1:=by
 unfold bH;split<;>simp
end
section
variable{Ω au:aD}{F:List D->Out Rs}{δ:List Int->Int->Int->Int}{ns:List Int}{t:Nat}{kvs:List (List Key×D)}
theorem gu{xs:List Str}{i:Nat}{d:D}(h:(xs.map D.str)[i]?=some d):∃x,xs[i]?=some x/\d=.str x:=by
 rw[List.getElem?_map]at h;obtain⟨x,a,b⟩:=Option.map_eq_some_iff.mp h;exact⟨x,a,b.symm⟩
theorem ym{xs:List Str}{i:Nat}{x z:Str}(h:xs[i]?=some x)(hz:z∈xs.take (i+1)):z∈xs.take i\/z=x:=by
 rw[List.take_succ,h]at hz;simpa using hz
end
theorem mT{O:aR}{ds:List D}{d:D}{au:aD}(a:ds.all DL=true)(h:O ds []=.ok d au)(b:eJ d=true):pureOf O ds=.ok (false,d):=by
 unfold pureOf;rw[if_pos a,h];dsimp only;rw[if_pos b]
def GY:SM:=(aj (aJ 3 (m2 (bf .FloorDiv) (aa 3) (ah (.int 840)))) ai)
def GZ:SM:=(dR (gh (m2 (aG .Eq) (m2 (bf .Mod) (aa 0) (ah (.int 2))) (ah (.int 1))) (m2 (aG .Gt) (aa 0) (m2 (bf .Pow) (ah (.int 10)) (ah (.int 18)))))
 (aj (eE (du 4) (dH (ab (aa 1) af)) GY)
 (aj (bP (m2 (bf .Mod) (m2 (bf .Mod) (aa 3) (ah (.int 840))) (aa 2)))
 ai))
 ai)
def Ra:SM:=(aj (aJ 5 (mN bB (ab (ah (.int 48271)) (ab (ah (.int 69621)) (ab (ah (.int 40692)) (ab (ah (.int 39373)) (ab (ah (.int 16807)) (ab (ah (.int 30323)) (ab (ah (.int 21403)) (ab (ah (.int 62089)) (ab (ah (.int 45742)) (ab (ah (.int 37907)) (ab (ah (.int 53611)) (ab (ah (.int 28411)) (ab (ah (.int 59393)) (ab (ah (.int 33391)) af))))))))))))))))
 (aj (aJ 6 (m2 (bf .Mod) (m2 (bf .Mult) (m2 (bf .Add) (m2 (bf .Mod) (aa 0) (ah (.int 1000000007))) (ah (.int 11))) (m2 aF (aa 5) (m2 (bf .Mod) (aa 1) (ah (.int 14))))) (ah (.int 2147483629))))
 (aj (aJ 7 (m2 (bf .Mod) (m2 (bf .Mult) (aa 6) (m2 (bf .Add) (aa 6) (aa 1))) (ah (.int 1999999973))))
 (aj (bP (m2 (bf .Mod) (m2 (bf .FloorDiv) (m2 (bf .Mod) (m2 (bf .Mult) (aa 7) (ah (.int 16807))) (ah (.int 998244353))) (ah (.int 1000))) (aa 2)))
 ai))))
def mU:SM:=
 (aj (aJ 3 (m2 (bf .FloorDiv) (aa 0) (ah (.int 2))))
 (aj GZ Ra))
@[simp] theorem G7{x y:D}{Ω:aD}:bf .Pow x y Ω=ft (eU .Pow) x y Ω:=rfl
theorem Bk{c t m:Int}(K:0<=t)(u:t<100000)(g:0<m):∃r,0<=r/\r<m/\pureOf (aK 8 3 mU) [.int c,.int t,.int m]=.ok (false,.int r):=by
 have j:∃r b,0<=r/\r<m/\aK 8 3 mU [.int c,.int t,.int m] []=.ok (.int r) b:=by
  rw[aT (by rfl)]
  have w:aL 8 [D.int c,.int t,.int m]=[some (.int c),some (.int t),some (.int m),none,none,none,none,none]:=rfl;rw[w];unfold mU;have y:(aJ 3 (m2 (bf .FloorDiv) (aa 0) (ah (.int 2)))) [some (.int c),some (.int t),some (.int m),none,none,none,none,none] []=.nx [some (.int c),some (.int t),some (.int m),some (.int (c / 2)),none,none,none,none] []:=by simp
  rw[ae,y,ax,ae]
  by_cases k:c%2=1/\1000000000000000000<c
  .have l:i_ t=true:=eO (by omega) (by omega)
   have n:∃x a,e_ (du 4) (.ints 0 t.toNat) GY fuel 0 [some (.int c),some (.int t),some (.int m),some (.int (c / 2)),none,none,none,none] []=.nx [some (.int c),some (.int t),some (.int m),some (.int x),a,none,none,none] []:=by
    refine cf (R:=λr=>∃x a,r=.nx [some (.int c),some (.int t),some (.int m),some (.int x),a,none,none,none] []) (ds:=intsFrom 0 t.toNat) (λ_ o p=>∃x a,o=[some (.int c),some (.int t),some (.int m),some (.int x),a,none,none,none]/\p=[]) (λ_ _ _ _=>rfl) ?_ ?_ fuel 0 _ _ (by rw[dS];unfold fuel;omega) (Nat.zero_le _) ⟨_,_,rfl,rfl⟩
    .rintro i d o p q ⟨x,a,rfl,rfl⟩
     refine⟨_,rfl,?_⟩;have e:GY [some (.int c),some (.int t),some (.int m),some (.int x),some d,none,none,none] []=.nx [some (.int c),some (.int t),some (.int m),some (.int (x / 840)),some d,none,none,none] []:=by simp[GY]
     show Cg (GY [some (.int c),some (.int t),some (.int m),some (.int x),some d,none,none,none] []) _ _
     rw[e];exact⟨_,_,rfl,rfl⟩
    .rintro o p ⟨x,a,rfl,rfl⟩
     exact⟨x,a,rfl⟩
   obtain⟨x,a,n⟩:=n;refine⟨x%840%m,[],Int.emod_nonneg _ (by omega),Int.emod_lt_of_pos _ g,?_⟩
   simp[GZ,k.1,k.2,l,n,g]
  .obtain⟨d,q,e⟩:=DO (xs:=[D.int 48271,.int 69621,.int 40692,.int 39373,.int 16807,.int 30323,.int 21403,.int 62089,.int 45742,.int 37907,.int 53611,.int 28411,.int 59393,.int 33391]) (i:=t%14) (Int.emod_nonneg _ (by omega)) (Int.emod_lt_of_pos _ (by omega))
   obtain⟨v,rfl⟩:∃v,d=.int v:=by
    simp only[List.mem_cons,List.not_mem_nil,or_false]at q;rcases q with h|h|h|h|h|h|h|h|h|h|h|h|h|h<;>exact⟨_,h⟩
   have A:([]++[Cell.lst [D.int 48271,.int 69621,.int 40692,.int 39373,.int 16807,.int 30323,.int 21403,.int 62089,.int 45742,.int 37907,.int 53611,.int 28411,.int 59393,.int 33391]]:aD)[0]?=some (.lst [D.int 48271,.int 69621,.int 40692,.int 39373,.int 16807,.int 30323,.int 21403,.int 62089,.int 45742,.int 37907,.int 53611,.int 28411,.int 59393,.int 33391]):=rfl;have s:=bx A e;have B:jF (c%1000000007+11)=true:=iN (by omega) (by omega)
   have C:jF ((c%1000000007+11)*v%2147483629)=true:=iN (by omega) (by omega)
   have E:jF ((c%1000000007+11)*v%2147483629*((c%1000000007+11)*v%2147483629+t)%1999999973)=true:=iN (by omega) (by omega)
   have rI:GZ [some (.int c),some (.int t),some (.int m),some (.int (c / 2)),none,none,none,none] []=.nx [some (.int c),some (.int t),some (.int m),some (.int (c / 2)),none,none,none,none] []:=by
    by_cases f:c%2=1
    .have F:¬ 1000000000000000000<c:=λz=>k ⟨f,z⟩
     simp[GZ,f,F]
    .have G:(c%2==1)=false:=by simpa using f
     simp[GZ,G]
   refine⟨(c%1000000007+11)*v%2147483629*((c%1000000007+11)*v%2147483629+t)%1999999973*16807%998244353 / 1000%m,([]++[Cell.lst [D.int 48271,.int 69621,.int 40692,.int 39373,.int 16807,.int 30323,.int 21403,.int 62089,.int 45742,.int 37907,.int 53611,.int 28411,.int 59393,.int 33391]]:aD),Int.emod_nonneg _ (by omega),Int.emod_lt_of_pos _ g,?_⟩
   rw[rI,ax];have H:(aJ 5 (mN bB (ab (ah (.int 48271)) (ab (ah (.int 69621)) (ab (ah (.int 40692)) (ab (ah (.int 39373)) (ab (ah (.int 16807)) (ab (ah (.int 30323)) (ab (ah (.int 21403)) (ab (ah (.int 62089)) (ab (ah (.int 45742)) (ab (ah (.int 37907)) (ab (ah (.int 53611)) (ab (ah (.int 28411)) (ab (ah (.int 59393)) (ab (ah (.int 33391)) af)))))))))))))))) [some (.int c),some (.int t),some (.int m),some (.int (c / 2)),none,none,none,none] []=.nx [some (.int c),some (.int t),some (.int m),some (.int (c / 2)),none,some (.ref 0),none,none] ([]++[Cell.lst [D.int 48271,.int 69621,.int 40692,.int 39373,.int 16807,.int 30323,.int 21403,.int 62089,.int 45742,.int 37907,.int 53611,.int 28411,.int 59393,.int 33391]]):=rfl;unfold Ra;rw[ae,H,ax];generalize ([]++[Cell.lst [D.int 48271,.int 69621,.int 40692,.int 39373,.int 16807,.int 30323,.int 21403,.int 62089,.int 45742,.int 37907,.int 53611,.int 28411,.int 59393,.int 33391]]:aD)=I at s;simp[s,B,C,E,g]
 obtain⟨r,b,J,f,e⟩:=j;exact⟨r,J,f,mT rfl e rfl⟩
section
variable{Ω au:aD}{ρ:aX}
theorem DU{mc me:EM}{g:aX}{src:Src}{ds:List D}(I:Nat->List D->aD->Prop)(k:∀i a Ω,I i a Ω->e9 src Ω=some ds)(l:∀i d a Ω,ds[i]?=some d->I i a Ω->∃y au,me ([some d]++g) Ω=.ok y au/\I (i+1) (a++[y]) au) :
  ∀(f i:Nat) (a:List D) Ω,I i a Ω->ds.length - i<f->i<=ds.length->a.length+ds.length<=100000+i->∃j au,vK true mc me 0 g src f i a Ω=.ok j au/\I ds.length j au:=by
 intro f
 induction f with
 |zero=>intro i a Ω c m;omega
 |succ f o=>
  intro i a Ω c m t u;simp only[vK,k i a Ω c]
  by_cases b:i<ds.length
  .have e:ds[i]?=some ds[i]:=List.getElem?_eq_getElem b
   rw[e];have p:pT 0 ds[i]=some [some ds[i]]:=rfl;obtain⟨y,h,q,r⟩:=l i ds[i] a Ω e c;have s:kW true mc ([some ds[i]]++g) Ω=.ok true Ω:=rfl;simp only[p];rw[if_pos (aA (n:=a.length+1) (by omega)),s]
   dsimp only;rw[q];dsimp only;exact o (i+1) (a++[y]) h r (by omega) b (by rw[List.length_append];simp;omega)
  .have e:ds[i]?=none:=List.getElem?_eq_none (by omega)
   rw[e];have:i=ds.length:=by omega
   subst this;exact⟨a,Ω,rfl,c⟩
theorem oB{me mc:EM}{mi:IM}{cap:List Nat}{src:Src}{ds:List D}(I:Nat->List D->aD->Prop)(e:mi ρ Ω=.ok src au)(f:I 0 [] au)(g:∀i b Ω,I i b Ω->e9 src Ω=some ds)(h:∀i d b Ω,ds[i]?=some d->I i b Ω->∃y au,me ([some d]++eI cap ρ) Ω=.ok y au/\I (i+1) (b++[y]) au)(l:ds.length<=90000) :
  ∃c a,cJ me true mc mi 0 cap ρ Ω=.ok (.ref a.length) (a++[.lst c])/\I ds.length c a:=by
 obtain⟨c,a,j,k⟩:=DU (mc:=mc) I g h fuel 0 [] au f (by unfold fuel;omega) (Nat.zero_le _) (by simp;omega)
 refine⟨c,a,?_,k⟩;unfold cJ;rw[e];dsimp only;rw[j];rfl
def Mc(Ω:aD)(j:Nat)(row:List Str):Prop:=Ω[j]?=some (.lst (row.map .str))
def oT(Ω:aD)(a:List Nat)(rs:List (List Str)):Prop:=az (Mc Ω) a rs
structure Rw(Ω:aD)(k:Nat)(js:List Nat)(rs:List (List Str)):Prop where
 ce:Ω[k]?=some (.lst (js.map .ref))
 al:oT Ω js rs
section
variable{k:Nat}{js:List Nat}{rs:List (List Str)}{row:List Str}{n:Str}
theorem oT.keep:∀{a:List Nat}{rs:List (List Str)},oT Ω a rs->∀{fp:List Nat},ag fp Ω au->(∀j∈a,j∉fp)->oT au a rs
 |_,_,.nil,_,_,_=>.nil
 |_,_,.cons r t,fp,K,h=>.cons (K.get _ _ r (h _ (by simp))) (oT.keep t K λj b=>h j (by simp[b]))
theorem Rw.keep(R:Rw Ω k js rs)(K:ag [] Ω au):Rw au k js rs:=⟨K.get _ _ R.ce (by simp),R.al.keep K (by simp)⟩
theorem Rw.G8(R:Rw Ω k js rs){fp:List Nat}(K:ag fp Ω au)(a:k∉fp)(b:∀j∈js,j∉fp):Rw au k js rs:=⟨K.get _ _ R.ce a,R.al.keep K b⟩
theorem oT.len(h:oT Ω js rs):rs.length=js.length:=az.length h
theorem Rw.len(R:Rw Ω k js rs):rs.length=js.length:=R.al.len
theorem oT.at'{i j:Nat}(h:oT Ω js rs)(a:js[i]?=some j):∃row,rs[i]?=some row/\Ω[j]?=some (.lst (row.map .str)):=az.get (R:=Mc Ω) h a
theorem oT.lt(h:oT Ω js rs):∀j∈js,j<Ω.length:=λj a=>by
 obtain⟨i,b⟩:=List.mem_iff_getElem?.mp a;obtain⟨c,_,d⟩:=h.at' b;exact bU d
theorem oC{a:List Nat}{i:Nat}{d:D}(h:(a.map D.ref)[i]?=some d):∃j,a[i]?=some j/\d=.ref j:=by
 rw[List.getElem?_map]at h;obtain⟨x,b,c⟩:=Option.map_eq_some_iff.mp h;exact⟨x,b,c.symm⟩
def Ki:SM:=(aj (dR (m2 (aG .In) (aa 1) (dZ (aa 3) false (ah (.int 1)) true (ah .non))) (aj (bP (aa 2)) ai) ai) ai)
def sk:SM:=(aj (eE (iI [2,3]) (pQ (aa 0)) Ki) (aj (bP (ah .non)) ai))
theorem yn{j:Nat}(h:Ω[j]?=some (.lst (row.map .str))):jH (.ref j) (some 1) none Ω=.ok (.ref Ω.length) (Ω++[.lst (row.tail.map .str)]):=by
 have e:df (row.map D.str) (some 1) none=row.tail.map .str:=by
  have:=rZ (row.map D.str) 1;rw[show((1:Nat):Int)=1 by rfl]at this
  rw[this,←List.map_drop,List.drop_one]
 simp only[jH,aB h,oo,e]
theorem DV{j i:Nat}(h:Ω[j]?=some (.lst (row.map .str))):∃au,ag [] Ω au/\Ki [some (.ref k),some (.str n),some (.int i),some (.ref j)] Ω=if n∈row.tail then .rt (.int i) au else .nx [some (.ref k),some (.str n),some (.int i),some (.ref j)] au:=by
 have c:=yn h;have e:(Ω++[Cell.lst (row.tail.map .str)])[Ω.length]?=some (.lst (row.tail.map .str)):=aq;have f:ag [] Ω (Ω++[Cell.lst (row.tail.map .str)]):=ag.app;generalize Ω++[Cell.lst (row.tail.map .str)]=b at *;have d:=lB (w:=n) e;refine⟨b,f,?_⟩
 by_cases a:n∈row.tail
 .rw[if_pos a,decide_eq_true a]at *
  simp[Ki,c,d,-di]
 .rw[if_neg a,decide_eq_false a]at *
  simp[Ki,c,d,-di]
theorem DW(R:Rw Ω k js rs)(B:rs.length<=1000):∃d au,aK 4 2 sk [.ref k,.str n] Ω=.ok d au/\ag [] Ω au/\((d=.non/\∀r∈rs,n∉r.tail)\/∃i:Nat,d=.int i/\∃r,rs[i]?=some r/\n∈r.tail):=by
 rw[aT (by rfl)]
 have x:aL 4 [D.ref k,.str n]=[some (.ref k),some (.str n),none,none]:=rfl;rw[x];have y:=R.len
 have o:pQ (aa 0) [some (.ref k),some (.str n),none,none] Ω=.ok (.Jq (.ref k)) Ω:=by
  unfold pQ;simp[aB R.ce]
 unfold sk;rw[ae,cY,o,cu]
 refine cf (R:=λr=>∃d au,h8 (sq r _)=.ok d au/\ag [] Ω au/\((d=.non/\∀r∈rs,n∉r.tail)\/∃i:Nat,d=.int i/\∃r,rs[i]?=some r/\n∈r.tail)) (ds:=dh 0 (js.map .ref))
  (λi g a=>∃p q,g=[some (.ref k),some (.str n),p,q]/\(∀r∈rs.take i,n∉r.tail)/\ag [] Ω a) ?_ ?_ ?_ fuel 0 _ _ (by rw[iC];unfold fuel;simp;omega) (Nat.zero_le _) ⟨none,none,rfl,by simp,ag.refl⟩
 .rintro i g a ⟨_,_,_,_,K⟩
  show(fu a (.ref k)).map (dh 0)=_
  rw[aP,aB (R.keep K).ce];rfl
 .rintro i d g a z ⟨p,q,rfl,l,K⟩
  obtain⟨C,s,rfl⟩:=jR _ 0 i d z;obtain⟨j,A,rfl⟩:=oC s;obtain⟨c,u,f⟩:=(R.keep K).al.at' A;rw[Nat.zero_add];refine⟨[some (.ref k),some (.str n),some (.int i),some (.ref j)],rfl,?_⟩;obtain⟨t,w,e⟩:=DV (k:=k) (n:=n) (i:=i) f;rw[e]
  by_cases m:n∈c.tail
  .rw[if_pos m]
   exact⟨.int i,t,rfl,K.trans w,.inr ⟨i,rfl,c,u,m⟩⟩
  .rw[if_neg m]
   refine⟨_,_,rfl,λr b=>?_,K.trans w⟩
   rw[List.take_succ,u]at b;simp at b;rcases b with h|rfl
   .exact l r h
   .exact m
 .rintro g a ⟨p,q,rfl,l,K⟩
  rw[iC,List.length_map,←y,List.take_length]at l;exact⟨.non,a,rfl,K,.inl ⟨rfl,l⟩⟩
def G9(a:aR):SM:=(aj (dR (gh (aa 1) (m2 (aG .Is) (mN (bj a) (ab (aa 0) (ab (m2 aF (aa 1) (ah (.int 0))) af))) (ah .non))) (aj (bP (m2 aF (aa 1) (ah (.int 0)))) ai) ai) ai)
def Bl(a:aR):SM:=(aj (eE (du 1) (bG (aa 0)) (G9 a)) (aj (bP (ah .non)) ai))
theorem iV{j:Nat}{ds:List D}(h:Ω[j]?=some (.lst ds)):fR Ω (.ref j)=some (!ds.isEmpty):=by simp only[fR,h]
theorem DX{j:Nat}(R:Rw Ω k js rs)(p:rs.length<=1000)(h:Ω[j]?=some (.lst (row.map .str))):∃au,ag [] Ω au/\G9 (aK 4 2 sk) [some (.ref k),some (.ref j)] Ω=match freeOf rs row with|some m=>.rt (.str m) au|none=>.nx [some (.ref k),some (.ref j)] au:=by
 cases row with
 |nil=>
  have b:=iV h;refine⟨Ω,ag.refl,?_⟩;simp[G9,freeOf,b]
 |cons m t=>
  have b:=iV h;have b:fR Ω (.ref j)=some true:=b;have c:aF (.ref j) (.int 0) Ω=.ok (.str m) Ω:=bx h (L2.dw (j:=0) rfl);obtain⟨d,a,l,o,q⟩:=DW (n:=m) R p;have s:=o.get _ _ h (by simp)
  have e:aF (.ref j) (.int 0) a=.ok (.str m) a:=bx s (L2.dw (j:=0) rfl);refine⟨a,o,?_⟩;generalize aK 4 2 sk=w at *;rcases q with ⟨rfl,f⟩|⟨i,rfl,r,g,f⟩
  .rw[sg (by rintro⟨r,g,u⟩;exact f r g u)]
   simp[G9,b,c,l,e]
  .rw[sd ⟨r,List.mem_of_getElem? g,f⟩]
   simp[G9,b,c,l]
theorem DY(R:Rw Ω k js rs)(u:rs.length<=1000):∃au,aK 2 1 (Bl (aK 4 2 sk)) [.ref k] Ω=.ok (Bc (free rs)) au/\ag [] Ω au:=by
 rw[aT (by rfl)]
 have w:aL 2 [D.ref k]=[some (.ref k),none]:=rfl;rw[w];have y:=R.len;have n:bG (aa 0) [some (.ref k),none] Ω=.ok (.seq (.ref k)) Ω:=by simp[bF (x:=.ref k) (by rw[aP,aB R.ce])]
 unfold Bl;rw[ae,cY,n,cu]
 refine cf (R:=λr=>∃au,h8 (sq r _)=.ok (Bc (free rs)) au/\ag [] Ω au) (ds:=js.map .ref)
  (λi h a=>∃o,h=[some (.ref k),o]/\(rs.take i).findSome? (freeOf rs)=none/\ag [] Ω a) ?_ ?_ ?_ fuel 0 _ _ (by unfold fuel;simp;omega) (Nat.zero_le _) ⟨none,rfl,rfl,ag.refl⟩
 .rintro i h a ⟨_,_,_,K⟩
  rw[cP,aP,aB (R.keep K).ce]
 .rintro i d h a p ⟨o,rfl,c,K⟩
  obtain⟨j,z,rfl⟩:=oC p;have R2:=R.keep K;obtain⟨b,l,f⟩:=R2.al.at' z;refine⟨[some (.ref k),some (.ref j)],rfl,?_⟩;obtain⟨q,s,e⟩:=DX R2 u f;rw[e];have A:rs.take (i+1)=rs.take i++[b]:=by rw[List.take_succ,l];rfl
  cases t:freeOf rs b with
  |some m=>
   refine⟨q,?_,K.trans s⟩
   have:free rs=some m:=by
    unfold free
    have p:rs=rs.take i++(b::rs.drop (i+1)):=by
     have g:i<rs.length:=(List.getElem?_eq_some_iff.mp l).1;rw[List.getElem?_eq_getElem g]at l;cases l;rw[←List.drop_eq_getElem_cons g,List.take_append_drop]
    conv=>lhs;arg 2;rw[p]
    rw[List.findSome?_append,c,List.findSome?_cons,t];rfl
   rw[this];rfl
  |none=>
   refine⟨_,rfl,?_,K.trans s⟩;rw[A,List.findSome?_append,c,List.findSome?_cons,t];rfl
 .rintro h a ⟨o,rfl,c,K⟩
  rw[List.length_map,←y,List.take_length]at c;refine⟨a,?_,K⟩;unfold free;rw[c];rfl
end
end
open PySem.Spec PyProof.Rows
noncomputable def aM.c_(T:aM)(F:List D->aR):aM:={T with clo:=T.clo++[F]}
section
variable{P:Program}{w:World}{K:PySem.W.Frag}{mg:Str->Option Value}{base:Heap}{T:aM}{k:Nat}
end
end Mir
namespace Mir
open PySem PySem.Spec PyProof.Rows L2
section
variable{X:Cx}{pins:List (Addr×Obj)}{σ:L2.St}{s:Shared}
end
variable [aO]
section
variable{κ:Str->Addr->Prop}{α hU:List Addr}{Z Z0:Addr->Prop}{Ω:aD}{H H0 H2:Hp}{ρ:aX}{σ:L2.St}
end
section
variable{P:Program}{w:World}{K:PySem.W.Frag}{mg:Str->Option Value}{base:Heap}{T T2:aM}{k:Nat}
end
section
variable{P:Program}{w:World}{K:PySem.W.Frag}{mg:Str->Option Value}{base:Heap}{T:aM}{k:Nat}
end
end Mir
namespace Mir
open PySem L2
variable [aO]
section
variable{Ω au:aD}{ρ:aX}{σ:Str->Int}{t kl:Nat}{kvs:List (List Key×D)}{line:List Str}{w x:Str}
theorem Bm{ds:List D}{n:Nat}:df ds none (some (n:Int))=ds.take n:=r_ ds n
theorem oD{n:Nat}(h:Ω[kl]?=some (.lst (line.map .str))):jH (.ref kl) none (some (n:Int)) Ω=.ok (.ref Ω.length) (Ω++[.lst ((line.take n).map .str)]):=by
 simp only[jH,aB h,oo,Bm,List.map_take]
@[simp] theorem Kj{a:Ty}{z:Str}:nT a (.str z) Ω=.ok (.bl (a==.str)) Ω:=rfl
@[simp] theorem Kk{a:Ty}:nT a .non Ω=.ok (.bl false) Ω:=rfl
@[simp] theorem G_{ds:List D}:bu .len [.tup ds] Ω=.ok (.int ds.length) Ω:=rfl
end
section
variable{Ω au:aD}{ρ:aX}
theorem DZ{nc:Bool}{mc me:EM}{j:aX}{src:Src}{ds:List D}{p:D->Bool}{g:D->D}(I:Nat->aD->Prop)(r:∀i Ω,I i Ω->e9 src Ω=some ds)
  (s:∀i d Ω,ds[i]?=some d->I i Ω->∃au,kW nc mc ([some d]++j) Ω=.ok (p d) au/\I (i+1) au/\(p d=true->me ([some d]++j) au=.ok (g d) au)) :
  ∀(f i:Nat) (a:List D) (Ω:aD),ds.length - i<f->i<=ds.length->a.length+ds.length<=100000+i->I i Ω->∃au,vK nc mc me 0 j src f i a Ω=.ok (a++((ds.drop i).filter p).map g) au/\I ds.length au:=by
 intro f
 induction f with
 |zero=>intro i a Ω t;omega
 |succ f o=>
  intro i a Ω t z A k;simp only[vK,r i Ω k]
  by_cases b:i<ds.length
  .have h:ds[i]?=some ds[i]:=List.getElem?_eq_getElem b
   rw[h];have u:pT 0 ds[i]=some [some ds[i]]:=rfl;simp only[u];obtain⟨e,w,q,x⟩:=s i ds[i] Ω h k;rw[if_pos (aA (n:=a.length+1) (by omega)),w,List.drop_eq_getElem_cons b,List.filter_cons]
   cases y:p ds[i]with
   |true=>
    dsimp only;rw[x y];dsimp only;obtain⟨c,l,m⟩:=o (i+1) (a++[g ds[i]]) e (by omega) b (by rw[List.length_append];simp;omega) q
    exact⟨c,by rw[l];simp,m⟩
   |false=>
    dsimp only;obtain⟨c,l,m⟩:=o (i+1) a e (by omega) b (by omega) q
    exact⟨c,by rw[l];simp,m⟩
  .have h:ds[i]?=none:=List.getElem?_eq_none (by omega)
   rw[h,List.drop_of_length_le (by omega)]
   have:i=ds.length:=by omega
   subst this;exact⟨Ω,by simp,k⟩
theorem Bn{me mc:EM}{nc:Bool}{mi:IM}{cap:List Nat}{src:Src}{ds:List D}{p:D->Bool}{g:D->D}(I:Nat->aD->Prop)(b:mi ρ Ω=.ok src au)(c:∀i Ω,I i Ω->e9 src Ω=some ds)
  (f:∀i d Ω,ds[i]?=some d->I i Ω->∃au,kW nc mc ([some d]++eI cap ρ) Ω=.ok (p d) au/\I (i+1) au/\(p d=true->me ([some d]++eI cap ρ) au=.ok (g d) au)) (k:ds.length<=90000) (j:I 0 au) :
  ∃a,cJ me nc mc mi 0 cap ρ Ω=.ok (.ref a.length) (a++[.lst ((ds.filter p).map g)])/\I ds.length a:=by
 unfold cJ;rw[b];dsimp only;obtain⟨a,e,h⟩:=DZ I c f fuel 0 [] au (by unfold fuel;omega) (Nat.zero_le _) (by simp;omega) j
 refine⟨a,?_,h⟩;rw[e];rfl
end
section
variable{Ω au:aD}{ρ:aX}{σ:Str->Int}{kl fn b:Nat}{line ys:List Str}{w:Str}{M:List (List D->aR)}{fp:List Nat}{I:List Str->aD->Prop}
theorem uf{k j:Nat}{us vs:List Str}(h:Ω[k]?=some (.lst (us.map .str)))(h':Ω[j]?=some (.lst (vs.map .str))):aG .Eq (.ref k) (.ref j) Ω=.ok (.bl (decide (us=vs))) Ω:=by
 rw[jY,jX,ed (n:=7) h,ed (n:=7) h',iP]
 have e:de .Eq (L1 us) (L1 vs)=.ok (decide (us=vs)):=by
  rw[DM,tZ 7,tZ 7]
  show(if (true&&true)=true then Out.ok (eu (us.map .str) (vs.map .str))else .bad)=_
  rw[tY];rfl
 rw[e];rfl
theorem Bo{k j:Nat}{us vs:List Str}(h:Ω[k]?=some (.lst (us.map .str)))(h':Ω[j]?=some (.lst (vs.map .str))):aG .NotEq (.ref k) (.ref j) Ω=.ok (.bl (!decide (us=vs))) Ω:=by
 rw[ov,jX,ed (n:=7) h,ed (n:=7) h',iP]
 have e:de .NotEq (L1 us) (L1 vs)=.ok (!decide (us=vs)):=by
  rw[DN,tZ 7,tZ 7]
  show(if (true&&true)=true then Out.ok (!eu (us.map .str) (vs.map .str))else .bad)=_
  rw[tY];rfl
 rw[e];rfl
theorem yo{i:Nat}{us:List Str}(h:Ω[kl]?=some (.lst (us.map .str))):jH (.ref kl) (some (i:Int)) none Ω=.ok (.ref Ω.length) (Ω++[.lst ((us.drop i).map .str)]):=by
 simp only[jH,aB h,oo,rZ,List.map_drop]
end
section
variable{Ω au:aD}{ρ:aX}{k:Nat}{js:List Nat}{rs:List (List Str)}{row:List Str}{n:Str}
theorem oT.snoc{j:Nat}(h:oT Ω js rs)(a:Ω[j]?=some (.lst (row.map .str))):oT Ω (js++[j]) (rs++[row]):=az.append (R:=Mc Ω) h (.cons a .nil)
theorem gI{ds:List D}(h:Ω[k]?=some (.lst ds)):bu .list [.ref k] Ω=.ok (.ref Ω.length) (Ω++[.lst ds]):=by
 show ie (iG [.ref k] Ω) (jw [.ref k] Ω)=_
 simp only[iG,aP,aB h];rfl
theorem qv{me mc:EM}{mi:IM}{cap:List Nat}{f:List Str->List Str}{P:Nat->Prop}(r:mi ρ Ω=.ok (.seq (.ref k)) Ω)(R:Rw Ω k js rs)(B:rs.length<=1000)
  (s:∀j row aQ,ag [] Ω aQ->j∈js->row∈rs->aQ[j]?=some (.lst (row.map .str))->∃g a,me ([some (.ref j)]++eI cap ρ) aQ=.ok (.ref g) a/\ag [] aQ a/\a[g]?=some (.lst ((f row).map .str))/\P g) :
  ∃b a,cJ me true mc mi 0 cap ρ Ω=.ok (.ref a.length) (a++[.lst (b.map .ref)])/\ag [] Ω a/\oT a b (rs.map f)/\∀j∈b,P j:=by
 have t:=R.len
 obtain⟨C,a,e,b,rfl,m,u,n⟩:=oB (me:=me) (mc:=mc) (cap:=cap) (ds:=js.map .ref) (λi c a=>∃b,c=b.map .ref/\oT a b ((rs.take i).map f)/\ag [] Ω a/\∀j∈b,P j) r ⟨[],rfl,.nil,ag.refl,by simp⟩
  (λi c a h=>by
   obtain⟨_,_,_,K,_⟩:=h;rw[cP,aP,aB (R.keep K).ce])
  (λi d c aQ w h=>by
   obtain⟨b,rfl,m,K,n⟩:=h;obtain⟨j,o,rfl⟩:=oC w;obtain⟨row,p,l⟩:=(R.keep K).al.at' o;obtain⟨g,a,e,q,y,z⟩:=s j row aQ K (List.mem_of_getElem? o) (List.mem_of_getElem? p) l;refine⟨.ref g,a,e,b++[g],by simp,?_,K.trans q,?_⟩
   .rw[List.take_succ,p,List.map_append]
    exact(m.keep q (by simp)).snoc y
   .intro x A
    rcases List.mem_append.mp A with h|h
    .exact n x h
    .rw[List.mem_singleton.mp h];exact z) (by simp;omega)
 refine⟨b,a,e,u,?_,n⟩;rw[List.length_map,←t,List.take_length]at m;exact m
def yp(i:Nat):EM:=cJ (mN (bu .list) (ab (aa 0) af)) true (ah .non) (bG (aa i)) 0 []
theorem Bp{i:Nat}(n:ρ[i]?=some (some (.ref k)))(R:Rw Ω k js rs)(o:rs.length<=1000):∃a c au,yp i ρ Ω=.ok (.ref c) au/\ag [] Ω au/\Rw au c a rs/\(∀j∈a,Ω.length<=j)/\Ω.length<=c/\c∉a:=by
 have d:bG (aa i) ρ Ω=.ok (.seq (.ref k)) Ω:=by
  rw[bT,fF,n,fE,av];exact bF (by rw[aP,aB R.ce])
 obtain⟨a,g,e,K,l,p⟩:=qv (me:=mN (bu .list) (ab (aa 0) af)) (mc:=ah .non) (cap:=[]) (f:=λr=>r) (P:=λj=>Ω.length<=j) d R o (λj m b K _ _ h=>by
  refine⟨b.length,b++[.lst (m.map .str)],?_,ag.app,aq,K.len⟩;have:=gI h;simp[eI,this])
 rw[List.map_id']at l;refine⟨a,g.length,_,e,K.trans ag.app,⟨aq,l.keep (fp:=[]) ag.app (by simp)⟩,p,K.len,λh=>?_⟩
 have:=l.lt _ h;omega
def stC:EM:=(yX (m2 (aG .Eq) (dZ (aa 0) true (ah .non) false (ah (.int 1))) (mN bB (ab (aa 1) af))) (dZ (aa 0) false (ah (.int 1)) true (ah .non)) (aa 0))
theorem D7{j:Nat}(h:Ω[j]?=some (.lst (row.map .str))):jH (.ref j) none (some 1) Ω=.ok (.ref Ω.length) (Ω++[.lst ((row.take 1).map .str)]):=oD (n:=1) h
theorem D8{j:Nat}(h:Ω[j]?=some (.lst (row.map .str))):∃d au,stC [some (.ref j),some (.str n)] Ω=.ok (.ref d) au/\ag [] Ω au/\au[d]?=some (.lst ((mQ n row).map .str))/\(d=j\/Ω.length<=d):=by
 have k:=D7 h;have l:(Ω++[Cell.lst ((row.take 1).map .str)])[Ω.length]?=some (.lst ((row.take 1).map .str)):=aq;have g:ag [] Ω (Ω++[Cell.lst ((row.take 1).map .str)]):=ag.app;generalize Ω++[Cell.lst ((row.take 1).map .str)]=a at *;have m:(a++[Cell.lst [.str n]])[a.length]?=some (.lst ([n].map .str)):=aq;have e:ag [] a (a++[Cell.lst [.str n]]):=ag.app;have f:=e.get _ _ l (by simp)
 have i:=e.get _ _ (g.get _ _ h (by simp)) (by simp)
 have c:=uf f m
 have o:(m2 (aG .Eq) (dZ (aa 0) true (ah .non) false (ah (.int 1))) (mN bB (ab (aa 1) af))) [some (.ref j),some (.str n)] Ω=.ok (.bl (decide (row.take 1=[n]))) (a++[Cell.lst [.str n]]):=by
  simp[k,aA,c,-jY]
 generalize a++[Cell.lst [.str n]]=b at *;have K:=g.trans e;have p:=yn i;unfold stC;rw[ot,o,cC,cw,cO,av]
 by_cases c:row.take 1=[n]
 .rw[if_pos (by rw[decide_eq_true c])]
  refine⟨b.length,b++[.lst (row.tail.map .str)],?_,K.trans ag.app,?_,.inr K.len⟩
  .simp[p]
  .unfold mQ;rw[if_pos c];exact aq
 .rw[if_neg (by rw[decide_eq_false c];simp)]
  refine⟨j,b,by simp,K,?_,.inl rfl⟩
  unfold mQ;rw[if_neg c];exact i
def FnAt(d:aR):Prop:=∀b k e c,Rw b k e c->c.length<=1000->∃a,d [.ref k] b=.ok (Bc (free c)) a/\ag [] b a
theorem Ha:FnAt (aK 2 1 (Bl (aK 4 2 sk))):=λ_ _ _ _ R a=>DY R a
def tM:EM:=(mN (bu .any) (ab (aa 1) af))
def stM:EM:=(cJ stC true (ah .non) (bG (aa 1)) 0 [3])
def bM(st:SM)(a:aR):SM:=(aj (aJ 3 (mN (bj a) (ab (aa 1) af)))
 (aj (dR (m2 (aG .Is) (aa 3) (ah .non))
 (aj st
 ai)
 ai)
 (aj (ck (cE jI cW (aa 2) (ab (aa 3) af)))
 (aj (aJ 1 stM)
 ai))))
def D9(st:SM)(a:aR):SM:=
 (aj (aJ 1 (yp 0))
 (aj (aJ 2 (mN bB af))
 (aj (rM tM (bM st a))
 (aj (bP (aa 2))
 ai))))
theorem ug(R:Rw Ω k js rs):bu .any [.ref k] Ω=.ok (.bl ((rs.map λr=>!r.isEmpty).any id)) Ω:=by
 show lQ .any [.ref k] Ω=_
 unfold lQ;rw[ub];have h:=yj (n:=6) (rs:=js) (L:=rs) R.ce R.al;have:bo (ef Ω 8) [.ref k]=some [LL rs]:=by simp[h]
 rw[this,ua];have:xl .any [LL rs]=.ok (false,.bl ((rs.map λr=>!r.isEmpty).any id)):=by simp[LL,any_rows,-List.any_map]
 rw[this,DR]
theorem Hb{st:SM}{m:aR}(I:FnAt m){R0:D}{q:Nat}{a3:Option D}{b:List Str}(R:Rw Ω k js rs)(E:rs.length<=1000)(J:free rs=some n)(L:Ω[q]?=some (.lst (b.map .str)))(o:q≠k)(l:q∉js)(hp:b.length<=900) :
  ∃p c au,bM st m [some R0,some (.ref k),some (.ref q),a3] Ω=.nx [some R0,some (.ref p),some (.ref q),some (.str n)] au/\Rw au p c (rs.map (mQ n))/\au[q]?=some (.lst ((b++[n]).map .str))/\q≠p/\q∉c/\ag [q] Ω au:=by
 obtain⟨a,F,r⟩:=I Ω k js rs R E;rw[J]at F;have s:=r.get _ _ L (by simp)
 have M:=R.keep r;have t:=fI (d:=.str n) s (by simp;omega)
 have N:=dU s;have G:ag [q] a (a.set q (.lst (b.map .str++[.str n]))):=ag.set (by simp)
 have H:(a.set q (.lst (b.map .str++[.str n])))[q]?=some (.lst ((b++[n]).map .str)):=by rw[aI s];simp
 generalize a.set q (.lst (b.map .str++[.str n]))=g at *;have R2:Rw g k js rs:=M.G8 G (by simpa using Ne.symm o) (λj u h=>l (by rw[←List.mem_singleton.mp h];exact u))
 have w:bG (aa 1) [some R0,some (.ref k),some (.ref q),some (.str n)] g=.ok (.seq (.ref k)) g:=by
  rw[bT];exact bF (by rw[aP,aB R2.ce])
 have ql:=bU H
 obtain⟨c,i,O,y,Q,A⟩:=qv (ρ:=[some R0,some (.ref k),some (.ref q),some (.str n)]) (me:=stC) (mc:=ah .non) (cap:=[3]) (f:=mQ n) (P:=λj=>j≠q) w R2 E (λj S i K u _ h=>by
  obtain⟨T,B,e,U,A,h5⟩:=D8 (n:=n) h;refine⟨T,B,e,U,A,?_⟩;rcases h5 with rfl|h5
  .exact λz=>l (z▸u)
  .have:=K.len
   omega)
 have V:=y.len;refine⟨i.length,c,i++[.lst (c.map .ref)],?_,⟨aq,Q.keep (fp:=[]) ag.app (by simp)⟩,cg (y.get _ _ H (by simp)),by omega,λh=>A q h rfl,?_⟩
 .have C:stM [some R0,some (.ref k),some (.ref q),some (.str n)] g=.ok (.ref i.length) (i++[.lst (c.map .ref)]):=O
  have X:(aJ 3 (mN (bj m) (ab (aa 1) af))) [some R0,some (.ref k),some (.ref q),a3] Ω=.nx [some R0,some (.ref k),some (.ref q),some (.str n)] a:=by simp[F,Bc]
  have Y:(dR (m2 (aG .Is) (aa 3) (ah .non)) (aj st ai) ai) [some R0,some (.ref k),some (.ref q),some (.str n)] a=.nx [some R0,some (.ref k),some (.ref q),some (.str n)] a:=by simp
  have Z:(ck (cE jI cW (aa 2) (ab (aa 3) af))) [some R0,some (.ref k),some (.ref q),some (.str n)] a=.nx [some R0,some (.ref k),some (.ref q),some (.str n)] g:=by
   rw[cy,gs (x:=.ref q) (au:=a) (by simp) N]
   simp[t]
  unfold bM;rw[ae,X,ax,ae,Y,ax,ae,Z,ax,ae,br,C];rfl
 .exact((qq.up r).trans G).trans (qq.up (y.trans ag.app))
theorem yq{st:SM}{d:aR}(x:FnAt d){R0:D}{rs:List (List Str)}{o:List Str}(M:Mg rs o) :
  ∀(Ω:aD) (a:List Str) (q k:Nat) (f:List Nat) (a3:Option D) (m:Nat),Rw Ω k f rs->Ω[q]?=some (.lst (a.map .str))->q≠k->q∉f->rs.length<=1000->a.length+o.length<=900->o.length<m ->
   ∃a1 c au,gQ tM (bM st d) m [some R0,some (.ref k),some (.ref q),a3] Ω=.nx [some R0,a1,some (.ref q),c] au/\au[q]?=some (.lst ((a++o).map .str))/\ag [q] Ω au:=by
 induction M with
 |@done rs h=>
  intro Ω a q k f a3 m R i _ _ _ _ g;obtain⟨m,rfl⟩:∃k,m=k+1:=⟨m - 1,by simp at g;omega⟩
  refine⟨some (.ref k),a3,Ω,?_,by rw[List.append_nil];exact i,ag.refl⟩
  have e:=ug R;rw[any_false h]at e;have j:tM [some R0,some (.ref k),some (.ref q),a3] Ω=.ok (.bl false) Ω:=by simp[tM,e]
  simp only[gQ,j];rfl
 |@step rs n o h y _ z=>
  intro Ω a q k f a3 m R i l p w A g;obtain⟨m,rfl⟩:∃k,m=k+1:=⟨m - 1,by simp at g;omega⟩
  rw[List.length_cons]at A g;obtain⟨B,s,t,C,E,F,G,H,I⟩:=Hb (st:=st) x (R0:=R0) (a3:=a3) R w y i l p (by omega)
  obtain⟨a1,c,u,J,K,L⟩:=z t (a++[n]) q B s (some (.str n)) m E F G H (by simpa using w) (by simp;omega) (by omega)
  refine⟨a1,c,u,?_,by rw[K];simp,I.trans L⟩
  have e:=ug R;rw[any_true h]at e;have j:tM [some R0,some (.ref k),some (.ref q),a3] Ω=.ok (.bl true) Ω:=by simp[tM,e]
  simp only[gQ,j]
  show(match bM st d [some R0,some (.ref k),some (.ref q),a3] Ω with|.nx b au=>gQ tM (bM st d) m b au|.ct b au=>gQ tM (bM st d) m b au|.bk b au=>.nx b au|r=>r)=_
  rw[C];exact J
def Bq(d:aR):Prop:=∀(b:aD) (k:Nat) (e:List Nat) (c:List (List Str)) (o:List Str),Rw b k e c->Mg c o->c.length<=1000->o.length<=900->∃q a,d [.ref k] b=.ok (.ref q) a/\a[q]?=some (.lst (o.map .str))/\b.length<=q/\ag [] b a
theorem Hc{st:SM}{g:aR}(m:FnAt g):Bq (aK 4 1 (D9 st g)):=by
 intro n k A B o R M j p;rw[aT (by rfl)]
 have q:aL 4 [D.ref k]=[some (.ref k),none,none,none]:=rfl;rw[q];obtain⟨c,b,a,r,d,e,C,E,F⟩:=Bp (ρ:=[some (.ref k),none,none,none]) (i:=0) rfl R j;have s:(aJ 1 (yp 0)) [some (.ref k),none,none,none] n=.nx [some (.ref k),some (.ref b),none,none] a:=by rw[br,r];rfl
 have l:ag [] a (a++[Cell.lst []]):=ag.app;have t:(a++[Cell.lst []])[a.length]?=some (.lst (([]:List Str).map .str)):=aq;have u:(aJ 2 (mN bB af)) [some (.ref k),some (.ref b),none,none] a=.nx [some (.ref k),some (.ref b),some (.ref a.length),none] (a++[Cell.lst []]):=by simp[aA]
 have G:=bU e.ce;have w:=e.al.lt;obtain⟨H,I,f,x,y,z⟩:=yq (st:=st) m (R0:=.ref k) M (a++[Cell.lst []]) [] a.length b c none fuel (e.keep l) t (by omega) (λh=>by have:=w _ h;omega) j (by simpa using p) (by unfold fuel;omega)
 refine⟨a.length,f,?_,y,d.len,ag.new (d.trans l) z (by simpa using d.len)⟩
 unfold D9;rw[ae,s,ax,ae,u,ax,ae];unfold rM;rw[x];rfl
end
end Mir
namespace Mir
open PySem
open PySem.Spec PyProof.Rows L2
structure dG(K:PySem.W.Frag)(x:Str)(st:Stmt)(f:Addr)(fd:FuncData):Prop where
 ns:PySem.W.nsIn K mainGlobals x=some (some (.ref f))
 fn:EO K x x st f fd
theorem lE{K:PySem.W.Frag}{x:Str}{st:Stmt}{f:Addr}{oc:Value}{i g:Option Addr}{e:Array (Option Value)}{kV d h b ct:Value}(a:PySem.W.nsIn K mainGlobals x=some (some (.ref f)))
  (l:K.lookup f=some ⟨oc,i,.func (PySem.W.fnOf x x (bQ st) (bR st) (ao st) .none kV d h g b ct),e⟩) (c:PySem.W.codeIn K b x=true) (k:PySem.W.keepIn K (.ref f)=true):dG K x st f (PySem.W.fnOf x x (bQ st) (bR st) (ao st) .none kV d h g b ct):=⟨a,qX l c k⟩
variable [aO]
structure Br(K:PySem.W.Frag)(x qual:Str)(st:Stmt)(dV:Value)(f:Addr)(fd:FuncData):Prop where
 ex:∃(oc:Value) (od:Option Addr) (kV doc pm:Value) (an:Option Addr) (cdv ct:Value) (osl:Array (Option Value)),
  fd=PySem.W.fnOf x qual (bQ st) (bR st) (ao st) dV kV doc pm an cdv ct/\K.lookup f=some ⟨oc,od,.func fd,osl⟩/\PySem.W.codeIn K cdv qual=true
 kp:PySem.W.keepIn K (.ref f)=true
section
variable{P:Program}{w:World}{K:PySem.W.Frag}{mg:Str->Option Value}{base:Heap}{T:aM}{k:Nat}
theorem cZ(W:aS P w K mg base T k){x qual:Str}{st:Stmt}{D:Value}{f:Addr}{y:FuncData}(F:Br K x qual st D f y){N ps td:List Str}{c:SM}(I:bc N ps (ao st)=true)(J:bh T td st N=some c) :
    cS P w K mg base mu (k+1) f y ps (ec (fB mg) (aK N.length ps.length c)):=by
  obtain⟨oc,od,kV,L,pm,an,n,ct,M,rfl,O,o⟩:=F.ex;have p:=zV I;refine FA O o p (λR H Q E h=>?_) λA outer s H R Q E U h=>?_
  · obtain⟨e,Z,i,l,S,r,g⟩:=h
    rw[r.length];unfold aK at g;split at g
    · rename_i V;exact V
    · exact g.elim
  · obtain⟨e,Z,i,l,S,r,g⟩:=h
    have G:gp (uL mu P w K mg base N qual (ao st) f n A outer s H E).CJ (fB mg) T k (ao st) N:=
      { scope:=rfl,names:=rfl,calm:=rfl,room:=U,eo:=W.eo,own:=PassesOwn.never,QQ:=λ_ _ _=>.inl rfl,vc:=p.nd,kind:=p.kind,CJ:=λ_ _ _ h=>h,fld:=W.fld,cst:=W.cst
        lK:=λx F h=>⟨W.lK x F h⟩,fn:=λx F h=>⟨W.fn x F h⟩,met:=λm C F h=>⟨W.met m C F h⟩,cls:=λC F h=>let ⟨j,X,Y⟩:=W.cls C F h;⟨j,X,⟨Y⟩⟩,clo:=W.clo }
    refine⟨Js (fB mg) qG e Z H c (aL N.length l) i,(ly (A9 G 30 60) J e Z H (aL N.length l) i).CJ,e,Z,rN S r,?_⟩;unfold aK at g;split at g
    · cases q:c (aL N.length l) i with
      |rt d a=>rw[q]at g;exact λv t b u gr st r=>g v t b u gr st r
      |nx z a=>rw[q]at g;exact λσ t b u B=>g .non t b u B.gr B.st (bb rfl)
      |bk z a=>rw[q]at g;exact g.elim
      |ct z a=>rw[q]at g;exact g.elim
      |exc x a=>rw[q]at g;exact g
      |bad=>rw[q]at g;exact g.elim
    · exact g.elim
end
end Mir
namespace Mir
open PySem L2
variable [aO]
abbrev oR(k:Nat):Option D:=some (.ref k)
abbrev oI(i:Int):Option D:=some (.int i)
abbrev oS(x:Str):Option D:=some (.str x)
def cj(Ω:aD)(e:Nat)(kvs:List (Key×D)):Prop:=Ω[e]?=some (.dK kvs)\/Ω[e]?=some (.dF kvs)
abbrev ig:=List (Str×List Str)
noncomputable def nms(E:ig):List Str:=E.map (·.1)
noncomputable def dm(E:ig)(n:Str):List Str:=(E.lookup n).getD []
def a_(P:Nat->Prop)(Ω:aD)(kvs:List (Key×D))(E:ig):Prop:=az (λa p=>a.1=.inr p.1/\∃j,a.2=.ref j/\P j/\Ω[j]?=some (.lst (p.2.map .str))) kvs E
section
variable{Ω au:aD}{ρ:aX}{e q j:Nat}{kvs:List (Key×D)}{E:ig}{P P':Nat->Prop}{n:Str}{r:List Str}{fp:List Nat}{ord:List Str}
theorem cj.keep(h:cj Ω e kvs)(K:ag fp Ω au)(a:e∉fp):cj au e kvs:=h.imp (λz=>K.get _ _ z a) λz=>K.get _ _ z a
theorem cj.lt(h:cj Ω e kvs):e<Ω.length:=h.elim bU bU
theorem cj.nl(h:cj Ω e kvs):∀ds,Ω[e]?≠some (.lst ds):=λds z=>by rcases h with h|h<;>rw[h]at z<;>cases z
theorem cj.ni(h:cj Ω e kvs):∀C a,Ω[e]?≠some (.ins C a):=λC a z=>by rcases h with h|h<;>rw[h]at z<;>cases z
theorem Ci(h:cj Ω e kvs){m:Nat}:ef Ω (m+1) (.ref e)=none:=by rcases h with h|h<;>simp only[ef,h]
theorem uh(h:cj Ω e kvs):cV Ω (.ref e)=none:=by rcases h with h|h<;>simp only[cV,h]
theorem yr(h:cj Ω e kvs):nJ Ω (.ref e) (.str n)=some (bC kvs (.inr n)):=by rcases h with h|h<;>simp only[nJ,h,je,Option.map_some]
theorem Bs(h:cj Ω e kvs):aG .In (.str n) (.ref e) Ω=.ok (.bl (bC kvs (.inr n)).isSome) Ω:=by
 rw[di,jX,gF,Ci h]
 show ie .bad _=_
 rw[om];simp only[eH,yr h];rfl
theorem Hd(h:cj Ω e kvs):aG .NotIn (.str n) (.ref e) Ω=.ok (.bl (!(bC kvs (.inr n)).isSome)) Ω:=by
 rw[ia,jX,gF,Ci h]
 show ie .bad _=_
 rw[om];simp only[eH,yr h];rfl
theorem eF{d:D}(h:cj Ω e kvs)(a:bC kvs (.inr n)=some d):aF (.ref e) (.str n) Ω=.ok d Ω:=by
 unfold aF;rw[dD,gG,aP,uh h]
 show ie .bad _=_
 rw[om,dD];simp only[xi,yr h,a];rfl
theorem Cj(h:cj Ω e kvs):bu .len [.ref e] Ω=.ok (.int kvs.length) Ω:=by
 show ie (nQ [.ref e] Ω) (ie (rH [.ref e] Ω) _)=_
 have a:nQ [.ref e] Ω=.bad:=by simp only[nQ,aP,uh h]
 have b:rH [.ref e] Ω=.ok (.int kvs.length) Ω:=by rcases h with h|h<;>simp only[rH,h]
 rw[a,b];rfl
theorem He(h:cj Ω e kvs):vk Ω (.ref e)=some kvs:=by rcases h with h|h<;>simp only[vk,h]
theorem yt(h:cj Ω e kvs):bu .list [.ref e] Ω=.ok (.ref Ω.length) (Ω++[.lst (kvs.map λa=>jh a.1)]):=by
 show ie (iG [.ref e] Ω) (jw [.ref e] Ω)=_
 have b:iG [.ref e] Ω=.bad:=by simp only[iG,aP,uh h]
 have c:jw [.ref e] Ω=.ok (.ref Ω.length) (Ω++[.lst (kvs.map λa=>jh a.1)]):=by simp only[jw,He h];rfl
 rw[b,c];rfl
theorem set_same{c:Cell}(h:Ω[e]?=some c):Ω.set e c=Ω:=by
 apply List.ext_getElem?;intro i;rw[List.getElem?_set];split
 .rename_i z;subst z;rw[if_pos (bU h),h]
 .rfl
theorem ui(h:cj Ω e kvs):srcOf Ω (.ref e)=.ok (.keys e) (Ω.set e (.dF kvs)):=by
 unfold srcOf;rw[aP,uh h];rcases h with h|h
 .simp only[h]
 .simp only[h,set_same h]
theorem Hf(h:cj Ω e kvs):(Ω.set e (.dF kvs))[e]?=some (.dF kvs):=by rcases h with h|h<;>exact aI h
theorem oE(h:Ω[e]?=some (.dF kvs)):e9 (.keys e) Ω=some (kvs.map λa=>jh a.1):=by simp only[e9,h]
theorem a_.imp(h:a_ P Ω kvs E)(e:∀j,P j->P' j):a_ P' Ω kvs E:=az.imp (λ_ _ ⟨a,j,b,c,d⟩=>⟨a,j,b,e j c,d⟩) h
theorem a_.keep(h:a_ P Ω kvs E)(K:ag fp Ω au)(e:∀j∈fp,¬ P j):a_ P au kvs E:=az.imp (λ_ _ ⟨a,j,b,c,d⟩=>⟨a,j,b,c,K.get _ _ d λz=>e j z c⟩) h
theorem a_.ej(h:a_ P Ω kvs E)(K:ag fp Ω au)(e:∀j∈fp,∀ds,Ω[j]?≠some (.lst ds)):a_ P au kvs E:=az.imp (λ_ _ ⟨a,j,b,c,d⟩=>⟨a,j,b,c,K.get _ _ d λz=>e j z _ d⟩) h
theorem a_.lt(h:a_ P Ω kvs E):a_ (λj=>P j/\j<Ω.length) Ω kvs E:=az.imp (λ_ _ ⟨a,j,b,c,d⟩=>⟨a,j,b,⟨c,bU d⟩,d⟩) h
theorem a_.len(h:a_ P Ω kvs E):E.length=kvs.length:=az.length h
theorem a_.keys(h:a_ P Ω kvs E):(kvs.map λb=>jh b.1)=(nms E).map .str:=by
 unfold a_ at h
 induction h with
 |nil=>rfl
 |cons r _ a=>
  simp only[List.map_cons,nms]at a ⊢;rw[a,r.1];rfl
theorem a_.look(h:a_ P Ω kvs E)(n:Str):(∀r,E.lookup n=some r->∃j,bC kvs (.inr n)=oR j/\P j/\Ω[j]?=some (.lst (r.map .str)))/\(E.lookup n=none->bC kvs (.inr n)=none):=by
 unfold a_ at h
 induction h with
 |nil=>exact⟨λr h=>by simp at h,λ_=>rfl⟩
 |@cons g p kvs E a _ b=>
  obtain⟨c,j,d,e,f⟩:=a;rw[List.lookup_cons,cF,c]
  by_cases z:n=p.1
  .subst z
   rw[if_pos rfl,d];simp;exact⟨e,f⟩
  .rw[if_neg (λq=>z (by cases q;rfl)),beq_eq_false_iff_ne.mpr z]
   exact b
theorem uj(h:E.lookup n=some r):(n,r)∈E:=by
 induction E with
 |nil=>simp at h
 |cons p E a=>
  rw[List.lookup_cons]at h;split at h
  .rename_i z
   cases h;rw[eq_of_beq z];simp
  .exact List.mem_cons_of_mem _ (a h)
theorem lookup_some(h:n∈nms E):∃r,E.lookup n=some r:=by
 unfold nms at h
 induction E with
 |nil=>simp at h
 |cons p E a=>
  rw[List.lookup_cons];split
  .exact⟨_,rfl⟩
  .rename_i z
   refine a ?_;rw[List.map_cons]at h;rcases List.mem_cons.mp h with q|q
   .rw[q]at z;simp at z
   .exact q
theorem lF(h:n∈nms E):E.lookup n=some (dm E n):=by
 obtain⟨r,a⟩:=lookup_some h;unfold dm;rw[a];rfl
theorem lookup_none(h:n∉nms E):E.lookup n=none:=by
 cases q:E.lookup n with
 |none=>rfl
 |some r=>exact absurd (List.mem_map_of_mem (f:=(·.1)) (uj q)) h
theorem a_.at(h:a_ P Ω kvs E)(a:n∈nms E):∃j,bC kvs (.inr n)=oR j/\P j/\Ω[j]?=some (.lst ((dm E n).map .str)):=(h.look n).1 _ (lF a)
theorem a_.is(h:a_ P Ω kvs E):(bC kvs (.inr n)).isSome=decide (n∈nms E):=by
 by_cases q:n∈nms E
 .obtain⟨j,a,_⟩:=h.at q
  rw[a,decide_eq_true q];rfl
 .rw[(h.look n).2 (lookup_none q),decide_eq_false q];rfl
theorem yu{k:Key}(h:bC kvs k=none):(kvs.any λa=>decide (a.1=k))=false:=by rw[lC,h];rfl
theorem a_.put(h:a_ P Ω kvs E)(b:n∉nms E)(c:P j)(d:Ω[j]?=some (.lst (r.map .str))):a_ P Ω (bH kvs (.inr n) (.ref j)) (E++[(n,r)]):=by
 have:=yu ((h.look n).2 (lookup_none b));unfold bH;rw[if_neg (by rw[this];simp)]
 exact az.append (R:=λ(a:Key×D) (p:Str×List Str)=>a.1=.inr p.1/\∃j,a.2=.ref j/\P j/\Ω[j]?=some (.lst (p.2.map .str))) h (.cons ⟨rfl,j,rfl,c,d⟩ .nil)
def oF(E:ig)(a:List Str):List Str:=(nms E).filter λn=>!decide (n∈a)&&(dm E n).all λx=>decide (x∈a)
def Md:EM:=(cJ (m2 (aG .In) (aa 0) (aa 1)) true (ah .non) (bG (m2 aF (aa 1) (aa 0))) 0 [2])
def Hg:EM:=(gh (m2 (aG .NotIn) (aa 0) (aa 2)) (mN (bu .all) (ab Md af)))
def Me:SM:=(aj (bP (cJ (aa 0) false Hg (bG (aa 0)) 0 [0,1])) ai)
theorem uk{a:List Bool}(h:Ω[q]?=some (.lst (a.map .bl))):bu .all [.ref q] Ω=.ok (.bl (a.all id)) Ω:=by
 show lQ .all [.ref q] Ω=_
 unfold lQ;rw[ub];have c:bo (ef Ω 7) (a.map .bl)=some (a.map .bl):=gq (λ_=>DQ) a
 have:bo (ef Ω 8) [.ref q]=some [.lst (a.map .bl)]:=by simp[jW h c]
 rw[this,ua,yg]
 have d:eV (a.map D.bl)=some a:=by
  clear h c this
  induction a with
  |nil=>rfl
  |cons b a e=>simp[eV,e]
 rw[d];rfl
theorem yv{a:Nat}{xs:List Str}{me:EM}{mi:IM}{cap:List Nat}(c:Ω[a]?=some (.lst (xs.map .str)))(f:mi ρ Ω=.ok (.seq (.ref a)) Ω){p:Str->Bool}(h:∀x∈xs,me ([oS x]++eI cap ρ) Ω=.ok (.bl (p x)) Ω)(i:xs.length<=90000) :
  ∃au,mN (bu .all) (ab (cJ me true (ah .non) mi 0 cap) af) ρ Ω=.ok (.bl (xs.all p)) au/\ag [] Ω au:=by
 have e:=dg (ρ:=ρ) (Ω:=Ω) (au:=Ω) (me:=me) (mc:=ah .non) (nc:=true) (mi:=mi) (cap:=cap) (src:=.seq (.ref a)) (ds:=xs.map .str) (p:=λ_=>true) (g:=λd=>match d with|.str x=>.bl (p x)|d=>d) f (by rw[cP,aP,aB c]) (λd _=>rfl) (λd j _=>by
  obtain⟨x,b,rfl⟩:=List.mem_map.mp j;exact h x b) (by simpa using i)
 have k:((xs.map D.str).filter λ_=>true).map (λd=>match d with|.str x=>D.bl (p x)|d=>d)=(xs.map p).map .bl:=by
  rw[List.filter_eq_self.mpr (λ_ _=>rfl),List.map_map,List.map_map]
  rfl
 rw[k]at e;refine⟨Ω++[.lst ((xs.map p).map .bl)],?_,ag.app⟩;rw[fc,aV,e,av,b_,av,av,uk aq];simp[List.all_map]
def Bt(f:aR):Prop:=∀(c:aD) (e q:Nat) (b:List (Key×D)) (E:ig) (d:List Str) (P:Nat->Prop),cj c e b->a_ P c b E->c[q]?=some (.lst (d.map .str))->(∀n∈nms E,(dm E n).length<=1000)->E.length<=1000 ->
 ∃z a,f [.ref e,.ref q] c=.ok (.ref z) a/\a[z]?=some (.lst ((oF E d).map .str))/\ag [e] c a/\a[e]?=some (.dF b)/\c.length<=z
theorem Hh:Bt (aK 2 2 Me):=by
 intro h e q c E a P l M N o hl;rw[aT (by rfl)]
 have R:aL 2 [D.ref e,.ref q]=[oR e,oR q]:=rfl;rw[R];have r:q≠e:=λz=>l.nl _ (z▸N)
 have s:ag [e] h (h.set e (.dF c)):=ag.set (by simp)
 have t:=Hf l;have u:=M.ej s (λj m=>by rw[List.mem_singleton.mp m];exact l.nl)
 have y:=s.get _ _ N (by simpa using r)
 have l0:(h.set e (.dF c)).length=h.length:=by simp
 have A:bG (aa 0) [oR e,oR q] h=.ok (.keys e) (h.set e (.dF c)):=by
  rw[bT];exact ui l
 generalize h.set e (.dF c)=B at *
 obtain⟨k,S,C⟩:=Bn (ρ:=[oR e,oR q]) (me:=aa 0) (mc:=Hg) (nc:=false) (cap:=[0,1]) (ds:=(nms E).map .str) (p:=λd=>match d with|.str n=>!decide (n∈a)&&(dm E n).all λx=>decide (x∈a)|_=>false) (g:=λd=>d) (λ_ b=>ag [] B b) A
  (λi b K=>by rw[oE (K.get _ _ t (by simp)),M.keys])
  (λi d b F K=>by
   obtain⟨n,T,rfl⟩:=gu F;have O:n∈nms E:=List.mem_of_getElem? T;have Q:=K.get _ _ y (by simp)
   have U:=K.get _ _ t (by simp)
   have V:=u.keep K (by simp)
   obtain⟨j,X,_,m⟩:=V.at O;have f:=oy (w:=n) Q;have G:=eF (n:=n) (.inr U) X
   show ∃H,dv (Hg [oS n,oR e,oR q] b)=.ok (!decide (n∈a)&&(dm E n).all λx=>decide (x∈a)) H/\_
   by_cases I:n∈a
   .refine⟨b,?_,K,λ_=>rfl⟩
    rw[decide_eq_true I]at f ⊢;simp[Hg,f,-ia]
   .rw[decide_eq_false I]at f
    obtain⟨J,L,Y⟩:=yv (ρ:=[oS n,oR e,oR q]) (me:=m2 (aG .In) (aa 0) (aa 1)) (mi:=bG (m2 aF (aa 1) (aa 0))) (cap:=[2]) (p:=λx=>decide (x∈a)) m (by
     rw[bT]
     show(aF (.ref e) (.str n) b).bind _=_
     rw[G,av];exact bF (by rw[aP,aB m])) (λx _=>by
     show aG .In (.str x) (.ref q) b=_
     exact lB Q) (by have:=o n O;omega)
    refine⟨J,?_,K.trans Y,λ_=>rfl⟩
    have L:mN (bu .all) (ab Md af) [oS n,oR e,oR q] b=_:=L;unfold Hg;rw[oq]
    show dv ((aG .NotIn (.str n) (.ref q) b).bind _)=_
    rw[f,av,cw]
    show dv (mN (bu .all) (ab Md af) [oS n,oR e,oR q] b)=_
    rw[L,cC,cw,cO];simp[I]) (by simp[nms];omega) ag.refl
 refine⟨k.length,k++[.lst ((oF E a).map .str)],?_,aq,?_,cg (C.get _ _ t (by simp)),by have:=C.len;omega⟩
 .unfold Me
  rw[ae,cX,S]
  have Z:(((nms E).map D.str).filter (λd=>match d with|.str n=>!decide (n∈a)&&(dm E n).all λx=>decide (x∈a)|_=>false)).map (λd=>d)=(oF E a).map .str:=by
   unfold oF;rw[List.map_id',List.filter_map];rfl
  rw[Z];rfl
 .exact(s.trans (qq.up C)).trans ag.app
end
theorem sm{xs:List Str}:∀{o:List Str},o.Nodup->(∀x∈o,x∈xs)->o.length<=xs.length:=by
 intro o g c
 induction o generalizing xs with
 |nil=>simp
 |cons a o h=>
  have d:=c a (by simp)
  have e:=List.nodup_cons.mp g
  have:=h (xs:=xs.erase a) e.2 (λx f=>by
   have b:x≠a:=λz=>e.1 (by rw[←z];exact f)
   exact(List.mem_erase_of_ne b).mpr (c x (by simp[f])))
  rw[List.length_erase_of_mem d]at this;have i:0<xs.length:=List.length_pos_of_mem d;simp only[List.length_cons];omega
structure Ef(E:ig)(ord:List Str):Prop where
 nd:ord.Nodup
 sub:∀n∈ord,n∈nms E
 pre:∀(i:Nat) (n:Str),ord[i]?=some n->∀x∈dm E n,x∈ord.take i
structure Acy(E:ig):Prop where
 nd:(nms E).Nodup
 el:∀n∈nms E,∀x∈dm E n,x∈nms E
 rk:∃rk:Str->Nat,∀n∈nms E,∀x∈dm E n,rk x<rk n
section
variable{Ω au:aD}{ρ:aX}{e q j:Nat}{kvs:List (Key×D)}{E:ig}{P P':Nat->Prop}{n:Str}{r:List Str}{fp:List Nat}{ord:List Str}
theorem jZ:n∈oF E ord↔n∈nms E/\n∉ord/\∀x∈dm E n,x∈ord:=by
 unfold oF;simp[List.mem_filter]
theorem Ef.step(h:Ef E ord)(f:(nms E).Nodup):Ef E (ord++oF E ord) where
 nd:=List.nodup_append.mpr ⟨h.nd,f.filter _,λa g b j z=>(jZ.mp j).2.1 (z▸g)⟩
 sub:=λn k=>(List.mem_append.mp k).elim (h.sub n) λz=>(jZ.mp z).1
 pre:=λi n c x d=>by
  by_cases e:i<ord.length
  .rw[List.getElem?_append_left e]at c
   rw[List.take_append_of_le_length (Nat.le_of_lt e)];exact h.pre i n c x d
  .rw[List.getElem?_append_right (by omega)]at c
   have:=(jZ.mp (List.mem_of_getElem? c)).2.2 x d;rw[List.take_append,List.take_of_length_le (by omega)]
   exact List.mem_append_left _ this
theorem D_(A:Acy E)(hz:oF E ord=[]):∀n∈nms E,n∈ord:=by
 obtain⟨d,e⟩:=A.rk
 have b:∀(k:Nat) n,d n<k->n∈nms E->n∈ord:=by
  intro k
  induction k with
  |zero=>intro n h;omega
  |succ k f=>
   intro n g a
   by_cases q:n∈ord
   .exact q
   .have:n∈oF E ord:=jZ.mpr ⟨a,q,λx c=>f x (by have:=e n a x c;omega) (A.el n a x c)⟩
    rw[hz]at this;simp at this
 exact λn a=>b _ n (Nat.lt_succ_self _) a
theorem sr{k a:Nat}{xs b:List Str}(h:Ω[k]?=some (.lst (xs.map .str)))(c:Ω[a]?=some (.lst (b.map .str)))(d:xs.length+b.length<=10000):gC (.ref k) [.ref a] Ω=.ok .non (Ω.set k (.lst ((xs++b).map .str))):=by
 simp only[gC,iS h,iS c];rw[if_pos (aA (by simp;omega)),List.map_append]
def Ea(a:aR):SM:=(aj (ck (cE jI gC (aa 1) (ab (aa 2) af)))
 (aj (aJ 2 (mN (bj a) (ab (aa 0) (ab (aa 1) af))))
 ai))
def Mf(a:aR):SM:=
 (aj (aJ 1 (mN bB af))
 (aj (aJ 2 (mN (bj a) (ab (aa 0) (ab (aa 1) af))))
 (aj (rM (aa 2)
 (Ea a))
 (aj (bP (aa 1))
 ai))))
structure Gd(E:ig):Prop extends Acy E where
 few:E.length<=100
 short:∀n∈nms E,(dm E n).length<=100
theorem yw{s:aR}(Z:Bt s)(G:Gd E) :
  ∀(m:Nat) (Ω:aD) (d:List Str) (q z:Nat),Ω[e]?=some (.dF kvs)->a_ P Ω kvs E->Ef E d->Ω[q]?=some (.lst (d.map .str))->Ω[z]?=some (.lst ((oF E d).map .str))->q≠z->¬ P q->E.length - d.length<m ->
   ∃f H au,gQ (aa 2) (Ea s) m [oR e,oR q,oR z] Ω=.nx [oR e,oR q,H] au/\au[q]?=some (.lst (f.map .str))/\Ef E f/\(∀n∈nms E,n∈f)/\ag [q] Ω au:=by
 intro m
 induction m with
 |zero=>intro Ω d q z _ _ _ _ _ _ _ h;omega
 |succ m ih=>
  intro Ω d q z T hr F t U a0 V hm;have u:=iV U
  have b0:d.length<=E.length:=by
   have:=sm F.nd F.sub;simpa[nms]using this
  by_cases C:oF E d=[]
  .refine⟨d,oR z,Ω,?_,t,F,D_ G.toAcy C,ag.refl⟩
   have I:aa 2 [oR e,oR q,oR z] Ω=.ok (.ref z) Ω:=rfl;rw[C]at u;simp only[gQ,I,cC,u];rfl
  .have I:aa 2 [oR e,oR q,oR z] Ω=.ok (.ref z) Ω:=rfl
   have u:fR Ω (.ref z)=some true:=by
    rw[u];cases hc:oF E d with
    |nil=>exact absurd hc C
    |cons a b=>rfl
   have J:=F.step G.nd
   have i:(d++oF E d).length<=E.length:=by
    have:=sm J.nd J.sub;simpa[nms]using this
   have c0:=G.few;have hx:=sr t U (by rw[List.length_append]at i;omega)
   have hL:=dU t;have K:ag [q] Ω (Ω.set q (.lst ((d++oF E d).map .str))):=ag.set (by simp)
   have l:=aI (e:=.lst ((d++oF E d).map .str)) t;have w:q≠e:=λz=>by rw[z,T]at t;cases t
   have o:=K.get _ _ T (by simpa using Ne.symm w)
   have y:=hr.keep K (λj L=>by rw[List.mem_singleton.mp L];exact V)
   generalize Ω.set q (.lst ((d++oF E d).map .str))=A at *;obtain⟨X,p,e2,M,D,B,lz⟩:=Z A e q kvs E (d++oF E d) P (.inr o) y l (λn Y=>by have:=G.short n Y;omega) (by omega)
   have N:ag [q] A p:=⟨D.len,λk c O Y=>by
    by_cases h:k=e
    .subst h;rw[o]at O;cases O;exact B
    .exact D.get k c O (by simpa using h)⟩
   have Q:=y.ej D (λj L ds=>by rw[List.mem_singleton.mp L,o];simp)
   have R:=D.get _ _ l (by simpa using w)
   have lq:=bU l
   obtain⟨f,H,S,e3,h3,F3,h4,K3⟩:=ih p (d++oF E d) q X B Q J R M (by omega) V (by
    have:0<(oF E d).length:=List.length_pos_iff.mpr C;rw[List.length_append]at i ⊢;omega)
   refine⟨f,H,S,?_,h3,F3,h4,(K.trans N).trans K3⟩
   have r1:Ea s [oR e,oR q,oR z] Ω=.nx [oR e,oR q,oR X] p:=by
    unfold Ea;rw[ae,cy,gs (x:=.ref q) (au:=Ω) (by rfl) hL]
    have:(ab (aa 2) af:AM) [oR e,oR q,oR z] Ω=.ok [.ref z] Ω:=rfl;rw[this,av,hx,cu,ax];simp[e2]
   simp only[gQ,I,cC,u,cO]
   show(match Ea s [oR e,oR q,oR z] Ω with|.nx g au=>gQ (aa 2) (Ea s) m g au|.ct g au=>gQ (aa 2) (Ea s) m g au|.bk g au=>.nx g au|r=>r)=_
   rw[r1];exact e3
def Bu(f:aR):Prop:=∀(d:aD) (e:Nat) (b:List (Key×D)) (E:ig) (P:Nat->Prop),cj d e b->a_ P d b E->Gd E ->
 ∃c z a,f [.ref e] d=.ok (.ref z) a/\a[z]?=some (.lst (c.map .str))/\Ef E c/\(∀n∈nms E,n∈c)/\ag [e] d a/\a[e]?=some (.dF b)/\d.length<=z
theorem Hi{p:aR}(A:Bt p):Bu (aK 3 1 (Mf p)):=by
 intro a e q E P B I G;rw[aT (by rfl)]
 have J:aL 3 [D.ref e]=[oR e,none,none]:=rfl;rw[J];have C:(a++[Cell.lst []])[a.length]?=some (.lst (([]:List Str).map .str)):=aq;have m:ag [] a (a++[Cell.lst []]):=ag.app;have K:(aJ 1 (mN bB af)) [oR e,none,none] a=.nx [oR e,oR a.length,none] (a++[Cell.lst []]):=by simp[aA]
 have b:=B.keep m (by simp)
 have d:=(I.lt.keep m (by simp))
 have U:=B.lt;have V:(a++[Cell.lst []]).length=a.length+1:=by simp
 generalize a++[Cell.lst []]=f at *;have L:=G.few;obtain⟨z,g,M,r,o,l,X⟩:=A f e a.length q E [] _ b d C (λn s=>by have:=G.short n s;omega) (by omega)
 have t:=o.get _ _ C (by simp;omega)
 have u:=d.ej o (λj N O=>by rw[List.mem_singleton.mp N];exact b.nl O)
 obtain⟨w,Y,x,Q,R,F,S,y⟩:=yw A G fuel g [] a.length z l u ⟨List.nodup_nil,by simp,λi n h=>by simp at h⟩ t r (by omega) (λh=>by omega) (by unfold fuel;omega)
 refine⟨w,a.length,x,?_,R,F,S,?_,y.get _ _ l (by simp;omega),Nat.le_refl _⟩
 .unfold Mf
  rw[ae,K,ax,ae];have T:(aJ 2 (mN (bj p) (ab (aa 0) (ab (aa 1) af)))) [oR e,oR a.length,none] f=.nx [oR e,oR a.length,oR z] g:=by simp[M]
  rw[T,ax,ae];unfold rM;rw[Q];rfl
 .refine⟨by have:=m.len;have:=o.len;have:=y.len;omega,λk c H s=>y.get k c (o.get k c (m.get k c H (by simp)) s) ?_⟩
  have:=bU H;simp;omega
def Mh:EM:=(cJ (aa 0) false (m2 (aG .NotIn) (aa 0) (aa 1)) (bG (aa 0)) 0 [1])
def Mi(a:aR)(rest:SM):SM:=
 (aj (aJ 1 (mN (bj a) (ab (aa 0) af)))
 (aj (aJ 3 Mh)
 (aj (dR (fv (aa 3))
 (aj (bP (ah .non))
 ai)
 ai)
 rest)))
def Eb(d:aR):Prop:=∀(c:aD) (e:Nat) (a:List (Key×D)) (E:ig) (P:Nat->Prop),cj c e a->a_ P c a E->Gd E ->
 ∃b,d [.ref e] c=.ok .non b/\ag [e] c b/\b[e]?=some (.dF a)
theorem Hj{f:aR}(q:Bu f){rest:SM}:Eb (aK 5 1 (Mi f rest)):=by
 intro Ω e i E P k m G;rw[aT (by rfl)]
 have r:aL 5 [D.ref e]=[oR e,none,none,none,none]:=rfl;rw[r];obtain⟨s,z,a,t,u,F,c,w,b,I⟩:=q Ω e i E P k m G;have x:=G.few
 have l:bG (aa 0) [oR e,oR z,none,none,none] a=.ok (.keys e) a:=by
  rw[bT]
  show srcOf a (.ref e)=_
  rw[ui (.inr b),set_same b]
 have o:=dg (ρ:=[oR e,oR z,none,none,none]) (Ω:=a) (au:=a) (me:=aa 0) (mc:=m2 (aG .NotIn) (aa 0) (aa 1)) (nc:=false) (mi:=bG (aa 0)) (cap:=[1]) (src:=.keys e) (ds:=(nms E).map .str) (p:=λ_=>false) (g:=λd=>d) l (by rw[oE b,m.keys]) (λd k=>by
  obtain⟨n,y,rfl⟩:=List.mem_map.mp k
  show dv (aG .NotIn (.str n) (.ref z) a)=_
  rw[oy u,decide_eq_true (c n y)];rfl) (λd _ h=>by cases h) (by simp[nms];omega)
 have A:Mh [oR e,oR z,none,none,none] a=.ok (.ref a.length) (a++[.lst []]):=by
  have:(((nms E).map D.str).filter (λ_=>false)).map (λd:D=>d)=[]:=by simp
  rw[this]at o;exact o
 refine⟨a++[.lst []],?_,w.trans ag.app,cg b⟩;have B:=iV (Ω:=a++[Cell.lst []]) (j:=a.length) (ds:=[]) aq;unfold Mi;have C:(aJ 1 (mN (bj f) (ab (aa 0) af))) [oR e,none,none,none,none] Ω=.nx [oR e,oR z,none,none,none] a:=by simp[t]
 have H:(aJ 3 Mh) [oR e,oR z,none,none,none] a=.nx [oR e,oR z,none,oR a.length,none] (a++[.lst []]):=by rw[br,A];rfl
 rw[ae,C,ax,ae,H,ax,ae];simp[B]
end
noncomputable def dP(ns:List Str)(L:Str->List Str):ig:=ns.map λn=>(n,L n)
def Kl(E:ig)(L:Str->List Str):Prop:=∀n∈nms E,∃o,Mg ((dm E n).map L++[dm E n]) o/\L n=n::o
section
variable{Ω au:aD}{ρ:aX}{e q j:Nat}{kvs:List (Key×D)}{E:ig}{P P':Nat->Prop}{n:Str}{r:List Str}{fp:List Nat}{ord:List Str}{L:Str->List Str}
theorem c8{ns:List Str}:nms (dP ns L)=ns:=by
 unfold nms dP;rw[List.map_map];exact(List.map_congr_left λx _=>rfl).trans (List.map_id _)
theorem gJ{ns:List Str}(h:n∈ns):dm (dP ns L) n=L n:=by
 unfold dm dP
 induction ns with
 |nil=>simp at h
 |cons a ns b=>
  rw[List.map_cons,List.lookup_cons]
  by_cases z:n=a
  .subst z;simp
  .rw[beq_eq_false_iff_ne.mpr z]
   refine b ?_;rcases List.mem_cons.mp h with q|q
   .exact absurd q z
   .exact q
theorem j8{a b:Nat}{xs c:List D}(h:Ω[a]?=some (.lst xs))(d:Ω[b]?=some (.lst c))(e:xs.length+c.length<=10000):bf .Add (.ref a) (.ref b) Ω=.ok (.ref Ω.length) (Ω++[.lst (xs++c)]):=by
 rw[iR,ud,aB h,aB d,uc,if_pos (aA (by omega))]
 rfl
def Rb:EM:=(cJ (mN (bu .list) (ab (m2 aF (aa 1) (aa 0)) af)) true (ah .non) (bG (aa 1)) 0 [0])
def Mj:EM:=(mN bB (ab (mN (bu .list) (ab (aa 1) af)) af))
def Ml:SM:=(aj (bP (m2 (bf .Add) Rb Mj)) ai)
def Bv(h:aR):Prop:=∀(c:aD) (l a:Nat) (e:List (Key×D)) (f:ig) (P:Nat->Prop) (b:List Str),cj c l e->a_ P c e f->c[a]?=some (.lst (b.map .str))->(∀x∈b,x∈nms f)->b.length<=100 ->
 ∃g k d,h [.ref l,.ref a] c=.ok (.ref k) d/\Rw d k g (b.map (dm f)++[b])/\ag [] c d/\c.length<=k/\(∀j∈g,c.length<=j)/\k∉g
theorem Hk:Bv (aK 2 2 Ml):=by
 intro Ω l a J q P e L M r N hl;rw[aT (by rfl)]
 have O:aL 2 [D.ref l,.ref a]=[oR l,oR a]:=rfl;rw[O]
 have s:bG (aa 1) [oR l,oR a] Ω=.ok (.seq (.ref a)) Ω:=by
  rw[bT];exact bF (by rw[aP,aB r])
 obtain⟨ys,f,Q,g,rfl,p,G,t⟩:=oB (ρ:=[oR l,oR a]) (me:=mN (bu .list) (ab (m2 aF (aa 1) (aa 0)) af)) (mc:=ah .non) (cap:=[0]) (ds:=e.map .str) (λi k b=>∃g,k=g.map .ref/\oT b g ((e.take i).map (dm q))/\ag [] Ω b/\∀j∈g,Ω.length<=j) s ⟨[],rfl,.nil,ag.refl,by simp⟩
  (λi k b h=>by
   obtain⟨_,_,_,K,_⟩:=h;rw[cP,aP,aB (K.get _ _ r (by simp))])
  (λi d k b u h=>by
   obtain⟨g,rfl,p,K,t⟩:=h;obtain⟨x,H,rfl⟩:=gu u;have w:=L.keep K (by simp)
   obtain⟨j,R,_,S⟩:=(M.keep K (by simp)).at (N x (List.mem_of_getElem? H))
   have z:=eF (n:=x) w R;have m:=gI S;refine⟨.ref b.length,b++[.lst ((dm q x).map .str)],?_,g++[b.length],by simp,?_,K.trans ag.app,?_⟩
   .show((aF (.ref l) (.str x) b).bind _).bind _=_
    rw[z,av]
    show bu .list [.ref j] b=_
    exact m
   .rw[List.take_succ,H,List.map_append]
    exact(p.keep (fp:=[]) ag.app (by simp)).snoc aq
   .intro y A
    rcases List.mem_append.mp A with h|h
    .exact t y h
    .rw[List.mem_singleton.mp h];exact K.len) (by simp;omega)
 rw[List.length_map,List.take_length]at p;have B:Rb [oR l,oR a] Ω=.ok (.ref f.length) (f++[.lst (g.map .ref)]):=Q;have T:(f++[Cell.lst (g.map .ref)])[f.length]?=some (.lst (g.map .ref)):=aq;have I:ag [] Ω (f++[Cell.lst (g.map .ref)]):=G.trans ag.app;have C:oT (f++[Cell.lst (g.map .ref)]) g (e.map (dm q)):=p.keep (fp:=[]) ag.app (by simp)
 have l2:(f++[Cell.lst (g.map .ref)]).length=f.length+1:=by simp
 have U:=p.lt;have kl:=G.len;have V:=p.len;generalize f++[Cell.lst (g.map .ref)]=b at *;have m:=gI (I.get _ _ r (by simp))
 have X:Mj [oR l,oR a] b=.ok (.ref (b.length+1)) ((b++[.lst (e.map .str)])++[.lst [.ref b.length]]):=by
  unfold Mj
  have:(mN (bu .list) (ab (aa 1) af)) [oR l,oR a] b=.ok (.ref b.length) (b++[.lst (e.map .str)]):=by
   show bu .list [.ref a] b=_
   exact m
  rw[fc,aV,this,av,b_,av,av,ow,if_pos (aA (by simp))]
  simp
 have E:ag [] b ((b++[Cell.lst (e.map .str)])++[Cell.lst [.ref b.length]]):=ag.app.trans ag.app
 have Y:((b++[Cell.lst (e.map .str)])++[Cell.lst [.ref b.length]])[b.length+1]?=some (.lst [.ref b.length]):=by
  have:=aq (Ω:=b++[Cell.lst (e.map .str)]) (c:=.lst [.ref b.length]) (l:=[]);simpa using this
 have Z:((b++[Cell.lst (e.map .str)])++[Cell.lst [.ref b.length]])[b.length]?=some (.lst (e.map .str)):=cg aq;have l3:((b++[Cell.lst (e.map .str)])++[Cell.lst [.ref b.length]]).length=b.length+2:=by simp
 generalize (b++[Cell.lst (e.map .str)])++[Cell.lst [.ref b.length]]=o at *;have g3:=E.get _ _ T (by simp)
 have F:=C.keep E (by simp)
 have hc:=j8 g3 Y (by simp at V ⊢;omega)
 refine⟨g++[b.length],o.length,o++[.lst (g.map .ref++[.ref b.length])],?_,⟨?_,?_⟩,(I.trans E).trans ag.app,by omega,?_,?_⟩
 .unfold Ml
  rw[ae,cX,cN,B,av,X,av,hc];rfl
 .have:=aq (Ω:=o) (c:=.lst (g.map .ref++[.ref b.length])) (l:=[])
  simpa using this
 .exact(F.snoc Z).keep (fp:=[]) ag.app (by simp)
 .intro y A
  rcases List.mem_append.mp A with h|h
  .exact t y h
  .rw[List.mem_singleton.mp h];omega
 .intro h
  rcases List.mem_append.mp h with h|h
  .have:=U _ h;omega
  .have:=List.mem_singleton.mp h;omega
theorem Bw{kvs:List (Key×D)}{k:Key}{v:D}(h:k∉kvs.map (·.1)):bH kvs k v=kvs++[(k,v)]:=by
 unfold bH;rw[if_neg];intro z;obtain⟨a,b,c⟩:=List.any_eq_true.mp z;exact h (List.mem_map.mpr ⟨a,b,of_decide_eq_true c⟩)
theorem gK:∀(ps b:List (Key×D)),((b++ps).map (·.1)).Nodup->ps.foldl (λa p=>bH a p.1 p.2) b=b++ps
 |[],b,_=>by simp
 |p::ps,b,h=>by
  have h1:p.1∉b.map (·.1):=by
   rw[List.map_append,List.map_cons]at h;have:=(List.nodup_append.mp h).2.2;exact λz=>this _ z _ (by simp) rfl
  rw[List.foldl_cons,Bw h1,gK ps _ (by simpa using h)]
  simp
theorem yx{ns:List Str}{f:Str->D}(h:∀n∈ns,∃j,f n=.ref j/\P j/\Ω[j]?=some (.lst ((L n).map .str))):a_ P Ω (ns.map λn=>(.inr n,f n)) (dP ns L):=by
 unfold a_ dP
 induction ns with
 |nil=>exact .nil
 |cons a ns b=>exact .cons ⟨rfl,h a (by simp)⟩ (b λn c=>h n (by simp[c]))
theorem su{me:EM}{mi:IM}{cap:List Nat}{src:Src}{ns:List Str}{f:Str->D}(m:mi ρ Ω=.ok src Ω)(o:e9 src Ω=some (ns.map .str))(r:∀n∈ns,me ([oS n]++eI cap ρ) Ω=.ok (.tup [.str n,f n]) Ω)(A:ns.length<=1000)(s:ns.Nodup) :
  ∃q au,mN pM (ab (cJ me true (ah .non) mi 0 cap) af) ρ Ω=.ok (.ref q) au/\au[q]?=some (.dK (ns.map λn=>(.inr n,f n)))/\ag [] Ω au/\Ω.length<=q:=by
 have e:=dg (ρ:=ρ) (Ω:=Ω) (au:=Ω) (me:=me) (mc:=ah .non) (nc:=true) (mi:=mi) (cap:=cap) (src:=src) (ds:=ns.map .str) (p:=λ_=>true) (g:=λd=>match d with|.str n=>.tup [.str n,f n]|d=>d) m o (λd _=>rfl) (λd t _=>by
  obtain⟨x,i,rfl⟩:=List.mem_map.mp t;exact r x i) (by simp;omega)
 have u:((ns.map D.str).filter λ_=>true).map (λd=>match d with|.str n=>D.tup [.str n,f n]|d=>d)=ns.map λn=>.tup [.str n,f n]:=by
  rw[List.filter_eq_self.mpr (λ_ _=>rfl),List.map_map]
  rfl
 rw[u]at e;have w:(Ω++[Cell.lst (ns.map λn=>.tup [.str n,f n])])[Ω.length]?=some (.lst (ns.map λn=>.tup [.str n,f n])):=aq
 have k:ag [] Ω (Ω++[Cell.lst (ns.map λn=>.tup [.str n,f n])]):=ag.app
 generalize Ω++[Cell.lst (ns.map λn=>.tup [.str n,f n])]=c at *
 have y:bo kR (ns.map λn=>D.tup [.str n,f n])=some (ns.map λn=>(.inr n,f n)):=gq (f:=kR) (g:=λn=>D.tup [.str n,f n]) (h:=λn=>(.inr n,f n)) (λn=>rfl) ns
 have l:=gK (ns.map λn=>((.inr n:Key),f n)) [] (by
  rw[List.nil_append,List.map_map];have:(ns.map ((λp:Key×D=>p.1) ∘ λn=>((.inr n:Key),f n)))=ns.map Sum.inr:=rfl
  rw[this];exact List.Pairwise.map _ (λa b j z=>j (by cases z;rfl)) s)
 rw[List.nil_append]at l;refine⟨c.length,c++[.dK (ns.map λn=>(.inr n,f n))],?_,aq,k.trans ag.app,k.len⟩
 rw[fc,aV,e,av,b_,av,av]
 show ie (jx [.ref Ω.length] c) _=_
 simp only[jx,aB w,y,l];rfl
def Rc:EM:=(mN (bu .all) (ab (cJ (m2 (aG .In) (aa 0) (aa 1)) true (ah .non) (bG (m2 aF (aa 0) (aa 4))) 0 [2]) af))
def Km(a b:aR):EM:=(m2 (bf .Add) (mN bB (ab (aa 4) af)) (mN (bj a) (ab (mN (bj b) (ab (aa 2) (ab (m2 aF (aa 0) (aa 4)) af))) af)))
def Kn(a b:aR):SM:=(aj (dR Rc
 (aj (aj (dI (aa 2) (aa 4) (Km a b))
 ai)
 ai)
 ai)
 ai)
def Ko:SM:=(aj (dR (m2 (aG .In) (aa 4) (aa 3))
 (aj bz
 ai)
 ai)
 ai)
def Rf:EM:=(mN pM (ab (cJ (mN hX (ab (aa 0) (ab (m2 aF (aa 1) (aa 0)) af))) true (ah .non) (bG (aa 0)) 0 [2]) af))
def Mm(a b c d:aR):SM:=
 (aj (aJ 1 (mN (bj a) (ab (aa 0) af)))
 (aj (dR (m2 (aG .IsNot) (aa 1) (ah .non))
 (aj bz
 ai)
 ai)
 (aj (aJ 2 bY)
 (aj (aJ 3 bY)
 (aj (eE (du 4) (bG (mN (bj b) (ab (aa 0) af)))
 (Kn c d))
 (aj (eE (du 4) (bG (aa 0))
 Ko)
 (aj (bP Rf)
 ai)))))))
theorem sv{k:Nat}{d:D}(h:Ω[k]?=some (.dK kvs))(a:kvs.length<=1000):gW (.ref k) (.str n) d Ω=some (Ω.set k (.dK (bH kvs (.inr n) d))):=by
 simp only[gW,h,je];rw[if_pos (aA (by omega))]
theorem Ec{z A:aR}(hM:Bq z)(hB:Bv A){l:Nat}{f:List (Key×D)}{g:List Str}{a1 a3 a5:Option D}{o:List Str}(he:Ω[e]?=some (.dF kvs))(hr:a_ P Ω kvs E)(M:Ω[l]?=some (.dK f))(s:a_ P' Ω f (dP g L))(hn:n∈nms E)(N:n∉g)
  (h:∀x∈dm E n,x∈g) (O:Mg ((dm E n).map L++[dm E n]) o) (hL:L n=n::o) (B:(dm E n).length<=100) (c0:g.length<=100) (ho:o.length<=900) (Q:∀j,Ω.length<=j->P' j) :
  ∃t au,Kn z A [oR e,a1,oR l,a3,oS n,a5] Ω=.nx [oR e,a1,oR l,a3,oS n,a5] au/\au[l]?=some (.dK t)/\a_ P' au t (dP (g++[n]) L)/\ag [l] Ω au:=by
 obtain⟨a,hv,_,u⟩:=hr.at hn;have R:=eF (n:=n) (.inr he) hv
 obtain⟨c,K,K1⟩:=yv (ρ:=[oR e,a1,oR l,a3,oS n,a5]) (me:=m2 (aG .In) (aa 0) (aa 1)) (mi:=bG (m2 aF (aa 0) (aa 4))) (cap:=[2]) (p:=λx=>true) u (by
  rw[bT]
  show(aF (.ref e) (.str n) Ω).bind _=_
  rw[R,av];exact bF (by rw[aP,aB u])) (λx S=>by
  show aG .In (.str x) (.ref l) Ω=_
  rw[Bs (.inl M),s.is,c8,decide_eq_true (h x S)]) (by omega)
 have K:Rc [oR e,a1,oR l,a3,oS n,a5] Ω=.ok (.bl true) c:=by
  have:((dm E n).all λ_=>true)=true:=by simp
  rw[this]at K;exact K
 have g2:(c++[Cell.lst [.str n]])[c.length]?=some (.lst [.str n]):=aq;have y:ag [] Ω (c++[Cell.lst [.str n]]):=K1.trans ag.app
 have T:(mN bB (ab (aa 4) af)) [oR e,a1,oR l,a3,oS n,a5] c=.ok (.ref c.length) (c++[Cell.lst [.str n]]):=by
  show bB [.str n] c=_
  rw[ow,if_pos (aA (by simp))]
 generalize c++[Cell.lst [.str n]]=i at *;have U:=y.get _ _ M (by simp)
 have C:=s.keep y (by simp)
 have V:=y.get _ _ u (by simp)
 have F:=eF (n:=n) (.inr (y.get _ _ he (by simp))) hv
 obtain⟨js,k,X,e3,R3,Y,h3,_,_⟩:=hB i l a f _ _ _ (.inl U) C V (by rw[c8];exact h) B
 have G:(dm E n).map (dm (dP g L))=(dm E n).map L:=List.map_congr_left λx S=>gJ (h x S)
 rw[G]at R3;obtain⟨q,b,e4,Z,lq,K4⟩:=hM X k js _ o R3 O (by simp;omega) ho
 have H:=j8 (K4.get _ _ (Y.get _ _ g2 (by simp)) (by simp)) Z (by simp;omega)
 have K5:ag [] Ω (b++[Cell.lst ([.str n]++o.map .str)]):=((y.trans Y).trans K4).trans ag.app;have g5:(b++[Cell.lst ([.str n]++o.map .str)])[b.length]?=some (.lst ((L n).map .str)):=by rw[hL];exact aq
 have l4:Ω.length<=b.length:=((y.trans Y).trans K4).len
 have e5:Km z A [oR e,a1,oR l,a3,oS n,a5] c=.ok (.ref b.length) (b++[Cell.lst ([.str n]++o.map .str)]):=by
  unfold Km;rw[cN,T,av]
  have:(mN (bj z) (ab (mN (bj A) (ab (aa 2) (ab (m2 aF (aa 0) (aa 4)) af))) af)) [oR e,a1,oR l,a3,oS n,a5] i=.ok (.ref q) b:=by
   have h1:(ab (aa 2) (ab (m2 aF (aa 0) (aa 4)) af):AM) [oR e,a1,oR l,a3,oS n,a5] i=.ok [.ref l,.ref a] i:=by
    show(((aF (.ref e) (.str n) i).bind _).bind _)=_
    rw[F];rfl
   rw[fc,aV,fc,h1,av,qo,e3,jl,av,b_,av,av,qo,e4,jl]
  rw[this,av,H]
 generalize b++[Cell.lst ([.str n]++o.map .str)]=m at *;have w:=K5.get _ _ M (by simp)
 have I:=s.keep K5 (by simp)
 have J:=s.len;have a0:f.length<=1000:=by rw[←J];simp[dP];omega
 have b0:=sv (n:=n) (d:=.ref b.length) w a0;have K6:ag [l] m (m.set l (.dK (bH f (.inr n) (.ref b.length)))):=ag.set (by simp)
 refine⟨bH f (.inr n) (.ref b.length),m.set l (.dK (bH f (.inr n) (.ref b.length))),?_,aI w,?_,(qq.up K5).trans K6⟩
 .unfold Kn
  rw[ae,cR,K,cC,cw,cO,cu,if_pos rfl,ae,ae]
  have:dI (aa 2) (aa 4) (Km z A) [oR e,a1,oR l,a3,oS n,a5] c=.nx [oR e,a1,oR l,a3,oS n,a5] (m.set l (.dK (bH f (.inr n) (.ref b.length)))):=by
   unfold dI;rw[e5]
   show(match gW (.ref l) (.str n) (.ref b.length) m with|some au=>gP.nx _ au|none=>.bad)=_
   rw[b0]
  rw[this];rfl
 .have:=I.put (n:=n) (r:=L n) (by rw[c8];exact N) (Q _ l4) g5
  have h6:=this.ej K6 (λj hj ds=>by rw[List.mem_singleton.mp hj,w];simp)
  have:dP g L++[(n,L n)]=dP (g++[n]) L:=by simp[dP]
  rw[this]at h6;exact h6
def Ed(f:aR):Prop:=∀(c:aD) (e:Nat) (b:List (Key×D)) (E:ig) (P:Nat->Prop) (L:Str->List Str),cj c e b->a_ P c b E->Gd E->Kl E L->(∀n∈nms E,(L n).length<=900) ->
 ∃l d a,f [.ref e] c=.ok (.ref l) a/\a[l]?=some (.dK d)/\a_ (λj=>c.length<=j) a d (dP (nms E) L)/\ag [e] c a/\a[e]?=some (.dF b)/\c.length<=l
theorem Hl{LO EF MG RB:aR}(hO:Eb LO)(hE:Bu EF)(hM:Bq MG)(hB:Bv RB):Ed (aK 6 1 (Mm LO EF MG RB)):=by
 intro Ω e Z E P L hd hr G hL q0;rw[aT (by rfl)]
 have e0:aL 6 [D.ref e]=[oR e,none,none,none,none,none]:=rfl;rw[e0];have M0:=G.few;have r0:(nms E).length=E.length:=by simp[nms]
 obtain⟨a,e1,K1,s0⟩:=hO Ω e Z E P hd hr G;have t0:=hr.ej K1 (λj J ds=>by rw[List.mem_singleton.mp J];exact hd.nl ds)
 have le:=hd.lt;have K2:ag [] a (a++[Cell.dK []]):=ag.app;have g2:(a++[Cell.dK []])[a.length]?=some (.dK []):=aq;have l2:(a++[Cell.dK []]).length=a.length+1:=by simp
 have r2:aJ 2 bY [oR e,some .non,none,none,none,none] a=.nx [oR e,some .non,oR a.length,none,none,none] (a++[Cell.dK []]):=rfl;generalize a++[Cell.dK []]=g at *;have K3:ag [] g (g++[Cell.dK []]):=ag.app;have g3:(g++[Cell.dK []])[g.length]?=some (.dK []):=aq;have l3:(g++[Cell.dK []]).length=g.length+1:=by simp
 have r3:aJ 3 bY [oR e,some .non,oR a.length,none,none,none] g=.nx [oR e,some .non,oR a.length,oR g.length,none,none] (g++[Cell.dK []]):=rfl;generalize g++[Cell.dK []]=C at *;have y:=K2.trans K3;have M:=y.get _ _ s0 (by simp)
 have a0:=t0.keep y (by simp)
 have u0:=K3.get _ _ g2 (by simp)
 obtain⟨u,z,m,e4,b0,F,I,X,N,lz⟩:=hE C e Z E P (.inr M) a0 G;have O:a.length≠e:=by have:=K1.len;omega
 have c0:g.length≠e:=by have:=K1.len;omega
 have f0:=X.get _ _ u0 (by simpa using O)
 have v0:=X.get _ _ g3 (by simpa using c0)
 have w0:=a0.ej X (λj J ds=>by rw[List.mem_singleton.mp J,M];simp)
 have N0:u.length<=E.length:=by
  have:=sm F.nd F.sub;omega
 have K0:=X.len;have L0:=K1.len
 have x0:ag [] C m:=⟨X.len,λk c Y _=>by
  by_cases h:k=e
  .subst h;rw[M]at Y;cases Y;exact N
  .exact X.get k c Y (by simpa using h)⟩
 have g0:bG (mN (bj EF) (ab (aa 0) af)) [oR e,some .non,oR a.length,oR g.length,none,none] C=.ok (.seq (.ref z)) m:=by
  rw[bT];have:(mN (bj EF) (ab (aa 0) af)) [oR e,some .non,oR a.length,oR g.length,none,none] C=.ok (.ref z) m:=by simp[e4]
  rw[this,av];exact bF (by rw[aP,aB b0])
 have h0:∃l w b,e_ (du 4) (.seq (.ref z)) (Kn MG RB) fuel 0 [oR e,some .non,oR a.length,oR g.length,none,none] m=.nx [oR e,some .non,oR a.length,oR g.length,w,none] b/\b[a.length]?=some (.dK l)/\a_ (λj=>m.length<=j) b l (dP u L)/\ag [a.length] m b:=by
  have y0:∀A,ag [a.length] m A->A[z]?=some (.lst (u.map .str)):=λA K=>K.get _ _ b0 (by simp;omega)
  refine cf (R:=λr=>∃l w b,r=.nx [oR e,some .non,oR a.length,oR g.length,w,none] b/\b[a.length]?=some (.dK l)/\a_ (λj=>m.length<=j) b l (dP u L)/\ag [a.length] m b) (ds:=u.map .str)
   (λi ρ b=>∃l w,ρ=[oR e,some .non,oR a.length,oR g.length,w,none]/\b[a.length]?=some (.dK l)/\a_ (λj=>m.length<=j) b l (dP (u.take i) L)/\ag [a.length] m b) ?_ ?_ ?_ fuel 0 _ _ (by unfold fuel;simp;omega) (Nat.zero_le _) ⟨[],none,rfl,f0,.nil,ag.refl⟩
  .rintro i ρ b ⟨_,_,_,_,_,K⟩
   rw[cP,aP,aB (y0 _ K)]
  .rintro i d ρ b Q ⟨l,w,rfl,B,S,K⟩
   obtain⟨n,x,rfl⟩:=gu Q;refine⟨[oR e,some .non,oR a.length,oR g.length,oS n,none],rfl,?_⟩;have H:=F.sub n (List.mem_of_getElem? x);obtain⟨o,z0,i0⟩:=hL n H;have ho:o.length<=900:=by have:=q0 n H;rw[i0]at this;simp at this;omega
   have s:=K.get _ _ N (by simpa using Ne.symm O)
   have T:=w0.ej K (λj J ds=>by rw[List.mem_singleton.mp J,f0];simp)
   have A0:n∉u.take i:=by
    intro hm;obtain⟨i',U⟩:=List.mem_iff_getElem?.mp hm;have B0:=(List.getElem?_eq_some_iff.mp U).1;rw[List.length_take]at B0;rw[List.getElem?_take_of_lt (by omega)]at U
    have:=(List.getElem?_inj (by omega) F.nd).mp (U.trans x.symm)
    omega
   obtain⟨j0,t,e6,h6,h7,K6⟩:=Ec (P':=λj=>m.length<=j) hM hB (n:=n) (a1:=some .non) (a3:=oR g.length) (a5:=none) s T B S H A0 (F.pre i n x) z0 i0 (G.short n H) (by rw[List.length_take];omega) ho (λj J=>Nat.le_trans K.len J)
   rw[e6];refine⟨j0,oS n,rfl,h6,?_,K.trans K6⟩;rw[List.take_succ,x];exact h7
  .rintro ρ b ⟨l,w,rfl,B,S,K⟩
   rw[List.length_map,List.take_length]at S;exact⟨l,w,b,rfl,B,S,K⟩
 obtain⟨l,w,b,e5,h5,T,K5⟩:=h0;have s:=K5.get _ _ N (by simpa using Ne.symm O)
 have C0:=K5.get _ _ v0 (by simp;omega)
 have k0:bG (aa 0) [oR e,some .non,oR a.length,oR g.length,w,none] b=.ok (.keys e) b:=by
  rw[bT]
  show srcOf b (.ref e)=_
  rw[ui (.inr s),set_same s]
 have V:∃p,e_ (du 4) (.keys e) Ko fuel 0 [oR e,some .non,oR a.length,oR g.length,w,none] b=.nx [oR e,some .non,oR a.length,oR g.length,p,none] b:=by
  refine cf (R:=λr=>∃p,r=.nx [oR e,some .non,oR a.length,oR g.length,p,none] b) (ds:=(nms E).map .str)
   (λi ρ t=>t=b/\∃p,ρ=[oR e,some .non,oR a.length,oR g.length,p,none]) ?_ ?_ ?_ fuel 0 _ _ (by unfold fuel;simp;omega) (Nat.zero_le _) ⟨rfl,w,rfl⟩
  .rintro i ρ t ⟨rfl,_⟩
   rw[oE s,hr.keys]
  .rintro i d ρ t Q ⟨rfl,p,rfl⟩
   obtain⟨n,x,rfl⟩:=gu Q;refine⟨[oR e,some .non,oR a.length,oR g.length,oS n,none],rfl,?_⟩;have D0:=Bs (n:=n) (.inl C0)
   have:Ko [oR e,some .non,oR a.length,oR g.length,oS n,none] t=.nx [oR e,some .non,oR a.length,oR g.length,oS n,none] t:=by
    unfold Ko;rw[ae,cR]
    show sq (cq (dv (aG .In (.str n) (.ref g.length) t)) _) _=_
    rw[D0];rfl
   rw[this];exact⟨rfl,_,rfl⟩
  .rintro ρ t ⟨rfl,p,rfl⟩
   exact⟨p,rfl⟩
 obtain⟨p,e6⟩:=V
 have l0:∀n∈nms E,∃j,(bC l (.inr n)).getD .non=.ref j/\m.length<=j/\b[j]?=some (.lst ((L n).map .str))/\bC l (.inr n)=oR j:=λn x=>by
  obtain⟨j,B,S,h3⟩:=T.at (n:=n) (by rw[c8];exact I n x)
  rw[gJ (I n x)]at h3;exact⟨j,by rw[B];rfl,S,h3,B⟩
 have m0:bG (aa 0) [oR e,some .non,oR a.length,oR g.length,p,none] b=.ok (.keys e) b:=by
  rw[bT]
  show srcOf b (.ref e)=_
  rw[ui (.inr s),set_same s]
 obtain⟨q,o0,e7,g7,K7,lq⟩:=su (ρ:=[oR e,some .non,oR a.length,oR g.length,p,none]) (me:=mN hX (ab (aa 0) (ab (m2 aF (aa 1) (aa 0)) af))) (cap:=[2]) (ns:=nms E) (f:=λn=>(bC l (.inr n)).getD .non) m0 (by rw[oE s,hr.keys]) (λn x=>by
  obtain⟨j,B,_,_,h4⟩:=l0 n x;have G0:=eF (n:=n) (.inl h5) h4
  show(((aF (.ref a.length) (.str n) b).bind _).bind _).bind _=_
  rw[G0]
  show hX [.str n,.ref j] b=_
  rw[ox,if_pos (aA (by simp)),B]) (by omega) G.nd
 have p0:ag [] a b:=⟨by have:=y.len;have:=K5.len;omega,λk c Y _=>K5.get k c (x0.get k c (y.get k c Y (by simp)) (by simp)) (by have:=bU Y;simp;omega)⟩
 refine⟨q,_,o0,?_,g7,?_,K1.trans (qq.up (p0.trans K7)),K7.get _ _ s (by simp),by have:=p0.len;omega⟩
 .unfold Mm
  have r1:(aJ 1 (mN (bj LO) (ab (aa 0) af))) [oR e,none,none,none,none,none] Ω=.nx [oR e,some .non,none,none,none,none] a:=by simp[e1]
  have I0:(dR (m2 (aG .IsNot) (aa 1) (ah .non)) (aj bz ai) ai) [oR e,some .non,none,none,none,none] a=.nx [oR e,some .non,none,none,none,none] a:=by simp
  rw[ae,r1,ax,ae,I0,ax,ae,r2,ax,ae,r3,ax,ae,cY,g0,cu,e5,ax,ae,cY,k0,cu,e6,ax,ae,cX];have J0:Rf [oR e,some .non,oR a.length,oR g.length,p,none] b=.ok (.ref q) o0:=e7;rw[J0];rfl
 .refine yx λn x=>?_
  obtain⟨j,B,S,h3,_⟩:=l0 n x;exact⟨j,B,by have:=y.len;omega,K7.get _ _ h3 (by simp)⟩
end
def oG(x:Str):Prop:=1<=x.length/\x.length<=8/\∀c∈x.cps.toList,97<=c/\c<=122
section
variable{Ω au:aD}{ρ:aX}{e q j h:Nat}{kvs:List (Key×D)}{E:ig}{P P':Nat->Prop}{n:Str}{r:List Str}{fp:List Nat}{L:Str->List Str}
theorem Ee:∀c,97<=c->c<=122->sR (ay c) "abcdefghijklmnopqrstuvwxyz"=true:=by
 have:∀i,i<26->sR (ay (97+i)) "abcdefghijklmnopqrstuvwxyz"=true:=by decide +kernel
 intro c a b;have:=this (c - 97) (by omega)
 rwa[show 97+(c - 97)=c by omega]at this
def inC:EM:=(cJ (m2 (aG .In) (aa 0) (ah (.str "abcdefghijklmnopqrstuvwxyz"))) true (ah .non) (bG (aa 0)) 0 [])
def Mn:SM:=
 (aj (dR (fv (m1 (nT .str) (aa 0)))
 (aj (bP (ah (.bl false)))
 ai)
 ai)
 (aj (bP (gh (kM .LtE .LtE (ah (.int 1)) (mN (bu .len) (ab (aa 0) af)) (ah (.int 8))) (mN (bu .all) (ab inC af))))
 ai))
def oH(c:aR):Prop:=∀(b:aD) (x:Str),oG x->∃a,c [.str x] b=.ok (.bl true) a/\ag [] b a
theorem Hm:oH (aK 1 1 Mn):=by
 intro Ω x h;obtain⟨w,y,e⟩:=h;rw[aT (by rfl)]
 have i:aL 1 [D.str x]=[oS x]:=rfl;rw[i];have b:bG (aa 0) [oS x] Ω=.ok (.chars x) Ω:=rfl
 have a:=dg (ρ:=[oS x]) (Ω:=Ω) (au:=Ω) (me:=m2 (aG .In) (aa 0) (ah (.str "abcdefghijklmnopqrstuvwxyz"))) (mc:=ah .non) (nc:=true) (mi:=bG (aa 0)) (cap:=[]) (src:=.chars x) (ds:=x.cps.toList.map λc=>.str (ay c)) (p:=λ_=>true) (g:=λd=>.bl true) b rfl (λd _=>rfl) (λd j _=>by
  obtain⟨c,f,rfl⟩:=List.mem_map.mp j;have:=Ee c (e c f).1 (e c f).2
  show aG .In (.str (ay c)) (.str _) Ω=_
  simp[de,inD,this]) (by
  have:x.cps.toList.length=x.length:=by simp[Str.length]
  simp only[List.length_map];omega)
 have k:((x.cps.toList.map λc=>D.str (ay c)).filter λ_=>true).map (λ_=>D.bl true)=(x.cps.toList.map λ_=>true).map .bl:=by
  rw[List.filter_eq_self.mpr (λ_ _=>rfl),List.map_map,List.map_map]
  rfl
 rw[k]at a;have a:inC [oS x] Ω=.ok (.ref Ω.length) (Ω++[.lst ((x.cps.toList.map λ_=>true).map .bl)]):=a
 have l:=uk (Ω:=Ω++[.lst ((x.cps.toList.map λ_=>true).map .bl)]) (q:=Ω.length) aq
 refine⟨Ω++[.lst ((x.cps.toList.map λ_=>true).map .bl)],?_,ag.app⟩
 have m:(mN (bu .all) (ab inC af)) [oS x] Ω=.ok (.bl true) (Ω++[.lst ((x.cps.toList.map λ_=>true).map .bl)]):=by
  rw[fc,aV,a,av,b_,av,av,l];simp
 have o:(kM .LtE .LtE (ah (.int 1)) (mN (bu .len) (ab (aa 0) af)) (ah (.int 8))) [oS x] Ω=.ok (.bl true) Ω:=by
  have r:bu .len [.str x] Ω=.ok (.int x.length) Ω:=by
   show ie (nQ [.str x] Ω) (ie (rH [.str x] Ω) (lQ .len [.str x] Ω))=_
   show lQ .len [.str x] Ω=_
   unfold lQ;simp[aA (n:=x.length) (by omega)]
  have s:cI .LtE (.int 1) (.int x.length) Ω=.ok (.bl true) Ω:=by
   have:decide ((1:Int)<=x.length)=true:=by simp;omega
   simp[de,this]
  have t:cI .LtE (.int x.length) (.int 8) Ω=.ok (.bl true) Ω:=by
   have:decide ((x.length:Int)<=8)=true:=by simp;omega
   simp[de,this]
  unfold kM;have:(mN (bu .len) (ab (aa 0) af)) [oS x] Ω=.ok (.int x.length) Ω:=r;rw[fG,av,this,av,s,cC,cw,cO,av,if_pos rfl,fG,av,t]
 have u:(dR (fv (m1 (nT .str) (aa 0))) (aj (bP (ah (.bl false))) ai) ai) [oS x] Ω=.nx [oS x] Ω:=by rfl
 unfold Mn;rw[ae,u,ax,ae,cX,oq,o,av,cw,Ce,m];rfl
def dc(P:Nat->Prop)(Ω:aD)(h:Nat)(E:ig)(L:Str->List Str):Prop:=
 ∃e l a b,Ω[h]?=some (.ins "House" [("elders",.ref e),("lines",.ref l)])/\cj Ω e a/\a_ P Ω a E/\cj Ω l b/\a_ P Ω b (dP (nms E) L)
theorem dc.keep(H:dc P Ω h E L)(K:ag [] Ω au):dc P au h E L:=by
 obtain⟨e,l,a,b,c,d,f,g,i⟩:=H;exact⟨e,l,a,b,K.get _ _ c (by simp),d.keep K (by simp),f.keep K (by simp),g.keep K (by simp),i.keep K (by simp)⟩
theorem dc.imp(H:dc P Ω h E L)(c:∀j,P j->P' j):dc P' Ω h E L:=by
 obtain⟨e,l,a,b,d,f,g,i,k⟩:=H;exact⟨e,l,a,b,d,f,g.imp c,i,k.imp c⟩
theorem dc.lt(H:dc P Ω h E L):dc (λj=>P j/\j<Ω.length) Ω h E L:=by
 obtain⟨e,l,a,b,c,d,f,g,i⟩:=H;exact⟨e,l,a,b,c,d,f.lt,g,i.lt⟩
theorem dc.Hn{ds:List D}(H:dc P Ω h E L)(K:ag [q] Ω au)(a:Ω[q]?=some (.lst ds))(k:¬ P q):dc P au h E L:=by
 obtain⟨e,l,b,c,d,f,m,g,n⟩:=H;have o:h≠q:=λz=>by rw[z,a]at d;cases d
 have p:e≠q:=λz=>f.nl _ (z▸a)
 have r:l≠q:=λz=>g.nl _ (z▸a)
 have i:∀j∈[q],¬ P j:=λj s=>by rw[List.mem_singleton.mp s];exact k
 exact⟨e,l,b,c,K.get _ _ d (by simpa using o),f.keep K (by simpa using p),m.keep K i,g.keep K (by simpa using r),n.keep K i⟩
def fe:EM:=(m1 (aW ["House"] "elders") (aa 0))
theorem um{l:Nat}(a:Ω[h]?=some (.ins "House" [("elders",.ref e),("lines",.ref l)])):aW ["House"] "elders" (.ref h) Ω=.ok (.ref e) Ω:=cx a rfl rfl
def Mo:SM:=(aj (bP (mN (bu .list) (ab fe af))) ai)
def Bx(c:aR):Prop:=∀(b:aD) (h:Nat) (E:ig) (L:Str->List Str) (P:Nat->Prop),dc P b h E L->∃k a,c [.ref h] b=.ok (.ref k) a/\a[k]?=some (.lst ((nms E).map .str))/\ag [] b a/\b.length<=k
theorem Ho:Bx (aK 1 1 Mo):=by
 intro a h E L P H;obtain⟨e,l,c,d,f,g,i,k,m⟩:=H;rw[aT (by rfl)]
 have j:aL 1 [D.ref h]=[oR h]:=rfl;rw[j];have b:=yt g;rw[i.keys]at b;refine⟨a.length,a++[.lst ((nms E).map .str)],?_,aq,ag.app,Nat.le_refl _⟩
 have:(mN (bu .list) (ab fe af)) [oR h] a=.ok (.ref a.length) (a++[.lst ((nms E).map .str)]):=by
  show(((aW ["House"] "elders" (.ref h) a).bind _).bind _)=_
  rw[um f,av];exact b
 unfold Mo;rw[ae,cX,this];rfl
theorem lG{m:Str}{F:aR}{i:Nat}{c:AM}(H:dc P Ω h E L)(d:ρ[i]?=some (oR h))(a:([("elders",D.ref 0),("lines",D.ref 0)]:List (Str×D)).lookup m=none):aC "House" m F (aa i) c ρ Ω=(c ρ Ω).bind λxs b=>xB (F (.ref h::xs) b):=by
 obtain⟨e,l,f,g,j,k,n,o,p⟩:=H;refine fJ (by rw[fF,d,fE]) j ?_
 simp only[List.lookup_cons]at a ⊢;split at a
 .cases a
 .split at a
  .cases a
  .rfl
def Mp(a:aR):SM:=
 (aj (dR (m2 (aG .NotIn) (aa 1) (aC "House" "kinds" a (aa 0) af))
 (aj bz
 ai)
 ai)
 ai)
def oJ(c:aR):Prop:=∀(b:aD) (h:Nat) (E:ig) (L:Str->List Str) (P:Nat->Prop) (n:Str),dc P b h E L->n∈nms E->∃a,c [.ref h,.str n] b=.ok .non a/\ag [] b a
theorem Hq{d:aR}(e:Bx d):oJ (aK 2 2 (Mp d)):=by
 intro c h E L P n H f;rw[aT (by rfl)]
 have g:aL 2 [D.ref h,.str n]=[oR h,oS n]:=rfl;rw[g];obtain⟨k,a,i,j,l,_⟩:=e c h E L P H
 have m:aC "House" "kinds" d (aa 0) af [oR h,oS n] c=.ok (.ref k) a:=by
  rw[lG H rfl (by decide),b_,av,i,jl]
 refine⟨a,?_,l⟩;have b:=oy (w:=n) j;rw[decide_eq_true f]at b;unfold Mp;rw[ae,cR,cN];have:aa 1 [oR h,oS n] c=.ok (.str n) c:=rfl;rw[this,av,m,av,b];rfl
def Mq(a:aR):SM:=(aj (ck (aC "House" "check_kind" a (aa 0) (ab (aa 3) af)))
 (aj (dR (m2 (aG .In) (aa 3) (dZ (aa 1) true (ah .non) false (aa 2)))
 (aj bz
 ai)
 ai)
 ai))
def Mr(a:aR):SM:=
 (aj (dR (m2 (aG .Gt) (mN (bu .len) (ab (aa 1) af)) (ah (.int 5)))
 (aj bz
 ai)
 ai)
 (aj (eE (iI [2,3]) (pQ (aa 1))
 (Mq a))
 ai))
def Eg(CE:aR):Prop:=∀(c:aD) (h a:Nat) (E:ig) (L:Str->List Str) (P:Nat->Prop) (r:List Str),dc P c h E L->c[a]?=some (.lst (r.map .str))->r.Nodup->r.length<=5->(∀x∈r,x∈nms E)->∃b,CE [.ref h,.ref a] c=.ok .non b/\ag [] c b
theorem Eh{f:aR}(m:oJ f){a i:Nat}{x:Str}(H:dc P Ω h E L)(o:Ω[a]?=some (.lst (r.map .str)))(p:r[i]?=some x)(q:r.Nodup)(s:x∈nms E) :
  ∃au,Mq f [oR h,oR a,oI i,oS x] Ω=.nx [oR h,oR a,oI i,oS x] au/\ag [] Ω au:=by
 obtain⟨b,t,l⟩:=m Ω h E L P x H s
 have u:aC "House" "check_kind" f (aa 0) (ab (aa 3) af) [oR h,oR a,oI i,oS x] Ω=.ok .non b:=by
  rw[lG H rfl (by decide)]
  show xB (f [.ref h,.str x] Ω)=_
  rw[t];rfl
 have g:=oD (n:=i) (l.get _ _ o (by simp))
 have y:(b++[Cell.lst ((r.take i).map .str)])[b.length]?=some (.lst ((r.take i).map .str)):=aq;have z:ag [] Ω (b++[Cell.lst ((r.take i).map .str)]):=l.trans ag.app;generalize b++[Cell.lst ((r.take i).map .str)]=d at *;have e:=lB (w:=x) y
 have j:x∉r.take i:=by
  intro A;obtain⟨C,c⟩:=List.mem_iff_getElem?.mp A;have k:=(List.getElem?_eq_some_iff.mp c).1;rw[List.length_take]at k;rw[List.getElem?_take_of_lt (by omega)]at c
  have:=(List.getElem?_inj (by omega) q).mp (c.trans p.symm)
  omega
 rw[decide_eq_false j]at e;refine⟨d,?_,z⟩
 have B:dZ (aa 1) true (ah .non) false (aa 2) [oR h,oR a,oI i,oS x] b=.ok (.ref b.length) d:=by
  rw[iU];simp[g]
 unfold Mq;rw[ae,cy,u,cu,ax,ae,cR,cN];have:aa 3 [oR h,oR a,oI i,oS x] b=.ok (.str x) b:=rfl;rw[this,av,B,av,e];rfl
theorem Hr{o:aR}(q:oJ o):Eg (aK 4 2 (Mr o)):=by
 intro c h a E L P r H g s C t;rw[aT (by rfl)]
 have u:aL 4 [D.ref h,.ref a]=[oR h,oR a,none,none]:=rfl;rw[u]
 have w:(dR (m2 (aG .Gt) (mN (bu .len) (ab (aa 1) af)) (ah (.int 5))) (aj bz ai) ai) [oR h,oR a,none,none] c=.nx [oR h,oR a,none,none] c:=by
  have e:=fH g;rw[List.length_map]at e;rw[cR,cN];have:(mN (bu .len) (ab (aa 1) af)) [oR h,oR a,none,none] c=.ok (.int r.length) c:=e;rw[this,av,fG,av]
  have:aG .Gt (.int r.length) (.int 5) c=.ok (.bl false) c:=by
   simp[de];omega
  rw[this];rfl
 have k:pQ (aa 1) [oR h,oR a,none,none] c=.ok (.Jq (.ref a)) c:=by
  unfold pQ;simp[aB g]
 unfold Mr;rw[ae,w,ax,ae,cY,k,cu]
 refine cf (R:=λr=>∃f,h8 (sq r _)=.ok .non f/\ag [] c f) (ds:=dh 0 (r.map .str))
  (λi j b=>∃l m,j=[oR h,oR a,l,m]/\ag [] c b) ?_ ?_ ?_ fuel 0 _ _ (by rw[iC];unfold fuel;simp;omega) (Nat.zero_le _) ⟨none,none,rfl,ag.refl⟩
 .rintro i j b ⟨_,_,_,K⟩
  show(fu b (.ref a)).map (dh 0)=_
  rw[aP,aB (K.get _ _ g (by simp))];rfl
 .rintro i d j b y ⟨l,m,rfl,K⟩
  obtain⟨F,n,rfl⟩:=jR _ 0 i d y;obtain⟨x,p,rfl⟩:=gu n;rw[Nat.zero_add];refine⟨[oR h,oR a,oI i,oS x],rfl,?_⟩;obtain⟨z,A,B⟩:=Eh q (i:=i) (H.keep K) (K.get _ _ g (by simp)) p s (t x (List.mem_of_getElem? p))
  rw[A];exact⟨_,_,rfl,K.trans B⟩
 .rintro j b ⟨l,m,rfl,K⟩
  exact⟨b,rfl,K⟩
end
section
variable{Ω au:aD}{ρ:aX}{e q j h:Nat}{kvs:List (Key×D)}{E:ig}{P P':Nat->Prop}{n:Str}{r:List Str}{fp:List Nat}{L L':Str->List Str}
theorem j9{f:Str}{b c:EM}{y:D}{k:Nat}{a:List (Str×D)}{aQ:aD}(d:c ρ Ω=.ok y aQ)(e:b ρ aQ=.ok (.ref k) aQ)(g:aQ[k]?=some (.ins "House" a))(h:a.length<1000):aZ ["House"] f b c ρ Ω=.nx ρ (aQ.set k (.ins "House" (iJ f y a))):=by
 unfold aZ;rw[d,cu,e,cu,iT g];have:((["House"]:List Str).contains "House"&&decide (a.length<1000))=true:=by rw[decide_eq_true h];rfl
 simp only[this,if_true]
def Kp:SM:=
 (aj (aZ ["House"] "elders" (aa 0) bY)
 (aj (aZ ["House"] "lines" (aa 0) bY)
 ai))
def yy(c:aR):Prop:=∀(b:aD) (L:Str->List Str) (P:Nat->Prop),∃a,dB "House" c [] b=.ok (.ref b.length) a/\dc P a b.length [] L/\ag [] b a
theorem Hs:yy (aK 1 1 Kp):=by
 intro b L P;have h:(b++[Cell.ins "House" []])[b.length]?=some (.ins "House" []):=aq;have i:ag [] b (b++[Cell.ins "House" []]):=ag.app;have p:(b++[Cell.ins "House" []]).length=b.length+1:=by simp
 unfold dB;generalize b++[Cell.ins "House" []]=a at *;rw[aT (by rfl)]
 have j:aL 1 [D.ref b.length]=[oR b.length]:=rfl;rw[j];have d:(a++[Cell.dK []])[b.length]?=some (.ins "House" []):=cg h;have k:aZ ["House"] "elders" (aa 0) bY [oR b.length] a=.nx [oR b.length] ((a++[Cell.dK []]).set b.length (.ins "House" [("elders",.ref a.length)])):=j9 (aQ:=a++[.dK []]) rfl rfl d (by simp)
 have l:=aI (e:=.ins "House" [("elders",.ref a.length)]) d;have m:ag [b.length] a ((a++[Cell.dK []]).set b.length (.ins "House" [("elders",.ref a.length)])):=ag.app.trans (ag.set (by simp))
 have d1:((a++[Cell.dK []]).set b.length (.ins "House" [("elders",.ref a.length)]))[a.length]?=some (.dK []):=bp aq (by omega)
 have q:((a++[Cell.dK []]).set b.length (.ins "House" [("elders",.ref a.length)])).length=a.length+1:=by simp
 generalize (a++[Cell.dK []]).set b.length (.ins "House" [("elders",.ref a.length)])=aQ at *;have f:(aQ++[Cell.dK []])[b.length]?=some (.ins "House" [("elders",.ref a.length)]):=cg l;have n:aZ ["House"] "lines" (aa 0) bY [oR b.length] aQ=.nx [oR b.length] ((aQ++[Cell.dK []]).set b.length (.ins "House" [("elders",.ref a.length),("lines",.ref aQ.length)])):=j9 (aQ:=aQ++[.dK []]) rfl rfl f (by simp)
 have o:=aI (e:=.ins "House" [("elders",.ref a.length),("lines",.ref aQ.length)]) f;have g:ag [b.length] aQ ((aQ++[Cell.dK []]).set b.length (.ins "House" [("elders",.ref a.length),("lines",.ref aQ.length)])):=ag.app.trans (ag.set (by simp))
 have d2:((aQ++[Cell.dK []]).set b.length (.ins "House" [("elders",.ref a.length),("lines",.ref aQ.length)]))[aQ.length]?=some (.dK []):=bp aq (by omega)
 generalize (aQ++[Cell.dK []]).set b.length (.ins "House" [("elders",.ref a.length),("lines",.ref aQ.length)])=c at *;refine⟨c,?_,⟨a.length,aQ.length,[],[],o,.inl (g.get _ _ d1 (by simp;omega)),.nil,.inl d2,.nil⟩,ag.new i (m.trans g) (by simp)⟩
 have:h8 (Kp [oR b.length] a)=.ok .non c:=by
  unfold Kp;rw[ae,k,ax,ae,n];rfl
 rw[this]
def Ms(a:aR):SM:=
 (aj (aJ 2 (mN (bj a) (ab (aa 1) af)))
 (aj (aZ ["House"] "elders" (aa 0) (aa 1))
 (aj (aZ ["House"] "lines" (aa 0) (aa 2))
 ai)))
def yz(d:aR):Prop:=∀(b:aD) (h e f g:Nat) (c:List (Key×D)) (E:ig) (P:Nat->Prop) (L:Str->List Str),b[h]?=some (.ins "House" [("elders",.ref f),("lines",.ref g)])->cj b e c->a_ P b c E->Gd E->Kl E L->(∀n∈nms E,(L n).length<=900)->(∀j,b.length<=j->P j) ->
 ∃a,d [.ref h,.ref e] b=.ok .non a/\dc P a h E L/\ag [h,e] b a
theorem Ht{k:aR}(H:Ed k):yz (aK 3 2 (Ms k)):=by
 intro y h e I f c E P L A m B G J n K;rw[aT (by rfl)]
 have M:aL 3 [D.ref h,.ref e]=[oR h,oR e,none]:=rfl;rw[M];obtain⟨l,o,aQ,N,p,q,r,s,V⟩:=H y e c E P L m B G J n;have d:h≠e:=λz=>m.ni _ _ (z▸A)
 have g:=r.get _ _ A (by simpa using d)
 have t:=B.ej r (λj u i=>by rw[List.mem_singleton.mp u];exact m.nl i)
 have w:l≠h:=λz=>by rw[z,g]at p;cases p
 have O:aZ ["House"] "elders" (aa 0) (aa 1) [oR h,oR e,oR l] aQ=.nx [oR h,oR e,oR l] (aQ.set h (.ins "House" [("elders",.ref e),("lines",.ref f)])):=j9 (aQ:=aQ) rfl rfl g (by simp)
 have C:=aI (e:=.ins "House" [("elders",.ref e),("lines",.ref f)]) g;have Q:ag [h] aQ (aQ.set h (.ins "House" [("elders",.ref e),("lines",.ref f)])):=ag.set (by simp)
 generalize aQ.set h (.ins "House" [("elders",.ref e),("lines",.ref f)])=a at *;have R:aZ ["House"] "lines" (aa 0) (aa 2) [oR h,oR e,oR l] a=.nx [oR h,oR e,oR l] (a.set h (.ins "House" [("elders",.ref e),("lines",.ref l)])):=j9 (aQ:=a) rfl rfl C (by simp)
 have S:=aI (e:=.ins "House" [("elders",.ref e),("lines",.ref l)]) C;have T:ag [h] a (a.set h (.ins "House" [("elders",.ref e),("lines",.ref l)])):=ag.set (by simp)
 generalize a.set h (.ins "House" [("elders",.ref e),("lines",.ref l)])=x at *;have b:=Q.trans T;have F:∀j∈[h],∀i,aQ[j]?≠some (.lst i):=λj u i=>by rw[List.mem_singleton.mp u,g];simp
 refine⟨x,?_,⟨e,l,c,o,S,.inr (b.get _ _ s (by simpa using Ne.symm d)),t.ej b F,.inl (b.get _ _ p (by simpa using w)),(q.imp K).ej b F⟩,(r.sub (by simp)).trans (b.sub (by simp))⟩
 unfold Ms;have U:(aJ 2 (mN (bj k) (ab (aa 1) af))) [oR h,oR e,none] y=.nx [oR h,oR e,oR l] aQ:=by simp[N]
 rw[ae,U,ax,ae,O,ax,ae,R];rfl
def Hu:EM:=(mN hX (ab (aa 0) (ab (yX (m2 (aG .Eq) (aa 0) (aa 2)) (mN (bu .list) (ab (aa 1) af)) (m2 aF (m1 (aW ["House"] "elders") (aa 3)) (aa 0))) af)))
def Mt:EM:=(mN pM (ab (cJ Hu true (ah .non) (bG (aa 4)) 0 [2,1,0]) af))
def Mu:EM:=(cE jI gz (aa 4) (ab (yX (m2 (aG .Is) (aa 3) (ah .non)) (mN (bu .len) (ab (aa 4) af)) (aa 3)) (ab (aa 1) af)))
def Mv(a CE b c:aR):SM:=
 (aj (dR (fv (mN (bj a) (ab (aa 1) af)))
 (aj bz
 ai)
 ai)
 (aj (dR (m2 (aG .In) (aa 1) fe)
 (aj bz
 ai)
 ai)
 (aj (dR (m2 (aG .GtE) (mN (bu .len) (ab fe af)) (ah (.int 12)))
 (aj bz
 ai)
 ai)
 (aj (ck (aC "House" "check_elders" CE (aa 0) (ab (aa 2) af)))
 (aj (aJ 4 (aC "House" "kinds" b (aa 0) af))
 (aj (ck Mu)
 (aj (ck (aC "House" "settle" c (aa 0) (ab Mt af)))
 ai)))))))
theorem yA{a:Type}{xs:List a}{x:a}:nA xs xs.length x=xs++[x]:=by
 have:HT.gx xs.length 0 (some (xs.length:Int))=xs.length:=by
  unfold HT.gx;simp;intro z;omega
 unfold nA;simp only[this];simp
theorem Ei{a k:Nat}{a3:Option D}(H:dc P Ω h E L)(ha:Ω[a]?=some (.lst (r.map .str)))(hk:Ω[k]?=some (.lst ((nms E++[n]).map .str)))(hn:n∉nms E)(O:(nms E).Nodup)(hl:E.length<=100)(hP:∀j,Ω.length<=j->P j) :
  ∃q A au,Mt [oR h,oS n,oR a,a3,oR k] Ω=.ok (.ref q) au/\au[q]?=some (.dK A)/\a_ P au A (E++[(n,r)])/\ag [] Ω au/\Ω.length<=q:=by
 have a0:bG (aa 4) [oR h,oS n,oR a,a3,oR k] Ω=.ok (.seq (.ref k)) Ω:=by
  rw[bT];exact bF (by rw[aP,aB hk])
 have b0:nms (E++[(n,r)])=nms E++[n]:=by simp[nms]
 obtain⟨ys,o,e1,m,rfl,Q,K1⟩:=oB (ρ:=[oR h,oS n,oR a,a3,oR k]) (me:=Hu) (mc:=ah .non) (cap:=[2,1,0]) (ds:=(nms E++[n]).map .str) (λi B c=>∃m:List (Str×D),B=m.map (λp=>.tup [.str p.1,p.2])/\a_ P c (m.map λp=>(.inr p.1,p.2)) ((E++[(n,r)]).take i)/\ag [] Ω c) a0 ⟨[],rfl,.nil,ag.refl⟩
  (λi B c h=>by
   obtain⟨_,_,_,K⟩:=h;rw[cP,aP,aB (K.get _ _ hk (by simp))])
  (λi d B c c0 hI=>by
   obtain⟨m,rfl,Q,K⟩:=hI;obtain⟨x,N,rfl⟩:=gu c0;obtain⟨e,l,A,k0,q1,q2,q3,q4,q5⟩:=H.keep K;have e0:=K.get _ _ ha (by simp)
   show ∃y au,Hu [oS x,oR a,oS n,oR h] c=.ok y au/\_
   have S:∀(p:Str×List Str) (j:Nat) (s:aD),(E++[(n,r)])[i]?=some p->p.1=x->P j->s[j]?=some (.lst (p.2.map .str))->ag [] c s->∃t:List (Str×D),(m.map (λp=>D.tup [.str p.1,p.2])++[.tup [.str x,.ref j]])=t.map (λp=>.tup [.str p.1,p.2])/\a_ P s (t.map λp=>(.inr p.1,p.2)) ((E++[(n,r)]).take (i+1))/\ag [] Ω s:=by
    intro p j s T C F Y K3;refine⟨m++[(x,.ref j)],by simp,?_,K.trans K3⟩
    rw[List.take_succ,T,List.map_append];exact az.append (R:=λ(kv:Key×D) (p:Str×List Str)=>kv.1=.inr p.1/\∃j,kv.2=.ref j/\P j/\s[j]?=some (.lst (p.2.map .str))) (Q.keep K3 (by simp)) (.cons ⟨by rw[C],j,rfl,F,Y⟩ .nil)
   have Z:(m2 (aG .Eq) (aa 0) (aa 2)) [oS x,oR a,oS n,oR h] c=.ok (.bl (decide (x=n))) c:=by
    show aG .Eq (.str x) (.str n) c=_
    simp
    by_cases z:x=n<;>simp[z]
   have hi:=(List.getElem?_eq_some_iff.mp N).1;rw[List.length_append]at hi;simp only[nms,List.length_map,List.length_singleton]at hi
   by_cases G:i<E.length
   .have u:(nms E)[i]?=some x:=by rw[List.getElem?_append_left (by simp[nms];exact G)]at N;exact N
    have I:x∈nms E:=List.mem_of_getElem? u;have J:x≠n:=λz=>hn (z▸I)
    rw[decide_eq_false J]at Z;have T:(E++[(n,r)])[i]?=some E[i]:=by rw[List.getElem?_append_left G];simp
    have C:E[i].1=x:=by
     simp[nms,G]at u;exact u
    have U:dm E x=E[i].2:=by
     have hm:(x,dm E x)∈E:=uj (lF I);obtain⟨i',w⟩:=List.mem_iff_getElem?.mp hm;have e1:(nms E)[i']?=some x:=by simp[nms,w]
     have V:=(List.getElem?_eq_some_iff.mp w).1;have:=(List.getElem?_inj (by simp[nms];exact V) O).mp (e1.trans u.symm)
     subst this;rw[List.getElem?_eq_getElem V]at w;have z:=Option.some.inj w;rw[z]
    obtain⟨j,hv,F,Y⟩:=q3.at I;rw[U]at Y;obtain⟨t,z1,z2,z3⟩:=S E[i] j c T C F Y ag.refl;refine⟨.tup [.str x,.ref j],c,?_,t,z1,z2,z3⟩
    have M:(m2 aF (m1 (aW ["House"] "elders") (aa 3)) (aa 0)) [oS x,oR a,oS n,oR h] c=.ok (.ref j) c:=by
     show((aW ["House"] "elders" (.ref h) c).bind _)=_
     rw[um q1,av];exact eF q2 hv
    unfold Hu;rw[fc,aV];have:aa 0 [oS x,oR a,oS n,oR h] c=.ok (.str x) c:=rfl;rw[this,av,aV,ot,Z,cC,cw,cO,av,if_neg (by simp),M,av,b_,av,av,av,ox,if_pos (aA (by simp))]
   .have f0:i=E.length:=by omega
    subst f0
    have J:x=n:=by
     rw[List.getElem?_append_right (by simp[nms])]at N
     simp[nms]at N;exact N.symm
    subst J;rw[decide_eq_true rfl]at Z;have g0:=gI e0;obtain⟨t,z1,z2,z3⟩:=S (x,r) c.length (c++[.lst (r.map .str)]) (by simp) rfl (hP _ K.len) aq ag.app
    refine⟨.tup [.str x,.ref c.length],c++[.lst (r.map .str)],?_,t,z1,z2,z3⟩;have M:(mN (bu .list) (ab (aa 1) af)) [oS x,oR a,oS x,oR h] c=.ok (.ref c.length) (c++[.lst (r.map .str)]):=g0;unfold Hu;rw[fc,aV];have:aa 0 [oS x,oR a,oS x,oR h] c=.ok (.str x) c:=rfl;rw[this,av,aV,ot,Z,cC,cw,cO,av,if_pos rfl,M,av,b_,av,av,av,ox,if_pos (aA (by simp))]) (by simp[nms];omega)
 have X:((nms E++[n]).map D.str).length=(E++[(n,r)]).length:=by simp[nms]
 rw[X,List.take_length]at Q
 have h0:m.map (·.1)=nms E++[n]:=by
  have:=Q.keys;rw[b0,List.map_map]at this
  have h2:(m.map (D.str ∘ (·.1)))=(nms E++[n]).map D.str:=by
   rw[←this];rfl
  rw[←List.map_map]at h2;exact(List.map_inj_right (λa b z=>by cases z;rfl)).mp h2
 have g2:(o++[Cell.lst (m.map λp=>.tup [.str p.1,p.2])])[o.length]?=some (.lst (m.map λp=>.tup [.str p.1,p.2])):=aq
 have K2:ag [] Ω (o++[Cell.lst (m.map λp=>.tup [.str p.1,p.2])]):=K1.trans ag.app
 have h2:a_ P (o++[Cell.lst (m.map λp=>.tup [.str p.1,p.2])]) (m.map λp=>(.inr p.1,p.2)) (E++[(n,r)]):=Q.keep (fp:=[]) ag.app (by simp)
 generalize o++[Cell.lst (m.map λp=>.tup [.str p.1,p.2])]=c at *
 have T:bo kR (m.map λp=>D.tup [.str p.1,p.2])=some (m.map λp=>(.inr p.1,p.2)):=gq (f:=kR) (g:=λp:Str×D=>D.tup [.str p.1,p.2]) (h:=λp=>(.inr p.1,p.2)) (λn=>rfl) m
 have hf:=gK (m.map λp=>((.inr p.1:Key),p.2)) [] (by
  rw[List.nil_append,List.map_map];have:(m.map ((λp:Key×D=>p.1) ∘ λp=>((.inr p.1:Key),p.2)))=(m.map (·.1)).map Sum.inr:=by rw[List.map_map];rfl
  rw[this,h0];have i0:(nms E++[n]).Nodup:=List.nodup_append.mpr ⟨O,by simp,λa ha b hb z=>hn (by rw[←List.mem_singleton.mp hb,←z];exact ha)⟩
  exact List.Pairwise.map _ (λa b j0 z=>j0 (by cases z;rfl)) i0)
 rw[List.nil_append]at hf;refine⟨c.length,_,c++[.dK (m.map λp=>(.inr p.1,p.2))],?_,aq,h2.keep (fp:=[]) ag.app (by simp),K2.trans ag.app,K2.len⟩
 unfold Mt;rw[fc,aV,e1,av,b_,av,av]
 show ie (jx [.ref o.length] c) _=_
 simp only[jx,aB g2,T,hf];rfl
def yB(e:aR):Prop:=∀(c:aD) (h a:Nat) (E:ig) (L d:Str->List Str) (P:Nat->Prop) (n:Str) (r:List Str),dc P c h E L->c[a]?=some (.lst (r.map .str))->oG n->n∉nms E->E.length<12->r.Nodup->r.length<=5->(∀x∈r,x∈nms E) ->
 Gd (E++[(n,r)])->Kl (E++[(n,r)]) d->(∀m∈nms (E++[(n,r)]),(d m).length<=900)->(∀j,c.length<=j->P j)->∃b,e [.ref h,.str n,.ref a,.non] c=.ok .non b/\dc P b h (E++[(n,r)]) d/\ag [h] c b
theorem Hv{M CE N ST:aR}(hI:oH M)(hC:Eg CE)(hK:Bx N)(hS:yz ST):yB (aK 5 4 (Mv M CE N ST)):=by
 intro F h a E L L' P n r H O hv hn hl Q R S G T U hP;rw[aT (by rfl)]
 have e0:aL 5 [D.ref h,.str n,.ref a,.non]=[oR h,oS n,oR a,some .non,none]:=rfl;rw[e0];have V:nms (E++[(n,r)])=nms E++[n]:=by simp[nms]
 have t:(nms E).Nodup:=by
  have:=G.nd;rw[V]at this;exact(List.nodup_append.mp this).1
 obtain⟨d,e1,u⟩:=hI F n hv;have r1:(dR (fv (mN (bj M) (ab (aa 1) af))) (aj bz ai) ai) [oR h,oS n,oR a,some .non,none] F=.nx [oR h,oS n,oR a,some .non,none] d:=by simp[e1]
 have w:=H.keep u
 have r2:(dR (m2 (aG .In) (aa 1) fe) (aj bz ai) ai) [oR h,oS n,oR a,some .non,none] d=.nx [oR h,oS n,oR a,some .non,none] d:=by
  obtain⟨e,l,f,X,y,I,J,q4,q5⟩:=w;have z:=Bs (n:=n) I;rw[J.is,decide_eq_false hn]at z;rw[cR,cN]
  show cq (dv ((aW ["House"] "elders" (.ref h) d).bind _)) _=_
  rw[um y,av,z];rfl
 have r3:(dR (m2 (aG .GtE) (mN (bu .len) (ab fe af)) (ah (.int 12))) (aj bz ai) ai) [oR h,oS n,oR a,some .non,none] d=.nx [oR h,oS n,oR a,some .non,none] d:=by
  obtain⟨e,l,f,X,y,I,J,q4,q5⟩:=w;have i:=Cj I;have m0:=J.len
  have Y:(mN (bu .len) (ab fe af)) [oR h,oS n,oR a,some .non,none] d=.ok (.int f.length) d:=by
   show(((aW ["House"] "elders" (.ref h) d).bind _).bind _)=_
   rw[um y,av];exact i
  have hc:aG .GtE (.int f.length) (.int 12) d=.ok (.bl false) d:=by
   have:decide ((f.length:Int)≥12)=false:=by simp;omega
   simp[de];omega
  rw[cR,cN,Y,av,fG,av,hc];rfl
 obtain⟨m,e2,K⟩:=hC d h a E L P r w (u.get _ _ O (by simp)) Q R S
 have r4:(ck (aC "House" "check_elders" CE (aa 0) (ab (aa 2) af))) [oR h,oS n,oR a,some .non,none] d=.nx [oR h,oS n,oR a,some .non,none] m:=by
  rw[cy,lG w rfl (by decide)]
  show cq (xB (CE [.ref h,.ref a] d)) _=_
  rw[e2];rfl
 have Z:=w.keep K;obtain⟨k,b,e3,s,K3,l3⟩:=hK m h E L P Z
 have r5:(aJ 4 (aC "House" "kinds" N (aa 0) af)) [oR h,oS n,oR a,some .non,none] m=.nx [oR h,oS n,oR a,some .non,oR k] b:=by
  rw[br,lG Z rfl (by decide),b_,av,e3]
  rfl
 have H3:dc (λj=>P j/\j≠k) b h E L:=(Z.lt.keep K3).imp λj g=>⟨g.1,by omega⟩
 have A:=(u.trans K).trans K3;have a0:=A.get _ _ O (by simp)
 have b0:a≠k:=by have:=bU (K.get _ _ (u.get _ _ O (by simp)) (by simp));omega
 have r6:(ck Mu) [oR h,oS n,oR a,some .non,oR k] b=.nx [oR h,oS n,oR a,some .non,oR k] (b.set k (.lst ((nms E++[n]).map .str))):=by
  have T:=dU s;have i:=fH s
  have c0:gz (.ref k) [.int ((nms E).map D.str).length,.str n] b=.ok .non (b.set k (.lst ((nms E++[n]).map .str))):=by
   simp only[gz,iS s];rw[if_pos,yA]
   .simp
   .rw[aA (by simp[nms];omega),eO (by omega) (by simp[nms];omega)];rfl
  unfold Mu;rw[cy,gs (x:=.ref k) (au:=b) rfl T]
  have f0:(ab (yX (m2 (aG .Is) (aa 3) (ah .non)) (mN (bu .len) (ab (aa 4) af)) (aa 3)) (ab (aa 1) af):AM) [oR h,oS n,oR a,some .non,oR k] b=.ok [.int ((nms E).map D.str).length,.str n] b:=by
   have:(m2 (aG .Is) (aa 3) (ah .non)) [oR h,oS n,oR a,some .non,oR k] b=.ok (.bl true) b:=rfl;rw[aV,ot,this,cC,cw,cO,av,if_pos rfl];have:(mN (bu .len) (ab (aa 4) af)) [oR h,oS n,oR a,some .non,oR k] b=.ok (.int ((nms E).map D.str).length) b:=i;rw[this];rfl
  rw[f0,av,c0];rfl
 have K4:ag [k] b (b.set k (.lst ((nms E++[n]).map .str))):=ag.set (by simp)
 have g4:=aI (e:=.lst ((nms E++[n]).map .str)) s;have H4:dc P (b.set k (.lst ((nms E++[n]).map .str))) h E L:=(H3.Hn K4 s (by simp)).imp λj g=>g.1
 have g0:=K4.get _ _ a0 (by simpa using b0)
 have lk:=bU s;generalize b.set k (.lst ((nms E++[n]).map .str))=h0 at *
 have o:ag [] F h0:=ag.new A K4 (λj g=>by
  rw[List.mem_singleton.mp g];have:=(u.trans K).len;omega)
 obtain⟨q,f,i0,e5,g5,h5,K5,l5⟩:=Ei (a3:=some .non) H4 g0 g4 hn t (by omega) (λj g=>hP j (Nat.le_trans o.len g))
 obtain⟨e,l,k0,l0,y,I,J,q4,q5⟩:=H4.keep K5;have p:=o.trans K5;obtain⟨j0,e6,H6,K6⟩:=hS i0 h q e l f (E++[(n,r)]) P L' y (.inl g5) h5 G T U (λj g=>hP j (Nat.le_trans p.len g))
 have lq:F.length<=q:=Nat.le_trans o.len l5;refine⟨j0,?_,H6,⟨Nat.le_trans p.len K6.len,λk' c B C=>K6.get k' c (p.get k' c B (by simp)) ?_⟩⟩
 .unfold Mv
  rw[ae,r1,ax,ae,r2,ax,ae,r3,ax,ae,r4,ax,ae,r5,ax,ae,r6,ax,ae,cy,lG H4 rfl (by decide),aV,e5,av,b_,av,av,e6]
  rfl
 .have:=bU B
  simp at C ⊢;exact⟨C,by omega⟩
end
theorem By:∃e,iO e (pureOf (aK 8 3 mU)):=by
 have h:∀c t m:Int,∃r,0<=t->t<100000->0<m->0<=r/\r<m/\pureOf (aK 8 3 mU) [.int c,.int t,.int m]=.ok (false,.int r):=λc t m=>by
  by_cases d:0<=t/\t<100000/\0<m
  .obtain⟨r,f,g,i⟩:=Bk (c:=c) d.1 d.2.1 d.2.2
   exact⟨r,λ_ _ _=>⟨f,g,i⟩⟩
  .exact⟨0,λa b c=>absurd ⟨a,b,c⟩ d⟩
 exact⟨λc t m=>(h c t m).choose,λc t m=>(h c t m).choose_spec⟩
def oK:SM:=
 (aj (dR (m2 (aG .Lt) (aa 1) (mN (bu .len) (ab (aa 0) af)))
 (aj (bP (m2 aF (aa 0) (aa 1)))
 ai)
 ai)
 (aj (bP (ah (.int 0)))
 ai))
theorem Hw(ns:List Int):DL (SC ns)=true:=by
 show(ns.map D.int).all eJ=true
 rw[List.all_eq_true];intro d a;obtain⟨i,_,rfl⟩:=List.mem_map.mp a;rfl
theorem yC:oi (λns k=>ns.getD k 0) (pureOf (aK 2 2 oK)):=by
 intro ns k
 have b:[SC ns,D.int k].all DL=true:=by
  simp only[List.all_cons,Hw,List.all_nil];rfl
 have d:aL 2 [SC ns,D.int k]=[some (SC ns),some (.int k)]:=rfl
 have a:bu .len [SC ns] []=.ok (.int ns.length) []:=by
  show aw.ok (D.int ((ns.map D.int).length:Nat)) []=_
  rw[List.length_map]
 refine mT (au:=[]) b ?_ rfl;rw[aT (by rfl),d]
 by_cases h:k<ns.length
 .have c:(k:Int)<(ns.length:Int):=by omega
  have e:L2.jC (ns.map D.int) (k:Int)=some (.int (ns.getD k 0)):=L2.dw (by simp[h])
  have f:aF (SC ns) (.int k) []=.ok (.int (ns.getD k 0)) []:=by
   unfold aF;rw[dD,dD,gG]
   show ie (ixs [] (some (ns.map D.int)) (.int k)) _=_
   rw[yh e];rfl
  simp[oK,a,c,f,-List.getD_eq_getElem?_getD]
 .have c:¬ (k:Int)<(ns.length:Int):=by omega
  have e:ns.getD k 0=0:=by rw[List.getD_eq_getElem?_getD,List.getElem?_eq_none (by omega)];rfl
  show _=aw.ok (D.int (ns.getD k 0)) []
  rw[e];simp[oK,a,c]
section
variable{Ω au:aD}{ρ:aX}{F:List D->Out Rs}{μ:Int->Int->Int->Int}{c:Int}{m:Nat}
end
section
noncomputable def tS(row:List Str):D:=.tup (row.map .str)
noncomputable def kS(row:List Str):List Key:=row.map Sum.inr
theorem yD{a b:List Str}(h:kS a=kS b):a=b:=by
 unfold kS at h;exact List.map_inj_right (λx y e=>by cases e;rfl) |>.mp h
def nums(i:Nat):List (List Str)->List (List Key×D)
 |[]=>[]
 |r::L=>(kS r,.int i)::nums (i+1) L
theorem oM(row:List Str):mI (tS row)=some (kS row):=gq (f:=je) (g:=D.str) (h:=Sum.inr) (λ_=>rfl) row
theorem qw:∀(L:List (List Str)) (i:Nat) (r:List Str),nums i (L++[r])=nums i L++[(kS r,.int (i+L.length:Nat))]
 |[],i,r=>by simp[nums]
 |a::L,i,r=>by
  rw[List.cons_append,nums,qw L (i+1) r,nums,List.cons_append]
  congr 3
  simp only[List.length_cons]
  congr 2
  omega
theorem lH:∀(L:List (List Str)) (i:Nat) (r:List Str),bC (nums i L) (kS r)=if r∈L then some (.int (i+L.idxOf r:Nat))else none
 |[],i,r=>by simp[nums,bC]
 |a::L,i,r=>by
  by_cases e:a=r
  .subst e
   rw[if_pos (by simp)]
   simp[nums,bC,List.find?_cons]
  .have c:¬ kS a=kS r:=λh=>e (yD h)
   have d:bC (nums i (a::L)) (kS r)=bC (nums (i+1) L) (kS r):=by simp[nums,bC,List.find?_cons,c]
   rw[d,lH L (i+1) r]
   by_cases b:r∈L
   .have f:(a==r)=false:=beq_eq_false_iff_ne.mpr e
    have g:(a::L).idxOf r=L.idxOf r+1:=by rw[List.idxOf_cons,f];rfl
    rw[if_pos b,if_pos (by simp[b]),g]
    congr 2
    omega
   .rw[if_neg b,if_neg (by simp[b,Ne.symm e])]
theorem yE(L:List (List Str))(i:Nat)(r:List Str)(h:r∉L):((nums i L).any λb=>decide (b.1=kS r))=false:=by
 induction L generalizing i with
 |nil=>rfl
 |cons a L c=>
  have e:¬ a=r:=λz=>h (by simp[z])
  rw[nums,List.any_cons,c (i+1) (λz=>h (by simp[z]))]
  have d:¬ kS a=kS r:=λz=>e (yD z)
  simp[d]
theorem yF(L:List (List Str))(i:Nat):(nums i L).length=L.length:=by
 induction L generalizing i with
 |nil=>rfl
 |cons a L b=>simp[nums,b]
structure Sh(Ω:aD)(s r m:Nat)(L:List (List Str)):Prop where
 ob:Ω[s]?=some (.ins "Shapes" [("rows",.ref r),("numbers",.ref m)])
 ro:Ω[r]?=some (.lst (L.map tS))
 nu:Ω[m]?=some (.dT (nums 0 L))
variable{Ω au:aD}{ρ:aX}{s r m k i:Nat}{L:List (List Str)}{ws row:List Str}{w:Str}
theorem Sh.ne(S:Sh Ω s r m L):s≠r/\s≠m/\r≠m:=by
 refine⟨λe=>?_,λe=>?_,λe=>?_⟩
 .have h:=S.ob;rw[e,S.ro]at h;cases h
 .have h:=S.ob;rw[e,S.nu]at h;cases h
 .have h:=S.ro;rw[e,S.nu]at h;cases h
theorem Sh.keep(S:Sh Ω s r m L){fp:List Nat}(K:ag fp Ω au)(a:s∉fp)(b:r∉fp)(c:m∉fp):Sh au s r m L:=⟨K.get _ _ S.ob a,K.get _ _ S.ro b,K.get _ _ S.nu c⟩
theorem Sh.app(S:Sh Ω s r m L){l:aD}:Sh (Ω++l) s r m L:=⟨cg S.ob,cg S.ro,cg S.nu⟩
theorem qx(S:Sh Ω s r m L):aW ["Shapes"] "rows" (.ref s) Ω=.ok (.ref r) Ω:=cx S.ob rfl rfl
theorem qy(S:Sh Ω s r m L):aW ["Shapes"] "numbers" (.ref s) Ω=.ok (.ref m) Ω:=cx S.ob rfl rfl
noncomputable def c_(L:List (List Str))(ws:List Str):List (List Str):=if ws∈L then L else L++[ws]
def Kq:SM:=
 (aj (aJ 2 (mN (bu .tuple) (ab (aa 1) af)))
 (aj (dR (m2 (aG .NotIn) (aa 2) (m1 (aW ["Shapes"] "numbers") (aa 0)))
 (aj (dI (m1 (aW ["Shapes"] "numbers") (aa 0)) (aa 2) (mN (bu .len) (ab (m1 (aW ["Shapes"] "rows") (aa 0)) af)))
 (aj (ck (cE jI cW (m1 (aW ["Shapes"] "rows") (aa 0)) (ab (aa 2) af)))
 ai))
 ai)
 (aj (bP (m2 aF (m1 (aW ["Shapes"] "numbers") (aa 0)) (aa 2)))
 ai)))
theorem Ck{j:Nat}(h:Ω[m]?=some (.dT (nums 0 L)))(b:ws∈L):aF (.ref m) (tS ws) Ω=.ok (.int (L.idxOf ws:Nat)) Ω:=by
 have a:=yi (y:=tS ws) h (oM ws);rw[lH,if_pos b,Nat.zero_add]at a;unfold aF;rw[dD,dD,gG];simp only[xi,a,aP,cV,h];rfl
def Bz(d:aR):Prop:=∀(b:aD) (s r m k:Nat) (L:List (List Str)) (c:List Str),Sh b s r m L->b[k]?=some (.lst (c.map .str))->L.length<=500->∃a,d [.ref s,.ref k] b=.ok (.int ((c_ L c).idxOf c:Nat)) a/\Sh a s r m (c_ L c)/\ag [r,m] b a
theorem Hx:Bz (aK 3 2 Kq):=by
 intro a s r m k L ws S Q U;obtain⟨R,T,N⟩:=S.ne;have O:=vI Q;have l:=qy S;have B:=qx S;have n:=yi (y:=tS ws) S.nu (oM ws);rw[lH]at n;have o:ef a 8 (.ref m)=none:=DT S.nu;have p:ef a 8 (tS ws)=some (tS ws):=Bf t_;rw[aT (by rfl)]
 by_cases i:ws∈L
 .have C:c_ L ws=L:=by unfold c_;rw[if_pos i]
  rw[if_pos i]at n;rw[C];refine⟨a,?_,S,ag.refl⟩;have E:eH true (tS ws) (.ref m) a=.ok (.bl false) a:=by simp only[eH,n];rfl
  have F:=Ck (j:=0) S.nu i;have G:aL 3 [D.ref s,.ref k]=[some (.ref s),some (.ref k),none]:=rfl;have g:bu .tuple [.ref k] a=.ok (tS ws) a:=O;rw[G];simp[Kq,g,l,o,p,E,F,v2]
 .have C:c_ L ws=L++[ws]:=by unfold c_;rw[if_neg i]
  rw[if_neg i]at n;rw[C];have E:eH true (tS ws) (.ref m) a=.ok (.bl true) a:=by simp only[eH,n];rfl
  have q:=fH S.ro
  have t:bH (nums 0 L) (kS ws) (.int ((L.map tS).length:Nat))=nums 0 (L++[ws]):=by
   unfold bH;rw[yE L 0 ws i,qw];simp
  have u:gW (.ref m) (tS ws) (.int ((L.map tS).length:Nat)) a=some (a.set m (.dT (nums 0 (L++[ws])))):=by
   simp only[gW,S.nu,oM,t];rw[if_pos (aA (by rw[yF];omega))]
  generalize b:a.set m (.dT (nums 0 (L++[ws])))=e at u;have w:e[s]?=some (.ins "Shapes" [("rows",.ref r),("numbers",.ref m)]):=by rw[←b];exact bp S.ob T
  have h:e[r]?=some (.lst (L.map tS)):=by rw[←b];exact bp S.ro N
  have H:e[m]?=some (.dT (nums 0 (L++[ws]))):=by rw[←b];exact aI S.nu
  have I:aW ["Shapes"] "rows" (.ref s) e=.ok (.ref r) e:=cx w rfl rfl;have x:=fI (d:=tS ws) h (by simp;omega)
  generalize c:e.set r (.lst (L.map tS++[tS ws]))=f at x;have J:f[s]?=some (.ins "Shapes" [("rows",.ref r),("numbers",.ref m)]):=by rw[←c];exact bp w R
  have K:f[r]?=some (.lst (L.map tS++[tS ws])):=by rw[←c];exact aI h
  have z:f[m]?=some (.dT (nums 0 (L++[ws]))):=by rw[←c];exact bp H (Ne.symm N)
  have P:Sh f s r m (L++[ws]):=⟨J,by rw[K,List.map_append];rfl,z⟩
  have A:=qy P;have F:=Ck (j:=0) (ws:=ws) z (by simp)
  refine⟨f,?_,P,?_⟩
  .have G:aL 3 [D.ref s,.ref k]=[some (.ref s),some (.ref k),none]:=rfl
   have g:bu .tuple [.ref k] a=.ok (tS ws) a:=O;have M:=dU h;rw[G];simp[Kq,g,l,B,o,p,E,v2,dI,q,u,cE,I,M,x,A,F,-List.length_map]
  .rw[←c,←b]
   exact(ag.set (by simp)).trans (ag.set (by simp))
def Mw:SM:=
 (aj (bP (mN (bu .list) (ab (m2 aF (m1 (aW ["Shapes"] "rows") (aa 0)) (aa 1)) af)))
 ai)
def lV(c:aR):Prop:=∀(b:aD) (s r m i:Nat) (L:List (List Str)) (a:List Str),Sh b s r m L->L[i]?=some a->c [.ref s,.int i] b=.ok (.ref b.length) (b++[.lst (a.map .str)])
theorem Hy:lV (aK 2 2 Mw):=by
 intro b s r m i L a S d;have c:L2.jC (L.map tS) i=some (tS a):=L2.dw (by simp[d])
 rw[aT (by rfl)]
 have e:aL 2 [D.ref s,.int i]=[some (.ref s),some (.int i)]:=rfl;have f:=bx S.ro c;have g:=qx S;have h:bu .list [tS a] b=.ok (.ref b.length) (b++[.lst (a.map .str)]):=rfl;rw[e];simp[Mw,g,f,h]
theorem yG:ws∈c_ L ws:=by
 unfold c_;split
 .assumption
 .simp
theorem qz:(c_ L ws).length<=L.length+1:=by
 unfold c_;split<;>simp
theorem uo(h:L.Nodup):(c_ L ws).Nodup:=by
 unfold c_;split
 .exact h
 .exact List.nodup_append.mpr ⟨h,by simp,λa d b c z=>by simp at c;subst c;subst z;contradiction⟩
theorem qA{j:Nat}(h:L[j]?=some row):(c_ L ws)[j]?=some row:=by
 unfold c_;split
 .exact h
 .rw[List.getElem?_append_left (List.getElem?_eq_some_iff.mp h).1];exact h
theorem qB:(c_ L ws)[(c_ L ws).idxOf ws]?=some ws:=by
 have h:=List.idxOf_lt_length_of_mem (yG (L:=L) (ws:=ws));rw[List.getElem?_eq_getElem h,List.getElem_idxOf h]
theorem ib{b:EM}{c:AM}{f:Str}{F:aR}(S:Sh au s r m L)(e:b ρ Ω=.ok (.ref s) au)(d:f≠"rows"/\f≠"numbers"):aC "Shapes" f F b c ρ Ω=(c ρ au).bind λxs a=>xB (F (.ref s::xs) a):=by
 refine fJ e S.ob ?_;simp only[List.lookup,beq_eq_false_iff_ne.mpr d.1,beq_eq_false_iff_ne.mpr d.2]
def Mx(a b:aR):SM:=
 (aj (bP (aC "Shapes" "number_of" a (aa 0) (ab (m2 (bf .Add) (aC "Shapes" "words_of" b (aa 0) (ab (aa 1) af)) (mN bB (ab (aa 2) af))) af)))
 ai)
def sx(d:aR):Prop:=∀(c:aD) (s r m i:Nat) (L:List (List Str)) (a:List Str) (w:Str),Sh c s r m L->L[i]?=some a->a.length<=1000->L.length<=500->∃b,d [.ref s,.int i,.str w] c=.ok (.int ((c_ L (a++[w])).idxOf (a++[w]):Nat)) b/\Sh b s r m (c_ L (a++[w]))/\ag [r,m] c b
theorem Hz{n h:aR}(A:Bz n)(B:lV h):sx (aK 3 3 (Mx n h)):=by
 intro d s r m i L a w S C K E;have o:=B d s r m i L a S C;have p:Sh (d++[.lst (a.map .str)]) s r m L:=S.app;have q:(d++[.lst (a.map .str)])[d.length]?=some (.lst (a.map .str)):=aq;generalize g:d++[.lst (a.map .str)]=b at o p q;have t:Sh (b++[.lst [.str w]]) s r m L:=p.app;have u:(b++[.lst [.str w]])[d.length]?=some (.lst (a.map .str)):=cg q;have x:(b++[.lst [.str w]])[b.length]?=some (.lst [.str w]):=aq;generalize e:b++[.lst [.str w]]=c at t u x;have y:Sh (c++[.lst ((a++[w]).map .str)]) s r m L:=t.app;have z:(c++[.lst ((a++[w]).map .str)])[c.length]?=some (.lst ((a++[w]).map .str)):=aq;generalize f:c++[.lst ((a++[w]).map .str)]=j at y z;obtain⟨k,F,G,H⟩:=A _ _ _ _ _ _ _ y z E;refine⟨k,?_,G,?_⟩
 .rw[aT (by rfl)]
  have I:aL 3 [D.ref s,.int i,.str w]=[some (.ref s),some (.int i),some (.str w)]:=rfl;rw[I]
  have J:bf .Add (.ref d.length) (.ref b.length) c=.ok (.ref c.length) j:=by
   rw[iR,ud,aB u,aB x,uc,if_pos (aA (by simp;omega)),GD,←f]
   simp
  simp only[Mx,ae,cX];rw[ib S (by simp) (by decide)]
  have l:aC "Shapes" "words_of" h (aa 0) (ab (aa 1) af) [some (.ref s),some (.int i),some (.str w)] d=.ok (.ref d.length) b:=by
   rw[ib S (by simp) (by decide)]
   simp[o]
  simp[l,e,-iR,J,F,aA]
 .exact((((g▸ag.app:ag [r,m] d b)).trans (e▸ag.app)).trans (f▸ag.app)).trans H
noncomputable def ff(row:List Str)(w:Str):List Str:=row.filter λx=>decide (x≠w)
theorem mV:∀row:List Str,(row.map D.str).filter (λd=>!ei d (.str w))=(ff row w).map .str
 |[]=>rfl
 |a::row=>by
  have e:(!ei (.str a) (.str w))=decide (a≠w):=by
   show(!(a==w))=_
   by_cases h:a=w<;>simp[h]
  have b:=mV row;unfold ff at b ⊢;rw[List.map_cons,List.filter_cons,List.filter_cons,e,b];cases decide (a≠w)<;>rfl
theorem Ej{mi:IM}{j:Nat}{src:Src}(b:mi ρ Ω=.ok src au)(c:e9 src au=some (row.map .str))(e:eI [j] ρ=[some (.str w)])(f:row.length<=1000):cJ (aa 0) false (m2 (aG .NotEq) (aa 0) (aa 1)) mi 0 [j] ρ Ω=.ok (.ref au.length) (au++[.lst ((ff row w).map .str)]):=by
 have:=dg (me:=aa 0) (nc:=false) (mc:=m2 (aG .NotEq) (aa 0) (aa 1)) (cap:=[j]) (p:=λd=>!ei d (.str w)) (g:=id) b c (by
   intro d a;obtain⟨z,h,rfl⟩:=List.mem_map.mp a;rw[e];simp[kW]) (by
   intro d a _;simp) (by simp;omega)
 rw[this,List.map_id,mV]
def My(a b:aR):SM:=
 (aj (bP (aC "Shapes" "number_of" a (aa 0) (ab (cJ (aa 0) false (m2 (aG .NotEq) (aa 0) (aa 1)) (bG (aC "Shapes" "words_of" b (aa 0) (ab (aa 1) af))) 0 [2]) af)))
 ai)
def sy(d:aR):Prop:=∀(c:aD) (s r m i:Nat) (L:List (List Str)) (a:List Str) (w:Str),Sh c s r m L->L[i]?=some a->a.length<=1000->L.length<=500->∃b,d [.ref s,.int i,.str w] c=.ok (.int ((c_ L (ff a w)).idxOf (ff a w):Nat)) b/\Sh b s r m (c_ L (ff a w))/\ag [r,m] c b
theorem HD{n f:aR}(u:Bz n)(x:lV f):sy (aK 3 3 (My n f)):=by
 intro b s r m i L row w S y z A;have o:=x b s r m i L row S y;have p:Sh (b++[.lst (row.map .str)]) s r m L:=S.app;have g:(b++[.lst (row.map .str)])[b.length]?=some (.lst (row.map .str)):=aq;generalize d:b++[.lst (row.map .str)]=a at o p g;have q:Sh (a++[.lst ((ff row w).map .str)]) s r m L:=p.app;have t:(a++[.lst ((ff row w).map .str)])[a.length]?=some (.lst ((ff row w).map .str)):=aq;generalize c:a++[.lst ((ff row w).map .str)]=B at q t;obtain⟨h,C,E,F⟩:=u _ _ _ _ _ _ _ q t A;refine⟨h,?_,E,?_⟩
 .rw[aT (by rfl)]
  have G:aL 3 [D.ref s,.int i,.str w]=[some (.ref s),some (.int i),some (.str w)]:=rfl;rw[G];simp only[My,ae,cX];rw[ib S (by simp) (by decide)]
  have k:aC "Shapes" "words_of" f (aa 0) (ab (aa 1) af) [some (.ref s),some (.int i),some (.str w)] b=.ok (.ref b.length) a:=by
   rw[ib S (by simp) (by decide)]
   simp[o]
  have l:bG (aC "Shapes" "words_of" f (aa 0) (ab (aa 1) af)) [some (.ref s),some (.int i),some (.str w)] b=.ok (.seq (.ref b.length)) a:=by
   rw[bT,k,av];exact bF (aP.trans (aB g))
  have e:=Ej (row:=row) (w:=w) (j:=2) l (by rw[cP,aP,aB g]) rfl z
  rw[c]at e;simp[e,C]
 .exact((((d▸ag.app:ag [r,m] b a)).trans (c▸ag.app))).trans F
noncomputable def iW(row:List Str)(w:Str):D:=if w∈row then .int (row.idxOf w:Nat)else .non
def Kr(a:aR):SM:=
 (aj (aJ 3 (aC "Shapes" "words_of" a (aa 0) (ab (aa 1) af)))
 (aj (bP (yX (m2 (aG .In) (aa 2) (aa 3)) (f_ (cE jI eD (aa 3) (ab (aa 2) af)) (cE nU gX (aa 3) (ab (aa 2) af))) (ah .non)))
 ai))
def oN(d:aR):Prop:=∀(c:aD) (s r m i:Nat) (L:List (List Str)) (a:List Str) (w:Str),Sh c s r m L->L[i]?=some a->∃b,d [.ref s,.int i,.str w] c=.ok (iW a w) b/\ag [] c b
theorem HE{g:aR}(l:lV g):oN (aK 4 3 (Kr g)):=by
 intro b s r m i L a w S n;have j:=l b s r m i L a S n;have f:(b++[.lst (a.map .str)])[b.length]?=some (.lst (a.map .str)):=aq;generalize c:b++[.lst (a.map .str)]=d at j f;refine⟨d,?_,c▸ag.app⟩;rw[aT (by rfl)]
 have o:aL 4 [D.ref s,.int i,.str w]=[some (.ref s),some (.int i),some (.str w),none]:=rfl;rw[o]
 have e:aC "Shapes" "words_of" g (aa 0) (ab (aa 1) af) [some (.ref s),some (.int i),some (.str w),none] b=.ok (.ref b.length) d:=by
  rw[ib S (by simp) (by decide)]
  simp[j]
 have k:=lB (w:=w) f;unfold iW
 by_cases h:w∈a
 .have p:=mS f h
  have q:=dU f;simp[Kr,e,-di,k,h,cE,q,p]
 .simp[Kr,e,-di,k,h]
end
section
structure Tn(Ω:aD)(T t s r m d:Nat)(kvs:List (Key×D))(L:List (List Str)):Prop where
 ob:Ω[T]?=some (.ins "Things" [("town",.ref t),("shapes",.ref s),("made",.ref d)])
 dk:Ω[d]?=some (.dK kvs)
 sh:Sh Ω s r m L
 nd:L.Nodup
 lt:T<s/\s<r/\r<m/\m<d
abbrev bg(v:List (Str×Int)):List Str:=v.map (·.1)
abbrev iX(v:List (Str×Int)):List D:=v.map λp=>.int p.2
structure Tg(Ω:aD)(d c l i:Nat)(k:Str)(v:List (Str×Int))(L:List (List Str)):Prop where
 ob:Ω[c]?=some (.ins "Thing" [("kind",.str k),("shape",.int i),("slots",.ref l)])
 sl:Ω[l]?=some (.lst (iX v))
 wd:L[i]?=some (bg v)
 nd:(bg v).Nodup
 le:v.length<=12
 lt:d<c/\c<l
variable{Ω au aQ:aD}{ρ:aX}{T t s r m d k c l i h:Nat}{L:List (List Str)}{kvs:List (Key×D)}{v:List (Str×Int)}{n w kd:Str}{fp:List Nat}
theorem Tn.keep(W:Tn Ω T t s r m d kvs L)(K:ag fp Ω au)(h:∀j∈fp,d<j):Tn au T t s r m d kvs L:=by
 have z:=W.lt;have q:∀j,j<=d->j∉fp:=λj b a=>by have:=h j a;omega
 exact⟨K.get _ _ W.ob (q _ (by omega)),K.get _ _ W.dk (q _ (by omega)),W.sh.keep K (q _ (by omega)) (q _ (by omega)) (q _ (by omega)),W.nd,W.lt⟩
theorem Tn.bD(W:Tn Ω T t s r m d kvs L)(K:ag [] Ω au):Tn au T t s r m d kvs L:=W.keep K (by simp)
theorem Tg.keep(W:Tg Ω d c l i kd v L)(K:ag fp Ω au)(a:c∉fp)(b:l∉fp):Tg au d c l i kd v L:=⟨K.get _ _ W.ob a,K.get _ _ W.sl b,W.wd,W.nd,W.le,W.lt⟩
theorem Tg.bD(W:Tg Ω d c l i kd v L)(K:ag [] Ω au):Tg au d c l i kd v L:=W.keep K (by simp) (by simp)
theorem cL{C f:Str}{b c:EM}{y:D}{k:Nat}{a:List (Str×D)}{aQ:aD}(d:c ρ Ω=.ok y aQ)(e:b ρ aQ=.ok (.ref k) aQ)(g:aQ[k]?=some (.ins C a))(h:a.length<1000):aZ [C] f b c ρ Ω=.nx ρ (aQ.set k (.ins C (iJ f y a))):=by
 unfold aZ;rw[d,cu,e,cu,iT g];have:(([C]:List Str).contains C&&decide (a.length<1000))=true:=by rw[decide_eq_true h];simp
 simp only[this,if_true]
theorem yH(W:Tn Ω T t s r m d kvs L):aW ["Things"] "town" (.ref T) Ω=.ok (.ref t) Ω:=cx W.ob rfl rfl
theorem eG(W:Tn Ω T t s r m d kvs L):aW ["Things"] "shapes" (.ref T) Ω=.ok (.ref s) Ω:=cx W.ob rfl rfl
theorem lI(W:Tn Ω T t s r m d kvs L):aW ["Things"] "made" (.ref T) Ω=.ok (.ref d) Ω:=cx W.ob rfl rfl
theorem yI(W:Tg Ω d c l i kd v L):aW ["Thing"] "kind" (.ref c) Ω=.ok (.str kd) Ω:=cx W.ob rfl rfl
theorem et(W:Tg Ω d c l i kd v L):aW ["Thing"] "shape" (.ref c) Ω=.ok (.int i) Ω:=cx W.ob rfl rfl
theorem gM(W:Tg Ω d c l i kd v L):aW ["Thing"] "slots" (.ref c) Ω=.ok (.ref l) Ω:=cx W.ob rfl rfl
theorem eh{f:Str}{F:aR}{i:Nat}{c:AM}(W:Tn Ω T t s r m d kvs L)(e:ρ[i]?=some (oR T))(a:([("town",D.ref 0),("shapes",D.ref 0),("made",D.ref 0)]:List (Str×D)).lookup f=none):aC "Things" f F (aa i) c ρ Ω=(c ρ Ω).bind λxs b=>xB (F (.ref T::xs) b):=by
 refine fJ (by rw[fF,e,fE]) W.ob ?_
 simp only[List.lookup_cons]at a ⊢;split at a
 .cases a
 .split at a
  .cases a
  .split at a
   .cases a
   .rfl
def Mz:SM:=
 (aj (dR (m2 (aG .NotIn) (aa 1) (m1 (aW ["Things"] "made") (aa 0)))
 (aj bz
 ai)
 ai)
 (aj (bP (m2 aF (m1 (aW ["Things"] "made") (aa 0)) (aa 1)))
 ai))
def fg(e:aR):Prop:=∀(b:aD) (T t s r m d:Nat) (a:List (Key×D)) (L:List (List Str)) (n:Str) (c:Nat),Tn b T t s r m d a L->bC a (.inr n)=some (.ref c)->e [.ref T,.str n] b=.ok (.ref c) b
theorem HF:fg (aK 2 2 Mz):=by
 intro b T t s r m d a L n c W e;rw[aT (by rfl)]
 have h:aL 2 [D.ref T,.str n]=[oR T,oS n]:=rfl;have f:=lI W;have g:=Hd (n:=n) (.inl W.dk:cj b d a);have i:=eF (.inl W.dk:cj b d a) e;rw[e]at g;rw[h];simp[Mz,f,g,i,-ia]
theorem fK{a:aR}(b:fg a){i j:Nat}(W:Tn Ω T t s r m d kvs L)(e:bC kvs (.inr n)=some (.ref c))(f:ρ[i]?=some (oR T))(g:ρ[j]?=some (oS n)):aC "Things" "thing" a (aa i) (ab (aa j) af) ρ Ω=.ok (.ref c) Ω:=by
 rw[eh W f (by decide),aV,fF,g,fE,av,b_,av,av,b _ _ _ _ _ _ _ _ _ _ _ W e]
 rfl
def EZ(a:aR):SM:=
 (aj (bP (m1 (aW ["Thing"] "kind") (aC "Things" "thing" a (aa 0) (ab (aa 1) af))))
 ai)
def Cm(a:aR):SM:=
 (aj (bP (m1 (aW ["Thing"] "shape") (aC "Things" "thing" a (aa 0) (ab (aa 1) af))))
 ai)
def qC(a:aR):SM:=
 (aj (bP (m2 aF (m1 (aW ["Thing"] "slots") (aC "Things" "thing" a (aa 0) (ab (aa 1) af))) (aa 2)))
 ai)
theorem HG{a:aR}(b:fg a)(W:Tn Ω T t s r m d kvs L)(e:bC kvs (.inr n)=some (.ref c))(G:Tg Ω d c l i kd v L):aK 2 2 (EZ a) [.ref T,.str n] Ω=.ok (.str kd) Ω:=by
 rw[aT (by rfl)]
 have f:aL 2 [D.ref T,.str n]=[oR T,oS n]:=rfl;have g:=fK b W e (ρ:=[oR T,oS n]) (i:=0) (j:=1) rfl rfl;rw[f];simp[EZ,g,yI G]
theorem Cn{a:aR}(b:fg a)(W:Tn Ω T t s r m d kvs L)(e:bC kvs (.inr n)=some (.ref c))(G:Tg Ω d c l i kd v L):aK 2 2 (Cm a) [.ref T,.str n] Ω=.ok (.int i) Ω:=by
 rw[aT (by rfl)]
 have f:aL 2 [D.ref T,.str n]=[oR T,oS n]:=rfl;have g:=fK b W e (ρ:=[oR T,oS n]) (i:=0) (j:=1) rfl rfl;rw[f];simp[Cm,g,et G]
theorem Co{a:aR}(b:fg a)(W:Tn Ω T t s r m d kvs L)(e:bC kvs (.inr n)=some (.ref c))(G:Tg Ω d c l i kd v L){j:Nat}{p:Str×Int}(f:v[j]?=some p):aK 3 3 (qC a) [.ref T,.str n,.int j] Ω=.ok (.int p.2) Ω:=by
 rw[aT (by rfl)]
 have g:aL 3 [D.ref T,.str n,.int j]=[oR T,oS n,oI j]:=rfl;have h:=fK b W e (ρ:=[oR T,oS n,oI j]) (i:=0) (j:=1) rfl rfl;have k:=bx G.sl (L2.dw (xs:=iX v) (j:=j) (v:=.int p.2) (by simp[f]))
 rw[g];simp[qC,h,gM G,k]
def yY(a b:aR):SM:=
 (aj (aJ 2 (aC "Things" "thing" a (aa 0) (ab (aa 1) af)))
 (aj (bP (mN DE (ab (aC "Shapes" "words_of" b (m1 (aW ["Things"] "shapes") (aa 0)) (ab (m1 (aW ["Thing"] "shape") (aa 2)) af)) (ab (m1 (aW ["Thing"] "slots") (aa 2)) af))))
 ai))
noncomputable def gS(v:List (Str×Int)):List (Key×D):=v.map λp=>(.inr p.1,.int p.2)
theorem uq:∀v:List (Str×Int),((bg v).map (Sum.inr:Str->Key)).zip (iX v)=gS v
 |[]=>rfl
 |p::v=>by
  have:=uq v;simp only[bg,iX,gS,List.map_cons,List.zip_cons_cons]at this ⊢;rw[this]
theorem HH{w k:aR}(A:fg w)(B:lV k)(W:Tn Ω T t s r m d kvs L)(C:bC kvs (.inr n)=some (.ref c))(G:Tg Ω d c l i kd v L):∃q au,aK 3 2 (yY w k) [.ref T,.str n] Ω=.ok (.ref q) au/\au[q]?=some (.dK (gS v))/\ag [] Ω au/\Ω.length<=q:=by
 have E:=B Ω s r m i L (bg v) W.sh G.wd;have F:(Ω++[.lst ((bg v).map .str)])[Ω.length]?=some (.lst ((bg v).map .str)):=aq;have o:ag [] Ω (Ω++[.lst ((bg v).map .str)]):=ag.app;have x:=G.bD o;have H:=fK A W C (ρ:=[oR T,oS n,none]) (i:=0) (j:=1) rfl rfl;have I:=eG W;have J:=et G;have K:=gM x
 have M:aC "Shapes" "words_of" k (m1 (aW ["Things"] "shapes") (aa 0)) (ab (m1 (aW ["Thing"] "shape") (aa 2)) af) [oR T,oS n,oR c] Ω=.ok (.ref Ω.length) (Ω++[.lst ((bg v).map .str)]):=by
  rw[ib W.sh (by simp[I]) (by decide)]
  simp[J,E]
 generalize Ω++[.lst ((bg v).map .str)]=e at *;refine⟨e.length,e++[.dK (gS v)],?_,aq,o.trans ag.app,o.len⟩;rw[aT (by rfl)]
 have N:aL 3 [D.ref T,.str n]=[oR T,oS n,none]:=rfl;rw[N];have O:bo je ((bg v).map .str)=some ((bg v).map Sum.inr):=gq (f:=je) (g:=D.str) (h:=Sum.inr) (λ_=>rfl) _
 have y:=gK (gS v) [] (by
  have:(([]++gS v).map λp:Key×D=>p.1)=(bg v).map Sum.inr:=by simp[gS]
  rw[this];exact List.Pairwise.map _ (λa b u z=>u (by cases z;rfl)) G.nd)
 rw[List.nil_append]at y
 have P:DE [.ref Ω.length,.ref l] e=.ok (.ref e.length) (e++[.dK (gS v)]):=by
  simp only[DE,aB F,aB x.sl,O,uq,y];rfl
 simp[yY,H,M,K,P]
theorem yJ{ds:List D}{j:Nat}{x:D}(h:Ω[k]?=some (.lst ds))(a:j<ds.length):gW (.ref k) (.int j) x Ω=some (Ω.set k (.lst (ds.set j x))):=by
 have:L2.qF ds.length (j:Int)=some j:=by
  unfold L2.qF;simp;omega
 simp only[gW,h,this]
def vL(a b c d:aR):SM:=
 (aj (aJ 4 (aC "Things" "thing" b (aa 0) (ab (aa 1) af)))
 (aj (dR (fv (mN (bj a) (ab (aa 2) af)))
 (aj bz
 ai)
 ai)
 (aj (aJ 5 (aC "Shapes" "slot_of" c (m1 (aW ["Things"] "shapes") (aa 0)) (ab (m1 (aW ["Thing"] "shape") (aa 4)) (ab (aa 2) af))))
 (aj (dR (m2 (aG .IsNot) (aa 5) (ah .non))
 (aj (dI (m1 (aW ["Thing"] "slots") (aa 4)) (aa 5) (aa 3))
 (aj mM
 ai))
 ai)
 (aj (dR (m2 (aG .GtE) (mN (bu .len) (ab (m1 (aW ["Thing"] "slots") (aa 4)) af)) (ah (.int 12)))
 (aj bz
 ai)
 ai)
 (aj (aZ ["Thing"] "shape" (aa 4) (aC "Shapes" "grown" d (m1 (aW ["Things"] "shapes") (aa 0)) (ab (m1 (aW ["Thing"] "shape") (aa 4)) (ab (aa 2) af))))
 (aj (ck (cE jI cW (m1 (aW ["Thing"] "slots") (aa 4)) (ab (aa 3) af)))
 ai)))))))
noncomputable def ee(v:List (Str×Int))(w:Str)(x:Int):List (Str×Int):=if w∈bg v then v.set ((bg v).idxOf w) (w,x)else v++[(w,x)]
theorem ur{x:Int}(h:w∈bg v):bg (v.set ((bg v).idxOf w) (w,x))=bg v:=by
 have a:=List.idxOf_lt_length_of_mem h;rw[bg,List.map_set];have:(w,x).1=(bg v)[(bg v).idxOf w]:=(List.getElem_idxOf a).symm;rw[this];exact List.set_getElem_self a
theorem uu{b:aR}{f:Str}{c:EM}{d:AM}{x:List D}{y:D}{a:aD}(W:Sh Ω s r m L)(e:c ρ Ω=.ok (.ref s) Ω)(g:f≠"rows"/\f≠"numbers")(i:d ρ Ω=.ok x Ω)(h:b (.ref s::x) Ω=.ok y a):aC "Shapes" f b c d ρ Ω=.ok y a:=by
 rw[ib W e g,i,av,h];rfl
theorem HI{Q R S U:aR}(hI:oH Q)(hT:fg R)(hS:oN S)(hG:sx U)(W:Tn Ω T t s r m d kvs L)(hv:bC kvs (.inr n)=some (.ref c))(G:Tg Ω d c l i kd v L)(hw:oG w)(hl:L.length<=500){x:Int}(hx:w∈bg v\/v.length<12) :
  ∃i' O au,aK 6 4 (vL Q R S U) [.ref T,.str n,.str w,.int x] Ω=.ok .non au/\Tn au T t s r m d kvs O/\Tg au d c l i' kd (ee v w x) O/\ag [r,m,c,l] Ω au/\O.length<=L.length+1/\(∀(j:Nat) (row:List Str),L[j]?=some row->O[j]?=some row):=by
 rw[aT (by rfl)]
 have e0:aL 6 [D.ref T,.str n,.str w,.int x]=[oR T,oS n,oS w,oI x,none,none]:=rfl;rw[e0];have h1:=fK hT W hv (ρ:=[oR T,oS n,oS w,oI x,none,none]) (i:=0) (j:=1) rfl rfl
 have r1:(aJ 4 (aC "Things" "thing" R (aa 0) (ab (aa 1) af))) [oR T,oS n,oS w,oI x,none,none] Ω=.nx [oR T,oS n,oS w,oI x,oR c,none] Ω:=by
  rw[br,h1];rfl
 obtain⟨y,e1,V⟩:=hI Ω w hw;have r2:(dR (fv (mN (bj Q) (ab (aa 2) af))) (aj bz ai) ai) [oR T,oS n,oS w,oI x,oR c,none] Ω=.nx [oR T,oS n,oS w,oI x,oR c,none] y:=by simp[e1]
 have P:=W.bD V;have X:=G.bD V;obtain⟨f,e2,Y⟩:=hS y s r m i L (bg v) w P.sh X.wd;have H:=P.bD Y;have p:=X.bD Y
 have r3:(aJ 5 (aC "Shapes" "slot_of" S (m1 (aW ["Things"] "shapes") (aa 0)) (ab (m1 (aW ["Thing"] "shape") (aa 4)) (ab (aa 2) af)))) [oR T,oS n,oS w,oI x,oR c,none] y=.nx [oR T,oS n,oS w,oI x,oR c,some (iW (bg v) w)] f:=by
  rw[br,uu (x:=[.int i,.str w]) P.sh (by simp[eG P]) (by decide) (by simp[et X]) e2]
  rfl
 have I:=V.trans Y;have f0:=W.lt;have g0:=G.lt;unfold vL;rw[ae,r1,ax,ae,r2,ax,ae,r3,ax,ae]
 by_cases u:w∈bg v
 .have A:iW (bg v) w=.int ((bg v).idxOf w:Nat):=by unfold iW;rw[if_pos u]
  have hi:=List.idxOf_lt_length_of_mem u;have hd:=yJ (x:=.int x) p.sl (j:=(bg v).idxOf w) (by simpa[iX,bg]using hi)
  have g:ee v w x=v.set ((bg v).idxOf w) (w,x):=by unfold ee;rw[if_pos u]
  have ev:(iX v).set ((bg v).idxOf w) (.int x)=iX (ee v w x):=by rw[g];simp only[iX,List.map_set]
  rw[ev]at hd;have g3:=aI (e:=.lst (iX (ee v w x))) p.sl;have B:ag [l] f (f.set l (.lst (iX (ee v w x)))):=ag.set (by simp)
  generalize f.set l (.lst (iX (ee v w x)))=k at *;refine⟨i,L,k,?_,H.keep B (by simp;omega),⟨B.get _ _ p.ob (by simp;omega),g3,?_,?_,?_,G.lt⟩,(I.sub (by simp)).trans (B.sub (by simp)),by omega,λj row h=>h⟩
  .rw[A]
   have Z:=gM p;simp[Z,hd,dI]
  .rw[g,ur u];exact G.wd
  .rw[g,ur u];exact G.nd
  .rw[g,List.length_set];exact G.le
 .have A:iW (bg v) w=.non:=by unfold iW;rw[if_neg u]
  have h0:v.length<12:=hx.resolve_left u;have g:ee v w x=v++[(w,x)]:=by unfold ee;rw[if_neg u]
  rw[A];have r4:(dR (m2 (aG .IsNot) (aa 5) (ah .non)) (aj (dI (m1 (aW ["Thing"] "slots") (aa 4)) (aa 5) (aa 3)) (aj mM ai)) ai) [oR T,oS n,oS w,oI x,oR c,some .non] f=.nx [oR T,oS n,oS w,oI x,oR c,some .non] f:=rfl
  have r5:(dR (m2 (aG .GtE) (mN (bu .len) (ab (m1 (aW ["Thing"] "slots") (aa 4)) af)) (ah (.int 12))) (aj bz ai) ai) [oR T,oS n,oS w,oI x,oR c,some .non] f=.nx [oR T,oS n,oS w,oI x,oR c,some .non] f:=by
   have a0:=fH p.sl;have:decide (((iX v).length:Int)≥12)=false:=by simp[iX];omega
   simp[gM p,a0,de];omega
  obtain⟨k,e3,S3,B⟩:=hG f s r m i L (bg v) w H.sh p.wd (by have:=G.le;simp;omega) hl
  have i0:c_ L (bg v++[w])=c_ L (bg (ee v w x)):=by rw[g];simp[bg]
  have J:bg v++[w]=bg (ee v w x):=by rw[g];simp[bg]
  rw[J]at e3 S3;have K:=B.get _ _ p.ob (by simp;omega)
  have b0:=B.get _ _ p.sl (by simp;omega)
  have r6:(aZ ["Thing"] "shape" (aa 4) (aC "Shapes" "grown" U (m1 (aW ["Things"] "shapes") (aa 0)) (ab (m1 (aW ["Thing"] "shape") (aa 4)) (ab (aa 2) af)))) [oR T,oS n,oS w,oI x,oR c,some .non] f=.nx [oR T,oS n,oS w,oI x,oR c,some .non] (k.set c (.ins "Thing" [("kind",.str kd),("shape",.int ((c_ L (bg (ee v w x))).idxOf (bg (ee v w x)):Nat)),("slots",.ref l)])):=
   cL (uu (x:=[.int i,.str w]) H.sh (by simp[eG H]) (by decide) (by simp[et p]) e3) rfl K (by simp)
  have K4:ag [c] k (k.set c (.ins "Thing" [("kind",.str kd),("shape",.int ((c_ L (bg (ee v w x))).idxOf (bg (ee v w x)):Nat)),("slots",.ref l)])):=ag.set (by simp)
  have M:=aI (e:=.ins "Thing" [("kind",.str kd),("shape",.int ((c_ L (bg (ee v w x))).idxOf (bg (ee v w x)):Nat)),("slots",.ref l)]) K;generalize k.set c (.ins "Thing" [("kind",.str kd),("shape",.int ((c_ L (bg (ee v w x))).idxOf (bg (ee v w x)):Nat)),("slots",.ref l)])=o at *;have C:=K4.get _ _ b0 (by simp;omega)
  have c0:=fI (d:=.int x) C (by simp[iX];omega)
  have Z:aW ["Thing"] "slots" (.ref c) o=.ok (.ref l) o:=cx M rfl rfl;have hL:=dU C;have g5:=aI (e:=.lst (iX v++[.int x])) C;have K5:ag [l] o (o.set l (.lst (iX v++[.int x]))):=ag.set (by simp)
  have r7:(ck (cE jI cW (m1 (aW ["Thing"] "slots") (aa 4)) (ab (aa 3) af))) [oR T,oS n,oS w,oI x,oR c,some .non] o=.nx [oR T,oS n,oS w,oI x,oR c,some .non] (o.set l (.lst (iX v++[.int x]))):=by
   simp[cE,Z,hL,c0]
  generalize o.set l (.lst (iX v++[.int x]))=E at *;have N:ag [c,l] k E:=(K4.sub (by simp)).trans (K5.sub (by simp))
  have F:ag [r,m,c,l] f E:=(B.sub (by simp)).trans (N.sub (by simp))
  have q:∀j,j<=d->j∉[c,l]:=λj hj=>by simp;omega
  have q':∀j,j<=d->j≠r->j≠m->j∉[r,m,c,l]:=λj hj h1 h2=>by simp;omega
  refine⟨_,c_ L (bg (ee v w x)),E,?_,⟨F.get _ _ H.ob (q' _ (by omega) (by omega) (by omega)),F.get _ _ H.dk (q' _ (by omega) (by omega) (by omega)),S3.keep N (q _ (by omega)) (q _ (by omega)) (q _ (by omega)),uo W.nd,W.lt⟩,⟨K5.get _ _ M (by simp;omega),?_,qB,?_,by rw[g];simp;omega,G.lt⟩,(I.sub (by simp)).trans F,qz,λj row h=>qA h⟩
  .rw[r4,ax,ae,r5,ax,ae,r6,ax,ae,r7,ax]
   rfl
  .rw[g5,g];simp[iX]
  .rw[←J]
   exact List.nodup_append.mpr ⟨G.nd,by simp,λa ha b hb z=>u (by simp at hb;subst hb;subst z;exact ha)⟩
def yK(a b c:aR):SM:=
 (aj (aJ 3 (aC "Things" "thing" a (aa 0) (ab (aa 1) af)))
 (aj (aJ 4 (aC "Shapes" "slot_of" b (m1 (aW ["Things"] "shapes") (aa 0)) (ab (m1 (aW ["Thing"] "shape") (aa 3)) (ab (aa 2) af))))
 (aj (dR (m2 (aG .Is) (aa 4) (ah .non))
 (aj bz
 ai)
 ai)
 (aj (aZ ["Thing"] "shape" (aa 3) (aC "Shapes" "without" c (m1 (aW ["Things"] "shapes") (aa 0)) (ab (m1 (aW ["Thing"] "shape") (aa 3)) (ab (aa 2) af))))
 (aj (ck (cE jI eS (m1 (aW ["Thing"] "slots") (aa 3)) (ab (aa 4) af)))
 ai)))))
noncomputable def fh(v:List (Str×Int))(w:Str):List (Str×Int):=v.eraseIdx ((bg v).idxOf w)
theorem gN{b c:Type}{f:b->c}:∀(xs:List b) (j:Nat),(xs.eraseIdx j).map f=(xs.map f).eraseIdx j
 |[],_=>rfl
 |a::xs,0=>rfl
 |a::xs,j+1=>by simp only[List.eraseIdx_cons_succ,List.map_cons,gN xs j]
theorem uv(a:(bg v).Nodup):ff (bg v) w=bg (fh v w):=by
 have b:ff (bg v) w=(bg v).erase w:=by
  rw[a.erase_eq_filter];unfold ff
  congr 1
  funext x
  by_cases h:x=w<;>simp[h]
 rw[b,fh,bg,bg,gN];exact List.erase_eq_eraseIdx_of_idxOf rfl
theorem BA{a j:Nat}(h:j<a):L2.qF a (j:Int)=some j:=by
 unfold L2.qF;simp;omega
theorem uw{ds:List D}{j:Nat}{x:D}(h:Ω[k]?=some (.lst ds))(b:ds[j]?=some x)(d:ds.length<=1000):eS (.ref k) [.int j] Ω=.ok x (Ω.set k (.lst (ds.eraseIdx j))):=by
 have c:=(List.getElem?_eq_some_iff.mp b).1;have a:i_ (j:Int)=true:=eO (by omega) (by omega)
 simp only[eS,iS h,a,if_true,BA c,b]
theorem HJ{E F H:aR}(Y:fg E)(Z:oN F)(hI:sy H)(W:Tn Ω T t s r m d kvs L)(hv:bC kvs (.inr n)=some (.ref c))(G:Tg Ω d c l i kd v L)(hl:L.length<=500)(O:w∈bg v) :
  ∃i' B au,aK 5 3 (yK E F H) [.ref T,.str n,.str w] Ω=.ok .non au/\Tn au T t s r m d kvs B/\Tg au d c l i' kd (fh v w) B/\ag [r,m,c,l] Ω au/\B.length<=L.length+1/\(∀(j:Nat) (row:List Str),L[j]?=some row->B[j]?=some row):=by
 rw[aT (by rfl)]
 have e0:aL 5 [D.ref T,.str n,.str w]=[oR T,oS n,oS w,none,none]:=rfl;rw[e0];have a0:=W.lt;have b0:=G.lt;have hi:=List.idxOf_lt_length_of_mem O;have P:=fK Y W hv (ρ:=[oR T,oS n,oS w,none,none]) (i:=0) (j:=1) rfl rfl
 have r1:(aJ 3 (aC "Things" "thing" E (aa 0) (ab (aa 1) af))) [oR T,oS n,oS w,none,none] Ω=.nx [oR T,oS n,oS w,oR c,none] Ω:=by
  rw[br,P];rfl
 obtain⟨b,Q,I⟩:=Z Ω s r m i L (bg v) w W.sh G.wd;have J:iW (bg v) w=.int ((bg v).idxOf w:Nat):=by unfold iW;rw[if_pos O]
 rw[J]at Q;have p:=W.bD I;have C:=G.bD I
 have r3:(aJ 4 (aC "Shapes" "slot_of" F (m1 (aW ["Things"] "shapes") (aa 0)) (ab (m1 (aW ["Thing"] "shape") (aa 3)) (ab (aa 2) af)))) [oR T,oS n,oS w,oR c,none] Ω=.nx [oR T,oS n,oS w,oR c,oI ((bg v).idxOf w:Nat)] b:=by
  rw[br,uu (x:=[.int i,.str w]) W.sh (by simp[eG W]) (by decide) (by simp[et G]) Q]
  rfl
 have r4:(dR (m2 (aG .Is) (aa 4) (ah .non)) (aj bz ai) ai) [oR T,oS n,oS w,oR c,oI ((bg v).idxOf w:Nat)] b=.nx [oR T,oS n,oS w,oR c,oI ((bg v).idxOf w:Nat)] b:=by rfl
 obtain⟨f,R,S,K⟩:=hI b s r m i L (bg v) w p.sh C.wd (by have:=G.le;simp;omega) hl
 rw[uv G.nd]at R S;have u:=K.get _ _ C.ob (by simp;omega)
 have M:=K.get _ _ C.sl (by simp;omega)
 have r6:(aZ ["Thing"] "shape" (aa 3) (aC "Shapes" "without" H (m1 (aW ["Things"] "shapes") (aa 0)) (ab (m1 (aW ["Thing"] "shape") (aa 3)) (ab (aa 2) af)))) [oR T,oS n,oS w,oR c,oI ((bg v).idxOf w:Nat)] b=.nx [oR T,oS n,oS w,oR c,oI ((bg v).idxOf w:Nat)] (f.set c (.ins "Thing" [("kind",.str kd),("shape",.int ((c_ L (bg (fh v w))).idxOf (bg (fh v w)):Nat)),("slots",.ref l)])):=
  cL (uu (x:=[.int i,.str w]) p.sh (by simp[eG p]) (by decide) (by simp[et C]) R) rfl u (by simp)
 have U:ag [c] f (f.set c (.ins "Thing" [("kind",.str kd),("shape",.int ((c_ L (bg (fh v w))).idxOf (bg (fh v w)):Nat)),("slots",.ref l)])):=ag.set (by simp)
 have y:=aI (e:=.ins "Thing" [("kind",.str kd),("shape",.int ((c_ L (bg (fh v w))).idxOf (bg (fh v w)):Nat)),("slots",.ref l)]) u;generalize f.set c (.ins "Thing" [("kind",.str kd),("shape",.int ((c_ L (bg (fh v w))).idxOf (bg (fh v w)):Nat)),("slots",.ref l)])=a at *;have g:=U.get _ _ M (by simp;omega)
 have N:(bg v).idxOf w<v.length:=by simpa[bg]using hi
 have z:=uw (j:=(bg v).idxOf w) (x:=.int (v[(bg v).idxOf w]).2) g (by simp[iX,List.getElem?_eq_getElem N]) (by have:=G.le;simp[iX];omega)
 have ev:(iX v).eraseIdx ((bg v).idxOf w)=iX (fh v w):=by rw[fh,iX,iX,gN]
 rw[ev]at z;have f4:aW ["Thing"] "slots" (.ref c) a=.ok (.ref l) a:=cx y rfl rfl;have hL:=dU g;have g5:=aI (e:=.lst (iX (fh v w))) g;have V:ag [l] a (a.set l (.lst (iX (fh v w)))):=ag.set (by simp)
 have r7:(ck (cE jI eS (m1 (aW ["Thing"] "slots") (aa 3)) (ab (aa 4) af))) [oR T,oS n,oS w,oR c,oI ((bg v).idxOf w:Nat)] a=.nx [oR T,oS n,oS w,oR c,oI ((bg v).idxOf w:Nat)] (a.set l (.lst (iX (fh v w)))):=by
  simp[cE,f4,hL,z]
 generalize a.set l (.lst (iX (fh v w)))=k at *;have A:ag [c,l] f k:=(U.sub (by simp)).trans (V.sub (by simp))
 have o:ag [r,m,c,l] b k:=(K.sub (by simp)).trans (A.sub (by simp))
 have q:∀j,j<=d->j∉[c,l]:=λj hj=>by simp;omega
 have X:∀j,j<=d->j≠r->j≠m->j∉[r,m,c,l]:=λj hj P h2=>by simp;omega
 refine⟨_,c_ L (bg (fh v w)),k,?_,⟨o.get _ _ p.ob (X _ (by omega) (by omega) (by omega)),o.get _ _ p.dk (X _ (by omega) (by omega) (by omega)),S.keep A (q _ (by omega)) (q _ (by omega)) (q _ (by omega)),uo W.nd,W.lt⟩,⟨V.get _ _ y (by simp;omega),g5,qB,?_,?_,G.lt⟩,(I.sub (by simp)).trans o,qz,λj row h=>qA h⟩
 .unfold yK
  rw[ae,r1,ax,ae,r3,ax,ae,r4,ax,ae,r6,ax,ae,r7,ax];rfl
 .rw[←uv G.nd]
  exact G.nd.filter _
 .have:=G.le
  have:=List.length_eraseIdx_le v ((bg v).idxOf w);unfold fh;omega
def Cp:SM:=
 (aj (aZ ["Thing"] "kind" (aa 0) (aa 1))
 (aj (aZ ["Thing"] "shape" (aa 0) (ah (.int 0)))
 (aj (aZ ["Thing"] "slots" (aa 0) (mN bB af))
 ai)))
theorem c9{a b:Cell}{l:aD}:(Ω++a::l).set Ω.length b=Ω++b::l:=by
 rw[List.set_append_right _ _ (Nat.le_refl _)];simp
theorem Ek:dB "Thing" (aK 2 2 Cp) [.str kd] Ω=.ok (.ref Ω.length) (Ω++[.ins "Thing" [("kind",.str kd),("shape",.int 0),("slots",.ref (Ω.length+1))],.lst []]):=by
 unfold dB;rw[aT (by rfl)]
 have a:aL 2 [D.ref Ω.length,.str kd]=[oR Ω.length,oS kd]:=rfl;rw[a]
 have b:aZ ["Thing"] "kind" (aa 0) (aa 1) [oR Ω.length,oS kd] (Ω++[Cell.ins "Thing" []])=.nx [oR Ω.length,oS kd] (Ω++[.ins "Thing" [("kind",.str kd)]]):=by
  rw[cL (y:=.str kd) (k:=Ω.length) rfl rfl aq (by simp),c9];rfl
 have c:aZ ["Thing"] "shape" (aa 0) (ah (.int 0)) [oR Ω.length,oS kd] (Ω++[Cell.ins "Thing" [("kind",.str kd)]])=.nx [oR Ω.length,oS kd] (Ω++[.ins "Thing" [("kind",.str kd),("shape",.int 0)]]):=by
  rw[cL (y:=.int 0) (k:=Ω.length) rfl rfl aq (by simp),c9];rfl
 have d:aZ ["Thing"] "slots" (aa 0) (mN bB af) [oR Ω.length,oS kd] (Ω++[Cell.ins "Thing" [("kind",.str kd),("shape",.int 0)]])=.nx [oR Ω.length,oS kd] (Ω++[.ins "Thing" [("kind",.str kd),("shape",.int 0),("slots",.ref (Ω.length+1))],.lst []]):=by
  have e:(mN bB af) [oR Ω.length,oS kd] (Ω++[Cell.ins "Thing" [("kind",.str kd),("shape",.int 0)]])=.ok (.ref (Ω.length+1)) (Ω++[.ins "Thing" [("kind",.str kd),("shape",.int 0)],.lst []]):=by
   simp[aA]
  rw[cL (y:=.ref (Ω.length+1)) (k:=Ω.length) e rfl aq (by simp),c9];rfl
 unfold Cp;rw[ae,b,ax,ae,c,ax,ae,d,ax];rfl
def E7(a b TI:aR):SM:=
 (aj (dR (fv (mN (bj a) (ab (aa 1) af)))
 (aj bz
 ai)
 ai)
 (aj (dR (m2 (aG .In) (aa 1) (m1 (aW ["Things"] "made") (aa 0)))
 (aj bz
 ai)
 ai)
 (aj (dR (m2 (aG .GtE) (mN (bu .len) (ab (m1 (aW ["Things"] "made") (aa 0)) af)) (ah (.int 40)))
 (aj bz
 ai)
 ai)
 (aj (ck (aC "House" "check_kind" b (m1 (aW ["Town"] "house") (m1 (aW ["Things"] "town") (aa 0))) (ab (aa 2) af)))
 (aj (dI (m1 (aW ["Things"] "made") (aa 0)) (aa 1) (mN (dB "Thing" TI) (ab (aa 2) af)))
 ai)))))
variable{P:Nat->Prop}{E:ig}{N:Str->List Str}{fs:List (Str×D)}
theorem yL{b:aR}(c:oJ b)(W:Tn Ω T t s r m d kvs L)(f:Ω[t]?=some (.ins "Town" (("house",.ref h)::fs)))(H:dc P Ω h E N)(g:kd∈nms E){j:Nat}(i:ρ[0]?=some (oR T))(n:ρ[j]?=some (oS kd)):∃au,(ck (aC "House" "check_kind" b (m1 (aW ["Town"] "house") (m1 (aW ["Things"] "town") (aa 0))) (ab (aa j) af))) ρ Ω=.nx ρ au/\ag [] Ω au:=by
 obtain⟨a,o,p⟩:=c Ω h E N P kd H g;refine⟨a,?_,p⟩;have q:=yH W;have u:aW ["Town"] "house" (.ref t) Ω=.ok (.ref h) Ω:=cx f rfl rfl;obtain⟨e,l,w,x,y,_⟩:=H;rw[cy,fJ (k:=h) (au:=Ω) (by simp[i,q,u]) y rfl]
 simp[n,o]
theorem Cq{q z:aR}(G:oH q)(I:oJ z)(W:Tn Ω T t s r m d kvs L)(J:Ω[t]?=some (.ins "Town" (("house",.ref h)::fs)))(H:dc P Ω h E N)(K:kd∈nms E)(M:oG n)(O:bC kvs (.inr n)=none)(hl:kvs.length<40)(Q:L[0]?=some []) :
  ∃c au,aK 3 3 (E7 q z (aK 2 2 Cp)) [.ref T,.str n,.str kd] Ω=.ok .non au/\Tn au T t s r m d (bH kvs (.inr n) (.ref c)) L/\Tg au d c (c+1) 0 kd [] L/\ag [d] Ω au/\Ω.length<=c:=by
 rw[aT (by rfl)]
 have R:aL 3 [D.ref T,.str n,.str kd]=[oR T,oS n,oS kd]:=rfl;rw[R];obtain⟨b,S,p⟩:=G Ω n M;have U:(dR (fv (mN (bj q) (ab (aa 1) af))) (aj bz ai) ai) [oR T,oS n,oS kd] Ω=.nx [oR T,oS n,oS kd] b:=by simp[S]
 have g:=W.bD p;have A:=lI g;have i:=Bs (n:=n) (.inl g.dk:cj b d kvs);rw[O]at i;have V:(dR (m2 (aG .In) (aa 1) (m1 (aW ["Things"] "made") (aa 0))) (aj bz ai) ai) [oR T,oS n,oS kd] b=.nx [oR T,oS n,oS kd] b:=by simp[A,i,-di]
 have u:=Cj (.inl g.dk:cj b d kvs)
 have X:(dR (m2 (aG .GtE) (mN (bu .len) (ab (m1 (aW ["Things"] "made") (aa 0)) af)) (ah (.int 40))) (aj bz ai) ai) [oR T,oS n,oS kd] b=.nx [oR T,oS n,oS kd] b:=by
  simp[A,u,de];omega
 obtain⟨a,Y,B⟩:=yL I g (p.get _ _ J (by simp)) (H.keep p) K (ρ:=[oR T,oS n,oS kd]) (j:=2) rfl rfl
 have C:=g.bD B;have w:=Ek (Ω:=a) (kd:=kd);have Z:(a++[Cell.ins "Thing" [("kind",.str kd),("shape",.int 0),("slots",.ref (a.length+1))],.lst []])[a.length]?=some (.ins "Thing" [("kind",.str kd),("shape",.int 0),("slots",.ref (a.length+1))]):=aq
 have x:(a++[Cell.ins "Thing" [("kind",.str kd),("shape",.int 0),("slots",.ref (a.length+1))],.lst []])[a.length+1]?=some (.lst []):=by
  rw[List.getElem?_append_right (by omega)];simp
 have F:ag [] a (a++[Cell.ins "Thing" [("kind",.str kd),("shape",.int 0),("slots",.ref (a.length+1))],.lst []]):=ag.app;generalize a++[Cell.ins "Thing" [("kind",.str kd),("shape",.int 0),("slots",.ref (a.length+1))],.lst []]=f at *;have k:=C.bD F;have f3:=lI k;have hd:=sv (n:=n) (d:=.ref a.length) k.dk (by omega)
 have r5:(dI (m1 (aW ["Things"] "made") (aa 0)) (aa 1) (mN (dB "Thing" (aK 2 2 Cp)) (ab (aa 2) af))) [oR T,oS n,oS kd] a=.nx [oR T,oS n,oS kd] (f.set d (.dK (bH kvs (.inr n) (.ref a.length)))):=by
  simp[dI,w,f3,hd]
 have ld:=bU C.dk;have g4:=aI (e:=.dK (bH kvs (.inr n) (.ref a.length))) k.dk;have l:ag [d] f (f.set d (.dK (bH kvs (.inr n) (.ref a.length)))):=ag.set (by simp)
 generalize f.set d (.dK (bH kvs (.inr n) (.ref a.length)))=y at *;have a0:=W.lt;have o:=p.trans B;refine⟨a.length,y,?_,⟨l.get _ _ k.ob (by simp;omega),g4,k.sh.keep l (by simp;omega) (by simp;omega) (by simp;omega),W.nd,W.lt⟩,⟨l.get _ _ Z (by simp;omega),l.get _ _ x (by simp;omega),Q,by simp,by simp,by omega,by omega⟩,((o.trans F).sub (by simp)).trans l,o.len⟩
 unfold E7;rw[ae,U,ax,ae,V,ax,ae,X,ax,ae,Y,ax,ae,r5,ax];rfl
def E8(a b:aR):SM:=
 (aj (aJ 3 (aC "Things" "thing" a (aa 0) (ab (aa 1) af)))
 (aj (ck (aC "House" "check_kind" b (m1 (aW ["Town"] "house") (m1 (aW ["Things"] "town") (aa 0))) (ab (aa 2) af)))
 (aj (aZ ["Thing"] "kind" (aa 3) (aa 2))
 ai)))
theorem HK{a o:aR}(p:fg a)(q:oJ o)(W:Tn Ω T t s r m d kvs L)(u:bC kvs (.inr n)=some (.ref c))(G:Tg Ω d c l i w v L)(x:Ω[t]?=some (.ins "Town" (("house",.ref h)::fs)))(H:dc P Ω h E N)(z:kd∈nms E) :
  ∃au,aK 4 3 (E8 a o) [.ref T,.str n,.str kd] Ω=.ok .non au/\Tn au T t s r m d kvs L/\Tg au d c l i kd v L/\ag [c] Ω au:=by
 rw[aT (by rfl)]
 have A:aL 4 [D.ref T,.str n,.str kd]=[oR T,oS n,oS kd,none]:=rfl;rw[A];have B:=fK p W u (ρ:=[oR T,oS n,oS kd,none]) (i:=0) (j:=1) rfl rfl
 have C:(aJ 3 (aC "Things" "thing" a (aa 0) (ab (aa 1) af))) [oR T,oS n,oS kd,none] Ω=.nx [oR T,oS n,oS kd,oR c] Ω:=by
  rw[br,B];rfl
 obtain⟨aQ,F,b⟩:=yL q W x H z (ρ:=[oR T,oS n,oS kd,oR c]) (j:=2) rfl rfl;have I:=W.bD b;have f:=G.bD b;have J:(aZ ["Thing"] "kind" (aa 3) (aa 2)) [oR T,oS n,oS kd,oR c] aQ=.nx [oR T,oS n,oS kd,oR c] (aQ.set c (.ins "Thing" [("kind",.str kd),("shape",.int i),("slots",.ref l)])):=cL (aQ:=aQ) (y:=.str kd) rfl rfl f.ob (by simp)
 have K:=aI (e:=.ins "Thing" [("kind",.str kd),("shape",.int i),("slots",.ref l)]) f.ob;have g:ag [c] aQ (aQ.set c (.ins "Thing" [("kind",.str kd),("shape",.int i),("slots",.ref l)])):=ag.set (by simp)
 generalize aQ.set c (.ins "Thing" [("kind",.str kd),("shape",.int i),("slots",.ref l)])=k at *;have M:=G.lt;refine⟨k,?_,I.keep g (by simp;omega),⟨K,g.get _ _ f.sl (by simp;omega),G.wd,G.nd,G.le,G.lt⟩,(b.sub (by simp)).trans g⟩
 unfold E8;rw[ae,C,ax,ae,F,ax,ae,J,ax];rfl
end
section
variable{Ω au aQ:aD}{ρ:aX}{T t s r m d k c l i h g:Nat}{L:List (List Str)}{kvs tk:List (Key×D)}{n w kd:Str}{fp:List Nat}{P:Nat->Prop}{E:ig}{N:Str->List Str}{fs:List (Str×D)}{ks:List Str}
def BB:SM:=
 (aj (aZ ["Facts"] "teller" (aa 0) (aa 1))
 (aj (aZ ["Facts"] "strengths" (aa 0) bY)
 (aj (aZ ["Facts"] "asked" (aa 0) (mN bB af))
 ai)))
theorem El{x:D}:∃b l,dB "Facts" (aK 2 2 BB) [x] Ω=.ok (.ref Ω.length) (Ω++.ins "Facts" b::l):=by
 unfold dB;rw[aT (by rfl)]
 have c:aL 2 [D.ref Ω.length,x]=[oR Ω.length,some x]:=rfl;rw[c]
 have d:aZ ["Facts"] "teller" (aa 0) (aa 1) [oR Ω.length,some x] (Ω++[Cell.ins "Facts" []])=.nx [oR Ω.length,some x] (Ω++[.ins "Facts" [("teller",x)]]):=by
  rw[cL (y:=x) (k:=Ω.length) rfl rfl aq (by simp),c9];rfl
 have e:aZ ["Facts"] "strengths" (aa 0) bY [oR Ω.length,some x] (Ω++[Cell.ins "Facts" [("teller",x)]])=.nx [oR Ω.length,some x] (Ω++[.ins "Facts" [("teller",x),("strengths",.ref (Ω.length+1))],.dK []]):=by
  have a:bY [oR Ω.length,some x] (Ω++[Cell.ins "Facts" [("teller",x)]])=.ok (.ref (Ω.length+1)) (Ω++[.ins "Facts" [("teller",x)],.dK []]):=by
   simp[bY]
  rw[cL (y:=.ref (Ω.length+1)) (k:=Ω.length) a rfl aq (by simp),c9];rfl
 have f:aZ ["Facts"] "asked" (aa 0) (mN bB af) [oR Ω.length,some x] (Ω++[Cell.ins "Facts" [("teller",x),("strengths",.ref (Ω.length+1))],.dK []])=.nx [oR Ω.length,some x] (Ω++[.ins "Facts" [("teller",x),("strengths",.ref (Ω.length+1)),("asked",.ref (Ω.length+2))],.dK [],.lst []]):=by
  have a:(mN bB af) [oR Ω.length,some x] (Ω++[Cell.ins "Facts" [("teller",x),("strengths",.ref (Ω.length+1))],.dK []])=.ok (.ref (Ω.length+2)) (Ω++[.ins "Facts" [("teller",x),("strengths",.ref (Ω.length+1))],.dK [],.lst []]):=by
   simp[aA]
  rw[cL (y:=.ref (Ω.length+2)) (k:=Ω.length) a rfl aq (by simp),c9];rfl
 refine⟨[("teller",x),("strengths",.ref (Ω.length+1)),("asked",.ref (Ω.length+2))],[.dK [],.lst []],?_⟩;unfold BB;rw[ae,d,ax,ae,e,ax,ae,f,ax];rfl
def Em(a b:aR):SM:=
 (aj (aZ ["Town"] "house" (aa 0) (mN (dB "House" a) af))
 (aj (aZ ["Town"] "facts" (aa 0) (mN (dB "Facts" b) (ab (aa 1) af)))
 (aj (aZ ["Town"] "tags" (aa 0) bY)
 (aj (aZ ["Town"] "last_deed" (aa 0) (ah (.int 0)))
 ai))))
structure To(P:Nat->Prop)(Ω:aD)(t h g:Nat)(E:ig)(N:Str->List Str):Prop where
 ob:∃f b,Ω[t]?=some (.ins "Town" [("house",.ref h),("facts",f),("tags",.ref g),("last_deed",.int b)])
 hs:dc P Ω h E N
 tg:∃tk,Ω[g]?=some (.dK tk)/\(∀kv∈tk,∃i,kv.2=.int i)/\tk.length<=E.length
theorem yM{a b:List (Str×D)}(h:some (Cell.ins "Town" a)=some (.ins "House" b)):False:=by
 injection Option.some.inj h with h _;exact absurd h (by decide)
theorem dc.HL{I:List (Str×D)}(H:dc P Ω h E N)(u:E≠[])(n:Ω[t]?=some (.ins "Town" I))(o:Ω[g]?=some (.dK tk))(J:∀L∈tk,∃i,L.2=.int i)(K:ag [t,g] Ω au):dc P au h E N:=by
 obtain⟨e,l,q,r,d,w,x,y,B⟩:=H
 have C:∀j∈[t,g],∀F,Ω[j]?≠some (.lst F):=λj m F=>by
  simp at m;rcases m with rfl|rfl
  .rw[n];simp
  .rw[o];simp
 have G:∀{a:Nat}{c:List (Key×D)}{A:ig},cj Ω a c->a_ P Ω c A->A≠[]->a∉[t,g]:=by
  intro a c A hd M O;simp only[List.mem_cons,List.not_mem_nil,or_false,not_or];refine⟨λz=>hd.ni _ _ (z▸n),λz=>?_⟩
  subst z
  have:c=tk:=by
   rcases hd with hd|hd<;>rw[o]at hd<;>cases hd
   rfl
  subst this;cases A with
  |nil=>exact O rfl
  |cons p A=>
   have f:=M;unfold a_ at f;cases f with
   |cons a b=>
    obtain⟨_,j,m,_⟩:=a;obtain⟨i,k⟩:=J _ List.mem_cons_self;rw[m]at k;cases k
 have Q:h∉[t,g]:=by
  simp only[List.mem_cons,List.not_mem_nil,or_false,not_or];exact⟨λz=>by rw[z,n]at d;exact yM d,λz=>by rw[z,o]at d;cases d⟩
 have s:dP (nms E) N≠[]:=by
  cases E with
  |nil=>exact absurd rfl u
  |cons p E=>simp[dP,nms]
 exact⟨e,l,q,r,K.get _ _ d Q,w.keep K (G w x u),x.ej K C,y.keep K (G y B s),B.ej K C⟩
theorem En{G:aR}(U:yy G){x:D}(P:Nat->Prop):∃h g au,dB "Town" (aK 2 2 (Em G (aK 2 2 BB))) [x] Ω=.ok (.ref Ω.length) au/\To P au Ω.length h g [] N/\ag [] Ω au/\Ω.length<h/\h<g:=by
 unfold dB;rw[aT (by rfl)]
 have V:aL 2 [D.ref Ω.length,x]=[oR Ω.length,some x]:=rfl;rw[V];have X:(Ω++[Cell.ins "Town" []])[Ω.length]?=some (.ins "Town" []):=aq;have Y:ag [] Ω (Ω++[Cell.ins "Town" []]):=ag.app;have l0:(Ω++[Cell.ins "Town" []]).length=Ω.length+1:=by simp
 generalize Ω++[Cell.ins "Town" []]=b at *;obtain⟨aQ,Z,H1,R⟩:=U b N P;have F:=R.get _ _ X (by simp)
 have r1:aZ ["Town"] "house" (aa 0) (mN (dB "House" G) af) [oR Ω.length,some x] b=.nx [oR Ω.length,some x] (aQ.set Ω.length (.ins "Town" [("house",.ref b.length)])):=cL (aQ:=aQ) (y:=.ref b.length) Z rfl F (by simp)
 have q1:=aI (e:=.ins "Town" [("house",.ref b.length)]) F;have p:ag [Ω.length] aQ (aQ.set Ω.length (.ins "Town" [("house",.ref b.length)])):=ag.set (by simp)
 have H2:dc P (aQ.set Ω.length (.ins "Town" [("house",.ref b.length)])) b.length [] N:=by
  obtain⟨e,l,m,n,H,r,I,s,J⟩:=H1
  have t:∀{a:Nat}{o:List (Key×D)},cj aQ a o->a∉[Ω.length]:=λK=>by
   rw[List.mem_singleton];exact λz=>K.ni _ _ (z▸F)
  have u:∀j∈[Ω.length],∀w,aQ[j]?≠some (.lst w):=λj L w=>by rw[List.mem_singleton.mp L,F];simp
  exact⟨e,l,m,n,p.get _ _ H (by simp;omega),r.keep p (t r),I.ej p u,s.keep p (t s),J.ej p u⟩
 generalize aQ.set Ω.length (.ins "Town" [("house",.ref b.length)])=f at *;obtain⟨A,fl,e3⟩:=El (Ω:=f) (x:=x);have M:ag [] f (f++.ins "Facts" A::fl):=ag.app;have B:=M.get _ _ q1 (by simp)
 have S:=H2.keep M;generalize f++Cell.ins "Facts" A::fl=d at *;have r2:aZ ["Town"] "facts" (aa 0) (mN (dB "Facts" (aK 2 2 BB)) (ab (aa 1) af)) [oR Ω.length,some x] f=.nx [oR Ω.length,some x] (d.set Ω.length (.ins "Town" [("house",.ref b.length),("facts",.ref f.length)])):=cL (aQ:=d) (y:=.ref f.length) e3 rfl B (by simp)
 have g4:=aI (e:=.ins "Town" [("house",.ref b.length),("facts",.ref f.length)]) B;have K4:ag [Ω.length] d (d.set Ω.length (.ins "Town" [("house",.ref b.length),("facts",.ref f.length)])):=ag.set (by simp)
 have C:(d.set Ω.length (.ins "Town" [("house",.ref b.length),("facts",.ref f.length)])++[Cell.dK []])[Ω.length]?=some (.ins "Town" [("house",.ref b.length),("facts",.ref f.length)]):=cg g4
 have d5:(d.set Ω.length (.ins "Town" [("house",.ref b.length),("facts",.ref f.length)])++[Cell.dK []])[d.length]?=some (.dK []):=by
  have:=aq (Ω:=d.set Ω.length (.ins "Town" [("house",.ref b.length),("facts",.ref f.length)])) (c:=Cell.dK []) (l:=[]);rwa[List.length_set]at this
 have K5:ag [Ω.length] d (d.set Ω.length (.ins "Town" [("house",.ref b.length),("facts",.ref f.length)])++[Cell.dK []]):=K4.trans ag.app
 have e5:bY [oR Ω.length,some x] (d.set Ω.length (.ins "Town" [("house",.ref b.length),("facts",.ref f.length)]))=.ok (.ref d.length) (d.set Ω.length (.ins "Town" [("house",.ref b.length),("facts",.ref f.length)])++[Cell.dK []]):=by
  simp[bY]
 have r3:aZ ["Town"] "tags" (aa 0) bY [oR Ω.length,some x] (d.set Ω.length (.ins "Town" [("house",.ref b.length),("facts",.ref f.length)]))=_:=cL (aQ:=(d.set Ω.length (.ins "Town" [("house",.ref b.length),("facts",.ref f.length)])++[Cell.dK []])) (y:=.ref d.length) e5 rfl C (by simp)
 generalize d.set Ω.length (.ins "Town" [("house",.ref b.length),("facts",.ref f.length)])++[Cell.dK []]=i at *;have a0:Ω.length<d.length:=bU B;have T:(i.set Ω.length (.ins "Town" [("house",.ref b.length),("facts",.ref f.length),("tags",.ref d.length)]))[Ω.length]?=some (.ins "Town" [("house",.ref b.length),("facts",.ref f.length),("tags",.ref d.length)]):=aI C;have K6:ag [Ω.length] d (i.set Ω.length (.ins "Town" [("house",.ref b.length),("facts",.ref f.length),("tags",.ref d.length)])):=K5.trans (ag.set (by simp))
 have d6:(i.set Ω.length (.ins "Town" [("house",.ref b.length),("facts",.ref f.length),("tags",.ref d.length)]))[d.length]?=some (.dK []):=bp d5 (by omega)
 have O:aZ ["Town"] "tags" (aa 0) bY [oR Ω.length,some x] (d.set Ω.length (.ins "Town" [("house",.ref b.length),("facts",.ref f.length)]))=.nx [oR Ω.length,some x] (i.set Ω.length (.ins "Town" [("house",.ref b.length),("facts",.ref f.length),("tags",.ref d.length)])):=r3;generalize i.set Ω.length (.ins "Town" [("house",.ref b.length),("facts",.ref f.length),("tags",.ref d.length)])=k at *;have r4:aZ ["Town"] "last_deed" (aa 0) (ah (.int 0)) [oR Ω.length,some x] k=.nx [oR Ω.length,some x] (k.set Ω.length (.ins "Town" [("house",.ref b.length),("facts",.ref f.length),("tags",.ref d.length),("last_deed",.int 0)])):=cL (aQ:=k) (y:=.int 0) rfl rfl T (by simp)
 have g7:=aI (e:=.ins "Town" [("house",.ref b.length),("facts",.ref f.length),("tags",.ref d.length),("last_deed",.int 0)]) T;have d7:=bp (e:=.ins "Town" [("house",.ref b.length),("facts",.ref f.length),("tags",.ref d.length),("last_deed",.int 0)]) (j:=Ω.length) d6 (by omega)
 have q:ag [Ω.length] d (k.set Ω.length (.ins "Town" [("house",.ref b.length),("facts",.ref f.length),("tags",.ref d.length),("last_deed",.int 0)])):=K6.trans (ag.set (by simp))
 generalize k.set Ω.length (.ins "Town" [("house",.ref b.length),("facts",.ref f.length),("tags",.ref d.length),("last_deed",.int 0)])=E at *
 have H7:dc P E b.length [] N:=by
  obtain⟨e,l,m,n,H,r,I,s,J⟩:=S
  have t:∀{a:Nat}{o:List (Key×D)},cj d a o->a∉[Ω.length]:=λK=>by
   rw[List.mem_singleton];exact λz=>K.ni _ _ (z▸B)
  have u:∀j∈[Ω.length],∀w,d[j]?≠some (.lst w):=λj L w=>by rw[List.mem_singleton.mp L,B];simp
  exact⟨e,l,m,n,q.get _ _ H (by simp;omega),r.keep q (t r),I.ej q u,s.keep q (t s),J.ej q u⟩
 have lh:b.length<d.length:=by
  obtain⟨_,_,_,_,z,_⟩:=S;exact bU z
 refine⟨b.length,d.length,E,?_,⟨⟨_,_,g7⟩,H7,_,d7,by simp,by simp⟩,?_,by omega,lh⟩
 .unfold Em
  rw[ae,r1,ax,ae,r2,ax,ae,O,ax,ae,r4,ax];rfl
 .have Q:ag [Ω.length] b d:=((R.sub (by simp)).trans p).trans (M.sub (by simp))
  exact ag.new Y (Q.trans q) (by simp)
def Ks:SM:=(aj (dI (m1 (aW ["Town"] "tags") (aa 0)) (aa 2) (m1 (aW ["Town"] "last_deed") (aa 0)))
 ai)
def yZ:SM:=
 (aj (mP ["Town"] "last_deed" (aa 0) 1)
 (aj (eE (du 2) (bG (aa 1)) Ks)
 (aj (bP (aa 1))
 ai)))
theorem HM{f:D}{b:Int}{q:Nat}(w:Ω[t]?=some (.ins "Town" [("house",.ref h),("facts",f),("tags",.ref g),("last_deed",.int b)]))(y:Ω[g]?=some (.dK tk))(F:∀A∈tk,∃i,A.2=.int i)(Y:tk.length<=500)(o:Ω[q]?=some (.lst [.str n])) :
  ∃l au,aK 3 2 yZ [.ref t,.ref q] Ω=.ok (.ref q) au/\au[t]?=some (.ins "Town" [("house",.ref h),("facts",f),("tags",.ref g),("last_deed",.int (b+1))])/\au[g]?=some (.dK l)/\(∀A∈l,∃i,A.2=.int i)/\l.length<=tk.length+1/\ag [t,g] Ω au:=by
 rw[aT (by rfl)]
 have H:aL 3 [D.ref t,.ref q]=[oR t,oR q,none]:=rfl;rw[H]
 have I:(mP ["Town"] "last_deed" (aa 0) 1) [oR t,oR q,none] Ω=.nx [oR t,oR q,none] (Ω.set t (.ins "Town" [("house",.ref h),("facts",f),("tags",.ref g),("last_deed",.int (b+1))])):=by
  unfold mP;have:aa 0 [oR t,oR q,none] Ω=.ok (.ref t) Ω:=rfl;rw[this,cu,iT w];rfl
 have B:=aI (e:=.ins "Town" [("house",.ref h),("facts",f),("tags",.ref g),("last_deed",.int (b+1))]) w;have p:g≠t:=λz=>by rw[z,w]at y;cases y
 have C:q≠t:=λz=>by rw[z,w]at o;cases o
 have E:q≠g:=λz=>by rw[z,y]at o;cases o
 have s:=bp (e:=.ins "Town" [("house",.ref h),("facts",f),("tags",.ref g),("last_deed",.int (b+1))]) y p;have m:=bp (e:=.ins "Town" [("house",.ref h),("facts",f),("tags",.ref g),("last_deed",.int (b+1))]) o C;have J:ag [t,g] Ω (Ω.set t (.ins "Town" [("house",.ref h),("facts",f),("tags",.ref g),("last_deed",.int (b+1))])):=ag.set (by simp)
 generalize Ω.set t (.ins "Town" [("house",.ref h),("facts",f),("tags",.ref g),("last_deed",.int (b+1))])=a at *;have K:=sv (n:=n) (d:=.int (b+1)) s (by omega)
 have L:aW ["Town"] "tags" (.ref t) a=.ok (.ref g) a:=cx B rfl rfl;have M:aW ["Town"] "last_deed" (.ref t) a=.ok (.int (b+1)) a:=cx B rfl rfl
 have N:Ks [oR t,oR q,oS n] a=.nx [oR t,oR q,oS n] (a.set g (.dK (bH tk (.inr n) (.int (b+1))))):=by
  simp[Ks,dI,L,M,K]
 have O:=aI (e:=.dK (bH tk (.inr n) (.int (b+1)))) s;have P:=bp (e:=.dK (bH tk (.inr n) (.int (b+1)))) B (Ne.symm p);have Q:=bp (e:=.dK (bH tk (.inr n) (.int (b+1)))) m E;have S:ag [t,g] a (a.set g (.dK (bH tk (.inr n) (.int (b+1))))):=ag.set (by simp)
 generalize a.set g (.dK (bH tk (.inr n) (.int (b+1))))=j at *
 have T:bG (aa 1) [oR t,oR q,none] a=.ok (.seq (.ref q)) a:=by
  rw[bT];exact bF (by rw[aP,aB m])
 have U:(eE (du 2) (bG (aa 1)) Ks) [oR t,oR q,none] a=.nx [oR t,oR q,oS n] j:=by
  rw[cY,T,cu];refine cf (R:=λr=>r=.nx [oR t,oR q,oS n] j) (ds:=[.str n]) (λi u c=>(i=0/\u=[oR t,oR q,none]/\c=a)\/(i=1/\u=[oR t,oR q,oS n]/\c=j)) ?_ ?_ ?_ fuel 0 _ _ (by unfold fuel;simp) (Nat.zero_le _) (.inl ⟨rfl,rfl,rfl⟩)
  .rintro i u c (⟨_,_,rfl⟩|⟨_,_,rfl⟩)
   .rw[cP,aP,aB m]
   .rw[cP,aP,aB Q]
  .rintro i x u c G (⟨rfl,rfl,rfl⟩|⟨rfl,rfl,rfl⟩)
   .cases G
    refine⟨[oR t,oR q,oS n],rfl,?_⟩;rw[N];exact .inr ⟨rfl,rfl,rfl⟩
   .cases G
  .rintro u c (⟨V,_,_⟩|⟨_,rfl,rfl⟩)
   .cases V
   .rfl
 refine⟨_,j,?_,P,O,?_,yk,J.trans S⟩
 .unfold yZ
  rw[ae,I,ax,ae,U,ax];rfl
 .intro A k
  unfold bH at k;split at k
  .obtain⟨X,h1,rfl⟩:=List.mem_map.mp k
   split
   .exact⟨_,rfl⟩
   .exact F _ h1
  .rcases List.mem_append.mp k with h1|h1
   .exact F _ h1
   .rw[List.mem_singleton.mp h1]
    exact⟨_,rfl⟩
def BC(a b:aR):SM:=
 (aj (ck (aC "House" "add" a (m1 (aW ["Town"] "house") (aa 0)) (ab (aa 1) (ab (aa 2) (ab (aa 3) af)))))
 (aj (bP (aC "Town" "count_deed" b (aa 0) (ab (mN bB (ab (aa 1) af)) af)))
 ai))
abbrev bare(a:List Str):ig:=dP a λ_=>[]
theorem BD(a:ks.Nodup)(c:ks.length<=100):Gd (bare ks):=
  { nd:=by rw[c8];exact a
    el:=λn a x b=>by rw[c8]at a;rw[gJ a]at b;cases b
    rk:=⟨λ_=>0,λn a x b=>by rw[c8]at a;rw[gJ a]at b;cases b⟩
    few:=by simp only[bare,dP,List.length_map];exact c
    short:=λn a=>by rw[c8]at a;rw[gJ a];simp }
theorem yN:Kl (bare ks) λn=>[n]:=λn a=>by
 rw[c8]at a;rw[gJ a];exact⟨[],.done λr b=>by simpa using b,rfl⟩
abbrev BE:Nat->Prop:=λ_=>True
theorem HN{d:aR}(L:yB d){a:Nat}(W:To BE Ω t h g (bare ks) λn=>[n])(M:Ω[a]?=some (.lst []))(A:(ks++[n]).Nodup)(hl:ks.length<12)(N:oG n) :
  ∃x au,aK 4 4 (BC d (aK 3 2 yZ)) [.ref t,.str n,.ref a,.non] Ω=.ok x au/\To BE au t h g (bare (ks++[n])) (λn=>[n])/\ag [h,t,g] Ω au:=by
 rw[aT (by rfl)]
 have O:aL 4 [D.ref t,.str n,.ref a,.non]=[oR t,oS n,oR a,some .non]:=rfl;rw[O];have i:bare ks++[(n,[])]=bare (ks++[n]):=by simp[bare,dP]
 have j:=List.nodup_append.mp A;obtain⟨⟨f,b,m⟩,H,tk,B,C,o⟩:=W;have P:(bare ks).length=ks.length:=by simp[bare,dP]
 obtain⟨c,Q,E,p⟩:=L Ω h a (bare ks) (λn=>[n]) (λn=>[n]) BE n [] H M N (by rw[c8];exact λz=>j.2.2 _ z _ (by simp) rfl) (by omega) (by simp) (by simp) (by simp) (by rw[i];exact BD A (by simp;omega)) (by rw[i];exact yN) (λ_ _=>by simp) (λ_ _=>True.intro)
 rw[i]at E
 have r:t≠h:=λz=>by
  obtain⟨_,_,_,_,q,_⟩:=H;rw[←z,m]at q;exact yM q
 have s:g≠h:=λz=>by
  obtain⟨_,_,_,_,q,_⟩:=H;rw[←z,B]at q;cases q
 have F:=p.get _ _ m (by simpa using r)
 have R:=p.get _ _ B (by simpa using s)
 have S:aW ["Town"] "house" (.ref t) Ω=.ok (.ref h) Ω:=cx m rfl rfl
 have T:(ck (aC "House" "add" d (m1 (aW ["Town"] "house") (aa 0)) (ab (aa 1) (ab (aa 2) (ab (aa 3) af))))) [oR t,oS n,oR a,some .non] Ω=.nx [oR t,oS n,oR a,some .non] c:=by
  obtain⟨e,l,U,V,X,_⟩:=H;rw[cy,fJ (k:=h) (au:=Ω) (by simp[S]) X rfl]
  simp[Q]
 have G:=cg (l:=[Cell.lst [.str n]]) F;have I:=cg (l:=[Cell.lst [.str n]]) R;have Y:(c++[Cell.lst [.str n]])[c.length]?=some (.lst [.str n]):=aq;have J:ag [] c (c++[Cell.lst [.str n]]):=ag.app;have Z:(mN bB (ab (aa 1) af)) [oR t,oS n,oR a,some .non] c=.ok (.ref c.length) (c++[Cell.lst [.str n]]):=by simp[aA]
 have H2:=E.keep J;generalize c++[Cell.lst [.str n]]=a0 at *;obtain⟨u,w,e3,t3,g3,y,b0,K⟩:=HM G I C (by omega) Y
 refine⟨.ref c.length,w,?_,⟨⟨_,_,t3⟩,H2.HL (by simp[bare,dP]) G I C K,u,g3,y,by simp[bare,dP]at o ⊢;omega⟩,((p.sub (by simp)).trans (J.sub (by simp))).trans (K.sub (by simp))⟩
 unfold BC;rw[ae,T,ax,ae,cX,fJ (k:=t) (au:=c) rfl F rfl];simp only[aV,Z,av,b_,e3,jl,cu,GO,Bi]
def HP(TO TA a:aR):SM:=
 (aj (aJ 1 (mN (dB "Town" TO) (ab (ah (.dct [] [])) af)))
 (aj (eE (du 2) (bG (aa 0))
 (aj (ck (f_ (aC "Town" "add" (λb=>TA (b++[.non])) (aa 1) (ab (aa 2) (ab (mN bB af) af))) (aC "House" "add" a (aa 1) (ab (aa 2) (ab (mN bB af) af)))))
 ai))
 (aj (bP (aa 1))
 ai)))
theorem HQ{p c:aR}(J:yy p)(L:yB c){q:Nat}(E:Ω[q]?=some (.lst (ks.map .str)))(M:ks.Nodup)(hl:ks.length<=12)(O:∀x∈ks,oG x) :
  ∃t h g au,aK 3 1 (HP (aK 2 2 (Em p (aK 2 2 BB))) (aK 4 4 (BC c (aK 3 2 yZ))) c) [.ref q] Ω=.ok (.ref t) au/\To BE au t h g (bare ks) (λn=>[n])/\ag [] Ω au:=by
 rw[aT (by rfl)]
 have P:aL 3 [D.ref q]=[oR q,none,none]:=rfl;rw[P];obtain⟨h,g,e,Q,S,F,lh,lg⟩:=En (Ω:=Ω) (N:=λn=>[n]) J (x:=.dct [] []) BE
 have T:(aJ 1 (mN (dB "Town" (aK 2 2 (Em p (aK 2 2 BB)))) (ab (ah (.dct [] [])) af))) [oR q,none,none] Ω=.nx [oR q,oR Ω.length,none] e:=by
  rw[br,fc,aV,fG,av,b_,av,av,Q];rfl
 have s:=F.get _ _ E (by simp)
 have U:bG (aa 0) [oR q,oR Ω.length,none] e=.ok (.seq (.ref q)) e:=by
  rw[bT];exact bF (by rw[aP,aB s])
 unfold HP;rw[ae,T,ax,ae,cY,U,cu];refine cf (R:=λr=>∃t h g au,h8 (sq r _)=.ok (.ref t) au/\To BE au t h g (bare ks) (λn=>[n])/\ag [] Ω au) (ds:=ks.map .str) (λi o a=>∃u,o=[oR q,oR Ω.length,u]/\To BE a Ω.length h g (bare (ks.take i)) (λn=>[n])/\ag [] Ω a) ?_ ?_ ?_ fuel 0 _ _ (by unfold fuel;simp;omega) (Nat.zero_le _) ⟨none,rfl,by simpa[bare,dP]using S,F⟩
 .rintro i o a ⟨_,_,_,K⟩
  rw[cP,aP,aB (K.get _ _ E (by simp))]
 .rintro i d o a V ⟨u,rfl,W,K⟩
  obtain⟨x,w,rfl⟩:=gu V;refine⟨[oR q,oR Ω.length,oS x],rfl,?_⟩;have G:ks.take (i+1)=ks.take i++[x]:=by rw[List.take_succ,w];rfl
  have hi:=(List.getElem?_eq_some_iff.mp w).1;have I:ag [] a (a++[Cell.lst []]):=ag.app;have X:(a++[Cell.lst []])[a.length]?=some (.lst []):=aq;have Y:(mN bB af) [oR q,oR Ω.length,oS x] a=.ok (.ref a.length) (a++[Cell.lst []]):=by simp[aA]
  obtain⟨⟨f,b,j⟩,H,Z,hg,z,A⟩:=W;have W4:To BE (a++[Cell.lst []]) Ω.length h g (bare (ks.take i)) (λn=>[n]):=⟨⟨f,b,cg j⟩,H.keep I,Z,cg hg,z,A⟩
  generalize a++[Cell.lst []]=l at *;obtain⟨y,m,e5,W5,K5⟩:=HN L W4 X (n:=x) (by rw[←G];exact List.Nodup.sublist (List.take_sublist _ _) M) (by simp;omega) (O x (List.mem_of_getElem? w))
  have rB:(aj (ck (f_ (aC "Town" "add" (λB=>(aK 4 4 (BC c (aK 3 2 yZ))) (B++[.non])) (aa 1) (ab (aa 2) (ab (mN bB af) af))) (aC "House" "add" c (aa 1) (ab (aa 2) (ab (mN bB af) af))))) ai) [oR q,oR Ω.length,oS x] a=.nx [oR q,oR Ω.length,oS x] m:=by
   have hm:(aC "Town" "add" (λB=>(aK 4 4 (BC c (aK 3 2 yZ))) (B++[.non])) (aa 1) (ab (aa 2) (ab (mN bB af) af))) [oR q,oR Ω.length,oS x] a=.ok y m:=by
    rw[fJ (k:=Ω.length) (au:=a) rfl j rfl]
    have:(ab (aa 2) (ab (mN bB af) af):AM) [oR q,oR Ω.length,oS x] a=.ok [.str x,.ref a.length] l:=by
     have C:aa 2 [oR q,oR Ω.length,oS x] a=.ok (.str x) a:=rfl;rw[aV,C,av,aV,Y];rfl
    rw[this,av]
    show xB (aK 4 4 (BC c (aK 3 2 yZ)) [.ref Ω.length,.str x,.ref a.length,.non] l)=_
    rw[e5];rfl
   rw[ae,cy,ou,hm];rfl
  rw[rB];refine⟨_,rfl,by rw[G];exact W5,ag.new (K.trans I) K5 (by simp;omega)⟩
 .rintro o a ⟨u,rfl,W,K⟩
  rw[List.length_map,List.take_length]at W;exact⟨Ω.length,h,g,a,rfl,W,K⟩
def Eo:SM:=
 (aj (aZ ["Shapes"] "rows" (aa 0) (mN bB (ab (mN hX af) af)))
 (aj (aZ ["Shapes"] "numbers" (aa 0) (eM (mN hX af) (ah (.int 0))))
 ai))
theorem Ep:dB "Shapes" (aK 1 1 Eo) [] Ω=.ok (.ref Ω.length) (Ω++[.ins "Shapes" [("rows",.ref (Ω.length+1)),("numbers",.ref (Ω.length+2))],.lst [.tup []],.dT [([],.int 0)]]):=by
 unfold dB;rw[aT (by rfl)]
 have b:aL 1 [D.ref Ω.length]=[oR Ω.length]:=rfl;rw[b]
 have c:aZ ["Shapes"] "rows" (aa 0) (mN bB (ab (mN hX af) af)) [oR Ω.length] (Ω++[Cell.ins "Shapes" []])=.nx [oR Ω.length] (Ω++[.ins "Shapes" [("rows",.ref (Ω.length+1))],.lst [.tup []]]):=by
  have a:(mN bB (ab (mN hX af) af)) [oR Ω.length] (Ω++[Cell.ins "Shapes" []])=.ok (.ref (Ω.length+1)) (Ω++[.ins "Shapes" [],.lst [.tup []]]):=by
   simp[aA]
  rw[cL (y:=.ref (Ω.length+1)) (k:=Ω.length) a rfl aq (by simp),c9];rfl
 have d:aZ ["Shapes"] "numbers" (aa 0) (eM (mN hX af) (ah (.int 0))) [oR Ω.length] (Ω++[Cell.ins "Shapes" [("rows",.ref (Ω.length+1))],.lst [.tup []]])=.nx [oR Ω.length] (Ω++[.ins "Shapes" [("rows",.ref (Ω.length+1)),("numbers",.ref (Ω.length+2))],.lst [.tup []],.dT [([],.int 0)]]):=by
  have a:(eM (mN hX af) (ah (.int 0))) [oR Ω.length] (Ω++[Cell.ins "Shapes" [("rows",.ref (Ω.length+1))],.lst [.tup []]])=.ok (.ref (Ω.length+2)) (Ω++[.ins "Shapes" [("rows",.ref (Ω.length+1))],.lst [.tup []],.dT [([],.int 0)]]):=by
   have e:(Ω++[Cell.ins "Shapes" [("rows",.ref (Ω.length+1))],.lst [.tup []]]).length=Ω.length+2:=by simp
   have f:((Ω++[Cell.ins "Shapes" [("rows",.ref (Ω.length+1))],.lst [.tup []]])++[Cell.dT []])[(Ω++[Cell.ins "Shapes" [("rows",.ref (Ω.length+1))],.lst [.tup []]]).length]?=some (.dT []):=aq;have g:(mN hX af) [oR Ω.length] ((Ω++[Cell.ins "Shapes" [("rows",.ref (Ω.length+1))],.lst [.tup []]])++[Cell.dT []])=.ok (.tup []) ((Ω++[Cell.ins "Shapes" [("rows",.ref (Ω.length+1))],.lst [.tup []]])++[Cell.dT []]):=by simp[aA]
   unfold eM;rw[g,av,fG,av,f]
   show aw.ok _ (((Ω++[Cell.ins "Shapes" [("rows",.ref (Ω.length+1))],.lst [.tup []]])++[Cell.dT []]).set (Ω++[Cell.ins "Shapes" [("rows",.ref (Ω.length+1))],.lst [.tup []]]).length (.dT [([],.int 0)]))=_
   rw[c9,e];simp
  rw[cL (y:=.ref (Ω.length+2)) (k:=Ω.length) a rfl aq (by simp),c9];rfl
 unfold Eo;rw[ae,c,ax,ae,d,ax];rfl
def HR(a:aR):SM:=
 (aj (aZ ["Things"] "town" (aa 0) (aa 1))
 (aj (aZ ["Things"] "shapes" (aa 0) (mN (dB "Shapes" a) af))
 (aj (aZ ["Things"] "made" (aa 0) bY)
 ai)))
theorem Er:∃s r m d au,dB "Things" (aK 2 2 (HR (aK 1 1 Eo))) [.ref t] Ω=.ok (.ref Ω.length) au/\Tn au Ω.length t s r m d [] [[]]/\ag [] Ω au:=by
 unfold dB;rw[aT (by rfl)]
 have b:aL 2 [D.ref Ω.length,.ref t]=[oR Ω.length,oR t]:=rfl;rw[b]
 have c:aZ ["Things"] "town" (aa 0) (aa 1) [oR Ω.length,oR t] (Ω++[Cell.ins "Things" []])=.nx [oR Ω.length,oR t] (Ω++[.ins "Things" [("town",.ref t)]]):=by
  rw[cL (y:=.ref t) (k:=Ω.length) rfl rfl aq (by simp),c9];rfl
 have e:aZ ["Things"] "shapes" (aa 0) (mN (dB "Shapes" (aK 1 1 Eo)) af) [oR Ω.length,oR t] (Ω++[.ins "Things" [("town",.ref t)]])=.nx [oR Ω.length,oR t] (Ω++[.ins "Things" [("town",.ref t),("shapes",.ref (Ω.length+1))],.ins "Shapes" [("rows",.ref (Ω.length+2)),("numbers",.ref (Ω.length+3))],.lst [.tup []],.dT [([],.int 0)]]):=by
  have a:=Ep (Ω:=Ω++[.ins "Things" [("town",.ref t)]]);simp only[List.length_append,List.length_singleton,List.append_assoc,List.singleton_append,Nat.add_assoc]at a;rw[cL (y:=.ref (Ω.length+1)) (k:=Ω.length) a rfl aq (by simp),c9];rfl
 have f:aZ ["Things"] "made" (aa 0) bY [oR Ω.length,oR t] (Ω++[.ins "Things" [("town",.ref t),("shapes",.ref (Ω.length+1))],.ins "Shapes" [("rows",.ref (Ω.length+2)),("numbers",.ref (Ω.length+3))],.lst [.tup []],.dT [([],.int 0)]])=.nx [oR Ω.length,oR t] (Ω++[.ins "Things" [("town",.ref t),("shapes",.ref (Ω.length+1)),("made",.ref (Ω.length+4))],.ins "Shapes" [("rows",.ref (Ω.length+2)),("numbers",.ref (Ω.length+3))],.lst [.tup []],.dT [([],.int 0)],.dK []]):=by
  have a:bY [oR Ω.length,oR t] (Ω++[.ins "Things" [("town",.ref t),("shapes",.ref (Ω.length+1))],.ins "Shapes" [("rows",.ref (Ω.length+2)),("numbers",.ref (Ω.length+3))],.lst [.tup []],.dT [([],.int 0)]])=.ok (.ref (Ω.length+4)) (Ω++[.ins "Things" [("town",.ref t),("shapes",.ref (Ω.length+1))],.ins "Shapes" [("rows",.ref (Ω.length+2)),("numbers",.ref (Ω.length+3))],.lst [.tup []],.dT [([],.int 0)],.dK []]):=by
   simp[bY]
  rw[cL (y:=.ref (Ω.length+4)) (k:=Ω.length) a rfl aq (by simp),c9];rfl
 refine⟨Ω.length+1,Ω.length+2,Ω.length+3,Ω.length+4,Ω++[.ins "Things" [("town",.ref t),("shapes",.ref (Ω.length+1)),("made",.ref (Ω.length+4))],.ins "Shapes" [("rows",.ref (Ω.length+2)),("numbers",.ref (Ω.length+3))],.lst [.tup []],.dT [([],.int 0)],.dK []],?_,⟨aq,?_,⟨?_,?_,?_⟩,by simp,by omega⟩,ag.app⟩
 .unfold HR
  rw[ae,c,ax,ae,e,ax,ae,f,ax];rfl
 all_goals
  rw[List.getElem?_append_right (by omega)]
  simp[tS,nums,kS]
end
section
variable{Ω au:aD}{ρ:aX}{F:List D->Out Rs}{μ:Int->Int->Int->Int}{c:Int}{m:Nat}{S:Str}
def BF(i j:Nat):EM:=(m2 (bf .Add) (dZ (aa i) false (aa j) true (ah .non)) (dZ (aa i) true (ah .non) false (aa j)))
theorem yO{i j q t:Nat}{ws:List Str}(h:ρ[i]?=some (oR q))(l:ρ[j]?=some (oI t))(g:Ω[q]?=some (.lst (ws.map .str)))(u:ws.length<=1000):∃k au,BF i j ρ Ω=.ok (.ref k) au/\au[k]?=some (.lst ((ws.drop t++ws.take t).map .str))/\ag [] Ω au/\Ω.length<=k:=by
 have m:=yo (i:=t) g;have o:(Ω++[Cell.lst ((ws.drop t).map .str)])[Ω.length]?=some (.lst ((ws.drop t).map .str)):=aq;have c:ag [] Ω (Ω++[Cell.lst ((ws.drop t).map .str)]):=ag.app;have d:=c.get _ _ g (by simp)
 generalize Ω++[Cell.lst ((ws.drop t).map .str)]=a at *;have p:=oD (n:=t) d;have r:(a++[Cell.lst ((ws.take t).map .str)])[a.length]?=some (.lst ((ws.take t).map .str)):=aq;have e:ag [] a (a++[Cell.lst ((ws.take t).map .str)]):=ag.app;have f:=e.get _ _ o (by simp)
 generalize a++[Cell.lst ((ws.take t).map .str)]=b at *;have s:=j8 f r (by simp;omega)
 refine⟨b.length,b++[.lst ((ws.drop t).map .str++(ws.take t).map .str)],?_,by rw[List.map_append];exact aq,(c.trans e).trans ag.app,(c.trans e).len⟩
 unfold BF;simp only[cN,iU,fF,h,l,fE,av,oA,oz,ue,m,p,s]
theorem qD{t:Nat}(ws:List Str):(ws.drop t++ws.take t).Perm ws:=by
 have:=(List.perm_append_comm (l₁:=ws.drop t) (l₂:=ws.take t));rwa[List.take_append_drop]at this
def sD(S:Str):Prop:=S.cps.toList.length=8/\∀x∈S.cps.toList,97<=x/\x<=122
theorem Es(a b c d e f g h:Nat):qZ .join (.str "") (.tup [.lst [.str (ay a),.str (ay b),.str (ay c),.str (ay d),.str (ay e),.str (ay f),.str (ay g),.str (ay h)]])=.ok (false,.str ⟨#[a,b,c,d,e,f,g,h]⟩):=rfl
def Rg(F:List D->Out Rs):EM:=(cJ (m2 aF (aa 2) (mN (cz F) (ab (aa 1) (ab (aa 0) (ab (ah (.int 26)) af))))) true (ah .non) (dH (ab (ah (.int 8)) af)) 0 [0,2])
def Kt(F:List D->Out Rs):EM:=(cE nU pO (ah (.str "")) (ab (Rg F) af))
theorem Et(a:iO μ F)(o:eI [0,2] ρ=[oI c,oS abc]):∃S au,Kt F ρ Ω=.ok (.str S) au/\sD S/\ag [] Ω au:=by
 have b:i_ 8=true:=eO (by omega) (by omega)
 have h:=dg (Ω:=Ω) (au:=Ω) (ρ:=ρ) (me:=m2 aF (aa 2) (mN (cz F) (ab (aa 1) (ab (aa 0) (ab (ah (.int 26)) af))))) (nc:=true) (mc:=ah .non) (mi:=dH (ab (ah (.int 8)) af)) (cap:=[0,2]) (src:=.ints 0 8) (ds:=intsFrom 0 8) (p:=λ_=>true)
  (g:=λd=>match d with|.int j=>.str (ay (97+(μ c j 26).toNat))|_=>.non) (by simp[b]) rfl (λd f=>rfl) (λd f _=>by
   obtain⟨i,r⟩:=List.mem_iff_getElem?.mp f;obtain⟨rfl,s⟩:=fD r;obtain⟨k,m,q⟩:=a c (0+(i:Int)) 26 (by omega) (by omega) (by omega)
   generalize (0:Int)+(i:Int)=j at *;have e:=oj k m;rw[o];simp[q,e]) (by rw[dS];omega)
 rw[List.filter_eq_self.mpr (by simp)]at h
 have t:∀j:Int,0<=j->j<100000->97<=97+(μ c j 26).toNat/\97+(μ c j 26).toNat<=122:=λj u w=>by
  obtain⟨k,m,_⟩:=a c j 26 u w (by omega)
  omega
 refine⟨⟨#[97+(μ c (0+0) 26).toNat,97+(μ c (0+1) 26).toNat,97+(μ c (0+2) 26).toNat,97+(μ c (0+3) 26).toNat,97+(μ c (0+4) 26).toNat,97+(μ c (0+5) 26).toNat,97+(μ c (0+6) 26).toNat,97+(μ c (0+7) 26).toNat]⟩,_,?_,?_,ag.app (l:=[.lst ((intsFrom 0 8).map λd=>match d with|.int j=>.str (ay (97+(μ c j 26).toNat))|_=>.non)])⟩
 .unfold Kt
  rw[gs (x:=.str "") (au:=Ω) rfl rfl]
  have y:ef (Ω++[.lst ((intsFrom 0 8).map λd=>match d with|.int j=>.str (ay (97+(μ c j 26).toNat))|_=>.non)]) 8 (.ref Ω.length)=some (.lst [.str (ay (97+(μ c (0+0) 26).toNat)),.str (ay (97+(μ c (0+1) 26).toNat)),.str (ay (97+(μ c (0+2) 26).toNat)),.str (ay (97+(μ c (0+3) 26).toNat)),.str (ay (97+(μ c (0+4) 26).toNat)),.str (ay (97+(μ c (0+5) 26).toNat)),.str (ay (97+(μ c (0+6) 26).toNat)),.str (ay (97+(μ c (0+7) 26).toNat))]):=
   jW aq rfl
  unfold Rg;rw[aV,h];simp only[av,b_,pO,iQ,gF,y,iP,Es,Bg]
 .refine⟨rfl,λx n=>?_⟩
  simp only[List.mem_cons,List.not_mem_nil,or_false]at n;rcases n with rfl|rfl|rfl|rfl|rfl|rfl|rfl|rfl<;>exact t _ (by omega) (by omega)
noncomputable def iY(S:Str)(i:Nat):Str:=⟨(S.cps.toList.take (i+1)).toArray⟩
theorem HS(h:sD S){i:Nat}(b:i<8):oG (iY S i):=by
 have c:(iY S i).length=i+1:=by
  show(S.cps.toList.take (i+1)).toArray.size=_
  have:=h.1;rw[List.size_toArray,List.length_take];omega
 refine⟨by omega,by omega,λx a=>h.2 x (List.mem_of_mem_take (i:=i+1) ?_)⟩
 have:(iY S i).cps.toList=S.cps.toList.take (i+1):=rfl;rwa[this]at a
theorem Eu(h:sD S)(i:m<=8):((List.range m).map (iY S)).Nodup:=by
 refine List.pairwise_map.mpr (List.Pairwise.imp_of_mem (λ{a b} d e c f=>c ?_) (List.nodup_range (n:=m)))
 have j:=List.mem_range.mp d;have k:=List.mem_range.mp e;have l:=h.1;have g:=congrArg (λz:Str=>z.cps.toList.length) f
 simp only[iY,List.length_take]at g;omega
def MA:EM:=(cJ (dZ (aa 1) true (ah .non) false (m2 (bf .Add) (aa 0) (ah (.int 1)))) true (ah .non) (dH (ab (aa 1) af)) 0 [3])
theorem Ew(h:sD S)(r:m<=13)(k:eI [3] ρ=[oS S])(l:ρ[1]?=some (oI m)):MA ρ Ω=.ok (.ref Ω.length) (Ω++[.lst (((List.range m).map (iY S)).map .str)]):=by
 have a:i_ (m:Int)=true:=eO (by omega) (by omega)
 have n:S.length=8:=by simpa[Str.length]using h.1
 have b:small S.length=true:=aA (by omega)
 have c:=dg (Ω:=Ω) (au:=Ω) (ρ:=ρ) (me:=dZ (aa 1) true (ah .non) false (m2 (bf .Add) (aa 0) (ah (.int 1)))) (nc:=true) (mc:=ah .non) (mi:=dH (ab (aa 1) af)) (cap:=[3]) (src:=.ints 0 m) (ds:=intsFrom 0 m) (p:=λ_=>true)
  (g:=λd=>match d with|.int j=>.str ⟨(df S.cps.toList none (some (j+1))).toArray⟩|_=>.non) (by simp[a,l]) rfl (λd f=>rfl) (λd f _=>by
   obtain⟨i,o⟩:=List.mem_iff_getElem?.mp f;obtain⟨rfl,q⟩:=fD o;generalize (0:Int)+(i:Int)=j;rw[k];simp[b]) (by rw[dS];omega)
 rw[List.filter_eq_self.mpr (by simp),mR,List.map_map]at c
 have e:((List.range m).map ((λd:D=>match d with|.int j=>D.str ⟨(df S.cps.toList none (some (j+1))).toArray⟩|_=>.non) ∘ λ(i:Nat)=>D.int i))=((List.range m).map (iY S)).map .str:=by
  rw[List.map_map];refine List.map_congr_left λi _=>?_
  show D.str ⟨(df S.cps.toList none (some ((i:Int)+1))).toArray⟩=.str (iY S i)
  rw[show(i:Int)+1=((i+1:Nat):Int)by omega,r_]
  rfl
 rw[e]at c;exact c
def sgn(f st:Int)(i:Nat):Nat:=97+((f+st*(i:Int))%26).toNat
def MB:EM:=(cJ (m2 aF (aa 2) (m2 (bf .Mod) (m2 (bf .Add) (aa 1) (m2 (bf .Mult) (aa 3) (aa 0))) (ah (.int 26)))) true (ah .non) (dH (ab (aa 1) af)) 0 [9,2,10])
theorem Ey{f st:Int}(k:1<=st)(u:st<26)(w:m<=13)(l:eI [9,2,10] ρ=[oI f,oS abc,oI st])(n:ρ[1]?=some (oI m)):MB ρ Ω=.ok (.ref Ω.length) (Ω++[.lst (((List.range m).map λi=>ay (sgn f st i)).map .str)]):=by
 have a:i_ (m:Int)=true:=eO (by omega) (by omega)
 have o:jF st=true:=iN (by omega) (by omega)
 have b:=dg (Ω:=Ω) (au:=Ω) (ρ:=ρ) (me:=m2 aF (aa 2) (m2 (bf .Mod) (m2 (bf .Add) (aa 1) (m2 (bf .Mult) (aa 3) (aa 0))) (ah (.int 26)))) (nc:=true) (mc:=ah .non) (mi:=dH (ab (aa 1) af)) (cap:=[9,2,10]) (src:=.ints 0 m) (ds:=intsFrom 0 m) (p:=λ_=>true)
  (g:=λd=>match d with|.int j=>.str (ay (97+((f+st*j)%26).toNat))|_=>.non) (by simp[a,n]) rfl (λd h=>rfl) (λd h _=>by
   obtain⟨i,r⟩:=List.mem_iff_getElem?.mp h;obtain⟨rfl,s⟩:=fD r;generalize x:(0:Int)+(i:Int)=j;have t:jF j=true:=iN (by omega) (by omega)
   have c:=oj (q:=(f+st*j)%26) (by omega) (by omega)
   rw[l];simp[o,t,c]) (by rw[dS];omega)
 rw[List.filter_eq_self.mpr (by simp),mR,List.map_map]at b
 have e:((List.range m).map ((λd:D=>match d with|.int j=>D.str (ay (97+((f+st*j)%26).toNat))|_=>.non) ∘ λ(i:Nat)=>D.int i))=((List.range m).map λi=>ay (sgn f st i)).map .str:=by
  rw[List.map_map];exact List.map_congr_left λi _=>rfl
 rw[e]at b;exact b
noncomputable def sE(S:Str)(a pl:Nat)(z:Str):Str:=((⟨(S.cps.toList.take pl).toArray⟩:Str)++z)++(⟨((S.cps.toList.drop (pl+1)).take (a - (pl+1))).toArray⟩:Str)
theorem sF{a pl:Nat}{c:Nat}:(sE S a pl (ay c)).cps.toList=(S.cps.toList.take pl++[c])++(S.cps.toList.drop (pl+1)).take (a - (pl+1)):=by
 unfold sE;rw[Str.cps_append,Str.cps_append];simp[ay]
theorem MC(h:sD S){a pl:Nat}{c:Nat}(hz:a<=8)(d:pl<a)(b:97<=c/\c<=122):oG (sE S a pl (ay c)):=by
 have e:=h.1
 have f:(sE S a pl (ay c)).length=a:=by
  have:(sE S a pl (ay c)).length=(sE S a pl (ay c)).cps.toList.length:=by simp[Str.length]
  rw[this,sF];simp only[List.length_append,List.length_take,List.length_drop,List.length_singleton];omega
 refine⟨by omega,by omega,λx hx=>?_⟩
 rw[sF]at hx;simp only[List.mem_append,List.mem_singleton]at hx;rcases hx with (hx|rfl)|hx
 .exact h.2 x (List.mem_of_mem_take hx)
 .exact b
 .exact h.2 x (List.mem_of_mem_drop (List.mem_of_mem_take hx))
theorem HU(h:sD S){e pl:Nat}{f st:Int}(r:m<=13)(g:st=1\/st=3\/st=5\/st=7):((List.range m).map λi=>sE S e pl (ay (sgn f st i))).Nodup:=by
 refine List.pairwise_map.mpr (List.Pairwise.imp_of_mem (λ{a b} j k c l=>c ?_) (List.nodup_range (n:=m)))
 have s:=List.mem_range.mp j;have t:=List.mem_range.mp k;have d:=congrArg (λz:Str=>z.cps.toList) l
 simp only[sF]at d;have o:=List.append_cancel_right d;have p:=List.append_cancel_left o;have q:sgn f st a=sgn f st b:=by simpa using p
 unfold sgn at q;rcases g with rfl|rfl|rfl|rfl<;>omega
def Rh:EM:=(cJ (m2 (bf .Add) (m2 (bf .Add) (dZ (aa 3) true (ah .non) false (aa 2)) (aa 0)) (dZ (aa 3) false (m2 (bf .Add) (aa 2) (ah (.int 1))) false (aa 1))) true (ah .non) (bG (aa 11)) 0 [7,8,3])
theorem Ez(h:sD S){a pl q:Nat}{b:List Nat}(hz:a<=8)(y:pl<a)(n:Ω[q]?=some (.lst ((b.map ay).map .str)))(A:b.length<=1000)(r:eI [7,8,3] ρ=[oI a,oI pl,oS S])(s:ρ[11]?=some (oR q)):Rh ρ Ω=.ok (.ref Ω.length) (Ω++[.lst ((b.map λc=>sE S a pl (ay c)).map .str)]):=by
 have t:S.length=8:=by simpa[Str.length]using h.1
 have f:small S.length=true:=aA (by omega)
 have B:=h.1
 have j:=dg (Ω:=Ω) (au:=Ω) (ρ:=ρ) (me:=m2 (bf .Add) (m2 (bf .Add) (dZ (aa 3) true (ah .non) false (aa 2)) (aa 0)) (dZ (aa 3) false (m2 (bf .Add) (aa 2) (ah (.int 1))) false (aa 1))) (nc:=true) (mc:=ah .non) (mi:=bG (aa 11)) (cap:=[7,8,3]) (src:=.seq (.ref q)) (ds:=(b.map ay).map .str) (p:=λ_=>true)
  (g:=λd=>match d with|.str z=>.str (sE S a pl z)|_=>.non) (by
   rw[bT,fF,s,fE,av];exact bF (by rw[aP,aB n])) (by rw[cP,aP,aB n]) (λd o=>rfl) (λd o _=>by
   obtain⟨z,k,rfl⟩:=List.mem_map.mp o;obtain⟨c,_,rfl⟩:=List.mem_map.mp k;have u:df S.cps.toList none (some (pl:Int))=S.cps.toList.take pl:=r_ _ _
   have x:df S.cps.toList (some ((pl:Int)+1)) (some (a:Int))=(S.cps.toList.drop (pl+1)).take (a - (pl+1)):=by
    rw[show(pl:Int)+1=((pl+1:Nat):Int)by omega,yf]
   have one:(ay c).length=1:=rfl
   have C:(⟨(S.cps.toList.take pl).toArray⟩:Str).length<=8:=by
    show(S.cps.toList.take pl).toArray.size<=8
    rw[List.size_toArray,List.length_take];omega
   have E:(⟨((S.cps.toList.drop (pl+1)).take (a - (pl+1))).toArray⟩:Str).length<=8:=by
    show((S.cps.toList.drop (pl+1)).take (a - (pl+1))).toArray.size<=8
    rw[List.size_toArray,List.length_take];omega
   have l:small ((⟨(S.cps.toList.take pl).toArray⟩:Str).length+(ay c).length)=true:=aA (by omega)
   have m:small (((⟨(S.cps.toList.take pl).toArray⟩:Str)++ay c).length+(⟨((S.cps.toList.drop (pl+1)).take (a - (pl+1))).toArray⟩:Str).length)=true:=aA (by rw[Str.length_append];omega)
   generalize F:ay c=w at *;rw[r];simp[f,u,x,l,m,sE]) (by simp;omega)
 rw[List.filter_eq_self.mpr (by simp),List.map_map,List.map_map]at j
 have e:(b.map (((λd:D=>match d with|.str z=>D.str (sE S a pl z)|_=>.non) ∘ D.str) ∘ ay))=(b.map λc=>sE S a pl (ay c)).map .str:=by
  rw[List.map_map];exact List.map_congr_left λi _=>rfl
 rw[e]at j;exact j
def MD:SM:=(aj (aJ 3 (m2 (bf .Add) (aa 3) (mN bB (ab (m2 (bf .Add) (m2 aF (aa 3) (aa 4)) (aa 0)) (ab (m2 (bf .Add) (m2 aF (aa 3) (aa 4)) (aa 1)) af)))))
 ai)
def EA:SM:=
 (aj (aJ 3 (mN bB (ab (aa 0) (ab (aa 1) af))))
 (aj (eE (du 4) (dH (ab (aa 2) af)) MD)
 (aj (bP (dZ (aa 3) true (ah .non) false (aa 2)))
 ai)))
structure HV(a b:Str)(i:Nat)(xs:List Str):Prop where
 len:xs.length=2+2*i
 two:xs.take 2=[a,b]
 bd:∀(j:Nat) (z:Str),xs[j]?=some z->1<=z.length/\z.length<=j / 2+1/\∀c∈z.cps.toList,97<=c/\c<=122
theorem add_str{z a:Str}(h:z.length+a.length<=1000):bf .Add (.str z) (.str a) Ω=.ok (.str (z++a)) Ω:=by
 have:small (z.length+a.length)=true:=aA (by omega)
 simp[this]
theorem HV.step{x y i:Nat}{xs:List Str}{z:Str}(e:97<=x/\x<=122)(f:97<=y/\y<=122)(h:HV (ay x) (ay y) i xs)(hz:xs[i]?=some z):HV (ay x) (ay y) (i+1) (xs++[z++ay x,z++ay y]):=by
 have g:=h.bd i z hz;have l:=h.len
 have b:∀(u:Nat),97<=u/\u<=122->1<=(z++ay u).length/\(z++ay u).length<=i / 2+2/\∀c∈(z++ay u).cps.toList,97<=c/\c<=122:=by
  intro u m;have n:(z++ay u).length=z.length+1:=by rw[Str.length_append];rfl
  refine⟨by omega,by omega,λc hc=>?_⟩
  rw[Str.cps_append]at hc;simp only[ay,Array.toList_append,List.mem_append]at hc;rcases hc with hc|hc
  .exact g.2.2 c hc
  .simp at hc
   omega
 refine⟨by simp;omega,by rw[List.take_append_of_le_length (by omega)];exact h.two,λj w a=>?_⟩
 by_cases d:j<xs.length
 .rw[List.getElem?_append_left d]at a
  exact h.bd j w a
 .rw[List.getElem?_append_right (by omega)]at a
  obtain⟨q,k⟩:∃q,j - xs.length=q:=⟨_,rfl⟩;rw[k]at a
  match q,a with
  |0,a=>cases a;have:=b x e;exact⟨this.1,by omega,this.2.2⟩
  |1,a=>cases a;have:=b y f;exact⟨this.1,by omega,this.2.2⟩
def Cr(d:aR):Prop:=∀(c:aD) (x y m:Nat),97<=x/\x<=122->97<=y/\y<=122->m<=13->∃(b:List Str) (q:Nat) (a:aD),d [.str (ay x),.str (ay y),.int m] c=.ok (.ref q) a/\a[q]?=some (.lst (b.map .str))/\b.length=m/\(∀z∈b,oG z)/\b.take 2=[ay x,ay y].take m/\ag [] c a
theorem EB:Cr (aK 5 3 EA):=by
 intro Ω x y m G H Z;rw[aT (by rfl)]
 have I:aL 5 [D.str (ay x),.str (ay y),.int m]=[oS (ay x),oS (ay y),oI m,none,none]:=rfl;rw[I];have J:(Ω++[Cell.lst [.str (ay x),.str (ay y)]])[Ω.length]?=some (.lst (([ay x,ay y]:List Str).map .str)):=aq;have L:ag [] Ω (Ω++[Cell.lst [.str (ay x),.str (ay y)]]):=ag.app;have M:(aJ 3 (mN bB (ab (aa 0) (ab (aa 1) af)))) [oS (ay x),oS (ay y),oI m,none,none] Ω=.nx [oS (ay x),oS (ay y),oI m,oR Ω.length,none] (Ω++[Cell.lst [.str (ay x),.str (ay y)]]):=by simp[aA]
 generalize Ω++[Cell.lst [.str (ay x),.str (ay y)]]=k at *
 have N:HV (ay x) (ay y) 0 [ay x,ay y]:=by
  refine⟨rfl,rfl,λj z e=>?_⟩
  have one:∀u,(ay u).length=1:=λu=>rfl
  match j,e with
  |0,e=>cases e;refine⟨by rw[one];omega,by rw[one];omega,λc o=>by simp[ay]at o;omega⟩
  |1,e=>cases e;refine⟨by rw[one];omega,by rw[one];omega,λc o=>by simp[ay]at o;omega⟩
 have w:i_ (m:Int)=true:=eO (by omega) (by omega)
 have A:dH (ab (aa 2) af) [oS (ay x),oS (ay y),oI m,oR Ω.length,none] k=.ok (.ints 0 m) k:=by simp[w]
 unfold EA;rw[ae,M,ax,ae,cY,A,cu];refine cf (R:=λr=>∃(xs:List Str) (q:Nat) (g:aD),h8 (sq r _)=.ok (.ref q) g/\g[q]?=some (.lst (xs.map .str))/\xs.length=m/\(∀z∈xs,oG z)/\xs.take 2=[ay x,ay y].take m/\ag [] Ω g) (ds:=intsFrom 0 m) (λi s b=>∃(q:Nat) (xs:List Str) (B:Option D),s=[oS (ay x),oS (ay y),oI m,oR q,B]/\b[q]?=some (.lst (xs.map .str))/\HV (ay x) (ay y) i xs/\ag [] Ω b) ?_ ?_ ?_ fuel 0 _ _ (by rw[dS];unfold fuel;omega) (Nat.zero_le _) ⟨_,_,none,rfl,J,N,L⟩
 .rintro i s b _
  rfl
 .rintro i d s b O ⟨q,xs,B,rfl,t,f,K⟩
  obtain⟨rfl,P⟩:=fD O;refine⟨[oS (ay x),oS (ay y),oI m,oR q,oI (0+(i:Int))],rfl,?_⟩;rw[Int.zero_add];have Q:=f.len;obtain⟨z,p⟩:∃z,xs[i]?=some z:=⟨xs[i],List.getElem?_eq_getElem (by omega)⟩
  have C:=f.bd i z p;have E:=bx t (L2.dw (xs:=xs.map D.str) (j:=i) (v:=.str z) (by simp[p]))
  have one:∀u,(ay u).length=1:=λu=>rfl
  have S:=add_str (Ω:=b) (z:=z) (a:=ay x) (by rw[one];omega)
  have T:=add_str (Ω:=b) (z:=z) (a:=ay y) (by rw[one];omega)
  have U:(mN bB (ab (m2 (bf .Add) (m2 aF (aa 3) (aa 4)) (aa 0)) (ab (m2 (bf .Add) (m2 aF (aa 3) (aa 4)) (aa 1)) af))) [oS (ay x),oS (ay y),oI m,oR q,oI i] b=.ok (.ref b.length) (b++[.lst [.str (z++ay x),.str (z++ay y)]]):=by
   simp[E,S,T,-iR,aA]
  have V:(b++[Cell.lst [.str (z++ay x),.str (z++ay y)]])[b.length]?=some (.lst [.str (z++ay x),.str (z++ay y)]):=aq;have F:=cg (l:=[Cell.lst [.str (z++ay x),.str (z++ay y)]]) t;have X:ag [] b (b++[Cell.lst [.str (z++ay x),.str (z++ay y)]]):=ag.app;generalize b++[Cell.lst [.str (z++ay x),.str (z++ay y)]]=h at *;have o:=j8 F V (by simp;omega)
  have Y:MD [oS (ay x),oS (ay y),oI m,oR q,oI i] b=.nx [oS (ay x),oS (ay y),oI m,oR h.length,oI i] (h++[.lst (xs.map .str++[.str (z++ay x),.str (z++ay y)])]):=by
   unfold MD;rw[ae,br,cN];have:aa 3 [oS (ay x),oS (ay y),oI m,oR q,oI i] b=.ok (.ref q) b:=rfl;rw[this,av,U,av,o];rfl
  rw[Y];refine⟨h.length,xs++[z++ay x,z++ay y],_,rfl,?_,f.step G H p,(K.trans X).trans ag.app⟩;rw[List.map_append];exact aq
 .rintro s b ⟨q,xs,B,rfl,t,f,K⟩
  rw[dS]at f;have A:=oD (n:=m) t;have Q:=f.len;refine⟨xs.take m,b.length,b++[.lst ((xs.take m).map .str)],?_,aq,by rw[List.length_take];omega,λz p=>?_,by rw[List.take_take,Nat.min_comm,←List.take_take,f.two],K.trans ag.app⟩
  .rw[ax,ae,cX]
   simp only[iU,oz,oA]
   show h8 (sq (cq (jH (.ref q) none (some (m:Int)) b) _) _)=_
   rw[A];rfl
  .obtain⟨j,e⟩:=List.mem_iff_getElem?.mp p
   rw[List.getElem?_take]at e;split at e
   .have C:=f.bd j z e
    exact⟨C.1,by omega,C.2.2⟩
   .cases e
theorem BG:∀c,97<=c->c<=122->Builtin.Str.occurrences abc (ay c) 0 abc.length 1=[c - 97]:=by
 have h:∀q,q<26->Builtin.Str.occurrences abc (ay (97+q)) 0 abc.length 1=[q]:=by decide +kernel
 intro c a b;have:=h (c - 97) (by omega)
 rwa[show 97+(c - 97)=c by omega]at this
def E9(F:List D->Out Rs):SM:=(dR (gh (m2 (aG .LtE) (aa 1) (ah (.int 8))) (m2 (aG .Eq) (mN (cz F) (ab (aa 0) (ab (ah (.int 9)) (ab (ah (.int 4)) af)))) (ah (.int 1))))
 (aj (aJ 5 MA)
 (aj (bP (BF 5 4))
 ai))
 ai)
def Ku(F:List D->Out Rs):EM:=(m2 aF (aa 2) (m2 (bf .Mod) (m2 (bf .Add) (m2 (bf .Add) (f_ (cE jI eD (aa 2) (ab (m2 aF (aa 3) (ah (.int 0))) af)) (cE nU gX (aa 2) (ab (m2 aF (aa 3) (ah (.int 0))) af))) (ah (.int 1))) (mN (cz F) (ab (aa 0) (ab (ah (.int 10)) (ab (ah (.int 25)) af))))) (ah (.int 26))))
def Kv(F:List D->Out Rs)(a:aR):SM:=(dR (m2 (aG .Eq) (mN (cz F) (ab (aa 0) (ab (ah (.int 9)) (ab (ah (.int 4)) af)))) (ah (.int 2)))
 (aj (aJ 6 (Ku F))
 (aj (aJ 5 (mN (bj a) (ab (m2 aF (aa 3) (ah (.int 0))) (ab (aa 6) (ab (aa 1) af)))))
 (aj (bP (BF 5 4))
 ai)))
 ai)
def ME(F:List D->Out Rs)(a:aR):SM:=
 (aj (aJ 2 (ah (.str "abcdefghijklmnopqrstuvwxyz")))
 (aj (aJ 3 (Kt F))
 (aj (aJ 4 (mN (cz F) (ab (aa 0) (ab (ah (.int 8)) (ab (aa 1) af)))))
 (aj (E9 F)
 (aj (Kv F a)
 (aj (aJ 7 (m2 (bf .Add) (ah (.int 1)) (mN (cz F) (ab (aa 0) (ab (ah (.int 10)) (ab (ah (.int 8)) af))))))
 (aj (aJ 8 (mN (cz F) (ab (aa 0) (ab (ah (.int 11)) (ab (aa 7) af)))))
 (aj (aJ 9 (mN (cz F) (ab (aa 0) (ab (ah (.int 12)) (ab (ah (.int 26)) af)))))
 (aj (aJ 10 (m2 aF (mN bB (ab (ah (.int 1)) (ab (ah (.int 3)) (ab (ah (.int 5)) (ab (ah (.int 7)) af))))) (mN (cz F) (ab (aa 0) (ab (ah (.int 13)) (ab (ah (.int 4)) af))))))
 (aj (aJ 11 MB)
 (aj (bP Rh)
 ai)))))))))))
def EC(N:aR):Prop:=∀(d:aD) (c:Int) (m:Nat),1<=m->m<=13->∃(b:List Str) (q:Nat) (a:aD),(m<=2->b.Nodup)/\(∀x∈b,oG x)/\b.length=m/\N [.int c,.int m] d=.ok (.ref q) a/\a[q]?=some (.lst (b.map .str))/\ag [] d a
theorem HW(l:iO μ F){U:aR}(hS:Cr U):EC (aK 12 2 (ME F U)):=by
 intro Ω c m o0 V;rw[aT (by rfl)]
 have e0:aL 12 [D.int c,.int m]=[oI c,oI m,none,none,none,none,none,none,none,none,none,none]:=rfl;rw[e0];obtain⟨t0,t1,ht⟩:=l c 8 (m:Int) (by omega) (by omega) (by omega)
 obtain⟨w0,w1,I⟩:=l c 9 4 (by omega) (by omega) (by omega)
 obtain⟨z0,z1,hz⟩:=l c 10 8 (by omega) (by omega) (by omega)
 obtain⟨y0,y1,Z⟩:=l c 10 25 (by omega) (by omega) (by omega)
 generalize μ c 8 (m:Int)=t at *;generalize μ c 9 4=w at *;generalize μ c 10 8=z at *;generalize μ c 10 25=y at *;obtain⟨p0,p1,hp⟩:=l c 11 (1+z) (by omega) (by omega) (by omega)
 obtain⟨f0,f1,hf⟩:=l c 12 26 (by omega) (by omega) (by omega)
 obtain⟨s0,s1,hs⟩:=l c 13 4 (by omega) (by omega) (by omega)
 generalize μ c 11 (1+z)=p at *;generalize μ c 12 26=f at *;generalize μ c 13 4=s at *;obtain⟨d,rfl⟩:∃d:Nat,(d:Int)=t:=⟨t.toNat,by omega⟩
 obtain⟨n,rfl⟩:∃n:Nat,(n:Int)=p:=⟨p.toNat,by omega⟩
 obtain⟨g,M⟩:∃g:Nat,(g:Int)=1+z:=⟨(1+z).toNat,by omega⟩
 rw[←M]at hp;obtain⟨S,b,e1,A,K1⟩:=Et (Ω:=Ω) (c:=c) l (ρ:=[oI c,oI m,oS abc,none,none,none,none,none,none,none,none,none]) rfl;have r1:(aJ 2 (ah (.str "abcdefghijklmnopqrstuvwxyz"))) [oI c,oI m,none,none,none,none,none,none,none,none,none,none] Ω=.nx [oI c,oI m,oS abc,none,none,none,none,none,none,none,none,none] Ω:=rfl
 have r2:(aJ 3 (Kt F)) [oI c,oI m,oS abc,none,none,none,none,none,none,none,none,none] Ω=.nx [oI c,oI m,oS abc,oS S,none,none,none,none,none,none,none,none] b:=by
  rw[br,e1];rfl
 have r3:(aJ 4 (mN (cz F) (ab (aa 0) (ab (ah (.int 8)) (ab (aa 1) af))))) [oI c,oI m,oS abc,oS S,none,none,none,none,none,none,none,none] b=.nx [oI c,oI m,oS abc,oS S,oI d,none,none,none,none,none,none,none] b:=by simp[ht]
 unfold ME;rw[ae,r1,ax,ae,r2,ax,ae,r3,ax,ae]
 by_cases hc:m<=8/\w=1
 .obtain⟨a0,rfl⟩:=hc
  have e2:=Ew (Ω:=b) A V (ρ:=[oI c,oI m,oS abc,oS S,oI d,none,none,none,none,none,none,none]) rfl rfl;have N:(b++[Cell.lst (((List.range m).map (iY S)).map .str)])[b.length]?=some (.lst (((List.range m).map (iY S)).map .str)):=aq;have O:ag [] b (b++[Cell.lst (((List.range m).map (iY S)).map .str)]):=ag.app
  have hv:∀x∈(List.range m).map (iY S),oG x:=λx B=>by
   obtain⟨i,hi,rfl⟩:=List.mem_map.mp B;exact HS A (by have:=List.mem_range.mp hi;omega)
  have hn:=Eu (m:=m) A a0;have P:((List.range m).map (iY S)).length=m:=by simp
  generalize (List.range m).map (iY S)=X at *;generalize b++[Cell.lst (X.map .str)]=e at *;obtain⟨k,r,J,Q,R,_⟩:=yO (ρ:=[oI c,oI m,oS abc,oS S,oI d,oR b.length,none,none,none,none,none,none]) (i:=5) (j:=4) rfl rfl N (by omega)
  have C:=qD (t:=d) X;refine⟨X.drop d++X.take d,k,r,λ_=>C.nodup_iff.mpr hn,λx B=>hv x (C.mem_iff.mp B),by rw[C.length_eq];exact P,?_,Q,(K1.trans O).trans R⟩
  have u:((m:Int)<=8):=by omega
  have rt:(gh (m2 (aG .LtE) (aa 1) (ah (.int 8))) (m2 (aG .Eq) (mN (cz F) (ab (aa 0) (ab (ah (.int 9)) (ab (ah (.int 4)) af)))) (ah (.int 1)))) [oI c,oI m,oS abc,oS S,oI d,none,none,none,none,none,none,none] b=.ok (.bl true) b:=by
   simp[I,u]
  have ra:aJ 5 MA [oI c,oI m,oS abc,oS S,oI d,none,none,none,none,none,none,none] b=.nx [oI c,oI m,oS abc,oS S,oI d,oR b.length,none,none,none,none,none,none] e:=by
   rw[br,e2];rfl
  unfold E9;rw[cR,rt,cC,cw,cO,cu,if_pos rfl,ae,ra,ax,ae,cX,J];rfl
 .have r4:E9 F [oI c,oI m,oS abc,oS S,oI d,none,none,none,none,none,none,none] b=.nx [oI c,oI m,oS abc,oS S,oI d,none,none,none,none,none,none,none] b:=by
   by_cases K:w=1
   .have u:¬ ((m:Int)<=8):=λh=>hc ⟨by omega,K⟩
    simp[E9,I,u]
   .by_cases u:(m:Int)<=8
    .simp[E9,I,u,K]
    .simp[E9,I,u]
  rw[r4,ax,ae]
  by_cases L:w=2
  .subst L
   obtain⟨a,ha⟩:∃a,S.cps.toList[0]?=some a:=⟨S.cps.toList[0]'(by have:=A.1;omega),List.getElem?_eq_getElem _⟩
   have E:=A.2 a (List.mem_of_getElem? ha);have q0:S.length=8:=by simpa[Str.length]using A.1
   have T:∀o:aD,aF (.str S) (.int 0) o=.ok (.str (ay a)) o:=λo=>by
    have:=tX (z:=S) (i:=0) (aA (by omega)) (L2.dw (j:=0) ha)
    unfold aF;rw[dD,dD,gG,iQ,gF,t8,iP,this];rfl
   have b0:=BG a E.1 E.2
   have c0:∀o:aD,gX (.str abc) [.str (ay a)] o=.ok (.int ((a - 97:Nat):Int)) o:=λo=>by
    simp only[gX,b0]
   have hq:=oj (q:=(((a - 97:Nat):Int)+1+y)%26) (by omega) (by omega)
   have ro:Ku F [oI c,oI m,oS abc,oS S,oI d,none,none,none,none,none,none,none] b=.ok (.str (ay (97+((((a - 97:Nat):Int)+1+y)%26).toNat))) b:=by
    have K:(f_ (cE jI eD (aa 2) (ab (m2 aF (aa 3) (ah (.int 0))) af)) (cE nU gX (aa 2) (ab (m2 aF (aa 3) (ah (.int 0))) af))) [oI c,oI m,oS abc,oS S,oI d,none,none,none,none,none,none,none] b=.ok (.int ((a - 97:Nat):Int)) b:=by
     rw[ou];have:(cE jI eD (aa 2) (ab (m2 aF (aa 3) (ah (.int 0))) af)) [oI c,oI m,oS abc,oS S,oI d,none,none,none,none,none,none,none] b=.bad:=rfl;rw[this,om,gs (x:=.str abc) (au:=b) rfl rfl,aV,cN];have:aa 3 [oI c,oI m,oS abc,oS S,oI d,none,none,none,none,none,none,none] b=.ok (.str S) b:=rfl;rw[this,av,fG,av,T,av,b_,av,av,c0]
    unfold Ku;have g0:aa 2 [oI c,oI m,oS abc,oS S,oI d,none,none,none,none,none,none,none] b=.ok (.str abc) b:=rfl;rw[cN,g0,av,cN,cN,cN,K];simp[Z,hq]
   obtain⟨Y,q,e,e2,N,P,hv,L,O⟩:=hS b a (97+((((a - 97:Nat):Int)+1+y)%26).toNat) m E (by omega) V
   obtain⟨k,r,J,Q,R,_⟩:=yO (ρ:=[oI c,oI m,oS abc,oS S,oI d,oR q,oS (ay (97+((((a - 97:Nat):Int)+1+y)%26).toNat)),none,none,none,none,none]) (i:=5) (j:=4) rfl rfl N (by omega)
   have C:=qD (t:=d) Y;refine⟨Y.drop d++Y.take d,k,r,λr0=>C.nodup_iff.mpr ?_,λx B=>hv x (C.mem_iff.mp B),by rw[C.length_eq];exact P,?_,Q,(K1.trans O).trans R⟩
   .have h3:Y=[ay a,ay (97+((((a - 97:Nat):Int)+1+y)%26).toNat)].take m:=by
     rw[←L,List.take_of_length_le (by omega)]
    rw[h3];refine List.Nodup.sublist (List.take_sublist _ _) ?_;have h0:a≠97+((((a - 97:Nat):Int)+1+y)%26).toNat:=by omega
    have:ay a≠ay (97+((((a - 97:Nat):Int)+1+y)%26).toNat):=λz=>h0 (by
     have:=congrArg (λz:Str=>z.cps.toList) z
     simpa[ay]using this)
    simp[this]
   .have rt:(m2 (aG .Eq) (mN (cz F) (ab (aa 0) (ab (ah (.int 9)) (ab (ah (.int 4)) af)))) (ah (.int 2))) [oI c,oI m,oS abc,oS S,oI d,none,none,none,none,none,none,none] b=.ok (.bl true) b:=by
     simp[I]
    have ra:aJ 6 (Ku F) [oI c,oI m,oS abc,oS S,oI d,none,none,none,none,none,none,none] b=.nx [oI c,oI m,oS abc,oS S,oI d,none,oS (ay (97+((((a - 97:Nat):Int)+1+y)%26).toNat)),none,none,none,none,none] b:=by
     rw[br,ro];rfl
    have rb:(aJ 5 (mN (bj U) (ab (m2 aF (aa 3) (ah (.int 0))) (ab (aa 6) (ab (aa 1) af))))) [oI c,oI m,oS abc,oS S,oI d,none,oS (ay (97+((((a - 97:Nat):Int)+1+y)%26).toNat)),none,none,none,none,none] b=.nx [oI c,oI m,oS abc,oS S,oI d,oR q,oS (ay (97+((((a - 97:Nat):Int)+1+y)%26).toNat)),none,none,none,none,none] e:=by
     simp[T,e2]
    unfold Kv;rw[cR,rt,cC,cw,cO,cu,if_pos rfl,ae,ra,ax,ae,rb,ax,ae,cX,J];rfl
  .have i0:Kv F U [oI c,oI m,oS abc,oS S,oI d,none,none,none,none,none,none,none] b=.nx [oI c,oI m,oS abc,oS S,oI d,none,none,none,none,none,none,none] b:=by
    simp[Kv,I,L]
   have r5:(aJ 7 (m2 (bf .Add) (ah (.int 1)) (mN (cz F) (ab (aa 0) (ab (ah (.int 10)) (ab (ah (.int 8)) af)))))) [oI c,oI m,oS abc,oS S,oI d,none,none,none,none,none,none,none] b=.nx [oI c,oI m,oS abc,oS S,oI d,none,none,oI g,none,none,none,none] b:=by
    rw[M];simp[hz]
   have r6:(aJ 8 (mN (cz F) (ab (aa 0) (ab (ah (.int 11)) (ab (aa 7) af))))) [oI c,oI m,oS abc,oS S,oI d,none,none,oI g,none,none,none,none] b=.nx [oI c,oI m,oS abc,oS S,oI d,none,none,oI g,oI n,none,none,none] b:=by simp[hp]
   have r7:(aJ 9 (mN (cz F) (ab (aa 0) (ab (ah (.int 12)) (ab (ah (.int 26)) af))))) [oI c,oI m,oS abc,oS S,oI d,none,none,oI g,oI n,none,none,none] b=.nx [oI c,oI m,oS abc,oS S,oI d,none,none,oI g,oI n,oI f,none,none] b:=by simp[hf]
   have O:ag [] b (b++[Cell.lst [.int 1,.int 3,.int 5,.int 7]]):=ag.app;have N:(b++[Cell.lst [.int 1,.int 3,.int 5,.int 7]])[b.length]?=some (.lst [.int 1,.int 3,.int 5,.int 7]):=aq
   have G:∃st:Int,(st=1\/st=3\/st=5\/st=7)/\L2.jC [D.int 1,.int 3,.int 5,.int 7] s=oI st:=by
    have:s=0\/s=1\/s=2\/s=3:=by omega
    rcases this with rfl|rfl|rfl|rfl
    .exact⟨1,.inl rfl,rfl⟩
    .exact⟨3,.inr (.inl rfl),rfl⟩
    .exact⟨5,.inr (.inr (.inl rfl)),rfl⟩
    .exact⟨7,.inr (.inr (.inr rfl)),rfl⟩
   obtain⟨st,G,j0⟩:=G;have k0:=bx N j0
   have r8:(aJ 10 (m2 aF (mN bB (ab (ah (.int 1)) (ab (ah (.int 3)) (ab (ah (.int 5)) (ab (ah (.int 7)) af))))) (mN (cz F) (ab (aa 0) (ab (ah (.int 13)) (ab (ah (.int 4)) af)))))) [oI c,oI m,oS abc,oS S,oI d,none,none,oI g,oI n,oI f,none,none] b=.nx [oI c,oI m,oS abc,oS S,oI d,none,none,oI g,oI n,oI f,oI st,none] (b++[Cell.lst [.int 1,.int 3,.int 5,.int 7]]):=by
    have K:(mN bB (ab (ah (.int 1)) (ab (ah (.int 3)) (ab (ah (.int 5)) (ab (ah (.int 7)) af))))) [oI c,oI m,oS abc,oS S,oI d,none,none,oI g,oI n,oI f,none,none] b=.ok (.ref b.length) (b++[Cell.lst [.int 1,.int 3,.int 5,.int 7]]):=by
     show bB [.int 1,.int 3,.int 5,.int 7] b=_
     rw[ow,if_pos (aA (by simp))]
    have L:(mN (cz F) (ab (aa 0) (ab (ah (.int 13)) (ab (ah (.int 4)) af)))) [oI c,oI m,oS abc,oS S,oI d,none,none,oI g,oI n,oI f,none,none] (b++[Cell.lst [.int 1,.int 3,.int 5,.int 7]])=.ok (.int s) (b++[Cell.lst [.int 1,.int 3,.int 5,.int 7]]):=by
     generalize b++[Cell.lst [.int 1,.int 3,.int 5,.int 7]]=o;simp[hs]
    rw[br,cN,K,av,L,av,k0];rfl
   generalize b++[Cell.lst [.int 1,.int 3,.int 5,.int 7]]=e at *;have J:=Ey (Ω:=e) (f:=f) (st:=st) (by omega) (by omega) V (ρ:=[oI c,oI m,oS abc,oS S,oI d,none,none,oI g,oI n,oI f,oI st,none]) rfl rfl
   have em:(List.range m).map (λi=>ay (sgn f st i))=((List.range m).map (sgn f st)).map ay:=by rw[List.map_map];rfl
   rw[em]at J
   have l0:∀x∈(List.range m).map (sgn f st),97<=x/\x<=122:=λx B=>by
    obtain⟨i,_,rfl⟩:=List.mem_map.mp B;unfold sgn;omega
   have m0:(((List.range m).map (sgn f st)).map λx=>sE S g n (ay x)).Nodup:=by
    rw[List.map_map];exact HU A V G
   have P:((List.range m).map (sgn f st)).length=m:=by simp
   generalize (List.range m).map (sgn f st)=H at *;have Q:(e++[Cell.lst ((H.map ay).map .str)])[e.length]?=some (.lst ((H.map ay).map .str)):=aq;have R:ag [] e (e++[Cell.lst ((H.map ay).map .str)]):=ag.app
   have r9:aJ 11 MB [oI c,oI m,oS abc,oS S,oI d,none,none,oI g,oI n,oI f,oI st,none] e=.nx [oI c,oI m,oS abc,oS S,oI d,none,none,oI g,oI n,oI f,oI st,oR e.length] (e++[Cell.lst ((H.map ay).map .str)]):=by
    rw[br,J];rfl
   generalize e++[Cell.lst ((H.map ay).map .str)]=r at *;have e4:=Ez A (show g<=8 by omega) (show n<g by omega) Q (by omega) (ρ:=[oI c,oI m,oS abc,oS S,oI d,none,none,oI g,oI n,oI f,oI st,oR e.length]) rfl rfl
   refine⟨H.map λx=>sE S g n (ay x),r.length,r++[.lst ((H.map λx=>sE S g n (ay x)).map .str)],λ_=>m0,λx B=>?_,by simpa using P,?_,aq,((K1.trans O).trans R).trans ag.app⟩
   .obtain⟨y,Z,rfl⟩:=List.mem_map.mp B
    exact MC A (by omega) (by omega) (l0 y Z)
   .rw[i0,ax,ae,r5,ax,ae,r6,ax,ae,r7,ax,ae,r8,ax,ae,r9,ax,ae,cX,e4]
    rfl
end
section
noncomputable def j_(p:Str×Int):Cell:=.lst [.str p.1,.int p.2]
structure mW(Ω:aD)(R:Nat)(js:List Nat)(v:List (Str×Int)):Prop where
 ce:Ω[R]?=some (.lst (js.map .ref))
 al:az (λj p=>Ω[j]?=some (j_ p)) js v
variable{Ω au aQ:aD}{ρ:aX}{T t s r m d k c l i R:Nat}{L:List (List Str)}{kvs:List (Key×D)}{v:List (Str×Int)}{n w kd:Str}{fp js:List Nat}{x:Int}
theorem mW.keep(Q:mW Ω R js v)(K:ag fp Ω au)(h:R∉fp)(b:∀j∈js,j∉fp):mW au R js v:=by
 refine⟨K.get _ _ Q.ce h,?_⟩;have:=Q.al;clear Q
 revert b
 induction this with
 |nil=>exact λ_=>.nil
 |cons a _ c=>exact λb=>.cons (K.get _ _ a (b _ (by simp))) (c λj d=>b j (by simp[d]))
theorem mW.bD(Q:mW Ω R js v)(K:ag [] Ω au):mW au R js v:=Q.keep K (by simp) (by simp)
theorem mW.len(Q:mW Ω R js v):v.length=js.length:=az.length Q.al
theorem mW.at(Q:mW Ω R js v){a:Nat}{p:Str×Int}(h:v[a]?=some p):∃j,js[a]?=some j/\Ω[j]?=some (j_ p):=az.Dn (R:=λj p=>Ω[j]?=some (j_ p)) Q.al h
theorem mW.lt(Q:mW Ω R js v):∀j∈js,j<Ω.length:=λj b=>by
 obtain⟨a,c⟩:=List.mem_iff_getElem?.mp b;obtain⟨p,_,h⟩:=az.get (R:=λj p=>Ω[j]?=some (j_ p)) Q.al c
 exact bU h
theorem mW.ix(Q:mW Ω R js v){a:Nat}{p:Str×Int}(h:v[a]?=some p):∃j,aF (.ref R) (.int a) Ω=.ok (.ref j) Ω/\aF (.ref j) (.int 0) Ω=.ok (.str p.1) Ω/\aF (.ref j) (.int 1) Ω=.ok (.int p.2) Ω:=by
 obtain⟨j,c,b⟩:=Q.at h;exact⟨j,bx Q.ce (L2.dw (by simp[c])),bx b rfl,bx b rfl⟩
def Ct(mi:IM):EM:=(cJ (m2 aF (aa 0) (ah (.int 0))) true (ah .non) mi 0 [])
theorem Cu{mi:IM}(Q:mW Ω R js v)(f:mi ρ Ω=.ok (.seq (.ref R)) Ω)(n:v.length<=1000):Ct mi ρ Ω=.ok (.ref Ω.length) (Ω++[.lst ((bg v).map .str)]):=by
 have b:=dg (Ω:=Ω) (au:=Ω) (ρ:=ρ) (me:=m2 aF (aa 0) (ah (.int 0))) (nc:=true) (mc:=ah .non) (mi:=mi) (cap:=[]) (src:=.seq (.ref R)) (ds:=js.map .ref) (p:=λ_=>true)
  (g:=λd=>match d with|.ref j=>(match Ω[j]? with|some (.lst (y::_))=>y|_=>.non)|_=>.non) f (by rw[cP,aP,aB Q.ce]) (λd c=>rfl) (λd c _=>by
   obtain⟨j,i,rfl⟩:=List.mem_map.mp c;obtain⟨a,k⟩:=List.mem_iff_getElem?.mp i;obtain⟨p,_,h⟩:=az.get (R:=λj p=>Ω[j]?=some (j_ p)) Q.al k
   have l:aF (.ref j) (.int 0) Ω=.ok (.str p.1) Ω:=bx h rfl
   show aF (.ref j) (.int 0) Ω=_
   rw[l];simp only[h,j_]) (by have:=Q.len;simp;omega)
 rw[List.filter_eq_self.mpr (by simp),List.map_map]at b
 have e:∀{js:List Nat}{v:List (Str×Int)},az (λj p=>Ω[j]?=some (j_ p)) js v->js.map ((λd=>match d with|.ref j=>(match Ω[j]? with|some (.lst (y::_))=>y|_=>.non)|_=>.non) ∘ D.ref)=(bg v).map .str:=by
  intro js v h
  induction h with
  |nil=>rfl
  |cons a _ m=>
   rw[List.map_cons,m];simp only[Function.comp,a,j_,bg,List.map_cons]
 rw[e Q.al]at b;exact b
def yP:SM:=
 (aj (bP (gh (m1 (nT .int) (aa 0)) (fv (m1 (nT .bool) (aa 0)))))
 ai)
theorem HX:aK 1 1 yP [.int x] Ω=.ok (.bl true) Ω:=by
 rw[aT (by rfl)]
 rfl
def Ri(a b:aR):SM:=(aj (aJ 5 (aC "Things" "value_at" b (aa 0) (ab (aa 1) (ab (aa 4) af))))
 (aj (dR (ve (fv (mN (bj a) (ab (aa 5) af))) (ve (m2 (aG .NotEq) (aa 5) (m2 aF (m2 aF (aa 2) (aa 4)) (ah (.int 1)))) (m2 (aG .NotEq) (m2 aF (aa 3) (m2 aF (m2 aF (aa 2) (aa 4)) (ah (.int 0)))) (aa 5))))
 (aj (bP (ah (.bl false)))
 ai)
 ai)
 ai))
def y8(a b c:aR):SM:=
 (aj (aJ 3 (aC "Things" "own" a (aa 0) (ab (aa 1) af)))
 (aj (dR (m2 (aG .NotEq) (mN (bu .list) (ab (aa 3) af)) (Ct (bG (aa 2))))
 (aj (bP (ah (.bl false)))
 ai)
 ai)
 (aj (eE (du 4) (dH (ab (mN (bu .len) (ab (aa 2) af)) af)) (Ri b c))
 (aj (bP (ah (.bl true)))
 ai))))
theorem ux:∀{v:List (Str×Int)}{a:Nat}{p:Str×Int},(bg v).Nodup->v[a]?=some p->bC (gS v) (.inr p.1)=some (.int p.2)
 |q::v,0,p,d,h=>by
  cases h;rw[gS,List.map_cons,cF,if_pos rfl]
 |q::v,a+1,p,d,h=>by
  have h:v[a]?=some p:=h;have b:=List.nodup_cons.mp d;have c:q.1≠p.1:=λz=>b.1 (List.mem_map.mpr ⟨p,List.mem_of_getElem? h,z.symm⟩)
  rw[gS,List.map_cons,cF,if_neg (by simpa using c)]
  exact ux b.2 h
theorem yQ{a b:Int}:aG .NotEq (.int a) (.int b) Ω=.ok (.bl (!decide (a=b))) Ω:=by
 simp[de]
 by_cases h:a=b<;>simp[h]
theorem HY{w x:aR}(V:∃q au,w [.ref T,.str n] Ω=.ok (.ref q) au/\au[q]?=some (.dK (gS v))/\ag [] Ω au/\Ω.length<=q)(X:∀au,ag [] Ω au->∀(j:Nat) p,v[j]?=some p->x [.ref T,.str n,.int j] au=.ok (.int p.2) au)
  (W:Tn Ω T t s r m d kvs L) (Y:(bg v).Nodup) (hl:v.length<=12) (Q:mW Ω R js v):∃au,aK 6 3 (y8 w (aK 1 1 yP) x) [.ref T,.str n,.ref R] Ω=.ok (.bl true) au/\ag [] Ω au:=by
 rw[aT (by rfl)]
 have Z:aL 6 [D.ref T,.str n,.ref R]=[oR T,oS n,oR R,none,none,none]:=rfl;rw[Z];obtain⟨q,a,e1,O,P,_⟩:=V
 have r1:(aJ 3 (aC "Things" "own" w (aa 0) (ab (aa 1) af))) [oR T,oS n,oR R,none,none,none] Ω=.nx [oR T,oS n,oR R,oR q,none,none] a:=by
  rw[br,eh W rfl (by decide)]
  simp[e1]
 have g:=yt (.inl O:cj a q (gS v))
 have y:(gS v).map (λkv=>jh kv.1)=(bg v).map .str:=by
  simp only[gS,bg,List.map_map];rfl
 rw[y]at g;have g2:(a++[Cell.lst ((bg v).map .str)])[a.length]?=some (.lst ((bg v).map .str)):=aq;have S:ag [] a (a++[Cell.lst ((bg v).map .str)]):=ag.app;generalize a++[Cell.lst ((bg v).map .str)]=c at *;have z:=Q.bD (P.trans S)
 have A:bG (aa 2) [oR T,oS n,oR R,oR q,none,none] c=.ok (.seq (.ref R)) c:=by
  rw[bT];exact bF (by rw[aP,aB z.ce])
 have e3:=Cu z A (by omega)
 have g3:(c++[Cell.lst ((bg v).map .str)])[c.length]?=some (.lst ((bg v).map .str)):=aq;have B:ag [] c (c++[Cell.lst ((bg v).map .str)]):=ag.app;have C:=B.get _ _ g2 (by simp)
 generalize c++[Cell.lst ((bg v).map .str)]=e at *;have h:=Bo C g3;rw[decide_eq_true rfl]at h
 have r2:(dR (m2 (aG .NotEq) (mN (bu .list) (ab (aa 3) af)) (Ct (bG (aa 2)))) (aj (bP (ah (.bl false))) ai) ai) [oR T,oS n,oR R,oR q,none,none] a=.nx [oR T,oS n,oR R,oR q,none,none] e:=by
  have:(mN (bu .list) (ab (aa 3) af)) [oR T,oS n,oR R,oR q,none,none] a=.ok (.ref a.length) c:=g;rw[cR,cN,this,av,e3,av,h];rfl
 have k:=S.trans B;have f:=P.trans k;have U:=z.bD B;have W3:=W.bD f;have E:=k.get _ _ O (by simp)
 have l:=fH U.ce;have F:=Q.len;have G:(js.map D.ref).length=v.length:=by simp[F]
 rw[G]at l;have H:i_ (v.length:Int)=true:=eO (by omega) (by omega)
 have hs:dH (ab (mN (bu .len) (ab (aa 2) af)) af) [oR T,oS n,oR R,oR q,none,none] e=.ok (.ints 0 v.length) e:=by
  simp[l,H]
 refine⟨e,?_,f⟩;unfold y8;rw[ae,r1,ax,ae,r2,ax,ae,cY,hs,cu];refine cf (R:=λr=>h8 (sq r _)=.ok (.bl true) e) (ds:=intsFrom 0 v.length) (λi u b=>b=e/\∃I o,u=[oR T,oS n,oR R,oR q,I,o]) ?_ ?_ ?_ fuel 0 _ _ (by rw[dS];unfold fuel;omega) (Nat.zero_le _) ⟨rfl,none,none,rfl⟩
 .rintro i u b _
  rfl
 .rintro i dd u b hd ⟨rfl,I,o,rfl⟩
  obtain⟨rfl,J⟩:=fD hd;refine⟨[oR T,oS n,oR R,oR q,oI (0+(i:Int)),o],rfl,?_⟩;rw[Int.zero_add];obtain⟨p,K⟩:∃p,v[i]?=some p:=⟨v[i],List.getElem?_eq_getElem J⟩;have M:=X b f i p K;obtain⟨j,h1,h2,h3⟩:=U.ix K;have N:=eF (.inl E:cj b q (gS v)) (ux Y K)
  have rA:(aJ 5 (aC "Things" "value_at" x (aa 0) (ab (aa 1) (ab (aa 4) af)))) [oR T,oS n,oR R,oR q,oI i,o] b=.nx [oR T,oS n,oR R,oR q,oI i,oI p.2] b:=by
   rw[br,eh W3 rfl (by decide)]
   simp[M]
  have rB:(dR (ve (fv (mN (bj (aK 1 1 yP)) (ab (aa 5) af))) (ve (m2 (aG .NotEq) (aa 5) (m2 aF (m2 aF (aa 2) (aa 4)) (ah (.int 1)))) (m2 (aG .NotEq) (m2 aF (aa 3) (m2 aF (m2 aF (aa 2) (aa 4)) (ah (.int 0)))) (aa 5)))) (aj (bP (ah (.bl false))) ai) ai) [oR T,oS n,oR R,oR q,oI i,oI p.2] b=.nx [oR T,oS n,oR R,oR q,oI i,oI p.2] b:=by
   simp[HX,h1,h2,h3,N,yQ,-ov]
  unfold Ri;rw[ae,rA,ax,ae,rB];exact⟨rfl,_,_,rfl⟩
 .rintro u b ⟨rfl,I,o,rfl⟩
  rfl
def HZ:SM:=(aj (dR (m2 (aG .Eq) (m2 aF (aa 5) (ah (.int 0))) (aa 3))
 (aj (dI (aa 5) (ah (.int 1)) (aa 4))
 (aj mM
 ai))
 ai)
 ai)
def yR(a:aR):SM:=
 (aj (ck (aC "Things" "put" a (aa 0) (ab (aa 1) (ab (aa 3) (ab (aa 4) af)))))
 (aj (eE (du 5) (bG (aa 2)) HZ)
 (aj (ck (cE jI cW (aa 2) (ab (mN bB (ab (aa 3) (ab (aa 4) af))) af)))
 ai)))
theorem sG{a b:Str}:aG .Eq (.str a) (.str b) Ω=.ok (.bl (decide (a=b))) Ω:=by
 simp
 by_cases z:a=b<;>simp[z]
theorem ka{A:Type}{P:Nat->A->Prop}:∀{b:List Nat}{v:List A},v.length=b.length->(∀(a j:Nat) (p:A),b[a]?=some j->v[a]?=some p->P j p)->az P b v
 |[],[],_,_=>.nil
 |j::b,p::v,c,f=>.cons (f 0 _ _ rfl rfl) (ka (by simpa using c) λa j p d e=>f (a+1) j p d e)
theorem BH(Q:mW Ω R js v)(J:js.Nodup)(Y:R∉js)(hl:v.length<=12){Z:aR}{C:aD}(hP:(ck (aC "Things" "put" Z (aa 0) (ab (aa 1) (ab (aa 3) (ab (aa 4) af))))) [oR T,oS n,oR R,oS w,oI x,none] C=.nx [oR T,oS n,oR R,oS w,oI x,none] Ω) :
  ∃f au,aK 6 5 (yR Z) [.ref T,.str n,.ref R,.str w,.int x] C=.ok .non au/\mW au R f (ee v w x)/\ag (R::js) Ω au/\(∀j∈f,j∈js\/Ω.length<=j)/\f.Nodup:=by
 rw[aT (by rfl)]
 have e0:aL 6 [D.ref T,.str n,.ref R,.str w,.int x]=[oR T,oS n,oR R,oS w,oI x,none]:=rfl;rw[e0];have t:=Q.len
 have hs:bG (aa 2) [oR T,oS n,oR R,oS w,oI x,none] Ω=.ok (.seq (.ref R)) Ω:=by
  rw[bT];exact bF (by rw[aP,aB Q.ce])
 unfold yR;rw[ae,hP,ax,ae,cY,hs,cu];refine cf (R:=λr=>∃f au,h8 (sq r _)=.ok .non au/\mW au R f (ee v w x)/\ag (R::js) Ω au/\(∀j∈f,j∈js\/Ω.length<=j)/\f.Nodup) (ds:=js.map .ref) (λi G c=>c=Ω/\(∃A,G=[oR T,oS n,oR R,oS w,oI x,A])/\w∉(bg v).take i) ?_ ?_ ?_ fuel 0 _ _ (by simp;unfold fuel;omega) (Nat.zero_le _) ⟨rfl,⟨none,rfl⟩,by simp⟩
 .rintro i G c ⟨rfl,_⟩
  rw[cP,aP,aB Q.ce]
 .rintro i dd G c hd ⟨rfl,⟨A,rfl⟩,g⟩
  obtain⟨j,k,rfl⟩:=oC hd;refine⟨[oR T,oS n,oR R,oS w,oI x,oR j],rfl,?_⟩;obtain⟨p,H,K⟩:=az.get (R:=λj p=>c[j]?=some (j_ p)) Q.al k
  have h0:aF (.ref j) (.int 0) c=.ok (.str p.1) c:=bx K rfl;have l:(bg v)[i]?=some p.1:=by simp[H]
  by_cases B:p.1=w
  .have L:=yJ (x:=.int x) (j:=1) K (by simp)
   have M:HZ [oR T,oS n,oR R,oS w,oI x,oR j] c=.rt .non (c.set j (j_ (w,x))):=by
    simp[HZ,h0,sG,B,dI,-jY];rw[show((1:Int))=((1:Nat):Int)from rfl,L]
    simp[j_,B]
   rw[M];have I:w∈bg v:=by rw[←B];exact List.mem_of_getElem? l
   have N:(bg v).idxOf w=i:=by
    have O:=(List.getElem?_eq_some_iff.mp l).1
    have P:(bg v).idxOf w<=i:=by
     refine Nat.le_of_not_lt λh=>?_
     have:=List.not_of_lt_findIdx h
     have e:(bg v)[i]=w:=by
      rw[List.getElem?_eq_getElem O]at l;rw[Option.some.inj l,B]
     simp[e]at this
    rcases Nat.lt_or_eq_of_le P with h2|h2
    .refine absurd ?_ g
     have h3:=List.idxOf_lt_length_of_mem I
     have h4:((bg v).take i)[(bg v).idxOf w]?=some w:=by
      rw[List.getElem?_take,if_pos h2,List.getElem?_eq_getElem h3,List.getElem_idxOf h3]
     exact List.mem_of_getElem? h4
    .exact h2
   have E:j∈js:=List.mem_of_getElem? k;refine⟨js,_,rfl,⟨bp Q.ce (λz=>Y (z▸E)),?_⟩,ag.set (by simp[E]),λj k=>.inl k,J⟩
   unfold ee;rw[if_pos I,N];refine ka (by rw[List.length_set];exact t) λa j' p' m s=>?_
   by_cases F:a=i
   .subst F
    rw[k]at m;cases m;rw[List.getElem?_set_self (List.getElem?_eq_some_iff.mp H).1]at s;cases s;exact aI K
   .rw[List.getElem?_set_ne (Ne.symm F)]at s
    obtain⟨p2,o,u⟩:=az.get (R:=λj p=>c[j]?=some (j_ p)) Q.al m
    rw[s]at o;cases o;refine bp u λz=>F ?_
    subst z;exact(List.getElem?_inj (List.getElem?_eq_some_iff.mp m).1 J).mp (m.trans k.symm)
  .have M:HZ [oR T,oS n,oR R,oS w,oI x,oR j] c=.nx [oR T,oS n,oR R,oS w,oI x,oR j] c:=by
    simp[HZ,h0,sG,B,-jY]
   rw[M];refine⟨rfl,⟨_,rfl⟩,λz=>?_⟩
   rcases ym l z with z|z
   .exact g z
   .exact B z.symm
 .rintro G c ⟨rfl,⟨A,rfl⟩,g⟩
  have I:w∉bg v:=by
   rw[List.length_map,←t]at g;rwa[List.take_of_length_le (by simp)]at g
  have g1:(c++[j_ (w,x)])[c.length]?=some (j_ (w,x)):=aq;have K1:ag [] c (c++[j_ (w,x)]):=ag.app;have e1:(mN bB (ab (aa 3) (ab (aa 4) af))) [oR T,oS n,oR R,oS w,oI x,A] c=.ok (.ref c.length) (c++[j_ (w,x)]):=by simp[aA,j_]
  have S:=Q.bD K1;have ll:=Q.lt;have lR:=bU Q.ce;generalize c++[j_ (w,x)]=q at *;have U:=fI (d:=.ref c.length) S.ce (by simp;omega)
  have hL:=dU Q.ce
  have r1:(ck (cE jI cW (aa 2) (ab (mN bB (ab (aa 3) (ab (aa 4) af))) af))) [oR T,oS n,oR R,oS w,oI x,A] c=.nx [oR T,oS n,oR R,oS w,oI x,A] (q.set R (.lst (js.map .ref++[.ref c.length]))):=by
   rw[cy,gs (x:=.ref R) (au:=c) rfl hL,aV,e1];simp[U]
  have g2:=aI (e:=.lst (js.map .ref++[.ref c.length])) S.ce;have V:ag [R] q (q.set R (.lst (js.map .ref++[.ref c.length]))):=ag.set (by simp)
  generalize q.set R (.lst (js.map .ref++[.ref c.length]))=y at *;have X:ee v w x=v++[(w,x)]:=by unfold ee;rw[if_neg I]
  have P:az (λj p=>y[j]?=some (j_ p)) js v:=ka t λa j p k H=>by
   obtain⟨p2,o,u⟩:=az.get (R:=λj p=>q[j]?=some (j_ p)) S.al k
   rw[H]at o;cases o;exact V.get _ _ u (by simp;exact λz=>Y (z▸List.mem_of_getElem? k))
  refine⟨js++[c.length],y,?_,⟨by rw[g2];simp,?_⟩,(K1.sub (by simp)).trans (V.sub (by simp)),λj k=>?_,?_⟩
  .rw[ax,ae,r1]
   rfl
  .rw[X]
   exact az.append (R:=λj p=>y[j]?=some (j_ p)) P (.cons (V.get _ _ g1 (by simp;omega)) .nil)
  .rcases List.mem_append.mp k with h|h
   .exact .inl h
   .rw[List.mem_singleton.mp h]
    exact .inr (Nat.le_refl _)
  .exact List.nodup_append.mpr ⟨J,by simp,λa F b hb z=>by have:=ll a F;simp at hb;omega⟩
end
section
structure Ad where
 (E_:aD) (n0 T t s r m d D:Nat)
structure Tx where
 (c l R i:Nat) (k:Str) (v:List (Str×Int)) (js:List Nat)
structure Px(Ω:aD)(A:Ad)(kvs ek:List (Key×D))(L:List (List Str))(n:Str)(X:Tx):Prop where
 h:bC kvs (.inr n)=oR X.c
 q:bC ek (.inr n)=oR X.R
 G:Tg Ω A.d X.c X.l X.i X.k X.v L
 Q:mW Ω X.R X.js X.v
 lt:X.l<X.R/\X.R<A.n0
 nd:X.js.Nodup
 lo:∀j∈X.js,A.n0<=j
 nD:A.D∉[X.c,X.l,X.R]
structure Pr(Ω:aD)(A:Ad)(kvs ek:List (Key×D))(L:List (List Str))(n n':Str)(X Y:Tx):Prop where
 W:Tn Ω A.T A.t A.s A.r A.m A.d kvs L
 x:Px Ω A kvs ek L n X
 y:Px Ω A kvs ek L n' Y
 dj:∀a∈[X.c,X.l,X.R],a∉[Y.c,Y.l,Y.R]
 H_:∀j∈X.js,j∉Y.js
 dd:Ω[A.D]?=some (.dK ek)
 lD:A.d<A.D/\A.D<A.n0
 ln:A.n0<=Ω.length
 bs:ag [] A.E_ Ω
 lb:A.E_.length<=A.T
variable{Ω au aQ:aD}{ρ:aX}{A:Ad}{kvs ek:List (Key×D)}{L L':List (List Str)}{n n' w:Str}{X Y X':Tx}{fp:List Nat}{x:Int}
theorem Pr.swap(H:Pr Ω A kvs ek L n n' X Y):Pr Ω A kvs ek L n' n Y X:=⟨H.W,H.y,H.x,λa b c=>H.dj a c b,λj d e=>H.H_ j e d,H.dd,H.lD,H.ln,H.bs,H.lb⟩
theorem Px.bD(H:Px Ω A kvs ek L n X)(K:ag [] Ω au):Px au A kvs ek L n X:=⟨H.h,H.q,H.G.bD K,H.Q.bD K,H.lt,H.nd,H.lo,H.nD⟩
theorem Pr.bD(H:Pr Ω A kvs ek L n n' X Y)(K:ag [] Ω au):Pr au A kvs ek L n n' X Y:=
 ⟨H.W.bD K,H.x.bD K,H.y.bD K,H.dj,H.H_,K.get _ _ H.dd (by simp),H.lD,Nat.le_trans H.ln K.len,H.bs.trans K,H.lb⟩
theorem Pr.oth(H:Pr Ω A kvs ek L n n' X Y)(K:ag ([A.r,A.m,X.c,X.l,X.R]++X.js) Ω au)(f:∀(j:Nat) (row:List Str),L[j]?=some row->L'[j]?=some row):Px au A kvs ek L' n' Y/\au[A.D]?=some (.dK ek)/\ag [] A.E_ au:=by
 have t:=H.W.lt;have u:=H.x.G.lt;have w:=H.x.lt;have z:=H.y.G.lt;have B:=H.y.lt;have C:=H.lD;have E:=H.lb
 have q:∀b,A.d<b->b<A.n0->b∉[X.c,X.l,X.R]->b∉[A.r,A.m,X.c,X.l,X.R]++X.js:=by
  intro b F I g hb;rcases List.mem_append.mp hb with hb|hb
  .simp only[List.mem_cons,List.not_mem_nil,or_false]at hb g
   omega
  .have:=H.x.lo b hb
   omega
 have e:∀b∈[Y.c,Y.l,Y.R],b∉[X.c,X.l,X.R]:=λb hb i=>H.dj b i hb
 have k:=q Y.c (by omega) (by omega) (e _ (by simp))
 have o:=q Y.l (by omega) (by omega) (e _ (by simp))
 have p:=q Y.R (by omega) (by omega) (e _ (by simp))
 have s:∀j∈Y.js,j∉[A.r,A.m,X.c,X.l,X.R]++X.js:=by
  intro j a hb;have:=H.y.lo j a;rcases List.mem_append.mp hb with hb|hb
  .simp only[List.mem_cons,List.not_mem_nil,or_false]at hb
   omega
  .exact H.H_ j hb a
 refine⟨⟨H.y.h,H.y.q,⟨K.get _ _ H.y.G.ob k,K.get _ _ H.y.G.sl o,f _ _ H.y.G.wd,H.y.G.nd,H.y.G.le,H.y.G.lt⟩,H.y.Q.keep K p s,H.y.lt,H.y.nd,H.y.lo,H.y.nD⟩,K.get _ _ H.dd (q _ (by omega) (by omega) H.x.nD),ag.new H.bs K λj a=>?_⟩
 rcases List.mem_append.mp a with hb|hb
 .simp only[List.mem_cons,List.not_mem_nil,or_false]at hb
  omega
 .have:=H.x.lo j hb
  omega
theorem Pr.pV(H:Pr Ω A kvs ek L n n' X Y):X.R∉[A.r,A.m,X.c,X.l]/\∀j∈X.js,j∉[A.r,A.m,X.c,X.l]:=by
 have d:=H.W.lt;have e:=H.x.G.lt;have f:=H.x.lt;refine⟨by simp;omega,λj a b=>?_⟩
 have:=H.x.lo j a;simp only[List.mem_cons,List.not_mem_nil,or_false]at b;omega
def jK(a X:Tx):Prop:=a.c=X.c/\a.l=X.l/\a.R=X.R/\a.k=X.k
theorem Pr.put{g i o p:aR}(M:oH g)(N:fg i)(O:oN o)(P:sx p)(H:Pr Ω A kvs ek L n n' X Y)(S:oG w)(U:L.length<=500)(V:w∈bg X.v\/X.v.length<12) :
  ∃I J au,aK 6 5 (yR (aK 6 4 (vL g i o p))) [.ref A.T,.str n,.ref X.R,.str w,.int x] Ω=.ok .non au/\Pr au A kvs ek J n n' I Y/\J.length<=L.length+1/\jK I X:=by
 obtain⟨Z,L1,s,e1,W1,G1,t,u,z⟩:=HI M N O P H.W H.x.h H.x.G S U (x:=x) V;obtain⟨nR,nj⟩:=H.pV;have Q1:=H.x.Q.keep t nR nj;have a1:=H.W.lt;have a2:=H.x.G.lt;have a3:=H.x.lt;have B:X.R∉X.js:=λhm=>by have:=H.x.lo _ hm;omega
 have hP:(ck (aC "Things" "put" (aK 6 4 (vL g i o p)) (aa 0) (ab (aa 1) (ab (aa 3) (ab (aa 4) af))))) [oR A.T,oS n,oR X.R,oS w,oI x,none] Ω=.nx [oR A.T,oS n,oR X.R,oS w,oI x,none] s:=by
  rw[cy,eh H.W rfl (by decide)]
  simp[e1]
 obtain⟨C,a,e2,Q2,D,e,E⟩:=BH (T:=A.T) (n:=n) (w:=w) (x:=x) Q1 H.x.nd B H.x.G.le hP;have f:ag ([A.r,A.m,X.c,X.l,X.R]++X.js) Ω a:=(t.sub (by simp)).trans (D.sub λb hb=>by rcases List.mem_cons.mp hb with h|h<;>simp[h])
 obtain⟨y2,d2,b2⟩:=H.oth f z
 have up:∀b∈X.R::X.js,A.d<b:=by
  intro b hb;rcases List.mem_cons.mp hb with rfl|hb
  .omega
  .have:=H.x.lo b hb;omega
 have l1:=t.len;have l0:=H.ln;refine⟨⟨X.c,X.l,X.R,Z,X.k,ee X.v w x,C⟩,L1,a,e2,⟨W1.keep D up,⟨H.x.h,H.x.q,G1.keep D ?_ ?_,Q2,H.x.lt,E,λj F=>?_,H.x.nD⟩,y2,H.dj,λj F K=>?_,d2,H.lD,Nat.le_trans H.ln f.len,b2,H.lb⟩,u,rfl,rfl,rfl,rfl⟩
 .intro hb
  rcases List.mem_cons.mp hb with hb|hb
  .omega
  .have:=H.x.lo _ hb;omega
 .intro hb
  rcases List.mem_cons.mp hb with hb|hb
  .omega
  .have:=H.x.lo _ hb;omega
 .rcases e j F with h|h
  .exact H.x.lo j h
  .omega
 .rcases e j F with h|h
  .exact H.H_ j h K
  .have:=H.y.Q.lt j K
   omega
theorem Pr.take{N O P:aR}(V:fg N)(Z:oN O)(hI:sy P)(H:Pr Ω A kvs ek L n n' X Y)(hl:L.length<=500)(u:w∈bg X.v) :
  ∃S U aQ d au,aK 5 3 (yK N O P) [.ref A.T,.str n,.str w] Ω=.ok .non aQ/\ag [A.r,A.m,X.c,X.l] Ω aQ/\aQ[X.R]?=some (.lst (X.js.map .ref))/\eS (.ref X.R) [.int ((bg X.v).idxOf w:Nat)] aQ=.ok d au/\Pr au A kvs ek U n n' S Y/\U.length<=L.length+1/\jK S X:=by
 obtain⟨i1,L1,aQ,e1,W1,G1,B,C,E⟩:=HJ V Z hI H.W H.x.h H.x.G hl u;obtain⟨nR,nj⟩:=H.pV;have g:=H.x.Q.keep B nR nj;have a1:=H.W.lt;have a2:=H.x.G.lt;have a3:=H.x.lt;have i:=g.len;have a0:=H.x.G.le;have hi:=List.idxOf_lt_length_of_mem u;have F:(bg X.v).idxOf w<X.js.length:=by rw[←i];simpa[bg]using hi
 have y:=uw (j:=(bg X.v).idxOf w) (x:=.ref X.js[(bg X.v).idxOf w]) g.ce (by simp[List.getElem?_eq_getElem F]) (by simp;omega)
 have ev:(X.js.map D.ref).eraseIdx ((bg X.v).idxOf w)=(X.js.eraseIdx ((bg X.v).idxOf w)).map .ref:=(gN _ _).symm;rw[ev]at y;have g2:=aI (e:=.lst ((X.js.eraseIdx ((bg X.v).idxOf w)).map .ref)) g.ce;have I:ag [X.R] aQ (aQ.set X.R (.lst ((X.js.eraseIdx ((bg X.v).idxOf w)).map .ref))):=ag.set (by simp)
 have J:X.R∉X.js:=λu=>by have:=H.x.lo _ u;omega
 have K:az (λj p=>(aQ.set X.R (.lst ((X.js.eraseIdx ((bg X.v).idxOf w)).map .ref)))[j]?=some (j_ p)) X.js X.v:=ka i λa j p b y=>by
  obtain⟨p2,o,M⟩:=az.get (R:=λj p=>aQ[j]?=some (j_ p)) g.al b
  rw[y]at o;cases o;exact bp M λz=>J (z▸List.mem_of_getElem? b)
 generalize aQ.set X.R (.lst ((X.js.eraseIdx ((bg X.v).idxOf w)).map .ref))=f at *;have s:ag ([A.r,A.m,X.c,X.l,X.R]++X.js) Ω f:=(B.sub (by simp)).trans (I.sub (by simp))
 obtain⟨y2,d2,b2⟩:=H.oth s E;have t:∀j∈X.js.eraseIdx ((bg X.v).idxOf w),j∈X.js:=λj b=>List.mem_of_mem_eraseIdx b
 refine⟨⟨X.c,X.l,X.R,i1,X.k,fh X.v w,X.js.eraseIdx ((bg X.v).idxOf w)⟩,L1,aQ,_,f,e1,B,g.ce,y,⟨W1.keep I (by simp;omega),⟨H.x.h,H.x.q,G1.keep I (by simp;omega) (by simp;omega),⟨g2,?_⟩,H.x.lt,?_,λj b=>H.x.lo j (t j b),H.x.nD⟩,y2,H.dj,λj b=>H.H_ j (t j b),d2,H.lD,Nat.le_trans H.ln s.len,b2,H.lb⟩,C,rfl,rfl,rfl,rfl⟩
 .exact az.eraseIdx (R:=λj p=>f[j]?=some (j_ p)) _ K
 .exact List.Nodup.sublist (List.eraseIdx_sublist _ _) H.x.nd
end
section
variable{Ω au aQ:aD}{ρ:aX}{A:Ad}{kvs ek:List (Key×D)}{L L':List (List Str)}{n n' w:Str}{X Y X':Tx}{fp:List Nat}{x y:Int}{F F0:List D->Out Rs}{μ:Int->Int->Int->Int}{S:D}{q kq th:Nat}{a5 a6 a7 a8 a9 a10 a11 a12:Option D}
def Kw:EM:=(f_ (cE jI eD (aa 9) (ab (aa 8) af)) (cE nU gX (aa 9) (ab (aa 8) af)))
def Kx:EM:=(m2 (bf .Mod) (m2 (bf .Mult) (aa 6) (ah (.int 16807))) (m2 (bf .Pow) (ah (.int 10)) (ah (.int 60))))
def dE(F:List D->Out Rs)(a b:aR):SM:=
 (dR (gh (m2 (aG .In) (aa 8) (aa 9)) (m2 (aG .Eq) (mN (cz F) (ab (aa 6) (ab (ah (.int 3)) (ab (ah (.int 2)) af)))) (ah (.int 1))))
 (aj (ck (aC "Things" "take" a (aa 3) (ab (aa 7) (ab (aa 8) af))))
 (aj (ck (cE jI eS (m2 aF (aa 4) (aa 7)) (ab Kw af)))
 ai))
 (aj (dR (ve (m2 (aG .In) (aa 8) (aa 9)) (m2 (aG .Lt) (mN (bu .len) (ab (aa 9) af)) (ah (.int 12))))
 (aj (ck (mN (bj b) (ab (aa 3) (ab (aa 7) (ab (m2 aF (aa 4) (aa 7)) (ab (aa 8) (ab Kx af)))))))
 ai)
 ai)
 ai))
theorem BI(r:iO μ F){s k l t u:aR}(hI:oH s)(U:fg k)(V:oN l)(hG:sx t)(hW:sy u)(H:Pr Ω A kvs ek L n n' X Y)(hw:oG w)(Z:L.length<=500)(B:Ω[th]?=some (.lst ((bg X.v).map .str)))(a0:A.n0<=th) :
  ∃g i au,dE F (aK 5 3 (yK k l u)) (aK 6 5 (yR (aK 6 4 (vL s k l t)))) [some S,oR q,oR kq,oR A.T,oR A.D,a5,oI x,oS n,oS w,oR th,a10,a11,a12] Ω=.nx [some S,oR q,oR kq,oR A.T,oR A.D,a5,oI x,oS n,oS w,oR th,a10,a11,a12] au/\Pr au A kvs ek i n n' g Y/\i.length<=L.length+1/\jK g X:=by
 obtain⟨y0,y1,hy⟩:=r x 3 2 (by omega) (by omega) (by omega)
 generalize μ x 3 2=y at *;have a:=lB (w:=w) B;have m:=eF (.inl H.dd:cj Ω A.D ek) H.x.q
 have vl:Kx [some S,oR q,oR kq,oR A.T,oR A.D,a5,oI x,oS n,oS w,oR th,a10,a11,a12] Ω=.ok (.int (x*16807%10 ^ 60)) Ω:=by
  have C:jF 16807=true:=by decide
  have E:(0:Int)<10 ^ 60:=by decide
  simp[Kx,C]
 generalize x*16807%10 ^ 60=z at vl
 by_cases j:w∈bg X.v/\y=1
 .obtain⟨j,rfl⟩:=j
  obtain⟨g,i,b,d,c,e1,K1,g1,I,J,K,M⟩:=H.take U V hW Z j;refine⟨g,i,c,?_,J,K,M⟩;rw[decide_eq_true j]at a;have a1:=H.W.lt;have a2:=H.x.G.lt;have a3:=H.x.lt;have a4:=H.lD;have nD:=H.x.nD;have d1:=K1.get _ _ H.dd (by simp only[List.mem_cons,List.not_mem_nil,or_false]at nD ⊢;omega)
  have t1:=K1.get _ _ B (by simp;omega)
  have o:=eF (.inl d1:cj b A.D ek) H.x.q
  have N:(ck (aC "Things" "take" (aK 5 3 (yK k l u)) (aa 3) (ab (aa 7) (ab (aa 8) af)))) [some S,oR q,oR kq,oR A.T,oR A.D,a5,oI x,oS n,oS w,oR th,a10,a11,a12] Ω=.nx [some S,oR q,oR kq,oR A.T,oR A.D,a5,oI x,oS n,oS w,oR th,a10,a11,a12] b:=by
   rw[cy,eh H.W rfl (by decide)]
   simp[e1]
  have hi:=mS t1 j;have O:=dU t1
  have e3:Kw [some S,oR q,oR kq,oR A.T,oR A.D,a5,oI x,oS n,oS w,oR th,a10,a11,a12] b=.ok (.int ((bg X.v).idxOf w:Nat)) b:=by
   unfold Kw;rw[ou,gs (x:=.ref th) (au:=b) rfl O];simp[hi]
  have r2:(ck (cE jI eS (m2 aF (aa 4) (aa 7)) (ab Kw af))) [some S,oR q,oR kq,oR A.T,oR A.D,a5,oI x,oS n,oS w,oR th,a10,a11,a12] b=.nx [some S,oR q,oR kq,oR A.T,oR A.D,a5,oI x,oS n,oS w,oR th,a10,a11,a12] c:=by
   rw[cy,gs (x:=.ref X.R) (au:=b) o (dU g1),aV,e3];simp[I]
  unfold dE
  have p:(gh (m2 (aG .In) (aa 8) (aa 9)) (m2 (aG .Eq) (mN (cz F) (ab (aa 6) (ab (ah (.int 3)) (ab (ah (.int 2)) af)))) (ah (.int 1)))) [some S,oR q,oR kq,oR A.T,oR A.D,a5,oI x,oS n,oS w,oR th,a10,a11,a12] Ω=.ok (.bl true) Ω:=by
   simp[a,hy,-di]
  rw[cR,p,cC,cw,cO,cu,if_pos rfl,ae,N,ax,ae,r2];rfl
 .have p:(gh (m2 (aG .In) (aa 8) (aa 9)) (m2 (aG .Eq) (mN (cz F) (ab (aa 6) (ab (ah (.int 3)) (ab (ah (.int 2)) af)))) (ah (.int 1)))) [some S,oR q,oR kq,oR A.T,oR A.D,a5,oI x,oS n,oS w,oR th,a10,a11,a12] Ω=.ok (.bl false) Ω:=by
   by_cases h:w∈bg X.v
   .have C:y≠1:=λz=>j ⟨h,z⟩
    rw[decide_eq_true h]at a;simp[a,hy,-di,C]
   .rw[decide_eq_false h]at a
    simp[a,-di]
  have f:=fH B;have P:((bg X.v).map D.str).length=X.v.length:=by simp
  rw[P]at f
  have e:(ve (m2 (aG .In) (aa 8) (aa 9)) (m2 (aG .Lt) (mN (bu .len) (ab (aa 9) af)) (ah (.int 12)))) [some S,oR q,oR kq,oR A.T,oR A.D,a5,oI x,oS n,oS w,oR th,a10,a11,a12] Ω=.ok (.bl (decide (w∈bg X.v\/X.v.length<12))) Ω:=by
   by_cases h:w∈bg X.v
   .rw[decide_eq_true h]at a
    rw[decide_eq_true (.inl h)];simp[a,-di]
   .rw[decide_eq_false h]at a
    by_cases E:X.v.length<12
    .have h3:(X.v.length:Int)<12:=by omega
     rw[decide_eq_true (.inr E)];simp[a,-di,f,de,h3]
    .have h3:¬ (X.v.length:Int)<12:=by omega
     rw[decide_eq_false (by simp only[not_or];exact⟨h,E⟩)]
     simp[a,-di,f,de];omega
  by_cases Q:w∈bg X.v\/X.v.length<12
  .obtain⟨g,i,c,I,J,K,M⟩:=H.put hI U V hG hw Z (x:=z) Q
   refine⟨g,i,c,?_,J,K,M⟩;rw[decide_eq_true Q]at e;have b0:(m2 aF (aa 4) (aa 7)) [some S,oR q,oR kq,oR A.T,oR A.D,a5,oI x,oS n,oS w,oR th,a10,a11,a12] Ω=.ok (.ref X.R) Ω:=m
   have N:(ck (mN (bj (aK 6 5 (yR (aK 6 4 (vL s k l t))))) (ab (aa 3) (ab (aa 7) (ab (m2 aF (aa 4) (aa 7)) (ab (aa 8) (ab Kx af))))))) [some S,oR q,oR kq,oR A.T,oR A.D,a5,oI x,oS n,oS w,oR th,a10,a11,a12] Ω=.nx [some S,oR q,oR kq,oR A.T,oR A.D,a5,oI x,oS n,oS w,oR th,a10,a11,a12] c:=by
    simp[m,vl,I]
   unfold dE;rw[cR,p,cC,cw,cO,cu,if_neg (by simp),ae,cR,e,cC,cw,cO,cu,if_pos rfl,ae,N]
   rfl
  .refine⟨X,L,Ω,?_,H,by omega,rfl,rfl,rfl,rfl⟩
   rw[decide_eq_false Q]at e;unfold dE;rw[cR,p,cC,cw,cO,cu,if_neg (by simp),ae,cR,e]
   rfl
def MF(a:aR):SM:=(aj (dR (m2 (aG .NotEq) (aC "Things" "value_at" a (aa 3) (ab (aa 10) (ab (aa 11) af))) (m2 aF (m2 aF (m2 aF (aa 4) (aa 10)) (aa 11)) (ah (.int 1))))
 (aj (bP (ah (.bl false)))
 ai)
 ai)
 ai)
def Ky(a:aR):SM:=(aj (eE (du 11) (qa (ab (m2 (bf .Sub) (mN (bu .len) (ab (m2 aF (aa 4) (aa 10)) af)) (ah (.int 1))) (ab (m1 rq (ah (.int 1))) (ab (m1 rq (ah (.int 1))) af)))) (MF a))
 ai)
theorem yS{u:aR}(H:fg u)(W:Tn Ω A.T A.t A.s A.r A.m A.d kvs L)(P:Px Ω A kvs ek L n X)(I:Ω[A.D]?=some (.dK ek)) :
  ∃c,Ky (aK 3 3 (qC u)) [some S,oR q,oR kq,oR A.T,oR A.D,a5,a6,a7,a8,a9,oS n,a11,a12] Ω=.nx [some S,oR q,oR kq,oR A.T,oR A.D,a5,a6,a7,a8,a9,oS n,c,a12] Ω:=by
 have e:=eF (.inl I:cj Ω A.D ek) P.q;have f:=fH P.Q.ce;have g:=P.Q.len;have x:(X.js.map D.ref).length=X.v.length:=by simp[g]
 rw[x]at f;have J:=P.G.le
 have K:qa (ab (m2 (bf .Sub) (mN (bu .len) (ab (m2 aF (aa 4) (aa 10)) af)) (ah (.int 1))) (ab (m1 rq (ah (.int 1))) (ab (m1 rq (ah (.int 1))) af))) [some S,oR q,oR kq,oR A.T,oR A.D,a5,a6,a7,a8,a9,oS n,a11,a12] Ω=.ok (.Jp ((X.v.length:Int) - 1) X.v.length) Ω:=by
  have M:rQ ((X.v.length:Int) - 1)=true:=by unfold rQ;simp;omega
  have N:rQ (-1)=true:=by decide
  have E:m1 rq (ah (.int 1)) [some S,oR q,oR kq,oR A.T,oR A.D,a5,a6,a7,a8,a9,oS n,a11,a12] Ω=.ok (.int (-1)) Ω:=rfl
  have y:(m2 (bf .Sub) (mN (bu .len) (ab (m2 aF (aa 4) (aa 10)) af)) (ah (.int 1))) [some S,oR q,oR kq,oR A.T,oR A.D,a5,a6,a7,a8,a9,oS n,a11,a12] Ω=.ok (.int ((X.v.length:Int) - 1)) Ω:=by
   simp[e,f]
  unfold qa;rw[aV,y,av,aV,E,av,aV,E,av,b_];simp only[av];unfold xR;simp only[M,N,Bool.and_self,if_true]
  congr 2
  omega
 unfold Ky;rw[ae,cY,K,cu];refine cf (R:=λr=>∃c,sq r _=.nx [some S,oR q,oR kq,oR A.T,oR A.D,a5,a6,a7,a8,a9,oS n,c,a12] Ω) (ds:=(List.range X.v.length).map λk:Nat=>.int ((X.v.length:Int) - 1 - k)) (λi w b=>b=Ω/\∃a,w=[some S,oR q,oR kq,oR A.T,oR A.D,a5,a6,a7,a8,a9,oS n,a,a12]) ?_ ?_ ?_ fuel 0 _ _ (by rw[List.length_map,List.length_range];unfold fuel;omega) (Nat.zero_le _) ⟨rfl,a11,rfl⟩
 .rintro i w b _
  rfl
 .rintro i dd w b l ⟨rfl,a,rfl⟩
  rw[List.getElem?_map,Option.map_eq_some_iff]at l;obtain⟨k,O,rfl⟩:=l;have z:=List.getElem?_eq_some_iff.mp O;obtain⟨B,o⟩:=z;rw[List.getElem_range]at o;rw[List.length_range]at B;subst o;obtain⟨j,U⟩:∃j:Nat,(j:Int)=(X.v.length:Int) - 1 - i:=⟨X.v.length - 1 - i,by omega⟩
  rw[←U];refine⟨[some S,oR q,oR kq,oR A.T,oR A.D,a5,a6,a7,a8,a9,oS n,oI j,a12],rfl,?_⟩;obtain⟨p,F⟩:∃p,X.v[j]?=some p:=⟨X.v[j]'(by omega),List.getElem?_eq_getElem _⟩
  have C:=Co H W P.h P.G F;obtain⟨jj,V,h2,Y⟩:=P.Q.ix F
  have Z:(aC "Things" "value_at" (aK 3 3 (qC u)) (aa 3) (ab (aa 10) (ab (aa 11) af))) [some S,oR q,oR kq,oR A.T,oR A.D,a5,a6,a7,a8,a9,oS n,oI j,a12] b=.ok (.int p.2) b:=by
   rw[eh W rfl (by decide)]
   simp[C]
  have rB:MF (aK 3 3 (qC u)) [some S,oR q,oR kq,oR A.T,oR A.D,a5,a6,a7,a8,a9,oS n,oI j,a12] b=.nx [some S,oR q,oR kq,oR A.T,oR A.D,a5,a6,a7,a8,a9,oS n,oI j,a12] b:=by
   unfold MF;rw[ae,cR,cN,Z];simp[e,V,Y,yQ,-ov]
  rw[rB];exact⟨rfl,_,rfl⟩
 .rintro w b ⟨rfl,a,rfl⟩
  exact⟨a,rfl⟩
def Ia:EM:=(dZ (mN bB (ab (aa 7) (ab (ah (.str "one")) (ab (ah (.str "two")) af)))) false (m2 (bf .Mod) (aa 6) (ah (.int 2))) true (ah .non))
theorem ED{s:aR}(t:fg s)(H:Pr Ω A kvs ek L "one" "two" X Y)(E:n="one"\/n="two") :
  ∃d f au,(eE (du 10) (bG Ia) (Ky (aK 3 3 (qC s)))) [some S,oR q,oR kq,oR A.T,oR A.D,a5,oI x,oS n,a8,a9,a10,a11,a12] Ω=.nx [some S,oR q,oR kq,oR A.T,oR A.D,a5,oI x,oS n,a8,a9,d,f,a12] au/\ag [] Ω au:=by
 have F:(Ω++[Cell.lst (([n,"one","two"]:List Str).map .str)])[Ω.length]?=some (.lst (([n,"one","two"]:List Str).map .str)):=aq;have u:ag [] Ω (Ω++[Cell.lst (([n,"one","two"]:List Str).map .str)]):=ag.app;have G:(mN bB (ab (aa 7) (ab (ah (.str "one")) (ab (ah (.str "two")) af)))) [some S,oR q,oR kq,oR A.T,oR A.D,a5,oI x,oS n,a8,a9,a10,a11,a12] Ω=.ok (.ref Ω.length) (Ω++[Cell.lst (([n,"one","two"]:List Str).map .str)]):=by simp[aA]
 generalize Ω++[Cell.lst (([n,"one","two"]:List Str).map .str)]=c at *;obtain⟨b,I⟩:∃b:Nat,(b:Int)=x%2:=⟨(x%2).toNat,by omega⟩
 have J:=yo (i:=b) F;have w:(c++[Cell.lst ((([n,"one","two"]:List Str).drop b).map .str)])[c.length]?=some (.lst ((([n,"one","two"]:List Str).drop b).map .str)):=aq;have B:ag [] c (c++[Cell.lst ((([n,"one","two"]:List Str).drop b).map .str)]):=ag.app
 have k:∀z∈([n,"one","two"]:List Str).drop b,z="one"\/z="two":=λz o=>by
  have:=List.mem_of_mem_drop o;simp only[List.mem_cons,List.not_mem_nil,or_false]at this;rcases this with rfl|rfl|rfl
  .exact E
  .exact .inl rfl
  .exact .inr rfl
 have K:(([n,"one","two"]:List Str).drop b).length<=3:=by rw[List.length_drop];simp
 generalize ([n,"one","two"]:List Str).drop b=C at *;generalize c++[Cell.lst (C.map .str)]=h at *
 have l:(m2 (bf .Mod) (aa 6) (ah (.int 2))) [some S,oR q,oR kq,oR A.T,oR A.D,a5,oI x,oS n,a8,a9,a10,a11,a12] c=.ok (.int b) c:=by
  rw[I];simp
 have M:Ia [some S,oR q,oR kq,oR A.T,oR A.D,a5,oI x,oS n,a8,a9,a10,a11,a12] Ω=.ok (.ref c.length) h:=by
  unfold Ia;rw[iU,G,av,oA,l,av,ue,av,oz,av,J]
 have N:bG Ia [some S,oR q,oR kq,oR A.T,oR A.D,a5,oI x,oS n,a8,a9,a10,a11,a12] Ω=.ok (.seq (.ref c.length)) h:=by
  rw[bT,M,av];exact bF (by rw[aP,aB w])
 have j:=H.bD (u.trans B);rw[cY,N,cu];refine cf (R:=λr=>∃d f au,r=.nx [some S,oR q,oR kq,oR A.T,oR A.D,a5,oI x,oS n,a8,a9,d,f,a12] au/\ag [] Ω au) (ds:=C.map .str) (λi m g=>g=h/\∃a b,m=[some S,oR q,oR kq,oR A.T,oR A.D,a5,oI x,oS n,a8,a9,a,b,a12]) ?_ ?_ ?_ fuel 0 _ _ (by rw[List.length_map];unfold fuel;omega) (Nat.zero_le _) ⟨rfl,_,_,rfl⟩
 .rintro i m g ⟨rfl,_⟩
  rw[cP,aP,aB w]
 .rintro i P m g p ⟨rfl,a,b,rfl⟩
  obtain⟨z,o,rfl⟩:=gu p;refine⟨[some S,oR q,oR kq,oR A.T,oR A.D,a5,oI x,oS n,a8,a9,oS z,b,a12],rfl,?_⟩;rcases k z (List.mem_of_getElem? o)with rfl|rfl
  .obtain⟨O,e⟩:=yS (S:=S) (q:=q) (kq:=kq) (a5:=a5) (a6:=oI x) (a7:=oS n) (a8:=a8) (a9:=a9) (a11:=b) (a12:=a12) t j.W j.x j.dd
   rw[e];exact⟨rfl,_,_,rfl⟩
  .obtain⟨O,e⟩:=yS (S:=S) (q:=q) (kq:=kq) (a5:=a5) (a6:=oI x) (a7:=oS n) (a8:=a8) (a9:=a9) (a11:=b) (a12:=a12) t j.W j.y j.dd
   rw[e];exact⟨rfl,_,_,rfl⟩
 .rintro m g ⟨rfl,a,b,rfl⟩
  exact⟨_,_,_,rfl,u.trans B⟩
theorem qE{a b:aR}(c:fg a)(e:lV b)(W:Tn Ω A.T A.t A.s A.r A.m A.d kvs L)(P:Px Ω A kvs ek L n X):∃au,aK 6 3 (y8 (aK 3 2 (yY a b)) (aK 1 1 yP) (aK 3 3 (qC a))) [.ref A.T,.str n,.ref X.R] Ω=.ok (.bl true) au/\ag [] Ω au:=
 HY (HH c e W P.h P.G) (λau K j p f=>Co c (W.bD K) P.h (P.G.bD K) f) W P.G.nd P.G.le P.Q
def MH(RG:aR):SM:=(dR (ve (fv (mN (bj RG) (ab (aa 3) (ab (ah (.str "one")) (ab (m2 aF (aa 4) (ah (.str "one"))) af))))) (fv (mN (bj RG) (ab (aa 3) (ab (ah (.str "two")) (ab (m2 aF (aa 4) (ah (.str "two"))) af))))))
 (aj (bP (ah (.bl false)))
 ai)
 ai)
theorem EE{RG:aR}(H:Pr Ω A kvs ek L "one" "two" X Y)(h:ρ[3]?=some (oR A.T))(i:ρ[4]?=some (oR A.D))(f:∀au n X,Tn au A.T A.t A.s A.r A.m A.d kvs L->Px au A kvs ek L n X->∃a,RG [.ref A.T,.str n,.ref X.R] au=.ok (.bl true) a/\ag [] au a):∃au,MH RG ρ Ω=.nx ρ au/\ag [] Ω au:=by
 obtain⟨b,j,g⟩:=f Ω _ _ H.W H.x;have c:=H.bD g;obtain⟨e,k,l⟩:=f b _ _ c.W c.y;have o:=eF (.inl H.dd:cj Ω A.D ek) H.x.q;have p:=eF (.inl c.dd:cj b A.D ek) c.y.q;refine⟨e,?_,g.trans l⟩;simp[MH,h,i,o,p,j,k]
def Cv(nm:Str):EM:=Ct (bG (m2 aF (aa 4) (ah (.str nm))))
def Kz(SP:aR):SM:=(dR (m2 (aG .NotEq) (m2 (aG .Eq) (aC "Things" "shape_of" SP (aa 3) (ab (ah (.str "one")) af)) (aC "Things" "shape_of" SP (aa 3) (ab (ah (.str "two")) af))) (aa 12))
 (aj (bP (ah (.bl false)))
 ai)
 ai)
theorem lJ{nm:EM}(P:Px Ω A kvs ek L n X)(a:Ω[A.D]?=some (.dK ek))(b:ρ[4]?=some (oR A.D))(c:nm ρ Ω=.ok (.str n) Ω):Ct (bG (m2 aF (aa 4) nm)) ρ Ω=.ok (.ref Ω.length) (Ω++[.lst ((bg X.v).map .str)]):=by
 have d:=eF (.inl a:cj Ω A.D ek) P.q;refine Cu P.Q ?_ (by have:=P.G.le;omega)
 rw[bT,cN,fF,b,fE,av,c,av,d,av];exact bF (by rw[aP,aB P.Q.ce])
theorem Pr.alike(H:Pr Ω A kvs ek L n n' X Y):(X.i=Y.i)↔bg X.v=bg Y.v:=by
 have a:=H.x.G.wd;have b:=H.y.G.wd;constructor
 .intro e
  rw[e,b]at a;exact(Option.some.inj a).symm
 .intro e
  rw[e]at a;exact(List.getElem?_inj (List.getElem?_eq_some_iff.mp a).1 H.W.nd).mp (a.trans b.symm)
theorem Ib{e:aR}(k:fg e)(H:Pr Ω A kvs ek L "one" "two" X Y) :
  ∃d au,(aj (aJ 12 (m2 (aG .Eq) (Cv "one") (Cv "two"))) (aj (Kz (aK 2 2 (Cm e))) ai)) [some S,oR q,oR kq,oR A.T,oR A.D,a5,a6,a7,a8,a9,a10,a11,a12] Ω=.nx [some S,oR q,oR kq,oR A.T,oR A.D,a5,a6,a7,a8,a9,a10,a11,d] au/\ag [] Ω au:=by
 have n:Cv "one" [some S,oR q,oR kq,oR A.T,oR A.D,a5,a6,a7,a8,a9,a10,a11,a12] Ω=_:=lJ H.x H.dd rfl rfl;have o:(Ω++[Cell.lst ((bg X.v).map .str)])[Ω.length]?=some (.lst ((bg X.v).map .str)):=aq;have l:ag [] Ω (Ω++[Cell.lst ((bg X.v).map .str)]):=ag.app;generalize Ω++[Cell.lst ((bg X.v).map .str)]=b at *;have f:=H.bD l;have p:Cv "two" [some S,oR q,oR kq,oR A.T,oR A.D,a5,a6,a7,a8,a9,a10,a11,a12] b=_:=lJ f.y f.dd rfl rfl;have r:(b++[Cell.lst ((bg Y.v).map .str)])[b.length]?=some (.lst ((bg Y.v).map .str)):=aq;have g:ag [] b (b++[Cell.lst ((bg Y.v).map .str)]):=ag.app;have j:=g.get _ _ o (by simp)
 generalize b++[Cell.lst ((bg Y.v).map .str)]=a at *;have c:=f.bD g;have m:=uf j r;have s:=Cn k c.W c.x.h c.x.G;have t:=Cn k c.W c.y.h c.y.G
 have u:decide (bg X.v=bg Y.v)=decide (X.i=Y.i):=by
  have:=H.alike
  by_cases h:X.i=Y.i
  .rw[decide_eq_true h,decide_eq_true (this.mp h)]
  .rw[decide_eq_false h,decide_eq_false λz=>h (this.mpr z)]
 rw[u]at m;refine⟨some (.bl (decide (X.i=Y.i))),a,?_,l.trans g⟩
 .have w:(aJ 12 (m2 (aG .Eq) (Cv "one") (Cv "two"))) [some S,oR q,oR kq,oR A.T,oR A.D,a5,a6,a7,a8,a9,a10,a11,a12] Ω=.nx [some S,oR q,oR kq,oR A.T,oR A.D,a5,a6,a7,a8,a9,a10,a11,some (.bl (decide (X.i=Y.i)))] a:=by
   rw[br,cN,n,av,p,av,m];rfl
  have B:Kz (aK 2 2 (Cm e)) [some S,oR q,oR kq,oR A.T,oR A.D,a5,a6,a7,a8,a9,a10,a11,some (.bl (decide (X.i=Y.i)))] a=.nx [some S,oR q,oR kq,oR A.T,oR A.D,a5,a6,a7,a8,a9,a10,a11,some (.bl (decide (X.i=Y.i)))] a:=by
   unfold Kz;rw[cR,cN,cN,eh c.W rfl (by decide)]
   have:(ab (ah (.str "one")) af:AM) [some S,oR q,oR kq,oR A.T,oR A.D,a5,a6,a7,a8,a9,a10,a11,some (.bl (decide (X.i=Y.i)))] a=.ok [.str "one"] a:=rfl;rw[this,av,s,jl,av,eh c.W rfl (by decide)]
   have:(ab (ah (.str "two")) af:AM) [some S,oR q,oR kq,oR A.T,oR A.D,a5,a6,a7,a8,a9,a10,a11,some (.bl (decide (X.i=Y.i)))] a=.ok [.str "two"] a:=rfl;rw[this,av,t,jl,av]
   have C:aG .Eq (.int X.i) (.int Y.i) a=.ok (.bl (decide (X.i=Y.i))) a:=by
    by_cases h:X.i=Y.i
    .simp[h]
    .have:¬ ((X.i:Int)=Y.i):=by omega
     simp[h,this]
   rw[C,av];cases decide (X.i=Y.i)<;>rfl
  rw[ae,w,ax,ae,B];rfl
end
section
variable{Ω au aQ:aD}{ρ:aX}{A:Ad}{kvs ek:List (Key×D)}{L L':List (List Str)}{n n' w:Str}{X Y X':Tx}{fp:List Nat}{x y:Int}{F F0:List D->Out Rs}{μ:Int->Int->Int->Int}{q kq th:Nat}{a5 a6 a7 a8 a9 a10 a11 a12:Option D}{ns:List Int}{ws:List Str}
def nmE(F:List D->Out Rs):EM:=(m2 aF (mN bB (ab (ah (.str "one")) (ab (ah (.str "two")) af))) (mN (cz F) (ab (aa 6) (ab (ah (.int 0)) (ab (ah (.int 2)) af)))))
def MI(F:List D->Out Rs):EM:=(m2 aF (mN bB (ab (ah (.int 3)) (ab (ah (.int 13)) af))) (mN (cz F) (ab (aa 6) (ab (ah (.int 2)) (ab (ah (.int 2)) af)))))
def KA(F:List D->Out Rs):EM:=(m2 aF (aa 1) (mN (cz F) (ab (aa 6) (ab (ah (.int 1)) (ab (MI F) af)))))
def KC(F0 F:List D->Out Rs)(a b c RG SP:aR):SM:=
 (aj (aJ 6 (mN (cz F0) (ab (aa 0) (ab (m2 (bf .Add) (ah (.int 2)) (aa 5)) af))))
 (aj (aJ 7 (nmE F))
 (aj (aJ 8 (KA F))
 (aj (aJ 9 (Ct (bG (m2 aF (aa 4) (aa 7)))))
 (aj (dE F a b)
 (aj (eE (du 10) (bG Ia) (Ky c))
 (aj (MH RG)
 (aj (aJ 12 (m2 (aG .Eq) (Cv "one") (Cv "two")))
 (aj (Kz SP)
 ai)))))))))
theorem Ic(b:iO μ F)(e:ρ[6]?=some (oI x)):∃n au,nmE F ρ Ω=.ok (.str n) au/\(n="one"\/n="two")/\ag [] Ω au:=by
 obtain⟨i,j,f⟩:=b x 0 2 (by omega) (by omega) (by omega)
 generalize μ x 0 2=y at *;have c:(Ω++[Cell.lst [.str "one",.str "two"]])[Ω.length]?=some (.lst [.str "one",.str "two"]):=aq;have g:(mN bB (ab (ah (.str "one")) (ab (ah (.str "two")) af))) ρ Ω=.ok (.ref Ω.length) (Ω++[Cell.lst [.str "one",.str "two"]]):=by simp[aA]
 have d:ag [] Ω (Ω++[Cell.lst [.str "one",.str "two"]]):=ag.app;generalize Ω++[Cell.lst [.str "one",.str "two"]]=a at *;have h:(mN (cz F) (ab (aa 6) (ab (ah (.int 0)) (ab (ah (.int 2)) af)))) ρ a=.ok (.int y) a:=by simp[e,f]
 have:y=0\/y=1:=by omega
 unfold nmE;rw[cN,g,av,h,av];rcases this with rfl|rfl
 .exact⟨"one",a,bx c rfl,.inl rfl,d⟩
 .exact⟨"two",a,bx c rfl,.inr rfl,d⟩
theorem Ie(c:iO μ F)(f:ρ[6]?=some (oI x))(i:ρ[1]?=some (oR q))(k:Ω[q]?=some (.lst (ws.map .str)))(d:ws.length=13):∃w au,KA F ρ Ω=.ok (.str w) au/\w∈ws/\ag [] Ω au:=by
 obtain⟨A,B,l⟩:=c x 2 2 (by omega) (by omega) (by omega)
 generalize μ x 2 2=y at *;have g:(Ω++[Cell.lst [.int 3,.int 13]])[Ω.length]?=some (.lst [.int 3,.int 13]):=aq;have n:(mN bB (ab (ah (.int 3)) (ab (ah (.int 13)) af))) ρ Ω=.ok (.ref Ω.length) (Ω++[Cell.lst [.int 3,.int 13]]):=by simp[aA]
 have h:ag [] Ω (Ω++[Cell.lst [.int 3,.int 13]]):=ag.app;generalize Ω++[Cell.lst [.int 3,.int 13]]=a at *;have o:(mN (cz F) (ab (aa 6) (ab (ah (.int 2)) (ab (ah (.int 2)) af)))) ρ a=.ok (.int y) a:=by simp[f,l]
 have p:∃m:Int,(0<m/\m<=13)/\MI F ρ Ω=.ok (.int m) a:=by
  have:y=0\/y=1:=by omega
  unfold MI;rw[cN,n,av,o,av];rcases this with rfl|rfl
  .exact⟨3,by omega,bx g rfl⟩
  .exact⟨13,by omega,bx g rfl⟩
 obtain⟨m,⟨r,m1⟩,s⟩:=p;obtain⟨C,E,t⟩:=c x 1 m (by omega) (by omega) r
 generalize μ x 1 m=z at *;obtain⟨b,rfl⟩:∃b:Nat,(b:Int)=z:=⟨z.toNat,by omega⟩
 have e:=h.get _ _ k (by simp)
 obtain⟨w,d⟩:∃w,ws[b]?=some w:=⟨ws[b]'(by omega),List.getElem?_eq_getElem _⟩
 have u:=bx e (L2.dw (xs:=ws.map D.str) (j:=b) (v:=.str w) (by simp[d]))
 refine⟨w,a,?_,List.mem_of_getElem? d,h⟩;unfold KA;simp[i,f,s,t,u]
theorem BJ(Q:oi (λns k=>ns.getD k 0) F0)(p:iO μ F){G i r I J R:aR}(hI:oH G)(K:fg i)(hS:oN r)(hG:sx I)(hW:sy J)(hO:lV R)(H:Pr Ω A kvs ek L "one" "two" X Y)(hl:L.length<=500)(hq:A.E_[q]?=some (.lst (ws.map .str)))(hw:ws.length=13)(hv:∀z∈ws,oG z){k:Nat} :
  ∃b6 b7 b8 c j l s d t f au,KC F0 F (aK 5 3 (yK i r J)) (aK 6 5 (yR (aK 6 4 (vL G i r I)))) (aK 3 3 (qC i)) (aK 6 3 (y8 (aK 3 2 (yY i R)) (aK 1 1 yP) (aK 3 3 (qC i)))) (aK 2 2 (Cm i)) [some (SC ns),oR q,oR kq,oR A.T,oR A.D,oI k,a6,a7,a8,a9,a10,a11,a12] Ω=.nx [some (SC ns),oR q,oR kq,oR A.T,oR A.D,oI k,b6,b7,b8,c,j,l,s] au/\Pr au A kvs ek f "one" "two" d t/\f.length<=L.length+1/\jK d X/\jK t Y:=by
 have hc:=Q ns (2+k);obtain⟨x,hx⟩:∃x,ns.getD (2+k) 0=x:=⟨_,rfl⟩;simp only[hx]at hc
 have r1:(aJ 6 (mN (cz F0) (ab (aa 0) (ab (m2 (bf .Add) (ah (.int 2)) (aa 5)) af)))) [some (SC ns),oR q,oR kq,oR A.T,oR A.D,oI k,a6,a7,a8,a9,a10,a11,a12] Ω=.nx [some (SC ns),oR q,oR kq,oR A.T,oR A.D,oI k,oI x,a7,a8,a9,a10,a11,a12] Ω:=by
  have e:(m2 (bf .Add) (ah (.int 2)) (aa 5)) [some (SC ns),oR q,oR kq,oR A.T,oR A.D,oI k,a6,a7,a8,a9,a10,a11,a12] Ω=.ok (.int ((2+k:Nat):Int)) Ω:=by
   simp
  rw[br,fc,aV];have e':aa 0 [some (SC ns),oR q,oR kq,oR A.T,oR A.D,oI k,a6,a7,a8,a9,a10,a11,a12] Ω=.ok (SC ns) Ω:=rfl;rw[e',av,aV,e];simp[hc,-Int.natCast_add]
 obtain⟨n,u,e2,hn,K1⟩:=Ic (Ω:=Ω) p (ρ:=[some (SC ns),oR q,oR kq,oR A.T,oR A.D,oI k,oI x,a7,a8,a9,a10,a11,a12]) (x:=x) rfl
 have r2:(aJ 7 (nmE F)) [some (SC ns),oR q,oR kq,oR A.T,oR A.D,oI k,oI x,a7,a8,a9,a10,a11,a12] Ω=.nx [some (SC ns),oR q,oR kq,oR A.T,oR A.D,oI k,oI x,oS n,a8,a9,a10,a11,a12] u:=by
  rw[br,e2];rfl
 have H1:=H.bD K1;obtain⟨w,g,e3,U,K2⟩:=Ie (Ω:=u) p (ρ:=[some (SC ns),oR q,oR kq,oR A.T,oR A.D,oI k,oI x,oS n,a8,a9,a10,a11,a12]) (x:=x) rfl rfl (H1.bs.get _ _ hq (by simp)) hw
 have r3:(aJ 8 (KA F)) [some (SC ns),oR q,oR kq,oR A.T,oR A.D,oI k,oI x,oS n,a8,a9,a10,a11,a12] u=.nx [some (SC ns),oR q,oR kq,oR A.T,oR A.D,oI k,oI x,oS n,oS w,a9,a10,a11,a12] g:=by
  rw[br,e3];rfl
 have H2:=H1.bD K2;have V:=hv w U
 have y:∃c d t f b a,(aJ 9 (Ct (bG (m2 aF (aa 4) (aa 7))))) [some (SC ns),oR q,oR kq,oR A.T,oR A.D,oI k,oI x,oS n,oS w,a9,a10,a11,a12] g=.nx [some (SC ns),oR q,oR kq,oR A.T,oR A.D,oI k,oI x,oS n,oS w,c,a10,a11,a12] b/\dE F (aK 5 3 (yK i r J)) (aK 6 5 (yR (aK 6 4 (vL G i r I)))) [some (SC ns),oR q,oR kq,oR A.T,oR A.D,oI k,oI x,oS n,oS w,c,a10,a11,a12] b=.nx [some (SC ns),oR q,oR kq,oR A.T,oR A.D,oI k,oI x,oS n,oS w,c,a10,a11,a12] a/\Pr a A kvs ek f "one" "two" d t/\f.length<=L.length+1/\jK d X/\jK t Y:=by
  have B:∀{M:Str}{Z N:Tx},Pr g A kvs ek L n M Z N->∃c d f b a,(aJ 9 (Ct (bG (m2 aF (aa 4) (aa 7))))) [some (SC ns),oR q,oR kq,oR A.T,oR A.D,oI k,oI x,oS n,oS w,a9,a10,a11,a12] g=.nx [some (SC ns),oR q,oR kq,oR A.T,oR A.D,oI k,oI x,oS n,oS w,c,a10,a11,a12] b/\dE F (aK 5 3 (yK i r J)) (aK 6 5 (yR (aK 6 4 (vL G i r I)))) [some (SC ns),oR q,oR kq,oR A.T,oR A.D,oI k,oI x,oS n,oS w,c,a10,a11,a12] b=.nx [some (SC ns),oR q,oR kq,oR A.T,oR A.D,oI k,oI x,oS n,oS w,c,a10,a11,a12] a/\Pr a A kvs ek f n M d N/\f.length<=L.length+1/\jK d Z:=by
   intro M Z N O;have C:=lJ (nm:=aa 7) O.x O.dd (ρ:=[some (SC ns),oR q,oR kq,oR A.T,oR A.D,oI k,oI x,oS n,oS w,a9,a10,a11,a12]) rfl rfl;have g4:(g++[Cell.lst ((bg Z.v).map .str)])[g.length]?=some (.lst ((bg Z.v).map .str)):=aq;have H4:Pr (g++[Cell.lst ((bg Z.v).map .str)]) A kvs ek L n M Z N:=O.bD ag.app;obtain⟨d,f,a,E,o,h,m⟩:=BI (S:=SC ns) (q:=q) (kq:=kq) (a5:=oI k) (a10:=a10) (a11:=a11) (a12:=a12) (x:=x) p hI K hS hG hW H4 V hl g4 O.ln;exact⟨_,d,f,_,a,by rw[br,C];rfl,E,o,h,m⟩
  rcases hn with rfl|rfl
  .obtain⟨c,d,f,b,a,C,E,o,h,m⟩:=B H2
   exact⟨c,d,Y,f,b,a,C,E,o,h,m,rfl,rfl,rfl,rfl⟩
  .obtain⟨c,d,f,b,a,C,E,o,h,m⟩:=B H2.swap
   exact⟨c,X,d,f,b,a,C,E,o.swap,h,⟨rfl,rfl,rfl,rfl⟩,m⟩
 obtain⟨c,d,t,f,b,a,r4,r5,o,h,a0,b0⟩:=y;obtain⟨j,l,e0,r6,K6⟩:=ED (S:=SC ns) (q:=q) (kq:=kq) (a5:=oI k) (a8:=oS w) (a9:=c) (a10:=a10) (a11:=a11) (a12:=a12) (x:=x) K o hn;have H6:=o.bD K6;obtain⟨f0,r7,K7⟩:=EE (RG:=aK 6 3 (y8 (aK 3 2 (yY i R)) (aK 1 1 yP) (aK 3 3 (qC i)))) (ρ:=[some (SC ns),oR q,oR kq,oR A.T,oR A.D,oI k,oI x,oS n,oS w,c,j,l,a12]) H6 rfl rfl (λau n X W P=>qE K hO W P)
 have H7:=H6.bD K7;obtain⟨s,c0,r8,K8⟩:=Ib (S:=SC ns) (q:=q) (kq:=kq) (a5:=oI k) (a6:=oI x) (a7:=oS n) (a8:=oS w) (a9:=c) (a10:=j) (a11:=l) (a12:=a12) K H7;refine⟨oI x,oS n,oS w,c,j,l,s,d,t,f,c0,?_,H7.bD K8,h,a0,b0⟩;unfold KC;rw[ae,r1,ax,ae,r2,ax,ae,r3,ax,ae,r4,ax,ae,r5,ax,ae,r6,ax,ae,r7,ax,r8]
theorem jK.trans{X Y Z:Tx}(h:jK X Y)(h':jK Y Z):jK X Z:=⟨h.1.trans h'.1,h.2.1.trans h'.2.1,h.2.2.1.trans h'.2.2.1,h.2.2.2.trans h'.2.2.2⟩
def MJ(a b RG:aR):SM:=
 (aj (ck (aC "Things" "move" a (aa 3) (ab (ah (.str "one")) (ab (m2 aF (aa 2) (ah (.int 1))) af))))
 (aj (bP (gh (m2 (aG .Eq) (aC "Things" "kind_of" b (aa 3) (ab (ah (.str "one")) af)) (m2 aF (aa 2) (ah (.int 1)))) (mN (bj RG) (ab (aa 3) (ab (ah (.str "one")) (ab (m2 aF (aa 4) (ah (.str "one"))) af))))))
 ai))
def MK(F0 F:List D->Out Rs)(a c d b e f g RG SP h i:aR):SM:=
 (aj (aJ 1 (mN (bj a) (ab (mN (cz F0) (ab (aa 0) (ab (ah (.int 0)) af))) (ab (ah (.int 13)) af))))
 (aj (aJ 2 (mN (bj a) (ab (mN (cz F0) (ab (aa 0) (ab (ah (.int 1)) af))) (ab (ah (.int 2)) af))))
 (aj (aJ 3 (mN (dB "Things" c) (ab (mN (bj d) (ab (aa 2) af)) af)))
 (aj (ck (aC "Things" "make" b (aa 3) (ab (ah (.str "one")) (ab (m2 aF (aa 2) (ah (.int 0))) af))))
 (aj (ck (aC "Things" "make" b (aa 3) (ab (ah (.str "two")) (ab (m2 aF (aa 2) (ah (.int 1))) af))))
 (aj (aJ 4 (eN "one" "two" (mN bB af) (mN bB af)))
 (aj (eE (du 5) (dH (ab (ah (.int 36)) af)) (KC F0 F e f g RG SP))
 (MJ h i RG))))))))
theorem EG{d o p:aR}(r:fg d)(F:oJ o)(I:lV p)(H:Pr Ω A kvs ek L "one" "two" X Y){h g:Nat}{B e:Str}(C:A.E_[kq]?=some (.lst [.str B,.str e]))(s:To BE A.E_ A.t h g (bare [B,e]) λn=>[n]){S:D} :
  ∃au,h8 (MJ (aK 4 3 (E8 d o)) (aK 2 2 (EZ d)) (aK 6 3 (y8 (aK 3 2 (yY d p)) (aK 1 1 yP) (aK 3 3 (qC d)))) [some S,oR q,oR kq,oR A.T,oR A.D,a5,a6,a7,a8,a9,a10,a11,a12] Ω)=.ok (.bl true) au:=by
 obtain⟨⟨f,b,J⟩,K,_⟩:=s;have M:=H.bs.get _ _ J (by simp)
 have N:=K.keep H.bs;have k:=H.bs.get _ _ C (by simp)
 have O:aF (.ref kq) (.int 1) Ω=.ok (.str e) Ω:=bx k rfl;obtain⟨a,P,u,E,w⟩:=HK r F H.W H.x.h H.x.G M N (kd:=e) (by rw[c8];simp)
 have U:(ck (aC "Things" "move" (aK 4 3 (E8 d o)) (aa 3) (ab (ah (.str "one")) (ab (m2 aF (aa 2) (ah (.int 1))) af)))) [some S,oR q,oR kq,oR A.T,oR A.D,a5,a6,a7,a8,a9,a10,a11,a12] Ω=.nx [some S,oR q,oR kq,oR A.T,oR A.D,a5,a6,a7,a8,a9,a10,a11,a12] a:=by
  rw[cy,eh H.W rfl (by decide)]
  simp[O,P]
 have a2:=H.x.G.lt;have a3:=H.x.lt;have nD:=H.x.nD;have V:=H.x.Q.keep w (by simp;omega) (λj Z=>by have:=H.x.lo j Z;simp;omega)
 have d1:=w.get _ _ H.dd (by simp only[List.mem_cons,List.not_mem_nil,or_false]at nD ⊢;omega)
 have lk:=bU C;have lb:=H.lb;have a1:=H.W.lt;have y:aF (.ref kq) (.int 1) a=.ok (.str e) a:=bx (w.get _ _ k (by simp;omega)) rfl
 have e2:=HG r u H.x.h E;obtain⟨m,e3,K3⟩:=qE (ek:=ek) (A:=A) (X:=⟨X.c,X.l,X.R,X.i,e,X.v,X.js⟩) r I u ⟨H.x.h,H.x.q,E,V,H.x.lt,H.x.nd,H.x.lo,H.x.nD⟩;have i2:=eF (.inl d1:cj a A.D ek) H.x.q
 have z:aC "Things" "kind_of" (aK 2 2 (EZ d)) (aa 3) (ab (ah (.str "one")) af) [some S,oR q,oR kq,oR A.T,oR A.D,a5,a6,a7,a8,a9,a10,a11,a12] a=.ok (.str e) a:=by
  rw[eh u rfl (by decide)]
  simp[e2]
 refine⟨m,?_⟩;unfold MJ;rw[ae,U,ax,ae,cX,oq,cN,z,av];have:(m2 aF (aa 2) (ah (.int 1))) [some S,oR q,oR kq,oR A.T,oR A.D,a5,a6,a7,a8,a9,a10,a11,a12] a=.ok (.str e) a:=y;rw[this,av,sG,decide_eq_true rfl,av,cw,Ce]
 have:(mN (bj (aK 6 3 (y8 (aK 3 2 (yY d p)) (aK 1 1 yP) (aK 3 3 (qC d))))) (ab (aa 3) (ab (ah (.str "one")) (ab (m2 aF (aa 4) (ah (.str "one"))) af)))) [some S,oR q,oR kq,oR A.T,oR A.D,a5,a6,a7,a8,a9,a10,a11,a12] a=.ok (.bl true) m:=by
  simp[i2,e3]
 rw[this];rfl
theorem kb{k:Key}{d:D}:bC (bH kvs k d) k=some d:=by rw[gH,if_pos rfl]
theorem yT(G:oi (λns k=>ns.getD k 0) F0)(f0:iO μ F){T l V GR WI WO U IN Z CK:aR}(hN:EC U)(hw:yy IN)(hA:yB Z)(hC:oJ CK)(hI:oH T)(hT:fg l)(hS:oN V)(hG:sx GR)(hW:sy WI)(hO:lV WO) :
  ∃au,aK 13 1 (MK F0 F U (aK 2 2 (HR (aK 1 1 Eo))) (aK 3 1 (HP (aK 2 2 (Em IN (aK 2 2 BB))) (aK 4 4 (BC Z (aK 3 2 yZ))) Z)) (aK 3 3 (E7 T CK (aK 2 2 Cp))) (aK 5 3 (yK l V WI)) (aK 6 5 (yR (aK 6 4 (vL T l V GR)))) (aK 3 3 (qC l)) (aK 6 3 (y8 (aK 3 2 (yY l WO)) (aK 1 1 yP) (aK 3 3 (qC l)))) (aK 2 2 (Cm l)) (aK 4 3 (E8 l CK)) (aK 2 2 (EZ l))) [SC ns] []=.ok (.bl true) au:=by
 rw[aT (by rfl)]
 have e0:aL 13 [SC ns]=[some (SC ns),none,none,none,none,none,none,none,none,none,none,none,none]:=rfl;rw[e0];have h0:=G ns 0;have h1:=G ns 1;obtain⟨x0,g0⟩:∃x,ns.getD 0 0=x:=⟨_,rfl⟩;obtain⟨x1,i0⟩:∃x,ns.getD 1 0=x:=⟨_,rfl⟩;simp only[g0]at h0;simp only[i0]at h1;obtain⟨ws,q,o,_,hv,hl,e1,g1,K1⟩:=hN [] x0 13 (by omega) (by omega)
 have r1:(aJ 1 (mN (bj U) (ab (mN (cz F0) (ab (aa 0) (ab (ah (.int 0)) af))) (ab (ah (.int 13)) af)))) [some (SC ns),none,none,none,none,none,none,none,none,none,none,none,none] []=.nx [some (SC ns),oR q,none,none,none,none,none,none,none,none,none,none,none] o:=by
  have e:(mN (cz F0) (ab (aa 0) (ab (ah (.int 0)) af))) [some (SC ns),none,none,none,none,none,none,none,none,none,none,none,none] []=.ok (.int x0) []:=by
   have:F0 [SC ns,.int 0]=.ok (false,.int x0):=h0;simp[this]
  rw[br,fc,aV,e];have:U [.int x0,.int 13] []=.ok (.ref q) o:=e1;simp[this]
 obtain⟨ks,kq,I,J,j0,l0,e2,g2,K2⟩:=hN o x1 2 (by omega) (by omega)
 have r2:(aJ 2 (mN (bj U) (ab (mN (cz F0) (ab (aa 0) (ab (ah (.int 1)) af))) (ab (ah (.int 2)) af)))) [some (SC ns),oR q,none,none,none,none,none,none,none,none,none,none,none] o=.nx [some (SC ns),oR q,oR kq,none,none,none,none,none,none,none,none,none,none] I:=by
  have e:(mN (cz F0) (ab (aa 0) (ab (ah (.int 1)) af))) [some (SC ns),oR q,none,none,none,none,none,none,none,none,none,none,none] o=.ok (.int x1) o:=by
   have:F0 [SC ns,.int 1]=.ok (false,.int x1):=h1;simp[this]
  rw[br,fc,aV,e];have:U [.int x1,.int 2] o=.ok (.ref kq) I:=e2;simp[this]
 have J:=J (by omega)
 obtain⟨k0,k1,rfl⟩:∃k0 k1,ks=[k0,k1]:=by
  match ks,l0 with
  |[a,b],_=>exact⟨a,b,rfl⟩
 obtain⟨t,h,g,j,e3,a0,K3⟩:=HQ hw hA g2 J (by simp) j0
 obtain⟨s,r,m,d,C,e4,W4,K4⟩:=Er (Ω:=j) (t:=t)
 have r3:(aJ 3 (mN (dB "Things" (aK 2 2 (HR (aK 1 1 Eo)))) (ab (mN (bj (aK 3 1 (HP (aK 2 2 (Em IN (aK 2 2 BB))) (aK 4 4 (BC Z (aK 3 2 yZ))) Z))) (ab (aa 2) af)) af))) [some (SC ns),oR q,oR kq,none,none,none,none,none,none,none,none,none,none] I=.nx [some (SC ns),oR q,oR kq,oR j.length,none,none,none,none,none,none,none,none,none] C:=by
  simp[e3,e4]
 have m0:=(K2.trans K3).get _ _ g1 (by simp)
 have K:=K3.get _ _ g2 (by simp)
 obtain⟨⟨f,b,ht⟩,hs,o0⟩:=id a0;have p0:=K4.get _ _ K (by simp)
 have b0:oG "one":=by unfold oG;decide
 have c0:oG "two":=by unfold oG;decide
 obtain⟨c1,z,e5,W5,G5,K5,u0⟩:=Cq (n:="one") (kd:=k0) hI hC W4 (K4.get _ _ ht (by simp)) (hs.keep K4) (by rw[c8];simp) b0 rfl (by simp) rfl
 have v0:=W4.lt;have w0:=bU W4.dk;have E:ag [] j z:=ag.new K4 K5 (by simp;omega)
 have i4:aF (.ref kq) (.int 0) C=.ok (.str k0) C:=bx p0 rfl
 have r4:(ck (aC "Things" "make" (aK 3 3 (E7 T CK (aK 2 2 Cp))) (aa 3) (ab (ah (.str "one")) (ab (m2 aF (aa 2) (ah (.int 0))) af)))) [some (SC ns),oR q,oR kq,oR j.length,none,none,none,none,none,none,none,none,none] C=.nx [some (SC ns),oR q,oR kq,oR j.length,none,none,none,none,none,none,none,none,none] z:=by
  rw[cy,eh W4 rfl (by decide)]
  simp[i4,e5]
 have q0:bC (bH [] (.inr "one") (.ref c1)) (.inr "two":Key)=(none:Option D):=by rw[gH,if_neg (by decide)];rfl
 obtain⟨c2,c,e6,W6,G6,K6,y0⟩:=Cq (n:="two") (kd:=k1) hI hC W5 (E.get _ _ ht (by simp)) (hs.keep E) (by rw[c8];simp) c0 q0 (by simp[bH]) rfl
 have i5:aF (.ref kq) (.int 1) z=.ok (.str k1) z:=bx (E.get _ _ K (by simp)) rfl
 have r5:(ck (aC "Things" "make" (aK 3 3 (E7 T CK (aK 2 2 Cp))) (aa 3) (ab (ah (.str "two")) (ab (m2 aF (aa 2) (ah (.int 1))) af)))) [some (SC ns),oR q,oR kq,oR j.length,none,none,none,none,none,none,none,none,none] z=.nx [some (SC ns),oR q,oR kq,oR j.length,none,none,none,none,none,none,none,none,none] c:=by
  rw[cy,eh W5 rfl (by decide)]
  simp[i5,e6]
 have r0:ag [] j c:=ag.new E K6 (by simp;omega)
 have z0:=G5.lt;have A0:=G6.lt;have B0:=bU G5.sl;have C0:=bU G6.sl;have s0:=G5.keep K6 (by simp;omega) (by simp;omega)
 let y:List (Key×D):=bH (bH [] (.inr "one") (.ref (c.length+1))) (.inr "two") (.ref (c.length+2))
 have e7:(eN "one" "two" (mN bB af) (mN bB af)) [some (SC ns),oR q,oR kq,oR j.length,none,none,none,none,none,none,none,none,none] c=.ok (.ref c.length) (c++[.dK y,.lst [],.lst []]):=by
  have h1:(mN bB af) [some (SC ns),oR q,oR kq,oR j.length,none,none,none,none,none,none,none,none,none] (c++[Cell.dK []])=.ok (.ref (c.length+1)) (c++[.dK [],.lst []]):=by simp[aA]
  have h2:(mN bB af) [some (SC ns),oR q,oR kq,oR j.length,none,none,none,none,none,none,none,none,none] (c++[Cell.dK [],.lst []])=.ok (.ref (c.length+2)) (c++[.dK [],.lst [],.lst []]):=by simp[aA]
  have h3:(c++[Cell.dK [],.lst [],.lst []])[c.length]?=some (.dK []):=aq;unfold eN;rw[h1,av,h2,av,h3]
  show aw.ok _ ((c++[Cell.dK [],.lst [],.lst []]).set c.length (.dK y))=_
  rw[c9]
 have r6:(aJ 4 (eN "one" "two" (mN bB af) (mN bB af))) [some (SC ns),oR q,oR kq,oR j.length,none,none,none,none,none,none,none,none,none] c=.nx [some (SC ns),oR q,oR kq,oR j.length,oR c.length,none,none,none,none,none,none,none,none] (c++[.dK y,.lst [],.lst []]):=by
  rw[br,e7];rfl
 have K7:ag [] c (c++[Cell.dK y,.lst [],.lst []]):=ag.app;have g7:(c++[Cell.dK y,.lst [],.lst []])[c.length]?=some (.dK y):=aq;have g8:(c++[Cell.dK y,.lst [],.lst []])[c.length+1]?=some (.lst []):=by rw[List.getElem?_append_right (by omega)];simp
 have g9:(c++[Cell.dK y,.lst [],.lst []])[c.length+2]?=some (.lst []):=by rw[List.getElem?_append_right (by omega)];simp
 have l7:(c++[Cell.dK y,.lst [],.lst []]).length=c.length+3:=by simp
 generalize c++[Cell.dK y,.lst [],.lst []]=M at *
 let A:Ad:=⟨j,c.length+3,j.length,t,s,r,m,d,c.length⟩
 have P7:Pr M A (bH (bH [] (.inr "one") (.ref c1)) (.inr "two") (.ref c2)) y [[]] "one" "two" ⟨c1,c1+1,c.length+1,0,k0,[],[]⟩ ⟨c2,c2+1,c.length+2,0,k1,[],[]⟩:=by
  have D0:=bU W6.dk;refine⟨W6.bD K7,⟨?_,?_,s0.bD K7,⟨g8,.nil⟩,?_,by simp,by simp,?_⟩,⟨kb,kb,G6.bD K7,⟨g9,.nil⟩,?_,by simp,by simp,?_⟩,?_,by simp,g7,?_,?_,r0.trans K7,Nat.le_refl _⟩
  .rw[gH,if_neg (by decide),kb]
  .show bC (bH (bH ([]:List (Key×D)) (.inr "one") (.ref (c.length+1))) (.inr "two") (.ref (c.length+2))) _=_
   rw[gH,if_neg (by decide),kb]
  all_goals simp only[A,List.mem_cons,List.not_mem_nil,or_false,List.forall_mem_cons,not_or,forall_eq_or_imp,forall_eq]
  all_goals omega
 have t0:dH (ab (ah (.int 36)) af) [some (SC ns),oR q,oR kq,oR j.length,oR c.length,none,none,none,none,none,none,none,none] M=.ok (.ints 0 36) M:=rfl;unfold MK;rw[ae,r1,ax,ae,r2,ax,ae,r3,ax,ae,r4,ax,ae,r5,ax,ae,r6,ax,ae,cY,t0,cu];refine cf (R:=λr=>∃au,h8 (sq r _)=.ok (.bl true) au) (ds:=intsFrom 0 36) (λi ρ B=>∃b5 N O P Q p u w X Y L,ρ=[some (SC ns),oR q,oR kq,oR j.length,oR c.length,b5,N,O,P,Q,p,u,w]/\Pr B A (bH (bH [] (.inr "one") (.ref c1)) (.inr "two") (.ref c2)) y L "one" "two" X Y/\L.length<=1+i) ?_ ?_ ?_ fuel 0 _ _ (by rw[dS];unfold fuel;omega) (Nat.zero_le _) ⟨none,none,none,none,none,none,none,none,_,_,_,rfl,P7,by simp⟩
 .rintro i ρ B _
  rfl
 .rintro i dd ρ B hd ⟨b5,N,O,P,Q,p,u,w,X,Y,L,rfl,H,hL⟩
  obtain⟨rfl,G0⟩:=fD hd;refine⟨[some (SC ns),oR q,oR kq,oR j.length,oR c.length,oI (0+(i:Int)),N,O,P,Q,p,u,w],rfl,?_⟩;rw[Int.zero_add];obtain⟨d6,d7,d8,d9,I0,ML,MM,X',Y',L',J0,e,H',K0,_,_⟩:=BJ (ns:=ns) (kq:=kq) (k:=i) (a6:=N) (a7:=O) (a8:=P) (a9:=Q) (a10:=p) (a11:=u) (a12:=w) G f0 hI hT hS hG hW hO H (by omega) m0 hl hv
  rw[show KC F0 F (aK 5 3 (yK l V WI)) (aK 6 5 (yR (aK 6 4 (vL T l V GR)))) (aK 3 3 (qC l)) (aK 6 3 (y8 (aK 3 2 (yY l WO)) (aK 1 1 yP) (aK 3 3 (qC l)))) (aK 2 2 (Cm l)) [some (SC ns),oR q,oR kq,oR j.length,oR c.length,oI i,N,O,P,Q,p,u,w] B=_ from e]
  exact⟨_,_,_,_,_,_,_,_,X',Y',L',rfl,H',by omega⟩
 .rintro ρ B ⟨b5,N,O,P,Q,p,u,w,X,Y,L,rfl,H,hL⟩
  exact EG (S:=SC ns) (q:=q) (kq:=kq) (a5:=b5) (a6:=N) (a7:=O) (a8:=P) (a9:=Q) (a10:=p) (a11:=u) (a12:=w) hT hC hO H K a0
end
end Mir
namespace Mir
open PySem PySem.Spec PyProof.Rows L2
structure cA(K:PySem.W.Frag)(C:Addr)(x qual:Str)(st:Stmt)(f:Addr)(fd:FuncData):Prop where
 me:Meth K C x f
 fn:EO K x qual st f fd
theorem yU{K:PySem.W.Frag}{C:Addr}{x qual:Str}{st:Stmt}{f:Addr}{oc:Value}{j g:Option Addr}{e:Array (Option Value)}{kV d h b ct:Value}(a:PySem.W.findIn K (.ref C) x=some (some (.ref f)))
  (l:K.lookup f=some ⟨oc,j,.func (PySem.W.fnOf x qual (bQ st) (bR st) (ao st) .none kV d h g b ct),e⟩) (c:PySem.W.codeIn K b qual=true) (k:PySem.W.keepIn K (.ref f)=true) (i:PySem.W.isFn K (.ref f)=true):cA K C x qual st f (PySem.W.fnOf x qual (bQ st) (bR st) (ao st) .none kV d h g b ct):=⟨⟨a,i,k⟩,qX l c k⟩
variable [aO]
section
variable{P:Program}{w:World}{K:PySem.W.Frag}{mg:Str->Option Value}{base h:Heap}{T:aM}{k:Nat}{x qual C:Str}{Ca f:Addr}{st:Stmt}{fd:FuncData}{N ps td:List Str}{c:SM}
theorem gv(F:EO K x qual st f fd):Br K x qual st .none f fd:=⟨F.ex,F.kp⟩
theorem aS.ic(W:aS P w K mg base T k)(X:K.In h)(G:h.Ns mainGlobals mg)(a:dG K x st f fd)(e:bc N ps (ao st)=true)(g:bh T td st N=some c)(i:∀(kV b j:Value) (l:Option Addr) (d ct:Value) (us:List Value),us.length=ps.length->bindArgs (PySem.W.fnOf x x (bQ st) (bR st) (ao st) .none kV b j l d ct) ⟨us,[]⟩=pure (ps.zip us)) :
  aS P w K mg base (T.fC x (aK N.length ps.length c)) (k+1):=W.fC (PySem.W.mg_of X G a.ns) a.fn.kp (a.fn.binds i) (cZ W (gv a.fn) e g)
theorem aS.fL(W:aS P w K mg base T k)(e:mg C=some (.ref Ca))(g:jO K Ca)(a:cA K Ca x qual st f fd)(h:bc N ps (ao st)=true)(i:bh T td st N=some c)(j:∀(kV b l:Value) (m:Option Addr) (d ct:Value) (us:List Value),us.length=ps.length->bindArgs (PySem.W.fnOf x qual (bQ st) (bR st) (ao st) .none kV b l m d ct) ⟨us,[]⟩=pure (ps.zip us)) :
  aS P w K mg base (T.cB C x (aK N.length ps.length c)) (k+1):=W.cB e g a.me (a.fn.binds j) (cZ W (gv a.fn) h i)
end
end Mir
namespace EH
open PySem PySem.Spec PyProof.Rows L2 Mir
noncomputable def top(i:Nat):Stmt:=PySem.Challenge.pw_taglook_k66_slots_and_values.main.body.getD i (.Pass ⟨0,0,0,0⟩)
instance clos:aO:=⟨λ_=>⟨"","",bQ (top 0),[],ao (top 0),[],[]⟩,λ_=>0⟩
noncomputable def td:List Str:=[]
def MN:aM:=((((((((((((((((((((((((({}:aM).gR "_law_silent" (.dct [] [])).gR "MOST_OWN_WORDS" (.int 12)).gR "MOST_THINGS" (.int 40)).gR "MOST_ELDERS" (.int 5)).gR "MOST_KINDS" (.int 12)).gR "MOST_LETTERS" (.int 8)).gR "LETTERS" (.str "abcdefghijklmnopqrstuvwxyz")).cQ "elders" ["House"]).cQ "lines" ["House"]).cQ "house" ["Town"]).cQ "facts" ["Town"]).cQ "tags" ["Town"]).cQ "last_deed" ["Town"]).cQ "teller" ["Facts"]).cQ "strengths" ["Facts"]).cQ "asked" ["Facts"]).cQ "rows" ["Shapes"]).cQ "numbers" ["Shapes"]).cQ "kind" ["Thing"]).cQ "shape" ["Thing"]).cQ "slots" ["Thing"]).cQ "town" ["Things"]).cQ "shapes" ["Things"]).cQ "made" ["Things"])
noncomputable def Rj:List Str:=["_law_script","_law_k"]
noncomputable def Rk:List Str:=["_law_script","_law_k"]
def Rl:SM:=oK
def Ta:aR:=aK 2 2 Rl
def F0:List Mir.D->Out Rs:=pureOf Ta
def MO:aM:=MN.vG "_law_cell" F0
theorem Tb:bc Rj Rk (ao (top 50))=true:=by decide +kernel
theorem Tc:bh MN td (top 50) Rj=some Rl:=rfl
noncomputable def Rm:List Str:=["_law_cell_here","_law_turn","_law_many","_law_rest","_law_k","_law_turns","_law_one","_law_two"]
noncomputable def Rn:List Str:=["_law_cell_here","_law_turn","_law_many"]
def Ro:SM:=mU
def Td:aR:=aK 8 3 Ro
def F1:List Mir.D->Out Rs:=pureOf Td
def Rp:aM:=MO.vG "_law_mix" F1
theorem Te:bc Rm Rn (ao (top 51))=true:=by decide +kernel
theorem Tf:bh MO td (top 51) Rm=some Ro:=rfl
def U0:aM:=Rp
noncomputable def Rq:List Str:=["thing"]
noncomputable def Th:List Str:=["thing"]
def d0:SM:=Mn
def O0:aR:=aK 1 1 d0
def U1:aM:=U0.fC "is_name" O0
theorem Ti:bc Rq Th (ao (top 18))=true:=by decide +kernel
theorem Tj:bh U0 td (top 18) Rq=some d0:=rfl
noncomputable def Rr:List Str:=["left","name","place","row"]
noncomputable def Tp:List Str:=["left","name"]
def d1:SM:=sk
def O1:aR:=aK 4 2 d1
def U2:aM:=U1.fC "place_behind" O1
theorem Tq:bc Rr Tp (ao (top 38))=true:=by decide +kernel
theorem Tr:bh U1 td (top 38) Rr=some d1:=rfl
noncomputable def Rt:List Str:=["left","row"]
noncomputable def Ts:List Str:=["left"]
def d2:SM:=Bl O1
def O2:aR:=aK 2 1 d2
def U3:aM:=U2.fC "free_name" O2
theorem Tt:bc Rt Ts (ao (top 37))=true:=by decide +kernel
theorem Tu:bh U2 td (top 37) Rt=some d2:=rfl
noncomputable def Ru:List Str:=["rows","left","order","name"]
noncomputable def Tv:List Str:=["rows"]
def d3:SM:=D9 bz O2
def O3:aR:=aK 4 1 d3
def U4:aM:=U3.fC "merged" O3
theorem Tw:bc Ru Tv (ao (top 36))=true:=by decide +kernel
theorem Tz:bh U3 td (top 36) Ru=some d3:=rfl
noncomputable def Rv:List Str:=["elders","order"]
noncomputable def TB:List Str:=["elders","order"]
def d4:SM:=Me
def O4:aR:=aK 2 2 d4
def U5:aM:=U4.fC "ready_kinds" O4
theorem TC:bc Rv TB (ao (top 33))=true:=by decide +kernel
theorem TF:bh U4 td (top 33) Rv=some d4:=rfl
noncomputable def Rx:List Str:=["elders","order","ready"]
noncomputable def TH:List Str:=["elders"]
def d5:SM:=Mf O4
def O5:aR:=aK 3 1 d5
def U6:aM:=U5.fC "elders_first" O5
theorem TJ:bc Rx TH (ao (top 32))=true:=by decide +kernel
theorem TK:bh U5 td (top 32) Rx=some d5:=rfl
noncomputable def Ry:List Str:=["elders","order","name","left","met"]
noncomputable def TL:List Str:=["elders"]
def d6:SM:=Mi O5
 (aj (aJ 4 (mN bB af))
 (aj (aJ 2 (m2 aF (aa 3) (ah (.int 0))))
 (aj (rM (m2 (aG .NotIn) (aa 2) (aa 4))
 (aj (ck (cE jI cW (aa 4) (ab (aa 2) af)))
 (aj (aJ 2 (m2 aF (cJ (aa 0) false (m2 (aG .In) (aa 0) (aa 1)) (bG (m2 aF (aa 0) (aa 2))) 0 [3]) (ah (.int 0))))
 ai)))
 (aj (bP (dZ (aa 4) false (f_ (cE jI eD (aa 4) (ab (aa 2) af)) (cE nU gX (aa 4) (ab (aa 2) af))) true (ah .non)))
 ai))))
def O6:aR:=aK 5 1 d6
def U7:aM:=U6.fC "loop_of" O6
theorem TM:bc Ry TL (ao (top 34))=true:=by decide +kernel
theorem TN:bh U6 td (top 34) Ry=some d6:=rfl
noncomputable def Rz:List Str:=["lines","own_elders"]
noncomputable def TQ:List Str:=["lines","own_elders"]
def d7:SM:=Ml
def O7:aR:=aK 2 2 d7
def U8:aM:=U7.fC "rows_by" O7
theorem TR:bc Rz TQ (ao (top 42))=true:=by decide +kernel
theorem TU:bh U7 td (top 42) Rz=some d7:=rfl
noncomputable def RA:List Str:=["elders","ring","lines","tangles","name","refusal"]
noncomputable def TV:List Str:=["elders"]
def d8:SM:=Mm O6 O5 O3 O7
def O8:aR:=aK 6 1 d8
def U9:aM:=U8.fC "lines_of" O8
theorem TX:bc RA TV (ao (top 41))=true:=by decide +kernel
theorem TY:bh U8 td (top 41) RA=some d8:=rfl
noncomputable def RC:List Str:=["self"]
noncomputable def RD:List Str:=["self"]
def d9:SM:=Kp
def O9:aR:=aK 1 1 d9
def RE:aM:=U9.cB "House" "__init__" O9
theorem TZ:bc RC RD (ao (inClass (top 46) 0))=true:=by decide +kernel
theorem T7:bh U9 td (inClass (top 46) 0) RC=some d9:=rfl
def MP:aM:=RE.iM "House" O9
noncomputable def Ig:List Str:=["self"]
noncomputable def MQ:List Str:=["self"]
def ML:SM:=Mo
def KD:aR:=aK 1 1 ML
def MR:aM:=MP.cB "House" "kinds" KD
theorem MS:bc Ig MQ (ao (inClass (top 46) 5))=true:=by decide +kernel
theorem MT:bh MP td (inClass (top 46) 5) Ig=some ML:=rfl
noncomputable def Ih:List Str:=["self","name"]
noncomputable def MU:List Str:=["self","name"]
def MM:SM:=Mp KD
def Ii:aR:=aK 2 2 MM
def MV:aM:=MR.cB "House" "check_kind" Ii
theorem MW:bc Ih MU (ao (inClass (top 46) 11))=true:=by decide +kernel
theorem MX:bh MR td (inClass (top 46) 11) Ih=some MM:=rfl
noncomputable def Ij:List Str:=["self","elders","place","elder"]
noncomputable def MY:List Str:=["self","elders"]
def RF:SM:=Mr Ii
def MZ:aR:=aK 4 2 RF
def M7:aM:=MV.cB "House" "check_elders" MZ
theorem M8:bc Ij MY (ao (inClass (top 46) 12))=true:=by decide +kernel
theorem M9:bh MV td (inClass (top 46) 12) Ij=some RF:=rfl
noncomputable def Ik:List Str:=["self","elders","lines"]
noncomputable def M_:List Str:=["self","elders"]
def RH:SM:=Ms O8
def Na:aR:=aK 3 2 RH
def Nb:aM:=M7.cB "House" "settle" Na
theorem Nc:bc Ik M_ (ao (inClass (top 46) 13))=true:=by decide +kernel
theorem Nd:bh M7 td (inClass (top 46) 13) Ik=some RH:=rfl
noncomputable def Il:List Str:=["self","name","elders","at","order"]
noncomputable def jL:List Str:=["self","name","elders","at"]
def RI:SM:=Mv O0 MZ KD Na
def Im:aR:=aK 5 4 RI
def Nf:aM:=Nb.cB "House" "add" (λa=>Im (a++[.non]))
theorem Ng:bc Il jL (ao (inClass (top 46) 1))=true:=by decide +kernel
theorem Nh:bh Nb td (inClass (top 46) 1) Il=some RI:=rfl
def RJ:aM:={Nf with met:=Nf.met.filter λz=>z.1 != "add" }
def Ni:aM:=RJ.cB "House" "add" Im
noncomputable def Io:List Str:=["self","teller"]
noncomputable def Ip:List Str:=["self","teller"]
def RK:SM:=BB
def Nj:aR:=aK 2 2 RK
def RL:aM:=Ni.cB "Facts" "__init__" Nj
theorem Nk:bc Io Ip (ao (inClass (top 30) 0))=true:=by decide +kernel
theorem Nl:bh Ni td (inClass (top 30) 0) Io=some RK:=rfl
def Nm:aM:=RL.iM "Facts" Nj
noncomputable def Iq:List Str:=["self","teller"]
noncomputable def Ir:List Str:=["self","teller"]
def RM:SM:=Em O9 Nj
def Nn:aR:=aK 2 2 RM
def RN:aM:=Nm.cB "Town" "__init__" Nn
theorem Np:bc Iq Ir (ao (inClass (top 48) 0))=true:=by decide +kernel
theorem Nq:bh Nm td (inClass (top 48) 0) Iq=some RM:=rfl
def Nr:aM:=RN.iM "Town" Nn
noncomputable def Iu:List Str:=["self","touched","name"]
noncomputable def Nt:List Str:=["self","touched"]
def RO:SM:=yZ
def RP:aR:=aK 3 2 RO
def Nu:aM:=Nr.cB "Town" "count_deed" RP
theorem Nv:bc Iu Nt (ao (inClass (top 48) 15))=true:=by decide +kernel
theorem Nw:bh Nr td (inClass (top 48) 15) Iu=some RO:=rfl
noncomputable def Iv:List Str:=["self","name","elders","at"]
noncomputable def vJ:List Str:=["self","name","elders","at"]
def RQ:SM:=BC Im RP
def RR:aR:=aK 4 4 RQ
def Nx:aM:=Nu.cB "Town" "add" (λa=>RR (a++[.non]))
theorem Ny:bc Iv vJ (ao (inClass (top 48) 1))=true:=by decide +kernel
theorem Nz:bh Nu td (inClass (top 48) 1) Iv=some RQ:=rfl
noncomputable def Iw:List Str:=["self"]
noncomputable def Iy:List Str:=["self"]
def RS:SM:=Eo
def NA:aR:=aK 1 1 RS
def RT:aM:=Nx.cB "Shapes" "__init__" NA
theorem NB:bc Iw Iy (ao (inClass (top 21) 0))=true:=by decide +kernel
theorem NC:bh Nx td (inClass (top 21) 0) Iw=some RS:=rfl
def ND:aM:=RT.iM "Shapes" NA
noncomputable def Iz:List Str:=["self","words","row"]
noncomputable def NF:List Str:=["self","words"]
def RU:SM:=Kq
def KG:aR:=aK 3 2 RU
def NG:aM:=ND.cB "Shapes" "number_of" KG
theorem NH:bc Iz NF (ao (inClass (top 21) 1))=true:=by decide +kernel
theorem NI:bh ND td (inClass (top 21) 1) Iz=some RU:=rfl
noncomputable def ID:List Str:=["self","number"]
noncomputable def NJ:List Str:=["self","number"]
def RV:SM:=Mw
def Fb:aR:=aK 2 2 RV
def NK:aM:=NG.cB "Shapes" "words_of" Fb
theorem NL:bc ID NJ (ao (inClass (top 21) 2))=true:=by decide +kernel
theorem NM:bh NG td (inClass (top 21) 2) ID=some RV:=rfl
noncomputable def IE:List Str:=["self","number","word"]
noncomputable def NN:List Str:=["self","number","word"]
def RW:SM:=Mx KG Fb
def NO:aR:=aK 3 3 RW
def NP:aM:=NK.cB "Shapes" "grown" NO
theorem NQ:bc IE NN (ao (inClass (top 21) 3))=true:=by decide +kernel
theorem NR:bh NK td (inClass (top 21) 3) IE=some RW:=rfl
noncomputable def IF:List Str:=["self","number","word"]
noncomputable def NS:List Str:=["self","number","word"]
def RX:SM:=My KG Fb
def NT:aR:=aK 3 3 RX
def NU:aM:=NP.cB "Shapes" "without" NT
theorem NV:bc IF NS (ao (inClass (top 21) 4))=true:=by decide +kernel
theorem NW:bh NP td (inClass (top 21) 4) IF=some RX:=rfl
noncomputable def IG:List Str:=["self","number","word","row"]
noncomputable def NX:List Str:=["self","number","word"]
def RY:SM:=Kr Fb
def KH:aR:=aK 4 3 RY
def NY:aM:=NU.cB "Shapes" "slot_of" KH
theorem NZ:bc IG NX (ao (inClass (top 21) 5))=true:=by decide +kernel
theorem N7:bh NU td (inClass (top 21) 5) IG=some RY:=rfl
noncomputable def IH:List Str:=["self","kind"]
noncomputable def II:List Str:=["self","kind"]
def RZ:SM:=Cp
def N8:aR:=aK 2 2 RZ
def R7:aM:=NY.cB "Thing" "__init__" N8
theorem N9:bc IH II (ao (inClass (top 25) 0))=true:=by decide +kernel
theorem N_:bh NY td (inClass (top 25) 0) IH=some RZ:=rfl
def Oa:aM:=R7.iM "Thing" N8
noncomputable def IJ:List Str:=["self","town"]
noncomputable def IK:List Str:=["self","town"]
def R8:SM:=HR NA
def Ob:aR:=aK 2 2 R8
def R9:aM:=Oa.cB "Things" "__init__" Ob
theorem Oc:bc IJ IK (ao (inClass (top 26) 0))=true:=by decide +kernel
theorem Od:bh Oa td (inClass (top 26) 0) IJ=some R8:=rfl
def Oe:aM:=R9.iM "Things" Ob
noncomputable def IL:List Str:=["self","name"]
noncomputable def Of:List Str:=["self","name"]
def R_:SM:=Mz
def BK:aR:=aK 2 2 R_
def Og:aM:=Oe.cB "Things" "thing" BK
theorem Oh:bc IL Of (ao (inClass (top 26) 11))=true:=by decide +kernel
theorem Oi:bh Oe td (inClass (top 26) 11) IL=some R_:=rfl
noncomputable def IP:List Str:=["self","name","kind"]
noncomputable def Oj:List Str:=["self","name","kind"]
def Sa:SM:=E7 O0 Ii N8
def Sb:aR:=aK 3 3 Sa
def Ol:aM:=Og.cB "Things" "make" Sb
theorem Om:bc IP Oj (ao (inClass (top 26) 1))=true:=by decide +kernel
theorem Oo:bh Og td (inClass (top 26) 1) IP=some Sa:=rfl
noncomputable def IQ:List Str:=["self","name","word","value","thing","slot"]
noncomputable def Oq:List Str:=["self","name","word","value"]
def Sd:SM:=vL O0 BK KH NO
def Se:aR:=aK 6 4 Sd
def Ot:aM:=Ol.cB "Things" "put" Se
theorem Ou:bc IQ Oq (ao (inClass (top 26) 2))=true:=by decide +kernel
theorem Ov:bh Ol td (inClass (top 26) 2) IQ=some Sd:=rfl
noncomputable def IS:List Str:=["self","name","word","thing","slot"]
noncomputable def Ow:List Str:=["self","name","word"]
def Sf:SM:=yK BK KH NT
def Sg:aR:=aK 5 3 Sf
def Ox:aM:=Ot.cB "Things" "take" Sg
theorem Oy:bc IS Ow (ao (inClass (top 26) 3))=true:=by decide +kernel
theorem Oz:bh Ot td (inClass (top 26) 3) IS=some Sf:=rfl
noncomputable def IT:List Str:=["self","name","kind","thing"]
noncomputable def OA:List Str:=["self","name","kind"]
def Si:SM:=E8 BK Ii
def Sj:aR:=aK 4 3 Si
def OB:aM:=Ox.cB "Things" "move" Sj
theorem OC:bc IT OA (ao (inClass (top 26) 4))=true:=by decide +kernel
theorem OD:bh Ox td (inClass (top 26) 4) IT=some Si:=rfl
noncomputable def IU:List Str:=["self","name"]
noncomputable def OE:List Str:=["self","name"]
def Sk:SM:=EZ BK
def Sl:aR:=aK 2 2 Sk
def OF:aM:=OB.cB "Things" "kind_of" Sl
theorem OG:bc IU OE (ao (inClass (top 26) 7))=true:=by decide +kernel
theorem OH:bh OB td (inClass (top 26) 7) IU=some Sk:=rfl
noncomputable def IV:List Str:=["self","name"]
noncomputable def OI:List Str:=["self","name"]
def Sm:SM:=Cm BK
def Sn:aR:=aK 2 2 Sm
def OJ:aM:=OF.cB "Things" "shape_of" Sn
theorem OK:bc IV OI (ao (inClass (top 26) 8))=true:=by decide +kernel
theorem OL:bh OF td (inClass (top 26) 8) IV=some Sm:=rfl
noncomputable def IW:List Str:=["self","name","slot"]
noncomputable def OM:List Str:=["self","name","slot"]
def So:SM:=qC BK
def ON:aR:=aK 3 3 So
def OO:aM:=OJ.cB "Things" "value_at" ON
theorem OP:bc IW OM (ao (inClass (top 26) 9))=true:=by decide +kernel
theorem OQ:bh OJ td (inClass (top 26) 9) IW=some So:=rfl
noncomputable def IX:List Str:=["self","name","thing"]
noncomputable def OR:List Str:=["self","name"]
def Sq:SM:=yY BK Fb
def Sr:aR:=aK 3 2 Sq
def OS:aM:=OO.cB "Things" "own" Sr
theorem OT:bc IX OR (ao (inClass (top 26) 10))=true:=by decide +kernel
theorem OU:bh OO td (inClass (top 26) 10) IX=some Sq:=rfl
noncomputable def IY:List Str:=["_law_one","_law_other","_law_many","_law_names_here","_law_k"]
noncomputable def OV:List Str:=["_law_one","_law_other","_law_many"]
def Ss:SM:=EA
def Su:aR:=aK 5 3 Ss
def OW:aM:=OS.fC "_law_short" Su
theorem OX:bc IY OV (ao (top 52))=true:=by decide +kernel
theorem OY:bh OS td (top 52) IY=some Ss:=rfl
noncomputable def IZ:List Str:=["_law_cell_here","_law_many","_law_letters","_law_stem","_law_turn","_law_names_here","_law_other","_law_size","_law_spot","_law_first","_law_step","_law_signs"]
noncomputable def OZ:List Str:=["_law_cell_here","_law_many"]
def Sv:SM:=ME F1 Su
def O_:aR:=aK 12 2 Sv
def Pa:aM:=OW.fC "_law_names" O_
theorem Pb:bc IZ OZ (ao (top 53))=true:=by decide +kernel
theorem Pc:bh OW td (top 53) IZ=some Sv:=rfl
noncomputable def I_:List Str:=["_law_found"]
noncomputable def Pd:List Str:=["_law_found"]
def Sw:SM:=yP
def Sx:aR:=aK 1 1 Sw
def Pe:aM:=Pa.fC "_law_whole" Sx
theorem Pf:bc I_ Pd (ao (top 54))=true:=by decide +kernel
theorem Pg:bh Pa td (top 54) I_=some Sw:=rfl
noncomputable def Ja:List Str:=["_law_kinds","_law_town_here","_law_kind"]
noncomputable def Ph:List Str:=["_law_kinds"]
def Sy:SM:=HP Nn RR Im
def Sz:aR:=aK 3 1 Sy
def Pj:aM:=Pe.fC "_law_town" Sz
theorem Pk:bc Ja Ph (ao (top 56))=true:=by decide +kernel
theorem Pl:bh Pe td (top 56) Ja=some Sy:=rfl
noncomputable def Jb:List Str:=["_law_things","_law_name","_law_rows","_law_word","_law_value","_law_row"]
noncomputable def Pm:List Str:=["_law_things","_law_name","_law_rows","_law_word","_law_value"]
def SA:SM:=yR Se
def SD:aR:=aK 6 5 SA
def Pn:aM:=Pj.fC "_law_put" SD
theorem Po:bc Jb Pm (ao (top 57))=true:=by decide +kernel
theorem Pp:bh Pj td (top 57) Jb=some SA:=rfl
noncomputable def Jc:List Str:=["_law_things","_law_name","_law_rows","_law_own","_law_slot","_law_value"]
noncomputable def Pq:List Str:=["_law_things","_law_name","_law_rows"]
def SE:SM:=y8 Sr Sx ON
def SF:aR:=aK 6 3 SE
def SG:aM:=Pn.fC "_law_right" SF
theorem Pt:bc Jc Pq (ao (top 58))=true:=by decide +kernel
theorem Pu:bh Pn td (top 58) Jc=some SE:=rfl
noncomputable def Jd:List Str:=["_law_script","_law_words","_law_kinds","_law_things","_law_rows","_law_k","_law_cell_here","_law_name","_law_word","_law_there","_law_one","_law_slot","_law_alike"]
noncomputable def EI:List Str:=["_law_script"]
def SH:SM:=MK F0 F1 O_ Ob Sz Sb Sg SD ON SF Sn Sj Sl
def KI:aR:=aK 13 1 SH
theorem Pw:bc Jd EI (ao (top 59))=true:=by decide +kernel
theorem Py:bh SG td (top 59) Jd=some SH:=rfl
theorem yV(ns:List Int)(A:ns.length<=63):∃au,KI [.lst (ns.map .int)] []=.ok (.bl true) au:=by
 obtain⟨x,b⟩:∃x,iO x F1:=By;have h:oi (λns k=>ns.getD k 0) F0:=yC
 have y:FnAt O2:=Ha;have z:Bq O3:=Hc y;have i:Bt O4:=Hh;have c:Bu O5:=Hi i;have j:Eb O6:=Hj c;have l:Bv O7:=Hk;have m:Ed O8:=Hl j c z l;have n:yy O9:=Hs;have d:Bx KD:=Ho;have e:oJ Ii:=Hq d;have o:Eg MZ:=Hr e;have p:yz Na:=Ht m;have f:oH O0:=Hm;have q:yB Im:=Hv f o d p;have g:Bz KG:=Hx;have a:lV Fb:=Hy;have r:sx NO:=Hz g a;have s:sy NT:=HD g a;have t:oN KH:=HE a;have u:fg BK:=HF;have w:EC O_:=HW b EB;exact yT h b w n q e f u t r s a
set_option maxHeartbeats 0 in
theorem all_mk{P:Program}{w:World}{K:PySem.W.Frag}{h:Heap}{c:Str->Option Value}{fa:Addr}(X:K.In h)(G:h.Ns mainGlobals c)(H4:c "law"=some (.ref fa))
  (nb:tq K=true)
  {q0:Tok} (z0:PySem.W.nsIn K mainGlobals "LETTERS"=some (some (.str "abcdefghijklmnopqrstuvwxyz" q0)))
  {q1:Tok} (z1:PySem.W.nsIn K mainGlobals "MOST_LETTERS"=some (some (.int 8 q1)))
  {q2:Tok} (z2:PySem.W.nsIn K mainGlobals "MOST_KINDS"=some (some (.int 12 q2)))
  {q3:Tok} (z3:PySem.W.nsIn K mainGlobals "MOST_ELDERS"=some (some (.int 5 q3)))
  {q4:Tok} (z4:PySem.W.nsIn K mainGlobals "MOST_THINGS"=some (some (.int 40 q4)))
  {q5:Tok} (z5:PySem.W.nsIn K mainGlobals "MOST_OWN_WORDS"=some (some (.int 12 q5)))
  {fS:Addr} (z6:PySem.W.nsIn K mainGlobals "_law_silent"=some (some (.ref fS)))
  {f0:Addr}{I4:FuncData} (a0:dG K "_law_cell" (top 50) f0 I4)
  {f1:Addr}{J4:FuncData} (a1:dG K "_law_mix" (top 51) f1 J4)
  {t:Addr} (K4:PySem.W.nsIn K mainGlobals "House"=some (some (.ref t))) (L4:PySem.W.plainGet K t Str.empty=true) (M4:PySem.W.hasDictIn K t=true) (N4:PySem.W.plainOver K t=true) (P4:PySem.W.findIn K (.ref t) "__setattr__"=some (some (.builtin "object.__setattr__"))) (Q4:PySem.W.makesIn K t=true) (R4:PySem.W.keepIn K (.ref t)=true)
  {O:Addr} (S4:PySem.W.nsIn K mainGlobals "Facts"=some (some (.ref O))) (T4:PySem.W.plainGet K O Str.empty=true) (W4:PySem.W.hasDictIn K O=true) (Y4:PySem.W.plainOver K O=true) (Z4:PySem.W.findIn K (.ref O) "__setattr__"=some (some (.builtin "object.__setattr__"))) (a5:PySem.W.makesIn K O=true) (b5:PySem.W.keepIn K (.ref O)=true)
  {y:Addr} (c5:PySem.W.nsIn K mainGlobals "Town"=some (some (.ref y))) (e5:PySem.W.plainGet K y Str.empty=true) (f5:PySem.W.hasDictIn K y=true) (g5:PySem.W.plainOver K y=true) (h5:PySem.W.findIn K (.ref y) "__setattr__"=some (some (.builtin "object.__setattr__"))) (i5:PySem.W.makesIn K y=true) (j5:PySem.W.keepIn K (.ref y)=true)
  {u:Addr} (k5:PySem.W.nsIn K mainGlobals "Shapes"=some (some (.ref u))) (l5:PySem.W.plainGet K u Str.empty=true) (m5:PySem.W.hasDictIn K u=true) (n5:PySem.W.plainOver K u=true) (o5:PySem.W.findIn K (.ref u) "__setattr__"=some (some (.builtin "object.__setattr__"))) (p5:PySem.W.makesIn K u=true) (r5:PySem.W.keepIn K (.ref u)=true)
  {Q:Addr} (s5:PySem.W.nsIn K mainGlobals "Thing"=some (some (.ref Q))) (t5:PySem.W.plainGet K Q Str.empty=true) (u5:PySem.W.hasDictIn K Q=true) (v5:PySem.W.plainOver K Q=true) (w5:PySem.W.findIn K (.ref Q) "__setattr__"=some (some (.builtin "object.__setattr__"))) (x5:PySem.W.makesIn K Q=true) (y5:PySem.W.keepIn K (.ref Q)=true)
  {j:Addr} (A5:PySem.W.nsIn K mainGlobals "Things"=some (some (.ref j))) (B5:PySem.W.plainGet K j Str.empty=true) (D5:PySem.W.hasDictIn K j=true) (E5:PySem.W.plainOver K j=true) (F5:PySem.W.findIn K (.ref j) "__setattr__"=some (some (.builtin "object.__setattr__"))) (G5:PySem.W.makesIn K j=true) (H5:PySem.W.keepIn K (.ref j)=true)
  (I5:PySem.W.findIn K (.ref t) "elders"=some none)
  (J5:PySem.W.findIn K (.ref t) "lines"=some none)
  (K5:PySem.W.findIn K (.ref y) "house"=some none)
  (L5:PySem.W.findIn K (.ref y) "facts"=some none)
  (M5:PySem.W.findIn K (.ref y) "tags"=some none)
  (N5:PySem.W.findIn K (.ref y) "last_deed"=some none)
  (P5:PySem.W.findIn K (.ref O) "teller"=some none)
  (Q5:PySem.W.findIn K (.ref O) "strengths"=some none)
  (R5:PySem.W.findIn K (.ref O) "asked"=some none)
  (S5:PySem.W.findIn K (.ref u) "rows"=some none)
  (a2:PySem.W.findIn K (.ref u) "numbers"=some none)
  (b2:PySem.W.findIn K (.ref Q) "kind"=some none)
  (c2:PySem.W.findIn K (.ref Q) "shape"=some none)
  (e2:PySem.W.findIn K (.ref Q) "slots"=some none)
  (f2:PySem.W.findIn K (.ref j) "town"=some none)
  (g2:PySem.W.findIn K (.ref j) "shapes"=some none)
  (h2:PySem.W.findIn K (.ref j) "made"=some none)
  {T5:Addr}{j2:FuncData} (W5:dG K "is_name" (top 18) T5 j2)
  {Y5:Addr}{k2:FuncData} (Z5:dG K "place_behind" (top 38) Y5 k2)
  {a6:Addr}{n2:FuncData} (b6:dG K "free_name" (top 37) a6 n2)
  {c6:Addr}{p2:FuncData} (e6:dG K "merged" (top 36) c6 p2)
  {f6:Addr}{r2:FuncData} (g6:dG K "ready_kinds" (top 33) f6 r2)
  {h6:Addr}{t2:FuncData} (i6:dG K "elders_first" (top 32) h6 t2)
  {j6:Addr}{u2:FuncData} (k6:dG K "loop_of" (top 34) j6 u2)
  {l6:Addr}{w2:FuncData} (m6:dG K "rows_by" (top 42) l6 w2)
  {n6:Addr}{x2:FuncData} (o6:dG K "lines_of" (top 41) n6 x2)
  {p6:Addr}{y2:FuncData} (m0:cA K t "__init__" "House.__init__" (inClass (top 46) 0) p6 y2)
  {A2:Addr}{N0:FuncData} (B2:cA K t "kinds" "House.kinds" (inClass (top 46) 5) A2 N0)
  {D2:Addr}{P0:FuncData} (E2:cA K t "check_kind" "House.check_kind" (inClass (top 46) 11) D2 P0)
  {F2:Addr}{Q0:FuncData} (G2:cA K t "check_elders" "House.check_elders" (inClass (top 46) 12) F2 Q0)
  {H2:Addr}{R0:FuncData} (I2:cA K t "settle" "House.settle" (inClass (top 46) 13) H2 R0)
  {R:Addr}{s0:Obj}{J2:Nat}
  {o:Addr}{S0 z:Option Addr}{T0:Array (Option Value)}{W0 A B C l D:Value} (t0:PySem.W.findIn K (.ref t) "add"=some (some (.ref o))) (K2:K.lookup o=some ⟨W0,S0,.func (PySem.W.fnOf "add" "House.add" (bQ (inClass (top 46) 1)) (bR (inClass (top 46) 1)) (ao (inClass (top 46) 1)) (.ref R) A B C z l D),T0⟩) (M2:PySem.W.codeIn K l "House.add"=true) (S:PySem.W.keepIn K (.ref o)=true)
  (u0:K.lookup R=some s0) (v0:s0.data=.seq #[.none] J2)
  (N2:PySem.W.isFn K (.ref o)=true)
  {P2:Addr}{c1:FuncData} (I:cA K O "__init__" "Facts.__init__" (inClass (top 30) 0) P2 c1)
  {Q2:Addr}{e1:FuncData} (J:cA K y "__init__" "Town.__init__" (inClass (top 48) 0) Q2 e1)
  {S2:Addr}{g1:FuncData} (T2:cA K y "count_deed" "Town.count_deed" (inClass (top 48) 15) S2 g1)
  {o0:Addr}{w0:Obj}{W2:Nat}
  {p:Addr}{h1 T:Option Addr}{j1:Array (Option Value)}{k1 U V Y E Z:Value} (Z2:PySem.W.findIn K (.ref y) "add"=some (some (.ref p))) (a3:K.lookup p=some ⟨k1,h1,.func (PySem.W.fnOf "add" "Town.add" (bQ (inClass (top 48) 1)) (bR (inClass (top 48) 1)) (ao (inClass (top 48) 1)) (.ref o0) U V Y T E Z),j1⟩) (b3:PySem.W.codeIn K E "Town.add"=true) (x0:PySem.W.keepIn K (.ref p)=true)
  (c3:K.lookup o0=some w0) (e3:w0.data=.seq #[.none] W2)
  (q6:PySem.W.isFn K (.ref p)=true)
  {f3:Addr}{n1:FuncData} (L:cA K u "__init__" "Shapes.__init__" (inClass (top 21) 0) f3 n1)
  {g3:Addr}{o1:FuncData} (h3:cA K u "number_of" "Shapes.number_of" (inClass (top 21) 1) g3 o1)
  {i3:Addr}{p1:FuncData} (j3:cA K u "words_of" "Shapes.words_of" (inClass (top 21) 2) i3 p1)
  {k3:Addr}{r1:FuncData} (l3:cA K u "grown" "Shapes.grown" (inClass (top 21) 3) k3 r1)
  {m3:Addr}{t1:FuncData} (n3:cA K u "without" "Shapes.without" (inClass (top 21) 4) m3 t1)
  {o3:Addr}{u1:FuncData} (p3:cA K u "slot_of" "Shapes.slot_of" (inClass (top 21) 5) o3 u1)
  {r3:Addr}{w1:FuncData} (M:cA K Q "__init__" "Thing.__init__" (inClass (top 25) 0) r3 w1)
  {s3:Addr}{x1:FuncData} (N:cA K j "__init__" "Things.__init__" (inClass (top 26) 0) s3 x1)
  {t3:Addr}{y1:FuncData} (u3:cA K j "thing" "Things.thing" (inClass (top 26) 11) t3 y1)
  {v3:Addr}{A1:FuncData} (w3:cA K j "make" "Things.make" (inClass (top 26) 1) v3 A1)
  {x3:Addr}{B1:FuncData} (y3:cA K j "put" "Things.put" (inClass (top 26) 2) x3 B1)
  {A3:Addr}{D1:FuncData} (B3:cA K j "take" "Things.take" (inClass (top 26) 3) A3 D1)
  {D3:Addr}{G1:FuncData} (E3:cA K j "move" "Things.move" (inClass (top 26) 4) D3 G1)
  {F3:Addr}{H1:FuncData} (G3:cA K j "kind_of" "Things.kind_of" (inClass (top 26) 7) F3 H1)
  {H3:Addr}{I1:FuncData} (I3:cA K j "shape_of" "Things.shape_of" (inClass (top 26) 8) H3 I1)
  {J3:Addr}{J1:FuncData} (K3:cA K j "value_at" "Things.value_at" (inClass (top 26) 9) J3 J1)
  {L3:Addr}{K1:FuncData} (M3:cA K j "own" "Things.own" (inClass (top 26) 10) L3 K1)
  {N3:Addr}{M1:FuncData} (Q3:dG K "_law_short" (top 52) N3 M1)
  {R3:Addr}{N1:FuncData} (S3:dG K "_law_names" (top 53) R3 N1)
  {T3:Addr}{P1:FuncData} (W3:dG K "_law_whole" (top 54) T3 P1)
  {Y3:Addr}{Q1:FuncData} (Z3:dG K "_law_town" (top 56) Y3 Q1)
  {a4:Addr}{R1:FuncData} (b4:dG K "_law_put" (top 57) a4 R1)
  {c4:Addr}{S1:FuncData} (e4:dG K "_law_right" (top 58) c4 S1)
  {c0:Addr}{T1 e0:Option Addr}{W1:Array (Option Value)}{Z1 g0 h0 i0 F j0:Value} (f4:PySem.W.nsIn K mainGlobals "law"=some (some (.ref c0))) (g4:K.lookup c0=some ⟨Z1,T1,.func (PySem.W.fnOf "law" "law" (bQ (top 59)) (bR (top 59)) (ao (top 59)) .none g0 h0 i0 e0 F j0),W1⟩) (h4:PySem.W.codeIn K F "law"=true) (i4:PySem.W.keepIn K (.ref c0)=true)
  : ∃fd:FuncData,(∀(s:Shared) (v:Value),BindsTo s fd ⟨[v],[]⟩ [("_law_script",v)])/\∀base:Heap,K.In base->base.Ns mainGlobals c->cS P w K c base mu 53 fa fd EI (ec (fB c) KI):=by
 have e:=H4.symm.trans (PySem.W.mg_of X G f4);cases e;have E0:=a0.fn;have b0:=E0.binds (ps:=Rk) λ_ _ _ _ _ _ a b=>match a,b with|[_,_],_=>rfl
 have E1:=a1.fn;have b1:=E1.binds (ps:=Rn) λ_ _ _ _ _ _ a b=>match a,b with|[_,_,_],_=>rfl
 have j4:=m0.fn;have k4:=j4.binds (ps:=RD) λ_ _ _ _ _ _ a b=>match a,b with|[_],_=>rfl
 have l4:Br K "add" "House.add" (inClass (top 46) 1) (.ref R) o _:=⟨⟨_,_,_,_,_,_,_,_,_,rfl,K2,M2⟩,S⟩
 have m4:Binds K (PySem.W.fnOf "add" "House.add" (bQ (inClass (top 46) 1)) (bR (inClass (top 46) 1)) (ao (inClass (top 46) 1)) (.ref R) A B C z l D) jL [.none]:=λs a hi b=>by
  match a,b with
  |[],h=>simp[jL]at h
  |[_],h=>simp[jL]at h
  |[_,_],h=>simp[jL]at h
  |[_,_,_],_=>exact PySem.W.binds_K hi rfl u0 v0 rfl rfl
  |_::_::_::_::_,h=>simp[jL]at h
 have n4:Binds K (PySem.W.fnOf "add" "House.add" (bQ (inClass (top 46) 1)) (bR (inClass (top 46) 1)) (ao (inClass (top 46) 1)) (.ref R) A B C z l D) jL []:=λs a hi b=>by
  match a,b with
  |[],h=>simp[jL]at h
  |[_],h=>simp[jL]at h
  |[_,_],h=>simp[jL]at h
  |[_,_,_],h=>simp[jL]at h
  |[_,_,_,_],_=>exact PySem.W.binds_K hi rfl u0 v0 rfl rfl
  |_::_::_::_::_::_,h=>simp[jL]at h
 have y0:=I.fn;have A0:=y0.binds (ps:=Ip) λ_ _ _ _ _ _ a b=>match a,b with|[_,_],_=>rfl
 have B0:=J.fn;have D0:=B0.binds (ps:=Ir) λ_ _ _ _ _ _ a b=>match a,b with|[_,_],_=>rfl
 have o4:Br K "add" "Town.add" (inClass (top 48) 1) (.ref o0) p _:=⟨⟨_,_,_,_,_,_,_,_,_,rfl,a3,b3⟩,x0⟩
 have p4:Binds K (PySem.W.fnOf "add" "Town.add" (bQ (inClass (top 48) 1)) (bR (inClass (top 48) 1)) (ao (inClass (top 48) 1)) (.ref o0) U V Y T E Z) vJ [.none]:=λs a hi b=>by
  match a,b with
  |[],h=>simp[vJ]at h
  |[_],h=>simp[vJ]at h
  |[_,_],h=>simp[vJ]at h
  |[_,_,_],_=>exact PySem.W.binds_K hi rfl c3 e3 rfl rfl
  |_::_::_::_::_,h=>simp[vJ]at h
 have G0:=L.fn;have I0:=G0.binds (ps:=Iy) λ_ _ _ _ _ _ a b=>match a,b with|[_],_=>rfl
 have J0:=M.fn;have K0:=J0.binds (ps:=II) λ_ _ _ _ _ _ a b=>match a,b with|[_,_],_=>rfl
 have L0:=N.fn;have M0:=L0.binds (ps:=IK) λ_ _ _ _ _ _ a b=>match a,b with|[_,_],_=>rfl
 have r4:=qX (st:=(top 59)) g4 h4 i4;refine⟨PySem.W.fnOf "law" "law" (bQ (top 59)) (bR (top 59)) (ao (top 59)) .none g0 h0 i0 e0 F j0,λs v=>.of_eq rfl,λbase _ _=>?_⟩
 have k:=PySem.W.mg_of X G K4;have m:jO K t:=⟨L4,M4,N4,P4⟩;have k0:=PySem.W.mg_of X G S4;have p0:jO K O:=⟨T4,W4,Y4,Z4⟩;have q:=PySem.W.mg_of X G c5;have H:jO K y:=⟨e5,f5,g5,h5⟩;have n:=PySem.W.mg_of X G k5;have r:jO K u:=⟨l5,m5,n5,o5⟩;have l0:=PySem.W.mg_of X G s5;have r0:jO K Q:=⟨t5,u5,v5,w5⟩;have g:=PySem.W.mg_of X G A5;have i:jO K j:=⟨B5,D5,E5,F5⟩;have V0:aS P w K c base ({}:aM) 0:=aS.start (xc X G nb);have V1:=V0.Gp (x:="_law_silent") (PySem.W.mg_of X G z6);have V2:=V1.gR (x:="MOST_OWN_WORDS") (d:=.int 12) (v:=.int 12) (PySem.W.mg_of X G z5) ⟨_,rfl⟩ rfl;have V3:=V2.gR (x:="MOST_THINGS") (d:=.int 40) (v:=.int 40) (PySem.W.mg_of X G z4) ⟨_,rfl⟩ rfl;have V4:=V3.gR (x:="MOST_ELDERS") (d:=.int 5) (v:=.int 5) (PySem.W.mg_of X G z3) ⟨_,rfl⟩ rfl;have V5:=V4.gR (x:="MOST_KINDS") (d:=.int 12) (v:=.int 12) (PySem.W.mg_of X G z2) ⟨_,rfl⟩ rfl;have V6:=V5.gR (x:="MOST_LETTERS") (d:=.int 8) (v:=.int 8) (PySem.W.mg_of X G z1) ⟨_,rfl⟩ rfl;have V7:=V6.gR (x:="LETTERS") (d:=.str "abcdefghijklmnopqrstuvwxyz") (v:=.str "abcdefghijklmnopqrstuvwxyz") (PySem.W.mg_of X G z0) ⟨_,rfl⟩ rfl;have V8:=V7.cQ (f:="elders") (Cs:=["House"]) (plain1 k m I5);have V9:=V8.cQ (f:="lines") (Cs:=["House"]) (plain1 k m J5);have r6:=V9.cQ (f:="house") (Cs:=["Town"]) (plain1 q H K5);have s6:=r6.cQ (f:="facts") (Cs:=["Town"]) (plain1 q H L5);have t6:=s6.cQ (f:="tags") (Cs:=["Town"]) (plain1 q H M5);have u6:=t6.cQ (f:="last_deed") (Cs:=["Town"]) (plain1 q H N5);have v6:=u6.cQ (f:="teller") (Cs:=["Facts"]) (plain1 k0 p0 P5);have w6:=v6.cQ (f:="strengths") (Cs:=["Facts"]) (plain1 k0 p0 Q5);have x6:=w6.cQ (f:="asked") (Cs:=["Facts"]) (plain1 k0 p0 R5);have y6:=x6.cQ (f:="rows") (Cs:=["Shapes"]) (plain1 n r S5);have A6:=y6.cQ (f:="numbers") (Cs:=["Shapes"]) (plain1 n r a2);have B6:=A6.cQ (f:="kind") (Cs:=["Thing"]) (plain1 l0 r0 b2);have C6:=B6.cQ (f:="shape") (Cs:=["Thing"]) (plain1 l0 r0 c2);have D6:=C6.cQ (f:="slots") (Cs:=["Thing"]) (plain1 l0 r0 e2);have E6:=D6.cQ (f:="town") (Cs:=["Things"]) (plain1 g i f2);have F6:=E6.cQ (f:="shapes") (Cs:=["Things"]) (plain1 g i g2);have G6:=F6.cQ (f:="made") (Cs:=["Things"]) (plain1 g i h2);have Y0:aS P w K c base MN 0:=G6;have q0:=cZ Y0 (gv E0) Tb Tc;have Y1:aS P w K c base MO 1:=(Y0.mono (Nat.le_succ 0)).vG (x:="_law_cell") (PySem.W.mg_of X G a0.ns) E0.kp b0 (tW q0) (Nat.le_refl _);have q1:=cZ Y1 (gv E1) Te Tf;have Y2:aS P w K c base Rp 2:=(Y1.mono (Nat.le_succ 1)).vG (x:="_law_mix") (PySem.W.mg_of X G a1.ns) E1.kp b1 (tW q1) (Nat.le_refl _);have X0:aS P w K c base U0 2:=Y2;have X1:aS P w K c base U1 3:=X0.ic X G W5 Ti Tj λ_ _ _ _ _ _ a b=>match a,b with|[_],_=>rfl
 have X2:aS P w K c base U2 4:=X1.ic X G Z5 Tq Tr λ_ _ _ _ _ _ a b=>match a,b with|[_,_],_=>rfl
 have X3:aS P w K c base U3 5:=X2.ic X G b6 Tt Tu λ_ _ _ _ _ _ a b=>match a,b with|[_],_=>rfl
 have X4:aS P w K c base U4 6:=X3.ic X G e6 Tw Tz λ_ _ _ _ _ _ a b=>match a,b with|[_],_=>rfl
 have X5:aS P w K c base U5 7:=X4.ic X G g6 TC TF λ_ _ _ _ _ _ a b=>match a,b with|[_,_],_=>rfl
 have X6:aS P w K c base U6 8:=X5.ic X G i6 TJ TK λ_ _ _ _ _ _ a b=>match a,b with|[_],_=>rfl
 have X7:aS P w K c base U7 9:=X6.ic X G k6 TM TN λ_ _ _ _ _ _ a b=>match a,b with|[_],_=>rfl
 have X8:aS P w K c base U8 10:=X7.ic X G m6 TR TU λ_ _ _ _ _ _ a b=>match a,b with|[_,_],_=>rfl
 have X9:aS P w K c base U9 11:=X8.ic X G o6 TX TY λ_ _ _ _ _ _ a b=>match a,b with|[_],_=>rfl
 have r9:=cZ X9 (gv j4) TZ T7;have H6:aS P w K c base RE 12:=X9.cB k m m0.me k4 r9;have I6:aS P w K c base MP 13:=H6.iM k ⟨Q4,m0.me.at_,m0.me.fn,R4⟩ k4 r9 (by decide)
 have J6:aS P w K c base MR 14:=I6.fL k m B2 MS MT λ_ _ _ _ _ _ a b=>match a,b with|[_],_=>rfl
 have K6:aS P w K c base MV 15:=J6.fL k m E2 MW MX λ_ _ _ _ _ _ a b=>match a,b with|[_,_],_=>rfl
 have L6:aS P w K c base M7 16:=K6.fL k m G2 M8 M9 λ_ _ _ _ _ _ a b=>match a,b with|[_,_],_=>rfl
 have s4:aS P w K c base Nb 17:=L6.fL k m I2 Nc Nd λ_ _ _ _ _ _ a b=>match a,b with|[_,_],_=>rfl
 have t4:=cZ s4 l4 Ng Nh;have M6:aS P w K c base Nf 18:=s4.Cd (Dd:=[.non]) k m ⟨t0,N2,S⟩ m4 (.cons (show RelV .non Value.none from rfl) .nil) (λ_ _ _=>.one (by simp only[ak])) t4
 have N6:aS P w K c base RJ 19:=(M6.mono (Nat.le_succ _)).Gq _;have u4:aS P w K c base Ni 20:=N6.cB k m ⟨t0,N2,S⟩ n4 (t4.mono (by decide))
 have v4:=cZ u4 (gv y0) Nk Nl;have P6:aS P w K c base RL 21:=u4.cB k0 p0 I.me A0 v4;have w4:aS P w K c base Nm 22:=P6.iM k0 ⟨a5,I.me.at_,I.me.fn,b5⟩ A0 v4 (by decide)
 have x4:=cZ w4 (gv B0) Np Nq;have Q6:aS P w K c base RN 23:=w4.cB q H J.me D0 x4;have R6:aS P w K c base Nr 24:=Q6.iM q ⟨i5,J.me.at_,J.me.fn,j5⟩ D0 x4 (by decide)
 have y4:aS P w K c base Nu 25:=R6.fL q H T2 Nv Nw λ_ _ _ _ _ _ a b=>match a,b with|[_,_],_=>rfl
 have S6:=cZ y4 o4 Ny Nz;have A4:aS P w K c base Nx 26:=y4.Cd (Dd:=[.non]) q H ⟨Z2,q6,x0⟩ p4 (.cons (show RelV .non Value.none from rfl) .nil) (λ_ _ _=>.one (by simp only[ak])) S6
 have B4:=cZ A4 (gv G0) NB NC;have T6:aS P w K c base RT 27:=A4.cB n r L.me I0 B4;have W6:aS P w K c base ND 28:=T6.iM n ⟨p5,L.me.at_,L.me.fn,r5⟩ I0 B4 (by decide)
 have Y6:aS P w K c base NG 29:=W6.fL n r h3 NH NI λ_ _ _ _ _ _ a b=>match a,b with|[_,_],_=>rfl
 have Z6:aS P w K c base NK 30:=Y6.fL n r j3 NL NM λ_ _ _ _ _ _ a b=>match a,b with|[_,_],_=>rfl
 have a7:aS P w K c base NP 31:=Z6.fL n r l3 NQ NR λ_ _ _ _ _ _ a b=>match a,b with|[_,_,_],_=>rfl
 have b7:aS P w K c base NU 32:=a7.fL n r n3 NV NW λ_ _ _ _ _ _ a b=>match a,b with|[_,_,_],_=>rfl
 have D4:aS P w K c base NY 33:=b7.fL n r p3 NZ N7 λ_ _ _ _ _ _ a b=>match a,b with|[_,_,_],_=>rfl
 have E4:=cZ D4 (gv J0) N9 N_;have c7:aS P w K c base R7 34:=D4.cB l0 r0 M.me K0 E4;have F4:aS P w K c base Oa 35:=c7.iM l0 ⟨x5,M.me.at_,M.me.fn,y5⟩ K0 E4 (by decide)
 have G4:=cZ F4 (gv L0) Oc Od;have e7:aS P w K c base R9 36:=F4.cB g i N.me M0 G4;have f7:aS P w K c base Oe 37:=e7.iM g ⟨G5,N.me.at_,N.me.fn,H5⟩ M0 G4 (by decide)
 have g7:aS P w K c base Og 38:=f7.fL g i u3 Oh Oi λ_ _ _ _ _ _ a b=>match a,b with|[_,_],_=>rfl
 have h7:aS P w K c base Ol 39:=g7.fL g i w3 Om Oo λ_ _ _ _ _ _ a b=>match a,b with|[_,_,_],_=>rfl
 have i7:aS P w K c base Ot 40:=h7.fL g i y3 Ou Ov λ_ _ _ _ _ _ a b=>match a,b with|[_,_,_,_],_=>rfl
 have j7:aS P w K c base Ox 41:=i7.fL g i B3 Oy Oz λ_ _ _ _ _ _ a b=>match a,b with|[_,_,_],_=>rfl
 have k7:aS P w K c base OB 42:=j7.fL g i E3 OC OD λ_ _ _ _ _ _ a b=>match a,b with|[_,_,_],_=>rfl
 have l7:aS P w K c base OF 43:=k7.fL g i G3 OG OH λ_ _ _ _ _ _ a b=>match a,b with|[_,_],_=>rfl
 have m7:aS P w K c base OJ 44:=l7.fL g i I3 OK OL λ_ _ _ _ _ _ a b=>match a,b with|[_,_],_=>rfl
 have n7:aS P w K c base OO 45:=m7.fL g i K3 OP OQ λ_ _ _ _ _ _ a b=>match a,b with|[_,_,_],_=>rfl
 have o7:aS P w K c base OS 46:=n7.fL g i M3 OT OU λ_ _ _ _ _ _ a b=>match a,b with|[_,_],_=>rfl
 have p7:aS P w K c base OW 47:=o7.ic X G Q3 OX OY λ_ _ _ _ _ _ a b=>match a,b with|[_,_,_],_=>rfl
 have q7:aS P w K c base Pa 48:=p7.ic X G S3 Pb Pc λ_ _ _ _ _ _ a b=>match a,b with|[_,_],_=>rfl
 have r7:aS P w K c base Pe 49:=q7.ic X G W3 Pf Pg λ_ _ _ _ _ _ a b=>match a,b with|[_],_=>rfl
 have s7:aS P w K c base Pj 50:=r7.ic X G Z3 Pk Pl λ_ _ _ _ _ _ a b=>match a,b with|[_],_=>rfl
 have t7:aS P w K c base Pn 51:=s7.ic X G b4 Po Pp λ_ _ _ _ _ _ a b=>match a,b with|[_,_,_,_,_],_=>rfl
 have u7:aS P w K c base SG 52:=t7.ic X G e4 Pt Pu λ_ _ _ _ _ _ a b=>match a,b with|[_,_,_],_=>rfl
 have v7:=cZ u7 (gv r4) Pw Py;exact v7
theorem walk{l:PySem.W.OpenLaw}{q:Program}{i:List Str}{r:(Str->Option Value)->Heap->Prop}{p:World->Heap->Prop}{d:DefRec}{K:Params->PySem.W.Frag}(t:l.most=some 63)(o:d.params.defaults=[])
  (y:∀(w:World) (h:Heap),p w h->(K w.params).In h) (A:∀B,pG (K B)=true)
  (F:∀(w:World) (g:Str->Option Value) (j:Addr) (h:Heap),(K w.params).In h->h.Ns mainGlobals g->g d.name=some (.ref j) ->
   ∃m:FuncData,(∀(s:Shared) (u:Value),BindsTo s m ⟨[u],[]⟩ [("_law_script",u)])/\∀base:Heap,(K w.params).In base->base.Ns mainGlobals g->cS l.prog w (K w.params) g base mu 53 j m EI (ec (fB g) KI)) :
  PySem.W.WalkO q i r p l.row.toRowW d [] (λf vs=>PySem.call f vs):=
 L2.zC (n:=63) (k:=53) (x:="_law_script") (CX:=λ_=>mu) (sp:=λw=>Gr KI) t (by decide) o ⟨rfl,by decide,by decide⟩ y (λw g j h a b c=>let ⟨m,C,D⟩:=F w g j h a b c;⟨m,C,λbase d e=>(D base d e).imp λvs H Q E z=>z (fB g)⟩) (λw H a G I _ J L=>A_ (F8 (A w.params) J) (yV G I).choose_spec) λ_ _ _ _ _ z=>z
end EH
def PySem.W.Fast.tw2032238957345467477:PySem.Program:=PySem.Challenge.pw_taglook_k66_slots_and_values
theorem PySem.W.Fast.te2032238957345467477:PySem.Challenge.pw_taglook_k66_slots_and_values=PySem.W.Fast.tw2032238957345467477:=rfl
namespace PySem.W.Fast
def tw1647495988964529229:=0
def tw15245361676336441824:=0
def tw9208902972699470923:=0
def tw12505240912734700848:=0
def tw2022735427557485600:=0
def tw7364905505828286762:=0
def tw13031536727083377545:=0
def tw9752234445536940146:=0
def tw15959540703240026153:=0
def tw13381252062422683983:=0
def tw8562375149810411349:=0
def tw18308406972892398386:=0
def tw8488728891860422729:=0
def tw13233877971099713211:=0
def tw12214569511069843279:=0
def tw602068256161175120:=0
def tw8838372084082058642:=0
def tw14125760112285618124:=0
def tw13358634259791841577:=0
def tw857481507060111546:=0
def tw8313128983332030877:=0
def tw1269049099891493892:=0
def tw7983523119617363125:=0
def tw15312915916131501636:=0
def tw8265287861271046358:=0
def tw586723870735423717:=0
def tw7275275434226516569:=0
def tw5583950433169246481:=0
def tw2479796985213319014:=0
def tw17404354224046356556:=0
def tw5157066753193057503:=0
def tw18000334363402647672:=0
def tw6863144051908091295:=0
def tw17925285443514584982:=0
def tw3654601961299514146:=0
def tw10028301939955548600:=0
def tw13313367076244692737:=0
def tw13816741549507594260:=0
def tw6764793229858535281:=0
def tw3125592168591316419:=0
def tw7585433464391336360:=0
def tw14091395507960894071:=0
def tw4422931211524140082:=0
def tw1511591220052961018:=0
def tw17868675737254097040:=0
def tw6317124167369530976:=0
def tw4266222900680786672:=0
def tw3487018616452319203:=0
def tw12363370155038211928:=0
def tw12241634682022721862:=0
def tw9887918458562962009:=0
def tw3341054637617235849:=0
def tw7623326113633074629:=0
def tw7272435437399513794:=0
def tw8408115126604038407:=0
def tw11452526592624756284:=0
def tw10935018936180215222:=0
def tw16948006139329524202:=0
def tw9489598361763095540:=0
def tw8485527096756891464:=0
def tw15886398420677371799:=0
def tw9358831586197786787:=0
def tw7167748839767363681:=0
def tw6591858734052159178:=0
def tw9142860502091830214:=0
def tw9491500986202407213:=0
def tw805651996525236174:=0
def tw7175162977202397082:=0
def tw9138549052216042383:=0
def tw4120882597031217942:=0
def tw13721922445164574207:=0
def tw11977338942176051508:=0
def tw756927088443766247:=0
def tw5654859375001420608:=0
def tw7298546271618108120:=0
def tw2344594839131331258:=0
def tw17927070039163030342:=0
def tw13877518715798466777:=0
def tw9717245634860980977:=0
def tw3578146886547148903:=0
def tw784565709394436836:=0
def tw5658118805565281004:=0
def tw16071258971281846392:=0
def tw256413551795602949:=0
def tw14756312540201715460:=0
def tw16520517906191713521:=0
def tw14024580027969503088:=0
def tw10665100429793960334:=0
def tw17580047421751313278:=0
def tw1193914846162035291:=0
def tw7983671502253590802:=0
def tw4663442884452925290:=0
def tw4677630544928129827:=0
def tw4547469541888504766:=0
def tw2439093027972227405:=0
def tw10276063845804868384:=0
def tw4274727087766209953:=0
def tw15911888673697410580:=0
def tw11538488615028455797:=0
def tw16504704978497800887:=0
def tw11632476865016577733:=0
def tw15274688559687981045:=0
def tw756146231703186735:=0
def tw4784485976342745476:=0
def tw806420732090798942:=0
def tw3016609923257827978:=0
def tw14393767121292748318:=0
def tw6528686294313033507:=0
def tw796093090823288811:=0
def tw3064085129553022260:=0
def tw15307899930377516926:=0
def tw46864920957814836:=0
def tw2044013985873545144:=0
def tw6549564084236493099:=0
def tw829367089570742268:=0
def tw6083776061765829246:=0
def tw6062308793420465226:=0
def tw18360005477335201879:=0
def tw12605223685620903743:=0
def tw3491261389963311088:=0
def tw11545160012122358296:=0
def tw2589789570345191421:=0
def tw14199194526620066488:=0
def tw18416486284740291:=0
def tw18326107402844135675:=0
def tw5875144417589225726:=0
def tw6972457780284663755:=0
def tw12814834550148314749:=0
def tw1668889264587335609:=0
def tw12319555233862353886:=0
def tw9266941106724301774:=0
def tw10915522914030287223:=0
def tw18325957717893712000:=0
def tw6315040403708156483:=0
def tw1179589363227163112:=0
def tw8014616908325593810:=0
def tw14464140912969556022:=0
def tw2339409830004730178:=0
def tw13163393037399955013:=0
def tw9058641701897294277:=0
def tw2981033107513720465:=0
def tw3531936475601456783:=0
def tw17460590953699959993:=0
def tw14641202254947210821:=0
def tw9416245655816050956:=0
def tw13717114963804228649:=0
def tw12073627999350232346:=0
def tw5724878491469661338:=0
def tw18021791392055696640:=0
def tw4889499048102918390:=0
def tw13263602429738139703:=0
def tw8609348998614015954:=0
def tw14382377631499303479:=0
def tw15266105427154119816:=0
def tw12419998892940124296:=0
def tw1445283103604486246:=0
def tw2432940864013282148:=0
def tw4558157544500562171:=0
def tw10140336511973913159:=0
def tw17525864774893369134:=0
def tw18114030704474673970:=0
def tw13222824192944204234:=0
def tw10448317219940258048:=0
def tw12579296669170244628:=0
def tw1589298736537268199:=0
def tw13861158473924264899:=0
def tw17209573082227067523:=0
def tw13449377285861643292:=0
def tw4761124608012080716:=0
def tw4582277830887065046:=0
def tw1441789614540818966:=0
def tw110581472283908468:=0
def tw11063699517313116576:=0
def tw8727378367203561409:=0
def tw13415079164261608724:=0
def tw1467566467863145026:=0
def tw12947638514363282234:=0
def tw1547313588945101147:=0
def tw16923750798230830310:=0
def tw10528949278527808047:=0
def tw14060680220454458058:=0
def tw8587300741592000669:=0
def tw14478272644860529447:=0
def tw12472449997524985162:=0
def tw15929782999325847691:=0
def tw7327076663332577370:=0
def tw7530762150108661430:=0
def tw1387830134811915086:=0
def tw16310612874336189301:=0
def tw2328838283645878435:=0
def tw10812955067576788076:=0
def tw9228912206108829590:=0
def tw6430122302849888610:=0
def tw12466890014718775744:=0
def tw15547471471617823279:=0
def tw10169414432363882735:=0
def tw10836865448564962813:=0
def tw4973420295348361619:=0
def tw16873832568533228055:=0
def tw15649314356058520744:=0
def tw6796460328896773903:=0
def tw10313344967107495791:=0
def tw5061763654300490279:=0
def tw3282769309534079465:=0
def tw13518603334126021827:=0
def tw3802660472116545495:=0
def tw14101841695852421087:=0
def tw7773395802993213095:=0
def tw10708362740737227117:=0
def tw3857146480022151332:=0
def tw15394145360731305216:=0
def tw15226044247076622588:=0
def tw14225277557522498600:=0
def tw2089825719920287370:=0
def tw17528194648934030493:=0
def tw16913117680700388408:=0
def tw1589970971912458136:=0
def tw13935842473541738856:=0
def tw17213488598920832872:=0
def tw2777498376868969747:=0
def tw12401426369851716729:=0
def tw13893326306987113982:=0
def tw17156273521440528991:=0
def tw6979918323347701880:=0
def tw3458257327075301983:=0
def tw1562039412223398227:=0
def tw1537141638657921291:=0
def tw8690142329990841611:=0
def tw16228858816095718749:=0
def tw8330608278076901788:=0
def tw9367069097259914118:=0
def tw3448852086989123616:=0
def tw15788559296395060100:=0
def tw6320830927210833112:=0
def tw15376915528963323683:=0
def tw12325880859002992252:=0
def tw7769581915514530696:=0
def tw13911124174220450011:=0
def tw935264465576659297:=0
def tw2690967913304033911:=0
def tw8603914222387518410:=0
def tw6339031413374814994:=0
def tw9230396277611590246:=0
def tw14255874179171427582:=0
def tw4006479871953341041:=0
def tw8543062797511113659:=0
def tw10250182138244863680:=0
def tw13981488988141759927:=0
def tw9319615824566604997:=0
def tw17838309413549631438:=0
def tw14390103789465413003:=0
def tw11444619552907689726:=0
def tw15042004095889632292:=0
def tw1835668978377794191:=0
def tw15267599381393885862:=0
def tw12829844601421030006:=0
def tw13662575096464284585:=0
def tw1188543038225066393:=0
def tw3516217964546643075:=0
def tw14329916055621373128:=0
def tw5654647778700578137:=0
def tw13254818938116063176:=0
def tw12308052199804185316:=0
def tw7349884877060235064:=0
def tw6955063209294696908:=0
def tw4698574081375474089:=0
def tw14666413687752086734:=0
def tw17183537892206323013:=0
def tw6597577783300313373:=0
def tw13232681719717595234:=0
def tw10344423599541009922:=0
def tw12102685842054080820:=0
def tw15973265237592338279:=0
def tw17896587811097872122:=0
def tw117313255793385992:=0
def tw3275523719212114313:=0
def tw15050569743256451711:=0
def tw4880913464399361821:=0
def tw2503159439097685357:=0
def tw18426224750072889789:=0
def tw17261166694453008389:=0
def tw11071830950122399551:=0
def tw10301002499021812996:=0
def tw13821447755505563093:=0
def tw8232271991395262454:=0
def tw7424556750707898985:=0
def tw2670077273410598880:=0
def tw4839220585439072556:=0
def tw12419940012574086938:=0
def tw1913772263777113651:=0
def tw9332321800249423960:=0
def tw9383218463036088403:=0
def tw9881877198147708342:=0
def tw7488465604832443995:=0
def tw7584270855818436646:=0
def tw13476471838150307452:=0
def tw11769158196504907598:=0
def tw17437782426108519964:=0
def tw13887579438775300666:=0
def tw15096557095860241987:=0
def tw11743069772909728884:=0
def tw12196954879784086068:=0
def tw5570784684906303811:=0
def tw13589769974648582799:=0
def tw16658790875393523895:=0
def tw16816354163232915146:=0
def tw18303971216401064078:=0
def tw17447468883011820894:=0
def tw11431773769066939576:=0
def tw8689316189463668184:=0
def tw6498472701546949660:=0
def tw7162644639841129333:=0
def tw18083684015403612520:=0
def tw7231358290975554671:=0
def tw13413701333488312069:=0
def tw17503050406101966552:=0
def tw16439823069126500466:=0
def tw16915095952245348233:=0
def tw14500689508566301936:=0
def tw10854563578251039840:=0
def tw110137935674616367:=0
def tw17020721268815023407:=0
def tw12552315161597159096:=0
def tw2570330641061121593:=0
def tw17960098499188178901:=0
def tw3885184354431555532:=0
def tw13482756933737356698:=0
def tw12211297383099799513:=0
def tw18143907929318364321:=0
def tw9454614220186025244:=0
def tw16830151385963764170:=0
def tw6270650599706519193:=0
def tw16942771983917313242:=0
def tw5718075336101940989:=0
def tw4370056612863018512:=0
def tw16321415607131325964:=0
def tw4167211805061728888:=0
def tw8980843915751867656:=0
def tw5682225720597696857:=0
def tw1250309211704917143:=0
def tw8287056511975375273:=0
def tw14301433115691201963:=0
def tw16003071863998174475:=0
def tw14283358140258529535:=0
def tw8298184622047078370:=0
def tw8732643970418282095:=0
def tw17149595548991939256:=0
def tw12118884735055033425:=0
def tw1411291191542166658:=0
def tw13445733471184180364:=0
def tw2012014217712436644:=0
def tw1640226337036556386:=0
def tw16268779730055999075:=0
def tw11145253959786331100:=0
def tw578127383062620613:=0
def tw969198559653093556:=0
def tw9318897427219334024:=0
def tw7715062481096963751:=0
def tw13836118116736870486:=0
def tw2579306213347274688:=0
def tw7753331848709580778:=0
def tw10168241414713609726:=0
def tw18406182506014532059:=0
def tw15253944055961549773:=0
def tw3548677086181265618:=0
def tw13156149652094685287:=0
def tw4887839266242842367:=0
def tw8479436471256508697:=0
def tw3124581488010280865:=0
def tw1263690495617460105:=0
def tw3934280701215185408:=0
def tw18175866859100516328:=0
def tw3611201758009506252:=0
def tw11773693737935707902:=0
def tw18052575244281480123:=0
def tw4117468531599389199:=0
def tw3707084741655548248:=0
def tw9856279952565767413:=0
def tw13818941923256436006:=0
end PySem.W.Fast
open PySem PySem.W PyProof.Rows
set_option maxRecDepth 100000 in
set_option maxHeartbeats 0 in
theorem PySem.Challenge.cw_taglook_k66_slots_and_values_holds : PySem.Challenge.rw_taglook_k66_slots_and_values.Holds := by
 w_on;o_law;k_head;(case hw=>w_witness2)
 k_fill
 refine EH.walk (l:=PySem.Challenge.rw_taglook_k66_slots_and_values) rfl rfl (λw h Y=>PySem.W.kIn_of Y) ?hK ?F
 case hK=>intro pm;exact(Eq.refl true)
 case F=>
  intro w mg fa h KX G hmg;refine' EH.all_mk KX G hmg ?nb ?z0 ?z1 ?z2 ?z3 ?z4 ?z5 ?z6 ?a0 ?a1 ?T8 ?T9 ?hd0 ?T_ ?Ua ?Ub ?Uc ?Ud ?Ue ?hd1 ?Ug ?Uh ?mk1 ?Ui ?Uj ?Uk ?hd2 ?Ul ?Um ?mk2 ?Uo ?Up ?Uq ?Ur ?Us ?Ut ?mk3 ?Uu ?Uv ?Uw ?Ux ?Uy ?Uz ?UA ?UB ?UC ?UD ?UE ?UG ?UH ?UI ?UJ ?UK ?UL ?UM ?UN ?UO ?UP ?UQ ?UR ?US ?UT ?Pz ?PB ?PC ?PD ?PF ?PH ?PJ ?UU ?UW ?UX ?UY ?UZ ?U_ ?Va ?Vb ?Vc ?Vd ?PK ?PL ?PM ?PN ?PQ ?PR ?PU ?PV ?PX ?PY ?Ve ?P8 ?P9 ?P_ ?Qa ?Qb ?Qc ?Qd ?Qe ?Qf ?Vf ?Qg ?Qh ?Qi ?Qj ?Qk ?Ql ?Qm ?Qn ?Qo ?Qp ?Qq ?Qr ?Qs ?Qt ?Qu ?Qv ?Qw ?Qx ?Qy ?Qz ?QA ?QB ?QC ?QD ?QE ?QF ?QG
  (case nb=>exact(Eq.refl true))
  (case z0 |z1 |z2 |z3 |z4 |z5 |z6=>k_is)
  (case a0 |a1=>refine' Mir.lE ?a ?l ?c ?k;(case a=>k_is);(case l=>k_is);(case c=>k_is);(case k=>k_is))
  (case T8 |T9 |hd0 |T_ |Ua |Ub |Uc |Ud |Ue |hd1 |Ug |Uh |mk1 |Ui |Uj |Uk |hd2 |Ul |Um |mk2 |Uo |Up |Uq |Ur |Us |Ut |mk3 |Uu |Uv |Uw |Ux |Uy |Uz |UA |UB |UC |UD |UE |UG |UH |UI |UJ |UK |UL |UM |UN |UO |UP |UQ |UR |US |UT |Pz |PB |PC |PD |PF |PH |PJ=>k_is)
  (case UU |UW |UX |UY |UZ |U_ |Va |Vb |Vc=>refine' Mir.lE ?a ?l ?c ?k;(case a=>k_is);(case l=>k_is);(case c=>k_is);(case k=>k_is))
  (case PQ |PR |PU |PV |PX=>k_is)
  (case Vd |PK |PL |PM |PN |P8 |P9 |P_ |Qg |Qh |Qi |Qj |Qk |Ql |Qm |Qn |Qo |Qp |Qq |Qr |Qs |Qt |Qu |Qv |Qw=>refine' Mir.yU ?a ?l ?c ?k ?i;(case a=>k_is);(case l=>k_is);(case c=>k_is);(case k=>k_is);(case i=>k_is))
  (case PY=>rfl)
  (case Ve |Qa |Qb |Qc |Qd |Qe=>k_is)
  (case Qf=>rfl)
  (case Vf=>k_is)
  (case Qx |Qy |Qz |QA |QB |QC=>refine' Mir.lE ?a ?l ?c ?k;(case a=>k_is);(case l=>k_is);(case c=>k_is);(case k=>k_is))
  (case QD |QE |QF |QG=>k_is)
