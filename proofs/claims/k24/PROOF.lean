import PyProof.Rows.All
import Wide.All
import OpenK.AllK
import Wide.FinOn
import Lean
import PyProof.EqAt
import PyProof.EqKinds
import PyProof.TupleCall
import PyProof.EnumFor
import PyProof.EnumMake
import PyProof.EnumStmt
import PyProof.Rows.EnumRows
import PyProof.RulesTry
import PyProof.Rows.StrWeight2
import PyProof.AutoListH
import PyProof.Draws
import PyProof.Rows.SortStr
import PyProof.Rows.SortShell
import PyProof.Rows.SortWalk
import PyProof.Rows.StrMeet
import PyProof.DictIter
import PyProof.DictWalks
import KE.KDictOf
import PyProof.AttrMissSeq
import PyProof.ListRange
import PyProof.DictItems
import PyProof.FitsReplace
import PySem.Challenge.RW_taglook_k24_whole_history
set_option Elab.async false
set_option bootstrap.genMatcherCode false
set_option genSizeOfSpec false
set_option linter.all false
set_option maxRecDepth 100000
noncomputable section
namespace L2
open PySem PySem.Spec PyProof.Rows
abbrev Key:=Sum Int Str
noncomputable def lL:Key->Value->Bool
 |.inl k,v=>Value.isInt k v
 |.inr x,v=>Value.isStrOf x v
noncomputable def Ma(w:World):Key->Int
 |.inl k=>hashInt k
 |.inr x=>hashStr w x
theorem bW:∀{k:Key}{v:Value},lL k v=true->(∃i t,k=Sum.inl i/\v=Value.int i t)\/(∃x t,k=Sum.inr x/\v=Value.str x t)
 |.inl i,v,h=>by
  obtain⟨t,e⟩:=Value.isInt_shape (k:=i) (v:=v) h;exact .inl ⟨i,t,rfl,e⟩
 |.inr x,v,h=>by
  obtain⟨t,e⟩:=Value.isStrOf_shape (x:=x) (v:=v) h;exact .inr ⟨x,t,rfl,e⟩
theorem vt(i:Int)(t:Tok):lL (.inl i) (.int i t)=true:=by simp[lL,Value.isInt]
theorem vu(x:Str)(t:Tok):lL (.inr x) (.str x t)=true:=by simp[lL,Value.isStrOf]
theorem Dy(a b:Int):decide ((Sum.inl a:Key)=Sum.inl b)=(a==b):=by
 by_cases e:a=b
 .subst e;simp
 .have h:¬ (Sum.inl a:Key)=Sum.inl b:=λq=>e (Sum.inl.inj q)
  rw[decide_eq_false h];exact(beq_eq_false_iff_ne.mpr e).symm
theorem Dz(a b:Str):decide ((Sum.inr a:Key)=Sum.inr b)=decide (a=b):=by
 by_cases e:a=b
 .subst e;simp
 .have h:¬ (Sum.inr a:Key)=Sum.inr b:=λq=>e (Sum.inr.inj q)
  rw[decide_eq_false h,decide_eq_false e]
theorem DA(a:Int)(b:Str):decide ((Sum.inl a:Key)=Sum.inr b)=false:=decide_eq_false (λq=>nomatch q)
theorem DB(a:Str)(b:Int):decide ((Sum.inr a:Key)=Sum.inl b)=false:=decide_eq_false (λq=>nomatch q)
def bP(prog:Program)(w:World):PySem.KeyKind prog w Key where
 is:=lL
 hash:=Ma w
 inj:=λv a b g f=>by
  rcases bW g with ⟨i,t,rfl,rfl⟩|⟨x,t,rfl,rfl⟩
  .rcases bW f with ⟨j,u,rfl,e⟩|⟨y,u,rfl,e⟩
   .injection e with c _;rw[c]
   .exact nomatch e
  .rcases bW f with ⟨j,u,rfl,e⟩|⟨y,u,rfl,e⟩
   .exact nomatch e
   .injection e with c _;rw[c]
 byValue:=λk v h=>by
  rcases bW h with ⟨i,t,rfl,rfl⟩|⟨x,t,rfl,rfl⟩<;>rfl
 pyHash:=λd h=>by
  rcases bW d with ⟨i,t,rfl,rfl⟩|⟨x,t,rfl,rfl⟩
  .exact wpAny_pyHash_int h
  .exact wpAny_pyHash_str h
 eqBool:=λl d h=>by
  rcases bW l with ⟨i,t,rfl,rfl⟩|⟨x,t,rfl,rfl⟩
  .rcases bW d with ⟨j,u,rfl,rfl⟩|⟨y,u,rfl,rfl⟩
   .rw[Dy]at h;exact wpAny_eqBool_int h
   .rw[DA]at h;exact SeqAt.EqAt.int_str i t y u _ _ _ _ h
  .rcases bW d with ⟨j,u,rfl,rfl⟩|⟨y,u,rfl,rfl⟩
   .rw[DB]at h;exact SeqAt.EqAt.str_int x t j u _ _ _ _ h
   .rw[Dz]at h;exact wpAny_eqBool_str h
 «strs» := λk x t v h=>by
  rcases bW h with ⟨i,u,rfl,e⟩|⟨y,u,rfl,e⟩
  .exact nomatch e
  .injection e with c _
   subst c;cases v<;>rfl
theorem qr(prog:Program)(w:World)(i:Int)(t:Tok):(bP prog w).is (.inl i) (.int i t)=true:=vt i t
theorem qu(prog:Program)(w:World)(x:Str)(t:Tok):(bP prog w).is (.inr x) (.str x t)=true:=vu x t
inductive V where
 |non|bl (b:Bool)|int (i:Int)|str (x:Str)|F_ (b:Array UInt8)|flt (b:UInt64)|ref (a:Addr)|ty (n:String)
 deriving DecidableEq
def RelV:V->Value->Prop
 |.non,u=>u=Value.none
 |.bl b,u=>u=Value.bool b
 |.int i,u=>∃t,u=Value.int i t
 |.str x,u=>∃t,u=Value.str x t
 |.F_ b,u=>∃t,u=Value.bytes b t
 |.flt b,u=>∃t,u=Value.float b t
 |.ref a,u=>u=Value.ref a
 |.ty n,u=>u=Value.type n
abbrev Vals:List V->List Value->Prop:=Paired RelV
theorem Vals.length{xs:List V}{us:List Value}(r:Vals xs us):xs.length=us.length:=Paired.length r
theorem Vals.get:∀{xs:List V}{us:List Value}{i:Nat}{x:V},Vals xs us->xs[i]?=some x->∃u,us[i]?=some u/\RelV x u
 |_,_,_,_,.nil,e=>by simp at e
 |_,_,0,_,.cons r _,e=>by simp at e;subst e;exact⟨_,rfl,r⟩
 |_,_,i+1,x,.cons _ t,e=>by
  obtain⟨u,h1,h2⟩:=Vals.get (i:=i) (x:=x) t (by simpa using e)
  exact⟨u,by simpa using h1,h2⟩
theorem Vals.append:∀{xs ys:List V}{us a:List Value},Vals xs us->Vals ys a->Vals (xs++ys) (us++a)
 |_,_,_,_,.nil,s=>s
 |_,_,_,_,.cons r t,s=>.cons r (Vals.append t s)
theorem Vals.take:∀{xs:List V}{us:List Value} (n:Nat),Vals xs us->Vals (xs.take n) (us.take n)
 |_,_,0,_=>.nil
 |_,_,_+1,.nil=>.nil
 |_,_,n+1,.cons r t=>.cons r (Vals.take n t)
theorem Vals.drop:∀{xs:List V}{us:List Value} (n:Nat),Vals xs us->Vals (xs.drop n) (us.drop n)
 |_,_,0,r=>r
 |_,_,_+1,.nil=>.nil
 |_,_,n+1,.cons _ t=>Vals.drop n t
def hY:Option V->Option Value->Prop
 |some v,some u=>RelV v u
 |none,none=>True
 |_,_=>False
def KV{κ:Type}:List (κ×V)->List (κ×Value)->Prop:=Paired λ(p:κ×V) (q:κ×Value)=>p.1=q.1/\RelV p.2 q.2
noncomputable def kV:Key->V
 |.inl i=>.int i
 |.inr x=>.str x
inductive HO where
 |lst (xs:List V)
 |tup (xs:List V)
 |dK (kvs:List (Key×V))|dT (kvs:List (List Key×V))
 |set (S:Int->Bool) (n:Nat)
 |ins (C dx:Addr) (fs:List (Str×V))
 |own (x:Addr)
 |xd (fs:List (Str×V))
 |met (f x:Addr)
 |Mb (lo hi:Int)
 |dW (o:Obj) (u:HO)
 |DC (ps:Array Value)
 |ext (φ:Heap->Prop)
abbrev Hp:=Addr->Option HO
noncomputable def upd(H:Hp)(a:Addr)(o:HO):Hp:=λb=>if b=a then some o else H b
theorem ba{H:Hp}{a:Addr}{o:HO}:upd H a o a=some o:=by unfold upd;rw[if_pos rfl]
theorem aM{H:Hp}{a b:Addr}{o:HO}(h:b≠a):upd H a o b=H b:=by unfold upd;rw[if_neg h]
theorem bf{H:Hp}{a b:Addr}{o:HO}(h:H a=some o)(h':H b=none):a≠b:=by
 intro e;subst e;rw[h]at h';cases h'
section
variable(P:Program)(w:World)
def cq(H:Hp)(h:Heap)(a:Addr):HO->Prop
 |.lst xs=>xs.length<=sizeLine/\∃(b:List Value) (n:Nat),Vals xs b/\h.get? a=some {cls:=.type "list",data:=.seq b.toArray n}
 |.tup xs=>xs.length<=sizeLine/\∃b:List Value,Vals xs b/\IsTup h a b.toArray
 |.dK kvs=>kvs.length<=sizeLine/\(a==sysModules)=false/\∃vs,KV kvs vs/\h.DictOf (bP P w) a vs
 |.dT kvs=>kvs.length<=sizeLine/\(a==sysModules)=false/\∃xs:List (List Key×Addr×Value),
   Paired (λ(p:List Key×V) (q:List Key×Addr×Value)=>p.1=q.1/\H q.2.1=some (.tup (p.1.map kV))/\RelV p.2 q.2.2) kvs xs /\
   ∃o es ep,h.get? a=some o/\o.ExactDict/\o.data=.dict es ep/\es.toList=xs.map (entryOfKey (tupleKind (bP P w)))/\(xs.map (·.1)).Nodup
 |.set S n=>h.SetOf (intKind P w) a S n
 |.ins C dx fs=>H dx=some (.own a)/\fs.length<=1000/\dx≠a/\h.get? a=some (PySem.W.instObj C dx) /\
   ∃c,h.Ns1 dx c/\(∀f,hY (fs.lookup f) (c f))/\PySem.Within c (fs.map (·.1))
 |.own _=>∃o,h.get? a=some o
 |.xd fs=>∃c,h.Ns1 a c/\∀f,hY (fs.lookup f) (c f)
 |.Mb lo hi=>∃t u v,h.get? a=some {cls:=.type "range",data:=.fields #[.int lo t,.int hi u,.int 1 v]}
 |.dW o u=>h.get? a=some o/\cq H h a u
 |.DC ps=>h.get? a=some {cls:=.none,data:=.fields ps}
 |.met f x=>h.get? a=some (PySem.W.methodObj (.ref f) (.ref x))
 |.ext d=>d h/\(∃o,h.get? a=some o)/\∀e g:Heap,d e->(∀o,e.get? a=some o->g.get? a=some o)->d g
def i9(H:Hp)(h:Heap):Prop:=∀a o,H a=some o->cq P w H h a o
end
section
variable{P:Program}{w:World}{H H':Hp}{h h':Heap}{a:Addr}{o:HO}
theorem cq.lt(x:cq P w H h a o):a<h.objs.size:=by
 cases o with
 |lst c=>obtain⟨_,_,_,_,e⟩:=x;exact Heap.lt_size e
 |tup c=>obtain⟨_,_,_,p⟩:=x;exact p.lt
 |dK b=>obtain⟨_,_,_,_,o,_,_,e,_⟩:=x;exact Heap.lt_size e
 |dT b=>obtain⟨_,_,_,_,o,_,_,e,_⟩:=x;exact Heap.lt_size e
 |set S n=>obtain⟨o,_,_,_,e,_⟩:=x;exact Heap.lt_size e
 |ins C g d=>obtain⟨_,_,_,e,_⟩:=x;exact Heap.lt_size e
 |own y=>obtain⟨_,e⟩:=x;exact Heap.lt_size e
 |xd d=>obtain⟨_,⟨_,_,_,e,_⟩,_⟩:=x;exact Heap.lt_size e
 |Mb i j=>obtain⟨_,_,_,e⟩:=x;exact Heap.lt_size e
 |dW k u=>obtain⟨e,_⟩:=x;exact Heap.lt_size e
 |DC l=>exact Heap.lt_size (show h.get? a=some _ from x)
 |met f y=>exact Heap.lt_size (show h.get? a=some _ from x)
 |ext m=>obtain⟨_,⟨_,e⟩,_⟩:=x;exact Heap.lt_size e
theorem Paired.GA{c d:Type}{F G:c->d->Prop}:∀{l₁:List c}{l₂:List d},Paired F l₁ l₂->(∀a b,F a b->G a b)->Paired G l₁ l₂
 |_,_,.nil,_=>.nil
 |_,_,.cons r t,f=>.cons (f _ _ r) (Paired.GA t f)
theorem cq.stay(x:cq P w H h a o)(k:∀b u,(b=a\/H b=some (.own a))->h.get? b=some u->h'.get? b=some u)
  (E:∀b,H b=some (.own a)->H' b=some (.own a)) (F:∀b xs,H b=some (.tup xs)->H' b=some (.tup xs)):cq P w H' h' a o:=by
 induction o with
 |lst xs=>obtain⟨z,l,n,r,e⟩:=x;exact⟨z,l,n,r,k _ _ (.inl rfl) e⟩
 |tup xs=>obtain⟨z,l,r,g,e,c⟩:=x;exact⟨z,l,r,g,k _ _ (.inl rfl) e,c⟩
 |dK m=>obtain⟨z,y,G,r,g,i,j,e,c⟩:=x;exact⟨z,y,G,r,g,i,j,k _ _ (.inl rfl) e,c⟩
 |dT m=>
  obtain⟨z,y,xs,r,g,i,j,e,c⟩:=x;exact⟨z,y,xs,Paired.GA r λp q z=>⟨z.1,F _ _ z.2.1,z.2.2⟩,g,i,j,k _ _ (.inl rfl) e,c⟩
 |set S n=>obtain⟨g,i,j,t,e,c⟩:=x;exact⟨g,i,j,t,k _ _ (.inl rfl) e,c⟩
 |ins C L I=>
  obtain⟨d,z,ne,e,s,⟨A,i,j,J,c⟩,r⟩:=x;exact⟨E _ d,z,ne,k _ _ (.inl rfl) e,s,⟨A,i,j,k _ _ (.inr d) J,c⟩,r⟩
 |own y=>obtain⟨g,e⟩:=x;exact⟨g,k _ _ (.inl rfl) e⟩
 |xd I=>obtain⟨s,⟨A,i,j,e,c⟩,r⟩:=x;exact⟨s,⟨A,i,j,k _ _ (.inl rfl) e,c⟩,r⟩
 |Mb M N=>obtain⟨t,u,v,e⟩:=x;exact⟨t,u,v,k _ _ (.inl rfl) e⟩
 |dW g u K=>obtain⟨e,q⟩:=x;exact⟨k _ _ (.inl rfl) e,K q⟩
 |DC B=>
  have e:h.get? a=some {cls:=.none,data:=.fields B}:=x
  show h'.get? a=some {cls:=.none,data:=.fields B}
  exact k a _ (.inl rfl) e
 |met f y=>
  have e:h.get? a=some (PySem.W.methodObj (.ref f) (.ref y)):=x
  show h'.get? a=some (PySem.W.methodObj (.ref f) (.ref y))
  exact k a _ (.inl rfl) e
 |ext O=>obtain⟨p,⟨o,e⟩,D⟩:=x;exact⟨D _ _ p λo q=>k _ _ (.inl rfl) q,⟨o,k _ _ (.inl rfl) e⟩,D⟩
theorem i9.lt(x:i9 P w H h)(e:H a=some o):a<h.objs.size:=(x a o e).lt
theorem i9.fresh(x:i9 P w H h)(e:h.objs.size<=a):H a=none:=by
 cases q:H a with
 |none=>rfl
 |some u=>exact absurd (Nat.lt_of_lt_of_le (x.lt q) e) (Nat.lt_irrefl _)
theorem i9.kept(x:i9 P w H h)(k:∀b u,h.get? b=some u->h'.get? b=some u):i9 P w H h':=λa o e=>
 (x a o e).stay (λb u _ q=>k b u q) (λ_ q=>q) λ_ _ q=>q
theorem i9.laid(x:i9 P w H h)(k:∀b u,h.get? b=some u->h'.get? b=some u)(i:h.objs.size<=a)(d:cq P w (upd H a o) h' a o):i9 P w (upd H a o) h':=λb u e=>by
 have f:=x.fresh i
 by_cases g:b=a
 .subst g;rw[ba]at e;cases e;exact d
 .rw[aM g]at e
  exact(x b u e).stay (λc v _ q=>k c v q) (λc q=>by rw[aM (bf q f)];exact q) λc j q=>by rw[aM (bf q f)];exact q
end
def Rd(H:Hp)(a:Addr)(u:HO):Prop:=H a=some u\/∃o,H a=some (.dW o u)
theorem Rd.ok{P:Program}{w:World}{H:Hp}{h:Heap}{a:Addr}{u:HO}(r:Rd H a u)(x:i9 P w H h):cq P w H h a u:=by
 rcases r with r|⟨o,r⟩
 .exact x a u r
 .obtain⟨_,q⟩:=x a _ r
  exact q
def GB:Option HO->Prop
 |some (.lst _)=>True
 |some (.dK _)=>True
 |some (.dT _)=>True
 |some (.set _ _)=>True
 |some (.ins _ _ _)=>True
 |some (.ext _)=>True
 |_=>False
section
variable{P:Program}{w:World}{H:Hp}{h h':Heap}{x e:Addr}{o':HO}
theorem i9.write(ok:i9 P w H h)(g:GB (H x))(n:e=x\/H e=some (.own x))(k:∀b u,b≠e->h.get? b=some u->h'.get? b=some u)(l:∃u,h'.get? e=some u)
  (m:cq P w (upd H x o') h' x o'):i9 P w (upd H x o') h':=λb u q=>by
 have d:∀c y,H c=some (.own y)->c≠x:=λc y r z=>by subst z;rw[r]at g;exact g
 have f:∀c i,H c=some (.tup i)->c≠x:=λc i r z=>by subst z;rw[r]at g;exact g
 by_cases j:b=x
 .subst j;rw[ba]at q;cases q;exact m
 .rw[aM j]at q
  by_cases a:b=e
  .have o:H b=some (.own x):=by
    rcases n with z|z
    .exact absurd (a.trans z) j
    .rw[a];exact z
   rw[q]at o;cases o
   obtain⟨v,p⟩:=l;exact⟨v,by rw[a];exact p⟩
  .refine(ok b u q).stay (λc v hc r=>k c v ?_ r) (λc r=>by rw[aM (d c b r)];exact r) λc i r=>by rw[aM (f c i r)];exact r
   rcases hc with rfl|hc
   .exact a
   .rintro rfl
    rcases n with z|z
    .exact d c b hc z
    .rw[hc]at z;cases z;exact j rfl
end
structure Un(fs ex:List Addr)(H H':Hp)(h h':Heap):Prop where
 keep:∀b o,h.get? b=some o->H b=none->b∉fs->b∉ex->h'.get? b=some o
 slot:∀b o,h.get? b=some o->H b=none->b∈fs->b∉ex->∃sl,h'.get? b=some {o with slots:=sl}
 free:∀b o,h.get? b=some o->H b=none->b∉ex->H' b=none
 there:∀b o,h.get? b=some o->b∉ex->∃o',h'.get? b=some o'
 tups:∀b xs,H b=some (.tup xs)->H' b=some (.tup xs)
 gX:∀b o u,H b=some (.dW o u)->H' b=some (.dW o u)
 i_:∀b ps,H b=some (.DC ps)->∃more,H' b=some (.DC (ps++more))
section
variable{fs fs' ex ex':List Addr}{H H1 H2:Hp}{h h1 h2 h':Heap}{a x e:Addr}{o:HO}
theorem Un.any(u:Un fs ex H H1 h h1){b:Addr}{ob:Obj}(q:h.get? b=some ob)(n:H b=none)(a:b∉ex):∃d,h1.get? b=some {ob with slots:=d}:=by
 by_cases c:b∈fs
 .exact u.slot b ob q n c a
 .exact⟨ob.slots,u.keep b ob q n c a⟩
theorem Un.trans(a:Un fs ex H H1 h h1)(b:Un fs ex H1 H2 h1 h2):Un fs ex H H2 h h2 where
 keep:=λc d q n g e=>b.keep c d (a.keep c d q n g e) (a.free c d q n e) g e
 slot:=λc d q n g e=>by
  obtain⟨o,f⟩:=a.slot c d q n g e;obtain⟨j,k⟩:=b.slot c _ f (a.free c d q n e) g e;exact⟨j,k⟩
 free:=λc d q n e=>by
  obtain⟨l,f⟩:=a.there c d q e;exact b.free c l f (a.free c d q n e) e
 there:=λc d q e=>by
  obtain⟨l,f⟩:=a.there c d q e;exact b.there c l f e
 tups:=λc i q=>b.tups c i (a.tups c i q)
 gX:=λc d i q=>b.gX c d i (a.gX c d i q)
 i_:=λc m q=>by
  obtain⟨m1,f⟩:=a.i_ c m q;obtain⟨m2,k⟩:=b.i_ c _ f;exact⟨m1++m2,by rw[k,Array.append_assoc]⟩
theorem Un.kept(k:∀b u,h.get? b=some u->h'.get? b=some u):Un fs ex H H h h':=
 ⟨λb a q _ _ _=>k b a q,λb a q _ _ _=>⟨a.slots,k b a q⟩,λ_ _ _ n _=>n,λb a q _=>⟨a,k b a q⟩,λ_ _ q=>q,λ_ _ _ q=>q,λ_ c q=>⟨#[],by rw[q];simp⟩⟩
theorem Un.refl:Un fs ex H H h h:=Un.kept λ_ _ q=>q
theorem Un.laid(k:∀b u,h.get? b=some u->h'.get? b=some u)(d:h.objs.size<=a)(c:H a=none):Un fs ex H (upd H a o) h h' where
 keep:=λb u q _ _ _=>k b u q
 slot:=λb u q _ _ _=>⟨u.slots,k b u q⟩
 free:=λb u q n _=>by rw[aM (Nat.ne_of_lt (Nat.lt_of_lt_of_le (Heap.lt_size q) d))];exact n
 there:=λb u q _=>⟨u,k b u q⟩
 tups:=λb e q=>by rw[aM (bf q c)];exact q
 gX:=λb u e q=>by rw[aM (bf q c)];exact q
 i_:=λb f q=>⟨#[],by rw[aM (bf q c),q];simp⟩
theorem Un.write(c:GB (H x))(j:e=x\/H e=some (.own x))(k:∀b u,b≠e->h.get? b=some u->h'.get? b=some u)(d:∃u,h'.get? e=some u):Un fs ex H (upd H x o) h h':=by
 have g:∀b,H b=none->b≠x:=λb n z=>by subst z;rw[n]at c;exact c
 have i:∀b,H b=none->b≠e:=λb n z=>by
  subst z;rcases j with r|r
  .exact g b n r
  .rw[n]at r;cases r
 have f:∀b u,H b=some u->¬ GB (some u)->b≠x:=λb u q l z=>by subst z;rw[q]at c;exact l c
 refine⟨λb u q n _ _=>k b u (i b n) q,λb u q n _ _=>⟨u.slots,k b u (i b n) q⟩,λb u q n _=>by rw[aM (g b n)];exact n,λb u q _=>?_,
  λb m q=>by rw[aM (f b _ q λz=>z)];exact q,λb u m q=>by rw[aM (f b _ q λz=>z)];exact q,λb p q=>⟨#[],by rw[aM (f b _ q λz=>z),q];simp⟩⟩
 by_cases a:b=e
 .subst a;exact d
 .exact⟨u,k b u a q⟩
end
noncomputable def Kf(h:Heap)(H:Hp):List Addr:=(List.range h.objs.size).filter λa=>(H a).isSome
def oO(h:Heap)(H:Hp):Heap:=PySem.W.hideAll h (Kf h H)
theorem vv(h:Heap)(H:Hp):(oO h H).objs.size=h.objs.size:=PySem.W.hideAll_size _ _
theorem wX{h:Heap}{H:Hp}{b:Addr}{o:Obj}(e:h.get? b=some o)(n:H b=none):(oO h H).get? b=some o:=
 PySem.W.hideAll_get _ e λa=>by
  have q:(H b).isSome=true:=(List.mem_filter.mp a).2;rw[n]at q;simp at q
theorem zH{h:Heap}{H:Hp}{b:Addr}{o:Obj}(e:(oO h H).get? b=some o):h.get? b=some o/\H b=none:=by
 have a:h.get? b=some o:=PySem.W.of_hideAll (Kf h H) e;refine⟨a,?_⟩;cases q:H b with
 |none=>rfl
 |some x=>
  have c:b∈Kf h H:=List.mem_filter.mpr ⟨List.mem_range.mpr (Heap.lt_size a),by simp[q]⟩
  have z:(oO h H).get? b=none:=PySem.W.hideAll_none (Kf h H) c;rw[z]at e;cases e
noncomputable def zI(g h:Heap)(L:Addr):List (Addr×Obj):=(List.range h.objs.size).filterMap λa=>if a=L\/(g.get? a).isSome=true then none else (h.get? a).map λo=>(a,o)
def rest(g h:Heap)(L d:Addr):List (Addr×Obj):=(zI g h L).filter λp=>decide (p.1≠d)
structure Mod(K:PySem.W.Frag)(mg:Str->Option Value)(base:Heap):Prop where
 Ga:K.In base
 glob:base.Ns mainGlobals mg
 blt:∃mb,base.Ns builtinsNs mb/\∀x:Str,x≠"__name__"->mb x=bootBuiltins x
 nolimit:base.NoLimit
structure Cx where
 prog:Program
 w:World
 K:PySem.W.Frag
 mg:Str->Option Value
 base:Heap
 A:Around
 N:List Str
 s₀:Shared
 H₀:Hp
 env:Env
 outer:List Env
 stack:List Env
 ex:List Addr
 fn:Str->Bool
 calm:Bool
 pn:List (Addr×Obj)
 xe:Value->Shared->Prop
noncomputable def frs(l:List Env):List Addr:=l.filterMap (·.frame)
abbrev Cx.fs(X:Cx):List Addr:=frs X.outer
def Gb(a:Scope)(x:Str):Prop:=a.names.lookup x=some .local\/a.names.lookup x=some .cell\/a.names.lookup x=some .free
def Loc(a:Scope)(x:Str):Prop:=a.names.lookup x=some .local\/a.names.lookup x=some .cell
def Look(env:Env)(h:Heap)(m:Str->Option Value)(x:Str)(u:Value):Prop:=
 (env.kindOf x=some .local/\m x=some u)\/((env.kindOf x=some .cell\/env.kindOf x=some .free)/\∃c,env.cells.lookup x=some c/\h.IsCell c (some u))
structure Cx.Ok(X:Cx):Prop where
 mod:Mod X.K X.mg X.base
 kind:X.env.scope.kind=.function
 glob:X.env.globals=mainGlobals
 blt:X.env.builtins=builtinsNs
 above:X.s₀.heap.objs.size<=X.env.locals
 inj:∀x y c,X.env.cells.lookup x=some c->X.env.cells.lookup y=some c->x=y
 has:∀x,(X.env.kindOf x=some .cell\/X.env.kindOf x=some .free)->∃c,X.env.cells.lookup x=some c
 cab:∀x c,X.fn x=true->X.env.cells.lookup x=some c->X.s₀.heap.objs.size<=c
 hd:X.calm=true->X.A.handled=none
 frames:X.A.frames=some X.stack
 Kg:X.stack=X.outer\/(X.stack=X.env::X.outer/\X.env.frame=some X.env.locals)
 Kh:∀b∈X.ex,b≠X.env.locals/\∀x c,X.env.cells.lookup x=some c->c≠b
 bs:∀b o,X.base.get? b=some o->X.s₀.heap.get? b=some o/\X.H₀ b=none
 CV:X.base.objs.size<=X.s₀.heap.objs.size
 wY:∀b o,X.base.get? b=some o->b∉X.ex
 wZ:∀b∈X.ex,b∉X.fs
 kO:X.s₀.heap.FunFrames X.base X.outer
 DD:∀b∈X.fs,X.H₀ b=none
structure Inv(X:Cx)(pins:List (Addr×Obj))(σ:List (Option V))(H:Hp)(s:Shared):Prop where
 ok:X.Ok
 os:s.os=X.s₀.os
 bare:AllBare s.gens
 base:Un X.fs X.ex X.H₀ H X.s₀.heap s.heap
 loc:∃m,s.heap.Ns X.env.locals m/\∀(i:Nat) (x:Str) (v:V),X.N[i]?=some x->σ[i]?=some (some v)->Gb X.env.scope x->∃u,RelV v u/\Look X.env s.heap m x u
 cell:∀x c,X.env.cells.lookup x=some c->∃v,s.heap.IsCell c v
 free:H X.env.locals=none
 fP:∀x c,X.env.cells.lookup x=some c->(H c=none\/∃o u,H c=some (.dW o u))/\(X.fn x=true->H c=none)
 pin:∀p∈X.pn++pins,s.heap.get? p.1=some p.2/\H p.1=none/\p.1≠X.env.locals/\p.1∉X.fs/\∀v,p.2.data≠.cell v
 hok:i9 X.prog X.w H s.heap
 len:σ.length=X.N.length
section
variable{X:Cx}{pins:List (Addr×Obj)}{σ:List (Option V)}{H H':Hp}{s:Shared}{h':Heap}
theorem Cx.Ok.Mc(ok:X.Ok){b:Addr}{o:Obj}(e:X.base.get? b=some o):b∉X.fs:=λa=>by
 have:=(ok.kO.mem a).1;rw[e]at this;cases this
theorem Inv.bs(I:Inv X pins σ H s):∀b o,X.base.get? b=some o->s.heap.get? b=some o/\H b=none:=λb o e=>
 ⟨I.base.keep b o (I.ok.bs b o e).1 (I.ok.bs b o e).2 (I.ok.Mc e) (I.ok.wY b o e),I.base.free b o (I.ok.bs b o e).1 (I.ok.bs b o e).2 (I.ok.wY b o e)⟩
theorem Inv.bk(I:Inv X pins σ H s):∀b o,X.base.get? b=some o->s.heap.get? b=some o:=λb o e=>(I.bs b o e).1
theorem Inv.mod(I:Inv X pins σ H s):Mod X.K X.mg X.base:=I.ok.mod
theorem Inv.jq(I:Inv X pins σ H s):X.K.In s.heap:=I.ok.mod.Ga.keeps I.bk
theorem Inv.lt(I:Inv X pins σ H s):X.env.locals<s.heap.objs.size:=let ⟨_,a,_⟩:=I.loc;a.lt
theorem Inv.sz(I:Inv X pins σ H s):X.s₀.heap.objs.size<=s.heap.objs.size:=Nat.le_trans I.ok.above (Nat.le_of_lt I.lt)
theorem Inv.Md(I:Inv X pins σ H s){a:Addr}(h:s.heap.objs.size<=a):a∉X.fs:=λb=>by
 obtain⟨_,o,c,_⟩:=I.ok.kO.mem b;exact absurd (Nat.lt_of_lt_of_le (Heap.lt_size c) (Nat.le_trans I.sz h)) (Nat.lt_irrefl _)
theorem Inv.Me(I:Inv X pins σ H s):∀x c,X.env.cells.lookup x=some c->c≠X.env.locals:=λx c e z=>by
 obtain⟨v,o,d,f⟩:=I.cell x c e;obtain⟨m,⟨g,h,i,a,b,_⟩,_⟩:=I.loc;rw[z,a]at d;cases d;rw[b]at f;cases f
theorem Inv.kO(I:Inv X pins σ H s):s.heap.FunFrames X.base X.outer:=by
 have a:∀(l:List Env),(∀b∈frs l,b∈X.fs)->X.s₀.heap.FunFrames X.base l->s.heap.FunFrames X.base l:=by
  intro l
  induction l with
  |nil=>intro _ _;trivial
  |cons h r i=>
   intro g j;obtain⟨k,⟨L,o,c,m,n,p⟩,q⟩:=j;have d:L∈X.fs:=g L (by unfold frs;rw[List.filterMap_cons,c];exact List.mem_cons_self)
   obtain⟨t,e⟩:=I.base.slot L o n (I.ok.DD L d) d λz=>I.ok.wZ L z d
   exact⟨k,⟨L,_,c,m,e,p⟩,i (λb f=>g b (by unfold frs;rw[List.filterMap_cons,c];exact List.mem_cons_of_mem _ f)) q⟩
 exact a X.outer (λ_ f=>f) I.ok.kO
theorem Inv.stack(I:Inv X pins σ H s):s.heap.FunFrames X.base X.stack:=by
 rcases I.ok.Kg with e|⟨e,a⟩
 .rw[e];exact I.kO
 .rw[e]
  obtain⟨m,b,_⟩:=I.loc;refine .cons (by rw[I.ok.kind];decide) a b ?_ I.kO
  exact Heap.get?_none_of_le (Nat.le_trans I.ok.CV I.ok.above)
theorem Inv.r_(I:Inv X pins σ H s):∀b∈frs X.stack,b∈X.env.locals::X.fs:=λb a=>by
 rcases I.ok.Kg with e|⟨e,c⟩
 .rw[e]at a;exact List.mem_cons_of_mem _ a
 .rw[e]at a
  unfold frs at a;rw[List.filterMap_cons,c]at a;exact a
theorem Inv.ue(I:Inv X pins σ H s):∀b∈frs X.stack,H b=none:=λb hb=>by
 rcases List.mem_cons.mp (I.r_ b hb)with e|hb
 .rw[e];exact I.free
 .obtain⟨_,o,a,_⟩:=I.ok.kO.mem hb
  exact I.base.free b o a (I.ok.DD b hb) λz=>I.ok.wZ b z hb
theorem Inv.step{g':Array GenState}{t':Nat}{d':Drawn}{ch:List Addr}(I:Inv X pins σ H s)
  (h:∀b∈ch,(b∈X.ex\/X.s₀.heap.objs.size<=b)/\b≠X.env.locals/\(∀x c,X.env.cells.lookup x=some c->c≠b)/\∀p∈X.pn++pins,p.1≠b)
  (keep:∀b o,b≠X.env.locals->b∉X.fs->b∉ch->s.heap.get? b=some o->H b=none->h'.get? b=some o)
  (slot:∀b o,b≠X.env.locals->b∈X.fs->b∉ch->s.heap.get? b=some o->H b=none->∃M,h'.get? b=some {o with slots:=M}) (free:∀b o,b∉ch->s.heap.get? b=some o->H b=none->H' b=none)
  (there:∀b o,b∉ch->s.heap.get? b=some o->∃E,h'.get? b=some E)
  (tups:∀b xs,H b=some (.tup xs)->H' b=some (.tup xs)) (gX:∀b o u,H b=some (.dW o u)->H' b=some (.dW o u)) (i_:∀b ps,H b=some (.DC ps)->∃more,H' b=some (.DC (ps++more)))
  (ns:∀m,s.heap.Ns X.env.locals m->h'.Ns X.env.locals m) (F:i9 X.prog X.w H' h') (R:AllBare g') :
  Inv X pins σ H' {s with heap:=h',gens:=g',drawn:=d',toks:=t' }:=by
 have G:∀b o,X.s₀.heap.get? b=some o->b≠X.env.locals:=λb o e=>Nat.ne_of_lt (Nat.lt_of_lt_of_le (Heap.lt_size e) I.ok.above)
 have t:∀b o,X.s₀.heap.get? b=some o->b∉X.ex->b∉ch:=λb o e f A=>by
  rcases(h b A).1 with z|z
  .exact f z
  .exact absurd (Nat.lt_of_lt_of_le (Heap.lt_size e) z) (Nat.lt_irrefl _)
 have j:∀x c,X.env.cells.lookup x=some c->∀v,s.heap.IsCell c v->h'.IsCell c v:=λx c e v ⟨o,y,J⟩=>by
  have a:c∉ch:=λz=>(h c z).2.2.1 x c e rfl
  rcases(I.fP x c e).1 with C|⟨D,K,L⟩
  .by_cases O:c∈X.fs
   .obtain⟨M,q⟩:=slot c o (I.Me x c e) O a y C
    exact⟨_,q,J⟩
   .exact⟨o,keep c o (I.Me x c e) O a y C,J⟩
  .have g:s.heap.get? c=some D:=(I.hok c _ L).1
   have B:h'.get? c=some D:=(F c _ (gX c D K L)).1;rw[y]at g;cases g
   exact⟨o,B,J⟩
 refine⟨I.ok,I.os,R,⟨λb o e n A f=>?_,λb o e n A f=>?_,λb o e n f=>?_,λb o e f=>?_,λb xs e=>tups b xs (I.base.tups b xs e),λb o xs e=>gX b o xs (I.base.gX b o xs e),λb ps e=>?_⟩,?_,λx c e=>?_,?_,λx c e=>?_,λp P=>?_,F,I.len⟩
 .exact keep b o (G b o e) A (t b o e f) (I.base.keep b o e n A f) (I.base.free b o e n f)
 .obtain⟨M,g⟩:=I.base.slot b o e n A f
  obtain⟨N,B⟩:=slot b _ (G b o e) A (t b o e f) g (I.base.free b o e n f);exact⟨N,B⟩
 .obtain⟨E,g⟩:=I.base.there b o e f
  exact free b E (t b o e f) g (I.base.free b o e n f)
 .obtain⟨E,g⟩:=I.base.there b o e f
  exact there b E (t b o e f) g
 .obtain⟨m1,g⟩:=I.base.i_ b ps e
  obtain⟨m2,B⟩:=i_ b _ g;exact⟨m1++m2,by rw[B,Array.append_assoc]⟩
 .obtain⟨m,C,S⟩:=I.loc
  refine⟨m,ns m C,λi x v g B T=>?_⟩
  obtain⟨u,r,l⟩:=S i x v g B T;refine⟨u,r,?_⟩;rcases l with l|⟨k,c,e,z⟩
  .exact .inl l
  .exact .inr ⟨k,c,e,j x c e _ z⟩
 .obtain⟨v,z⟩:=I.cell x c e
  exact⟨v,j x c e v z⟩
 .obtain⟨m,⟨o,_,_,y,_⟩,_⟩:=I.loc
  exact free _ o (λz=>(h _ z).2.1 rfl) y I.free
 .obtain⟨v,o,y,J⟩:=I.cell x c e
  have a:c∉ch:=λz=>(h c z).2.2.1 x c e rfl
  refine⟨?_,λU=>free c o a y ((I.fP x c e).2 U)⟩
  rcases(I.fP x c e).1 with C|⟨D,K,L⟩
  .exact .inl (free c o a y C)
  .exact .inr ⟨D,K,gX c D K L⟩
 .obtain⟨e,n,ne,Q,d⟩:=I.pin p P
  have a:p.1∉ch:=λz=>(h p.1 z).2.2.2 p P rfl
  exact⟨keep p.1 p.2 ne Q a e n,free p.1 p.2 a e n,ne,Q,d⟩
theorem Inv.un{t':Nat}(I:Inv X pins σ H s)(u:Un X.fs [] H H' s.heap h')(c:i9 X.prog X.w H' h'):Inv X pins σ H' {s with heap:=h',toks:=t' }:=by
 obtain⟨m,⟨o,l,p,h,r⟩,_⟩:=id I.loc;obtain⟨q,i⟩:=u.any h I.free (by simp)
 exact I.step (g':=s.gens) (d':=s.drawn) (ch:=[]) (λ_ z=>nomatch z) (λb o _ d _ e n=>u.keep b o e n d (by simp)) (λb o _ d _ e n=>u.slot b o e n d (by simp)) (λb o _ e n=>u.free b o e n (by simp)) (λb o _ e=>u.there b o e (by simp)) u.tups u.gX u.i_ (λt j=>by
  obtain⟨x,f,g,a,k⟩:=j;rw[h]at a;cases a
  exact⟨_,f,g,i,k⟩) c I.bare
theorem Inv.call{g':Array GenState}{t':Nat}{d':Drawn}{ch:List Addr}(I:Inv X pins σ H s)(u:Un (frs X.stack) ch H H' s.heap h')(g:i9 X.prog X.w H' h')(l:AllBare g')
  (d:∀b∈ch,(b∈X.ex\/X.s₀.heap.objs.size<=b)/\b≠X.env.locals/\(∀x c,X.env.cells.lookup x=some c->c≠b)/\∀p∈X.pn++pins,p.1≠b) :
  Inv X pins σ H' {s with heap:=h',gens:=g',drawn:=d',toks:=t' }:=by
 obtain⟨m,⟨o,A,B,k,r⟩,_⟩:=id I.loc;obtain⟨C,h⟩:=u.any k I.free λz=>(d _ z).2.1 rfl
 exact I.step (ch:=ch) d (λb o h q a e n=>u.keep b o e n (λz=>(List.mem_cons.mp (I.r_ b z)).elim h q) a) (λb o _ _ a e n=>u.any e n a) (λb o a e n=>u.free b o e n a) (λb o a e=>u.there b o e a) u.tups u.gX u.i_ (λD t=>by
  obtain⟨E,i,j,f,y⟩:=t;rw[k]at f;cases f
  exact⟨_,i,j,h,y⟩) g l
theorem Inv.turned{t':Nat}{it:Addr}(I:Inv X pins σ H s)(k:∀b o,b≠it->s.heap.get? b=some o->h'.get? b=some o)(g:H it=none)(f:it≠X.env.locals)
  (h:it∈X.ex\/X.s₀.heap.objs.size<=it) (i:∀x c,X.env.cells.lookup x=some c->c≠it) (j:∀p∈X.pn++pins,p.1≠it):Inv X pins σ H {s with heap:=h',toks:=t' }:=by
 have d:∀b u,H b=some u->b≠it:=λb u e z=>by rw[z,g]at e;cases e
 refine I.step (g':=s.gens) (d':=s.drawn) (ch:=[it]) (λb l=>?_) (λb o _ _ a e _=>k b o (λz=>a (by simp[z])) e) (λb o _ _ a e _=>⟨o.slots,k b o (λz=>a (by simp[z])) e⟩) (λ_ _ _ _ n=>n)
  (λb o a e=>⟨o,k b o (λz=>a (by simp[z])) e⟩) (λ_ _ e=>e) (λ_ _ _ e=>e) (λb B e=>⟨#[],by rw[e];simp⟩) (λm t=>?_) (λb u e=>?_) I.bare
 .have e:b=it:=by simpa using l
  subst e;exact⟨h,f,i,j⟩
 .obtain⟨o,w,y,A,r⟩:=t
  exact⟨o,w,y,k _ o (Ne.symm f) A,r⟩
 .refine(I.hok b u e).stay (λc v a q=>k c v ?_ q) (λ_ q=>q) λ_ _ q=>q
  rcases a with z|z
  .rw[z];exact d b u e
  .exact d c _ z
theorem Inv.tok(I:Inv X pins σ H s)(t:Nat):Inv X pins σ H {s with toks:=t}:=I.un (h':=s.heap) (t':=t) Un.refl I.hok
theorem Inv.kept{t':Nat}(I:Inv X pins σ H s)(k:∀b u,s.heap.get? b=some u->h'.get? b=some u):Inv X pins σ H {s with heap:=h',toks:=t' }:=I.un (Un.kept k) (I.hok.kept k)
theorem Inv.laid{a:Addr}{o:HO}{t':Nat}(I:Inv X pins σ H s)(k:∀b u,s.heap.get? b=some u->h'.get? b=some u)(c:s.heap.objs.size<=a)(d:cq X.prog X.w (upd H a o) h' a o) :
  Inv X pins σ (upd H a o) {s with heap:=h',toks:=t' }:=I.un (Un.laid k c (I.hok.fresh c)) (I.hok.laid k c d)
theorem Inv.write{x e:Addr}{o:HO}{t':Nat}(I:Inv X pins σ H s)(d:GB (H x))(f:e=x\/H e=some (.own x))(k:∀b u,b≠e->s.heap.get? b=some u->h'.get? b=some u)(a:∃u,h'.get? e=some u)
  (c:cq X.prog X.w (upd H x o) h' x o):Inv X pins σ (upd H x o) {s with heap:=h',toks:=t' }:=I.un (Un.write d f k a) (I.hok.write d f k a c)
theorem Inv.weak{a:List (Option V)}(I:Inv X pins σ H s)(c:a.length=σ.length)(w:∀(i:Nat) v,a[i]?=some (some v)->σ[i]?=some (some v)):Inv X pins a H s:=
 ⟨I.ok,I.os,I.bare,I.base,let ⟨m,d,b⟩:=I.loc;⟨m,d,λi x v e f g=>b i x v e (w i v f) g⟩,I.cell,I.free,I.fP,I.pin,I.hok,c.trans I.len⟩
theorem Inv.uf{a:List (Addr×Obj)}(I:Inv X pins σ H s)(h:∀p∈a,s.heap.get? p.1=some p.2/\H p.1=none/\p.1≠X.env.locals/\p.1∉X.fs/\∀v,p.2.data≠.cell v):Inv X a σ H s:=
 ⟨I.ok,I.os,I.bare,I.base,I.loc,I.cell,I.free,I.fP,λp b=>(List.mem_append.mp b).elim (λz=>I.pin p (List.mem_append_left _ z)) (h p),I.hok,I.len⟩
theorem qv{N:List Str}(c:N.Nodup){i j:Nat}{x:Str}(a:N[i]?=some x)(b:N[j]?=some x):i=j:=by
 obtain⟨f,d⟩:=List.getElem?_eq_some_iff.mp a;obtain⟨g,e⟩:=List.getElem?_eq_some_iff.mp b;exact(List.getElem_inj c).mp (d.trans e.symm)
theorem nU{M:Model}{A:Around}{E:Value->Shared->Prop}{i:Nat}{x:Str}{v:V}{u:Value}{Q:Unit->Shared->Prop}(I:Inv X pins σ H s)(hN:X.N.Nodup)(O:X.N[i]?=some x)(t:Loc X.env.scope x)(r:RelV v u)
  (h:∀s',Inv X pins (σ.set i (some v)) H s'->(∃a,Heap.SameBut a s.heap s'.heap/\(a=X.env.locals\/X.env.cells.lookup x=some a))->Q () s') (hf:X.fn x=true\/X.env.scope.names.lookup x=some .local:=by first|exact .inl rfl|exact .inr rfl|assumption):wpAny M A (storeName X.env x u) Q E s:=by
 obtain⟨m,hn,hl⟩:=id I.loc;have P:(X.env.scope.kind==.class||(X.env.scope.kind==.module&&X.env.locals != X.env.globals))=false:=by rw[I.ok.kind];rfl
 have F:i<σ.length:=by rw[I.len];exact(List.getElem?_eq_some_iff.mp O).1
 have G:=I.Me
 have g:∀{a:Addr}{L:Heap},(∃o,s.heap.get? a=some o/\H a=none)->Heap.SameBut a s.heap L->i9 X.prog X.w H L:=λ{a L} ha f b ob e=>by
  obtain⟨_,_,B⟩:=ha;refine(I.hok b ob e).stay (λc Y hc q=>(f.2 c ?_).trans q) (λ_ q=>q) λ_ _ q=>q
  rintro rfl;rcases hc with rfl|hc
  .rw[B]at e;cases e
  .rw[B]at hc;cases hc
 rcases t with hk|hk
 .refine wpAny_storeName_local hk hn (λL a0 f=>?_) P
  obtain⟨oL,_,_,b0,_⟩:=id hn;refine h _ ⟨I.ok,I.os,I.bare,⟨λb o e n J t=>?_,λb o e n J t=>?_,I.base.free,λb o e t=>?_,I.base.tups,I.base.gX,I.base.i_⟩,⟨_,a0,λj y v' l C e3=>?_⟩,λy c e=>?_,I.free,I.fP,λp hp=>?_,g ⟨oL,b0,I.free⟩ f,by simpa using I.len⟩ ⟨_,f,.inl rfl⟩
  .exact(f.2 b (Nat.ne_of_lt (Nat.lt_of_lt_of_le (Heap.lt_size e) I.ok.above))).trans (I.base.keep b o e n J t)
  .obtain⟨sl,l⟩:=I.base.slot b o e n J t
   exact⟨sl,(f.2 b (Nat.ne_of_lt (Nat.lt_of_lt_of_le (Heap.lt_size e) I.ok.above))).trans l⟩
  .obtain⟨o',l⟩:=I.base.there b o e t
   exact⟨o',(f.2 b (Nat.ne_of_lt (Nat.lt_of_lt_of_le (Heap.lt_size e) I.ok.above))).trans l⟩
  .by_cases K:j=i
   .subst K
    rw[O]at l;cases l
    rw[List.getElem?_set_self F]at C;cases C;exact⟨u,r,.inl ⟨hk,by simp⟩⟩
   .rw[List.getElem?_set_ne (Ne.symm K)]at C
    obtain⟨u',r',q⟩:=hl j y v' l C e3;refine⟨u',r',?_⟩;rcases q with ⟨k,e⟩|⟨k,c,e,z⟩
    .refine .inl ⟨k,?_⟩
     have:y≠x:=λe=>K (qv hN l (e▸O))
     simp[this,e]
    .exact .inr ⟨k,c,e,z.sameBut f (G y c e)⟩
  .obtain⟨Y,z⟩:=I.cell y c e
   exact⟨Y,z.sameBut f (G y c e)⟩
  .obtain⟨e,n,ne,nf,d⟩:=I.pin p hp
   exact⟨(f.2 p.1 ne).trans e,n,ne,nf,d⟩
 .have D:X.fn x=true:=by
   rcases hf with z|z
   .exact z
   .rw[z]at hk;cases hk
  obtain⟨c,hc⟩:=I.ok.has x (.inl hk);obtain⟨Y,z⟩:=I.cell x c hc;refine wpAny_storeName_cell I.ok.kind hk hc z (λL R f=>?_)
  obtain⟨oc,S,T⟩:=id z;refine h {s with heap:=L} ⟨I.ok,I.os,I.bare,⟨λb o e n J t=>?_,λb o e n J t=>?_,I.base.free,λb o e t=>?_,I.base.tups,I.base.gX,I.base.i_⟩,⟨m,hn.sameBut f (Ne.symm (G x c hc)),λj y v' l C e3=>?_⟩,λy Z e=>?_,I.free,I.fP,λp hp=>?_,g ⟨oc,S,(I.fP x c hc).2 D⟩ f,by simpa using I.len⟩ ⟨c,f,.inr hc⟩
  .exact(f.2 b (Nat.ne_of_lt (Nat.lt_of_lt_of_le (Heap.lt_size e) (I.ok.cab x c D hc)))).trans (I.base.keep b o e n J t)
  .obtain⟨sl,l⟩:=I.base.slot b o e n J t
   exact⟨sl,(f.2 b (Nat.ne_of_lt (Nat.lt_of_lt_of_le (Heap.lt_size e) (I.ok.cab x c D hc)))).trans l⟩
  .obtain⟨o',l⟩:=I.base.there b o e t
   exact⟨o',(f.2 b (Nat.ne_of_lt (Nat.lt_of_lt_of_le (Heap.lt_size e) (I.ok.cab x c D hc)))).trans l⟩
  .by_cases K:j=i
   .subst K
    rw[O]at l;cases l
    rw[List.getElem?_set_self F]at C;cases C;exact⟨u,r,.inr ⟨.inl hk,c,hc,R⟩⟩
   .rw[List.getElem?_set_ne (Ne.symm K)]at C
    obtain⟨u',r',q⟩:=hl j y v' l C e3;refine⟨u',r',?_⟩;rcases q with q|⟨k,Z,e,z'⟩
    .exact .inl q
    .refine .inr ⟨k,Z,e,z'.sameBut f ?_⟩
     rintro rfl;exact K (qv hN l (I.ok.inj _ _ _ e hc▸O))
  .by_cases U:Z=c
   .subst U;exact⟨_,R⟩
   .obtain⟨w2,z2⟩:=I.cell y Z e
    exact⟨w2,z2.sameBut f U⟩
  .obtain⟨e,n,ne,nf,d⟩:=I.pin p hp
   refine⟨(f.2 p.1 ?_).trans e,n,ne,nf,d⟩;intro q;rw[q,S]at e;have q':oc=p.2:=Option.some.inj e;exact d Y (by rw[←q'];exact T)
theorem qw{M:Model}{A:Around}{E:Value->Shared->Prop}{i:Nat}{x:Str}{v:V}{u:Value}{Q:Unit->Shared->Prop}(I:Inv X pins σ H s)(b:X.N.Nodup)(c:X.N[i]?=some x)(d:Loc X.env.scope x)(r:RelV v u)
  (h:∀a,Inv X pins (σ.set i (some v)) H a->Q () a) (e:X.fn x=true\/X.env.scope.names.lookup x=some .local:=by first|exact .inl rfl|exact .inr rfl|assumption):wpAny M A (storeName X.env x u) Q E s:=
 nU I b c d r (λa f _=>h a f) e
theorem Inv.call'{a:Shared}{ch:List Addr}(I:Inv X pins σ H s)(g:a.os=s.os)(u:Un (frs X.stack) ch H H' s.heap a.heap)(d:i9 X.prog X.w H' a.heap)(h:AllBare a.gens)
  (f:∀b∈ch,(b∈X.ex\/X.s₀.heap.objs.size<=b)/\b≠X.env.locals/\(∀x c,X.env.cells.lookup x=some c->c≠b)/\∀p∈X.pn++pins,p.1≠b):Inv X pins σ H' a:=by
 obtain⟨j,g',d',t',i⟩:=a;have e:i=s.os:=g;subst e;exact I.call (g':=g') (t':=t') (d':=d') u d h f
end
abbrev XK:=Value->Option Addr->Hp->Prop
abbrev St:=List (Option V)
abbrev VK:=V->Hp->Prop
abbrev TE:=St->Hp->VK->Prop
abbrev TT:=St->Hp->(Bool->Hp->Prop)->Prop
abbrev TA:=St->Hp->(List V->Hp->Prop)->Prop
structure Ends where
 nx:St->Hp->Prop
 rt:VK
 bk:St->Hp->Prop:=λ_ _=>False
 ct:St->Hp->Prop:=λ_ _=>False
abbrev TS:=Ends->St->Hp->Prop
def EP(X:Cx)(pins:List (Addr×Obj))(b:St)(Q:VK)(u:Value)(c:Shared):Prop:=∃v a,Inv X pins b a c/\RelV v u/\Q v a
def TP(X:Cx)(pins:List (Addr×Obj))(c:St)(Q:Bool->Hp->Prop)(b:Bool)(d:Shared):Prop:=∃a,Inv X pins c a d/\Q b a
def AP(X:Cx)(pins:List (Addr×Obj))(c:St)(Q:List V->Hp->Prop)(us:List Value)(d:Shared):Prop:=∃a b,Inv X pins c b d/\Vals a us/\Q a b
def SP(X:Cx)(pins:List (Addr×Obj))(D:Ends)(f:Flow)(c:Shared):Prop:=
 match f with
 |.next=>∃a b,Inv X pins a b c/\D.nx a b
 |.brk=>∃a b,Inv X pins a b c/\D.bk a b
 |.cont=>∃a b,Inv X pins a b c/\D.ct a b
 |.ret u=>∃v a b,Inv X pins a b c/\RelV v u/\D.rt v b
def PE(X:Cx)(e:Expr)(t:TE):Prop:=
 ∀(pins:List (Addr×Obj)) (s:Shared) (a:St) (H:Hp) (Q:VK),Inv X pins a H s->t a H Q->wpAny (model X.prog X.w) X.A (eval e X.env) (EP X pins a Q) X.xe s
def PT(X:Cx)(e:Expr)(t:TT):Prop:=
 ∀(pins:List (Addr×Obj)) (s:Shared) (a:St) (H:Hp) (Q:Bool->Hp->Prop),Inv X pins a H s->t a H Q->wpAny (model X.prog X.w) X.A (isTrue e X.env (eval e X.env)) (TP X pins a Q) X.xe s
def PW(X:Cx)(e:Expr)(t:TT):Prop:=
 ∀(a:Sem Value) (pins:List (Addr×Obj)) (s:Shared) (b:St) (H:Hp) (Q:Bool->Hp->Prop),Inv X pins b H s->t b H Q->wpAny (model X.prog X.w) X.A (isTrue e X.env a) (TP X pins b Q) X.xe s
theorem PW.pt{X:Cx}{e:Expr}{t:TT}(h:PW X e t):PT X e t:=h _
def PA(X:Cx)(es:List Expr)(t:TA):Prop:=
 ∀(a:Pos) (pins:List (Addr×Obj)) (s:Shared) (b:St) (H:Hp) (Q:List V->Hp->Prop),Inv X pins b H s->t b H Q->wpAny (model X.prog X.w) X.A (spliced (backTo a (starEach es X.env))) (AP X pins b Q) X.xe s
def PS(X:Cx)(st:Stmt)(t:TS):Prop:=
 ∀(pins:List (Addr×Obj)) (s:Shared) (a:St) (H:Hp) (D:Ends),Inv X pins a H s->t D a H->wpAny (model X.prog X.w) X.A (exec st X.env) (SP X pins D) X.xe s
def kP(X:Cx)(st:List Stmt)(t:TS):Prop:=
 ∀(pins:List (Addr×Obj)) (s:Shared) (a:St) (H:Hp) (D:Ends),Inv X pins a H s->t D a H->wpAny (model X.prog X.w) X.A (execs st X.env) (SP X pins D) X.xe s
theorem cy{b:Type}{t:Sem b}{Q Q':b->Shared->Prop}{M:Model}{A:Around}{E:Value->Shared->Prop}{s:Shared}(h:wpAny M A t Q E s)(c:∀a s,Q a s->Q' a s):wpAny M A t Q' E s:=wpAny_mono h c λ_ _ x=>x
section
variable{X:Cx}
noncomputable def Mf(i:Nat):TE:=λa H Q=>∃v,a[i]?=some (some v)/\Q v H
noncomputable def tC(v:V):TE:=λ_ H Q=>Q v H
theorem DE{i:Nat}{x:Str}{pos:Pos}(j:X.N[i]?=some x)(k:Gb X.env.scope x)(d:(x==("__debug__":Str))=false:=by decide)(f:(x==("__classdict__":Str))=false:=by decide):PE X (.Name x pos) (Mf i):=by
 intro pins s n H Q I h;obtain⟨v,e,h⟩:=h;obtain⟨m,o,p⟩:=I.loc;obtain⟨u,r,l⟩:=p i x v j e k;have b:EP X pins n Q u s:=⟨v,H,I,r,h⟩;rcases l with ⟨hk,q⟩|⟨hk,c,g,a⟩
 .exact wpAny_Name (wpAny_loadName_local I.ok.kind hk o q b) d
 .rcases hk with hk|hk
  .exact wpAny_Name (wpAny_loadName_cell I.ok.kind hk g a b) d
  .exact wpAny_Name (wpAny_loadName_free I.ok.kind hk g a b f) d
theorem DF{i j pos}:PE X (.Constant (.int i) j pos) (tC (.int i)):=λ_ _ _ H _ I h=>wpAny_Constant_int ⟨.int i,H,I.tok _,⟨_,rfl⟩,h⟩
theorem GC{b j pos}:PE X (.Constant (.bool b) j pos) (tC (.bl b)):=λ_ _ _ H _ I h=>Constant_bool ⟨.bl b,H,I,rfl,h⟩
theorem DG{j pos}:PE X (.Constant .none j pos) (tC .non):=λ_ _ _ H _ I h=>Constant_none ⟨.non,H,I,rfl,h⟩
theorem DH{x j pos}:PE X (.Constant (.str x) j pos) (tC (.str x)):=λ_ _ _ H _ I h=>Calls.Constant_str ⟨.str x,H,I.tok _,⟨_,rfl⟩,h⟩
def Gl(X:Cx)(x:Str):Prop:=X.env.kindOf x=some .globalImplicit
theorem jt{E:Value->Shared->Prop}{pins:List (Addr×Obj)}{s:Shared}{a:St}{H:Hp}{x:Str}{u:Value}{pos:Pos}{Q:Value->Shared->Prop}(I:Inv X pins a H s)(b:Gl X x)(c:X.mg x=some u)(h:Q u s)
  (d:(x==("__debug__":Str))=false:=by decide):wpAny (model X.prog X.w) X.A (eval (.Name x pos) X.env) Q E s:=
 Calls.Name_function_global I.ok.kind b (Calls.loadGlobal_global (by rw[I.ok.glob];exact I.mod.glob.keeps I.bk) c h) d
theorem lO{E:Value->Shared->Prop}{pins:List (Addr×Obj)}{s:Shared}{a:St}{H:Hp}{x:Str}{u:Value}{pos:Pos}{Q:Value->Shared->Prop}(I:Inv X pins a H s)(b:Gl X x)(c:X.mg x=none)(d:bootBuiltins x=some u)(h:Q u s)
  (e:x≠"__name__":=by decide) (f:(x==("__debug__":Str))=false:=by decide):wpAny (model X.prog X.w) X.A (eval (.Name x pos) X.env) Q E s:=by
 obtain⟨j,g,i⟩:=I.mod.blt;exact Calls.Name_function_global I.ok.kind b (Calls.loadGlobal_builtin (by rw[I.ok.glob];exact I.mod.glob.keeps I.bk) c (by rw[I.ok.blt];exact g.keeps I.bk) ((i x e).trans d) h) f
theorem zJ{x:Str}{v:V}{u:Value}{pos:Pos}(a:Gl X x)(b:X.mg x=some u)(r:RelV v u)(c:(x==("__debug__":Str))=false:=by decide):PE X (.Name x pos) (tC v):=
 λ_ _ _ H _ I h=>jt I a b ⟨v,H,I,r,h⟩ c
theorem zK{x:Str}{v:V}{u:Value}{pos:Pos}(a:Gl X x)(b:X.mg x=none)(c:bootBuiltins x=some u)(r:RelV v u)(d:x≠"__name__":=by decide)(e:(x==("__debug__":Str))=false:=by decide):PE X (.Name x pos) (tC v):=
 λ_ _ _ H _ I h=>lO I a b c ⟨v,H,I,r,h⟩ d e
variable{a b:Expr}{ta tb:TE}{pos:Pos}
variable{tA Ki:TT}{rest:List Expr}
noncomputable def Mh(t u:TT):TT:=λa H Q=>t a H λc b=>if c=true then u a b Q else Q false b
noncomputable def S9(t u:TT):TT:=λa H Q=>t a H λc b=>if c=true then Q true b else u a b Q
noncomputable def Mi(t:TT):TT:=λa H Q=>t a H λc b=>Q (!c) b
theorem pw_and1(b:PT X a tA):PW X (.BoolOp .And [a] pos) tA:=by
 intro f pins s d H Q I h;refine isTrue_and (cy (b pins s d H Q I h) λc g e=>?_)
 cases c with
 |true=>exact isTrue_and_nil e
 |false=>exact e
theorem pw_or1(b:PT X a tA):PW X (.BoolOp .Or [a] pos) tA:=by
 intro f pins s d H Q I h;refine isTrue_or (cy (b pins s d H Q I h) λc g e=>?_)
 cases c with
 |false=>exact isTrue_or_nil e
 |true=>exact e
theorem pw_and(f:PT X a tA)(g:PW X (.BoolOp .And (b::rest) pos) Ki):PW X (.BoolOp .And (a::b::rest) pos) (Mh tA Ki):=by
 intro i pins s d H Q I h;refine isTrue_and (cy (f pins s d H _ I h) λc j ⟨e,I1,q1⟩=>?_)
 cases c with
 |true=>exact g i pins j d e Q I1 q1
 |false=>exact⟨e,I1,q1⟩
theorem pw_or(f:PT X a tA)(g:PW X (.BoolOp .Or (b::rest) pos) Ki):PW X (.BoolOp .Or (a::b::rest) pos) (S9 tA Ki):=by
 intro i pins s d H Q I h;refine isTrue_or (cy (f pins s d H _ I h) λc j ⟨e,I1,q1⟩=>?_)
 cases c with
 |true=>exact⟨e,I1,q1⟩
 |false=>exact g i pins j d e Q I1 q1
theorem DJ(b:PT X a tA):PT X (.UnaryOp .Not a pos) (Mi tA):=by
 intro pins s d H Q I h;exact isTrue_not (b pins s d H (λc e=>Q (!c) e) I h)
theorem DK{op}{t:TE}(h:PE X a t):PE X (.BoolOp op [a] pos) t:=λpins s b H Q I c=>BoolOp_one (h pins s b H Q I c)
noncomputable def Ge(t:TT)(d tb:TE):TE:=λa H Q=>t a H λc b=>if c=true then d a b Q else tb a b Q
theorem w6{c:Expr}(i:PT X c tA)(j:PE X a ta)(k:PE X b tb):PE X (.IfExp c a b pos) (Ge tA ta tb):=by
 intro pins s e H Q I h;refine wpAny_IfExp (cy (i pins s e H _ I h) λd f ⟨g,I1,q1⟩=>?_)
 cases d with
 |true=>exact j pins f e g Q I1 q1
 |false=>exact k pins f e g Q I1 q1
end
def kQ(K:PySem.W.Frag)(H:Hp)(a:Addr)(xs:List V):Prop:=
 Rd H a (.lst xs) \/
  ∃(o:Obj) (b:Array Value) (n:Nat),K.lookup a=some o/\o.cls=.type "list"/\o.dict=none/\o.data=.seq b n/\b.size<=sizeLine/\Vals xs b.toList
def ug(K:PySem.W.Frag)(H:Hp)(a:Addr)(xs:List V):Prop:=
 Rd H a (.tup xs) \/
  ∃(o:Obj) (b:Array Value) (n:Nat),K.lookup a=some o/\o.cls=.type "tuple"/\o.data=.seq b n/\b.size<=sizeLine/\Vals xs b.toList
noncomputable def Mj:Value->Option V
 |.none=>some .non
 |.bool b=>some (.bl b)
 |.int i _=>some (.int i)
 |.str x _=>some (.str x)
 |.bytes b _=>some (.F_ b)
 |.float b _=>some (.flt b)
 |.ref a=>some (.ref a)
 |.type n=>some (.ty n)
 |_=>none
theorem RelV.abs{x:V}{u:Value}(r:RelV x u):Mj u=some x:=by
 cases x with
 |non=>cases r;rfl
 |bl _=>cases r;rfl
 |int _=>obtain⟨t,rfl⟩:=r;rfl
 |str _=>obtain⟨t,rfl⟩:=r;rfl
 |F_ _=>obtain⟨t,rfl⟩:=r;rfl
 |flt _=>obtain⟨t,rfl⟩:=r;rfl
 |ref _=>cases r;rfl
 |ty _=>cases r;rfl
theorem RelV.inj{x y:V}{u:Value}(r:RelV x u)(q:RelV y u):x=y:=Option.some.inj (r.abs.symm.trans q.abs)
theorem Vals.inj:∀{xs ys:List V}{us:List Value},Vals xs us->Vals ys us->xs=ys
 |_,_,_,.nil,.nil=>rfl
 |_,_,_,.cons r t,.cons a b=>by rw[r.inj a,Vals.inj t b]
section
variable{X:Cx}{pins:List (Addr×Obj)}{σ:St}{H:Hp}{s:Shared}{a:Addr}{xs ys:List V}
theorem Inv.list(I:Inv X pins σ H s)(h:kQ X.K H a xs):∃b:List Value,Vals xs b/\PlainL s.heap a b.toArray/\xs.length<=sizeLine:=by
 rcases h with h|⟨o,b,n,c,d,f,g,i,r⟩
 .obtain⟨z,b,n,r,e⟩:=h.ok I.hok
  exact⟨b,r,⟨_,n,e,rfl,rfl,rfl⟩,z⟩
 .refine⟨b.toList,r,⟨o,n,I.jq a o c,d,f,by simpa using g⟩,?_⟩
  have e:=r.length;simp only[Array.length_toList]at e;omega
theorem Inv.tuple(I:Inv X pins σ H s)(h:ug X.K H a xs):∃b:List Value,Vals xs b/\IsTup s.heap a b.toArray/\xs.length<=sizeLine:=by
 rcases h with h|⟨o,b,n,c,d,f,g,r⟩
 .obtain⟨z,b,r,p⟩:=h.ok I.hok
  exact⟨b,r,p,z⟩
 .refine⟨b.toList,r,⟨o,I.jq a o c,d,n,by simpa using f⟩,?_⟩
  have e:=r.length;simp only[Array.length_toList]at e;omega
theorem Inv.qx(I:Inv X pins σ H s)(h:kQ X.K H a xs)(h':kQ X.K H a ys):xs=ys:=by
 obtain⟨c,r,⟨o,n,e,_,_,d⟩,_⟩:=I.list h;obtain⟨b,i,⟨j,k,f,_,_,g⟩,_⟩:=I.list h';rw[e]at f;cases f
 rw[d]at g;injection g with d1 _;have:c=b:=by simpa using congrArg Array.toList d1
 subst this;exact r.inj i
theorem Inv.vw(I:Inv X pins σ H s)(h:ug X.K H a xs)(h':ug X.K H a ys):xs=ys:=by
 obtain⟨c,r,⟨o,e,_,n,d⟩,_⟩:=I.tuple h;obtain⟨b,i,⟨j,f,_,k,g⟩,_⟩:=I.tuple h';rw[e]at f;cases f
 rw[d]at g;injection g with d1 _;have:c=b:=by simpa using congrArg Array.toList d1
 subst this;exact r.inj i
end
abbrev Cx.wish(X:Cx)(E:Value->Shared->Prop):Cx:={X with xe:=E}
abbrev Cx.DL(X:Cx):Cx:=X.wish λ_ _=>False
theorem Cx.Ok.wish{X:Cx}(ok:X.Ok)(E:Value->Shared->Prop):(X.wish E).Ok:=
 ⟨ok.mod,ok.kind,ok.glob,ok.blt,ok.above,ok.inj,ok.has,ok.cab,ok.hd,ok.frames,ok.Kg,ok.Kh,ok.bs,ok.CV,ok.wY,ok.wZ,ok.kO,ok.DD⟩
theorem Cx.Ok.hZ{X:Cx}{E:Value->Shared->Prop}(ok:(X.wish E).Ok):X.Ok:=
 ⟨ok.mod,ok.kind,ok.glob,ok.blt,ok.above,ok.inj,ok.has,ok.cab,ok.hd,ok.frames,ok.Kg,ok.Kh,ok.bs,ok.CV,ok.wY,ok.wZ,ok.kO,ok.DD⟩
section
variable{X:Cx}{pins:List (Addr×Obj)}{σ:St}{H:Hp}{s:Shared}{E:Value->Shared->Prop}
theorem Inv.wish(I:Inv X pins σ H s)(E:Value->Shared->Prop):Inv (X.wish E) pins σ H s:=⟨I.ok.wish E,I.os,I.bare,I.base,I.loc,I.cell,I.free,I.fP,I.pin,I.hok,I.len⟩
theorem Inv.hZ(I:Inv (X.wish E) pins σ H s):Inv X pins σ H s:=⟨I.ok.hZ,I.os,I.bare,I.base,I.loc,I.cell,I.free,I.fP,I.pin,I.hok,I.len⟩
theorem SP.hZ{D:Ends}{f:Flow}{c:Shared}(h:SP (X.wish E) pins D f c):SP X pins D f c:=by
 cases f with
 |next=>obtain⟨a,b,I,q⟩:=h;exact⟨a,b,I.hZ,q⟩
 |brk=>obtain⟨a,b,I,q⟩:=h;exact⟨a,b,I.hZ,q⟩
 |cont=>obtain⟨a,b,I,q⟩:=h;exact⟨a,b,I.hZ,q⟩
 |ret u=>obtain⟨v,a,b,I,r,q⟩:=h;exact⟨v,a,b,I.hZ,r,q⟩
theorem kP.DL{st:List Stmt}{t:TS}(h:kP X.DL st t):kP X st t:=λpins s a H D I b=>
 wpAny_mono (h pins s a H D (I.wish _) b) (λ_ _ q=>q.hZ) λ_ _ z=>False.elim z
end
section
variable{X:Cx}{st:Stmt}{rest:List Stmt}{t u:TS}{e:Expr}{te:TE}{pos:Pos}
noncomputable def GD:TS:=λD a H=>D.nx a H
noncomputable def Ml(t u:TS):TS:=λD a H=>t {D with nx:=u D} a H
theorem zL:kP X [] GD:=λ_ _ a H _ I h=>wpAny_execs_nil ⟨a,H,I,h⟩
theorem w8(b:PS X st t)(c:kP X rest u):kP X (st::rest) (Ml t u):=by
 intro pins s d H D I h;refine wpAny_execs_cons (cy (b pins s d H {D with nx:=u D} I h) λf e q=>?_)
 cases f with
 |next=>
  obtain⟨a,g,i,q⟩:=q;exact c pins e a g D i q
 |ret v=>exact q
 |brk=>exact q
 |cont=>exact q
theorem Inv.quiet{pins:List (Addr×Obj)}{a:St}{H:Hp}{s:Shared}(I:Inv X pins a H s):interactive X.env=false:=by simp[interactive,I.ok.kind]
noncomputable def GF(b:TE):TS:=λD a H=>b a H λ_ c=>D.nx a c
theorem zM(b:PE X e te)(c:swapsWith e none pos.line X.env=pure false:=by rfl):PS X (.Expr e pos) (GF te):=by
 intro pins s a H D I h;exact wpAny_Expr_any (cy (b pins s a H _ I h) λv d ⟨x,H1,I1,r1,q1⟩=>⟨a,H1,I1,q1⟩) I.quiet c
noncomputable def Mm(a:TE):TS:=λD b H=>a b H D.rt
theorem DM(b:PE X e te):PS X (.Return (some e) pos) (Mm te):=by
 intro pins s a H D I h;exact wpAny_Return_some (cy (b pins s a H _ I h) λv c ⟨x,H1,I1,r1,q1⟩=>⟨x,a,H1,I1,r1,q1⟩)
noncomputable def Mn(c:TT)(t u:TS):TS:=λD a H=>c a H λb d=>if b=true then t D a d else u D a d
theorem GG{c:Expr}{a b:List Stmt}{f:TT}(j:PT X c f)(k:kP X a t)(l:kP X b u):PS X (.If c a b pos) (Mn f t u):=by
 intro pins s e H D I h;refine wpAny_If (cy (j pins s e H _ I h) λd g ⟨i,I1,q1⟩=>?_)
 cases d with
 |true=>exact k pins g e i D I1 q1
 |false=>exact l pins g e i D I1 q1
end
abbrev TG:=V->St->Hp->(St->Hp->Prop)->Prop
abbrev CW:=List V->St->Hp->(St->Hp->Prop)->Prop
def PG(X:Cx)(a:Expr)(t:TG):Prop:=
 ∀(pins:List (Addr×Obj)) (s:Shared) (c:St) (H:Hp) (v:V) (u:Value) (Q:St->Hp->Prop),Inv X pins c H s->RelV v u->t v c H Q ->
  wpAny (model X.prog X.w) X.A (assign a X.env u) (λ_ e=>∃b d,Inv X pins b d e/\Q b d) X.xe s
def GH(X:Cx)(f:List Expr)(t:CW):Prop:=
 ∀(pins:List (Addr×Obj)) (s:Shared) (b:St) (H:Hp) (c:List V) (d:List Value) (Q:St->Hp->Prop),Inv X pins b H s->Vals c d->t c b H Q ->
  wpAny (model X.prog X.w) X.A (assignInOrder ((assignEach f X.env).map (·.2)) d) (λ_ g=>∃a e,Inv X pins a e g/\Q a e) X.xe s
section
variable{X:Cx}{pos:Pos}
noncomputable def iW(i:Nat):TG:=λv a H Q=>Q (a.set i (some v)) H
theorem oP{i:Nat}{x:Str}(a:X.N.Nodup)(b:X.N[i]?=some x)(c:Loc X.env.scope x)(d:X.fn x=true\/X.env.scope.names.lookup x=some .local:=by first|exact .inl rfl|exact .inr rfl|assumption):PG X (.Name x pos) (iW i):=by
 intro pins s f H v u Q I r h;exact wpAny_assign_Name (qw I a b c r (λg e=>⟨_,H,e,h⟩) d)
noncomputable def GI:CW:=λa b H Q=>a=[]/\Q b H
noncomputable def CY(t:TG)(u:CW):CW:=λb c H Q=>∃v r,b=v::r/\t v c H λa d=>u r a d Q
theorem zN:GH X [] GI:=by
 intro pins s a H b c Q I r h;obtain⟨e,h⟩:=h;subst e;cases r;exact assignInOrder_nil ⟨a,H,I,h⟩
theorem w9{e:Expr}{es:List Expr}{t:TG}{u:CW}(b:PG X e t)(c:GH X es u)
  (d:(assignEach (e::es) X.env).map (·.2)=assign e X.env::(assignEach es X.env).map (·.2):=by rfl):GH X (e::es) (CY t u):=by
 intro pins s f H k l Q I r h;obtain⟨v,vr,g,h⟩:=h;subst g;cases r with
 |cons r i=>
  rw[d];refine assignInOrder_cons (cy (b pins s f H _ _ _ I r h) λ_ j ⟨a,H1,I1,q1⟩=>?_)
  exact c pins j a H1 _ _ Q I1 i q1
noncomputable def zO(K:PySem.W.Frag)(n:Nat)(t:CW):TG:=λv c H Q=>∃a b,v=.ref a/\ug K H a b/\b.length=n/\t b c H Q
theorem DN{es:List Expr}{k:Nat}{t:CW}{n:Nat}(i:X.calm=true)(h:GH X es t)
  (j:(assignEach es X.env).length=n:=by rfl) (c:(assignEach es X.env).findIdx? (·.1)=none:=by rfl):PG X (.Tuple es k pos) (zO X.K n t):=by
 intro pins s f H v u Q I r d;obtain⟨a,l,m,p,q,d⟩:=d;subst m;cases r;obtain⟨w,g,x,B⟩:=I.tuple p;refine assign_Tuple_tuple (I.ok.hd i) x (by simp[j,←q,g.length]) c λy z=>?_
 have A:Inv X pins f H {s with heap:=y}:=I.kept (t':=s.toks) λb o e=>z b o (Nat.ne_of_lt (Heap.lt_size e)) e
 exact h pins _ f H l _ Q A (by simpa using g) d
noncomputable def DO(b:TE)(g:TG):TS:=λD a H=>b a H λx c=>g x a c D.nx
theorem DP{a e:Expr}{b:TE}{g:TG}(d:PE X e b)(f:PG X a g)(i:swapsWithSole [a] e pos.line X.env=pure false:=by rfl)(j:swappedStores [a] e X.env=pure none:=by rfl)
  (k:(assignEach [a] X.env).map (·.2)=[assign a X.env]:=by rfl):PS X (.Assign [a] e pos) (DO b g):=by
 intro pins s c H D I h;refine wpAny_Assign_stores (cy (d pins s c H _ I h) λv l ⟨x,H1,I1,r1,q1⟩=>?_) i j
 rw[k];exact cy (f pins l c H1 x v _ I1 r1 q1) λ_ m q=>q
theorem DQ{i:Nat}{x:Str}{e:Expr}{b:TE}{a:Pos}(c:X.N.Nodup)(d:X.N[i]?=some x)(f:Loc X.env.scope x)(g:PE X e b)(j:swapsWith e (some (.Name x a)) pos.line X.env=pure false:=by rfl)(k:X.fn x=true\/X.env.scope.names.lookup x=some .local:=by first|exact .inl rfl|exact .inr rfl|assumption) :
  PS X (.Assign [.Name x a] e pos) (DO b (iW i)):=by
 intro pins s l H D I h;refine wpAny_Assign_Name (cy (g pins s l H _ I h) λv r ⟨y,m,n,o,p⟩=>?_) j
 exact qw n c d f o (λt q=>⟨_,m,q,p⟩) k
noncomputable def DS(c:TT)(tb:TS):TS:=λD a H=>∃W:Nat->St->Hp->Prop,(∃m,W m a H)/\∀m a H,W m a H ->
 c a H λb e=>if b=true then ∃N:St->Hp->Prop,(∀d f,N d f->∃g,g<m/\W g d f)/\tb {D with nx:=N,ct:=N,bk:=D.nx} a e else D.nx a e
theorem w_{c:Expr}{body:List Stmt}{r:TT}{tb:TS}(t:PassesOwn (model X.prog X.w) X.A X.env X.xe)(B:PT X c r)(C:kP X body tb):PS X (.While c body [] pos) (DS r tb):=by
 intro pins s E H D I h;obtain⟨W,⟨F,G⟩,e⟩:=h;refine wpAny_While (codeAny_whileLoop (λn J=>∃g u,Inv X pins g u J/\W n g u) ?_ F ⟨E,H,I,G⟩)
 rintro n K ⟨d,x,L,M⟩;refine wpAny_passesOwn t (cy (B pins K d x _ L (e n d x M)) λb O ⟨y,I2,j⟩=>?_)
 cases b with
 |true=>
  obtain⟨N,z,j⟩:=j;rw[if_pos rfl];refine wpAny_passesOwn t (cy (C pins O d y _ I2 j) λf P k=>?_)
  cases f with
  |next=>
   obtain⟨a,i,l,m⟩:=k;obtain⟨o,p,q⟩:=z a i m;exact⟨o,p,a,i,l,q⟩
  |cont=>
   obtain⟨a,i,l,m⟩:=k;obtain⟨o,p,q⟩:=z a i m;exact⟨o,p,a,i,l,q⟩
  |brk=>exact k
  |ret v=>exact k
 |false=>
  rw[if_neg Bool.false_ne_true];exact wpAny_execs_nil ⟨d,y,I2,j⟩
end
structure It where
 go:Nat->Hp->Prop
 Kj:Nat->Hp->V->Hp->Prop
 stop:Nat->Hp->Prop
def nE(X:Cx)(pins:List (Addr×Obj))(H:Hp)(b:Addr):Prop:=
 H b=none/\b≠X.env.locals/\b∉X.fs/\(b∈X.ex\/X.s₀.heap.objs.size<=b)/\(∀x c,X.env.cells.lookup x=some c->c≠b)/\∀p∈X.pn++pins,p.1≠b
theorem Inv.xa{X:Cx}{pins:List (Addr×Obj)}{f:St}{H d:Hp}{s:Shared}{b:Addr}(I:Inv X pins f H s)(a:s.heap.objs.size<=b)(g:d b=none):nE X pins d b:=by
 refine⟨g,Nat.ne_of_gt (Nat.lt_of_lt_of_le I.lt a),I.Md a,.inr (Nat.le_trans I.sz a),λx c e z=>?_,λp h z=>?_⟩
 .obtain⟨v,q⟩:=I.cell x c e
  exact absurd (Nat.lt_of_lt_of_le q.lt (by rw[z];exact a)) (Nat.lt_irrefl _)
 .exact absurd (Nat.lt_of_lt_of_le (Heap.lt_size (I.pin p h).1) (by rw[z];exact a)) (Nat.lt_irrefl _)
structure Turn(P:Program)(w:World)(K:PySem.W.Frag)(tg:Expr)(J:It)(fp:List Addr)(it:Addr)(tn:Nat->Heap->Prop):Prop where
 mem:it∈fp
 obj:∀i h,tn i h->∀b∈fp,∃o,h.get? b=some o/\∀v,o.data≠.cell v
 keep:∀i h h',tn i h->(∀b∈fp,∀o,h.get? b=some o->h'.get? b=some o)->tn i h'
 item:∀(X:Cx),X.prog=P->X.w=w->X.K=K->X.calm=true->∀(i:Nat) (pins:List (Addr×Obj)) (s:Shared) (σ:St) (H:Hp) (E:Value->Shared->Prop),Inv X pins σ H s->(∀b∈fp,nE X pins H b)->tn i s.heap->J.go i H ->
  wpAny (model P w) X.A (pyNext (.ref it)) (λr s1=>∃u,r=some u /\
   wpAny (model P w) X.A (letOwnedTupleGo tg (.ref it) u) (λ_ s2=>∃x H',Inv X pins σ H' s2/\RelV x u/\J.Kj i H x H'/\tn (i+1) s2.heap/\∀b∈fp,H' b=none) E s1) E s
 done:∀(X:Cx),X.prog=P->X.w=w->X.K=K->X.calm=true->∀(i:Nat) (pins:List (Addr×Obj)) (s:Shared) (σ:St) (H:Hp) (E:Value->Shared->Prop),Inv X pins σ H s->(∀b∈fp,nE X pins H b)->tn i s.heap->J.stop i H ->
  wpAny (model P w) X.A (pyNext (.ref it)) (λr s1=>r=none/\Inv X pins σ H s1) E s
 self:∀(A:Around) (i:Nat) (s:Shared) (Q:Value->Shared->Prop) (E:Value->Shared->Prop),tn i s.heap->Q (.ref it) s->wpAny (model P w) A (pyIter (.ref it)) Q E s
abbrev TI:=St->Hp->(It->Hp->Prop)->Prop
def PIE(X:Cx)(pins:List (Addr×Obj))(h:St)(i:Expr)(R:It->Hp->Prop)(a:Value)(d:Shared):Prop:=
 ∃(e:Addr) (f:List Addr) (g:Nat->Heap->Prop) (J:It) (c:Hp),a=.ref e/\Inv X pins h c d/\Turn X.prog X.w X.K i J f e g/\g 0 d.heap/\(∀b∈f,nE X pins c b)/\R J c
def PI(X:Cx)(b iter:Expr)(c:TI):Prop:=
 ∀(pins:List (Addr×Obj)) (s:Shared) (a:St) (H:Hp) (R:It->Hp->Prop),Inv X pins a H s->c a H R ->
  wpAny (model X.prog X.w) X.A (eval iter X.env) (λv d=>wpAny (model X.prog X.w) X.A (pyIter v) (PIE X pins a b R) X.xe d) X.xe s
theorem qy{M:Model}{A:Around}{E:Value->Shared->Prop}{s:Shared}{b:Expr}{it:Addr}{u:Value}{o:Obj}{n:String}{vs:Array Value}{Q:Unit->Shared->Prop}(c:s.heap.get? it=some o)(d:o.cls=.type n)(e:o.data=.fields vs)
    (f:["enumerate","zip","dict_itemiterator","dict_reverseitemiterator","odict_iterator","itertools.zip_longest","itertools.pairwise"].contains n=false) (a:Q () s):wpAny M A (letOwnedTupleGo b (.ref it) u) Q E s:=by
  unfold letOwnedTupleGo
  cases b<;>first
    |exact wpAny_pure a
    | (cases u<;>first
        |exact wpAny_pure a
        | (refine wpAny_bind (wpAny_load c ?_)
           rw[d,e]
           show wpAny M A (if (["enumerate","zip","dict_itemiterator","dict_reverseitemiterator","odict_iterator","itertools.zip_longest","itertools.pairwise"].contains n&&vs[0]?==some (rawInt _))=true then _ else _) Q E s
           rw[if_neg (by intro h;rw[f,Bool.false_and]at h;cases h)]
           exact wpAny_pure a))
noncomputable def Mo(K:PySem.W.Frag)(a:Addr):It:=
 ⟨λi H=>∃b x,kQ K H a b/\b[i]?=some x,λi H x c=>c=H/\∀b,kQ K H a b->b[i]?=some x,λi H=>∃b,kQ K H a b/\b.length<=i⟩
noncomputable def Mp(K:PySem.W.Frag)(a:Addr):It:=
 ⟨λi H=>∃b x,ug K H a b/\b[i]?=some x,λi H x c=>c=H/\∀b,ug K H a b->b[i]?=some x,λi H=>∃b,ug K H a b/\b.length<=i⟩
noncomputable def GJ(a:Int)(n:Nat):It:=⟨λi _=>i<n,λi H x b=>b=H/\x=.int (a+i),λi _=>n<=i⟩
theorem vx{P:Program}{w:World}{K:PySem.W.Frag}{O:Expr}(a it:Addr):Turn P w K O (Mo K a) [it] it (λi h=>h.IsListIter it a i) where
 mem:=by simp
 obj:=λi h f b g=>by
  have e:b=it:=by simpa using g
  subst e;obtain⟨o,e,c,d⟩:=f;exact⟨o,e,λv z=>by rw[d]at z;cases z⟩
 keep:=λi h l f k=>f.at λo e=>k it (by simp) o e
 item:=by
  intro X q r t M i pins s N H E I m f y;subst q r t;obtain⟨Q,x,n,A⟩:=y;obtain⟨B,C,p,R⟩:=I.list n;obtain⟨u,S,T⟩:=C.get A;obtain⟨D,F,U,G,J,L⟩:=m it (by simp)
  refine wpAny_pyNext_list_item f p.isList (x:=u) (by simpa using S) λl j V=>?_
  have Y:Inv X pins N H {s with heap:=l}:=I.turned (t':=s.toks) (λb o g e=>(V.2 b g).trans e) D F G J L
  obtain⟨o,e,c,d⟩:=id j;exact⟨u,rfl,qy (s:={s with heap:=l}) e c d (by decide) ⟨x,H,Y,T,⟨rfl,λys Z=>by rw[I.qx Z n];exact A⟩,j,λb g=>(m b g).1⟩⟩
 done:=by
  intro X q r t M i pins s N H E I m f y;subst q r t;obtain⟨Q,n,A⟩:=y;obtain⟨B,C,p,R⟩:=I.list n;obtain⟨D,F,U,G,J,L⟩:=m it (by simp)
  have hl:=C.length;exact wpAny_pyNext_list_end (I.ok.hd M) f p.isList (by simp;omega) λl eb=>⟨rfl,I.turned (t':=s.toks) (λb o g e=>eb b o g e) D F G J L⟩
 self:=λ_ _ _ _ _ f h=>wpAny_pyIter_listiter f h
theorem sd{P:Program}{w:World}{K:PySem.W.Frag}{O:Expr}(a it:Addr):Turn P w K O (Mp K a) [it] it (λi h=>h.IsTupleIter it a i) where
 mem:=by simp
 obj:=λi h f b g=>by
  have e:b=it:=by simpa using g
  subst e;obtain⟨o,e,c,d⟩:=f;exact⟨o,e,λv z=>by rw[d]at z;cases z⟩
 keep:=λi h m f k=>f.at λo e=>k it (by simp) o e
 item:=by
  intro X r t y M i pins s N H E I n f A;subst r t y;obtain⟨Q,x,q,B⟩:=A;obtain⟨j,C,p,R⟩:=I.tuple q;obtain⟨u,S,T⟩:=C.get B;obtain⟨D,F,U,G,J,L⟩:=n it (by simp)
  refine wpAny_pyNext_tuple_item f (show s.heap.IsTuple a j.toArray from p) (x:=u) (by simpa using S) λm l V=>?_
  have Y:Inv X pins N H {s with heap:=m}:=I.turned (t':=s.toks) (λb o g e=>(V.2 b g).trans e) D F G J L
  obtain⟨o,e,c,d⟩:=id l;exact⟨u,rfl,qy (s:={s with heap:=m}) e c d (by decide) ⟨x,H,Y,T,⟨rfl,λys Z=>by rw[I.vw Z q];exact B⟩,l,λb g=>(n b g).1⟩⟩
 done:=by
  intro X r t y M i pins s N H E I n f A;subst r t y;obtain⟨Q,q,B⟩:=A;obtain⟨j,C,p,R⟩:=I.tuple q;obtain⟨D,F,U,G,J,L⟩:=n it (by simp)
  have hl:=C.length;exact wpAny_pyNext_tuple_end (I.ok.hd M) f (show s.heap.IsTuple a j.toArray from p) (by simp;omega) λm eb=>⟨rfl,I.turned (t':=s.toks) (λb o g e=>eb b o g e) D F G J L⟩
 self:=λ_ _ _ _ _ f h=>wpAny_pyIter_tupleiter f h
theorem sg{P:Program}{w:World}{K:PySem.W.Frag}{F:Expr}(it:Addr)(f:Int)(n:Nat):Turn P w K F (GJ f n) [it] it (λi h=>IsRangeIter h it (f+(i:Nat)*1) ((n:Int) - (i:Nat)) 1) where
 mem:=by simp
 obj:=λi h a b c=>by
  have e:b=it:=by simpa using c
  subst e
  exact⟨_,a,λv z=>by
   have G:Data.fields _=Data.cell v:=z;cases G⟩
 keep:=λi h g a k=>k it (by simp) _ a
 item:=by
  intro X l m p q i pins s C H E I j a r;subst l m p;obtain⟨u,x,J,y,A,B⟩:=j it (by simp)
  have W:=Walks.range (prog:=X.prog) (w:=X.w) (I.ok.hd q) it f 1 n;refine W.item i s _ _ r a λv g D L d M=>?_
  obtain⟨t,rfl⟩:=L;have N:Inv X pins C H {s with heap:=g,toks:=D}:=I.turned (λb o c e=>M b o (by simpa using c) e) u x y A B
  refine⟨_,rfl,qy (s:={s with heap:=g,toks:=D}) (n:="range_iterator") d rfl rfl (by decide) ⟨.int (f+i),H,N,⟨t,?_⟩,⟨rfl,rfl⟩,d,λb c=>(j b c).1⟩⟩
  rw[Int.mul_one]
 done:=by
  intro X l m p q i pins s C H E I j a r;subst l m p;obtain⟨u,x,J,y,A,B⟩:=j it (by simp)
  exact wpAny_pyNext_range_end (I.ok.hd q) a (by have:n<=i:=r;omega) λg O=>⟨rfl,I.turned (t':=s.toks) (λb o c e=>O b o c e) u x y A B⟩
 self:=λ_ _ _ _ _ a h=>wpAny_pyIter_rangeiter a h
section
variable{X:Cx}{tg:Expr}
theorem xb{pins:List (Addr×Obj)}{d:St}{H:Hp}{s:Shared}{R:It->Hp->Prop}{E:Value->Shared->Prop}{a c:Int}{t u v:Tok}{f:Nat}(I:Inv X pins d H s)(h : -(2 ^ 62)<=a)(i:a<2 ^ 62)(j : -(2 ^ 62)<=c)(k:c<2 ^ 62)
  (q:R (GJ a (c - a).toNat) H):wpAny (model X.prog X.w) X.A (pyIter (.ref s.heap.objs.size)) (PIE X pins d tg R) E {s with heap:=s.heap.push {cls:=.type "range",data:=.fields #[.int a t,.int c u,.int 1 v]},toks:=f}:=by
 refine wpAny_pyIter_range (IsRange.new ..) (small_one h i j k) ?_;have g:Inv X pins d H {s with heap:=s.heap.push {cls:=.type "range",data:=.fields #[.int a t,.int c u,.int 1 v]},toks:=f}:=I.kept λb o e=>Heap.get?_push_of_some _ e
 refine⟨(s.heap.push {cls:=.type "range",data:=.fields #[.int a t,.int c u,.int 1 v]}).objs.size,[(s.heap.push {cls:=.type "range",data:=.fields #[.int a t,.int c u,.int 1 v]}).objs.size],_,_,H,rfl,
  g.kept (t':=f) λb o e=>Heap.get?_push_of_some _ e,sg _ a (c - a).toNat,?_,λb l=>?_,q⟩
 .have m:a+((0:Nat):Int)*1=a:=by simp
  have n:(((c - a).toNat:Nat):Int) - ((0:Nat):Int)=Builtin.Range.rangeSize a c 1:=by rw[rangeSize_one];split<;>omega
  show IsRangeIter _ _ (a+((0:Nat):Int)*1) ((((c - a).toNat:Nat):Int) - ((0:Nat):Int)) 1
  rw[m,n];exact Heap.get?_push_size _ rfl
 .have e:b=(s.heap.push {cls:=.type "range",data:=.fields #[.int a t,.int c u,.int 1 v]}).objs.size:=by simpa using l
  subst e;exact g.xa (Nat.le_refl _) (g.hok.fresh (Nat.le_refl _))
def GK(a:TA):TI:=λb H R=>a b H λc d=>∃j:Int,c=[.int j] /\ -(2 ^ 62)<=j/\j<2 ^ 62/\R (GJ 0 j.toNat) d
theorem vy{a:Expr}{c:TA}{p pos:Pos}(d:Gl X "range")(f:X.mg "range"=none)(g:PA X [a] c)(i:starEach [a] X.env=[(false,eval a X.env)]:=by rfl):PI X tg (.Call (.Name "range" p) [a] [] pos) (GK c):=by
 intro pins s k H R I h;refine Call_ (lO I d f boot_range (PyProof.Rows.callWith_type1 (cy (g pos pins s k H _ I h) λo u ⟨w,H1,I1,l,b⟩=>?_) i rfl))
 obtain⟨j,e,b,m,q⟩:=b;subst e;cases l with
 |cons r n=>
  cases n;obtain⟨t,rfl⟩:=r;exact call_range_1 (xb I1 (by omega) (by omega) b m (by simpa using q))
noncomputable def Mq(f:TI)(g:TG)(tb:TS):TS:=λD a H=>f a H λJ h=>∃W:Nat->Nat->St->Hp->Prop,(∃m,W 0 m a h)/\∀i m a H,W i m a H ->
 (J.stop i H/\D.nx a H)\/(J.go i H/\∃N:St->Hp->Prop,(∀b c,N b c->∃e,e<m/\W (i+1) e b c)/\∀x c,J.Kj i H x c->g x a c λd j=>tb {D with nx:=N,ct:=N,bk:=D.nx} d j)
noncomputable def lP(fp:List Addr)(h:Heap):List (Addr×Obj):=fp.filterMap λb=>(h.get? b).map λo=>(b,o)
theorem gs{fp:List Addr}{h:Heap}{b:Addr}{o:Obj}(a:b∈fp)(e:h.get? b=some o):(b,o)∈lP fp h:=List.mem_filterMap.mpr ⟨b,a,by rw[e];rfl⟩
theorem vz{fp:List Addr}{h:Heap}{p:Addr×Obj}(a:p∈lP fp h):p.1∈fp/\h.get? p.1=some p.2:=by
 obtain⟨b,c,e⟩:=List.mem_filterMap.mp a;cases q:h.get? b with
 |none=>rw[q]at e;cases e
 |some o=>
  rw[q]at e;have d:(b,o)=p:=Option.some.inj e;subst d;exact⟨c,q⟩
theorem Inv.pinned{pins:List (Addr×Obj)}{a:St}{H:Hp}{s:Shared}{fp:List Addr}(I:Inv X pins a H s)(g:∀b∈fp,nE X pins H b)(h:∀b∈fp,∃o,s.heap.get? b=some o/\∀v,o.data≠.cell v):Inv X (pins++lP fp s.heap) a H s:=
 I.uf λp i=>(List.mem_append.mp i).elim (λz=>I.pin p (List.mem_append_right _ z)) λz=>by
  obtain⟨c,e⟩:=vz z;obtain⟨j,k,l,_⟩:=g p.1 c;obtain⟨o,f,d⟩:=h p.1 c;rw[e]at f;cases f
  exact⟨e,j,k,l,d⟩
theorem Inv.ju{pins pl:List (Addr×Obj)}{a:St}{H:Hp}{s:Shared}(I:Inv X (pins++pl) a H s):Inv X pins a H s:=I.uf λp b=>I.pin p (List.mem_append_right _ (List.mem_append_left _ b))
theorem DT{iter:Expr}{body:List Stmt}{R:TI}{g:TG}{tb:TS}{pos:Pos}(z:PassesOwn (model X.prog X.w) X.A X.env X.xe)(S:X.calm=true)(hi:PI X tg iter R)(hg:PG X tg g)(c:kP X body tb)
  (hs:∀x,foldedSetIterable iter X.env x=pure x:=by intro _;rfl):PS X (.For tg iter body [] pos) (Mq R g tb):=by
 intro pins s U H D I h;refine wpAny_For (cy (hi pins s U H _ I h) λv s1 h1=>cy h1 λa0 s2 h2=>?_) hs
 obtain⟨it,B,V,J,H2,e,I2,T,L,Y,W,⟨m0,w0⟩,C⟩:=h2;subst e;have j:∀{t:Hp},(∀b∈B,t b=none)->∀b∈B,nE X pins t b:=λhn b c=>⟨hn b c,(Y b c).2⟩
 refine codeAny_forLoop_any (λn Z=>∃i k t,Inv X pins k t Z/\V i Z.heap/\(∀b∈B,t b=none)/\W i n k t) ?_ m0 ⟨0,U,H2,I2,L,λb c=>(Y b c).1,w0⟩
 rintro n s3 ⟨i,l,K,I3,E,F,w3⟩;rcases C i n l K w3 with ⟨stop,qn⟩|⟨go,N,hN,step⟩
 .refine wpAny_passesOwn z (cy (T.done X rfl rfl rfl S i pins s3 l K X.xe I3 (j F) E stop) λr s4 ⟨M,I4⟩=>?_)
  subst M;exact wpAny_execs_nil ⟨l,K,I4,qn⟩
 .refine wpAny_passesOwn z (cy (T.item X rfl rfl rfl S i pins s3 l K X.xe I3 (j F) E go) λr s4 ⟨u,M,h4⟩=>?_)
  subst M;refine wpAny_passesOwn z (cy h4 λ_ s5 ⟨x,H5,I5,r5,y5,Mr,S_⟩=>?_)
  have O:=I5.pinned (j S_) (T.obj _ _ Mr);refine wpAny_passesOwn z (cy (hg _ s5 l H5 x u _ O r5 (step x H5 y5)) λ_ s6 ⟨P,H6,I6,q6⟩=>?_)
  refine wpAny_passesOwn z (cy (c _ s6 P H6 _ I6 q6) λf Q y=>?_)
  have again:∀{a:St}{p:Hp},Inv X (pins++lP B s5.heap) a p Q->N a p->∃m,m<n/\∃i k t,Inv X pins k t Q/\V i Q.heap/\(∀b∈B,t b=none)/\W i m k t:=λ{a p} q G=>by
   obtain⟨m',hm,w7⟩:=hN a p G;refine⟨m',hm,i+1,a,p,q.ju,T.keep _ _ _ Mr λb c o e=>(q.pin (b,o) (List.mem_append_right _ (List.mem_append_right _ (gs c e)))).1,λb c=>?_,w7⟩
   obtain⟨o,e,d⟩:=T.obj _ _ Mr b c;exact(q.pin (b,o) (List.mem_append_right _ (List.mem_append_right _ (gs c e)))).2.1
  cases f with
  |next=>obtain⟨a,p,q,G⟩:=y;exact again q G
  |cont=>obtain⟨a,p,q,G⟩:=y;exact again q G
  |brk=>obtain⟨a,p,q,y⟩:=y;exact⟨a,p,q.ju,y⟩
  |ret v=>obtain⟨x7,a,p,q,r7,y⟩:=y;exact⟨x7,a,p,q.ju,r7,y⟩
end
abbrev R2:=V->V->Hp->VK->Prop
def h9(X:Cx)(f:Value->Value->Sem Value)(r:R2):Prop:=
 ∀(pins:List (Addr×Obj)) (s:Shared) (a:St) (H:Hp) (x y:V) (v u:Value) (Q:VK),Inv X pins a H s->RelV x v->RelV y u->r x y H Q ->
  wpAny (model X.prog X.w) X.A (f v u) (EP X pins a Q) X.xe s
def Ms(X:Cx)(f:Value->Sem Value)(r:V->Hp->VK->Prop):Prop:=
 ∀(pins:List (Addr×Obj)) (s:Shared) (a:St) (H:Hp) (x:V) (v:Value) (Q:VK),Inv X pins a H s->RelV x v->r x H Q ->
  wpAny (model X.prog X.w) X.A (f v) (EP X pins a Q) X.xe s
def fj(X:Cx)(f:Value)(r:List V->Hp->VK->Prop):Prop:=
 ∀(pins:List (Addr×Obj)) (s:Shared) (a:St) (H:Hp) (b:List V) (c:List Value) (Q:VK),Inv X pins a H s->Vals b c->r b H Q ->
  wpAny (model X.prog X.w) X.A (call f c) (EP X pins a Q) X.xe s
def Mt(X:Cx)(r:V->Hp->(Bool->Hp->Prop)->Prop):Prop:=
 ∀(pins:List (Addr×Obj)) (s:Shared) (a:St) (H:Hp) (x:V) (v:Value) (Q:Bool->Hp->Prop),Inv X pins a H s->RelV x v->r x H Q ->
  wpAny (model X.prog X.w) X.A (truthy v) (TP X pins a Q) X.xe s
noncomputable def Gf(r:R2)(b tb:TE):TE:=λa H Q=>b a H λx c=>tb a c λy d=>r x y d Q
noncomputable def Ta(r:V->Hp->VK->Prop)(a:TE):TE:=λb H Q=>a b H λx c=>r x c Q
noncomputable def rI(C:Int->Int->Prop)(g:Int->Int->V):R2:=λx y H Q=>∃i j,x=.int i/\y=.int j/\C i j/\Q (g i j) H
noncomputable def zP(g:Int->Int->V):R2:=λx y H Q=>∃i j,x=.int i/\y=.int j/\Q (g i j) H
def rU(g:Int->V):V->Hp->VK->Prop:=λx H Q=>∃i,x=.int i/\Q (g i) H
section
variable{X:Cx}{a b c:Expr}{ta tb tc:TE}{pos:Pos}
theorem DU(k:PE X a ta)(l:PE X b tb){pins:List (Addr×Obj)}{s:Shared}{c:St}{H:Hp}{R:V->V->Hp->Prop}(I:Inv X pins c H s)
  (h:ta c H λx j=>tb c j λy d=>R x y d) {Q:Value->Shared->Prop}{f:Value->Value->Sem Value}
  (m:∀v u i x y d,Inv X pins c d i->RelV x v->RelV y u->R x y d->wpAny (model X.prog X.w) X.A (f v u) Q X.xe i) :
  wpAny (model X.prog X.w) X.A (eval a X.env) (λv e=>wpAny (model X.prog X.w) X.A (eval b X.env) (λu g=>wpAny (model X.prog X.w) X.A (f v u) Q X.xe g) X.xe e) X.xe s:=by
 refine cy (k pins s c H _ I h) λv n ⟨x,j,I1,r1,q1⟩=>?_
 refine cy (l pins n c j _ I1 q1) λu i ⟨y,d,I2,r2,q2⟩=>?_
 exact m v u i x y d I2 r1 r2 q2
theorem CZ{op:Operator}{r:R2}(c:h9 X (binaryOp op) r)(d:PE X a ta)(e:PE X b tb):PE X (.BinOp a op b pos) (Gf r ta tb):=by
 intro pins s f H Q I h;exact wpAny_BinOp (DU d e I h λv u g x y i j k l q=>c pins g f i x y v u Q j k l q)
theorem GL{op:UnaryOp}{r:V->Hp->VK->Prop}(c:Ms X (unaryOp op) r)(d:PE X a ta):PE X (.UnaryOp op a pos) (Ta r ta):=by
 intro pins s b H Q I h;exact UnaryOp_ (cy (d pins s b H _ I h) λv e ⟨x,H1,I1,r1,q1⟩=>c pins e b H1 x v Q I1 r1 q1)
theorem Kk{f:Value->Value->Sem Value}{C:Int->Int->Prop}{g:Int->Int->Int}
  (rule:∀(i j:Int) (t u:Tok) (s:Shared) (Q:Value->Shared->Prop) (E:Value->Shared->Prop),C i j->Q (.int (g i j) s.toks) {s with toks:=s.toks+1}->wpAny (model X.prog X.w) X.A (f (.int i t) (.int j u)) Q E s) :
  h9 X f (rI C λi j=>.int (g i j)):=by
 intro pins s e H x y v u Q I a b h;obtain⟨i,j,rfl,rfl,c,q⟩:=h;obtain⟨t,rfl⟩:=a;obtain⟨d,rfl⟩:=b;exact rule i j t d s _ _ c ⟨.int (g i j),H,I.tok _,⟨_,rfl⟩,q⟩
theorem GN{f:Value->Value->Sem Value}{g:Int->Int->Int}
  (rule:∀(i j:Int) (t u:Tok) (s:Shared) (Q:Value->Shared->Prop) (E:Value->Shared->Prop),Q (.int (g i j) s.toks) {s with toks:=s.toks+1}->wpAny (model X.prog X.w) X.A (f (.int i t) (.int j u)) Q E s) :
  h9 X f (zP λi j=>.int (g i j)):=by
 intro pins s d H x y v u Q I a b h;obtain⟨i,j,rfl,rfl,q⟩:=h;obtain⟨t,rfl⟩:=a;obtain⟨c,rfl⟩:=b;exact rule i j t c s _ _ ⟨.int (g i j),H,I.tok _,⟨_,rfl⟩,q⟩
theorem zQ{f:Value->Value->Sem Value}{g:Int->Int->Bool}
  (rule:∀(i j:Int) (t u:Tok) (s:Shared) (Q:Value->Shared->Prop) (E:Value->Shared->Prop),Q (.bool (g i j)) s->wpAny (model X.prog X.w) X.A (f (.int i t) (.int j u)) Q E s) :
  h9 X f (zP λi j=>.bl (g i j)):=by
 intro pins s d H x y v u Q I a b h;obtain⟨i,j,rfl,rfl,q⟩:=h;obtain⟨t,rfl⟩:=a;obtain⟨c,rfl⟩:=b;exact rule i j t c s _ _ ⟨.bl (g i j),H,I,rfl,q⟩
def GO(i j:Int):Prop:=0<j/\j<1073741824
def GP(i j:Int):Prop:=0<=j/\j<=1000000/\i.natAbs<2 ^ 64
def zR(i j:Int):Prop:=(-(2 ^ 64)<i/\i<2 ^ 64)\/(-(2 ^ 64)<j/\j<2 ^ 64)
theorem zR.ok{i j:Int}(h:zR i j):IntMulOk i j:=by
 rcases h with ⟨a,b⟩|⟨a,b⟩
 .exact .of_left (intBits_le_64 a b)
 .exact .of_right (intBits_le_64 a b)
theorem DV:h9 X (binaryOp .Add) (zP λi j=>.int (i+j)):=GN λ_ _ _ _ _ _ _ q=>add_int q
theorem DW:h9 X (binaryOp .Sub) (zP λi j=>.int (i - j)):=GN λ_ _ _ _ _ _ _ q=>sub_int q
theorem DX:h9 X (binaryOp .Mult) (rI zR λi j=>.int (i*j)):=Kk λ_ _ _ _ _ _ _ a q=>mul_int q a.ok
theorem zS:h9 X (binaryOp .FloorDiv) (rI GO λi j=>.int (i / j)):=Kk λi j _ _ _ _ _ a q=>by
 have b:(0:Int)<j:=a.1;have c:j<1073741824:=a.2;exact floordiv_int (by omega) (by rw[Int.fdiv_eq_ediv_of_nonneg i (by omega)];exact q) (.inl (PyProof.noPylong_small (by omega)))
theorem DY:h9 X (binaryOp .Mod) (rI (λ_ j=>0<j) λi j=>.int (i%j)):=Kk λi j _ _ _ _ _ a q=>by
 have b:(0:Int)<j:=a;exact mod_int' (by omega) (by rw[Int.fmod_eq_emod_of_nonneg i (by omega)];exact q)
theorem DZ:h9 X (binaryOp .Pow) (rI GP λi j=>.int (i ^ j.toNat)):=Kk λ_ _ _ _ _ _ _ a q=>pow_int_small a.1 a.2.1 a.2.2 q
theorem Tb{f:Value->Sem Value}{g:Int->Int}
  (rule:∀(i:Int) (t:Tok) (s:Shared) (Q:Value->Shared->Prop) (E:Value->Shared->Prop),Q (.int (g i) s.toks) {s with toks:=s.toks+1}->wpAny (model X.prog X.w) X.A (f (.int i t)) Q E s) :
  Ms X f (rU λi=>.int (g i)):=by
 intro pins s b H x v Q I a h;obtain⟨i,rfl,q⟩:=h;obtain⟨t,rfl⟩:=a;exact rule i t s _ _ ⟨.int (g i),H,I.tok _,⟨_,rfl⟩,q⟩
theorem D4:Ms X (unaryOp .USub) (rU λi=>.int (-i)):=Tb λ_ _ _ _ _ q=>neg_int q
theorem oQ{pins:List (Addr×Obj)}{a:St}{H:Hp}{s:Shared}{Q:VK}{k b:Bool}(I:Inv X pins a H s)(q:Q (.bl k) H)(e:k=b):EP X pins a Q (.bool b) s:=by
 subst e;exact⟨.bl k,H,I,rfl,q⟩
theorem GQ:h9 X (compareOp .Lt) (zP λi j=>.bl (decide (i<j))):=zQ λ_ _ _ _ _ _ _ q=>lt_int q
theorem GR:h9 X (compareOp .LtE) (zP λi j=>.bl (decide (i<=j))):=zQ λ_ _ _ _ _ _ _ q=>le_int q
theorem GS:h9 X (compareOp .Gt) (zP λi j=>.bl (decide (j<i))):=zQ λ_ _ _ _ _ _ _ q=>gt_int q
theorem GU:h9 X (compareOp .GtE) (zP λi j=>.bl (decide (j<=i))):=zQ λ_ _ _ _ _ _ _ q=>ge_int q
theorem vA:h9 X (compareOp .In) (λx y H Q=>∃i j,x=.str i/\y=.str j/\Q (.bl (!(Builtin.Str.occurrences j i 0 j.length 1).isEmpty)) H):=by
 intro pins s c H x y v u Q I a b h;obtain⟨i,j,rfl,rfl,q⟩:=h;obtain⟨t,rfl⟩:=a;obtain⟨d,rfl⟩:=b;exact in_str (oQ I q rfl)
theorem xc:h9 X (compareOp .Is) (λx y H Q=>y=.non/\Q (.bl (decide (x=.non))) H):=by
 intro pins s c H x y v u Q I a b h;obtain⟨rfl,q⟩:=h;cases b;refine is_none_gen (oQ I q ?_)
 cases x<;>first
  | (cases a;rfl)
  | (obtain⟨t,rfl⟩:=a;rfl)
theorem uh:h9 X (compareOp .IsNot) (λx y H Q=>y=.non/\Q (.bl (!decide (x=.non))) H):=by
 intro pins s c H x y v u Q I a b h;obtain⟨rfl,q⟩:=h;cases b;refine isnot_none_gen (oQ I q ?_)
 cases x<;>first
  | (cases a;rfl)
  | (obtain⟨t,rfl⟩:=a;rfl)
theorem oT:h9 X (compareOp .NotIn) (λx y H Q=>∃i j,x=.str i/\y=.str j/\Q (.bl (!(!(Builtin.Str.occurrences j i 0 j.length 1).isEmpty))) H):=by
 intro pins s c H x y v u Q I a b h;obtain⟨i,j,rfl,rfl,q⟩:=h;obtain⟨t,rfl⟩:=a;obtain⟨d,rfl⟩:=b;exact notIn_str (oQ I q rfl)
theorem h9.or{f:Value->Value->Sem Value}{r a:R2}(h:h9 X f r)(h':h9 X f a):h9 X f (λx y H Q=>r x y H Q\/a x y H Q):=by
 intro pins s b H x y v u Q I c d q;rcases q with q|q
 .exact h pins s b H x y v u Q I c d q
 .exact h' pins s b H x y v u Q I c d q
theorem jv{op:CmpOp}{r:R2}(c:h9 X (compareOp op) r)(d:PE X a ta)(e:PE X b tb)(f:behindInMarks op b=false):PE X (.Compare a [op] [b] pos) (Gf r ta tb):=by
 intro pins s g H Q I h;exact wpAny_Compare1 (DU d e I h λv u i x y j k l m q=>c pins i g j x y v u Q k l m q) f
noncomputable def xf(t:TE):TT:=λa H Q=>t a H λx b=>∃k,x=.bl k/\Q k b
theorem jw{op:CmpOp}{r:R2}(f:h9 X (compareOp op) r)(g:PE X a ta)(i:PE X b tb)(j:behindInMarks op b=false):PT X (.Compare a [op] [b] pos) (xf (Gf r ta tb)):=by
 intro pins s d H Q I h
 refine wpAny_isTrue_Compare1 (cy (g pins s d H _ I h) λv l ⟨x,H1,I1,r1,q1⟩=>cy (i pins l d H1 _ I1 q1) λu m ⟨y,H2,I2,r2,q2⟩=>
  cy (f pins m d H2 x y v u _ I2 r1 r2 q2) λc o ⟨z,H3,I3,n,k,e,q3⟩=>?_) j
 subst e;cases n;exact wpAny_truthy_bool ⟨H3,I3,q3⟩
noncomputable def sj(r c:R2)(d tb e:TE):TE:=λa H Q=>d a H λx f=>tb a f λy g=>r x y g λz b=>∃k,z=.bl k /\
 (if k=true then e a b λh i=>c y h i Q else Q (.bl false) b)
theorem xg{op f:CmpOp}{r j:R2}(l:h9 X (compareOp op) r)(i:h9 X (compareOp f) j)(m:PE X a ta)(n:PE X b tb)(o:PE X c tc)
  (p:lastMarks [op,f] [b,c]=false:=by with_unfolding_all rfl):PE X (.Compare a [op,f] [b,c] pos) (sj r j ta tb tc):=by
 intro pins s g H Q I h
 refine Compare_chain (cy (m pins s g H _ I h) λv q ⟨x,H1,I1,r1,q1⟩=>chain_link (cy (n pins q g H1 _ I1 q1) λu t ⟨y,H2,I2,r2,q2⟩=>
  cy (l pins t g H2 x y v u _ I2 r1 r2 q2) λd w ⟨z,H3,I3,A,k,e,q3⟩=>?_)) p
 subst e;cases A;refine wpAny_truthy_bool ?_;cases k with
 |false=>exact ite_ff ⟨.bl false,H3,I3,rfl,q3⟩
 |true=>exact ite_tt (chain_last (cy (o pins w g H3 _ I3 q3) λB C ⟨D,H4,I4,r4,q4⟩=>i pins C g H4 y D u B Q I4 r2 r4 q4))
theorem xh{op f:CmpOp}{r j:R2}(l:h9 X (compareOp op) r)(i:h9 X (compareOp f) j)(m:PE X a ta)(n:PE X b tb)(o:PE X c tc)
  (p:lastMarks [op,f] [b,c]=false:=by with_unfolding_all rfl):PT X (.Compare a [op,f] [b,c] pos) (xf (sj r j ta tb tc)):=by
 intro pins s g H Q I h
 refine isTrue_chain (cy (m pins s g H _ I h) λv q ⟨x,H1,I1,r1,q1⟩=>test_link (cy (n pins q g H1 _ I1 q1) λu t ⟨y,H2,I2,r2,q2⟩=>
  cy (l pins t g H2 x y v u _ I2 r1 r2 q2) λd w ⟨z,H3,I3,A,k,e,q3⟩=>?_)) p
 subst e;cases A;refine wpAny_truthy_bool ?_;cases k with
 |false=>
  obtain⟨J,B,C⟩:=q3;cases B;exact ite_ff ⟨H3,I3,C⟩
 |true=>
  refine ite_tt (test_last (cy (o pins w g H3 _ I3 q3) λD E ⟨F,H4,I4,r4,q4⟩=>cy (i pins E g H4 y F u D _ I4 r2 r4 q4) λK L ⟨M,H5,I5,G,k2,e2,q5⟩=>?_))
  subst e2;cases G;exact wpAny_truthy_bool ⟨H5,I5,q5⟩
def qz(K:PySem.W.Frag)(x:V)(H:Hp)(k:Bool):Prop:=
 match x with
 |.non=>k=false
 |.bl b=>k=b
 |.int i=>k=(i != 0)
 |.str y=>y.length<=sizeLine/\k=((y.length:Int) != 0)
 |.F_ y=>y.size<=sizeLine/\k=((y.size:Int) != 0)
 |.ref p=>(∃a,kQ K H p a/\k=!a.isEmpty)\/(∃a,ug K H p a/\k=!a.isEmpty)\/∃c,H p=some (.dK c)/\k=!c.isEmpty
 |_=>False
theorem sk{κ:Type}{kvs:List (κ×V)}{vs:List (κ×Value)}(r:KV kvs vs):(!vs.isEmpty)=!kvs.isEmpty:=by
 cases r<;>rfl
theorem lQ{xs:List V}{a:List Value}(r:Vals xs a):(!a.toArray.isEmpty)=!xs.isEmpty:=by
 cases r<;>simp
theorem ja:(sizeLine:Nat)<2 ^ 63:=by rw[sizeLine_eq];decide
theorem oU:Mt X (λx H Q=>∃k,qz X.K x H k/\Q k H):=by
 intro pins s B H x v Q I g h;obtain⟨k,e,q⟩:=h;have C:=ja;have D:sizeLine=16777216:=sizeLine_eq;cases x with
 |non=>
  cases g;have a:k=false:=e;subst a;exact truthy_none ⟨H,I,q⟩
 |bl b=>
  cases g;have a:k=b:=e;subst a;exact wpAny_truthy_bool ⟨H,I,q⟩
 |int i=>
  obtain⟨t,rfl⟩:=g;have a:k=(i != 0):=e;subst a;exact PySem.P.truthy_int ⟨H,I,q⟩
 |str y=>
  obtain⟨t,rfl⟩:=g;obtain⟨z,a⟩:y.length<=sizeLine/\k=((y.length:Int) != 0):=e;subst a;exact PySem.P.truthy_str (by omega) ⟨H,I.tok _,q⟩
 |F_ y=>
  obtain⟨t,rfl⟩:=g;obtain⟨z,a⟩:y.size<=sizeLine/\k=((y.size:Int) != 0):=e;subst a;exact PySem.W.truthy_bytes (by omega) ⟨H,I.tok _,q⟩
 |ref p=>
  cases g;have a:(∃f,kQ X.K H p f/\k=!f.isEmpty)\/(∃f,ug X.K H p f/\k=!f.isEmpty)\/∃c,H p=some (.dK c)/\k=!c.isEmpty:=e;rcases a with ⟨f,j,a⟩|⟨f,j,a⟩|⟨c,j,a⟩
  .subst a
   obtain⟨n,r,o,u⟩:=I.list j;have d:=r.length;exact wpAny_truthy_list o.isList (by simp only[List.size_toArray];omega) ⟨H,I.tok _,by rw[lQ r];exact q⟩
  .subst a
   obtain⟨n,r,o,u⟩:=I.tuple j;have d:=r.length;exact truthy_tuple o (by simp only[List.size_toArray];omega) ⟨H,I.tok _,by rw[lQ r];exact q⟩
  .subst a
   obtain⟨u,A,l,r,m⟩:c.length<=sizeLine/\(p==sysModules)=false/\∃l,KV c l/\s.heap.DictOf (bP X.prog X.w) p l:=I.hok p _ j;have d:c.length=l.length:=Paired.length r;exact wpAny_truthy_dict A m (by omega) ⟨H,I.tok _,by rw[sk r];exact q⟩
 |_=>exact(show False from e).elim
theorem xi(e:PE X a ta)(f:∀b,isTrue a X.env b=(do let v ←b;standAt a.pos;holding [v] (truthy v))) :
  PT X a (λc H Q=>ta c H λx d=>∃k,qz X.K x d k/\Q k d):=by
 intro pins s c H Q I h;exact isTrue_plain (cy (e pins s c H _ I h) λv g ⟨x,H1,I1,r1,q1⟩=>oU pins g c H1 x v Q I1 r1 q1) (f _)
theorem sm:h9 X (binaryOp .Add) (λx y H Q=>∃i j,x=.str i/\y=.str j/\i.length+j.length<=sizeLine/\Q (.str (i++j)) H):=by
 intro pins s e H x y v u Q I a b h;obtain⟨i,j,rfl,rfl,c,q⟩:=h;obtain⟨t,rfl⟩:=a;obtain⟨d,rfl⟩:=b;exact add_str (λd f=>⟨.str (i++j),H,I.tok _,⟨_,rfl⟩,q⟩) c
theorem vals1{x:V}{us:List Value}(r:Vals [x] us):∃u,us=[u]/\RelV x u:=by
 cases r with
 |cons a b=>cases b;exact⟨_,rfl,a⟩
theorem vals2{x y:V}{us:List Value}(r:Vals [x,y] us):∃u a,us=[u,a]/\RelV x u/\RelV y a:=by
 cases r with
 |cons b c=>
  cases c with
  |cons d e=>cases e;exact⟨_,_,rfl,b,d⟩
end
structure sr(h:Heap)(x dx C:Addr)(mA:Str->Option Value):Prop where
 obj:h.get? x=some (PySem.W.instObj C dx)
 ns:h.Ns1 dx mA
 ne:dx≠x
theorem vB{h:Heap}{c:Addr}{d:Str->Option Value}(n:h.Ns1 c d):∃f,h.get? c=some f/\∀name,PySem.W.lookIn name f=some (d name):=by
 obtain⟨o,g,r,i,j,k,_,l⟩:=n;refine⟨o,i,λname=>?_⟩
 have e:=l name;unfold nsFind findBy at e;rw[←Array.find?_toList]at e;unfold PySem.W.lookIn;rw[j];dsimp only;split
 .rename_i y q
  rw[q]at e;exact congrArg some e
 .rename_i q
  rw[q]at e
  have a:g.toList.any (·.refKey)=false:=by
   rw[List.any_eq_false];intro y m;obtain⟨z,t,b⟩:=k y (Array.mem_toList_iff.mp m);simp[DictEntry.refKey,b]
  have p:¬ g.toList.any (·.refKey)=true:=by rw[a];exact Bool.false_ne_true
  rw[if_neg p];exact congrArg some e
theorem sr.look{h:Heap}{x b C:Addr}{c:Str->Option Value}(I:sr h x b C c):∃a,PySem.W.InstAt h x (PySem.W.instObj C b) C (some a)/\∀name,PySem.W.lookIn name a=some (c name):=
 let ⟨a,d,e⟩:=vB I.ns
 ⟨a,⟨I.obj,rfl,rfl,d⟩,e⟩
section
variable{prog:Program}{w:World}{A:Around}{E:Value->Shared->Prop}{s:Shared}{K:PySem.W.Frag}{x dx C f:Addr}{mA:Str->Option Value}{name:Str}{v:Value}
theorem get_map{a:Bool}{Q:Value->Shared->Prop}(X:K.In s.heap)(I:sr s.heap x dx C mA)(c:PySem.W.plainGet K C name=true)(d:PySem.W.hasDictIn K C=true)
  (e:PySem.W.findIn K (.ref C) name=some none) (f:mA name=some v) (b:PySem.W.handedIn v=true) (h:Q v {s with toks:=s.toks+1}) :
  wpAny (model prog w) A (getAttr (.ref x) name a) Q E s:=by
 obtain⟨i,J,g⟩:=I.look;exact PySem.W.get_value X J (PySem.W.plainGet_of c).1 (PySem.W.findObj_own d e rfl (by rw[g,f])) b h
theorem xj{pl:Sem Bool}{Q:Value×List Value->Shared->Prop}(X:K.In s.heap)(I:sr s.heap x dx C mA)(a:PySem.W.plainGet K C name=true)
  (b:PySem.W.findIn K (.ref C) name=some (some (.ref f))) (c:PySem.W.isFn K (.ref f)=true) (d:mA name=none) (h:Q (.ref f,[.ref x]) s) :
  wpAny (model prog w) A (getMethod (.ref x) name pl) Q E s:=by
 obtain⟨e,J,g⟩:=I.look;exact PySem.W.method_fn X J (PySem.W.plainGet_of a).1 (PySem.W.plainGet_of a).2 b (beq_iff_eq.mp c) (by show(PySem.W.lookIn name e).map (·.isSome)=some false;rw[g,d];rfl) h
theorem zT{ns:List Str}{Q:Unit->Shared->Prop}(X:K.In s.heap)(I:sr s.heap x dx C mA)
  (j:PySem.W.findIn K (.ref C) "__setattr__"=some (some (.builtin "object.__setattr__"))) (k:PySem.W.plainOver K C=true) (l:PySem.W.takerIn K C name=some none) (m:PySem.W.hasDictIn K C=true)
  (n:PySem.Within mA ns) (hsz:ns.length<=sizeLine)
  (h:∀h',sr h' x dx C (λy=>if y=name then some v else mA y)->Heap.SameBut dx s.heap h'->Q () {s with heap:=h',toks:=s.toks+2}) :
  wpAny (model prog w) A (setAttr (.ref x) name v) Q E s:=by
 obtain⟨u,J,z⟩:=I.look;refine PySem.W.set_plain X J j (PySem.W.osa_open (s:={s with toks:=s.toks+1}) (r:=none) X J k l λb=>?_)
 obtain⟨B,o,e⟩:=PySem.W.any_some m;have p:s.heap.get? x=some ⟨.ref C,some dx,.plain,#[]⟩:=I.obj;refine wpAny_bind (wpAny_pure (wpAny_bind (wpAny_bind (wpAny_loadPart p (wpAny_bind (PySem.W.Looks.here (s:={s with toks:=s.toks+1}) (PySem.W.looks_clsIn X o) ?_))))));rw[e];refine wpAny_pure (a:=some dx) (wpAny_bind (wpAny_pure (wpAny_bind ?_)));refine wpAny_nsSet1 (s:={s with toks:=s.toks+1}) I.ns λh' c d=>?_
 obtain⟨D,q,t,f,g,i⟩:=c.count (PySem.Within.cons name v n);refine wpAny_bind (wpAny_lookBehind f (by rw[g];exact pastItsLine_dict (Nat.le_trans i (by rw[List.length_cons];omega))) ?_)
 exact wpAny_pure (h _ ⟨(d.2 _ (Ne.symm I.ne)).trans I.obj,c,I.ne⟩ d)
theorem xk{R:Result->Shared->Prop}{vs:List Value}{a:List (Str×Value)}(X:K.In s.heap)(b:PySem.W.makesIn K C=true)
  (c:PySem.W.findIn K (.ref C) "__init__"=some (some (.ref f))) (e:PySem.W.typeIn K (.ref f)=some (.type "function"))
  (h:codeAny (model prog w) (A.under (.builtin "type.__call__" ⟨.ref C::vs,a⟩)) (.call (.ref f) ⟨.ref (s.heap.objs.size+1)::vs,a⟩) (PySem.W.InitBack (s.heap.objs.size+1) R)
   {s with heap:=(s.heap.push PySem.W.emptyDict).push (PySem.W.instObj C s.heap.objs.size)}) :
  codeAny (model prog w) A (.call (.ref C) ⟨vs,a⟩) R s:=by
 obtain⟨i,g,d,t,j⟩:=s;exact PySem.W.make_core (PySem.W.makes_of X b) (PySem.W.looks_findIn X c) (λself=>PySem.W.bind_fn X self e) (.inl rfl) h
end
noncomputable def gu(f:Str)(v:V):List (Str×V)->List (Str×V)
 |[]=>[(f,v)]
 | (g,x)::r=>if g=f then (g,v)::r else (g,x)::gu f v r
theorem kr(f g:Str)(v:V):∀c:List (Str×V),(gu f v c).lookup g=if g=f then some v else c.lookup g
 |[]=>by
  show List.lookup g [(f,v)]=_
  by_cases h:g=f
  .have a:(g==f)=true:=beq_iff_eq.mpr h
   simp only[List.lookup,a,if_pos h]
  .have a:(g==f)=false:=beq_eq_false_iff_ne.mpr h
   simp only[List.lookup,a,if_neg h]
 | (k,x)::r=>by
  have d:=kr f g v r;rw[show gu f v ((k,x)::r)=(if k=f then (k,v)::r else (k,x)::gu f v r)from rfl]
  by_cases b:k=f
  .rw[if_pos b]
   by_cases h:g=k
   .have a:(g==k)=true:=beq_iff_eq.mpr h
    simp only[List.lookup,a,if_pos (h.trans b)]
   .have a:(g==k)=false:=beq_eq_false_iff_ne.mpr h
    simp only[List.lookup,a,if_neg (λe:g=f=>h (e.trans b.symm))]
  .rw[if_neg b]
   by_cases h:g=k
   .have a:(g==k)=true:=beq_iff_eq.mpr h
    simp only[List.lookup,a,if_neg (λe:g=f=>b (h.symm.trans e))]
   .have a:(g==k)=false:=beq_eq_false_iff_ne.mpr h
    simp only[List.lookup,a];exact d
theorem jY(f:Str)(v:V):∀a:List (Str×V),f∈(gu f v a).map (·.1)/\∀g,g∈a.map (·.1)->g∈(gu f v a).map (·.1)
 |[]=>⟨by simp[gu],λg h=>by simp at h⟩
 | (k,x)::r=>by
  obtain⟨c,d⟩:=jY f v r;rw[show gu f v ((k,x)::r)=(if k=f then (k,v)::r else (k,x)::gu f v r)from rfl]
  by_cases b:k=f
  .rw[if_pos b]
   subst b;exact⟨by simp,λg h=>by simpa using h⟩
  .rw[if_neg b]
   refine⟨?_,λg h=>?_⟩
   .rw[List.map_cons]
    exact List.mem_cons_of_mem _ c
   .rw[List.map_cons]at h ⊢
    rcases List.mem_cons.mp h with e|e
    .exact List.mem_cons.mpr (.inl e)
    .exact List.mem_cons_of_mem _ (d g e)
theorem ku(f:Str)(v:V):∀a:List (Str×V),(gu f v a).length<=a.length+1
 |[]=>by simp[gu]
 | (k,x)::r=>by
  have c:=ku f v r;rw[show gu f v ((k,x)::r)=(if k=f then (k,v)::r else (k,x)::gu f v r)from rfl]
  by_cases b:k=f
  .rw[if_pos b,List.length_cons,List.length_cons];omega
  .rw[if_neg b,List.length_cons,List.length_cons];omega
theorem hY.some_of{v:V}{o:Option Value}(r:hY (some v) o):∃u,o=some u/\RelV v u:=by
 cases o with
 |none=>exact(show False from r).elim
 |some u=>exact⟨u,rfl,r⟩
theorem hY.none_of{o:Option Value}(r:hY none o):o=none:=by
 cases o with
 |none=>rfl
 |some u=>exact(show False from r).elim
theorem vC{v:V}{u:Value}(r:RelV v u):PySem.W.handedIn u=true:=by
 cases v with
 |non=>cases (show u=Value.none from r);rfl
 |bl b=>cases (show u=Value.bool b from r);rfl
 |int i=>obtain⟨t,e⟩:=(show ∃t,u=Value.int i t from r);cases e;rfl
 |str x=>obtain⟨t,e⟩:=(show ∃t,u=Value.str x t from r);cases e;rfl
 |F_ b=>obtain⟨t,e⟩:=(show ∃t,u=Value.bytes b t from r);cases e;rfl
 |flt b=>obtain⟨t,e⟩:=(show ∃t,u=Value.float b t from r);cases e;rfl
 |ref a=>cases (show u=Value.ref a from r);rfl
 |ty n=>cases (show u=Value.type n from r);rfl
section
variable{P:Program}{w:World}{H H':Hp}{h h':Heap}{a C dx:Addr}{fs fs':List (Str×V)}
theorem lg(c:i9 P w H h)(e:H a=some (.ins C dx fs)):∃b,sr h a dx C b/\(∀f,hY (fs.lookup f) (b f))/\PySem.Within b (fs.map (·.1))/\fs.length<=1000/\H dx=some (.own a):=by
 obtain⟨d,z,ne,g,b,n,r,q⟩:=(show cq P w H h a (.ins C dx fs)from c a _ e)
 exact⟨b,⟨g,n,ne⟩,r,q,z,d⟩
end
structure nF(K:PySem.W.Frag)(C:Addr):Prop where
 pg:PySem.W.plainGet K C Str.empty=true
 hd:PySem.W.hasDictIn K C=true
 po:PySem.W.plainOver K C=true
 sa:PySem.W.findIn K (.ref C) "__setattr__"=some (some (.builtin "object.__setattr__"))
theorem nF.get{K:PySem.W.Frag}{C:Addr}(c:nF K C)(f:Str):PySem.W.plainGet K C f=true:=c.pg
def h_(K:PySem.W.Frag)(C:Addr)(f:Str):Prop:=PySem.W.findIn K (.ref C) f=some none
theorem h_.taker{K:PySem.W.Frag}{C:Addr}{f:Str}(n:h_ K C f):PySem.W.takerIn K C f=some none:=by
 unfold PySem.W.takerIn;rw[show PySem.W.findIn K (.ref C) f=some none from n]
 rfl
structure Meth(K:PySem.W.Frag)(C:Addr)(m:Str)(f:Addr):Prop where
 at_:PySem.W.findIn K (.ref C) m=some (some (.ref f))
 fn:PySem.W.isFn K (.ref f)=true
 kp:PySem.W.keepIn K (.ref f)=true
section
variable{X:Cx}{pins:List (Addr×Obj)}{σ:St}{H:Hp}{s:Shared}{a C dx:Addr}{fs:List (Str×V)}{f:Str}{v:V}{A:Around}{E:Value->Shared->Prop}
theorem su{b:Bool}{Q:Value->Shared->Prop}(I:Inv X pins σ H s)(e:H a=some (.ins C dx fs))(c:nF X.K C)(n:h_ X.K C f)(l:fs.lookup f=some v)
  (h:∀u d,Inv X pins σ H d->RelV v u->Q u d):wpAny (model X.prog X.w) A (getAttr (.ref a) f b) Q E s:=by
 obtain⟨i,O,r,_,_,_⟩:=lg I.hok e;obtain⟨u,j,g⟩:=hY.some_of (v:=v) (o:=i f) (by rw[←l];exact r f)
 exact get_map I.jq O (c.get f) c.hd n j (vC g) (h u _ (I.tok _) g)
theorem jb{m:Str}{g:Addr}{pl:Sem Bool}{Q:Value×List Value->Shared->Prop}(I:Inv X pins σ H s)(e:H a=some (.ins C dx fs))(c:nF X.K C)(k:Meth X.K C m g)(l:fs.lookup m=none)
  (h:Q (.ref g,[.ref a]) s):wpAny (model X.prog X.w) A (getMethod (.ref a) m pl) Q E s:=by
 obtain⟨b,O,r,_,_,_⟩:=lg I.hok e;have d:b m=none:=hY.none_of (by rw[←l];exact r m)
 exact xj I.jq O (c.get m) k.at_ k.fn d h
theorem sv{y:V}{u:Value}{Q:Unit->Shared->Prop}(I:Inv X pins σ H s)(e:H a=some (.ins C dx fs))(c:nF X.K C)(n:h_ X.K C f)(J:fs.length<1000)(m:RelV y u)
  (h:∀i,Inv X pins σ (upd H a (.ins C dx (gu f y fs))) i->Q () i):wpAny (model X.prog X.w) A (setAttr (.ref a) f u) Q E s:=by
 obtain⟨j,O,r,k,_,l⟩:=lg I.hok e;have p:(fs.map (·.1)).length<=sizeLine:=by rw[List.length_map,sizeLine_eq];omega
 refine zT I.jq O c.sa c.po n.taker c.hd k p λt d B=>h _ ?_
 have D:∃o,t.get? dx=some o:=let ⟨o,_,_,e',_⟩:=d.ns;⟨o,e'⟩
 refine I.write (x:=a) (e:=dx) (by rw[e];exact True.intro) (.inr l) (λb q F z=>(B.2 b F).trans z) D ?_
 refine⟨by rw[aM O.ne];exact l,?_,O.ne,d.obj,_,d.ns,λg=>?_,λg G=>?_⟩
 .have:=ku f y fs;omega
 .show hY ((gu f y fs).lookup g) (if g=f then some u else j g)
  rw[kr]
  by_cases q:g=f
  .rw[if_pos q,if_pos q];exact m
  .rw[if_neg q,if_neg q];exact r g
 .by_cases q:g=f
  .rw[q];exact(jY f y fs).1
  .refine(jY f y fs).2 g (k g λz=>G ?_)
   show(if g=f then some u else j g)=none
   rw[if_neg q];exact z
theorem Inv.made(I:Inv X pins σ H s):Inv X pins σ (upd (upd H s.heap.objs.size (.own (s.heap.objs.size+1))) (s.heap.objs.size+1) (.ins C s.heap.objs.size []))
  {s with heap:=(s.heap.push PySem.W.emptyDict).push (PySem.W.instObj C s.heap.objs.size)}:=by
 have c:(s.heap.push PySem.W.emptyDict).get? s.heap.objs.size=some PySem.W.emptyDict:=Heap.get?_push_size s.heap rfl
 have d:((s.heap.push PySem.W.emptyDict).push (PySem.W.instObj C s.heap.objs.size)).get? (s.heap.objs.size+1)=some (PySem.W.instObj C s.heap.objs.size):=by
  have:=Heap.get?_push_size (s.heap.push PySem.W.emptyDict) (o:=PySem.W.instObj C s.heap.objs.size) rfl;rwa[Heap.size_push]at this
 have f:(s.heap.push PySem.W.emptyDict).Ns s.heap.objs.size (λ_=>none):=⟨PySem.W.emptyDict,#[],_,c,rfl,(λe g=>absurd g (by simp)),λ_=>rfl⟩
 have h:=I.laid (a:=s.heap.objs.size) (o:=.own (s.heap.objs.size+1)) (h':=s.heap.push PySem.W.emptyDict) (t':=s.toks) (λb u q=>Heap.get?_push_of_some _ q) (Nat.le_refl _) ⟨_,c⟩
 refine h.laid (a:=s.heap.objs.size+1) (o:=.ins C s.heap.objs.size []) (t':=s.toks) (λb u q=>Heap.get?_push_of_some _ q) (Nat.le_of_eq (Heap.size_push _ _)) ?_
 have ne:s.heap.objs.size≠s.heap.objs.size+1:=Nat.ne_of_lt (Nat.lt_succ_self _);refine⟨by rw[aM ne,ba],Nat.zero_le _,ne,d,λ_=>none,(Heap.Ns1.of_empty f).at λo q=>Heap.get?_push_of_some _ q,λ_=>True.intro,λy i=>absurd rfl i⟩
theorem zU{prog:Program}{w:World}{env:Env}{e:Expr}{f:Str}{pos:Pos}{s:Shared}{Q:Value->Shared->Prop}(b:attributeBase e f env (eval e env)=eval e env)
  (h:wpAny (model prog w) A (eval e env) (λo a=>wpAny (model prog w) A (getAttr o f true) Q E a) E s):wpAny (model prog w) A (eval (.Attribute e f pos) env) Q E s:=
 Attribute_any_ h (by rw[arm_eval_Attribute,b])
end
noncomputable def Mu(K:PySem.W.Frag)(d:TE)(f:Str):TE:=λe H Q=>d e H λx b=>∃a C g c v,x=.ref a/\b a=some (.ins C g c)/\nF K C/\h_ K C f/\c.lookup f=some v/\Q v b
def Mv(K:PySem.W.Frag)(g h:TE)(f:Str):TS:=λD b H=>h b H λy i=>g b i λx d=>∃a C e c,x=.ref a/\d a=some (.ins C e c)/\nF K C/\h_ K C f/\c.length<1000 /\
 D.nx b (upd d a (.ins C e (gu f y c)))
section
variable{X:Cx}{o e value:Expr}{f:Str}{pos pos' tpos:Pos}{ta tv:TE}
theorem D5(b:PE X e ta)(d:attributeBase e f X.env (eval e X.env)=eval e X.env):PE X (.Attribute e f pos) (Mu X.K ta f):=by
 intro pins s g H Q I h;refine zU d (cy (b pins s g H _ I h) λu k ⟨x,H1,I1,rx,a,C,dx,fs,v,ex,ea,c,n,l,q⟩=>?_)
 subst ex;obtain rfl:u=Value.ref a:=rx;exact su I1 ea c n l λm o i j=>⟨v,H1,i,j,q⟩
theorem D6(d:PE X o ta)(e:PE X value tv)(g:swapsWith value (some (.Attribute o f pos')) pos.line X.env=pure false):PS X (.Assign [.Attribute o f pos'] value pos) (Mv X.K ta tv f):=by
 intro pins s b H D I h;refine plainObj_wpAny_Assign_Attribute (cy (e pins s b H _ I h) λu i ⟨y,H1,I1,ry,q⟩=>cy (d pins i b H1 _ I1 q) λj m ⟨x,H2,I2,rx,a,C,dx,fs,ex,ea,c,n,l,q2⟩=>?_) g
 subst ex;obtain rfl:j=Value.ref a:=rx;exact sv I2 ea c n l ry λp k=>⟨b,_,k,q2⟩
end
section
variable{X:Cx}{pins:List (Addr×Obj)}{σ:St}{H:Hp}{s:Shared}{A:Around}{E:Value->Shared->Prop}{Q:Value->Shared->Prop}{c:Value}{b:Bool}
inductive kR (K:PySem.W.Frag) (H:Hp):V->Value->Prop where
 |non:kR K H .non (.type "NoneType")
 |bl (x:Bool):kR K H (.bl x) (.type "bool")
 |int (i:Int):kR K H (.int i) (.type "int")
 |str (x:Str):kR K H (.str x) (.type "str")
 |flt (x:UInt64):kR K H (.flt x) (.type "float")
 |lst {a:Addr}{xs:List V} (e:H a=some (.lst xs)):kR K H (.ref a) (.type "list")
 |dW {a:Addr}{o:Obj}{xs:List V} (e:H a=some (.dW o (.lst xs))):kR K H (.ref a) (.type "list")
 |tup {a:Addr}{xs:List V} (e:H a=some (.tup xs)):kR K H (.ref a) (.type "tuple")
 |dK {a:Addr}{kvs:List (Key×V)} (e:H a=some (.dK kvs)):kR K H (.ref a) (.type "dict")
 |dT {a:Addr}{kvs:List (List Key×V)} (e:H a=some (.dT kvs)):kR K H (.ref a) (.type "dict")
 |ins {a C dx:Addr}{fs:List (Str×V)} (e:H a=some (.ins C dx fs)) (cl:nF K C) (ha:PySem.W.findIn K (.ref C) "__class__"=some (some (.builtin "object.__class__")))
   (hn:PySem.W.specialIn K (.builtin "object.__class__") "__get__"=some (some (.builtin "getset_descriptor.__get__"))) (htk:PySem.W.takesIn K (.builtin "object.__class__")=some true)
   (hm:PySem.W.mroIn K C (.type "object")=some true):kR K H (.ref a) (.ref C)
theorem ey{x:V}{u t:Value}(I:Inv X pins σ H s)(d:RelV x u)(B:kR X.K H x t)(e:PySem.W.kitOne X.K t c=some b)(h:∀D,Q (.bool b) {s with toks:=D}) :
  wpAny (model X.prog X.w) A (call (.builtin "isinstance") [u,c]) Q E s:=by
 cases B with
 |non=>cases (show u=Value.none from d);exact PySem.W.kia_one PySem.W.kitx_none I.jq True.intro e (λz=>nomatch z) h
 |bl y=>cases (show u=Value.bool y from d);exact PySem.W.kia_one PySem.W.kitx_bool I.jq True.intro e (λz=>nomatch z) h
 |int i=>obtain⟨t,q⟩:=(show ∃t,u=Value.int i t from d);cases q;exact PySem.W.kia_one PySem.W.kitx_int I.jq True.intro e (λz=>nomatch z) h
 |str y=>obtain⟨t,q⟩:=(show ∃t,u=Value.str y t from d);cases q;exact PySem.W.kia_one PySem.W.kitx_str I.jq True.intro e (λz=>nomatch z) h
 |flt y=>obtain⟨t,q⟩:=(show ∃t,u=Value.float y t from d);cases q;exact PySem.W.kia_one PySem.W.kitx_float I.jq True.intro e (λz=>nomatch z) h
 |@lst a k f=>
  cases (show u=Value.ref a from d)
  obtain⟨_,_,n,_,g⟩:=(show cq X.prog X.w H s.heap a (.lst k)from I.hok a _ f)
  exact PySem.W.kia_one PySem.W.kitx_list I.jq ⟨_,g,rfl⟩ e (λz=>nomatch z) h
 |@dW a F k f=>
  cases (show u=Value.ref a from d)
  obtain⟨_,_,_,n,_,g⟩:=(show cq X.prog X.w H s.heap a (.dW F (.lst k))from I.hok a _ f)
  exact PySem.W.kia_one PySem.W.kitx_list I.jq ⟨_,g,rfl⟩ e (λz=>nomatch z) h
 |@tup a k f=>
  cases (show u=Value.ref a from d)
  obtain⟨_,_,_,p⟩:=(show cq X.prog X.w H s.heap a (.tup k)from I.hok a _ f)
  obtain⟨o,g,l,_⟩:=p;exact PySem.W.kia_one PySem.W.kitx_tuple I.jq ⟨o,g,l⟩ e (λz=>nomatch z) h
 |@dK a j f=>
  cases (show u=Value.ref a from d)
  obtain⟨_,_,R,_,p⟩:=(show cq X.prog X.w H s.heap a (.dK j)from I.hok a _ f)
  obtain⟨o,G,L,g,l,_⟩:=p;exact PySem.W.kia_one PySem.W.kitx_dict I.jq ⟨o,g,l.1⟩ e (λz=>nomatch z) h
 |@dT a j f=>
  cases (show u=Value.ref a from d)
  obtain⟨_,_,k,_,o,G,L,g,l,_⟩:=(show cq X.prog X.w H s.heap a (.dT j)from I.hok a _ f)
  exact PySem.W.kia_one PySem.W.kitx_dict I.jq ⟨o,g,l.1⟩ e (λz=>nomatch z) h
 |@ins a C S T f r M N m P=>
  cases (show u=Value.ref a from d)
  obtain⟨U,O,_⟩:=lg I.hok f;obtain⟨Y,J,_⟩:=O.look;exact PySem.W.kia_one (PySem.W.kitx_own (r.get _) r.hd M N m P) I.jq J e (λz=>nomatch z) h
end
structure df(k:Nat)(A:Around):Prop where
 hd:A.handled=none
 dp:A.depth+3*k+5<recursionLimit
 un:A.units+16*k+200<cLine
theorem df.mono{j k:Nat}{A:Around}(r:df k A)(h:j<=k):df j A:=⟨r.hd,by have:=r.dp;omega,by have:=r.un;omega⟩
theorem df.deeper{k:Nat}{A:Around}(r:df (k+1) A)(env:Env):df k (A.deeper env):=
 ⟨r.hd,by have:=r.dp;show A.depth+1+3*k+5<_;omega,by have:=r.un;show A.units+3+16*k+200<_;omega⟩
theorem sx{A:Around}{C:Addr}{us:List Value}{a:List (Str×Value)}:(A.under (.builtin "type.__call__" ⟨.ref C::us,a⟩)).depth=A.depth+1:=by
 first|rfl|simp[Around.under,Code.weight,Code.isCreation,Code.isGuard,Code.isCaller,Code.frames,Code.isFrame,guardIds]
theorem sy{A:Around}{C:Addr}{us:List Value}{a:List (Str×Value)}:(A.under (.builtin "type.__call__" ⟨.ref C::us,a⟩)).units=A.units+1:=by
 first|rfl|simp[Around.under,Code.cUnits,Code.frames,Code.isFrame]
theorem df.make{k:Nat}{A:Around}(r:df (k+1) A)(C:Addr)(us:List Value)(a:List (Str×Value)):df k (A.under (.builtin "type.__call__" ⟨.ref C::us,a⟩)):=
 ⟨r.hd,by have:=r.dp;rw[sx];omega,by have:=r.un;rw[sy];omega⟩
theorem df.depth{k:Nat}{A:Around}(r:df k A):A.depth<recursionLimit:=by have:=r.dp;omega
theorem df.units{k:Nat}{A:Around}(r:df k A):A.units+64<cLine:=by have:=r.un;omega
noncomputable def xl:TA:=λ_ H Q=>Q [] H
noncomputable def C4(b:TE)(c:TA):TA:=λa H Q=>b a H λx d=>c a d λe f=>Q (x::e) f
section
variable{X:Cx}{e:Expr}{es:List Expr}{te:TE}{t:TA}{pos:Pos}
theorem sD:PA X [] xl:=λ_ _ _ _ H Q I h=>Calls.spliced_nil ⟨[],H,I,.nil,h⟩
theorem iK(c:PE X e te)(d:PA X es t)(f:starEach (e::es) X.env=(false,eval e X.env)::starEach es X.env:=by rfl):PA X (e::es) (C4 te t):=by
 intro a pins s b H Q I h;rw[f]
 show wpAny _ _ (spliced ((false,eval e X.env)::backTo a (starEach es X.env))) _ _ s
 refine Calls.spliced_cons (cy (c pins s b H _ I h) λu g ⟨x,H1,I1,r1,q1⟩=>?_)
 exact cy (d a pins g b H1 _ I1 q1) λj k ⟨i,H2,I2,r2,q2⟩=>⟨x::i,H2,I2,.cons r1 r2,q2⟩
def Mw(t:TA):TE:=λc H Q=>t c H λa b=>a.length<=sizeLine/\∀p,b p=none->Q (.ref p) (upd b p (.tup a))
def Mx(t:TA):TE:=λc H Q=>t c H λa b=>a.length<=sizeLine/\∀p,b p=none->Q (.ref p) (upd b p (.lst a))
theorem D7{x1}(h:PA X es t):PE X (.Tuple es x1 pos) (Mw t):=by
 intro pins s c H Q I d;refine wpAny_Tuple_spliced (cy (h pos pins s c H _ I d) λf a ⟨g,H1,I1,r,z,q⟩=>⟨by rw[←r.length];exact z,?_⟩)
 have i:H1 a.heap.objs.size=none:=I1.hok.fresh (Nat.le_refl _);refine⟨.ref a.heap.objs.size,upd H1 a.heap.objs.size (.tup g),I1.laid (t':=a.toks) (λb u e=>Heap.get?_push_of_some _ e) (Nat.le_refl _) ?_,rfl,q _ i⟩
 exact⟨z,f,r,⟨_,Heap.get?_push_size _ rfl,rfl,_,rfl⟩⟩
theorem D9(h:PA X es t):PE X (.List es pos) (Mx t):=by
 intro pins s c H Q I d;refine wpAny_List_spliced (cy (h pos pins s c H _ I d) λf a ⟨g,H1,I1,r,z,q⟩=>⟨by rw[←r.length];exact z,?_⟩)
 have i:H1 a.heap.objs.size=none:=I1.hok.fresh (Nat.le_refl _);refine⟨.ref a.heap.objs.size,upd H1 a.heap.objs.size (.lst g),I1.laid (t':=a.toks) (λb u e=>Heap.get?_push_of_some _ e) (Nat.le_refl _) ?_,rfl,q _ i⟩
 exact⟨z,f,0,r,Heap.get?_push_size _ rfl⟩
end
abbrev Sp:=List V->Hp->VK->XK->Prop
abbrev rT:=List Env->Hp->Shared->XK->Value->Shared->Prop
structure sE(P:Program)(w:World)(K:PySem.W.Frag)(mg:Str->Option Value)(base:Heap)(A:Around)(outer:List Env)(s:Shared)(H:Hp):Prop where
 frames:A.frames=some outer
 mod:Mod K mg base
 bs:∀b o,base.get? b=some o->s.heap.get? b=some o/\H b=none
 CV:base.objs.size<=s.heap.objs.size
 kO:s.heap.FunFrames base outer
 DD:∀b∈frs outer,H b=none
 hok:i9 P w H s.heap
 bare:AllBare s.gens
def CE(outer:List Env)(P:Program)(w:World)(H:Hp)(s:Shared)(Q:VK)(u:Value)(a:Shared):Prop:=
 ∃v b,a.os=s.os/\AllBare a.gens/\Un (frs outer) [] H b s.heap a.heap/\i9 P w b a.heap/\RelV v u/\Q v b
def CR(CX:rT)(outer:List Env)(P:Program)(w:World)(H:Hp)(s:Shared)(Q:VK)(E:XK)(r:Result)(a:Shared):Prop:=
 match r with
 |.ok (.ret u)=>CE outer P w H s Q u a
 |.ok _=>False
 |.error e=>CX outer H s E e a
structure cQ(P:Program)(w:World)(K:PySem.W.Frag)(mg:Str->Option Value)(base:Heap)(CX:rT)(k:Nat)(f:Addr)(fd:FuncData)(ps:List Str)(sp:Sp):Prop where
 len:∀vs H Q E,sp vs H Q E->vs.length=ps.length
 run:∀(A:Around) (outer:List Env) (s:Shared) (H:Hp) (args:Args) (us:List Value) (vs:List V) (Q:VK) (E:XK),df k A->sE P w K mg base A outer s H->BindsTo s fd args (ps.zip us)->Vals vs us->sp vs H Q E ->
  codeAny (model P w) A (.call (.ref f) args) (CR CX outer P w H s Q E) s
theorem cQ.mono{P:Program}{w:World}{K:PySem.W.Frag}{mg:Str->Option Value}{base:Heap}{CX:rT}{j k:Nat}{f:Addr}{a:FuncData}{ps:List Str}{sp:Sp}(F:cQ P w K mg base CX j f a ps sp)(h:j<=k) :
  cQ P w K mg base CX k f a ps sp:=⟨F.len,λA outer s H args b c Q E d=>F.run A outer s H args b c Q E (d.mono h)⟩
theorem cQ.imp{P:Program}{w:World}{K:PySem.W.Frag}{mg:Str->Option Value}{base:Heap}{CX:rT}{k:Nat}{f:Addr}{b:FuncData}{ps:List Str}{sp a:Sp}(F:cQ P w K mg base CX k f b ps sp)
  (h:∀vs H Q E,a vs H Q E->sp vs H Q E):cQ P w K mg base CX k f b ps a:=
 ⟨λvs H Q E q=>F.len vs H Q E (h _ _ _ _ q),λA outer s H args c vs Q E d e g i j=>F.run A outer s H args c vs Q E d e g i (h _ _ _ _ j)⟩
theorem sE.make{P:Program}{w:World}{K:PySem.W.Frag}{mg:Str->Option Value}{base:Heap}{A:Around}{outer:List Env}{s:Shared}{H:Hp}(e:sE P w K mg base A outer s H)(C:Addr)(us:List Value)(a:List (Str×Value)) :
  sE P w K mg base (A.under (.builtin "type.__call__" ⟨.ref C::us,a⟩)) outer s H:=⟨by first|exact e.frames | (simpa[Around.under,Code.envs,Code.isFrame,pushEnvs]using e.frames),e.mod,e.bs,e.CV,e.kO,e.DD,e.hok,e.bare⟩
section
variable{X:Cx}{pins:List (Addr×Obj)}{σ:St}{H:Hp}{s s':Shared}
theorem Inv.env0(I:Inv X pins σ H s):sE X.prog X.w X.K X.mg X.base X.A X.stack s H:=
 ⟨I.ok.frames,I.ok.mod,I.bs,Nat.le_trans I.ok.CV I.sz,I.stack,I.ue,I.hok,I.bare⟩
theorem Inv.after{Q:VK}{u:Value}(I:Inv X pins σ H s)(h:CE X.stack X.prog X.w H s Q u s'):EP X pins σ Q u s':=by
 obtain⟨v,e,f,bare,i,a,r,q⟩:=h;obtain⟨j,g,d,t,c⟩:=s';obtain rfl:c=s.os:=f;exact⟨v,e,I.call (h':=j) (g':=g) (d':=d) (t':=t) (ch:=[]) i a bare (λb z=>absurd z (by simp)),r,q⟩
end
noncomputable def C5(sp:Sp)(a:List V)(E:XK)(t:TA):TE:=λb H Q=>t b H λc d=>sp (c++a) d Q E
noncomputable def C6(C:Addr)(m:Str)(sp:Sp)(b:List V)(E:XK)(f:TE)(t:TA):TE:=λc H Q=>f c H λx d=>∃a g e,x=.ref a/\d a=some (.ins C g e)/\e.lookup m=none /\
 t c d λh i=>sp (x::(h++b)) i Q E
def C7(C:Addr)(sp:Sp)(b:List V)(E:XK)(t:TA):TE:=λd H Q=>t d H λe c=>∀x a,c x=none->c a=none->a≠x ->
 sp (.ref x::(e++b)) (upd (upd c a (.own x)) x (.ins C a [])) (λv f=>v=.non/\Q (.ref x) f) E
def Binds(K:PySem.W.Frag)(b:FuncData)(ps:List Str)(ds:List Value):Prop:=
 ∀(s:Shared) (a:List Value),K.In s.heap->(a++ds).length=ps.length->BindsTo s b ⟨a,[]⟩ (ps.zip (a++ds))
theorem Binds.all{K:PySem.W.Frag}{a:FuncData}{ps:List Str}(h:∀us:List Value,us.length=ps.length->bindArgs a ⟨us,[]⟩=pure (ps.zip us)):Binds K a ps []:=λs us _ b=>by
 rw[List.append_nil]at b ⊢;exact .of_eq (h us b)
def Passes(CX:rT)(X:Cx)(E:XK):Prop:=∀(pins:List (Addr×Obj)) (b:St) (H:Hp) (s:Shared) (e:Value) (a:Shared),Inv X pins b H s->CX X.stack H s E e a->X.xe e a
section
variable{X:Cx}{CX:rT}{k:Nat}{f C:Addr}{fd:FuncData}{ps:List Str}{sp:Sp}{oV:List V}{ds:List Value}{E:XK}{x m:Str}{p pos apos:Pos}{e o:Expr}{es:List Expr}{ta:TE}{t:TA}
theorem oW{pins:List (Addr×Obj)}{b:St}{H:Hp}{s:Shared}{Q:VK}{us:List Value}{vs:List V}(F:cQ X.prog X.w X.K X.mg X.base CX k f fd ps sp)(d:df k X.A)(g:Binds X.K fd ps ds)(i:Vals oV ds)(j:Passes CX X E)
  (I:Inv X pins b H s) (r:Vals vs us) (h:sp (vs++oV) H Q E):wpAny (model X.prog X.w) X.A (call (.ref f) us) (EP X pins b Q) X.xe s:=by
 have c:Vals (vs++oV) (us++ds):=r.append i;have l:(us++ds).length=ps.length:=by rw[←c.length];exact F.len _ _ _ _ h
 refine wpAny_call (codeAny_mono (F.run X.A X.stack s H ⟨us,[]⟩ (us++ds) (vs++oV) Q E d I.env0 (g s us I.jq l) c h) λr m a=>?_)
 cases r with
 |error e=>exact j pins b H s e m I a
 |ok fl=>
  cases fl with
  |ret u=>exact I.after a
  |next=>exact False.elim a
  |brk=>exact False.elim a
  |cont=>exact False.elim a
theorem ui(F:cQ X.prog X.w X.K X.mg X.base CX k f fd ps sp)(c:df k X.A)(d:Gl X x)(g:X.mg x=some (.ref f))(i:PySem.W.keepIn X.K (.ref f)=true)(j:Binds X.K fd ps ds)(l:Vals oV ds)(m:Passes CX X E)
  (n:PA X (e::es) t) (a:(x==("__debug__":Str))=false:=by decide) (o:starEach (e::es) X.env=(false,eval e X.env)::starEach es X.env:=by rfl) (b:(backTo pos (starEach es X.env)).any (·.1)=false:=by rfl) :
  PE X (.Call (.Name x p) (e::es) [] pos) (C5 sp oV E t):=by
 intro pins s u H Q I h;refine wpAny_Call_Name_kw (jt I d g ?_ a);refine PySem.W.callWith_K (h₀:=X.base) I.ok.mod.Ga i (cy (n pos pins s u H _ I h) λy z ⟨B,H1,I1,r,q⟩=>⟨I1.jq,?_⟩) o b
 exact oW F c j l m I1 r q
theorem xm(F:cQ X.prog X.w X.K X.mg X.base CX k f fd ps sp)(b:df k X.A)(c:Gl X x)(d:X.mg x=some (.ref f))(e:PySem.W.keepIn X.K (.ref f)=true)(g:Binds X.K fd ps ds)(i:Vals oV ds)(j:Passes CX X E)
  (a:(x==("__debug__":Str))=false:=by decide):PE X (.Call (.Name x p) [] [] pos) (C5 sp oV E xl):=by
 intro pins s l H Q I h;refine wpAny_Call_Name_kw (jt I c d ?_ a);exact PySem.W.callWith_K0 I.jq e (oW (us:=[]) F b g i j I .nil h)
theorem zV{pl:Sem Bool}(n:PE X o ta)(c:nF X.K C)(g:Meth X.K C m f)(F:cQ X.prog X.w X.K X.mg X.base CX k f fd ps sp)(p:df k X.A)(y:Binds X.K fd ps ds)(z:Vals oV ds)(B:Passes CX X E)(D:PA X (e::es) t)
  (b:starEach (e::es) X.env=(false,eval e X.env)::starEach es X.env:=by rfl) (d:(backTo pos (starEach es X.env)).any (·.1)=false:=by rfl)
  (G:eval (.Call (.Attribute o m apos) (e::es) [] pos) X.env=(do
   let i ←eval o X.env
   standAt apos.atName
   let (f,first) ←holding [i] (getMethod i m pl)
   callWith pos f first (backTo pos (starEach (e::es) X.env)) (backToKw pos (keywordEach [] X.env))):=by rfl) :
  PE X (.Call (.Attribute o m apos) (e::es) [] pos) (C6 C m sp oV E ta t):=by
 intro pins s j H Q I h;refine PySem.W.methodCall_KW (pl:=pl) (cy (n pins s j H _ I h) λu J ⟨x,H1,I1,rx,a,dx,fs,ex,ea,l,q⟩=>?_) G
 subst ex;obtain rfl:u=Value.ref a:=rx;refine jb I1 ea c g l ?_;refine PySem.W.callWith_K (first:=[.ref a]) (h₀:=X.base) I.ok.mod.Ga g.kp (cy (D pos pins J j H1 _ I1 q) λus L ⟨vs,H2,I2,r,q2⟩=>⟨I2.jq,?_⟩) b d
 exact oW (us:=.ref a::us) (vs:=.ref a::vs) F p y z B I2 (.cons rfl r) q2
theorem xn{pl:Sem Bool}(e:PE X o ta)(c:nF X.K C)(b:Meth X.K C m f)(F:cQ X.prog X.w X.K X.mg X.base CX k f fd ps sp)(g:df k X.A)(i:Binds X.K fd ps ds)(j:Vals oV ds)(n:Passes CX X E)
  (p:eval (.Call (.Attribute o m apos) [] [] pos) X.env=(do
   let d ←eval o X.env
   standAt apos.atName
   let (f,first) ←holding [d] (getMethod d m pl)
   callWith pos f first (backTo pos (starEach [] X.env)) (backToKw pos (keywordEach [] X.env))):=by rfl) :
  PE X (.Call (.Attribute o m apos) [] [] pos) (C6 C m sp oV E ta xl):=by
 intro pins s r H Q I h;refine PySem.W.methodCall_KW (pl:=pl) (cy (e pins s r H _ I h) λu t ⟨x,H1,I1,rx,a,dx,fs,ex,ea,l,q⟩=>?_) p
 subst ex;obtain rfl:u=Value.ref a:=rx;refine jb I1 ea c b l ?_;exact PySem.W.callWith_K0 (first:=[.ref a]) I1.jq b.kp (oW (us:=[.ref a]) (vs:=[.ref a]) F g i j n I1 (.cons rfl .nil) q)
structure Mk(K:PySem.W.Frag)(C f:Addr):Prop where
 makes:PySem.W.makesIn K C=true
 init:PySem.W.findIn K (.ref C) "__init__"=some (some (.ref f))
 fn:PySem.W.isFn K (.ref f)=true
 kp:PySem.W.keepIn K (.ref C)=true
theorem qA{pins:List (Addr×Obj)}{d:St}{H:Hp}{s:Shared}{Q:VK}{us:List Value}{vs:List V}(M:Mk X.K C f)(F:cQ X.prog X.w X.K X.mg X.base CX k f fd ps sp)(j:df (k+1) X.A)(l:Binds X.K fd ps ds)(m:Vals oV ds)
  (n:Passes CX X E) (I:Inv X pins d H s) (r:Vals vs us)
  (h:∀x b,H x=none->H b=none->b≠x->sp (.ref x::(vs++oV)) (upd (upd H b (.own x)) x (.ins C b [])) (λv o=>v=.non/\Q (.ref x) o) E) :
  wpAny (model X.prog X.w) X.A (call (.ref C) us) (EP X pins d Q) X.xe s:=by
 have g:=h (s.heap.objs.size+1) s.heap.objs.size (I.hok.fresh (Nat.le_succ _)) (I.hok.fresh (Nat.le_refl _)) (Nat.ne_of_lt (Nat.lt_succ_self _));have c:=Inv.made (C:=C) I;have i:Vals (V.ref (s.heap.objs.size+1)::(vs++oV)) (Value.ref (s.heap.objs.size+1)::(us++ds)):=.cons rfl (r.append m)
 have p:(Value.ref (s.heap.objs.size+1)::us++ds).length=ps.length:=by
  have e:=i.length;rw[F.len _ _ _ _ g]at e;exact e.symm
 refine wpAny_call (xk (f:=f) I.jq M.makes M.init (beq_iff_eq.mp M.fn) (codeAny_mono (F.run _ X.stack _ _ ⟨Value.ref (s.heap.objs.size+1)::us,[]⟩ (Value.ref (s.heap.objs.size+1)::(us++ds)) _ _ E (j.make C us [])
  (c.env0.make C us []) (l _ (Value.ref (s.heap.objs.size+1)::us) c.jq p) i g) λr q a=>?_))
 cases r with
 |error e=>exact n pins d _ _ e q c a
 |ok fl=>
  cases fl with
  |ret u=>
   obtain⟨v,t,y,z,B,D⟩:=c.after a;subst B;exact⟨z,⟨V.ref (s.heap.objs.size+1),t,y,rfl,D⟩⟩
  |next=>exact False.elim a
  |brk=>exact False.elim a
  |cont=>exact False.elim a
theorem zW(M:Mk X.K C f)(F:cQ X.prog X.w X.K X.mg X.base CX k f fd ps sp)(c:df (k+1) X.A)(d:Gl X x)(g:X.mg x=some (.ref C))(i:Binds X.K fd ps ds)(j:Vals oV ds)(l:Passes CX X E)
  (m:PA X (e::es) t) (a:(x==("__debug__":Str))=false:=by decide) (n:starEach (e::es) X.env=(false,eval e X.env)::starEach es X.env:=by rfl) (b:(backTo pos (starEach es X.env)).any (·.1)=false:=by rfl) :
  PE X (.Call (.Name x p) (e::es) [] pos) (C7 C sp oV E t):=by
 intro pins s o H Q I h;refine wpAny_Call_Name_kw (jt I d g ?_ a);refine PySem.W.callWith_K (h₀:=X.base) I.ok.mod.Ga M.kp (cy (m pos pins s o H _ I h) λu y ⟨z,H1,I1,r,q⟩=>⟨I1.jq,?_⟩) n b
 exact qA M F c i j l I1 r q
theorem xo(M:Mk X.K C f)(F:cQ X.prog X.w X.K X.mg X.base CX k f fd ps sp)(b:df (k+1) X.A)(c:Gl X x)(d:X.mg x=some (.ref C))(e:Binds X.K fd ps ds)(g:Vals oV ds)(i:Passes CX X E)
  (a:(x==("__debug__":Str))=false:=by decide):PE X (.Call (.Name x p) [] [] pos) (C7 C sp oV E xl):=by
 intro pins s j H Q I h;refine wpAny_Call_Name_kw (jt I c d ?_ a);exact PySem.W.callWith_K0 I.jq M.kp (qA (us:=[]) M F b e g i I .nil h)
end
def PK(X:Cx)(a:List Keyword)(t:TA):Prop:=
 ∀(b:Pos) (pins:List (Addr×Obj)) (s:Shared) (c:St) (H:Hp) (Q:List V->Hp->Prop),Inv X pins c H s->t c H Q->wpAny (model X.prog X.w) X.A (evalAll ((backToKw b (keywordEach a X.env)).map (·.2))) (AP X pins c Q) X.xe s
section
variable{X:Cx}{CX:rT}{k:Nat}{f C:Addr}{fd:FuncData}{ps ks:List Str}{sp:Sp}{E:XK}{x m:Str}{p pos apos vF:Pos}{e o:Expr}{es:List Expr}{kws:List Keyword}{te ta:TE}{t tk:TA}{nm:Option Str}
theorem D_:PK X [] xl:=λ_ _ _ _ H Q I h=>wpAny_evalAll_nil ⟨[],H,I,.nil,h⟩
theorem zX(c:PE X e te)(d:PK X kws t):PK X (⟨nm,e,vF⟩::kws) (C4 te t):=by
 intro a pins s b H Q I h
 show wpAny _ _ (evalAll ((do let v ←eval e X.env;standAt a;pure v)::(backToKw a (keywordEach kws X.env)).map (·.2))) _ _ s
 refine wpAny_evalAll_cons (wpAny_bind (cy (c pins s b H _ I h) λu f ⟨x,H1,I1,r1,q1⟩=>wpAny_bind (wpAny_standAt (wpAny_pure ?_))))
 exact cy (d a pins f b H1 _ I1 q1) λi j ⟨g,H2,I2,r2,q2⟩=>⟨x::g,H2,I2,.cons r1 r2,q2⟩
structure jZ(K:PySem.W.Frag)(fd:FuncData)(ps ks:List Str)(g:List Value->List Value->List Value)(gV:List V->List V->List V):Prop where
 to:∀(s:Shared) (us ws:List Value),K.In s.heap->(g us ws).length=ps.length->BindsTo s fd ⟨us,ks.zip ws⟩ (ps.zip (g us ws))
 rel:∀{vs:List V}{us:List Value}{zs:List V}{ws:List Value},Vals vs us->Vals zs ws->Vals (gV vs zs) (g us ws)
variable{g:List Value->List Value->List Value}{gV:List V->List V->List V}
theorem zY{pins:List (Addr×Obj)}{c:St}{H:Hp}{s:Shared}{Q:VK}{us a:List Value}{vs zs:List V}(F:cQ X.prog X.w X.K X.mg X.base CX k f fd ps sp)(j:df k X.A)(d:jZ X.K fd ps ks g gV)(l:Passes CX X E)
  (I:Inv X pins c H s) (r:Vals vs us) (m:Vals zs a) (h:sp (gV vs zs) H Q E):wpAny (model X.prog X.w) X.A (call (.ref f) us (ks.zip a)) (EP X pins c Q) X.xe s:=by
 have i:=d.rel r m;have n:(g us a).length=ps.length:=by rw[←i.length];exact F.len _ _ _ _ h
 refine wpAny_call (codeAny_mono (F.run X.A X.stack s H ⟨us,ks.zip a⟩ (g us a) (gV vs zs) Q E j I.env0 (d.to s us a I.jq n) i h) λr o b=>?_)
 cases r with
 |error e=>exact l pins c H s e o I b
 |ok fl=>
  cases fl with
  |ret u=>exact I.after b
  |next=>exact False.elim b
  |brk=>exact False.elim b
  |cont=>exact False.elim b
end
structure oZ(N P:List Str)(sc:Scope):Prop where
 kind:sc.kind=.function
 co:sc.isCoroutine=false
 gen:sc.isGenerator=false
 nd:N.Nodup
 pre:N.take P.length=P
 par:∀x∈P,sc.names.lookup x=some .local\/sc.names.lookup x=some .cell
 Ea:∀y∈sc.names,y.2≠.free
theorem nV{kindOf:Str->Option NameKind}{x:Str}:∀{binds:List (Str×Value)}{m:Str->Option Value},(∀v,(x,v)∉binds)->bindL kindOf binds m x=m x
 |[],_,_=>rfl
 | (n,v)::r,m,h=>by
  unfold bindL;rw[nV λw a=>h w (List.mem_cons_of_mem _ a)]
  split
  .have:x≠n:=by rintro rfl;exact h v List.mem_cons_self
   simp[this]
  .rfl
theorem nW{kindOf:Str->Option NameKind}{x:Str}:∀{binds:List (Str×Value)}{m:Str->Option Value},(∀v,(x,v)∉binds)->bindC kindOf binds m x=m x
 |[],_,_=>rfl
 | (n,v)::r,m,h=>by
  unfold bindC;rw[nW λw a=>h w (List.mem_cons_of_mem _ a)]
  split
  .rfl
  .have:x≠n:=by rintro rfl;exact h v List.mem_cons_self
   simp[this]
theorem nX{kindOf:Str->Option NameKind}{x:Str}{v:Value}:∀{P:List Str}{vs:List Value}{i:Nat}{m:Str->Option Value},P.Nodup->P[i]?=some x->vs[i]?=some v->kindOf x=some .local ->
  bindL kindOf (P.zip vs) m x=some v
 |[],_,_,_,_,h,_,_=>by simp at h
 |_::_,[],_,_,_,_,h,_=>by simp at h
 |p::P,w::vs,0,m,a,h1,h2,b=>by
  simp at h1 h2;subst h1;subst h2
  show bindL kindOf ((p,w)::P.zip vs) m p=_
  unfold bindL;rw[nV λv c=>(List.nodup_cons.mp a).1 (List.of_mem_zip c).1,if_pos b]
  simp
 |p::P,w::vs,i+1,m,a,h1,h2,b=>by
  show bindL kindOf ((p,w)::P.zip vs) m x=_
  unfold bindL;exact nX (i:=i) (List.nodup_cons.mp a).2 (by simpa using h1) (by simpa using h2) b
theorem nY{kindOf:Str->Option NameKind}{x:Str}{v:Value}:∀{P:List Str}{vs:List Value}{i:Nat}{m:Str->Option Value},P.Nodup->P[i]?=some x->vs[i]?=some v->kindOf x≠some .local ->
  bindC kindOf (P.zip vs) m x=some v
 |[],_,_,_,_,h,_,_=>by simp at h
 |_::_,[],_,_,_,_,h,_=>by simp at h
 |p::P,w::vs,0,m,a,h1,h2,b=>by
  simp at h1 h2;subst h1;subst h2
  show bindC kindOf ((p,w)::P.zip vs) m p=_
  unfold bindC;rw[nW λv c=>(List.nodup_cons.mp a).1 (List.of_mem_zip c).1,if_neg b]
  simp
 |p::P,w::vs,i+1,m,a,h1,h2,b=>by
  show bindC kindOf ((p,w)::P.zip vs) m x=_
  unfold bindC;exact nY (i:=i) (List.nodup_cons.mp a).2 (by simpa using h1) (by simpa using h2) b
noncomputable def start(N:List Str)(vs:List V):St:=vs.map some++List.replicate (N.length - vs.length) none
noncomputable def vG(CX:rT)(P:Program)(w:World)(K:PySem.W.Frag)(mg:Str->Option Value)(base:Heap)(N:List Str)(qual:Str)(scope:Scope)(f:Addr)(b:Value)(A:Around)(outer:List Env)(s:Shared)(H:Hp)(E:XK):Cx where
 prog:=P
 w:=w
 K:=K
 mg:=mg
 base:=base
 A:=A.deeper (envOfC qual scope s.heap.objs.size f b)
 N:=N
 s₀:=s
 H₀:=H
 env:=envOfC qual scope s.heap.objs.size f b
 outer:=outer
 stack:=envOfC qual scope s.heap.objs.size f b::outer
 ex:=[]
 calm:=true
 fn:=λ_=>true
 pn:=[]
 xe:=λe c=>wpAny (model P w) (A.deeper (envOfC qual scope s.heap.objs.size f b)) (leaving (envOfC qual scope s.heap.objs.size f b) e) (λ_ a=>CX outer H s E e a) (λd a=>CX outer H s E d a) c
theorem qB{a:Scope}{n:Nat}{x:Str}(h:a.names.lookup x=some .cell):∃c,(cellsFrom n a.names []).lookup x=some c:=by
 have q:=PySem.W.cellsFrom_some a.names n [] (.inl h);exact Option.isSome_iff_exists.mp q
theorem vH{CX:rT}{P:Program}{w:World}{K:PySem.W.Frag}{mg:Str->Option Value}{base:Heap}{N ps:List Str}{qual:Str}{scope:Scope}{f:Addr}{o:Value}{A:Around}{outer:List Env}{s C:Shared}{H:Hp}{E:XK}{us:List Value}{vs:List V}
  (S:oZ N ps scope) (I:A.handled=none) (g:sE P w K mg base A outer s H) (O:vs.length=ps.length) (r:Vals vs us)
  (x:InCallC s s.heap.objs.size (bindL (envOfC qual scope s.heap.objs.size f o).kindOf (ps.zip us) λ_=>none) (cellsFrom (s.heap.objs.size+1) scope.names []) (bindC (envOfC qual scope s.heap.objs.size f o).kindOf (ps.zip us) λ_=>none) C) :
  Inv (vG CX P w K mg base N qual scope f o A outer s H E) [] (start N vs) H C:=by
 have J:ps.length<=N.length:=by have:=congrArg List.length S.pre;rw[List.length_take]at this;omega
 obtain⟨t,Q,rfl,D⟩:=x.done;have j:∀b:Addr,b∉(vG CX P w K mg base N qual scope f o A outer s H E).ex:=λb z=>absurd (show b∈([]:List Addr)from z) (by simp)
 refine⟨⟨g.mod,S.kind,rfl,rfl,Nat.le_refl _,λy z c t d=>?_,λy hy=>?_,λy c _ h=>?_,λ_=>I,Around.frames_deeper g.frames,.inr ⟨rfl,rfl⟩,λb z=>absurd z (j b),g.bs,g.CV,λb _ _=>j b,λb z=>absurd z (j b),g.kO,g.DD⟩,
  rfl,g.bare,Un.kept D,⟨_,x.toInCall.ns,λi y v t d R=>?_⟩,λy c h=>⟨_,x.cell y c h⟩,g.hok.fresh (Nat.le_refl _),λy c h=>?_,λp l=>absurd (show p∈([]:List (Addr×Obj))from l) (by simp),g.hok.kept D,?_⟩
 .exact name_of_addr x.apart (PySem.mem_of_lookup t) (PySem.mem_of_lookup d)
 .have hy:scope.names.lookup y=some .cell\/scope.names.lookup y=some .free:=hy
  rcases hy with hy|hy
  .exact qB hy
  .exact absurd rfl (S.Ea _ (PySem.mem_of_lookup hy))
 .exact Nat.le_of_lt (x.above y c (PySem.mem_of_lookup h))
 .have B:i<vs.length:=by
   unfold start at d
   by_cases B:i<vs.length
   .exact B
   .rw[List.getElem?_append_right (by simpa using B)]at d
    rw[List.getElem?_replicate]at d;split at d<;>cases d
  have L:vs[i]?=some v:=by
   unfold start at d;rw[List.getElem?_append_left (by simpa using B),List.getElem?_map]at d
   cases e:vs[i]? with
   |none=>rw[e]at d;cases d
   |some a=>rw[e]at d;cases d;rfl
  obtain⟨u,F,M⟩:=r.get L
  have l:ps[i]?=some y:=by
   rw[←S.pre,List.getElem?_take_of_lt (by omega)];exact t
  have m:ps.Nodup:=by rw[←S.pre];exact S.nd.sublist (List.take_sublist _ _)
  refine⟨u,M,?_⟩;rcases S.par y (List.mem_of_getElem? l)with k|k
  .exact .inl ⟨k,nX m l F k⟩
  .obtain⟨c,e⟩:=qB (n:=s.heap.objs.size+1) k
   refine .inr ⟨.inl k,c,e,?_⟩;have q:=x.cell y c e;rw[nY m l F (by show scope.names.lookup y≠_;rw[k];decide)]at q
   exact q
 .have G:=g.hok.fresh (Nat.le_of_lt (x.above y c (PySem.mem_of_lookup h)))
  exact⟨.inl G,λ_=>G⟩
 .unfold start
  show _=N.length
  rw[List.length_append,List.length_map,List.length_replicate];omega
theorem GV{CX:rT}{P:Program}{w:World}{K:PySem.W.Frag}{mg:Str->Option Value}{base:Heap}{k:Nat}{f:Addr}{name qual:Str}{params:Arguments}{body:List Stmt}{scope:Scope}{M kV j O a ct oc:Value}{R X:Option Addr}
  {B:Array (Option Value)}{N ps:List Str}{sp:Sp} (Y:K.lookup f=some ⟨oc,X,.func (PySem.W.fnOf name qual params body scope M kV j O R a ct),B⟩) (C:PySem.W.codeIn K a qual=true) (S:oZ N ps scope)
  (l:∀vs H Q E,sp vs H Q E->vs.length=ps.length)
  (g:∀(A:Around) (outer:List Env) (s:Shared) (H:Hp) (vs:List V) (Q:VK) (E:XK),df k (A.deeper (envOfC qual scope s.heap.objs.size f a))->sp vs H Q E ->
   ∃t,kP (vG CX P w K mg base N qual scope f a A outer s H E) body t/\t {nx:=λ_ d=>Q .non d,rt:=Q} (start N vs) H) :
  cQ P w K mg base CX (k+1) f (PySem.W.fnOf name qual params body scope M kV j O R a ct) ps sp:=by
 refine⟨l,λA outer s H args Z vs Q E D m hb r p=>?_⟩
 have hl:=l _ _ _ _ p;have T:K.In s.heap:=m.mod.Ga.keeps λb o e=>(m.bs b o e).1
 have F:s.heap.NoLimit:=m.mod.nolimit.keeps λb o e=>(m.bs b o e).1
 have h:∀y∈ps.zip Z,scope.names.lookup y.1=some .local\/(scope.names.lookup y.1=some .cell/\((cellsFrom (s.heap.objs.size+1) scope.names []).lookup y.1).isSome=true):=λ⟨n,v⟩ hy=>by
  rcases S.par n (List.of_mem_zip hy).1 with q|q
  .exact .inl q
  .exact .inr ⟨q,PySem.W.cellsFrom_some _ _ _ (.inl q)⟩
 refine codeAny_call_function D.depth (T _ _ Y) rfl S.co S.gen rfl (PySem.W.codeRec_of T C) (hb _ _ _ _ ?_);refine wpAny_newFunctionEnv_cells S.kind h λa0 he U x=>?_
 subst he;refine⟨F.keeps x.toInCall.keep,codeAny_func ?_⟩;obtain⟨t,ht,hq⟩:=g A outer s H vs Q E (D.deeper _) p;have I:Inv (vG CX P w K mg base N qual scope f a A outer s H E) [] (start N vs) H U:=vH S D.hd m hl r x;refine wpAny_mono (ht [] U (start N vs) H _ I hq) (λfl G i=>?_) λe G i=>i
 have z:∀{c:St}{d:Hp}{v:V}{u:Value},Inv (vG CX P w K mg base N qual scope f a A outer s H E) [] c d G->RelV v u->Q v d->CE outer P w H s Q u G:=
  λ{c d v u} J L q=>⟨v,d,J.os,J.bare,J.base,J.hok,L,q⟩
 cases fl with
 |ret u=>
  obtain⟨v,c,d,J,L,q⟩:=i;exact z J L q
 |next=>
  obtain⟨c,d,J,q⟩:=i;exact z (v:=V.non) (u:=Value.none) J rfl q
 |brk=>
  obtain⟨_,_,_,q⟩:=i;exact False.elim q
 |cont=>
  obtain⟨_,_,_,q⟩:=i;exact False.elim q
section
variable{X:Cx}{x:Str}{p pos:Pos}{e:Expr}{es:List Expr}{t:TA}{id T:String}{r:List V->Hp->VK->Prop}
noncomputable def QZ(r:List V->Hp->VK->Prop)(t:TA):TE:=λa H Q=>t a H λb c=>r b c Q
theorem qD(d:fj X (.builtin id) r)(f:Gl X x)(g:X.mg x=none)(i:bootBuiltins x=some (.builtin id))(j:PA X (e::es) t)(k:x≠"__name__":=by decide)(a:(x==("__debug__":Str))=false:=by decide)
  (l:starEach (e::es) X.env=(false,eval e X.env)::starEach es X.env:=by rfl) (b:(backTo pos (starEach es X.env)).any (·.1)=false:=by rfl):PE X (.Call (.Name x p) (e::es) [] pos) (QZ r t):=by
 intro pins s c H Q I h;refine wpAny_Call_Name_kw (lO I f g i ?_ k a);exact PyProof.Rows.callWith_builtin1 (cy (j pos pins s c H _ I h) λm n ⟨o,H1,I1,r1,q1⟩=>d pins n c H1 o m Q I1 r1 q1) l b
theorem vI(d:fj X (.type T) r)(f:Gl X x)(g:X.mg x=none)(i:bootBuiltins x=some (.type T))(j:PA X (e::es) t)(k:x≠"__name__":=by decide)(a:(x==("__debug__":Str))=false:=by decide)
  (l:starEach (e::es) X.env=(false,eval e X.env)::starEach es X.env:=by rfl) (b:(backTo pos (starEach es X.env)).any (·.1)=false:=by rfl):PE X (.Call (.Name x p) (e::es) [] pos) (QZ r t):=by
 intro pins s c H Q I h;refine wpAny_Call_Name_kw (lO I f g i ?_ k a);exact PyProof.Rows.callWith_type1 (cy (j pos pins s c H _ I h) λm n ⟨o,H1,I1,r1,q1⟩=>d pins n c H1 o m Q I1 r1 q1) l b
end
end L2
namespace HT
open PySem PyProof.Rows
section
open PySem.SeqAt
open PySem.AutoSeq1 (wpAny_loadPart')
open PySem.MeetsSeq PySem.MeetsSeq2 PySem.MeetsSeq3
end
section
variable{prog:Program}{w:World}{A:Around}{E:Value->Shared->Prop}{s:Shared}
noncomputable def iS(n d:Nat):Option Int->Nat
 |none=>d
 |some v=>if v<0 then (v+(n:Int)).toNat else min v.toNat n
theorem lR(n d:Nat):iS n d none=d:=rfl
theorem jx(n d k:Nat):iS n d (some (k:Int))=min k n:=by
 show(if (k:Int)<0 then ((k:Int)+(n:Int)).toNat else min (k:Int).toNat n)=min k n
 rw[if_neg (by omega),Int.toNat_natCast]
theorem sF(n d:Nat)(b:d<=n)(o:Option Int):iS n d o<=n:=by
 cases o with
 |none=>exact b
 |some v=>
  show(if v<0 then (v+(n:Int)).toNat else min v.toNat n)<=n
  by_cases a:v<0
  .rw[if_pos a];omega
  .rw[if_neg a];exact Nat.min_le_right _ _
end
end HT
namespace L2
open PySem PySem.Spec PyProof.Rows
abbrev TO:=St->Hp->(Option Int->Hp->Prop)->Prop
def PO(X:Cx)(e:Option Expr)(t:TO):Prop:=
 ∀(pins:List (Addr×Obj)) (s:Shared) (a:St) (H:Hp) (Q:Option Int->Hp->Prop),Inv X pins a H s->t a H Q ->
  wpAny (model X.prog X.w) X.A (evalPart e X.env) (λu c=>∃o b,Inv X pins a b c/\IsPart u o/\Q o b) X.xe s
noncomputable def uj:TO:=λ_ H Q=>Q none H
noncomputable def GW(t:TE):TO:=λa H Q=>t a H λx b=>∃i,x=.int i/\Q (some i) b
theorem intsAre_of{ns:List Int}:∀{us:List Value},Vals (ns.map V.int) us->IntsAre us ns:=by
 induction ns with
 |nil=>intro us r;rw[List.map_nil]at r;cases r;exact .nil
 |cons n ns a=>
  intro us r;rw[List.map_cons]at r;cases r with
  |cons b c=>
   obtain⟨t,e⟩:=b;subst e;exact .cons n t (a c)
section
variable{X:Cx}{e:Expr}{te:TE}{lo hi:Option Expr}{tl th:TO}{pos p2:Pos}
theorem zZ:PO X none uj:=by
 intro pins s a H Q I h;rw[evalPart_none];exact wpAny_pure ⟨none,H,I,.none,h⟩
theorem z4(h:PE X e te):PO X (some e) (GW te):=by
 intro pins s a H Q I b;rw[evalPart_some];refine cy (h pins s a H _ I b) λu c ⟨x,H1,I1,r1,q1⟩=>?_
 obtain⟨i,rfl,q⟩:=q1;obtain⟨t,rfl⟩:=r1;exact⟨some i,H1,I1,.int i t,q⟩
def Eb(X:Cx)(r:V->Option Int->Option Int->Hp->VK->Prop):Prop:=
 ∀(pins:List (Addr×Obj)) (s:Shared) (a:St) (H:Hp) (x:V) (v b c:Value) (d e:Option Int) (f:Addr) (Q:VK),Inv X pins a H s->RelV x v->s.heap.IsSliceOf f b c .none->IsPart b d->IsPart c e->r x d e H Q ->
  ∃T g,typeLookup (.type T) "__getitem__"=pure (some (.builtin g))/\s.TypeIs v T/\wpAny (model X.prog X.w) X.A (getItem v (.ref f)) (EP X pins a Q) X.xe s
theorem Eb.or{r c:V->Option Int->Option Int->Hp->VK->Prop}(h:Eb X r)(h':Eb X c):Eb X (λx a b H Q=>r x a b H Q\/c x a b H Q):=by
 intro pins s d H x v e f a b g Q I i j k l q;rcases q with q|q
 .exact h pins s d H x v e f a b g Q I i j k l q
 .exact h' pins s d H x v e f a b g Q I i j k l q
noncomputable def Tc(r:V->Option Int->Option Int->Hp->VK->Prop)(b:TE)(tl c:TO):TE:=λa H Q=>b a H λx d=>tl a d λl e=>c a e λu f=>r x l u f Q
theorem ic{r:V->Option Int->Option Int->Hp->VK->Prop}(g:Eb X r)(i:PE X e te)(j:PO X lo tl)(k:PO X hi th):PE X (.Subscript e (.Slice lo hi none p2) pos) (Tc r te tl th):=by
 intro pins s a H Q I h;refine Subscript_ (cy (i pins s a H _ I h) λv m ⟨x,H1,I1,n,q1⟩=>?_)
 refine wpAny_Slice (cy (j pins m a H1 _ I1 q1) λc o ⟨l,H2,I2,p,q2⟩=>cy (k pins o a H2 _ I2 q2) λd s3 ⟨u,f,t,y,z⟩=>?_)
 rw[evalPart_none];refine wpAny_pure ?_;have B:Inv X pins a f {s3 with heap:=s3.heap.push {cls:=.type "slice",data:=.fields #[c,d,.none]} }:=t.kept (t':=s3.toks) λb F q=>Heap.get?_push_of_some _ q
 obtain⟨T,G,C,D,E⟩:=g pins {s3 with heap:=s3.heap.push {cls:=.type "slice",data:=.fields #[c,d,.none]} } a f x v c d l u s3.heap.objs.size Q B n (Heap.IsSliceOf.new ..) p y z
 show wpAny (model X.prog X.w) X.A (subscriptTail e (.Slice lo hi none p2) v (.ref s3.heap.objs.size)) (EP X pins a Q) X.xe {s3 with heap:=s3.heap.push {cls:=.type "slice",data:=.fields #[c,d,.none]} }
 exact tail_any (ops:=[.ref s3.heap.objs.size,v]) D C E (by with_unfolding_all rfl)
def vJ(xs:List V)(a b:Option Int):List V:=(xs.drop (HT.iS xs.length 0 a)).take (HT.iS xs.length xs.length b - HT.iS xs.length 0 a)
theorem qE(xs:List V)(a b:Option Int):(vJ xs a b).length<=xs.length:=by
 unfold vJ;rw[List.length_take,List.length_drop];omega
end
noncomputable def zF(n:Nat)(i:Int):Option Nat:=if 0<=i then (if i<n then some i.toNat else none)else if -(n:Int)<=i then some (i+n).toNat else none
def kx{a:Type}(xs:List a)(i:Int):Option a:=(zF xs.length i).bind λj=>xs[j]?
theorem z5{n:Nat}{i:Int}{j:Nat}(h:zF n i=some j):seqIndex? i n=some j/\j<n /\ -(n:Int)<=i/\i<n:=by
 unfold zF at h
 by_cases b:0<=i
 .rw[if_pos b]at h
  by_cases a:i<n
  .rw[if_pos a]at h
   have e:i.toNat=j:=Option.some.inj h;exact⟨by rw[seqIndex_of b a,e],by omega,by omega,a⟩
  .rw[if_neg a]at h;cases h
 .rw[if_neg b]at h
  by_cases a : -(n:Int)<=i
  .rw[if_pos a]at h
   have e:(i+n).toNat=j:=Option.some.inj h;exact⟨by rw[seqIndex_neg (by omega) a,e],by omega,a,by omega⟩
  .rw[if_neg a]at h;cases h
theorem o8{a:Type}{xs:List a}{i:Int}{v:a}(h:kx xs i=some v):∃j,seqIndex? i xs.length=some j/\xs[j]?=some v/\j<xs.length /\ -(xs.length:Int)<=i/\i<xs.length:=by
 unfold kx at h;cases e:zF xs.length i with
 |none=>rw[e]at h;cases h
 |some j=>
  rw[e]at h;obtain⟨b,c,d,f⟩:=z5 e;exact⟨j,b,h,c,d,f⟩
theorem cZ{a:Type}{xs:List a}{j:Nat}{v:a}(h:xs[j]?=some v):kx xs (j:Int)=some v:=by
 have b:j<xs.length:=(List.getElem?_eq_some_iff.mp h).1
 have e:zF xs.length (j:Int)=some j:=by
  unfold zF;rw[if_pos (by omega),if_pos (by omega)];simp
 unfold kx;rw[e];exact h
theorem xp{a:Type}(xs:List a)(v:a):kx (xs++[v]) (-1)=some v:=by
 have b:(xs++[v]).length=xs.length+1:=by simp
 have e:zF (xs++[v]).length (-1)=some xs.length:=by
  unfold zF;rw[b,if_neg (by decide),if_pos (by omega)]
  congr 1
  omega
 unfold kx;rw[e]
 show(xs++[v])[xs.length]?=some v
 simp
def uk(b:Expr):Prop:=∀o i,subscripted b false o i=operate [o,i] (getItem o i)
def z6(X:Cx)(r:R2):Prop:=
 ∀(b a:Expr) (pins:List (Addr×Obj)) (s:Shared) (c:St) (H:Hp) (x y:V) (v u:Value) (Q:VK),Inv X pins c H s->RelV x v->RelV y u->r x y H Q ->
  subscripted a false v u=operate [v,u] (getItem v u)->wpAny (model X.prog X.w) X.A (subscriptTail b a v u) (EP X pins c Q) X.xe s
def Gg(X:Cx)(d:String)(r:V->List V->Hp->VK->Prop):Prop:=
 ∀(pins:List (Addr×Obj)) (s:Shared) (a:St) (H:Hp) (x:V) (b:List V) (v:Value) (c:List Value) (Q:VK),Inv X pins a H s->RelV x v->Vals b c->r x b H Q ->
  wpAny (model X.prog X.w) X.A (call (.builtin d) (v::c)) (EP X pins a Q) X.xe s
section
variable{X:Cx}{a b:Expr}{ta tb:TE}{pos:Pos}
theorem z6.or{r c:R2}(h:z6 X r)(h':z6 X c):z6 X (λx y H Q=>r x y H Q\/c x y H Q):=by
 intro a b pins s d H x y v u Q I e f q g;rcases q with q|q
 .exact h a b pins s d H x y v u Q I e f q g
 .exact h' a b pins s d H x y v u Q I e f q g
theorem C8{r:R2}(c:z6 X r)(d:PE X a ta)(e:PE X b tb)(f:uk b):PE X (.Subscript a b pos) (Gf r ta tb):=by
 intro pins s g H Q I h;exact Subscript_ (DU d e I h λv u i x y j k l m q=>c a b pins i g j x y v u Q k l m q (f _ _))
def GX(K:PySem.W.Frag):R2:=λx y H Q=>∃p a i v,x=.ref p/\y=.int i/\kQ K H p a/\kx a i=some v/\Q v H
def GY(K:PySem.W.Frag):R2:=λx y H Q=>∃p a i v,x=.ref p/\y=.int i/\ug K H p a/\kx a i=some v/\Q v H
def GZ:R2:=λx y H Q=>∃z i c,x=.str z/\y=.int i/\z.length<=sizeLine/\kx z.cps.toList i=some c/\Q (.str ⟨#[c]⟩) H
theorem z7:z6 X (GX X.K):=by
 intro c d pins s l H x y v u Q I A B h m;obtain⟨p,M,i,z,rfl,rfl,C,D,q⟩:=h;cases A;obtain⟨t,rfl⟩:=B;obtain⟨e,r,f,N⟩:=I.list C;obtain⟨j,b,E,O,F,G⟩:=o8 D;obtain⟨w,n,g⟩:=r.get E;have J:=r.length;have P:=ja;have a:EP X pins l Q w s:=⟨z,H,I,g,q⟩
 by_cases o:0<=i
 .have k:i.toNat=j:=by
   rw[seqIndex_of o G]at b;exact Option.some.inj b
  exact item_listR f.isList o (by omega) (by rw[k];simpa using n) a m
 .have k:(i+(e.toArray.size:Int)).toNat=j:=by
   rw[seqIndex_neg (by omega) F]at b
   rw[List.size_toArray,←J];exact Option.some.inj b
  exact subscriptTail_builtinR (x:=w) f.isList.typeIs slot_list_getitem.lookup
   (wpAny_getItem_list_neg (Q:=λr L=>r=w/\EP X pins l Q r L) f.isList (by omega) (by rw[List.size_toArray]<;>omega) (by omega) (by rw[k];simpa using n) ⟨rfl,a⟩) m
theorem Ec:z6 X (GY X.K):=by
 intro a b pins s e H x y v u Q I g k h l;obtain⟨p,F,i,z,rfl,rfl,m,n,q⟩:=h;cases g;obtain⟨t,rfl⟩:=k;obtain⟨o,r,f,G⟩:=I.tuple m;obtain⟨j,A,B,J,L,M⟩:=o8 n;obtain⟨w,C,c⟩:=r.get B;have D:=r.length;have N:=ja;have d:EP X pins e Q w s:=⟨z,H,I,c,q⟩
 exact subscriptTail_builtinR (x:=w) f.typeIs slot_tuple_getitem.lookup
  (getItem_tuple (j:=j) (Q:=λr E=>r=w/\EP X pins e Q r E) f (by omega) (by omega) (by rw[List.size_toArray,←D];exact A) (by simpa using C) ⟨rfl,d⟩) l
theorem Ed:z6 X GZ:=by
 intro a b pins s w H x y v u Q I e f h g;obtain⟨z,i,c,rfl,rfl,A,k,q⟩:=h;obtain⟨t,rfl⟩:=e;obtain⟨B,rfl⟩:=f;obtain⟨j,d,l,C,m,n⟩:=o8 k;have o:z.cps.toList.length=z.length:=by simp[Str.length]
 rw[o]at d m n;have D:=ja
 exact tail_any (typeIs_str s z t) slot_str_getitem.lookup (getItem_str (c:=c) (by
  have p:decide (i < -(2 ^ 63:Int))=false:=decide_eq_false (by omega)
  have r:decide (i≥2 ^ 63)=false:=decide_eq_false (by omega)
  rw[p,r,Bool.or_false]) (by rw[d];simpa using l) ⟨.str ⟨#[c]⟩,H,I.tok _,⟨_,rfl⟩,q⟩) g
def Kl(K:PySem.W.Frag):R2:=λx y H Q=>GX K x y H Q\/GY K x y H Q\/GZ x y H Q
theorem xq:z6 X (Kl X.K):=z7.or (Ec.or Ed)
theorem Inv.lst{pins:List (Addr×Obj)}{b:St}{H:Hp}{s:Shared}{p:Addr}{xs:List V}(I:Inv X pins b H s)(h:H p=some (.lst xs)) :
  ∃(a:List Value) (n:Nat),Vals xs a/\s.heap.get? p=some {cls:=.type "list",data:=.seq a.toArray n}/\xs.length<=sizeLine:=by
 obtain⟨z,a,n,r,e⟩:=I.hok p _ h;exact⟨a,n,r,e,z⟩
theorem o_(a b:Option Int)(n:Nat):(sliceBounds a b none n).1=((HT.iS n 0 a:Nat):Int)/\(sliceBounds a b none n).2.1=((HT.iS n n b:Nat):Int)/\(sliceBounds a b none n).2.2=1:=by
 refine⟨?_,?_,rfl⟩
 .cases a with
  |none=>simp[sliceBounds,HT.iS]
  |some i=>
   simp only[sliceBounds,HT.iS,Option.getD_none,show(1:Int)>0 by decide,if_true]
   by_cases h:i<0
   .simp only[h,if_true]<;>omega
   .simp only[h,if_false]<;>omega
 .cases b with
  |none=>simp[sliceBounds,HT.iS]
  |some i=>
   simp only[sliceBounds,HT.iS,Option.getD_none,show(1:Int)>0 by decide,if_true]
   by_cases h:i<0
   .simp only[h,if_true]<;>omega
   .simp only[h,if_false]<;>omega
theorem nG(a:List Value)(b c:Option Int):slicePick a.toArray b c none=((a.drop (HT.iS a.length 0 b)).take (HT.iS a.length a.length c - HT.iS a.length 0 b)).toArray:=by
 obtain⟨d,e,f⟩:=o_ b c a.toArray.size;unfold slicePick;rw[d,e,f];simp only[sliceRange_one,pick_run,List.size_toArray]<;>rfl
def G5(K:PySem.W.Frag):V->Option Int->Option Int->Hp->VK->Prop:=λx c d H Q=>∃a b,x=.ref a/\kQ K H a b/\∀p,H p=none->Q (.ref p) (upd H p (.lst (vJ b c d)))
theorem jy:Eb X (G5 X.K):=by
 intro pins s t H x v u w e f y Q I i j k l h;obtain⟨a,c,rfl,m,q⟩:=h;cases i;obtain⟨n,r,g,p⟩:=I.list m;have d:=r.length;refine⟨"list",_,slot_list_getitem.lookup,g.isList.typeIs,?_⟩;refine wpAny_getItem_list_slice g.isList j k l .none (by simp) ?_ (by rw[List.size_toArray]<;>omega)
 rw[nG,←d];refine⟨.ref s.heap.objs.size,_,I.laid (t':=s.toks) (o:=.lst (vJ c e f)) (λb z q=>Heap.get?_push_of_some _ q) (Nat.le_refl _) ?_,rfl,q _ (I.hok.fresh (Nat.le_refl _))⟩
 exact⟨Nat.le_trans (qE c e f) p,_,0,(r.drop (HT.iS c.length 0 e)).take (HT.iS c.length c.length f - HT.iS c.length 0 e),Heap.get?_push_size _ rfl⟩
theorem pa:fj X (.builtin "len") (λxs H Q=>∃p ys,xs=[.ref p]/\(kQ X.K H p ys\/ug X.K H p ys)/\Q (.int ys.length) H):=by
 intro pins s g H xs i Q I r h;obtain⟨p,ys,rfl,hq,q⟩:=h;obtain⟨u,rfl,e⟩:=vals1 r;cases e;have j:=ja;rcases hq with hq|hq
 .obtain⟨b,c,d,f⟩:=I.list hq
  have a:=c.length;exact Calls.call_len_list d.isList (by simp only[List.size_toArray]<;>omega) ⟨.int ys.length,H,I.tok _,⟨s.toks+1,by rw[List.size_toArray,a]⟩,q⟩
 .obtain⟨b,c,d,f⟩:=I.tuple hq
  have a:=c.length;exact len_tuple d (by simp only[List.size_toArray]<;>omega) ⟨.int ys.length,H,I.tok _,⟨s.toks+1,by rw[List.size_toArray,a]⟩,q⟩
theorem pb:fj X (.builtin "len") (λxs H Q=>∃z,xs=[.str z]/\z.length<=sizeLine/\Q (.int z.length) H):=by
 intro pins s a H xs b Q I r h;obtain⟨z,rfl,c,q⟩:=h;obtain⟨u,rfl,t,rfl⟩:=vals1 r;have d:=ja;exact len_str (by omega) ⟨.int z.length,H,I.tok _,⟨_,rfl⟩,q⟩
theorem pd:fj X (.type "list") (λxs H Q=>∃p ys,xs=[.ref p]/\(kQ X.K H p ys\/ug X.K H p ys)/\∀l,H l=none->Q (.ref l) (upd H l (.lst ys))):=by
 intro pins s A H xs C Q I r h;obtain⟨p,ys,rfl,hq,q⟩:=h;obtain⟨u,rfl,B⟩:=vals1 r;cases B
 have g:∀(a:List Value),Vals ys a->ys.length<=sizeLine->∀(c:Heap) (d:Nat),(∀b z,s.heap.get? b=some z->c.get? b=some z) ->
   c.get? s.heap.objs.size=some {cls:=.type "list",dict:=none,data:=.seq a.toArray d,slots := #[]}->EP X pins A Q (.ref s.heap.objs.size) {s with heap:=c}:=λa f i c d j e=>
  ⟨.ref s.heap.objs.size,_,I.laid (t':=s.toks) j (Nat.le_refl _) (show cq X.prog X.w _ c _ (.lst ys)from⟨i,a,d,f,e⟩),rfl,q _ (I.hok.fresh (Nat.le_refl _))⟩
 rcases hq with hq|hq
 .obtain⟨a,f,m,i⟩:=I.list hq
  have k:=f.length;obtain⟨o,t,x,n,y⟩:=m.isList;exact call_list_seq p (.inl rfl) t x y (λc d j e=>g a f i c d j e) (by simp only[List.size_toArray]<;>omega)
 .obtain⟨a,f,m,i⟩:=I.tuple hq
  have k:=f.length;obtain⟨o,t,x,n,y⟩:=m;exact call_list_seq p (.inr rfl) t x y (λc d j e=>g a f i c d j e) (by simp only[List.size_toArray]<;>omega)
def C9(K:PySem.W.Frag)(T:String)(x:V)(H:Hp):Prop:=match x with
 |.str _=>T="str"
 |.int _=>T="int"
 |.ref p=>(T="list"/\∃b,kQ K H p b)\/(T="tuple"/\∃o,K.lookup p=some o/\o.cls=.type "tuple"/\o.dict=none) \/
   (T="dict"/\((∃a,H p=some (.dK a))\/∃a,H p=some (.dT a)))\/(T="set"/\∃S n,H p=some (.set S n))
 |_=>False
theorem xr{pins:List (Addr×Obj)}{l:St}{H:Hp}{s:Shared}{T:String}{x:V}{v:Value}(I:Inv X pins l H s)(r:RelV x v)(f:C9 X.K T x H) :
  s.TypeIs v T/\∀a,v=.ref a->∃ob,s.heap.get? a=some ob/\ob.dict=none:=by
 cases x with
 |str z=>
  obtain⟨t,rfl⟩:=r;cases (show T="str" from f)
  exact⟨typeIs_str s z t,λ_ e=>nomatch e⟩
 |int i=>
  obtain⟨t,rfl⟩:=r;cases (show T="int" from f)
  exact⟨typeIs_int s i t,λ_ e=>nomatch e⟩
 |ref p=>
  cases r;rcases f with ⟨rfl,w,m⟩|⟨rfl,o,b,q,g⟩|⟨rfl,b⟩|⟨rfl,S,n,b⟩
  .obtain⟨u,_,k,_⟩:=I.list m
   refine⟨k.isList.typeIs,λa e=>?_⟩
   cases e;obtain⟨o,n,e,c,g,_⟩:=k;exact⟨o,e,g⟩
  .refine⟨⟨o,I.jq p o b,q⟩,λa e=>?_⟩
   cases e;exact⟨o,I.jq _ o b,g⟩
  .have z:∃o,s.heap.get? p=some o/\o.ExactDict:=by
    rcases b with ⟨h,b⟩|⟨h,b⟩
    .obtain⟨_,_,_,_,o,_,_,e,d,_⟩:=I.hok p _ b
     exact⟨o,e,d⟩
    .obtain⟨_,_,_,_,o,_,_,e,d,_⟩:=I.hok p _ b
     exact⟨o,e,d⟩
   obtain⟨o,e,d⟩:=z;refine⟨⟨o,e,d.1⟩,λa j=>?_⟩
   cases j;exact⟨o,e,d.2.1⟩
  .obtain⟨o,_,_,_,e,d,_⟩:=I.hok p _ b
   refine⟨⟨o,e,d.1⟩,λa j=>?_⟩
   cases j;exact⟨o,e,d.2.1⟩
 |_=>exact False.elim f
noncomputable def My(K:PySem.W.Frag)(T:String)(r:V->List V->Hp->VK->Prop)(b:TE):TE:=λc H Q=>b c H λx a=>C9 K T x a/\r x [] a Q
noncomputable def Td(K:PySem.W.Frag)(T:String)(r:V->List V->Hp->VK->Prop)(c:TE)(t:TA):TE:=λa H Q=>c a H λx b=>C9 K T x b/\t a b λd e=>r x d e Q
variable{o e:Expr}{es:List Expr}{to:TE}{t:TA}{name:Str}{apos cpos:Pos}{T id:String}{r:V->List V->Hp->VK->Prop}
theorem Ee(e:PlainAttrs T)(slot:Slot T name id)(c:typeOf (.builtin id)=pure (.type "method_descriptor"))(f:Gg X id r)(g:PE X o to)
  (a:attributeBase o name X.env (eval o X.env)=eval o X.env:=by rfl) (b:(apos.endLine==cpos.line)=true:=by rfl):PE X (.Call (.Attribute o name apos) [] [] cpos) (My X.K T r to):=by
 intro pins s d H Q I h;refine wpAny_Call_method0_late a b (cy (g pins s d H _ I h) λv i ⟨x,H1,I1,r1,ty,q1⟩=>?_)
 obtain⟨j,k⟩:=xr I1 r1 ty;exact⟨T,id,e,slot,c,j,k,Calls.callWith_builtin rfl (PySem.evalArgs_none (f pins i d H1 x [] v [] Q I1 r1 .nil q1))⟩
theorem G6(j:PlainAttrs T)(slot:Slot T name id)(f:typeOf (.builtin id)=pure (.type "method_descriptor"))(k:Gg X id r)(l:PE X o to)(m:PA X (e::es) t)
  (b:attributeBase o name X.env (eval o X.env)=eval o X.env:=by rfl)
  (d:((backTo cpos (starEach (e::es) X.env)).all (λx=>!x.1)&&(backToKw cpos (keywordEach [] X.env)).all (λx=>x.1.isSome)
   && decide ((e::es).length+([]:List Keyword).length+(if ([]:List Keyword).isEmpty then 0 else 1)<30))=true:=by rfl)
  (c:(apos.endLine==cpos.line)=true:=by rfl) (n:starEach (e::es) X.env=(false,eval e X.env)::starEach es X.env:=by rfl) (a:(backTo cpos (starEach es X.env)).any (·.1)=false:=by rfl) :
  PE X (.Call (.Attribute o name apos) (e::es) [] cpos) (Td X.K T r to t):=by
 intro pins s g H Q I h;refine wpAny_Call_method_late b d c rfl (cy (l pins s g H _ I h) λv p ⟨x,H1,I1,r1,ty,q1⟩=>?_)
 obtain⟨q,u⟩:=xr I1 r1 ty;refine⟨T,id,j,slot,f,q,u,?_⟩;have i:=m cpos pins p g H1 _ I1 q1;rw[n]at i ⊢;refine Calls.callWith_builtin (by show(false||(backTo cpos (starEach es X.env)).any (·.1))=false;rw[a]<;>rfl) (Calls.evalArgs_plain ?_)
 exact cy i λw y ⟨z,A,B,C,D⟩=>k pins y g A x z v w Q B r1 C D
end
def G7(X:Cx)(d:String)(r:V->List V->Hp->VK->Prop):Prop:=
 ∀(pins:List (Addr×Obj)) (s:Shared) (a:St) (H:Hp) (x:V) (b:List V) (v:Value) (c:List Value) (Q:VK),Inv X pins a H s->RelV x v->Vals b c->r x b H Q ->
  wpAny (model X.prog X.w) X.A (call (.builtin d) (v::c)) (EP X pins a Q) X.xe s
theorem Vals.one:∀{x:V}{us:List Value},Vals [x] us->∃u,us=[u]/\RelV x u
 |_,_,.cons r .nil=>⟨_,rfl,r⟩
theorem Vals.two:∀{x y:V}{us:List Value},Vals [x,y] us->∃u v,us=[u,v]/\RelV x u/\RelV y v
 |_,_,_,.cons r (.cons q .nil)=>⟨_,_,rfl,r,q⟩
theorem Vals.zero:∀{us:List Value},Vals [] us->us=[]
 |_,.nil=>rfl
theorem Vals.reverse{xs:List V}{us:List Value}(h:Vals xs us):Vals xs.reverse us.reverse:=by
 induction h with
 |nil=>exact .nil
 |cons r t a=>rw[List.reverse_cons,List.reverse_cons];exact Vals.append a (.cons r .nil)
section
variable{X:Cx}{pins:List (Addr×Obj)}{σ:St}{H:Hp}{s:Shared}{l b:Addr}{xs ys zs:List V}
theorem Inv.xu{a its':List Value}{n:Nat}{f:Array Value->Array Value}{t':Nat}(I:Inv X pins σ H s)(b:H l=some (.lst xs))
  (e:s.heap.get? l=some {cls:=.type "list",data:=.seq a.toArray n}) (c:f a.toArray=its'.toArray) (d:Vals ys its') (hz:ys.length<=sizeLine) :
  Inv X pins σ (upd H l (.lst ys)) {s with heap:=s.heap.update l (Obj.mapSeq f),toks:=t' }:=by
 have q:=PySem.IsL.update e f;rw[c]at q;refine I.write (x:=l) (e:=l) (by rw[b];exact trivial) (.inl rfl) (λi u g h=>(Heap.get?_update_other s.heap (Obj.mapSeq f) (Ne.symm g)).trans h) ⟨_,q⟩ ?_
 exact⟨hz,its',_,d,q⟩
theorem Inv.Mz{a:List Value}{t':Nat}(I:Inv X pins σ H s)(b:Vals ys a)(hz:ys.length<=sizeLine) :
  Inv X pins σ (upd H s.heap.objs.size (.lst ys)) {s with heap:=s.heap.push {cls:=.type "list",data:=.seq a.toArray},toks:=t' }:=
 I.laid (λ_ _ q=>Heap.get?_push_of_some _ q) (Nat.le_refl _) ⟨hz,a,0,b,Heap.get?_push_size _ rfl⟩
theorem Inv.fresh(I:Inv X pins σ H s):H s.heap.objs.size=none:=I.hok.fresh (Nat.le_refl _)
theorem Inv.vK(I:Inv X pins σ H s)(b:H l=some (.lst xs)):xs.length<=sizeLine/\∃(a:List Value) (n:Nat),Vals xs a/\xs.length=a.length/\s.heap.get? l=some {cls:=.type "list",data:=.seq a.toArray n}:=by
 obtain⟨z,a,n,r,e⟩:=I.hok l _ b;exact⟨z,a,n,r,r.length,e⟩
theorem xv{n:Nat}(h:n<=sizeLine):Builtin.List.listTooLong n=false:=by
 unfold Builtin.List.listTooLong;exact decide_eq_false (by omega)
end
section
variable{X:Cx}
def um:V->List V->Hp->VK->Prop:=λx b H Q=>∃l a y,x=.ref l/\b=[y]/\H l=some (.lst a)/\a.length<sizeLine/\Q .non (upd H l (.lst (a++[y])))
theorem n4:G7 X "list.append" um:=by
 intro pins s g H x i v j Q I c d h;obtain⟨l,k,y,rfl,rfl,b,m,q⟩:=h;cases c;obtain⟨u,rfl,f⟩:=d.one;obtain⟨z,a,n,r,o,e⟩:=I.vK b;refine call_meets F.slot_list_append ⟨_,e,rfl⟩ F.entry_list_append (F.args_list_append_2 _ _) (PySem.list_append l a.toArray n u (by rw[List.size_toArray];omega)) ⟨e,?_⟩
 refine⟨.non,_,I.xu (its':=a++[u]) b e (by simp) (r.append (.cons f .nil)) ?_,rfl,q⟩
 rw[List.length_append,List.length_singleton];omega
def uo:V->List V->Hp->VK->Prop:=λx d H Q=>∃l b a c,x=.ref l/\d=[.ref b]/\H l=some (.lst a)/\H b=some (.lst c)/\a.length+c.length<=sizeLine/\Q .non (upd H l (.lst (a++c)))
theorem vL:G7 X "list.extend" uo:=by
 intro pins s y H x A v B Q I i j h;obtain⟨l,b,C,D,rfl,rfl,g,k,E,q⟩:=h;cases i;obtain⟨u,rfl,m⟩:=j.one;cases m;obtain⟨z,c,n,r,G,e⟩:=I.vK g;obtain⟨J,a,o,p,t,w⟩:=I.vK k;have f:c.toArray.size+a.toArray.size<=sizeLine:=by rw[List.size_toArray,List.size_toArray];omega
 have d:¬ (!c.toArray.isEmpty&&Builtin.List.listTooLong (c.toArray.size+a.toArray.size))=true:=by
  rw[xv f,Bool.and_false];exact Bool.false_ne_true
 refine call_meets F.slot_list_extend ⟨_,e,rfl⟩ F.entry_list_extend (F.args_list_extend_2 _ _)
  (AutoSeq1.list_extend_list_list_0 l c.toArray n b a.toArray o d (by rw[List.size_toArray];omega) (by omega)) ⟨e,w,?_⟩
 refine⟨.non,_,I.xu (its':=c++a) g e (by simp) (r.append p) ?_,rfl,q⟩
 rw[List.length_append];omega
def qF:V->List V->Hp->VK->Prop:=λx b H Q=>∃l a,x=.ref l/\b=[]/\H l=some (.lst a)/\Q .non (upd H l (.lst a.reverse))
theorem sG:G7 X "list.reverse" qF:=by
 intro pins s g H x i v j Q I d f h;obtain⟨l,k,rfl,rfl,c,q⟩:=h;cases d;have b:=f.zero;subst b;obtain⟨z,a,n,r,m,e⟩:=I.vK c;refine call_meets F.slot_list_reverse ⟨_,e,rfl⟩ F.entry_list_reverse (F.args_list_reverse_1 _) (AutoSeq1.list_reverse_list_0 l a.toArray n (by rw[List.size_toArray];omega)) ⟨e,?_⟩
 refine⟨.non,_,I.xu (its':=a.reverse) c e (by simp) r.reverse ?_,rfl,q⟩
 rw[List.length_reverse];omega
def xw:V->List V->Hp->VK->Prop:=λx a H Q=>∃l b,x=.ref l/\a=[]/\H l=some (.lst b)/\Q .non (upd H l (.lst []))
theorem xx:G7 X "list.clear" xw:=by
 intro pins s g H x i v j Q I d f h;obtain⟨l,k,rfl,rfl,c,q⟩:=h;cases d;have a:=f.zero;subst a;obtain⟨z,b,n,r,m,e⟩:=I.vK c;refine call_meets F.slot_list_clear ⟨_,e,rfl⟩ F.entry_list_clear (F.args_list_clear_1 _) (AutoSeq1.list_clear_list_0 l b.toArray n (by rw[List.size_toArray];omega)) ⟨e,?_⟩
 exact⟨.non,_,I.xu (its':=[]) (ys:=[]) c e rfl .nil (Nat.zero_le _),rfl,q⟩
end
section
variable{prog:Program}{w:World}{A:Around}{E:Value->Shared->Prop}{s:Shared}
end
section
variable{X:Cx}
end
section
variable{κ:Type}[DecidableEq κ]
noncomputable def kS(kvs:List (κ×V))(k:κ):Option V:=(kvs.find? λa=>decide (a.1=k)).map (·.2)
noncomputable def putK(kvs:List (κ×V))(k:κ)(v:V):List (κ×V):=
 if (kvs.any λa=>decide (a.1=k))=true then kvs.map (λa=>if a.1=k then (a.1,v)else a)else kvs++[(k,v)]
noncomputable def ky(kvs:List (κ×V))(k:κ):List (κ×V):=kvs.filter λa=>decide (a.1≠k)
theorem qG{p:κ×V}{r:List (κ×V)}{k:κ}(e:p.1=k):kS (p::r) k=some p.2:=by simp[kS,List.find?_cons,e]
theorem qI{p:κ×V}{r:List (κ×V)}{k:κ}(e:¬ p.1=k):kS (p::r) k=kS r k:=by simp[kS,List.find?_cons,e]
theorem kz(kvs:List (κ×V))(k:κ)(v:V):(putK kvs k v).length<=kvs.length+1:=by
 unfold putK;split
 .rw[List.length_map];omega
 .rw[List.length_append,List.length_cons,List.length_nil];omega
theorem hY.n5{o:Option V}{u:Option Value}(r:hY o u):o.isSome=u.isSome:=by
 cases o with
 |none=>cases u with
  |none=>rfl
  |some _=>exact(show False from r).elim
 |some _=>cases u with
  |none=>exact(show False from r).elim
  |some _=>rfl
theorem hY.getD{o:Option V}{u:Option Value}{d:V}{d':Value}(r:hY o u)(a:RelV d d'):RelV (o.getD d) (u.getD d'):=by
 cases o with
 |none=>cases u with
  |none=>exact a
  |some _=>exact(show False from r).elim
 |some _=>cases u with
  |none=>exact(show False from r).elim
  |some _=>exact r
theorem KV.val{kvs:List (κ×V)}{vs:List (κ×Value)}(r:KV kvs vs)(k:κ):hY (kS kvs k) (valueAt vs k):=by
 unfold KV at r
 induction r with
 |nil=>exact True.intro
 |@cons p q i a h t f=>
  obtain⟨d,g⟩:=h
  by_cases e:p.1=k
  .have c:q.1=k:=d.symm.trans e
   have b:valueAt (q::a) k=some q.2:=by simp[valueAt,List.find?_cons,c]
   rw[qG e,b];exact g
  .have c:¬ q.1=k:=λz=>e (d.trans z)
   have b:valueAt (q::a) k=valueAt a k:=by simp[valueAt,List.find?_cons,c]
   rw[qI e,b];exact f
theorem KV.any{kvs:List (κ×V)}{vs:List (κ×Value)}(r:KV kvs vs)(k:κ):(kvs.any λa=>decide (a.1=k))=vs.any λa=>decide (a.1=k):=by
 unfold KV at r
 induction r with
 |nil=>rfl
 |cons h t b=>rw[List.any_cons,List.any_cons,b,h.1]
theorem KV.repl{kvs:List (κ×V)}{vs:List (κ×Value)}(r:KV kvs vs)(k:κ){y:V}{u:Value}(c:RelV y u) :
  KV (kvs.map λa=>if a.1=k then (a.1,y)else a) (vs.map λa=>if a.1=k then (a.1,u)else a):=by
 unfold KV at r ⊢
 induction r with
 |nil=>exact .nil
 |@cons p q g i h t d=>
  rw[List.map_cons,List.map_cons];refine .cons ?_ d;obtain⟨b,f⟩:=h
  by_cases e:p.1=k
  .rw[if_pos e,if_pos (b.symm.trans e)];exact⟨b,c⟩
  .rw[if_neg e,if_neg (λz=>e (b.trans z))];exact⟨b,f⟩
theorem KV.put{kvs:List (κ×V)}{vs:List (κ×Value)}(r:KV kvs vs)(k:κ){y:V}{u:Value}(a:RelV y u):KV (putK kvs k y) (stored vs k u):=by
 unfold putK stored;rw[r.any k]
 by_cases e:(vs.any λb=>decide (b.1=k))=true
 .rw[if_pos e,if_pos e];exact r.repl k a
 .rw[if_neg e,if_neg e];exact Paired.snoc r ⟨rfl,a⟩
theorem KV.drop{kvs:List (κ×V)}{vs:List (κ×Value)}(r:KV kvs vs)(k:κ):KV (ky kvs k) (without vs k):=by
 unfold KV at r ⊢;unfold ky without
 induction r with
 |nil=>exact .nil
 |@cons p q i j h t d=>
  obtain⟨c,f⟩:=h;rw[List.filter_cons,List.filter_cons]
  by_cases e:p.1=k
  .have a:¬ decide (p.1≠k)=true:=by simp[e]
   have b:¬ decide (q.1≠k)=true:=by simp[c.symm.trans e]
   rw[if_neg a,if_neg b];exact d
  .have g:¬ q.1=k:=λz=>e (c.trans z)
   have a:decide (p.1≠k)=true:=by simp[e]
   have b:decide (q.1≠k)=true:=by simp[g]
   rw[if_pos a,if_pos b];exact .cons ⟨c,f⟩ d
theorem KV.length{kvs:List (κ×V)}{vs:List (κ×Value)}(r:KV kvs vs):kvs.length=vs.length:=Paired.length r
theorem xy(kvs:List (κ×V))(k:κ):(ky kvs k).length<=kvs.length:=List.length_filter_le _ _
end
theorem n8{P:Program}{w:World}{k:Key}{u:Value}(r:RelV (kV k) u):(bP P w).is k u=true:=by
 cases k with
 |inl i=>obtain⟨t,e⟩:=(show ∃t,u=Value.int i t from r);subst e;exact qr P w i t
 |inr x=>obtain⟨t,e⟩:=(show ∃t,u=Value.str x t from r);subst e;exact qu P w x t
abbrev KT(H:Hp):List (List Key×V)->List (List Key×Addr×Value)->Prop:=Paired λp q=>p.1=q.1/\H q.2.1=some (.tup (p.1.map kV))/\RelV p.2 q.2.2
section
variable{P:Program}{w:World}{H:Hp}{h:Heap}{a:Addr}
theorem C_{u:HO}(ok:i9 P w H h)(e:Rd H a u):cq P w H h a u:=e.ok ok
theorem jz{kvs:List (Key×V)}(ok:i9 P w H h)(e:Rd H a (.dK kvs)):kvs.length<=sizeLine/\(a==sysModules)=false/\∃vs,KV kvs vs/\h.DictOf (bP P w) a vs:=
 show cq P w H h a (.dK kvs)from C_ ok e
theorem Dc{kvs:List (Key×V)}(ok:i9 P w H h)(e:H a=some (.dK kvs)):kvs.length<=sizeLine/\(a==sysModules)=false/\∃vs,KV kvs vs/\h.DictOf (bP P w) a vs:=jz ok (.inl e)
end
def lS(H:Hp)(a:Addr)(y:V)(r:Option V):Prop:=
 (∃b k,Rd H a (.dK b)/\y=kV k/\r=kS b k)\/False
def vM(H:Hp)(a:Addr)(y v:V)(c:Hp):Prop:=
 (∃b k,H a=some (.dK b)/\y=kV k/\b.length<sizeLine/\c=upd H a (.dK (putK b k v)))\/False
theorem lS.k{H:Hp}{a:Addr}{kvs:List (Key×V)}{k:Key}(e:H a=some (.dK kvs)):lS H a (kV k) (kS kvs k):=.inl ⟨kvs,k,.inl e,rfl,rfl⟩
theorem vM.k{H:Hp}{a:Addr}{kvs:List (Key×V)}{k:Key}{v:V}(e:H a=some (.dK kvs))(b:kvs.length<sizeLine):vM H a (kV k) v (upd H a (.dK (putK kvs k v))):=.inl ⟨kvs,k,e,rfl,b,rfl⟩
section
variable{X:Cx}{pins:List (Addr×Obj)}{σ:St}{H:Hp}{s:Shared}{a:Addr}{y v:V}{u r:Value}{o:Option V}{A:Around}{E:Value->Shared->Prop}
theorem Inv.big(I:Inv X pins σ H s):sysModules<s.heap.objs.size:=by
 have h:mainGlobals<s.heap.objs.size:=(I.mod.glob.keeps I.bk).lt;exact Nat.lt_trans (by decide) h
theorem vO{Q:Value->Shared->Prop}(r:A.units+1<cLine)(I:Inv X pins σ H s)(g:lS H a y (some v))(i:RelV y u)(h:∀b f,Inv X pins σ H f->RelV v b->Q b f) :
  wpAny (model X.prog X.w) A (getItem (.ref a) u) Q E s:=by
 rcases g with ⟨j,k,e,m,l⟩|bad
 .subst m
  obtain⟨z,t,n,c,p⟩:=jz I.hok e;obtain⟨b,q,d⟩:=hY.some_of (v:=v) (o:=valueAt n k) (by rw[l];exact c.val k)
  exact wpAny_getItem_of (n8 i) p.mapOf q (h b _ (I.tok _) d)
 .exact bad.elim
theorem MA{Q:Value->Shared->Prop}(n:A.units+1<cLine)(I:Inv X pins σ H s)(g:lS H a y o)(d:RelV y u)(h:∀c,Inv X pins σ H c->Q (.bool o.isSome) c) :
  wpAny (model X.prog X.w) A (compareOp .In u (.ref a)) Q E s:=by
 rcases g with ⟨f,k,e,i,l⟩|bad
 .subst i
  obtain⟨z,j,p,b,m⟩:=jz I.hok e;refine wpAny_in_of (n8 d) j m.mapOf ?_;rw[←(b.val k).n5,←l];exact h _ (I.tok _)
 .exact bad.elim
theorem z8{Q:Value->Shared->Prop}(n:A.units+1<cLine)(I:Inv X pins σ H s)(g:lS H a y o)(d:RelV y u)(h:∀c,Inv X pins σ H c->Q (.bool (!o.isSome)) c) :
  wpAny (model X.prog X.w) A (compareOp .NotIn u (.ref a)) Q E s:=by
 rcases g with ⟨f,k,e,i,l⟩|bad
 .subst i
  obtain⟨z,j,p,b,m⟩:=jz I.hok e;refine wpAny_notIn_of (n8 d) j m.mapOf ?_;rw[←(b.val k).n5,←l];exact h _ (I.tok _)
 .exact bad.elim
theorem pe{h':Heap}{t':Nat}{ob:HO}(I:Inv X pins σ H s)(d:GB (H a))(f:Heap.SameBut a s.heap h')(g:∃q,h'.get? a=some q)(c:cq X.prog X.w (upd H a ob) h' a ob) :
  Inv X pins σ (upd H a ob) {s with heap:=h',toks:=t' }:=
 I.write (x:=a) (e:=a) d (.inl rfl) (λb q h z=>(f.2 b h).trans z) g c
theorem pf{P:Program}{w:World}{c:Hp}{h':Heap}{kvs:List (Key×V)}{vs:List (Key×Value)}(z:kvs.length<=sizeLine)(d:(a==sysModules)=false)(b:KV kvs vs)(e:h'.DictOf (bP P w) a vs) :
  cq P w c h' a (.dK kvs):=⟨z,d,vs,b,e⟩
theorem vP{f:Hp}{Q:Unit->Shared->Prop}(J:A.units+1<cLine)(I:Inv X pins σ H s)(g:vM H a y v f)(j:RelV y u)(m:RelV v r)(h:∀i,Inv X pins σ f i->Q () i) :
  wpAny (model X.prog X.w) A (setItem (.ref a) u r) Q E s:=by
 rcases g with ⟨b,k,e,n,l,o⟩|bad
 .subst n o
  obtain⟨z,p,t,c,x⟩:=Dc I.hok e;have B:t.length<=sizeLine:=by rw[←c.length];exact z
  have C:(putK b k v).length<=sizeLine:=by have:=kz b k v;omega
  refine wpAny_setItem_pairs (hsz:=B) (n8 j) x λD d F=>h _ ?_
  have G:∃q,D.get? a=some q:=let ⟨q,_,_,hq,_⟩:=d;⟨q,hq⟩
  exact pe I (by rw[e];exact True.intro) F G (pf C p (c.put k m) d)
 .exact bad.elim
end
section
variable{X:Cx}{pins:List (Addr×Obj)}{σ:St}{H:Hp}{s:Shared}{a:Addr}{kvs:List (Key×V)}{k:Key}{u:Value}{A:Around}{E:Value->Shared->Prop}
theorem G8{v:V}{more:List Value}{Q:Value->Shared->Prop}(I:Inv X pins σ H s)(e:H a=some (.dK kvs))(f:RelV (kV k) u)(l:kS kvs k=some v)(j:more=[]\/∃x,more=[x])
  (h:∀c m,Inv X pins σ (upd H a (.dK (ky kvs k))) m->RelV v c->Q c m):wpAny (model X.prog X.w) A (call (.builtin "dict.pop") (.ref a::u::more)) Q E s:=by
 obtain⟨z,r,n,b,p⟩:=Dc I.hok e;obtain⟨c,y,g⟩:=hY.some_of (v:=v) (o:=valueAt n k) (by rw[←l];exact b.val k)
 have B:(keyPart u).isSome=true:=by
  cases k with
  |inl i=>obtain⟨t,q⟩:=(show ∃t,u=Value.int i t from f);subst q;rfl
  |inr x=>obtain⟨t,q⟩:=(show ∃t,u=Value.str x t from f);subst q;rfl
 have C:argsOk "dict.pop" ⟨.ref a::u::more,[]⟩:=by
  rcases j with q|⟨x,q⟩
  .subst q;exact PySem.F.args_dict_pop_2 _ _
  .subst q;exact PySem.F.args_dict_pop_3 _ _ _
 refine call_meetsIn PySem.F.slot_dict_pop p.typeIs PySem.F.entry_dict_pop C (meets_dict_pop_there (bP X.prog X.w) a (n8 f) more j B)
  ⟨n,c,p,by rw[←b.length];exact z,y,λD d G=>h c _ ?_ g⟩
 have J:∃q,D.get? a=some q:=let ⟨q,_,_,hq,_⟩:=d;⟨q,hq⟩
 exact pe I (by rw[e];exact True.intro) G J (pf (Nat.le_trans (xy kvs k) z) r (b.drop k) d)
theorem G9{Q:Value->Shared->Prop}(I:Inv X pins σ H s)(e:Rd H a (.dK kvs))(h:∀t c,Inv X pins σ H c->Q (.int kvs.length t) c):wpAny (model X.prog X.w) A (call (.builtin "len") [.ref a]) Q E s:=by
 obtain⟨z,d,g,b,f⟩:=jz I.hok e;refine call_len_dict d f (by rw[←b.length];rw[sizeLine_eq]at z;omega) ?_
 rw[←b.length];exact h _ _ (I.tok _)
end
def G_(i:Expr):Prop:=∀a b,subscripted i false a b=operate [a,b] (getItem a b)
theorem z9{prog:Program}{w:World}{A:Around}{E:Value->Shared->Prop}{s:Shared}{env:Env}{b a:Expr}{pos:Pos}{T m:String}{Q:Value->Shared->Prop}
  (n:typeLookup (.type T) "__getitem__"=pure (some (.builtin m))) (p:G_ a)
  (h:wpAny (model prog w) A (eval b env) (λo e=>wpAny (model prog w) A (eval a env) (λi c=>c.TypeIs o T/\wpAny (model prog w) A (getItem o i) Q E c) E e) E s) :
  wpAny (model prog w) A (eval (.Subscript b a pos) env) Q E s:=by
 refine Subscript_ (wpAny_mono h (λo e j=>wpAny_mono j (λi c d=>?_) λ_ _ x=>x) λ_ _ x=>x)
 obtain⟨l,d⟩:=d;unfold subscriptTail;refine wpAny_bind ?_;rw[getitemInPython_of_ne l.not_modules];refine wpAny_bind (wpAny_specialOf l n ?_)
 have g:wpAny (model prog w) A (subscripted a false o i) (λr f=>wpAny (model prog w) A (letTemporaryGo b o r >>= λ_=>pure r) Q E f) E c:=by
  rw[p o i];exact wpAny_operating (wpAny_mono d (λr f k=>wpAny_bind (wpAny_letTemporaryGo (wpAny_pure k))) λ_ _ x=>x)
 first
  |exact wpAny_pure (wpAny_bind g)
  |exact wpAny_bind (wpAny_pure (wpAny_bind g))
  |exact wpAny_bind g
theorem qJ{X:Cx}{pins:List (Addr×Obj)}{b:St}{H:Hp}{s:Shared}{a:Addr}{y:V}{o:Option V}(I:Inv X pins b H s)(g:lS H a y o):s.TypeIs (.ref a) "dict":=by
 rcases g with ⟨c,k,e,_,_⟩|bad
 .obtain⟨_,_,f,_,d⟩:=jz I.hok e
  exact d.typeIs
 .exact bad.elim
noncomputable def Ha(td d:TE):TE:=λb H Q=>td b H λx e=>d b e λy c=>∃a v,x=.ref a/\lS c a y (some v)/\Q v c
noncomputable def Hb(td d e:TE):TS:=λD b H=>e b H λv f=>td b f λx g=>d b g λy h=>∃a c,x=.ref a/\vM h a y v c/\D.nx b c
section
variable{X:Cx}{o i e value:Expr}{pos pos' tpos:Pos}{td ty tv:TE}
theorem z_(d:X.A.units+1<cLine)(e:PE X o td)(f:PE X i ty)(j:G_ i):PE X (.Subscript o i pos) (Ha td ty):=by
 intro pins s c H Q I h;refine z9 PySem.F.slot_dict_getitem.lookup j (cy (e pins s c H _ I h) λu k ⟨x,H1,I1,rx,q1⟩=>cy (f pins k c H1 _ I1 q1) λm n ⟨y,H2,I2,ry,a,v,ex,g,q2⟩=>?_)
 subst ex;obtain rfl:u=Value.ref a:=rx;exact⟨qJ I2 g,vO d I2 g ry λp q l b=>⟨v,H2,l,b,q2⟩⟩
theorem Aa(c:X.A.units+1<cLine)(d:PE X o td)(e:PE X i ty)(f:PE X value tv)(j:swapsWith value (some (.Subscript o i pos')) pos.line X.env=pure false) :
  PS X (.Assign [.Subscript o i pos'] value pos) (Hb td ty tv):=by
 intro pins s b H D I h;refine wpAny_Assign_Subscript (cy (f pins s b H _ I h) λr k ⟨v,H1,I1,rv,q1⟩=>cy (d pins k b H1 _ I1 q1) λu l ⟨x,H2,I2,rx,q2⟩=>cy (e pins l b H2 _ I2 q2) λn p ⟨y,H3,I3,ry,a,H4,ex,g,q3⟩=>?_) j
 subst ex;obtain rfl:u=Value.ref a:=rx;exact vP c I3 g ry rv λq m=>⟨b,H4,m,q3⟩
end
theorem xB{P:Program}{w:World}{H:Hp}(h:Heap)(a:sysModules<h.objs.size):cq P w H (h.push {cls:=.type "dict",data:=.dict #[]}) h.objs.size (.dK []):=
 ⟨Nat.zero_le _,beq_eq_false_iff_ne.mpr (Ne.symm (Nat.ne_of_lt a)),[],.nil,Heap.DictOf.new h⟩
def Eg:TE:=λ_ H Q=>∀p,H p=none->Q (.ref p) (upd H p (.dK []))
section
variable{X:Cx}{pos:Pos}
theorem xC:PE X (.Dict [] [] pos) Eg:=λpins s b H Q I h=>
 wpAny_Dict_empty ⟨.ref s.heap.objs.size,_,I.laid (a:=s.heap.objs.size) (o:=.dK []) (t':=s.toks) (λ_ _ q=>Heap.get?_push_of_some _ q) (Nat.le_refl _) (xB s.heap I.big),rfl,h _ (I.hok.fresh (Nat.le_refl _))⟩
end
def Te(H:Hp)(a:Addr):Prop:=(∃b,Rd H a (.dK b))\/False
theorem xD{X:Cx}{pins:List (Addr×Obj)}{f:St}{H:Hp}{s:Shared}{a:Addr}(I:Inv X pins f H s)(d:Te H a) :
  s.TypeIs (.ref a) "dict"/\(∀b,Value.ref a=.ref b->∃ob,s.heap.get? b=some ob/\ob.dict=none)/\(a==sysModules)=false:=by
 rcases d with ⟨g,e⟩|bad
 .obtain⟨_,h,k,_,c⟩:=jz I.hok e
  refine⟨c.typeIs,λb q=>?_,h⟩
  cases q;obtain⟨ob,_,_,i,j,_⟩:=c;exact⟨ob,i,j.2.1⟩
 .exact bad.elim
section
variable{X:Cx}{pins:List (Addr×Obj)}{σ:St}{H:Hp}{s:Shared}{a:Addr}{y d:V}{u r:Value}{o:Option V}{A:Around}{E:Value->Shared->Prop}
end
section
variable{X:Cx}{o e f:Expr}{apos cpos:Pos}{td ty tx:TE}
end
section
variable{X:Cx}{pins:List (Addr×Obj)}{σ:St}{H:Hp}{s:Shared}{a:Addr}{kvs:List (Key×V)}{A:Around}{E:Value->Shared->Prop}
end
section
variable{X:Cx}{pins:List (Addr×Obj)}{σ:St}{H:Hp}{s:Shared}{a:Addr}{y:V}{u:Value}{A:Around}{E:Value->Shared->Prop}
end
end L2
namespace Q3
open PySem PySem.W PySem.Calls PyProof.Rows
theorem kT{P:Params}{h:Heap}:∀(ns:List Int) (vs:List Value),WellAll P h vs (ns.map WData.int)->IntsAre vs ns:=by
 intro ns
 induction ns with
 |nil=>
  intro vs w;rw[List.map_nil]at w;cases w;exact .nil
 |cons n ns c=>
  intro vs w;rw[List.map_cons]at w;cases w with
  |cons a b=>
   cases a;exact .cons _ _ (c _ b)
theorem vQ{l:OpenLaw}{n:Nat}(o:l.most=some n){P:Params}{h:Heap}{args:List WData}{b:List Value}
  (c:l.row.toRowW.claim.pre args=true) (j:WellAll P h b args) :
  ∃a vs ns,b=[Value.ref a]/\args=[WData.list (ns.map WData.int)]/\h.get? a=some {cls:=.type "list",data:=.seq vs.toArray}/\IntsAre vs ns/\ns.length<=n:=by
 have k:WShape.hasAll [] args [.list .int]=true:=(pre_splitW c).1;have m:l.pre.holds [] {args:=args}=true:=(pre_splitW c).2;obtain⟨d,r,rfl,p,s⟩:=hasAllW_cons k;obtain rfl:=hasAllW_nil s;obtain⟨z,rfl,t⟩:=hasW_list p;obtain⟨ns,rfl⟩:=items_int t
 have e:ns.length<=n:=by
  unfold OpenLaw.pre at m
  have g:(WTm.not (.lt (.lit (.int (n:Int))) (.len (.arg 0)))).holds [] {args:=[.list (ns.map .int)]}=true:=by
   have g:=(holds_andW m).1;rw[o]at g;exact g
  have i:=condW_of g (w_not (w_lt w_lit (w_len_list (w_arg rfl))));rw[List.length_map]at i;refine Nat.le_of_not_lt λq=>?_
  have u:(n:Int)<((ns.length:Nat):Int):=by omega
  first
   | (rw[decide_eq_true u]at i;exact absurd i (by decide))
   | (simp at i;omega)
 cases j with
 |cons w x=>
  cases x;cases w with
  |list y f=>exact⟨_,_,ns,rfl,rfl,y,kT ns _ f,e⟩
theorem vR(l:OpenLaw)(args:List WData):l.row.toRowW.claim.post args (.bool true) args=true:=
 postW_of (r:=l.row.toRowW) (X:=(true==true))
  (show WShape.has [] (.bool true) .bool=true by first|rfl|decide|simp[WShape.has,WShape.arms,WShape.armsAll])
  (show(WTm.eq .res (.lit (.bool true))).value [] {args:=args,res:=some (.bool true),after:=args}=some (.bool (true==true))from w_eq_bool (w_res rfl) w_lit) rfl
theorem qK{l:OpenLaw}{n:Nat}{q:Program}{c:List Str}{B:(Str->Option Value)->Heap->Prop}{C:World->Heap->Prop}{d:DefRec}
  (H:l.most=some n) (t:d.params.defaults=[])
  (call:∀(w:World) (e b:Shared) (mg u:Str->Option Value) (i:Addr) (o:Obj) (x p g:Value) (a:Addr) (vs:List Value) (ns:List Int),
   Ground q c [] B w e mg u b.heap->C w b.heap ->
   b.heap.get? i=some o->o.data=.func (docDef d.name d.params d.body d.scope x p g)->b.heap.CodeRec p d.name->mg d.name=some (.ref i) ->
   b.heap.get? a=some {cls:=.type "list",data:=.seq vs.toArray}->IntsAre vs ns->ns.length<=n->b.gens = #[] ->
   codeAny (model l.prog w) callerA (.call (.ref i) ⟨[.ref a],[]⟩) (λr s=>r=.ok (.ret (.bool true))/\OldK b.heap s.heap/\s.os=b.os/\AllBare s.gens) b) :
  WalkO q c B C l.row.toRowW d [] (λf vs=>PySem.call f vs):=by
 intro w e b mg u G Y i o x p g I kV J K y D z L args E T j F M A N;obtain rfl:I=.none:=Dflts.none D t;obtain rfl:kV=.none:=Dflts.noKw D;obtain⟨a,vs,ns,rfl,rfl,k,h,m⟩:=vQ H j A;refine enter_call (codeAny_mono (call w e b mg u i o x p g a vs ns G Y J (fd_plain K) y z k h m L) λr s O=>?_)
 obtain⟨rfl,P,Q,R⟩:=O;exact⟨.inl ⟨.bool true,.bool true,[],rfl,λ_=>rfl,.bool true,vR l _,λ_=>⟨List.Pairwise.nil,λ_ S=>(nomatch S)⟩⟩,P,Q,R⟩
section
variable{prog:Program}{w:World}{A:Around}{E:Value->Shared->Prop}{s:Shared}{K:Frag}
end
end Q3
namespace L2
open PySem PySem.Spec PyProof.Rows
theorem j4:∀{vs:List Value}{ns:List Int},IntsAre vs ns->Vals (ns.map V.int) vs
 |_,_,.nil=>.nil
 |_,_,.cons n t h=>.cons ⟨t,rfl⟩ (j4 h)
def Only(H:Hp):Prop:=∀b,H b=none\/∃o a,H b=some (.dW o (.lst a))
theorem xE{P:Program}{w:World}{K:PySem.W.Frag}{mg L:Str->Option Value}{CX:rT}{k:Nat}{M a:Addr}{U:FuncData}{x:Str}{sp:Sp}{c:Shared}{vs:List Value}{ns:List Int}
  (X:K.In c.heap) (t:c.heap.Ns mainGlobals mg) (g:c.heap.Ns builtinsNs L) (N:∀x:Str,x≠"__name__"->L x=bootBuiltins x) (y:c.heap.NoLimit) (hg:c.gens = #[])
  (J:c.heap.get? a=some {cls:=.type "list",data:=.seq vs.toArray}) (Y:IntsAre vs ns) (Z:ns.length<=sizeLine) (hr:df k callerA)
  (F:∀base:Heap,K.In base->base.Ns mainGlobals mg->cQ P w K mg base CX k M U [x] sp) (p:∀(s:Shared) (u:Value),BindsTo s U ⟨[u],[]⟩ [(x,u)])
  (O:∀H:Hp,Only H->kQ K H a (ns.map V.int)->sp [.ref a] H (λv _=>v=.bl true) λ_ _ _=>False)
  (Q:∀H e i,CX [] H c (λ_ _ _=>False) e i->False) :
  codeAny (model P w) callerA (.call (.ref M) ⟨[.ref a],[]⟩) (λr i=>r=.ok (.ret (.bool true))/\OldK c.heap i.heap/\i.os=c.os/\AllBare i.gens) c:=by
 have rv:=j4 Y;have A:=Y.length
 have l:∀H:Hp,Only H->kQ K H a (ns.map V.int)->i9 P w H c.heap->(∀b,H b≠none->b=a)->(H a≠none->K.lookup a=none) ->
   codeAny (model P w) callerA (.call (.ref M) ⟨[.ref a],[]⟩) (λr i=>r=.ok (.ret (.bool true))/\OldK c.heap i.heap/\i.os=c.os/\AllBare i.gens) c:=by
  intro H hO hS B hA hK;have f:∀{b:Addr}{o:Obj},c.heap.get? b=some o->H b=none->(oO c.heap H).get? b=some o:=λe n=>wX e n
  have R:∀{b:Addr}{o:Obj}{C:Array DictEntry}{D:Nat},c.heap.get? b=some o->o.data=.dict C D->H b=none:=λ{b o C D} e d=>by
   cases q:H b with
   |none=>rfl
   |some u=>
    have S:b=a:=hA b (by rw[q];simp)
    subst S;rw[J]at e;cases e
    have d':Data.seq vs.toArray _=Data.dict C D:=d;cases d'
  have j:∀{b:Addr}{m:Str->Option Value},c.heap.Ns b m->(oO c.heap H).Ns b m:=λ{b m} ⟨o,C,D,e,d,r⟩=>⟨o,C,D,f e (R e d),d,r⟩
  have E:K.In (oO c.heap H):=λb o e=>f (X b o e) (by
   cases q:H b with
   |none=>rfl
   |some u=>
    have S:b=a:=hA b (by rw[q];simp)
    subst S;rw[hK (by rw[q];simp)]at e;cases e)
  have hM:Mod K mg (oO c.heap H):=⟨E,j t,⟨L,j g,N⟩,let ⟨mc,h1,h2⟩:=y;⟨mc,j h1,h2⟩⟩
  have e0:sE P w K mg (oO c.heap H) callerA [] c H:=⟨rfl,hM,λb o e=>zH e,Nat.le_of_eq (vv _ _),trivial,λb g=>absurd (show b∈([]:List Addr)from g) (by simp),B,.of_eq hg⟩
  refine codeAny_mono ((F _ E (j t)).run callerA [] c H ⟨[.ref a],[]⟩ [.ref a] [.ref a] _ _ hr e0 (p c (.ref a)) (.cons rfl .nil) (O H hO hS)) λr i h=>?_
  cases r with
  |error e=>exact(Q H e i h).elim
  |ok fl=>
   cases fl with
   |next=>exact False.elim h
   |brk=>exact False.elim h
   |cont=>exact False.elim h
   |ret u=>
    obtain⟨v,H',os,bare,un,G,r',q⟩:=h;have q':v=.bl true:=q;subst q';obtain rfl:u=Value.bool true:=r';refine⟨rfl,OldK.of_keep λb o e=>?_,os,bare⟩
    cases q:H b with
    |none=>exact un.keep b o e q (by intro z;exact absurd (show b∈([]:List Addr)from z) (by simp)) (by simp)
    |some u=>
     rcases hO b with z|⟨ob,xs,z⟩
     .rw[q]at z;cases z
     .have z2:=un.gX b ob _ z
      obtain⟨e1,_⟩:=B b _ z;obtain⟨e2,_⟩:=G b _ z2;rw[e]at e1;cases e1
      exact e2
 cases T:K.lookup a with
 |some o=>
  have e:=X a o T;rw[J]at e;cases e;refine l (λ_=>none) (λ_=>.inl rfl) (.inr ⟨_,vs.toArray,_,T,rfl,rfl,rfl,by rw[List.size_toArray,A];exact Z,by simpa using rv⟩) (λb u z=>by have I:(none:Option HO)=some u:=z;cases I) (λb z=>absurd rfl z) λz=>absurd rfl z
 |none=>
  refine l (λb=>if b=a then some (.dW {cls:=.type "list",data:=.seq vs.toArray} (.lst (ns.map V.int)))else none) (λb=>?_) (.inl (.inr ⟨{cls:=.type "list",data:=.seq vs.toArray},if_pos rfl⟩)) (λb u z=>?_) (λb z=>?_) λ_=>T
  .by_cases g:b=a
   .exact .inr ⟨_,_,if_pos g⟩
   .exact .inl (if_neg g)
  .by_cases g:b=a
   .have I:=(if_pos g).symm.trans z
    cases I;subst g;exact⟨J,by rw[List.length_map];exact Z,vs,_,rv,J⟩
   .have I:=(if_neg g).symm.trans z
    cases I
  .by_cases g:b=a
   .exact g
   .exact absurd (if_neg g) z
theorem Ab{l:PySem.W.OpenLaw}{n k:Nat}{q:Program}{i:List Str}{L:(Str->Option Value)->Heap->Prop}{E:World->Heap->Prop}{d:DefRec}{K:Params->PySem.W.Frag}{CX:World->rT}{sp:World->Sp}{x:Str}
  (M:l.most=some n) (t:n<=sizeLine) (y:d.params.defaults=[]) (N:df k callerA)
  (O:∀(w:World) (h:Heap),E w h->(K w.params).In h)
  (F:∀(w:World) (mg:Str->Option Value) (r:Addr) (h:Heap),(K w.params).In h->h.Ns mainGlobals mg->mg d.name=some (.ref r) ->
   ∃z:FuncData,(∀(s:Shared) (u:Value),BindsTo s z ⟨[u],[]⟩ [(x,u)]) /\
    ∀base:Heap,(K w.params).In base->base.Ns mainGlobals mg->cQ l.prog w (K w.params) mg base (CX w) k r z [x] (sp w))
  (A:∀(w:World) (H:Hp) (a:Addr) (ns:List Int),ns.length<=n->Only H->kQ (K w.params) H a (ns.map V.int)->sp w [.ref a] H (λv _=>v=.bl true) λ_ _ _=>False)
  (B:∀(w:World) (H:Hp) (s:Shared) (e:Value) (C:Shared),CX w [] H s (λ_ _ _=>False) e C->False) :
  PySem.W.WalkO q i L E l.row.toRowW d [] (λf vs=>PySem.call f vs):=by
 refine Q3.qK M y λw I m mg mb r o pm cd P a vs ns G Y ho hd Q D p j c R=>?_
 have J:=O w _ Y;obtain⟨z,S,U⟩:=F w mg r _ J G.T.g D;exact xE J G.T.g G.T.b G.T.builtins G.T.nolimit R p j (Nat.le_trans c t) N U S (λH X Z=>A w H a ns c X Z) λH e C=>B w H m e C
noncomputable def inClass(s:Stmt)(j:Nat):Stmt:=match s with
 |.ClassDef _ _ _ body _ _ _ _ _ _ _=>body.getD j (.Pass ⟨0,0,0,0⟩)
 |_=>.Pass ⟨0,0,0,0⟩
noncomputable def ck(s:Stmt):Arguments:=match s with
 |.FunctionDef _ a _ _ _ _ _ _ _ _=>a
 |_=>{posonlyargs:=[],args:=[],vararg:=none,kwonlyargs:=[],kw_defaults:=[],kwarg:=none,defaults:=[]}
noncomputable def cm(s:Stmt):List Stmt:=match s with
 |.FunctionDef _ _ b _ _ _ _ _ _ _=>b
 |_=>[]
noncomputable def av(s:Stmt):Scope:=match s with
 |.FunctionDef _ _ _ _ _ _ a _ _ _=>a
 |_=>{kind:=.function,names:=[],isGenerator:=false,isCoroutine:=false}
abbrev nA:rT:=λ_ _ _ _ _ _=>False
abbrev E0:XK:=λ_ _ _=>False
theorem kA{X:Cx}:Passes nA X E0:=λ_ _ _ _ _ _ _ h=>h.elim
structure Gh(K:PySem.W.Frag)(x qual:Str)(st:Stmt)(f:Addr)(fd:FuncData):Prop where
 ex:∃(oc:Value) (od:Option Addr) (kV doc pm:Value) (an:Option Addr) (cdv ct:Value) (osl:Array (Option Value)),
  fd=PySem.W.fnOf x qual (ck st) (cm st) (av st) .none kV doc pm an cdv ct/\K.lookup f=some ⟨oc,od,.func fd,osl⟩/\PySem.W.codeIn K cdv qual=true
 kp:PySem.W.keepIn K (.ref f)=true
section
variable{P:Program}{w:World}{K:PySem.W.Frag}{mg:Str->Option Value}{base:Heap}
theorem Gh.binds{x qual:Str}{st:Stmt}{f:Addr}{e:FuncData}{ps:List Str}(F:Gh K x qual st f e)
  (h:∀(kV a c:Value) (d:Option Addr) (b ct:Value) (us:List Value),us.length=ps.length->bindArgs (PySem.W.fnOf x qual (ck st) (cm st) (av st) .none kV a c d b ct) ⟨us,[]⟩=pure (ps.zip us)):Binds K e ps []:=by
 obtain⟨oc,j,kV,a,c,d,b,ct,g,rfl,k,i⟩:=F.ex;exact .all (h kV a c d b ct)
theorem sH{x qual:Str}{st:Stmt}{f:Addr}{oc:Value}{h e:Option Addr}{d:Array (Option Value)}{kV b g a ct:Value}(l:K.lookup f=some ⟨oc,h,.func (PySem.W.fnOf x qual (ck st) (cm st) (av st) .none kV b g e a ct),d⟩)
  (c:PySem.W.codeIn K a qual=true) (k:PySem.W.keepIn K (.ref f)=true):Gh K x qual st f (PySem.W.fnOf x qual (ck st) (cm st) (av st) .none kV b g e a ct):=⟨⟨oc,h,kV,b,g,e,a,ct,d,rfl,l,c⟩,k⟩
end
section
variable{X:Cx}
theorem vS:fj X (.builtin "len") (λxs H Q=>∃a kvs,xs=[V.ref a]/\Rd H a (.dK kvs)/\Q (.int kvs.length) H):=by
 intro pins s e H xs f Q I r h;obtain⟨a,kvs,rfl,b,q⟩:=h;obtain⟨u,rfl,c⟩:=vals1 r;cases c;exact G9 I b λt g d=>⟨.int kvs.length,H,d,⟨t,rfl⟩,q⟩
end
theorem qL{A B:Prop}(h:B):if false=true then A else B:=by
 rw[if_neg Bool.false_ne_true];exact h
theorem qM{A B:Prop}(h:A):if true=true then A else B:=by
 rw[if_pos rfl];exact h
def jA(H a:Hp):Prop:=∀b o,H b=some o->a b=some o
theorem jA.refl(H:Hp):jA H H:=λ_ _ h=>h
theorem jA.trans{H d e:Hp}(a:jA H d)(b:jA d e):jA H e:=λc o h=>b c o (a c o h)
section
variable{κ:Type}[DecidableEq κ]
end
end L2
namespace Mir
open PySem
inductive D where
 |non|bl (b:Bool)|int (i:Int)|str (x:Str)
 |lst (xs:List D)|tup (xs:List D)|dct (ks:List L2.Key) (vs:List D)|ref (n:Nat)
 deriving Inhabited
inductive Out (α:Type) where
 |ok (a:α)|exc (c:Str) (fs:List (Str×D))|bad
noncomputable def Out.bind{b d:Type}:Out b->(b->Out d)->Out d
 |.ok a,f=>f a
 |.exc c fs,_=>.exc c fs
 |.bad,_=>.bad
instance:Monad Out where
 pure:=.ok
 bind:=Out.bind
@[simp] theorem Km{b c:Type}(a:b)(f:b->Out c):(Out.ok a >>= f)=f a:=rfl
@[simp] theorem Hc{a b:Type}(f:a->Out b):((Out.bad:Out a) >>= f)=.bad:=rfl
@[simp] theorem Hd{a b:Type}(c fs)(f:a->Out b):((Out.exc c fs:Out a) >>= f)=.exc c fs:=rfl
@[simp] theorem Kn{b:Type}(a:b):(pure a:Out b)=.ok a:=rfl
mutual
noncomputable def fy:D->D->Bool
 |.non,.non=>true
 |.bl a,.bl b=>a==b
 |.bl a,.int j=>(if a then 1 else 0)==j
 |.int i,.bl b=>i==(if b then 1 else 0)
 |.int i,.int j=>i==j
 |.str x,.str y=>x==y
 |.lst xs,.lst ys=>eW xs ys
 |.tup xs,.tup ys=>eW xs ys
 |_,_=>false
noncomputable def eW:List D->List D->Bool
 |[],[]=>true
 |x::xs,y::ys=>fy x y&&eW xs ys
 |_,_=>false
end
noncomputable def aT:Nat->D->Bool
 |_,.non|_,.bl _|_,.int _|_,.str _=>true
 |n+1,.lst xs|n+1,.tup xs=>xs.all (aT n)
 |_,_=>false
noncomputable def small(n:Nat):Bool:=decide (n<=sizeLine)
def kU:D->Option Bool
 |.non=>some false
 |.bl b=>some b
 |.int i=>some (i != 0)
 |.str x=>if small x.length then some (x.length != 0)else none
 |.lst xs=>some (!xs.isEmpty)
 |.tup xs=>some (!xs.isEmpty)
 |_=>none
abbrev Rs:=Bool×D
noncomputable def lT(i:Int):Bool:=decide (i.natAbs<18446744073709551616)
theorem qN{i:Int}(h:lT i=true): -(2 ^ 64)<i/\i<2 ^ 64:=by
 have:=of_decide_eq_true h;omega
def fQ(op:Operator)(x y:D):Out Rs:=
 match op,x,y with
 |.Add,.int i,.int j=>.ok (false,.int (i+j))
 |.Sub,.int i,.int j=>.ok (false,.int (i - j))
 |.Mult,.int i,.int j=>if lT i||lT j then .ok (false,.int (i*j))else .bad
 |.FloorDiv,.int i,.int j=>if decide (0<j)&&decide (j<1073741824)then .ok (false,.int (i / j))else .bad
 |.Mod,.int i,.int j=>if decide (0<j)then .ok (false,.int (i%j))else .bad
 |.Pow,.int i,.int j=>if decide (0<=j)&&decide (j<=1000)&&decide (i.natAbs<2 ^ 64)then .ok (false,.int (i ^ j.toNat))else .bad
 |.Add,.str i,.str j=>if small (i.length+j.length)then .ok (false,.str (i++j))else .bad
 |.Add,.lst i,.lst j=>if small (i.length+j.length)then .ok (true,.lst (i++j))else .bad
 |_,_,_=>.bad
noncomputable def uq(x y:Str):Bool := !(Builtin.Str.occurrences y x 0 y.length 1).isEmpty
def inD(x y:D):Out Bool:=
 match x,y with
 |x,.lst a=>if aT 8 x&&a.all (aT 8)then .ok (a.any λy=>fy y x)else .bad
 |x,.tup a=>if aT 8 x&&a.all (aT 8)then .ok (a.any λy=>fy y x)else .bad
 |.str x,.str y=>.ok (uq x y)
 |_,_=>.bad
noncomputable def isD(x y:D):Out Bool:=
 match x,y with
 |.non,.non=>.ok true
 |_,.non=>.ok false
 |.bl a,.bl b=>.ok (a==b)
 |.non,.bl _=>.ok false
 |.int _,.bl _=>.ok false
 |.str _,.bl _=>.ok false
 |.lst _,.bl _=>.ok false
 |.tup _,.bl _=>.ok false
 |_,_=>.bad
def ez(op:CmpOp)(x y:D):Out Bool:=
 match op,x,y with
 |.Eq,x,y=>if aT 8 x&&aT 8 y then .ok (fy x y)else .bad
 |.NotEq,x,y=>if aT 8 x&&aT 8 y then .ok (!fy x y)else .bad
 |.Lt,.int i,.int j=>.ok (decide (i<j))
 |.LtE,.int i,.int j=>.ok (decide (i<=j))
 |.Gt,.int i,.int j=>.ok (decide (j<i))
 |.GtE,.int i,.int j=>.ok (decide (j<=i))
 |.In,x,y=>inD x y
 |.NotIn,x,y=>do let b ←inD x y;.ok (!b)
 |.Is,x,y=>isD x y
 |.IsNot,x,y=>do let b ←isD x y;.ok (!b)
 |_,_,_=>.bad
noncomputable def bE(c:Nat):Str:=⟨#[c]⟩
def sI(x y:D):Out Rs:=
 match x,y with
 |.lst a,.int i=>match L2.kx a i with|some d=>.ok (false,d)|none=>.bad
 |.tup a,.int i=>match L2.kx a i with|some d=>.ok (false,d)|none=>.bad
 |.str z,.int i=>if small z.length then (match L2.kx z.cps.toList i with|some c=>.ok (false,.str (bE c))|none=>.bad)else .bad
 |_,_=>.bad
def dC{a:Type}(xs:List a)(b c:Option Int):List a:=(xs.drop (HT.iS xs.length 0 b)).take (HT.iS xs.length xs.length c - HT.iS xs.length 0 b)
def xF(x:D)(a b:Option Int):Out Rs:=
 match x with
 |.lst c=>.ok (true,.lst (dC c a b))
 |.str z=>if small z.length then .ok (false,.str ⟨(dC z.cps.toList a b).toArray⟩)else .bad
 |_=>.bad
noncomputable def intsFrom(a:Int):Nat->List D
 |0=>[]
 |n+1=>.int a::intsFrom (a+1) n
noncomputable def nH(i:Int):Bool:=decide (i.natAbs<4611686018427387904)
theorem qO{i:Int}(h:nH i=true): -(2 ^ 62)<=i/\i<2 ^ 62:=by
 have:=of_decide_eq_true h;omega
noncomputable def dD(i:Nat):List D->List D
 |[]=>[]
 |d::ds=>.tup [.int i,d]::dD (i+1) ds
inductive nI where
 |len|all|any|sorted|list|tuple|int|min|max|bool
 deriving DecidableEq
def fR:List D->Option (List Bool)
 |[]=>some []
 |d::r=>match kU d,fR r with|some b,some bs=>some (b::bs)|_,_=>none
noncomputable def n9:List D->Option (List Int)
 |[]=>some []
 |.int i::r=>(n9 r).map (i :: ·)
 |_=>none
noncomputable def iX:List D->Option (List Str)
 |[]=>some []
 |.str i::r=>(iX r).map (i :: ·)
 |_=>none
noncomputable def cu(a b:Str):Bool := !decide (b.cps.toList<a.cps.toList)
def jB(ds:List D):Out (List D):=
 if 64<=ds.length then .bad else
 match n9 ds with
 |some c=>.ok ((c.mergeSort λa b=>decide (a<=b)).map .int)
 |none=>match iX ds with
  |some d=>.ok ((d.mergeSort cu).map .str)
  |none=>.bad
def jc(f:nI)(a:D):Out Rs:=
 match f,a with
 |.len,.tup [.lst b]=>.ok (false,.int b.length)
 |.len,.tup [.tup b]=>.ok (false,.int b.length)
 |.len,.tup [.str z]=>if small z.length then .ok (false,.int z.length)else .bad
 |.all,.tup [.lst b]=>match fR b with|some bs=>.ok (false,.bl (bs.all id))|none=>.bad
 |.any,.tup [.lst b]=>match fR b with|some bs=>.ok (false,.bl (bs.any id))|none=>.bad
 |.sorted,.tup [.lst b]=>do let c ←jB b;.ok (true,.lst c)
 |.list,.tup [.lst b]=>.ok (true,.lst b)
 |.list,.tup [.tup b]=>.ok (true,.lst b)
 |.tuple,.tup [.lst b]=>.ok (false,.tup b)
 |.tuple,.tup [.tup b]=>.ok (false,.tup b)
 |.int,.tup [.int i]=>.ok (false,.int i)
 |.int,.tup [.bl k]=>.ok (false,.int (if k then 1 else 0))
 |.min,.tup [.int i,.int j]=>.ok (false,.int (if j<i then j else i))
 |.max,.tup [.int i,.int j]=>.ok (false,.int (if j>i then j else i))
 |_,_=>.bad
inductive Tf where
 |index|join
 deriving DecidableEq
def Eh(m:Tf)(x:D)(a:D):Out Rs:=
 match m,x,a with
 |.index,.lst b,.tup [d]=>if aT 8 d&&b.all (aT 8)then (match b.findIdx? λy=>fy y d with|some j=>.ok (false,.int j)|none=>.bad)else .bad
 |.index,.str z,.tup [.str y]=>match Builtin.Str.occurrences z y 0 z.length 1 with|i::_=>.ok (false,.int i)|[]=>.bad
 |.join,.str z,.tup [.lst c]=>match iX c with|some b=>if decide (z.length<=16)&&decide ((b.map (·.length)).sum+b.length<=1048576)then .ok (false,.str (Txt.join z b))else .bad|none=>.bad
 |_,_,_=>.bad
inductive Ty where
 |int|str|bool|list|tuple|dict
 deriving DecidableEq
noncomputable def xG:D->Ty->Option Bool
 |.non,_=>some false
 |.bl _,t=>some (t==.bool||t==.int)
 |.int _,t=>some (t==.int)
 |.str _,t=>some (t==.str)
 |.lst _,t=>some (t==.list)
 |.tup _,t=>some (t==.tuple)
 |.dct _ _,t=>some (t==.dict)
 |.ref _,_=>none
noncomputable def fD:D->Bool
 |.non|.bl _|.int _|.str _=>true
 |_=>false
noncomputable def fuel:Nat:=100000
def ph{a:Type}(xs:List a)(i:Int)(x:a):List a:=let k:=HT.iS xs.length 0 (some i);xs.take k++x::xs.drop k
end Mir
namespace Mir
open PySem PySem.Spec PyProof.Rows L2
mutual
noncomputable def Rep(Z:Addr->Prop)(H:Hp):D->V->Prop
 |.non,v=>v=.non
 |.bl b,v=>v=.bl b
 |.int i,v=>v=.int i
 |.str x,v=>v=.str x
 |.lst ds,v=>∃a vs,v=.ref a/\Z a/\Rd H a (.lst vs)/\bb Z H ds vs
 |.tup ds,v=>∃a vs,v=.ref a/\Z a/\Rd H a (.tup vs)/\bb Z H ds vs
 |.dct ks ds,v=>∃a vs,v=.ref a/\Z a/\H a=some (.dK (ks.zip vs))/\bb Z H ds vs
 |.ref _,_=>False
noncomputable def bb(Z:Addr->Prop)(H:Hp):List D->List V->Prop
 |[],vs=>vs=[]
 |d::ds,vs=>∃v r,vs=v::r/\Rep Z H d v/\bb Z H ds r
end
section
variable{Z Z':Addr->Prop}{H H':Hp}
theorem pj{a:Addr}{u:HO}(k:∀o,H a=some o->H' a=some o)(h:Rd H a u):Rd H' a u:=by
 rcases h with h|⟨o,h⟩
 .exact .inl (k _ h)
 .exact .inr ⟨o,k _ h⟩
mutual
theorem Rep.mono(k:∀a o,Z a->H a=some o->H' a=some o)(z:∀a,Z a->Z' a):∀{d:D}{v:V},Rep Z H d v->Rep Z' H' d v
 |.non,_,h=>by simpa only [Rep]using h
 |.bl _,_,h=>by simpa only [Rep]using h
 |.int _,_,h=>by simpa only [Rep]using h
 |.str _,_,h=>by simpa only [Rep]using h
 |.lst ds,v,h=>by
  simp only[Rep]at h ⊢;obtain⟨a,vs,e,b,c,hs⟩:=h;exact⟨a,vs,e,z a b,pj (λo=>k a o b) c,bb.mono k z hs⟩
 |.tup ds,v,h=>by
  simp only[Rep]at h ⊢;obtain⟨a,vs,e,b,c,hs⟩:=h;exact⟨a,vs,e,z a b,pj (λo=>k a o b) c,bb.mono k z hs⟩
 |.dct f ds,v,h=>by
  simp only[Rep]at h ⊢;obtain⟨a,vs,e,b,c,hs⟩:=h;exact⟨a,vs,e,z a b,k a _ b c,bb.mono k z hs⟩
 |.ref _,_,h=>by simp only[Rep]at h
theorem bb.mono(k:∀a o,Z a->H a=some o->H' a=some o)(z:∀a,Z a->Z' a):∀{ds:List D}{vs:List V},bb Z H ds vs->bb Z' H' ds vs
 |[],_,h=>by simpa only [bb]using h
 |d::ds,vs,h=>by
  simp only[bb]at h ⊢;obtain⟨v,r,e,h1,h2⟩:=h;exact⟨v,r,e,Rep.mono k z h1,bb.mono k z h2⟩
end
theorem bb.length:∀{ds:List D}{vs:List V},bb Z H ds vs->vs.length=ds.length
 |[],_,h=>by simp only[bb]at h;rw[h];rfl
 |d::ds,_,h=>by
  simp only[bb]at h;obtain⟨v,r,e,_,h2⟩:=h;rw[e,List.length_cons,List.length_cons,bb.length h2]
theorem bb.get:∀{ds:List D}{vs:List V}{i:Nat}{d:D},bb Z H ds vs->ds[i]?=some d->∃v,vs[i]?=some v/\Rep Z H d v
 |[],_,_,_,_,e=>by simp at e
 |d::ds,_,0,_,h,e=>by
  simp only[bb]at h;obtain⟨v,r,rfl,h1,_⟩:=h;simp at e;subst e
  exact⟨v,rfl,h1⟩
 |d::ds,_,i+1,a,h,e=>by
  simp only[bb]at h;obtain⟨v,r,rfl,_,b⟩:=h;obtain⟨u,c,f⟩:=bb.get (i:=i) (d:=a) b (by simpa using e)
  exact⟨u,by simpa using c,f⟩
theorem bb.append:∀{ds es:List D}{vs a:List V},bb Z H ds vs->bb Z H es a->bb Z H (ds++es) (vs++a)
 |[],_,_,_,h,h'=>by simp only[bb]at h;rw[h];exact h'
 |d::ds,_,_,_,h,h'=>by
  simp only[bb]at h;obtain⟨v,r,rfl,h1,h2⟩:=h
  show bb Z H (d::(ds++_)) (v::(r++_))
  simp only[bb];exact⟨v,_,rfl,h1,bb.append h2 h'⟩
theorem bb.nil:bb Z H [] []:=by simp only[bb]
theorem bb.cons{d:D}{ds:List D}{v:V}{vs:List V}(h:Rep Z H d v)(h':bb Z H ds vs):bb Z H (d::ds) (v::vs):=by
 simp only[bb];exact⟨v,vs,rfl,h,h'⟩
theorem bb.nil_inv{vs:List V}(h:bb Z H [] vs):vs=[]:=by simpa only [bb]using h
theorem bb.cons_inv{d:D}{ds:List D}{vs:List V}(h:bb Z H (d::ds) vs):∃v r,vs=v::r/\Rep Z H d v/\bb Z H ds r:=by simpa only [bb]using h
def Now(Z:Addr->Prop)(H:Hp)(d:D)(v:V):Prop:=
 match d with
 |.lst c=>∃a b,v=.ref a/\Rd H a (.lst b)/\bb Z H c b
 |d=>Rep Z H d v
theorem Rep.now{d:D}{v:V}(h:Rep Z H d v):Now Z H d v:=by
 cases d with
 |lst c=>
  simp only[Rep]at h;obtain⟨a,b,e,_,h⟩:=h;exact⟨a,b,e,h⟩
 |_=>exact h
end
structure fk(Z:Addr->Prop)(H:Hp)(Z':Addr->Prop)(H':Hp):Prop where
 same:jA H H'
 sub:∀a,Z a->Z' a
 new:∀a,Z' a->Z a\/H a=none
 dom:∀a,Z' a->H' a≠none
theorem fk.refl{Z:Addr->Prop}{H:Hp}(d:∀a,Z a->H a≠none):fk Z H Z H:=⟨jA.refl _,λ_ h=>h,λ_ h=>.inl h,d⟩
theorem jA.laid{H:Hp}{p:Addr}{o:HO}(h:H p=none):jA H (upd H p o):=λb u e=>by rw[aM (bf e h)];exact e
theorem fk.laid{Z:Addr->Prop}{H:Hp}{p:Addr}{o:HO}(d:∀a,Z a->H a≠none)(h:H p=none):fk Z H Z (upd H p o):=
 ⟨jA.laid h,λ_ h=>h,λ_ h=>.inl h,λa b=>by
  have ne:a≠p:=λe=>d a b (by rw[e];exact h)
  rw[aM ne];exact d a b⟩
def Zp(Z:Addr->Prop)(p:Addr):Addr->Prop:=λa=>Z a\/a=p
section
variable{Z0 Z Z':Addr->Prop}{H0 H H':Hp}{ρ:Ac}{σ:L2.St}
end
def eJ(bw b:Bool)(Z:Addr->Prop)(f H:Hp)(d:D)(v:V):Prop:=
 if b=true then ∃a c e,d=.lst e/\v=.ref a/\f a=none/\¬ Z a/\H a=some (.lst c)/\bb Z H e c
 else if bw=true then Now Z H d v else Rep Z H d v
theorem eJ.own{bw:Bool}{Z:Addr->Prop}{b H:Hp}{a:Addr}{ds:List D}{vs:List V}(c:b a=none)(d:¬ Z a)(e:H a=some (.lst vs))(f:bb Z H ds vs):eJ bw true Z b H (.lst ds) (.ref a):=by
 unfold eJ;rw[if_pos rfl];exact⟨a,vs,ds,rfl,rfl,c,d,e,f⟩
theorem eJ.rep{bw:Bool}{Z:Addr->Prop}{a H:Hp}{d:D}{v:V}(h:Rep Z H d v):eJ bw false Z a H d v:=by
 unfold eJ;rw[if_neg Bool.false_ne_true]
 split
 .exact h.now
 .exact h
theorem eJ.now{b:Bool}{Z:Addr->Prop}{c H:Hp}{d:D}{v:V}(h:eJ true b Z c H d v):Now Z H d v:=by
 unfold eJ at h;split at h
 .obtain⟨a,e,i,rfl,rfl,_,_,f,g⟩:=h
  exact⟨a,e,rfl,.inl f,g⟩
 .rw[if_pos rfl]at h;exact h
theorem PE.imp{X:Cx}{e:Expr}{t t':TE}(h:PE X e t)(i:∀a H Q,t' a H Q->t a H Q):PE X e t':=λpins s a H Q I q=>h pins s a H Q I (i a H Q q)
theorem lU{d e:Type}{x:Out d}{f:d->Out e}{b:e}(h:(x >>= f)=.ok b):∃a,x=.ok a/\f a=.ok b:=by
 cases x with
 |ok a=>exact⟨a,rfl,h⟩
 |exc c g=>cases h
 |bad=>cases h
section
variable{Γ:nJ}{Z0 Z:Addr->Prop}{H0 H:Hp}{ρ:Ac}{σ:L2.St}{c:Ex}{Q:VK}{own:Bool}{d:D}
end
end Mir
namespace Mir
open PySem PySem.Spec PyProof.Rows L2
section
variable{Z Z':Addr->Prop}{H H2 H':Hp}{d:D}{v:V}{bw own:Bool}
theorem bI{n:Nat}(h:small n=true):n<=sizeLine:=of_decide_eq_true h
end
section
variable{X:Cx}{Γ:nJ}{bw:Bool}{a b e:Expr}{ca cb c:Ex}{pos:Pos}
noncomputable def fS:D->Option V
 |.non=>some .non
 |.bl b=>some (.bl b)
 |.int i=>some (.int i)
 |.str x=>some (.str x)
 |_=>none
theorem fT{Z:Addr->Prop}{H:Hp}{d:D}{v:V}(h:fS d=some v):Rep Z H d v:=by
 cases d<;>simp only[fS]at h<;>first|cases h;simp only[Rep]|cases h
end
section
variable{Z:Addr->Prop}{H:Hp}{x:V}
theorem gv(h:Now Z H .non x):x=.non:=by simpa only [Now,Rep]using h
theorem bt{i:Int}(h:Now Z H (.int i) x):x=.int i:=by simpa only [Now,Rep]using h
theorem jd{i:Bool}(h:Now Z H (.bl i) x):x=.bl i:=by simpa only [Now,Rep]using h
theorem dE{i:Str}(h:Now Z H (.str i) x):x=.str i:=by simpa only [Now,Rep]using h
theorem dR{ds:List D}(h:Now Z H (.lst ds) x):∃a vs,x=.ref a/\Rd H a (.lst vs)/\bb Z H ds vs:=h
theorem gw{ds:List D}(h:Now Z H (.tup ds) x):∃a vs,x=.ref a/\Z a/\Rd H a (.tup vs)/\bb Z H ds vs:=by simpa only [Now,Rep]using h
theorem lV{K:PySem.W.Frag}{a:Addr}{vs:List V}(h:Rd H a (.lst vs)):kQ K H a vs:=.inl h
theorem wU{K:PySem.W.Frag}{a:Addr}{vs:List V}(h:Rd H a (.tup vs)):ug K H a vs:=.inl h
theorem Ad{bw:Bool}{Q:VK}{ds:List D}{vs:List V}(b:∀a,Z a->H a≠none)(f:bb Z H ds vs)
  (k:∀v d e,fk Z H e d->eJ bw true e H d (.lst ds) v->Q v d):∀p,H p=none->Q (.ref p) (upd H p (.lst vs)):=λp c=>
 k _ _ Z (fk.laid b c) (.own c (λz=>b p z c) ba (f.mono (λa o _=>jA.laid c a o) λ_ z=>z))
end
section
variable{X:Cx}{Γ:nJ}{bw:Bool}{a b e:Expr}{ca cb c:Ex}{pos:Pos}
def De:R2:=λx y H Q=>∃l b a c,x=.ref l/\y=.ref b/\Rd H l (.lst a)/\Rd H b (.lst c)/\a.length+c.length<=sizeLine/\∀p,H p=none->Q (.ref p) (upd H p (.lst (a++c)))
theorem Ae:h9 X (binaryOp .Add) De:=by
 intro pins s w H x y v u Q I i j h;obtain⟨l,b,d,f,rfl,rfl,k,m,A,q⟩:=h;cases i;cases j;obtain⟨z,a,n,r,e⟩:d.length<=sizeLine/\∃(a:List Value) (n:Nat),Vals d a/\s.heap.get? l=some {cls:=.type "list",data:=.seq a.toArray n}:=Rd.ok k I.hok;obtain⟨B,c,C,g,o⟩:f.length<=sizeLine/\∃(a:List Value) (n:Nat),Vals f a/\s.heap.get? b=some {cls:=.type "list",data:=.seq a.toArray n}:=Rd.ok m I.hok;have D:=r.length;have p:=g.length;refine PySem.P.add_list e o ?_ (by rw[List.size_toArray,List.size_toArray];omega)
 have t:a.toArray++c.toArray=(a++c).toArray:=by simp
 rw[t];exact⟨.ref _,_,I.Mz (t':=s.toks) (r.append g) (by rw[List.length_append];omega),rfl,q _ I.fresh⟩
def Af(op:Operator):R2:=λx y H Q=>match op with
 |.Add=>(∃i j,x=.int i/\y=.int j/\Q (.int (i+j)) H)\/(∃i j,x=.str i/\y=.str j/\i.length+j.length<=sizeLine/\Q (.str (i++j)) H)\/De x y H Q
 |.Sub=>∃i j,x=.int i/\y=.int j/\Q (.int (i - j)) H
 |.Mult=>∃i j,x=.int i/\y=.int j/\zR i j/\Q (.int (i*j)) H
 |.FloorDiv=>∃i j,x=.int i/\y=.int j/\GO i j/\Q (.int (i / j)) H
 |.Mod=>∃i j,x=.int i/\y=.int j/\0<j/\Q (.int (i%j)) H
 |.Pow=>∃i j,x=.int i/\y=.int j/\GP i j/\Q (.int (i ^ j.toNat)) H
 |_=>False
theorem xH(op:Operator):h9 X (binaryOp op) (Af op):=by
 cases op with
 |Add=>exact DV.or (sm.or Ae)
 |Sub=>exact DW
 |Mult=>exact DX
 |FloorDiv=>exact zS
 |Mod=>exact DY
 |Pow=>exact DZ
 |_=>exact λ_ _ _ _ _ _ _ _ _ _ _ _ h=>h.elim
theorem Ei{op:Operator}{n o:D}{x y:V}{Z:Addr->Prop}{H:Hp}{h:Bool}{d:D}{Q:VK}(f:Now Z H n x)(g:Now Z H o y)(i:∀a,Z a->H a≠none)(b:fQ op n o=.ok (h,d))
  (k:∀v j p,fk Z H p j->eJ bw h p H j d v->Q v j):Af op x y H Q:=by
 have c:∀{r:D}{v:V},fS r=some v->Out.ok (false,r)=Out.ok (h,d)->Q v H:=λu q=>by
  cases q;exact k _ H Z (fk.refl i) (.rep (fT u))
 unfold fQ at b;split at b
 .cases bt f;cases bt g
  exact .inl ⟨_,_,rfl,rfl,c rfl b⟩
 .cases bt f;cases bt g
  exact⟨_,_,rfl,rfl,c rfl b⟩
 .cases bt f;cases bt g
  split at b
  .rename_i e
   refine⟨_,_,rfl,rfl,?_,c rfl b⟩;simp only[Bool.or_eq_true]at e;have e:=e.imp qN qN;exact e
  .cases b
 .cases bt f;cases bt g
  split at b
  .rename_i e
   refine⟨_,_,rfl,rfl,?_,c rfl b⟩;simp only[Bool.and_eq_true,decide_eq_true_eq]at e;exact e
  .cases b
 .cases bt f;cases bt g
  split at b
  .rename_i e
   exact⟨_,_,rfl,rfl,of_decide_eq_true e,c rfl b⟩
  .cases b
 .cases bt f;cases bt g
  split at b
  .rename_i e
   refine⟨_,_,rfl,rfl,?_,c rfl b⟩;simp only[Bool.and_eq_true,decide_eq_true_eq]at e;exact⟨e.1.1,Int.le_trans e.1.2 (by decide),e.2⟩
  .cases b
 .cases dE f;cases dE g
  split at b
  .rename_i e
   exact .inr (.inl ⟨_,_,rfl,rfl,bI e,c rfl b⟩)
  .cases b
 .obtain⟨l,w,rfl,z,s⟩:=dR f
  obtain⟨m,A,rfl,B,t⟩:=dR g;split at b
  .rename_i e
   cases b;have C:=bI e;exact .inr (.inr ⟨l,m,w,A,rfl,rfl,z,B,by rw[s.length,t.length];exact C,Ad i (s.append t) k⟩)
  .cases b
 .cases b
end
section
variable{Z:Addr->Prop}{H:Hp}
theorem pk{a:Addr}{u b:HO}(d:∀o w,u≠.dW o w)(c:∀o w,b≠.dW o w)(h:Rd H a u)(h':Rd H a b):u=b:=by
 rcases h with h|⟨o,h⟩<;>rcases h' with h' |⟨f,h'⟩<;>rw[h]at h'<;>injection h' with e
 .exact absurd e (d _ _)
 .exact absurd e.symm (c _ _)
 .injection e
theorem sJ{a:Addr}{xs ys:List V}(h:Rd H a (.lst xs))(h':Rd H a (.lst ys)):xs=ys:=by
 have e:=pk (λ_ _ z=>by cases z) (λ_ _ z=>by cases z) h h'
 injection e
theorem sL{a:Addr}{xs ys:List V}(h:Rd H a (.tup xs))(h':Rd H a (.tup ys)):xs=ys:=by
 have e:=pk (λ_ _ z=>by cases z) (λ_ _ z=>by cases z) h h'
 injection e
theorem ur{a:Addr}{xs ys:List V}(h:Rd H a (.lst xs))(h':Rd H a (.tup ys)):False:=by
 have e:=pk (λ_ _ z=>by cases z) (λ_ _ z=>by cases z) h h'
 cases e
mutual
theorem Rep.uniq:∀(n:Nat) (d d':D) (v:V),aT n d=true->aT n d'=true->Rep Z H d v->Rep Z H d' v->d=d'
 |n,.lst xs,d',v,o,o',h,h'=>by
  simp only[Rep]at h;obtain⟨a,vs,rfl,_,h1,h2⟩:=h;cases d'<;>simp only[Rep]at h'
  case lst ys=>
   obtain⟨b,g,e,_,c,f⟩:=h';cases e;cases sJ h1 c;cases n with
   |zero=>simp[aT]at o
   |succ n=>rw[bb.uniq n xs ys vs (by simpa[aT]using o) (by simpa[aT]using o') h2 f]
  case tup ys=>
   obtain⟨b,g,e,_,c,f⟩:=h';cases e;exact(ur h1 c).elim
  case dct ks ys=>cases n<;>simp[aT]at o'
  all_goals cases h'
 |n,.tup xs,d',v,o,o',h,h'=>by
  simp only[Rep]at h;obtain⟨a,vs,rfl,_,h1,h2⟩:=h;cases d'<;>simp only[Rep]at h'
  case tup ys=>
   obtain⟨b,g,e,_,c,f⟩:=h';cases e;cases sL h1 c;cases n with
   |zero=>simp[aT]at o
   |succ n=>rw[bb.uniq n xs ys vs (by simpa[aT]using o) (by simpa[aT]using o') h2 f]
  case lst ys=>
   obtain⟨b,g,e,_,c,f⟩:=h';cases e;exact(ur c h1).elim
  case dct ks ys=>cases n<;>simp[aT]at o'
  all_goals cases h'
 |n,.dct ks xs,_,_,o,_,_,_=>by cases n<;>simp[aT]at o
 |n,.ref _,_,_,_,_,h,_=>by simp only[Rep]at h
 |n,.non,d',v,_,o',h,h'=>by
  simp only[Rep]at h;subst h
  cases d'<;>simp only[Rep]at h'<;>first|rfl | (obtain⟨_,_,e,_⟩:=h';cases e;done) | (cases h';done)
 |n,.bl b,d',v,_,o',h,h'=>by
  simp only[Rep]at h;subst h
  cases d'<;>simp only[Rep]at h'<;>first | (obtain⟨_,_,e,_⟩:=h';cases e;done) | (cases h';rfl) | (cases h';done)
 |n,.int b,d',v,_,o',h,h'=>by
  simp only[Rep]at h;subst h
  cases d'<;>simp only[Rep]at h'<;>first | (obtain⟨_,_,e,_⟩:=h';cases e;done) | (cases h';rfl) | (cases h';done)
 |n,.str b,d',v,_,o',h,h'=>by
  simp only[Rep]at h;subst h
  cases d'<;>simp only[Rep]at h'<;>first | (obtain⟨_,_,e,_⟩:=h';cases e;done) | (cases h';rfl) | (cases h';done)
theorem bb.uniq:∀(n:Nat) (xs ys:List D) (vs:List V),(∀x∈xs,aT n x=true)->(∀x∈ys,aT n x=true)->bb Z H xs vs->bb Z H ys vs->xs=ys
 |n,[],ys,vs,_,_,h,h'=>by
  rw[h.nil_inv]at h';cases ys with
  |nil=>rfl
  |cons y ys=>obtain⟨_,_,e,_⟩:=h'.cons_inv;cases e
 |n,x::xs,ys,vs,o,b,h,h'=>by
  obtain⟨v,r,rfl,c,d⟩:=h.cons_inv;cases ys with
  |nil=>exact absurd h'.nil_inv (by simp)
  |cons y ys=>
   obtain⟨w,i,e,f,g⟩:=h'.cons_inv;cases e;rw[Rep.uniq n x y v (o x (by simp)) (b y (by simp)) c f,bb.uniq n xs ys r (λz a=>o z (by simp[a])) (λz a=>b z (by simp[a])) d g]
end
mutual
theorem xI:∀(n:Nat) (d:D),aT n d=true->fy d d=true
 |n,.lst xs,o=>by
  cases n with
  |zero=>simp[aT]at o
  |succ n=>simp only[fy];exact fU n xs (by simpa[aT]using o)
 |n,.tup xs,o=>by
  cases n with
  |zero=>simp[aT]at o
  |succ n=>simp only[fy];exact fU n xs (by simpa[aT]using o)
 |n,.dct _ _,o=>by cases n<;>simp[aT]at o
 |n,.ref _,o=>by cases n<;>simp[aT]at o
 |n,.non,_=>by simp[fy]
 |n,.bl _,_=>by simp[fy]
 |n,.int _,_=>by simp[fy]
 |n,.str _,_=>by simp[fy]
theorem fU:∀(n:Nat) (xs:List D),(∀x∈xs,aT n x=true)->eW xs xs=true
 |n,[],_=>by simp[eW]
 |n,x::xs,o=>by
  simp only[eW,xI n x (o x (by simp)),fU n xs λz hz=>o z (by simp[hz]),Bool.and_self]
end
theorem eA:∀(xs ys:List D),((List.range (min xs.length ys.length)).all (λj=>fy (xs.getD j .non) (ys.getD j .non))&&(xs.length==ys.length))=eW xs ys
 |[],[]=>by simp[eW]
 |[],_::_=>by simp[eW]
 |_::_,[]=>by simp[eW]
 |x::xs,y::ys=>by
  have a:=eA xs ys;have b:min (x::xs).length (y::ys).length=min xs.length ys.length+1:=by simp only[List.length_cons];omega
  rw[b,List.range_succ_eq_map,List.all_cons,List.all_map,eW,←a];simp[Function.comp_def,Bool.and_assoc]
theorem lW{xs ys:List D}(h:xs.length=ys.length):(List.range xs.length).all (λj=>fy (xs.getD j .non) (ys.getD j .non))=eW xs ys:=by
 have e:=eA xs ys;rw[←h,Nat.min_self]at e;simpa using e
theorem pq{xs ys:List D}(h:xs.length≠ys.length):eW xs ys=false:=by
 rw[←eA xs ys];simp[h]
end
inductive Vw (s:Shared) (Z:Addr->Prop) (H:Hp):D->Value->Prop where
 |non:Vw s Z H .non .none
 |bl (b:Bool):Vw s Z H (.bl b) (.bool b)
 |int (i:Int) (t:Tok):Vw s Z H (.int i) (.int i t)
 |str (x:Str) (t:Tok):Vw s Z H (.str x) (.str x t)
 |lst {l:Addr}{its:List Value}{vs:List V}{ds:List D}:s.heap.IsList l its.toArray->Vals vs its->Rd H l (.lst vs)/\bb Z H ds vs->Vw s Z H (.lst ds) (.ref l)
 |tup {l:Addr}{its:List Value}{vs:List V}{ds:List D}:s.heap.IsTuple l its.toArray->Vals vs its->Rd H l (.tup vs)/\bb Z H ds vs->Vw s Z H (.tup ds) (.ref l)
section
variable{X:Cx}{pins:List (Addr×Obj)}{σ:L2.St}{Z:Addr->Prop}{H:Hp}{s:Shared}{A:Around}
theorem iY{n:Nat}{d:D}{v:V}{u:Value}(I:Inv X pins σ H s)(c:Now Z H d v)(r:RelV v u)(o:aT n d=true):Vw s Z H d u:=by
 cases d with
 |non=>cases gv c;cases r;exact .non
 |bl b=>cases jd c;cases r;exact .bl b
 |int b=>cases bt c;obtain⟨t,rfl⟩:=r;exact .int b t
 |str b=>cases dE c;obtain⟨t,rfl⟩:=r;exact .str b t
 |lst i=>
  obtain⟨a,j,rfl,e,f⟩:=dR c;cases r;obtain⟨g,h,p,l⟩:=I.list (lV (K:=X.K) e);exact .lst p.isList h ⟨e,f⟩
 |tup i=>
  obtain⟨a,j,rfl,_,e,f⟩:=gw c;cases r;obtain⟨g,h,p,l⟩:=I.tuple (wU (K:=X.K) e);exact .tup p h ⟨e,f⟩
 |dct m i=>cases n<;>simp[aT]at o
 |ref k=>cases n<;>simp[aT]at o
theorem pv{vs:List V}{a:List Value}(r:Vals vs a){j:Nat}(d:j<a.length):∃v,vs[j]?=some v/\RelV v a[j]:=by
 have f:=r.length;have b:vs[j]?=some vs[j]:=by simp[show j<vs.length by omega]
 obtain⟨u,c,e⟩:=r.get b;rw[List.getElem?_eq_getElem d]at c;cases c;exact⟨_,b,e⟩
theorem fV{n:Nat}(I:Inv X pins σ H s)(t:∀(A:Around) (e f:D) (u w:Value),A.units+n<cLine->aT n e=true->aT n f=true->Vw s Z H e u->Vw s Z H f w->SeqAt.EqAt A s u w (fy e f))
  {ds es:List D} (y:∀x∈ds,aT n x=true) (z:∀x∈es,aT n x=true) (J:A.units+(n+1)<cLine) {vs k:List V}{b a:List Value} (l:Vals vs b) (m:Vals k a) (pl:bb Z H ds vs) (o:bb Z H es k) :
  ∀j (g:j<b.toArray.size) (h:j<a.toArray.size),SeqAt.EqAt A.in1 s b.toArray[j] a.toArray[j] (fy (ds.getD j .non) (es.getD j .non)):=by
 intro j g h;have K:=l.length;have L:=m.length;have M:=pl.length;have N:=o.length;simp only[List.size_toArray]at g h;simp only[List.getElem_toArray];obtain⟨v,B,C⟩:=pv l g;obtain⟨w,E,i⟩:=pv m h;have p:ds[j]?=some (ds.getD j .non):=by simp[List.getD,show j<ds.length by omega]
 have q:es[j]?=some (es.getD j .non):=by simp[List.getD,show j<es.length by omega]
 obtain⟨O,c,F⟩:=pl.get p;obtain⟨P,d,G⟩:=o.get q;rw[B]at c;cases c
 rw[E]at d;cases d
 have r:=y _ (List.mem_of_getElem? p);have o2:=z _ (List.mem_of_getElem? q);exact t A.in1 _ _ _ _ (by show A.units+1+n<cLine;omega) r o2 (iY I F.now C r) (iY I G.now i o2)
theorem ie(I:Inv X pins σ H s):∀(n:Nat) (A:Around) (G J:D) (u w:Value),A.units+n<cLine->aT n G=true->aT n J=true->Vw s Z H G u->Vw s Z H J w->SeqAt.EqAt A s u w (fy G J):=by
 intro n
 induction n with
 |zero=>
  intro A G J u w N E K O o;have f:A.units<cLine:=by omega
  cases O with
  |non=>
   cases o with
   |non=>exact SeqAt.EqAt.same _
   |bl p=>exact SeqAt.EqAt.none_bool _
   |int q k=>exact SeqAt.EqAt.none_int _ _
   |str r k=>exact SeqAt.EqAt.none_str _ _
   |@lst m a d c e h g=>exact SeqAt.EqAt.none_list e f
   |@tup m a d c e h g=>exact SeqAt.EqAt.none_tuple e f
  |bl b=>
   cases o with
   |non=>exact SeqAt.EqAt.bool_none _
   |bl p=>exact SeqAt.EqAt.bool_bool _ _
   |int q k=>exact SeqAt.EqAt.bool_int _ _ _
   |str r k=>exact SeqAt.EqAt.bool_str _ _ _
   |@lst m a d c e h g=>exact SeqAt.EqAt.bool_list _ e f
   |@tup m a d c e h g=>exact SeqAt.EqAt.bool_tuple _ e f
  |int i t=>
   cases o with
   |non=>exact SeqAt.EqAt.int_none _ _
   |bl p=>exact SeqAt.EqAt.int_bool _ _ _
   |int q k=>exact SeqAt.EqAt.int_int _ _ _ _
   |str r k=>exact SeqAt.EqAt.int_str _ _ _ _
   |@lst m a d c e h g=>exact SeqAt.EqAt.int_list _ _ e f
   |@tup m a d c e h g=>exact SeqAt.EqAt.int_tuple _ _ e f
  |str x t=>
   cases o with
   |non=>exact SeqAt.EqAt.str_none _ _
   |bl p=>exact SeqAt.EqAt.str_bool _ _ _
   |int q k=>exact SeqAt.EqAt.str_int _ _ _ _
   |str r k=>exact SeqAt.EqAt.str_str _ _ _ _
   |@lst m a d c e h g=>exact SeqAt.EqAt.str_list _ _ e f
   |@tup m a d c e h g=>exact SeqAt.EqAt.str_tuple _ _ e f
  |@lst l y L z j F B=>
   cases o with
   |non=>exact SeqAt.EqAt.list_none j f
   |bl p=>exact SeqAt.EqAt.list_bool _ j f
   |int q k=>exact SeqAt.EqAt.list_int _ _ j f
   |str r k=>exact SeqAt.EqAt.list_str _ _ j f
   |@lst m a d c e h g=>
    simp[aT]at E
   |@tup m a d c e h g=>exact SeqAt.EqAt.list_tuple j e f
  |@tup l y L z j F B=>
   cases o with
   |non=>exact SeqAt.EqAt.tuple_none j f
   |bl p=>exact SeqAt.EqAt.tuple_bool _ j f
   |int q k=>exact SeqAt.EqAt.tuple_int _ _ j f
   |str r k=>exact SeqAt.EqAt.tuple_str _ _ j f
   |@lst m a d c e h g=>exact SeqAt.EqAt.tuple_list j e f
   |@tup m a d c e h g=>
    simp[aT]at E
 |succ n R=>
  intro A G J u w N E K O o;have f:A.units<cLine:=by omega
  cases O with
  |non=>
   cases o with
   |non=>exact SeqAt.EqAt.same _
   |bl p=>exact SeqAt.EqAt.none_bool _
   |int q k=>exact SeqAt.EqAt.none_int _ _
   |str r k=>exact SeqAt.EqAt.none_str _ _
   |@lst m a d c e h g=>exact SeqAt.EqAt.none_list e f
   |@tup m a d c e h g=>exact SeqAt.EqAt.none_tuple e f
  |bl b=>
   cases o with
   |non=>exact SeqAt.EqAt.bool_none _
   |bl p=>exact SeqAt.EqAt.bool_bool _ _
   |int q k=>exact SeqAt.EqAt.bool_int _ _ _
   |str r k=>exact SeqAt.EqAt.bool_str _ _ _
   |@lst m a d c e h g=>exact SeqAt.EqAt.bool_list _ e f
   |@tup m a d c e h g=>exact SeqAt.EqAt.bool_tuple _ e f
  |int i t=>
   cases o with
   |non=>exact SeqAt.EqAt.int_none _ _
   |bl p=>exact SeqAt.EqAt.int_bool _ _ _
   |int q k=>exact SeqAt.EqAt.int_int _ _ _ _
   |str r k=>exact SeqAt.EqAt.int_str _ _ _ _
   |@lst m a d c e h g=>exact SeqAt.EqAt.int_list _ _ e f
   |@tup m a d c e h g=>exact SeqAt.EqAt.int_tuple _ _ e f
  |str x t=>
   cases o with
   |non=>exact SeqAt.EqAt.str_none _ _
   |bl p=>exact SeqAt.EqAt.str_bool _ _ _
   |int q k=>exact SeqAt.EqAt.str_int _ _ _ _
   |str r k=>exact SeqAt.EqAt.str_str _ _ _ _
   |@lst m a d c e h g=>exact SeqAt.EqAt.str_list _ _ e f
   |@tup m a d c e h g=>exact SeqAt.EqAt.str_tuple _ _ e f
  |@lst l y L z j F B=>
   cases o with
   |non=>exact SeqAt.EqAt.list_none j f
   |bl p=>exact SeqAt.EqAt.list_bool _ j f
   |int q k=>exact SeqAt.EqAt.list_int _ _ j f
   |str r k=>exact SeqAt.EqAt.list_str _ _ j f
   |@lst m a d c e h g=>
    have S:=F.length;have T:=h.length;have U:=B.2.length;have V:=g.2.length;simp only[fy]
    by_cases C:l=m
    .subst C
     have P:=sJ B.1 g.1;subst P;have Q:=bb.uniq n z c L (by simpa[aT]using E) (by simpa[aT]using K) B.2 g.2
     subst Q;rw[fU n z (by simpa[aT]using E)]
     exact SeqAt.EqAt.same _
    .refine SeqAt.EqAt.of_refs C ?_
     by_cases M:z.length=c.length
     .rw[←lW M]
      have:=SeqAt.RcAt.lists j e (by simp only[List.size_toArray];omega) f (fV I R (by simpa[aT]using E) (by simpa[aT]using K) N F h B.2 g.2)
      rw[show y.toArray.size=z.length by simp only[List.size_toArray];omega]at this
      exact this
     .rw[pq M]
      exact SeqAt.RcAt.lists_lengths j e (by simp only[List.size_toArray,bne_iff_ne];omega) f
   |@tup m a d c e h g=>exact SeqAt.EqAt.list_tuple j e f
  |@tup l y L z j F B=>
   cases o with
   |non=>exact SeqAt.EqAt.tuple_none j f
   |bl p=>exact SeqAt.EqAt.tuple_bool _ j f
   |int q k=>exact SeqAt.EqAt.tuple_int _ _ j f
   |str r k=>exact SeqAt.EqAt.tuple_str _ _ j f
   |@lst m a d c e h g=>exact SeqAt.EqAt.tuple_list j e f
   |@tup m a d c e h g=>
    have S:=F.length;have T:=h.length;have U:=B.2.length;have V:=g.2.length;simp only[fy]
    by_cases C:l=m
    .subst C
     have P:=sL B.1 g.1;subst P;have Q:=bb.uniq n z c L (by simpa[aT]using E) (by simpa[aT]using K) B.2 g.2
     subst Q;rw[fU n z (by simpa[aT]using E)]
     exact SeqAt.EqAt.same _
    .refine SeqAt.EqAt.of_refs C ?_
     rw[←eA z c];have:=SeqAt.RcAt.tuples j e f (fV I R (by simpa[aT]using E) (by simpa[aT]using K) N F h B.2 g.2)
     rw[show y.toArray.size=z.length by simp only[List.size_toArray];omega,show a.toArray.size=c.length by simp only[List.size_toArray];omega]at this
     exact this
theorem xJ(I:Inv X pins σ H s){n:Nat}{F G:D}{u w:Value}(J:A.units+(n+1)<cLine)(K:aT (n+1) F=true)(L:aT (n+1) G=true)(M:Vw s Z H F u)(p:Vw s Z H G w):SeqAt.RcAt A s u w (fy F G):=by
 have f:A.units<cLine:=by omega
 cases M with
 |non=>
  cases p with
  |non=>exact SeqAt.RcAt.none_none
  |bl q=>exact SeqAt.RcAt.none_bool _
  |int r k=>exact SeqAt.RcAt.none_int _ _
  |str y k=>exact SeqAt.RcAt.none_str _ _
  |@lst m a e c d g h=>exact SeqAt.RcAt.none_list d f
  |@tup m a e c d g h=>exact SeqAt.RcAt.none_tuple d f
 |bl b=>
  cases p with
  |non=>exact SeqAt.RcAt.bool_none _
  |bl q=>exact SeqAt.RcAt.bool_bool _ _
  |int r k=>exact SeqAt.RcAt.bool_int _ _ _
  |str y k=>exact SeqAt.RcAt.bool_str _ _ _
  |@lst m a e c d g h=>exact SeqAt.RcAt.bool_list _ d f
  |@tup m a e c d g h=>exact SeqAt.RcAt.bool_tuple _ d f
 |int i t=>
  cases p with
  |non=>exact SeqAt.RcAt.int_none _ _
  |bl q=>exact SeqAt.RcAt.int_bool _ _ _
  |int r k=>exact SeqAt.RcAt.int_int _ _ _ _
  |str y k=>exact SeqAt.RcAt.int_str _ _ _ _
  |@lst m a e c d g h=>exact SeqAt.RcAt.int_list _ _ d f
  |@tup m a e c d g h=>exact SeqAt.RcAt.int_tuple _ _ d f
 |str x t=>
  cases p with
  |non=>exact SeqAt.RcAt.str_none _ _
  |bl q=>exact SeqAt.RcAt.str_bool _ _ _
  |int r k=>exact SeqAt.RcAt.str_int _ _ _ _
  |str y k=>exact SeqAt.RcAt.str_str _ _ _ _
  |@lst m a e c d g h=>exact SeqAt.RcAt.str_list _ _ d f
  |@tup m a e c d g h=>exact SeqAt.RcAt.str_tuple _ _ d f
 |@lst l o N z j B C=>
  cases p with
  |non=>exact SeqAt.RcAt.list_none j f
  |bl q=>exact SeqAt.RcAt.list_bool _ j f
  |int r k=>exact SeqAt.RcAt.list_int _ _ j f
  |str y k=>exact SeqAt.RcAt.list_str _ _ j f
  |@lst m a e c d g h=>
   have O:=B.length;have P:=g.length;have Q:=C.2.length;have R:=h.2.length;simp only[fy]
   by_cases E:z.length=c.length
   .rw[←lW E]
    have:=SeqAt.RcAt.lists j d (by simp only[List.size_toArray];omega) f (fV I (ie I n) (by simpa[aT]using K) (by simpa[aT]using L) J B g C.2 h.2)
    rw[show o.toArray.size=z.length by simp only[List.size_toArray];omega]at this
    exact this
   .rw[pq E]
    exact SeqAt.RcAt.lists_lengths j d (by simp only[List.size_toArray,bne_iff_ne];omega) f
  |@tup m a e c d g h=>exact SeqAt.RcAt.list_tuple j d f
 |@tup l o N z j B C=>
  cases p with
  |non=>exact SeqAt.RcAt.tuple_none j f
  |bl q=>exact SeqAt.RcAt.tuple_bool _ j f
  |int r k=>exact SeqAt.RcAt.tuple_int _ _ j f
  |str y k=>exact SeqAt.RcAt.tuple_str _ _ j f
  |@lst m a e c d g h=>exact SeqAt.RcAt.tuple_list j d f
  |@tup m a e c d g h=>
   have O:=B.length;have P:=g.length;have Q:=C.2.length;have R:=h.2.length;simp only[fy];rw[←eA z c];have:=SeqAt.RcAt.tuples j d f (fV I (ie I n) (by simpa[aT]using K) (by simpa[aT]using L) J B g C.2 h.2)
   rw[show o.toArray.size=z.length by simp only[List.size_toArray];omega,show a.toArray.size=c.length by simp only[List.size_toArray];omega]at this
   exact this
theorem sM(I:Inv X pins σ H s){n:Nat}{F G:D}{u w:Value}(J:A.units+(n+1)<cLine)(K:aT (n+1) F=true)(L:aT (n+1) G=true)(M:Vw s Z H F u)(p:Vw s Z H G w):SeqAt.RcNeAt A s u w (!fy F G):=by
 have f:A.units<cLine:=by omega
 cases M with
 |non=>
  cases p with
  |non=>exact SeqAt.RcNeAt.none_none
  |bl q=>exact SeqAt.RcNeAt.none_bool _
  |int r k=>exact SeqAt.RcNeAt.none_int _ _
  |str y k=>exact SeqAt.RcNeAt.none_str _ _
  |@lst m a e c d g h=>exact SeqAt.RcNeAt.none_list d f
  |@tup m a e c d g h=>exact SeqAt.RcNeAt.none_tuple d f
 |bl b=>
  cases p with
  |non=>exact SeqAt.RcNeAt.bool_none _
  |bl q=>exact SeqAt.RcNeAt.bool_bool _ _
  |int r k=>exact SeqAt.RcNeAt.bool_int _ _ _
  |str y k=>exact SeqAt.RcNeAt.bool_str _ _ _
  |@lst m a e c d g h=>exact SeqAt.RcNeAt.bool_list _ d f
  |@tup m a e c d g h=>exact SeqAt.RcNeAt.bool_tuple _ d f
 |int i t=>
  cases p with
  |non=>exact SeqAt.RcNeAt.int_none _ _
  |bl q=>exact SeqAt.RcNeAt.int_bool _ _ _
  |int r k=>exact SeqAt.RcNeAt.int_int _ _ _ _
  |str y k=>exact SeqAt.RcNeAt.int_str _ _ _ _
  |@lst m a e c d g h=>exact SeqAt.RcNeAt.int_list _ _ d f
  |@tup m a e c d g h=>exact SeqAt.RcNeAt.int_tuple _ _ d f
 |str x t=>
  cases p with
  |non=>exact SeqAt.RcNeAt.str_none _ _
  |bl q=>exact SeqAt.RcNeAt.str_bool _ _ _
  |int r k=>exact SeqAt.RcNeAt.str_int _ _ _ _
  |str y k=>exact SeqAt.RcNeAt.str_str _ _ _ _
  |@lst m a e c d g h=>exact SeqAt.RcNeAt.str_list _ _ d f
  |@tup m a e c d g h=>exact SeqAt.RcNeAt.str_tuple _ _ d f
 |@lst l o N z j B C=>
  cases p with
  |non=>exact SeqAt.RcNeAt.list_none j f
  |bl q=>exact SeqAt.RcNeAt.list_bool _ j f
  |int r k=>exact SeqAt.RcNeAt.list_int _ _ j f
  |str y k=>exact SeqAt.RcNeAt.list_str _ _ j f
  |@lst m a e c d g h=>
   have O:=B.length;have P:=g.length;have Q:=C.2.length;have R:=h.2.length;simp only[fy]
   by_cases E:z.length=c.length
   .rw[←lW E]
    have:=SeqAt.RcNeAt.lists j d (by simp only[List.size_toArray];omega) f (fV I (ie I n) (by simpa[aT]using K) (by simpa[aT]using L) J B g C.2 h.2)
    rw[show o.toArray.size=z.length by simp only[List.size_toArray];omega]at this
    exact this
   .rw[pq E]
    exact SeqAt.RcNeAt.lists_lengths j d (by simp only[List.size_toArray,bne_iff_ne];omega) f
  |@tup m a e c d g h=>exact SeqAt.RcNeAt.list_tuple j d f
 |@tup l o N z j B C=>
  cases p with
  |non=>exact SeqAt.RcNeAt.tuple_none j f
  |bl q=>exact SeqAt.RcNeAt.tuple_bool _ j f
  |int r k=>exact SeqAt.RcNeAt.tuple_int _ _ j f
  |str y k=>exact SeqAt.RcNeAt.tuple_str _ _ j f
  |@lst m a e c d g h=>exact SeqAt.RcNeAt.tuple_list j d f
  |@tup m a e c d g h=>
   have O:=B.length;have P:=g.length;have Q:=C.2.length;have R:=h.2.length;simp only[fy];rw[←eA z c];have:=SeqAt.RcNeAt.tuples j d f (fV I (ie I n) (by simpa[aT]using K) (by simpa[aT]using L) J B g C.2 h.2)
   rw[show o.toArray.size=z.length by simp only[List.size_toArray];omega,show a.toArray.size=c.length by simp only[List.size_toArray];omega]at this
   exact this
end
end Mir
namespace Mir
open PySem PySem.Spec PyProof.Rows L2
theorem Vw.uniq{s:Shared}{Z:Addr->Prop}{H:Hp}{n:Nat}{d d':D}{u:Value}(h:Vw s Z H d u)(h':Vw s Z H d' u)(o:aT n d=true)(r:aT n d'=true):d=d':=by
 cases h with
 |non=>cases h';rfl
 |bl b=>cases h';rfl
 |int i t=>cases h';rfl
 |str x t=>cases h';rfl
 |@lst l j k m w y f=>
  cases h' with
  |@lst _ a g c p q e=>
   cases sJ f.1 e.1;cases n with
   |zero=>simp[aT]at o
   |succ n=>rw[bb.uniq n m c k (by simpa[aT]using o) (by simpa[aT]using r) f.2 e.2]
  |@tup _ a g c p q e=>exact(ur f.1 e.1).elim
 |@tup l j k m w y f=>
  cases h' with
  |@tup _ a g c p q e=>
   cases sL f.1 e.1;cases n with
   |zero=>simp[aT]at o
   |succ n=>rw[bb.uniq n m c k (by simpa[aT]using o) (by simpa[aT]using r) f.2 e.2]
  |@lst _ a g c p q e=>exact(ur e.1 f.1).elim
section
variable{X:Cx}{pins:List (Addr×Obj)}{σ:L2.St}{Z:Addr->Prop}{H:Hp}{s:Shared}
def kW(s:Shared)(Z:Addr->Prop)(H:Hp)(a:D)(u:Value):Bool:=@decide (∃d,aT 8 d=true/\Vw s Z H d u/\fy d a=true) (Classical.propDecidable _)
theorem uu{a d:D}{u:Value}(o:aT 8 d=true)(h:Vw s Z H d u):kW s Z H a u=fy d a:=by
 unfold kW;cases e:fy d a with
 |true=>exact @decide_eq_true _ (Classical.propDecidable _) ⟨d,o,h,e⟩
 |false=>
  refine @decide_eq_false _ (Classical.propDecidable _) ?_;rintro⟨g,c,f,b⟩;rw[Vw.uniq f h c o,e]at b;cases b
theorem lZ(I:Inv X pins σ H s){b:D}:∀{ds:List D}{vs:List V}{a:List Value},bb Z H ds vs->Vals vs a->(∀d∈ds,aT 8 d=true)->a.any (kW s Z H b)=ds.any λd=>fy d b
 |[],_,_,h,r,_=>by rw[h.nil_inv]at r;cases r;rfl
 |d::ds,_,_,h,r,o=>by
  obtain⟨v,vr,rfl,h1,h2⟩:=h.cons_inv;cases r with
  |cons c e=>
   rw[List.any_cons,List.any_cons,lZ I h2 e λz f=>o z (by simp[f]),uu (o d (by simp)) (iY I h1.now c (o d (by simp)))]
theorem l_(I:Inv X pins σ H s){A:Around}{b:D}{w:Value}(c:A.units+8<cLine)(f:aT 8 b=true)(g:Vw s Z H b w) :
  ∀{ds:List D}{vs:List V}{a:List Value},bb Z H ds vs->Vals vs a->(∀d∈ds,aT 8 d=true)->∀u∈a,SeqAt.EqAt A s u w (kW s Z H b u)
 |[],_,_,h,r,_,u,hm=>by rw[h.nil_inv]at r;cases r;simp at hm
 |d::ds,_,_,h,r,o,u,hm=>by
  obtain⟨v,vr,rfl,h1,h2⟩:=h.cons_inv;cases r with
  |cons j k=>
   rcases List.mem_cons.mp hm with e|hm
   .subst e
    have i:=iY I h1.now j (o d (by simp))
    rw[uu (o d (by simp)) i]
    exact ie I 8 A d b _ w c (o d (by simp)) f i g
   .exact l_ I c f g h2 k (λz l=>o z (by simp[l])) u hm
end
section
variable{X:Cx}{Γ:nJ}{bw:Bool}{a b e:Expr}{ca cb cc c:Ex}{pos:Pos}
def xK(op:CmpOp):R2:=λx y H Q=>∃Z a b k,Now Z H a x/\Now Z H b y/\ez op a b=.ok k/\Q (.bl k) H
theorem qP{Z:Addr->Prop}{H:Hp}{b:List L2.Key}{ds:List D}{x:V}(h:Now Z H (.dct b ds) x):∃a,x=.ref a:=by
 have h:Rep Z H (.dct b ds) x:=h;simp only[Rep]at h;obtain⟨a,_,e,_⟩:=h;exact⟨a,e⟩
theorem Df{Z:Addr->Prop}{H:Hp}{f l:D}{x y:V}{k:Bool}{u v:Value}(d:Now Z H f x)(m:Now Z H l y)(e:RelV x u)(o:RelV y v)(h:isD f l=.ok k):plainIs u v=true/\(u==v)=k:=by
 have Ag:∀{g:List D}{x:V}{u:Value},Now Z H (.lst g) x->RelV x u->∃a,u=.ref a:=λn r=>by
  obtain⟨a,_,rfl,_⟩:=dR n;exact⟨a,r⟩
 have j:∀{g:List D}{x:V}{u:Value},Now Z H (.tup g) x->RelV x u->∃a,u=.ref a:=λn r=>by
  obtain⟨a,_,rfl,_⟩:=gw n;exact⟨a,r⟩
 cases l with
 |non=>
  cases gv m;cases o;cases f with
  |non=>cases gv d;cases e;cases h;exact⟨rfl,rfl⟩
  |bl b=>cases jd d;cases e;cases h;exact⟨rfl,rfl⟩
  |int i=>cases bt d;obtain⟨t,rfl⟩:=e;cases h;exact⟨rfl,rfl⟩
  |str i=>cases dE d;obtain⟨t,rfl⟩:=e;cases h;exact⟨rfl,rfl⟩
  |lst g=>obtain⟨a,rfl⟩:=Ag d e;cases h;exact⟨rfl,rfl⟩
  |tup g=>obtain⟨a,rfl⟩:=j d e;cases h;exact⟨rfl,rfl⟩
  |dct p g=>obtain⟨a,rfl⟩:=qP d;cases e;cases h;exact⟨rfl,rfl⟩
  |ref n=>exact(show False by simpa only [Now,Rep]using d).elim
 |bl c=>
  cases jd m;cases o;cases f with
  |non=>cases gv d;cases e;cases h;exact⟨rfl,rfl⟩
  |bl b=>cases jd d;cases e;cases h;exact⟨rfl,by cases b<;>cases c<;>rfl⟩
  |int i=>cases bt d;obtain⟨t,rfl⟩:=e;cases h;exact⟨rfl,rfl⟩
  |str i=>cases dE d;obtain⟨t,rfl⟩:=e;cases h;exact⟨rfl,rfl⟩
  |lst g=>obtain⟨a,rfl⟩:=Ag d e;cases h;exact⟨rfl,rfl⟩
  |tup g=>obtain⟨a,rfl⟩:=j d e;cases h;exact⟨rfl,rfl⟩
  |dct p g=>cases h
  |ref n=>cases h
 |int _=>cases f<;>cases h
 |str _=>cases f<;>cases h
 |lst _=>cases f<;>cases h
 |tup _=>cases f<;>cases h
 |dct _ _=>cases f<;>cases h
 |ref _=>cases f<;>cases h
theorem Dg{pins:List (Addr×Obj)}{s:Shared}{d:L2.St}{H:Hp}{x y:V}{u v:Value}{Q:VK}(L:X.A.units+64<cLine)(I:Inv X pins d H s)(n:RelV x u)(o:RelV y v)
  {Z:Addr->Prop}{a F:D}{k:Bool} (r:Now Z H a x) (t:Now Z H F y) (e:inD a F=.ok k) :
  (Q (.bl k) H->wpAny (model X.prog X.w) X.A (compareOp .In u v) (EP X pins d Q) X.xe s)/\(Q (.bl !k) H->wpAny (model X.prog X.w) X.A (compareOp .NotIn u v) (EP X pins d Q) X.xe s):=by
 unfold inD at e;split at e
 .rename_i z
  split at e
  .rename_i f
   cases e;simp only[Bool.and_eq_true]at f;obtain⟨g,c⟩:=f;have c:=List.all_eq_true.mp c;obtain⟨l,G,rfl,B,h⟩:=dR t;cases o;obtain⟨b,i,p,J⟩:=I.list (lV (K:=X.K) B);have C:=iY I r n g;have j:∀w,w∈b.toArray->SeqAt.EqAt X.A.in1 s w u (kW s Z H a w):=λw E=>l_ I (A:=X.A.in1) (by show X.A.units+1+8<cLine;omega) g C h i c w (by simpa using E)
   have m:b.toArray.any (kW s Z H a)=z.any λy=>fy y a:=by
    rw[←lZ I h i c];simp
   exact⟨λq=>SeqAt.in_listAt (kW s Z H a) p.isList j ⟨.bl _,H,I,rfl,by rw[m];exact q⟩,λq=>SeqAt.notIn_listAt (kW s Z H a) p.isList j ⟨.bl _,H,I,rfl,by rw[m];exact q⟩⟩
  .cases e
 .rename_i z
  split at e
  .rename_i f
   cases e;simp only[Bool.and_eq_true]at f;obtain⟨g,c⟩:=f;have c:=List.all_eq_true.mp c;obtain⟨l,G,rfl,_,B,h⟩:=gw t;cases o;obtain⟨b,i,p,J⟩:=I.tuple (wU (K:=X.K) B);have C:=iY I r n g;have j:∀w,w∈b.toArray->SeqAt.EqAt X.A.in1 s w u (kW s Z H a w):=λw E=>l_ I (A:=X.A.in1) (by show X.A.units+1+8<cLine;omega) g C h i c w (by simpa using E)
   have m:b.toArray.any (kW s Z H a)=z.any λy=>fy y a:=by
    rw[←lZ I h i c];simp
   exact⟨λq=>SeqAt.in_tupleAt (kW s Z H a) p j ⟨.bl _,H,I,rfl,by rw[m];exact q⟩,λq=>SeqAt.notIn_tupleAt (kW s Z H a) p j ⟨.bl _,H,I,rfl,by rw[m];exact q⟩⟩
  .cases e
 .cases e
  cases dE r;cases dE t;exact⟨λq=>vA pins s d H _ _ u v Q I n o ⟨_,_,rfl,rfl,q⟩,λq=>oT pins s d H _ _ u v Q I n o ⟨_,_,rfl,rfl,q⟩⟩
 .cases e
theorem j5(F:X.A.units+64<cLine)(op:CmpOp):h9 X (compareOp op) (xK op):=by
 intro pins s D H x y u v Q I m p h;obtain⟨Z,c,d,k,r,t,e,q⟩:=h;have l:EP X pins D Q (.bool k) s:=⟨.bl k,H,I,rfl,q⟩
 have a:∀{i j:Int}{o:CmpOp}{g:Int->Int->Bool},h9 X (compareOp o) (zP λi j=>.bl (g i j))->c=.int i->d=.int j->k=g i j->wpAny (model X.prog X.w) X.A (compareOp o u v) (EP X pins D Q) X.xe s:=by
  intro i j o g z B C G;subst B C G;cases bt r;cases bt t;exact z pins s D H _ _ u v Q I m p ⟨_,_,rfl,rfl,q⟩
 cases op with
 |Eq=>
  unfold ez at e;dsimp only at e;split at e
  .rename_i f
   cases e;simp only[Bool.and_eq_true]at f;exact xJ I (n:=7) (by omega) f.1 f.2 (iY I r m f.1) (iY I t p f.2) X.prog X.w X.xe _ l
  .cases e
 |NotEq=>
  unfold ez at e;dsimp only at e;split at e
  .rename_i f
   cases e;simp only[Bool.and_eq_true]at f;exact sM I (n:=7) (by omega) f.1 f.2 (iY I r m f.1) (iY I t p f.2) X.prog X.w X.xe _ l
  .cases e
 |Lt=>cases c<;>cases d<;>first | (cases e;exact a GQ rfl rfl rfl)|cases e
 |LtE=>cases c<;>cases d<;>first | (cases e;exact a GR rfl rfl rfl)|cases e
 |Gt=>cases c<;>cases d<;>first | (cases e;exact a GS rfl rfl rfl)|cases e
 |GtE=>cases c<;>cases d<;>first | (cases e;exact a GU rfl rfl rfl)|cases e
 |In=>
  have e:inD c d=.ok k:=by cases c<;>cases d<;>exact e
  exact(Dg F I m p r t e).1 q
 |NotIn=>
  have e:(do let b ←inD c d;Out.ok (!b))=.ok k:=by cases c<;>cases d<;>exact e
  obtain⟨b,B,C⟩:=lU e;cases C;exact(Dg F I m p r t B).2 q
 |Is=>
  have e:isD c d=.ok k:=by cases c<;>cases d<;>exact e
  obtain⟨z,E⟩:=Df r t m p e;exact wpAny_is_plain z (by rw[E];exact l)
 |IsNot=>
  have e:(do let b ←isD c d;Out.ok (!b))=.ok k:=by cases c<;>cases d<;>exact e
  obtain⟨b,B,C⟩:=lU e;cases C;obtain⟨z,E⟩:=Df r t m p B;exact wpAny_isNot_plain z (by rw[E];exact l)
theorem Ej{op:CmpOp}{c e:D}{x y:V}{Z:Addr->Prop}{H:Hp}{b:Bool}{d:D}{Q:VK}(i:Now Z H c x)(j:Now Z H e y)(f:∀a,Z a->H a≠none)
  (l:(do let r ←ez op c e;Out.ok (false,D.bl r))=.ok (b,d)) (k:∀v g h,fk Z H h g->eJ bw b h H g d v->Q v g):xK op x y H Q:=by
 obtain⟨r,m,n⟩:=lU l;cases n;exact⟨Z,c,e,r,i,j,m,k _ H Z (fk.refl f) (.rep (fT rfl))⟩
end
theorem PT.imp{X:Cx}{e:Expr}{t t':TT}(h:PT X e t)(i:∀a H Q,t' a H Q->t a H Q):PT X e t':=λpins s a H Q I q=>h pins s a H Q I (i a H Q q)
theorem PW.imp{X:Cx}{e:Expr}{t t':TT}(h:PW X e t)(i:∀a H Q,t' a H Q->t a H Q):PW X e t':=λb pins s a H Q I q=>h b pins s a H Q I (i a H Q q)
section
variable{X:Cx}{Γ:nJ}{bw:Bool}{a b e:Expr}{ca cb cc c:Ex}{pos:Pos}
theorem Ek{Z:Addr->Prop}{H:Hp}{d:D}{x:V}{t:Bool}{K:PySem.W.Frag}(n:Now Z H d x)(h:kU d=some t):qz K x H t:=by
 cases d with
 |non=>cases gv n;cases h;rfl
 |bl b=>cases jd n;cases h;rfl
 |int b=>cases bt n;cases h;rfl
 |str b=>
  cases dE n;simp only[kU]at h;split at h
  .rename_i j
   cases h;refine⟨bI j,?_⟩
   have e:((b.length:Int) != 0)=(b.length != 0):=by
    rw[Bool.eq_iff_iff];simp only[bne_iff_ne,ne_eq];omega
   rw[e]
  .cases h
 |lst f=>
  obtain⟨a,c,rfl,g,i⟩:=dR n;cases h;refine .inl ⟨c,lV g,?_⟩;have:=i.length;cases f<;>cases c<;>simp at this ⊢
 |tup f=>
  obtain⟨a,c,rfl,_,g,i⟩:=gw n;cases h;refine .inr (.inl ⟨c,wU g,?_⟩);have:=i.length;cases f<;>cases c<;>simp at this ⊢
 |dct l f=>cases h
 |ref k=>cases h
end
def xM(Z:Addr->Prop)(H:Hp):List D->List V->Prop
 |[],vs=>vs=[]
 |d::ds,vs=>∃v r,vs=v::r/\Now Z H d v/\xM Z H ds r
section
variable{Z Z':Addr->Prop}{H H':Hp}
theorem xM.one{d:D}{xs:List V}(h:xM Z H [d] xs):∃x,xs=[x]/\Now Z H d x:=by
 obtain⟨v,r,e,a,b⟩:=h;exact⟨v,by rw[e,show r=[]from b],a⟩
end
def Args(bw:Bool)(Z:Addr->Prop)(H:Hp)(ds:List D)(vs:List V):Prop:=if bw=true then xM Z H ds vs else bb Z H ds vs
theorem PA.imp{X:Cx}{e:List Expr}{t t':TA}(h:PA X e t)(i:∀a H Q,t' a H Q->t a H Q):PA X e t':=λb pins s a H Q I q=>h b pins s a H Q I (i a H Q q)
section
variable{X:Cx}{Γ:nJ}{bw:Bool}{a b e:Expr}{es:List Expr}{ca cb cc c cs:Ex}{pos p:Pos}
theorem xN{Z:Addr->Prop}{H:Hp}{ds:List D}{vs:List V}{i:Int}{d:D}(h:bb Z H ds vs)(e:kx ds i=some d):∃v,kx vs i=some v/\Rep Z H d v:=by
 unfold kx at e ⊢;rw[h.length];cases q:zF ds.length i with
 |none=>rw[q]at e;cases e
 |some j=>
  rw[q]at e;exact h.get e
theorem El{q r:D}{x y:V}{Z:Addr->Prop}{H:Hp}{e:Bool}{d:D}{Q:VK}{K:PySem.W.Frag}(g:Now Z H q x)(h:Now Z H r y)(c:∀a,Z a->H a≠none)(b:sI q r=.ok (e,d))
  (k:∀v i s,fk Z H s i->eJ bw e s H i d v->Q v i):Kl K x y H Q:=by
 unfold sI at b;split at b
 .obtain⟨l,j,rfl,m,n⟩:=dR g
  cases bt h;split at b
  .rename_i t f
   cases b;obtain⟨v,o,p⟩:=xN n f;exact .inl ⟨l,j,_,v,rfl,rfl,lV m,o,k v H Z (fk.refl c) (.rep p)⟩
  .cases b
 .obtain⟨l,j,rfl,_,m,n⟩:=gw g
  cases bt h;split at b
  .rename_i t f
   cases b;obtain⟨v,o,p⟩:=xN n f;exact .inr (.inl ⟨l,j,_,v,rfl,rfl,wU m,o,k v H Z (fk.refl c) (.rep p)⟩)
  .cases b
 .cases dE g
  cases bt h;split at b
  .rename_i u
   split at b
   .rename_i w f
    cases b;exact .inr (.inr ⟨_,_,w,rfl,rfl,bI u,f,k _ H Z (fk.refl c) (.rep (fT rfl))⟩)
   .cases b
  .cases b
 .cases b
theorem xO{a:Type}(xs:List a)(b c:Option Int):(dC xs b c).length<=xs.length:=by
 unfold dC;rw[List.length_take,List.length_drop];omega
theorem uv(n d:Nat)(v:Int):max 0 (min (if v<0 then v+(n:Int)else v) (n:Int))=((HT.iS n d (some v):Nat):Int):=by
 show max 0 (min (if v<0 then v+(n:Int)else v) (n:Int))=(((if v<0 then (v+(n:Int)).toNat else min v.toNat n):Nat):Int)
 by_cases a:v<0
 .simp only[if_pos a];omega
 .simp only[if_neg a];omega
theorem xP{a b:Int}{p q:Nat}(d:a=p)(e:b=q):sliceRange a b 1=(List.range (q - p)).map λk=>p+k:=by
 subst d e;unfold sliceRange;simp only[show((1:Int)>0)=True from by simp,if_true]
 by_cases c:(p:Int)<q
 .rw[if_pos c]
  have f:(((q:Int) - p+1 - 1) / 1).toNat=q - p:=by first|omega | (simp;done) | (simp;omega)
  rw[f];refine List.map_congr_left λk _=>?_
  omega
 .rw[if_neg c]
  have:q - p=0:=by omega
  rw[this];rfl
theorem mf(a b:Option Int)(n:Nat):Builtin.Str.strSliceIndices a b 1 n=(List.range (HT.iS n n b - HT.iS n 0 a)).map λk=>HT.iS n 0 a+k:=by
 unfold Builtin.Str.strSliceIndices;simp only[show((1:Int)>0)=True from by simp,if_true]
 refine xP ?_ ?_
 .cases a with
  |none=>rfl
  |some v=>exact uv n 0 v
 .cases b with
  |none=>rfl
  |some v=>exact uv n n v
theorem vT:∀(n a:Nat) (l:List Nat),a+n<=l.length->((List.range n).map λk=>a+k).filterMap (λi=>l[i]?)=(l.drop a).take n:=by
 intro n
 induction n with
 |zero=>intro a l _;simp
 |succ n c=>
  intro a l h;have b:a+n<l.length:=by omega
  rw[List.range_succ,List.map_append,List.filterMap_append,c a l (by omega),List.take_add_one,List.getElem?_drop]
  simp[List.getElem?_eq_getElem b]
theorem xQ(x:Str)(a b:Option Int):(Builtin.Str.strSliceIndices a b 1 x.length).filterMap (x.cps[·]?)=dC x.cps.toList a b:=by
 have c:x.cps.toList.length=x.length:=by simp[Str.length]
 have e:=HT.sF x.length 0 (Nat.zero_le _) a;have f:=HT.sF x.length x.length (Nat.le_refl _) b;rw[mf];unfold dC;rw[c];generalize HT.iS x.length 0 a=p at *;generalize HT.iS x.length x.length b=q at *
 by_cases d:p<=q
 .have:=vT (q - p) p x.cps.toList (by rw[c];omega)
  simpa using this
 .have:q - p=0:=by omega
  rw[this];simp
def He:V->Option Int->Option Int->Hp->VK->Prop:=λx a b H Q=>∃z,x=.str z/\z.length<=sizeLine/\Q (.str ⟨(dC z.cps.toList a b).toArray⟩) H
theorem mj:Eb X He:=by
 intro pins s G H x v J K a b L Q I j k m n h;obtain⟨z,rfl,M,q⟩:=h;obtain⟨t,rfl⟩:=j;refine⟨"str",_,F.slot_str_getitem.lookup,typeIs_str _ _ _,?_⟩
 have part:∀{w:Value}{o:Option Int},IsPart w o->∃p:Option (Int×Tok),w=partValue p/\p.map (·.1)=o:=λh=>by
  cases h with
  |none=>exact⟨none,rfl,rfl⟩
  |int i t=>exact⟨some (i,t),rfl,rfl⟩
 obtain⟨d,r,m1⟩:=part m;obtain⟨e,y,m2⟩:=part n;subst r y;refine wpAny_getItem_str_slice (l:=d) (u:=e) (st:=none) k rfl ?_
 have A:(slicePicked z d e none).filterMap (z.cps[·]?)=dC z.cps.toList a b:=by
  unfold slicePicked;rw[m1,m2];exact xQ z a b
 have N:(dC z.cps.toList a b).length<=z.length:=by
  have:=xO z.cps.toList a b;simpa[Str.length]using this
 unfold sliceMade;split
 .rename_i g
  have c:(slicePicked z d e none).length=z.length:=by
   simp only[Bool.and_eq_true,beq_iff_eq]at g;exact g.2
  have B:(⟨(dC z.cps.toList a b).toArray⟩:Str)=z:=by
   unfold slicePicked at c;rw[m1,m2]at c;have c:(Builtin.Str.strSliceIndices a b 1 z.length).length=z.length:=c;rw[mf,List.length_map,List.length_range]at c;have O:=HT.sF z.length z.length (Nat.le_refl _) b;have f:z.cps.toList.length=z.length:=by simp[Str.length]
   have C:dC z.cps.toList a b=z.cps.toList:=by
    unfold dC;rw[f]
    by_cases D:z.length=0
    .have:z.cps.toList=[]:=List.eq_nil_of_length_eq_zero (by rw[f];exact D)
     rw[this];simp
    .have E:HT.iS z.length 0 a=0:=by omega
     rw[E,List.drop_zero,List.take_of_length_le (by rw[f];omega)]
   rw[C]
  refine⟨.str z,H,I,⟨t,rfl⟩,?_⟩;rw[B]at q;exact q
 .rw[A]
  refine⟨?_,.str _,H,I.tok _,⟨_,rfl⟩,q⟩
  show(dC z.cps.toList a b).toArray.size<=sizeLine
  rw[List.size_toArray];omega
def Hf(K:PySem.W.Frag):V->Option Int->Option Int->Hp->VK->Prop:=λx a b H Q=>G5 K x a b H Q\/He x a b H Q
end
noncomputable def mm(F:List D->Out Rs):Sp:=λg H Q _=>
 ∃Z e b d,(∀a,Z a->H a≠none)/\bb Z H e g/\F e=.ok (b,d)/\∀v c f,fk Z H f c->eJ false b f H c d v->Q v c
theorem eJ.weak{bw a:Bool}{Z:Addr->Prop}{c H:Hp}{d:D}{v:V}(h:eJ false a Z c H d v):eJ bw a Z c H d v:=by
 unfold eJ at h ⊢;split
 .rename_i b;rw[if_pos b]at h;exact h
 .rename_i b;rw[if_neg b,if_neg Bool.false_ne_true]at h
  split
  .exact h.now
  .exact h
section
variable{X:Cx}{Γ:nJ}{bw:Bool}{a b e:Expr}{es:List Expr}{ca cb cc c cs:Ex}{pos p:Pos}
structure Hg(X:Cx)(k:Nat)(x:Str)(F:List D->Out Rs):Prop where
 ex:∃(f:Addr) (fd:FuncData) (ps:List Str),X.mg x=some (.ref f)/\PySem.W.keepIn X.K (.ref f)=true/\Binds X.K fd ps []/\cQ X.prog X.w X.K X.mg X.base nA k f fd ps (mm F)
inductive fm (h:Heap):Value->Bool->Prop where
 |non:fm h .none false
 |bl (b:Bool):fm h (.bool b) b
 |int (i:Int) (t:Tok):fm h (.int i t) (i != 0)
 |str (x:Str) (t:Tok):x.length<=sizeLine->fm h (.str x t) ((x.length:Int) != 0)
 |lst {l:Addr}{its:Array Value}:h.IsList l its->its.size<=sizeLine->fm h (.ref l) (!its.isEmpty)
 |tup {l:Addr}{its:Array Value}:IsTup h l its->its.size<=sizeLine->fm h (.ref l) (!its.isEmpty)
theorem fm.keep{h h':Heap}{u:Value}{t:Bool}(k:∀b o,(u=.ref b)->h.get? b=some o->h'.get? b=some o)(x:fm h u t):fm h' u t:=by
 cases x with
 |non=>exact .non
 |bl=>exact .bl _
 |int i t=>exact .int i t
 |str x t z=>exact .str x t z
 |lst q z=>obtain⟨o,a,c⟩:=q;exact .lst ⟨o,k _ o rfl a,c⟩ z
 |tup q z=>obtain⟨o,a,c⟩:=q;exact .tup ⟨o,k _ o rfl a,c⟩ z
theorem fm.run{prog:Program}{w:World}{A:Around}{E:Value->Shared->Prop}{s:Shared}{u:Value}{t:Bool}{Q:Bool->Shared->Prop}(x:fm s.heap u t)(q:∀a,Q t {s with toks:=a}):wpAny (model prog w) A (truthy u) Q E s:=by
 have b:=ja;cases x with
 |non=>exact truthy_none (q s.toks)
 |bl=>exact wpAny_truthy_bool (q s.toks)
 |int i t=>exact PySem.P.truthy_int (q s.toks)
 |str x t z=>exact PySem.P.truthy_str (by omega) (q _)
 |lst h z=>exact wpAny_truthy_list h (by omega) (q _)
 |tup h z=>exact truthy_tuple h (by omega) (q _)
theorem xR{pins:List (Addr×Obj)}{w:L2.St}{H:Hp}{s:Shared}{Z:Addr->Prop}{d:D}{v:V}{u:Value}{t:Bool}(I:Inv X pins w H s)(n:Now Z H d v)(r:RelV v u)(h:kU d=some t):fm s.heap u t:=by
 cases d with
 |non=>cases gv n;cases r;cases h;exact .non
 |bl b=>cases jd n;cases r;cases h;exact .bl _
 |int b=>cases bt n;obtain⟨k,rfl⟩:=r;cases h;exact .int _ _
 |str b=>
  cases dE n;obtain⟨k,rfl⟩:=r;simp only[kU]at h;split at h
  .rename_i x
   cases h
   have e:((b.length:Int) != 0)=(b.length != 0):=by
    rw[Bool.eq_iff_iff];simp only[bne_iff_ne,ne_eq];omega
   rw[←e];exact .str b k (bI x)
  .cases h
 |lst f=>
  obtain⟨a,i,rfl,j,l⟩:=dR n;cases r;cases h;obtain⟨c,g,p,m⟩:=I.list (lV (K:=X.K) j)
  have e:(!f.isEmpty)=!c.toArray.isEmpty:=by
   have o:=l.length;have q:=g.length;cases f<;>cases i<;>cases c<;>simp at o q ⊢
  rw[e];exact .lst p.isList (by rw[List.size_toArray,←g.length];exact m)
 |tup f=>
  obtain⟨a,i,rfl,_,j,l⟩:=gw n;cases r;cases h;obtain⟨c,g,p,m⟩:=I.tuple (wU (K:=X.K) j)
  have e:(!f.isEmpty)=!c.toArray.isEmpty:=by
   have o:=l.length;have q:=g.length;cases f<;>cases i<;>cases c<;>simp at o q ⊢
  rw[e];exact .tup p (by rw[List.size_toArray,←g.length];exact m)
 |dct y f=>cases h
 |ref k=>cases h
section
variable{prog:Program}{w:World}{A:Around}{R:Result->Shared->Prop}{J:Addr}{fp wr:List Addr}{n:Nat}{P:Nat->Value->Prop}{T:Nat->Heap->Prop}
theorem xS(W:Walks prog w A.in1 J fp wr n P T)(f:Nat->Bool)(G:Heap->Prop)(B:∀h h':Heap,G h->(∀b o,b∉wr->h.get? b=some o->h'.get? b=some o)->G h')
  (C:∀i v (h:Heap),P i v->G h->fm h v (f i)):∀(m i:Nat) (s:Shared),n - i=m->i<=n->T i s.heap->G s.heap ->
  (∀h' c,(∀b o,b∉wr->s.heap.get? b=some o->h'.get? b=some o)->R (.ok (.ret (.bool (((List.range n).drop i).all f)))) {s with heap:=h',toks:=c}) ->
  codeAny (model prog w) A (.builtin "all.loop" ⟨[.ref J],[]⟩) R s:=by
 intro m
 induction m with
 |zero=>
  intro i s D E j g a;obtain rfl:i=n:=by omega
  refine codeAny_builtin PySem.F.entry_all_loop ?_;rw[Around.under_plainId PySem.F.plain_all_loop _];refine wpAny_bind (m:=pyNext (.ref J)) (W.done s _ _ j λh' c d=>wpAny_bind (wpAny_rule (wpAny_pure ?_)))
  have q:=a h' c d;rw[List.drop_of_length_le (by simp)]at q
  exact q
 |succ m H=>
  intro i s D E j g a;have k:i<n:=by omega
  have u:(List.range n).drop i=i::(List.range n).drop (i+1):=by
   rw[List.drop_eq_getElem_cons (by simpa using k)];simp
  refine codeAny_builtin PySem.F.entry_all_loop ?_;rw[Around.under_plainId PySem.F.plain_all_loop _];refine wpAny_bind (m:=pyNext (.ref J)) (W.item i s _ _ k j λv h' c I l d=>?_)
  have x:G h':=B _ _ g d;refine wpAny_bind (wpAny_holding ((C i v h' I x).run (s:={s with heap:=h',toks:=c}) λp=>?_))
  refine wpAny_bind (wpAny_letGo ?_);cases e:f i with
  |true=>
   simp only[if_true];refine wpAny_pure ⟨plainId_quiet PySem.F.plain_all_loop _,H (i+1) _ (by omega) k l x λK r t=>?_⟩
   have q:=a K r λb o y z=>t b o y (d b o y z)
   rw[u,List.all_cons,e,Bool.true_and]at q;exact q
  |false=>
   simp only[Bool.false_eq_true,if_false];refine wpAny_bind (wpAny_rule (wpAny_pure ?_));have q:=a h' p d;rw[u,List.all_cons,e,Bool.false_and]at q;exact q
theorem xT(W:Walks prog w A.in1 J fp wr n P T)(f:Nat->Bool)(G:Heap->Prop)(B:∀h h':Heap,G h->(∀b o,b∉wr->h.get? b=some o->h'.get? b=some o)->G h')
  (C:∀i v (h:Heap),P i v->G h->fm h v (f i)):∀(m i:Nat) (s:Shared),n - i=m->i<=n->T i s.heap->G s.heap ->
  (∀h' c,(∀b o,b∉wr->s.heap.get? b=some o->h'.get? b=some o)->R (.ok (.ret (.bool (((List.range n).drop i).any f)))) {s with heap:=h',toks:=c}) ->
  codeAny (model prog w) A (.builtin "any.loop" ⟨[.ref J],[]⟩) R s:=by
 intro m
 induction m with
 |zero=>
  intro i s D E j g a;obtain rfl:i=n:=by omega
  refine codeAny_builtin PySem.F.entry_any_loop ?_;rw[Around.under_plainId PySem.F.plain_any_loop _];refine wpAny_bind (m:=pyNext (.ref J)) (W.done s _ _ j λh' c d=>wpAny_bind (wpAny_rule (wpAny_pure ?_)))
  have q:=a h' c d;rw[List.drop_of_length_le (by simp)]at q
  exact q
 |succ m H=>
  intro i s D E j g a;have k:i<n:=by omega
  have u:(List.range n).drop i=i::(List.range n).drop (i+1):=by
   rw[List.drop_eq_getElem_cons (by simpa using k)];simp
  refine codeAny_builtin PySem.F.entry_any_loop ?_;rw[Around.under_plainId PySem.F.plain_any_loop _];refine wpAny_bind (m:=pyNext (.ref J)) (W.item i s _ _ k j λv h' c I l d=>?_)
  have x:G h':=B _ _ g d;refine wpAny_bind (wpAny_holding ((C i v h' I x).run (s:={s with heap:=h',toks:=c}) λp=>?_))
  refine wpAny_bind (wpAny_letGo ?_);cases e:f i with
  |false=>
   simp only[Bool.false_eq_true,if_false];refine wpAny_pure ⟨plainId_quiet PySem.F.plain_any_loop _,H (i+1) _ (by omega) k l x λK r t=>?_⟩
   have q:=a K r λb o y z=>t b o y (d b o y z)
   rw[u,List.any_cons,e,Bool.false_or]at q;exact q
  |true=>
   simp only[if_true];refine wpAny_bind (wpAny_rule (wpAny_pure ?_));have q:=a h' p d;rw[u,List.any_cons,e,Bool.true_or]at q;exact q
end
theorem pw:∀{ds:List D}{bs:List Bool},fR ds=some bs->bs.length=ds.length
 |[],_,h=>by cases h;rfl
 |d::ds,bs,h=>by
  simp only[fR]at h;split at h
  .rename_i b a h1 h2
   cases h;rw[List.length_cons,List.length_cons,pw h2]
  .cases h
theorem uw:∀{ds:List D}{bs:List Bool}{i:Nat}{d:D},fR ds=some bs->ds[i]?=some d->∃b,bs[i]?=some b/\kU d=some b
 |[],_,_,_,_,h=>by simp at h
 |d::ds,bs,i,j,h,a=>by
  simp only[fR]at h;split at h
  .rename_i b e h1 h2
   cases h;cases i with
   |zero=>simp at a;subst a;exact⟨b,rfl,h1⟩
   |succ i=>
    obtain⟨c,f,g⟩:=uw (i:=i) h2 (by simpa using a)
    exact⟨c,by simpa using f,g⟩
  .cases h
theorem all_range:∀(bs:List Bool),((List.range bs.length).all λi=>(bs[i]?).getD true)=bs.all id
 |[]=>rfl
 |b::bs=>by
  rw[List.length_cons,List.range_succ_eq_map,List.all_cons,List.all_map,List.all_cons,←all_range bs];rfl
theorem any_range:∀(bs:List Bool),((List.range bs.length).any λi=>(bs[i]?).getD false)=bs.any id
 |[]=>rfl
 |b::bs=>by
  rw[List.length_cons,List.range_succ_eq_map,List.any_cons,List.any_map,List.any_cons,←any_range bs];rfl
def MB(K:PySem.W.Frag):List V->Hp->VK->Prop:=λb H Q=>∃Z a bs x,b=[x]/\Now Z H (.lst a) x/\fR a=some bs/\Q (.bl (bs.all id)) H
def MC(K:PySem.W.Frag):List V->Hp->VK->Prop:=λb H Q=>∃Z a bs x,b=[x]/\Now Z H (.lst a) x/\fR a=some bs/\Q (.bl (bs.any id)) H
theorem xU{pins:List (Addr×Obj)}{j:L2.St}{H:Hp}{s:Shared}{Z:Addr->Prop}{ds:List D}{vs:List V}{a:List Value}{bs:List Bool}(I:Inv X pins j H s)(d:bb Z H ds vs)(e:Vals vs a)(k:fR ds=some bs)(dflt:Bool) :
  ∀(i:Nat) (v:Value),a.toArray[i]?=some v->fm s.heap v ((bs[i]?).getD dflt):=by
 intro i v c;have c:a[i]?=some v:=by simpa using c
 obtain⟨l,m⟩:=List.getElem?_eq_some_iff.mp c;obtain⟨x,n,f⟩:=pv e l;have r:=d.length;have t:=e.length;have g:ds[i]?=some ds[i]:=by simp[show i<ds.length by omega]
 obtain⟨y,h,o⟩:=d.get g;rw[n]at h;cases h
 obtain⟨b,p,q⟩:=uw k g;rw[p];rw[m]at f;exact xR I o.now f q
theorem xV(t:X.calm=true):fj X (.builtin "all") (MB X.K):=by
 intro pins s G H J L Q I r h;obtain⟨Z,M,bs,x,rfl,w,j,q⟩:=h;obtain⟨u,rfl,y⟩:=vals1 r;obtain⟨l,N,rfl,B,k⟩:=dR w;cases y;obtain⟨a,n,p,O⟩:=I.list (lV (K:=X.K) B);have c:l<s.heap.objs.size:=by obtain⟨_,e,_⟩:=p.isList;exact Heap.lt_size e
 have C:=xU I k n j true;refine call_function_tree PySem.F.kind_all PySem.F.plain_all PySem.F.entry_all (PySem.F.args_all1 _) ?_;unfold Builtin.«all»;refine wpAny_bind (m:=oneArg "all" _) (wpAny_pure (wpAny_bind (wpAny_pyIter_list p.isList ?_)))
 refine wpAny_pure ⟨plainId_quiet PySem.F.plain_all_loop _,xS (Walks.list (A:=X.A.in1) (I.ok.hd t) s.heap.objs.size l (Nat.ne_of_lt c) a.toArray) (λi=>(bs[i]?).getD true)
  (λh=>∀b o,b≠s.heap.objs.size->s.heap.get? b=some o->h.get? b=some o) (λh h' g d b o f e=>d b o (by simpa using f) (g b o f e))
  (λi v h D g=>(C i v D).keep λb o e z=>g b o (Nat.ne_of_lt (Heap.lt_size z)) z) _ 0 _ rfl (Nat.zero_le _) ⟨⟨_,Heap.get?_push_size _ rfl,rfl,rfl⟩,p.isList.push _⟩ (λb o f e=>Heap.get?_push_of_some _ e) λh' E d=>?_⟩
 have e:((List.range a.toArray.size).drop 0).all (λi=>(bs[i]?).getD true)=bs.all id:=by
  rw[List.drop_zero,List.size_toArray,←n.length,k.length,←pw j];exact all_range bs
 rw[e]
 exact⟨.bl _,H,I.kept (h':=h') (t':=E) λb o z=>d b o (by
  have:=Nat.ne_of_lt (Heap.lt_size z);simpa using this) (Heap.get?_push_of_some _ z),rfl,q⟩
theorem xW(t:X.calm=true):fj X (.builtin "any") (MC X.K):=by
 intro pins s G H J L Q I r h;obtain⟨Z,M,bs,x,rfl,w,j,q⟩:=h;obtain⟨u,rfl,y⟩:=vals1 r;obtain⟨l,N,rfl,B,k⟩:=dR w;cases y;obtain⟨a,n,p,O⟩:=I.list (lV (K:=X.K) B);have c:l<s.heap.objs.size:=by obtain⟨_,e,_⟩:=p.isList;exact Heap.lt_size e
 have C:=xU I k n j false;refine call_function_tree PySem.F.kind_any PySem.F.plain_any PySem.F.entry_any (PySem.F.args_any1 _) ?_;unfold Builtin.«any»;refine wpAny_bind (m:=oneArg "any" _) (wpAny_pure (wpAny_bind (wpAny_pyIter_list p.isList ?_)))
 refine wpAny_pure ⟨plainId_quiet PySem.F.plain_any_loop _,xT (Walks.list (A:=X.A.in1) (I.ok.hd t) s.heap.objs.size l (Nat.ne_of_lt c) a.toArray) (λi=>(bs[i]?).getD false)
  (λh=>∀b o,b≠s.heap.objs.size->s.heap.get? b=some o->h.get? b=some o) (λh h' g d b o f e=>d b o (by simpa using f) (g b o f e))
  (λi v h D g=>(C i v D).keep λb o e z=>g b o (Nat.ne_of_lt (Heap.lt_size z)) z) _ 0 _ rfl (Nat.zero_le _) ⟨⟨_,Heap.get?_push_size _ rfl,rfl,rfl⟩,p.isList.push _⟩ (λb o f e=>Heap.get?_push_of_some _ e) λh' E d=>?_⟩
 have e:((List.range a.toArray.size).drop 0).any (λi=>(bs[i]?).getD false)=bs.any id:=by
  rw[List.drop_zero,List.size_toArray,←n.length,k.length,←pw j];exact any_range bs
 rw[e]
 exact⟨.bl _,H,I.kept (h':=h') (t':=E) λb o z=>d b o (by
  have:=Nat.ne_of_lt (Heap.lt_size z);simpa using this) (Heap.get?_push_of_some _ z),rfl,q⟩
end
section
variable{X:Cx}{Γ:nJ}{bw:Bool}{a b e:Expr}{es:List Expr}{ca cb cc c cs:Ex}{pos p:Pos}
noncomputable def nI.nm:nI->Str
 |.len=>"len" |.all=>"all" |.any=>"any" |.sorted=>"sorted" |.list=>"list" |.tuple=>"tuple" |.int=>"int" |.min=>"min" |.max=>"max" |.bool=>"bool"
theorem mn{Z:Addr->Prop}{H:Hp}{d:D}{v:V}{Q:VK}(b:∀a,Z a->H a≠none)(k:∀v c e,fk Z H e c->eJ bw false e H c d v->Q v c)(h:fS d=some v):Q v H:=
 k _ H Z (fk.refl b) (.rep (fT h))
noncomputable def Ty.nm:Ty->Str
 |.int=>"int" |.str=>"str" |.bool=>"bool" |.list=>"list" |.tuple=>"tuple" |.dict=>"dict"
noncomputable def Ty.id:Ty->String
 |.int=>"int" |.str=>"str" |.bool=>"bool" |.list=>"list" |.tuple=>"tuple" |.dict=>"dict"
theorem Ah(t:Ty):bootBuiltins t.nm=some (.type t.id):=by cases t<;>decide +kernel
theorem Ai(K:PySem.W.Frag)(t:Ty):PySem.W.kitOne K (.type "NoneType") (.type t.id)=some false/\PySem.W.kitOne K (.type "bool") (.type t.id)=some (t==.bool||t==.int)/\PySem.W.kitOne K (.type "int") (.type t.id)=some (t==.int) /\
  PySem.W.kitOne K (.type "str") (.type t.id)=some (t==.str)/\PySem.W.kitOne K (.type "list") (.type t.id)=some (t==.list)/\PySem.W.kitOne K (.type "tuple") (.type t.id)=some (t==.tuple)/\PySem.W.kitOne K (.type "dict") (.type t.id)=some (t==.dict):=by
 cases t<;>refine⟨?_,?_,?_,?_,?_,?_,?_⟩<;>with_unfolding_all rfl
def Hh(K:PySem.W.Frag):List V->Hp->VK->Prop:=λa H Q=>∃Z d x t b,a=[x,.ty (Ty.id t)]/\Now Z H d x/\xG d t=some b/\Q (.bl b) H
theorem qQ{K:PySem.W.Frag}{H:Hp}{a:Addr}{vs:List V}{X:Cx}{pins:List (Addr×Obj)}{c:L2.St}{s:Shared}(I:Inv X pins c H s)(h:Rd H a (.tup vs)):∃o,s.heap.get? a=some o/\o.cls=.type "tuple":=by
 obtain⟨_,b,_,o,d,e,_⟩:vs.length<=sizeLine/\∃b:List Value,Vals vs b/\IsTup s.heap a b.toArray:=Rd.ok h I.hok;exact⟨o,d,e⟩
theorem xX:fj X (.builtin "isinstance") (Hh X.K):=by
 intro pins s y H M N Q I r h;obtain⟨Z,d,x,t,b,rfl,f,i,q⟩:=h;obtain⟨u,A,rfl,j,B⟩:=vals2 r;cases (show A=Value.type (Ty.id t)from B)
 obtain⟨C,D,E,F,n,G,J⟩:=Ai X.K t;have e:∀l,EP X pins y Q (.bool b) {s with toks:=l}:=λl=>⟨.bl b,H,I.tok l,rfl,q⟩
 cases d with
 |non=>cases gv f;cases i;exact ey I j .non C e
 |bl c=>cases jd f;cases i;exact ey I j (.bl c) D e
 |int c=>cases bt f;cases i;exact ey I j (.int c) E e
 |str c=>cases dE f;cases i;exact ey I j (.str c) F e
 |lst m=>
  obtain⟨a,p,rfl,g,w⟩:=dR f;cases i;rcases g with g|⟨o,g⟩
  .exact ey I j (.lst g) n e
  .exact ey I j (.dW g) n e
 |tup m=>
  obtain⟨a,p,rfl,_,g,w⟩:=gw f;cases i;cases j;exact PySem.W.kia_one PySem.W.kitx_tuple I.jq (qQ (K:=X.K) I g) G (λz=>nomatch z) e
 |dct L m=>
  have f:Rep Z H (.dct L m) x:=f;simp only[Rep]at f;obtain⟨a,p,rfl,_,g,w⟩:=f;cases i;exact ey I j (.dK g) J e
 |ref k=>cases i
end
abbrev ux(a:List Expr)(env:Env):Sem Bool:=forIn a true λc r=>if r=true then do let ok ←isTrue c env (eval c env);pure (ForInStep.yield ok)else pure (ForInStep.yield r)
section
variable{prog:Program}{w:World}{A:Around}{R:Result->Shared->Prop}{s:Shared}
theorem vU{a e iter:Expr}{b:List Expr}{scope:Scope}{pos:Pos}{it c:Value}{env:Env}(J:Nat->Shared->Prop)
  (d:∀n s,J n s->wpAny (model prog w) A (pyNext it) (λr f=>match r with
   |none=>R (.ok .next) f
   |some v=>wpAny (model prog w) A (letOwnedTupleGo e it v) (λ_ j=>wpAny (model prog w) A (assign e env v) (λ_ k=>wpAny (model prog w) A (ux b env) (λok g=>
      if ok=true then wpAny (model prog w) A (eval a env) (λx l=>wpAny (model prog w) A (call (.builtin "list.append") [c,x]) (λ_ o=>∃m,m<n/\J m o) (λ_ _=>False) l) (λ_ _=>False) g
      else ∃m,m<n/\J m g) (λ_ _=>False) k) (λ_ _=>False) j) (λ_ _=>False) f) (λ_ _=>False) s)
  (n:Nat) (h:J n s):codeAny (model prog w) A (.compLoop (.ListComp a [⟨e,iter,b,0⟩] scope pos) 0 it c env) R s:=by
 refine codeAny_loop rfl J (λn s q=>?_) n h
 refine wpAny_noted (env:=env) (m:=compTurn (.ListComp a [⟨e,iter,b,0⟩] scope pos) 0 it c env) ?_;rw[compTurn_list];refine wpAny_bind (wpAny_standAt (wpAny_bind (wpAny_mono (d n s q) (λr f p=>?_) λ_ _ z=>z.elim)))
 cases r with
 |none=>exact wpAny_pure p
 |some v=>
  refine wpAny_bind (wpAny_mono p (λ_ j t=>wpAny_bind (wpAny_mono t (λ_ k u=>wpAny_bind (wpAny_mono u (λok g i=>?_) λ_ _ z=>z.elim)) λ_ _ z=>z.elim)) λ_ _ z=>z.elim)
  cases ok with
  |false=>exact wpAny_pure ⟨rfl,by simpa using i⟩
  |true=>
   rw[if_pos rfl]at i;refine wpAny_bind (wpAny_bind (wpAny_mono i (λx l y=>wpAny_bind (wpAny_mono y (λ_ o B=>?_) λ_ _ z=>z.elim)) λ_ _ z=>z.elim))
   exact wpAny_pure (wpAny_pure ⟨rfl,B⟩)
end
theorem sN{scope:Scope}{env:Env}(h:∀y∈scope.names,y.2=.free->∃c,env.cells.lookup y.1=some c) :
  ∃d,closureFor scope env=pure d/\(∀n c,(n,c)∈d->env.cells.lookup n=some c)/\∀y∈scope.names,y.2=.free->∃c,(y.1,c)∈d:=by
 have u:∀(l:List (Str×NameKind)) (b:List (Str×Addr)),(∀y∈l,y.2=.free->∃c,env.cells.lookup y.1=some c)->(∀n c,(n,c)∈b->env.cells.lookup n=some c) ->
   ∃d,(forIn l b λx r=>match x with | (name,kind)=>if (kind==NameKind.free)=true then do let a ←cellOf env name;pure (ForInStep.yield ((name,a)::r))else pure (ForInStep.yield r):Sem (List (Str×Addr)))=pure d /\
    (∀n c,(n,c)∈d->env.cells.lookup n=some c)/\(∀p∈b,p∈d)/\∀y∈l,y.2=.free->∃c,(y.1,c)∈d:=by
  intro l
  induction l with
  |nil=>intro b _ o;exact⟨b,rfl,o,λ_ w=>w,λ_ D=>absurd D (by simp)⟩
  |cons y l C=>
   intro b A o;obtain⟨n,k⟩:=y;cases g:(k==NameKind.free)with
   |false=>
    obtain⟨d,e,i,s,j⟩:=C b (λz hz=>A z (by simp[hz])) o
    refine⟨d,?_,i,s,λz hz f=>?_⟩
    .rw[List.forIn_cons]
     simp only[g,Bool.false_eq_true,if_false];exact e
    .rcases List.mem_cons.mp hz with rfl|hz
     .have:k=.free:=f
      rw[this]at g;exact absurd g (by decide)
     .exact j z hz f
   |true=>
    have B:k=.free:=by simpa using g
    obtain⟨c,t⟩:=A (n,k) (by simp) B
    obtain⟨d,e,i,s,j⟩:=C ((n,c)::b) (λz hz=>A z (by simp[hz])) (λE F G=>by
     rcases List.mem_cons.mp G with q|q
     .cases q;exact t
     .exact o E F q)
    refine⟨d,?_,i,λp w=>s p (by simp[w]),λz hz f=>?_⟩
    .rw[List.forIn_cons]
     simp only[g,if_true]
     have:cellOf env n=pure c:=by
      have t:env.cells.lookup n=some c:=t;unfold cellOf;rw[t]
     rw[this];exact e
    .rcases List.mem_cons.mp hz with rfl|hz
     .exact⟨c,s _ (by simp)⟩
     .exact j z hz f
 obtain⟨d,e,i,_,j⟩:=u scope.names [] h (λ_ _ z=>absurd z (by simp))
 refine⟨d,?_,i,j⟩;unfold closureFor;have H:=congrArg (λm:Sem (List (Str×Addr))=>m >>= λr=>pure r) e
 exact H
noncomputable def blk(X:Cx)(scope:Scope)(a:List (Str×Addr))(C:Addr)(N:List Str)(s₀:Shared)(H₀:Hp)(fp:List Addr):Cx:=
 {X with N:=N,s₀:=s₀,H₀:=H₀,env:=compEnvC scope a C X.env,outer:=X.stack,stack:=X.stack,ex:=fp,fn:=λ_=>false,pn:=[],xe:=λ_ _=>False}
theorem lookup_mem{a b:Type}[BEq a][LawfulBEq a]:∀{l:List (a×b)}{x:a}{v:b},l.lookup x=some v->(x,v)∈l
 |[],_,_,h=>by simp at h
 | (n,k)::r,x,v,h=>by
  rw[List.lookup_cons]at h;cases e:x==n with
  |true=>rw[e]at h;cases h;rw[eq_of_beq e];simp
  |false=>rw[e]at h;exact List.mem_cons_of_mem _ (lookup_mem h)
theorem mem_lookup{a b:Type}[BEq a][LawfulBEq a]:∀{l:List (a×b)}{x:a}{v:b},(x,v)∈l->∃u,l.lookup x=some u
 |[],_,_,h=>by simp at h
 | (n,k)::r,x,v,h=>by
  rw[List.lookup_cons];cases e:x==n with
  |true=>exact⟨k,rfl⟩
  |false=>
   rcases List.mem_cons.mp h with q|q
   .cases q;simp at e
   .exact mem_lookup q
theorem fo{env:Env}:∀(names:List (Str×NameKind)) (x:Str),(names.map λ(n,k)=>if (k==NameKind.free&&env.scope.kind==.function&&env.kindOf n==some .cell)then (n,NameKind.cell)else (n,k)).lookup x =
  (names.lookup x).map λk=>if (k==NameKind.free&&env.scope.kind==.function&&env.kindOf x==some .cell)then NameKind.cell else k
 |[],_=>rfl
 | (n,k)::r,x=>by
  have c:=fo (env:=env) r x
  show List.lookup x ((if (k==NameKind.free&&env.scope.kind==.function&&env.kindOf n==some .cell)=true then (n,NameKind.cell)else (n,k))::_)=_
  cases b:x==n with
  |true=>
   obtain rfl:x=n:=eq_of_beq b
   by_cases a:(k==NameKind.free&&env.scope.kind==.function&&env.kindOf x==some .cell)=true
   .rw[if_pos a,List.lookup_cons,List.lookup_cons]
    simp only[b,Option.map_some,if_pos a]
   .rw[if_neg a,List.lookup_cons,List.lookup_cons]
    simp only[b,Option.map_some,if_neg a]
  |false=>
   by_cases a:(k==NameKind.free&&env.scope.kind==.function&&env.kindOf n==some .cell)=true
   .rw[if_pos a,List.lookup_cons,List.lookup_cons]
    simp only[b];exact c
   .rw[if_neg a,List.lookup_cons,List.lookup_cons]
    simp only[b];exact c
structure kB(X:Cx)(scope:Scope)(tn cn:List Str)(cap:List Nat):Prop where
 kind:scope.kind=.function
 cell:∀y∈scope.names,y.2≠.cell
 names:∀y∈scope.names,y.2=.local->scope.names.lookup y.1=some .local
 free:∀y∈scope.names,y.2=.free->X.env.kindOf y.1=some .cell\/X.env.kindOf y.1=some .free
 len:cn.length=cap.length
 at':∀(j i:Nat) (x:Str),cn[j]?=some x->cap[j]?=some i->X.N[i]?=some x/\scope.names.lookup x=some .free
noncomputable def qR(cap:List Nat)(a:L2.St):L2.St:=cap.map λi=>(a[i]?).join
def gQ(a:Nat)(cap:List Nat)(b:L2.St):L2.St:=List.replicate a none++qR cap b
section
variable{X:Cx}{scope:Scope}{tn cn:List Str}{cap:List Nat}
theorem vV{pins:List (Addr×Obj)}{j:L2.St}{H:Hp}{s:Shared}{fp:List Addr}{D:List (Str×Addr)}{J:Heap}{tk:Nat}{m:Str->Option Value}(B:kB X scope tn cn cap)
  (I:Inv X pins j H s) (K:∀b∈fp,nE X pins H b) (N:∀b∈fp,∃o,s.heap.get? b=some o) (w:∀n c,(n,c)∈D->X.env.cells.lookup n=some c) (c2:∀y∈scope.names,y.2=.free->∃c,(y.1,c)∈D)
  (L:∀b o,s.heap.get? b=some o->J.get? b=some o) (r:∃n,J.get? s.heap.objs.size=some {cls:=.type "list",data:=.seq ([]:List Value).toArray n}) (ns:J.Ns (s.heap.objs.size+1) m) :
  Inv (blk X scope D (s.heap.objs.size+1) (tn++cn) s H fp) [] (gQ tn.length cap j) (upd H s.heap.objs.size (.lst [])) {s with heap:=J,toks:=tk}:=by
 have O:∀b o,s.heap.get? b=some o->b≠s.heap.objs.size+1:=λb o e=>Nat.ne_of_lt (Nat.lt_succ_of_lt (Heap.lt_size e))
 have P:∀b o,s.heap.get? b=some o->b≠s.heap.objs.size:=λb o e=>Nat.ne_of_lt (Heap.lt_size e)
 have cell:∀x c,D.lookup x=some c->∃v,s.heap.IsCell c v:=λx c e=>I.cell x c (w x c (lookup_mem e))
 have Q:∀x c,D.lookup x=some c->c≠s.heap.objs.size+1/\c≠s.heap.objs.size:=λx c e=>by
  obtain⟨v,o,A,_⟩:=cell x c e;exact⟨O c o A,P c o A⟩
 have R:∀b∈fp,b<s.heap.objs.size:=λb g=>let ⟨o,e⟩:=N b g;Heap.lt_size e
 have fr:=I.hok.fresh (Nat.le_refl s.heap.objs.size);obtain⟨nd,r⟩:=r
 refine⟨⟨I.ok.mod,B.kind,I.ok.glob,I.ok.blt,Nat.le_succ _,λx y c C a=>?_,λx f=>?_,λx c e _=>absurd (show false=true from e) Bool.false_ne_true,I.ok.hd,I.ok.frames,.inl rfl,λb g=>⟨?_,λx c e z=>?_⟩,λb o e=>I.bs b o e,Nat.le_trans I.ok.CV I.sz,λb o e g=>?_,λb g S=>?_,I.stack,I.ue⟩,
  rfl,I.bare,?_,⟨m,ns,λi x v C a e3=>?_⟩,λx c e=>?_,?_,λx c e=>?_,λp hp=>absurd (show p∈([]:List (Addr×Obj))from hp) (by simp),?_,?_⟩
 .exact I.ok.inj x y c (w x c (lookup_mem C)) (w y c (lookup_mem a))
 .have f:(relabel scope X.env).names.lookup x=some .cell\/(relabel scope X.env).names.lookup x=some .free:=f
  unfold relabel at f;simp only[fo]at f;cases q:scope.names.lookup x with
  |none=>rw[q]at f;simp at f
  |some k=>
   rw[q]at f;have hm:=lookup_mem q
   have h:k=.free:=by
    by_cases h:k=.free
    .exact h
    .have T:(k==NameKind.free)=false:=by simpa using h
     rw[Option.map_some]at f;simp only[T,Bool.false_and,Bool.false_eq_true,if_false,Option.some.injEq]at f;rcases f with z|z
     .exact absurd z (B.cell _ hm)
     .exact z
   obtain⟨c,U⟩:=c2 _ hm h;exact mem_lookup U
 .exact Nat.ne_of_lt (Nat.lt_succ_of_lt (R b g))
 .exact(K b g).2.2.2.2.1 x c (w x c (lookup_mem e)) z
 .rcases(K b g).2.2.2.1 with z|z
  .exact I.ok.wY b o e z
  .exact absurd (Nat.lt_of_lt_of_le (Heap.lt_size (I.ok.bs b o e).1) z) (Nat.lt_irrefl _)
 .rcases List.mem_cons.mp (I.r_ b S)with z|z
  .exact(K b g).2.1 z
  .exact(K b g).2.2.1 z
 .exact Un.laid L (Nat.le_refl _) fr
 .have E:i<tn.length->False:=λF=>by
   have:(gQ tn.length cap j)[i]?=some none:=by
    unfold gQ;rw[List.getElem?_append_left (by simpa using F),List.getElem?_replicate,if_pos F]
   rw[this]at a;cases a
  have F:tn.length<=i:=Nat.le_of_not_lt E;have C:(tn++cn)[i]?=some x:=C;rw[List.getElem?_append_right F]at C
  have d:(qR cap j)[i - tn.length]?=some (some v):=by
   unfold gQ at a;rw[List.getElem?_append_right (by simpa using F)]at a
   simpa using a
  unfold qR at d;rw[List.getElem?_map]at d;cases q:cap[i - tn.length]? with
  |none=>rw[q]at d;cases d
  |some M=>
   rw[q]at d;have a:(j[M]?).join=some v:=by simpa using d
   have e4:j[M]?=some (some v):=by
    cases q2:j[M]? with
    |none=>rw[q2]at a;cases a
    |some z=>rw[q2]at a;cases z with
     |none=>cases a
     |some z=>cases a;rfl
   obtain⟨hN,t⟩:=B.at' _ _ _ C q;have h:=B.free _ (lookup_mem t) rfl;have h:X.env.kindOf x=some .cell\/X.env.kindOf x=some .free:=h
   have G:Gb X.env.scope x:=by
    rcases h with z|z
    .exact .inr (.inl z)
    .exact .inr (.inr z)
   obtain⟨m0,b0,V⟩:=I.loc;obtain⟨u,ru,Y⟩:=V M x v hN e4 G;refine⟨u,ru,.inr ⟨?_,?_⟩⟩
   .show(relabel scope X.env).names.lookup x=some .cell\/(relabel scope X.env).names.lookup x=some .free
    unfold relabel;simp only[fo,t,Option.map_some];split
    .exact .inl rfl
    .exact .inr rfl
   .have Y:∃c,X.env.cells.lookup x=some c/\s.heap.IsCell c (some u):=by
     rcases Y with ⟨z,_⟩|⟨_,z⟩
     .rcases h with y|y<;>rw[y]at z<;>cases z
     .exact z
    obtain⟨c,U,Z⟩:=Y;obtain⟨c',a0⟩:=c2 _ (lookup_mem t) rfl;obtain⟨c0,l⟩:=mem_lookup a0;have:=w _ _ (lookup_mem l);rw[U]at this;cases this
    obtain⟨o,A,r⟩:=Z;exact⟨c,l,o,L _ _ A,r⟩
 .obtain⟨v,o,A,r⟩:=cell x c e
  exact⟨v,o,L _ _ A,r⟩
 .show upd H s.heap.objs.size (.lst []) (s.heap.objs.size+1)=none
  rw[aM (Nat.succ_ne_self _)];exact I.hok.fresh (Nat.le_succ _)
 .refine⟨?_,λhz=>absurd (show false=true from hz) Bool.false_ne_true⟩
  rw[aM (Q x c e).2];exact(I.fP x c (w x c (lookup_mem e))).1
 .refine I.hok.laid L (Nat.le_refl _) ⟨Nat.zero_le _,[],nd,.nil,r⟩
 .show(gQ tn.length cap j).length=(tn++cn).length
  unfold gQ qR;rw[List.length_append,List.length_append,List.length_replicate,List.length_map,B.len]
def Aj(X:Cx)(a:List Expr)(t:TT):Prop:=∀(pins:List (Addr×Obj)) (s:Shared) (b:L2.St) (H:Hp) (Q:Bool->Hp->Prop),Inv X pins b H s->t b H Q->wpAny (model X.prog X.w) X.A (ux a X.env) (TP X pins b Q) X.xe s
theorem Ak:Aj X [] (λ_ H Q=>Q true H):=λpins s a H Q I h=>wpAny_pure ⟨H,I,h⟩
theorem Al{c:Expr}{t:TT}(h:PT X c t):Aj X [c] t:=λpins s a H Q I q=>wpAny_tests_one (h pins s a H Q I q)
def n_(n:TI)(o:Nat)(cap:List Nat)(g:TG)(p:TT)(q:TE):TE:=λf H Q=>n f H λJ h=>∀D,h D=none->∃W:Nat->Nat->List V->Hp->Prop,(∃m,W 0 m [] (upd h D (.lst []))) /\
 ∀i m a c,W i m a c->c D=some (.lst a)/\((J.stop i c/\Q (.ref D) c)\/(J.go i c/\a.length<sizeLine/\∀x j,J.Kj i c x j->g x (gQ o cap f) j λd r=>p d r λb k=>
  if b=true then q d k λy l=>l D=some (.lst a)/\∃e,e<m/\W (i+1) e (a++[y]) (upd l D (.lst (a++[y])))else ∃e,e<m/\W (i+1) e a k))
theorem oa{tg iter L:Expr}{M:List Expr}{pos Y:Pos}{wi:TI}{g:TG}{tc:TT}{te:TE}{use:Option (Value->Sem Unit)}{Q':Value->Shared->Prop}{Q:VK}{pins:List (Addr×Obj)}{d:L2.St}{H:Hp}{s:Shared}
  (hc:X.calm=true) (B:kB X scope tn cn cap) (hi:PI X tg iter wi) (hs:∀x,foldedSetIterable iter X.env x=pure x)
  (j0:∀v d H Q,g v d H Q->g v d H λN f=>Q N f/\N.length=d.length/\∀j,tn.length<=j->N[j]?=d[j]?)
  (a:∀k C l t fp,PG (blk X scope k C (tn++cn) l t fp) tg g/\Aj (blk X scope k C (tn++cn) l t fp) M tc/\PE (blk X scope k C (tn++cn) l t fp) L te)
  (k0:∀(U:Shared) (f:Hp) (C D:Addr) (m:Str->Option Value),Inv X pins d f U->U.heap.Ns C m->f C=none->C≠X.env.locals->X.s₀.heap.objs.size<=C->(∀x c,X.env.cells.lookup x=some c->c≠C)->(∀p∈X.pn++pins,p.1≠C)->Q (.ref D) f ->
   compPost (model X.prog X.w) X.A X.xe use Q' (.ref D) C (.ok .next) U)
  (I:Inv X pins d H s) (h:n_ wi tn.length cap g tc te d H Q) :
  wpAny (model X.prog X.w) X.A (comprehension (.ListComp L [⟨tg,iter,M,0⟩] scope pos) scope X.env Y (newList []) false (eval iter X.env) use) Q' X.xe s:=by
 have l0:∀y∈scope.names,y.2=.free->∃c,X.env.cells.lookup y.1=some c:=λy hy hk=>I.ok.has y.1 (B.free y hy hk)
 obtain⟨k,n0,c1,c2⟩:=sN l0;refine wpAny_comprehension_free (use:=use) rfl hs n0 B.kind B.names ?_;refine cy (hi pins s d H _ I h) λv s1 O=>cy O λt0 s2 h2=>?_
 obtain⟨it,fp,P,J,E,e,R,T,Z,f2,h⟩:=h2;subst e;have fr:=R.hok.fresh (Nat.le_refl s2.heap.objs.size);obtain⟨W,⟨m0,w0⟩,a0⟩:=h s2.heap.objs.size fr;refine wpAny_newObj_type (wpAny_newFunctionEnv B.cell (λy hy=>absurd hy (by simp)) (λO ns sb=>?_) B.kind)
 have o0:(s2.heap.push {cls:=.type "list",dict:=none,data:=.seq ([]:List Value).toArray}).objs.size=s2.heap.objs.size+1:=Heap.size_push _ _;dsimp only at ns sb ⊢;rw[o0]at ns sb ⊢;have kp:∀b o,s2.heap.get? b=some o->O.get? b=some o:=λb o e=>sb.extBut b o (Nat.ne_of_lt (Nat.lt_succ_of_lt (Heap.lt_size e))) (Heap.get?_push_of_some _ (Heap.get?_push_of_some _ e))
 have hD:∃n,O.get? s2.heap.objs.size=some {cls:=.type "list",data:=.seq ([]:List Value).toArray n}:=⟨0,sb.extBut _ _ (Nat.ne_of_lt (Nat.lt_succ_self _)) (Heap.get?_push_of_some _ (Heap.get?_push_size _ rfl))⟩;have b0:∀b∈fp,∃o,s2.heap.get? b=some o:=λb a=>let ⟨o,e,_⟩:=T.obj 0 _ Z b a;⟨o,e⟩
 have I4:Inv (blk X scope k (s2.heap.objs.size+1) (tn++cn) s2 E fp) [] (gQ tn.length cap d) (upd E s2.heap.objs.size (.lst [])) {s2 with heap:=O,toks:=s2.toks+([]:List (Str×Value)).length}:=
  vV B R f2 b0 c1 c2 kp hD ns
 obtain⟨hg,ht,he⟩:=a k (s2.heap.objs.size+1) s2 E fp;have c0:P 0 O:=T.keep 0 _ _ Z λb a o e=>kp b o e
 have p0:∀b∈fp,upd E s2.heap.objs.size (.lst []) b=none:=λb a=>by
  obtain⟨o,e⟩:=b0 b a;rw[aM (Nat.ne_of_lt (Heap.lt_size e))];exact(f2 b a).1
 have F:∀{f:Hp}{pl:List (Addr×Obj)},(∀b∈fp,f b=none)->∀b∈fp,nE (blk X scope k (s2.heap.objs.size+1) (tn++cn) s2 E fp) [] f b:=λhn b a=>
  ⟨hn b a,(I4.ok.Kh b a).1,I4.ok.wZ b a,.inl a,(I4.ok.Kh b a).2,λp hp=>absurd (show p∈([]:List (Addr×Obj))from hp) (by simp)⟩
 have K:codeAny (model X.prog X.w) X.A (.compLoop (.ListComp L [⟨tg,iter,M,0⟩] scope pos) 0 (.ref it) (.ref s2.heap.objs.size) (compEnvC scope k (s2.heap.objs.size+1) X.env))
   (compPost (model X.prog X.w) X.A X.xe use Q' (.ref s2.heap.objs.size) (s2.heap.objs.size+1)) {s2 with heap:=O,toks:=s2.toks+([]:List (Str×Value)).length}:=by
  refine vU (λn U=>∃i S f,Inv (blk X scope k (s2.heap.objs.size+1) (tn++cn) s2 E fp) [] (gQ tn.length cap d) f U/\P i U.heap/\(∀b∈fp,f b=none)/\W i n S f) ?_ m0 ⟨0,[],_,I4,c0,p0,w0⟩
  rintro n s5 ⟨i,S,H5,I5,e0,g0,w5⟩;obtain⟨u0,q0⟩:=a0 i n S H5 w5;rcases q0 with ⟨stop,qn⟩|⟨go,h0,step⟩
  .refine cy (T.done (blk X scope k (s2.heap.objs.size+1) (tn++cn) s2 E fp) rfl rfl rfl hc i [] s5 _ H5 _ I5 (F (pl:=[]) g0) e0 stop) λr s6 ⟨hr,V⟩=>?_
   subst hr;obtain⟨mC,nC,_⟩:=V.loc
   have I7:Inv X pins d H5 s6:=by
    refine R.call' V.os V.base V.hok V.bare λb a=>?_
    obtain⟨f0,f1,f3,f4,f5,f6⟩:=f2 b a;exact⟨f4,f1,f5,f6⟩
   have hC:s2.heap.objs.size<=s2.heap.objs.size+1:=Nat.le_succ _;refine k0 s6 H5 (s2.heap.objs.size+1) s2.heap.objs.size mC I7 nC V.free (Nat.ne_of_gt (Nat.lt_of_lt_of_le R.lt hC)) (Nat.le_trans R.sz hC) (λx c e z=>?_) (λp hp z=>?_) qn
   .obtain⟨v,q⟩:=R.cell x c e
    exact absurd (Nat.lt_of_lt_of_le q.lt (by rw[z];exact hC)) (Nat.lt_irrefl _)
   .exact absurd (Nat.lt_of_lt_of_le (Heap.lt_size (R.pin p hp).1) (by rw[z];exact hC)) (Nat.lt_irrefl _)
  .refine cy (T.item (blk X scope k (s2.heap.objs.size+1) (tn++cn) s2 E fp) rfl rfl rfl hc i [] s5 _ H5 _ I5 (F (pl:=[]) g0) e0 go) λr s6 ⟨u,hr,h6⟩=>?_
   subst hr;refine cy h6 λ_ s7 ⟨x,H7,I7,r7,y7,MD,Tg⟩=>?_
   have r0:=I7.pinned (F (pl:=[]) Tg) (T.obj _ _ MD);refine cy (hg _ s7 _ H7 x u _ r0 r7 (j0 _ _ _ _ (step x H7 y7))) λ_ s8 ⟨G,H8,I8,q8,l8,k8⟩=>?_
   refine cy (ht _ s8 G H8 _ I8 q8) λok s9 ⟨H9,I9,q9⟩=>?_
   have again:∀{sA:Shared}{HA:Hp},Inv (blk X scope k (s2.heap.objs.size+1) (tn++cn) s2 E fp) ([]++lP fp s7.heap) G HA sA->Inv (blk X scope k (s2.heap.objs.size+1) (tn++cn) s2 E fp) [] (gQ tn.length cap d) HA sA/\P (i+1) sA.heap/\∀b∈fp,HA b=none:=λ{sA HA} IA=>by
    refine⟨(IA.ju (pins:=[])).weak l8.symm λj v hj=>?_,T.keep _ _ _ MD λb a o e=>(IA.pin (b,o) (List.mem_append_right _ (List.mem_append_right _ (gs a e)))).1,λb a=>?_⟩
    .have s0:tn.length<=j:=by
      refine Nat.le_of_not_lt λi0=>?_
      have:(gQ tn.length cap d)[j]?=some none:=by
       unfold gQ;rw[List.getElem?_append_left (by simpa using i0),List.getElem?_replicate,if_pos i0]
      rw[this]at hj;cases hj
     rw[k8 j s0];exact hj
    .obtain⟨o,e,_⟩:=T.obj _ _ MD b a
     exact(IA.pin (b,o) (List.mem_append_right _ (List.mem_append_right _ (gs a e)))).2.1
   cases ok with
   |false=>
    rw[if_neg Bool.false_ne_true]at q9 ⊢;obtain⟨m',hm,w'⟩:=q9;obtain⟨a1,a2,a3⟩:=again I9;exact⟨m',hm,i+1,S,H9,a1,a2,a3,w'⟩
   |true=>
    rw[if_pos rfl]at q9 ⊢;refine cy (he _ s9 G H9 _ I9 q9) λy sB ⟨v,HB,IB,rB,Th,m',hm,w'⟩=>?_
    have hx:=n4 (X:=blk X scope k (s2.heap.objs.size+1) (tn++cn) s2 E fp) _ sB G HB (.ref s2.heap.objs.size) [v] (.ref s2.heap.objs.size) [y] (λ_ f=>f=upd HB s2.heap.objs.size (.lst (S++[v]))) IB rfl (.cons rB .nil)
     ⟨s2.heap.objs.size,S,v,rfl,rfl,Th,h0,rfl⟩
    refine cy hx λ_ sC ⟨_,HC,IC,_,eC⟩=>?_
    subst eC;obtain⟨a1,a2,a3⟩:=again IC;exact⟨m',hm,i+1,S++[v],_,a1,a2,a3,w'⟩
 exact codeAny_compStart_list K (T.self X.A 0 _ _ _ c0 K)
theorem Am{l iter f:Expr}{i:List Expr}{pos:Pos}{t:TI}{g:TG}{u:TT}{w:TE}(y:X.calm=true)(B:kB X scope tn cn cap)(z:PI X l iter t)(A:∀x,foldedSetIterable iter X.env x=pure x)
  (n:∀v k H Q,g v k H Q->g v k H λd p=>Q d p/\d.length=k.length/\∀j,tn.length<=j->d[j]?=k[j]?)
  (E:∀r C a c fp,PG (blk X scope r C (tn++cn) a c fp) l g/\Aj (blk X scope r C (tn++cn) a c fp) i u/\PE (blk X scope r C (tn++cn) a c fp) f w) :
  PE X (.ListComp f [⟨l,iter,i,0⟩] scope pos) (n_ t tn.length cap g u w):=by
 intro pins s k H Q I h;rw[eval_ListComp];refine oa (use:=none) y B z A n E (λF p C D m G J K L M N O q=>⟨m,J,λS P=>?_⟩) I h
 exact⟨.ref D,p,G.turned (it:=C) (t':=F.toks) (λb o R e=>P.extBut b o R e) K L (.inr M) N O,rfl,q⟩
theorem sO{r iter k:Expr}{l:List Expr}{pos c n:Pos}{O:TI}{g:TG}{P:TT}{R:TE}{i:Nat}{x:Str}(Y:X.N.Nodup)(u:X.N[i]?=some x)(S:X.env.scope.names.lookup x=some .local)
  (y:swapsWith (.ListComp k [⟨r,iter,l,0⟩] scope pos) (some (.Name x c)) n.line X.env=pure true) (Z:X.calm=true) (B:kB X scope tn cn cap) (hi:PI X r iter O) (hs:∀x,foldedSetIterable iter X.env x=pure x)
  (E:∀v t H Q,g v t H Q->g v t H λp F=>Q p F/\p.length=t.length/\∀j,tn.length<=j->p[j]?=t[j]?)
  (hb:∀G C d f fp,PG (blk X scope G C (tn++cn) d f fp) r g/\Aj (blk X scope G C (tn++cn) d f fp) l P/\PE (blk X scope G C (tn++cn) d f fp) k R) :
  PS X (.Assign [.Name x c] (.ListComp k [⟨r,iter,l,0⟩] scope pos) n) (DO (n_ O tn.length cap g P R) (iW i)):=by
 intro pins s t H D I h;rw[exec_Assign_Name_used _ _ _ _ y];refine wpAny_bind (wpAny_standAt (wpAny_bind ?_));refine wpAny_bind (m:=comprehension (.ListComp k [⟨r,iter,l,0⟩] scope pos) scope X.env _ (newList []) false (eval iter X.env) (some (assign (.Name x c) X.env))) ?_;refine oa (use:=some (assign (.Name x c) X.env)) (Q':=λ_ J=>wpAny (model X.prog X.w) X.A (pure ()) (λ_ K=>wpAny (model X.prog X.w) X.A (pure Flow.next) (SP X pins D) X.xe K) X.xe J) Z B hi hs E hb (λJ F C T m I' ns h1 U h3 V h5 q=>?_) I h
 show wpAny (model X.prog X.w) X.A (assign (.Name x c) X.env (.ref T)) _ _ J
 refine wpAny_assign_Name (nU I' Y u (.inl S) (v:=.ref T) rfl (λs2 I2 ch=>?_) (.inr S))
 obtain⟨a,sb,ha⟩:=ch
 have L:C≠a:=by
  rcases ha with rfl|ha
  .exact U
  .exact λz=>V _ _ ha z.symm
 refine⟨m,ns.sameBut sb L,λh' M=>wpAny_pure (wpAny_pure ?_)⟩
 exact⟨_,F,I2.turned (it:=C) (t':=s2.toks) (λb o nb e=>M.extBut b o nb e) h1 U (.inr h3) V h5,q⟩
end
theorem PI.imp{X:Cx}{b e:Expr}{t t':TI}(h:PI X b e t)(i:∀a H R,t' a H R->t a H R):PI X b e t':=λpins s a H R I q=>h pins s a H R I (i a H R q)
section
variable{Z:Addr->Prop}{H:Hp}
theorem mq:∀(n:Nat) (a:Int),(intsFrom a n).length=n
 |0,_=>rfl
 |n+1,a=>by rw[intsFrom,List.length_cons,mq n]
theorem ints_get:∀(n:Nat) (a:Int) (i:Nat) (d:D),(intsFrom a n)[i]?=some d->d=.int (a+i)
 |0,_,_,_,h=>by simp[intsFrom]at h
 |n+1,a,0,d,h=>by simp[intsFrom]at h;subst h;simp
 |n+1,a,i+1,d,h=>by
  simp only[intsFrom,List.getElem?_cons_succ]at h;rw[ints_get n (a+1) i d h]
  congr 1
  omega
noncomputable def Q4(x:Str):It:=⟨λi _=>i<x.cps.size,λi H v a=>a=H/\∃c,x.cps[i]?=some c/\v=.str ⟨#[c]⟩,λi _=>x.cps.size<=i⟩
end
theorem xY{P:Program}{w:World}{K:PySem.W.Frag}{U:Expr}(it:Addr)(x:Str)(t:Tok)(j:String)(f:j="str_ascii_iterator"\/j="str_iterator"):Turn P w K U (Q4 x) [it] it (λi h=>h.IsStrIter it j x t i) where
 mem:=by simp
 obj:=λi h a b g=>by
  obtain rfl:b=it:=by simpa using g
  obtain⟨o,e,c,d⟩:=a;exact⟨o,e,λv z=>by rw[d]at z;cases z⟩
 keep:=λi h l a k=>let ⟨o,e,r⟩:=a;⟨o,k it (by simp) o e,r⟩
 item:=by
  intro X J L M m i pins s R H E I y a N;subst J L M;obtain⟨B,C,V,D,F,G⟩:=y it (by simp)
  have W:Walks X.prog X.w X.A it [it] [it] x.cps.size (SignAt x) (λi h=>h.IsStrIter it j x t i):=by
   rcases f with rfl|rfl
   .exact Walks.strAscii (I.ok.hd m) it x t
   .exact Walks.strWide (I.ok.hd m) it x t
  refine W.item i s _ _ N a λv l S Y p Z=>?_
  obtain⟨c,u,hx,rfl⟩:=Y;have I1:Inv X pins R H {s with heap:=l,toks:=S}:=I.turned (λb o g e=>Z b o (by simpa using g) e) B C D F G
  obtain⟨o,e,q,d⟩:=id p;refine⟨_,rfl,qy (s:={s with heap:=l,toks:=S}) (n:=j) e q d (by rcases f with rfl|rfl<;>decide) ⟨.str ⟨#[c]⟩,H,I1,⟨u,rfl⟩,⟨rfl,c,hx,rfl⟩,p,λb g=>(y b g).1⟩⟩
 done:=by
  intro X J L M m i pins s R H E I y a N;subst J L M;obtain⟨B,C,V,D,F,G⟩:=y it (by simp)
  have T:x.cps.size<=i:=N;rcases f with rfl|rfl
  .exact wpAny_pyNext_ascii_end (I.ok.hd m) a (by simp[T]) λl O=>⟨rfl,I.turned (t':=s.toks) (λb o g e=>O b o g e) B C D F G⟩
  .exact wpAny_pyNext_wide_end (I.ok.hd m) a (by simp[T]) λl O=>⟨rfl,I.turned (t':=s.toks) (λb o g e=>O b o g e) B C D F G⟩
 self:=λA i s Q E a h=>by
  rcases f with rfl|rfl
  .exact wpAny_pyIter_striter_ascii a h
  .exact wpAny_pyIter_striter_wide a h
section
variable{X:Cx}{Γ:nJ}{bw:Bool}{tg e:Expr}{c cs:Ex}{pos p:Pos}
end
section
variable{X:Cx}{Γ:nJ}{bw:Bool}{tg iter elt:Expr}{ifs:List Expr}{scope:Scope}{tn cn:List Str}{cap:List Nat}{Ti cc UB:Ex}{pos:Pos}{n:Nat}
theorem kD(n:Nat)(d:0<n):∀v b H Q,iW 0 v b H Q->iW 0 v b H λa c=>Q a c/\a.length=b.length/\∀j,n<=j->a[j]?=b[j]?:=λv b H Q h=>⟨h,by simp,λj e=>by
 rw[List.getElem?_set_ne];omega⟩
end
theorem PS.imp{X:Cx}{st:Stmt}{t t':TS}(h:PS X st t)(i:∀D a H,t' D a H->t D a H):PS X st t':=λpins s a H D I q=>h pins s a H D I (i D a H q)
theorem kP.imp{X:Cx}{st:List Stmt}{t t':TS}(h:kP X st t)(i:∀D a H,t' D a H->t D a H):kP X st t':=λpins s a H D I q=>h pins s a H D I (i D a H q)
section
variable{X:Cx}{Γ:nJ}{e:Expr}{c:Ex}{st:Stmt}{rest:List Stmt}{a b:Q5}{pos pos':Pos}
end
section
variable{Z0 Z1 Z:Addr->Prop}{H0 H1 H:Hp}{ρ:Ac}{σ:L2.St}
end
section
variable{X:Cx}{Γ:nJ}{tg e:Expr}{c:Ex}{b:Q5}{tb:List Stmt}{pos pos':Pos}
def j7:List Nat->CW
 |[]=>GI
 |i::a=>CY (iW i) (j7 a)
theorem og{nms:List (Str×Pos)}(b:X.N.Nodup):∀(a:List Nat) (nms:List (Str×Pos)),a.length=nms.length->(∀(j i:Nat) (x:Str×Pos),a[j]?=some i->nms[j]?=some x->X.N[i]?=some x.1/\Loc X.env.scope x.1/\(X.fn x.1=true\/X.env.scope.names.lookup x.1=some .local)) ->
  GH X (nms.map λx=>Expr.Name x.1 x.2) (j7 a)
 |[],[],_,_=>zN
 |[],_::_,h,_=>by cases h
 |_::_,[],h,_=>by cases h
 |i::a,(x,c)::nms,d,h=>by
  obtain⟨h1,h2,e⟩:=h 0 i (x,c) rfl rfl;exact w9 (oP b h1 h2 e) (og (nms:=nms) b a nms (by simpa using d) λj i x f g=>h (j+1) i x (by simpa using f) (by simpa using g))
end
section
variable{X:Cx}{Γ:nJ}{e o:Expr}{c:Ex}{i j:Nat}{x y:Str}{p0 p1 p2 p3 p4 p5 pos:Pos}
def uy:V->List V->Hp->VK->Prop:=λx b H Q=>∃l a k y,x=.ref l/\b=[.int k,y]/\H l=some (.lst a) /\ -(2 ^ 63)<=k/\k<2 ^ 63/\a.length<sizeLine/\Q .non (upd H l (.lst (ph a k y)))
end
theorem kE{X:Cx}{pins:List (Addr×Obj)}{l:L2.St}{H:Hp}{s:Shared}{h':Heap}{t':Nat}{fp:List Addr}{a:Addr}{o:HO}(I:Inv X pins l H s)(i:∀b∈fp,nE X pins H b)
  (k:∀b o,b∉fp->s.heap.get? b=some o->h'.get? b=some o) (p:s.heap.objs.size<=a) (j:cq X.prog X.w (upd H a o) h' a o):Inv X pins l (upd H a o) {s with heap:=h',toks:=t' }:=by
 have t:=I.hok.fresh p;have f:∀b u,H b=some u->b∉fp:=λb u e z=>by rw[(i b z).1]at e;cases e
 have g:∀b u,H b=some u->upd H a o b=some u:=λb u e=>by rw[aM (bf e t)];exact e
 refine I.step (g':=s.gens) (d':=s.drawn) (ch:=fp) (λb h=>?_) (λb o _ _ d e _=>k b o d e) (λb o _ _ d e _=>⟨o.slots,k b o d e⟩) (λb u _ e n=>?_)
  (λb o d e=>⟨o,k b o d e⟩) (λb G e=>g b _ e) (λb u v e=>g b _ e) (λb J e=>⟨#[],by rw[g b _ e];simp⟩) (λm x=>?_) (λb u e=>?_) I.bare
 .obtain⟨K,y,L,A,B,C⟩:=i b h
  exact⟨A,y,B,C⟩
 .have:b≠a:=λz=>absurd (Heap.lt_size e) (by rw[z];exact Nat.not_lt.mpr p)
  rw[aM this];exact n
 .obtain⟨o,D,E,F,r⟩:=x
  exact⟨o,D,E,k _ o (λz=>(i _ z).2.1 rfl) F,r⟩
 .by_cases h:b=a
  .subst h
   rw[ba]at e;cases e
   exact j
  .rw[aM h]at e
   refine(I.hok b u e).stay (λc v d q=>k c v ?_ q) (λc q=>g c _ q) λc _ q=>g c _ q
   rcases d with z|z
   .rw[z];exact f b u e
   .exact f c _ z
def Q6(K:PySem.W.Frag)(a:Addr):It:=
 ⟨λi H=>∃b x,kQ K H a b/\b[i]?=some x,λi H x c=>∃p,x=.ref p/\H p=none/\∀b,kQ K H a b->∃v,b[i]?=some v/\c=upd H p (.tup [.int i,v]),λi H=>∃b,kQ K H a b/\b.length<=i⟩
theorem vW{P:Program}{w:World}{K:PySem.W.Frag}{r:List Expr}{x1:Nat}{t:Pos}(a e it:Addr)(y:e≠it) :
  Turn P w K (.Tuple r x1 t) (Q6 K a) [e,it] e (λi h=>(∃g,IsEnum h e it i g)/\h.IsListIter it a i) where
 mem:=by simp
 obj:=λi h l b m=>by
  obtain⟨⟨g,f⟩,o,e2,c,d⟩:=l;rcases List.mem_cons.mp m with z|z
  .subst z
   exact⟨_,f,λv z=>by
    have z':Data.fields _=Data.cell v:=z;cases z'⟩
  .have z:b=it:=by simpa using z
   subst z;exact⟨o,e2,λv z=>by rw[d]at z;cases z⟩
 keep:=λi h h' l k=>by
  obtain⟨⟨g,f⟩,j⟩:=l;exact⟨⟨g,k e (by simp) _ f⟩,j.at λo q=>k it (by simp) o q⟩
 item:=by
  intro X D F G Y i pins s σ H E I B l J;subst D F G;obtain⟨xs,x,C,L⟩:=J;obtain⟨⟨g,f⟩,j⟩:=l;obtain⟨M,N,p,hz⟩:=I.list C;obtain⟨u,hu,ru⟩:=N.get L;refine wpAny_pyNext_enum_item f j p.isList (x:=u) (by simpa using hu) y λh' so si tu sz kp=>?_
  refine⟨_,rfl,wpAny_letOwnedTupleGo_enum (s:={s with heap:=h',toks:=s.toks+1}) so λn se O=>?_⟩
  have Q:∀b o,b∉[e,it]->s.heap.get? b=some o->n.get? b=some o:=λb o m q=>by
   have Z:b≠e:=λz=>m (by simp[z])
   have h3:b≠it:=λz=>m (by simp[z])
   exact O.extBut b o Z (kp b o Z h3 q)
  have A:e<s.heap.objs.size:=Heap.lt_size f;have R:n.get? s.heap.objs.size=some {cls:=.type "tuple",data:=.seq #[.int i s.toks,u]}:=O.extBut _ _ (Nat.ne_of_gt A) tu;have S:∃g,IsEnum n e it ((i+1:Nat):Int) g:=⟨u,by rw[show((i+1:Nat):Int)=(i:Int)+1 by omega];exact se⟩
  refine⟨.ref s.heap.objs.size,upd H s.heap.objs.size (.tup [.int i,x]),?_,rfl,⟨_,rfl,I.hok.fresh (Nat.le_refl _),λys hy=>⟨x,by rw[I.qx hy C];exact L,rfl⟩⟩,⟨S,?_⟩,λb m=>?_⟩
  .have T:IsTup n s.heap.objs.size [Value.int i s.toks,u].toArray:=⟨_,R,rfl,_,rfl⟩
   have U:cq X.prog X.w (upd H s.heap.objs.size (.tup [.int i,x])) n s.heap.objs.size (.tup [.int i,x]):=⟨by rw[sizeLine_eq];simp,[.int i s.toks,u],.cons ⟨_,rfl⟩ (.cons ru .nil),T⟩
   have:=kE (s:=s) (h':=n) (t':=s.toks+1) I B Q (Nat.le_refl _) U;exact this
  .exact si.extBut O.extBut (Ne.symm y)
  .have V:b<s.heap.objs.size:=by
    rcases List.mem_cons.mp m with z|z
    .subst z;exact A
    .have z:b=it:=by simpa using z
     subst z;obtain⟨o,q,_⟩:=j;exact Heap.lt_size q
   rw[aM (Nat.ne_of_lt V)];exact(B b m).1
 done:=by
  intro X D F G Y i pins s σ H E I B l J;subst D F G;obtain⟨xs,C,L⟩:=J;obtain⟨⟨g,f⟩,j⟩:=l;obtain⟨M,N,p,hz⟩:=I.list C;obtain⟨f0,f1,f2,f3,f4,f5⟩:=B it (by simp)
  have hl:=N.length;exact wpAny_pyNext_enum_end (I.ok.hd Y) f j p.isList (by simp;omega) λh' eb=>⟨rfl,I.turned (t':=s.toks) (λb o m e=>eb b o m e) f0 f1 f3 f4 f5⟩
 self:=λ_ _ _ _ _ l h=>by
  obtain⟨⟨g,f⟩,_⟩:=l;exact wpAny_pyIter_enum f h
def ME(K:PySem.W.Frag)(c:TA):TI:=λd H R=>c d H λe b=>∃a,e=[.ref a]/\(∃f,kQ K b a f)/\R (Q6 K a) b
theorem An{X:Cx}{es:List Expr}{m:Nat}{c p pos:Pos}{a:Expr}{f:TA}(n:Gl X "enumerate")(o:X.mg "enumerate"=none)(t:PA X [a] f)(u:starEach [a] X.env=[(false,eval a X.env)]) :
  PI X (.Tuple es m c) (.Call (.Name "enumerate" p) [a] [] pos) (ME X.K f):=by
 intro pins s g H R I h;refine Call_ (lO I n o boot_enumerate (PyProof.Rows.callWith_type1 (cy (t pos pins s g H _ I h) λG s1 ⟨J,i,e,w,q1⟩=>?_) u rfl))
 obtain⟨l,rfl,⟨L,x⟩,q⟩:=q1;cases w with
 |cons r y=>
  cases y;cases r;obtain⟨A,M,B,N⟩:=e.list x;refine call_enumerate_list B.isList λj k C O D=>wpAny_pyIter_enum (s:={s1 with heap:=j}) k ?_
  have E:L2.Inv X pins g i {s1 with heap:=j}:=e.kept (t':=s1.toks) D;refine⟨s1.heap.objs.size+1,[s1.heap.objs.size+1,s1.heap.objs.size],_,_,i,rfl,E,vW l _ _ (Nat.succ_ne_self _),⟨⟨_,k⟩,C⟩,λb F=>?_,q⟩
  have d:s1.heap.objs.size<=b:=by
   rcases List.mem_cons.mp F with z|z
   .rw[z];exact Nat.le_succ _
   .have z:b=s1.heap.objs.size:=by simpa using z
    rw[z];exact Nat.le_refl _
  exact e.xa d (e.hok.fresh d)
theorem gx:∀(ds:List D) (k:Nat),(dD k ds).length=ds.length
 |[],_=>rfl
 |d::ds,k=>by rw[dD,List.length_cons,List.length_cons,gx ds]
theorem jC:∀(ds:List D) (k i:Nat) (d:D),(dD k ds)[i]?=some d->∃x,ds[i]?=some x/\d=.tup [.int (k+i:Nat),x]
 |[],_,_,_,h=>by simp[dD]at h
 |d::ds,k,0,a,h=>by simp[dD]at h;exact⟨d,rfl,h.symm⟩
 |d::ds,k,i+1,a,h=>by
  simp only[dD,List.getElem?_cons_succ]at h;obtain⟨x,h1,h2⟩:=jC ds (k+1) i a h;exact⟨x,by simpa using h1,by rw[h2,show k+1+i=k+(i+1)by omega]⟩
theorem uz:∀{ds:List D}{xs:List Str}{Z:Addr->Prop}{H:Hp}{vs:List V}{us:List Value},iX ds=some xs->bb Z H ds vs->Vals vs us->StrsAre us xs
 |[],xs,Z,H,vs,us,h,r,q=>by
  cases h;rw[r.nil_inv]at q;cases q;exact .nil
 |d::ds,xs,Z,H,vs,us,h,r,q=>by
  obtain⟨v,rs,rfl,a,b⟩:=r.cons_inv;cases d with
  |str x=>
   simp only[iX]at h;obtain⟨g,c,rfl⟩:=Option.map_eq_some_iff.mp h;simp only[Rep]at a;subst a;cases q with
   |cons e f=>
    obtain⟨t,rfl⟩:=e;exact .cons x t (uz c b f)
  |_=>cases h
def rJoin:V->List V->Hp->VK->Prop:=λx c H Q=>∃z Z b a y,x=.str z/\c=[y]/\Now Z H (.lst b) y/\iX b=some a/\z.length<=16/\(a.map (·.length)).sum+a.length<=1048576/\Q (.str (Txt.join z a)) H
theorem Ao{X:Cx}:Gg X "str.join" rJoin:=by
 intro pins s r H x w v A Q I b c h;obtain⟨z,Z,B,C,y,rfl,rfl,n,d,e,f,q⟩:=h;obtain⟨t,rfl⟩:=b;obtain⟨l,D,rfl,g,i⟩:=dR n;obtain⟨u,rfl,j⟩:=c.one;cases j;obtain⟨m,a,o,E⟩:=I.list (lV (K:=X.K) g);exact join_listW o.isList (by simpa using uz d i a) e f λp k=>⟨.str _,H,I.tok _,⟨p,rfl⟩,q⟩
theorem vX{X:Cx}:G7 X "list.insert" uy:=by
 intro pins s B H x C v D Q I f g h;obtain⟨l,i,k,y,rfl,rfl,d,j,m,E,q⟩:=h;cases f;obtain⟨u,b,rfl,o,c⟩:=g.two;obtain⟨t,rfl⟩:=o;obtain⟨z,a,n,r,p,e⟩:=I.vK d;refine call_meets F.slot_list_insert ⟨_,e,rfl⟩ F.entry_list_insert (F.args_list_insert_3 _ _ _) (AutoListH.list_insert_list_int_val_1 l a.toArray n k t b (by rw[fitsIndex_both j m];simp) (by rw[List.size_toArray];omega)) ⟨e,?_⟩
 refine⟨.non,_,I.xu (its':=ph a k b) d e ?_ ?_ ?_,rfl,q⟩
 .have w:(if k<0 then (k+(a.toArray.size:Int)).toNat else min k.toNat a.toArray.size)=HT.iS a.length 0 (some k):=by rw[List.size_toArray];rfl
  show(a.toArray.extract 0 (if k<0 then (k+(a.toArray.size:Int)).toNat else min k.toNat a.toArray.size)).push b++a.toArray.extract (if k<0 then (k+(a.toArray.size:Int)).toNat else min k.toNat a.toArray.size)=_
  rw[w];unfold ph;apply Array.ext';simp;exact List.take_of_length_le (by simp)
 .have A:HT.iS i.length 0 (some k)=HT.iS a.length 0 (some k):=by rw[p]
  unfold ph;rw[A];exact(r.take _).append (.cons c (r.drop _))
 .unfold ph
  simp only[List.length_append,List.length_cons,List.length_take,List.length_drop];omega
section
variable{X:Cx}{Γ:nJ}{bw:Bool}{a b:Expr}{rest:List Expr}{ca cb:Ex}{pos:Pos}
theorem Ap{i tb:TE}(j:PE X a i)(k:PE X (.BoolOp .And (b::rest) pos) tb):PE X (.BoolOp .And (a::b::rest) pos) (λe H Q=>i e H λx f=>∃c,qz X.K x f c/\if c=true then tb e f Q else Q x f):=by
 intro pins s e H Q I h;refine BoolOp_and (cy (j pins s e H _ I h) λv l ⟨x,f,I1,r1,c,t1,q1⟩=>?_)
 refine cy (oU pins l e f x v (λd g=>d=c/\g=f) I1 r1 ⟨c,t1,rfl,rfl⟩) λd m ⟨g,I2,e1,e2⟩=>?_
 subst e1 e2;cases d with
 |true=>exact k pins m e g Q I2 q1
 |false=>exact⟨x,g,I2,r1,q1⟩
theorem Em{i tb:TE}(j:PE X a i)(k:PE X (.BoolOp .Or (b::rest) pos) tb):PE X (.BoolOp .Or (a::b::rest) pos) (λe H Q=>i e H λx f=>∃c,qz X.K x f c/\if c=true then Q x f else tb e f Q):=by
 intro pins s e H Q I h;refine BoolOp_or (cy (j pins s e H _ I h) λv l ⟨x,f,I1,r1,c,t1,q1⟩=>?_)
 refine cy (oU pins l e f x v (λd g=>d=c/\g=f) I1 r1 ⟨c,t1,rfl,rfl⟩) λd m ⟨g,I2,e1,e2⟩=>?_
 subst e1 e2;cases d with
 |false=>exact k pins m e g Q I2 q1
 |true=>exact⟨x,g,I2,r1,q1⟩
theorem Aq{g:TE}(i:PE X a g):PE X (.UnaryOp .Not a pos) (λe H Q=>g e H λx b=>∃c,qz X.K x b c/\Q (.bl (!c)) b):=by
 intro pins s e H Q I h;refine UnaryOp_ (cy (i pins s e H _ I h) λv j ⟨x,b,I1,r1,c,t1,q1⟩=>?_)
 refine not_of (cy (oU pins j e b x v (λd f=>d=c/\f=b) I1 r1 ⟨c,t1,rfl,rfl⟩) λd k ⟨f,I2,e1,e2⟩=>?_)
 subst e1 e2;exact⟨.bl (!d),f,I2,rfl,q1⟩
theorem eJ.nw{a:Bool}{Z:Addr->Prop}{b H:Hp}{d:D}{v:V}(h:eJ bw a Z b H d v):Now Z H d v:=by
 cases bw with
 |true=>exact h.now
 |false=>exact(h.weak (bw:=true)).now
end
noncomputable def Hi(a:Scope)(x:Str):Bool:=match a.names.lookup x with
 |some .local|some .cell|some .free=>true
 |_=>false
noncomputable def xZ(a:Scope)(x:Str):Bool:=match a.names.lookup x with
 |some .local|some .cell=>true
 |_=>false
noncomputable def Ar(a:Scope)(x:Str):Bool:=a.names.lookup x==some .globalImplicit
noncomputable def okN(x:Str):Bool := !(x==("__debug__":Str))&&!(x==("__classdict__":Str))&&!(x==("__name__":Str))
noncomputable def As(N:List Str)(x:Str):Option Nat:=N.findIdx? (· == x)
def oh(a:Scope)(N:List Str)(x:Str):Option Nat:=if Hi a x&&okN x then As N x else none
def x4(x:Str):Option Ty:=[Ty.int,.str,.bool,.list,.tuple,.dict].find? (λt=>t.nm==x)
noncomputable def isStar:Expr->Bool
 |.Starred _ _=>true
 |_=>false
noncomputable def isSlice:Expr->Bool
 |.Slice _ _ _ _=>true
 |_=>false
noncomputable def isSet:Expr->Bool
 |.Set _ _ _=>true
 |_=>false
noncomputable def sP(scope a:Scope):Scope:={scope with names:=scope.names.map λ(n,k)=>if (k==.free&&a.kind==.function&&a.names.lookup n==some .cell)then (n,.cell)else (n,k)}
noncomputable def ef(scope:Scope):List Str:=(scope.names.filter λy=>y.2==.free).map (·.1)
def sQ(a:Scope)(N:List Str):List Str->Option (List Nat)
 |[]=>some []
 |x::xs=>do let i ←oh a N x;let b ←sQ a N xs;some (i::b)
def x5(scope:Scope)(sc:Scope)(x:Str):Bool:=
 scope.kind==.function&&scope.names.all (λy=>!(y.2==.cell))&&scope.names.all (λy=>!(y.2==.local)||scope.names.lookup y.1==some .local) &&
 scope.names.all (λy=>!(y.2==.free)||(sc.names.lookup y.1==some .cell||sc.names.lookup y.1==some .free)&&scope.names.lookup y.1==some .free) &&
 scope.names.lookup x==some .local&&decide ((x::ef scope).Nodup)
noncomputable def mr:List Comprehension->Option (Str×Pos×Expr×List Expr)
 |[⟨.Name x p,iter,ifs,0⟩]=>some (x,p,iter,ifs)
 |_=>none
theorem oi{b:List Comprehension}{x:Str}{p:Pos}{iter:Expr}{a:List Expr}(h:mr b=some (x,p,iter,a)):b=[⟨.Name x p,iter,a,0⟩]:=by
 unfold mr at h;split at h
 .cases h;rfl
 .cases h
theorem x6{N:List Str}{x:Str}{i:Nat}(h:As N x=some i):N[i]?=some x:=by
 unfold As at h;obtain⟨a,b,_⟩:=List.findIdx?_eq_some_iff_getElem.mp h;rw[List.getElem?_eq_getElem a,eq_of_beq b]
theorem uA{c:Scope}{N:List Str}{x:Str}{i:Nat}(h:oh c N x=some i):N[i]?=some x/\Gb c x/\(x==("__debug__":Str))=false/\(x==("__classdict__":Str))=false:=by
 unfold oh at h;split at h
 .rename_i a
  simp only[Bool.and_eq_true,okN,Bool.not_eq_true']at a;refine⟨x6 h,?_,a.2.1.1,a.2.1.2⟩;have b:=a.1;unfold Hi at b;unfold Gb;split at b
  .rename_i q;exact .inl q
  .rename_i q;exact .inr (.inl q)
  .rename_i q;exact .inr (.inr q)
  .cases b
 .cases h
theorem uB{x:Str}(h:okN x=true):(x==("__debug__":Str))=false/\(x==("__classdict__":Str))=false/\x≠"__name__":=by
 simp only[okN,Bool.and_eq_true,Bool.not_eq_true']at h;refine⟨h.1.1,h.1.2,λe=>?_⟩
 rw[e]at h;simp at h
noncomputable def eK:List Str:=["len","all","any","list","tuple","int","min","max","bool","isinstance","str","dict","range","sorted","enumerate","reversed","set"]
theorem b_{e:Expr}{es:List Expr}{env:Env}(h:isStar e=false):starEach (e::es) env=(false,eval e env)::starEach es env:=by
 cases e<;>first|rfl | (cases h)
theorem cf{env:Env}{pos:Pos}:∀{es:List Expr},(∀e∈es,isStar e=false)->(backTo pos (starEach es env)).any (·.1)=false
 |[],_=>rfl
 |e::es,h=>by
  rw[b_ (h e (by simp))]
  show(false||(backTo pos (starEach es env)).any (·.1))=false
  rw[cf λz hz=>h z (by simp[hz])]
  rfl
section
variable{X:Cx}{Γ:nJ}{T:Tab}{k:Nat}{sc:Scope}{N:List Str}
theorem Hj{x:Str}{t:Ty}(h:x4 x=some t):x=t.nm/\t.nm∈eK:=by
 unfold x4 at h;have a:=List.find?_some h;exact⟨(eq_of_beq a).symm,by cases t<;>decide⟩
end
section
variable{X:Cx}{Γ:nJ}{T:Tab}{k:Nat}{sc:Scope}{N:List Str}
theorem x9{d:Scope}{N:List Str}:∀{xs:List Str}{a:List Nat},sQ d N xs=some a->xs.length=a.length/\∀(j i:Nat) (x:Str),xs[j]?=some x->a[j]?=some i->N[i]?=some x
 |[],a,h=>by cases h;exact⟨rfl,λj i x e=>by simp at e⟩
 |x::xs,a,h=>by
  simp only[sQ,Option.bind_eq_bind]at h;obtain⟨i,h1,h⟩:=Option.bind_eq_some_iff.mp h;obtain⟨f,g,h⟩:=Option.bind_eq_some_iff.mp h;cases h;obtain⟨k,l⟩:=x9 g;refine⟨by rw[List.length_cons,List.length_cons,k],λj m y b c=>?_⟩
  cases j with
  |zero=>simp at b c;subst b c;exact(uA h1).1
  |succ j=>exact l j m y (by simpa using b) (by simpa using c)
theorem mu{iter:Expr}{env:Env}(h:isSet iter=false):∀x,foldedSetIterable iter env x=pure x:=by
 intro x;cases iter<;>first|rfl | (simp[isSet]at h)
theorem qS{op:CmpOp}{b:Expr}(h:isSet b=false):behindInMarks op b=false:=by
 cases b<;>first|rfl | (simp[isSet]at h)
end
def qT(a:Scope)(N:List Str)(x:Str):Option Nat:=if xZ a x&&okN x then As N x else none
noncomputable def je:Expr->Bool
 |.ListComp .. |.SetComp .. |.DictComp ..=>true
 |_=>false
noncomputable def qU(a:Scope)(x:Str)(b:Pos)(e:Expr):Bool:=match e with
 |.ListComp _ _ s _=>a.names.lookup x==some .local&&b.line==e.pos.line&&!(s.names.any λ(n,k)=>n==x&&(k==.local||k==.cell))
 |_=>false
noncomputable def fq:List Expr->Option (List (Str×Pos))
 |[]=>some []
 |.Name x p::r=>(fq r).map ((x,p):: ·)
 |_=>none
def mw(a:Scope)(N:List Str):List (Str×Pos)->Option (List Nat)
 |[]=>some []
 |x::xs=>do let i ←qT a N x.1;let b ←mw a N xs;some (i::b)
noncomputable def x_:Expr->Bool
 |.Call .. |.Name .. |.Subscript ..=>true
 |_=>false
section
variable{X:Cx}{Γ:nJ}{T:Tab}{k:Nat}{sc:Scope}{N:List Str}
theorem kF:∀{es:List Expr}{nms:List (Str×Pos)},fq es=some nms->es=nms.map λx=>Expr.Name x.1 x.2
 |[],_,h=>by cases h;rfl
 |e::es,nms,h=>by
  unfold fq at h;split at h
  .rename_i e;cases e
  .rename_i x p r q
   cases q;obtain⟨ns,h1,h⟩:=Option.map_eq_some_iff.mp h;subst h;rw[kF h1];rfl
  .cases h
theorem oj(env:Env):∀(nms:List (Str×Pos)),(assignEach (nms.map λx=>Expr.Name x.1 x.2) env).length=nms.length/\(assignEach (nms.map λx=>Expr.Name x.1 x.2) env).findIdx? (·.1)=none
 |[]=>⟨rfl,rfl⟩
 |x::r=>by
  obtain⟨h1,h2⟩:=oj env r;refine⟨?_,?_⟩
  .show(assignEach (r.map λx=>Expr.Name x.1 x.2) env).length+1=_
   rw[h1];rfl
  .show List.findIdx? (·.1) ((false,_)::assignEach (r.map λx=>Expr.Name x.1 x.2) env)=none
   rw[List.findIdx?_cons,h2];rfl
end
def bz(N ps:List Str)(a:Scope):Bool:=
 a.kind==.function&&!a.isCoroutine&&!a.isGenerator&&decide N.Nodup&&decide (N.take ps.length=ps)&&ps.all (xZ a)&&a.names.all λy=>!(y.2==.free)
theorem Au{N ps:List Str}{b:Scope}(h:bz N ps b=true):oZ N ps b:=by
 simp only[bz,Bool.and_eq_true,Bool.not_eq_true',decide_eq_true_eq,List.all_eq_true,beq_iff_eq]at h;obtain⟨⟨⟨⟨⟨⟨c,d⟩,f⟩,g⟩,i⟩,j⟩,k⟩:=h;refine⟨c,d,f,g,i,λx l=>?_,λy m e=>?_⟩
 .have a:=j x l
  unfold xZ at a;split at a
  .rename_i q;exact .inl q
  .rename_i q;exact .inr q
  .cases a
 .have:=k y m
  rw[e]at this;exact absurd this (by decide)
section
variable{P:Program}{w:World}{K:PySem.W.Frag}{mg:Str->Option Value}{base:Heap}{Γ:nJ}{T:Tab}{k:Nat}
end
noncomputable def Av:Value->Bool
 |.type x=>x=="list"
 |_=>false
def qV(K:PySem.W.Frag):Bool:=K.all λp=>!Av p.2.cls
theorem qW:∀{K:PySem.W.Frag}{a:Addr}{o:Obj},K.lookup a=some o->(a,o)∈K
 |[],_,_,h=>by cases h
 | (b,p)::K,a,o,h=>by
  rw[List.lookup_cons]at h;split at h
  .rename_i e
   cases h;rw[eq_of_beq e];simp
  .exact List.mem_cons_of_mem _ (qW h)
theorem Hk{K:PySem.W.Frag}(b:qV K=true){H:Hp}{a:Addr}{xs:List V}(h:kQ K H a xs):Rd H a (.lst xs):=by
 rcases h with h|⟨o,c,n,d,e,_⟩
 .exact h
 .have f:=qW d
  have:=List.all_eq_true.mp b _ f;rw[e]at this;exact absurd this (by decide)
noncomputable def ya(K:PySem.W.Frag)(x:Str):Bool:=match PySem.W.nsIn K mainGlobals x with
 |some none=>true
 |_=>false
def uC(K:PySem.W.Frag):Bool:=eK.all (ya K)
theorem yb{K:PySem.W.Frag}{h:Heap}{mg:Str->Option Value}(X:K.In h)(G:h.Ns mainGlobals mg)(a:uC K=true):∀x∈eK,mg x=none:=λx b=>by
 have:=List.all_eq_true.mp a x b;unfold ya at this;split at this
 .rename_i q;exact PySem.W.mg_none_of X G q
 .cases this
section
variable{prog:Program}{w:World}{A:Around}{E:Value->Shared->Prop}{s:Shared}
end
end Mir
namespace L2
open PySem PySem.Spec PyProof.Rows PySem.W
def Hl(X:Cx)(f:Addr)(vs:List V)(a:St)(H:Hp)(Q:VK):Prop:=∀(pins:List (Addr×Obj)) (s:Shared) (b:List Value),Inv X pins a H s->Vals vs b->wpAny (model X.prog X.w) X.A (call (.ref f) b) (EP X pins a Q) X.xe s
noncomputable def Cx.fz(X:Cx)(xs:List Str):Cx:={X with fn:=λy=>X.fn y&&!(xs.contains y)}
section
variable{X:Cx}{pins:List (Addr×Obj)}{σ:St}{H:Hp}{s:Shared}
end
end L2
namespace L2
open PySem PySem.Spec PyProof.Rows
theorem KT.length{H:Hp}{l:List (List Key×V)}{m:List (List Key×Addr×Value)}(q:KT H l m):m.length=l.length:=by
 induction q with
 |nil=>rfl
 |cons _ _ a=>rw[List.length_cons,List.length_cons,a]
end L2
namespace HT
open PySem PyProof.Rows
section
variable{prog:Program}{w:World}{A:Around}{E:Value->Shared->Prop}{s:Shared}
end
end HT
namespace L2
open PySem PySem.Spec PyProof.Rows
section
variable{X:Cx}
end
end L2
namespace Mir
open PySem PySem.Spec PyProof.Rows L2
theorem eB{a b:Str}:cu a b=true↔a.cps.toList<=b.cps.toList:=by
 unfold cu;rw[Bool.not_eq_true',decide_eq_false_iff_not];exact List.not_lt
theorem fE(a b c:Str)(d:cu a b=true)(e:cu b c=true):cu a c=true:=eB.mpr (List.le_trans (eB.mp d) (eB.mp e))
theorem ig(a b:Str):(cu a b||cu b a)=true:=by
 rw[Bool.or_eq_true,eB,eB];exact List.le_total _ _
theorem mx{a b:Str}(c:cu a b=true)(d:cu b a=true):a=b:=by
 have e:=List.le_antisymm (eB.mp c) (eB.mp d);cases a;cases b
 simp only[Str.mk.injEq];exact Array.toList_inj.mp e
theorem om:∀{d:List Str}{p:Str},risingS p d=true->(p::d).Pairwise λa b=>cu a b=true
 |[],p,_=>by simp
 |x::r,p,h=>by
  simp only[risingS,Bool.and_eq_true,Bool.not_eq_true',ltCps_eq]at h;have c:cu p x=true:=by unfold cu;rw[h.1];rfl
  have e:=om h.2;refine List.pairwise_cons.mpr ⟨λy hy=>?_,e⟩
  rcases List.mem_cons.mp hy with rfl|hy
  .exact c
  .exact fE _ _ _ c ((List.pairwise_cons.mp e).1 y hy)
theorem yc{d c:List Str}(e:c.Perm d)(f:sortedS c=true):c=d.mergeSort cu:=by
 refine List.Perm.eq_of_pairwise (le:=λa b=>cu a b=true) (λa b _ _ g h=>mx g h) ?_ (List.pairwise_mergeSort fE ig d) (e.trans (List.mergeSort_perm d cu).symm)
 cases c with
 |nil=>exact List.Pairwise.nil
 |cons x r=>exact om f
theorem yd{ns d:List Int}(g:d.Perm ns)(i:d.Pairwise (· <= ·)):d=ns.mergeSort λa b=>decide (a<=b):=by
 refine List.Perm.eq_of_pairwise (le:=λa b=>decide (a<=b)=true) (λa b _ _ e f=>?_) (i.imp λh=>by simpa using h) (List.pairwise_mergeSort (λa b c e f=>?_) (λa b=>?_) ns) (g.trans (List.mergeSort_perm ns _).symm)
 .simp at e f;omega
 .simp at e f ⊢;omega
 .simp;omega
theorem my:∀{a:List Str}{us:List Value},Vals (a.map V.str) us->StrsAre us a
 |[],_,r=>by cases r;exact .nil
 |x::a,_,r=>by
  cases r with
  |cons h t=>
   obtain⟨tk,rfl⟩:=h;exact .cons _ _ (my t)
theorem oq:∀{us:List Value}{a:List Str},StrsAre us a->Vals (a.map V.str) us
 |_,_,.nil=>.nil
 |_,_,.cons x t h=>.cons ⟨t,rfl⟩ (oq h)
theorem vY{X:Cx}:fj X (.builtin "sorted") (λxs H Q=>∃a,xs=[.ref a]/\((∃f:List Str,kQ X.K H a (f.map V.str)/\f.length<64/\∀l,H l=none->Q (.ref l) (upd H l (.lst ((f.mergeSort cu).map V.str)))) \/
  ∃ns:List Int,kQ X.K H a (ns.map V.int)/\ns.length<64/\∀l,H l=none->Q (.ref l) (upd H l (.lst ((ns.mergeSort λa b=>decide (a<=b)).map V.int))))):=by
 intro pins s E H xs F Q I r h;obtain⟨a,rfl,h⟩:=h;obtain⟨u,rfl,z⟩:=vals1 r;cases z;have fresh:H (s.heap.objs.size+1)=none:=I.hok.fresh (Nat.le_succ _);rcases h with ⟨f,i,j,q⟩|⟨ns,i,j,q⟩
 .obtain⟨c,g,k,A⟩:=I.list i
  have m:=g.length;rw[List.length_map]at m;refine sorted_strs (vs:=c) k.isList (my g) (by omega) λd B n p t=>?_
  obtain⟨e,w⟩:=sortedAll_at s.heap c d;have x:=yc p t;subst x;refine⟨.ref (s.heap.objs.size+1),_,I.laid (t':=s.toks) (o:=.lst ((f.mergeSort cu).map V.str)) (λb C y=>sortedAll_old y) (Nat.le_succ _) ?_,rfl,q _ fresh⟩
  exact⟨by rw[List.length_map,List.length_mergeSort,sizeLine_eq];omega,d.toList,e,oq n,w⟩
 .obtain⟨c,g,k,A⟩:=I.list i
  have m:=g.length;rw[List.length_map]at m;refine sorted_ints (vs:=c) k.isList (intsAre_of g) (by omega) λd D n p t=>?_
  obtain⟨e,w⟩:=sortedAll_at s.heap c d;have x:=yd p t;subst x;refine⟨.ref (s.heap.objs.size+1),_,I.laid (t':=s.toks) (o:=.lst ((ns.mergeSort λa b=>decide (a<=b)).map V.int)) (λb C y=>sortedAll_old y) (Nat.le_succ _) ?_,rfl,q _ fresh⟩
  exact⟨by rw[List.length_map,List.length_mergeSort,sizeLine_eq];omega,d.toList,e,j4 n,w⟩
end Mir
namespace Mir
open PySem L2
structure MF where
 name:Str
 qual:Str
 params:Arguments
 body:List Stmt
 scope:Scope
 ps:List Str
 cn:List Str
class aE where
 tab:Nat->MF
 ta:Nat->Addr
inductive Cell where
 |lst (ds:List D)
 |dK (kvs:List (Key×D))
 |dT (kvs:List (List Key×D))
 |dF (kvs:List (Key×D))
 |ins (C:Str) (fs:List (Str×D))
 |fn (j:Nat) (sR:List D)
 |tb (j:Nat) (p:Pos) (b:Bool)
abbrev aD:=List Cell
inductive ax (α:Type) where
 |ok (a:α) (Ω:aD)
 |exc (x:D) (Ω:aD)
 |bad
noncomputable def ax.bind{b c:Type}:ax b->(b->aD->ax c)->ax c
 |.ok a Ω,f=>f a Ω
 |.exc x Ω,_=>.exc x Ω
 |.bad,_=>.bad
abbrev aR:=List (Option D)
inductive aJ {α β:Type} (R:α->β->Prop):List α->List β->Prop where
 |nil:aJ R [] []
 |cons {a b as bs}:R a b->aJ R as bs->aJ R (a::as) (b::bs)
namespace aJ
variable{α β:Type}{R S:α->β->Prop}
theorem length:∀{a:List α}{bs:List β},aJ R a bs->bs.length=a.length
 |_,_,.nil=>rfl
 |_,_,.cons _ t=>by rw[List.length_cons,List.length_cons,length t]
theorem imp(h:∀a b,R a b->S a b):∀{c:List α}{bs:List β},aJ R c bs->aJ S c bs
 |_,_,.nil=>.nil
 |_,_,.cons r t=>.cons (h _ _ r) (imp h t)
theorem get:∀{c:List α}{bs:List β}{i:Nat}{a:α},aJ R c bs->c[i]?=some a->∃b,bs[i]?=some b/\R a b
 |_,_,_,_,.nil,e=>by simp at e
 |_,_,0,_,.cons r _,e=>by simp at e;subst e;exact⟨_,rfl,r⟩
 |_,_,i+1,a,.cons _ t,e=>by
  obtain⟨u,h1,h2⟩:=get (i:=i) (a:=a) t (by simpa using e)
  exact⟨u,by simpa using h1,h2⟩
theorem En:∀{c:List α}{bs:List β}{i:Nat}{b:β},aJ R c bs->bs[i]?=some b->∃a,c[i]?=some a/\R a b
 |_,_,_,_,.nil,e=>by simp at e
 |_,_,0,_,.cons r _,e=>by simp at e;subst e;exact⟨_,rfl,r⟩
 |_,_,i+1,a,.cons _ t,e=>by
  obtain⟨u,h1,h2⟩:=En (i:=i) (b:=a) t (by simpa using e)
  exact⟨u,by simpa using h1,h2⟩
theorem append:∀{a b:List α}{bs ds:List β},aJ R a bs->aJ R b ds->aJ R (a++b) (bs++ds)
 |_,_,_,_,.nil,h=>h
 |_,_,_,_,.cons r t,h=>.cons r (append t h)
theorem one{a:α}{b:β}(h:R a b):aJ R [a] [b]:=.cons h .nil
theorem take:∀{a:List α}{bs:List β} (n:Nat),aJ R a bs->aJ R (a.take n) (bs.take n)
 |_,_,0,_=>by simp;exact .nil
 |_,_,n+1,.nil=>by simp;exact .nil
 |_,_,n+1,.cons r t=>.cons r (take n t)
theorem drop:∀{a:List α}{bs:List β} (n:Nat),aJ R a bs->aJ R (a.drop n) (bs.drop n)
 |_,_,0,h=>h
 |_,_,n+1,.nil=>by simp;exact .nil
 |_,_,n+1,.cons r t=>drop n t
theorem reverse:∀{a:List α}{bs:List β},aJ R a bs->aJ R a.reverse bs.reverse
 |_,_,.nil=>.nil
 |_,_,.cons r t=>by rw[List.reverse_cons,List.reverse_cons];exact(reverse t).append (one r)
theorem set{a:α}{b:β}(r:R a b):∀{c:List α}{bs:List β} (n:Nat),aJ R c bs->aJ R (c.set n a) (bs.set n b)
 |_,_,_,.nil=>.nil
 |_,_,0,.cons _ t=>.cons r t
 |_,_,n+1,.cons q t=>.cons q (set r n t)
theorem nil_inv{bs:List β}(h:aJ R [] bs):bs=[]:=by cases h;rfl
theorem cons_inv{a:α}{c:List α}{bs:List β}(h:aJ R (a::c) bs):∃b r,bs=b::r/\R a b/\aJ R c r:=by
 cases h with
 |cons r t=>exact⟨_,_,rfl,r,t⟩
end aJ
mutual
noncomputable def aq(c:List Addr)(Z:Addr->Prop)(H:Hp):D->V->Prop
 |.non,v=>v=.non
 |.bl b,v=>v=.bl b
 |.int i,v=>v=.int i
 |.str x,v=>v=.str x
 |.lst ds,v=>∃a vs,v=.ref a/\Z a/\Rd H a (.lst vs)/\eL c Z H ds vs
 |.tup ds,v=>∃a vs,v=.ref a/\Z a/\H a=some (.tup vs)/\eL c Z H ds vs
 |.dct _ _,_=>False
 |.ref n,v=>∃a,c[n]?=some a/\v=.ref a
noncomputable def eL(a:List Addr)(Z:Addr->Prop)(H:Hp):List D->List V->Prop
 |[],vs=>vs=[]
 |d::ds,vs=>∃v r,vs=v::r/\aq a Z H d v/\eL a Z H ds r
end
theorem cz{a:List Addr}{Z:Addr->Prop}{H:Hp}:∀{ds:List D}{vs:List V},eL a Z H ds vs↔aJ (aq a Z H) ds vs
 |[],vs=>by
  simp only[eL];exact⟨λh=>by subst h;exact .nil,λh=>h.nil_inv⟩
 |d::ds,vs=>by
  simp only[eL];constructor
  .rintro⟨v,r,rfl,h1,h2⟩
   exact .cons h1 (cz.mp h2)
  .intro h
   obtain⟨v,r,rfl,h1,h2⟩:=h.cons_inv;exact⟨v,r,rfl,h1,cz.mpr h2⟩
section
variable{α α':List Addr}{Z Z':Addr->Prop}{H H':Hp}
mutual
theorem aq.mono(p:∀(n:Nat) (a:Addr),α[n]?=some a->α'[n]?=some a)(k:∀a o,Z a->H a=some o->H' a=some o)(z:∀a,Z a->Z' a):∀{d:D}{v:V},aq α Z H d v->aq α' Z' H' d v
 |.non,_,h=>by simpa only [aq]using h
 |.bl _,_,h=>by simpa only [aq]using h
 |.int _,_,h=>by simpa only [aq]using h
 |.str _,_,h=>by simpa only [aq]using h
 |.lst ds,v,h=>by
  simp only[aq]at h ⊢;obtain⟨a,vs,e,b,c,hs⟩:=h;exact⟨a,vs,e,z a b,pj (λo=>k a o b) c,eL.mono p k z hs⟩
 |.tup ds,v,h=>by
  simp only[aq]at h ⊢;obtain⟨a,vs,e,b,c,hs⟩:=h;exact⟨a,vs,e,z a b,k a _ b c,eL.mono p k z hs⟩
 |.dct f ds,v,h=>by simp only[aq]at h
 |.ref n,v,h=>by
  simp only[aq]at h ⊢;obtain⟨a,e,h⟩:=h;exact⟨a,p n a e,h⟩
theorem eL.mono(p:∀(n:Nat) (a:Addr),α[n]?=some a->α'[n]?=some a)(k:∀a o,Z a->H a=some o->H' a=some o)(z:∀a,Z a->Z' a):∀{ds:List D}{vs:List V},eL α Z H ds vs->eL α' Z' H' ds vs
 |[],_,h=>by simpa only [eL]using h
 |d::ds,vs,h=>by
  simp only[eL]at h ⊢;obtain⟨v,r,e,h1,h2⟩:=h;exact⟨v,r,e,aq.mono p k z h1,eL.mono p k z h2⟩
end
end
def gR{K:Type}(R:D->V->Prop)(kvs:List (K×D))(a:List (K×V)):Prop:=aJ (λp q=>p.1=q.1/\R p.2 q.2) kvs a
variable [aE]
def ij(κ:Str->Addr->Prop)(R:D->V->Prop)(H:Hp)(a:Addr):Cell->Prop
 |.lst ds=>∃vs,H a=some (.lst vs)/\aJ R ds vs
 |.dK kvs=>∃b,H a=some (.dK b)/\gR R kvs b
 |.dT kvs=>False
 |.dF kvs=>∃o b,H a=some (.dW o (.dK b))/\gR R kvs b
 |.ins C fs=>∃d e c,κ C d/\H a=some (.ins d e c)/\gR R fs c
 |_=>False
theorem gR.imp{K:Type}{R S:D->V->Prop}(h:∀d v,R d v->S d v){kvs:List (K×D)}{c:List (K×V)}(k:gR R kvs c):gR S kvs c:=aJ.imp (λa b q=>⟨q.1,h _ _ q.2⟩) k
theorem ij.imp{κ:Str->Addr->Prop}{R S:D->V->Prop}{H m:Hp}{a:Addr}{c:Cell}(h:∀d v,R d v->S d v)(e:∀o,H a=some o->m a=some o)(z:∀b o u,H b=some (.dW o u)->m b=some (.dW o u))(k:ij κ R H a c):ij κ S m a c:=by
 cases c with
 |lst s=>obtain⟨f,g,i⟩:=k;exact⟨f,e _ g,i.imp h⟩
 |dK l=>obtain⟨f,g,i⟩:=k;exact⟨f,e _ g,i.imp h⟩
 |dT l=>exact k.elim
 |dF l=>obtain⟨o,f,g,i⟩:=k;exact⟨o,f,e _ g,i.imp h⟩
 |ins C t=>obtain⟨n,q,f,r,g,i⟩:=k;exact⟨n,q,f,r,e _ g,i.imp h⟩
 |fn j sR=>exact k.elim
 |tb j p b=>exact k.elim
theorem ij.some{κ:Str->Addr->Prop}{R:D->V->Prop}{H:Hp}{a:Addr}{c:Cell}(k:ij κ R H a c):H a≠none:=by
 cases c with
 |lst h=>obtain⟨f,d,g⟩:=k;rw[d];simp
 |dK e=>obtain⟨f,d,g⟩:=k;rw[d];simp
 |dT e=>exact k.elim
 |dF e=>obtain⟨o,f,d,g⟩:=k;rw[d];simp
 |ins C i=>obtain⟨l,m,f,n,d,g⟩:=k;rw[d];simp
 |fn j sR=>exact k.elim
 |tb j p b=>exact k.elim
structure bH(κ:Str->Addr->Prop)(α:List Addr)(Z:Addr->Prop)(Ω:aD)(H:Hp):Prop where
 sS:α.Nodup
 ye:aJ (λc a=>ij κ (aq α Z H) H a c) Ω α
 sep:∀a∈α,¬ Z a
 dom:∀a,Z a->H a≠none
structure cU(α:List Addr)(Z:Addr->Prop)(H:Hp)(α':List Addr)(Z':Addr->Prop)(H':Hp):Prop where
 pre:∀(n:Nat) (a:Addr),α[n]?=some a->α'[n]?=some a
 sub:∀a,Z a->Z' a
 new:∀a,Z' a->Z a\/H a=none
 Dh:∀a∈α',a∈α\/H a=none
 frm:∀a o,H a=some o->a∉α->H' a=some o
 has:∀a∈α,H' a≠none
 dW:∀a o u,H a=some (.dW o u)->H' a=some (.dW o u)
section
variable{κ:Str->Addr->Prop}{α α' Hm:List Addr}{Z Z' Q7:Addr->Prop}{Ω ai:aD}{H H' Q8:Hp}
theorem cU.refl(h:∀a∈α,H a≠none):cU α Z H α Z H:=⟨λ_ _ e=>e,λ_ h=>h,λ_ h=>.inl h,λ_ h=>.inl h,λ_ _ e _=>e,h,λ_ _ _ e=>e⟩
theorem bH.has(S:bH κ α Z Ω H):∀a∈α,H a≠none:=λa b=>by
 obtain⟨n,d⟩:=List.mem_iff_getElem?.mp b;obtain⟨c,_,h⟩:=S.ye.En d;exact h.some
theorem cU.none(g:cU α Z H α' Z' H'){a:Addr}(h:H' a=none):H a=none:=by
 cases q:H a with
 |none=>rfl
 |some o=>
  by_cases b:a∈α
  .exact absurd h (g.has a b)
  .rw[g.frm a o q b]at h;cases h
theorem cU.trans(g:cU α Z H α' Z' H')(g':cU α' Z' H' Hm Q7 Q8):cU α Z H Hm Q7 Q8 where
 pre:=λn a e=>g'.pre n a (g.pre n a e)
 sub:=λa h=>g'.sub a (g.sub a h)
 new:=λa h=>by
  rcases g'.new a h with h|h
  .exact g.new a h
  .exact .inr (g.none h)
 Dh:=λa h=>by
  rcases g'.Dh a h with h|h
  .exact g.Dh a h
  .exact .inr (g.none h)
 frm:=λa o e b=>g'.frm a o (g.frm a o e b) λh=>by
  rcases g.Dh a h with h|h
  .exact b h
  .rw[e]at h;cases h
 has:=λa b=>by
  obtain⟨n,c⟩:=List.mem_iff_getElem?.mp b;exact g'.has a (List.mem_of_getElem? (g.pre n a c))
 dW:=λa o u e=>g'.dW a o u (g.dW a o u e)
theorem bH.dO(S:bH κ α Z Ω H)(g:cU α Z H α' Z' H'){d:D}{v:V}(h:aq α Z H d v):aq α' Z' H' d v:=
 h.mono g.pre (λa o z e=>g.frm a o e λb=>S.sep a b z) g.sub
theorem bH.jD(S:bH κ α Z Ω H)(g:cU α Z H α' Z' H'){ds:List D}{vs:List V}(h:aJ (aq α Z H) ds vs):aJ (aq α' Z' H') ds vs:=h.imp λ_ _ q=>S.dO g q
theorem bH.cell(S:bH κ α Z Ω H){n:Nat}{c:Cell}(e:Ω[n]?=some c):∃a,α[n]?=some a/\ij κ (aq α Z H) H a c:=S.ye.get e
theorem bH.len(S:bH κ α Z Ω H):α.length=Ω.length:=S.ye.length
theorem bH.uD(S:bH κ α Z Ω H){p:Addr}{o:HO}(h:H p=none)(z:Prop)[Decidable z]:bH κ α (if z then Zp Z p else Z) Ω (upd H p o)/\cU α Z H α (if z then Zp Z p else Z) (upd H p o):=by
 have j:∀a∈α,a≠p:=λa f e=>S.has a f (e▸h)
 have k:∀a,Z a->a≠p:=λa i e=>S.dom a i (e▸h)
 have sub:∀a,Z a->(if z then Zp Z p else Z) a:=λa f=>by
  split
  .exact .inl f
  .exact f
 have g:cU α Z H α (if z then Zp Z p else Z) (upd H p o):=⟨λ_ _ e=>e,sub,λa f=>by
   split at f
   .rcases f with f|rfl
    .exact .inl f
    .exact .inr h
   .exact .inl f,λ_ f=>.inl f,λa u e _=>by rw[aM (bf e h)];exact e,λa f=>by rw[aM (j a f)];exact S.has a f,λa l u e=>by rw[aM (bf e h)];exact e⟩
 refine⟨⟨S.sS,?_,λa f i=>?_,λa f=>?_⟩,g⟩
 .refine S.ye.imp λc a m=>?_
  refine m.imp (λd v r=>S.dO g r) (λu e=>?_) λb l n e=>?_
  .rw[aM (bf e h)];exact e
  .rw[aM (bf e h)];exact e
 .split at i
  .rcases i with i|rfl
   .exact S.sep a f i
   .exact j _ f rfl
  .exact S.sep a f i
 .split at f
  .rcases f with f|rfl
   .rw[aM (k a f)];exact S.dom a f
   .rw[ba];simp
  .rw[aM (k a f)];exact S.dom a f
theorem bH.laid(S:bH κ α Z Ω H){p:Addr}{o:HO}{c:Cell}(h:H p=none)(k:∀R:D->V->Prop,(∀d v,aq α Z H d v->R d v)->ij κ R (upd H p o) p c):bH κ (α++[p]) Z (Ω++[c]) (upd H p o)/\cU α Z H (α++[p]) Z (upd H p o):=by
 have f:∀a∈α,a≠p:=λa ha e=>S.has a ha (e▸h)
 have i:∀a,Z a->a≠p:=λa j e=>S.dom a j (e▸h)
 have g:cU α Z H (α++[p]) Z (upd H p o):=⟨λn a e=>by rw[List.getElem?_append_left (List.getElem?_eq_some_iff.mp e).1];exact e,λ_ h=>h,λ_ h=>.inl h,λa ha=>by
   rcases List.mem_append.mp ha with ha|ha
   .exact .inl ha
   .rw[List.mem_singleton.mp ha];exact .inr h,λa u e _=>by rw[aM (bf e h)];exact e,λa ha=>by rw[aM (f a ha)];exact S.has a ha,λa l u e=>by rw[aM (bf e h)];exact e⟩
 refine⟨⟨?_,?_,λa ha j=>?_,λa ha=>by rw[aM (i a ha)];exact S.dom a ha⟩,g⟩
 .refine List.nodup_append.mpr ⟨S.sS,by simp,λa ha b m=>?_⟩
  rw[List.mem_singleton.mp m];exact f a ha
 .refine aJ.append (S.ye.imp λc a k=>?_) (.one (k _ λd v r=>S.dO g r))
  refine k.imp (λd v r=>S.dO g r) (λu e=>?_) λb l q e=>?_
  .rw[aM (bf e h)];exact e
  .rw[aM (bf e h)];exact e
 .rcases List.mem_append.mp ha with ha|ha
  .exact S.sep a ha j
  .rw[List.mem_singleton.mp ha]at j;exact i _ j rfl
theorem bH.put(S:bH κ α Z Ω H){n:Nat}{p:Addr}{o:HO}{c:Cell}(E:α[n]?=some p)(s:∀o u,H p≠some (.dW o u))(I:∀R:D->V->Prop,(∀d v,aq α Z H d v->R d v)->ij κ R (upd H p o) p c):bH κ α Z (Ω.set n c) (upd H p o)/\cU α Z H α Z (upd H p o):=by
 have w:p∈α:=List.mem_of_getElem? E
 have g:cU α Z H α Z (upd H p o):=⟨λn a e=>e,λ_ h=>h,λ_ h=>.inl h,λa k=>.inl k,λa u e k=>by rw[aM (λ(q:a=p)=>k (by rw[q];exact w))];exact e,λa k=>by
   by_cases q:a=p
   .subst q;rw[ba];simp
   .rw[aM q];exact S.has a k,λa l u e=>by rw[aM (λq=>s l u (by rw[←q];exact e))];exact e⟩
 refine⟨⟨S.sS,?_,S.sep,λa k=>?_⟩,g⟩
 .have x:∀{j:List Cell}{f:List Addr}{n:Nat},f.Nodup->aJ (λc a=>ij κ (aq α Z H) H a c) j f->f[n]?=some p->aJ (λc a=>ij κ (aq α Z (upd H p o)) (upd H p o) a c) (j.set n c) f:=by
   intro j f n y z
   induction z generalizing n with
   |nil=>intro e;simp at e
   |@cons K A j f r t B=>
    intro e;have i:=List.nodup_cons.mp y;cases n with
    |zero=>
     simp at e;subst e;refine .cons (I _ λd v r=>S.dO g r) (aJ.imp (λ_ _ q=>q) ?_)
     have:∀{j:List Cell}{f:List Addr},A∉f->aJ (λc a=>ij κ (aq α Z H) H a c) j f->aJ (λc a=>ij κ (aq α Z (upd H A o)) (upd H A o) a c) j f:=by
      intro j f m z
      induction z with
      |nil=>exact .nil
      |@cons L M j f r t B=>
       refine .cons (r.imp (λd v q=>S.dO g q) (λu e=>?_) λb l C e=>?_) (B λq=>m (List.mem_cons_of_mem _ q))
       .rw[aM (λq=>m (by rw[q];simp))];exact e
       .rw[aM (λq=>s l C (by rw[←q];exact e))];exact e
     exact this i.1 t
    |succ n=>
     have F:f[n]?=some p:=by simpa using e
     refine .cons (r.imp (λd v q=>S.dO g q) (λu J=>?_) λb l C G=>?_) (B i.2 F)
     .rw[aM (λq=>i.1 (by rw[q];exact List.mem_of_getElem? F))];exact J
     .rw[aM (λq=>s l C (by rw[←q];exact G))];exact G
  exact x S.sS S.ye E
 .by_cases q:a=p
  .subst q;rw[ba];simp
  .rw[aM q];exact S.dom a k
end
end Mir
namespace Mir
open PySem PySem.Spec PyProof.Rows L2
variable [aE]
abbrev gS:=D->aD->List Addr->(Addr->Prop)->Hp->Prop
def cg(κ:Str->Addr->Prop)(Φ:gS)(f:List Addr)(Z:Addr->Prop)(H:Hp)(r:ax D)(Q:VK):Prop:=match r with
 |.ok d b=>∀v c a e,cU f Z H a e c->bH κ a e b c->aq a e c d v->Q v c
 |.exc x b=>∀c a e,cU f Z H a e c->bH κ a e b c->Φ x b a e c
 |.bad=>False
structure dh(κ:Str->Addr->Prop)(iZ:List Addr)(Z0:Addr->Prop)(H0:Hp)(α:List Addr)(Z:Addr->Prop)(Ω:aD)(ρ:aR)(σ:L2.St)(H:Hp):Prop where
 st:bH κ α Z Ω H
 gr:cU iZ Z0 H0 α Z H
 len:σ.length=ρ.length
 val:∀(i:Nat) (d:D),ρ[i]?=some (some d)->∃v,σ[i]?=some (some v)/\aq α Z H d v
abbrev EM:=aR->aD->ax D
noncomputable def tO(κ:Str->Addr->Prop)(Φ:gS)(a:List Addr)(c:Addr->Prop)(d:Hp)(m:EM)(ρ:aR)(Ω:aD):TE:=λe H Q=>
 ∃b Z,dh κ a c d b Z Ω ρ e H/\cg κ Φ b Z H (m ρ Ω) Q
def bq(X:Cx)(κ:Str->Addr->Prop)(Φ:gS)(e:Expr)(m:EM):Prop:=∀a b c d f,PE X e (tO κ Φ a b c m d f)
section
variable{κ:Str->Addr->Prop}{Φ:gS}{α α' iZ α1:List Addr}{Z Z' Z0 Z1:Addr->Prop}{Ω ai:aD}{H H' H0 H1:Hp}{ρ:aR}{σ:L2.St}{Q Q':VK}{r:ax D}
theorem cg.from(g:cU α Z H α1 Z1 H1)(h:cg κ Φ α Z H r Q):cg κ Φ α1 Z1 H1 r Q:=by
 cases r with
 |ok d b=>exact λv c a e f=>h v c a e (g.trans f)
 |exc x b=>exact λc a e f=>h c a e (g.trans f)
 |bad=>exact h
theorem cg.use{f:D->aD->ax D}(h:cg κ Φ α Z H (r.bind f) Q)(k:∀d aB,r=.ok d aB->∀v b a c,cU α Z H a c b->bH κ a c aB b->aq a c b d v->cg κ Φ a c b (f d aB) Q->Q' v b):cg κ Φ α Z H r Q':=by
 cases r with
 |ok d aB=>exact λv b a c g s q=>k d aB rfl v b a c g s q (cg.from g h)
 |exc x aB=>exact h
 |bad=>exact h
theorem cg.ret{d:D}{v:V}(S:bH κ α Z Ω H)(q:aq α Z H d v)(h:cg κ Φ α Z H (.ok d Ω) Q):Q v H:=h v H α Z (cU.refl S.has) S q
theorem dh.grow(S:dh κ iZ Z0 H0 α Z Ω ρ σ H)(g:cU α Z H α' Z' H')(s:bH κ α' Z' ai H'):dh κ iZ Z0 H0 α' Z' ai ρ σ H':=
 ⟨s,S.gr.trans g,S.len,λi d e=>let ⟨v,a,b⟩:=S.val i d e;⟨v,a,S.st.dO g b⟩⟩
theorem bp{d:D}{v:V}(h:fS d=some v):aq α Z H d v:=by
 cases d<;>simp only[fS]at h<;>first|cases h;simp only[aq]|cases h
theorem uE{d:D}(h:fD d=true):∃v,fS d=some v:=by
 cases d<;>first|exact⟨_,rfl⟩|cases h
theorem ei{d:D}{v w:V}(h:fS d=some w)(r:Rep Z H d v):v=w:=by
 cases d<;>simp only[fS]at h<;>first | (cases h;simpa only [Rep]using r)|cases h
noncomputable def bJ{a b:Type}(f:a->Option b):List a->Option (List b)
 |[]=>some []
 |x::xs=>match f x,bJ f xs with
  |some y,some ys=>some (y::ys)
  |_,_=>none
def fA(Ω:aD):Nat->D->Option D
 |_,.non=>some .non
 |_,.bl b=>some (.bl b)
 |_,.int i=>some (.int i)
 |_,.str x=>some (.str x)
 |0,_=>none
 |n+1,.lst ds=>(bJ (fA Ω n) ds).map .lst
 |n+1,.tup ds=>(bJ (fA Ω n) ds).map .tup
 |n+1,.ref k=>match Ω[k]? with
  |some (.lst ds)=>(bJ (fA Ω n) ds).map .lst
  |_=>none
 |_+1,.dct _ _=>none
def uF(b:List Addr)(Z:Addr->Prop):Addr->Prop:=λa=>Z a\/a∈b
theorem ft{f:D->Option D}{R:D->V->Prop}{S:D->V->Prop}(a:∀d d' v,f d=some d'->R d v->S d' v):∀{ds es:List D}{vs:List V},bJ f ds=some es->aJ R ds vs->aJ S es vs
 |[],es,vs,h,r=>by cases h;rw[r.nil_inv];exact .nil
 |d::ds,es,vs,h,r=>by
  simp only[bJ]at h;split at h
  .rename_i y ys h1 h2
   cases h;obtain⟨v,b,rfl,c,e⟩:=r.cons_inv;exact .cons (a d y v h1 c) (ft a h2 e)
  .cases h
theorem ik:∀{ds:List D}{vs:List V},aJ (Rep Z H) ds vs->bb Z H ds vs
 |_,_,.nil=>.nil
 |_,_,.cons r t=>.cons r (ik t)
theorem lr(S:bH κ α Z Ω H):∀(n:Nat) {d d':D}{v:V},fA Ω n d=some d'->aq α Z H d v->Rep (uF α Z) H d' v:=by
 intro n
 induction n with
 |zero=>
  intro d d' v h r;cases d<;>simp only[fA]at h<;>first | (cases h;simpa only [Rep,aq]using r)|cases h
 |succ n g=>
  intro d d' v h r;cases d with
  |lst l=>
   simp only[fA]at h;obtain⟨m,b,rfl⟩:=Option.map_eq_some_iff.mp h;simp only[aq]at r;obtain⟨a,c,rfl,i,j,e⟩:=r;simp only[Rep];exact⟨a,c,rfl,.inl i,j,ik (ft (S:=Rep (uF α Z) H) (λd d' v q r=>g q r) b (cz.mp e))⟩
  |tup l=>
   simp only[fA]at h;obtain⟨m,b,rfl⟩:=Option.map_eq_some_iff.mp h;simp only[aq]at r;obtain⟨a,c,rfl,i,j,e⟩:=r;simp only[Rep];exact⟨a,c,rfl,.inl i,.inl j,ik (ft (S:=Rep (uF α Z) H) (λd d' v q r=>g q r) b (cz.mp e))⟩
  |ref k=>
   simp only[fA]at h;split at h
   .rename_i l p
    obtain⟨m,b,rfl⟩:=Option.map_eq_some_iff.mp h;obtain⟨a,o,c,s,e⟩:=S.cell p;simp only[aq]at r;obtain⟨t,f,rfl⟩:=r;rw[o]at f;cases f;simp only[Rep];exact⟨a,c,rfl,.inr (List.mem_of_getElem? o),.inl s,ik (ft (S:=Rep (uF α Z) H) (λd d' v q r=>g q r) b e)⟩
   .cases h
  |dct _ _=>cases h
  |_=>simp only[fA]at h;cases h;simpa only [Rep,aq]using r
theorem eE(S:bH κ α Z Ω H):∀a,uF α Z a->H a≠none:=λa h=>h.elim (S.dom a) (S.has a)
theorem bH.same(S:bH κ α Z Ω H)(h:jA H H'):bH κ α Z Ω H'/\cU α Z H α Z H':=by
 have g:cU α Z H α Z H':=⟨λ_ _ e=>e,λ_ z=>z,λ_ z=>.inl z,λ_ z=>.inl z,λa o e _=>h a o e,λa f=>by
  cases q:H a with
  |none=>exact absurd q (S.has a f)
  |some o=>rw[h a o q];simp,λa o u e=>h a _ e⟩
 refine⟨⟨S.sS,S.ye.imp λc a i=>i.imp (λd v r=>S.dO g r) (λo e=>h a o e) λb o u e=>h b _ e,S.sep,λa z=>?_⟩,g⟩
 cases q:H a with
 |none=>exact absurd q (S.dom a z)
 |some o=>rw[h a o q];simp
theorem bH.adopt(S:bH κ α Z Ω H)(h:jA H H'){p:Addr}(i:H p=none){c:Cell}(j:∀R:D->V->Prop,(∀d v,aq α Z H' d v->R d v)->ij κ R H' p c):bH κ (α++[p]) Z (Ω++[c]) H'/\cU α Z H (α++[p]) Z H':=by
 obtain⟨o,k⟩:=S.same h;have l:∀a∈α,a≠p:=λa ha e=>S.has a ha (e▸i)
 have m:∀a,Z a->a≠p:=λa f e=>S.dom a f (e▸i)
 have g:∀(n:Nat) (a:Addr),α[n]?=some a->(α++[p])[n]?=some a:=λn a e=>by rw[List.getElem?_append_left (List.getElem?_eq_some_iff.mp e).1];exact e
 have mono:∀d v,aq α Z H' d v->aq (α++[p]) Z H' d v:=λd v r=>r.mono g (λ_ _ _ e=>e) λ_ z=>z
 refine⟨⟨?_,?_,λa ha f=>?_,o.dom⟩,⟨g,λ_ z=>z,λ_ z=>.inl z,λa ha=>?_,k.frm,k.has,k.dW⟩⟩
 .refine List.nodup_append.mpr ⟨S.sS,by simp,λa ha b q=>?_⟩
  rw[List.mem_singleton.mp q];exact l a ha
 .exact aJ.append (o.ye.imp λc a j=>j.imp mono (λ_ e=>e) λ_ _ _ e=>e) (.one (j _ mono))
 .rcases List.mem_append.mp ha with ha|ha
  .exact S.sep a ha f
  .rw[List.mem_singleton.mp ha]at f;exact m _ f rfl
 .rcases List.mem_append.mp ha with ha|ha
  .exact .inl ha
  .rw[List.mem_singleton.mp ha];exact .inr i
noncomputable def jf(Ω:aD)(c:Cell):ax D:=.ok (.ref Ω.length) (Ω++[c])
def gy(Ω:aD):Out Rs->ax D
 |.ok (own,d)=>if fD d then .ok d Ω else match own,d with
  |true,.lst ds=>if ds.all fD then jf Ω (.lst ds)else .bad
  |_,_=>.bad
 |_=>.bad
theorem fW(S:bH κ α Z Ω H)(p:Addr):aq (α++[p]) Z H' (.ref Ω.length) (.ref p):=by
 simp only[aq];exact⟨p,by rw[←S.len];simp,rfl⟩
theorem ot:∀{ds:List D}{vs:List V},ds.all fD=true->bb Z1 H1 ds vs->aJ (aq α Z H) ds vs
 |[],vs,_,r=>by rw[r.nil_inv];exact .nil
 |d::ds,vs,h,r=>by
  obtain⟨v,b,rfl,c,e⟩:=r.cons_inv;simp only[List.all_cons,Bool.and_eq_true]at h;obtain⟨w,a⟩:=uE h.1;obtain rfl:=ei a c;exact .cons (bp a) (ot h.2 e)
theorem jE{bw:Bool}{r:Out Rs}(S:bH κ α Z Ω H)(h:cg κ Φ α Z H (gy Ω r) Q):∃e d,r=.ok (e,d)/\∀v b m f,fk m H f b->eJ bw e f H b d v->Q v b:=by
 cases r with
 |ok q=>
  obtain⟨e,d⟩:=q;refine⟨e,d,rfl,λv b m f g q=>?_⟩
  simp only[gy]at h;split at h
  .rename_i o
   obtain⟨w,i⟩:=uE o
   have p:v=w:=by
    have n:=q.nw;cases d with
    |non=>exact ei (Z:=f) (H:=b) i n
    |bl _=>exact ei (Z:=f) (H:=b) i n
    |int _=>exact ei (Z:=f) (H:=b) i n
    |str _=>exact ei (Z:=f) (H:=b) i n
    |_=>cases o
   subst p;obtain⟨j,k⟩:=S.same g.same;exact h v b α Z k j (bp i)
  .split at h
   .rename_i s t
    split at h
    .rename_i l
     unfold eJ at q;rw[if_pos rfl]at q;obtain⟨a,u,x,y,rfl,z,D,A,B⟩:=q;cases y;obtain⟨j,k⟩:=S.adopt (c:=.lst s) g.same z (λR C=>⟨u,A,(ot l B).imp C⟩)
     exact h _ b _ Z k j (fW S a)
    .exact h.elim
   .exact h.elim
 |exc c E=>exact h.elim
 |bad=>exact h.elim
end
def m1(f:D->aD->ax D)(a:EM):EM:=λb c=>(a b c).bind f
def m2(f:D->D->aD->ax D)(d e:EM):EM:=λc g=>(d c g).bind λx a=>(e c a).bind λy b=>f x y b
noncomputable def jg(a b:ax D):ax D:=match a with
 |.bad=>b
 |r=>r
def gY(f g:D->D->aD->ax D):D->D->aD->ax D:=λx y a=>jg (f x y a) (g x y a)
def pz(f g:EM):EM:=λa b=>jg (f a b) (g a b)
def vZ(f:D->Out Rs):D->aD->ax D:=λx a=>match fA a 8 x with
 |some b=>gy a (f b)
 |none=>.bad
def gZ(f:D->D->Out Rs):D->D->aD->ax D:=λx y a=>match fA a 8 x,fA a 8 y with
 |some b,some c=>gy a (f b c)
 |_,_=>.bad
def g_(Ω:aD):D->Option Bool
 |.ref k=>match Ω[k]? with
  |some (.lst ds)=>some (!ds.isEmpty)
  |some (.dK kvs)=>some (!kvs.isEmpty)
  |_=>none
 |d=>kU d
def cw:ax D->ax Bool
 |.ok d Ω=>match g_ Ω d with
  |some b=>.ok b Ω
  |none=>.bad
 |.exc x Ω=>.exc x Ω
 |.bad=>.bad
def qh(κ:Str->Addr->Prop)(Φ:gS)(f:List Addr)(Z:Addr->Prop)(H:Hp)(r:ax Bool)(Q:Bool->Hp->Prop):Prop:=match r with
 |.ok b c=>∀d a e,cU f Z H a e d->bH κ a e c d->Q b d
 |.exc x c=>∀d a e,cU f Z H a e d->bH κ a e c d->Φ x c a e d
 |.bad=>False
def MH(κ:Str->Addr->Prop)(Φ:gS)(a:List Addr)(c:Addr->Prop)(d:Hp)(m:EM)(ρ:aR)(Ω:aD):TT:=λe H Q=>∃b Z,dh κ a c d b Z Ω ρ e H/\qh κ Φ b Z H (cw (m ρ Ω)) Q
def il(X:Cx)(κ:Str->Addr->Prop)(Φ:gS)(e:Expr)(m:EM):Prop:=∀a b c d f,PT X e (MH κ Φ a b c m d f)
abbrev AM:=aR->aD->ax (List D)
def qj(κ:Str->Addr->Prop)(Φ:gS)(e:List Addr)(Z:Addr->Prop)(H:Hp)(r:ax (List D))(Q:List V->Hp->Prop):Prop:=match r with
 |.ok g b=>∀f c a d,cU e Z H a d c->bH κ a d b c->aJ (aq a d c) g f->Q f c
 |.exc x b=>∀c a d,cU e Z H a d c->bH κ a d b c->Φ x b a d c
 |.bad=>False
noncomputable def Tj(κ:Str->Addr->Prop)(Φ:gS)(a:List Addr)(c:Addr->Prop)(d:Hp)(m:AM)(ρ:aR)(Ω:aD):TA:=λe H Q=>∃b Z,dh κ a c d b Z Ω ρ e H/\qj κ Φ b Z H (m ρ Ω) Q
def qk(X:Cx)(κ:Str->Addr->Prop)(Φ:gS)(es:List Expr)(m:AM):Prop:=∀a b c d e,PA X es (Tj κ Φ a b c m d e)
noncomputable def ae:AM:=λ_ a=>.ok [] a
def ab(a:EM)(e:AM):AM:=λd f=>(a d f).bind λx b=>(e d b).bind λg c=>.ok (x::g) c
def mN(f:List D->aD->ax D)(a:AM):EM:=λb c=>(a b c).bind f
section
variable{X:Cx}{κ:Str->Addr->Prop}{Φ:gS}{α α' iZ α1:List Addr}{Z Z' Z0 Z1:Addr->Prop}{Ω ai:aD}{H H' H0 H1:Hp}{ρ:aR}{σ:L2.St}{Q Q':VK}{r:ax D}{a b e:Expr}{es:List Expr}{ma mb mc m:EM}{as:AM}{pos:Pos}
theorem qj.from{r:ax (List D)}{Q:List V->Hp->Prop}(g:cU α Z H α1 Z1 H1)(h:qj κ Φ α Z H r Q):qj κ Φ α1 Z1 H1 r Q:=by
 cases r with
 |ok d b=>exact λv c a e f=>h v c a e (g.trans f)
 |exc x b=>exact λc a e f=>h c a e (g.trans f)
 |bad=>exact h
theorem qh.from{r:ax Bool}{Q:Bool->Hp->Prop}(g:cU α Z H α1 Z1 H1)(h:qh κ Φ α Z H r Q):qh κ Φ α1 Z1 H1 r Q:=by
 cases r with
 |ok d b=>exact λc a e f=>h c a e (g.trans f)
 |exc x b=>exact λc a e f=>h c a e (g.trans f)
 |bad=>exact h
theorem qj.use{r:ax (List D)}{f:List D->aD->ax D}{Q':List V->Hp->Prop}(h:cg κ Φ α Z H (r.bind f) Q)(k:∀ds aB,r=.ok ds aB->∀vs b a c,cU α Z H a c b->bH κ a c aB b->aJ (aq a c b) ds vs->cg κ Φ a c b (f ds aB) Q->Q' vs b):qj κ Φ α Z H r Q':=by
 cases r with
 |ok d aB=>exact λv b a c g s q=>k d aB rfl v b a c g s q (cg.from g h)
 |exc x aB=>exact h
 |bad=>exact h
theorem PE.or{t u:TE}(h:PE X e t)(h':PE X e u):PE X e (λa H Q=>t a H Q\/u a H Q):=λpins s a H Q I q=>q.elim (h pins s a H Q I) (h' pins s a H Q I)
theorem PT.or{t u:TT}(h:PT X e t)(h':PT X e u):PT X e (λa H Q=>t a H Q\/u a H Q):=λpins s a H Q I q=>q.elim (h pins s a H Q I) (h' pins s a H Q I)
theorem ou{a b:ax D}:jg a b=a\/(a=.bad/\jg a b=b):=by cases a<;>simp[jg]
theorem bq.alt(h:bq X κ Φ e ma)(h':bq X κ Φ e mb):bq X κ Φ e (pz ma mb):=by
 intro c i j d f;refine PE.imp (PE.or (h c i j d f) (h' c i j d f)) ?_;rintro l H Q ⟨k,Z,S,g⟩;rcases ou (a:=ma d f) (b:=mb d f)with q|⟨_,q⟩
 .exact .inl ⟨k,Z,S,by rw[←q];exact g⟩
 .exact .inr ⟨k,Z,S,by rw[←q];exact g⟩
theorem il.alt(h:il X κ Φ e ma)(h':il X κ Φ e mb):il X κ Φ e (pz ma mb):=by
 intro c i j d f;refine PT.imp (PT.or (h c i j d f) (h' c i j d f)) ?_;rintro l H Q ⟨k,Z,S,g⟩;rcases ou (a:=ma d f) (b:=mb d f)with q|⟨_,q⟩
 .exact .inl ⟨k,Z,S,by rw[←q];exact g⟩
 .exact .inr ⟨k,Z,S,by rw[←q];exact g⟩
theorem jh{f g:D->D->aD->ax D}:m2 (gY f g) ma mb=pz (m2 f ma mb) (m2 g ma mb):=by
 funext c a
 simp only[m2,pz];cases ma c a with
 |ok x b=>
  simp only[ax.bind];cases mb c b with
  |ok y d=>rfl
  |exc x a=>rfl
  |bad=>rfl
 |exc x a=>rfl
 |bad=>rfl
theorem pA{f:D->aD->ax D}{r:V->Hp->VK->Prop}(h:∀l,PE X a l->PE X e λm H Q=>l m H λx c=>r x c Q)(o:bq X κ Φ a ma)
  (p:∀n x b Z Ω H Q,bH κ b Z Ω H->aq b Z H n x->cg κ Φ b Z H (f n Ω) Q->r x H Q):bq X κ Φ e (m1 f ma):=by
 intro i q s t Ω;refine PE.imp (h _ (o i q s t Ω)) ?_;rintro m H Q ⟨b,Z,S,g⟩;refine⟨b,Z,S,g.use λd j _ v c k u A w y z=>?_⟩
 exact p d v k u j c Q w y z
theorem eF{f:D->D->aD->ax D}{r:R2}(h:∀u tb,PE X a u->PE X b tb->PE X e (Gf r u tb))(n:bq X κ Φ a ma)(o:bq X κ Φ b mb)
  (G:∀z A x y i Z Ω H Q,bH κ i Z Ω H->aq i Z H z x->aq i Z H A y->cg κ Φ i Z H (f z A Ω) Q->r x y H Q):bq X κ Φ e (m2 f ma mb):=by
 intro c k l j Ω;rcases q:ma j Ω with ⟨d,m⟩|⟨x,m⟩|_
 .refine PE.imp (h _ _ (n c k l j Ω) (o c k l j m)) ?_
  rintro B H Q ⟨i,Z,S,g⟩;refine⟨i,Z,S,cg.use g λU C E v V p I J F K L=>?_⟩
  rw[q]at E;cases E;refine⟨p,I,S.grow J F,L.use λd2 s _ w M t N O P R T=>?_⟩
  exact G d d2 v w t N s M Q P (F.dO O K) R T
 .refine PE.imp (h _ _ (n c k l j Ω) (o c k l j Ω)) ?_
  rintro B H Q ⟨i,Z,S,g⟩;refine⟨i,Z,S,?_⟩;simp only[m2,q,ax.bind]at g ⊢;exact g
 .refine PE.imp (h _ _ (n c k l j Ω) (o c k l j Ω)) ?_
  rintro B H Q ⟨i,Z,S,g⟩;simp only[m2,q,ax.bind]at g;exact g.elim
theorem qX{bw:Bool}{f:D->Out Rs}{i:D}{x:V}(S:bH κ α Z Ω H)(j:aq α Z H i x)(h:cg κ Φ α Z H (vZ f i Ω) Q) :
  ∃d a d',Now (uF α Z) H d x/\f d=.ok (a,d')/\∀v b c,fk (uF α Z) H c b->eJ bw a c H b d' v->Q v b:=by
 unfold vZ at h;split at h
 .rename_i d l
  obtain⟨a,d',e,k⟩:=jE (bw:=bw) S h;exact⟨d,a,d',(lr S 8 l j).now,e,λv b c g q=>k v b _ c g q⟩
 .exact h.elim
theorem jF{bw:Bool}{f:D->D->Out Rs}{i j:D}{x y:V}(S:bH κ α Z Ω H)(l:aq α Z H i x)(m:aq α Z H j y)(h:cg κ Φ α Z H (gZ f i j Ω) Q) :
  ∃d e a d',Now (uF α Z) H d x/\Now (uF α Z) H e y/\f d e=.ok (a,d')/\∀v b c,fk (uF α Z) H c b->eJ bw a c H b d' v->Q v b:=by
 unfold gZ at h;split at h
 .rename_i d e n o
  obtain⟨a,d',p,k⟩:=jE (bw:=bw) S h;exact⟨d,e,a,d',(lr S 8 n l).now,(lr S 8 o m).now,p,λv b c g q=>k v b _ c g q⟩
 .exact h.elim
theorem Aw{i:Nat}{x:Str}(c:X.N[i]?=some x)(e:Gb X.env.scope x)(a:(x==("__debug__":Str))=false)(b:(x==("__classdict__":Str))=false):bq X κ Φ (.Name x pos) (λρ Ω=>match ρ[i]? with|some (some d)=>.ok d Ω|_=>.bad):=by
 intro f k l ρ Ω;refine PE.imp (DE c e a b) ?_;rintro m H Q ⟨n,Z,S,g⟩;dsimp only at g;split at g
 .rename_i d a
  obtain⟨v,h,j⟩:=S.val i d a;exact⟨v,h,cg.ret S.st j g⟩
 .exact g.elim
theorem jG{d:D}{v:V}(h:PE X e (tC v))(a:fS d=some v):bq X κ Φ e (λ_ Ω=>.ok d Ω):=by
 intro b c f i Ω;refine PE.imp h ?_;rintro j H Q ⟨k,Z,S,g⟩;exact cg.ret S.st (bp a) g
noncomputable def dY(Ω:aD):D->Option (List D)
 |.ref k=>match Ω[k]? with
  |some (.lst ds)=>some ds
  |_=>none
 |.lst ds=>some ds
 |_=>none
theorem cH{x:D}{v:V}{ds:List D}(S:bH κ α Z Ω H)(r:aq α Z H x v)(h:dY Ω x=some ds):∃a vs,v=.ref a/\Rd H a (.lst vs)/\aJ (aq α Z H) ds vs:=by
 cases x with
 |ref k=>
  simp only[dY]at h;split at h
  .rename_i e f
   cases h;simp only[aq]at r;obtain⟨a,g,rfl⟩:=r;obtain⟨i,b,vs,c,d⟩:=S.cell f;rw[g]at b;cases b;exact⟨a,vs,rfl,.inl c,d⟩
  .cases h
 |lst j=>
  cases h;simp only[aq]at r;obtain⟨a,vs,rfl,_,c,d⟩:=r;exact⟨a,vs,rfl,c,cz.mp d⟩
 |_=>cases h
theorem iL{x:V}{ds:List D}(r:aq α Z H (.tup ds) x):∃a vs,x=.ref a/\Z a/\H a=some (.tup vs)/\aJ (aq α Z H) ds vs:=by
 simp only[aq]at r;obtain⟨a,vs,e,b,c,d⟩:=r;exact⟨a,vs,e,b,c,cz.mp d⟩
theorem fu{ds:List D}{vs:List V}(S:bH κ α Z Ω H)(r:aJ (aq α Z H) ds vs)(k:cg κ Φ α Z H (jf Ω (.lst ds)) Q):∀p,H p=none->Q (.ref p) (upd H p (.lst vs)):=λp a=>by
 obtain⟨b,d⟩:=S.laid (p:=p) (o:=.lst vs) (c:=.lst ds) a λR e=>⟨vs,ba,r.imp e⟩
 exact k _ _ _ Z d b (fW S p)
theorem yf{ds:List D}{vs:List V}(S:bH κ α Z Ω H)(r:aJ (aq α Z H) ds vs)(k:cg κ Φ α Z H (.ok (.tup ds) Ω) Q):∀p,H p=none->Q (.ref p) (upd H p (.tup vs)):=λp c=>by
 obtain⟨b,a⟩:=S.uD (p:=p) (o:=.tup vs) c True;simp only[if_true]at b a;refine k _ _ _ _ a b ?_;simp only[aq];exact⟨p,vs,rfl,.inr rfl,ba,cz.mpr (S.jD a r)⟩
theorem Ax:qk X κ Φ [] ae:=by
 intro a c d e f;refine PA.imp sD ?_;rintro h H Q ⟨b,Z,S,g⟩;exact g [] H b Z (cU.refl S.st.has) S.st .nil
theorem yg(k:bq X κ Φ e ma)(l:qk X κ Φ es as)(m:starEach (e::es) X.env=(false,eval e X.env)::starEach es X.env):qk X κ Φ (e::es) (ab ma as):=by
 intro a f h b i;rcases q:ma b i with ⟨d,c⟩|⟨x,c⟩|_
 .refine PA.imp (iK (k a f h b i) (l a f h b c) m) ?_
  rintro r H Q ⟨j,Z,S,g⟩;refine⟨j,Z,S,?_⟩;simp only[ab,q,ax.bind]at g ⊢;intro v C n w s t y;refine⟨n,w,S.grow s t,?_⟩;have g:=qj.from s g
  rcases o:as b c with ⟨D,p⟩|⟨x,p⟩|_
  .rw[o]at g
   intro E F z G u A B;exact g _ _ _ _ u A (.cons (t.dO u y) B)
  .rw[o]at g;exact g
  .rw[o]at g;exact g
 .refine PA.imp (iK (k a f h b i) (l a f h b i) m) ?_
  rintro r H Q ⟨j,Z,S,g⟩;refine⟨j,Z,S,?_⟩;simp only[ab,q,ax.bind]at g ⊢;exact g
 .refine PA.imp (iK (k a f h b i) (l a f h b i) m) ?_
  rintro r H Q ⟨j,Z,S,g⟩;simp only[ab,q,ax.bind]at g;exact g.elim
def aY(ds:List D)(Ω:aD):ax D:=if small ds.length then jf Ω (.lst ds)else .bad
def ip(ds:List D)(Ω:aD):ax D:=if small ds.length then .ok (.tup ds) Ω else .bad
theorem Ay(h:qk X κ Φ es as):bq X κ Φ (.List es pos) (mN aY as):=by
 intro b d e f i;refine PE.imp (D9 (h b d e f i)) ?_;rintro o H Q ⟨j,Z,S,g⟩;refine⟨j,Z,S,qj.use g λp k _ q r l s t m c a=>?_⟩
 unfold aY at a;split at a
 .rename_i n
  exact⟨by rw[c.length];exact bI n,fu m c a⟩
 .exact a.elim
theorem Az{x1}(h:qk X κ Φ es as):bq X κ Φ (.Tuple es x1 pos) (mN ip as):=by
 intro b d e f i;refine PE.imp (D7 (h b d e f i)) ?_;rintro o H Q ⟨j,Z,S,g⟩;refine⟨j,Z,S,qj.use g λp k _ q r l s t m c a=>?_⟩
 unfold ip at a;split at a
 .rename_i n
  exact⟨by rw[c.length];exact bI n,yf m c a⟩
 .exact a.elim
def sT(x y:D)(Ω:aD):ax D:=match dY Ω x,dY Ω y with
 |some a,some b=>if small (a.length+b.length)then jf Ω (.lst (a++b))else .bad
 |_,_=>.bad
def bj(op:Operator):D->D->aD->ax D:=match op with
 |.Add=>gY sT (gZ (fQ .Add))
 |op=>gZ (fQ op)
theorem AE{op:Operator}(j:bq X κ Φ a ma)(m:bq X κ Φ b mb):bq X κ Φ (.BinOp a op b pos) (m2 (bj op) ma mb):=by
 have E:bq X κ Φ (.BinOp a op b pos) (m2 (gZ (fQ op)) ma mb):=eF (r:=Af op) (λq tb c f=>CZ (xH op) c f) j m λs t x y u Z w H Q S h i g=>by
  obtain⟨d,e,z,N,A,B,D,k⟩:=jF (bw:=false) S h i g;exact Ei (bw:=false) A B (eE S) D k
 have C:op=.Add->bq X κ Φ (.BinOp a op b pos) (m2 sT ma mb):=λe=>by
  subst e;refine eF (r:=Af .Add) (λq tb c f=>CZ (xH .Add) c f) j m λs t x y u Z w H Q S h i g=>?_
  unfold sT at g;split at g
  .rename_i O P F G
   obtain⟨l,I,rfl,J,o⟩:=cH S h F;obtain⟨n,K,rfl,L,p⟩:=cH S i G;split at g
   .rename_i M
    exact .inr (.inr ⟨l,n,I,K,rfl,rfl,J,L,by rw[o.length,p.length];exact bI M,fu S (o.append p) g⟩)
   .exact g.elim
  .exact g.elim
 cases op with
 |Add=>show bq X κ Φ _ (m2 (gY sT (gZ (fQ .Add))) ma mb);rw[jh];exact(C rfl).alt E
 |_=>exact E
def AH:D->aD->ax D:=vZ λx=>match x with|.int i=>.ok (false,.int (-i))|_=>.bad
theorem AI(c:bq X κ Φ a ma):bq X κ Φ (.UnaryOp .USub a pos) (m1 AH ma):=
 pA (r:=rU λi=>.int (-i)) (λl e=>GL D4 e) c λm x n Z o H Q S f g=>by
  obtain⟨d,h,p,j,b,k⟩:=qX (bw:=false) S f g;split at b
  .cases bt j
   cases b;exact⟨_,rfl,k _ H _ (fk.refl (eE S)) (.rep (fT rfl))⟩
  .cases b
end
noncomputable def cN{κ a:Type}[DecidableEq κ](kvs:List (κ×a))(k:κ):Option a:=(kvs.find? λb=>decide (b.1=k)).map (·.2)
noncomputable def ej{κ b:Type}[DecidableEq κ](kvs:List (κ×b))(k:κ)(v:b):List (κ×b):=
 if (kvs.any λa=>decide (a.1=k))=true then kvs.map (λa=>if a.1=k then (a.1,v)else a)else kvs++[(k,v)]
noncomputable def eO{κ a:Type}[DecidableEq κ](kvs:List (κ×a))(k:κ):List (κ×a):=kvs.filter λb=>decide (b.1≠k)
section
variable{κ:Type}[DecidableEq κ]{R:D->V->Prop}
theorem gR.val{kvs:List (κ×D)}{a:List (κ×V)}(h:gR R kvs a)(k:κ):(∀d,cN kvs k=some d->∃v,kS a k=some v/\R d v)/\(cN kvs k=none->kS a k=none):=by
 unfold gR at h
 induction h with
 |nil=>exact⟨λd e=>(by cases e),λ_=>rfl⟩
 |@cons p q b n r t i=>
  obtain⟨g,j⟩:=r
  by_cases e:p.1=k
  .have c:q.1=k:=g▸e
   have f:cN (p::b) k=some p.2:=by simp[cN,List.find?_cons,e]
   rw[f,qG c];exact⟨λd l=>by cases l;exact⟨_,rfl,j⟩,λm=>by cases m⟩
  .have c:¬ q.1=k:=λz=>e (g.trans z)
   have f:cN (p::b) k=cN b k:=by simp[cN,List.find?_cons,e]
   rw[f,qI c];exact i
theorem gR.any{kvs:List (κ×D)}{a:List (κ×V)}(h:gR R kvs a)(k:κ):(a.any λb=>decide (b.1=k))=kvs.any λb=>decide (b.1=k):=by
 unfold gR at h
 induction h with
 |nil=>rfl
 |@cons p q d e r t c=>rw[List.any_cons,List.any_cons,c,r.1]
theorem gR.put{kvs:List (κ×D)}{a:List (κ×V)}(h:gR R kvs a)(k:κ){d:D}{v:V}(r:R d v):gR R (ej kvs k d) (putK a k v):=by
 unfold ej putK;rw[h.any];split
 .rename_i c
  clear c;unfold gR at h
  induction h with
  |nil=>exact .nil
  |@cons p q g i b t f=>
   rw[List.map_cons,List.map_cons];refine .cons ?_ f
   by_cases e:p.1=k
   .rw[if_pos e,if_pos (b.1▸e)];exact⟨b.1,r⟩
   .rw[if_neg e,if_neg (λz=>e (b.1.trans z))];exact b
 .exact aJ.append h (.one ⟨rfl,r⟩)
theorem gR.drop{kvs:List (κ×D)}{a:List (κ×V)}(h:gR R kvs a)(k:κ):gR R (eO kvs k) (ky a k):=by
 unfold gR at h
 induction h with
 |nil=>exact .nil
 |@cons p q d f b t c=>
  unfold eO ky;rw[List.filter_cons,List.filter_cons]
  by_cases e:p.1=k
  .have:q.1=k:=b.1▸e
   simp only[e,this,ne_eq,not_true_eq_false,decide_false];exact c
  .have:¬ q.1=k:=λz=>e (b.1.trans z)
   simp only[e,this,ne_eq,not_false_eq_true,decide_true,if_true];exact .cons b c
theorem gR.length{kvs:List (κ×D)}{a:List (κ×V)}(h:gR R kvs a):a.length=kvs.length:=aJ.length h
end
noncomputable def pB:D->Option Key
 |.int i=>some (.inl i)
 |.str x=>some (.inr x)
 |_=>none
section
variable{X:Cx}{κ:Str->Addr->Prop}{Φ:gS}{α α' iZ α1:List Addr}{Z Z' Z0 Z1:Addr->Prop}{Ω ai:aD}{H H' H0 H1:Hp}{ρ:aR}{σ:L2.St}{Q Q':VK}{r:ax D}{a b e:Expr}{es:List Expr}{ma mb mc m:EM}{as:AM}{pos:Pos}
theorem iq{d:D}{k:Key}{v:V}(h:pB d=some k)(r:aq α Z H d v):v=kV k:=by
 cases d with
 |int i=>cases h;simp only[aq]at r;exact r
 |str i=>cases h;simp only[aq]at r;exact r
 |_=>cases h
def sU(Ω:aD)(x y:D):Option (Option D):=match x with
 |.ref k=>match Ω[k]? with
  |some (.dK a)=>(pB y).map (cN a)
  |some (.dF a)=>(pB y).map (cN a)
  |_=>none
 |_=>none
theorem qY{x y:D}{v w:V}{o:Option D}(S:bH κ α Z Ω H)(q:aq α Z H x v)(r:aq α Z H y w)(h:sU Ω x y=some o):∃a f,v=.ref a/\lS H a w f/\(∀d,o=some d->∃u,f=some u/\aq α Z H d u)/\(o=none->f=none):=by
 cases x with
 |ref k=>
  simp only[sU]at h;simp only[aq]at q;obtain⟨a,s,rfl⟩:=q;split at h
  .rename_i g i
   obtain⟨e,j,rfl⟩:=Option.map_eq_some_iff.mp h;obtain⟨t,b,c,l,m⟩:=S.cell i;rw[s]at b;cases b
   obtain rfl:=iq j r;obtain⟨n,p⟩:=m.val e;exact⟨a,_,rfl,lS.k l,n,p⟩
  .rename_i g i
   obtain⟨e,j,rfl⟩:=Option.map_eq_some_iff.mp h;obtain⟨t,b,z,c,l,m⟩:=S.cell i;rw[s]at b;cases b
   obtain rfl:=iq j r;obtain⟨n,p⟩:=m.val e;exact⟨a,_,rfl,.inl ⟨c,e,.inr ⟨z,l⟩,rfl,rfl⟩,n,p⟩
  .cases h
 |_=>cases h
def di(op:CmpOp):D->D->aD->ax D:=gZ λx y=>do let r ←ez op x y;Out.ok (false,D.bl r)
def hF(neg:Bool)(y x:D)(Ω:aD):ax D:=match sU Ω x y with
 |some o=>.ok (.bl (if neg then !o.isSome else o.isSome)) Ω
 |none=>.bad
noncomputable def fL(neg:Bool)(x y:D)(Ω:aD):ax D:=match x,y with
 |.ref _,.non=>.ok (.bl neg) Ω
 |_,_=>.bad
def aF(op:CmpOp):D->D->aD->ax D:=match op with
 |.In=>gY (di .In) (hF false)
 |.NotIn=>gY (di .NotIn) (hF true)
 |.Is=>gY (fL false) (di .Is)
 |.IsNot=>gY (fL true) (di .IsNot)
 |op=>di op
theorem sV{o:Option D}{a:Option V}{R:D->V->Prop}(b:∀d,o=some d->∃u,a=some u/\R d u)(c:o=none->a=none):a.isSome=o.isSome:=by
 cases o with
 |none=>rw[c rfl];rfl
 |some d=>obtain⟨u,e,_⟩:=b d rfl;rw[e];rfl
theorem jH{f:D->D->aD->ax D}{r:R2}(h:∀G tb,PE X a G->PE X b tb->PT X e (xf (Gf r G tb)))(p:bq X κ Φ a ma)(s:bq X κ Φ b mb)(z:∀x y Ω d ai,f x y Ω=.ok d ai->∃t,d=.bl t)
  (P:∀I J x y i Z Ω H Q,bH κ i Z Ω H->aq i Z H I x->aq i Z H J y->cg κ Φ i Z H (f I J Ω) Q->r x y H Q):il X κ Φ e (m2 f ma mb):=by
 intro c m n j Ω;rcases q:ma j Ω with ⟨d,k⟩|⟨x,k⟩|_
 .refine PT.imp (h _ _ (p c m n j Ω) (s c m n j k)) ?_
  rintro K H Q ⟨i,Z,S,g⟩;refine⟨i,Z,S,?_⟩;simp only[m2,q,ax.bind]at g ⊢;intro v H1 A R L M T;refine⟨A,R,S.grow L M,?_⟩;have g:=qh.from L g
  rcases B:mb j k with ⟨d2,l⟩|⟨x,l⟩|_
  .rw[B]at g
   intro w U C V N Y r2;refine P d d2 v w C V l U _ Y (M.dO N T) r2 ?_;have g:=qh.from N g
   dsimp only[ax.bind]at g;rcases o:f d d2 l with ⟨d3,E⟩|⟨x,E⟩|_
   .rw[o]at g
    obtain⟨t,rfl⟩:=z _ _ _ _ _ o;intro u H3 F Z3 g3 s3 O;simp only[aq]at O;exact⟨t,O,g H3 F Z3 g3 s3⟩
   .rw[o]at g;exact g
   .rw[o]at g;exact g
  .rw[B]at g;exact g
  .rw[B]at g;exact g
 .refine PT.imp (h _ _ (p c m n j Ω) (s c m n j Ω)) ?_
  rintro K H Q ⟨i,Z,S,g⟩;refine⟨i,Z,S,?_⟩;simp only[m2,q,ax.bind,cw]at g ⊢;exact g
 .refine PT.imp (h _ _ (p c m n j Ω) (s c m n j Ω)) ?_
  rintro K H Q ⟨i,Z,S,g⟩;simp only[m2,q,ax.bind,cw]at g;exact g.elim
noncomputable def Eo(neg:Bool):R2:=λy x H Q=>∃a o,x=.ref a/\lS H a y o/\Q (.bl (if neg then !o.isSome else o.isSome)) H
theorem yh(b:X.A.units+1<cLine):h9 X (compareOp .In) (Eo false):=by
 intro pins s f H x y u v Q I c d h;obtain⟨a,o,rfl,g,q⟩:=h;obtain rfl:v=Value.ref a:=d;exact MA b I g c λi e=>⟨.bl o.isSome,H,e,rfl,q⟩
theorem ov(b:X.A.units+1<cLine):h9 X (compareOp .NotIn) (Eo true):=by
 intro pins s f H x y u v Q I c d h;obtain⟨a,o,rfl,g,q⟩:=h;obtain rfl:v=Value.ref a:=d;exact z8 b I g c λi e=>⟨.bl (!o.isSome),H,e,rfl,q⟩
theorem pC{op:CmpOp}{a b:D}{x y:V}(S:bH κ α Z Ω H)(c:aq α Z H a x)(f:aq α Z H b y)(g:cg κ Φ α Z H (di op a b Ω) Q):xK op x y H Q:=by
 obtain⟨d,e,h,m,i,j,l,k⟩:=jF (bw:=false) S c f g;exact Ej (bw:=false) i j (eE S) l k
theorem pD{neg:Bool}{b c:D}{x y:V}(S:bH κ α Z Ω H)(d:aq α Z H b x)(e:aq α Z H c y)(g:cg κ Φ α Z H (hF neg b c Ω) Q):Eo neg x y H Q:=by
 unfold hF at g;split at g
 .rename_i o f
  obtain⟨a,h,rfl,i,j,k⟩:=qY S e d f;refine⟨a,h,rfl,i,?_⟩;rw[sV j k];exact cg.ret S (bp rfl) g
 .exact g.elim
theorem pE{neg:Bool}{op:CmpOp}(h:op=if neg then .IsNot else .Is){c e:D}{x y:V}(S:bH κ α Z Ω H)(f:aq α Z H c x)(b:aq α Z H e y)(g:cg κ Φ α Z H (fL neg c e Ω) Q) :
  (if neg then (y=.non/\Q (.bl (!decide (x=.non))) H)else (y=.non/\Q (.bl (decide (x=.non))) H)):=by
 unfold fL at g;split at g
 .simp only[aq]at f b
  obtain⟨a,_,rfl⟩:=f;have:=cg.ret S (bp (d:=.bl neg) rfl) g;cases neg
  .exact⟨b,this⟩
  .exact⟨b,this⟩
 .exact g.elim
theorem pF{op:CmpOp}:∀x y Ω d ai,di op x y Ω=.ok d ai->∃t,d=.bl t:=λx y Ω d ai h=>by
 unfold di gZ at h;split at h
 .rename_i a b _ _
  dsimp only at h;cases q:ez op a b with
  |ok t=>
   have e:(do let r ←ez op a b;Out.ok (false,D.bl r))=Out.ok (false,D.bl t):=by rw[q];rfl
   rw[e]at h;simp only[gy,fD,if_true]at h;cases h;exact⟨_,rfl⟩
  |exc c f=>
   have e:(do let r ←ez op a b;Out.ok (false,D.bl r))=Out.exc c f:=by rw[q];rfl
   rw[e]at h;cases h
  |bad=>
   have e:(do let r ←ez op a b;Out.ok (false,D.bl r))=Out.bad:=by rw[q];rfl
   rw[e]at h;cases h
 .cases h
theorem uG{neg:Bool}:∀x y Ω d ai,hF neg x y Ω=.ok d ai->∃t,d=.bl t:=λx y Ω d ai h=>by
 unfold hF at h;split at h
 .cases h;exact⟨_,rfl⟩
 .cases h
theorem uH{neg:Bool}:∀x y Ω d ai,fL neg x y Ω=.ok d ai->∃t,d=.bl t:=λx y Ω d ai h=>by
 unfold fL at h;split at h
 .cases h;exact⟨_,rfl⟩
 .cases h
theorem uI{op:CmpOp}(s:X.A.units+64<cLine)(h:behindInMarks op b=false)(i:bq X κ Φ a ma)(j:bq X κ Φ b mb):bq X κ Φ (.Compare a [op] [b] pos) (m2 (aF op) ma mb)/\il X κ Φ (.Compare a [op] [b] pos) (m2 (aF op) ma mb):=by
 have E:bq X κ Φ (.Compare a [op] [b] pos) (m2 (di op) ma mb):=eF (λk tb c d=>jv (j5 s op) c d h) i j λl m x y n Z o H Q S e f g=>pC S e f g
 have T:il X κ Φ (.Compare a [op] [b] pos) (m2 (di op) ma mb):=jH (λk tb c d=>jw (j5 s op) c d h) i j pF λl m x y n Z o H Q S e f g=>pC S e f g
 have p:X.A.units+1<cLine:=by omega
 cases op with
 |In=>
  have q:bq X κ Φ (.Compare a [.In] [b] pos) (m2 (hF false) ma mb):=eF (λk tb c d=>jv (yh p) c d h) i j λl m x y n Z o H Q S e f g=>pD S e f g
  have r:il X κ Φ (.Compare a [.In] [b] pos) (m2 (hF false) ma mb):=jH (λk tb c d=>jw (yh p) c d h) i j uG λl m x y n Z o H Q S e f g=>pD S e f g
  show bq X κ Φ _ (m2 (gY (di .In) (hF false)) ma mb)/\il X κ Φ _ (m2 (gY (di .In) (hF false)) ma mb)
  rw[jh];exact⟨E.alt q,T.alt r⟩
 |NotIn=>
  have q:bq X κ Φ (.Compare a [.NotIn] [b] pos) (m2 (hF true) ma mb):=eF (λk tb c d=>jv (ov p) c d h) i j λl m x y n Z o H Q S e f g=>pD S e f g
  have r:il X κ Φ (.Compare a [.NotIn] [b] pos) (m2 (hF true) ma mb):=jH (λk tb c d=>jw (ov p) c d h) i j uG λl m x y n Z o H Q S e f g=>pD S e f g
  show bq X κ Φ _ (m2 (gY (di .NotIn) (hF true)) ma mb)/\il X κ Φ _ (m2 (gY (di .NotIn) (hF true)) ma mb)
  rw[jh];exact⟨E.alt q,T.alt r⟩
 |Is=>
  have q:bq X κ Φ (.Compare a [.Is] [b] pos) (m2 (fL false) ma mb):=eF (λk tb c d=>jv xc c d h) i j λl m x y n Z o H Q S e f g=>pE (neg:=false) (op:=.Is) rfl S e f g
  have r:il X κ Φ (.Compare a [.Is] [b] pos) (m2 (fL false) ma mb):=jH (λk tb c d=>jw xc c d h) i j uH λl m x y n Z o H Q S e f g=>pE (neg:=false) (op:=.Is) rfl S e f g
  show bq X κ Φ _ (m2 (gY (fL false) (di .Is)) ma mb)/\il X κ Φ _ (m2 (gY (fL false) (di .Is)) ma mb)
  rw[jh];exact⟨q.alt E,r.alt T⟩
 |IsNot=>
  have q:bq X κ Φ (.Compare a [.IsNot] [b] pos) (m2 (fL true) ma mb):=eF (λk tb c d=>jv uh c d h) i j λl m x y n Z o H Q S e f g=>pE (neg:=true) (op:=.IsNot) rfl S e f g
  have r:il X κ Φ (.Compare a [.IsNot] [b] pos) (m2 (fL true) ma mb):=jH (λk tb c d=>jw uh c d h) i j uH λl m x y n Z o H Q S e f g=>pE (neg:=true) (op:=.IsNot) rfl S e f g
  show bq X κ Φ _ (m2 (gY (fL true) (di .IsNot)) ma mb)/\il X κ Φ _ (m2 (gY (fL true) (di .IsNot)) ma mb)
  rw[jh];exact⟨q.alt E,r.alt T⟩
 |Eq=>exact⟨E,T⟩
 |NotEq=>exact⟨E,T⟩
 |Lt=>exact⟨E,T⟩
 |LtE=>exact⟨E,T⟩
 |Gt=>exact⟨E,T⟩
 |GtE=>exact⟨E,T⟩
def gz(Ω:aD)(x:D):Option (List D):=match x with
 |.tup a=>some a
 |x=>dY Ω x
def AJ(x y:D)(Ω:aD):ax D:=match gz Ω x,y with
 |some a,.int i=>match L2.kx a i with
  |some d=>.ok d Ω
  |none=>.bad
 |_,_=>.bad
def AK(x y:D)(Ω:aD):ax D:=match sU Ω x y with
 |some (some d)=>.ok d Ω
 |_=>.bad
def aN:D->D->aD->ax D:=gY AJ (gY AK (gZ sI))
theorem mz{x:D}{v:V}{ds:List D}{K:PySem.W.Frag}(S:bH κ α Z Ω H)(r:aq α Z H x v)(h:gz Ω x=some ds):∃a vs,v=.ref a/\(kQ K H a vs\/ug K H a vs)/\aJ (aq α Z H) ds vs:=by
 unfold gz at h;split at h
 .cases h
  obtain⟨a,vs,rfl,_,b,c⟩:=iL r;exact⟨a,vs,rfl,.inr (wU (.inl b)),c⟩
 .obtain⟨a,vs,rfl,b,c⟩:=cH S r h
  exact⟨a,vs,rfl,.inl (lV b),c⟩
theorem AN{ds:List D}{vs:List V}{R:D->V->Prop}{i:Int}{d:D}(r:aJ R ds vs)(h:L2.kx ds i=some d):∃v,L2.kx vs i=some v/\R d v:=by
 unfold L2.kx at h ⊢;rw[r.length];cases q:L2.zF ds.length i with
 |none=>rw[q]at h;cases h
 |some n=>rw[q]at h;exact r.get h
theorem AQ(G:X.A.units+1<cLine)(l:uk b)(m:bq X κ Φ a ma)(n:bq X κ Φ b mb):bq X κ Φ (.Subscript a b pos) (m2 aN ma mb):=by
 unfold aN;rw[jh,jh];refine bq.alt ?_ (bq.alt ?_ ?_)
 .refine eF (r:=Kl X.K) (λt tb f h=>C8 xq f h l) m n λw z x y B Z C H Q S j c g=>?_
  unfold AJ at g;split at g
  .rename_i N i o
   obtain⟨p,D,rfl,h2,q⟩:=mz (K:=X.K) S j o;simp only[aq]at c;subst c;split at g
   .rename_i d s
    obtain⟨v,E,F⟩:=AN q s;rcases h2 with h2|h2
    .exact .inl ⟨p,D,i,v,rfl,rfl,h2,E,cg.ret S F g⟩
    .exact .inr (.inl ⟨p,D,i,v,rfl,rfl,h2,E,cg.ret S F g⟩)
   .exact g.elim
  .exact g.elim
 .refine eF (r:=λx y H Q=>∃a v,x=.ref a/\lS H a y (some v)/\Q v H) (λt tb f h=>z_ G f h l) m n λw z x y B Z C H Q S j c g=>?_
  unfold AK at g;split at g
  .rename_i d s
   obtain⟨a,O,rfl,o,h2,_⟩:=qY S j c s;obtain⟨u,rfl,q⟩:=h2 d rfl;exact⟨a,u,rfl,o,cg.ret S q g⟩
  .exact g.elim
 .refine eF (r:=Kl X.K) (λt tb f h=>C8 xq f h l) m n λw z x y B Z C H Q S j c g=>?_
  obtain⟨d,e,I,P,J,L,M,k⟩:=jF (bw:=false) S j c g;exact El (bw:=false) J L (eE S) M k
def ir(n:Bool)(m:EM):aR->aD->ax (Option Int):=λc b=>if n=true then .ok none b else (m c b).bind λd a=>match d with
 |.int i=>.ok (some i) a
 |_=>.bad
def ji(x:D)(a b:Option Int)(Ω:aD):ax D:=match x,dY Ω x with
 |_,some c=>jf Ω (.lst (dC c a b))
 |.str z,none=>gy Ω (xF (.str z) a b)
 |_,_=>.bad
def dg(e:EM)(f:Bool)(g:EM)(i:Bool)(j:EM):EM:=λa k=>(e a k).bind λx b=>(ir f g a b).bind λl c=>(ir i j a c).bind λh d=>ji x l h d
def Ko(X:Cx)(κ:Str->Addr->Prop)(Φ:gS)(o:Option Expr)(n:Bool)(m:EM):Prop:=(o=none/\n=true)\/∃e,o=some e/\n=false/\bq X κ Φ e m
theorem eP{o:Option Expr}{n:Bool}(h:Ko X κ Φ o n m)(g:List Addr)(r:Addr->Prop)(s:Hp)(ρ:aR)(Ω:aD):∃t,PO X o t/\∀j H b Z Q,dh κ g r s b Z Ω ρ j H ->
  (match ir n m ρ Ω with
   |.ok l aB=>∀c a f,cU b Z H a f c->bH κ a f aB c->Q l c
   |.exc x aB=>∀c a f,cU b Z H a f c->bH κ a f aB c->Φ x aB a f c
   |.bad=>False)->t j H Q:=by
 rcases h with ⟨rfl,rfl⟩|⟨e,rfl,rfl,w⟩
 .refine⟨uj,zZ,λj H b Z Q S k=>?_⟩
  exact k H b Z (cU.refl S.st.has) S.st
 .refine⟨_,z4 (w g r s ρ Ω),λj H b Z Q S k=>⟨b,Z,S,?_⟩⟩
  simp only[ir,Bool.false_eq_true,if_false]at k;rcases q:m ρ Ω with ⟨d,aB⟩|⟨x,aB⟩|_
  .rw[q]at k
   intro v y p z A B u;cases d with
   |int i=>simp only[aq]at u;exact⟨i,u,k y p z A B⟩
   |_=>exact k.elim
  .rw[q]at k;exact k
  .rw[q]at k;exact k
theorem AR{ds:List D}{vs:List V}{R:D->V->Prop}(h:aJ R ds vs)(a b:Option Int):aJ R (dC ds a b) (vJ vs a b):=by
 unfold dC vJ;rw[h.length];exact(h.drop _).take _
theorem AS{lo hi:Option Expr}{M N:Bool}{O P:EM}{p2:Pos}(y:bq X κ Φ a ma)(R:Ko X κ Φ lo M O)(z:Ko X κ Φ hi N P):bq X κ Φ (.Subscript a (.Slice lo hi none p2) pos) (dg ma M O N P):=by
 intro b e f c j;rcases q:ma c j with ⟨d,i⟩|⟨x,i⟩|_
 .obtain⟨tl,n,E⟩:=eP R b e f c i
  rcases A:ir M O c i with ⟨l,o⟩|⟨x,o⟩|_
  .obtain⟨F,m,B⟩:=eP z b e f c o
   refine PE.imp (ic (r:=Hf X.K) (jy.or mj) (y b e f c j) n m) ?_;rintro s H Q ⟨t,Z,S,g⟩;refine⟨t,Z,S,?_⟩;simp only[dg,q,A,ax.bind]at g ⊢;intro v T u U C G r1;have g:=cg.from C g
   have S1:=S.grow C G;refine E s T u U _ S1 ?_;rw[A];intro V w Y D I;have g:=cg.from D g
   have S2:=S1.grow D I;refine B s V w Y _ S2 ?_;rcases q3:ir N P c o with ⟨h,a0⟩|⟨x,a0⟩|_
   .rw[q3]at g
    intro H3 b0 Z3 g3 J;have g:=cg.from g3 g
    have r3:=I.dO g3 (G.dO D r1);dsimp only[ax.bind]at g;unfold ji at g;split at g
    .rename_i ds hd
     obtain⟨p,vs,rfl,h1,h2⟩:=cH J r3 hd;exact .inl ⟨p,vs,rfl,lV h1,fu J (AR h2 l h) g⟩
    ·
     simp only[aq]at r3;subst r3;obtain⟨c0,d,L,k⟩:=jE (bw:=false) J g;simp only[xF]at L;split at L
     .rename_i hs
      cases L;exact .inr ⟨_,rfl,bI hs,k _ H3 _ _ (fk.refl J.dom) (.rep (fT rfl))⟩
     .cases L
    .exact g.elim
   .rw[q3]at g;exact g
   .rw[q3]at g;exact g
  .obtain⟨F,m,B⟩:=eP z b e f c i
   refine PE.imp (ic (r:=Hf X.K) (jy.or mj) (y b e f c j) n m) ?_;rintro s H Q ⟨t,Z,S,g⟩;refine⟨t,Z,S,?_⟩;simp only[dg,q,A,ax.bind]at g ⊢;intro v T u U C G r1;refine E s T u U _ (S.grow C G) ?_;rw[A];intro V w Y D I;exact g V w Y (C.trans D) I
  .obtain⟨F,m,B⟩:=eP z b e f c i
   refine PE.imp (ic (r:=Hf X.K) (jy.or mj) (y b e f c j) n m) ?_;rintro s H Q ⟨t,Z,S,g⟩;simp only[dg,q,A,ax.bind]at g;exact g.elim
 .obtain⟨tl,n,E⟩:=eP R b e f c j
  obtain⟨F,m,B⟩:=eP z b e f c j;refine PE.imp (ic (r:=Hf X.K) (jy.or mj) (y b e f c j) n m) ?_;rintro s H Q ⟨t,Z,S,g⟩;refine⟨t,Z,S,?_⟩;simp only[dg,q,ax.bind]at g ⊢;exact g
 .obtain⟨tl,n,E⟩:=eP R b e f c j
  obtain⟨F,m,B⟩:=eP z b e f c j;refine PE.imp (ic (r:=Hf X.K) (jy.or mj) (y b e f c j) n m) ?_;rintro s H Q ⟨t,Z,S,g⟩;simp only[dg,q,ax.bind]at g;exact g.elim
end
theorem PE.ex{X:Cx}{e:Expr}{b:Type}{t:b->TE}(h:∀i,PE X e (t i)):PE X e (λa H Q=>∃i,t i a H Q):=λpins s a H Q I ⟨i,q⟩=>h i pins s a H Q I q
theorem PT.ex{X:Cx}{e:Expr}{b:Type}{t:b->TT}(h:∀i,PT X e (t i)):PT X e (λa H Q=>∃i,t i a H Q):=λpins s a H Q I ⟨i,q⟩=>h i pins s a H Q I q
theorem PW.ex{X:Cx}{e:Expr}{b:Type}{t:b->TT}(h:∀i,PW X e (t i)):PW X e (λa H Q=>∃i,t i a H Q):=λc pins s a H Q I ⟨i,q⟩=>h i c pins s a H Q I q
theorem PA.ex{X:Cx}{es:List Expr}{c:Type}{t:c->TA}(h:∀i,PA X es (t i)):PA X es (λa H Q=>∃i,t i a H Q):=λb pins s a H Q I ⟨i,q⟩=>h i b pins s a H Q I q
def jI(c d:EM):EM:=λb e=>(c b e).bind λx a=>match g_ a x with
 |some true=>d b a
 |some false=>.ok x a
 |none=>.bad
def rV(c d:EM):EM:=λb e=>(c b e).bind λx a=>match g_ a x with
 |some false=>d b a
 |some true=>.ok x a
 |none=>.bad
def iT(b:EM):EM:=λc d=>(cw (b c d)).bind λt a=>.ok (.bl (!t)) a
def AU(mc c d:EM):EM:=λb e=>(cw (mc b e)).bind λt a=>if t=true then c b a else d b a
section
variable{X:Cx}{κ:Str->Addr->Prop}{Φ:gS}{α α' iZ α1:List Addr}{Z Z' Z0 Z1:Addr->Prop}{Ω ai:aD}{H H' H0 H1:Hp}{ρ:aR}{σ:L2.St}{Q Q':VK}{r:ax D}{a b e ce:Expr}{rest:List Expr}{es:List Expr}{ma mb mc m:EM}{as:AM}{pos p:Pos}
theorem iu{d:D}{v:V}{t:Bool}{K:PySem.W.Frag}(S:bH κ α Z Ω H)(r:aq α Z H d v)(h:g_ Ω d=some t):qz K v H t:=by
 cases d with
 |non=>simp only[aq]at r;subst r;cases h;rfl
 |bl b=>simp only[aq]at r;subst r;cases h;rfl
 |int b=>simp only[aq]at r;subst r;cases h;rfl
 |str b=>
  simp only[aq]at r;subst r
  have n:Now Z H (.str b) (.str b):=by simp only[Now,Rep]
  exact Ek n h
 |lst ds=>
  cases h;obtain⟨a,c,rfl,f,g⟩:=cH (ds:=ds) S r rfl;refine .inl ⟨c,lV f,?_⟩;have:=g.length;cases ds<;>cases c<;>simp at this ⊢
 |tup ds=>
  cases h;obtain⟨a,c,rfl,_,f,g⟩:=iL r;refine .inr (.inl ⟨c,wU (.inl f),?_⟩);have:=g.length;cases ds<;>cases c<;>simp at this ⊢
 |dct _ _=>cases h
 |ref k=>
  simp only[g_]at h;split at h
  .rename_i ds j
   cases h;obtain⟨a,c,rfl,f,g⟩:=cH (ds:=ds) S r (by simp only[dY,j])
   refine .inl ⟨c,lV f,?_⟩;have:=g.length;cases ds<;>cases c<;>simp at this ⊢
  .rename_i l j
   cases h;simp only[aq]at r;obtain⟨a,m,rfl⟩:=r;obtain⟨o,i,e,f,g⟩:=S.cell j;rw[m]at i;cases i
   refine .inr (.inr ⟨e,f,?_⟩);have:=g.length;cases l<;>cases e<;>simp at this ⊢
  .cases h
theorem qh.use{r:ax Bool}{f:Bool->aD->ax D}{Q':Bool->Hp->Prop}(h:cg κ Φ α Z H (r.bind f) Q)(k:∀t aB,r=.ok t aB->∀b a c,cU α Z H a c b->bH κ a c aB b->cg κ Φ a c b (f t aB) Q->Q' t b):qh κ Φ α Z H r Q':=by
 cases r with
 |ok d aB=>exact λb a c g s=>k d aB rfl b a c g s (cg.from g h)
 |exc x aB=>exact h
 |bad=>exact h
theorem qh.Q9{Q:Bool->Hp->Prop}{K:PySem.W.Frag}(h:qh κ Φ α Z H (cw r) Q):cg κ Φ α Z H r (λv a=>∃t,qz K v a t/\Q t a):=by
 cases r with
 |ok d b=>
  intro v a c e g s q;simp only[cw]at h;split at h
  .rename_i t f
   exact⟨t,iu s q f,h a c e g s⟩
  .exact h.elim
 |exc x b=>exact h
 |bad=>exact h.elim
theorem AV(h:bq X κ Φ e m)(c:∀a,isTrue e X.env a=(do let v ←a;standAt e.pos;holding [v] (truthy v))):il X κ Φ e m:=by
 intro b d f i j;refine PT.imp (xi (h b d f i j) c) ?_;rintro l H Q ⟨k,Z,S,g⟩;exact⟨k,Z,S,g.Q9⟩
theorem AW(n:bq X κ Φ a ma)(o:bq X κ Φ (.BoolOp .And (b::rest) pos) mb):bq X κ Φ (.BoolOp .And (a::b::rest) pos) (jI ma mb):=by
 intro d k l m p;refine PE.imp (Ap (n d k l m p) (PE.ex λc=>o d k l m c)) ?_
 rintro t H Q ⟨q,Z,S,g⟩;refine⟨q,Z,S,cg.use g λx c _ v u h r s e i f=>?_⟩
 split at f
 .rename_i j
  exact⟨true,iu e i j,qM ⟨c,h,r,S.grow s e,f⟩⟩
 .rename_i j
  exact⟨false,iu e i j,qL (cg.ret e i f)⟩
 .exact f.elim
theorem Ep(n:bq X κ Φ a ma)(o:bq X κ Φ (.BoolOp .Or (b::rest) pos) mb):bq X κ Φ (.BoolOp .Or (a::b::rest) pos) (rV ma mb):=by
 intro d k l m p;refine PE.imp (Em (n d k l m p) (PE.ex λc=>o d k l m c)) ?_
 rintro t H Q ⟨q,Z,S,g⟩;refine⟨q,Z,S,cg.use g λx c _ v u h r s e i f=>?_⟩
 split at f
 .rename_i j
  exact⟨false,iu e i j,qL ⟨c,h,r,S.grow s e,f⟩⟩
 .rename_i j
  exact⟨true,iu e i j,qM (cg.ret e i f)⟩
 .exact f.elim
theorem v5{op:BoolOp}(c:bq X κ Φ a ma):bq X κ Φ (.BoolOp op [a] pos) ma:=λb d e f g=>DK (c b d e f g)
theorem AX(d:bq X κ Φ a ma):bq X κ Φ (.UnaryOp .Not a pos) (iT ma):=by
 intro b e f h i;refine PE.imp (Aq (d b e f h i)) ?_;rintro o H Q ⟨j,Z,S,g⟩;refine⟨j,Z,S,?_⟩;have:=qh.use (Q':=λt c=>Q (.bl (!t)) c) g λt k _ c l p q m n=>cg.ret m (bp rfl) n
 exact this.Q9
theorem AY(h:il X κ Φ a ma):il X κ Φ (.UnaryOp .Not a pos) (iT ma):=by
 intro b i j e f;refine PT.imp (DJ (h b i j e f)) ?_;rintro p H Q ⟨k,Z,S,g⟩;refine⟨k,Z,S,?_⟩;simp only[iT]at g;cases q:cw (ma e f)with
 |ok t c=>rw[q]at g;exact λl d m n o=>g l d m n o
 |exc x c=>rw[q]at g;exact g
 |bad=>rw[q]at g;exact g
def Di(X:Cx)(κ:Str->Addr->Prop)(Φ:gS)(e:Expr)(m:EM):Prop:=∀a b c d f,PW X e (MH κ Φ a b c m d f)
theorem Di.pt(h:Di X κ Φ e m):il X κ Φ e m:=λa b c d f=>(h a b c d f).pt
theorem AZ{op:BoolOp}(c:il X κ Φ a ma):Di X κ Φ (.BoolOp op [a] pos) ma:=λb d e f g=>by
 cases op with
 |And=>exact pw_and1 (c b d e f g)
 |Or=>exact pw_or1 (c b d e f g)
theorem A8(p:il X κ Φ a ma)(r:Di X κ Φ (.BoolOp .And (b::rest) pos) mb):Di X κ Φ (.BoolOp .And (a::b::rest) pos) (jI ma mb):=by
 intro e l m i n;refine PW.imp (pw_and (p e l m i n) (PW.ex λc=>r e l m i c)) ?_
 rintro t H Q ⟨s,Z,S,g⟩;refine⟨s,Z,S,?_⟩;simp only[jI]at g;cases q:ma i n with
 |ok x c=>
  rw[q]at g;dsimp only[ax.bind]at g;simp only[cw];split at g
  .rename_i f
   rw[f];exact λo d j h k=>qM ⟨c,d,j,S.grow h k,qh.from h g⟩
  .rename_i f
   rw[f];simp only[cw,f]at g;exact λo d j h k=>qL (g o d j h k)
  .exact g.elim
 |exc x c=>rw[q]at g;exact g
 |bad=>rw[q]at g;exact g.elim
theorem Er(p:il X κ Φ a ma)(r:Di X κ Φ (.BoolOp .Or (b::rest) pos) mb):Di X κ Φ (.BoolOp .Or (a::b::rest) pos) (rV ma mb):=by
 intro e l m i n;refine PW.imp (pw_or (p e l m i n) (PW.ex λc=>r e l m i c)) ?_
 rintro t H Q ⟨s,Z,S,g⟩;refine⟨s,Z,S,?_⟩;simp only[rV]at g;cases q:ma i n with
 |ok x c=>
  rw[q]at g;dsimp only[ax.bind]at g;simp only[cw];split at g
  .rename_i f
   rw[f];exact λo d j h k=>qL ⟨c,d,j,S.grow h k,qh.from h g⟩
  .rename_i f
   rw[f];simp only[cw,f]at g;exact λo d j h k=>qM (g o d j h k)
  .exact g.elim
 |exc x c=>rw[q]at g;exact g
 |bad=>rw[q]at g;exact g.elim
theorem A_(n:il X κ Φ ce mc)(o:bq X κ Φ a ma)(p:bq X κ Φ b mb):bq X κ Φ (.IfExp ce a b pos) (AU mc ma mb):=by
 intro d h i j q;refine PE.imp (w6 (n d h i j q) (PE.ex λc=>o d h i j c) (PE.ex λc=>p d h i j c)) ?_
 rintro s H Q ⟨r,Z,S,g⟩;refine⟨r,Z,S,qh.use g λt c _ u e k l m f=>?_⟩
 cases t with
 |true=>rw[if_pos rfl]at f;exact qM ⟨c,e,k,S.grow l m,f⟩
 |false=>rw[if_neg Bool.false_ne_true]at f;exact qL ⟨c,e,k,S.grow l m,f⟩
theorem Ba(r:il X κ Φ ce mc)(u:il X κ Φ a ma)(w:il X κ Φ b mb):il X κ Φ (.IfExp ce a b pos) (AU mc ma mb):=by
 intro e j k f n pins s l H Q I;rintro⟨y,Z,S,g⟩;simp only[AU]at g
 have o:MH κ Φ e j k mc f n l H (λt i=>∃c d h,dh κ e j k d h c f l i/\qh κ Φ d h i (cw (if t=true then ma f c else mb f c)) Q):=by
  refine⟨y,Z,S,?_⟩;cases q:cw (mc f n)with
  |ok t c=>
   rw[q]at g;exact λi d h p m=>⟨c,d,h,S.grow p m,qh.from p g⟩
  |exc x c=>rw[q]at g;exact g
  |bad=>rw[q]at g;exact g.elim
 refine isTrue_IfExp (cy (r e j k f n pins s l H _ I o) λv m ⟨i,I1,c,d,h,S1,k1⟩=>?_)
 cases v with
 |true=>rw[if_pos rfl]at k1;exact u e j k f c pins m l i Q I1 ⟨d,h,S1,k1⟩
 |false=>rw[if_neg Bool.false_ne_true]at k1;exact w e j k f c pins m l i Q I1 ⟨d,h,S1,k1⟩
def mE(op b:CmpOp)(g h mc:EM):EM:=λc i=>(g c i).bind λx d=>(h c d).bind λy e=>(cw (di op x y e)).bind λt a=>if t=true then (mc c a).bind λz f=>di b y z f else .ok (.bl false) a
theorem yi{op b:CmpOp}(S:dh κ iZ Z0 H0 α Z Ω ρ f H)(g:cg κ Φ α Z H (mE op b ma mb mc ρ Ω) Q) :
  sj (xK op) (xK b) (tO κ Φ iZ Z0 H0 ma ρ Ω) (λf H Q=>∃aB,tO κ Φ iZ Z0 H0 mb ρ aB f H Q) (λf H Q=>∃aB,tO κ Φ iZ Z0 H0 mc ρ aB f H Q) f H Q:=by
 refine⟨α,Z,S,cg.use g λx aB _ v P i C r j D E=>?_⟩
 refine⟨aB,i,C,S.grow r j,cg.use E λy k _ w F l G s m A c=>?_⟩
 have I:=(S.grow r j).grow s m;refine pC (op:=op) (κ:=κ) (Φ:=Φ) m (j.dO s D) A ?_;cases q:di op x y k with
 |ok d a=>
  obtain⟨t,rfl⟩:=pF _ _ _ _ _ q;intro u R n J o p B;simp only[aq]at B;refine⟨t,B,?_⟩;rw[q]at c;have e:cg κ Φ l G F (if t=true then (mc ρ a).bind λz h=>di b y z h else .ok (.bl false) a) Q:=c
  have e:=cg.from o e
  cases t with
  |true=>
   rw[if_pos rfl]at e ⊢;refine⟨a,n,J,I.grow o p,cg.use e λz h _ T U K V L M N O=>?_⟩
   exact pC M (p.dO L (m.dO o A)) N O
  |false=>
   rw[if_neg Bool.false_ne_true]at e ⊢;exact cg.ret p (bp rfl) e
 |exc x a=>rw[q]at c;exact c
 |bad=>rw[q]at c;exact c
theorem Bb{op c:CmpOp}(j:X.A.units+64<cLine)(k:lastMarks [op,c] [b,ce]=false)(l:bq X κ Φ a ma)(m:bq X κ Φ b mb)(n:bq X κ Φ ce mc):bq X κ Φ (.Compare a [op,c] [b,ce] pos) (mE op c ma mb mc):=by
 intro d f h i o;refine PE.imp (xg (j5 j op) (j5 j c) (l d f h i o) (PE.ex λe=>m d f h i e) (PE.ex λe=>n d f h i e) k) ?_
 rintro p H Q ⟨q,Z,S,g⟩;exact yi S g
theorem Es{op a:CmpOp}{d:D}{ai:aD}(h:mE op a ma mb mc ρ Ω=.ok d ai):∃t,d=.bl t:=by
 simp only[mE]at h;cases b:ma ρ Ω with
 |ok x c=>
  rw[b]at h;dsimp only[ax.bind]at h
  cases e:mb ρ c with
  |ok y f=>
   rw[e]at h;dsimp only[ax.bind]at h
   cases g:cw (di op x y f)with
   |ok t i=>
    rw[g]at h;dsimp only[ax.bind]at h
    split at h
    .cases j:mc ρ i with
     |ok z k=>rw[j]at h;exact pF _ _ _ _ _ h
     |exc _ _=>rw[j]at h;cases h
     |bad=>rw[j]at h;cases h
    .cases h;exact⟨_,rfl⟩
   |exc _ _=>rw[g]at h;cases h
   |bad=>rw[g]at h;cases h
  |exc _ _=>rw[e]at h;cases h
  |bad=>rw[e]at h;cases h
 |exc _ _=>rw[b]at h;cases h
 |bad=>rw[b]at h;cases h
theorem Bc{op c:CmpOp}(l:X.A.units+64<cLine)(o:lastMarks [op,c] [b,ce]=false)(p:bq X κ Φ a ma)(r:bq X κ Φ b mb)(s:bq X κ Φ ce mc):il X κ Φ (.Compare a [op,c] [b,ce] pos) (mE op c ma mb mc):=by
 intro f i j h m;refine PT.imp (xh (j5 l op) (j5 l c) (p f i j h m) (PE.ex λe=>r f i j h e) (PE.ex λe=>s f i j h e) o) ?_
 rintro B H Q ⟨C,Z,S,g⟩;refine yi S ?_;cases q:mE op c ma mb mc h m with
 |ok d e=>
  obtain⟨t,rfl⟩:=Es q;rw[q]at g;intro v u k w y z n;simp only[aq]at n;exact⟨t,n,g u k w y z⟩
 |exc x e=>rw[q]at g;exact g
 |bad=>rw[q]at g;exact g.elim
def cp(f:List D->Out Rs):List D->aD->ax D:=λb a=>match bJ (fA a 8) b with
 |some c=>gy a (f c)
 |none=>.bad
theorem jJ{bw:Bool}{f:List D->Out Rs}{xs:List D}{vs:List V}(S:bH κ α Z Ω H)(i:aJ (aq α Z H) xs vs)(h:cg κ Φ α Z H (cp f xs Ω) Q) :
  ∃ds a d',bb (uF α Z) H ds vs/\f ds=.ok (a,d')/\∀v b c,fk (uF α Z) H c b->eJ bw a c H b d' v->Q v b:=by
 unfold cp at h;split at h
 .rename_i ds j
  obtain⟨a,d',e,k⟩:=jE (bw:=bw) S h;exact⟨ds,a,d',ik (ft (S:=Rep (uF α Z) H) (λd d' v q r=>lr S 8 q r) j i),e,λv b c g q=>k v b _ c g q⟩
 .exact h.elim
theorem v9{k:Nat}{x:Str}{F:List D->Out Rs}(F0:Hg X k x F)(j:df k X.A)(l:Gl X x)(a:(x==("__debug__":Str))=false)
  (m:starEach (e::es) X.env=(false,eval e X.env)::starEach es X.env) (b:(backTo pos (starEach es X.env)).any (·.1)=false) (n:qk X κ Φ (e::es) as) :
  bq X κ Φ (.Call (.Name x p) (e::es) [] pos) (mN (cp F) as):=by
 obtain⟨f,O,P,o,q,r,F1⟩:=F0.ex;intro c s t u w;refine PE.imp (ui F1 j l o q r .nil kA (n c s t u w) a m b) ?_;rintro R H Q ⟨y,Z,S,g⟩;refine⟨y,Z,S,qj.use g λT z _ B C d E U i G I=>?_⟩
 show mm F (B++[]) C Q E0
 rw[List.append_nil];obtain⟨J,h,K,L,M,N⟩:=jJ (bw:=false) i G I;exact⟨uF d E,J,h,K,eE i,L,M,N⟩
end
end Mir
namespace L2
open PySem PySem.Spec PyProof.Rows PySem.W
section
variable{P:Program}{w:World}{K:PySem.W.Frag}{mg:Str->Option Value}{base:Heap}
end
end L2
namespace L2
open PySem PySem.Spec PyProof.Rows
def Hn(a:Addr)(o:Obj):It:=
 ⟨λi H=>∃b,H a=some (.dW o (.dK b))/\i<b.length,λi H x d=>d=H/\∀b,H a=some (.dW o (.dK b))->∃c,b[i]?=some c/\x=kV c.1,λi H=>∃b,H a=some (.dW o (.dK b))/\b.length<=i⟩
theorem gE{a b:Type}{F:a->b->Prop}:∀{xs:List a}{us:List b}{i:Nat}{x:a},Paired F xs us->xs[i]?=some x->∃u,us[i]?=some u/\F x u
 |_,_,_,_,.nil,e=>by simp at e
 |_,_,0,_,.cons r _,e=>by simp at e;subst e;exact⟨_,rfl,r⟩
 |_,_,i+1,x,.cons _ t,e=>by
  obtain⟨u,h1,h2⟩:=gE (i:=i) (x:=x) t (by simpa using e)
  exact⟨u,by simpa using h1,h2⟩
theorem pG{k:Key}{u:Value}{P:Program}{w:World}(h:(bP P w).is k u=true):RelV (kV k) u:=by
 rcases bW (show lL k u=true from h)with ⟨i,t,rfl,rfl⟩|⟨x,t,rfl,rfl⟩
 .exact⟨t,rfl⟩
 .exact⟨t,rfl⟩
theorem j9{P:Program}{w:World}{H:Hp}{h:Heap}{a:Addr}{o:Obj}{kvs:List (Key×V)}{es:Array DictEntry}{ep:Nat}(ok:i9 P w H h)(e:H a=some (.dW o (.dK kvs)))(c:o.data=.dict es ep) :
  ∃vs,KV kvs vs/\h.DictAt (bP P w) a vs ep/\es.size=vs.length/\(a==sysModules)=false:=by
 obtain⟨d,_,i,vs,r,p,j,k,b,l,f,m,g,n⟩:=ok a _ e;rw[d]at b;cases b
 rw[c]at f;cases f
 refine⟨vs,r,⟨o,es,d,l,c,m,g,n⟩,?_,i⟩;rw[←g.length];simp
theorem v_{P:Program}{w:World}{K:PySem.W.Frag}{U:Expr}(a it:Addr){o:Obj}{es:Array DictEntry}{ep:Nat}(O:o.data=.dict es ep):Turn P w K U (Hn a o) [it] it (λi h=>h.IsKeyIter it a i es.size ep) where
 mem:=by simp
 obj:=λi h f b j=>by
  have e:b=it:=by simpa using j
  subst e;obtain⟨o,e,c,d⟩:=f;exact⟨o,e,λv z=>by rw[d]at z;cases z⟩
 keep:=λi h p f k=>by
  obtain⟨o,e,c,d⟩:=f;exact⟨o,k it (by simp) o e,c,d⟩
 item:=by
  intro X y A B Q i pins s R H E I t f C;subst y A B;obtain⟨g,u,S⟩:=C;obtain⟨V,r,D,x,_⟩:=j9 I.hok u O;have l:g[i]?=some g[i]:=List.getElem?_eq_getElem S;obtain⟨q,Y,Z⟩:=gE r l;obtain⟨F,G,f2,J,L,M⟩:=t it (by simp)
  rw[x]at f;refine wpAny_pyNext_dict_item f D (k:=q.1) (v:=q.2) Y λN p hk m sb=>?_
  have I1:Inv X pins R H {s with heap:=p}:=I.turned (t':=s.toks) (λb o j e=>(sb.2 b j).trans e) F G J L M
  obtain⟨o1,e1,c1,d1⟩:=id m;refine⟨N,rfl,qy (s:={s with heap:=p}) e1 c1 d1 (by decide) ⟨kV q.1,H,I1,pG hk,⟨rfl,λT n=>?_⟩,by rw[x];exact m,λb j=>(t b j).1⟩⟩
  rw[u]at n;cases n
  exact⟨g[i],l,by rw[Z.1]⟩
 done:=by
  intro X y A B Q i pins s R H E I t f C;subst y A B;obtain⟨g,u,S⟩:=C;obtain⟨V,r,D,x,_⟩:=j9 I.hok u O;obtain⟨F,G,f2,J,L,M⟩:=t it (by simp)
  have hl:=r.length;rw[x]at f;exact wpAny_pyNext_dict_end (I.ok.hd Q) f D (List.getElem?_eq_none (by omega)) λp eb=>⟨rfl,I.turned (t':=s.toks) (λb o j e=>eb b o j e) F G J L M⟩
 self:=λ_ _ _ _ _ f h=>wpAny_pyIter_keyiter f h
section
variable{X:Cx}{pins:List (Addr×Obj)}{σ:St}{H:Hp}{s:Shared}
theorem Inv.uJ{a:Addr}{kvs:List (Key×V)}(I:Inv X pins σ H s)(e:H a=some (.dK kvs)):∃o es ep,s.heap.get? a=some o/\o.data=.dict es ep/\Inv X pins σ (upd H a (.dW o (.dK kvs))) s:=by
 obtain⟨z,d,f,r,o,es,ep,b,g,c,h,i,j⟩:=I.hok a _ e;refine⟨o,es,ep,b,c,?_⟩;have:=pe (t':=s.toks) (h':=s.heap) (ob:=.dW o (.dK kvs)) I (by rw[e];exact True.intro) ⟨rfl,λ_ _=>rfl⟩ ⟨o,b⟩ ⟨b,z,d,f,r,o,es,ep,b,g,c,h,i,j⟩
 exact this
def Ho(R:It->Hp->Prop)(x:V)(c:Hp):Prop:=∃a b,x=.ref a/\((c a=some (.dK b)/\∀o,R (Hn a o) (upd c a (.dW o (.dK b))))\/∃o,c a=some (.dW o (.dK b))/\R (Hn a o) c)
theorem Bd{p:Expr}{x:V}{u:Value}{R:It->Hp->Prop}(l:Inv X pins σ H s)(B:RelV x u)(q:Ho R x H):wpAny (model X.prog X.w) X.A (pyIter u) (PIE X pins σ p R) X.xe s:=by
 obtain⟨a,m,rfl,q⟩:=q;cases (show u=Value.ref a from B)
 have c:∀(o:Obj) (e:Array DictEntry) (d:Nat) (f:Hp),Inv X pins σ f s->f a=some (.dW o (.dK m))->o.data=.dict e d->R (Hn a o) f->wpAny (model X.prog X.w) X.A (pyIter (.ref a)) (PIE X pins σ p R) X.xe s:=by
  intro o e d f g C j h;obtain⟨n,r,D,E,t⟩:=j9 g.hok C j;refine wpAny_pyIter_dict t D ?_;have F:Inv X pins σ f {s with heap:=s.heap.push {cls:=.type "dict_keyiterator",data:=.fields #[.ref a,.int 0 0,.int n.length 0,.int d 0]} }:=g.kept (t':=s.toks) λb o q=>Heap.get?_push_of_some _ q
  refine⟨s.heap.objs.size,[s.heap.objs.size],_,_,f,rfl,F,v_ a _ j,?_,λb G=>?_,h⟩
  .rw[E]
   exact⟨{cls:=.type "dict_keyiterator",data:=.fields #[.ref a,.int 0 0,.int n.length 0,.int d 0]},Heap.get?_push_size _ rfl,rfl,rfl⟩
  .have z:b=s.heap.objs.size:=by simpa using G
   rw[z];have:=g.xa (b:=s.heap.objs.size) (Nat.le_refl _) (g.hok.fresh (Nat.le_refl _));exact this
 rcases q with ⟨k,h⟩|⟨o,k,h⟩
 .obtain⟨o,e,d,y,j,g⟩:=l.uJ k
  exact c o e d _ g ba j (h o)
 .obtain⟨y,_,t,n,r,J,e,d,i,K,I,L⟩:=l.hok a _ k
  rw[y]at i;cases i
  exact c o e d _ l k I h
end
section
variable{prog:Program}{w:World}{A:Around}{E:Value->Shared->Prop}{s:Shared}
theorem wa{a:Addr}{Q:Bool->Shared->Prop}(e:s.TypeIs (.ref a) "dict")(h:Q false s):wpAny (model prog w) A (Builtin.List.listLengthHint (.ref a)) Q E s:=by
 unfold Builtin.List.listLengthHint;refine wpAny_bind (wpAny_specialOf e F.slot_dict_len.lookup ?_);generalize d:("dict.__len__":String)=f
 wp_delta
 rw[show splitId f=some ("dict","__len__")from by subst d;decide +kernel]
 subst d;refine wpAny_bind (wpAny_isInstance (T:="dict") (b:=true) e isSubtype_dict_dict ?_);refine wpAny_ite_split (λc=>absurd c (by decide)) (λ_=>?_)
 refine wpAny_ite_split (λ_=>?_) (λc=>absurd (by decide +kernel) c)
 refine wpAny_bind (wpAny_typeOf e ?_);exact wpAny_pure h
theorem pH{a:Addr}{o:Obj}{xs:Array Value}{k:Nat}{Q:Option Value->Shared->Prop}(m:s.heap.get? a=some o)(n:o.cls=.type "list")(f:o.data=.seq xs k)(p:o.dict=none)(t:A.handled=none)
  (h:∀h' q,(∀b o,s.heap.get? b=some o->h'.get? b=some o)->Q none {s with heap:=h',toks:=q}):wpAny (model prog w) A (getAttr? (.ref a) "keys") Q E s:=by
 obtain⟨c,u,x,y⟩:=o;simp only at n f p;subst n f p;obtain⟨z,g,d,q,B⟩:=s;have r:∀j,(⟨z,g,d,j,B⟩:Shared).TypeIs (.ref a) "list":=λ_=>⟨_,m,rfl⟩
 have C:=sub_AttributeError;have D:=F.slot_list_getattribute.lookup;have G:=F.slot_list_getattribute.bind (.ref a);have H:=am_list_getattr_none;have i:typeLookup (.type "list") "keys"=pure none:=am_miss_of_fast (by kernel_rfl)
 unfold getAttr? getAttrBy? getAttrBy
 repeat (any_goals (first|assumption|exact r _ | ((with_reducible show wpAny _ _ (call (Value.builtin "list.__getattribute__") _ _) _ _ _);refine call_meets F.slot_list_getattribute (r _) am_entry_list_getattribute (F.args_list_getattribute_2 _ _) (meets_getattribute_miss_list a xs k y "keys" _ i (by decide) (by decide)) ⟨m,t,λh' j e l=>?_⟩)|wp_step))
 obtain⟨I,J,K⟩:=l.there
 show wpAny _ _ (getattributeRaised _ _ _ _ _ _ _) _ _ _
 unfold getattributeRaised
 repeat (any_goals (first|assumption|wp_step))
 exact h _ _ λb o e=>l.keeps b o e
theorem dk:plainId "dict.update.loop"=true:=by decide +kernel
theorem fF:entryFor table "dict.update.loop"=some Builtin.«dict.update.loop» := entryFor_of_fast (by kernel_rfl)
variable{K:Type}[DecidableEq K]{knd:KeyKind prog w K}
theorem mF{c d:Type}{F G:c->d->Prop}(h:∀a b,F a b->G a b):∀{xs:List c}{us:List d},Paired F xs us->Paired G xs us
 |_,_,.nil=>.nil
 |_,_,.cons r t=>.cons (h _ _ r) (mF h t)
def mG(knd:KeyKind prog w K)(h:Heap)(p:K×Value)(u:Value):Prop:=∃b o a n,u=.ref b/\h.get? b=some o/\o.cls=.type "tuple"/\o.data=.seq #[a,p.2] n/\knd.is p.1 a=true
theorem qZ{R:Result->Shared->Prop}{l it d:Addr}{items:List Value}{h₀:Heap}(hh:A.handled=none)(h:d≠it)(E:l≠d)(F:l≠it)(hl:h₀.IsList l items.toArray)(j:Value)(S:∀o,h₀.get? d=some o->o.cls≠.type "tuple")(U:∀o,h₀.get? it=some o->o.cls≠.type "tuple") :
  ∀(ps:List (K×Value)) (i:Nat) (t:Tok) (s:Shared) (c:List (K×Value)),Paired (mG knd h₀) ps (items.drop i)->c.length+ps.length<=sizeLine->(∀b o,b≠d->b≠it->h₀.get? b=some o->s.heap.get? b=some o)->s.heap.IsListIter it l i->s.heap.DictOf knd d c ->
  (∀h' V,(∀b o,b≠d->b≠it->s.heap.get? b=some o->h'.get? b=some o)->h'.DictOf knd d (ps.foldl (λa p=>stored a p.1 p.2) c)->R (.ok (.ret j)) {s with heap:=h',toks:=V}) ->
  codeAny (model prog w) A (.builtin "dict.update.loop" ⟨[.ref d,.ref it,.int i t,j],[]⟩) R s:=by
 intro ps
 induction ps with
 |nil=>
  intro i t s c G X H k Y Z;refine codeAny_builtin fF ?_;rw[Around.under_plainId dk _];have D:items.drop i=[]:=by generalize items.drop i=q at G;cases G;rfl
  have m:s.heap.IsList l items.toArray:=let ⟨o,y,r⟩:=hl;⟨o,H l o E F y,r⟩
  show wpAny _ A.in1 (pyNext (.ref it) >>= _) _ _ s
  refine wpAny_bind (wpAny_pyNext_list_end hh k m (by simpa using List.drop_eq_nil_iff.mp D) λh' eb=>?_)
  show wpAny _ _ (Builtin.Dict.addKeywords d [] >>= _) _ _ _
  exact wpAny_bind (wpAny_pure (wpAny_pure (Z h' s.toks (λb o _ Q e=>eb b o Q e) (Y.extBut eb h))))
 |cons p ps ih=>
  intro i t s c G X H k Y Z
  have D:∃u r,items.drop i=u::r/\mG knd h₀ p u/\Paired (mG knd h₀) ps r:=by
   generalize items.drop i=q at G;cases G with|cons a b=>exact⟨_,_,rfl,a,b⟩
  obtain⟨u,r,D,⟨b,o,I,n,rfl,y,hc,J,L⟩,a0⟩:=D
  have hi:items[i]?=some (.ref b):=by
   have:=congrArg (·[0]?) D;simpa using this
  have hr:items.drop (i+1)=r:=by rw[←List.drop_drop,D];rfl
  have m:s.heap.IsList l items.toArray:=let ⟨o,y,r⟩:=hl;⟨o,H l o E F y,r⟩
  have b0:b≠d:=λe=>S o (e▸y) hc
  have M:b≠it:=λe=>U o (e▸y) hc
  refine codeAny_builtin fF ?_;rw[Around.under_plainId dk _]
  show wpAny _ A.in1 (pyNext (.ref it) >>= _) _ _ s
  refine wpAny_bind (wpAny_pyNext_list_item k m (x:=.ref b) (by simpa using hi) λh1 N z=>?_)
  have O:h1.get? b=some o:=(z.2 b M).trans (H b o b0 M y);have c0:h1.DictOf knd d c:=Y.extBut z.extBut h;refine wpAny_bind (wpAny_holding (wpAny_bind (wpAny_tryCatch ?_)));unfold Builtin.Dict.pairItems;refine wpAny_bind (wpAny_typeOf (T:="tuple") ⟨o,O,hc⟩ ?_);rw[if_pos (by decide)]
  unfold seqItems?;refine wpAny_bind (wpAny_bind (wpAny_load O ?_));rw[J];refine wpAny_pure (wpAny_pure ?_)
  show wpAny _ _ (holding [I,p.2] (dictSet d I p.2)) _ _ _
  refine wpAny_holding (wpAny_dictSet_pairs L c0 (λQ e0 P=>?_) (by simp at X;omega))
  refine wpAny_pure ⟨plainId_quiet dk _,?_⟩;have keep:∀f g,f≠d->f≠it->s.heap.get? f=some g->Q.get? f=some g:=λf g B C e=>(P.2 f B).trans ((z.2 f C).trans e)
  show codeAny _ _ (.builtin "dict.update.loop" ⟨[.ref d,.ref it,rawInt ((i:Int)+1),j],[]⟩) _ _
  have:=ih (i+1) 0 {s with heap:=Q,toks:=s.toks+1} (stored c p.1 p.2) (by rw[hr];exact a0) (by have:=stored_length_le c p.1 p.2;simp at X;omega) (λf g B C e=>keep f g B C (H f g B C e)) (N.at λo e=>(P.2 it (Ne.symm h)).trans e) e0 (λh' V f0 g0=>Z h' V (λf g B C e=>f0 f g B C (keep f g B C e)) g0)
  exact this
theorem mH{l:Addr}{o:Obj}{items:List Value}{n:Nat}{ps:List (K×Value)}{Q:Value->Shared->Prop}(X:A.handled=none)(Y:s.heap.get? l=some o)(N:o.cls=.type "list")(g:o.data=.seq items.toArray n)(hd:o.dict=none)(hp:Paired (mG knd s.heap) ps items)(hsz:ps.length<=sizeLine)
  (h:∀h' I,(∀b o,s.heap.get? b=some o->h'.get? b=some o)->h'.DictOf knd s.heap.objs.size (ps.foldl (λa p=>stored a p.1 p.2) [])->Q (.ref s.heap.objs.size) {s with heap:=h',toks:=I}) :
  wpAny (model prog w) A (call (.type "dict") [.ref l]) Q E s:=by
 refine callType_codes (Q₁:=λt i=>t=.ref s.heap.objs.size/\i={s with heap:=s.heap.push {cls:=.type "dict",data:=.dict #[]} }) F.kt_called_dict (F.kt_typeCall_dict_1 _) F.entry_dict_init (kt_code_dict_new _ ⟨rfl,rfl⟩) ?_
 rintro t i ⟨rfl,rfl⟩;have c:(s.heap.push {cls:=.type "dict",data:=.dict #[]}).DictOf knd s.heap.objs.size []:=Heap.DictOf.new s.heap;have j:=Heap.get?_push_of_some {cls:=.type "dict",data:=.dict #[]} Y;refine⟨c.typeIs,F.args_dict_init_2 _ _,?_⟩;unfold Builtin.«dict.__init__»;refine wpAny_bind ?_;unfold Builtin.Dict.selfAndRest;refine wpAny_bind (wpAny_notOrdered_dict c.typeIs ?_)
 show wpAny _ _ (pure (s.heap.objs.size,[Value.ref l])) _ _ _
 refine wpAny_pure ?_
 show wpAny _ _ (Builtin.Dict.updateFrom "dict.__init__" s.heap.objs.size (.ref l) [] .none) _ _ _
 unfold Builtin.Dict.updateFrom;refine wpAny_bind (wpAny_typeOf (T:="list") ⟨o,j,N⟩ ?_);rw[if_pos (by decide)]
 refine wpAny_bind (pH (A:=A.in1.in1) j N g hd X λf I O=>?_)
 rw[if_pos (by decide)]
 refine wpAny_bind (wpAny_rule ?_);have x:f.IsList l items.toArray:=⟨o,O l o j,N,n,g⟩;refine wpAny_bind (wpAny_pyIter_list (s:={s with heap:=f,toks:=I}) x ?_);refine wpAny_pure ⟨plainId_quiet dk _,?_⟩;have Z:∀b o,s.heap.get? b=some o->f.get? b=some o:=λb o e=>O b o (Heap.get?_push_of_some _ e)
 have y:f.DictOf knd s.heap.objs.size []:=let ⟨o,J,L,e,r⟩:=c;⟨o,J,L,O _ o e,r⟩
 have k:s.heap.objs.size<f.objs.size:=let ⟨o,_,_,e,_⟩:=y;Heap.lt_size e
 have z:l<s.heap.objs.size:=Heap.lt_size Y;generalize hq:f.push {cls:=Value.type "list_iterator",data:=.fields #[.ref l,.int 0 0]}=B;have M:∀b o,f.get? b=some o->B.get? b=some o:=λb o e=>by rw[←hq];exact Heap.get?_push_of_some _ e
 have C:B.IsListIter f.objs.size l 0:=by rw[←hq];exact⟨_,Heap.get?_push_size _ rfl,rfl,rfl⟩
 have D:B.DictOf knd s.heap.objs.size []:=let ⟨o,J,L,e,r⟩:=y;⟨o,J,L,M _ o e,r⟩
 have m:=qZ (A:=A.in1) (R:=wants (λr G=>r=Value.none/\Q (Value.ref s.heap.objs.size) G) E) (knd:=knd) (h₀:=B) (l:=l) (it:=f.objs.size) (d:=s.heap.objs.size) (items:=items) X (Nat.ne_of_lt k) (Nat.ne_of_lt z) (Nat.ne_of_lt (Nat.lt_trans z k))
  (let ⟨o,e,r⟩:=x;⟨o,M _ o e,r⟩) .none (λo e=>by
   obtain⟨o',J,L,H,q,_⟩:=D;rw[e]at H;cases H
   rw[q.1];decide) (λo e=>by
   obtain⟨o',H,q,_⟩:=C;rw[e]at H;cases H
   rw[q];decide) ps 0 0 {s with heap:=B,toks:=I} [] (by
   rw[List.drop_zero]
   exact mF (λp u P=>by
    obtain⟨b,o,m,n,e1,e2,r⟩:=P;exact⟨b,o,m,n,e1,M _ _ (Z _ _ e2),r⟩) hp) (by simpa using hsz) (λb o _ _ e=>e) C D (λh' S U V=>?_)
 .exact m
 .refine⟨rfl,h h' S (λb o e=>U b o ?_ ?_ (M _ _ (Z _ _ e))) V⟩
  .exact Nat.ne_of_lt (Heap.lt_size e)
  .exact Nat.ne_of_lt (Nat.lt_trans (Heap.lt_size e) k)
theorem mJ{a:Addr}{kvs:List (K×Value)}{ep:Nat}{Q:Value->Shared->Prop}(hh:A.handled=none)(lo:(a==sysModules)=false)(da:s.heap.DictAt knd a kvs ep)(hn:kvs.length<=sizeLine)
  (hQ:∀h' tk f M,(∀b o,s.heap.get? b=some o->h'.get? b=some o)->h'.get? s.heap.objs.size=some {cls:=.type "list",dict:=none,data:=.seq f M,slots := #[]}->ItemsOf (λi v=>∃k x,kvs[i]?=some (k,x)/\knd.is k v=true) f kvs.length->Q (.ref s.heap.objs.size) {s with heap:=h',toks:=tk}) :
  wpAny (model prog w) A (call (.type "list") [.ref a]) Q E s:=by
 refine callType_codes (Q₁:=λu m=>u=.ref s.heap.objs.size/\m={s with heap:=s.heap.push {cls:=.type "list",data:=.seq #[]} }) F.called_list (F.typeCall_list_1 _) F.entry_list_init
  (code_list_new _ ⟨rfl,rfl⟩) λu m y=>?_
 obtain⟨rfl,rfl⟩:=y;generalize d:s.heap.objs.size=S;have I:(s.heap.push {cls:=.type "list",data:=.seq #[]}).get? S=some {cls:=.type "list",data:=.seq #[]}:=by rw[←d];exact Heap.get?_push_size _ rfl
 refine⟨⟨_,I,rfl⟩,F.args_list_init_2 _ _,?_⟩
 show wpAny _ A.in1.in1 (do let N ←Builtin.List.listItems (.ref S);Builtin.List.listUpdate (.ref S) (λ_=>#[]);letGo N.toList.reverse;Builtin.List.listExtendWith (.ref S) (.ref a) .none) _ _ _
 refine wpAny_bind ?_;unfold Builtin.List.listItems;refine wpAny_bind (wpAny_seqItems I rfl (wpAny_pure ?_))
 show wpAny _ _ (updateSeq S (λ_=>#[]) >>= λ_=>letGo (#[]:Array Value).toList.reverse >>= λ_=>Builtin.List.listExtendWith (.ref S) (.ref a) .none) _ _ _
 refine wpAny_bind (wpAny_updateSeq I rfl ?_);have c:=Heap.get?_update_self (Obj.mapSeq (λ_=>(#[]:Array Value))) I rfl
 have n:S≠a:=λe=>by
  obtain⟨o,es,p,_⟩:=da;exact Nat.lt_irrefl _ ((e▸d)▸Heap.lt_size p)
 refine wpAny_bind (wpAny_letGo ?_);generalize O:(s.heap.push {cls:=.type "list",data:=.seq #[]}).update S (Obj.mapSeq (λ_=>(#[]:Array Value)))=g at c
 have k1:∀b o,s.heap.get? b=some o->g.get? b=some o:=λb o e=>by
  rw[←O];exact(Heap.get?_update_other _ _ (λz=>Nat.lt_irrefl _ ((z▸d)▸Heap.lt_size e))).trans (Heap.get?_push_of_some _ e)
 have l:g.DictAt knd a kvs ep:=da.at' λo e=>k1 a o e
 have P:({s with heap:=g}:Shared).TypeIs (.ref a) "dict":=let ⟨o,_,p,R,_⟩:=l;⟨o,p,R.1⟩
 show wpAny _ _ (Builtin.List.listExtendWith (.ref S) (.ref a) .none) _ _ {s with heap:=g}
 unfold Builtin.List.listExtendWith;refine wpAny_bind (wpAny_typeOf P ?_);have T:Builtin.List.listSameRef (.ref S) (.ref a)=false:=by simp[Builtin.List.listSameRef,n]
 have U:(Value.type "dict"==Value.type "list")=false:=by decide
 have V:(Value.type "dict"==Value.type "tuple")=false:=by decide
 simp only[T,U,V,Bool.or_false,Bool.false_eq_true,if_false];refine wpAny_bind (wpAny_pyIter_dict lo l ?_);generalize B:g.push {cls:=.type "dict_keyiterator",data:=.fields #[.ref a,.int 0 0,.int kvs.length 0,.int ep 0]}=q;have J:∀b o,g.get? b=some o->q.get? b=some o:=λb o e=>by rw[←B];exact Heap.get?_push_of_some _ e
 have X:q.IsKeyIter g.objs.size a 0 kvs.length ep:=by rw[←B];exact⟨_,Heap.get?_push_size _ rfl,rfl,rfl⟩
 have C:q.DictAt knd a kvs ep:=l.at' λo e=>J a o e
 have Y:({s with heap:=q}:Shared).TypeIs (.ref a) "dict":=let ⟨o,_,p,R,_⟩:=C;⟨o,p,R.1⟩
 refine wpAny_bind (wpAny_holding (wa (s:={s with heap:=q}) Y ?_));refine wpAny_ite_split (λ_=>?_) (λZ=>absurd (by decide) Z)
 refine wpAny_bind (wpAny_rule ?_);refine wpAny_bind ?_
 show wpAny _ _ (updateSeq S (·.push .none) >>= λ_=>updateSeq S (·.pop)) _ _ _
 refine wpAny_bind (wpAny_updateSeq (J _ _ c) rfl ?_);have h:=Heap.get?_update_self (Obj.mapSeq (·.push Value.none)) (J _ _ c) rfl;refine wpAny_updateSeq (hz:=by seq_fits) h rfl ?_
 have j:=Heap.get?_update_self (Obj.mapSeq (·.pop)) h rfl;refine wpAny_pure ⟨plainId_quiet F.plain_extend_loop _,?_⟩;generalize a0:(q.update S (Obj.mapSeq (·.push Value.none))).update S (Obj.mapSeq (·.pop))=h3 at j
 have k3:∀b o,b≠S->q.get? b=some o->h3.get? b=some o:=λb o r e=>by
  rw[←a0];exact(Heap.get?_update_other _ _ (Ne.symm r)).trans ((Heap.get?_update_other _ _ (Ne.symm r)).trans e)
 have b0:a<g.objs.size:=let ⟨o,_,p,_⟩:=l;Heap.lt_size p
 have t:S<g.objs.size:=Heap.lt_size c;have W:=(Walks.dictKeys (prog:=prog) (w:=w) (A:=A.in1.in1) (knd:=knd) hh g.objs.size a (Nat.ne_of_lt b0) kvs ep).toS;refine codeAny_extend_loopS W hn S (λL=>?_) .none kvs.length 0 _ #[] _ rfl (Nat.zero_le _) ⟨X.at λo e=>k3 _ o (Ne.symm (Nat.ne_of_lt t)) e,C.at' λo e=>k3 _ o (Ne.symm n) e⟩ j (ItemsOf.nil _) λs' f M L D G=>?_
 .rcases List.mem_cons.mp L with e|e
  .exact Nat.ne_of_lt t e
  .exact n (by simpa using e)
 .rw[Moved.eq_with L]at D ⊢
  refine⟨rfl,?_⟩;have:=hQ s'.heap s'.toks f M (λb o e=>L.heap b o (λH=>?_) (k3 _ _ (λz=>Nat.lt_irrefl _ ((z▸d)▸Heap.lt_size e)) (J _ _ (k1 _ _ e)))) (by rw[d];exact D) G
  .rw[d]at this;exact this
  .have r:=Heap.lt_size e
   rcases List.mem_cons.mp H with e' |e'
   .rw[e',←d]at r;exact Nat.lt_irrefl _ r
   .have e':b=g.objs.size:=by simpa using e'
    rw[e',d]at r;exact Nat.lt_irrefl _ (Nat.lt_trans r t)
end
section
variable{X:Cx}
theorem Be{vs:List V}{c:Array Value}{P:Nat->Value->Prop}(h:ItemsOf P c vs.length)(j:∀(i:Nat) (u:Value) (v:V),P i u->vs[i]?=some v->RelV v u):Vals vs c.toList:=by
 have d:∀(l:List Value) (vs:List V),l.length=vs.length->(∀(i:Nat) (u:Value) (v:V),l[i]?=some u->vs[i]?=some v->RelV v u)->Vals vs l:=by
  intro l
  induction l with
  |nil=>intro vs h _;cases vs with|nil=>exact .nil|cons a b=>simp at h
  |cons u l k=>
   intro vs h g;cases vs with
   |nil=>simp at h
   |cons v vs=>exact .cons (g 0 u v rfl rfl) (k vs (by simpa using h) λi m n e f=>g (i+1) m n (by simpa using e) (by simpa using f))
 exact d _ _ (by rw[Array.length_toList,h.1]) λi u v e f=>j i u v (h.2 i u (by simpa using e)) f
theorem sW(n:X.calm=true):fj X (.type "list") (λxs H Q=>∃a kvs,xs=[V.ref a]/\Rd H a (.dK kvs)/\∀l,H l=none->Q (.ref l) (upd H l (.lst (kvs.map λb=>kV b.1)))):=by
 intro pins s S H xs T Q I r h;obtain⟨a,kvs,rfl,p,q⟩:=h;obtain⟨u,rfl,t⟩:=vals1 r;cases t;obtain⟨z,y,g,d,A⟩:=jz I.hok p;obtain⟨o,B,ep,d1,d2,d3,d4⟩:=A;have C:=d.length;refine mJ (knd:=bP X.prog X.w) (kvs:=g) (ep:=ep) (I.ok.hd n) y ⟨o,B,d1,d2,d3,d4⟩ (by omega) λD U c E F e G=>?_
 have J:Vals (kvs.map λb=>kV b.1) c.toList:=Be (P:=λi v=>∃k x,g[i]?=some (k,x)/\(bP X.prog X.w).is k v=true) (by rw[List.length_map,←C]at *;exact G) λi u v K f=>by
  obtain⟨k,x,L,M⟩:=K
  have N:∃b,kvs[i]?=some b/\v=kV b.1:=by
   rw[List.getElem?_map]at f;cases j:kvs[i]? with
   |none=>rw[j]at f;cases f
   |some b=>rw[j]at f;cases f;exact⟨b,rfl,rfl⟩
  obtain⟨b,O,rfl⟩:=N;obtain⟨Y,m,R⟩:=gE d O;rw[L]at m;cases m
  rw[R.1];exact pG M
 exact⟨.ref s.heap.objs.size,_,I.laid F (Nat.le_refl _) (show cq X.prog X.w _ D _ (.lst _)from⟨by simpa using z,c.toList,E,J,by simpa using e⟩),rfl,q _ (I.hok.fresh (Nat.le_refl _))⟩
theorem sX:fj X (.type "dict") (λxs H Q=>∃a kvs,xs=[V.ref a]/\Rd H a (.dK kvs)/\∀l,H l=none->Q (.ref l) (upd H l (.dK kvs))):=by
 intro pins s t H xs x Q I r h;obtain⟨a,kvs,rfl,i,q⟩:=h;obtain⟨u,rfl,j⟩:=vals1 r;cases j;obtain⟨z,k,y,c,m⟩:=jz I.hok i;have A:=c.length;refine kt_call_dict (knd:=bP X.prog X.w) k m (by omega) λn d p=>?_
 have f:∀b o,s.heap.get? b=some o->n.get? b=some o:=λb o e=>(p.2 b (Nat.ne_of_lt (Heap.lt_size e))).trans (Heap.get?_push_of_some _ e)
 have g:(s.heap.objs.size==sysModules)=false:=beq_eq_false_iff_ne.mpr (Ne.symm (Nat.ne_of_lt I.big));exact⟨.ref s.heap.objs.size,_,I.laid (t':=s.toks) f (Nat.le_refl _) (pf z g c d),rfl,q _ (I.hok.fresh (Nat.le_refl _))⟩
theorem sY(L:X.calm=true):fj X (.type "dict") (λxs H Q=>∃a ys ps,xs=[V.ref a]/\Rd H a (.lst ys)/\Paired (λ(p:Key×V) (y:V)=>∃b,y=.ref b/\Rd H b (.tup [kV p.1,p.2])) ps ys/\∀l,H l=none->Q (.ref l) (upd H l (.dK (ps.foldl (λa p=>putK a p.1 p.2) [])))):=by
 intro pins s σ H xs M Q I r h;obtain⟨a,ys,ps,rfl,N,x,q⟩:=h;obtain⟨u,rfl,B⟩:=vals1 r;cases B;obtain⟨e,g,⟨o,n,O,C,D,j⟩,hz⟩:=I.list (.inl N)
 have E:∀{ps:List (Key×V)}{ys:List V}{e:List Value},Paired (λ(p:Key×V) (y:V)=>∃b,y=.ref b/\Rd H b (.tup [kV p.1,p.2])) ps ys->Vals ys e->∃f,KV ps f/\Paired (mG (bP X.prog X.w) s.heap) f e:=by
  intro ps ys e x g
  induction x generalizing e with
  |nil=>cases g;exact⟨[],.nil,.nil⟩
  |@cons p y ps ys z _ k=>
   cases g with
   |@cons _ u _ M B g=>
    obtain⟨f,i,A⟩:=k g;obtain⟨b,rfl,P⟩:=z;cases (show u=Value.ref b from B)
    obtain⟨_,J,m,R,S,T,U,Y⟩:=(show cq X.prog X.w H s.heap b (.tup [kV p.1,p.2])from C_ I.hok P)
    cases m with
    |@cons _ Z _ r1 rk m=>
     cases m with
     |@cons _ v' _ r2 F m=>
      cases m with
      |nil=>exact⟨(p.1,v')::f,.cons ⟨rfl,F⟩ i,.cons ⟨b,R,Z,U,rfl,S,T,Y,n8 rk⟩ A⟩
 obtain⟨f,i,A⟩:=E x g;have hl:=i.length;have a0:=Paired.length x;refine mH (knd:=bP X.prog X.w) (I.ok.hd L) O C j D A (by omega) λh' tk kp dd=>?_
 have hf:∀{ps:List (Key×V)}{f:List (Key×Value)} (c:List (Key×V)) (d:List (Key×Value)),KV c d->KV ps f->KV (ps.foldl (λa p=>putK a p.1 p.2) c) (f.foldl (λa p=>stored a p.1 p.2) d):=by
  intro ps f c d K r
  induction r generalizing c d with
  |nil=>exact K
  |@cons p q ps f z _ k=>
   simp only[List.foldl_cons];refine k _ _ ?_;rw[←z.1];exact K.put p.1 z.2
 have t:∀(ps:List (Key×V)) (c:List (Key×V)),(ps.foldl (λa p=>putK a p.1 p.2) c).length<=c.length+ps.length:=by
  intro ps
  induction ps with
  |nil=>intro c;simp
  |cons p ps k=>
   intro c;have i:=k (putK c p.1 p.2);have A:=kz c p.1 p.2;simp only[List.foldl_cons,List.length_cons]at i ⊢;omega
 have G:(ps.foldl (λa p=>putK a p.1 p.2) []).length<=sizeLine:=by
  have:=t ps [];simp at this;omega
 exact⟨.ref s.heap.objs.size,_,I.laid kp (Nat.le_refl _) (pf G (beq_eq_false_iff_ne.mpr (Ne.symm (Nat.ne_of_lt I.big))) (hf _ _ .nil i) dd),rfl,q _ (I.hok.fresh (Nat.le_refl _))⟩
end
end L2
namespace Mir
open PySem PySem.Spec PyProof.Rows L2
section
variable{X:Cx}{tg e:Expr}
def Hq(K:PySem.W.Frag)(tl:TE):TI:=λd H R=>tl d H λx b=>(∃a c,x=.ref a/\Rd b a (.lst c)/\R (Mo K a) b)\/(∃a c,x=.ref a/\Rd b a (.tup c)/\R (Mp K a) b)\/(∃y,x=.str y/\R (Q4 y) b)\/Ho R x b
theorem Bf{tl:TE}(m:PE X e tl):PI X tg e (Hq X.K tl):=by
 intro pins s n H R I h;refine cy (m pins s n H _ I h) λv c ⟨x,g,d,i,p⟩=>?_
 have j:∀b∈[c.heap.objs.size],nE X pins g b:=λb r=>by
  obtain rfl:b=c.heap.objs.size:=by simpa using r
  exact d.xa (Nat.le_refl _) (d.hok.fresh (Nat.le_refl _))
 rcases p with ⟨a,u,rfl,k,q⟩|⟨a,u,rfl,k,q⟩|⟨y,rfl,q⟩|q
 .cases i
  obtain⟨f,w,l,z⟩:=d.list (lV (K:=X.K) k);refine wpAny_pyIter_list l.isList ?_;exact⟨c.heap.objs.size,[c.heap.objs.size],_,_,g,rfl,d.kept (t':=c.toks) λb o e=>Heap.get?_push_of_some _ e,vx a _,⟨_,Heap.get?_push_size _ rfl,rfl,rfl⟩,j,q⟩
 .cases i
  obtain⟨f,w,l,z⟩:=d.tuple (wU (K:=X.K) k);refine wpAny_pyIter_tuple (show c.heap.IsTuple a f.toArray from l) ?_
  exact⟨c.heap.objs.size,[c.heap.objs.size],_,_,g,rfl,d.kept (t':=c.toks) λb o e=>Heap.get?_push_of_some _ e,sd a _,⟨_,Heap.get?_push_size _ rfl,rfl,rfl⟩,j,q⟩
 .obtain⟨t,rfl⟩:=i
  refine wpAny_pyIter_strU ?_;exact⟨c.heap.objs.size,[c.heap.objs.size],_,_,g,rfl,d.kept (t':=c.toks) λb o e=>Heap.get?_push_of_some _ e,xY _ y t (strIterType y) (by unfold strIterType;split<;>simp),⟨_,Heap.get?_push_size _ rfl,rfl,rfl⟩,j,q⟩
 .exact Bd d i q
end
def Hr(a:Addr)(o:Obj):It:=
 ⟨λi H=>∃b,H a=some (.dW o (.dK b))/\i<b.length,λi H x d=>∃p,x=.ref p/\H p=none/\∀b,H a=some (.dW o (.dK b))->∃c,b[i]?=some c/\d=upd H p (.tup [kV c.1,c.2]),λi H=>∃b,H a=some (.dW o (.dK b))/\b.length<=i⟩
theorem wb:entryFor table "dict_itemiterator.__iter__"=some Builtin.«dict_keyiterator.__iter__» :=
 entryFor_alias (id':="dict_keyiterator.__iter__") (by kernel_rfl) (by decide +kernel) (by decide +kernel) (by kernel_rfl)
theorem sZ{prog:Program}{w:World}{A:Around}{E:Value->Shared->Prop}{s:Shared}{it d:Addr}{i n ep:Nat}{ok c:Value}{Q:Value->Shared->Prop}(a:IsItemIter s.heap it d i n ep ok c)(h:Q (.ref it) s):wpAny (model prog w) A (pyIter (.ref it)) Q E s:=by
 have b:s.TypeIs (.ref it) "dict_itemiterator":=⟨_,a,rfl⟩;refine wpAny_pyIter_slot b F.slot_dict_itemiterator_iter (wpAny_call_entry F.slot_dict_itemiterator_iter b wb ?_ (F.args_dict_itemiterator_iter_1 _))
 show wpAny _ _ (ret (.ref it)) _ _ s
 exact wpAny_pure ⟨_,rfl,"dict_itemiterator",_,b,F.slot_dict_itemiterator_next.lookup,h⟩
theorem s_{P:Program}{w:World}{K:PySem.W.Frag}{l:List Expr}{Y:Nat}{m:Pos}(a it:Addr){o:Obj}{es:Array DictEntry}{ep:Nat}(O:o.data=.dict es ep) :
  Turn P w K (.Tuple l Y m) (Hr a o) [it] it (λi h=>∃ok g,IsItemIter h it a i es.size ep ok g) where
 mem:=by simp
 obj:=λi h c b f=>by
  have e:b=it:=by simpa using f
  subst e;obtain⟨ok,g,c⟩:=c
  exact⟨_,c,λv z=>by
   have Z:Data.fields _=Data.cell v:=z;cases Z⟩
 keep:=λi h h' c k=>by
  obtain⟨ok,g,c⟩:=c;exact⟨ok,g,k it (by simp) _ c⟩
 item:=by
  intro X B C D Q i pins s σ H E I x c F;subst B C D;obtain⟨d,y,R⟩:=F;obtain⟨ok,g,c⟩:=c;obtain⟨vs,r,G,A,_⟩:=j9 I.hok y O;have n:d[i]?=some d[i]:=List.getElem?_eq_getElem R;obtain⟨q,hv,S⟩:=gE r n;have p:it<s.heap.objs.size:=Heap.lt_size c;rw[A]at c;refine wpAny_pyNext_items_item c G (k:=q.1) (v:=q.2) hv λj h' hk so tu sz kp=>?_
  refine⟨_,rfl,wpAny_letOwnedTupleGo_items (s:={s with heap:=h' }) so λt se T=>?_⟩
  have J:∀b o,b∉[it]->s.heap.get? b=some o->t.get? b=some o:=λb o f q=>by
   have U:b≠it:=λz=>f (by simp[z])
   exact T.extBut b o U (kp b o U q)
  have L:t.get? s.heap.objs.size=some {cls:=.type "tuple",data:=.seq #[j,q.2]}:=T.extBut _ _ (Nat.ne_of_gt p) tu;refine⟨.ref s.heap.objs.size,upd H s.heap.objs.size (.tup [kV d[i].1,d[i].2]),?_,rfl,⟨_,rfl,I.hok.fresh (Nat.le_refl _),λV u=>?_⟩,⟨_,_,by rw[A];exact se⟩,λb f=>?_⟩
  .have M:IsTup t s.heap.objs.size [j,q.2].toArray:=⟨_,L,rfl,_,rfl⟩
   have N:cq X.prog X.w (upd H s.heap.objs.size (.tup [kV d[i].1,d[i].2])) t s.heap.objs.size (.tup [kV d[i].1,d[i].2]):=⟨by rw[sizeLine_eq];simp,[j,q.2],.cons (by rw[S.1];exact pG hk) (.cons S.2 .nil),M⟩
   have:=kE (s:=s) (h':=t) (t':=s.toks) I x J (Nat.le_refl _) N;exact this
  .rw[y]at u;cases u
   exact⟨d[i],n,rfl⟩
  .have e:b=it:=by simpa using f
   subst e;rw[aM (Nat.ne_of_lt p)];exact(x b f).1
 done:=by
  intro X B C D Q i pins s σ H E I x c F;subst B C D;obtain⟨d,y,R⟩:=F;obtain⟨ok,g,c⟩:=c;obtain⟨vs,r,G,A,_⟩:=j9 I.hok y O;obtain⟨f0,f1,f2,f3,f4,f5⟩:=x it (by simp)
  have hl:=r.length;rw[A]at c;exact wpAny_pyNext_items_end (I.ok.hd Q) c G (List.getElem?_eq_none (by omega)) λh' eb=>⟨rfl,I.turned (t':=s.toks) (λb o f e=>eb b o f e) f0 f1 f3 f4 f5⟩
 self:=λ_ _ _ _ _ c h=>by
  obtain⟨ok,g,c⟩:=c;exact sZ c h
def MI(R:It->Hp->Prop)(x:V)(c:Hp):Prop:=∃a b,x=.ref a/\((c a=some (.dK b)/\∀o,R (Hr a o) (upd c a (.dW o (.dK b))))\/∃o,c a=some (.dW o (.dK b))/\R (Hr a o) c)
theorem yj{X:Cx}{o:Expr}{S:TE}{g:List Expr}{M:Nat}{i j k:Pos}(n:attributeBase o "items" X.env (eval o X.env)=eval o X.env)(p:(j.endLine==k.line)=true)(B:PE X o S) :
  PI X (.Tuple g M i) (.Call (.Attribute o "items" j) [] [] k) (λt H R=>S t H (MI R)):=by
 intro pins s t H R I h;refine wpAny_Call_method0_late n p (cy (B pins s t H _ I h) λv s1 ⟨x,H1,I1,Z,q1⟩=>?_)
 obtain⟨a,u,rfl,q⟩:=q1;cases (show v=Value.ref a from Z)
 have l:∀(c:Obj) (m:Array DictEntry) (f:Nat) (y:Hp),Inv X pins t y s1->y a=some (.dW c (.dK u))->c.data=.dict m f->R (Hr a c) y->wpAny (model X.prog X.w) X.A (call (.builtin "dict.items") [.ref a]) (λv s2=>wpAny (model X.prog X.w) X.A (pyIter v) (PIE X pins t (.Tuple g M i) R) X.xe s2) X.xe s1:=by
  intro c m f y K e2 L D;obtain⟨E,r,T,hz,U⟩:=j9 K.hok e2 L;have V:s1.heap.DictOf (bP X.prog X.w) a E:=let ⟨o,m,B,r⟩:=T;⟨o,m,f,B,r⟩
  refine call_meetsIn F.slot_dict_items V.typeIs F.entry_dict_items (F.args_dict_items_1 _) (meets_dict_items (bP X.prog X.w) a U) ⟨⟨E,V⟩,?_⟩;generalize G:s1.heap.push {cls:=.type "dict_items",data:=.fields #[.ref a]}=d;have Y:∀b o,s1.heap.get? b=some o->d.get? b=some o:=λb o e=>by rw[←G];exact Heap.get?_push_of_some _ e
  have hv:d.IsItemsView s1.heap.objs.size a:=by rw[←G];exact⟨_,Heap.get?_push_size _ rfl,rfl,rfl⟩
  have N:d.DictAt (bP X.prog X.w) a E f:=T.at' λo e=>Y a o e
  have O:Inv X pins t y {s1 with heap:=d}:=K.kept (t':=s1.toks) Y;refine wpAny_pyIter_items (s:={s1 with heap:=d}) hv N ?_;have I4:Inv X pins t y {s1 with heap:=d.push {cls:=.type "dict_itemiterator",data:=.fields #[.none,.bool false,.ref a,.int 0 0,.int E.length 0,.int f 0,.none,.none]} }:=O.kept (t':=s1.toks) λb o q=>Heap.get?_push_of_some _ q
  refine⟨d.objs.size,[d.objs.size],_,_,y,rfl,I4,s_ a _ L,?_,λb hb=>?_,D⟩
  .rw[hz]
   exact⟨_,_,Heap.get?_push_size _ rfl⟩
  .have z:b=d.objs.size:=by simpa using hb
   rw[z];exact O.xa (b:=d.objs.size) (Nat.le_refl _) (O.hok.fresh (Nat.le_refl _))
 rcases q with ⟨C,D⟩|⟨c,C,D⟩
 .obtain⟨P,Q,t3⟩:=xD I1 (.inl ⟨u,.inl C⟩)
  obtain⟨c,m,f,B,L,K⟩:=I1.uJ C;exact⟨"dict","dict.items",F.plainAttrs_dict,F.slot_dict_items,F.type_dict_items,P,Q,Calls.callWith_builtin rfl (PySem.evalArgs_none (l c m f _ K ba L (D c)))⟩
 .obtain⟨P,Q,t3⟩:=xD I1 (.inl ⟨u,.inr ⟨c,C⟩⟩)
  obtain⟨B,_,U,E,r,o',m,f,J,M,x2,x3⟩:=I1.hok a _ C;rw[B]at J;cases J
  exact⟨"dict","dict.items",F.plainAttrs_dict,F.slot_dict_items,F.type_dict_items,P,Q,Calls.callWith_builtin rfl (PySem.evalArgs_none (l c m f _ I1 C x2 D))⟩
variable [aE]
def nK(f g:List D->aD->ax D):List D->aD->ax D:=λa b=>jg (f a b) (g a b)
def pI(xs:List D)(Ω:aD):ax D:=match xs with
 |[x]=>match gz Ω x with
  |some a=>.ok (.int a.length) Ω
  |none=>.bad
 |_=>.bad
noncomputable def tf(xs:List D)(Ω:aD):ax D:=match xs with
 |[.ref k]=>match Ω[k]? with
  |some (.dK a)=>.ok (.int a.length) Ω
  |some (.dF a)=>.ok (.int a.length) Ω
  |_=>.bad
 |_=>.bad
def jK(xs:List D)(Ω:aD):ax D:=match xs with
 |[x]=>match gz Ω x with
  |some a=>jf Ω (.lst a)
  |none=>.bad
 |_=>.bad
noncomputable def j_:Key->D
 |.inl i=>.int i
 |.inr x=>.str x
noncomputable def wc(Ω:aD)(x:D):Option (List (Key×D)):=match x with
 |.ref k=>(match Ω[k]? with
  |some (.dK a)=>some a
  |some (.dF a)=>some a
  |_=>none)
 |_=>none
def kG(xs:List D)(Ω:aD):ax D:=match xs with
 |[x]=>match wc Ω x with
  |some a=>jf Ω (.lst (a.map λb=>j_ b.1))
  |none=>.bad
 |_=>.bad
def mK(xs:List D)(Ω:aD):ax D:=match xs with
 |[x]=>match wc Ω x with
  |some a=>jf Ω (.dK a)
  |none=>.bad
 |_=>.bad
def mM:D->Option (Key×D)
 |.tup [k,v]=>(pB k).map λk=>(k,v)
 |_=>none
def iv(xs:List D)(Ω:aD):ax D:=match xs with
 |[x]=>match dY Ω x with
  |some b=>match bJ mM b with
   |some c=>jf Ω (.dK (c.foldl (λa p=>ej a p.1 p.2) []))
   |none=>.bad
  |none=>.bad
 |_=>.bad
def gT:List D->aD->ax D:=nK iv mK
def Et:List D->Out Rs
 |[.str z]=>if small z.length then .ok (false,.int z.length)else .bad
 |_=>.bad
def Eu:List D->Out Rs
 |[.lst xs]=>match fR xs with|some bs=>.ok (false,.bl (bs.all id))|none=>.bad
 |_=>.bad
def Ew:List D->Out Rs
 |[.lst xs]=>match fR xs with|some bs=>.ok (false,.bl (bs.any id))|none=>.bad
 |_=>.bad
def yk:nI->List D->Out Rs
 |.len=>Et
 |.all=>Eu
 |.any=>Ew
 |_=>λ_=>.bad
def nL(f:nI):List D->aD->ax D:=cp (yk f)
def aW(f:nI):List D->aD->ax D:=match f with
 |.len=>nK pI (nK tf (nL .len))
 |.list=>nK jK kG
 |f=>nL f
section
variable{X:Cx}{κ:Str->Addr->Prop}{Φ:gS}{α α' iZ α1:List Addr}{Z Z' Z0 Z1:Addr->Prop}{Ω ai:aD}{H H' H0 H1:Hp}{ρ:aR}{σ:L2.St}{Q Q':VK}{r:ax D}{a b e ce o:Expr}{rest:List Expr}{es:List Expr}{ma mb mc m mo:EM}{as:AM}{pos p apos cpos:Pos}
theorem pJ{f g:List D->aD->ax D}:mN (nK f g) as=pz (mN f as) (mN g as):=by
 funext b a
 simp only[mN,pz];cases as b a with
 |ok x c=>rfl
 |exc x a=>rfl
 |bad=>rfl
theorem fZ{f:List D->aD->ax D}{j:String}{x:Str}{r:List V->Hp->VK->Prop}(k:fj X (.builtin j) r)(l:Gl X x)(m:X.mg x=none)(n:bootBuiltins x=some (.builtin j))(o:x≠"__name__")(b:(x==("__debug__":Str))=false)
  (q:starEach (e::es) X.env=(false,eval e X.env)::starEach es X.env) (c:(backTo pos (starEach es X.env)).any (·.1)=false) (s:qk X κ Φ (e::es) as)
  (t:∀xs vs a Z Ω H Q,bH κ a Z Ω H->aJ (aq a Z H) xs vs->cg κ Φ a Z H (f xs Ω) Q->r vs H Q):bq X κ Φ (.Call (.Name x p) (e::es) [] pos) (mN f as):=by
 intro d u w y Ω;refine PE.imp (qD k l m n (s d u w y Ω) o b q c) ?_;rintro F H Q ⟨a,Z,S,g⟩;exact⟨a,Z,S,qj.use g λxs h _ vs z i A G B C E=>t xs vs i A h z Q B C E⟩
theorem jL{f:List D->aD->ax D}{j:String}{x:Str}{r:List V->Hp->VK->Prop}(k:fj X (.type j) r)(l:Gl X x)(m:X.mg x=none)(n:bootBuiltins x=some (.type j))(o:x≠"__name__")(b:(x==("__debug__":Str))=false)
  (q:starEach (e::es) X.env=(false,eval e X.env)::starEach es X.env) (c:(backTo pos (starEach es X.env)).any (·.1)=false) (s:qk X κ Φ (e::es) as)
  (t:∀xs vs a Z Ω H Q,bH κ a Z Ω H->aJ (aq a Z H) xs vs->cg κ Φ a Z H (f xs Ω) Q->r vs H Q):bq X κ Φ (.Call (.Name x p) (e::es) [] pos) (mN f as):=by
 intro d u w y Ω;refine PE.imp (vI k l m n (s d u w y Ω) o b q c) ?_;rintro F H Q ⟨a,Z,S,g⟩;exact⟨a,Z,S,qj.use g λxs h _ vs z i A G B C E=>t xs vs i A h z Q B C E⟩
theorem iM:∀{ds:List D}{vs:List V},bb Z H ds vs->xM Z H ds vs
 |[],vs,h=>h.nil_inv
 |d::ds,vs,h=>by
  obtain⟨v,r,rfl,h1,h2⟩:=h.cons_inv;exact⟨v,r,rfl,h1.now,iM h2⟩
theorem q_{x:D}{v:V}{kvs:List (Key×D)}(S:bH κ α Z Ω H)(r:aq α Z H x v)(h:wc Ω x=some kvs):∃a b,v=.ref a/\Rd H a (.dK b)/\gR (aq α Z H) kvs b:=by
 unfold wc at h;split at h
 .rename_i k
  simp only[aq]at r;obtain⟨a,i,rfl⟩:=r;split at h
  .rename_i d e
   cases h;obtain⟨j,c,b,f,g⟩:=S.cell e;rw[i]at c;cases c
   exact⟨a,b,rfl,.inl f,g⟩
  .rename_i d e
   cases h;obtain⟨j,c,l,b,f,g⟩:=S.cell e;rw[i]at c;cases c
   exact⟨a,b,rfl,.inr ⟨l,f⟩,g⟩
  .cases h
 .cases h
theorem Bg{xs:List D}{vs:List V}(S:bH κ α Z Ω H)(d:aJ (aq α Z H) xs vs)(g:cg κ Φ α Z H (kG xs Ω) Q):∃a kvs,vs=[V.ref a]/\Rd H a (.dK kvs)/\∀l,H l=none->Q (.ref l) (upd H l (.lst (kvs.map λc=>kV c.1))):=by
 unfold kG at g;split at g
 .split at g
  .rename_i kvs e
   obtain⟨v,r,rfl,f,h⟩:=d.cons_inv;rw[h.nil_inv];obtain⟨a,b,rfl,i,j⟩:=q_ S f e;refine⟨a,b,rfl,i,fu S ?_ g⟩
   have:∀{kvs:List (Key×D)}{b:List (Key×V)},gR (aq α Z H) kvs b->aJ (aq α Z H) (kvs.map λc=>j_ c.1) (b.map λc=>kV c.1):=λ{kvs b} q=>by
    unfold gR at q
    induction q with
    |nil=>exact .nil
    |@cons p q _ _ k _ m=>
     refine .cons ?_ m
     show aq α Z H (j_ p.1) (kV q.1)
     rw[k.1];cases q.1<;>simp only[j_,kV,aq]
   exact this j
  .exact g.elim
 .exact g.elim
theorem ym{kvs:List (Key×D)}{a:List (Key×V)}(S:bH κ α Z Ω H)(r:gR (aq α Z H) kvs a)(k:cg κ Φ α Z H (jf Ω (.dK kvs)) Q):∀p,H p=none->Q (.ref p) (upd H p (.dK a)):=λp b=>by
 obtain⟨d,e⟩:=S.laid (p:=p) (o:=.dK a) (c:=.dK kvs) b λR f=>⟨a,ba,r.imp f⟩
 exact k _ _ _ _ e d (fW S p)
theorem Bh{xs:List D}{vs:List V}(S:bH κ α Z Ω H)(c:aJ (aq α Z H) xs vs)(g:cg κ Φ α Z H (mK xs Ω) Q):∃a kvs,vs=[V.ref a]/\Rd H a (.dK kvs)/\∀l,H l=none->Q (.ref l) (upd H l (.dK kvs)):=by
 unfold mK at g;split at g
 .split at g
  .rename_i kvs d
   obtain⟨v,r,rfl,e,f⟩:=c.cons_inv;rw[f.nil_inv];obtain⟨a,b,rfl,h,i⟩:=q_ S e d;exact⟨a,b,rfl,h,ym S i g⟩
  .exact g.elim
 .exact g.elim
theorem ow:∀{ds:List D}{vs:List V}{ps:List (Key×D)},aJ (aq α Z H) ds vs->bJ mM ds=some ps->∃c,gR (aq α Z H) ps c/\Paired (λ(p:Key×V) (y:V)=>∃b,y=.ref b/\Rd H b (.tup [kV p.1,p.2])) c vs
 |[],vs,ps,r,h=>by cases h;rw[r.nil_inv];exact⟨[],.nil,.nil⟩
 |d::ds,vs,ps,r,h=>by
  simp only[bJ]at h;split at h
  .rename_i y ys h1 h2
   cases h;obtain⟨v,f,rfl,g,i⟩:=r.cons_inv;obtain⟨c,j,l⟩:=ow i h2;unfold mM at h1;split at h1
   .rename_i k w
    obtain⟨m,n,rfl⟩:=Option.map_eq_some_iff.mp h1;obtain⟨a,u,rfl,_,o,e⟩:=iL g;obtain⟨x,z,rfl,q,e⟩:=e.cons_inv;obtain⟨s,A,rfl,t,e⟩:=e.cons_inv;obtain rfl:=e.nil_inv;obtain rfl:=iq n q;exact⟨(m,s)::c,.cons ⟨rfl,t⟩ j,.cons ⟨a,rfl,.inl o⟩ l⟩
   .cases h1
  .cases h
theorem Bi{xs:List D}{vs:List V}(S:bH κ α Z Ω H)(i:aJ (aq α Z H) xs vs)(g:cg κ Φ α Z H (iv xs Ω) Q):∃a ys ps,vs=[V.ref a]/\Rd H a (.lst ys)/\Paired (λ(p:Key×V) (y:V)=>∃b,y=.ref b/\Rd H b (.tup [kV p.1,p.2])) ps ys/\∀l,H l=none->Q (.ref l) (upd H l (.dK (ps.foldl (λa p=>putK a p.1 p.2) []))):=by
 unfold iv at g;split at g
 .split at g
  .rename_i x j
   split at g
   .rename_i ps k
    obtain⟨v,r,rfl,m,n⟩:=i.cons_inv;rw[n.nil_inv];obtain⟨a,ys,rfl,o,s⟩:=cH S m j;obtain⟨d,t,u⟩:=ow s k;refine⟨a,ys,d,rfl,o,u,ym S ?_ g⟩
    have:∀{ps:List (Key×D)}{d:List (Key×V)}{e:List (Key×D)}{c:List (Key×V)},gR (aq α Z H) e c->gR (aq α Z H) ps d->gR (aq α Z H) (ps.foldl (λa p=>ej a p.1 p.2) e) (d.foldl (λa p=>putK a p.1 p.2) c):=λ{ps d e c} f q=>by
     unfold gR at q
     induction q generalizing e c with
     |nil=>exact f
     |@cons p q _ _ h _ w=>
      simp only[List.foldl_cons];refine w ?_;rw[h.1];exact f.put q.1 h.2
    exact this .nil t
   .exact g.elim
  .exact g.elim
 .exact g.elim
theorem yn(a:X.calm=true)(d:Gl X "dict")(f:X.mg "dict"=none)(h:starEach (e::es) X.env=(false,eval e X.env)::starEach es X.env)(b:(backTo pos (starEach es X.env)).any (·.1)=false)(i:qk X κ Φ (e::es) as):bq X κ Φ (.Call (.Name "dict" p) (e::es) [] pos) (mN gT as):=by
 show bq X κ Φ _ (mN (nK iv mK) as)
 rw[pJ];exact bq.alt (jL (sY a) d f boot_dict (by decide) (by decide) h b i λj k l Z m H Q S c g=>Bi S c g) (jL sX d f boot_dict (by decide) (by decide) h b i λj k l Z m H Q S c g=>Bh S c g)
theorem Bj{f:nI}(c:X.calm=true)(D:f∈[nI.len,nI.all,nI.any,nI.list])(u:Gl X f.nm)(w:X.mg f.nm=none)
  (y:starEach (e::es) X.env=(false,eval e X.env)::starEach es X.env) (h:(backTo pos (starEach es X.env)).any (·.1)=false) (j:qk X κ Φ (e::es) as) :
  bq X κ Φ (.Call (.Name f.nm p) (e::es) [] pos) (mN (aW f) as):=by
 cases f with
 |len=>
  show bq X κ Φ _ (mN (nK pI (nK tf (nL .len))) as)
  rw[pJ,pJ];refine bq.alt ?_ (bq.alt ?_ ?_)
  .refine fZ pa u w boot_len (by decide) (by decide) y h j ?_
   intro I J z Z A H Q S i g;unfold pI at g;split at g
   .split at g
    .rename_i B L
     obtain⟨v,r,rfl,t,C⟩:=i.cons_inv;rw[C.nil_inv];obtain⟨l,M,rfl,N,O⟩:=mz (K:=X.K) S t L;exact⟨l,M,rfl,N,by rw[O.length];exact cg.ret S (bp rfl) g⟩
    .exact g.elim
   .exact g.elim
  .refine fZ vS u w boot_len (by decide) (by decide) y h j ?_
   intro I J z Z A H Q S i g;unfold tf at g;split at g
   .split at g
    .rename_i P R
     obtain⟨v,r,rfl,t,C⟩:=i.cons_inv;rw[C.nil_inv];simp only[aq]at t;obtain⟨a,j,rfl⟩:=t;obtain⟨Y,m,o,T,U⟩:=S.cell R;rw[j]at m;cases m
     exact⟨a,o,rfl,.inl T,by rw[U.length];exact cg.ret S (bp rfl) g⟩
    .rename_i P R
     obtain⟨v,r,rfl,t,C⟩:=i.cons_inv;rw[C.nil_inv];simp only[aq]at t;obtain⟨a,j,rfl⟩:=t;obtain⟨Y,m,of,o,T,U⟩:=S.cell R;rw[j]at m;cases m
     exact⟨a,o,rfl,.inr ⟨of,T⟩,by rw[U.length];exact cg.ret S (bp rfl) g⟩
    .exact g.elim
   .exact g.elim
  .refine fZ pb u w boot_len (by decide) (by decide) y h j ?_
   intro E F z Z A H Q S i g;obtain⟨B,G,d,q,b,k⟩:=jJ (bw:=false) S i g;have q:=iM q;have s:=eE S;replace b:Et B=_:=b;unfold Et at b;split at b
   .obtain⟨x,rfl,n⟩:=q.one
    cases dE n;split at b
    .rename_i hs
     cases b;exact⟨_,rfl,bI hs,mn s k rfl⟩
    .cases b
   .cases b
 |all=>
  refine fZ (xV c) u w boot_all (by decide) (by decide) y h j ?_
  intro E F z Z A H Q S i g;obtain⟨B,G,d,q,b,k⟩:=jJ (bw:=false) S i g;have q:=iM q;have s:=eE S;replace b:Eu B=_:=b;unfold Eu at b;split at b
  .obtain⟨x,rfl,n⟩:=q.one
   split at b
   .rename_i bs V
    cases b;exact⟨_,_,bs,x,rfl,n,V,mn s k rfl⟩
   .cases b
  .cases b
 |any=>
  refine fZ (xW c) u w boot_any (by decide) (by decide) y h j ?_
  intro E F z Z A H Q S i g;obtain⟨B,G,d,q,b,k⟩:=jJ (bw:=false) S i g;have q:=iM q;have s:=eE S;replace b:Ew B=_:=b;unfold Ew at b;split at b
  .obtain⟨x,rfl,n⟩:=q.one
   split at b
   .rename_i bs V
    cases b;exact⟨_,_,bs,x,rfl,n,V,mn s k rfl⟩
   .cases b
  .cases b
 |int=>simp at D
 |min=>simp at D
 |max=>simp at D
 |list=>
  show bq X κ Φ _ (mN (nK jK kG) as)
  rw[pJ];refine bq.alt ?_ (jL (sW c) u w boot_list (by decide) (by decide) y h j λI J z Z A H Q S i g=>Bg S i g)
  refine jL pd u w boot_list (by decide) (by decide) y h j ?_
  intro I J z Z A H Q S i g;have g:cg κ Φ z Z H (jK I A) Q:=g;unfold jK at g;split at g
  .split at g
   .rename_i B L
    obtain⟨v,r,rfl,t,C⟩:=i.cons_inv;rw[C.nil_inv];obtain⟨l,M,rfl,N,O⟩:=mz (K:=X.K) S t L;exact⟨l,M,rfl,N,fu S O g⟩
   .exact g.elim
  .exact g.elim
 |tuple=>simp at D
 |sorted=>simp at D
 |bool=>simp at D
def ox(xs:List D)(Ω:aD):ax D:=match xs with
 |[x]=>match dY Ω x with
  |some a=>match jB a with
   |.ok b=>jf Ω (.lst b)
   |_=>.bad
  |none=>.bad
 |_=>.bad
theorem rb:∀{ds:List D}{a:List Int}{vs:List V},n9 ds=some a->aJ (aq α Z H) ds vs->vs=a.map V.int
 |[],a,vs,h,r=>by cases h;exact r.nil_inv
 |d::ds,a,vs,h,r=>by
  obtain⟨v,f,rfl,b,c⟩:=r.cons_inv;cases d with
  |int i=>
   obtain⟨g,e,rfl⟩:=Option.map_eq_some_iff.mp (show(n9 ds).map (i :: ·)=some a from h)
   simp only[aq]at b;rw[b,rb e c];rfl
  |_=>cases h
theorem rd:∀{ds:List D}{a:List Str}{vs:List V},iX ds=some a->aJ (aq α Z H) ds vs->vs=a.map V.str
 |[],a,vs,h,r=>by cases h;exact r.nil_inv
 |d::ds,a,vs,h,r=>by
  obtain⟨v,f,rfl,b,c⟩:=r.cons_inv;cases d with
  |str i=>
   obtain⟨g,e,rfl⟩:=Option.map_eq_some_iff.mp (show(iX ds).map (i :: ·)=some a from h)
   simp only[aq]at b;rw[b,rd e c];rfl
  |_=>cases h
theorem mO{a:Type}{f:a->D}{g:a->V}(h:∀x,aq α Z H (f x) (g x)):∀xs:List a,aJ (aq α Z H) (xs.map f) (xs.map g)
 |[]=>.nil
 |x::xs=>.cons (h x) (mO h xs)
theorem yo(m:Gl X "sorted")(n:X.mg "sorted"=none)(o:starEach (e::es) X.env=(false,eval e X.env)::starEach es X.env)(h:(backTo pos (starEach es X.env)).any (·.1)=false)(q:qk X κ Φ (e::es) as) :
  bq X κ Φ (.Call (.Name "sorted" p) (e::es) [] pos) (mN ox as):=by
 refine fZ vY m n (by decide +kernel) (by decide) (by decide) o h q ?_
 intro z A B Z C H Q S s g;unfold ox at g;split at g
 .split at g
  .rename_i E t
   obtain⟨v,r,rfl,u,w⟩:=s.cons_inv;rw[w.nil_inv];obtain⟨a,F,rfl,l,d⟩:=cH S u t;split at g
   .rename_i G b
    unfold jB at b;split at b
    .cases b
    .rename_i y
     split at b
     .rename_i c i
      cases b;have j:=rb i d;subst j;have k:c.length<64:=by have:=d.length;rw[List.length_map]at this;omega
      exact⟨a,rfl,.inr ⟨c,lV l,k,fu S (mO (f:=D.int) (g:=V.int) (λx=>by simp only[aq]) _) g⟩⟩
     .split at b
      .rename_i c i
       cases b;have j:=rd i d;subst j;have k:c.length<64:=by have:=d.length;rw[List.length_map]at this;omega
       exact⟨a,rfl,.inl ⟨c,lV l,k,fu S (mO (f:=D.str) (g:=V.str) (λx=>by simp only[aq]) _) g⟩⟩
      .cases b
   .exact g.elim
  .exact g.elim
 .exact g.elim
def MJ(t:Ty):D->aD->ax D:=vZ λd=>match xG d t with|some b=>.ok (false,.bl b)|none=>.bad
def ti(t:Ty):D->aD->ax D:=MJ t
theorem Bk{t:Ty}{c:Pos}(m:Gl X "isinstance")(n:X.mg "isinstance"=none)(f:Gl X t.nm)(h:X.mg t.nm=none)
  (l:starEach [a,Expr.Name t.nm c] X.env=(false,eval a X.env)::starEach [Expr.Name t.nm c] X.env) (i:(backTo pos (starEach [Expr.Name t.nm c] X.env)).any (·.1)=false) (o:bq X κ Φ a ma) :
  bq X κ Φ (.Call (.Name "isinstance" p) [a,.Name t.nm c] [] pos) (m1 (ti t) ma):=by
 have j:PE X (.Name t.nm c) (tC (.ty t.id)):=zK f h (Ah t) rfl (by cases t<;>decide) (by cases t<;>decide)
 unfold ti
 .refine pA (r:=λx H Q=>Hh X.K [x,.ty t.id] H Q) (λz s=>qD xX m n boot_isinstance (iK s (iK j sD rfl) l) (by decide) (by decide) l i) o ?_
  intro A x B Z C H Q S u g;obtain⟨d,w,D,y,e,k⟩:=qX (bw:=false) S u g;cases q:xG d t with
  |none=>rw[q]at e;cases e
  |some b=>
   rw[q]at e;cases e;exact⟨_,d,x,t,b,rfl,y,q,mn (eE S) k rfl⟩
def dG(b:aD->D->Bool)(f:D->List D->aD->ax D)(mo:EM)(e:AM):EM:=λd g=>(mo d g).bind λx a=>if b a x=true then (e d a).bind λh c=>f x h c else .bad
def kH(Ω:aD)(x:D):Bool:=(dY Ω x).isSome
noncomputable def Ey(_:aD)(x:D):Bool:=match x with
 |.str _=>true
 |_=>false
theorem mP{x:D}{v:V}{K:PySem.W.Frag}(S:bH κ α Z Ω H)(r:aq α Z H x v)(h:kH Ω x=true):C9 K "list" v H:=by
 unfold kH at h;cases q:dY Ω x with
 |none=>rw[q]at h;cases h
 |some d=>
  obtain⟨a,b,rfl,c,e⟩:=cH S r q;exact .inl ⟨rfl,b,lV c⟩
theorem Bl{x:D}{v:V}{K:PySem.W.Frag}(S:bH κ α Z Ω H)(r:aq α Z H x v)(h:Ey Ω x=true):C9 K "str" v H:=by
 cases x with
 |str z=>simp only[aq]at r;subst r;rfl
 |_=>cases h
section
variable{T id:String}{name:Str}{r:V->List V->Hp->VK->Prop}{Kp:aD->D->Bool}{f:D->List D->aD->ax D}
theorem uK(p:PlainAttrs T)(slot:PySem.Slot T name id)(h:typeOf (.builtin id)=pure (.type "method_descriptor"))(q:Gg X id r)
  (s:∀x v a Z Ω H,bH κ a Z Ω H->aq a Z H x v->Kp Ω x=true->C9 X.K T v H)
  (t:∀x v xs vs a Z Ω H Q,bH κ a Z Ω H->aq a Z H x v->aJ (aq a Z H) xs vs->cg κ Φ a Z H (f x xs Ω) Q->r v vs H Q)
  (b:attributeBase o name X.env (eval o X.env)=eval o X.env) (c:(apos.endLine==cpos.line)=true) (u:bq X κ Φ o mo):bq X κ Φ (.Call (.Attribute o name apos) [] [] cpos) (dG Kp f mo ae):=by
 intro i w y z Ω;refine PE.imp (L2.Ee p slot h q (u i w y z Ω) b c) ?_;rintro B H Q ⟨a,Z,S,g⟩;refine⟨a,Z,S,cg.use g λx d _ v k e l C m n j=>?_⟩
 split at j
 .rename_i A
  exact⟨s x v e l d k m n A,t x v [] [] e l d k Q m n .nil j⟩
 .exact j.elim
theorem pK{env:Env}:∀{es:List Expr},(∀e∈es,isStar e=false)->((backTo cpos (starEach es env)).all (λx=>!x.1))=true
 |[],_=>rfl
 |e::es,h=>by
  rw[b_ (h e (by simp))]
  show(!false&&(backTo cpos (starEach es env)).all (λx=>!x.1))=true
  rw[pK λz hz=>h z (by simp[hz])];rfl
theorem mQ(B:PlainAttrs T)(slot:PySem.Slot T name id)(l:typeOf (.builtin id)=pure (.type "method_descriptor"))(C:Gg X id r)
  (D:∀x v a Z Ω H,bH κ a Z Ω H->aq a Z H x v->Kp Ω x=true->C9 X.K T v H)
  (E:∀x v xs vs a Z Ω H Q,bH κ a Z Ω H->aq a Z H x v->aJ (aq a Z H) xs vs->cg κ Φ a Z H (f x xs Ω) Q->r v vs H Q)
  (c:attributeBase o name X.env (eval o X.env)=eval o X.env) (d:(apos.endLine==cpos.line)=true) (F:bq X κ Φ o mo) (G:qk X κ Φ (e::es) as) (h:∀z∈e::es,isStar z=false) (s:(e::es).length<20):bq X κ Φ (.Call (.Attribute o name apos) (e::es) [] cpos) (dG Kp f mo as):=by
 intro i t u w Ω
 have j:((backTo cpos (starEach (e::es) X.env)).all (λx=>!x.1)&&(backToKw cpos (keywordEach [] X.env)).all (λx=>x.1.isSome)
   && decide ((e::es).length+([]:List Keyword).length+(if ([]:List Keyword).isEmpty then 0 else 1)<30))=true:=by
  rw[pK h,decide_eq_true (by show(e::es).length+0+0<30;omega)];rfl
 refine PE.imp (L2.G6 B slot l C (F i t u w Ω) (PA.ex λb=>G i t u w b) c j d (b_ (h e (by simp))) (cf λz I=>h z (by simp[I]))) ?_
 rintro Y H Q ⟨a,Z,S,g⟩;refine⟨a,Z,S,cg.use g λx b _ v J k y L m A n=>?_⟩
 split at n
 .rename_i M
  exact⟨D x v k y b J m A M,b,k,y,S.grow L m,qj.use n λxs p _ vs N q O P R U V=>E x v xs vs q O p N Q R (m.dO P A) U V⟩
 .exact n.elim
end
noncomputable def nM(Ω:aD):D->Option (Nat×List D)
 |.ref k=>match Ω[k]? with
  |some (.lst ds)=>some (k,ds)
  |_=>none
 |_=>none
theorem f_{x:D}{v:V}{k:Nat}{ds:List D}(S:bH κ α Z Ω H)(r:aq α Z H x v)(h:nM Ω x=some (k,ds)):∃a vs,v=.ref a/\α[k]?=some a/\H a=some (.lst vs)/\aJ (aq α Z H) ds vs:=by
 cases x with
 |ref n=>
  simp only[nM]at h;split at h
  .rename_i d e
   cases h;simp only[aq]at r;obtain⟨a,c,rfl⟩:=r;obtain⟨i,b,vs,f,g⟩:=S.cell e;rw[c]at b;cases b;exact⟨a,vs,rfl,c,f,g⟩
  .cases h
 |_=>cases h
theorem iw{k:Nat}{p:Addr}{ds:List D}{vs:List V}{d:D}{u:V}(S:bH κ α Z Ω H)(b:α[k]?=some p){e:List V}(f:H p=some (.lst e))(r:aJ (aq α Z H) ds vs)(h:aq α Z H d u)(g:cg κ Φ α Z H (.ok d (Ω.set k (.lst ds))) Q):Q u (upd H p (.lst vs)):=by
 obtain⟨i,a⟩:=S.put (o:=.lst vs) (c:=.lst ds) b (λo u z=>by rw[f]at z;cases z) λR j=>⟨vs,ba,r.imp j⟩
 exact g _ _ _ _ a i (S.dO a h)
def bQ(x:D)(xs:List D)(Ω:aD):ax D:=match nM Ω x,xs with
 |some (k,a),[y]=>if small (a.length+1)then .ok .non (Ω.set k (.lst (a++[y])))else .bad
 |_,_=>.bad
def iy(x:D)(xs:List D)(Ω:aD):ax D:=match nM Ω x,xs with
 |some (k,_),[]=>.ok .non (Ω.set k (.lst []))
 |_,_=>.bad
def eQ(x:D)(xs:List D)(Ω:aD):ax D:=match nM Ω x,xs with
 |some (k,a),[]=>.ok .non (Ω.set k (.lst a.reverse))
 |_,_=>.bad
def eZ(x:D)(xs:List D)(Ω:aD):ax D:=match nM Ω x,xs with
 |some (k,a),[.int i,y]=>if small (a.length+1)&&nH i then .ok .non (Ω.set k (.lst (ph a i y)))else .bad
 |_,_=>.bad
def iN(x:D)(xs:List D)(Ω:aD):ax D:=match nM Ω x,xs with
 |some (k,a),[y]=>match nM Ω y with
  |some (_,b)=>if small (a.length+b.length)then .ok .non (Ω.set k (.lst (a++b)))else .bad
  |none=>.bad
 |_,_=>.bad
def rg(x:D)(xs:List D)(Ω:aD):ax D:=match xs with
 |[y]=>gZ (λa b=>Eh .join a (.tup [b])) x y Ω
 |_=>.bad
theorem jM{R:D->V->Prop}{y:D}{vs:List V}(h:aJ R [y] vs):∃v,vs=[v]/\R y v:=by
 obtain⟨v,r,rfl,a,b⟩:=h.cons_inv;rw[b.nil_inv];exact⟨v,rfl,a⟩
theorem Bm{R:D->V->Prop}{y z:D}{vs:List V}(h:aJ R [y,z] vs):∃v w,vs=[v,w]/\R y v/\R z w:=by
 obtain⟨v,r,rfl,a,b⟩:=h.cons_inv;obtain⟨w,rfl,c⟩:=jM b;exact⟨v,w,rfl,a,c⟩
theorem wd{x:D}{v:V}{xs:List D}{vs:List V}(S:bH κ α Z Ω H)(r:aq α Z H x v)(rs:aJ (aq α Z H) xs vs)(g:cg κ Φ α Z H (bQ x xs Ω) Q):um v vs H Q:=by
 unfold bQ at g;split at g
 .rename_i k j y d
  obtain⟨a,e,rfl,f,b,c⟩:=f_ S r d;obtain⟨u,rfl,h⟩:=jM rs;split at g
  .rename_i i
   have:=bI i;exact⟨a,e,u,rfl,rfl,b,by rw[c.length];omega,iw S f b (c.append (.one h)) (bp rfl) g⟩
  .exact g.elim
 .exact g.elim
theorem yp{x:D}{v:V}{xs:List D}{vs:List V}(S:bH κ α Z Ω H)(r:aq α Z H x v)(rs:aJ (aq α Z H) xs vs)(g:cg κ Φ α Z H (iy x xs Ω) Q):xw v vs H Q:=by
 unfold iy at g;split at g
 .rename_i k f c
  obtain⟨a,d,rfl,e,b,h⟩:=f_ S r c;rw[rs.nil_inv];exact⟨a,d,rfl,rfl,b,iw S e b .nil (bp rfl) g⟩
 .exact g.elim
theorem tj{x:D}{v:V}{xs:List D}{vs:List V}(S:bH κ α Z Ω H)(r:aq α Z H x v)(rs:aJ (aq α Z H) xs vs)(g:cg κ Φ α Z H (eQ x xs Ω) Q):qF v vs H Q:=by
 unfold eQ at g;split at g
 .rename_i k h c
  obtain⟨a,d,rfl,e,b,f⟩:=f_ S r c;rw[rs.nil_inv];exact⟨a,d,rfl,rfl,b,iw S e b f.reverse (bp rfl) g⟩
 .exact g.elim
theorem we{x:D}{v:V}{xs:List D}{vs:List V}(S:bH κ α Z Ω H)(r:aq α Z H x v)(rs:aJ (aq α Z H) xs vs)(g:cg κ Φ α Z H (eZ x xs Ω) Q):uy v vs H Q:=by
 unfold eZ at g;split at g
 .rename_i k m i y f
  obtain⟨a,h,rfl,j,d,b⟩:=f_ S r f;obtain⟨u,w,rfl,e,l⟩:=Bm rs;simp only[aq]at e;subst e;split at g
  .rename_i c
   simp only[Bool.and_eq_true]at c;have:=bI c.1;have n:=qO c.2;refine⟨a,h,i,w,rfl,rfl,d,by omega,by omega,by rw[b.length];omega,iw S j d ?_ (bp rfl) g⟩
   unfold ph;rw[b.length];exact(b.take _).append (.cons l (b.drop _))
  .exact g.elim
 .exact g.elim
theorem wg{x:D}{v:V}{xs:List D}{vs:List V}(S:bH κ α Z Ω H)(r:aq α Z H x v)(rs:aJ (aq α Z H) xs vs)(g:cg κ Φ α Z H (iN x xs Ω) Q):uo v vs H Q:=by
 unfold iN at g;split at g
 .rename_i k q y f
  obtain⟨a,h,rfl,i,c,d⟩:=f_ S r f;obtain⟨u,rfl,j⟩:=jM rs;split at g
  .rename_i n s l
   obtain⟨b,m,rfl,t,o,e⟩:=f_ S j l;split at g
   .rename_i p
    exact⟨a,b,h,m,rfl,rfl,c,o,by rw[d.length,e.length];exact bI p,iw S i c (d.append e) (bp rfl) g⟩
   .exact g.elim
  .exact g.elim
 .exact g.elim
theorem Bn{x:D}{v:V}{xs:List D}{vs:List V}(S:bH κ α Z Ω H)(r:aq α Z H x v)(rs:aJ (aq α Z H) xs vs)(g:cg κ Φ α Z H (rg x xs Ω) Q):rJoin v vs H Q:=by
 unfold rg at g;split at g
 .obtain⟨u,rfl,c⟩:=jM rs
  obtain⟨d,e,f,n,h,i,a,k⟩:=jF (bw:=false) S r c g;cases d with
  |str z=>
   cases dE h;cases e with
   |lst j=>
    (unfold Eh at a;dsimp only at a)
    split at a
    .rename_i l m
     split at a
     .rename_i b
      cases a;simp only[Bool.and_eq_true,decide_eq_true_eq]at b;exact⟨z,_,j,l,u,rfl,rfl,i,m,b.1,b.2,mn (eE S) k rfl⟩
     .cases a
    .cases a
   |_=>cases a
  |_=>cases e<;>cases a
 .exact g.elim
end
inductive Src where
 |seq (x:D)|ints (lo:Int) (n:Nat)|chars (z:Str)|Hs (x:D)|keys (k:Nat)|items (k:Nat)
def en:Src->aD->Option (List D)
 |.seq x,Ω=>gz Ω x
 |.ints lo n,_=>some (intsFrom lo n)
 |.chars z,_=>some (z.cps.toList.map λc=>.str (bE c))
 |.Hs x,Ω=>(dY Ω x).map (dD 0)
 |.keys k,Ω=>match Ω[k]? with
  |some (.dF kvs)=>some (kvs.map λa=>j_ a.1)
  |_=>none
 |.items k,Ω=>match Ω[k]? with
  |some (.dF kvs)=>some (kvs.map λa=>.tup [j_ a.1,a.2])
  |_=>none
abbrev IM:=aR->aD->ax Src
def wh(κ:Str->Addr->Prop)(s:Src)(J:It)(j:List Addr)(Z:Addr->Prop)(H:Hp):Prop:=∀a f b c g,cU j Z H a f c->bH κ a f b c->en s b=some g ->
 (∀(i:Nat) (d:D),g[i]?=some d->J.go i c/\∀x e,J.Kj i c x e->∃h,cU a f c a h e/\bH κ a h b e/\aq a h e d x)/\∀i,g.length<=i->J.stop i c
def rW(κ:Str->Addr->Prop)(Φ:gS)(e:List Addr)(Z:Addr->Prop)(H:Hp)(r:ax Src)(R:It->Hp->Prop):Prop:=match r with
 |.ok s b=>∀J c a d,cU e Z H a d c->bH κ a d b c->wh κ s J a d c->R J c
 |.exc x b=>∀c a d,cU e Z H a d c->bH κ a d b c->Φ x b a d c
 |.bad=>False
noncomputable def Tn(κ:Str->Addr->Prop)(Φ:gS)(a:List Addr)(c:Addr->Prop)(d:Hp)(m:IM)(ρ:aR)(Ω:aD):TI:=λe H R=>∃b Z,dh κ a c d b Z Ω ρ e H/\rW κ Φ b Z H (m ρ Ω) R
def wV(X:Cx)(κ:Str->Addr->Prop)(Φ:gS)(b e:Expr)(m:IM):Prop:=∀a c d f g,PI X b e (Tn κ Φ a c d m f g)
def srcOf(Ω:aD)(x:D):ax Src:=match gz Ω x,x with
 |some _,x=>.ok (.seq x) Ω
 |none,.str z=>.ok (.chars z) Ω
 |none,.ref k=>(match Ω[k]? with
  |some (.dK a)=>.ok (.keys k) (Ω.set k (.dF a))
  |some (.dF _)=>.ok (.keys k) Ω
  |_=>.bad)
 |none,_=>.bad
def aZ(m:EM):IM:=λb c=>(m b c).bind λx a=>srcOf a x
noncomputable def uL(Ω:aD)(x:D):ax Src:=match x with
 |.ref k=>(match Ω[k]? with
  |some (.dK a)=>.ok (.items k) (Ω.set k (.dF a))
  |some (.dF _)=>.ok (.items k) Ω
  |_=>.bad)
 |_=>.bad
def iz(m:EM):IM:=λb c=>(m b c).bind λx a=>uL a x
def kX(m:EM):IM:=λb c=>(m b c).bind λx a=>match dY a x with
 |some _=>.ok (.Hs x) a
 |none=>.bad
def uM(xs:List D)(Ω:aD):ax Src:=match xs with
 |[.int j]=>if nH j then .ok (.ints 0 j.toNat) Ω else .bad
 |_=>.bad
def er(a:AM):IM:=λb c=>(a b c).bind uM
section
variable{X:Cx}{κ:Str->Addr->Prop}{Φ:gS}{α α' iZ α1:List Addr}{Z Z' Z0 Z1:Addr->Prop}{Ω ai:aD}{H H' H0 H1:Hp}{ρ:aR}{σ:L2.St}{Q Q':VK}{r:ax D}{a b e ce o tg:Expr}{rest:List Expr}{es:List Expr}{ma mb mc m mo:EM}{as:AM}{pos p apos cpos tpos:Pos}
theorem rW.from{r:ax Src}{R:It->Hp->Prop}(g:cU α Z H α1 Z1 H1)(h:rW κ Φ α Z H r R):rW κ Φ α1 Z1 H1 r R:=by
 cases r with
 |ok d b=>exact λv c a e f=>h v c a e (g.trans f)
 |exc x b=>exact λc a e f=>h c a e (g.trans f)
 |bad=>exact h
theorem rW.use{r:ax D}{f:D->aD->ax Src}{R:It->Hp->Prop}(h:rW κ Φ α Z H (r.bind f) R)(k:∀d aB,r=.ok d aB->∀v b a c,cU α Z H a c b->bH κ a c aB b->aq a c b d v->rW κ Φ a c b (f d aB) R->Q' v b):cg κ Φ α Z H r Q':=by
 cases r with
 |ok d aB=>exact λv b a c g s q=>k d aB rfl v b a c g s q (rW.from g h)
 |exc x aB=>exact h
 |bad=>exact h
theorem rh{K:PySem.W.Frag}{x:D}{a:Addr}(p:aq α Z H x (.ref a))(S:bH κ α Z Ω H)(q:(dY Ω x).isSome=true):wh κ (.seq x) (Mo K a) α Z H:=by
 intro r t b C u g s w;have c:=S.dO g p;have f:∀h,x≠.tup h:=λh e=>by subst e;cases q
 have j:dY b x=some u:=by
  cases x with
  |tup h=>exact absurd rfl (f _)
  |_=>exact w
 obtain⟨E,k,e,l,n⟩:=cH s c j;cases e;refine⟨λi d z=>?_,λi A=>⟨k,lV l,by rw[n.length];exact A⟩⟩
 obtain⟨v,o,B⟩:=n.get z;refine⟨⟨k,v,lV l,o⟩,λy F m=>?_⟩
 obtain⟨rfl,m⟩:=m;have:=m k (lV l);rw[o]at this;cases this;exact⟨t,cU.refl s.has,s,B⟩
theorem Bo{K:PySem.W.Frag}{es:List D}{a:Addr}(l:aq α Z H (.tup es) (.ref a))(S:bH κ α Z Ω H):wh κ (.seq (.tup es)) (Mp K a) α Z H:=by
 intro m n o u w g s p;have b:=S.dO g l;cases p;obtain⟨x,c,e,_,f,j⟩:=iL b;cases e;refine⟨λi d q=>?_,λi r=>⟨c,wU (.inl f),by rw[j.length];exact r⟩⟩
 obtain⟨v,k,t⟩:=j.get q;refine⟨⟨c,v,wU (.inl f),k⟩,λy z h=>?_⟩
 obtain⟨rfl,h⟩:=h;have:=h c (wU (.inl f));rw[k]at this;cases this;exact⟨n,cU.refl s.has,s,t⟩
theorem ri{k:Nat}{a:Addr}{o:Obj}{kvs:List (Key×V)}(w:α[k]?=some a)(y:H a=some (.dW o (.dK kvs))):wh κ (.keys k) (Hn a o) α Z H:=by
 intro z A B G I g s f;have h:=g.pre k a w;have b:=g.dW a _ _ y;simp only[en]at f;split at f
 .rename_i l C
  cases f;obtain⟨J,c,K,m,n,r⟩:=s.cell C;rw[h]at c;cases c
  rw[b]at n;cases n
  have L:=r.length;refine⟨λi d t=>?_,λi D=>⟨kvs,b,by rw[List.length_map]at D;omega⟩⟩
  rw[List.getElem?_map]at t;obtain⟨p,E,rfl⟩:=Option.map_eq_some_iff.mp t;obtain⟨q,u,F,_⟩:=aJ.get r E;refine⟨⟨kvs,b,(List.getElem?_eq_some_iff.mp u).1⟩,λx M j=>?_⟩
  obtain⟨rfl,j⟩:=j;obtain⟨N,e,rfl⟩:=j kvs b;rw[u]at e;cases e
  refine⟨A,cU.refl s.has,s,?_⟩;rw[F];cases q.1<;>simp only[j_,kV,aq]
 .cases f
theorem oy{k:Nat}{a:Addr}{o:Obj}{kvs:List (Key×V)}(B:α[k]?=some a)(C:H a=some (.dW o (.dK kvs))):wh κ (.items k) (Hr a o) α Z H:=by
 intro D E F M N g s f;have h:=g.pre k a B;have b:=g.dW a _ _ C;simp only[en]at f;split at f
 .rename_i r G
  cases f;obtain⟨O,c,P,t,u,w⟩:=s.cell G;rw[h]at c;cases c
  rw[b]at u;cases u
  have Q:=w.length;refine⟨λi d y=>?_,λi I=>⟨kvs,b,by rw[List.length_map]at I;omega⟩⟩
  rw[List.getElem?_map]at y;obtain⟨p,J,rfl⟩:=Option.map_eq_some_iff.mp y;obtain⟨q,z,K,L⟩:=aJ.get w J;refine⟨⟨kvs,b,(List.getElem?_eq_some_iff.mp z).1⟩,λx R j=>?_⟩
  obtain⟨l,rfl,m,j⟩:=j;obtain⟨S,e,rfl⟩:=j kvs b;rw[z]at e;cases e
  obtain⟨A,n⟩:=s.uD (p:=l) (o:=.tup [kV q.1,q.2]) m True;simp only[if_true]at A n;refine⟨Zp E l,n,A,?_⟩;simp only[aq];refine⟨l,_,rfl,.inr rfl,ba,cz.mpr (.cons ?_ (.one (s.dO n L)))⟩;rw[K];cases q.1<;>simp only[j_,kV,aq]
 .cases f
theorem Bp(h:bq X κ Φ e m):wV X κ Φ tg e (aZ m):=by
 intro G O P Q T;refine PI.imp (Bf (h G O P Q T)) ?_;rintro σ H R ⟨U,Z,S,g⟩;refine⟨U,Z,S,rW.use g λx I _ v w k t g1 b r j=>?_⟩
 cases x with
 |tup M=>
  have l:=r;obtain⟨a,A,rfl,_,p,B⟩:=iL r;exact .inr (.inl ⟨a,A,rfl,.inl p,j _ w k t (cU.refl b.has) b (Bo l b)⟩)
 |lst M=>
  have l:=r;obtain⟨a,A,rfl,p,B⟩:=cH (ds:=M) b r rfl;exact .inl ⟨a,A,rfl,p,j _ w k t (cU.refl b.has) b (rh l b rfl)⟩
 |ref n=>
  cases s:dY I (.ref n)with
  |none=>
   simp only[srcOf,gz,s]at j;simp only[aq]at r;obtain⟨a,C,rfl⟩:=r;split at j
   .rename_i D J
    obtain⟨V,q,f,p,B⟩:=b.cell J;rw[C]at q;cases q
    refine .inr (.inr (.inr ⟨a,f,rfl,.inl ⟨p,λo=>?_⟩⟩))
    obtain⟨E,N⟩:=b.put (o:=.dW o (.dK f)) (c:=.dF D) C (λo u z=>by rw[p]at z;cases z) λR Y=>⟨o,f,ba,B.imp Y⟩
    exact j _ _ k t N E (ri C ba)
   .rename_i D J
    obtain⟨V,q,o,f,p,B⟩:=b.cell J;rw[C]at q;cases q
    exact .inr (.inr (.inr ⟨a,f,rfl,.inr ⟨o,p,j _ w k t (cU.refl b.has) b (ri C p)⟩⟩))
   .exact j.elim
  |some ds=>
   simp only[srcOf,gz,s]at j;have l:=r;obtain⟨a,A,rfl,p,B⟩:=cH b r s;exact .inl ⟨a,A,rfl,p,j _ w k t (cU.refl b.has) b (rh l b (by rw[s];rfl))⟩
 |str z=>
  simp only[aq]at r;subst r;refine .inr (.inr (.inl ⟨z,rfl,j _ w k t (cU.refl b.has) b ?_⟩));intro a0 Z2 b0 H2 ds N E hs;cases hs;refine⟨λi d F=>?_,λi K=>by show z.cps.size<=i;simpa using K⟩
  have K:i<z.cps.size:=by
   have:=(List.getElem?_eq_some_iff.mp F).1;simpa using this
  refine⟨K,λy H3 hy=>?_⟩
  obtain⟨rfl,c,hc,rfl⟩:=hy;rw[List.getElem?_map]at F;have L:z.cps.toList[i]?=some c:=by simpa using hc
  rw[L]at F;cases F;exact⟨Z2,cU.refl E.has,E,bp rfl⟩
 |non=>exact j.elim
 |bl _=>exact j.elim
 |int _=>exact j.elim
 |dct _ _=>exact j.elim
theorem yq{b:Int}{n:Nat}:wh κ (.ints b n) (GJ b n) α Z H:=by
 intro e f h l m g s j;cases j;refine⟨λi d c=>?_,λi a=>by rw[mq]at a;exact a⟩
 have a:=(List.getElem?_eq_some_iff.mp c).1;rw[mq]at a;refine⟨a,λy o k=>?_⟩
 obtain⟨rfl,rfl⟩:=k;rw[ints_get _ _ _ _ c];exact⟨f,cU.refl s.has,s,bp rfl⟩
theorem rW.MK{r:ax (List D)}{f:List D->aD->ax Src}{R:It->Hp->Prop}{Q':List V->Hp->Prop}(h:rW κ Φ α Z H (r.bind f) R)(k:∀ds aB,r=.ok ds aB->∀vs b a c,cU α Z H a c b->bH κ a c aB b->aJ (aq a c b) ds vs->rW κ Φ a c b (f ds aB) R->Q' vs b):qj κ Φ α Z H r Q':=by
 cases r with
 |ok d aB=>exact λv b a c g s q=>k d aB rfl v b a c g s q (rW.from g h)
 |exc x aB=>exact h
 |bad=>exact h
theorem yr(l:Gl X "range")(m:X.mg "range"=none)(n:qk X κ Φ [a] as)(o:starEach [a] X.env=[(false,eval a X.env)]):wV X κ Φ tg (.Call (.Name "range" p) [a] [] pos) (er as):=by
 intro d q r s t;refine PI.imp (vy l m (n d q r s t) o) ?_;rintro z H R ⟨u,Z,S,g⟩;refine⟨u,Z,S,rW.MK (Q':=λh e=>∃j:Int,h=[.int j] /\ -(2 ^ 62)<=j/\j<2 ^ 62/\R (GJ 0 j.toNat) e) g λA w _ h e f x B i y b=>?_⟩
 unfold uM at b;split at b
 .obtain⟨v,rfl,k⟩:=jM y
  simp only[aq]at k;subst k;split at b
  .rename_i c
   have c:=qO c;exact⟨_,rfl,c.1,c.2,b _ e f x (cU.refl i.has) i yq⟩
  .exact b.elim
 .exact b.elim
noncomputable def mR(n:Nat)(d:D):Option aR:=match n,d with
 |0,d=>some [some d]
 |n,.tup a=>if a.length=n then some (a.map some)else none
 |_,_=>none
noncomputable def dH(cap:List Nat)(ρ:aR):aR:=cap.map λi=>(ρ[i]?).join
def hG(nc:Bool)(mc:EM)(ρ:aR)(Ω:aD):ax Bool:=if nc=true then .ok true Ω else cw (mc ρ Ω)
def qm(nc:Bool)(mc me:EM)(n:Nat)(τ:aR)(src:Src):Nat->Nat->List D->aD->ax (List D)
 |0,_,_,_=>.bad
 |f+1,i,a,Ω=>match en src Ω with
  |none=>.bad
  |some ds=>match ds[i]? with
   |none=>.ok a Ω
   |some d=>match mR n d with
    |none=>.bad
    |some ts=>if small (a.length+1)then match hG nc mc (ts++τ) Ω with
     |.ok true aB=>match me (ts++τ) aB with
      |.ok y kY=>qm nc mc me n τ src f (i+1) (a++[y]) kY
      |_=>.bad
     |.ok false aB=>qm nc mc me n τ src f (i+1) a aB
     |_=>.bad else .bad
def bF(me:EM)(nc:Bool)(mc:EM)(mi:IM)(n:Nat)(cap:List Nat):EM:=λc d=>match mi c d with
 |.ok s a=>match qm nc mc me n (dH cap c) s fuel 0 [] a with
  |.ok e b=>jf b (.lst e)
  |_=>.bad
 |.exc x a=>.exc x a
 |.bad=>.bad
noncomputable def rX:gS:=λ_ _ _ _ _=>False
theorem rj{cap:List Nat}{ds:List D}{vs:List V}(S:dh κ iZ Z0 H0 α Z Ω ρ σ H)(g:cU α Z H α1 Z1 H1)(s:bH κ α1 Z1 ai H1)(r:aJ (aq α1 Z1 H1) ds vs) :
  dh κ α1 Z1 H1 α1 Z1 ai (ds.map some++dH cap ρ) (vs.map some++qR cap σ) H1:=by
 have a:=r.length;refine⟨s,cU.refl s.has,?_,λi d h=>?_⟩
 .rw[List.length_append,List.length_append,List.length_map,List.length_map,a]
  unfold qR dH;rw[List.length_map,List.length_map]
 .by_cases b:i<ds.length
  .rw[List.getElem?_append_left (by simpa using b),List.getElem?_map]at h
   rw[List.getElem?_append_left (by simpa[a]using b),List.getElem?_map]
   cases q:ds[i]? with
   |none=>rw[q]at h;cases h
   |some l=>
    rw[q]at h;cases h;obtain⟨v,c,e⟩:=r.get q;exact⟨v,by rw[c];rfl,e⟩
  .rw[List.getElem?_append_right (by simpa using b)]at h
   rw[List.getElem?_append_right (by simpa[a]using b)]
   unfold dH at h;unfold qR;rw[List.length_map,List.getElem?_map]at h;rw[List.length_map,a,List.getElem?_map];cases q:cap[i - ds.length]? with
   |none=>rw[q]at h;cases h
   |some j=>
    rw[q]at h;have h:(ρ[j]?).join=some d:=by simpa using h
    have k:ρ[j]?=some (some d):=by
     cases f:ρ[j]? with
     |none=>rw[f]at h;cases h
     |some o=>rw[f]at h;rw[show o=some d from h]
    obtain⟨v,c,e⟩:=S.val j d k;refine⟨v,?_,S.st.dO g e⟩
    show some ((σ[j]?).join)=_
    rw[c];rfl
theorem cU.Dj(g:cU α Z H α' Z' H'){a:Addr}{o:HO}(b:a∉α)(h:H a=some o):a∉α':=λq=>by
 rcases g.Dh a q with q|q
 .exact b q
 .rw[h]at q;cases q
theorem cU.Ez(g:cU α Z H α' Z' H'){a:Addr}{o:HO}(b:¬ Z a)(h:H a=some o):¬ Z' a:=λq=>by
 rcases g.new a q with q|q
 .exact b q
 .rw[h]at q;cases q
theorem cU.side(g:cU α Z H α' Z' H'){a:Addr}{o:HO}(d:a∉α)(h:H a=Option.none):cU α Z H α' Z' (upd H' a o):=
 ⟨g.pre,g.sub,g.new,g.Dh,λb u e c=>by rw[aM (bf e h)];exact g.frm b u e c,λb c=>by rw[aM (λ(q:b=a)=>d (by rw[←q];exact c))];exact g.has b c,λb f u e=>by rw[aM (bf e h)];exact g.dW b f u e⟩
theorem Bq{n:Nat}{d:D}{τ:aR}(h:mR n d=some τ):∃ds:List D,τ=ds.map some:=by
 unfold mR at h;split at h
 .cases h;exact⟨[d],rfl⟩
 .split at h
  .cases h;exact⟨_,rfl⟩
  .cases h
 .cases h
theorem bH.part(S:bH κ α Z Ω H){g:Addr}{vs:List V}{ds:List D}(i:H g=some (.lst vs))(j:g∉α)(hz:¬ Z g)(r:aJ (aq α Z H) ds vs):bH κ (α++[g]) Z (Ω++[.lst ds]) H:=by
 have h:∀(n:Nat) (a:Addr),α[n]?=some a->(α++[g])[n]?=some a:=λn a e=>by rw[List.getElem?_append_left (List.getElem?_eq_some_iff.mp e).1];exact e
 have mono:∀d v,aq α Z H d v->aq (α++[g]) Z H d v:=λd v r=>r.mono h (λ_ _ _ e=>e) λ_ z=>z
 refine⟨?_,?_,λa ha f=>?_,S.dom⟩
 .refine List.nodup_append.mpr ⟨S.sS,by simp,λa ha b k e=>?_⟩
  rw[List.mem_singleton.mp k]at e;exact j (e▸ha)
 .exact aJ.append (S.ye.imp λc a l=>l.imp mono (λ_ e=>e) λ_ _ _ e=>e) (.one ⟨vs,i,r.imp mono⟩)
 .rcases List.mem_append.mp ha with ha|ha
  .exact S.sep a ha f
  .rw[List.mem_singleton.mp ha]at f;exact hz f
theorem bH.side(S:bH κ α Z Ω H){f:Addr}{o:HO}(m:f∉α)(hz:¬ Z f)(n:∀o u,H f≠some (.dW o u)):bH κ α Z Ω (upd H f o)/\∀d v,aq α Z H d v->aq α Z (upd H f o) d v:=by
 have mono:∀d v,aq α Z H d v->aq α Z (upd H f o) d v:=λd v r=>r.mono (λ_ _ e=>e) (λa u z e=>by rw[aM (λ(q:a=f)=>hz (by rw[←q];exact z))];exact e) λ_ z=>z
 have k:∀{j:List Cell}{g:List Addr},(∀a∈g,a∈α)->aJ (λc a=>ij κ (aq α Z H) H a c) j g->aJ (λc a=>ij κ (aq α Z (upd H f o)) (upd H f o) a c) j g:=by
  intro j g i p
  induction p with
  |nil=>exact .nil
  |@cons c a j g r t s=>
   have l:a≠f:=λq=>m (q▸i a (by simp))
   exact .cons (r.imp mono (λu e=>by rw[aM l];exact e) λb w x e=>by rw[aM (λq=>n w x (by rw[←q];exact e))];exact e) (s λb y=>i b (by simp[y]))
 exact⟨⟨S.sS,k (λa h=>h) S.ye,S.sep,λa z=>by rw[aM (λ(q:a=f)=>hz (by rw[←q];exact z))];exact S.dom a z⟩,mono⟩
end
section
variable{X:Cx}{κ:Str->Addr->Prop}{Φ:gS}{tg iter elt:Expr}{ifs:List Expr}{scope:Scope}{tn cn:List Str}{cap:List Nat}{me mc:EM}{mi:IM}{nc:Bool}{pos:Pos}{n:Nat}
theorem wj{g:TG}(m0:wV X κ Φ tg iter mi)
  (n0:∀(d:D) (ds:List D) x p Z Ω H (m:L2.St) (k:L2.St->Hp->Prop),mR n d=some (ds.map some)->bH κ p Z Ω H->aq p Z H d x->(∀vs,aJ (aq p Z H) ds vs->k (vs.map some++m) H)->g x (List.replicate tn.length none++m) H k)
  (hb:∀B C h j fp,PG (blk X scope B C (tn++cn) h j fp) tg g/\((ifs=[]/\nc=true)\/∃c,ifs=[c]/\nc=false/\il (blk X scope B C (tn++cn) h j fp) κ rX c mc)/\bq (blk X scope B C (tn++cn) h j fp) κ rX elt me) :
  ∀V Z0 H0 ρ Ω,∃wi tc te,PI X tg iter wi/\(∀B C h j fp,PG (blk X scope B C (tn++cn) h j fp) tg g/\Aj (blk X scope B C (tn++cn) h j fp) ifs tc/\PE (blk X scope B C (tn++cn) h j fp) elt te) /\
   ∀σ H Q,tO κ Φ V Z0 H0 (bF me nc mc mi n cap) ρ Ω σ H Q->n_ wi tn.length cap g tc te σ H Q:=by
 intro V Z0 H0 ρ Ω
 let tc:TT:=λm H Q=>∃p Z Ω r,dh κ p Z H p Z Ω r m H/\qh κ rX p Z H (hG nc mc r Ω) Q
 let te:TE:=λm H Q=>∃p Z Ω r,dh κ p Z H p Z Ω r m H/\cg κ rX p Z H (me r Ω) Q
 have o0:∀B C h j fp,PG (blk X scope B C (tn++cn) h j fp) tg g/\Aj (blk X scope B C (tn++cn) h j fp) ifs tc/\PE (blk X scope B C (tn++cn) h j fp) elt te:=by
  intro B C h j fp;obtain⟨h1,h2,h3⟩:=hb B C h j fp;refine⟨h1,?_,?_⟩
  .rcases h2 with ⟨e,hn⟩|⟨c,e,hn,h2⟩
   .subst e
    intro pins s m H Q I q;obtain⟨p,Z,Ω,r,S,k⟩:=q;rw[hG,if_pos hn]at k;exact Ak pins s m H Q I (k H p Z (cU.refl S.st.has) S.st)
   .subst e
    intro pins s m H Q I q;obtain⟨p,Z,Ω,r,S,k⟩:=q;rw[hG,if_neg (by rw[hn];exact Bool.false_ne_true)]at k
    exact Al (h2 p Z H r Ω) pins s m H Q I ⟨p,Z,S,k⟩
  .intro pins s m H Q I q
   obtain⟨p,Z,Ω,r,S,k⟩:=q;exact h3 p Z H r Ω pins s m H Q I ⟨p,Z,S,k⟩
 refine⟨_,tc,te,m0 V Z0 H0 ρ Ω,o0,?_⟩;rintro σ H Q ⟨p,Z,S,k⟩;refine⟨p,Z,S,?_⟩;simp only[bF]at k;cases qi:mi ρ Ω with
 |exc x Y=>rw[qi]at k;exact k
 |bad=>rw[qi]at k;exact k.elim
 |ok a0 Y=>
  rw[qi]at k;dsimp only at k;intro J H1 K Z1 g1 s1 w1 E hD;cases qg:qm nc mc me n (dH cap ρ) a0 fuel 0 [] Y with
  |exc x e0=>rw[qg]at k;exact k.elim
  |bad=>rw[qg]at k;exact k.elim
  |ok ys e0=>
   rw[qg]at k;dsimp only at k;have R:¬ Z1 E:=λz=>s1.dom E z hD
   have A:E∉K:=λz=>s1.has E z hD
   refine⟨λi f vs T=>∃t U w F,cU K Z1 H1 t U T/\bH κ t U w T/\E∉t/\¬ U E/\T E=some (.lst vs)/\aJ (aq t U T) F vs/\qm nc mc me n (dH cap ρ) a0 f i F w=.ok ys e0,
    ⟨fuel,K,Z1,Y,[],?_,?_,A,R,ba,.nil,qg⟩,?_⟩
   .exact⟨λ_ _ e=>e,λ_ z=>z,λ_ z=>.inl z,λ_ z=>.inl z,λa o e _=>by rw[aM (bf e hD)];exact e,λa ha=>by rw[aM (λ(q:a=E)=>A (by rw[←q];exact ha))];exact s1.has a ha,λa o u e=>by rw[aM (bf e hD)];exact e⟩
   .exact(s1.side A R λo u z=>by rw[hD]at z;cases z).1
   rintro i f vs T ⟨t,U,w,F,G,s2,nD,nZ,L,r2,l⟩;refine⟨L,?_⟩;cases f with
   |zero=>cases l
   |succ f=>
    simp only[qm]at l;cases qs:en a0 w with
    |none=>rw[qs]at l;cases l
    |some ds=>
     rw[qs]at l;dsimp only at l;obtain⟨p0,q0⟩:=w1 t U w T ds G s2 qs;cases qd:ds[i]? with
     |none=>
      rw[qd]at l;cases l;have hi:ds.length<=i:=List.getElem?_eq_none_iff.mp qd;refine .inl ⟨q0 i hi,?_⟩;have sf:=s2.part L nD nZ r2
      have gA:cU K Z1 H1 (t++[E]) U T:=⟨λn a e=>by rw[List.getElem?_append_left (List.getElem?_eq_some_iff.mp (G.pre n a e)).1];exact G.pre n a e,G.sub,G.new,λa ha=>by
       rcases List.mem_append.mp ha with ha|ha
       .exact G.Dh a ha
       .rw[List.mem_singleton.mp ha];exact .inr hD,G.frm,G.has,G.dW⟩
      exact k _ T _ U (g1.trans gA) sf (fW s2 E)
     |some d=>
      rw[qd]at l;dsimp only at l;obtain⟨r0,s0⟩:=p0 i d qd;cases qt:mR n d with
      |none=>rw[qt]at l;cases l
      |some ts=>
       rw[qt]at l;dsimp only at l;obtain⟨es,rfl⟩:=Bq qt
       by_cases M:small (F.length+1)=true
       .rw[if_pos M]at l
        have M:=bI M;refine .inr ⟨r0,by rw[r2.length];omega,λx H3 yl=>?_⟩
        obtain⟨Z3,g3,s3,rx⟩:=s0 x H3 yl;have t0:=g3.Ez nZ L;have b0:=g3.frm E _ L nD;refine n0 d es x t Z3 w H3 (qR cap σ) _ qt s3 rx λws f0=>?_
        have gB:=g1.trans (G.trans g3);have SB:=rj (cap:=cap) S gB s3 f0;refine⟨t,Z3,w,_,SB,?_⟩;cases qc:hG nc mc (es.map some++dH cap ρ) w with
        |exc x N=>rw[qc]at l;cases l
        |bad=>rw[qc]at l;cases l
        |ok b N=>
         rw[qc]at l;intro H5 g0 Z5 O s5;have c0:=O.Dj nD b0;have h0:=O.Ez t0 b0;have P:=O.frm E _ b0 nD;cases b with
         |false=>
          refine qL ?_;exact⟨f,Nat.lt_succ_self _,g0,Z5,N,F,G.trans (g3.trans O),s5,c0,h0,P,s3.jD O (s2.jD g3 r2),l⟩
         |true=>
          refine qM ?_;dsimp only at l;have SC:=rj (cap:=cap) S (gB.trans O) s5 (s3.jD O f0);refine⟨g0,Z5,N,_,SC,?_⟩;cases qe:me (es.map some++dH cap ρ) N with
          |exc x i0=>rw[qe]at l;cases l
          |bad=>rw[qe]at l;cases l
          |ok y i0=>
           rw[qe]at l;intro v H6 u0 Z6 g6 s6 rv;have j0:=g6.Dj c0 P;have k0:=g6.Ez h0 P;have l0:=g6.frm E _ P c0;obtain⟨s7,m7⟩:=s6.side (o:=.lst (vs++[v])) j0 k0 (λo u z=>by rw[l0]at z;cases z)
           refine⟨l0,f,Nat.lt_succ_self _,u0,Z6,i0,F++[y],((G.trans (g3.trans O)).trans g6).side A hD,s7,j0,k0,ba,?_,l⟩;exact((s5.jD g6 (s3.jD O (s2.jD g3 r2))).append (.one rv)).imp m7
       .rw[if_neg M]at l;cases l
theorem mS{x:Str}{j:Pos}(l:wV X κ Φ (.Name x j) iter mi)(w:scope.names.lookup x=some .local)(m:([x]++cn).Nodup)
  (z:∀h C b f fp,((ifs=[]/\nc=true)\/∃c,ifs=[c]/\nc=false/\il (blk X scope h C ([x]++cn) b f fp) κ rX c mc)/\bq (blk X scope h C ([x]++cn) b f fp) κ rX elt me) :
  ∀n A B ρ Ω,∃p q s,PI X (.Name x j) iter p/\(∀h C b f fp,PG (blk X scope h C ([x]++cn) b f fp) (.Name x j) (iW 0)/\Aj (blk X scope h C ([x]++cn) b f fp) ifs q/\PE (blk X scope h C ([x]++cn) b f fp) elt s) /\
   ∀t H Q,tO κ Φ n A B (bF me nc mc mi 0 cap) ρ Ω t H Q->n_ p [x].length cap (iW 0) q s t H Q:=by
 have u:(relabel scope X.env).names.lookup x=some .local:=lookup_relabel_local w;refine wj (g:=iW 0) (tn:=[x]) l (λd o y J Z Ω H D k i S E F=>?_) λh C b f fp=>?_
 .have i:some [some d]=some (o.map some):=i
  have e:o=[d]:=by
   injection i with i;cases o with
   |nil=>cases i
   |cons a r=>
    cases r with
    |nil=>simp only[List.map_cons,List.map_nil,List.cons.injEq,Option.some.injEq,and_true]at i;rw[i]
    |cons _ _=>cases i
  subst e;exact F [y] (.one E)
 .obtain⟨G,I⟩:=z h C b f fp
  exact⟨oP (X:=blk X scope h C ([x]++cn) b f fp) m rfl (.inl u) (.inr u),G,I⟩
theorem yt{x:Str}{g:Pos}(i:X.calm=true)(B:kB X scope [x] cn cap)(j:∀z,foldedSetIterable iter X.env z=pure z)(d:wV X κ Φ (.Name x g) iter mi)(k:scope.names.lookup x=some .local)(e:([x]++cn).Nodup)
  (l:∀h C a b fp,((ifs=[]/\nc=true)\/∃c,ifs=[c]/\nc=false/\il (blk X scope h C ([x]++cn) a b fp) κ rX c mc)/\bq (blk X scope h C ([x]++cn) a b fp) κ rX elt me) :
  bq X κ Φ (.ListComp elt [⟨.Name x g,iter,ifs,0⟩] scope pos) (bF me nc mc mi 0 cap):=by
 intro f m n o p;obtain⟨t,u,w,q,r,s⟩:=mS (cap:=cap) d k e l f m n o p;exact PE.imp (Am i B q j (kD 1 (by decide)) r) s
end
inductive gc where
 |nx (ρ:aR) (Ω:aD)|bk (ρ:aR) (Ω:aD)|ct (ρ:aR) (Ω:aD)|rt (d:D) (Ω:aD)|exc (x:D) (Ω:aD)|bad
abbrev SM:=aR->aD->gc
def eV(κ:Str->Addr->Prop)(Φ:gS)(b:List Addr)(e:Addr->Prop)(f:Hp)(E:Ends):gc->Prop
 |.nx ρ Ω=>∀c H a Z,dh κ b e f a Z Ω ρ c H->E.nx c H
 |.bk ρ Ω=>∀c H a Z,dh κ b e f a Z Ω ρ c H->E.bk c H
 |.ct ρ Ω=>∀c H a Z,dh κ b e f a Z Ω ρ c H->E.ct c H
 |.rt d Ω=>∀v H a Z,cU b e f a Z H->bH κ a Z Ω H->aq a Z H d v->E.rt v H
 |.exc x Ω=>∀H a Z,cU b e f a Z H->bH κ a Z Ω H->Φ x Ω a Z H
 |.bad=>False
noncomputable def Ht(κ:Str->Addr->Prop)(Φ:gS)(a:List Addr)(b:Addr->Prop)(d:Hp)(c:SM)(ρ:aR)(Ω:aD):TS:=λE e H=>∃f Z,dh κ a b d f Z Ω ρ e H/\eV κ Φ a b d E (c ρ Ω)
def nN(X:Cx)(κ:Str->Addr->Prop)(Φ:gS)(st:Stmt)(c:SM):Prop:=∀a b d e f,PS X st (Ht κ Φ a b d c e f)
def nO(X:Cx)(κ:Str->Addr->Prop)(Φ:gS)(a:List Stmt)(c:SM):Prop:=∀b d e f g,kP X a (Ht κ Φ b d e c f g)
noncomputable def bK{c:Type}(r:ax c)(k:c->aD->gc):gc:=match r with
 |.ok a b=>k a b
 |.exc x b=>.exc x b
 |.bad=>.bad
noncomputable def ak:SM:=λa b=>.nx a b
noncomputable def aj(a b:SM):SM:=λe f=>match a e f with
 |.nx c d=>b c d
 |r=>r
def aA(i:Nat)(m:EM):SM:=λb c=>bK (m b c) λd a=>.nx (b.set i (some d)) a
def bA(m:EM):SM:=λb c=>bK (m b c) λ_ a=>.nx b a
def bT(m:EM):SM:=λb c=>bK (m b c) λd a=>.rt d a
def e_(m:EM)(a b:SM):SM:=λd e=>bK (cw (m d e)) λt c=>if t=true then a d c else b d c
noncomputable def cR:SM:=λ_ _=>.bad
def fv(m:EM)(b:SM):Nat->SM
 |0,_,_=>.bad
 |f+1,ρ,Ω=>bK (cw (m ρ Ω)) λt aB=>if t=true then (match b ρ aB with
  |.nx rY ai=>fv m b f rY ai
  |.ct rY ai=>fv m b f rY ai
  |.bk rY ai=>.nx rY ai
  |r=>r)else .nx ρ aB
def nP(m:EM)(b:SM):SM:=fv m b fuel
noncomputable def gF:List Nat->List D->aR->aR
 |i::a,d::ds,ρ=>gF a ds (ρ.set i (some d))
 |_,_,ρ=>ρ
noncomputable def dM(i:Nat)(d:D)(ρ:aR):Option aR:=some (ρ.set i (some d))
def eg(a:List Nat)(d:D)(ρ:aR):Option aR:=match d with
 |.tup b=>if b.length=a.length then some (gF a b ρ)else none
 |_=>none
def gf(a:D->aR->Option aR)(src:Src)(b:SM):Nat->Nat->SM
 |0,_,_,_=>.bad
 |f+1,i,ρ,Ω=>match en src Ω with
  |none=>.bad
  |some ds=>match ds[i]? with
   |none=>.nx ρ Ω
   |some d=>match a d ρ with
    |none=>.bad
    |some c=>match b c Ω with
     |.nx rY ai=>gf a src b f (i+1) rY ai
     |.ct rY ai=>gf a src b f (i+1) rY ai
     |.bk rY ai=>.nx rY ai
     |r=>r
def dt(a:D->aR->Option aR)(mi:IM)(b:SM):SM:=λd e=>bK (mi d e) λs c=>gf a s b fuel 0 d c
def wk(e:List Nat)(m:EM):SM:=λc f=>bK (m c f) λd a=>match eg e d c with
 |some b=>.nx b a
 |none=>.bad
section
variable{X:Cx}{κ:Str->Addr->Prop}{Φ:gS}{α α' iZ α1:List Addr}{Z Z' Z0 Z1:Addr->Prop}{Ω ai:aD}{H H' H0 H1:Hp}{ρ:aR}{σ:L2.St}{E:Ends}{a b e ce o tg:Expr}{st:Stmt}{rest ta tb:List Stmt}{m:EM}{mi:IM}{ca cb:SM}{pos pos':Pos}
theorem dh.set(S:dh κ iZ Z0 H0 α Z Ω ρ σ H){d:D}{v:V}(r:aq α Z H d v)(i:Nat):dh κ iZ Z0 H0 α Z Ω (ρ.set i (some d)) (σ.set i (some v)) H:=by
 refine⟨S.st,S.gr,by simp[S.len],λj c h=>?_⟩
 by_cases a:i=j
 .subst a
  have b:i<ρ.length:=by
   have:=(List.getElem?_eq_some_iff.mp h).1;simpa using this
  rw[List.getElem?_set_self b]at h;cases h;exact⟨v,by rw[List.getElem?_set_self (by rw[S.len];exact b)],r⟩
 .rw[List.getElem?_set_ne a]at h ⊢
  exact S.val j c h
theorem eV.use{r:ax D}{k:D->aD->gc}{Q:VK}(S:dh κ iZ Z0 H0 α Z Ω ρ σ H)(f:eV κ Φ iZ Z0 H0 E (bK r k))(h:∀d aB v b a c,r=.ok d aB->cU α Z H a c b->dh κ iZ Z0 H0 a c aB ρ σ b->aq a c b d v->eV κ Φ iZ Z0 H0 E (k d aB)->Q v b):cg κ Φ α Z H r Q:=by
 cases r with
 |ok d aB=>exact λv b a c g s q=>h d aB v b a c rfl g (S.grow g s) q f
 |exc x aB=>exact λb a c g s=>f b a c (S.gr.trans g) s
 |bad=>exact f
theorem eV.Hu{r:ax Bool}{k:Bool->aD->gc}{Q:Bool->Hp->Prop}(S:dh κ iZ Z0 H0 α Z Ω ρ σ H)(f:eV κ Φ iZ Z0 H0 E (bK r k))(h:∀t aB b a c,r=.ok t aB->cU α Z H a c b->dh κ iZ Z0 H0 a c aB ρ σ b->eV κ Φ iZ Z0 H0 E (k t aB)->Q t b):qh κ Φ α Z H r Q:=by
 cases r with
 |ok d aB=>exact λb a c g s=>h d aB b a c rfl g (S.grow g s) f
 |exc x aB=>exact λb a c g s=>f b a c (S.gr.trans g) s
 |bad=>exact f
theorem kP.ex{c:Type}{t:c->TS}{a:List Stmt}(h:∀i,kP X a (t i)):kP X a (λD b H=>∃i,t i D b H):=λpins s b H D I ⟨i,q⟩=>h i pins s b H D I q
theorem Br:nO X κ Φ [] ak:=by
 intro a d e g h;refine kP.imp zL ?_;rintro E b H ⟨c,Z,S,f⟩;exact f b H c Z S
theorem yu(k:nN X κ Φ st ca)(l:nO X κ Φ rest cb):nO X κ Φ (st::rest) (aj ca cb):=by
 intro c g h i j;refine kP.imp (w8 (k c g h i j) (kP.ex λp:aR×aD=>l c g h p.1 p.2)) ?_
 rintro E s H ⟨m,Z,S,f⟩;refine⟨m,Z,S,?_⟩;simp only[aj]at f;cases q:ca i j with
 |nx b a=>rw[q]at f;exact λn t e o r=>⟨(b,a),e,o,r,f⟩
 |bk b a=>rw[q]at f;exact f
 |ct b a=>rw[q]at f;exact f
 |rt d a=>rw[q]at f;exact f
 |exc x a=>rw[q]at f;exact f
 |bad=>rw[q]at f;exact f.elim
theorem Bs(h:bq X κ Φ e m):nN X κ Φ (.Return (some e) pos) (bT m):=by
 intro a i j k l;refine PS.imp (DM (h a i j k l)) ?_;rintro E t H ⟨n,Z,S,f⟩;exact⟨n,Z,S,eV.use S f λd o v p b q _ g c r s=>s v p b q c.gr c.st r⟩
theorem Bt{i:Nat}{x:Str}(c:X.N.Nodup)(j:X.N[i]?=some x)(k:Loc X.env.scope x)(l:X.fn x=true\/X.env.scope.names.lookup x=some .local)(n:swapsWith e (some (.Name x pos')) pos.line X.env=pure false)(h:bq X κ Φ e m) :
  nN X κ Φ (.Assign [.Name x pos'] e pos) (aA i m):=by
 intro a o p q s;refine PS.imp (DQ c j k (h a o p q s) n l) ?_;rintro E B H ⟨t,Z,S,f⟩;exact⟨t,Z,S,eV.use S f λd u v w b y _ g z r A=>A _ w b y (z.set r i)⟩
theorem yv{i:Nat}{x:Str}{k iter p:Expr}{l:List Expr}{scope:Scope}{tn q:List Str}{cap:List Nat}{g:TG}(G:X.N.Nodup)(I:X.N[i]?=some x)(J:X.env.scope.names.lookup x=some .local)
  (s:swapsWith (.ListComp k [⟨p,iter,l,0⟩] scope pos) (some (.Name x pos')) pos'.line X.env=pure true) (K:X.calm=true) (B:kB X scope tn q cap) (L:∀x,foldedSetIterable iter X.env x=pure x)
  (t:∀v c H Q,g v c H Q->g v c H λn M=>Q n M/\n.length=c.length/\∀j,tn.length<=j->n[j]?=c[j]?)
  (h:∀o u w ρ Ω,∃y z A,PI X p iter y/\(∀D C a b fp,PG (blk X scope D C (tn++q) a b fp) p g/\Aj (blk X scope D C (tn++q) a b fp) l z/\PE (blk X scope D C (tn++q) a b fp) k A) /\
   ∀c H Q,tO κ Φ o u w m ρ Ω c H Q->n_ y tn.length cap g z A c H Q) {e:Pos} (O:e.line=pos'.line) :
  nN X κ Φ (.Assign [.Name x pos'] (.ListComp k [⟨p,iter,l,0⟩] scope pos) e) (aA i m):=by
 intro o u w ρ Ω;obtain⟨y,z,A,P,R,T⟩:=h o u w ρ Ω;refine PS.imp (sO G I J (by rw[O];exact s) K B P L t R) ?_
 rintro E c H ⟨U,Z,S,f⟩;exact T c H _ ⟨U,Z,S,eV.use S f λd V v Y F Z1 _ g S1 r f1=>f1 _ Y F Z1 (S1.set r i)⟩
theorem Bu(c:swapsWith e none pos.line X.env=pure false)(h:bq X κ Φ e m):nN X κ Φ (.Expr e pos) (bA m):=by
 intro a i j k l;refine PS.imp (zM (h a i j k l) c) ?_;rintro E u H ⟨n,Z,S,f⟩;exact⟨n,Z,S,eV.use S f λd o v p b q _ g s r t=>t _ p b q s⟩
theorem EA(n:il X κ Φ e m)(o:nO X κ Φ ta ca)(p:nO X κ Φ tb cb):nN X κ Φ (.If e ta tb pos) (e_ m ca cb):=by
 intro b h i j q;refine PS.imp (GG (n b h i j q) (kP.ex λa=>o b h i j a) (kP.ex λa=>p b h i j a)) ?_
 rintro E s H ⟨r,Z,S,f⟩;refine⟨r,Z,S,eV.Hu S f λt a u c k _ g l d=>?_⟩
 cases t with
 |true=>rw[if_pos rfl]at d;exact qM ⟨a,c,k,l,d⟩
 |false=>rw[if_neg Bool.false_ne_true]at d;exact qL ⟨a,c,k,l,d⟩
theorem oz:nN X κ Φ st cR:=λa b c d e pins s g H E I ⟨h,Z,S,f⟩=>f.elim
theorem wm(L:PassesOwn (model X.prog X.w) X.A X.env X.xe)(M:il X κ Φ e m)(N:nO X κ Φ tb cb):nN X κ Φ (.While e tb [] pos) (nP m cb):=by
 intro b o r j k;refine PS.imp (w_ L (PT.ex λp:aR×aD=>M b o r p.1 p.2) (kP.ex λp:aR×aD=>N b o r p.1 p.2)) ?_
 rintro E I H ⟨s,Z,S,f⟩;refine⟨λf I H=>∃s Z j k,dh κ b o r s Z k j I H/\eV κ Φ b o r E (fv m cb f j k),⟨fuel,s,Z,j,k,S,f⟩,?_⟩
 rintro f O R ⟨z,P,l,B,J,C⟩;cases f with
 |zero=>exact C.elim
 |succ f=>
  simp only[fv]at C;refine⟨(l,B),z,P,J,eV.Hu J C λt u T D Q _ g K a=>?_⟩
  cases t with
  |false=>
   rw[if_neg Bool.false_ne_true]at a;exact qL (a _ _ _ _ K)
  |true=>
   rw[if_pos rfl]at a;refine qM ⟨λh y=>∃s Z j k,dh κ b o r s Z k j h y/\eV κ Φ b o r E (fv m cb f j k),λh y q=>⟨f,Nat.lt_succ_self f,q⟩,(l,u),D,Q,K,?_⟩
   cases q:cb l u with
   |nx i c=>rw[q]at a;exact λh y n F G=>⟨n,F,i,c,G,a⟩
   |ct i c=>rw[q]at a;exact λh y n F G=>⟨n,F,i,c,G,a⟩
   |bk i c=>rw[q]at a;exact a
   |rt d c=>rw[q]at a;exact a
   |exc x c=>rw[q]at a;exact a
   |bad=>rw[q]at a;exact a.elim
def yw(κ:Str->Addr->Prop)(e:D->aR->Option aR)(g:TG):Prop:=
 ∀(d:D) (x:V) a h i f Z j l b m H (k:L2.St->Hp->Prop),dh κ a h i f Z j l m H->aq f Z H d x->e d l=some b->(∀c,dh κ a h i f Z j b c H->k c H)->g x m H k
theorem uN{p:D->aR->Option aR}{g:TG}(hp:PassesOwn (model X.prog X.w) X.A X.env X.xe)(hc:X.calm=true)(hi:wV X κ Φ tg e mi)(hg:PG X tg g)(a0:yw κ p g)(hb:nO X κ Φ tb cb)(hs:∀x,foldedSetIterable e X.env x=pure x):nN X κ Φ (.For tg e tb [] pos) (dt p mi cb):=by
 intro j C F B M;have b0:kP X tb (λD Q H=>∃a n t c h,Ht κ Φ a n t cb c h D Q H):=λpins s Q H D I ⟨a,n,t,c,h,q⟩=>hb a n t c h pins s Q H D I q
 refine PS.imp (DT hp hc (hi j C F B M) hg b0 hs) ?_;rintro E Q H ⟨α,Z,S,f⟩;refine⟨α,Z,S,?_⟩;simp only[dt]at f;cases qi:mi B M with
 |exc x N=>rw[qi]at f;exact λt a n g s=>f t a n (S.gr.trans g) s
 |bad=>rw[qi]at f;exact f.elim
 |ok G N=>
  rw[qi]at f;have f:eV κ Φ j C F E (gf p G cb fuel 0 B N):=f;intro J t a n g1 s1 w1;have S1:=S.grow g1 s1;refine⟨λi f Q H=>∃k R B M,dh κ j C F k R M B Q H/\cU a n t k R H/\eV κ Φ j C F E (gf p G cb f i B M),⟨fuel,a,n,B,N,S1,cU.refl s1.has,f⟩,?_⟩
  rintro i f T H2 ⟨k,R,U,u,S2,g2,b⟩;cases f with
  |zero=>exact b.elim
  |succ f=>
   simp only[gf]at b;cases qs:en G u with
   |none=>rw[qs]at b;exact b.elim
   |some ds=>
    rw[qs]at b;dsimp only at b;obtain⟨c0,e0⟩:=w1 k R u H2 ds g2 S2.st qs;cases Y:ds[i]? with
    |none=>
     rw[Y]at b;exact .inl ⟨e0 i (List.getElem?_eq_none_iff.mp Y),b T H2 k R S2⟩
    |some d=>
     rw[Y]at b;dsimp only at b;obtain⟨f0,g0⟩:=c0 i d Y;cases qp:p d U with
     |none=>rw[qp]at b;exact b.elim
     |some K=>
      rw[qp]at b;dsimp only at b;refine .inr ⟨f0,λl o=>∃z O B M,dh κ j C F z O M B l o/\cU a n t z O o/\eV κ Φ j C F E (gf p G cb f (i+1) B M),λl o q=>⟨f,Nat.lt_succ_self f,q⟩,λx H3 yl=>?_⟩
      obtain⟨O,g3,s3,rx⟩:=g0 x H3 yl;have S3:=S2.grow g3 s3;refine a0 d x j C F k O u U K T H3 _ S3 rx qp λh0 S4=>?_
      have base:cU j C F a n t:=S1.gr;have gL:cU a n t k O H3:=g2.trans g3;have S5:dh κ a n t k O u K h0 H3:=⟨S4.st,gL,S4.len,S4.val⟩;have P:∀{z Z4 V c l o},dh κ a n t z Z4 V c l o->dh κ j C F z Z4 V c l o:=λy=>⟨y.st,base.trans y.gr,y.len,y.val⟩
      refine⟨a,n,t,K,u,k,O,S5,?_⟩;cases q:cb K u with
      |nx c h=>rw[q]at b;exact λl o m L y=>⟨m,L,c,h,P y,y.gr,b⟩
      |ct c h=>rw[q]at b;exact λl o m L y=>⟨m,L,c,h,P y,y.gr,b⟩
      |bk c h=>rw[q]at b;exact λl o m L y=>b l o m L (P y)
      |rt d h=>rw[q]at b;exact λv o m L g s r=>b v o m L (base.trans g) s r
      |exc x h=>rw[q]at b;exact λo m L g s=>b o m L (base.trans g) s
      |bad=>rw[q]at b;exact b.elim
theorem EB(i:Nat):yw κ (dM i) (iW i):=λd x a c f g Z j l b m H k S r e h=>by
 cases e;exact h _ (S.set r i)
theorem mT:∀(a:List Nat) (ds:List D) (vs:List V) {ρ:aR}{b:L2.St},aJ (aq α Z H) ds vs->ds.length=a.length->dh κ iZ Z0 H0 α Z Ω ρ b H->∀(k:L2.St->Hp->Prop),(∀c,dh κ iZ Z0 H0 α Z Ω (gF a ds ρ) c H->k c H)->j7 a vs b H k
 |[],[],vs,ρ,b,r,_,S,k,h=>by rw[r.nil_inv];exact⟨rfl,h b S⟩
 |i::a,d::ds,vs,ρ,b,r,e,S,k,h=>by
  obtain⟨v,ws,rfl,f,g⟩:=r.cons_inv;exact⟨v,ws,rfl,mT a ds ws g (by simpa using e) (S.set f i) k h⟩
 |[],_::_,_,_,_,_,e,_,_,_=>by simp at e
 |_::_,[],_,_,_,_,e,_,_,_=>by simp at e
theorem yx{K:PySem.W.Frag}(b:List Nat):yw κ (eg b) (zO K b.length (j7 b)):=λd x i n o p Z q s j t H k S r e h=>by
 cases d with
 |tup l=>
  simp only[eg]at e;split at e
  .rename_i c
   cases e;obtain⟨a,f,rfl,_,m,g⟩:=iL r;exact⟨a,f,rfl,wU (.inl m),by rw[g.length];exact c,mT b l f g c S k h⟩
  .cases e
 |_=>cases e
theorem Bv{es:List Expr}{j:Nat}{p pos:Pos}{c:List Nat}(x:PG X (.Tuple es j p) (zO X.K c.length (j7 c)))(o:x_ e=true)(h:bq X κ Φ e m):nN X κ Φ (.Assign [.Tuple es j p] e pos) (wk c m):=by
 intro a q s t y;refine PS.imp (DP (h a q s t y) x (by cases e<;>first|rfl | (cases o)) (by cases e<;>first|rfl | (cases o))) ?_
 rintro E z H ⟨A,Z,S,f⟩;refine⟨A,Z,S,eV.use S f λd i v u b w _ g B r k=>?_⟩
 split at k
 .rename_i l C
  exact yx (K:=X.K) c d v a q s b w i t l z u _ B r C λn D=>k n u b w D
 .exact k.elim
end
abbrev aQ:=List D->aD->ax D
def dQ(κ:Str->Addr->Prop)(F:aQ):Sp:=λd H Q _=>∃a Z b c,bH κ a Z b H/\aJ (aq a Z H) c d/\cg κ rX a Z H (F c b) Q
noncomputable def iA{a:Type}(r:ax a):ax a:=match r with
 |.ok d b=>.ok d b
 |_=>.bad
def bg(F:aQ):aQ:=λa b=>iA (F a b)
structure yy(X:Cx)(κ:Str->Addr->Prop)(k:Nat)(x:Str)(F:aQ):Prop where
 ex:∃(f:Addr) (fd:FuncData) (ps:List Str),X.mg x=some (.ref f)/\PySem.W.keepIn X.K (.ref f)=true/\Binds X.K fd ps []/\cQ X.prog X.w X.K X.mg X.base nA k f fd ps (dQ κ F)
noncomputable def rl(Ω:aD):D->Option (Nat×Str×List (Str×D))
 |.ref k=>match Ω[k]? with
  |some (.ins C fs)=>some (k,C,fs)
  |_=>none
 |_=>none
def eo(Cs:List Str)(f:Str)(x:D)(Ω:aD):ax D:=match rl Ω x with
 |some (_,C,a)=>if Cs.contains C then (match a.lookup f with
  |some d=>.ok d Ω
  |none=>.bad)else .bad
 |none=>.bad
noncomputable def oA(f:Str)(v:D):List (Str×D)->List (Str×D)
 |[]=>[(f,v)]
 | (g,x)::r=>if g=f then (g,v)::r else (g,x)::oA f v r
def ay(C m:Str)(F:aQ)(mo:EM)(d:AM):EM:=λc e=>(mo c e).bind λx a=>match rl a x with
 |some (_,f,g)=>if f=C/\g.lookup m=none then (d c a).bind λh b=>bg F (x::h) b else .bad
 |none=>.bad
noncomputable def iU(C:Str)(F:aQ)(xs:List D)(Ω:aD):ax D:=match F (.ref Ω.length::xs) (Ω++[.ins C []])with
 |.ok .non a=>.ok (.ref Ω.length) a
 |_=>.bad
def eR(Cs:List Str)(f:Str)(mo mv:EM):SM:=λb e=>bK (mv b e) λy c=>bK (mo b c) λx a=>match rl a x with
 |some (k,C,d)=>if Cs.contains C&&decide (d.length<1000)then .nx b (a.set k (.ins C (oA f y d)))else .bad
 |none=>.bad
def kI(x y v:D)(Ω:aD):Option aD:=match x with
 |.ref k=>match Ω[k]? with
  |some (.dK a)=>match pB y with
   |some b=>if small (a.length+1)then some (Ω.set k (.dK (ej a b v)))else none
   |none=>none
  |_=>none
 |_=>none
def fH(md mk mv:EM):SM:=λa f=>bK (mv a f) λv b=>bK (md a b) λx c=>bK (mk a c) λy d=>match kI x y v d with
 |some e=>.nx a e
 |none=>.bad
section
variable{X:Cx}{κ:Str->Addr->Prop}{Φ:gS}{α α' iZ α1:List Addr}{Z Z' Z0 Z1:Addr->Prop}{Ω ai:aD}{H H' H0 H1:Hp}{ρ:aR}{σ:L2.St}{Q:VK}{E:Ends}{a b e ce o tg:Expr}{es:List Expr}{st:Stmt}{rest ta tb:List Stmt}{m mo mv ma md mk:EM}{as:AM}{ca cb:SM}{pos pos' p apos:Pos}{F:aQ}{C:Str}
theorem cg.ok0{r:ax D}(h:cg κ Φ α Z H (iA r) Q):cg κ rX α Z H r Q:=by
 cases r with
 |ok d a=>exact h
 |exc x a=>exact h.elim
 |bad=>exact h
theorem yz{k:Nat}{x:Str}(F0:yy X κ k x F)(i:df k X.A)(j:Gl X x)(a:(x==("__debug__":Str))=false)
  (l:starEach (e::es) X.env=(false,eval e X.env)::starEach es X.env) (b:(backTo pos (starEach es X.env)).any (·.1)=false) (m:qk X κ Φ (e::es) as) :
  bq X κ Φ (.Call (.Name x p) (e::es) [] pos) (mN (bg F) as):=by
 obtain⟨f,I,J,n,o,q,F1⟩:=F0.ex;intro c r s t u;refine PE.imp (ui F1 i j n o q .nil kA (m c r s t u) a l b) ?_;rintro K H Q ⟨w,Z,S,g⟩;refine⟨w,Z,S,qj.use g λy d _ z B h C L D E G=>?_⟩
 show dQ κ F (z++[]) B Q E0
 rw[List.append_nil];exact⟨h,C,d,y,D,E,cg.ok0 G⟩
theorem wo{k:Nat}{x:Str}(F0:yy X κ k x F)(b:df k X.A)(c:Gl X x)(a:(x==("__debug__":Str))=false):bq X κ Φ (.Call (.Name x p) [] [] pos) (mN (bg F) ae):=by
 obtain⟨f,m,n,d,e,h,F1⟩:=F0.ex;intro i o q r j;refine PE.imp (xm F1 b c d e h .nil kA a) ?_;rintro s H Q ⟨l,Z,S,g⟩;exact⟨l,Z,j,[],S.st,.nil,cg.ok0 g⟩
theorem gG{R:D->V->Prop}{f:Str}:∀{b:List (Str×D)}{a:List (Str×V)},gR R b a->(∀d,b.lookup f=some d->∃v,a.lookup f=some v/\R d v)/\(b.lookup f=none->a.lookup f=none):=by
 intro b a h;unfold gR at h
 induction h with
 |nil=>exact⟨λd e=>(by cases e),λ_=>rfl⟩
 |@cons p q j l r t c=>
  obtain⟨g,i⟩:=r;obtain⟨k,d⟩:=p;obtain⟨m,v⟩:=q;cases g;rw[List.lookup_cons,List.lookup_cons];cases f==k with
  |true=>exact⟨λn e=>by cases e;exact⟨v,rfl,i⟩,λe=>by cases e⟩
  |false=>exact c
theorem yA{R:D->V->Prop}{f:Str}{d:D}{v:V}(r:R d v){c:List (Str×D)}{a:List (Str×V)}(h:gR R c a):gR R (oA f d c) (gu f v a):=by
 unfold gR at h
 induction h with
 |nil=>exact .cons ⟨rfl,r⟩ .nil
 |@cons p q j l b t g=>
  obtain⟨b,i⟩:=b;obtain⟨k,d⟩:=p;obtain⟨m,n⟩:=q;cases b;simp only[oA,gu]
  by_cases e:k=f
  .rw[if_pos e,if_pos e];exact .cons ⟨rfl,r⟩ t
  .rw[if_neg e,if_neg e];exact .cons ⟨rfl,i⟩ g
theorem iB{x:D}{v:V}{k:Nat}{C:Str}{f:List (Str×D)}(S:bH κ α Z Ω H)(r:aq α Z H x v)(h:rl Ω x=some (k,C,f)):∃a d e b,v=.ref a/\x=.ref k/\α[k]?=some a/\κ C d/\H a=some (.ins d e b)/\gR (aq α Z H) f b:=by
 cases x with
 |ref n=>
  simp only[rl]at h;split at h
  .rename_i o b i
   cases h;simp only[aq]at r;obtain⟨a,g,rfl⟩:=r;obtain⟨p,c,d,e,b,j,l,m⟩:=S.cell i;rw[g]at c;cases c;exact⟨a,d,e,b,rfl,rfl,g,j,l,m⟩
  .cases h
 |_=>cases h
def kg(K:PySem.W.Frag)(κ:Str->Addr->Prop)(Cs:List Str)(f:Str):Prop:=∀C a,Cs.contains C=true->κ C a->nF K a/\h_ K a f
theorem Bw{f:Str}{Cs:List Str}(i:kg X.K κ Cs f)(j:attributeBase o f X.env (eval o X.env)=eval o X.env)(l:bq X κ Φ o mo):bq X κ Φ (.Attribute o f pos) (m1 (eo Cs f) mo):=
 pA (r:=λx H Q=>∃a C b c v,x=.ref a/\H a=some (.ins C b c)/\nF X.K C/\h_ X.K C f/\c.lookup f=some v/\Q v H) (λD m=>D5 m j) l λb x E Z F H Q S n g=>by
  unfold eo at g;split at g
  .rename_i k C c p
   obtain⟨a,h,b,e,rfl,_,_,q,s,t⟩:=iB S n p;split at g
   .rename_i u
    obtain⟨w,y⟩:=i C h u q;split at g
    .rename_i d z
     obtain⟨v,A,B⟩:=(gG t).1 d z;exact⟨a,h,b,e,v,rfl,s,w,y,A,cg.ret S B g⟩
    .exact g.elim
   .exact g.elim
  .exact g.elim
def Dk(P:Program)(w:World)(K:PySem.W.Frag)(mg:Str->Option Value)(base:Heap)(κ:Str->Addr->Prop)(k:Nat)(C m:Str)(F:aQ)(c f:Addr)(d:FuncData)(ps:List Str):Prop:=
 (∀a,κ C a->a=c)/\nF K c/\Meth K c m f/\∃(e:List Value) (b:List V) (g:List D) (F1:aQ),Binds K d ps e/\Vals b e/\(∀h Z H,aJ (aq h Z H) g b)/\cQ P w K mg base nA k f d ps (dQ κ F1)/\F=λi=>F1 (i++g)
structure uO(X:Cx)(κ:Str->Addr->Prop)(k:Nat)(C m:Str)(F:aQ):Prop where
 ex:∃(Ca f:Addr) (fd:FuncData) (ps:List Str),Dk X.prog X.w X.K X.mg X.base κ k C m F Ca f fd ps
theorem yB{k:Nat}{m:Str}(M:uO X κ k C m F)(E:df k X.A)(G:bq X κ Φ o mo)(I:qk X κ Φ (e::es) as){pl:Sem Bool}
  (h:starEach (e::es) X.env=(false,eval e X.env)::starEach es X.env) (i:(backTo pos (starEach es X.env)).any (·.1)=false)
  (J:eval (.Call (.Attribute o m apos) (e::es) [] pos) X.env=(do
   let w ←eval o X.env
   standAt apos.atName
   let (f,first) ←holding [w] (getMethod w m pl)
   callWith pos f first (backTo pos (starEach (e::es) X.env)) (backToKw pos (keywordEach [] X.env)))) :
  bq X κ Φ (.Call (.Attribute o m apos) (e::es) [] pos) (ay C m F mo as):=by
 obtain⟨Ca,f,fd,ps,K,j,L,N,O,Dd,F0,P,l,R,F1,rfl⟩:=M.ex;intro c y z B T;refine PE.imp (zV (G c y z B T) j L F1 E P l kA (PA.ex λb=>I c y z B b) h i J) ?_
 rintro σ H Q ⟨U,Z,S,g⟩;refine⟨U,Z,S,cg.use g λx b _ v H1 p V Y q D d=>?_⟩
 split at d
 .rename_i n C' fs hk
  split at d
  .rename_i hc
   obtain⟨rfl,hl⟩:=hc;obtain⟨a,r,dx,s,rfl,rfl,_,q1,q2,q3⟩:=iB q D hk;obtain rfl:=K r q1;refine⟨a,dx,s,rfl,q2,(gG q3).2 hl,b,p,V,S.grow Y q,qj.use d λxs t _ vs H2 u Z2 g2 s2 r2 k2=>?_⟩
   exact⟨u,Z2,t,_,s2,.cons (q.dO g2 D) (r2.append (R _ _ _)),cg.ok0 k2⟩
  .exact d.elim
 .exact d.elim
theorem wq{k:Nat}{m:Str}(M:uO X κ k C m F)(s:df k X.A)(t:bq X κ Φ o mo){pl:Sem Bool}
  (u:eval (.Call (.Attribute o m apos) [] [] pos) X.env=(do
   let p ←eval o X.env
   standAt apos.atName
   let (f,first) ←holding [p] (getMethod p m pl)
   callWith pos f first (backTo pos (starEach [] X.env)) (backToKw pos (keywordEach [] X.env)))) :
  bq X κ Φ (.Call (.Attribute o m apos) [] [] pos) (ay C m F mo ae):=by
 obtain⟨Ca,f,fd,ps,w,c,y,z,B,Dd,F0,D,d,E,F1,rfl⟩:=M.ex;intro e G I J K;refine PE.imp (xn (t e G I J K) c y F1 s D d kA u) ?_;rintro σ H Q ⟨L,Z,S,g⟩;refine⟨L,Z,S,cg.use g λx h _ v H1 i N g1 q r b=>?_⟩
 split at b
 .rename_i n C' fs O
  split at b
  .rename_i P
   obtain⟨rfl,R⟩:=P;obtain⟨a,j,T,l,rfl,rfl,_,U,V,Y⟩:=iB q r O;obtain rfl:=w j U;exact⟨a,T,l,rfl,V,(gG Y).2 R,i,N,h,_,q,.cons r (E _ _ _),cg.ok0 b⟩
  .exact b.elim
 .exact b.elim
structure yC(X:Cx)(κ:Str->Addr->Prop)(k:Nat)(C:Str)(F:aQ):Prop where
 ex:∃(Ca f:Addr) (fd:FuncData) (ps:List Str),κ C Ca/\Mk X.K Ca f/\X.mg C=some (.ref Ca)/\Binds X.K fd ps []/\cQ X.prog X.w X.K X.mg X.base nA k f fd ps (dQ κ F)
theorem rm{xs:List D}{vs:List V}{b x a:Addr}(S:bH κ α Z Ω H)(r:aJ (aq α Z H) xs vs)(e:κ C b)(g:cg κ Φ α Z H (iU C F xs Ω) Q)(y:H x=none)(f:H a=none)(h:a≠x) :
  dQ κ F (.ref x::(vs++[])) (upd (upd H a (.own x)) x (.ins b a [])) (λv z=>v=.non/\Q (.ref x) z) E0:=by
 rw[List.append_nil];obtain⟨i,m⟩:=S.uD (p:=a) (o:=.own x) f False;simp only[if_false]at i m;have j:upd H a (.own x) x=none:=by rw[aM (Ne.symm h)];exact y
 obtain⟨n,A⟩:=i.laid (p:=x) (o:=.ins b a []) (c:=.ins C []) j λR I=>⟨b,a,[],e,ba,.nil⟩
 have s:=m.trans A;have t:aq (α++[x]) Z (upd (upd H a (.own x)) x (.ins b a [])) (.ref Ω.length) (.ref x):=fW i x;refine⟨α++[x],Z,Ω++[.ins C []],.ref Ω.length::xs,n,.cons t (S.jD s r),?_⟩;unfold iU at g;cases q:F (.ref Ω.length::xs) (Ω++[.ins C []])with
 |ok d k=>
  rw[q]at g;cases d with
  |non=>
   intro v B l E u G w;simp only[aq]at w;exact⟨w,g _ B l E (s.trans u) G (n.dO u t)⟩
  |_=>exact g.elim
 |exc x k=>rw[q]at g;exact g.elim
 |bad=>rw[q]at g;exact g.elim
theorem Bx{k:Nat}(M:yC X κ k C F)(j:df (k+1) X.A)(l:Gl X C)(a:(C==("__debug__":Str))=false)
  (m:starEach (e::es) X.env=(false,eval e X.env)::starEach es X.env) (b:(backTo pos (starEach es X.env)).any (·.1)=false) (n:qk X κ Φ (e::es) as):bq X κ Φ (.Call (.Name C p) (e::es) [] pos) (mN (iU C F) as):=by
 obtain⟨J,f,K,L,c,o,q,r,F1⟩:=M.ex;intro d s t u w;refine PE.imp (zW o F1 j l q r .nil kA (n d s t u w) a m b) ?_;rintro N H Q ⟨y,Z,S,g⟩;exact⟨y,Z,S,qj.use g λO z _ P R B T U D E G x V I h i=>rm D E c G I h i⟩
theorem yD{k:Nat}(M:yC X κ k C F)(e:df (k+1) X.A)(h:Gl X C)(a:(C==("__debug__":Str))=false):bq X κ Φ (.Call (.Name C p) [] [] pos) (mN (iU C F) ae):=by
 obtain⟨o,f,q,r,b,i,j,l,F1⟩:=M.ex;intro m s t u w;refine PE.imp (xo i F1 e h j l .nil kA a) ?_;rintro y H Q ⟨z,Z,S,g⟩;exact λx B n c d=>rm S.st .nil b g n c d
theorem By{f:Str}{Cs:List Str}(F:kg X.K κ Cs f)(G:swapsWith e (some (.Attribute o f pos')) pos.line X.env=pure false)(I:bq X κ Φ o mo)(J:bq X κ Φ e mv):nN X κ Φ (.Assign [.Attribute o f pos'] e pos) (eR Cs f mo mv):=by
 intro d r s t L;refine PS.imp (D6 (PE.ex λb=>I d r s t b) (J d r s t L) G) ?_
 rintro E M H ⟨N,Z,S,f⟩;refine⟨N,Z,S,eV.use S f λy b v H1 j O _ g1 l P Q=>⟨b,j,O,l,eV.use l Q λx T w H2 m U _ V n Y g=>?_⟩⟩
 split at g
 .rename_i k C fs hk
  obtain⟨a,i,p,h,rfl,rfl,h0,A,B,D⟩:=iB n.st Y hk;split at g
  .rename_i q
   simp only[Bool.and_eq_true,decide_eq_true_eq]at q;obtain⟨c1,c2⟩:=F C i q.1 A;have ry:=l.st.dO V P;obtain⟨s3,g3⟩:=n.st.put (o:=.ins i p (gu _ v h)) (c:=.ins C (oA _ y fs)) h0 (λo u z=>by rw[B]at z;cases z) λR hR=>⟨i,p,_,A,ba,(yA ry D).imp hR⟩
   exact⟨a,i,p,h,rfl,B,c1,c2,by rw[gR.length D];exact q.2,g M _ m U (n.grow g3 s3)⟩
  .exact g.elim
 .exact g.elim
theorem yE{x y d:D}{v w u:V}(S:bH κ α Z Ω H)(l:aq α Z H x v)(q:aq α Z H y w)(r:aq α Z H d u)(h:kI x y d Ω=some ai):∃a f,v=.ref a/\vM H a w u f/\bH κ α Z ai f/\cU α Z H α Z f:=by
 cases x with
 |ref k=>
  simp only[kI]at h;simp only[aq]at l;obtain⟨a,m,rfl⟩:=l;split at h
  .rename_i g s
   obtain⟨E,b,e,n,p⟩:=S.cell s;rw[m]at b;cases b
   split at h
   .rename_i i j
    obtain rfl:=iq j q;split at h
    .rename_i t
     cases h;have:=bI t;obtain⟨A,B⟩:=S.put (o:=.dK (putK e i u)) (c:=.dK (ej g i d)) m (λo u z=>by rw[n]at z;cases z) λR C=>⟨_,ba,(p.put i r).imp C⟩
     exact⟨a,_,rfl,vM.k n (by rw[p.length];omega),A,B⟩
    .cases h
   .cases h
  .cases h
 |_=>cases h
theorem yF{i:Expr}(B:X.A.units+1<cLine)(C:bq X κ Φ o md)(D:bq X κ Φ i mk)(F:bq X κ Φ e mv)(G:swapsWith e (some (.Subscript o i pos')) pos.line X.env=pure false):nN X κ Φ (.Assign [.Subscript o i pos'] e pos) (fH md mk mv):=by
 intro c h j k I;refine PS.imp (Aa B (PE.ex λb=>C c h j k b) (PE.ex λb=>D c h j k b) (F c h j k I) G) ?_
 rintro E J H ⟨K,Z,S,f⟩;refine⟨K,Z,S,eV.use S f λd b v H1 l L _ g1 m M N=>⟨b,l,L,m,eV.use m N λx n w H2 p O _ P g Q R=>⟨n,p,O,g,eV.use g R λy T u H3 q U _ s t V r=>?_⟩⟩⟩
 split at r
 .rename_i Y hq
  obtain⟨a,z,rfl,h1,s4,g4⟩:=yE t.st (g.st.dO s Q) V (g.st.dO s (m.st.dO P M)) hq;exact⟨a,z,rfl,h1,r J z q U (t.grow g4 s4)⟩
 .exact r.elim
theorem wt:bq X κ Φ (.Dict [] [] pos) (λ_ Ω=>jf Ω (.dK [])):=by
 intro a f h i Ω;refine PE.imp xC ?_;rintro j H Q ⟨k,Z,S,g⟩ p b;obtain⟨d,e⟩:=S.st.laid (p:=p) (o:=.dK []) (c:=.dK []) b λR l=>⟨[],ba,.nil⟩
 exact g _ _ _ Z e d (fW S.st p)
noncomputable def aX(n:Nat)(ds:List D):aR:=ds.map some++List.replicate (n - ds.length) none
noncomputable def iC:gc->ax D
 |.rt d Ω=>.ok d Ω
 |.nx _ Ω=>.ok .non Ω
 |.exc x Ω=>.exc x Ω
 |_=>.bad
def cV(n k:Nat)(c:SM):aQ:=λa b=>if a.length=k then iC (c (aX n a) b)else .bad
theorem tm{ds:List D}{vs:List V}{N:List Str}(S:bH κ α Z Ω H)(r:aJ (aq α Z H) ds vs):dh κ α Z H α Z Ω (aX N.length ds) (L2.start N vs) H where
 st:=S
 gr:=cU.refl S.has
 len:=by simp[aX,L2.start,r.length]
 val:=λi d a=>by
  unfold aX at a
  by_cases h:i<ds.length
  .rw[List.getElem?_append_left (by simpa using h),List.getElem?_map]at a
   obtain⟨g,b,c⟩:=Option.map_eq_some_iff.mp a;cases c;obtain⟨v,e,f⟩:=r.get b;refine⟨v,?_,f⟩;unfold L2.start;rw[List.getElem?_append_left (by simpa[r.length]using h),List.getElem?_map,e]
   rfl
  .rw[List.getElem?_append_right (by simpa using h),List.getElem?_replicate]at a
   split at a<;>cases a
end
structure rn(P:Program)(w:World)(K:PySem.W.Frag)(mg:Str->Option Value)(base:Heap)(κ:Str->Addr->Prop)(k:Nat)(j:Nat)(F:List D->aQ):Prop where
 run:∀(X:Cx) (f:Addr) (vs:List V) (σ:L2.St) (H:Hp) (Q:VK) (α:List Addr) (Z:Addr->Prop) (Ω:aD) (sR ds:List D) (n:Nat),X.prog=P->X.w=w->X.K=K->X.mg=mg->X.base=base->df k X.A ->
  bH κ α Z Ω H->α[n]?=some f->Ω[n]?=some (.fn j sR)->aJ (aq α Z H) ds vs->cg κ rX α Z H (F sR ds Ω) Q->Hl X f vs σ H Q
theorem rn.mono{P:Program}{w:World}{K:PySem.W.Frag}{mg:Str->Option Value}{base:Heap}{κ:Str->Addr->Prop}{k a j:Nat}{F:List D->aQ}(h:rn P w K mg base κ k j F)(b:k<=a):rn P w K mg base κ a j F:=
 ⟨λX f c d H Q e Z g sR i n l m o p q r=>h.run X f c d H Q e Z g sR i n l m o p q (r.mono b)⟩
noncomputable def isFn(Ω:aD)(n:Nat):Bool:=match Ω[n]? with
 |some (.fn _ _)=>true
 |_=>false
section
variable{X:Cx}{κ:Str->Addr->Prop}{Φ:gS}{α α' iZ:List Addr}{Z Z' Z0:Addr->Prop}{Ω ai:aD}{H H' H0:Hp}{ρ:aR}{σ:L2.St}
end
def Dl:V->List V->Hp->VK->Prop:=λx c H Q=>∃a b k v,x=.ref a/\c=[kV k]/\H a=some (.dK b)/\kS b k=some v/\Q v (upd H a (.dK (ky b k)))
theorem Bz{X:Cx}:Gg X "dict.pop" Dl:=by
 intro pins s l H x m v n Q I b c h;obtain⟨a,d,k,y,rfl,rfl,e,f,q⟩:=h;cases b;obtain⟨u,rfl,g⟩:=c.one;exact G8 I e g f (.inl rfl) λo p i j=>⟨y,_,i,j,q⟩
noncomputable def pL(Ω:aD)(x:D):Bool:=match x with
 |.ref k=>match Ω[k]? with
  |some (.dK _)=>true
  |_=>false
 |_=>false
def iD(x:D)(xs:List D)(Ω:aD):ax D:=match x,xs with
 |.ref k,[y]=>match Ω[k]?,pB y with
  |some (.dK a),some b=>match cN a b with
   |some d=>.ok d (Ω.set k (.dK (eO a b)))
   |none=>.bad
  |_,_=>.bad
 |_,_=>.bad
section
variable{κ:Str->Addr->Prop}{Φ:gS}{α:List Addr}{Z:Addr->Prop}{Ω:aD}{H:Hp}{Q:VK}
theorem BA{x:D}{v:V}{K:PySem.W.Frag}(S:bH κ α Z Ω H)(r:aq α Z H x v)(h:pL Ω x=true):C9 K "dict" v H:=by
 unfold pL at h;split at h
 .rename_i k
  simp only[aq]at r;obtain⟨a,d,rfl⟩:=r;split at h
  .rename_i e f
   obtain⟨i,b,c,g,j⟩:=S.cell f;rw[d]at b;cases b
   exact .inr (.inr (.inl ⟨rfl,.inl ⟨_,g⟩⟩))
  .cases h
 .cases h
theorem BB{x:D}{v:V}{xs:List D}{vs:List V}(S:bH κ α Z Ω H)(r:aq α Z H x v)(rs:aJ (aq α Z H) xs vs)(g:cg κ Φ α Z H (iD x xs Ω) Q):Dl v vs H Q:=by
 unfold iD at g;split at g
 .rename_i k y
  simp only[aq]at r;obtain⟨a,i,rfl⟩:=r;obtain⟨w,F,rfl,n,p⟩:=rs.cons_inv;obtain rfl:=p.nil_inv;split at g
  .rename_i h e s t
   obtain rfl:=iq t n;obtain⟨G,f,b,j,l⟩:=S.cell s;rw[i]at f;cases f
   split at g
   .rename_i d z
    obtain⟨u,A,B⟩:=(l.val e).1 d z;obtain⟨C,m⟩:=S.put (c:=.dK (eO h e)) (o:=.dK (ky b e)) i (λo u q=>by rw[j]at q;cases q) λR E=>⟨_,ba,(l.drop e).imp E⟩
    exact⟨a,b,e,u,rfl,rfl,j,A,g u _ _ _ m C (S.dO m B)⟩
   .exact g.elim
  .exact g.elim
 .exact g.elim
end
end Mir
namespace L2
open PySem PySem.Spec PyProof.Rows
noncomputable def EC(C:Addr)(m:Str)(sp:Sp)(e:List V->List V->List V)(E:XK)(f:TE)(t g:TA):TE:=λb H Q=>f b H λx c=>∃a h d,x=.ref a/\c a=some (.ins C h d)/\d.lookup m=none /\
 t b c λi j=>g b j λk l=>sp (e (x::i) k) l Q E
theorem yG{X:Cx}{CX:rT}{k:Nat}{f C:Addr}{B:FuncData}{ps D:List Str}{sp:Sp}{E:XK}{m:Str}{pos d:Pos}{e o:Expr}{es:List Expr}{b:List Keyword}{G:TE}{t J:TA}{g:List Value->List Value->List Value}{L:List V->List V->List V}{pl:Sem Bool}
  (P:PE X o G) (c:nF X.K C) (M:Meth X.K C m f) (F:cQ X.prog X.w X.K X.mg X.base CX k f B ps sp) (R:df k X.A) (S:jZ X.K B ps D g L) (T:Passes CX X E) (U:PA X (e::es) t) (j:PK X b J)
  (i:(backToKw pos (keywordEach b X.env)).all (·.1.isSome)=true) (n:(backToKw pos (keywordEach b X.env)).filterMap (·.1)=D)
  (p:starEach (e::es) X.env=(false,eval e X.env)::starEach es X.env) (y:((backTo pos (starEach (e::es) X.env)).any (·.1)||(backToKw pos (keywordEach b X.env)).any (·.1.isNone))=false)
  (Y:eval (.Call (.Attribute o m d) (e::es) b pos) X.env=(do
   let N ←eval o X.env
   standAt d.atName
   let (f,first) ←holding [N] (getMethod N m pl)
   callWith pos f first (backTo pos (starEach (e::es) X.env)) (backToKw pos (keywordEach b X.env)))) :
  PE X (.Call (.Attribute o m d) (e::es) b pos) (EC C m sp L E G t J):=by
 intro pins s z H Q I h;refine PySem.W.methodCall_KW (pl:=pl) (cy (P pins s z H _ I h) λu Z ⟨x,H1,O,rx,a,dx,fs,ex,ea,l,q⟩=>?_) Y
 subst ex;obtain rfl:u=Value.ref a:=rx;refine jb O ea c M l ?_;refine PySem.W.callWith_KW (first:=[.ref a]) (h₀:=X.base) I.ok.mod.Ga M.kp i (cy (U pos pins Z z H1 _ O q) λus s2 ⟨vs,H2,I2,r,q2⟩=>?_) y p
 refine cy (j pos pins s2 z H2 _ I2 q2) λws s3 ⟨zs,H3,I3,rz,q3⟩=>⟨I3.jq,?_⟩
 rw[n];exact zY (us:=.ref a::us) (vs:=.ref a::vs) F R S T I3 (.cons rfl r) rz q3
noncomputable def gK{a:Type}(us b:List a):List a:=match b with
 |[w]=>us++[w]
 |_=>[]
theorem ro{K:PySem.W.Frag}{b:FuncData}{ps:List Str}{c:Str}(d:ps≠[])(h:∀(s:Shared) (us:List Value) (w:Value),K.In s.heap->us.length+1=ps.length->BindsTo s b ⟨us,[(c,w)]⟩ (ps.zip (us++[w]))):jZ K b ps [c] gK gK where
 to:=λs us e f a=>by
  match e,a with
  |[w],a=>exact h s us w f (by simpa[gK]using a)
  |[],a=>exact absurd (List.length_eq_zero_iff.mp a.symm) d
  |_::_::_,a=>exact absurd (List.length_eq_zero_iff.mp a.symm) d
 rel:=λr g=>by
  cases g with
  |nil=>exact .nil
  |cons q t=>
   cases t with
   |nil=>exact r.append (.cons q .nil)
   |cons _ _=>exact .nil
end L2
namespace Mir
open PySem PySem.Spec PyProof.Rows L2
variable [aE]
abbrev Kq:=List ((Str×Str)×Str×aQ)
def oB(P:Program)(w:World)(K:PySem.W.Frag)(mg:Str->Option Value)(base:Heap)(κ:Str->Addr->Prop)(k:Nat)(t:Kq):Prop:=
 ∀m c C F,t.lookup (m,c)=some (C,F)->∃(b f:Addr) (d:FuncData) (e:List Str),(∀a,κ C a->a=b)/\nF K b/\Meth K b m f/\jZ K d e [c] gK gK/\cQ P w K mg base nA k f d e (dQ κ F)
theorem oB.mono{P:Program}{w:World}{K:PySem.W.Frag}{mg:Str->Option Value}{base:Heap}{κ:Str->Addr->Prop}{k g:Nat}{t:Kq}(G:oB P w K mg base κ k t)(h:k<=g):oB P w K mg base κ g t:=λm i C F q=>
 let ⟨j,f,l,n,a,b,c,d,e⟩:=G m i C F q;⟨j,f,l,n,a,b,c,d,e.mono h⟩
def oC(d:AM)(me:EM):AM:=λc e=>(d c e).bind λf a=>(me c a).bind λx b=>.ok (f++[x]) b
section
variable{X:Cx}{κ:Str->Addr->Prop}{Φ:gS}{o e ke:Expr}{es:List Expr}{mo mk:EM}{as:AM}{apos pos vF:Pos}{C m kw:Str}{F:aQ}{k:Nat}{t:Kq}
theorem wu(G:oB X.prog X.w X.K X.mg X.base κ k t)(hl:t.lookup (m,kw)=some (C,F))(hr:df k X.A)(ho:bq X κ Φ o mo)(ha:qk X κ Φ (e::es) as)(hk:bq X κ Φ ke mk){pl:Sem Bool}
  (r:starEach (e::es) X.env=(false,eval e X.env)::starEach es X.env) (s:((backTo pos (starEach (e::es) X.env)).any (·.1)||(backToKw pos (keywordEach [⟨some kw,ke,vF⟩] X.env)).any (·.1.isNone))=false)
  (ht:eval (.Call (.Attribute o m apos) (e::es) [⟨some kw,ke,vF⟩] pos) X.env=(do
   let O ←eval o X.env
   standAt apos.atName
   let (f,first) ←holding [O] (getMethod O m pl)
   callWith pos f first (backTo pos (starEach (e::es) X.env)) (backToKw pos (keywordEach [⟨some kw,ke,vF⟩] X.env)))) :
  bq X κ Φ (.Call (.Attribute o m apos) (e::es) [⟨some kw,ke,vF⟩] pos) (ay C m F mo (oC as mk)):=by
 obtain⟨Ca,f,fd,ps,hC,u,hm,hb,F1⟩:=G m kw C F hl;intro i z B j Ω;refine PE.imp (yG (ho i z B j Ω) u hm F1 hr hb kA (PA.ex λc=>ha i z B j c) (zX (PE.ex λc=>hk i z B j c) D_) rfl rfl r s ht) ?_
 rintro σ H Q ⟨α,Z,S,g⟩;refine⟨α,Z,S,cg.use g λx c _ v H1 l P R p T b=>?_⟩
 split at b
 .rename_i n C' fs hq
  split at b
  .rename_i hc
   obtain⟨rfl,D⟩:=hc;obtain⟨a,E,dx,I,rfl,rfl,_,q1,q2,q3⟩:=iB p T hq;obtain rfl:=hC E q1;refine⟨a,dx,I,rfl,q2,(gG q3).2 D,c,l,P,S.grow R p,?_⟩
   have b:cg κ Φ l P H1 ((as j c).bind λJ d=>(mk j d).bind λy h=>bg F (.ref n::(J++[y])) h) Q:=by
    unfold oC at b;cases q:as j c with
    |ok J d=>
     rw[q]at b;cases L:mk j d with
     |ok y h=>simp only[ax.bind,L]at b ⊢;exact b
     |exc _ _=>simp only[ax.bind,L]at b ⊢;exact b
     |bad=>simp only[ax.bind,L]at b ⊢;exact b
    |exc _ _=>rw[q]at b;exact b
    |bad=>rw[q]at b;exact b
   refine qj.use b λJ d _ vs H2 M Z2 U V r2 k2=>?_
   have S2:=(S.grow R p).grow U V;refine⟨d,M,Z2,S2,cg.use k2 λy h _ w H3 N Z3 Y s3 r3 k3=>?_⟩
   refine⟨N,Z3,h,_,s3,?_,cg.ok0 k3⟩;exact .cons ((p.dO (U.trans Y) T)) ((V.jD Y r2).append (.one r3))
  .exact b.elim
 .exact b.elim
end
end Mir
namespace L2
open PySem PySem.Spec PyProof.Rows
noncomputable def oD(B:Addr->Prop)[DecidablePred B](H:Hp):Hp:=λb=>if B b then (match H b with|some (.dW _ u)=>some u|x=>x)else H b
structure Hv(B:Addr->Prop)(H H':Hp):Prop where
 yH:∀b,B b->∃o kvs,H' b=some (.dW o (.dK kvs))
 was:∀b,B b->∃kvs,H b=some (.dK kvs)
section
variable{B:Addr->Prop}[DecidablePred B]{H H':Hp}{b:Addr}{o:Obj}{u:HO}{P:Program}{w:World}{h h':Heap}{fs ex:List Addr}
theorem tp(a:B b)(q:H b=some (.dW o u)):oD B H b=some u:=by unfold oD;rw[if_pos a,q]
theorem cx(a:¬ B b):oD B H b=H b:=by unfold oD;rw[if_neg a]
theorem yI{x:Option HO}(c:∀b,B b->∃o kvs,H b=some (.dW o (.dK kvs)))(q:H b=x)(a:∀o kvs,x≠some (.dW o (.dK kvs))):oD B H b=x:=by
 rw[cx,q];intro d;obtain⟨o,kvs,z⟩:=c b d;exact a o kvs (q.symm.trans z)
theorem i9.nQ(x:i9 P w H h)(c:∀b,B b->∃o kvs,H b=some (.dW o (.dK kvs))):i9 P w (oD B H) h:=λa j e=>by
 have f:∀b y,H b=some (.own y)->oD B H b=some (.own y):=λb y q=>yI c q (λ_ _ z=>by cases z)
 have g:∀b i,H b=some (.tup i)->oD B H b=some (.tup i):=λb y q=>yI c q (λ_ _ z=>by cases z)
 by_cases d:B a
 .obtain⟨k,kvs,q⟩:=c a d
  rw[tp d q]at e;cases e;obtain⟨_,y⟩:=x a _ q;exact cq.stay y (λ_ _ _ z=>z) (λb q=>f b _ q) g
 .rw[cx d]at e
  exact(x a j e).stay (λ_ _ _ z=>z) (λb q=>f b _ q) g
theorem Un.nQ(a:Un fs ex H H' h h')(t:Hv B H H'):Un fs ex H (oD B H') h h' where
 keep:=a.keep
 slot:=a.slot
 free:=λb o e n d=>by
  rw[cx,a.free b o e n d];intro c;obtain⟨_,z⟩:=t.was b c;rw[n]at z;cases z
 there:=a.there
 tups:=λb f e=>by
  rw[cx,a.tups b f e];intro c;obtain⟨_,z⟩:=t.was b c;rw[e]at z;cases z
 gX:=λb o u e=>by
  rw[cx,a.gX b o u e];intro c;obtain⟨_,z⟩:=t.was b c;rw[e]at z;cases z
 i_:=λb g e=>by
  rw[cx]
  .exact a.i_ b g e
  intro c;obtain⟨_,z⟩:=t.was b c;rw[e]at z;cases z
end
open Classical in
def spT(sp:Sp):Sp:=λb H Q E=>sp b H (λv a=>∃B:Addr->Prop,Hv B H a/\Q v (oD B a)) E
open Classical in
theorem cQ.nQ{P:Program}{w:World}{K:PySem.W.Frag}{mg:Str->Option Value}{base:Heap}{CX:rT}{k:Nat}{f:Addr}{a:FuncData}{ps:List Str}{sp:Sp}(F:cQ P w K mg base CX k f a ps sp) :
  cQ P w K mg base CX k f a ps (spT sp):=
 ⟨λb H Q E q=>F.len _ _ _ _ q,λA outer s H args c b Q E d g h i j=>codeAny_mono (F.run A outer s H args c b _ E d g h i j) λr y z=>by
  cases r with
  |error e=>exact z
  |ok f=>
   cases f with
   |ret u=>
    obtain⟨v,l,m,n,o,p,x,B,t,q⟩:=z;exact⟨v,oD B l,m,n,o.nQ t,p.nQ t.yH,x,q⟩
   |_=>exact z⟩
section
variable{X:Cx}{pins:List (Addr×Obj)}{σ σ':St}{H H':Hp}{s s':Shared}{B:Addr->Prop}[DecidablePred B]
theorem Inv.nQ(I:Inv X pins σ H s)(J:Inv X pins σ' H' s')(t:Hv B H H'):Inv X pins σ' (oD B H') s' where
 ok:=J.ok
 os:=J.os
 bare:=J.bare
 base:=by
  have g:∀b,B b->∃f,H b=some (.dK f):=t.was;refine⟨J.base.keep,J.base.slot,λb o e n h=>?_,J.base.there,λb i e=>?_,λb o u e=>?_,λb j e=>?_⟩
  .rw[cx,J.base.free b o e n h]
   intro a;obtain⟨_,z⟩:=g b a;rw[I.base.free b o e n h]at z;cases z
  .rw[cx,J.base.tups b i e]
   intro a;obtain⟨_,z⟩:=g b a;rw[I.base.tups b i e]at z;cases z
  .rw[cx,J.base.gX b o u e]
   intro a;obtain⟨_,z⟩:=g b a;rw[I.base.gX b o u e]at z;cases z
  .rw[cx]
   .exact J.base.i_ b j e
   intro a;obtain⟨_,z⟩:=g b a;obtain⟨_,y⟩:=I.base.i_ b j e;rw[y]at z;cases z
 loc:=J.loc
 cell:=J.cell
 free:=by
  rw[cx,J.free];intro a;obtain⟨_,_,z⟩:=t.yH _ a;rw[J.free]at z;cases z
 fP:=λx c e=>by
  rw[cx]
  .exact J.fP x c e
  .intro a
   obtain⟨o,f,z⟩:=t.yH _ a;obtain⟨v,oc,m,d⟩:=J.cell x c e;obtain⟨C,_,_,D,_,E,F,G,k,_,q,_⟩:=J.hok _ _ z;rw[m]at k;cases k
   simp only[q]at d
   first|cases d | (obtain⟨_,d⟩:=d;cases d) | (have:=d.1;cases this)
 pin:=λp r=>by
  obtain⟨w,l,A⟩:=J.pin p r;refine⟨w,?_,A⟩;rw[cx,l];intro a;obtain⟨_,_,z⟩:=t.yH _ a;rw[l]at z;cases z
 hok:=J.hok.nQ t.yH
 len:=J.len
end
open Classical in
theorem PS.nQ{X:Cx}{st:Stmt}{t:TS}(h:PS X st t):PS X st (λE c H=>t {E with nx:=λa b=>∃B:Addr->Prop,Hv B H b/\E.nx a (oD B b)} c H):=λpins s c H D I d=>cy (h pins s c H _ I d) λf e z=>by
 cases f with
 |next=>
  obtain⟨a,b,J,B,t,q⟩:=z;exact⟨a,oD B b,I.nQ J t,q⟩
 |_=>exact z
end L2
namespace Mir
open PySem PySem.Spec PyProof.Rows L2
variable [aE]
noncomputable def BC(c:Cell)(b:Option Cell):Cell:=match c,b with
 |.dF a,some (.dK _)=>.dK a
 |c,_=>c
def eu(Ω ai:aD):aD:=ai.mapIdx λk c=>BC c Ω[k]?
def kJ(F:aQ):aQ:=λc b=>match F c b with
 |.ok d a=>.ok d (eu b a)
 |r=>r
def ED(Ω:aD)(r:gc):gc:=match r with
 |.nx b a=>.nx b (eu Ω a)
 |r=>r
def uP(a:D->aR->Option aR)(mi:IM)(b:SM):SM:=λd c=>ED c (dt a mi b d c)
theorem aJ.of_get{d g:Type}{R:d->g->Prop}:∀{c:List d}{bs:List g},bs.length=c.length->(∀(i:Nat) (a:d) (b:g),c[i]?=some a->bs[i]?=some b->R a b)->aJ R c bs
 |[],[],_,_=>.nil
 |a::c,b::bs,h,k=>.cons (k 0 a b rfl rfl) (aJ.of_get (by simpa using h) λi a b e f=>k (i+1) a b (by simpa using e) (by simpa using f))
 |[],_::_,h,_=>by simp at h
 |_::_,[],h,_=>by simp at h
section
variable{X:Cx}{κ:Str->Addr->Prop}{Φ:gS}{α α' iZ:List Addr}{Z Z' Z0:Addr->Prop}{Ω ai:aD}{H H' H0:Hp}
open Classical in
theorem rp(S:bH κ α Z Ω H)(g:cU α Z H α' Z' H')(x:bH κ α' Z' ai H'):∃B:Addr->Prop,Hv B H H'/\cU α Z H α' Z' (oD B H')/\bH κ α' Z' (eu Ω ai) (oD B H')/\∀d v,aq α' Z' H' d v->aq α' Z' (oD B H') d v:=by
 let B:Addr->Prop:=λb=>∃(k:Nat) (h j:List (Key×D)),α'[k]?=some b/\Ω[k]?=some (Cell.dK h)/\ai[k]?=some (Cell.dF j)
 have K:∀b,B b->b∈α/\∃h,H b=some (.dK h):=λb ⟨k,h,j,t,E,w⟩=>by
  obtain⟨a,F,l,L,_⟩:=S.cell E;have:=g.pre k a F;rw[t]at this;cases this
  exact⟨List.mem_of_getElem? F,l,L⟩
 have O:∀b,B b->∃o h,H' b=some (.dW o (.dK h)):=λb ⟨k,h,j,t,E,w⟩=>by
  obtain⟨a,F,o,l,L,_⟩:=x.cell w;rw[t]at F;cases F
  exact⟨o,l,L⟩
 have P:∀b,Z' b->¬ B b:=λb z ⟨k,_,_,t,_⟩=>x.sep b (List.mem_of_getElem? t) z
 have y:∀d v,aq α' Z' H' d v->aq α' Z' (oD B H') d v:=λd v r=>r.mono (λ_ _ e=>e) (λa o z e=>by rw[cx (P a z)];exact e) λ_ z=>z
 refine⟨B,⟨O,λb m=>(K b m).2⟩,⟨g.pre,g.sub,g.new,g.Dh,λa o e I=>?_,λa I=>?_,λa o u e=>?_⟩,⟨x.sS,?_,x.sep,λa z=>by rw[cx (P a z)];exact x.dom a z⟩,y⟩
 .rw[cx λm=>I (K a m).1];exact g.frm a o e I
 .by_cases m:B a
  .obtain⟨o,h,e⟩:=O a m;rw[tp m e];simp
  .rw[cx m];exact g.has a I
 .rw[cx λm=>by obtain⟨_,_,z⟩:=K a m;rw[e]at z;cases z];exact g.dW a o u e
 .refine aJ.of_get (by unfold eu;rw[List.length_mapIdx];exact x.ye.length) λi c a e f=>?_
  unfold eu at e;rw[List.getElem?_mapIdx]at e;obtain⟨A,t,rfl⟩:=Option.map_eq_some_iff.mp e;obtain⟨a',E,w⟩:=x.cell t;rw[f]at E;cases E
  have R:(∀h j,Ω[i]?=some (.dK h)->A≠.dF j)->¬ B a:=λq ⟨k,h,j,p,s,Q⟩=>by
   have:k=i:=by
    have T:=(List.getElem?_eq_some_iff.mp p);have U:=(List.getElem?_eq_some_iff.mp f)
    exact(List.getElem_inj x.sS).mp (T.2.trans U.2.symm)
   subst this;rw[t]at Q;cases Q
   exact q h j s rfl
  have same:¬ B a->BC A Ω[i]?=A->ij κ (aq α' Z' (oD B H')) (oD B H') a (BC A Ω[i]?):=λn q=>by
   rw[q];cases A with
   |lst ds=>obtain⟨l,p,s⟩:=w;exact⟨l,by rw[cx n];exact p,s.imp y⟩
   |dK h=>obtain⟨l,p,s⟩:=w;exact⟨l,by rw[cx n];exact p,s.imp y⟩
   |dF h=>obtain⟨o,l,p,s⟩:=w;exact⟨o,l,by rw[cx n];exact p,s.imp y⟩
   |ins C fs=>obtain⟨V,X,l,Y,p,s⟩:=w;exact⟨V,X,l,Y,by rw[cx n];exact p,s.imp y⟩
   |_=>exact w.elim
  by_cases M:∃h j,Ω[i]?=some (.dK h)/\A=.dF j
  .obtain⟨h,j,J,rfl⟩:=M
   have m:B a:=⟨i,h,j,f,J,t⟩;obtain⟨o,l,p,s⟩:=w;rw[J];exact⟨l,tp m p,s.imp y⟩
  .refine same (R λh j J N=>M ⟨h,j,J,N⟩) ?_
   unfold BC;split
   .rename_i h G N
    exact absurd ⟨G,h,N,rfl⟩ M
   .rfl
theorem uQ{P:Program}{w:World}{K:PySem.W.Frag}{mg:Str->Option Value}{base:Heap}{CX:rT}{k:Nat}{f:Addr}{c:FuncData}{ps:List Str}{F:aQ}(h:cQ P w K mg base CX k f c ps (dQ κ F)):cQ P w K mg base CX k f c ps (dQ κ (kJ F)):=
 h.nQ.imp λy H Q E ⟨j,Z,e,i,S,r,g⟩=>⟨j,Z,e,i,S,r,by
  unfold kJ at g;cases q:F i e with
  |ok d a=>
   rw[q]at g;intro v z b l m n o;obtain⟨B,p,s,t,u⟩:=rp S m n;exact⟨B,p,g v _ b l s t (u d v o)⟩
  |exc x a=>rw[q]at g;exact g
  |bad=>rw[q]at g;exact g⟩
theorem yJ{st:Stmt}{c:SM}(h:nN X κ Φ st c):nN X κ Φ st (λρ Ω=>ED Ω (c ρ Ω)):=by
 intro t z A ρ Ω;have C:PS X st (λD p H=>∃n u w,Ht κ Φ n u w c ρ Ω D p H):=λpins s p H D I ⟨n,u,w,q⟩=>h n u w ρ Ω pins s p H D I q
 refine PS.imp C.nQ ?_;rintro E p H ⟨y,Z,S,f⟩;replace f:eV κ Φ t z A E (ED Ω (c ρ Ω)):=f;refine⟨y,Z,H,y,Z,⟨S.st,cU.refl S.st.has,S.len,S.val⟩,?_⟩;cases q:c ρ Ω with
 |nx o k=>
  rw[q]at f;intro j m a l b;obtain⟨B,F,G,J,K⟩:=rp S.st b.gr b.st;refine⟨B,F,f j _ a l ⟨J,S.gr.trans G,b.len,λi d e=>?_⟩⟩
  obtain⟨v,L,M⟩:=b.val i d e;exact⟨v,L,K d v M⟩
 |bk o k=>rw[q]at f;exact λj m a l b=>f j m a l ⟨b.st,S.gr.trans b.gr,b.len,b.val⟩
 |ct o k=>rw[q]at f;exact λj m a l b=>f j m a l ⟨b.st,S.gr.trans b.gr,b.len,b.val⟩
 |rt d k=>rw[q]at f;exact λv m a l g s r=>f v m a l (S.gr.trans g) s r
 |exc x k=>rw[q]at f;exact λm a l g s=>f m a l (S.gr.trans g) s
 |bad=>rw[q]at f;exact f.elim
end
noncomputable def aa(i:Nat):EM:=λa b=>match a[i]? with|some (some d)=>.ok d b|_=>.bad
noncomputable def ah(d:D):EM:=λ_ a=>.ok d a
def dP:EM:=λ_ a=>jf a (.dK [])
noncomputable def o2{c d e:Type}(x:Option c)(y:Option d)(k:c->d->e):Option e:=match x,y with
 |some a,some b=>some (k a b)
 |_,_=>none
theorem bN{c d e:Type}{x:Option c}{y:Option d}{k:c->d->e}{z:e}(h:o2 x y k=some z):∃a b,x=some a/\y=some b/\z=k a b:=by
 unfold o2 at h;split at h
 .cases h;exact⟨_,_,rfl,rfl,rfl⟩
 .cases h
theorem cW{b c:Type}{x:Option b}{k:b->c}{z:c}(h:x.map k=some z):∃a,x=some a/\z=k a:=by
 cases x with
 |none=>cases h
 |some a=>cases h;exact⟨a,rfl,rfl⟩
structure aV where
 nB:List (Str×(List D->Out Rs)):=[]
 fn:List (Str×aQ):=[]
 cst:List (Str×D):=[]
 met:List (Str×Str×aQ):=[]
 cls:List (Str×aQ):=[]
 fld:List (Str×List Str):=[]
 clo:List (List D->aQ):=[]
 fz:List Str:=[]
 xt:Bool:=false
 Hw:Kq:=[]
def pM(T:aV)(a:Scope)(N:List Str)(x:Str):Option EM:=
 match oh a N x with
 |some i=>some (aa i)
 |none=>if Ar a x&&okN x then (T.cst.lookup x).map ah else none
def mU:Const->Option EM
 |.none=>some (ah .non)
 |.bool b=>some (ah (.bl b))
 |.int i=>some (ah (.int i))
 |.str x=>some (ah (.str x))
 |_=>none
def du(f:Expr->Option EM):List Expr->Option AM
 |[]=>some ae
 |e::es=>o2 (f e) (du f es) ab
def To(op:BoolOp)(a b:EM):EM:=match op with
 |.And=>jI a b
 |.Or=>rV a b
def jN(f:Expr->Option EM)(op:BoolOp):List Expr->Option EM
 |[]=>none
 |[a]=>f a
 |a::b::r=>o2 (f a) (jN f op (b::r)) (To op)
def tq(f:Expr->Option EM):Option Expr->Option (Bool×EM)
 |none=>some (true,ah .non)
 |some e=>(f e).map λm=>(false,m)
inductive BM where
 |append|clear|reverse|insert|extend|join|wx
noncomputable def BM.nm:BM->Str
 |.append=>"append" |.clear=>"clear" |.reverse=>"reverse" |.insert=>"insert" |.extend=>"extend" |.join=>"join" |.wx=>"pop"
noncomputable def BM.ar:BM->Nat
 |.append=>1|.clear=>0|.reverse=>0|.insert=>2|.extend=>1|.join=>1|.wx=>1
def BM.ty:BM->aD->D->Bool
 |.join=>Ey
 |.wx=>pL
 |_=>kH
def BM.f:BM->D->List D->aD->ax D
 |.append=>bQ|.clear=>iy|.reverse=>eQ|.insert=>eZ|.extend=>iN|.join=>rg|.wx=>iD
def EE(m:Str)(n:Nat):Option BM:=[BM.append,.clear,.reverse,.insert,.extend,.join,.wx].find? λb=>b.nm==m&&b.ar==n
def iO(mo:EM)(a:AM)(m:Str):List (Str×Str×aQ)->Option EM
 |[]=>none
 | (b,C,F)::r=>if b==m then (match iO mo a m r with
  |some x=>some (pz (ay C m F mo a) x)
  |none=>some (ay C m F mo a))else iO mo a m r
def lu(T:aV)(m:Str)(n:Nat)(mo:EM)(a:AM):Option EM:=match EE m n,iO mo a m T.met with
 |some b,some x=>some (pz (dG b.ty b.f mo a) x)
 |some b,none=>some (dG b.ty b.f mo a)
 |none,x=>x
noncomputable def dZ:Expr->Bool
 |.Name .. |.Attribute .. |.Constant (.str _) .. |.Subscript ..=>true
 |_=>false
def tr(x:Str):Option nI:=[nI.len,nI.all,nI.any,nI.list].find? (λb=>b.nm==x)
theorem BD{x:Str}{b:nI}(h:tr x=some b):x=b.nm/\b∈[nI.len,nI.all,nI.any,nI.list]/\b.nm∈eK:=by
 unfold tr at h;have c:=List.find?_some h;have a:=List.mem_of_find?_eq_some h;refine⟨(eq_of_beq c).symm,a,?_⟩;cases b<;>first | (simp at a;done)|decide
def pN(T:aV)(a:Scope)(f:Expr->Option EM)(x:Str)(args:List Expr):Option EM:=
 if Ar a x&&okN x then
  match T.fn.lookup x,T.nB.lookup x,T.cls.lookup x,tr x with
  |some F,_,_,_=>(du f args).map (mN (bg F))
  |none,some F,_,_=>if args.isEmpty then none else (du f args).map (mN (cp F))
  |none,none,some F,_=>(du f args).map (mN (iU x F))
  |none,none,none,some b=>if args.isEmpty then none else (du f args).map (mN (aW b))
  |none,none,none,none=>if x==("sorted":Str)then (if args.isEmpty then none else (du f args).map (mN ox))else (if x==("dict":Str)then (if args.isEmpty then none else (du f args).map (mN gT))else none)
 else none
def ly(T:aV)(a:Scope)(N:List Str)(f:Expr->Option EM)(x:Str)(args:List Expr):Option EM:=match oh a N x with
 |some _=>none
 |none=>pN T a f x args
def yK(b:Scope):List Expr->Option (Expr×Ty×Pos)
 |[a,.Name t p]=>match x4 t with
  |some ty=>if Ar b t then some (a,ty,p)else none
  |none=>none
 |_=>none
theorem wy{d:Scope}{args:List Expr}{a:Expr}{b:Ty}{p:Pos}(h:yK d args=some (a,b,p)):args=[a,.Name b.nm p]/\Ar d b.nm=true/\b.nm∈eK:=by
 unfold yK at h;split at h
 .split at h
  .rename_i e c
   split at h
   .rename_i f
    cases h;obtain⟨rfl,m⟩:=Hj c;exact⟨rfl,f,m⟩
   .cases h
  .cases h
 .cases h
def rq(b:Scope)(f:Expr->Option EM)(x:Str)(args:List Expr):Option EM:=if x==("isinstance":Str)&&Ar b x then match yK b args with
 |some (a,c,_)=>(f a).map (m1 (ti c))
 |none=>none else none
def i4(f:Expr->Option EM)(b:Scope)(iter:Expr):Option IM:=match iter with
 |.Call (.Name g _) args [] _=>if g==("range":Str)then (if Ar b g then (match args with
   |[a]=>(du f [a]).map er
   |_=>none)else none)else (f iter).map aZ
 |_=>(f iter).map aZ
def yL(f:Expr->Option EM):List Expr->Option (Bool×EM)
 |[]=>some (true,ah .non)
 |[c]=>(f c).map λm=>(false,m)
 |_=>none
noncomputable def emptyDict:List (Option Expr)->List Expr->Bool
 |[],[]=>true
 |_,_=>false
def BE(T:aV)(f:Expr->Option EM)(o:Expr)(m:Str)(a:Expr)(b:List Expr)(c:Keyword):Option EM:=match c with
 |⟨some d,e,_⟩=>(match T.Hw.lookup (m,d)with
  |some (C,F)=>o2 (f o) (o2 (du f (a::b)) (f e) Prod.mk) λg y=>ay C m F g (oC y.1 y.2)
  |none=>none)
 |_=>none
def c_(T:aV):Nat->Scope->List Str->Expr->Option EM
 |0,_,_,_=>none
 |n+1,sc,N,e=>match e with
  |.Name x _=>pM T sc N x
  |.Constant c _ _=>mU c
  |.BinOp a d b _=>o2 (c_ T n sc N a) (c_ T n sc N b) (m2 (bj d))
  |.UnaryOp .USub a _=>(c_ T n sc N a).map (m1 AH)
  |.UnaryOp .Not a _=>(c_ T n sc N a).map iT
  |.BoolOp d (a::b::r) _=>jN (c_ T n sc N) d (a::b::r)
  |.Compare a [d] [b] _=>if isSet b then none else o2 (c_ T n sc N a) (c_ T n sc N b) (m2 (aF d))
  |.Compare a [d,g] [b,c] _=>if isSet c then none else o2 (c_ T n sc N a) (o2 (c_ T n sc N b) (c_ T n sc N c) Prod.mk) λx y=>mE d g x y.1 y.2
  |.IfExp t a b _=>o2 (c_ T n sc N t) (o2 (c_ T n sc N a) (c_ T n sc N b) Prod.mk) λx y=>AU x y.1 y.2
  |.Subscript a (.Slice lo hi none _) _=>o2 (c_ T n sc N a) (o2 (tq (c_ T n sc N) lo) (tq (c_ T n sc N) hi) Prod.mk) λx y=>dg x y.1.1 y.1.2 y.2.1 y.2.2
  |.Subscript a b _=>if isSlice b then none else o2 (c_ T n sc N a) (c_ T n sc N b) (m2 aN)
  |.List es _=>(du (c_ T n sc N) es).map (mN aY)
  |.Tuple es _ _=>(du (c_ T n sc N) es).map (mN ip)
  |.Attribute o f _=>if dZ o then o2 (T.fld.lookup f) (c_ T n sc N o) λCs m=>m1 (eo Cs f) m else none
  |.Call (.Name x _) args [] _=>match rq sc (c_ T n sc N) x args with
   |some m=>some m
   |none=>ly T sc N (c_ T n sc N) x args
  |.Call (.Attribute o m p1) args [] p2=>if p1.endLine==p2.line&&dZ o&&decide (args.length<20)then (match c_ T n sc N o,du (c_ T n sc N) args with
   |some mo,some as=>lu T m args.length mo as
   |_,_=>none)else none
  |.Call (.Attribute o m p1) (a::as) [h] p2=>if p1.endLine==p2.line&&dZ o&&decide ((a::as).length<20)then BE T (c_ T n sc N) o m a as h else none
  |.ListComp elt gens scope _=>match mr gens with
   |some (x,_,iter,ifs)=>if x5 scope sc x&&!isSet iter then (match sQ sc N (ef scope),i4 (c_ T n sc N) sc iter,c_ T n (sP scope sc) (x::ef scope) elt,yL (c_ T n (sP scope sc) (x::ef scope)) ifs with
    |some cap,some mi,some me,some (nc,mc)=>some (bF me nc mc mi 0 cap)
    |_,_,_,_=>none)else none
   |none=>none
  |.Dict ks vs _=>if emptyDict ks vs then some dP else none
  |_=>none
structure GoodO(X:Cx)(κ:Str->Addr->Prop)(T:aV)(k:Nat)(sc:Scope)(N:List Str):Prop where
 scope:X.env.scope=sc
 names:X.N=N
 calm:X.calm=true
 room:df k X.A
 fB:∀x∈eK,X.mg x=none
 nB:∀x F,T.nB.lookup x=some F->Hg X k x F
 fn:∀x F,T.fn.lookup x=some F->yy X κ k x F
 cst:∀x d,T.cst.lookup x=some d->∃v u,X.mg x=some u/\RelV v u/\fS d=some v
 met:∀m C F,(m,C,F)∈T.met->uO X κ k C m F
 cls:∀C F,T.cls.lookup C=some F->∃j,j+1<=k/\yC X κ j C F
 fld:∀f Cs,T.fld.lookup f=some Cs->kg X.K κ Cs f
 clo:(∀j F,T.clo[j]?=some F->rn X.prog X.w X.K X.mg X.base κ k j F)/\oB X.prog X.w X.K X.mg X.base κ k T.Hw
theorem GoodO.gl{X:Cx}{κ:Str->Addr->Prop}{T:aV}{k:Nat}{a:Scope}{N:List Str}{x:Str}(G:GoodO X κ T k a N)(h:Ar a x=true):Gl X x:=by
 unfold Ar at h;have e:=eq_of_beq h
 show X.env.scope.names.lookup x=some .globalImplicit
 rw[G.scope];exact e
theorem GoodO.hu{X:Cx}{κ:Str->Addr->Prop}{T:aV}{k:Nat}{a:Scope}{N:List Str}(G:GoodO X κ T k a N):X.A.units+64<cLine:=G.room.units
theorem GoodO.blk{X:Cx}{κ:Str->Addr->Prop}{T:aV}{k:Nat}{c:Scope}{N:List Str}(G:GoodO X κ T k c N)(scope:Scope)(e:List (Str×Addr))(C:Addr)(d:List Str)(a:Shared)(b:Hp)(fp:List Addr):GoodO (blk X scope e C d a b fp) κ T k (sP scope c) d where
 scope:=by rw[←G.scope];rfl
 names:=rfl
 calm:=G.calm
 room:=G.room
 fB:=G.fB
 nB:=λx F h=>⟨(G.nB x F h).ex⟩
 fn:=λx F h=>⟨(G.fn x F h).ex⟩
 cst:=G.cst
 met:=λm C F h=>⟨(G.met m C F h).ex⟩
 cls:=λC F h=>let ⟨j,f,g⟩:=G.cls C F h;⟨j,f,⟨g.ex⟩⟩
 fld:=G.fld
 clo:=G.clo
def lA(X:Cx)(κ:Str->Addr->Prop)(e:Expr)(m:EM):Prop:=(∀a,bq X κ a e m)/\(∀a,il X κ a e m)/\isStar e=false
section
variable{X:Cx}{κ:Str->Addr->Prop}{T:aV}{k:Nat}{sc:Scope}{N:List Str}{f:Expr->Option EM}
theorem bU{e:Expr}{m:EM}(h:∀Φ,bq X κ Φ e m)(b:isStar e=false)(c:∀a,isTrue e X.env a=(do let v ←a;standAt e.pos;holding [v] (truthy v))):lA X κ e m:=⟨h,λΦ=>AV (h Φ) c,b⟩
theorem bZ(b:∀e m,f e=some m->lA X κ e m):∀{es:List Expr}{a:AM},du f es=some a->(∀Φ,qk X κ Φ es a)/\(∀e∈es,isStar e=false)
 |[],a,h=>by cases h;exact⟨λΦ=>Ax,λe d=>absurd d (by simp)⟩
 |e::es,a,h=>by
  obtain⟨m,g,h1,h2,rfl⟩:=bN h;obtain⟨i,_,c⟩:=b e m h1;obtain⟨j,k⟩:=bZ b h2;refine⟨λΦ=>yg (i Φ) (j Φ) (b_ c),λz hz=>?_⟩
  rcases List.mem_cons.mp hz with rfl|hz
  .exact c
  .exact k z hz
theorem yM(G:GoodO X κ T k sc N){x:Str}{pos:Pos}{m:EM}(h:pM T sc N x=some m):lA X κ (.Name x pos) m:=by
 unfold pM at h;split at h
 .rename_i i q
  cases h;obtain⟨c,e,a,f⟩:=uA q;exact bU (λg=>Aw (by rw[G.names];exact c) (by rw[G.scope];exact e) a f) rfl (λ_=>rfl)
 .split at h
  .rename_i b
   simp only[Bool.and_eq_true]at b;obtain⟨d,a,rfl⟩:=cW h;obtain⟨v,u,j,l,n⟩:=G.cst x d a;obtain⟨o,p,r⟩:=uB b.2;exact bU (λg=>jG (zJ (G.gl b.1) j l o) n) rfl (λ_=>rfl)
  .cases h
theorem wz{q:Const}{j:Nat}{pos:Pos}{m:EM}(h:mU q=some m):lA X κ (.Constant q j pos) m:=by
 cases q<;>simp only[mU]at h<;>cases h
 .exact bU (λa=>jG DG rfl) rfl (λ_=>rfl)
 .exact bU (λa=>jG GC rfl) rfl (λ_=>rfl)
 .exact bU (λa=>jG DF rfl) rfl (λ_=>rfl)
 .exact bU (λa=>jG DH rfl) rfl (λ_=>rfl)
theorem rr{op:BoolOp}{pos:Pos}(c:∀e m,f e=some m->lA X κ e m):∀{es:List Expr}{m:EM},jN f op es=some m->(∀Φ,bq X κ Φ (.BoolOp op es pos) m)/\(∀Φ,Di X κ Φ (.BoolOp op es pos) m)
 |[],m,h=>by cases h
 |[a],m,h=>by
  obtain⟨p1,p2,p3⟩:=c a m h;exact⟨λΦ=>v5 (p1 Φ),λΦ=>AZ (p2 Φ)⟩
 |a::b::r,m,h=>by
  simp only[jN]at h;obtain⟨i,l,j,k,rfl⟩:=bN h;obtain⟨p1,p2,p3⟩:=c a i j;obtain⟨d,g⟩:=rr c k;cases op with
  |And=>exact⟨λΦ=>AW (p1 Φ) (d Φ),λΦ=>A8 (p2 Φ) (g Φ)⟩
  |Or=>exact⟨λΦ=>Ep (p1 Φ) (d Φ),λΦ=>Er (p2 Φ) (g Φ)⟩
theorem rA(b:∀e m,f e=some m->lA X κ e m){o:Option Expr}{n:Bool}{m:EM}{Φ:gS}(h:tq f o=some (n,m)):Ko X κ Φ o n m:=by
 cases o with
 |none=>cases h;exact .inl ⟨rfl,rfl⟩
 |some e=>
  obtain⟨a,c,d⟩:=cW h;cases d;exact .inr ⟨e,rfl,rfl,(b e m c).1 Φ⟩
theorem BF{m:Str}{n:Nat}{b:BM}(h:EE m n=some b):m=b.nm/\n=b.ar:=by
 have:=List.find?_some h;simp only[Bool.and_eq_true,beq_iff_eq]at this;exact⟨this.1.symm,this.2.symm⟩
theorem dU{o:Expr}{n:Str}{env:Env}(h:dZ o=true):attributeBase o n env (eval o env)=eval o env:=by
 cases o<;>first|rfl | (cases h)
theorem Hx(B:X.A.units+64<cLine)(b:BM){o:Expr}{es:List Expr}{mo:EM}{u:AM}{w y:Pos}{Φ:gS}(i:dZ o=true)(j:(w.endLine==y.line)=true)(k:es.length=b.ar)(l:bq X κ Φ o mo)(t:du f es=some u)(z:∀e m,f e=some m->lA X κ e m) :
  bq X κ Φ (.Call (.Attribute o b.nm w) es [] y) (dG b.ty b.f mo u):=by
 obtain⟨n,s⟩:=bZ z t;have n:=n Φ;cases b with
 |append=>
  match es,k with
  |[e],_=>exact mQ PySem.F.plainAttrs_list PySem.F.slot_list_append PySem.F.type_list_append n4 (λx v a Z c H S r h=>mP S r h) (λx v p q a Z c H Q S r d g=>wd S r d g) (dU i) j l n s (by simp)
 |clear=>
  match es,k with
  |[],_=>cases t;exact uK PySem.F.plainAttrs_list PySem.F.slot_list_clear PySem.F.type_list_clear xx (λx v a Z c H S r h=>mP S r h) (λx v p q a Z c H Q S r d g=>yp S r d g) (dU i) j l
 |reverse=>
  match es,k with
  |[],_=>cases t;exact uK PySem.F.plainAttrs_list PySem.F.slot_list_reverse PySem.F.type_list_reverse sG (λx v a Z c H S r h=>mP S r h) (λx v p q a Z c H Q S r d g=>tj S r d g) (dU i) j l
 |insert=>
  match es,k with
  |[e,C],_=>exact mQ PySem.F.plainAttrs_list PySem.F.slot_list_insert PySem.F.type_list_insert vX (λx v a Z c H S r h=>mP S r h) (λx v p q a Z c H Q S r d g=>we S r d g) (dU i) j l n s (by simp)
 |extend=>
  match es,k with
  |[e],_=>exact mQ PySem.F.plainAttrs_list PySem.F.slot_list_extend PySem.F.type_list_extend vL (λx v a Z c H S r h=>mP S r h) (λx v p q a Z c H Q S r d g=>wg S r d g) (dU i) j l n s (by simp)
 |join=>
  match es,k with
  |[e],_=>exact mQ PySem.F.plainAttrs_str PySem.F.slot_str_join PySem.F.type_str_join Ao (λx v a Z c H S r h=>Bl S r h) (λx v p q a Z c H Q S r d g=>Bn S r d g) (dU i) j l n s (by simp)
 |wx=>
  match es,k with
  |[e],_=>exact mQ PySem.F.plainAttrs_dict PySem.F.slot_dict_pop PySem.F.type_dict_pop Bz (λx v a Z c H S r h=>BA S r h) (λx v p q a Z c H Q S r d g=>BB S r d g) (dU i) j l n s (by simp)
theorem uR{o:Expr}{m:Str}{a pos:Pos}{es:List Expr}{env:Env}(d:attributeBase o m env (eval o env)=eval o env)(g:∀e∈es,isStar e=false)(c:es.length<20)(h:(a.endLine==pos.line)=true) :
  eval (.Call (.Attribute o m a) es [] pos) env=(do
   let b ←eval o env
   standAt a.atName
   let (f,first) ←holding [b] (getMethod b m (do let l ←importBound o env;pure (l.getD true)))
   callWith pos f first (backTo pos (starEach es env)) (backToKw pos (keywordEach [] env))):=by
 have i:methodCallForm (es.length+([]:List Keyword).length) (backTo pos (starEach es env)) (backToKw pos (keywordEach [] env))=true:=by
  unfold methodCallForm;rw[pK g,decide_eq_true (by show es.length+0+0<30;omega)];rfl
 have j:eval (.Call (.Attribute o m a) es [] pos) env=(do
   let b ←attributeBase o m env (eval o env)
   standAt a.atName
   methodCall o m a pos env b (es.length+([]:List Keyword).length) (backTo pos (starEach es env)) (backToKw pos (keywordEach [] env))):=by rfl
 rw[j,d];unfold methodCall calleeOf methodCallPos;rw[i];simp only[if_true,Bool.not_true,Bool.false_or,h];rfl
theorem jj(b:df k X.A){o:Expr}{m:Str}{es:List Expr}{mo:EM}{p:AM}{r s:Pos}{Φ:gS}(c:dZ o=true)(d:(r.endLine==s.line)=true)(a:es.length<20)(g:bq X κ Φ o mo)(i:du f es=some p)(t:∀e m,f e=some m->lA X κ e m):∀{u:List (Str×Str×aQ)}{x:EM},(∀m C F,(m,C,F)∈u->uO X κ k C m F)->iO mo p m u=some x->bq X κ Φ (.Call (.Attribute o m r) es [] s) x
 |[],x,_,h=>by cases h
 | (j,C,F)::u,x,l,h=>by
  obtain⟨w,n⟩:=bZ t i;simp only[iO]at h;split at h
  .rename_i B
   obtain rfl:=eq_of_beq B
   have one:bq X κ Φ (.Call (.Attribute o j r) es [] s) (ay C j F mo p):=by
    cases es with
    |nil=>cases i;exact wq (l j C F (by simp)) b g (uR (dU c) n a d)
    |cons e es=>exact yB (l j C F (by simp)) b g (w Φ) (b_ (n e (by simp))) (cf λz D=>n z (by simp[D])) (uR (dU c) n a d)
   split at h
   .rename_i y E
    cases h;exact one.alt (jj b c d a g i t (λm C F q=>l m C F (by simp[q])) E)
   .cases h;exact one
  .exact jj b c d a g i t (λm C F q=>l m C F (by simp[q])) h
theorem yN(G:GoodO X κ T k sc N){o:Expr}{m:Str}{es:List Expr}{mo:EM}{d:AM}{g i:Pos}{Φ:gS}{x:EM}(n:dZ o=true)(p:(g.endLine==i.line)=true)(a:es.length<20)(q:bq X κ Φ o mo)(r:du f es=some d)(s:∀e m,f e=some m->lA X κ e m)
  (h:lu T m es.length mo d=some x):bq X κ Φ (.Call (.Attribute o m g) es [] i) x:=by
 have one:∀b,EE m es.length=some b->bq X κ Φ (.Call (.Attribute o m g) es [] i) (dG b.ty b.f mo d):=λb l=>by
  obtain⟨rfl,u⟩:=BF l;exact Hx G.hu b n p u q r s
 have c:∀y,iO mo d m T.met=some y->bq X κ Φ (.Call (.Attribute o m g) es [] i) y:=λy w=>jj G.room n p a q r s G.met w
 unfold lu at h;split at h
 .rename_i b y j t
  cases h;exact(one b j).alt (c y t)
 .rename_i b j t
  cases h;exact one b j
 .rename_i j
  exact c x h
theorem yO(G:GoodO X κ T k sc N)(o:∀e m,f e=some m->lA X κ e m){x:Str}{args:List Expr}{m:EM}{p pos:Pos}(h:pN T sc f x args=some m):lA X κ (.Call (.Name x p) args [] pos) m:=by
 refine bU (λq=>?_) rfl (λ_=>rfl)
 unfold pN at h;split at h
 .rename_i u
  simp only[Bool.and_eq_true]at u;obtain⟨s,D,E⟩:=uB u.2;have n:=G.gl u.1;split at h
  .rename_i F r
   obtain⟨t,g,rfl⟩:=cW h;obtain⟨i,c⟩:=bZ o g;cases args with
   |nil=>cases g;exact wo (G.fn x F r) G.room n s
   |cons a args=>exact yz (G.fn x F r) G.room n s (b_ (c a (by simp))) (cf λz l=>c z (by simp[l])) (i q)
  .rename_i F _ r
   split at h
   .cases h
   .rename_i d
    obtain⟨t,g,rfl⟩:=cW h;obtain⟨i,c⟩:=bZ o g;cases args with
    |nil=>exact absurd rfl d
    |cons a args=>exact v9 (G.nB x F r) G.room n s (b_ (c a (by simp))) (cf λz l=>c z (by simp[l])) (i q)
  .rename_i F _ _ r
   obtain⟨t,g,rfl⟩:=cW h;obtain⟨i,c⟩:=bZ o g;obtain⟨j,y,M⟩:=G.cls x F r;cases args with
   |nil=>cases g;exact yD M (G.room.mono y) n s
   |cons a args=>exact Bx M (G.room.mono y) n s (b_ (c a (by simp))) (cf λz l=>c z (by simp[l])) (i q)
  .rename_i b _ _ _ A
   split at h
   .cases h
   .rename_i d
    obtain⟨t,g,rfl⟩:=cW h;obtain⟨i,c⟩:=bZ o g;obtain⟨rfl,B,C⟩:=BD A;cases args with
    |nil=>exact absurd rfl d
    |cons a args=>exact Bj G.calm B n (G.fB _ C) (b_ (c a (by simp))) (cf λz l=>c z (by simp[l])) (i q)
  .split at h
   .rename_i w
    obtain rfl:=eq_of_beq w;split at h
    .cases h
    .rename_i d
     obtain⟨t,g,rfl⟩:=cW h;obtain⟨i,c⟩:=bZ o g;cases args with
     |nil=>exact absurd rfl d
     |cons a args=>exact yo n (G.fB _ (by decide)) (b_ (c a (by simp))) (cf λz l=>c z (by simp[l])) (i q)
   .split at h
    .rename_i w
     obtain rfl:=eq_of_beq w;split at h
     .cases h
     .rename_i d
      obtain⟨t,g,rfl⟩:=cW h;obtain⟨i,c⟩:=bZ o g;cases args with
      |nil=>exact absurd rfl d
      |cons a args=>exact yn G.calm n (G.fB _ (by decide)) (b_ (c a (by simp))) (cf λz l=>c z (by simp[l])) (i q)
    .cases h
 .cases h
theorem yP(G:GoodO X κ T k sc N)(b:∀e m,f e=some m->lA X κ e m){x:Str}{args:List Expr}{m:EM}{p pos:Pos}(h:ly T sc N f x args=some m):lA X κ (.Call (.Name x p) args [] pos) m:=by
 unfold ly at h;cases a:oh sc N x with
 |none=>rw[a]at h;exact yO G b h
 |some i=>
  rw[a]at h;cases h
theorem BG{o c:Expr}{m d:Str}{b pos a:Pos}{es:List Expr}{env:Env}(i:attributeBase o m env (eval o env)=eval o env)(j:∀e∈es,isStar e=false)(h:es.length<20)(k:(b.endLine==pos.line)=true) :
  eval (.Call (.Attribute o m b) es [⟨some d,c,a⟩] pos) env=(do
   let g ←eval o env
   standAt b.atName
   let (f,first) ←holding [g] (getMethod g m (do let l ←importBound o env;pure (l.getD true)))
   callWith pos f first (backTo pos (starEach es env)) (backToKw pos (keywordEach [⟨some d,c,a⟩] env))):=by
 have n:methodCallForm (es.length+([⟨some d,c,a⟩]:List Keyword).length) (backTo pos (starEach es env)) (backToKw pos (keywordEach [⟨some d,c,a⟩] env))=true:=by
  unfold methodCallForm;rw[pK j,decide_eq_true (by show es.length+1+1<30;omega)];rfl
 have p:eval (.Call (.Attribute o m b) es [⟨some d,c,a⟩] pos) env=(do
   let g ←attributeBase o m env (eval o env)
   standAt b.atName
   methodCall o m b pos env g (es.length+([⟨some d,c,a⟩]:List Keyword).length) (backTo pos (starEach es env)) (backToKw pos (keywordEach [⟨some d,c,a⟩] env))):=by rfl
 rw[p,i];unfold methodCall calleeOf methodCallPos;rw[n];simp only[if_true,Bool.not_true,Bool.false_or,k];rfl
theorem Hy(G:GoodO X κ T k sc N)(c:∀e m,f e=some m->lA X κ e m){o a:Expr}{l:Str}{d:List Expr}{n:Keyword}{m:EM}{p g:Pos}(q:dZ o=true)(r:(p.endLine==g.line)=true)(b:(a::d).length<20)(h:BE T f o l a d n=some m):lA X κ (.Call (.Attribute o l p) (a::d) [n] g) m:=by
 unfold BE at h;split at h
 .split at h
  .rename_i C F s
   obtain⟨t,y,u,w,rfl⟩:=bN h;obtain⟨E,x,z,A,rfl⟩:=bN w;obtain⟨B,i⟩:=bZ c z;have D:=cf (pos:=g) i (env:=X.env);exact bU (λj=>wu G.clo.2 s G.room ((c o t u).1 j) (B j) ((c _ x A).1 j) (b_ (i a (by simp))) (by rw[D];rfl) (BG (dU q) i b r)) rfl (λ_=>rfl)
  .cases h
 .cases h
theorem BH(G:GoodO X κ T k sc N)(d:∀e m,f e=some m->lA X κ e m){x:Str}{args:List Expr}{m:EM}{p pos:Pos}(h:rq sc f x args=some m):lA X κ (.Call (.Name x p) args [] pos) m:=by
 unfold rq at h;split at h
 .rename_i b
  simp only[Bool.and_eq_true,beq_iff_eq]at b;obtain⟨rfl,g⟩:=b;split at h
  .rename_i a i j l
   obtain⟨rfl,n,o⟩:=wy l;obtain⟨q,r,rfl⟩:=cW h;obtain⟨s,_,t⟩:=d a q r;exact bU (λu=>Bk (G.gl g) (G.fB _ (by decide)) (G.gl n) (G.fB _ o) (b_ t) (cf (es:=[Expr.Name i.nm j]) λz c=>by simp at c;subst c;rfl) (s u)) rfl (λ_=>rfl)
  .cases h
 .cases h
theorem mV(G:GoodO X κ T k sc N)(d:∀e m,f e=some m->lA X κ e m){iter:Expr}{mi:IM}(h:i4 f sc iter=some mi):∀Φ b,wV X κ Φ b iter mi:=by
 intro Φ b
 have dflt:∀{mi},(f iter).map aZ=some mi->wV X κ Φ b iter mi:=λ{mi} h=>by
  obtain⟨m,c,rfl⟩:=cW h;exact Bp ((d iter m c).1 Φ)
 unfold i4 at h;split at h
 .rename_i g p args i
  split at h
  .rename_i j
   obtain rfl:=eq_of_beq j;split at h
   .rename_i l
    split at h
    .rename_i a
     obtain⟨q,c,rfl⟩:=cW h;obtain⟨n,o⟩:=bZ d c;exact yr (G.gl l) (G.fB _ (by decide)) (n Φ) (by rw[b_ (o a (by simp))];rfl)
    .cases h
   .cases h
  .exact dflt h
 .exact dflt h
end
section
variable{κ:Str->Addr->Prop}{T:aV}{k:Nat}
theorem BI{X:Cx}{c:Scope}{N:List Str}(G:GoodO X κ T k c N){scope:Scope}{x:Str}{cap:List Nat}(f:x5 scope c x=true)(m:sQ c N (ef scope)=some cap) :
  kB X scope [x] (ef scope) cap/\scope.names.lookup x=some .local/\([x]++ef scope).Nodup:=by
 simp only[x5,Bool.and_eq_true,decide_eq_true_eq,List.all_eq_true,Bool.not_eq_true',beq_iff_eq,Bool.or_eq_true]at f;obtain⟨⟨⟨⟨⟨n,o⟩,p⟩,r⟩,s⟩,t⟩:=f;obtain⟨u,w⟩:=x9 m
 have g:∀y∈scope.names,y.2=.free->(c.names.lookup y.1=some .cell\/c.names.lookup y.1=some .free)/\scope.names.lookup y.1=some .free:=λy a b=>by
  rcases r y a with q|q
  .rw[b]at q;exact absurd q (by decide)
  .exact q
 refine⟨⟨n,λy a b=>?_,λy a b=>?_,λy a b=>?_,u,λj i z h A=>?_⟩,s,t⟩
 .have:=o y a
  rw[b]at this;exact absurd this (by decide)
 .rcases p y a with q|q
  .rw[b]at q;exact absurd q (by decide)
  .exact q
 .have:=(g y a b).1
  show X.env.scope.names.lookup y.1=_\/X.env.scope.names.lookup y.1=_
  rw[G.scope];exact this
 .refine⟨by rw[G.names];exact w j i z h A,?_⟩
  have l:z∈ef scope:=List.mem_of_getElem? h;unfold ef at l;obtain⟨y,a,rfl⟩:=List.mem_map.mp l;obtain⟨d,e⟩:=List.mem_filter.mp a;exact(g y d (by simpa using e)).2
theorem mW{T:aV}{a:Scope}{N:List Str}{n:Nat}{b:Expr}{gens:List Comprehension}{scope:Scope}{pos:Pos}{m:EM}{P:Prop}(e:mr gens=none)(h:c_ T (n+1) a N (.ListComp b gens scope pos)=some m):P:=by
 replace h:(match mr gens with
   |some (x,_,iter,c)=>if (x5 scope a x&&!isSet iter)=true then (match sQ a N (ef scope),i4 (c_ T n a N) a iter,c_ T n (sP scope a) (x::ef scope) b,yL (c_ T n (sP scope a) (x::ef scope)) c with
    |some d,some f,some g,some (i,j)=>some (bF g i j f 0 d)
    |_,_,_,_=>none)else none
   |none=>none)=some m:=h
 rw[e]at h;cases h
theorem kK{n:Nat}(o:∀(X:Cx) (f:Scope) (N:List Str) (e:Expr) (m:EM),GoodO X κ T k f N->c_ T n f N e=some m->lA X κ e m){X:Cx}{f:Scope}{N:List Str}(G:GoodO X κ T k f N){scope:Scope}{x:Str}{iter i:Expr}{g:List Expr}{q pos:Pos}{m:EM}
  (h:c_ T (n+1) f N (.ListComp i [⟨.Name x q,iter,g,0⟩] scope pos)=some m):∃me nc mc mi cap,m=bF me nc mc mi 0 cap/\kB X scope [x] (ef scope) cap/\scope.names.lookup x=some .local/\([x]++ef scope).Nodup /\
   (∀z,foldedSetIterable iter X.env z=pure z)/\(∀Φ,wV X κ Φ (.Name x q) iter mi) /\
   ∀l C b d fp,((g=[]/\nc=true)\/∃c,g=[c]/\nc=false/\il (blk X scope l C ([x]++ef scope) b d fp) κ rX c mc)/\bq (blk X scope l C ([x]++ef scope) b d fp) κ rX i me:=by
 replace h:(if (x5 scope f x&&!isSet iter)=true then (match sQ f N (ef scope),i4 (c_ T n f N) f iter,c_ T n (sP scope f) (x::ef scope) i,yL (c_ T n (sP scope f) (x::ef scope)) g with
    |some cap,some mi,some me,some (nc,mc)=>some (bF me nc mc mi 0 cap)
    |_,_,_,_=>none)else none)=some m:=h
 split at h
 .rename_i p
  simp only[Bool.and_eq_true,Bool.not_eq_true']at p;split at h
  .rename_i cap mi me nc mc t u w j
   cases h;obtain⟨y,A,B⟩:=BI G p.1 t;refine⟨me,nc,mc,mi,cap,rfl,y,A,B,mu p.2,λΦ=>mV G (o X f N · · G) u Φ _,λl C b d fp=>?_⟩
   have r:=G.blk scope l C ([x]++ef scope) b d fp;refine⟨?_,(o _ _ _ i me r w).1 rX⟩
   match g,j with
   |[],j=>cases j;exact .inl ⟨rfl,rfl⟩
   |[s],j=>
    obtain⟨a,D,E⟩:=cW j;cases E;exact .inr ⟨s,rfl,rfl,(o _ _ _ s mc r D).2.1 rX⟩
  .cases h
 .cases h
theorem tw:∀(n:Nat) (X:Cx) (u:Scope) (N:List Str) (e:Expr) (m:EM),GoodO X κ T k u N->c_ T n u N e=some m->lA X κ e m:=by
 intro n
 induction n with
 |zero=>intro X u N e m G h;cases h
 |succ n V=>
  intro X u N e m G h;have g:∀e m,c_ T n u N e=some m->lA X κ e m:=λe m q=>V X u N e m G q
  cases e with
  |Name x pos=>exact yM G h
  |Constant c j pos=>exact wz h
  |BinOp a op b pos=>
   obtain⟨z,C,l,w,rfl⟩:=bN h;exact bU (λd=>AE ((g a z l).1 d) ((g b C w).1 d)) rfl (λ_=>rfl)
  |UnaryOp op a pos=>
   cases op with
   |USub=>
    obtain⟨z,l,rfl⟩:=cW h;exact bU (λd=>AI ((g a z l).1 d)) rfl (λ_=>rfl)
   |Not=>
    obtain⟨z,l,rfl⟩:=cW h;exact⟨λd=>AX ((g a z l).1 d),λd=>AY ((g a z l).2.1 d),rfl⟩
   |_=>cases h
  |BoolOp op L pos=>
   match L,h with
   |a::b::r,h=>
    obtain⟨q1,q2⟩:=rr (pos:=pos) g (show jN (c_ T n u N) op (a::b::r)=some m from h)
    exact⟨q1,λd=>(q2 d).pt,rfl⟩
   |[_],h=>cases h
   |[],h=>cases h
  |Compare a P cs pos=>
   match P,cs,h with
   |[op],[b],h=>
    replace h:(if isSet b=true then none else o2 (c_ T n u N a) (c_ T n u N b) (m2 (aF op)))=some m:=h
    split at h
    .cases h
    .rename_i Q
     obtain⟨z,C,l,w,rfl⟩:=bN h;have H:=qS (op:=op) (b:=b) (by simpa using Q)
     exact⟨λd=>(uI G.hu H ((g a z l).1 d) ((g b C w).1 d)).1,λd=>(uI G.hu H ((g a z l).1 d) ((g b C w).1 d)).2,rfl⟩
   |[op,D],[b,M],h=>
    replace h:(if isSet M=true then none else o2 (c_ T n u N a) (o2 (c_ T n u N b) (c_ T n u N M) Prod.mk) λx y=>mE op D x y.1 y.2)=some m:=h
    split at h
    .cases h
    .rename_i Q
     obtain⟨z,a0,l,A,rfl⟩:=bN h;obtain⟨C,mc,w,E,rfl⟩:=bN A;have H:lastMarks [op,D] [b,M]=false:=qS (op:=D) (b:=M) (by simpa using Q)
     exact⟨λd=>Bb G.hu H ((g _ _ l).1 d) ((g _ _ w).1 d) ((g _ _ E).1 d),λd=>Bc G.hu H ((g _ _ l).1 d) ((g _ _ w).1 d) ((g _ _ E).1 d),rfl⟩
   |[],_,h=>cases h
   |[_],[],h=>cases h
   |[_],_::_::_,h=>cases h
   |[_,_],[],h=>cases h
   |[_,_],[_],h=>cases h
   |[_,_],_::_::_::_,h=>cases h
   |_::_::_::_,[],h=>cases h
   |_::_::_::_,[_],h=>cases h
   |_::_::_::_,_::_::_,h=>cases h
  |IfExp t a b pos=>
   obtain⟨mt,b0,l,A,rfl⟩:=bN h;obtain⟨z,C,w,E,rfl⟩:=bN A;exact⟨λd=>A_ ((g _ _ l).2.1 d) ((g _ _ w).1 d) ((g _ _ E).1 d),λd=>Ba ((g _ _ l).2.1 d) ((g _ _ w).2.1 d) ((g _ _ E).2.1 d),rfl⟩
  |Subscript a s pos=>
   have R:∀b,isSlice b=false->o2 (c_ T n u N a) (c_ T n u N b) (m2 aN)=some m->lA X κ (.Subscript a b pos) m:=λb S h=>by
    obtain⟨z,C,l,w,rfl⟩:=bN h;refine bU (λd=>AQ (by have:=G.hu;omega) (λo i=>?_) ((g _ _ l).1 d) ((g _ _ w).1 d)) rfl (λ_=>rfl)
    cases b<;>first|rfl | (cases S)
   cases s with
   |Slice lo I st p2=>
    cases st with
    |none=>
     obtain⟨z,c0,l,A,rfl⟩:=bN h;obtain⟨⟨nl,ml⟩,⟨nh,mh⟩,w,E,rfl⟩:=bN A;exact bU (λd=>AS ((g _ _ l).1 d) (rA g w) (rA g E)) rfl (λ_=>rfl)
    |some e=>
     cases lo with
     |none=>
      cases I with
      |none=>
       exact nomatch (show(none:Option EM)=some m from h)
      |some _=>exact nomatch (show(none:Option EM)=some m from h)
     |some _=>exact nomatch (show(none:Option EM)=some m from h)
   |_=>exact R _ rfl h
  |List es pos=>
   obtain⟨F,l,rfl⟩:=cW h;exact bU (λd=>Ay ((bZ g l).1 d)) rfl (λ_=>rfl)
  |Tuple es j pos=>
   obtain⟨F,l,rfl⟩:=cW h;exact bU (λd=>Az ((bZ g l).1 d)) rfl (λ_=>rfl)
  |Attribute o f pos=>
   replace h:(if dZ o=true then o2 (T.fld.lookup f) (c_ T n u N o) λU m=>m1 (eo U f) m else none)=some m:=h
   split at h
   .rename_i S
    obtain⟨U,J,l,w,rfl⟩:=bN h;exact bU (λd=>Bw (G.fld f U l) (dU S) ((g o J w).1 d)) rfl (λ_=>rfl)
   .cases h
  |Call f args K pos=>
   cases f with
   |Name x p=>
    cases K with
    |nil=>
     replace h:(match rq u (c_ T n u N) x args with|some m=>some m|none=>ly T u N (c_ T n u N) x args)=some m:=h
     cases I:rq u (c_ T n u N) x args with
     |some m'=>
      rw[I]at h;cases h;exact BH G g I
     |none=>
      rw[I]at h;exact yP G g h
    |cons _ _=>cases h
   |Attribute o Y Z=>
    cases K with
    |nil=>
     replace h:(if (Z.endLine==pos.line&&dZ o&&decide (args.length<20))=true then (match c_ T n u N o,du (c_ T n u N) args with
   |some J,some F=>lu T Y args.length J F
   |_,_=>none)else none)=some m:=h
     split at h
     .rename_i B
      simp only[Bool.and_eq_true,decide_eq_true_eq]at B;split at h
      .rename_i J F l w
       exact bU (λd=>yN G B.1.2 B.1.1 B.2 ((g o J l).1 d) w g h) rfl (λ_=>rfl)
      .cases h
     .cases h
    |cons kd O=>
     cases O with
     |cons _ _=>cases args<;>cases h
     |nil=>
      cases args with
      |nil=>cases h
      |cons a F=>
       replace h:(if (Z.endLine==pos.line&&dZ o&&decide ((a::F).length<20))=true then BE T (c_ T n u N) o Y a F kd else none)=some m:=h
       split at h
       .rename_i B
        simp only[Bool.and_eq_true,decide_eq_true_eq]at B;exact Hy G g B.1.2 B.1.1 B.2 h
       .cases h
   |_=>cases h
  |ListComp e0 gens scope pos=>
   cases hg:mr gens with
   |none=>exact mW hg h
   |some q=>
    obtain⟨x,px,iter,f0⟩:=q;obtain rfl:=oi hg;obtain⟨me,nc,mc,mi,g0,rfl,b1,b2,b3,b4,b5,b6⟩:=kK (λX u N e m G q=>V X u N e m G q) G h
    exact bU (λd=>yt G.calm b1 b4 (b5 d) b2 b3 b6) rfl (λ_=>rfl)
  |Dict O L pos=>
   replace h:(if emptyDict O L=true then some dP else none)=some m:=h
   split at h
   .rename_i hd
    cases h
    match O,L,hd with
    |[],[],_=>exact bU (λd=>wt) rfl (λ_=>rfl)
   .cases h
  |_=>cases h
end
structure iE(X:Cx)(κ:Str->Addr->Prop)(T:aV)(k:Nat)(sc:Scope)(N:List Str):Prop extends GoodO X κ T k sc N where
 own:PassesOwn (model X.prog X.w) X.A X.env X.xe
 Q_:∀x,xZ sc x=true->T.fz.contains x=false->(X.fn x=true\/X.env.scope.names.lookup x=some .local)
 sS:N.Nodup
 kind:sc.kind=.function
 DL:T.xt=false->∀e s,¬ X.xe e s
def gg(f:Stmt->Option SM):List Stmt->Option SM
 |[]=>some ak
 |s::r=>o2 (f s) (gg f r) aj
def pO(f:Expr->Option EM)(b:Scope)(iter:Expr):Option IM:=match iter with
 |.Call (.Name g _) [a] [] _=>if g==("enumerate":Str)then (if Ar b g then (f a).map kX else none)else i4 f b iter
 |.Call (.Attribute o c d) [] [] e=>if c==("items":Str)&&d.endLine==e.line&&dZ o then (f o).map iz else i4 f b iter
 |_=>i4 f b iter
def mX(T:aV)(a:Scope)(N:List Str)(x:Str):Option Nat:=if T.fz.contains x then none else qT a N x
def mY(T:aV)(a:Scope)(N:List Str)(nms:List (Str×Pos)):Option (List Nat):=if nms.any (λy=>T.fz.contains y.1)then none else mw a N nms
def tB(T:aV)(td:List Str)(k:Nat)(a:Scope)(N:List Str)(x:Str)(b:Pos)(e:Expr)(pos:Pos):Option SM:=match mX T a N x with
   |some i=>(match c_ T k a N e with
    |some m=>if qU a x b e then (if pos.line==b.line then some (aA i m)else none)else some (aA i m)
    |none=>none)
   |none=>none
def tD(T:aV)(k:Nat)(a:Scope)(N:List Str)(es:List Expr)(e:Expr):Option SM:=match fq es with
   |some nms=>match mY T a N nms,c_ T k a N e with
    |some b,some m=>if x_ e then some (wk b m)else none
    |_,_=>none
   |none=>none
noncomputable def Hz:Expr->Bool
 |.Call (.Attribute (.Attribute ..) m _) [] [] _=>m==("items":Str)
 |_=>false
def uS(b:Bool)(a:D->aR->Option aR)(mi:IM)(c:SM):SM:=if b then uP a mi c else dt a mi c
theorem yQ{X:Cx}{κ:Str->Addr->Prop}{Φ:gS}{st:Stmt}{b:Bool}{a:D->aR->Option aR}{mi:IM}{c:SM}(h:nN X κ Φ st (dt a mi c)):nN X κ Φ st (uS b a mi c):=by
 unfold uS;split
 .exact yJ h
 .exact h
def kZ(T:aV)(td:List Str)(k:Nat)(d:Scope)(N:List Str):Nat->Stmt->Option SM
 |0,_=>none
 |n+1,st=>match st with
  |.Return (some e) _=>some (match c_ T k d N e with
   |some m=>bT m
   |none=>cR)
  |.Assign [.Name x h] e pos=>tB T td k d N x h e pos
  |.Assign [.Tuple es _ _] e _=>tD T k d N es e
  |.Assign [.Attribute o f _] e _=>if dZ o&&!je e then o2 (T.fld.lookup f) (o2 (c_ T k d N o) (c_ T k d N e) Prod.mk) λCs y=>eR Cs f y.1 y.2 else none
  |.Assign [.Subscript o i _] e _=>if isSlice i||je e then none else o2 (c_ T k d N o) (o2 (c_ T k d N i) (c_ T k d N e) Prod.mk) λx y=>fH x y.1 y.2
  |.Expr e _=>if je e then none else (c_ T k d N e).map bA
  |.If c a b _=>o2 (c_ T k d N c) (o2 (gg (kZ T td k d N n) a) (gg (kZ T td k d N n) b) Prod.mk) λx y=>e_ x y.1 y.2
  |.While c b [] _=>o2 (c_ T k d N c) (gg (kZ T td k d N n) b) nP
  |.For (.Name x _) g b [] _=>if isSet g then none else o2 (mX T d N x) (o2 (i4 (c_ T k d N) d g) (gg (kZ T td k d N n) b) Prod.mk) λi y=>dt (dM i) y.1 y.2
  |.For (.Tuple es _ _) g b [] _=>if isSet g then none else match fq es with
   |some nms=>o2 (mY T d N nms) (o2 (pO (c_ T k d N) d g) (gg (kZ T td k d N n) b) Prod.mk) λj y=>uS (Hz g) (eg j) y.1 y.2
   |none=>none
  |.Raise _ _ _=>some cR
  |.Try b (_::_) [] [] _=>if T.xt then none else gg (kZ T td k d N n) b
  |_=>none
section
variable{X:Cx}{κ:Str->Addr->Prop}{Φ:gS}{T:aV}{td:List Str}{k:Nat}{sc:Scope}{N:List Str}{α α' iZ α1:List Addr}{Z Z' Z0 Z1:Addr->Prop}{Ω ai:aD}{H H' H0 H1:Hp}
theorem BJ{es:List Expr}{x1:Nat}{j p pos:Pos}{a:Expr}{m:EM}(hg:Gl X "enumerate")(hm:X.mg "enumerate"=none)(O:starEach [a] X.env=[(false,eval a X.env)])(ha:bq X κ Φ a m) :
  wV X κ Φ (.Tuple es x1 j) (.Call (.Name "enumerate" p) [a] [] pos) (kX m):=by
 intro r Z0 H0 ρ Ω;refine PI.imp (An hg hm (iK (ha r Z0 H0 ρ Ω) sD O) O) ?_;rintro σ H R ⟨α,Z,S,g⟩;refine⟨α,Z,S,rW.use g λx s _ v H1 t Z1 g1 l P n=>?_⟩
 have u:∀{b:List Addr}{h:Addr->Prop}{c:aD}{f:Hp}{i:Nat}{v:V}{q:D},bH κ b h c f->aq b h f q v->∀p,f p=none->∃z,cU b h f b z (upd f p (.tup [.int i,v]))/\bH κ b z c (upd f p (.tup [.int i,v]))/\aq b z (upd f p (.tup [.int i,v])) (.tup [.int (0+i:Nat),q]) (.ref p):=λ{b h c f i v q} k A p B=>by
  obtain⟨Q,C⟩:=k.uD (p:=p) (o:=.tup [.int i,v]) B True;simp only[if_true]at Q C;refine⟨Zp h p,C,Q,?_⟩;simp only[aq];refine⟨p,_,rfl,.inr rfl,ba,cz.mpr (.cons ?_ (.one (k.dO C A)))⟩;simp only[aq];simp
 cases E:dY s x with
 |none=>simp only[E]at n;exact n.elim
 |some a0=>
  simp only[E]at n;have F:=P;obtain⟨a,G,rfl,q1,q2⟩:=cH l P E;refine⟨a,rfl,⟨G,lV q1⟩,n _ H1 t Z1 (cU.refl l.has) l ?_⟩;intro b h c f ds g2 k I;obtain⟨J,h2,rfl⟩:=cW I;have r2:=l.dO g2 F;obtain⟨a',K,e,L,T⟩:=cH k r2 h2;cases e;refine⟨λi d hd=>?_,λi U=>by rw[gx]at U;exact⟨K,lV L,by rw[T.length];exact U⟩⟩
  obtain⟨q,M,rfl⟩:=jC J 0 i d hd;obtain⟨v,Y,A⟩:=T.get M;refine⟨⟨K,v,lV L,Y⟩,λy H3 N=>?_⟩
  obtain⟨p,rfl,B,N⟩:=N;obtain⟨w,hw,rfl⟩:=N K (lV L);rw[Y]at hw;cases hw
  exact u k A p B
theorem wA{es:List Expr}{y:Nat}{h r s:Pos}{a:Expr}{m:EM}(z:dZ a=true)(A:(r.endLine==s.line)=true)(e:bq X κ Φ a m) :
  wV X κ Φ (.Tuple es y h) (.Call (.Attribute a "items" r) [] [] s) (iz m):=by
 intro n B C D E;refine PI.imp (yj (dU z) A (e n B C D E)) ?_;rintro O H R ⟨F,Z,S,g⟩;refine⟨F,Z,S,rW.use g λx G _ v P I Q T i t f=>?_⟩
 unfold uL at f;split at f
 .rename_i k
  simp only[aq]at t;obtain⟨a,e,rfl⟩:=t;split at f
  .rename_i j p
   obtain⟨J,d,b,l,w⟩:=i.cell p;rw[e]at d;cases d
   refine⟨a,b,rfl,.inl ⟨l,λo=>?_⟩⟩
   obtain⟨K,L⟩:=i.put (c:=.dF j) (o:=.dW o (.dK b)) e (λo u q=>by rw[l]at q;cases q) λR M=>⟨o,b,ba,w.imp M⟩
   exact f _ _ _ _ L K (oy e ba)
  .rename_i j p
   obtain⟨J,d,N,b,l,w⟩:=i.cell p;rw[e]at d;cases d
   exact⟨a,b,rfl,.inr ⟨N,l,f _ _ _ _ (cU.refl i.has) i (oy e l)⟩⟩
  .exact f.elim
 .exact f.elim
theorem BK{body:List Stmt}{d:ExceptHandler}{g:List ExceptHandler}{pos:Pos}{b:SM}(i:∀e s,¬ X.xe e s)(j:nO X κ Φ body b):nN X κ Φ (.Try body (d::g) [] [] pos) b:=by
 intro a k l m n pins s o H D I h;refine wpAny_Try_except (wpAny_mono (j a k l m n pins s o H D I h) (λf c q=>?_) λe c q=>absurd q (i e c))
 cases f with
 |next=>exact wpAny_execs_nil q
 |_=>exact q
theorem BL(G:GoodO X κ T k sc N){f:Expr->Option EM}(b:∀e m,f e=some m->lA X κ e m){iter:Expr}{mi:IM}(h:pO f sc iter=some mi){es:List Expr}{j:Nat}{l:Pos}:∀Φ,wV X κ Φ (.Tuple es j l) iter mi:=by
 intro Φ;unfold pO at h;split at h
 .rename_i g p a n
  split at h
  .rename_i q
   obtain rfl:=eq_of_beq q;split at h
   .rename_i c
    obtain⟨d,e,rfl⟩:=cW h;obtain⟨i,_,r⟩:=b a d e;exact BJ (G.gl c) (G.fB _ (by decide)) (by rw[b_ r];rfl) (i Φ)
   .cases h
  .exact mV G b h Φ _
 .rename_i o u i w
  split at h
  .rename_i c
   simp only[Bool.and_eq_true,beq_iff_eq]at c;obtain⟨⟨rfl,s⟩,t⟩:=c;obtain⟨d,e,rfl⟩:=cW h;exact wA t (by simpa using s) ((b o d e).1 Φ)
  .exact mV G b h Φ _
 .exact mV G b h Φ _
theorem wB(G:iE X κ T k sc N){x:Str}{i:Nat}(h:qT sc N x=some i):X.N[i]?=some x/\Loc X.env.scope x:=by
 unfold qT at h;split at h
 .rename_i b
  simp only[Bool.and_eq_true]at b;refine⟨by rw[G.names];exact x6 h,?_⟩
  rw[G.scope];have a:=b.1;unfold xZ at a;unfold L2.Loc;split at a
  .rename_i q;exact .inl q
  .rename_i q;exact .inr q
  .cases a
 .cases h
theorem mZ{f:Stmt->Option SM}(e:∀s c,f s=some c->nN X κ Φ s c):∀{d:List Stmt}{c:SM},gg f d=some c->nO X κ Φ d c
 |[],c,h=>by cases h;exact Br
 |s::d,c,h=>by
  obtain⟨a,b,h1,h2,rfl⟩:=bN h;exact yu (e s a h1) (mZ e h2)
theorem ki(G:iE X κ T k sc N){x:Str}{i:Nat}(h:mX T sc N x=some i):X.N[i]?=some x/\Loc X.env.scope x/\(X.fn x=true\/X.env.scope.names.lookup x=some .local):=by
 unfold mX at h;split at h
 .cases h
 .rename_i d
  obtain⟨a,b⟩:=wB G h;refine⟨a,b,G.Q_ x ?_ (by simpa using d)⟩
  unfold qT at h;split at h
  .rename_i c;simp only[Bool.and_eq_true]at c;exact c.1
  .cases h
theorem m8(G:iE X κ T k sc N):∀{nms:List (Str×Pos)}{a:List Nat},(∀y∈nms,T.fz.contains y.1=false)->mw sc N nms=some a->a.length=nms.length/\∀(j i:Nat) (x:Str×Pos),a[j]?=some i->nms[j]?=some x->X.N[i]?=some x.1/\Loc X.env.scope x.1/\(X.fn x.1=true\/X.env.scope.names.lookup x.1=some .local)
 |[],a,_,h=>by cases h;exact⟨rfl,λj i x e=>by simp at e⟩
 |x::xs,a,d,h=>by
  simp only[mw,Option.bind_eq_bind]at h;obtain⟨i,h1,h⟩:=Option.bind_eq_some_iff.mp h;obtain⟨f,g,h⟩:=Option.bind_eq_some_iff.mp h;cases h;obtain⟨l,m⟩:=m8 G (λy n=>d y (by simp[n])) g
  refine⟨by rw[List.length_cons,List.length_cons,l],λj o y b c=>?_⟩
  cases j with
  |zero=>
   simp at b c;subst b c
   exact ki G (by unfold mX;rw[if_neg (by rw[d x (by simp)];simp)];exact h1)
  |succ j=>exact m j o y (by simpa using b) (by simpa using c)
theorem rC(G:iE X κ T k sc N){es:List Expr}{j:Nat}{p:Pos}{nms:List (Str×Pos)}{a:List Nat}(e:fq es=some nms)(c:mY T sc N nms=some a):PG X (.Tuple es j p) (zO X.K a.length (j7 a)):=by
 obtain rfl:=kF e
 have b:(∀y∈nms,T.fz.contains y.1=false)/\mw sc N nms=some a:=by
  unfold mY at c;split at c
  .cases c
  .rename_i f
   refine⟨λy g=>?_,c⟩
   cases q:T.fz.contains y.1 with
   |false=>rfl
   |true=>exact absurd (List.any_eq_true.mpr ⟨y,g,q⟩) f
 obtain⟨d,h⟩:=m8 G b.1 b.2;obtain⟨i,l⟩:=oj X.env nms;exact DN G.calm (og (nms:=nms) (by rw[G.names];exact G.sS) a nms d h) (by rw[i,d]) l
theorem rD{a:Expr}{gens:List Comprehension}{scope:Scope}{p b:Pos}{x:Str}{l:Nat}(G:iE X κ T k sc N) :
  swapsWith (.ListComp a gens scope p) (some (.Name x b)) l X.env=pure (qU sc x b (.ListComp a gens scope p)):=by
 have c:X.env.blockKind=.function:=by
  show(if X.env.scope.kind.isAnnotationScope=true then ScopeKind.function else X.env.scope.kind)=_
  rw[G.scope,G.kind];rfl
 show pure (X.env.blockKind==.function&&X.env.kindOf x==some .local&&b.line==p.line&&!(scope.names.any λ(n,k)=>n==x&&(k==.local||k==.cell)))=_
 rw[c]
 show pure (true&&X.env.scope.names.lookup x==some .local&&b.line==p.line&&!(scope.names.any λ(n,k)=>n==x&&(k==.local||k==.cell)))=_
 rw[G.scope];rfl
theorem uT(G:iE X κ T k sc N){n i:Nat}{x:Str}{a pos:Pos}{e:Expr}{m:EM}(j:mX T sc N x=some i)(h:c_ T n sc N e=some m)(l:qU sc x a e=true->pos.line=a.line):nN X κ Φ (.Assign [.Name x a] e pos) (aA i m):=by
 obtain⟨d,o,r⟩:=ki G j;have f:X.N.Nodup:=by rw[G.names];exact G.sS
 have E:=tw n X sc N e m G.toGoodO h;have plain:swapsWith e (some (.Name x a)) pos.line X.env=pure false->nN X κ Φ (.Assign [.Name x a] e pos) (aA i m):=λq=>Bt f d o r q (E.1 Φ)
 cases e with
 |ListComp c gens scope p=>
  cases b:qU sc x a (.ListComp c gens scope p)with
  |false=>exact plain (by rw[rD G,b])
  |true=>
   cases n with
   |zero=>cases h
   |succ n=>
   cases g:mr gens with
   |none=>exact mW g h
   |some q=>
    obtain⟨y,D,iter,s⟩:=q;obtain rfl:=oi g;obtain⟨F,H,I,J,cap,rfl,t,u,w,z,A,B⟩:=kK (λX sc N e m G q=>tw n X sc N e m G q) G.toGoodO h
    have C:X.env.scope.names.lookup x=some .local:=by
     rw[G.scope];unfold qU at b;simp only[Bool.and_eq_true,beq_iff_eq]at b;exact b.1.1
    exact yv f d C (by rw[rD G,b]) G.calm t z (kD 1 (by decide)) (mS (cap:=cap) (A Φ) u w B) (l b)
 |SetComp=>cases n<;>cases h
 |DictComp=>cases n<;>cases h
 |_=>exact plain rfl
theorem tE{e:Expr}{t:Option Expr}{l:Nat}{env:Env}(h:je e=false):swapsWith e t l env=pure false:=by
 cases e<;>first|rfl | (cases h)
theorem BN(G:iE X κ T k sc N):∀(n:Nat) (d:Nat) (st:Stmt) (c:SM),kZ T td d sc N n st=some c->nN X κ Φ st c:=by
 intro n d;have E:∀e m,c_ T d sc N e=some m->lA X κ e m:=λe m q=>tw d X sc N e m G.toGoodO q
 induction n with
 |zero=>intro st c h;cases h
 |succ n S=>
  intro st c h;have B:∀H c,gg (kZ T td d sc N n) H=some c->nO X κ Φ H c:=λH c q=>mZ S q
  have U:X.N.Nodup:=by rw[G.names];exact G.sS
  cases st with
  |Return v l=>
   cases v with
   |none=>cases h
   |some e=>
    replace h:some (match c_ T d sc N e with
   |some m=>bT m
   |none=>cR)=some c:=h
    cases h;split
    .rename_i m g
     exact Bs ((E e m g).1 Φ)
    .exact oz
  |Assign V e l=>
   cases V with
   |nil=>cases h
   |cons t r=>
   cases r with
   |cons t2 r=>cases t<;>cases h
   |nil=>
   cases t with
   |Name x O=>
    replace h:tB T td d sc N x O e l=some c:=h;unfold tB at h;split at h
    .rename_i i P
     .split at h
      .rename_i m Q
       split at h
       .split at h
        .rename_i u Y
         cases h;exact uT G P Q λ_=>eq_of_beq Y
        .cases h
       .rename_i u
        cases h;exact uT G P Q λq=>absurd q u
      .cases h
    .cases h
   |Tuple I j p=>
    replace h:tD T d sc N I e=some c:=h;unfold tD at h;split at h
    .rename_i nms J
     split at h
     .rename_i F m g s
      split at h
      .rename_i Z
       cases h;exact Bv (rC G J g) Z ((E e m s).1 Φ)
      .cases h
     .cases h
    .cases h
   |Attribute o f p=>
    replace h:(if (dZ o&&!je e)=true then o2 (T.fld.lookup f) (o2 (c_ T d sc N o) (c_ T d sc N e) Prod.mk) λK y=>eR K f y.1 y.2 else none)=some c:=h
    split at h
    .rename_i A
     simp only[Bool.and_eq_true,Bool.not_eq_true']at A;obtain⟨K,y,g,s,rfl⟩:=bN h;obtain⟨mo,L,w,z,rfl⟩:=bN s;exact By (G.fld f K g) (tE A.2) ((E o mo w).1 Φ) ((E e L z).1 Φ)
    .cases h
   |Subscript o i p=>
    replace h:(if (isSlice i||je e)=true then none else o2 (c_ T d sc N o) (o2 (c_ T d sc N i) (c_ T d sc N e) Prod.mk) λx y=>fH x y.1 y.2)=some c:=h
    split at h
    .cases h
    .rename_i A
     simp only[Bool.or_eq_true,not_or,Bool.not_eq_true]at A;obtain⟨md,y,g,s,rfl⟩:=bN h;obtain⟨mk,L,w,z,rfl⟩:=bN s;exact yF (by have:=G.hu;omega) ((E o md g).1 Φ) ((E i mk w).1 Φ) ((E e L z).1 Φ) (tE A.2)
   |_=>cases h
  |Expr e l=>
   replace h:(if je e=true then none else (c_ T d sc N e).map bA)=some c:=h
   split at h
   .cases h
   .rename_i A
    obtain⟨m,g,rfl⟩:=cW h;exact Bu (tE (by simpa using A)) ((E e m g).1 Φ)
  |If M a b l=>
   obtain⟨m,y,g,s,rfl⟩:=bN h;obtain⟨ca,C,w,z,rfl⟩:=bN s;exact EA ((E M m g).2.1 Φ) (B a ca w) (B b C z)
  |While M b e l=>
   cases e with
   |nil=>
    obtain⟨m,C,g,s,rfl⟩:=bN h;exact wm G.own ((E M m g).2.1 Φ) (B b C s)
   |cons _ _=>cases h
  |For R D b e l=>
   cases e with
   |nil=>
    cases R with
    |Name x O=>
     replace h:(if isSet D=true then none else o2 (mX T sc N x) (o2 (i4 (c_ T d sc N) sc D) (gg (kZ T td d sc N n) b) Prod.mk) λi y=>dt (dM i) y.1 y.2)=some c:=h
     split at h
     .cases h
     .rename_i u
      obtain⟨i,y,g,s,rfl⟩:=bN h;obtain⟨mi,C,w,z,rfl⟩:=bN s;obtain⟨s1,s2,s3⟩:=ki G g;exact uN G.own G.calm (mV G.toGoodO E w Φ _) (oP U s1 s2 s3) (EB i) (B b C z) (mu (by simpa using u))
    |Tuple I j p=>
     replace h:(if isSet D=true then none else match fq I with
   |some nms=>o2 (mY T sc N nms) (o2 (pO (c_ T d sc N) sc D) (gg (kZ T td d sc N n) b) Prod.mk) λF y=>uS (Hz D) (eg F) y.1 y.2
   |none=>none)=some c:=h
     split at h
     .cases h
     .rename_i u
      split at h
      .rename_i nms J
       obtain⟨F,y,g,s,rfl⟩:=bN h;obtain⟨mi,C,w,z,rfl⟩:=bN s;exact yQ (uN G.own G.calm (BL G.toGoodO E w Φ) (rC G J g) (yx F) (B b C z) (mu (by simpa using u)))
      .cases h
    |_=>cases h
   |cons _ _=>cases R<;>cases h
  |Raise _ _ _=>cases h;exact oz
  |Try b u oe fi l=>
   match u,oe,fi,h with
   |h0::u,[],[],h=>
    replace h:(if T.xt then none else gg (kZ T td d sc N n) b)=some c:=h
    split at h
    .cases h
    .rename_i hx
     exact BK (G.DL (by simpa using hx)) (B b c h)
   |[],_,_,h=>cases h
   |_::_,_::_,_,h=>cases h
   |_::_,[],_::_,h=>cases h
  |_=>cases h
def fN(mg:Str->Option Value):Str->Addr->Prop:=λC a=>mg C=some (.ref a)
structure bO(P:Program)(w:World)(K:PySem.W.Frag)(mg:Str->Option Value)(base:Heap)(T:aV)(k:Nat):Prop where
 fB:∀x∈eK,mg x=none
 nB:∀x F,T.nB.lookup x=some F->∃(f:Addr) (fd:FuncData) (ps:List Str),mg x=some (.ref f)/\PySem.W.keepIn K (.ref f)=true/\Binds K fd ps []/\cQ P w K mg base nA k f fd ps (mm F)
 fn:∀x F,T.fn.lookup x=some F->∃(f:Addr) (fd:FuncData) (ps:List Str),mg x=some (.ref f)/\PySem.W.keepIn K (.ref f)=true/\Binds K fd ps []/\cQ P w K mg base nA k f fd ps (dQ (fN mg) F)
 cst:∀x d,T.cst.lookup x=some d->∃v u,mg x=some u/\RelV v u/\fS d=some v
 met:∀m C F,(m,C,F)∈T.met->∃(Ca f:Addr) (fd:FuncData) (ps:List Str),Dk P w K mg base (fN mg) k C m F Ca f fd ps
 cls:∀C F,T.cls.lookup C=some F->∃j,j+1<=k/\∃(Ca f:Addr) (fd:FuncData) (ps:List Str),fN mg C Ca/\Mk K Ca f/\mg C=some (.ref Ca)/\Binds K fd ps []/\cQ P w K mg base nA j f fd ps (dQ (fN mg) F)
 fld:∀f Cs,T.fld.lookup f=some Cs->kg K (fN mg) Cs f
 clo:(∀j F,T.clo[j]?=some F->rn P w K mg base (fN mg) k j F)/\oB P w K mg base (fN mg) k T.Hw
def bC(T:aV)(td:List Str)(st:Stmt)(N:List Str):Option SM:=gg (kZ T td 60 (av st) N 30) (cm st)
end
section
variable{P:Program}{w:World}{K:PySem.W.Frag}{mg:Str->Option Value}{base:Heap}{T:aV}{k:Nat}
theorem BO{F:aQ}{ai:aD}{H:Hp}{a:Addr}{ns:List Int}{κ:Str->Addr->Prop}(c:Rd H a (.lst (ns.map V.int)))(h:F [.lst (ns.map D.int)] []=.ok (.bl true) ai):dQ κ F [.ref a] H (λv _=>v=.bl true) E0:=by
 refine⟨[],λb=>b=a,[],[.lst (ns.map D.int)],⟨List.nodup_nil,.nil,λ_ h=>by simp at h,λb e=>?_⟩,.one ?_,?_⟩
 .subst e
  rcases c with e|⟨o,e⟩<;>rw[e]<;>simp
 .simp only[aq]
  refine⟨a,ns.map V.int,rfl,rfl,c,?_⟩;clear h c
  induction ns with
  |nil=>exact cz.mpr .nil
  |cons n ns d=>exact cz.mpr (.cons (by simp only[aq]) (cz.mp d))
 .rw[h]
  intro v i f j g s r;simpa only [aq]using r
theorem bO.mono(W:bO P w K mg base T k){j:Nat}(h:k<=j):bO P w K mg base T j:=
 ⟨W.fB,λx F q=>let ⟨f,i,l,a,b,c,d⟩:=W.nB x F q;⟨f,i,l,a,b,c,d.mono h⟩,λx F q=>let ⟨f,i,l,a,b,c,d⟩:=W.fn x F q;⟨f,i,l,a,b,c,d.mono h⟩,W.cst,
  λm C F q=>let ⟨o,f,i,l,a,b,c,p,n,r,F1,d,d1,d2,e,g⟩:=W.met m C F q;⟨o,f,i,l,a,b,c,p,n,r,F1,d,d1,d2,e.mono h,g⟩,λC F q=>let ⟨s,t,u⟩:=W.cls C F q;⟨s,Nat.le_trans t h,u⟩,W.fld,⟨λj F q=>(W.clo.1 j F q).mono h,W.clo.2.mono h⟩⟩
end
noncomputable def aV.wC(T:aV)(x:Str)(F:List D->Out Rs):aV:={T with nB:=(x,F)::T.nB}
noncomputable def aV.fb(T:aV)(x:Str)(F:aQ):aV:={T with fn:=(x,F)::T.fn}
noncomputable def aV.fC(T:aV)(C m:Str)(F:aQ):aV:={T with met:=(m,C,F)::T.met}
noncomputable def aV.BP(T:aV)(C:Str)(F:aQ):aV:={T with cls:=(C,F)::T.cls}
def aV.wD(T:aV)(f:Str)(Cs:List Str):aV:={T with fld:=(f,Cs)::T.fld}
noncomputable def aV.nR(T:aV)(x:Str)(d:D):aV:={T with cst:=(x,d)::T.cst}
theorem gh{a:Type}{x y:Str}{F G:a}{l:List (Str×a)}(h:((x,F)::l).lookup y=some G):(y=x/\G=F)\/l.lookup y=some G:=by
 rw[List.lookup_cons]at h;cases e:y==x with
 |true=>rw[e]at h;cases h;exact .inl ⟨eq_of_beq e,rfl⟩
 |false=>rw[e]at h;exact .inr h
section
variable{P:Program}{w:World}{K:PySem.W.Frag}{mg:Str->Option Value}{base:Heap}{T:aV}{k:Nat}
theorem bO.start(a:∀x∈eK,mg x=none):bO P w K mg base {} 0:=
 ⟨a,λx F h=>(by cases h),λx F h=>(by cases h),λx d h=>(by cases h),λm C F h=>(by cases h),λC F h=>(by cases h),λf b h=>(by cases h),⟨λj F h=>(by cases h),λm c C F h=>(by cases h)⟩⟩
theorem bO.HD(W:bO P w K mg base T k)(p:Str×Str×aQ->Bool):bO P w K mg base {T with met:=T.met.filter p} k:=⟨W.fB,W.nB,W.fn,W.cst,λm C F q=>W.met m C F (List.mem_filter.mp q).1,W.cls,W.fld,W.clo⟩
theorem bO.HE(W:bO P w K mg base T k){C m c:Str}{F:aQ}{d f:Addr}{i:FuncData}{ps:List Str}(l:mg C=some (.ref d))(n:nF K d)(M:Meth K d m f)(o:jZ K i ps [c] gK gK)(h:cQ P w K mg base nA k f i ps (dQ (fN mg) F)):bO P w K mg base {T with Hw:=[((m,c),C,F)]} k:=
 ⟨W.fB,W.nB,W.fn,W.cst,W.met,W.cls,W.fld,⟨W.clo.1,λj b p G q=>by
  have q:(match (j,b)==(m,c)with|true=>some (C,F)|false=>none)=some (p,G):=q
  cases e:((j,b)==(m,c))with
  |true=>
   rw[e]at q;cases q;have e:=eq_of_beq e;cases e;exact⟨d,f,i,ps,λa g=>by have g:mg C=some (.ref a):=g;rw[l]at g;cases g;rfl,n,M,o,h⟩
  |false=>rw[e]at q;cases q⟩⟩
theorem bO.wC(W:bO P w K mg base T k){x:Str}{F:List D->Out Rs}{f:Addr}{a:FuncData}{ps:List Str}{j:Nat}(b:mg x=some (.ref f))(c:PySem.W.keepIn K (.ref f)=true)(d:Binds K a ps [])(h:cQ P w K mg base nA j f a ps (mm F))(e:j<=k) :
  bO P w K mg base (T.wC x F) k:=
 ⟨W.fB,λy G q=>by
  rcases gh q with ⟨rfl,rfl⟩|q
  .exact⟨f,a,ps,b,c,d,h.mono e⟩
  .exact W.nB y G q,W.fn,W.cst,W.met,W.cls,W.fld,W.clo⟩
theorem bO.fb(W:bO P w K mg base T k){x:Str}{F:aQ}{f:Addr}{b:FuncData}{ps:List Str}(c:mg x=some (.ref f))(d:PySem.W.keepIn K (.ref f)=true)(e:Binds K b ps [])(h:cQ P w K mg base nA (k+1) f b ps (dQ (fN mg) F)) :
  bO P w K mg base (T.fb x F) (k+1):=by
 have a:=W.mono (Nat.le_succ k)
 exact⟨a.fB,a.nB,λy G q=>by
  rcases gh q with ⟨rfl,rfl⟩|q
  .exact⟨f,b,ps,c,d,e,h⟩
  .exact a.fn y G q,a.cst,a.met,a.cls,a.fld,a.clo⟩
theorem bO.fC(W:bO P w K mg base T k){C m:Str}{F:aQ}{c f:Addr}{e:FuncData}{ps:List Str}(g:mg C=some (.ref c))(i:nF K c)(M:Meth K c m f)(j:Binds K e ps [])(h:cQ P w K mg base nA (k+1) f e ps (dQ (fN mg) F)) :
  bO P w K mg base (T.fC C m F) (k+1):=by
 have b:=W.mono (Nat.le_succ k)
 exact⟨b.fB,b.nB,b.fn,b.cst,λl n G q=>by
  rcases List.mem_cons.mp q with q|q
  .cases q
   refine⟨c,f,e,ps,λa d=>?_,i,M,[],[],[],F,j,.nil,λ_ _ _=>.nil,h,by funext o;rw[List.append_nil]⟩
   have d:mg C=some (.ref a):=d;rw[g]at d;cases d;rfl
  .exact b.met l n G q,b.cls,b.fld,b.clo⟩
theorem bO.HF(W:bO P w K mg base T k){C m:Str}{F:aQ}{d f:Addr}{g:FuncData}{ps:List Str}{ds:List Value}{c:List V}{Dd:List D}(i:mg C=some (.ref d))(j:nF K d)(M:Meth K d m f)(l:Binds K g ps ds)(n:Vals c ds)(o:∀p Z H,aJ (aq p Z H) Dd c)(h:cQ P w K mg base nA (k+1) f g ps (dQ (fN mg) F)) :
  bO P w K mg base (T.fC C m λxs=>F (xs++Dd)) (k+1):=by
 have b:=W.mono (Nat.le_succ k)
 exact⟨b.fB,b.nB,b.fn,b.cst,λr s G q=>by
  rcases List.mem_cons.mp q with q|q
  .cases q
   refine⟨d,f,g,ps,λa e=>?_,j,M,ds,c,Dd,F,l,n,o,h,rfl⟩
   have e:mg C=some (.ref a):=e;rw[i]at e;cases e;rfl
  .exact b.met r s G q,b.cls,b.fld,b.clo⟩
theorem bO.BP(W:bO P w K mg base T k){C:Str}{F:aQ}{b f:Addr}{c:FuncData}{ps:List Str}{j:Nat}(d:mg C=some (.ref b))(M:Mk K b f)(e:Binds K c ps [])(h:cQ P w K mg base nA j f c ps (dQ (fN mg) F))(g:j<=k) :
  bO P w K mg base (T.BP C F) (k+1):=by
 have a:=W.mono (Nat.le_succ k)
 exact⟨a.fB,a.nB,a.fn,a.cst,a.met,λy G q=>by
  rcases gh q with ⟨rfl,rfl⟩|q
  .exact⟨j,by omega,b,f,c,ps,d,M,d,e,h⟩
  .exact a.cls y G q,a.fld,a.clo⟩
theorem bO.wD(W:bO P w K mg base T k){f:Str}{Cs:List Str}(h:kg K (fN mg) Cs f):bO P w K mg base (T.wD f Cs) k:=
 ⟨W.fB,W.nB,W.fn,W.cst,W.met,W.cls,λy G q=>by
  rcases gh q with ⟨rfl,rfl⟩|q
  .exact h
  .exact W.fld y G q,W.clo⟩
theorem bO.nR(W:bO P w K mg base T k){x:Str}{d:D}{v:V}{u:Value}(a:mg x=some u)(b:RelV v u)(c:fS d=some v):bO P w K mg base (T.nR x d) k:=
 ⟨W.fB,W.nB,W.fn,λy G q=>by
  rcases gh q with ⟨rfl,rfl⟩|q
  .exact⟨v,u,a,b,c⟩
  .exact W.cst y G q,W.met,W.cls,W.fld,W.clo⟩
theorem plain1{C f:Str}{c:Addr}(g:mg C=some (.ref c))(h:nF K c)(n:PySem.W.findIn K (.ref c) f=some none):kg K (fN mg) [C] f:=λe a d b=>by
 have d:e=C:=by simpa using d
 subst d;have b:mg e=some (.ref a):=b;rw[g]at b;cases b;exact⟨h,n⟩
end
def HH(F:aQ):Sp:=λa H Q E=>∀b,dQ b F a H Q E
end Mir
namespace Mir
open PySem PySem.Spec PyProof.Rows L2
def EG:D->Bool
 |.lst ds=>ds.all fD
 |d=>fD d
section
variable{α:List Addr}{Z Z1:Addr->Prop}{H H1:Hp}
theorem uU{d:D}{v:V}(a:fD d=true)(r:Rep Z H d v):aq α Z1 H1 d v:=by
 cases d with
 |lst _=>cases a
 |tup _=>cases a
 |ref _=>cases a
 |dct _ _=>cases a
 |_=>simp only[Rep]at r;simp only[aq];exact r
theorem wF{d:D}{v:V}(a:fD d=true)(r:aq α Z1 H1 d v):Rep Z H d v:=by
 cases d with
 |lst _=>cases a
 |tup _=>cases a
 |ref _=>cases a
 |dct _ _=>cases a
 |_=>simp only[aq]at r;simp only[Rep];exact r
theorem rE:∀{ds:List D}{vs:List V},ds.all fD=true->bb Z H ds vs->eL α Z1 H1 ds vs
 |[],vs,_,r=>by simp only[bb]at r;simp only[eL];exact r
 |d::ds,vs,h,r=>by
  simp only[List.all_cons,Bool.and_eq_true]at h;simp only[bb]at r;obtain⟨v,a,e,h1,h2⟩:=r;simp only[eL];exact⟨v,a,e,uU h.1 h1,rE h.2 h2⟩
theorem HJ{d:D}{v:V}(h:EG d=true)(r:Rep Z H d v):aq α Z H d v:=by
 cases d with
 |lst g=>
  simp only[Rep]at r;obtain⟨a,b,e,z,c,f⟩:=r;simp only[aq];exact⟨a,b,e,z,c,rE h f⟩
 |tup _=>cases h
 |ref _=>cases h
 |dct _ _=>cases h
 |_=>exact uU rfl r
theorem yR:∀{ds:List D}{vs:List V},ds.all EG=true->bb Z H ds vs->aJ (aq α Z H) ds vs
 |[],vs,_,r=>by simp only[bb]at r;subst r;exact .nil
 |d::ds,vs,h,r=>by
  simp only[List.all_cons,Bool.and_eq_true]at h;simp only[bb]at r;obtain⟨v,a,rfl,h1,h2⟩:=r;exact .cons (HJ h.1 h1) (yR h.2 h2)
end
variable [aE]
def pureOf(O:aQ):List D->Out Rs:=λa=>if a.all EG=true then (match O a []with
  |.ok d _=>if fD d=true then .ok (false,d)else .bad
  |_=>.bad)else .bad
section
variable{P:Program}{w:World}{K:PySem.W.Frag}{mg:Str->Option Value}{base:Heap}{k:Nat}{f:Addr}{fd:FuncData}{ps:List Str}{O:aQ}
theorem uV(h:cQ P w K mg base nA k f fd ps (dQ (fN mg) O)):cQ P w K mg base nA k f fd ps (mm (pureOf O)):=h.imp λC H Q E q=>by
 obtain⟨Z,i,t,d,c,r,e,g⟩:=q;unfold pureOf at e
 by_cases j:i.all EG=true
 .rw[if_pos j]at e
  refine⟨[],Z,[],i,⟨List.nodup_nil,.nil,λa l=>by simp at l,c⟩,yR j r,?_⟩
  cases m:O i []with
  |exc x u=>rw[m]at e;cases e
  |bad=>rw[m]at e;cases e
  |ok d1 u=>
   rw[m]at e;dsimp only at e
   by_cases n:fD d1=true
   .rw[if_pos n]at e
    cases e;intro v y z D p F A;refine g v y Z ⟨λb o B=>p.frm b o B (by simp),λ_ h=>h,λ_ h=>.inl h,λa l=>?_⟩ (.rep (wF n A))
    cases s:H a with
    |none=>exact absurd s (c a l)
    |some o=>rw[p.frm a o s (by simp)];simp
   .rw[if_neg n]at e;cases e
 .rw[if_neg j]at e;cases e
end
end Mir
namespace Mir
open PySem
@[simp] theorem HM:kU .non=some false:=rfl
@[simp] theorem Kr{b:Bool}:kU (.bl b)=some b:=rfl
@[simp] theorem HN{i:Int}:kU (.int i)=some (i != 0):=rfl
@[simp] theorem HP{xs:List D}:kU (.lst xs)=some (!xs.isEmpty):=rfl
@[simp] theorem HQ{xs:List D}:kU (.tup xs)=some (!xs.isEmpty):=rfl
section
variable{Γ:nJ}{ρ:Ac}{a b:Q5}{e:Ex}{i j:Nat}{bw:Bool}
end
section
variable{bw:Bool}{i:Nat}{a b c es:Ex}
end
section
variable{Γ:nJ}{ρ:Ac}{bw:Bool}{i:Nat}{a b c es:Ex}
def Ag(o:Bool)(f:List D->D):D->Out Rs
 |.tup ds=>if small ds.length=true then .ok (o,f ds)else .bad
 |_=>.bad
@[simp] theorem HS{o:Bool}{f:List D->D}{ds:List D}:Ag o f (.tup ds)=if small ds.length=true then .ok (o,f ds)else .bad:=rfl
end
@[simp] theorem Ks{i j:Int}:fQ .Add (.int i) (.int j)=.ok (false,.int (i+j)):=rfl
@[simp] theorem Kt{i j:Int}:fQ .Sub (.int i) (.int j)=.ok (false,.int (i - j)):=rfl
@[simp] theorem Ku{i j:Int}:fQ .Mult (.int i) (.int j)=if (lT i||lT j)=true then .ok (false,.int (i*j))else .bad:=rfl
@[simp] theorem Kv{i j:Int}:fQ .FloorDiv (.int i) (.int j)=if (decide (0<j)&&decide (j<1073741824))=true then .ok (false,.int (i / j))else .bad:=rfl
@[simp] theorem Kw{i j:Int}:fQ .Mod (.int i) (.int j)=if decide (0<j)=true then .ok (false,.int (i%j))else .bad:=rfl
@[simp] theorem Kx{i j:Int}:fQ .Pow (.int i) (.int j)=if (decide (0<=j)&&decide (j<=1000)&&decide (i.natAbs<2 ^ 64))=true then .ok (false,.int (i ^ j.toNat))else .bad:=rfl
@[simp] theorem HU{i j:Str}:fQ .Add (.str i) (.str j)=if small (i.length+j.length)=true then .ok (false,.str (i++j))else .bad:=rfl
@[simp] theorem HV{i j:List D}:fQ .Add (.lst i) (.lst j)=if small (i.length+j.length)=true then .ok (true,.lst (i++j))else .bad:=rfl
@[simp] theorem EH{x y:D}:ez .Eq x y=if (aT 8 x&&aT 8 y)=true then .ok (fy x y)else .bad:=rfl
@[simp] theorem EI{x y:D}:ez .NotEq x y=if (aT 8 x&&aT 8 y)=true then .ok (!fy x y)else .bad:=rfl
@[simp] theorem ML{i j:Int}:ez .Lt (.int i) (.int j)=.ok (decide (i<j)):=rfl
@[simp] theorem MM{i j:Int}:ez .LtE (.int i) (.int j)=.ok (decide (i<=j)):=rfl
@[simp] theorem cmp_gt{i j:Int}:ez .Gt (.int i) (.int j)=.ok (decide (j<i)):=rfl
@[simp] theorem MN{i j:Int}:ez .GtE (.int i) (.int j)=.ok (decide (j<=i)):=rfl
@[simp] theorem MO{x y:D}:ez .In x y=inD x y:=rfl
@[simp] theorem Ky{x y:D}:ez .NotIn x y=inD x y >>= λb=>.ok (!b):=rfl
@[simp] theorem MP{x y:D}:ez .Is x y=isD x y:=rfl
@[simp] theorem Kz{x y:D}:ez .IsNot x y=isD x y >>= λb=>.ok (!b):=rfl
@[simp] theorem MQ{n:Nat}:aT n .non=true:=by cases n<;>rfl
@[simp] theorem Ra{n:Nat}{b:Bool}:aT n (.bl b)=true:=by cases n<;>rfl
@[simp] theorem MR{n:Nat}{i:Int}:aT n (.int i)=true:=by cases n<;>rfl
@[simp] theorem MS{n:Nat}{x:Str}:aT n (.str x)=true:=by cases n<;>rfl
@[simp] theorem MT{n:Nat}{xs:List D}:aT (n+1) (.lst xs)=xs.all (aT n):=rfl
@[simp] theorem MU{n:Nat}{xs:List D}:aT (n+1) (.tup xs)=xs.all (aT n):=rfl
@[simp] theorem eq_int{i j:Int}:fy (.int i) (.int j)=(i==j):=rfl
@[simp] theorem Rb{i j:Bool}:fy (.bl i) (.bl j)=(i==j):=rfl
@[simp] theorem eq_str{i j:Str}:fy (.str i) (.str j)=(i==j):=rfl
@[simp] theorem MV{i j:List D}:fy (.lst i) (.lst j)=eW i j:=rfl
@[simp] theorem MW{i j:List D}:fy (.tup i) (.tup j)=eW i j:=rfl
@[simp] theorem KN:eW [] []=true:=rfl
@[simp] theorem rF{x y:D}{xs ys:List D}:eW (x::xs) (y::ys)=(fy x y&&eW xs ys):=rfl
@[simp] theorem MX{y:D}{ys:List D}:eW [] (y::ys)=false:=rfl
@[simp] theorem MY{y:D}{ys:List D}:eW (y::ys) []=false:=rfl
theorem BQ{z:Str}{i:Int}{c:Nat}(h:small z.length=true)(e:L2.kx z.cps.toList i=some c):sI (.str z) (.int i)=.ok (false,.str (bE c)):=by
 simp only[sI,h,if_pos,e]
@[simp] theorem KO{xs:List D}{l h:Option Int}:xF (.lst xs) l h=.ok (true,.lst (dC xs l h)):=rfl
@[simp] theorem KP{z:Str}{l h:Option Int}:xF (.str z) l h=if small z.length=true then .ok (false,.str ⟨(dC z.cps.toList l h).toArray⟩)else .bad:=rfl
@[simp] theorem KQ{xs:List D}:jc .len (.tup [.lst xs])=.ok (false,.int xs.length):=rfl
@[simp] theorem KR{xs:List D}:jc .len (.tup [.tup xs])=.ok (false,.int xs.length):=rfl
@[simp] theorem len_str{z:Str}:jc .len (.tup [.str z])=if small z.length=true then .ok (false,.int z.length)else .bad:=rfl
def yS(f:List Bool->Bool):Option (List Bool)->Out Rs
 |some bs=>.ok (false,.bl (f bs))
 |none=>.bad
@[simp] theorem Gi{f:List Bool->Bool}{bs:List Bool}:yS f (some bs)=.ok (false,.bl (f bs)):=rfl
@[simp] theorem KS{xs:List D}:jc .all (.tup [.lst xs])=yS (λbs=>bs.all id) (fR xs):=rfl
@[simp] theorem KU{xs:List D}:jc .any (.tup [.lst xs])=yS (λbs=>bs.any id) (fR xs):=rfl
@[simp] theorem HW{xs:List D}:jc .list (.tup [.lst xs])=.ok (true,.lst xs):=rfl
@[simp] theorem HX{xs:List D}:jc .list (.tup [.tup xs])=.ok (true,.lst xs):=rfl
@[simp] theorem Gj{xs:List D}:jc .tuple (.tup [.lst xs])=.ok (false,.tup xs):=rfl
@[simp] theorem Gk{xs:List D}:jc .tuple (.tup [.tup xs])=.ok (false,.tup xs):=rfl
@[simp] theorem int_int{i:Int}:jc .int (.tup [.int i])=.ok (false,.int i):=rfl
@[simp] theorem MZ{k:Bool}:jc .int (.tup [.bl k])=.ok (false,.int (if k then 1 else 0)):=rfl
@[simp] theorem KW{i j:Int}:jc .min (.tup [.int i,.int j])=.ok (false,.int (if j<i then j else i)):=rfl
@[simp] theorem KY{i j:Int}:jc .max (.tup [.int i,.int j])=.ok (false,.int (if j>i then j else i)):=rfl
@[simp] theorem M5{t:Ty}:xG .non t=some false:=rfl
@[simp] theorem Rc{t:Ty}{b:Bool}:xG (.bl b) t=some (t==.bool||t==.int):=rfl
@[simp] theorem ty_int{t:Ty}{i:Int}:xG (.int i) t=some (t==.int):=rfl
@[simp] theorem ty_str{t:Ty}{x:Str}:xG (.str x) t=some (t==.str):=rfl
@[simp] theorem M6{t:Ty}{xs:List D}:xG (.lst xs) t=some (t==.list):=rfl
@[simp] theorem M9{t:Ty}{xs:List D}:xG (.tup xs) t=some (t==.tuple):=rfl
@[simp] theorem M_{t:Ty}{a:List L2.Key}{xs:List D}:xG (.dct a xs) t=some (t==.dict):=rfl
theorem aK{n:Nat}(h:n<=100000):small n=true:=by
 unfold small;rw[decide_eq_true_eq,sizeLine_eq];omega
theorem jO{i:Int}(a : -(2 ^ 64)<i)(b:i<2 ^ 64):lT i=true:=decide_eq_true (by omega)
theorem ff{i:Int}(a : -(2 ^ 62)<i)(b:i<2 ^ 62):nH i=true:=decide_eq_true (by omega)
theorem EJ{b:Type}{xs:List b}{i:Int}(c:0<=i)(d:i<xs.length):∃x,x∈xs/\L2.kx xs i=some x:=by
 have a:i.toNat<xs.length:=by omega
 refine⟨xs[i.toNat],List.getElem_mem a,?_⟩;have h:=L2.cZ (List.getElem?_eq_getElem a);rw[show(i.toNat:Int)=i by omega]at h
 exact h
@[simp] theorem in_str{x y:Str}:inD (.str x) (.str y)=.ok (uq x y):=rfl
theorem ek(n:Nat):∀a:Int,(intsFrom a n).length=n:=by
 induction n with
 |zero=>intro a;rfl
 |succ n b=>intro a;simp[intsFrom,b]
theorem fJ{n:Nat}:∀{a:Int}{i:Nat}{d:D},(intsFrom a n)[i]?=some d->d=.int (a+i)/\i<n:=by
 induction n with
 |zero=>intro a i d h;simp[intsFrom]at h
 |succ n b=>
  intro a i d h;cases i with
  |zero=>simp[intsFrom]at h;subst h;exact⟨by simp,by omega⟩
  |succ i=>
   simp[intsFrom]at h;obtain⟨c,e⟩:=b h;exact⟨by rw[c];congr 1;omega,by omega⟩
noncomputable def L1(xs:List Str):D:=.lst (xs.map .str)
def LL(rs:List (List Str)):D:=.lst (rs.map L1)
theorem tH{a:Type}(xs:List a)(k:Nat):dC xs (some (k:Int)) none=xs.drop k:=by
 unfold dC;rw[HT.lR,HT.jx];rcases Nat.le_total k xs.length with h|h
 .rw[Nat.min_eq_left h]
  exact List.take_of_length_le (by simp)
 .rw[Nat.min_eq_right h,List.drop_eq_nil_of_le (Nat.le_refl _),List.drop_eq_nil_of_le h];simp
theorem tN{a:Type}(xs:List a)(k:Nat):dC xs none (some (k:Int))=xs.take k:=by
 unfold dC;rw[HT.lR,HT.jx,List.drop_zero,Nat.sub_zero];rcases Nat.le_total k xs.length with h|h
 .rw[Nat.min_eq_left h]
 .rw[Nat.min_eq_right h,List.take_of_length_le (Nat.le_refl _),List.take_of_length_le h]
theorem yT{a:Type}(xs:List a)(k m:Nat):dC xs (some (k:Int)) (some (m:Int))=(xs.drop k).take (m - k):=by
 unfold dC;rw[HT.jx,HT.jx];rcases Nat.le_total k xs.length with h|h
 .rw[Nat.min_eq_left h]
  rcases Nat.le_total m xs.length with h' |h'
  .rw[Nat.min_eq_left h']
  .rw[Nat.min_eq_right h',List.take_of_length_le (by simp),List.take_of_length_le (by simp;omega)]
 .rw[Nat.min_eq_right h,List.drop_eq_nil_of_le (Nat.le_refl _),List.drop_eq_nil_of_le h];simp
@[simp] theorem Rf{a:Type}(xs:List a):dC xs (some 1) none=xs.tail:=by rw[show(1:Int)=((1:Nat):Int)from rfl,tH];simp
theorem uW(n:Nat)(xs:List Str):(xs.map D.str).all (aT n)=true:=by
 rw[List.all_eq_true];intro d a;obtain⟨x,_,rfl⟩:=List.mem_map.mp a;simp
theorem BR(xs:List Str)(n:Str):((xs.map D.str).any λy=>fy y (.str n))=decide (n∈xs):=by
 induction xs with
 |nil=>rfl
 |cons x xs a=>
  simp only[List.map_cons,List.any_cons,a,eq_str,List.mem_cons]
  by_cases h:n=x
  .subst h;simp
  .have:(x==n)=false:=by simp;exact λe=>h e.symm
   simp[this,h]
theorem BS(xs:List Str)(n:Str):inD (.str n) (.lst (xs.map .str))=.ok (decide (n∈xs)):=by
 have:inD (.str n) (.lst (xs.map .str))=if aT 8 (.str n)&&(xs.map D.str).all (aT 8)then .ok ((xs.map D.str).any λy=>fy y (.str n))else .bad:=rfl
 rw[this,uW,BR];simp
theorem pP(xs ys:List Str):eW (xs.map .str) (ys.map .str)=decide (xs=ys):=by
 induction xs generalizing ys with
 |nil=>cases ys<;>simp
 |cons x xs a=>
  cases ys with
  |nil=>simp
  |cons y ys=>
   simp only[List.map_cons,rF,eq_str,a,List.cons.injEq]
   by_cases h:x=y
   .subst h;simp
   .simp[h]
theorem HY(xs ys:List Str):fy (L1 xs) (L1 ys)=decide (xs=ys):=pP xs ys
theorem rG(n:Nat)(xs:List Str):aT (n+1) (L1 xs)=true:=uW n xs
theorem HZ(n:Nat)(rs:List (List Str)):aT (n+2) (LL rs)=true:=by
 show(rs.map L1).all (aT (n+1))=true
 rw[List.all_eq_true];intro d a;obtain⟨x,_,rfl⟩:=List.mem_map.mp a;exact rG n x
theorem H_(rs a:List (List Str)):fy (LL rs) (LL a)=decide (rs=a):=by
 show eW (rs.map L1) (a.map L1)=_
 induction rs generalizing a with
 |nil=>cases a<;>simp
 |cons x c b=>
  cases a with
  |nil=>simp
  |cons y d=>
   simp only[List.map_cons,rF,HY,b,List.cons.injEq]
   by_cases h:x=y
   .subst h;simp
   .simp[h]
noncomputable def freeOf(rs:List (List Str)):List Str->Option Str
 |[]=>none
 |n::_=>if ∃t∈rs,n∈t.tail then none else some n
theorem d_{rs:List (List Str)}{n:Str}{r:List Str}(h:∃t∈rs,n∈t.tail):freeOf rs (n::r)=none:=if_pos h
theorem ed{rs:List (List Str)}{n:Str}{r:List Str}(h:¬ ∃t∈rs,n∈t.tail):freeOf rs (n::r)=some n:=if_neg h
def free(rs:List (List Str)):Option Str:=rs.findSome? (freeOf rs)
noncomputable def BV:Option Str->D
 |none=>.non
 |some n=>.str n
@[simp] theorem Na{x:Str}:isD (.str x) .non=.ok false:=rfl
@[simp] theorem KZ:isD .non .non=.ok true:=rfl
@[simp] theorem Nb{x:Int}:isD (.int x) .non=.ok false:=rfl
@[simp] theorem Nc{x:List D}:isD (.lst x) .non=.ok false:=rfl
noncomputable def cv(n:Str)(r:List Str):List Str:=if r.take 1=[n]then r.tail else r
inductive Mg:List (List Str)->List Str->Prop
 |done {rs}:(∀r∈rs,r=[])->Mg rs []
 |step {rs n o}:(∃r∈rs,r≠[])->free rs=some n->Mg (rs.map (cv n)) o->Mg rs (n::o)
theorem any_rows(rs:List (List Str)):fR (rs.map L1)=some (rs.map λr=>!r.isEmpty):=by
 induction rs with
 |nil=>rfl
 |cons r rs a=>
  simp only[List.map_cons,fR,a];simp[L1]
theorem any_true{rs:List (List Str)}(h:∃r∈rs,r≠[]):(rs.map λr=>!r.isEmpty).any id=true:=by
 obtain⟨r,a,b⟩:=h;rw[List.any_eq_true];exact⟨_,List.mem_map.mpr ⟨r,a,rfl⟩,by cases r<;>simp at b ⊢⟩
theorem any_false{rs:List (List Str)}(h:∀r∈rs,r=[]):(rs.map λr=>!r.isEmpty).any id=false:=by
 rw[List.any_eq_false];intro b a;obtain⟨r,c,rfl⟩:=List.mem_map.mp a;rw[h r c];simp
abbrev Fn:=List D->Out Rs
def gi(a:Int->Int->Int->Int)(F:Fn):Prop:=∀c t m,0<=t->t<100000->0<m->0<=a c t m/\a c t m<m/\F [.int c,.int t,.int m]=.ok (false,.int (a c t m))
noncomputable def SC(ns:List Int):D:=.lst (ns.map .int)
def iF(κ:List Int->Nat->Int)(F:Fn):Prop:=∀a (k:Nat),F [SC a,.int k]=.ok (false,.int (κ a k))
theorem ints_map(a:Int)(n:Nat):intsFrom a n=(List.range n).map λ(i:Nat)=>D.int (a+i):=by
 apply List.ext_getElem?;intro i
 by_cases h:i<n
 .have b:i<(intsFrom a n).length:=by rw[ek];exact h
  have e:=(fJ (List.getElem?_eq_getElem b)).1;rw[List.getElem?_eq_getElem b,e];simp[h]
 .rw[List.getElem?_eq_none (by rw[ek];omega),List.getElem?_eq_none (by simp;omega)]
theorem kj(n:Nat):intsFrom 0 n=(List.range n).map λ(i:Nat)=>D.int i:=by
 rw[ints_map];congr 1;funext i;simp
noncomputable def abc:Str:="abcdefghijklmnopqrstuvwxyz"
theorem EK:∀q:Nat,q<26->abc.cps.toList[q]?=some (97+q):=by decide
theorem uX{q:Int}(a:0<=q)(b:q<26):sI (.str abc) (.int q)=.ok (false,.str (bE (97+q.toNat))):=by
 refine BQ (aK (by decide)) ?_
 have:=L2.cZ (EK q.toNat (by omega))
 rwa[show((q.toNat:Nat):Int)=q by omega]at this
noncomputable def bs(a:Int->Int->Int->Int)(c:Int):List D:=(List.range 8).map λ(i:Nat)=>.int (a c i 26)
section
variable{Γ:nJ}{M:Fn}{μ:Int->Int->Int->Int}{c:Int}{m:Nat}
end
theorem uY{rs:List (List Str)}{n:Str}(h:free rs=some n):(∃r∈rs,∃t,r=n::t)/\∀t∈rs,n∉t.tail:=by
 unfold free at h;obtain⟨r,b,e⟩:=List.exists_of_findSome?_eq_some h;cases r with
 |nil=>cases e
 |cons x t=>
  by_cases a:∃t∈rs,x∈t.tail
  .rw[d_ a]at e;cases e
  .rw[ed a]at e
   cases e;exact⟨⟨_,b,t,rfl⟩,λt c d=>a ⟨t,c,d⟩⟩
theorem BW{n:Str}{rs:List (List Str)}(c:free rs=some n):∀r∈rs.map (cv n),n∉r:=by
 intro r d a;obtain⟨t,f,rfl⟩:=List.mem_map.mp d;have b:=(uY c).2 t f;unfold cv at a;split at a
 .exact b a
 .rename_i h
  cases t with
  |nil=>simp at a
  |cons x t=>
   rcases List.mem_cons.mp a with e|e
   .subst e;exact h (by simp)
   .exact b e
theorem yU{n x:Str}{r:List Str}(h:x∈cv n r):x∈r:=by
 unfold cv at h;split at h
 .exact List.mem_of_mem_tail h
 .exact h
theorem pQ{rs:List (List Str)}{o:List Str}(M:Mg rs o):∀x∈o,∃r∈rs,x∈r:=by
 induction M with
 |done h=>intro x a;simp at a
 |@step rs n o c d _ f=>
  intro x a;rcases List.mem_cons.mp a with e|e
  .subst e
   obtain⟨⟨r,b,t,rfl⟩,_⟩:=uY d;exact⟨_,b,by simp⟩
  .obtain⟨r,b,a⟩:=f x e
   obtain⟨t,g,rfl⟩:=List.mem_map.mp b;exact⟨t,g,yU a⟩
theorem rH{rs:List (List Str)}{o:List Str}(M:Mg rs o):o.Nodup:=by
 induction M with
 |done h=>exact List.nodup_nil
 |@step rs n o a b c d=>
  refine List.nodup_cons.mpr ⟨λh=>?_,d⟩
  obtain⟨r,e,f⟩:=pQ c n h;exact BW b r e f
section
variable{Γ:nJ}
noncomputable def behind(rs:List (List Str)):List Str:=rs.flatMap List.tail
end
@[simp] theorem K_{xs:List Str}:jc .list (.tup [L1 xs])=.ok (true,L1 xs):=rfl
@[simp] theorem La{xs:List (List Str)}:jc .list (.tup [LL xs])=.ok (true,LL xs):=rfl
@[simp] theorem Rg{xs:List Str}{n:Str}:inD (.str n) (L1 xs)=.ok (decide (n∈xs)):=BS xs n
@[simp] theorem Rh{xs:List Str}{t:Ty}:xG (L1 xs) t=some (t==.list):=rfl
@[simp] theorem Tp{n:Nat}{xs:List (List Str)}:aT (n+2) (LL xs)=true:=HZ n xs
@[simp] theorem Tq{xs ys:List (List Str)}:fy (LL xs) (LL ys)=decide (xs=ys):=H_ xs ys
@[simp] theorem Ri{a b:Bool}:isD (.bl a) (.bl b)=.ok (a==b):=rfl
theorem yV{a:Type}(xs:List a):dC xs none (some (-1))=xs.dropLast:=by
 unfold dC;rw[HT.lR,List.drop_zero,Nat.sub_zero,List.dropLast_eq_take]
 congr 1
 unfold HT.iS;simp only;rw[if_pos (by omega)]
 omega
open L2
section
variable{α β:Type}{Ω ai:aD}{ρ:aR}{d x y:D}{ma mb mc mi:EM}{as:AM}{a b:SM}
@[simp] theorem ag{a:α}{f:α->aD->ax β}:(ax.ok a Ω).bind f=f a Ω:=rfl
@[simp] theorem Nd{f:α->aD->ax β}:(ax.exc x Ω:ax α).bind f=.exc x Ω:=rfl
@[simp] theorem Nf{f:α->aD->ax β}:(ax.bad:ax α).bind f=.bad:=rfl
@[simp] theorem bR{a:α}{k:α->aD->gc}:bK (.ok a Ω) k=k a Ω:=rfl
@[simp] theorem Ng{k:α->aD->gc}:bK (.exc x Ω:ax α) k=.exc x Ω:=rfl
@[simp] theorem Nh{k:α->aD->gc}:bK (.bad:ax α) k=.bad:=rfl
@[simp] theorem Rj{b:ax D}:jg (.ok d Ω) b=.ok d Ω:=rfl
@[simp] theorem Ni{b:ax D}:jg (.exc d Ω) b=.exc d Ω:=rfl
@[simp] theorem tP{b:ax D}:jg .bad b=b:=rfl
@[simp] theorem Rk{f:D->aD->ax D}:m1 f ma ρ Ω=(ma ρ Ω).bind f:=rfl
@[simp] theorem dm{f:D->D->aD->ax D}:m2 f ma mb ρ Ω=(ma ρ Ω).bind λx aB=>(mb ρ aB).bind λy a=>f x y a:=rfl
@[simp] theorem bX{f:List D->aD->ax D}:mN f as ρ Ω=(as ρ Ω).bind f:=rfl
@[simp] theorem aL:ae ρ Ω=.ok [] Ω:=rfl
@[simp] theorem aC:ab ma as ρ Ω=(ma ρ Ω).bind λx aB=>(as ρ aB).bind λxs a=>.ok (x::xs) a:=rfl
noncomputable def vr:Option (Option D)->aD->ax D
 |some (some d),Ω=>.ok d Ω
 |_,_=>.bad
@[simp] theorem dc:vr (some (some d)) Ω=.ok d Ω:=rfl
@[simp] theorem de{i:Nat}:aa i ρ Ω=vr ρ[i]? Ω:=by
 unfold aa;cases ρ[i]? with
 |none=>rfl
 |some o=>cases o<;>rfl
@[simp] theorem jP:ah d ρ Ω=.ok d Ω:=rfl
@[simp] theorem jQ{c:Cell}:jf Ω c=.ok (.ref Ω.length) (Ω++[c]):=rfl
noncomputable def tb(Ω:aD):Option Bool->ax Bool
 |some b=>.ok b Ω
 |none=>.bad
@[simp] theorem dI{t:Bool}:tb Ω (some t)=.ok t Ω:=rfl
@[simp] theorem dn:cw (.ok d Ω)=tb Ω (g_ Ω d):=by simp only[cw];cases g_ Ω d<;>rfl
@[simp] theorem cO{t:Bool}:g_ Ω (.bl t)=some t:=rfl
@[simp] theorem Ia:g_ Ω .non=some false:=rfl
@[simp] theorem Ib{i:Int}:g_ Ω (.int i)=some (i != 0):=rfl
noncomputable def Ge(t:Option Bool)(a b:ax D):ax D:=match t with
 |some true=>a
 |some false=>b
 |none=>.bad
@[simp] theorem yW{a b:ax D}:Mir.Ge (some true) a b=a:=rfl
@[simp] theorem Rl{a b:ax D}:Mir.Ge (some false) a b=b:=rfl
@[simp] theorem lB:jI ma mb ρ Ω=(ma ρ Ω).bind λx aB=>Mir.Ge (g_ aB x) (mb ρ aB) (.ok x aB):=by
 unfold jI;cases ma ρ Ω with
 |ok x aB=>
  simp only[ag];cases g_ aB x with
  |none=>rfl
  |some t=>cases t<;>rfl
 |exc x aB=>rfl
 |bad=>rfl
@[simp] theorem EL:rV ma mb ρ Ω=(ma ρ Ω).bind λx aB=>Mir.Ge (g_ aB x) (.ok x aB) (mb ρ aB):=by
 unfold rV;cases ma ρ Ω with
 |ok x aB=>
  simp only[ag];cases g_ aB x with
  |none=>rfl
  |some t=>cases t<;>rfl
 |exc x aB=>rfl
 |bad=>rfl
@[simp] theorem pR:iT ma ρ Ω=(cw (ma ρ Ω)).bind λt aB=>.ok (.bl (!t)) aB:=rfl
@[simp] theorem m9:AU mc ma mb ρ Ω=(cw (mc ρ Ω)).bind λt aB=>if t=true then ma ρ aB else mb ρ aB:=rfl
@[simp] theorem gI{f g:D->D->aD->ax D}:gY f g x y Ω=jg (f x y Ω) (g x y Ω):=rfl
@[simp] theorem Lb{f g:List D->aD->ax D}{xs:List D}:nK f g xs Ω=jg (f xs Ω) (g xs Ω):=rfl
@[simp] theorem Lc{f g:EM}:pz f g ρ Ω=jg (f ρ Ω) (g ρ Ω):=rfl
@[simp] theorem Ld{n:Nat}:fA Ω n .non=some .non:=by cases n<;>rfl
@[simp] theorem EN{n:Nat}{t:Bool}:fA Ω n (.bl t)=some (.bl t):=by cases n<;>rfl
@[simp] theorem BX{n:Nat}{i:Int}:fA Ω n (.int i)=some (.int i):=by cases n<;>rfl
@[simp] theorem lC{n:Nat}{z:Str}:fA Ω n (.str z)=some (.str z):=by cases n<;>rfl
@[simp] theorem Nj{f:α->Option β}:bJ f []=some []:=rfl
noncomputable def oc:Option α->Option (List α)->Option (List α)
 |some y,some ys=>some (y::ys)
 |_,_=>none
@[simp] theorem Le{y:α}{ys:List α}:oc (some y) (some ys)=some (y::ys):=rfl
@[simp] theorem uZ{f:α->Option β}{x:α}{xs:List α}:bJ f (x::xs)=oc (f x) (bJ f xs):=by
 simp only[bJ];cases f x<;>cases bJ f xs<;>rfl
theorem kk{a:Type}{f:β->Option a}{g:α->β}{h:α->a}(e:∀x,f (g x)=some (h x)):∀xs:List α,bJ f (xs.map g)=some (xs.map h)
 |[]=>rfl
 |x::xs=>by rw[List.map_cons,uZ,e,kk e xs];rfl
@[simp] theorem BY{n:Nat}{xs:List Str}:bJ (fA Ω n) (xs.map .str)=some (xs.map .str):=kk (λ_=>lC) xs
@[simp] theorem BZ{n:Nat}{xs:List Int}:bJ (fA Ω n) (xs.map .int)=some (xs.map .int):=kk (λ_=>BX) xs
theorem B4{n:Nat}{ds es:List D}(h:bJ (fA Ω n) ds=some es):fA Ω (n+1) (.lst ds)=some (.lst es):=by simp only[fA,h,Option.map_some]
theorem lD{n k:Nat}{ds es:List D}(a:Ω[k]?=some (.lst ds))(h:bJ (fA Ω n) ds=some es):fA Ω (n+1) (.ref k)=some (.lst es):=by simp only[fA,a,h,Option.map_some]
theorem fw{n k:Nat}{xs:List Str}(a:Ω[k]?=some (.lst (xs.map .str))):fA Ω (n+1) (.ref k)=some (L1 xs):=lD a BY
@[simp] theorem Nk{n:Nat}{ns:List Int}:fA Ω (n+1) (SC ns)=some (SC ns):=B4 BZ
@[simp] theorem Lf{o:Bool}{i:Int}:gy Ω (.ok (o,.int i))=.ok (.int i) Ω:=rfl
@[simp] theorem ER{o:Bool}{t:Bool}:gy Ω (.ok (o,.bl t))=.ok (.bl t) Ω:=rfl
@[simp] theorem B5{o:Bool}{z:Str}:gy Ω (.ok (o,.str z))=.ok (.str z) Ω:=rfl
@[simp] theorem Lg{o:Bool}:gy Ω (.ok (o,.non))=.ok .non Ω:=rfl
@[simp] theorem Lh:gy Ω .bad=.bad:=rfl
def vN(Ω:aD)(f:List D->Out Rs):Option (List D)->ax D
 |some ds=>gy Ω (f ds)
 |none=>.bad
@[simp] theorem u4{f:List D->Out Rs}{ds:List D}:vN Ω f (some ds)=gy Ω (f ds):=rfl
@[simp] theorem u5{f:List D->Out Rs}{xs:List D}:cp f xs Ω=vN Ω f (bJ (fA Ω 8) xs):=by unfold cp;cases bJ (fA Ω 8) xs<;>rfl
def v1(Ω:aD)(f:D->Out Rs):Option D->ax D
 |some d=>gy Ω (f d)
 |none=>.bad
@[simp] theorem Li{f:D->Out Rs}:v1 Ω f (some d)=gy Ω (f d):=rfl
@[simp] theorem Lj{f:D->Out Rs}:vZ f x Ω=v1 Ω f (fA Ω 8 x):=by unfold vZ;cases fA Ω 8 x<;>rfl
def v2(Ω:aD)(f:D->D->Out Rs):Option D->Option D->ax D
 |some d,some e=>gy Ω (f d e)
 |_,_=>.bad
@[simp] theorem pS{f:D->D->Out Rs}{e:D}:v2 Ω f (some d) (some e)=gy Ω (f d e):=rfl
@[simp] theorem pT{f:D->D->Out Rs}:gZ f x y Ω=v2 Ω f (fA Ω 8 x) (fA Ω 8 y):=by unfold gZ;cases fA Ω 8 x<;>cases fA Ω 8 y<;>rfl
@[simp] theorem Ic{z:Str}:yk .len [.str z]=if small z.length=true then .ok (false,.int z.length)else .bad:=rfl
@[simp] theorem yX{xs:List D}:yk .all [.lst xs]=yS (λbs=>bs.all id) (fR xs):=rfl
@[simp] theorem Ie{xs:List D}:yk .any [.lst xs]=yS (λbs=>bs.any id) (fR xs):=rfl
@[simp] theorem iG{F:aQ}{xs:List D}:bg F xs Ω=iA (F xs Ω):=rfl
@[simp] theorem km:iA (.ok d Ω)=.ok d Ω:=rfl
@[simp] theorem lE{op:CmpOp}:di op x y Ω=v2 Ω (λx y=>do let r ←ez op x y;Out.ok (false,D.bl r)) (fA Ω 8 x) (fA Ω 8 y):=by unfold di;rw[pT]
@[simp] theorem u6:aF .Eq x y Ω=di .Eq x y Ω:=rfl
@[simp] theorem B6:aF .NotEq x y Ω=di .NotEq x y Ω:=rfl
@[simp] theorem Ll:aF .Lt x y Ω=di .Lt x y Ω:=rfl
@[simp] theorem Lm:aF .LtE x y Ω=di .LtE x y Ω:=rfl
@[simp] theorem Ln:aF .Gt x y Ω=di .Gt x y Ω:=rfl
@[simp] theorem Lo:aF .GtE x y Ω=di .GtE x y Ω:=rfl
@[simp] theorem pU:aF .In x y Ω=jg (di .In x y Ω) (hF false x y Ω):=rfl
@[simp] theorem m_:aF .NotIn x y Ω=jg (di .NotIn x y Ω) (hF true x y Ω):=rfl
@[simp] theorem Lp:aF .Is x y Ω=jg (fL false x y Ω) (di .Is x y Ω):=rfl
@[simp] theorem ES:aF .IsNot x y Ω=jg (fL true x y Ω) (di .IsNot x y Ω):=rfl
@[simp] theorem Ig{n:Bool}{k:Nat}:fL n (.ref k) .non Ω=.ok (.bl n) Ω:=rfl
@[simp] theorem Gp{n:Bool}{i:Int}:fL n (.int i) y Ω=.bad:=rfl
@[simp] theorem Gq{n:Bool}:fL n .non y Ω=.bad:=rfl
@[simp] theorem Ih{n:Bool}{t:Bool}:fL n (.bl t) y Ω=.bad:=rfl
@[simp] theorem Gr{n:Bool}{z:Str}:fL n (.str z) y Ω=.bad:=rfl
@[simp] theorem yY:bj .Add x y Ω=jg (sT x y Ω) (gZ (fQ .Add) x y Ω):=rfl
@[simp] theorem Ii:bj .Sub x y Ω=gZ (fQ .Sub) x y Ω:=rfl
@[simp] theorem Gs:bj .Mult x y Ω=gZ (fQ .Mult) x y Ω:=rfl
@[simp] theorem Ij:bj .Mod x y Ω=gZ (fQ .Mod) x y Ω:=rfl
@[simp] theorem Lq:bj .FloorDiv x y Ω=gZ (fQ .FloorDiv) x y Ω:=rfl
@[simp] theorem Lr{i:Int}:dY Ω (.int i)=none:=rfl
@[simp] theorem Ls{z:Str}:dY Ω (.str z)=none:=rfl
@[simp] theorem Lu{ds:List D}:dY Ω (.tup ds)=none:=rfl
@[simp] theorem Lv{ds:List D}:dY Ω (.lst ds)=some ds:=rfl
theorem az{k:Nat}{ds:List D}(h:Ω[k]?=some (.lst ds)):dY Ω (.ref k)=some ds:=by simp only[dY,h]
theorem gJ{k:Nat}{ds:List D}(h:Ω[k]?=some (.lst ds)):nM Ω (.ref k)=some (k,ds):=by simp only[nM,h]
theorem pV{k:Nat}{C:Str}{a:List (Str×D)}(h:Ω[k]?=some (.ins C a)):rl Ω (.ref k)=some (k,C,a):=by simp only[rl,h]
def ct(Ω:aD):Option (List D)->Option (List D)->ax D
 |some xs,some ys=>if small (xs.length+ys.length)then .ok (.ref Ω.length) (Ω++[.lst (xs++ys)])else .bad
 |_,_=>.bad
@[simp] theorem B7{xs ys:List D}:ct Ω (some xs) (some ys)=if small (xs.length+ys.length)then .ok (.ref Ω.length) (Ω++[.lst (xs++ys)])else .bad:=rfl
@[simp] theorem Rm{o:Option (List D)}:ct Ω none o=.bad:=rfl
@[simp] theorem B_:sT x y Ω=ct Ω (dY Ω x) (dY Ω y):=by unfold sT;cases dY Ω x<;>cases dY Ω y<;>rfl
@[simp] theorem Lw{ds:List D}:gz Ω (.tup ds)=some ds:=rfl
@[simp] theorem aI{k:Nat}:gz Ω (.ref k)=dY Ω (.ref k):=rfl
@[simp] theorem Lx{ds:List D}:gz Ω (.lst ds)=some ds:=rfl
def ixs(Ω:aD):Option (List D)->D->ax D
 |some ds,.int i=>match L2.kx ds i with
  |some d=>.ok d Ω
  |none=>.bad
 |_,_=>.bad
theorem lF:AJ x y Ω=ixs Ω (gz Ω x) y:=by unfold AJ;cases gz Ω x<;>cases y<;>rfl
theorem yZ{ds:List D}{i:Int}(h:L2.kx ds i=some d):ixs Ω (some ds) (.int i)=.ok d Ω:=by simp only[ixs,h]
theorem cj{k:Nat}{ds:List D}{i:Int}(h:Ω[k]?=some (.lst ds))(a:L2.kx ds i=some d):aN (.ref k) (.int i) Ω=.ok d Ω:=by
 unfold aN;rw[gI,lF,aI,az h,yZ a];rfl
@[simp] theorem eH{xs:List D}:aY xs Ω=if small xs.length then .ok (.ref Ω.length) (Ω++[.lst xs])else .bad:=rfl
@[simp] theorem jR{xs:List D}:ip xs Ω=if small xs.length then .ok (.tup xs) Ω else .bad:=rfl
def fl(Ω:aD)(Cs:List Str)(f:Str):Option (Nat×Str×List (Str×D))->ax D
 |some (_,C,fs)=>if Cs.contains C then (match fs.lookup f with
  |some d=>.ok d Ω
  |none=>.bad)else .bad
 |none=>.bad
theorem u7{Cs:List Str}{f C:Str}{k:Nat}{a:List (Str×D)}(h:Ω[k]?=some (.ins C a))(b:Cs.contains C=true)(c:a.lookup f=some d):eo Cs f (.ref k) Ω=.ok d Ω:=by
 unfold eo;rw[pV h];simp only[b,if_true,c]
noncomputable def sq(r:gc)(b:SM):gc:=match r with
 |.nx a c=>b a c
 |r=>r
@[simp] theorem cT:sq (.nx ρ Ω) b=b ρ Ω:=rfl
@[simp] theorem Rn:sq (.rt d Ω) b=.rt d Ω:=rfl
@[simp] theorem Ro:sq (.bk ρ Ω) b=.bk ρ Ω:=rfl
@[simp] theorem Rp:sq (.ct ρ Ω) b=.ct ρ Ω:=rfl
@[simp] theorem Nl:sq (.exc d Ω) b=.exc d Ω:=rfl
@[simp] theorem Nm:sq .bad b=.bad:=rfl
@[simp] theorem ao:aj a b ρ Ω=sq (a ρ Ω) b:=by unfold aj;cases a ρ Ω<;>rfl
@[simp] theorem Ik:ak ρ Ω=.nx ρ Ω:=rfl
@[simp] theorem aU{i:Nat}:aA i ma ρ Ω=bK (ma ρ Ω) λd aB=>.nx (ρ.set i (some d)) aB:=rfl
@[simp] theorem bL:bA ma ρ Ω=bK (ma ρ Ω) λ_ aB=>.nx ρ aB:=rfl
@[simp] theorem dJ:bT ma ρ Ω=bK (ma ρ Ω) λd aB=>.rt d aB:=rfl
@[simp] theorem dj:e_ ma a b ρ Ω=bK (cw (ma ρ Ω)) λt aB=>if t=true then a ρ aB else b ρ aB:=rfl
@[simp] theorem Ly{a:List Nat}:wk a ma ρ Ω=bK (ma ρ Ω) λd aB=>match eg a d ρ with|some rY=>.nx rY aB|none=>.bad:=rfl
@[simp] theorem Gu{a:List Nat}{ds:List D}:eg a (.tup ds) ρ=if ds.length=a.length then some (gF a ds ρ)else none:=rfl
@[simp] theorem Cb{i:Nat}{a:List Nat}{ds:List D}:gF (i::a) (d::ds) ρ=gF a ds (ρ.set i (some d)):=rfl
@[simp] theorem Dm{ds:List D}:gF [] ds ρ=ρ:=by cases ds<;>rfl
@[simp] theorem Lz:iC (.rt d Ω)=.ok d Ω:=rfl
@[simp] theorem LA:iC (.nx ρ Ω)=.ok .non Ω:=rfl
theorem bh{n k:Nat}{c:SM}{ds:List D}(h:ds.length=k):cV n k c ds Ω=iC (c (aX n ds) Ω):=by unfold cV;rw[if_pos h]
@[simp] theorem bB:aZ ma ρ Ω=(ma ρ Ω).bind λx aB=>srcOf aB x:=rfl
theorem bo{ds:List D}(h:gz Ω x=some ds):srcOf Ω x=.ok (.seq x) Ω:=by unfold srcOf;rw[h]
@[simp] theorem rJ:er as ρ Ω=(as ρ Ω).bind uM:=rfl
@[simp] theorem u9{j:Int}:uM [.int j] Ω=if nH j then .ok (.ints 0 j.toNat) Ω else .bad:=rfl
@[simp] theorem bu:en (.seq x) Ω=gz Ω x:=rfl
@[simp] theorem Il{a:Int}{n:Nat}:en (.ints a n) Ω=some (intsFrom a n):=rfl
@[simp] theorem bV{a:D->aR->Option aR}{mi:IM}:dt a mi b ρ Ω=bK (mi ρ Ω) λs aB=>gf a s b fuel 0 ρ aB:=rfl
def Dn(r:gc)(I:aR->aD->Prop)(R:gc->Prop):Prop:=match r with
 |.nx a b=>I a b
 |.ct a b=>I a b
 |.bk a b=>R (.nx a b)
 |r=>R r
theorem br{k:D->aR->Option aR}{src:Src}{b:SM}{ds:List D}(I:Nat->aR->aD->Prop){R:gc->Prop}(l:∀i ρ Ω,I i ρ Ω->en src Ω=some ds)
  (h:∀(i:Nat) (d:D) ρ Ω,ds[i]?=some d->I i ρ Ω->∃e,k d ρ=some e/\Dn (b e Ω) (I (i+1)) R) (p:∀ρ Ω,I ds.length ρ Ω->R (.nx ρ Ω)) :
  ∀(f i:Nat) ρ Ω,ds.length - i<f->i<=ds.length->I i ρ Ω->R (gf k src b f i ρ Ω):=by
 intro f
 induction f with
 |zero=>intro i ρ Ω r;omega
 |succ f o=>
  intro i ρ Ω r t n;simp only[gf,l i ρ Ω n]
  by_cases j:i<ds.length
  .have m:ds[i]?=some ds[i]:=List.getElem?_eq_getElem j
   rw[m];dsimp only;obtain⟨e,s,c⟩:=h i ds[i] ρ Ω m n;rw[s];dsimp only;cases q:b e Ω with
   |nx g a=>rw[q]at c;exact o (i+1) g a (by omega) j c
   |ct g a=>rw[q]at c;exact o (i+1) g a (by omega) j c
   |bk g a=>rw[q]at c;exact c
   |rt d a=>rw[q]at c;exact c
   |exc x a=>rw[q]at c;exact c
   |bad=>rw[q]at c;exact c
  .have m:ds[i]?=none:=List.getElem?_eq_none (by omega)
   rw[m];have:i=ds.length:=by omega
   subst this;exact p ρ Ω n
theorem Cc{nc:Bool}{mc me:EM}{τ:aR}{src:Src}{ds:List D}{p:D->Bool}{g:D->D}(j:en src Ω=some ds)(k:∀d∈ds,hG nc mc ([some d]++τ) Ω=.ok (p d) Ω)(l:∀d∈ds,p d=true->me ([some d]++τ) Ω=.ok (g d) Ω) :
  ∀(f i:Nat) (a:List D),ds.length - i<f->i<=ds.length->a.length+ds.length<=100000+i->qm nc mc me 0 τ src f i a Ω=.ok (a++((ds.drop i).filter p).map g) Ω:=by
 intro f
 induction f with
 |zero=>intro i a m;omega
 |succ f e=>
  intro i a m r s;simp only[qm,j]
  by_cases b:i<ds.length
  .have c:ds[i]?=some ds[i]:=List.getElem?_eq_getElem b
   have h:ds[i]∈ds:=List.getElem_mem b;rw[c];have o:mR 0 ds[i]=some [some ds[i]]:=rfl;simp only[o];rw[if_pos (aK (n:=a.length+1) (by omega)),k _ h,List.drop_eq_getElem_cons b,List.filter_cons]
   cases q:p ds[i]with
   |true=>
    dsimp only;rw[l _ h q];dsimp only;rw[e (i+1) _ (by omega) b (by rw[List.length_append];simp;omega)]
    simp
   |false=>
    dsimp only;rw[e (i+1) _ (by omega) b (by omega)]
    simp
  .have c:ds[i]?=none:=List.getElem?_eq_none (by omega)
   rw[c,List.drop_of_length_le (by omega)]
   simp
theorem dv{me mc:EM}{nc:Bool}{mi:IM}{cap:List Nat}{src:Src}{ds:List D}{p:D->Bool}{g:D->D}(a:mi ρ Ω=.ok src ai)(b:en src ai=some ds)(c:∀d∈ds,hG nc mc ([some d]++dH cap ρ) ai=.ok (p d) ai)(e:∀d∈ds,p d=true->me ([some d]++dH cap ρ) ai=.ok (g d) ai)(f:ds.length<=90000) :
  bF me nc mc mi 0 cap ρ Ω=.ok (.ref ai.length) (ai++[.lst ((ds.filter p).map g)]):=by
 unfold bF;rw[a];dsimp only;rw[Cc b c e fuel 0 [] (by unfold fuel;omega) (Nat.zero_le _) (by simp;omega)]
 rfl
theorem dq{k:Nat}{c:Cell}{l:aD}(h:Ω[k]?=some c):(Ω++l)[k]?=some c:=by rw[List.getElem?_append_left (List.getElem?_eq_some_iff.mp h).1];exact h
theorem aw{c:Cell}{l:aD}:(Ω++c::l)[Ω.length]?=some c:=by rw[List.getElem?_append_right (Nat.le_refl _)];simp
theorem cS{j k:Nat}{c e:Cell}(h:Ω[k]?=some c)(a:k≠j):(Ω.set j e)[k]?=some c:=by rw[List.getElem?_set_ne (Ne.symm a)];exact h
theorem aP{k:Nat}{c e:Cell}(h:Ω[k]?=some c):(Ω.set k e)[k]?=some e:=List.getElem?_set_self (List.getElem?_eq_some_iff.mp h).1
theorem aS{k:Nat}{c:Cell}(h:Ω[k]?=some c):k<Ω.length:=(List.getElem?_eq_some_iff.mp h).1
structure af(fp:List Nat)(Ω ai:aD):Prop where
 len:Ω.length<=ai.length
 get:∀k c,Ω[k]?=some c->k∉fp->ai[k]?=some c
theorem af.refl{fp:List Nat}:af fp Ω Ω:=⟨Nat.le_refl _,λ_ _ h _=>h⟩
theorem af.trans{fp:List Nat}{aB a b:aD}(h:af fp aB a)(h':af fp a b):af fp aB b:=⟨Nat.le_trans h.len h'.len,λk c q n=>h'.get k c (h.get k c q n) n⟩
theorem af.app{fp:List Nat}{l:aD}:af fp Ω (Ω++l):=⟨by simp,λk c h _=>dq h⟩
theorem af.set{fp:List Nat}{j:Nat}{c:Cell}(h:j∈fp):af fp Ω (Ω.set j c):=⟨by simp,λk e q n=>cS q λz=>n (z▸h)⟩
theorem af.sub{fp a:List Nat}(h:af fp Ω ai)(b:∀k∈fp,k∈a):af a Ω ai:=⟨h.len,λk c q n=>h.get k c q λz=>n (b k z)⟩
end
section
variable{Ω ai:aD}{ρ:aR}{d x y:D}{k:Nat}{ws:List Str}{w:Str}{L:List (List Str)}{rs:List Nat}
theorem gM{ds:List D}(h:Ω[k]?=some (.lst ds)):aW .len [.ref k] Ω=.ok (.int ds.length) Ω:=by
 show jg (pI [.ref k] Ω) _=_
 simp only[pI,aI,az h];rfl
theorem ee{ds:List D}{d:D}(h:Ω[k]?=some (.lst ds))(a:ds.length<=1000):bQ (.ref k) [d] Ω=.ok .non (Ω.set k (.lst (ds++[d]))):=by
 simp only[bQ,gJ h];rw[if_pos (aK (by omega))]
theorem dr{ds:List D}(h:Ω[k]?=some (.lst ds)):kH Ω (.ref k)=true:=by simp only[kH,az h];rfl
theorem jk(h:Ω[k]?=some (.lst (ws.map .str))):aF .In (.str w) (.ref k) Ω=.ok (.bl (decide (w∈ws))) Ω:=by
 simp[fw (n:=7) h]
theorem lJ(h:Ω[k]?=some (.lst (ws.map .str))):aF .NotIn (.str w) (.ref k) Ω=.ok (.bl (!decide (w∈ws))) Ω:=by
 simp[fw (n:=7) h]
theorem ng{n:Nat}(b:Ω[k]?=some (.lst (rs.map .ref)))(h:aJ (λj a=>Ω[j]?=some (.lst (a.map .str))) rs L):fA Ω (n+2) (.ref k)=some (LL L):=by
 refine lD (es:=L.map L1) b ?_;clear b
 induction h with
 |nil=>rfl
 |cons c e d=>rw[List.map_cons,uZ,fw c,d];rfl
theorem Im{mc me:EM}{τ:aR}{src:Src}{ds:List D}{g:D->D}(I:aD->Prop)(k:∀Ω,I Ω->en src Ω=some ds)(l:∀d∈ds,∀Ω,I Ω->∃ai,me ([some d]++τ) Ω=.ok (g d) ai/\I ai) :
  ∀(f i:Nat) (a:List D) Ω,I Ω->ds.length - i<f->i<=ds.length->a.length+ds.length<=100000+i->∃ai,qm true mc me 0 τ src f i a Ω=.ok (a++(ds.drop i).map g) ai/\I ai:=by
 intro f
 induction f with
 |zero=>intro i a Ω c m;omega
 |succ f o=>
  intro i a Ω c m x y;simp only[qm,k Ω c]
  by_cases b:i<ds.length
  .have e:ds[i]?=some ds[i]:=List.getElem?_eq_getElem b
   have p:ds[i]∈ds:=List.getElem_mem b;rw[e];have q:mR 0 ds[i]=some [some ds[i]]:=rfl;obtain⟨h,r,s⟩:=l _ p Ω c;have t:hG true mc ([some ds[i]]++τ) Ω=.ok true Ω:=rfl;simp only[q];rw[if_pos (aK (n:=a.length+1) (by omega)),t,List.drop_eq_getElem_cons b]
   dsimp only;rw[r];dsimp only;obtain⟨j,u,w⟩:=o (i+1) (a++[g ds[i]]) h s (by omega) b (by rw[List.length_append];simp;omega)
   exact⟨j,by rw[u,List.append_assoc];rfl,w⟩
  .have e:ds[i]?=none:=List.getElem?_eq_none (by omega)
   rw[e,List.drop_of_length_le (by omega)]
   exact⟨Ω,by simp,c⟩
theorem ET{me mc:EM}{mi:IM}{cap:List Nat}{src:Src}{ds:List D}{g:D->D}(I:aD->Prop)(b:mi ρ Ω=.ok src ai)(c:I ai)(e:∀Ω,I Ω->en src Ω=some ds)(f:∀d∈ds,∀Ω,I Ω->∃ai,me ([some d]++dH cap ρ) Ω=.ok (g d) ai/\I ai)(j:ds.length<=90000) :
  ∃a,bF me true mc mi 0 cap ρ Ω=.ok (.ref a.length) (a++[.lst (ds.map g)])/\I a:=by
 obtain⟨a,h,i⟩:=Im (mc:=mc) I e f fuel 0 [] ai c (by unfold fuel;omega) (Nat.zero_le _) (by simp;omega)
 refine⟨a,?_,i⟩;unfold bF;rw[b];dsimp only;rw[h];rfl
theorem u_{C m:Str}{F:aQ}{mo:EM}{c:AM}{a:List (Str×D)}(d:mo ρ Ω=.ok (.ref k) ai)(e:ai[k]?=some (.ins C a))(f:a.lookup m=none):ay C m F mo c ρ Ω=(c ρ ai).bind λxs b=>iA (F (.ref k::xs) b):=by
 unfold ay;rw[d]
 show(match rl ai (.ref k)with|some (_,g,a)=>_|none=>_)=_
 rw[pV e];simp only[f,and_self,if_true];rfl
theorem dw{a:aD->D->Bool}{f:D->List D->aD->ax D}{mo:EM}{c:AM}(d:mo ρ Ω=.ok x ai)(h:a ai x=true):dG a f mo c ρ Ω=(c ρ ai).bind λxs b=>f x xs b:=by
 unfold dG;rw[d]
 show(if a ai x=true then _ else _)=_
 rw[if_pos h]
end
variable [aE]
section
variable{Ω ai aB kY:aD}{ρ:aR}{k q:Nat}{x y:D}
theorem af.new{fp:List Nat}(h:af [] Ω aB)(h':af fp aB kY)(a:∀j∈fp,Ω.length<=j):af [] Ω kY:=⟨Nat.le_trans h.len h'.len,λk c e _=>h'.get k c (h.get k c e (by simp)) λz=>by have:=a k z;have:=aS e;omega⟩
theorem ew.up{fp:List Nat}(h:af [] Ω ai):af fp Ω ai:=h.sub (by simp)
@[simp] theorem Io{z:Str}:aN (.str z) y Ω=v2 Ω sI (some (.str z)) (fA Ω 8 y):=by
 unfold aN;rw[gI,gI,lF,pT];simp[gz,dY,ixs,AK,sU]
@[simp] theorem Ip{z:Str}{l h:Option Int}:ji (.str z) l h Ω=gy Ω (xF (.str z) l h):=rfl
@[simp] theorem eS{c d e:EM}{f g:Bool}:dg c f d g e ρ Ω=(c ρ Ω).bind λx aB=>(ir f d ρ aB).bind λl a=>(ir g e ρ a).bind λh b=>ji x l h b:=rfl
@[simp] theorem va{m:EM}:ir true m ρ Ω=.ok none Ω:=rfl
noncomputable def Rq(Ω:aD):D->ax (Option Int)
 |.int i=>.ok (some i) Ω
 |_=>.bad
@[simp] theorem vb{m:EM}:ir false m ρ Ω=(m ρ Ω).bind λd aB=>Rq aB d:=by
 simp only[ir,Bool.false_eq_true,if_false]
 congr 1
@[simp] theorem vc{i:Int}:Rq Ω (.int i)=.ok (some i) Ω:=rfl
theorem kL{ds:List D}(h:Ω[k]?=some (.lst ds)):eQ (.ref k) [] Ω=.ok .non (Ω.set k (.lst ds.reverse)):=by
 simp only[eQ,gJ h]
end
def nC:EM:=bF (m2 aN (aa 2) (m2 (bj .Mod) (m2 (bj .Add) (aa 1) (m2 (bj .Mult) (aa 0) (aa 3))) (ah (.int 26)))) true (ah .non) (er (ab (ah (.int 8)) ae)) 0 [4,3,5]
def nD:EM:=bF (dg (aa 1) true (ah .non) false (m2 (bj .Add) (aa 0) (ah (.int 1)))) true (ah .non) (er (ab (aa 2) ae)) 0 [6]
section
variable{Ω:aD}{F:List D->Out Rs}{δ:List Int->Int->Int->Int}{ns:List Int}
def Rr(x:Str):Prop:=x.length<=17/\∃c∈x.cps.toList,97<=c
theorem Rr.ne{x:Str}(h:Rr x):x≠"-":=λe=>by
 obtain⟨_,c,a,b⟩:=h;subst e;have:c∈[45]:=a;simp at this;omega
end
section
variable{κ β:Type}[DecidableEq κ]
theorem eh{p:κ×β}{kvs:List (κ×β)}{k:κ}:cN (p::kvs) k=if p.1=k then some p.2 else cN kvs k:=by
 unfold cN;rw[List.find?_cons]
 by_cases h:p.1=k<;>simp[h]
theorem rK{k a:κ}{v:c}:∀{kvs:List (κ×c)},cN (kvs.map λb=>if b.1=k then (b.1,v)else b) a=if a=k then (cN kvs k).map λ_=>v else cN kvs a
 |[]=>by simp[cN]
 |p::kvs=>by
  rw[List.map_cons,eh,eh,eh,rK]
  by_cases h:p.1=k
  .rw[if_pos h]
   by_cases h':a=k
   .subst h';simp[h]
   .have:¬ k=a:=λe=>h' e.symm
    simp[h,h',this]
  .rw[if_neg h]
   by_cases h':a=k
   .subst h';simp[h]
   .simp[h']
theorem rL{k a:κ}{v:b}:∀{kvs:List (κ×b)},cN (kvs++[(k,v)]) a=match cN kvs a with|some d=>some d|none=>if a=k then some v else none
 |[]=>by
  rw[List.nil_append,eh]
  by_cases h:k=a
  .subst h;simp[cN]
  .have:¬ a=k:=λe=>h e.symm
   simp[cN,h,this]
 |p::kvs=>by
  rw[List.cons_append,eh,eh,rL]
  by_cases h:p.1=a<;>simp[h]
theorem jS{k:κ}:∀{kvs:List (κ×b)},(kvs.any λa=>decide (a.1=k))=(cN kvs k).isSome
 |[]=>rfl
 |p::kvs=>by
  rw[List.any_cons,eh,jS]
  by_cases h:p.1=k<;>simp[h]
theorem wG{kvs:List (κ×β)}{k a:κ}{v:β}:cN (ej kvs k v) a=if a=k then some v else cN kvs a:=by
 unfold ej;rw[jS];cases h:cN kvs k with
 |none=>
  rw[Option.isSome_none,if_neg (by simp),rL]
  by_cases b:a=k
  .subst b;simp[h]
  .cases q:cN kvs a<;>simp[b]
 |some d=>
  rw[Option.isSome_some,if_pos rfl,rK,h]
  by_cases b:a=k<;>simp[b]
theorem y4{kvs:List (κ×β)}{k:κ}{v:β}:(ej kvs k v).length<=kvs.length+1:=by
 unfold ej;split<;>simp
end
section
variable{Ω ai:aD}{F:List D->Out Rs}{δ:List Int->Int->Int->Int}{ns:List Int}{t:Nat}{kvs:List (List Key×D)}
theorem eD{xs:List Str}{i:Nat}{d:D}(h:(xs.map D.str)[i]?=some d):∃x,xs[i]?=some x/\d=.str x:=by
 rw[List.getElem?_map]at h;obtain⟨x,a,b⟩:=Option.map_eq_some_iff.mp h;exact⟨x,a,b.symm⟩
end
theorem oE{O:aQ}{ds:List D}{d:D}{ai:aD}(a:ds.all EG=true)(h:O ds []=.ok d ai)(b:fD d=true):pureOf O ds=.ok (false,d):=by
 unfold pureOf;rw[if_pos a,h];dsimp only;rw[if_pos b]
def Iq:SM:=(aj (aA 3 (m2 (bj .FloorDiv) (aa 3) (ah (.int 840)))) ak)
def Ir:SM:=(e_ (jI (m2 (aF .Eq) (m2 (bj .Mod) (aa 0) (ah (.int 2))) (ah (.int 1))) (m2 (aF .Gt) (aa 0) (m2 (bj .Pow) (ah (.int 10)) (ah (.int 18)))))
 (aj (dt (dM 4) (er (ab (aa 1) ae)) Iq)
 (aj (bT (m2 (bj .Mod) (m2 (bj .Mod) (aa 3) (ah (.int 840))) (aa 2)))
 ak))
 ak)
def Rt:SM:=(aj (aA 5 (mN aY (ab (ah (.int 48271)) (ab (ah (.int 69621)) (ab (ah (.int 40692)) (ab (ah (.int 39373)) (ab (ah (.int 16807)) (ab (ah (.int 30323)) (ab (ah (.int 21403)) (ab (ah (.int 62089)) (ab (ah (.int 45742)) (ab (ah (.int 37907)) (ab (ah (.int 53611)) (ab (ah (.int 28411)) (ab (ah (.int 59393)) (ab (ah (.int 33391)) ae))))))))))))))))
 (aj (aA 6 (m2 (bj .Mod) (m2 (bj .Mult) (m2 (bj .Add) (m2 (bj .Mod) (aa 0) (ah (.int 1000000007))) (ah (.int 11))) (m2 aN (aa 5) (m2 (bj .Mod) (aa 1) (ah (.int 14))))) (ah (.int 2147483629))))
 (aj (aA 7 (m2 (bj .Mod) (m2 (bj .Mult) (aa 6) (m2 (bj .Add) (aa 6) (aa 1))) (ah (.int 1999999973))))
 (aj (bT (m2 (bj .Mod) (m2 (bj .FloorDiv) (m2 (bj .Mod) (m2 (bj .Mult) (aa 7) (ah (.int 16807))) (ah (.int 998244353))) (ah (.int 1000))) (aa 2)))
 ak))))
def oF:SM:=
 (aj (aA 3 (m2 (bj .FloorDiv) (aa 0) (ah (.int 2))))
 (aj Ir Rt))
@[simp] theorem Iu{x y:D}{Ω:aD}:bj .Pow x y Ω=gZ (fQ .Pow) x y Ω:=rfl
theorem Cd{c t m:Int}(K:0<=t)(u:t<100000)(g:0<m):∃r,0<=r/\r<m/\pureOf (cV 8 3 oF) [.int c,.int t,.int m]=.ok (false,.int r):=by
 have j:∃r b,0<=r/\r<m/\cV 8 3 oF [.int c,.int t,.int m] []=.ok (.int r) b:=by
  rw[bh (by rfl)]
  have w:aX 8 [D.int c,.int t,.int m]=[some (.int c),some (.int t),some (.int m),none,none,none,none,none]:=rfl;rw[w];unfold oF;have y:(aA 3 (m2 (bj .FloorDiv) (aa 0) (ah (.int 2)))) [some (.int c),some (.int t),some (.int m),none,none,none,none,none] []=.nx [some (.int c),some (.int t),some (.int m),some (.int (c / 2)),none,none,none,none] []:=by simp
  rw[ao,y,cT,ao]
  by_cases k:c%2=1/\1000000000000000000<c
  .have l:nH t=true:=ff (by omega) (by omega)
   have n:∃x a,gf (dM 4) (.ints 0 t.toNat) Iq fuel 0 [some (.int c),some (.int t),some (.int m),some (.int (c / 2)),none,none,none,none] []=.nx [some (.int c),some (.int t),some (.int m),some (.int x),a,none,none,none] []:=by
    refine br (R:=λr=>∃x a,r=.nx [some (.int c),some (.int t),some (.int m),some (.int x),a,none,none,none] []) (ds:=intsFrom 0 t.toNat) (λ_ o p=>∃x a,o=[some (.int c),some (.int t),some (.int m),some (.int x),a,none,none,none]/\p=[]) (λ_ _ _ _=>rfl) ?_ ?_ fuel 0 _ _ (by rw[ek];unfold fuel;omega) (Nat.zero_le _) ⟨_,_,rfl,rfl⟩
    .rintro i d o p q ⟨x,a,rfl,rfl⟩
     refine⟨_,rfl,?_⟩;have e:Iq [some (.int c),some (.int t),some (.int m),some (.int x),some d,none,none,none] []=.nx [some (.int c),some (.int t),some (.int m),some (.int (x / 840)),some d,none,none,none] []:=by simp[Iq]
     show Dn (Iq [some (.int c),some (.int t),some (.int m),some (.int x),some d,none,none,none] []) _ _
     rw[e];exact⟨_,_,rfl,rfl⟩
    .rintro o p ⟨x,a,rfl,rfl⟩
     exact⟨x,a,rfl⟩
   obtain⟨x,a,n⟩:=n;refine⟨x%840%m,[],Int.emod_nonneg _ (by omega),Int.emod_lt_of_pos _ g,?_⟩
   simp[Ir,k.1,k.2,l,n,g]
  .obtain⟨d,q,e⟩:=EJ (xs:=[D.int 48271,.int 69621,.int 40692,.int 39373,.int 16807,.int 30323,.int 21403,.int 62089,.int 45742,.int 37907,.int 53611,.int 28411,.int 59393,.int 33391]) (i:=t%14) (Int.emod_nonneg _ (by omega)) (Int.emod_lt_of_pos _ (by omega))
   obtain⟨v,rfl⟩:∃v,d=.int v:=by
    simp only[List.mem_cons,List.not_mem_nil,or_false]at q;rcases q with h|h|h|h|h|h|h|h|h|h|h|h|h|h<;>exact⟨_,h⟩
   have A:([]++[Cell.lst [D.int 48271,.int 69621,.int 40692,.int 39373,.int 16807,.int 30323,.int 21403,.int 62089,.int 45742,.int 37907,.int 53611,.int 28411,.int 59393,.int 33391]]:aD)[0]?=some (.lst [D.int 48271,.int 69621,.int 40692,.int 39373,.int 16807,.int 30323,.int 21403,.int 62089,.int 45742,.int 37907,.int 53611,.int 28411,.int 59393,.int 33391]):=rfl;have s:=cj A e;have B:lT (c%1000000007+11)=true:=jO (by omega) (by omega)
   have C:lT ((c%1000000007+11)*v%2147483629)=true:=jO (by omega) (by omega)
   have E:lT ((c%1000000007+11)*v%2147483629*((c%1000000007+11)*v%2147483629+t)%1999999973)=true:=jO (by omega) (by omega)
   have rI:Ir [some (.int c),some (.int t),some (.int m),some (.int (c / 2)),none,none,none,none] []=.nx [some (.int c),some (.int t),some (.int m),some (.int (c / 2)),none,none,none,none] []:=by
    by_cases f:c%2=1
    .have F:¬ 1000000000000000000<c:=λz=>k ⟨f,z⟩
     simp[Ir,f,F]
    .have G:(c%2==1)=false:=by simpa using f
     simp[Ir,G]
   refine⟨(c%1000000007+11)*v%2147483629*((c%1000000007+11)*v%2147483629+t)%1999999973*16807%998244353 / 1000%m,([]++[Cell.lst [D.int 48271,.int 69621,.int 40692,.int 39373,.int 16807,.int 30323,.int 21403,.int 62089,.int 45742,.int 37907,.int 53611,.int 28411,.int 59393,.int 33391]]:aD),Int.emod_nonneg _ (by omega),Int.emod_lt_of_pos _ g,?_⟩
   rw[rI,cT];have H:(aA 5 (mN aY (ab (ah (.int 48271)) (ab (ah (.int 69621)) (ab (ah (.int 40692)) (ab (ah (.int 39373)) (ab (ah (.int 16807)) (ab (ah (.int 30323)) (ab (ah (.int 21403)) (ab (ah (.int 62089)) (ab (ah (.int 45742)) (ab (ah (.int 37907)) (ab (ah (.int 53611)) (ab (ah (.int 28411)) (ab (ah (.int 59393)) (ab (ah (.int 33391)) ae)))))))))))))))) [some (.int c),some (.int t),some (.int m),some (.int (c / 2)),none,none,none,none] []=.nx [some (.int c),some (.int t),some (.int m),some (.int (c / 2)),none,some (.ref 0),none,none] ([]++[Cell.lst [D.int 48271,.int 69621,.int 40692,.int 39373,.int 16807,.int 30323,.int 21403,.int 62089,.int 45742,.int 37907,.int 53611,.int 28411,.int 59393,.int 33391]]):=rfl;unfold Rt;rw[ao,H,cT];generalize ([]++[Cell.lst [D.int 48271,.int 69621,.int 40692,.int 39373,.int 16807,.int 30323,.int 21403,.int 62089,.int 45742,.int 37907,.int 53611,.int 28411,.int 59393,.int 33391]]:aD)=I at s;simp[s,B,C,E,g]
 obtain⟨r,b,J,f,e⟩:=j;exact⟨r,J,f,oE rfl e rfl⟩
section
variable{Ω ai:aD}{ρ:aR}
theorem EU{mc me:EM}{τ:aR}{src:Src}{ds:List D}(I:Nat->List D->aD->Prop)(h:∀i a Ω,I i a Ω->en src Ω=some ds)(j:∀i d a Ω,ds[i]?=some d->I i a Ω->∃y ai,me ([some d]++τ) Ω=.ok y ai/\I (i+1) (a++[y]) ai) :
  ∀(f i:Nat) (a:List D) Ω,I i a Ω->ds.length - i<f->i<=ds.length->a.length+ds.length<=100000+i->∃ys ai,qm true mc me 0 τ src f i a Ω=.ok ys ai/\I ds.length ys ai:=by
 intro f
 induction f with
 |zero=>intro i a Ω c k;omega
 |succ f l=>
  intro i a Ω c k r s;simp only[qm,h i a Ω c]
  by_cases b:i<ds.length
  .have e:ds[i]?=some ds[i]:=List.getElem?_eq_getElem b
   rw[e];have m:mR 0 ds[i]=some [some ds[i]]:=rfl;obtain⟨y,g,o,p⟩:=j i ds[i] a Ω e c;have q:hG true mc ([some ds[i]]++τ) Ω=.ok true Ω:=rfl;simp only[m];rw[if_pos (aK (n:=a.length+1) (by omega)),q]
   dsimp only;rw[o];dsimp only;exact l (i+1) (a++[y]) g p (by omega) b (by rw[List.length_append];simp;omega)
  .have e:ds[i]?=none:=List.getElem?_eq_none (by omega)
   rw[e];have:i=ds.length:=by omega
   subst this;exact⟨a,Ω,rfl,c⟩
theorem iP{me mc:EM}{mi:IM}{cap:List Nat}{src:Src}{ds:List D}(I:Nat->List D->aD->Prop)(c:mi ρ Ω=.ok src ai)(e:I 0 [] ai)(f:∀i b Ω,I i b Ω->en src Ω=some ds)(g:∀i d b Ω,ds[i]?=some d->I i b Ω->∃y ai,me ([some d]++dH cap ρ) Ω=.ok y ai/\I (i+1) (b++[y]) ai)(k:ds.length<=90000) :
  ∃ys a,bF me true mc mi 0 cap ρ Ω=.ok (.ref a.length) (a++[.lst ys])/\I ds.length ys a:=by
 obtain⟨ys,a,h,j⟩:=EU (mc:=mc) I f g fuel 0 [] ai e (by unfold fuel;omega) (Nat.zero_le _) (by simp;omega)
 refine⟨ys,a,?_,j⟩;unfold bF;rw[c];dsimp only;rw[h];rfl
def LB(Ω:aD)(j:Nat)(a:List Str):Prop:=Ω[j]?=some (.lst (a.map .str))
def jX(Ω:aD)(a:List Nat)(rs:List (List Str)):Prop:=aJ (LB Ω) a rs
structure Rw(Ω:aD)(k:Nat)(js:List Nat)(rs:List (List Str)):Prop where
 ce:Ω[k]?=some (.lst (js.map .ref))
 al:jX Ω js rs
section
variable{k:Nat}{js:List Nat}{rs:List (List Str)}{row:List Str}{n:Str}
theorem jX.keep:∀{a:List Nat}{rs:List (List Str)},jX Ω a rs->∀{fp:List Nat},af fp Ω ai->(∀j∈a,j∉fp)->jX ai a rs
 |_,_,.nil,_,_,_=>.nil
 |_,_,.cons r t,fp,K,h=>.cons (K.get _ _ r (h _ (by simp))) (jX.keep t K λj b=>h j (by simp[b]))
theorem Rw.keep(R:Rw Ω k js rs)(K:af [] Ω ai):Rw ai k js rs:=⟨K.get _ _ R.ce (by simp),R.al.keep K (by simp)⟩
theorem Rw.vd(R:Rw Ω k js rs){fp:List Nat}(K:af fp Ω ai)(a:k∉fp)(b:∀j∈js,j∉fp):Rw ai k js rs:=⟨K.get _ _ R.ce a,R.al.keep K b⟩
theorem jX.len(h:jX Ω js rs):rs.length=js.length:=aJ.length h
theorem Rw.len(R:Rw Ω k js rs):rs.length=js.length:=R.al.len
theorem jX.at{i:Nat}{a:List Str}(h:jX Ω js rs)(b:rs[i]?=some a):∃j,js[i]?=some j/\Ω[j]?=some (.lst (a.map .str)):=aJ.En (R:=LB Ω) h b
theorem jX.at'{i j:Nat}(h:jX Ω js rs)(b:js[i]?=some j):∃a,rs[i]?=some a/\Ω[j]?=some (.lst (a.map .str)):=aJ.get (R:=LB Ω) h b
theorem jX.lt(h:jX Ω js rs):∀j∈js,j<Ω.length:=λj a=>by
 obtain⟨i,b⟩:=List.mem_iff_getElem?.mp a;obtain⟨c,_,d⟩:=h.at' b;exact aS d
theorem kn{a:List Nat}{i:Nat}{d:D}(h:(a.map D.ref)[i]?=some d):∃j,a[i]?=some j/\d=.ref j:=by
 rw[List.getElem?_map]at h;obtain⟨x,b,c⟩:=Option.map_eq_some_iff.mp h;exact⟨x,b,c.symm⟩
def LC:SM:=(aj (e_ (m2 (aF .In) (aa 1) (dg (aa 3) false (ah (.int 1)) true (ah .non))) (aj (bT (aa 2)) ak) ak) ak)
def tQ:SM:=(aj (dt (eg [2,3]) (kX (aa 0)) LC) (aj (bT (ah .non)) ak))
theorem tR{j:Nat}(h:Ω[j]?=some (.lst (row.map .str))):ji (.ref j) (some 1) none Ω=.ok (.ref Ω.length) (Ω++[.lst (row.tail.map .str)]):=by
 have e:dC (row.map D.str) (some 1) none=row.tail.map .str:=by
  have:=tH (row.map D.str) 1;rw[show((1:Nat):Int)=1 by rfl]at this
  rw[this,←List.map_drop,List.drop_one]
 simp only[ji,az h,jQ,e]
theorem EV{j i:Nat}(h:Ω[j]?=some (.lst (row.map .str))):∃ai,af [] Ω ai/\LC [some (.ref k),some (.str n),some (.int i),some (.ref j)] Ω=if n∈row.tail then .rt (.int i) ai else .nx [some (.ref k),some (.str n),some (.int i),some (.ref j)] ai:=by
 have c:=tR h;have e:(Ω++[Cell.lst (row.tail.map .str)])[Ω.length]?=some (.lst (row.tail.map .str)):=aw;have f:af [] Ω (Ω++[Cell.lst (row.tail.map .str)]):=af.app;generalize Ω++[Cell.lst (row.tail.map .str)]=b at *;have d:=jk (w:=n) e;refine⟨b,f,?_⟩
 by_cases a:n∈row.tail
 .rw[if_pos a,decide_eq_true a]at *
  simp[LC,c,d,-pU]
 .rw[if_neg a,decide_eq_false a]at *
  simp[LC,c,d,-pU]
theorem EW(R:Rw Ω k js rs)(B:rs.length<=1000):∃d ai,cV 4 2 tQ [.ref k,.str n] Ω=.ok d ai/\af [] Ω ai/\((d=.non/\∀r∈rs,n∉r.tail)\/∃i:Nat,d=.int i/\∃r,rs[i]?=some r/\n∈r.tail):=by
 rw[bh (by rfl)]
 have x:aX 4 [D.ref k,.str n]=[some (.ref k),some (.str n),none,none]:=rfl;rw[x];have y:=R.len
 have o:kX (aa 0) [some (.ref k),some (.str n),none,none] Ω=.ok (.Hs (.ref k)) Ω:=by
  unfold kX;simp[az R.ce]
 unfold tQ;rw[ao,bV,o,bR]
 refine br (R:=λr=>∃d ai,iC (sq r _)=.ok d ai/\af [] Ω ai/\((d=.non/\∀r∈rs,n∉r.tail)\/∃i:Nat,d=.int i/\∃r,rs[i]?=some r/\n∈r.tail)) (ds:=dD 0 (js.map .ref))
  (λi g a=>∃p q,g=[some (.ref k),some (.str n),p,q]/\(∀r∈rs.take i,n∉r.tail)/\af [] Ω a) ?_ ?_ ?_ fuel 0 _ _ (by rw[gx];unfold fuel;simp;omega) (Nat.zero_le _) ⟨none,none,rfl,by simp,af.refl⟩
 .rintro i g a ⟨_,_,_,_,K⟩
  show(gz a (.ref k)).map (dD 0)=_
  rw[aI,az (R.keep K).ce];rfl
 .rintro i d g a z ⟨p,q,rfl,l,K⟩
  obtain⟨C,s,rfl⟩:=jC _ 0 i d z;obtain⟨j,A,rfl⟩:=kn s;obtain⟨c,u,f⟩:=(R.keep K).al.at' A;rw[Nat.zero_add];refine⟨[some (.ref k),some (.str n),some (.int i),some (.ref j)],rfl,?_⟩;obtain⟨t,w,e⟩:=EV (k:=k) (n:=n) (i:=i) f;rw[e]
  by_cases m:n∈c.tail
  .rw[if_pos m]
   exact⟨.int i,t,rfl,K.trans w,.inr ⟨i,rfl,c,u,m⟩⟩
  .rw[if_neg m]
   refine⟨_,_,rfl,λr b=>?_,K.trans w⟩
   rw[List.take_succ,u]at b;simp at b;rcases b with h|rfl
   .exact l r h
   .exact m
 .rintro g a ⟨p,q,rfl,l,K⟩
  rw[gx,List.length_map,←y,List.take_length]at l;exact⟨.non,a,rfl,K,.inl ⟨rfl,l⟩⟩
def Iv(a:aQ):SM:=(aj (e_ (jI (aa 1) (m2 (aF .Is) (mN (bg a) (ab (aa 0) (ab (m2 aN (aa 1) (ah (.int 0))) ae))) (ah .non))) (aj (bT (m2 aN (aa 1) (ah (.int 0)))) ak) ak) ak)
def Ce(a:aQ):SM:=(aj (dt (dM 1) (aZ (aa 0)) (Iv a)) (aj (bT (ah .non)) ak))
theorem jT{j:Nat}{ds:List D}(h:Ω[j]?=some (.lst ds)):g_ Ω (.ref j)=some (!ds.isEmpty):=by simp only[g_,h]
theorem EX{j:Nat}(R:Rw Ω k js rs)(p:rs.length<=1000)(h:Ω[j]?=some (.lst (row.map .str))):∃ai,af [] Ω ai/\Iv (cV 4 2 tQ) [some (.ref k),some (.ref j)] Ω=match freeOf rs row with|some m=>.rt (.str m) ai|none=>.nx [some (.ref k),some (.ref j)] ai:=by
 cases row with
 |nil=>
  have b:=jT h;refine⟨Ω,af.refl,?_⟩;simp[Iv,freeOf,b]
 |cons m t=>
  have b:=jT h;have b:g_ Ω (.ref j)=some true:=b;have c:aN (.ref j) (.int 0) Ω=.ok (.str m) Ω:=cj h (L2.cZ (j:=0) rfl);obtain⟨d,a,l,o,q⟩:=EW (n:=m) R p;have s:=o.get _ _ h (by simp)
  have e:aN (.ref j) (.int 0) a=.ok (.str m) a:=cj s (L2.cZ (j:=0) rfl);refine⟨a,o,?_⟩;generalize cV 4 2 tQ=w at *;rcases q with ⟨rfl,f⟩|⟨i,rfl,r,g,f⟩
  .rw[ed (by rintro⟨r,g,u⟩;exact f r g u)]
   simp[Iv,b,c,l,e]
  .rw[d_ ⟨r,List.mem_of_getElem? g,f⟩]
   simp[Iv,b,c,l]
theorem EY(R:Rw Ω k js rs)(u:rs.length<=1000):∃ai,cV 2 1 (Ce (cV 4 2 tQ)) [.ref k] Ω=.ok (BV (free rs)) ai/\af [] Ω ai:=by
 rw[bh (by rfl)]
 have w:aX 2 [D.ref k]=[some (.ref k),none]:=rfl;rw[w];have y:=R.len;have n:aZ (aa 0) [some (.ref k),none] Ω=.ok (.seq (.ref k)) Ω:=by simp[bo (x:=.ref k) (by rw[aI,az R.ce])]
 unfold Ce;rw[ao,bV,n,bR]
 refine br (R:=λr=>∃ai,iC (sq r _)=.ok (BV (free rs)) ai/\af [] Ω ai) (ds:=js.map .ref)
  (λi h a=>∃o,h=[some (.ref k),o]/\(rs.take i).findSome? (freeOf rs)=none/\af [] Ω a) ?_ ?_ ?_ fuel 0 _ _ (by unfold fuel;simp;omega) (Nat.zero_le _) ⟨none,rfl,rfl,af.refl⟩
 .rintro i h a ⟨_,_,_,K⟩
  rw[bu,aI,az (R.keep K).ce]
 .rintro i d h a p ⟨o,rfl,c,K⟩
  obtain⟨j,z,rfl⟩:=kn p;have R2:=R.keep K;obtain⟨b,l,f⟩:=R2.al.at' z;refine⟨[some (.ref k),some (.ref j)],rfl,?_⟩;obtain⟨q,s,e⟩:=EX R2 u f;rw[e];have A:rs.take (i+1)=rs.take i++[b]:=by rw[List.take_succ,l];rfl
  cases t:freeOf rs b with
  |some m=>
   refine⟨q,?_,K.trans s⟩
   have:free rs=some m:=by
    unfold free
    have p:rs=rs.take i++(b::rs.drop (i+1)):=by
     have g:i<rs.length:=(List.getElem?_eq_some_iff.mp l).1;rw[List.getElem?_eq_getElem g]at l;cases l;rw[←List.drop_eq_getElem_cons g,List.take_append_drop]
    conv=>lhs;arg 2;rw[p]
    rw[List.findSome?_append,c,List.findSome?_cons,t];rfl
   rw[this];rfl
  |none=>
   refine⟨_,rfl,?_,K.trans s⟩;rw[A,List.findSome?_append,c,List.findSome?_cons,t];rfl
 .rintro h a ⟨o,rfl,c,K⟩
  rw[List.length_map,←y,List.take_length]at c;refine⟨a,?_,K⟩;unfold free;rw[c];rfl
end
end
open PySem.Spec PyProof.Rows
section
variable{P:Program}{w:World}{K:PySem.W.Frag}{mg:Str->Option Value}{base:Heap}{T:aV}{k:Nat}
end
end Mir
namespace Mir
open PySem PySem.Spec PyProof.Rows L2
section
variable{X:Cx}{pins:List (Addr×Obj)}{σ:L2.St}{s:Shared}
end
variable [aE]
section
variable{κ:Str->Addr->Prop}{α iZ:List Addr}{Z Z0:Addr->Prop}{Ω:aD}{H H0 H2:Hp}{ρ:aR}{σ:L2.St}
end
section
variable{P:Program}{w:World}{K:PySem.W.Frag}{mg:Str->Option Value}{base:Heap}{T T2:aV}{k:Nat}
end
section
variable{P:Program}{w:World}{K:PySem.W.Frag}{mg:Str->Option Value}{base:Heap}{T:aV}{k:Nat}
end
end Mir
namespace Mir
open PySem L2
variable [aE]
section
variable{Ω ai:aD}{ρ:aR}{σ:Str->Int}{t kl:Nat}{kvs:List (List Key×D)}{line:List Str}{w x:Str}
theorem Cf{ds:List D}{n:Nat}:dC ds none (some (n:Int))=ds.take n:=tN ds n
theorem jl{n:Nat}(h:Ω[kl]?=some (.lst (line.map .str))):ji (.ref kl) none (some (n:Int)) Ω=.ok (.ref Ω.length) (Ω++[.lst ((line.take n).map .str)]):=by
 simp only[ji,az h,jQ,Cf,List.map_take]
theorem jm{n:Nat}(h:Ω[kl]?=some (.lst (line.map .str)))(a:line[n]?=some x):aN (.ref kl) (.int n) Ω=.ok (.str x) Ω:=
 cj h (L2.cZ (by simp[a]))
@[simp] theorem LD{a:Ty}{z:Str}:ti a (.str z) Ω=.ok (.bl (a==.str)) Ω:=rfl
@[simp] theorem LF{a:Ty}:ti a .non Ω=.ok (.bl false) Ω:=rfl
@[simp] theorem Iw{ds:List D}:aW .len [.tup ds] Ω=.ok (.int ds.length) Ω:=rfl
end
section
variable{Ω ai:aD}{ρ:aR}
theorem EZ{nc:Bool}{mc me:EM}{τ:aR}{src:Src}{ds:List D}{p:D->Bool}{g:D->D}(I:Nat->aD->Prop)(q:∀i Ω,I i Ω->en src Ω=some ds)
  (r:∀i d Ω,ds[i]?=some d->I i Ω->∃ai,hG nc mc ([some d]++τ) Ω=.ok (p d) ai/\I (i+1) ai/\(p d=true->me ([some d]++τ) ai=.ok (g d) ai)) :
  ∀(f i:Nat) (a:List D) (Ω:aD),ds.length - i<f->i<=ds.length->a.length+ds.length<=100000+i->I i Ω->∃ai,qm nc mc me 0 τ src f i a Ω=.ok (a++((ds.drop i).filter p).map g) ai/\I ds.length ai:=by
 intro f
 induction f with
 |zero=>intro i a Ω s;omega
 |succ f m=>
  intro i a Ω s y z j;simp only[qm,q i Ω j]
  by_cases b:i<ds.length
  .have h:ds[i]?=some ds[i]:=List.getElem?_eq_getElem b
   rw[h];have t:mR 0 ds[i]=some [some ds[i]]:=rfl;simp only[t];obtain⟨e,u,o,w⟩:=r i ds[i] Ω h j;rw[if_pos (aK (n:=a.length+1) (by omega)),u,List.drop_eq_getElem_cons b,List.filter_cons]
   cases x:p ds[i]with
   |true=>
    dsimp only;rw[w x];dsimp only;obtain⟨c,k,l⟩:=m (i+1) (a++[g ds[i]]) e (by omega) b (by rw[List.length_append];simp;omega) o
    exact⟨c,by rw[k];simp,l⟩
   |false=>
    dsimp only;obtain⟨c,k,l⟩:=m (i+1) a e (by omega) b (by omega) o
    exact⟨c,by rw[k];simp,l⟩
  .have h:ds[i]?=none:=List.getElem?_eq_none (by omega)
   rw[h,List.drop_of_length_le (by omega)]
   have:i=ds.length:=by omega
   subst this;exact⟨Ω,by simp,j⟩
theorem Cg{me mc:EM}{nc:Bool}{mi:IM}{cap:List Nat}{src:Src}{ds:List D}{p:D->Bool}{g:D->D}(I:Nat->aD->Prop)(b:mi ρ Ω=.ok src ai)(c:∀i Ω,I i Ω->en src Ω=some ds)
  (f:∀i d Ω,ds[i]?=some d->I i Ω->∃ai,hG nc mc ([some d]++dH cap ρ) Ω=.ok (p d) ai/\I (i+1) ai/\(p d=true->me ([some d]++dH cap ρ) ai=.ok (g d) ai)) (k:ds.length<=90000) (j:I 0 ai) :
  ∃a,bF me nc mc mi 0 cap ρ Ω=.ok (.ref a.length) (a++[.lst ((ds.filter p).map g)])/\I ds.length a:=by
 unfold bF;rw[b];dsimp only;obtain⟨a,e,h⟩:=EZ I c f fuel 0 [] ai (by unfold fuel;omega) (Nat.zero_le _) (by simp;omega) j
 refine⟨a,?_,h⟩;rw[e];rfl
theorem oH{k:Nat}{ds:List D}(h:Ω[k]?=some (.lst ds)):iy (.ref k) [] Ω=.ok .non (Ω.set k (.lst [])):=by
 simp only[iy,gJ h]
end
section
variable{Ω ai:aD}{ρ:aR}{σ:Str->Int}{kl fn b:Nat}{line ys:List Str}{w:Str}{M:List (List D->aQ)}{fp:List Nat}{I:List Str->aD->Prop}
theorem pW{k j:Nat}{us vs:List Str}(h:Ω[k]?=some (.lst (us.map .str)))(h':Ω[j]?=some (.lst (vs.map .str))):aF .Eq (.ref k) (.ref j) Ω=.ok (.bl (decide (us=vs))) Ω:=by
 rw[u6,lE,fw (n:=7) h,fw (n:=7) h',pS]
 have e:ez .Eq (L1 us) (L1 vs)=.ok (decide (us=vs)):=by
  rw[EH,rG 7,rG 7]
  show(if (true&&true)=true then Out.ok (eW (us.map .str) (vs.map .str))else .bad)=_
  rw[pP];rfl
 rw[e];rfl
theorem ve{k j:Nat}{us vs:List Str}(h:Ω[k]?=some (.lst (us.map .str)))(h':Ω[j]?=some (.lst (vs.map .str))):aF .NotEq (.ref k) (.ref j) Ω=.ok (.bl (!decide (us=vs))) Ω:=by
 rw[B6,lE,fw (n:=7) h,fw (n:=7) h',pS]
 have e:ez .NotEq (L1 us) (L1 vs)=.ok (!decide (us=vs)):=by
  rw[EI,rG 7,rG 7]
  show(if (true&&true)=true then Out.ok (!eW (us.map .str) (vs.map .str))else .bad)=_
  rw[pP];rfl
 rw[e];rfl
theorem y6{i:Nat}{us:List Str}(h:Ω[kl]?=some (.lst (us.map .str))):ji (.ref kl) (some (i:Int)) none Ω=.ok (.ref Ω.length) (Ω++[.lst ((us.drop i).map .str)]):=by
 simp only[ji,az h,jQ,tH,List.map_drop]
end
section
variable{Ω ai:aD}{ρ:aR}{k:Nat}{js:List Nat}{rs:List (List Str)}{row:List Str}{n:Str}
theorem jX.snoc{j:Nat}(h:jX Ω js rs)(a:Ω[j]?=some (.lst (row.map .str))):jX Ω (js++[j]) (rs++[row]):=aJ.append (R:=LB Ω) h (.cons a .nil)
theorem bS{ds:List D}(h:Ω[k]?=some (.lst ds)):aW .list [.ref k] Ω=.ok (.ref Ω.length) (Ω++[.lst ds]):=by
 show jg (jK [.ref k] Ω) (kG [.ref k] Ω)=_
 simp only[jK,aI,az h];rfl
theorem nj{me mc:EM}{mi:IM}{cap:List Nat}{f:List Str->List Str}{P:Nat->Prop}(s:mi ρ Ω=.ok (.seq (.ref k)) Ω)(R:Rw Ω k js rs)(C:rs.length<=1000)
  (t:∀j c aB,af [] Ω aB->j∈js->c∈rs->aB[j]?=some (.lst (c.map .str))->∃l a,me ([some (.ref j)]++dH cap ρ) aB=.ok (.ref l) a/\af [] aB a/\a[l]?=some (.lst ((f c).map .str))/\P l) :
  ∃b a,bF me true mc mi 0 cap ρ Ω=.ok (.ref a.length) (a++[.lst (b.map .ref)])/\af [] Ω a/\jX a b (rs.map f)/\∀j∈b,P j:=by
 have u:=R.len
 obtain⟨D,a,e,b,rfl,n,w,o⟩:=iP (me:=me) (mc:=mc) (cap:=cap) (ds:=js.map .ref) (λi g a=>∃b,g=b.map .ref/\jX a b ((rs.take i).map f)/\af [] Ω a/\∀j∈b,P j) s ⟨[],rfl,.nil,af.refl,by simp⟩
  (λi g a h=>by
   obtain⟨_,_,_,K,_⟩:=h;rw[bu,aI,az (R.keep K).ce])
  (λi d g aB y h=>by
   obtain⟨b,rfl,n,K,o⟩:=h;obtain⟨j,p,rfl⟩:=kn y;obtain⟨c,q,m⟩:=(R.keep K).al.at' p;obtain⟨l,a,e,r,z,A⟩:=t j c aB K (List.mem_of_getElem? p) (List.mem_of_getElem? q) m;refine⟨.ref l,a,e,b++[l],by simp,?_,K.trans r,?_⟩
   .rw[List.take_succ,q,List.map_append]
    exact(n.keep r (by simp)).snoc z
   .intro x B
    rcases List.mem_append.mp B with h|h
    .exact o x h
    .rw[List.mem_singleton.mp h];exact A) (by simp;omega)
 refine⟨b,a,e,w,?_,o⟩;rw[List.length_map,←u,List.take_length]at n;exact n
def y8(i:Nat):EM:=bF (mN (aW .list) (ab (aa 0) ae)) true (ah .non) (aZ (aa i)) 0 []
theorem Ci{i:Nat}(n:ρ[i]?=some (some (.ref k)))(R:Rw Ω k js rs)(o:rs.length<=1000):∃a c ai,y8 i ρ Ω=.ok (.ref c) ai/\af [] Ω ai/\Rw ai c a rs/\(∀j∈a,Ω.length<=j)/\Ω.length<=c/\c∉a:=by
 have d:aZ (aa i) ρ Ω=.ok (.seq (.ref k)) Ω:=by
  rw[bB,de,n,dc,ag];exact bo (by rw[aI,az R.ce])
 obtain⟨a,g,e,K,l,p⟩:=nj (me:=mN (aW .list) (ab (aa 0) ae)) (mc:=ah .non) (cap:=[]) (f:=λr=>r) (P:=λj=>Ω.length<=j) d R o (λj m b K _ _ h=>by
  refine⟨b.length,b++[.lst (m.map .str)],?_,af.app,aw,K.len⟩;have:=bS h;simp[dH,this])
 rw[List.map_id']at l;refine⟨a,g.length,_,e,K.trans af.app,⟨aw,l.keep (fp:=[]) af.app (by simp)⟩,p,K.len,λh=>?_⟩
 have:=l.lt _ h;omega
def stC:EM:=(AU (m2 (aF .Eq) (dg (aa 0) true (ah .non) false (ah (.int 1))) (mN aY (ab (aa 1) ae))) (dg (aa 0) false (ah (.int 1)) true (ah .non)) (aa 0))
theorem E4{j:Nat}(h:Ω[j]?=some (.lst (row.map .str))):ji (.ref j) none (some 1) Ω=.ok (.ref Ω.length) (Ω++[.lst ((row.take 1).map .str)]):=jl (n:=1) h
theorem E5{j:Nat}(h:Ω[j]?=some (.lst (row.map .str))):∃d ai,stC [some (.ref j),some (.str n)] Ω=.ok (.ref d) ai/\af [] Ω ai/\ai[d]?=some (.lst ((cv n row).map .str))/\(d=j\/Ω.length<=d):=by
 have k:=E4 h;have l:(Ω++[Cell.lst ((row.take 1).map .str)])[Ω.length]?=some (.lst ((row.take 1).map .str)):=aw;have g:af [] Ω (Ω++[Cell.lst ((row.take 1).map .str)]):=af.app;generalize Ω++[Cell.lst ((row.take 1).map .str)]=a at *;have m:(a++[Cell.lst [.str n]])[a.length]?=some (.lst ([n].map .str)):=aw;have e:af [] a (a++[Cell.lst [.str n]]):=af.app;have f:=e.get _ _ l (by simp)
 have i:=e.get _ _ (g.get _ _ h (by simp)) (by simp)
 have c:=pW f m
 have o:(m2 (aF .Eq) (dg (aa 0) true (ah .non) false (ah (.int 1))) (mN aY (ab (aa 1) ae))) [some (.ref j),some (.str n)] Ω=.ok (.bl (decide (row.take 1=[n]))) (a++[Cell.lst [.str n]]):=by
  simp[k,aK,c,-u6]
 generalize a++[Cell.lst [.str n]]=b at *;have K:=g.trans e;have p:=tR i;unfold stC;rw[m9,o,dn,cO,dI,ag]
 by_cases c:row.take 1=[n]
 .rw[if_pos (by rw[decide_eq_true c])]
  refine⟨b.length,b++[.lst (row.tail.map .str)],?_,K.trans af.app,?_,.inr K.len⟩
  .simp[p]
  .unfold cv;rw[if_pos c];exact aw
 .rw[if_neg (by rw[decide_eq_false c];simp)]
  refine⟨j,b,by simp,K,?_,.inl rfl⟩
  unfold cv;rw[if_neg c];exact i
def FnAt(d:aQ):Prop:=∀b k e c,Rw b k e c->c.length<=1000->∃a,d [.ref k] b=.ok (BV (free c)) a/\af [] b a
theorem Iy:FnAt (cV 2 1 (Ce (cV 4 2 tQ))):=λ_ _ _ _ R a=>EY R a
def tM:EM:=(mN (aW .any) (ab (aa 1) ae))
def stM:EM:=(bF stC true (ah .non) (aZ (aa 1)) 0 [3])
def bM(st:SM)(a:aQ):SM:=(aj (aA 3 (mN (bg a) (ab (aa 1) ae)))
 (aj (e_ (m2 (aF .Is) (aa 3) (ah .non))
 (aj st
 ak)
 ak)
 (aj (bA (dG kH bQ (aa 2) (ab (aa 3) ae)))
 (aj (aA 1 stM)
 ak))))
def E6(st:SM)(a:aQ):SM:=
 (aj (aA 1 (y8 0))
 (aj (aA 2 (mN aY ae))
 (aj (nP tM (bM st a))
 (aj (bT (aa 2))
 ak))))
theorem vf(R:Rw Ω k js rs):aW .any [.ref k] Ω=.ok (.bl ((rs.map λr=>!r.isEmpty).any id)) Ω:=by
 show nL .any [.ref k] Ω=_
 unfold nL;rw[u5];have h:=ng (n:=6) (rs:=js) (L:=rs) R.ce R.al;have:bJ (fA Ω 8) [.ref k]=some [LL rs]:=by simp[h]
 rw[this,u4];have:yk .any [LL rs]=.ok (false,.bl ((rs.map λr=>!r.isEmpty).any id)):=by simp[LL,any_rows,-List.any_map]
 rw[this,ER]
theorem Iz{st:SM}{m:aQ}(I:FnAt m){R0:D}{q:Nat}{a3:Option D}{b:List Str}(R:Rw Ω k js rs)(E:rs.length<=1000)(J:free rs=some n)(L:Ω[q]?=some (.lst (b.map .str)))(o:q≠k)(l:q∉js)(hp:b.length<=900) :
  ∃p c ai,bM st m [some R0,some (.ref k),some (.ref q),a3] Ω=.nx [some R0,some (.ref p),some (.ref q),some (.str n)] ai/\Rw ai p c (rs.map (cv n))/\ai[q]?=some (.lst ((b++[n]).map .str))/\q≠p/\q∉c/\af [q] Ω ai:=by
 obtain⟨a,F,r⟩:=I Ω k js rs R E;rw[J]at F;have s:=r.get _ _ L (by simp)
 have M:=R.keep r;have t:=ee (d:=.str n) s (by simp;omega)
 have N:=dr s;have G:af [q] a (a.set q (.lst (b.map .str++[.str n]))):=af.set (by simp)
 have H:(a.set q (.lst (b.map .str++[.str n])))[q]?=some (.lst ((b++[n]).map .str)):=by rw[aP s];simp
 generalize a.set q (.lst (b.map .str++[.str n]))=g at *;have R2:Rw g k js rs:=M.vd G (by simpa using Ne.symm o) (λj u h=>l (by rw[←List.mem_singleton.mp h];exact u))
 have w:aZ (aa 1) [some R0,some (.ref k),some (.ref q),some (.str n)] g=.ok (.seq (.ref k)) g:=by
  rw[bB];exact bo (by rw[aI,az R2.ce])
 have ql:=aS H
 obtain⟨c,i,O,y,Q,A⟩:=nj (ρ:=[some R0,some (.ref k),some (.ref q),some (.str n)]) (me:=stC) (mc:=ah .non) (cap:=[3]) (f:=cv n) (P:=λj=>j≠q) w R2 E (λj S i K u _ h=>by
  obtain⟨T,B,e,U,A,h5⟩:=E5 (n:=n) h;refine⟨T,B,e,U,A,?_⟩;rcases h5 with rfl|h5
  .exact λz=>l (z▸u)
  .have:=K.len
   omega)
 have V:=y.len;refine⟨i.length,c,i++[.lst (c.map .ref)],?_,⟨aw,Q.keep (fp:=[]) af.app (by simp)⟩,dq (y.get _ _ H (by simp)),by omega,λh=>A q h rfl,?_⟩
 .have C:stM [some R0,some (.ref k),some (.ref q),some (.str n)] g=.ok (.ref i.length) (i++[.lst (c.map .ref)]):=O
  have X:(aA 3 (mN (bg m) (ab (aa 1) ae))) [some R0,some (.ref k),some (.ref q),a3] Ω=.nx [some R0,some (.ref k),some (.ref q),some (.str n)] a:=by simp[F,BV]
  have Y:(e_ (m2 (aF .Is) (aa 3) (ah .non)) (aj st ak) ak) [some R0,some (.ref k),some (.ref q),some (.str n)] a=.nx [some R0,some (.ref k),some (.ref q),some (.str n)] a:=by simp
  have Z:(bA (dG kH bQ (aa 2) (ab (aa 3) ae))) [some R0,some (.ref k),some (.ref q),some (.str n)] a=.nx [some R0,some (.ref k),some (.ref q),some (.str n)] g:=by
   rw[bL,dw (x:=.ref q) (ai:=a) (by simp) N]
   simp[t]
  unfold bM;rw[ao,X,cT,ao,Y,cT,ao,Z,cT,ao,aU,C];rfl
 .exact((ew.up r).trans G).trans (ew.up (y.trans af.app))
theorem y9{st:SM}{d:aQ}(x:FnAt d){R0:D}{rs:List (List Str)}{o:List Str}(M:Mg rs o) :
  ∀(Ω:aD) (a:List Str) (q k:Nat) (f:List Nat) (a3:Option D) (m:Nat),Rw Ω k f rs->Ω[q]?=some (.lst (a.map .str))->q≠k->q∉f->rs.length<=1000->a.length+o.length<=900->o.length<m ->
   ∃a1 c ai,fv tM (bM st d) m [some R0,some (.ref k),some (.ref q),a3] Ω=.nx [some R0,a1,some (.ref q),c] ai/\ai[q]?=some (.lst ((a++o).map .str))/\af [q] Ω ai:=by
 induction M with
 |@done rs h=>
  intro Ω a q k f a3 m R i _ _ _ _ g;obtain⟨m,rfl⟩:∃k,m=k+1:=⟨m - 1,by simp at g;omega⟩
  refine⟨some (.ref k),a3,Ω,?_,by rw[List.append_nil];exact i,af.refl⟩
  have e:=vf R;rw[any_false h]at e;have j:tM [some R0,some (.ref k),some (.ref q),a3] Ω=.ok (.bl false) Ω:=by simp[tM,e]
  simp only[fv,j];rfl
 |@step rs n o h y _ z=>
  intro Ω a q k f a3 m R i l p w A g;obtain⟨m,rfl⟩:∃k,m=k+1:=⟨m - 1,by simp at g;omega⟩
  rw[List.length_cons]at A g;obtain⟨B,s,t,C,E,F,G,H,I⟩:=Iz (st:=st) x (R0:=R0) (a3:=a3) R w y i l p (by omega)
  obtain⟨a1,c,u,J,K,L⟩:=z t (a++[n]) q B s (some (.str n)) m E F G H (by simpa using w) (by simp;omega) (by omega)
  refine⟨a1,c,u,?_,by rw[K];simp,I.trans L⟩
  have e:=vf R;rw[any_true h]at e;have j:tM [some R0,some (.ref k),some (.ref q),a3] Ω=.ok (.bl true) Ω:=by simp[tM,e]
  simp only[fv,j]
  show(match bM st d [some R0,some (.ref k),some (.ref q),a3] Ω with|.nx b ai=>fv tM (bM st d) m b ai|.ct b ai=>fv tM (bM st d) m b ai|.bk b ai=>.nx b ai|r=>r)=_
  rw[C];exact J
def Cj(d:aQ):Prop:=∀(b:aD) (k:Nat) (e:List Nat) (c:List (List Str)) (o:List Str),Rw b k e c->Mg c o->c.length<=1000->o.length<=900->∃q a,d [.ref k] b=.ok (.ref q) a/\a[q]?=some (.lst (o.map .str))/\b.length<=q/\af [] b a
theorem ID{st:SM}{g:aQ}(m:FnAt g):Cj (cV 4 1 (E6 st g)):=by
 intro n k A B o R M j p;rw[bh (by rfl)]
 have q:aX 4 [D.ref k]=[some (.ref k),none,none,none]:=rfl;rw[q];obtain⟨c,b,a,r,d,e,C,E,F⟩:=Ci (ρ:=[some (.ref k),none,none,none]) (i:=0) rfl R j;have s:(aA 1 (y8 0)) [some (.ref k),none,none,none] n=.nx [some (.ref k),some (.ref b),none,none] a:=by rw[aU,r];rfl
 have l:af [] a (a++[Cell.lst []]):=af.app;have t:(a++[Cell.lst []])[a.length]?=some (.lst (([]:List Str).map .str)):=aw;have u:(aA 2 (mN aY ae)) [some (.ref k),some (.ref b),none,none] a=.nx [some (.ref k),some (.ref b),some (.ref a.length),none] (a++[Cell.lst []]):=by simp[aK]
 have G:=aS e.ce;have w:=e.al.lt;obtain⟨H,I,f,x,y,z⟩:=y9 (st:=st) m (R0:=.ref k) M (a++[Cell.lst []]) [] a.length b c none fuel (e.keep l) t (by omega) (λh=>by have:=w _ h;omega) j (by simpa using p) (by unfold fuel;omega)
 refine⟨a.length,f,?_,y,d.len,af.new (d.trans l) z (by simpa using d.len)⟩
 unfold E6;rw[ao,s,cT,ao,u,cT,ao];unfold nP;rw[x];rfl
end
end Mir
namespace Mir
open PySem
open PySem.Spec PyProof.Rows L2
structure dy(K:PySem.W.Frag)(x:Str)(st:Stmt)(f:Addr)(fd:FuncData):Prop where
 ns:PySem.W.nsIn K mainGlobals x=some (some (.ref f))
 fn:Gh K x x st f fd
theorem nr{K:PySem.W.Frag}{x:Str}{st:Stmt}{f:Addr}{oc:Value}{i g:Option Addr}{e:Array (Option Value)}{kV d h b ct:Value}(a:PySem.W.nsIn K mainGlobals x=some (some (.ref f)))
  (l:K.lookup f=some ⟨oc,i,.func (PySem.W.fnOf x x (ck st) (cm st) (av st) .none kV d h g b ct),e⟩) (c:PySem.W.codeIn K b x=true) (k:PySem.W.keepIn K (.ref f)=true):dy K x st f (PySem.W.fnOf x x (ck st) (cm st) (av st) .none kV d h g b ct):=⟨a,sH l c k⟩
variable [aE]
structure E7(K:PySem.W.Frag)(x qual:Str)(st:Stmt)(dV:Value)(f:Addr)(fd:FuncData):Prop where
 ex:∃(oc:Value) (od:Option Addr) (kV doc pm:Value) (an:Option Addr) (cdv ct:Value) (osl:Array (Option Value)),
  fd=PySem.W.fnOf x qual (ck st) (cm st) (av st) dV kV doc pm an cdv ct/\K.lookup f=some ⟨oc,od,.func fd,osl⟩/\PySem.W.codeIn K cdv qual=true
 kp:PySem.W.keepIn K (.ref f)=true
section
variable{P:Program}{w:World}{K:PySem.W.Frag}{mg:Str->Option Value}{base:Heap}{T:aV}{k:Nat}
theorem fg(W:bO P w K mg base T k){x qual:Str}{st:Stmt}{D:Value}{f:Addr}{y:FuncData}(F:E7 K x qual st D f y){N ps td:List Str}{c:SM}(I:bz N ps (av st)=true)(J:bC T td st N=some c) :
    cQ P w K mg base nA (k+1) f y ps (dQ (fN mg) (cV N.length ps.length c)):=by
  obtain⟨oc,od,kV,L,pm,an,n,ct,M,rfl,O,o⟩:=F.ex;have p:=Au I;refine GV O o p (λR H Q E h=>?_) λA outer s H R Q E U h=>?_
  · obtain⟨e,Z,i,l,S,r,g⟩:=h
    rw[r.length];unfold cV at g;split at g
    · rename_i V;exact V
    · exact g.elim
  · obtain⟨e,Z,i,l,S,r,g⟩:=h
    have G:iE (vG nA P w K mg base N qual (av st) f n A outer s H E).DL (fN mg) T k (av st) N:=
      { scope:=rfl,names:=rfl,calm:=rfl,room:=U,fB:=W.fB,own:=PassesOwn.never,Q_:=λ_ _ _=>.inl rfl,sS:=p.nd,kind:=p.kind,DL:=λ_ _ _ h=>h,fld:=W.fld,cst:=W.cst
        nB:=λx F h=>⟨W.nB x F h⟩,fn:=λx F h=>⟨W.fn x F h⟩,met:=λm C F h=>⟨W.met m C F h⟩,cls:=λC F h=>let ⟨j,X,Y⟩:=W.cls C F h;⟨j,X,⟨Y⟩⟩,clo:=W.clo }
    refine⟨Ht (fN mg) rX e Z H c (aX N.length l) i,(mZ (BN G 30 60) J e Z H (aX N.length l) i).DL,e,Z,tm S r,?_⟩;unfold cV at g;split at g
    · cases q:c (aX N.length l) i with
      |rt d a=>rw[q]at g;exact λv t b u gr st r=>g v t b u gr st r
      |nx z a=>rw[q]at g;exact λσ t b u B=>g .non t b u B.gr B.st (bp rfl)
      |bk z a=>rw[q]at g;exact g.elim
      |ct z a=>rw[q]at g;exact g.elim
      |exc x a=>rw[q]at g;exact g
      |bad=>rw[q]at g;exact g.elim
    · exact g.elim
end
end Mir
namespace Mir
open PySem L2
variable [aE]
abbrev oR(k:Nat):Option D:=some (.ref k)
abbrev oI(i:Int):Option D:=some (.int i)
abbrev oS(x:Str):Option D:=some (.str x)
section
variable{Ω ai:aD}{ρ rY:aR}{k i:Nat}
theorem cX(Ω:aD)(c:Cell):(Ω++[c])[Ω.length]?=some c/\af [] Ω (Ω++[c]):=⟨aw,af.app⟩
theorem af.g{c:Cell}(K:af [] Ω ai)(h:Ω[k]?=some c):ai[k]?=some c:=K.get _ _ h (by simp)
theorem fO{ds:List D}(a:ρ[i]?=some (oR k))(h:Ω[k]?=some (.lst ds)):aZ (aa i) ρ Ω=.ok (.seq (.ref k)) Ω:=by
 rw[bB,de,a,dc,ag];exact bo (by rw[aI,az h])
theorem aH{a b:SM}(h:a ρ Ω=.nx rY ai):aj a b ρ Ω=b rY ai:=by rw[ao,h,cT]
theorem dN{a:EM}{b:SM}{x:D}(h:a ρ Ω=.ok x ai):aj (bA a) b ρ Ω=b ρ ai:=by rw[ao,bL,h,bR,cT]
end
def cP(Ω:aD)(e:Nat)(kvs:List (Key×D)):Prop:=Ω[e]?=some (.dK kvs)\/Ω[e]?=some (.dF kvs)
abbrev dz:=List (Str×List Str)
noncomputable def nms(E:dz):List Str:=E.map (·.1)
noncomputable def bc(E:dz)(n:Str):List Str:=(E.lookup n).getD []
def aG(P:Nat->Prop)(Ω:aD)(kvs:List (Key×D))(E:dz):Prop:=aJ (λa p=>a.1=.inr p.1/\∃j,a.2=.ref j/\P j/\Ω[j]?=some (.lst (p.2.map .str))) kvs E
section
variable{Ω ai:aD}{ρ:aR}{e q j:Nat}{kvs:List (Key×D)}{E:dz}{P P':Nat->Prop}{n:Str}{r:List Str}{fp:List Nat}{ord:List Str}
theorem cP.keep(h:cP Ω e kvs)(K:af fp Ω ai)(a:e∉fp):cP ai e kvs:=h.imp (λz=>K.get _ _ z a) λz=>K.get _ _ z a
theorem cP.lt(h:cP Ω e kvs):e<Ω.length:=h.elim aS aS
theorem cP.nl(h:cP Ω e kvs):∀ds,Ω[e]?≠some (.lst ds):=λds z=>by rcases h with h|h<;>rw[h]at z<;>cases z
theorem cP.ni(h:cP Ω e kvs):∀C a,Ω[e]?≠some (.ins C a):=λC a z=>by rcases h with h|h<;>rw[h]at z<;>cases z
theorem Dp(h:cP Ω e kvs){m:Nat}:fA Ω (m+1) (.ref e)=none:=by rcases h with h|h<;>simp only[fA,h]
theorem rM(h:cP Ω e kvs):dY Ω (.ref e)=none:=by rcases h with h|h<;>simp only[dY,h]
theorem y_(h:cP Ω e kvs):sU Ω (.ref e) (.str n)=some (cN kvs (.inr n)):=by rcases h with h|h<;>simp only[sU,h,pB,Option.map_some]
theorem E8(h:cP Ω e kvs):aF .In (.str n) (.ref e) Ω=.ok (.bl (cN kvs (.inr n)).isSome) Ω:=by
 rw[pU,lE,lC,Dp h]
 show jg .bad _=_
 rw[tP];simp only[hF,y_ h];rfl
theorem IE(h:cP Ω e kvs):aF .NotIn (.str n) (.ref e) Ω=.ok (.bl (!(cN kvs (.inr n)).isSome)) Ω:=by
 rw[m_,lE,lC,Dp h]
 show jg .bad _=_
 rw[tP];simp only[hF,y_ h];rfl
theorem gj{d:D}(h:cP Ω e kvs)(a:cN kvs (.inr n)=some d):aN (.ref e) (.str n) Ω=.ok d Ω:=by
 unfold aN;rw[gI,lF,aI,rM h]
 show jg .bad _=_
 rw[tP,gI];simp only[AK,y_ h,a];rfl
theorem IF(h:cP Ω e kvs):aW .len [.ref e] Ω=.ok (.int kvs.length) Ω:=by
 show jg (pI [.ref e] Ω) (jg (tf [.ref e] Ω) _)=_
 have a:pI [.ref e] Ω=.bad:=by simp only[pI,aI,rM h]
 have b:tf [.ref e] Ω=.ok (.int kvs.length) Ω:=by rcases h with h|h<;>simp only[tf,h]
 rw[a,b];rfl
theorem Dq(h:cP Ω e kvs):wc Ω (.ref e)=some kvs:=by rcases h with h|h<;>simp only[wc,h]
theorem E9(h:cP Ω e kvs):aW .list [.ref e] Ω=.ok (.ref Ω.length) (Ω++[.lst (kvs.map λa=>j_ a.1)]):=by
 show jg (jK [.ref e] Ω) (kG [.ref e] Ω)=_
 have b:jK [.ref e] Ω=.bad:=by simp only[jK,aI,rM h]
 have c:kG [.ref e] Ω=.ok (.ref Ω.length) (Ω++[.lst (kvs.map λa=>j_ a.1)]):=by simp only[kG,Dq h];rfl
 rw[b,c];rfl
theorem tS(h:cP Ω e kvs):gT [.ref e] Ω=.ok (.ref Ω.length) (Ω++[.dK kvs]):=by
 show jg (iv [.ref e] Ω) (mK [.ref e] Ω)=_
 have a:iv [.ref e] Ω=.bad:=by simp only[iv,rM h]
 have b:mK [.ref e] Ω=.ok (.ref Ω.length) (Ω++[.dK kvs]):=by simp only[mK,Dq h];rfl
 rw[a,b];rfl
theorem set_same{c:Cell}(h:Ω[e]?=some c):Ω.set e c=Ω:=by
 apply List.ext_getElem?;intro i;rw[List.getElem?_set];split
 .rename_i z;subst z;rw[if_pos (aS h),h]
 .rfl
theorem rN(h:cP Ω e kvs):srcOf Ω (.ref e)=.ok (.keys e) (Ω.set e (.dF kvs)):=by
 unfold srcOf;rw[aI,rM h];rcases h with h|h
 .simp only[h]
 .simp only[h,set_same h]
theorem Dr(h:cP Ω e kvs):uL Ω (.ref e)=.ok (.items e) (Ω.set e (.dF kvs)):=by
 unfold uL;rcases h with h|h
 .simp only[h]
 .simp only[h,set_same h]
theorem vg(h:cP Ω e kvs):(Ω.set e (.dF kvs))[e]?=some (.dF kvs):=by rcases h with h|h<;>exact aP h
theorem nu(h:Ω[e]?=some (.dF kvs)):en (.keys e) Ω=some (kvs.map λa=>j_ a.1):=by simp only[en,h]
theorem aG.imp(h:aG P Ω kvs E)(e:∀j,P j->P' j):aG P' Ω kvs E:=aJ.imp (λ_ _ ⟨a,j,b,c,d⟩=>⟨a,j,b,e j c,d⟩) h
theorem aG.keep(h:aG P Ω kvs E)(K:af fp Ω ai)(e:∀j∈fp,¬ P j):aG P ai kvs E:=aJ.imp (λ_ _ ⟨a,j,b,c,d⟩=>⟨a,j,b,c,K.get _ _ d λz=>e j z c⟩) h
theorem aG.bD(h:aG P Ω kvs E)(K:af fp Ω ai)(e:∀j∈fp,∀ds,Ω[j]?≠some (.lst ds)):aG P ai kvs E:=aJ.imp (λ_ _ ⟨a,j,b,c,d⟩=>⟨a,j,b,c,K.get _ _ d λz=>e j z _ d⟩) h
theorem aG.lt(h:aG P Ω kvs E):aG (λj=>P j/\j<Ω.length) Ω kvs E:=aJ.imp (λ_ _ ⟨a,j,b,c,d⟩=>⟨a,j,b,⟨c,aS d⟩,d⟩) h
theorem aG.len(h:aG P Ω kvs E):E.length=kvs.length:=aJ.length h
theorem aG.keys(h:aG P Ω kvs E):(kvs.map λb=>j_ b.1)=(nms E).map .str:=by
 unfold aG at h
 induction h with
 |nil=>rfl
 |cons r _ a=>
  simp only[List.map_cons,nms]at a ⊢;rw[a,r.1];rfl
theorem aG.look(h:aG P Ω kvs E)(n:Str):(∀r,E.lookup n=some r->∃j,cN kvs (.inr n)=oR j/\P j/\Ω[j]?=some (.lst (r.map .str)))/\(E.lookup n=none->cN kvs (.inr n)=none):=by
 unfold aG at h
 induction h with
 |nil=>exact⟨λr h=>by simp at h,λ_=>rfl⟩
 |@cons g p kvs E a _ b=>
  obtain⟨c,j,d,e,f⟩:=a;rw[List.lookup_cons,eh,c]
  by_cases z:n=p.1
  .subst z
   rw[if_pos rfl,d];simp;exact⟨e,f⟩
  .rw[if_neg (λq=>z (by cases q;rfl)),beq_eq_false_iff_ne.mpr z]
   exact b
theorem pX(h:E.lookup n=some r):(n,r)∈E:=by
 induction E with
 |nil=>simp at h
 |cons p E a=>
  rw[List.lookup_cons]at h;split at h
  .rename_i z
   cases h;rw[eq_of_beq z];simp
  .exact List.mem_cons_of_mem _ (a h)
theorem lookup_some(h:n∈nms E):∃r,E.lookup n=some r:=by
 unfold nms at h
 induction E with
 |nil=>simp at h
 |cons p E a=>
  rw[List.lookup_cons];split
  .exact⟨_,rfl⟩
  .rename_i z
   refine a ?_;rw[List.map_cons]at h;rcases List.mem_cons.mp h with q|q
   .rw[q]at z;simp at z
   .exact q
theorem jn(h:n∈nms E):E.lookup n=some (bc E n):=by
 obtain⟨r,a⟩:=lookup_some h;unfold bc;rw[a];rfl
theorem lookup_none(h:n∉nms E):E.lookup n=none:=by
 cases q:E.lookup n with
 |none=>rfl
 |some r=>exact absurd (List.mem_map_of_mem (f:=(·.1)) (pX q)) h
theorem aG.at(h:aG P Ω kvs E)(a:n∈nms E):∃j,cN kvs (.inr n)=oR j/\P j/\Ω[j]?=some (.lst ((bc E n).map .str)):=(h.look n).1 _ (jn a)
theorem aG.is(h:aG P Ω kvs E):(cN kvs (.inr n)).isSome=decide (n∈nms E):=by
 by_cases q:n∈nms E
 .obtain⟨j,a,_⟩:=h.at q
  rw[a,decide_eq_true q];rfl
 .rw[(h.look n).2 (lookup_none q),decide_eq_false q];rfl
theorem za{k:Key}(h:cN kvs k=none):(kvs.any λa=>decide (a.1=k))=false:=by rw[jS,h];rfl
theorem aG.put(h:aG P Ω kvs E)(b:n∉nms E)(c:P j)(d:Ω[j]?=some (.lst (r.map .str))):aG P Ω (ej kvs (.inr n) (.ref j)) (E++[(n,r)]):=by
 have:=za ((h.look n).2 (lookup_none b));unfold ej;rw[if_neg (by rw[this];simp)]
 exact aJ.append (R:=λ(a:Key×D) (p:Str×List Str)=>a.1=.inr p.1/\∃j,a.2=.ref j/\P j/\Ω[j]?=some (.lst (p.2.map .str))) h (.cons ⟨rfl,j,rfl,c,d⟩ .nil)
def pY(E:dz)(a:List Str):List Str:=(nms E).filter λn=>!decide (n∈a)&&(bc E n).all λx=>decide (x∈a)
def Nn:EM:=(bF (m2 (aF .In) (aa 0) (aa 1)) true (ah .non) (aZ (m2 aN (aa 1) (aa 0))) 0 [2])
def IG:EM:=(jI (m2 (aF .NotIn) (aa 0) (aa 2)) (mN (aW .all) (ab Nn ae)))
def Np:SM:=(aj (bT (bF (aa 0) false IG (aZ (aa 0)) 0 [0,1])) ak)
theorem pZ{a:List Bool}(h:Ω[q]?=some (.lst (a.map .bl))):aW .all [.ref q] Ω=.ok (.bl (a.all id)) Ω:=by
 show nL .all [.ref q] Ω=_
 unfold nL;rw[u5];have c:bJ (fA Ω 7) (a.map .bl)=some (a.map .bl):=kk (λ_=>EN) a
 have:bJ (fA Ω 8) [.ref q]=some [.lst (a.map .bl)]:=by simp[lD h c]
 rw[this,u4,yX]
 have d:fR (a.map D.bl)=some a:=by
  clear h c this
  induction a with
  |nil=>rfl
  |cons b a e=>simp[fR,e]
 rw[d];rfl
theorem zb{a:Nat}{xs:List Str}{me:EM}{mi:IM}{cap:List Nat}(c:Ω[a]?=some (.lst (xs.map .str)))(f:mi ρ Ω=.ok (.seq (.ref a)) Ω){p:Str->Bool}(h:∀x∈xs,me ([oS x]++dH cap ρ) Ω=.ok (.bl (p x)) Ω)(i:xs.length<=90000) :
  ∃ai,mN (aW .all) (ab (bF me true (ah .non) mi 0 cap) ae) ρ Ω=.ok (.bl (xs.all p)) ai/\af [] Ω ai:=by
 have e:=dv (ρ:=ρ) (Ω:=Ω) (ai:=Ω) (me:=me) (mc:=ah .non) (nc:=true) (mi:=mi) (cap:=cap) (src:=.seq (.ref a)) (ds:=xs.map .str) (p:=λ_=>true) (g:=λd=>match d with|.str x=>.bl (p x)|d=>d) f (by rw[bu,aI,az c]) (λd _=>rfl) (λd j _=>by
  obtain⟨x,b,rfl⟩:=List.mem_map.mp j;exact h x b) (by simpa using i)
 have k:((xs.map D.str).filter λ_=>true).map (λd=>match d with|.str x=>D.bl (p x)|d=>d)=(xs.map p).map .bl:=by
  rw[List.filter_eq_self.mpr (λ_ _=>rfl),List.map_map,List.map_map]
  rfl
 rw[k]at e;refine⟨Ω++[.lst ((xs.map p).map .bl)],?_,af.app⟩;rw[bX,aC,e,ag,aL,ag,ag,pZ aw];simp[List.all_map]
def Ck(f:aQ):Prop:=∀(c:aD) (e q:Nat) (b:List (Key×D)) (E:dz) (d:List Str) (P:Nat->Prop),cP c e b->aG P c b E->c[q]?=some (.lst (d.map .str))->(∀n∈nms E,(bc E n).length<=1000)->E.length<=1000 ->
 ∃z a,f [.ref e,.ref q] c=.ok (.ref z) a/\a[z]?=some (.lst ((pY E d).map .str))/\af [e] c a/\a[e]?=some (.dF b)/\c.length<=z
theorem IH:Ck (cV 2 2 Np):=by
 intro h e q c E a P l M N o Z;rw[bh (by rfl),show aX 2 [D.ref e,.ref q]=[oR e,oR q]from rfl]
 have r:q≠e:=λz=>l.nl _ (z▸N)
 have s:af [e] h (h.set e (.dF c)):=af.set (by simp)
 have t:=vg l;have u:=M.bD s (λj m=>by rw[List.mem_singleton.mp m];exact l.nl)
 have y:=s.get _ _ N (by simpa using r)
 have l0:(h.set e (.dF c)).length=h.length:=by simp
 have A:aZ (aa 0) [oR e,oR q] h=.ok (.keys e) (h.set e (.dF c)):=by
  rw[bB];exact rN l
 generalize h.set e (.dF c)=B at *
 obtain⟨k,R,C⟩:=Cg (ρ:=[oR e,oR q]) (me:=aa 0) (mc:=IG) (nc:=false) (cap:=[0,1]) (ds:=(nms E).map .str) (p:=λd=>match d with|.str n=>!decide (n∈a)&&(bc E n).all λx=>decide (x∈a)|_=>false) (g:=λd=>d) (λ_ b=>af [] B b) A
  (λi b K=>by rw[nu (K.g t),M.keys])
  (λi d b F K=>by
   obtain⟨n,S,rfl⟩:=eD F;have O:n∈nms E:=List.mem_of_getElem? S;have Q:=K.g y;have T:=K.g t;have U:=u.keep K (by simp)
   obtain⟨j,V,_,m⟩:=U.at O;have f:=lJ (w:=n) Q;have G:=gj (n:=n) (.inr T) V
   show ∃H,cw (IG [oS n,oR e,oR q] b)=.ok (!decide (n∈a)&&(bc E n).all λx=>decide (x∈a)) H/\_
   by_cases I:n∈a
   .refine⟨b,?_,K,λ_=>rfl⟩
    rw[decide_eq_true I]at f ⊢;simp[IG,f,-m_]
   .rw[decide_eq_false I]at f
    obtain⟨J,L,X⟩:=zb (ρ:=[oS n,oR e,oR q]) (me:=m2 (aF .In) (aa 0) (aa 1)) (mi:=aZ (m2 aN (aa 1) (aa 0))) (cap:=[2]) (p:=λx=>decide (x∈a)) m (by
     rw[bB]
     show(aN (.ref e) (.str n) b).bind _=_
     rw[G,ag];exact bo (by rw[aI,az m])) (λx _=>by
     show aF .In (.str x) (.ref q) b=_
     exact jk Q) (by have:=o n O;omega)
    refine⟨J,?_,K.trans X,λ_=>rfl⟩
    have L:mN (aW .all) (ab Nn ae) [oS n,oR e,oR q] b=_:=L;unfold IG;rw[lB]
    show cw ((aF .NotIn (.str n) (.ref q) b).bind _)=_
    rw[f,ag,cO]
    show cw (mN (aW .all) (ab Nn ae) [oS n,oR e,oR q] b)=_
    rw[L,dn,cO,dI];simp[I]) (by simp[nms];omega) af.refl
 refine⟨k.length,k++[.lst ((pY E a).map .str)],?_,aw,?_,dq (C.g t),by have:=C.len;omega⟩
 .unfold Np
  rw[ao,dJ,R]
  have Y:(((nms E).map D.str).filter (λd=>match d with|.str n=>!decide (n∈a)&&(bc E n).all λx=>decide (x∈a)|_=>false)).map (λd=>d)=(pY E a).map .str:=by
   unfold pY;rw[List.map_id',List.filter_map];rfl
  rw[Y];rfl
 .exact(s.trans (ew.up C)).trans af.app
end
theorem p7{xs:List Str}:∀{o:List Str},o.Nodup->(∀x∈o,x∈xs)->o.length<=xs.length:=by
 intro o g c
 induction o generalizing xs with
 |nil=>simp
 |cons a o h=>
  have d:=c a (by simp)
  have e:=List.nodup_cons.mp g
  have:=h (xs:=xs.erase a) e.2 (λx f=>by
   have b:x≠a:=λz=>e.1 (by rw[←z];exact f)
   exact(List.mem_erase_of_ne b).mpr (c x (by simp[f])))
  rw[List.length_erase_of_mem d]at this;have i:0<xs.length:=List.length_pos_of_mem d;simp only[List.length_cons];omega
structure Ef(E:dz)(ord:List Str):Prop where
 nd:ord.Nodup
 sub:∀n∈ord,n∈nms E
 pre:∀(i:Nat) (n:Str),ord[i]?=some n->∀x∈bc E n,x∈ord.take i
structure Acy(E:dz):Prop where
 nd:(nms E).Nodup
 el:∀n∈nms E,∀x∈bc E n,x∈nms E
 rk:∃rk:Str->Nat,∀n∈nms E,∀x∈bc E n,rk x<rk n
section
variable{Ω ai:aD}{ρ:aR}{e q j:Nat}{kvs:List (Key×D)}{E:dz}{P P':Nat->Prop}{n:Str}{r:List Str}{fp:List Nat}{ord:List Str}
theorem lK:n∈pY E ord↔n∈nms E/\n∉ord/\∀x∈bc E n,x∈ord:=by
 unfold pY;simp[List.mem_filter]
theorem Ef.step(h:Ef E ord)(f:(nms E).Nodup):Ef E (ord++pY E ord) where
 nd:=List.nodup_append.mpr ⟨h.nd,f.filter _,λa g b j z=>(lK.mp j).2.1 (z▸g)⟩
 sub:=λn k=>(List.mem_append.mp k).elim (h.sub n) λz=>(lK.mp z).1
 pre:=λi n c x d=>by
  by_cases e:i<ord.length
  .rw[List.getElem?_append_left e]at c
   rw[List.take_append_of_le_length (Nat.le_of_lt e)];exact h.pre i n c x d
  .rw[List.getElem?_append_right (by omega)]at c
   have:=(lK.mp (List.mem_of_getElem? c)).2.2 x d;rw[List.take_append,List.take_of_length_le (by omega)]
   exact List.mem_append_left _ this
theorem E_(A:Acy E)(hz:pY E ord=[]):∀n∈nms E,n∈ord:=by
 obtain⟨d,e⟩:=A.rk
 have b:∀(k:Nat) n,d n<k->n∈nms E->n∈ord:=by
  intro k
  induction k with
  |zero=>intro n h;omega
  |succ k f=>
   intro n g a
   by_cases q:n∈ord
   .exact q
   .have:n∈pY E ord:=lK.mpr ⟨a,q,λx c=>f x (by have:=e n a x c;omega) (A.el n a x c)⟩
    rw[hz]at this;simp at this
 exact λn a=>b _ n (Nat.lt_succ_self _) a
theorem tT{k a:Nat}{xs ys:List Str}(h:Ω[k]?=some (.lst (xs.map .str)))(b:Ω[a]?=some (.lst (ys.map .str)))(c:xs.length+ys.length<=10000):iN (.ref k) [.ref a] Ω=.ok .non (Ω.set k (.lst ((xs++ys).map .str))):=by
 simp only[iN,gJ h,gJ b];rw[if_pos (aK (by simp;omega)),List.map_append]
def Fb(a:aQ):SM:=(aj (bA (dG kH iN (aa 1) (ab (aa 2) ae)))
 (aj (aA 2 (mN (bg a) (ab (aa 0) (ab (aa 1) ae))))
 ak))
def Nq(a:aQ):SM:=
 (aj (aA 1 (mN aY ae))
 (aj (aA 2 (mN (bg a) (ab (aa 0) (ab (aa 1) ae))))
 (aj (nP (aa 2)
 (Fb a))
 (aj (bT (aa 1))
 ak))))
structure Gd(E:dz):Prop extends Acy E where
 few:E.length<=100
 short:∀n∈nms E,(bc E n).length<=100
theorem zc{s:aQ}(Y:Ck s)(G:Gd E) :
  ∀(m:Nat) (Ω:aD) (d:List Str) (q z:Nat),Ω[e]?=some (.dF kvs)->aG P Ω kvs E->Ef E d->Ω[q]?=some (.lst (d.map .str))->Ω[z]?=some (.lst ((pY E d).map .str))->q≠z->¬ P q->E.length - d.length<m ->
   ∃f a2 ai,fv (aa 2) (Fb s) m [oR e,oR q,oR z] Ω=.nx [oR e,oR q,a2] ai/\ai[q]?=some (.lst (f.map .str))/\Ef E f/\(∀n∈nms E,n∈f)/\af [q] Ω ai:=by
 intro m
 induction m with
 |zero=>intro Ω d q z _ _ _ _ _ _ _ h;omega
 |succ m Z=>
  intro Ω d q z S hr F t T a0 U hm;have u:=jT T
  have b0:d.length<=E.length:=by
   have:=p7 F.nd F.sub;simpa[nms]using this
  by_cases C:pY E d=[]
  .refine⟨d,oR z,Ω,?_,t,F,E_ G.toAcy C,af.refl⟩
   have H:aa 2 [oR e,oR q,oR z] Ω=.ok (.ref z) Ω:=rfl;rw[C]at u;simp only[fv,H,dn,u];rfl
  .have H:aa 2 [oR e,oR q,oR z] Ω=.ok (.ref z) Ω:=rfl
   have u:g_ Ω (.ref z)=some true:=by
    rw[u];cases hc:pY E d with
    |nil=>exact absurd hc C
    |cons a b=>rfl
   have I:=F.step G.nd
   have i:(d++pY E d).length<=E.length:=by
    have:=p7 I.nd I.sub;simpa[nms]using this
   have c0:=G.few;have hx:=tT t T (by rw[List.length_append]at i;omega)
   have hL:=dr t;have J:af [q] Ω (Ω.set q (.lst ((d++pY E d).map .str))):=af.set (by simp)
   have l:=aP (e:=.lst ((d++pY E d).map .str)) t;have w:q≠e:=λz=>by rw[z,S]at t;cases t
   have o:=J.get _ _ S (by simpa using Ne.symm w)
   have y:=hr.keep J (λj K=>by rw[List.mem_singleton.mp K];exact U)
   generalize Ω.set q (.lst ((d++pY E d).map .str))=A at *;obtain⟨V,p,e2,L,D,B,lz⟩:=Y A e q kvs E (d++pY E d) P (.inr o) y l (λn X=>by have:=G.short n X;omega) (by omega)
   have M:af [q] A p:=⟨D.len,λk c N X=>by
    by_cases h:k=e
    .subst h;rw[o]at N;cases N;exact B
    .exact D.get k c N (by simpa using h)⟩
   have O:=y.bD D (λj K ds=>by rw[List.mem_singleton.mp K,o];simp)
   have Q:=D.get _ _ l (by simpa using w)
   have lq:=aS l
   obtain⟨f,a2,R,e3,h3,F3,h4,K3⟩:=Z p (d++pY E d) q V B O I Q L (by omega) U (by
    have:0<(pY E d).length:=List.length_pos_iff.mpr C;rw[List.length_append]at i ⊢;omega)
   refine⟨f,a2,R,?_,h3,F3,h4,(J.trans M).trans K3⟩
   have r1:Fb s [oR e,oR q,oR z] Ω=.nx [oR e,oR q,oR V] p:=by
    unfold Fb;rw[ao,bL,dw (x:=.ref q) (ai:=Ω) (by rfl) hL]
    have:(ab (aa 2) ae:AM) [oR e,oR q,oR z] Ω=.ok [.ref z] Ω:=rfl;rw[this,ag,hx,bR,cT];simp[e2]
   simp only[fv,H,dn,u,dI]
   show(match Fb s [oR e,oR q,oR z] Ω with|.nx g ai=>fv (aa 2) (Fb s) m g ai|.ct g ai=>fv (aa 2) (Fb s) m g ai|.bk g ai=>.nx g ai|r=>r)=_
   rw[r1];exact e3
def Cm(f:aQ):Prop:=∀(d:aD) (e:Nat) (b:List (Key×D)) (E:dz) (P:Nat->Prop),cP d e b->aG P d b E->Gd E ->
 ∃c z a,f [.ref e] d=.ok (.ref z) a/\a[z]?=some (.lst (c.map .str))/\Ef E c/\(∀n∈nms E,n∈c)/\af [e] d a/\a[e]?=some (.dF b)/\d.length<=z
theorem II{p:aQ}(A:Ck p):Cm (cV 3 1 (Nq p)):=by
 intro a e q E P B I G;rw[bh (by rfl),show aX 3 [D.ref e]=[oR e,none,none]from rfl]
 obtain⟨C,m⟩:=cX a (.lst []);have J:(aA 1 (mN aY ae)) [oR e,none,none] a=.nx [oR e,oR a.length,none] (a++[Cell.lst []]):=by simp[aK]
 have b:=B.keep m (by simp)
 have d:=(I.lt.keep m (by simp))
 have T:=B.lt;have U:(a++[Cell.lst []]).length=a.length+1:=by simp
 generalize a++[Cell.lst []]=f at *;have K:=G.few;obtain⟨z,g,L,r,o,l,V⟩:=A f e a.length q E [] _ b d C (λn s=>by have:=G.short n s;omega) (by omega)
 have t:=o.get _ _ C (by simp;omega)
 have u:=d.bD o (λj M N=>by rw[List.mem_singleton.mp M];exact b.nl N)
 obtain⟨w,X,x,O,Q,F,R,y⟩:=zc A G fuel g [] a.length z l u ⟨List.nodup_nil,by simp,λi n h=>by simp at h⟩ t r (by omega) (λh=>by omega) (by unfold fuel;omega)
 refine⟨w,a.length,x,?_,Q,F,R,?_,y.get _ _ l (by simp;omega),Nat.le_refl _⟩
 .unfold Nq
  rw[aH J,ao];have S:(aA 2 (mN (bg p) (ab (aa 0) (ab (aa 1) ae)))) [oR e,oR a.length,none] f=.nx [oR e,oR a.length,oR z] g:=by simp[L]
  rw[S,cT,ao];unfold nP;rw[O];rfl
 .refine⟨by have:=m.len;have:=o.len;have:=y.len;omega,λk c H s=>y.get k c (o.get k c (m.get k c H (by simp)) s) ?_⟩
  have:=aS H;simp;omega
def Nr:EM:=(bF (aa 0) false (m2 (aF .NotIn) (aa 0) (aa 1)) (aZ (aa 0)) 0 [1])
def Nt(a:aQ)(rest:SM):SM:=
 (aj (aA 1 (mN (bg a) (ab (aa 0) ae)))
 (aj (aA 3 Nr)
 (aj (e_ (iT (aa 3))
 (aj (bT (ah .non))
 ak)
 ak)
 rest)))
def Fc(d:aQ):Prop:=∀(c:aD) (e:Nat) (a:List (Key×D)) (E:dz) (P:Nat->Prop),cP c e a->aG P c a E->Gd E ->
 ∃b,d [.ref e] c=.ok .non b/\af [e] c b/\b[e]?=some (.dF a)
theorem IJ{f:aQ}(q:Cm f){rest:SM}:Fc (cV 5 1 (Nt f rest)):=by
 intro Ω e i E P k m G;rw[bh (by rfl),show aX 5 [D.ref e]=[oR e,none,none,none,none]from rfl]
 obtain⟨r,z,a,s,t,F,c,u,b,H⟩:=q Ω e i E P k m G;have w:=G.few
 have l:aZ (aa 0) [oR e,oR z,none,none,none] a=.ok (.keys e) a:=by
  rw[bB]
  show srcOf a (.ref e)=_
  rw[rN (.inr b),set_same b]
 have o:=dv (ρ:=[oR e,oR z,none,none,none]) (Ω:=a) (ai:=a) (me:=aa 0) (mc:=m2 (aF .NotIn) (aa 0) (aa 1)) (nc:=false) (mi:=aZ (aa 0)) (cap:=[1]) (src:=.keys e) (ds:=(nms E).map .str) (p:=λ_=>false) (g:=λd=>d) l (by rw[nu b,m.keys]) (λd k=>by
  obtain⟨n,x,rfl⟩:=List.mem_map.mp k
  show cw (aF .NotIn (.str n) (.ref z) a)=_
  rw[lJ t,decide_eq_true (c n x)];rfl) (λd _ h=>by cases h) (by simp[nms];omega)
 have y:Nr [oR e,oR z,none,none,none] a=.ok (.ref a.length) (a++[.lst []]):=by
  have:(((nms E).map D.str).filter (λ_=>false)).map (λd:D=>d)=[]:=by simp
  rw[this]at o;exact o
 refine⟨a++[.lst []],?_,u.trans af.app,dq b⟩;have A:=jT (Ω:=a++[Cell.lst []]) (j:=a.length) (ds:=[]) aw;unfold Nt;have B:(aA 1 (mN (bg f) (ab (aa 0) ae))) [oR e,none,none,none,none] Ω=.nx [oR e,oR z,none,none,none] a:=by simp[s]
 have C:(aA 3 Nr) [oR e,oR z,none,none,none] a=.nx [oR e,oR z,none,oR a.length,none] (a++[.lst []]):=by rw[aU,y];rfl
 rw[aH B,aH C,ao];simp[A]
end
noncomputable def aO(ns:List Str)(L:Str->List Str):dz:=ns.map λn=>(n,L n)
def Fd(E:dz)(L:Str->List Str):Prop:=∀n∈nms E,∃o,Mg ((bc E n).map L++[bc E n]) o/\L n=n::o
section
variable{Ω ai:aD}{ρ:aR}{e q j:Nat}{kvs:List (Key×D)}{E:dz}{P P':Nat->Prop}{n:Str}{r:List Str}{fp:List Nat}{ord:List Str}{L:Str->List Str}
theorem au{ns:List Str}:nms (aO ns L)=ns:=by
 unfold nms aO;rw[List.map_map];exact(List.map_congr_left λx _=>rfl).trans (List.map_id _)
theorem a_{ns:List Str}(h:n∈ns):bc (aO ns L) n=L n:=by
 unfold bc aO
 induction ns with
 |nil=>simp at h
 |cons a ns b=>
  rw[List.map_cons,List.lookup_cons]
  by_cases z:n=a
  .subst z;simp
  .rw[beq_eq_false_iff_ne.mpr z]
   refine b ?_;rcases List.mem_cons.mp h with q|q
   .exact absurd q z
   .exact q
theorem gN{a b:Nat}{xs ys:List D}(h:Ω[a]?=some (.lst xs))(c:Ω[b]?=some (.lst ys))(d:xs.length+ys.length<=10000):bj .Add (.ref a) (.ref b) Ω=.ok (.ref Ω.length) (Ω++[.lst (xs++ys)]):=by
 rw[yY,B_,az h,az c,B7,if_pos (aK (by omega))]
 rfl
def Ru:EM:=(bF (mN (aW .list) (ab (m2 aN (aa 1) (aa 0)) ae)) true (ah .non) (aZ (aa 1)) 0 [0])
def Nu:EM:=(mN aY (ab (mN (aW .list) (ab (aa 1) ae)) ae))
def Nv:SM:=(aj (bT (m2 (bj .Add) Ru Nu)) ak)
def Cn(h:aQ):Prop:=∀(c:aD) (l a:Nat) (e:List (Key×D)) (f:dz) (P:Nat->Prop) (b:List Str),cP c l e->aG P c e f->c[a]?=some (.lst (b.map .str))->(∀x∈b,x∈nms f)->b.length<=100 ->
 ∃g k d,h [.ref l,.ref a] c=.ok (.ref k) d/\Rw d k g (b.map (bc f)++[b])/\af [] c d/\c.length<=k/\(∀j∈g,c.length<=j)/\k∉g
theorem IK:Cn (cV 2 2 Nv):=by
 intro Ω l a L r P e M N s O hl;rw[bh (by rfl),show aX 2 [D.ref l,.ref a]=[oR l,oR a]from rfl]
 have t:aZ (aa 1) [oR l,oR a] Ω=.ok (.seq (.ref a)) Ω:=fO rfl s
 obtain⟨ys,f,Q,k,rfl,q,H,u⟩:=iP (ρ:=[oR l,oR a]) (me:=mN (aW .list) (ab (m2 aN (aa 1) (aa 0)) ae)) (mc:=ah .non) (cap:=[0]) (ds:=e.map .str) (λi m b=>∃k,m=k.map .ref/\jX b k ((e.take i).map (bc r))/\af [] Ω b/\∀j∈k,Ω.length<=j) t ⟨[],rfl,.nil,af.refl,by simp⟩
  (λi m b h=>by
   obtain⟨_,_,_,K,_⟩:=h;rw[bu,aI,az (K.g s)])
  (λi d m b w h=>by
   obtain⟨k,rfl,q,K,u⟩:=h;obtain⟨x,I,rfl⟩:=eD w;have z:=M.keep K (by simp)
   obtain⟨j,R,_,S⟩:=(N.keep K (by simp)).at (O x (List.mem_of_getElem? I))
   have A:=gj (n:=x) z R;have o:=bS S;refine⟨.ref b.length,b++[.lst ((bc r x).map .str)],?_,k++[b.length],by simp,?_,K.trans af.app,?_⟩
   .show((aN (.ref l) (.str x) b).bind _).bind _=_
    rw[A,ag]
    show aW .list [.ref j] b=_
    exact o
   .rw[List.take_succ,I,List.map_append]
    exact(q.keep (fp:=[]) af.app (by simp)).snoc aw
   .intro y B
    rcases List.mem_append.mp B with h|h
    .exact u y h
    .rw[List.mem_singleton.mp h];exact K.len) (by simp;omega)
 rw[List.length_map,List.take_length]at q;have C:Ru [oR l,oR a] Ω=.ok (.ref f.length) (f++[.lst (k.map .ref)]):=Q;have T:(f++[Cell.lst (k.map .ref)])[f.length]?=some (.lst (k.map .ref)):=aw;have J:af [] Ω (f++[Cell.lst (k.map .ref)]):=H.trans af.app;have E:jX (f++[Cell.lst (k.map .ref)]) k (e.map (bc r)):=q.keep (fp:=[]) af.app (by simp)
 have l2:(f++[Cell.lst (k.map .ref)]).length=f.length+1:=by simp
 have U:=q.lt;have kl:=H.len;have V:=q.len;generalize f++[Cell.lst (k.map .ref)]=b at *;have o:=bS (J.g s)
 have X:Nu [oR l,oR a] b=.ok (.ref (b.length+1)) ((b++[.lst (e.map .str)])++[.lst [.ref b.length]]):=by
  unfold Nu
  have:(mN (aW .list) (ab (aa 1) ae)) [oR l,oR a] b=.ok (.ref b.length) (b++[.lst (e.map .str)]):=by
   show aW .list [.ref a] b=_
   exact o
  rw[bX,aC,this,ag,aL,ag,ag,eH,if_pos (aK (by simp))]
  simp
 have F:af [] b ((b++[Cell.lst (e.map .str)])++[Cell.lst [.ref b.length]]):=af.app.trans af.app
 have Y:((b++[Cell.lst (e.map .str)])++[Cell.lst [.ref b.length]])[b.length+1]?=some (.lst [.ref b.length]):=by
  have:=aw (Ω:=b++[Cell.lst (e.map .str)]) (c:=.lst [.ref b.length]) (l:=[]);simpa using this
 have Z:((b++[Cell.lst (e.map .str)])++[Cell.lst [.ref b.length]])[b.length]?=some (.lst (e.map .str)):=dq aw;have l3:((b++[Cell.lst (e.map .str)])++[Cell.lst [.ref b.length]]).length=b.length+2:=by simp
 generalize (b++[Cell.lst (e.map .str)])++[Cell.lst [.ref b.length]]=p at *;have g3:=F.g T;have G:=E.keep F (by simp)
 have hc:=gN g3 Y (by simp at V ⊢;omega)
 refine⟨k++[b.length],p.length,p++[.lst (k.map .ref++[.ref b.length])],?_,⟨?_,?_⟩,(J.trans F).trans af.app,by omega,?_,?_⟩
 .unfold Nv
  rw[ao,dJ,dm,C,ag,X,ag,hc];rfl
 .have:=aw (Ω:=p) (c:=.lst (k.map .ref++[.ref b.length])) (l:=[])
  simpa using this
 .exact(G.snoc Z).keep (fp:=[]) af.app (by simp)
 .intro y B
  rcases List.mem_append.mp B with h|h
  .exact u y h
  .rw[List.mem_singleton.mp h];omega
 .intro h
  rcases List.mem_append.mp h with h|h
  .have:=U _ h;omega
  .have:=List.mem_singleton.mp h;omega
theorem Co{kvs:List (Key×D)}{k:Key}{v:D}(h:k∉kvs.map (·.1)):ej kvs k v=kvs++[(k,v)]:=by
 unfold ej;rw[if_neg];intro z;obtain⟨a,b,c⟩:=List.any_eq_true.mp z;exact h (List.mem_map.mpr ⟨a,b,of_decide_eq_true c⟩)
theorem ko:∀(ps b:List (Key×D)),((b++ps).map (·.1)).Nodup->ps.foldl (λa p=>ej a p.1 p.2) b=b++ps
 |[],b,_=>by simp
 |p::ps,b,h=>by
  have h1:p.1∉b.map (·.1):=by
   rw[List.map_append,List.map_cons]at h;have:=(List.nodup_append.mp h).2.2;exact λz=>this _ z _ (by simp) rfl
  rw[List.foldl_cons,Co h1,ko ps _ (by simpa using h)]
  simp
theorem zd{ns:List Str}{f:Str->D}(h:∀n∈ns,∃j,f n=.ref j/\P j/\Ω[j]?=some (.lst ((L n).map .str))):aG P Ω (ns.map λn=>(.inr n,f n)) (aO ns L):=by
 unfold aG aO
 induction ns with
 |nil=>exact .nil
 |cons a ns b=>exact .cons ⟨rfl,h a (by simp)⟩ (b λn c=>h n (by simp[c]))
theorem tU{me:EM}{mi:IM}{cap:List Nat}{src:Src}{ns:List Str}{f:Str->D}(m:mi ρ Ω=.ok src Ω)(o:en src Ω=some (ns.map .str))(r:∀n∈ns,me ([oS n]++dH cap ρ) Ω=.ok (.tup [.str n,f n]) Ω)(A:ns.length<=1000)(s:ns.Nodup) :
  ∃q ai,mN gT (ab (bF me true (ah .non) mi 0 cap) ae) ρ Ω=.ok (.ref q) ai/\ai[q]?=some (.dK (ns.map λn=>(.inr n,f n)))/\af [] Ω ai/\Ω.length<=q:=by
 have e:=dv (ρ:=ρ) (Ω:=Ω) (ai:=Ω) (me:=me) (mc:=ah .non) (nc:=true) (mi:=mi) (cap:=cap) (src:=src) (ds:=ns.map .str) (p:=λ_=>true) (g:=λd=>match d with|.str n=>.tup [.str n,f n]|d=>d) m o (λd _=>rfl) (λd t _=>by
  obtain⟨x,i,rfl⟩:=List.mem_map.mp t;exact r x i) (by simp;omega)
 have u:((ns.map D.str).filter λ_=>true).map (λd=>match d with|.str n=>D.tup [.str n,f n]|d=>d)=ns.map λn=>.tup [.str n,f n]:=by
  rw[List.filter_eq_self.mpr (λ_ _=>rfl),List.map_map]
  rfl
 rw[u]at e;obtain⟨w,k⟩:=cX Ω (.lst (ns.map λn=>.tup [.str n,f n]))
 generalize Ω++[Cell.lst (ns.map λn=>.tup [.str n,f n])]=c at *
 have y:bJ mM (ns.map λn=>D.tup [.str n,f n])=some (ns.map λn=>(.inr n,f n)):=kk (f:=mM) (g:=λn=>D.tup [.str n,f n]) (h:=λn=>(.inr n,f n)) (λn=>rfl) ns
 have l:=ko (ns.map λn=>((.inr n:Key),f n)) [] (by
  rw[List.nil_append,List.map_map];have:(ns.map ((λp:Key×D=>p.1) ∘ λn=>((.inr n:Key),f n)))=ns.map Sum.inr:=rfl
  rw[this];exact List.Pairwise.map _ (λa b j z=>j (by cases z;rfl)) s)
 rw[List.nil_append]at l;refine⟨c.length,c++[.dK (ns.map λn=>(.inr n,f n))],?_,aw,k.trans af.app,k.len⟩
 rw[bX,aC,e,ag,aL,ag,ag]
 show jg (iv [.ref Ω.length] c) _=_
 simp only[iv,az w,y,l];rfl
def Rv:EM:=(mN (aW .all) (ab (bF (m2 (aF .In) (aa 0) (aa 1)) true (ah .non) (aZ (m2 aN (aa 0) (aa 4))) 0 [2]) ae))
def LG(a b:aQ):EM:=(m2 (bj .Add) (mN aY (ab (aa 4) ae)) (mN (bg a) (ab (mN (bg b) (ab (aa 2) (ab (m2 aN (aa 0) (aa 4)) ae))) ae)))
def LH(a b:aQ):SM:=(aj (e_ Rv
 (aj (aj (fH (aa 2) (aa 4) (LG a b))
 ak)
 ak)
 ak)
 ak)
def LI:SM:=(aj (e_ (m2 (aF .In) (aa 4) (aa 3))
 (aj cR
 ak)
 ak)
 ak)
def Rx:EM:=(mN gT (ab (bF (mN ip (ab (aa 0) (ab (m2 aN (aa 1) (aa 0)) ae))) true (ah .non) (aZ (aa 0)) 0 [2]) ae))
def Nw(a b c d:aQ):SM:=
 (aj (aA 1 (mN (bg a) (ab (aa 0) ae)))
 (aj (e_ (m2 (aF .IsNot) (aa 1) (ah .non))
 (aj cR
 ak)
 ak)
 (aj (aA 2 dP)
 (aj (aA 3 dP)
 (aj (dt (dM 4) (aZ (mN (bg b) (ab (aa 0) ae)))
 (LH c d))
 (aj (dt (dM 4) (aZ (aa 0))
 LI)
 (aj (bT Rx)
 ak)))))))
theorem tV{k:Nat}{d:D}(h:Ω[k]?=some (.dK kvs))(a:kvs.length<=1000):kI (.ref k) (.str n) d Ω=some (Ω.set k (.dK (ej kvs (.inr n) d))):=by
 simp only[kI,h,pB];rw[if_pos (aK (by omega))]
theorem Fe{A B:aQ}(hM:Cj A)(hB:Cn B){l:Nat}{f:List (Key×D)}{h:List Str}{a1 a3 a5:Option D}{o:List Str}(he:Ω[e]?=some (.dF kvs))(hr:aG P Ω kvs E)(N:Ω[l]?=some (.dK f))(t:aG P' Ω f (aO h L))(hn:n∈nms E)(O:n∉h)
  (i:∀x∈bc E n,x∈h) (Q:Mg ((bc E n).map L++[bc E n]) o) (hL:L n=n::o) (C:(bc E n).length<=100) (e0:h.length<=100) (ho:o.length<=900) (R:∀j,Ω.length<=j->P' j) :
  ∃u ai,LH A B [oR e,a1,oR l,a3,oS n,a5] Ω=.nx [oR e,a1,oR l,a3,oS n,a5] ai/\ai[l]?=some (.dK u)/\aG P' ai u (aO (h++[n]) L)/\af [l] Ω ai:=by
 obtain⟨a,hv,_,w⟩:=hr.at hn;have S:=gj (n:=n) (.inr he) hv
 obtain⟨c,M,K1⟩:=zb (ρ:=[oR e,a1,oR l,a3,oS n,a5]) (me:=m2 (aF .In) (aa 0) (aa 1)) (mi:=aZ (m2 aN (aa 0) (aa 4))) (cap:=[2]) (p:=λx=>true) w (by
  rw[bB]
  show(aN (.ref e) (.str n) Ω).bind _=_
  rw[S,ag];exact bo (by rw[aI,az w])) (λx T=>by
  show aF .In (.str x) (.ref l) Ω=_
  rw[E8 (.inl N),t.is,au,decide_eq_true (i x T)]) (by omega)
 have M:Rv [oR e,a1,oR l,a3,oS n,a5] Ω=.ok (.bl true) c:=by
  have:((bc E n).all λ_=>true)=true:=by simp
  rw[this]at M;exact M
 have g2:(c++[Cell.lst [.str n]])[c.length]?=some (.lst [.str n]):=aw;have z:af [] Ω (c++[Cell.lst [.str n]]):=K1.trans af.app
 have U:(mN aY (ab (aa 4) ae)) [oR e,a1,oR l,a3,oS n,a5] c=.ok (.ref c.length) (c++[Cell.lst [.str n]]):=by
  show aY [.str n] c=_
  rw[eH,if_pos (aK (by simp))]
 generalize c++[Cell.lst [.str n]]=m at *;have V:=z.g N;have F:=t.keep z (by simp)
 have X:=z.g w;have G:=gj (n:=n) (.inr (z.g he)) hv;obtain⟨js,k,Y,e3,R3,Z,h3,_,_⟩:=hB m l a f _ _ _ (.inl V) F X (by rw[au];exact i) C
 have H:(bc E n).map (bc (aO h L))=(bc E n).map L:=List.map_congr_left λx T=>a_ (i x T)
 rw[H]at R3;obtain⟨q,b,e4,a0,lq,K4⟩:=hM Y k js _ o R3 Q (by simp;omega) ho
 have I:=gN (K4.g (Z.g g2)) a0 (by simp;omega)
 have K5:af [] Ω (b++[Cell.lst ([.str n]++o.map .str)]):=((z.trans Z).trans K4).trans af.app;have g5:(b++[Cell.lst ([.str n]++o.map .str)])[b.length]?=some (.lst ((L n).map .str)):=by rw[hL];exact aw
 have l4:Ω.length<=b.length:=((z.trans Z).trans K4).len
 have e5:LG A B [oR e,a1,oR l,a3,oS n,a5] c=.ok (.ref b.length) (b++[Cell.lst ([.str n]++o.map .str)]):=by
  unfold LG;rw[dm,U,ag]
  have:(mN (bg A) (ab (mN (bg B) (ab (aa 2) (ab (m2 aN (aa 0) (aa 4)) ae))) ae)) [oR e,a1,oR l,a3,oS n,a5] m=.ok (.ref q) b:=by
   have h1:(ab (aa 2) (ab (m2 aN (aa 0) (aa 4)) ae):AM) [oR e,a1,oR l,a3,oS n,a5] m=.ok [.ref l,.ref a] m:=by
    show(((aN (.ref e) (.str n) m).bind _).bind _)=_
    rw[G];rfl
   rw[bX,aC,bX,h1,ag,iG,e3,km,ag,aL,ag,ag,iG,e4,km]
  rw[this,ag,I]
 generalize b++[Cell.lst ([.str n]++o.map .str)]=s at *;have y:=K5.g N;have J:=t.keep K5 (by simp)
 have K:=t.len;have b0:f.length<=1000:=by rw[←K];simp[aO];omega
 have c0:=tV (n:=n) (d:=.ref b.length) y b0;have K6:af [l] s (s.set l (.dK (ej f (.inr n) (.ref b.length)))):=af.set (by simp)
 refine⟨ej f (.inr n) (.ref b.length),s.set l (.dK (ej f (.inr n) (.ref b.length))),?_,aP y,?_,(ew.up K5).trans K6⟩
 .unfold LH
  rw[ao,dj,M,dn,cO,dI,bR,if_pos rfl,ao,ao]
  have:fH (aa 2) (aa 4) (LG A B) [oR e,a1,oR l,a3,oS n,a5] c=.nx [oR e,a1,oR l,a3,oS n,a5] (s.set l (.dK (ej f (.inr n) (.ref b.length)))):=by
   unfold fH;rw[e5]
   show(match kI (.ref l) (.str n) (.ref b.length) s with|some ai=>gc.nx _ ai|none=>.bad)=_
   rw[c0]
  rw[this];rfl
 .have:=J.put (n:=n) (r:=L n) (by rw[au];exact O) (R _ l4) g5
  have h6:=this.bD K6 (λj hj ds=>by rw[List.mem_singleton.mp hj,y];simp)
  have:aO h L++[(n,L n)]=aO (h++[n]) L:=by simp[aO]
  rw[this]at h6;exact h6
def IL(f:aQ):Prop:=∀(c:aD) (e:Nat) (b:List (Key×D)) (E:dz) (P:Nat->Prop) (L:Str->List Str),cP c e b->aG P c b E->Gd E->Fd E L->(∀n∈nms E,(L n).length<=900) ->
 ∃l d a,f [.ref e] c=.ok (.ref l) a/\a[l]?=some (.dK d)/\aG (λj=>c.length<=j) a d (aO (nms E) L)/\af [e] c a/\a[e]?=some (.dF b)/\c.length<=l
theorem IP{LO EF MG RB:aQ}(hO:Fc LO)(hE:Cm EF)(hM:Cj MG)(hB:Cn RB):IL (cV 6 1 (Nw LO EF MG RB)):=by
 intro Ω e a0 E P L hd hr G hL p0;rw[bh (by rfl),show aX 6 [D.ref e]=[oR e,none,none,none,none,none]from rfl]
 have L0:=G.few;have q0:(nms E).length=E.length:=by simp[nms]
 obtain⟨a,e1,K1,r0⟩:=hO Ω e a0 E P hd hr G;have s0:=hr.bD K1 (λj M ds=>by rw[List.mem_singleton.mp M];exact hd.nl ds)
 have le:=hd.lt;obtain⟨g2,K2⟩:=cX a (.dK []);have l2:(a++[Cell.dK []]).length=a.length+1:=by simp
 have r2:aA 2 dP [oR e,some .non,none,none,none,none] a=.nx [oR e,some .non,oR a.length,none,none,none] (a++[Cell.dK []]):=rfl;generalize a++[Cell.dK []]=l at *;obtain⟨g3,K3⟩:=cX l (.dK []);have l3:(l++[Cell.dK []]).length=l.length+1:=by simp
 have r3:aA 3 dP [oR e,some .non,oR a.length,none,none,none] l=.nx [oR e,some .non,oR a.length,oR l.length,none,none] (l++[Cell.dK []]):=rfl;generalize l++[Cell.dK []]=H at *;have A:=K2.trans K3;have N:=A.g r0;have b0:=s0.keep A (by simp)
 have t0:=K3.g g2;obtain⟨w,z,p,e4,c0,F,J,Y,O,lz⟩:=hE H e a0 E P (.inr N) b0 G;have Q:a.length≠e:=by have:=K1.len;omega
 have e0:l.length≠e:=by have:=K1.len;omega
 have f0:=Y.get _ _ t0 (by simpa using Q)
 have u0:=Y.get _ _ g3 (by simpa using e0)
 have v0:=b0.bD Y (λj M ds=>by rw[List.mem_singleton.mp M,N];simp)
 have M0:w.length<=E.length:=by
  have:=p7 F.nd F.sub;omega
 have J0:=Y.len;have K0:=K1.len
 have w0:af [] H p:=⟨Y.len,λk c Z _=>by
  by_cases h:k=e
  .subst h;rw[N]at Z;cases Z;exact O
  .exact Y.get k c Z (by simpa using h)⟩
 have g0:aZ (mN (bg EF) (ab (aa 0) ae)) [oR e,some .non,oR a.length,oR l.length,none,none] H=.ok (.seq (.ref z)) p:=by
  rw[bB];have:(mN (bg EF) (ab (aa 0) ae)) [oR e,some .non,oR a.length,oR l.length,none,none] H=.ok (.ref z) p:=by simp[e4]
  rw[this,ag];exact bo (by rw[aI,az c0])
 have h0:∃m x b,gf (dM 4) (.seq (.ref z)) (LH MG RB) fuel 0 [oR e,some .non,oR a.length,oR l.length,none,none] p=.nx [oR e,some .non,oR a.length,oR l.length,x,none] b/\b[a.length]?=some (.dK m)/\aG (λj=>p.length<=j) b m (aO w L)/\af [a.length] p b:=by
  have x0:∀B,af [a.length] p B->B[z]?=some (.lst (w.map .str)):=λB K=>K.get _ _ c0 (by simp;omega)
  refine br (R:=λr=>∃m x b,r=.nx [oR e,some .non,oR a.length,oR l.length,x,none] b/\b[a.length]?=some (.dK m)/\aG (λj=>p.length<=j) b m (aO w L)/\af [a.length] p b) (ds:=w.map .str)
   (λi ρ b=>∃m x,ρ=[oR e,some .non,oR a.length,oR l.length,x,none]/\b[a.length]?=some (.dK m)/\aG (λj=>p.length<=j) b m (aO (w.take i) L)/\af [a.length] p b) ?_ ?_ ?_ fuel 0 _ _ (by unfold fuel;simp;omega) (Nat.zero_le _) ⟨[],none,rfl,f0,.nil,af.refl⟩
  .rintro i ρ b ⟨_,_,_,_,_,K⟩
   rw[bu,aI,az (x0 _ K)]
  .rintro i d ρ b S ⟨m,x,rfl,C,T,K⟩
   obtain⟨n,y,rfl⟩:=eD S;refine⟨[oR e,some .non,oR a.length,oR l.length,oS n,none],rfl,?_⟩;have I:=F.sub n (List.mem_of_getElem? y);obtain⟨o,y0,i0⟩:=hL n I;have ho:o.length<=900:=by have:=p0 n I;rw[i0]at this;simp at this;omega
   have t:=K.get _ _ O (by simpa using Ne.symm Q)
   have U:=v0.bD K (λj M ds=>by rw[List.mem_singleton.mp M,f0];simp)
   have z0:n∉w.take i:=by
    intro hm;obtain⟨i',V⟩:=List.mem_iff_getElem?.mp hm;have A0:=(List.getElem?_eq_some_iff.mp V).1;rw[List.length_take]at A0;rw[List.getElem?_take_of_lt (by omega)]at V
    have:=(List.getElem?_inj (by omega) F.nd).mp (V.trans y.symm)
    omega
   obtain⟨j0,u,e6,h6,h7,K6⟩:=Fe (P':=λj=>p.length<=j) hM hB (n:=n) (a1:=some .non) (a3:=oR l.length) (a5:=none) t U C T I z0 (F.pre i n y) y0 i0 (G.short n I) (by rw[List.length_take];omega) ho (λj M=>Nat.le_trans K.len M)
   rw[e6];refine⟨j0,oS n,rfl,h6,?_,K.trans K6⟩;rw[List.take_succ,y];exact h7
  .rintro ρ b ⟨m,x,rfl,C,T,K⟩
   rw[List.length_map,List.take_length]at T;exact⟨m,x,b,rfl,C,T,K⟩
 obtain⟨m,x,b,e5,h5,U,K5⟩:=h0;have t:=K5.get _ _ O (by simpa using Ne.symm Q)
 have B0:=K5.get _ _ u0 (by simp;omega)
 have k0:aZ (aa 0) [oR e,some .non,oR a.length,oR l.length,x,none] b=.ok (.keys e) b:=by
  rw[bB]
  show srcOf b (.ref e)=_
  rw[rN (.inr t),set_same t]
 have X:∃s,gf (dM 4) (.keys e) LI fuel 0 [oR e,some .non,oR a.length,oR l.length,x,none] b=.nx [oR e,some .non,oR a.length,oR l.length,s,none] b:=by
  refine br (R:=λr=>∃s,r=.nx [oR e,some .non,oR a.length,oR l.length,s,none] b) (ds:=(nms E).map .str)
   (λi ρ u=>u=b/\∃s,ρ=[oR e,some .non,oR a.length,oR l.length,s,none]) ?_ ?_ ?_ fuel 0 _ _ (by unfold fuel;simp;omega) (Nat.zero_le _) ⟨rfl,x,rfl⟩
  .rintro i ρ u ⟨rfl,_⟩
   rw[nu t,hr.keys]
  .rintro i d ρ u S ⟨rfl,s,rfl⟩
   obtain⟨n,y,rfl⟩:=eD S;refine⟨[oR e,some .non,oR a.length,oR l.length,oS n,none],rfl,?_⟩;have C0:=E8 (n:=n) (.inl B0)
   have:LI [oR e,some .non,oR a.length,oR l.length,oS n,none] u=.nx [oR e,some .non,oR a.length,oR l.length,oS n,none] u:=by
    unfold LI;rw[ao,dj]
    show sq (bK (cw (aF .In (.str n) (.ref l.length) u)) _) _=_
    rw[C0];rfl
   rw[this];exact⟨rfl,_,rfl⟩
  .rintro ρ u ⟨rfl,s,rfl⟩
   exact⟨s,rfl⟩
 obtain⟨s,e6⟩:=X
 have l0:∀n∈nms E,∃j,(cN m (.inr n)).getD .non=.ref j/\p.length<=j/\b[j]?=some (.lst ((L n).map .str))/\cN m (.inr n)=oR j:=λn y=>by
  obtain⟨j,C,T,h3⟩:=U.at (n:=n) (by rw[au];exact J n y)
  rw[a_ (J n y)]at h3;exact⟨j,by rw[C];rfl,T,h3,C⟩
 have m0:aZ (aa 0) [oR e,some .non,oR a.length,oR l.length,s,none] b=.ok (.keys e) b:=by
  rw[bB]
  show srcOf b (.ref e)=_
  rw[rN (.inr t),set_same t]
 obtain⟨q,n0,e7,g7,K7,lq⟩:=tU (ρ:=[oR e,some .non,oR a.length,oR l.length,s,none]) (me:=mN ip (ab (aa 0) (ab (m2 aN (aa 1) (aa 0)) ae))) (cap:=[2]) (ns:=nms E) (f:=λn=>(cN m (.inr n)).getD .non) m0 (by rw[nu t,hr.keys]) (λn y=>by
  obtain⟨j,C,_,_,h4⟩:=l0 n y;have D0:=gj (n:=n) (.inl h5) h4
  show(((aN (.ref a.length) (.str n) b).bind _).bind _).bind _=_
  rw[D0]
  show ip [.str n,.ref j] b=_
  rw[jR,if_pos (aK (by simp)),C]) (by omega) G.nd
 have o0:af [] a b:=⟨by have:=A.len;have:=K5.len;omega,λk c Z _=>K5.get k c (w0.get k c (A.get k c Z (by simp)) (by simp)) (by have:=aS Z;simp;omega)⟩
 refine⟨q,_,n0,?_,g7,?_,K1.trans (ew.up (o0.trans K7)),K7.g t,by have:=o0.len;omega⟩
 .unfold Nw
  have r1:(aA 1 (mN (bg LO) (ab (aa 0) ae))) [oR e,none,none,none,none,none] Ω=.nx [oR e,some .non,none,none,none,none] a:=by simp[e1]
  have G0:(e_ (m2 (aF .IsNot) (aa 1) (ah .non)) (aj cR ak) ak) [oR e,some .non,none,none,none,none] a=.nx [oR e,some .non,none,none,none,none] a:=by simp
  rw[aH r1,aH G0,aH r2,aH r3,ao,bV,g0,bR,e5,cT,ao,bV,k0,bR,e6,cT,ao,dJ];have I0:Rx [oR e,some .non,oR a.length,oR l.length,s,none] b=.ok (.ref q) n0:=e7;rw[I0];rfl
 .refine zd λn y=>?_
  obtain⟨j,C,T,h3,_⟩:=l0 n y;exact⟨j,C,by have:=A.len;omega,K7.g h3⟩
end
def nS(x:Str):Prop:=1<=x.length/\x.length<=8/\∀c∈x.cps.toList,97<=c/\c<=122
section
variable{Ω ai:aD}{ρ:aR}{e q j h:Nat}{kvs:List (Key×D)}{E:dz}{P P':Nat->Prop}{n:Str}{r:List Str}{fp:List Nat}{L:Str->List Str}
theorem Ff:∀c,97<=c->c<=122->uq (bE c) "abcdefghijklmnopqrstuvwxyz"=true:=by
 have:∀i,i<26->uq (bE (97+i)) "abcdefghijklmnopqrstuvwxyz"=true:=by decide +kernel
 intro c a b;have:=this (c - 97) (by omega)
 rwa[show 97+(c - 97)=c by omega]at this
def inC:EM:=(bF (m2 (aF .In) (aa 0) (ah (.str "abcdefghijklmnopqrstuvwxyz"))) true (ah .non) (aZ (aa 0)) 0 [])
def Nx:SM:=
 (aj (e_ (iT (m1 (ti .str) (aa 0)))
 (aj (bT (ah (.bl false)))
 ak)
 ak)
 (aj (bT (jI (mE .LtE .LtE (ah (.int 1)) (mN (aW .len) (ab (aa 0) ae)) (ah (.int 8))) (mN (aW .all) (ab inC ae))))
 ak))
def Fg(c:aQ):Prop:=∀(b:aD) (x:Str),nS x->∃a,c [.str x] b=.ok (.bl true) a/\af [] b a
theorem IQ:Fg (cV 1 1 Nx):=by
 intro Ω x h;obtain⟨u,w,e⟩:=h;rw[bh (by rfl),show aX 1 [D.str x]=[oS x]from rfl]
 have b:aZ (aa 0) [oS x] Ω=.ok (.chars x) Ω:=rfl
 have a:=dv (ρ:=[oS x]) (Ω:=Ω) (ai:=Ω) (me:=m2 (aF .In) (aa 0) (ah (.str "abcdefghijklmnopqrstuvwxyz"))) (mc:=ah .non) (nc:=true) (mi:=aZ (aa 0)) (cap:=[]) (src:=.chars x) (ds:=x.cps.toList.map λc=>.str (bE c)) (p:=λ_=>true) (g:=λd=>.bl true) b rfl (λd _=>rfl) (λd i _=>by
  obtain⟨c,f,rfl⟩:=List.mem_map.mp i;have:=Ff c (e c f).1 (e c f).2
  show aF .In (.str (bE c)) (.str _) Ω=_
  simp[ez,inD,this]) (by
  have:x.cps.toList.length=x.length:=by simp[Str.length]
  simp only[List.length_map];omega)
 have j:((x.cps.toList.map λc=>D.str (bE c)).filter λ_=>true).map (λ_=>D.bl true)=(x.cps.toList.map λ_=>true).map .bl:=by
  rw[List.filter_eq_self.mpr (λ_ _=>rfl),List.map_map,List.map_map]
  rfl
 rw[j]at a;have a:inC [oS x] Ω=.ok (.ref Ω.length) (Ω++[.lst ((x.cps.toList.map λ_=>true).map .bl)]):=a
 have k:=pZ (Ω:=Ω++[.lst ((x.cps.toList.map λ_=>true).map .bl)]) (q:=Ω.length) aw
 refine⟨Ω++[.lst ((x.cps.toList.map λ_=>true).map .bl)],?_,af.app⟩
 have l:(mN (aW .all) (ab inC ae)) [oS x] Ω=.ok (.bl true) (Ω++[.lst ((x.cps.toList.map λ_=>true).map .bl)]):=by
  rw[bX,aC,a,ag,aL,ag,ag,k];simp
 have m:(mE .LtE .LtE (ah (.int 1)) (mN (aW .len) (ab (aa 0) ae)) (ah (.int 8))) [oS x] Ω=.ok (.bl true) Ω:=by
  have o:aW .len [.str x] Ω=.ok (.int x.length) Ω:=by
   show jg (pI [.str x] Ω) (jg (tf [.str x] Ω) (nL .len [.str x] Ω))=_
   show nL .len [.str x] Ω=_
   unfold nL;simp[aK (n:=x.length) (by omega)]
  have r:di .LtE (.int 1) (.int x.length) Ω=.ok (.bl true) Ω:=by
   have:decide ((1:Int)<=x.length)=true:=by simp;omega
   simp[ez,this]
  have s:di .LtE (.int x.length) (.int 8) Ω=.ok (.bl true) Ω:=by
   have:decide ((x.length:Int)<=8)=true:=by simp;omega
   simp[ez,this]
  unfold mE;have:(mN (aW .len) (ab (aa 0) ae)) [oS x] Ω=.ok (.int x.length) Ω:=o;rw[jP,ag,this,ag,r,dn,cO,dI,ag,if_pos rfl,jP,ag,s]
 have t:(e_ (iT (m1 (ti .str) (aa 0))) (aj (bT (ah (.bl false))) ak) ak) [oS x] Ω=.nx [oS x] Ω:=by rfl
 unfold Nx;rw[aH t,ao,dJ,lB,m,ag,cO,yW,l];rfl
def cY(P:Nat->Prop)(Ω:aD)(h e l:Nat)(E:dz)(L:Str->List Str):Prop:=
 ∃a b,Ω[h]?=some (.ins "House" [("elders",.ref e),("lines",.ref l)])/\Ω[e]?=some (.dK a)/\aG P Ω a E/\Ω[l]?=some (.dK b)/\aG P Ω b (aO (nms E) L)
def bG(P:Nat->Prop)(Ω:aD)(h:Nat)(E:dz)(L:Str->List Str):Prop:=∃e l,cY P Ω h e l E L
theorem cY.at{l:Nat}(H:cY P Ω h e l E L):bG P Ω h E L:=⟨e,l,H⟩
theorem cY.keep{l:Nat}{fp:List Nat}(H:cY P Ω h e l E L)(K:af fp Ω ai)(m:h∉fp)(n:e∉fp)(o:l∉fp)(k:∀j∈fp,¬ P j):cY P ai h e l E L:=by
 obtain⟨g,i,a,b,c,d,f⟩:=H;exact⟨g,i,K.get _ _ a m,K.get _ _ b n,c.keep K k,K.get _ _ d o,f.keep K k⟩
theorem cY.imp{l:Nat}(H:cY P Ω h e l E L)(c:∀j,P j->P' j):cY P' Ω h e l E L:=by
 obtain⟨a,b,d,f,g,i,k⟩:=H;exact⟨a,b,d,f,g.imp c,i,k.imp c⟩
theorem cY.rZ{l:Nat}(H:cY P Ω h e l E L):∀j ds,Ω[j]?=some (.lst ds)->h≠j/\e≠j/\l≠j:=λj ds z=>by
 obtain⟨d,f,a,b,g,c,i⟩:=H;exact⟨λq=>(by rw[q,z]at a;cases a),λq=>(by rw[q,z]at b;cases b),λq=>(by rw[q,z]at c;cases c)⟩
def wW(P:Nat->Prop)(Ω:aD)(h B:Nat)(E:dz)(L:Str->List Str):Prop:=∃e l,cY P Ω h e l E L/\B<=e/\e<l
theorem wW.at{B:Nat}(H:wW P Ω h B E L):bG P Ω h E L:=let ⟨_,_,a,_⟩:=H;a.at
theorem bG.or(H:bG P Ω h E L):∃e l a b,Ω[h]?=some (.ins "House" [("elders",.ref e),("lines",.ref l)])/\cP Ω e a/\aG P Ω a E/\cP Ω l b/\aG P Ω b (aO (nms E) L):=by
 obtain⟨e,l,a,b,c,d,f,g,i⟩:=H;exact⟨e,l,a,b,c,.inl d,f,.inl g,i⟩
theorem bG.keep(H:bG P Ω h E L)(K:af [] Ω ai):bG P ai h E L:=by
 obtain⟨e,l,a,b,c,d,f,i,j⟩:=H;exact⟨e,l,a,b,K.g c,K.g d,f.keep K (by simp),K.g i,j.keep K (by simp)⟩
theorem bG.imp(H:bG P Ω h E L)(c:∀j,P j->P' j):bG P' Ω h E L:=by
 obtain⟨e,l,a,b,d,f,g,i,k⟩:=H;exact⟨e,l,a,b,d,f,g.imp c,i,k.imp c⟩
theorem bG.lt(H:bG P Ω h E L):bG (λj=>P j/\j<Ω.length) Ω h E L:=by
 obtain⟨e,l,a,b,c,d,f,g,i⟩:=H;exact⟨e,l,a,b,c,d,f.lt,g,i.lt⟩
theorem bG.Ds{ds:List D}(H:bG P Ω h E L)(K:af [q] Ω ai)(a:Ω[q]?=some (.lst ds))(k:¬ P q):bG P ai h E L:=by
 obtain⟨e,l,b,c,d,f,m,g,n⟩:=H;have o:h≠q:=λz=>by rw[z,a]at d;cases d
 have p:e≠q:=λz=>by rw[z,a]at f;cases f
 have r:l≠q:=λz=>by rw[z,a]at g;cases g
 have i:∀j∈[q],¬ P j:=λj s=>by rw[List.mem_singleton.mp s];exact k
 exact⟨e,l,b,c,K.get _ _ d (by simpa using o),K.get _ _ f (by simpa using p),m.keep K i,K.get _ _ g (by simpa using r),n.keep K i⟩
theorem ze(H:aG P Ω kvs (aO (nms E) L)):kvs.length=E.length:=by
 have:=H.len;simp[aO,nms]at this;omega
def fe:EM:=(m1 (eo ["House"] "elders") (aa 0))
def Gv:EM:=(m1 (eo ["House"] "lines") (aa 0))
theorem i5{l:Nat}(a:Ω[h]?=some (.ins "House" [("elders",.ref e),("lines",.ref l)])):eo ["House"] "elders" (.ref h) Ω=.ok (.ref e) Ω:=u7 a rfl rfl
theorem vh{l:Nat}(a:Ω[h]?=some (.ins "House" [("elders",.ref e),("lines",.ref l)])):eo ["House"] "lines" (.ref h) Ω=.ok (.ref l) Ω:=u7 a rfl rfl
def Ny:SM:=(aj (bT (mN (aW .list) (ab fe ae))) ak)
def k6(c:aQ):Prop:=∀(b:aD) (h:Nat) (E:dz) (L:Str->List Str) (P:Nat->Prop),bG P b h E L->∃k a,c [.ref h] b=.ok (.ref k) a/\a[k]?=some (.lst ((nms E).map .str))/\af [] b a/\b.length<=k
theorem IS:k6 (cV 1 1 Ny):=by
 intro a h E L P H;obtain⟨e,l,c,d,f,g,i,j,k⟩:=H.or;rw[bh (by rfl),show aX 1 [D.ref h]=[oR h]from rfl]
 have b:=E9 g;rw[i.keys]at b;refine⟨a.length,a++[.lst ((nms E).map .str)],?_,aw,af.app,Nat.le_refl _⟩
 have:(mN (aW .list) (ab fe ae)) [oR h] a=.ok (.ref a.length) (a++[.lst ((nms E).map .str)]):=by
  show(((eo ["House"] "elders" (.ref h) a).bind _).bind _)=_
  rw[i5 f,ag];exact b
 unfold Ny;rw[ao,dJ,this];rfl
theorem bx{m:Str}{F:aQ}{i:Nat}{c:AM}(H:bG P Ω h E L)(d:ρ[i]?=some (oR h))(a:([("elders",D.ref 0),("lines",D.ref 0)]:List (Str×D)).lookup m=none):ay "House" m F (aa i) c ρ Ω=(c ρ Ω).bind λxs b=>iA (F (.ref h::xs) b):=by
 obtain⟨e,l,f,g,j,k,n,o,p⟩:=H;refine u_ (by rw[de,d,dc]) j ?_
 simp only[List.lookup_cons]at a ⊢;split at a
 .cases a
 .split at a
  .cases a
  .rfl
def Nz(a:aQ):SM:=
 (aj (e_ (m2 (aF .NotIn) (aa 1) (ay "House" "kinds" a (aa 0) ae))
 (aj cR
 ak)
 ak)
 ak)
def p8(c:aQ):Prop:=∀(b:aD) (h:Nat) (E:dz) (L:Str->List Str) (P:Nat->Prop) (n:Str),bG P b h E L->n∈nms E->∃a,c [.ref h,.str n] b=.ok .non a/\af [] b a
theorem IT{d:aQ}(e:k6 d):p8 (cV 2 2 (Nz d)):=by
 intro c h E L P n H f;rw[bh (by rfl),show aX 2 [D.ref h,.str n]=[oR h,oS n]from rfl]
 obtain⟨k,a,g,i,j,_⟩:=e c h E L P H
 have l:ay "House" "kinds" d (aa 0) ae [oR h,oS n] c=.ok (.ref k) a:=by
  rw[bx H rfl (by decide),aL,ag,g,km]
 refine⟨a,?_,j⟩;have b:=lJ (w:=n) i;rw[decide_eq_true f]at b;unfold Nz;rw[ao,dj,dm];have:aa 1 [oR h,oS n] c=.ok (.str n) c:=rfl;rw[this,ag,l,ag,b];rfl
def NA(a:aQ):SM:=(aj (bA (ay "House" "check_kind" a (aa 0) (ab (aa 3) ae)))
 (aj (e_ (m2 (aF .In) (aa 3) (dg (aa 1) true (ah .non) false (aa 2)))
 (aj cR
 ak)
 ak)
 ak))
def NB(a:aQ):SM:=
 (aj (e_ (m2 (aF .Gt) (mN (aW .len) (ab (aa 1) ae)) (ah (.int 5)))
 (aj cR
 ak)
 ak)
 (aj (dt (eg [2,3]) (kX (aa 1))
 (NA a))
 ak))
def Cp(CE:aQ):Prop:=∀(c:aD) (h a:Nat) (E:dz) (L:Str->List Str) (P:Nat->Prop) (r:List Str),bG P c h E L->c[a]?=some (.lst (r.map .str))->r.Nodup->r.length<=5->(∀x∈r,x∈nms E)->∃b,CE [.ref h,.ref a] c=.ok .non b/\af [] c b
theorem Fh{f:aQ}(o:p8 f){a i:Nat}{x:Str}(H:bG P Ω h E L)(p:Ω[a]?=some (.lst (r.map .str)))(q:r[i]?=some x)(s:r.Nodup)(t:x∈nms E) :
  ∃ai,NA f [oR h,oR a,oI i,oS x] Ω=.nx [oR h,oR a,oI i,oS x] ai/\af [] Ω ai:=by
 obtain⟨b,u,m⟩:=o Ω h E L P x H t
 have y:ay "House" "check_kind" f (aa 0) (ab (aa 3) ae) [oR h,oR a,oI i,oS x] Ω=.ok .non b:=by
  rw[bx H rfl (by decide)]
  show iA (f [.ref h,.str x] Ω)=_
  rw[u];rfl
 have j:=jl (n:=i) (m.g p);have z:(b++[Cell.lst ((r.take i).map .str)])[b.length]?=some (.lst ((r.take i).map .str)):=aw;have A:af [] Ω (b++[Cell.lst ((r.take i).map .str)]):=m.trans af.app;generalize b++[Cell.lst ((r.take i).map .str)]=d at *;have e:=jk (w:=x) z
 have k:x∉r.take i:=by
  intro B;obtain⟨D,c⟩:=List.mem_iff_getElem?.mp B;have l:=(List.getElem?_eq_some_iff.mp c).1;rw[List.length_take]at l;rw[List.getElem?_take_of_lt (by omega)]at c
  have:=(List.getElem?_inj (by omega) s).mp (c.trans q.symm)
  omega
 rw[decide_eq_false k]at e;refine⟨d,?_,A⟩
 have C:dg (aa 1) true (ah .non) false (aa 2) [oR h,oR a,oI i,oS x] b=.ok (.ref b.length) d:=by
  rw[eS];simp[j]
 unfold NA;rw[dN y,ao,dj,dm];have:aa 3 [oR h,oR a,oI i,oS x] b=.ok (.str x) b:=rfl;rw[this,ag,C,ag,e];rfl
theorem IU{p:aQ}(s:p8 p):Cp (cV 4 2 (NB p)):=by
 intro c h a E L P r H j t C u;rw[bh (by rfl),show aX 4 [D.ref h,.ref a]=[oR h,oR a,none,none]from rfl]
 have w:(e_ (m2 (aF .Gt) (mN (aW .len) (ab (aa 1) ae)) (ah (.int 5))) (aj cR ak) ak) [oR h,oR a,none,none] c=.nx [oR h,oR a,none,none] c:=by
  have e:=gM j;rw[List.length_map]at e;rw[dj,dm];have:(mN (aW .len) (ab (aa 1) ae)) [oR h,oR a,none,none] c=.ok (.int r.length) c:=e;rw[this,ag,jP,ag]
  have:aF .Gt (.int r.length) (.int 5) c=.ok (.bl false) c:=by
   simp[ez];omega
  rw[this];rfl
 have l:kX (aa 1) [oR h,oR a,none,none] c=.ok (.Hs (.ref a)) c:=by
  unfold kX;simp[az j]
 unfold NB;rw[aH w,ao,bV,l,bR]
 refine br (R:=λr=>∃f,iC (sq r _)=.ok .non f/\af [] c f) (ds:=dD 0 (r.map .str))
  (λi k b=>∃m n,k=[oR h,oR a,m,n]/\af [] c b) ?_ ?_ ?_ fuel 0 _ _ (by rw[gx];unfold fuel;simp;omega) (Nat.zero_le _) ⟨none,none,rfl,af.refl⟩
 .rintro i k b ⟨_,_,_,K⟩
  show(gz b (.ref a)).map (dD 0)=_
  rw[aI,az (K.g j)];rfl
 .rintro i d k b y ⟨m,n,rfl,K⟩
  obtain⟨F,o,rfl⟩:=jC _ 0 i d y;obtain⟨x,q,rfl⟩:=eD o;rw[Nat.zero_add];refine⟨[oR h,oR a,oI i,oS x],rfl,?_⟩;obtain⟨z,A,B⟩:=Fh s (i:=i) (H.keep K) (K.g j) q t (u x (List.mem_of_getElem? q));rw[A];exact⟨_,_,rfl,K.trans B⟩
 .rintro k b ⟨m,n,rfl,K⟩
  exact⟨b,rfl,K⟩
def NC(a:aQ):SM:=
 (aj (bA (ay "House" "check_kind" a (aa 0) (ab (aa 1) ae)))
 (aj (bT (mN (aW .list) (ab (m2 aN Gv (aa 1)) ae)))
 ak))
def wH(c:aQ):Prop:=∀(b:aD) (h:Nat) (E:dz) (L:Str->List Str) (P:Nat->Prop) (n:Str),bG P b h E L->n∈nms E->∃k a,c [.ref h,.str n] b=.ok (.ref k) a/\a[k]?=some (.lst ((L n).map .str))/\af [] b a/\b.length<=k
theorem IV{b:aQ}(k:p8 b):wH (cV 2 2 (NC b)):=by
 intro c h E L P n H d;rw[bh (by rfl),show aX 2 [D.ref h,.str n]=[oR h,oS n]from rfl]
 obtain⟨a,m,f⟩:=k c h E L P n H d
 have o:ay "House" "check_kind" b (aa 0) (ab (aa 1) ae) [oR h,oS n] c=.ok .non a:=by
  rw[bx H rfl (by decide)]
  show iA (b [.ref h,.str n] c)=_
  rw[m];rfl
 obtain⟨e,l,p,q,r,w,x,s,t⟩:=(H.keep f).or;obtain⟨j,u,_,i⟩:=t.at (n:=n) (by rw[au];exact d)
 rw[a_ d]at i;have g:=bS i;refine⟨a.length,a++[.lst ((L n).map .str)],?_,aw,f.trans af.app,f.len⟩
 have:(mN (aW .list) (ab (m2 aN Gv (aa 1)) ae)) [oR h,oS n] a=.ok (.ref a.length) (a++[.lst ((L n).map .str)]):=by
  show((((eo ["House"] "lines" (.ref h) a).bind _).bind _).bind _)=_
  rw[vh r,ag]
  show(((aN (.ref l) (.str n) a).bind _).bind _)=_
  rw[gj s u];exact g
 unfold NC;rw[dN o,ao,dJ,this];rfl
end
section
variable{Ω ai:aD}{ρ:aR}{e q j h:Nat}{kvs:List (Key×D)}{E:dz}{P P':Nat->Prop}{n:Str}{r:List Str}{fp:List Nat}{L L':Str->List Str}
theorem iQ{f:Str}{mo mv:EM}{y:D}{k:Nat}{a:List (Str×D)}{aB:aD}(b:mv ρ Ω=.ok y aB)(c:mo ρ aB=.ok (.ref k) aB)(d:aB[k]?=some (.ins "House" a))(e:a.length<1000):eR ["House"] f mo mv ρ Ω=.nx ρ (aB.set k (.ins "House" (oA f y a))):=by
 unfold eR;rw[b,bR,c,bR,pV d];have:((["House"]:List Str).contains "House"&&decide (a.length<1000))=true:=by rw[decide_eq_true e];rfl
 simp only[this,if_true]
def LJ:SM:=
 (aj (eR ["House"] "elders" (aa 0) dP)
 (aj (eR ["House"] "lines" (aa 0) dP)
 ak))
def IW(c:aQ):Prop:=∀(b:aD) (L:Str->List Str) (P:Nat->Prop),∃a,iU "House" c [] b=.ok (.ref b.length) a/\bG P a b.length [] L/\af [] b a
def Fi(c:aQ):Prop:=∀(b:aD) (L:Str->List Str) (P:Nat->Prop),∃e l a,iU "House" c [] b=.ok (.ref b.length) a/\cY P a b.length e l [] L/\af [] b a/\b.length<e/\e<l
theorem Fi.at{f:aQ}(h:Fi f):IW f:=λg L P=>let ⟨e,l,d,a,b,c,_⟩:=h g L P;⟨d,a,b.at,c⟩
theorem IX:Fi (cV 1 1 LJ):=by
 intro b L P;obtain⟨h,i⟩:=cX b (.ins "House" []);have o:(b++[Cell.ins "House" []]).length=b.length+1:=by simp
 unfold iU;generalize b++[Cell.ins "House" []]=a at *;rw[bh (by rfl),show aX 1 [D.ref b.length]=[oR b.length]from rfl]
 have d:(a++[Cell.dK []])[b.length]?=some (.ins "House" []):=dq h;have j:eR ["House"] "elders" (aa 0) dP [oR b.length] a=.nx [oR b.length] ((a++[Cell.dK []]).set b.length (.ins "House" [("elders",.ref a.length)])):=iQ (aB:=a++[.dK []]) rfl rfl d (by simp)
 have k:=aP (e:=.ins "House" [("elders",.ref a.length)]) d;have l:af [b.length] a ((a++[Cell.dK []]).set b.length (.ins "House" [("elders",.ref a.length)])):=af.app.trans (af.set (by simp))
 have d1:((a++[Cell.dK []]).set b.length (.ins "House" [("elders",.ref a.length)]))[a.length]?=some (.dK []):=cS aw (by omega)
 have p:((a++[Cell.dK []]).set b.length (.ins "House" [("elders",.ref a.length)])).length=a.length+1:=by simp
 generalize (a++[Cell.dK []]).set b.length (.ins "House" [("elders",.ref a.length)])=aB at *;have f:(aB++[Cell.dK []])[b.length]?=some (.ins "House" [("elders",.ref a.length)]):=dq k;have m:eR ["House"] "lines" (aa 0) dP [oR b.length] aB=.nx [oR b.length] ((aB++[Cell.dK []]).set b.length (.ins "House" [("elders",.ref a.length),("lines",.ref aB.length)])):=iQ (aB:=aB++[.dK []]) rfl rfl f (by simp)
 have n:=aP (e:=.ins "House" [("elders",.ref a.length),("lines",.ref aB.length)]) f;have g:af [b.length] aB ((aB++[Cell.dK []]).set b.length (.ins "House" [("elders",.ref a.length),("lines",.ref aB.length)])):=af.app.trans (af.set (by simp))
 have d2:((aB++[Cell.dK []]).set b.length (.ins "House" [("elders",.ref a.length),("lines",.ref aB.length)]))[aB.length]?=some (.dK []):=cS aw (by omega)
 generalize (aB++[Cell.dK []]).set b.length (.ins "House" [("elders",.ref a.length),("lines",.ref aB.length)])=c at *;refine⟨a.length,aB.length,c,?_,⟨[],[],n,g.get _ _ d1 (by simp;omega),.nil,d2,.nil⟩,af.new i (l.trans g) (by simp),by omega,by omega⟩
 have:iC (LJ [oR b.length] a)=.ok .non c:=by
  unfold LJ;rw[aH j,ao,m];rfl
 rw[this]
theorem zf{k:Nat}(h:Ω.length<=k):(eu Ω ai)[k]?=ai[k]?:=by
 unfold eu;rw[List.getElem?_mapIdx,List.getElem?_eq_none h];cases ai[k]? with
 |none=>rfl
 |some c=>cases c<;>rfl
theorem rO{k:Nat}{ds:List D}(h:ai[k]?=some (.lst ds)):(eu Ω ai)[k]?=some (.lst ds):=by
 unfold eu;rw[List.getElem?_mapIdx,h];rfl
theorem oJ(b:Ω.length<=ai.length)(d:∀(k:Nat) (c:Cell),Ω[k]?=some c->ai[k]?=some c\/∃kvs,c=Cell.dK kvs/\ai[k]?=some (.dF kvs)):af [] Ω (eu Ω ai):=⟨by unfold eu;rw[List.length_mapIdx];exact b,λk c h _=>by
 unfold eu;rw[List.getElem?_mapIdx,h];rcases d k c h with a|⟨kvs,rfl,a⟩
 .rw[a];cases c<;>rfl
 .rw[a];rfl⟩
theorem wI{e:List (Key×D)}(R:aG P ai e E):aG P (eu Ω ai) e E:=aJ.imp (λ_ _ ⟨a,j,b,c,d⟩=>⟨a,j,b,c,rO d⟩) R
def ND(f:aQ):Prop:=∀(b:aD) (e:Nat) (c:List (Key×D)) (E:dz) (P:Nat->Prop) (L:Str->List Str),b[e]?=some (.dK c)->aG P b c E->Gd E->Fd E L->(∀n∈nms E,(L n).length<=900) ->
 ∃l d a,f [.ref e] b=.ok (.ref l) a/\a[l]?=some (.dK d)/\aG (λj=>b.length<=j) a d (aO (nms E) L)/\af [] b a/\b.length<=l
theorem Cq{i:aQ}(h:IL i):ND (kJ i):=by
 intro j e a E P L m o G p q;obtain⟨l,b,d,r,s,f,K,t,n⟩:=h j e a E P L (.inl m) o G p q;refine⟨l,b,eu j d,by unfold kJ;rw[r],by rw[zf n];exact s,wI f,oJ K.len λk c g=>?_,n⟩
 by_cases z:k=e
 .subst z;rw[m]at g;cases g;exact .inr ⟨a,rfl,t⟩
 .exact .inl (K.get _ _ g (by simpa using z))
def NF(a:aQ):SM:=
 (aj (aA 2 (mN (bg a) (ab (aa 1) ae)))
 (aj (eR ["House"] "elders" (aa 0) (aa 1))
 (aj (eR ["House"] "lines" (aa 0) (aa 2))
 ak)))
def vi(d:aQ):Prop:=∀(a:aD) (h e f g:Nat) (c:List (Key×D)) (E:dz) (P:Nat->Prop) (L:Str->List Str),a[h]?=some (.ins "House" [("elders",.ref f),("lines",.ref g)])->a[e]?=some (.dK c)->aG P a c E->Gd E->Fd E L->(∀n∈nms E,(L n).length<=900)->(∀j,a.length<=j->P j) ->
 ∃l b,d [.ref h,.ref e] a=.ok .non b/\cY P b h e l E L/\af [h] a b/\a.length<=l
theorem IY{k:aQ}(H:ND k):vi (cV 3 2 (NF k)):=by
 intro y h e I d c E P L m n A G J o K;rw[bh (by rfl),show aX 3 [D.ref h,.ref e]=[oR h,oR e,none]from rfl]
 obtain⟨l,p,aB,M,q,r,f,N⟩:=H y e c E P L n A G J o;have s:h≠e:=λz=>by rw[z,n]at m;cases m
 have t:=f.g n;have i:=f.g m;have u:=A.keep f (by simp)
 have w:l≠h:=λz=>by rw[z,i]at q;cases q
 have O:eR ["House"] "elders" (aa 0) (aa 1) [oR h,oR e,oR l] aB=.nx [oR h,oR e,oR l] (aB.set h (.ins "House" [("elders",.ref e),("lines",.ref d)])):=iQ (aB:=aB) rfl rfl i (by simp)
 have B:=aP (e:=.ins "House" [("elders",.ref e),("lines",.ref d)]) i;have Q:af [h] aB (aB.set h (.ins "House" [("elders",.ref e),("lines",.ref d)])):=af.set (by simp)
 generalize aB.set h (.ins "House" [("elders",.ref e),("lines",.ref d)])=a at *;have R:eR ["House"] "lines" (aa 0) (aa 2) [oR h,oR e,oR l] a=.nx [oR h,oR e,oR l] (a.set h (.ins "House" [("elders",.ref e),("lines",.ref l)])):=iQ (aB:=a) rfl rfl B (by simp)
 have S:=aP (e:=.ins "House" [("elders",.ref e),("lines",.ref l)]) B;have T:af [h] a (a.set h (.ins "House" [("elders",.ref e),("lines",.ref l)])):=af.set (by simp)
 generalize a.set h (.ins "House" [("elders",.ref e),("lines",.ref l)])=x at *;have b:=Q.trans T;have C:∀j∈[h],∀F,aB[j]?≠some (.lst F):=λj U F=>by rw[List.mem_singleton.mp U,i];simp
 refine⟨l,x,?_,⟨c,p,S,b.get _ _ t (by simpa using Ne.symm s),u.bD b C,b.get _ _ q (by simpa using w),(r.imp K).bD b C⟩,(f.sub (by simp)).trans (b.sub (by simp)),N⟩
 unfold NF;have V:(aA 2 (mN (bg k) (ab (aa 1) ae))) [oR h,oR e,none] y=.nx [oR h,oR e,oR l] aB:=by simp[M]
 rw[aH V,aH O,ao,R];rfl
def IZ:EM:=(mN ip (ab (aa 0) (ab (AU (m2 (aF .Eq) (aa 0) (aa 2)) (mN (aW .list) (ab (aa 1) ae)) (m2 aN (m1 (eo ["House"] "elders") (aa 3)) (aa 0))) ae)))
def NG:EM:=(mN gT (ab (bF IZ true (ah .non) (aZ (aa 4)) 0 [2,1,0]) ae))
def NI:EM:=(dG kH eZ (aa 4) (ab (AU (m2 (aF .Is) (aa 3) (ah .non)) (mN (aW .len) (ab (aa 4) ae)) (aa 3)) (ab (aa 1) ae)))
def NJ(a CE b c:aQ):SM:=
 (aj (e_ (iT (mN (bg a) (ab (aa 1) ae)))
 (aj cR
 ak)
 ak)
 (aj (e_ (m2 (aF .In) (aa 1) fe)
 (aj cR
 ak)
 ak)
 (aj (e_ (m2 (aF .GtE) (mN (aW .len) (ab fe ae)) (ah (.int 12)))
 (aj cR
 ak)
 ak)
 (aj (bA (ay "House" "check_elders" CE (aa 0) (ab (aa 2) ae)))
 (aj (aA 4 (ay "House" "kinds" b (aa 0) ae))
 (aj (bA NI)
 (aj (bA (ay "House" "settle" c (aa 0) (ab NG ae)))
 ak)))))))
noncomputable def gm(E:dz)(p:Nat)(x:Str×List Str):dz:=E.take p++x::E.drop p
theorem eT{x:Str×List Str}:gm E E.length x=E++[x]:=by simp[gm]
theorem vj{p:Nat}{x:Str×List Str}:nms (gm E p x)=(nms E).take p++x.1::(nms E).drop p:=by simp[nms,gm]
theorem vk{a:Type}{xs:List a}{x:a}{p:Nat}(b:p<=xs.length):ph xs p x=xs.take p++x::xs.drop p:=by
 unfold ph;rw[HT.jx,Nat.min_eq_left b]
theorem vl{i:Nat}{p:Str×List Str}(b:(nms E).Nodup)(h:E[i]?=some p):bc E p.1=p.2:=by
 have d:p.1∈nms E:=List.mem_map.mpr ⟨p,List.mem_of_getElem? h,rfl⟩;obtain⟨e,a⟩:=List.mem_iff_getElem?.mp (pX (jn d));have f:(nms E)[e]?=some p.1:=by simp[nms,a]
 have g:(nms E)[i]?=some p.1:=by simp[nms,h]
 have c:=(List.getElem?_eq_some_iff.mp a).1;have:=(List.getElem?_inj (by simp[nms];exact c) b).mp (f.trans g.symm)
 subst this;rw[h]at a;exact(congrArg (·.2) (Option.some.inj a)).symm
theorem Fj{a k:Nat}{a3:Option D}{o:dz}(H:bG P Ω h E L)(ha:Ω[a]?=some (.lst (r.map .str)))(hk:Ω[k]?=some (.lst ((nms o).map .str)))(hE:∀p∈o,(p.1=n/\p.2=r)\/(p.1≠n/\p.1∈nms E/\p.2=bc E p.1))(V:(nms o).Nodup)(hl:o.length<=200)(hP:∀j,Ω.length<=j->P j) :
  ∃q B ai,NG [oR h,oS n,oR a,a3,oR k] Ω=.ok (.ref q) ai/\ai[q]?=some (.dK B)/\aG P ai B o/\af [] Ω ai/\Ω.length<=q:=by
 have X:aZ (aa 4) [oR h,oS n,oR a,a3,oR k] Ω=.ok (.seq (.ref k)) Ω:=fO rfl hk
 obtain⟨ys,s,e1,m,rfl,J,K1⟩:=iP (ρ:=[oR h,oS n,oR a,a3,oR k]) (me:=IZ) (mc:=ah .non) (cap:=[2,1,0]) (ds:=(nms o).map .str) (λi C c=>∃m:List (Str×D),C=m.map (λp=>.tup [.str p.1,p.2])/\aG P c (m.map λp=>(.inr p.1,p.2)) (o.take i)/\af [] Ω c) X ⟨[],rfl,.nil,af.refl⟩
  (λi C c h=>by
   obtain⟨_,_,_,K⟩:=h;rw[bu,aI,az (K.g hk)])
  (λi d C c Y hI=>by
   obtain⟨m,rfl,J,K⟩:=hI;obtain⟨x,Z,rfl⟩:=eD Y
   obtain⟨p,Q,F⟩:∃p,o[i]?=some p/\p.1=x:=by
    unfold nms at Z;rw[List.getElem?_map]at Z;exact Option.map_eq_some_iff.mp Z
   obtain⟨e,l,B,g0,q1,q2,q3,q4,q5⟩:=(H.keep K).or;have a0:=K.g ha
   show ∃y ai,IZ [oS x,oR a,oS n,oR h] c=.ok y ai/\_
   have M:∀(j:Nat) (t:aD),P j->t[j]?=some (.lst (p.2.map .str))->af [] c t->∃u:List (Str×D),(m.map (λp=>D.tup [.str p.1,p.2])++[.tup [.str x,.ref j]])=u.map (λp=>.tup [.str p.1,p.2])/\aG P t (u.map λp=>(.inr p.1,p.2)) (o.take (i+1))/\af [] Ω t:=by
    intro j t G S K3;refine⟨m++[(x,.ref j)],by simp,?_,K.trans K3⟩
    rw[List.take_succ,Q,List.map_append];exact aJ.append (R:=λ(kv:Key×D) (p:Str×List Str)=>kv.1=.inr p.1/\∃j,kv.2=.ref j/\P j/\t[j]?=some (.lst (p.2.map .str))) (J.keep K3 (by simp)) (.cons ⟨by rw[F],j,rfl,G,S⟩ .nil)
   have T:(m2 (aF .Eq) (aa 0) (aa 2)) [oS x,oR a,oS n,oR h] c=.ok (.bl (decide (x=n))) c:=by
    show aF .Eq (.str x) (.str n) c=_
    simp
    by_cases z:x=n<;>simp[z]
   rcases hE p (List.mem_of_getElem? Q)with ⟨w,A⟩|⟨w,A,N⟩
   .have b0:x=n:=F.symm.trans w
    rw[decide_eq_true b0]at T;have c0:=bS a0;obtain⟨u,z1,z2,z3⟩:=M c.length (c++[.lst (r.map .str)]) (hP _ K.len) (by rw[A];exact aw) af.app
    refine⟨.tup [.str x,.ref c.length],c++[.lst (r.map .str)],?_,u,z1,z2,z3⟩;have I:(mN (aW .list) (ab (aa 1) ae)) [oS x,oR a,oS n,oR h] c=.ok (.ref c.length) (c++[.lst (r.map .str)]):=c0;unfold IZ;rw[bX,aC];have:aa 0 [oS x,oR a,oS n,oR h] c=.ok (.str x) c:=rfl;rw[this,ag,aC,m9,T,dn,cO,dI,ag,if_pos rfl,I,ag,aL,ag,ag,ag,jR,if_pos (aK (by simp))]
   .rw[F]at w A N
    rw[decide_eq_false w]at T;obtain⟨j,hv,G,S⟩:=q3.at A;rw[←N]at S;obtain⟨u,z1,z2,z3⟩:=M j c G S af.refl;refine⟨.tup [.str x,.ref j],c,?_,u,z1,z2,z3⟩
    have I:(m2 aN (m1 (eo ["House"] "elders") (aa 3)) (aa 0)) [oS x,oR a,oS n,oR h] c=.ok (.ref j) c:=by
     show((eo ["House"] "elders" (.ref h) c).bind _)=_
     rw[i5 q1,ag];exact gj q2 hv
    unfold IZ;rw[bX,aC];have:aa 0 [oS x,oR a,oS n,oR h] c=.ok (.str x) c:=rfl;rw[this,ag,aC,m9,T,dn,cO,dI,ag,if_neg (by simp),I,ag,aL,ag,ag,ag,jR,if_pos (aK (by simp))]) (by simp[nms];omega)
 have O:((nms o).map D.str).length=o.length:=by simp[nms]
 rw[O,List.take_length]at J
 have e0:m.map (·.1)=nms o:=by
  have:=J.keys;rw[List.map_map]at this
  have U:(m.map (D.str ∘ (·.1)))=(nms o).map D.str:=by
   rw[←this];rfl
  rw[←List.map_map]at U;exact(List.map_inj_right (λa b z=>by cases z;rfl)).mp U
 have g2:(s++[Cell.lst (m.map λp=>.tup [.str p.1,p.2])])[s.length]?=some (.lst (m.map λp=>.tup [.str p.1,p.2])):=aw
 have K2:af [] Ω (s++[Cell.lst (m.map λp=>.tup [.str p.1,p.2])]):=K1.trans af.app
 have U:aG P (s++[Cell.lst (m.map λp=>.tup [.str p.1,p.2])]) (m.map λp=>(.inr p.1,p.2)) o:=J.keep (fp:=[]) af.app (by simp)
 generalize s++[Cell.lst (m.map λp=>.tup [.str p.1,p.2])]=c at *
 have Q:bJ mM (m.map λp=>D.tup [.str p.1,p.2])=some (m.map λp=>(.inr p.1,p.2)):=kk (f:=mM) (g:=λp:Str×D=>D.tup [.str p.1,p.2]) (h:=λp=>(.inr p.1,p.2)) (λn=>rfl) m
 have hf:=ko (m.map λp=>((.inr p.1:Key),p.2)) [] (by
  rw[List.nil_append,List.map_map];have:(m.map ((λp:Key×D=>p.1) ∘ λp=>((.inr p.1:Key),p.2)))=(m.map (·.1)).map Sum.inr:=by rw[List.map_map];rfl
  rw[this,e0];exact List.Pairwise.map _ (λa b f0 z=>f0 (by cases z;rfl)) V)
 rw[List.nil_append]at hf;refine⟨c.length,_,c++[.dK (m.map λp=>(.inr p.1,p.2))],?_,aw,U.keep (fp:=[]) af.app (by simp),K2.trans af.app,K2.len⟩
 unfold NG;rw[bX,aC,e1,ag,aL,ag,ag]
 show jg (iv [.ref s.length] c) _=_
 simp only[iv,az g2,Q,hf];rfl
def wJ(g:aQ):Prop:=∀(c:aD) (h a:Nat) (E:dz) (L f:Str->List Str) (P:Nat->Prop) (n:Str) (r:List Str) (p:Nat) (d:D),bG P c h E L->c[a]?=some (.lst (r.map .str))->nS n->n∉nms E->E.length<12->r.Nodup->r.length<=5->(∀x∈r,x∈nms E)->p<=E.length->(d=.int p\/d=.non/\p=E.length) ->
 Gd (gm E p (n,r))->Fd (gm E p (n,r)) f->(∀m∈nms (gm E p (n,r)),(f m).length<=900)->(∀j,c.length<=j->P j)->∃e l b,g [.ref h,.str n,.ref a,d] c=.ok .non b/\cY P b h e l (gm E p (n,r)) f/\af [h] c b/\c.length<=e/\e<l
theorem I_{Q CE R ST:aQ}(hI:Fg Q)(hC:Cp CE)(hK:k6 R)(hS:vi ST):wJ (cV 5 4 (NJ Q CE R ST)):=by
 intro S h a E L L' P n r p d H T hv U hl V X Y hp Z G hL a0 hP;rw[bh (by rfl),show aX 5 [D.ref h,.str n,.ref a,d]=[oR h,oS n,oR a,some d,none]from rfl]
 have f:=G.nd
 have s:(nms E).Nodup:=by
  rw[vj]at f;have h3:=List.nodup_append.mp f;have:=List.take_append_drop p (nms E);rw[←this];refine List.nodup_append.mpr ⟨h3.1,(List.nodup_cons.mp h3.2.1).2,λx hx y hy=>h3.2.2 x hx y (List.mem_cons_of_mem _ hy)⟩
 obtain⟨c,e1,B⟩:=hI S n hv;have r1:(e_ (iT (mN (bg Q) (ab (aa 1) ae))) (aj cR ak) ak) [oR h,oS n,oR a,some d,none] S=.nx [oR h,oS n,oR a,some d,none] c:=by simp[e1]
 have C:=H.keep B
 have r2:(e_ (m2 (aF .In) (aa 1) fe) (aj cR ak) ak) [oR h,oS n,oR a,some d,none] c=.nx [oR h,oS n,oR a,some d,none] c:=by
  obtain⟨e,l,m,b0,F,M,N,q4,q5⟩:=C.or;have I:=E8 (n:=n) M;rw[N.is,decide_eq_false U]at I;rw[dj,dm]
  show bK (cw ((eo ["House"] "elders" (.ref h) c).bind _)) _=_
  rw[i5 F,ag,I];rfl
 have r3:(e_ (m2 (aF .GtE) (mN (aW .len) (ab fe ae)) (ah (.int 12))) (aj cR ak) ak) [oR h,oS n,oR a,some d,none] c=.nx [oR h,oS n,oR a,some d,none] c:=by
  obtain⟨e,l,m,b0,F,M,N,q4,q5⟩:=C.or;have t:=IF M;have p0:=N.len
  have c0:(mN (aW .len) (ab fe ae)) [oR h,oS n,oR a,some d,none] c=.ok (.int m.length) c:=by
   show(((eo ["House"] "elders" (.ref h) c).bind _).bind _)=_
   rw[i5 F,ag];exact t
  have hc:aF .GtE (.int m.length) (.int 12) c=.ok (.bl false) c:=by
   simp[ez];omega
  rw[dj,dm,c0,ag,jP,ag,hc];rfl
 obtain⟨u,e2,O⟩:=hC c h a E L P r C (B.g T) V X Y
 have r4:(bA (ay "House" "check_elders" CE (aa 0) (ab (aa 2) ae))) [oR h,oS n,oR a,some d,none] c=.nx [oR h,oS n,oR a,some d,none] u:=by
  rw[bL,bx C rfl (by decide)]
  show bK (iA (CE [.ref h,.ref a] c)) _=_
  rw[e2];rfl
 have H2:=C.keep O;obtain⟨k,b,e3,A,K3,l3⟩:=hK u h E L P H2
 have r5:(aA 4 (ay "House" "kinds" R (aa 0) ae)) [oR h,oS n,oR a,some d,none] u=.nx [oR h,oS n,oR a,some d,oR k] b:=by
  rw[aU,bx H2 rfl (by decide),aL,ag,e3]
  rfl
 have H3:bG (λj=>P j/\j≠k) b h E L:=(H2.lt.keep K3).imp λj o=>⟨o.1,by omega⟩
 have J:=(B.trans O).trans K3;have e0:=J.g T;have f0:a≠k:=by have:=aS (O.g (B.g T));omega
 have g0:(nms E).length=E.length:=by simp[nms]
 have r6:(bA NI) [oR h,oS n,oR a,some d,oR k] b=.nx [oR h,oS n,oR a,some d,oR k] (b.set k (.lst ((nms (gm E p (n,r))).map .str))):=by
  have hL:=dr A;have t:=gM A
  have h0:eZ (.ref k) [.int p,.str n] b=.ok .non (b.set k (.lst ((nms (gm E p (n,r))).map .str))):=by
   simp only[eZ,gJ A];rw[if_pos,vk (by simp[nms];omega),vj]
   .simp
   .rw[aK (by simp[nms];omega),ff (by omega) (by omega)];rfl
  unfold NI;rw[bL,dw (x:=.ref k) (ai:=b) rfl hL]
  have i0:(ab (AU (m2 (aF .Is) (aa 3) (ah .non)) (mN (aW .len) (ab (aa 4) ae)) (aa 3)) (ab (aa 1) ae):AM) [oR h,oS n,oR a,some d,oR k] b=.ok [.int p,.str n] b:=by
   rcases Z with rfl|⟨rfl,rfl⟩
   .have:(m2 (aF .Is) (aa 3) (ah .non)) [oR h,oS n,oR a,some (.int p),oR k] b=.ok (.bl false) b:=rfl
    rw[aC,m9,this,dn,cO,dI,ag,if_neg (by simp)]
    rfl
   .have:(m2 (aF .Is) (aa 3) (ah .non)) [oR h,oS n,oR a,some .non,oR k] b=.ok (.bl true) b:=rfl
    rw[aC,m9,this,dn,cO,dI,ag,if_pos rfl];have:(mN (aW .len) (ab (aa 4) ae)) [oR h,oS n,oR a,some .non,oR k] b=.ok (.int ((nms E).map D.str).length) b:=t;rw[this,List.length_map,g0];rfl
  rw[i0,ag,h0];rfl
 have K4:af [k] b (b.set k (.lst ((nms (gm E p (n,r))).map .str))):=af.set (by simp)
 have g4:=aP (e:=.lst ((nms (gm E p (n,r))).map .str)) A;have H4:bG P (b.set k (.lst ((nms (gm E p (n,r))).map .str))) h E L:=(H3.Ds K4 A (by simp)).imp λj o=>o.1
 have j0:=K4.get _ _ e0 (by simpa using f0)
 have lk:=aS A;generalize b.set k (.lst ((nms (gm E p (n,r))).map .str))=k0 at *
 have w:af [] S k0:=af.new J K4 (λj o=>by
  rw[List.mem_singleton.mp o];have:=(B.trans O).len;omega)
 obtain⟨q,m,l0,e5,g5,h5,K5,l5⟩:=Fj (a3:=some d) (n:=n) (r:=r) H4 j0 g4 (λx hx=>by
  unfold gm at hx;rcases List.mem_append.mp hx with hx|hx
  .have hx:=List.mem_of_mem_take hx
   obtain⟨i,hi⟩:=List.mem_iff_getElem?.mp hx;exact .inr ⟨λz=>U (z▸List.mem_map.mpr ⟨x,hx,rfl⟩),List.mem_map.mpr ⟨x,hx,rfl⟩,(vl s hi).symm⟩
  .rcases List.mem_cons.mp hx with rfl|hx
   .exact .inl ⟨rfl,rfl⟩
   .have hx:=List.mem_of_mem_drop hx
    obtain⟨i,hi⟩:=List.mem_iff_getElem?.mp hx;exact .inr ⟨λz=>U (z▸List.mem_map.mpr ⟨x,hx,rfl⟩),List.mem_map.mpr ⟨x,hx,rfl⟩,(vl s hi).symm⟩) f (by unfold gm;simp;omega) (λj o=>hP j (Nat.le_trans w.len o))
 obtain⟨e,l,n0,o0,F,M,N,q4,q5⟩:=H4.keep K5;have K:=w.trans K5;obtain⟨l',m0,e6,H6,K6,l6⟩:=hS l0 h q e l m (gm E p (n,r)) P L' F g5 h5 G hL a0 (λj o=>hP j (Nat.le_trans K.len o))
 refine⟨q,l',m0,?_,H6,(K.sub (by simp)).trans K6,Nat.le_trans w.len l5,by have:=aS g5;omega⟩
 unfold NJ;rw[aH r1,aH r2,aH r3,aH r4,aH r5,aH r6,ao,bL,bx H4 rfl (by decide),aC,e5,ag,aL,ag,ag,e6]
 rfl
def NK(a:aQ):SM:=
 (aj (aA 1 (mN (iU "House" a) ae))
 (aj (eR ["House"] "elders" (aa 1) (mN gT (ab fe ae)))
 (aj (eR ["House"] "lines" (aa 1) (mN gT (ab Gv ae)))
 (aj (bT (aa 1))
 ak))))
def Ja(c:aQ):Prop:=∀(b:aD) (h:Nat) (E:dz) (L:Str->List Str) (P:Nat->Prop),bG P b h E L->∃k e l a,c [.ref h] b=.ok (.ref k) a/\cY P a k e l E L/\af [] b a/\b.length<=k/\b.length<=e/\e<l
theorem Jb{q:aQ}(M:IW q):Ja (cV 2 1 (NK q)):=by
 intro b h E L P H;rw[bh (by rfl),show aX 2 [D.ref h]=[oR h,none]from rfl]
 obtain⟨aB,N,O,r⟩:=M b L P;obtain⟨e,l,c,d,I,J,Q,K,R⟩:=(H.keep r).or;obtain⟨et,f,_,_,i,_,_,_,_⟩:=O
 have lh:h<b.length:=by
  obtain⟨_,_,_,_,z,_⟩:=H;exact aS z
 have d1:=tS J;obtain⟨S,s⟩:=cX aB (.dK c)
 have T:eR ["House"] "elders" (aa 1) (mN gT (ab fe ae)) [oR h,oR b.length] aB=.nx [oR h,oR b.length] ((aB++[Cell.dK c]).set b.length (.ins "House" [("elders",.ref aB.length),("lines",.ref f)])):=by
  refine iQ (aB:=aB++[Cell.dK c]) (y:=.ref aB.length) ?_ rfl (s.g i) (by simp)
  show(((eo ["House"] "elders" (.ref h) aB).bind _).bind _)=_
  rw[i5 I,ag];exact d1
 have k:af [b.length] aB ((aB++[Cell.dK c]).set b.length (.ins "House" [("elders",.ref aB.length),("lines",.ref f)])):=(ew.up s).trans (af.set (by simp))
 have t:=aP (e:=.ins "House" [("elders",.ref aB.length),("lines",.ref f)]) (s.g i);have U:=aS i;have V:((aB++[Cell.dK c]).set b.length (.ins "House" [("elders",.ref aB.length),("lines",.ref f)]))[aB.length]?=some (.dK c):=cS S (by omega)
 have l3:((aB++[Cell.dK c]).set b.length (.ins "House" [("elders",.ref aB.length),("lines",.ref f)])).length=aB.length+1:=by simp
 generalize (aB++[Cell.dK c]).set b.length (.ins "House" [("elders",.ref aB.length),("lines",.ref f)])=a at *;have m:∀j∈[b.length],∀n,aB[j]?≠some (.lst n):=λj u n=>by rw[List.mem_singleton.mp u,i];simp
 have X:e≠b.length:=λz=>J.ni _ _ (z▸i)
 have w:l≠b.length:=λz=>K.ni _ _ (z▸i)
 have x:=k.get _ _ I (by simp;omega)
 have A:=K.keep k (by simpa using w)
 have B:=Q.bD k m;have C:=R.bD k m;have d2:=tS A;obtain⟨Y,F⟩:=cX a (.dK d)
 have Z:eR ["House"] "lines" (aa 1) (mN gT (ab Gv ae)) [oR h,oR b.length] a=.nx [oR h,oR b.length] ((a++[Cell.dK d]).set b.length (.ins "House" [("elders",.ref aB.length),("lines",.ref a.length)])):=by
  refine iQ (aB:=a++[Cell.dK d]) (y:=.ref a.length) ?_ rfl (F.g t) (by simp)
  show(((eo ["House"] "lines" (.ref h) a).bind _).bind _)=_
  rw[vh x,ag];exact d2
 have p:af [b.length] a ((a++[Cell.dK d]).set b.length (.ins "House" [("elders",.ref aB.length),("lines",.ref a.length)])):=(ew.up F).trans (af.set (by simp))
 have t5:=aP (e:=.ins "House" [("elders",.ref aB.length),("lines",.ref a.length)]) (F.g t);have g5:((a++[Cell.dK d]).set b.length (.ins "House" [("elders",.ref aB.length),("lines",.ref a.length)]))[a.length]?=some (.dK d):=cS Y (by omega)
 generalize (a++[Cell.dK d]).set b.length (.ins "House" [("elders",.ref aB.length),("lines",.ref a.length)])=G at *;have o:∀j∈[b.length],∀n,a[j]?≠some (.lst n):=λj u n=>by rw[List.mem_singleton.mp u,t];simp
 refine⟨b.length,aB.length,a.length,G,?_,⟨c,d,t5,p.get _ _ V (by simp;omega),B.bD p o,g5,C.bD p o⟩,af.new r (k.trans p) (by simp),Nat.le_refl _,r.len,by omega⟩
 unfold NK
 have r0:(aA 1 (mN (iU "House" q) ae)) [oR h,none] b=.nx [oR h,oR b.length] aB:=by
  rw[aU,bX,aL,ag,N];rfl
 rw[aH r0,aH T,aH Z,ao];rfl
end
noncomputable def ne(rs:List (List Str)):List (List Str):=rs.filter λr=>decide (r≠[])
theorem nv{rs:List (List Str)}{r:List Str}:r∈ne rs↔r∈rs/\r≠[]:=by unfold ne;simp
theorem wK{rs:List (List Str)}{a:List Str}:freeOf (ne rs) a=freeOf rs a:=by
 cases a with
 |nil=>rfl
 |cons m t=>
  by_cases h:∃r∈rs,m∈r.tail
  .obtain⟨r,c,b⟩:=h
   rw[d_ ⟨r,c,b⟩,d_ ⟨r,nv.mpr ⟨c,λz=>by rw[z]at b;simp at b⟩,b⟩]
  .rw[ed h,ed]
   rintro⟨r,c,b⟩;exact h ⟨r,(nv.mp c).1,b⟩
theorem Cr{rs:List (List Str)}:free (ne rs)=free rs:=by
 unfold free
 have:∀b:List (List Str),(ne b).findSome? (freeOf (ne rs))=b.findSome? (freeOf rs):=by
  intro b
  induction b with
  |nil=>rfl
  |cons a b c=>
   by_cases d:a=[]
   .subst d
    have:ne ([]::b)=ne b:=by simp[ne]
    rw[this,c,List.findSome?_cons];rfl
   .have:ne (a::b)=a::ne b:=by simp[ne,d]
    rw[this,List.findSome?_cons,List.findSome?_cons,c,wK]
 exact this rs
theorem rP{n:Str}{r:List Str}(h:n∉r.tail):r.filter (λx=>decide (x≠n))=cv n r:=by
 unfold cv;cases r with
 |nil=>simp
 |cons a t=>
  have c:t.filter (λx=>decide (x≠n))=t:=List.filter_eq_self.mpr λx d=>decide_eq_true λz=>h (z▸d)
  by_cases b:a=n
  .subst b
   rw[List.filter_cons,if_neg (by simp),c,if_pos (by simp)]
   rfl
  .rw[List.filter_cons,if_pos (by simp[b]),c,if_neg (by simp[b])]
theorem Ct{n:Str}{rs:List (List Str)}:ne ((ne rs).map (cv n))=ne (rs.map (cv n)):=by
 unfold ne
 induction rs with
 |nil=>rfl
 |cons a rs b=>
  by_cases c:a=[]
  .subst c
   have:cv n ([]:List Str)=[]:=by unfold cv;simp
   simp only[List.filter_cons,ne_eq,not_true_eq_false,decide_false,List.map_cons,this]at b ⊢;exact b
  .simp only[List.filter_cons,c,ne_eq,not_false_eq_true,decide_true,if_true,List.map_cons]
   rw[b]
theorem wL{rs:List (List Str)}{n:Str}(h:free rs=some n):∀r∈rs,n∉r.tail:=by
 unfold free at h;obtain⟨b,d,a⟩:=List.exists_of_findSome?_eq_some h;cases b with
 |nil=>cases a
 |cons m t=>
  by_cases c:∃r∈rs,m∈r.tail
  .rw[d_ c]at a;cases a
  .rw[ed c]at a
   cases a;exact λr d e=>c ⟨r,d,e⟩
theorem oK{rs:List (List Str)}{n:Str}(h:free rs=some n):∃t,(n::t)∈rs:=by
 unfold free at h;obtain⟨b,d,a⟩:=List.exists_of_findSome?_eq_some h;cases b with
 |nil=>cases a
 |cons m t=>
  by_cases c:∃r∈rs,m∈r.tail
  .rw[d_ c]at a;cases a
  .rw[ed c]at a
   cases a;exact⟨t,d⟩
noncomputable def tl(rs:List (List Str)):Nat:=(rs.map List.length).sum
theorem Cu{rs:List (List Str)}{n:Str}(h:∃t,(n::t)∈rs):tl (rs.map (cv n))<tl rs:=by
 obtain⟨t,e⟩:=h
 have b:∀r:List Str,(cv n r).length<=r.length:=λr=>by
  unfold cv;split
  .simp
  .exact Nat.le_refl _
 have f:∀c:List (List Str),tl (c.map (cv n))<=tl c:=by
  intro c
  induction c with
  |nil=>exact Nat.le_refl _
  |cons a c d=>
   unfold tl at d ⊢;simp only[List.map_cons,List.sum_cons];have:=b a;omega
 induction rs with
 |nil=>simp at e
 |cons a rs d=>
  unfold tl at f d ⊢;simp only[List.map_cons,List.sum_cons];rcases List.mem_cons.mp e with z|z
  .subst z
   have g:=f rs;have:(cv n (n::t)).length<(n::t).length:=by unfold cv;simp
   omega
  .have g:=d z
   have:=b a;omega
section
variable{Ω ai:aD}{ρ:aR}{k q b:Nat}{js:List Nat}{rs:List (List Str)}{row:List Str}{n:Str}{told:List Str}
theorem Fl{nc:Bool}{mc me:EM}{τ:aR}{src:Src}{ds:List D}(I:Nat->List D->aD->Prop)(l:∀i a Ω,I i a Ω->en src Ω=some ds)
  (m:∀i d a Ω,ds[i]?=some d->I i a Ω->(∃ai,hG nc mc ([some d]++τ) Ω=.ok false ai/\I (i+1) a ai)\/∃aB y ai,hG nc mc ([some d]++τ) Ω=.ok true aB/\me ([some d]++τ) aB=.ok y ai/\I (i+1) (a++[y]) ai) :
  ∀(f i:Nat) (a:List D) Ω,I i a Ω->ds.length - i<f->i<=ds.length->a.length+ds.length<=100000+i->∃ys ai,qm nc mc me 0 τ src f i a Ω=.ok ys ai/\I ds.length ys ai:=by
 intro f
 induction f with
 |zero=>intro i a Ω c o;omega
 |succ f k=>
  intro i a Ω c o r s;simp only[qm,l i a Ω c]
  by_cases b:i<ds.length
  .have e:ds[i]?=some ds[i]:=List.getElem?_eq_getElem b
   rw[e];have p:mR 0 ds[i]=some [some ds[i]]:=rfl;simp only[p];rw[if_pos (aK (n:=a.length+1) (by omega))]
   rcases m i ds[i] a Ω e c with ⟨aB,g,h⟩|⟨aB,y,j,g,q,h⟩
   .rw[g]
    dsimp only;exact k (i+1) a aB h (by omega) b (by omega)
   .rw[g]
    dsimp only;rw[q];dsimp only;exact k (i+1) (a++[y]) j h (by omega) b (by rw[List.length_append];simp;omega)
  .have e:ds[i]?=none:=List.getElem?_eq_none (by omega)
   rw[e];have:i=ds.length:=by omega
   subst this;exact⟨a,Ω,rfl,c⟩
theorem vm{nc:Bool}{me mc:EM}{mi:IM}{cap:List Nat}{src:Src}{ds:List D}(I:Nat->List D->aD->Prop)(c:mi ρ Ω=.ok src ai)(e:I 0 [] ai)(f:∀i a Ω,I i a Ω->en src Ω=some ds)
  (g:∀i d a Ω,ds[i]?=some d->I i a Ω->(∃ai,hG nc mc ([some d]++dH cap ρ) Ω=.ok false ai/\I (i+1) a ai)\/∃aB y ai,hG nc mc ([some d]++dH cap ρ) Ω=.ok true aB/\me ([some d]++dH cap ρ) aB=.ok y ai/\I (i+1) (a++[y]) ai) (k:ds.length<=90000) :
  ∃ys b,bF me nc mc mi 0 cap ρ Ω=.ok (.ref b.length) (b++[.lst ys])/\I ds.length ys b:=by
 obtain⟨ys,b,h,j⟩:=Fl I f g fuel 0 [] ai e (by unfold fuel;omega) (Nat.zero_le _) (by simp;omega)
 refine⟨ys,b,?_,j⟩;unfold bF;rw[c];dsimp only;rw[h];rfl
theorem oM{nc:Bool}{me mc:EM}{mi:IM}{cap:List Nat}{f:List Str->List Str}{p:List Str->Bool}{P:Nat->Prop}(A:mi ρ Ω=.ok (.seq (.ref k)) Ω)(R:Rw Ω k js rs)(J:rs.length<=1000)
  (B:∀j c aB,af [] Ω aB->j∈js->c∈rs->aB[j]?=some (.lst (c.map .str))->∃a,hG nc mc ([oR j]++dH cap ρ) aB=.ok (p c) a/\af [] aB a)
  (C:∀j c aB,af [] Ω aB->j∈js->c∈rs->aB[j]?=some (.lst (c.map .str))->∃n a,me ([oR j]++dH cap ρ) aB=.ok (.ref n) a/\af [] aB a/\a[n]?=some (.lst ((f c).map .str))/\P n) :
  ∃b a,bF me nc mc mi 0 cap ρ Ω=.ok (.ref a.length) (a++[.lst (b.map .ref)])/\af [] Ω a/\jX a b ((rs.filter p).map f)/\∀j∈b,P j:=by
 have D:=R.len
 obtain⟨L,a,e,b,rfl,q,E,r⟩:=vm (nc:=nc) (me:=me) (mc:=mc) (cap:=cap) (ds:=js.map .ref) (λi m a=>∃b,m=b.map .ref/\jX a b (((rs.take i).filter p).map f)/\af [] Ω a/\∀j∈b,P j) A ⟨[],rfl,.nil,af.refl,by simp⟩
  (λi m a h=>by
   obtain⟨_,_,_,K,_⟩:=h;rw[bu,aI,az (R.keep K).ce])
  (λi d m aB F h=>by
   obtain⟨b,rfl,q,K,r⟩:=h;obtain⟨j,u,rfl⟩:=kn F;obtain⟨c,s,l⟩:=(R.keep K).al.at' u;obtain⟨a,y,o⟩:=B j c aB K (List.mem_of_getElem? u) (List.mem_of_getElem? s) l;cases t:p c with
   |false=>
    refine .inl ⟨a,by rw[y,t],b,rfl,?_,K.trans o,r⟩
    rw[List.take_succ,s,List.filter_append];simp[t];exact q.keep o (by simp)
   |true=>
    obtain⟨n,w,e,z,G,H⟩:=C j c a (K.trans o) (List.mem_of_getElem? u) (List.mem_of_getElem? s) (o.g l);refine .inr ⟨a,.ref n,w,by rw[y,t],e,b++[n],by simp,?_,(K.trans o).trans z,?_⟩
    .rw[List.take_succ,s,List.filter_append,List.map_append]
     simp only[Option.toList_some,List.filter_cons,t,List.filter_nil,if_true,List.map_cons,List.map_nil];exact((q.keep o (by simp)).keep z (by simp)).snoc G
    .intro x I
     rcases List.mem_append.mp I with h|h
     .exact r x h
     .rw[List.mem_singleton.mp h];exact H) (by simp;omega)
 refine⟨b,a,e,E,?_,r⟩;rw[List.length_map,←D,List.take_length]at q;exact q
theorem ne_nil{j:Nat}{i:Nat}(a:ρ[i]?=some (oR j))(h:Ω[j]?=some (.lst (row.map .str))):∃ai,m2 (aF .NotEq) (aa i) (mN aY ae) ρ Ω=.ok (.bl (decide (row≠[]))) ai/\af [] Ω ai:=by
 refine⟨Ω++[.lst []],?_,af.app⟩;have e:(mN aY ae) ρ Ω=.ok (.ref Ω.length) (Ω++[.lst []]):=by rw[bX,aL,ag,eH,if_pos (aK (by simp))]
 have g:(Ω++[Cell.lst []])[Ω.length]?=some (.lst (([]:List Str).map .str)):=aw;rw[dm,de,a,dc,ag,e,ag,ve (dq h) g]
 congr 2
 by_cases z:row=[]<;>simp[z]
theorem Cv{i:Nat}(b:ρ[i]?=some (oR k))(R:Rw Ω k js rs):∃ai,m2 (aF .NotEq) (aa i) (mN aY ae) ρ Ω=.ok (.bl (decide (rs≠[]))) ai/\af [] Ω ai:=by
 refine⟨Ω++[.lst []],?_,af.app⟩;have e:(mN aY ae) ρ Ω=.ok (.ref Ω.length) (Ω++[.lst []]):=by rw[bX,aL,ag,eH,if_pos (aK (by simp))]
 have g:(Ω++[Cell.lst []])[Ω.length]?=some (.lst (([]:List Nat).map .ref)):=aw;have a:=R.keep (ai:=Ω++[Cell.lst []]) af.app;have c:=ng (n:=6) a.ce a.al;have d:=ng (n:=6) (L:=[]) g .nil;rw[dm,de,b,dc,ag,e,ag];simp[c,d]
def LK:SM:=(aj (dt (dM 5) (aZ (dg (aa 1) false (ah (.int 1)) true (ah .non)))
 (aj (fH (aa 4) (aa 5) (ah (.bl true)))
 ak))
 ak)
def NL:EM:=(bF (m2 aN (aa 0) (ah (.int 0))) false (m2 (aF .NotIn) (m2 aN (aa 0) (ah (.int 0))) (aa 1)) (aZ (aa 2)) 0 [4])
def NM:EM:=(bF (bF (aa 0) false (m2 (aF .NotEq) (aa 0) (m2 aN (aa 1) (ah (.int 0)))) (aZ (aa 0)) 0 [1]) true (ah .non) (aZ (aa 2)) 0 [6])
def Ry:EM:=(bF (aa 0) false (m2 (aF .NotEq) (aa 0) (mN aY ae)) (aZ (aa 2)) 0 [])
def Fm:EM:=(m2 (aF .NotEq) (aa 2) (mN aY ae))
def zg:SM:=
 (aj (aA 4 dP)
 (aj (dt (dM 1) (aZ (aa 2))
 LK)
 (aj (aA 6 NL)
 (aj (e_ (m2 (aF .Eq) (aa 6) (mN aY ae))
 (aj (bT (ah .non))
 ak)
 ak)
 (aj (bA (dG kH bQ (aa 3) (ab (m2 aN (aa 6) (ah (.int 0))) ae)))
 (aj (aA 2 NM)
 (aj (aA 2 Ry)
 ak)))))))
def LP:SM:=
 (aj (aA 2 (bF (mN (aW .list) (ab (aa 0) ae)) false (m2 (aF .NotEq) (aa 0) (mN aY ae)) (aZ (aa 0)) 0 []))
 (aj (aA 3 (mN aY ae))
 (aj (nP Fm
 zg)
 (aj (bT (aa 3))
 ak))))
end
section
variable{Ω ai:aD}{ρ:aR}{k q b d:Nat}{js:List Nat}{rs:List (List Str)}{row:List Str}{n:Str}{told:List Str}{kvs:List (Key×D)}{m:Nat}{S S':Str->Prop}
def qo(Ω:aD)(d m:Nat)(S:Str->Prop):Prop:=∃a,Ω[d]?=some (.dK a)/\a.length<=m/\∀n,(cN a (.inr n)).isSome=true↔S n
theorem qo.keep{fp:List Nat}(h:qo Ω d m S)(K:af fp Ω ai)(b:d∉fp):qo ai d m S:=let ⟨a,c,e,f⟩:=h;⟨a,K.get _ _ c b,e,f⟩
theorem qo.imp(h:qo Ω d m S)(b:∀n,S n↔S' n):qo Ω d m S':=let ⟨a,c,e,f⟩:=h;⟨a,c,e,λn=>(f n).trans (b n)⟩
theorem qo.put(h:qo Ω d m S)(c:m<=1000):∃ai,kI (.ref d) (.str n) (.bl true) Ω=some ai/\qo ai d (m+1) (λx=>S x\/x=n)/\af [d] Ω ai:=by
 obtain⟨kvs,a,e,b⟩:=h;refine⟨_,tV a (by omega),⟨_,aP a,by have:=y4 (kvs:=kvs) (k:=.inr n) (v:=D.bl true);omega,λx=>?_⟩,af.set (by simp)⟩
 rw[wG]
 by_cases z:x=n
 .subst z;simp
 .rw[if_neg (λq=>z (by cases q;rfl)),b]
  simp[z]
theorem Cw{j:Nat}(h:Ω[j]?=some (.lst (row.map .str))){i:Nat}(a:ρ[i]?=some (oR j)):dg (aa i) false (ah (.int 1)) true (ah .non) ρ Ω=.ok (.ref Ω.length) (Ω++[.lst (row.tail.map .str)]):=by
 have:=tR h;rw[eS,de,a,dc,ag];simp[this]
theorem Fo{j:Nat}{a0 a2 a3 a5 a6:Option D}(h:Ω[j]?=some (.lst (row.map .str)))(q:qo Ω d m S)(H:m+row.length<=900) :
  ∃a ai,LK [a0,oR j,a2,a3,oR d,a5,a6] Ω=.nx [a0,oR j,a2,a3,oR d,a,a6] ai/\qo ai d (m+row.length) (λx=>S x\/x∈row.tail)/\af [d] Ω ai:=by
 have u:=Cw (ρ:=[a0,oR j,a2,a3,oR d,a5,a6]) h (i:=1) rfl;have s:(Ω++[Cell.lst (row.tail.map .str)])[Ω.length]?=some (.lst (row.tail.map .str)):=aw;have w:af [d] Ω (Ω++[Cell.lst (row.tail.map .str)]):=af.app;have g:qo (Ω++[Cell.lst (row.tail.map .str)]) d m S:=q.keep (fp:=[]) af.app (by simp)
 have I:d<Ω.length:=let ⟨_,z,_⟩:=q;aS z
 generalize Ω++[Cell.lst (row.tail.map .str)]=f at *
 have k:aZ (dg (aa 1) false (ah (.int 1)) true (ah .non)) [a0,oR j,a2,a3,oR d,a5,a6] Ω=.ok (.seq (.ref Ω.length)) f:=by
  rw[bB,u,ag];exact bo (by rw[aI,az s])
 unfold LK;rw[ao,bV,k,bR];have A:row.tail.length<=row.length:=by simp
 refine br (R:=λr=>∃a ai,sq r _=.nx [a0,oR j,a2,a3,oR d,a,a6] ai/\qo ai d (m+row.length) (λx=>S x\/x∈row.tail)/\af [d] Ω ai) (ds:=row.tail.map .str)
  (λi ρ b=>∃a,ρ=[a0,oR j,a2,a3,oR d,a,a6]/\qo b d (m+i) (λx=>S x\/x∈row.tail.take i)/\af [d] f b) ?_ ?_ ?_ fuel 0 _ _ (by unfold fuel;simp;omega) (Nat.zero_le _) ⟨a5,rfl,g.imp (by simp),af.refl⟩
 .rintro i ρ b ⟨_,_,_,K⟩
  rw[bu,aI,az (K.get _ _ s (by simp;omega))]
 .rintro i e ρ b B ⟨a,rfl,c,K⟩
  obtain⟨x,t,rfl⟩:=eD B;have J:=(List.getElem?_eq_some_iff.mp t).1;refine⟨[a0,oR j,a2,a3,oR d,oS x,a6],rfl,?_⟩;obtain⟨l,C,o,E⟩:=c.put (n:=x) (by omega)
  have:(aj (fH (aa 4) (aa 5) (ah (.bl true))) ak) [a0,oR j,a2,a3,oR d,oS x,a6] b=.nx [a0,oR j,a2,a3,oR d,oS x,a6] l:=by
   rw[ao];unfold fH
   show sq (match kI (.ref d) (.str x) (.bl true) b with|some ai=>gc.nx _ ai|none=>.bad) _=_
   rw[C];rfl
  rw[this];refine⟨_,rfl,o.imp λy=>?_,K.trans E⟩
  rw[List.take_succ,t];simp[or_assoc]
 .rintro ρ b ⟨a,rfl,c,K⟩
  rw[List.length_map,List.take_length]at c;obtain⟨p,F,L,G⟩:=c;exact⟨a,b,rfl,⟨p,F,by omega,G⟩,w.trans K⟩
theorem Cy{i:Nat}(a:rs[i]?=some row):tl (rs.take i)+row.length=tl (rs.take (i+1)):=by
 unfold tl;rw[List.take_succ,a];simp
theorem Jc{i:Nat}:tl (rs.take i)<=tl rs:=by
 have:tl rs=tl (rs.take i)+tl (rs.drop i):=by
  unfold tl;rw[←List.sum_append,←List.map_append,List.take_append_drop]
 omega
theorem Fp{a0 a1 a3 a5 a6:Option D}(R:Rw Ω k js rs)(q:Ω[d]?=some (.dK []))(O:rs.length<=1000)(P:tl rs<=800) :
  ∃c a ai,dt (dM 1) (aZ (aa 2)) LK [a0,a1,oR k,a3,oR d,a5,a6] Ω=.nx [a0,c,oR k,a3,oR d,a,a6] ai/\qo ai d 900 (λx=>∃r∈rs,x∈r.tail)/\af [d] Ω ai:=by
 have F:=R.len;have s:k≠d:=λz=>by have:=R.ce;rw[z,q]at this;cases this
 have t:∀j∈js,j∉[d]:=λj u z=>by
  obtain⟨i,G⟩:=List.mem_iff_getElem?.mp u;obtain⟨g,_,w⟩:=R.al.at' G;rw[List.mem_singleton.mp z,q]at w;cases w
 have B:∀b,af [d] Ω b->Rw b k js rs:=λb K=>R.vd K (by simpa using s) t
 have y:aZ (aa 2) [a0,a1,oR k,a3,oR d,a5,a6] Ω=.ok (.seq (.ref k)) Ω:=by
  rw[bB];exact bo (by rw[aI,az R.ce])
 rw[bV,y,bR]
 refine br (R:=λr=>∃c a ai,r=.nx [a0,c,oR k,a3,oR d,a,a6] ai/\qo ai d 900 (λx=>∃r∈rs,x∈r.tail)/\af [d] Ω ai) (ds:=js.map .ref)
  (λi p b=>∃c a,p=[a0,c,oR k,a3,oR d,a,a6]/\qo b d (tl (rs.take i)) (λx=>∃r∈rs.take i,x∈r.tail)/\af [d] Ω b) ?_ ?_ ?_ fuel 0 _ _ (by unfold fuel;simp;omega) (Nat.zero_le _) ⟨a1,a5,rfl,⟨[],q,by simp[tl],λn=>by simp[cN]⟩,af.refl⟩
 .rintro i p b ⟨_,_,_,_,K⟩
  rw[bu,aI,az (B _ K).ce]
 .rintro i e p b H ⟨c,a,rfl,f,K⟩
  obtain⟨j,u,rfl⟩:=kn H;obtain⟨g,C,h⟩:=(B _ K).al.at' u;refine⟨[a0,oR j,oR k,a3,oR d,a,a6],rfl,?_⟩;have I:=Cy C;have w:=Jc (rs:=rs) (i:=i+1);obtain⟨E,J,L,l,M⟩:=Fo (a0:=a0) (a2:=oR k) (a3:=a3) (a5:=a) (a6:=a6) h f (by omega)
  rw[L];refine⟨_,_,rfl,?_,K.trans M⟩;rw[I]at l;refine l.imp λx=>?_
  rw[List.take_succ,C];simp only[List.mem_append,Option.toList_some,List.mem_singleton];constructor
  .rintro(⟨r,m,o⟩|z)
   .exact⟨r,.inl m,o⟩
   .exact⟨g,.inr rfl,z⟩
  .rintro⟨r,m|rfl,o⟩
   .exact .inl ⟨r,m,o⟩
   .exact .inr o
 .rintro p b ⟨c,a,rfl,f,K⟩
  rw[List.length_map,←F,List.take_length]at f;obtain⟨A,m,o,N⟩:=f;exact⟨c,a,b,rfl,⟨A,m,by omega,N⟩,K⟩
theorem Fq{a0 a1 a3 a5 a6:Option D}(R:Rw Ω k js rs)(A:qo Ω d 900 (λx=>∃r∈rs,x∈r.tail))(p:∀r∈rs,r≠[])(G:rs.length<=1000) :
  NL [a0,a1,oR k,a3,oR d,a5,a6] Ω=.ok (.ref Ω.length) (Ω++[.lst ((rs.filterMap (freeOf rs)).map .str)]):=by
 have B:=R.len;obtain⟨b,C,H,z⟩:=A
 have s:aZ (aa 2) [a0,a1,oR k,a3,oR d,a5,a6] Ω=.ok (.seq (.ref k)) Ω:=by
  rw[bB];exact bo (by rw[aI,az R.ce])
 obtain⟨I,c,e,rfl,rfl⟩:=vm (ρ:=[a0,a1,oR k,a3,oR d,a5,a6]) (nc:=false) (me:=m2 aN (aa 0) (ah (.int 0))) (mc:=m2 (aF .NotIn) (m2 aN (aa 0) (ah (.int 0))) (aa 1)) (cap:=[4]) (ds:=js.map .ref) (λi f c=>f=((rs.take i).filterMap (freeOf rs)).map .str/\c=Ω) s ⟨rfl,rfl⟩
  (λi f c h=>by
   obtain⟨_,rfl⟩:=h;rw[bu,aI,az R.ce])
  (λi e f a E h=>by
   obtain⟨rfl,rfl⟩:=h;obtain⟨j,F,rfl⟩:=kn E;obtain⟨u,w,g⟩:=R.al.at' F;cases u with
   |nil=>exact absurd rfl (p [] (List.mem_of_getElem? w))
   |cons x t=>
    have l:aN (.ref j) (.int 0) a=.ok (.str x) a:=cj g (L2.cZ (j:=0) rfl);have y:=IE (n:=x) (.inl C)
    have m:hG false (m2 (aF .NotIn) (m2 aN (aa 0) (ah (.int 0))) (aa 1)) ([oR j]++dH [4] [a0,a1,oR k,a3,oR d,a5,a6]) a=.ok (!(cN b (.inr x)).isSome) a:=by
     show cw ((aN (.ref j) (.int 0) a).bind _)=_
     rw[l,ag]
     show cw (aF .NotIn (.str x) (.ref d) a)=_
     rw[y];rfl
    by_cases o:∃r∈rs,x∈r.tail
    .rw[(z x).mpr o]at m
     refine .inl ⟨a,m,?_,rfl⟩;rw[List.take_succ,w,List.filterMap_append];simp[d_ o]
    .have:(cN b (.inr x)).isSome=false:=by
      cases q:(cN b (.inr x)).isSome with
      |true=>exact absurd ((z x).mp q) o
      |false=>rfl
     rw[this]at m;refine .inr ⟨a,.str x,a,m,?_,?_,rfl⟩
     .show aN (.ref j) (.int 0) a=_
      exact l
     .rw[List.take_succ,w,List.filterMap_append]
      simp[ed o]) (by simp;omega)
 rw[List.length_map,←B,List.take_length]at e;exact e
theorem Fs{a0 a1 a3 a5:Option D}{f:Nat}{t:List Str}{a4:Option D}(R:Rw Ω k js rs)(s:Ω[f]?=some (.lst ((n::t).map .str)))(u:rs.length<=1000)(w:∀r∈rs,r.length<=1000) :
  ∃i b,NM [a0,a1,oR k,a3,a4,a5,oR f] Ω=.ok (.ref b.length) (b++[.lst (i.map .ref)])/\af [] Ω b/\jX b i (rs.map λr=>r.filter λx=>decide (x≠n))/\∀j∈i,Ω.length<=j:=by
 have l:aZ (aa 2) [a0,a1,oR k,a3,a4,a5,oR f] Ω=.ok (.seq (.ref k)) Ω:=by
  rw[bB];exact bo (by rw[aI,az R.ce])
 refine nj (ρ:=[a0,a1,oR k,a3,a4,a5,oR f]) (me:=bF (aa 0) false (m2 (aF .NotEq) (aa 0) (m2 aN (aa 1) (ah (.int 0)))) (aZ (aa 0)) 0 [1]) (mc:=ah .non) (cap:=[6]) (f:=λr=>r.filter λx=>decide (x≠n)) (P:=λj=>Ω.length<=j) l R u (λj c a K B m h=>?_)
 have o:=K.g s;have q:aN (.ref f) (.int 0) a=.ok (.str n) a:=cj o (L2.cZ (j:=0) rfl)
 have e:=dv (ρ:=[oR j,oR f]) (Ω:=a) (ai:=a) (me:=aa 0) (mc:=m2 (aF .NotEq) (aa 0) (m2 aN (aa 1) (ah (.int 0)))) (nc:=false) (mi:=aZ (aa 0)) (cap:=[1]) (src:=.seq (.ref j)) (ds:=c.map .str) (p:=λd=>match d with|.str x=>decide (x≠n)|_=>false) (g:=λd=>d) (by
   rw[bB];exact bo (by rw[aI,az h])) (by rw[bu,aI,az h]) (λd y=>by
   obtain⟨x,C,rfl⟩:=List.mem_map.mp y
   show cw ((aN (.ref f) (.int 0) a).bind _)=_
   rw[q,ag]
   show cw (aF .NotEq (.str x) (.str n) a)=_
   by_cases z:x=n<;>simp[z]) (λd _ _=>rfl) (by have:=w c m;simp;omega)
 have A:((c.map D.str).filter (λd=>match d with|.str x=>decide (x≠n)|_=>false)).map (λd:D=>d)=(c.filter λx=>decide (x≠n)).map .str:=by
  rw[List.map_id',List.filter_map];rfl
 rw[A]at e;exact⟨a.length,_,e,af.app,aw,K.len⟩
theorem Ft{a0 a1 a3 a4 a5 a6:Option D}(R:Rw Ω k js rs)(o:rs.length<=1000) :
  ∃b a,Ry [a0,a1,oR k,a3,a4,a5,a6] Ω=.ok (.ref a.length) (a++[.lst (b.map .ref)])/\af [] Ω a/\jX a b (ne rs)/\∀j∈b,j∈js:=by
 have g:aZ (aa 2) [a0,a1,oR k,a3,a4,a5,a6] Ω=.ok (.seq (.ref k)) Ω:=by
  rw[bB];exact bo (by rw[aI,az R.ce])
 obtain⟨b,a,e,K,m,q⟩:=oM (ρ:=[a0,a1,oR k,a3,a4,a5,a6]) (nc:=false) (me:=aa 0) (mc:=m2 (aF .NotEq) (aa 0) (mN aY ae)) (cap:=[]) (f:=λr=>r) (p:=λr=>decide (r≠[])) (P:=λj=>j∈js) g R o (λj h d K n l c=>by
  obtain⟨a,e,s⟩:=ne_nil (ρ:=[oR j]) (i:=0) rfl c;refine⟨a,?_,s⟩
  show cw (m2 (aF .NotEq) (aa 0) (mN aY ae) [oR j] d)=_
  rw[e];rfl) (λj h d K n l c=>⟨j,d,rfl,af.refl,c,n⟩)
 rw[List.map_id']at m;exact⟨b,a,e,K,m,q⟩
end
section
variable{Ω ai:aD}{ρ:aR}{k q b d:Nat}{js:List Nat}{rs:List (List Str)}{row:List Str}{n:Str}{told:List Str}
theorem Jd{rs:List (List Str)}:(ne rs).length<=rs.length:=List.length_filter_le _ _
theorem Je{rs:List (List Str)}:tl (ne rs)=tl rs:=by
 unfold tl ne
 induction rs with
 |nil=>rfl
 |cons a rs b=>
  by_cases c:a=[]
  .subst c
   simp only[List.filter_cons,ne_eq,not_true_eq_false,decide_false,List.map_cons,List.sum_cons,List.length_nil]at b ⊢;simp at b ⊢;exact b
  .simp only[List.filter_cons,c,ne_eq,not_false_eq_true,decide_true,if_true,List.map_cons,List.sum_cons]
   rw[b]
theorem Fu{rs:List (List Str)}{r:List Str}(h:r∈rs):r.length<=tl rs:=by
 unfold tl
 induction rs with
 |nil=>simp at h
 |cons a rs b=>
  simp only[List.map_cons,List.sum_cons];rcases List.mem_cons.mp h with z|z
  .subst z;omega
  .have:=b z;omega
theorem Fv{a0 a1 a4 a5 a6:Option D}(R:Rw Ω k js (ne rs))(H:Ω[q]?=some (.lst (told.map .str)))(I:q≠k)(J:q∉js)(hl:rs.length<=900)(ht:tl rs<=800)(hp:told.length<=900) :
  (free rs=none/\∃ai,zg [a0,a1,oR k,oR q,a4,a5,a6] Ω=.rt .non ai/\af [] Ω ai) \/
  ∃n b K c L M w ai,free rs=some n/\zg [a0,a1,oR k,oR q,a4,a5,a6] Ω=.nx [a0,b,oR M,oR q,K,c,L] ai/\Rw ai M w (ne (rs.map (cv n)))/\ai[q]?=some (.lst ((told++[n]).map .str))/\q≠M/\q∉w/\af [q] Ω ai:=by
 have b0:=Jd (rs:=rs);have c0:=Je (rs:=rs);have lq:=aS H;have lk:=aS R.ce;have lj:=R.al.lt;obtain⟨g1,Y⟩:=cX Ω (.dK []);have Z:aA 4 dP [a0,a1,oR k,oR q,a4,a5,a6] Ω=.nx [a0,a1,oR k,oR q,oR Ω.length,a5,a6] (Ω++[Cell.dK []]):=rfl;have l1:(Ω++[Cell.dK []]).length=Ω.length+1:=by simp
 generalize Ω++[Cell.dK []]=e0 at *;obtain⟨b,c,a,r2,N,K2⟩:=Fp (a0:=a0) (a1:=a1) (a3:=oR q) (a5:=a5) (a6:=a6) (R.keep Y) g1 (by omega) (by omega)
 have p:af [] Ω a:=af.new Y K2 (by simp)
 have R2:=R.keep p;have f0:=p.g H;have G:=Fq (a0:=a0) (a1:=b) (a3:=oR q) (a5:=c) (a6:=a6) R2 N (λr y=>(nv.mp y).2) (by omega)
 obtain⟨g3,K3⟩:=cX a (.lst (((ne rs).filterMap (freeOf (ne rs))).map .str));have l3:(a++[Cell.lst (((ne rs).filterMap (freeOf (ne rs))).map .str)]).length=a.length+1:=by simp
 have hh:((ne rs).filterMap (freeOf (ne rs))).head?=free rs:=by
  rw[List.head?_filterMap,←Cr];rfl
 generalize (ne rs).filterMap (freeOf (ne rs))=fl at *
 have G:aA 6 NL [a0,b,oR k,oR q,oR Ω.length,c,a6] a=.nx [a0,b,oR k,oR q,oR Ω.length,c,oR a.length] (a++[Cell.lst (fl.map .str)]):=by
  rw[aU,G];rfl
 generalize a++[Cell.lst (fl.map .str)]=i at *;have O:=p.trans K3;have g4:(i++[Cell.lst []])[i.length]?=some (.lst (([]:List Str).map .str)):=aw;have P:af [] i (i++[Cell.lst []]):=af.app
 have e4:(m2 (aF .Eq) (aa 6) (mN aY ae)) [a0,b,oR k,oR q,oR Ω.length,c,oR a.length] i=.ok (.bl (decide (fl=[]))) (i++[Cell.lst []]):=by
  have e:(mN aY ae) [a0,b,oR k,oR q,oR Ω.length,c,oR a.length] i=.ok (.ref i.length) (i++[.lst []]):=by rw[bX,aL,ag,eH,if_pos (aK (by simp))]
  have:aa 6 [a0,b,oR k,oR q,oR Ω.length,c,oR a.length] i=.ok (.ref a.length) i:=rfl;rw[dm,this,ag,e,ag,pW (P.g g3) g4]
 have l4:(i++[Cell.lst []]).length=i.length+1:=by simp
 generalize i++[Cell.lst []]=f at *;have o:=O.trans P;cases fl with
 |nil=>
  refine .inl ⟨by rw[←hh];rfl,f,?_,o⟩
  unfold zg;rw[aH Z,aH r2,aH G,ao,dj,e4];rfl
 |cons n t=>
  have A:free rs=some n:=by rw[←hh];rfl
  refine .inr ⟨n,?_⟩;have R4:=R.keep o;have s:=o.g H;have B:=P.g g3
  have r4:(e_ (m2 (aF .Eq) (aa 6) (mN aY ae)) (aj (bT (ah .non)) ak) ak) [a0,b,oR k,oR q,oR Ω.length,c,oR a.length] i=.nx [a0,b,oR k,oR q,oR Ω.length,c,oR a.length] f:=by
   rw[dj,e4];rfl
  have Q:aN (.ref a.length) (.int 0) f=.ok (.str n) f:=cj B (L2.cZ (j:=0) rfl);have S:=ee (d:=.str n) s (by simp;omega)
  have r5:(bA (dG kH bQ (aa 3) (ab (m2 aN (aa 6) (ah (.int 0))) ae))) [a0,b,oR k,oR q,oR Ω.length,c,oR a.length] f=.nx [a0,b,oR k,oR q,oR Ω.length,c,oR a.length] (f.set q (.lst (told.map .str++[.str n]))):=by
   rw[bL,dw (x:=.ref q) (ai:=f) rfl (dr s)]
   have:(ab (m2 aN (aa 6) (ah (.int 0))) ae:AM) [a0,b,oR k,oR q,oR Ω.length,c,oR a.length] f=.ok [.str n] f:=by
    show((aN (.ref a.length) (.int 0) f).bind _)=_
    rw[Q];rfl
   rw[this,ag,S];rfl
  have T:af [q] f (f.set q (.lst (told.map .str++[.str n]))):=af.set (by simp)
  have U:(f.set q (.lst (told.map .str++[.str n])))[q]?=some (.lst ((told++[n]).map .str)):=by rw[aP s];simp
  have l5:(f.set q (.lst (told.map .str++[.str n]))).length=f.length:=by simp
  generalize f.set q (.lst (told.map .str++[.str n]))=u at *;have R5:Rw u k js (ne rs):=R4.vd T (by simpa using Ne.symm I) (λj hj h=>J (by rw[←List.mem_singleton.mp h];exact hj))
  have V:=T.get _ _ B (by have:=p.len;simp;omega)
  obtain⟨m,l,e6,K6,h6,j6⟩:=Fs (a0:=a0) (a1:=b) (a3:=oR q) (a4:=oR Ω.length) (a5:=c) R5 V (by omega) (λr y=>by have:=Fu y;omega)
  have C:((ne rs).map λr=>r.filter λx=>decide (x≠n))=(ne rs).map (cv n):=List.map_congr_left λr y=>rP (wL A r (nv.mp y).1)
  rw[C]at h6;have R7:Rw (l++[.lst (m.map .ref)]) l.length m ((ne rs).map (cv n)):=⟨aw,h6.keep (fp:=[]) af.app (by simp)⟩
  have K7:af [] u (l++[Cell.lst (m.map .ref)]):=K6.trans af.app
  have r6:aA 2 NM [a0,b,oR k,oR q,oR Ω.length,c,oR a.length] u=.nx [a0,b,oR l.length,oR q,oR Ω.length,c,oR a.length] (l++[.lst (m.map .ref)]):=by
   rw[aU,e6];rfl
  have l6:=K6.len;have l7:(l++[Cell.lst (m.map .ref)]).length=l.length+1:=by simp
  generalize l++[Cell.lst (m.map .ref)]=g0 at *;obtain⟨E,F,e8,X,h8,j8⟩:=Ft (a0:=a0) (a1:=b) (a3:=oR q) (a4:=oR Ω.length) (a5:=c) (a6:=oR a.length) R7 (by simp;omega)
  rw[Ct]at h8;have h0:=o.len;have l8:=X.len;refine⟨b,oR Ω.length,c,oR a.length,F.length,E,F++[.lst (E.map .ref)],A,?_,⟨aw,h8.keep (fp:=[]) af.app (by simp)⟩,dq (X.g (K7.g U)),by omega,λz=>?_,((ew.up o).trans T).trans (ew.up ((K7.trans X).trans af.app))⟩
  .unfold zg
   rw[aH Z,aH r2,aH G,aH r4,aH r5,aH r6,ao,aU,e8];rfl
  .have:=j6 q (j8 q z)
   omega
theorem Fw{rs:List (List Str)}(h:ne rs=[]):Mg rs []:=.done λr a=>by
 by_cases z:r=[]
 .exact z
 .have:r∈ne rs:=nv.mpr ⟨a,z⟩
  rw[h]at this;simp at this
theorem zh{a0:Option D}:∀(m:Nat) (Ω:aD) (rs:List (List Str)) (a:List Str) (q k:Nat) (u:List Nat) (a1 a4 a5 a6:Option D),tl rs<m->Rw Ω k u (ne rs)->Ω[q]?=some (.lst (a.map .str))->q≠k->q∉u->rs.length<=900->a.length+tl rs<=800 ->
  (∃ai,fv Fm zg m [a0,a1,oR k,oR q,a4,a5,a6] Ω=.rt .non ai/\af [q] Ω ai) \/
  ∃o c y d e f ai,fv Fm zg m [a0,a1,oR k,oR q,a4,a5,a6] Ω=.nx [a0,c,y,oR q,d,e,f] ai/\Mg rs o/\ai[q]?=some (.lst ((a++o).map .str))/\af [q] Ω ai:=by
 intro m
 induction m with
 |zero=>intro Ω rs a q k u a1 a4 a5 a6 h;omega
 |succ m L=>
  intro Ω rs a q k u a1 a4 a5 a6 Q R I z A J K;obtain⟨j,s,l⟩:=Cv (ρ:=[a0,a1,oR k,oR q,a4,a5,a6]) (i:=2) rfl R;have s:Fm [a0,a1,oR k,oR q,a4,a5,a6] Ω=.ok (.bl (decide (ne rs≠[]))) j:=s
  by_cases B:ne rs=[]
  .rw[decide_eq_false (by simpa using B)]at s
   refine .inr ⟨[],a1,oR k,a4,a5,a6,j,?_,Fw B,by rw[List.append_nil];exact l.g I,ew.up l⟩
   simp only[fv,s];rfl
  .rw[decide_eq_true (by simpa using B)]at s
   have step:fv Fm zg (m+1) [a0,a1,oR k,oR q,a4,a5,a6] Ω=(match zg [a0,a1,oR k,oR q,a4,a5,a6] j with|.nx b ai=>fv Fm zg m b ai|.ct b ai=>fv Fm zg m b ai|.bk b ai=>.nx b ai|r=>r):=by
    simp only[fv,s];rfl
   have C:=l.g I;rcases Fv (a0:=a0) (a1:=a1) (a4:=a4) (a5:=a5) (a6:=a6) (R.keep l) C z A J (by omega) (by omega)with ⟨_,p,w,x⟩|⟨n,c,d,e,f,M,E,p,F,w,R2,G,N,O,x⟩
   .refine .inl ⟨p,?_,ew.up (l.trans x)⟩
    rw[step,w]
   .have P:=Cu (oK F)
    have H:∃r∈rs,r≠[]:=by
     obtain⟨t,K⟩:=oK F;exact⟨_,K,by simp⟩
    rcases L p (rs.map (cv n)) (a++[n]) q M E c d e f (by omega) R2 G N O (by simpa using J) (by simp;omega)with ⟨NN,e3,K3⟩|⟨o,b1,b2,b4,b5,b6,NN,e3,M3,Ts,K3⟩
    .refine .inl ⟨NN,?_,((ew.up l).trans x).trans K3⟩
     rw[step,w];exact e3
    .refine .inr ⟨n::o,b1,b2,b4,b5,b6,NN,?_,.step H F M3,by rw[Ts];simp,((ew.up l).trans x).trans K3⟩
     rw[step,w];exact e3
def Cz(e:aQ):Prop:=∀(b:aD) (k:Nat) (f:List Nat) (c:List (List Str)),Rw b k f c->c.length<=900->tl c<=800->∃d a,e [.ref k] b=.ok d a/\af [] b a/\(d=.non\/∃o q,d=.ref q/\a[q]?=some (.lst (o.map .str))/\Mg c o/\b.length<=q)
theorem Jf:Cz (cV 7 1 LP):=by
 intro h k H q R y A;rw[bh (by rfl),show aX 7 [D.ref k]=[oR k,none,none,none,none,none,none]from rfl]
 have s:aZ (aa 0) [oR k,none,none,none,none,none,none] h=.ok (.seq (.ref k)) h:=by
  rw[bB];exact bo (by rw[aI,az R.ce])
 obtain⟨c,a,B,C,l,I⟩:=oM (ρ:=[oR k,none,none,none,none,none,none]) (nc:=false) (me:=mN (aW .list) (ab (aa 0) ae)) (mc:=m2 (aF .NotEq) (aa 0) (mN aY ae)) (cap:=[]) (f:=λr=>r) (p:=λr=>decide (r≠[])) (P:=λj=>h.length<=j) s R (by omega) (λj m a K E t d=>by
  obtain⟨b,e,n⟩:=ne_nil (ρ:=[oR j]) (i:=0) rfl d;refine⟨b,?_,n⟩
  show cw (m2 (aF .NotEq) (aa 0) (mN aY ae) [oR j] a)=_
  rw[e];rfl) (λj m a K E t d=>by
  refine⟨a.length,a++[.lst (m.map .str)],?_,af.app,aw,K.len⟩
  show aW .list [.ref j] a=_
  exact bS d)
 rw[List.map_id']at l;have l:jX a c (ne q):=l;have R2:Rw (a++[.lst (c.map .ref)]) a.length c (ne q):=⟨aw,l.keep (fp:=[]) af.app (by simp)⟩
 have n:af [] h (a++[Cell.lst (c.map .ref)]):=C.trans af.app;have J:(a++[Cell.lst (c.map .ref)]).length=a.length+1:=by simp
 have F:=l.lt
 have w:aA 2 (bF (mN (aW .list) (ab (aa 0) ae)) false (m2 (aF .NotEq) (aa 0) (mN aY ae)) (aZ (aa 0)) 0 []) [oR k,none,none,none,none,none,none] h=.nx [oR k,none,oR a.length,none,none,none,none] (a++[Cell.lst (c.map .ref)]):=by
  rw[aU,B];rfl
 generalize a++[Cell.lst (c.map .ref)]=b at *;have u:af [] b (b++[Cell.lst []]):=af.app;have G:(b++[Cell.lst []])[b.length]?=some (.lst (([]:List Str).map .str)):=aw;have x:(aA 3 (mN aY ae)) [oR k,none,oR a.length,none,none,none,none] b=.nx [oR k,none,oR a.length,oR b.length,none,none,none] (b++[Cell.lst []]):=by simp[aK]
 have g:=n.len;rcases zh (a0:=oR k) fuel (b++[Cell.lst []]) q [] b.length a.length c none none none none (by unfold fuel;omega) (R2.keep u) G (by omega) (λz=>by have:=F _ z;omega) y (by simpa using A)with ⟨NO,e4,K4⟩|⟨o,b1,b2,b4,b5,b6,NO,e4,M4,Tt,K4⟩
 .refine⟨.non,NO,?_,af.new (n.trans u) K4 (by simpa using g),.inl rfl⟩
  unfold LP;rw[aH w,aH x,ao];unfold nP;rw[e4];rfl
 .refine⟨.ref b.length,NO,?_,af.new (n.trans u) K4 (by simpa using g),.inr ⟨o,b.length,rfl,by simpa using Tt,M4,g⟩⟩
  unfold LP;rw[aH w,aH x,ao];unfold nP;rw[e4];rfl
end
structure gn(E:dz)(L:Str->List Str):Prop where
 nd:(nms E).Nodup
 el:∀(i:Nat) (p:Str×List Str),E[i]?=some p->p.2.Nodup/\p.2.length<=5/\∀x∈p.2,x∈(nms E).take i
 ln:∀(i:Nat) (p:Str×List Str),E[i]?=some p->∃o,Mg (p.2.map L++[p.2]) o/\L p.1=p.1::o
 len:E.length<=12
section
variable{E:dz}{L:Str->List Str}{i:Nat}{p:Str×List Str}{n:Str}{r o:List Str}
theorem gp:nms (E.take i)=(nms E).take i:=by simp[nms,List.map_take]
theorem gO(h:E[i]?=some p):(nms E)[i]?=some p.1:=by simp[nms,h]
theorem iR(h:(nms E)[i]?=some n):∃r,E[i]?=some (n,r):=by
 simp only[nms,List.getElem?_map,Option.map_eq_some_iff]at h;obtain⟨q,a,b⟩:=h;exact⟨q.2,by rw[a,←b]⟩
theorem tW(e:(nms E).Nodup)(h:E[i]?=some p):bc E p.1=p.2:=by
 have c:=gO h;have f:(p.1,bc E p.1)∈E:=pX (jn (List.mem_of_getElem? c));obtain⟨g,a⟩:=List.mem_iff_getElem?.mp f;have d:=gO a;have b:=(List.getElem?_eq_some_iff.mp d).1;have:=(List.getElem?_inj b e).mp (d.trans c.symm);subst this;rw[h]at a;have z:=Option.some.inj a;exact(congrArg (·.2) z).symm
theorem bY{xs:List Str}{x:Str}(h:x∈xs.take i):∃j,j<i/\xs[j]?=some x:=by
 obtain⟨j,a⟩:=List.mem_iff_getElem?.mp h;have b:=(List.getElem?_eq_some_iff.mp a).1;rw[List.length_take]at b;rw[List.getElem?_take_of_lt (by omega)]at a
 exact⟨j,by omega,a⟩
theorem iH{xs:List Str}{x:Str}{j:Nat}(a:j<i)(h:xs[j]?=some x):x∈xs.take i:=List.mem_of_getElem? (i:=j) (by rw[List.getElem?_take_of_lt a];exact h)
namespace gn
theorem nil:gn [] L:=⟨by simp[nms],λi p h=>by simp at h,λi p h=>by simp at h,by simp⟩
theorem wM(G:gn E L)(b:n∈nms E):∃i:Nat,E[i]?=some (n,bc E n):=by
 obtain⟨i,c⟩:=List.mem_iff_getElem?.mp b;obtain⟨r,a⟩:=iR c;exact⟨i,by rw[a,show bc E n=r from tW G.nd a]⟩
theorem sub(G:gn E L)(a:n∈nms E):∀x∈bc E n,x∈nms E:=λx b=>by
 obtain⟨i,c⟩:=G.wM a;exact List.mem_of_mem_take ((G.el i _ c).2.2 x b)
theorem gd(G:gn E L):Gd E where
 nd:=G.nd
 el:=λn c=>G.sub c
 rk:=⟨λx=>(nms E).idxOf x,λn c x f=>by
  obtain⟨i,d⟩:=G.wM c;obtain⟨j,g,e⟩:=bY ((G.el i _ d).2.2 x f);have h:=gO d
  have k:(nms E).idxOf x=j:=by
   have:=(List.getElem?_eq_some_iff.mp e);obtain⟨a,b⟩:=this;rw[←b];exact List.Nodup.idxOf_getElem G.nd j a
  have l:(nms E).idxOf n=i:=by
   obtain⟨a,b⟩:=(List.getElem?_eq_some_iff.mp h);have b:(nms E)[i]=n:=b;rw[←b];exact List.Nodup.idxOf_getElem G.nd i a
  show(nms E).idxOf x<(nms E).idxOf n
  rw[k,l];exact g⟩
 few:=by have:=G.len;omega
 short:=λn c=>by
  obtain⟨i,d⟩:=G.wM c;have:=(G.el i _ d).2.1;have:(bc E n).length<=5:=this;omega
theorem rQ(G:gn E L):Fd E L:=λn a=>by
 obtain⟨i,b⟩:=G.wM a;exact G.ln i _ b
theorem take(G:gn E L)(k:Nat):gn (E.take k) L where
 nd:=by rw[gp];exact G.nd.sublist (List.take_sublist _ _)
 el:=λi p h=>by
  have a:=(List.getElem?_eq_some_iff.mp h).1;rw[List.length_take]at a;rw[List.getElem?_take_of_lt (by omega)]at h
  obtain⟨b,c,d⟩:=G.el i p h;refine⟨b,c,λx e=>?_⟩
  rw[gp,List.take_take,Nat.min_eq_left (by omega)]
  exact d x e
 ln:=λi p h=>by
  have a:=(List.getElem?_eq_some_iff.mp h).1;rw[List.length_take]at a;rw[List.getElem?_take_of_lt (by omega)]at h
  exact G.ln i p h
 len:=by have:=G.len;rw[List.length_take];omega
theorem mem(G:gn E L):∀(k i:Nat) (n:Str),i<k->(nms E)[i]?=some n->∀x∈L n,x∈nms E:=by
 intro k
 induction k with
 |zero=>intro i n h;omega
 |succ k l=>
  intro i n s e x f;obtain⟨r,g⟩:=iR e;obtain⟨o,M,b⟩:=G.ln i _ g;have b:L n=n::o:=b;rw[b]at f;rcases List.mem_cons.mp f with z|z
  .rw[z];exact List.mem_of_getElem? e
  .obtain⟨m,p,c⟩:=pQ M x z
   have a:=(G.el i _ g).2.2;rcases List.mem_append.mp p with h|h
   .obtain⟨y,q,rfl⟩:=List.mem_map.mp h
    obtain⟨j,t,d⟩:=bY (a y q);exact l j y (by omega) d x c
   .rw[List.mem_singleton.mp h]at c
    exact List.mem_of_mem_take (a x c)
theorem short(G:gn E L)(c:n∈nms E):(L n).length<=13:=by
 obtain⟨i,b⟩:=List.mem_iff_getElem?.mp c;obtain⟨r,d⟩:=iR b;obtain⟨o,M,a⟩:=G.ln i _ d;have a:L n=n::o:=a;have e:=G.mem (i+1) i n (by omega) b
 have g:=p7 (xs:=nms E) (rH M) (λx f=>e x (by rw[a];simp[f]))
 have h:(nms E).length=E.length:=by simp[nms]
 have:=G.len;rw[a];simp;omega
theorem mg(G:gn E L)(a:n∈nms E):∃o,Mg ((bc E n).map L++[bc E n]) o/\L n=n::o/\o.length<=12:=by
 obtain⟨o,M,b⟩:=G.rQ n a;have:=G.short a;rw[b]at this;exact⟨o,M,b,by simpa using this⟩
theorem zi(G:gn E L)(b:∀x∈r,x∈nms E)(f:r.length<=5):tl (r.map L++[r])<=70:=by
 unfold tl;rw[List.map_append,List.sum_append]
 have c:∀r:List Str,(∀x∈r,x∈nms E)->((r.map L).map List.length).sum<=13*r.length:=by
  intro r b
  induction r with
  |nil=>simp
  |cons a r d=>
   have g:=d λx e=>b x (by simp[e])
   have h:=G.short (b a (by simp))
   simp only[List.map_cons,List.sum_cons,List.length_cons];omega
 have:=c r b;simp only[List.map_cons,List.map_nil,List.sum_cons,List.sum_nil];omega
theorem snoc(G:gn E L)(m:n∉nms E)(F:E.length<12)(j:r.Nodup)(k:r.length<=5)(s:∀x∈r,x∈nms E)(M:Mg (r.map L++[r]) o):gn (E++[(n,r)]) (λx=>if x=n then n::o else L x)/\∀x∈nms E,(if x=n then n::o else L x)=L x:=by
 have d:∀x∈nms E,(if x=n then n::o else L x)=L x:=λx e=>if_neg λ(z:x=n)=>m (z▸e)
 have f:nms (E++[(n,r)])=nms E++[n]:=by simp[nms]
 have g:(nms E).length=E.length:=by simp[nms]
 have c:∀(i:Nat) (p:Str×List Str),(E++[(n,r)])[i]?=some p->(i<E.length/\E[i]?=some p)\/(i=E.length/\p=(n,r)):=by
  intro i p h
  by_cases q:i<E.length
  .rw[List.getElem?_append_left q]at h
   exact .inl ⟨q,h⟩
  .rw[List.getElem?_append_right (by omega)]at h
   have t:=(List.getElem?_eq_some_iff.mp h).1;simp at t;have:i=E.length:=by omega
   subst this;simp at h;exact .inr ⟨rfl,h.symm⟩
 refine⟨⟨?_,?_,?_,by simp;omega⟩,d⟩
 .rw[f]
  exact List.nodup_append.mpr ⟨G.nd,by simp,λa u b w z=>m (by rw[←List.mem_singleton.mp w,←z];exact u)⟩
 .intro i p h
  rcases c i p h with ⟨q,h⟩|⟨rfl,rfl⟩
  .obtain⟨y,A,l⟩:=G.el i p h
   refine⟨y,A,λx e=>?_⟩
   rw[f,List.take_append_of_le_length (by omega)]
   exact l x e
  .refine⟨j,k,λx e=>?_⟩
   rw[f,←g,List.take_left']
   .exact s x e
   .rfl
 .intro i p h
  rcases c i p h with ⟨q,h⟩|⟨rfl,rfl⟩
  .obtain⟨B,C,D⟩:=G.ln i p h
   have l:=(G.el i p h).2.2;refine⟨B,?_,?_⟩
   .have:p.2.map (λx=>if x=n then n::o else L x)=p.2.map L:=List.map_congr_left λx e=>d x (List.mem_of_mem_take (l x e))
    rw[this];exact C
   .rw[d p.1 (List.mem_of_getElem? (gO h))]
    exact D
  .refine⟨o,?_,by simp⟩
   have:r.map (λx=>if x=n then n::o else L x)=r.map L:=List.map_congr_left λx e=>d x (s x e)
   show Mg (r.map (λx=>if x=n then n::o else L x)++[r]) o
   rw[this];exact M
end gn
end
def Rz:EM:=(bF (m2 aN (aa 1) (aa 0)) true (ah .non) (aZ (aa 5)) 0 [3])
def NP(a:aQ):EM:=(mN (bg a) (ab (m2 (bj .Add) Rz (mN aY (ab (aa 5) ae))) ae))
def NQ:SM:=(e_ (m2 (aF .Is) (aa 6) (ah .non))
 (aj (aA 5 (mN aY ae))
 (aj (aA 6 (mN aY ae))
 ak))
 ak)
def LQ:EM:=(m2 (bj .Add) (mN aY (ab (m2 aN (aa 0) (aa 4)) ae)) (aa 6))
def NR(a:aQ):SM:=
 (aj (aA 5 (mN (aW .list) (ab (m2 aN (aa 1) (aa 4)) ae)))
 (aj (aA 6 (NP a))
 (aj NQ
 (aj (fH (aa 2) (m2 aN (aa 0) (aa 4)) (aa 5))
 (aj (fH (aa 3) (m2 aN (aa 0) (aa 4)) LQ)
 ak)))))
def NS(a:aQ):SM:=
 (aj (aA 2 dP)
 (aj (aA 3 dP)
 (aj (dt (dM 4) (er (ab (mN (aW .len) (ab (aa 0) ae)) ae))
 (NR a))
 (aj (bT (mN ip (ab (aa 2) (ab (aa 3) ae))))
 ak))))
def Tr(_:Nat):Prop:=True
section
variable{Ω ai:aD}{ρ:aR}{x k e l i a:Nat}{js:List Nat}{kvs CB jr:List (Key×D)}{E:dz}{P:Nat->Prop}{n:Str}{r:List Str}{rs:List (List Str)}{xs:List Str}{L:Str->List Str}
theorem zj{mi:IM}{me:EM}{cap:List Nat}(m:mi ρ Ω=.ok (.seq (.ref a)) Ω)(n:Ω[a]?=some (.lst (r.map .str)))(o:∀x∈r,∃j,me ([oS x]++dH cap ρ) Ω=.ok (.ref j) Ω/\Ω[j]?=some (.lst ((L x).map .str)))(t:r.length<=100) :
  ∃c,bF me true (ah .non) mi 0 cap ρ Ω=.ok (.ref Ω.length) (Ω++[.lst (c.map .ref)])/\jX Ω c (r.map L):=by
 obtain⟨u,p,q,c,rfl,g,rfl⟩:=iP (ρ:=ρ) (me:=me) (mc:=ah .non) (cap:=cap) (ds:=r.map .str) (λi f b=>∃c,f=c.map .ref/\jX b c ((r.take i).map L)/\b=Ω) m ⟨[],rfl,.nil,rfl⟩
  (λi f b h=>by
   obtain⟨_,_,_,rfl⟩:=h;rw[bu,aI,az n])
  (λi d f b k h=>by
   obtain⟨c,rfl,g,rfl⟩:=h;obtain⟨x,l,rfl⟩:=eD k;obtain⟨j,e,s⟩:=o x (List.mem_of_getElem? l);refine⟨.ref j,b,e,c++[j],by simp,?_,rfl⟩
   rw[List.take_succ,l,List.map_append];exact g.snoc s) (by simp;omega)
 rw[List.length_map,List.take_length]at g;exact⟨c,q,g⟩
theorem wN{b:Nat}{c:List (List Str)}(h:Ω[k]?=some (.lst (js.map .ref)))(d:jX Ω js c)(i:Ω[b]?=some (.lst [.ref a]))(j:Ω[a]?=some (.lst (r.map .str)))(l:c.length<=100) :
  bj .Add (.ref k) (.ref b) Ω=.ok (.ref Ω.length) (Ω++[.lst ((js++[a]).map .ref)])/\Rw (Ω++[.lst ((js++[a]).map .ref)]) Ω.length (js++[a]) (c++[r]):=by
 have f:=d.len;have g:=gN h i (by simp;omega)
 have e:js.map D.ref++[.ref a]=(js++[a]).map .ref:=by simp
 rw[e]at g;exact⟨g,aw,(d.snoc j).keep (fp:=[]) af.app (by simp)⟩
theorem tX{j:Nat}{md mk mv:EM}{aB:aD}(a:mv ρ Ω=.ok (.ref j) aB)(b:md ρ aB=.ok (.ref e) aB)(c:mk ρ aB=.ok (.str n) aB)(d:aB[e]?=some (.dK kvs))(f:kvs.length<=1000):fH md mk mv ρ Ω=.nx ρ (aB.set e (.dK (ej kvs (.inr n) (.ref j)))):=by
 unfold fH;rw[a,bR,b,bR,c,bR,tV d f]
theorem Fx{LM:aQ}(hM:Cz LM){a5 a6:Option D}(hx:Ω[x]?=some (.lst (xs.map .str)))(R:Rw Ω k js rs)(G:gn E L)(hE:nms E=xs.take i)(V:xs[i]?=some n)(m0:xs.Nodup)(K0:xs.length<=12)(n0:rs[i]?=some r)(o0:r.Nodup)(a0:r.length<=5)(B:∀y∈r,y∈xs.take i)
  (he:Ω[e]?=some (.dK jr)) (b0:aG Tr Ω jr E) (hl:Ω[l]?=some (.dK CB)) (C:aG Tr Ω CB (aO (nms E) L)) (c0:e≠l) :
  ∃u o p0 q0 T U ai,NR LM [oR x,oR k,oR e,oR l,oI i,a5,a6] Ω=.nx [oR x,oR k,oR e,oR l,oI i,p0,q0] ai/\af [e,l] Ω ai /\
   ai[e]?=some (.dK T)/\aG Tr ai T (E++[(n,u)])/\ai[l]?=some (.dK U)/\aG Tr ai U (aO (nms (E++[(n,u)])) (λx=>if x=n then n::o else L x))/\gn (E++[(n,u)]) (λx=>if x=n then n::o else L x):=by
 have L0:=(List.getElem?_eq_some_iff.mp V).1
 have M0:E.length=i:=by
  have:(nms E).length=E.length:=by simp[nms]
  rw[hE,List.length_take]at this;omega
 have X:n∉nms E:=by
  rw[hE];intro hm;obtain⟨j,F,h⟩:=bY hm;have:=(List.getElem?_inj (by omega) m0).mp (h.trans V.symm)
  omega
 rw[←hE]at B;obtain⟨j0,r0,e0⟩:=R.al.at n0;have s0:aN (.ref k) (.int i) Ω=.ok (.ref j0) Ω:=cj R.ce (L2.cZ (j:=i) (by simp[r0]))
 have r1:(aA 5 (mN (aW .list) (ab (m2 aN (aa 1) (aa 4)) ae))) [oR x,oR k,oR e,oR l,oI i,a5,a6] Ω=.nx [oR x,oR k,oR e,oR l,oI i,oR Ω.length,a6] (Ω++[.lst (r.map .str)]):=by
  rw[aU]
  have:(mN (aW .list) (ab (m2 aN (aa 1) (aa 4)) ae)) [oR x,oR k,oR e,oR l,oI i,a5,a6] Ω=.ok (.ref Ω.length) (Ω++[.lst (r.map .str)]):=by
   show(((aN (.ref k) (.int i) Ω).bind _).bind _)=_
   rw[s0];exact bS e0
  rw[this];rfl
 obtain⟨g1,K1⟩:=cX Ω (.lst (r.map .str));generalize Ω++[Cell.lst (r.map .str)]=aB at *;have t0:=K1.g hl;have f0:=C.keep K1 (by simp)
 have u0:aZ (aa 5) [oR x,oR k,oR e,oR l,oI i,oR Ω.length,a6] aB=.ok (.seq (.ref Ω.length)) aB:=fO rfl g1
 obtain⟨w,e2,h2⟩:=zj (L:=L) (me:=m2 aN (aa 1) (aa 0)) (cap:=[3]) u0 g1 (λy hy=>by
  obtain⟨j,hv,_,F⟩:=f0.at (n:=y) (by rw[au];exact B y hy)
  rw[a_ (B y hy)]at F;exact⟨j,gj (.inl t0) hv,F⟩) (by omega)
 obtain⟨g2,K2⟩:=cX aB (.lst (w.map .ref));have e2:Rz [oR x,oR k,oR e,oR l,oI i,oR Ω.length,a6] aB=.ok (.ref aB.length) (aB++[.lst (w.map .ref)]):=e2;generalize aB++[Cell.lst (w.map .ref)]=m at *;obtain⟨g3,K3⟩:=cX m (.lst [.ref Ω.length])
 have e3:(mN aY (ab (aa 5) ae)) [oR x,oR k,oR e,oR l,oI i,oR Ω.length,a6] m=.ok (.ref m.length) (m++[.lst [.ref Ω.length]]):=by
  show aY [.ref Ω.length] m=_
  rw[eH,if_pos (aK (by simp))]
 generalize m++[Cell.lst [.ref Ω.length]]=O at *;have P:=K2.trans K3;obtain⟨e4,R4⟩:=wN (K3.g g2) (h2.keep P (by simp)) g3 (P.g g1) (by simp;omega)
 have K4:af [] O (O++[Cell.lst ((w++[Ω.length]).map .ref)]):=af.app;generalize O++[Cell.lst ((w++[Ω.length]).map .ref)]=v0 at *;obtain⟨d,f,e5,K5,hd⟩:=hM v0 O.length (w++[Ω.length]) _ R4 (by simp;omega) (by have:=G.zi B a0;omega)
 have r2:aA 6 (NP LM) [oR x,oR k,oR e,oR l,oI i,oR Ω.length,a6] aB=.nx [oR x,oR k,oR e,oR l,oI i,oR Ω.length,some d] f:=by
  rw[aU];unfold NP;rw[bX,aC,dm,e2,ag,e3,ag,e4,ag,aL,ag,ag,iG,e5];rfl
 have w0:af [] Ω f:=((K1.trans P).trans K4).trans K5;have x0:=((P.trans K4).trans K5).g g1
 have hI:∃u o a b p,NQ [oR x,oR k,oR e,oR l,oI i,oR Ω.length,some d] f=.nx [oR x,oR k,oR e,oR l,oI i,oR a,oR b] p/\af [] f p/\p[a]?=some (.lst (u.map .str))/\p[b]?=some (.lst (o.map .str))/\u.Nodup/\u.length<=5/\(∀y∈u,y∈nms E)/\Mg (u.map L++[u]) o:=by
  rcases hd with rfl|⟨o,q,rfl,hq,M,_⟩
  .refine⟨[],[],f.length,f.length+1,(f++[.lst []])++[.lst []],?_,af.app.trans af.app,dq aw,?_,by simp,by simp,by simp,.done (by simp)⟩
   .have a1:(mN aY ae) [oR x,oR k,oR e,oR l,oI i,oR Ω.length,some .non] f=.ok (.ref f.length) (f++[.lst []]):=by rw[bX,aL,ag,eH,if_pos (aK (by simp))]
    have a2:(mN aY ae) [oR x,oR k,oR e,oR l,oI i,oR f.length,some .non] (f++[.lst []])=.ok (.ref (f.length+1)) ((f++[.lst []])++[.lst []]):=by
     rw[bX,aL,ag,eH,if_pos (aK (by simp))]
     simp
    unfold NQ;rw[dj];have:(m2 (aF .Is) (aa 6) (ah .non)) [oR x,oR k,oR e,oR l,oI i,oR Ω.length,some .non] f=.ok (.bl true) f:=rfl;rw[this,dn,cO,dI,bR,if_pos rfl,ao,aU,a1]
    show sq (aA 6 (mN aY ae) [oR x,oR k,oR e,oR l,oI i,oR f.length,some .non] (f++[.lst []])) _=_
    rw[aU,a2];rfl
   .have:=aw (Ω:=f++[Cell.lst []]) (c:=.lst []) (l:=[])
    simpa using this
  .exact⟨r,o,Ω.length,q,f,rfl,af.refl,x0,hq,o0,a0,B,M⟩
 obtain⟨u,o,a,b,p,r3,K6,ha,hb,q1,q2,q3,M⟩:=hI;have A:=w0.trans K6;obtain⟨G',y0⟩:=G.snoc X (by omega) q1 q2 q3 M
 have H:∀(m:aD) (b5 b6:Option D),af [e,l] Ω m->(m2 aN (aa 0) (aa 4)) [oR x,oR k,oR e,oR l,oI i,b5,b6] m=.ok (.str n) m:=λm b5 b6 K=>by
  have n1:x≠e:=λz=>by
   rw[z,he]at hx;cases hx
  have n2:x≠l:=λz=>by
   rw[z,hl]at hx;cases hx
  have z0:=K.get _ _ hx (by simp[n1,n2])
  show aN (.ref x) (.int i) m=_
  exact cj z0 (L2.cZ (j:=i) (by simp[V]))
 have I:=A.g he;have A0:=A.g hl;have g0:=b0.keep A (by simp)
 have h0:=C.keep A (by simp)
 have B0:jr.length<=1000:=by have:=b0.len;omega
 have C0:CB.length<=1000:=by have:=ze C;omega
 have r4:=tX (ρ:=[oR x,oR k,oR e,oR l,oI i,oR a,oR b]) (md:=aa 2) (mk:=m2 aN (aa 0) (aa 4)) (mv:=aa 5) (Ω:=p) (aB:=p) (j:=a) rfl rfl (H p _ _ (A.sub (by simp))) I B0
 have K7:af [e] p (p.set e (.dK (ej jr (.inr n) (.ref a)))):=af.set (by simp)
 have D0:=aP (e:=.dK (ej jr (.inr n) (.ref a))) I;have i0:=(g0.put X (j:=a) (r:=u) trivial ha).bD K7 (λj F ds=>by rw[List.mem_singleton.mp F,I];simp)
 have k0:=h0.bD K7 (λj F ds=>by rw[List.mem_singleton.mp F,I];simp)
 have G0:=K7.get _ _ A0 (by simpa using Ne.symm c0)
 have I0:=K7.get _ _ hb (by
  simp;exact λz=>by rw[z,I]at hb;cases hb)
 have Y:af [e,l] Ω (p.set e (.dK (ej jr (.inr n) (.ref a)))):=(A.sub (by simp)).trans (K7.sub (by simp))
 generalize p.set e (.dK (ej jr (.inr n) (.ref a)))=t at *;obtain⟨g8,K8⟩:=cX t (.lst [.str n])
 have e8:(mN aY (ab (m2 aN (aa 0) (aa 4)) ae)) [oR x,oR k,oR e,oR l,oI i,oR a,oR b] t=.ok (.ref t.length) (t++[.lst [.str n]]):=by
  rw[bX,aC,H t _ _ Y,ag,aL,ag,ag,eH,if_pos (aK (by simp))]
 generalize t++[Cell.lst [.str n]]=s at *
 have N0:o.length<=13:=by
  have:=G'.short (n:=n) (by simp[nms])
  simp at this;omega
 have e9:=gN g8 (K8.g I0) (by simp;omega)
 have ev:LQ [oR x,oR k,oR e,oR l,oI i,oR a,oR b] t=.ok (.ref s.length) (s++[.lst ([.str n]++o.map .str)]):=by
  unfold LQ;have:aa 6 [oR x,oR k,oR e,oR l,oI i,oR a,oR b] s=.ok (.ref b) s:=rfl;rw[dm,e8,ag,this,ag,e9]
 have g9:(s++[Cell.lst ([.str n]++o.map .str)])[s.length]?=some (.lst ((n::o).map .str)):=aw;have K9:af [] t (s++[Cell.lst ([.str n]++o.map .str)]):=K8.trans af.app;generalize s++[Cell.lst ([.str n]++o.map .str)]=J at *;have Q:=K9.g G0;have r5:=tX (ρ:=[oR x,oR k,oR e,oR l,oI i,oR a,oR b]) (md:=aa 3) (mk:=m2 aN (aa 0) (aa 4)) (mv:=LQ) (Ω:=t) (aB:=J) (j:=s.length) ev rfl (H J _ _ (Y.trans (K9.sub (by simp)))) Q C0
 have S:af [l] J (J.set l (.dK (ej CB (.inr n) (.ref s.length)))):=af.set (by simp)
 have Z:nms (E++[(n,u)])=nms E++[n]:=by simp[nms]
 have l0:aO (nms E) L++[(n,n::o)]=aO (nms (E++[(n,u)])) (λx=>if x=n then n::o else L x):=by
  rw[Z];unfold aO;rw[List.map_append]
  congr 1
  .refine List.map_congr_left λy hy=>?_
   show(y,L y)=(y,if y=n then n::o else L y)
   rw[y0 y hy]
  .simp
 have N:=((k0.keep K9 (by simp)).put (n:=n) (by rw[au];exact X) (j:=s.length) (r:=n::o) trivial g9).bD S (λj F ds=>by rw[List.mem_singleton.mp F,Q];simp)
 rw[l0]at N;have J0:∀j∈[l],∀ds,J[j]?≠some (.lst ds):=λj F ds=>by rw[List.mem_singleton.mp F,Q];simp
 refine⟨u,o,oR a,oR b,_,_,_,?_,(Y.trans (K9.sub (by simp))).trans (S.sub (by simp)),S.get _ _ (K9.g D0) (by simpa using c0),(i0.keep K9 (by simp)).bD S J0,aP Q,N,G'⟩
 unfold NR;rw[aH r1,aH r2,aH r3,aH r4,ao,r5];rfl
def CC(h:aQ):Prop:=∀(f:aD) (x k:Nat) (j:List Nat) (b:List Str) (g:List (List Str)),f[x]?=some (.lst (b.map .str))->Rw f k j g->g.length=b.length->b.Nodup->b.length<=12->(∀i r,g[i]?=some r->r.Nodup/\r.length<=5/\∀y∈r,y∈b.take i) ->
 ∃E L e l c d a,h [.ref x,.ref k] f=.ok (.tup [.ref e,.ref l]) a/\af [] f a/\nms E=b/\gn E L/\a[e]?=some (.dK c)/\aG Tr a c E/\a[l]?=some (.dK d)/\aG Tr a d (aO b L)/\e≠l
theorem Jg{S:aQ}(Y:Cz S):CC (cV 7 2 (NS S)):=by
 intro c x k Z q F T R a0 H I hr;rw[bh (by rfl),show aX 7 [D.ref x,.ref k]=[oR x,oR k,none,none,none,none,none]from rfl]
 obtain⟨g1,K1⟩:=cX c (.dK []);have l1:(c++[Cell.dK []]).length=c.length+1:=by simp
 have r1:aA 2 dP [oR x,oR k,none,none,none,none,none] c=.nx [oR x,oR k,oR c.length,none,none,none,none] (c++[Cell.dK []]):=rfl;generalize c++[Cell.dK []]=a at *;obtain⟨g2,U⟩:=cX a (.dK []);have r2:aA 3 dP [oR x,oR k,oR c.length,none,none,none,none] a=.nx [oR x,oR k,oR c.length,oR a.length,none,none,none] (a++[Cell.dK []]):=rfl;generalize a++[Cell.dK []]=n at *;have s:=K1.trans U;have J:=U.g g1;have w:=s.g T;have R2:=R.keep s;have lx:=aS T;have lk:=aS R.ce;have lj:=R.al.lt;have y:c.length≠a.length:=by omega
 have z:=gM w;rw[List.length_map]at z
 have M:er (ab (mN (aW .len) (ab (aa 0) ae)) ae) [oR x,oR k,oR c.length,oR a.length,none,none,none] n=.ok (.ints 0 q.length) n:=by
  have:(mN (aW .len) (ab (aa 0) ae)) [oR x,oR k,oR c.length,oR a.length,none,none,none] n=.ok (.int q.length) n:=z;rw[rJ,aC,this,ag,aL,ag,ag,u9,if_pos (ff (by omega) (by omega)),Int.toNat_natCast]
 unfold NS;rw[aH r1,aH r2,ao,bV,M,bR]
 refine br (R:=λr=>∃E L e l f h m,iC (sq r _)=.ok (.tup [.ref e,.ref l]) m/\af [] c m/\nms E=q/\gn E L/\m[e]?=some (.dK f)/\aG Tr m f E/\m[l]?=some (.dK h)/\aG Tr m h (aO q L)/\e≠l) (ds:=intsFrom 0 q.length)
  (λi N b=>∃E L f h C a5 a6,N=[oR x,oR k,oR c.length,oR a.length,C,a5,a6]/\af [c.length,a.length] n b/\nms E=q.take i/\gn E L/\b[c.length]?=some (.dK f)/\aG Tr b f E/\b[a.length]?=some (.dK h)/\aG Tr b h (aO (nms E) L)) (λ_ _ _ _=>rfl) ?_ ?_ fuel 0 _ _ (by rw[ek];unfold fuel;omega) (Nat.zero_le _) ⟨[],λ_=>[],[],[],none,none,none,rfl,af.refl,rfl,gn.nil,J,.nil,g2,.nil⟩
 .rintro i d N b hd ⟨E,L,f,h,C,a5,a6,rfl,K,u,G,O,t,P,p⟩
  obtain⟨rfl,hi⟩:=fJ hd;have A:q[i]?=some q[i]:=List.getElem?_eq_getElem hi;have B:F[i]?=some (F[i]'(by omega)):=List.getElem?_eq_getElem (by omega)
  obtain⟨p1,p2,p3⟩:=hr i _ B;have Q:=K.get _ _ w (by simp;omega)
  have R3:Rw b k Z F:=R2.vd K (by simp;omega) (λj hj=>by have:=lj j hj;simp;omega)
  refine⟨[oR x,oR k,oR c.length,oR a.length,some (.int (0+(i:Int))),a5,a6],rfl,?_⟩;rw[Int.zero_add];obtain⟨r',o,b5,b6,V,X,b0,e4,K4,q1,q2,q3,q4,G4⟩:=Fx Y (a5:=a5) (a6:=a6) Q R3 G u A H I B p1 p2 p3 O t P p y;rw[e4];refine⟨_,_,_,_,_,_,_,rfl,K.trans K4,?_,G4,q1,q2,q3,q4⟩;rw[List.take_succ,A,←u];simp[nms]
 .rintro N b ⟨E,L,f,h,C,a5,a6,rfl,K,u,G,O,t,P,p⟩
  rw[ek,List.take_length]at u;rw[u]at p;refine⟨E,L,c.length,a.length,f,h,b,?_,af.new s K (by simp;omega),u,G,O,t,P,p,y⟩
  rw[cT,ao,dJ]
  have:(mN ip (ab (aa 2) (ab (aa 3) ae))) [oR x,oR k,oR c.length,oR a.length,C,a5,a6] b=.ok (.tup [.ref c.length,.ref a.length]) b:=by
   show ip [.ref c.length,.ref a.length] b=_
   rw[jR,if_pos (aK (by simp))]
  rw[this];rfl
end
section
variable{Ω ai:aD}{ρ:aR}{e q h j:Nat}{kvs jr:List (Key×D)}{E:dz}{P:Nat->Prop}{n:Str}{r:List Str}{L:Str->List Str}
theorem cY.dW{a l:Nat}(H:cY P Ω h a l E L)(d:cP Ω e jr)(i:a≠e)(k:l≠e):cY P (Ω.set e (.dF jr)) h a l E L:=by
 obtain⟨m,b,f,n,o,p,q⟩:=H;have K:af [e] Ω (Ω.set e (.dF jr)):=af.set (by simp)
 have g:∀j∈[e],∀c,Ω[j]?≠some (.lst c):=λj r c=>by rw[List.mem_singleton.mp r];exact d.nl c
 exact⟨m,b,cS f (λz=>d.ni _ _ (z▸f)),cS n i,o.bD K g,cS p k,q.bD K g⟩
theorem bG.hlt(H:bG P Ω h E L):h<Ω.length:=by
 obtain⟨_,_,_,_,z,_⟩:=H;exact aS z
theorem bG.nl(H:bG P Ω h E L){ds:List D}:Ω[h]?≠some (.lst ds):=by
 obtain⟨_,_,_,_,z,_⟩:=H;rw[z];simp
def Fy(a:Key×D):D:=.tup [j_ a.1,a.2]
theorem vo(h:Ω[e]?=some (.dF kvs)):en (.items e) Ω=some (kvs.map Fy):=by simp only[en,h];rfl
def NT(a:aQ):SM:=
 (aj (aA 4 (mN (aW .list) (ab (aa 3) ae)))
 (aj (bA (ay "House" "add" (λb=>a (b++[.non])) (aa 1) (ab (aa 2) (ab (aa 4) ae))))
 (aj (bA (dG kH bQ (aa 4) (ab (ah (.str "zz")) ae)))
 ak)))
def NU(a b:aQ):SM:=
 (aj (aA 1 (mN (iU "House" a) ae))
 (aj (dt (eg [2,3]) (iz (aa 0))
 (NT b))
 (aj (bT (aa 1))
 ak)))
theorem Fz{f:aQ}(K:wJ f){i:Nat}{a0 a4:Option D}(H:bG Tr Ω h (E.take i) L)(G:gn E L)(l:E[i]?=some (n,r))(M:nS n)(N:Ω[j]?=some (.lst (r.map .str))) :
  ∃o ai,NT f [a0,oR h,oS n,oR j,a4] Ω=.nx [a0,oR h,oS n,oR j,o] ai/\wW Tr ai h Ω.length (E.take (i+1)) L/\af [h] Ω ai:=by
 have O:=(List.getElem?_eq_some_iff.mp l).1;have C:=G.len;have b:E.take (i+1)=E.take i++[(n,r)]:=by rw[List.take_succ,l];rfl
 have g:=G.take (i+1)
 have p:n∉nms (E.take i):=by
  have:=g.nd;rw[b]at this;simp only[nms,List.map_append,List.map_cons,List.map_nil]at this;have P:=(List.nodup_append.mp this).2.2;exact λz=>P n z n (by simp) rfl
 obtain⟨Q,q,R⟩:=G.el i _ l;have q:r.length<=5:=q
 have S:(aA 4 (mN (aW .list) (ab (aa 3) ae))) [a0,oR h,oS n,oR j,a4] Ω=.nx [a0,oR h,oS n,oR j,oR Ω.length] (Ω++[.lst (r.map .str)]):=by
  rw[aU];have:(mN (aW .list) (ab (aa 3) ae)) [a0,oR h,oS n,oR j,a4] Ω=.ok (.ref Ω.length) (Ω++[.lst (r.map .str)]):=bS N;rw[this];rfl
 obtain⟨F,s⟩:=cX Ω (.lst (r.map .str));have l1:(Ω++[Cell.lst (r.map .str)]).length=Ω.length+1:=by simp
 have I:bG (λx=>x≠Ω.length) (Ω++[Cell.lst (r.map .str)]) h (E.take i) L:=(H.lt.imp (P':=λx=>x≠Ω.length) λx T=>by omega).keep s
 have lh:=H.hlt;generalize Ω++[Cell.lst (r.map .str)]=e at *
 obtain⟨U,V,a,X,t,u,f1,f2⟩:=K e h Ω.length (E.take i) L L _ n r (E.take i).length .non I F M p (by rw[List.length_take];omega) Q q (by rw[gp];exact R) (Nat.le_refl _) (.inr ⟨rfl,rfl⟩) (by rw[eT,←b];exact g.gd) (by rw[eT,←b];exact g.rQ) (by
  rw[eT,←b];intro m Y;have:=g.short Y;omega) (λx T=>by omega)
 rw[eT,←b]at t
 have Z:(bA (ay "House" "add" (λxs=>f (xs++[.non])) (aa 1) (ab (aa 2) (ab (aa 4) ae)))) [a0,oR h,oS n,oR j,oR Ω.length] e=.nx [a0,oR h,oS n,oR j,oR Ω.length] a:=by
  rw[bL,bx I rfl (by decide)]
  show bK (iA (f [.ref h,.str n,.ref Ω.length,.non] e)) _=_
  rw[X];rfl
 have w:=u.get _ _ F (by simp;omega)
 have y:=ee (d:=.str "zz") w (by simp;omega)
 have r3:(bA (dG kH bQ (aa 4) (ab (ah (.str "zz")) ae))) [a0,oR h,oS n,oR j,oR Ω.length] a=.nx [a0,oR h,oS n,oR j,oR Ω.length] (a.set Ω.length (.lst (r.map .str++[.str "zz"]))):=by
  rw[bL,dw (x:=.ref Ω.length) (ai:=a) rfl (dr w)]
  show bK (bQ (.ref Ω.length) [.str "zz"] a) _=_
  rw[y];rfl
 have A:af [Ω.length] a (a.set Ω.length (.lst (r.map .str++[.str "zz"]))):=af.set (by simp)
 have B:=t.rZ _ _ w;refine⟨oR Ω.length,_,?_,⟨U,V,(t.keep A (by simpa using B.1) (by simpa using B.2.1) (by simpa using B.2.2) (by simp)).imp λ_ _=>trivial,by omega,by omega⟩,⟨Nat.le_trans s.len (Nat.le_trans u.len A.len),λk c J hn=>A.get k c (u.get k c (s.get k c J (by simp)) hn) (by have:=aS J;simp;omega)⟩⟩
 unfold NT;rw[aH S,aH Z,ao,r3];rfl
def NV(d:aQ):Prop:=∀(c:aD) (e:Nat) (b:List (Key×D)) (E:dz) (L:Str->List Str),cP c e b->aG Tr c b E->gn E L->(∀n∈nms E,nS n) ->
 ∃h a,d [.ref e] c=.ok (.ref h) a/\wW Tr a h c.length E L/\af [e] c a/\a[e]?=some (.dF b)/\c.length<=h
theorem Jh{A Q:aQ}(Z:Fi A)(hA:wJ Q):NV (cV 5 1 (NU A Q)):=by
 intro b e g E L S T G hv;rw[bh (by rfl),show aX 5 [D.ref e]=[oR e,none,none,none,none]from rfl]
 obtain⟨eN,lN,f,e1,H1,o,n1,n2⟩:=Z b L Tr;have le:=S.lt
 have r1:(aA 1 (mN (iU "House" A) ae)) [oR e,none,none,none,none] b=.nx [oR e,oR b.length,none,none,none] f:=by
  rw[aU,bX,aL,ag,e1];rfl
 have l:=S.keep o (by simp)
 have B:=T.keep o (by simp)
 have U:=H1.dW l (by omega) (by omega)
 have V:=vg l;have u:af [e] f (f.set e (.dF g)):=af.set (by simp)
 have C:=B.bD u (λj q ds=>by rw[List.mem_singleton.mp q];exact l.nl ds)
 have F:iz (aa 0) [oR e,oR b.length,none,none,none] f=.ok (.items e) (f.set e (.dF g)):=Dr l;generalize f.set e (.dF g)=H at *;have X:=G.len;have I:=T.len;unfold NU;rw[aH r1,ao,bV,F,bR]
 refine br (R:=λr=>∃h m,iC (sq r _)=.ok (.ref h) m/\wW Tr m h b.length E L/\af [e] b m/\m[e]?=some (.dF g)/\b.length<=h) (ds:=g.map Fy)
  (λi w a=>∃J M a4,w=[oR e,oR b.length,J,M,a4]/\wW Tr a b.length b.length (E.take i) L/\af [b.length] H a) ?_ ?_ ?_ fuel 0 _ _ (by rw[List.length_map];unfold fuel;omega) (Nat.zero_le _) ⟨none,none,none,rfl,by rw[List.take_zero];exact⟨eN,lN,U,by omega,by omega⟩,af.refl⟩
 .rintro i w a ⟨_,_,_,_,_,K⟩
  exact vo (K.get _ _ V (by simp;omega))
 .rintro i d w a s ⟨J,M,a4,rfl,x,K⟩
  have N:=C.bD K (λj q ds=>by rw[List.mem_singleton.mp q];exact U.at.nl)
  rw[List.getElem?_map]at s;obtain⟨y,O,rfl⟩:=Option.map_eq_some_iff.mp s;obtain⟨⟨n,r⟩,Y,z,j,q,_,t⟩:=aJ.get (R:=λ(y:Key×D) (p:Str×List Str)=>y.1=.inr p.1/\∃j,y.2=.ref j/\Tr j/\a[j]?=some (.lst (p.2.map .str))) N O
  have P:Fy y=.tup [.str n,.ref j]:=by
   unfold Fy;rw[z,q];rfl
  rw[P];refine⟨[oR e,oR b.length,oS n,oR j,a4],rfl,?_⟩;obtain⟨b0,c0,e4,H4,K4⟩:=Fz hA (a0:=oR e) (a4:=a4) x.at G Y (hv n (List.mem_of_getElem? (gO Y))) t;rw[e4];obtain⟨e5,l5,H5,b1,b2⟩:=H4;have e0:=K.len;have f0:=u.len;have g0:=o.len;exact⟨_,_,_,rfl,⟨e5,l5,H5,by omega,by omega⟩,K.trans K4⟩
 .rintro w a ⟨J,M,a4,rfl,x,K⟩
  rw[List.length_map,←I,List.take_length]at x;refine⟨b.length,a,rfl,x,⟨Nat.le_trans o.len (Nat.le_trans u.len K.len),λk c z hn=>K.get k c (u.get k c (o.get k c z (by simp)) hn) (by have:=aS z;simp;omega)⟩,K.get _ _ V (by simp;omega),Nat.le_refl _⟩
end
section
variable{Ω ai:aD}{ρ:aR}{e q h j k:Nat}{js:List Nat}{kvs jr:List (Key×D)}{E:dz}{P:Nat->Prop}{n:Str}{r row:List Str}{rs:List (List Str)}{L:Str->List Str}
end
section
variable{Ω ai:aD}{ρ:aR}{e q h j k:Nat}{js:List Nat}{kvs jr:List (Key×D)}{E:dz}{P:Nat->Prop}{n:Str}{r row:List Str}{rs:List (List Str)}{L:Str->List Str}
end
theorem CD:∃e,gi e (pureOf (cV 8 3 oF)):=by
 have h:∀c t m:Int,∃r,0<=t->t<100000->0<m->0<=r/\r<m/\pureOf (cV 8 3 oF) [.int c,.int t,.int m]=.ok (false,.int r):=λc t m=>by
  by_cases d:0<=t/\t<100000/\0<m
  .obtain⟨r,f,g,i⟩:=Cd (c:=c) d.1 d.2.1 d.2.2
   exact⟨r,λ_ _ _=>⟨f,g,i⟩⟩
  .exact⟨0,λa b c=>absurd ⟨a,b,c⟩ d⟩
 exact⟨λc t m=>(h c t m).choose,λc t m=>(h c t m).choose_spec⟩
def p9:SM:=
 (aj (e_ (m2 (aF .Lt) (aa 1) (mN (aW .len) (ab (aa 0) ae)))
 (aj (bT (m2 aN (aa 0) (aa 1)))
 ak)
 ak)
 (aj (bT (ah (.int 0)))
 ak))
theorem Ji(ns:List Int):EG (SC ns)=true:=by
 show(ns.map D.int).all fD=true
 rw[List.all_eq_true];intro d a;obtain⟨i,_,rfl⟩:=List.mem_map.mp a;rfl
theorem zk:iF (λns k=>ns.getD k 0) (pureOf (cV 2 2 p9)):=by
 intro ns k
 have b:[SC ns,D.int k].all EG=true:=by
  simp only[List.all_cons,Ji,List.all_nil];rfl
 have d:aX 2 [SC ns,D.int k]=[some (SC ns),some (.int k)]:=rfl
 have a:aW .len [SC ns] []=.ok (.int ns.length) []:=by
  show ax.ok (D.int ((ns.map D.int).length:Nat)) []=_
  rw[List.length_map]
 refine oE (ai:=[]) b ?_ rfl;rw[bh (by rfl),d]
 by_cases h:k<ns.length
 .have c:(k:Int)<(ns.length:Int):=by omega
  have e:L2.kx (ns.map D.int) (k:Int)=some (.int (ns.getD k 0)):=L2.cZ (by simp[h])
  have f:aN (SC ns) (.int k) []=.ok (.int (ns.getD k 0)) []:=by
   unfold aN;rw[gI,gI,lF]
   show jg (ixs [] (some (ns.map D.int)) (.int k)) _=_
   rw[yZ e];rfl
  simp[p9,a,c,f,-List.getD_eq_getElem?_getD]
 .have c:¬ (k:Int)<(ns.length:Int):=by omega
  have e:ns.getD k 0=0:=by rw[List.getD_eq_getElem?_getD,List.getElem?_eq_none (by omega)];rfl
  show _=ax.ok (D.int (ns.getD k 0)) []
  rw[e];simp[p9,a,c]
section
variable{Ω ai:aD}{ρ:aR}{F:List D->Out Rs}{μ:Int->Int->Int->Int}{c:Int}{m:Nat}
end
section
variable{Ω ai:aD}{ρ:aR}{F:List D->Out Rs}{μ:Int->Int->Int->Int}{c:Int}{m:Nat}{S:Str}
def wO(i j:Nat):EM:=(m2 (bj .Add) (dg (aa i) false (aa j) true (ah .non)) (dg (aa i) true (ah .non) false (aa j)))
theorem tY{i j q t:Nat}{a:List Str}(m:ρ[i]?=some (oR q))(o:ρ[j]?=some (oI t))(l:Ω[q]?=some (.lst (a.map .str)))(x:a.length<=1000):∃k ai,wO i j ρ Ω=.ok (.ref k) ai/\ai[k]?=some (.lst ((a.drop t++a.take t).map .str))/\af [] Ω ai/\Ω.length<=k:=by
 have p:=y6 (i:=t) l;obtain⟨r,d⟩:=cX Ω (.lst ((a.drop t).map .str));have e:=d.g l;generalize Ω++[Cell.lst ((a.drop t).map .str)]=b at *;have s:=jl (n:=t) e;obtain⟨u,f⟩:=cX b (.lst ((a.take t).map .str));have h:=f.g r;generalize b++[Cell.lst ((a.take t).map .str)]=c at *;have w:=gN h u (by simp;omega)
 refine⟨c.length,c++[.lst ((a.drop t).map .str++(a.take t).map .str)],?_,by rw[List.map_append];exact aw,(d.trans f).trans af.app,(d.trans f).len⟩
 unfold wO;simp only[dm,eS,de,m,o,dc,ag,vb,va,vc,p,s,w]
theorem ny{t:Nat}(a:List Str):(a.drop t++a.take t).Perm a:=by
 have:=(List.perm_append_comm (l₁:=a.drop t) (l₂:=a.take t));rwa[List.take_append_drop]at this
def tZ(S:Str):Prop:=S.cps.toList.length=8/\∀x∈S.cps.toList,97<=x/\x<=122
theorem FA(a b c2 c d e f g:Nat):Eh .join (.str "") (.tup [.lst [.str (bE a),.str (bE b),.str (bE c2),.str (bE c),.str (bE d),.str (bE e),.str (bE f),.str (bE g)]])=.ok (false,.str ⟨#[a,b,c2,c,d,e,f,g]⟩):=rfl
def RA(F:List D->Out Rs):EM:=(bF (m2 aN (aa 2) (mN (cp F) (ab (aa 1) (ab (aa 0) (ab (ah (.int 26)) ae))))) true (ah .non) (er (ab (ah (.int 8)) ae)) 0 [0,2])
def LR(F:List D->Out Rs):EM:=(dG Ey rg (ah (.str "")) (ab (RA F) ae))
theorem FC(a:gi μ F){a1 a3 a4 a5 a6 a7 a8 a9 a10:Option D}:∃S ai,LR F [oI c,a1,oS abc,a3,a4,a5,a6,a7,a8,a9,a10] Ω=.ok (.str S) ai/\tZ S/\af [] Ω ai:=by
 have b:nH 8=true:=ff (by omega) (by omega)
 have h:=dv (Ω:=Ω) (ai:=Ω) (ρ:=[oI c,a1,oS abc,a3,a4,a5,a6,a7,a8,a9,a10]) (me:=m2 aN (aa 2) (mN (cp F) (ab (aa 1) (ab (aa 0) (ab (ah (.int 26)) ae))))) (nc:=true) (mc:=ah .non) (mi:=er (ab (ah (.int 8)) ae)) (cap:=[0,2]) (src:=.ints 0 8) (ds:=intsFrom 0 8) (p:=λ_=>true)
  (g:=λd=>match d with|.int j=>.str (bE (97+(μ c j 26).toNat))|_=>.non) (by simp[b]) rfl (λd f=>rfl) (λd f _=>by
   obtain⟨i,o⟩:=List.mem_iff_getElem?.mp f;obtain⟨rfl,r⟩:=fJ o;obtain⟨k,m,q⟩:=a c (0+(i:Int)) 26 (by omega) (by omega) (by omega)
   generalize (0:Int)+(i:Int)=j at *;have e:=uX k m;simp[dH,q,e]) (by rw[ek];omega)
 rw[List.filter_eq_self.mpr (by simp)]at h
 have s:∀j:Int,0<=j->j<100000->97<=97+(μ c j 26).toNat/\97+(μ c j 26).toNat<=122:=λj t u=>by
  obtain⟨k,m,_⟩:=a c j 26 t u (by omega)
  omega
 refine⟨⟨#[97+(μ c (0+0) 26).toNat,97+(μ c (0+1) 26).toNat,97+(μ c (0+2) 26).toNat,97+(μ c (0+3) 26).toNat,97+(μ c (0+4) 26).toNat,97+(μ c (0+5) 26).toNat,97+(μ c (0+6) 26).toNat,97+(μ c (0+7) 26).toNat]⟩,_,?_,?_,af.app (l:=[.lst ((intsFrom 0 8).map λd=>match d with|.int j=>.str (bE (97+(μ c j 26).toNat))|_=>.non)])⟩
 .unfold LR
  rw[dw (x:=.str "") (ai:=Ω) rfl rfl]
  have w:fA (Ω++[.lst ((intsFrom 0 8).map λd=>match d with|.int j=>.str (bE (97+(μ c j 26).toNat))|_=>.non)]) 8 (.ref Ω.length)=some (.lst [.str (bE (97+(μ c (0+0) 26).toNat)),.str (bE (97+(μ c (0+1) 26).toNat)),.str (bE (97+(μ c (0+2) 26).toNat)),.str (bE (97+(μ c (0+3) 26).toNat)),.str (bE (97+(μ c (0+4) 26).toNat)),.str (bE (97+(μ c (0+5) 26).toNat)),.str (bE (97+(μ c (0+6) 26).toNat)),.str (bE (97+(μ c (0+7) 26).toNat))]):=
   lD aw rfl
  unfold RA;rw[aC,h];simp only[ag,aL,rg,pT,lC,w,pS,FA,B5]
 .refine⟨rfl,λx n=>?_⟩
  simp only[List.mem_cons,List.not_mem_nil,or_false]at n;rcases n with rfl|rfl|rfl|rfl|rfl|rfl|rfl|rfl<;>exact s _ (by omega) (by omega)
noncomputable def k9(S:Str)(i:Nat):Str:=⟨(S.cps.toList.take (i+1)).toArray⟩
theorem Jj(h:tZ S){i:Nat}(b:i<8):nS (k9 S i):=by
 have c:(k9 S i).length=i+1:=by
  show(S.cps.toList.take (i+1)).toArray.size=_
  have:=h.1;rw[List.size_toArray,List.length_take];omega
 refine⟨by omega,by omega,λx a=>h.2 x (List.mem_of_mem_take (i:=i+1) ?_)⟩
 have:(k9 S i).cps.toList=S.cps.toList.take (i+1):=rfl;rwa[this]at a
theorem FD(h:tZ S)(i:m<=8):((List.range m).map (k9 S)).Nodup:=by
 refine List.pairwise_map.mpr (List.Pairwise.imp_of_mem (λ{a b} d e c f=>c ?_) (List.nodup_range (n:=m)))
 have j:=List.mem_range.mp d;have k:=List.mem_range.mp e;have l:=h.1;have g:=congrArg (λz:Str=>z.cps.toList.length) f
 simp only[k9,List.length_take]at g;omega
def NW:EM:=(bF (dg (aa 1) true (ah .non) false (m2 (bj .Add) (aa 0) (ah (.int 1)))) true (ah .non) (er (ab (aa 1) ae)) 0 [3])
theorem FE(h:tZ S)(o:m<=12){a0 a2 a4 a5 a6 a7 a8 a9 a10:Option D}:NW [a0,oI m,a2,oS S,a4,a5,a6,a7,a8,a9,a10] Ω=.ok (.ref Ω.length) (Ω++[.lst (((List.range m).map (k9 S)).map .str)]):=by
 have a:nH (m:Int)=true:=ff (by omega) (by omega)
 have k:S.length=8:=by simpa[Str.length]using h.1
 have b:small S.length=true:=aK (by omega)
 have c:=dv (Ω:=Ω) (ai:=Ω) (ρ:=[a0,oI m,a2,oS S,a4,a5,a6,a7,a8,a9,a10]) (me:=dg (aa 1) true (ah .non) false (m2 (bj .Add) (aa 0) (ah (.int 1)))) (nc:=true) (mc:=ah .non) (mi:=er (ab (aa 1) ae)) (cap:=[3]) (src:=.ints 0 m) (ds:=intsFrom 0 m) (p:=λ_=>true)
  (g:=λd=>match d with|.int j=>.str ⟨(dC S.cps.toList none (some (j+1))).toArray⟩|_=>.non) (by simp[a]) rfl (λd f=>rfl) (λd f _=>by
   obtain⟨i,l⟩:=List.mem_iff_getElem?.mp f;obtain⟨rfl,n⟩:=fJ l;generalize (0:Int)+(i:Int)=j;simp[dH,b]) (by rw[ek];omega)
 rw[List.filter_eq_self.mpr (by simp),kj,List.map_map]at c
 have e:((List.range m).map ((λd:D=>match d with|.int j=>D.str ⟨(dC S.cps.toList none (some (j+1))).toArray⟩|_=>.non) ∘ λ(i:Nat)=>D.int i))=((List.range m).map (k9 S)).map .str:=by
  rw[List.map_map];refine List.map_congr_left λi _=>?_
  show D.str ⟨(dC S.cps.toList none (some ((i:Int)+1))).toArray⟩=.str (k9 S i)
  rw[show(i:Int)+1=((i+1:Nat):Int)by omega,tN]
  rfl
 rw[e]at c;exact c
def sgn(f st:Int)(i:Nat):Nat:=97+((f+st*(i:Int))%26).toNat
def NX:EM:=(bF (m2 aN (aa 2) (m2 (bj .Mod) (m2 (bj .Add) (aa 1) (m2 (bj .Mult) (aa 3) (aa 0))) (ah (.int 26)))) true (ah .non) (er (ab (aa 1) ae)) 0 [8,2,9])
theorem FF{f st:Int}(k:1<=st)(s:st<26)(t:m<=12){a0 a3 a4 a5 a6 a7 a10:Option D}:NX [a0,oI m,oS abc,a3,a4,a5,a6,a7,oI f,oI st,a10] Ω=.ok (.ref Ω.length) (Ω++[.lst (((List.range m).map λi=>bE (sgn f st i)).map .str)]):=by
 have a:nH (m:Int)=true:=ff (by omega) (by omega)
 have l:lT st=true:=jO (by omega) (by omega)
 have b:=dv (Ω:=Ω) (ai:=Ω) (ρ:=[a0,oI m,oS abc,a3,a4,a5,a6,a7,oI f,oI st,a10]) (me:=m2 aN (aa 2) (m2 (bj .Mod) (m2 (bj .Add) (aa 1) (m2 (bj .Mult) (aa 3) (aa 0))) (ah (.int 26)))) (nc:=true) (mc:=ah .non) (mi:=er (ab (aa 1) ae)) (cap:=[8,2,9]) (src:=.ints 0 m) (ds:=intsFrom 0 m) (p:=λ_=>true)
  (g:=λd=>match d with|.int j=>.str (bE (97+((f+st*j)%26).toNat))|_=>.non) (by simp[a]) rfl (λd h=>rfl) (λd h _=>by
   obtain⟨i,n⟩:=List.mem_iff_getElem?.mp h;obtain⟨rfl,o⟩:=fJ n;generalize u:(0:Int)+(i:Int)=j;have r:lT j=true:=jO (by omega) (by omega)
   have c:=uX (q:=(f+st*j)%26) (by omega) (by omega)
   simp[dH,l,r,c]) (by rw[ek];omega)
 rw[List.filter_eq_self.mpr (by simp),kj,List.map_map]at b
 have e:((List.range m).map ((λd:D=>match d with|.int j=>D.str (bE (97+((f+st*j)%26).toNat))|_=>.non) ∘ λ(i:Nat)=>D.int i))=((List.range m).map λi=>bE (sgn f st i)).map .str:=by
  rw[List.map_map];exact List.map_congr_left λi _=>rfl
 rw[e]at b;exact b
noncomputable def t6(S:Str)(a pl:Nat)(z:Str):Str:=((⟨(S.cps.toList.take pl).toArray⟩:Str)++z)++(⟨((S.cps.toList.drop (pl+1)).take (a - (pl+1))).toArray⟩:Str)
theorem t7{a pl:Nat}{c:Nat}:(t6 S a pl (bE c)).cps.toList=(S.cps.toList.take pl++[c])++(S.cps.toList.drop (pl+1)).take (a - (pl+1)):=by
 unfold t6;rw[Str.cps_append,Str.cps_append];simp[bE]
theorem NY(h:tZ S){a pl:Nat}{c:Nat}(hz:a<=8)(d:pl<a)(b:97<=c/\c<=122):nS (t6 S a pl (bE c)):=by
 have e:=h.1
 have f:(t6 S a pl (bE c)).length=a:=by
  have:(t6 S a pl (bE c)).length=(t6 S a pl (bE c)).cps.toList.length:=by simp[Str.length]
  rw[this,t7];simp only[List.length_append,List.length_take,List.length_drop,List.length_singleton];omega
 refine⟨by omega,by omega,λx hx=>?_⟩
 rw[t7]at hx;simp only[List.mem_append,List.mem_singleton]at hx;rcases hx with (hx|rfl)|hx
 .exact h.2 x (List.mem_of_mem_take hx)
 .exact b
 .exact h.2 x (List.mem_of_mem_drop (List.mem_of_mem_take hx))
theorem Jk(h:tZ S){e pl:Nat}{f st:Int}(r:m<=12)(g:st=1\/st=3\/st=5\/st=7):((List.range m).map λi=>t6 S e pl (bE (sgn f st i))).Nodup:=by
 refine List.pairwise_map.mpr (List.Pairwise.imp_of_mem (λ{a b} j k c l=>c ?_) (List.nodup_range (n:=m)))
 have s:=List.mem_range.mp j;have t:=List.mem_range.mp k;have d:=congrArg (λz:Str=>z.cps.toList) l
 simp only[t7]at d;have o:=List.append_cancel_right d;have p:=List.append_cancel_left o;have q:sgn f st a=sgn f st b:=by simpa using p
 unfold sgn at q;rcases g with rfl|rfl|rfl|rfl<;>omega
def RC:EM:=(bF (m2 (bj .Add) (m2 (bj .Add) (dg (aa 3) true (ah .non) false (aa 2)) (aa 0)) (dg (aa 3) false (m2 (bj .Add) (aa 2) (ah (.int 1))) false (aa 1))) true (ah .non) (aZ (aa 10)) 0 [6,7,3])
theorem FG(h:tZ S){a pl q:Nat}{b:List Nat}(hz:a<=8)(u:pl<a)(n:Ω[q]?=some (.lst ((b.map bE).map .str)))(x:b.length<=1000){a0 a1 a2 a4 a5 a8 a9:Option D}:RC [a0,a1,a2,oS S,a4,a5,oI a,oI pl,a8,a9,oR q] Ω=.ok (.ref Ω.length) (Ω++[.lst ((b.map λc=>t6 S a pl (bE c)).map .str)]):=by
 have r:S.length=8:=by simpa[Str.length]using h.1
 have f:small S.length=true:=aK (by omega)
 have y:=h.1
 have j:=dv (Ω:=Ω) (ai:=Ω) (ρ:=[a0,a1,a2,oS S,a4,a5,oI a,oI pl,a8,a9,oR q]) (me:=m2 (bj .Add) (m2 (bj .Add) (dg (aa 3) true (ah .non) false (aa 2)) (aa 0)) (dg (aa 3) false (m2 (bj .Add) (aa 2) (ah (.int 1))) false (aa 1))) (nc:=true) (mc:=ah .non) (mi:=aZ (aa 10)) (cap:=[6,7,3]) (src:=.seq (.ref q)) (ds:=(b.map bE).map .str) (p:=λ_=>true)
  (g:=λd=>match d with|.str z=>.str (t6 S a pl z)|_=>.non) (by
   rw[bB];exact bo (by rw[aI,az n])) (by rw[bu,aI,az n]) (λd o=>rfl) (λd o _=>by
   obtain⟨z,k,rfl⟩:=List.mem_map.mp o;obtain⟨c,_,rfl⟩:=List.mem_map.mp k;have s:dC S.cps.toList none (some (pl:Int))=S.cps.toList.take pl:=tN _ _
   have t:dC S.cps.toList (some ((pl:Int)+1)) (some (a:Int))=(S.cps.toList.drop (pl+1)).take (a - (pl+1)):=by
    rw[show(pl:Int)+1=((pl+1:Nat):Int)by omega,yT]
   have one:(bE c).length=1:=rfl
   have A:(⟨(S.cps.toList.take pl).toArray⟩:Str).length<=8:=by
    show(S.cps.toList.take pl).toArray.size<=8
    rw[List.size_toArray,List.length_take];omega
   have B:(⟨((S.cps.toList.drop (pl+1)).take (a - (pl+1))).toArray⟩:Str).length<=8:=by
    show((S.cps.toList.drop (pl+1)).take (a - (pl+1))).toArray.size<=8
    rw[List.size_toArray,List.length_take];omega
   have l:small ((⟨(S.cps.toList.take pl).toArray⟩:Str).length+(bE c).length)=true:=aK (by omega)
   have m:small (((⟨(S.cps.toList.take pl).toArray⟩:Str)++bE c).length+(⟨((S.cps.toList.drop (pl+1)).take (a - (pl+1))).toArray⟩:Str).length)=true:=aK (by rw[Str.length_append];omega)
   generalize C:bE c=w at *;simp[dH,f,s,t,l,m,t6]) (by simp;omega)
 rw[List.filter_eq_self.mpr (by simp),List.map_map,List.map_map]at j
 have e:(b.map (((λd:D=>match d with|.str z=>D.str (t6 S a pl z)|_=>.non) ∘ D.str) ∘ bE))=(b.map λc=>t6 S a pl (bE c)).map .str:=by
  rw[List.map_map];exact List.map_congr_left λi _=>rfl
 rw[e]at j;exact j
def Gw(F:List D->Out Rs):SM:=(e_ (jI (m2 (aF .LtE) (aa 1) (ah (.int 8))) (m2 (aF .Eq) (mN (cp F) (ab (aa 0) (ab (ah (.int 9)) (ab (ah (.int 4)) ae)))) (ah (.int 1))))
 (aj (aA 5 NW)
 (aj (bT (wO 5 4))
 ak))
 ak)
def NZ(F:List D->Out Rs):SM:=
 (aj (aA 2 (ah (.str "abcdefghijklmnopqrstuvwxyz")))
 (aj (aA 3 (LR F))
 (aj (aA 4 (mN (cp F) (ab (aa 0) (ab (ah (.int 8)) (ab (aa 1) ae)))))
 (aj (Gw F)
 (aj (aA 6 (m2 (bj .Add) (ah (.int 1)) (mN (cp F) (ab (aa 0) (ab (ah (.int 10)) (ab (ah (.int 8)) ae))))))
 (aj (aA 7 (mN (cp F) (ab (aa 0) (ab (ah (.int 11)) (ab (aa 6) ae)))))
 (aj (aA 8 (mN (cp F) (ab (aa 0) (ab (ah (.int 12)) (ab (ah (.int 26)) ae)))))
 (aj (aA 9 (m2 aN (mN aY (ab (ah (.int 1)) (ab (ah (.int 3)) (ab (ah (.int 5)) (ab (ah (.int 7)) ae))))) (mN (cp F) (ab (aa 0) (ab (ah (.int 13)) (ab (ah (.int 4)) ae))))))
 (aj (aA 10 NX)
 (aj (bT RC)
 ak))))))))))
def CF(N:aQ):Prop:=∀(d:aD) (c:Int) (m:Nat),1<=m->m<=12->∃(b:List Str) (q:Nat) (a:aD),b.Nodup/\(∀x∈b,nS x)/\b.length=m/\N [.int c,.int m] d=.ok (.ref q) a/\a[q]?=some (.lst (b.map .str))/\af [] d a
theorem Jl(l:gi μ F):CF (cV 11 2 (NZ F)):=by
 intro Ω c m Z I;rw[bh (by rfl),show aX 11 [D.int c,.int m]=[oI c,oI m,none,none,none,none,none,none,none,none,none]from rfl]
 obtain⟨t0,t1,ht⟩:=l c 8 (m:Int) (by omega) (by omega) (by omega)
 obtain⟨w0,w1,C⟩:=l c 9 4 (by omega) (by omega) (by omega)
 obtain⟨z0,z1,hz⟩:=l c 10 8 (by omega) (by omega) (by omega)
 generalize μ c 8 (m:Int)=t at *;generalize μ c 9 4=w at *;generalize μ c 10 8=z at *;obtain⟨p0,p1,V⟩:=l c 11 (1+z) (by omega) (by omega) (by omega)
 obtain⟨f0,f1,hf⟩:=l c 12 26 (by omega) (by omega) (by omega)
 obtain⟨s0,s1,hs⟩:=l c 13 4 (by omega) (by omega) (by omega)
 generalize μ c 11 (1+z)=p at *;generalize μ c 12 26=f at *;generalize μ c 13 4=s at *;obtain⟨b,rfl⟩:∃b:Nat,(b:Int)=t:=⟨t.toNat,by omega⟩
 obtain⟨g,rfl⟩:∃g:Nat,(g:Int)=p:=⟨p.toNat,by omega⟩
 obtain⟨d,A⟩:∃d:Nat,(d:Int)=1+z:=⟨(1+z).toNat,by omega⟩
 rw[←A]at V;obtain⟨S,a,e1,u,X⟩:=FC (Ω:=Ω) (c:=c) l (a1:=oI m) (a3:=none) (a4:=none) (a5:=none) (a6:=none) (a7:=none) (a8:=none) (a9:=none) (a10:=none);have r1:(aA 2 (ah (.str "abcdefghijklmnopqrstuvwxyz"))) [oI c,oI m,none,none,none,none,none,none,none,none,none] Ω=.nx [oI c,oI m,oS abc,none,none,none,none,none,none,none,none] Ω:=rfl
 have r2:(aA 3 (LR F)) [oI c,oI m,oS abc,none,none,none,none,none,none,none,none] Ω=.nx [oI c,oI m,oS abc,oS S,none,none,none,none,none,none,none] a:=by
  rw[aU,e1];rfl
 have r3:(aA 4 (mN (cp F) (ab (aa 0) (ab (ah (.int 8)) (ab (aa 1) ae))))) [oI c,oI m,oS abc,oS S,none,none,none,none,none,none,none] a=.nx [oI c,oI m,oS abc,oS S,oI b,none,none,none,none,none,none] a:=by simp[ht]
 unfold NZ;rw[aH r1,aH r2,aH r3,ao]
 by_cases Y:m<=8/\w=1
 .obtain⟨J,rfl⟩:=Y
  have e2:=FE (Ω:=a) u I (a0:=oI c) (a2:=oS abc) (a4:=oI b) (a5:=none) (a6:=none) (a7:=none) (a8:=none) (a9:=none) (a10:=none);obtain⟨K,L⟩:=cX a (.lst (((List.range m).map (k9 S)).map .str))
  have hv:∀x∈(List.range m).map (k9 S),nS x:=λx q=>by
   obtain⟨i,hi,rfl⟩:=List.mem_map.mp q;exact Jj u (by have:=List.mem_range.mp hi;omega)
  have hn:=FD (m:=m) u J;have M:((List.range m).map (k9 S)).length=m:=by simp
  generalize (List.range m).map (k9 S)=E at *;generalize a++[Cell.lst (E.map .str)]=e at *;obtain⟨k,o,G,N,O,_⟩:=tY (ρ:=[oI c,oI m,oS abc,oS S,oI b,oR a.length,none,none,none,none,none]) (i:=5) (j:=4) rfl rfl K (by omega)
  have P:=ny (t:=b) E;refine⟨E.drop b++E.take b,k,o,P.nodup_iff.mpr hn,λx q=>hv x (P.mem_iff.mp q),by rw[P.length_eq];exact M,?_,N,(X.trans L).trans O⟩
  have n:((m:Int)<=8):=by omega
  have rt:(jI (m2 (aF .LtE) (aa 1) (ah (.int 8))) (m2 (aF .Eq) (mN (cp F) (ab (aa 0) (ab (ah (.int 9)) (ab (ah (.int 4)) ae)))) (ah (.int 1)))) [oI c,oI m,oS abc,oS S,oI b,none,none,none,none,none,none] a=.ok (.bl true) a:=by
   simp[C,n]
  have ra:aA 5 NW [oI c,oI m,oS abc,oS S,oI b,none,none,none,none,none,none] a=.nx [oI c,oI m,oS abc,oS S,oI b,oR a.length,none,none,none,none,none] e:=by
   rw[aU,e2];rfl
  unfold Gw;rw[dj,rt,dn,cO,dI,bR,if_pos rfl,aH ra,ao,dJ,G];rfl
 .have r4:Gw F [oI c,oI m,oS abc,oS S,oI b,none,none,none,none,none,none] a=.nx [oI c,oI m,oS abc,oS S,oI b,none,none,none,none,none,none] a:=by
   by_cases H:w=1
   .have n:¬ ((m:Int)<=8):=λh=>Y ⟨by omega,H⟩
    simp[Gw,C,n]
   .by_cases n:(m:Int)<=8
    .simp[Gw,C,n,H]
    .simp[Gw,C,n]
  have r5:(aA 6 (m2 (bj .Add) (ah (.int 1)) (mN (cp F) (ab (aa 0) (ab (ah (.int 10)) (ab (ah (.int 8)) ae)))))) [oI c,oI m,oS abc,oS S,oI b,none,none,none,none,none,none] a=.nx [oI c,oI m,oS abc,oS S,oI b,none,oI d,none,none,none,none] a:=by
   rw[A];simp[hz]
  have r6:(aA 7 (mN (cp F) (ab (aa 0) (ab (ah (.int 11)) (ab (aa 6) ae))))) [oI c,oI m,oS abc,oS S,oI b,none,oI d,none,none,none,none] a=.nx [oI c,oI m,oS abc,oS S,oI b,none,oI d,oI g,none,none,none] a:=by simp[V]
  have r7:(aA 8 (mN (cp F) (ab (aa 0) (ab (ah (.int 12)) (ab (ah (.int 26)) ae))))) [oI c,oI m,oS abc,oS S,oI b,none,oI d,oI g,none,none,none] a=.nx [oI c,oI m,oS abc,oS S,oI b,none,oI d,oI g,oI f,none,none] a:=by simp[hf]
  obtain⟨K,L⟩:=cX a (.lst [.int 1,.int 3,.int 5,.int 7])
  have r:∃st:Int,(st=1\/st=3\/st=5\/st=7)/\L2.kx [D.int 1,.int 3,.int 5,.int 7] s=oI st:=by
   have:s=0\/s=1\/s=2\/s=3:=by omega
   rcases this with rfl|rfl|rfl|rfl
   .exact⟨1,.inl rfl,rfl⟩
   .exact⟨3,.inr (.inl rfl),rfl⟩
   .exact⟨5,.inr (.inr (.inl rfl)),rfl⟩
   .exact⟨7,.inr (.inr (.inr rfl)),rfl⟩
  obtain⟨st,r,Q⟩:=r;have R:=cj K Q
  have r8:(aA 9 (m2 aN (mN aY (ab (ah (.int 1)) (ab (ah (.int 3)) (ab (ah (.int 5)) (ab (ah (.int 7)) ae))))) (mN (cp F) (ab (aa 0) (ab (ah (.int 13)) (ab (ah (.int 4)) ae)))))) [oI c,oI m,oS abc,oS S,oI b,none,oI d,oI g,oI f,none,none] a=.nx [oI c,oI m,oS abc,oS S,oI b,none,oI d,oI g,oI f,oI st,none] (a++[Cell.lst [.int 1,.int 3,.int 5,.int 7]]):=by
   have H:(mN aY (ab (ah (.int 1)) (ab (ah (.int 3)) (ab (ah (.int 5)) (ab (ah (.int 7)) ae))))) [oI c,oI m,oS abc,oS S,oI b,none,oI d,oI g,oI f,none,none] a=.ok (.ref a.length) (a++[Cell.lst [.int 1,.int 3,.int 5,.int 7]]):=by
    show aY [.int 1,.int 3,.int 5,.int 7] a=_
    rw[eH,if_pos (aK (by simp))]
   have h2:(mN (cp F) (ab (aa 0) (ab (ah (.int 13)) (ab (ah (.int 4)) ae)))) [oI c,oI m,oS abc,oS S,oI b,none,oI d,oI g,oI f,none,none] (a++[Cell.lst [.int 1,.int 3,.int 5,.int 7]])=.ok (.int s) (a++[Cell.lst [.int 1,.int 3,.int 5,.int 7]]):=by
    generalize a++[Cell.lst [.int 1,.int 3,.int 5,.int 7]]=b0;simp[hs]
   rw[aU,dm,H,ag,h2,ag,R];rfl
  generalize a++[Cell.lst [.int 1,.int 3,.int 5,.int 7]]=e at *;have G:=FF (Ω:=e) (f:=f) (st:=st) (by omega) (by omega) I (a0:=oI c) (a3:=oS S) (a4:=oI b) (a5:=none) (a6:=oI d) (a7:=oI g) (a10:=none)
  have em:(List.range m).map (λi=>bE (sgn f st i))=((List.range m).map (sgn f st)).map bE:=by rw[List.map_map];rfl
  rw[em]at G
  have T:∀x∈(List.range m).map (sgn f st),97<=x/\x<=122:=λx q=>by
   obtain⟨i,_,rfl⟩:=List.mem_map.mp q;unfold sgn;omega
  have U:(((List.range m).map (sgn f st)).map λx=>t6 S d g (bE x)).Nodup:=by
   rw[List.map_map];exact Jk u I r
  have M:((List.range m).map (sgn f st)).length=m:=by simp
  generalize (List.range m).map (sgn f st)=B at *;obtain⟨N,O⟩:=cX e (.lst ((B.map bE).map .str))
  have r9:aA 10 NX [oI c,oI m,oS abc,oS S,oI b,none,oI d,oI g,oI f,oI st,none] e=.nx [oI c,oI m,oS abc,oS S,oI b,none,oI d,oI g,oI f,oI st,oR e.length] (e++[Cell.lst ((B.map bE).map .str)]):=by
   rw[aU,G];rfl
  generalize e++[Cell.lst ((B.map bE).map .str)]=o at *;have e4:=FG u (show d<=8 by omega) (show g<d by omega) N (by omega) (a0:=oI c) (a1:=oI m) (a2:=oS abc) (a4:=oI b) (a5:=none) (a8:=oI f) (a9:=oI st)
  refine⟨B.map λx=>t6 S d g (bE x),o.length,o++[.lst ((B.map λx=>t6 S d g (bE x)).map .str)],U,λx q=>?_,by simpa using M,?_,aw,((X.trans L).trans O).trans af.app⟩
  .obtain⟨y,hy,rfl⟩:=List.mem_map.mp q
   exact NY u (by omega) (by omega) (T y hy)
  .rw[r4,cT,aH r5,aH r6,aH r7,aH r8,aH r9,ao,dJ,e4]
   rfl
end
section
variable{Ω ai:aD}{ρ:aR}{F C:List D->Out Rs}{μ:Int->Int->Int->Int}{κ:List Int->Nat->Int}{c:Int}{m:Nat}{ns:List Int}{xs:List Str}{x i:Nat}
def rR(xs:List Str)(mo i:Nat)(r:List Str):Prop:=r.Nodup/\r.length<=mo/\∀y∈r,y∈xs.take i
def N3(F:List D->Out Rs):EM:=(bF (m2 aN (aa 2) (aa 0)) false (m2 (aF .Eq) (mN (cp F) (ab (aa 1) (ab (aa 0) (ab (ah (.int 3)) ae)))) (ah (.int 0))) (er (ab (aa 5) ae)) 0 [6,2])
theorem t_{xs:List Str}:∀{i:Nat},i<=xs.length->(List.range i).map (λj=>xs.getD j "")=xs.take i:=by
 intro i a;apply List.ext_getElem?;intro j;rw[List.getElem?_map,List.getElem?_take]
 by_cases h:j<i
 .rw[List.getElem?_range h,if_pos h]
  rw[List.getElem?_eq_getElem (by omega)]
  simp[show j<xs.length by omega]
 .rw[if_neg h,List.getElem?_eq_none (by simp;omega)]
  rfl
theorem FH(a:gi μ F){a0 a1 a3 a4 a7 a8:Option D}(m:Ω[x]?=some (.lst (xs.map .str)))(n:i<=xs.length)(s:xs.length<=100):∃r:List Str,r.Sublist (xs.take i)/\N3 F [a0,a1,oR x,a3,a4,oI i,oI c,a7,a8] Ω=.ok (.ref Ω.length) (Ω++[.lst (r.map .str)]):=by
 have b:nH (i:Int)=true:=ff (by omega) (by omega)
 have l:=dv (Ω:=Ω) (ai:=Ω) (ρ:=[a0,a1,oR x,a3,a4,oI i,oI c,a7,a8]) (me:=m2 aN (aa 2) (aa 0)) (nc:=false) (mc:=m2 (aF .Eq) (mN (cp F) (ab (aa 1) (ab (aa 0) (ab (ah (.int 3)) ae)))) (ah (.int 0))) (mi:=er (ab (aa 5) ae)) (cap:=[6,2]) (src:=.ints 0 i) (ds:=intsFrom 0 i) (p:=λd=>match d with|.int j=>(μ c j 3==0)|_=>false)
  (g:=λd=>match d with|.int j=>.str (xs.getD j.toNat "")|_=>.non) (by simp[b]) rfl (λd f=>by
   obtain⟨j,h⟩:=List.mem_iff_getElem?.mp f;obtain⟨rfl,k⟩:=fJ h;obtain⟨t,u,q⟩:=a c (0+(j:Int)) 3 (by omega) (by omega) (by omega)
   generalize (0:Int)+(j:Int)=o at *
   show cw ((m2 (aF .Eq) (mN (cp F) (ab (aa 1) (ab (aa 0) (ab (ah (.int 3)) ae)))) (ah (.int 0))) [oI o,oI c,oR x] Ω)=_
   simp[q]) (λd f _=>by
   obtain⟨j,h⟩:=List.mem_iff_getElem?.mp f;obtain⟨rfl,k⟩:=fJ h;rw[Int.zero_add]
   show aN (.ref x) (.int j) Ω=.ok (.str (xs.getD (j:Int).toNat "")) Ω
   refine cj m (L2.cZ ?_);simp[show j<xs.length by omega]) (by rw[ek];omega)
 have e:(((intsFrom 0 i).filter λd=>match d with|.int j=>(μ c j 3==0)|_=>false).map λd=>match d with|.int j=>D.str (xs.getD j.toNat "")|_=>.non)=(((List.range i).filter λj:Nat=>(μ c j 3==0)).map λj=>xs.getD j "").map .str:=by
  rw[kj,List.filter_map,List.map_map,List.map_map];rfl
 rw[e]at l;refine⟨_,?_,l⟩;rw[←t_ n];exact(List.filter_sublist).map _
def N4(F:List D->Out Rs):EM:=(jI (m2 (aF .NotEq) (aa 7) (mN aY ae)) (m2 (aF .Eq) (mN (cp F) (ab (aa 6) (ab (ah (.int 13)) (ab (ah (.int 3)) ae)))) (ah (.int 1))))
def Jm(F:List D->Out Rs):SM:=(e_ (N4 F)
 (aj (aA 8 (mN (cp F) (ab (aa 6) (ab (ah (.int 14)) (ab (mN (aW .len) (ab (aa 7) ae)) ae)))))
 (aj (aA 7 (wO 7 8))
 ak))
 ak)
def N5(F C:List D->Out Rs):SM:=
 (aj (aA 6 (mN (cp C) (ab (aa 0) (ab (m2 (bj .Add) (aa 1) (aa 5)) ae))))
 (aj (aA 7 (N3 F))
 (aj (aA 7 (dg (aa 7) true (ah .non) false (aa 3)))
 (aj (bA (dG kH eQ (aa 7) ae))
 (aj (Jm F)
 (aj (bA (dG kH bQ (aa 4) (ab (aa 7) ae)))
 ak))))))
def N6(F C:List D->Out Rs):SM:=
 (aj (aA 4 (mN aY ae))
 (aj (dt (dM 5) (er (ab (mN (aW .len) (ab (aa 2) ae)) ae))
 (N5 F C))
 (aj (bT (aa 4))
 ak)))
abbrev RV(ns:List Int)(st x mo q:Nat)(a5 a6 a7 a8:Option D):aR:=[some (SC ns),oI st,oR x,oI mo,oR q,a5,a6,a7,a8]
theorem FI(b:gi μ F){a0 a1 a2 a3 a4 a5 a8:Option D}{r:List Str}{w:Nat}(p:Ω[w]?=some (.lst (r.map .str)))(I:r.length<=100):∃(q:List Str) (f:Nat) (m:Option D) (ai:aD),q.Perm r/\Jm F [a0,a1,a2,a3,a4,a5,oI c,oR w,a8] Ω=.nx [a0,a1,a2,a3,a4,a5,oI c,oR f,m] ai/\ai[f]?=some (.lst (q.map .str))/\(f=w\/Ω.length<=f)/\af [] Ω ai:=by
 obtain⟨a,x,h⟩:=ne_nil (ρ:=[a0,a1,a2,a3,a4,a5,oI c,oR w,a8]) (i:=7) rfl p;obtain⟨J,K,y⟩:=b c 13 3 (by omega) (by omega) (by omega)
 have hw1:=h.g p;have A:(m2 (aF .Eq) (mN (cp F) (ab (aa 6) (ab (ah (.int 13)) (ab (ah (.int 3)) ae)))) (ah (.int 1))) [a0,a1,a2,a3,a4,a5,oI c,oR w,a8] a=.ok (.bl (μ c 13 3==1)) a:=by simp[y]
 have s:N4 F [a0,a1,a2,a3,a4,a5,oI c,oR w,a8] Ω=.ok (.bl (decide (r≠[])&&(μ c 13 3==1))) a:=by
  unfold N4;rw[lB,x,ag,cO]
  by_cases d:r=[]
  .subst d;rfl
  .rw[decide_eq_true d,yW,A,Bool.true_and]
 by_cases l:r≠[]/\μ c 13 3=1
 .have L:0<r.length:=List.length_pos_iff.mpr l.1
  obtain⟨M,N,u⟩:=b c 14 (r.length:Int) (by omega) (by omega) (by omega)
  obtain⟨t,B⟩:∃t:Nat,(t:Int)=μ c 14 (r.length:Int):=⟨(μ c 14 (r.length:Int)).toNat,by omega⟩
  rw[←B]at u;have e:=gM hw1;rw[List.length_map]at e
  have C:(aA 8 (mN (cp F) (ab (aa 6) (ab (ah (.int 14)) (ab (mN (aW .len) (ab (aa 7) ae)) ae))))) [a0,a1,a2,a3,a4,a5,oI c,oR w,a8] a=.nx [a0,a1,a2,a3,a4,a5,oI c,oR w,oI t] a:=by
   simp[e,u]
  obtain⟨k,n,E,G,H,O⟩:=tY (ρ:=[a0,a1,a2,a3,a4,a5,oI c,oR w,oI t]) (i:=7) (j:=8) rfl rfl hw1 (by omega)
  refine⟨r.drop t++r.take t,k,oI t,n,ny r,?_,G,.inr (by have:=h.len;omega),h.trans H⟩
  have o:(decide (r≠[])&&(μ c 13 3==1))=true:=by simp[l.1,l.2]
  unfold Jm;rw[dj,s,o,dn,cO,dI,bR,if_pos rfl,aH C,ao,aU,E];rfl
 .refine⟨r,w,a8,a,List.Perm.refl _,?_,hw1,.inl rfl,h⟩
  have o:(decide (r≠[])&&(μ c 13 3==1))=false:=by
   by_cases d:r=[]
   .simp[d]
   .have:μ c 13 3≠1:=λz=>l ⟨d,z⟩
    simp[this]
  unfold Jm;rw[dj,s,o];rfl
theorem FJ(m:gi μ F)(A:iF κ C){st mo q:Nat}{k:List Nat}{rs:List (List Str)}{a6 a7 a8:Option D}(U:Ω[x]?=some (.lst (xs.map .str)))(B:xs.Nodup)(V:i<=xs.length)(X:xs.length<=100)(R:Rw Ω q k rs)(Y:q∉k)(Z:rs.length<=100) :
  ∃r j E G e ai,rR xs mo i r/\N5 F C (RV ns st x mo q (oI i) a6 a7 a8) Ω=.nx (RV ns st x mo q (oI i) E G e) ai/\Rw ai q (k++[j]) (rs++[r])/\q∉k++[j]/\af [q] Ω ai:=by
 have H:C [SC ns,.int ((st:Int)+(i:Int))]=.ok (false,.int (κ ns (st+i))):=by
  rw[show(st:Int)+(i:Int)=((st+i:Nat):Int)by omega]
  exact A ns (st+i)
 have r1:(aA 6 (mN (cp C) (ab (aa 0) (ab (m2 (bj .Add) (aa 1) (aa 5)) ae)))) (RV ns st x mo q (oI i) a6 a7 a8) Ω=.nx (RV ns st x mo q (oI i) (some (.int (κ ns (st+i)))) a7 a8) Ω:=by
  simp[RV,H]
 generalize κ ns (st+i)=c at *;obtain⟨r,g,e2⟩:=FH (c:=c) m (a0:=some (SC ns)) (a1:=oI st) (a3:=oI mo) (a4:=oR q) (a7:=a7) (a8:=a8) U V X;have I:r.length<=100:=by have:=g.length_le;rw[List.length_take]at this;omega
 have r2:aA 7 (N3 F) (RV ns st x mo q (oI i) (oI c) a7 a8) Ω=.nx (RV ns st x mo q (oI i) (oI c) (oR Ω.length) a8) (Ω++[.lst (r.map .str)]):=by
  rw[aU,e2];rfl
 obtain⟨g2,J⟩:=cX Ω (.lst (r.map .str));generalize Ω++[Cell.lst (r.map .str)]=a at *;have s3:=jl (n:=mo) g2
 have r3:aA 7 (dg (aa 7) true (ah .non) false (aa 3)) (RV ns st x mo q (oI i) (oI c) (oR Ω.length) a8) a=.nx (RV ns st x mo q (oI i) (oI c) (oR a.length) a8) (a++[.lst ((r.take mo).map .str)]):=by
  have:dg (aa 7) true (ah .non) false (aa 3) (RV ns st x mo q (oI i) (oI c) (oR Ω.length) a8) a=.ok (.ref a.length) (a++[.lst ((r.take mo).map .str)]):=by
   rw[eS]
   show ji (.ref Ω.length) none (some (mo:Int)) a=_
   exact s3
  rw[aU,this];rfl
 obtain⟨K,K3⟩:=cX a (.lst ((r.take mo).map .str));generalize a++[Cell.lst ((r.take mo).map .str)]=f at *;have L:=kL K
 have r4:(bA (dG kH eQ (aa 7) ae)) (RV ns st x mo q (oI i) (oI c) (oR a.length) a8) f=.nx (RV ns st x mo q (oI i) (oI c) (oR a.length) a8) (f.set a.length (.lst ((r.take mo).map D.str).reverse)):=by
  rw[bL,dw (x:=.ref a.length) (ai:=f) rfl (dr K),aL,ag,L];rfl
 have g4:(f.set a.length (.lst ((r.take mo).map D.str).reverse))[a.length]?=some (.lst ((r.take mo).reverse.map .str)):=by rw[List.map_reverse];exact aP K
 have Q:af [] Ω (f.set a.length (.lst ((r.take mo).map D.str).reverse)):=af.new (J.trans K3) (af.set (fp:=[a.length]) (by simp)) (by simpa using J.len)
 generalize f.set a.length (.lst ((r.take mo).map D.str).reverse)=M at *;obtain⟨S,w,e,b,l,r5,g5,hw,K5⟩:=FI (c:=c) m (a0:=some (SC ns)) (a1:=oI st) (a2:=oR x) (a3:=oI mo) (a4:=oR q) (a5:=oI i) (a8:=a8) g4 (by rw[List.length_reverse,List.length_take];omega)
 have b0:Ω.length<=w:=by
  have:=J.len;have:=Q.len;rcases hw with z|z
  .omega
  .omega
 have o:=Q.trans K5;have u:=R.keep o;have hL:=R.len;have N:=ee (d:=.ref w) u.ce (by simp;omega)
 have r6:(bA (dG kH bQ (aa 4) (ab (aa 7) ae))) (RV ns st x mo q (oI i) (oI c) (oR w) e) b=.nx (RV ns st x mo q (oI i) (oI c) (oR w) e) (b.set q (.lst (k.map .ref++[.ref w]))):=by
  rw[bL,dw (x:=.ref q) (ai:=b) rfl (dr u.ce)]
  show bK (bQ (.ref q) [.ref w] b) _=_
  rw[N];rfl
 have lq:=aS R.ce;have T:af [q] b (b.set q (.lst (k.map .ref++[.ref w]))):=af.set (by simp)
 have p:q∉k++[w]:=λz=>by
  rcases List.mem_append.mp z with z|z
  .exact Y z
  .have:=List.mem_singleton.mp z;omega
 have s:rR xs mo i S:=by
  have t:(r.take mo).Sublist (xs.take i):=(List.take_sublist _ _).trans g;have O:(r.take mo).Nodup:=(B.sublist (List.take_sublist _ _)).sublist t;refine⟨l.nodup_iff.mpr (List.pairwise_reverse.mpr (List.Pairwise.imp (λh=>Ne.symm h) O)),?_,λy hy=>?_⟩
  .rw[l.length_eq,List.length_reverse,List.length_take];omega
  .exact t.subset (List.mem_reverse.mp (l.mem_iff.mp hy))
 refine⟨S,w,oI c,oR w,e,_,s,?_,⟨?_,?_⟩,p,(ew.up o).trans T⟩
 .unfold N5
  rw[aH r1,aH r2,aH r3,aH r4,ao];have P:Jm F (RV ns st x mo q (oI i) (oI c) (oR a.length) a8) M=.nx (RV ns st x mo q (oI i) (oI c) (oR w) e) b:=r5;rw[P,cT,ao,r6];rfl
 .rw[aP u.ce];simp
 .exact(u.al.snoc g5).keep T (λj hj z=>p (by rw[←List.mem_singleton.mp z];exact hj))
def CG(f:aQ):Prop:=∀(c:aD) (g:List Int) (h x e:Nat) (b:List Str),c[x]?=some (.lst (b.map .str))->b.Nodup->b.length<=12 ->
 ∃k j d a,f [SC g,.int h,.ref x,.int e] c=.ok (.ref k) a/\Rw a k j d/\d.length=b.length/\(∀(i:Nat) (r:List Str),d[i]?=some r->rR b e i r)/\af [] c a
theorem Jn(t:gi μ F)(u:iF κ C):CG (cV 9 4 (N6 F C)):=by
 intro a ns st x mo o G w L;rw[bh (by rfl),show aX 9 [SC ns,.int st,.ref x,.int mo]=[some (SC ns),oI st,oR x,oI mo,none,none,none,none,none]from rfl]
 have M:(a++[Cell.lst []])[a.length]?=some (.lst (([]:List Nat).map .ref)):=aw;have H:af [] a (a++[Cell.lst []]):=af.app;have N:(aA 4 (mN aY ae)) [some (SC ns),oI st,oR x,oI mo,none,none,none,none,none] a=.nx (RV ns st x mo a.length none none none none) (a++[Cell.lst []]):=by simp[RV,aK]
 have X:=aS G;generalize a++[Cell.lst []]=c at *;have p:=H.g G;have q:=gM p;rw[List.length_map]at q
 have y:er (ab (mN (aW .len) (ab (aa 2) ae)) ae) (RV ns st x mo a.length none none none none) c=.ok (.ints 0 o.length) c:=by
  have:(mN (aW .len) (ab (aa 2) ae)) (RV ns st x mo a.length none none none none) c=.ok (.int o.length) c:=q;rw[rJ,aC,this,ag,aL,ag,ag,u9,if_pos (ff (by omega) (by omega)),Int.toNat_natCast]
 unfold N6;rw[aH N,ao,bV,y,bR]
 refine br (R:=λr=>∃k l b m,iC (sq r _)=.ok (.ref k) m/\Rw m k l b/\b.length=o.length/\(∀(i:Nat) (r:List Str),b[i]?=some r->rR o mo i r)/\af [] a m) (ds:=intsFrom 0 o.length)
  (λi z e=>∃l b A a6 a7 a8,z=RV ns st x mo a.length A a6 a7 a8/\Rw e a.length l b/\b.length=i/\(∀(i:Nat) (r:List Str),b[i]?=some r->rR o mo i r)/\a.length∉l/\af [a.length] c e) (λ_ _ _ _=>rfl) ?_ ?_ fuel 0 _ _ (by rw[ek];unfold fuel;omega) (Nat.zero_le _) ⟨[],[],none,none,none,none,rfl,⟨M,.nil⟩,rfl,λi r h=>by simp at h,by simp,af.refl⟩
 .rintro i d z e O ⟨l,b,A,a6,a7,a8,rfl,R,f,n,I,K⟩
  obtain⟨rfl,Y⟩:=fJ O;rw[Int.zero_add];refine⟨RV ns st x mo a.length (oI i) a6 a7 a8,rfl,?_⟩;obtain⟨r,j,Z,b7,b8,P,Q,S,T,B,U⟩:=FJ (i:=i) (ns:=ns) (st:=st) (mo:=mo) (a6:=a6) (a7:=a7) (a8:=a8) t u (K.get _ _ p (by simp;omega)) w (by omega) (by omega) R I (by omega)
  rw[S];refine⟨_,_,_,_,_,_,rfl,T,by simp[f],λs J h=>?_,B,K.trans U⟩
  by_cases D:s<b.length
  .rw[List.getElem?_append_left D]at h
   exact n s J h
  .rw[List.getElem?_append_right (by omega)]at h
   have V:s - b.length=0:=by
    have:=(List.getElem?_eq_some_iff.mp h).1;simp at this;omega
   rw[V]at h;have E:r=J:=by simpa using h
   subst E;obtain rfl:s=i:=by omega
   exact Q
 .rintro z e ⟨l,b,A,a6,a7,a8,rfl,R,f,n,I,K⟩
  rw[ek]at f;exact⟨a.length,l,b,e,rfl,R,f,n,af.new H K (by simp)⟩
end
section
variable{Ω ai:aD}{ρ:aR}{F C:List D->Out Rs}{κ:List Int->Nat->Int}{ns:List Int}{xs:List Str}{h e l x:Nat}{E:dz}{L:Str->List Str}{n:Str}{jr CB:List (Key×D)}
def Gx:SM:=(aj (bT (ah (.bl false))) ak)
structure Hand(Ω:aD)(x e l:Nat)(xs:List Str)(E:dz)(L:Str->List Str):Prop where
 nx:Ω[x]?=some (.lst (xs.map .str))
 pos:1<=xs.length
 vn:∀n∈xs,nS n
 eq:nms E=xs
 Tu:gn E L
 el:∃jr,cP Ω e jr/\aG Tr Ω jr E
 ln:∃CB,cP Ω l CB/\aG Tr Ω CB (aO xs L)
 ne:e≠l
end
structure ua(Ω ai:aD):Prop where
 len:Ω.length<=ai.length
 get:∀(k:Nat) (c:Cell),Ω[k]?=some c->ai[k]?=some c\/∃kvs,c=Cell.dK kvs/\ai[k]?=some (.dF kvs)
section
variable{Ω ai aB:aD}{ρ:aR}{e q j h k x l:Nat}{js:List Nat}{kvs jr:List (Key×D)}{E:dz}{P:Nat->Prop}{n:Str}{r row xs:List Str}{rs:List (List Str)}{L:Str->List Str}
theorem af.kpf(K:af [] Ω ai):ua Ω ai:=⟨K.len,λk c h=>.inl (K.get k c h (by simp))⟩
theorem ua.trans(a:ua Ω aB)(b:ua aB ai):ua Ω ai:=⟨Nat.le_trans a.len b.len,λk c h=>by
 rcases a.get k c h with d|⟨e,rfl,d⟩
 .exact b.get k c d
 .rcases b.get k _ d with f|⟨_,z,_⟩
  .exact .inr ⟨e,rfl,f⟩
  .cases z⟩
theorem CH(h:cP Ω e jr):ua Ω (Ω.set e (.dF jr)):=⟨by simp,λk c a=>by
 by_cases z:k=e
 .subst z
  rcases h with h|h
  .rw[h]at a;cases a;exact .inr ⟨jr,rfl,aP h⟩
  .rw[h]at a;cases a;exact .inl (aP h)
 .exact .inl (cS a z)⟩
theorem ua.lst{ds:List D}(K:ua Ω ai)(h:Ω[k]?=some (.lst ds)):ai[k]?=some (.lst ds):=(K.get _ _ h).elim id λ⟨_,z,_⟩=>nomatch z
theorem ua.dct(K:ua Ω ai)(h:cP Ω e kvs):cP ai e kvs:=by
 rcases h with h|h
 .rcases K.get _ _ h with a|⟨b,z,a⟩
  .exact .inl a
  .cases z;exact .inr a
 .rcases K.get _ _ h with a|⟨b,z,a⟩
  .exact .inr a
  .cases z
theorem ua.rows(K:ua Ω ai)(h:aG P Ω kvs E):aG P ai kvs E:=aJ.imp (λ_ _ ⟨a,j,b,c,d⟩=>⟨a,j,b,c,K.lst d⟩) h
theorem ua.rw(K:ua Ω ai)(R:Rw Ω k js rs):Rw ai k js rs:=⟨K.lst R.ce,aJ.imp (λ_ _ d=>K.lst d) R.al⟩
def N7(a:aQ):SM:=
 (aj (bA (ay "House" "check_kind" a (aa 0) (ab (aa 1) ae)))
 (aj (bT (mN (aW .list) (ab (m2 aN fe (aa 1)) ae)))
 ak))
def zl(c:aQ):Prop:=∀(b:aD) (h:Nat) (E:dz) (L:Str->List Str) (P:Nat->Prop) (n:Str),bG P b h E L->n∈nms E->∃k a,c [.ref h,.str n] b=.ok (.ref k) a/\a[k]?=some (.lst ((bc E n).map .str))/\af [] b a/\b.length<=k
theorem Jo{b:aQ}(i:p8 b):zl (cV 2 2 (N7 b)):=by
 intro c h E L P n H g;rw[bh (by rfl),show aX 2 [D.ref h,.str n]=[oR h,oS n]from rfl]
 obtain⟨a,k,d⟩:=i c h E L P n H g
 have m:ay "House" "check_kind" b (aa 0) (ab (aa 1) ae) [oR h,oS n] c=.ok .non a:=by
  rw[bx H rfl (by decide)]
  show iA (b [.ref h,.str n] c)=_
  rw[k];rfl
 obtain⟨e,l,o,p,q,r,s,w,x⟩:=(H.keep d).or;obtain⟨j,t,_,u⟩:=s.at g;have f:=bS u;refine⟨a.length,a++[.lst ((bc E n).map .str)],?_,aw,d.trans af.app,d.len⟩
 have:(mN (aW .list) (ab (m2 aN fe (aa 1)) ae)) [oR h,oS n] a=.ok (.ref a.length) (a++[.lst ((bc E n).map .str)]):=by
  show((((eo ["House"] "elders" (.ref h) a).bind _).bind _).bind _)=_
  rw[i5 q,ag]
  show(((aN (.ref e) (.str n) a).bind _).bind _)=_
  rw[gj r t];exact f
 unfold N7;rw[dN m,ao,dJ,this];rfl
def N8:EM:=(bF (aa 0) false (m2 (aF .In) (aa 1) (m2 aN (m1 (eo ["House"] "lines") (aa 2)) (aa 0))) (aZ fe) 0 [1,0])
def N9(a:aQ):SM:=
 (aj (bA (ay "House" "check_kind" a (aa 0) (ab (aa 1) ae)))
 (aj (bT N8)
 ak))
def Jp(c:aQ):Prop:=∀(b:aD) (h:Nat) (E:dz) (L:Str->List Str) (P:Nat->Prop) (n:Str),bG P b h E L->n∈nms E->E.length<=1000->∃k a,c [.ref h,.str n] b=.ok (.ref k) a/\a[k]?=some (.lst (((nms E).filter λm=>decide (n∈L m)).map .str))/\ua b a/\b.length<=k
theorem Jq{f:aQ}(x:p8 f):Jp (cV 2 2 (N9 f)):=by
 intro Ω h E L P n H y Q;rw[bh (by rfl),show aX 2 [D.ref h,.str n]=[oR h,oS n]from rfl]
 obtain⟨a,A,o⟩:=x Ω h E L P n H y
 have B:ay "House" "check_kind" f (aa 0) (ab (aa 1) ae) [oR h,oS n] Ω=.ok .non a:=by
  rw[bx H rfl (by decide)]
  show iA (f [.ref h,.str n] Ω)=_
  rw[A];rfl
 obtain⟨e,l,c,C,q,i,F,G,I⟩:=(H.keep o).or
 have r:aZ fe [oR h,oS n] a=.ok (.keys e) (a.set e (.dF c)):=by
  rw[bB]
  show((eo ["House"] "elders" (.ref h) a).bind _)=_
  rw[i5 q,ag];exact rN i
 have k:=CH i;have J:=vg i;have s:h≠e:=λz=>i.ni _ _ (z▸q)
 have K:(a.set e (.dF c))[h]?=some (.ins "House" [("elders",.ref e),("lines",.ref l)]):=cS q s;have d4:=k.dct G;have d5:=k.rows I;generalize a.set e (.dF c)=b at *
 have t:=dv (ρ:=[oR h,oS n]) (Ω:=a) (ai:=b) (me:=aa 0) (mc:=m2 (aF .In) (aa 1) (m2 aN (m1 (eo ["House"] "lines") (aa 2)) (aa 0))) (nc:=false) (mi:=aZ fe) (cap:=[1,0]) (src:=.keys e) (ds:=(nms E).map .str) (p:=λd=>match d with|.str m=>decide (n∈L m)|_=>false) (g:=λd=>d) r (by rw[nu J,F.keys]) (λd M=>by
  obtain⟨m,u,rfl⟩:=List.mem_map.mp M;obtain⟨j,N,_,w⟩:=d5.at (n:=m) (by rw[au];exact u)
  rw[a_ u]at w
  show cw (((eo ["House"] "lines" (.ref h) b).bind _).bind _)=_
  rw[vh K,ag]
  show cw ((aN (.ref l) (.str m) b).bind _)=_
  rw[gj d4 N,ag]
  show cw (aF .In (.str n) (.ref j) b)=_
  rw[jk w];rfl) (λd _ _=>rfl) (by simp[nms];omega)
 have O:(((nms E).map D.str).filter (λd=>match d with|.str m=>decide (n∈L m)|_=>false)).map (λd:D=>d)=((nms E).filter λm=>decide (n∈L m)).map .str:=by
  rw[List.map_id',List.filter_map];rfl
 rw[O]at t;refine⟨b.length,b++[.lst (((nms E).filter λm=>decide (n∈L m)).map .str)],?_,aw,(o.kpf.trans k).trans (af.kpf af.app),Nat.le_trans o.len k.len⟩
 unfold N9;rw[dN B,ao,dJ]
 show iC (sq (bK (N8 [oR h,oS n] a) _) _)=_
 rw[show N8 [oR h,oS n] a=_ from t]
 rfl
end
section
variable{Ω ai:aD}{l r i:Nat}{line row:List Str}
end
section
variable{Ω ai:aD}{F:List D->Out Rs}{μ:Int->Int->Int->Int}{c:Int}{x:Nat}{xs:List Str}
def N_(F:List D->Out Rs):SM:=
 (aj (aA 2 (mN (cp F) (ab (aa 1) (ab (ah (.int 0)) (ab (m2 (bj .Add) (mN (aW .len) (ab (aa 0) ae)) (ah (.int 1))) ae)))))
 (aj (aA 3 (wO 0 2))
 (aj (e_ (m2 (aF .Eq) (mN (cp F) (ab (aa 1) (ab (ah (.int 1)) (ab (ah (.int 2)) ae)))) (ah (.int 1)))
 (aj (bA (dG kH eQ (aa 3) ae))
 ak)
 ak)
 (aj (bT (aa 3))
 ak))))
def zm(f:aQ):Prop:=∀(b:aD) (x:Nat) (c:Int) (d:List Str),b[x]?=some (.lst (d.map .str))->d.length<=900->∃(e:List Str) (k:Nat) (a:aD),e.Perm d/\f [.ref x,.int c] b=.ok (.ref k) a/\a[k]?=some (.lst (e.map .str))/\af [] b a/\b.length<=k
theorem Jr(d:gi μ F):zm (cV 4 2 (N_ F)):=by
 intro l x c b o B;rw[bh (by rfl),show aX 4 [D.ref x,.int c]=[oR x,oI c,none,none]from rfl]
 obtain⟨C,E,p⟩:=d c 0 ((b.length:Int)+1) (by omega) (by omega) (by omega)
 obtain⟨G,v1,s⟩:=d c 1 2 (by omega) (by omega) (by omega)
 obtain⟨t,u⟩:∃t:Nat,(t:Int)=μ c 0 ((b.length:Int)+1):=⟨(μ c 0 ((b.length:Int)+1)).toNat,by omega⟩
 rw[←u]at p;have e:=gM o;rw[List.length_map]at e;have w:(aA 2 (mN (cp F) (ab (aa 1) (ab (ah (.int 0)) (ab (m2 (bj .Add) (mN (aW .len) (ab (aa 0) ae)) (ah (.int 1))) ae))))) [oR x,oI c,none,none] l=.nx [oR x,oI c,oI t,none] l:=by simp[e,p]
 obtain⟨k,a,y,f,q,m⟩:=tY (ρ:=[oR x,oI c,oI t,none]) (i:=0) (j:=2) rfl rfl o (by omega)
 have z:aA 3 (wO 0 2) [oR x,oI c,oI t,none] l=.nx [oR x,oI c,oI t,oR k] a:=by rw[aU,y];rfl
 have r:=ny (t:=t) b;generalize b.drop t++b.take t=g at *;have A:(m2 (aF .Eq) (mN (cp F) (ab (aa 1) (ab (ah (.int 1)) (ab (ah (.int 2)) ae)))) (ah (.int 1))) [oR x,oI c,oI t,oR k] a=.ok (.bl (μ c 1 2==1)) a:=by simp[s]
 unfold N_;rw[aH w,aH z,ao,dj,A]
 by_cases h:μ c 1 2=1
 .have n:=kL f
  refine⟨g.reverse,k,a.set k (.lst (g.map D.str).reverse),(List.reverse_perm g).trans r,?_,by rw[List.map_reverse];exact aP f,af.new q (af.set (fp:=[k]) (by simp)) (by simpa using m),m⟩
  have:(μ c 1 2==1)=true:=by simp[h]
  rw[this,dn,cO,dI,bR,if_pos rfl,ao,bL,dw (x:=.ref k) (ai:=a) rfl (dr f),aL,ag,n];rfl
 .refine⟨g,k,a,r,?_,f,q,m⟩
  have:(μ c 1 2==1)=false:=by simp[h]
  rw[this];rfl
end
namespace gn
variable{E:dz}{L:Str->List Str}{n m:Str}
theorem ahead(G:gn E L):∀(k i:Nat) (n:Str),i<k->(nms E)[i]?=some n->∀x∈L n,x∈(nms E).take (i+1):=by
 intro k
 induction k with
 |zero=>intro i n h;omega
 |succ k p=>
  intro i n A g x l;obtain⟨r,m⟩:=iR g;obtain⟨o,M,b⟩:=G.ln i _ m;have b:L n=n::o:=b;rw[b]at l;rcases List.mem_cons.mp l with z|z
  .rw[z];exact iH (by omega) g
  .obtain⟨q,s,c⟩:=pQ M x z
   have a:=(G.el i _ m).2.2;rcases List.mem_append.mp s with h|h
   .obtain⟨y,t,rfl⟩:=List.mem_map.mp h
    obtain⟨j,u,d⟩:=bY (a y t);obtain⟨B,w,e⟩:=bY (p j y (by omega) d x c)
    exact iH (by omega) e
   .rw[List.mem_singleton.mp h]at c
    obtain⟨j,u,f⟩:=bY (a x c);exact iH (by omega) f
theorem CI(G:gn E L)(q:n∈nms E):(L n).Nodup:=by
 obtain⟨i,c⟩:=List.mem_iff_getElem?.mp q;obtain⟨r,p⟩:=iR c;obtain⟨o,M,d⟩:=G.ln i _ p;have d:L n=n::o:=d;rw[d];refine List.nodup_cons.mpr ⟨λe=>?_,rH M⟩
 obtain⟨s,t,f⟩:=pQ M n e;have a:=(G.el i _ p).2.2;have u:=(List.getElem?_eq_some_iff.mp c).1
 have b:∀j,j<i->(nms E)[j]?=some n->False:=λj g h=>by
  have:=(List.getElem?_inj (by omega) G.nd).mp (h.trans c.symm)
  omega
 rcases List.mem_append.mp t with h|h
 .obtain⟨y,w,rfl⟩:=List.mem_map.mp h
  obtain⟨j,g,k⟩:=bY (a y w);obtain⟨x,z,l⟩:=bY (G.ahead (j+1) j y (by omega) k n f)
  exact b x (by omega) l
 .rw[List.mem_singleton.mp h]at f
  obtain⟨j,g,m⟩:=bY (a n f);exact b j g m
end gn
section
variable{Ω ai aB:aD}{ρ:aR}{e q h j t:Nat}{kvs:List (Key×D)}{E:dz}{P:Nat->Prop}{n:Str}{r ns:List Str}{f R:Str->List Str}{ts:List (Str×Nat)}{L L':Str->List Str}
theorem jU{i:Nat}{ys:List Str}(c:ys.Nodup)(b:ys[i]?=some n):n∉ys.take i:=λd=>by
 obtain⟨k,e,a⟩:=bY d;have f:=(List.getElem?_eq_some_iff.mp b).1;have:=(List.getElem?_inj (by omega) c).mp (a.trans b.symm)
 omega
noncomputable def qq(p:Str×Nat):D:=.tup [.str p.1,.ref p.2]
theorem zo{i:Nat}{d:D}(h:(ts.map qq)[i]?=some d):∃p,ts[i]?=some p/\d=qq p:=by
 rw[List.getElem?_map]at h;cases a:ts[i]? with
 |none=>rw[a]at h;cases h
 |some p=>rw[a]at h;cases h;exact⟨p,rfl,rfl⟩
theorem rS(b:(nms E).Nodup):aO (nms E) (bc E)=E:=by
 apply List.ext_getElem?;intro i;unfold aO;rw[List.getElem?_map];cases a:E[i]? with
 |none=>simp[nms,a]
 |some p=>
  rw[gO a,Option.map_some,tW b a]
theorem aG.upd(H:aG P Ω kvs (aO ns f))(c:n∈ns)(h:P j)(i:Ω[j]?=some (.lst (r.map .str))):aG P Ω (ej kvs (.inr n) (.ref j)) (aO ns λm=>if m=n then r else f m):=by
 have d:(kvs.any λb=>decide (b.1=Sum.inr n))=true:=by
  rw[jS,H.is,au,decide_eq_true c]
 unfold ej;rw[if_pos d];clear d c;unfold aG aO at *
 induction ns generalizing kvs with
 |nil=>cases H;exact .nil
 |cons m ns k=>
  rw[List.map_cons]at H;cases H with
  |@cons b _ e _ l o=>
   rw[List.map_cons,List.map_cons];refine .cons ?_ (k o);obtain⟨a,g,p,s,t⟩:=l;have a:b.1=Sum.inr m:=a
   by_cases z:m=n
   .rw[if_pos (by rw[a,z])]
    refine⟨a,j,rfl,h,?_⟩
    show Ω[j]?=some (.lst ((if m=n then r else f m).map .str))
    rw[if_pos z];exact i
   .rw[if_neg (by rw[a];exact λq=>z (by cases q;rfl))]
    refine⟨a,g,p,s,?_⟩
    show Ω[g]?=some (.lst ((if m=n then r else f m).map .str))
    rw[if_neg z];exact t
def Oa(a CE:aQ)(st:SM):SM:=
 (aj (bA (ay "House" "check_kind" a (aa 0) (ab (aa 3) ae)))
 (aj (e_ (m2 (aF .In) (aa 3) (aa 2)) (aj st ak) ak)
 (aj (bA (ay "House" "check_elders" CE (aa 0) (ab (aa 4) ae)))
 (aj (bA (dG kH bQ (aa 2) (ab (aa 3) ae)))
 ak))))
def Ob(a CE:aQ)(st:SM):SM:=
 (aj (aA 2 (mN aY ae))
 (aj (dt (eg [3,4]) (aZ (aa 1)) (Oa a CE st))
 ak))
structure Js(Ω:aD)(t:Nat)(ts:List (Str×Nat))(E:dz)(R:Str->List Str):Prop where
 ce:Ω[t]?=some (.lst (ts.map qq))
 nd:(ts.map (·.1)).Nodup
 len:ts.length<=100
 row:∀p∈ts,Ω[p.2]?=some (.lst ((R p.1).map .str))/\p.1∈nms E/\(R p.1).Nodup/\(R p.1).length<=5/\∀x∈R p.1,x∈nms E
theorem Js.keep{fp:List Nat}(T:Js Ω t ts E R)(K:af fp Ω ai)(b:∀q∈fp,∀ds,Ω[q]?≠some (.lst ds)):Js ai t ts E R:=
 ⟨K.get _ _ T.ce λz=>b _ z _ T.ce,T.nd,T.len,λp a=>⟨K.get _ _ (T.row p a).1 λz=>b _ z _ (T.row p a).1,(T.row p a).2⟩⟩
def FK(c:aQ):Prop:=∀(b:aD) (h t:Nat) (d:List (Str×Nat)) (E:dz) (L R:Str->List Str) (P:Nat->Prop),bG P b h E L->Js b t d E R->∃a,c [.ref h,.ref t] b=.ok .non a/\af [] b a
theorem Jt{o CE:aQ}(Y:p8 o)(Z:Cp CE){st:SM}:FK (cV 5 2 (Ob o CE st)):=by
 intro b h t q E L R P H T;rw[bh (by rfl),show aX 5 [D.ref h,.ref t]=[oR h,oR t,none,none,none]from rfl]
 have y:af [] b (b++[Cell.lst []]):=af.app;have N:(b++[Cell.lst []])[b.length]?=some (.lst (([]:List Str).map .str)):=aw;have r1:aA 2 (mN aY ae) [oR h,oR t,none,none,none] b=.nx [oR h,oR t,oR b.length,none,none] (b++[Cell.lst []]):=by simp[aK]
 have A:=T.keep y (by simp)
 have H1:bG (λj=>P j/\j<b.length) (b++[Cell.lst []]) h E L:=H.lt.keep y
 have lt:=aS T.ce;have lp:∀p∈q,p.2<b.length:=λp m=>aS (T.row p m).1
 generalize b++[Cell.lst []]=l at *
 have B:aZ (aa 1) [oR h,oR t,oR b.length,none,none] l=.ok (.seq (.ref t)) l:=by
  rw[bB];exact bo (by rw[aI,az A.ce])
 unfold Ob;rw[aH r1,ao,bV,B,bR];have O:=T.len;refine br (R:=λr=>∃ai,iC (sq r _)=.ok .non ai/\af [] b ai) (ds:=q.map qq) (λi s c=>∃C F,s=[oR h,oR t,oR b.length,C,F]/\af [b.length] l c/\c[b.length]?=some (.lst (((q.take i).map (·.1)).map .str))) ?_ ?_ ?_ fuel 0 _ _ (by unfold fuel;simp;omega) (Nat.zero_le _) ⟨none,none,rfl,af.refl,N⟩
 .rintro i s c ⟨_,_,_,K,_⟩
  rw[bu,aI,az (K.get _ _ A.ce (by simp;omega))]
 .rintro i d s c hd ⟨C,F,rfl,K,g⟩
  obtain⟨⟨n,a⟩,m,rfl⟩:=zo hd;have a0:=(List.getElem?_eq_some_iff.mp m).1;have Q:=List.mem_of_getElem? m;refine⟨[oR h,oR t,oR b.length,oS n,oR a],rfl,?_⟩;obtain⟨w1,w2,w3,w4,w5⟩:=A.row _ Q;have la:=lp _ Q;have G:bG (λj=>P j/\j<b.length) c h E L:=H1.Ds K N (λz=>by omega)
  obtain⟨f,e3,u⟩:=Y c h E L _ n G w2
  have m3:ay "House" "check_kind" o (aa 0) (ab (aa 3) ae) [oR h,oR t,oR b.length,oS n,oR a] c=.ok .non f:=by
   rw[bx G rfl (by decide)]
   show iA (o [.ref h,.str n] c)=_
   rw[e3];rfl
  have S:=u.g g
  have I:n∉(q.take i).map (·.1):=by
   have:=jU T.nd (i:=i) (n:=n) (by simp[m])
   rwa[←List.map_take]at this
  have U:=jk (w:=n) S;rw[decide_eq_false I]at U;have V:=G.keep u;obtain⟨k,e4,X⟩:=Z f h a E L _ (R n) V ((af.trans K (ew.up u)).get _ _ w1 (by simp;omega)) w3 w4 w5
  have m4:ay "House" "check_elders" CE (aa 0) (ab (aa 4) ae) [oR h,oR t,oR b.length,oS n,oR a] f=.ok .non k:=by
   rw[bx V rfl (by decide)]
   show iA (CE [.ref h,.ref a] f)=_
   rw[e4];rfl
  have J:=X.g S;have M:=ee (d:=.str n) J (by simp;omega)
  have e:Oa o CE st [oR h,oR t,oR b.length,oS n,oR a] c=.nx [oR h,oR t,oR b.length,oS n,oR a] (k.set b.length (.lst (((q.take i).map (·.1)).map .str++[.str n]))):=by
   unfold Oa;rw[dN m3,ao,dj]
   show sq (bK (cw (aF .In (.str n) (.ref b.length) f)) _) _=_
   rw[U]
   show sq (bA _ _ f) _=_
   rw[bL,m4,bR,cT,ao,bL,dw (x:=.ref b.length) (ai:=k) rfl (dr J)]
   show sq (bK (bQ (.ref b.length) [.str n] k) _) _=_
   rw[M];rfl
  rw[e];refine⟨_,_,rfl,((K.trans (ew.up u)).trans (ew.up X)).trans (af.set (by simp)),?_⟩
  rw[aP J,List.take_succ,m];simp
 .rintro s c ⟨C,F,rfl,K,_⟩
  exact⟨c,rfl,af.new y K (by simp)⟩
def Oc:SM:=(aj (fH (aa 2) (aa 3) (mN (aW .list) (ab (aa 4) ae))) ak)
def Od(a b:aQ):SM:=
 (aj (bA (ay "House" "may_turn" a (aa 0) (ab (aa 1) ae)))
 (aj (aA 2 (mN gT (ab fe ae)))
 (aj (dt (eg [3,4]) (aZ (aa 1)) Oc)
 (aj (bA (ay "House" "settle" b (aa 0) (ab (aa 2) ae)))
 ak))))
def wQ(TA:aQ):Prop:=∀(b:aD) (h t:Nat) (d:List (Str×Nat)) (E:dz) (L c R:Str->List Str) (P:Nat->Prop),bG P b h E L->Js b t d E R->(nms E).Nodup->E.length<=100->(∀n∈nms E,n∉d.map (·.1)->R n=bc E n)->Gd (aO (nms E) R)->Fd (aO (nms E) R) c->(∀n∈nms E,(c n).length<=900)->(∀j,b.length<=j->P j) ->
 ∃e l a,TA [.ref h,.ref t] b=.ok .non a/\cY P a h e l (aO (nms E) R) c/\af [h] b a/\b.length<=e/\e<l
theorem Ju{Y Z:aQ}(hM:FK Y)(hS:vi Z):wQ (cV 5 2 (Od Y Z)):=by
 intro I h t C E L L' R P H T a0 i0 hR G hL b0 hP;rw[bh (by rfl),show aX 5 [D.ref h,.ref t]=[oR h,oR t,none,none,none]from rfl]
 obtain⟨o,e1,F⟩:=hM I h t C E L R P H T
 have m1:ay "House" "may_turn" Y (aa 0) (ab (aa 1) ae) [oR h,oR t,none,none,none] I=.ok .non o:=by
  rw[bx H rfl (by decide)]
  show iA (Y [.ref h,.ref t] I)=_
  rw[e1];rfl
 obtain⟨e,l,w,j0,h1,h2,h3,h4,h5⟩:=(H.keep F).or;have c0:=tS h2
 have e0:(mN gT (ab fe ae)) [oR h,oR t,none,none,none] o=.ok (.ref o.length) (o++[.dK w]):=by
  show(((eo ["House"] "elders" (.ref h) o).bind _).bind _)=_
  rw[i5 h1,ag];exact c0
 obtain⟨g2,N⟩:=cX o (.dK w);have R2:aG P (o++[Cell.dK w]) w (aO (nms E) (bc E)):=by rw[rS a0];exact h3.keep N (by simp)
 have T2:=(T.keep F (by simp)).keep N (by simp)
 have O:=N.g h1;have l1:=F.len;have lh:=aS h1;have lt:=aS (T.keep F (by simp)).ce
 have lp:∀p∈C,p.2<o.length:=λp hp=>aS ((T.keep F (by simp)).row p hp).1
 have l2:(o++[Cell.dK w]).length=o.length+1:=by simp
 generalize hq:o.length=q at *;generalize o++[Cell.dK w]=u at *;have h0:=T.len
 have f0:∀{I:aD}{s:List (Key×D)}{f:Str->List Str},aG P I s (aO (nms E) f)->s.length<=1000:=λ{I s f} H=>by
  have:=H.len;simp[aO,nms]at this;omega
 have r3:∃A B s b,dt (eg [3,4]) (aZ (aa 1)) Oc [oR h,oR t,oR q,none,none] u=.nx [oR h,oR t,oR q,A,B] b/\af [q] u b/\b[q]?=some (.dK s)/\aG P b s (aO (nms E) R):=by
  have g0:aZ (aa 1) [oR h,oR t,oR q,none,none] u=.ok (.seq (.ref t)) u:=by
   rw[bB];exact bo (by rw[aI,az T2.ce])
  rw[bV,g0,bR];refine br (R:=λr=>∃A B s b,r=.nx [oR h,oR t,oR q,A,B] b/\af [q] u b/\b[q]?=some (.dK s)/\aG P b s (aO (nms E) R)) (ds:=C.map qq) (λi ρ b=>∃A B s,ρ=[oR h,oR t,oR q,A,B]/\af [q] u b/\b[q]?=some (.dK s)/\aG P b s (aO (nms E) λn=>if n∈(C.take i).map (·.1)then R n else bc E n)) ?_ ?_ ?_ fuel 0 _ _ (by unfold fuel;simp;omega) (Nat.zero_le _) ⟨none,none,w,rfl,af.refl,g2,by simpa using R2⟩
  .rintro i ρ b ⟨_,_,_,_,K,_⟩
   rw[bu,aI,az (K.get _ _ T2.ce (by simp;omega))]
  .rintro i d ρ b hd ⟨A,B,s,rfl,K,g,J⟩
   obtain⟨⟨n,a⟩,hp,rfl⟩:=zo hd;have M:=List.mem_of_getElem? hp;refine⟨[oR h,oR t,oR q,oS n,oR a],rfl,?_⟩;obtain⟨w1,w2,_⟩:=T2.row _ M;have la:=lp _ M;have w3:=K.get _ _ w1 (by simp;omega)
   have ev:(mN (aW .list) (ab (aa 4) ae)) [oR h,oR t,oR q,oS n,oR a] b=.ok (.ref b.length) (b++[.lst ((R n).map .str)]):=bS w3;obtain⟨g3,x⟩:=cX b (.lst ((R n).map .str));have kl:=K.len;generalize hz:b.length=z at *;generalize b++[Cell.lst ((R n).map .str)]=y at *;have gq:=x.g g;have r1:=tX (ρ:=[oR h,oR t,oR q,oS n,oR a]) (md:=aa 2) (mk:=aa 3) (n:=n) ev rfl rfl gq (f0 J);have R4:=(J.keep x (by simp)).upd (n:=n) w2 (hP z (by omega)) g3
   have Q:af [q] y (y.set q (.dK (ej s (.inr n) (.ref z)))):=af.set (by simp)
   have R5:=R4.bD Q (λj hj ds=>by rw[List.mem_singleton.mp hj,gq];simp)
   unfold Oc;rw[ao,r1];refine⟨_,_,_,rfl,(K.trans (ew.up x)).trans Q,aP gq,?_⟩
   have hf:(λm=>if m=n then R n else if m∈(C.take i).map (·.1)then R m else bc E m)=λm=>if m∈(C.take (i+1)).map (·.1)then R m else bc E m:=by
    funext m
    rw[List.take_succ,hp]
    by_cases S:m=n
    .subst S;simp
    .simp[S]
   rw[hf]at R5;exact R5
  .rintro ρ b ⟨A,B,s,rfl,K,g,J⟩
   rw[List.length_map,List.take_length]at J
   have hf:aO (nms E) (λn=>if n∈C.map (·.1)then R n else bc E n)=aO (nms E) R:=by
    unfold aO;refine List.map_congr_left λn hn=>?_
    show(n,if n∈C.map (·.1)then R n else bc E n)=(n,R n)
    by_cases M:n∈C.map (·.1)
    .rw[if_pos M]
    .rw[if_neg M,hR n hn M]
   rw[hf]at J;exact⟨A,B,s,b,rfl,K,g,J⟩
 obtain⟨A,B,s,b,r3,x,g3,R3⟩:=r3;have U:=x.get _ _ O (by simp;omega)
 have l3:=x.len
 have H3:bG P b h E L:=by
  have:=((H.keep F).keep N);obtain⟨e',l',V,X,q1,q2,q3,q4,q5⟩:=this;rw[O]at q1;simp only[Option.some.injEq,Cell.ins.injEq,List.cons.injEq,Prod.mk.injEq,D.ref.injEq,true_and,and_true]at q1;obtain⟨rfl,rfl⟩:=q1;have nl:∀j∈[q],∀ds,u[j]?≠some (.lst ds):=λj hj ds=>by rw[List.mem_singleton.mp hj,g2];simp
  have le:=h2.lt;have ll:=h4.lt;exact⟨e,l,V,X,U,x.get _ _ q2 (by simp;omega),q3.bD x nl,x.get _ _ q4 (by simp;omega),q5.bD x nl⟩
 obtain⟨l',y,e4,H4,Q,l4⟩:=hS b h q e l s (aO (nms E) R) P L' U g3 R3 G hL (by rw[au];exact b0) (λj hj=>hP j (by omega))
 have m4:ay "House" "settle" Z (aa 0) (ab (aa 2) ae) [oR h,oR t,oR q,A,B] b=.ok .non y:=by
  rw[bx H3 rfl (by decide)]
  show iA (Z [.ref h,.ref q] b)=_
  rw[e4];rfl
 refine⟨q,l',y,?_,H4,⟨by have:=Q.len;omega,λk c hk hn=>Q.get k c (x.get k c (N.get k c (F.get k c hk (by simp)) (by simp)) (by have:=aS hk;simp;omega)) (by have:=aS hk;simp at hn ⊢;omega)⟩,by omega,by omega⟩
 unfold Od;rw[dN m1,ao,aU,e0,bR,cT]
 show iC (aj _ _ [oR h,oR t,oR q,none,none] u)=_
 rw[aH r3,ao,bL,m4];rfl
end
structure Gl(ys:List Str)(R L:Str->List Str):Prop where
 gd:Gd (aO ys R)
 rQ:Fd (aO ys R) L
 sh:∀n∈ys,(L n).length<=900
noncomputable def k_(R:Str->List Str)(m:Str)(r:List Str):Str->List Str:=λn=>if n=m then r else R n
noncomputable def eU(ys:List Str)(p:Nat)(m:Str):List Str:=ys.take p++m::ys.drop p
section
variable{ys zs:List Str}{R R' L L':Str->List Str}{E:dz}{m n x:Str}{r o:List Str}{p:Nat}
theorem up_eq:k_ R m r m=r:=if_pos rfl
theorem i8(h:n≠m):k_ R m r n=R n:=if_neg h
theorem fh:n∈eU ys p m↔n=m\/n∈ys:=by
 unfold eU;have:=List.take_append_drop p ys;constructor
 .intro h
  rcases List.mem_append.mp h with h|h
  .exact .inr (List.mem_of_mem_take h)
  .rcases List.mem_cons.mp h with h|h
   .exact .inl h
   .exact .inr (List.mem_of_mem_drop h)
 .rintro(rfl|h)
  .simp
  .rw[←this]at h
   rcases List.mem_append.mp h with h|h
   .exact List.mem_append_left _ h
   .exact List.mem_append_right _ (List.mem_cons_of_mem _ h)
theorem nz:(eU ys p m).Perm (m::ys):=by
 unfold eU;have:=List.perm_middle (a:=m) (l₁:=ys.take p) (l₂:=ys.drop p);rwa[List.take_append_drop]at this
theorem oN(h:∀n∈ys,R n=R' n):aO ys R=aO ys R':=List.map_congr_left λn a=>by rw[h n a]
theorem vp(a:m∉ys):gm (aO ys R) p (m,r)=aO (eU ys p m) (k_ R m r):=by
 have e:aO ys R=aO ys (k_ R m r):=oN λn b=>(i8 (λz:n=m=>a (z▸b))).symm
 rw[e];unfold gm eU aO;rw[List.map_append,List.map_cons,List.map_take,List.map_drop,up_eq]
theorem ub(a:m∉ys):((aO (eU ys p m) (k_ R m r)).filter λq=>decide (q.1≠m))=aO ys R:=by
 rw[←vp a];unfold gm
 have b:∀q∈aO ys R,decide (q.1≠m)=true:=λq c=>by
  obtain⟨y,d,rfl⟩:=List.mem_map.mp c;exact decide_eq_true λz=>a (z▸d)
 rw[List.filter_append,List.filter_cons];simp only[ne_eq,not_true_eq_false,decide_false,if_false,Bool.false_eq_true];rw[←List.filter_append,List.take_append_drop];exact List.filter_eq_self.mpr b
theorem jo:((aO ys R).filter λq=>decide (q.1≠m))=aO (ys.filter λn=>decide (n≠m)) R:=by
 unfold aO;rw[List.filter_map];rfl
theorem Gl.mem(G:Gl ys R L)(a:n∈ys):∀x∈R n,x∈ys:=λx b=>by
 have:=G.gd.el n (by rw[au];exact a) x (by rw[a_ a];exact b)
 rwa[au]at this
theorem Gl.nd(G:Gl ys R L):ys.Nodup:=by have:=G.gd.nd;rwa[au]at this
theorem Gl.uc(G:gn E L)(h:ys.Perm (nms E)):Gl ys (bc E) L where
  gd:=
    { nd:=by rw[au];exact h.nodup_iff.mpr G.nd
      el:=λn a x b=>by
        rw[au]at a ⊢;rw[a_ a]at b;exact h.mem_iff.mpr (G.sub (h.mem_iff.mp a) x b)
      rk:=by
        obtain⟨rk,c⟩:=G.gd.rk;refine⟨rk,λn a x b=>?_⟩
        rw[au]at a;rw[a_ a]at b;exact c n (h.mem_iff.mp a) x b
      few:=by
        have d:=h.length_eq;have e:=G.len;simp only[aO,nms,List.length_map]at d ⊢;omega
      short:=λn a=>by
        rw[au]at a;rw[a_ a];exact G.gd.short n (h.mem_iff.mp a) }
  rQ:=λn a=>by
    rw[au]at a;rw[a_ a];exact G.rQ n (h.mem_iff.mp a)
  sh:=λn a=>by have:=G.short (h.mem_iff.mp a);omega
theorem Gl.bare(a:ys.Nodup)(c:ys.length<=100):Gl ys (λ_=>[]) (λn=>[n]) where
  gd:=
    { nd:=by rw[au];exact a
      el:=λn a x b=>by rw[au]at a;rw[a_ a]at b;cases b
      rk:=⟨λ_=>0,λn a x b=>by rw[au]at a;rw[a_ a]at b;cases b⟩
      few:=by simp only[aO,List.length_map];exact c
      short:=λn a=>by rw[au]at a;rw[a_ a];simp }
  rQ:=λn a=>by
    rw[au]at a;rw[a_ a];exact⟨[],.done λr d=>by simpa using d,rfl⟩
  sh:=λn _=>by simp
theorem zp{a:Nat}:∀{l:List Nat},a∈l->a<=l.sum
 |b::l,h=>by
  rw[List.sum_cons];rcases List.mem_cons.mp h with rfl|h
  .omega
  .have:=zp h;omega
theorem Gl.more(G:Gl ys R L)(e:m∉ys)(g:∀x∈r,x∈ys)(k:ys.length<100)(i:r.length<=100)(M:Mg (r.map L++[r]) o)(l:o.length<900):Gl (eU ys p m) (k_ R m r) (k_ L m (m::o)) where
  gd:=
    { nd:=by rw[au];exact nz.nodup_iff.mpr (List.nodup_cons.mpr ⟨e,G.nd⟩)
      el:=λn b x c=>by
        rw[au]at b ⊢;rw[a_ b]at c;refine fh.mpr (.inr ?_)
        by_cases z:n=m
        · subst z;rw[up_eq]at c;exact g x c
        · rw[i8 z]at c;exact G.mem ((fh.mp b).resolve_left z) x c
      rk:=by
        obtain⟨rk,j⟩:=G.gd.rk;refine⟨λn=>if n=m then (r.map rk).sum+1 else rk n,λn b x c=>?_⟩
        rw[au]at b;rw[a_ b]at c
        by_cases z:n=m
        · subst z
          rw[up_eq]at c;have d:x≠n:=λq=>e (q▸g x c)
          simp only[if_neg d,if_true];have:rk x<=(r.map rk).sum:=zp (List.mem_map.mpr ⟨x,c,rfl⟩);omega
        · rw[i8 z]at c
          have a:=(fh.mp b).resolve_left z;have d:x≠m:=λq=>e (q▸G.mem a x c)
          simp only[if_neg d,if_neg z];exact j n (by rw[au];exact a) x (by rw[a_ a];exact c)
      few:=by
        simp only[aO,List.length_map];rw[nz.length_eq,List.length_cons];omega
      short:=λn b=>by
        rw[au]at b;rw[a_ b]
        by_cases z:n=m
        · subst z;rw[up_eq];exact i
        · rw[i8 z]
          have a:=(fh.mp b).resolve_left z;have:=G.gd.short n (by rw[au];exact a)
          rwa[a_ a]at this }
  rQ:=λn b=>by
    rw[au]at b;rw[a_ b];have same:∀f:List Str,(∀x∈f,x∈ys)->f.map (k_ L m (m::o))=f.map L:=λf h=>List.map_congr_left λx c=>i8 λz=>e (z▸h x c)
    by_cases z:n=m
    · subst z
      rw[up_eq,same r g,up_eq];exact⟨o,M,rfl⟩
    · have a:=(fh.mp b).resolve_left z
      rw[i8 z,same _ (G.mem a),i8 z];have:=G.rQ n (by rw[au];exact a)
      rwa[a_ a]at this
  sh:=λn b=>by
    by_cases z:n=m
    · subst z;rw[up_eq,List.length_cons];omega
    · rw[i8 z];exact G.sh n ((fh.mp b).resolve_left z)
theorem Gl.less(G:Gl ys R L)(d:∀n∈ys,m∉R n):Gl (ys.filter λn=>decide (n≠m)) R L:=by
  have c:∀n,n∈ys.filter (λn=>decide (n≠m))->n∈ys/\n≠m:=λn a=>by simpa using a
  exact {
    gd:=
    { nd:=by rw[au];exact G.nd.sublist List.filter_sublist
      el:=λn a x b=>by
        rw[au]at a ⊢;rw[a_ a]at b;have:=c n a;simpa using ⟨G.mem this.1 x b,λz=>d n this.1 (z▸b)⟩
      rk:=by
        obtain⟨rk,e⟩:=G.gd.rk;refine⟨rk,λn a x b=>?_⟩
        rw[au]at a;rw[a_ a]at b;have:=(c n a).1;exact e n (by rw[au];exact this) x (by rw[a_ this];exact b)
      few:=by
        have:=G.gd.few;simp only[aO,List.length_map]at this ⊢;exact Nat.le_trans (List.length_filter_le _ _) this
      short:=λn a=>by
        rw[au]at a;rw[a_ a];have q:=(c n a).1;have:=G.gd.short n (by rw[au];exact q)
        rwa[a_ q]at this }
    rQ:=λn a=>by
      rw[au]at a;rw[a_ a];have q:=(c n a).1;have:=G.rQ n (by rw[au];exact q)
      rwa[a_ q]at this
    sh:=λn a=>G.sh n (c n a).1 }
theorem vq:∀{o:List Str},o.Nodup->Mg [o,[]] o
 |[],_=>.done λr b=>by simpa using b
 |y::o,h=>by
  have h2:=List.nodup_cons.mp h;refine .step ⟨y::o,by simp,by simp⟩ ?_ ?_
  .show([y::o,[]]:List (List Str)).findSome? (freeOf [y::o,[]])=some y
   have:freeOf [y::o,[]] (y::o)=some y:=if_neg λ⟨t,ht,a⟩=>by
    rcases List.mem_cons.mp ht with rfl|ht
    .exact h2.1 a
    .rw[List.mem_singleton.mp ht]at a;cases a
   rw[List.findSome?_cons,this]
  .have e:([y::o,[]]:List (List Str)).map (cv y)=[o,[]]:=by simp[cv]
   rw[e];exact vq h2.2
theorem FL{o:List Str}(h:(x::o).Nodup):Mg [x::o,[x]] (x::o):=by
 have b:=List.nodup_cons.mp h;refine .step ⟨x::o,by simp,by simp⟩ ?_ ?_
 .show([x::o,[x]]:List (List Str)).findSome? (freeOf [x::o,[x]])=some x
  have:freeOf [x::o,[x]] (x::o)=some x:=if_neg λ⟨t,ht,a⟩=>by
   rcases List.mem_cons.mp ht with rfl|ht
   .exact b.1 a
   .rw[List.mem_singleton.mp ht]at a;cases a
  rw[List.findSome?_cons,this]
 .have e:([x::o,[x]]:List (List Str)).map (cv x)=[o,[]]:=by simp[cv]
  rw[e];exact vq b.2
end
section
variable{Ω ai aB:aD}{ρ:aR}{e q j h k l:Nat}{kvs jr CB:List (Key×D)}{E:dz}{P:Nat->Prop}{n:Str}{r:List Str}{L L':Str->List Str}
theorem zq(h:Ω[e]?=some (.dK kvs)):eu Ω (Ω.set e (.dF kvs))=Ω:=by
 apply List.ext_getElem?;intro k;unfold eu;rw[List.getElem?_mapIdx]
 by_cases z:k=e
 .subst z;rw[aP h,h];rfl
 .rw[List.getElem?_set_ne (Ne.symm z)]
  cases q:Ω[k]? with
  |none=>rfl
  |some c=>cases c<;>rfl
theorem aG.drop(h:aG P Ω kvs E):aG P Ω (eO kvs (.inr n)) (E.filter λq=>decide (q.1≠n)):=by
 unfold aG at *
 induction h with
 |nil=>exact .nil
 |@cons b p c d r t a=>
  unfold eO at a ⊢;rw[List.filter_cons,List.filter_cons];have:decide (b.1≠.inr n)=decide (p.1≠n):=by rw[r.1];simp
  rw[this];split
  .exact .cons r a
  .exact a
theorem ud:nms (E.filter λq=>decide (q.1≠n))=(nms E).filter λm=>decide (m≠n):=by
 unfold nms;rw[List.filter_map];rfl
theorem Dt{d:D}(h:Ω[e]?=some (.dK kvs))(a:cN kvs (.inr n)=some d):iD (.ref e) [.str n] Ω=.ok d (Ω.set e (.dK (eO kvs (.inr n)))):=by
 simp only[iD,h,pB,a]
theorem zr(h:Ω[e]?=some (.dK kvs)):pL Ω (.ref e)=true:=by simp only[pL,h]
theorem cY.congr(H:cY P Ω h e l E L)(d:∀n∈nms E,L n=L' n):cY P Ω h e l E L':=by
 obtain⟨a,b,f,g,i,j,c⟩:=H;rw[oN d]at c;exact⟨a,b,f,g,i,j,c⟩
theorem cY.kp(H:cY P Ω h e l E L)(K:af [] Ω ai):cY P ai h e l E L:=H.keep K (by simp) (by simp) (by simp) (by simp)
theorem cY.kh{h':Nat}{C:Str}{k:List (Str×D)}(H:cY P Ω h e l E L)(K:af [h'] Ω ai)(a:Ω[h']?=some (.ins C k))(m:h≠h'):cY P ai h e l E L:=by
 obtain⟨b,c,n,d,o,f,p⟩:=H;have g:∀j∈[h'],∀i,Ω[j]?≠some (.lst i):=λj q i=>by rw[List.mem_singleton.mp q,a];simp
 exact⟨b,c,K.get _ _ n (by simpa using m),K.get _ _ d (by simp;intro z;rw[z,a]at d;cases d),o.bD K g,K.get _ _ f (by simp;intro z;rw[z,a]at f;cases f),p.bD K g⟩
theorem cY.kd{a b:Nat}{n o:List (Key×D)}(H:cY P Ω h e l E L)(K:af [a,b] Ω ai)(g:Ω[a]?=some (.dK n))(i:Ω[b]?=some (.dK o))(p:e≠a)(q:e≠b)(r:l≠a)(s:l≠b):cY P ai h e l E L:=by
 obtain⟨d,f,c,t,u,w,x⟩:=H
 have k:∀j∈[a,b],∀m,Ω[j]?≠some (.lst m):=λj hj m=>by
  rcases List.mem_cons.mp hj with rfl|hj
  .rw[g];simp
  .rw[List.mem_singleton.mp hj,i];simp
 refine⟨d,f,K.get _ _ c ?_,K.get _ _ t (by simp[p,q]),u.bD K k,K.get _ _ w (by simp[r,s]),x.bD K k⟩
 simp;exact⟨λz=>(by rw[z,g]at c;cases c),λz=>(by rw[z,i]at c;cases c)⟩
def Jv:SM:=(aj (e_ (m2 (aF .In) (aa 1) (aa 3)) (aj cR ak) ak) ak)
def Oe(a:aQ):SM:=
 (aj (bA (ay "House" "check_kind" a (aa 0) (ab (aa 1) ae)))
 (aj (uP (eg [2,3]) (iz fe) Jv)
 (aj (bA (dG pL iD fe (ab (aa 1) ae)))
 (aj (bA (dG pL iD Gv (ab (aa 1) ae)))
 ak))))
def CJ(c:aQ):Prop:=∀(b:aD) (h e l:Nat) (E:dz) (L:Str->List Str) (P:Nat->Prop) (n:Str),cY P b h e l E L->n∈nms E->E.length<=1000->(∀q∈E,n∉q.2/\q.2.length<=1000)->e≠l ->
 ∃a,c [.ref h,.str n] b=.ok .non a/\cY P a h e l (E.filter λq=>decide (q.1≠n)) L/\af [e,l] b a
theorem Jw{Q:aQ}(hC:p8 Q):CJ (cV 4 2 (Oe Q)):=by
 intro Ω h e l E L P n H V hl hE B;rw[bh (by rfl),show aX 4 [D.ref h,.str n]=[oR h,oS n,none,none]from rfl]
 obtain⟨a,e1,K1⟩:=hC Ω h E L P n H.at V
 have em:ay "House" "check_kind" Q (aa 0) (ab (aa 1) ae) [oR h,oS n,none,none] Ω=.ok .non a:=by
  rw[bx H.at rfl (by decide)]
  show iA (Q [.ref h,.str n] Ω)=_
  rw[e1];rfl
 obtain⟨c,o,t,q,S,h4,h5⟩:=H.kp K1
 have X:iz fe [oR h,oS n,none,none] a=.ok (.items e) (a.set e (.dF c)):=by
  show((eo ["House"] "elders" (.ref h) a).bind _)=_
  rw[i5 t,ag];exact Dr (.inl q)
 have Y:∃g k,uP (eg [2,3]) (iz fe) Jv [oR h,oS n,none,none] a=.nx [oR h,oS n,g,k] a:=by
  have f2:=vg (Ω:=a) (.inl q);have u:af [e] a (a.set e (.dF c)):=af.set (by simp)
  have y:=S.bD u (λj A ds=>by rw[List.mem_singleton.mp A,q];simp)
  have:∃g k,dt (eg [2,3]) (iz fe) Jv [oR h,oS n,none,none] a=.nx [oR h,oS n,g,k] (a.set e (.dF c)):=by
   rw[bV,X,bR];generalize a.set e (.dF c)=b at *;have e0:=S.len;refine br (R:=λr=>∃g k,r=.nx [oR h,oS n,g,k] b) (ds:=c.map Fy) (λi T f=>∃g k,T=[oR h,oS n,g,k]/\f=b) (λi T f ⟨_,_,_,z⟩=>by rw[z];exact vo f2) ?_ (λT f ⟨g,k,z1,z2⟩=>⟨g,k,by rw[z1,z2]⟩) fuel 0 _ _ (by rw[List.length_map];unfold fuel;omega) (Nat.zero_le _) ⟨none,none,rfl,rfl⟩
   rintro i d T f C ⟨g,k,rfl,rfl⟩;rw[List.getElem?_map]at C;obtain⟨U,Z,rfl⟩:=Option.map_eq_some_iff.mp C;obtain⟨⟨m,r⟩,hi,hk,j,A,_,F⟩:=aJ.get (R:=λ(U:Key×D) (p:Str×List Str)=>U.1=.inr p.1/\∃j,U.2=.ref j/\P j/\f[j]?=some (.lst (p.2.map .str))) y Z
   have G:Fy U=.tup [.str m,.ref j]:=by
    unfold Fy;rw[hk,A];rfl
   rw[G];refine⟨[oR h,oS n,oS m,oR j],rfl,?_⟩;have hr:=hE _ (List.mem_of_getElem? hi)
   have a0:aF .In (.str n) (.ref j) f=.ok (.bl false) f:=by
    have:=jk (w:=n) F;rw[decide_eq_false hr.1]at this;exact this
   have:Jv [oR h,oS n,oS m,oR j] f=.nx [oR h,oS n,oS m,oR j] f:=by
    unfold Jv;rw[ao,dj,dm]
    show sq (bK (cw (aF .In (.str n) (.ref j) f)) _) _=_
    rw[a0];rfl
   rw[this];exact⟨_,_,rfl,rfl⟩
  obtain⟨g,k,z⟩:=this;refine⟨g,k,?_⟩;unfold uP;rw[z]
  show gc.nx _ (eu a (a.set e (.dF c)))=_
  rw[zq q]
 obtain⟨g,k,Y⟩:=Y;obtain⟨j1,v1,_,_⟩:=S.at V;have p1:=Dt q v1;have b0:h≠e:=λz=>by rw[z,q]at t;cases t
 have c0:h≠l:=λz=>by rw[z,h4]at t;cases t
 have r1:(bA (dG pL iD fe (ab (aa 1) ae))) [oR h,oS n,g,k] a=.nx [oR h,oS n,g,k] (a.set e (.dK (eO c (.inr n)))):=by
  rw[bL,dw (x:=.ref e) (ai:=a) (by show((eo ["House"] "elders" (.ref h) a))=_;exact i5 t) (zr q)]
  show bK (iD (.ref e) [.str n] a) _=_
  rw[p1];rfl
 have u:af [e] a (a.set e (.dK (eO c (.inr n)))):=af.set (by simp)
 have g2:(a.set e (.dK (eO c (.inr n))))[e]?=some (.dK (eO c (.inr n))):=aP q;have I:∀j∈[e],∀ds,a[j]?≠some (.lst ds):=λj A ds=>by rw[List.mem_singleton.mp A,q];simp
 have J:=u.get _ _ t (by simpa using b0)
 have s:=u.get _ _ h4 (by simpa using Ne.symm B)
 have y:=(S.drop (n:=n)).bD u I;have K:=h5.bD u I;generalize a.set e (.dK (eO c (.inr n)))=b at *;obtain⟨j2,v2,_,_⟩:=K.at (n:=n) (by rw[au];exact V)
 have p2:=Dt s v2
 have r2:(bA (dG pL iD Gv (ab (aa 1) ae))) [oR h,oS n,g,k] b=.nx [oR h,oS n,g,k] (b.set l (.dK (eO o (.inr n)))):=by
  rw[bL,dw (x:=.ref l) (ai:=b) (by show((eo ["House"] "lines" (.ref h) b))=_;exact vh J) (zr s)]
  show bK (iD (.ref l) [.str n] b) _=_
  rw[p2];rfl
 have M:af [l] b (b.set l (.dK (eO o (.inr n)))):=af.set (by simp)
 have g3:(b.set l (.dK (eO o (.inr n))))[l]?=some (.dK (eO o (.inr n))):=aP s;have N:∀j∈[l],∀ds,b[j]?≠some (.lst ds):=λj A ds=>by rw[List.mem_singleton.mp A,s];simp
 have O:=(K.drop (n:=n)).bD M N;rw[jo,←ud]at O;refine⟨b.set l (.dK (eO o (.inr n))),?_,⟨_,_,M.get _ _ J (by simpa using c0),M.get _ _ g2 (by simpa using B),y.bD M N,g3,O⟩,(K1.sub (by simp)).trans ((u.sub (by simp)).trans (M.sub (by simp)))⟩
 unfold Oe;rw[dN em,aH Y,aH r1,ao,r2];rfl
def LS(c:aQ):Prop:=∀(b:aD) (h:Nat) (E:dz) (L:Str->List Str) (P:Nat->Prop) (n:Str),bG P b h E L->n∈nms E->E.length<=1000->∃k a,c [.ref h,.str n] b=.ok (.ref k) a/\a[k]?=some (.lst (((nms E).filter λm=>decide (n∈L m)).map .str))/\af [] b a/\b.length<=k
theorem CK{b:aQ}(d:Jp b):LS (kJ b):=by
 intro c h E L P n H e f;obtain⟨k,a,i,g,K,j⟩:=d c h E L P n H e f;exact⟨k,eu c a,by unfold kJ;rw[i],rO g,oJ K.len K.get,j⟩
end
section
variable{Ω ai aB kY:aD}{ρ:aR}{a b h i k x:Nat}{E E1 E2:dz}{P:Nat->Prop}{n:Str}{r xs us vs:List Str}{L L1 L2:Str->List Str}{A B:EM}{F:aQ}
theorem strs_map:∀xs:List Str,iX (xs.map .str)=some xs
 |[]=>rfl
 |x::xs=>by simp[iX,strs_map xs]
theorem zt{xs:List Str}(h:xs.length<64):jB (xs.map .str)=.ok ((xs.mergeSort cu).map .str):=by
 unfold jB;rw[if_neg (by simp;omega)]
 cases xs with
 |nil=>simp[n9]
 |cons x xs=>
  have:n9 ((x::xs).map .str)=none:=rfl;rw[this,strs_map]
theorem Jx{xs:List Str}(a:Ω[k]?=some (.lst (xs.map .str)))(h:xs.length<64):ox [.ref k] Ω=.ok (.ref Ω.length) (Ω++[.lst ((xs.mergeSort cu).map .str)]):=by
 simp only[ox,az a,zt h,jQ]
theorem zu{xs ys:List Str}(h:xs.Perm ys):xs.mergeSort cu=ys.mergeSort cu:=
 List.Perm.eq_of_pairwise (le:=λa b=>cu a b=true) (λa b _ _ c d=>mx c d) (List.pairwise_mergeSort fE ig xs) (List.pairwise_mergeSort fE ig ys) (((List.mergeSort_perm xs cu).trans h).trans (List.mergeSort_perm ys cu).symm)
theorem gP(c:A ρ Ω=.ok (.ref a) aB)(d:aB[a]?=some (.lst (us.map .str)))(e:B ρ aB=.ok (.ref b) kY)(f:kY[b]?=some (.lst (vs.map .str)))(K:af [] aB kY)(h:us=vs):m2 (aF .NotEq) A B ρ Ω=.ok (.bl false) kY:=by
 rw[dm,c,ag,e,ag,ve (K.g d) f,decide_eq_true h];rfl
theorem zv(c:A ρ Ω=.ok (.ref a) aB)(d:aB[a]?=some (.lst (us.map .str)))(e:B ρ aB=.ok (.ref b) kY)(f:kY[b]?=some (.lst (vs.map .str)))(K:af [] aB kY)(h:us=vs):m2 (aF .Eq) A B ρ Ω=.ok (.bl true) kY:=by
 rw[dm,c,ag,e,ag,pW (K.g d) f,decide_eq_true h]
theorem gU{t:EM}{s:SM}(h:t ρ Ω=.ok (.bl false) aB):e_ t s ak ρ Ω=.nx ρ aB:=by
 rw[dj,h];rfl
theorem jV{s t:EM}(a:s ρ Ω=.ok (.bl false) aB)(b:t ρ aB=.ok (.bl false) kY):rV s t ρ Ω=.ok (.bl false) kY:=by
 rw[EL,a,ag,cO];exact b
theorem jW{m:Str}{j:Nat}(H:bG P Ω h E L)(a:ρ[i]?=some (oR h))(b:ρ[j]?=some (oS n))(c:([("elders",D.ref 0),("lines",D.ref 0)]:List (Str×D)).lookup m=none)(e:F [.ref h,.str n] Ω=.ok (.ref k) aB):ay "House" m F (aa i) (ab (aa j) ae) ρ Ω=.ok (.ref k) aB:=by
 rw[bx H a c,aC,de,b,dc,ag,aL,ag,ag,e];rfl
theorem gW{m:Str}(H:bG P Ω h E L)(a:ρ[i]?=some (oR h))(b:([("elders",D.ref 0),("lines",D.ref 0)]:List (Str×D)).lookup m=none)(e:F [.ref h] Ω=.ok (.ref k) aB):ay "House" m F (aa i) ae ρ Ω=.ok (.ref k) aB:=by
 rw[bx H a b,aL,ag,e];rfl
def Of(a b:aQ):EM:=(rV (m2 (aF .NotEq) (ay "House" "line" a (aa 0) (ab (aa 3) ae)) (ay "House" "line" a (aa 1) (ab (aa 3) ae))) (m2 (aF .NotEq) (ay "House" "elders_of" b (aa 0) (ab (aa 3) ae)) (ay "House" "elders_of" b (aa 1) (ab (aa 3) ae))))
def Du(a:aQ)(i:Nat):EM:=(mN ox (ab (ay "House" "heirs" a (aa i) (ab (aa 3) ae)) ae))
def RD(b c a:aQ):SM:=
 (aj (e_ (Of b c)
 (aj (bT (ah (.bl false)))
 ak)
 ak)
 (aj (e_ (m2 (aF .NotEq) (Du a 0) (Du a 1))
 (aj (bT (ah (.bl false)))
 ak)
 ak)
 ak))
def Og(a b c:aQ):SM:=
 (aj (dt (dM 3) (aZ (aa 2))
 (RD a b c))
 (aj (bT (ah (.bl true)))
 ak))
def wR(h:aQ):Prop:=∀(b:aD) (f g x:Nat) (d:List Str) (a e:dz) (L1 L2:Str->List Str),bG Tr b f a L1->bG Tr b g e L2->b[x]?=some (.lst (d.map .str))->(nms a).Perm (nms e)->a.length<64->(∀n∈d,n∈nms a)->(∀n∈nms a,L1 n=L2 n)->(∀n∈nms a,bc a n=bc e n)->d.length<=100 ->
 ∃c,h [.ref f,.ref g,.ref x] b=.ok (.bl true) c/\af [] b c
theorem Jy{F G t:aQ}(T:wH F)(U:zl G)(V:LS t):wR (cV 4 3 (Og F G t)):=by
 intro C b c x xs h l L1 L2 H1 u X H hl hs w I a0;rw[bh (by rfl),show aX 4 [D.ref b,.ref c,.ref x]=[oR b,oR c,oR x,none]from rfl]
 have J:l.length<64:=by
  have:=H.length_eq;simp only[nms,List.length_map]at this;omega
 unfold Og;have L:aZ (aa 2) [oR b,oR c,oR x,none] C=.ok (.seq (.ref x)) C:=fO rfl X;rw[ao,bV,L,bR];refine br (R:=λr=>∃y,iC (sq r (aj (bT (ah (.bl true))) ak))=.ok (.bl true) y/\af [] C y) (ds:=xs.map .str) (λi E a=>∃M,E=[oR b,oR c,oR x,M]/\af [] C a) (λi E a ⟨_,_,K⟩=>by rw[bu,aI,az (K.g X)]) ?_ (λE a ⟨M,z,K⟩=>⟨a,by rw[z];rfl,K⟩) fuel 0 _ _ (by rw[List.length_map];unfold fuel;omega) (Nat.zero_le _) ⟨none,rfl,af.refl⟩
 rintro i d E a hd ⟨M,rfl,K⟩;obtain⟨n,hn,rfl⟩:=eD hd;have m1:=hs n (List.mem_of_getElem? hn);have o:=H.mem_iff.mp m1;refine⟨[oR b,oR c,oR x,oS n],rfl,?_⟩;have A:=H1.keep K;obtain⟨k1,N,c1,g1,O,_⟩:=T a b h L1 Tr n A m1;obtain⟨k2,P,c2,g2,Y,_⟩:=T N c l L2 Tr n (u.keep (K.trans O)) o;have f:=O.trans Y;obtain⟨k3,Q,c3,g3,S,_⟩:=U P b h L1 Tr n (A.keep f) m1;obtain⟨k4,j,c4,g4,Z,_⟩:=U Q c l L2 Tr n (u.keep ((K.trans f).trans S)) o;have p:=f.trans (S.trans Z)
 have t1:Of F G [oR b,oR c,oR x,oS n] a=.ok (.bl false) j:=by
  unfold Of;exact jV (gP (jW A rfl rfl (by decide) c1) g1 (jW (u.keep (K.trans O)) rfl rfl (by decide) c2) g2 Y (w n m1)) (gP (jW (A.keep f) rfl rfl (by decide) c3) g3 (jW (u.keep ((K.trans f).trans S)) rfl rfl (by decide) c4) g4 Z (I n m1))
 have A7:=A.keep p;obtain⟨k5,k,c5,g5,K5,_⟩:=V j b h L1 Tr n A7 m1 (by omega)
 have l5:((nms h).filter λm=>decide (n∈L1 m)).length<64:=Nat.lt_of_le_of_lt (List.length_filter_le _ _) (by simpa[nms]using hl)
 have s5:=Jx g5 l5;obtain⟨g6,K6⟩:=cX k (.lst ((((nms h).filter λm=>decide (n∈L1 m)).mergeSort cu).map .str))
 have q5:Du t 0 [oR b,oR c,oR x,oS n] j=.ok (.ref k.length) (k++[Cell.lst ((((nms h).filter λm=>decide (n∈L1 m)).mergeSort cu).map .str)]):=by
  unfold Du;rw[bX,aC,jW A7 rfl rfl (by decide) c5,ag,aL,ag,ag]
  exact s5
 generalize k++[Cell.lst ((((nms h).filter λm=>decide (n∈L1 m)).mergeSort cu).map .str)]=B at *
 have B9:=u.keep ((K.trans p).trans (K5.trans K6));obtain⟨k7,q,c7,g7,K7,_⟩:=V B c l L2 Tr n B9 o (by omega)
 have l7:((nms l).filter λm=>decide (n∈L2 m)).length<64:=Nat.lt_of_le_of_lt (List.length_filter_le _ _) (by simpa[nms]using J)
 have s7:=Jx g7 l7
 have q7:Du t 1 [oR b,oR c,oR x,oS n] B=.ok (.ref q.length) (q++[Cell.lst ((((nms l).filter λm=>decide (n∈L2 m)).mergeSort cu).map .str)]):=by
  unfold Du;rw[bX,aC,jW B9 rfl rfl (by decide) c7,ag,aL,ag,ag]
  exact s7
 have s:((nms h).filter λm=>decide (n∈L1 m)).Perm ((nms l).filter λm=>decide (n∈L2 m)):=by
  have e:(nms h).filter (λm=>decide (n∈L1 m))=(nms h).filter (λm=>decide (n∈L2 m)):=List.filter_congr λm hm=>by rw[w m hm]
  rw[e];exact H.filter _
 have t2:m2 (aF .NotEq) (Du t 0) (Du t 1) [oR b,oR c,oR x,oS n] j=.ok (.bl false) (q++[Cell.lst ((((nms l).filter λm=>decide (n∈L2 m)).mergeSort cu).map .str)]):=gP q5 g6 q7 aw (K7.trans af.app) (zu s)
 unfold RD;rw[ao,gU t1,cT,ao,gU t2];exact⟨_,rfl,(K.trans p).trans ((K5.trans K6).trans (K7.trans af.app))⟩
end
section
variable{Ω ai aB kY:aD}{ρ:aR}{a e h i k l p x:Nat}{E:dz}{P:Nat->Prop}{m n:Str}{r o xs ys:List Str}{R L:Str->List Str}{jr:List (Key×D)}
theorem iI{g:aQ}(k:wJ g)(H:bG P Ω h (aO ys R) L)(G:Gl ys R L)(n:Ω[a]?=some (.lst (r.map .str)))(q:nS m)(d:m∉ys)(w:ys.length<12)(s:r.Nodup)(f:r.length<=5)(b:∀x∈r,x∈ys)(M:Mg (r.map L++[r]) o)(t:o.length<900)(y:p<=ys.length)(u:∀j,Ω.length<=j->P j) :
  Gl (eU ys p m) (k_ R m r) (k_ L m (m::o))/\∃e l ai,g [.ref h,.str m,.ref a,.int p] Ω=.ok .non ai/\cY P ai h e l (aO (eU ys p m) (k_ R m r)) (k_ L m (m::o))/\af [h] Ω ai/\Ω.length<=e/\e<l:=by
 have c:Gl (eU ys p m) (k_ R m r) (k_ L m (m::o)):=G.more d b (by omega) (by omega) M t
 have i:(aO ys R).length=ys.length:=by simp[aO]
 refine⟨c,?_⟩;have:=k Ω h a (aO ys R) L (k_ L m (m::o)) P m r p (.int p) H n q (by rw[au];exact d) (by omega) s f (by rw[au];exact b) (by omega) (.inl rfl)
 rw[vp d]at this;exact this c.gd c.rQ (by rw[au];exact c.sh) u
theorem drop_one{b:aQ}(c:CJ b)(H:cY P Ω h e l (aO ys R) L)(G:Gl ys R L)(d:n∈ys)(f:∀y∈ys,n∉R y)(g:e<l) :
  ∃ai,b [.ref h,.str n] Ω=.ok .non ai/\cY P ai h e l (aO (ys.filter λy=>decide (y≠n)) R) L/\af [e,l] Ω ai:=by
 have j:=G.gd.few
 have:=c Ω h e l (aO ys R) L P n H (by rw[au];exact d) (by omega) (λq i=>by
  obtain⟨y,a,rfl⟩:=List.mem_map.mp i;have:=G.gd.short y (by rw[au];exact a)
  rw[a_ a]at this;exact⟨f y a,by show(R y).length<=1000;omega⟩) (by omega)
 rwa[jo]at this
theorem kq{d:aQ}(g:CJ d)(H:cY P Ω h e l (aO (eU ys p m) (k_ R m r)) (k_ L m o))(i:Gl (eU ys p m) (k_ R m r) (k_ L m o))(G:Gl ys R L)(b:m∉ys)(j:m∉r)(c:e<l) :
  ∃ai,d [.ref h,.str m] Ω=.ok .non ai/\cY P ai h e l (aO ys R) L/\af [e,l] Ω ai:=by
 obtain⟨ai,k,f,K⟩:=drop_one (n:=m) g H i (fh.mpr (.inl rfl)) (λy a=>by
  by_cases z:y=m
  .subst z;rw[up_eq];exact j
  .rw[i8 z];exact λq=>b (G.mem ((fh.mp a).resolve_left z) m q)) c
 rw[←jo,ub b]at f;exact⟨ai,k,f.congr λy a=>by rw[au]at a;exact i8 λz=>b (z▸a),K⟩
theorem gn.gl(G:gn E L):Gl (nms E) (bc E) L/\aO (nms E) (bc E)=E:=⟨Gl.uc G (List.Perm.refl _),rS G.nd⟩
theorem gn.RE(G:gn E L)(a:n∈nms E):Mg ([n].map L++[[n]]) (L n)/\(L n).length<900:=by
 obtain⟨o,_,h⟩:=G.rQ n a;have b:=G.CI a;have c:=G.short a;refine⟨?_,by omega⟩
 show Mg [L n,[n]] (L n)
 rw[h]at b ⊢;exact FL b
def Oh(a:aQ):EM:=(ay "House" "add" (λb=>a (b++[.non])) (aa 3) (ab (aa 4) (ab (mN (aW .list) (ab (m2 aN (aa 1) (aa 4)) ae)) ae)))
def LU(a:aQ):EM:=(ay "House" "add" a (aa 3) (oC (ab (aa 2) (ab (mN aY (ab (aa 4) ae)) ae)) (ah (.int 0))))
def LV(b a c:aQ):SM:=
 (aj (bA (Oh a))
 (aj (e_ (m2 (aF .NotIn) (aa 2) (ay "House" "kinds" b (aa 3) ae))
 (aj (bA (LU a))
 (aj (bA (ay "House" "drop" c (aa 3) (ab (aa 2) ae)))
 ak))
 ak)
 ak))
def Oi(a b c d TA:aQ):SM:=
 (aj (aA 3 (mN (iU "House" a) ae))
 (aj (dt (dM 4) (aZ (aa 0))
 (LV b c d))
 (aj (bA (ay "House" "turn_all" TA (aa 3) (ab (mN aY ae) ae)))
 (aj (bT (aa 3))
 ak))))
theorem Jz{w:Str}{j:Nat}(a:ρ[j]?=some (oS w)):mN aY (ab (aa j) ae) ρ Ω=.ok (.ref Ω.length) (Ω++[.lst (([w]:List Str).map .str)]):=by
 rw[bX,aC,de,a,dc,ag,aL,ag,ag];rfl
theorem FN{F l I:aQ}(hK:k6 F)(V:wJ l)(hD:CJ I)(G:gn E L)(hE:E.length<11)(H:bG Tr Ω h (E.take i) L)(s:E[i]?=some (n,r))(hv:nS n)(K:nS m)(hm:m∉nms E)(he:cP Ω e jr)(hr:aG Tr Ω jr E) :
  ∃ai,LV F l I [oR x,oR e,oS m,oR h,oS n] Ω=.nx [oR x,oR e,oS m,oR h,oS n] ai/\wW Tr ai h Ω.length (E.take (i+1)) L/\af [h] Ω ai:=by
 have a0:=(List.getElem?_eq_some_iff.mp s).1;have b:E.take (i+1)=E.take i++[(n,r)]:=by rw[List.take_succ,s];rfl
 have t:=G.take (i+1);have u:=gO s;have N:n∉nms (E.take i):=by rw[gp];exact jU G.nd u
 obtain⟨p1,O,p3⟩:=G.el i _ s;have O:r.length<=5:=O;have A:bc E n=r:=tW G.nd s;obtain⟨j,P,_,X⟩:=hr.at (List.mem_of_getElem? u);rw[A]at X
 have q1:(ab (aa 4) (ab (mN (aW .list) (ab (m2 aN (aa 1) (aa 4)) ae)) ae)) [oR x,oR e,oS m,oR h,oS n] Ω=.ok [.str n,.ref Ω.length] (Ω++[.lst (r.map .str)]):=by
  rw[aC]
  show((((((aN (.ref e) (.str n) Ω).bind _).bind _).bind _).bind _))=_
  rw[gj he P,ag]
  show(((aW .list [.ref j] Ω).bind _).bind _)=_
  rw[bS X];rfl
 obtain⟨g1,Q⟩:=cX Ω (.lst (r.map .str));generalize Ω++[Cell.lst (r.map .str)]=B at *
 obtain⟨e2,l2,d,c2,J,Y,f2,o2⟩:=V B h Ω.length (E.take i) L L Tr n r (E.take i).length .non (H.keep Q) g1 hv N (by rw[List.length_take];omega) p1 O (by rw[gp];exact p3) (Nat.le_refl _) (.inr ⟨rfl,rfl⟩) (by rw[eT,←b];exact t.gd) (by rw[eT,←b];exact t.rQ) (by
  rw[eT,←b];intro y R;have:=t.short R;omega) (λ_ _=>trivial)
 rw[eT,←b]at J
 have m1:Oh l [oR x,oR e,oS m,oR h,oS n] Ω=.ok .non d:=by
  unfold Oh;rw[bx H rfl (by decide),q1,ag]
  show iA (l [.ref h,.str n,.ref Ω.length,.non] B)=_
  rw[c2];rfl
 obtain⟨k,a,c3,g3,S,_⟩:=hK d h (E.take (i+1)) L Tr J.at;have f:m∉nms (E.take (i+1)):=by rw[gp];exact λz=>hm (List.mem_of_mem_take z)
 have m3:m2 (aF .NotIn) (aa 2) (ay "House" "kinds" F (aa 3) ae) [oR x,oR e,oS m,oR h,oS n] d=.ok (.bl true) a:=by
  have:=lJ (w:=m) g3;rw[decide_eq_false f]at this;rw[dm]
  show(((ay "House" "kinds" F (aa 3) ae) [oR x,oR e,oS m,oR h,oS n] d).bind _)=_
  rw[gW (i:=3) J.at rfl (by decide) c3,ag]
  exact this
 obtain⟨C,Z⟩:=t.gl;have o:n∈nms (E.take (i+1)):=by rw[b];simp[nms]
 obtain⟨M,ho⟩:=t.RE o;obtain⟨g4,T⟩:=cX a (.lst (([n]:List Str).map .str))
 have q4:(oC (ab (aa 2) (ab (mN aY (ab (aa 4) ae)) ae)) (ah (.int 0))) [oR x,oR e,oS m,oR h,oS n] a=.ok [.str m,.ref a.length,.int 0] (a++[.lst (([n]:List Str).map .str)]):=by
  unfold oC;rw[aC];have v2:aa 2 [oR x,oR e,oS m,oR h,oS n] a=.ok (.str m) a:=rfl;rw[v2,ag,aC,Jz (j:=4) rfl,ag,aL,ag,ag,ag];rfl
 have A3:=J.kp S;generalize a++[Cell.lst (([n]:List Str).map .str)]=q at *;have A4:bG Tr q h (aO (nms (E.take (i+1))) (bc (E.take (i+1)))) L:=by rw[Z];exact(A3.kp T).at
 obtain⟨Gm,e5,l5,g,U,H5,K5,f5,o5⟩:=iI (p:=0) V A4 C g4 K f (by simp[nms];omega) (by simp) (by simp) (λy R=>by rw[List.mem_singleton.mp R];exact o) M ho (Nat.zero_le _) (λ_ _=>trivial)
 have m5:LU l [oR x,oR e,oS m,oR h,oS n] a=.ok .non g:=by
  unfold LU;rw[bx A3.at rfl (by decide),q4,ag]
  show iA (l [.ref h,.str m,.ref a.length,.int 0] q)=_
  have U:l [.ref h,.str m,.ref a.length,.int 0] q=.ok .non g:=U;rw[U];rfl
 obtain⟨D,c6,H6,K6⟩:=kq hD H5 Gm C f (λz=>f (by rw[List.mem_singleton.mp z];exact o)) o5
 rw[Z]at H6
 have m6:ay "House" "drop" I (aa 3) (ab (aa 2) ae) [oR x,oR e,oS m,oR h,oS n] g=.ok .non D:=by
  rw[bx H5.at rfl (by decide)]
  show iA (I [.ref h,.str m] g)=_
  rw[c6];rfl
 have t1:=Q.len;have t2:=Y.len;have t3:=S.len;have t4:=T.len;refine⟨D,?_,⟨e5,l5,H6,by omega,o5⟩,⟨by have:=K5.len;have:=K6.len;omega,λz c hz hn=>K6.get z c (K5.get z c (T.get z c (S.get z c (Y.get z c (Q.get z c hz (by simp)) hn) (by simp)) (by simp)) hn) (by have:=aS hz;simp;omega)⟩⟩
 unfold LV;rw[dN m1,ao,dj,m3]
 show sq (sq (bA (LU l) [oR x,oR e,oS m,oR h,oS n] a) _) _=_
 rw[bL,m5,bR,cT,ao,bL,m6];rfl
def FO(f:aQ):Prop:=∀(a:aD) (x e:Nat) (m:Str) (d:List Str) (c:List (Key×D)) (E:dz) (L:Str->List Str),a[x]?=some (.lst (d.map .str))->cP a e c->aG Tr a c E->gn E L->nms E=d->E.length<11->(∀n∈d,nS n)->nS m->m∉d ->
 ∃h b,f [.ref x,.ref e,.str m] a=.ok (.ref h) b/\wW Tr b h a.length E L/\af [] a b/\a.length<=h
theorem JA{y z A B TA:aQ}(Y:Fi y)(Z:k6 z)(hA:wJ A)(hD:CJ B)(hT:wQ TA):FO (cV 5 3 (Oi y z A B TA)):=by
 intro b x e m Q a0 E L S T hr G s hl hv C hm;rw[bh (by rfl),show aX 5 [D.ref x,.ref e,.str m]=[oR x,oR e,oS m,none,none]from rfl]
 obtain⟨eN,lN,f,e1,U,o,n1,n2⟩:=Y b L Tr
 have r1:(aA 3 (mN (iU "House" y) ae)) [oR x,oR e,oS m,none,none] b=.nx [oR x,oR e,oS m,oR b.length,none] f:=by
  rw[aU,bX,aL,ag,e1];rfl
 have q:=o.g S;have le:=T.lt;have lx:=aS S;have l1:=o.len;have F:Q.length=E.length:=by rw[←s];simp[nms]
 have H:aZ (aa 0) [oR x,oR e,oS m,oR b.length,none] f=.ok (.seq (.ref x)) f:=fO rfl q
 have I:∃h a,dt (dM 4) (aZ (aa 0)) (LV z A B) [oR x,oR e,oS m,oR b.length,none] f=.nx [oR x,oR e,oS m,oR b.length,h] a/\wW Tr a b.length b.length E L/\af [b.length] f a:=by
  rw[bV,H,bR];refine br (R:=λr=>∃h a,r=.nx [oR x,oR e,oS m,oR b.length,h] a/\wW Tr a b.length b.length E L/\af [b.length] f a) (ds:=Q.map .str) (λi t c=>∃h,t=[oR x,oR e,oS m,oR b.length,h]/\wW Tr c b.length b.length (E.take i) L/\af [b.length] f c) ?_ ?_ ?_ fuel 0 _ _ (by rw[List.length_map];unfold fuel;omega) (Nat.zero_le _) ⟨none,rfl,by rw[List.take_zero];exact⟨eN,lN,U,by omega,n2⟩,af.refl⟩
  .rintro i t c ⟨_,_,_,K⟩
   rw[bu,aI,az (K.get _ _ q (by simp;omega))]
  .rintro i d t c hd ⟨h,rfl,u,K⟩
   obtain⟨n,J,rfl⟩:=eD hd;refine⟨[oR x,oR e,oS m,oR b.length,oS n],rfl,?_⟩;rw[←s]at J;obtain⟨r,hi⟩:=iR J;have b0:=o.get;obtain⟨c0,e0,f0,_⟩:=U;have M:=(hr.keep o (by simp)).bD K (λj hj ds=>by rw[List.mem_singleton.mp hj,‹f[b.length]?=_›];simp)
   obtain⟨k,N,w,O⟩:=FN (x:=x) Z hA hD G hl u.at hi (hv n (by rw[←s];exact List.mem_of_getElem? J)) C (by rw[s];exact hm) ((T.keep o (by simp)).keep K (by simp;omega)) M
   rw[N];obtain⟨e5,l5,H5,b1,b2⟩:=w;have:=K.len;exact⟨_,rfl,⟨e5,l5,H5,by omega,b2⟩,K.trans O⟩
  .rintro t c ⟨h,rfl,u,K⟩
   rw[List.length_map,F,List.take_length]at u;exact⟨h,c,rfl,u,K⟩
 obtain⟨h,a,I,V,X⟩:=I;have l2:=X.len;obtain⟨g3,P⟩:=cX a (.lst []);have q3:(ab (mN aY ae) ae) [oR x,oR e,oS m,oR b.length,h] a=.ok [.ref a.length] (a++[.lst []]):=rfl;generalize a++[Cell.lst []]=c at *;obtain⟨l,el⟩:=G.gl;have l3:=P.len;obtain⟨N,l4,k,c4,w,O,f4,o4⟩:=hT c b.length a.length [] E L L (bc E) Tr (V.at.keep P) ⟨g3,by simp,by simp,λp hp=>by simp at hp⟩ G.nd (by omega) (λ_ _ _=>rfl) l.gd l.rQ l.sh (λ_ _=>trivial)
 rw[el]at w
 have m4:ay "House" "turn_all" TA (aa 3) (ab (mN aY ae) ae) [oR x,oR e,oS m,oR b.length,h] a=.ok .non k:=by
  rw[bx V.at rfl (by decide),q3,ag]
  show iA (TA [.ref b.length,.ref a.length] c)=_
  rw[c4];rfl
 refine⟨b.length,k,?_,⟨N,l4,w,by omega,o4⟩,af.new o (X.trans ((P.sub (by simp)).trans O)) (by simp),Nat.le_refl _⟩
 unfold Oi;rw[aH r1,aH I,dN m4,ao];rfl
end
section
variable{Ω ai aB kY:aD}{ρ:aR}{a b e h i k l o p x t:Nat}{c c2:Int}{E:dz}{P:Nat->Prop}{m n:Str}{r xs ys zs:List Str}{R L:Str->List Str}{jr:List (Key×D)}{F:List D->Out Rs}{μ:Int->Int->Int->Int}
theorem zw:k_ (λ_=>[]) n []=λ_=>[]:=by
 funext y
 unfold k_;split<;>rfl
theorem CL:k_ (λn=>[n]) n (n::[])=λn=>[n]:=by
 funext y
 unfold k_;split
 .rename_i z;rw[z]
 .rfl
theorem zx(a:Ω[o]?=some (.lst (zs.map .str)))(b:p<=zs.length)(c:zs.length<=1000):eZ (.ref o) [.int p,.str n] Ω=.ok .non (Ω.set o (.lst ((eU zs p n).map .str))):=by
 simp only[eZ,gJ a];rw[if_pos,vk (by simpa using b)]
 .simp[eU]
 .rw[aK (by simp;omega),ff (by omega) (by omega)];rfl
theorem p_:Mg (([]:List Str).map L++[[]]) []:=.done λr a=>by simpa using a
def Oj:EM:=(dG kH eZ (aa 5) (ab (aa 9) (ab (aa 8) ae)))
def LW(F:List D->Out Rs)(a:aQ):SM:=
 (aj (aA 9 (mN (cp F) (ab (aa 2) (ab (m2 (bj .Add) (ah (.int 2)) (aa 7)) (ab (m2 (bj .Add) (aa 7) (ah (.int 1))) ae)))))
 (aj (bA (ay "House" "add" a (aa 4) (ab (aa 8) (ab (aa 6) (ab (aa 9) ae)))))
 (aj (bA Oj)
 ak)))
abbrev iV(x e:Nat)(c c2:Int)(h o b:Nat)(a7 a8 a9 a10 a11:Option D):aR:=[oR x,oR e,some (.int c),some (.int c2),oR h,oR o,oR b,a7,a8,a9,a10,a11]
theorem FP{l:aQ}(q:gi μ F)(I:wJ l){J K:Nat}{a9:Option D}(H:cY (λj=>j≠b/\j≠o) Ω h J K (aO zs λ_=>[]) λn=>[n])(A:Ω[o]?=some (.lst (zs.map .str)))(B:Ω[b]?=some (.lst (([]:List Str).map .str)))(L:o≠b)(hz:zs.length=i)(s:zs.Nodup)(M:n∉zs)(N:nS n)(T:i<11)(t:h≠o) :
  ∃p d f u ai,p<=zs.length/\LW F l (iV x e c c2 h o b (oI i) (oS n) a9 none none) Ω=.nx (iV x e c c2 h o b (oI i) (oS n) u none none) ai/\cY (λj=>j≠b/\j≠o) ai h d f (aO (eU zs p n) λ_=>[]) (λn=>[n])/\ai[o]?=some (.lst ((eU zs p n).map .str))/\af [h,o] Ω ai/\Ω.length<=d/\d<f:=by
 obtain⟨U,V,C⟩:=q c (2+(i:Int)) ((i:Int)+1) (by omega) (by omega) (by omega)
 obtain⟨p,O⟩:∃p:Nat,(p:Int)=μ c (2+(i:Int)) ((i:Int)+1):=⟨(μ c (2+(i:Int)) ((i:Int)+1)).toNat,by omega⟩
 rw[←O]at C;have P:aA 9 (mN (cp F) (ab (aa 2) (ab (m2 (bj .Add) (ah (.int 2)) (aa 7)) (ab (m2 (bj .Add) (aa 7) (ah (.int 1))) ae)))) (iV x e c c2 h o b (oI i) (oS n) a9 none none) Ω=.nx (iV x e c c2 h o b (oI i) (oS n) (oI p) none none) Ω:=by simp[iV,C]
 have X:=aS B;have Y:=aS A;obtain⟨Z,d,f,a,Q,w,E,R,S⟩:=iI (p:=p) (r:=[]) (m:=n) (o:=[]) I H.at (Gl.bare s (by omega)) B N M (by omega) (by simp) (by simp) (by simp) p_ (by simp) (by omega) (λj hj=>by omega)
 rw[zw,CL]at w
 have m1:ay "House" "add" l (aa 4) (ab (aa 8) (ab (aa 6) (ab (aa 9) ae))) (iV x e c c2 h o b (oI i) (oS n) (oI p) none none) Ω=.ok .non a:=by
  rw[bx H.at rfl (by decide)]
  show iA (l [.ref h,.str n,.ref b,.int p] Ω)=_
  rw[Q];rfl
 have g:=E.get _ _ A (by simpa using Ne.symm t)
 have k:=zx (n:=n) g (p:=p) (by omega) (by omega)
 have y:Oj (iV x e c c2 h o b (oI i) (oS n) (oI p) none none) a=.ok .non (a.set o (.lst ((eU zs p n).map .str))):=by
  unfold Oj;rw[dw (x:=.ref o) (ai:=a) rfl (dr g)];exact k
 have G:af [o] a (a.set o (.lst ((eU zs p n).map .str))):=af.set (by simp)
 have z:=w.rZ _ _ g;refine⟨p,d,f,oI p,a.set o (.lst ((eU zs p n).map .str)),by omega,?_,w.keep G (by simpa using z.1) (by simpa using z.2.1) (by simpa using z.2.2) (by simp),aP g,(E.sub (by simp)).trans (G.sub (by simp)),R,S⟩
 unfold LW;rw[aH P,dN m1,ao,bL,y];rfl
theorem JB{AD w:aQ}(J:gi μ F)(hA:wJ AD)(hU:zm w){q L:Nat}(hx:Ω[x]?=some (.lst (xs.map .str)))(M:xs.Nodup)(c0:xs.length<11)(hv:∀n∈xs,nS n)(H:cY (λj=>j≠b/\j≠o) Ω h q L [] λn=>[n])(N:Ω[o]?=some (.lst []))(O:Ω[b]?=some (.lst []))(A:o≠b)(P:q<L) :
  ∃zs a f a7 a8 a9 ai,dt (eg [7,8]) (kX (mN (bg w) (ab (mN (aW .list) (ab (aa 0) ae)) (ab (aa 2) ae)))) (LW F AD) (iV x e c c2 h o b none none none none none) Ω=.nx (iV x e c c2 h o b a7 a8 a9 none none) ai/\zs.Perm xs/\cY (λj=>j≠b/\j≠o) ai h a f (aO zs λ_=>[]) (λn=>[n])/\ai[o]?=some (.lst (zs.map .str))/\af [h,o] Ω ai/\q<=a/\a<f:=by
 have Q:h≠o:=(H.rZ _ _ N).1;have S:h≠b:=(H.rZ _ _ O).1;have e0:q<Ω.length:=by obtain⟨_,_,_,z,_⟩:=H;exact aS z
 have q1:(mN (aW .list) (ab (aa 0) ae)) (iV x e c c2 h o b none none none none none) Ω=.ok (.ref Ω.length) (Ω++[.lst (xs.map .str)]):=bS hx;obtain⟨g1,K1⟩:=cX Ω (.lst (xs.map .str));have lh:=aS N;have lb:=aS O;have f0:h<Ω.length:=H.at.hlt;generalize g0:Ω++[Cell.lst (xs.map .str)]=B at *;obtain⟨D,k,s,E,T,g2,K2,l2⟩:=hU B Ω.length c xs g1 (by omega)
 have m:=K1.trans K2;have l1:=K1.len;have C:D.Nodup:=E.nodup_iff.mpr M;have h0:=E.length_eq
 have U:kX (mN (bg w) (ab (mN (aW .list) (ab (aa 0) ae)) (ab (aa 2) ae))) (iV x e c c2 h o b none none none none none) Ω=.ok (.Hs (.ref k)) s:=by
  unfold kX
  have:(mN (bg w) (ab (mN (aW .list) (ab (aa 0) ae)) (ab (aa 2) ae))) (iV x e c c2 h o b none none none none none) Ω=.ok (.ref k) s:=by
   rw[bX,aC,q1,ag]
   show iA (w [.ref Ω.length,.int c] B)=_
   rw[T];rfl
  rw[this];simp[az g2]
 rw[bV,U,bR]
 refine br (R:=λr=>∃zs a f a7 a8 a9 ai,r=.nx (iV x e c c2 h o b a7 a8 a9 none none) ai/\zs.Perm xs/\cY (λj=>j≠b/\j≠o) ai h a f (aO zs λ_=>[]) (λn=>[n])/\ai[o]?=some (.lst (zs.map .str))/\af [h,o] Ω ai/\q<=a/\a<f) (ds:=dD 0 (D.map .str))
  (λi G l=>∃zs a f a7 a8 a9,G=iV x e c c2 h o b a7 a8 a9 none none/\zs.Perm (D.take i)/\cY (λj=>j≠b/\j≠o) l h a f (aO zs λ_=>[]) (λn=>[n])/\l[o]?=some (.lst (zs.map .str))/\af [h,o] s l/\q<=a/\a<f) ?_ ?_ ?_ fuel 0 _ _ (by rw[gx];unfold fuel;simp;omega) (Nat.zero_le _) ⟨[],q,L,none,none,none,rfl,by simp,H.kp m,m.g N,af.refl,Nat.le_refl _,P⟩
 .rintro i G l ⟨_,_,_,_,_,_,_,_,_,_,K,_⟩
  have gk:=K.get _ _ g2 (by simp;omega)
  simp[en,az gk]
 .rintro i d G l hd ⟨zs,a,f,a7,a8,a9,rfl,t,V,u,K,b1,b2⟩
  obtain⟨y,hy,rfl⟩:=jC _ _ _ _ hd;obtain⟨n,I,rfl⟩:=eD hy;have i0:=(List.getElem?_eq_some_iff.mp I).1;refine⟨iV x e c c2 h o b (oI (0+i:Nat)) (oS n) a9 none none,rfl,?_⟩;rw[Nat.zero_add];have X:zs.length=i:=by rw[t.length_eq,List.length_take];omega
  have Y:zs.Nodup:=t.nodup_iff.mpr (C.sublist (List.take_sublist _ _));have Z:n∉zs:=λz=>jU C I (t.mem_iff.mp z)
  have a0:l[b]?=some (.lst (([]:List Str).map .str)):=K.get _ _ (m.g O) (by simp;exact⟨Ne.symm S,Ne.symm A⟩)
  obtain⟨p,e4,l4,j0,k0,l0,c4,H4,b0,K4,f4,o4⟩:=FP (x:=x) (e:=e) (c:=c) (c2:=c2) (a9:=a9) J hA V u a0 A X Y Z (hv n (E.mem_iff.mp (List.mem_of_getElem? I))) (by omega) Q
  rw[c4];have:=K.len;have:=m.len;refine⟨eU zs p n,e4,l4,_,_,_,rfl,?_,H4,b0,K.trans K4,by omega,o4⟩
  rw[List.take_succ,I];exact nz.trans ((List.Perm.cons n t).trans (by simpa using (List.perm_append_singleton n (D.take i)).symm))
 .rintro G l ⟨zs,a,f,a7,a8,a9,rfl,t,V,u,K,b1,b2⟩
  rw[gx,List.length_map,List.take_length]at t;exact⟨zs,a,f,a7,a8,a9,l,rfl,t.trans E,V,u,(m.sub (by simp)).trans K,b1,b2⟩
end
section
variable{Ω ai aB kY:aD}{ρ:aR}{a b e h i k l o p x t:Nat}{c c2:Int}{E:dz}{P:Nat->Prop}{m n:Str}{r xs ys zs:List Str}{R L:Str->List Str}{jr:List (Key×D)}{F:List D->Out Rs}{μ:Int->Int->Int->Int}{ts:List (Str×Nat)}
theorem CM{mc me:EM}{τ:aR}{src:Src}{ds:List D}(I:aD->Prop)(h:∀Ω,I Ω->en src Ω=some ds)(j:∀d∈ds,∀Ω,I Ω->∃ai,mc ([some d]++τ) Ω=.ok (.bl false) ai/\I ai) :
  ∀(f i:Nat) (Ω:aD),I Ω->ds.length - i<f->i<=ds.length->∃ai,qm false mc me 0 τ src f i [] Ω=.ok [] ai/\I ai:=by
 intro f
 induction f with
 |zero=>intro i Ω _ k;omega
 |succ f l=>
  intro i Ω c k q;simp only[qm,h Ω c]
  by_cases a:i<ds.length
  .have e:ds[i]?=some ds[i]:=List.getElem?_eq_getElem a
   rw[e];have m:mR 0 ds[i]=some [some ds[i]]:=rfl;obtain⟨b,o,p⟩:=j _ (List.getElem_mem a) Ω c
   have g:hG false mc ([some ds[i]]++τ) Ω=.ok false b:=by
    show cw (mc ([some ds[i]]++τ) Ω)=_
    rw[o];rfl
   simp only[m];rw[if_pos (aK (n:=([]:List D).length+1) (by simp)),g]
   exact l (i+1) b p (by omega) a
  .have e:ds[i]?=none:=List.getElem?_eq_none (by omega)
   rw[e];exact⟨Ω,rfl,c⟩
theorem zy{mc me:EM}{mi:IM}{cap:List Nat}{src:Src}{ds:List D}(I:aD->Prop)(b:mi ρ Ω=.ok src ai)(c:I ai)(e:∀Ω,I Ω->en src Ω=some ds)(f:∀d∈ds,∀Ω,I Ω->∃ai,mc ([some d]++dH cap ρ) Ω=.ok (.bl false) ai/\I ai)(i:ds.length<=900) :
  ∃a,bF me false mc mi 0 cap ρ Ω=.ok (.ref a.length) (a++[.lst []])/\I a:=by
 obtain⟨a,g,h⟩:=CM (me:=me) I e f fuel 0 ai c (by unfold fuel;omega) (Nat.zero_le _)
 refine⟨a,?_,h⟩;unfold bF;rw[b];dsimp only;rw[g];rfl
def Ol(a:aQ):EM:=(m2 (aF .NotEq) (bF (aa 0) false (m2 (aF .NotEq) (ay "House" "elders_of" a (aa 1) (ab (aa 0) ae)) (mN aY ae)) (aZ (aa 0)) 0 [4]) (mN aY ae))
theorem JC{f:aQ}(r:zl f)(s:ρ[0]?=some (oR x))(t:ρ[4]?=some (oR h))(m:Ω[x]?=some (.lst (xs.map .str)))(u:xs.length<11)(H:bG P Ω h (aO zs λ_=>[]) L)(o:zs.Perm xs):∃ai,Ol f ρ Ω=.ok (.bl false) ai/\af [] Ω ai:=by
 have l:aZ (aa 0) ρ Ω=.ok (.seq (.ref x)) Ω:=fO s m
 obtain⟨c,w,y⟩:=zy (ρ:=ρ) (me:=aa 0) (mc:=m2 (aF .NotEq) (ay "House" "elders_of" f (aa 1) (ab (aa 0) ae)) (mN aY ae)) (cap:=[4]) (ds:=xs.map .str) (λa=>af [] Ω a) l af.refl (λa K=>by rw[bu,aI,az (K.g m)]) (λd z a K=>by
  obtain⟨n,p,rfl⟩:=List.mem_map.mp z;have A:dH [4] ρ=[oR h]:=by simp[dH,t]
  rw[A];obtain⟨k,e,B,q,C,_⟩:=r a h (aO zs λ_=>[]) L P n (H.keep K) (by rw[au];exact o.mem_iff.mpr p)
  rw[a_ (o.mem_iff.mpr p)]at q;refine⟨e++[.lst []],?_,K.trans (C.trans af.app)⟩;exact gP (us:=[]) (vs:=[]) (jW (i:=1) (j:=0) (H.keep K) rfl rfl (by decide) B) q (b:=e.length) rfl aw af.app rfl) (by simp;omega)
 refine⟨(c++[.lst []])++[.lst []],?_,y.trans (af.app.trans af.app)⟩;unfold Ol;exact gP (us:=[]) (vs:=[]) w aw (b:=(c++[Cell.lst []]).length) rfl aw af.app rfl
def LX(a:aQ):EM:=(bF (mN ip (ab (aa 0) (ab (mN (aW .list) (ab (m2 aN (aa 1) (aa 0)) ae)) ae))) true (ah .non) (aZ (mN (bg a) (ab (mN (aW .list) (ab (aa 0) ae)) (ab (aa 3) ae)))) 0 [1])
theorem JD{s:aQ}(L:zm s)(M:ρ[0]?=some (oR x))(N:ρ[1]?=some (oR e))(O:ρ[3]?=some (some (.int c2)))(P:Ω[x]?=some (.lst (xs.map .str)))(Q:xs.length<11)(R:cP Ω e jr)(S:aG Tr Ω jr E)(T:nms E=xs) :
  ∃(b:List (Str×Nat)) (t:Nat) (ai:aD),LX s ρ Ω=.ok (.ref t) ai/\ai[t]?=some (.lst (b.map qq))/\(b.map (·.1)).Perm xs/\(∀p∈b,ai[p.2]?=some (.lst ((bc E p.1).map .str))/\Ω.length<=p.2/\p.2<t)/\af [] Ω ai/\Ω.length<=t:=by
 have U:(mN (aW .list) (ab (aa 0) ae)) ρ Ω=.ok (.ref Ω.length) (Ω++[.lst (xs.map .str)]):=by
  rw[bX,aC,de,M,dc,ag,aL,ag,ag];exact bS P
 obtain⟨V,X⟩:=cX Ω (.lst (xs.map .str));generalize Ω++[Cell.lst (xs.map .str)]=u at *;obtain⟨F,k,m,w,y,G,Y,l2⟩:=L u Ω.length c2 xs V (by omega)
 have c:=X.trans Y;have Z:=w.length_eq
 have z:aZ (mN (bg s) (ab (mN (aW .list) (ab (aa 0) ae)) (ab (aa 3) ae))) ρ Ω=.ok (.seq (.ref k)) m:=by
  rw[bB,bX,aC,U,ag,aC,de,O,dc,ag,aL,ag,ag,ag,iG,y,km,ag];exact bo (by rw[aI,az G])
 obtain⟨as,o,e3,b,rfl,r,A,H⟩:=iP (ρ:=ρ) (me:=mN ip (ab (aa 0) (ab (mN (aW .list) (ab (m2 aN (aa 1) (aa 0)) ae)) ae))) (mc:=ah .non) (cap:=[1]) (ds:=F.map .str) (λi f a=>∃b:List (Str×Nat),f=b.map qq/\b.map (·.1)=F.take i/\(∀p∈b,a[p.2]?=some (.lst ((bc E p.1).map .str))/\Ω.length<=p.2/\p.2<a.length)/\af [] m a) z ⟨[],rfl,rfl,by simp,af.refl⟩
  (λi f a h=>by
   obtain⟨_,_,_,_,K⟩:=h;rw[bu,aI,az (K.g G)])
  (λi d f a B hI=>by
   obtain⟨b,rfl,r,A,K⟩:=hI;obtain⟨n,I,rfl⟩:=eD B;have hc:dH [1] ρ=[oR e]:=by simp[dH,N]
   rw[hc];have l:=c.trans K;obtain⟨j,hv,_,hj⟩:=(S.keep l (by simp)).at (n:=n) (by rw[T];exact w.mem_iff.mp (List.mem_of_getElem? I))
   have q:(mN ip (ab (aa 0) (ab (mN (aW .list) (ab (m2 aN (aa 1) (aa 0)) ae)) ae))) ([oS n]++[oR e]) a=.ok (qq (n,a.length)) (a++[.lst ((bc E n).map .str)]):=by
    rw[bX,aC]
    show(((((((aN (.ref e) (.str n) a).bind _).bind _).bind _).bind _).bind _))=_
    rw[gj (R.keep l (by simp)) hv,ag]
    show((((aW .list [.ref j] a).bind _).bind _).bind _)=_
    rw[bS hj]
    show ip [.str n,.ref a.length] _=_
    rw[jR,if_pos (aK (by simp))]
    rfl
   refine⟨_,_,q,b++[(n,a.length)],by simp,by rw[List.take_succ,I];simp[r],λp hp'=>?_,K.trans af.app⟩
   rcases List.mem_append.mp hp' with hp' |hp'
   .obtain⟨C,D,J⟩:=A p hp'
    exact⟨dq C,D,by simp;omega⟩
   .rw[List.mem_singleton.mp hp']
    refine⟨aw,l.len,by simp⟩) (by simp;omega)
 rw[List.length_map,List.take_length]at r;refine⟨b,o.length,o++[Cell.lst (b.map qq)],by unfold LX;exact e3,aw,by rw[r];exact w,λp hp'=>?_,(c.trans H).trans af.app,(c.trans H).len⟩
 obtain⟨C,D,J⟩:=A p hp';exact⟨dq C,D,J⟩
end
section
variable{Ω ai aB kY:aD}{ρ:aR}{a b e h i k l o p x t:Nat}{c c2:Int}{E:dz}{P:Nat->Prop}{m n:Str}{r xs ys zs:List Str}{R L:Str->List Str}{jr:List (Key×D)}{F:List D->Out Rs}{μ:Int->Int->Int->Int}{ts:List (Str×Nat)}
def Om:EM:=(dG kH bQ (aa 6) (ab (m2 aN (aa 0) (ah (.int 0))) ae))
def Oo(TA a:aQ):EM:=(rV (m2 (aF .IsNot) (ay "House" "turn_all" TA (aa 4) (ab (aa 10) ae)) (ah .non)) (m2 (aF .NotEq) (ay "House" "kinds" a (aa 4) ae) (aa 5)))
def LY:SM:=(aj (bA (dG kH iy (aa 11) ae)) ak)
def Oq(F:List D->Out Rs)(b c a d TA e:aQ):SM:=
 (aj (aA 4 (mN (iU "House" b) ae))
 (aj (aA 5 (mN aY ae))
 (aj (aA 6 (mN aY ae))
 (aj (dt (eg [7,8]) (kX (mN (bg a) (ab (mN (aW .list) (ab (aa 0) ae)) (ab (aa 2) ae)))) (LW F c))
 (aj (bA Om)
 (aj (e_ (Ol d)
 (aj (bT (ah .non))
 ak)
 ak)
 (aj (aA 10 (LX a))
 (aj (e_ (Oo TA e)
 (aj (bT (ah .non))
 ak)
 ak)
 (aj (dt (eg [8,11]) (aZ (aa 10)) LY)
 (aj (bA (dG kH iy (aa 10) ae))
 (aj (bT (aa 4))
 ak)))))))))))
theorem JE{q s N1:Nat}{a7 a8 a9:Option D}(H:cY P Ω h q s E L)(N:Ω[t]?=some (.lst (ts.map qq)))(S:∀p∈ts,∃ds,Ω[p.2]?=some (.lst ds))(T:∀p∈ts,¬ P p.2)(U:∀p∈ts,N1<=p.2/\p.2<t)(hl:ts.length<=100) :
  ∃f a11 ai,dt (eg [8,11]) (aZ (aa 10)) LY (iV x e c c2 h o b a7 a8 a9 (oR t) none) Ω=.nx (iV x e c c2 h o b a7 f a9 (oR t) a11) ai/\cY P ai h q s E L/\ai[t]?=some (.lst (ts.map qq))/\∀k c,Ω[k]?=some c->k<N1->ai[k]?=some c/\Ω.length<=ai.length:=by
 have B:aZ (aa 10) (iV x e c c2 h o b a7 a8 a9 (oR t) none) Ω=.ok (.seq (.ref t)) Ω:=fO rfl N;rw[bV,B,bR];refine br (R:=λr=>∃f a11 ai,r=.nx (iV x e c c2 h o b a7 f a9 (oR t) a11) ai/\cY P ai h q s E L/\ai[t]?=some (.lst (ts.map qq))/\∀k c,Ω[k]?=some c->k<N1->ai[k]?=some c/\Ω.length<=ai.length) (ds:=ts.map qq) (λi u a=>∃f a11,u=iV x e c c2 h o b a7 f a9 (oR t) a11/\cY P a h q s E L/\a[t]?=some (.lst (ts.map qq))/\(∀p∈ts,∃ds,a[p.2]?=some (.lst ds))/\∀k c,Ω[k]?=some c->k<N1->a[k]?=some c/\Ω.length<=a.length) ?_ ?_ ?_ fuel 0 _ _ (by rw[List.length_map];unfold fuel;omega) (Nat.zero_le _) ⟨a8,none,rfl,H,N,S,λk c w _=>⟨w,Nat.le_refl _⟩⟩
 .rintro i u a ⟨_,_,_,_,g,_⟩
  rw[bu,aI,az g]
 .rintro i d u a V ⟨f,a11,rfl,y,C,F,A⟩
  obtain⟨⟨n,j⟩,X,rfl⟩:=zo V;have G:=List.mem_of_getElem? X;refine⟨iV x e c c2 h o b a7 (oS n) a9 (oR t) (oR j),rfl,?_⟩;obtain⟨ds,l⟩:=F _ G;have l:a[j]?=some (.lst ds):=l;obtain⟨O,Q⟩:=U _ G;have O:N1<=j:=O;have Q:j<t:=Q;have Y:=oH l;have K:af [j] a (a.set j (.lst [])):=af.set (by simp)
  have I:=y.rZ _ _ l
  have Z:LY (iV x e c c2 h o b a7 (oS n) a9 (oR t) (oR j)) a=.nx (iV x e c c2 h o b a7 (oS n) a9 (oR t) (oR j)) (a.set j (.lst [])):=by
   unfold LY;rw[ao,bL,dw (x:=.ref j) (ai:=a) rfl (dr l),aL,ag,Y];rfl
  rw[Z];refine⟨_,_,rfl,y.keep K (by simpa using I.1) (by simpa using I.2.1) (by simpa using I.2.2) (by simpa using T _ G),K.get _ _ C (by simp;omega),λp J=>?_,λk c w m=>⟨K.get _ _ (A k c w m).1 (by simp;omega),by rw[List.length_set];exact(A k c w m).2⟩⟩
  by_cases z:p.2=j
  .exact⟨[],by rw[z];exact aP l⟩
  .obtain⟨M,h'⟩:=F p J
   exact⟨M,K.get _ _ h' (by simpa using z)⟩
 .rintro u a ⟨f,a11,rfl,y,C,F,A⟩
  exact⟨f,a11,a,rfl,y,C,A⟩
def FQ(i:aQ):Prop:=∀(a:aD) (x e:Nat) (c j:Int) (f:List Str) (d:List (Key×D)) (E:dz) (L:Str->List Str),a[x]?=some (.lst (f.map .str))->cP a e d->aG Tr a d E->gn E L->nms E=f->1<=E.length->E.length<11->(∀n∈f,nS n) ->
 ∃h g b,i [.ref x,.ref e,.int c,.int j] a=.ok (.ref h) b/\g.Perm f/\wW Tr b h a.length (aO g (bc E)) L/\af [] a b/\a.length<=h
theorem JF{IN AD TU EO TA KD:aQ}(c0:gi μ F)(hN:Fi IN)(hA:wJ AD)(hU:zm TU)(hE:zl EO)(hT:wQ TA)(hK:k6 KD):FQ (cV 12 4 (Oq F IN AD TU EO TA KD)):=by
 intro f x e c c2 I O E L P he hr G s h1 hl hv;rw[bh (by rfl),show aX 12 [D.ref x,.ref e,.int c,.int c2]=[oR x,oR e,some (.int c),some (.int c2),none,none,none,none,none,none,none,none]from rfl]
 have w0:I.length=E.length:=by rw[←s];simp[nms]
 have Q:I.Nodup:=by rw[←s];exact G.nd
 have lx:=aS P;have le:=he.lt;obtain⟨el,ll,aB,e1,H1,K1,n1,n2⟩:=hN f (λn=>[n]) Tr
 have R:cY (λj=>Tr j/\j<aB.length) aB f.length el ll [] λn=>[n]:=by
  obtain⟨S,T,q1,q2,q3,q4,q5⟩:=H1;exact⟨S,T,q1,q2,q3.lt,q4,q5.lt⟩
 have l1:=K1.len;have y0:f.length<aB.length:=H1.at.hlt
 have r1:(aA 4 (mN (iU "House" IN) ae)) [oR x,oR e,some (.int c),some (.int c2),none,none,none,none,none,none,none,none] f=.nx [oR x,oR e,some (.int c),some (.int c2),oR f.length,none,none,none,none,none,none,none] aB:=by
  rw[aU,bX,aL,ag,e1];rfl
 have K2:af [] aB (aB++[Cell.lst [],.lst []]):=af.app;have go:(aB++[Cell.lst [],.lst []])[aB.length]?=some (.lst []):=aw;have gb:(aB++[Cell.lst [],.lst []])[aB.length+1]?=some (.lst []):=by rw[List.getElem?_append_right (by omega)];simp
 have r2:(aA 5 (mN aY ae)) [oR x,oR e,some (.int c),some (.int c2),oR f.length,none,none,none,none,none,none,none] aB=.nx [oR x,oR e,some (.int c),some (.int c2),oR f.length,oR aB.length,none,none,none,none,none,none] (aB++[.lst []]):=rfl
 have r3:(aA 6 (mN aY ae)) [oR x,oR e,some (.int c),some (.int c2),oR f.length,oR aB.length,none,none,none,none,none,none] (aB++[.lst []])=.nx (iV x e c c2 f.length aB.length (aB.length+1) none none none none none) (aB++[.lst [],.lst []]):=by
  rw[aU];have:(mN aY ae) [oR x,oR e,some (.int c),some (.int c2),oR f.length,oR aB.length,none,none,none,none,none,none] (aB++[Cell.lst []])=.ok (.ref (aB++[Cell.lst []]).length) ((aB++[Cell.lst []])++[.lst []]):=rfl;rw[this,List.append_assoc,List.length_append];rfl
 have H2:cY (λj=>j≠aB.length+1/\j≠aB.length) (aB++[Cell.lst [],.lst []]) f.length el ll [] λn=>[n]:=(R.imp (P':=λj=>j≠aB.length+1/\j≠aB.length) λj J=>⟨by omega,by omega⟩).kp K2
 have l2:(aB++[Cell.lst [],.lst []]).length=aB.length+2:=by simp
 have z0:=K2.len;generalize ho:aB.length=o at *;generalize aB++[Cell.lst [],.lst []]=A0 at *;have z:=K1.trans K2;obtain⟨K,e3,l3,a7,a8,a9,h,c3,M,H3,o3,K3,f3,g3⟩:=JB (x:=x) (e:=e) (c:=c) (c2:=c2) c0 hA hU (z.g P) Q (by omega) hv H2 go gb (by omega) n2
 have U:=K3.get _ _ (z.g P) (by simp;omega)
 have A:h[o+1]?=some (.lst []):=K3.get _ _ gb (by simp;omega)
 obtain⟨w,e0⟩:∃w,I[0]?=some w:=⟨I[0],List.getElem?_eq_getElem (by omega)⟩
 have i3:=cj (i:=0) U (L2.cZ (j:=0) (v:=.str w) (by simp[e0]))
 have ap:=ee (d:=.str w) A (by simp)
 have m4:Om (iV x e c c2 f.length o (o+1) a7 a8 a9 none none) h=.ok .non (h.set (o+1) (.lst [.str w])):=by
  unfold Om;rw[dw (x:=.ref (o+1)) (ai:=h) rfl (dr A)];have q0:m2 aN (aa 0) (ah (.int 0)) (iV x e c c2 f.length o (o+1) a7 a8 a9 none none) h=.ok (.str w) h:=i3;rw[aC,q0,ag,aL,ag,ag];exact ap
 have V:af [o+1] h (h.set (o+1) (.lst [.str w])):=af.set (by simp)
 have nn:=H3.rZ _ _ A;have H4:=H3.keep V (by simpa using nn.1) (by simpa using nn.2.1) (by simpa using nn.2.2) (by simp)
 have o4:=V.get _ _ o3 (by simp)
 have f0:=V.get _ _ U (by simp;omega)
 generalize h.set (o+1) (.lst [.str w])=B0 at *;obtain⟨l,c5,K5⟩:=JC (ρ:=iV x e c c2 f.length o (o+1) a7 a8 a9 none none) hE rfl rfl f0 (by omega) H4.at M
 have o0:=K3.len;have p0:=V.len;have r0:=K5.len
 have r:∀k c,f[k]?=some c->l[k]?=some c:=λk c X=>by
  have:=aS X;exact K5.g (V.get _ _ (K3.get _ _ (z.g X) (by simp;omega)) (by simp;omega))
 have H5:=H4.kp K5;have g0:cP l e O:=he.imp (r _ _) (r _ _);have h0:aG Tr l O E:=aJ.imp (λ_ _ ⟨a,j,b,c,d⟩=>⟨a,j,b,c,r _ _ d⟩) hr
 obtain⟨ts,t,m,c6,g6,p6,Y,Z,l6⟩:=JD (ρ:=iV x e c c2 f.length o (o+1) a7 a8 a9 none none) (E:=E) hU rfl rfl rfl (r _ _ P) (by omega) g0 h0 s
 have C0:=aS g6;have s0:=Z.len
 have H6:cY (λj=>j<l.length\/m.length<=j) m f.length e3 l3 (aO K λ_=>[]) λn=>[n]:=by
  obtain⟨ka,kb,q1,q2,q3,q4,q5⟩:=H5;have:cY (λj=>j<l.length\/m.length<=j) l f.length e3 l3 (aO K λ_=>[]) λn=>[n]:=⟨ka,kb,q1,q2,q3.lt.imp λj J=>.inl J.2,q4,q5.lt.imp λj J=>.inl J.2⟩
  exact this.kp Z
 have a0:K.Perm (nms E):=by rw[s];exact M
 have Gz:=Gl.uc G a0;have D0:=M.length_eq;have tl:ts.length=I.length:=by have:=p6.length_eq;rwa[List.length_map]at this
 obtain⟨e7,l7,B,c7,H7,N,f7,g7⟩:=hT m f.length t ts (aO K λ_=>[]) (λn=>[n]) L (bc E) (λj=>j<l.length\/m.length<=j) H6.at ⟨g6,p6.nodup_iff.mpr Q,by omega,λp u=>by
  have hm:p.1∈I:=p6.mem_iff.mp (List.mem_map.mpr ⟨p,u,rfl⟩);have b0:p.1∈nms E:=by rw[s];exact hm
  obtain⟨ix,i0⟩:=G.wM b0;obtain⟨w1,w2,_⟩:=G.el ix _ i0;exact⟨(Y p u).1,by rw[au];exact M.mem_iff.mpr hm,w1,w2,λy hy=>by rw[au];exact a0.mem_iff.mpr (G.sub b0 y hy)⟩⟩ (by rw[au];exact Gz.nd) (by simp[aO];omega) (λn hn j0=>absurd (p6.mem_iff.mpr (M.mem_iff.mp (by rw[au]at hn;exact hn))) j0) (by rw[au];exact Gz.gd) (by rw[au];exact Gz.rQ) (by rw[au];exact Gz.sh) (λj J=>.inr J)
 rw[au]at H7;obtain⟨k8,C,c8,g8,H,_⟩:=hK B f.length (aO K (bc E)) L _ H7.at;rw[au]at g8;have o5:=K5.g o4;have o7:=N.get _ _ (Z.g o5) (by simp;omega)
 have t0:=N.len;have u0:=H.len
 have k0:Oo TA KD (iV x e c c2 f.length o (o+1) a7 a8 a9 (oR t) none) m=.ok (.bl false) C:=by
  unfold Oo;refine jV (aB:=B) ?_ (gP (gW (i:=4) H7.at rfl (by decide) c8) g8 (b:=o) rfl (H.g o7) af.refl rfl)
  rw[dm]
  have:ay "House" "turn_all" TA (aa 4) (ab (aa 10) ae) (iV x e c c2 f.length o (o+1) a7 a8 a9 (oR t) none) m=.ok .non B:=by
   rw[bx H6.at rfl (by decide)]
   show iA (TA [.ref f.length,.ref t] m)=_
   rw[c7];rfl
  rw[this];rfl
 have H8:=H7.kp H;have t8:∀p∈ts,C[p.2]?=some (.lst ((bc E p.1).map .str)):=λp u=>H.g (N.get _ _ (Y p u).1 (by have:=(Y p u).2.1;simp;omega))
 have l0:=H.g (N.get _ _ g6 (by simp;omega))
 obtain⟨m0,n0,q,c9,H9,g9,K9⟩:=JE (x:=x) (e:=e) (c:=c) (c2:=c2) (o:=o) (b:=o+1) (a7:=a7) (a8:=a8) (a9:=a9) (N1:=l.length) H8 l0 (λp u=>⟨_,t8 p u⟩) (λp u=>by have:=(Y p u).2;omega) (λp u=>(Y p u).2) (by omega)
 have KA:af [t] q (q.set t (.lst [])):=af.set (by simp)
 have cA:=oH g9;have nt:=H9.rZ _ _ g9;have HA:=H9.keep KA (by simpa using nt.1) (by simpa using nt.2.1) (by simpa using nt.2.2) (by simp;omega)
 have v0:C.length<=q.length:=(K9 x _ (H.g (N.get _ _ (Z.g (r _ _ P)) (by simp;omega))) (by omega)).2
 refine⟨f.length,K,q.set t (.lst []),?_,M,⟨e7,l7,HA.imp λ_ _=>trivial,by omega,g7⟩,⟨by rw[List.length_set];omega,λk c X _=>?_⟩,Nat.le_refl _⟩
 .have mA:dG kH iy (aa 10) ae (iV x e c c2 f.length o (o+1) a7 m0 a9 (oR t) n0) q=.ok .non (q.set t (.lst [])):=by
   rw[dw (x:=.ref t) (ai:=q) rfl (dr g9)];exact cA
  have r6:aA 10 (LX TU) (iV x e c c2 f.length o (o+1) a7 a8 a9 none none) l=.nx (iV x e c c2 f.length o (o+1) a7 a8 a9 (oR t) none) m:=by rw[aU,c6];rfl
  unfold Oq;rw[aH r1,aH r2,aH r3,aH c3,dN m4,ao,gU c5,cT,aH r6,ao,gU k0,cT,aH c9,dN mA,ao];rfl
 .have G0:=aS X
  have:=(K9 k c (H.g (N.get _ _ (Z.g (r _ _ X)) (by simp;omega))) (by omega)).1
  exact KA.get _ _ this (by simp;omega)
end
section
variable{Ω ai aB kY:aD}{ρ:aR}{a b e h i j k l o p x t:Nat}{c c2:Int}{E:dz}{P:Nat->Prop}{m n x0:Str}{r xs ys zs:List Str}{R L:Str->List Str}{F:List D->Out Rs}{μ:Int->Int->Int->Int}
theorem FR{d:aQ}(l:k6 d)(H:bG P Ω h (aO ys R) L)(m:ρ[i]?=some (oR h))(n:ρ[j]?=some (oR a))(o:Ω[a]?=some (.lst (ys.map .str))):∃ai,m2 (aF .NotEq) (ay "House" "kinds" d (aa i) ae) (aa j) ρ Ω=.ok (.bl false) ai/\af [] Ω ai:=by
 obtain⟨k,c,p,e,f,_⟩:=l Ω h _ L P H;rw[au]at e;exact⟨c,gP (gW H m (by decide) p) e (b:=a) (by rw[de,n,dc]) (f.g o) af.refl rfl,f⟩
theorem RF{d:aQ}(l:k6 d)(H:bG P Ω h (aO ys R) L)(m:ρ[i]?=some (oR h))(n:ρ[j]?=some (oR a))(o:Ω[a]?=some (.lst (ys.map .str))):∃ai,m2 (aF .Eq) (ay "House" "kinds" d (aa i) ae) (aa j) ρ Ω=.ok (.bl true) ai/\af [] Ω ai:=by
 obtain⟨k,c,p,e,f,_⟩:=l Ω h _ L P H;rw[au]at e;exact⟨c,zv (gW H m (by decide) p) e (b:=a) (by rw[de,n,dc]) (f.g o) af.refl rfl,f⟩
def LZ:EM:=(m2 (bj .Add) (m2 (bj .Add) (dg (aa 4) true (ah .non) false (aa 5)) (mN aY (ab (aa 2) ae))) (dg (aa 4) false (aa 5) true (ah .non)))
theorem FT(f:ρ[4]?=some (oR k))(h:ρ[5]?=some (oI p))(r:ρ[2]?=some (oS m))(j:Ω[k]?=some (.lst (ys.map .str)))(G:ys.length<=100):∃q ai,LZ ρ Ω=.ok (.ref q) ai/\ai[q]?=some (.lst ((eU ys p m).map .str))/\af [] Ω ai:=by
 have s:=jl (n:=p) j
 have v1:dg (aa 4) true (ah .non) false (aa 5) ρ Ω=.ok (.ref Ω.length) (Ω++[.lst ((ys.take p).map .str)]):=by
  rw[eS];simp[f,h,s]
 obtain⟨t,u⟩:=cX Ω (.lst ((ys.take p).map .str));generalize Ω++[Cell.lst ((ys.take p).map .str)]=b at *;have v2:=Jz (Ω:=b) r;obtain⟨w,l⟩:=cX b (.lst (([m]:List Str).map .str));generalize b++[Cell.lst (([m]:List Str).map .str)]=c at *;have x:=gN (l.g t) w (by simp;omega)
 obtain⟨y,z⟩:=cX c (.lst ((ys.take p).map .str++([m]:List Str).map .str));generalize c++[Cell.lst ((ys.take p).map .str++([m]:List Str).map .str)]=a at *;have d:=(u.trans l).trans z;have A:=y6 (i:=p) (d.g j)
 have B:dg (aa 4) false (aa 5) true (ah .non) ρ a=.ok (.ref a.length) (a++[.lst ((ys.drop p).map .str)]):=by
  rw[eS];simp[f,h,A]
 obtain⟨C,o⟩:=cX a (.lst ((ys.drop p).map .str));generalize a++[Cell.lst ((ys.drop p).map .str)]=e at *;have E:=gN (o.g y) C (by simp;omega)
 refine⟨e.length,e++[Cell.lst ((eU ys p m).map .str)],?_,aw,(d.trans o).trans af.app⟩;have F:((ys.take p).map D.str++([m]:List Str).map .str)++(ys.drop p).map .str=(eU ys p m).map .str:=by simp[eU]
 unfold LZ;rw[dm,dm,v1,ag,v2,ag,x,ag,B,ag,E,F]
abbrev hJ(h x:Nat)(m:Str)(c:Int)(a4 a5 a6 a7 a8 a9:Option D):aR:=[oR h,oR x,oS m,some (.int c),a4,a5,a6,a7,a8,a9]
def Ot(a:aQ):EM:=(ay "House" "add" a (aa 7) (ab (aa 2) (ab (mN aY (ab (m2 aN (aa 1) (ah (.int 0))) ae)) (ab (aa 5) ae))))
def FU(a b:aQ):EM:=(rV (m2 (aF .NotEq) (ay "House" "kinds" a (aa 0) ae) (aa 4)) (rV (m2 (aF .NotEq) (ay "House" "kinds" a (aa 7) ae) (aa 6)) (m2 (aF .In) (aa 2) (ay "House" "heirs" b (aa 0) (ab (m2 aN (aa 1) (ah (.int 0))) ae)))))
def JG(a b:aQ):EM:=(rV (m2 (aF .NotEq) (ay "House" "kinds" a (aa 8) ae) (aa 6)) (rV (m2 (aF .NotEq) (dg (ay "House" "line" b (aa 8) (ab (aa 2) ae)) true (ah .non) false (ah (.int 2))) (mN aY (ab (aa 2) (ab (m2 aN (aa 1) (ah (.int 0))) ae)))) (m2 (aF .NotEq) (ay "House" "kinds" a (aa 7) ae) (aa 4))))
def Ou(a:aQ):EM:=(ay "House" "add" a (aa 0) (ab (aa 2) (ab (mN aY ae) (ab (aa 5) ae))))
def JH(a:aQ):EM:=(rV (m2 (aF .NotEq) (ay "House" "kinds" a (aa 9) ae) (aa 4)) (m2 (aF .NotEq) (ay "House" "kinds" a (aa 0) ae) (aa 6)))
def Ov(F:List D->Out Rs)(a b c e d f:aQ):SM:=
 (aj (aA 4 (ay "House" "kinds" a (aa 0) ae))
 (aj (aA 5 (mN (cp F) (ab (aa 3) (ab (ah (.int 2)) (ab (m2 (bj .Add) (mN (aW .len) (ab (aa 4) ae)) (ah (.int 1))) ae)))))
 (aj (aA 6 LZ)
 (aj (aA 7 (ay "House" "copied" b (aa 0) ae))
 (aj (bA (Ot c))
 (aj (e_ (FU a e)
 (aj (bT (ah (.bl false)))
 ak)
 ak)
 (aj (aA 8 (ay "House" "copied" b (aa 7) ae))
 (aj (bA (ay "House" "drop" d (aa 7) (ab (aa 2) ae)))
 (aj (e_ (JG a f)
 (aj (bT (ah (.bl false)))
 ak)
 ak)
 (aj (aA 9 (ay "House" "copied" b (aa 0) ae))
 (aj (bA (Ou c))
 (aj (e_ (JH a)
 (aj (bT (ah (.bl false)))
 ak)
 ak)
 (aj (bA (ay "House" "drop" d (aa 0) (ab (aa 2) ae)))
 (aj (bT (m2 (aF .Eq) (ay "House" "kinds" a (aa 0) ae) (aa 4)))
 ak))))))))))))))
theorem cY.ix(H:cY P Ω h e l E L):∃a,Ω[h]?=some (.ins "House" a):=by
 obtain⟨_,_,q,_⟩:=H;exact⟨_,q⟩
theorem cY.dl(H:cY P Ω h e l E L):(∃c,Ω[e]?=some (.dK c))/\(∃d,Ω[l]?=some (.dK d))/\e<Ω.length/\l<Ω.length/\h<Ω.length:=by
 obtain⟨_,_,f,a,_,b,_⟩:=H;exact⟨⟨_,a⟩,⟨_,b⟩,aS a,aS b,aS f⟩
def CQ(j:aQ):Prop:=∀(b:aD) (h x e l:Nat) (m:Str) (c:Int) (d f:List Str) (E:dz) (L:Str->List Str),cY Tr b h e l (aO f (bc E)) L->gn E L->f.Perm (nms E)->nms E=d->1<=E.length->E.length<11->b[x]?=some (.lst (d.map .str))->nS m->m∉d->e<l ->
 ∃g i a,j [.ref h,.ref x,.str m,.int c] b=.ok (.bl true) a/\cY Tr a h g i (aO f (bc E)) L/\af [h] b a/\b.length<=g/\g<i
theorem JI{KD CP AD HR DR LN:aQ}(q0:gi μ F)(hK:k6 KD)(hC:Ja CP)(hA:wJ AD)(hH:LS HR)(hD:CJ DR)(hN:wH LN):CQ (cV 10 4 (Ov F KD CP AD HR DR LN)):=by
 intro Ω h x e l m c xs O E L H G hp hE h1 hl hx g0 hm I0;rw[bh (by rfl),show aX 10 [D.ref h,.ref x,.str m,.int c]=hJ h x m c none none none none none none from rfl]
 have Gy:=Gl.uc G hp;have r0:(nms E).length=E.length:=by simp[nms]
 have J0:=hp.length_eq;have K0:xs.length=E.length:=by rw[←hE];exact r0
 have w:m∉O:=λz=>hm (by rw[←hE];exact hp.mem_iff.mp z)
 obtain⟨b,h0⟩:∃b,xs[0]?=some b:=⟨xs[0],List.getElem?_eq_getElem (by omega)⟩
 have J:b∈nms E:=by rw[hE];exact List.mem_of_getElem? h0
 have K:b∈O:=hp.mem_iff.mpr J;have i0:m≠b:=λz=>w (z▸K)
 obtain⟨k,Q,c1,g1,K1,l1⟩:=hK Ω h _ L Tr H.at;rw[au]at g1
 have r1:aA 4 (ay "House" "kinds" KD (aa 0) ae) (hJ h x m c none none none none none none) Ω=.nx (hJ h x m c (oR k) none none none none none) Q:=by
  rw[aU,gW (i:=0) H.at rfl (by decide) c1];rfl
 obtain⟨t0,t1,ht⟩:=q0 c 2 ((O.length:Int)+1) (by omega) (by omega) (by omega)
 obtain⟨p,ep⟩:∃p:Nat,(p:Int)=μ c 2 ((O.length:Int)+1):=⟨(μ c 2 ((O.length:Int)+1)).toNat,by omega⟩
 rw[←ep]at ht;have j0:=gM g1;rw[List.length_map]at j0;have r2:aA 5 (mN (cp F) (ab (aa 3) (ab (ah (.int 2)) (ab (m2 (bj .Add) (mN (aW .len) (ab (aa 4) ae)) (ah (.int 1))) ae)))) (hJ h x m c (oR k) none none none none none) Q=.nx (hJ h x m c (oR k) (oI p) none none none none) Q:=by simp[hJ,j0,ht]
 obtain⟨q,A,c2,g2,K2⟩:=FT (ρ:=hJ h x m c (oR k) (oI p) none none none none) rfl rfl rfl g1 (by omega)
 have r3:aA 6 LZ (hJ h x m c (oR k) (oI p) none none none none) Q=.nx (hJ h x m c (oR k) (oI p) (oR q) none none none) A:=by rw[aU,c2];rfl
 have B:=K1.trans K2;have H2:=H.kp B;have C:=K2.g g1;obtain⟨a,e7,l7,d,c3,H3,K3,f3,L0,o3⟩:=hC A h _ L Tr H2.at
 have r4:aA 7 (ay "House" "copied" CP (aa 0) ae) (hJ h x m c (oR k) (oI p) (oR q) none none none) A=.nx (hJ h x m c (oR k) (oI p) (oR q) (oR a) none none) d:=by
  rw[aU,gW (i:=0) H2.at rfl (by decide) c3];rfl
 have s0:=(B.trans K3).g hx;have i3:∀{a4 a5 a6 a7 a8 a9:Option D}{a0:aD},a0[x]?=some (.lst (xs.map .str))->m2 aN (aa 1) (ah (.int 0)) (hJ h x m c a4 a5 a6 a7 a8 a9) a0=.ok (.str b) a0:=λg=>jm (n:=0) g h0
 obtain⟨g4,K4⟩:=cX d (.lst (([b]:List Str).map .str))
 have q4:(ab (aa 2) (ab (mN aY (ab (m2 aN (aa 1) (ah (.int 0))) ae)) (ab (aa 5) ae))) (hJ h x m c (oR k) (oI p) (oR q) (oR a) none none) d=.ok [.str m,.ref d.length,.int p] (d++[.lst (([b]:List Str).map .str)]):=by
  have v2:aa 2 (hJ h x m c (oR k) (oI p) (oR q) (oR a) none none) d=.ok (.str m) d:=rfl;rw[aC,v2,ag,aC,bX,aC,i3 s0,ag,aL,ag,ag];rfl
 have l4:=K4.len;generalize d++[Cell.lst (([b]:List Str).map .str)]=u0 at *;obtain⟨M,ho⟩:=G.RE J;obtain⟨Gm,e8,l8,R,c5,H5,K5,f5,o5⟩:=iI (p:=p) (r:=[b]) (m:=m) hA (H3.kp K4).at Gy g4 g0 w (by omega) (by simp) (by simp) (λy hy=>by rw[List.mem_singleton.mp hy];exact K) M ho (by omega) (λ_ _=>trivial)
 have m5:Ot AD (hJ h x m c (oR k) (oI p) (oR q) (oR a) none none) d=.ok .non R:=by
  unfold Ot;rw[bx H3.at rfl (by decide),q4,ag]
  show iA (AD [.ref a,.str m,.ref d.length,.int p] u0)=_
  rw[c5];rfl
 have t1:=B.len;have t2:=K3.len;have M0:=H2.dl;have N0:=H3.dl;obtain⟨P0,v0⟩:=(H3.kp K4).ix;have A5:cY Tr R h e l (aO O (bc E)) L:=((H2.kp K3).kp K4).kh K5 v0 (by omega)
 have S:∀z I,A[z]?=some I->R[z]?=some I:=λz I P=>K5.get _ _ (K4.g (K3.g P)) (by have:=aS P;simp;omega)
 obtain⟨Q0,c6,K6⟩:=FR (ρ:=hJ h x m c (oR k) (oI p) (oR q) (oR a) none none) (i:=0) (j:=4) hK A5.at rfl rfl (S _ _ C);obtain⟨T,c7,K7⟩:=FR (ρ:=hJ h x m c (oR k) (oI p) (oR q) (oR a) none none) (i:=7) (j:=6) hK (H5.kp K6).at rfl rfl (K6.g (S _ _ g2));have A7:=(A5.kp K6).kp K7;obtain⟨k8,b0,c8,g8,K8,_⟩:=hH T h _ L Tr b A7.at (by rw[au];exact K) (by simp[aO];omega)
 rw[au]at g8;have U:=(K6.trans K7).trans K8;have w0:T[x]?=some (.lst (xs.map .str)):=(K6.trans K7).g (S _ _ (B.g hx))
 have w1:FU KD HR (hJ h x m c (oR k) (oI p) (oR q) (oR a) none none) R=.ok (.bl false) b0:=by
  unfold FU;refine jV c6 (jV c7 ?_);have v2:aa 2 (hJ h x m c (oR k) (oI p) (oR q) (oR a) none none) T=.ok (.str m) T:=rfl;rw[dm,v2,ag,bx A7.at rfl (by decide),aC,i3 w0,ag,aL,ag,ag,c8,km,ag,jk g8,decide_eq_false]
  exact λz=>w (List.mem_filter.mp z).1
 have B8:=H5.kp U;obtain⟨f,e9,l9,c0,c9,H9,K9,f9,R0,o9⟩:=hC b0 a _ _ Tr B8.at
 have r8:aA 8 (ay "House" "copied" CP (aa 7) ae) (hJ h x m c (oR k) (oI p) (oR q) (oR a) none none) b0=.nx (hJ h x m c (oR k) (oI p) (oR q) (oR a) (oR f) none) c0:=by
  rw[aU,gW (i:=7) B8.at rfl (by decide) c9];rfl
 obtain⟨N,cA,HA,KA⟩:=kq hD (B8.kp K9) Gm Gy w (by simpa using i0) o5
 have mA:ay "House" "drop" DR (aa 7) (ab (aa 2) ae) (hJ h x m c (oR k) (oI p) (oR q) (oR a) (oR f) none) c0=.ok .non N:=by
  rw[bx (B8.kp K9).at rfl (by decide)]
  show iA (DR [.ref a,.str m] c0)=_
  rw[cA];rfl
 have d9:=(B8.kp K9).dl;obtain⟨⟨ka,k0⟩,⟨kb,l0⟩,S0,T0,V0⟩:=d9;have t5:=U.len;have t4:=K5.len;have t9:=K9.len;have W0:=B8.dl;have CA:cY Tr N f e9 l9 (aO (eU O p m) (k_ (bc E) m [b])) (k_ L m (m::L b)):=H9.kd KA k0 l0 (by omega) (by omega) (by omega) (by omega)
 have AA:cY Tr N h e l (aO O (bc E)) L:=((A5.kp U).kp K9).kd KA k0 l0 (by omega) (by omega) (by omega) (by omega)
 have V:∀z I,A[z]?=some I->N[z]?=some I:=λz I P=>KA.get _ _ (K9.g (U.g (S _ _ P))) (by have:=aS P;simp;omega)
 obtain⟨m0,cB,KB⟩:=FR (ρ:=hJ h x m c (oR k) (oI p) (oR q) (oR a) (oR f) none) (i:=8) (j:=6) hK CA.at rfl rfl (V _ _ g2);obtain⟨kC,s,cC,gC,KC,_⟩:=hN m0 f _ _ Tr m (CA.kp KB).at (by rw[au];exact fh.mpr (.inl rfl))
 rw[up_eq]at gC;obtain⟨o',_,y0⟩:=G.rQ b J;have sC:=jl (n:=2) gC;have z0:s[x]?=some (.lst (xs.map .str)):=(KB.trans KC).g (V _ _ (B.g hx));obtain⟨gD,n0⟩:=cX s (.lst (((m::L b).take 2).map .str))
 have vD:dg (ay "House" "line" LN (aa 8) (ab (aa 2) ae)) true (ah .non) false (ah (.int 2)) (hJ h x m c (oR k) (oI p) (oR q) (oR a) (oR f) none) m0=.ok (.ref s.length) (s++[Cell.lst (((m::L b).take 2).map .str)]):=by
  rw[eS,jW (i:=8) (j:=2) (CA.kp KB).at rfl rfl (by decide) cC,ag]
  have sC:ji (.ref kC) none (some 2) s=.ok (.ref s.length) (s++[Cell.lst (((m::L b).take 2).map .str)]):=sC;simp only[vb,va,jP,ag,vc,sC]
 generalize G0:s++[Cell.lst (((m::L b).take 2).map .str)]=t at *
 have vE:mN aY (ab (aa 2) (ab (m2 aN (aa 1) (ah (.int 0))) ae)) (hJ h x m c (oR k) (oI p) (oR q) (oR a) (oR f) none) t=.ok (.ref t.length) (t++[.lst (([m,b]:List Str).map .str)]):=by
  have v2:aa 2 (hJ h x m c (oR k) (oI p) (oR q) (oR a) (oR f) none) t=.ok (.str m) t:=rfl;rw[bX,aC,v2,ag,aC,i3 (n0.g z0),ag,aL,ag,ag,ag];rfl
 have KE:af [] t (t++[Cell.lst (([m,b]:List Str).map .str)]):=af.app;have cE:=gP vD gD vE aw KE (by rw[y0];rfl)
 generalize t++[Cell.lst (([m,b]:List Str).map .str)]=X0 at *;have Ow:=(KB.trans KC).trans (n0.trans KE);obtain⟨e0,cF,KF⟩:=FR (ρ:=hJ h x m c (oR k) (oI p) (oR q) (oR a) (oR f) none) (i:=7) (j:=4) hK (HA.kp Ow).at rfl rfl (Ow.g (V _ _ C));have w2:JG KD LN (hJ h x m c (oR k) (oI p) (oR q) (oR a) (oR f) none) N=.ok (.bl false) e0:=jV cB (jV cE cF);have KAF:=Ow.trans KF;have AF:=AA.kp KAF;obtain⟨X,eG,lG,u,cG,HG,KG,fG,Y0,oG⟩:=hC e0 h _ L Tr AF.at
 have r9:aA 9 (ay "House" "copied" CP (aa 0) ae) (hJ h x m c (oR k) (oI p) (oR q) (oR a) (oR f) none) e0=.nx (hJ h x m c (oR k) (oI p) (oR q) (oR a) (oR f) (oR X)) u:=by
  rw[aU,gW (i:=0) AF.at rfl (by decide) cG];rfl
 have AG:=AF.kp KG;obtain⟨gH,KH⟩:=cX u (.lst (([]:List Str).map .str));have qH:(ab (aa 2) (ab (mN aY ae) (ab (aa 5) ae))) (hJ h x m c (oR k) (oI p) (oR q) (oR a) (oR f) (oR X)) u=.ok [.str m,.ref u.length,.int p] (u++[.lst (([]:List Str).map .str)]):=rfl;have lH:=KH.len;generalize u++[Cell.lst (([]:List Str).map .str)]=A0 at *;obtain⟨Gn,eI,lI,Y,cI,HI,KI,fI,o0⟩:=iI (p:=p) (r:=[]) (m:=m) (o:=[]) hA (AG.kp KH).at Gy gH g0 w (by omega) (by simp) (by simp) (by simp) p_ (by simp) (by omega) (λ_ _=>trivial)
 have mI:Ou AD (hJ h x m c (oR k) (oI p) (oR q) (oR a) (oR f) (oR X)) u=.ok .non Y:=by
  unfold Ou;rw[bx AG.at rfl (by decide),qH,ag]
  show iA (AD [.ref h,.str m,.ref u.length,.int p] A0)=_
  rw[cI];rfl
 have tF:=KAF.len;have tA:=KA.len;have tG:=KG.len;have dA:=AA.dl;obtain⟨a1,B0⟩:=(AG.kp KH).ix;have DI:cY Tr Y X eG lG (aO O (bc E)) L:=(HG.kp KH).kh KI B0 (by omega)
 have Z:∀z I,A[z]?=some I->z≠h->Y[z]?=some I:=λz I P hn=>KI.get _ _ (KH.g (KG.g (KAF.g (V _ _ P)))) (by simpa using hn)
 have nk:k≠h:=λz=>by obtain⟨fs,ix⟩:=H2.ix;rw[←z,C]at ix;cases ix
 have nq:q≠h:=λz=>by obtain⟨fs,ix⟩:=H2.ix;rw[←z,g2]at ix;cases ix
 obtain⟨b1,cJ,KJ⟩:=FR (ρ:=hJ h x m c (oR k) (oI p) (oR q) (oR a) (oR f) (oR X)) (i:=9) (j:=4) hK DI.at rfl rfl (Z _ _ C nk);obtain⟨f0,cK,KK⟩:=FR (ρ:=hJ h x m c (oR k) (oI p) (oR q) (oR a) (oR f) (oR X)) (i:=0) (j:=6) hK (HI.kp KJ).at rfl rfl (KJ.g (Z _ _ g2 nq));have w3:JH KD (hJ h x m c (oR k) (oI p) (oR q) (oR a) (oR f) (oR X)) Y=.ok (.bl false) f0:=jV cJ cK;have HK:=(HI.kp KJ).kp KK;obtain⟨p0,cL,HL,KL⟩:=kq hD HK Gn Gy w (by simp) o0
 have mL:ay "House" "drop" DR (aa 0) (ab (aa 2) ae) (hJ h x m c (oR k) (oI p) (oR q) (oR a) (oR f) (oR X)) f0=.ok .non p0:=by
  rw[bx HK.at rfl (by decide)]
  show iA (DR [.ref h,.str m] f0)=_
  rw[cL];rfl
 have C0:p0[k]?=some (.lst (O.map .str)):=KL.get _ _ (KK.g (KJ.g (Z _ _ C nk))) (by have:=aS C;simp;omega)
 obtain⟨D0,cM,KM⟩:=RF (ρ:=hJ h x m c (oR k) (oI p) (oR q) (oR a) (oR f) (oR X)) (i:=0) (j:=4) hK HL.at rfl rfl C0;have tI:=KI.len;have tJ:=KJ.len;have tK:=KK.len;have tL:=KL.len;have tM:=KM.len;refine⟨eI,lI,D0,?_,HL.kp KM,⟨by omega,λz I P hn=>?_⟩,by omega,o0⟩
 .unfold Ov
  rw[aH r1,aH r2,aH r3,aH r4,dN m5,ao,gU w1,cT,aH r8,dN mA,ao,gU w2,cT,aH r9,dN mI,ao,gU w3,cT,dN mL,ao,dJ,cM];rfl
 .have e1:=aS P
  exact KM.g (KL.get _ _ (KK.g (KJ.g (Z _ _ (B.g P) (by simpa using hn)))) (by simp;omega))
end
section
variable{Ω ai aB kY:aD}{ρ τ:aR}{C:List D->Out Rs}{κ:List Int->Nat->Int}{ns:List Int}{a e h i j k l x m:Nat}{E:dz}{P:Nat->Prop}{n w:Str}{xs ys zs:List Str}{R L:Str->List Str}
def L3(C:List D->Out Rs):EM:=(m2 aN (mN aY (ab (ah (.int 4)) (ab (ah (.int 5)) (ab (ah (.int 6)) (ab (ah (.int 7)) (ab (ah (.int 4)) (ab (ah (.int 5)) (ab (ah (.int 6)) (ab (ah (.int 7)) (ab (ah (.int 1)) (ab (ah (.int 2)) (ab (ah (.int 3)) (ab (ah (.int 7)) ae))))))))))))) (m2 (bj .Mod) (mN (cp C) (ab (aa 0) (ab (ah (.int 0)) ae))) (ah (.int 12))))
theorem FV(b:iF κ C)(g:ρ[0]?=some (some (SC ns))):∃(m:Nat) (ai:aD),1<=m/\m<=7/\L3 C ρ Ω=.ok (.int m) ai:=by
 have h:C [SC ns,.int 0]=.ok (false,.int (κ ns 0)):=b ns 0;have i:∀a,(m2 (bj .Mod) (mN (cp C) (ab (aa 0) (ab (ah (.int 0)) ae))) (ah (.int 12))) ρ a=.ok (.int (κ ns 0%12)) a:=λa=>by simp[g,h]
 obtain⟨s,k⟩:∃s:Nat,κ ns 0%12=s:=⟨(κ ns 0%12).toNat,by omega⟩
 obtain⟨m,c,d,l⟩:∃m:Nat,1<=m/\m<=7/\([4,5,6,7,4,5,6,7,1,2,3,7]:List Nat)[s]?=some m:=by
  have f:s<([4,5,6,7,4,5,6,7,1,2,3,7]:List Nat).length:=by simp;omega
  have e:∀m∈([4,5,6,7,4,5,6,7,1,2,3,7]:List Nat),1<=m/\m<=7:=by decide
  have:=e _ (List.getElem_mem f);exact⟨_,this.1,this.2,List.getElem?_eq_getElem f⟩
 refine⟨m,Ω++[.lst (([4,5,6,7,4,5,6,7,1,2,3,7]:List Nat).map λn:Nat=>.int n)],c,d,?_⟩
 unfold L3;have o:(mN aY (ab (ah (.int 4)) (ab (ah (.int 5)) (ab (ah (.int 6)) (ab (ah (.int 7)) (ab (ah (.int 4)) (ab (ah (.int 5)) (ab (ah (.int 6)) (ab (ah (.int 7)) (ab (ah (.int 1)) (ab (ah (.int 2)) (ab (ah (.int 3)) (ab (ah (.int 7)) ae))))))))))))) ρ Ω=.ok (.ref Ω.length) (Ω++[.lst (([4,5,6,7,4,5,6,7,1,2,3,7]:List Nat).map λn:Nat=>.int n)]):=rfl
 rw[dm,o,ag,i,ag,k];exact cj aw (L2.cZ (j:=s) (by rw[List.getElem?_map,l];rfl))
def Ox(C:List D->Out Rs)(a:aQ):EM:=(mN (bg a) (ab (mN (cp C) (ab (aa 0) (ab (ah (.int 1)) ae))) (ab (m2 (bj .Add) (aa 1) (ah (.int 1))) ae)))
def Oy(a b:aQ):EM:=(mN (bg a) (ab (aa 2) (ab (mN (bg b) (ab (aa 0) (ab (ah (.int 2)) (ab (aa 2) (ab (ah (.int 4)) ae))))) ae)))
def Oz(C:List D->Out Rs)(a b c:aQ)(s:SM):SM:=
 (aj (aA 1 (L3 C))
 (aj (aA 2 (Ox C a))
 (aj (aA 3 (m2 aN (aa 2) (aa 1)))
 (aj (aA 2 (dg (aa 2) true (ah .non) false (aa 1)))
 (aj (wk [4,5] (Oy b c)) s)))))
theorem CS(f:iF κ C){q t d:aQ}(M:CF q)(N:CC t)(O:CG d){s:SM} :
  ∃(m x e l:Nat) (w:Str) (xs:List Str) (E:dz) (L:Str->List Str) (ai:aD),Oz C q t d s (some (SC ns)::none::none::none::none::none::τ) Ω=s (some (SC ns)::oI m::oR x::oS w::oR e::oR l::τ) ai/\Hand ai x e l xs E L/\xs.length<=7/\nS w/\w∉xs:=by
 obtain⟨m,c,m1,m7,P⟩:=FV (ρ:=some (SC ns)::none::none::none::none::none::τ) (Ω:=Ω) f rfl;have Q:aA 1 (L3 C) (some (SC ns)::none::none::none::none::none::τ) Ω=.nx (some (SC ns)::oI m::none::none::none::none::τ) c:=by rw[aU,P];rfl
 have R:C [SC ns,.int 1]=.ok (false,.int (κ ns 1)):=f ns 1;obtain⟨xs,x,a,H,I,x3,u,J,K1⟩:=M c (κ ns 1) (m+1) (by omega) (by omega)
 have u:q [.int (κ ns 1),.int ((m:Int)+1)] c=.ok (.ref x) a:=u;have S:aA 2 (Ox C q) (some (SC ns)::oI m::none::none::none::none::τ) c=.nx (some (SC ns)::oI m::oR x::none::none::none::τ) a:=by simp[Ox,R,u]
 obtain⟨w,y⟩:∃w,xs[m]?=some w:=⟨xs[m],List.getElem?_eq_getElem (by omega)⟩
 have T:=jm J y;have U:aA 3 (m2 aN (aa 2) (aa 1)) (some (SC ns)::oI m::oR x::none::none::none::τ) a=.nx (some (SC ns)::oI m::oR x::oS w::none::none::τ) a:=by simp[T]
 have V:=jl (n:=m) J;have X:aA 2 (dg (aa 2) true (ah .non) false (aa 1)) (some (SC ns)::oI m::oR x::oS w::none::none::τ) a=.nx (some (SC ns)::oI m::oR a.length::oS w::none::none::τ) (a++[.lst ((xs.take m).map .str)]):=by simp[V]
 have z:(a++[Cell.lst ((xs.take m).map .str)])[a.length]?=some (.lst ((xs.take m).map .str)):=aw;generalize a++[Cell.lst ((xs.take m).map .str)]=b at *;have hl:(xs.take m).length=m:=by rw[List.length_take];omega
 have j:=H.sublist (List.take_sublist m xs);obtain⟨k,Y,Z,o,c5,R5,l5,r5,K⟩:=O b ns 2 a.length 4 _ z j (by omega)
 obtain⟨E,L,e,l,A,B,p,c6,K6,c2,G,c3,c4,D,F,c7⟩:=N o a.length k Y _ Z (K.g z) R5 l5 j (by omega) (λi r h=>by
  obtain⟨q1,q2,q3⟩:=r5 i r h;exact⟨q1,by omega,q3⟩)
 have e1:(mN (bg d) (ab (aa 0) (ab (ah (.int 2)) (ab (aa 2) (ab (ah (.int 4)) ae))))) (some (SC ns)::oI m::oR a.length::oS w::none::none::τ) b=.ok (.ref k) o:=by
  show iA (d [SC ns,.int 2,.ref a.length,.int 4] b)=_
  rw[show d [SC ns,.int 2,.ref a.length,.int 4] b=_ from c5]
  rfl
 have v2:aa 2 (some (SC ns)::oI m::oR a.length::oS w::none::none::τ) b=.ok (.ref a.length) b:=rfl
 have r6:wk [4,5] (Oy t d) (some (SC ns)::oI m::oR a.length::oS w::none::none::τ) b=.nx (some (SC ns)::oI m::oR a.length::oS w::oR e::oR l::τ) p:=by
  unfold wk Oy;rw[bX,aC,v2,ag,aC,e1,ag,aL,ag,ag,ag,iG,c6,km];rfl
 refine⟨m,a.length,e,l,w,xs.take m,E,L,p,?_,⟨(K.trans K6).g z,by omega,λn hn=>I n (List.mem_of_mem_take hn),c2,G,⟨A,.inl c3,c4⟩,⟨B,.inl D,F⟩,c7⟩,by omega,I w (List.mem_of_getElem? y),jU H y⟩
 unfold Oz;rw[aH Q,aH S,aH U,aH X,aH r6]
end
section
variable{Ω ai aB kY:aD}{ρ τ:aR}{C:List D->Out Rs}{κ:List Int->Nat->Int}{ns:List Int}{a e h i j k l x m q h6 h7:Nat}{E:dz}{P:Nat->Prop}{n w:Str}{xs ys zs:List Str}{R L:Str->List Str}{kvs:List (Key×D)}{ds:List D}{hs:List Nat}
theorem aG.rf(h:aG P Ω kvs E)(K:af [q] Ω ai)(e:Ω[q]?=some (.lst (.ref a::ds))):aG P ai kvs E:=
 aJ.imp (λ_ p ⟨a,j,b,c,d⟩=>⟨a,j,b,c,K.get _ _ d (by
  simp only[List.mem_singleton];rintro rfl;rw[e]at d;cases f:p.2<;>rw[f]at d<;>simp at d)⟩) h
theorem cY.rf(H:cY P Ω h e l E L)(K:af [q] Ω ai)(b:Ω[q]?=some (.lst (.ref a::ds))):cY P ai h e l E L:=by
 obtain⟨f,g,i⟩:=H.rZ _ _ b;obtain⟨c,d,j,k,m,n,o⟩:=H;exact⟨c,d,K.get _ _ j (by simpa using f),K.get _ _ k (by simpa using g),m.rf K b,K.get _ _ n (by simpa using i),o.rf K b⟩
def Lk(E:dz)(L:Str->List Str)(Ω:aD)(h:Nat):Prop:=∃a,a.Perm (nms E)/\bG Tr Ω h (aO a (bc E)) L
theorem Lk.keep(H:Lk E L Ω h)(K:af [] Ω ai):Lk E L ai h:=let ⟨a,p,H⟩:=H;⟨a,p,H.keep K⟩
theorem zz{d:aQ}(f:wR d)(b:Lk E L Ω h6)(c:Lk E L Ω h7)(g:Ω[x]?=some (.lst (xs.map .str)))(e:nms E=xs)(h:xs.length<=12):∃ai,d [.ref h6,.ref h7,.ref x] Ω=.ok (.bl true) ai/\af [] Ω ai:=by
 obtain⟨i,p,b⟩:=b;obtain⟨j,q,c⟩:=c;have:=p.length_eq;rw[e]at this;refine f Ω h6 h7 x xs _ _ L L b c g (by rw[au,au];exact p.trans q.symm) (by simp[aO];omega) (λn a=>by rw[au];exact p.mem_iff.mpr (by rw[e];exact a)) (λ_ _=>rfl) (λn a=>?_) (by omega)
 rw[au]at a;rw[a_ a,a_ (q.mem_iff.mpr (p.mem_iff.mp a))]
abbrev HWE(ns:List Int)(m x:Nat)(w:Str)(e l a h7:Nat)(a8 a9 a10 a11:Option D):aR:=[some (SC ns),oI m,oR x,oS w,oR e,oR l,oR a,oR h7,a8,a9,a10,a11]
def OA(a:aQ):SM:=(aj (e_ (iT (mN (bg a) (ab (aa 6) (ab (aa 9) (ab (aa 2) ae))))) Gx ak) ak)
theorem FW{b:aQ}(p:wR b)(H:Lk E L Ω h6)(n:Ω[k]?=some (.lst (hs.map .ref)))(q:∀h∈hs,Lk E L Ω h)(s:Ω[x]?=some (.lst (xs.map .str)))(t:nms E=xs)(u:xs.length<=12)(B:hs.length<=9) :
  ∃a9 ai,dt (dM 9) (aZ (aa 8)) (OA b) (HWE ns m x w e l h6 h7 (oR k) none none none) Ω=.nx (HWE ns m x w e l h6 h7 (oR k) a9 none none) ai/\af [] Ω ai:=by
 have f:aZ (aa 8) (HWE ns m x w e l h6 h7 (oR k) none none none) Ω=.ok (.seq (.ref k)) Ω:=fO rfl n;rw[bV,f,bR];refine br (R:=λr=>∃a9 ai,r=.nx (HWE ns m x w e l h6 h7 (oR k) a9 none none) ai/\af [] Ω ai) (ds:=hs.map .ref) (λi c a=>∃a9,c=HWE ns m x w e l h6 h7 (oR k) a9 none none/\af [] Ω a) ?_ ?_ ?_ fuel 0 _ _ (by rw[List.length_map];unfold fuel;omega) (Nat.zero_le _) ⟨none,rfl,af.refl⟩
 .rintro i c a ⟨_,_,K⟩
  rw[bu,aI,az (K.g n)]
 .rintro i d c a o ⟨a9,rfl,K⟩
  rw[List.getElem?_map]at o;obtain⟨h,y,rfl⟩:=Option.map_eq_some_iff.mp o;refine⟨HWE ns m x w e l h6 h7 (oR k) (oR h) none none,rfl,?_⟩;obtain⟨j,z,A⟩:=zz p (H.keep K) ((q h (List.mem_of_getElem? y)).keep K) (K.g s) t u
  have:(iT (mN (bg b) (ab (aa 6) (ab (aa 9) (ab (aa 2) ae))))) (HWE ns m x w e l h6 h7 (oR k) (oR h) none none) a=.ok (.bl false) j:=by
   rw[pR]
   show(cw (iA (b [.ref h6,.ref h,.ref x] a))).bind _=_
   rw[z];rfl
  unfold OA;rw[ao,gU this];exact⟨_,rfl,K.trans A⟩
 .rintro c a ⟨a9,rfl,K⟩
  exact⟨a9,a,rfl,K⟩
def OB(a:aQ):EM:=(iT (mN (aW .all) (ab (bF (m2 (aF .Eq) (ay "House" "line" a (aa 1) (ab (aa 0) ae)) (m2 aN (aa 2) (aa 0))) true (ah .non) (aZ (aa 2)) 0 [6,5]) ae)))
theorem FX{f:aQ}(z:wH f){a8 a9 a10 a11:Option D}(H:bG Tr Ω h6 (aO xs R) L)(t:Ω[x]?=some (.lst (xs.map .str)))(I:xs.length<=12)(A:cP Ω l kvs)(B:aG Tr Ω kvs (aO xs L)) :
  ∃ai,OB f (HWE ns m x w e l h6 h7 a8 a9 a10 a11) Ω=.ok (.bl false) ai/\af [] Ω ai:=by
 have h:aZ (aa 2) (HWE ns m x w e l h6 h7 a8 a9 a10 a11) Ω=.ok (.seq (.ref x)) Ω:=fO rfl t
 obtain⟨a,u,C⟩:=ET (ρ:=HWE ns m x w e l h6 h7 a8 a9 a10 a11) (me:=m2 (aF .Eq) (ay "House" "line" f (aa 1) (ab (aa 0) ae)) (m2 aN (aa 2) (aa 0))) (mc:=ah .non) (cap:=[6,5]) (ds:=xs.map .str) (g:=λ_=>.bl true) (λa=>af [] Ω a) h af.refl (λa K=>by rw[bu,aI,az (K.g t)]) (λd o a K=>by
  obtain⟨n,p,rfl⟩:=List.mem_map.mp o;obtain⟨k,r,s,E,F,_⟩:=z a h6 _ L Tr n (H.keep K) (by rw[au];exact p)
  have c:=K.trans F;obtain⟨j,G,_,y⟩:=(B.keep c (by simp)).at (n:=n) (by rw[au];exact p)
  rw[a_ p]at y;exact⟨r,zv (ρ:=[oS n,oR h6,oR l]) (jW (i:=1) (j:=0) (H.keep K) rfl rfl (by decide) s) E (b:=j) (gj (n:=n) (A.keep c (by simp)) G) y af.refl rfl,c⟩) (by simp;omega)
 have e:(xs.map D.str).map (λ_=>D.bl true)=(xs.map λ_=>true).map .bl:=by simp
 rw[e]at u;have s:=pZ (Ω:=a++[Cell.lst ((xs.map λ_=>true).map .bl)]) (q:=a.length) aw
 refine⟨a++[Cell.lst ((xs.map λ_=>true).map .bl)],?_,C.trans af.app⟩
 unfold OB;rw[pR,bX,aC,u,ag,aL,ag,ag,s,List.all_eq_true.mpr (by simp)]
 rfl
end
section
variable{Ω ai aB kY:aD}{ρ τ:aR}{C:List D->Out Rs}{κ:List Int->Nat->Int}{ns:List Int}{a e h i j k l x m q h6 h7 hc:Nat}{c:Int}{E:dz}{P:Nat->Prop}{n w x0:Str}{xs ys zs:List Str}{R L:Str->List Str}{kvs:List (Key×D)}{ds:List D}
def zA(E:dz)(L:Str->List Str)(ys:List Str)(Ω:aD)(e h7:Nat):Prop:=∃a b c d,cY Tr Ω e a b (aO (nms E) (bc E)) L/\cY Tr Ω h7 c d (aO ys (bc E)) L/\a<b/\c<d/\(b<c\/d<a)
theorem zA.kp(T:zA E L ys Ω h6 h7)(K:af [] Ω ai):zA E L ys ai h6 h7:=by
 obtain⟨a,b,c,d,A,B,o⟩:=T;exact⟨a,b,c,d,A.kp K,B.kp K,o⟩
def OC(C:List D->Out Rs)(a:aQ):SM:=(aj (e_ (iT (mN (bg a) (ab (aa 9) (ab (aa 2) (ab (aa 3) (ab (mN (cp C) (ab (aa 0) (ab (ah (.int 22)) ae))) ae)))))) Gx ak) ak)
theorem JJ{u:aQ}(F:iF κ C)(Z:CQ u){a8 a9:Option D}(T:zA E L ys Ω h6 h7)(G:gn E L)(hp:ys.Perm (nms E))(H:nms E=xs)(h1:1<=xs.length)(hl:xs.length<=7)(hx:Ω[x]?=some (.lst (xs.map .str)))(hv:nS w)(hw:w∉xs)(hn:h6≠h7) :
  ∃c ai,dt (dM 9) (aZ (mN aY (ab (aa 6) (ab (aa 7) ae)))) (OC C u) (HWE ns m x w e l h6 h7 a8 a9 none none) Ω=.nx (HWE ns m x w e l h6 h7 a8 c none none) ai/\zA E L ys ai h6 h7/\af [h6,h7] Ω ai:=by
 have I:C [SC ns,.int 22]=.ok (false,.int (κ ns 22)):=F ns 22;have a0:E.length=xs.length:=by rw[←H];simp[nms]
 obtain⟨J,M⟩:=cX Ω (.lst [.ref h6,.ref h7])
 have N:aZ (mN aY (ab (aa 6) (ab (aa 7) ae))) (HWE ns m x w e l h6 h7 a8 a9 none none) Ω=.ok (.seq (.ref Ω.length)) (Ω++[.lst [.ref h6,.ref h7]]):=by
  have:mN aY (ab (aa 6) (ab (aa 7) ae)) (HWE ns m x w e l h6 h7 a8 a9 none none) Ω=.ok (.ref Ω.length) (Ω++[.lst [.ref h6,.ref h7]]):=rfl;rw[bB,this,ag];exact bo (by rw[aI,az J])
 have O:=T.kp M;have n:=M.g hx;generalize Ω.length=k at *;generalize Ω++[Cell.lst [.ref h6,.ref h7]]=P at *
 have p:∀{Ω ds j},zA E L ys Ω h6 h7->Ω[j]?=some (Cell.lst ds)->j∉[h6,h7]:=λ⟨_,_,_,_,A,B,_⟩ z=>by
  have:=A.rZ _ _ z;have:=B.rZ _ _ z;simp;exact⟨λq=>by simp_all,λq=>by simp_all⟩
 rw[bV,N,bR];refine br (R:=λr=>∃c ai,r=.nx (HWE ns m x w e l h6 h7 a8 c none none) ai/\zA E L ys ai h6 h7/\af [h6,h7] Ω ai) (ds:=[.ref h6,.ref h7]) (λi y a=>∃a9,y=HWE ns m x w e l h6 h7 a8 a9 none none/\zA E L ys a h6 h7/\af [h6,h7] P a) ?_ ?_ ?_ fuel 0 _ _ (by unfold fuel;simp) (Nat.zero_le _) ⟨a9,rfl,O,af.refl⟩
 .rintro i y a ⟨_,_,_,K⟩
  rw[bu,aI,az (K.get _ _ J (p O J))]
 .rintro i d y a hd ⟨a9,rfl,Q,K⟩
  have S:∃h,d=.ref h/\(h=h6\/h=h7):=by
   have:=List.mem_of_getElem? hd;simp at this;rcases this with rfl|rfl
   .exact⟨_,rfl,.inl rfl⟩
   .exact⟨_,rfl,.inr rfl⟩
  obtain⟨h,rfl,hh⟩:=S;refine⟨HWE ns m x w e l h6 h7 a8 (oR h) none none,rfl,?_⟩;have s:=K.get _ _ n (p O n)
  have step:∃b,u [.ref h,.ref x,.str w,.int (κ ns 22)] a=.ok (.bl true) b/\zA E L ys b h6 h7/\af [h6,h7] a b:=by
   obtain⟨e6,l6,e7,l7,A,B,o6,o7,o⟩:=Q;have dA:=A.dl;have dB:=B.dl;rcases hh with rfl|rfl
   .obtain⟨fs,U⟩:=A.ix
    obtain⟨V,X,b,t,A3,f,f3,Y⟩:=Z a h x e6 l6 w (κ ns 22) xs _ E L A G (List.Perm.refl _) H (by omega) (by omega) s hv hw o6
    exact⟨b,t,⟨V,X,e7,l7,A3,B.kh f U (Ne.symm hn),Y,o7,.inr (by omega)⟩,f.sub (by simp)⟩
   .obtain⟨fs,U⟩:=B.ix
    obtain⟨V,X,b,t,B3,f,f3,Y⟩:=Z a h x e7 l7 w (κ ns 22) xs _ E L B G hp H (by omega) (by omega) s hv hw o7
    exact⟨b,t,⟨e6,l6,V,X,A.kh f U hn,B3,o6,Y,.inl (by omega)⟩,f.sub (by simp)⟩
  obtain⟨b,t,T3,f⟩:=step
  have:(iT (mN (bg u) (ab (aa 9) (ab (aa 2) (ab (aa 3) (ab (mN (cp C) (ab (aa 0) (ab (ah (.int 22)) ae))) ae)))))) (HWE ns m x w e l h6 h7 a8 (oR h) none none) a=.ok (.bl false) b:=by
   simp[I,t]
  unfold OC;rw[ao,gU this];exact⟨_,rfl,T3,K.trans f⟩
 .rintro y a ⟨a9,rfl,Q,K⟩
  exact⟨a9,a,rfl,Q,(M.sub (by simp)).trans K⟩
def OD:EM:=(bF (mN ip (ab (aa 0) (ab (mN aY ae) ae))) true (ah .non) (aZ (aa 2)) 0 [])
theorem FY(o:ρ[2]?=some (oR x))(m:Ω[x]?=some (.lst (xs.map .str)))(w:xs.length<=12) :
  ∃(b:List (Str×Nat)) (t:Nat) (ai:aD),OD ρ Ω=.ok (.ref t) ai/\ai[t]?=some (.lst (b.map qq))/\b.map (·.1)=xs/\(∀p∈b,ai[p.2]?=some (.lst (([]:List Str).map .str)))/\af [] Ω ai:=by
 have j:aZ (aa 2) ρ Ω=.ok (.seq (.ref x)) Ω:=fO o m
 obtain⟨y,e,q,b,rfl,f,k,r⟩:=iP (ρ:=ρ) (me:=mN ip (ab (aa 0) (ab (mN aY ae) ae))) (mc:=ah .non) (cap:=[]) (ds:=xs.map .str) (λi c a=>∃b:List (Str×Nat),c=b.map qq/\b.map (·.1)=xs.take i/\(∀p∈b,a[p.2]?=some (.lst (([]:List Str).map .str)))/\af [] Ω a) j ⟨[],rfl,rfl,by simp,af.refl⟩
  (λi c a h=>by
   obtain⟨_,_,_,_,K⟩:=h;rw[bu,aI,az (K.g m)])
  (λi d c a l s=>by
   obtain⟨b,rfl,f,k,K⟩:=s;obtain⟨n,u,rfl⟩:=eD l;refine⟨qq (n,a.length),a++[.lst []],rfl,b++[(n,a.length)],by simp,by rw[List.take_succ,u];simp[f],λp hp'=>?_,K.trans af.app⟩
   rcases List.mem_append.mp hp' with hp' |hp'
   .exact dq (k p hp')
   .rw[List.mem_singleton.mp hp']
    exact aw) (by simp;omega)
 rw[List.length_map,List.take_length]at f;exact⟨b,e.length,e++[Cell.lst (b.map qq)],by unfold OD;exact q,aw,f,λp hp'=>dq (k p hp'),r.trans af.app⟩
end
section
variable{Ω ai aB kY:aD}{ρ τ:aR}{C:List D->Out Rs}{κ:List Int->Nat->Int}{ns:List Int}{a e h i j k l x m q h6 h7 hc:Nat}{c:Int}{E:dz}{P:Nat->Prop}{n w x0:Str}{xs ys zs:List Str}{R L:Str->List Str}{kvs:List (Key×D)}{ds:List D}
theorem kM(h:(zs++[n]).Nodup):((zs++[n]).filter λy=>decide (y≠n))=zs/\n∉zs:=by
 have a:n∉zs:=λz=>(List.nodup_append.mp h).2.2 n z n (by simp) rfl
 have b:∀y∈zs,decide (y≠n)=true:=λy c=>decide_eq_true λq:y=n=>a (q▸c)
 refine⟨?_,a⟩;rw[List.filter_append,List.filter_eq_self.mpr b];simp
theorem gn.last(G:gn E L)(c:nms E=zs++[n]):∀y∈nms E,n∉bc E y:=λy e f=>by
 obtain⟨i,d⟩:=G.wM e;have b:=(G.el i _ d).2.2 n f
 have g:i<(zs++[n]).length:=by
  have:=(List.getElem?_eq_some_iff.mp d).1;rw[←c];simpa[nms]using this
 have a:=G.nd;rw[c]at b a;rw[List.take_append_of_le_length (by simp at g;omega)]at b
 exact(kM a).2 (List.mem_of_mem_take b)
def CT:EM:=(m2 aN (aa 2) (m1 AH (ah (.int 1))))
theorem FZ(a:ρ[2]?=some (oR x))(b:Ω[x]?=some (.lst ((zs++[n]).map .str))):CT ρ Ω=.ok (.str n) Ω:=by
 have:aN (.ref x) (.int (-1)) Ω=.ok (.str n) Ω:=cj b (by rw[List.map_append];exact L2.xp _ _)
 unfold CT;rw[dm,de,a,dc,ag];exact this
def OE:EM:=(dg (aa 2) true (ah .non) false (m1 AH (ah (.int 1))))
theorem F4(a:ρ[2]?=some (oR x))(b:Ω[x]?=some (.lst ((zs++[n]).map .str))):OE ρ Ω=.ok (.ref Ω.length) (Ω++[.lst (zs.map .str)]):=by
 have:ji (.ref x) none (some (-1)) Ω=.ok (.ref Ω.length) (Ω++[.lst (zs.map .str)]):=by
  simp only[ji,az b,jQ,yV];simp
 unfold OE;rw[eS,de,a,dc,ag];exact this
theorem zB{m:Str}{F:aQ}{mo:EM}{c:AM}(H:bG P Ω h E L)(d:mo ρ Ω=.ok (.ref h) Ω)(a:([("elders",D.ref 0),("lines",D.ref 0)]:List (Str×D)).lookup m=none):ay "House" m F mo c ρ Ω=(c ρ Ω).bind λxs b=>iA (F (.ref h::xs) b):=by
 obtain⟨e,l,f,g,i,j⟩:=H;refine u_ d i ?_;simp only[List.lookup_cons]at a ⊢;split at a
 .cases a
 .split at a
  .cases a
  .rfl
def OF:EM:=(m2 aN (aa 8) (ah (.int 1)))
def hw1(TA:aQ):EM:=(ay "House" "turn_all" TA OF (ab OD ae))
def hw2(a:aQ):EM:=(ay "House" "drop" a OF (ab (m2 aN (aa 2) (ah (.int 0))) ae))
def RG(a b:aQ):EM:=(rV (m2 (aF .NotEq) (ay "House" "kinds" a (aa 11) ae) OE) (rV (m2 (aF .NotEq) (ay "House" "kinds" a (aa 6) ae) (aa 2)) (iT (mN (bg b) (ab (aa 6) (ab (aa 7) (ab (aa 2) ae)))))))
def OG(a:aQ):EM:=(ay "House" "add" a (aa 6) (ab CT (ab (mN aY ae) (ab (ah (.int 0)) ae))))
def OH(TA a b c d e:aQ):SM:=
 (aj (bA (hw1 TA))
 (aj (bA (hw2 a))
 (aj (aA 10 (ay "House" "copied" b (aa 6) ae))
 (aj (aA 11 (ay "House" "copied" b (aa 6) ae))
 (aj (bA (ay "House" "drop" a (aa 11) (ab CT ae)))
 (aj (e_ (RG c d) Gx ak)
 (aj (bA (ay "House" "drop" a (aa 6) (ab CT ae)))
 (aj (bA (OG e))
 (aj (bT (jI (m2 (aF .Eq) (ay "House" "kinds" c (aa 10) ae) (aa 2)) (mN (bg d) (ab (aa 10) (ab (aa 7) (ab (aa 2) ae))))))
 ak)))))))))
theorem F5{TA DR CP KD AL AD:aQ}(hT:wQ TA)(hD:CJ DR)(hP:Ja CP)(hK:k6 KD)(hL:wR AL)(hA:wJ AD){a9:Option D}(T:zA E L ys Ω h6 h7)(H:bG Tr Ω hc (aO (nms E) (bc E)) L)(G:gn E L)(hp:ys.Perm (nms E))(hE:nms E=xs)(h1:1<=xs.length)(hl:xs.length<=7)(hx:Ω[x]?=some (.lst (xs.map .str)))(hv:∀n∈xs,nS n)(hn:h6≠h7)(n6:h6≠hc)(n7:h7≠hc){d8:D}{t8:List D}(hk:Ω[k]?=some (.lst (d8::.ref hc::t8))) :
  ∃ai,iC (OH TA DR CP KD AL AD (HWE ns m x w e l h6 h7 (oR k) a9 none none) Ω)=.ok (.bl true) ai:=by
 subst hE;obtain⟨zs,n,I⟩:∃zs n,nms E=zs++[n]:=⟨_,_,(List.dropLast_concat_getLast (l:=nms E) (by rintro z;rw[z]at h1;simp at h1)).symm⟩
 have b:=G.last I;have a0:=kM (I▸G.nd);obtain⟨x0,b0⟩:∃x0,(nms E)[0]?=some x0:=⟨(nms E)[0],List.getElem?_eq_getElem (by omega)⟩
 have v8:∀{a9 J K:Option D}{ai:aD},ai[k]?=some (.lst (d8::.ref hc::t8))->OF (HWE ns m x w e l h6 h7 (oR k) a9 J K) ai=.ok (.ref hc) ai:=λg=>cj g (L2.cZ (j:=1) rfl)
 obtain⟨ts,t,k0,c1,g1,t1,t2,K1⟩:=FY (ρ:=HWE ns m x w e l h6 h7 (oR k) a9 none none) rfl hx (by omega)
 have B:=Gl.bare G.nd (by omega:(nms E).length<=100)
 have hb:(aO (nms E) (bc E)).length=(nms E).length:=by simp[aO]
 have tl:ts.length=(nms E).length:=by rw[←t1,List.length_map]
 obtain⟨ec,lc,f,c2,H2,K2,f2,o2⟩:=hT k0 hc t ts (aO (nms E) (bc E)) L (λn=>[n]) (λ_=>[]) Tr (H.keep K1) ⟨g1,by rw[t1];exact G.nd,by omega,λp c0=>⟨t2 p c0,by rw[au,←t1];exact List.mem_map.mpr ⟨p,c0,rfl⟩,by simp,by simp,by simp⟩⟩ (by rw[au];exact G.nd) (by omega) (λn hn l0=>absurd (by rw[au]at hn;rw[t1];exact hn) l0) (by rw[au];exact B.gd) (by rw[au];exact B.rQ) (by rw[au];exact B.sh) (λ_ _=>trivial)
 rw[au]at H2;obtain⟨fa,ia⟩:∃fs,Ω[hc]?=some (.ins "House" fs):=let ⟨_,_,q⟩:=H;q.ix
 have m0:hw1 TA (HWE ns m x w e l h6 h7 (oR k) a9 none none) Ω=.ok .non f:=by
  unfold hw1;rw[zB H (v8 hk) (by decide),aC,c1,ag,aL,ag,ag,c2];rfl
 have ib:=K1.g ia;have n0:∀{j:Nat}{ds:List D},Ω[j]?=some (.lst ds)->j≠hc:=λz q=>by rw[q,ia]at z;cases z
 have u:∀{j:Nat}{ds:List D},Ω[j]?=some (.lst ds)->f[j]?=some (.lst ds):=λz=>K2.get _ _ (K1.g z) (by simpa using n0 z)
 obtain⟨h,c3,_,K3⟩:=drop_one hD H2 B (List.mem_of_getElem? b0) (λ_ _=>by simp) o2
 have o0:hw2 DR (HWE ns m x w e l h6 h7 (oR k) a9 none none) f=.ok .non h:=by
  have:m2 aN (aa 2) (ah (.int 0)) (HWE ns m x w e l h6 h7 (oR k) a9 none none) f=.ok (.str x0) f:=jm (n:=0) (u hx) b0;unfold hw2;rw[zB H2.at (v8 (u hk)) (by decide),aC,this,ag,aL,ag,ag,c3];rfl
 obtain⟨e6,l6,e7,l7,A,S,o6,o7,oo⟩:=T;have dA:=A.dl;have dS:=S.dl;obtain⟨⟨ka,qa⟩,⟨kb,qb⟩,d2⟩:=H2.dl;have u0:=K1.len;have A3:cY Tr h h6 e6 l6 _ L:=((A.kp K1).kh K2 ib n6).kd K3 qa qb (by omega) (by omega) (by omega) (by omega)
 have S3:cY Tr h h7 e7 l7 _ L:=((S.kp K1).kh K2 ib n7).kd K3 qa qb (by omega) (by omega) (by omega) (by omega)
 have p0:=K3.get _ _ (u hx) (by have:=H2.rZ _ _ (u hx);simp;omega)
 obtain⟨c,eX,lX,M,c4,X4,K4,fX,z0,oX⟩:=hP h h6 _ L Tr A3.at
 have r4:aA 10 (ay "House" "copied" CP (aa 6) ae) (HWE ns m x w e l h6 h7 (oR k) a9 none none) h=.nx (HWE ns m x w e l h6 h7 (oR k) a9 (oR c) none) M:=by
  rw[aU,gW (i:=6) A3.at rfl (by decide) c4];rfl
 obtain⟨s,eY,lY,e0,c5,Y5,K5,fY,A0,oY⟩:=hP M h6 _ L Tr (A3.kp K4).at
 have r5:aA 11 (ay "House" "copied" CP (aa 6) ae) (HWE ns m x w e l h6 h7 (oR k) a9 (oR c) none) M=.nx (HWE ns m x w e l h6 h7 (oR k) a9 (oR c) (oR s)) e0:=by
  rw[aU,gW (i:=6) (A3.kp K4).at rfl (by decide) c5];rfl
 have N:=G.gl.1;have O:n∈nms E:=by rw[I];simp
 obtain⟨d,c6,Y6,K6⟩:=drop_one hD Y5 N O b oY;have fz:((nms E).filter λy=>decide (y≠n))=zs:=by rw[I];exact a0.1
 rw[fz]at Y6;have P:=(K4.trans K5).g p0;have Q:∀{a9 J K:Option D}{ai:aD},ai[x]?=some (.lst ((nms E).map .str))->CT (HWE ns m x w e l h6 h7 (oR k) a9 J K) ai=.ok (.str n) ai:=λg=>FZ (zs:=zs) rfl (by rw[←I];exact g)
 have m6:ay "House" "drop" DR (aa 11) (ab CT ae) (HWE ns m x w e l h6 h7 (oR k) a9 (oR c) (oR s)) e0=.ok .non d:=by
  rw[bx Y5.at rfl (by decide),aC,Q P,ag,aL,ag,ag,c6];rfl
 have dX:=X4.dl;have B0:=A3.dl;have C0:=S3.dl;have v0:=K4.len;have w0:=K5.len;obtain⟨⟨kc,qc⟩,⟨kd,qd⟩,d5⟩:=Y5.dl;have A6:cY Tr d h6 e6 l6 _ L:=(A3.kp (K4.trans K5)).kd K6 qc qd (by omega) (by omega) (by omega) (by omega)
 have S6:cY Tr d h7 e7 l7 _ L:=(S3.kp (K4.trans K5)).kd K6 qc qd (by omega) (by omega) (by omega) (by omega)
 have X6:cY Tr d c eX lX _ L:=(X4.kp K5).kd K6 qc qd (by omega) (by omega) (by omega) (by omega)
 have C:=K6.get _ _ P (by have:=Y5.rZ _ _ P;simp;omega)
 obtain⟨k7,R,c7,g7,K7,_⟩:=hK d s _ L Tr Y6.at;rw[au]at g7;have s7:=F4 (ρ:=HWE ns m x w e l h6 h7 (oR k) a9 (oR c) (oR s)) (zs:=zs) (n:=n) rfl (by rw[←I];exact K7.g C)
 have K8:af [] R (R++[Cell.lst (zs.map .str)]):=af.app;have w1:=gP (gW (m:="kinds") (ρ:=HWE ns m x w e l h6 h7 (oR k) a9 (oR c) (oR s)) (i:=11) Y6.at rfl (by decide) c7) g7 s7 aw K8 rfl
 generalize R++[Cell.lst (zs.map .str)]=D0 at *;have U:=K7.trans K8;obtain⟨f0,w2,K9⟩:=FR (ρ:=HWE ns m x w e l h6 h7 (oR k) a9 (oR c) (oR s)) (i:=6) (j:=2) hK (A6.kp U).at rfl rfl (U.g C);have F:=U.trans K9;have q0:Lk E L f0 h6:=⟨_,List.Perm.refl _,(A6.kp F).at⟩;obtain⟨g0,cA,KA⟩:=zz hL q0 ⟨_,hp,(S6.kp F).at⟩ (F.g C) rfl (by omega)
 have w3:RG KD AL (HWE ns m x w e l h6 h7 (oR k) a9 (oR c) (oR s)) d=.ok (.bl false) g0:=by
  refine jV w1 (jV w2 ?_);rw[pR]
  show(cw (iA (AL [.ref h6,.ref h7,.ref x] f0))).bind _=_
  rw[cA];rfl
 have Dv:=F.trans KA;have y0:=Dv.len;have V:=Dv.g C;obtain⟨a,cB,AB,KB⟩:=drop_one hD (A6.kp Dv) N O b o6
 have mB:ay "House" "drop" DR (aa 6) (ab CT ae) (HWE ns m x w e l h6 h7 (oR k) a9 (oR c) (oR s)) g0=.ok .non a:=by
  rw[bx (A6.kp Dv).at rfl (by decide),aC,Q V,ag,aL,ag,ag,cB];rfl
 obtain⟨⟨ke,qe⟩,⟨kf,qf⟩,G0⟩:=(A6.kp Dv).dl;have SB:cY Tr a h7 e7 l7 _ L:=(S6.kp Dv).kd KB qe qf (by omega) (by omega) (by omega) (by omega)
 have XB:cY Tr a c eX lX _ L:=(X6.kp Dv).kd KB qe qf (by omega) (by omega) (by omega) (by omega)
 have X:=KB.get _ _ V (by have:=(A6.kp Dv).rZ _ _ V;simp;omega)
 obtain⟨gC,Y⟩:=cX a (.lst (([]:List Str).map .str))
 have qC:(ab CT (ab (mN aY ae) (ab (ah (.int 0)) ae))) (HWE ns m x w e l h6 h7 (oR k) a9 (oR c) (oR s)) a=.ok [.str n,.ref a.length,.int 0] (a++[.lst (([]:List Str).map .str)]):=by
  rw[aC,Q X,ag];rfl
 generalize a++[Cell.lst (([]:List Str).map .str)]=h0 at *;have r0:zs.length<12:=by have:=congrArg List.length I;simp at this;omega
 have Gz:=N.less b;rw[fz]at Gz AB;obtain⟨_,_,_,i0,cD,_,Z,_⟩:=iI (p:=0) (r:=[]) (m:=n) (o:=[]) hA (AB.kp Y).at Gz gC (hv n O) a0.2 r0 (by simp) (by simp) (by simp) p_ (by simp) (Nat.zero_le _) (λ_ _=>trivial)
 have mD:OG AD (HWE ns m x w e l h6 h7 (oR k) a9 (oR c) (oR s)) a=.ok .non i0:=by
  unfold OG;rw[bx AB.at rfl (by decide),qC,ag]
  show iA (AD [.ref h6,.str n,.ref a.length,.int 0] h0)=_
  have cD:AD [.ref h6,.str n,.ref a.length,.int 0] h0=.ok .non i0:=cD;rw[cD];rfl
 obtain⟨fs,ix⟩:=(AB.kp Y).ix;have SD:=(SB.kp Y).kh Z ix (Ne.symm hn);have XD:=(XB.kp Y).kh Z ix (by omega)
 have j0:=Z.get _ _ (Y.g X) (by have:=(AB.kp Y).rZ _ _ (Y.g X);simp;omega)
 obtain⟨s0,cE,KE⟩:=RF (ρ:=HWE ns m x w e l h6 h7 (oR k) a9 (oR c) (oR s)) (i:=10) (j:=2) hK XD.at rfl rfl j0;obtain⟨t0,cF,_⟩:=zz hL ⟨_,List.Perm.refl _,(XD.kp KE).at⟩ ⟨_,hp,(SD.kp KE).at⟩ (KE.g j0) rfl (by omega)
 refine⟨t0,?_⟩;unfold OH;rw[dN m0,dN o0,aH r4,aH r5,dN m6,ao,gU w3,cT,dN mB,dN mD,ao,dJ,lB,cE,ag,cO,yW]
 show iC (sq (bK (iA (AL [.ref c,.ref h7,.ref x] s0)) _) _)=_
 rw[cF];rfl
end
section
variable{Ω ai aB kY:aD}{C:List D->Out Rs}{κ:List Int->Nat->Int}
def OI(a:aQ):EM:=(mN aY (ab (aa 7) (ab (ay "House" "copied" a (aa 6) ae) ae)))
def OJ(a:aQ):EM:=(dG kH bQ (aa 8) (ab (mN (bg a) (ab (aa 2) (ab (aa 4) (ab (aa 3) ae)))) ae))
def F6(C:List D->Out Rs)(a:aQ):EM:=(mN (bg a) (ab (aa 2) (ab (aa 4) (ab (mN (cp C) (ab (aa 0) (ab (ah (.int 20)) ae))) (ab (mN (cp C) (ab (aa 0) (ab (ah (.int 21)) ae))) ae)))))
def F7(C:List D->Out Rs)(c d e f g a h b i j TA k l m:aQ):SM:=
 Oz C c d e
 (aj (aA 6 (mN (bg f) (ab (aa 4) ae)))
 (aj (aA 7 (F6 C g))
 (aj (e_ (m2 (aF .Is) (aa 7) (ah .non)) Gx ak)
 (aj (aA 8 (OI a))
 (aj (bA (OJ h))
 (aj (dt (dM 9) (aZ (aa 8)) (OA b))
 (aj (e_ (OB i) Gx ak)
 (aj (dt (dM 9) (aZ (mN aY (ab (aa 6) (ab (aa 7) ae)))) (OC C j))
 (OH TA k a l b m)))))))))
theorem zC(r:iF κ C){NH CN RH BU AO CP Z AL LN CO TA DR KD AD:aQ}(hN:CF NH)(hC:CC CN)(hR:CG RH)(hB:NV BU)(hO:FQ AO)(hP:Ja CP)(hW:FO Z)(hL:wR AL)(hI:wH LN)(hV:CQ CO)(hT:wQ TA)(hD:CJ DR)(hK:k6 KD)(hA:wJ AD)(ns:List Int) :
  ∃ai,cV 12 1 (F7 C NH CN RH BU AO CP Z AL LN CO TA DR KD AD) [SC ns] []=.ok (.bl true) ai:=by
 rw[bh (by rfl),show aX 12 [SC ns]=[some (SC ns),none,none,none,none,none,none,none,none,none,none,none]from rfl]
 unfold F7;obtain⟨m,x,e,l,w,R,E,L,K,c2,t,hl,S,hw⟩:=CS (Ω:=[]) (ns:=ns) r hN hC hR (τ:=[none,none,none,none,none,none]) (s:=_);rw[c2];have G:=t.Tu;have u:=t.eq;have hv:=t.vn;have h1:=t.pos;have i0:E.length=R.length:=by rw[←u];simp[nms]
 obtain⟨y,b1,b2⟩:=t.el;obtain⟨a0,d1,d2⟩:=t.ln;obtain⟨a,A,c3,⟨e6,l6,A3,f6,o6⟩,K3,g3,f3⟩:=hB K e y E L b1 b2 G (by rw[u];exact hv)
 have T:∀j∈[e],∀J,K[j]?≠some (.lst J):=λj hj J=>by rw[List.mem_singleton.mp hj];exact b1.nl J
 have nx:x≠e:=λz=>b1.nl _ (z▸t.nx)
 have r3:aA 6 (mN (bg BU) (ab (aa 4) ae)) [some (SC ns),oI m,oR x,oS w,oR e,oR l,none,none,none,none,none,none] K=.nx [some (SC ns),oI m,oR x,oS w,oR e,oR l,oR a,none,none,none,none,none] A:=by simp[c3]
 have x3:=K3.get _ _ t.nx (by simpa using nx)
 have D3:cP A e y:=.inr g3;have b3:=b2.bD K3 T;have JK:=d1.keep K3 (by simpa using Ne.symm t.ne)
 have L4:=d2.bD K3 T;have b0:C [SC ns,.int 20]=.ok (false,.int (κ ns 20)):=r ns 20;have c0:C [SC ns,.int 21]=.ok (false,.int (κ ns 21)):=r ns 21;obtain⟨h7,zs,b,c4,hz,⟨e7,l7,S4,f7,o7⟩,K4,f4⟩:=hO A x e (κ ns 20) (κ ns 21) R y E L x3 D3 b3 G u (by omega) (by omega) hv
 have r4:aA 7 (F6 C AO) [some (SC ns),oI m,oR x,oS w,oR e,oR l,oR a,none,none,none,none,none] A=.nx (HWE ns m x w e l a h7 none none none none) b:=by simp[F6,b0,c0,c4]
 have e0:e_ (m2 (aF .Is) (aa 7) (ah .non)) Gx ak (HWE ns m x w e l a h7 none none none none) b=.nx (HWE ns m x w e l a h7 none none none none) b:=gU rfl;have c:=G.gl.2;have M:zs.Perm (nms E):=by rw[u];exact hz
 obtain⟨p,ec,lc,f,c5,X5,K5,fc,j0,oc⟩:=hP b a E L Tr (A3.kp K4).at
 have r5:aA 8 (OI CP) (HWE ns m x w e l a h7 none none none none) b=.nx (HWE ns m x w e l a h7 (oR f.length) none none none) (f++[.lst [.ref h7,.ref p]]):=by
  have v7:aa 7 (HWE ns m x w e l a h7 none none none none) b=.ok (.ref h7) b:=rfl;unfold OI;rw[aU,bX,aC,v7,ag,aC,gW (i:=6) (A3.kp K4).at rfl (by decide) c5,ag,aL,ag,ag,ag]
  rfl
 obtain⟨g6,K6⟩:=cX f (.lst [.ref h7,.ref p]);generalize f.length=k at *;generalize f++[Cell.lst [.ref h7,.ref p]]=B at *;have U:=K5.trans K6;have F:=K4.trans U;obtain⟨Q,n,c7,⟨eM,lM,M7,_,_⟩,K7,fM⟩:=hW B x e w R y E L (F.g x3) (D3.keep F (by simp)) (b3.keep F (by simp)) G u (by omega) hv S hw
 have H:=K7.g g6
 have m7:OJ Z (HWE ns m x w e l a h7 (oR k) none none none) B=.ok .non (n.set k (.lst ([.ref h7,.ref p]++[.ref Q]))):=by
  unfold OJ;rw[dw (x:=.ref k) (ai:=B) rfl (dr g6),aC]
  show(((iA (Z [.ref x,.ref e,.str w] B)).bind _).bind _)=_
  rw[c7];exact ee H (by simp)
 have N:af [k] n (n.set k (.lst ([.ref h7,.ref p]++[.ref Q]))):=af.set (by simp)
 have g8:(n.set k (.lst ([.ref h7,.ref p]++[.ref Q])))[k]?=some (.lst ([h7,p,Q].map .ref)):=aP H;generalize n.set k (.lst ([.ref h7,.ref p]++[.ref Q]))=d at *;have o:=F.trans K7;have V:cY Tr d a e6 l6 (aO (nms E) (bc E)) L:=by rw[c];exact(A3.kp o).rf N H
 have S8:cY Tr d h7 e7 l7 (aO zs (bc E)) L:=(S4.kp (U.trans K7)).rf N H;have X8:cY Tr d p ec lc (aO (nms E) (bc E)) L:=by rw[c];exact(X5.kp (K6.trans K7)).rf N H
 have M8:cY Tr d Q eM lM (aO (nms E) (bc E)) L:=by rw[c];exact M7.rf N H
 have x7:=o.g x3
 have x8:d[x]?=some (.lst (R.map .str)):=N.get _ _ x7 (by
  simp only[List.mem_singleton];rintro rfl;rw[H]at x7;cases R<;>simp at x7)
 have D8:cP d l a0:=(JK.keep o (by simp)).keep N (by
  simp only[List.mem_singleton];rintro rfl;exact(JK.keep o (by simp)).nl _ H)
 have R8:=(L4.keep o (by simp)).rf N H
 have re:(nms E).Perm (nms E):=List.Perm.refl _
 obtain⟨a9,k0,r9,X⟩:=FW (ns:=ns) (m:=m) (x:=x) (w:=w) (e:=e) (l:=l) (h7:=h7) hL ⟨_,re,V.at⟩ g8 (λh hh=>by
  simp at hh;rcases hh with rfl|rfl|rfl
  .exact⟨_,M,S8.at⟩
  .exact⟨_,re,X8.at⟩
  .exact⟨_,re,M8.at⟩) x8 u (by omega) (by simp)
 have A9:=V.kp X;rw[u]at A9;obtain⟨I,cA,KA⟩:=FX (ns:=ns) (m:=m) (w:=w) (e:=e) (h7:=h7) (a8:=oR k) (a9:=a9) (a10:=none) (a11:=none) hI A9.at (X.g x8) (by omega) (D8.keep X (by simp)) (R8.keep X (by simp))
 have zG:=X.trans KA;have q6:=A3.dl;have q7:=S4.dl;have t4:=K4.len;have Y:a≠h7:=by omega
 obtain⟨fx,ix⟩:=X8.ix;have f0:zA E L zs I a h7:=⟨e6,l6,e7,l7,V.kp zG,S8.kp zG,o6,o7,.inl (by omega)⟩
 have xA:=zG.g x8;have gA:=zG.g g8;obtain⟨b9,g0,rB,TB,O⟩:=JJ (ns:=ns) (m:=m) (e:=e) (l:=l) (a8:=oR k) (a9:=a9) r hV f0 G M u h1 hl xA S hw Y
 have P:∀{j:Nat}{J:List D},I[j]?=some (.lst J)->j∉[a,h7]:=λz=>by
  have:=(V.kp zG).rZ _ _ z;have:=(S8.kp zG).rZ _ _ z;simp;omega
 have XB:cY Tr g0 p ec lc (aO (nms E) (bc E)) L:=by
  obtain⟨ka,kb,w1,w2,w3,w4,w5⟩:=X8.kp zG;obtain⟨⟨_,qa⟩,⟨_,qb⟩,_⟩:=(X8.kp zG).dl;obtain⟨_,i6⟩:=(V.kp zG).ix;obtain⟨_,i7⟩:=(S8.kp zG).ix
  have nd:∀{j ka},I[j]?=some (Cell.dK ka)->j∉[a,h7]:=λz=>by
   simp;exact⟨λq=>(by rw[q,i6]at z;cases z),λq=>(by rw[q,i7]at z;cases z)⟩
  have T:∀j∈[a,h7],∀J,I[j]?≠some (.lst J):=λj hj J z=>P z hj
  exact⟨ka,kb,O.get _ _ w1 (by simp;omega),O.get _ _ w2 (nd w2),w3.bD O T,O.get _ _ w4 (nd w4),w5.bD O T⟩
 obtain⟨h0,cC⟩:=F5 (ns:=ns) (m:=m) (w:=w) (e:=e) (l:=l) (a9:=b9) hT hD hP hK hL hA TB XB.at G M u h1 hl (O.get _ _ xA (P xA)) hv Y (by omega) (by omega) (O.get _ _ gA (P gA))
 refine⟨h0,?_⟩;rw[aH r3,aH r4,aH e0,aH r5,dN m7,aH r9,ao,gU cA,cT,aH rB];exact cC
end
end Mir
namespace Mir
open PySem PySem.Spec PyProof.Rows L2
structure fK(K:PySem.W.Frag)(C:Addr)(x qual:Str)(st:Stmt)(f:Addr)(fd:FuncData):Prop where
 me:Meth K C x f
 fn:Gh K x qual st f fd
theorem zD{K:PySem.W.Frag}{C:Addr}{x qual:Str}{st:Stmt}{f:Addr}{oc:Value}{j g:Option Addr}{e:Array (Option Value)}{kV d h b ct:Value}(a:PySem.W.findIn K (.ref C) x=some (some (.ref f)))
  (l:K.lookup f=some ⟨oc,j,.func (PySem.W.fnOf x qual (ck st) (cm st) (av st) .none kV d h g b ct),e⟩) (c:PySem.W.codeIn K b qual=true) (k:PySem.W.keepIn K (.ref f)=true) (i:PySem.W.isFn K (.ref f)=true):fK K C x qual st f (PySem.W.fnOf x qual (ck st) (cm st) (av st) .none kV d h g b ct):=⟨⟨a,i,k⟩,sH l c k⟩
variable [aE]
section
variable{P:Program}{w:World}{K:PySem.W.Frag}{mg:Str->Option Value}{base h:Heap}{T:aV}{k:Nat}{x qual C:Str}{Ca f:Addr}{st:Stmt}{fd:FuncData}{N ps td:List Str}{c:SM}
theorem kN(F:Gh K x qual st f fd):E7 K x qual st .none f fd:=⟨F.ex,F.kp⟩
theorem bO.hX(W:bO P w K mg base T k)(X:K.In h)(G:h.Ns mainGlobals mg)(a:dy K x st f fd)(e:bz N ps (av st)=true)(g:bC T td st N=some c)(i:∀(kV b j:Value) (l:Option Addr) (d ct:Value) (us:List Value),us.length=ps.length->bindArgs (PySem.W.fnOf x x (ck st) (cm st) (av st) .none kV b j l d ct) ⟨us,[]⟩=pure (ps.zip us)) :
  bO P w K mg base (T.fb x (cV N.length ps.length c)) (k+1):=W.fb (PySem.W.mg_of X G a.ns) a.fn.kp (a.fn.binds i) (fg W (kN a.fn) e g)
theorem bO.nT(W:bO P w K mg base T k)(e:mg C=some (.ref Ca))(g:nF K Ca)(a:fK K Ca x qual st f fd)(h:bz N ps (av st)=true)(i:bC T td st N=some c)(j:∀(kV b l:Value) (m:Option Addr) (d ct:Value) (us:List Value),us.length=ps.length->bindArgs (PySem.W.fnOf x qual (ck st) (cm st) (av st) .none kV b l m d ct) ⟨us,[]⟩=pure (ps.zip us)) :
  bO P w K mg base (T.fC C x (cV N.length ps.length c)) (k+1):=W.fC e g a.me (a.fn.binds j) (fg W (kN a.fn) h i)
end
end Mir
namespace F8
open PySem PySem.Spec PyProof.Rows L2 Mir
noncomputable def top(i:Nat):Stmt:=PySem.Challenge.pw_taglook_k24_whole_history.main.body.getD i (.Pass ⟨0,0,0,0⟩)
instance clos:aE:=⟨λ_=>⟨"","",ck (top 0),[],av (top 0),[],[]⟩,λ_=>0⟩
noncomputable def td:List Str:=[]
def OK:aV:=((((((({}:aV).nR "MOST_ELDERS" (.int 5)).nR "MOST_KINDS" (.int 12)).nR "MOST_LETTERS" (.int 8)).nR "LETTERS" (.str "abcdefghijklmnopqrstuvwxyz")).wD "elders" ["House"]).wD "lines" ["House"])
noncomputable def RI:List Str:=["_law_script","_law_k"]
noncomputable def RJ:List Str:=["_law_script","_law_k"]
def RK:SM:=p9
def Tv:aQ:=cV 2 2 RK
def F0:List Mir.D->Out Rs:=pureOf Tv
def OL:aV:=OK.wC "_law_cell" F0
theorem Tw:bz RI RJ (av (top 34))=true:=by decide +kernel
theorem Tx:bC OK td (top 34) RI=some RK:=rfl
noncomputable def RL:List Str:=["_law_cell_here","_law_turn","_law_many","_law_rest","_law_k","_law_turns","_law_one","_law_two"]
noncomputable def RM:List Str:=["_law_cell_here","_law_turn","_law_many"]
def RN:SM:=oF
def Tz:aQ:=cV 8 3 RN
def F1:List Mir.D->Out Rs:=pureOf Tz
def RO:aV:=OL.wC "_law_mix" F1
theorem TC:bz RL RM (av (top 35))=true:=by decide +kernel
theorem TF:bC OL td (top 35) RL=some RN:=rfl
def U0:aV:=RO
noncomputable def RP:List Str:=["thing"]
noncomputable def TH:List Str:=["thing"]
def d0:SM:=Nx
def O0:aQ:=cV 1 1 d0
def U1:aV:=U0.fb "is_name" O0
theorem TJ:bz RP TH (av (top 20))=true:=by decide +kernel
theorem TK:bC U0 td (top 20) RP=some d0:=rfl
noncomputable def RQ:List Str:=["left","name","place","row"]
noncomputable def TL:List Str:=["left","name"]
def d1:SM:=tQ
def O1:aQ:=cV 4 2 d1
def U2:aV:=U1.fb "place_behind" O1
theorem TM:bz RQ TL (av (top 24))=true:=by decide +kernel
theorem TN:bC U1 td (top 24) RQ=some d1:=rfl
noncomputable def RR:List Str:=["left","row"]
noncomputable def TQ:List Str:=["left"]
def d2:SM:=Ce O1
def O2:aQ:=cV 2 1 d2
def U3:aV:=U2.fb "free_name" O2
theorem TR:bz RR TQ (av (top 23))=true:=by decide +kernel
theorem TV:bC U2 td (top 23) RR=some d2:=rfl
noncomputable def RS:List Str:=["rows","left","order","name"]
noncomputable def TX:List Str:=["rows"]
def d3:SM:=E6 cR O2
def O3:aQ:=cV 4 1 d3
def U4:aV:=U3.fb "merged" O3
theorem TY:bz RS TX (av (top 22))=true:=by decide +kernel
theorem TZ:bC U3 td (top 22) RS=some d3:=rfl
noncomputable def RT:List Str:=["elders","order"]
noncomputable def T4:List Str:=["elders","order"]
def d4:SM:=Np
def O4:aQ:=cV 2 2 d4
def U5:aV:=U4.fb "ready_kinds" O4
theorem T5:bz RT T4 (av (top 15))=true:=by decide +kernel
theorem T6:bC U4 td (top 15) RT=some d4:=rfl
noncomputable def RU:List Str:=["elders","order","ready"]
noncomputable def T7:List Str:=["elders"]
def d5:SM:=Nq O4
def O5:aQ:=cV 3 1 d5
def U6:aV:=U5.fb "elders_first" O5
theorem T8:bz RU T7 (av (top 14))=true:=by decide +kernel
theorem T9:bC U5 td (top 14) RU=some d5:=rfl
noncomputable def RW:List Str:=["elders","order","name","left","met"]
noncomputable def T_:List Str:=["elders"]
def d6:SM:=Nt O5
 (aj (aA 4 (mN aY ae))
 (aj (aA 2 (m2 aN (aa 3) (ah (.int 0))))
 (aj (nP (m2 (aF .NotIn) (aa 2) (aa 4))
 (aj (bA (dG kH bQ (aa 4) (ab (aa 2) ae)))
 (aj (aA 2 (m2 aN (bF (aa 0) false (m2 (aF .In) (aa 0) (aa 1)) (aZ (m2 aN (aa 0) (aa 2))) 0 [3]) (ah (.int 0))))
 ak)))
 (aj cR
 ak))))
def O6:aQ:=cV 5 1 d6
def U7:aV:=U6.fb "loop_of" O6
theorem Ua:bz RW T_ (av (top 16))=true:=by decide +kernel
theorem Ub:bC U6 td (top 16) RW=some d6:=rfl
noncomputable def RX:List Str:=["lines","own_elders"]
noncomputable def Uc:List Str:=["lines","own_elders"]
def d7:SM:=Nv
def O7:aQ:=cV 2 2 d7
def U8:aV:=U7.fb "rows_by" O7
theorem Ud:bz RX Uc (av (top 28))=true:=by decide +kernel
theorem Ue:bC U7 td (top 28) RX=some d7:=rfl
noncomputable def RY:List Str:=["elders","ring","lines","tangles","name","refusal"]
noncomputable def RZ:List Str:=["elders"]
def d8:SM:=Nw O6 O5 O3 O7
def O8:aQ:=kJ (cV 6 1 d8)
def U9:aV:=U8.fb "lines_of" O8
theorem Ug:bz RY RZ (av (top 27))=true:=by decide +kernel
theorem Uh:bC U8 td (top 27) RY=some d8:=rfl
noncomputable def R6:List Str:=["self"]
noncomputable def R9:List Str:=["self"]
def d9:SM:=LJ
def O9:aQ:=cV 1 1 d9
def R_:aV:=U9.fC "House" "__init__" O9
theorem Ui:bz R6 R9 (av (inClass (top 32) 0))=true:=by decide +kernel
theorem Uj:bC U9 td (inClass (top 32) 0) R6=some d9:=rfl
def OM:aV:=R_.BP "House" O9
noncomputable def JL:List Str:=["self"]
noncomputable def ON:List Str:=["self"]
def Sa:SM:=Ny
def Dw:aQ:=cV 1 1 Sa
def Sb:aV:=OM.fC "House" "kinds" Dw
theorem OO:bz JL ON (av (inClass (top 32) 5))=true:=by decide +kernel
theorem OP:bC OM td (inClass (top 32) 5) JL=some Sa:=rfl
noncomputable def JM:List Str:=["self","name"]
noncomputable def OQ:List Str:=["self","name"]
def Sd:SM:=Nz Dw
def Dx:aQ:=cV 2 2 Sd
def Se:aV:=Sb.fC "House" "check_kind" Dx
theorem OR:bz JM OQ (av (inClass (top 32) 11))=true:=by decide +kernel
theorem OS:bC Sb td (inClass (top 32) 11) JM=some Sd:=rfl
noncomputable def JN:List Str:=["self","elders","place","elder"]
noncomputable def OT:List Str:=["self","elders"]
def JK:SM:=NB Dx
def L5:aQ:=cV 4 2 JK
def Sf:aV:=Se.fC "House" "check_elders" L5
theorem OU:bz JN OT (av (inClass (top 32) 12))=true:=by decide +kernel
theorem OV:bC Se td (inClass (top 32) 12) JN=some JK:=rfl
noncomputable def JO:List Str:=["self","elders","lines"]
noncomputable def OW:List Str:=["self","elders"]
def Sg:SM:=NF O8
def L6:aQ:=cV 3 2 Sg
def Sh:aV:=Sf.fC "House" "settle" L6
theorem OX:bz JO OW (av (inClass (top 32) 13))=true:=by decide +kernel
theorem OY:bC Sf td (inClass (top 32) 13) JO=some Sg:=rfl
noncomputable def JP:List Str:=["self","name","elders","at","order"]
noncomputable def iJ:List Str:=["self","name","elders","at"]
def Si:SM:=NJ O0 L5 Dw L6
def CU:aQ:=cV 5 4 Si
def Sj:aV:=Sh.fC "House" "add" (λa=>CU (a++[.non]))
theorem OZ:bz JP iJ (av (inClass (top 32) 1))=true:=by decide +kernel
theorem O_:bC Sh td (inClass (top 32) 1) JP=some Si:=rfl
def Pa:aV:={Sj with Hw:=[(("add","at"),"House",CU)]}
noncomputable def JQ:List Str:=["self","name","kind","elders"]
noncomputable def Pb:List Str:=["self","name"]
def Sk:SM:=Oe Dx
def JR:aQ:=cV 4 2 Sk
def Sl:aV:=Pa.fC "House" "drop" JR
theorem Pc:bz JQ Pb (av (inClass (top 32) 2))=true:=by decide +kernel
theorem Pd:bC Pa td (inClass (top 32) 2) JQ=some Sk:=rfl
noncomputable def JS:List Str:=["self","turns","turned","name","elders"]
noncomputable def Pe:List Str:=["self","turns"]
def Sm:SM:=Ob Dx L5 cR
def Pf:aQ:=cV 5 2 Sm
def Sn:aV:=Sl.fC "House" "may_turn" Pf
theorem Pg:bz JS Pe (av (inClass (top 32) 4))=true:=by decide +kernel
theorem Ph:bC Sl td (inClass (top 32) 4) JS=some Sm:=rfl
noncomputable def JT:List Str:=["self","turns","elders","name","others"]
noncomputable def Pj:List Str:=["self","turns"]
def So:SM:=Od Pf L6
def JU:aQ:=cV 5 2 So
def Sq:aV:=Sn.fC "House" "turn_all" JU
theorem Pk:bz JT Pj (av (inClass (top 32) 3))=true:=by decide +kernel
theorem Pl:bC Sn td (inClass (top 32) 3) JT=some So:=rfl
noncomputable def JV:List Str:=["self","name"]
noncomputable def Pm:List Str:=["self","name"]
def Sr:SM:=N7 Dx
def L7:aQ:=cV 2 2 Sr
def Ss:aV:=Sq.fC "House" "elders_of" L7
theorem Pn:bz JV Pm (av (inClass (top 32) 6))=true:=by decide +kernel
theorem Po:bC Sq td (inClass (top 32) 6) JV=some Sr:=rfl
noncomputable def JW:List Str:=["self","name"]
noncomputable def Pp:List Str:=["self","name"]
def Su:SM:=NC Dx
def JX:aQ:=cV 2 2 Su
def Sv:aV:=Ss.fC "House" "line" JX
theorem Pq:bz JW Pp (av (inClass (top 32) 7))=true:=by decide +kernel
theorem Pr:bC Ss td (inClass (top 32) 7) JW=some Su:=rfl
noncomputable def JY:List Str:=["self","name"]
noncomputable def JZ:List Str:=["self","name"]
def Sw:SM:=N9 Dx
def L8:aQ:=kJ (cV 2 2 Sw)
def Pt:aV:=Sv.fC "House" "heirs" L8
theorem Pu:bz JY JZ (av (inClass (top 32) 9))=true:=by decide +kernel
theorem Pw:bC Sv td (inClass (top 32) 9) JY=some Sw:=rfl
noncomputable def J4:List Str:=["self","twin"]
noncomputable def Px:List Str:=["self"]
def L4:SM:=NK O9
def L9:aQ:=cV 2 1 L4
def Sx:aV:=Pt.fC "House" "copied" L9
theorem Py:bz J4 Px (av (inClass (top 32) 10))=true:=by decide +kernel
theorem Pz:bC Pt td (inClass (top 32) 10) J4=some L4:=rfl
noncomputable def J5:List Str:=["_law_cell_here","_law_many","_law_letters","_law_stem","_law_turn","_law_names_here","_law_size","_law_spot","_law_first","_law_step","_law_signs"]
noncomputable def PB:List Str:=["_law_cell_here","_law_many"]
def Sy:SM:=NZ F1
def PC:aQ:=cV 11 2 Sy
def Sz:aV:=Sx.fb "_law_names" PC
theorem PD:bz J5 PB (av (top 36))=true:=by decide +kernel
theorem PF:bC Sx td (top 36) J5=some Sy:=rfl
noncomputable def J6:List Str:=["_law_script","_law_start","_law_names_here","_law_most","_law_rows_here","_law_k","_law_cell_here","_law_row","_law_spot"]
noncomputable def PH:List Str:=["_law_script","_law_start","_law_names_here","_law_most"]
def SA:SM:=N6 F1 F0
def PJ:aQ:=cV 9 4 SA
def SE:aV:=Sz.fb "_law_rows" PJ
theorem PL:bz J6 PH (av (top 37))=true:=by decide +kernel
theorem PM:bC Sz td (top 37) J6=some SA:=rfl
noncomputable def J7:List Str:=["_law_rows_here","_law_row","_law_left","_law_told","_law_behind","_law_name","_law_free"]
noncomputable def PN:List Str:=["_law_rows_here"]
def SF:SM:=LP
def PQ:aQ:=cV 7 1 SF
def SG:aV:=SE.fb "_law_merge" PQ
theorem PR:bz J7 PN (av (top 38))=true:=by decide +kernel
theorem PU:bC SE td (top 38) J7=some SF:=rfl
noncomputable def J8:List Str:=["_law_names_here","_law_rows_here","_law_elders","_law_lines","_law_k","_law_row","_law_behind"]
noncomputable def PV:List Str:=["_law_names_here","_law_rows_here"]
def SH:SM:=NS PQ
def PX:aQ:=cV 7 2 SH
def SI:aV:=SG.fb "_law_clean" PX
theorem PY:bz J8 PV (av (top 39))=true:=by decide +kernel
theorem PZ:bC SG td (top 39) J8=some SH:=rfl
noncomputable def J9:List Str:=["_law_elders","_law_house","_law_name","_law_row","_law_handed"]
noncomputable def P4:List Str:=["_law_elders"]
def SJ:SM:=NU O9 CU
def P5:aQ:=cV 5 1 SJ
def SK:aV:=SI.fb "_law_built" P5
theorem P6:bz J9 P4 (av (top 40))=true:=by decide +kernel
theorem P7:bC SI td (top 40) J9=some SJ:=rfl
noncomputable def J_:List Str:=["_law_rows_here","_law_cell_here","_law_spot","_law_some"]
noncomputable def P8:List Str:=["_law_rows_here","_law_cell_here"]
def SN:SM:=N_ F1
def P9:aQ:=cV 4 2 SN
def SO:aV:=SK.fb "_law_turned" P9
theorem P_:bz J_ P8 (av (top 41))=true:=by decide +kernel
theorem Qa:bC SK td (top 41) J_=some SN:=rfl
noncomputable def Ka:List Str:=["_law_one","_law_other","_law_names_here","_law_name"]
noncomputable def Qb:List Str:=["_law_one","_law_other","_law_names_here"]
def SQ:SM:=Og JX L7 L8
def Qc:aQ:=cV 4 3 SQ
def SR:aV:=SO.fb "_law_alike" Qc
theorem Qd:bz Ka Qb (av (top 43))=true:=by decide +kernel
theorem Qe:bC SO td (top 43) Ka=some SQ:=rfl
noncomputable def Kb:List Str:=["_law_names_here","_law_elders","_law_more","_law_house","_law_name"]
noncomputable def Qf:List Str:=["_law_names_here","_law_elders","_law_more"]
def SS:SM:=Oi O9 Dw CU JR JU
def Qg:aQ:=cV 5 3 SS
def SU:aV:=SR.fb "_law_with_more" Qg
theorem Qh:bz Kb Qf (av (top 44))=true:=by decide +kernel
theorem Qi:bC SR td (top 44) Kb=some SS:=rfl
def SV:aV:={SU with met:=SU.met.filter λz=>z.1 != "add" }
def Qj:aV:=SV.fC "House" "add" CU
noncomputable def Kc:List Str:=["_law_names_here","_law_elders","_law_cell_here","_law_other","_law_house","_law_order","_law_bare","_law_k","_law_name","_law_spot","_law_turns","_law_row"]
noncomputable def Qk:List Str:=["_law_names_here","_law_elders","_law_cell_here","_law_other"]
def SW:SM:=Oq F1 O9 CU P9 L7 JU Dw
def Ql:aQ:=cV 12 4 SW
def SX:aV:=Qj.fb "_law_at_once" Ql
theorem Qm:bz Kc Qk (av (top 42))=true:=by decide +kernel
theorem Qn:bC Qj td (top 42) Kc=some SW:=rfl
noncomputable def Kd:List Str:=["_law_house","_law_names_here","_law_more","_law_cell_here","_law_kinds","_law_spot","_law_longer","_law_other","_law_third","_law_last"]
noncomputable def Qo:List Str:=["_law_house","_law_names_here","_law_more","_law_cell_here"]
def SY:SM:=Ov F1 Dw L9 CU L8 JR JX
def Qp:aQ:=cV 10 4 SY
def Uk:aV:=SX.fb "_law_copies" Qp
theorem Qq:bz Kd Qo (av (top 45))=true:=by decide +kernel
theorem Qr:bC SX td (top 45) Kd=some SY:=rfl
noncomputable def Ke:List Str:=["_law_script","_law_many","_law_names_here","_law_more","_law_elders","_law_lines","_law_first","_law_second","_law_houses","_law_house","_law_other","_law_third"]
noncomputable def F9:List Str:=["_law_script"]
def S7:SM:=F7 F0 PC PX PJ P5 Ql L9 Qg Qc JX Qp JU JR Dw CU
def L_:aQ:=cV 12 1 S7
theorem Qs:bz Ke F9 (av (top 46))=true:=by decide +kernel
theorem Qt:bC Uk td (top 46) Ke=some S7:=rfl
theorem zE(ns:List Int)(K:ns.length<=63):∃ai,L_ [.lst (ns.map .int)] []=.ok (.bl true) ai:=by
 obtain⟨G,c⟩:∃G,gi G F1:=CD;obtain⟨H,i⟩:∃H,iF H F0:=⟨_,zk⟩;have I:FnAt O2:=Iy;have J:Cj O3:=ID I;have p:Ck O4:=IH;have j:Cm O5:=II p;have q:Fc O6:=IJ j;have r:Cn O7:=IK;have s:ND O8:=Cq (IP q j J r);have e:Fi O9:=IX;have a:k6 Dw:=IS;have b:p8 Dx:=IT a;have k:Cp L5:=IU b;have l:vi L6:=IY s;have t:Fg O0:=IQ;have d:wJ CU:=I_ t k a l;have f:CJ JR:=Jw b;have u:FK Pf:=Jt b k;have g:wQ JU:=Ju u l;have m:zl L7:=Jo b;have h:wH JX:=IV b;have n:LS L8:=CK (Jq b);have o:Ja L9:=Jb e.at;have w:CF PC:=Jl c;have x:CG PJ:=Jn c i;have y:Cz PQ:=Jf;have z:CC PX:=Jg y;have A:NV P5:=Jh e d;have B:zm P9:=Jr c;have C:wR Qc:=Jy h m n;have D:FO Qg:=JA e a d f g;have E:FQ Ql:=JF c e d B m g a;have F:CQ Qp:=JI c a o d n f h;exact zC i w z x A E o D C h F g f a d ns
set_option maxHeartbeats 0 in
theorem all_mk{P:Program}{w:World}{K:PySem.W.Frag}{h:Heap}{mg:Str->Option Value}{fa:Addr}(X:K.In h)(G:h.Ns mainGlobals mg)(x2:mg "law"=some (.ref fa))
  (nb:uC K=true)
  {q0:Tok} (z0:PySem.W.nsIn K mainGlobals "LETTERS"=some (some (.str "abcdefghijklmnopqrstuvwxyz" q0)))
  {q1:Tok} (z1:PySem.W.nsIn K mainGlobals "MOST_LETTERS"=some (some (.int 8 q1)))
  {q2:Tok} (z2:PySem.W.nsIn K mainGlobals "MOST_KINDS"=some (some (.int 12 q2)))
  {q3:Tok} (z3:PySem.W.nsIn K mainGlobals "MOST_ELDERS"=some (some (.int 5 q3)))
  {f0:Addr}{y2:FuncData} (a0:dy K "_law_cell" (top 34) f0 y2)
  {f1:Addr}{A2:FuncData} (a1:dy K "_law_mix" (top 35) f1 A2)
  {i:Addr} (B2:PySem.W.nsIn K mainGlobals "House"=some (some (.ref i))) (C2:PySem.W.plainGet K i Str.empty=true) (D2:PySem.W.hasDictIn K i=true) (E2:PySem.W.plainOver K i=true) (F2:PySem.W.findIn K (.ref i) "__setattr__"=some (some (.builtin "object.__setattr__"))) (G2:PySem.W.makesIn K i=true) (H2:PySem.W.keepIn K (.ref i)=true)
  (I2:PySem.W.findIn K (.ref i) "elders"=some none)
  (J2:PySem.W.findIn K (.ref i) "lines"=some none)
  {K2:Addr}{y0:FuncData} (M2:dy K "is_name" (top 20) K2 y0)
  {N2:Addr}{A0:FuncData} (JB:dy K "place_behind" (top 24) N2 A0)
  {P2:Addr}{B0:FuncData} (JC:dy K "free_name" (top 23) P2 B0)
  {Q2:Addr}{D0:FuncData} (JD:dy K "merged" (top 22) Q2 D0)
  {S2:Addr}{G0:FuncData} (JE:dy K "ready_kinds" (top 15) S2 G0)
  {T2:Addr}{I0:FuncData} (W2:dy K "elders_first" (top 14) T2 I0)
  {Z2:Addr}{J0:FuncData} (a3:dy K "loop_of" (top 16) Z2 J0)
  {b3:Addr}{K0:FuncData} (c3:dy K "rows_by" (top 28) b3 K0)
  {e3:Addr}{L0:FuncData} (M0:dy K "lines_of" (top 27) e3 L0)
  {f3:Addr}{N0:FuncData} (H:fK K i "__init__" "House.__init__" (inClass (top 32) 0) f3 N0)
  {P0:Addr}{M:FuncData} (Q0:fK K i "kinds" "House.kinds" (inClass (top 32) 5) P0 M)
  {R0:Addr}{N:FuncData} (S0:fK K i "check_kind" "House.check_kind" (inClass (top 32) 11) R0 N)
  {T0:Addr}{O:FuncData} (W0:fK K i "check_elders" "House.check_elders" (inClass (top 32) 12) T0 O)
  {c1:Addr}{Q:FuncData} (e1:fK K i "settle" "House.settle" (inClass (top 32) 13) c1 Q)
  {t:Addr}{I:Obj}{g1:Nat}
  {p:Addr}{R k:Option Addr}{S:Array (Option Value)}{T l m n j o:Value} (u:PySem.W.findIn K (.ref i) "add"=some (some (.ref p))) (h1:K.lookup p=some ⟨T,R,.func (PySem.W.fnOf "add" "House.add" (ck (inClass (top 32) 1)) (cm (inClass (top 32) 1)) (av (inClass (top 32) 1)) (.ref t) l m n k j o),S⟩) (i1:PySem.W.codeIn K j "House.add"=true) (r:PySem.W.keepIn K (.ref p)=true)
  (y:K.lookup t=some I) (z:I.data=.seq #[.none] g1)
  (U:PySem.W.isFn K (.ref p)=true)
  {j1:Addr}{V:FuncData} (k1:fK K i "drop" "House.drop" (inClass (top 32) 2) j1 V)
  {l1:Addr}{Y:FuncData} (n1:fK K i "may_turn" "House.may_turn" (inClass (top 32) 4) l1 Y)
  {o1:Addr}{Z:FuncData} (p1:fK K i "turn_all" "House.turn_all" (inClass (top 32) 3) o1 Z)
  {r1:Addr}{c0:FuncData} (t1:fK K i "elders_of" "House.elders_of" (inClass (top 32) 6) r1 c0)
  {u1:Addr}{e0:FuncData} (w1:fK K i "line" "House.line" (inClass (top 32) 7) u1 e0)
  {x1:Addr}{g0:FuncData} (J:fK K i "heirs" "House.heirs" (inClass (top 32) 9) x1 g0)
  {y1:Addr}{h0:FuncData} (A1:fK K i "copied" "House.copied" (inClass (top 32) 10) y1 h0)
  {B1:Addr}{i0:FuncData} (C1:dy K "_law_names" (top 36) B1 i0)
  {D1:Addr}{j0:FuncData} (G1:dy K "_law_rows" (top 37) D1 j0)
  {H1:Addr}{k0:FuncData} (I1:dy K "_law_merge" (top 38) H1 k0)
  {J1:Addr}{l0:FuncData} (K1:dy K "_law_clean" (top 39) J1 l0)
  {M1:Addr}{m0:FuncData} (N1:dy K "_law_built" (top 40) M1 m0)
  {P1:Addr}{n0:FuncData} (Q1:dy K "_law_turned" (top 41) P1 n0)
  {R1:Addr}{o0:FuncData} (S1:dy K "_law_alike" (top 43) R1 o0)
  {T1:Addr}{p0:FuncData} (W1:dy K "_law_with_more" (top 44) T1 p0)
  {Z1:Addr}{r0:FuncData} (a2:dy K "_law_at_once" (top 42) Z1 r0)
  {b2:Addr}{s0:FuncData} (c2:dy K "_law_copies" (top 45) b2 s0)
  {A:Addr}{t0 B:Option Addr}{u0:Array (Option Value)}{v0 C D E q F:Value} (e2:PySem.W.nsIn K mainGlobals "law"=some (some (.ref A))) (f2:K.lookup A=some ⟨v0,t0,.func (PySem.W.fnOf "law" "law" (ck (top 46)) (cm (top 46)) (av (top 46)) .none C D E B q F),u0⟩) (g2:PySem.W.codeIn K q "law"=true) (h2:PySem.W.keepIn K (.ref A)=true)
  : ∃fd:FuncData,(∀(s:Shared) (v:Value),BindsTo s fd ⟨[v],[]⟩ [("_law_script",v)])/\∀base:Heap,K.In base->base.Ns mainGlobals mg->cQ P w K mg base nA 39 fa fd F9 (dQ (fN mg) L_):=by
 have e:=x2.symm.trans (PySem.W.mg_of X G e2);cases e;have E0:=a0.fn;have b0:=E0.binds (ps:=RJ) λ_ _ _ _ _ _ a b=>match a,b with|[_,_],_=>rfl
 have E1:=a1.fn;have b1:=E1.binds (ps:=RM) λ_ _ _ _ _ _ a b=>match a,b with|[_,_,_],_=>rfl
 have w0:=M0.fn;have g3:=w0.binds (ps:=RZ) λ_ _ _ _ _ _ a b=>match a,b with|[_],_=>rfl
 have i2:=H.fn;have j2:=i2.binds (ps:=R9) λ_ _ _ _ _ _ a b=>match a,b with|[_],_=>rfl
 have k2:E7 K "add" "House.add" (inClass (top 32) 1) (.ref t) p _:=⟨⟨_,_,_,_,_,_,_,_,_,rfl,h1,i1⟩,r⟩
 have l2:Binds K (PySem.W.fnOf "add" "House.add" (ck (inClass (top 32) 1)) (cm (inClass (top 32) 1)) (av (inClass (top 32) 1)) (.ref t) l m n k j o) iJ [.none]:=λs a hi b=>by
  match a,b with
  |[],h=>simp[iJ]at h
  |[_],h=>simp[iJ]at h
  |[_,_],h=>simp[iJ]at h
  |[_,_,_],_=>exact PySem.W.binds_K hi rfl y z rfl rfl
  |_::_::_::_::_,h=>simp[iJ]at h
 have n2:Binds K (PySem.W.fnOf "add" "House.add" (ck (inClass (top 32) 1)) (cm (inClass (top 32) 1)) (av (inClass (top 32) 1)) (.ref t) l m n k j o) iJ []:=λs a hi b=>by
  match a,b with
  |[],h=>simp[iJ]at h
  |[_],h=>simp[iJ]at h
  |[_,_],h=>simp[iJ]at h
  |[_,_,_],h=>simp[iJ]at h
  |[_,_,_,_],_=>exact PySem.W.binds_K hi rfl y z rfl rfl
  |_::_::_::_::_::_,h=>simp[iJ]at h
 have p2:jZ K (PySem.W.fnOf "add" "House.add" (ck (inClass (top 32) 1)) (cm (inClass (top 32) 1)) (av (inClass (top 32) 1)) (.ref t) l m n k j o) iJ ["at"] gK gK:=ro (by decide) λs a w hi b=>by
  match a,b with
  |[],h=>simp[iJ]at h
  |[_],h=>simp[iJ]at h
  |[_,_],h=>simp[iJ]at h
  |[_,_,_],_=>exact PySem.W.binds_K hi rfl y z rfl rfl
  |_::_::_::_::_,h=>simp[iJ]at h
 have L:=J.fn;have r2:=L.binds (ps:=JZ) λ_ _ _ _ _ _ a b=>match a,b with|[_,_],_=>rfl
 have t2:=sH (st:=(top 46)) f2 g2 h2;refine⟨PySem.W.fnOf "law" "law" (ck (top 46)) (cm (top 46)) (av (top 46)) .none C D E B q F,λs v=>.of_eq rfl,λbase _ _=>?_⟩
 have c:=PySem.W.mg_of X G B2;have g:nF K i:=⟨C2,D2,E2,F2⟩;have V0:bO P w K mg base ({}:aV) 0:=bO.start (yb X G nb);have V1:=V0.nR (x:="MOST_ELDERS") (d:=.int 5) (v:=.int 5) (PySem.W.mg_of X G z3) ⟨_,rfl⟩ rfl;have V2:=V1.nR (x:="MOST_KINDS") (d:=.int 12) (v:=.int 12) (PySem.W.mg_of X G z2) ⟨_,rfl⟩ rfl;have V3:=V2.nR (x:="MOST_LETTERS") (d:=.int 8) (v:=.int 8) (PySem.W.mg_of X G z1) ⟨_,rfl⟩ rfl;have V4:=V3.nR (x:="LETTERS") (d:=.str "abcdefghijklmnopqrstuvwxyz") (v:=.str "abcdefghijklmnopqrstuvwxyz") (PySem.W.mg_of X G z0) ⟨_,rfl⟩ rfl;have V5:=V4.wD (f:="elders") (Cs:=["House"]) (plain1 c g I2);have V6:=V5.wD (f:="lines") (Cs:=["House"]) (plain1 c g J2);have Y0:bO P w K mg base OK 0:=V6;have q0:=fg Y0 (kN E0) Tw Tx;have Y1:bO P w K mg base OL 1:=(Y0.mono (Nat.le_succ 0)).wC (x:="_law_cell") (PySem.W.mg_of X G a0.ns) E0.kp b0 (uV q0) (Nat.le_refl _);have q1:=fg Y1 (kN E1) TC TF;have Y2:bO P w K mg base RO 2:=(Y1.mono (Nat.le_succ 1)).wC (x:="_law_mix") (PySem.W.mg_of X G a1.ns) E1.kp b1 (uV q1) (Nat.le_refl _);have X0:bO P w K mg base U0 2:=Y2;have X1:=X0.hX X G M2 TJ TK λ_ _ _ _ _ _ a b=>match a,b with|[_],_=>rfl
 have X2:=X1.hX X G JB TM TN λ_ _ _ _ _ _ a b=>match a,b with|[_,_],_=>rfl
 have X3:=X2.hX X G JC TR TV λ_ _ _ _ _ _ a b=>match a,b with|[_],_=>rfl
 have X4:=X3.hX X G JD TY TZ λ_ _ _ _ _ _ a b=>match a,b with|[_],_=>rfl
 have X5:=X4.hX X G JE T5 T6 λ_ _ _ _ _ _ a b=>match a,b with|[_,_],_=>rfl
 have X6:=X5.hX X G W2 T8 T9 λ_ _ _ _ _ _ a b=>match a,b with|[_],_=>rfl
 have X7:=X6.hX X G a3 Ua Ub λ_ _ _ _ _ _ a b=>match a,b with|[_],_=>rfl
 have X8:=X7.hX X G c3 Ud Ue λ_ _ _ _ _ _ a b=>match a,b with|[_,_],_=>rfl
 have r8:=uQ (fg X8 (kN w0) Ug Uh);have X9:bO P w K mg base U9 11:=X8.fb (PySem.W.mg_of X G M0.ns) w0.kp g3 r8;have r9:=fg X9 (kN i2) Ui Uj;have h3:bO P w K mg base R_ 12:=X9.fC c g H.me j2 r9;have i3:bO P w K mg base OM 13:=h3.BP c ⟨G2,H.me.at_,H.me.fn,H2⟩ j2 r9 (by decide)
 have j3:=i3.nT c g Q0 OO OP λ_ _ _ _ _ _ a b=>match a,b with|[_],_=>rfl
 have k3:=j3.nT c g S0 OR OS λ_ _ _ _ _ _ a b=>match a,b with|[_,_],_=>rfl
 have l3:=k3.nT c g W0 OU OV λ_ _ _ _ _ _ a b=>match a,b with|[_,_],_=>rfl
 have u2:=l3.nT c g e1 OX OY λ_ _ _ _ _ _ a b=>match a,b with|[_,_],_=>rfl
 have x0:=fg u2 k2 OZ O_;have m3:bO P w K mg base Sj 18:=u2.HF (Dd:=[.non]) c g ⟨u,U,r⟩ l2 (.cons (show RelV .non Value.none from rfl) .nil) (λ_ _ _=>.one (by simp only[aq])) x0
 have n3:bO P w K mg base Pa 19:=(m3.mono (Nat.le_succ _)).HE c g ⟨u,U,r⟩ p2 (x0.mono (by decide))
 have o3:=n3.nT c g k1 Pc Pd λ_ _ _ _ _ _ a b=>match a,b with|[_,_],_=>rfl
 have p3:=o3.nT c g n1 Pg Ph λ_ _ _ _ _ _ a b=>match a,b with|[_,_],_=>rfl
 have r3:=p3.nT c g p1 Pk Pl λ_ _ _ _ _ _ a b=>match a,b with|[_,_],_=>rfl
 have s3:=r3.nT c g t1 Pn Po λ_ _ _ _ _ _ a b=>match a,b with|[_,_],_=>rfl
 have w2:=s3.nT c g w1 Pq Pr λ_ _ _ _ _ _ a b=>match a,b with|[_,_],_=>rfl
 have t3:=uQ (fg w2 (kN L) Pu Pw);have u3:bO P w K mg base Pt 25:=w2.fC c g J.me r2 t3;have v3:=u3.nT c g A1 Py Pz λ_ _ _ _ _ _ a b=>match a,b with|[_],_=>rfl
 have w3:=v3.hX X G C1 PD PF λ_ _ _ _ _ _ a b=>match a,b with|[_,_],_=>rfl
 have x3:=w3.hX X G G1 PL PM λ_ _ _ _ _ _ a b=>match a,b with|[_,_,_,_],_=>rfl
 have y3:=x3.hX X G I1 PR PU λ_ _ _ _ _ _ a b=>match a,b with|[_],_=>rfl
 have A3:=y3.hX X G K1 PY PZ λ_ _ _ _ _ _ a b=>match a,b with|[_,_],_=>rfl
 have B3:=A3.hX X G N1 P6 P7 λ_ _ _ _ _ _ a b=>match a,b with|[_],_=>rfl
 have C3:=B3.hX X G Q1 P_ Qa λ_ _ _ _ _ _ a b=>match a,b with|[_,_],_=>rfl
 have D3:=C3.hX X G S1 Qd Qe λ_ _ _ _ _ _ a b=>match a,b with|[_,_,_],_=>rfl
 have E3:=D3.hX X G W1 Qh Qi λ_ _ _ _ _ _ a b=>match a,b with|[_,_,_],_=>rfl
 have F3:bO P w K mg base SV 35:=(E3.mono (Nat.le_succ _)).HD _;have G3:bO P w K mg base Qj 36:=F3.fC c g ⟨u,U,r⟩ n2 (x0.mono (by decide))
 have H3:=G3.hX X G a2 Qm Qn λ_ _ _ _ _ _ a b=>match a,b with|[_,_,_,_],_=>rfl
 have I3:=H3.hX X G c2 Qq Qr λ_ _ _ _ _ _ a b=>match a,b with|[_,_,_,_],_=>rfl
 have J3:=fg I3 (kN t2) Qs Qt;exact J3
theorem walk{l:PySem.W.OpenLaw}{q:Program}{g:List Str}{p:(Str->Option Value)->Heap->Prop}{o:World->Heap->Prop}{d:DefRec}{K:Params->PySem.W.Frag}(r:l.most=some 63)(m:d.params.defaults=[])
  (t:∀(w:World) (h:Heap),o w h->(K w.params).In h) (y:∀A,qV (K A)=true)
  (F:∀(w:World) (mg:Str->Option Value) (i:Addr) (h:Heap),(K w.params).In h->h.Ns mainGlobals mg->mg d.name=some (.ref i) ->
   ∃j:FuncData,(∀(s:Shared) (u:Value),BindsTo s j ⟨[u],[]⟩ [("_law_script",u)])/\∀base:Heap,(K w.params).In base->base.Ns mainGlobals mg->cQ l.prog w (K w.params) mg base nA 39 i j F9 (dQ (fN mg) L_)) :
  PySem.W.WalkO q g p o l.row.toRowW d [] (λf vs=>PySem.call f vs):=
 L2.Ab (n:=63) (k:=39) (x:="_law_script") (CX:=λ_=>nA) (sp:=λw=>HH L_) r (by decide) m ⟨rfl,by decide,by decide⟩ t (λw mg i h a b c=>let ⟨j,B,C⟩:=F w mg i h a b c;⟨j,B,λbase d e=>(C base d e).imp λvs H Q E z=>z (fN mg)⟩) (λw H a D G _ I J=>BO (Hk (y w.params) I) (zE D G).choose_spec) λ_ _ _ _ _ z=>z
end F8
def PySem.W.Fast.tw9934060007919358758:PySem.Program:=PySem.Challenge.pw_taglook_k24_whole_history
theorem PySem.W.Fast.te9934060007919358758:PySem.Challenge.pw_taglook_k24_whole_history=PySem.W.Fast.tw9934060007919358758:=rfl
namespace PySem.W.Fast
def tw5933731761883869437:=0
def tw16191861793738972573:=0
def tw12769804797281678786:=0
def tw8621047764795470063:=0
def tw12116827142650942964:=0
def tw16031519079643056419:=0
def tw3841611669706619959:=0
def tw4788617199336304166:=0
def tw10782070984996713063:=0
def tw13125003067637635134:=0
def tw13352588136547306500:=0
def tw9966270883886741518:=0
def tw14713673397250971746:=0
def tw14086743384044521650:=0
def tw8234241797965414668:=0
def tw1999113595598825776:=0
def tw17630095142527525894:=0
def tw2672120925712016530:=0
def tw2422073699367989144:=0
def tw11816522040304857445:=0
def tw17807474979792640676:=0
def tw5605094670974269074:=0
def tw11501895234832877429:=0
def tw9102495484180685391:=0
def tw10252234567452728632:=0
def tw900910387055882908:=0
def tw17502625911083020097:=0
def tw259879660737451881:=0
def tw11276001433593803859:=0
def tw13048725437870410389:=0
def tw8396627695913712162:=0
def tw18385464555627911966:=0
def tw11424888039335841786:=0
def tw8398469154902277645:=0
def tw2084249829128691766:=0
def tw12624052037881373614:=0
def tw6303349572565418443:=0
def tw1967894135414297157:=0
def tw7664364460085945788:=0
def tw2638029373245615416:=0
def tw4853500932365434931:=0
def tw6788686310824075681:=0
def tw10540681951239193004:=0
def tw7412426342605011968:=0
def tw9009656430877799879:=0
def tw833433107073414246:=0
def tw9327267467777078652:=0
def tw720174008070220638:=0
def tw14939655135354829815:=0
def tw5697492449195560976:=0
def tw8868630433550231665:=0
def tw16130332283212057800:=0
def tw1500994897378927014:=0
def tw731492252267335245:=0
def tw17000697618748942901:=0
def tw13369508455729639917:=0
def tw16104863966397057319:=0
def tw4439063495083918941:=0
def tw5365104730024391293:=0
def tw14426585450553582135:=0
def tw11634018054536043242:=0
def tw12126838688781271075:=0
def tw3417279546920433196:=0
def tw7095494299254618672:=0
def tw4569235318456207796:=0
def tw3436925760525104779:=0
def tw11654163523918695765:=0
def tw9934049699390180858:=0
def tw5376312285200028006:=0
def tw5530649562846917522:=0
def tw5221248606544021063:=0
def tw3719185732730845485:=0
def tw4160744312861700046:=0
def tw2941065219669748126:=0
def tw7094677675341637706:=0
def tw18250798543632169304:=0
def tw14880103844855263292:=0
def tw4624689926419729168:=0
def tw6303207799824924130:=0
def tw2356121786483037208:=0
def tw7085797642604947687:=0
def tw9975416967722940860:=0
def tw7509543301831228509:=0
def tw5165856126810039666:=0
def tw13303950022316542795:=0
def tw5314819898891245319:=0
def tw1574044457515091837:=0
def tw1613868020129406070:=0
def tw17813867780476835479:=0
def tw5624010316084274532:=0
def tw15751200905132595980:=0
def tw8123714876161295371:=0
end PySem.W.Fast
open PySem PySem.W PyProof.Rows
set_option maxRecDepth 100000 in
set_option maxHeartbeats 0 in
theorem PySem.Challenge.cw_taglook_k24_whole_history_holds : PySem.Challenge.rw_taglook_k24_whole_history.Holds := by
 w_on;o_law;k_head;(case hw=>w_witness2)
 k_fill
 refine F8.walk (l:=PySem.Challenge.rw_taglook_k24_whole_history) rfl rfl (λw h Y=>PySem.W.kIn_of Y) ?hK ?F
 case hK=>intro pm;exact(Eq.refl true)
 case F=>
  intro w mg fa h KX G hmg;refine' F8.all_mk KX G hmg ?nb ?z0 ?z1 ?z2 ?z3 ?a0 ?a1 ?Ul ?Um ?hd0 ?Uo ?Up ?Uq ?Ur ?Us ?Ut ?Uu ?JB ?JC ?JD ?JE ?Uv ?Uw ?Ux ?Uy ?Uz ?Qu ?Qv ?Qw ?Qx ?Qy ?Qz ?QA ?QB ?QC ?QD ?UA ?QE ?QF ?QG ?QH ?QI ?QJ ?QK ?QL ?QM ?QN ?QO ?QP ?QQ ?QR ?QS ?QT ?QU ?QV ?QW ?QX ?QY
  (case nb=>exact(Eq.refl true))
  (case z0 |z1 |z2 |z3=>k_is)
  (case a0 |a1=>refine' Mir.nr ?a ?l ?c ?k;(case a=>k_is);(case l=>k_is);(case c=>k_is);(case k=>k_is))
  (case Ul |Um |hd0 |Uo |Up |Uq |Ur |Us |Ut=>k_is)
  (case Uu |JB |JC |JD |JE |Uv |Uw |Ux |Uy=>refine' Mir.nr ?a ?l ?c ?k;(case a=>k_is);(case l=>k_is);(case c=>k_is);(case k=>k_is))
  (case Qy |Qz |QA |QB |QC=>k_is)
  (case Uz |Qu |Qv |Qw |Qx |QE |QF |QG |QH |QI |QJ |QK=>refine' Mir.zD ?a ?l ?c ?k ?i;(case a=>k_is);(case l=>k_is);(case c=>k_is);(case k=>k_is);(case i=>k_is))
  (case QD=>rfl)
  (case UA=>k_is)
  (case QL |QM |QN |QO |QP |QQ |QR |QS |QT |QU=>refine' Mir.nr ?a ?l ?c ?k;(case a=>k_is);(case l=>k_is);(case c=>k_is);(case k=>k_is))
  (case QV |QW |QX |QY=>k_is)
