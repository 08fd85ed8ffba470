import PyProof.Rows.All
import Wide.All
import OpenK.AllK
import Wide.FinOn
import Lean
import PyProof.EqAt
import PyProof.EqKinds
import PyProof.TupleCall
import PyProof.EnumFor
import PyProof.EnumMake
import PyProof.EnumStmt
import PyProof.Rows.EnumRows
import PyProof.RulesTry
import PyProof.Rows.StrWeight2
import PyProof.AutoListH
import PyProof.Draws
import PyProof.Rows.SortStr
import PyProof.Rows.SortShell
import PyProof.Rows.SortWalk
import PyProof.Rows.StrMeet
import KE.KEqDict
import PyProof.DictIter
import PyProof.DictWalks
import KE.KDictOf
import PyProof.AttrMissSeq
import PyProof.ListRange
import PyProof.DictItems
import PyProof.ListCopy
import PyProof.Rows.FactsT1
import PyProof.Rows.FactsT2
import PyProof.Rows.SetFrom
import PyProof.SetRoads
import PyProof.FitsReplace
import PySem.Challenge.RW_taglook_k21_lines_keep_rows
set_option Elab.async false
set_option bootstrap.genMatcherCode false
set_option genSizeOfSpec false
set_option linter.all false
set_option maxRecDepth 100000
set_option maxHeartbeats 800000
noncomputable section
namespace L2
open PySem PySem.Spec PyProof.Rows
abbrev Key:=Sum Int Str
noncomputable def ke:Key->Value->Bool
 |.inl k,v=>Value.isInt k v
 |.inr x,v=>Value.isStrOf x v
noncomputable def KY(w:World):Key->Int
 |.inl k=>hashInt k
 |.inr x=>hashStr w x
theorem cw:∀{k:Key}{v:Value},ke k v=true->(∃i t,k=Sum.inl i/\v=Value.int i t)\/(∃x t,k=Sum.inr x/\v=Value.str x t)
 |.inl i,v,h=>by
  obtain⟨t,e⟩:=Value.isInt_shape (k:=i) (v:=v) h;exact .inl ⟨i,t,rfl,e⟩
 |.inr x,v,h=>by
  obtain⟨t,e⟩:=Value.isStrOf_shape (x:=x) (v:=v) h;exact .inr ⟨x,t,rfl,e⟩
theorem tZ(i:Int)(t:Tok):ke (.inl i) (.int i t)=true:=by simp[ke,Value.isInt]
theorem t8(x:Str)(t:Tok):ke (.inr x) (.str x t)=true:=by simp[ke,Value.isStrOf]
theorem BY(a b:Int):decide ((Sum.inl a:Key)=Sum.inl b)=(a==b):=by
 by_cases e:a=b
 .subst e;simp
 .have h:¬ (Sum.inl a:Key)=Sum.inl b:=λq=>e (Sum.inl.inj q)
  rw[decide_eq_false h];exact(beq_eq_false_iff_ne.mpr e).symm
theorem BZ(a b:Str):decide ((Sum.inr a:Key)=Sum.inr b)=decide (a=b):=by
 by_cases e:a=b
 .subst e;simp
 .have h:¬ (Sum.inr a:Key)=Sum.inr b:=λq=>e (Sum.inr.inj q)
  rw[decide_eq_false h,decide_eq_false e]
theorem B8(a:Int)(b:Str):decide ((Sum.inl a:Key)=Sum.inr b)=false:=decide_eq_false (λq=>nomatch q)
theorem B9(a:Str)(b:Int):decide ((Sum.inr a:Key)=Sum.inl b)=false:=decide_eq_false (λq=>nomatch q)
def aW(prog:Program)(w:World):PySem.KeyKind prog w Key where
 is:=ke
 hash:=KY w
 inj:=λv a b g f=>by
  rcases cw g with ⟨i,t,rfl,rfl⟩|⟨x,t,rfl,rfl⟩
  .rcases cw f with ⟨j,u,rfl,e⟩|⟨y,u,rfl,e⟩
   .injection e with c _;rw[c]
   .exact nomatch e
  .rcases cw f with ⟨j,u,rfl,e⟩|⟨y,u,rfl,e⟩
   .exact nomatch e
   .injection e with c _;rw[c]
 byValue:=λk v h=>by
  rcases cw h with ⟨i,t,rfl,rfl⟩|⟨x,t,rfl,rfl⟩<;>rfl
 pyHash:=λd h=>by
  rcases cw d with ⟨i,t,rfl,rfl⟩|⟨x,t,rfl,rfl⟩
  .exact wpAny_pyHash_int h
  .exact wpAny_pyHash_str h
 eqBool:=λl d h=>by
  rcases cw l with ⟨i,t,rfl,rfl⟩|⟨x,t,rfl,rfl⟩
  .rcases cw d with ⟨j,u,rfl,rfl⟩|⟨y,u,rfl,rfl⟩
   .rw[BY]at h;exact wpAny_eqBool_int h
   .rw[B8]at h;exact SeqAt.EqAt.int_str i t y u _ _ _ _ h
  .rcases cw d with ⟨j,u,rfl,rfl⟩|⟨y,u,rfl,rfl⟩
   .rw[B9]at h;exact SeqAt.EqAt.str_int x t j u _ _ _ _ h
   .rw[BZ]at h;exact wpAny_eqBool_str h
 «strs» := λk x t v h=>by
  rcases cw h with ⟨i,u,rfl,e⟩|⟨y,u,rfl,e⟩
  .exact nomatch e
  .injection e with c _
   subst c;cases v<;>rfl
theorem oB(prog:Program)(w:World)(i:Int)(t:Tok):(aW prog w).is (.inl i) (.int i t)=true:=tZ i t
theorem gh(prog:Program)(w:World)(x:Str)(t:Tok):(aW prog w).is (.inr x) (.str x t)=true:=t8 x t
inductive V where
 |non|bl (b:Bool)|int (i:Int)|str (x:Str)|EV (b:Array UInt8)|flt (b:UInt64)|ref (a:Addr)|ty (n:String)
 deriving DecidableEq
def RelV:V->Value->Prop
 |.non,u=>u=Value.none
 |.bl b,u=>u=Value.bool b
 |.int i,u=>∃t,u=Value.int i t
 |.str x,u=>∃t,u=Value.str x t
 |.EV b,u=>∃t,u=Value.bytes b t
 |.flt b,u=>∃t,u=Value.float b t
 |.ref a,u=>u=Value.ref a
 |.ty n,u=>u=Value.type n
abbrev Vals:List V->List Value->Prop:=Paired RelV
theorem Vals.length{xs:List V}{us:List Value}(r:Vals xs us):xs.length=us.length:=Paired.length r
theorem Vals.get:∀{xs:List V}{us:List Value}{i:Nat}{x:V},Vals xs us->xs[i]?=some x->∃u,us[i]?=some u/\RelV x u
 |_,_,_,_,.nil,e=>by simp at e
 |_,_,0,_,.cons r _,e=>by simp at e;subst e;exact⟨_,rfl,r⟩
 |_,_,i+1,x,.cons _ t,e=>by
  obtain⟨u,h1,h2⟩:=Vals.get (i:=i) (x:=x) t (by simpa using e)
  exact⟨u,by simpa using h1,h2⟩
theorem Vals.set{x:V}{u:Value}(r:RelV x u):∀{xs:List V}{us:List Value} (i:Nat),Vals xs us->Vals (xs.set i x) (us.set i u)
 |_,_,_,.nil=>.nil
 |_,_,0,.cons _ t=>.cons r t
 |_,_,i+1,.cons q t=>.cons q (Vals.set r i t)
theorem Vals.append:∀{xs ys:List V}{us a:List Value},Vals xs us->Vals ys a->Vals (xs++ys) (us++a)
 |_,_,_,_,.nil,s=>s
 |_,_,_,_,.cons r t,s=>.cons r (Vals.append t s)
theorem Vals.take:∀{xs:List V}{us:List Value} (n:Nat),Vals xs us->Vals (xs.take n) (us.take n)
 |_,_,0,_=>.nil
 |_,_,_+1,.nil=>.nil
 |_,_,n+1,.cons r t=>.cons r (Vals.take n t)
theorem Vals.drop:∀{xs:List V}{us:List Value} (n:Nat),Vals xs us->Vals (xs.drop n) (us.drop n)
 |_,_,0,r=>r
 |_,_,_+1,.nil=>.nil
 |_,_,n+1,.cons _ t=>Vals.drop n t
def f9:Option V->Option Value->Prop
 |some v,some u=>RelV v u
 |none,none=>True
 |_,_=>False
def KV{κ:Type}:List (κ×V)->List (κ×Value)->Prop:=Paired λ(p:κ×V) (q:κ×Value)=>p.1=q.1/\RelV p.2 q.2
noncomputable def kV:Key->V
 |.inl i=>.int i
 |.inr x=>.str x
inductive HO where
 |lst (xs:List V)
 |tup (xs:List V)
 |dK (kvs:List (Key×V))|dT (kvs:List (List Key×V))
 |set (S:Int->Bool) (n:Nat)
 |ins (C dx:Addr) (fs:List (Str×V))
 |own (x:Addr)
 |xd (fs:List (Str×V))
 |met (f x:Addr)
 |KZ (lo hi:Int)
 |dI (o:Obj) (u:HO)
 |B_ (ps:Array Value)
 |ext (φ:Heap->Prop)
abbrev Hp:=Addr->Option HO
noncomputable def upd(H:Hp)(a:Addr)(o:HO):Hp:=λb=>if b=a then some o else H b
theorem aU{H:Hp}{a:Addr}{o:HO}:upd H a o a=some o:=by unfold upd;rw[if_pos rfl]
theorem aH{H:Hp}{a b:Addr}{o:HO}(h:b≠a):upd H a o b=H b:=by unfold upd;rw[if_neg h]
theorem Fi{H:Hp}{a b:Addr}{o u:HO}(h:H a=some o)(h':H b=some u)(d:o≠u):a≠b:=by
 intro e;subst e;rw[h]at h';exact d (Option.some.inj h')
theorem bg{H:Hp}{a b:Addr}{o:HO}(h:H a=some o)(h':H b=none):a≠b:=by
 intro e;subst e;rw[h]at h';cases h'
section
variable(P:Program)(w:World)
def cf(H:Hp)(h:Heap)(a:Addr):HO->Prop
 |.lst xs=>xs.length<=sizeLine/\∃(b:List Value) (n:Nat),Vals xs b/\h.get? a=some {cls:=.type "list",data:=.seq b.toArray n}
 |.tup xs=>xs.length<=sizeLine/\∃b:List Value,Vals xs b/\IsTup h a b.toArray
 |.dK kvs=>kvs.length<=sizeLine/\(a==sysModules)=false/\∃vs,KV kvs vs/\h.DictOf (aW P w) a vs
 |.dT kvs=>kvs.length<=sizeLine/\(a==sysModules)=false/\∃xs:List (List Key×Addr×Value),
   Paired (λ(p:List Key×V) (q:List Key×Addr×Value)=>p.1=q.1/\H q.2.1=some (.tup (p.1.map kV))/\RelV p.2 q.2.2) kvs xs /\
   ∃o es ep,h.get? a=some o/\o.ExactDict/\o.data=.dict es ep/\es.toList=xs.map (entryOfKey (tupleKind (aW P w)))/\(xs.map (·.1)).Nodup
 |.set S n=>h.SetOf (intKind P w) a S n
 |.ins C dx fs=>H dx=some (.own a)/\fs.length<=1000/\dx≠a/\h.get? a=some (PySem.W.instObj C dx) /\
   ∃c,h.Ns1 dx c/\(∀f,f9 (fs.lookup f) (c f))/\PySem.Within c (fs.map (·.1))
 |.own _=>∃o,h.get? a=some o
 |.xd fs=>∃c,h.Ns1 a c/\∀f,f9 (fs.lookup f) (c f)
 |.KZ lo hi=>∃t u v,h.get? a=some {cls:=.type "range",data:=.fields #[.int lo t,.int hi u,.int 1 v]}
 |.dI o u=>h.get? a=some o/\cf H h a u
 |.B_ ps=>h.get? a=some {cls:=.none,data:=.fields ps}
 |.met f x=>h.get? a=some (PySem.W.methodObj (.ref f) (.ref x))
 |.ext d=>d h/\(∃o,h.get? a=some o)/\∀e g:Heap,d e->(∀o,e.get? a=some o->g.get? a=some o)->d g
def hX(H:Hp)(h:Heap):Prop:=∀a o,H a=some o->cf P w H h a o
end
section
variable{P:Program}{w:World}{H H':Hp}{h h':Heap}{a:Addr}{o:HO}
theorem cf.lt(x:cf P w H h a o):a<h.objs.size:=by
 cases o with
 |lst c=>obtain⟨_,_,_,_,e⟩:=x;exact Heap.lt_size e
 |tup c=>obtain⟨_,_,_,p⟩:=x;exact p.lt
 |dK b=>obtain⟨_,_,_,_,o,_,_,e,_⟩:=x;exact Heap.lt_size e
 |dT b=>obtain⟨_,_,_,_,o,_,_,e,_⟩:=x;exact Heap.lt_size e
 |set S n=>obtain⟨o,_,_,_,e,_⟩:=x;exact Heap.lt_size e
 |ins C g d=>obtain⟨_,_,_,e,_⟩:=x;exact Heap.lt_size e
 |own y=>obtain⟨_,e⟩:=x;exact Heap.lt_size e
 |xd d=>obtain⟨_,⟨_,_,_,e,_⟩,_⟩:=x;exact Heap.lt_size e
 |KZ i j=>obtain⟨_,_,_,e⟩:=x;exact Heap.lt_size e
 |dI k u=>obtain⟨e,_⟩:=x;exact Heap.lt_size e
 |B_ l=>exact Heap.lt_size (show h.get? a=some _ from x)
 |met f y=>exact Heap.lt_size (show h.get? a=some _ from x)
 |ext m=>obtain⟨_,⟨_,e⟩,_⟩:=x;exact Heap.lt_size e
theorem Paired.Cb{c d:Type}{F G:c->d->Prop}:∀{l₁:List c}{l₂:List d},Paired F l₁ l₂->(∀a b,F a b->G a b)->Paired G l₁ l₂
 |_,_,.nil,_=>.nil
 |_,_,.cons r t,f=>.cons (f _ _ r) (Paired.Cb t f)
theorem cf.stay(x:cf P w H h a o)(k:∀b u,(b=a\/H b=some (.own a))->h.get? b=some u->h'.get? b=some u)
  (E:∀b,H b=some (.own a)->H' b=some (.own a)) (F:∀b xs,H b=some (.tup xs)->H' b=some (.tup xs)):cf P w H' h' a o:=by
 induction o with
 |lst xs=>obtain⟨z,l,n,r,e⟩:=x;exact⟨z,l,n,r,k _ _ (.inl rfl) e⟩
 |tup xs=>obtain⟨z,l,r,g,e,c⟩:=x;exact⟨z,l,r,g,k _ _ (.inl rfl) e,c⟩
 |dK m=>obtain⟨z,y,G,r,g,i,j,e,c⟩:=x;exact⟨z,y,G,r,g,i,j,k _ _ (.inl rfl) e,c⟩
 |dT m=>
  obtain⟨z,y,xs,r,g,i,j,e,c⟩:=x;exact⟨z,y,xs,Paired.Cb r λp q z=>⟨z.1,F _ _ z.2.1,z.2.2⟩,g,i,j,k _ _ (.inl rfl) e,c⟩
 |set S n=>obtain⟨g,i,j,t,e,c⟩:=x;exact⟨g,i,j,t,k _ _ (.inl rfl) e,c⟩
 |ins C L I=>
  obtain⟨d,z,ne,e,s,⟨A,i,j,J,c⟩,r⟩:=x;exact⟨E _ d,z,ne,k _ _ (.inl rfl) e,s,⟨A,i,j,k _ _ (.inr d) J,c⟩,r⟩
 |own y=>obtain⟨g,e⟩:=x;exact⟨g,k _ _ (.inl rfl) e⟩
 |xd I=>obtain⟨s,⟨A,i,j,e,c⟩,r⟩:=x;exact⟨s,⟨A,i,j,k _ _ (.inl rfl) e,c⟩,r⟩
 |KZ M N=>obtain⟨t,u,v,e⟩:=x;exact⟨t,u,v,k _ _ (.inl rfl) e⟩
 |dI g u K=>obtain⟨e,q⟩:=x;exact⟨k _ _ (.inl rfl) e,K q⟩
 |B_ B=>
  have e:h.get? a=some {cls:=.none,data:=.fields B}:=x
  show h'.get? a=some {cls:=.none,data:=.fields B}
  exact k a _ (.inl rfl) e
 |met f y=>
  have e:h.get? a=some (PySem.W.methodObj (.ref f) (.ref y)):=x
  show h'.get? a=some (PySem.W.methodObj (.ref f) (.ref y))
  exact k a _ (.inl rfl) e
 |ext O=>obtain⟨p,⟨o,e⟩,D⟩:=x;exact⟨D _ _ p λo q=>k _ _ (.inl rfl) q,⟨o,k _ _ (.inl rfl) e⟩,D⟩
theorem hX.lt(x:hX P w H h)(e:H a=some o):a<h.objs.size:=(x a o e).lt
theorem hX.fresh(x:hX P w H h)(e:h.objs.size<=a):H a=none:=by
 cases q:H a with
 |none=>rfl
 |some u=>exact absurd (Nat.lt_of_lt_of_le (x.lt q) e) (Nat.lt_irrefl _)
theorem hX.kept(x:hX P w H h)(k:∀b u,h.get? b=some u->h'.get? b=some u):hX P w H h':=λa o e=>
 (x a o e).stay (λb u _ q=>k b u q) (λ_ q=>q) λ_ _ q=>q
theorem hX.laid(x:hX P w H h)(k:∀b u,h.get? b=some u->h'.get? b=some u)(i:h.objs.size<=a)(d:cf P w (upd H a o) h' a o):hX P w (upd H a o) h':=λb u e=>by
 have f:=x.fresh i
 by_cases g:b=a
 .subst g;rw[aU]at e;cases e;exact d
 .rw[aH g]at e
  exact(x b u e).stay (λc v _ q=>k c v q) (λc q=>by rw[aH (bg q f)];exact q) λc j q=>by rw[aH (bg q f)];exact q
end
def Rd(H:Hp)(a:Addr)(u:HO):Prop:=H a=some u\/∃o,H a=some (.dI o u)
theorem Rd.ok{P:Program}{w:World}{H:Hp}{h:Heap}{a:Addr}{u:HO}(r:Rd H a u)(x:hX P w H h):cf P w H h a u:=by
 rcases r with r|⟨o,r⟩
 .exact x a u r
 .obtain⟨_,q⟩:=x a _ r
  exact q
def Fj:Option HO->Prop
 |some (.lst _)=>True
 |some (.dK _)=>True
 |some (.dT _)=>True
 |some (.set _ _)=>True
 |some (.ins _ _ _)=>True
 |some (.ext _)=>True
 |_=>False
section
variable{P:Program}{w:World}{H:Hp}{h h':Heap}{x e:Addr}{o':HO}
theorem hX.write(ok:hX P w H h)(g:Fj (H x))(n:e=x\/H e=some (.own x))(k:∀b u,b≠e->h.get? b=some u->h'.get? b=some u)(l:∃u,h'.get? e=some u)
  (m:cf P w (upd H x o') h' x o'):hX P w (upd H x o') h':=λb u q=>by
 have d:∀c y,H c=some (.own y)->c≠x:=λc y r z=>by subst z;rw[r]at g;exact g
 have f:∀c i,H c=some (.tup i)->c≠x:=λc i r z=>by subst z;rw[r]at g;exact g
 by_cases j:b=x
 .subst j;rw[aU]at q;cases q;exact m
 .rw[aH j]at q
  by_cases a:b=e
  .have o:H b=some (.own x):=by
    rcases n with z|z
    .exact absurd (a.trans z) j
    .rw[a];exact z
   rw[q]at o;cases o
   obtain⟨v,p⟩:=l;exact⟨v,by rw[a];exact p⟩
  .refine(ok b u q).stay (λc v hc r=>k c v ?_ r) (λc r=>by rw[aH (d c b r)];exact r) λc i r=>by rw[aH (f c i r)];exact r
   rcases hc with rfl|hc
   .exact a
   .rintro rfl
    rcases n with z|z
    .exact d c b hc z
    .rw[hc]at z;cases z;exact j rfl
end
structure Un(fs ex:List Addr)(H H':Hp)(h h':Heap):Prop where
 keep:∀b o,h.get? b=some o->H b=none->b∉fs->b∉ex->h'.get? b=some o
 slot:∀b o,h.get? b=some o->H b=none->b∈fs->b∉ex->∃sl,h'.get? b=some {o with slots:=sl}
 free:∀b o,h.get? b=some o->H b=none->b∉ex->H' b=none
 there:∀b o,h.get? b=some o->b∉ex->∃o',h'.get? b=some o'
 tups:∀b xs,H b=some (.tup xs)->H' b=some (.tup xs)
 ij:∀b o u,H b=some (.dI o u)->H' b=some (.dI o u)
 kf:∀b ps,H b=some (.B_ ps)->∃more,H' b=some (.B_ (ps++more))
section
variable{fs fs' ex ex':List Addr}{H H1 H2:Hp}{h h1 h2 h':Heap}{a x e:Addr}{o:HO}
theorem Un.any(u:Un fs ex H H1 h h1){b:Addr}{ob:Obj}(q:h.get? b=some ob)(n:H b=none)(a:b∉ex):∃d,h1.get? b=some {ob with slots:=d}:=by
 by_cases c:b∈fs
 .exact u.slot b ob q n c a
 .exact⟨ob.slots,u.keep b ob q n c a⟩
theorem Un.trans(a:Un fs ex H H1 h h1)(b:Un fs ex H1 H2 h1 h2):Un fs ex H H2 h h2 where
 keep:=λc d q n g e=>b.keep c d (a.keep c d q n g e) (a.free c d q n e) g e
 slot:=λc d q n g e=>by
  obtain⟨o,f⟩:=a.slot c d q n g e;obtain⟨j,k⟩:=b.slot c _ f (a.free c d q n e) g e;exact⟨j,k⟩
 free:=λc d q n e=>by
  obtain⟨l,f⟩:=a.there c d q e;exact b.free c l f (a.free c d q n e) e
 there:=λc d q e=>by
  obtain⟨l,f⟩:=a.there c d q e;exact b.there c l f e
 tups:=λc i q=>b.tups c i (a.tups c i q)
 ij:=λc d i q=>b.ij c d i (a.ij c d i q)
 kf:=λc m q=>by
  obtain⟨m1,f⟩:=a.kf c m q;obtain⟨m2,k⟩:=b.kf c _ f;exact⟨m1++m2,by rw[k,Array.append_assoc]⟩
theorem Un.kept(k:∀b u,h.get? b=some u->h'.get? b=some u):Un fs ex H H h h':=
 ⟨λb a q _ _ _=>k b a q,λb a q _ _ _=>⟨a.slots,k b a q⟩,λ_ _ _ n _=>n,λb a q _=>⟨a,k b a q⟩,λ_ _ q=>q,λ_ _ _ q=>q,λ_ c q=>⟨#[],by rw[q];simp⟩⟩
theorem Un.refl:Un fs ex H H h h:=Un.kept λ_ _ q=>q
theorem Un.laid(k:∀b u,h.get? b=some u->h'.get? b=some u)(d:h.objs.size<=a)(c:H a=none):Un fs ex H (upd H a o) h h' where
 keep:=λb u q _ _ _=>k b u q
 slot:=λb u q _ _ _=>⟨u.slots,k b u q⟩
 free:=λb u q n _=>by rw[aH (Nat.ne_of_lt (Nat.lt_of_lt_of_le (Heap.lt_size q) d))];exact n
 there:=λb u q _=>⟨u,k b u q⟩
 tups:=λb e q=>by rw[aH (bg q c)];exact q
 ij:=λb u e q=>by rw[aH (bg q c)];exact q
 kf:=λb f q=>⟨#[],by rw[aH (bg q c),q];simp⟩
theorem Un.write(c:Fj (H x))(j:e=x\/H e=some (.own x))(k:∀b u,b≠e->h.get? b=some u->h'.get? b=some u)(d:∃u,h'.get? e=some u):Un fs ex H (upd H x o) h h':=by
 have g:∀b,H b=none->b≠x:=λb n z=>by subst z;rw[n]at c;exact c
 have i:∀b,H b=none->b≠e:=λb n z=>by
  subst z;rcases j with r|r
  .exact g b n r
  .rw[n]at r;cases r
 have f:∀b u,H b=some u->¬ Fj (some u)->b≠x:=λb u q l z=>by subst z;rw[q]at c;exact l c
 refine⟨λb u q n _ _=>k b u (i b n) q,λb u q n _ _=>⟨u.slots,k b u (i b n) q⟩,λb u q n _=>by rw[aH (g b n)];exact n,λb u q _=>?_,
  λb m q=>by rw[aH (f b _ q λz=>z)];exact q,λb u m q=>by rw[aH (f b _ q λz=>z)];exact q,λb p q=>⟨#[],by rw[aH (f b _ q λz=>z),q];simp⟩⟩
 by_cases a:b=e
 .subst a;exact d
 .exact⟨u,k b u a q⟩
end
noncomputable def Jr(h:Heap)(H:Hp):List Addr:=(List.range h.objs.size).filter λa=>(H a).isSome
def mW(h:Heap)(H:Hp):Heap:=PySem.W.hideAll h (Jr h H)
theorem t9(h:Heap)(H:Hp):(mW h H).objs.size=h.objs.size:=PySem.W.hideAll_size _ _
theorem vu{h:Heap}{H:Hp}{b:Addr}{o:Obj}(e:h.get? b=some o)(n:H b=none):(mW h H).get? b=some o:=
 PySem.W.hideAll_get _ e λa=>by
  have q:(H b).isSome=true:=(List.mem_filter.mp a).2;rw[n]at q;simp at q
theorem yw{h:Heap}{H:Hp}{b:Addr}{o:Obj}(e:(mW h H).get? b=some o):h.get? b=some o/\H b=none:=by
 have a:h.get? b=some o:=PySem.W.of_hideAll (Jr h H) e;refine⟨a,?_⟩;cases q:H b with
 |none=>rfl
 |some x=>
  have c:b∈Jr h H:=List.mem_filter.mpr ⟨List.mem_range.mpr (Heap.lt_size a),by simp[q]⟩
  have z:(mW h H).get? b=none:=PySem.W.hideAll_none (Jr h H) c;rw[z]at e;cases e
noncomputable def yx(g h:Heap)(L:Addr):List (Addr×Obj):=(List.range h.objs.size).filterMap λa=>if a=L\/(g.get? a).isSome=true then none else (h.get? a).map λo=>(a,o)
def rest(g h:Heap)(L d:Addr):List (Addr×Obj):=(yx g h L).filter λp=>decide (p.1≠d)
structure Mod(K:PySem.W.Frag)(mg:Str->Option Value)(base:Heap):Prop where
 Fl:K.In base
 glob:base.Ns mainGlobals mg
 blt:∃mb,base.Ns builtinsNs mb/\∀x:Str,x≠"__name__"->mb x=bootBuiltins x
 nolimit:base.NoLimit
structure Cx where
 prog:Program
 w:World
 K:PySem.W.Frag
 mg:Str->Option Value
 base:Heap
 A:Around
 N:List Str
 s₀:Shared
 H₀:Hp
 env:Env
 outer:List Env
 stack:List Env
 ex:List Addr
 fn:Str->Bool
 calm:Bool
 pn:List (Addr×Obj)
 xe:Value->Shared->Prop
noncomputable def frs(l:List Env):List Addr:=l.filterMap (·.frame)
abbrev Cx.fs(X:Cx):List Addr:=frs X.outer
def EW(a:Scope)(x:Str):Prop:=a.names.lookup x=some .local\/a.names.lookup x=some .cell\/a.names.lookup x=some .free
def Loc(a:Scope)(x:Str):Prop:=a.names.lookup x=some .local\/a.names.lookup x=some .cell
def Look(env:Env)(h:Heap)(m:Str->Option Value)(x:Str)(u:Value):Prop:=
 (env.kindOf x=some .local/\m x=some u)\/((env.kindOf x=some .cell\/env.kindOf x=some .free)/\∃c,env.cells.lookup x=some c/\h.IsCell c (some u))
structure Cx.Ok(X:Cx):Prop where
 mod:Mod X.K X.mg X.base
 kind:X.env.scope.kind=.function
 glob:X.env.globals=mainGlobals
 blt:X.env.builtins=builtinsNs
 above:X.s₀.heap.objs.size<=X.env.locals
 inj:∀x y c,X.env.cells.lookup x=some c->X.env.cells.lookup y=some c->x=y
 has:∀x,(X.env.kindOf x=some .cell\/X.env.kindOf x=some .free)->∃c,X.env.cells.lookup x=some c
 cab:∀x c,X.fn x=true->X.env.cells.lookup x=some c->X.s₀.heap.objs.size<=c
 hd:X.calm=true->X.A.handled=none
 frames:X.A.frames=some X.stack
 Js:X.stack=X.outer\/(X.stack=X.env::X.outer/\X.env.frame=some X.env.locals)
 Jt:∀b∈X.ex,b≠X.env.locals/\∀x c,X.env.cells.lookup x=some c->c≠b
 bs:∀b o,X.base.get? b=some o->X.s₀.heap.get? b=some o/\X.H₀ b=none
 Bx:X.base.objs.size<=X.s₀.heap.objs.size
 vv:∀b o,X.base.get? b=some o->b∉X.ex
 vw:∀b∈X.ex,b∉X.fs
 jB:X.s₀.heap.FunFrames X.base X.outer
 Cc:∀b∈X.fs,X.H₀ b=none
structure Inv(X:Cx)(pins:List (Addr×Obj))(σ:List (Option V))(H:Hp)(s:Shared):Prop where
 ok:X.Ok
 os:s.os=X.s₀.os
 bare:AllBare s.gens
 base:Un X.fs X.ex X.H₀ H X.s₀.heap s.heap
 loc:∃m,s.heap.Ns X.env.locals m/\∀(i:Nat) (x:Str) (v:V),X.N[i]?=some x->σ[i]?=some (some v)->EW X.env.scope x->∃u,RelV v u/\Look X.env s.heap m x u
 cell:∀x c,X.env.cells.lookup x=some c->∃v,s.heap.IsCell c v
 free:H X.env.locals=none
 gi:∀x c,X.env.cells.lookup x=some c->(H c=none\/∃o u,H c=some (.dI o u))/\(X.fn x=true->H c=none)
 pin:∀p∈X.pn++pins,s.heap.get? p.1=some p.2/\H p.1=none/\p.1≠X.env.locals/\p.1∉X.fs/\∀v,p.2.data≠.cell v
 hok:hX X.prog X.w H s.heap
 len:σ.length=X.N.length
section
variable{X:Cx}{pins:List (Addr×Obj)}{σ:List (Option V)}{H H':Hp}{s:Shared}{h':Heap}
theorem Cx.Ok.K9(ok:X.Ok){b:Addr}{o:Obj}(e:X.base.get? b=some o):b∉X.fs:=λa=>by
 have:=(ok.jB.mem a).1;rw[e]at this;cases this
theorem Inv.bs(I:Inv X pins σ H s):∀b o,X.base.get? b=some o->s.heap.get? b=some o/\H b=none:=λb o e=>
 ⟨I.base.keep b o (I.ok.bs b o e).1 (I.ok.bs b o e).2 (I.ok.K9 e) (I.ok.vv b o e),I.base.free b o (I.ok.bs b o e).1 (I.ok.bs b o e).2 (I.ok.vv b o e)⟩
theorem Inv.bk(I:Inv X pins σ H s):∀b o,X.base.get? b=some o->s.heap.get? b=some o:=λb o e=>(I.bs b o e).1
theorem Inv.mod(I:Inv X pins σ H s):Mod X.K X.mg X.base:=I.ok.mod
theorem Inv.ik(I:Inv X pins σ H s):X.K.In s.heap:=I.ok.mod.Fl.keeps I.bk
theorem Inv.lt(I:Inv X pins σ H s):X.env.locals<s.heap.objs.size:=let ⟨_,a,_⟩:=I.loc;a.lt
theorem Inv.sz(I:Inv X pins σ H s):X.s₀.heap.objs.size<=s.heap.objs.size:=Nat.le_trans I.ok.above (Nat.le_of_lt I.lt)
theorem Inv.K_(I:Inv X pins σ H s){a:Addr}(h:s.heap.objs.size<=a):a∉X.fs:=λb=>by
 obtain⟨_,o,c,_⟩:=I.ok.jB.mem b;exact absurd (Nat.lt_of_lt_of_le (Heap.lt_size c) (Nat.le_trans I.sz h)) (Nat.lt_irrefl _)
theorem Inv.La(I:Inv X pins σ H s):∀x c,X.env.cells.lookup x=some c->c≠X.env.locals:=λx c e z=>by
 obtain⟨v,o,d,f⟩:=I.cell x c e;obtain⟨m,⟨g,h,i,a,b,_⟩,_⟩:=I.loc;rw[z,a]at d;cases d;rw[b]at f;cases f
theorem Inv.jB(I:Inv X pins σ H s):s.heap.FunFrames X.base X.outer:=by
 have a:∀(l:List Env),(∀b∈frs l,b∈X.fs)->X.s₀.heap.FunFrames X.base l->s.heap.FunFrames X.base l:=by
  intro l
  induction l with
  |nil=>intro _ _;trivial
  |cons h r i=>
   intro g j;obtain⟨k,⟨L,o,c,m,n,p⟩,q⟩:=j;have d:L∈X.fs:=g L (by unfold frs;rw[List.filterMap_cons,c];exact List.mem_cons_self)
   obtain⟨t,e⟩:=I.base.slot L o n (I.ok.Cc L d) d λz=>I.ok.vw L z d
   exact⟨k,⟨L,_,c,m,e,p⟩,i (λb f=>g b (by unfold frs;rw[List.filterMap_cons,c];exact List.mem_cons_of_mem _ f)) q⟩
 exact a X.outer (λ_ f=>f) I.ok.jB
theorem Inv.stack(I:Inv X pins σ H s):s.heap.FunFrames X.base X.stack:=by
 rcases I.ok.Js with e|⟨e,a⟩
 .rw[e];exact I.jB
 .rw[e]
  obtain⟨m,b,_⟩:=I.loc;refine .cons (by rw[I.ok.kind];decide) a b ?_ I.jB
  exact Heap.get?_none_of_le (Nat.le_trans I.ok.Bx I.ok.above)
theorem Inv.qv(I:Inv X pins σ H s):∀b∈frs X.stack,b∈X.env.locals::X.fs:=λb a=>by
 rcases I.ok.Js with e|⟨e,c⟩
 .rw[e]at a;exact List.mem_cons_of_mem _ a
 .rw[e]at a
  unfold frs at a;rw[List.filterMap_cons,c]at a;exact a
theorem Inv.rZ(I:Inv X pins σ H s):∀b∈frs X.stack,H b=none:=λb hb=>by
 rcases List.mem_cons.mp (I.qv b hb)with e|hb
 .rw[e];exact I.free
 .obtain⟨_,o,a,_⟩:=I.ok.jB.mem hb
  exact I.base.free b o a (I.ok.Cc b hb) λz=>I.ok.vw b z hb
theorem Inv.step{g':Array GenState}{t':Nat}{d':Drawn}{ch:List Addr}(I:Inv X pins σ H s)
  (h:∀b∈ch,(b∈X.ex\/X.s₀.heap.objs.size<=b)/\b≠X.env.locals/\(∀x c,X.env.cells.lookup x=some c->c≠b)/\∀p∈X.pn++pins,p.1≠b)
  (keep:∀b o,b≠X.env.locals->b∉X.fs->b∉ch->s.heap.get? b=some o->H b=none->h'.get? b=some o)
  (slot:∀b o,b≠X.env.locals->b∈X.fs->b∉ch->s.heap.get? b=some o->H b=none->∃M,h'.get? b=some {o with slots:=M}) (free:∀b o,b∉ch->s.heap.get? b=some o->H b=none->H' b=none)
  (there:∀b o,b∉ch->s.heap.get? b=some o->∃E,h'.get? b=some E)
  (tups:∀b xs,H b=some (.tup xs)->H' b=some (.tup xs)) (ij:∀b o u,H b=some (.dI o u)->H' b=some (.dI o u)) (kf:∀b ps,H b=some (.B_ ps)->∃more,H' b=some (.B_ (ps++more)))
  (ns:∀m,s.heap.Ns X.env.locals m->h'.Ns X.env.locals m) (F:hX X.prog X.w H' h') (R:AllBare g') :
  Inv X pins σ H' {s with heap:=h',gens:=g',drawn:=d',toks:=t' }:=by
 have G:∀b o,X.s₀.heap.get? b=some o->b≠X.env.locals:=λb o e=>Nat.ne_of_lt (Nat.lt_of_lt_of_le (Heap.lt_size e) I.ok.above)
 have t:∀b o,X.s₀.heap.get? b=some o->b∉X.ex->b∉ch:=λb o e f A=>by
  rcases(h b A).1 with z|z
  .exact f z
  .exact absurd (Nat.lt_of_lt_of_le (Heap.lt_size e) z) (Nat.lt_irrefl _)
 have j:∀x c,X.env.cells.lookup x=some c->∀v,s.heap.IsCell c v->h'.IsCell c v:=λx c e v ⟨o,y,J⟩=>by
  have a:c∉ch:=λz=>(h c z).2.2.1 x c e rfl
  rcases(I.gi x c e).1 with C|⟨D,K,L⟩
  .by_cases O:c∈X.fs
   .obtain⟨M,q⟩:=slot c o (I.La x c e) O a y C
    exact⟨_,q,J⟩
   .exact⟨o,keep c o (I.La x c e) O a y C,J⟩
  .have g:s.heap.get? c=some D:=(I.hok c _ L).1
   have B:h'.get? c=some D:=(F c _ (ij c D K L)).1;rw[y]at g;cases g
   exact⟨o,B,J⟩
 refine⟨I.ok,I.os,R,⟨λb o e n A f=>?_,λb o e n A f=>?_,λb o e n f=>?_,λb o e f=>?_,λb xs e=>tups b xs (I.base.tups b xs e),λb o xs e=>ij b o xs (I.base.ij b o xs e),λb ps e=>?_⟩,?_,λx c e=>?_,?_,λx c e=>?_,λp P=>?_,F,I.len⟩
 .exact keep b o (G b o e) A (t b o e f) (I.base.keep b o e n A f) (I.base.free b o e n f)
 .obtain⟨M,g⟩:=I.base.slot b o e n A f
  obtain⟨N,B⟩:=slot b _ (G b o e) A (t b o e f) g (I.base.free b o e n f);exact⟨N,B⟩
 .obtain⟨E,g⟩:=I.base.there b o e f
  exact free b E (t b o e f) g (I.base.free b o e n f)
 .obtain⟨E,g⟩:=I.base.there b o e f
  exact there b E (t b o e f) g
 .obtain⟨m1,g⟩:=I.base.kf b ps e
  obtain⟨m2,B⟩:=kf b _ g;exact⟨m1++m2,by rw[B,Array.append_assoc]⟩
 .obtain⟨m,C,S⟩:=I.loc
  refine⟨m,ns m C,λi x v g B T=>?_⟩
  obtain⟨u,r,l⟩:=S i x v g B T;refine⟨u,r,?_⟩;rcases l with l|⟨k,c,e,z⟩
  .exact .inl l
  .exact .inr ⟨k,c,e,j x c e _ z⟩
 .obtain⟨v,z⟩:=I.cell x c e
  exact⟨v,j x c e v z⟩
 .obtain⟨m,⟨o,_,_,y,_⟩,_⟩:=I.loc
  exact free _ o (λz=>(h _ z).2.1 rfl) y I.free
 .obtain⟨v,o,y,J⟩:=I.cell x c e
  have a:c∉ch:=λz=>(h c z).2.2.1 x c e rfl
  refine⟨?_,λU=>free c o a y ((I.gi x c e).2 U)⟩
  rcases(I.gi x c e).1 with C|⟨D,K,L⟩
  .exact .inl (free c o a y C)
  .exact .inr ⟨D,K,ij c D K L⟩
 .obtain⟨e,n,ne,Q,d⟩:=I.pin p P
  have a:p.1∉ch:=λz=>(h p.1 z).2.2.2 p P rfl
  exact⟨keep p.1 p.2 ne Q a e n,free p.1 p.2 a e n,ne,Q,d⟩
theorem Inv.un{t':Nat}(I:Inv X pins σ H s)(u:Un X.fs [] H H' s.heap h')(c:hX X.prog X.w H' h'):Inv X pins σ H' {s with heap:=h',toks:=t' }:=by
 obtain⟨m,⟨o,l,p,h,r⟩,_⟩:=id I.loc;obtain⟨q,i⟩:=u.any h I.free (by simp)
 exact I.step (g':=s.gens) (d':=s.drawn) (ch:=[]) (λ_ z=>nomatch z) (λb o _ d _ e n=>u.keep b o e n d (by simp)) (λb o _ d _ e n=>u.slot b o e n d (by simp)) (λb o _ e n=>u.free b o e n (by simp)) (λb o _ e=>u.there b o e (by simp)) u.tups u.ij u.kf (λt j=>by
  obtain⟨x,f,g,a,k⟩:=j;rw[h]at a;cases a
  exact⟨_,f,g,i,k⟩) c I.bare
theorem Inv.call{g':Array GenState}{t':Nat}{d':Drawn}{ch:List Addr}(I:Inv X pins σ H s)(u:Un (frs X.stack) ch H H' s.heap h')(g:hX X.prog X.w H' h')(l:AllBare g')
  (d:∀b∈ch,(b∈X.ex\/X.s₀.heap.objs.size<=b)/\b≠X.env.locals/\(∀x c,X.env.cells.lookup x=some c->c≠b)/\∀p∈X.pn++pins,p.1≠b) :
  Inv X pins σ H' {s with heap:=h',gens:=g',drawn:=d',toks:=t' }:=by
 obtain⟨m,⟨o,A,B,k,r⟩,_⟩:=id I.loc;obtain⟨C,h⟩:=u.any k I.free λz=>(d _ z).2.1 rfl
 exact I.step (ch:=ch) d (λb o h q a e n=>u.keep b o e n (λz=>(List.mem_cons.mp (I.qv b z)).elim h q) a) (λb o _ _ a e n=>u.any e n a) (λb o a e n=>u.free b o e n a) (λb o a e=>u.there b o e a) u.tups u.ij u.kf (λD t=>by
  obtain⟨E,i,j,f,y⟩:=t;rw[k]at f;cases f
  exact⟨_,i,j,h,y⟩) g l
theorem Inv.turned{t':Nat}{it:Addr}(I:Inv X pins σ H s)(k:∀b o,b≠it->s.heap.get? b=some o->h'.get? b=some o)(g:H it=none)(f:it≠X.env.locals)
  (h:it∈X.ex\/X.s₀.heap.objs.size<=it) (i:∀x c,X.env.cells.lookup x=some c->c≠it) (j:∀p∈X.pn++pins,p.1≠it):Inv X pins σ H {s with heap:=h',toks:=t' }:=by
 have d:∀b u,H b=some u->b≠it:=λb u e z=>by rw[z,g]at e;cases e
 refine I.step (g':=s.gens) (d':=s.drawn) (ch:=[it]) (λb l=>?_) (λb o _ _ a e _=>k b o (λz=>a (by simp[z])) e) (λb o _ _ a e _=>⟨o.slots,k b o (λz=>a (by simp[z])) e⟩) (λ_ _ _ _ n=>n)
  (λb o a e=>⟨o,k b o (λz=>a (by simp[z])) e⟩) (λ_ _ e=>e) (λ_ _ _ e=>e) (λb B e=>⟨#[],by rw[e];simp⟩) (λm t=>?_) (λb u e=>?_) I.bare
 .have e:b=it:=by simpa using l
  subst e;exact⟨h,f,i,j⟩
 .obtain⟨o,w,y,A,r⟩:=t
  exact⟨o,w,y,k _ o (Ne.symm f) A,r⟩
 .refine(I.hok b u e).stay (λc v a q=>k c v ?_ q) (λ_ q=>q) λ_ _ q=>q
  rcases a with z|z
  .rw[z];exact d b u e
  .exact d c _ z
theorem Inv.tok(I:Inv X pins σ H s)(t:Nat):Inv X pins σ H {s with toks:=t}:=I.un (h':=s.heap) (t':=t) Un.refl I.hok
theorem Inv.kept{t':Nat}(I:Inv X pins σ H s)(k:∀b u,s.heap.get? b=some u->h'.get? b=some u):Inv X pins σ H {s with heap:=h',toks:=t' }:=I.un (Un.kept k) (I.hok.kept k)
theorem Inv.laid{a:Addr}{o:HO}{t':Nat}(I:Inv X pins σ H s)(k:∀b u,s.heap.get? b=some u->h'.get? b=some u)(c:s.heap.objs.size<=a)(d:cf X.prog X.w (upd H a o) h' a o) :
  Inv X pins σ (upd H a o) {s with heap:=h',toks:=t' }:=I.un (Un.laid k c (I.hok.fresh c)) (I.hok.laid k c d)
theorem Inv.write{x e:Addr}{o:HO}{t':Nat}(I:Inv X pins σ H s)(d:Fj (H x))(f:e=x\/H e=some (.own x))(k:∀b u,b≠e->s.heap.get? b=some u->h'.get? b=some u)(a:∃u,h'.get? e=some u)
  (c:cf X.prog X.w (upd H x o) h' x o):Inv X pins σ (upd H x o) {s with heap:=h',toks:=t' }:=I.un (Un.write d f k a) (I.hok.write d f k a c)
theorem Inv.weak{a:List (Option V)}(I:Inv X pins σ H s)(c:a.length=σ.length)(w:∀(i:Nat) v,a[i]?=some (some v)->σ[i]?=some (some v)):Inv X pins a H s:=
 ⟨I.ok,I.os,I.bare,I.base,let ⟨m,d,b⟩:=I.loc;⟨m,d,λi x v e f g=>b i x v e (w i v f) g⟩,I.cell,I.free,I.gi,I.pin,I.hok,c.trans I.len⟩
theorem Inv.r_{a:List (Addr×Obj)}(I:Inv X pins σ H s)(h:∀p∈a,s.heap.get? p.1=some p.2/\H p.1=none/\p.1≠X.env.locals/\p.1∉X.fs/\∀v,p.2.data≠.cell v):Inv X a σ H s:=
 ⟨I.ok,I.os,I.bare,I.base,I.loc,I.cell,I.free,I.gi,λp b=>(List.mem_append.mp b).elim (λz=>I.pin p (List.mem_append_left _ z)) (h p),I.hok,I.len⟩
theorem oC{N:List Str}(c:N.Nodup){i j:Nat}{x:Str}(a:N[i]?=some x)(b:N[j]?=some x):i=j:=by
 obtain⟨f,d⟩:=List.getElem?_eq_some_iff.mp a;obtain⟨g,e⟩:=List.getElem?_eq_some_iff.mp b;exact(List.getElem_inj c).mp (d.trans e.symm)
theorem lX{M:Model}{A:Around}{E:Value->Shared->Prop}{i:Nat}{x:Str}{v:V}{u:Value}{Q:Unit->Shared->Prop}(I:Inv X pins σ H s)(hN:X.N.Nodup)(O:X.N[i]?=some x)(t:Loc X.env.scope x)(r:RelV v u)
  (h:∀s',Inv X pins (σ.set i (some v)) H s'->(∃a,Heap.SameBut a s.heap s'.heap/\(a=X.env.locals\/X.env.cells.lookup x=some a))->Q () s') (hf:X.fn x=true\/X.env.scope.names.lookup x=some .local:=by first|exact .inl rfl|exact .inr rfl|assumption):wpAny M A (storeName X.env x u) Q E s:=by
 obtain⟨m,hn,hl⟩:=id I.loc;have P:(X.env.scope.kind==.class||(X.env.scope.kind==.module&&X.env.locals != X.env.globals))=false:=by rw[I.ok.kind];rfl
 have F:i<σ.length:=by rw[I.len];exact(List.getElem?_eq_some_iff.mp O).1
 have G:=I.La
 have g:∀{a:Addr}{L:Heap},(∃o,s.heap.get? a=some o/\H a=none)->Heap.SameBut a s.heap L->hX X.prog X.w H L:=λ{a L} ha f b ob e=>by
  obtain⟨_,_,B⟩:=ha;refine(I.hok b ob e).stay (λc Y hc q=>(f.2 c ?_).trans q) (λ_ q=>q) λ_ _ q=>q
  rintro rfl;rcases hc with rfl|hc
  .rw[B]at e;cases e
  .rw[B]at hc;cases hc
 rcases t with hk|hk
 .refine wpAny_storeName_local hk hn (λL a0 f=>?_) P
  obtain⟨oL,_,_,b0,_⟩:=id hn;refine h _ ⟨I.ok,I.os,I.bare,⟨λb o e n J t=>?_,λb o e n J t=>?_,I.base.free,λb o e t=>?_,I.base.tups,I.base.ij,I.base.kf⟩,⟨_,a0,λj y v' l C e3=>?_⟩,λy c e=>?_,I.free,I.gi,λp hp=>?_,g ⟨oL,b0,I.free⟩ f,by simpa using I.len⟩ ⟨_,f,.inl rfl⟩
  .exact(f.2 b (Nat.ne_of_lt (Nat.lt_of_lt_of_le (Heap.lt_size e) I.ok.above))).trans (I.base.keep b o e n J t)
  .obtain⟨sl,l⟩:=I.base.slot b o e n J t
   exact⟨sl,(f.2 b (Nat.ne_of_lt (Nat.lt_of_lt_of_le (Heap.lt_size e) I.ok.above))).trans l⟩
  .obtain⟨o',l⟩:=I.base.there b o e t
   exact⟨o',(f.2 b (Nat.ne_of_lt (Nat.lt_of_lt_of_le (Heap.lt_size e) I.ok.above))).trans l⟩
  .by_cases K:j=i
   .subst K
    rw[O]at l;cases l
    rw[List.getElem?_set_self F]at C;cases C;exact⟨u,r,.inl ⟨hk,by simp⟩⟩
   .rw[List.getElem?_set_ne (Ne.symm K)]at C
    obtain⟨u',r',q⟩:=hl j y v' l C e3;refine⟨u',r',?_⟩;rcases q with ⟨k,e⟩|⟨k,c,e,z⟩
    .refine .inl ⟨k,?_⟩
     have:y≠x:=λe=>K (oC hN l (e▸O))
     simp[this,e]
    .exact .inr ⟨k,c,e,z.sameBut f (G y c e)⟩
  .obtain⟨Y,z⟩:=I.cell y c e
   exact⟨Y,z.sameBut f (G y c e)⟩
  .obtain⟨e,n,ne,nf,d⟩:=I.pin p hp
   exact⟨(f.2 p.1 ne).trans e,n,ne,nf,d⟩
 .have D:X.fn x=true:=by
   rcases hf with z|z
   .exact z
   .rw[z]at hk;cases hk
  obtain⟨c,hc⟩:=I.ok.has x (.inl hk);obtain⟨Y,z⟩:=I.cell x c hc;refine wpAny_storeName_cell I.ok.kind hk hc z (λL R f=>?_)
  obtain⟨oc,S,T⟩:=id z;refine h {s with heap:=L} ⟨I.ok,I.os,I.bare,⟨λb o e n J t=>?_,λb o e n J t=>?_,I.base.free,λb o e t=>?_,I.base.tups,I.base.ij,I.base.kf⟩,⟨m,hn.sameBut f (Ne.symm (G x c hc)),λj y v' l C e3=>?_⟩,λy Z e=>?_,I.free,I.gi,λp hp=>?_,g ⟨oc,S,(I.gi x c hc).2 D⟩ f,by simpa using I.len⟩ ⟨c,f,.inr hc⟩
  .exact(f.2 b (Nat.ne_of_lt (Nat.lt_of_lt_of_le (Heap.lt_size e) (I.ok.cab x c D hc)))).trans (I.base.keep b o e n J t)
  .obtain⟨sl,l⟩:=I.base.slot b o e n J t
   exact⟨sl,(f.2 b (Nat.ne_of_lt (Nat.lt_of_lt_of_le (Heap.lt_size e) (I.ok.cab x c D hc)))).trans l⟩
  .obtain⟨o',l⟩:=I.base.there b o e t
   exact⟨o',(f.2 b (Nat.ne_of_lt (Nat.lt_of_lt_of_le (Heap.lt_size e) (I.ok.cab x c D hc)))).trans l⟩
  .by_cases K:j=i
   .subst K
    rw[O]at l;cases l
    rw[List.getElem?_set_self F]at C;cases C;exact⟨u,r,.inr ⟨.inl hk,c,hc,R⟩⟩
   .rw[List.getElem?_set_ne (Ne.symm K)]at C
    obtain⟨u',r',q⟩:=hl j y v' l C e3;refine⟨u',r',?_⟩;rcases q with q|⟨k,Z,e,z'⟩
    .exact .inl q
    .refine .inr ⟨k,Z,e,z'.sameBut f ?_⟩
     rintro rfl;exact K (oC hN l (I.ok.inj _ _ _ e hc▸O))
  .by_cases U:Z=c
   .subst U;exact⟨_,R⟩
   .obtain⟨w2,z2⟩:=I.cell y Z e
    exact⟨w2,z2.sameBut f U⟩
  .obtain⟨e,n,ne,nf,d⟩:=I.pin p hp
   refine⟨(f.2 p.1 ?_).trans e,n,ne,nf,d⟩;intro q;rw[q,S]at e;have q':oc=p.2:=Option.some.inj e;exact d Y (by rw[←q'];exact T)
theorem oD{M:Model}{A:Around}{E:Value->Shared->Prop}{i:Nat}{x:Str}{v:V}{u:Value}{Q:Unit->Shared->Prop}(I:Inv X pins σ H s)(b:X.N.Nodup)(c:X.N[i]?=some x)(d:Loc X.env.scope x)(r:RelV v u)
  (h:∀a,Inv X pins (σ.set i (some v)) H a->Q () a) (e:X.fn x=true\/X.env.scope.names.lookup x=some .local:=by first|exact .inl rfl|exact .inr rfl|assumption):wpAny M A (storeName X.env x u) Q E s:=
 lX I b c d r (λa f _=>h a f) e
theorem Inv.call'{a:Shared}{ch:List Addr}(I:Inv X pins σ H s)(g:a.os=s.os)(u:Un (frs X.stack) ch H H' s.heap a.heap)(d:hX X.prog X.w H' a.heap)(h:AllBare a.gens)
  (f:∀b∈ch,(b∈X.ex\/X.s₀.heap.objs.size<=b)/\b≠X.env.locals/\(∀x c,X.env.cells.lookup x=some c->c≠b)/\∀p∈X.pn++pins,p.1≠b):Inv X pins σ H' a:=by
 obtain⟨j,g',d',t',i⟩:=a;have e:i=s.os:=g;subst e;exact I.call (g':=g') (t':=t') (d':=d') u d h f
end
abbrev XK:=Value->Option Addr->Hp->Prop
abbrev St:=List (Option V)
abbrev VK:=V->Hp->Prop
abbrev TE:=St->Hp->VK->Prop
abbrev TT:=St->Hp->(Bool->Hp->Prop)->Prop
abbrev TA:=St->Hp->(List V->Hp->Prop)->Prop
structure Ends where
 nx:St->Hp->Prop
 rt:VK
 bk:St->Hp->Prop:=λ_ _=>False
 ct:St->Hp->Prop:=λ_ _=>False
abbrev TS:=Ends->St->Hp->Prop
def EP(X:Cx)(pins:List (Addr×Obj))(b:St)(Q:VK)(u:Value)(c:Shared):Prop:=∃v a,Inv X pins b a c/\RelV v u/\Q v a
def TP(X:Cx)(pins:List (Addr×Obj))(c:St)(Q:Bool->Hp->Prop)(b:Bool)(d:Shared):Prop:=∃a,Inv X pins c a d/\Q b a
def AP(X:Cx)(pins:List (Addr×Obj))(c:St)(Q:List V->Hp->Prop)(us:List Value)(d:Shared):Prop:=∃a b,Inv X pins c b d/\Vals a us/\Q a b
def SP(X:Cx)(pins:List (Addr×Obj))(D:Ends)(f:Flow)(c:Shared):Prop:=
 match f with
 |.next=>∃a b,Inv X pins a b c/\D.nx a b
 |.brk=>∃a b,Inv X pins a b c/\D.bk a b
 |.cont=>∃a b,Inv X pins a b c/\D.ct a b
 |.ret u=>∃v a b,Inv X pins a b c/\RelV v u/\D.rt v b
def PE(X:Cx)(e:Expr)(t:TE):Prop:=
 ∀(pins:List (Addr×Obj)) (s:Shared) (a:St) (H:Hp) (Q:VK),Inv X pins a H s->t a H Q->wpAny (model X.prog X.w) X.A (eval e X.env) (EP X pins a Q) X.xe s
def PT(X:Cx)(e:Expr)(t:TT):Prop:=
 ∀(pins:List (Addr×Obj)) (s:Shared) (a:St) (H:Hp) (Q:Bool->Hp->Prop),Inv X pins a H s->t a H Q->wpAny (model X.prog X.w) X.A (isTrue e X.env (eval e X.env)) (TP X pins a Q) X.xe s
def PW(X:Cx)(e:Expr)(t:TT):Prop:=
 ∀(a:Sem Value) (pins:List (Addr×Obj)) (s:Shared) (b:St) (H:Hp) (Q:Bool->Hp->Prop),Inv X pins b H s->t b H Q->wpAny (model X.prog X.w) X.A (isTrue e X.env a) (TP X pins b Q) X.xe s
theorem PW.pt{X:Cx}{e:Expr}{t:TT}(h:PW X e t):PT X e t:=h _
def PA(X:Cx)(es:List Expr)(t:TA):Prop:=
 ∀(a:Pos) (pins:List (Addr×Obj)) (s:Shared) (b:St) (H:Hp) (Q:List V->Hp->Prop),Inv X pins b H s->t b H Q->wpAny (model X.prog X.w) X.A (spliced (backTo a (starEach es X.env))) (AP X pins b Q) X.xe s
def PS(X:Cx)(st:Stmt)(t:TS):Prop:=
 ∀(pins:List (Addr×Obj)) (s:Shared) (a:St) (H:Hp) (D:Ends),Inv X pins a H s->t D a H->wpAny (model X.prog X.w) X.A (exec st X.env) (SP X pins D) X.xe s
def jk(X:Cx)(st:List Stmt)(t:TS):Prop:=
 ∀(pins:List (Addr×Obj)) (s:Shared) (a:St) (H:Hp) (D:Ends),Inv X pins a H s->t D a H->wpAny (model X.prog X.w) X.A (execs st X.env) (SP X pins D) X.xe s
theorem cD{b:Type}{t:Sem b}{Q Q':b->Shared->Prop}{M:Model}{A:Around}{E:Value->Shared->Prop}{s:Shared}(h:wpAny M A t Q E s)(c:∀a s,Q a s->Q' a s):wpAny M A t Q' E s:=wpAny_mono h c λ_ _ x=>x
section
variable{X:Cx}
noncomputable def Lb(i:Nat):TE:=λa H Q=>∃v,a[i]?=some (some v)/\Q v H
noncomputable def tC(v:V):TE:=λ_ H Q=>Q v H
theorem Cd{i:Nat}{x:Str}{pos:Pos}(j:X.N[i]?=some x)(k:EW X.env.scope x)(d:(x==("__debug__":Str))=false:=by decide)(f:(x==("__classdict__":Str))=false:=by decide):PE X (.Name x pos) (Lb i):=by
 intro pins s n H Q I h;obtain⟨v,e,h⟩:=h;obtain⟨m,o,p⟩:=I.loc;obtain⟨u,r,l⟩:=p i x v j e k;have b:EP X pins n Q u s:=⟨v,H,I,r,h⟩;rcases l with ⟨hk,q⟩|⟨hk,c,g,a⟩
 .exact wpAny_Name (wpAny_loadName_local I.ok.kind hk o q b) d
 .rcases hk with hk|hk
  .exact wpAny_Name (wpAny_loadName_cell I.ok.kind hk g a b) d
  .exact wpAny_Name (wpAny_loadName_free I.ok.kind hk g a b f) d
theorem Ce{i j pos}:PE X (.Constant (.int i) j pos) (tC (.int i)):=λ_ _ _ H _ I h=>wpAny_Constant_int ⟨.int i,H,I.tok _,⟨_,rfl⟩,h⟩
theorem Fm{b j pos}:PE X (.Constant (.bool b) j pos) (tC (.bl b)):=λ_ _ _ H _ I h=>Constant_bool ⟨.bl b,H,I,rfl,h⟩
theorem Cf{j pos}:PE X (.Constant .none j pos) (tC .non):=λ_ _ _ H _ I h=>Constant_none ⟨.non,H,I,rfl,h⟩
theorem Cg{x j pos}:PE X (.Constant (.str x) j pos) (tC (.str x)):=λ_ _ _ H _ I h=>Calls.Constant_str ⟨.str x,H,I.tok _,⟨_,rfl⟩,h⟩
def Gl(X:Cx)(x:Str):Prop:=X.env.kindOf x=some .globalImplicit
theorem il{E:Value->Shared->Prop}{pins:List (Addr×Obj)}{s:Shared}{a:St}{H:Hp}{x:Str}{u:Value}{pos:Pos}{Q:Value->Shared->Prop}(I:Inv X pins a H s)(b:Gl X x)(c:X.mg x=some u)(h:Q u s)
  (d:(x==("__debug__":Str))=false:=by decide):wpAny (model X.prog X.w) X.A (eval (.Name x pos) X.env) Q E s:=
 Calls.Name_function_global I.ok.kind b (Calls.loadGlobal_global (by rw[I.ok.glob];exact I.mod.glob.keeps I.bk) c h) d
theorem hY{E:Value->Shared->Prop}{pins:List (Addr×Obj)}{s:Shared}{a:St}{H:Hp}{x:Str}{u:Value}{pos:Pos}{Q:Value->Shared->Prop}(I:Inv X pins a H s)(b:Gl X x)(c:X.mg x=none)(d:bootBuiltins x=some u)(h:Q u s)
  (e:x≠"__name__":=by decide) (f:(x==("__debug__":Str))=false:=by decide):wpAny (model X.prog X.w) X.A (eval (.Name x pos) X.env) Q E s:=by
 obtain⟨j,g,i⟩:=I.mod.blt;exact Calls.Name_function_global I.ok.kind b (Calls.loadGlobal_builtin (by rw[I.ok.glob];exact I.mod.glob.keeps I.bk) c (by rw[I.ok.blt];exact g.keeps I.bk) ((i x e).trans d) h) f
theorem yy{x:Str}{v:V}{u:Value}{pos:Pos}(a:Gl X x)(b:X.mg x=some u)(r:RelV v u)(c:(x==("__debug__":Str))=false:=by decide):PE X (.Name x pos) (tC v):=
 λ_ _ _ H _ I h=>il I a b ⟨v,H,I,r,h⟩ c
theorem yz{x:Str}{v:V}{u:Value}{pos:Pos}(a:Gl X x)(b:X.mg x=none)(c:bootBuiltins x=some u)(r:RelV v u)(d:x≠"__name__":=by decide)(e:(x==("__debug__":Str))=false:=by decide):PE X (.Name x pos) (tC v):=
 λ_ _ _ H _ I h=>hY I a b c ⟨v,H,I,r,h⟩ d e
variable{a b:Expr}{ta tb:TE}{pos:Pos}
variable{tA Ju:TT}{rest:List Expr}
noncomputable def Lc(t u:TT):TT:=λa H Q=>t a H λc b=>if c=true then u a b Q else Q false b
noncomputable def Rx(t u:TT):TT:=λa H Q=>t a H λc b=>if c=true then Q true b else u a b Q
noncomputable def Ld(t:TT):TT:=λa H Q=>t a H λc b=>Q (!c) b
theorem pw_and1(b:PT X a tA):PW X (.BoolOp .And [a] pos) tA:=by
 intro f pins s d H Q I h;refine isTrue_and (cD (b pins s d H Q I h) λc g e=>?_)
 cases c with
 |true=>exact isTrue_and_nil e
 |false=>exact e
theorem pw_or1(b:PT X a tA):PW X (.BoolOp .Or [a] pos) tA:=by
 intro f pins s d H Q I h;refine isTrue_or (cD (b pins s d H Q I h) λc g e=>?_)
 cases c with
 |false=>exact isTrue_or_nil e
 |true=>exact e
theorem pw_and(f:PT X a tA)(g:PW X (.BoolOp .And (b::rest) pos) Ju):PW X (.BoolOp .And (a::b::rest) pos) (Lc tA Ju):=by
 intro i pins s d H Q I h;refine isTrue_and (cD (f pins s d H _ I h) λc j ⟨e,I1,q1⟩=>?_)
 cases c with
 |true=>exact g i pins j d e Q I1 q1
 |false=>exact⟨e,I1,q1⟩
theorem pw_or(f:PT X a tA)(g:PW X (.BoolOp .Or (b::rest) pos) Ju):PW X (.BoolOp .Or (a::b::rest) pos) (Rx tA Ju):=by
 intro i pins s d H Q I h;refine isTrue_or (cD (f pins s d H _ I h) λc j ⟨e,I1,q1⟩=>?_)
 cases c with
 |true=>exact⟨e,I1,q1⟩
 |false=>exact g i pins j d e Q I1 q1
theorem Ci(b:PT X a tA):PT X (.UnaryOp .Not a pos) (Ld tA):=by
 intro pins s d H Q I h;exact isTrue_not (b pins s d H (λc e=>Q (!c) e) I h)
theorem Cj{op}{t:TE}(h:PE X a t):PE X (.BoolOp op [a] pos) t:=λpins s b H Q I c=>BoolOp_one (h pins s b H Q I c)
noncomputable def EX(t:TT)(d tb:TE):TE:=λa H Q=>t a H λc b=>if c=true then d a b Q else tb a b Q
theorem vx{c:Expr}(i:PT X c tA)(j:PE X a ta)(k:PE X b tb):PE X (.IfExp c a b pos) (EX tA ta tb):=by
 intro pins s e H Q I h;refine wpAny_IfExp (cD (i pins s e H _ I h) λd f ⟨g,I1,q1⟩=>?_)
 cases d with
 |true=>exact j pins f e g Q I1 q1
 |false=>exact k pins f e g Q I1 q1
end
def jK(K:PySem.W.Frag)(H:Hp)(a:Addr)(xs:List V):Prop:=
 Rd H a (.lst xs) \/
  ∃(o:Obj) (b:Array Value) (n:Nat),K.lookup a=some o/\o.cls=.type "list"/\o.dict=none/\o.data=.seq b n/\b.size<=sizeLine/\Vals xs b.toList
def f_(K:PySem.W.Frag)(H:Hp)(a:Addr)(xs:List V):Prop:=
 Rd H a (.tup xs) \/
  ∃(o:Obj) (b:Array Value) (n:Nat),K.lookup a=some o/\o.cls=.type "tuple"/\o.data=.seq b n/\b.size<=sizeLine/\Vals xs b.toList
noncomputable def Le:Value->Option V
 |.none=>some .non
 |.bool b=>some (.bl b)
 |.int i _=>some (.int i)
 |.str x _=>some (.str x)
 |.bytes b _=>some (.EV b)
 |.float b _=>some (.flt b)
 |.ref a=>some (.ref a)
 |.type n=>some (.ty n)
 |_=>none
theorem RelV.abs{x:V}{u:Value}(r:RelV x u):Le u=some x:=by
 cases x with
 |non=>cases r;rfl
 |bl _=>cases r;rfl
 |int _=>obtain⟨t,rfl⟩:=r;rfl
 |str _=>obtain⟨t,rfl⟩:=r;rfl
 |EV _=>obtain⟨t,rfl⟩:=r;rfl
 |flt _=>obtain⟨t,rfl⟩:=r;rfl
 |ref _=>cases r;rfl
 |ty _=>cases r;rfl
theorem RelV.inj{x y:V}{u:Value}(r:RelV x u)(q:RelV y u):x=y:=Option.some.inj (r.abs.symm.trans q.abs)
theorem Vals.inj:∀{xs ys:List V}{us:List Value},Vals xs us->Vals ys us->xs=ys
 |_,_,_,.nil,.nil=>rfl
 |_,_,_,.cons r t,.cons a b=>by rw[r.inj a,Vals.inj t b]
section
variable{X:Cx}{pins:List (Addr×Obj)}{σ:St}{H:Hp}{s:Shared}{a:Addr}{xs ys:List V}
theorem f_.of{K:PySem.W.Frag}(h:H a=some (.tup xs)):f_ K H a xs:=.inl (.inl h)
theorem Inv.list(I:Inv X pins σ H s)(h:jK X.K H a xs):∃b:List Value,Vals xs b/\PlainL s.heap a b.toArray/\xs.length<=sizeLine:=by
 rcases h with h|⟨o,b,n,c,d,f,g,i,r⟩
 .obtain⟨z,b,n,r,e⟩:=h.ok I.hok
  exact⟨b,r,⟨_,n,e,rfl,rfl,rfl⟩,z⟩
 .refine⟨b.toList,r,⟨o,n,I.ik a o c,d,f,by simpa using g⟩,?_⟩
  have e:=r.length;simp only[Array.length_toList]at e;omega
theorem Inv.tuple(I:Inv X pins σ H s)(h:f_ X.K H a xs):∃b:List Value,Vals xs b/\IsTup s.heap a b.toArray/\xs.length<=sizeLine:=by
 rcases h with h|⟨o,b,n,c,d,f,g,r⟩
 .obtain⟨z,b,r,p⟩:=h.ok I.hok
  exact⟨b,r,p,z⟩
 .refine⟨b.toList,r,⟨o,I.ik a o c,d,n,by simpa using f⟩,?_⟩
  have e:=r.length;simp only[Array.length_toList]at e;omega
theorem Inv.oE(I:Inv X pins σ H s)(h:jK X.K H a xs)(h':jK X.K H a ys):xs=ys:=by
 obtain⟨c,r,⟨o,n,e,_,_,d⟩,_⟩:=I.list h;obtain⟨b,i,⟨j,k,f,_,_,g⟩,_⟩:=I.list h';rw[e]at f;cases f
 rw[d]at g;injection g with d1 _;have:c=b:=by simpa using congrArg Array.toList d1
 subst this;exact r.inj i
theorem Inv.lY(I:Inv X pins σ H s)(h:f_ X.K H a xs)(h':f_ X.K H a ys):xs=ys:=by
 obtain⟨c,r,⟨o,e,_,n,d⟩,_⟩:=I.tuple h;obtain⟨b,i,⟨j,f,_,k,g⟩,_⟩:=I.tuple h';rw[e]at f;cases f
 rw[d]at g;injection g with d1 _;have:c=b:=by simpa using congrArg Array.toList d1
 subst this;exact r.inj i
end
abbrev Cx.wish(X:Cx)(E:Value->Shared->Prop):Cx:={X with xe:=E}
abbrev Cx.vy(X:Cx):Cx:=X.wish λ_ _=>False
theorem Cx.Ok.wish{X:Cx}(ok:X.Ok)(E:Value->Shared->Prop):(X.wish E).Ok:=
 ⟨ok.mod,ok.kind,ok.glob,ok.blt,ok.above,ok.inj,ok.has,ok.cab,ok.hd,ok.frames,ok.Js,ok.Jt,ok.bs,ok.Bx,ok.vv,ok.vw,ok.jB,ok.Cc⟩
theorem Cx.Ok.gj{X:Cx}{E:Value->Shared->Prop}(ok:(X.wish E).Ok):X.Ok:=
 ⟨ok.mod,ok.kind,ok.glob,ok.blt,ok.above,ok.inj,ok.has,ok.cab,ok.hd,ok.frames,ok.Js,ok.Jt,ok.bs,ok.Bx,ok.vv,ok.vw,ok.jB,ok.Cc⟩
section
variable{X:Cx}{pins:List (Addr×Obj)}{σ:St}{H:Hp}{s:Shared}{E:Value->Shared->Prop}
theorem Inv.wish(I:Inv X pins σ H s)(E:Value->Shared->Prop):Inv (X.wish E) pins σ H s:=⟨I.ok.wish E,I.os,I.bare,I.base,I.loc,I.cell,I.free,I.gi,I.pin,I.hok,I.len⟩
theorem Inv.gj(I:Inv (X.wish E) pins σ H s):Inv X pins σ H s:=⟨I.ok.gj,I.os,I.bare,I.base,I.loc,I.cell,I.free,I.gi,I.pin,I.hok,I.len⟩
theorem SP.gj{D:Ends}{f:Flow}{c:Shared}(h:SP (X.wish E) pins D f c):SP X pins D f c:=by
 cases f with
 |next=>obtain⟨a,b,I,q⟩:=h;exact⟨a,b,I.gj,q⟩
 |brk=>obtain⟨a,b,I,q⟩:=h;exact⟨a,b,I.gj,q⟩
 |cont=>obtain⟨a,b,I,q⟩:=h;exact⟨a,b,I.gj,q⟩
 |ret u=>obtain⟨v,a,b,I,r,q⟩:=h;exact⟨v,a,b,I.gj,r,q⟩
theorem jk.vy{st:List Stmt}{t:TS}(h:jk X.vy st t):jk X st t:=λpins s a H D I b=>
 wpAny_mono (h pins s a H D (I.wish _) b) (λ_ _ q=>q.gj) λ_ _ z=>False.elim z
end
section
variable{X:Cx}{st:Stmt}{rest:List Stmt}{t u:TS}{e:Expr}{te:TE}{pos:Pos}
noncomputable def Fo:TS:=λD a H=>D.nx a H
noncomputable def Lf(t u:TS):TS:=λD a H=>t {D with nx:=u D} a H
theorem yA:jk X [] Fo:=λ_ _ a H _ I h=>wpAny_execs_nil ⟨a,H,I,h⟩
theorem vz(b:PS X st t)(c:jk X rest u):jk X (st::rest) (Lf t u):=by
 intro pins s d H D I h;refine wpAny_execs_cons (cD (b pins s d H {D with nx:=u D} I h) λf e q=>?_)
 cases f with
 |next=>
  obtain⟨a,g,i,q⟩:=q;exact c pins e a g D i q
 |ret v=>exact q
 |brk=>exact q
 |cont=>exact q
theorem Inv.quiet{pins:List (Addr×Obj)}{a:St}{H:Hp}{s:Shared}(I:Inv X pins a H s):interactive X.env=false:=by simp[interactive,I.ok.kind]
noncomputable def Fp(b:TE):TS:=λD a H=>b a H λ_ c=>D.nx a c
theorem yB(b:PE X e te)(c:swapsWith e none pos.line X.env=pure false:=by rfl):PS X (.Expr e pos) (Fp te):=by
 intro pins s a H D I h;exact wpAny_Expr_any (cD (b pins s a H _ I h) λv d ⟨x,H1,I1,r1,q1⟩=>⟨a,H1,I1,q1⟩) I.quiet c
noncomputable def Lg(a:TE):TS:=λD b H=>a b H D.rt
theorem Ck(b:PE X e te):PS X (.Return (some e) pos) (Lg te):=by
 intro pins s a H D I h;exact wpAny_Return_some (cD (b pins s a H _ I h) λv c ⟨x,H1,I1,r1,q1⟩=>⟨x,a,H1,I1,r1,q1⟩)
noncomputable def Lh(c:TT)(t u:TS):TS:=λD a H=>c a H λb d=>if b=true then t D a d else u D a d
theorem Fq{c:Expr}{a b:List Stmt}{f:TT}(j:PT X c f)(k:jk X a t)(l:jk X b u):PS X (.If c a b pos) (Lh f t u):=by
 intro pins s e H D I h;refine wpAny_If (cD (j pins s e H _ I h) λd g ⟨i,I1,q1⟩=>?_)
 cases d with
 |true=>exact k pins g e i D I1 q1
 |false=>exact l pins g e i D I1 q1
end
abbrev TG:=V->St->Hp->(St->Hp->Prop)->Prop
abbrev By:=List V->St->Hp->(St->Hp->Prop)->Prop
def PG(X:Cx)(a:Expr)(t:TG):Prop:=
 ∀(pins:List (Addr×Obj)) (s:Shared) (c:St) (H:Hp) (v:V) (u:Value) (Q:St->Hp->Prop),Inv X pins c H s->RelV v u->t v c H Q ->
  wpAny (model X.prog X.w) X.A (assign a X.env u) (λ_ e=>∃b d,Inv X pins b d e/\Q b d) X.xe s
def Fs(X:Cx)(f:List Expr)(t:By):Prop:=
 ∀(pins:List (Addr×Obj)) (s:Shared) (b:St) (H:Hp) (c:List V) (d:List Value) (Q:St->Hp->Prop),Inv X pins b H s->Vals c d->t c b H Q ->
  wpAny (model X.prog X.w) X.A (assignInOrder ((assignEach f X.env).map (·.2)) d) (λ_ g=>∃a e,Inv X pins a e g/\Q a e) X.xe s
abbrev Li:=V->V->V->Hp->(Hp->Prop)->Prop
def Lj(X:Cx)(t:Li):Prop:=
 ∀(pins:List (Addr×Obj)) (s:Shared) (a:St) (H:Hp) (o i v:V) (b c u:Value) (Q:Hp->Prop),Inv X pins a H s->RelV o b->RelV i c->RelV v u->t o i v H Q ->
  wpAny (model X.prog X.w) X.A (setItem b c u) (λ_ e=>∃d,Inv X pins a d e/\Q d) X.xe s
section
variable{X:Cx}{pos:Pos}
noncomputable def hJ(i:Nat):TG:=λv a H Q=>Q (a.set i (some v)) H
theorem mX{i:Nat}{x:Str}(a:X.N.Nodup)(b:X.N[i]?=some x)(c:Loc X.env.scope x)(d:X.fn x=true\/X.env.scope.names.lookup x=some .local:=by first|exact .inl rfl|exact .inr rfl|assumption):PG X (.Name x pos) (hJ i):=by
 intro pins s f H v u Q I r h;exact wpAny_assign_Name (oD I a b c r (λg e=>⟨_,H,e,h⟩) d)
noncomputable def Ft:By:=λa b H Q=>a=[]/\Q b H
noncomputable def Bz(t:TG)(u:By):By:=λb c H Q=>∃v r,b=v::r/\t v c H λa d=>u r a d Q
theorem yC:Fs X [] Ft:=by
 intro pins s a H b c Q I r h;obtain⟨e,h⟩:=h;subst e;cases r;exact assignInOrder_nil ⟨a,H,I,h⟩
theorem vA{e:Expr}{es:List Expr}{t:TG}{u:By}(b:PG X e t)(c:Fs X es u)
  (d:(assignEach (e::es) X.env).map (·.2)=assign e X.env::(assignEach es X.env).map (·.2):=by rfl):Fs X (e::es) (Bz t u):=by
 intro pins s f H k l Q I r h;obtain⟨v,vr,g,h⟩:=h;subst g;cases r with
 |cons r i=>
  rw[d];refine assignInOrder_cons (cD (b pins s f H _ _ _ I r h) λ_ j ⟨a,H1,I1,q1⟩=>?_)
  exact c pins j a H1 _ _ Q I1 i q1
noncomputable def yD(K:PySem.W.Frag)(n:Nat)(t:By):TG:=λv c H Q=>∃a b,v=.ref a/\f_ K H a b/\b.length=n/\t b c H Q
theorem Cm{es:List Expr}{k:Nat}{t:By}{n:Nat}(i:X.calm=true)(h:Fs X es t)
  (j:(assignEach es X.env).length=n:=by rfl) (c:(assignEach es X.env).findIdx? (·.1)=none:=by rfl):PG X (.Tuple es k pos) (yD X.K n t):=by
 intro pins s f H v u Q I r d;obtain⟨a,l,m,p,q,d⟩:=d;subst m;cases r;obtain⟨w,g,x,B⟩:=I.tuple p;refine assign_Tuple_tuple (I.ok.hd i) x (by simp[j,←q,g.length]) c λy z=>?_
 have A:Inv X pins f H {s with heap:=y}:=I.kept (t':=s.toks) λb o e=>z b o (Nat.ne_of_lt (Heap.lt_size e)) e
 exact h pins _ f H l _ Q A (by simpa using g) d
noncomputable def Cn(b:TE)(g:TG):TS:=λD a H=>b a H λx c=>g x a c D.nx
theorem Co{a e:Expr}{b:TE}{g:TG}(d:PE X e b)(f:PG X a g)(i:swapsWithSole [a] e pos.line X.env=pure false:=by rfl)(j:swappedStores [a] e X.env=pure none:=by rfl)
  (k:(assignEach [a] X.env).map (·.2)=[assign a X.env]:=by rfl):PS X (.Assign [a] e pos) (Cn b g):=by
 intro pins s c H D I h;refine wpAny_Assign_stores (cD (d pins s c H _ I h) λv l ⟨x,H1,I1,r1,q1⟩=>?_) i j
 rw[k];exact cD (f pins l c H1 x v _ I1 r1 q1) λ_ m q=>q
theorem Cp{i:Nat}{x:Str}{e:Expr}{b:TE}{a:Pos}(c:X.N.Nodup)(d:X.N[i]?=some x)(f:Loc X.env.scope x)(g:PE X e b)(j:swapsWith e (some (.Name x a)) pos.line X.env=pure false:=by rfl)(k:X.fn x=true\/X.env.scope.names.lookup x=some .local:=by first|exact .inl rfl|exact .inr rfl|assumption) :
  PS X (.Assign [.Name x a] e pos) (Cn b (hJ i)):=by
 intro pins s l H D I h;refine wpAny_Assign_Name (cD (g pins s l H _ I h) λv r ⟨y,m,n,o,p⟩=>?_) j
 exact oD n c d f o (λt q=>⟨_,m,q,p⟩) k
noncomputable def Cq(c:TT)(tb:TS):TS:=λD a H=>∃W:Nat->St->Hp->Prop,(∃m,W m a H)/\∀m a H,W m a H ->
 c a H λb e=>if b=true then ∃N:St->Hp->Prop,(∀d f,N d f->∃g,g<m/\W g d f)/\tb {D with nx:=N,ct:=N,bk:=D.nx} a e else D.nx a e
theorem vB{c:Expr}{body:List Stmt}{r:TT}{tb:TS}(t:PassesOwn (model X.prog X.w) X.A X.env X.xe)(B:PT X c r)(C:jk X body tb):PS X (.While c body [] pos) (Cq r tb):=by
 intro pins s E H D I h;obtain⟨W,⟨F,G⟩,e⟩:=h;refine wpAny_While (codeAny_whileLoop (λn J=>∃g u,Inv X pins g u J/\W n g u) ?_ F ⟨E,H,I,G⟩)
 rintro n K ⟨d,x,L,M⟩;refine wpAny_passesOwn t (cD (B pins K d x _ L (e n d x M)) λb O ⟨y,I2,j⟩=>?_)
 cases b with
 |true=>
  obtain⟨N,z,j⟩:=j;rw[if_pos rfl];refine wpAny_passesOwn t (cD (C pins O d y _ I2 j) λf P k=>?_)
  cases f with
  |next=>
   obtain⟨a,i,l,m⟩:=k;obtain⟨o,p,q⟩:=z a i m;exact⟨o,p,a,i,l,q⟩
  |cont=>
   obtain⟨a,i,l,m⟩:=k;obtain⟨o,p,q⟩:=z a i m;exact⟨o,p,a,i,l,q⟩
  |brk=>exact k
  |ret v=>exact k
 |false=>
  rw[if_neg Bool.false_ne_true];exact wpAny_execs_nil ⟨d,y,I2,j⟩
end
structure It where
 go:Nat->Hp->Prop
 Jv:Nat->Hp->V->Hp->Prop
 stop:Nat->Hp->Prop
def lJ(X:Cx)(pins:List (Addr×Obj))(H:Hp)(b:Addr):Prop:=
 H b=none/\b≠X.env.locals/\b∉X.fs/\(b∈X.ex\/X.s₀.heap.objs.size<=b)/\(∀x c,X.env.cells.lookup x=some c->c≠b)/\∀p∈X.pn++pins,p.1≠b
theorem Inv.t_{X:Cx}{pins:List (Addr×Obj)}{f:St}{H d:Hp}{s:Shared}{b:Addr}(I:Inv X pins f H s)(a:s.heap.objs.size<=b)(g:d b=none):lJ X pins d b:=by
 refine⟨g,Nat.ne_of_gt (Nat.lt_of_lt_of_le I.lt a),I.K_ a,.inr (Nat.le_trans I.sz a),λx c e z=>?_,λp h z=>?_⟩
 .obtain⟨v,q⟩:=I.cell x c e
  exact absurd (Nat.lt_of_lt_of_le q.lt (by rw[z];exact a)) (Nat.lt_irrefl _)
 .exact absurd (Nat.lt_of_lt_of_le (Heap.lt_size (I.pin p h).1) (by rw[z];exact a)) (Nat.lt_irrefl _)
structure Turn(P:Program)(w:World)(K:PySem.W.Frag)(tg:Expr)(J:It)(fp:List Addr)(it:Addr)(tn:Nat->Heap->Prop):Prop where
 mem:it∈fp
 obj:∀i h,tn i h->∀b∈fp,∃o,h.get? b=some o/\∀v,o.data≠.cell v
 keep:∀i h h',tn i h->(∀b∈fp,∀o,h.get? b=some o->h'.get? b=some o)->tn i h'
 item:∀(X:Cx),X.prog=P->X.w=w->X.K=K->X.calm=true->∀(i:Nat) (pins:List (Addr×Obj)) (s:Shared) (σ:St) (H:Hp) (E:Value->Shared->Prop),Inv X pins σ H s->(∀b∈fp,lJ X pins H b)->tn i s.heap->J.go i H ->
  wpAny (model P w) X.A (pyNext (.ref it)) (λr s1=>∃u,r=some u /\
   wpAny (model P w) X.A (letOwnedTupleGo tg (.ref it) u) (λ_ s2=>∃x H',Inv X pins σ H' s2/\RelV x u/\J.Jv i H x H'/\tn (i+1) s2.heap/\∀b∈fp,H' b=none) E s1) E s
 done:∀(X:Cx),X.prog=P->X.w=w->X.K=K->X.calm=true->∀(i:Nat) (pins:List (Addr×Obj)) (s:Shared) (σ:St) (H:Hp) (E:Value->Shared->Prop),Inv X pins σ H s->(∀b∈fp,lJ X pins H b)->tn i s.heap->J.stop i H ->
  wpAny (model P w) X.A (pyNext (.ref it)) (λr s1=>r=none/\Inv X pins σ H s1) E s
 self:∀(A:Around) (i:Nat) (s:Shared) (Q:Value->Shared->Prop) (E:Value->Shared->Prop),tn i s.heap->Q (.ref it) s->wpAny (model P w) A (pyIter (.ref it)) Q E s
abbrev TI:=St->Hp->(It->Hp->Prop)->Prop
def PIE(X:Cx)(pins:List (Addr×Obj))(h:St)(i:Expr)(R:It->Hp->Prop)(a:Value)(d:Shared):Prop:=
 ∃(e:Addr) (f:List Addr) (g:Nat->Heap->Prop) (J:It) (c:Hp),a=.ref e/\Inv X pins h c d/\Turn X.prog X.w X.K i J f e g/\g 0 d.heap/\(∀b∈f,lJ X pins c b)/\R J c
def PI(X:Cx)(b iter:Expr)(c:TI):Prop:=
 ∀(pins:List (Addr×Obj)) (s:Shared) (a:St) (H:Hp) (R:It->Hp->Prop),Inv X pins a H s->c a H R ->
  wpAny (model X.prog X.w) X.A (eval iter X.env) (λv d=>wpAny (model X.prog X.w) X.A (pyIter v) (PIE X pins a b R) X.xe d) X.xe s
theorem oF{M:Model}{A:Around}{E:Value->Shared->Prop}{s:Shared}{b:Expr}{it:Addr}{u:Value}{o:Obj}{n:String}{vs:Array Value}{Q:Unit->Shared->Prop}(c:s.heap.get? it=some o)(d:o.cls=.type n)(e:o.data=.fields vs)
    (f:["enumerate","zip","dict_itemiterator","dict_reverseitemiterator","odict_iterator","itertools.zip_longest","itertools.pairwise"].contains n=false) (a:Q () s):wpAny M A (letOwnedTupleGo b (.ref it) u) Q E s:=by
  unfold letOwnedTupleGo
  cases b<;>first
    |exact wpAny_pure a
    | (cases u<;>first
        |exact wpAny_pure a
        | (refine wpAny_bind (wpAny_load c ?_)
           rw[d,e]
           show wpAny M A (if (["enumerate","zip","dict_itemiterator","dict_reverseitemiterator","odict_iterator","itertools.zip_longest","itertools.pairwise"].contains n&&vs[0]?==some (rawInt _))=true then _ else _) Q E s
           rw[if_neg (by intro h;rw[f,Bool.false_and]at h;cases h)]
           exact wpAny_pure a))
noncomputable def Lk(K:PySem.W.Frag)(a:Addr):It:=
 ⟨λi H=>∃b x,jK K H a b/\b[i]?=some x,λi H x c=>c=H/\∀b,jK K H a b->b[i]?=some x,λi H=>∃b,jK K H a b/\b.length<=i⟩
noncomputable def Ll(K:PySem.W.Frag)(a:Addr):It:=
 ⟨λi H=>∃b x,f_ K H a b/\b[i]?=some x,λi H x c=>c=H/\∀b,f_ K H a b->b[i]?=some x,λi H=>∃b,f_ K H a b/\b.length<=i⟩
noncomputable def Fu(a:Int)(n:Nat):It:=⟨λi _=>i<n,λi H x b=>b=H/\x=.int (a+i),λi _=>n<=i⟩
theorem ua{P:Program}{w:World}{K:PySem.W.Frag}{O:Expr}(a it:Addr):Turn P w K O (Lk K a) [it] it (λi h=>h.IsListIter it a i) where
 mem:=by simp
 obj:=λi h f b g=>by
  have e:b=it:=by simpa using g
  subst e;obtain⟨o,e,c,d⟩:=f;exact⟨o,e,λv z=>by rw[d]at z;cases z⟩
 keep:=λi h l f k=>f.at λo e=>k it (by simp) o e
 item:=by
  intro X q r t M i pins s N H E I m f y;subst q r t;obtain⟨Q,x,n,A⟩:=y;obtain⟨B,C,p,R⟩:=I.list n;obtain⟨u,S,T⟩:=C.get A;obtain⟨D,F,U,G,J,L⟩:=m it (by simp)
  refine wpAny_pyNext_list_item f p.isList (x:=u) (by simpa using S) λl j V=>?_
  have Y:Inv X pins N H {s with heap:=l}:=I.turned (t':=s.toks) (λb o g e=>(V.2 b g).trans e) D F G J L
  obtain⟨o,e,c,d⟩:=id j;exact⟨u,rfl,oF (s:={s with heap:=l}) e c d (by decide) ⟨x,H,Y,T,⟨rfl,λys Z=>by rw[I.oE Z n];exact A⟩,j,λb g=>(m b g).1⟩⟩
 done:=by
  intro X q r t M i pins s N H E I m f y;subst q r t;obtain⟨Q,n,A⟩:=y;obtain⟨B,C,p,R⟩:=I.list n;obtain⟨D,F,U,G,J,L⟩:=m it (by simp)
  have hl:=C.length;exact wpAny_pyNext_list_end (I.ok.hd M) f p.isList (by simp;omega) λl eb=>⟨rfl,I.turned (t':=s.toks) (λb o g e=>eb b o g e) D F G J L⟩
 self:=λ_ _ _ _ _ f h=>wpAny_pyIter_listiter f h
theorem qw{P:Program}{w:World}{K:PySem.W.Frag}{O:Expr}(a it:Addr):Turn P w K O (Ll K a) [it] it (λi h=>h.IsTupleIter it a i) where
 mem:=by simp
 obj:=λi h f b g=>by
  have e:b=it:=by simpa using g
  subst e;obtain⟨o,e,c,d⟩:=f;exact⟨o,e,λv z=>by rw[d]at z;cases z⟩
 keep:=λi h m f k=>f.at λo e=>k it (by simp) o e
 item:=by
  intro X r t y M i pins s N H E I n f A;subst r t y;obtain⟨Q,x,q,B⟩:=A;obtain⟨j,C,p,R⟩:=I.tuple q;obtain⟨u,S,T⟩:=C.get B;obtain⟨D,F,U,G,J,L⟩:=n it (by simp)
  refine wpAny_pyNext_tuple_item f (show s.heap.IsTuple a j.toArray from p) (x:=u) (by simpa using S) λm l V=>?_
  have Y:Inv X pins N H {s with heap:=m}:=I.turned (t':=s.toks) (λb o g e=>(V.2 b g).trans e) D F G J L
  obtain⟨o,e,c,d⟩:=id l;exact⟨u,rfl,oF (s:={s with heap:=m}) e c d (by decide) ⟨x,H,Y,T,⟨rfl,λys Z=>by rw[I.lY Z q];exact B⟩,l,λb g=>(n b g).1⟩⟩
 done:=by
  intro X r t y M i pins s N H E I n f A;subst r t y;obtain⟨Q,q,B⟩:=A;obtain⟨j,C,p,R⟩:=I.tuple q;obtain⟨D,F,U,G,J,L⟩:=n it (by simp)
  have hl:=C.length;exact wpAny_pyNext_tuple_end (I.ok.hd M) f (show s.heap.IsTuple a j.toArray from p) (by simp;omega) λm eb=>⟨rfl,I.turned (t':=s.toks) (λb o g e=>eb b o g e) D F G J L⟩
 self:=λ_ _ _ _ _ f h=>wpAny_pyIter_tupleiter f h
theorem qx{P:Program}{w:World}{K:PySem.W.Frag}{F:Expr}(it:Addr)(f:Int)(n:Nat):Turn P w K F (Fu f n) [it] it (λi h=>IsRangeIter h it (f+(i:Nat)*1) ((n:Int) - (i:Nat)) 1) where
 mem:=by simp
 obj:=λi h a b c=>by
  have e:b=it:=by simpa using c
  subst e
  exact⟨_,a,λv z=>by
   have G:Data.fields _=Data.cell v:=z;cases G⟩
 keep:=λi h g a k=>k it (by simp) _ a
 item:=by
  intro X l m p q i pins s C H E I j a r;subst l m p;obtain⟨u,x,J,y,A,B⟩:=j it (by simp)
  have W:=Walks.range (prog:=X.prog) (w:=X.w) (I.ok.hd q) it f 1 n;refine W.item i s _ _ r a λv g D L d M=>?_
  obtain⟨t,rfl⟩:=L;have N:Inv X pins C H {s with heap:=g,toks:=D}:=I.turned (λb o c e=>M b o (by simpa using c) e) u x y A B
  refine⟨_,rfl,oF (s:={s with heap:=g,toks:=D}) (n:="range_iterator") d rfl rfl (by decide) ⟨.int (f+i),H,N,⟨t,?_⟩,⟨rfl,rfl⟩,d,λb c=>(j b c).1⟩⟩
  rw[Int.mul_one]
 done:=by
  intro X l m p q i pins s C H E I j a r;subst l m p;obtain⟨u,x,J,y,A,B⟩:=j it (by simp)
  exact wpAny_pyNext_range_end (I.ok.hd q) a (by have:n<=i:=r;omega) λg O=>⟨rfl,I.turned (t':=s.toks) (λb o c e=>O b o c e) u x y A B⟩
 self:=λ_ _ _ _ _ a h=>wpAny_pyIter_rangeiter a h
section
variable{X:Cx}{tg:Expr}
theorem vC{pins:List (Addr×Obj)}{d:St}{H:Hp}{s:Shared}{R:It->Hp->Prop}{E:Value->Shared->Prop}{a c:Int}{t u v:Tok}{f:Nat}(I:Inv X pins d H s)(h : -(2 ^ 62)<=a)(i:a<2 ^ 62)(j : -(2 ^ 62)<=c)(k:c<2 ^ 62)
  (q:R (Fu a (c - a).toNat) H):wpAny (model X.prog X.w) X.A (pyIter (.ref s.heap.objs.size)) (PIE X pins d tg R) E {s with heap:=s.heap.push {cls:=.type "range",data:=.fields #[.int a t,.int c u,.int 1 v]},toks:=f}:=by
 refine wpAny_pyIter_range (IsRange.new ..) (small_one h i j k) ?_;have g:Inv X pins d H {s with heap:=s.heap.push {cls:=.type "range",data:=.fields #[.int a t,.int c u,.int 1 v]},toks:=f}:=I.kept λb o e=>Heap.get?_push_of_some _ e
 refine⟨(s.heap.push {cls:=.type "range",data:=.fields #[.int a t,.int c u,.int 1 v]}).objs.size,[(s.heap.push {cls:=.type "range",data:=.fields #[.int a t,.int c u,.int 1 v]}).objs.size],_,_,H,rfl,
  g.kept (t':=f) λb o e=>Heap.get?_push_of_some _ e,qx _ a (c - a).toNat,?_,λb l=>?_,q⟩
 .have m:a+((0:Nat):Int)*1=a:=by simp
  have n:(((c - a).toNat:Nat):Int) - ((0:Nat):Int)=Builtin.Range.rangeSize a c 1:=by rw[rangeSize_one];split<;>omega
  show IsRangeIter _ _ (a+((0:Nat):Int)*1) ((((c - a).toNat:Nat):Int) - ((0:Nat):Int)) 1
  rw[m,n];exact Heap.get?_push_size _ rfl
 .have e:b=(s.heap.push {cls:=.type "range",data:=.fields #[.int a t,.int c u,.int 1 v]}).objs.size:=by simpa using l
  subst e;exact g.t_ (Nat.le_refl _) (g.hok.fresh (Nat.le_refl _))
def Fv(a:TA):TI:=λb H R=>a b H λc d=>∃j:Int,c=[.int j] /\ -(2 ^ 62)<=j/\j<2 ^ 62/\R (Fu 0 j.toNat) d
theorem ub{a:Expr}{c:TA}{p pos:Pos}(d:Gl X "range")(f:X.mg "range"=none)(g:PA X [a] c)(i:starEach [a] X.env=[(false,eval a X.env)]:=by rfl):PI X tg (.Call (.Name "range" p) [a] [] pos) (Fv c):=by
 intro pins s k H R I h;refine Call_ (hY I d f boot_range (PyProof.Rows.callWith_type1 (cD (g pos pins s k H _ I h) λo u ⟨w,H1,I1,l,b⟩=>?_) i rfl))
 obtain⟨j,e,b,m,q⟩:=b;subst e;cases l with
 |cons r n=>
  cases n;obtain⟨t,rfl⟩:=r;exact call_range_1 (vC I1 (by omega) (by omega) b m (by simpa using q))
noncomputable def Lm(f:TI)(g:TG)(tb:TS):TS:=λD a H=>f a H λJ h=>∃W:Nat->Nat->St->Hp->Prop,(∃m,W 0 m a h)/\∀i m a H,W i m a H ->
 (J.stop i H/\D.nx a H)\/(J.go i H/\∃N:St->Hp->Prop,(∀b c,N b c->∃e,e<m/\W (i+1) e b c)/\∀x c,J.Jv i H x c->g x a c λd j=>tb {D with nx:=N,ct:=N,bk:=D.nx} d j)
noncomputable def kg(fp:List Addr)(h:Heap):List (Addr×Obj):=fp.filterMap λb=>(h.get? b).map λo=>(b,o)
theorem fC{fp:List Addr}{h:Heap}{b:Addr}{o:Obj}(a:b∈fp)(e:h.get? b=some o):(b,o)∈kg fp h:=List.mem_filterMap.mpr ⟨b,a,by rw[e];rfl⟩
theorem uc{fp:List Addr}{h:Heap}{p:Addr×Obj}(a:p∈kg fp h):p.1∈fp/\h.get? p.1=some p.2:=by
 obtain⟨b,c,e⟩:=List.mem_filterMap.mp a;cases q:h.get? b with
 |none=>rw[q]at e;cases e
 |some o=>
  rw[q]at e;have d:(b,o)=p:=Option.some.inj e;subst d;exact⟨c,q⟩
theorem Inv.pinned{pins:List (Addr×Obj)}{a:St}{H:Hp}{s:Shared}{fp:List Addr}(I:Inv X pins a H s)(g:∀b∈fp,lJ X pins H b)(h:∀b∈fp,∃o,s.heap.get? b=some o/\∀v,o.data≠.cell v):Inv X (pins++kg fp s.heap) a H s:=
 I.r_ λp i=>(List.mem_append.mp i).elim (λz=>I.pin p (List.mem_append_right _ z)) λz=>by
  obtain⟨c,e⟩:=uc z;obtain⟨j,k,l,_⟩:=g p.1 c;obtain⟨o,f,d⟩:=h p.1 c;rw[e]at f;cases f
  exact⟨e,j,k,l,d⟩
theorem Inv.ip{pins pl:List (Addr×Obj)}{a:St}{H:Hp}{s:Shared}(I:Inv X (pins++pl) a H s):Inv X pins a H s:=I.r_ λp b=>I.pin p (List.mem_append_right _ (List.mem_append_left _ b))
theorem Cr{iter:Expr}{body:List Stmt}{R:TI}{g:TG}{tb:TS}{pos:Pos}(z:PassesOwn (model X.prog X.w) X.A X.env X.xe)(S:X.calm=true)(hi:PI X tg iter R)(hg:PG X tg g)(c:jk X body tb)
  (hs:∀x,foldedSetIterable iter X.env x=pure x:=by intro _;rfl):PS X (.For tg iter body [] pos) (Lm R g tb):=by
 intro pins s U H D I h;refine wpAny_For (cD (hi pins s U H _ I h) λv s1 h1=>cD h1 λa0 s2 h2=>?_) hs
 obtain⟨it,B,V,J,H2,e,I2,T,L,Y,W,⟨m0,w0⟩,C⟩:=h2;subst e;have j:∀{t:Hp},(∀b∈B,t b=none)->∀b∈B,lJ X pins t b:=λhn b c=>⟨hn b c,(Y b c).2⟩
 refine codeAny_forLoop_any (λn Z=>∃i k t,Inv X pins k t Z/\V i Z.heap/\(∀b∈B,t b=none)/\W i n k t) ?_ m0 ⟨0,U,H2,I2,L,λb c=>(Y b c).1,w0⟩
 rintro n s3 ⟨i,l,K,I3,E,F,w3⟩;rcases C i n l K w3 with ⟨stop,qn⟩|⟨go,N,hN,step⟩
 .refine wpAny_passesOwn z (cD (T.done X rfl rfl rfl S i pins s3 l K X.xe I3 (j F) E stop) λr s4 ⟨M,I4⟩=>?_)
  subst M;exact wpAny_execs_nil ⟨l,K,I4,qn⟩
 .refine wpAny_passesOwn z (cD (T.item X rfl rfl rfl S i pins s3 l K X.xe I3 (j F) E go) λr s4 ⟨u,M,h4⟩=>?_)
  subst M;refine wpAny_passesOwn z (cD h4 λ_ s5 ⟨x,H5,I5,r5,y5,Ln,Ry⟩=>?_)
  have O:=I5.pinned (j Ry) (T.obj _ _ Ln);refine wpAny_passesOwn z (cD (hg _ s5 l H5 x u _ O r5 (step x H5 y5)) λ_ s6 ⟨P,H6,I6,q6⟩=>?_)
  refine wpAny_passesOwn z (cD (c _ s6 P H6 _ I6 q6) λf Q y=>?_)
  have again:∀{a:St}{p:Hp},Inv X (pins++kg B s5.heap) a p Q->N a p->∃m,m<n/\∃i k t,Inv X pins k t Q/\V i Q.heap/\(∀b∈B,t b=none)/\W i m k t:=λ{a p} q G=>by
   obtain⟨m',hm,w7⟩:=hN a p G;refine⟨m',hm,i+1,a,p,q.ip,T.keep _ _ _ Ln λb c o e=>(q.pin (b,o) (List.mem_append_right _ (List.mem_append_right _ (fC c e)))).1,λb c=>?_,w7⟩
   obtain⟨o,e,d⟩:=T.obj _ _ Ln b c;exact(q.pin (b,o) (List.mem_append_right _ (List.mem_append_right _ (fC c e)))).2.1
  cases f with
  |next=>obtain⟨a,p,q,G⟩:=y;exact again q G
  |cont=>obtain⟨a,p,q,G⟩:=y;exact again q G
  |brk=>obtain⟨a,p,q,y⟩:=y;exact⟨a,p,q.ip,y⟩
  |ret v=>obtain⟨x7,a,p,q,r7,y⟩:=y;exact⟨x7,a,p,q.ip,r7,y⟩
end
abbrev R2:=V->V->Hp->VK->Prop
def fD(X:Cx)(f:Value->Value->Sem Value)(r:R2):Prop:=
 ∀(pins:List (Addr×Obj)) (s:Shared) (a:St) (H:Hp) (x y:V) (v u:Value) (Q:VK),Inv X pins a H s->RelV x v->RelV y u->r x y H Q ->
  wpAny (model X.prog X.w) X.A (f v u) (EP X pins a Q) X.xe s
def Lo(X:Cx)(f:Value->Sem Value)(r:V->Hp->VK->Prop):Prop:=
 ∀(pins:List (Addr×Obj)) (s:Shared) (a:St) (H:Hp) (x:V) (v:Value) (Q:VK),Inv X pins a H s->RelV x v->r x H Q ->
  wpAny (model X.prog X.w) X.A (f v) (EP X pins a Q) X.xe s
def dn(X:Cx)(f:Value)(r:List V->Hp->VK->Prop):Prop:=
 ∀(pins:List (Addr×Obj)) (s:Shared) (a:St) (H:Hp) (b:List V) (c:List Value) (Q:VK),Inv X pins a H s->Vals b c->r b H Q ->
  wpAny (model X.prog X.w) X.A (call f c) (EP X pins a Q) X.xe s
def Lp(X:Cx)(r:V->Hp->(Bool->Hp->Prop)->Prop):Prop:=
 ∀(pins:List (Addr×Obj)) (s:Shared) (a:St) (H:Hp) (x:V) (v:Value) (Q:Bool->Hp->Prop),Inv X pins a H s->RelV x v->r x H Q ->
  wpAny (model X.prog X.w) X.A (truthy v) (TP X pins a Q) X.xe s
noncomputable def EY(r:R2)(b tb:TE):TE:=λa H Q=>b a H λx c=>tb a c λy d=>r x y d Q
noncomputable def Rz(r:V->Hp->VK->Prop)(a:TE):TE:=λb H Q=>a b H λx c=>r x c Q
noncomputable def rI(C:Int->Int->Prop)(g:Int->Int->V):R2:=λx y H Q=>∃i j,x=.int i/\y=.int j/\C i j/\Q (g i j) H
noncomputable def yE(g:Int->Int->V):R2:=λx y H Q=>∃i j,x=.int i/\y=.int j/\Q (g i j) H
def rU(g:Int->V):V->Hp->VK->Prop:=λx H Q=>∃i,x=.int i/\Q (g i) H
section
variable{X:Cx}{a b c:Expr}{ta tb tc:TE}{pos:Pos}
theorem Ct(k:PE X a ta)(l:PE X b tb){pins:List (Addr×Obj)}{s:Shared}{c:St}{H:Hp}{R:V->V->Hp->Prop}(I:Inv X pins c H s)
  (h:ta c H λx j=>tb c j λy d=>R x y d) {Q:Value->Shared->Prop}{f:Value->Value->Sem Value}
  (m:∀v u i x y d,Inv X pins c d i->RelV x v->RelV y u->R x y d->wpAny (model X.prog X.w) X.A (f v u) Q X.xe i) :
  wpAny (model X.prog X.w) X.A (eval a X.env) (λv e=>wpAny (model X.prog X.w) X.A (eval b X.env) (λu g=>wpAny (model X.prog X.w) X.A (f v u) Q X.xe g) X.xe e) X.xe s:=by
 refine cD (k pins s c H _ I h) λv n ⟨x,j,I1,r1,q1⟩=>?_
 refine cD (l pins n c j _ I1 q1) λu i ⟨y,d,I2,r2,q2⟩=>?_
 exact m v u i x y d I2 r1 r2 q2
theorem vD{op:Operator}{r:R2}(c:fD X (binaryOp op) r)(d:PE X a ta)(e:PE X b tb):PE X (.BinOp a op b pos) (EY r ta tb):=by
 intro pins s f H Q I h;exact wpAny_BinOp (Ct d e I h λv u g x y i j k l q=>c pins g f i x y v u Q j k l q)
theorem Fw{op:UnaryOp}{r:V->Hp->VK->Prop}(c:Lo X (unaryOp op) r)(d:PE X a ta):PE X (.UnaryOp op a pos) (Rz r ta):=by
 intro pins s b H Q I h;exact UnaryOp_ (cD (d pins s b H _ I h) λv e ⟨x,H1,I1,r1,q1⟩=>c pins e b H1 x v Q I1 r1 q1)
theorem Jw{f:Value->Value->Sem Value}{C:Int->Int->Prop}{g:Int->Int->Int}
  (rule:∀(i j:Int) (t u:Tok) (s:Shared) (Q:Value->Shared->Prop) (E:Value->Shared->Prop),C i j->Q (.int (g i j) s.toks) {s with toks:=s.toks+1}->wpAny (model X.prog X.w) X.A (f (.int i t) (.int j u)) Q E s) :
  fD X f (rI C λi j=>.int (g i j)):=by
 intro pins s e H x y v u Q I a b h;obtain⟨i,j,rfl,rfl,c,q⟩:=h;obtain⟨t,rfl⟩:=a;obtain⟨d,rfl⟩:=b;exact rule i j t d s _ _ c ⟨.int (g i j),H,I.tok _,⟨_,rfl⟩,q⟩
theorem Fx{f:Value->Value->Sem Value}{g:Int->Int->Int}
  (rule:∀(i j:Int) (t u:Tok) (s:Shared) (Q:Value->Shared->Prop) (E:Value->Shared->Prop),Q (.int (g i j) s.toks) {s with toks:=s.toks+1}->wpAny (model X.prog X.w) X.A (f (.int i t) (.int j u)) Q E s) :
  fD X f (yE λi j=>.int (g i j)):=by
 intro pins s d H x y v u Q I a b h;obtain⟨i,j,rfl,rfl,q⟩:=h;obtain⟨t,rfl⟩:=a;obtain⟨c,rfl⟩:=b;exact rule i j t c s _ _ ⟨.int (g i j),H,I.tok _,⟨_,rfl⟩,q⟩
theorem yF{f:Value->Value->Sem Value}{g:Int->Int->Bool}
  (rule:∀(i j:Int) (t u:Tok) (s:Shared) (Q:Value->Shared->Prop) (E:Value->Shared->Prop),Q (.bool (g i j)) s->wpAny (model X.prog X.w) X.A (f (.int i t) (.int j u)) Q E s) :
  fD X f (yE λi j=>.bl (g i j)):=by
 intro pins s d H x y v u Q I a b h;obtain⟨i,j,rfl,rfl,q⟩:=h;obtain⟨t,rfl⟩:=a;obtain⟨c,rfl⟩:=b;exact rule i j t c s _ _ ⟨.bl (g i j),H,I,rfl,q⟩
def Fy(i j:Int):Prop:=0<j/\j<1073741824
def Fz(i j:Int):Prop:=0<=j/\j<=1000000/\i.natAbs<2 ^ 64
def yG(i j:Int):Prop:=(-(2 ^ 64)<i/\i<2 ^ 64)\/(-(2 ^ 64)<j/\j<2 ^ 64)
theorem yG.ok{i j:Int}(h:yG i j):IntMulOk i j:=by
 rcases h with ⟨a,b⟩|⟨a,b⟩
 .exact .of_left (intBits_le_64 a b)
 .exact .of_right (intBits_le_64 a b)
theorem Cu:fD X (binaryOp .Add) (yE λi j=>.int (i+j)):=Fx λ_ _ _ _ _ _ _ q=>add_int q
theorem Cv:fD X (binaryOp .Sub) (yE λi j=>.int (i - j)):=Fx λ_ _ _ _ _ _ _ q=>sub_int q
theorem Cw:fD X (binaryOp .Mult) (rI yG λi j=>.int (i*j)):=Jw λ_ _ _ _ _ _ _ a q=>mul_int q a.ok
theorem yH:fD X (binaryOp .FloorDiv) (rI Fy λi j=>.int (i / j)):=Jw λi j _ _ _ _ _ a q=>by
 have b:(0:Int)<j:=a.1;have c:j<1073741824:=a.2;exact floordiv_int (by omega) (by rw[Int.fdiv_eq_ediv_of_nonneg i (by omega)];exact q) (.inl (PyProof.noPylong_small (by omega)))
theorem Cy:fD X (binaryOp .Mod) (rI (λ_ j=>0<j) λi j=>.int (i%j)):=Jw λi j _ _ _ _ _ a q=>by
 have b:(0:Int)<j:=a;exact mod_int' (by omega) (by rw[Int.fmod_eq_emod_of_nonneg i (by omega)];exact q)
theorem Cz:fD X (binaryOp .Pow) (rI Fz λi j=>.int (i ^ j.toNat)):=Jw λ_ _ _ _ _ _ _ a q=>pow_int_small a.1 a.2.1 a.2.2 q
theorem RA{f:Value->Sem Value}{g:Int->Int}
  (rule:∀(i:Int) (t:Tok) (s:Shared) (Q:Value->Shared->Prop) (E:Value->Shared->Prop),Q (.int (g i) s.toks) {s with toks:=s.toks+1}->wpAny (model X.prog X.w) X.A (f (.int i t)) Q E s) :
  Lo X f (rU λi=>.int (g i)):=by
 intro pins s b H x v Q I a h;obtain⟨i,rfl,q⟩:=h;obtain⟨t,rfl⟩:=a;exact rule i t s _ _ ⟨.int (g i),H,I.tok _,⟨_,rfl⟩,q⟩
theorem CA:Lo X (unaryOp .USub) (rU λi=>.int (-i)):=RA λ_ _ _ _ _ q=>neg_int q
theorem mY{pins:List (Addr×Obj)}{a:St}{H:Hp}{s:Shared}{Q:VK}{k b:Bool}(I:Inv X pins a H s)(q:Q (.bl k) H)(e:k=b):EP X pins a Q (.bool b) s:=by
 subst e;exact⟨.bl k,H,I,rfl,q⟩
theorem FA:fD X (compareOp .Lt) (yE λi j=>.bl (decide (i<j))):=yF λ_ _ _ _ _ _ _ q=>lt_int q
theorem FC:fD X (compareOp .LtE) (yE λi j=>.bl (decide (i<=j))):=yF λ_ _ _ _ _ _ _ q=>le_int q
theorem FD:fD X (compareOp .Gt) (yE λi j=>.bl (decide (j<i))):=yF λ_ _ _ _ _ _ _ q=>gt_int q
theorem FE:fD X (compareOp .GtE) (yE λi j=>.bl (decide (j<=i))):=yF λ_ _ _ _ _ _ _ q=>ge_int q
theorem ud:fD X (compareOp .In) (λx y H Q=>∃i j,x=.str i/\y=.str j/\Q (.bl (!(Builtin.Str.occurrences j i 0 j.length 1).isEmpty)) H):=by
 intro pins s c H x y v u Q I a b h;obtain⟨i,j,rfl,rfl,q⟩:=h;obtain⟨t,rfl⟩:=a;obtain⟨d,rfl⟩:=b;exact in_str (mY I q rfl)
theorem vE:fD X (compareOp .Is) (λx y H Q=>y=.non/\Q (.bl (decide (x=.non))) H):=by
 intro pins s c H x y v u Q I a b h;obtain⟨rfl,q⟩:=h;cases b;refine is_none_gen (mY I q ?_)
 cases x<;>first
  | (cases a;rfl)
  | (obtain⟨t,rfl⟩:=a;rfl)
theorem sd:fD X (compareOp .IsNot) (λx y H Q=>y=.non/\Q (.bl (!decide (x=.non))) H):=by
 intro pins s c H x y v u Q I a b h;obtain⟨rfl,q⟩:=h;cases b;refine isnot_none_gen (mY I q ?_)
 cases x<;>first
  | (cases a;rfl)
  | (obtain⟨t,rfl⟩:=a;rfl)
theorem mZ:fD X (compareOp .NotIn) (λx y H Q=>∃i j,x=.str i/\y=.str j/\Q (.bl (!(!(Builtin.Str.occurrences j i 0 j.length 1).isEmpty))) H):=by
 intro pins s c H x y v u Q I a b h;obtain⟨i,j,rfl,rfl,q⟩:=h;obtain⟨t,rfl⟩:=a;obtain⟨d,rfl⟩:=b;exact notIn_str (mY I q rfl)
theorem fD.or{f:Value->Value->Sem Value}{r a:R2}(h:fD X f r)(h':fD X f a):fD X f (λx y H Q=>r x y H Q\/a x y H Q):=by
 intro pins s b H x y v u Q I c d q;rcases q with q|q
 .exact h pins s b H x y v u Q I c d q
 .exact h' pins s b H x y v u Q I c d q
theorem fE{op:CmpOp}{r:R2}(c:fD X (compareOp op) r)(d:PE X a ta)(e:PE X b tb)(f:behindInMarks op b=false):PE X (.Compare a [op] [b] pos) (EY r ta tb):=by
 intro pins s g H Q I h;exact wpAny_Compare1 (Ct d e I h λv u i x y j k l m q=>c pins i g j x y v u Q k l m q) f
noncomputable def vF(t:TE):TT:=λa H Q=>t a H λx b=>∃k,x=.bl k/\Q k b
theorem fF{op:CmpOp}{r:R2}(f:fD X (compareOp op) r)(g:PE X a ta)(i:PE X b tb)(j:behindInMarks op b=false):PT X (.Compare a [op] [b] pos) (vF (EY r ta tb)):=by
 intro pins s d H Q I h
 refine wpAny_isTrue_Compare1 (cD (g pins s d H _ I h) λv l ⟨x,H1,I1,r1,q1⟩=>cD (i pins l d H1 _ I1 q1) λu m ⟨y,H2,I2,r2,q2⟩=>
  cD (f pins m d H2 x y v u _ I2 r1 r2 q2) λc o ⟨z,H3,I3,n,k,e,q3⟩=>?_) j
 subst e;cases n;exact wpAny_truthy_bool ⟨H3,I3,q3⟩
noncomputable def qy(r c:R2)(d tb e:TE):TE:=λa H Q=>d a H λx f=>tb a f λy g=>r x y g λz b=>∃k,z=.bl k /\
 (if k=true then e a b λh i=>c y h i Q else Q (.bl false) b)
theorem vG{op f:CmpOp}{r j:R2}(l:fD X (compareOp op) r)(i:fD X (compareOp f) j)(m:PE X a ta)(n:PE X b tb)(o:PE X c tc)
  (p:lastMarks [op,f] [b,c]=false:=by with_unfolding_all rfl):PE X (.Compare a [op,f] [b,c] pos) (qy r j ta tb tc):=by
 intro pins s g H Q I h
 refine Compare_chain (cD (m pins s g H _ I h) λv q ⟨x,H1,I1,r1,q1⟩=>chain_link (cD (n pins q g H1 _ I1 q1) λu t ⟨y,H2,I2,r2,q2⟩=>
  cD (l pins t g H2 x y v u _ I2 r1 r2 q2) λd w ⟨z,H3,I3,A,k,e,q3⟩=>?_)) p
 subst e;cases A;refine wpAny_truthy_bool ?_;cases k with
 |false=>exact ite_ff ⟨.bl false,H3,I3,rfl,q3⟩
 |true=>exact ite_tt (chain_last (cD (o pins w g H3 _ I3 q3) λB C ⟨D,H4,I4,r4,q4⟩=>i pins C g H4 y D u B Q I4 r2 r4 q4))
theorem vH{op f:CmpOp}{r j:R2}(l:fD X (compareOp op) r)(i:fD X (compareOp f) j)(m:PE X a ta)(n:PE X b tb)(o:PE X c tc)
  (p:lastMarks [op,f] [b,c]=false:=by with_unfolding_all rfl):PT X (.Compare a [op,f] [b,c] pos) (vF (qy r j ta tb tc)):=by
 intro pins s g H Q I h
 refine isTrue_chain (cD (m pins s g H _ I h) λv q ⟨x,H1,I1,r1,q1⟩=>test_link (cD (n pins q g H1 _ I1 q1) λu t ⟨y,H2,I2,r2,q2⟩=>
  cD (l pins t g H2 x y v u _ I2 r1 r2 q2) λd w ⟨z,H3,I3,A,k,e,q3⟩=>?_)) p
 subst e;cases A;refine wpAny_truthy_bool ?_;cases k with
 |false=>
  obtain⟨J,B,C⟩:=q3;cases B;exact ite_ff ⟨H3,I3,C⟩
 |true=>
  refine ite_tt (test_last (cD (o pins w g H3 _ I3 q3) λD E ⟨F,H4,I4,r4,q4⟩=>cD (i pins E g H4 y F u D _ I4 r2 r4 q4) λK L ⟨M,H5,I5,G,k2,e2,q5⟩=>?_))
  subst e2;cases G;exact wpAny_truthy_bool ⟨H5,I5,q5⟩
def oG(K:PySem.W.Frag)(x:V)(H:Hp)(k:Bool):Prop:=
 match x with
 |.non=>k=false
 |.bl b=>k=b
 |.int i=>k=(i != 0)
 |.str y=>y.length<=sizeLine/\k=((y.length:Int) != 0)
 |.EV y=>y.size<=sizeLine/\k=((y.size:Int) != 0)
 |.ref p=>(∃a,jK K H p a/\k=!a.isEmpty)\/(∃a,f_ K H p a/\k=!a.isEmpty)\/∃c,H p=some (.dK c)/\k=!c.isEmpty
 |_=>False
theorem qz{κ:Type}{kvs:List (κ×V)}{vs:List (κ×Value)}(r:KV kvs vs):(!vs.isEmpty)=!kvs.isEmpty:=by
 cases r<;>rfl
theorem kh{xs:List V}{a:List Value}(r:Vals xs a):(!a.toArray.isEmpty)=!xs.isEmpty:=by
 cases r<;>simp
theorem gk:(sizeLine:Nat)<2 ^ 63:=by rw[sizeLine_eq];decide
theorem m8:Lp X (λx H Q=>∃k,oG X.K x H k/\Q k H):=by
 intro pins s B H x v Q I g h;obtain⟨k,e,q⟩:=h;have C:=gk;have D:sizeLine=16777216:=sizeLine_eq;cases x with
 |non=>
  cases g;have a:k=false:=e;subst a;exact truthy_none ⟨H,I,q⟩
 |bl b=>
  cases g;have a:k=b:=e;subst a;exact wpAny_truthy_bool ⟨H,I,q⟩
 |int i=>
  obtain⟨t,rfl⟩:=g;have a:k=(i != 0):=e;subst a;exact PySem.P.truthy_int ⟨H,I,q⟩
 |str y=>
  obtain⟨t,rfl⟩:=g;obtain⟨z,a⟩:y.length<=sizeLine/\k=((y.length:Int) != 0):=e;subst a;exact PySem.P.truthy_str (by omega) ⟨H,I.tok _,q⟩
 |EV y=>
  obtain⟨t,rfl⟩:=g;obtain⟨z,a⟩:y.size<=sizeLine/\k=((y.size:Int) != 0):=e;subst a;exact PySem.W.truthy_bytes (by omega) ⟨H,I.tok _,q⟩
 |ref p=>
  cases g;have a:(∃f,jK X.K H p f/\k=!f.isEmpty)\/(∃f,f_ X.K H p f/\k=!f.isEmpty)\/∃c,H p=some (.dK c)/\k=!c.isEmpty:=e;rcases a with ⟨f,j,a⟩|⟨f,j,a⟩|⟨c,j,a⟩
  .subst a
   obtain⟨n,r,o,u⟩:=I.list j;have d:=r.length;exact wpAny_truthy_list o.isList (by simp only[List.size_toArray];omega) ⟨H,I.tok _,by rw[kh r];exact q⟩
  .subst a
   obtain⟨n,r,o,u⟩:=I.tuple j;have d:=r.length;exact truthy_tuple o (by simp only[List.size_toArray];omega) ⟨H,I.tok _,by rw[kh r];exact q⟩
  .subst a
   obtain⟨u,A,l,r,m⟩:c.length<=sizeLine/\(p==sysModules)=false/\∃l,KV c l/\s.heap.DictOf (aW X.prog X.w) p l:=I.hok p _ j;have d:c.length=l.length:=Paired.length r;exact wpAny_truthy_dict A m (by omega) ⟨H,I.tok _,by rw[qz r];exact q⟩
 |_=>exact(show False from e).elim
theorem vI(e:PE X a ta)(f:∀b,isTrue a X.env b=(do let v ←b;standAt a.pos;holding [v] (truthy v))) :
  PT X a (λc H Q=>ta c H λx d=>∃k,oG X.K x d k/\Q k d):=by
 intro pins s c H Q I h;exact isTrue_plain (cD (e pins s c H _ I h) λv g ⟨x,H1,I1,r1,q1⟩=>m8 pins g c H1 x v Q I1 r1 q1) (f _)
theorem qA:fD X (binaryOp .Add) (λx y H Q=>∃i j,x=.str i/\y=.str j/\i.length+j.length<=sizeLine/\Q (.str (i++j)) H):=by
 intro pins s e H x y v u Q I a b h;obtain⟨i,j,rfl,rfl,c,q⟩:=h;obtain⟨t,rfl⟩:=a;obtain⟨d,rfl⟩:=b;exact add_str (λd f=>⟨.str (i++j),H,I.tok _,⟨_,rfl⟩,q⟩) c
theorem vals1{x:V}{us:List Value}(r:Vals [x] us):∃u,us=[u]/\RelV x u:=by
 cases r with
 |cons a b=>cases b;exact⟨_,rfl,a⟩
theorem vals2{x y:V}{us:List Value}(r:Vals [x,y] us):∃u a,us=[u,a]/\RelV x u/\RelV y a:=by
 cases r with
 |cons b c=>
  cases c with
  |cons d e=>cases e;exact⟨_,_,rfl,b,d⟩
end
structure qB(h:Heap)(x dx C:Addr)(mA:Str->Option Value):Prop where
 obj:h.get? x=some (PySem.W.instObj C dx)
 ns:h.Ns1 dx mA
 ne:dx≠x
theorem ue{h:Heap}{c:Addr}{d:Str->Option Value}(n:h.Ns1 c d):∃f,h.get? c=some f/\∀name,PySem.W.lookIn name f=some (d name):=by
 obtain⟨o,g,r,i,j,k,_,l⟩:=n;refine⟨o,i,λname=>?_⟩
 have e:=l name;unfold nsFind findBy at e;rw[←Array.find?_toList]at e;unfold PySem.W.lookIn;rw[j];dsimp only;split
 .rename_i y q
  rw[q]at e;exact congrArg some e
 .rename_i q
  rw[q]at e
  have a:g.toList.any (·.refKey)=false:=by
   rw[List.any_eq_false];intro y m;obtain⟨z,t,b⟩:=k y (Array.mem_toList_iff.mp m);simp[DictEntry.refKey,b]
  have p:¬ g.toList.any (·.refKey)=true:=by rw[a];exact Bool.false_ne_true
  rw[if_neg p];exact congrArg some e
theorem qB.look{h:Heap}{x b C:Addr}{c:Str->Option Value}(I:qB h x b C c):∃a,PySem.W.InstAt h x (PySem.W.instObj C b) C (some a)/\∀name,PySem.W.lookIn name a=some (c name):=
 let ⟨a,d,e⟩:=ue I.ns
 ⟨a,⟨I.obj,rfl,rfl,d⟩,e⟩
section
variable{prog:Program}{w:World}{A:Around}{E:Value->Shared->Prop}{s:Shared}{K:PySem.W.Frag}{x dx C f:Addr}{mA:Str->Option Value}{name:Str}{v:Value}
theorem get_map{a:Bool}{Q:Value->Shared->Prop}(X:K.In s.heap)(I:qB s.heap x dx C mA)(c:PySem.W.plainGet K C name=true)(d:PySem.W.hasDictIn K C=true)
  (e:PySem.W.findIn K (.ref C) name=some none) (f:mA name=some v) (b:PySem.W.handedIn v=true) (h:Q v {s with toks:=s.toks+1}) :
  wpAny (model prog w) A (getAttr (.ref x) name a) Q E s:=by
 obtain⟨i,J,g⟩:=I.look;exact PySem.W.get_value X J (PySem.W.plainGet_of c).1 (PySem.W.findObj_own d e rfl (by rw[g,f])) b h
theorem vJ{pl:Sem Bool}{Q:Value×List Value->Shared->Prop}(X:K.In s.heap)(I:qB s.heap x dx C mA)(a:PySem.W.plainGet K C name=true)
  (b:PySem.W.findIn K (.ref C) name=some (some (.ref f))) (c:PySem.W.isFn K (.ref f)=true) (d:mA name=none) (h:Q (.ref f,[.ref x]) s) :
  wpAny (model prog w) A (getMethod (.ref x) name pl) Q E s:=by
 obtain⟨e,J,g⟩:=I.look;exact PySem.W.method_fn X J (PySem.W.plainGet_of a).1 (PySem.W.plainGet_of a).2 b (beq_iff_eq.mp c) (by show(PySem.W.lookIn name e).map (·.isSome)=some false;rw[g,d];rfl) h
theorem yI{ns:List Str}{Q:Unit->Shared->Prop}(X:K.In s.heap)(I:qB s.heap x dx C mA)
  (j:PySem.W.findIn K (.ref C) "__setattr__"=some (some (.builtin "object.__setattr__"))) (k:PySem.W.plainOver K C=true) (l:PySem.W.takerIn K C name=some none) (m:PySem.W.hasDictIn K C=true)
  (n:PySem.Within mA ns) (hsz:ns.length<=sizeLine)
  (h:∀h',qB h' x dx C (λy=>if y=name then some v else mA y)->Heap.SameBut dx s.heap h'->Q () {s with heap:=h',toks:=s.toks+2}) :
  wpAny (model prog w) A (setAttr (.ref x) name v) Q E s:=by
 obtain⟨u,J,z⟩:=I.look;refine PySem.W.set_plain X J j (PySem.W.osa_open (s:={s with toks:=s.toks+1}) (r:=none) X J k l λb=>?_)
 obtain⟨B,o,e⟩:=PySem.W.any_some m;have p:s.heap.get? x=some ⟨.ref C,some dx,.plain,#[]⟩:=I.obj;refine wpAny_bind (wpAny_pure (wpAny_bind (wpAny_bind (wpAny_loadPart p (wpAny_bind (PySem.W.Looks.here (s:={s with toks:=s.toks+1}) (PySem.W.looks_clsIn X o) ?_))))));rw[e];refine wpAny_pure (a:=some dx) (wpAny_bind (wpAny_pure (wpAny_bind ?_)));refine wpAny_nsSet1 (s:={s with toks:=s.toks+1}) I.ns λh' c d=>?_
 obtain⟨D,q,t,f,g,i⟩:=c.count (PySem.Within.cons name v n);refine wpAny_bind (wpAny_lookBehind f (by rw[g];exact pastItsLine_dict (Nat.le_trans i (by rw[List.length_cons];omega))) ?_)
 exact wpAny_pure (h _ ⟨(d.2 _ (Ne.symm I.ne)).trans I.obj,c,I.ne⟩ d)
theorem vK{R:Result->Shared->Prop}{vs:List Value}{a:List (Str×Value)}(X:K.In s.heap)(b:PySem.W.makesIn K C=true)
  (c:PySem.W.findIn K (.ref C) "__init__"=some (some (.ref f))) (e:PySem.W.typeIn K (.ref f)=some (.type "function"))
  (h:codeAny (model prog w) (A.under (.builtin "type.__call__" ⟨.ref C::vs,a⟩)) (.call (.ref f) ⟨.ref (s.heap.objs.size+1)::vs,a⟩) (PySem.W.InitBack (s.heap.objs.size+1) R)
   {s with heap:=(s.heap.push PySem.W.emptyDict).push (PySem.W.instObj C s.heap.objs.size)}) :
  codeAny (model prog w) A (.call (.ref C) ⟨vs,a⟩) R s:=by
 obtain⟨i,g,d,t,j⟩:=s;exact PySem.W.make_core (PySem.W.makes_of X b) (PySem.W.looks_findIn X c) (λself=>PySem.W.bind_fn X self e) (.inl rfl) h
end
noncomputable def fG(f:Str)(v:V):List (Str×V)->List (Str×V)
 |[]=>[(f,v)]
 | (g,x)::r=>if g=f then (g,v)::r else (g,x)::fG f v r
theorem jl(f g:Str)(v:V):∀c:List (Str×V),(fG f v c).lookup g=if g=f then some v else c.lookup g
 |[]=>by
  show List.lookup g [(f,v)]=_
  by_cases h:g=f
  .have a:(g==f)=true:=beq_iff_eq.mpr h
   simp only[List.lookup,a,if_pos h]
  .have a:(g==f)=false:=beq_eq_false_iff_ne.mpr h
   simp only[List.lookup,a,if_neg h]
 | (k,x)::r=>by
  have d:=jl f g v r;rw[show fG f v ((k,x)::r)=(if k=f then (k,v)::r else (k,x)::fG f v r)from rfl]
  by_cases b:k=f
  .rw[if_pos b]
   by_cases h:g=k
   .have a:(g==k)=true:=beq_iff_eq.mpr h
    simp only[List.lookup,a,if_pos (h.trans b)]
   .have a:(g==k)=false:=beq_eq_false_iff_ne.mpr h
    simp only[List.lookup,a,if_neg (λe:g=f=>h (e.trans b.symm))]
  .rw[if_neg b]
   by_cases h:g=k
   .have a:(g==k)=true:=beq_iff_eq.mpr h
    simp only[List.lookup,a,if_neg (λe:g=f=>b (h.symm.trans e))]
   .have a:(g==k)=false:=beq_eq_false_iff_ne.mpr h
    simp only[List.lookup,a];exact d
theorem iX(f:Str)(v:V):∀a:List (Str×V),f∈(fG f v a).map (·.1)/\∀g,g∈a.map (·.1)->g∈(fG f v a).map (·.1)
 |[]=>⟨by simp[fG],λg h=>by simp at h⟩
 | (k,x)::r=>by
  obtain⟨c,d⟩:=iX f v r;rw[show fG f v ((k,x)::r)=(if k=f then (k,v)::r else (k,x)::fG f v r)from rfl]
  by_cases b:k=f
  .rw[if_pos b]
   subst b;exact⟨by simp,λg h=>by simpa using h⟩
  .rw[if_neg b]
   refine⟨?_,λg h=>?_⟩
   .rw[List.map_cons]
    exact List.mem_cons_of_mem _ c
   .rw[List.map_cons]at h ⊢
    rcases List.mem_cons.mp h with e|e
    .exact List.mem_cons.mpr (.inl e)
    .exact List.mem_cons_of_mem _ (d g e)
theorem jm(f:Str)(v:V):∀a:List (Str×V),(fG f v a).length<=a.length+1
 |[]=>by simp[fG]
 | (k,x)::r=>by
  have c:=jm f v r;rw[show fG f v ((k,x)::r)=(if k=f then (k,v)::r else (k,x)::fG f v r)from rfl]
  by_cases b:k=f
  .rw[if_pos b,List.length_cons,List.length_cons];omega
  .rw[if_neg b,List.length_cons,List.length_cons];omega
theorem f9.some_of{v:V}{o:Option Value}(r:f9 (some v) o):∃u,o=some u/\RelV v u:=by
 cases o with
 |none=>exact(show False from r).elim
 |some u=>exact⟨u,rfl,r⟩
theorem f9.none_of{o:Option Value}(r:f9 none o):o=none:=by
 cases o with
 |none=>rfl
 |some u=>exact(show False from r).elim
theorem uf{v:V}{u:Value}(r:RelV v u):PySem.W.handedIn u=true:=by
 cases v with
 |non=>cases (show u=Value.none from r);rfl
 |bl b=>cases (show u=Value.bool b from r);rfl
 |int i=>obtain⟨t,e⟩:=(show ∃t,u=Value.int i t from r);cases e;rfl
 |str x=>obtain⟨t,e⟩:=(show ∃t,u=Value.str x t from r);cases e;rfl
 |EV b=>obtain⟨t,e⟩:=(show ∃t,u=Value.bytes b t from r);cases e;rfl
 |flt b=>obtain⟨t,e⟩:=(show ∃t,u=Value.float b t from r);cases e;rfl
 |ref a=>cases (show u=Value.ref a from r);rfl
 |ty n=>cases (show u=Value.type n from r);rfl
section
variable{P:Program}{w:World}{H H':Hp}{h h':Heap}{a C dx:Addr}{fs fs':List (Str×V)}
theorem jL(c:hX P w H h)(e:H a=some (.ins C dx fs)):∃b,qB h a dx C b/\(∀f,f9 (fs.lookup f) (b f))/\PySem.Within b (fs.map (·.1))/\fs.length<=1000/\H dx=some (.own a):=by
 obtain⟨d,z,ne,g,b,n,r,q⟩:=(show cf P w H h a (.ins C dx fs)from c a _ e)
 exact⟨b,⟨g,n,ne⟩,r,q,z,d⟩
end
structure oH(K:PySem.W.Frag)(C:Addr):Prop where
 pg:PySem.W.plainGet K C Str.empty=true
 hd:PySem.W.hasDictIn K C=true
 po:PySem.W.plainOver K C=true
 sa:PySem.W.findIn K (.ref C) "__setattr__"=some (some (.builtin "object.__setattr__"))
theorem oH.get{K:PySem.W.Frag}{C:Addr}(c:oH K C)(f:Str):PySem.W.plainGet K C f=true:=c.pg
def gm(K:PySem.W.Frag)(C:Addr)(f:Str):Prop:=PySem.W.findIn K (.ref C) f=some none
theorem gm.taker{K:PySem.W.Frag}{C:Addr}{f:Str}(n:gm K C f):PySem.W.takerIn K C f=some none:=by
 unfold PySem.W.takerIn;rw[show PySem.W.findIn K (.ref C) f=some none from n]
 rfl
structure Meth(K:PySem.W.Frag)(C:Addr)(m:Str)(f:Addr):Prop where
 at_:PySem.W.findIn K (.ref C) m=some (some (.ref f))
 fn:PySem.W.isFn K (.ref f)=true
 kp:PySem.W.keepIn K (.ref f)=true
section
variable{X:Cx}{pins:List (Addr×Obj)}{σ:St}{H:Hp}{s:Shared}{a C dx:Addr}{fs:List (Str×V)}{f:Str}{v:V}{A:Around}{E:Value->Shared->Prop}
theorem qC{b:Bool}{Q:Value->Shared->Prop}(I:Inv X pins σ H s)(e:H a=some (.ins C dx fs))(c:oH X.K C)(n:gm X.K C f)(l:fs.lookup f=some v)
  (h:∀u d,Inv X pins σ H d->RelV v u->Q u d):wpAny (model X.prog X.w) A (getAttr (.ref a) f b) Q E s:=by
 obtain⟨i,O,r,_,_,_⟩:=jL I.hok e;obtain⟨u,j,g⟩:=f9.some_of (v:=v) (o:=i f) (by rw[←l];exact r f)
 exact get_map I.ik O (c.get f) c.hd n j (uf g) (h u _ (I.tok _) g)
theorem ki{m:Str}{g:Addr}{pl:Sem Bool}{Q:Value×List Value->Shared->Prop}(I:Inv X pins σ H s)(e:H a=some (.ins C dx fs))(c:oH X.K C)(k:Meth X.K C m g)(l:fs.lookup m=none)
  (h:Q (.ref g,[.ref a]) s):wpAny (model X.prog X.w) A (getMethod (.ref a) m pl) Q E s:=by
 obtain⟨b,O,r,_,_,_⟩:=jL I.hok e;have d:b m=none:=f9.none_of (by rw[←l];exact r m)
 exact vJ I.ik O (c.get m) k.at_ k.fn d h
theorem qD{y:V}{u:Value}{Q:Unit->Shared->Prop}(I:Inv X pins σ H s)(e:H a=some (.ins C dx fs))(c:oH X.K C)(n:gm X.K C f)(J:fs.length<1000)(m:RelV y u)
  (h:∀i,Inv X pins σ (upd H a (.ins C dx (fG f y fs))) i->Q () i):wpAny (model X.prog X.w) A (setAttr (.ref a) f u) Q E s:=by
 obtain⟨j,O,r,k,_,l⟩:=jL I.hok e;have p:(fs.map (·.1)).length<=sizeLine:=by rw[List.length_map,sizeLine_eq];omega
 refine yI I.ik O c.sa c.po n.taker c.hd k p λt d B=>h _ ?_
 have D:∃o,t.get? dx=some o:=let ⟨o,_,_,e',_⟩:=d.ns;⟨o,e'⟩
 refine I.write (x:=a) (e:=dx) (by rw[e];exact True.intro) (.inr l) (λb q F z=>(B.2 b F).trans z) D ?_
 refine⟨by rw[aH O.ne];exact l,?_,O.ne,d.obj,_,d.ns,λg=>?_,λg G=>?_⟩
 .have:=jm f y fs;omega
 .show f9 ((fG f y fs).lookup g) (if g=f then some u else j g)
  rw[jl]
  by_cases q:g=f
  .rw[if_pos q,if_pos q];exact m
  .rw[if_neg q,if_neg q];exact r g
 .by_cases q:g=f
  .rw[q];exact(iX f y fs).1
  .refine(iX f y fs).2 g (k g λz=>G ?_)
   show(if g=f then some u else j g)=none
   rw[if_neg q];exact z
theorem Inv.made(I:Inv X pins σ H s):Inv X pins σ (upd (upd H s.heap.objs.size (.own (s.heap.objs.size+1))) (s.heap.objs.size+1) (.ins C s.heap.objs.size []))
  {s with heap:=(s.heap.push PySem.W.emptyDict).push (PySem.W.instObj C s.heap.objs.size)}:=by
 have c:(s.heap.push PySem.W.emptyDict).get? s.heap.objs.size=some PySem.W.emptyDict:=Heap.get?_push_size s.heap rfl
 have d:((s.heap.push PySem.W.emptyDict).push (PySem.W.instObj C s.heap.objs.size)).get? (s.heap.objs.size+1)=some (PySem.W.instObj C s.heap.objs.size):=by
  have:=Heap.get?_push_size (s.heap.push PySem.W.emptyDict) (o:=PySem.W.instObj C s.heap.objs.size) rfl;rwa[Heap.size_push]at this
 have f:(s.heap.push PySem.W.emptyDict).Ns s.heap.objs.size (λ_=>none):=⟨PySem.W.emptyDict,#[],_,c,rfl,(λe g=>absurd g (by simp)),λ_=>rfl⟩
 have h:=I.laid (a:=s.heap.objs.size) (o:=.own (s.heap.objs.size+1)) (h':=s.heap.push PySem.W.emptyDict) (t':=s.toks) (λb u q=>Heap.get?_push_of_some _ q) (Nat.le_refl _) ⟨_,c⟩
 refine h.laid (a:=s.heap.objs.size+1) (o:=.ins C s.heap.objs.size []) (t':=s.toks) (λb u q=>Heap.get?_push_of_some _ q) (Nat.le_of_eq (Heap.size_push _ _)) ?_
 have ne:s.heap.objs.size≠s.heap.objs.size+1:=Nat.ne_of_lt (Nat.lt_succ_self _);refine⟨by rw[aH ne,aU],Nat.zero_le _,ne,d,λ_=>none,(Heap.Ns1.of_empty f).at λo q=>Heap.get?_push_of_some _ q,λ_=>True.intro,λy i=>absurd rfl i⟩
theorem yJ{prog:Program}{w:World}{env:Env}{e:Expr}{f:Str}{pos:Pos}{s:Shared}{Q:Value->Shared->Prop}(b:attributeBase e f env (eval e env)=eval e env)
  (h:wpAny (model prog w) A (eval e env) (λo a=>wpAny (model prog w) A (getAttr o f true) Q E a) E s):wpAny (model prog w) A (eval (.Attribute e f pos) env) Q E s:=
 Attribute_any_ h (by rw[arm_eval_Attribute,b])
end
noncomputable def Lq(K:PySem.W.Frag)(d:TE)(f:Str):TE:=λe H Q=>d e H λx b=>∃a C g c v,x=.ref a/\b a=some (.ins C g c)/\oH K C/\gm K C f/\c.lookup f=some v/\Q v b
def Lr(K:PySem.W.Frag)(g h:TE)(f:Str):TS:=λD b H=>h b H λy i=>g b i λx d=>∃a C e c,x=.ref a/\d a=some (.ins C e c)/\oH K C/\gm K C f/\c.length<1000 /\
 D.nx b (upd d a (.ins C e (fG f y c)))
section
variable{X:Cx}{o e value:Expr}{f:Str}{pos pos' tpos:Pos}{ta tv:TE}
theorem CB(b:PE X e ta)(d:attributeBase e f X.env (eval e X.env)=eval e X.env):PE X (.Attribute e f pos) (Lq X.K ta f):=by
 intro pins s g H Q I h;refine yJ d (cD (b pins s g H _ I h) λu k ⟨x,H1,I1,rx,a,C,dx,fs,v,ex,ea,c,n,l,q⟩=>?_)
 subst ex;obtain rfl:u=Value.ref a:=rx;exact qC I1 ea c n l λm o i j=>⟨v,H1,i,j,q⟩
theorem CC(d:PE X o ta)(e:PE X value tv)(g:swapsWith value (some (.Attribute o f pos')) pos.line X.env=pure false):PS X (.Assign [.Attribute o f pos'] value pos) (Lr X.K ta tv f):=by
 intro pins s b H D I h;refine plainObj_wpAny_Assign_Attribute (cD (e pins s b H _ I h) λu i ⟨y,H1,I1,ry,q⟩=>cD (d pins i b H1 _ I1 q) λj m ⟨x,H2,I2,rx,a,C,dx,fs,ex,ea,c,n,l,q2⟩=>?_) g
 subst ex;obtain rfl:j=Value.ref a:=rx;exact qD I2 ea c n l ry λp k=>⟨b,_,k,q2⟩
end
section
variable{X:Cx}{pins:List (Addr×Obj)}{σ:St}{H:Hp}{s:Shared}{A:Around}{E:Value->Shared->Prop}{Q:Value->Shared->Prop}{c:Value}{b:Bool}
inductive jC (K:PySem.W.Frag) (H:Hp):V->Value->Prop where
 |non:jC K H .non (.type "NoneType")
 |bl (x:Bool):jC K H (.bl x) (.type "bool")
 |int (i:Int):jC K H (.int i) (.type "int")
 |str (x:Str):jC K H (.str x) (.type "str")
 |flt (x:UInt64):jC K H (.flt x) (.type "float")
 |lst {a:Addr}{xs:List V} (e:H a=some (.lst xs)):jC K H (.ref a) (.type "list")
 |dI {a:Addr}{o:Obj}{xs:List V} (e:H a=some (.dI o (.lst xs))):jC K H (.ref a) (.type "list")
 |tup {a:Addr}{xs:List V} (e:H a=some (.tup xs)):jC K H (.ref a) (.type "tuple")
 |dK {a:Addr}{kvs:List (Key×V)} (e:H a=some (.dK kvs)):jC K H (.ref a) (.type "dict")
 |dT {a:Addr}{kvs:List (List Key×V)} (e:H a=some (.dT kvs)):jC K H (.ref a) (.type "dict")
 |ins {a C dx:Addr}{fs:List (Str×V)} (e:H a=some (.ins C dx fs)) (cl:oH K C) (ha:PySem.W.findIn K (.ref C) "__class__"=some (some (.builtin "object.__class__")))
   (hn:PySem.W.specialIn K (.builtin "object.__class__") "__get__"=some (some (.builtin "getset_descriptor.__get__"))) (htk:PySem.W.takesIn K (.builtin "object.__class__")=some true)
   (hm:PySem.W.mroIn K C (.type "object")=some true):jC K H (.ref a) (.ref C)
theorem cS{x:V}{u t:Value}(I:Inv X pins σ H s)(d:RelV x u)(B:jC X.K H x t)(e:PySem.W.kitOne X.K t c=some b)(h:∀D,Q (.bool b) {s with toks:=D}) :
  wpAny (model X.prog X.w) A (call (.builtin "isinstance") [u,c]) Q E s:=by
 cases B with
 |non=>cases (show u=Value.none from d);exact PySem.W.kia_one PySem.W.kitx_none I.ik True.intro e (λz=>nomatch z) h
 |bl y=>cases (show u=Value.bool y from d);exact PySem.W.kia_one PySem.W.kitx_bool I.ik True.intro e (λz=>nomatch z) h
 |int i=>obtain⟨t,q⟩:=(show ∃t,u=Value.int i t from d);cases q;exact PySem.W.kia_one PySem.W.kitx_int I.ik True.intro e (λz=>nomatch z) h
 |str y=>obtain⟨t,q⟩:=(show ∃t,u=Value.str y t from d);cases q;exact PySem.W.kia_one PySem.W.kitx_str I.ik True.intro e (λz=>nomatch z) h
 |flt y=>obtain⟨t,q⟩:=(show ∃t,u=Value.float y t from d);cases q;exact PySem.W.kia_one PySem.W.kitx_float I.ik True.intro e (λz=>nomatch z) h
 |@lst a k f=>
  cases (show u=Value.ref a from d)
  obtain⟨_,_,n,_,g⟩:=(show cf X.prog X.w H s.heap a (.lst k)from I.hok a _ f)
  exact PySem.W.kia_one PySem.W.kitx_list I.ik ⟨_,g,rfl⟩ e (λz=>nomatch z) h
 |@dI a F k f=>
  cases (show u=Value.ref a from d)
  obtain⟨_,_,_,n,_,g⟩:=(show cf X.prog X.w H s.heap a (.dI F (.lst k))from I.hok a _ f)
  exact PySem.W.kia_one PySem.W.kitx_list I.ik ⟨_,g,rfl⟩ e (λz=>nomatch z) h
 |@tup a k f=>
  cases (show u=Value.ref a from d)
  obtain⟨_,_,_,p⟩:=(show cf X.prog X.w H s.heap a (.tup k)from I.hok a _ f)
  obtain⟨o,g,l,_⟩:=p;exact PySem.W.kia_one PySem.W.kitx_tuple I.ik ⟨o,g,l⟩ e (λz=>nomatch z) h
 |@dK a j f=>
  cases (show u=Value.ref a from d)
  obtain⟨_,_,R,_,p⟩:=(show cf X.prog X.w H s.heap a (.dK j)from I.hok a _ f)
  obtain⟨o,G,L,g,l,_⟩:=p;exact PySem.W.kia_one PySem.W.kitx_dict I.ik ⟨o,g,l.1⟩ e (λz=>nomatch z) h
 |@dT a j f=>
  cases (show u=Value.ref a from d)
  obtain⟨_,_,k,_,o,G,L,g,l,_⟩:=(show cf X.prog X.w H s.heap a (.dT j)from I.hok a _ f)
  exact PySem.W.kia_one PySem.W.kitx_dict I.ik ⟨o,g,l.1⟩ e (λz=>nomatch z) h
 |@ins a C S T f r M N m P=>
  cases (show u=Value.ref a from d)
  obtain⟨U,O,_⟩:=jL I.hok f;obtain⟨Y,J,_⟩:=O.look;exact PySem.W.kia_one (PySem.W.kitx_own (r.get _) r.hd M N m P) I.ik J e (λz=>nomatch z) h
end
structure cL(k:Nat)(A:Around):Prop where
 hd:A.handled=none
 dp:A.depth+3*k+5<recursionLimit
 un:A.units+16*k+200<cLine
theorem cL.mono{j k:Nat}{A:Around}(r:cL k A)(h:j<=k):cL j A:=⟨r.hd,by have:=r.dp;omega,by have:=r.un;omega⟩
theorem cL.deeper{k:Nat}{A:Around}(r:cL (k+1) A)(env:Env):cL k (A.deeper env):=
 ⟨r.hd,by have:=r.dp;show A.depth+1+3*k+5<_;omega,by have:=r.un;show A.units+3+16*k+200<_;omega⟩
theorem cL.in1{k:Nat}{A:Around}(r:cL (k+1) A):cL k A.in1:=
 ⟨r.hd,by have:=r.dp;show A.depth+3*k+5<_;omega,by have:=r.un;show A.units+1+16*k+200<_;omega⟩
theorem qE{A:Around}{C:Addr}{us:List Value}{a:List (Str×Value)}:(A.under (.builtin "type.__call__" ⟨.ref C::us,a⟩)).depth=A.depth+1:=by
 first|rfl|simp[Around.under,Code.weight,Code.isCreation,Code.isGuard,Code.isCaller,Code.frames,Code.isFrame,guardIds]
theorem qF{A:Around}{C:Addr}{us:List Value}{a:List (Str×Value)}:(A.under (.builtin "type.__call__" ⟨.ref C::us,a⟩)).units=A.units+1:=by
 first|rfl|simp[Around.under,Code.cUnits,Code.frames,Code.isFrame]
theorem cL.make{k:Nat}{A:Around}(r:cL (k+1) A)(C:Addr)(us:List Value)(a:List (Str×Value)):cL k (A.under (.builtin "type.__call__" ⟨.ref C::us,a⟩)):=
 ⟨r.hd,by have:=r.dp;rw[qE];omega,by have:=r.un;rw[qF];omega⟩
theorem cL.depth{k:Nat}{A:Around}(r:cL k A):A.depth<recursionLimit:=by have:=r.dp;omega
theorem cL.units{k:Nat}{A:Around}(r:cL k A):A.units+64<cLine:=by have:=r.un;omega
noncomputable def yK:TA:=λ_ H Q=>Q [] H
noncomputable def FF(b:TE)(c:TA):TA:=λa H Q=>b a H λx d=>c a d λe f=>Q (x::e) f
section
variable{X:Cx}{e:Expr}{es:List Expr}{te:TE}{t:TA}{pos:Pos}
theorem kj:PA X [] yK:=λ_ _ _ _ H Q I h=>Calls.spliced_nil ⟨[],H,I,.nil,h⟩
theorem er(c:PE X e te)(d:PA X es t)(f:starEach (e::es) X.env=(false,eval e X.env)::starEach es X.env:=by rfl):PA X (e::es) (FF te t):=by
 intro a pins s b H Q I h;rw[f]
 show wpAny _ _ (spliced ((false,eval e X.env)::backTo a (starEach es X.env))) _ _ s
 refine Calls.spliced_cons (cD (c pins s b H _ I h) λu g ⟨x,H1,I1,r1,q1⟩=>?_)
 exact cD (d a pins g b H1 _ I1 q1) λj k ⟨i,H2,I2,r2,q2⟩=>⟨x::i,H2,I2,.cons r1 r2,q2⟩
def Ls(t:TA):TE:=λc H Q=>t c H λa b=>a.length<=sizeLine/\∀p,b p=none->Q (.ref p) (upd b p (.tup a))
def Lu(t:TA):TE:=λc H Q=>t c H λa b=>a.length<=sizeLine/\∀p,b p=none->Q (.ref p) (upd b p (.lst a))
theorem CD{x1}(h:PA X es t):PE X (.Tuple es x1 pos) (Ls t):=by
 intro pins s c H Q I d;refine wpAny_Tuple_spliced (cD (h pos pins s c H _ I d) λf a ⟨g,H1,I1,r,z,q⟩=>⟨by rw[←r.length];exact z,?_⟩)
 have i:H1 a.heap.objs.size=none:=I1.hok.fresh (Nat.le_refl _);refine⟨.ref a.heap.objs.size,upd H1 a.heap.objs.size (.tup g),I1.laid (t':=a.toks) (λb u e=>Heap.get?_push_of_some _ e) (Nat.le_refl _) ?_,rfl,q _ i⟩
 exact⟨z,f,r,⟨_,Heap.get?_push_size _ rfl,rfl,_,rfl⟩⟩
theorem CF(h:PA X es t):PE X (.List es pos) (Lu t):=by
 intro pins s c H Q I d;refine wpAny_List_spliced (cD (h pos pins s c H _ I d) λf a ⟨g,H1,I1,r,z,q⟩=>⟨by rw[←r.length];exact z,?_⟩)
 have i:H1 a.heap.objs.size=none:=I1.hok.fresh (Nat.le_refl _);refine⟨.ref a.heap.objs.size,upd H1 a.heap.objs.size (.lst g),I1.laid (t':=a.toks) (λb u e=>Heap.get?_push_of_some _ e) (Nat.le_refl _) ?_,rfl,q _ i⟩
 exact⟨z,f,0,r,Heap.get?_push_size _ rfl⟩
end
abbrev Sp:=List V->Hp->VK->XK->Prop
abbrev ug:=List Env->Hp->Shared->XK->Value->Shared->Prop
structure qG(P:Program)(w:World)(K:PySem.W.Frag)(mg:Str->Option Value)(base:Heap)(A:Around)(outer:List Env)(s:Shared)(H:Hp):Prop where
 frames:A.frames=some outer
 mod:Mod K mg base
 bs:∀b o,base.get? b=some o->s.heap.get? b=some o/\H b=none
 Bx:base.objs.size<=s.heap.objs.size
 jB:s.heap.FunFrames base outer
 Cc:∀b∈frs outer,H b=none
 hok:hX P w H s.heap
 bare:AllBare s.gens
def CE(outer:List Env)(P:Program)(w:World)(H:Hp)(s:Shared)(Q:VK)(u:Value)(a:Shared):Prop:=
 ∃v b,a.os=s.os/\AllBare a.gens/\Un (frs outer) [] H b s.heap a.heap/\hX P w b a.heap/\RelV v u/\Q v b
def CR(CX:ug)(outer:List Env)(P:Program)(w:World)(H:Hp)(s:Shared)(Q:VK)(E:XK)(r:Result)(a:Shared):Prop:=
 match r with
 |.ok (.ret u)=>CE outer P w H s Q u a
 |.ok _=>False
 |.error e=>CX outer H s E e a
structure c_(P:Program)(w:World)(K:PySem.W.Frag)(mg:Str->Option Value)(base:Heap)(CX:ug)(k:Nat)(f:Addr)(fd:FuncData)(ps:List Str)(sp:Sp):Prop where
 len:∀vs H Q E,sp vs H Q E->vs.length=ps.length
 run:∀(A:Around) (outer:List Env) (s:Shared) (H:Hp) (args:Args) (us:List Value) (vs:List V) (Q:VK) (E:XK),cL k A->qG P w K mg base A outer s H->BindsTo s fd args (ps.zip us)->Vals vs us->sp vs H Q E ->
  codeAny (model P w) A (.call (.ref f) args) (CR CX outer P w H s Q E) s
theorem c_.mono{P:Program}{w:World}{K:PySem.W.Frag}{mg:Str->Option Value}{base:Heap}{CX:ug}{j k:Nat}{f:Addr}{a:FuncData}{ps:List Str}{sp:Sp}(F:c_ P w K mg base CX j f a ps sp)(h:j<=k) :
  c_ P w K mg base CX k f a ps sp:=⟨F.len,λA outer s H args b c Q E d=>F.run A outer s H args b c Q E (d.mono h)⟩
theorem c_.imp{P:Program}{w:World}{K:PySem.W.Frag}{mg:Str->Option Value}{base:Heap}{CX:ug}{k:Nat}{f:Addr}{b:FuncData}{ps:List Str}{sp a:Sp}(F:c_ P w K mg base CX k f b ps sp)
  (h:∀vs H Q E,a vs H Q E->sp vs H Q E):c_ P w K mg base CX k f b ps a:=
 ⟨λvs H Q E q=>F.len vs H Q E (h _ _ _ _ q),λA outer s H args c vs Q E d e g i j=>F.run A outer s H args c vs Q E d e g i (h _ _ _ _ j)⟩
theorem qG.make{P:Program}{w:World}{K:PySem.W.Frag}{mg:Str->Option Value}{base:Heap}{A:Around}{outer:List Env}{s:Shared}{H:Hp}(e:qG P w K mg base A outer s H)(C:Addr)(us:List Value)(a:List (Str×Value)) :
  qG P w K mg base (A.under (.builtin "type.__call__" ⟨.ref C::us,a⟩)) outer s H:=⟨by first|exact e.frames | (simpa[Around.under,Code.envs,Code.isFrame,pushEnvs]using e.frames),e.mod,e.bs,e.Bx,e.jB,e.Cc,e.hok,e.bare⟩
section
variable{X:Cx}{pins:List (Addr×Obj)}{σ:St}{H:Hp}{s s':Shared}
theorem Inv.env0(I:Inv X pins σ H s):qG X.prog X.w X.K X.mg X.base X.A X.stack s H:=
 ⟨I.ok.frames,I.ok.mod,I.bs,Nat.le_trans I.ok.Bx I.sz,I.stack,I.rZ,I.hok,I.bare⟩
theorem Inv.after{Q:VK}{u:Value}(I:Inv X pins σ H s)(h:CE X.stack X.prog X.w H s Q u s'):EP X pins σ Q u s':=by
 obtain⟨v,e,f,bare,i,a,r,q⟩:=h;obtain⟨j,g,d,t,c⟩:=s';obtain rfl:c=s.os:=f;exact⟨v,e,I.call (h':=j) (g':=g) (d':=d) (t':=t) (ch:=[]) i a bare (λb z=>absurd z (by simp)),r,q⟩
end
noncomputable def BA(sp:Sp)(a:List V)(E:XK)(t:TA):TE:=λb H Q=>t b H λc d=>sp (c++a) d Q E
noncomputable def BB(C:Addr)(m:Str)(sp:Sp)(b:List V)(E:XK)(f:TE)(t:TA):TE:=λc H Q=>f c H λx d=>∃a g e,x=.ref a/\d a=some (.ins C g e)/\e.lookup m=none /\
 t c d λh i=>sp (x::(h++b)) i Q E
def BC(C:Addr)(sp:Sp)(b:List V)(E:XK)(t:TA):TE:=λd H Q=>t d H λe c=>∀x a,c x=none->c a=none->a≠x ->
 sp (.ref x::(e++b)) (upd (upd c a (.own x)) x (.ins C a [])) (λv f=>v=.non/\Q (.ref x) f) E
def Binds(K:PySem.W.Frag)(b:FuncData)(ps:List Str)(ds:List Value):Prop:=
 ∀(s:Shared) (a:List Value),K.In s.heap->(a++ds).length=ps.length->BindsTo s b ⟨a,[]⟩ (ps.zip (a++ds))
theorem Binds.all{K:PySem.W.Frag}{a:FuncData}{ps:List Str}(h:∀us:List Value,us.length=ps.length->bindArgs a ⟨us,[]⟩=pure (ps.zip us)):Binds K a ps []:=λs us _ b=>by
 rw[List.append_nil]at b ⊢;exact .of_eq (h us b)
def Passes(CX:ug)(X:Cx)(E:XK):Prop:=∀(pins:List (Addr×Obj)) (b:St) (H:Hp) (s:Shared) (e:Value) (a:Shared),Inv X pins b H s->CX X.stack H s E e a->X.xe e a
section
variable{X:Cx}{CX:ug}{k:Nat}{f C:Addr}{fd:FuncData}{ps:List Str}{sp:Sp}{m9:List V}{ds:List Value}{E:XK}{x m:Str}{p pos apos:Pos}{e o:Expr}{es:List Expr}{ta:TE}{t:TA}
theorem m_{pins:List (Addr×Obj)}{b:St}{H:Hp}{s:Shared}{Q:VK}{us:List Value}{vs:List V}(F:c_ X.prog X.w X.K X.mg X.base CX k f fd ps sp)(d:cL k X.A)(g:Binds X.K fd ps ds)(i:Vals m9 ds)(j:Passes CX X E)
  (I:Inv X pins b H s) (r:Vals vs us) (h:sp (vs++m9) H Q E):wpAny (model X.prog X.w) X.A (call (.ref f) us) (EP X pins b Q) X.xe s:=by
 have c:Vals (vs++m9) (us++ds):=r.append i;have l:(us++ds).length=ps.length:=by rw[←c.length];exact F.len _ _ _ _ h
 refine wpAny_call (codeAny_mono (F.run X.A X.stack s H ⟨us,[]⟩ (us++ds) (vs++m9) Q E d I.env0 (g s us I.ik l) c h) λr m a=>?_)
 cases r with
 |error e=>exact j pins b H s e m I a
 |ok fl=>
  cases fl with
  |ret u=>exact I.after a
  |next=>exact False.elim a
  |brk=>exact False.elim a
  |cont=>exact False.elim a
theorem sg(F:c_ X.prog X.w X.K X.mg X.base CX k f fd ps sp)(c:cL k X.A)(d:Gl X x)(g:X.mg x=some (.ref f))(i:PySem.W.keepIn X.K (.ref f)=true)(j:Binds X.K fd ps ds)(l:Vals m9 ds)(m:Passes CX X E)
  (n:PA X (e::es) t) (a:(x==("__debug__":Str))=false:=by decide) (o:starEach (e::es) X.env=(false,eval e X.env)::starEach es X.env:=by rfl) (b:(backTo pos (starEach es X.env)).any (·.1)=false:=by rfl) :
  PE X (.Call (.Name x p) (e::es) [] pos) (BA sp m9 E t):=by
 intro pins s u H Q I h;refine wpAny_Call_Name_kw (il I d g ?_ a);refine PySem.W.callWith_K (h₀:=X.base) I.ok.mod.Fl i (cD (n pos pins s u H _ I h) λy z ⟨B,H1,I1,r,q⟩=>⟨I1.ik,?_⟩) o b
 exact m_ F c j l m I1 r q
theorem vL(F:c_ X.prog X.w X.K X.mg X.base CX k f fd ps sp)(b:cL k X.A)(c:Gl X x)(d:X.mg x=some (.ref f))(e:PySem.W.keepIn X.K (.ref f)=true)(g:Binds X.K fd ps ds)(i:Vals m9 ds)(j:Passes CX X E)
  (a:(x==("__debug__":Str))=false:=by decide):PE X (.Call (.Name x p) [] [] pos) (BA sp m9 E yK):=by
 intro pins s l H Q I h;refine wpAny_Call_Name_kw (il I c d ?_ a);exact PySem.W.callWith_K0 I.ik e (m_ (us:=[]) F b g i j I .nil h)
theorem yL{pl:Sem Bool}(n:PE X o ta)(c:oH X.K C)(g:Meth X.K C m f)(F:c_ X.prog X.w X.K X.mg X.base CX k f fd ps sp)(p:cL k X.A)(y:Binds X.K fd ps ds)(z:Vals m9 ds)(B:Passes CX X E)(D:PA X (e::es) t)
  (b:starEach (e::es) X.env=(false,eval e X.env)::starEach es X.env:=by rfl) (d:(backTo pos (starEach es X.env)).any (·.1)=false:=by rfl)
  (G:eval (.Call (.Attribute o m apos) (e::es) [] pos) X.env=(do
   let i ←eval o X.env
   standAt apos.atName
   let (f,first) ←holding [i] (getMethod i m pl)
   callWith pos f first (backTo pos (starEach (e::es) X.env)) (backToKw pos (keywordEach [] X.env))):=by rfl) :
  PE X (.Call (.Attribute o m apos) (e::es) [] pos) (BB C m sp m9 E ta t):=by
 intro pins s j H Q I h;refine PySem.W.methodCall_KW (pl:=pl) (cD (n pins s j H _ I h) λu J ⟨x,H1,I1,rx,a,dx,fs,ex,ea,l,q⟩=>?_) G
 subst ex;obtain rfl:u=Value.ref a:=rx;refine ki I1 ea c g l ?_;refine PySem.W.callWith_K (first:=[.ref a]) (h₀:=X.base) I.ok.mod.Fl g.kp (cD (D pos pins J j H1 _ I1 q) λus L ⟨vs,H2,I2,r,q2⟩=>⟨I2.ik,?_⟩) b d
 exact m_ (us:=.ref a::us) (vs:=.ref a::vs) F p y z B I2 (.cons rfl r) q2
theorem vM{pl:Sem Bool}(e:PE X o ta)(c:oH X.K C)(b:Meth X.K C m f)(F:c_ X.prog X.w X.K X.mg X.base CX k f fd ps sp)(g:cL k X.A)(i:Binds X.K fd ps ds)(j:Vals m9 ds)(n:Passes CX X E)
  (p:eval (.Call (.Attribute o m apos) [] [] pos) X.env=(do
   let d ←eval o X.env
   standAt apos.atName
   let (f,first) ←holding [d] (getMethod d m pl)
   callWith pos f first (backTo pos (starEach [] X.env)) (backToKw pos (keywordEach [] X.env))):=by rfl) :
  PE X (.Call (.Attribute o m apos) [] [] pos) (BB C m sp m9 E ta yK):=by
 intro pins s r H Q I h;refine PySem.W.methodCall_KW (pl:=pl) (cD (e pins s r H _ I h) λu t ⟨x,H1,I1,rx,a,dx,fs,ex,ea,l,q⟩=>?_) p
 subst ex;obtain rfl:u=Value.ref a:=rx;refine ki I1 ea c b l ?_;exact PySem.W.callWith_K0 (first:=[.ref a]) I1.ik b.kp (m_ (us:=[.ref a]) (vs:=[.ref a]) F g i j n I1 (.cons rfl .nil) q)
structure Mk(K:PySem.W.Frag)(C f:Addr):Prop where
 makes:PySem.W.makesIn K C=true
 init:PySem.W.findIn K (.ref C) "__init__"=some (some (.ref f))
 fn:PySem.W.isFn K (.ref f)=true
 kp:PySem.W.keepIn K (.ref C)=true
theorem oJ{pins:List (Addr×Obj)}{d:St}{H:Hp}{s:Shared}{Q:VK}{us:List Value}{vs:List V}(M:Mk X.K C f)(F:c_ X.prog X.w X.K X.mg X.base CX k f fd ps sp)(j:cL (k+1) X.A)(l:Binds X.K fd ps ds)(m:Vals m9 ds)
  (n:Passes CX X E) (I:Inv X pins d H s) (r:Vals vs us)
  (h:∀x b,H x=none->H b=none->b≠x->sp (.ref x::(vs++m9)) (upd (upd H b (.own x)) x (.ins C b [])) (λv o=>v=.non/\Q (.ref x) o) E) :
  wpAny (model X.prog X.w) X.A (call (.ref C) us) (EP X pins d Q) X.xe s:=by
 have g:=h (s.heap.objs.size+1) s.heap.objs.size (I.hok.fresh (Nat.le_succ _)) (I.hok.fresh (Nat.le_refl _)) (Nat.ne_of_lt (Nat.lt_succ_self _));have c:=Inv.made (C:=C) I;have i:Vals (V.ref (s.heap.objs.size+1)::(vs++m9)) (Value.ref (s.heap.objs.size+1)::(us++ds)):=.cons rfl (r.append m)
 have p:(Value.ref (s.heap.objs.size+1)::us++ds).length=ps.length:=by
  have e:=i.length;rw[F.len _ _ _ _ g]at e;exact e.symm
 refine wpAny_call (vK (f:=f) I.ik M.makes M.init (beq_iff_eq.mp M.fn) (codeAny_mono (F.run _ X.stack _ _ ⟨Value.ref (s.heap.objs.size+1)::us,[]⟩ (Value.ref (s.heap.objs.size+1)::(us++ds)) _ _ E (j.make C us [])
  (c.env0.make C us []) (l _ (Value.ref (s.heap.objs.size+1)::us) c.ik p) i g) λr q a=>?_))
 cases r with
 |error e=>exact n pins d _ _ e q c a
 |ok fl=>
  cases fl with
  |ret u=>
   obtain⟨v,t,y,z,B,D⟩:=c.after a;subst B;exact⟨z,⟨V.ref (s.heap.objs.size+1),t,y,rfl,D⟩⟩
  |next=>exact False.elim a
  |brk=>exact False.elim a
  |cont=>exact False.elim a
theorem yM(M:Mk X.K C f)(F:c_ X.prog X.w X.K X.mg X.base CX k f fd ps sp)(c:cL (k+1) X.A)(d:Gl X x)(g:X.mg x=some (.ref C))(i:Binds X.K fd ps ds)(j:Vals m9 ds)(l:Passes CX X E)
  (m:PA X (e::es) t) (a:(x==("__debug__":Str))=false:=by decide) (n:starEach (e::es) X.env=(false,eval e X.env)::starEach es X.env:=by rfl) (b:(backTo pos (starEach es X.env)).any (·.1)=false:=by rfl) :
  PE X (.Call (.Name x p) (e::es) [] pos) (BC C sp m9 E t):=by
 intro pins s o H Q I h;refine wpAny_Call_Name_kw (il I d g ?_ a);refine PySem.W.callWith_K (h₀:=X.base) I.ok.mod.Fl M.kp (cD (m pos pins s o H _ I h) λu y ⟨z,H1,I1,r,q⟩=>⟨I1.ik,?_⟩) n b
 exact oJ M F c i j l I1 r q
theorem vO(M:Mk X.K C f)(F:c_ X.prog X.w X.K X.mg X.base CX k f fd ps sp)(b:cL (k+1) X.A)(c:Gl X x)(d:X.mg x=some (.ref C))(e:Binds X.K fd ps ds)(g:Vals m9 ds)(i:Passes CX X E)
  (a:(x==("__debug__":Str))=false:=by decide):PE X (.Call (.Name x p) [] [] pos) (BC C sp m9 E yK):=by
 intro pins s j H Q I h;refine wpAny_Call_Name_kw (il I c d ?_ a);exact PySem.W.callWith_K0 I.ik M.kp (oJ (us:=[]) M F b e g i I .nil h)
end
section
variable{X:Cx}{CX:ug}{k:Nat}{f C:Addr}{fd:FuncData}{ps ks:List Str}{sp:Sp}{E:XK}{x m:Str}{p pos apos RC:Pos}{e o:Expr}{es:List Expr}{kws:List Keyword}{te ta:TE}{t tk:TA}{nm:Option Str}
variable{g:List Value->List Value->List Value}{gV:List V->List V->List V}
end
structure jM(N P:List Str)(sc:Scope):Prop where
 kind:sc.kind=.function
 co:sc.isCoroutine=false
 gen:sc.isGenerator=false
 nd:N.Nodup
 pre:N.take P.length=P
 par:∀x∈P,sc.names.lookup x=some .local\/sc.names.lookup x=some .cell
 CG:∀y∈sc.names,y.2≠.free
theorem lZ{kindOf:Str->Option NameKind}{x:Str}:∀{binds:List (Str×Value)}{m:Str->Option Value},(∀v,(x,v)∉binds)->bindL kindOf binds m x=m x
 |[],_,_=>rfl
 | (n,v)::r,m,h=>by
  unfold bindL;rw[lZ λw a=>h w (List.mem_cons_of_mem _ a)]
  split
  .have:x≠n:=by rintro rfl;exact h v List.mem_cons_self
   simp[this]
  .rfl
theorem l9{kindOf:Str->Option NameKind}{x:Str}:∀{binds:List (Str×Value)}{m:Str->Option Value},(∀v,(x,v)∉binds)->bindC kindOf binds m x=m x
 |[],_,_=>rfl
 | (n,v)::r,m,h=>by
  unfold bindC;rw[l9 λw a=>h w (List.mem_cons_of_mem _ a)]
  split
  .rfl
  .have:x≠n:=by rintro rfl;exact h v List.mem_cons_self
   simp[this]
theorem l_{kindOf:Str->Option NameKind}{x:Str}{v:Value}:∀{P:List Str}{vs:List Value}{i:Nat}{m:Str->Option Value},P.Nodup->P[i]?=some x->vs[i]?=some v->kindOf x=some .local ->
  bindL kindOf (P.zip vs) m x=some v
 |[],_,_,_,_,h,_,_=>by simp at h
 |_::_,[],_,_,_,_,h,_=>by simp at h
 |p::P,w::vs,0,m,a,h1,h2,b=>by
  simp at h1 h2;subst h1;subst h2
  show bindL kindOf ((p,w)::P.zip vs) m p=_
  unfold bindL;rw[lZ λv c=>(List.nodup_cons.mp a).1 (List.of_mem_zip c).1,if_pos b]
  simp
 |p::P,w::vs,i+1,m,a,h1,h2,b=>by
  show bindL kindOf ((p,w)::P.zip vs) m x=_
  unfold bindL;exact l_ (i:=i) (List.nodup_cons.mp a).2 (by simpa using h1) (by simpa using h2) b
theorem mf{kindOf:Str->Option NameKind}{x:Str}{v:Value}:∀{P:List Str}{vs:List Value}{i:Nat}{m:Str->Option Value},P.Nodup->P[i]?=some x->vs[i]?=some v->kindOf x≠some .local ->
  bindC kindOf (P.zip vs) m x=some v
 |[],_,_,_,_,h,_,_=>by simp at h
 |_::_,[],_,_,_,_,h,_=>by simp at h
 |p::P,w::vs,0,m,a,h1,h2,b=>by
  simp at h1 h2;subst h1;subst h2
  show bindC kindOf ((p,w)::P.zip vs) m p=_
  unfold bindC;rw[l9 λv c=>(List.nodup_cons.mp a).1 (List.of_mem_zip c).1,if_neg b]
  simp
 |p::P,w::vs,i+1,m,a,h1,h2,b=>by
  show bindC kindOf ((p,w)::P.zip vs) m x=_
  unfold bindC;exact mf (i:=i) (List.nodup_cons.mp a).2 (by simpa using h1) (by simpa using h2) b
noncomputable def start(N:List Str)(vs:List V):St:=vs.map some++List.replicate (N.length - vs.length) none
noncomputable def oK(CX:ug)(P:Program)(w:World)(K:PySem.W.Frag)(mg:Str->Option Value)(base:Heap)(N:List Str)(qual:Str)(scope:Scope)(f:Addr)(b:Value)(A:Around)(outer:List Env)(s:Shared)(H:Hp)(E:XK):Cx where
 prog:=P
 w:=w
 K:=K
 mg:=mg
 base:=base
 A:=A.deeper (envOfC qual scope s.heap.objs.size f b)
 N:=N
 s₀:=s
 H₀:=H
 env:=envOfC qual scope s.heap.objs.size f b
 outer:=outer
 stack:=envOfC qual scope s.heap.objs.size f b::outer
 ex:=[]
 calm:=true
 fn:=λ_=>true
 pn:=[]
 xe:=λe c=>wpAny (model P w) (A.deeper (envOfC qual scope s.heap.objs.size f b)) (leaving (envOfC qual scope s.heap.objs.size f b) e) (λ_ a=>CX outer H s E e a) (λd a=>CX outer H s E d a) c
theorem oM{a:Scope}{n:Nat}{x:Str}(h:a.names.lookup x=some .cell):∃c,(cellsFrom n a.names []).lookup x=some c:=by
 have q:=PySem.W.cellsFrom_some a.names n [] (.inl h);exact Option.isSome_iff_exists.mp q
theorem uh{CX:ug}{P:Program}{w:World}{K:PySem.W.Frag}{mg:Str->Option Value}{base:Heap}{N ps:List Str}{qual:Str}{scope:Scope}{f:Addr}{o:Value}{A:Around}{outer:List Env}{s C:Shared}{H:Hp}{E:XK}{us:List Value}{vs:List V}
  (S:jM N ps scope) (I:A.handled=none) (g:qG P w K mg base A outer s H) (O:vs.length=ps.length) (r:Vals vs us)
  (x:InCallC s s.heap.objs.size (bindL (envOfC qual scope s.heap.objs.size f o).kindOf (ps.zip us) λ_=>none) (cellsFrom (s.heap.objs.size+1) scope.names []) (bindC (envOfC qual scope s.heap.objs.size f o).kindOf (ps.zip us) λ_=>none) C) :
  Inv (oK CX P w K mg base N qual scope f o A outer s H E) [] (start N vs) H C:=by
 have J:ps.length<=N.length:=by have:=congrArg List.length S.pre;rw[List.length_take]at this;omega
 obtain⟨t,Q,rfl,D⟩:=x.done;have j:∀b:Addr,b∉(oK CX P w K mg base N qual scope f o A outer s H E).ex:=λb z=>absurd (show b∈([]:List Addr)from z) (by simp)
 refine⟨⟨g.mod,S.kind,rfl,rfl,Nat.le_refl _,λy z c t d=>?_,λy hy=>?_,λy c _ h=>?_,λ_=>I,Around.frames_deeper g.frames,.inr ⟨rfl,rfl⟩,λb z=>absurd z (j b),g.bs,g.Bx,λb _ _=>j b,λb z=>absurd z (j b),g.jB,g.Cc⟩,
  rfl,g.bare,Un.kept D,⟨_,x.toInCall.ns,λi y v t d R=>?_⟩,λy c h=>⟨_,x.cell y c h⟩,g.hok.fresh (Nat.le_refl _),λy c h=>?_,λp l=>absurd (show p∈([]:List (Addr×Obj))from l) (by simp),g.hok.kept D,?_⟩
 .exact name_of_addr x.apart (PySem.mem_of_lookup t) (PySem.mem_of_lookup d)
 .have hy:scope.names.lookup y=some .cell\/scope.names.lookup y=some .free:=hy
  rcases hy with hy|hy
  .exact oM hy
  .exact absurd rfl (S.CG _ (PySem.mem_of_lookup hy))
 .exact Nat.le_of_lt (x.above y c (PySem.mem_of_lookup h))
 .have B:i<vs.length:=by
   unfold start at d
   by_cases B:i<vs.length
   .exact B
   .rw[List.getElem?_append_right (by simpa using B)]at d
    rw[List.getElem?_replicate]at d;split at d<;>cases d
  have L:vs[i]?=some v:=by
   unfold start at d;rw[List.getElem?_append_left (by simpa using B),List.getElem?_map]at d
   cases e:vs[i]? with
   |none=>rw[e]at d;cases d
   |some a=>rw[e]at d;cases d;rfl
  obtain⟨u,F,M⟩:=r.get L
  have l:ps[i]?=some y:=by
   rw[←S.pre,List.getElem?_take_of_lt (by omega)];exact t
  have m:ps.Nodup:=by rw[←S.pre];exact S.nd.sublist (List.take_sublist _ _)
  refine⟨u,M,?_⟩;rcases S.par y (List.mem_of_getElem? l)with k|k
  .exact .inl ⟨k,l_ m l F k⟩
  .obtain⟨c,e⟩:=oM (n:=s.heap.objs.size+1) k
   refine .inr ⟨.inl k,c,e,?_⟩;have q:=x.cell y c e;rw[mf m l F (by show scope.names.lookup y≠_;rw[k];decide)]at q
   exact q
 .have G:=g.hok.fresh (Nat.le_of_lt (x.above y c (PySem.mem_of_lookup h)))
  exact⟨.inl G,λ_=>G⟩
 .unfold start
  show _=N.length
  rw[List.length_append,List.length_map,List.length_replicate];omega
theorem BD{CX:ug}{P:Program}{w:World}{K:PySem.W.Frag}{mg:Str->Option Value}{base:Heap}{k:Nat}{f:Addr}{name qual:Str}{params:Arguments}{body:List Stmt}{scope:Scope}{M kV j O a ct oc:Value}{R X:Option Addr}
  {B:Array (Option Value)}{N ps:List Str}{sp:Sp} (Y:K.lookup f=some ⟨oc,X,.func (PySem.W.fnOf name qual params body scope M kV j O R a ct),B⟩) (C:PySem.W.codeIn K a qual=true) (S:jM N ps scope)
  (l:∀vs H Q E,sp vs H Q E->vs.length=ps.length)
  (g:∀(A:Around) (outer:List Env) (s:Shared) (H:Hp) (vs:List V) (Q:VK) (E:XK),cL k (A.deeper (envOfC qual scope s.heap.objs.size f a))->sp vs H Q E ->
   ∃t,jk (oK CX P w K mg base N qual scope f a A outer s H E) body t/\t {nx:=λ_ d=>Q .non d,rt:=Q} (start N vs) H) :
  c_ P w K mg base CX (k+1) f (PySem.W.fnOf name qual params body scope M kV j O R a ct) ps sp:=by
 refine⟨l,λA outer s H args Z vs Q E D m hb r p=>?_⟩
 have hl:=l _ _ _ _ p;have T:K.In s.heap:=m.mod.Fl.keeps λb o e=>(m.bs b o e).1
 have F:s.heap.NoLimit:=m.mod.nolimit.keeps λb o e=>(m.bs b o e).1
 have h:∀y∈ps.zip Z,scope.names.lookup y.1=some .local\/(scope.names.lookup y.1=some .cell/\((cellsFrom (s.heap.objs.size+1) scope.names []).lookup y.1).isSome=true):=λ⟨n,v⟩ hy=>by
  rcases S.par n (List.of_mem_zip hy).1 with q|q
  .exact .inl q
  .exact .inr ⟨q,PySem.W.cellsFrom_some _ _ _ (.inl q)⟩
 refine codeAny_call_function D.depth (T _ _ Y) rfl S.co S.gen rfl (PySem.W.codeRec_of T C) (hb _ _ _ _ ?_);refine wpAny_newFunctionEnv_cells S.kind h λa0 he U x=>?_
 subst he;refine⟨F.keeps x.toInCall.keep,codeAny_func ?_⟩;obtain⟨t,ht,hq⟩:=g A outer s H vs Q E (D.deeper _) p;have I:Inv (oK CX P w K mg base N qual scope f a A outer s H E) [] (start N vs) H U:=uh S D.hd m hl r x;refine wpAny_mono (ht [] U (start N vs) H _ I hq) (λfl G i=>?_) λe G i=>i
 have z:∀{c:St}{d:Hp}{v:V}{u:Value},Inv (oK CX P w K mg base N qual scope f a A outer s H E) [] c d G->RelV v u->Q v d->CE outer P w H s Q u G:=
  λ{c d v u} J L q=>⟨v,d,J.os,J.bare,J.base,J.hok,L,q⟩
 cases fl with
 |ret u=>
  obtain⟨v,c,d,J,L,q⟩:=i;exact z J L q
 |next=>
  obtain⟨c,d,J,q⟩:=i;exact z (v:=V.non) (u:=Value.none) J rfl q
 |brk=>
  obtain⟨_,_,_,q⟩:=i;exact False.elim q
 |cont=>
  obtain⟨_,_,_,q⟩:=i;exact False.elim q
section
variable{X:Cx}{x:Str}{p pos:Pos}{e:Expr}{es:List Expr}{t:TA}{id T:String}{r:List V->Hp->VK->Prop}
noncomputable def PV(r:List V->Hp->VK->Prop)(t:TA):TE:=λa H Q=>t a H λb c=>r b c Q
theorem kk(d:dn X (.builtin id) r)(f:Gl X x)(g:X.mg x=none)(i:bootBuiltins x=some (.builtin id))(j:PA X (e::es) t)(k:x≠"__name__":=by decide)(a:(x==("__debug__":Str))=false:=by decide)
  (l:starEach (e::es) X.env=(false,eval e X.env)::starEach es X.env:=by rfl) (b:(backTo pos (starEach es X.env)).any (·.1)=false:=by rfl):PE X (.Call (.Name x p) (e::es) [] pos) (PV r t):=by
 intro pins s c H Q I h;refine wpAny_Call_Name_kw (hY I f g i ?_ k a);exact PyProof.Rows.callWith_builtin1 (cD (j pos pins s c H _ I h) λm n ⟨o,H1,I1,r1,q1⟩=>d pins n c H1 o m Q I1 r1 q1) l b
theorem ui(d:dn X (.type T) r)(f:Gl X x)(g:X.mg x=none)(i:bootBuiltins x=some (.type T))(j:PA X (e::es) t)(k:x≠"__name__":=by decide)(a:(x==("__debug__":Str))=false:=by decide)
  (l:starEach (e::es) X.env=(false,eval e X.env)::starEach es X.env:=by rfl) (b:(backTo pos (starEach es X.env)).any (·.1)=false:=by rfl):PE X (.Call (.Name x p) (e::es) [] pos) (PV r t):=by
 intro pins s c H Q I h;refine wpAny_Call_Name_kw (hY I f g i ?_ k a);exact PyProof.Rows.callWith_type1 (cD (j pos pins s c H _ I h) λm n ⟨o,H1,I1,r1,q1⟩=>d pins n c H1 o m Q I1 r1 q1) l b
end
end L2
namespace HT
open PySem PyProof.Rows
section
open PySem.SeqAt
open PySem.AutoSeq1 (wpAny_loadPart')
open PySem.MeetsSeq PySem.MeetsSeq2 PySem.MeetsSeq3
end
section
variable{prog:Program}{w:World}{A:Around}{E:Value->Shared->Prop}{s:Shared}
theorem yN{t b:Addr}{vs a:List Value}{Q:Value->Shared->Prop}(u:IsTup s.heap t vs.toArray)(x:IsTup s.heap b a.toArray)(k:vs≠[])
  (y:a=[]->Q (.ref t) s) (z:a≠[]->Q (.ref s.heap.objs.size) {s with heap:=s.heap.push {cls:=.type "tuple",data:=.seq (vs++a).toArray} })
  (hsz:vs.length+a.length<=sizeLine):wpAny (model prog w) A (binaryOp .Add (.ref t) (.ref b)) Q E s:=by
 obtain⟨⟨cls,l,data,m⟩,i,o,n,p⟩:=id u;obtain⟨⟨q,d,data2,f⟩,c,g,r,h⟩:=id x;simp only at o p g h;subst o p g h;have e:vs.toArray++a.toArray=(vs++a).toArray:=by simp
 by_cases j:a=[]
 .exact concat_meets ⟨_,i,rfl⟩ ⟨_,c,rfl⟩ noFill_tuple_add seq_tuple_add PySem.F.slot_tuple_add PySem.F.entry_tuple_add (PySem.F.args_tuple_add_2 _ _)
   (tuple_addW1 t b vs.toArray a.toArray n r l d m f (by simpa using k) (by simp[j])) ⟨i,c,y j⟩
 .refine concat_meets ⟨_,i,rfl⟩ ⟨_,c,rfl⟩ noFill_tuple_add seq_tuple_add PySem.F.slot_tuple_add PySem.F.entry_tuple_add (PySem.F.args_tuple_add_2 _ _)
   (tuple_addW2 t b vs.toArray a.toArray n r l d m f (by simpa using k) (by simpa using j) (by rw[List.size_toArray,List.size_toArray];exact hsz)) ⟨i,c,?_⟩
  rw[e];exact z j
noncomputable def cG(n d:Nat):Option Int->Nat
 |none=>d
 |some v=>if v<0 then (v+(n:Int)).toNat else min v.toNat n
theorem oN(n d:Nat):cG n d none=d:=rfl
theorem jN(n d k:Nat):cG n d (some (k:Int))=min k n:=by
 show(if (k:Int)<0 then ((k:Int)+(n:Int)).toNat else min (k:Int).toNat n)=min k n
 rw[if_neg (by omega),Int.toNat_natCast]
theorem ng(n d:Nat)(b:d<=n)(o:Option Int):cG n d o<=n:=by
 cases o with
 |none=>exact b
 |some v=>
  show(if v<0 then (v+(n:Int)).toNat else min v.toNat n)<=n
  by_cases a:v<0
  .rw[if_pos a];omega
  .rw[if_neg a];exact Nat.min_le_right _ _
theorem sh(v:Int)(n d:Nat):(if v<0 then max (v+(n:Int)) 0 else min v (n:Int))=((cG n d (some v):Nat):Int):=by
 show(if v<0 then max (v+(n:Int)) 0 else min v (n:Int))=(((if v<0 then (v+(n:Int)).toNat else min v.toNat n):Nat):Int)
 by_cases a:v<0
 .simp only[if_pos a];omega
 .simp only[if_neg a];omega
theorem qH(a b:Option Int)(n:Nat):Builtin.Slice.sliceAdjust a b 1 (n:Int)=(((cG n 0 a:Nat):Int),((cG n n b:Nat):Int)):=by
 have c:¬ ((1:Int)<0):=by omega
 unfold Builtin.Slice.sliceAdjust;simp only[c,if_false];refine Prod.ext ?_ ?_
 .cases a with
  |none=>rfl
  |some v=>exact sh v n 0
 .cases b with
  |none=>rfl
  |some v=>exact sh v n n
theorem qI(i j:Nat):Builtin.Slice.slicePlaces (i:Int) (j:Int) 1=j - i:=by
 unfold Builtin.Slice.slicePlaces;have a:(1:Int)>0:=by omega
 simp only[a,if_true,Int.ediv_one];split<;>omega
theorem km{v:Value}{o:Option Int}{Q:Option Int->Shared->Prop}(p:IsPart v o)(h:Q o s):wpAny (model prog w) A (Builtin.Slice.slicePartIndex v) Q E s:=by
 cases p with
 |none=>exact slicePart_none h
 |int i t=>exact slicePart_int h
theorem fg{g:Addr}{e f:Value}{a b:Option Int}{n:Nat}{Q:Int×Int×Nat->Shared->Prop}(i:s.heap.IsSliceOf g e f .none)(pl:IsPart e a)(j:IsPart f b)
  (h:Q (((cG n 0 a:Nat):Int),1,cG n n b - cG n 0 a) s):wpAny (model prog w) A (Builtin.Slice.sliceApplied (.ref g) (pure (n:Int))) Q E s:=by
 obtain⟨l,c,k,d⟩:=id i;unfold Builtin.Slice.sliceApplied Builtin.Slice.sliceFields;refine wpAny_bind (wpAny_bind (wpAny_field c d (x:=e) rfl (wpAny_bind (wpAny_field c d (x:=f) rfl (wpAny_bind (wpAny_field c d (x:=.none) rfl (wpAny_pure ?_)))))));refine wpAny_bind (slicePart_none ?_)
 show wpAny _ _ (if ((1:Int)==0)=true then _ else _) _ _ s
 rw[if_neg (by decide)]
 refine wpAny_bind (km pl (wpAny_bind (km j (wpAny_bind (wpAny_pure ?_)))))
 show wpAny _ _ (match Builtin.Slice.sliceAdjust a b 1 (n:Int)with | (a,b)=>pure (a,(1:Int),Builtin.Slice.slicePlaces a b 1)) _ _ s
 rw[qH a b n]
 show wpAny _ _ (pure (((cG n 0 a:Nat):Int),(1:Int),Builtin.Slice.slicePlaces ((cG n 0 a:Nat):Int) ((cG n n b:Nat):Int) 1)) _ _ s
 rw[qI];exact wpAny_pure h
theorem vP(xs:Array Value)(i k:Nat):((List.range k).filterMap λ(m:Nat)=>xs[((i:Int)+(m:Int)*1).toNat]?).toArray=((xs.toList.drop i).take k).toArray:=by
 have e:(λ(m:Nat)=>xs[((i:Int)+(m:Int)*1).toNat]?)=λm=>xs[i+m]?:=by
  funext m
  have:((i:Int)+(m:Int)*1).toNat=i+m:=by omega
  rw[this]
 rw[e];have:=pick_run xs i k;rw[List.filterMap_map]at this;have a:((λx=>xs[x]?) ∘ λx=>i+x)=λm=>xs[i+m]?:=rfl
 rw[a]at this;rw[this]
theorem iq{t e:Addr}{items:Array Value}{k l:Value}{b c:Option Int}{Q:Value->Shared->Prop}(d:IsTup s.heap t items)(n:s.heap.IsSliceOf e k l .none)(pl:IsPart k b)(o:IsPart l c)
  (p:¬ (cG items.size 0 b=0/\cG items.size items.size c=items.size))
  (h:Q (.ref s.heap.objs.size) {s with heap:=s.heap.push {cls:=.type "tuple",data:=.seq ((items.toList.drop (cG items.size 0 b)).take (cG items.size items.size c - cG items.size 0 b)).toArray} })
  (hsz:items.size<=sizeLine):wpAny (model prog w) A (getItem (.ref t) (.ref e)) Q E s:=by
 have a:sizeOk (.seq ((items.toList.drop (cG items.size 0 b)).take (cG items.size items.size c - cG items.size 0 b)).toArray):=by
  show((items.toList.drop (cG items.size 0 b)).take (cG items.size items.size c - cG items.size 0 b)).toArray.size<=sizeLine
  rw[List.size_toArray,List.length_take,List.length_drop,Array.length_toList];omega
 have x:cG items.size items.size c<=items.size:=ng _ _ (Nat.le_refl _) c;obtain⟨r,f,g,u⟩:=id n;have i:s.TypeIs (.ref e) "slice":=⟨r,f,g⟩;unfold getItem
 try with_reducible refine wpAny_holding ?_
 first|refine wpAny_bind (wpAny_pure ?_)|skip
 refine wpAny_bind (wpAny_sequenceKey d.typeIs (by decide) ?_)
 refine wpAny_bind (wpAny_callSpecial?_slot (name:=Str.ofString "__getitem__") d.typeIs PyProof.Rows.slot_tuple_getitem
  (wpAny_call_entry PyProof.Rows.slot_tuple_getitem d.typeIs entry_tuple_getitem ?_ (args_tuple_getitem _ _)))
 show wpAny _ _ (Builtin.Tuple.tupleItemsOf (.ref t) >>= _) _ _ s
 refine wpAny_bind (tupleItemsOf_ d ?_);refine wpAny_bind (wpAny_typeOf i ?_);rw[if_pos (by decide)]
 refine wpAny_bind (fg n pl o ?_)
 have j:¬ ((((cG items.size 0 b:Nat):Int)==0&&(1:Int)==1&&(cG items.size items.size c - cG items.size 0 b)==items.size)=true):=by
  intro q;rw[Bool.and_eq_true,Bool.and_eq_true]at q;have y:((cG items.size 0 b:Nat):Int)=0:=eq_of_beq q.1.1;have z:cG items.size items.size c - cG items.size 0 b=items.size:=eq_of_beq q.2;exact p ⟨by omega,by omega⟩
 show wpAny _ _ (if (((cG items.size 0 b:Nat):Int)==0&&(1:Int)==1&&(cG items.size items.size c - cG items.size 0 b)==items.size)=true then _ else _) _ _ s
 rw[if_neg j,vP]
 first
  |exact wpAny_bind (m:=Builtin.Tuple.tupleExact _) (wpAny_newObj_type (wpAny_pure ⟨_,rfl,wpAny_pure h⟩) a)
  |exact wpAny_bind (m:=Builtin.Tuple.tupleExact _) (wpAny_newObj_type (wpAny_bind (wpAny_pure (wpAny_pure ⟨_,rfl,wpAny_pure h⟩))) a)
  |exact wpAny_bind (wpAny_bind (m:=Builtin.Tuple.tupleExact _) (wpAny_newObj_type (wpAny_pure (wpAny_pure ⟨_,rfl,wpAny_pure h⟩)) a))
  |exact wpAny_bind (wpAny_bind (m:=Builtin.Tuple.tupleExact _) (wpAny_newObj_type (wpAny_pure ⟨_,rfl,wpAny_pure h⟩) a))
end
end HT
namespace L2
open PySem PySem.Spec PyProof.Rows
abbrev TO:=St->Hp->(Option Int->Hp->Prop)->Prop
def PO(X:Cx)(e:Option Expr)(t:TO):Prop:=
 ∀(pins:List (Addr×Obj)) (s:Shared) (a:St) (H:Hp) (Q:Option Int->Hp->Prop),Inv X pins a H s->t a H Q ->
  wpAny (model X.prog X.w) X.A (evalPart e X.env) (λu c=>∃o b,Inv X pins a b c/\IsPart u o/\Q o b) X.xe s
noncomputable def sj:TO:=λ_ H Q=>Q none H
noncomputable def FG(t:TE):TO:=λa H Q=>t a H λx b=>∃i,x=.int i/\Q (some i) b
section
variable{X:Cx}{e:Expr}{te:TE}{lo hi:Option Expr}{tl th:TO}{pos p2:Pos}
theorem yO:PO X none sj:=by
 intro pins s a H Q I h;rw[evalPart_none];exact wpAny_pure ⟨none,H,I,.none,h⟩
theorem yP(h:PE X e te):PO X (some e) (FG te):=by
 intro pins s a H Q I b;rw[evalPart_some];refine cD (h pins s a H _ I b) λu c ⟨x,H1,I1,r1,q1⟩=>?_
 obtain⟨i,rfl,q⟩:=q1;obtain⟨t,rfl⟩:=r1;exact⟨some i,H1,I1,.int i t,q⟩
def yQ(X:Cx)(r:V->Option Int->Option Int->Hp->VK->Prop):Prop:=
 ∀(pins:List (Addr×Obj)) (s:Shared) (a:St) (H:Hp) (x:V) (v b c:Value) (d e:Option Int) (f:Addr) (Q:VK),Inv X pins a H s->RelV x v->s.heap.IsSliceOf f b c .none->IsPart b d->IsPart c e->r x d e H Q ->
  ∃T g,typeLookup (.type T) "__getitem__"=pure (some (.builtin g))/\s.TypeIs v T/\wpAny (model X.prog X.w) X.A (getItem v (.ref f)) (EP X pins a Q) X.xe s
theorem yQ.or{r c:V->Option Int->Option Int->Hp->VK->Prop}(h:yQ X r)(h':yQ X c):yQ X (λx a b H Q=>r x a b H Q\/c x a b H Q):=by
 intro pins s d H x v e f a b g Q I i j k l q;rcases q with q|q
 .exact h pins s d H x v e f a b g Q I i j k l q
 .exact h' pins s d H x v e f a b g Q I i j k l q
noncomputable def RD(r:V->Option Int->Option Int->Hp->VK->Prop)(b:TE)(tl c:TO):TE:=λa H Q=>b a H λx d=>tl a d λl e=>c a e λu f=>r x l u f Q
theorem gn{r:V->Option Int->Option Int->Hp->VK->Prop}(g:yQ X r)(i:PE X e te)(j:PO X lo tl)(k:PO X hi th):PE X (.Subscript e (.Slice lo hi none p2) pos) (RD r te tl th):=by
 intro pins s a H Q I h;refine Subscript_ (cD (i pins s a H _ I h) λv m ⟨x,H1,I1,n,q1⟩=>?_)
 refine wpAny_Slice (cD (j pins m a H1 _ I1 q1) λc o ⟨l,H2,I2,p,q2⟩=>cD (k pins o a H2 _ I2 q2) λd s3 ⟨u,f,t,y,z⟩=>?_)
 rw[evalPart_none];refine wpAny_pure ?_;have B:Inv X pins a f {s3 with heap:=s3.heap.push {cls:=.type "slice",data:=.fields #[c,d,.none]} }:=t.kept (t':=s3.toks) λb F q=>Heap.get?_push_of_some _ q
 obtain⟨T,G,C,D,E⟩:=g pins {s3 with heap:=s3.heap.push {cls:=.type "slice",data:=.fields #[c,d,.none]} } a f x v c d l u s3.heap.objs.size Q B n (Heap.IsSliceOf.new ..) p y z
 show wpAny (model X.prog X.w) X.A (subscriptTail e (.Slice lo hi none p2) v (.ref s3.heap.objs.size)) (EP X pins a Q) X.xe {s3 with heap:=s3.heap.push {cls:=.type "slice",data:=.fields #[c,d,.none]} }
 exact tail_any (ops:=[.ref s3.heap.objs.size,v]) D C E (by with_unfolding_all rfl)
def oO(xs:List V)(a b:Option Int):List V:=(xs.drop (HT.cG xs.length 0 a)).take (HT.cG xs.length xs.length b - HT.cG xs.length 0 a)
theorem jn(xs:List V)(a b:Option Int):(oO xs a b).length<=xs.length:=by
 unfold oO;rw[List.length_take,List.length_drop];omega
def FH(K:PySem.W.Frag):V->Option Int->Option Int->Hp->VK->Prop:=λx c d H Q=>∃a b,x=.ref a/\f_ K H a b /\
 ¬ (HT.cG b.length 0 c=0/\HT.cG b.length b.length d=b.length)/\∀p,H p=none->Q (.ref p) (upd H p (.tup (oO b c d)))
theorem kn:yQ X (FH X.K):=by
 intro pins s u H x v w y e f z Q I k l m n h;obtain⟨a,d,rfl,p,t,q⟩:=h;cases k;obtain⟨g,r,i,j⟩:=I.tuple p;have c:g.toArray.size=d.length:=by rw[List.size_toArray];exact r.length.symm
 refine⟨"tuple",_,PyProof.Rows.slot_tuple_getitem.lookup,i.typeIs,?_⟩;refine HT.iq i l m n (by rw[c];exact t) ?_ (by rw[c];exact j)
 rw[c];refine⟨.ref s.heap.objs.size,_,I.laid (t':=s.toks) (o:=.tup (oO d e f)) (λb A q=>Heap.get?_push_of_some _ q) (Nat.le_refl _) ?_,rfl,q _ (I.hok.fresh (Nat.le_refl _))⟩
 exact⟨Nat.le_trans (jn d e f) j,_,(r.drop (HT.cG d.length 0 e)).take (HT.cG d.length d.length f - HT.cG d.length 0 e),IsTup.new _ _⟩
def BE(K:PySem.W.Frag):R2:=λx y H Q=>∃a b d c,x=.ref a/\y=.ref b/\f_ K H a d/\f_ K H b c/\d≠[]/\d.length+c.length<=sizeLine /\
 (c=[]->Q (.ref a) H)/\(c≠[]->∀p,H p=none->Q (.ref p) (upd H p (.tup (d++c))))
theorem Vals.nj{xs:List V}{us:List Value}(r:Vals xs us):us=[]↔xs=[]:=by
 cases r with
 |nil=>simp
 |cons _ _=>simp
theorem yR:fD X (binaryOp .Add) (BE X.K):=by
 intro pins s C H x y v u Q I g i h;obtain⟨a,b,j,k,rfl,rfl,l,m,n,e,p,r⟩:=h;cases g;cases i;obtain⟨t,d,A,_⟩:=I.tuple l;obtain⟨f,c,B,_⟩:=I.tuple m;refine HT.yN A B (λz=>n (d.nj.mp z)) (λz=>⟨.ref a,H,I,rfl,p (c.nj.mp z)⟩) (λz=>?_) (by rw[←d.length,←c.length];exact e)
 refine⟨.ref s.heap.objs.size,_,I.laid (t':=s.toks) (o:=.tup (j++k)) (λb D q=>Heap.get?_push_of_some _ q) (Nat.le_refl _) ?_,rfl,r (λw=>z (c.nj.mpr w)) _ (I.hok.fresh (Nat.le_refl _))⟩
 exact⟨by rw[List.length_append];exact e,_,d.append c,IsTup.new _ _⟩
end
noncomputable def vQ(n:Nat)(i:Int):Option Nat:=if 0<=i then (if i<n then some i.toNat else none)else if -(n:Int)<=i then some (i+n).toNat else none
def jD{a:Type}(xs:List a)(i:Int):Option a:=(vQ xs.length i).bind λj=>xs[j]?
theorem sk{n:Nat}{i:Int}{j:Nat}(h:vQ n i=some j):seqIndex? i n=some j/\j<n /\ -(n:Int)<=i/\i<n:=by
 unfold vQ at h
 by_cases b:0<=i
 .rw[if_pos b]at h
  by_cases a:i<n
  .rw[if_pos a]at h
   have e:i.toNat=j:=Option.some.inj h;exact⟨by rw[seqIndex_of b a,e],by omega,by omega,a⟩
  .rw[if_neg a]at h;cases h
 .rw[if_neg b]at h
  by_cases a : -(n:Int)<=i
  .rw[if_pos a]at h
   have e:(i+n).toNat=j:=Option.some.inj h;exact⟨by rw[seqIndex_neg (by omega) a,e],by omega,a,by omega⟩
  .rw[if_neg a]at h;cases h
theorem nk{a:Type}{xs:List a}{i:Int}{v:a}(h:jD xs i=some v):∃j,seqIndex? i xs.length=some j/\xs[j]?=some v/\j<xs.length /\ -(xs.length:Int)<=i/\i<xs.length:=by
 unfold jD at h;cases e:vQ xs.length i with
 |none=>rw[e]at h;cases h
 |some j=>
  rw[e]at h;obtain⟨b,c,d,f⟩:=sk e;exact⟨j,b,h,c,d,f⟩
theorem dv{a:Type}{xs:List a}{j:Nat}{v:a}(h:xs[j]?=some v):jD xs (j:Int)=some v:=by
 have b:j<xs.length:=(List.getElem?_eq_some_iff.mp h).1
 have e:vQ xs.length (j:Int)=some j:=by
  unfold vQ;rw[if_pos (by omega),if_pos (by omega)];simp
 unfold jD;rw[e];exact h
def sm(b:Expr):Prop:=∀o i,subscripted b false o i=operate [o,i] (getItem o i)
def yS(X:Cx)(r:R2):Prop:=
 ∀(b a:Expr) (pins:List (Addr×Obj)) (s:Shared) (c:St) (H:Hp) (x y:V) (v u:Value) (Q:VK),Inv X pins c H s->RelV x v->RelV y u->r x y H Q ->
  subscripted a false v u=operate [v,u] (getItem v u)->wpAny (model X.prog X.w) X.A (subscriptTail b a v u) (EP X pins c Q) X.xe s
def EZ(X:Cx)(d:String)(r:V->List V->Hp->VK->Prop):Prop:=
 ∀(pins:List (Addr×Obj)) (s:Shared) (a:St) (H:Hp) (x:V) (b:List V) (v:Value) (c:List Value) (Q:VK),Inv X pins a H s->RelV x v->Vals b c->r x b H Q ->
  wpAny (model X.prog X.w) X.A (call (.builtin d) (v::c)) (EP X pins a Q) X.xe s
section
variable{X:Cx}{a b:Expr}{ta tb:TE}{pos:Pos}
theorem yS.or{r c:R2}(h:yS X r)(h':yS X c):yS X (λx y H Q=>r x y H Q\/c x y H Q):=by
 intro a b pins s d H x y v u Q I e f q g;rcases q with q|q
 .exact h a b pins s d H x y v u Q I e f q g
 .exact h' a b pins s d H x y v u Q I e f q g
theorem BF{r:R2}(c:yS X r)(d:PE X a ta)(e:PE X b tb)(f:sm b):PE X (.Subscript a b pos) (EY r ta tb):=by
 intro pins s g H Q I h;exact Subscript_ (Ct d e I h λv u i x y j k l m q=>c a b pins i g j x y v u Q k l m q (f _ _))
def FI(K:PySem.W.Frag):R2:=λx y H Q=>∃p a i v,x=.ref p/\y=.int i/\jK K H p a/\jD a i=some v/\Q v H
def FJ(K:PySem.W.Frag):R2:=λx y H Q=>∃p a i v,x=.ref p/\y=.int i/\f_ K H p a/\jD a i=some v/\Q v H
def FK:R2:=λx y H Q=>∃z i c,x=.str z/\y=.int i/\z.length<=sizeLine/\jD z.cps.toList i=some c/\Q (.str ⟨#[c]⟩) H
theorem yT:yS X (FI X.K):=by
 intro c d pins s l H x y v u Q I A B h m;obtain⟨p,M,i,z,rfl,rfl,C,D,q⟩:=h;cases A;obtain⟨t,rfl⟩:=B;obtain⟨e,r,f,N⟩:=I.list C;obtain⟨j,b,E,O,F,G⟩:=nk D;obtain⟨w,n,g⟩:=r.get E;have J:=r.length;have P:=gk;have a:EP X pins l Q w s:=⟨z,H,I,g,q⟩
 by_cases o:0<=i
 .have k:i.toNat=j:=by
   rw[seqIndex_of o G]at b;exact Option.some.inj b
  exact item_listR f.isList o (by omega) (by rw[k];simpa using n) a m
 .have k:(i+(e.toArray.size:Int)).toNat=j:=by
   rw[seqIndex_neg (by omega) F]at b
   rw[List.size_toArray,←J];exact Option.some.inj b
  exact subscriptTail_builtinR (x:=w) f.isList.typeIs slot_list_getitem.lookup
   (wpAny_getItem_list_neg (Q:=λr L=>r=w/\EP X pins l Q r L) f.isList (by omega) (by rw[List.size_toArray]<;>omega) (by omega) (by rw[k];simpa using n) ⟨rfl,a⟩) m
theorem CH:yS X (FJ X.K):=by
 intro a b pins s e H x y v u Q I g k h l;obtain⟨p,F,i,z,rfl,rfl,m,n,q⟩:=h;cases g;obtain⟨t,rfl⟩:=k;obtain⟨o,r,f,G⟩:=I.tuple m;obtain⟨j,A,B,J,L,M⟩:=nk n;obtain⟨w,C,c⟩:=r.get B;have D:=r.length;have N:=gk;have d:EP X pins e Q w s:=⟨z,H,I,c,q⟩
 exact subscriptTail_builtinR (x:=w) f.typeIs slot_tuple_getitem.lookup
  (getItem_tuple (j:=j) (Q:=λr E=>r=w/\EP X pins e Q r E) f (by omega) (by omega) (by rw[List.size_toArray,←D];exact A) (by simpa using C) ⟨rfl,d⟩) l
theorem CI:yS X FK:=by
 intro a b pins s w H x y v u Q I e f h g;obtain⟨z,i,c,rfl,rfl,A,k,q⟩:=h;obtain⟨t,rfl⟩:=e;obtain⟨B,rfl⟩:=f;obtain⟨j,d,l,C,m,n⟩:=nk k;have o:z.cps.toList.length=z.length:=by simp[Str.length]
 rw[o]at d m n;have D:=gk
 exact tail_any (typeIs_str s z t) slot_str_getitem.lookup (getItem_str (c:=c) (by
  have p:decide (i < -(2 ^ 63:Int))=false:=decide_eq_false (by omega)
  have r:decide (i≥2 ^ 63)=false:=decide_eq_false (by omega)
  rw[p,r,Bool.or_false]) (by rw[d];simpa using l) ⟨.str ⟨#[c]⟩,H,I.tok _,⟨_,rfl⟩,q⟩) g
def Jx(K:PySem.W.Frag):R2:=λx y H Q=>FI K x y H Q\/FJ K x y H Q\/FK x y H Q
theorem vR:yS X (Jx X.K):=yT.or (CH.or CI)
theorem qJ(a:List Value)(n j:Nat)(u:Value):Obj.mapSeq (·.setIfInBounds j u) {cls:=.type "list",data:=.seq a.toArray n}={cls:=.type "list",data:=.seq (a.set j u).toArray n}:=by
 simp[Obj.mapSeq]
theorem Inv.lst{pins:List (Addr×Obj)}{b:St}{H:Hp}{s:Shared}{p:Addr}{xs:List V}(I:Inv X pins b H s)(h:H p=some (.lst xs)) :
  ∃(a:List Value) (n:Nat),Vals xs a/\s.heap.get? p=some {cls:=.type "list",data:=.seq a.toArray n}/\xs.length<=sizeLine:=by
 obtain⟨z,a,n,r,e⟩:=I.hok p _ h;exact⟨a,n,r,e,z⟩
theorem Inv.CJ{pins:List (Addr×Obj)}{d:St}{H:Hp}{s:Shared}{p:Addr}{xs ys:List V}{a its':List Value}{n c:Nat}{f:Obj->Obj}(I:Inv X pins d H s)(h:H p=some (.lst xs))
  (i:s.heap.get? p=some {cls:=.type "list",data:=.seq a.toArray n}) (g:f {cls:=.type "list",data:=.seq a.toArray n}={cls:=.type "list",data:=.seq its'.toArray c}) (r:Vals ys its') (hz:ys.length<=sizeLine) (t:Nat) :
  Inv X pins d (upd H p (.lst ys)) {s with heap:=s.heap.update p f,toks:=t}:=by
 have e:(s.heap.update p f).get? p=some {cls:=.type "list",data:=.seq its'.toArray c}:=by
  rw[Heap.get?_update_self f i (by rw[g]<;>rfl),g]
 refine I.write (x:=p) (e:=p) (by rw[h];trivial) (.inl rfl) (λb u j q=>(Heap.get?_update_other _ _ (Ne.symm j)).trans q) ⟨_,e⟩ ?_
 exact⟨hz,its',c,r,e⟩
def FL:V->V->V->Hp->(Hp->Prop)->Prop:=λo i v H Q=>∃p a k j,o=.ref p/\i=.int k/\H p=some (.lst a)/\vQ a.length k=some j/\Q (upd H p (.lst (a.set j v)))
theorem set_list:Lj X FL:=by
 intro pins s x H o i v E F u Q I y z A h;obtain⟨p,B,k,j,rfl,rfl,f,C,q⟩:=h;cases y;obtain⟨t,rfl⟩:=z;obtain⟨a,n,r,c,D⟩:=I.lst f;obtain⟨b,G,g,l⟩:=sk C;have d:=r.length;have J:=gk
 have m:Inv X pins x (upd H p (.lst (B.set j v))) {s with heap:=s.heap.update p (Obj.mapSeq (·.setIfInBounds j u))}:=
  I.CJ f c (qJ a n j u) (r.set A j) (by rw[List.length_set];exact D) s.toks
 by_cases w:0<=k
 .have e:k.toNat=j:=by
   rw[seqIndex_of w l]at b;exact Option.some.inj b
  exact PySem.W.ki_setAt c w (by omega) (by rw[List.size_toArray,←d];exact l) (by rw[e];exact⟨_,m,q⟩)
 .have e:(k+(a.toArray.size:Int)).toNat=j:=by
   rw[seqIndex_neg (by omega) g]at b
   rw[List.size_toArray,←d];exact Option.some.inj b
  exact PySem.W.ki_setBack c (by omega) (by rw[List.size_toArray,←d];exact g) (by omega) (by rw[e];exact⟨_,m,q⟩)
theorem nq(a b:Option Int)(n:Nat):(sliceBounds a b none n).1=((HT.cG n 0 a:Nat):Int)/\(sliceBounds a b none n).2.1=((HT.cG n n b:Nat):Int)/\(sliceBounds a b none n).2.2=1:=by
 refine⟨?_,?_,rfl⟩
 .cases a with
  |none=>simp[sliceBounds,HT.cG]
  |some i=>
   simp only[sliceBounds,HT.cG,Option.getD_none,show(1:Int)>0 by decide,if_true]
   by_cases h:i<0
   .simp only[h,if_true]<;>omega
   .simp only[h,if_false]<;>omega
 .cases b with
  |none=>simp[sliceBounds,HT.cG]
  |some i=>
   simp only[sliceBounds,HT.cG,Option.getD_none,show(1:Int)>0 by decide,if_true]
   by_cases h:i<0
   .simp only[h,if_true]<;>omega
   .simp only[h,if_false]<;>omega
theorem lK(a:List Value)(b c:Option Int):slicePick a.toArray b c none=((a.drop (HT.cG a.length 0 b)).take (HT.cG a.length a.length c - HT.cG a.length 0 b)).toArray:=by
 obtain⟨d,e,f⟩:=nq b c a.toArray.size;unfold slicePick;rw[d,e,f];simp only[sliceRange_one,pick_run,List.size_toArray]<;>rfl
def FN(K:PySem.W.Frag):V->Option Int->Option Int->Hp->VK->Prop:=λx c d H Q=>∃a b,x=.ref a/\jK K H a b/\∀p,H p=none->Q (.ref p) (upd H p (.lst (oO b c d)))
theorem ir:yQ X (FN X.K):=by
 intro pins s t H x v u w e f y Q I i j k l h;obtain⟨a,c,rfl,m,q⟩:=h;cases i;obtain⟨n,r,g,p⟩:=I.list m;have d:=r.length;refine⟨"list",_,slot_list_getitem.lookup,g.isList.typeIs,?_⟩;refine wpAny_getItem_list_slice g.isList j k l .none (by simp) ?_ (by rw[List.size_toArray]<;>omega)
 rw[lK,←d];refine⟨.ref s.heap.objs.size,_,I.laid (t':=s.toks) (o:=.lst (oO c e f)) (λb z q=>Heap.get?_push_of_some _ q) (Nat.le_refl _) ?_,rfl,q _ (I.hok.fresh (Nat.le_refl _))⟩
 exact⟨Nat.le_trans (jn c e f) p,_,0,(r.drop (HT.cG c.length 0 e)).take (HT.cG c.length c.length f - HT.cG c.length 0 e),Heap.get?_push_size _ rfl⟩
theorem nr:dn X (.builtin "len") (λxs H Q=>∃p ys,xs=[.ref p]/\(jK X.K H p ys\/f_ X.K H p ys)/\Q (.int ys.length) H):=by
 intro pins s g H xs i Q I r h;obtain⟨p,ys,rfl,hq,q⟩:=h;obtain⟨u,rfl,e⟩:=vals1 r;cases e;have j:=gk;rcases hq with hq|hq
 .obtain⟨b,c,d,f⟩:=I.list hq
  have a:=c.length;exact Calls.call_len_list d.isList (by simp only[List.size_toArray]<;>omega) ⟨.int ys.length,H,I.tok _,⟨s.toks+1,by rw[List.size_toArray,a]⟩,q⟩
 .obtain⟨b,c,d,f⟩:=I.tuple hq
  have a:=c.length;exact len_tuple d (by simp only[List.size_toArray]<;>omega) ⟨.int ys.length,H,I.tok _,⟨s.toks+1,by rw[List.size_toArray,a]⟩,q⟩
theorem nt:dn X (.builtin "len") (λxs H Q=>∃z,xs=[.str z]/\z.length<=sizeLine/\Q (.int z.length) H):=by
 intro pins s a H xs b Q I r h;obtain⟨z,rfl,c,q⟩:=h;obtain⟨u,rfl,t,rfl⟩:=vals1 r;have d:=gk;exact len_str (by omega) ⟨.int z.length,H,I.tok _,⟨_,rfl⟩,q⟩
theorem dn.or{f:Value}{r a:List V->Hp->VK->Prop}(h:dn X f r)(h':dn X f a):dn X f (λxs H Q=>r xs H Q\/a xs H Q):=by
 intro pins s b H xs c Q I d q;rcases q with q|q
 .exact h pins s b H xs c Q I d q
 .exact h' pins s b H xs c Q I d q
theorem nu:dn X (.type "list") (λxs H Q=>∃p ys,xs=[.ref p]/\(jK X.K H p ys\/f_ X.K H p ys)/\∀l,H l=none->Q (.ref l) (upd H l (.lst ys))):=by
 intro pins s A H xs C Q I r h;obtain⟨p,ys,rfl,hq,q⟩:=h;obtain⟨u,rfl,B⟩:=vals1 r;cases B
 have g:∀(a:List Value),Vals ys a->ys.length<=sizeLine->∀(c:Heap) (d:Nat),(∀b z,s.heap.get? b=some z->c.get? b=some z) ->
   c.get? s.heap.objs.size=some {cls:=.type "list",dict:=none,data:=.seq a.toArray d,slots := #[]}->EP X pins A Q (.ref s.heap.objs.size) {s with heap:=c}:=λa f i c d j e=>
  ⟨.ref s.heap.objs.size,_,I.laid (t':=s.toks) j (Nat.le_refl _) (show cf X.prog X.w _ c _ (.lst ys)from⟨i,a,d,f,e⟩),rfl,q _ (I.hok.fresh (Nat.le_refl _))⟩
 rcases hq with hq|hq
 .obtain⟨a,f,m,i⟩:=I.list hq
  have k:=f.length;obtain⟨o,t,x,n,y⟩:=m.isList;exact call_list_seq p (.inl rfl) t x y (λc d j e=>g a f i c d j e) (by simp only[List.size_toArray]<;>omega)
 .obtain⟨a,f,m,i⟩:=I.tuple hq
  have k:=f.length;obtain⟨o,t,x,n,y⟩:=m;exact call_list_seq p (.inr rfl) t x y (λc d j e=>g a f i c d j e) (by simp only[List.size_toArray]<;>omega)
theorem lL:dn X (.type "tuple") (λxs H Q=>∃p ys,xs=[.ref p]/\((jK X.K H p ys/\∀l,H l=none->Q (.ref l) (upd H l (.tup ys)))\/(f_ X.K H p ys/\Q (.ref p) H))):=by
 intro pins s i H xs y Q I r h;obtain⟨p,ys,rfl,h⟩:=h;obtain⟨u,rfl,n⟩:=vals1 r;cases n;rcases h with ⟨d,q⟩|⟨d,q⟩
 .obtain⟨a,f,g,j⟩:=I.list d
  have k:=f.length;refine call_tuple_list g.isList (λc t=>?_) (by simp only[List.size_toArray]<;>omega)
  have m:Inv X pins i H {s with heap:=c}:=I.kept (t':=s.toks) t
  have x:Inv X pins i (upd H c.objs.size (.tup ys)) {s with heap:=c.push {cls:=.type "tuple",data:=.seq a.toArray} }:=
   m.laid (t':=s.toks) (λb o e=>Heap.get?_push_of_some _ e) (Nat.le_refl _) (show cf X.prog X.w _ _ _ (.tup ys)from⟨j,a,f,IsTup.new _ _⟩)
  exact⟨.ref c.objs.size,_,x,rfl,q _ (m.hok.fresh (Nat.le_refl _))⟩
 .obtain⟨a,f,g,j⟩:=I.tuple d
  exact call_tuple_same g ⟨.ref p,H,I,rfl,q⟩
def CK(K:PySem.W.Frag)(T:String)(x:V)(H:Hp):Prop:=match x with
 |.str _=>T="str"
 |.int _=>T="int"
 |.ref p=>(T="list"/\∃b,jK K H p b)\/(T="tuple"/\∃o,K.lookup p=some o/\o.cls=.type "tuple"/\o.dict=none) \/
   (T="dict"/\((∃a,H p=some (.dK a))\/∃a,H p=some (.dT a)))\/(T="set"/\∃S n,H p=some (.set S n))
 |_=>False
theorem vS{pins:List (Addr×Obj)}{l:St}{H:Hp}{s:Shared}{T:String}{x:V}{v:Value}(I:Inv X pins l H s)(r:RelV x v)(f:CK X.K T x H) :
  s.TypeIs v T/\∀a,v=.ref a->∃ob,s.heap.get? a=some ob/\ob.dict=none:=by
 cases x with
 |str z=>
  obtain⟨t,rfl⟩:=r;cases (show T="str" from f)
  exact⟨typeIs_str s z t,λ_ e=>nomatch e⟩
 |int i=>
  obtain⟨t,rfl⟩:=r;cases (show T="int" from f)
  exact⟨typeIs_int s i t,λ_ e=>nomatch e⟩
 |ref p=>
  cases r;rcases f with ⟨rfl,w,m⟩|⟨rfl,o,b,q,g⟩|⟨rfl,b⟩|⟨rfl,S,n,b⟩
  .obtain⟨u,_,k,_⟩:=I.list m
   refine⟨k.isList.typeIs,λa e=>?_⟩
   cases e;obtain⟨o,n,e,c,g,_⟩:=k;exact⟨o,e,g⟩
  .refine⟨⟨o,I.ik p o b,q⟩,λa e=>?_⟩
   cases e;exact⟨o,I.ik _ o b,g⟩
  .have z:∃o,s.heap.get? p=some o/\o.ExactDict:=by
    rcases b with ⟨h,b⟩|⟨h,b⟩
    .obtain⟨_,_,_,_,o,_,_,e,d,_⟩:=I.hok p _ b
     exact⟨o,e,d⟩
    .obtain⟨_,_,_,_,o,_,_,e,d,_⟩:=I.hok p _ b
     exact⟨o,e,d⟩
   obtain⟨o,e,d⟩:=z;refine⟨⟨o,e,d.1⟩,λa j=>?_⟩
   cases j;exact⟨o,e,d.2.1⟩
  .obtain⟨o,_,_,_,e,d,_⟩:=I.hok p _ b
   refine⟨⟨o,e,d.1⟩,λa j=>?_⟩
   cases j;exact⟨o,e,d.2.1⟩
 |_=>exact False.elim f
noncomputable def Lv(K:PySem.W.Frag)(T:String)(r:V->List V->Hp->VK->Prop)(b:TE):TE:=λc H Q=>b c H λx a=>CK K T x a/\r x [] a Q
noncomputable def RE(K:PySem.W.Frag)(T:String)(r:V->List V->Hp->VK->Prop)(c:TE)(t:TA):TE:=λa H Q=>c a H λx b=>CK K T x b/\t a b λd e=>r x d e Q
variable{o e:Expr}{es:List Expr}{to:TE}{t:TA}{name:Str}{apos cpos:Pos}{T id:String}{r:V->List V->Hp->VK->Prop}
theorem CL(e:PlainAttrs T)(slot:Slot T name id)(c:typeOf (.builtin id)=pure (.type "method_descriptor"))(f:EZ X id r)(g:PE X o to)
  (a:attributeBase o name X.env (eval o X.env)=eval o X.env:=by rfl) (b:(apos.endLine==cpos.line)=true:=by rfl):PE X (.Call (.Attribute o name apos) [] [] cpos) (Lv X.K T r to):=by
 intro pins s d H Q I h;refine wpAny_Call_method0_late a b (cD (g pins s d H _ I h) λv i ⟨x,H1,I1,r1,ty,q1⟩=>?_)
 obtain⟨j,k⟩:=vS I1 r1 ty;exact⟨T,id,e,slot,c,j,k,Calls.callWith_builtin rfl (PySem.evalArgs_none (f pins i d H1 x [] v [] Q I1 r1 .nil q1))⟩
theorem FO(j:PlainAttrs T)(slot:Slot T name id)(f:typeOf (.builtin id)=pure (.type "method_descriptor"))(k:EZ X id r)(l:PE X o to)(m:PA X (e::es) t)
  (b:attributeBase o name X.env (eval o X.env)=eval o X.env:=by rfl)
  (d:((backTo cpos (starEach (e::es) X.env)).all (λx=>!x.1)&&(backToKw cpos (keywordEach [] X.env)).all (λx=>x.1.isSome)
   && decide ((e::es).length+([]:List Keyword).length+(if ([]:List Keyword).isEmpty then 0 else 1)<30))=true:=by rfl)
  (c:(apos.endLine==cpos.line)=true:=by rfl) (n:starEach (e::es) X.env=(false,eval e X.env)::starEach es X.env:=by rfl) (a:(backTo cpos (starEach es X.env)).any (·.1)=false:=by rfl) :
  PE X (.Call (.Attribute o name apos) (e::es) [] cpos) (RE X.K T r to t):=by
 intro pins s g H Q I h;refine wpAny_Call_method_late b d c rfl (cD (l pins s g H _ I h) λv p ⟨x,H1,I1,r1,ty,q1⟩=>?_)
 obtain⟨q,u⟩:=vS I1 r1 ty;refine⟨T,id,j,slot,f,q,u,?_⟩;have i:=m cpos pins p g H1 _ I1 q1;rw[n]at i ⊢;refine Calls.callWith_builtin (by show(false||(backTo cpos (starEach es X.env)).any (·.1))=false;rw[a]<;>rfl) (Calls.evalArgs_plain ?_)
 exact cD i λw y ⟨z,A,B,C,D⟩=>k pins y g A x z v w Q B r1 C D
end
def FP(X:Cx)(d:String)(r:V->List V->Hp->VK->Prop):Prop:=
 ∀(pins:List (Addr×Obj)) (s:Shared) (a:St) (H:Hp) (x:V) (b:List V) (v:Value) (c:List Value) (Q:VK),Inv X pins a H s->RelV x v->Vals b c->r x b H Q ->
  wpAny (model X.prog X.w) X.A (call (.builtin d) (v::c)) (EP X pins a Q) X.xe s
theorem Vals.one:∀{x:V}{us:List Value},Vals [x] us->∃u,us=[u]/\RelV x u
 |_,_,.cons r .nil=>⟨_,rfl,r⟩
theorem Vals.two:∀{x y:V}{us:List Value},Vals [x,y] us->∃u v,us=[u,v]/\RelV x u/\RelV y v
 |_,_,_,.cons r (.cons q .nil)=>⟨_,_,rfl,r,q⟩
theorem Vals.zero:∀{us:List Value},Vals [] us->us=[]
 |_,.nil=>rfl
theorem Vals.reverse{xs:List V}{us:List Value}(h:Vals xs us):Vals xs.reverse us.reverse:=by
 induction h with
 |nil=>exact .nil
 |cons r t a=>rw[List.reverse_cons,List.reverse_cons];exact Vals.append a (.cons r .nil)
section
variable{X:Cx}{pins:List (Addr×Obj)}{σ:St}{H:Hp}{s:Shared}{l b:Addr}{xs ys zs:List V}
theorem Inv.vT{a its':List Value}{n:Nat}{f:Array Value->Array Value}{t':Nat}(I:Inv X pins σ H s)(b:H l=some (.lst xs))
  (e:s.heap.get? l=some {cls:=.type "list",data:=.seq a.toArray n}) (c:f a.toArray=its'.toArray) (d:Vals ys its') (hz:ys.length<=sizeLine) :
  Inv X pins σ (upd H l (.lst ys)) {s with heap:=s.heap.update l (Obj.mapSeq f),toks:=t' }:=by
 have q:=PySem.IsL.update e f;rw[c]at q;refine I.write (x:=l) (e:=l) (by rw[b];exact trivial) (.inl rfl) (λi u g h=>(Heap.get?_update_other s.heap (Obj.mapSeq f) (Ne.symm g)).trans h) ⟨_,q⟩ ?_
 exact⟨hz,its',_,d,q⟩
theorem Inv.Lw{a:List Value}{t':Nat}(I:Inv X pins σ H s)(b:Vals ys a)(hz:ys.length<=sizeLine) :
  Inv X pins σ (upd H s.heap.objs.size (.lst ys)) {s with heap:=s.heap.push {cls:=.type "list",data:=.seq a.toArray},toks:=t' }:=
 I.laid (λ_ _ q=>Heap.get?_push_of_some _ q) (Nat.le_refl _) ⟨hz,a,0,b,Heap.get?_push_size _ rfl⟩
theorem Inv.fresh(I:Inv X pins σ H s):H s.heap.objs.size=none:=I.hok.fresh (Nat.le_refl _)
theorem Inv.uj(I:Inv X pins σ H s)(b:H l=some (.lst xs)):xs.length<=sizeLine/\∃(a:List Value) (n:Nat),Vals xs a/\xs.length=a.length/\s.heap.get? l=some {cls:=.type "list",data:=.seq a.toArray n}:=by
 obtain⟨z,a,n,r,e⟩:=I.hok l _ b;exact⟨z,a,n,r,r.length,e⟩
theorem vU{n:Nat}(h:n<=sizeLine):Builtin.List.listTooLong n=false:=by
 unfold Builtin.List.listTooLong;exact decide_eq_false (by omega)
end
section
variable{X:Cx}
def sr:V->List V->Hp->VK->Prop:=λx b H Q=>∃l a y,x=.ref l/\b=[y]/\H l=some (.lst a)/\a.length<sizeLine/\Q .non (upd H l (.lst (a++[y])))
theorem mj:FP X "list.append" sr:=by
 intro pins s g H x i v j Q I c d h;obtain⟨l,k,y,rfl,rfl,b,m,q⟩:=h;cases c;obtain⟨u,rfl,f⟩:=d.one;obtain⟨z,a,n,r,o,e⟩:=I.uj b;refine call_meets F.slot_list_append ⟨_,e,rfl⟩ F.entry_list_append (F.args_list_append_2 _ _) (PySem.list_append l a.toArray n u (by rw[List.size_toArray];omega)) ⟨e,?_⟩
 refine⟨.non,_,I.vT (its':=a++[u]) b e (by simp) (r.append (.cons f .nil)) ?_,rfl,q⟩
 rw[List.length_append,List.length_singleton];omega
def su:V->List V->Hp->VK->Prop:=λx d H Q=>∃l b a c,x=.ref l/\d=[.ref b]/\H l=some (.lst a)/\H b=some (.lst c)/\a.length+c.length<=sizeLine/\Q .non (upd H l (.lst (a++c)))
theorem uk:FP X "list.extend" su:=by
 intro pins s y H x A v B Q I i j h;obtain⟨l,b,C,D,rfl,rfl,g,k,E,q⟩:=h;cases i;obtain⟨u,rfl,m⟩:=j.one;cases m;obtain⟨z,c,n,r,G,e⟩:=I.uj g;obtain⟨J,a,o,p,t,w⟩:=I.uj k;have f:c.toArray.size+a.toArray.size<=sizeLine:=by rw[List.size_toArray,List.size_toArray];omega
 have d:¬ (!c.toArray.isEmpty&&Builtin.List.listTooLong (c.toArray.size+a.toArray.size))=true:=by
  rw[vU f,Bool.and_false];exact Bool.false_ne_true
 refine call_meets F.slot_list_extend ⟨_,e,rfl⟩ F.entry_list_extend (F.args_list_extend_2 _ _)
  (AutoSeq1.list_extend_list_list_0 l c.toArray n b a.toArray o d (by rw[List.size_toArray];omega) (by omega)) ⟨e,w,?_⟩
 refine⟨.non,_,I.vT (its':=c++a) g e (by simp) (r.append p) ?_,rfl,q⟩
 rw[List.length_append];omega
def oP:V->List V->Hp->VK->Prop:=λx b H Q=>∃l a,x=.ref l/\b=[]/\H l=some (.lst a)/\Q .non (upd H l (.lst a.reverse))
theorem qK:FP X "list.reverse" oP:=by
 intro pins s g H x i v j Q I d f h;obtain⟨l,k,rfl,rfl,c,q⟩:=h;cases d;have b:=f.zero;subst b;obtain⟨z,a,n,r,m,e⟩:=I.uj c;refine call_meets F.slot_list_reverse ⟨_,e,rfl⟩ F.entry_list_reverse (F.args_list_reverse_1 _) (AutoSeq1.list_reverse_list_0 l a.toArray n (by rw[List.size_toArray];omega)) ⟨e,?_⟩
 refine⟨.non,_,I.vT (its':=a.reverse) c e (by simp) r.reverse ?_,rfl,q⟩
 rw[List.length_reverse];omega
def vV:V->List V->Hp->VK->Prop:=λx a H Q=>∃l b,x=.ref l/\a=[]/\H l=some (.lst b)/\Q .non (upd H l (.lst []))
theorem vW:FP X "list.clear" vV:=by
 intro pins s g H x i v j Q I d f h;obtain⟨l,k,rfl,rfl,c,q⟩:=h;cases d;have a:=f.zero;subst a;obtain⟨z,b,n,r,m,e⟩:=I.uj c;refine call_meets F.slot_list_clear ⟨_,e,rfl⟩ F.entry_list_clear (F.args_list_clear_1 _) (AutoSeq1.list_clear_list_0 l b.toArray n (by rw[List.size_toArray];omega)) ⟨e,?_⟩
 exact⟨.non,_,I.vT (its':=[]) (ys:=[]) c e rfl .nil (Nat.zero_le _),rfl,q⟩
end
section
variable{prog:Program}{w:World}{A:Around}{E:Value->Shared->Prop}{s:Shared}
end
section
variable{X:Cx}
end
section
variable{κ:Type}[DecidableEq κ]
noncomputable def gY(kvs:List (κ×V))(k:κ):Option V:=(kvs.find? λa=>decide (a.1=k)).map (·.2)
noncomputable def putK(kvs:List (κ×V))(k:κ)(v:V):List (κ×V):=
 if (kvs.any λa=>decide (a.1=k))=true then kvs.map (λa=>if a.1=k then (a.1,v)else a)else kvs++[(k,v)]
theorem gp{p:κ×V}{r:List (κ×V)}{k:κ}(e:p.1=k):gY (p::r) k=some p.2:=by simp[gY,List.find?_cons,e]
theorem gq{p:κ×V}{r:List (κ×V)}{k:κ}(e:¬ p.1=k):gY (p::r) k=gY r k:=by simp[gY,List.find?_cons,e]
theorem oQ(k:κ):∀kvs:List (κ×V),(kvs.any λa=>decide (a.1=k))=(gY kvs k).isSome
 |[]=>rfl
 |p::r=>by
  rw[List.any_cons]
  by_cases e:p.1=k
  .simp only[gp e,decide_eq_true e,Bool.true_or,Option.isSome_some]
  .rw[gq e,decide_eq_false e,Bool.false_or];exact oQ k r
theorem gs(kvs:List (κ×V))(k:κ)(v:V):(putK kvs k v).length<=kvs.length+1:=by
 unfold putK;split
 .rw[List.length_map];omega
 .rw[List.length_append,List.length_cons,List.length_nil];omega
theorem f9.fh{o:Option V}{u:Option Value}(r:f9 o u):o.isSome=u.isSome:=by
 cases o with
 |none=>cases u with
  |none=>rfl
  |some _=>exact(show False from r).elim
 |some _=>cases u with
  |none=>exact(show False from r).elim
  |some _=>rfl
theorem f9.getD{o:Option V}{u:Option Value}{d:V}{d':Value}(r:f9 o u)(a:RelV d d'):RelV (o.getD d) (u.getD d'):=by
 cases o with
 |none=>cases u with
  |none=>exact a
  |some _=>exact(show False from r).elim
 |some _=>cases u with
  |none=>exact(show False from r).elim
  |some _=>exact r
theorem KV.val{kvs:List (κ×V)}{vs:List (κ×Value)}(r:KV kvs vs)(k:κ):f9 (gY kvs k) (valueAt vs k):=by
 unfold KV at r
 induction r with
 |nil=>exact True.intro
 |@cons p q i a h t f=>
  obtain⟨d,g⟩:=h
  by_cases e:p.1=k
  .have c:q.1=k:=d.symm.trans e
   have b:valueAt (q::a) k=some q.2:=by simp[valueAt,List.find?_cons,c]
   rw[gp e,b];exact g
  .have c:¬ q.1=k:=λz=>e (d.trans z)
   have b:valueAt (q::a) k=valueAt a k:=by simp[valueAt,List.find?_cons,c]
   rw[gq e,b];exact f
theorem KV.any{kvs:List (κ×V)}{vs:List (κ×Value)}(r:KV kvs vs)(k:κ):(kvs.any λa=>decide (a.1=k))=vs.any λa=>decide (a.1=k):=by
 unfold KV at r
 induction r with
 |nil=>rfl
 |cons h t b=>rw[List.any_cons,List.any_cons,b,h.1]
theorem KV.repl{kvs:List (κ×V)}{vs:List (κ×Value)}(r:KV kvs vs)(k:κ){y:V}{u:Value}(c:RelV y u) :
  KV (kvs.map λa=>if a.1=k then (a.1,y)else a) (vs.map λa=>if a.1=k then (a.1,u)else a):=by
 unfold KV at r ⊢
 induction r with
 |nil=>exact .nil
 |@cons p q g i h t d=>
  rw[List.map_cons,List.map_cons];refine .cons ?_ d;obtain⟨b,f⟩:=h
  by_cases e:p.1=k
  .rw[if_pos e,if_pos (b.symm.trans e)];exact⟨b,c⟩
  .rw[if_neg e,if_neg (λz=>e (b.trans z))];exact⟨b,f⟩
theorem KV.put{kvs:List (κ×V)}{vs:List (κ×Value)}(r:KV kvs vs)(k:κ){y:V}{u:Value}(a:RelV y u):KV (putK kvs k y) (stored vs k u):=by
 unfold putK stored;rw[r.any k]
 by_cases e:(vs.any λb=>decide (b.1=k))=true
 .rw[if_pos e,if_pos e];exact r.repl k a
 .rw[if_neg e,if_neg e];exact Paired.snoc r ⟨rfl,a⟩
theorem KV.length{kvs:List (κ×V)}{vs:List (κ×Value)}(r:KV kvs vs):kvs.length=vs.length:=Paired.length r
end
theorem mn{P:Program}{w:World}{k:Key}{u:Value}(r:RelV (kV k) u):(aW P w).is k u=true:=by
 cases k with
 |inl i=>obtain⟨t,e⟩:=(show ∃t,u=Value.int i t from r);subst e;exact oB P w i t
 |inr x=>obtain⟨t,e⟩:=(show ∃t,u=Value.str x t from r);subst e;exact gh P w x t
theorem mq{P:Program}{w:World}:∀{a:List Key}{us:List Value},Vals (a.map kV) us->ItemsAre (aW P w) a us
 |[],_,r=>by rw[List.map_nil]at r;cases r;exact .nil
 |k::a,_,r=>by
  rw[List.map_cons]at r;cases r with
  |cons h t=>exact .cons (mn h) (mq t)
abbrev KT(H:Hp):List (List Key×V)->List (List Key×Addr×Value)->Prop:=Paired λp q=>p.1=q.1/\H q.2.1=some (.tup (p.1.map kV))/\RelV p.2 q.2.2
theorem KT.val{H:Hp}{kvs:List (List Key×V)}{xs:List (List Key×Addr×Value)}(r:KT H kvs xs)(k:List Key):f9 (gY kvs k) ((atKey xs k).map (·.2)):=by
 induction r with
 |nil=>exact True.intro
 |@cons p q i a h t f=>
  obtain⟨d,_,g⟩:=h
  by_cases e:p.1=k
  .have c:q.1=k:=d.symm.trans e
   have b:atKey (q::a) k=some q.2:=by simp[atKey,List.find?_cons,c]
   rw[gp e,b];exact g
  .have c:¬ q.1=k:=λz=>e (d.trans z)
   have b:atKey (q::a) k=atKey a k:=by simp[atKey,List.find?_cons,c]
   rw[gq e,b];exact f
theorem KT.repl{H:Hp}{kvs:List (List Key×V)}{xs:List (List Key×Addr×Value)}(r:KT H kvs xs)(k:List Key){y:V}{u:Value}(d:RelV y u) :
  KT H (kvs.map λb=>if b.1=k then (b.1,y)else b) (xs.map (putAt k u)):=by
 induction r with
 |nil=>exact .nil
 |@cons p q i j h t f=>
  rw[List.map_cons,List.map_cons];refine .cons ?_ f;obtain⟨a,c,g⟩:=h;unfold putAt
  by_cases e:p.1=k
  .rw[if_pos e,if_pos (a.symm.trans e)];exact⟨a,c,d⟩
  .rw[if_neg e,if_neg (λz=>e (a.trans z))];exact⟨a,c,g⟩
theorem KT.put{H:Hp}{kvs:List (List Key×V)}{xs:List (List Key×Addr×Value)}(r:KT H kvs xs)(k:List Key){b:Addr}{y:V}{u:Value}(c:H b=some (.tup (k.map kV)))(a:RelV y u) :
  KT H (putK kvs k y) (storedH xs k b u):=by
 have e:(kvs.any λd=>decide (d.1=k))=(atKey xs k).isSome:=by
  rw[oQ,(r.val k).fh,Option.isSome_map]
 unfold putK storedH;rw[e]
 by_cases q:(atKey xs k).isSome=true
 .rw[if_pos q,if_pos q];exact r.repl k a
 .rw[if_neg q,if_neg q];exact Paired.snoc r ⟨rfl,c,a⟩
theorem KT.keeps{H a:Hp}{kvs:List (List Key×V)}{xs:List (List Key×Addr×Value)}(r:KT H kvs xs)(c:∀b ys,H b=some (.tup ys)->a b=some (.tup ys)):KT a kvs xs:=
 Paired.Cb r λ_ _ z=>⟨z.1,c _ _ z.2.1,z.2.2⟩
section
variable{P:Program}{w:World}{H:Hp}{h:Heap}{a:Addr}
theorem vX{u:HO}(ok:hX P w H h)(e:Rd H a u):cf P w H h a u:=e.ok ok
theorem fj{kvs:List (Key×V)}(ok:hX P w H h)(e:Rd H a (.dK kvs)):kvs.length<=sizeLine/\(a==sysModules)=false/\∃vs,KV kvs vs/\h.DictOf (aW P w) a vs:=
 show cf P w H h a (.dK kvs)from vX ok e
theorem FQ{kvs:List (Key×V)}(ok:hX P w H h)(e:H a=some (.dK kvs)):kvs.length<=sizeLine/\(a==sysModules)=false/\∃vs,KV kvs vs/\h.DictOf (aW P w) a vs:=fj ok (.inl e)
theorem ko{b:List Key}(ok:hX P w H h)(e:H a=some (.tup (b.map kV))):(tupleKind (aW P w)).is h b a:=by
 obtain⟨_,c,r,o,d,f,n,g⟩:=(show cf P w H h a (.tup (b.map kV))from ok a _ e)
 exact⟨o,c.toArray,n,d,f,g,by simpa using mq r⟩
theorem mr{kvs:List (List Key×V)}(ok:hX P w H h)(e:Rd H a (.dT kvs)):kvs.length<=sizeLine/\(a==sysModules)=false /\
  ∃xs,KT H kvs xs/\h.DictOfH (tupleKind (aW P w)) a xs:=by
 obtain⟨z,y,xs,r,o,d,f,g,i,j,k,n⟩:=(show cf P w H h a (.dT kvs)from vX ok e)
 refine⟨z,y,xs,r,o,d,f,g,i,j,k,λx hx=>?_,n⟩
 have b:∀{l:List (List Key×V)}{m:List (List Key×Addr×Value)},KT H l m->∀x∈m,(tupleKind (aW P w)).is h x.1 x.2.1:=by
  intro l m q
  induction q with
  |nil=>intro x hx;exact nomatch hx
  |@cons p q u A c t s=>
   intro x hx;rcases List.mem_cons.mp hx with e|hx
   .subst e
    exact ko ok (by rw[←c.1];exact c.2.1)
   .exact s x hx
 exact b r x hx
theorem BG{kvs:List (List Key×V)}(ok:hX P w H h)(e:H a=some (.dT kvs)):kvs.length<=sizeLine/\(a==sysModules)=false /\
  ∃xs,KT H kvs xs/\h.DictOfH (tupleKind (aW P w)) a xs:=mr ok (.inl e)
end
def iu(H:Hp)(a:Addr)(y:V)(r:Option V):Prop:=
 (∃c k,Rd H a (.dK c)/\y=kV k/\r=gY c k)\/∃c k b,Rd H a (.dT c)/\y=.ref b/\H b=some (.tup (k.map kV))/\r=gY c k
def oT(H:Hp)(a:Addr)(y v:V)(d:Hp):Prop:=
 (∃c k,H a=some (.dK c)/\y=kV k/\c.length<sizeLine/\d=upd H a (.dK (putK c k v))) \/
 ∃c k b,H a=some (.dT c)/\y=.ref b/\H b=some (.tup (k.map kV))/\c.length<sizeLine/\d=upd H a (.dT (putK c k v))
theorem iu.k{H:Hp}{a:Addr}{kvs:List (Key×V)}{k:Key}(e:H a=some (.dK kvs)):iu H a (kV k) (gY kvs k):=.inl ⟨kvs,k,.inl e,rfl,rfl⟩
theorem iu.t{H:Hp}{a b:Addr}{kvs:List (List Key×V)}{k:List Key}(e:H a=some (.dT kvs))(c:H b=some (.tup (k.map kV))):iu H a (.ref b) (gY kvs k):=.inr ⟨kvs,k,b,.inl e,rfl,c,rfl⟩
theorem oT.k{H:Hp}{a:Addr}{kvs:List (Key×V)}{k:Key}{v:V}(e:H a=some (.dK kvs))(b:kvs.length<sizeLine):oT H a (kV k) v (upd H a (.dK (putK kvs k v))):=.inl ⟨kvs,k,e,rfl,b,rfl⟩
theorem oT.t{H:Hp}{a b:Addr}{kvs:List (List Key×V)}{k:List Key}{v:V}(e:H a=some (.dT kvs))(c:H b=some (.tup (k.map kV)))(d:kvs.length<sizeLine) :
  oT H a (.ref b) v (upd H a (.dT (putK kvs k v))):=.inr ⟨kvs,k,b,e,rfl,c,d,rfl⟩
section
variable{X:Cx}{pins:List (Addr×Obj)}{σ:St}{H:Hp}{s:Shared}{a:Addr}{y v:V}{u r:Value}{o:Option V}{A:Around}{E:Value->Shared->Prop}
theorem Inv.big(I:Inv X pins σ H s):sysModules<s.heap.objs.size:=by
 have h:mainGlobals<s.heap.objs.size:=(I.mod.glob.keeps I.bk).lt;exact Nat.lt_trans (by decide) h
theorem um{Q:Value->Shared->Prop}(x:A.units+1<cLine)(I:Inv X pins σ H s)(g:iu H a y (some v))(r:RelV y u)(h:∀f t,Inv X pins σ H t->RelV v f->Q f t) :
  wpAny (model X.prog X.w) A (getItem (.ref a) u) Q E s:=by
 rcases g with ⟨i,k,e,j,l⟩|⟨i,k,b,e,j,B,l⟩
 .subst j
  obtain⟨z,C,D,c,m⟩:=fj I.hok e;obtain⟨f,n,d⟩:=f9.some_of (v:=v) (o:=valueAt D k) (by rw[l];exact c.val k)
  exact wpAny_getItem_of (mn r) m.mapOf n (h f _ (I.tok _) d)
 .subst j
  cases (show u=Value.ref b from r)
  obtain⟨z,C,F,c,m⟩:=mr I.hok e;obtain⟨f,n,d⟩:=f9.some_of (v:=v) (o:=(atKey F k).map (·.2)) (by rw[l];exact c.val k)
  obtain⟨p,G,q⟩:=Option.map_eq_some_iff.mp n;refine wpAny_getItem_heap (tupleKind_room_in1 x) (ko I.hok B) m G ?_;rw[q];exact h f _ (I.tok _) d
theorem Lx{Q:Value->Shared->Prop}(p:A.units+1<cLine)(I:Inv X pins σ H s)(g:iu H a y o)(m:RelV y u)(h:∀n,Inv X pins σ H n->Q (.bool o.isSome) n) :
  wpAny (model X.prog X.w) A (compareOp .In u (.ref a)) Q E s:=by
 rcases g with ⟨d,k,e,f,l⟩|⟨d,k,b,e,f,r,l⟩
 .subst f
  obtain⟨z,i,t,c,j⟩:=fj I.hok e;refine wpAny_in_of (mn m) i j.mapOf ?_;rw[←(c.val k).fh,←l];exact h _ (I.tok _)
 .subst f
  cases (show u=Value.ref b from m)
  obtain⟨z,i,x,c,j⟩:=mr I.hok e;refine wpAny_in_heap (tupleKind_room_in1 p) (ko I.hok r) i j ?_;have q:=(c.val k).fh;rw[Option.isSome_map]at q;rw[←q,←l];exact h _ (I.tok _)
theorem yU{Q:Value->Shared->Prop}(p:A.units+1<cLine)(I:Inv X pins σ H s)(g:iu H a y o)(m:RelV y u)(h:∀n,Inv X pins σ H n->Q (.bool (!o.isSome)) n) :
  wpAny (model X.prog X.w) A (compareOp .NotIn u (.ref a)) Q E s:=by
 rcases g with ⟨d,k,e,f,l⟩|⟨d,k,b,e,f,r,l⟩
 .subst f
  obtain⟨z,i,t,c,j⟩:=fj I.hok e;refine wpAny_notIn_of (mn m) i j.mapOf ?_;rw[←(c.val k).fh,←l];exact h _ (I.tok _)
 .subst f
  cases (show u=Value.ref b from m)
  obtain⟨z,i,x,c,j⟩:=mr I.hok e;refine wpAny_notIn_heap (tupleKind_room_in1 p) (ko I.hok r) i j ?_;have q:=(c.val k).fh;rw[Option.isSome_map]at q;rw[←q,←l];exact h _ (I.tok _)
theorem nv{h':Heap}{t':Nat}{ob:HO}(I:Inv X pins σ H s)(d:Fj (H a))(f:Heap.SameBut a s.heap h')(g:∃q,h'.get? a=some q)(c:cf X.prog X.w (upd H a ob) h' a ob) :
  Inv X pins σ (upd H a ob) {s with heap:=h',toks:=t' }:=
 I.write (x:=a) (e:=a) d (.inl rfl) (λb q h z=>(f.2 b h).trans z) g c
theorem qL{P:Program}{w:World}{c:Hp}{h':Heap}{kvs:List (Key×V)}{vs:List (Key×Value)}(z:kvs.length<=sizeLine)(d:(a==sysModules)=false)(b:KV kvs vs)(e:h'.DictOf (aW P w) a vs) :
  cf P w c h' a (.dK kvs):=⟨z,d,vs,b,e⟩
theorem uo{C:Hp}{Q:Unit->Shared->Prop}(M:A.units+1<cLine)(I:Inv X pins σ H s)(g:oT H a y v C)(D:RelV y u)(F:RelV v r)(h:∀G,Inv X pins σ C G->Q () G) :
  wpAny (model X.prog X.w) A (setItem (.ref a) u r) Q E s:=by
 rcases g with ⟨d,k,e,m,l,n⟩|⟨d,k,b,e,m,J,l,n⟩
 .subst m n
  obtain⟨z,o,N,f,p⟩:=FQ I.hok e;have t:N.length<=sizeLine:=by rw[←f.length];exact z
  have x:(putK d k v).length<=sizeLine:=by have:=gs d k v;omega
  refine wpAny_setItem_pairs (hsz:=t) (mn D) p λK i B=>h _ ?_
  have O:∃q,K.get? a=some q:=let ⟨q,_,_,j,_⟩:=i;⟨q,j⟩
  exact nv I (by rw[e];exact True.intro) B O (qL x o (f.put k F) i)
 .subst m n
  cases (show u=Value.ref b from D)
  obtain⟨z,o,P,f,p⟩:=BG I.hok e;have t:P.length<=sizeLine:=by rw[←Paired.length f];exact z
  have x:(putK d k v).length<=sizeLine:=by have:=gs d k v;omega
  refine wpAny_setItem_heap (hsz:=t) (tupleKind_room_in1 M) (ko I.hok J) p λK i B=>h _ ?_
  obtain⟨q,R,S,j,T,U,V,_,Y⟩:=i;refine nv I (by rw[e];exact True.intro) B ⟨q,j⟩ ⟨x,o,_,(f.put k J F).keeps λc Z L=>?_,q,R,S,j,T,U,V,Y⟩
  rw[aH (Fi L e (λz=>nomatch z))]
  exact L
end
section
variable{X:Cx}{pins:List (Addr×Obj)}{σ:St}{H:Hp}{s:Shared}{a:Addr}{kvs:List (Key×V)}{k:Key}{u:Value}{A:Around}{E:Value->Shared->Prop}
theorem FR{Q:Value->Shared->Prop}(I:Inv X pins σ H s)(e:Rd H a (.dK kvs))(h:∀t c,Inv X pins σ H c->Q (.int kvs.length t) c):wpAny (model X.prog X.w) A (call (.builtin "len") [.ref a]) Q E s:=by
 obtain⟨z,d,g,b,f⟩:=fj I.hok e;refine call_len_dict d f (by rw[←b.length];rw[sizeLine_eq]at z;omega) ?_
 rw[←b.length];exact h _ _ (I.tok _)
end
def FT(i:Expr):Prop:=∀a b,subscripted i false a b=operate [a,b] (getItem a b)
theorem yV{prog:Program}{w:World}{A:Around}{E:Value->Shared->Prop}{s:Shared}{env:Env}{b a:Expr}{pos:Pos}{T m:String}{Q:Value->Shared->Prop}
  (n:typeLookup (.type T) "__getitem__"=pure (some (.builtin m))) (p:FT a)
  (h:wpAny (model prog w) A (eval b env) (λo e=>wpAny (model prog w) A (eval a env) (λi c=>c.TypeIs o T/\wpAny (model prog w) A (getItem o i) Q E c) E e) E s) :
  wpAny (model prog w) A (eval (.Subscript b a pos) env) Q E s:=by
 refine Subscript_ (wpAny_mono h (λo e j=>wpAny_mono j (λi c d=>?_) λ_ _ x=>x) λ_ _ x=>x)
 obtain⟨l,d⟩:=d;unfold subscriptTail;refine wpAny_bind ?_;rw[getitemInPython_of_ne l.not_modules];refine wpAny_bind (wpAny_specialOf l n ?_)
 have g:wpAny (model prog w) A (subscripted a false o i) (λr f=>wpAny (model prog w) A (letTemporaryGo b o r >>= λ_=>pure r) Q E f) E c:=by
  rw[p o i];exact wpAny_operating (wpAny_mono d (λr f k=>wpAny_bind (wpAny_letTemporaryGo (wpAny_pure k))) λ_ _ x=>x)
 first
  |exact wpAny_pure (wpAny_bind g)
  |exact wpAny_bind (wpAny_pure (wpAny_bind g))
  |exact wpAny_bind g
theorem oU{X:Cx}{pins:List (Addr×Obj)}{f:St}{H:Hp}{s:Shared}{a:Addr}{y:V}{o:Option V}(I:Inv X pins f H s)(g:iu H a y o):s.TypeIs (.ref a) "dict":=by
 rcases g with ⟨c,k,e,_,_⟩|⟨c,k,b,e,_,_,_⟩
 .obtain⟨_,_,h,_,d⟩:=fj I.hok e
  exact d.typeIs
 .obtain⟨_,_,i,_,d⟩:=mr I.hok e
  exact d.typeIs
noncomputable def FU(td d:TE):TE:=λb H Q=>td b H λx e=>d b e λy c=>∃a v,x=.ref a/\iu c a y (some v)/\Q v c
section
variable{X:Cx}{o i e value:Expr}{pos pos' tpos:Pos}{td ty tv:TE}
theorem yW(d:X.A.units+1<cLine)(e:PE X o td)(f:PE X i ty)(j:FT i):PE X (.Subscript o i pos) (FU td ty):=by
 intro pins s c H Q I h;refine yV PySem.F.slot_dict_getitem.lookup j (cD (e pins s c H _ I h) λu k ⟨x,H1,I1,rx,q1⟩=>cD (f pins k c H1 _ I1 q1) λm n ⟨y,H2,I2,ry,a,v,ex,g,q2⟩=>?_)
 subst ex;obtain rfl:u=Value.ref a:=rx;exact⟨oU I2 g,um d I2 g ry λp q l b=>⟨v,H2,l,b,q2⟩⟩
end
theorem vY{P:Program}{w:World}{H:Hp}(h:Heap)(a:sysModules<h.objs.size):cf P w H (h.push {cls:=.type "dict",data:=.dict #[]}) h.objs.size (.dK []):=
 ⟨Nat.zero_le _,beq_eq_false_iff_ne.mpr (Ne.symm (Nat.ne_of_lt a)),[],.nil,Heap.DictOf.new h⟩
theorem vZ{P:Program}{w:World}{H:Hp}(h:Heap)(a:sysModules<h.objs.size):cf P w H (h.push {cls:=.type "dict",data:=.dict #[]}) h.objs.size (.dT []):=
 ⟨Nat.zero_le _,beq_eq_false_iff_ne.mpr (Ne.symm (Nat.ne_of_lt a)),[],.nil,_,#[],0,Heap.get?_push_size _ rfl,⟨rfl,rfl,rfl⟩,rfl,rfl,List.nodup_nil⟩
def CM:TE:=λ_ H Q=>∀p,H p=none->Q (.ref p) (upd H p (.dK []))
def CO:TE:=λ_ H Q=>∀p,H p=none->Q (.ref p) (upd H p (.dT []))
section
variable{X:Cx}{pos:Pos}
theorem v8:PE X (.Dict [] [] pos) CM:=λpins s b H Q I h=>
 wpAny_Dict_empty ⟨.ref s.heap.objs.size,_,I.laid (a:=s.heap.objs.size) (o:=.dK []) (t':=s.toks) (λ_ _ q=>Heap.get?_push_of_some _ q) (Nat.le_refl _) (vY s.heap I.big),rfl,h _ (I.hok.fresh (Nat.le_refl _))⟩
theorem v9:PE X (.Dict [] [] pos) CO:=λpins s b H Q I h=>
 wpAny_Dict_empty ⟨.ref s.heap.objs.size,_,I.laid (a:=s.heap.objs.size) (o:=.dT []) (t':=s.toks) (λ_ _ q=>Heap.get?_push_of_some _ q) (Nat.le_refl _) (vZ s.heap I.big),rfl,h _ (I.hok.fresh (Nat.le_refl _))⟩
end
def RF(H:Hp)(a:Addr):Prop:=(∃b,Rd H a (.dK b))\/∃b,Rd H a (.dT b)
theorem v_{X:Cx}{pins:List (Addr×Obj)}{j:St}{H:Hp}{s:Shared}{a:Addr}(I:Inv X pins j H s)(d:RF H a) :
  s.TypeIs (.ref a) "dict"/\(∀b,Value.ref a=.ref b->∃ob,s.heap.get? b=some ob/\ob.dict=none)/\(a==sysModules)=false:=by
 rcases d with ⟨f,e⟩|⟨f,e⟩
 .obtain⟨_,g,k,_,c⟩:=fj I.hok e
  refine⟨c.typeIs,λb q=>?_,g⟩
  cases q;obtain⟨ob,_,_,h,i,_⟩:=c;exact⟨ob,h,i.2.1⟩
 .obtain⟨_,g,l,_,c⟩:=mr I.hok e
  refine⟨c.typeIs,λb q=>?_,g⟩
  cases q;obtain⟨ob,_,_,h,i,_⟩:=c;exact⟨ob,h,i.2.1⟩
section
variable{X:Cx}{pins:List (Addr×Obj)}{σ:St}{H:Hp}{s:Shared}{a:Addr}{y d:V}{u r:Value}{o:Option V}{A:Around}{E:Value->Shared->Prop}
end
section
variable{X:Cx}{o e f:Expr}{apos cpos:Pos}{td ty tx:TE}
end
section
variable{X:Cx}{pins:List (Addr×Obj)}{σ:St}{H:Hp}{s:Shared}{a:Addr}{kvs:List (Key×V)}{A:Around}{E:Value->Shared->Prop}
end
section
variable{X:Cx}{pins:List (Addr×Obj)}{σ:St}{H:Hp}{s:Shared}{a:Addr}{y:V}{u:Value}{A:Around}{E:Value->Shared->Prop}
end
end L2
namespace PX
open PySem PySem.W PySem.Calls PyProof.Rows
theorem jE{P:Params}{h:Heap}:∀(ns:List Int) (vs:List Value),WellAll P h vs (ns.map WData.int)->IntsAre vs ns:=by
 intro ns
 induction ns with
 |nil=>
  intro vs w;rw[List.map_nil]at w;cases w;exact .nil
 |cons n ns c=>
  intro vs w;rw[List.map_cons]at w;cases w with
  |cons a b=>
   cases a;exact .cons _ _ (c _ b)
theorem uq{l:OpenLaw}{n:Nat}(o:l.most=some n){P:Params}{h:Heap}{args:List WData}{b:List Value}
  (c:l.row.toRowW.claim.pre args=true) (j:WellAll P h b args) :
  ∃a vs ns,b=[Value.ref a]/\args=[WData.list (ns.map WData.int)]/\h.get? a=some {cls:=.type "list",data:=.seq vs.toArray}/\IntsAre vs ns/\ns.length<=n:=by
 have k:WShape.hasAll [] args [.list .int]=true:=(pre_splitW c).1;have m:l.pre.holds [] {args:=args}=true:=(pre_splitW c).2;obtain⟨d,r,rfl,p,s⟩:=hasAllW_cons k;obtain rfl:=hasAllW_nil s;obtain⟨z,rfl,t⟩:=hasW_list p;obtain⟨ns,rfl⟩:=items_int t
 have e:ns.length<=n:=by
  unfold OpenLaw.pre at m
  have g:(WTm.not (.lt (.lit (.int (n:Int))) (.len (.arg 0)))).holds [] {args:=[.list (ns.map .int)]}=true:=by
   have g:=(holds_andW m).1;rw[o]at g;exact g
  have i:=condW_of g (w_not (w_lt w_lit (w_len_list (w_arg rfl))));rw[List.length_map]at i;refine Nat.le_of_not_lt λq=>?_
  have u:(n:Int)<((ns.length:Nat):Int):=by omega
  first
   | (rw[decide_eq_true u]at i;exact absurd i (by decide))
   | (simp at i;omega)
 cases j with
 |cons w x=>
  cases x;cases w with
  |list y f=>exact⟨_,_,ns,rfl,rfl,y,jE ns _ f,e⟩
theorem ur(l:OpenLaw)(args:List WData):l.row.toRowW.claim.post args (.bool true) args=true:=
 postW_of (r:=l.row.toRowW) (X:=(true==true))
  (show WShape.has [] (.bool true) .bool=true by first|rfl|decide|simp[WShape.has,WShape.arms,WShape.armsAll])
  (show(WTm.eq .res (.lit (.bool true))).value [] {args:=args,res:=some (.bool true),after:=args}=some (.bool (true==true))from w_eq_bool (w_res rfl) w_lit) rfl
theorem oV{l:OpenLaw}{n:Nat}{q:Program}{c:List Str}{B:(Str->Option Value)->Heap->Prop}{C:World->Heap->Prop}{d:DefRec}
  (H:l.most=some n) (t:d.params.defaults=[])
  (call:∀(w:World) (e b:Shared) (mg u:Str->Option Value) (i:Addr) (o:Obj) (x p g:Value) (a:Addr) (vs:List Value) (ns:List Int),
   Ground q c [] B w e mg u b.heap->C w b.heap ->
   b.heap.get? i=some o->o.data=.func (docDef d.name d.params d.body d.scope x p g)->b.heap.CodeRec p d.name->mg d.name=some (.ref i) ->
   b.heap.get? a=some {cls:=.type "list",data:=.seq vs.toArray}->IntsAre vs ns->ns.length<=n->b.gens = #[] ->
   codeAny (model l.prog w) callerA (.call (.ref i) ⟨[.ref a],[]⟩) (λr s=>r=.ok (.ret (.bool true))/\OldK b.heap s.heap/\s.os=b.os/\AllBare s.gens) b) :
  WalkO q c B C l.row.toRowW d [] (λf vs=>PySem.call f vs):=by
 intro w e b mg u G Y i o x p g I kV J K y D z L args E T j F M A N;obtain rfl:I=.none:=Dflts.none D t;obtain rfl:kV=.none:=Dflts.noKw D;obtain⟨a,vs,ns,rfl,rfl,k,h,m⟩:=uq H j A;refine enter_call (codeAny_mono (call w e b mg u i o x p g a vs ns G Y J (fd_plain K) y z k h m L) λr s O=>?_)
 obtain⟨rfl,P,Q,R⟩:=O;exact⟨.inl ⟨.bool true,.bool true,[],rfl,λ_=>rfl,.bool true,ur l _,λ_=>⟨List.Pairwise.nil,λ_ S=>(nomatch S)⟩⟩,P,Q,R⟩
section
variable{prog:Program}{w:World}{A:Around}{E:Value->Shared->Prop}{s:Shared}{K:Frag}
end
end PX
namespace L2
open PySem PySem.Spec PyProof.Rows
theorem mu:∀{vs:List Value}{ns:List Int},IntsAre vs ns->Vals (ns.map V.int) vs
 |_,_,.nil=>.nil
 |_,_,.cons n t h=>.cons ⟨t,rfl⟩ (mu h)
def Only(H:Hp):Prop:=∀b,H b=none\/∃o a,H b=some (.dI o (.lst a))
theorem wa{P:Program}{w:World}{K:PySem.W.Frag}{mg L:Str->Option Value}{CX:ug}{k:Nat}{M a:Addr}{U:FuncData}{x:Str}{sp:Sp}{c:Shared}{vs:List Value}{ns:List Int}
  (X:K.In c.heap) (t:c.heap.Ns mainGlobals mg) (g:c.heap.Ns builtinsNs L) (N:∀x:Str,x≠"__name__"->L x=bootBuiltins x) (y:c.heap.NoLimit) (hg:c.gens = #[])
  (J:c.heap.get? a=some {cls:=.type "list",data:=.seq vs.toArray}) (Y:IntsAre vs ns) (Z:ns.length<=sizeLine) (hr:cL k callerA)
  (F:∀base:Heap,K.In base->base.Ns mainGlobals mg->c_ P w K mg base CX k M U [x] sp) (p:∀(s:Shared) (u:Value),BindsTo s U ⟨[u],[]⟩ [(x,u)])
  (O:∀H:Hp,Only H->jK K H a (ns.map V.int)->sp [.ref a] H (λv _=>v=.bl true) λ_ _ _=>False)
  (Q:∀H e i,CX [] H c (λ_ _ _=>False) e i->False) :
  codeAny (model P w) callerA (.call (.ref M) ⟨[.ref a],[]⟩) (λr i=>r=.ok (.ret (.bool true))/\OldK c.heap i.heap/\i.os=c.os/\AllBare i.gens) c:=by
 have rv:=mu Y;have A:=Y.length
 have l:∀H:Hp,Only H->jK K H a (ns.map V.int)->hX P w H c.heap->(∀b,H b≠none->b=a)->(H a≠none->K.lookup a=none) ->
   codeAny (model P w) callerA (.call (.ref M) ⟨[.ref a],[]⟩) (λr i=>r=.ok (.ret (.bool true))/\OldK c.heap i.heap/\i.os=c.os/\AllBare i.gens) c:=by
  intro H hO hS B hA hK;have f:∀{b:Addr}{o:Obj},c.heap.get? b=some o->H b=none->(mW c.heap H).get? b=some o:=λe n=>vu e n
  have R:∀{b:Addr}{o:Obj}{C:Array DictEntry}{D:Nat},c.heap.get? b=some o->o.data=.dict C D->H b=none:=λ{b o C D} e d=>by
   cases q:H b with
   |none=>rfl
   |some u=>
    have S:b=a:=hA b (by rw[q];simp)
    subst S;rw[J]at e;cases e
    have d':Data.seq vs.toArray _=Data.dict C D:=d;cases d'
  have j:∀{b:Addr}{m:Str->Option Value},c.heap.Ns b m->(mW c.heap H).Ns b m:=λ{b m} ⟨o,C,D,e,d,r⟩=>⟨o,C,D,f e (R e d),d,r⟩
  have E:K.In (mW c.heap H):=λb o e=>f (X b o e) (by
   cases q:H b with
   |none=>rfl
   |some u=>
    have S:b=a:=hA b (by rw[q];simp)
    subst S;rw[hK (by rw[q];simp)]at e;cases e)
  have hM:Mod K mg (mW c.heap H):=⟨E,j t,⟨L,j g,N⟩,let ⟨mc,h1,h2⟩:=y;⟨mc,j h1,h2⟩⟩
  have e0:qG P w K mg (mW c.heap H) callerA [] c H:=⟨rfl,hM,λb o e=>yw e,Nat.le_of_eq (t9 _ _),trivial,λb g=>absurd (show b∈([]:List Addr)from g) (by simp),B,.of_eq hg⟩
  refine codeAny_mono ((F _ E (j t)).run callerA [] c H ⟨[.ref a],[]⟩ [.ref a] [.ref a] _ _ hr e0 (p c (.ref a)) (.cons rfl .nil) (O H hO hS)) λr i h=>?_
  cases r with
  |error e=>exact(Q H e i h).elim
  |ok fl=>
   cases fl with
   |next=>exact False.elim h
   |brk=>exact False.elim h
   |cont=>exact False.elim h
   |ret u=>
    obtain⟨v,H',os,bare,un,G,r',q⟩:=h;have q':v=.bl true:=q;subst q';obtain rfl:u=Value.bool true:=r';refine⟨rfl,OldK.of_keep λb o e=>?_,os,bare⟩
    cases q:H b with
    |none=>exact un.keep b o e q (by intro z;exact absurd (show b∈([]:List Addr)from z) (by simp)) (by simp)
    |some u=>
     rcases hO b with z|⟨ob,xs,z⟩
     .rw[q]at z;cases z
     .have z2:=un.ij b ob _ z
      obtain⟨e1,_⟩:=B b _ z;obtain⟨e2,_⟩:=G b _ z2;rw[e]at e1;cases e1
      exact e2
 cases T:K.lookup a with
 |some o=>
  have e:=X a o T;rw[J]at e;cases e;refine l (λ_=>none) (λ_=>.inl rfl) (.inr ⟨_,vs.toArray,_,T,rfl,rfl,rfl,by rw[List.size_toArray,A];exact Z,by simpa using rv⟩) (λb u z=>by have I:(none:Option HO)=some u:=z;cases I) (λb z=>absurd rfl z) λz=>absurd rfl z
 |none=>
  refine l (λb=>if b=a then some (.dI {cls:=.type "list",data:=.seq vs.toArray} (.lst (ns.map V.int)))else none) (λb=>?_) (.inl (.inr ⟨{cls:=.type "list",data:=.seq vs.toArray},if_pos rfl⟩)) (λb u z=>?_) (λb z=>?_) λ_=>T
  .by_cases g:b=a
   .exact .inr ⟨_,_,if_pos g⟩
   .exact .inl (if_neg g)
  .by_cases g:b=a
   .have I:=(if_pos g).symm.trans z
    cases I;subst g;exact⟨J,by rw[List.length_map];exact Z,vs,_,rv,J⟩
   .have I:=(if_neg g).symm.trans z
    cases I
  .by_cases g:b=a
   .exact g
   .exact absurd (if_neg g) z
theorem yX{l:PySem.W.OpenLaw}{n k:Nat}{q:Program}{i:List Str}{L:(Str->Option Value)->Heap->Prop}{E:World->Heap->Prop}{d:DefRec}{K:Params->PySem.W.Frag}{CX:World->ug}{sp:World->Sp}{x:Str}
  (M:l.most=some n) (t:n<=sizeLine) (y:d.params.defaults=[]) (N:cL k callerA)
  (O:∀(w:World) (h:Heap),E w h->(K w.params).In h)
  (F:∀(w:World) (mg:Str->Option Value) (r:Addr) (h:Heap),(K w.params).In h->h.Ns mainGlobals mg->mg d.name=some (.ref r) ->
   ∃z:FuncData,(∀(s:Shared) (u:Value),BindsTo s z ⟨[u],[]⟩ [(x,u)]) /\
    ∀base:Heap,(K w.params).In base->base.Ns mainGlobals mg->c_ l.prog w (K w.params) mg base (CX w) k r z [x] (sp w))
  (A:∀(w:World) (H:Hp) (a:Addr) (ns:List Int),ns.length<=n->Only H->jK (K w.params) H a (ns.map V.int)->sp w [.ref a] H (λv _=>v=.bl true) λ_ _ _=>False)
  (B:∀(w:World) (H:Hp) (s:Shared) (e:Value) (C:Shared),CX w [] H s (λ_ _ _=>False) e C->False) :
  PySem.W.WalkO q i L E l.row.toRowW d [] (λf vs=>PySem.call f vs):=by
 refine PX.oV M y λw I m mg mb r o pm cd P a vs ns G Y ho hd Q D p j c R=>?_
 have J:=O w _ Y;obtain⟨z,S,U⟩:=F w mg r _ J G.T.g D;exact wa J G.T.g G.T.b G.T.builtins G.T.nolimit R p j (Nat.le_trans c t) N U S (λH X Z=>A w H a ns c X Z) λH e C=>B w H m e C
noncomputable def inClass(s:Stmt)(j:Nat):Stmt:=match s with
 |.ClassDef _ _ _ body _ _ _ _ _ _ _=>body.getD j (.Pass ⟨0,0,0,0⟩)
 |_=>.Pass ⟨0,0,0,0⟩
noncomputable def bS(s:Stmt):Arguments:=match s with
 |.FunctionDef _ a _ _ _ _ _ _ _ _=>a
 |_=>{posonlyargs:=[],args:=[],vararg:=none,kwonlyargs:=[],kw_defaults:=[],kwarg:=none,defaults:=[]}
noncomputable def bN(s:Stmt):List Stmt:=match s with
 |.FunctionDef _ _ b _ _ _ _ _ _ _=>b
 |_=>[]
noncomputable def au(s:Stmt):Scope:=match s with
 |.FunctionDef _ _ _ _ _ _ a _ _ _=>a
 |_=>{kind:=.function,names:=[],isGenerator:=false,isCoroutine:=false}
abbrev jO:ug:=λ_ _ _ _ _ _=>False
abbrev E0:XK:=λ_ _ _=>False
theorem kq{X:Cx}:Passes jO X E0:=λ_ _ _ _ _ _ _ h=>h.elim
structure CP(K:PySem.W.Frag)(x qual:Str)(st:Stmt)(f:Addr)(fd:FuncData):Prop where
 ex:∃(oc:Value) (od:Option Addr) (kV doc pm:Value) (an:Option Addr) (cdv ct:Value) (osl:Array (Option Value)),
  fd=PySem.W.fnOf x qual (bS st) (bN st) (au st) .none kV doc pm an cdv ct/\K.lookup f=some ⟨oc,od,.func fd,osl⟩/\PySem.W.codeIn K cdv qual=true
 kp:PySem.W.keepIn K (.ref f)=true
section
variable{P:Program}{w:World}{K:PySem.W.Frag}{mg:Str->Option Value}{base:Heap}
theorem CP.ok{x qual:Str}{st:Stmt}{f:Addr}{g:FuncData}{N ps:List Str}{k:Nat}{sp:Sp}(F:CP K x qual st f g)(S:jM N ps (au st))(c:∀vs H Q E,sp vs H Q E->vs.length=ps.length)
  (b:∀(a:Value) (A:Around) (outer:List Env) (s:Shared) (H:Hp) (vs:List V) (Q:VK) (E:XK),cL k (A.deeper (envOfC qual (au st) s.heap.objs.size f a))->sp vs H Q E ->
   ∃t,jk (oK jO P w K mg base N qual (au st) f a A outer s H E).vy (bN st) t/\t {nx:=λ_ i=>Q .non i,rt:=Q} (start N vs) H):c_ P w K mg base jO (k+1) f g ps sp:=by
 obtain⟨oc,o,kV,j,p,r,a,ct,l,rfl,m,d⟩:=F.ex;refine BD m d S c λA outer s H vs Q E n e=>?_
 obtain⟨t,h,q⟩:=b a A outer s H vs Q E n e;exact⟨t,h.vy,q⟩
theorem CP.binds{x qual:Str}{st:Stmt}{f:Addr}{e:FuncData}{ps:List Str}(F:CP K x qual st f e)
  (h:∀(kV a c:Value) (d:Option Addr) (b ct:Value) (us:List Value),us.length=ps.length->bindArgs (PySem.W.fnOf x qual (bS st) (bN st) (au st) .none kV a c d b ct) ⟨us,[]⟩=pure (ps.zip us)):Binds K e ps []:=by
 obtain⟨oc,j,kV,a,c,d,b,ct,g,rfl,k,i⟩:=F.ex;exact .all (h kV a c d b ct)
theorem eA{x qual:Str}{st:Stmt}{f:Addr}{oc:Value}{h e:Option Addr}{d:Array (Option Value)}{kV b g a ct:Value}(l:K.lookup f=some ⟨oc,h,.func (PySem.W.fnOf x qual (bS st) (bN st) (au st) .none kV b g e a ct),d⟩)
  (c:PySem.W.codeIn K a qual=true) (k:PySem.W.keepIn K (.ref f)=true):CP K x qual st f (PySem.W.fnOf x qual (bS st) (bN st) (au st) .none kV b g e a ct):=⟨⟨oc,h,kV,b,g,e,a,ct,d,rfl,l,c⟩,k⟩
end
section
variable{X:Cx}
theorem uu:dn X (.builtin "len") (λxs H Q=>∃a kvs,xs=[V.ref a]/\Rd H a (.dK kvs)/\Q (.int kvs.length) H):=by
 intro pins s e H xs f Q I r h;obtain⟨a,kvs,rfl,b,q⟩:=h;obtain⟨u,rfl,c⟩:=vals1 r;cases c;exact FR I b λt g d=>⟨.int kvs.length,H,d,⟨t,rfl⟩,q⟩
end
theorem oW{A B:Prop}(h:B):if false=true then A else B:=by
 rw[if_neg Bool.false_ne_true];exact h
theorem oX{A B:Prop}(h:A):if true=true then A else B:=by
 rw[if_pos rfl];exact h
def iv(H a:Hp):Prop:=∀b o,H b=some o->a b=some o
theorem iv.refl(H:Hp):iv H H:=λ_ _ h=>h
theorem iv.trans{H d e:Hp}(a:iv H d)(b:iv d e):iv H e:=λc o h=>b c o (a c o h)
section
variable{κ:Type}[DecidableEq κ]
end
end L2
namespace Mir
open PySem
inductive D where
 |non|bl (b:Bool)|int (i:Int)|str (x:Str)
 |lst (xs:List D)|tup (xs:List D)|dct (ks:List L2.Key) (vs:List D)|ref (n:Nat)
 deriving Inhabited
inductive Out (α:Type) where
 |ok (a:α)|exc (c:Str) (fs:List (Str×D))|bad
noncomputable def Out.bind{b d:Type}:Out b->(b->Out d)->Out d
 |.ok a,f=>f a
 |.exc c fs,_=>.exc c fs
 |.bad,_=>.bad
instance:Monad Out where
 pure:=.ok
 bind:=Out.bind
@[simp] theorem Jy{b c:Type}(a:b)(f:b->Out c):(Out.ok a >>= f)=f a:=rfl
@[simp] theorem FV{a b:Type}(f:a->Out b):((Out.bad:Out a) >>= f)=.bad:=rfl
@[simp] theorem FW{a b:Type}(c fs)(f:a->Out b):((Out.exc c fs:Out a) >>= f)=.exc c fs:=rfl
@[simp] theorem Jz{b:Type}(a:b):(pure a:Out b)=.ok a:=rfl
mutual
noncomputable def d_:D->D->Bool
 |.non,.non=>true
 |.bl a,.bl b=>a==b
 |.bl a,.int j=>(if a then 1 else 0)==j
 |.int i,.bl b=>i==(if b then 1 else 0)
 |.int i,.int j=>i==j
 |.str x,.str y=>x==y
 |.lst xs,.lst ys=>et xs ys
 |.tup xs,.tup ys=>et xs ys
 |_,_=>false
noncomputable def et:List D->List D->Bool
 |[],[]=>true
 |x::xs,y::ys=>d_ x y&&et xs ys
 |_,_=>false
end
noncomputable def aI:Nat->D->Bool
 |_,.non|_,.bl _|_,.int _|_,.str _=>true
 |n+1,.lst xs|n+1,.tup xs=>xs.all (aI n)
 |_,_=>false
noncomputable def small(n:Nat):Bool:=decide (n<=sizeLine)
def jF:D->Option Bool
 |.non=>some false
 |.bl b=>some b
 |.int i=>some (i != 0)
 |.str x=>if small x.length then some (x.length != 0)else none
 |.lst xs=>some (!xs.isEmpty)
 |.tup xs=>some (!xs.isEmpty)
 |_=>none
abbrev Rs:=Bool×D
noncomputable def kr(i:Int):Bool:=decide (i.natAbs<18446744073709551616)
theorem oY{i:Int}(h:kr i=true): -(2 ^ 64)<i/\i<2 ^ 64:=by
 have:=of_decide_eq_true h;omega
def fk(op:Operator)(x y:D):Out Rs:=
 match op,x,y with
 |.Add,.int i,.int j=>.ok (false,.int (i+j))
 |.Sub,.int i,.int j=>.ok (false,.int (i - j))
 |.Mult,.int i,.int j=>if kr i||kr j then .ok (false,.int (i*j))else .bad
 |.FloorDiv,.int i,.int j=>if decide (0<j)&&decide (j<1073741824)then .ok (false,.int (i / j))else .bad
 |.Mod,.int i,.int j=>if decide (0<j)then .ok (false,.int (i%j))else .bad
 |.Pow,.int i,.int j=>if decide (0<=j)&&decide (j<=1000)&&decide (i.natAbs<2 ^ 64)then .ok (false,.int (i ^ j.toNat))else .bad
 |.Add,.str i,.str j=>if small (i.length+j.length)then .ok (false,.str (i++j))else .bad
 |.Add,.lst i,.lst j=>if small (i.length+j.length)then .ok (true,.lst (i++j))else .bad
 |_,_,_=>.bad
noncomputable def sv(x y:Str):Bool := !(Builtin.Str.occurrences y x 0 y.length 1).isEmpty
def inD(x y:D):Out Bool:=
 match x,y with
 |x,.lst a=>if aI 8 x&&a.all (aI 8)then .ok (a.any λy=>d_ y x)else .bad
 |x,.tup a=>if aI 8 x&&a.all (aI 8)then .ok (a.any λy=>d_ y x)else .bad
 |.str x,.str y=>.ok (sv x y)
 |_,_=>.bad
noncomputable def isD(x y:D):Out Bool:=
 match x,y with
 |.non,.non=>.ok true
 |_,.non=>.ok false
 |.bl a,.bl b=>.ok (a==b)
 |.non,.bl _=>.ok false
 |.int _,.bl _=>.ok false
 |.str _,.bl _=>.ok false
 |.lst _,.bl _=>.ok false
 |.tup _,.bl _=>.ok false
 |_,_=>.bad
def dU(op:CmpOp)(x y:D):Out Bool:=
 match op,x,y with
 |.Eq,x,y=>if aI 8 x&&aI 8 y then .ok (d_ x y)else .bad
 |.NotEq,x,y=>if aI 8 x&&aI 8 y then .ok (!d_ x y)else .bad
 |.Lt,.int i,.int j=>.ok (decide (i<j))
 |.LtE,.int i,.int j=>.ok (decide (i<=j))
 |.Gt,.int i,.int j=>.ok (decide (j<i))
 |.GtE,.int i,.int j=>.ok (decide (j<=i))
 |.In,x,y=>inD x y
 |.NotIn,x,y=>do let b ←inD x y;.ok (!b)
 |.Is,x,y=>isD x y
 |.IsNot,x,y=>do let b ←isD x y;.ok (!b)
 |_,_,_=>.bad
noncomputable def bJ(c:Nat):Str:=⟨#[c]⟩
def qM(x y:D):Out Rs:=
 match x,y with
 |.lst a,.int i=>match L2.jD a i with|some d=>.ok (false,d)|none=>.bad
 |.tup a,.int i=>match L2.jD a i with|some d=>.ok (false,d)|none=>.bad
 |.str z,.int i=>if small z.length then (match L2.jD z.cps.toList i with|some c=>.ok (false,.str (bJ c))|none=>.bad)else .bad
 |_,_=>.bad
def de{a:Type}(xs:List a)(b c:Option Int):List a:=(xs.drop (HT.cG xs.length 0 b)).take (HT.cG xs.length xs.length c - HT.cG xs.length 0 b)
def wb(x:D)(a b:Option Int):Out Rs:=
 match x with
 |.lst c=>.ok (true,.lst (de c a b))
 |.str z=>if small z.length then .ok (false,.str ⟨(de z.cps.toList a b).toArray⟩)else .bad
 |_=>.bad
noncomputable def intsFrom(a:Int):Nat->List D
 |0=>[]
 |n+1=>.int a::intsFrom (a+1) n
noncomputable def lM(i:Int):Bool:=decide (i.natAbs<4611686018427387904)
theorem oZ{i:Int}(h:lM i=true): -(2 ^ 62)<=i/\i<2 ^ 62:=by
 have:=of_decide_eq_true h;omega
noncomputable def dg(i:Nat):List D->List D
 |[]=>[]
 |d::ds=>.tup [.int i,d]::dg (i+1) ds
inductive jP where
 |len|all|any|sorted|list|tuple|int|min|max|bool
 deriving DecidableEq
def fm:List D->Option (List Bool)
 |[]=>some []
 |d::r=>match jF d,fm r with|some b,some bs=>some (b::bs)|_,_=>none
noncomputable def BH:List D->Option (List Int)
 |[]=>some []
 |.int i::r=>(BH r).map (i :: ·)
 |_=>none
noncomputable def fo:List D->Option (List Str)
 |[]=>some []
 |.str i::r=>(fo r).map (i :: ·)
 |_=>none
noncomputable def FX(a b:Str):Bool := !decide (b.cps.toList<a.cps.toList)
def yY(ds:List D):Out (List D):=
 if 64<=ds.length then .bad else
 match BH ds with
 |some c=>.ok ((c.mergeSort λa b=>decide (a<=b)).map .int)
 |none=>match fo ds with
  |some d=>.ok ((d.mergeSort FX).map .str)
  |none=>.bad
def hZ(f:jP)(a:D):Out Rs:=
 match f,a with
 |.len,.tup [.lst b]=>.ok (false,.int b.length)
 |.len,.tup [.tup b]=>.ok (false,.int b.length)
 |.len,.tup [.str z]=>if small z.length then .ok (false,.int z.length)else .bad
 |.all,.tup [.lst b]=>match fm b with|some bs=>.ok (false,.bl (bs.all id))|none=>.bad
 |.any,.tup [.lst b]=>match fm b with|some bs=>.ok (false,.bl (bs.any id))|none=>.bad
 |.sorted,.tup [.lst b]=>do let c ←yY b;.ok (true,.lst c)
 |.list,.tup [.lst b]=>.ok (true,.lst b)
 |.list,.tup [.tup b]=>.ok (true,.lst b)
 |.tuple,.tup [.lst b]=>.ok (false,.tup b)
 |.tuple,.tup [.tup b]=>.ok (false,.tup b)
 |.int,.tup [.int i]=>.ok (false,.int i)
 |.int,.tup [.bl k]=>.ok (false,.int (if k then 1 else 0))
 |.min,.tup [.int i,.int j]=>.ok (false,.int (if j<i then j else i))
 |.max,.tup [.int i,.int j]=>.ok (false,.int (if j>i then j else i))
 |_,_=>.bad
inductive RG where
 |index|join
 deriving DecidableEq
def qN(m:RG)(x:D)(a:D):Out Rs:=
 match m,x,a with
 |.index,.lst b,.tup [d]=>if aI 8 d&&b.all (aI 8)then (match b.findIdx? λy=>d_ y d with|some j=>.ok (false,.int j)|none=>.bad)else .bad
 |.index,.str z,.tup [.str y]=>match Builtin.Str.occurrences z y 0 z.length 1 with|i::_=>.ok (false,.int i)|[]=>.bad
 |.join,.str z,.tup [.lst c]=>match fo c with|some b=>if decide (z.length<=16)&&decide ((b.map (·.length)).sum+b.length<=1048576)then .ok (false,.str (Txt.join z b))else .bad|none=>.bad
 |_,_,_=>.bad
inductive Ty where
 |int|str|bool|list|tuple|dict
 deriving DecidableEq
noncomputable def wc:D->Ty->Option Bool
 |.non,_=>some false
 |.bl _,t=>some (t==.bool||t==.int)
 |.int _,t=>some (t==.int)
 |.str _,t=>some (t==.str)
 |.lst _,t=>some (t==.list)
 |.tup _,t=>some (t==.tuple)
 |.dct _ _,t=>some (t==.dict)
 |.ref _,_=>none
noncomputable def eV:D->Bool
 |.non|.bl _|.int _|.str _=>true
 |_=>false
noncomputable def hV(a:List Str)(x:Str):List Str:=if x∈a then a else a++[x]
def unlike(xs:List Str):Nat:=(xs.foldl hV []).length
noncomputable def fuel:Nat:=100000
def ny{a:Type}(xs:List a)(i:Int)(x:a):List a:=let k:=HT.cG xs.length 0 (some i);xs.take k++x::xs.drop k
end Mir
namespace Mir
open PySem PySem.Spec PyProof.Rows L2
mutual
noncomputable def Rep(Z:Addr->Prop)(H:Hp):D->V->Prop
 |.non,v=>v=.non
 |.bl b,v=>v=.bl b
 |.int i,v=>v=.int i
 |.str x,v=>v=.str x
 |.lst ds,v=>∃a vs,v=.ref a/\Z a/\Rd H a (.lst vs)/\aY Z H ds vs
 |.tup ds,v=>∃a vs,v=.ref a/\Z a/\Rd H a (.tup vs)/\aY Z H ds vs
 |.dct ks ds,v=>∃a vs,v=.ref a/\Z a/\H a=some (.dK (ks.zip vs))/\aY Z H ds vs
 |.ref _,_=>False
noncomputable def aY(Z:Addr->Prop)(H:Hp):List D->List V->Prop
 |[],a=>a=[]
 |d::ds,a=>∃v r,a=v::r/\Rep Z H d v/\aY Z H ds r
end
section
variable{Z Z':Addr->Prop}{H H':Hp}
theorem nz{a:Addr}{u:HO}(k:∀o,H a=some o->H' a=some o)(h:Rd H a u):Rd H' a u:=by
 rcases h with h|⟨o,h⟩
 .exact .inl (k _ h)
 .exact .inr ⟨o,k _ h⟩
mutual
theorem Rep.mono(k:∀a o,Z a->H a=some o->H' a=some o)(z:∀a,Z a->Z' a):∀{d:D}{v:V},Rep Z H d v->Rep Z' H' d v
 |.non,_,h=>by simpa only [Rep]using h
 |.bl _,_,h=>by simpa only [Rep]using h
 |.int _,_,h=>by simpa only [Rep]using h
 |.str _,_,h=>by simpa only [Rep]using h
 |.lst ds,v,h=>by
  simp only[Rep]at h ⊢;obtain⟨a,c,e,b,f,g⟩:=h;exact⟨a,c,e,z a b,nz (λo=>k a o b) f,aY.mono k z g⟩
 |.tup ds,v,h=>by
  simp only[Rep]at h ⊢;obtain⟨a,c,e,b,f,g⟩:=h;exact⟨a,c,e,z a b,nz (λo=>k a o b) f,aY.mono k z g⟩
 |.dct i ds,v,h=>by
  simp only[Rep]at h ⊢;obtain⟨a,c,e,b,f,g⟩:=h;exact⟨a,c,e,z a b,k a _ b f,aY.mono k z g⟩
 |.ref _,_,h=>by simp only[Rep]at h
theorem aY.mono(k:∀a o,Z a->H a=some o->H' a=some o)(z:∀a,Z a->Z' a):∀{ds:List D}{vs:List V},aY Z H ds vs->aY Z' H' ds vs
 |[],_,h=>by simpa only [aY]using h
 |d::ds,vs,h=>by
  simp only[aY]at h ⊢;obtain⟨v,r,e,h1,h2⟩:=h;exact⟨v,r,e,Rep.mono k z h1,aY.mono k z h2⟩
end
theorem aY.length:∀{ds:List D}{vs:List V},aY Z H ds vs->vs.length=ds.length
 |[],_,h=>by simp only[aY]at h;rw[h];rfl
 |d::ds,_,h=>by
  simp only[aY]at h;obtain⟨v,r,e,_,h2⟩:=h;rw[e,List.length_cons,List.length_cons,aY.length h2]
theorem aY.get:∀{ds:List D}{vs:List V}{i:Nat}{d:D},aY Z H ds vs->ds[i]?=some d->∃v,vs[i]?=some v/\Rep Z H d v
 |[],_,_,_,_,e=>by simp at e
 |d::ds,_,0,_,h,e=>by
  simp only[aY]at h;obtain⟨v,r,rfl,h1,_⟩:=h;simp at e;subst e
  exact⟨v,rfl,h1⟩
 |d::ds,_,i+1,a,h,e=>by
  simp only[aY]at h;obtain⟨v,r,rfl,_,b⟩:=h;obtain⟨u,c,f⟩:=aY.get (i:=i) (d:=a) b (by simpa using e)
  exact⟨u,by simpa using c,f⟩
theorem aY.append:∀{ds es:List D}{vs a:List V},aY Z H ds vs->aY Z H es a->aY Z H (ds++es) (vs++a)
 |[],_,_,_,h,h'=>by simp only[aY]at h;rw[h];exact h'
 |d::ds,_,_,_,h,h'=>by
  simp only[aY]at h;obtain⟨v,r,rfl,h1,h2⟩:=h
  show aY Z H (d::(ds++_)) (v::(r++_))
  simp only[aY];exact⟨v,_,rfl,h1,aY.append h2 h'⟩
theorem aY.nil:aY Z H [] []:=by simp only[aY]
theorem aY.cons{d:D}{ds:List D}{v:V}{vs:List V}(h:Rep Z H d v)(h':aY Z H ds vs):aY Z H (d::ds) (v::vs):=by
 simp only[aY];exact⟨v,vs,rfl,h,h'⟩
theorem aY.nil_inv{vs:List V}(h:aY Z H [] vs):vs=[]:=by simpa only [aY]using h
theorem aY.cons_inv{d:D}{ds:List D}{vs:List V}(h:aY Z H (d::ds) vs):∃v r,vs=v::r/\Rep Z H d v/\aY Z H ds r:=by simpa only [aY]using h
def Now(Z:Addr->Prop)(H:Hp)(d:D)(v:V):Prop:=
 match d with
 |.lst c=>∃a b,v=.ref a/\Rd H a (.lst b)/\aY Z H c b
 |d=>Rep Z H d v
theorem Rep.now{d:D}{v:V}(h:Rep Z H d v):Now Z H d v:=by
 cases d with
 |lst c=>
  simp only[Rep]at h;obtain⟨a,b,e,_,h⟩:=h;exact⟨a,b,e,h⟩
 |_=>exact h
end
structure eu(Z:Addr->Prop)(H:Hp)(Z':Addr->Prop)(H':Hp):Prop where
 same:iv H H'
 sub:∀a,Z a->Z' a
 new:∀a,Z' a->Z a\/H a=none
 dom:∀a,Z' a->H' a≠none
theorem eu.refl{Z:Addr->Prop}{H:Hp}(d:∀a,Z a->H a≠none):eu Z H Z H:=⟨iv.refl _,λ_ h=>h,λ_ h=>.inl h,d⟩
theorem iv.laid{H:Hp}{p:Addr}{o:HO}(h:H p=none):iv H (upd H p o):=λb u e=>by rw[aH (bg e h)];exact e
theorem eu.laid{Z:Addr->Prop}{H:Hp}{p:Addr}{o:HO}(d:∀a,Z a->H a≠none)(h:H p=none):eu Z H Z (upd H p o):=
 ⟨iv.laid h,λ_ h=>h,λ_ h=>.inl h,λa b=>by
  have ne:a≠p:=λe=>d a b (by rw[e];exact h)
  rw[aH ne];exact d a b⟩
def Zp(Z:Addr->Prop)(p:Addr):Addr->Prop:=λa=>Z a\/a=p
section
variable{Z0 Z Z':Addr->Prop}{H0 H H':Hp}{ρ:yZ}{σ:L2.St}
end
def ec(bw b:Bool)(Z:Addr->Prop)(f H:Hp)(d:D)(v:V):Prop:=
 if b=true then ∃a c e,d=.lst e/\v=.ref a/\f a=none/\¬ Z a/\H a=some (.lst c)/\aY Z H e c
 else if bw=true then Now Z H d v else Rep Z H d v
theorem ec.own{bw:Bool}{Z:Addr->Prop}{b H:Hp}{a:Addr}{ds:List D}{vs:List V}(c:b a=none)(d:¬ Z a)(e:H a=some (.lst vs))(f:aY Z H ds vs):ec bw true Z b H (.lst ds) (.ref a):=by
 unfold ec;rw[if_pos rfl];exact⟨a,vs,ds,rfl,rfl,c,d,e,f⟩
theorem ec.rep{bw:Bool}{Z:Addr->Prop}{a H:Hp}{d:D}{v:V}(h:Rep Z H d v):ec bw false Z a H d v:=by
 unfold ec;rw[if_neg Bool.false_ne_true]
 split
 .exact h.now
 .exact h
theorem ec.now{b:Bool}{Z:Addr->Prop}{c H:Hp}{d:D}{v:V}(h:ec true b Z c H d v):Now Z H d v:=by
 unfold ec at h;split at h
 .obtain⟨a,e,i,rfl,rfl,_,_,f,g⟩:=h
  exact⟨a,e,rfl,.inl f,g⟩
 .rw[if_pos rfl]at h;exact h
theorem PE.imp{X:Cx}{e:Expr}{t t':TE}(h:PE X e t)(i:∀a H Q,t' a H Q->t a H Q):PE X e t':=λpins s a H Q I q=>h pins s a H Q I (i a H Q q)
theorem ku{d e:Type}{x:Out d}{f:d->Out e}{b:e}(h:(x >>= f)=.ok b):∃a,x=.ok a/\f a=.ok b:=by
 cases x with
 |ok a=>exact⟨a,rfl,h⟩
 |exc c g=>cases h
 |bad=>cases h
section
variable{Γ:lN}{Z0 Z:Addr->Prop}{H0 H:Hp}{ρ:yZ}{σ:L2.St}{c:Ex}{Q:VK}{own:Bool}{d:D}
end
end Mir
namespace Mir
open PySem PySem.Spec PyProof.Rows L2
section
variable{Z Z':Addr->Prop}{H H2 H':Hp}{d:D}{v:V}{bw own:Bool}
theorem bE{n:Nat}(h:small n=true):n<=sizeLine:=of_decide_eq_true h
end
section
variable{X:Cx}{Γ:lN}{bw:Bool}{a b e:Expr}{ca cb c:Ex}{pos:Pos}
noncomputable def fq:D->Option V
 |.non=>some .non
 |.bl b=>some (.bl b)
 |.int i=>some (.int i)
 |.str x=>some (.str x)
 |_=>none
theorem eB{Z:Addr->Prop}{H:Hp}{d:D}{v:V}(h:fq d=some v):Rep Z H d v:=by
 cases d<;>simp only[fq]at h<;>first|cases h;simp only[Rep]|cases h
end
section
variable{Z:Addr->Prop}{H:Hp}{x:V}
theorem fH(h:Now Z H .non x):x=.non:=by simpa only [Now,Rep]using h
theorem bG{i:Int}(h:Now Z H (.int i) x):x=.int i:=by simpa only [Now,Rep]using h
theorem h9{i:Bool}(h:Now Z H (.bl i) x):x=.bl i:=by simpa only [Now,Rep]using h
theorem dh{i:Str}(h:Now Z H (.str i) x):x=.str i:=by simpa only [Now,Rep]using h
theorem cV{ds:List D}(h:Now Z H (.lst ds) x):∃a vs,x=.ref a/\Rd H a (.lst vs)/\aY Z H ds vs:=h
theorem fI{ds:List D}(h:Now Z H (.tup ds) x):∃a vs,x=.ref a/\Z a/\Rd H a (.tup vs)/\aY Z H ds vs:=by simpa only [Now,Rep]using h
theorem jQ{K:PySem.W.Frag}{a:Addr}{vs:List V}(h:Rd H a (.lst vs)):jK K H a vs:=.inl h
theorem uv{K:PySem.W.Frag}{a:Addr}{vs:List V}(h:Rd H a (.tup vs)):f_ K H a vs:=.inl h
theorem y8{bw:Bool}{Q:VK}{ds:List D}{vs:List V}(b:∀a,Z a->H a≠none)(f:aY Z H ds vs)
  (k:∀v d e,eu Z H e d->ec bw true e H d (.lst ds) v->Q v d):∀p,H p=none->Q (.ref p) (upd H p (.lst vs)):=λp c=>
 k _ _ Z (eu.laid b c) (.own c (λz=>b p z c) aU (f.mono (λa o _=>iv.laid c a o) λ_ z=>z))
end
section
variable{X:Cx}{Γ:lN}{bw:Bool}{a b e:Expr}{ca cb c:Ex}{pos:Pos}
def BI:R2:=λx y H Q=>∃l b a c,x=.ref l/\y=.ref b/\Rd H l (.lst a)/\Rd H b (.lst c)/\a.length+c.length<=sizeLine/\∀p,H p=none->Q (.ref p) (upd H p (.lst (a++c)))
theorem y9:fD X (binaryOp .Add) BI:=by
 intro pins s w H x y v u Q I i j h;obtain⟨l,b,d,f,rfl,rfl,k,m,A,q⟩:=h;cases i;cases j;obtain⟨z,a,n,r,e⟩:d.length<=sizeLine/\∃(a:List Value) (n:Nat),Vals d a/\s.heap.get? l=some {cls:=.type "list",data:=.seq a.toArray n}:=Rd.ok k I.hok;obtain⟨B,c,C,g,o⟩:f.length<=sizeLine/\∃(a:List Value) (n:Nat),Vals f a/\s.heap.get? b=some {cls:=.type "list",data:=.seq a.toArray n}:=Rd.ok m I.hok;have D:=r.length;have p:=g.length;refine PySem.P.add_list e o ?_ (by rw[List.size_toArray,List.size_toArray];omega)
 have t:a.toArray++c.toArray=(a++c).toArray:=by simp
 rw[t];exact⟨.ref _,_,I.Lw (t':=s.toks) (r.append g) (by rw[List.length_append];omega),rfl,q _ I.fresh⟩
def y_(op:Operator):R2:=λx y H Q=>match op with
 |.Add=>(∃i j,x=.int i/\y=.int j/\Q (.int (i+j)) H)\/(∃i j,x=.str i/\y=.str j/\i.length+j.length<=sizeLine/\Q (.str (i++j)) H)\/BI x y H Q
 |.Sub=>∃i j,x=.int i/\y=.int j/\Q (.int (i - j)) H
 |.Mult=>∃i j,x=.int i/\y=.int j/\yG i j/\Q (.int (i*j)) H
 |.FloorDiv=>∃i j,x=.int i/\y=.int j/\Fy i j/\Q (.int (i / j)) H
 |.Mod=>∃i j,x=.int i/\y=.int j/\0<j/\Q (.int (i%j)) H
 |.Pow=>∃i j,x=.int i/\y=.int j/\Fz i j/\Q (.int (i ^ j.toNat)) H
 |_=>False
theorem wd(op:Operator):fD X (binaryOp op) (y_ op):=by
 cases op with
 |Add=>exact Cu.or (qA.or y9)
 |Sub=>exact Cv
 |Mult=>exact Cw
 |FloorDiv=>exact yH
 |Mod=>exact Cy
 |Pow=>exact Cz
 |_=>exact λ_ _ _ _ _ _ _ _ _ _ _ _ h=>h.elim
theorem CQ{op:Operator}{n o:D}{x y:V}{Z:Addr->Prop}{H:Hp}{h:Bool}{d:D}{Q:VK}(f:Now Z H n x)(g:Now Z H o y)(i:∀a,Z a->H a≠none)(b:fk op n o=.ok (h,d))
  (k:∀v j p,eu Z H p j->ec bw h p H j d v->Q v j):y_ op x y H Q:=by
 have c:∀{r:D}{v:V},fq r=some v->Out.ok (false,r)=Out.ok (h,d)->Q v H:=λu q=>by
  cases q;exact k _ H Z (eu.refl i) (.rep (eB u))
 unfold fk at b;split at b
 .cases bG f;cases bG g
  exact .inl ⟨_,_,rfl,rfl,c rfl b⟩
 .cases bG f;cases bG g
  exact⟨_,_,rfl,rfl,c rfl b⟩
 .cases bG f;cases bG g
  split at b
  .rename_i e
   refine⟨_,_,rfl,rfl,?_,c rfl b⟩;simp only[Bool.or_eq_true]at e;have e:=e.imp oY oY;exact e
  .cases b
 .cases bG f;cases bG g
  split at b
  .rename_i e
   refine⟨_,_,rfl,rfl,?_,c rfl b⟩;simp only[Bool.and_eq_true,decide_eq_true_eq]at e;exact e
  .cases b
 .cases bG f;cases bG g
  split at b
  .rename_i e
   exact⟨_,_,rfl,rfl,of_decide_eq_true e,c rfl b⟩
  .cases b
 .cases bG f;cases bG g
  split at b
  .rename_i e
   refine⟨_,_,rfl,rfl,?_,c rfl b⟩;simp only[Bool.and_eq_true,decide_eq_true_eq]at e;exact⟨e.1.1,Int.le_trans e.1.2 (by decide),e.2⟩
  .cases b
 .cases dh f;cases dh g
  split at b
  .rename_i e
   exact .inr (.inl ⟨_,_,rfl,rfl,bE e,c rfl b⟩)
  .cases b
 .obtain⟨l,w,rfl,z,s⟩:=cV f
  obtain⟨m,A,rfl,B,t⟩:=cV g;split at b
  .rename_i e
   cases b;have C:=bE e;exact .inr (.inr ⟨l,m,w,A,rfl,rfl,z,B,by rw[s.length,t.length];exact C,y8 i (s.append t) k⟩)
  .cases b
 .cases b
end
section
variable{Z:Addr->Prop}{H:Hp}
theorem nA{a:Addr}{u b:HO}(d:∀o w,u≠.dI o w)(c:∀o w,b≠.dI o w)(h:Rd H a u)(h':Rd H a b):u=b:=by
 rcases h with h|⟨o,h⟩<;>rcases h' with h' |⟨f,h'⟩<;>rw[h]at h'<;>injection h' with e
 .exact absurd e (d _ _)
 .exact absurd e.symm (c _ _)
 .injection e
theorem qO{a:Addr}{xs ys:List V}(h:Rd H a (.lst xs))(h':Rd H a (.lst ys)):xs=ys:=by
 have e:=nA (λ_ _ z=>by cases z) (λ_ _ z=>by cases z) h h'
 injection e
theorem qP{a:Addr}{xs ys:List V}(h:Rd H a (.tup xs))(h':Rd H a (.tup ys)):xs=ys:=by
 have e:=nA (λ_ _ z=>by cases z) (λ_ _ z=>by cases z) h h'
 injection e
theorem sx{a:Addr}{xs ys:List V}(h:Rd H a (.lst xs))(h':Rd H a (.tup ys)):False:=by
 have e:=nA (λ_ _ z=>by cases z) (λ_ _ z=>by cases z) h h'
 cases e
mutual
theorem Rep.uniq:∀(n:Nat) (d d':D) (v:V),aI n d=true->aI n d'=true->Rep Z H d v->Rep Z H d' v->d=d'
 |n,.lst xs,d',v,o,o',h,h'=>by
  simp only[Rep]at h;obtain⟨a,g,rfl,_,h1,h2⟩:=h;cases d'<;>simp only[Rep]at h'
  case lst ys=>
   obtain⟨b,i,e,_,c,f⟩:=h';cases e;cases qO h1 c;cases n with
   |zero=>simp[aI]at o
   |succ n=>rw[aY.uniq n xs ys g (by simpa[aI]using o) (by simpa[aI]using o') h2 f]
  case tup ys=>
   obtain⟨b,i,e,_,c,f⟩:=h';cases e;exact(sx h1 c).elim
  case dct ks ys=>cases n<;>simp[aI]at o'
  all_goals cases h'
 |n,.tup xs,d',v,o,o',h,h'=>by
  simp only[Rep]at h;obtain⟨a,g,rfl,_,h1,h2⟩:=h;cases d'<;>simp only[Rep]at h'
  case tup ys=>
   obtain⟨b,i,e,_,c,f⟩:=h';cases e;cases qP h1 c;cases n with
   |zero=>simp[aI]at o
   |succ n=>rw[aY.uniq n xs ys g (by simpa[aI]using o) (by simpa[aI]using o') h2 f]
  case lst ys=>
   obtain⟨b,i,e,_,c,f⟩:=h';cases e;exact(sx c h1).elim
  case dct ks ys=>cases n<;>simp[aI]at o'
  all_goals cases h'
 |n,.dct ks xs,_,_,o,_,_,_=>by cases n<;>simp[aI]at o
 |n,.ref _,_,_,_,_,h,_=>by simp only[Rep]at h
 |n,.non,d',v,_,o',h,h'=>by
  simp only[Rep]at h;subst h
  cases d'<;>simp only[Rep]at h'<;>first|rfl | (obtain⟨_,_,e,_⟩:=h';cases e;done) | (cases h';done)
 |n,.bl b,d',v,_,o',h,h'=>by
  simp only[Rep]at h;subst h
  cases d'<;>simp only[Rep]at h'<;>first | (obtain⟨_,_,e,_⟩:=h';cases e;done) | (cases h';rfl) | (cases h';done)
 |n,.int b,d',v,_,o',h,h'=>by
  simp only[Rep]at h;subst h
  cases d'<;>simp only[Rep]at h'<;>first | (obtain⟨_,_,e,_⟩:=h';cases e;done) | (cases h';rfl) | (cases h';done)
 |n,.str b,d',v,_,o',h,h'=>by
  simp only[Rep]at h;subst h
  cases d'<;>simp only[Rep]at h'<;>first | (obtain⟨_,_,e,_⟩:=h';cases e;done) | (cases h';rfl) | (cases h';done)
theorem aY.uniq:∀(n:Nat) (xs ys:List D) (vs:List V),(∀x∈xs,aI n x=true)->(∀x∈ys,aI n x=true)->aY Z H xs vs->aY Z H ys vs->xs=ys
 |n,[],ys,vs,_,_,h,h'=>by
  rw[h.nil_inv]at h';cases ys with
  |nil=>rfl
  |cons y ys=>obtain⟨_,_,e,_⟩:=h'.cons_inv;cases e
 |n,x::xs,ys,vs,o,b,h,h'=>by
  obtain⟨v,r,rfl,c,d⟩:=h.cons_inv;cases ys with
  |nil=>exact absurd h'.nil_inv (by simp)
  |cons y ys=>
   obtain⟨w,i,e,f,g⟩:=h'.cons_inv;cases e;rw[Rep.uniq n x y v (o x (by simp)) (b y (by simp)) c f,aY.uniq n xs ys r (λz a=>o z (by simp[a])) (λz a=>b z (by simp[a])) d g]
end
mutual
theorem we:∀(n:Nat) (d:D),aI n d=true->d_ d d=true
 |n,.lst xs,o=>by
  cases n with
  |zero=>simp[aI]at o
  |succ n=>simp only[d_];exact ft n xs (by simpa[aI]using o)
 |n,.tup xs,o=>by
  cases n with
  |zero=>simp[aI]at o
  |succ n=>simp only[d_];exact ft n xs (by simpa[aI]using o)
 |n,.dct _ _,o=>by cases n<;>simp[aI]at o
 |n,.ref _,o=>by cases n<;>simp[aI]at o
 |n,.non,_=>by simp[d_]
 |n,.bl _,_=>by simp[d_]
 |n,.int _,_=>by simp[d_]
 |n,.str _,_=>by simp[d_]
theorem ft:∀(n:Nat) (xs:List D),(∀x∈xs,aI n x=true)->et xs xs=true
 |n,[],_=>by simp[et]
 |n,x::xs,o=>by
  simp only[et,we n x (o x (by simp)),ft n xs λz hz=>o z (by simp[hz]),Bool.and_self]
end
theorem dY:∀(xs ys:List D),((List.range (min xs.length ys.length)).all (λj=>d_ (xs.getD j .non) (ys.getD j .non))&&(xs.length==ys.length))=et xs ys
 |[],[]=>by simp[et]
 |[],_::_=>by simp[et]
 |_::_,[]=>by simp[et]
 |x::xs,y::ys=>by
  have a:=dY xs ys;have b:min (x::xs).length (y::ys).length=min xs.length ys.length+1:=by simp only[List.length_cons];omega
  rw[b,List.range_succ_eq_map,List.all_cons,List.all_map,et,←a];simp[Function.comp_def,Bool.and_assoc]
theorem kx{xs ys:List D}(h:xs.length=ys.length):(List.range xs.length).all (λj=>d_ (xs.getD j .non) (ys.getD j .non))=et xs ys:=by
 have e:=dY xs ys;rw[←h,Nat.min_self]at e;simpa using e
theorem nB{xs ys:List D}(h:xs.length≠ys.length):et xs ys=false:=by
 rw[←dY xs ys];simp[h]
end
inductive Vw (s:Shared) (Z:Addr->Prop) (H:Hp):D->Value->Prop where
 |non:Vw s Z H .non .none
 |bl (b:Bool):Vw s Z H (.bl b) (.bool b)
 |int (i:Int) (t:Tok):Vw s Z H (.int i) (.int i t)
 |str (x:Str) (t:Tok):Vw s Z H (.str x) (.str x t)
 |lst {l:Addr}{its:List Value}{vs:List V}{ds:List D}:s.heap.IsList l its.toArray->Vals vs its->Rd H l (.lst vs)/\aY Z H ds vs->Vw s Z H (.lst ds) (.ref l)
 |tup {l:Addr}{its:List Value}{vs:List V}{ds:List D}:s.heap.IsTuple l its.toArray->Vals vs its->Rd H l (.tup vs)/\aY Z H ds vs->Vw s Z H (.tup ds) (.ref l)
section
variable{X:Cx}{pins:List (Addr×Obj)}{σ:L2.St}{Z:Addr->Prop}{H:Hp}{s:Shared}{A:Around}
theorem eW{n:Nat}{d:D}{v:V}{u:Value}(I:Inv X pins σ H s)(c:Now Z H d v)(r:RelV v u)(o:aI n d=true):Vw s Z H d u:=by
 cases d with
 |non=>cases fH c;cases r;exact .non
 |bl b=>cases h9 c;cases r;exact .bl b
 |int b=>cases bG c;obtain⟨t,rfl⟩:=r;exact .int b t
 |str b=>cases dh c;obtain⟨t,rfl⟩:=r;exact .str b t
 |lst i=>
  obtain⟨a,j,rfl,e,f⟩:=cV c;cases r;obtain⟨g,h,p,l⟩:=I.list (jQ (K:=X.K) e);exact .lst p.isList h ⟨e,f⟩
 |tup i=>
  obtain⟨a,j,rfl,_,e,f⟩:=fI c;cases r;obtain⟨g,h,p,l⟩:=I.tuple (uv (K:=X.K) e);exact .tup p h ⟨e,f⟩
 |dct m i=>cases n<;>simp[aI]at o
 |ref k=>cases n<;>simp[aI]at o
theorem nE{vs:List V}{a:List Value}(r:Vals vs a){j:Nat}(d:j<a.length):∃v,vs[j]?=some v/\RelV v a[j]:=by
 have f:=r.length;have b:vs[j]?=some vs[j]:=by simp[show j<vs.length by omega]
 obtain⟨u,c,e⟩:=r.get b;rw[List.getElem?_eq_getElem d]at c;cases c;exact⟨_,b,e⟩
theorem fu{n:Nat}(I:Inv X pins σ H s)(r:∀(A:Around) (e f:D) (u w:Value),A.units+n<cLine->aI n e=true->aI n f=true->Vw s Z H e u->Vw s Z H f w->SeqAt.EqAt A s u w (d_ e f))
  {ds es:List D} (t:∀x∈ds,aI n x=true) (y:∀x∈es,aI n x=true) (G:A.units+(n+1)<cLine) {vs k:List V}{b a:List Value} (l:Vals vs b) (m:Vals k a) (pl:aY Z H ds vs) (o:aY Z H es k) :
  ∀j (g:j<b.toArray.size) (h:j<a.toArray.size),SeqAt.EqAt A.in1 s b.toArray[j] a.toArray[j] (d_ (ds.getD j .non) (es.getD j .non)):=by
 intro j g h;have J:=l.length;have K:=m.length;have L:=pl.length;have M:=o.length;simp only[List.size_toArray]at g h;simp only[List.getElem_toArray];obtain⟨v,z,B⟩:=nE l g;obtain⟨w,C,i⟩:=nE m h;have p:ds[j]?=some (ds.getD j .non):=by simp[List.getD,show j<ds.length by omega]
 have q:es[j]?=some (es.getD j .non):=by simp[List.getD,show j<es.length by omega]
 obtain⟨N,c,E⟩:=pl.get p;obtain⟨O,d,F⟩:=o.get q;rw[z]at c;cases c
 rw[C]at d;cases d
 have o1:=t _ (List.mem_of_getElem? p);have o2:=y _ (List.mem_of_getElem? q);exact r A.in1 _ _ _ _ (by show A.units+1+n<cLine;omega) o1 o2 (eW I E.now B o1) (eW I F.now i o2)
theorem eD(I:Inv X pins σ H s):∀(n:Nat) (A:Around) (G J:D) (u w:Value),A.units+n<cLine->aI n G=true->aI n J=true->Vw s Z H G u->Vw s Z H J w->SeqAt.EqAt A s u w (d_ G J):=by
 intro n
 induction n with
 |zero=>
  intro A G J u w N E K O o;have f:A.units<cLine:=by omega
  cases O with
  |non=>
   cases o with
   |non=>exact SeqAt.EqAt.same _
   |bl p=>exact SeqAt.EqAt.none_bool _
   |int q k=>exact SeqAt.EqAt.none_int _ _
   |str r k=>exact SeqAt.EqAt.none_str _ _
   |@lst m a d c e h g=>exact SeqAt.EqAt.none_list e f
   |@tup m a d c e h g=>exact SeqAt.EqAt.none_tuple e f
  |bl b=>
   cases o with
   |non=>exact SeqAt.EqAt.bool_none _
   |bl p=>exact SeqAt.EqAt.bool_bool _ _
   |int q k=>exact SeqAt.EqAt.bool_int _ _ _
   |str r k=>exact SeqAt.EqAt.bool_str _ _ _
   |@lst m a d c e h g=>exact SeqAt.EqAt.bool_list _ e f
   |@tup m a d c e h g=>exact SeqAt.EqAt.bool_tuple _ e f
  |int i t=>
   cases o with
   |non=>exact SeqAt.EqAt.int_none _ _
   |bl p=>exact SeqAt.EqAt.int_bool _ _ _
   |int q k=>exact SeqAt.EqAt.int_int _ _ _ _
   |str r k=>exact SeqAt.EqAt.int_str _ _ _ _
   |@lst m a d c e h g=>exact SeqAt.EqAt.int_list _ _ e f
   |@tup m a d c e h g=>exact SeqAt.EqAt.int_tuple _ _ e f
  |str x t=>
   cases o with
   |non=>exact SeqAt.EqAt.str_none _ _
   |bl p=>exact SeqAt.EqAt.str_bool _ _ _
   |int q k=>exact SeqAt.EqAt.str_int _ _ _ _
   |str r k=>exact SeqAt.EqAt.str_str _ _ _ _
   |@lst m a d c e h g=>exact SeqAt.EqAt.str_list _ _ e f
   |@tup m a d c e h g=>exact SeqAt.EqAt.str_tuple _ _ e f
  |@lst l y L z j F B=>
   cases o with
   |non=>exact SeqAt.EqAt.list_none j f
   |bl p=>exact SeqAt.EqAt.list_bool _ j f
   |int q k=>exact SeqAt.EqAt.list_int _ _ j f
   |str r k=>exact SeqAt.EqAt.list_str _ _ j f
   |@lst m a d c e h g=>
    simp[aI]at E
   |@tup m a d c e h g=>exact SeqAt.EqAt.list_tuple j e f
  |@tup l y L z j F B=>
   cases o with
   |non=>exact SeqAt.EqAt.tuple_none j f
   |bl p=>exact SeqAt.EqAt.tuple_bool _ j f
   |int q k=>exact SeqAt.EqAt.tuple_int _ _ j f
   |str r k=>exact SeqAt.EqAt.tuple_str _ _ j f
   |@lst m a d c e h g=>exact SeqAt.EqAt.tuple_list j e f
   |@tup m a d c e h g=>
    simp[aI]at E
 |succ n R=>
  intro A G J u w N E K O o;have f:A.units<cLine:=by omega
  cases O with
  |non=>
   cases o with
   |non=>exact SeqAt.EqAt.same _
   |bl p=>exact SeqAt.EqAt.none_bool _
   |int q k=>exact SeqAt.EqAt.none_int _ _
   |str r k=>exact SeqAt.EqAt.none_str _ _
   |@lst m a d c e h g=>exact SeqAt.EqAt.none_list e f
   |@tup m a d c e h g=>exact SeqAt.EqAt.none_tuple e f
  |bl b=>
   cases o with
   |non=>exact SeqAt.EqAt.bool_none _
   |bl p=>exact SeqAt.EqAt.bool_bool _ _
   |int q k=>exact SeqAt.EqAt.bool_int _ _ _
   |str r k=>exact SeqAt.EqAt.bool_str _ _ _
   |@lst m a d c e h g=>exact SeqAt.EqAt.bool_list _ e f
   |@tup m a d c e h g=>exact SeqAt.EqAt.bool_tuple _ e f
  |int i t=>
   cases o with
   |non=>exact SeqAt.EqAt.int_none _ _
   |bl p=>exact SeqAt.EqAt.int_bool _ _ _
   |int q k=>exact SeqAt.EqAt.int_int _ _ _ _
   |str r k=>exact SeqAt.EqAt.int_str _ _ _ _
   |@lst m a d c e h g=>exact SeqAt.EqAt.int_list _ _ e f
   |@tup m a d c e h g=>exact SeqAt.EqAt.int_tuple _ _ e f
  |str x t=>
   cases o with
   |non=>exact SeqAt.EqAt.str_none _ _
   |bl p=>exact SeqAt.EqAt.str_bool _ _ _
   |int q k=>exact SeqAt.EqAt.str_int _ _ _ _
   |str r k=>exact SeqAt.EqAt.str_str _ _ _ _
   |@lst m a d c e h g=>exact SeqAt.EqAt.str_list _ _ e f
   |@tup m a d c e h g=>exact SeqAt.EqAt.str_tuple _ _ e f
  |@lst l y L z j F B=>
   cases o with
   |non=>exact SeqAt.EqAt.list_none j f
   |bl p=>exact SeqAt.EqAt.list_bool _ j f
   |int q k=>exact SeqAt.EqAt.list_int _ _ j f
   |str r k=>exact SeqAt.EqAt.list_str _ _ j f
   |@lst m a d c e h g=>
    have S:=F.length;have T:=h.length;have U:=B.2.length;have V:=g.2.length;simp only[d_]
    by_cases C:l=m
    .subst C
     have P:=qO B.1 g.1;subst P;have Q:=aY.uniq n z c L (by simpa[aI]using E) (by simpa[aI]using K) B.2 g.2
     subst Q;rw[ft n z (by simpa[aI]using E)]
     exact SeqAt.EqAt.same _
    .refine SeqAt.EqAt.of_refs C ?_
     by_cases M:z.length=c.length
     .rw[←kx M]
      have:=SeqAt.RcAt.lists j e (by simp only[List.size_toArray];omega) f (fu I R (by simpa[aI]using E) (by simpa[aI]using K) N F h B.2 g.2)
      rw[show y.toArray.size=z.length by simp only[List.size_toArray];omega]at this
      exact this
     .rw[nB M]
      exact SeqAt.RcAt.lists_lengths j e (by simp only[List.size_toArray,bne_iff_ne];omega) f
   |@tup m a d c e h g=>exact SeqAt.EqAt.list_tuple j e f
  |@tup l y L z j F B=>
   cases o with
   |non=>exact SeqAt.EqAt.tuple_none j f
   |bl p=>exact SeqAt.EqAt.tuple_bool _ j f
   |int q k=>exact SeqAt.EqAt.tuple_int _ _ j f
   |str r k=>exact SeqAt.EqAt.tuple_str _ _ j f
   |@lst m a d c e h g=>exact SeqAt.EqAt.tuple_list j e f
   |@tup m a d c e h g=>
    have S:=F.length;have T:=h.length;have U:=B.2.length;have V:=g.2.length;simp only[d_]
    by_cases C:l=m
    .subst C
     have P:=qP B.1 g.1;subst P;have Q:=aY.uniq n z c L (by simpa[aI]using E) (by simpa[aI]using K) B.2 g.2
     subst Q;rw[ft n z (by simpa[aI]using E)]
     exact SeqAt.EqAt.same _
    .refine SeqAt.EqAt.of_refs C ?_
     rw[←dY z c];have:=SeqAt.RcAt.tuples j e f (fu I R (by simpa[aI]using E) (by simpa[aI]using K) N F h B.2 g.2)
     rw[show y.toArray.size=z.length by simp only[List.size_toArray];omega,show a.toArray.size=c.length by simp only[List.size_toArray];omega]at this
     exact this
theorem wg(I:Inv X pins σ H s){n:Nat}{F G:D}{u w:Value}(J:A.units+(n+1)<cLine)(K:aI (n+1) F=true)(L:aI (n+1) G=true)(M:Vw s Z H F u)(p:Vw s Z H G w):SeqAt.RcAt A s u w (d_ F G):=by
 have f:A.units<cLine:=by omega
 cases M with
 |non=>
  cases p with
  |non=>exact SeqAt.RcAt.none_none
  |bl q=>exact SeqAt.RcAt.none_bool _
  |int r k=>exact SeqAt.RcAt.none_int _ _
  |str y k=>exact SeqAt.RcAt.none_str _ _
  |@lst m a e c d g h=>exact SeqAt.RcAt.none_list d f
  |@tup m a e c d g h=>exact SeqAt.RcAt.none_tuple d f
 |bl b=>
  cases p with
  |non=>exact SeqAt.RcAt.bool_none _
  |bl q=>exact SeqAt.RcAt.bool_bool _ _
  |int r k=>exact SeqAt.RcAt.bool_int _ _ _
  |str y k=>exact SeqAt.RcAt.bool_str _ _ _
  |@lst m a e c d g h=>exact SeqAt.RcAt.bool_list _ d f
  |@tup m a e c d g h=>exact SeqAt.RcAt.bool_tuple _ d f
 |int i t=>
  cases p with
  |non=>exact SeqAt.RcAt.int_none _ _
  |bl q=>exact SeqAt.RcAt.int_bool _ _ _
  |int r k=>exact SeqAt.RcAt.int_int _ _ _ _
  |str y k=>exact SeqAt.RcAt.int_str _ _ _ _
  |@lst m a e c d g h=>exact SeqAt.RcAt.int_list _ _ d f
  |@tup m a e c d g h=>exact SeqAt.RcAt.int_tuple _ _ d f
 |str x t=>
  cases p with
  |non=>exact SeqAt.RcAt.str_none _ _
  |bl q=>exact SeqAt.RcAt.str_bool _ _ _
  |int r k=>exact SeqAt.RcAt.str_int _ _ _ _
  |str y k=>exact SeqAt.RcAt.str_str _ _ _ _
  |@lst m a e c d g h=>exact SeqAt.RcAt.str_list _ _ d f
  |@tup m a e c d g h=>exact SeqAt.RcAt.str_tuple _ _ d f
 |@lst l o N z j B C=>
  cases p with
  |non=>exact SeqAt.RcAt.list_none j f
  |bl q=>exact SeqAt.RcAt.list_bool _ j f
  |int r k=>exact SeqAt.RcAt.list_int _ _ j f
  |str y k=>exact SeqAt.RcAt.list_str _ _ j f
  |@lst m a e c d g h=>
   have O:=B.length;have P:=g.length;have Q:=C.2.length;have R:=h.2.length;simp only[d_]
   by_cases E:z.length=c.length
   .rw[←kx E]
    have:=SeqAt.RcAt.lists j d (by simp only[List.size_toArray];omega) f (fu I (eD I n) (by simpa[aI]using K) (by simpa[aI]using L) J B g C.2 h.2)
    rw[show o.toArray.size=z.length by simp only[List.size_toArray];omega]at this
    exact this
   .rw[nB E]
    exact SeqAt.RcAt.lists_lengths j d (by simp only[List.size_toArray,bne_iff_ne];omega) f
  |@tup m a e c d g h=>exact SeqAt.RcAt.list_tuple j d f
 |@tup l o N z j B C=>
  cases p with
  |non=>exact SeqAt.RcAt.tuple_none j f
  |bl q=>exact SeqAt.RcAt.tuple_bool _ j f
  |int r k=>exact SeqAt.RcAt.tuple_int _ _ j f
  |str y k=>exact SeqAt.RcAt.tuple_str _ _ j f
  |@lst m a e c d g h=>exact SeqAt.RcAt.tuple_list j d f
  |@tup m a e c d g h=>
   have O:=B.length;have P:=g.length;have Q:=C.2.length;have R:=h.2.length;simp only[d_];rw[←dY z c];have:=SeqAt.RcAt.tuples j d f (fu I (eD I n) (by simpa[aI]using K) (by simpa[aI]using L) J B g C.2 h.2)
   rw[show o.toArray.size=z.length by simp only[List.size_toArray];omega,show a.toArray.size=c.length by simp only[List.size_toArray];omega]at this
   exact this
theorem qQ(I:Inv X pins σ H s){n:Nat}{F G:D}{u w:Value}(J:A.units+(n+1)<cLine)(K:aI (n+1) F=true)(L:aI (n+1) G=true)(M:Vw s Z H F u)(p:Vw s Z H G w):SeqAt.RcNeAt A s u w (!d_ F G):=by
 have f:A.units<cLine:=by omega
 cases M with
 |non=>
  cases p with
  |non=>exact SeqAt.RcNeAt.none_none
  |bl q=>exact SeqAt.RcNeAt.none_bool _
  |int r k=>exact SeqAt.RcNeAt.none_int _ _
  |str y k=>exact SeqAt.RcNeAt.none_str _ _
  |@lst m a e c d g h=>exact SeqAt.RcNeAt.none_list d f
  |@tup m a e c d g h=>exact SeqAt.RcNeAt.none_tuple d f
 |bl b=>
  cases p with
  |non=>exact SeqAt.RcNeAt.bool_none _
  |bl q=>exact SeqAt.RcNeAt.bool_bool _ _
  |int r k=>exact SeqAt.RcNeAt.bool_int _ _ _
  |str y k=>exact SeqAt.RcNeAt.bool_str _ _ _
  |@lst m a e c d g h=>exact SeqAt.RcNeAt.bool_list _ d f
  |@tup m a e c d g h=>exact SeqAt.RcNeAt.bool_tuple _ d f
 |int i t=>
  cases p with
  |non=>exact SeqAt.RcNeAt.int_none _ _
  |bl q=>exact SeqAt.RcNeAt.int_bool _ _ _
  |int r k=>exact SeqAt.RcNeAt.int_int _ _ _ _
  |str y k=>exact SeqAt.RcNeAt.int_str _ _ _ _
  |@lst m a e c d g h=>exact SeqAt.RcNeAt.int_list _ _ d f
  |@tup m a e c d g h=>exact SeqAt.RcNeAt.int_tuple _ _ d f
 |str x t=>
  cases p with
  |non=>exact SeqAt.RcNeAt.str_none _ _
  |bl q=>exact SeqAt.RcNeAt.str_bool _ _ _
  |int r k=>exact SeqAt.RcNeAt.str_int _ _ _ _
  |str y k=>exact SeqAt.RcNeAt.str_str _ _ _ _
  |@lst m a e c d g h=>exact SeqAt.RcNeAt.str_list _ _ d f
  |@tup m a e c d g h=>exact SeqAt.RcNeAt.str_tuple _ _ d f
 |@lst l o N z j B C=>
  cases p with
  |non=>exact SeqAt.RcNeAt.list_none j f
  |bl q=>exact SeqAt.RcNeAt.list_bool _ j f
  |int r k=>exact SeqAt.RcNeAt.list_int _ _ j f
  |str y k=>exact SeqAt.RcNeAt.list_str _ _ j f
  |@lst m a e c d g h=>
   have O:=B.length;have P:=g.length;have Q:=C.2.length;have R:=h.2.length;simp only[d_]
   by_cases E:z.length=c.length
   .rw[←kx E]
    have:=SeqAt.RcNeAt.lists j d (by simp only[List.size_toArray];omega) f (fu I (eD I n) (by simpa[aI]using K) (by simpa[aI]using L) J B g C.2 h.2)
    rw[show o.toArray.size=z.length by simp only[List.size_toArray];omega]at this
    exact this
   .rw[nB E]
    exact SeqAt.RcNeAt.lists_lengths j d (by simp only[List.size_toArray,bne_iff_ne];omega) f
  |@tup m a e c d g h=>exact SeqAt.RcNeAt.list_tuple j d f
 |@tup l o N z j B C=>
  cases p with
  |non=>exact SeqAt.RcNeAt.tuple_none j f
  |bl q=>exact SeqAt.RcNeAt.tuple_bool _ j f
  |int r k=>exact SeqAt.RcNeAt.tuple_int _ _ j f
  |str y k=>exact SeqAt.RcNeAt.tuple_str _ _ j f
  |@lst m a e c d g h=>exact SeqAt.RcNeAt.tuple_list j d f
  |@tup m a e c d g h=>
   have O:=B.length;have P:=g.length;have Q:=C.2.length;have R:=h.2.length;simp only[d_];rw[←dY z c];have:=SeqAt.RcNeAt.tuples j d f (fu I (eD I n) (by simpa[aI]using K) (by simpa[aI]using L) J B g C.2 h.2)
   rw[show o.toArray.size=z.length by simp only[List.size_toArray];omega,show a.toArray.size=c.length by simp only[List.size_toArray];omega]at this
   exact this
end
end Mir
namespace Mir
open PySem PySem.Spec PyProof.Rows L2
theorem Vw.uniq{s:Shared}{Z:Addr->Prop}{H:Hp}{n:Nat}{d d':D}{u:Value}(h:Vw s Z H d u)(h':Vw s Z H d' u)(o:aI n d=true)(r:aI n d'=true):d=d':=by
 cases h with
 |non=>cases h';rfl
 |bl b=>cases h';rfl
 |int i t=>cases h';rfl
 |str x t=>cases h';rfl
 |@lst l j k m w y f=>
  cases h' with
  |@lst _ a g c p q e=>
   cases qO f.1 e.1;cases n with
   |zero=>simp[aI]at o
   |succ n=>rw[aY.uniq n m c k (by simpa[aI]using o) (by simpa[aI]using r) f.2 e.2]
  |@tup _ a g c p q e=>exact(sx f.1 e.1).elim
 |@tup l j k m w y f=>
  cases h' with
  |@tup _ a g c p q e=>
   cases qP f.1 e.1;cases n with
   |zero=>simp[aI]at o
   |succ n=>rw[aY.uniq n m c k (by simpa[aI]using o) (by simpa[aI]using r) f.2 e.2]
  |@lst _ a g c p q e=>exact(sx e.1 f.1).elim
section
variable{X:Cx}{pins:List (Addr×Obj)}{σ:L2.St}{Z:Addr->Prop}{H:Hp}{s:Shared}
def jG(s:Shared)(Z:Addr->Prop)(H:Hp)(a:D)(u:Value):Bool:=@decide (∃d,aI 8 d=true/\Vw s Z H d u/\d_ d a=true) (Classical.propDecidable _)
theorem sy{a d:D}{u:Value}(o:aI 8 d=true)(h:Vw s Z H d u):jG s Z H a u=d_ d a:=by
 unfold jG;cases e:d_ d a with
 |true=>exact @decide_eq_true _ (Classical.propDecidable _) ⟨d,o,h,e⟩
 |false=>
  refine @decide_eq_false _ (Classical.propDecidable _) ?_;rintro⟨g,c,f,b⟩;rw[Vw.uniq f h c o,e]at b;cases b
theorem ky(I:Inv X pins σ H s){b:D}:∀{ds:List D}{vs:List V}{a:List Value},aY Z H ds vs->Vals vs a->(∀d∈ds,aI 8 d=true)->a.any (jG s Z H b)=ds.any λd=>d_ d b
 |[],_,_,h,r,_=>by rw[h.nil_inv]at r;cases r;rfl
 |d::ds,_,_,h,r,o=>by
  obtain⟨v,vr,rfl,h1,h2⟩:=h.cons_inv;cases r with
  |cons c e=>
   rw[List.any_cons,List.any_cons,ky I h2 e λz f=>o z (by simp[f]),sy (o d (by simp)) (eW I h1.now c (o d (by simp)))]
theorem kz(I:Inv X pins σ H s){A:Around}{b:D}{w:Value}(c:A.units+8<cLine)(f:aI 8 b=true)(g:Vw s Z H b w) :
  ∀{ds:List D}{vs:List V}{a:List Value},aY Z H ds vs->Vals vs a->(∀d∈ds,aI 8 d=true)->∀u∈a,SeqAt.EqAt A s u w (jG s Z H b u)
 |[],_,_,h,r,_,u,hm=>by rw[h.nil_inv]at r;cases r;simp at hm
 |d::ds,_,_,h,r,o,u,hm=>by
  obtain⟨v,vr,rfl,h1,h2⟩:=h.cons_inv;cases r with
  |cons j k=>
   rcases List.mem_cons.mp hm with e|hm
   .subst e
    have i:=eW I h1.now j (o d (by simp))
    rw[sy (o d (by simp)) i]
    exact eD I 8 A d b _ w c (o d (by simp)) f i g
   .exact kz I c f g h2 k (λz l=>o z (by simp[l])) u hm
end
section
variable{X:Cx}{Γ:lN}{bw:Bool}{a b e:Expr}{ca cb cc c:Ex}{pos:Pos}
def wh(op:CmpOp):R2:=λx y H Q=>∃Z a b k,Now Z H a x/\Now Z H b y/\dU op a b=.ok k/\Q (.bl k) H
theorem o_{Z:Addr->Prop}{H:Hp}{b:List L2.Key}{ds:List D}{x:V}(h:Now Z H (.dct b ds) x):∃a,x=.ref a:=by
 have h:Rep Z H (.dct b ds) x:=h;simp only[Rep]at h;obtain⟨a,_,e,_⟩:=h;exact⟨a,e⟩
theorem BJ{Z:Addr->Prop}{H:Hp}{f l:D}{x y:V}{k:Bool}{u v:Value}(d:Now Z H f x)(m:Now Z H l y)(e:RelV x u)(o:RelV y v)(h:isD f l=.ok k):plainIs u v=true/\(u==v)=k:=by
 have za:∀{g:List D}{x:V}{u:Value},Now Z H (.lst g) x->RelV x u->∃a,u=.ref a:=λn r=>by
  obtain⟨a,_,rfl,_⟩:=cV n;exact⟨a,r⟩
 have j:∀{g:List D}{x:V}{u:Value},Now Z H (.tup g) x->RelV x u->∃a,u=.ref a:=λn r=>by
  obtain⟨a,_,rfl,_⟩:=fI n;exact⟨a,r⟩
 cases l with
 |non=>
  cases fH m;cases o;cases f with
  |non=>cases fH d;cases e;cases h;exact⟨rfl,rfl⟩
  |bl b=>cases h9 d;cases e;cases h;exact⟨rfl,rfl⟩
  |int i=>cases bG d;obtain⟨t,rfl⟩:=e;cases h;exact⟨rfl,rfl⟩
  |str i=>cases dh d;obtain⟨t,rfl⟩:=e;cases h;exact⟨rfl,rfl⟩
  |lst g=>obtain⟨a,rfl⟩:=za d e;cases h;exact⟨rfl,rfl⟩
  |tup g=>obtain⟨a,rfl⟩:=j d e;cases h;exact⟨rfl,rfl⟩
  |dct p g=>obtain⟨a,rfl⟩:=o_ d;cases e;cases h;exact⟨rfl,rfl⟩
  |ref n=>exact(show False by simpa only [Now,Rep]using d).elim
 |bl c=>
  cases h9 m;cases o;cases f with
  |non=>cases fH d;cases e;cases h;exact⟨rfl,rfl⟩
  |bl b=>cases h9 d;cases e;cases h;exact⟨rfl,by cases b<;>cases c<;>rfl⟩
  |int i=>cases bG d;obtain⟨t,rfl⟩:=e;cases h;exact⟨rfl,rfl⟩
  |str i=>cases dh d;obtain⟨t,rfl⟩:=e;cases h;exact⟨rfl,rfl⟩
  |lst g=>obtain⟨a,rfl⟩:=za d e;cases h;exact⟨rfl,rfl⟩
  |tup g=>obtain⟨a,rfl⟩:=j d e;cases h;exact⟨rfl,rfl⟩
  |dct p g=>cases h
  |ref n=>cases h
 |int _=>cases f<;>cases h
 |str _=>cases f<;>cases h
 |lst _=>cases f<;>cases h
 |tup _=>cases f<;>cases h
 |dct _ _=>cases f<;>cases h
 |ref _=>cases f<;>cases h
theorem BK{pins:List (Addr×Obj)}{s:Shared}{d:L2.St}{H:Hp}{x y:V}{u v:Value}{Q:VK}(L:X.A.units+64<cLine)(I:Inv X pins d H s)(n:RelV x u)(o:RelV y v)
  {Z:Addr->Prop}{a F:D}{k:Bool} (r:Now Z H a x) (t:Now Z H F y) (e:inD a F=.ok k) :
  (Q (.bl k) H->wpAny (model X.prog X.w) X.A (compareOp .In u v) (EP X pins d Q) X.xe s)/\(Q (.bl !k) H->wpAny (model X.prog X.w) X.A (compareOp .NotIn u v) (EP X pins d Q) X.xe s):=by
 unfold inD at e;split at e
 .rename_i z
  split at e
  .rename_i f
   cases e;simp only[Bool.and_eq_true]at f;obtain⟨g,c⟩:=f;have c:=List.all_eq_true.mp c;obtain⟨l,G,rfl,B,h⟩:=cV t;cases o;obtain⟨b,i,p,J⟩:=I.list (jQ (K:=X.K) B);have C:=eW I r n g;have j:∀w,w∈b.toArray->SeqAt.EqAt X.A.in1 s w u (jG s Z H a w):=λw E=>kz I (A:=X.A.in1) (by show X.A.units+1+8<cLine;omega) g C h i c w (by simpa using E)
   have m:b.toArray.any (jG s Z H a)=z.any λy=>d_ y a:=by
    rw[←ky I h i c];simp
   exact⟨λq=>SeqAt.in_listAt (jG s Z H a) p.isList j ⟨.bl _,H,I,rfl,by rw[m];exact q⟩,λq=>SeqAt.notIn_listAt (jG s Z H a) p.isList j ⟨.bl _,H,I,rfl,by rw[m];exact q⟩⟩
  .cases e
 .rename_i z
  split at e
  .rename_i f
   cases e;simp only[Bool.and_eq_true]at f;obtain⟨g,c⟩:=f;have c:=List.all_eq_true.mp c;obtain⟨l,G,rfl,_,B,h⟩:=fI t;cases o;obtain⟨b,i,p,J⟩:=I.tuple (uv (K:=X.K) B);have C:=eW I r n g;have j:∀w,w∈b.toArray->SeqAt.EqAt X.A.in1 s w u (jG s Z H a w):=λw E=>kz I (A:=X.A.in1) (by show X.A.units+1+8<cLine;omega) g C h i c w (by simpa using E)
   have m:b.toArray.any (jG s Z H a)=z.any λy=>d_ y a:=by
    rw[←ky I h i c];simp
   exact⟨λq=>SeqAt.in_tupleAt (jG s Z H a) p j ⟨.bl _,H,I,rfl,by rw[m];exact q⟩,λq=>SeqAt.notIn_tupleAt (jG s Z H a) p j ⟨.bl _,H,I,rfl,by rw[m];exact q⟩⟩
  .cases e
 .cases e
  cases dh r;cases dh t;exact⟨λq=>ud pins s d H _ _ u v Q I n o ⟨_,_,rfl,rfl,q⟩,λq=>mZ pins s d H _ _ u v Q I n o ⟨_,_,rfl,rfl,q⟩⟩
 .cases e
theorem iY(F:X.A.units+64<cLine)(op:CmpOp):fD X (compareOp op) (wh op):=by
 intro pins s D H x y u v Q I m p h;obtain⟨Z,c,d,k,r,t,e,q⟩:=h;have l:EP X pins D Q (.bool k) s:=⟨.bl k,H,I,rfl,q⟩
 have a:∀{i j:Int}{o:CmpOp}{g:Int->Int->Bool},fD X (compareOp o) (yE λi j=>.bl (g i j))->c=.int i->d=.int j->k=g i j->wpAny (model X.prog X.w) X.A (compareOp o u v) (EP X pins D Q) X.xe s:=by
  intro i j o g z B C G;subst B C G;cases bG r;cases bG t;exact z pins s D H _ _ u v Q I m p ⟨_,_,rfl,rfl,q⟩
 cases op with
 |Eq=>
  unfold dU at e;dsimp only at e;split at e
  .rename_i f
   cases e;simp only[Bool.and_eq_true]at f;exact wg I (n:=7) (by omega) f.1 f.2 (eW I r m f.1) (eW I t p f.2) X.prog X.w X.xe _ l
  .cases e
 |NotEq=>
  unfold dU at e;dsimp only at e;split at e
  .rename_i f
   cases e;simp only[Bool.and_eq_true]at f;exact qQ I (n:=7) (by omega) f.1 f.2 (eW I r m f.1) (eW I t p f.2) X.prog X.w X.xe _ l
  .cases e
 |Lt=>cases c<;>cases d<;>first | (cases e;exact a FA rfl rfl rfl)|cases e
 |LtE=>cases c<;>cases d<;>first | (cases e;exact a FC rfl rfl rfl)|cases e
 |Gt=>cases c<;>cases d<;>first | (cases e;exact a FD rfl rfl rfl)|cases e
 |GtE=>cases c<;>cases d<;>first | (cases e;exact a FE rfl rfl rfl)|cases e
 |In=>
  have e:inD c d=.ok k:=by cases c<;>cases d<;>exact e
  exact(BK F I m p r t e).1 q
 |NotIn=>
  have e:(do let b ←inD c d;Out.ok (!b))=.ok k:=by cases c<;>cases d<;>exact e
  obtain⟨b,B,C⟩:=ku e;cases C;exact(BK F I m p r t B).2 q
 |Is=>
  have e:isD c d=.ok k:=by cases c<;>cases d<;>exact e
  obtain⟨z,E⟩:=BJ r t m p e;exact wpAny_is_plain z (by rw[E];exact l)
 |IsNot=>
  have e:(do let b ←isD c d;Out.ok (!b))=.ok k:=by cases c<;>cases d<;>exact e
  obtain⟨b,B,C⟩:=ku e;cases C;obtain⟨z,E⟩:=BJ r t m p B;exact wpAny_isNot_plain z (by rw[E];exact l)
theorem CS{op:CmpOp}{c e:D}{x y:V}{Z:Addr->Prop}{H:Hp}{b:Bool}{d:D}{Q:VK}(i:Now Z H c x)(j:Now Z H e y)(f:∀a,Z a->H a≠none)
  (l:(do let r ←dU op c e;Out.ok (false,D.bl r))=.ok (b,d)) (k:∀v g h,eu Z H h g->ec bw b h H g d v->Q v g):wh op x y H Q:=by
 obtain⟨r,m,n⟩:=ku l;cases n;exact⟨Z,c,e,r,i,j,m,k _ H Z (eu.refl f) (.rep (eB rfl))⟩
end
theorem PT.imp{X:Cx}{e:Expr}{t t':TT}(h:PT X e t)(i:∀a H Q,t' a H Q->t a H Q):PT X e t':=λpins s a H Q I q=>h pins s a H Q I (i a H Q q)
theorem PW.imp{X:Cx}{e:Expr}{t t':TT}(h:PW X e t)(i:∀a H Q,t' a H Q->t a H Q):PW X e t':=λb pins s a H Q I q=>h b pins s a H Q I (i a H Q q)
section
variable{X:Cx}{Γ:lN}{bw:Bool}{a b e:Expr}{ca cb cc c:Ex}{pos:Pos}
theorem CT{Z:Addr->Prop}{H:Hp}{d:D}{x:V}{t:Bool}{K:PySem.W.Frag}(n:Now Z H d x)(h:jF d=some t):oG K x H t:=by
 cases d with
 |non=>cases fH n;cases h;rfl
 |bl b=>cases h9 n;cases h;rfl
 |int b=>cases bG n;cases h;rfl
 |str b=>
  cases dh n;simp only[jF]at h;split at h
  .rename_i j
   cases h;refine⟨bE j,?_⟩
   have e:((b.length:Int) != 0)=(b.length != 0):=by
    rw[Bool.eq_iff_iff];simp only[bne_iff_ne,ne_eq];omega
   rw[e]
  .cases h
 |lst f=>
  obtain⟨a,c,rfl,g,i⟩:=cV n;cases h;refine .inl ⟨c,jQ g,?_⟩;have:=i.length;cases f<;>cases c<;>simp at this ⊢
 |tup f=>
  obtain⟨a,c,rfl,_,g,i⟩:=fI n;cases h;refine .inr (.inl ⟨c,uv g,?_⟩);have:=i.length;cases f<;>cases c<;>simp at this ⊢
 |dct l f=>cases h
 |ref k=>cases h
end
def wj(Z:Addr->Prop)(H:Hp):List D->List V->Prop
 |[],a=>a=[]
 |d::ds,a=>∃v r,a=v::r/\Now Z H d v/\wj Z H ds r
section
variable{Z Z':Addr->Prop}{H H':Hp}
theorem wj.one{d:D}{xs:List V}(h:wj Z H [d] xs):∃x,xs=[x]/\Now Z H d x:=by
 obtain⟨v,r,e,a,b⟩:=h;exact⟨v,by rw[e,show r=[]from b],a⟩
end
def Args(bw:Bool)(Z:Addr->Prop)(H:Hp)(ds:List D)(vs:List V):Prop:=if bw=true then wj Z H ds vs else aY Z H ds vs
theorem PA.imp{X:Cx}{e:List Expr}{t t':TA}(h:PA X e t)(i:∀a H Q,t' a H Q->t a H Q):PA X e t':=λb pins s a H Q I q=>h b pins s a H Q I (i a H Q q)
section
variable{X:Cx}{Γ:lN}{bw:Bool}{a b e:Expr}{es:List Expr}{ca cb cc c cs:Ex}{pos p:Pos}
theorem wk{Z:Addr->Prop}{H:Hp}{ds:List D}{vs:List V}{i:Int}{d:D}(h:aY Z H ds vs)(e:jD ds i=some d):∃v,jD vs i=some v/\Rep Z H d v:=by
 unfold jD at e ⊢;rw[h.length];cases q:vQ ds.length i with
 |none=>rw[q]at e;cases e
 |some j=>
  rw[q]at e;exact h.get e
theorem CU{q r:D}{x y:V}{Z:Addr->Prop}{H:Hp}{e:Bool}{d:D}{Q:VK}{K:PySem.W.Frag}(g:Now Z H q x)(h:Now Z H r y)(c:∀a,Z a->H a≠none)(b:qM q r=.ok (e,d))
  (k:∀v i s,eu Z H s i->ec bw e s H i d v->Q v i):Jx K x y H Q:=by
 unfold qM at b;split at b
 .obtain⟨l,j,rfl,m,n⟩:=cV g
  cases bG h;split at b
  .rename_i t f
   cases b;obtain⟨v,o,p⟩:=wk n f;exact .inl ⟨l,j,_,v,rfl,rfl,jQ m,o,k v H Z (eu.refl c) (.rep p)⟩
  .cases b
 .obtain⟨l,j,rfl,_,m,n⟩:=fI g
  cases bG h;split at b
  .rename_i t f
   cases b;obtain⟨v,o,p⟩:=wk n f;exact .inr (.inl ⟨l,j,_,v,rfl,rfl,uv m,o,k v H Z (eu.refl c) (.rep p)⟩)
  .cases b
 .cases dh g
  cases bG h;split at b
  .rename_i u
   split at b
   .rename_i w f
    cases b;exact .inr (.inr ⟨_,_,w,rfl,rfl,bE u,f,k _ H Z (eu.refl c) (.rep (eB rfl))⟩)
   .cases b
  .cases b
 .cases b
theorem wm{a:Type}(xs:List a)(b c:Option Int):(de xs b c).length<=xs.length:=by
 unfold de;rw[List.length_take,List.length_drop];omega
theorem sD(n d:Nat)(v:Int):max 0 (min (if v<0 then v+(n:Int)else v) (n:Int))=((HT.cG n d (some v):Nat):Int):=by
 show max 0 (min (if v<0 then v+(n:Int)else v) (n:Int))=(((if v<0 then (v+(n:Int)).toNat else min v.toNat n):Nat):Int)
 by_cases a:v<0
 .simp only[if_pos a];omega
 .simp only[if_neg a];omega
theorem wo{a b:Int}{p q:Nat}(d:a=p)(e:b=q):sliceRange a b 1=(List.range (q - p)).map λk=>p+k:=by
 subst d e;unfold sliceRange;simp only[show((1:Int)>0)=True from by simp,if_true]
 by_cases c:(p:Int)<q
 .rw[if_pos c]
  have f:(((q:Int) - p+1 - 1) / 1).toNat=q - p:=by first|omega | (simp;done) | (simp;omega)
  rw[f];refine List.map_congr_left λk _=>?_
  omega
 .rw[if_neg c]
  have:q - p=0:=by omega
  rw[this];rfl
theorem kA(a b:Option Int)(n:Nat):Builtin.Str.strSliceIndices a b 1 n=(List.range (HT.cG n n b - HT.cG n 0 a)).map λk=>HT.cG n 0 a+k:=by
 unfold Builtin.Str.strSliceIndices;simp only[show((1:Int)>0)=True from by simp,if_true]
 refine wo ?_ ?_
 .cases a with
  |none=>rfl
  |some v=>exact sD n 0 v
 .cases b with
  |none=>rfl
  |some v=>exact sD n n v
theorem uw:∀(n a:Nat) (l:List Nat),a+n<=l.length->((List.range n).map λk=>a+k).filterMap (λi=>l[i]?)=(l.drop a).take n:=by
 intro n
 induction n with
 |zero=>intro a l _;simp
 |succ n c=>
  intro a l h;have b:a+n<l.length:=by omega
  rw[List.range_succ,List.map_append,List.filterMap_append,c a l (by omega),List.take_add_one,List.getElem?_drop]
  simp[List.getElem?_eq_getElem b]
theorem wq(x:Str)(a b:Option Int):(Builtin.Str.strSliceIndices a b 1 x.length).filterMap (x.cps[·]?)=de x.cps.toList a b:=by
 have c:x.cps.toList.length=x.length:=by simp[Str.length]
 have e:=HT.ng x.length 0 (Nat.zero_le _) a;have f:=HT.ng x.length x.length (Nat.le_refl _) b;rw[kA];unfold de;rw[c];generalize HT.cG x.length 0 a=p at *;generalize HT.cG x.length x.length b=q at *
 by_cases d:p<=q
 .have:=uw (q - p) p x.cps.toList (by rw[c];omega)
  simpa using this
 .have:q - p=0:=by omega
  rw[this];simp
def FY:V->Option Int->Option Int->Hp->VK->Prop:=λx a b H Q=>∃z,x=.str z/\z.length<=sizeLine/\Q (.str ⟨(de z.cps.toList a b).toArray⟩) H
theorem kB:yQ X FY:=by
 intro pins s G H x v J K a b L Q I j k m n h;obtain⟨z,rfl,M,q⟩:=h;obtain⟨t,rfl⟩:=j;refine⟨"str",_,F.slot_str_getitem.lookup,typeIs_str _ _ _,?_⟩
 have part:∀{w:Value}{o:Option Int},IsPart w o->∃p:Option (Int×Tok),w=partValue p/\p.map (·.1)=o:=λh=>by
  cases h with
  |none=>exact⟨none,rfl,rfl⟩
  |int i t=>exact⟨some (i,t),rfl,rfl⟩
 obtain⟨d,r,m1⟩:=part m;obtain⟨e,y,m2⟩:=part n;subst r y;refine wpAny_getItem_str_slice (l:=d) (u:=e) (st:=none) k rfl ?_
 have A:(slicePicked z d e none).filterMap (z.cps[·]?)=de z.cps.toList a b:=by
  unfold slicePicked;rw[m1,m2];exact wq z a b
 have N:(de z.cps.toList a b).length<=z.length:=by
  have:=wm z.cps.toList a b;simpa[Str.length]using this
 unfold sliceMade;split
 .rename_i g
  have c:(slicePicked z d e none).length=z.length:=by
   simp only[Bool.and_eq_true,beq_iff_eq]at g;exact g.2
  have B:(⟨(de z.cps.toList a b).toArray⟩:Str)=z:=by
   unfold slicePicked at c;rw[m1,m2]at c;have c:(Builtin.Str.strSliceIndices a b 1 z.length).length=z.length:=c;rw[kA,List.length_map,List.length_range]at c;have O:=HT.ng z.length z.length (Nat.le_refl _) b;have f:z.cps.toList.length=z.length:=by simp[Str.length]
   have C:de z.cps.toList a b=z.cps.toList:=by
    unfold de;rw[f]
    by_cases D:z.length=0
    .have:z.cps.toList=[]:=List.eq_nil_of_length_eq_zero (by rw[f];exact D)
     rw[this];simp
    .have E:HT.cG z.length 0 a=0:=by omega
     rw[E,List.drop_zero,List.take_of_length_le (by rw[f];omega)]
   rw[C]
  refine⟨.str z,H,I,⟨t,rfl⟩,?_⟩;rw[B]at q;exact q
 .rw[A]
  refine⟨?_,.str _,H,I.tok _,⟨_,rfl⟩,q⟩
  show(de z.cps.toList a b).toArray.size<=sizeLine
  rw[List.size_toArray];omega
def RI(K:PySem.W.Frag):V->Option Int->Option Int->Hp->VK->Prop:=λx a b H Q=>FN K x a b H Q\/FY x a b H Q
end
noncomputable def kC(F:List D->Out Rs):Sp:=λg H Q _=>
 ∃Z e b d,(∀a,Z a->H a≠none)/\aY Z H e g/\F e=.ok (b,d)/\∀v c f,eu Z H f c->ec false b f H c d v->Q v c
theorem ec.weak{bw a:Bool}{Z:Addr->Prop}{c H:Hp}{d:D}{v:V}(h:ec false a Z c H d v):ec bw a Z c H d v:=by
 unfold ec at h ⊢;split
 .rename_i b;rw[if_pos b]at h;exact h
 .rename_i b;rw[if_neg b,if_neg Bool.false_ne_true]at h
  split
  .exact h.now
  .exact h
section
variable{X:Cx}{Γ:lN}{bw:Bool}{a b e:Expr}{es:List Expr}{ca cb cc c cs:Ex}{pos p:Pos}
structure FZ(X:Cx)(k:Nat)(x:Str)(F:List D->Out Rs):Prop where
 ex:∃(f:Addr) (fd:FuncData) (ps:List Str),X.mg x=some (.ref f)/\PySem.W.keepIn X.K (.ref f)=true/\Binds X.K fd ps []/\c_ X.prog X.w X.K X.mg X.base jO k f fd ps (kC F)
inductive eE (h:Heap):Value->Bool->Prop where
 |non:eE h .none false
 |bl (b:Bool):eE h (.bool b) b
 |int (i:Int) (t:Tok):eE h (.int i t) (i != 0)
 |str (x:Str) (t:Tok):x.length<=sizeLine->eE h (.str x t) ((x.length:Int) != 0)
 |lst {l:Addr}{its:Array Value}:h.IsList l its->its.size<=sizeLine->eE h (.ref l) (!its.isEmpty)
 |tup {l:Addr}{its:Array Value}:IsTup h l its->its.size<=sizeLine->eE h (.ref l) (!its.isEmpty)
theorem eE.keep{h h':Heap}{u:Value}{t:Bool}(k:∀b o,(u=.ref b)->h.get? b=some o->h'.get? b=some o)(x:eE h u t):eE h' u t:=by
 cases x with
 |non=>exact .non
 |bl=>exact .bl _
 |int i t=>exact .int i t
 |str x t z=>exact .str x t z
 |lst q z=>obtain⟨o,a,c⟩:=q;exact .lst ⟨o,k _ o rfl a,c⟩ z
 |tup q z=>obtain⟨o,a,c⟩:=q;exact .tup ⟨o,k _ o rfl a,c⟩ z
theorem eE.run{prog:Program}{w:World}{A:Around}{E:Value->Shared->Prop}{s:Shared}{u:Value}{t:Bool}{Q:Bool->Shared->Prop}(x:eE s.heap u t)(q:∀a,Q t {s with toks:=a}):wpAny (model prog w) A (truthy u) Q E s:=by
 have b:=gk;cases x with
 |non=>exact truthy_none (q s.toks)
 |bl=>exact wpAny_truthy_bool (q s.toks)
 |int i t=>exact PySem.P.truthy_int (q s.toks)
 |str x t z=>exact PySem.P.truthy_str (by omega) (q _)
 |lst h z=>exact wpAny_truthy_list h (by omega) (q _)
 |tup h z=>exact truthy_tuple h (by omega) (q _)
theorem wt{pins:List (Addr×Obj)}{w:L2.St}{H:Hp}{s:Shared}{Z:Addr->Prop}{d:D}{v:V}{u:Value}{t:Bool}(I:Inv X pins w H s)(n:Now Z H d v)(r:RelV v u)(h:jF d=some t):eE s.heap u t:=by
 cases d with
 |non=>cases fH n;cases r;cases h;exact .non
 |bl b=>cases h9 n;cases r;cases h;exact .bl _
 |int b=>cases bG n;obtain⟨k,rfl⟩:=r;cases h;exact .int _ _
 |str b=>
  cases dh n;obtain⟨k,rfl⟩:=r;simp only[jF]at h;split at h
  .rename_i x
   cases h
   have e:((b.length:Int) != 0)=(b.length != 0):=by
    rw[Bool.eq_iff_iff];simp only[bne_iff_ne,ne_eq];omega
   rw[←e];exact .str b k (bE x)
  .cases h
 |lst f=>
  obtain⟨a,i,rfl,j,l⟩:=cV n;cases r;cases h;obtain⟨c,g,p,m⟩:=I.list (jQ (K:=X.K) j)
  have e:(!f.isEmpty)=!c.toArray.isEmpty:=by
   have o:=l.length;have q:=g.length;cases f<;>cases i<;>cases c<;>simp at o q ⊢
  rw[e];exact .lst p.isList (by rw[List.size_toArray,←g.length];exact m)
 |tup f=>
  obtain⟨a,i,rfl,_,j,l⟩:=fI n;cases r;cases h;obtain⟨c,g,p,m⟩:=I.tuple (uv (K:=X.K) j)
  have e:(!f.isEmpty)=!c.toArray.isEmpty:=by
   have o:=l.length;have q:=g.length;cases f<;>cases i<;>cases c<;>simp at o q ⊢
  rw[e];exact .tup p (by rw[List.size_toArray,←g.length];exact m)
 |dct y f=>cases h
 |ref k=>cases h
section
variable{prog:Program}{w:World}{A:Around}{R:Result->Shared->Prop}{J:Addr}{fp wr:List Addr}{n:Nat}{P:Nat->Value->Prop}{T:Nat->Heap->Prop}
theorem wu(W:Walks prog w A.in1 J fp wr n P T)(f:Nat->Bool)(G:Heap->Prop)(B:∀h h':Heap,G h->(∀b o,b∉wr->h.get? b=some o->h'.get? b=some o)->G h')
  (C:∀i v (h:Heap),P i v->G h->eE h v (f i)):∀(m i:Nat) (s:Shared),n - i=m->i<=n->T i s.heap->G s.heap ->
  (∀h' c,(∀b o,b∉wr->s.heap.get? b=some o->h'.get? b=some o)->R (.ok (.ret (.bool (((List.range n).drop i).all f)))) {s with heap:=h',toks:=c}) ->
  codeAny (model prog w) A (.builtin "all.loop" ⟨[.ref J],[]⟩) R s:=by
 intro m
 induction m with
 |zero=>
  intro i s D E j g a;obtain rfl:i=n:=by omega
  refine codeAny_builtin PySem.F.entry_all_loop ?_;rw[Around.under_plainId PySem.F.plain_all_loop _];refine wpAny_bind (m:=pyNext (.ref J)) (W.done s _ _ j λh' c d=>wpAny_bind (wpAny_rule (wpAny_pure ?_)))
  have q:=a h' c d;rw[List.drop_of_length_le (by simp)]at q
  exact q
 |succ m H=>
  intro i s D E j g a;have k:i<n:=by omega
  have u:(List.range n).drop i=i::(List.range n).drop (i+1):=by
   rw[List.drop_eq_getElem_cons (by simpa using k)];simp
  refine codeAny_builtin PySem.F.entry_all_loop ?_;rw[Around.under_plainId PySem.F.plain_all_loop _];refine wpAny_bind (m:=pyNext (.ref J)) (W.item i s _ _ k j λv h' c I l d=>?_)
  have x:G h':=B _ _ g d;refine wpAny_bind (wpAny_holding ((C i v h' I x).run (s:={s with heap:=h',toks:=c}) λp=>?_))
  refine wpAny_bind (wpAny_letGo ?_);cases e:f i with
  |true=>
   simp only[if_true];refine wpAny_pure ⟨plainId_quiet PySem.F.plain_all_loop _,H (i+1) _ (by omega) k l x λK r t=>?_⟩
   have q:=a K r λb o y z=>t b o y (d b o y z)
   rw[u,List.all_cons,e,Bool.true_and]at q;exact q
  |false=>
   simp only[Bool.false_eq_true,if_false];refine wpAny_bind (wpAny_rule (wpAny_pure ?_));have q:=a h' p d;rw[u,List.all_cons,e,Bool.false_and]at q;exact q
theorem wx(W:Walks prog w A.in1 J fp wr n P T)(f:Nat->Bool)(G:Heap->Prop)(B:∀h h':Heap,G h->(∀b o,b∉wr->h.get? b=some o->h'.get? b=some o)->G h')
  (C:∀i v (h:Heap),P i v->G h->eE h v (f i)):∀(m i:Nat) (s:Shared),n - i=m->i<=n->T i s.heap->G s.heap ->
  (∀h' c,(∀b o,b∉wr->s.heap.get? b=some o->h'.get? b=some o)->R (.ok (.ret (.bool (((List.range n).drop i).any f)))) {s with heap:=h',toks:=c}) ->
  codeAny (model prog w) A (.builtin "any.loop" ⟨[.ref J],[]⟩) R s:=by
 intro m
 induction m with
 |zero=>
  intro i s D E j g a;obtain rfl:i=n:=by omega
  refine codeAny_builtin PySem.F.entry_any_loop ?_;rw[Around.under_plainId PySem.F.plain_any_loop _];refine wpAny_bind (m:=pyNext (.ref J)) (W.done s _ _ j λh' c d=>wpAny_bind (wpAny_rule (wpAny_pure ?_)))
  have q:=a h' c d;rw[List.drop_of_length_le (by simp)]at q
  exact q
 |succ m H=>
  intro i s D E j g a;have k:i<n:=by omega
  have u:(List.range n).drop i=i::(List.range n).drop (i+1):=by
   rw[List.drop_eq_getElem_cons (by simpa using k)];simp
  refine codeAny_builtin PySem.F.entry_any_loop ?_;rw[Around.under_plainId PySem.F.plain_any_loop _];refine wpAny_bind (m:=pyNext (.ref J)) (W.item i s _ _ k j λv h' c I l d=>?_)
  have x:G h':=B _ _ g d;refine wpAny_bind (wpAny_holding ((C i v h' I x).run (s:={s with heap:=h',toks:=c}) λp=>?_))
  refine wpAny_bind (wpAny_letGo ?_);cases e:f i with
  |false=>
   simp only[Bool.false_eq_true,if_false];refine wpAny_pure ⟨plainId_quiet PySem.F.plain_any_loop _,H (i+1) _ (by omega) k l x λK r t=>?_⟩
   have q:=a K r λb o y z=>t b o y (d b o y z)
   rw[u,List.any_cons,e,Bool.false_or]at q;exact q
  |true=>
   simp only[if_true];refine wpAny_bind (wpAny_rule (wpAny_pure ?_));have q:=a h' p d;rw[u,List.any_cons,e,Bool.true_or]at q;exact q
end
theorem nF:∀{ds:List D}{bs:List Bool},fm ds=some bs->bs.length=ds.length
 |[],_,h=>by cases h;rfl
 |d::ds,bs,h=>by
  simp only[fm]at h;split at h
  .rename_i b a h1 h2
   cases h;rw[List.length_cons,List.length_cons,nF h2]
  .cases h
theorem sE:∀{ds:List D}{bs:List Bool}{i:Nat}{d:D},fm ds=some bs->ds[i]?=some d->∃b,bs[i]?=some b/\jF d=some b
 |[],_,_,_,_,h=>by simp at h
 |d::ds,bs,i,j,h,a=>by
  simp only[fm]at h;split at h
  .rename_i b e h1 h2
   cases h;cases i with
   |zero=>simp at a;subst a;exact⟨b,rfl,h1⟩
   |succ i=>
    obtain⟨c,f,g⟩:=sE (i:=i) h2 (by simpa using a)
    exact⟨c,by simpa using f,g⟩
  .cases h
theorem all_range:∀(bs:List Bool),((List.range bs.length).all λi=>(bs[i]?).getD true)=bs.all id
 |[]=>rfl
 |b::bs=>by
  rw[List.length_cons,List.range_succ_eq_map,List.all_cons,List.all_map,List.all_cons,←all_range bs];rfl
theorem any_range:∀(bs:List Bool),((List.range bs.length).any λi=>(bs[i]?).getD false)=bs.any id
 |[]=>rfl
 |b::bs=>by
  rw[List.length_cons,List.range_succ_eq_map,List.any_cons,List.any_map,List.any_cons,←any_range bs];rfl
def Ly(K:PySem.W.Frag):List V->Hp->VK->Prop:=λb H Q=>∃Z a bs x,b=[x]/\Now Z H (.lst a) x/\fm a=some bs/\Q (.bl (bs.all id)) H
def Lz(K:PySem.W.Frag):List V->Hp->VK->Prop:=λb H Q=>∃Z a bs x,b=[x]/\Now Z H (.lst a) x/\fm a=some bs/\Q (.bl (bs.any id)) H
theorem wy{pins:List (Addr×Obj)}{j:L2.St}{H:Hp}{s:Shared}{Z:Addr->Prop}{ds:List D}{vs:List V}{a:List Value}{bs:List Bool}(I:Inv X pins j H s)(d:aY Z H ds vs)(e:Vals vs a)(k:fm ds=some bs)(dflt:Bool) :
  ∀(i:Nat) (v:Value),a.toArray[i]?=some v->eE s.heap v ((bs[i]?).getD dflt):=by
 intro i v c;have c:a[i]?=some v:=by simpa using c
 obtain⟨l,m⟩:=List.getElem?_eq_some_iff.mp c;obtain⟨x,n,f⟩:=nE e l;have r:=d.length;have t:=e.length;have g:ds[i]?=some ds[i]:=by simp[show i<ds.length by omega]
 obtain⟨y,h,o⟩:=d.get g;rw[n]at h;cases h
 obtain⟨b,p,q⟩:=sE k g;rw[p];rw[m]at f;exact wt I o.now f q
theorem wz(t:X.calm=true):dn X (.builtin "all") (Ly X.K):=by
 intro pins s G H J L Q I r h;obtain⟨Z,M,bs,x,rfl,w,j,q⟩:=h;obtain⟨u,rfl,y⟩:=vals1 r;obtain⟨l,N,rfl,B,k⟩:=cV w;cases y;obtain⟨a,n,p,O⟩:=I.list (jQ (K:=X.K) B);have c:l<s.heap.objs.size:=by obtain⟨_,e,_⟩:=p.isList;exact Heap.lt_size e
 have C:=wy I k n j true;refine call_function_tree PySem.F.kind_all PySem.F.plain_all PySem.F.entry_all (PySem.F.args_all1 _) ?_;unfold Builtin.«all»;refine wpAny_bind (m:=oneArg "all" _) (wpAny_pure (wpAny_bind (wpAny_pyIter_list p.isList ?_)))
 refine wpAny_pure ⟨plainId_quiet PySem.F.plain_all_loop _,wu (Walks.list (A:=X.A.in1) (I.ok.hd t) s.heap.objs.size l (Nat.ne_of_lt c) a.toArray) (λi=>(bs[i]?).getD true)
  (λh=>∀b o,b≠s.heap.objs.size->s.heap.get? b=some o->h.get? b=some o) (λh h' g d b o f e=>d b o (by simpa using f) (g b o f e))
  (λi v h D g=>(C i v D).keep λb o e z=>g b o (Nat.ne_of_lt (Heap.lt_size z)) z) _ 0 _ rfl (Nat.zero_le _) ⟨⟨_,Heap.get?_push_size _ rfl,rfl,rfl⟩,p.isList.push _⟩ (λb o f e=>Heap.get?_push_of_some _ e) λh' E d=>?_⟩
 have e:((List.range a.toArray.size).drop 0).all (λi=>(bs[i]?).getD true)=bs.all id:=by
  rw[List.drop_zero,List.size_toArray,←n.length,k.length,←nF j];exact all_range bs
 rw[e]
 exact⟨.bl _,H,I.kept (h':=h') (t':=E) λb o z=>d b o (by
  have:=Nat.ne_of_lt (Heap.lt_size z);simpa using this) (Heap.get?_push_of_some _ z),rfl,q⟩
theorem wA(t:X.calm=true):dn X (.builtin "any") (Lz X.K):=by
 intro pins s G H J L Q I r h;obtain⟨Z,M,bs,x,rfl,w,j,q⟩:=h;obtain⟨u,rfl,y⟩:=vals1 r;obtain⟨l,N,rfl,B,k⟩:=cV w;cases y;obtain⟨a,n,p,O⟩:=I.list (jQ (K:=X.K) B);have c:l<s.heap.objs.size:=by obtain⟨_,e,_⟩:=p.isList;exact Heap.lt_size e
 have C:=wy I k n j false;refine call_function_tree PySem.F.kind_any PySem.F.plain_any PySem.F.entry_any (PySem.F.args_any1 _) ?_;unfold Builtin.«any»;refine wpAny_bind (m:=oneArg "any" _) (wpAny_pure (wpAny_bind (wpAny_pyIter_list p.isList ?_)))
 refine wpAny_pure ⟨plainId_quiet PySem.F.plain_any_loop _,wx (Walks.list (A:=X.A.in1) (I.ok.hd t) s.heap.objs.size l (Nat.ne_of_lt c) a.toArray) (λi=>(bs[i]?).getD false)
  (λh=>∀b o,b≠s.heap.objs.size->s.heap.get? b=some o->h.get? b=some o) (λh h' g d b o f e=>d b o (by simpa using f) (g b o f e))
  (λi v h D g=>(C i v D).keep λb o e z=>g b o (Nat.ne_of_lt (Heap.lt_size z)) z) _ 0 _ rfl (Nat.zero_le _) ⟨⟨_,Heap.get?_push_size _ rfl,rfl,rfl⟩,p.isList.push _⟩ (λb o f e=>Heap.get?_push_of_some _ e) λh' E d=>?_⟩
 have e:((List.range a.toArray.size).drop 0).any (λi=>(bs[i]?).getD false)=bs.any id:=by
  rw[List.drop_zero,List.size_toArray,←n.length,k.length,←nF j];exact any_range bs
 rw[e]
 exact⟨.bl _,H,I.kept (h':=h') (t':=E) λb o z=>d b o (by
  have:=Nat.ne_of_lt (Heap.lt_size z);simpa using this) (Heap.get?_push_of_some _ z),rfl,q⟩
end
section
variable{X:Cx}{Γ:lN}{bw:Bool}{a b e:Expr}{es:List Expr}{ca cb cc c cs:Ex}{pos p:Pos}
noncomputable def jP.nm:jP->Str
 |.len=>"len" |.all=>"all" |.any=>"any" |.sorted=>"sorted" |.list=>"list" |.tuple=>"tuple" |.int=>"int" |.min=>"min" |.max=>"max" |.bool=>"bool"
theorem iZ{Z:Addr->Prop}{H:Hp}{d:D}{v:V}{Q:VK}(b:∀a,Z a->H a≠none)(k:∀v c e,eu Z H e c->ec bw false e H c d v->Q v c)(h:fq d=some v):Q v H:=
 k _ H Z (eu.refl b) (.rep (eB h))
noncomputable def Ty.nm:Ty->Str
 |.int=>"int" |.str=>"str" |.bool=>"bool" |.list=>"list" |.tuple=>"tuple" |.dict=>"dict"
noncomputable def Ty.id:Ty->String
 |.int=>"int" |.str=>"str" |.bool=>"bool" |.list=>"list" |.tuple=>"tuple" |.dict=>"dict"
theorem zb(t:Ty):bootBuiltins t.nm=some (.type t.id):=by cases t<;>decide +kernel
theorem sF(K:PySem.W.Frag)(t:Ty):PySem.W.kitOne K (.type "NoneType") (.type t.id)=some false/\PySem.W.kitOne K (.type "bool") (.type t.id)=some (t==.bool||t==.int)/\PySem.W.kitOne K (.type "int") (.type t.id)=some (t==.int) /\
  PySem.W.kitOne K (.type "str") (.type t.id)=some (t==.str)/\PySem.W.kitOne K (.type "list") (.type t.id)=some (t==.list)/\PySem.W.kitOne K (.type "tuple") (.type t.id)=some (t==.tuple)/\PySem.W.kitOne K (.type "dict") (.type t.id)=some (t==.dict):=by
 cases t<;>refine⟨?_,?_,?_,?_,?_,?_,?_⟩<;>with_unfolding_all rfl
def F8(K:PySem.W.Frag):List V->Hp->VK->Prop:=λa H Q=>∃Z d x t b,a=[x,.ty (Ty.id t)]/\Now Z H d x/\wc d t=some b/\Q (.bl b) H
theorem jo{K:PySem.W.Frag}{H:Hp}{a:Addr}{vs:List V}{X:Cx}{pins:List (Addr×Obj)}{c:L2.St}{s:Shared}(I:Inv X pins c H s)(h:Rd H a (.tup vs)):∃o,s.heap.get? a=some o/\o.cls=.type "tuple":=by
 obtain⟨_,b,_,o,d,e,_⟩:vs.length<=sizeLine/\∃b:List Value,Vals vs b/\IsTup s.heap a b.toArray:=Rd.ok h I.hok;exact⟨o,d,e⟩
theorem wB:dn X (.builtin "isinstance") (F8 X.K):=by
 intro pins s y H M N Q I r h;obtain⟨Z,d,x,t,b,rfl,f,i,q⟩:=h;obtain⟨u,A,rfl,j,B⟩:=vals2 r;cases (show A=Value.type (Ty.id t)from B)
 obtain⟨C,D,E,F,n,G,J⟩:=sF X.K t;have e:∀l,EP X pins y Q (.bool b) {s with toks:=l}:=λl=>⟨.bl b,H,I.tok l,rfl,q⟩
 cases d with
 |non=>cases fH f;cases i;exact cS I j .non C e
 |bl c=>cases h9 f;cases i;exact cS I j (.bl c) D e
 |int c=>cases bG f;cases i;exact cS I j (.int c) E e
 |str c=>cases dh f;cases i;exact cS I j (.str c) F e
 |lst m=>
  obtain⟨a,p,rfl,g,w⟩:=cV f;cases i;rcases g with g|⟨o,g⟩
  .exact cS I j (.lst g) n e
  .exact cS I j (.dI g) n e
 |tup m=>
  obtain⟨a,p,rfl,_,g,w⟩:=fI f;cases i;cases j;exact PySem.W.kia_one PySem.W.kitx_tuple I.ik (jo (K:=X.K) I g) G (λz=>nomatch z) e
 |dct L m=>
  have f:Rep Z H (.dct L m) x:=f;simp only[Rep]at f;obtain⟨a,p,rfl,_,g,w⟩:=f;cases i;exact cS I j (.dK g) J e
 |ref k=>cases i
end
abbrev sG(a:List Expr)(env:Env):Sem Bool:=forIn a true λc r=>if r=true then do let ok ←isTrue c env (eval c env);pure (ForInStep.yield ok)else pure (ForInStep.yield r)
section
variable{prog:Program}{w:World}{A:Around}{R:Result->Shared->Prop}{s:Shared}
theorem ux{a e iter:Expr}{b:List Expr}{scope:Scope}{pos:Pos}{it c:Value}{env:Env}(J:Nat->Shared->Prop)
  (d:∀n s,J n s->wpAny (model prog w) A (pyNext it) (λr f=>match r with
   |none=>R (.ok .next) f
   |some v=>wpAny (model prog w) A (letOwnedTupleGo e it v) (λ_ j=>wpAny (model prog w) A (assign e env v) (λ_ k=>wpAny (model prog w) A (sG b env) (λok g=>
      if ok=true then wpAny (model prog w) A (eval a env) (λx l=>wpAny (model prog w) A (call (.builtin "list.append") [c,x]) (λ_ o=>∃m,m<n/\J m o) (λ_ _=>False) l) (λ_ _=>False) g
      else ∃m,m<n/\J m g) (λ_ _=>False) k) (λ_ _=>False) j) (λ_ _=>False) f) (λ_ _=>False) s)
  (n:Nat) (h:J n s):codeAny (model prog w) A (.compLoop (.ListComp a [⟨e,iter,b,0⟩] scope pos) 0 it c env) R s:=by
 refine codeAny_loop rfl J (λn s q=>?_) n h
 refine wpAny_noted (env:=env) (m:=compTurn (.ListComp a [⟨e,iter,b,0⟩] scope pos) 0 it c env) ?_;rw[compTurn_list];refine wpAny_bind (wpAny_standAt (wpAny_bind (wpAny_mono (d n s q) (λr f p=>?_) λ_ _ z=>z.elim)))
 cases r with
 |none=>exact wpAny_pure p
 |some v=>
  refine wpAny_bind (wpAny_mono p (λ_ j t=>wpAny_bind (wpAny_mono t (λ_ k u=>wpAny_bind (wpAny_mono u (λok g i=>?_) λ_ _ z=>z.elim)) λ_ _ z=>z.elim)) λ_ _ z=>z.elim)
  cases ok with
  |false=>exact wpAny_pure ⟨rfl,by simpa using i⟩
  |true=>
   rw[if_pos rfl]at i;refine wpAny_bind (wpAny_bind (wpAny_mono i (λx l y=>wpAny_bind (wpAny_mono y (λ_ o B=>?_) λ_ _ z=>z.elim)) λ_ _ z=>z.elim))
   exact wpAny_pure (wpAny_pure ⟨rfl,B⟩)
end
theorem qR{scope:Scope}{env:Env}(h:∀y∈scope.names,y.2=.free->∃c,env.cells.lookup y.1=some c) :
  ∃d,closureFor scope env=pure d/\(∀n c,(n,c)∈d->env.cells.lookup n=some c)/\∀y∈scope.names,y.2=.free->∃c,(y.1,c)∈d:=by
 have u:∀(l:List (Str×NameKind)) (b:List (Str×Addr)),(∀y∈l,y.2=.free->∃c,env.cells.lookup y.1=some c)->(∀n c,(n,c)∈b->env.cells.lookup n=some c) ->
   ∃d,(forIn l b λx r=>match x with | (name,kind)=>if (kind==NameKind.free)=true then do let a ←cellOf env name;pure (ForInStep.yield ((name,a)::r))else pure (ForInStep.yield r):Sem (List (Str×Addr)))=pure d /\
    (∀n c,(n,c)∈d->env.cells.lookup n=some c)/\(∀p∈b,p∈d)/\∀y∈l,y.2=.free->∃c,(y.1,c)∈d:=by
  intro l
  induction l with
  |nil=>intro b _ o;exact⟨b,rfl,o,λ_ w=>w,λ_ D=>absurd D (by simp)⟩
  |cons y l C=>
   intro b A o;obtain⟨n,k⟩:=y;cases g:(k==NameKind.free)with
   |false=>
    obtain⟨d,e,i,s,j⟩:=C b (λz hz=>A z (by simp[hz])) o
    refine⟨d,?_,i,s,λz hz f=>?_⟩
    .rw[List.forIn_cons]
     simp only[g,Bool.false_eq_true,if_false];exact e
    .rcases List.mem_cons.mp hz with rfl|hz
     .have:k=.free:=f
      rw[this]at g;exact absurd g (by decide)
     .exact j z hz f
   |true=>
    have B:k=.free:=by simpa using g
    obtain⟨c,t⟩:=A (n,k) (by simp) B
    obtain⟨d,e,i,s,j⟩:=C ((n,c)::b) (λz hz=>A z (by simp[hz])) (λE F G=>by
     rcases List.mem_cons.mp G with q|q
     .cases q;exact t
     .exact o E F q)
    refine⟨d,?_,i,λp w=>s p (by simp[w]),λz hz f=>?_⟩
    .rw[List.forIn_cons]
     simp only[g,if_true]
     have:cellOf env n=pure c:=by
      have t:env.cells.lookup n=some c:=t;unfold cellOf;rw[t]
     rw[this];exact e
    .rcases List.mem_cons.mp hz with rfl|hz
     .exact⟨c,s _ (by simp)⟩
     .exact j z hz f
 obtain⟨d,e,i,_,j⟩:=u scope.names [] h (λ_ _ z=>absurd z (by simp))
 refine⟨d,?_,i,j⟩;unfold closureFor;have H:=congrArg (λm:Sem (List (Str×Addr))=>m >>= λr=>pure r) e
 exact H
noncomputable def blk(X:Cx)(scope:Scope)(a:List (Str×Addr))(C:Addr)(N:List Str)(s₀:Shared)(H₀:Hp)(fp:List Addr):Cx:=
 {X with N:=N,s₀:=s₀,H₀:=H₀,env:=compEnvC scope a C X.env,outer:=X.stack,stack:=X.stack,ex:=fp,fn:=λ_=>false,pn:=[],xe:=λ_ _=>False}
theorem lookup_mem{a b:Type}[BEq a][LawfulBEq a]:∀{l:List (a×b)}{x:a}{v:b},l.lookup x=some v->(x,v)∈l
 |[],_,_,h=>by simp at h
 | (n,k)::r,x,v,h=>by
  rw[List.lookup_cons]at h;cases e:x==n with
  |true=>rw[e]at h;cases h;rw[eq_of_beq e];simp
  |false=>rw[e]at h;exact List.mem_cons_of_mem _ (lookup_mem h)
theorem mem_lookup{a b:Type}[BEq a][LawfulBEq a]:∀{l:List (a×b)}{x:a}{v:b},(x,v)∈l->∃u,l.lookup x=some u
 |[],_,_,h=>by simp at h
 | (n,k)::r,x,v,h=>by
  rw[List.lookup_cons];cases e:x==n with
  |true=>exact⟨k,rfl⟩
  |false=>
   rcases List.mem_cons.mp h with q|q
   .cases q;simp at e
   .exact mem_lookup q
theorem eF{env:Env}:∀(names:List (Str×NameKind)) (x:Str),(names.map λ(n,k)=>if (k==NameKind.free&&env.scope.kind==.function&&env.kindOf n==some .cell)then (n,NameKind.cell)else (n,k)).lookup x =
  (names.lookup x).map λk=>if (k==NameKind.free&&env.scope.kind==.function&&env.kindOf x==some .cell)then NameKind.cell else k
 |[],_=>rfl
 | (n,k)::r,x=>by
  have c:=eF (env:=env) r x
  show List.lookup x ((if (k==NameKind.free&&env.scope.kind==.function&&env.kindOf n==some .cell)=true then (n,NameKind.cell)else (n,k))::_)=_
  cases b:x==n with
  |true=>
   obtain rfl:x=n:=eq_of_beq b
   by_cases a:(k==NameKind.free&&env.scope.kind==.function&&env.kindOf x==some .cell)=true
   .rw[if_pos a,List.lookup_cons,List.lookup_cons]
    simp only[b,Option.map_some,if_pos a]
   .rw[if_neg a,List.lookup_cons,List.lookup_cons]
    simp only[b,Option.map_some,if_neg a]
  |false=>
   by_cases a:(k==NameKind.free&&env.scope.kind==.function&&env.kindOf n==some .cell)=true
   .rw[if_pos a,List.lookup_cons,List.lookup_cons]
    simp only[b];exact c
   .rw[if_neg a,List.lookup_cons,List.lookup_cons]
    simp only[b];exact c
structure jq(X:Cx)(scope:Scope)(tn cn:List Str)(cap:List Nat):Prop where
 kind:scope.kind=.function
 cell:∀y∈scope.names,y.2≠.cell
 names:∀y∈scope.names,y.2=.local->scope.names.lookup y.1=some .local
 free:∀y∈scope.names,y.2=.free->X.env.kindOf y.1=some .cell\/X.env.kindOf y.1=some .free
 len:cn.length=cap.length
 at':∀(j i:Nat) (x:Str),cn[j]?=some x->cap[j]?=some i->X.N[i]?=some x/\scope.names.lookup x=some .free
noncomputable def pa(cap:List Nat)(a:L2.St):L2.St:=cap.map λi=>(a[i]?).join
def fY(a:Nat)(cap:List Nat)(b:L2.St):L2.St:=List.replicate a none++pa cap b
section
variable{X:Cx}{scope:Scope}{tn cn:List Str}{cap:List Nat}
theorem uy{pins:List (Addr×Obj)}{j:L2.St}{H:Hp}{s:Shared}{fp:List Addr}{D:List (Str×Addr)}{J:Heap}{tk:Nat}{m:Str->Option Value}(B:jq X scope tn cn cap)
  (I:Inv X pins j H s) (K:∀b∈fp,lJ X pins H b) (N:∀b∈fp,∃o,s.heap.get? b=some o) (w:∀n c,(n,c)∈D->X.env.cells.lookup n=some c) (c2:∀y∈scope.names,y.2=.free->∃c,(y.1,c)∈D)
  (L:∀b o,s.heap.get? b=some o->J.get? b=some o) (r:∃n,J.get? s.heap.objs.size=some {cls:=.type "list",data:=.seq ([]:List Value).toArray n}) (ns:J.Ns (s.heap.objs.size+1) m) :
  Inv (blk X scope D (s.heap.objs.size+1) (tn++cn) s H fp) [] (fY tn.length cap j) (upd H s.heap.objs.size (.lst [])) {s with heap:=J,toks:=tk}:=by
 have O:∀b o,s.heap.get? b=some o->b≠s.heap.objs.size+1:=λb o e=>Nat.ne_of_lt (Nat.lt_succ_of_lt (Heap.lt_size e))
 have P:∀b o,s.heap.get? b=some o->b≠s.heap.objs.size:=λb o e=>Nat.ne_of_lt (Heap.lt_size e)
 have cell:∀x c,D.lookup x=some c->∃v,s.heap.IsCell c v:=λx c e=>I.cell x c (w x c (lookup_mem e))
 have Q:∀x c,D.lookup x=some c->c≠s.heap.objs.size+1/\c≠s.heap.objs.size:=λx c e=>by
  obtain⟨v,o,A,_⟩:=cell x c e;exact⟨O c o A,P c o A⟩
 have R:∀b∈fp,b<s.heap.objs.size:=λb g=>let ⟨o,e⟩:=N b g;Heap.lt_size e
 have fr:=I.hok.fresh (Nat.le_refl s.heap.objs.size);obtain⟨nd,r⟩:=r
 refine⟨⟨I.ok.mod,B.kind,I.ok.glob,I.ok.blt,Nat.le_succ _,λx y c C a=>?_,λx f=>?_,λx c e _=>absurd (show false=true from e) Bool.false_ne_true,I.ok.hd,I.ok.frames,.inl rfl,λb g=>⟨?_,λx c e z=>?_⟩,λb o e=>I.bs b o e,Nat.le_trans I.ok.Bx I.sz,λb o e g=>?_,λb g S=>?_,I.stack,I.rZ⟩,
  rfl,I.bare,?_,⟨m,ns,λi x v C a e3=>?_⟩,λx c e=>?_,?_,λx c e=>?_,λp hp=>absurd (show p∈([]:List (Addr×Obj))from hp) (by simp),?_,?_⟩
 .exact I.ok.inj x y c (w x c (lookup_mem C)) (w y c (lookup_mem a))
 .have f:(relabel scope X.env).names.lookup x=some .cell\/(relabel scope X.env).names.lookup x=some .free:=f
  unfold relabel at f;simp only[eF]at f;cases q:scope.names.lookup x with
  |none=>rw[q]at f;simp at f
  |some k=>
   rw[q]at f;have hm:=lookup_mem q
   have h:k=.free:=by
    by_cases h:k=.free
    .exact h
    .have T:(k==NameKind.free)=false:=by simpa using h
     rw[Option.map_some]at f;simp only[T,Bool.false_and,Bool.false_eq_true,if_false,Option.some.injEq]at f;rcases f with z|z
     .exact absurd z (B.cell _ hm)
     .exact z
   obtain⟨c,U⟩:=c2 _ hm h;exact mem_lookup U
 .exact Nat.ne_of_lt (Nat.lt_succ_of_lt (R b g))
 .exact(K b g).2.2.2.2.1 x c (w x c (lookup_mem e)) z
 .rcases(K b g).2.2.2.1 with z|z
  .exact I.ok.vv b o e z
  .exact absurd (Nat.lt_of_lt_of_le (Heap.lt_size (I.ok.bs b o e).1) z) (Nat.lt_irrefl _)
 .rcases List.mem_cons.mp (I.qv b S)with z|z
  .exact(K b g).2.1 z
  .exact(K b g).2.2.1 z
 .exact Un.laid L (Nat.le_refl _) fr
 .have E:i<tn.length->False:=λF=>by
   have:(fY tn.length cap j)[i]?=some none:=by
    unfold fY;rw[List.getElem?_append_left (by simpa using F),List.getElem?_replicate,if_pos F]
   rw[this]at a;cases a
  have F:tn.length<=i:=Nat.le_of_not_lt E;have C:(tn++cn)[i]?=some x:=C;rw[List.getElem?_append_right F]at C
  have d:(pa cap j)[i - tn.length]?=some (some v):=by
   unfold fY at a;rw[List.getElem?_append_right (by simpa using F)]at a
   simpa using a
  unfold pa at d;rw[List.getElem?_map]at d;cases q:cap[i - tn.length]? with
  |none=>rw[q]at d;cases d
  |some M=>
   rw[q]at d;have a:(j[M]?).join=some v:=by simpa using d
   have e4:j[M]?=some (some v):=by
    cases q2:j[M]? with
    |none=>rw[q2]at a;cases a
    |some z=>rw[q2]at a;cases z with
     |none=>cases a
     |some z=>cases a;rfl
   obtain⟨hN,t⟩:=B.at' _ _ _ C q;have h:=B.free _ (lookup_mem t) rfl;have h:X.env.kindOf x=some .cell\/X.env.kindOf x=some .free:=h
   have G:EW X.env.scope x:=by
    rcases h with z|z
    .exact .inr (.inl z)
    .exact .inr (.inr z)
   obtain⟨m0,b0,V⟩:=I.loc;obtain⟨u,ru,Y⟩:=V M x v hN e4 G;refine⟨u,ru,.inr ⟨?_,?_⟩⟩
   .show(relabel scope X.env).names.lookup x=some .cell\/(relabel scope X.env).names.lookup x=some .free
    unfold relabel;simp only[eF,t,Option.map_some];split
    .exact .inl rfl
    .exact .inr rfl
   .have Y:∃c,X.env.cells.lookup x=some c/\s.heap.IsCell c (some u):=by
     rcases Y with ⟨z,_⟩|⟨_,z⟩
     .rcases h with y|y<;>rw[y]at z<;>cases z
     .exact z
    obtain⟨c,U,Z⟩:=Y;obtain⟨c',a0⟩:=c2 _ (lookup_mem t) rfl;obtain⟨c0,l⟩:=mem_lookup a0;have:=w _ _ (lookup_mem l);rw[U]at this;cases this
    obtain⟨o,A,r⟩:=Z;exact⟨c,l,o,L _ _ A,r⟩
 .obtain⟨v,o,A,r⟩:=cell x c e
  exact⟨v,o,L _ _ A,r⟩
 .show upd H s.heap.objs.size (.lst []) (s.heap.objs.size+1)=none
  rw[aH (Nat.succ_ne_self _)];exact I.hok.fresh (Nat.le_succ _)
 .refine⟨?_,λhz=>absurd (show false=true from hz) Bool.false_ne_true⟩
  rw[aH (Q x c e).2];exact(I.gi x c (w x c (lookup_mem e))).1
 .refine I.hok.laid L (Nat.le_refl _) ⟨Nat.zero_le _,[],nd,.nil,r⟩
 .show(fY tn.length cap j).length=(tn++cn).length
  unfold fY pa;rw[List.length_append,List.length_append,List.length_replicate,List.length_map,B.len]
def zc(X:Cx)(a:List Expr)(t:TT):Prop:=∀(pins:List (Addr×Obj)) (s:Shared) (b:L2.St) (H:Hp) (Q:Bool->Hp->Prop),Inv X pins b H s->t b H Q->wpAny (model X.prog X.w) X.A (sG a X.env) (TP X pins b Q) X.xe s
theorem zd:zc X [] (λ_ H Q=>Q true H):=λpins s a H Q I h=>wpAny_pure ⟨H,I,h⟩
theorem ze{c:Expr}{t:TT}(h:PT X c t):zc X [c] t:=λpins s a H Q I q=>wpAny_tests_one (h pins s a H Q I q)
def mw(n:TI)(o:Nat)(cap:List Nat)(g:TG)(p:TT)(q:TE):TE:=λf H Q=>n f H λJ h=>∀D,h D=none->∃W:Nat->Nat->List V->Hp->Prop,(∃m,W 0 m [] (upd h D (.lst []))) /\
 ∀i m a c,W i m a c->c D=some (.lst a)/\((J.stop i c/\Q (.ref D) c)\/(J.go i c/\a.length<sizeLine/\∀x j,J.Jv i c x j->g x (fY o cap f) j λd r=>p d r λb k=>
  if b=true then q d k λy l=>l D=some (.lst a)/\∃e,e<m/\W (i+1) e (a++[y]) (upd l D (.lst (a++[y])))else ∃e,e<m/\W (i+1) e a k))
theorem mx{tg iter L:Expr}{M:List Expr}{pos Y:Pos}{wi:TI}{g:TG}{tc:TT}{te:TE}{use:Option (Value->Sem Unit)}{Q':Value->Shared->Prop}{Q:VK}{pins:List (Addr×Obj)}{d:L2.St}{H:Hp}{s:Shared}
  (hc:X.calm=true) (B:jq X scope tn cn cap) (hi:PI X tg iter wi) (hs:∀x,foldedSetIterable iter X.env x=pure x)
  (j0:∀v d H Q,g v d H Q->g v d H λN f=>Q N f/\N.length=d.length/\∀j,tn.length<=j->N[j]?=d[j]?)
  (a:∀k C l t fp,PG (blk X scope k C (tn++cn) l t fp) tg g/\zc (blk X scope k C (tn++cn) l t fp) M tc/\PE (blk X scope k C (tn++cn) l t fp) L te)
  (k0:∀(U:Shared) (f:Hp) (C D:Addr) (m:Str->Option Value),Inv X pins d f U->U.heap.Ns C m->f C=none->C≠X.env.locals->X.s₀.heap.objs.size<=C->(∀x c,X.env.cells.lookup x=some c->c≠C)->(∀p∈X.pn++pins,p.1≠C)->Q (.ref D) f ->
   compPost (model X.prog X.w) X.A X.xe use Q' (.ref D) C (.ok .next) U)
  (I:Inv X pins d H s) (h:mw wi tn.length cap g tc te d H Q) :
  wpAny (model X.prog X.w) X.A (comprehension (.ListComp L [⟨tg,iter,M,0⟩] scope pos) scope X.env Y (newList []) false (eval iter X.env) use) Q' X.xe s:=by
 have l0:∀y∈scope.names,y.2=.free->∃c,X.env.cells.lookup y.1=some c:=λy hy hk=>I.ok.has y.1 (B.free y hy hk)
 obtain⟨k,n0,c1,c2⟩:=qR l0;refine wpAny_comprehension_free (use:=use) rfl hs n0 B.kind B.names ?_;refine cD (hi pins s d H _ I h) λv s1 O=>cD O λu0 s2 h2=>?_
 obtain⟨it,fp,P,J,E,e,R,T,Z,f2,h⟩:=h2;subst e;have fr:=R.hok.fresh (Nat.le_refl s2.heap.objs.size);obtain⟨W,⟨m0,w0⟩,a0⟩:=h s2.heap.objs.size fr;refine wpAny_newObj_type (wpAny_newFunctionEnv B.cell (λy hy=>absurd hy (by simp)) (λO ns sb=>?_) B.kind)
 have p0:(s2.heap.push {cls:=.type "list",dict:=none,data:=.seq ([]:List Value).toArray}).objs.size=s2.heap.objs.size+1:=Heap.size_push _ _;dsimp only at ns sb ⊢;rw[p0]at ns sb ⊢;have kp:∀b o,s2.heap.get? b=some o->O.get? b=some o:=λb o e=>sb.extBut b o (Nat.ne_of_lt (Nat.lt_succ_of_lt (Heap.lt_size e))) (Heap.get?_push_of_some _ (Heap.get?_push_of_some _ e))
 have hD:∃n,O.get? s2.heap.objs.size=some {cls:=.type "list",data:=.seq ([]:List Value).toArray n}:=⟨0,sb.extBut _ _ (Nat.ne_of_lt (Nat.lt_succ_self _)) (Heap.get?_push_of_some _ (Heap.get?_push_size _ rfl))⟩;have b0:∀b∈fp,∃o,s2.heap.get? b=some o:=λb a=>let ⟨o,e,_⟩:=T.obj 0 _ Z b a;⟨o,e⟩
 have I4:Inv (blk X scope k (s2.heap.objs.size+1) (tn++cn) s2 E fp) [] (fY tn.length cap d) (upd E s2.heap.objs.size (.lst [])) {s2 with heap:=O,toks:=s2.toks+([]:List (Str×Value)).length}:=
  uy B R f2 b0 c1 c2 kp hD ns
 obtain⟨hg,ht,he⟩:=a k (s2.heap.objs.size+1) s2 E fp;have c0:P 0 O:=T.keep 0 _ _ Z λb a o e=>kp b o e
 have q0:∀b∈fp,upd E s2.heap.objs.size (.lst []) b=none:=λb a=>by
  obtain⟨o,e⟩:=b0 b a;rw[aH (Nat.ne_of_lt (Heap.lt_size e))];exact(f2 b a).1
 have F:∀{f:Hp}{pl:List (Addr×Obj)},(∀b∈fp,f b=none)->∀b∈fp,lJ (blk X scope k (s2.heap.objs.size+1) (tn++cn) s2 E fp) [] f b:=λhn b a=>
  ⟨hn b a,(I4.ok.Jt b a).1,I4.ok.vw b a,.inl a,(I4.ok.Jt b a).2,λp hp=>absurd (show p∈([]:List (Addr×Obj))from hp) (by simp)⟩
 have K:codeAny (model X.prog X.w) X.A (.compLoop (.ListComp L [⟨tg,iter,M,0⟩] scope pos) 0 (.ref it) (.ref s2.heap.objs.size) (compEnvC scope k (s2.heap.objs.size+1) X.env))
   (compPost (model X.prog X.w) X.A X.xe use Q' (.ref s2.heap.objs.size) (s2.heap.objs.size+1)) {s2 with heap:=O,toks:=s2.toks+([]:List (Str×Value)).length}:=by
  refine ux (λn U=>∃i S f,Inv (blk X scope k (s2.heap.objs.size+1) (tn++cn) s2 E fp) [] (fY tn.length cap d) f U/\P i U.heap/\(∀b∈fp,f b=none)/\W i n S f) ?_ m0 ⟨0,[],_,I4,c0,q0,w0⟩
  rintro n s5 ⟨i,S,H5,I5,e0,g0,w5⟩;obtain⟨v0,r0⟩:=a0 i n S H5 w5;rcases r0 with ⟨stop,qn⟩|⟨go,h0,step⟩
  .refine cD (T.done (blk X scope k (s2.heap.objs.size+1) (tn++cn) s2 E fp) rfl rfl rfl hc i [] s5 _ H5 _ I5 (F (pl:=[]) g0) e0 stop) λr s6 ⟨hr,V⟩=>?_
   subst hr;obtain⟨mC,nC,_⟩:=V.loc
   have I7:Inv X pins d H5 s6:=by
    refine R.call' V.os V.base V.hok V.bare λb a=>?_
    obtain⟨f0,f1,f3,f4,f5,f6⟩:=f2 b a;exact⟨f4,f1,f5,f6⟩
   have hC:s2.heap.objs.size<=s2.heap.objs.size+1:=Nat.le_succ _;refine k0 s6 H5 (s2.heap.objs.size+1) s2.heap.objs.size mC I7 nC V.free (Nat.ne_of_gt (Nat.lt_of_lt_of_le R.lt hC)) (Nat.le_trans R.sz hC) (λx c e z=>?_) (λp hp z=>?_) qn
   .obtain⟨v,q⟩:=R.cell x c e
    exact absurd (Nat.lt_of_lt_of_le q.lt (by rw[z];exact hC)) (Nat.lt_irrefl _)
   .exact absurd (Nat.lt_of_lt_of_le (Heap.lt_size (R.pin p hp).1) (by rw[z];exact hC)) (Nat.lt_irrefl _)
  .refine cD (T.item (blk X scope k (s2.heap.objs.size+1) (tn++cn) s2 E fp) rfl rfl rfl hc i [] s5 _ H5 _ I5 (F (pl:=[]) g0) e0 go) λr s6 ⟨u,hr,h6⟩=>?_
   subst hr;refine cD h6 λ_ s7 ⟨x,H7,I7,r7,y7,LA,RJ⟩=>?_
   have s0:=I7.pinned (F (pl:=[]) RJ) (T.obj _ _ LA);refine cD (hg _ s7 _ H7 x u _ s0 r7 (j0 _ _ _ _ (step x H7 y7))) λ_ s8 ⟨G,H8,I8,q8,l8,k8⟩=>?_
   refine cD (ht _ s8 G H8 _ I8 q8) λok s9 ⟨H9,I9,q9⟩=>?_
   have again:∀{sA:Shared}{HA:Hp},Inv (blk X scope k (s2.heap.objs.size+1) (tn++cn) s2 E fp) ([]++kg fp s7.heap) G HA sA->Inv (blk X scope k (s2.heap.objs.size+1) (tn++cn) s2 E fp) [] (fY tn.length cap d) HA sA/\P (i+1) sA.heap/\∀b∈fp,HA b=none:=λ{sA HA} IA=>by
    refine⟨(IA.ip (pins:=[])).weak l8.symm λj v hj=>?_,T.keep _ _ _ LA λb a o e=>(IA.pin (b,o) (List.mem_append_right _ (List.mem_append_right _ (fC a e)))).1,λb a=>?_⟩
    .have t0:tn.length<=j:=by
      refine Nat.le_of_not_lt λi0=>?_
      have:(fY tn.length cap d)[j]?=some none:=by
       unfold fY;rw[List.getElem?_append_left (by simpa using i0),List.getElem?_replicate,if_pos i0]
      rw[this]at hj;cases hj
     rw[k8 j t0];exact hj
    .obtain⟨o,e,_⟩:=T.obj _ _ LA b a
     exact(IA.pin (b,o) (List.mem_append_right _ (List.mem_append_right _ (fC a e)))).2.1
   cases ok with
   |false=>
    rw[if_neg Bool.false_ne_true]at q9 ⊢;obtain⟨m',hm,w'⟩:=q9;obtain⟨a1,a2,a3⟩:=again I9;exact⟨m',hm,i+1,S,H9,a1,a2,a3,w'⟩
   |true=>
    rw[if_pos rfl]at q9 ⊢;refine cD (he _ s9 G H9 _ I9 q9) λy sB ⟨v,HB,IB,rB,RK,m',hm,w'⟩=>?_
    have hx:=mj (X:=blk X scope k (s2.heap.objs.size+1) (tn++cn) s2 E fp) _ sB G HB (.ref s2.heap.objs.size) [v] (.ref s2.heap.objs.size) [y] (λ_ f=>f=upd HB s2.heap.objs.size (.lst (S++[v]))) IB rfl (.cons rB .nil)
     ⟨s2.heap.objs.size,S,v,rfl,rfl,RK,h0,rfl⟩
    refine cD hx λ_ sC ⟨_,HC,IC,_,eC⟩=>?_
    subst eC;obtain⟨a1,a2,a3⟩:=again IC;exact⟨m',hm,i+1,S++[v],_,a1,a2,a3,w'⟩
 exact codeAny_compStart_list K (T.self X.A 0 _ _ _ c0 K)
theorem zf{l iter f:Expr}{i:List Expr}{pos:Pos}{t:TI}{g:TG}{u:TT}{w:TE}(y:X.calm=true)(B:jq X scope tn cn cap)(z:PI X l iter t)(A:∀x,foldedSetIterable iter X.env x=pure x)
  (n:∀v k H Q,g v k H Q->g v k H λd p=>Q d p/\d.length=k.length/\∀j,tn.length<=j->d[j]?=k[j]?)
  (E:∀r C a c fp,PG (blk X scope r C (tn++cn) a c fp) l g/\zc (blk X scope r C (tn++cn) a c fp) i u/\PE (blk X scope r C (tn++cn) a c fp) f w) :
  PE X (.ListComp f [⟨l,iter,i,0⟩] scope pos) (mw t tn.length cap g u w):=by
 intro pins s k H Q I h;rw[eval_ListComp];refine mx (use:=none) y B z A n E (λF p C D m G J K L M N O q=>⟨m,J,λS P=>?_⟩) I h
 exact⟨.ref D,p,G.turned (it:=C) (t':=F.toks) (λb o R e=>P.extBut b o R e) K L (.inr M) N O,rfl,q⟩
theorem qS{r iter k:Expr}{l:List Expr}{pos c n:Pos}{O:TI}{g:TG}{P:TT}{R:TE}{i:Nat}{x:Str}(Y:X.N.Nodup)(u:X.N[i]?=some x)(S:X.env.scope.names.lookup x=some .local)
  (y:swapsWith (.ListComp k [⟨r,iter,l,0⟩] scope pos) (some (.Name x c)) n.line X.env=pure true) (Z:X.calm=true) (B:jq X scope tn cn cap) (hi:PI X r iter O) (hs:∀x,foldedSetIterable iter X.env x=pure x)
  (E:∀v t H Q,g v t H Q->g v t H λp F=>Q p F/\p.length=t.length/\∀j,tn.length<=j->p[j]?=t[j]?)
  (hb:∀G C d f fp,PG (blk X scope G C (tn++cn) d f fp) r g/\zc (blk X scope G C (tn++cn) d f fp) l P/\PE (blk X scope G C (tn++cn) d f fp) k R) :
  PS X (.Assign [.Name x c] (.ListComp k [⟨r,iter,l,0⟩] scope pos) n) (Cn (mw O tn.length cap g P R) (hJ i)):=by
 intro pins s t H D I h;rw[exec_Assign_Name_used _ _ _ _ y];refine wpAny_bind (wpAny_standAt (wpAny_bind ?_));refine wpAny_bind (m:=comprehension (.ListComp k [⟨r,iter,l,0⟩] scope pos) scope X.env _ (newList []) false (eval iter X.env) (some (assign (.Name x c) X.env))) ?_;refine mx (use:=some (assign (.Name x c) X.env)) (Q':=λ_ J=>wpAny (model X.prog X.w) X.A (pure ()) (λ_ K=>wpAny (model X.prog X.w) X.A (pure Flow.next) (SP X pins D) X.xe K) X.xe J) Z B hi hs E hb (λJ F C T m I' ns h1 U h3 V h5 q=>?_) I h
 show wpAny (model X.prog X.w) X.A (assign (.Name x c) X.env (.ref T)) _ _ J
 refine wpAny_assign_Name (lX I' Y u (.inl S) (v:=.ref T) rfl (λs2 I2 ch=>?_) (.inr S))
 obtain⟨a,sb,ha⟩:=ch
 have L:C≠a:=by
  rcases ha with rfl|ha
  .exact U
  .exact λz=>V _ _ ha z.symm
 refine⟨m,ns.sameBut sb L,λh' M=>wpAny_pure (wpAny_pure ?_)⟩
 exact⟨_,F,I2.turned (it:=C) (t':=s2.toks) (λb o nb e=>M.extBut b o nb e) h1 U (.inr h3) V h5,q⟩
end
theorem PI.imp{X:Cx}{b e:Expr}{t t':TI}(h:PI X b e t)(i:∀a H R,t' a H R->t a H R):PI X b e t':=λpins s a H R I q=>h pins s a H R I (i a H R q)
section
variable{Z:Addr->Prop}{H:Hp}
theorem kD:∀(n:Nat) (a:Int),(intsFrom a n).length=n
 |0,_=>rfl
 |n+1,a=>by rw[intsFrom,List.length_cons,kD n]
theorem ints_get:∀(n:Nat) (a:Int) (i:Nat) (d:D),(intsFrom a n)[i]?=some d->d=.int (a+i)
 |0,_,_,_,h=>by simp[intsFrom]at h
 |n+1,a,0,d,h=>by simp[intsFrom]at h;subst h;simp
 |n+1,a,i+1,d,h=>by
  simp only[intsFrom,List.getElem?_cons_succ]at h;rw[ints_get n (a+1) i d h]
  congr 1
  omega
noncomputable def PY(x:Str):It:=⟨λi _=>i<x.cps.size,λi H v a=>a=H/\∃c,x.cps[i]?=some c/\v=.str ⟨#[c]⟩,λi _=>x.cps.size<=i⟩
end
theorem wC{P:Program}{w:World}{K:PySem.W.Frag}{U:Expr}(it:Addr)(x:Str)(t:Tok)(j:String)(f:j="str_ascii_iterator"\/j="str_iterator"):Turn P w K U (PY x) [it] it (λi h=>h.IsStrIter it j x t i) where
 mem:=by simp
 obj:=λi h a b g=>by
  obtain rfl:b=it:=by simpa using g
  obtain⟨o,e,c,d⟩:=a;exact⟨o,e,λv z=>by rw[d]at z;cases z⟩
 keep:=λi h l a k=>let ⟨o,e,r⟩:=a;⟨o,k it (by simp) o e,r⟩
 item:=by
  intro X J L M m i pins s R H E I y a N;subst J L M;obtain⟨B,C,V,D,F,G⟩:=y it (by simp)
  have W:Walks X.prog X.w X.A it [it] [it] x.cps.size (SignAt x) (λi h=>h.IsStrIter it j x t i):=by
   rcases f with rfl|rfl
   .exact Walks.strAscii (I.ok.hd m) it x t
   .exact Walks.strWide (I.ok.hd m) it x t
  refine W.item i s _ _ N a λv l S Y p Z=>?_
  obtain⟨c,u,hx,rfl⟩:=Y;have I1:Inv X pins R H {s with heap:=l,toks:=S}:=I.turned (λb o g e=>Z b o (by simpa using g) e) B C D F G
  obtain⟨o,e,q,d⟩:=id p;refine⟨_,rfl,oF (s:={s with heap:=l,toks:=S}) (n:=j) e q d (by rcases f with rfl|rfl<;>decide) ⟨.str ⟨#[c]⟩,H,I1,⟨u,rfl⟩,⟨rfl,c,hx,rfl⟩,p,λb g=>(y b g).1⟩⟩
 done:=by
  intro X J L M m i pins s R H E I y a N;subst J L M;obtain⟨B,C,V,D,F,G⟩:=y it (by simp)
  have T:x.cps.size<=i:=N;rcases f with rfl|rfl
  .exact wpAny_pyNext_ascii_end (I.ok.hd m) a (by simp[T]) λl O=>⟨rfl,I.turned (t':=s.toks) (λb o g e=>O b o g e) B C D F G⟩
  .exact wpAny_pyNext_wide_end (I.ok.hd m) a (by simp[T]) λl O=>⟨rfl,I.turned (t':=s.toks) (λb o g e=>O b o g e) B C D F G⟩
 self:=λA i s Q E a h=>by
  rcases f with rfl|rfl
  .exact wpAny_pyIter_striter_ascii a h
  .exact wpAny_pyIter_striter_wide a h
section
variable{X:Cx}{Γ:lN}{bw:Bool}{tg e:Expr}{c cs:Ex}{pos p:Pos}
end
section
variable{X:Cx}{Γ:lN}{bw:Bool}{tg iter elt:Expr}{ifs:List Expr}{scope:Scope}{tn cn:List Str}{cap:List Nat}{RL cc TJ:Ex}{pos:Pos}{n:Nat}
theorem jr(n:Nat)(d:0<n):∀v b H Q,hJ 0 v b H Q->hJ 0 v b H λa c=>Q a c/\a.length=b.length/\∀j,n<=j->a[j]?=b[j]?:=λv b H Q h=>⟨h,by simp,λj e=>by
 rw[List.getElem?_set_ne];omega⟩
end
theorem PS.imp{X:Cx}{st:Stmt}{t t':TS}(h:PS X st t)(i:∀D a H,t' D a H->t D a H):PS X st t':=λpins s a H D I q=>h pins s a H D I (i D a H q)
theorem jk.imp{X:Cx}{st:List Stmt}{t t':TS}(h:jk X st t)(i:∀D a H,t' D a H->t D a H):jk X st t':=λpins s a H D I q=>h pins s a H D I (i D a H q)
section
variable{X:Cx}{Γ:lN}{e:Expr}{c:Ex}{st:Stmt}{rest:List Stmt}{a b:PZ}{pos pos':Pos}
end
section
variable{Z0 Z1 Z:Addr->Prop}{H0 H1 H:Hp}{ρ:yZ}{σ:L2.St}
end
section
variable{X:Cx}{Γ:lN}{tg e:Expr}{c:Ex}{b:PZ}{tb:List Stmt}{pos pos':Pos}
def i8:List Nat->By
 |[]=>Ft
 |i::a=>Bz (hJ i) (i8 a)
theorem my{nms:List (Str×Pos)}(b:X.N.Nodup):∀(a:List Nat) (nms:List (Str×Pos)),a.length=nms.length->(∀(j i:Nat) (x:Str×Pos),a[j]?=some i->nms[j]?=some x->X.N[i]?=some x.1/\Loc X.env.scope x.1/\(X.fn x.1=true\/X.env.scope.names.lookup x.1=some .local)) ->
  Fs X (nms.map λx=>Expr.Name x.1 x.2) (i8 a)
 |[],[],_,_=>yC
 |[],_::_,h,_=>by cases h
 |_::_,[],h,_=>by cases h
 |i::a,(x,c)::nms,d,h=>by
  obtain⟨h1,h2,e⟩:=h 0 i (x,c) rfl rfl;exact vA (mX b h1 h2 e) (my (nms:=nms) b a nms (by simpa using d) λj i x f g=>h (j+1) i x (by simpa using f) (by simpa using g))
end
section
variable{X:Cx}{Γ:lN}{e o:Expr}{c:Ex}{i j:Nat}{x y:Str}{p0 p1 p2 p3 p4 p5 pos:Pos}
def sH:V->List V->Hp->VK->Prop:=λx b H Q=>∃l a k y,x=.ref l/\b=[.int k,y]/\H l=some (.lst a) /\ -(2 ^ 63)<=k/\k<2 ^ 63/\a.length<sizeLine/\Q .non (upd H l (.lst (ny a k y)))
end
theorem gu{X:Cx}{pins:List (Addr×Obj)}{l:L2.St}{H:Hp}{s:Shared}{h':Heap}{t':Nat}{fp:List Addr}{a:Addr}{o:HO}(I:Inv X pins l H s)(i:∀b∈fp,lJ X pins H b)
  (k:∀b o,b∉fp->s.heap.get? b=some o->h'.get? b=some o) (p:s.heap.objs.size<=a) (j:cf X.prog X.w (upd H a o) h' a o):Inv X pins l (upd H a o) {s with heap:=h',toks:=t' }:=by
 have t:=I.hok.fresh p;have f:∀b u,H b=some u->b∉fp:=λb u e z=>by rw[(i b z).1]at e;cases e
 have g:∀b u,H b=some u->upd H a o b=some u:=λb u e=>by rw[aH (bg e t)];exact e
 refine I.step (g':=s.gens) (d':=s.drawn) (ch:=fp) (λb h=>?_) (λb o _ _ d e _=>k b o d e) (λb o _ _ d e _=>⟨o.slots,k b o d e⟩) (λb u _ e n=>?_)
  (λb o d e=>⟨o,k b o d e⟩) (λb G e=>g b _ e) (λb u v e=>g b _ e) (λb J e=>⟨#[],by rw[g b _ e];simp⟩) (λm x=>?_) (λb u e=>?_) I.bare
 .obtain⟨K,y,L,A,B,C⟩:=i b h
  exact⟨A,y,B,C⟩
 .have:b≠a:=λz=>absurd (Heap.lt_size e) (by rw[z];exact Nat.not_lt.mpr p)
  rw[aH this];exact n
 .obtain⟨o,D,E,F,r⟩:=x
  exact⟨o,D,E,k _ o (λz=>(i _ z).2.1 rfl) F,r⟩
 .by_cases h:b=a
  .subst h
   rw[aU]at e;cases e
   exact j
  .rw[aH h]at e
   refine(I.hok b u e).stay (λc v d q=>k c v ?_ q) (λc q=>g c _ q) λc _ q=>g c _ q
   rcases d with z|z
   .rw[z];exact f b u e
   .exact f c _ z
def P7(K:PySem.W.Frag)(a:Addr):It:=
 ⟨λi H=>∃b x,jK K H a b/\b[i]?=some x,λi H x c=>∃p,x=.ref p/\H p=none/\∀b,jK K H a b->∃v,b[i]?=some v/\c=upd H p (.tup [.int i,v]),λi H=>∃b,jK K H a b/\b.length<=i⟩
theorem uz{P:Program}{w:World}{K:PySem.W.Frag}{r:List Expr}{x1:Nat}{t:Pos}(a e it:Addr)(y:e≠it) :
  Turn P w K (.Tuple r x1 t) (P7 K a) [e,it] e (λi h=>(∃g,IsEnum h e it i g)/\h.IsListIter it a i) where
 mem:=by simp
 obj:=λi h l b m=>by
  obtain⟨⟨g,f⟩,o,e2,c,d⟩:=l;rcases List.mem_cons.mp m with z|z
  .subst z
   exact⟨_,f,λv z=>by
    have z':Data.fields _=Data.cell v:=z;cases z'⟩
  .have z:b=it:=by simpa using z
   subst z;exact⟨o,e2,λv z=>by rw[d]at z;cases z⟩
 keep:=λi h h' l k=>by
  obtain⟨⟨g,f⟩,j⟩:=l;exact⟨⟨g,k e (by simp) _ f⟩,j.at λo q=>k it (by simp) o q⟩
 item:=by
  intro X D F G Y i pins s σ H E I B l J;subst D F G;obtain⟨xs,x,C,L⟩:=J;obtain⟨⟨g,f⟩,j⟩:=l;obtain⟨M,N,p,hz⟩:=I.list C;obtain⟨u,hu,ru⟩:=N.get L;refine wpAny_pyNext_enum_item f j p.isList (x:=u) (by simpa using hu) y λh' so si tu sz kp=>?_
  refine⟨_,rfl,wpAny_letOwnedTupleGo_enum (s:={s with heap:=h',toks:=s.toks+1}) so λn se O=>?_⟩
  have Q:∀b o,b∉[e,it]->s.heap.get? b=some o->n.get? b=some o:=λb o m q=>by
   have Z:b≠e:=λz=>m (by simp[z])
   have h3:b≠it:=λz=>m (by simp[z])
   exact O.extBut b o Z (kp b o Z h3 q)
  have A:e<s.heap.objs.size:=Heap.lt_size f;have R:n.get? s.heap.objs.size=some {cls:=.type "tuple",data:=.seq #[.int i s.toks,u]}:=O.extBut _ _ (Nat.ne_of_gt A) tu;have S:∃g,IsEnum n e it ((i+1:Nat):Int) g:=⟨u,by rw[show((i+1:Nat):Int)=(i:Int)+1 by omega];exact se⟩
  refine⟨.ref s.heap.objs.size,upd H s.heap.objs.size (.tup [.int i,x]),?_,rfl,⟨_,rfl,I.hok.fresh (Nat.le_refl _),λys hy=>⟨x,by rw[I.oE hy C];exact L,rfl⟩⟩,⟨S,?_⟩,λb m=>?_⟩
  .have T:IsTup n s.heap.objs.size [Value.int i s.toks,u].toArray:=⟨_,R,rfl,_,rfl⟩
   have U:cf X.prog X.w (upd H s.heap.objs.size (.tup [.int i,x])) n s.heap.objs.size (.tup [.int i,x]):=⟨by rw[sizeLine_eq];simp,[.int i s.toks,u],.cons ⟨_,rfl⟩ (.cons ru .nil),T⟩
   have:=gu (s:=s) (h':=n) (t':=s.toks+1) I B Q (Nat.le_refl _) U;exact this
  .exact si.extBut O.extBut (Ne.symm y)
  .have V:b<s.heap.objs.size:=by
    rcases List.mem_cons.mp m with z|z
    .subst z;exact A
    .have z:b=it:=by simpa using z
     subst z;obtain⟨o,q,_⟩:=j;exact Heap.lt_size q
   rw[aH (Nat.ne_of_lt V)];exact(B b m).1
 done:=by
  intro X D F G Y i pins s σ H E I B l J;subst D F G;obtain⟨xs,C,L⟩:=J;obtain⟨⟨g,f⟩,j⟩:=l;obtain⟨M,N,p,hz⟩:=I.list C;obtain⟨f0,f1,f2,f3,f4,f5⟩:=B it (by simp)
  have hl:=N.length;exact wpAny_pyNext_enum_end (I.ok.hd Y) f j p.isList (by simp;omega) λh' eb=>⟨rfl,I.turned (t':=s.toks) (λb o m e=>eb b o m e) f0 f1 f3 f4 f5⟩
 self:=λ_ _ _ _ _ l h=>by
  obtain⟨⟨g,f⟩,_⟩:=l;exact wpAny_pyIter_enum f h
theorem gK:∀(ds:List D) (k:Nat),(dg k ds).length=ds.length
 |[],_=>rfl
 |d::ds,k=>by rw[dg,List.length_cons,List.length_cons,gK ds]
theorem iw:∀(ds:List D) (k i:Nat) (d:D),(dg k ds)[i]?=some d->∃x,ds[i]?=some x/\d=.tup [.int (k+i:Nat),x]
 |[],_,_,_,h=>by simp[dg]at h
 |d::ds,k,0,a,h=>by simp[dg]at h;exact⟨d,rfl,h.symm⟩
 |d::ds,k,i+1,a,h=>by
  simp only[dg,List.getElem?_cons_succ]at h;obtain⟨x,h1,h2⟩:=iw ds (k+1) i a h;exact⟨x,by simpa using h1,by rw[h2,show k+1+i=k+(i+1)by omega]⟩
theorem nG:∀{ds:List D}{xs:List Str}{Z:Addr->Prop}{H:Hp}{vs:List V}{us:List Value},fo ds=some xs->aY Z H ds vs->Vals vs us->StrsAre us xs
 |[],xs,Z,H,vs,us,h,r,q=>by
  cases h;rw[r.nil_inv]at q;cases q;exact .nil
 |d::ds,xs,Z,H,vs,us,h,r,q=>by
  obtain⟨v,rs,rfl,a,b⟩:=r.cons_inv;cases d with
  |str x=>
   simp only[fo]at h;obtain⟨g,c,rfl⟩:=Option.map_eq_some_iff.mp h;simp only[Rep]at a;subst a;cases q with
   |cons e f=>
    obtain⟨t,rfl⟩:=e;exact .cons x t (nG c b f)
  |_=>cases h
def rJoin:V->List V->Hp->VK->Prop:=λx c H Q=>∃z Z b a y,x=.str z/\c=[y]/\Now Z H (.lst b) y/\fo b=some a/\z.length<=16/\(a.map (·.length)).sum+a.length<=1048576/\Q (.str (Txt.join z a)) H
theorem zg{X:Cx}:EZ X "str.join" rJoin:=by
 intro pins s r H x w v A Q I b c h;obtain⟨z,Z,B,C,y,rfl,rfl,n,d,e,f,q⟩:=h;obtain⟨t,rfl⟩:=b;obtain⟨l,D,rfl,g,i⟩:=cV n;obtain⟨u,rfl,j⟩:=c.one;cases j;obtain⟨m,a,o,E⟩:=I.list (jQ (K:=X.K) g);exact join_listW o.isList (by simpa using nG d i a) e f λp k=>⟨.str _,H,I.tok _,⟨p,rfl⟩,q⟩
theorem uA{X:Cx}:FP X "list.insert" sH:=by
 intro pins s B H x C v D Q I f g h;obtain⟨l,i,k,y,rfl,rfl,d,j,m,E,q⟩:=h;cases f;obtain⟨u,b,rfl,o,c⟩:=g.two;obtain⟨t,rfl⟩:=o;obtain⟨z,a,n,r,p,e⟩:=I.uj d;refine call_meets F.slot_list_insert ⟨_,e,rfl⟩ F.entry_list_insert (F.args_list_insert_3 _ _ _) (AutoListH.list_insert_list_int_val_1 l a.toArray n k t b (by rw[fitsIndex_both j m];simp) (by rw[List.size_toArray];omega)) ⟨e,?_⟩
 refine⟨.non,_,I.vT (its':=ny a k b) d e ?_ ?_ ?_,rfl,q⟩
 .have w:(if k<0 then (k+(a.toArray.size:Int)).toNat else min k.toNat a.toArray.size)=HT.cG a.length 0 (some k):=by rw[List.size_toArray];rfl
  show(a.toArray.extract 0 (if k<0 then (k+(a.toArray.size:Int)).toNat else min k.toNat a.toArray.size)).push b++a.toArray.extract (if k<0 then (k+(a.toArray.size:Int)).toNat else min k.toNat a.toArray.size)=_
  rw[w];unfold ny;apply Array.ext';simp;exact List.take_of_length_le (by simp)
 .have A:HT.cG i.length 0 (some k)=HT.cG a.length 0 (some k):=by rw[p]
  unfold ny;rw[A];exact(r.take _).append (.cons c (r.drop _))
 .unfold ny
  simp only[List.length_append,List.length_cons,List.length_take,List.length_drop];omega
theorem zh{v a:V}{u:Value}(h:L2.RelV v u)(h':L2.RelV a u):v=a:=by
 cases v<;>cases a<;>simp only[L2.RelV]at h h'<;>first
  | (obtain⟨t,rfl⟩:=h;obtain⟨b,e⟩:=h';cases e;done)
  | (obtain⟨t,rfl⟩:=h;obtain⟨b,e⟩:=h';cases e;rfl)
  | (obtain⟨t,rfl⟩:=h;cases h';done)
  | (subst h;obtain⟨b,e⟩:=h';cases e;done)
  | (subst h;cases h';done)
  | (subst h;cases h';rfl)
  |rfl
theorem sI{H:Hp}{a:Addr}{u:HO}{vs:List V}(h:Rd H a (.lst vs))(h':Rd H a u)(b:∀o w,u≠.dI o w):u=.lst vs:=by
 rcases h with h|⟨o,h⟩<;>rcases h' with h' |⟨c,h'⟩<;>rw[h]at h'<;>cases h'<;>first|rfl|exact absurd rfl (b _ _)
theorem sJ{H:Hp}{a:Addr}{u:HO}{vs:List V}(h:Rd H a (.tup vs))(h':Rd H a u)(b:∀o w,u≠.dI o w):u=.tup vs:=by
 rcases h with h|⟨o,h⟩<;>rcases h' with h' |⟨c,h'⟩<;>rw[h]at h'<;>cases h'<;>first|rfl|exact absurd rfl (b _ _)
mutual
theorem sL{Z:Addr->Prop}{H:Hp}:∀{n:Nat}{d d':D}{v:V},aI n d=true->aI n d'=true->Rep Z H d v->Rep Z H d' v->d=d'
 |n,.non,d',v,_,o',h,h'=>by
  simp only[Rep]at h;subst h
  cases d'<;>simp only[Rep]at h'<;>first|rfl | (cases h';done) | (obtain⟨_,_,e,_⟩:=h';cases e)
 |n,.bl b,d',v,_,o',h,h'=>by
  simp only[Rep]at h;subst h
  cases d'<;>simp only[Rep]at h'<;>first | (cases h';rfl) | (cases h';done) | (obtain⟨_,_,e,_⟩:=h';cases e)
 |n,.int b,d',v,_,o',h,h'=>by
  simp only[Rep]at h;subst h
  cases d'<;>simp only[Rep]at h'<;>first | (cases h';rfl) | (cases h';done) | (obtain⟨_,_,e,_⟩:=h';cases e)
 |n,.str b,d',v,_,o',h,h'=>by
  simp only[Rep]at h;subst h
  cases d'<;>simp only[Rep]at h'<;>first | (cases h';rfl) | (cases h';done) | (obtain⟨_,_,e,_⟩:=h';cases e)
 |0,.lst ds,_,_,o,_,_,_=>by simp[aI]at o
 |0,.tup ds,_,_,o,_,_,_=>by simp[aI]at o
 |n+1,.lst ds,d',v,o,o',h,h'=>by
  simp only[Rep]at h;obtain⟨a,k,rfl,_,h1,h2⟩:=h;cases d' with
  |lst g=>
   simp only[Rep]at h';obtain⟨j,i,e,_,c,f⟩:=h';cases e;have:=sI h1 c (λ_ _ z=>by cases z)
   cases this;simp only[aI]at o o';rw[kE o o' h2 f]
  |tup g=>
   simp only[Rep]at h';obtain⟨j,i,e,_,c,f⟩:=h';cases e;have:=sI h1 c (λ_ _ z=>by cases z)
   cases this
  |dct _ _=>simp[aI]at o'
  |ref _=>simp[aI]at o'
  |_=>simp only[Rep]at h';cases h'
 |n+1,.tup ds,d',v,o,o',h,h'=>by
  simp only[Rep]at h;obtain⟨a,k,rfl,_,h1,h2⟩:=h;cases d' with
  |lst g=>
   simp only[Rep]at h';obtain⟨j,i,e,_,c,f⟩:=h';cases e;have:=sJ h1 c (λ_ _ z=>by cases z)
   cases this
  |tup g=>
   simp only[Rep]at h';obtain⟨j,i,e,_,c,f⟩:=h';cases e;have:=sJ h1 c (λ_ _ z=>by cases z)
   cases this;simp only[aI]at o o';rw[kE o o' h2 f]
  |dct _ _=>simp[aI]at o'
  |ref _=>simp[aI]at o'
  |_=>simp only[Rep]at h';cases h'
 |n,.dct _ _,_,_,o,_,_,_=>by cases n<;>simp[aI]at o
 |n,.ref _,_,_,o,_,_,_=>by cases n<;>simp[aI]at o
theorem kE{Z:Addr->Prop}{H:Hp}:∀{n:Nat}{ds a:List D}{vs:List V},ds.all (aI n)=true->a.all (aI n)=true->aY Z H ds vs->aY Z H a vs->ds=a
 |n,[],a,vs,_,_,h,h'=>by
  rw[h.nil_inv]at h';cases a with
  |nil=>rfl
  |cons d r=>obtain⟨_,_,e,_⟩:=h'.cons_inv;cases e
 |n,d::ds,a,vs,o,b,h,h'=>by
  obtain⟨v,r,rfl,g,i⟩:=h.cons_inv;cases a with
  |nil=>exact absurd h'.nil_inv (by simp)
  |cons j a=>
   obtain⟨k,l,e,c,f⟩:=h'.cons_inv;cases e;simp only[List.all_cons,Bool.and_eq_true]at o b;rw[sL o.1 b.1 g c,kE o.2 b.2 i f]
end
def wD:V->List V->Hp->VK->Prop:=λx b H Q=>∃Z a d y j,b=[y]/\Now Z H (.lst a) x/\Now Z H d y/\aI 8 d=true/\a.all (aI 8)=true/\a.findIdx? (λe=>d_ e d)=some j/\Q (.int j) H
theorem i_{Z:Addr->Prop}{H:Hp}{ds:List D}{vs:List V}{a:List Value}{m:Nat}(r:aY Z H ds vs)(q:Vals vs a)(c:m<a.length)(e:m<ds.length):∃v,Rep Z H ds[m] v/\L2.RelV v a[m]:=by
 obtain⟨v,f,g⟩:=r.get (i:=m) (d:=ds[m]) (by simp[e])
 obtain⟨u,b,h⟩:=q.get f;rw[List.getElem?_eq_getElem c]at b;cases b;exact⟨v,g,h⟩
theorem wF{X:Cx}(hu:X.A.units+64<cLine):EZ X "list.index" wD:=by
 intro pins s σ H x vs v us Q I R S h;obtain⟨Z,i,d,y,j,rfl,T,U,o1,o2,V,q⟩:=h;obtain⟨l,ws,rfl,Y,z⟩:=cV T;cases R;obtain⟨u,rfl,ru⟩:=S.one;obtain⟨a,f,pl,hz⟩:=I.list (jQ (K:=X.K) Y);obtain⟨B,he,C⟩:=List.findIdx?_eq_some_iff_getElem.mp V;have hl:=f.length;have a0:=z.length;obtain⟨o,n,M,N,k,D⟩:=pl;have g:∀m (c:m<i.length),aI 8 i[m]=true:=λm c=>List.all_eq_true.mp o2 _ (List.getElem_mem c)
 have t:j<a.length:=by omega
 classical
 let e:Value->Bool:=λw=>decide (∃m,∃(c:m<a.length) (k:m<i.length),a[m]=w/\d_ i[m] d=true)
 have p:∀m (c:m<a.length) (k:m<i.length),e a[m]=d_ i[m] d:=λm c k=>by
  cases E:d_ i[m] d with
  |true=>exact decide_eq_true ⟨m,c,k,rfl,E⟩
  |false=>
   refine decide_eq_false ?_;rintro⟨m',r,b,e1,O⟩;obtain⟨v1,G,J⟩:=i_ z f c k;obtain⟨v2,r2,P⟩:=i_ z f r b;rw[e1]at P;have:=zh J P;subst this;rw[sL (g m k) (g m' b) G r2]at E;rw[E]at O;cases O
 refine call_meets F.slot_list_index ⟨_,M,N⟩ F.entry_list_index (F.args_list_index_2 _ _)
  (SeqAt.list_indexAt l a.toArray n none o.slots u e j (by rw[List.size_toArray];exact t) (by rw[sizeLine_eq]at hz;omega) ?_ ?_) ⟨?_,λw hw=>?_,?_⟩
 .show e a[j]=true
  rw[p j t B];exact he
 .intro m c L
  have r:m<a.length:=by simpa using c
  show e a[m]=false
  rw[p m r (by omega)]
  simpa using C m L
 .rw[M]
  obtain⟨c',d',dt,sl⟩:=o;cases N;cases k;cases D;rfl
 .obtain⟨m,c,rfl⟩:=List.mem_iff_getElem.mp (show w∈a by simpa using hw)
  have b:m<i.length:=by omega
  rw[p m c b];obtain⟨v1,G,J⟩:=i_ z f c b;exact eD I 8 _ _ _ _ _ (by simp[Around.in1];omega) (g m b) o1 (eW I G.now J (g m b)) (eW I U ru o1)
 .exact⟨.int j,H,I.tok _,⟨_,rfl⟩,q⟩
end Mir
namespace Mir
open PySem PySem.Spec PyProof.Rows L2
section
variable{X:Cx}{Γ:lN}{bw:Bool}{a b:Expr}{rest:List Expr}{ca cb:Ex}{pos:Pos}
theorem zi{i tb:TE}(j:PE X a i)(k:PE X (.BoolOp .And (b::rest) pos) tb):PE X (.BoolOp .And (a::b::rest) pos) (λe H Q=>i e H λx f=>∃c,oG X.K x f c/\if c=true then tb e f Q else Q x f):=by
 intro pins s e H Q I h;refine BoolOp_and (cD (j pins s e H _ I h) λv l ⟨x,f,I1,r1,c,t1,q1⟩=>?_)
 refine cD (m8 pins l e f x v (λd g=>d=c/\g=f) I1 r1 ⟨c,t1,rfl,rfl⟩) λd m ⟨g,I2,e1,e2⟩=>?_
 subst e1 e2;cases d with
 |true=>exact k pins m e g Q I2 q1
 |false=>exact⟨x,g,I2,r1,q1⟩
theorem CV{i tb:TE}(j:PE X a i)(k:PE X (.BoolOp .Or (b::rest) pos) tb):PE X (.BoolOp .Or (a::b::rest) pos) (λe H Q=>i e H λx f=>∃c,oG X.K x f c/\if c=true then Q x f else tb e f Q):=by
 intro pins s e H Q I h;refine BoolOp_or (cD (j pins s e H _ I h) λv l ⟨x,f,I1,r1,c,t1,q1⟩=>?_)
 refine cD (m8 pins l e f x v (λd g=>d=c/\g=f) I1 r1 ⟨c,t1,rfl,rfl⟩) λd m ⟨g,I2,e1,e2⟩=>?_
 subst e1 e2;cases d with
 |false=>exact k pins m e g Q I2 q1
 |true=>exact⟨x,g,I2,r1,q1⟩
theorem zj{g:TE}(i:PE X a g):PE X (.UnaryOp .Not a pos) (λe H Q=>g e H λx b=>∃c,oG X.K x b c/\Q (.bl (!c)) b):=by
 intro pins s e H Q I h;refine UnaryOp_ (cD (i pins s e H _ I h) λv j ⟨x,b,I1,r1,c,t1,q1⟩=>?_)
 refine not_of (cD (m8 pins j e b x v (λd f=>d=c/\f=b) I1 r1 ⟨c,t1,rfl,rfl⟩) λd k ⟨f,I2,e1,e2⟩=>?_)
 subst e1 e2;exact⟨.bl (!d),f,I2,rfl,q1⟩
theorem ec.nw{a:Bool}{Z:Addr->Prop}{b H:Hp}{d:D}{v:V}(h:ec bw a Z b H d v):Now Z H d v:=by
 cases bw with
 |true=>exact h.now
 |false=>exact(h.weak (bw:=true)).now
end
noncomputable def F9(a:Scope)(x:Str):Bool:=match a.names.lookup x with
 |some .local|some .cell|some .free=>true
 |_=>false
noncomputable def wG(a:Scope)(x:Str):Bool:=match a.names.lookup x with
 |some .local|some .cell=>true
 |_=>false
noncomputable def wH(a:Scope)(x:Str):Bool:=a.names.lookup x==some .globalImplicit
noncomputable def okN(x:Str):Bool := !(x==("__debug__":Str))&&!(x==("__classdict__":Str))&&!(x==("__name__":Str))
noncomputable def zk(N:List Str)(x:Str):Option Nat:=N.findIdx? (· == x)
def mz(a:Scope)(N:List Str)(x:Str):Option Nat:=if F9 a x&&okN x then zk N x else none
def wI(x:Str):Option Ty:=[Ty.int,.str,.bool,.list,.tuple,.dict].find? (λt=>t.nm==x)
noncomputable def isStar:Expr->Bool
 |.Starred _ _=>true
 |_=>false
noncomputable def isSlice:Expr->Bool
 |.Slice _ _ _ _=>true
 |_=>false
noncomputable def isSet:Expr->Bool
 |.Set _ _ _=>true
 |_=>false
noncomputable def qT(scope a:Scope):Scope:={scope with names:=scope.names.map λ(n,k)=>if (k==.free&&a.kind==.function&&a.names.lookup n==some .cell)then (n,.cell)else (n,k)}
noncomputable def dH(scope:Scope):List Str:=(scope.names.filter λy=>y.2==.free).map (·.1)
def qU(a:Scope)(N:List Str):List Str->Option (List Nat)
 |[]=>some []
 |x::xs=>do let i ←mz a N x;let b ←qU a N xs;some (i::b)
def wJ(scope:Scope)(sc:Scope)(x:Str):Bool:=
 scope.kind==.function&&scope.names.all (λy=>!(y.2==.cell))&&scope.names.all (λy=>!(y.2==.local)||scope.names.lookup y.1==some .local) &&
 scope.names.all (λy=>!(y.2==.free)||(sc.names.lookup y.1==some .cell||sc.names.lookup y.1==some .free)&&scope.names.lookup y.1==some .free) &&
 scope.names.lookup x==some .local&&decide ((x::dH scope).Nodup)
noncomputable def kF:List Comprehension->Option (Str×Pos×Expr×List Expr)
 |[⟨.Name x p,iter,ifs,0⟩]=>some (x,p,iter,ifs)
 |_=>none
theorem mB{b:List Comprehension}{x:Str}{p:Pos}{iter:Expr}{a:List Expr}(h:kF b=some (x,p,iter,a)):b=[⟨.Name x p,iter,a,0⟩]:=by
 unfold kF at h;split at h
 .cases h;rfl
 .cases h
theorem wK{N:List Str}{x:Str}{i:Nat}(h:zk N x=some i):N[i]?=some x:=by
 unfold zk at h;obtain⟨a,b,_⟩:=List.findIdx?_eq_some_iff_getElem.mp h;rw[List.getElem?_eq_getElem a,eq_of_beq b]
theorem sM{c:Scope}{N:List Str}{x:Str}{i:Nat}(h:mz c N x=some i):N[i]?=some x/\EW c x/\(x==("__debug__":Str))=false/\(x==("__classdict__":Str))=false:=by
 unfold mz at h;split at h
 .rename_i a
  simp only[Bool.and_eq_true,okN,Bool.not_eq_true']at a;refine⟨wK h,?_,a.2.1.1,a.2.1.2⟩;have b:=a.1;unfold F9 at b;unfold EW;split at b
  .rename_i q;exact .inl q
  .rename_i q;exact .inr (.inl q)
  .rename_i q;exact .inr (.inr q)
  .cases b
 .cases h
theorem sN{x:Str}(h:okN x=true):(x==("__debug__":Str))=false/\(x==("__classdict__":Str))=false/\x≠"__name__":=by
 simp only[okN,Bool.and_eq_true,Bool.not_eq_true']at h;refine⟨h.1.1,h.1.2,λe=>?_⟩
 rw[e]at h;simp at h
noncomputable def ed:List Str:=["len","all","any","list","tuple","int","min","max","bool","isinstance","str","dict","range","sorted","enumerate","reversed","set"]
theorem cA{e:Expr}{es:List Expr}{env:Env}(h:isStar e=false):starEach (e::es) env=(false,eval e env)::starEach es env:=by
 cases e<;>first|rfl | (cases h)
theorem cM{env:Env}{pos:Pos}:∀{es:List Expr},(∀e∈es,isStar e=false)->(backTo pos (starEach es env)).any (·.1)=false
 |[],_=>rfl
 |e::es,h=>by
  rw[cA (h e (by simp))]
  show(false||(backTo pos (starEach es env)).any (·.1))=false
  rw[cM λz hz=>h z (by simp[hz])]
  rfl
section
variable{X:Cx}{Γ:lN}{T:Tab}{k:Nat}{sc:Scope}{N:List Str}
theorem F_{x:Str}{t:Ty}(h:wI x=some t):x=t.nm/\t.nm∈ed:=by
 unfold wI at h;have a:=List.find?_some h;exact⟨(eq_of_beq a).symm,by cases t<;>decide⟩
end
section
variable{X:Cx}{Γ:lN}{T:Tab}{k:Nat}{sc:Scope}{N:List Str}
theorem wL{d:Scope}{N:List Str}:∀{xs:List Str}{a:List Nat},qU d N xs=some a->xs.length=a.length/\∀(j i:Nat) (x:Str),xs[j]?=some x->a[j]?=some i->N[i]?=some x
 |[],a,h=>by cases h;exact⟨rfl,λj i x e=>by simp at e⟩
 |x::xs,a,h=>by
  simp only[qU,Option.bind_eq_bind]at h;obtain⟨i,h1,h⟩:=Option.bind_eq_some_iff.mp h;obtain⟨f,g,h⟩:=Option.bind_eq_some_iff.mp h;cases h;obtain⟨k,l⟩:=wL g;refine⟨by rw[List.length_cons,List.length_cons,k],λj m y b c=>?_⟩
  cases j with
  |zero=>simp at b c;subst b c;exact(sM h1).1
  |succ j=>exact l j m y (by simpa using b) (by simpa using c)
theorem kG{iter:Expr}{env:Env}(h:isSet iter=false):∀x,foldedSetIterable iter env x=pure x:=by
 intro x;cases iter<;>first|rfl | (simp[isSet]at h)
theorem pb{op:CmpOp}{b:Expr}(h:isSet b=false):behindInMarks op b=false:=by
 cases b<;>first|rfl | (simp[isSet]at h)
end
def pe(a:Scope)(N:List Str)(x:Str):Option Nat:=if wG a x&&okN x then zk N x else none
noncomputable def h_:Expr->Bool
 |.ListComp .. |.SetComp .. |.DictComp ..=>true
 |_=>false
noncomputable def pf(a:Scope)(x:Str)(b:Pos)(e:Expr):Bool:=match e with
 |.ListComp _ _ s _=>a.names.lookup x==some .local&&b.line==e.pos.line&&!(s.names.any λ(n,k)=>n==x&&(k==.local||k==.cell))
 |_=>false
noncomputable def eG:List Expr->Option (List (Str×Pos))
 |[]=>some []
 |.Name x p::r=>(eG r).map ((x,p):: ·)
 |_=>none
def kH(a:Scope)(N:List Str):List (Str×Pos)->Option (List Nat)
 |[]=>some []
 |x::xs=>do let i ←pe a N x.1;let b ←kH a N xs;some (i::b)
noncomputable def wM:Expr->Bool
 |.Call .. |.Name .. |.Subscript ..=>true
 |_=>false
section
variable{X:Cx}{Γ:lN}{T:Tab}{k:Nat}{sc:Scope}{N:List Str}
theorem jt:∀{es:List Expr}{nms:List (Str×Pos)},eG es=some nms->es=nms.map λx=>Expr.Name x.1 x.2
 |[],_,h=>by cases h;rfl
 |e::es,nms,h=>by
  unfold eG at h;split at h
  .rename_i e;cases e
  .rename_i x p r q
   cases q;obtain⟨ns,h1,h⟩:=Option.map_eq_some_iff.mp h;subst h;rw[jt h1];rfl
  .cases h
theorem mD(env:Env):∀(nms:List (Str×Pos)),(assignEach (nms.map λx=>Expr.Name x.1 x.2) env).length=nms.length/\(assignEach (nms.map λx=>Expr.Name x.1 x.2) env).findIdx? (·.1)=none
 |[]=>⟨rfl,rfl⟩
 |x::r=>by
  obtain⟨h1,h2⟩:=mD env r;refine⟨?_,?_⟩
  .show(assignEach (r.map λx=>Expr.Name x.1 x.2) env).length+1=_
   rw[h1];rfl
  .show List.findIdx? (·.1) ((false,_)::assignEach (r.map λx=>Expr.Name x.1 x.2) env)=none
   rw[List.findIdx?_cons,h2];rfl
end
def bO(N ps:List Str)(a:Scope):Bool:=
 a.kind==.function&&!a.isCoroutine&&!a.isGenerator&&decide N.Nodup&&decide (N.take ps.length=ps)&&ps.all (wG a)&&a.names.all λy=>!(y.2==.free)
theorem nH{N ps:List Str}{b:Scope}(h:bO N ps b=true):jM N ps b:=by
 simp only[bO,Bool.and_eq_true,Bool.not_eq_true',decide_eq_true_eq,List.all_eq_true,beq_iff_eq]at h;obtain⟨⟨⟨⟨⟨⟨c,d⟩,f⟩,g⟩,i⟩,j⟩,k⟩:=h;refine⟨c,d,f,g,i,λx l=>?_,λy m e=>?_⟩
 .have a:=j x l
  unfold wG at a;split at a
  .rename_i q;exact .inl q
  .rename_i q;exact .inr q
  .cases a
 .have:=k y m
  rw[e]at this;exact absurd this (by decide)
section
variable{P:Program}{w:World}{K:PySem.W.Frag}{mg:Str->Option Value}{base:Heap}{Γ:lN}{T:Tab}{k:Nat}
end
noncomputable def zl:Value->Bool
 |.type x=>x=="list"
 |_=>false
def ph(K:PySem.W.Frag):Bool:=K.all λp=>!zl p.2.cls
theorem pj:∀{K:PySem.W.Frag}{a:Addr}{o:Obj},K.lookup a=some o->(a,o)∈K
 |[],_,_,h=>by cases h
 | (b,p)::K,a,o,h=>by
  rw[List.lookup_cons]at h;split at h
  .rename_i e
   cases h;rw[eq_of_beq e];simp
  .exact List.mem_cons_of_mem _ (pj h)
theorem Ga{K:PySem.W.Frag}(b:ph K=true){H:Hp}{a:Addr}{xs:List V}(h:jK K H a xs):Rd H a (.lst xs):=by
 rcases h with h|⟨o,c,n,d,e,_⟩
 .exact h
 .have f:=pj d
  have:=List.all_eq_true.mp b _ f;rw[e]at this;exact absurd this (by decide)
noncomputable def wN(K:PySem.W.Frag)(x:Str):Bool:=match PySem.W.nsIn K mainGlobals x with
 |some none=>true
 |_=>false
def sO(K:PySem.W.Frag):Bool:=ed.all (wN K)
theorem wO{K:PySem.W.Frag}{h:Heap}{mg:Str->Option Value}(X:K.In h)(G:h.Ns mainGlobals mg)(a:sO K=true):∀x∈ed,mg x=none:=λx b=>by
 have:=List.all_eq_true.mp a x b;unfold wN at this;split at this
 .rename_i q;exact PySem.W.mg_none_of X G q
 .cases this
section
variable{prog:Program}{w:World}{A:Around}{E:Value->Shared->Prop}{s:Shared}
theorem qV{it t:Addr}{i:Nat}{items:Array Value}{x:Value}{Q:Value->Shared->Prop}(a:s.heap.IsTupleIter it t i)(f:s.heap.IsTuple t items)(g:items[i]?=some x)
  (h:∀h',h'.IsTupleIter it t (i+1)->Heap.SameBut it s.heap h'->Q x {s with heap:=h' }):wpAny (model prog w) A (Builtin.SmallTypes.nextOf (.ref it)) Q E s:=by
 obtain⟨o,c,j,b⟩:=id a;obtain⟨k,d,_,l,e⟩:=f;unfold Builtin.SmallTypes.nextOf
 refine wpAny_bind (wpAny_callSpecial?_slot (name:=Str.ofString "__next__") a.typeIs F.slot_tuple_iterator_next
  (wpAny_call_entry F.slot_tuple_iterator_next a.typeIs F.entry_tuple_iterator_next ?_ (F.args_tuple_iterator_next_1 _)))
 show wpAny _ _ (field (.ref it) 0 >>= _) _ _ s
 refine wpAny_bind (wpAny_field c b (x:=.ref t) rfl ?_)
 show wpAny _ _ (if (Value.ref t==Value.none)=true then _ else _) _ _ s
 rw[if_neg (show ¬ ((Value.ref t==Value.none)=true)from Bool.false_ne_true)]
 show wpAny _ _ (field (.ref it) 1 >>= _) _ _ s
 refine wpAny_bind (wpAny_field c b (x:=.int i 0) rfl ?_)
 show wpAny _ _ (seqItems? (.ref t) >>= _) _ _ s
 refine wpAny_bind (wpAny_seqItems d e ?_);simp only[Int.toNat_natCast,g];refine wpAny_bind (wpAny_setField c b (by simp) (wpAny_pure ⟨x,rfl,wpAny_pure (h _ ?_ (Heap.SameBut.update ..))⟩))
 exact⟨_,Heap.get?_update_self _ c (Obj.isFreed_of_fields (Obj.data_mapFields b _)),(Obj.cls_mapFields ..).trans j,by
  rw[Obj.data_mapFields b];simp[rawInt]⟩
theorem mE{it t:Addr}{i:Nat}{items:Array Value}{Q:Value->Shared->Prop}(h:A.handled=none)(b:s.heap.IsTupleIter it t i)(j:s.heap.IsTuple t items)(k:items[i]?=none)
  (l:∀h' e,Heap.ExtBut it s.heap h'->(∃o,h'.get? e=some o/\o.cls=.type "StopIteration")->E (.ref e) {s with heap:=h' }):wpAny (model prog w) A (Builtin.SmallTypes.nextOf (.ref it)) Q E s:=by
 obtain⟨o,c,n,d⟩:=id b;obtain⟨p,f,_,q,g⟩:=j;unfold Builtin.SmallTypes.nextOf
 refine wpAny_bind (wpAny_callSpecial?_slot (name:=Str.ofString "__next__") b.typeIs F.slot_tuple_iterator_next
  (wpAny_call_entry F.slot_tuple_iterator_next b.typeIs F.entry_tuple_iterator_next ?_ (F.args_tuple_iterator_next_1 _)))
 show wpAny _ _ (field (.ref it) 0 >>= _) _ _ s
 refine wpAny_bind (wpAny_field c d (x:=.ref t) rfl ?_)
 show wpAny _ _ (if (Value.ref t==Value.none)=true then _ else _) _ _ s
 rw[if_neg (show ¬ ((Value.ref t==Value.none)=true)from Bool.false_ne_true)]
 show wpAny _ _ (field (.ref it) 1 >>= _) _ _ s
 refine wpAny_bind (wpAny_field c d (x:=.int i 0) rfl ?_)
 show wpAny _ _ (seqItems? (.ref t) >>= _) _ _ s
 refine wpAny_bind (wpAny_seqItems f g ?_);simp only[Int.toNat_natCast,k];refine wpAny_bind (wpAny_rule (wpAny_bind (wpAny_setField c d (by simp) ?_)))
 show wpAny _ _ (newExc (.type "StopIteration") [] >>= _) _ _ _
 refine wpAny_bind ?_;simp only[newExc,newTuple];refine wpAny_bind (wpAny_newObj_type ?_ (by size_fits))
 refine wpAny_bind (m:=firstArgMember _ _) (wpAny_of_eq (a:=Value.none) (by first|rfl | (simp only[firstArgMember];rfl)) ?_)
 refine wpAny_newObj_type ?_ (by size_fits)
 simp only[raiseNew];refine wpAny_bind (wpAny_handled ?_)
 first|rw[show A.in1.handled=none from h]|rw[h]
 refine wpAny_bind (wpAny_pure (wpAny_throw ?_));exact l _ _ (((Heap.SameBut.update ..).extBut.push _).push _) ⟨_,Heap.get?_push_size _ rfl,rfl⟩
end
theorem CW{prog:Program}{w:World}{A:Around}(j:A.handled=none)(it l:Addr)(e:l≠it)(items:Array Value) :
  Draws prog w A it [it,l] items.size (λi v=>items[i]?=some v) (λi h=>h.IsTupleIter it l i/\h.IsTuple l items) where
 live:=λ_ _ a=>let ⟨o,b,_⟩:=a.1;⟨o,b⟩
 frame:=λ_ _ _ a f=>⟨let ⟨o,b,r⟩:=a.1;⟨o,f it (by simp) o b,r⟩,let ⟨o,b,r⟩:=a.2;⟨o,f l (by simp) o b,r⟩⟩
 item:=λi s Q E g a k=>by
  refine qV a.1 a.2 (x:=items[i]) (by simp[g]) λm c d=>?_
  exact k _ m s.toks (by simp[g]) ⟨c,a.2.extBut d.extBut e⟩ d
 done:=λs Q E a n=>mE j a.1 a.2 (by simp) n
open AutoSeq1 (wpAny_loadPart') in
theorem pk(l:Addr)(items:Array Value)(n:Nat)(b:Option Addr)(i:Array (Option Value)) :
  Meets (Builtin.«enumerate.__new__» ⟨[.type "enumerate",.ref l],[]⟩) (λ_ R s=>s.heap.get? l=some {cls:=.type "tuple",dict:=b,data:=.seq items n,slots:=i} /\
   R (.ok (.ret (.ref (s.heap.push {cls:=.type "tuple_iterator",data:=.fields #[.ref l,.int 0 0]}).objs.size)))
    {s with heap:=(s.heap.push {cls:=.type "tuple_iterator",data:=.fields #[.ref l,.int 0 0]}).push {cls:=.type "enumerate",data:=.fields #[.none,.bool false,.ref s.heap.objs.size,rawInt 0,.none,.none]} }):=
 .of_wp λprog w A R s h=>by
  obtain⟨j,g,d,k,m⟩:=s;obtain⟨a,h⟩:=h
  have f:=sub_enumerate;have e:Heap.IsTuple (Shared.heap ⟨j,g,d,k,m⟩) l items:=⟨_,a,rfl,n,rfl⟩
  wp_walk using wpAny_loadPart' a
  refine wpAny_stack_any λo=>wpAny_pure ?_
  split
  .rename_i c _ _ _ _ _
   cases (c==Value.type "enumerate")
   .wp_walk using wpAny_loadPart' a,wpAny_pyIter_tuple e
    exact⟨_,rfl,h⟩
   .wp_walk using wpAny_loadPart' a,wpAny_pyIter_tuple e
    exact⟨_,rfl,h⟩
  .wp_walk using wpAny_loadPart' a,wpAny_pyIter_tuple e
   exact⟨_,rfl,h⟩
theorem qW{prog:Program}{w:World}{A:Around}{E:Value->Shared->Prop}{s:Shared}{l:Addr}{items:Array Value}{Q:Value->Shared->Prop}(j:s.heap.IsTuple l items)
  (h:∀h',IsEnum h' (s.heap.objs.size+1) s.heap.objs.size 0 .none->h'.IsTupleIter s.heap.objs.size l 0->h'.objs.size=s.heap.objs.size+2 ->
   (∀b o,s.heap.get? b=some o->h'.get? b=some o)->Q (.ref (s.heap.objs.size+1)) {s with heap:=h' }) :
  wpAny (model prog w) A (call (.type "enumerate") [.ref l]) Q E s:=by
 obtain⟨⟨c,a,k,m⟩,p,d,n,e⟩:=j;replace d:c=.type "tuple":=d;replace e:k=.seq items n:=e;subst d e
 refine callType_new F.called_enumerate (by decide) (F.typeCall_enumerate_1 _) (F.newCall_enumerate_1 _) (λf=>F.args_object_init_2 f _) F.entry_enumerate_new
  (pk l items n a m) ⟨p,?_⟩
 have g:(s.heap.push {cls:=.type "tuple_iterator",data:=.fields #[.ref l,.int 0 0]}).objs.size=s.heap.objs.size+1:=Heap.size_push ..
 show _/\_
 rw[g]
 have i:IsEnum ((s.heap.push {cls:=.type "tuple_iterator",data:=.fields #[.ref l,.int 0 0]}).push
   {cls:=.type "enumerate",data:=.fields #[.none,.bool false,.ref s.heap.objs.size,rawInt 0,.none,.none]}) (s.heap.objs.size+1) s.heap.objs.size 0 .none:=by
  have:=Heap.get?_push_size (s.heap.push {cls:=.type "tuple_iterator",data:=.fields #[.ref l,.int 0 0]})
   (o:={cls:=.type "enumerate",data:=.fields #[.none,.bool false,.ref s.heap.objs.size,rawInt 0,.none,.none]}) rfl
  rw[g]at this;exact this
 refine⟨⟨_,i,rfl⟩,h _ i ⟨_,Heap.get?_push_of_some _ (Heap.get?_push_size _ rfl),rfl,rfl⟩ (by rw[Heap.size_push,g]) λb o x=>Heap.get?_push_of_some _ (Heap.get?_push_of_some _ x)⟩
theorem uB{prog:Program}{w:World}{A:Around}{E:Value->Shared->Prop}{s:Shared}{e it l:Addr}{i:Nat}{items:Array Value}{a:Value}{Q:Option Value->Shared->Prop}(j:A.handled=none)
  (g:IsEnum s.heap e it i a) (c:s.heap.IsTupleIter it l i) (k:s.heap.IsTuple l items) (m:items[i]?=none)
  (n:∀h',Heap.ExtBut it s.heap h'->Q none {s with heap:=h' }):wpAny (model prog w) A (pyNext (.ref e)) Q E s:=by
 have h:s.TypeIs (.ref e) "enumerate":=⟨_,g,rfl⟩;unfold pyNext
 refine wpAny_bind (wpAny_attempt (wpAny_callSpecial?_slot (name:=Str.ofString "__next__") h F.slot_enumerate_next
  (wpAny_call_entry F.slot_enumerate_next h F.entry_enumerate_next ?_ (F.args_enumerate_next_1 _))))
 show wpAny _ _ (field (.ref e) 2 >>= _) _ _ _
 refine wpAny_bind (wpAny_field g rfl (x:=.ref it) rfl ?_);refine wpAny_bind (mE j c k m λh' x d f=>?_)
 obtain⟨o,p,q⟩:=f;refine wpAny_bind (wpAny_isInstance (T:="StopIteration") (b:=true) ⟨o,p,q⟩ isSubtype_stop ?_);exact wpAny_pure (n _ d)
def Gb(K:PySem.W.Frag)(a:Addr):It:=
 ⟨λi H=>∃b x,f_ K H a b/\b[i]?=some x,λi H x c=>∃p,x=.ref p/\H p=none/\∀b,f_ K H a b->∃v,b[i]?=some v/\c=upd H p (.tup [.int i,v]),λi H=>∃b,f_ K H a b/\b.length<=i⟩
theorem qX{P:Program}{w:World}{K:PySem.W.Frag}{J:List Expr}{x1:Nat}{L:Pos}(a e it:Addr)(B:e≠it) :
  Turn P w K (.Tuple J x1 L) (Gb K a) [e,it] e (λi h=>(∃g,IsEnum h e it i g)/\h.IsTupleIter it a i) where
 mem:=by simp
 obj:=λi h n b t=>by
  obtain⟨⟨g,f⟩,o,G,c,d⟩:=n;rcases List.mem_cons.mp t with z|z
  .subst z
   exact⟨_,f,λv z=>by
    have z':Data.fields _=Data.cell v:=z;cases z'⟩
  .have z:b=it:=by simpa using z
   subst z;exact⟨o,G,λv z=>by rw[d]at z;cases z⟩
 keep:=λi h h' n k=>by
  obtain⟨⟨g,f⟩,o,G,r⟩:=n;exact⟨⟨g,k e (by simp) _ f⟩,o,k it (by simp) o G,r⟩
 item:=by
  intro X U V Y Z i pins s σ H E I S n hg;subst U V Y;obtain⟨xs,x,T,hx⟩:=hg;obtain⟨⟨g,f⟩,j⟩:=n;obtain⟨l,rv,p,hz⟩:=I.tuple T;obtain⟨u,hu,ru⟩:=rv.get hx
  have M:a≠it:=λz=>by
   obtain⟨o,C,m,_⟩:=p;obtain⟨o',h3,h4,_⟩:=j;rw[z,h3]at C;cases C
   rw[m]at h4;exact absurd h4 (by decide)
  have a0:e≠a:=λz=>by
   obtain⟨o,C,m,_⟩:=p;have y:s.heap.get? e=some _:=f;rw[z,C]at y;have N:=congrArg (λx:Option Obj=>x.map (·.cls)) y
   simp only[Option.map_some,m,Option.some.injEq]at N;exact absurd N (by decide)
  have D:i<l.toArray.size:=by
   have:=(List.getElem?_eq_some_iff.mp hu).1;simpa using this
  refine wpAny_pyNext_enum_itemD (CW (A:=X.A.in1) (I.ok.hd Z) it a M l.toArray) f ⟨j,p⟩ D B (by simp[B,a0]) λF h' O b0 so si tu sz kp=>?_
  have Q:F=u:=by
   have e1:l.toArray[i]?=some F:=b0;have G:l[i]?=some F:=by simpa using e1
   rw[hu]at G;cases G;rfl
  subst Q;refine⟨_,rfl,wpAny_letOwnedTupleGo_enum (s:={s with heap:=h',toks:=O+1}) so λm se sb=>?_⟩
  have c0:∀b o,b∉[e,it]->s.heap.get? b=some o->m.get? b=some o:=λb o t q=>by
   have C:b≠e:=λz=>t (by simp[z])
   have h3:b≠it:=λz=>t (by simp[z])
   exact sb.extBut b o C (kp b o C h3 q)
  have R:e<s.heap.objs.size:=Heap.lt_size f;have e0:m.get? s.heap.objs.size=some {cls:=.type "tuple",data:=.seq #[.int i O,F]}:=sb.extBut _ _ (Nat.ne_of_gt R) tu;have g0:∃g,IsEnum m e it ((i+1:Nat):Int) g:=⟨F,by rw[show((i+1:Nat):Int)=(i:Int)+1 by omega];exact se⟩
  refine⟨.ref s.heap.objs.size,upd H s.heap.objs.size (.tup [.int i,x]),?_,rfl,⟨_,rfl,I.hok.fresh (Nat.le_refl _),λys hy=>⟨x,by rw[I.lY hy T];exact hx,rfl⟩⟩,⟨g0,?_⟩,λb t=>?_⟩
  .have h0:IsTup m s.heap.objs.size [Value.int i O,F].toArray:=⟨_,e0,rfl,_,rfl⟩
   have i0:cf X.prog X.w (upd H s.heap.objs.size (.tup [.int i,x])) m s.heap.objs.size (.tup [.int i,x]):=⟨by rw[sizeLine_eq];simp,[.int i O,F],.cons ⟨_,rfl⟩ (.cons ru .nil),h0⟩
   have:=gu (s:=s) (h':=m) (t':=O+1) I S c0 (Nat.le_refl _) i0;exact this
  .exact si.1.extBut sb.extBut (Ne.symm B)
  .have D:b<s.heap.objs.size:=by
    rcases List.mem_cons.mp t with z|z
    .subst z;exact R
    .have z:b=it:=by simpa using z
     subst z;obtain⟨o,q,_⟩:=j;exact Heap.lt_size q
   rw[aH (Nat.ne_of_lt D)];exact(S b t).1
 done:=by
  intro X U V Y Z i pins s σ H E I S n hg;subst U V Y;obtain⟨xs,T,hx⟩:=hg;obtain⟨⟨g,f⟩,j⟩:=n;obtain⟨l,rv,p,hz⟩:=I.tuple T;obtain⟨f0,f1,f2,f3,f4,f5⟩:=S it (by simp)
  have hl:=rv.length;exact uB (I.ok.hd Z) f j p (by simp;omega) λh' eb=>⟨rfl,I.turned (t':=s.toks) (λb o t e=>eb b o t e) f0 f1 f3 f4 f5⟩
 self:=λ_ _ _ _ _ n h=>by
  obtain⟨⟨g,f⟩,_⟩:=n;exact wpAny_pyIter_enum f h
def Ge(K:PySem.W.Frag)(d:TA):TI:=λe H R=>d e H λf b=>∃a,f=[.ref a]/\(((∃c,jK K b a c)/\R (P7 K a) b)\/((∃c,f_ K b a c)/\R (Gb K a) b))
theorem wQ{X:Cx}{es:List Expr}{y:Nat}{e p pos:Pos}{a:Expr}{x:TA}(A:Gl X "enumerate")(B:X.mg "enumerate"=none)(C:PA X [a] x)(D:starEach [a] X.env=[(false,eval a X.env)]) :
  PI X (.Tuple es y e) (.Call (.Name "enumerate" p) [a] [] pos) (Ge X.K x):=by
 intro pins s n H R I h;refine Call_ (hY I A B boot_enumerate (PyProof.Rows.callWith_type1 (cD (C pos pins s n H _ I h) λN s1 ⟨O,k,c,E,q1⟩=>?_) D rfl))
 obtain⟨l,rfl,f⟩:=q1;cases E with
 |cons r F=>
  cases F;cases r
  have m:∀b∈[s1.heap.objs.size+1,s1.heap.objs.size],s1.heap.objs.size<=b:=λb d=>by
   rcases List.mem_cons.mp d with z|z
   .rw[z];exact Nat.le_succ _
   .have z:b=s1.heap.objs.size:=by simpa using z
    rw[z];exact Nat.le_refl _
  rcases f with ⟨⟨G,f⟩,q⟩|⟨⟨G,f⟩,q⟩
  .obtain⟨g,J,o,L⟩:=c.list f
   refine call_enumerate_list o.isList λi j t M u=>wpAny_pyIter_enum (s:={s1 with heap:=i}) j ?_
   have w:L2.Inv X pins n k {s1 with heap:=i}:=c.kept (t':=s1.toks) u;exact⟨s1.heap.objs.size+1,[s1.heap.objs.size+1,s1.heap.objs.size],_,_,k,rfl,w,uz l _ _ (Nat.succ_ne_self _),⟨⟨_,j⟩,t⟩,λb d=>c.t_ (m b d) (c.hok.fresh (m b d)),q⟩
  .obtain⟨g,J,o,L⟩:=c.tuple f
   refine qW (items:=g.toArray) o λi j t M u=>wpAny_pyIter_enum (s:={s1 with heap:=i}) j ?_
   have w:L2.Inv X pins n k {s1 with heap:=i}:=c.kept (t':=s1.toks) u;exact⟨s1.heap.objs.size+1,[s1.heap.objs.size+1,s1.heap.objs.size],_,_,k,rfl,w,qX l _ _ (Nat.succ_ne_self _),⟨⟨_,j⟩,t⟩,λb d=>c.t_ (m b d) (c.hok.fresh (m b d)),q⟩
end Mir
namespace L2
open PySem PySem.Spec PyProof.Rows PySem.W
def Gf(X:Cx)(f:Addr)(vs:List V)(a:St)(H:Hp)(Q:VK):Prop:=∀(pins:List (Addr×Obj)) (s:Shared) (b:List Value),Inv X pins a H s->Vals vs b->wpAny (model X.prog X.w) X.A (call (.ref f) b) (EP X pins a Q) X.xe s
noncomputable def Cx.fz(X:Cx)(xs:List Str):Cx:={X with fn:=λy=>X.fn y&&!(xs.contains y)}
section
variable{X:Cx}{pins:List (Addr×Obj)}{σ:St}{H:Hp}{s:Shared}
end
end L2
namespace L2
open PySem PySem.Spec PyProof.Rows
theorem qY{prog:Program}{w:World}{es:Array DictEntry}(d:Addr)(a:(d==sysModules)=false) :
  MeetsIn prog w (Builtin.«dict.__len__» ⟨[.ref d],[]⟩) (λ_ R s=>∃o ep,s.heap.get? d=some o/\o.data=.dict es ep/\R (.ok (.ret (.int es.size s.toks))) {s with toks:=s.toks+1}):=
 .of_wp λA R s ⟨o,ep,ho,hdat,h⟩=>by
  show wpAny _ _ (dictSize d >>= _) _ _ s
  unfold dictSize;refine wpAny_bind (wpAny_bind (wpAny_dictEntries ho hdat (wpAny_pure ?_)))
  show wpAny _ _ (Builtin.Dict.pendingCount d >>= _) _ _ s
  refine wpAny_bind (wpAny_pendingCount_other a ?_);refine wpAny_ret_mkInt ?_;rw[Nat.add_zero];exact h
theorem KT.length{H:Hp}{l:List (List Key×V)}{m:List (List Key×Addr×Value)}(q:KT H l m):m.length=l.length:=by
 induction q with
 |nil=>rfl
 |cons _ _ a=>rw[List.length_cons,List.length_cons,a]
theorem uC{X:Cx}:dn X (.builtin "len") (λxs H Q=>∃a kvs,xs=[V.ref a]/\H a=some (.dT kvs)/\Q (.int kvs.length) H):=by
 intro pins s p H xs t Q I r h;obtain⟨a,kvs,rfl,e,q⟩:=h;obtain⟨u,rfl,f⟩:=vals1 r;cases f;obtain⟨z,g,xs,b,c⟩:=BG I.hok e;have d:=c.typeIs;obtain⟨o,es,i,j,w,k,l,x,y⟩:=c;have n:es.size=kvs.length:=by rw[size_of_entries l,b.length]
 refine Calls.call_function_entry kind_len plain_len entry_len (args_len1 _) ?_;unfold Builtin.«len»;refine wpAny_bind (m:=oneArg "len" _) (wpAny_pure ?_)
 refine wpAny_bind (m:=callSpecial? (.ref a) (Str.ofString "__len__")) (wpAny_callSpecial?_slot (name:=Str.ofString "__len__") d F.slot_dict_len
  (call_meetsIn F.slot_dict_len d F.entry_dict_len (F.args_dict_len_1 _) (qY (es:=es) a g) ⟨o,i,j,k,?_⟩))
 show wpAny _ _ _ _ _ {s with toks:=s.toks+1}
 refine wpAny_bind (wpAny_holding (wpAny_pure ?_));refine wpAny_bind (wpAny_letGo ?_);rw[sizeLine_eq]at z
 show wpAny _ _ (if ((es.size:Nat):Int)<0 then _ else _) _ _ _
 rw[if_neg (by omega)]
 show wpAny _ _ (if ((es.size:Nat):Int)≥2 ^ 63 then _ else _) _ _ _
 rw[if_neg (by omega)]
 refine wpAny_bind (wpAny_mkInt (wpAny_pure ⟨_,rfl,.int kvs.length,H,(I.tok _).tok _,⟨_,by rw[n]⟩,q⟩))
end L2
namespace HT
open PySem PyProof.Rows
section
variable{prog:Program}{w:World}{A:Around}{E:Value->Shared->Prop}{s:Shared}
theorem gZ{t e:Addr}{items:Array Value}{j k:Value}{a d:Option Int}{Q:Value->Shared->Prop}(b:IsTup s.heap t items)(l:s.heap.IsSliceOf e j k .none)(pl:IsPart j a)(m:IsPart k d)
  (n:cG items.size 0 a=0) (o:cG items.size items.size d=items.size) (h:Q (.ref t) s):wpAny (model prog w) A (getItem (.ref t) (.ref e)) Q E s:=by
 obtain⟨p,f,g,q⟩:=id l;have i:s.TypeIs (.ref e) "slice":=⟨p,f,g⟩;unfold getItem
 try with_reducible refine wpAny_holding ?_
 first|refine wpAny_bind (wpAny_pure ?_)|skip
 refine wpAny_bind (wpAny_sequenceKey b.typeIs (by decide) ?_)
 refine wpAny_bind (wpAny_callSpecial?_slot (name:=Str.ofString "__getitem__") b.typeIs PyProof.Rows.slot_tuple_getitem
  (wpAny_call_entry PyProof.Rows.slot_tuple_getitem b.typeIs entry_tuple_getitem ?_ (args_tuple_getitem _ _)))
 show wpAny _ _ (Builtin.Tuple.tupleItemsOf (.ref t) >>= _) _ _ s
 refine wpAny_bind (tupleItemsOf_ b ?_);refine wpAny_bind (wpAny_typeOf i ?_);rw[if_pos (by decide)]
 refine wpAny_bind (fg l pl m ?_)
 have c:(((cG items.size 0 a:Nat):Int)==0&&(1:Int)==1&&(cG items.size items.size d - cG items.size 0 a)==items.size)=true:=by
  rw[n,o];simp
 show wpAny _ _ (if (((cG items.size 0 a:Nat):Int)==0&&(1:Int)==1&&(cG items.size items.size d - cG items.size 0 a)==items.size)=true then _ else _) _ _ s
 rw[if_pos c];unfold Builtin.Tuple.tupleIsExact;refine wpAny_bind (wpAny_bind (wpAny_typeOf b.typeIs (wpAny_pure ?_)));rw[if_pos (by decide)]
 exact wpAny_bind (wpAny_rule (wpAny_pure ⟨_,rfl,wpAny_pure h⟩))
theorem wR{t b:Addr}{g:List Value}{Q:Value->Shared->Prop}(m:IsTup s.heap t #[])(o:IsTup s.heap b g.toArray)(h:Q (.ref b) s):wpAny (model prog w) A (binaryOp .Add (.ref t) (.ref b)) Q E s:=by
 obtain⟨⟨p,q,data,r⟩,i,j,n,k⟩:=id m;obtain⟨⟨l,e,data2,f⟩,a,c,u,d⟩:=id o;simp only at j k c d;subst j k c d
 exact concat_meets ⟨_,i,rfl⟩ ⟨_,a,rfl⟩ noFill_tuple_add seq_tuple_add PySem.F.slot_tuple_add PySem.F.entry_tuple_add (PySem.F.args_tuple_add_2 _ _)
   (tuple_addW0 t b #[] g.toArray n u q e r f rfl) ⟨i,a,h⟩
end
end HT
namespace L2
open PySem PySem.Spec PyProof.Rows
section
variable{X:Cx}
def Gg(K:PySem.W.Frag):V->Option Int->Option Int->Hp->VK->Prop:=λx c d H Q=>∃a b,x=.ref a/\f_ K H a b/\HT.cG b.length 0 c=0/\HT.cG b.length b.length d=b.length/\Q (.ref a) H
theorem ix:yQ X (Gg X.K):=by
 intro pins s n H x v o p t u w Q I e f g i h;obtain⟨a,j,rfl,k,l,m,q⟩:=h;cases e;obtain⟨c,r,d,y⟩:=I.tuple k;have b:c.toArray.size=j.length:=by rw[List.size_toArray];exact r.length.symm
 refine⟨"tuple",_,PyProof.Rows.slot_tuple_getitem.lookup,d.typeIs,?_⟩;exact HT.gZ d f g i (by rw[b];exact l) (by rw[b];exact m) ⟨.ref a,H,I,rfl,q⟩
noncomputable def BL(K:PySem.W.Frag):R2:=λx y H Q=>∃a b c,x=.ref a/\y=.ref b/\f_ K H a []/\f_ K H b c/\Q (.ref b) H
theorem zm:fD X (binaryOp .Add) (BL X.K):=by
 intro pins s m H x y v u Q I d e h;obtain⟨a,b,n,rfl,rfl,f,g,q⟩:=h;cases d;cases e;obtain⟨i,j,k,_⟩:=I.tuple f;obtain⟨c,o,l,_⟩:=I.tuple g;cases j;exact HT.wR k l ⟨.ref b,H,I,rfl,q⟩
end
end L2
namespace Mir
open PySem PySem.Spec PyProof.Rows L2
end Mir
namespace Mir
open PySem L2
structure LB where
 name:Str
 qual:Str
 params:Arguments
 body:List Stmt
 scope:Scope
 ps:List Str
 cn:List Str
class aJ where
 tab:Nat->LB
 ta:Nat->Addr
inductive Cell where
 |lst (ds:List D)
 |dK (kvs:List (Key×D))
 |dT (kvs:List (List Key×D))
 |dF (kvs:List (Key×D))
 |ins (C:Str) (fs:List (Str×D))
 |fn (j:Nat) (qZ:List D)
 |tb (j:Nat) (p:Pos) (b:Bool)
abbrev aD:=List Cell
inductive ay (α:Type) where
 |ok (a:α) (Ω:aD)
 |exc (x:D) (Ω:aD)
 |bad
noncomputable def ay.bind{b c:Type}:ay b->(b->aD->ay c)->ay c
 |.ok a Ω,f=>f a Ω
 |.exc x Ω,_=>.exc x Ω
 |.bad,_=>.bad
abbrev aS:=List (Option D)
inductive aK {α β:Type} (R:α->β->Prop):List α->List β->Prop where
 |nil:aK R [] []
 |cons {a b as bs}:R a b->aK R as bs->aK R (a::as) (b::bs)
namespace aK
variable{α β:Type}{R S:α->β->Prop}
theorem length:∀{a:List α}{bs:List β},aK R a bs->bs.length=a.length
 |_,_,.nil=>rfl
 |_,_,.cons _ t=>by rw[List.length_cons,List.length_cons,length t]
theorem imp(h:∀a b,R a b->S a b):∀{c:List α}{bs:List β},aK R c bs->aK S c bs
 |_,_,.nil=>.nil
 |_,_,.cons r t=>.cons (h _ _ r) (imp h t)
theorem get:∀{c:List α}{bs:List β}{i:Nat}{a:α},aK R c bs->c[i]?=some a->∃b,bs[i]?=some b/\R a b
 |_,_,_,_,.nil,e=>by simp at e
 |_,_,0,_,.cons r _,e=>by simp at e;subst e;exact⟨_,rfl,r⟩
 |_,_,i+1,a,.cons _ t,e=>by
  obtain⟨u,h1,h2⟩:=get (i:=i) (a:=a) t (by simpa using e)
  exact⟨u,by simpa using h1,h2⟩
theorem CY:∀{c:List α}{bs:List β}{i:Nat}{b:β},aK R c bs->bs[i]?=some b->∃a,c[i]?=some a/\R a b
 |_,_,_,_,.nil,e=>by simp at e
 |_,_,0,_,.cons r _,e=>by simp at e;subst e;exact⟨_,rfl,r⟩
 |_,_,i+1,a,.cons _ t,e=>by
  obtain⟨u,h1,h2⟩:=CY (i:=i) (b:=a) t (by simpa using e)
  exact⟨u,by simpa using h1,h2⟩
theorem append:∀{a b:List α}{bs ds:List β},aK R a bs->aK R b ds->aK R (a++b) (bs++ds)
 |_,_,_,_,.nil,h=>h
 |_,_,_,_,.cons r t,h=>.cons r (append t h)
theorem one{a:α}{b:β}(h:R a b):aK R [a] [b]:=.cons h .nil
theorem take:∀{a:List α}{bs:List β} (n:Nat),aK R a bs->aK R (a.take n) (bs.take n)
 |_,_,0,_=>by simp;exact .nil
 |_,_,n+1,.nil=>by simp;exact .nil
 |_,_,n+1,.cons r t=>.cons r (take n t)
theorem drop:∀{a:List α}{bs:List β} (n:Nat),aK R a bs->aK R (a.drop n) (bs.drop n)
 |_,_,0,h=>h
 |_,_,n+1,.nil=>by simp;exact .nil
 |_,_,n+1,.cons r t=>drop n t
theorem reverse:∀{a:List α}{bs:List β},aK R a bs->aK R a.reverse bs.reverse
 |_,_,.nil=>.nil
 |_,_,.cons r t=>by rw[List.reverse_cons,List.reverse_cons];exact(reverse t).append (one r)
theorem set{a:α}{b:β}(r:R a b):∀{c:List α}{bs:List β} (n:Nat),aK R c bs->aK R (c.set n a) (bs.set n b)
 |_,_,_,.nil=>.nil
 |_,_,0,.cons _ t=>.cons r t
 |_,_,n+1,.cons q t=>.cons q (set r n t)
theorem nil_inv{bs:List β}(h:aK R [] bs):bs=[]:=by cases h;rfl
theorem cons_inv{a:α}{c:List α}{bs:List β}(h:aK R (a::c) bs):∃b r,bs=b::r/\R a b/\aK R c r:=by
 cases h with
 |cons r t=>exact⟨_,_,rfl,r,t⟩
end aK
mutual
noncomputable def aq(c:List Addr)(Z:Addr->Prop)(H:Hp):D->V->Prop
 |.non,v=>v=.non
 |.bl b,v=>v=.bl b
 |.int i,v=>v=.int i
 |.str x,v=>v=.str x
 |.lst ds,v=>∃a vs,v=.ref a/\Z a/\Rd H a (.lst vs)/\ee c Z H ds vs
 |.tup ds,v=>∃a vs,v=.ref a/\Z a/\H a=some (.tup vs)/\ee c Z H ds vs
 |.dct _ _,_=>False
 |.ref n,v=>∃a,c[n]?=some a/\v=.ref a
noncomputable def ee(b:List Addr)(Z:Addr->Prop)(H:Hp):List D->List V->Prop
 |[],a=>a=[]
 |d::ds,a=>∃v r,a=v::r/\aq b Z H d v/\ee b Z H ds r
end
theorem br{a:List Addr}{Z:Addr->Prop}{H:Hp}:∀{ds:List D}{vs:List V},ee a Z H ds vs↔aK (aq a Z H) ds vs
 |[],vs=>by
  simp only[ee];exact⟨λh=>by subst h;exact .nil,λh=>h.nil_inv⟩
 |d::ds,vs=>by
  simp only[ee];constructor
  .rintro⟨v,r,rfl,h1,h2⟩
   exact .cons h1 (br.mp h2)
  .intro h
   obtain⟨v,r,rfl,h1,h2⟩:=h.cons_inv;exact⟨v,r,rfl,h1,br.mpr h2⟩
section
variable{α α':List Addr}{Z Z':Addr->Prop}{H H':Hp}
mutual
theorem aq.mono(p:∀(n:Nat) (a:Addr),α[n]?=some a->α'[n]?=some a)(k:∀a o,Z a->H a=some o->H' a=some o)(z:∀a,Z a->Z' a):∀{d:D}{v:V},aq α Z H d v->aq α' Z' H' d v
 |.non,_,h=>by simpa only [aq]using h
 |.bl _,_,h=>by simpa only [aq]using h
 |.int _,_,h=>by simpa only [aq]using h
 |.str _,_,h=>by simpa only [aq]using h
 |.lst ds,v,h=>by
  simp only[aq]at h ⊢;obtain⟨a,c,e,b,f,g⟩:=h;exact⟨a,c,e,z a b,nz (λo=>k a o b) f,ee.mono p k z g⟩
 |.tup ds,v,h=>by
  simp only[aq]at h ⊢;obtain⟨a,c,e,b,f,g⟩:=h;exact⟨a,c,e,z a b,k a _ b f,ee.mono p k z g⟩
 |.dct i ds,v,h=>by simp only[aq]at h
 |.ref n,v,h=>by
  simp only[aq]at h ⊢;obtain⟨a,e,h⟩:=h;exact⟨a,p n a e,h⟩
theorem ee.mono(p:∀(n:Nat) (a:Addr),α[n]?=some a->α'[n]?=some a)(k:∀a o,Z a->H a=some o->H' a=some o)(z:∀a,Z a->Z' a):∀{ds:List D}{vs:List V},ee α Z H ds vs->ee α' Z' H' ds vs
 |[],_,h=>by simpa only [ee]using h
 |d::ds,vs,h=>by
  simp only[ee]at h ⊢;obtain⟨v,r,e,h1,h2⟩:=h;exact⟨v,r,e,aq.mono p k z h1,ee.mono p k z h2⟩
end
end
def gb{K:Type}(R:D->V->Prop)(kvs:List (K×D))(a:List (K×V)):Prop:=aK (λp q=>p.1=q.1/\R p.2 q.2) kvs a
variable [aJ]
def g_(κ:Str->Addr->Prop)(R:D->V->Prop)(H:Hp)(a:Addr):Cell->Prop
 |.lst ds=>∃vs,H a=some (.lst vs)/\aK R ds vs
 |.dK kvs=>∃b,H a=some (.dK b)/\gb R kvs b
 |.dT kvs=>∃b,H a=some (.dT b)/\gb R kvs b
 |.dF kvs=>∃o b,H a=some (.dI o (.dK b))/\gb R kvs b
 |.ins C fs=>∃d e c,κ C d/\H a=some (.ins d e c)/\gb R fs c
 |_=>False
theorem gb.imp{K:Type}{R S:D->V->Prop}(h:∀d v,R d v->S d v){kvs:List (K×D)}{c:List (K×V)}(k:gb R kvs c):gb S kvs c:=aK.imp (λa b q=>⟨q.1,h _ _ q.2⟩) k
theorem g_.imp{κ:Str->Addr->Prop}{R S:D->V->Prop}{H m:Hp}{a:Addr}{c:Cell}(h:∀d v,R d v->S d v)(e:∀o,H a=some o->m a=some o)(z:∀b o u,H b=some (.dI o u)->m b=some (.dI o u))(k:g_ κ R H a c):g_ κ S m a c:=by
 cases c with
 |lst s=>obtain⟨f,g,i⟩:=k;exact⟨f,e _ g,i.imp h⟩
 |dK l=>obtain⟨f,g,i⟩:=k;exact⟨f,e _ g,i.imp h⟩
 |dT l=>obtain⟨f,g,i⟩:=k;exact⟨f,e _ g,i.imp h⟩
 |dF l=>obtain⟨o,f,g,i⟩:=k;exact⟨o,f,e _ g,i.imp h⟩
 |ins C t=>obtain⟨n,q,f,r,g,i⟩:=k;exact⟨n,q,f,r,e _ g,i.imp h⟩
 |fn j qZ=>exact k.elim
 |tb j p b=>exact k.elim
theorem g_.some{κ:Str->Addr->Prop}{R:D->V->Prop}{H:Hp}{a:Addr}{c:Cell}(k:g_ κ R H a c):H a≠none:=by
 cases c with
 |lst h=>obtain⟨f,d,g⟩:=k;rw[d];simp
 |dK e=>obtain⟨f,d,g⟩:=k;rw[d];simp
 |dT e=>obtain⟨f,d,g⟩:=k;rw[d];simp
 |dF e=>obtain⟨o,f,d,g⟩:=k;rw[d];simp
 |ins C i=>obtain⟨l,m,f,n,d,g⟩:=k;rw[d];simp
 |fn j qZ=>exact k.elim
 |tb j p b=>exact k.elim
structure bR(κ:Str->Addr->Prop)(α:List Addr)(Z:Addr->Prop)(Ω:aD)(H:Hp):Prop where
 sP:α.Nodup
 yu:aK (λc a=>g_ κ (aq α Z H) H a c) Ω α
 sep:∀a∈α,¬ Z a
 dom:∀a,Z a->H a≠none
structure cH(α:List Addr)(Z:Addr->Prop)(H:Hp)(α':List Addr)(Z':Addr->Prop)(H':Hp):Prop where
 pre:∀(n:Nat) (a:Addr),α[n]?=some a->α'[n]?=some a
 sub:∀a,Z a->Z' a
 new:∀a,Z' a->Z a\/H a=none
 CZ:∀a∈α',a∈α\/H a=none
 frm:∀a o,H a=some o->a∉α->H' a=some o
 has:∀a∈α,H' a≠none
 dI:∀a o u,H a=some (.dI o u)->H' a=some (.dI o u)
section
variable{κ:Str->Addr->Prop}{α α' Gh:List Addr}{Z Z' P8:Addr->Prop}{Ω ao:aD}{H H' P9:Hp}
theorem cH.refl(h:∀a∈α,H a≠none):cH α Z H α Z H:=⟨λ_ _ e=>e,λ_ h=>h,λ_ h=>.inl h,λ_ h=>.inl h,λ_ _ e _=>e,h,λ_ _ _ e=>e⟩
theorem bR.has(S:bR κ α Z Ω H):∀a∈α,H a≠none:=λa b=>by
 obtain⟨n,d⟩:=List.mem_iff_getElem?.mp b;obtain⟨c,_,h⟩:=S.yu.CY d;exact h.some
theorem cH.none(g:cH α Z H α' Z' H'){a:Addr}(h:H' a=none):H a=none:=by
 cases q:H a with
 |none=>rfl
 |some o=>
  by_cases b:a∈α
  .exact absurd h (g.has a b)
  .rw[g.frm a o q b]at h;cases h
theorem cH.trans(g:cH α Z H α' Z' H')(g':cH α' Z' H' Gh P8 P9):cH α Z H Gh P8 P9 where
 pre:=λn a e=>g'.pre n a (g.pre n a e)
 sub:=λa h=>g'.sub a (g.sub a h)
 new:=λa h=>by
  rcases g'.new a h with h|h
  .exact g.new a h
  .exact .inr (g.none h)
 CZ:=λa h=>by
  rcases g'.CZ a h with h|h
  .exact g.CZ a h
  .exact .inr (g.none h)
 frm:=λa o e b=>g'.frm a o (g.frm a o e b) λh=>by
  rcases g.CZ a h with h|h
  .exact b h
  .rw[e]at h;cases h
 has:=λa b=>by
  obtain⟨n,c⟩:=List.mem_iff_getElem?.mp b;exact g'.has a (List.mem_of_getElem? (g.pre n a c))
 dI:=λa o u e=>g'.dI a o u (g.dI a o u e)
theorem bR.dq(S:bR κ α Z Ω H)(g:cH α Z H α' Z' H'){d:D}{v:V}(h:aq α Z H d v):aq α' Z' H' d v:=
 h.mono g.pre (λa o z e=>g.frm a o e λb=>S.sep a b z) g.sub
theorem bR.ju(S:bR κ α Z Ω H)(g:cH α Z H α' Z' H'){ds:List D}{vs:List V}(h:aK (aq α Z H) ds vs):aK (aq α' Z' H') ds vs:=h.imp λ_ _ q=>S.dq g q
theorem bR.cell(S:bR κ α Z Ω H){n:Nat}{c:Cell}(e:Ω[n]?=some c):∃a,α[n]?=some a/\g_ κ (aq α Z H) H a c:=S.yu.get e
theorem bR.len(S:bR κ α Z Ω H):α.length=Ω.length:=S.yu.length
theorem bR.sQ(S:bR κ α Z Ω H){p:Addr}{o:HO}(h:H p=none)(z:Prop)[Decidable z]:bR κ α (if z then Zp Z p else Z) Ω (upd H p o)/\cH α Z H α (if z then Zp Z p else Z) (upd H p o):=by
 have j:∀a∈α,a≠p:=λa f e=>S.has a f (e▸h)
 have k:∀a,Z a->a≠p:=λa i e=>S.dom a i (e▸h)
 have sub:∀a,Z a->(if z then Zp Z p else Z) a:=λa f=>by
  split
  .exact .inl f
  .exact f
 have g:cH α Z H α (if z then Zp Z p else Z) (upd H p o):=⟨λ_ _ e=>e,sub,λa f=>by
   split at f
   .rcases f with f|rfl
    .exact .inl f
    .exact .inr h
   .exact .inl f,λ_ f=>.inl f,λa u e _=>by rw[aH (bg e h)];exact e,λa f=>by rw[aH (j a f)];exact S.has a f,λa l u e=>by rw[aH (bg e h)];exact e⟩
 refine⟨⟨S.sP,?_,λa f i=>?_,λa f=>?_⟩,g⟩
 .refine S.yu.imp λc a m=>?_
  refine m.imp (λd v r=>S.dq g r) (λu e=>?_) λb l n e=>?_
  .rw[aH (bg e h)];exact e
  .rw[aH (bg e h)];exact e
 .split at i
  .rcases i with i|rfl
   .exact S.sep a f i
   .exact j _ f rfl
  .exact S.sep a f i
 .split at f
  .rcases f with f|rfl
   .rw[aH (k a f)];exact S.dom a f
   .rw[aU];simp
  .rw[aH (k a f)];exact S.dom a f
theorem bR.laid(S:bR κ α Z Ω H){p:Addr}{o:HO}{c:Cell}(h:H p=none)(k:∀R:D->V->Prop,(∀d v,aq α Z H d v->R d v)->g_ κ R (upd H p o) p c):bR κ (α++[p]) Z (Ω++[c]) (upd H p o)/\cH α Z H (α++[p]) Z (upd H p o):=by
 have f:∀a∈α,a≠p:=λa ha e=>S.has a ha (e▸h)
 have i:∀a,Z a->a≠p:=λa j e=>S.dom a j (e▸h)
 have g:cH α Z H (α++[p]) Z (upd H p o):=⟨λn a e=>by rw[List.getElem?_append_left (List.getElem?_eq_some_iff.mp e).1];exact e,λ_ h=>h,λ_ h=>.inl h,λa ha=>by
   rcases List.mem_append.mp ha with ha|ha
   .exact .inl ha
   .rw[List.mem_singleton.mp ha];exact .inr h,λa u e _=>by rw[aH (bg e h)];exact e,λa ha=>by rw[aH (f a ha)];exact S.has a ha,λa l u e=>by rw[aH (bg e h)];exact e⟩
 refine⟨⟨?_,?_,λa ha j=>?_,λa ha=>by rw[aH (i a ha)];exact S.dom a ha⟩,g⟩
 .refine List.nodup_append.mpr ⟨S.sP,by simp,λa ha b m=>?_⟩
  rw[List.mem_singleton.mp m];exact f a ha
 .refine aK.append (S.yu.imp λc a k=>?_) (.one (k _ λd v r=>S.dq g r))
  refine k.imp (λd v r=>S.dq g r) (λu e=>?_) λb l q e=>?_
  .rw[aH (bg e h)];exact e
  .rw[aH (bg e h)];exact e
 .rcases List.mem_append.mp ha with ha|ha
  .exact S.sep a ha j
  .rw[List.mem_singleton.mp ha]at j;exact i _ j rfl
theorem bR.put(S:bR κ α Z Ω H){n:Nat}{p:Addr}{o:HO}{c:Cell}(E:α[n]?=some p)(s:∀o u,H p≠some (.dI o u))(I:∀R:D->V->Prop,(∀d v,aq α Z H d v->R d v)->g_ κ R (upd H p o) p c):bR κ α Z (Ω.set n c) (upd H p o)/\cH α Z H α Z (upd H p o):=by
 have w:p∈α:=List.mem_of_getElem? E
 have g:cH α Z H α Z (upd H p o):=⟨λn a e=>e,λ_ h=>h,λ_ h=>.inl h,λa k=>.inl k,λa u e k=>by rw[aH (λ(q:a=p)=>k (by rw[q];exact w))];exact e,λa k=>by
   by_cases q:a=p
   .subst q;rw[aU];simp
   .rw[aH q];exact S.has a k,λa l u e=>by rw[aH (λq=>s l u (by rw[←q];exact e))];exact e⟩
 refine⟨⟨S.sP,?_,S.sep,λa k=>?_⟩,g⟩
 .have x:∀{j:List Cell}{f:List Addr}{n:Nat},f.Nodup->aK (λc a=>g_ κ (aq α Z H) H a c) j f->f[n]?=some p->aK (λc a=>g_ κ (aq α Z (upd H p o)) (upd H p o) a c) (j.set n c) f:=by
   intro j f n y z
   induction z generalizing n with
   |nil=>intro e;simp at e
   |@cons K A j f r t B=>
    intro e;have i:=List.nodup_cons.mp y;cases n with
    |zero=>
     simp at e;subst e;refine .cons (I _ λd v r=>S.dq g r) (aK.imp (λ_ _ q=>q) ?_)
     have:∀{j:List Cell}{f:List Addr},A∉f->aK (λc a=>g_ κ (aq α Z H) H a c) j f->aK (λc a=>g_ κ (aq α Z (upd H A o)) (upd H A o) a c) j f:=by
      intro j f m z
      induction z with
      |nil=>exact .nil
      |@cons L M j f r t B=>
       refine .cons (r.imp (λd v q=>S.dq g q) (λu e=>?_) λb l C e=>?_) (B λq=>m (List.mem_cons_of_mem _ q))
       .rw[aH (λq=>m (by rw[q];simp))];exact e
       .rw[aH (λq=>s l C (by rw[←q];exact e))];exact e
     exact this i.1 t
    |succ n=>
     have F:f[n]?=some p:=by simpa using e
     refine .cons (r.imp (λd v q=>S.dq g q) (λu J=>?_) λb l C G=>?_) (B i.2 F)
     .rw[aH (λq=>i.1 (by rw[q];exact List.mem_of_getElem? F))];exact J
     .rw[aH (λq=>s l C (by rw[←q];exact G))];exact G
  exact x S.sP S.yu E
 .by_cases q:a=p
  .subst q;rw[aU];simp
  .rw[aH q];exact S.dom a k
end
end Mir
namespace Mir
open PySem PySem.Spec PyProof.Rows L2
variable [aJ]
abbrev gv:=D->aD->List Addr->(Addr->Prop)->Hp->Prop
def cg(κ:Str->Addr->Prop)(Φ:gv)(f:List Addr)(Z:Addr->Prop)(H:Hp)(r:ay D)(Q:VK):Prop:=match r with
 |.ok d b=>∀v c a e,cH f Z H a e c->bR κ a e b c->aq a e c d v->Q v c
 |.exc x b=>∀c a e,cH f Z H a e c->bR κ a e b c->Φ x b a e c
 |.bad=>False
structure cU(κ:Str->Addr->Prop)(ia:List Addr)(Z0:Addr->Prop)(H0:Hp)(α:List Addr)(Z:Addr->Prop)(Ω:aD)(ρ:aS)(σ:L2.St)(H:Hp):Prop where
 st:bR κ α Z Ω H
 gr:cH ia Z0 H0 α Z H
 len:σ.length=ρ.length
 val:∀(i:Nat) (d:D),ρ[i]?=some (some d)->∃v,σ[i]?=some (some v)/\aq α Z H d v
abbrev EM:=aS->aD->ay D
noncomputable def tO(κ:Str->Addr->Prop)(Φ:gv)(a:List Addr)(c:Addr->Prop)(d:Hp)(m:EM)(ρ:aS)(Ω:aD):TE:=λe H Q=>
 ∃b Z,cU κ a c d b Z Ω ρ e H/\cg κ Φ b Z H (m ρ Ω) Q
def bx(X:Cx)(κ:Str->Addr->Prop)(Φ:gv)(e:Expr)(m:EM):Prop:=∀a b c d f,PE X e (tO κ Φ a b c m d f)
section
variable{κ:Str->Addr->Prop}{Φ:gv}{α α' ia α1:List Addr}{Z Z' Z0 Z1:Addr->Prop}{Ω ao:aD}{H H' H0 H1:Hp}{ρ:aS}{σ:L2.St}{Q Q':VK}{r:ay D}
theorem cg.from(g:cH α Z H α1 Z1 H1)(h:cg κ Φ α Z H r Q):cg κ Φ α1 Z1 H1 r Q:=by
 cases r with
 |ok d b=>exact λv c a e f=>h v c a e (g.trans f)
 |exc x b=>exact λc a e f=>h c a e (g.trans f)
 |bad=>exact h
theorem cg.use{f:D->aD->ay D}(h:cg κ Φ α Z H (r.bind f) Q)(k:∀d aM,r=.ok d aM->∀v b a c,cH α Z H a c b->bR κ a c aM b->aq a c b d v->cg κ Φ a c b (f d aM) Q->Q' v b):cg κ Φ α Z H r Q':=by
 cases r with
 |ok d aM=>exact λv b a c g s q=>k d aM rfl v b a c g s q (cg.from g h)
 |exc x aM=>exact h
 |bad=>exact h
theorem cg.ret{d:D}{v:V}(S:bR κ α Z Ω H)(q:aq α Z H d v)(h:cg κ Φ α Z H (.ok d Ω) Q):Q v H:=h v H α Z (cH.refl S.has) S q
theorem cU.grow(S:cU κ ia Z0 H0 α Z Ω ρ σ H)(g:cH α Z H α' Z' H')(s:bR κ α' Z' ao H'):cU κ ia Z0 H0 α' Z' ao ρ σ H':=
 ⟨s,S.gr.trans g,S.len,λi d e=>let ⟨v,a,b⟩:=S.val i d e;⟨v,a,S.st.dq g b⟩⟩
theorem aT{d:D}{v:V}(h:fq d=some v):aq α Z H d v:=by
 cases d<;>simp only[fq]at h<;>first|cases h;simp only[aq]|cases h
theorem sR{d:D}(h:eV d=true):∃v,fq d=some v:=by
 cases d<;>first|exact⟨_,rfl⟩|cases h
theorem dM{d:D}{v w:V}(h:fq d=some w)(r:Rep Z H d v):v=w:=by
 cases d<;>simp only[fq]at h<;>first | (cases h;simpa only [Rep]using r)|cases h
noncomputable def bz{a b:Type}(f:a->Option b):List a->Option (List b)
 |[]=>some []
 |x::xs=>match f x,bz f xs with
  |some y,some ys=>some (y::ys)
  |_,_=>none
def eH(Ω:aD):Nat->D->Option D
 |_,.non=>some .non
 |_,.bl b=>some (.bl b)
 |_,.int i=>some (.int i)
 |_,.str x=>some (.str x)
 |0,_=>none
 |n+1,.lst ds=>(bz (eH Ω n) ds).map .lst
 |n+1,.tup ds=>(bz (eH Ω n) ds).map .tup
 |n+1,.ref k=>match Ω[k]? with
  |some (.lst ds)=>(bz (eH Ω n) ds).map .lst
  |_=>none
 |_+1,.dct _ _=>none
def qq(b:List Addr)(Z:Addr->Prop):Addr->Prop:=λa=>Z a\/a∈b
theorem eI{f:D->Option D}{R:D->V->Prop}{S:D->V->Prop}(a:∀d d' v,f d=some d'->R d v->S d' v):∀{ds es:List D}{vs:List V},bz f ds=some es->aK R ds vs->aK S es vs
 |[],es,vs,h,r=>by cases h;rw[r.nil_inv];exact .nil
 |d::ds,es,vs,h,r=>by
  simp only[bz]at h;split at h
  .rename_i y ys h1 h2
   cases h;obtain⟨v,b,rfl,c,e⟩:=r.cons_inv;exact .cons (a d y v h1 c) (eI a h2 e)
  .cases h
theorem gw:∀{ds:List D}{vs:List V},aK (Rep Z H) ds vs->aY Z H ds vs
 |_,_,.nil=>.nil
 |_,_,.cons r t=>.cons r (gw t)
theorem iy(S:bR κ α Z Ω H):∀(n:Nat) {d d':D}{v:V},eH Ω n d=some d'->aq α Z H d v->Rep (qq α Z) H d' v:=by
 intro n
 induction n with
 |zero=>
  intro d d' v h r;cases d<;>simp only[eH]at h<;>first | (cases h;simpa only [Rep,aq]using r)|cases h
 |succ n g=>
  intro d d' v h r;cases d with
  |lst l=>
   simp only[eH]at h;obtain⟨m,b,rfl⟩:=Option.map_eq_some_iff.mp h;simp only[aq]at r;obtain⟨a,c,rfl,i,j,e⟩:=r;simp only[Rep];exact⟨a,c,rfl,.inl i,j,gw (eI (S:=Rep (qq α Z) H) (λd d' v q r=>g q r) b (br.mp e))⟩
  |tup l=>
   simp only[eH]at h;obtain⟨m,b,rfl⟩:=Option.map_eq_some_iff.mp h;simp only[aq]at r;obtain⟨a,c,rfl,i,j,e⟩:=r;simp only[Rep];exact⟨a,c,rfl,.inl i,.inl j,gw (eI (S:=Rep (qq α Z) H) (λd d' v q r=>g q r) b (br.mp e))⟩
  |ref k=>
   simp only[eH]at h;split at h
   .rename_i l p
    obtain⟨m,b,rfl⟩:=Option.map_eq_some_iff.mp h;obtain⟨a,o,c,s,e⟩:=S.cell p;simp only[aq]at r;obtain⟨t,f,rfl⟩:=r;rw[o]at f;cases f;simp only[Rep];exact⟨a,c,rfl,.inr (List.mem_of_getElem? o),.inl s,gw (eI (S:=Rep (qq α Z) H) (λd d' v q r=>g q r) b e)⟩
   .cases h
  |dct _ _=>cases h
  |_=>simp only[eH]at h;cases h;simpa only [Rep,aq]using r
theorem dw(S:bR κ α Z Ω H):∀a,qq α Z a->H a≠none:=λa h=>h.elim (S.dom a) (S.has a)
theorem bR.same(S:bR κ α Z Ω H)(h:iv H H'):bR κ α Z Ω H'/\cH α Z H α Z H':=by
 have g:cH α Z H α Z H':=⟨λ_ _ e=>e,λ_ z=>z,λ_ z=>.inl z,λ_ z=>.inl z,λa o e _=>h a o e,λa f=>by
  cases q:H a with
  |none=>exact absurd q (S.has a f)
  |some o=>rw[h a o q];simp,λa o u e=>h a _ e⟩
 refine⟨⟨S.sP,S.yu.imp λc a i=>i.imp (λd v r=>S.dq g r) (λo e=>h a o e) λb o u e=>h b _ e,S.sep,λa z=>?_⟩,g⟩
 cases q:H a with
 |none=>exact absurd q (S.dom a z)
 |some o=>rw[h a o q];simp
theorem bR.adopt(S:bR κ α Z Ω H)(h:iv H H'){p:Addr}(i:H p=none){c:Cell}(j:∀R:D->V->Prop,(∀d v,aq α Z H' d v->R d v)->g_ κ R H' p c):bR κ (α++[p]) Z (Ω++[c]) H'/\cH α Z H (α++[p]) Z H':=by
 obtain⟨o,k⟩:=S.same h;have l:∀a∈α,a≠p:=λa ha e=>S.has a ha (e▸i)
 have m:∀a,Z a->a≠p:=λa f e=>S.dom a f (e▸i)
 have g:∀(n:Nat) (a:Addr),α[n]?=some a->(α++[p])[n]?=some a:=λn a e=>by rw[List.getElem?_append_left (List.getElem?_eq_some_iff.mp e).1];exact e
 have mono:∀d v,aq α Z H' d v->aq (α++[p]) Z H' d v:=λd v r=>r.mono g (λ_ _ _ e=>e) λ_ z=>z
 refine⟨⟨?_,?_,λa ha f=>?_,o.dom⟩,⟨g,λ_ z=>z,λ_ z=>.inl z,λa ha=>?_,k.frm,k.has,k.dI⟩⟩
 .refine List.nodup_append.mpr ⟨S.sP,by simp,λa ha b q=>?_⟩
  rw[List.mem_singleton.mp q];exact l a ha
 .exact aK.append (o.yu.imp λc a j=>j.imp mono (λ_ e=>e) λ_ _ _ e=>e) (.one (j _ mono))
 .rcases List.mem_append.mp ha with ha|ha
  .exact S.sep a ha f
  .rw[List.mem_singleton.mp ha]at f;exact m _ f rfl
 .rcases List.mem_append.mp ha with ha|ha
  .exact .inl ha
  .rw[List.mem_singleton.mp ha];exact .inr i
noncomputable def hF(Ω:aD)(c:Cell):ay D:=.ok (.ref Ω.length) (Ω++[c])
def fJ(Ω:aD):Out Rs->ay D
 |.ok (own,d)=>if eV d then .ok d Ω else match own,d with
  |true,.lst ds=>if ds.all eV then hF Ω (.lst ds)else .bad
  |_,_=>.bad
 |_=>.bad
theorem eJ(S:bR κ α Z Ω H)(p:Addr):aq (α++[p]) Z H' (.ref Ω.length) (.ref p):=by
 simp only[aq];exact⟨p,by rw[←S.len];simp,rfl⟩
theorem mF:∀{ds:List D}{vs:List V},ds.all eV=true->aY Z1 H1 ds vs->aK (aq α Z H) ds vs
 |[],vs,_,r=>by rw[r.nil_inv];exact .nil
 |d::ds,vs,h,r=>by
  obtain⟨v,b,rfl,c,e⟩:=r.cons_inv;simp only[List.all_cons,Bool.and_eq_true]at h;obtain⟨w,a⟩:=sR h.1;obtain rfl:=dM a c;exact .cons (aT a) (mF h.2 e)
theorem iz{bw:Bool}{r:Out Rs}(S:bR κ α Z Ω H)(h:cg κ Φ α Z H (fJ Ω r) Q):∃e d,r=.ok (e,d)/\∀v b m f,eu m H f b->ec bw e f H b d v->Q v b:=by
 cases r with
 |ok q=>
  obtain⟨e,d⟩:=q;refine⟨e,d,rfl,λv b m f g q=>?_⟩
  simp only[fJ]at h;split at h
  .rename_i o
   obtain⟨w,i⟩:=sR o
   have p:v=w:=by
    have n:=q.nw;cases d with
    |non=>exact dM (Z:=f) (H:=b) i n
    |bl _=>exact dM (Z:=f) (H:=b) i n
    |int _=>exact dM (Z:=f) (H:=b) i n
    |str _=>exact dM (Z:=f) (H:=b) i n
    |_=>cases o
   subst p;obtain⟨j,k⟩:=S.same g.same;exact h v b α Z k j (aT i)
  .split at h
   .rename_i s t
    split at h
    .rename_i l
     unfold ec at q;rw[if_pos rfl]at q;obtain⟨a,u,x,y,rfl,z,D,A,B⟩:=q;cases y;obtain⟨j,k⟩:=S.adopt (c:=.lst s) g.same z (λR C=>⟨u,A,(mF l B).imp C⟩)
     exact h _ b _ Z k j (eJ S a)
    .exact h.elim
   .exact h.elim
 |exc c E=>exact h.elim
 |bad=>exact h.elim
end
def m1(f:D->aD->ay D)(a:EM):EM:=λb c=>(a b c).bind f
def m2(f:D->D->aD->ay D)(d e:EM):EM:=λc g=>(d c g).bind λx a=>(e c a).bind λy b=>f x y b
noncomputable def gc(a b:ay D):ay D:=match a with
 |.bad=>b
 |r=>r
def zo(f g:D->aD->ay D):D->aD->ay D:=λx a=>gc (f x a) (g x a)
def ef(f g:D->D->aD->ay D):D->D->aD->ay D:=λx y a=>gc (f x y a) (g x y a)
def kI(f g:EM):EM:=λa b=>gc (f a b) (g a b)
def iA(f:D->Out Rs):D->aD->ay D:=λx a=>match eH a 8 x with
 |some b=>fJ a (f b)
 |none=>.bad
def fK(f:D->D->Out Rs):D->D->aD->ay D:=λx y a=>match eH a 8 x,eH a 8 y with
 |some b,some c=>fJ a (f b c)
 |_,_=>.bad
def gf(Ω:aD):D->Option Bool
 |.ref k=>match Ω[k]? with
  |some (.lst ds)=>some (!ds.isEmpty)
  |some (.dK kvs)=>some (!kvs.isEmpty)
  |_=>none
 |d=>jF d
def cB:ay D->ay Bool
 |.ok d Ω=>match gf Ω d with
  |some b=>.ok b Ω
  |none=>.bad
 |.exc x Ω=>.exc x Ω
 |.bad=>.bad
def oz(κ:Str->Addr->Prop)(Φ:gv)(f:List Addr)(Z:Addr->Prop)(H:Hp)(r:ay Bool)(Q:Bool->Hp->Prop):Prop:=match r with
 |.ok b c=>∀d a e,cH f Z H a e d->bR κ a e c d->Q b d
 |.exc x c=>∀d a e,cH f Z H a e d->bR κ a e c d->Φ x c a e d
 |.bad=>False
def LC(κ:Str->Addr->Prop)(Φ:gv)(a:List Addr)(c:Addr->Prop)(d:Hp)(m:EM)(ρ:aS)(Ω:aD):TT:=λe H Q=>∃b Z,cU κ a c d b Z Ω ρ e H/\oz κ Φ b Z H (cB (m ρ Ω)) Q
def fL(X:Cx)(κ:Str->Addr->Prop)(Φ:gv)(e:Expr)(m:EM):Prop:=∀a b c d f,PT X e (LC κ Φ a b c m d f)
abbrev AM:=aS->aD->ay (List D)
def pq(κ:Str->Addr->Prop)(Φ:gv)(e:List Addr)(Z:Addr->Prop)(H:Hp)(r:ay (List D))(Q:List V->Hp->Prop):Prop:=match r with
 |.ok g b=>∀f c a d,cH e Z H a d c->bR κ a d b c->aK (aq a d c) g f->Q f c
 |.exc x b=>∀c a d,cH e Z H a d c->bR κ a d b c->Φ x b a d c
 |.bad=>False
noncomputable def RM(κ:Str->Addr->Prop)(Φ:gv)(a:List Addr)(c:Addr->Prop)(d:Hp)(m:AM)(ρ:aS)(Ω:aD):TA:=λe H Q=>∃b Z,cU κ a c d b Z Ω ρ e H/\pq κ Φ b Z H (m ρ Ω) Q
def qr(X:Cx)(κ:Str->Addr->Prop)(Φ:gv)(es:List Expr)(m:AM):Prop:=∀a b c d e,PA X es (RM κ Φ a b c m d e)
noncomputable def ae:AM:=λ_ a=>.ok [] a
def ab(a:EM)(e:AM):AM:=λd f=>(a d f).bind λx b=>(e d b).bind λg c=>.ok (x::g) c
def mN(f:List D->aD->ay D)(a:AM):EM:=λb c=>(a b c).bind f
section
variable{X:Cx}{κ:Str->Addr->Prop}{Φ:gv}{α α' ia α1:List Addr}{Z Z' Z0 Z1:Addr->Prop}{Ω ao:aD}{H H' H0 H1:Hp}{ρ:aS}{σ:L2.St}{Q Q':VK}{r:ay D}{a b e:Expr}{es:List Expr}{ma mb mc m:EM}{as:AM}{pos:Pos}
theorem pq.from{r:ay (List D)}{Q:List V->Hp->Prop}(g:cH α Z H α1 Z1 H1)(h:pq κ Φ α Z H r Q):pq κ Φ α1 Z1 H1 r Q:=by
 cases r with
 |ok d b=>exact λv c a e f=>h v c a e (g.trans f)
 |exc x b=>exact λc a e f=>h c a e (g.trans f)
 |bad=>exact h
theorem oz.from{r:ay Bool}{Q:Bool->Hp->Prop}(g:cH α Z H α1 Z1 H1)(h:oz κ Φ α Z H r Q):oz κ Φ α1 Z1 H1 r Q:=by
 cases r with
 |ok d b=>exact λc a e f=>h c a e (g.trans f)
 |exc x b=>exact λc a e f=>h c a e (g.trans f)
 |bad=>exact h
theorem pq.use{r:ay (List D)}{f:List D->aD->ay D}{Q':List V->Hp->Prop}(h:cg κ Φ α Z H (r.bind f) Q)(k:∀ds aM,r=.ok ds aM->∀vs b a c,cH α Z H a c b->bR κ a c aM b->aK (aq a c b) ds vs->cg κ Φ a c b (f ds aM) Q->Q' vs b):pq κ Φ α Z H r Q':=by
 cases r with
 |ok d aM=>exact λv b a c g s q=>k d aM rfl v b a c g s q (cg.from g h)
 |exc x aM=>exact h
 |bad=>exact h
theorem PE.or{t u:TE}(h:PE X e t)(h':PE X e u):PE X e (λa H Q=>t a H Q\/u a H Q):=λpins s a H Q I q=>q.elim (h pins s a H Q I) (h' pins s a H Q I)
theorem PT.or{t u:TT}(h:PT X e t)(h':PT X e u):PT X e (λa H Q=>t a H Q\/u a H Q):=λpins s a H Q I q=>q.elim (h pins s a H Q I) (h' pins s a H Q I)
theorem mG{a b:ay D}:gc a b=a\/(a=.bad/\gc a b=b):=by cases a<;>simp[gc]
theorem bx.alt(h:bx X κ Φ e ma)(h':bx X κ Φ e mb):bx X κ Φ e (kI ma mb):=by
 intro c i j d f;refine PE.imp (PE.or (h c i j d f) (h' c i j d f)) ?_;rintro l H Q ⟨k,Z,S,g⟩;rcases mG (a:=ma d f) (b:=mb d f)with q|⟨_,q⟩
 .exact .inl ⟨k,Z,S,by rw[←q];exact g⟩
 .exact .inr ⟨k,Z,S,by rw[←q];exact g⟩
theorem fL.alt(h:fL X κ Φ e ma)(h':fL X κ Φ e mb):fL X κ Φ e (kI ma mb):=by
 intro c i j d f;refine PT.imp (PT.or (h c i j d f) (h' c i j d f)) ?_;rintro l H Q ⟨k,Z,S,g⟩;rcases mG (a:=ma d f) (b:=mb d f)with q|⟨_,q⟩
 .exact .inl ⟨k,Z,S,by rw[←q];exact g⟩
 .exact .inr ⟨k,Z,S,by rw[←q];exact g⟩
theorem e_{f g:D->D->aD->ay D}:m2 (ef f g) ma mb=kI (m2 f ma mb) (m2 g ma mb):=by
 funext c a
 simp only[m2,kI];cases ma c a with
 |ok x b=>
  simp only[ay.bind];cases mb c b with
  |ok y d=>rfl
  |exc x a=>rfl
  |bad=>rfl
 |exc x a=>rfl
 |bad=>rfl
theorem C8{f g:D->aD->ay D}:m1 (zo f g) ma=kI (m1 f ma) (m1 g ma):=by
 funext b a
 simp only[m1,kI];cases ma b a with
 |ok x c=>rfl
 |exc x a=>rfl
 |bad=>rfl
theorem iB{f:D->aD->ay D}{r:V->Hp->VK->Prop}(h:∀l,PE X a l->PE X e λm H Q=>l m H λx c=>r x c Q)(o:bx X κ Φ a ma)
  (p:∀n x b Z Ω H Q,bR κ b Z Ω H->aq b Z H n x->cg κ Φ b Z H (f n Ω) Q->r x H Q):bx X κ Φ e (m1 f ma):=by
 intro i q s t Ω;refine PE.imp (h _ (o i q s t Ω)) ?_;rintro m H Q ⟨b,Z,S,g⟩;refine⟨b,Z,S,g.use λd j _ v c k u A w y z=>?_⟩
 exact p d v k u j c Q w y z
theorem di{f:D->D->aD->ay D}{r:R2}(h:∀u tb,PE X a u->PE X b tb->PE X e (EY r u tb))(n:bx X κ Φ a ma)(o:bx X κ Φ b mb)
  (G:∀z A x y i Z Ω H Q,bR κ i Z Ω H->aq i Z H z x->aq i Z H A y->cg κ Φ i Z H (f z A Ω) Q->r x y H Q):bx X κ Φ e (m2 f ma mb):=by
 intro c k l j Ω;rcases q:ma j Ω with ⟨d,m⟩|⟨x,m⟩|_
 .refine PE.imp (h _ _ (n c k l j Ω) (o c k l j m)) ?_
  rintro B H Q ⟨i,Z,S,g⟩;refine⟨i,Z,S,cg.use g λU C E v V p I J F K L=>?_⟩
  rw[q]at E;cases E;refine⟨p,I,S.grow J F,L.use λd2 s _ w M t N O P R T=>?_⟩
  exact G d d2 v w t N s M Q P (F.dq O K) R T
 .refine PE.imp (h _ _ (n c k l j Ω) (o c k l j Ω)) ?_
  rintro B H Q ⟨i,Z,S,g⟩;refine⟨i,Z,S,?_⟩;simp only[m2,q,ay.bind]at g ⊢;exact g
 .refine PE.imp (h _ _ (n c k l j Ω) (o c k l j Ω)) ?_
  rintro B H Q ⟨i,Z,S,g⟩;simp only[m2,q,ay.bind]at g;exact g.elim
theorem kJ{bw:Bool}{f:D->Out Rs}{i:D}{x:V}(S:bR κ α Z Ω H)(j:aq α Z H i x)(h:cg κ Φ α Z H (iA f i Ω) Q) :
  ∃d a d',Now (qq α Z) H d x/\f d=.ok (a,d')/\∀v b c,eu (qq α Z) H c b->ec bw a c H b d' v->Q v b:=by
 unfold iA at h;split at h
 .rename_i d l
  obtain⟨a,d',e,k⟩:=iz (bw:=bw) S h;exact⟨d,a,d',(iy S 8 l j).now,e,λv b c g q=>k v b _ c g q⟩
 .exact h.elim
theorem gx{bw:Bool}{f:D->D->Out Rs}{i j:D}{x y:V}(S:bR κ α Z Ω H)(l:aq α Z H i x)(m:aq α Z H j y)(h:cg κ Φ α Z H (fK f i j Ω) Q) :
  ∃d e a d',Now (qq α Z) H d x/\Now (qq α Z) H e y/\f d e=.ok (a,d')/\∀v b c,eu (qq α Z) H c b->ec bw a c H b d' v->Q v b:=by
 unfold fK at h;split at h
 .rename_i d e n o
  obtain⟨a,d',p,k⟩:=iz (bw:=bw) S h;exact⟨d,e,a,d',(iy S 8 n l).now,(iy S 8 o m).now,p,λv b c g q=>k v b _ c g q⟩
 .exact h.elim
theorem zp{i:Nat}{x:Str}(c:X.N[i]?=some x)(e:EW X.env.scope x)(a:(x==("__debug__":Str))=false)(b:(x==("__classdict__":Str))=false):bx X κ Φ (.Name x pos) (λρ Ω=>match ρ[i]? with|some (some d)=>.ok d Ω|_=>.bad):=by
 intro f k l ρ Ω;refine PE.imp (Cd c e a b) ?_;rintro m H Q ⟨n,Z,S,g⟩;dsimp only at g;split at g
 .rename_i d a
  obtain⟨v,h,j⟩:=S.val i d a;exact⟨v,h,cg.ret S.st j g⟩
 .exact g.elim
theorem iC{d:D}{v:V}(h:PE X e (tC v))(a:fq d=some v):bx X κ Φ e (λ_ Ω=>.ok d Ω):=by
 intro b c f i Ω;refine PE.imp h ?_;rintro j H Q ⟨k,Z,S,g⟩;exact cg.ret S.st (aT a) g
noncomputable def dJ(Ω:aD):D->Option (List D)
 |.ref k=>match Ω[k]? with
  |some (.lst ds)=>some ds
  |_=>none
 |.lst ds=>some ds
 |_=>none
theorem ck{x:D}{v:V}{ds:List D}(S:bR κ α Z Ω H)(r:aq α Z H x v)(h:dJ Ω x=some ds):∃a vs,v=.ref a/\Rd H a (.lst vs)/\aK (aq α Z H) ds vs:=by
 cases x with
 |ref k=>
  simp only[dJ]at h;split at h
  .rename_i e f
   cases h;simp only[aq]at r;obtain⟨a,g,rfl⟩:=r;obtain⟨i,b,vs,c,d⟩:=S.cell f;rw[g]at b;cases b;exact⟨a,vs,rfl,.inl c,d⟩
  .cases h
 |lst j=>
  cases h;simp only[aq]at r;obtain⟨a,vs,rfl,_,c,d⟩:=r;exact⟨a,vs,rfl,c,br.mp d⟩
 |_=>cases h
theorem ew{x:V}{ds:List D}(r:aq α Z H (.tup ds) x):∃a vs,x=.ref a/\Z a/\H a=some (.tup vs)/\aK (aq α Z H) ds vs:=by
 simp only[aq]at r;obtain⟨a,vs,e,b,c,d⟩:=r;exact⟨a,vs,e,b,c,br.mp d⟩
theorem gy{ds:List D}{vs:List V}(S:bR κ α Z Ω H)(r:aK (aq α Z H) ds vs)(k:cg κ Φ α Z H (hF Ω (.lst ds)) Q):∀p,H p=none->Q (.ref p) (upd H p (.lst vs)):=λp a=>by
 obtain⟨b,d⟩:=S.laid (p:=p) (o:=.lst vs) (c:=.lst ds) a λR e=>⟨vs,aU,r.imp e⟩
 exact k _ _ _ Z d b (eJ S p)
theorem iD{ds:List D}{vs:List V}(S:bR κ α Z Ω H)(r:aK (aq α Z H) ds vs)(k:cg κ Φ α Z H (.ok (.tup ds) Ω) Q):∀p,H p=none->Q (.ref p) (upd H p (.tup vs)):=λp c=>by
 obtain⟨b,a⟩:=S.sQ (p:=p) (o:=.tup vs) c True;simp only[if_true]at b a;refine k _ _ _ _ a b ?_;simp only[aq];exact⟨p,vs,rfl,.inr rfl,aU,br.mpr (S.ju a r)⟩
theorem zq:qr X κ Φ [] ae:=by
 intro a c d e f;refine PA.imp kj ?_;rintro h H Q ⟨b,Z,S,g⟩;exact g [] H b Z (cH.refl S.st.has) S.st .nil
theorem wU(k:bx X κ Φ e ma)(l:qr X κ Φ es as)(m:starEach (e::es) X.env=(false,eval e X.env)::starEach es X.env):qr X κ Φ (e::es) (ab ma as):=by
 intro a f h b i;rcases q:ma b i with ⟨d,c⟩|⟨x,c⟩|_
 .refine PA.imp (er (k a f h b i) (l a f h b c) m) ?_
  rintro r H Q ⟨j,Z,S,g⟩;refine⟨j,Z,S,?_⟩;simp only[ab,q,ay.bind]at g ⊢;intro v C n w s t y;refine⟨n,w,S.grow s t,?_⟩;have g:=pq.from s g
  rcases o:as b c with ⟨D,p⟩|⟨x,p⟩|_
  .rw[o]at g
   intro E F z G u A B;exact g _ _ _ _ u A (.cons (t.dq u y) B)
  .rw[o]at g;exact g
  .rw[o]at g;exact g
 .refine PA.imp (er (k a f h b i) (l a f h b i) m) ?_
  rintro r H Q ⟨j,Z,S,g⟩;refine⟨j,Z,S,?_⟩;simp only[ab,q,ay.bind]at g ⊢;exact g
 .refine PA.imp (er (k a f h b i) (l a f h b i) m) ?_
  rintro r H Q ⟨j,Z,S,g⟩;simp only[ab,q,ay.bind]at g;exact g.elim
def bj(ds:List D)(Ω:aD):ay D:=if small ds.length then hF Ω (.lst ds)else .bad
def iE(ds:List D)(Ω:aD):ay D:=if small ds.length then .ok (.tup ds) Ω else .bad
theorem zr(h:qr X κ Φ es as):bx X κ Φ (.List es pos) (mN bj as):=by
 intro b d e f i;refine PE.imp (CF (h b d e f i)) ?_;rintro o H Q ⟨j,Z,S,g⟩;refine⟨j,Z,S,pq.use g λp k _ q r l s t m c a=>?_⟩
 unfold bj at a;split at a
 .rename_i n
  exact⟨by rw[c.length];exact bE n,gy m c a⟩
 .exact a.elim
theorem zt{x1}(h:qr X κ Φ es as):bx X κ Φ (.Tuple es x1 pos) (mN iE as):=by
 intro b d e f i;refine PE.imp (CD (h b d e f i)) ?_;rintro o H Q ⟨j,Z,S,g⟩;refine⟨j,Z,S,pq.use g λp k _ q r l s t m c a=>?_⟩
 unfold iE at a;split at a
 .rename_i n
  exact⟨by rw[c.length];exact bE n,iD m c a⟩
 .exact a.elim
def q_(x y:D)(Ω:aD):ay D:=match dJ Ω x,dJ Ω y with
 |some a,some b=>if small (a.length+b.length)then hF Ω (.lst (a++b))else .bad
 |_,_=>.bad
def nI(x y:D)(Ω:aD):ay D:=match x,y with
 |.tup a,.tup b=>if small (a.length+b.length)then .ok (.tup (a++b)) Ω else .bad
 |_,_=>.bad
def aP(op:Operator):D->D->aD->ay D:=match op with
 |.Add=>ef q_ (ef nI (fK (fk .Add)))
 |op=>fK (fk op)
theorem zu{op:Operator}(u:bx X κ Φ a ma)(w:bx X κ Φ b mb):bx X κ Φ (.BinOp a op b pos) (m2 (aP op) ma mb):=by
 have E:bx X κ Φ (.BinOp a op b pos) (m2 (fK (fk op)) ma mb):=di (r:=y_ op) (λD tb m o=>vD (wd op) m o) u w λF G x y I Z J H Q S c f g=>by
  obtain⟨d,e,P,d',R,T,p,k⟩:=gx (bw:=false) S c f g;exact CQ (bw:=false) R T (dw S) p k
 have C:op=.Add->bx X κ Φ (.BinOp a op b pos) (m2 q_ ma mb):=λe=>by
  subst e;refine di (r:=y_ .Add) (λD tb m o=>vD (wd .Add) m o) u w λF G x y I Z J H Q S c f g=>?_
  unfold q_ at g;split at g
  .rename_i L M U V
   obtain⟨l,q,rfl,s,h⟩:=ck S c U;obtain⟨n,t,rfl,Y,N⟩:=ck S f V;split at g
   .rename_i z
    exact .inr (.inr ⟨l,n,q,t,rfl,rfl,s,Y,by rw[h.length,N.length];exact bE z,gy S (h.append N) g⟩)
   .exact g.elim
  .exact g.elim
 have C2:op=.Add->bx X κ Φ (.BinOp a op b pos) (m2 nI ma mb):=λe=>by
  subst e;refine di (r:=λx y H Q=>BE X.K x y H Q\/BL X.K x y H Q) (λD tb m o=>vD (yR.or zm) m o) u w λF G x y I Z J H Q S c f g=>?_
  unfold nI at g;split at g
  .rename_i L M
   simp only[aq]at c f;obtain⟨A,q,rfl,z1,s,i⟩:=c;obtain⟨B,t,rfl,z2,h,j⟩:=f;have i:=br.mp i;have j:=br.mp j;split at g
   .rename_i z
    by_cases O:q=[]
    .subst O
     have p:L=[]:=by have:=i.length;simp at this;exact List.length_eq_zero_iff.mp this.symm
     subst p;refine .inr ⟨A,B,t,rfl,rfl,f_.of s,f_.of h,cg.ret S ?_ g⟩;simp only[aq,List.nil_append];exact⟨B,t,rfl,z2,h,br.mpr j⟩
    .refine .inl ⟨A,B,q,t,rfl,rfl,f_.of s,f_.of h,O,by rw[i.length,j.length];exact bE z,λhy=>?_,λ_=>iD S (i.append j) g⟩
     subst hy;have p:M=[]:=by have:=j.length;simp at this;exact List.length_eq_zero_iff.mp this.symm
     subst p;refine cg.ret S ?_ g;simp only[aq,List.append_nil];exact⟨A,q,rfl,z1,s,br.mpr i⟩
   .exact g.elim
  .exact g.elim
 cases op with
 |Add=>show bx X κ Φ _ (m2 (ef q_ (ef nI (fK (fk .Add)))) ma mb);rw[e_,e_];exact(C rfl).alt ((C2 rfl).alt E)
 |_=>exact E
def wV:D->aD->ay D:=iA λx=>match x with|.int i=>.ok (false,.int (-i))|_=>.bad
theorem zv(c:bx X κ Φ a ma):bx X κ Φ (.UnaryOp .USub a pos) (m1 wV ma):=
 iB (r:=rU λi=>.int (-i)) (λl e=>Fw CA e) c λm x n Z o H Q S f g=>by
  obtain⟨d,h,p,j,b,k⟩:=kJ (bw:=false) S f g;split at b
  .cases bG j
   cases b;exact⟨_,rfl,k _ H _ (eu.refl (dw S)) (.rep (eB rfl))⟩
  .cases b
end
end Mir
namespace Mir
open PySem PySem.Spec PyProof.Rows L2
noncomputable def bK{κ a:Type}[DecidableEq κ](kvs:List (κ×a))(k:κ):Option a:=(kvs.find? λb=>decide (b.1=k)).map (·.2)
def lO(a b:List (Key×D)):Bool:=(a.length==b.length)&&a.all λc=>match bK b c.1 with|some v=>d_ c.2 v|none=>false
def nJ(Z:Addr->Prop)(H:Hp):List (Key×D)->List (Key×V)->Prop:=Paired λd a=>d.1=a.1/\Now Z H d.2 a.2/\aI 8 d.2=true
section
variable{X:Cx}{pins:List (Addr×Obj)}{σ:L2.St}{Z:Addr->Prop}{H:Hp}{s:Shared}{A:Around}{da db:List (Key×D)}{ka kb:List (Key×V)}{va vb:List (Key×Value)}
theorem wW(h:nJ Z H db kb)(k:Key):(∀d,bK db k=some d->∃v,gY kb k=some v/\Now Z H d v/\aI 8 d=true)/\(bK db k=none->gY kb k=none):=by
 unfold nJ at h
 induction h with
 |nil=>exact⟨λd h=>by simp[bK]at h,λ_=>rfl⟩
 |@cons p q db kb b _ c=>
  obtain⟨a,f,g⟩:=b
  by_cases e:p.1=k
  .rw[gp (a▸e)]
   have:bK (p::db) k=some p.2:=by simp[bK,List.find?_cons,e]
   rw[this];exact⟨λd i=>by cases i;exact⟨_,rfl,f,g⟩,λz=>nomatch z⟩
  .rw[gq (λz=>e (a.trans z))]
   have:bK (p::db) k=bK db k:=by simp[bK,List.find?_cons,e]
   rw[this];exact c
theorem keq_hits(I:Inv X pins σ H s)(m:A.units+8<cLine)(n:nJ Z H db kb)(o:KV kb vb)(g:nJ Z H da ka):∀{c:List (Key×Value)},KV ka c->PySem.W.KeqHits A s vb c (da.all λh=>match bK db h.1 with|some v=>d_ h.2 v|none=>false):=by
 unfold nJ at g
 induction g with
 |nil=>intro c e;cases e;exact .nil
 |@cons p q da ka r _ t=>
  intro c e;cases e with
  |@cons _ w _ u x f=>
  obtain⟨z,B,i⟩:=r;obtain⟨C,D⟩:=x;have a:=o.val p.1;have j:=wW n p.1;rw[List.all_cons];obtain⟨E,F⟩:=w;have G:E=p.1:=C.symm.trans z.symm;subst G;cases k:bK db p.1 with
  |none=>
   rw[j.2 k]at a
   have:valueAt vb p.1=none:=by
    cases b:valueAt vb p.1 with
    |none=>rfl
    |some y=>rw[b]at a;cases a
   exact .miss this
  |some d=>
   obtain⟨v,J,K,l⟩:=j.1 d k;rw[J]at a;cases b:valueAt vb p.1 with
   |none=>rw[b]at a;cases a
   |some y=>
    rw[b]at a;have L:RelV v y:=a;exact .hit b (eD I 8 A p.2 d F y m i l (eW I B D i) (eW I K L l)) (t f)
def C9(neg:Bool):R2:=λx y H Q=>∃Z a b e f c d,x=.ref a/\y=.ref b/\Rd H a (.dK e)/\Rd H b (.dK f)/\nJ Z H c e/\nJ Z H d f/\Q (.bl (if neg then !lO c d else lO c d)) H
theorem iF(h:nJ Z H da ka):da.length=ka.length:=Paired.length h
theorem wX(t:X.A.units+64<cLine):fD X (compareOp .Eq) (C9 false):=by
 intro pins s w H x y u v Q I j k h;obtain⟨Z,a,b,z,B,l,m,rfl,rfl,n,o,e,f,q⟩:=h;cases (show u=Value.ref a from j)
 cases (show v=Value.ref b from k)
 obtain⟨_,p,C,g,c⟩:=fj I.hok n;obtain⟨_,r,D,i,d⟩:=fj I.hok o;refine PySem.W.keq_eq p r c d (by omega) (λ_=>keq_hits I (by show X.A.units+1+8<cLine;omega) f i e g) ⟨.bl (lO l m),H,I,?_,q⟩
 show Value.bool _=.bool _
 unfold lO;rw[iF e,iF f,g.length,i.length]
theorem wY(t:X.A.units+64<cLine):fD X (compareOp .NotEq) (C9 true):=by
 intro pins s w H x y u v Q I j k h;obtain⟨Z,a,b,z,B,l,m,rfl,rfl,n,o,e,f,q⟩:=h;cases (show u=Value.ref a from j)
 cases (show v=Value.ref b from k)
 obtain⟨_,p,C,g,c⟩:=fj I.hok n;obtain⟨_,r,D,i,d⟩:=fj I.hok o;refine PySem.W.keq_ne p r c d (by omega) (λ_=>keq_hits I (by show X.A.units+1+8<cLine;omega) f i e g) ⟨.bl (!lO l m),H,I,?_,q⟩
 show Value.bool _=.bool _
 unfold lO;rw[iF e,iF f,g.length,i.length]
end
variable [aJ]
noncomputable def dN{κ b:Type}[DecidableEq κ](kvs:List (κ×b))(k:κ)(v:b):List (κ×b):=
 if (kvs.any λa=>decide (a.1=k))=true then kvs.map (λa=>if a.1=k then (a.1,v)else a)else kvs++[(k,v)]
section
variable{κ:Type}[DecidableEq κ]{R:D->V->Prop}
theorem gb.val{kvs:List (κ×D)}{a:List (κ×V)}(h:gb R kvs a)(k:κ):(∀d,bK kvs k=some d->∃v,gY a k=some v/\R d v)/\(bK kvs k=none->gY a k=none):=by
 unfold gb at h
 induction h with
 |nil=>exact⟨λd e=>(by cases e),λ_=>rfl⟩
 |@cons p q b n r t i=>
  obtain⟨g,j⟩:=r
  by_cases e:p.1=k
  .have c:q.1=k:=g▸e
   have f:bK (p::b) k=some p.2:=by simp[bK,List.find?_cons,e]
   rw[f,gp c];exact⟨λd l=>by cases l;exact⟨_,rfl,j⟩,λm=>by cases m⟩
  .have c:¬ q.1=k:=λz=>e (g.trans z)
   have f:bK (p::b) k=bK b k:=by simp[bK,List.find?_cons,e]
   rw[f,gq c];exact i
theorem gb.any{kvs:List (κ×D)}{a:List (κ×V)}(h:gb R kvs a)(k:κ):(a.any λb=>decide (b.1=k))=kvs.any λb=>decide (b.1=k):=by
 unfold gb at h
 induction h with
 |nil=>rfl
 |@cons p q d e r t c=>rw[List.any_cons,List.any_cons,c,r.1]
theorem gb.put{kvs:List (κ×D)}{a:List (κ×V)}(h:gb R kvs a)(k:κ){d:D}{v:V}(r:R d v):gb R (dN kvs k d) (putK a k v):=by
 unfold dN putK;rw[h.any];split
 .rename_i c
  clear c;unfold gb at h
  induction h with
  |nil=>exact .nil
  |@cons p q g i b t f=>
   rw[List.map_cons,List.map_cons];refine .cons ?_ f
   by_cases e:p.1=k
   .rw[if_pos e,if_pos (b.1▸e)];exact⟨b.1,r⟩
   .rw[if_neg e,if_neg (λz=>e (b.1.trans z))];exact b
 .exact aK.append h (.one ⟨rfl,r⟩)
theorem gb.length{kvs:List (κ×D)}{a:List (κ×V)}(h:gb R kvs a):a.length=kvs.length:=aK.length h
end
noncomputable def nK:D->Option Key
 |.int i=>some (.inl i)
 |.str x=>some (.inr x)
 |_=>none
def wZ:D->Option (List Key)
 |.tup ds=>bz nK ds
 |_=>none
section
variable{X:Cx}{κ:Str->Addr->Prop}{Φ:gv}{α α' ia α1:List Addr}{Z Z' Z0 Z1:Addr->Prop}{Ω ao:aD}{H H' H0 H1:Hp}{ρ:aS}{σ:L2.St}{Q Q':VK}{r:ay D}{a b e:Expr}{es:List Expr}{ma mb mc m:EM}{as:AM}{pos:Pos}
theorem gz{d:D}{k:Key}{v:V}(h:nK d=some k)(r:aq α Z H d v):v=kV k:=by
 cases d with
 |int i=>cases h;simp only[aq]at r;exact r
 |str i=>cases h;simp only[aq]at r;exact r
 |_=>cases h
theorem pv:∀{ds:List D}{a:List Key}{vs:List V},bz nK ds=some a->aK (aq α Z H) ds vs->vs=a.map kV
 |[],a,vs,h,r=>by cases h;rw[r.nil_inv];rfl
 |d::ds,a,vs,h,r=>by
  simp only[bz]at h;split at h
  .rename_i y ys h1 h2
   cases h;obtain⟨v,b,rfl,c,e⟩:=r.cons_inv;rw[gz h1 c,pv h2 e];rfl
  .cases h
theorem mH{d:D}{a:List Key}{v:V}(h:wZ d=some a)(r:aq α Z H d v):∃b,v=.ref b/\H b=some (.tup (a.map kV)):=by
 cases d with
 |tup f=>
  obtain⟨b,g,rfl,_,c,e⟩:=ew r;rw[pv h e]at c;exact⟨b,rfl,c⟩
 |_=>cases h
def rb(Ω:aD)(x y:D):Option (Option D):=match x with
 |.ref k=>match Ω[k]? with
  |some (.dK a)=>(nK y).map (bK a)
  |some (.dT a)=>(wZ y).map (bK a)
  |some (.dF a)=>(nK y).map (bK a)
  |_=>none
 |_=>none
theorem pw{x y:D}{v w:V}{o:Option D}(S:bR κ α Z Ω H)(z:aq α Z H x v)(q:aq α Z H y w)(h:rb Ω x y=some o):∃a r,v=.ref a/\iu H a w r/\(∀d,o=some d->∃u,r=some u/\aq α Z H d u)/\(o=none->r=none):=by
 cases x with
 |ref k=>
  simp only[rb]at h;simp only[aq]at z;obtain⟨a,s,rfl⟩:=z;split at h
  .rename_i g i
   obtain⟨f,j,rfl⟩:=Option.map_eq_some_iff.mp h;obtain⟨A,c,e,l,m⟩:=S.cell i;rw[s]at c;cases c
   obtain rfl:=gz j q;obtain⟨n,p⟩:=m.val f;exact⟨a,_,rfl,iu.k l,n,p⟩
  .rename_i g i
   obtain⟨f,j,rfl⟩:=Option.map_eq_some_iff.mp h;obtain⟨A,c,e,l,m⟩:=S.cell i;rw[s]at c;cases c
   obtain⟨b,rfl,B⟩:=mH j q;obtain⟨n,p⟩:=m.val f;exact⟨a,_,rfl,iu.t l B,n,p⟩
  .rename_i g i
   obtain⟨f,j,rfl⟩:=Option.map_eq_some_iff.mp h;obtain⟨A,c,C,e,l,m⟩:=S.cell i;rw[s]at c;cases c
   obtain rfl:=gz j q;obtain⟨n,p⟩:=m.val f;exact⟨a,_,rfl,.inl ⟨e,f,.inr ⟨C,l⟩,rfl,rfl⟩,n,p⟩
  .cases h
 |_=>cases h
noncomputable def pz(Ω:aD)(x:D):Option (List (Key×D)):=match x with
 |.ref k=>(match Ω[k]? with
  |some (.dK a)=>some a
  |some (.dF a)=>some a
  |_=>none)
 |_=>none
theorem iG{x:D}{v:V}{kvs:List (Key×D)}(S:bR κ α Z Ω H)(r:aq α Z H x v)(h:pz Ω x=some kvs):∃a b,v=.ref a/\Rd H a (.dK b)/\gb (aq α Z H) kvs b:=by
 unfold pz at h;split at h
 .rename_i k
  simp only[aq]at r;obtain⟨a,i,rfl⟩:=r;split at h
  .rename_i d e
   cases h;obtain⟨j,c,b,f,g⟩:=S.cell e;rw[i]at c;cases c
   exact⟨a,b,rfl,.inl f,g⟩
  .rename_i d e
   cases h;obtain⟨j,c,l,b,f,g⟩:=S.cell e;rw[i]at c;cases c
   exact⟨a,b,rfl,.inr ⟨l,f⟩,g⟩
  .cases h
 .cases h
def nL(Ω:aD)(kvs:List (Key×D)):Option (List (Key×D)):=bz (λa=>match eH Ω 7 a.2 with
 |some d=>if aI 8 d=true then some (a.1,d)else none
 |none=>none) kvs
theorem pA{ds kvs:List (Key×D)}{a:List (Key×V)}(S:bR κ α Z Ω H)(h:gb (aq α Z H) kvs a)(e:nL Ω kvs=some ds):nJ (qq α Z) H ds a:=by
 unfold gb at h
 induction h generalizing ds with
 |nil=>cases e;exact .nil
 |@cons p q kvs a i _ j=>
  unfold nL at e;simp only[bz]at e;cases c:eH Ω 7 p.2 with
  |none=>simp[c]at e
  |some d=>
   by_cases f:aI 8 d=true
   .simp only[c,if_pos f]at e
    cases b:nL Ω kvs with
    |none=>unfold nL at b;simp only[b]at e;cases e
    |some k=>
     have g:=j b;unfold nL at b;simp only[b]at e;cases e;exact .cons ⟨i.1,(iy S 7 c i.2).now,f⟩ g
   .simp only[c,if_neg f]at e;cases e
def cC(op:CmpOp):D->D->aD->ay D:=fK λx y=>do let r ←dU op x y;Out.ok (false,D.bl r)
def gg(neg:Bool)(y x:D)(Ω:aD):ay D:=match rb Ω x y with
 |some o=>.ok (.bl (if neg then !o.isSome else o.isSome)) Ω
 |none=>.bad
noncomputable def fb(neg:Bool)(x y:D)(Ω:aD):ay D:=match x,y with
 |.ref _,.non=>.ok (.bl neg) Ω
 |_,_=>.bad
def fv(neg:Bool)(x y:D)(Ω:aD):ay D:=match pz Ω x,pz Ω y with
 |some c,some d=>(match nL Ω c,nL Ω d with
  |some a,some b=>.ok (.bl (if neg then !lO a b else lO a b)) Ω
  |_,_=>.bad)
 |_,_=>.bad
def aw(op:CmpOp):D->D->aD->ay D:=match op with
 |.Eq=>ef (cC .Eq) (fv false)
 |.NotEq=>ef (cC .NotEq) (fv true)
 |.In=>ef (cC .In) (gg false)
 |.NotIn=>ef (cC .NotIn) (gg true)
 |.Is=>ef (fb false) (cC .Is)
 |.IsNot=>ef (fb true) (cC .IsNot)
 |op=>cC op
theorem rd{o:Option D}{a:Option V}{R:D->V->Prop}(b:∀d,o=some d->∃u,a=some u/\R d u)(c:o=none->a=none):a.isSome=o.isSome:=by
 cases o with
 |none=>rw[c rfl];rfl
 |some d=>obtain⟨u,e,_⟩:=b d rfl;rw[e];rfl
theorem fM{f:D->D->aD->ay D}{r:R2}(h:∀G tb,PE X a G->PE X b tb->PT X e (vF (EY r G tb)))(p:bx X κ Φ a ma)(s:bx X κ Φ b mb)(z:∀x y Ω d ao,f x y Ω=.ok d ao->∃t,d=.bl t)
  (P:∀I J x y i Z Ω H Q,bR κ i Z Ω H->aq i Z H I x->aq i Z H J y->cg κ Φ i Z H (f I J Ω) Q->r x y H Q):fL X κ Φ e (m2 f ma mb):=by
 intro c m n j Ω;rcases q:ma j Ω with ⟨d,k⟩|⟨x,k⟩|_
 .refine PT.imp (h _ _ (p c m n j Ω) (s c m n j k)) ?_
  rintro K H Q ⟨i,Z,S,g⟩;refine⟨i,Z,S,?_⟩;simp only[m2,q,ay.bind]at g ⊢;intro v H1 A R L M T;refine⟨A,R,S.grow L M,?_⟩;have g:=oz.from L g
  rcases B:mb j k with ⟨d2,l⟩|⟨x,l⟩|_
  .rw[B]at g
   intro w U C V N Y r2;refine P d d2 v w C V l U _ Y (M.dq N T) r2 ?_;have g:=oz.from N g
   dsimp only[ay.bind]at g;rcases o:f d d2 l with ⟨d3,E⟩|⟨x,E⟩|_
   .rw[o]at g
    obtain⟨t,rfl⟩:=z _ _ _ _ _ o;intro u H3 F Z3 g3 s3 O;simp only[aq]at O;exact⟨t,O,g H3 F Z3 g3 s3⟩
   .rw[o]at g;exact g
   .rw[o]at g;exact g
  .rw[B]at g;exact g
  .rw[B]at g;exact g
 .refine PT.imp (h _ _ (p c m n j Ω) (s c m n j Ω)) ?_
  rintro K H Q ⟨i,Z,S,g⟩;refine⟨i,Z,S,?_⟩;simp only[m2,q,ay.bind,cB]at g ⊢;exact g
 .refine PT.imp (h _ _ (p c m n j Ω) (s c m n j Ω)) ?_
  rintro K H Q ⟨i,Z,S,g⟩;simp only[m2,q,ay.bind,cB]at g;exact g.elim
noncomputable def C_(neg:Bool):R2:=λy x H Q=>∃a o,x=.ref a/\iu H a y o/\Q (.bl (if neg then !o.isSome else o.isSome)) H
theorem w8(b:X.A.units+1<cLine):fD X (compareOp .In) (C_ false):=by
 intro pins s f H x y u v Q I c d h;obtain⟨a,o,rfl,g,q⟩:=h;obtain rfl:v=Value.ref a:=d;exact Lx b I g c λi e=>⟨.bl o.isSome,H,e,rfl,q⟩
theorem mI(b:X.A.units+1<cLine):fD X (compareOp .NotIn) (C_ true):=by
 intro pins s f H x y u v Q I c d h;obtain⟨a,o,rfl,g,q⟩:=h;obtain rfl:v=Value.ref a:=d;exact yU b I g c λi e=>⟨.bl (!o.isSome),H,e,rfl,q⟩
theorem nM{op:CmpOp}{a b:D}{x y:V}(S:bR κ α Z Ω H)(c:aq α Z H a x)(f:aq α Z H b y)(g:cg κ Φ α Z H (cC op a b Ω) Q):wh op x y H Q:=by
 obtain⟨d,e,h,m,i,j,l,k⟩:=gx (bw:=false) S c f g;exact CS (bw:=false) i j (dw S) l k
theorem nN{neg:Bool}{b c:D}{x y:V}(S:bR κ α Z Ω H)(d:aq α Z H b x)(e:aq α Z H c y)(g:cg κ Φ α Z H (gg neg b c Ω) Q):C_ neg x y H Q:=by
 unfold gg at g;split at g
 .rename_i o f
  obtain⟨a,h,rfl,i,j,k⟩:=pw S e d f;refine⟨a,h,rfl,i,?_⟩;rw[rd j k];exact cg.ret S (aT rfl) g
 .exact g.elim
theorem nO{neg:Bool}{op:CmpOp}(h:op=if neg then .IsNot else .Is){c e:D}{x y:V}(S:bR κ α Z Ω H)(f:aq α Z H c x)(b:aq α Z H e y)(g:cg κ Φ α Z H (fb neg c e Ω) Q) :
  (if neg then (y=.non/\Q (.bl (!decide (x=.non))) H)else (y=.non/\Q (.bl (decide (x=.non))) H)):=by
 unfold fb at g;split at g
 .simp only[aq]at f b
  obtain⟨a,_,rfl⟩:=f;have:=cg.ret S (aT (d:=.bl neg) rfl) g;cases neg
  .exact⟨b,this⟩
  .exact⟨b,this⟩
 .exact g.elim
theorem nP{op:CmpOp}:∀x y Ω d ao,cC op x y Ω=.ok d ao->∃t,d=.bl t:=λx y Ω d ao h=>by
 unfold cC fK at h;split at h
 .rename_i a b _ _
  dsimp only at h;cases q:dU op a b with
  |ok t=>
   have e:(do let r ←dU op a b;Out.ok (false,D.bl r))=Out.ok (false,D.bl t):=by rw[q];rfl
   rw[e]at h;simp only[fJ,eV,if_true]at h;cases h;exact⟨_,rfl⟩
  |exc c f=>
   have e:(do let r ←dU op a b;Out.ok (false,D.bl r))=Out.exc c f:=by rw[q];rfl
   rw[e]at h;cases h
  |bad=>
   have e:(do let r ←dU op a b;Out.ok (false,D.bl r))=Out.bad:=by rw[q];rfl
   rw[e]at h;cases h
 .cases h
theorem sS{neg:Bool}:∀x y Ω d ao,gg neg x y Ω=.ok d ao->∃t,d=.bl t:=λx y Ω d ao h=>by
 unfold gg at h;split at h
 .cases h;exact⟨_,rfl⟩
 .cases h
theorem nQ{neg:Bool}{h i:D}{x y:V}(S:bR κ α Z Ω H)(j:aq α Z H h x)(k:aq α Z H i y)(g:cg κ Φ α Z H (fv neg h i Ω) Q):C9 neg x y H Q:=by
 unfold fv at g;split at g
 .rename_i t u l m
  split at g
  .rename_i n o c d
   obtain⟨a,e,rfl,p,q⟩:=iG S j l;obtain⟨b,f,rfl,r,s⟩:=iG S k m;exact⟨qq α Z,a,b,e,f,n,o,rfl,rfl,p,r,pA S q c,pA S s d,cg.ret S (aT rfl) g⟩
  .exact g.elim
 .exact g.elim
theorem sT{neg:Bool}:∀x y Ω d ao,fv neg x y Ω=.ok d ao->∃t,d=.bl t:=λx y Ω d ao h=>by
 unfold fv at h;split at h
 .split at h
  .cases h;exact⟨_,rfl⟩
  .cases h
 .cases h
theorem sU{neg:Bool}:∀x y Ω d ao,fb neg x y Ω=.ok d ao->∃t,d=.bl t:=λx y Ω d ao h=>by
 unfold fb at h;split at h
 .cases h;exact⟨_,rfl⟩
 .cases h
theorem sV{op:CmpOp}(s:X.A.units+64<cLine)(h:behindInMarks op b=false)(i:bx X κ Φ a ma)(j:bx X κ Φ b mb):bx X κ Φ (.Compare a [op] [b] pos) (m2 (aw op) ma mb)/\fL X κ Φ (.Compare a [op] [b] pos) (m2 (aw op) ma mb):=by
 have E:bx X κ Φ (.Compare a [op] [b] pos) (m2 (cC op) ma mb):=di (λk tb c d=>fE (iY s op) c d h) i j λl m x y n Z o H Q S e f g=>nM S e f g
 have T:fL X κ Φ (.Compare a [op] [b] pos) (m2 (cC op) ma mb):=fM (λk tb c d=>fF (iY s op) c d h) i j nP λl m x y n Z o H Q S e f g=>nM S e f g
 have r:X.A.units+1<cLine:=by omega
 cases op with
 |In=>
  have p:bx X κ Φ (.Compare a [.In] [b] pos) (m2 (gg false) ma mb):=di (λk tb c d=>fE (w8 r) c d h) i j λl m x y n Z o H Q S e f g=>nN S e f g
  have q:fL X κ Φ (.Compare a [.In] [b] pos) (m2 (gg false) ma mb):=fM (λk tb c d=>fF (w8 r) c d h) i j sS λl m x y n Z o H Q S e f g=>nN S e f g
  show bx X κ Φ _ (m2 (ef (cC .In) (gg false)) ma mb)/\fL X κ Φ _ (m2 (ef (cC .In) (gg false)) ma mb)
  rw[e_];exact⟨E.alt p,T.alt q⟩
 |NotIn=>
  have p:bx X κ Φ (.Compare a [.NotIn] [b] pos) (m2 (gg true) ma mb):=di (λk tb c d=>fE (mI r) c d h) i j λl m x y n Z o H Q S e f g=>nN S e f g
  have q:fL X κ Φ (.Compare a [.NotIn] [b] pos) (m2 (gg true) ma mb):=fM (λk tb c d=>fF (mI r) c d h) i j sS λl m x y n Z o H Q S e f g=>nN S e f g
  show bx X κ Φ _ (m2 (ef (cC .NotIn) (gg true)) ma mb)/\fL X κ Φ _ (m2 (ef (cC .NotIn) (gg true)) ma mb)
  rw[e_];exact⟨E.alt p,T.alt q⟩
 |Is=>
  have p:bx X κ Φ (.Compare a [.Is] [b] pos) (m2 (fb false) ma mb):=di (λk tb c d=>fE vE c d h) i j λl m x y n Z o H Q S e f g=>nO (neg:=false) (op:=.Is) rfl S e f g
  have q:fL X κ Φ (.Compare a [.Is] [b] pos) (m2 (fb false) ma mb):=fM (λk tb c d=>fF vE c d h) i j sU λl m x y n Z o H Q S e f g=>nO (neg:=false) (op:=.Is) rfl S e f g
  show bx X κ Φ _ (m2 (ef (fb false) (cC .Is)) ma mb)/\fL X κ Φ _ (m2 (ef (fb false) (cC .Is)) ma mb)
  rw[e_];exact⟨p.alt E,q.alt T⟩
 |IsNot=>
  have p:bx X κ Φ (.Compare a [.IsNot] [b] pos) (m2 (fb true) ma mb):=di (λk tb c d=>fE sd c d h) i j λl m x y n Z o H Q S e f g=>nO (neg:=true) (op:=.IsNot) rfl S e f g
  have q:fL X κ Φ (.Compare a [.IsNot] [b] pos) (m2 (fb true) ma mb):=fM (λk tb c d=>fF sd c d h) i j sU λl m x y n Z o H Q S e f g=>nO (neg:=true) (op:=.IsNot) rfl S e f g
  show bx X κ Φ _ (m2 (ef (fb true) (cC .IsNot)) ma mb)/\fL X κ Φ _ (m2 (ef (fb true) (cC .IsNot)) ma mb)
  rw[e_];exact⟨p.alt E,q.alt T⟩
 |Eq=>
  have p:bx X κ Φ (.Compare a [.Eq] [b] pos) (m2 (fv false) ma mb):=di (λk tb c d=>fE (wX s) c d h) i j λl m x y n Z o H Q S e f g=>nQ S e f g
  have q:fL X κ Φ (.Compare a [.Eq] [b] pos) (m2 (fv false) ma mb):=fM (λk tb c d=>fF (wX s) c d h) i j sT λl m x y n Z o H Q S e f g=>nQ S e f g
  show bx X κ Φ _ (m2 (ef (cC .Eq) (fv false)) ma mb)/\fL X κ Φ _ (m2 (ef (cC .Eq) (fv false)) ma mb)
  rw[e_];exact⟨E.alt p,T.alt q⟩
 |NotEq=>
  have p:bx X κ Φ (.Compare a [.NotEq] [b] pos) (m2 (fv true) ma mb):=di (λk tb c d=>fE (wY s) c d h) i j λl m x y n Z o H Q S e f g=>nQ S e f g
  have q:fL X κ Φ (.Compare a [.NotEq] [b] pos) (m2 (fv true) ma mb):=fM (λk tb c d=>fF (wY s) c d h) i j sT λl m x y n Z o H Q S e f g=>nQ S e f g
  show bx X κ Φ _ (m2 (ef (cC .NotEq) (fv true)) ma mb)/\fL X κ Φ _ (m2 (ef (cC .NotEq) (fv true)) ma mb)
  rw[e_];exact⟨E.alt p,T.alt q⟩
 |Lt=>exact⟨E,T⟩
 |LtE=>exact⟨E,T⟩
 |Gt=>exact⟨E,T⟩
 |GtE=>exact⟨E,T⟩
def eK(Ω:aD)(x:D):Option (List D):=match x with
 |.tup a=>some a
 |x=>dJ Ω x
def zw(x y:D)(Ω:aD):ay D:=match eK Ω x,y with
 |some a,.int i=>match L2.jD a i with
  |some d=>.ok d Ω
  |none=>.bad
 |_,_=>.bad
def zx(x y:D)(Ω:aD):ay D:=match rb Ω x y with
 |some (some d)=>.ok d Ω
 |_=>.bad
def az:D->D->aD->ay D:=ef zw (ef zx (fK qM))
theorem kK{x:D}{v:V}{ds:List D}{K:PySem.W.Frag}(S:bR κ α Z Ω H)(r:aq α Z H x v)(h:eK Ω x=some ds):∃a vs,v=.ref a/\(jK K H a vs\/f_ K H a vs)/\aK (aq α Z H) ds vs:=by
 unfold eK at h;split at h
 .cases h
  obtain⟨a,vs,rfl,_,b,c⟩:=ew r;exact⟨a,vs,rfl,.inr (uv (.inl b)),c⟩
 .obtain⟨a,vs,rfl,b,c⟩:=ck S r h
  exact⟨a,vs,rfl,.inl (jQ b),c⟩
theorem zy{ds:List D}{vs:List V}{R:D->V->Prop}{i:Int}{d:D}(r:aK R ds vs)(h:L2.jD ds i=some d):∃v,L2.jD vs i=some v/\R d v:=by
 unfold L2.jD at h ⊢;rw[r.length];cases q:L2.vQ ds.length i with
 |none=>rw[q]at h;cases h
 |some n=>rw[q]at h;exact r.get h
theorem zz(G:X.A.units+1<cLine)(l:sm b)(m:bx X κ Φ a ma)(n:bx X κ Φ b mb):bx X κ Φ (.Subscript a b pos) (m2 az ma mb):=by
 unfold az;rw[e_,e_];refine bx.alt ?_ (bx.alt ?_ ?_)
 .refine di (r:=Jx X.K) (λt tb f h=>BF vR f h l) m n λw z x y B Z C H Q S j c g=>?_
  unfold zw at g;split at g
  .rename_i N i o
   obtain⟨p,D,rfl,h2,q⟩:=kK (K:=X.K) S j o;simp only[aq]at c;subst c;split at g
   .rename_i d s
    obtain⟨v,E,F⟩:=zy q s;rcases h2 with h2|h2
    .exact .inl ⟨p,D,i,v,rfl,rfl,h2,E,cg.ret S F g⟩
    .exact .inr (.inl ⟨p,D,i,v,rfl,rfl,h2,E,cg.ret S F g⟩)
   .exact g.elim
  .exact g.elim
 .refine di (r:=λx y H Q=>∃a v,x=.ref a/\iu H a y (some v)/\Q v H) (λt tb f h=>yW G f h l) m n λw z x y B Z C H Q S j c g=>?_
  unfold zx at g;split at g
  .rename_i d s
   obtain⟨a,O,rfl,o,h2,_⟩:=pw S j c s;obtain⟨u,rfl,q⟩:=h2 d rfl;exact⟨a,u,rfl,o,cg.ret S q g⟩
  .exact g.elim
 .refine di (r:=Jx X.K) (λt tb f h=>BF vR f h l) m n λw z x y B Z C H Q S j c g=>?_
  obtain⟨d,e,I,P,J,L,M,k⟩:=gx (bw:=false) S j c g;exact CU (bw:=false) J L (dw S) M k
def gC(n:Bool)(m:EM):aS->aD->ay (Option Int):=λc b=>if n=true then .ok none b else (m c b).bind λd a=>match d with
 |.int i=>.ok (some i) a
 |_=>.bad
def jH(x:D)(a b:Option Int)(Ω:aD):ay D:=match x,dJ Ω x with
 |_,some c=>hF Ω (.lst (de c a b))
 |.str z,none=>fJ Ω (wb (.str z) a b)
 |.tup c,none=>.ok (.tup (de c a b)) Ω
 |_,_=>.bad
def cz(e:EM)(f:Bool)(g:EM)(i:Bool)(j:EM):EM:=λa k=>(e a k).bind λx b=>(gC f g a b).bind λl c=>(gC i j a c).bind λh d=>jH x l h d
def JA(X:Cx)(κ:Str->Addr->Prop)(Φ:gv)(o:Option Expr)(n:Bool)(m:EM):Prop:=(o=none/\n=true)\/∃e,o=some e/\n=false/\bx X κ Φ e m
theorem eg{o:Option Expr}{n:Bool}(h:JA X κ Φ o n m)(g:List Addr)(r:Addr->Prop)(s:Hp)(ρ:aS)(Ω:aD):∃t,PO X o t/\∀j H b Z Q,cU κ g r s b Z Ω ρ j H ->
  (match gC n m ρ Ω with
   |.ok l aM=>∀c a f,cH b Z H a f c->bR κ a f aM c->Q l c
   |.exc x aM=>∀c a f,cH b Z H a f c->bR κ a f aM c->Φ x aM a f c
   |.bad=>False)->t j H Q:=by
 rcases h with ⟨rfl,rfl⟩|⟨e,rfl,rfl,w⟩
 .refine⟨sj,yO,λj H b Z Q S k=>?_⟩
  exact k H b Z (cH.refl S.st.has) S.st
 .refine⟨_,yP (w g r s ρ Ω),λj H b Z Q S k=>⟨b,Z,S,?_⟩⟩
  simp only[gC,Bool.false_eq_true,if_false]at k;rcases q:m ρ Ω with ⟨d,aM⟩|⟨x,aM⟩|_
  .rw[q]at k
   intro v y p z A B u;cases d with
   |int i=>simp only[aq]at u;exact⟨i,u,k y p z A B⟩
   |_=>exact k.elim
  .rw[q]at k;exact k
  .rw[q]at k;exact k
theorem sW{ds:List D}{vs:List V}{R:D->V->Prop}(h:aK R ds vs)(a b:Option Int):aK R (de ds a b) (oO vs a b):=by
 unfold de oO;rw[h.length];exact(h.drop _).take _
theorem uD{ds:List D}{n:Nat}{l h:Option Int}(a:n=ds.length)(b:HT.cG n 0 l=0)(c:HT.cG n n h=n):de ds l h=ds:=by
 subst a;unfold de;rw[b,c,List.drop_zero,Nat.sub_zero,List.take_length]
def w9(K:PySem.W.Frag):V->Option Int->Option Int->Hp->VK->Prop:=λx a b H Q=>RI K x a b H Q\/(FH K x a b H Q\/Gg K x a b H Q)
theorem zA{lo hi:Option Expr}{T U:Bool}{V Y:EM}{p2:Pos}(B:bx X κ Φ a ma)(hl:JA X κ Φ lo T V)(C:JA X κ Φ hi U Y):bx X κ Φ (.Subscript a (.Slice lo hi none p2) pos) (cz ma T V U Y):=by
 intro b e f c j;rcases q:ma c j with ⟨d,i⟩|⟨x,i⟩|_
 .obtain⟨tl,o,M⟩:=eg hl b e f c i
  rcases D:gC T V c i with ⟨l,s⟩|⟨x,s⟩|_
  .obtain⟨N,m,E⟩:=eg C b e f c s
   refine PE.imp (gn (r:=w9 X.K) ((ir.or kB).or (kn.or ix)) (B b e f c j) o m) ?_;rintro t H Q ⟨u,Z,S,g⟩;refine⟨u,Z,S,?_⟩;simp only[cz,q,D,ay.bind]at g ⊢;intro v H1 w Z1 F O r1;have g:=cg.from F g
   have S1:=S.grow F O;refine M t H1 w Z1 _ S1 ?_;rw[D];intro H2 y Z2 G P;have g:=cg.from G g
   have S2:=S1.grow G P;refine E t H2 y Z2 _ S2 ?_;rcases q3:gC U Y c s with ⟨h,a0⟩|⟨x,a0⟩|_
   .rw[q3]at g
    intro H3 b0 Z3 g3 A;have g:=cg.from g3 g
    have I:=P.dq g3 (O.dq G r1);dsimp only[ay.bind]at g;unfold jH at g;split at g
    .rename_i ds hd
     obtain⟨p,n,rfl,J,z⟩:=ck A I hd;exact .inl (.inl ⟨p,n,rfl,jQ J,gy A (sW z l h) g⟩)
    ·
     simp only[aq]at I;subst I;obtain⟨c0,d,R,k⟩:=iz (bw:=false) A g;simp only[wb]at R;split at R
     .rename_i hs
      cases R;exact .inl (.inr ⟨_,rfl,bE hs,k _ H3 _ _ (eu.refl A.dom) (.rep (eB rfl))⟩)
     .cases R
    .simp only[aq]at I
     obtain⟨p,n,rfl,z1,J,z⟩:=I;have z:=br.mp z
     by_cases L:HT.cG n.length 0 l=0/\HT.cG n.length n.length h=n.length
     .refine .inr (.inr ⟨p,n,rfl,f_.of J,L.1,L.2,cg.ret A ?_ g⟩)
      rw[uD z.length L.1 L.2];simp only[aq];exact⟨p,n,rfl,z1,J,br.mpr z⟩
     .exact .inr (.inl ⟨p,n,rfl,f_.of J,L,iD A (sW z l h) g⟩)
    .exact g.elim
   .rw[q3]at g;exact g
   .rw[q3]at g;exact g
  .obtain⟨N,m,E⟩:=eg C b e f c i
   refine PE.imp (gn (r:=w9 X.K) ((ir.or kB).or (kn.or ix)) (B b e f c j) o m) ?_;rintro t H Q ⟨u,Z,S,g⟩;refine⟨u,Z,S,?_⟩;simp only[cz,q,D,ay.bind]at g ⊢;intro v H1 w Z1 F O r1;refine M t H1 w Z1 _ (S.grow F O) ?_;rw[D];intro H2 y Z2 G P;exact g H2 y Z2 (F.trans G) P
  .obtain⟨N,m,E⟩:=eg C b e f c i
   refine PE.imp (gn (r:=w9 X.K) ((ir.or kB).or (kn.or ix)) (B b e f c j) o m) ?_;rintro t H Q ⟨u,Z,S,g⟩;simp only[cz,q,D,ay.bind]at g;exact g.elim
 .obtain⟨tl,o,M⟩:=eg hl b e f c j
  obtain⟨N,m,E⟩:=eg C b e f c j;refine PE.imp (gn (r:=w9 X.K) ((ir.or kB).or (kn.or ix)) (B b e f c j) o m) ?_;rintro t H Q ⟨u,Z,S,g⟩;refine⟨u,Z,S,?_⟩;simp only[cz,q,ay.bind]at g ⊢;exact g
 .obtain⟨tl,o,M⟩:=eg hl b e f c j
  obtain⟨N,m,E⟩:=eg C b e f c j;refine PE.imp (gn (r:=w9 X.K) ((ir.or kB).or (kn.or ix)) (B b e f c j) o m) ?_;rintro t H Q ⟨u,Z,S,g⟩;simp only[cz,q,ay.bind]at g;exact g.elim
end
theorem PE.ex{X:Cx}{e:Expr}{b:Type}{t:b->TE}(h:∀i,PE X e (t i)):PE X e (λa H Q=>∃i,t i a H Q):=λpins s a H Q I ⟨i,q⟩=>h i pins s a H Q I q
theorem PT.ex{X:Cx}{e:Expr}{b:Type}{t:b->TT}(h:∀i,PT X e (t i)):PT X e (λa H Q=>∃i,t i a H Q):=λpins s a H Q I ⟨i,q⟩=>h i pins s a H Q I q
theorem PW.ex{X:Cx}{e:Expr}{b:Type}{t:b->TT}(h:∀i,PW X e (t i)):PW X e (λa H Q=>∃i,t i a H Q):=λc pins s a H Q I ⟨i,q⟩=>h i c pins s a H Q I q
theorem PA.ex{X:Cx}{es:List Expr}{c:Type}{t:c->TA}(h:∀i,PA X es (t i)):PA X es (λa H Q=>∃i,t i a H Q):=λb pins s a H Q I ⟨i,q⟩=>h i b pins s a H Q I q
def eL(c d:EM):EM:=λb e=>(c b e).bind λx a=>match gf a x with
 |some true=>d b a
 |some false=>.ok x a
 |none=>.bad
def jR(c d:EM):EM:=λb e=>(c b e).bind λx a=>match gf a x with
 |some false=>d b a
 |some true=>.ok x a
 |none=>.bad
def dr(b:EM):EM:=λc d=>(cB (b c d)).bind λt a=>.ok (.bl (!t)) a
def vo(mc c d:EM):EM:=λb e=>(cB (mc b e)).bind λt a=>if t=true then c b a else d b a
section
variable{X:Cx}{κ:Str->Addr->Prop}{Φ:gv}{α α' ia α1:List Addr}{Z Z' Z0 Z1:Addr->Prop}{Ω ao:aD}{H H' H0 H1:Hp}{ρ:aS}{σ:L2.St}{Q Q':VK}{r:ay D}{a b e ce:Expr}{rest:List Expr}{es:List Expr}{ma mb mc m:EM}{as:AM}{pos p:Pos}
theorem gD{d:D}{v:V}{t:Bool}{K:PySem.W.Frag}(S:bR κ α Z Ω H)(r:aq α Z H d v)(h:gf Ω d=some t):oG K v H t:=by
 cases d with
 |non=>simp only[aq]at r;subst r;cases h;rfl
 |bl b=>simp only[aq]at r;subst r;cases h;rfl
 |int b=>simp only[aq]at r;subst r;cases h;rfl
 |str b=>
  simp only[aq]at r;subst r
  have n:Now Z H (.str b) (.str b):=by simp only[Now,Rep]
  exact CT n h
 |lst ds=>
  cases h;obtain⟨a,c,rfl,f,g⟩:=ck (ds:=ds) S r rfl;refine .inl ⟨c,jQ f,?_⟩;have:=g.length;cases ds<;>cases c<;>simp at this ⊢
 |tup ds=>
  cases h;obtain⟨a,c,rfl,_,f,g⟩:=ew r;refine .inr (.inl ⟨c,uv (.inl f),?_⟩);have:=g.length;cases ds<;>cases c<;>simp at this ⊢
 |dct _ _=>cases h
 |ref k=>
  simp only[gf]at h;split at h
  .rename_i ds j
   cases h;obtain⟨a,c,rfl,f,g⟩:=ck (ds:=ds) S r (by simp only[dJ,j])
   refine .inl ⟨c,jQ f,?_⟩;have:=g.length;cases ds<;>cases c<;>simp at this ⊢
  .rename_i l j
   cases h;simp only[aq]at r;obtain⟨a,m,rfl⟩:=r;obtain⟨o,i,e,f,g⟩:=S.cell j;rw[m]at i;cases i
   refine .inr (.inr ⟨e,f,?_⟩);have:=g.length;cases l<;>cases e<;>simp at this ⊢
  .cases h
theorem oz.use{r:ay Bool}{f:Bool->aD->ay D}{Q':Bool->Hp->Prop}(h:cg κ Φ α Z H (r.bind f) Q)(k:∀t aM,r=.ok t aM->∀b a c,cH α Z H a c b->bR κ a c aM b->cg κ Φ a c b (f t aM) Q->Q' t b):oz κ Φ α Z H r Q':=by
 cases r with
 |ok d aM=>exact λb a c g s=>k d aM rfl b a c g s (cg.from g h)
 |exc x aM=>exact h
 |bad=>exact h
theorem oz.P_{Q:Bool->Hp->Prop}{K:PySem.W.Frag}(h:oz κ Φ α Z H (cB r) Q):cg κ Φ α Z H r (λv a=>∃t,oG K v a t/\Q t a):=by
 cases r with
 |ok d b=>
  intro v a c e g s q;simp only[cB]at h;split at h
  .rename_i t f
   exact⟨t,gD s q f,h a c e g s⟩
  .exact h.elim
 |exc x b=>exact h
 |bad=>exact h.elim
theorem zB(h:bx X κ Φ e m)(c:∀a,isTrue e X.env a=(do let v ←a;standAt e.pos;holding [v] (truthy v))):fL X κ Φ e m:=by
 intro b d f i j;refine PT.imp (vI (h b d f i j) c) ?_;rintro l H Q ⟨k,Z,S,g⟩;exact⟨k,Z,S,g.P_⟩
theorem zC(n:bx X κ Φ a ma)(o:bx X κ Φ (.BoolOp .And (b::rest) pos) mb):bx X κ Φ (.BoolOp .And (a::b::rest) pos) (eL ma mb):=by
 intro d k l m p;refine PE.imp (zi (n d k l m p) (PE.ex λc=>o d k l m c)) ?_
 rintro t H Q ⟨q,Z,S,g⟩;refine⟨q,Z,S,cg.use g λx c _ v u h r s e i f=>?_⟩
 split at f
 .rename_i j
  exact⟨true,gD e i j,oX ⟨c,h,r,S.grow s e,f⟩⟩
 .rename_i j
  exact⟨false,gD e i j,oW (cg.ret e i f)⟩
 .exact f.elim
theorem Dc(n:bx X κ Φ a ma)(o:bx X κ Φ (.BoolOp .Or (b::rest) pos) mb):bx X κ Φ (.BoolOp .Or (a::b::rest) pos) (jR ma mb):=by
 intro d k l m p;refine PE.imp (CV (n d k l m p) (PE.ex λc=>o d k l m c)) ?_
 rintro t H Q ⟨q,Z,S,g⟩;refine⟨q,Z,S,cg.use g λx c _ v u h r s e i f=>?_⟩
 split at f
 .rename_i j
  exact⟨false,gD e i j,oW ⟨c,h,r,S.grow s e,f⟩⟩
 .rename_i j
  exact⟨true,gD e i j,oX (cg.ret e i f)⟩
 .exact f.elim
theorem uE{op:BoolOp}(c:bx X κ Φ a ma):bx X κ Φ (.BoolOp op [a] pos) ma:=λb d e f g=>Cj (c b d e f g)
theorem zD(d:bx X κ Φ a ma):bx X κ Φ (.UnaryOp .Not a pos) (dr ma):=by
 intro b e f h i;refine PE.imp (zj (d b e f h i)) ?_;rintro o H Q ⟨j,Z,S,g⟩;refine⟨j,Z,S,?_⟩;have:=oz.use (Q':=λt c=>Q (.bl (!t)) c) g λt k _ c l p q m n=>cg.ret m (aT rfl) n
 exact this.P_
theorem zE(h:fL X κ Φ a ma):fL X κ Φ (.UnaryOp .Not a pos) (dr ma):=by
 intro b i j e f;refine PT.imp (Ci (h b i j e f)) ?_;rintro p H Q ⟨k,Z,S,g⟩;refine⟨k,Z,S,?_⟩;simp only[dr]at g;cases q:cB (ma e f)with
 |ok t c=>rw[q]at g;exact λl d m n o=>g l d m n o
 |exc x c=>rw[q]at g;exact g
 |bad=>rw[q]at g;exact g
def BN(X:Cx)(κ:Str->Addr->Prop)(Φ:gv)(e:Expr)(m:EM):Prop:=∀a b c d f,PW X e (LC κ Φ a b c m d f)
theorem BN.pt(h:BN X κ Φ e m):fL X κ Φ e m:=λa b c d f=>(h a b c d f).pt
theorem zF{op:BoolOp}(c:fL X κ Φ a ma):BN X κ Φ (.BoolOp op [a] pos) ma:=λb d e f g=>by
 cases op with
 |And=>exact pw_and1 (c b d e f g)
 |Or=>exact pw_or1 (c b d e f g)
theorem zG(p:fL X κ Φ a ma)(r:BN X κ Φ (.BoolOp .And (b::rest) pos) mb):BN X κ Φ (.BoolOp .And (a::b::rest) pos) (eL ma mb):=by
 intro e l m i n;refine PW.imp (pw_and (p e l m i n) (PW.ex λc=>r e l m i c)) ?_
 rintro t H Q ⟨s,Z,S,g⟩;refine⟨s,Z,S,?_⟩;simp only[eL]at g;cases q:ma i n with
 |ok x c=>
  rw[q]at g;dsimp only[ay.bind]at g;simp only[cB];split at g
  .rename_i f
   rw[f];exact λo d j h k=>oX ⟨c,d,j,S.grow h k,oz.from h g⟩
  .rename_i f
   rw[f];simp only[cB,f]at g;exact λo d j h k=>oW (g o d j h k)
  .exact g.elim
 |exc x c=>rw[q]at g;exact g
 |bad=>rw[q]at g;exact g.elim
theorem De(p:fL X κ Φ a ma)(r:BN X κ Φ (.BoolOp .Or (b::rest) pos) mb):BN X κ Φ (.BoolOp .Or (a::b::rest) pos) (jR ma mb):=by
 intro e l m i n;refine PW.imp (pw_or (p e l m i n) (PW.ex λc=>r e l m i c)) ?_
 rintro t H Q ⟨s,Z,S,g⟩;refine⟨s,Z,S,?_⟩;simp only[jR]at g;cases q:ma i n with
 |ok x c=>
  rw[q]at g;dsimp only[ay.bind]at g;simp only[cB];split at g
  .rename_i f
   rw[f];exact λo d j h k=>oW ⟨c,d,j,S.grow h k,oz.from h g⟩
  .rename_i f
   rw[f];simp only[cB,f]at g;exact λo d j h k=>oX (g o d j h k)
  .exact g.elim
 |exc x c=>rw[q]at g;exact g
 |bad=>rw[q]at g;exact g.elim
theorem zH(n:fL X κ Φ ce mc)(o:bx X κ Φ a ma)(p:bx X κ Φ b mb):bx X κ Φ (.IfExp ce a b pos) (vo mc ma mb):=by
 intro d h i j q;refine PE.imp (vx (n d h i j q) (PE.ex λc=>o d h i j c) (PE.ex λc=>p d h i j c)) ?_
 rintro s H Q ⟨r,Z,S,g⟩;refine⟨r,Z,S,oz.use g λt c _ u e k l m f=>?_⟩
 cases t with
 |true=>rw[if_pos rfl]at f;exact oX ⟨c,e,k,S.grow l m,f⟩
 |false=>rw[if_neg Bool.false_ne_true]at f;exact oW ⟨c,e,k,S.grow l m,f⟩
theorem zI(r:fL X κ Φ ce mc)(u:fL X κ Φ a ma)(w:fL X κ Φ b mb):fL X κ Φ (.IfExp ce a b pos) (vo mc ma mb):=by
 intro e j k f n pins s l H Q I;rintro⟨y,Z,S,g⟩;simp only[vo]at g
 have o:LC κ Φ e j k mc f n l H (λt i=>∃c d h,cU κ e j k d h c f l i/\oz κ Φ d h i (cB (if t=true then ma f c else mb f c)) Q):=by
  refine⟨y,Z,S,?_⟩;cases q:cB (mc f n)with
  |ok t c=>
   rw[q]at g;exact λi d h p m=>⟨c,d,h,S.grow p m,oz.from p g⟩
  |exc x c=>rw[q]at g;exact g
  |bad=>rw[q]at g;exact g.elim
 refine isTrue_IfExp (cD (r e j k f n pins s l H _ I o) λv m ⟨i,I1,c,d,h,S1,k1⟩=>?_)
 cases v with
 |true=>rw[if_pos rfl]at k1;exact u e j k f c pins m l i Q I1 ⟨d,h,S1,k1⟩
 |false=>rw[if_neg Bool.false_ne_true]at k1;exact w e j k f c pins m l i Q I1 ⟨d,h,S1,k1⟩
def jI(op b:CmpOp)(g h mc:EM):EM:=λc i=>(g c i).bind λx d=>(h c d).bind λy e=>(cB (cC op x y e)).bind λt a=>if t=true then (mc c a).bind λz f=>cC b y z f else .ok (.bl false) a
theorem w_{op b:CmpOp}(S:cU κ ia Z0 H0 α Z Ω ρ f H)(g:cg κ Φ α Z H (jI op b ma mb mc ρ Ω) Q) :
  qy (wh op) (wh b) (tO κ Φ ia Z0 H0 ma ρ Ω) (λf H Q=>∃aM,tO κ Φ ia Z0 H0 mb ρ aM f H Q) (λf H Q=>∃aM,tO κ Φ ia Z0 H0 mc ρ aM f H Q) f H Q:=by
 refine⟨α,Z,S,cg.use g λx aM _ v P i C r j D E=>?_⟩
 refine⟨aM,i,C,S.grow r j,cg.use E λy k _ w F l G s m A c=>?_⟩
 have I:=(S.grow r j).grow s m;refine nM (op:=op) (κ:=κ) (Φ:=Φ) m (j.dq s D) A ?_;cases q:cC op x y k with
 |ok d a=>
  obtain⟨t,rfl⟩:=nP _ _ _ _ _ q;intro u R n J o p B;simp only[aq]at B;refine⟨t,B,?_⟩;rw[q]at c;have e:cg κ Φ l G F (if t=true then (mc ρ a).bind λz h=>cC b y z h else .ok (.bl false) a) Q:=c
  have e:=cg.from o e
  cases t with
  |true=>
   rw[if_pos rfl]at e ⊢;refine⟨a,n,J,I.grow o p,cg.use e λz h _ T U K V L M N O=>?_⟩
   exact nM M (p.dq L (m.dq o A)) N O
  |false=>
   rw[if_neg Bool.false_ne_true]at e ⊢;exact cg.ret p (aT rfl) e
 |exc x a=>rw[q]at c;exact c
 |bad=>rw[q]at c;exact c
theorem zJ{op c:CmpOp}(j:X.A.units+64<cLine)(k:lastMarks [op,c] [b,ce]=false)(l:bx X κ Φ a ma)(m:bx X κ Φ b mb)(n:bx X κ Φ ce mc):bx X κ Φ (.Compare a [op,c] [b,ce] pos) (jI op c ma mb mc):=by
 intro d f h i o;refine PE.imp (vG (iY j op) (iY j c) (l d f h i o) (PE.ex λe=>m d f h i e) (PE.ex λe=>n d f h i e) k) ?_
 rintro p H Q ⟨q,Z,S,g⟩;exact w_ S g
theorem Df{op a:CmpOp}{d:D}{ao:aD}(h:jI op a ma mb mc ρ Ω=.ok d ao):∃t,d=.bl t:=by
 simp only[jI]at h;cases b:ma ρ Ω with
 |ok x c=>
  rw[b]at h;dsimp only[ay.bind]at h
  cases e:mb ρ c with
  |ok y f=>
   rw[e]at h;dsimp only[ay.bind]at h
   cases g:cB (cC op x y f)with
   |ok t i=>
    rw[g]at h;dsimp only[ay.bind]at h
    split at h
    .cases j:mc ρ i with
     |ok z k=>rw[j]at h;exact nP _ _ _ _ _ h
     |exc _ _=>rw[j]at h;cases h
     |bad=>rw[j]at h;cases h
    .cases h;exact⟨_,rfl⟩
   |exc _ _=>rw[g]at h;cases h
   |bad=>rw[g]at h;cases h
  |exc _ _=>rw[e]at h;cases h
  |bad=>rw[e]at h;cases h
 |exc _ _=>rw[b]at h;cases h
 |bad=>rw[b]at h;cases h
theorem zK{op c:CmpOp}(l:X.A.units+64<cLine)(o:lastMarks [op,c] [b,ce]=false)(p:bx X κ Φ a ma)(r:bx X κ Φ b mb)(s:bx X κ Φ ce mc):fL X κ Φ (.Compare a [op,c] [b,ce] pos) (jI op c ma mb mc):=by
 intro f i j h m;refine PT.imp (vH (iY l op) (iY l c) (p f i j h m) (PE.ex λe=>r f i j h e) (PE.ex λe=>s f i j h e) o) ?_
 rintro B H Q ⟨C,Z,S,g⟩;refine w_ S ?_;cases q:jI op c ma mb mc h m with
 |ok d e=>
  obtain⟨t,rfl⟩:=Df q;rw[q]at g;intro v u k w y z n;simp only[aq]at n;exact⟨t,n,g u k w y z⟩
 |exc x e=>rw[q]at g;exact g
 |bad=>rw[q]at g;exact g.elim
def bP(f:List D->Out Rs):List D->aD->ay D:=λb a=>match bz (eH a 8) b with
 |some c=>fJ a (f c)
 |none=>.bad
theorem iH{bw:Bool}{f:List D->Out Rs}{xs:List D}{vs:List V}(S:bR κ α Z Ω H)(i:aK (aq α Z H) xs vs)(h:cg κ Φ α Z H (bP f xs Ω) Q) :
  ∃ds a d',aY (qq α Z) H ds vs/\f ds=.ok (a,d')/\∀v b c,eu (qq α Z) H c b->ec bw a c H b d' v->Q v b:=by
 unfold bP at h;split at h
 .rename_i ds j
  obtain⟨a,d',e,k⟩:=iz (bw:=bw) S h;exact⟨ds,a,d',gw (eI (S:=Rep (qq α Z) H) (λd d' v q r=>iy S 8 q r) j i),e,λv b c g q=>k v b _ c g q⟩
 .exact h.elim
theorem uF{k:Nat}{x:Str}{F:List D->Out Rs}(F0:FZ X k x F)(j:cL k X.A)(l:Gl X x)(a:(x==("__debug__":Str))=false)
  (m:starEach (e::es) X.env=(false,eval e X.env)::starEach es X.env) (b:(backTo pos (starEach es X.env)).any (·.1)=false) (n:qr X κ Φ (e::es) as) :
  bx X κ Φ (.Call (.Name x p) (e::es) [] pos) (mN (bP F) as):=by
 obtain⟨f,O,P,o,q,r,F1⟩:=F0.ex;intro c s t u w;refine PE.imp (sg F1 j l o q r .nil kq (n c s t u w) a m b) ?_;rintro R H Q ⟨y,Z,S,g⟩;refine⟨y,Z,S,pq.use g λT z _ B C d E U i G I=>?_⟩
 show kC F (B++[]) C Q E0
 rw[List.append_nil];obtain⟨J,h,K,L,M,N⟩:=iH (bw:=false) i G I;exact⟨qq d E,J,h,K,dw i,L,M,N⟩
end
end Mir
namespace L2
open PySem PySem.Spec PyProof.Rows PySem.W
section
variable{P:Program}{w:World}{K:PySem.W.Frag}{mg:Str->Option Value}{base:Heap}
end
end L2
namespace L2
open PySem PySem.Spec PyProof.Rows
def Gi(a:Addr)(o:Obj):It:=
 ⟨λi H=>∃b,H a=some (.dI o (.dK b))/\i<b.length,λi H x d=>d=H/\∀b,H a=some (.dI o (.dK b))->∃c,b[i]?=some c/\x=kV c.1,λi H=>∃b,H a=some (.dI o (.dK b))/\b.length<=i⟩
theorem fN{a b:Type}{F:a->b->Prop}:∀{xs:List a}{us:List b}{i:Nat}{x:a},Paired F xs us->xs[i]?=some x->∃u,us[i]?=some u/\F x u
 |_,_,_,_,.nil,e=>by simp at e
 |_,_,0,_,.cons r _,e=>by simp at e;subst e;exact⟨_,rfl,r⟩
 |_,_,i+1,x,.cons _ t,e=>by
  obtain⟨u,h1,h2⟩:=fN (i:=i) (x:=x) t (by simpa using e)
  exact⟨u,by simpa using h1,h2⟩
theorem nR{k:Key}{u:Value}{P:Program}{w:World}(h:(aW P w).is k u=true):RelV (kV k) u:=by
 rcases cw (show ke k u=true from h)with ⟨i,t,rfl,rfl⟩|⟨x,t,rfl,rfl⟩
 .exact⟨t,rfl⟩
 .exact⟨t,rfl⟩
theorem ja{P:Program}{w:World}{H:Hp}{h:Heap}{a:Addr}{o:Obj}{kvs:List (Key×V)}{es:Array DictEntry}{ep:Nat}(ok:hX P w H h)(e:H a=some (.dI o (.dK kvs)))(c:o.data=.dict es ep) :
  ∃vs,KV kvs vs/\h.DictAt (aW P w) a vs ep/\es.size=vs.length/\(a==sysModules)=false:=by
 obtain⟨d,_,i,vs,r,p,j,k,b,l,f,m,g,n⟩:=ok a _ e;rw[d]at b;cases b
 rw[c]at f;cases f
 refine⟨vs,r,⟨o,es,d,l,c,m,g,n⟩,?_,i⟩;rw[←g.length];simp
theorem uG{P:Program}{w:World}{K:PySem.W.Frag}{U:Expr}(a it:Addr){o:Obj}{es:Array DictEntry}{ep:Nat}(O:o.data=.dict es ep):Turn P w K U (Gi a o) [it] it (λi h=>h.IsKeyIter it a i es.size ep) where
 mem:=by simp
 obj:=λi h f b j=>by
  have e:b=it:=by simpa using j
  subst e;obtain⟨o,e,c,d⟩:=f;exact⟨o,e,λv z=>by rw[d]at z;cases z⟩
 keep:=λi h p f k=>by
  obtain⟨o,e,c,d⟩:=f;exact⟨o,k it (by simp) o e,c,d⟩
 item:=by
  intro X y A B Q i pins s R H E I t f C;subst y A B;obtain⟨g,u,S⟩:=C;obtain⟨V,r,D,x,_⟩:=ja I.hok u O;have l:g[i]?=some g[i]:=List.getElem?_eq_getElem S;obtain⟨q,Y,Z⟩:=fN r l;obtain⟨F,G,f2,J,L,M⟩:=t it (by simp)
  rw[x]at f;refine wpAny_pyNext_dict_item f D (k:=q.1) (v:=q.2) Y λN p hk m sb=>?_
  have I1:Inv X pins R H {s with heap:=p}:=I.turned (t':=s.toks) (λb o j e=>(sb.2 b j).trans e) F G J L M
  obtain⟨o1,e1,c1,d1⟩:=id m;refine⟨N,rfl,oF (s:={s with heap:=p}) e1 c1 d1 (by decide) ⟨kV q.1,H,I1,nR hk,⟨rfl,λT n=>?_⟩,by rw[x];exact m,λb j=>(t b j).1⟩⟩
  rw[u]at n;cases n
  exact⟨g[i],l,by rw[Z.1]⟩
 done:=by
  intro X y A B Q i pins s R H E I t f C;subst y A B;obtain⟨g,u,S⟩:=C;obtain⟨V,r,D,x,_⟩:=ja I.hok u O;obtain⟨F,G,f2,J,L,M⟩:=t it (by simp)
  have hl:=r.length;rw[x]at f;exact wpAny_pyNext_dict_end (I.ok.hd Q) f D (List.getElem?_eq_none (by omega)) λp eb=>⟨rfl,I.turned (t':=s.toks) (λb o j e=>eb b o j e) F G J L M⟩
 self:=λ_ _ _ _ _ f h=>wpAny_pyIter_keyiter f h
section
variable{X:Cx}{pins:List (Addr×Obj)}{σ:St}{H:Hp}{s:Shared}
theorem Inv.sX{a:Addr}{kvs:List (Key×V)}(I:Inv X pins σ H s)(e:H a=some (.dK kvs)):∃o es ep,s.heap.get? a=some o/\o.data=.dict es ep/\Inv X pins σ (upd H a (.dI o (.dK kvs))) s:=by
 obtain⟨z,d,f,r,o,es,ep,b,g,c,h,i,j⟩:=I.hok a _ e;refine⟨o,es,ep,b,c,?_⟩;have:=nv (t':=s.toks) (h':=s.heap) (ob:=.dI o (.dK kvs)) I (by rw[e];exact True.intro) ⟨rfl,λ_ _=>rfl⟩ ⟨o,b⟩ ⟨b,z,d,f,r,o,es,ep,b,g,c,h,i,j⟩
 exact this
def Gj(R:It->Hp->Prop)(x:V)(c:Hp):Prop:=∃a b,x=.ref a/\((c a=some (.dK b)/\∀o,R (Gi a o) (upd c a (.dI o (.dK b))))\/∃o,c a=some (.dI o (.dK b))/\R (Gi a o) c)
theorem zL{p:Expr}{x:V}{u:Value}{R:It->Hp->Prop}(l:Inv X pins σ H s)(B:RelV x u)(q:Gj R x H):wpAny (model X.prog X.w) X.A (pyIter u) (PIE X pins σ p R) X.xe s:=by
 obtain⟨a,m,rfl,q⟩:=q;cases (show u=Value.ref a from B)
 have c:∀(o:Obj) (e:Array DictEntry) (d:Nat) (f:Hp),Inv X pins σ f s->f a=some (.dI o (.dK m))->o.data=.dict e d->R (Gi a o) f->wpAny (model X.prog X.w) X.A (pyIter (.ref a)) (PIE X pins σ p R) X.xe s:=by
  intro o e d f g C j h;obtain⟨n,r,D,E,t⟩:=ja g.hok C j;refine wpAny_pyIter_dict t D ?_;have F:Inv X pins σ f {s with heap:=s.heap.push {cls:=.type "dict_keyiterator",data:=.fields #[.ref a,.int 0 0,.int n.length 0,.int d 0]} }:=g.kept (t':=s.toks) λb o q=>Heap.get?_push_of_some _ q
  refine⟨s.heap.objs.size,[s.heap.objs.size],_,_,f,rfl,F,uG a _ j,?_,λb G=>?_,h⟩
  .rw[E]
   exact⟨{cls:=.type "dict_keyiterator",data:=.fields #[.ref a,.int 0 0,.int n.length 0,.int d 0]},Heap.get?_push_size _ rfl,rfl,rfl⟩
  .have z:b=s.heap.objs.size:=by simpa using G
   rw[z];have:=g.t_ (b:=s.heap.objs.size) (Nat.le_refl _) (g.hok.fresh (Nat.le_refl _));exact this
 rcases q with ⟨k,h⟩|⟨o,k,h⟩
 .obtain⟨o,e,d,y,j,g⟩:=l.sX k
  exact c o e d _ g aU j (h o)
 .obtain⟨y,_,t,n,r,J,e,d,i,K,I,L⟩:=l.hok a _ k
  rw[y]at i;cases i
  exact c o e d _ l k I h
end
section
variable{prog:Program}{w:World}{A:Around}{E:Value->Shared->Prop}{s:Shared}
theorem uH{a:Addr}{Q:Bool->Shared->Prop}(e:s.TypeIs (.ref a) "dict")(h:Q false s):wpAny (model prog w) A (Builtin.List.listLengthHint (.ref a)) Q E s:=by
 unfold Builtin.List.listLengthHint;refine wpAny_bind (wpAny_specialOf e F.slot_dict_len.lookup ?_);generalize d:("dict.__len__":String)=f
 wp_delta
 rw[show splitId f=some ("dict","__len__")from by subst d;decide +kernel]
 subst d;refine wpAny_bind (wpAny_isInstance (T:="dict") (b:=true) e isSubtype_dict_dict ?_);refine wpAny_ite_split (λc=>absurd c (by decide)) (λ_=>?_)
 refine wpAny_ite_split (λ_=>?_) (λc=>absurd (by decide +kernel) c)
 refine wpAny_bind (wpAny_typeOf e ?_);exact wpAny_pure h
theorem nS{a:Addr}{o:Obj}{xs:Array Value}{k:Nat}{Q:Option Value->Shared->Prop}(m:s.heap.get? a=some o)(n:o.cls=.type "list")(f:o.data=.seq xs k)(p:o.dict=none)(t:A.handled=none)
  (h:∀h' q,(∀b o,s.heap.get? b=some o->h'.get? b=some o)->Q none {s with heap:=h',toks:=q}):wpAny (model prog w) A (getAttr? (.ref a) "keys") Q E s:=by
 obtain⟨c,u,x,y⟩:=o;simp only at n f p;subst n f p;obtain⟨z,g,d,q,B⟩:=s;have r:∀j,(⟨z,g,d,j,B⟩:Shared).TypeIs (.ref a) "list":=λ_=>⟨_,m,rfl⟩
 have C:=sub_AttributeError;have D:=F.slot_list_getattribute.lookup;have G:=F.slot_list_getattribute.bind (.ref a);have H:=am_list_getattr_none;have i:typeLookup (.type "list") "keys"=pure none:=am_miss_of_fast (by kernel_rfl)
 unfold getAttr? getAttrBy? getAttrBy
 repeat (any_goals (first|assumption|exact r _ | ((with_reducible show wpAny _ _ (call (Value.builtin "list.__getattribute__") _ _) _ _ _);refine call_meets F.slot_list_getattribute (r _) am_entry_list_getattribute (F.args_list_getattribute_2 _ _) (meets_getattribute_miss_list a xs k y "keys" _ i (by decide) (by decide)) ⟨m,t,λh' j e l=>?_⟩)|wp_step))
 obtain⟨I,J,K⟩:=l.there
 show wpAny _ _ (getattributeRaised _ _ _ _ _ _ _) _ _ _
 unfold getattributeRaised
 repeat (any_goals (first|assumption|wp_step))
 exact h _ _ λb o e=>l.keeps b o e
theorem cW:plainId "dict.update.loop"=true:=by decide +kernel
theorem eX:entryFor table "dict.update.loop"=some Builtin.«dict.update.loop» := entryFor_of_fast (by kernel_rfl)
variable{K:Type}[DecidableEq K]{knd:KeyKind prog w K}
theorem kL{c d:Type}{F G:c->d->Prop}(h:∀a b,F a b->G a b):∀{xs:List c}{us:List d},Paired F xs us->Paired G xs us
 |_,_,.nil=>.nil
 |_,_,.cons r t=>.cons (h _ _ r) (kL h t)
def kM(knd:KeyKind prog w K)(h:Heap)(p:K×Value)(u:Value):Prop:=∃b o a n,u=.ref b/\h.get? b=some o/\o.cls=.type "tuple"/\o.data=.seq #[a,p.2] n/\knd.is p.1 a=true
theorem pB{R:Result->Shared->Prop}{l it d:Addr}{items:List Value}{h₀:Heap}(hh:A.handled=none)(h:d≠it)(E:l≠d)(F:l≠it)(hl:h₀.IsList l items.toArray)(j:Value)(S:∀o,h₀.get? d=some o->o.cls≠.type "tuple")(U:∀o,h₀.get? it=some o->o.cls≠.type "tuple") :
  ∀(ps:List (K×Value)) (i:Nat) (t:Tok) (s:Shared) (c:List (K×Value)),Paired (kM knd h₀) ps (items.drop i)->c.length+ps.length<=sizeLine->(∀b o,b≠d->b≠it->h₀.get? b=some o->s.heap.get? b=some o)->s.heap.IsListIter it l i->s.heap.DictOf knd d c ->
  (∀h' V,(∀b o,b≠d->b≠it->s.heap.get? b=some o->h'.get? b=some o)->h'.DictOf knd d (ps.foldl (λa p=>stored a p.1 p.2) c)->R (.ok (.ret j)) {s with heap:=h',toks:=V}) ->
  codeAny (model prog w) A (.builtin "dict.update.loop" ⟨[.ref d,.ref it,.int i t,j],[]⟩) R s:=by
 intro ps
 induction ps with
 |nil=>
  intro i t s c G X H k Y Z;refine codeAny_builtin eX ?_;rw[Around.under_plainId cW _];have D:items.drop i=[]:=by generalize items.drop i=q at G;cases G;rfl
  have m:s.heap.IsList l items.toArray:=let ⟨o,y,r⟩:=hl;⟨o,H l o E F y,r⟩
  show wpAny _ A.in1 (pyNext (.ref it) >>= _) _ _ s
  refine wpAny_bind (wpAny_pyNext_list_end hh k m (by simpa using List.drop_eq_nil_iff.mp D) λh' eb=>?_)
  show wpAny _ _ (Builtin.Dict.addKeywords d [] >>= _) _ _ _
  exact wpAny_bind (wpAny_pure (wpAny_pure (Z h' s.toks (λb o _ Q e=>eb b o Q e) (Y.extBut eb h))))
 |cons p ps ih=>
  intro i t s c G X H k Y Z
  have D:∃u r,items.drop i=u::r/\kM knd h₀ p u/\Paired (kM knd h₀) ps r:=by
   generalize items.drop i=q at G;cases G with|cons a b=>exact⟨_,_,rfl,a,b⟩
  obtain⟨u,r,D,⟨b,o,I,n,rfl,y,hc,J,L⟩,a0⟩:=D
  have hi:items[i]?=some (.ref b):=by
   have:=congrArg (·[0]?) D;simpa using this
  have hr:items.drop (i+1)=r:=by rw[←List.drop_drop,D];rfl
  have m:s.heap.IsList l items.toArray:=let ⟨o,y,r⟩:=hl;⟨o,H l o E F y,r⟩
  have b0:b≠d:=λe=>S o (e▸y) hc
  have M:b≠it:=λe=>U o (e▸y) hc
  refine codeAny_builtin eX ?_;rw[Around.under_plainId cW _]
  show wpAny _ A.in1 (pyNext (.ref it) >>= _) _ _ s
  refine wpAny_bind (wpAny_pyNext_list_item k m (x:=.ref b) (by simpa using hi) λh1 N z=>?_)
  have O:h1.get? b=some o:=(z.2 b M).trans (H b o b0 M y);have c0:h1.DictOf knd d c:=Y.extBut z.extBut h;refine wpAny_bind (wpAny_holding (wpAny_bind (wpAny_tryCatch ?_)));unfold Builtin.Dict.pairItems;refine wpAny_bind (wpAny_typeOf (T:="tuple") ⟨o,O,hc⟩ ?_);rw[if_pos (by decide)]
  unfold seqItems?;refine wpAny_bind (wpAny_bind (wpAny_load O ?_));rw[J];refine wpAny_pure (wpAny_pure ?_)
  show wpAny _ _ (holding [I,p.2] (dictSet d I p.2)) _ _ _
  refine wpAny_holding (wpAny_dictSet_pairs L c0 (λQ e0 P=>?_) (by simp at X;omega))
  refine wpAny_pure ⟨plainId_quiet cW _,?_⟩;have keep:∀f g,f≠d->f≠it->s.heap.get? f=some g->Q.get? f=some g:=λf g B C e=>(P.2 f B).trans ((z.2 f C).trans e)
  show codeAny _ _ (.builtin "dict.update.loop" ⟨[.ref d,.ref it,rawInt ((i:Int)+1),j],[]⟩) _ _
  have:=ih (i+1) 0 {s with heap:=Q,toks:=s.toks+1} (stored c p.1 p.2) (by rw[hr];exact a0) (by have:=stored_length_le c p.1 p.2;simp at X;omega) (λf g B C e=>keep f g B C (H f g B C e)) (N.at λo e=>(P.2 it (Ne.symm h)).trans e) e0 (λh' V f0 g0=>Z h' V (λf g B C e=>f0 f g B C (keep f g B C e)) g0)
  exact this
theorem kN{l:Addr}{o:Obj}{items:List Value}{n:Nat}{ps:List (K×Value)}{Q:Value->Shared->Prop}(X:A.handled=none)(Y:s.heap.get? l=some o)(N:o.cls=.type "list")(g:o.data=.seq items.toArray n)(hd:o.dict=none)(hp:Paired (kM knd s.heap) ps items)(hsz:ps.length<=sizeLine)
  (h:∀h' I,(∀b o,s.heap.get? b=some o->h'.get? b=some o)->h'.DictOf knd s.heap.objs.size (ps.foldl (λa p=>stored a p.1 p.2) [])->Q (.ref s.heap.objs.size) {s with heap:=h',toks:=I}) :
  wpAny (model prog w) A (call (.type "dict") [.ref l]) Q E s:=by
 refine callType_codes (Q₁:=λt i=>t=.ref s.heap.objs.size/\i={s with heap:=s.heap.push {cls:=.type "dict",data:=.dict #[]} }) F.kt_called_dict (F.kt_typeCall_dict_1 _) F.entry_dict_init (kt_code_dict_new _ ⟨rfl,rfl⟩) ?_
 rintro t i ⟨rfl,rfl⟩;have c:(s.heap.push {cls:=.type "dict",data:=.dict #[]}).DictOf knd s.heap.objs.size []:=Heap.DictOf.new s.heap;have j:=Heap.get?_push_of_some {cls:=.type "dict",data:=.dict #[]} Y;refine⟨c.typeIs,F.args_dict_init_2 _ _,?_⟩;unfold Builtin.«dict.__init__»;refine wpAny_bind ?_;unfold Builtin.Dict.selfAndRest;refine wpAny_bind (wpAny_notOrdered_dict c.typeIs ?_)
 show wpAny _ _ (pure (s.heap.objs.size,[Value.ref l])) _ _ _
 refine wpAny_pure ?_
 show wpAny _ _ (Builtin.Dict.updateFrom "dict.__init__" s.heap.objs.size (.ref l) [] .none) _ _ _
 unfold Builtin.Dict.updateFrom;refine wpAny_bind (wpAny_typeOf (T:="list") ⟨o,j,N⟩ ?_);rw[if_pos (by decide)]
 refine wpAny_bind (nS (A:=A.in1.in1) j N g hd X λf I O=>?_)
 rw[if_pos (by decide)]
 refine wpAny_bind (wpAny_rule ?_);have x:f.IsList l items.toArray:=⟨o,O l o j,N,n,g⟩;refine wpAny_bind (wpAny_pyIter_list (s:={s with heap:=f,toks:=I}) x ?_);refine wpAny_pure ⟨plainId_quiet cW _,?_⟩;have Z:∀b o,s.heap.get? b=some o->f.get? b=some o:=λb o e=>O b o (Heap.get?_push_of_some _ e)
 have y:f.DictOf knd s.heap.objs.size []:=let ⟨o,J,L,e,r⟩:=c;⟨o,J,L,O _ o e,r⟩
 have k:s.heap.objs.size<f.objs.size:=let ⟨o,_,_,e,_⟩:=y;Heap.lt_size e
 have z:l<s.heap.objs.size:=Heap.lt_size Y;generalize hq:f.push {cls:=Value.type "list_iterator",data:=.fields #[.ref l,.int 0 0]}=B;have M:∀b o,f.get? b=some o->B.get? b=some o:=λb o e=>by rw[←hq];exact Heap.get?_push_of_some _ e
 have C:B.IsListIter f.objs.size l 0:=by rw[←hq];exact⟨_,Heap.get?_push_size _ rfl,rfl,rfl⟩
 have D:B.DictOf knd s.heap.objs.size []:=let ⟨o,J,L,e,r⟩:=y;⟨o,J,L,M _ o e,r⟩
 have m:=pB (A:=A.in1) (R:=wants (λr G=>r=Value.none/\Q (Value.ref s.heap.objs.size) G) E) (knd:=knd) (h₀:=B) (l:=l) (it:=f.objs.size) (d:=s.heap.objs.size) (items:=items) X (Nat.ne_of_lt k) (Nat.ne_of_lt z) (Nat.ne_of_lt (Nat.lt_trans z k))
  (let ⟨o,e,r⟩:=x;⟨o,M _ o e,r⟩) .none (λo e=>by
   obtain⟨o',J,L,H,q,_⟩:=D;rw[e]at H;cases H
   rw[q.1];decide) (λo e=>by
   obtain⟨o',H,q,_⟩:=C;rw[e]at H;cases H
   rw[q];decide) ps 0 0 {s with heap:=B,toks:=I} [] (by
   rw[List.drop_zero]
   exact kL (λp u P=>by
    obtain⟨b,o,m,n,e1,e2,r⟩:=P;exact⟨b,o,m,n,e1,M _ _ (Z _ _ e2),r⟩) hp) (by simpa using hsz) (λb o _ _ e=>e) C D (λh' S U V=>?_)
 .exact m
 .refine⟨rfl,h h' S (λb o e=>U b o ?_ ?_ (M _ _ (Z _ _ e))) V⟩
  .exact Nat.ne_of_lt (Heap.lt_size e)
  .exact Nat.ne_of_lt (Nat.lt_trans (Heap.lt_size e) k)
theorem kO{a:Addr}{kvs:List (K×Value)}{ep:Nat}{Q:Value->Shared->Prop}(hh:A.handled=none)(lo:(a==sysModules)=false)(da:s.heap.DictAt knd a kvs ep)(hn:kvs.length<=sizeLine)
  (hQ:∀h' tk f M,(∀b o,s.heap.get? b=some o->h'.get? b=some o)->h'.get? s.heap.objs.size=some {cls:=.type "list",dict:=none,data:=.seq f M,slots := #[]}->ItemsOf (λi v=>∃k x,kvs[i]?=some (k,x)/\knd.is k v=true) f kvs.length->Q (.ref s.heap.objs.size) {s with heap:=h',toks:=tk}) :
  wpAny (model prog w) A (call (.type "list") [.ref a]) Q E s:=by
 refine callType_codes (Q₁:=λu m=>u=.ref s.heap.objs.size/\m={s with heap:=s.heap.push {cls:=.type "list",data:=.seq #[]} }) F.called_list (F.typeCall_list_1 _) F.entry_list_init
  (code_list_new _ ⟨rfl,rfl⟩) λu m y=>?_
 obtain⟨rfl,rfl⟩:=y;generalize d:s.heap.objs.size=S;have I:(s.heap.push {cls:=.type "list",data:=.seq #[]}).get? S=some {cls:=.type "list",data:=.seq #[]}:=by rw[←d];exact Heap.get?_push_size _ rfl
 refine⟨⟨_,I,rfl⟩,F.args_list_init_2 _ _,?_⟩
 show wpAny _ A.in1.in1 (do let N ←Builtin.List.listItems (.ref S);Builtin.List.listUpdate (.ref S) (λ_=>#[]);letGo N.toList.reverse;Builtin.List.listExtendWith (.ref S) (.ref a) .none) _ _ _
 refine wpAny_bind ?_;unfold Builtin.List.listItems;refine wpAny_bind (wpAny_seqItems I rfl (wpAny_pure ?_))
 show wpAny _ _ (updateSeq S (λ_=>#[]) >>= λ_=>letGo (#[]:Array Value).toList.reverse >>= λ_=>Builtin.List.listExtendWith (.ref S) (.ref a) .none) _ _ _
 refine wpAny_bind (wpAny_updateSeq I rfl ?_);have c:=Heap.get?_update_self (Obj.mapSeq (λ_=>(#[]:Array Value))) I rfl
 have n:S≠a:=λe=>by
  obtain⟨o,es,p,_⟩:=da;exact Nat.lt_irrefl _ ((e▸d)▸Heap.lt_size p)
 refine wpAny_bind (wpAny_letGo ?_);generalize O:(s.heap.push {cls:=.type "list",data:=.seq #[]}).update S (Obj.mapSeq (λ_=>(#[]:Array Value)))=g at c
 have k1:∀b o,s.heap.get? b=some o->g.get? b=some o:=λb o e=>by
  rw[←O];exact(Heap.get?_update_other _ _ (λz=>Nat.lt_irrefl _ ((z▸d)▸Heap.lt_size e))).trans (Heap.get?_push_of_some _ e)
 have l:g.DictAt knd a kvs ep:=da.at' λo e=>k1 a o e
 have P:({s with heap:=g}:Shared).TypeIs (.ref a) "dict":=let ⟨o,_,p,R,_⟩:=l;⟨o,p,R.1⟩
 show wpAny _ _ (Builtin.List.listExtendWith (.ref S) (.ref a) .none) _ _ {s with heap:=g}
 unfold Builtin.List.listExtendWith;refine wpAny_bind (wpAny_typeOf P ?_);have T:Builtin.List.listSameRef (.ref S) (.ref a)=false:=by simp[Builtin.List.listSameRef,n]
 have U:(Value.type "dict"==Value.type "list")=false:=by decide
 have V:(Value.type "dict"==Value.type "tuple")=false:=by decide
 simp only[T,U,V,Bool.or_false,Bool.false_eq_true,if_false];refine wpAny_bind (wpAny_pyIter_dict lo l ?_);generalize B:g.push {cls:=.type "dict_keyiterator",data:=.fields #[.ref a,.int 0 0,.int kvs.length 0,.int ep 0]}=q;have J:∀b o,g.get? b=some o->q.get? b=some o:=λb o e=>by rw[←B];exact Heap.get?_push_of_some _ e
 have X:q.IsKeyIter g.objs.size a 0 kvs.length ep:=by rw[←B];exact⟨_,Heap.get?_push_size _ rfl,rfl,rfl⟩
 have C:q.DictAt knd a kvs ep:=l.at' λo e=>J a o e
 have Y:({s with heap:=q}:Shared).TypeIs (.ref a) "dict":=let ⟨o,_,p,R,_⟩:=C;⟨o,p,R.1⟩
 refine wpAny_bind (wpAny_holding (uH (s:={s with heap:=q}) Y ?_));refine wpAny_ite_split (λ_=>?_) (λZ=>absurd (by decide) Z)
 refine wpAny_bind (wpAny_rule ?_);refine wpAny_bind ?_
 show wpAny _ _ (updateSeq S (·.push .none) >>= λ_=>updateSeq S (·.pop)) _ _ _
 refine wpAny_bind (wpAny_updateSeq (J _ _ c) rfl ?_);have h:=Heap.get?_update_self (Obj.mapSeq (·.push Value.none)) (J _ _ c) rfl;refine wpAny_updateSeq (hz:=by seq_fits) h rfl ?_
 have j:=Heap.get?_update_self (Obj.mapSeq (·.pop)) h rfl;refine wpAny_pure ⟨plainId_quiet F.plain_extend_loop _,?_⟩;generalize a0:(q.update S (Obj.mapSeq (·.push Value.none))).update S (Obj.mapSeq (·.pop))=h3 at j
 have k3:∀b o,b≠S->q.get? b=some o->h3.get? b=some o:=λb o r e=>by
  rw[←a0];exact(Heap.get?_update_other _ _ (Ne.symm r)).trans ((Heap.get?_update_other _ _ (Ne.symm r)).trans e)
 have b0:a<g.objs.size:=let ⟨o,_,p,_⟩:=l;Heap.lt_size p
 have t:S<g.objs.size:=Heap.lt_size c;have W:=(Walks.dictKeys (prog:=prog) (w:=w) (A:=A.in1.in1) (knd:=knd) hh g.objs.size a (Nat.ne_of_lt b0) kvs ep).toS;refine codeAny_extend_loopS W hn S (λL=>?_) .none kvs.length 0 _ #[] _ rfl (Nat.zero_le _) ⟨X.at λo e=>k3 _ o (Ne.symm (Nat.ne_of_lt t)) e,C.at' λo e=>k3 _ o (Ne.symm n) e⟩ j (ItemsOf.nil _) λs' f M L D G=>?_
 .rcases List.mem_cons.mp L with e|e
  .exact Nat.ne_of_lt t e
  .exact n (by simpa using e)
 .rw[Moved.eq_with L]at D ⊢
  refine⟨rfl,?_⟩;have:=hQ s'.heap s'.toks f M (λb o e=>L.heap b o (λH=>?_) (k3 _ _ (λz=>Nat.lt_irrefl _ ((z▸d)▸Heap.lt_size e)) (J _ _ (k1 _ _ e)))) (by rw[d];exact D) G
  .rw[d]at this;exact this
  .have r:=Heap.lt_size e
   rcases List.mem_cons.mp H with e' |e'
   .rw[e',←d]at r;exact Nat.lt_irrefl _ r
   .have e':b=g.objs.size:=by simpa using e'
    rw[e',d]at r;exact Nat.lt_irrefl _ (Nat.lt_trans r t)
end
section
variable{X:Cx}
theorem zM{vs:List V}{c:Array Value}{P:Nat->Value->Prop}(h:ItemsOf P c vs.length)(j:∀(i:Nat) (u:Value) (v:V),P i u->vs[i]?=some v->RelV v u):Vals vs c.toList:=by
 have d:∀(l:List Value) (vs:List V),l.length=vs.length->(∀(i:Nat) (u:Value) (v:V),l[i]?=some u->vs[i]?=some v->RelV v u)->Vals vs l:=by
  intro l
  induction l with
  |nil=>intro vs h _;cases vs with|nil=>exact .nil|cons a b=>simp at h
  |cons u l k=>
   intro vs h g;cases vs with
   |nil=>simp at h
   |cons v vs=>exact .cons (g 0 u v rfl rfl) (k vs (by simpa using h) λi m n e f=>g (i+1) m n (by simpa using e) (by simpa using f))
 exact d _ _ (by rw[Array.length_toList,h.1]) λi u v e f=>j i u v (h.2 i u (by simpa using e)) f
theorem rf(n:X.calm=true):dn X (.type "list") (λxs H Q=>∃a kvs,xs=[V.ref a]/\Rd H a (.dK kvs)/\∀l,H l=none->Q (.ref l) (upd H l (.lst (kvs.map λb=>kV b.1)))):=by
 intro pins s S H xs T Q I r h;obtain⟨a,kvs,rfl,p,q⟩:=h;obtain⟨u,rfl,t⟩:=vals1 r;cases t;obtain⟨z,y,g,d,A⟩:=fj I.hok p;obtain⟨o,B,ep,d1,d2,d3,d4⟩:=A;have C:=d.length;refine kO (knd:=aW X.prog X.w) (kvs:=g) (ep:=ep) (I.ok.hd n) y ⟨o,B,d1,d2,d3,d4⟩ (by omega) λD U c E F e G=>?_
 have J:Vals (kvs.map λb=>kV b.1) c.toList:=zM (P:=λi v=>∃k x,g[i]?=some (k,x)/\(aW X.prog X.w).is k v=true) (by rw[List.length_map,←C]at *;exact G) λi u v K f=>by
  obtain⟨k,x,L,M⟩:=K
  have N:∃b,kvs[i]?=some b/\v=kV b.1:=by
   rw[List.getElem?_map]at f;cases j:kvs[i]? with
   |none=>rw[j]at f;cases f
   |some b=>rw[j]at f;cases f;exact⟨b,rfl,rfl⟩
  obtain⟨b,O,rfl⟩:=N;obtain⟨Y,m,R⟩:=fN d O;rw[L]at m;cases m
  rw[R.1];exact nR M
 exact⟨.ref s.heap.objs.size,_,I.laid F (Nat.le_refl _) (show cf X.prog X.w _ D _ (.lst _)from⟨by simpa using z,c.toList,E,J,by simpa using e⟩),rfl,q _ (I.hok.fresh (Nat.le_refl _))⟩
theorem rg:dn X (.type "dict") (λxs H Q=>∃a kvs,xs=[V.ref a]/\Rd H a (.dK kvs)/\∀l,H l=none->Q (.ref l) (upd H l (.dK kvs))):=by
 intro pins s t H xs x Q I r h;obtain⟨a,kvs,rfl,i,q⟩:=h;obtain⟨u,rfl,j⟩:=vals1 r;cases j;obtain⟨z,k,y,c,m⟩:=fj I.hok i;have A:=c.length;refine kt_call_dict (knd:=aW X.prog X.w) k m (by omega) λn d p=>?_
 have f:∀b o,s.heap.get? b=some o->n.get? b=some o:=λb o e=>(p.2 b (Nat.ne_of_lt (Heap.lt_size e))).trans (Heap.get?_push_of_some _ e)
 have g:(s.heap.objs.size==sysModules)=false:=beq_eq_false_iff_ne.mpr (Ne.symm (Nat.ne_of_lt I.big));exact⟨.ref s.heap.objs.size,_,I.laid (t':=s.toks) f (Nat.le_refl _) (qL z g c d),rfl,q _ (I.hok.fresh (Nat.le_refl _))⟩
theorem rh(L:X.calm=true):dn X (.type "dict") (λxs H Q=>∃a ys ps,xs=[V.ref a]/\Rd H a (.lst ys)/\Paired (λ(p:Key×V) (y:V)=>∃b,y=.ref b/\Rd H b (.tup [kV p.1,p.2])) ps ys/\∀l,H l=none->Q (.ref l) (upd H l (.dK (ps.foldl (λa p=>putK a p.1 p.2) [])))):=by
 intro pins s σ H xs M Q I r h;obtain⟨a,ys,ps,rfl,N,x,q⟩:=h;obtain⟨u,rfl,B⟩:=vals1 r;cases B;obtain⟨e,g,⟨o,n,O,C,D,j⟩,hz⟩:=I.list (.inl N)
 have E:∀{ps:List (Key×V)}{ys:List V}{e:List Value},Paired (λ(p:Key×V) (y:V)=>∃b,y=.ref b/\Rd H b (.tup [kV p.1,p.2])) ps ys->Vals ys e->∃f,KV ps f/\Paired (kM (aW X.prog X.w) s.heap) f e:=by
  intro ps ys e x g
  induction x generalizing e with
  |nil=>cases g;exact⟨[],.nil,.nil⟩
  |@cons p y ps ys z _ k=>
   cases g with
   |@cons _ u _ M B g=>
    obtain⟨f,i,A⟩:=k g;obtain⟨b,rfl,P⟩:=z;cases (show u=Value.ref b from B)
    obtain⟨_,J,m,R,S,T,U,Y⟩:=(show cf X.prog X.w H s.heap b (.tup [kV p.1,p.2])from vX I.hok P)
    cases m with
    |@cons _ Z _ r1 rk m=>
     cases m with
     |@cons _ v' _ r2 F m=>
      cases m with
      |nil=>exact⟨(p.1,v')::f,.cons ⟨rfl,F⟩ i,.cons ⟨b,R,Z,U,rfl,S,T,Y,mn rk⟩ A⟩
 obtain⟨f,i,A⟩:=E x g;have hl:=i.length;have a0:=Paired.length x;refine kN (knd:=aW X.prog X.w) (I.ok.hd L) O C j D A (by omega) λh' tk kp dd=>?_
 have hf:∀{ps:List (Key×V)}{f:List (Key×Value)} (c:List (Key×V)) (d:List (Key×Value)),KV c d->KV ps f->KV (ps.foldl (λa p=>putK a p.1 p.2) c) (f.foldl (λa p=>stored a p.1 p.2) d):=by
  intro ps f c d K r
  induction r generalizing c d with
  |nil=>exact K
  |@cons p q ps f z _ k=>
   simp only[List.foldl_cons];refine k _ _ ?_;rw[←z.1];exact K.put p.1 z.2
 have t:∀(ps:List (Key×V)) (c:List (Key×V)),(ps.foldl (λa p=>putK a p.1 p.2) c).length<=c.length+ps.length:=by
  intro ps
  induction ps with
  |nil=>intro c;simp
  |cons p ps k=>
   intro c;have i:=k (putK c p.1 p.2);have A:=gs c p.1 p.2;simp only[List.foldl_cons,List.length_cons]at i ⊢;omega
 have G:(ps.foldl (λa p=>putK a p.1 p.2) []).length<=sizeLine:=by
  have:=t ps [];simp at this;omega
 exact⟨.ref s.heap.objs.size,_,I.laid kp (Nat.le_refl _) (qL G (beq_eq_false_iff_ne.mpr (Ne.symm (Nat.ne_of_lt I.big))) (hf _ _ .nil i) dd),rfl,q _ (I.hok.fresh (Nat.le_refl _))⟩
end
end L2
namespace Mir
open PySem PySem.Spec PyProof.Rows L2
section
variable{X:Cx}{tg e:Expr}
def Gk(K:PySem.W.Frag)(tl:TE):TI:=λd H R=>tl d H λx b=>(∃a c,x=.ref a/\Rd b a (.lst c)/\R (Lk K a) b)\/(∃a c,x=.ref a/\Rd b a (.tup c)/\R (Ll K a) b)\/(∃y,x=.str y/\R (PY y) b)\/Gj R x b
theorem zN{tl:TE}(m:PE X e tl):PI X tg e (Gk X.K tl):=by
 intro pins s n H R I h;refine cD (m pins s n H _ I h) λv c ⟨x,g,d,i,p⟩=>?_
 have j:∀b∈[c.heap.objs.size],lJ X pins g b:=λb r=>by
  obtain rfl:b=c.heap.objs.size:=by simpa using r
  exact d.t_ (Nat.le_refl _) (d.hok.fresh (Nat.le_refl _))
 rcases p with ⟨a,u,rfl,k,q⟩|⟨a,u,rfl,k,q⟩|⟨y,rfl,q⟩|q
 .cases i
  obtain⟨f,w,l,z⟩:=d.list (jQ (K:=X.K) k);refine wpAny_pyIter_list l.isList ?_;exact⟨c.heap.objs.size,[c.heap.objs.size],_,_,g,rfl,d.kept (t':=c.toks) λb o e=>Heap.get?_push_of_some _ e,ua a _,⟨_,Heap.get?_push_size _ rfl,rfl,rfl⟩,j,q⟩
 .cases i
  obtain⟨f,w,l,z⟩:=d.tuple (uv (K:=X.K) k);refine wpAny_pyIter_tuple (show c.heap.IsTuple a f.toArray from l) ?_
  exact⟨c.heap.objs.size,[c.heap.objs.size],_,_,g,rfl,d.kept (t':=c.toks) λb o e=>Heap.get?_push_of_some _ e,qw a _,⟨_,Heap.get?_push_size _ rfl,rfl,rfl⟩,j,q⟩
 .obtain⟨t,rfl⟩:=i
  refine wpAny_pyIter_strU ?_;exact⟨c.heap.objs.size,[c.heap.objs.size],_,_,g,rfl,d.kept (t':=c.toks) λb o e=>Heap.get?_push_of_some _ e,wC _ y t (strIterType y) (by unfold strIterType;split<;>simp),⟨_,Heap.get?_push_size _ rfl,rfl,rfl⟩,j,q⟩
 .exact zL d i q
end
def Gm(a:Addr)(o:Obj):It:=
 ⟨λi H=>∃b,H a=some (.dI o (.dK b))/\i<b.length,λi H x d=>∃p,x=.ref p/\H p=none/\∀b,H a=some (.dI o (.dK b))->∃c,b[i]?=some c/\d=upd H p (.tup [kV c.1,c.2]),λi H=>∃b,H a=some (.dI o (.dK b))/\b.length<=i⟩
theorem uI:entryFor table "dict_itemiterator.__iter__"=some Builtin.«dict_keyiterator.__iter__» :=
 entryFor_alias (id':="dict_keyiterator.__iter__") (by kernel_rfl) (by decide +kernel) (by decide +kernel) (by kernel_rfl)
theorem ri{prog:Program}{w:World}{A:Around}{E:Value->Shared->Prop}{s:Shared}{it d:Addr}{i n ep:Nat}{ok c:Value}{Q:Value->Shared->Prop}(a:IsItemIter s.heap it d i n ep ok c)(h:Q (.ref it) s):wpAny (model prog w) A (pyIter (.ref it)) Q E s:=by
 have b:s.TypeIs (.ref it) "dict_itemiterator":=⟨_,a,rfl⟩;refine wpAny_pyIter_slot b F.slot_dict_itemiterator_iter (wpAny_call_entry F.slot_dict_itemiterator_iter b uI ?_ (F.args_dict_itemiterator_iter_1 _))
 show wpAny _ _ (ret (.ref it)) _ _ s
 exact wpAny_pure ⟨_,rfl,"dict_itemiterator",_,b,F.slot_dict_itemiterator_next.lookup,h⟩
theorem rj{P:Program}{w:World}{K:PySem.W.Frag}{l:List Expr}{Y:Nat}{m:Pos}(a it:Addr){o:Obj}{es:Array DictEntry}{ep:Nat}(O:o.data=.dict es ep) :
  Turn P w K (.Tuple l Y m) (Gm a o) [it] it (λi h=>∃ok g,IsItemIter h it a i es.size ep ok g) where
 mem:=by simp
 obj:=λi h c b f=>by
  have e:b=it:=by simpa using f
  subst e;obtain⟨ok,g,c⟩:=c
  exact⟨_,c,λv z=>by
   have Z:Data.fields _=Data.cell v:=z;cases Z⟩
 keep:=λi h h' c k=>by
  obtain⟨ok,g,c⟩:=c;exact⟨ok,g,k it (by simp) _ c⟩
 item:=by
  intro X B C D Q i pins s σ H E I x c F;subst B C D;obtain⟨d,y,R⟩:=F;obtain⟨ok,g,c⟩:=c;obtain⟨vs,r,G,A,_⟩:=ja I.hok y O;have n:d[i]?=some d[i]:=List.getElem?_eq_getElem R;obtain⟨q,hv,S⟩:=fN r n;have p:it<s.heap.objs.size:=Heap.lt_size c;rw[A]at c;refine wpAny_pyNext_items_item c G (k:=q.1) (v:=q.2) hv λj h' hk so tu sz kp=>?_
  refine⟨_,rfl,wpAny_letOwnedTupleGo_items (s:={s with heap:=h' }) so λt se T=>?_⟩
  have J:∀b o,b∉[it]->s.heap.get? b=some o->t.get? b=some o:=λb o f q=>by
   have U:b≠it:=λz=>f (by simp[z])
   exact T.extBut b o U (kp b o U q)
  have L:t.get? s.heap.objs.size=some {cls:=.type "tuple",data:=.seq #[j,q.2]}:=T.extBut _ _ (Nat.ne_of_gt p) tu;refine⟨.ref s.heap.objs.size,upd H s.heap.objs.size (.tup [kV d[i].1,d[i].2]),?_,rfl,⟨_,rfl,I.hok.fresh (Nat.le_refl _),λV u=>?_⟩,⟨_,_,by rw[A];exact se⟩,λb f=>?_⟩
  .have M:IsTup t s.heap.objs.size [j,q.2].toArray:=⟨_,L,rfl,_,rfl⟩
   have N:cf X.prog X.w (upd H s.heap.objs.size (.tup [kV d[i].1,d[i].2])) t s.heap.objs.size (.tup [kV d[i].1,d[i].2]):=⟨by rw[sizeLine_eq];simp,[j,q.2],.cons (by rw[S.1];exact nR hk) (.cons S.2 .nil),M⟩
   have:=gu (s:=s) (h':=t) (t':=s.toks) I x J (Nat.le_refl _) N;exact this
  .rw[y]at u;cases u
   exact⟨d[i],n,rfl⟩
  .have e:b=it:=by simpa using f
   subst e;rw[aH (Nat.ne_of_lt p)];exact(x b f).1
 done:=by
  intro X B C D Q i pins s σ H E I x c F;subst B C D;obtain⟨d,y,R⟩:=F;obtain⟨ok,g,c⟩:=c;obtain⟨vs,r,G,A,_⟩:=ja I.hok y O;obtain⟨f0,f1,f2,f3,f4,f5⟩:=x it (by simp)
  have hl:=r.length;rw[A]at c;exact wpAny_pyNext_items_end (I.ok.hd Q) c G (List.getElem?_eq_none (by omega)) λh' eb=>⟨rfl,I.turned (t':=s.toks) (λb o f e=>eb b o f e) f0 f1 f3 f4 f5⟩
 self:=λ_ _ _ _ _ c h=>by
  obtain⟨ok,g,c⟩:=c;exact ri c h
def LD(R:It->Hp->Prop)(x:V)(c:Hp):Prop:=∃a b,x=.ref a/\((c a=some (.dK b)/\∀o,R (Gm a o) (upd c a (.dI o (.dK b))))\/∃o,c a=some (.dI o (.dK b))/\R (Gm a o) c)
theorem xa{X:Cx}{o:Expr}{S:TE}{g:List Expr}{M:Nat}{i j k:Pos}(n:attributeBase o "items" X.env (eval o X.env)=eval o X.env)(p:(j.endLine==k.line)=true)(B:PE X o S) :
  PI X (.Tuple g M i) (.Call (.Attribute o "items" j) [] [] k) (λt H R=>S t H (LD R)):=by
 intro pins s t H R I h;refine wpAny_Call_method0_late n p (cD (B pins s t H _ I h) λv s1 ⟨x,H1,I1,Z,q1⟩=>?_)
 obtain⟨a,u,rfl,q⟩:=q1;cases (show v=Value.ref a from Z)
 have l:∀(c:Obj) (m:Array DictEntry) (f:Nat) (y:Hp),Inv X pins t y s1->y a=some (.dI c (.dK u))->c.data=.dict m f->R (Gm a c) y->wpAny (model X.prog X.w) X.A (call (.builtin "dict.items") [.ref a]) (λv s2=>wpAny (model X.prog X.w) X.A (pyIter v) (PIE X pins t (.Tuple g M i) R) X.xe s2) X.xe s1:=by
  intro c m f y K e2 L D;obtain⟨E,r,T,hz,U⟩:=ja K.hok e2 L;have V:s1.heap.DictOf (aW X.prog X.w) a E:=let ⟨o,m,B,r⟩:=T;⟨o,m,f,B,r⟩
  refine call_meetsIn F.slot_dict_items V.typeIs F.entry_dict_items (F.args_dict_items_1 _) (meets_dict_items (aW X.prog X.w) a U) ⟨⟨E,V⟩,?_⟩;generalize G:s1.heap.push {cls:=.type "dict_items",data:=.fields #[.ref a]}=d;have Y:∀b o,s1.heap.get? b=some o->d.get? b=some o:=λb o e=>by rw[←G];exact Heap.get?_push_of_some _ e
  have hv:d.IsItemsView s1.heap.objs.size a:=by rw[←G];exact⟨_,Heap.get?_push_size _ rfl,rfl,rfl⟩
  have N:d.DictAt (aW X.prog X.w) a E f:=T.at' λo e=>Y a o e
  have O:Inv X pins t y {s1 with heap:=d}:=K.kept (t':=s1.toks) Y;refine wpAny_pyIter_items (s:={s1 with heap:=d}) hv N ?_;have I4:Inv X pins t y {s1 with heap:=d.push {cls:=.type "dict_itemiterator",data:=.fields #[.none,.bool false,.ref a,.int 0 0,.int E.length 0,.int f 0,.none,.none]} }:=O.kept (t':=s1.toks) λb o q=>Heap.get?_push_of_some _ q
  refine⟨d.objs.size,[d.objs.size],_,_,y,rfl,I4,rj a _ L,?_,λb hb=>?_,D⟩
  .rw[hz]
   exact⟨_,_,Heap.get?_push_size _ rfl⟩
  .have z:b=d.objs.size:=by simpa using hb
   rw[z];exact O.t_ (b:=d.objs.size) (Nat.le_refl _) (O.hok.fresh (Nat.le_refl _))
 rcases q with ⟨C,D⟩|⟨c,C,D⟩
 .obtain⟨P,Q,t3⟩:=v_ I1 (.inl ⟨u,.inl C⟩)
  obtain⟨c,m,f,B,L,K⟩:=I1.sX C;exact⟨"dict","dict.items",F.plainAttrs_dict,F.slot_dict_items,F.type_dict_items,P,Q,Calls.callWith_builtin rfl (PySem.evalArgs_none (l c m f _ K aU L (D c)))⟩
 .obtain⟨P,Q,t3⟩:=v_ I1 (.inl ⟨u,.inr ⟨c,C⟩⟩)
  obtain⟨B,_,U,E,r,o',m,f,J,M,x2,x3⟩:=I1.hok a _ C;rw[B]at J;cases J
  exact⟨"dict","dict.items",F.plainAttrs_dict,F.slot_dict_items,F.type_dict_items,P,Q,Calls.callWith_builtin rfl (PySem.evalArgs_none (l c m f _ I1 C x2 D))⟩
variable [aJ]
def lP(f g:List D->aD->ay D):List D->aD->ay D:=λa b=>gc (f a b) (g a b)
def nT(xs:List D)(Ω:aD):ay D:=match xs with
 |[x]=>match eK Ω x with
  |some a=>.ok (.int a.length) Ω
  |none=>.bad
 |_=>.bad
noncomputable def rl(xs:List D)(Ω:aD):ay D:=match xs with
 |[.ref k]=>match Ω[k]? with
  |some (.dK a)=>.ok (.int a.length) Ω
  |some (.dT a)=>.ok (.int a.length) Ω
  |some (.dF a)=>.ok (.int a.length) Ω
  |_=>.bad
 |_=>.bad
def iI(xs:List D)(Ω:aD):ay D:=match xs with
 |[x]=>match eK Ω x with
  |some a=>hF Ω (.lst a)
  |none=>.bad
 |_=>.bad
noncomputable def jb:Key->D
 |.inl i=>.int i
 |.inr x=>.str x
def jv(xs:List D)(Ω:aD):ay D:=match xs with
 |[x]=>match pz Ω x with
  |some a=>hF Ω (.lst (a.map λb=>jb b.1))
  |none=>.bad
 |_=>.bad
def sY(xs:List D)(Ω:aD):ay D:=match xs with
 |[x]=>match pz Ω x with
  |some a=>hF Ω (.dK a)
  |none=>.bad
 |_=>.bad
def kP:D->Option (Key×D)
 |.tup [k,v]=>(nK k).map λk=>(k,v)
 |_=>none
def jw(xs:List D)(Ω:aD):ay D:=match xs with
 |[x]=>match dJ Ω x with
  |some b=>match bz kP b with
   |some c=>hF Ω (.dK (c.foldl (λa p=>dN a p.1 p.2) []))
   |none=>.bad
  |none=>.bad
 |_=>.bad
def kQ:List D->aD->ay D:=lP jw sY
def rm(xs:List D)(Ω:aD):ay D:=match xs with
 |[.tup a]=>.ok (.tup a) Ω
 |[x]=>match dJ Ω x with
  |some a=>.ok (.tup a) Ω
  |none=>.bad
 |_=>.bad
def Dg:List D->Out Rs
 |[.str z]=>if small z.length then .ok (false,.int z.length)else .bad
 |_=>.bad
def Dh:List D->Out Rs
 |[.lst xs]=>match fm xs with|some bs=>.ok (false,.bl (bs.all id))|none=>.bad
 |_=>.bad
def Di:List D->Out Rs
 |[.lst xs]=>match fm xs with|some bs=>.ok (false,.bl (bs.any id))|none=>.bad
 |_=>.bad
def xb:jP->List D->Out Rs
 |.len=>Dg
 |.all=>Dh
 |.any=>Di
 |_=>λ_=>.bad
def lQ(f:jP):List D->aD->ay D:=bP (xb f)
def aO(f:jP):List D->aD->ay D:=match f with
 |.len=>lP nT (lP rl (lQ .len))
 |.list=>lP iI jv
 |.tuple=>rm
 |f=>lQ f
section
variable{X:Cx}{κ:Str->Addr->Prop}{Φ:gv}{α α' ia α1:List Addr}{Z Z' Z0 Z1:Addr->Prop}{Ω ao:aD}{H H' H0 H1:Hp}{ρ:aS}{σ:L2.St}{Q Q':VK}{r:ay D}{a b e ce o:Expr}{rest:List Expr}{es:List Expr}{ma mb mc m mo:EM}{as:AM}{pos p apos cpos:Pos}
theorem nU{f g:List D->aD->ay D}:mN (lP f g) as=kI (mN f as) (mN g as):=by
 funext b a
 simp only[mN,kI];cases as b a with
 |ok x c=>rfl
 |exc x a=>rfl
 |bad=>rfl
theorem gE{f:List D->aD->ay D}{j:String}{x:Str}{r:List V->Hp->VK->Prop}(k:dn X (.builtin j) r)(l:Gl X x)(m:X.mg x=none)(n:bootBuiltins x=some (.builtin j))(o:x≠"__name__")(b:(x==("__debug__":Str))=false)
  (q:starEach (e::es) X.env=(false,eval e X.env)::starEach es X.env) (c:(backTo pos (starEach es X.env)).any (·.1)=false) (s:qr X κ Φ (e::es) as)
  (t:∀xs vs a Z Ω H Q,bR κ a Z Ω H->aK (aq a Z H) xs vs->cg κ Φ a Z H (f xs Ω) Q->r vs H Q):bx X κ Φ (.Call (.Name x p) (e::es) [] pos) (mN f as):=by
 intro d u w y Ω;refine PE.imp (kk k l m n (s d u w y Ω) o b q c) ?_;rintro F H Q ⟨a,Z,S,g⟩;exact⟨a,Z,S,pq.use g λxs h _ vs z i A G B C E=>t xs vs i A h z Q B C E⟩
theorem gF{f:List D->aD->ay D}{j:String}{x:Str}{r:List V->Hp->VK->Prop}(k:dn X (.type j) r)(l:Gl X x)(m:X.mg x=none)(n:bootBuiltins x=some (.type j))(o:x≠"__name__")(b:(x==("__debug__":Str))=false)
  (q:starEach (e::es) X.env=(false,eval e X.env)::starEach es X.env) (c:(backTo pos (starEach es X.env)).any (·.1)=false) (s:qr X κ Φ (e::es) as)
  (t:∀xs vs a Z Ω H Q,bR κ a Z Ω H->aK (aq a Z H) xs vs->cg κ Φ a Z H (f xs Ω) Q->r vs H Q):bx X κ Φ (.Call (.Name x p) (e::es) [] pos) (mN f as):=by
 intro d u w y Ω;refine PE.imp (ui k l m n (s d u w y Ω) o b q c) ?_;rintro F H Q ⟨a,Z,S,g⟩;exact⟨a,Z,S,pq.use g λxs h _ vs z i A G B C E=>t xs vs i A h z Q B C E⟩
theorem gM:∀{ds:List D}{vs:List V},aY Z H ds vs->wj Z H ds vs
 |[],vs,h=>h.nil_inv
 |d::ds,vs,h=>by
  obtain⟨v,r,rfl,h1,h2⟩:=h.cons_inv;exact⟨v,r,rfl,h1.now,gM h2⟩
theorem zO{xs:List D}{vs:List V}(S:bR κ α Z Ω H)(d:aK (aq α Z H) xs vs)(g:cg κ Φ α Z H (jv xs Ω) Q):∃a kvs,vs=[V.ref a]/\Rd H a (.dK kvs)/\∀l,H l=none->Q (.ref l) (upd H l (.lst (kvs.map λc=>kV c.1))):=by
 unfold jv at g;split at g
 .split at g
  .rename_i kvs e
   obtain⟨v,r,rfl,f,h⟩:=d.cons_inv;rw[h.nil_inv];obtain⟨a,b,rfl,i,j⟩:=iG S f e;refine⟨a,b,rfl,i,gy S ?_ g⟩
   have:∀{kvs:List (Key×D)}{b:List (Key×V)},gb (aq α Z H) kvs b->aK (aq α Z H) (kvs.map λc=>jb c.1) (b.map λc=>kV c.1):=λ{kvs b} q=>by
    unfold gb at q
    induction q with
    |nil=>exact .nil
    |@cons p q _ _ k _ m=>
     refine .cons ?_ m
     show aq α Z H (jb p.1) (kV q.1)
     rw[k.1];cases q.1<;>simp only[jb,kV,aq]
   exact this j
  .exact g.elim
 .exact g.elim
theorem xc{kvs:List (Key×D)}{a:List (Key×V)}(S:bR κ α Z Ω H)(r:gb (aq α Z H) kvs a)(k:cg κ Φ α Z H (hF Ω (.dK kvs)) Q):∀p,H p=none->Q (.ref p) (upd H p (.dK a)):=λp b=>by
 obtain⟨d,e⟩:=S.laid (p:=p) (o:=.dK a) (c:=.dK kvs) b λR f=>⟨a,aU,r.imp f⟩
 exact k _ _ _ _ e d (eJ S p)
theorem zP{xs:List D}{vs:List V}(S:bR κ α Z Ω H)(c:aK (aq α Z H) xs vs)(g:cg κ Φ α Z H (sY xs Ω) Q):∃a kvs,vs=[V.ref a]/\Rd H a (.dK kvs)/\∀l,H l=none->Q (.ref l) (upd H l (.dK kvs)):=by
 unfold sY at g;split at g
 .split at g
  .rename_i kvs d
   obtain⟨v,r,rfl,e,f⟩:=c.cons_inv;rw[f.nil_inv];obtain⟨a,b,rfl,h,i⟩:=iG S e d;exact⟨a,b,rfl,h,xc S i g⟩
  .exact g.elim
 .exact g.elim
theorem mJ:∀{ds:List D}{vs:List V}{ps:List (Key×D)},aK (aq α Z H) ds vs->bz kP ds=some ps->∃c,gb (aq α Z H) ps c/\Paired (λ(p:Key×V) (y:V)=>∃b,y=.ref b/\Rd H b (.tup [kV p.1,p.2])) c vs
 |[],vs,ps,r,h=>by cases h;rw[r.nil_inv];exact⟨[],.nil,.nil⟩
 |d::ds,vs,ps,r,h=>by
  simp only[bz]at h;split at h
  .rename_i y ys h1 h2
   cases h;obtain⟨v,f,rfl,g,i⟩:=r.cons_inv;obtain⟨c,j,l⟩:=mJ i h2;unfold kP at h1;split at h1
   .rename_i k w
    obtain⟨m,n,rfl⟩:=Option.map_eq_some_iff.mp h1;obtain⟨a,u,rfl,_,o,e⟩:=ew g;obtain⟨x,z,rfl,q,e⟩:=e.cons_inv;obtain⟨s,A,rfl,t,e⟩:=e.cons_inv;obtain rfl:=e.nil_inv;obtain rfl:=gz n q;exact⟨(m,s)::c,.cons ⟨rfl,t⟩ j,.cons ⟨a,rfl,.inl o⟩ l⟩
   .cases h1
  .cases h
theorem zQ{xs:List D}{vs:List V}(S:bR κ α Z Ω H)(i:aK (aq α Z H) xs vs)(g:cg κ Φ α Z H (jw xs Ω) Q):∃a ys ps,vs=[V.ref a]/\Rd H a (.lst ys)/\Paired (λ(p:Key×V) (y:V)=>∃b,y=.ref b/\Rd H b (.tup [kV p.1,p.2])) ps ys/\∀l,H l=none->Q (.ref l) (upd H l (.dK (ps.foldl (λa p=>putK a p.1 p.2) []))):=by
 unfold jw at g;split at g
 .split at g
  .rename_i x j
   split at g
   .rename_i ps k
    obtain⟨v,r,rfl,m,n⟩:=i.cons_inv;rw[n.nil_inv];obtain⟨a,ys,rfl,o,s⟩:=ck S m j;obtain⟨d,t,u⟩:=mJ s k;refine⟨a,ys,d,rfl,o,u,xc S ?_ g⟩
    have:∀{ps:List (Key×D)}{d:List (Key×V)}{e:List (Key×D)}{c:List (Key×V)},gb (aq α Z H) e c->gb (aq α Z H) ps d->gb (aq α Z H) (ps.foldl (λa p=>dN a p.1 p.2) e) (d.foldl (λa p=>putK a p.1 p.2) c):=λ{ps d e c} f q=>by
     unfold gb at q
     induction q generalizing e c with
     |nil=>exact f
     |@cons p q _ _ h _ w=>
      simp only[List.foldl_cons];refine w ?_;rw[h.1];exact f.put q.1 h.2
    exact this .nil t
   .exact g.elim
  .exact g.elim
 .exact g.elim
theorem xf(a:X.calm=true)(d:Gl X "dict")(f:X.mg "dict"=none)(h:starEach (e::es) X.env=(false,eval e X.env)::starEach es X.env)(b:(backTo pos (starEach es X.env)).any (·.1)=false)(i:qr X κ Φ (e::es) as):bx X κ Φ (.Call (.Name "dict" p) (e::es) [] pos) (mN kQ as):=by
 show bx X κ Φ _ (mN (lP jw sY) as)
 rw[nU];exact bx.alt (gF (rh a) d f boot_dict (by decide) (by decide) h b i λj k l Z m H Q S c g=>zQ S c g) (gF rg d f boot_dict (by decide) (by decide) h b i λj k l Z m H Q S c g=>zP S c g)
theorem zR{f:jP}(o:X.calm=true)(I:f∈[jP.len,jP.all,jP.any,jP.list,jP.tuple])(z:Gl X f.nm)(A:X.mg f.nm=none)
  (B:starEach (e::es) X.env=(false,eval e X.env)::starEach es X.env) (h:(backTo pos (starEach es X.env)).any (·.1)=false) (q:qr X κ Φ (e::es) as) :
  bx X κ Φ (.Call (.Name f.nm p) (e::es) [] pos) (mN (aO f) as):=by
 cases f with
 |len=>
  show bx X κ Φ _ (mN (lP nT (lP rl (lQ .len))) as)
  rw[nU,nU];refine bx.alt ?_ (bx.alt ?_ ?_)
  .refine gE nr z A boot_len (by decide) (by decide) B h q ?_
   intro F U w Z y H Q S c g;unfold nT at g;split at g
   .split at g
    .rename_i C J
     obtain⟨v,r,rfl,i,s⟩:=c.cons_inv;rw[s.nil_inv];obtain⟨l,D,rfl,E,G⟩:=kK (K:=X.K) S i J;exact⟨l,D,rfl,E,by rw[G.length];exact cg.ret S (aT rfl) g⟩
    .exact g.elim
   .exact g.elim
  .refine gE (uu.or uC) z A boot_len (by decide) (by decide) B h q ?_
   intro F U w Z y H Q S c g;unfold rl at g;split at g
   .split at g
    .rename_i L M
     obtain⟨v,r,rfl,i,s⟩:=c.cons_inv;rw[s.nil_inv];simp only[aq]at i;obtain⟨a,q,rfl⟩:=i;obtain⟨a',j,m,N,O⟩:=S.cell M;rw[q]at j;cases j
     exact .inl ⟨a,m,rfl,.inl N,by rw[O.length];exact cg.ret S (aT rfl) g⟩
    .rename_i L M
     obtain⟨v,r,rfl,i,s⟩:=c.cons_inv;rw[s.nil_inv];simp only[aq]at i;obtain⟨a,q,rfl⟩:=i;obtain⟨a',j,m,N,O⟩:=S.cell M;rw[q]at j;cases j
     exact .inr ⟨a,m,rfl,N,by rw[O.length];exact cg.ret S (aT rfl) g⟩
    .rename_i L M
     obtain⟨v,r,rfl,i,s⟩:=c.cons_inv;rw[s.nil_inv];simp only[aq]at i;obtain⟨a,q,rfl⟩:=i;obtain⟨a',j,of,m,N,O⟩:=S.cell M;rw[q]at j;cases j
     exact .inl ⟨a,m,rfl,.inr ⟨of,N⟩,by rw[O.length];exact cg.ret S (aT rfl) g⟩
    .exact g.elim
   .exact g.elim
  .refine gE nt z A boot_len (by decide) (by decide) B h q ?_
   intro P R w Z y H Q S c g;obtain⟨C,T,d,t,b,k⟩:=iH (bw:=false) S c g;have t:=gM t;have u:=dw S;replace b:Dg C=_:=b;unfold Dg at b;split at b
   .obtain⟨x,rfl,n⟩:=t.one
    cases dh n;split at b
    .rename_i hs
     cases b;exact⟨_,rfl,bE hs,iZ u k rfl⟩
    .cases b
   .cases b
 |all=>
  refine gE (wz o) z A boot_all (by decide) (by decide) B h q ?_
  intro P R w Z y H Q S c g;obtain⟨C,T,d,t,b,k⟩:=iH (bw:=false) S c g;have t:=gM t;have u:=dw S;replace b:Dh C=_:=b;unfold Dh at b;split at b
  .obtain⟨x,rfl,n⟩:=t.one
   split at b
   .rename_i bs V
    cases b;exact⟨_,_,bs,x,rfl,n,V,iZ u k rfl⟩
   .cases b
  .cases b
 |any=>
  refine gE (wA o) z A boot_any (by decide) (by decide) B h q ?_
  intro P R w Z y H Q S c g;obtain⟨C,T,d,t,b,k⟩:=iH (bw:=false) S c g;have t:=gM t;have u:=dw S;replace b:Di C=_:=b;unfold Di at b;split at b
  .obtain⟨x,rfl,n⟩:=t.one
   split at b
   .rename_i bs V
    cases b;exact⟨_,_,bs,x,rfl,n,V,iZ u k rfl⟩
   .cases b
  .cases b
 |int=>simp at I
 |min=>simp at I
 |max=>simp at I
 |list=>
  show bx X κ Φ _ (mN (lP iI jv) as)
  rw[nU];refine bx.alt ?_ (gF (rf o) z A boot_list (by decide) (by decide) B h q λF U w Z y H Q S c g=>zO S c g)
  refine gF nu z A boot_list (by decide) (by decide) B h q ?_
  intro F U w Z y H Q S c g;have g:cg κ Φ w Z H (iI F y) Q:=g;unfold iI at g;split at g
  .split at g
   .rename_i C J
    obtain⟨v,r,rfl,i,s⟩:=c.cons_inv;rw[s.nil_inv];obtain⟨l,D,rfl,E,G⟩:=kK (K:=X.K) S i J;exact⟨l,D,rfl,E,gy S G g⟩
   .exact g.elim
  .exact g.elim
 |tuple=>
  refine gF lL z A boot_tuple (by decide) (by decide) B h q ?_
  intro F U w Z y H Q S c g;have g:cg κ Φ w Z H (rm F y) Q:=g;unfold rm at g;split at g
  .obtain⟨v,r,rfl,i,s⟩:=c.cons_inv
   rw[s.nil_inv];have Y:=i;obtain⟨l,D,rfl,_,E,G⟩:=ew i;exact⟨l,D,rfl,.inr ⟨uv (.inl E),cg.ret S Y g⟩⟩
  .split at g
   .rename_i C J
    obtain⟨v,r,rfl,i,s⟩:=c.cons_inv;rw[s.nil_inv];obtain⟨l,D,rfl,E,G⟩:=ck S i J;exact⟨l,D,rfl,.inl ⟨jQ E,iD S G g⟩⟩
   .exact g.elim
  .exact g.elim
 |sorted=>simp at I
 |bool=>simp at I
def LF(t:Ty):D->aD->ay D:=iA λd=>match wc d t with|some b=>.ok (false,.bl b)|none=>.bad
noncomputable def zS(t:Ty)(x:D)(Ω:aD):ay D:=match x with
 |.ref k=>match Ω[k]? with
  |some (.lst _)=>.ok (.bl (t==.list)) Ω
  |some (.dK _)=>.ok (.bl (t==.dict)) Ω
  |_=>.bad
 |.lst _=>.ok (.bl (t==.list)) Ω
 |.tup _=>.ok (.bl (t==.tuple)) Ω
 |_=>.bad
def eM(t:Ty):D->aD->ay D:=zo (zS t) (LF t)
def BO(K:PySem.W.Frag):List V->Hp->VK->Prop:=λd H Q=>∃a c t,d=[.ref a,.ty (Ty.id t)]/\((Rd H a (.lst c)/\Q (.bl (t==.list)) H)\/(Rd H a (.tup c)/\Q (.bl (t==.tuple)) H)\/(∃b,H a=some (.dK b)/\Q (.bl (t==.dict)) H))
theorem uJ:dn X (.builtin "isinstance") (BO X.K):=by
 intro pins s f H n p Q I r h;obtain⟨a,w,t,rfl,h⟩:=h;obtain⟨u,i,rfl,e,j⟩:=vals2 r;cases (show i=Value.type (Ty.id t)from j)
 obtain⟨x,y,A,B,g,k,l⟩:=sF X.K t;rcases h with ⟨d,q⟩|⟨d,q⟩|⟨m,d,q⟩
 .have b:∀c,EP X pins f Q (.bool (t==.list)) {s with toks:=c}:=λc=>⟨.bl _,H,I.tok c,rfl,q⟩
  rcases d with d|⟨o,d⟩
  .exact cS I e (.lst d) g b
  .exact cS I e (.dI d) g b
 .have b:∀c,EP X pins f Q (.bool (t==.tuple)) {s with toks:=c}:=λc=>⟨.bl _,H,I.tok c,rfl,q⟩
  cases e;exact PySem.W.kia_one PySem.W.kitx_tuple I.ik (jo (K:=X.K) I d) k (λz=>nomatch z) b
 .have b:∀c,EP X pins f Q (.bool (t==.dict)) {s with toks:=c}:=λc=>⟨.bl _,H,I.tok c,rfl,q⟩
  exact cS I e (.dK d) l b
theorem zT{t:Ty}{f:Pos}(A:Gl X "isinstance")(B:X.mg "isinstance"=none)(u:Gl X t.nm)(w:X.mg t.nm=none)
  (n:starEach [a,Expr.Name t.nm f] X.env=(false,eval a X.env)::starEach [Expr.Name t.nm f] X.env) (h:(backTo pos (starEach [Expr.Name t.nm f] X.env)).any (·.1)=false) (o:bx X κ Φ a ma) :
  bx X κ Φ (.Call (.Name "isinstance" p) [a,.Name t.nm f] [] pos) (m1 (eM t) ma):=by
 have i:PE X (.Name t.nm f) (tC (.ty t.id)):=yz u w (zb t) rfl (by cases t<;>decide) (by cases t<;>decide)
 unfold eM;rw[C8];refine bx.alt ?_ ?_
 .refine iB (r:=λx H Q=>BO X.K [x,.ty t.id] H Q) (λD y=>kk uJ A B boot_isinstance (er y (er i kj rfl) n) (by decide) (by decide) n h) o ?_
  intro E x F Z G H Q S c g;unfold zS at g;split at g
  .split at g
   .rename_i k ds z
    obtain⟨a,j,rfl,e,C⟩:=ck (ds:=ds) S c (by simp only[dJ,z])
    exact⟨a,j,t,rfl,.inl ⟨e,cg.ret S (aT rfl) g⟩⟩
   .rename_i k I z
    simp only[aq]at c;obtain⟨a,o,rfl⟩:=c;obtain⟨M,l,m,e,_⟩:=S.cell z;rw[o]at l;cases l
    exact⟨a,[],t,rfl,.inr (.inr ⟨m,e,cg.ret S (aT rfl) g⟩)⟩
   .exact g.elim
  .rename_i ds
   obtain⟨a,j,rfl,e,C⟩:=ck (ds:=ds) S c rfl;exact⟨a,j,t,rfl,.inl ⟨e,cg.ret S (aT rfl) g⟩⟩
  .obtain⟨a,j,rfl,_,e,C⟩:=ew c
   exact⟨a,j,t,rfl,.inr (.inl ⟨.inl e,cg.ret S (aT rfl) g⟩)⟩
  .exact g.elim
 .refine iB (r:=λx H Q=>F8 X.K [x,.ty t.id] H Q) (λD y=>kk wB A B boot_isinstance (er y (er i kj rfl) n) (by decide) (by decide) n h) o ?_
  intro E x F Z G H Q S c g;obtain⟨d,J,N,L,s,k⟩:=kJ (bw:=false) S c g;cases q:wc d t with
  |none=>rw[q]at s;cases s
  |some b=>
   rw[q]at s;cases s;exact⟨_,d,x,t,b,rfl,L,q,iZ (dw S) k rfl⟩
def bQ(b:aD->D->Bool)(f:D->List D->aD->ay D)(mo:EM)(e:AM):EM:=λd g=>(mo d g).bind λx a=>if b a x=true then (e d a).bind λh c=>f x h c else .bad
def eo(Ω:aD)(x:D):Bool:=(dJ Ω x).isSome
noncomputable def zU(_:aD)(x:D):Bool:=match x with
 |.str _=>true
 |_=>false
theorem jc{x:D}{v:V}{K:PySem.W.Frag}(S:bR κ α Z Ω H)(r:aq α Z H x v)(h:eo Ω x=true):CK K "list" v H:=by
 unfold eo at h;cases q:dJ Ω x with
 |none=>rw[q]at h;cases h
 |some d=>
  obtain⟨a,b,rfl,c,e⟩:=ck S r q;exact .inl ⟨rfl,b,jQ c⟩
theorem zV{x:D}{v:V}{K:PySem.W.Frag}(S:bR κ α Z Ω H)(r:aq α Z H x v)(h:zU Ω x=true):CK K "str" v H:=by
 cases x with
 |str z=>simp only[aq]at r;subst r;rfl
 |_=>cases h
section
variable{T id:String}{name:Str}{r:V->List V->Hp->VK->Prop}{JB:aD->D->Bool}{f:D->List D->aD->ay D}
theorem sZ(p:PlainAttrs T)(slot:PySem.Slot T name id)(h:typeOf (.builtin id)=pure (.type "method_descriptor"))(q:EZ X id r)
  (s:∀x v a Z Ω H,bR κ a Z Ω H->aq a Z H x v->JB Ω x=true->CK X.K T v H)
  (t:∀x v xs vs a Z Ω H Q,bR κ a Z Ω H->aq a Z H x v->aK (aq a Z H) xs vs->cg κ Φ a Z H (f x xs Ω) Q->r v vs H Q)
  (b:attributeBase o name X.env (eval o X.env)=eval o X.env) (c:(apos.endLine==cpos.line)=true) (u:bx X κ Φ o mo):bx X κ Φ (.Call (.Attribute o name apos) [] [] cpos) (bQ JB f mo ae):=by
 intro i w y z Ω;refine PE.imp (L2.CL p slot h q (u i w y z Ω) b c) ?_;rintro B H Q ⟨a,Z,S,g⟩;refine⟨a,Z,S,cg.use g λx d _ v k e l C m n j=>?_⟩
 split at j
 .rename_i A
  exact⟨s x v e l d k m n A,t x v [] [] e l d k Q m n .nil j⟩
 .exact j.elim
theorem rn{env:Env}:∀{es:List Expr},(∀e∈es,isStar e=false)->((backTo cpos (starEach es env)).all (λx=>!x.1))=true
 |[],_=>rfl
 |e::es,h=>by
  rw[cA (h e (by simp))]
  show(!false&&(backTo cpos (starEach es env)).all (λx=>!x.1))=true
  rw[rn λz hz=>h z (by simp[hz])];rfl
theorem kR(B:PlainAttrs T)(slot:PySem.Slot T name id)(l:typeOf (.builtin id)=pure (.type "method_descriptor"))(C:EZ X id r)
  (D:∀x v a Z Ω H,bR κ a Z Ω H->aq a Z H x v->JB Ω x=true->CK X.K T v H)
  (E:∀x v xs vs a Z Ω H Q,bR κ a Z Ω H->aq a Z H x v->aK (aq a Z H) xs vs->cg κ Φ a Z H (f x xs Ω) Q->r v vs H Q)
  (c:attributeBase o name X.env (eval o X.env)=eval o X.env) (d:(apos.endLine==cpos.line)=true) (F:bx X κ Φ o mo) (G:qr X κ Φ (e::es) as) (h:∀z∈e::es,isStar z=false) (s:(e::es).length<20):bx X κ Φ (.Call (.Attribute o name apos) (e::es) [] cpos) (bQ JB f mo as):=by
 intro i t u w Ω
 have j:((backTo cpos (starEach (e::es) X.env)).all (λx=>!x.1)&&(backToKw cpos (keywordEach [] X.env)).all (λx=>x.1.isSome)
   && decide ((e::es).length+([]:List Keyword).length+(if ([]:List Keyword).isEmpty then 0 else 1)<30))=true:=by
  rw[rn h,decide_eq_true (by show(e::es).length+0+0<30;omega)];rfl
 refine PE.imp (L2.FO B slot l C (F i t u w Ω) (PA.ex λb=>G i t u w b) c j d (cA (h e (by simp))) (cM λz I=>h z (by simp[I]))) ?_
 rintro Y H Q ⟨a,Z,S,g⟩;refine⟨a,Z,S,cg.use g λx b _ v J k y L m A n=>?_⟩
 split at n
 .rename_i M
  exact⟨D x v k y b J m A M,b,k,y,S.grow L m,pq.use n λxs p _ vs N q O P R U V=>E x v xs vs q O p N Q R (m.dq P A) U V⟩
 .exact n.elim
end
noncomputable def lR(Ω:aD):D->Option (Nat×List D)
 |.ref k=>match Ω[k]? with
  |some (.lst ds)=>some (k,ds)
  |_=>none
 |_=>none
theorem fw{x:D}{v:V}{k:Nat}{ds:List D}(S:bR κ α Z Ω H)(r:aq α Z H x v)(h:lR Ω x=some (k,ds)):∃a vs,v=.ref a/\α[k]?=some a/\H a=some (.lst vs)/\aK (aq α Z H) ds vs:=by
 cases x with
 |ref n=>
  simp only[lR]at h;split at h
  .rename_i d e
   cases h;simp only[aq]at r;obtain⟨a,c,rfl⟩:=r;obtain⟨i,b,vs,f,g⟩:=S.cell e;rw[c]at b;cases b;exact⟨a,vs,rfl,c,f,g⟩
  .cases h
 |_=>cases h
theorem gG{k:Nat}{p:Addr}{ds:List D}{vs:List V}{d:D}{u:V}(S:bR κ α Z Ω H)(b:α[k]?=some p){e:List V}(f:H p=some (.lst e))(r:aK (aq α Z H) ds vs)(h:aq α Z H d u)(g:cg κ Φ α Z H (.ok d (Ω.set k (.lst ds))) Q):Q u (upd H p (.lst vs)):=by
 obtain⟨i,a⟩:=S.put (o:=.lst vs) (c:=.lst ds) b (λo u z=>by rw[f]at z;cases z) λR j=>⟨vs,aU,r.imp j⟩
 exact g _ _ _ _ a i (S.dq a h)
def bh(x:D)(xs:List D)(Ω:aD):ay D:=match lR Ω x,xs with
 |some (k,a),[y]=>if small (a.length+1)then .ok .non (Ω.set k (.lst (a++[y])))else .bad
 |_,_=>.bad
def fc(x:D)(xs:List D)(Ω:aD):ay D:=match lR Ω x,xs with
 |some (k,_),[]=>.ok .non (Ω.set k (.lst []))
 |_,_=>.bad
def cI(x:D)(xs:List D)(Ω:aD):ay D:=match lR Ω x,xs with
 |some (k,a),[]=>.ok .non (Ω.set k (.lst a.reverse))
 |_,_=>.bad
def fO(x:D)(xs:List D)(Ω:aD):ay D:=match lR Ω x,xs with
 |some (k,a),[.int i,y]=>if small (a.length+1)&&lM i then .ok .non (Ω.set k (.lst (ny a i y)))else .bad
 |_,_=>.bad
def fP(x:D)(xs:List D)(Ω:aD):ay D:=match lR Ω x,xs with
 |some (k,a),[y]=>match lR Ω y with
  |some (_,b)=>if small (a.length+b.length)then .ok .non (Ω.set k (.lst (a++b)))else .bad
  |none=>.bad
 |_,_=>.bad
def ei(x:D)(xs:List D)(Ω:aD):ay D:=match xs with
 |[y]=>fK (λa b=>match a with|.lst c=>qN .index (.lst c) (.tup [b])|_=>.bad) x y Ω
 |_=>.bad
def mK(x:D)(xs:List D)(Ω:aD):ay D:=match xs with
 |[y]=>fK (λa b=>qN .join a (.tup [b])) x y Ω
 |_=>.bad
theorem gN{R:D->V->Prop}{y:D}{vs:List V}(h:aK R [y] vs):∃v,vs=[v]/\R y v:=by
 obtain⟨v,r,rfl,a,b⟩:=h.cons_inv;rw[b.nil_inv];exact⟨v,rfl,a⟩
theorem zW{R:D->V->Prop}{y z:D}{vs:List V}(h:aK R [y,z] vs):∃v w,vs=[v,w]/\R y v/\R z w:=by
 obtain⟨v,r,rfl,a,b⟩:=h.cons_inv;obtain⟨w,rfl,c⟩:=gN b;exact⟨v,w,rfl,a,c⟩
theorem uK{x:D}{v:V}{xs:List D}{vs:List V}(S:bR κ α Z Ω H)(r:aq α Z H x v)(rs:aK (aq α Z H) xs vs)(g:cg κ Φ α Z H (bh x xs Ω) Q):sr v vs H Q:=by
 unfold bh at g;split at g
 .rename_i k j y d
  obtain⟨a,e,rfl,f,b,c⟩:=fw S r d;obtain⟨u,rfl,h⟩:=gN rs;split at g
  .rename_i i
   have:=bE i;exact⟨a,e,u,rfl,rfl,b,by rw[c.length];omega,gG S f b (c.append (.one h)) (aT rfl) g⟩
  .exact g.elim
 .exact g.elim
theorem xg{x:D}{v:V}{xs:List D}{vs:List V}(S:bR κ α Z Ω H)(r:aq α Z H x v)(rs:aK (aq α Z H) xs vs)(g:cg κ Φ α Z H (fc x xs Ω) Q):vV v vs H Q:=by
 unfold fc at g;split at g
 .rename_i k f c
  obtain⟨a,d,rfl,e,b,h⟩:=fw S r c;rw[rs.nil_inv];exact⟨a,d,rfl,rfl,b,gG S e b .nil (aT rfl) g⟩
 .exact g.elim
theorem ro{x:D}{v:V}{xs:List D}{vs:List V}(S:bR κ α Z Ω H)(r:aq α Z H x v)(rs:aK (aq α Z H) xs vs)(g:cg κ Φ α Z H (cI x xs Ω) Q):oP v vs H Q:=by
 unfold cI at g;split at g
 .rename_i k h c
  obtain⟨a,d,rfl,e,b,f⟩:=fw S r c;rw[rs.nil_inv];exact⟨a,d,rfl,rfl,b,gG S e b f.reverse (aT rfl) g⟩
 .exact g.elim
theorem uL{x:D}{v:V}{xs:List D}{vs:List V}(S:bR κ α Z Ω H)(r:aq α Z H x v)(rs:aK (aq α Z H) xs vs)(g:cg κ Φ α Z H (fO x xs Ω) Q):sH v vs H Q:=by
 unfold fO at g;split at g
 .rename_i k m i y f
  obtain⟨a,h,rfl,j,d,b⟩:=fw S r f;obtain⟨u,w,rfl,e,l⟩:=zW rs;simp only[aq]at e;subst e;split at g
  .rename_i c
   simp only[Bool.and_eq_true]at c;have:=bE c.1;have n:=oZ c.2;refine⟨a,h,i,w,rfl,rfl,d,by omega,by omega,by rw[b.length];omega,gG S j d ?_ (aT rfl) g⟩
   unfold ny;rw[b.length];exact(b.take _).append (.cons l (b.drop _))
  .exact g.elim
 .exact g.elim
theorem uM{x:D}{v:V}{xs:List D}{vs:List V}(S:bR κ α Z Ω H)(r:aq α Z H x v)(rs:aK (aq α Z H) xs vs)(g:cg κ Φ α Z H (fP x xs Ω) Q):su v vs H Q:=by
 unfold fP at g;split at g
 .rename_i k q y f
  obtain⟨a,h,rfl,i,c,d⟩:=fw S r f;obtain⟨u,rfl,j⟩:=gN rs;split at g
  .rename_i n s l
   obtain⟨b,m,rfl,t,o,e⟩:=fw S j l;split at g
   .rename_i p
    exact⟨a,b,h,m,rfl,rfl,c,o,by rw[d.length,e.length];exact bE p,gG S i c (d.append e) (aT rfl) g⟩
   .exact g.elim
  .exact g.elim
 .exact g.elim
theorem xh{x:D}{v:V}{xs:List D}{vs:List V}(S:bR κ α Z Ω H)(r:aq α Z H x v)(rs:aK (aq α Z H) xs vs)(g:cg κ Φ α Z H (ei x xs Ω) Q):wD v vs H Q:=by
 unfold ei at g;split at g
 .obtain⟨u,rfl,c⟩:=gN rs
  obtain⟨d,e,f,n,h,i,a,k⟩:=gx (bw:=false) S r c g;cases d with
  |lst l=>
   (unfold qN at a;dsimp only at a)
   split at a
   .rename_i b
    simp only[Bool.and_eq_true]at b;split at a
    .rename_i j m
     cases a;exact⟨_,l,e,u,j,rfl,h,i,b.1,b.2,m,iZ (dw S) k rfl⟩
    .cases a
   .cases a
  |_=>cases a
 .exact g.elim
theorem zX{x:D}{v:V}{xs:List D}{vs:List V}(S:bR κ α Z Ω H)(r:aq α Z H x v)(rs:aK (aq α Z H) xs vs)(g:cg κ Φ α Z H (mK x xs Ω) Q):rJoin v vs H Q:=by
 unfold mK at g;split at g
 .obtain⟨u,rfl,c⟩:=gN rs
  obtain⟨d,e,f,n,h,i,a,k⟩:=gx (bw:=false) S r c g;cases d with
  |str z=>
   cases dh h;cases e with
   |lst j=>
    (unfold qN at a;dsimp only at a)
    split at a
    .rename_i l m
     split at a
     .rename_i b
      cases a;simp only[Bool.and_eq_true,decide_eq_true_eq]at b;exact⟨z,_,j,l,u,rfl,rfl,i,m,b.1,b.2,iZ (dw S) k rfl⟩
     .cases a
    .cases a
   |_=>cases a
  |_=>cases e<;>cases a
 .exact g.elim
end
inductive Src where
 |seq (x:D)|ints (lo:Int) (n:Nat)|chars (z:Str)|JC (x:D)|keys (k:Nat)|items (k:Nat)
def eN:Src->aD->Option (List D)
 |.seq x,Ω=>eK Ω x
 |.ints lo n,_=>some (intsFrom lo n)
 |.chars z,_=>some (z.cps.toList.map λc=>.str (bJ c))
 |.JC x,Ω=>(eK Ω x).map (dg 0)
 |.keys k,Ω=>match Ω[k]? with
  |some (.dF kvs)=>some (kvs.map λa=>jb a.1)
  |_=>none
 |.items k,Ω=>match Ω[k]? with
  |some (.dF kvs)=>some (kvs.map λa=>.tup [jb a.1,a.2])
  |_=>none
abbrev IM:=aS->aD->ay Src
def uN(κ:Str->Addr->Prop)(s:Src)(J:It)(j:List Addr)(Z:Addr->Prop)(H:Hp):Prop:=∀a f b c g,cH j Z H a f c->bR κ a f b c->eN s b=some g ->
 (∀(i:Nat) (d:D),g[i]?=some d->J.go i c/\∀x e,J.Jv i c x e->∃h,cH a f c a h e/\bR κ a h b e/\aq a h e d x)/\∀i,g.length<=i->J.stop i c
def qu(κ:Str->Addr->Prop)(Φ:gv)(e:List Addr)(Z:Addr->Prop)(H:Hp)(r:ay Src)(R:It->Hp->Prop):Prop:=match r with
 |.ok s b=>∀J c a d,cH e Z H a d c->bR κ a d b c->uN κ s J a d c->R J c
 |.exc x b=>∀c a d,cH e Z H a d c->bR κ a d b c->Φ x b a d c
 |.bad=>False
noncomputable def RN(κ:Str->Addr->Prop)(Φ:gv)(a:List Addr)(c:Addr->Prop)(d:Hp)(m:IM)(ρ:aS)(Ω:aD):TI:=λe H R=>∃b Z,cU κ a c d b Z Ω ρ e H/\qu κ Φ b Z H (m ρ Ω) R
def vp(X:Cx)(κ:Str->Addr->Prop)(Φ:gv)(b e:Expr)(m:IM):Prop:=∀a c d f g,PI X b e (RN κ Φ a c d m f g)
def srcOf(Ω:aD)(x:D):ay Src:=match eK Ω x,x with
 |some _,x=>.ok (.seq x) Ω
 |none,.str z=>.ok (.chars z) Ω
 |none,.ref k=>(match Ω[k]? with
  |some (.dK a)=>.ok (.keys k) (Ω.set k (.dF a))
  |some (.dF _)=>.ok (.keys k) Ω
  |_=>.bad)
 |none,_=>.bad
def aL(m:EM):IM:=λb c=>(m b c).bind λx a=>srcOf a x
noncomputable def s_(Ω:aD)(x:D):ay Src:=match x with
 |.ref k=>(match Ω[k]? with
  |some (.dK a)=>.ok (.items k) (Ω.set k (.dF a))
  |some (.dF _)=>.ok (.items k) Ω
  |_=>.bad)
 |_=>.bad
def kS(m:EM):IM:=λb c=>(m b c).bind λx a=>s_ a x
def lS(m:EM):IM:=λb c=>(m b c).bind λx a=>match eK a x with
 |some _=>.ok (.JC x) a
 |none=>.bad
def tf(xs:List D)(Ω:aD):ay Src:=match xs with
 |[.int j]=>if lM j then .ok (.ints 0 j.toNat) Ω else .bad
 |_=>.bad
def cO(a:AM):IM:=λb c=>(a b c).bind tf
section
variable{X:Cx}{κ:Str->Addr->Prop}{Φ:gv}{α α' ia α1:List Addr}{Z Z' Z0 Z1:Addr->Prop}{Ω ao:aD}{H H' H0 H1:Hp}{ρ:aS}{σ:L2.St}{Q Q':VK}{r:ay D}{a b e ce o tg:Expr}{rest:List Expr}{es:List Expr}{ma mb mc m mo:EM}{as:AM}{pos p apos cpos tpos:Pos}
theorem qu.from{r:ay Src}{R:It->Hp->Prop}(g:cH α Z H α1 Z1 H1)(h:qu κ Φ α Z H r R):qu κ Φ α1 Z1 H1 r R:=by
 cases r with
 |ok d b=>exact λv c a e f=>h v c a e (g.trans f)
 |exc x b=>exact λc a e f=>h c a e (g.trans f)
 |bad=>exact h
theorem qu.use{r:ay D}{f:D->aD->ay Src}{R:It->Hp->Prop}(h:qu κ Φ α Z H (r.bind f) R)(k:∀d aM,r=.ok d aM->∀v b a c,cH α Z H a c b->bR κ a c aM b->aq a c b d v->qu κ Φ a c b (f d aM) R->Q' v b):cg κ Φ α Z H r Q':=by
 cases r with
 |ok d aM=>exact λv b a c g s q=>k d aM rfl v b a c g s q (qu.from g h)
 |exc x aM=>exact h
 |bad=>exact h
theorem pC{K:PySem.W.Frag}{x:D}{a:Addr}(p:aq α Z H x (.ref a))(S:bR κ α Z Ω H)(q:(dJ Ω x).isSome=true):uN κ (.seq x) (Lk K a) α Z H:=by
 intro r t b C u g s w;have c:=S.dq g p;have f:∀h,x≠.tup h:=λh e=>by subst e;cases q
 have j:dJ b x=some u:=by
  cases x with
  |tup h=>exact absurd rfl (f _)
  |_=>exact w
 obtain⟨E,k,e,l,n⟩:=ck s c j;cases e;refine⟨λi d z=>?_,λi A=>⟨k,jQ l,by rw[n.length];exact A⟩⟩
 obtain⟨v,o,B⟩:=n.get z;refine⟨⟨k,v,jQ l,o⟩,λy F m=>?_⟩
 obtain⟨rfl,m⟩:=m;have:=m k (jQ l);rw[o]at this;cases this;exact⟨t,cH.refl s.has,s,B⟩
theorem zY{K:PySem.W.Frag}{es:List D}{a:Addr}(l:aq α Z H (.tup es) (.ref a))(S:bR κ α Z Ω H):uN κ (.seq (.tup es)) (Ll K a) α Z H:=by
 intro m n o u w g s p;have b:=S.dq g l;cases p;obtain⟨x,c,e,_,f,j⟩:=ew b;cases e;refine⟨λi d q=>?_,λi r=>⟨c,uv (.inl f),by rw[j.length];exact r⟩⟩
 obtain⟨v,k,t⟩:=j.get q;refine⟨⟨c,v,uv (.inl f),k⟩,λy z h=>?_⟩
 obtain⟨rfl,h⟩:=h;have:=h c (uv (.inl f));rw[k]at this;cases this;exact⟨n,cH.refl s.has,s,t⟩
theorem pD{k:Nat}{a:Addr}{o:Obj}{kvs:List (Key×V)}(w:α[k]?=some a)(y:H a=some (.dI o (.dK kvs))):uN κ (.keys k) (Gi a o) α Z H:=by
 intro z A B G I g s f;have h:=g.pre k a w;have b:=g.dI a _ _ y;simp only[eN]at f;split at f
 .rename_i l C
  cases f;obtain⟨J,c,K,m,n,r⟩:=s.cell C;rw[h]at c;cases c
  rw[b]at n;cases n
  have L:=r.length;refine⟨λi d t=>?_,λi D=>⟨kvs,b,by rw[List.length_map]at D;omega⟩⟩
  rw[List.getElem?_map]at t;obtain⟨p,E,rfl⟩:=Option.map_eq_some_iff.mp t;obtain⟨q,u,F,_⟩:=aK.get r E;refine⟨⟨kvs,b,(List.getElem?_eq_some_iff.mp u).1⟩,λx M j=>?_⟩
  obtain⟨rfl,j⟩:=j;obtain⟨N,e,rfl⟩:=j kvs b;rw[u]at e;cases e
  refine⟨A,cH.refl s.has,s,?_⟩;rw[F];cases q.1<;>simp only[jb,kV,aq]
 .cases f
theorem mL{k:Nat}{a:Addr}{o:Obj}{kvs:List (Key×V)}(B:α[k]?=some a)(C:H a=some (.dI o (.dK kvs))):uN κ (.items k) (Gm a o) α Z H:=by
 intro D E F M N g s f;have h:=g.pre k a B;have b:=g.dI a _ _ C;simp only[eN]at f;split at f
 .rename_i r G
  cases f;obtain⟨O,c,P,t,u,w⟩:=s.cell G;rw[h]at c;cases c
  rw[b]at u;cases u
  have Q:=w.length;refine⟨λi d y=>?_,λi I=>⟨kvs,b,by rw[List.length_map]at I;omega⟩⟩
  rw[List.getElem?_map]at y;obtain⟨p,J,rfl⟩:=Option.map_eq_some_iff.mp y;obtain⟨q,z,K,L⟩:=aK.get w J;refine⟨⟨kvs,b,(List.getElem?_eq_some_iff.mp z).1⟩,λx R j=>?_⟩
  obtain⟨l,rfl,m,j⟩:=j;obtain⟨S,e,rfl⟩:=j kvs b;rw[z]at e;cases e
  obtain⟨A,n⟩:=s.sQ (p:=l) (o:=.tup [kV q.1,q.2]) m True;simp only[if_true]at A n;refine⟨Zp E l,n,A,?_⟩;simp only[aq];refine⟨l,_,rfl,.inr rfl,aU,br.mpr (.cons ?_ (.one (s.dq n L)))⟩;rw[K];cases q.1<;>simp only[jb,kV,aq]
 .cases f
theorem zZ(h:bx X κ Φ e m):vp X κ Φ tg e (aL m):=by
 intro G O P Q T;refine PI.imp (zN (h G O P Q T)) ?_;rintro σ H R ⟨U,Z,S,g⟩;refine⟨U,Z,S,qu.use g λx I _ v w k t g1 b r j=>?_⟩
 cases x with
 |tup M=>
  have l:=r;obtain⟨a,A,rfl,_,p,B⟩:=ew r;exact .inr (.inl ⟨a,A,rfl,.inl p,j _ w k t (cH.refl b.has) b (zY l b)⟩)
 |lst M=>
  have l:=r;obtain⟨a,A,rfl,p,B⟩:=ck (ds:=M) b r rfl;exact .inl ⟨a,A,rfl,p,j _ w k t (cH.refl b.has) b (pC l b rfl)⟩
 |ref n=>
  cases s:dJ I (.ref n)with
  |none=>
   simp only[srcOf,eK,s]at j;simp only[aq]at r;obtain⟨a,C,rfl⟩:=r;split at j
   .rename_i D J
    obtain⟨V,q,f,p,B⟩:=b.cell J;rw[C]at q;cases q
    refine .inr (.inr (.inr ⟨a,f,rfl,.inl ⟨p,λo=>?_⟩⟩))
    obtain⟨E,N⟩:=b.put (o:=.dI o (.dK f)) (c:=.dF D) C (λo u z=>by rw[p]at z;cases z) λR Y=>⟨o,f,aU,B.imp Y⟩
    exact j _ _ k t N E (pD C aU)
   .rename_i D J
    obtain⟨V,q,o,f,p,B⟩:=b.cell J;rw[C]at q;cases q
    exact .inr (.inr (.inr ⟨a,f,rfl,.inr ⟨o,p,j _ w k t (cH.refl b.has) b (pD C p)⟩⟩))
   .exact j.elim
  |some ds=>
   simp only[srcOf,eK,s]at j;have l:=r;obtain⟨a,A,rfl,p,B⟩:=ck b r s;exact .inl ⟨a,A,rfl,p,j _ w k t (cH.refl b.has) b (pC l b (by rw[s];rfl))⟩
 |str z=>
  simp only[aq]at r;subst r;refine .inr (.inr (.inl ⟨z,rfl,j _ w k t (cH.refl b.has) b ?_⟩));intro a0 Z2 b0 H2 ds N E hs;cases hs;refine⟨λi d F=>?_,λi K=>by show z.cps.size<=i;simpa using K⟩
  have K:i<z.cps.size:=by
   have:=(List.getElem?_eq_some_iff.mp F).1;simpa using this
  refine⟨K,λy H3 hy=>?_⟩
  obtain⟨rfl,c,hc,rfl⟩:=hy;rw[List.getElem?_map]at F;have L:z.cps.toList[i]?=some c:=by simpa using hc
  rw[L]at F;cases F;exact⟨Z2,cH.refl E.has,E,aT rfl⟩
 |non=>exact j.elim
 |bl _=>exact j.elim
 |int _=>exact j.elim
 |dct _ _=>exact j.elim
theorem xi{b:Int}{n:Nat}:uN κ (.ints b n) (Fu b n) α Z H:=by
 intro e f h l m g s j;cases j;refine⟨λi d c=>?_,λi a=>by rw[kD]at a;exact a⟩
 have a:=(List.getElem?_eq_some_iff.mp c).1;rw[kD]at a;refine⟨a,λy o k=>?_⟩
 obtain⟨rfl,rfl⟩:=k;rw[ints_get _ _ _ _ c];exact⟨f,cH.refl s.has,s,aT rfl⟩
theorem qu.LG{r:ay (List D)}{f:List D->aD->ay Src}{R:It->Hp->Prop}{Q':List V->Hp->Prop}(h:qu κ Φ α Z H (r.bind f) R)(k:∀ds aM,r=.ok ds aM->∀vs b a c,cH α Z H a c b->bR κ a c aM b->aK (aq a c b) ds vs->qu κ Φ a c b (f ds aM) R->Q' vs b):pq κ Φ α Z H r Q':=by
 cases r with
 |ok d aM=>exact λv b a c g s q=>k d aM rfl v b a c g s q (qu.from g h)
 |exc x aM=>exact h
 |bad=>exact h
theorem xj(l:Gl X "range")(m:X.mg "range"=none)(n:qr X κ Φ [a] as)(o:starEach [a] X.env=[(false,eval a X.env)]):vp X κ Φ tg (.Call (.Name "range" p) [a] [] pos) (cO as):=by
 intro d q r s t;refine PI.imp (ub l m (n d q r s t) o) ?_;rintro z H R ⟨u,Z,S,g⟩;refine⟨u,Z,S,qu.LG (Q':=λh e=>∃j:Int,h=[.int j] /\ -(2 ^ 62)<=j/\j<2 ^ 62/\R (Fu 0 j.toNat) e) g λA w _ h e f x B i y b=>?_⟩
 unfold tf at b;split at b
 .obtain⟨v,rfl,k⟩:=gN y
  simp only[aq]at k;subst k;split at b
  .rename_i c
   have c:=oZ c;exact⟨_,rfl,c.1,c.2,b _ e f x (cH.refl i.has) i xi⟩
  .exact b.elim
 .exact b.elim
noncomputable def nV(n:Nat)(d:D):Option aS:=match n,d with
 |0,d=>some [some d]
 |n,.tup a=>if a.length=n then some (a.map some)else none
 |_,_=>none
noncomputable def dW(cap:List Nat)(ρ:aS):aS:=cap.map λi=>(ρ[i]?).join
def hG(nc:Bool)(mc:EM)(ρ:aS)(Ω:aD):ay Bool:=if nc=true then .ok true Ω else cB (mc ρ Ω)
def ti(nc:Bool)(mc me:EM)(n:Nat)(τ:aS)(src:Src):Nat->Nat->List D->aD->ay (List D)
 |0,_,_,_=>.bad
 |f+1,i,a,Ω=>match eN src Ω with
  |none=>.bad
  |some ds=>match ds[i]? with
   |none=>.ok a Ω
   |some d=>match nV n d with
    |none=>.bad
    |some b=>if small (a.length+1)then match hG nc mc (b++τ) Ω with
     |.ok true aM=>match me (b++τ) aM with
      |.ok y JD=>ti nc mc me n τ src f (i+1) (a++[y]) JD
      |_=>.bad
     |.ok false aM=>ti nc mc me n τ src f (i+1) a aM
     |_=>.bad else .bad
def bo(me:EM)(nc:Bool)(mc:EM)(mi:IM)(n:Nat)(cap:List Nat):EM:=λc d=>match mi c d with
 |.ok s a=>match ti nc mc me n (dW cap c) s fuel 0 [] a with
  |.ok e b=>hF b (.lst e)
  |_=>.bad
 |.exc x a=>.exc x a
 |.bad=>.bad
noncomputable def pE:gv:=λ_ _ _ _ _=>False
theorem pF{cap:List Nat}{ds:List D}{vs:List V}(S:cU κ ia Z0 H0 α Z Ω ρ σ H)(g:cH α Z H α1 Z1 H1)(s:bR κ α1 Z1 ao H1)(r:aK (aq α1 Z1 H1) ds vs) :
  cU κ α1 Z1 H1 α1 Z1 ao (ds.map some++dW cap ρ) (vs.map some++pa cap σ) H1:=by
 have a:=r.length;refine⟨s,cH.refl s.has,?_,λi d h=>?_⟩
 .rw[List.length_append,List.length_append,List.length_map,List.length_map,a]
  unfold pa dW;rw[List.length_map,List.length_map]
 .by_cases b:i<ds.length
  .rw[List.getElem?_append_left (by simpa using b),List.getElem?_map]at h
   rw[List.getElem?_append_left (by simpa[a]using b),List.getElem?_map]
   cases q:ds[i]? with
   |none=>rw[q]at h;cases h
   |some l=>
    rw[q]at h;cases h;obtain⟨v,c,e⟩:=r.get q;exact⟨v,by rw[c];rfl,e⟩
  .rw[List.getElem?_append_right (by simpa using b)]at h
   rw[List.getElem?_append_right (by simpa[a]using b)]
   unfold dW at h;unfold pa;rw[List.length_map,List.getElem?_map]at h;rw[List.length_map,a,List.getElem?_map];cases q:cap[i - ds.length]? with
   |none=>rw[q]at h;cases h
   |some j=>
    rw[q]at h;have h:(ρ[j]?).join=some d:=by simpa using h
    have k:ρ[j]?=some (some d):=by
     cases f:ρ[j]? with
     |none=>rw[f]at h;cases h
     |some o=>rw[f]at h;rw[show o=some d from h]
    obtain⟨v,c,e⟩:=S.val j d k;refine⟨v,?_,S.st.dq g e⟩
    show some ((σ[j]?).join)=_
    rw[c];rfl
theorem cH.BP(g:cH α Z H α' Z' H'){a:Addr}{o:HO}(b:a∉α)(h:H a=some o):a∉α':=λq=>by
 rcases g.CZ a q with q|q
 .exact b q
 .rw[h]at q;cases q
theorem cH.Dj(g:cH α Z H α' Z' H'){a:Addr}{o:HO}(b:¬ Z a)(h:H a=some o):¬ Z' a:=λq=>by
 rcases g.new a q with q|q
 .exact b q
 .rw[h]at q;cases q
theorem cH.side(g:cH α Z H α' Z' H'){a:Addr}{o:HO}(d:a∉α)(h:H a=Option.none):cH α Z H α' Z' (upd H' a o):=
 ⟨g.pre,g.sub,g.new,g.CZ,λb u e c=>by rw[aH (bg e h)];exact g.frm b u e c,λb c=>by rw[aH (λ(q:b=a)=>d (by rw[←q];exact c))];exact g.has b c,λb f u e=>by rw[aH (bg e h)];exact g.dI b f u e⟩
theorem z8{n:Nat}{d:D}{τ:aS}(h:nV n d=some τ):∃ds:List D,τ=ds.map some:=by
 unfold nV at h;split at h
 .cases h;exact⟨[d],rfl⟩
 .split at h
  .cases h;exact⟨_,rfl⟩
  .cases h
 .cases h
theorem bR.part(S:bR κ α Z Ω H){g:Addr}{vs:List V}{ds:List D}(i:H g=some (.lst vs))(j:g∉α)(hz:¬ Z g)(r:aK (aq α Z H) ds vs):bR κ (α++[g]) Z (Ω++[.lst ds]) H:=by
 have h:∀(n:Nat) (a:Addr),α[n]?=some a->(α++[g])[n]?=some a:=λn a e=>by rw[List.getElem?_append_left (List.getElem?_eq_some_iff.mp e).1];exact e
 have mono:∀d v,aq α Z H d v->aq (α++[g]) Z H d v:=λd v r=>r.mono h (λ_ _ _ e=>e) λ_ z=>z
 refine⟨?_,?_,λa ha f=>?_,S.dom⟩
 .refine List.nodup_append.mpr ⟨S.sP,by simp,λa ha b k e=>?_⟩
  rw[List.mem_singleton.mp k]at e;exact j (e▸ha)
 .exact aK.append (S.yu.imp λc a l=>l.imp mono (λ_ e=>e) λ_ _ _ e=>e) (.one ⟨vs,i,r.imp mono⟩)
 .rcases List.mem_append.mp ha with ha|ha
  .exact S.sep a ha f
  .rw[List.mem_singleton.mp ha]at f;exact hz f
theorem bR.side(S:bR κ α Z Ω H){f:Addr}{o:HO}(m:f∉α)(hz:¬ Z f)(n:∀o u,H f≠some (.dI o u)):bR κ α Z Ω (upd H f o)/\∀d v,aq α Z H d v->aq α Z (upd H f o) d v:=by
 have mono:∀d v,aq α Z H d v->aq α Z (upd H f o) d v:=λd v r=>r.mono (λ_ _ e=>e) (λa u z e=>by rw[aH (λ(q:a=f)=>hz (by rw[←q];exact z))];exact e) λ_ z=>z
 have k:∀{j:List Cell}{g:List Addr},(∀a∈g,a∈α)->aK (λc a=>g_ κ (aq α Z H) H a c) j g->aK (λc a=>g_ κ (aq α Z (upd H f o)) (upd H f o) a c) j g:=by
  intro j g i p
  induction p with
  |nil=>exact .nil
  |@cons c a j g r t s=>
   have l:a≠f:=λq=>m (q▸i a (by simp))
   exact .cons (r.imp mono (λu e=>by rw[aH l];exact e) λb w x e=>by rw[aH (λq=>n w x (by rw[←q];exact e))];exact e) (s λb y=>i b (by simp[y]))
 exact⟨⟨S.sP,k (λa h=>h) S.yu,S.sep,λa z=>by rw[aH (λ(q:a=f)=>hz (by rw[←q];exact z))];exact S.dom a z⟩,mono⟩
end
section
variable{X:Cx}{κ:Str->Addr->Prop}{Φ:gv}{tg iter elt:Expr}{ifs:List Expr}{scope:Scope}{tn cn:List Str}{cap:List Nat}{me mc:EM}{mi:IM}{nc:Bool}{pos:Pos}{n:Nat}
theorem uO{g:TG}(m0:vp X κ Φ tg iter mi)
  (n0:∀(d:D) (ds:List D) x p Z Ω H (m:L2.St) (k:L2.St->Hp->Prop),nV n d=some (ds.map some)->bR κ p Z Ω H->aq p Z H d x->(∀vs,aK (aq p Z H) ds vs->k (vs.map some++m) H)->g x (List.replicate tn.length none++m) H k)
  (hb:∀B C h j fp,PG (blk X scope B C (tn++cn) h j fp) tg g/\((ifs=[]/\nc=true)\/∃c,ifs=[c]/\nc=false/\fL (blk X scope B C (tn++cn) h j fp) κ pE c mc)/\bx (blk X scope B C (tn++cn) h j fp) κ pE elt me) :
  ∀V Z0 H0 ρ Ω,∃wi tc te,PI X tg iter wi/\(∀B C h j fp,PG (blk X scope B C (tn++cn) h j fp) tg g/\zc (blk X scope B C (tn++cn) h j fp) ifs tc/\PE (blk X scope B C (tn++cn) h j fp) elt te) /\
   ∀σ H Q,tO κ Φ V Z0 H0 (bo me nc mc mi n cap) ρ Ω σ H Q->mw wi tn.length cap g tc te σ H Q:=by
 intro V Z0 H0 ρ Ω
 let tc:TT:=λm H Q=>∃p Z Ω r,cU κ p Z H p Z Ω r m H/\oz κ pE p Z H (hG nc mc r Ω) Q
 let te:TE:=λm H Q=>∃p Z Ω r,cU κ p Z H p Z Ω r m H/\cg κ pE p Z H (me r Ω) Q
 have p0:∀B C h j fp,PG (blk X scope B C (tn++cn) h j fp) tg g/\zc (blk X scope B C (tn++cn) h j fp) ifs tc/\PE (blk X scope B C (tn++cn) h j fp) elt te:=by
  intro B C h j fp;obtain⟨h1,h2,h3⟩:=hb B C h j fp;refine⟨h1,?_,?_⟩
  .rcases h2 with ⟨e,hn⟩|⟨c,e,hn,h2⟩
   .subst e
    intro pins s m H Q I q;obtain⟨p,Z,Ω,r,S,k⟩:=q;rw[hG,if_pos hn]at k;exact zd pins s m H Q I (k H p Z (cH.refl S.st.has) S.st)
   .subst e
    intro pins s m H Q I q;obtain⟨p,Z,Ω,r,S,k⟩:=q;rw[hG,if_neg (by rw[hn];exact Bool.false_ne_true)]at k
    exact ze (h2 p Z H r Ω) pins s m H Q I ⟨p,Z,S,k⟩
  .intro pins s m H Q I q
   obtain⟨p,Z,Ω,r,S,k⟩:=q;exact h3 p Z H r Ω pins s m H Q I ⟨p,Z,S,k⟩
 refine⟨_,tc,te,m0 V Z0 H0 ρ Ω,p0,?_⟩;rintro σ H Q ⟨p,Z,S,k⟩;refine⟨p,Z,S,?_⟩;simp only[bo]at k;cases qi:mi ρ Ω with
 |exc x Y=>rw[qi]at k;exact k
 |bad=>rw[qi]at k;exact k.elim
 |ok a0 Y=>
  rw[qi]at k;dsimp only at k;intro J H1 K Z1 g1 s1 w1 E hD;cases qg:ti nc mc me n (dW cap ρ) a0 fuel 0 [] Y with
  |exc x e0=>rw[qg]at k;exact k.elim
  |bad=>rw[qg]at k;exact k.elim
  |ok ys e0=>
   rw[qg]at k;dsimp only at k;have R:¬ Z1 E:=λz=>s1.dom E z hD
   have A:E∉K:=λz=>s1.has E z hD
   refine⟨λi f vs T=>∃t U w F,cH K Z1 H1 t U T/\bR κ t U w T/\E∉t/\¬ U E/\T E=some (.lst vs)/\aK (aq t U T) F vs/\ti nc mc me n (dW cap ρ) a0 f i F w=.ok ys e0,
    ⟨fuel,K,Z1,Y,[],?_,?_,A,R,aU,.nil,qg⟩,?_⟩
   .exact⟨λ_ _ e=>e,λ_ z=>z,λ_ z=>.inl z,λ_ z=>.inl z,λa o e _=>by rw[aH (bg e hD)];exact e,λa ha=>by rw[aH (λ(q:a=E)=>A (by rw[←q];exact ha))];exact s1.has a ha,λa o u e=>by rw[aH (bg e hD)];exact e⟩
   .exact(s1.side A R λo u z=>by rw[hD]at z;cases z).1
   rintro i f vs T ⟨t,U,w,F,G,s2,nD,nZ,L,r2,l⟩;refine⟨L,?_⟩;cases f with
   |zero=>cases l
   |succ f=>
    simp only[ti]at l;cases qs:eN a0 w with
    |none=>rw[qs]at l;cases l
    |some ds=>
     rw[qs]at l;dsimp only at l;obtain⟨q0,r0⟩:=w1 t U w T ds G s2 qs;cases qd:ds[i]? with
     |none=>
      rw[qd]at l;cases l;have hi:ds.length<=i:=List.getElem?_eq_none_iff.mp qd;refine .inl ⟨r0 i hi,?_⟩;have sf:=s2.part L nD nZ r2
      have gA:cH K Z1 H1 (t++[E]) U T:=⟨λn a e=>by rw[List.getElem?_append_left (List.getElem?_eq_some_iff.mp (G.pre n a e)).1];exact G.pre n a e,G.sub,G.new,λa ha=>by
       rcases List.mem_append.mp ha with ha|ha
       .exact G.CZ a ha
       .rw[List.mem_singleton.mp ha];exact .inr hD,G.frm,G.has,G.dI⟩
      exact k _ T _ U (g1.trans gA) sf (eJ s2 E)
     |some d=>
      rw[qd]at l;dsimp only at l;obtain⟨s0,t0⟩:=q0 i d qd;cases qt:nV n d with
      |none=>rw[qt]at l;cases l
      |some ts=>
       rw[qt]at l;dsimp only at l;obtain⟨es,rfl⟩:=z8 qt
       by_cases M:small (F.length+1)=true
       .rw[if_pos M]at l
        have M:=bE M;refine .inr ⟨s0,by rw[r2.length];omega,λx H3 yl=>?_⟩
        obtain⟨Z3,g3,s3,rx⟩:=t0 x H3 yl;have u0:=g3.Dj nZ L;have b0:=g3.frm E _ L nD;refine n0 d es x t Z3 w H3 (pa cap σ) _ qt s3 rx λws f0=>?_
        have gB:=g1.trans (G.trans g3);have SB:=pF (cap:=cap) S gB s3 f0;refine⟨t,Z3,w,_,SB,?_⟩;cases qc:hG nc mc (es.map some++dW cap ρ) w with
        |exc x N=>rw[qc]at l;cases l
        |bad=>rw[qc]at l;cases l
        |ok b N=>
         rw[qc]at l;intro H5 g0 Z5 O s5;have c0:=O.BP nD b0;have h0:=O.Dj u0 b0;have P:=O.frm E _ b0 nD;cases b with
         |false=>
          refine oW ?_;exact⟨f,Nat.lt_succ_self _,g0,Z5,N,F,G.trans (g3.trans O),s5,c0,h0,P,s3.ju O (s2.ju g3 r2),l⟩
         |true=>
          refine oX ?_;dsimp only at l;have SC:=pF (cap:=cap) S (gB.trans O) s5 (s3.ju O f0);refine⟨g0,Z5,N,_,SC,?_⟩;cases qe:me (es.map some++dW cap ρ) N with
          |exc x i0=>rw[qe]at l;cases l
          |bad=>rw[qe]at l;cases l
          |ok y i0=>
           rw[qe]at l;intro v H6 v0 Z6 g6 s6 rv;have j0:=g6.BP c0 P;have k0:=g6.Dj h0 P;have l0:=g6.frm E _ P c0;obtain⟨s7,m7⟩:=s6.side (o:=.lst (vs++[v])) j0 k0 (λo u z=>by rw[l0]at z;cases z)
           refine⟨l0,f,Nat.lt_succ_self _,v0,Z6,i0,F++[y],((G.trans (g3.trans O)).trans g6).side A hD,s7,j0,k0,aU,?_,l⟩;exact((s5.ju g6 (s3.ju O (s2.ju g3 r2))).append (.one rv)).imp m7
       .rw[if_neg M]at l;cases l
theorem kT{x:Str}{j:Pos}(l:vp X κ Φ (.Name x j) iter mi)(w:scope.names.lookup x=some .local)(m:([x]++cn).Nodup)
  (z:∀h C b f fp,((ifs=[]/\nc=true)\/∃c,ifs=[c]/\nc=false/\fL (blk X scope h C ([x]++cn) b f fp) κ pE c mc)/\bx (blk X scope h C ([x]++cn) b f fp) κ pE elt me) :
  ∀n A B ρ Ω,∃p q s,PI X (.Name x j) iter p/\(∀h C b f fp,PG (blk X scope h C ([x]++cn) b f fp) (.Name x j) (hJ 0)/\zc (blk X scope h C ([x]++cn) b f fp) ifs q/\PE (blk X scope h C ([x]++cn) b f fp) elt s) /\
   ∀t H Q,tO κ Φ n A B (bo me nc mc mi 0 cap) ρ Ω t H Q->mw p [x].length cap (hJ 0) q s t H Q:=by
 have u:(relabel scope X.env).names.lookup x=some .local:=lookup_relabel_local w;refine uO (g:=hJ 0) (tn:=[x]) l (λd o y J Z Ω H D k i S E F=>?_) λh C b f fp=>?_
 .have i:some [some d]=some (o.map some):=i
  have e:o=[d]:=by
   injection i with i;cases o with
   |nil=>cases i
   |cons a r=>
    cases r with
    |nil=>simp only[List.map_cons,List.map_nil,List.cons.injEq,Option.some.injEq,and_true]at i;rw[i]
    |cons _ _=>cases i
  subst e;exact F [y] (.one E)
 .obtain⟨G,I⟩:=z h C b f fp
  exact⟨mX (X:=blk X scope h C ([x]++cn) b f fp) m rfl (.inl u) (.inr u),G,I⟩
theorem xk{x:Str}{g:Pos}(i:X.calm=true)(B:jq X scope [x] cn cap)(j:∀z,foldedSetIterable iter X.env z=pure z)(d:vp X κ Φ (.Name x g) iter mi)(k:scope.names.lookup x=some .local)(e:([x]++cn).Nodup)
  (l:∀h C a b fp,((ifs=[]/\nc=true)\/∃c,ifs=[c]/\nc=false/\fL (blk X scope h C ([x]++cn) a b fp) κ pE c mc)/\bx (blk X scope h C ([x]++cn) a b fp) κ pE elt me) :
  bx X κ Φ (.ListComp elt [⟨.Name x g,iter,ifs,0⟩] scope pos) (bo me nc mc mi 0 cap):=by
 intro f m n o p;obtain⟨t,u,w,q,r,s⟩:=kT (cap:=cap) d k e l f m n o p;exact PE.imp (zf i B q j (jr 1 (by decide)) r) s
end
inductive eS where
 |nx (ρ:aS) (Ω:aD)|bk (ρ:aS) (Ω:aD)|ct (ρ:aS) (Ω:aD)|rt (d:D) (Ω:aD)|exc (x:D) (Ω:aD)|bad
abbrev SM:=aS->aD->eS
def ey(κ:Str->Addr->Prop)(Φ:gv)(b:List Addr)(e:Addr->Prop)(f:Hp)(E:Ends):eS->Prop
 |.nx ρ Ω=>∀c H a Z,cU κ b e f a Z Ω ρ c H->E.nx c H
 |.bk ρ Ω=>∀c H a Z,cU κ b e f a Z Ω ρ c H->E.bk c H
 |.ct ρ Ω=>∀c H a Z,cU κ b e f a Z Ω ρ c H->E.ct c H
 |.rt d Ω=>∀v H a Z,cH b e f a Z H->bR κ a Z Ω H->aq a Z H d v->E.rt v H
 |.exc x Ω=>∀H a Z,cH b e f a Z H->bR κ a Z Ω H->Φ x Ω a Z H
 |.bad=>False
noncomputable def Gn(κ:Str->Addr->Prop)(Φ:gv)(a:List Addr)(b:Addr->Prop)(d:Hp)(c:SM)(ρ:aS)(Ω:aD):TS:=λE e H=>∃f Z,cU κ a b d f Z Ω ρ e H/\ey κ Φ a b d E (c ρ Ω)
def pG(X:Cx)(κ:Str->Addr->Prop)(Φ:gv)(st:Stmt)(c:SM):Prop:=∀a b d e f,PS X st (Gn κ Φ a b d c e f)
def lT(X:Cx)(κ:Str->Addr->Prop)(Φ:gv)(a:List Stmt)(c:SM):Prop:=∀b d e f g,jk X a (Gn κ Φ b d e c f g)
noncomputable def cm{c:Type}(r:ay c)(k:c->aD->eS):eS:=match r with
 |.ok a b=>k a b
 |.exc x b=>.exc x b
 |.bad=>.bad
noncomputable def ai:SM:=λa b=>.nx a b
noncomputable def ag(a b:SM):SM:=λe f=>match a e f with
 |.nx c d=>b c d
 |r=>r
def ax(i:Nat)(m:EM):SM:=λb c=>cm (m b c) λd a=>.nx (b.set i (some d)) a
def bC(m:EM):SM:=λb c=>cm (m b c) λ_ a=>.nx b a
def aZ(m:EM):SM:=λb c=>cm (m b c) λd a=>.rt d a
def dc(m:EM)(a b:SM):SM:=λd e=>cm (cB (m d e)) λt c=>if t=true then a d c else b d c
noncomputable def bW:SM:=λ_ _=>.bad
def eO(m:EM)(b:SM):Nat->SM
 |0,_,_=>.bad
 |f+1,ρ,Ω=>cm (cB (m ρ Ω)) λt aM=>if t=true then (match b ρ aM with
  |.nx a ao=>eO m b f a ao
  |.ct a ao=>eO m b f a ao
  |.bk a ao=>.nx a ao
  |r=>r)else .nx ρ aM
def jd(m:EM)(b:SM):SM:=eO m b fuel
noncomputable def fQ:List Nat->List D->aS->aS
 |i::a,d::ds,ρ=>fQ a ds (ρ.set i (some d))
 |_,_,ρ=>ρ
noncomputable def bp(i:Nat)(d:D)(ρ:aS):Option aS:=some (ρ.set i (some d))
def fx(a:List Nat)(d:D)(ρ:aS):Option aS:=match d with
 |.tup b=>if b.length=a.length then some (fQ a b ρ)else none
 |_=>none
def eP(c:D->aS->Option aS)(src:Src)(b:SM):Nat->Nat->SM
 |0,_,_,_=>.bad
 |f+1,i,ρ,Ω=>match eN src Ω with
  |none=>.bad
  |some ds=>match ds[i]? with
   |none=>.nx ρ Ω
   |some d=>match c d ρ with
    |none=>.bad
    |some e=>match b e Ω with
     |.nx a ao=>eP c src b f (i+1) a ao
     |.ct a ao=>eP c src b f (i+1) a ao
     |.bk a ao=>.nx a ao
     |r=>r
def bX(a:D->aS->Option aS)(mi:IM)(b:SM):SM:=λd e=>cm (mi d e) λs c=>eP a s b fuel 0 d c
def rp(e:List Nat)(m:EM):SM:=λc f=>cm (m c f) λd a=>match fx e d c with
 |some b=>.nx b a
 |none=>.bad
section
variable{X:Cx}{κ:Str->Addr->Prop}{Φ:gv}{α α' ia α1:List Addr}{Z Z' Z0 Z1:Addr->Prop}{Ω ao:aD}{H H' H0 H1:Hp}{ρ:aS}{σ:L2.St}{E:Ends}{a b e ce o tg:Expr}{st:Stmt}{rest ta tb:List Stmt}{m:EM}{mi:IM}{ca cb:SM}{pos pos':Pos}
theorem cU.set(S:cU κ ia Z0 H0 α Z Ω ρ σ H){d:D}{v:V}(r:aq α Z H d v)(i:Nat):cU κ ia Z0 H0 α Z Ω (ρ.set i (some d)) (σ.set i (some v)) H:=by
 refine⟨S.st,S.gr,by simp[S.len],λj c h=>?_⟩
 by_cases a:i=j
 .subst a
  have b:i<ρ.length:=by
   have:=(List.getElem?_eq_some_iff.mp h).1;simpa using this
  rw[List.getElem?_set_self b]at h;cases h;exact⟨v,by rw[List.getElem?_set_self (by rw[S.len];exact b)],r⟩
 .rw[List.getElem?_set_ne a]at h ⊢
  exact S.val j c h
theorem ey.use{r:ay D}{k:D->aD->eS}{Q:VK}(S:cU κ ia Z0 H0 α Z Ω ρ σ H)(f:ey κ Φ ia Z0 H0 E (cm r k))(h:∀d aM v b a c,r=.ok d aM->cH α Z H a c b->cU κ ia Z0 H0 a c aM ρ σ b->aq a c b d v->ey κ Φ ia Z0 H0 E (k d aM)->Q v b):cg κ Φ α Z H r Q:=by
 cases r with
 |ok d aM=>exact λv b a c g s q=>h d aM v b a c rfl g (S.grow g s) q f
 |exc x aM=>exact λb a c g s=>f b a c (S.gr.trans g) s
 |bad=>exact f
theorem ey.Gp{r:ay Bool}{k:Bool->aD->eS}{Q:Bool->Hp->Prop}(S:cU κ ia Z0 H0 α Z Ω ρ σ H)(f:ey κ Φ ia Z0 H0 E (cm r k))(h:∀t aM b a c,r=.ok t aM->cH α Z H a c b->cU κ ia Z0 H0 a c aM ρ σ b->ey κ Φ ia Z0 H0 E (k t aM)->Q t b):oz κ Φ α Z H r Q:=by
 cases r with
 |ok d aM=>exact λb a c g s=>h d aM b a c rfl g (S.grow g s) f
 |exc x aM=>exact λb a c g s=>f b a c (S.gr.trans g) s
 |bad=>exact f
theorem jk.ex{c:Type}{t:c->TS}{a:List Stmt}(h:∀i,jk X a (t i)):jk X a (λD b H=>∃i,t i D b H):=λpins s b H D I ⟨i,q⟩=>h i pins s b H D I q
theorem z9:lT X κ Φ [] ai:=by
 intro a d e g h;refine jk.imp yA ?_;rintro E b H ⟨c,Z,S,f⟩;exact f b H c Z S
theorem xl(k:pG X κ Φ st ca)(l:lT X κ Φ rest cb):lT X κ Φ (st::rest) (ag ca cb):=by
 intro c g h i j;refine jk.imp (vz (k c g h i j) (jk.ex λp:aS×aD=>l c g h p.1 p.2)) ?_
 rintro E s H ⟨m,Z,S,f⟩;refine⟨m,Z,S,?_⟩;simp only[ag]at f;cases q:ca i j with
 |nx b a=>rw[q]at f;exact λn t e o r=>⟨(b,a),e,o,r,f⟩
 |bk b a=>rw[q]at f;exact f
 |ct b a=>rw[q]at f;exact f
 |rt d a=>rw[q]at f;exact f
 |exc x a=>rw[q]at f;exact f
 |bad=>rw[q]at f;exact f.elim
theorem z_(h:bx X κ Φ e m):pG X κ Φ (.Return (some e) pos) (aZ m):=by
 intro a i j k l;refine PS.imp (Ck (h a i j k l)) ?_;rintro E t H ⟨n,Z,S,f⟩;exact⟨n,Z,S,ey.use S f λd o v p b q _ g c r s=>s v p b q c.gr c.st r⟩
theorem tj{i:Nat}{x:Str}(c:X.N.Nodup)(j:X.N[i]?=some x)(k:Loc X.env.scope x)(l:X.fn x=true\/X.env.scope.names.lookup x=some .local)(n:swapsWith e (some (.Name x pos')) pos.line X.env=pure false)(h:bx X κ Φ e m) :
  pG X κ Φ (.Assign [.Name x pos'] e pos) (ax i m):=by
 intro a o p q s;refine PS.imp (Cp c j k (h a o p q s) n l) ?_;rintro E B H ⟨t,Z,S,f⟩;exact⟨t,Z,S,ey.use S f λd u v w b y _ g z r A=>A _ w b y (z.set r i)⟩
theorem xm{i:Nat}{x:Str}{k iter p:Expr}{l:List Expr}{scope:Scope}{tn q:List Str}{cap:List Nat}{g:TG}(G:X.N.Nodup)(I:X.N[i]?=some x)(J:X.env.scope.names.lookup x=some .local)
  (s:swapsWith (.ListComp k [⟨p,iter,l,0⟩] scope pos) (some (.Name x pos')) pos'.line X.env=pure true) (K:X.calm=true) (B:jq X scope tn q cap) (L:∀x,foldedSetIterable iter X.env x=pure x)
  (t:∀v c H Q,g v c H Q->g v c H λn M=>Q n M/\n.length=c.length/\∀j,tn.length<=j->n[j]?=c[j]?)
  (h:∀o u w ρ Ω,∃y z A,PI X p iter y/\(∀D C a b fp,PG (blk X scope D C (tn++q) a b fp) p g/\zc (blk X scope D C (tn++q) a b fp) l z/\PE (blk X scope D C (tn++q) a b fp) k A) /\
   ∀c H Q,tO κ Φ o u w m ρ Ω c H Q->mw y tn.length cap g z A c H Q) {e:Pos} (O:e.line=pos'.line) :
  pG X κ Φ (.Assign [.Name x pos'] (.ListComp k [⟨p,iter,l,0⟩] scope pos) e) (ax i m):=by
 intro o u w ρ Ω;obtain⟨y,z,A,P,R,T⟩:=h o u w ρ Ω;refine PS.imp (qS G I J (by rw[O];exact s) K B P L t R) ?_
 rintro E c H ⟨U,Z,S,f⟩;exact T c H _ ⟨U,Z,S,ey.use S f λd V v Y F Z1 _ g S1 r f1=>f1 _ Y F Z1 (S1.set r i)⟩
theorem Aa(c:swapsWith e none pos.line X.env=pure false)(h:bx X κ Φ e m):pG X κ Φ (.Expr e pos) (bC m):=by
 intro a i j k l;refine PS.imp (yB (h a i j k l) c) ?_;rintro E u H ⟨n,Z,S,f⟩;exact⟨n,Z,S,ey.use S f λd o v p b q _ g s r t=>t _ p b q s⟩
theorem Dk(n:fL X κ Φ e m)(o:lT X κ Φ ta ca)(p:lT X κ Φ tb cb):pG X κ Φ (.If e ta tb pos) (dc m ca cb):=by
 intro b h i j q;refine PS.imp (Fq (n b h i j q) (jk.ex λa=>o b h i j a) (jk.ex λa=>p b h i j a)) ?_
 rintro E s H ⟨r,Z,S,f⟩;refine⟨r,Z,S,ey.Gp S f λt a u c k _ g l d=>?_⟩
 cases t with
 |true=>rw[if_pos rfl]at d;exact oX ⟨a,c,k,l,d⟩
 |false=>rw[if_neg Bool.false_ne_true]at d;exact oW ⟨a,c,k,l,d⟩
theorem mM:pG X κ Φ st bW:=λa b c d e pins s g H E I ⟨h,Z,S,f⟩=>f.elim
theorem uP(L:PassesOwn (model X.prog X.w) X.A X.env X.xe)(M:fL X κ Φ e m)(N:lT X κ Φ tb cb):pG X κ Φ (.While e tb [] pos) (jd m cb):=by
 intro b o r j k;refine PS.imp (vB L (PT.ex λp:aS×aD=>M b o r p.1 p.2) (jk.ex λp:aS×aD=>N b o r p.1 p.2)) ?_
 rintro E I H ⟨s,Z,S,f⟩;refine⟨λf I H=>∃s Z j k,cU κ b o r s Z k j I H/\ey κ Φ b o r E (eO m cb f j k),⟨fuel,s,Z,j,k,S,f⟩,?_⟩
 rintro f O R ⟨z,P,l,B,J,C⟩;cases f with
 |zero=>exact C.elim
 |succ f=>
  simp only[eO]at C;refine⟨(l,B),z,P,J,ey.Gp J C λt u T D Q _ g K a=>?_⟩
  cases t with
  |false=>
   rw[if_neg Bool.false_ne_true]at a;exact oW (a _ _ _ _ K)
  |true=>
   rw[if_pos rfl]at a;refine oX ⟨λh y=>∃s Z j k,cU κ b o r s Z k j h y/\ey κ Φ b o r E (eO m cb f j k),λh y q=>⟨f,Nat.lt_succ_self f,q⟩,(l,u),D,Q,K,?_⟩
   cases q:cb l u with
   |nx i c=>rw[q]at a;exact λh y n F G=>⟨n,F,i,c,G,a⟩
   |ct i c=>rw[q]at a;exact λh y n F G=>⟨n,F,i,c,G,a⟩
   |bk i c=>rw[q]at a;exact a
   |rt d c=>rw[q]at a;exact a
   |exc x c=>rw[q]at a;exact a
   |bad=>rw[q]at a;exact a.elim
def xn(κ:Str->Addr->Prop)(e:D->aS->Option aS)(g:TG):Prop:=
 ∀(d:D) (x:V) a h i f Z j l b m H (k:L2.St->Hp->Prop),cU κ a h i f Z j l m H->aq f Z H d x->e d l=some b->(∀c,cU κ a h i f Z j b c H->k c H)->g x m H k
theorem tm{p:D->aS->Option aS}{g:TG}(hp:PassesOwn (model X.prog X.w) X.A X.env X.xe)(hc:X.calm=true)(hi:vp X κ Φ tg e mi)(hg:PG X tg g)(a0:xn κ p g)(hb:lT X κ Φ tb cb)(hs:∀x,foldedSetIterable e X.env x=pure x):pG X κ Φ (.For tg e tb [] pos) (bX p mi cb):=by
 intro j C F B M;have b0:jk X tb (λD Q H=>∃a n t c h,Gn κ Φ a n t cb c h D Q H):=λpins s Q H D I ⟨a,n,t,c,h,q⟩=>hb a n t c h pins s Q H D I q
 refine PS.imp (Cr hp hc (hi j C F B M) hg b0 hs) ?_;rintro E Q H ⟨α,Z,S,f⟩;refine⟨α,Z,S,?_⟩;simp only[bX]at f;cases qi:mi B M with
 |exc x N=>rw[qi]at f;exact λt a n g s=>f t a n (S.gr.trans g) s
 |bad=>rw[qi]at f;exact f.elim
 |ok G N=>
  rw[qi]at f;have f:ey κ Φ j C F E (eP p G cb fuel 0 B N):=f;intro J t a n g1 s1 w1;have S1:=S.grow g1 s1;refine⟨λi f Q H=>∃k R B M,cU κ j C F k R M B Q H/\cH a n t k R H/\ey κ Φ j C F E (eP p G cb f i B M),⟨fuel,a,n,B,N,S1,cH.refl s1.has,f⟩,?_⟩
  rintro i f T H2 ⟨k,R,U,u,S2,g2,b⟩;cases f with
  |zero=>exact b.elim
  |succ f=>
   simp only[eP]at b;cases qs:eN G u with
   |none=>rw[qs]at b;exact b.elim
   |some ds=>
    rw[qs]at b;dsimp only at b;obtain⟨c0,e0⟩:=w1 k R u H2 ds g2 S2.st qs;cases Y:ds[i]? with
    |none=>
     rw[Y]at b;exact .inl ⟨e0 i (List.getElem?_eq_none_iff.mp Y),b T H2 k R S2⟩
    |some d=>
     rw[Y]at b;dsimp only at b;obtain⟨f0,g0⟩:=c0 i d Y;cases qp:p d U with
     |none=>rw[qp]at b;exact b.elim
     |some K=>
      rw[qp]at b;dsimp only at b;refine .inr ⟨f0,λl o=>∃z O B M,cU κ j C F z O M B l o/\cH a n t z O o/\ey κ Φ j C F E (eP p G cb f (i+1) B M),λl o q=>⟨f,Nat.lt_succ_self f,q⟩,λx H3 yl=>?_⟩
      obtain⟨O,g3,s3,rx⟩:=g0 x H3 yl;have S3:=S2.grow g3 s3;refine a0 d x j C F k O u U K T H3 _ S3 rx qp λh0 S4=>?_
      have base:cH j C F a n t:=S1.gr;have gL:cH a n t k O H3:=g2.trans g3;have S5:cU κ a n t k O u K h0 H3:=⟨S4.st,gL,S4.len,S4.val⟩;have P:∀{z Z4 V c l o},cU κ a n t z Z4 V c l o->cU κ j C F z Z4 V c l o:=λy=>⟨y.st,base.trans y.gr,y.len,y.val⟩
      refine⟨a,n,t,K,u,k,O,S5,?_⟩;cases q:cb K u with
      |nx c h=>rw[q]at b;exact λl o m L y=>⟨m,L,c,h,P y,y.gr,b⟩
      |ct c h=>rw[q]at b;exact λl o m L y=>⟨m,L,c,h,P y,y.gr,b⟩
      |bk c h=>rw[q]at b;exact λl o m L y=>b l o m L (P y)
      |rt d h=>rw[q]at b;exact λv o m L g s r=>b v o m L (base.trans g) s r
      |exc x h=>rw[q]at b;exact λo m L g s=>b o m L (base.trans g) s
      |bad=>rw[q]at b;exact b.elim
theorem Dl(i:Nat):xn κ (bp i) (hJ i):=λd x a c f g Z j l b m H k S r e h=>by
 cases e;exact h _ (S.set r i)
theorem kU:∀(a:List Nat) (ds:List D) (vs:List V) {ρ:aS}{b:L2.St},aK (aq α Z H) ds vs->ds.length=a.length->cU κ ia Z0 H0 α Z Ω ρ b H->∀(k:L2.St->Hp->Prop),(∀c,cU κ ia Z0 H0 α Z Ω (fQ a ds ρ) c H->k c H)->i8 a vs b H k
 |[],[],vs,ρ,b,r,_,S,k,h=>by rw[r.nil_inv];exact⟨rfl,h b S⟩
 |i::a,d::ds,vs,ρ,b,r,e,S,k,h=>by
  obtain⟨v,ws,rfl,f,g⟩:=r.cons_inv;exact⟨v,ws,rfl,kU a ds ws g (by simpa using e) (S.set f i) k h⟩
 |[],_::_,_,_,_,_,e,_,_,_=>by simp at e
 |_::_,[],_,_,_,_,e,_,_,_=>by simp at e
theorem xo{K:PySem.W.Frag}(b:List Nat):xn κ (fx b) (yD K b.length (i8 b)):=λd x i n o p Z q s j t H k S r e h=>by
 cases d with
 |tup l=>
  simp only[fx]at e;split at e
  .rename_i c
   cases e;obtain⟨a,f,rfl,_,m,g⟩:=ew r;exact⟨a,f,rfl,uv (.inl m),by rw[g.length];exact c,kU b l f g c S k h⟩
  .cases e
 |_=>cases e
theorem Ab{es:List Expr}{j:Nat}{p pos:Pos}{c:List Nat}(x:PG X (.Tuple es j p) (yD X.K c.length (i8 c)))(o:wM e=true)(h:bx X κ Φ e m):pG X κ Φ (.Assign [.Tuple es j p] e pos) (rp c m):=by
 intro a q s t y;refine PS.imp (Co (h a q s t y) x (by cases e<;>first|rfl | (cases o)) (by cases e<;>first|rfl | (cases o))) ?_
 rintro E z H ⟨A,Z,S,f⟩;refine⟨A,Z,S,ey.use S f λd i v u b w _ g B r k=>?_⟩
 split at k
 .rename_i l C
  exact xo (K:=X.K) c d v a q s b w i t l z u _ B r C λn D=>k n u b w D
 .exact k.elim
end
abbrev ba:=List D->aD->ay D
def dX(κ:Str->Addr->Prop)(F:ba):Sp:=λd H Q _=>∃a Z b c,bR κ a Z b H/\aK (aq a Z H) c d/\cg κ pE a Z H (F c b) Q
noncomputable def iV{a:Type}(r:ay a):ay a:=match r with
 |.ok d b=>.ok d b
 |_=>.bad
def aG(F:ba):ba:=λa b=>iV (F a b)
structure xp(X:Cx)(κ:Str->Addr->Prop)(k:Nat)(x:Str)(F:ba):Prop where
 ex:∃(f:Addr) (fd:FuncData) (ps:List Str),X.mg x=some (.ref f)/\PySem.W.keepIn X.K (.ref f)=true/\Binds X.K fd ps []/\c_ X.prog X.w X.K X.mg X.base jO k f fd ps (dX κ F)
noncomputable def pH(Ω:aD):D->Option (Nat×Str×List (Str×D))
 |.ref k=>match Ω[k]? with
  |some (.ins C fs)=>some (k,C,fs)
  |_=>none
 |_=>none
def dm(Cs:List Str)(f:Str)(x:D)(Ω:aD):ay D:=match pH Ω x with
 |some (_,C,a)=>if Cs.contains C then (match a.lookup f with
  |some d=>.ok d Ω
  |none=>.bad)else .bad
 |none=>.bad
noncomputable def mO(f:Str)(v:D):List (Str×D)->List (Str×D)
 |[]=>[(f,v)]
 | (g,x)::r=>if g=f then (g,v)::r else (g,x)::mO f v r
def aF(C m:Str)(F:ba)(mo:EM)(d:AM):EM:=λc e=>(mo c e).bind λx a=>match pH a x with
 |some (_,f,g)=>if f=C/\g.lookup m=none then (d c a).bind λh b=>aG F (x::h) b else .bad
 |none=>.bad
noncomputable def lU(C:Str)(F:ba)(xs:List D)(Ω:aD):ay D:=match F (.ref Ω.length::xs) (Ω++[.ins C []])with
 |.ok .non a=>.ok (.ref Ω.length) a
 |_=>.bad
def eh(Cs:List Str)(f:Str)(mo mv:EM):SM:=λb e=>cm (mv b e) λy c=>cm (mo b c) λx a=>match pH a x with
 |some (k,C,d)=>if Cs.contains C&&decide (d.length<1000)then .nx b (a.set k (.ins C (mO f y d)))else .bad
 |none=>.bad
def jx(x y v:D)(Ω:aD):Option aD:=match x with
 |.ref k=>match Ω[k]? with
  |some (.dK a)=>match nK y with
   |some b=>if small (a.length+1)then some (Ω.set k (.dK (dN a b v)))else none
   |none=>none
  |some (.dT a)=>match wZ y with
   |some b=>if small (a.length+1)then some (Ω.set k (.dT (dN a b v)))else none
   |none=>none
  |some (.lst c)=>match y with
   |.int i=>match L2.vQ c.length i with
    |some n=>some (Ω.set k (.lst (c.set n v)))
    |none=>none
   |_=>none
  |_=>none
 |_=>none
def dO(md mk mv:EM):SM:=λa f=>cm (mv a f) λv b=>cm (md a b) λx c=>cm (mk a c) λy d=>match jx x y v d with
 |some e=>.nx a e
 |none=>.bad
section
variable{X:Cx}{κ:Str->Addr->Prop}{Φ:gv}{α α' ia α1:List Addr}{Z Z' Z0 Z1:Addr->Prop}{Ω ao:aD}{H H' H0 H1:Hp}{ρ:aS}{σ:L2.St}{Q:VK}{E:Ends}{a b e ce o tg:Expr}{es:List Expr}{st:Stmt}{rest ta tb:List Stmt}{m mo mv ma md mk:EM}{as:AM}{ca cb:SM}{pos pos' p apos:Pos}{F:ba}{C:Str}
theorem cg.ok0{r:ay D}(h:cg κ Φ α Z H (iV r) Q):cg κ pE α Z H r Q:=by
 cases r with
 |ok d a=>exact h
 |exc x a=>exact h.elim
 |bad=>exact h
theorem xq{k:Nat}{x:Str}(F0:xp X κ k x F)(i:cL k X.A)(j:Gl X x)(a:(x==("__debug__":Str))=false)
  (l:starEach (e::es) X.env=(false,eval e X.env)::starEach es X.env) (b:(backTo pos (starEach es X.env)).any (·.1)=false) (m:qr X κ Φ (e::es) as) :
  bx X κ Φ (.Call (.Name x p) (e::es) [] pos) (mN (aG F) as):=by
 obtain⟨f,I,J,n,o,q,F1⟩:=F0.ex;intro c r s t u;refine PE.imp (sg F1 i j n o q .nil kq (m c r s t u) a l b) ?_;rintro K H Q ⟨w,Z,S,g⟩;refine⟨w,Z,S,pq.use g λy d _ z B h C L D E G=>?_⟩
 show dX κ F (z++[]) B Q E0
 rw[List.append_nil];exact⟨h,C,d,y,D,E,cg.ok0 G⟩
theorem uQ{k:Nat}{x:Str}(F0:xp X κ k x F)(b:cL k X.A)(c:Gl X x)(a:(x==("__debug__":Str))=false):bx X κ Φ (.Call (.Name x p) [] [] pos) (mN (aG F) ae):=by
 obtain⟨f,m,n,d,e,h,F1⟩:=F0.ex;intro i o q r j;refine PE.imp (vL F1 b c d e h .nil kq a) ?_;rintro s H Q ⟨l,Z,S,g⟩;exact⟨l,Z,j,[],S.st,.nil,cg.ok0 g⟩
theorem ib{R:D->V->Prop}{f:Str}:∀{b:List (Str×D)}{a:List (Str×V)},gb R b a->(∀d,b.lookup f=some d->∃v,a.lookup f=some v/\R d v)/\(b.lookup f=none->a.lookup f=none):=by
 intro b a h;unfold gb at h
 induction h with
 |nil=>exact⟨λd e=>(by cases e),λ_=>rfl⟩
 |@cons p q j l r t c=>
  obtain⟨g,i⟩:=r;obtain⟨k,d⟩:=p;obtain⟨m,v⟩:=q;cases g;rw[List.lookup_cons,List.lookup_cons];cases f==k with
  |true=>exact⟨λn e=>by cases e;exact⟨v,rfl,i⟩,λe=>by cases e⟩
  |false=>exact c
theorem xr{R:D->V->Prop}{f:Str}{d:D}{v:V}(r:R d v){c:List (Str×D)}{a:List (Str×V)}(h:gb R c a):gb R (mO f d c) (fG f v a):=by
 unfold gb at h
 induction h with
 |nil=>exact .cons ⟨rfl,r⟩ .nil
 |@cons p q j l b t g=>
  obtain⟨b,i⟩:=b;obtain⟨k,d⟩:=p;obtain⟨m,n⟩:=q;cases b;simp only[mO,fG]
  by_cases e:k=f
  .rw[if_pos e,if_pos e];exact .cons ⟨rfl,r⟩ t
  .rw[if_neg e,if_neg e];exact .cons ⟨rfl,i⟩ g
theorem iJ{x:D}{v:V}{k:Nat}{C:Str}{f:List (Str×D)}(S:bR κ α Z Ω H)(r:aq α Z H x v)(h:pH Ω x=some (k,C,f)):∃a d e b,v=.ref a/\x=.ref k/\α[k]?=some a/\κ C d/\H a=some (.ins d e b)/\gb (aq α Z H) f b:=by
 cases x with
 |ref n=>
  simp only[pH]at h;split at h
  .rename_i o b i
   cases h;simp only[aq]at r;obtain⟨a,g,rfl⟩:=r;obtain⟨p,c,d,e,b,j,l,m⟩:=S.cell i;rw[g]at c;cases c;exact⟨a,d,e,b,rfl,rfl,g,j,l,m⟩
  .cases h
 |_=>cases h
def je(K:PySem.W.Frag)(κ:Str->Addr->Prop)(Cs:List Str)(f:Str):Prop:=∀C a,Cs.contains C=true->κ C a->oH K a/\gm K a f
theorem Ac{f:Str}{Cs:List Str}(i:je X.K κ Cs f)(j:attributeBase o f X.env (eval o X.env)=eval o X.env)(l:bx X κ Φ o mo):bx X κ Φ (.Attribute o f pos) (m1 (dm Cs f) mo):=
 iB (r:=λx H Q=>∃a C b c v,x=.ref a/\H a=some (.ins C b c)/\oH X.K C/\gm X.K C f/\c.lookup f=some v/\Q v H) (λD m=>CB m j) l λb x E Z F H Q S n g=>by
  unfold dm at g;split at g
  .rename_i k C c p
   obtain⟨a,h,b,e,rfl,_,_,q,s,t⟩:=iJ S n p;split at g
   .rename_i u
    obtain⟨w,y⟩:=i C h u q;split at g
    .rename_i d z
     obtain⟨v,A,B⟩:=(ib t).1 d z;exact⟨a,h,b,e,v,rfl,s,w,y,A,cg.ret S B g⟩
    .exact g.elim
   .exact g.elim
  .exact g.elim
def BQ(P:Program)(w:World)(K:PySem.W.Frag)(mg:Str->Option Value)(base:Heap)(κ:Str->Addr->Prop)(k:Nat)(C m:Str)(F:ba)(c f:Addr)(d:FuncData)(ps:List Str):Prop:=
 (∀a,κ C a->a=c)/\oH K c/\Meth K c m f/\∃(e:List Value) (b:List V) (g:List D) (F1:ba),Binds K d ps e/\Vals b e/\(∀h Z H,aK (aq h Z H) g b)/\c_ P w K mg base jO k f d ps (dX κ F1)/\F=λi=>F1 (i++g)
structure tp(X:Cx)(κ:Str->Addr->Prop)(k:Nat)(C m:Str)(F:ba):Prop where
 ex:∃(Ca f:Addr) (fd:FuncData) (ps:List Str),BQ X.prog X.w X.K X.mg X.base κ k C m F Ca f fd ps
theorem xu{k:Nat}{m:Str}(M:tp X κ k C m F)(E:cL k X.A)(G:bx X κ Φ o mo)(I:qr X κ Φ (e::es) as){pl:Sem Bool}
  (h:starEach (e::es) X.env=(false,eval e X.env)::starEach es X.env) (i:(backTo pos (starEach es X.env)).any (·.1)=false)
  (J:eval (.Call (.Attribute o m apos) (e::es) [] pos) X.env=(do
   let w ←eval o X.env
   standAt apos.atName
   let (f,first) ←holding [w] (getMethod w m pl)
   callWith pos f first (backTo pos (starEach (e::es) X.env)) (backToKw pos (keywordEach [] X.env)))) :
  bx X κ Φ (.Call (.Attribute o m apos) (e::es) [] pos) (aF C m F mo as):=by
 obtain⟨Ca,f,fd,ps,K,j,L,N,O,Dd,F0,P,l,R,F1,rfl⟩:=M.ex;intro c y z B T;refine PE.imp (yL (G c y z B T) j L F1 E P l kq (PA.ex λb=>I c y z B b) h i J) ?_
 rintro σ H Q ⟨U,Z,S,g⟩;refine⟨U,Z,S,cg.use g λx b _ v H1 p V Y q D d=>?_⟩
 split at d
 .rename_i n C' fs hk
  split at d
  .rename_i hc
   obtain⟨rfl,hl⟩:=hc;obtain⟨a,r,dx,s,rfl,rfl,_,q1,q2,q3⟩:=iJ q D hk;obtain rfl:=K r q1;refine⟨a,dx,s,rfl,q2,(ib q3).2 hl,b,p,V,S.grow Y q,pq.use d λxs t _ vs H2 u Z2 g2 s2 r2 k2=>?_⟩
   exact⟨u,Z2,t,_,s2,.cons (q.dq g2 D) (r2.append (R _ _ _)),cg.ok0 k2⟩
  .exact d.elim
 .exact d.elim
theorem uR{k:Nat}{m:Str}(M:tp X κ k C m F)(s:cL k X.A)(t:bx X κ Φ o mo){pl:Sem Bool}
  (u:eval (.Call (.Attribute o m apos) [] [] pos) X.env=(do
   let p ←eval o X.env
   standAt apos.atName
   let (f,first) ←holding [p] (getMethod p m pl)
   callWith pos f first (backTo pos (starEach [] X.env)) (backToKw pos (keywordEach [] X.env)))) :
  bx X κ Φ (.Call (.Attribute o m apos) [] [] pos) (aF C m F mo ae):=by
 obtain⟨Ca,f,fd,ps,w,c,y,z,B,Dd,F0,D,d,E,F1,rfl⟩:=M.ex;intro e G I J K;refine PE.imp (vM (t e G I J K) c y F1 s D d kq u) ?_;rintro σ H Q ⟨L,Z,S,g⟩;refine⟨L,Z,S,cg.use g λx h _ v H1 i N g1 q r b=>?_⟩
 split at b
 .rename_i n C' fs O
  split at b
  .rename_i P
   obtain⟨rfl,R⟩:=P;obtain⟨a,j,T,l,rfl,rfl,_,U,V,Y⟩:=iJ q r O;obtain rfl:=w j U;exact⟨a,T,l,rfl,V,(ib Y).2 R,i,N,h,_,q,.cons r (E _ _ _),cg.ok0 b⟩
  .exact b.elim
 .exact b.elim
structure xv(X:Cx)(κ:Str->Addr->Prop)(k:Nat)(C:Str)(F:ba):Prop where
 ex:∃(Ca f:Addr) (fd:FuncData) (ps:List Str),κ C Ca/\Mk X.K Ca f/\X.mg C=some (.ref Ca)/\Binds X.K fd ps []/\c_ X.prog X.w X.K X.mg X.base jO k f fd ps (dX κ F)
theorem pI{xs:List D}{vs:List V}{b x a:Addr}(S:bR κ α Z Ω H)(r:aK (aq α Z H) xs vs)(e:κ C b)(g:cg κ Φ α Z H (lU C F xs Ω) Q)(y:H x=none)(f:H a=none)(h:a≠x) :
  dX κ F (.ref x::(vs++[])) (upd (upd H a (.own x)) x (.ins b a [])) (λv z=>v=.non/\Q (.ref x) z) E0:=by
 rw[List.append_nil];obtain⟨i,m⟩:=S.sQ (p:=a) (o:=.own x) f False;simp only[if_false]at i m;have j:upd H a (.own x) x=none:=by rw[aH (Ne.symm h)];exact y
 obtain⟨n,A⟩:=i.laid (p:=x) (o:=.ins b a []) (c:=.ins C []) j λR I=>⟨b,a,[],e,aU,.nil⟩
 have s:=m.trans A;have t:aq (α++[x]) Z (upd (upd H a (.own x)) x (.ins b a [])) (.ref Ω.length) (.ref x):=eJ i x;refine⟨α++[x],Z,Ω++[.ins C []],.ref Ω.length::xs,n,.cons t (S.ju s r),?_⟩;unfold lU at g;cases q:F (.ref Ω.length::xs) (Ω++[.ins C []])with
 |ok d k=>
  rw[q]at g;cases d with
  |non=>
   intro v B l E u G w;simp only[aq]at w;exact⟨w,g _ B l E (s.trans u) G (n.dq u t)⟩
  |_=>exact g.elim
 |exc x k=>rw[q]at g;exact g.elim
 |bad=>rw[q]at g;exact g.elim
theorem Ad{k:Nat}(M:xv X κ k C F)(j:cL (k+1) X.A)(l:Gl X C)(a:(C==("__debug__":Str))=false)
  (m:starEach (e::es) X.env=(false,eval e X.env)::starEach es X.env) (b:(backTo pos (starEach es X.env)).any (·.1)=false) (n:qr X κ Φ (e::es) as):bx X κ Φ (.Call (.Name C p) (e::es) [] pos) (mN (lU C F) as):=by
 obtain⟨J,f,K,L,c,o,q,r,F1⟩:=M.ex;intro d s t u w;refine PE.imp (yM o F1 j l q r .nil kq (n d s t u w) a m b) ?_;rintro N H Q ⟨y,Z,S,g⟩;exact⟨y,Z,S,pq.use g λO z _ P R B T U D E G x V I h i=>pI D E c G I h i⟩
theorem xw{k:Nat}(M:xv X κ k C F)(e:cL (k+1) X.A)(h:Gl X C)(a:(C==("__debug__":Str))=false):bx X κ Φ (.Call (.Name C p) [] [] pos) (mN (lU C F) ae):=by
 obtain⟨o,f,q,r,b,i,j,l,F1⟩:=M.ex;intro m s t u w;refine PE.imp (vO i F1 e h j l .nil kq a) ?_;rintro y H Q ⟨z,Z,S,g⟩;exact λx B n c d=>pI S.st .nil b g n c d
theorem Ae{f:Str}{Cs:List Str}(F:je X.K κ Cs f)(G:swapsWith e (some (.Attribute o f pos')) pos.line X.env=pure false)(I:bx X κ Φ o mo)(J:bx X κ Φ e mv):pG X κ Φ (.Assign [.Attribute o f pos'] e pos) (eh Cs f mo mv):=by
 intro d r s t L;refine PS.imp (CC (PE.ex λb=>I d r s t b) (J d r s t L) G) ?_
 rintro E M H ⟨N,Z,S,f⟩;refine⟨N,Z,S,ey.use S f λy b v H1 j O _ g1 l P Q=>⟨b,j,O,l,ey.use l Q λx T w H2 m U _ V n Y g=>?_⟩⟩
 split at g
 .rename_i k C fs hk
  obtain⟨a,i,p,h,rfl,rfl,h0,A,B,D⟩:=iJ n.st Y hk;split at g
  .rename_i q
   simp only[Bool.and_eq_true,decide_eq_true_eq]at q;obtain⟨c1,c2⟩:=F C i q.1 A;have ry:=l.st.dq V P;obtain⟨s3,g3⟩:=n.st.put (o:=.ins i p (fG _ v h)) (c:=.ins C (mO _ y fs)) h0 (λo u z=>by rw[B]at z;cases z) λR hR=>⟨i,p,_,A,aU,(xr ry D).imp hR⟩
   exact⟨a,i,p,h,rfl,B,c1,c2,by rw[gb.length D];exact q.2,g M _ m U (n.grow g3 s3)⟩
  .exact g.elim
 .exact g.elim
def BR(H:Hp)(a:Addr)(y v:V)(c:Hp):Prop:=oT H a y v c\/∃b k j,y=.int k/\H a=some (.lst b)/\vQ b.length k=some j/\c=upd H a (.lst (b.set j v))
noncomputable def Dm(td d e:TE):TS:=λD b H=>e b H λv f=>td b f λx g=>d b g λy h=>∃a c,x=.ref a/\BR h a y v c/\D.nx b c
theorem xx{i b:Expr}{td d e:TE}(p:X.A.units+1<cLine)(q:PE X o td)(t:PE X i d)(w:PE X b e)(z:swapsWith b (some (.Subscript o i pos')) pos.line X.env=pure false) :
  PS X (.Assign [.Subscript o i pos'] b pos) (Dm td d e):=by
 intro pins s c H D I h;refine wpAny_Assign_Subscript (cD (w pins s c H _ I h) λr B ⟨v,H1,I1,f,q1⟩=>cD (q pins B c H1 _ I1 q1) λu C ⟨x,H2,I2,l,q2⟩=>cD (t pins C c H2 _ I2 q2) λO E ⟨y,H3,m,n,a,H4,ex,g,q3⟩=>?_) z
 subst ex;rcases g with g|⟨F,k,j,rfl,G,J,rfl⟩
 .obtain rfl:u=Value.ref a:=l
  exact uo p m g n f λK L=>⟨c,H4,L,q3⟩
 .exact cD (set_list pins E c H3 _ _ _ _ _ _ (λM=>D.nx c M) m l n f ⟨a,F,k,j,rfl,rfl,G,J,q3⟩) λ_ K ⟨N,I5,q5⟩=>⟨c,N,I5,q5⟩
theorem aK.Gq{c d:Type}{R:c->d->Prop}{a:c}{b:d}:∀{e:List c}{bs:List d}{n:Nat},aK R e bs->R a b->aK R (e.set n a) (bs.set n b)
 |_,_,_,.nil,_=>.nil
 |_::_,_::_,0,.cons _ t,r=>.cons r t
 |_::_,_::_,n+1,.cons q t,r=>.cons q (aK.Gq t r)
theorem xy{x y d:D}{v w u:V}(S:bR κ α Z Ω H)(I:aq α Z H x v)(C:aq α Z H y w)(E:aq α Z H d u)(h:jx x y d Ω=some ao):∃a F,v=.ref a/\BR H a w u F/\bR κ α Z ao F/\cH α Z H α Z F:=by
 cases x with
 |ref k=>
  simp only[jx]at h;simp only[aq]at I;obtain⟨a,q,rfl⟩:=I;split at h
  .rename_i l r
   obtain⟨J,e,f,g,j⟩:=S.cell r;rw[q]at e;cases e
   split at h
   .rename_i m p
    obtain rfl:=gz p C;split at h
    .rename_i G
     cases h;have:=bE G;obtain⟨s,A⟩:=S.put (o:=.dK (putK f m u)) (c:=.dK (dN l m d)) q (λo u z=>by rw[g]at z;cases z) λR B=>⟨_,aU,(j.put m E).imp B⟩
     exact⟨a,_,rfl,.inl (oT.k g (by rw[j.length];omega)),s,A⟩
    .cases h
   .cases h
  .rename_i l r
   obtain⟨J,e,f,g,j⟩:=S.cell r;rw[q]at e;cases e
   split at h
   .rename_i m p
    obtain⟨b,rfl,L⟩:=mH p C;split at h
    .rename_i G
     cases h;have:=bE G;obtain⟨s,A⟩:=S.put (o:=.dT (putK f m u)) (c:=.dT (dN l m d)) q (λo u z=>by rw[g]at z;cases z) λR B=>⟨_,aU,(j.put m E).imp B⟩
     exact⟨a,_,rfl,.inl (oT.t g L (by rw[j.length];omega)),s,A⟩
    .cases h
   .cases h
  .rename_i M r
   obtain⟨J,e,K,g,j⟩:=S.cell r;rw[q]at e;cases e
   split at h
   .rename_i i
    split at h
    .rename_i n N
     cases h;cases (show w=V.int i from C)
     obtain⟨s,A⟩:=S.put (o:=.lst (K.set n u)) (c:=.lst (M.set n d)) q (λo u z=>by rw[g]at z;cases z) λR B=>⟨_,aU,(aK.Gq j E).imp B⟩
     exact⟨a,_,rfl,.inr ⟨K,i,n,rfl,g,by rw[j.length];exact N,rfl⟩,s,A⟩
    .cases h
   .cases h
  .cases h
 |_=>cases h
theorem xA{i:Expr}(B:X.A.units+1<cLine)(C:bx X κ Φ o md)(D:bx X κ Φ i mk)(F:bx X κ Φ e mv)(G:swapsWith e (some (.Subscript o i pos')) pos.line X.env=pure false):pG X κ Φ (.Assign [.Subscript o i pos'] e pos) (dO md mk mv):=by
 intro c h j k I;refine PS.imp (xx B (PE.ex λb=>C c h j k b) (PE.ex λb=>D c h j k b) (F c h j k I) G) ?_
 rintro E J H ⟨K,Z,S,f⟩;refine⟨K,Z,S,ey.use S f λd b v H1 l L _ g1 m M N=>⟨b,l,L,m,ey.use m N λx n w H2 p O _ P g Q R=>⟨n,p,O,g,ey.use g R λy T u H3 q U _ s t V r=>?_⟩⟩⟩
 split at r
 .rename_i Y hq
  obtain⟨a,z,rfl,h1,s4,g4⟩:=xy t.st (g.st.dq s Q) V (g.st.dq s (m.st.dq P M)) hq;exact⟨a,z,rfl,h1,r J z q U (t.grow g4 s4)⟩
 .exact r.elim
theorem uS:bx X κ Φ (.Dict [] [] pos) (λ_ Ω=>hF Ω (.dK [])):=by
 intro a f h i Ω;refine PE.imp v8 ?_;rintro j H Q ⟨k,Z,S,g⟩ p b;obtain⟨d,e⟩:=S.st.laid (p:=p) (o:=.dK []) (c:=.dK []) b λR l=>⟨[],aU,.nil⟩
 exact g _ _ _ Z e d (eJ S.st p)
theorem uT:bx X κ Φ (.Dict [] [] pos) (λ_ Ω=>hF Ω (.dT [])):=by
 intro a f h i Ω;refine PE.imp v9 ?_;rintro j H Q ⟨k,Z,S,g⟩ p b;obtain⟨d,e⟩:=S.st.laid (p:=p) (o:=.dT []) (c:=.dT []) b λR l=>⟨[],aU,.nil⟩
 exact g _ _ _ Z e d (eJ S.st p)
noncomputable def aV(n:Nat)(ds:List D):aS:=ds.map some++List.replicate (n - ds.length) none
noncomputable def fR:eS->ay D
 |.rt d Ω=>.ok d Ω
 |.nx _ Ω=>.ok .non Ω
 |.exc x Ω=>.exc x Ω
 |_=>.bad
def bL(n k:Nat)(c:SM):ba:=λa b=>if a.length=k then fR (c (aV n a) b)else .bad
theorem kW{ds:List D}{vs:List V}{N:List Str}(S:bR κ α Z Ω H)(r:aK (aq α Z H) ds vs):cU κ α Z H α Z Ω (aV N.length ds) (L2.start N vs) H where
 st:=S
 gr:=cH.refl S.has
 len:=by simp[aV,L2.start,r.length]
 val:=λi d a=>by
  unfold aV at a
  by_cases h:i<ds.length
  .rw[List.getElem?_append_left (by simpa using h),List.getElem?_map]at a
   obtain⟨g,b,c⟩:=Option.map_eq_some_iff.mp a;cases c;obtain⟨v,e,f⟩:=r.get b;refine⟨v,?_,f⟩;unfold L2.start;rw[List.getElem?_append_left (by simpa[r.length]using h),List.getElem?_map,e]
   rfl
  .rw[List.getElem?_append_right (by simpa using h),List.getElem?_replicate]at a
   split at a<;>cases a
end
structure pJ(P:Program)(w:World)(K:PySem.W.Frag)(mg:Str->Option Value)(base:Heap)(κ:Str->Addr->Prop)(k:Nat)(j:Nat)(F:List D->ba):Prop where
 run:∀(X:Cx) (f:Addr) (vs:List V) (σ:L2.St) (H:Hp) (Q:VK) (α:List Addr) (Z:Addr->Prop) (Ω:aD) (qZ ds:List D) (n:Nat),X.prog=P->X.w=w->X.K=K->X.mg=mg->X.base=base->cL k X.A ->
  bR κ α Z Ω H->α[n]?=some f->Ω[n]?=some (.fn j qZ)->aK (aq α Z H) ds vs->cg κ pE α Z H (F qZ ds Ω) Q->Gf X f vs σ H Q
theorem pJ.mono{P:Program}{w:World}{K:PySem.W.Frag}{mg:Str->Option Value}{base:Heap}{κ:Str->Addr->Prop}{k a j:Nat}{F:List D->ba}(h:pJ P w K mg base κ k j F)(b:k<=a):pJ P w K mg base κ a j F:=
 ⟨λX f c d H Q e Z g qZ i n l m o p q r=>h.run X f c d H Q e Z g qZ i n l m o p q (r.mono b)⟩
noncomputable def isFn(Ω:aD)(n:Nat):Bool:=match Ω[n]? with
 |some (.fn _ _)=>true
 |_=>false
section
variable{X:Cx}{κ:Str->Addr->Prop}{Φ:gv}{α α' ia:List Addr}{Z Z' Z0:Addr->Prop}{Ω ao:aD}{H H' H0:Hp}{ρ:aS}{σ:L2.St}
end
end Mir
namespace Mir
open PySem PySem.Spec PyProof.Rows L2
section
variable{prog:Program}{w:World}{A:Around}{E:Value->Shared->Prop}{s:Shared}
end
end Mir
namespace Mir
open PySem PySem.Spec PyProof.Rows L2
open AutoSeq1 (wpAny_loadPart')
section
variable{prog:Program}{w:World}{A:Around}{E:Value->Shared->Prop}{s:Shared}
end
end Mir
namespace Mir
open PySem PySem.Spec PyProof.Rows L2
def ej(a:Nat->Str)(i:Nat):List Str:=((List.range i).map a).foldl hV []
theorem jf(a:Nat->Str)(i:Nat):ej a (i+1)=hV (ej a i) (a i):=by
 unfold ej;rw[List.range_succ,List.map_append,List.foldl_append];rfl
theorem mP(a:List Str)(x:Str):(hV a x).length=if decide (x∈a)=true then a.length else a.length+1:=by
 unfold hV
 by_cases h:x∈a<;>simp[h]
theorem uU(a:List Str)(x y:Str):y∈hV a x↔y∈a\/y=x:=by
 unfold hV;split
 .rename_i h
  exact⟨.inl,λq=>q.elim id λe=>e▸h⟩
 .simp
theorem tq(a:Nat->Str):∀i,(ej a i).length<=i
 |0=>by simp[ej]
 |i+1=>by
  have:=tq a i;rw[jf,mP];split<;>omega
noncomputable def uV(a:List Str):Key->Bool
 |.inr x=>decide (x∈a)
 |.inl _=>false
section
variable{prog:Program}{w:World}{A:Around}{R:Result->Shared->Prop}{I:Addr}{fp wr:List Addr}{G:Array GenState->Array GenState->Prop}{n:Nat}{P:Nat->Value->Prop}{St:Nat->Shared->Prop}
theorem pK{h h':Heap}{a:Addr}{b:Key->Bool}{m:Nat}(c:h.SetOf (aW prog w) a b m)(k:∀o,h.get? a=some o->h'.get? a=some o):h'.SetOf (aW prog w) a b m:=by
 obtain⟨o,d,e,t,f,rest⟩:=c;exact⟨o,d,e,t,k _ f,rest⟩
theorem xB(W:WalksS prog w A.in1 I fp wr G n P St)(S:Addr)(j:S∉fp)(a:Nat->Str)(l:∀i v,P i v->∃t,v=.str (a i) t)(g:n+1<scanBound) :
  ∀(k i:Nat) (s:Shared),n - i=k->i<=n->St i s->s.heap.SetOf (aW prog w) S (uV (ej a i)) (ej a i).length ->
   (∀s',Moved (S::wr) G s s'->s'.heap.SetOf (aW prog w) S (uV (ej a n)) (ej a n).length->R (.ok (.ret .none)) s') ->
   codeAny (model prog w) A (.builtin "set.update.loop" ⟨[.ref S,.ref I],[]⟩) R s:=by
 have m:S∉wr:=λh=>j (W.sub _ h)
 have c:∀b∈wr,b∈S::wr:=λb g=>List.mem_cons_of_mem _ g
 intro k
 induction k with
 |zero=>
  intro i s N O d D E;obtain rfl:i=n:=by omega
  refine codeAny_builtin PyProof.Rows.F.entry_set_update_loop ?_;rw[Around.under_plainId PyProof.Rows.F.plain_set_update_loop _]
  show wpAny _ A.in1 (pyNext (.ref I) >>= _) _ _ s
  refine wpAny_bind (W.done s _ _ d λs' p=>?_)
  exact wpAny_pure (E s' (p.mono c) (pK D λo H=>p.heap S _ m H))
 |succ k Q=>
  intro i s N O d D E;have q:i<n:=by omega
  refine codeAny_builtin PyProof.Rows.F.entry_set_update_loop ?_;rw[Around.under_plainId PyProof.Rows.F.plain_set_update_loop _]
  show wpAny _ A.in1 (pyNext (.ref I) >>= _) _ _ s
  refine wpAny_bind (W.item i s _ _ q d λv s' T r p=>?_)
  obtain⟨t,rfl⟩:=l i v T;have J:=pK D λo H=>p.heap S _ m H
  show wpAny _ A.in1 (holding [Value.str (a i) t] (setAdd S (.str (a i) t)) >>= _) _ _ s'
  refine wpAny_bind (wpAny_holding ?_);unfold setAdd;refine wpAny_holding ?_;refine wpAny_bind ((aW prog w).pyHash (k:=.inr (a i)) (gh _ _ _ _) ?_);have f:(ej a i).length+1<scanBound:=by have:=tq a i;omega
  refine wpAny_setAddHashed_of (knd:=aW prog w) (s:={s' with toks:=s'.toks+1}) (gh _ _ _ _) rfl J f λU u K=>?_
  have L:U.SetOf (aW prog w) S (uV (ej a (i+1))) (ej a (i+1)).length:=by
   have V:uV (ej a (i+1))=λC=>uV (ej a i) C||decide (C=Sum.inr (a i)):=by
    funext C
    rw[jf];cases C with
    |inl z=>simp[uV]
    |inr y=>
     simp only[uV]
     by_cases X:y∈ej a i<;>by_cases Y:y=a i<;>simp[uU,X,Y]
   have Z:(ej a (i+1)).length=if uV (ej a i) (Sum.inr (a i))=true then (ej a i).length else (ej a i).length+1:=by rw[jf,mP];rfl
   rw[V,Z];exact K
  refine wpAny_pure ⟨plainId_quiet PyProof.Rows.F.plain_set_update_loop _,Q (i+1) _ (by omega) q (W.frame _ s' _ _ r (Nat.le_succ _) λb g o e=>?_) L λM x B=>?_⟩
  .exact(u.2 b λh=>j (h▸g)).trans e
  .refine E M (Moved.trans W.gtrans ((p.mono c).then_heap (Nat.le_succ _) λb o g e=>?_) x) B
   exact(u.2 b λh=>g (h▸List.mem_cons_self)).trans e
end
noncomputable def uW(led:Bool):Obj:={cls:=.type "set",dict:=none,data:=.set #[] 0 (.fresh 0 0 led)}
section
variable{prog:Program}{w:World}{A:Around}{E:Value->Shared->Prop}{s:Shared}
theorem tr:∀{vs:List Value}{xs:List Str},StrsAre vs xs->∀(i:Nat) (v:Value),vs[i]?=some v->∃t,v=.str (xs.getD i "") t
 |_,_,.nil,i,v,h=>by simp at h
 |_,_,.cons y t r,0,v,h=>by simp at h;exact⟨t,h.symm⟩
 |_,_,.cons y t r,i+1,v,h=>by
  simp at h;obtain⟨a,e⟩:=tr r i v h;exact⟨a,by simpa using e⟩
theorem Af{h:Heap}{S:Addr}{led:Bool}(a:h.get? S=some {cls:=.type "set",dict:=none,data:=.set #[] 0 (.fresh 0 0 led)}):h.SetOf (aW prog w) S (uV []) 0:=by
 have e:uV []=λ_=>false:=by funext k;cases k<;>simp[uV]
 rw[e];exact⟨_,#[],0,_,a,⟨rfl,rfl,rfl⟩,rfl,λe b=>by simp at b,λk=>by simp,by simp[scanBound],by rfl,rfl⟩
theorem xC{l:Addr}{items:Array Value}{xs:List Str}{led:Bool}{S:Addr}{R:Result->Shared->Prop}(K:A.handled=none)(n:s.heap.IsList l items)(L:StrsAre items.toList xs)(p:items.size+1<scanBound)(q:s.heap.get? S=some (uW led))(r:S≠l)
  (hR:∀(h':Heap) (M:Nat),h'.SetOf (aW prog w) S (uV (ej (λi=>xs.getD i "") items.size)) (ej (λi=>xs.getD i "") items.size).length->(∀b o,b≠S->s.heap.get? b=some o->h'.get? b=some o)->R (.ok (.ret .none)) {s with heap:=h',toks:=M}) :
  wpAny (model prog w) A.in1 (Builtin.«set.__init__» ⟨[.ref S,.ref l],[]⟩)
   (λu a=>match u with|.done f=>R (.ok f) a|.again G=>G.quiet=true/\codeAny (model prog w) A G R a) (λe a=>R (.error e) a) s:=by
 obtain⟨N,x,c,T,d⟩:=id n;obtain⟨H,y,z,k⟩:=N;simp only at c d;subst c;subst d
 have U:s.TypeIs (.ref S) "set":=⟨_,q,rfl⟩;have B:s.heap.get? S=some {cls:=.type "set",dict:=none,data:=.set #[] 0 (.fresh 0 0 led)}:=q;have I:=PySem.F.sub_list_set;have J:=PySem.F.sub_list_frozenset;have O:(Value.type "list"==Value.type "dict")=false:=by decide
 unfold Builtin.«set.__init__» noKeywords Builtin.Frozenset.updateFrom;generalize C:pyIter=PI
 wp_walk
 subst C;refine wpAny_pyIter_list n ?_;refine wpAny_bind (wpAny_runValue ?_);have D:l<s.heap.objs.size:=Heap.lt_size x;have g:S<s.heap.objs.size:=Heap.lt_size q
 have E:S∉[s.heap.objs.size,l]:=λm=>by
  rcases List.mem_cons.mp m with e|e
  .exact Nat.ne_of_lt g e
  .exact r (by simpa using e)
 have h:∀(i:Nat) (v:Value),items[i]?=some v->∃t,v=.str ((λi=>xs.getD i "") i) t:=λi v P=>tr L i v (by rw[Array.getElem?_toList];exact P)
 refine xB ((Walks.list (A:=A.in1.in1) K _ l (Nat.ne_of_lt D) items).toS) S E (λi=>xs.getD i "") h p (items.size - 0) 0 _ (by omega) (Nat.zero_le _)
  ⟨⟨_,Heap.get?_push_size _ rfl,rfl,rfl⟩,n.push _⟩ ?hS0 ?hR
 case hS0=>exact Af (Heap.get?_push_of_some _ B)
 case hR=>
  intro a m j;rw[Moved.eq_with m];refine wpAny_pure ?_
  show wpAny _ _ (ret Value.none) _ _ _
  refine wpAny_pure (hR a.heap a.toks j λb o p e=>?_)
  refine m.heap b o (λhmem=>?_) (Heap.get?_push_of_some _ e)
  rcases List.mem_cons.mp hmem with Q|hmem
  .exact p Q
  .exact absurd (Heap.lt_size e) (by rw[show b=s.heap.objs.size by simpa using hmem];exact Nat.lt_irrefl _)
theorem lV{l:Addr}{items:Array Value}{xs:List Str}{Q:Value->Shared->Prop}(C:A.handled=none)(u:s.heap.IsList l items)(D:StrsAre items.toList xs)(G:items.size+1<scanBound)
  (h:∀(h':Heap) (n:Nat),h'.SetOf (aW prog w) s.heap.objs.size (uV (ej (λi=>xs.getD i "") items.size)) (ej (λi=>xs.getD i "") items.size).length->(∀b o,s.heap.get? b=some o->h'.get? b=some o)->Q (.ref s.heap.objs.size) {s with heap:=h',toks:=n}) :
  wpAny (model prog w) A (call (.type "set") [.ref l]) Q E s:=by
 obtain⟨c,tl,x⟩:=PySem.F.called_set.mro;have p:=PySem.F.called_set.made;have y:=PySem.F.called_set.sub;refine wpAny_call (codeAny_of_tree ?_)
 show wpAny _ _ (callAny (.type "set") _) _ _ _
 refine wpAny_pure ⟨Code.quiet_builtin _ (by decide +kernel),codeAny_builtin PySem.F.entry_type_call ?_⟩
 rw[Around.under_plain (weight_type_call_type "set" [.ref l] []) rfl];have N:=PySem.F.called_set.notType;have O:=PySem.F.called_set.canCreate;have H:=PySem.F.typeCall_set_1 (.ref l)
 repeat (any_goals (first|assumption|wp_step))
 refine codeAny_mono (code_set_new_1 (.ref l) (E:=E) (Q₁:=λj d=>∃led:Bool,j=.ref s.heap.objs.size/\d={s with heap:=s.heap.push (uW led)}) λled=>⟨led,rfl,rfl⟩) λr d q=>?_
 cases r with
 |error e=>exact q
 |ok fl=>
  cases fl with
  |ret j=>
   obtain⟨led,rfl,rfl⟩:=q;have B:(s.heap.push (uW led)).get? s.heap.objs.size=some (uW led):=Heap.get?_push_size _ rfl;have I:Shared.TypeIs {s with heap:=s.heap.push (uW led)} (.ref s.heap.objs.size) "set":=⟨_,B,rfl⟩;have J:=PySem.F.called_set.init.lookup;have K:=PySem.F.called_set.init.bind (.ref s.heap.objs.size)
   repeat (any_goals (first|assumption|wp_step))
   have t:s.heap.objs.size≠l:=λe=>by obtain⟨o,L,_⟩:=u;exact Nat.lt_irrefl _ (e▸Heap.lt_size L)
   refine codeAny_mono (codeAny_call_builtin (R:=wants (λr f=>r=.none/\Q (.ref s.heap.objs.size) f) E) PySem.F.called_set.init.plain PySem.F.entry_set_init (check_set_init_1 I ?_)) λk f a=>?_
   .refine xC (led:=led) (A:=A.in1) (s:={s with heap:=s.heap.push (uW led)}) (show A.in1.handled=none from C) (u.push _) D G B t λh' n m M=>⟨rfl,h h' n m λb o e=>M b o (λz=>absurd (Heap.lt_size e) (by rw[z];exact Nat.lt_irrefl _)) (Heap.get?_push_of_some _ e)⟩
   .cases k with
    |error e=>exact a
    |ok g=>
     cases g with
     |ret r=>
      obtain⟨rfl,P⟩:=a
      repeat (any_goals (first|assumption|wp_step))
     |_=>exact a.elim
  |_=>exact q.elim
end
def RO(d:TE):TE:=λe H Q=>d e H λx b=>∃Z c a,Now Z b (.lst c) x/\fo c=some a/\a.length<=1000/\Q (.int (unlike a)) b
theorem pL:∀{vs:List Value}{xs:List Str},StrsAre vs xs->vs.length=xs.length
 |_,_,.nil=>rfl
 |_,_,.cons _ _ r=>by rw[List.length_cons,List.length_cons,pL r]
theorem Ag(xs:List Str):ej (λi=>xs.getD i "") xs.length=xs.foldl hV []:=by
 unfold ej
 congr 1
 apply List.ext_getElem?;intro i
 by_cases h:i<xs.length
 .simp[h]
 .rw[List.getElem?_eq_none (by simpa using h),List.getElem?_eq_none (by omega)]
theorem uX{X:Cx}{e:Expr}{D:TE}{p E pos a:Pos}(N:X.calm=true)(O:Gl X "len")(P:X.mg "len"=none)(k:Gl X "set")(m:X.mg "set"=none)(F:starEach [e] X.env=[(false,eval e X.env)])(R:PE X e D) :
  PE X (.Call (.Name "len" p) [.Call (.Name "set" E) [e] [] a] [] pos) (RO D):=by
 intro pins s G H Q I h;refine wpAny_Call_Name_kw (hY I O P boot_len ?_ (by decide) (by decide))
 refine Calls.callWith_builtin rfl (Calls.evalArgs_plain ?_)
 show wpAny _ _ (spliced ((false,eval (.Call (.Name "set" E) [e] [] a) X.env)::backTo pos (starEach [] X.env))) _ _ s
 refine Calls.spliced_cons ?_;refine wpAny_Call_Name_kw (hY I k m boot_set ?_ (by decide) (by decide))
 refine PyProof.Rows.callWith_type1 (cD (er R kj F a pins s G H (λn d=>match n with|[x]=>(∃Z r b,Now Z d (.lst r) x/\fo r=some b/\b.length<=1000/\Q (.int (unlike b)) d)|_=>False) I h) λus s1 ⟨n,d,w,y,z⟩=>?_) F rfl
 match n,z,y with
 |[x],z,y=>
  obtain⟨Z,r,b,S,A,T,q⟩:=z;obtain⟨l,ws,rfl,U,f⟩:=cV S;obtain⟨u,rfl,V⟩:=y.one;cases V;obtain⟨g,Y,pl,hz⟩:=w.list (jQ (K:=X.K) U);have i:StrsAre g b:=nG A f Y;have hl:=pL i;have j:g.toArray.size=b.length:=by rw[List.size_toArray];exact hl
  refine lV (w.ok.hd N) pl.isList (by simpa using i) (by rw[j];unfold scanBound;omega) λJ B c kp=>?_
  refine Calls.spliced_nil ?_;rw[j,Ag]at c;obtain⟨o,L,ep,t,ho,C,hd,a0,M,hb,hf,hn⟩:=c;have hu:L.size=unlike b:=hn;have I2:L2.Inv X pins G d {s1 with heap:=J,toks:=B}:=w.kept (t':=B) kp;refine call_len_set (s:={s1 with heap:=J,toks:=B}) ho C hd hf ?_ ⟨.int (unlike b),d,I2.tok _,⟨_,by rw[hu]⟩,q⟩
  have:L.size<4096:=hb;omega
variable [aJ]
def ez(x:D):Out Rs:=match x with
 |.lst b=>(match fo b with
  |some a=>if a.length<=1000 then .ok (false,.int (unlike a))else .bad
  |none=>.bad)
 |_=>.bad
section
variable{X:Cx}{κ:Str->Addr->Prop}{Φ:gv}{e:Expr}{m:EM}{p p' pos pos':Pos}
theorem rq(j:X.calm=true)(l:Gl X "len")(n:X.mg "len"=none)(f:Gl X "set")(h:X.mg "set"=none)(o:starEach [e] X.env=[(false,eval e X.env)])(q:bx X κ Φ e m) :
  bx X κ Φ (.Call (.Name "len" p) [.Call (.Name "set" p') [e] [] pos'] [] pos) (m1 (iA ez) m):=
 iB (r:=λx i Q=>∃Z c b,Now Z i (.lst c) x/\fo c=some b/\b.length<=1000/\Q (.int (unlike b)) i) (λA s=>uX j l n f h o s) q λB x C Z D H Q S t g=>by
  obtain⟨d,u,E,w,a,k⟩:=kJ (bw:=false) S t g;unfold ez at a;split at a
  .rename_i c
   split at a
   .rename_i b y
    split at a
    .rename_i z
     cases a;exact⟨_,c,b,w,y,z,k _ H _ (eu.refl (dw S)) (.rep (eB rfl))⟩
    .cases a
   .cases a
  .cases a
end
noncomputable def aa(i:Nat):EM:=λa b=>match a[i]? with|some (some d)=>.ok d b|_=>.bad
noncomputable def af(d:D):EM:=λ_ a=>.ok d a
def bY:EM:=λ_ a=>hF a (.dK [])
def Dn:EM:=λ_ a=>hF a (.dT [])
noncomputable def o2{c d e:Type}(x:Option c)(y:Option d)(k:c->d->e):Option e:=match x,y with
 |some a,some b=>some (k a b)
 |_,_=>none
theorem cq{c d e:Type}{x:Option c}{y:Option d}{k:c->d->e}{z:e}(h:o2 x y k=some z):∃a b,x=some a/\y=some b/\z=k a b:=by
 unfold o2 at h;split at h
 .cases h;exact⟨_,_,rfl,rfl,rfl⟩
 .cases h
theorem cJ{b c:Type}{x:Option b}{k:b->c}{z:c}(h:x.map k=some z):∃a,x=some a/\z=k a:=by
 cases x with
 |none=>cases h
 |some a=>cases h;exact⟨a,rfl,rfl⟩
structure bb where
 lI:List (Str×(List D->Out Rs)):=[]
 fn:List (Str×ba):=[]
 cst:List (Str×D):=[]
 met:List (Str×Str×ba):=[]
 cls:List (Str×ba):=[]
 fld:List (Str×List Str):=[]
 clo:List (List D->ba):=[]
 fz:List Str:=[]
 xt:Bool:=false
def nW(T:bb)(a:Scope)(N:List Str)(x:Str):Option EM:=
 match mz a N x with
 |some i=>some (aa i)
 |none=>if wH a x&&okN x then (T.cst.lookup x).map af else none
def kX:Const->Option EM
 |.none=>some (af .non)
 |.bool b=>some (af (.bl b))
 |.int i=>some (af (.int i))
 |.str x=>some (af (.str x))
 |_=>none
def dB(f:Expr->Option EM):List Expr->Option AM
 |[]=>some ae
 |e::es=>o2 (f e) (dB f es) ab
def RP(op:BoolOp)(a b:EM):EM:=match op with
 |.And=>eL a b
 |.Or=>jR a b
def iK(f:Expr->Option EM)(op:BoolOp):List Expr->Option EM
 |[]=>none
 |[a]=>f a
 |a::b::r=>o2 (f a) (iK f op (b::r)) (RP op)
def rr(f:Expr->Option EM):Option Expr->Option (Bool×EM)
 |none=>some (true,af .non)
 |some e=>(f e).map λm=>(false,m)
inductive BM where
 |append|clear|reverse|insert|extend|index|join
noncomputable def BM.nm:BM->Str
 |.append=>"append" |.clear=>"clear" |.reverse=>"reverse" |.insert=>"insert" |.extend=>"extend" |.index=>"index" |.join=>"join"
noncomputable def BM.ar:BM->Nat
 |.append=>1|.clear=>0|.reverse=>0|.insert=>2|.extend=>1|.index=>1|.join=>1
def BM.ty:BM->aD->D->Bool
 |.join=>zU
 |_=>eo
def BM.f:BM->D->List D->aD->ay D
 |.append=>bh|.clear=>fc|.reverse=>cI|.insert=>fO|.extend=>fP|.index=>ei|.join=>mK
def Dp(m:Str)(n:Nat):Option BM:=[BM.append,.clear,.reverse,.insert,.extend,.index,.join].find? λb=>b.nm==m&&b.ar==n
def gO(mo:EM)(a:AM)(m:Str):List (Str×Str×ba)->Option EM
 |[]=>none
 | (b,C,F)::r=>if b==m then (match gO mo a m r with
  |some x=>some (kI (aF C m F mo a) x)
  |none=>some (aF C m F mo a))else gO mo a m r
def jS(T:bb)(m:Str)(n:Nat)(mo:EM)(a:AM):Option EM:=match Dp m n,gO mo a m T.met with
 |some b,some x=>some (kI (bQ b.ty b.f mo a) x)
 |some b,none=>some (bQ b.ty b.f mo a)
 |none,x=>x
noncomputable def ek:Expr->Bool
 |.Name .. |.Attribute .. |.Constant (.str _) .. |.Subscript .. |.Call (.Attribute ..) ..=>true
 |_=>false
def rz(x:Str):Option jP:=[jP.len,jP.all,jP.any,jP.list,jP.tuple].find? (λb=>b.nm==x)
theorem Ah{x:Str}{b:jP}(h:rz x=some b):x=b.nm/\b∈[jP.len,jP.all,jP.any,jP.list,jP.tuple]/\b.nm∈ed:=by
 unfold rz at h;have c:=List.find?_some h;have a:=List.mem_of_find?_eq_some h;refine⟨(eq_of_beq c).symm,a,?_⟩;cases b<;>first | (simp at a;done)|decide
def nX(T:bb)(a:Scope)(f:Expr->Option EM)(x:Str)(args:List Expr):Option EM:=
 if wH a x&&okN x then
  match T.fn.lookup x,T.lI.lookup x,T.cls.lookup x,rz x with
  |some F,_,_,_=>(dB f args).map (mN (aG F))
  |none,some F,_,_=>if args.isEmpty then none else (dB f args).map (mN (bP F))
  |none,none,some F,_=>(dB f args).map (mN (lU x F))
  |none,none,none,some b=>if args.isEmpty then none else (dB f args).map (mN (aO b))
  |none,none,none,none=>(if x==("dict":Str)then (if args.isEmpty then none else (dB f args).map (mN kQ))else none)
 else none
def jT(T:bb)(a:Scope)(N:List Str)(f:Expr->Option EM)(x:Str)(args:List Expr):Option EM:=match mz a N x with
 |some _=>none
 |none=>nX T a f x args
def xD(b:Scope):List Expr->Option (Expr×Ty×Pos)
 |[a,.Name t p]=>match wI t with
  |some ty=>if wH b t then some (a,ty,p)else none
  |none=>none
 |_=>none
theorem uY{d:Scope}{args:List Expr}{a:Expr}{b:Ty}{p:Pos}(h:xD d args=some (a,b,p)):args=[a,.Name b.nm p]/\wH d b.nm=true/\b.nm∈ed:=by
 unfold xD at h;split at h
 .split at h
  .rename_i e c
   split at h
   .rename_i f
    cases h;obtain⟨rfl,m⟩:=F_ c;exact⟨rfl,f,m⟩
   .cases h
  .cases h
 .cases h
def xE(b:Scope)(f:Expr->Option EM)(x:Str)(args:List Expr):Option EM:=if x==("isinstance":Str)&&wH b x then match xD b args with
 |some (a,c,_)=>(f a).map (m1 (eM c))
 |none=>none else none
def Dq(b:Scope)(f:Expr->Option EM)(x:Str)(args:List Expr):Option EM:=match args with
 |[.Call (.Name y _) [a] [] _]=>if x==("len":Str)&&y==("set":Str)&&wH b x&&wH b y then (f a).map (m1 (iA ez))else none
 |_=>none
def kY(a:Scope)(f:Expr->Option EM)(x:Str)(args:List Expr):Option EM:=match xE a f x args with
 |some m=>some m
 |none=>Dq a f x args
def hW(f:Expr->Option EM)(b:Scope)(iter:Expr):Option IM:=match iter with
 |.Call (.Name g _) args [] _=>if g==("range":Str)then (if wH b g then (match args with
   |[a]=>(dB f [a]).map cO
   |_=>none)else none)else (f iter).map aL
 |_=>(f iter).map aL
def xF(f:Expr->Option EM):List Expr->Option (Bool×EM)
 |[]=>some (true,af .non)
 |[c]=>(f c).map λm=>(false,m)
 |_=>none
noncomputable def emptyDict:List (Option Expr)->List Expr->Bool
 |[],[]=>true
 |_,_=>false
def cP(T:bb):Nat->Scope->List Str->Expr->Option EM
 |0,_,_,_=>none
 |n+1,sc,N,e=>match e with
  |.Name x _=>nW T sc N x
  |.Constant c _ _=>kX c
  |.BinOp a d b _=>o2 (cP T n sc N a) (cP T n sc N b) (m2 (aP d))
  |.UnaryOp .USub a _=>(cP T n sc N a).map (m1 wV)
  |.UnaryOp .Not a _=>(cP T n sc N a).map dr
  |.BoolOp d (a::b::r) _=>iK (cP T n sc N) d (a::b::r)
  |.Compare a [d] [b] _=>if isSet b then none else o2 (cP T n sc N a) (cP T n sc N b) (m2 (aw d))
  |.Compare a [d,g] [b,c] _=>if isSet c then none else o2 (cP T n sc N a) (o2 (cP T n sc N b) (cP T n sc N c) Prod.mk) λx y=>jI d g x y.1 y.2
  |.IfExp t a b _=>o2 (cP T n sc N t) (o2 (cP T n sc N a) (cP T n sc N b) Prod.mk) λx y=>vo x y.1 y.2
  |.Subscript a (.Slice lo hi none _) _=>o2 (cP T n sc N a) (o2 (rr (cP T n sc N) lo) (rr (cP T n sc N) hi) Prod.mk) λx y=>cz x y.1.1 y.1.2 y.2.1 y.2.2
  |.Subscript a b _=>if isSlice b then none else o2 (cP T n sc N a) (cP T n sc N b) (m2 az)
  |.List es _=>(dB (cP T n sc N) es).map (mN bj)
  |.Tuple es _ _=>(dB (cP T n sc N) es).map (mN iE)
  |.Attribute o f _=>if ek o then o2 (T.fld.lookup f) (cP T n sc N o) λCs m=>m1 (dm Cs f) m else none
  |.Call (.Name x _) args [] _=>match kY sc (cP T n sc N) x args with
   |some m=>some m
   |none=>jT T sc N (cP T n sc N) x args
  |.Call (.Attribute o m p1) args [] p2=>if p1.endLine==p2.line&&ek o&&decide (args.length<20)then (match cP T n sc N o,dB (cP T n sc N) args with
   |some mo,some as=>jS T m args.length mo as
   |_,_=>none)else none
  |.ListComp elt gens scope _=>match kF gens with
   |some (x,_,iter,ifs)=>if wJ scope sc x&&!isSet iter then (match qU sc N (dH scope),hW (cP T n sc N) sc iter,cP T n (qT scope sc) (x::dH scope) elt,xF (cP T n (qT scope sc) (x::dH scope)) ifs with
    |some cap,some mi,some me,some (nc,mc)=>some (bo me nc mc mi 0 cap)
    |_,_,_,_=>none)else none
   |none=>none
  |.Dict ks h _=>if emptyDict ks h then some bY else none
  |_=>none
structure GoodO(X:Cx)(κ:Str->Addr->Prop)(T:bb)(k:Nat)(sc:Scope)(N:List Str):Prop where
 scope:X.env.scope=sc
 names:X.N=N
 calm:X.calm=true
 room:cL k X.A
 eQ:∀x∈ed,X.mg x=none
 lI:∀x F,T.lI.lookup x=some F->FZ X k x F
 fn:∀x F,T.fn.lookup x=some F->xp X κ k x F
 cst:∀x d,T.cst.lookup x=some d->∃v u,X.mg x=some u/\RelV v u/\fq d=some v
 met:∀m C F,(m,C,F)∈T.met->tp X κ k C m F
 cls:∀C F,T.cls.lookup C=some F->∃j,j+1<=k/\xv X κ j C F
 fld:∀f Cs,T.fld.lookup f=some Cs->je X.K κ Cs f
 clo:∀j F,T.clo[j]?=some F->pJ X.prog X.w X.K X.mg X.base κ k j F
theorem GoodO.gl{X:Cx}{κ:Str->Addr->Prop}{T:bb}{k:Nat}{a:Scope}{N:List Str}{x:Str}(G:GoodO X κ T k a N)(h:wH a x=true):Gl X x:=by
 unfold wH at h;have e:=eq_of_beq h
 show X.env.scope.names.lookup x=some .globalImplicit
 rw[G.scope];exact e
theorem GoodO.hu{X:Cx}{κ:Str->Addr->Prop}{T:bb}{k:Nat}{a:Scope}{N:List Str}(G:GoodO X κ T k a N):X.A.units+64<cLine:=G.room.units
theorem GoodO.blk{X:Cx}{κ:Str->Addr->Prop}{T:bb}{k:Nat}{c:Scope}{N:List Str}(G:GoodO X κ T k c N)(scope:Scope)(e:List (Str×Addr))(C:Addr)(d:List Str)(a:Shared)(b:Hp)(fp:List Addr):GoodO (blk X scope e C d a b fp) κ T k (qT scope c) d where
 scope:=by rw[←G.scope];rfl
 names:=rfl
 calm:=G.calm
 room:=G.room
 eQ:=G.eQ
 lI:=λx F h=>⟨(G.lI x F h).ex⟩
 fn:=λx F h=>⟨(G.fn x F h).ex⟩
 cst:=G.cst
 met:=λm C F h=>⟨(G.met m C F h).ex⟩
 cls:=λC F h=>let ⟨j,f,g⟩:=G.cls C F h;⟨j,f,⟨g.ex⟩⟩
 fld:=G.fld
 clo:=G.clo
def jy(X:Cx)(κ:Str->Addr->Prop)(e:Expr)(m:EM):Prop:=(∀a,bx X κ a e m)/\(∀a,fL X κ a e m)/\isStar e=false
section
variable{X:Cx}{κ:Str->Addr->Prop}{T:bb}{k:Nat}{sc:Scope}{N:List Str}{f:Expr->Option EM}
theorem cu{e:Expr}{m:EM}(h:∀Φ,bx X κ Φ e m)(b:isStar e=false)(c:∀a,isTrue e X.env a=(do let v ←a;standAt e.pos;holding [v] (truthy v))):jy X κ e m:=⟨h,λΦ=>zB (h Φ) c,b⟩
theorem cK(b:∀e m,f e=some m->jy X κ e m):∀{es:List Expr}{a:AM},dB f es=some a->(∀Φ,qr X κ Φ es a)/\(∀e∈es,isStar e=false)
 |[],a,h=>by cases h;exact⟨λΦ=>zq,λe d=>absurd d (by simp)⟩
 |e::es,a,h=>by
  obtain⟨m,g,h1,h2,rfl⟩:=cq h;obtain⟨i,_,c⟩:=b e m h1;obtain⟨j,k⟩:=cK b h2;refine⟨λΦ=>wU (i Φ) (j Φ) (cA c),λz hz=>?_⟩
  rcases List.mem_cons.mp hz with rfl|hz
  .exact c
  .exact k z hz
theorem xG(G:GoodO X κ T k sc N){x:Str}{pos:Pos}{m:EM}(h:nW T sc N x=some m):jy X κ (.Name x pos) m:=by
 unfold nW at h;split at h
 .rename_i i q
  cases h;obtain⟨c,e,a,f⟩:=sM q;exact cu (λg=>zp (by rw[G.names];exact c) (by rw[G.scope];exact e) a f) rfl (λ_=>rfl)
 .split at h
  .rename_i b
   simp only[Bool.and_eq_true]at b;obtain⟨d,a,rfl⟩:=cJ h;obtain⟨v,u,j,l,n⟩:=G.cst x d a;obtain⟨o,p,r⟩:=sN b.2;exact cu (λg=>iC (yy (G.gl b.1) j l o) n) rfl (λ_=>rfl)
  .cases h
theorem uZ{q:Const}{j:Nat}{pos:Pos}{m:EM}(h:kX q=some m):jy X κ (.Constant q j pos) m:=by
 cases q<;>simp only[kX]at h<;>cases h
 .exact cu (λa=>iC Cf rfl) rfl (λ_=>rfl)
 .exact cu (λa=>iC Fm rfl) rfl (λ_=>rfl)
 .exact cu (λa=>iC Ce rfl) rfl (λ_=>rfl)
 .exact cu (λa=>iC Cg rfl) rfl (λ_=>rfl)
theorem pM{op:BoolOp}{pos:Pos}(c:∀e m,f e=some m->jy X κ e m):∀{es:List Expr}{m:EM},iK f op es=some m->(∀Φ,bx X κ Φ (.BoolOp op es pos) m)/\(∀Φ,BN X κ Φ (.BoolOp op es pos) m)
 |[],m,h=>by cases h
 |[a],m,h=>by
  obtain⟨p1,p2,p3⟩:=c a m h;exact⟨λΦ=>uE (p1 Φ),λΦ=>zF (p2 Φ)⟩
 |a::b::r,m,h=>by
  simp only[iK]at h;obtain⟨i,l,j,k,rfl⟩:=cq h;obtain⟨p1,p2,p3⟩:=c a i j;obtain⟨d,g⟩:=pM c k;cases op with
  |And=>exact⟨λΦ=>zC (p1 Φ) (d Φ),λΦ=>zG (p2 Φ) (g Φ)⟩
  |Or=>exact⟨λΦ=>Dc (p1 Φ) (d Φ),λΦ=>De (p2 Φ) (g Φ)⟩
theorem pN(b:∀e m,f e=some m->jy X κ e m){o:Option Expr}{n:Bool}{m:EM}{Φ:gv}(h:rr f o=some (n,m)):JA X κ Φ o n m:=by
 cases o with
 |none=>cases h;exact .inl ⟨rfl,rfl⟩
 |some e=>
  obtain⟨a,c,d⟩:=cJ h;cases d;exact .inr ⟨e,rfl,rfl,(b e m c).1 Φ⟩
theorem Ai{m:Str}{n:Nat}{b:BM}(h:Dp m n=some b):m=b.nm/\n=b.ar:=by
 have:=List.find?_some h;simp only[Bool.and_eq_true,beq_iff_eq]at this;exact⟨this.1.symm,this.2.symm⟩
theorem dP{o:Expr}{n:Str}{env:Env}(h:ek o=true):attributeBase o n env (eval o env)=eval o env:=by
 cases o with
 |Call f a b p=>cases f<;>first|rfl | (cases h)
 |_=>first|rfl | (cases h)
theorem Gr(z:X.A.units+64<cLine)(b:BM){o:Expr}{es:List Expr}{mo:EM}{u:AM}{w y:Pos}{Φ:gv}(i:ek o=true)(j:(w.endLine==y.line)=true)(k:es.length=b.ar)(l:bx X κ Φ o mo)(t:dB f es=some u)(B:∀e m,f e=some m->jy X κ e m) :
  bx X κ Φ (.Call (.Attribute o b.nm w) es [] y) (bQ b.ty b.f mo u):=by
 obtain⟨n,s⟩:=cK B t;have n:=n Φ;cases b with
 |append=>
  match es,k with
  |[e],_=>exact kR PySem.F.plainAttrs_list PySem.F.slot_list_append PySem.F.type_list_append mj (λx v a Z c H S r h=>jc S r h) (λx v p q a Z c H Q S r d g=>uK S r d g) (dP i) j l n s (by simp)
 |clear=>
  match es,k with
  |[],_=>cases t;exact sZ PySem.F.plainAttrs_list PySem.F.slot_list_clear PySem.F.type_list_clear vW (λx v a Z c H S r h=>jc S r h) (λx v p q a Z c H Q S r d g=>xg S r d g) (dP i) j l
 |reverse=>
  match es,k with
  |[],_=>cases t;exact sZ PySem.F.plainAttrs_list PySem.F.slot_list_reverse PySem.F.type_list_reverse qK (λx v a Z c H S r h=>jc S r h) (λx v p q a Z c H Q S r d g=>ro S r d g) (dP i) j l
 |insert=>
  match es,k with
  |[e,C],_=>exact kR PySem.F.plainAttrs_list PySem.F.slot_list_insert PySem.F.type_list_insert uA (λx v a Z c H S r h=>jc S r h) (λx v p q a Z c H Q S r d g=>uL S r d g) (dP i) j l n s (by simp)
 |extend=>
  match es,k with
  |[e],_=>exact kR PySem.F.plainAttrs_list PySem.F.slot_list_extend PySem.F.type_list_extend uk (λx v a Z c H S r h=>jc S r h) (λx v p q a Z c H Q S r d g=>uM S r d g) (dP i) j l n s (by simp)
 |index=>
  match es,k with
  |[e],_=>exact kR PySem.F.plainAttrs_list PySem.F.slot_list_index PySem.F.type_list_index (wF z) (λx v a Z c H S r h=>jc S r h) (λx v p q a Z c H Q S r d g=>xh S r d g) (dP i) j l n s (by simp)
 |join=>
  match es,k with
  |[e],_=>exact kR PySem.F.plainAttrs_str PySem.F.slot_str_join PySem.F.type_str_join zg (λx v a Z c H S r h=>zV S r h) (λx v p q a Z c H Q S r d g=>zX S r d g) (dP i) j l n s (by simp)
theorem tw{o:Expr}{m:Str}{a pos:Pos}{es:List Expr}{env:Env}(d:attributeBase o m env (eval o env)=eval o env)(g:∀e∈es,isStar e=false)(c:es.length<20)(h:(a.endLine==pos.line)=true) :
  eval (.Call (.Attribute o m a) es [] pos) env=(do
   let b ←eval o env
   standAt a.atName
   let (f,first) ←holding [b] (getMethod b m (do let l ←importBound o env;pure (l.getD true)))
   callWith pos f first (backTo pos (starEach es env)) (backToKw pos (keywordEach [] env))):=by
 have i:methodCallForm (es.length+([]:List Keyword).length) (backTo pos (starEach es env)) (backToKw pos (keywordEach [] env))=true:=by
  unfold methodCallForm;rw[rn g,decide_eq_true (by show es.length+0+0<30;omega)];rfl
 have j:eval (.Call (.Attribute o m a) es [] pos) env=(do
   let b ←attributeBase o m env (eval o env)
   standAt a.atName
   methodCall o m a pos env b (es.length+([]:List Keyword).length) (backTo pos (starEach es env)) (backToKw pos (keywordEach [] env))):=by rfl
 rw[j,d];unfold methodCall calleeOf methodCallPos;rw[i];simp only[if_true,Bool.not_true,Bool.false_or,h];rfl
theorem ic(b:cL k X.A){o:Expr}{m:Str}{es:List Expr}{mo:EM}{p:AM}{r s:Pos}{Φ:gv}(c:ek o=true)(d:(r.endLine==s.line)=true)(a:es.length<20)(g:bx X κ Φ o mo)(i:dB f es=some p)(t:∀e m,f e=some m->jy X κ e m):∀{u:List (Str×Str×ba)}{x:EM},(∀m C F,(m,C,F)∈u->tp X κ k C m F)->gO mo p m u=some x->bx X κ Φ (.Call (.Attribute o m r) es [] s) x
 |[],x,_,h=>by cases h
 | (j,C,F)::u,x,l,h=>by
  obtain⟨w,n⟩:=cK t i;simp only[gO]at h;split at h
  .rename_i B
   obtain rfl:=eq_of_beq B
   have one:bx X κ Φ (.Call (.Attribute o j r) es [] s) (aF C j F mo p):=by
    cases es with
    |nil=>cases i;exact uR (l j C F (by simp)) b g (tw (dP c) n a d)
    |cons e es=>exact xu (l j C F (by simp)) b g (w Φ) (cA (n e (by simp))) (cM λz D=>n z (by simp[D])) (tw (dP c) n a d)
   split at h
   .rename_i y E
    cases h;exact one.alt (ic b c d a g i t (λm C F q=>l m C F (by simp[q])) E)
   .cases h;exact one
  .exact ic b c d a g i t (λm C F q=>l m C F (by simp[q])) h
theorem xH(G:GoodO X κ T k sc N){o:Expr}{m:Str}{es:List Expr}{mo:EM}{d:AM}{g i:Pos}{Φ:gv}{x:EM}(n:ek o=true)(p:(g.endLine==i.line)=true)(a:es.length<20)(q:bx X κ Φ o mo)(r:dB f es=some d)(s:∀e m,f e=some m->jy X κ e m)
  (h:jS T m es.length mo d=some x):bx X κ Φ (.Call (.Attribute o m g) es [] i) x:=by
 have one:∀b,Dp m es.length=some b->bx X κ Φ (.Call (.Attribute o m g) es [] i) (bQ b.ty b.f mo d):=λb l=>by
  obtain⟨rfl,u⟩:=Ai l;exact Gr G.hu b n p u q r s
 have c:∀y,gO mo d m T.met=some y->bx X κ Φ (.Call (.Attribute o m g) es [] i) y:=λy w=>ic G.room n p a q r s G.met w
 unfold jS at h;split at h
 .rename_i b y j t
  cases h;exact(one b j).alt (c y t)
 .rename_i b j t
  cases h;exact one b j
 .rename_i j
  exact c x h
theorem xI(G:GoodO X κ T k sc N)(q:∀e m,f e=some m->jy X κ e m){x:Str}{args:List Expr}{m:EM}{p pos:Pos}(h:nX T sc f x args=some m):jy X κ (.Call (.Name x p) args [] pos) m:=by
 refine cu (λr=>?_) rfl (λ_=>rfl)
 unfold nX at h;split at h
 .rename_i u
  simp only[Bool.and_eq_true]at u;obtain⟨s,D,E⟩:=sN u.2;have n:=G.gl u.1;split at h
  .rename_i F o
   obtain⟨t,d,rfl⟩:=cJ h;obtain⟨i,c⟩:=cK q d;cases args with
   |nil=>cases d;exact uQ (G.fn x F o) G.room n s
   |cons a args=>exact xq (G.fn x F o) G.room n s (cA (c a (by simp))) (cM λz l=>c z (by simp[l])) (i r)
  .rename_i F _ o
   split at h
   .cases h
   .rename_i g
    obtain⟨t,d,rfl⟩:=cJ h;obtain⟨i,c⟩:=cK q d;cases args with
    |nil=>exact absurd rfl g
    |cons a args=>exact uF (G.lI x F o) G.room n s (cA (c a (by simp))) (cM λz l=>c z (by simp[l])) (i r)
  .rename_i F _ _ o
   obtain⟨t,d,rfl⟩:=cJ h;obtain⟨i,c⟩:=cK q d;obtain⟨j,w,M⟩:=G.cls x F o;cases args with
   |nil=>cases d;exact xw M (G.room.mono w) n s
   |cons a args=>exact Ad M (G.room.mono w) n s (cA (c a (by simp))) (cM λz l=>c z (by simp[l])) (i r)
  .rename_i b _ _ _ y
   split at h
   .cases h
   .rename_i g
    obtain⟨t,d,rfl⟩:=cJ h;obtain⟨i,c⟩:=cK q d;obtain⟨rfl,A,B⟩:=Ah y;cases args with
    |nil=>exact absurd rfl g
    |cons a args=>exact zR G.calm A n (G.eQ _ B) (cA (c a (by simp))) (cM λz l=>c z (by simp[l])) (i r)
  .split at h
   .rename_i C
    obtain rfl:=eq_of_beq C;split at h
    .cases h
    .rename_i g
     obtain⟨t,d,rfl⟩:=cJ h;obtain⟨i,c⟩:=cK q d;cases args with
     |nil=>exact absurd rfl g
     |cons a args=>exact xf G.calm n (G.eQ _ (by decide)) (cA (c a (by simp))) (cM λz l=>c z (by simp[l])) (i r)
   .cases h
 .cases h
theorem xJ(G:GoodO X κ T k sc N)(b:∀e m,f e=some m->jy X κ e m){x:Str}{args:List Expr}{m:EM}{p pos:Pos}(h:jT T sc N f x args=some m):jy X κ (.Call (.Name x p) args [] pos) m:=by
 unfold jT at h;cases a:mz sc N x with
 |none=>rw[a]at h;exact xI G b h
 |some i=>
  rw[a]at h;cases h
theorem Aj(G:GoodO X κ T k sc N)(d:∀e m,f e=some m->jy X κ e m){x:Str}{args:List Expr}{m:EM}{p pos:Pos}(h:xE sc f x args=some m):jy X κ (.Call (.Name x p) args [] pos) m:=by
 unfold xE at h;split at h
 .rename_i b
  simp only[Bool.and_eq_true,beq_iff_eq]at b;obtain⟨rfl,g⟩:=b;split at h
  .rename_i a i j l
   obtain⟨rfl,n,o⟩:=uY l;obtain⟨q,r,rfl⟩:=cJ h;obtain⟨s,_,t⟩:=d a q r;exact cu (λu=>zT (G.gl g) (G.eQ _ (by decide)) (G.gl n) (G.eQ _ o) (cA t) (cM (es:=[Expr.Name i.nm j]) λz c=>by simp at c;subst c;rfl) (s u)) rfl (λ_=>rfl)
  .cases h
 .cases h
theorem Dr(G:GoodO X κ T k sc N)(b:∀e m,f e=some m->jy X κ e m){x:Str}{args:List Expr}{m:EM}{p pos:Pos}(h:Dq sc f x args=some m):jy X κ (.Call (.Name x p) args [] pos) m:=by
 unfold Dq at h;split at h
 .split at h
  .rename_i a
   simp only[Bool.and_eq_true,beq_iff_eq]at a;obtain⟨⟨⟨rfl,rfl⟩,c⟩,d⟩:=a;obtain⟨g,i,rfl⟩:=cJ h;obtain⟨j,_,l⟩:=b _ g i;exact cu (λn=>rq G.calm (G.gl c) (G.eQ _ (by decide)) (G.gl d) (G.eQ _ (by decide)) (cA l) (j n)) rfl (λ_=>rfl)
  .cases h
 .cases h
theorem xK(G:GoodO X κ T k sc N)(a:∀e m,f e=some m->jy X κ e m){x:Str}{args:List Expr}{m:EM}{p pos:Pos}(h:kY sc f x args=some m):jy X κ (.Call (.Name x p) args [] pos) m:=by
 unfold kY at h;split at h
 .rename_i b;cases h;exact Aj G a b
 .exact Dr G a h
theorem kZ(G:GoodO X κ T k sc N)(d:∀e m,f e=some m->jy X κ e m){iter:Expr}{mi:IM}(h:hW f sc iter=some mi):∀Φ b,vp X κ Φ b iter mi:=by
 intro Φ b
 have dflt:∀{mi},(f iter).map aL=some mi->vp X κ Φ b iter mi:=λ{mi} h=>by
  obtain⟨m,c,rfl⟩:=cJ h;exact zZ ((d iter m c).1 Φ)
 unfold hW at h;split at h
 .rename_i g p args i
  split at h
  .rename_i j
   obtain rfl:=eq_of_beq j;split at h
   .rename_i l
    split at h
    .rename_i a
     obtain⟨q,c,rfl⟩:=cJ h;obtain⟨n,o⟩:=cK d c;exact xj (G.gl l) (G.eQ _ (by decide)) (n Φ) (by rw[cA (o a (by simp))];rfl)
    .cases h
   .cases h
  .exact dflt h
 .exact dflt h
end
section
variable{κ:Str->Addr->Prop}{T:bb}{k:Nat}
theorem Ak{X:Cx}{c:Scope}{N:List Str}(G:GoodO X κ T k c N){scope:Scope}{x:Str}{cap:List Nat}(f:wJ scope c x=true)(m:qU c N (dH scope)=some cap) :
  jq X scope [x] (dH scope) cap/\scope.names.lookup x=some .local/\([x]++dH scope).Nodup:=by
 simp only[wJ,Bool.and_eq_true,decide_eq_true_eq,List.all_eq_true,Bool.not_eq_true',beq_iff_eq,Bool.or_eq_true]at f;obtain⟨⟨⟨⟨⟨n,o⟩,p⟩,r⟩,s⟩,t⟩:=f;obtain⟨u,w⟩:=wL m
 have g:∀y∈scope.names,y.2=.free->(c.names.lookup y.1=some .cell\/c.names.lookup y.1=some .free)/\scope.names.lookup y.1=some .free:=λy a b=>by
  rcases r y a with q|q
  .rw[b]at q;exact absurd q (by decide)
  .exact q
 refine⟨⟨n,λy a b=>?_,λy a b=>?_,λy a b=>?_,u,λj i z h A=>?_⟩,s,t⟩
 .have:=o y a
  rw[b]at this;exact absurd this (by decide)
 .rcases p y a with q|q
  .rw[b]at q;exact absurd q (by decide)
  .exact q
 .have:=(g y a b).1
  show X.env.scope.names.lookup y.1=_\/X.env.scope.names.lookup y.1=_
  rw[G.scope];exact this
 .refine⟨by rw[G.names];exact w j i z h A,?_⟩
  have l:z∈dH scope:=List.mem_of_getElem? h;unfold dH at l;obtain⟨y,a,rfl⟩:=List.mem_map.mp l;obtain⟨d,e⟩:=List.mem_filter.mp a;exact(g y d (by simpa using e)).2
theorem k9{T:bb}{a:Scope}{N:List Str}{n:Nat}{b:Expr}{gens:List Comprehension}{scope:Scope}{pos:Pos}{m:EM}{P:Prop}(e:kF gens=none)(h:cP T (n+1) a N (.ListComp b gens scope pos)=some m):P:=by
 replace h:(match kF gens with
   |some (x,_,iter,c)=>if (wJ scope a x&&!isSet iter)=true then (match qU a N (dH scope),hW (cP T n a N) a iter,cP T n (qT scope a) (x::dH scope) b,xF (cP T n (qT scope a) (x::dH scope)) c with
    |some d,some f,some g,some (i,j)=>some (bo g i j f 0 d)
    |_,_,_,_=>none)else none
   |none=>none)=some m:=h
 rw[e]at h;cases h
theorem jz{n:Nat}(o:∀(X:Cx) (f:Scope) (N:List Str) (e:Expr) (m:EM),GoodO X κ T k f N->cP T n f N e=some m->jy X κ e m){X:Cx}{f:Scope}{N:List Str}(G:GoodO X κ T k f N){scope:Scope}{x:Str}{iter i:Expr}{g:List Expr}{q pos:Pos}{m:EM}
  (h:cP T (n+1) f N (.ListComp i [⟨.Name x q,iter,g,0⟩] scope pos)=some m):∃me nc mc mi cap,m=bo me nc mc mi 0 cap/\jq X scope [x] (dH scope) cap/\scope.names.lookup x=some .local/\([x]++dH scope).Nodup /\
   (∀z,foldedSetIterable iter X.env z=pure z)/\(∀Φ,vp X κ Φ (.Name x q) iter mi) /\
   ∀l C b d fp,((g=[]/\nc=true)\/∃c,g=[c]/\nc=false/\fL (blk X scope l C ([x]++dH scope) b d fp) κ pE c mc)/\bx (blk X scope l C ([x]++dH scope) b d fp) κ pE i me:=by
 replace h:(if (wJ scope f x&&!isSet iter)=true then (match qU f N (dH scope),hW (cP T n f N) f iter,cP T n (qT scope f) (x::dH scope) i,xF (cP T n (qT scope f) (x::dH scope)) g with
    |some cap,some mi,some me,some (nc,mc)=>some (bo me nc mc mi 0 cap)
    |_,_,_,_=>none)else none)=some m:=h
 split at h
 .rename_i p
  simp only[Bool.and_eq_true,Bool.not_eq_true']at p;split at h
  .rename_i cap mi me nc mc t u w j
   cases h;obtain⟨y,A,B⟩:=Ak G p.1 t;refine⟨me,nc,mc,mi,cap,rfl,y,A,B,kG p.2,λΦ=>kZ G (o X f N · · G) u Φ _,λl C b d fp=>?_⟩
   have r:=G.blk scope l C ([x]++dH scope) b d fp;refine⟨?_,(o _ _ _ i me r w).1 pE⟩
   match g,j with
   |[],j=>cases j;exact .inl ⟨rfl,rfl⟩
   |[s],j=>
    obtain⟨a,D,E⟩:=cJ j;cases E;exact .inr ⟨s,rfl,rfl,(o _ _ _ s mc r D).2.1 pE⟩
  .cases h
 .cases h
theorem rA:∀(n:Nat) (X:Cx) (u:Scope) (N:List Str) (e:Expr) (m:EM),GoodO X κ T k u N->cP T n u N e=some m->jy X κ e m:=by
 intro n
 induction n with
 |zero=>intro X u N e m G h;cases h
 |succ n U=>
  intro X u N e m G h;have g:∀e m,cP T n u N e=some m->jy X κ e m:=λe m q=>U X u N e m G q
  cases e with
  |Name x pos=>exact xG G h
  |Constant c j pos=>exact uZ h
  |BinOp a op b pos=>
   obtain⟨z,B,l,w,rfl⟩:=cq h;exact cu (λd=>zu ((g a z l).1 d) ((g b B w).1 d)) rfl (λ_=>rfl)
  |UnaryOp op a pos=>
   cases op with
   |USub=>
    obtain⟨z,l,rfl⟩:=cJ h;exact cu (λd=>zv ((g a z l).1 d)) rfl (λ_=>rfl)
   |Not=>
    obtain⟨z,l,rfl⟩:=cJ h;exact⟨λd=>zD ((g a z l).1 d),λd=>zE ((g a z l).2.1 d),rfl⟩
   |_=>cases h
  |BoolOp op J pos=>
   match J,h with
   |a::b::r,h=>
    obtain⟨Z,q2⟩:=pM (pos:=pos) g (show iK (cP T n u N) op (a::b::r)=some m from h)
    exact⟨Z,λd=>(q2 d).pt,rfl⟩
   |[_],h=>cases h
   |[],h=>cases h
  |Compare a O cs pos=>
   match O,cs,h with
   |[op],[b],h=>
    replace h:(if isSet b=true then none else o2 (cP T n u N a) (cP T n u N b) (m2 (aw op)))=some m:=h
    split at h
    .cases h
    .rename_i P
     obtain⟨z,B,l,w,rfl⟩:=cq h;have E:=pb (op:=op) (b:=b) (by simpa using P)
     exact⟨λd=>(sV G.hu E ((g a z l).1 d) ((g b B w).1 d)).1,λd=>(sV G.hu E ((g a z l).1 d) ((g b B w).1 d)).2,rfl⟩
   |[op,C],[b,K],h=>
    replace h:(if isSet K=true then none else o2 (cP T n u N a) (o2 (cP T n u N b) (cP T n u N K) Prod.mk) λx y=>jI op C x y.1 y.2)=some m:=h
    split at h
    .cases h
    .rename_i P
     obtain⟨z,a0,l,A,rfl⟩:=cq h;obtain⟨B,mc,w,D,rfl⟩:=cq A;have E:lastMarks [op,C] [b,K]=false:=pb (op:=C) (b:=K) (by simpa using P)
     exact⟨λd=>zJ G.hu E ((g _ _ l).1 d) ((g _ _ w).1 d) ((g _ _ D).1 d),λd=>zK G.hu E ((g _ _ l).1 d) ((g _ _ w).1 d) ((g _ _ D).1 d),rfl⟩
   |[],_,h=>cases h
   |[_],[],h=>cases h
   |[_],_::_::_,h=>cases h
   |[_,_],[],h=>cases h
   |[_,_],[_],h=>cases h
   |[_,_],_::_::_::_,h=>cases h
   |_::_::_::_,[],h=>cases h
   |_::_::_::_,[_],h=>cases h
   |_::_::_::_,_::_::_,h=>cases h
  |IfExp t a b pos=>
   obtain⟨mt,b0,l,A,rfl⟩:=cq h;obtain⟨z,B,w,D,rfl⟩:=cq A;exact⟨λd=>zH ((g _ _ l).2.1 d) ((g _ _ w).1 d) ((g _ _ D).1 d),λd=>zI ((g _ _ l).2.1 d) ((g _ _ w).2.1 d) ((g _ _ D).2.1 d),rfl⟩
  |Subscript a s pos=>
   have Q:∀b,isSlice b=false->o2 (cP T n u N a) (cP T n u N b) (m2 az)=some m->jy X κ (.Subscript a b pos) m:=λb R h=>by
    obtain⟨z,B,l,w,rfl⟩:=cq h;refine cu (λd=>zz (by have:=G.hu;omega) (λo i=>?_) ((g _ _ l).1 d) ((g _ _ w).1 d)) rfl (λ_=>rfl)
    cases b<;>first|rfl | (cases R)
   cases s with
   |Slice lo F st p2=>
    cases st with
    |none=>
     obtain⟨z,c0,l,A,rfl⟩:=cq h;obtain⟨⟨nl,ml⟩,⟨nh,mh⟩,w,D,rfl⟩:=cq A;exact cu (λd=>zA ((g _ _ l).1 d) (pN g w) (pN g D)) rfl (λ_=>rfl)
    |some e=>
     cases lo with
     |none=>
      cases F with
      |none=>
       exact nomatch (show(none:Option EM)=some m from h)
      |some _=>exact nomatch (show(none:Option EM)=some m from h)
     |some _=>exact nomatch (show(none:Option EM)=some m from h)
   |_=>exact Q _ rfl h
  |List es pos=>
   obtain⟨L,l,rfl⟩:=cJ h;exact cu (λd=>zr ((cK g l).1 d)) rfl (λ_=>rfl)
  |Tuple es j pos=>
   obtain⟨L,l,rfl⟩:=cJ h;exact cu (λd=>zt ((cK g l).1 d)) rfl (λ_=>rfl)
  |Attribute o f pos=>
   replace h:(if ek o=true then o2 (T.fld.lookup f) (cP T n u N o) λS m=>m1 (dm S f) m else none)=some m:=h
   split at h
   .rename_i R
    obtain⟨S,H,l,w,rfl⟩:=cq h;exact cu (λd=>Ac (G.fld f S l) (dP R) ((g o H w).1 d)) rfl (λ_=>rfl)
   .cases h
  |Call f args I pos=>
   cases f with
   |Name x p=>
    cases I with
    |nil=>
     replace h:(match kY u (cP T n u N) x args with|some m=>some m|none=>jT T u N (cP T n u N) x args)=some m:=h
     cases F:kY u (cP T n u N) x args with
     |some m'=>
      rw[F]at h;cases h;exact xK G g F
     |none=>
      rw[F]at h;exact xJ G g h
    |cons _ _=>cases h
   |Attribute o mm p1=>
    cases I with
    |nil=>
     replace h:(if (p1.endLine==pos.line&&ek o&&decide (args.length<20))=true then (match cP T n u N o,dB (cP T n u N) args with
   |some H,some L=>jS T mm args.length H L
   |_,_=>none)else none)=some m:=h
     split at h
     .rename_i M
      simp only[Bool.and_eq_true,decide_eq_true_eq]at M;split at h
      .rename_i H L l w
       exact cu (λd=>xH G M.1.2 M.1.1 M.2 ((g o H l).1 d) w g h) rfl (λ_=>rfl)
      .cases h
     .cases h
    |cons _ _=>cases h
   |_=>cases h
  |ListComp e0 gens scope pos=>
   cases V:kF gens with
   |none=>exact k9 V h
   |some q=>
    obtain⟨x,px,iter,f0⟩:=q;obtain rfl:=mB V;obtain⟨me,nc,mc,mi,g0,rfl,b1,b2,b3,b4,b5,b6⟩:=jz (λX u N e m G q=>U X u N e m G q) G h
    exact cu (λd=>xk G.calm b1 b4 (b5 d) b2 b3 b6) rfl (λ_=>rfl)
  |Dict Y J pos=>
   replace h:(if emptyDict Y J=true then some bY else none)=some m:=h
   split at h
   .rename_i hd
    cases h
    match Y,J,hd with
    |[],[],_=>exact cu (λd=>uS) rfl (λ_=>rfl)
   .cases h
  |_=>cases h
end
structure fS(X:Cx)(κ:Str->Addr->Prop)(T:bb)(k:Nat)(sc:Scope)(N:List Str):Prop extends GoodO X κ T k sc N where
 own:PassesOwn (model X.prog X.w) X.A X.env X.xe
 LH:∀x,wG sc x=true->T.fz.contains x=false->(X.fn x=true\/X.env.scope.names.lookup x=some .local)
 sP:N.Nodup
 kind:sc.kind=.function
 vy:T.xt=false->∀e s,¬ X.xe e s
def fy(f:Stmt->Option SM):List Stmt->Option SM
 |[]=>some ai
 |s::r=>o2 (f s) (fy f r) ag
def nY(f:Expr->Option EM)(b:Scope)(iter:Expr):Option IM:=match iter with
 |.Call (.Name g _) [a] [] _=>if g==("enumerate":Str)then (if wH b g then (f a).map lS else none)else hW f b iter
 |.Call (.Attribute o c d) [] [] e=>if c==("items":Str)&&d.endLine==e.line&&ek o then (f o).map kS else hW f b iter
 |_=>hW f b iter
noncomputable def Ds:Expr->Bool
 |.Dict [] [] _=>true
 |_=>false
theorem xM{e:Expr}(h:Ds e=true):∃p,e=.Dict [] [] p:=by
 unfold Ds at h;split at h
 .exact⟨_,rfl⟩
 .cases h
def k_(T:bb)(a:Scope)(N:List Str)(x:Str):Option Nat:=if T.fz.contains x then none else pe a N x
def la(T:bb)(a:Scope)(N:List Str)(nms:List (Str×Pos)):Option (List Nat):=if nms.any (λy=>T.fz.contains y.1)then none else kH a N nms
def rC(T:bb)(td:List Str)(k:Nat)(a:Scope)(N:List Str)(x:Str)(b:Pos)(e:Expr)(pos:Pos):Option SM:=match k_ T a N x with
   |some i=>if td.contains x&&Ds e then some (ax i Dn)else (match cP T k a N e with
    |some m=>if pf a x b e then (if pos.line==b.line then some (ax i m)else none)else some (ax i m)
    |none=>none)
   |none=>none
def rD(T:bb)(k:Nat)(a:Scope)(N:List Str)(es:List Expr)(e:Expr):Option SM:=match eG es with
   |some nms=>match la T a N nms,cP T k a N e with
    |some b,some m=>if wM e then some (rp b m)else none
    |_,_=>none
   |none=>none
def jJ(T:bb)(td:List Str)(k:Nat)(d:Scope)(N:List Str):Nat->Stmt->Option SM
 |0,_=>none
 |n+1,st=>match st with
  |.Return (some e) _=>some (match cP T k d N e with
   |some m=>aZ m
   |none=>bW)
  |.Assign [.Name x h] e pos=>rC T td k d N x h e pos
  |.Assign [.Tuple es _ _] e _=>rD T k d N es e
  |.Assign [.Attribute o f _] e _=>if ek o&&!h_ e then o2 (T.fld.lookup f) (o2 (cP T k d N o) (cP T k d N e) Prod.mk) λCs y=>eh Cs f y.1 y.2 else none
  |.Assign [.Subscript o i _] e _=>if isSlice i||h_ e then none else o2 (cP T k d N o) (o2 (cP T k d N i) (cP T k d N e) Prod.mk) λx y=>dO x y.1 y.2
  |.Expr e _=>if h_ e then none else (cP T k d N e).map bC
  |.If c a b _=>o2 (cP T k d N c) (o2 (fy (jJ T td k d N n) a) (fy (jJ T td k d N n) b) Prod.mk) λx y=>dc x y.1 y.2
  |.While c b [] _=>o2 (cP T k d N c) (fy (jJ T td k d N n) b) jd
  |.For (.Name x _) g b [] _=>if isSet g then none else o2 (k_ T d N x) (o2 (hW (cP T k d N) d g) (fy (jJ T td k d N n) b) Prod.mk) λi y=>bX (bp i) y.1 y.2
  |.For (.Tuple es _ _) g b [] _=>if isSet g then none else match eG es with
   |some nms=>o2 (la T d N nms) (o2 (nY (cP T k d N) d g) (fy (jJ T td k d N n) b) Prod.mk) λj y=>bX (fx j) y.1 y.2
   |none=>none
  |.Raise _ _ _=>some bW
  |.Try b (_::_) [] [] _=>if T.xt then none else fy (jJ T td k d N n) b
  |_=>none
section
variable{X:Cx}{κ:Str->Addr->Prop}{Φ:gv}{T:bb}{td:List Str}{k:Nat}{sc:Scope}{N:List Str}{α α' ia α1:List Addr}{Z Z' Z0 Z1:Addr->Prop}{Ω ao:aD}{H H' H0 H1:Hp}
theorem Al{es:List Expr}{x1:Nat}{B p pos:Pos}{a:Expr}{m:EM}(hg:Gl X "enumerate")(hm:X.mg "enumerate"=none)(hs:starEach [a] X.env=[(false,eval a X.env)])(ha:bx X κ Φ a m) :
  vp X κ Φ (.Tuple es x1 B) (.Call (.Name "enumerate" p) [a] [] pos) (lS m):=by
 intro U Z0 H0 ρ C;refine PI.imp (wQ hg hm (er (ha U Z0 H0 ρ C) kj hs) hs) ?_;rintro σ H R ⟨α,Z,S,g⟩;refine⟨α,Z,S,qu.use g λx Y _ v H1 E Z1 g1 k F G=>?_⟩
 have I:∀{b:List Addr}{l:Addr->Prop}{c:aD}{h:Hp}{i:Nat}{v:V}{J:D},bR κ b l c h->aq b l h J v->∀p,h p=none->∃Z3,cH b l h b Z3 (upd h p (.tup [.int i,v]))/\bR κ b Z3 c (upd h p (.tup [.int i,v]))/\aq b Z3 (upd h p (.tup [.int i,v])) (.tup [.int (0+i:Nat),J]) (.ref p):=λ{b l c h i v J} n K p L=>by
  obtain⟨s3,g3⟩:=n.sQ (p:=p) (o:=.tup [.int i,v]) L True;simp only[if_true]at s3 g3;refine⟨Zp l p,g3,s3,?_⟩;simp only[aq];refine⟨p,_,rfl,.inr rfl,aU,br.mpr (.cons ?_ (.one (n.dq g3 K)))⟩;simp only[aq];simp
 cases Q:eK Y x with
 |none=>simp only[Q]at G;exact G.elim
 |some b0=>
  simp only[Q]at G
  by_cases ht:∃es,x=.tup es
  .obtain⟨M,rfl⟩:=ht
   have q:=F;simp only[aq]at F;obtain⟨a,r,rfl,z1,q1,q2⟩:=F;refine⟨a,rfl,.inr ⟨⟨r,f_.of q1⟩,G _ H1 E Z1 (cH.refl k.has) k ?_⟩⟩;intro b l c h ds g2 n f;have f:some (dg 0 M)=some ds:=f;cases f;have T:=k.dq g2 q;simp only[aq]at T;obtain⟨a',s,e,z3,t,u⟩:=T;cases e;have u:=br.mp u;refine⟨λi d hd=>?_,λi N=>by rw[gK]at N;exact⟨s,f_.of t,by rw[u.length];exact N⟩⟩
   obtain⟨J,z,rfl⟩:=iw M 0 i d hd;obtain⟨v,O,K⟩:=u.get z;refine⟨⟨s,v,f_.of t,O⟩,λy H3 A=>?_⟩
   obtain⟨p,rfl,L,A⟩:=A;obtain⟨w,P,rfl⟩:=A s (f_.of t);rw[O]at P;cases P
   exact I n K p L
  .have j:∀C,eK C x=dJ C x:=λC=>by
    cases x with
    |tup es=>exact absurd ⟨es,rfl⟩ ht
    |_=>rfl
   rw[j]at Q;have q:=F;obtain⟨a,r,rfl,q1,q2⟩:=ck k F Q;refine⟨a,rfl,.inl ⟨⟨r,jQ q1⟩,G _ H1 E Z1 (cH.refl k.has) k ?_⟩⟩;intro b l c h ds g2 n f;obtain⟨a0,h2,rfl⟩:=cJ f;rw[j]at h2;have T:=k.dq g2 q;obtain⟨a',s,e,t,u⟩:=ck n T h2;cases e;refine⟨λi d hd=>?_,λi N=>by rw[gK]at N;exact⟨s,jQ t,by rw[u.length];exact N⟩⟩
   obtain⟨J,z,rfl⟩:=iw a0 0 i d hd;obtain⟨v,O,K⟩:=u.get z;refine⟨⟨s,v,jQ t,O⟩,λy H3 A=>?_⟩
   obtain⟨p,rfl,L,A⟩:=A;obtain⟨w,P,rfl⟩:=A s (jQ t);rw[O]at P;cases P
   exact I n K p L
theorem u9{es:List Expr}{y:Nat}{h r s:Pos}{a:Expr}{m:EM}(z:ek a=true)(A:(r.endLine==s.line)=true)(e:bx X κ Φ a m) :
  vp X κ Φ (.Tuple es y h) (.Call (.Attribute a "items" r) [] [] s) (kS m):=by
 intro n B C D E;refine PI.imp (xa (dP z) A (e n B C D E)) ?_;rintro O H R ⟨F,Z,S,g⟩;refine⟨F,Z,S,qu.use g λx G _ v P I Q T i t f=>?_⟩
 unfold s_ at f;split at f
 .rename_i k
  simp only[aq]at t;obtain⟨a,e,rfl⟩:=t;split at f
  .rename_i j p
   obtain⟨J,d,b,l,w⟩:=i.cell p;rw[e]at d;cases d
   refine⟨a,b,rfl,.inl ⟨l,λo=>?_⟩⟩
   obtain⟨K,L⟩:=i.put (c:=.dF j) (o:=.dI o (.dK b)) e (λo u q=>by rw[l]at q;cases q) λR M=>⟨o,b,aU,w.imp M⟩
   exact f _ _ _ _ L K (mL e aU)
  .rename_i j p
   obtain⟨J,d,N,b,l,w⟩:=i.cell p;rw[e]at d;cases d
   exact⟨a,b,rfl,.inr ⟨N,l,f _ _ _ _ (cH.refl i.has) i (mL e l)⟩⟩
  .exact f.elim
 .exact f.elim
theorem Am{body:List Stmt}{d:ExceptHandler}{g:List ExceptHandler}{pos:Pos}{b:SM}(i:∀e s,¬ X.xe e s)(j:lT X κ Φ body b):pG X κ Φ (.Try body (d::g) [] [] pos) b:=by
 intro a k l m n pins s o H D I h;refine wpAny_Try_except (wpAny_mono (j a k l m n pins s o H D I h) (λf c q=>?_) λe c q=>absurd q (i e c))
 cases f with
 |next=>exact wpAny_execs_nil q
 |_=>exact q
theorem An(G:GoodO X κ T k sc N){f:Expr->Option EM}(b:∀e m,f e=some m->jy X κ e m){iter:Expr}{mi:IM}(h:nY f sc iter=some mi){es:List Expr}{j:Nat}{l:Pos}:∀Φ,vp X κ Φ (.Tuple es j l) iter mi:=by
 intro Φ;unfold nY at h;split at h
 .rename_i g p a n
  split at h
  .rename_i q
   obtain rfl:=eq_of_beq q;split at h
   .rename_i c
    obtain⟨d,e,rfl⟩:=cJ h;obtain⟨i,_,r⟩:=b a d e;exact Al (G.gl c) (G.eQ _ (by decide)) (by rw[cA r];rfl) (i Φ)
   .cases h
  .exact kZ G b h Φ _
 .rename_i o u i w
  split at h
  .rename_i c
   simp only[Bool.and_eq_true,beq_iff_eq]at c;obtain⟨⟨rfl,s⟩,t⟩:=c;obtain⟨d,e,rfl⟩:=cJ h;exact u9 t (by simpa using s) ((b o d e).1 Φ)
  .exact kZ G b h Φ _
 .exact kZ G b h Φ _
theorem u_(G:fS X κ T k sc N){x:Str}{i:Nat}(h:pe sc N x=some i):X.N[i]?=some x/\Loc X.env.scope x:=by
 unfold pe at h;split at h
 .rename_i b
  simp only[Bool.and_eq_true]at b;refine⟨by rw[G.names];exact wK h,?_⟩
  rw[G.scope];have a:=b.1;unfold wG at a;unfold L2.Loc;split at a
  .rename_i q;exact .inl q
  .rename_i q;exact .inr q
  .cases a
 .cases h
theorem iL{f:Stmt->Option SM}(e:∀s c,f s=some c->pG X κ Φ s c):∀{d:List Stmt}{c:SM},fy f d=some c->lT X κ Φ d c
 |[],c,h=>by cases h;exact z9
 |s::d,c,h=>by
  obtain⟨a,b,h1,h2,rfl⟩:=cq h;exact xl (e s a h1) (iL e h2)
theorem gP(G:fS X κ T k sc N){x:Str}{i:Nat}(h:k_ T sc N x=some i):X.N[i]?=some x/\Loc X.env.scope x/\(X.fn x=true\/X.env.scope.names.lookup x=some .local):=by
 unfold k_ at h;split at h
 .cases h
 .rename_i d
  obtain⟨a,b⟩:=u_ G h;refine⟨a,b,G.LH x ?_ (by simpa using d)⟩
  unfold pe at h;split at h
  .rename_i c;simp only[Bool.and_eq_true]at c;exact c.1
  .cases h
theorem lb(G:fS X κ T k sc N):∀{nms:List (Str×Pos)}{a:List Nat},(∀y∈nms,T.fz.contains y.1=false)->kH sc N nms=some a->a.length=nms.length/\∀(j i:Nat) (x:Str×Pos),a[j]?=some i->nms[j]?=some x->X.N[i]?=some x.1/\Loc X.env.scope x.1/\(X.fn x.1=true\/X.env.scope.names.lookup x.1=some .local)
 |[],a,_,h=>by cases h;exact⟨rfl,λj i x e=>by simp at e⟩
 |x::xs,a,d,h=>by
  simp only[kH,Option.bind_eq_bind]at h;obtain⟨i,h1,h⟩:=Option.bind_eq_some_iff.mp h;obtain⟨f,g,h⟩:=Option.bind_eq_some_iff.mp h;cases h;obtain⟨l,m⟩:=lb G (λy n=>d y (by simp[n])) g
  refine⟨by rw[List.length_cons,List.length_cons,l],λj o y b c=>?_⟩
  cases j with
  |zero=>
   simp at b c;subst b c
   exact gP G (by unfold k_;rw[if_neg (by rw[d x (by simp)];simp)];exact h1)
  |succ j=>exact m j o y (by simpa using b) (by simpa using c)
theorem pO(G:fS X κ T k sc N){es:List Expr}{j:Nat}{p:Pos}{nms:List (Str×Pos)}{a:List Nat}(e:eG es=some nms)(c:la T sc N nms=some a):PG X (.Tuple es j p) (yD X.K a.length (i8 a)):=by
 obtain rfl:=jt e
 have b:(∀y∈nms,T.fz.contains y.1=false)/\kH sc N nms=some a:=by
  unfold la at c;split at c
  .cases c
  .rename_i f
   refine⟨λy g=>?_,c⟩
   cases q:T.fz.contains y.1 with
   |false=>rfl
   |true=>exact absurd (List.any_eq_true.mpr ⟨y,g,q⟩) f
 obtain⟨d,h⟩:=lb G b.1 b.2;obtain⟨i,l⟩:=mD X.env nms;exact Cm G.calm (my (nms:=nms) (by rw[G.names];exact G.sP) a nms d h) (by rw[i,d]) l
theorem pP{a:Expr}{gens:List Comprehension}{scope:Scope}{p b:Pos}{x:Str}{l:Nat}(G:fS X κ T k sc N) :
  swapsWith (.ListComp a gens scope p) (some (.Name x b)) l X.env=pure (pf sc x b (.ListComp a gens scope p)):=by
 have c:X.env.blockKind=.function:=by
  show(if X.env.scope.kind.isAnnotationScope=true then ScopeKind.function else X.env.scope.kind)=_
  rw[G.scope,G.kind];rfl
 show pure (X.env.blockKind==.function&&X.env.kindOf x==some .local&&b.line==p.line&&!(scope.names.any λ(n,k)=>n==x&&(k==.local||k==.cell)))=_
 rw[c]
 show pure (true&&X.env.scope.names.lookup x==some .local&&b.line==p.line&&!(scope.names.any λ(n,k)=>n==x&&(k==.local||k==.cell)))=_
 rw[G.scope];rfl
theorem tB(G:fS X κ T k sc N){n i:Nat}{x:Str}{a pos:Pos}{e:Expr}{m:EM}(j:k_ T sc N x=some i)(h:cP T n sc N e=some m)(l:pf sc x a e=true->pos.line=a.line):pG X κ Φ (.Assign [.Name x a] e pos) (ax i m):=by
 obtain⟨d,o,r⟩:=gP G j;have f:X.N.Nodup:=by rw[G.names];exact G.sP
 have E:=rA n X sc N e m G.toGoodO h;have plain:swapsWith e (some (.Name x a)) pos.line X.env=pure false->pG X κ Φ (.Assign [.Name x a] e pos) (ax i m):=λq=>tj f d o r q (E.1 Φ)
 cases e with
 |ListComp c gens scope p=>
  cases b:pf sc x a (.ListComp c gens scope p)with
  |false=>exact plain (by rw[pP G,b])
  |true=>
   cases n with
   |zero=>cases h
   |succ n=>
   cases g:kF gens with
   |none=>exact k9 g h
   |some q=>
    obtain⟨y,D,iter,s⟩:=q;obtain rfl:=mB g;obtain⟨F,H,I,J,cap,rfl,t,u,w,z,A,B⟩:=jz (λX sc N e m G q=>rA n X sc N e m G q) G.toGoodO h
    have C:X.env.scope.names.lookup x=some .local:=by
     rw[G.scope];unfold pf at b;simp only[Bool.and_eq_true,beq_iff_eq]at b;exact b.1.1
    exact xm f d C (by rw[pP G,b]) G.calm t z (jr 1 (by decide)) (kT (cap:=cap) (A Φ) u w B) (l b)
 |SetComp=>cases n<;>cases h
 |DictComp=>cases n<;>cases h
 |_=>exact plain rfl
theorem rE{e:Expr}{t:Option Expr}{l:Nat}{env:Env}(h:h_ e=false):swapsWith e t l env=pure false:=by
 cases e<;>first|rfl | (cases h)
theorem tD(G:fS X κ T k sc N):∀(n:Nat) (d:Nat) (st:Stmt) (c:SM),jJ T td d sc N n st=some c->pG X κ Φ st c:=by
 intro n d;have E:∀e m,cP T d sc N e=some m->jy X κ e m:=λe m q=>rA d X sc N e m G.toGoodO q
 induction n with
 |zero=>intro st c h;cases h
 |succ n ih=>
  intro st c h;have B:∀H c,fy (jJ T td d sc N n) H=some c->lT X κ Φ H c:=λH c q=>iL ih q
  have S:X.N.Nodup:=by rw[G.names];exact G.sP
  cases st with
  |Return v l=>
   cases v with
   |none=>cases h
   |some e=>
    replace h:some (match cP T d sc N e with
   |some m=>aZ m
   |none=>bW)=some c:=h
    cases h;split
    .rename_i m g
     exact z_ ((E e m g).1 Φ)
    .exact mM
  |Assign ts e l=>
   cases ts with
   |nil=>cases h
   |cons t r=>
   cases r with
   |cons t2 r=>cases t<;>cases h
   |nil=>
   cases t with
   |Name x U=>
    replace h:rC T td d sc N x U e l=some c:=h;unfold rC at h;split at h
    .rename_i i I
     split at h
     .rename_i V
      cases h;simp only[Bool.and_eq_true]at V;obtain⟨pd,rfl⟩:=xM V.2;obtain⟨J,K,L⟩:=gP G I;exact tj S J K L rfl uT
     .split at h
      .rename_i m Y
       split at h
       .split at h
        .rename_i u hl
         cases h;exact tB G I Y λ_=>eq_of_beq hl
        .cases h
       .rename_i u
        cases h;exact tB G I Y λq=>absurd q u
      .cases h
    .cases h
   |Tuple M j p=>
    replace h:rD T d sc N M e=some c:=h;unfold rD at h;split at h
    .rename_i nms O
     split at h
     .rename_i D m g s
      split at h
      .rename_i hp
       cases h;exact Ab (pO G O g) hp ((E e m s).1 Φ)
      .cases h
     .cases h
    .cases h
   |Attribute o f p=>
    replace h:(if (ek o&&!h_ e)=true then o2 (T.fld.lookup f) (o2 (cP T d sc N o) (cP T d sc N e) Prod.mk) λP y=>eh P f y.1 y.2 else none)=some c:=h
    split at h
    .rename_i A
     simp only[Bool.and_eq_true,Bool.not_eq_true']at A;obtain⟨P,y,g,s,rfl⟩:=cq h;obtain⟨mo,Q,w,z,rfl⟩:=cq s;exact Ae (G.fld f P g) (rE A.2) ((E o mo w).1 Φ) ((E e Q z).1 Φ)
    .cases h
   |Subscript o i p=>
    replace h:(if (isSlice i||h_ e)=true then none else o2 (cP T d sc N o) (o2 (cP T d sc N i) (cP T d sc N e) Prod.mk) λx y=>dO x y.1 y.2)=some c:=h
    split at h
    .cases h
    .rename_i A
     simp only[Bool.or_eq_true,not_or,Bool.not_eq_true]at A;obtain⟨md,y,g,s,rfl⟩:=cq h;obtain⟨mk,Q,w,z,rfl⟩:=cq s;exact xA (by have:=G.hu;omega) ((E o md g).1 Φ) ((E i mk w).1 Φ) ((E e Q z).1 Φ) (rE A.2)
   |_=>cases h
  |Expr e l=>
   replace h:(if h_ e=true then none else (cP T d sc N e).map bC)=some c:=h
   split at h
   .cases h
   .rename_i A
    obtain⟨m,g,rfl⟩:=cJ h;exact Aa (rE (by simpa using A)) ((E e m g).1 Φ)
  |If R a b l=>
   obtain⟨m,y,g,s,rfl⟩:=cq h;obtain⟨ca,C,w,z,rfl⟩:=cq s;exact Dk ((E R m g).2.1 Φ) (B a ca w) (B b C z)
  |While R b e l=>
   cases e with
   |nil=>
    obtain⟨m,C,g,s,rfl⟩:=cq h;exact uP G.own ((E R m g).2.1 Φ) (B b C s)
   |cons _ _=>cases h
  |For Z F b e l=>
   cases e with
   |nil=>
    cases Z with
    |Name x U=>
     replace h:(if isSet F=true then none else o2 (k_ T sc N x) (o2 (hW (cP T d sc N) sc F) (fy (jJ T td d sc N n) b) Prod.mk) λi y=>bX (bp i) y.1 y.2)=some c:=h
     split at h
     .cases h
     .rename_i u
      obtain⟨i,y,g,s,rfl⟩:=cq h;obtain⟨mi,C,w,z,rfl⟩:=cq s;obtain⟨J,K,L⟩:=gP G g;exact tm G.own G.calm (kZ G.toGoodO E w Φ _) (mX S J K L) (Dl i) (B b C z) (kG (by simpa using u))
    |Tuple M j p=>
     replace h:(if isSet F=true then none else match eG M with
   |some nms=>o2 (la T sc N nms) (o2 (nY (cP T d sc N) sc F) (fy (jJ T td d sc N n) b) Prod.mk) λD y=>bX (fx D) y.1 y.2
   |none=>none)=some c:=h
     split at h
     .cases h
     .rename_i u
      split at h
      .rename_i nms O
       obtain⟨D,y,g,s,rfl⟩:=cq h;obtain⟨mi,C,w,z,rfl⟩:=cq s;exact tm G.own G.calm (An G.toGoodO E w Φ) (pO G O g) (xo D) (B b C z) (kG (by simpa using u))
      .cases h
    |_=>cases h
   |cons _ _=>cases Z<;>cases h
  |Raise _ _ _=>cases h;exact mM
  |Try b u oe fi l=>
   match u,oe,fi,h with
   |h0::u,[],[],h=>
    replace h:(if T.xt then none else fy (jJ T td d sc N n) b)=some c:=h
    split at h
    .cases h
    .rename_i hx
     exact Am (G.vy (by simpa using hx)) (B b c h)
   |[],_,_,h=>cases h
   |_::_,_::_,_,h=>cases h
   |_::_,[],_::_,h=>cases h
  |_=>cases h
def eT(mg:Str->Option Value):Str->Addr->Prop:=λC a=>mg C=some (.ref a)
structure bA(P:Program)(w:World)(K:PySem.W.Frag)(mg:Str->Option Value)(base:Heap)(T:bb)(k:Nat):Prop where
 eQ:∀x∈ed,mg x=none
 lI:∀x F,T.lI.lookup x=some F->∃(f:Addr) (fd:FuncData) (ps:List Str),mg x=some (.ref f)/\PySem.W.keepIn K (.ref f)=true/\Binds K fd ps []/\c_ P w K mg base jO k f fd ps (kC F)
 fn:∀x F,T.fn.lookup x=some F->∃(f:Addr) (fd:FuncData) (ps:List Str),mg x=some (.ref f)/\PySem.W.keepIn K (.ref f)=true/\Binds K fd ps []/\c_ P w K mg base jO k f fd ps (dX (eT mg) F)
 cst:∀x d,T.cst.lookup x=some d->∃v u,mg x=some u/\RelV v u/\fq d=some v
 met:∀m C F,(m,C,F)∈T.met->∃(Ca f:Addr) (fd:FuncData) (ps:List Str),BQ P w K mg base (eT mg) k C m F Ca f fd ps
 cls:∀C F,T.cls.lookup C=some F->∃j,j+1<=k/\∃(Ca f:Addr) (fd:FuncData) (ps:List Str),eT mg C Ca/\Mk K Ca f/\mg C=some (.ref Ca)/\Binds K fd ps []/\c_ P w K mg base jO j f fd ps (dX (eT mg) F)
 fld:∀f Cs,T.fld.lookup f=some Cs->je K (eT mg) Cs f
 clo:∀j F,T.clo[j]?=some F->pJ P w K mg base (eT mg) k j F
def bZ(T:bb)(td:List Str)(st:Stmt)(N:List Str):Option SM:=fy (jJ T td 60 (au st) N 30) (bN st)
end
section
variable{P:Program}{w:World}{K:PySem.W.Frag}{mg:Str->Option Value}{base:Heap}{T:bb}{k:Nat}
theorem bc(W:bA P w K mg base T k){x qual:Str}{st:Stmt}{f:Addr}{t:FuncData}(F:CP K x qual st f t){N ps td:List Str}{c:SM}(u:bO N ps (au st)=true)(D:bZ T td st N=some c) :
    c_ P w K mg base jO (k+1) f t ps (dX (eT mg) (bL N.length ps.length c)):=by
  refine F.ok (nH u) (λI H Q E h=>?_) λn A outer s H I Q E J h=>?_
  · obtain⟨e,Z,i,l,S,r,g⟩:=h
    rw[r.length];unfold bL at g;split at g
    · rename_i L;exact L
    · exact g.elim
  · obtain⟨e,Z,i,l,S,r,g⟩:=h
    have y:=nH u
    have G:fS (oK jO P w K mg base N qual (au st) f n A outer s H E).vy (eT mg) T k (au st) N:=
      { scope:=rfl,names:=rfl,calm:=rfl,room:=J,eQ:=W.eQ,own:=PassesOwn.never,LH:=λ_ _ _=>.inl rfl,sP:=y.nd,kind:=y.kind,vy:=λ_ _ _ h=>h,fld:=W.fld,cst:=W.cst
        lI:=λx F h=>⟨W.lI x F h⟩,fn:=λx F h=>⟨W.fn x F h⟩,met:=λm C F h=>⟨W.met m C F h⟩,cls:=λC F h=>let ⟨j,M,O⟩:=W.cls C F h;⟨j,M,⟨O⟩⟩,clo:=W.clo }
    refine⟨Gn (eT mg) pE e Z H c (aV N.length l) i,iL (tD G 30 60) D e Z H (aV N.length l) i,e,Z,kW S r,?_⟩;unfold bL at g;split at g
    · cases q:c (aV N.length l) i with
      |rt d a=>rw[q]at g;exact λv o b p R st r=>g v o b p R st r
      |nx z a=>rw[q]at g;exact λU o b p B=>g .non o b p B.gr B.st (aT rfl)
      |bk z a=>rw[q]at g;exact g.elim
      |ct z a=>rw[q]at g;exact g.elim
      |exc x a=>rw[q]at g;exact g
      |bad=>rw[q]at g;exact g.elim
    · exact g.elim
theorem Ao{F:ba}{ao:aD}{H:Hp}{a:Addr}{ns:List Int}{κ:Str->Addr->Prop}(c:Rd H a (.lst (ns.map V.int)))(h:F [.lst (ns.map D.int)] []=.ok (.bl true) ao):dX κ F [.ref a] H (λv _=>v=.bl true) E0:=by
 refine⟨[],λb=>b=a,[],[.lst (ns.map D.int)],⟨List.nodup_nil,.nil,λ_ h=>by simp at h,λb e=>?_⟩,.one ?_,?_⟩
 .subst e
  rcases c with e|⟨o,e⟩<;>rw[e]<;>simp
 .simp only[aq]
  refine⟨a,ns.map V.int,rfl,rfl,c,?_⟩;clear h c
  induction ns with
  |nil=>exact br.mpr .nil
  |cons n ns d=>exact br.mpr (.cons (by simp only[aq]) (br.mp d))
 .rw[h]
  intro v i f j g s r;simpa only [aq]using r
theorem bA.mono(W:bA P w K mg base T k){j:Nat}(h:k<=j):bA P w K mg base T j:=
 ⟨W.eQ,λx F q=>let ⟨f,i,l,a,b,c,d⟩:=W.lI x F q;⟨f,i,l,a,b,c,d.mono h⟩,λx F q=>let ⟨f,i,l,a,b,c,d⟩:=W.fn x F q;⟨f,i,l,a,b,c,d.mono h⟩,W.cst,
  λm C F q=>let ⟨o,f,i,l,a,b,c,p,n,r,F1,d,d1,d2,e,g⟩:=W.met m C F q;⟨o,f,i,l,a,b,c,p,n,r,F1,d,d1,d2,e.mono h,g⟩,λC F q=>let ⟨s,t,u⟩:=W.cls C F q;⟨s,Nat.le_trans t h,u⟩,W.fld,λj F q=>(W.clo j F q).mono h⟩
end
noncomputable def bb.vc(T:bb)(x:Str)(F:List D->Out Rs):bb:={T with lI:=(x,F)::T.lI}
noncomputable def bb.cF(T:bb)(x:Str)(F:ba):bb:={T with fn:=(x,F)::T.fn}
noncomputable def bb.eU(T:bb)(C m:Str)(F:ba):bb:={T with met:=(m,C,F)::T.met}
noncomputable def bb.Ap(T:bb)(C:Str)(F:ba):bb:={T with cls:=(C,F)::T.cls}
def bb.vd(T:bb)(f:Str)(Cs:List Str):bb:={T with fld:=(f,Cs)::T.fld}
noncomputable def bb.lW(T:bb)(x:Str)(d:D):bb:={T with cst:=(x,d)::T.cst}
theorem fA{a:Type}{x y:Str}{F G:a}{l:List (Str×a)}(h:((x,F)::l).lookup y=some G):(y=x/\G=F)\/l.lookup y=some G:=by
 rw[List.lookup_cons]at h;cases e:y==x with
 |true=>rw[e]at h;cases h;exact .inl ⟨eq_of_beq e,rfl⟩
 |false=>rw[e]at h;exact .inr h
section
variable{P:Program}{w:World}{K:PySem.W.Frag}{mg:Str->Option Value}{base:Heap}{T:bb}{k:Nat}
theorem bA.start(a:∀x∈ed,mg x=none):bA P w K mg base {} 0:=
 ⟨a,λx F h=>(by cases h),λx F h=>(by cases h),λx d h=>(by cases h),λm C F h=>(by cases h),λC F h=>(by cases h),λf b h=>(by cases h),λj F h=>(by cases h)⟩
theorem bA.vc(W:bA P w K mg base T k){x:Str}{F:List D->Out Rs}{f:Addr}{a:FuncData}{ps:List Str}{j:Nat}(b:mg x=some (.ref f))(c:PySem.W.keepIn K (.ref f)=true)(d:Binds K a ps [])(h:c_ P w K mg base jO j f a ps (kC F))(e:j<=k) :
  bA P w K mg base (T.vc x F) k:=
 ⟨W.eQ,λy G q=>by
  rcases fA q with ⟨rfl,rfl⟩|q
  .exact⟨f,a,ps,b,c,d,h.mono e⟩
  .exact W.lI y G q,W.fn,W.cst,W.met,W.cls,W.fld,W.clo⟩
theorem bA.cF(W:bA P w K mg base T k){x:Str}{F:ba}{f:Addr}{b:FuncData}{ps:List Str}(c:mg x=some (.ref f))(d:PySem.W.keepIn K (.ref f)=true)(e:Binds K b ps [])(h:c_ P w K mg base jO (k+1) f b ps (dX (eT mg) F)) :
  bA P w K mg base (T.cF x F) (k+1):=by
 have a:=W.mono (Nat.le_succ k)
 exact⟨a.eQ,a.lI,λy G q=>by
  rcases fA q with ⟨rfl,rfl⟩|q
  .exact⟨f,b,ps,c,d,e,h⟩
  .exact a.fn y G q,a.cst,a.met,a.cls,a.fld,a.clo⟩
theorem bA.eU(W:bA P w K mg base T k){C m:Str}{F:ba}{c f:Addr}{e:FuncData}{ps:List Str}(g:mg C=some (.ref c))(i:oH K c)(M:Meth K c m f)(j:Binds K e ps [])(h:c_ P w K mg base jO (k+1) f e ps (dX (eT mg) F)) :
  bA P w K mg base (T.eU C m F) (k+1):=by
 have b:=W.mono (Nat.le_succ k)
 exact⟨b.eQ,b.lI,b.fn,b.cst,λl n G q=>by
  rcases List.mem_cons.mp q with q|q
  .cases q
   refine⟨c,f,e,ps,λa d=>?_,i,M,[],[],[],F,j,.nil,λ_ _ _=>.nil,h,by funext o;rw[List.append_nil]⟩
   have d:mg C=some (.ref a):=d;rw[g]at d;cases d;rfl
  .exact b.met l n G q,b.cls,b.fld,b.clo⟩
theorem bA.Gs(W:bA P w K mg base T k){C m:Str}{F:ba}{d f:Addr}{g:FuncData}{ps:List Str}{ds:List Value}{c:List V}{Dd:List D}(i:mg C=some (.ref d))(j:oH K d)(M:Meth K d m f)(l:Binds K g ps ds)(n:Vals c ds)(o:∀p Z H,aK (aq p Z H) Dd c)(h:c_ P w K mg base jO (k+1) f g ps (dX (eT mg) F)) :
  bA P w K mg base (T.eU C m λxs=>F (xs++Dd)) (k+1):=by
 have b:=W.mono (Nat.le_succ k)
 exact⟨b.eQ,b.lI,b.fn,b.cst,λr s G q=>by
  rcases List.mem_cons.mp q with q|q
  .cases q
   refine⟨d,f,g,ps,λa e=>?_,j,M,ds,c,Dd,F,l,n,o,h,rfl⟩
   have e:mg C=some (.ref a):=e;rw[i]at e;cases e;rfl
  .exact b.met r s G q,b.cls,b.fld,b.clo⟩
theorem bA.Ap(W:bA P w K mg base T k){C:Str}{F:ba}{b f:Addr}{c:FuncData}{ps:List Str}{j:Nat}(d:mg C=some (.ref b))(M:Mk K b f)(e:Binds K c ps [])(h:c_ P w K mg base jO j f c ps (dX (eT mg) F))(g:j<=k) :
  bA P w K mg base (T.Ap C F) (k+1):=by
 have a:=W.mono (Nat.le_succ k)
 exact⟨a.eQ,a.lI,a.fn,a.cst,a.met,λy G q=>by
  rcases fA q with ⟨rfl,rfl⟩|q
  .exact⟨j,by omega,b,f,c,ps,d,M,d,e,h⟩
  .exact a.cls y G q,a.fld,a.clo⟩
theorem bA.vd(W:bA P w K mg base T k){f:Str}{Cs:List Str}(h:je K (eT mg) Cs f):bA P w K mg base (T.vd f Cs) k:=
 ⟨W.eQ,W.lI,W.fn,W.cst,W.met,W.cls,λy G q=>by
  rcases fA q with ⟨rfl,rfl⟩|q
  .exact h
  .exact W.fld y G q,W.clo⟩
theorem bA.lW(W:bA P w K mg base T k){x:Str}{d:D}{v:V}{u:Value}(a:mg x=some u)(b:RelV v u)(c:fq d=some v):bA P w K mg base (T.lW x d) k:=
 ⟨W.eQ,W.lI,W.fn,λy G q=>by
  rcases fA q with ⟨rfl,rfl⟩|q
  .exact⟨v,u,a,b,c⟩
  .exact W.cst y G q,W.met,W.cls,W.fld,W.clo⟩
theorem plain1{C f:Str}{c:Addr}(g:mg C=some (.ref c))(h:oH K c)(n:PySem.W.findIn K (.ref c) f=some none):je K (eT mg) [C] f:=λe a d b=>by
 have d:e=C:=by simpa using d
 subst d;have b:mg e=some (.ref a):=b;rw[g]at b;cases b;exact⟨h,n⟩
end
def Gu(F:ba):Sp:=λa H Q E=>∀b,dX b F a H Q E
end Mir
namespace Mir
open PySem PySem.Spec PyProof.Rows L2
def Dt:D->Bool
 |.lst ds=>ds.all eV
 |d=>eV d
section
variable{α:List Addr}{Z Z1:Addr->Prop}{H H1:Hp}
theorem tE{d:D}{v:V}(a:eV d=true)(r:Rep Z H d v):aq α Z1 H1 d v:=by
 cases d with
 |lst _=>cases a
 |tup _=>cases a
 |ref _=>cases a
 |dct _ _=>cases a
 |_=>simp only[Rep]at r;simp only[aq];exact r
theorem ve{d:D}{v:V}(a:eV d=true)(r:aq α Z1 H1 d v):Rep Z H d v:=by
 cases d with
 |lst _=>cases a
 |tup _=>cases a
 |ref _=>cases a
 |dct _ _=>cases a
 |_=>simp only[aq]at r;simp only[Rep];exact r
theorem pQ:∀{ds:List D}{vs:List V},ds.all eV=true->aY Z H ds vs->ee α Z1 H1 ds vs
 |[],vs,_,r=>by simp only[aY]at r;simp only[ee];exact r
 |d::ds,vs,h,r=>by
  simp only[List.all_cons,Bool.and_eq_true]at h;simp only[aY]at r;obtain⟨v,a,e,h1,h2⟩:=r;simp only[ee];exact⟨v,a,e,tE h.1 h1,pQ h.2 h2⟩
theorem Gv{d:D}{v:V}(h:Dt d=true)(r:Rep Z H d v):aq α Z H d v:=by
 cases d with
 |lst g=>
  simp only[Rep]at r;obtain⟨a,b,e,z,c,f⟩:=r;simp only[aq];exact⟨a,b,e,z,c,pQ h f⟩
 |tup _=>cases h
 |ref _=>cases h
 |dct _ _=>cases h
 |_=>exact tE rfl r
theorem xN:∀{ds:List D}{vs:List V},ds.all Dt=true->aY Z H ds vs->aK (aq α Z H) ds vs
 |[],vs,_,r=>by simp only[aY]at r;subst r;exact .nil
 |d::ds,vs,h,r=>by
  simp only[List.all_cons,Bool.and_eq_true]at h;simp only[aY]at r;obtain⟨v,a,rfl,h1,h2⟩:=r;exact .cons (Gv h.1 h1) (xN h.2 h2)
end
variable [aJ]
def pureOf(O:ba):List D->Out Rs:=λa=>if a.all Dt=true then (match O a []with
  |.ok d _=>if eV d=true then .ok (false,d)else .bad
  |_=>.bad)else .bad
section
variable{P:Program}{w:World}{K:PySem.W.Frag}{mg:Str->Option Value}{base:Heap}{k:Nat}{f:Addr}{fd:FuncData}{ps:List Str}{O:ba}
theorem tF(h:c_ P w K mg base jO k f fd ps (dX (eT mg) O)):c_ P w K mg base jO k f fd ps (kC (pureOf O)):=h.imp λC H Q E q=>by
 obtain⟨Z,i,t,d,c,r,e,g⟩:=q;unfold pureOf at e
 by_cases j:i.all Dt=true
 .rw[if_pos j]at e
  refine⟨[],Z,[],i,⟨List.nodup_nil,.nil,λa l=>by simp at l,c⟩,xN j r,?_⟩
  cases m:O i []with
  |exc x u=>rw[m]at e;cases e
  |bad=>rw[m]at e;cases e
  |ok d1 u=>
   rw[m]at e;dsimp only at e
   by_cases n:eV d1=true
   .rw[if_pos n]at e
    cases e;intro v y z D p F A;refine g v y Z ⟨λb o B=>p.frm b o B (by simp),λ_ h=>h,λ_ h=>.inl h,λa l=>?_⟩ (.rep (ve n A))
    cases s:H a with
    |none=>exact absurd s (c a l)
    |some o=>rw[p.frm a o s (by simp)];simp
   .rw[if_neg n]at e;cases e
 .rw[if_neg j]at e;cases e
end
end Mir
namespace Mir
open PySem
@[simp] theorem Gw:jF .non=some false:=rfl
@[simp] theorem JE{b:Bool}:jF (.bl b)=some b:=rfl
@[simp] theorem Gx{i:Int}:jF (.int i)=some (i != 0):=rfl
@[simp] theorem Gy{xs:List D}:jF (.lst xs)=some (!xs.isEmpty):=rfl
@[simp] theorem Gz{xs:List D}:jF (.tup xs)=some (!xs.isEmpty):=rfl
section
variable{Γ:lN}{ρ:yZ}{a b:PZ}{e:Ex}{i j:Nat}{bw:Bool}
end
section
variable{bw:Bool}{i:Nat}{a b c es:Ex}
end
section
variable{Γ:lN}{ρ:yZ}{bw:Bool}{i:Nat}{a b c es:Ex}
def za(o:Bool)(f:List D->D):D->Out Rs
 |.tup ds=>if small ds.length=true then .ok (o,f ds)else .bad
 |_=>.bad
@[simp] theorem GA{o:Bool}{f:List D->D}{ds:List D}:za o f (.tup ds)=if small ds.length=true then .ok (o,f ds)else .bad:=rfl
end
@[simp] theorem JF{i j:Int}:fk .Add (.int i) (.int j)=.ok (false,.int (i+j)):=rfl
@[simp] theorem JG{i j:Int}:fk .Sub (.int i) (.int j)=.ok (false,.int (i - j)):=rfl
@[simp] theorem JH{i j:Int}:fk .Mult (.int i) (.int j)=if (kr i||kr j)=true then .ok (false,.int (i*j))else .bad:=rfl
@[simp] theorem JI{i j:Int}:fk .FloorDiv (.int i) (.int j)=if (decide (0<j)&&decide (j<1073741824))=true then .ok (false,.int (i / j))else .bad:=rfl
@[simp] theorem JJ{i j:Int}:fk .Mod (.int i) (.int j)=if decide (0<j)=true then .ok (false,.int (i%j))else .bad:=rfl
@[simp] theorem JK{i j:Int}:fk .Pow (.int i) (.int j)=if (decide (0<=j)&&decide (j<=1000)&&decide (i.natAbs<2 ^ 64))=true then .ok (false,.int (i ^ j.toNat))else .bad:=rfl
@[simp] theorem GB{i j:Str}:fk .Add (.str i) (.str j)=if small (i.length+j.length)=true then .ok (false,.str (i++j))else .bad:=rfl
@[simp] theorem GC{i j:List D}:fk .Add (.lst i) (.lst j)=if small (i.length+j.length)=true then .ok (true,.lst (i++j))else .bad:=rfl
@[simp] theorem Du{x y:D}:dU .Eq x y=if (aI 8 x&&aI 8 y)=true then .ok (d_ x y)else .bad:=rfl
@[simp] theorem Dv{x y:D}:dU .NotEq x y=if (aI 8 x&&aI 8 y)=true then .ok (!d_ x y)else .bad:=rfl
@[simp] theorem LJ{i j:Int}:dU .Lt (.int i) (.int j)=.ok (decide (i<j)):=rfl
@[simp] theorem LK{i j:Int}:dU .LtE (.int i) (.int j)=.ok (decide (i<=j)):=rfl
@[simp] theorem cmp_gt{i j:Int}:dU .Gt (.int i) (.int j)=.ok (decide (j<i)):=rfl
@[simp] theorem LN{i j:Int}:dU .GtE (.int i) (.int j)=.ok (decide (j<=i)):=rfl
@[simp] theorem LP{x y:D}:dU .In x y=inD x y:=rfl
@[simp] theorem JL{x y:D}:dU .NotIn x y=inD x y >>= λb=>.ok (!b):=rfl
@[simp] theorem LQ{x y:D}:dU .Is x y=isD x y:=rfl
@[simp] theorem JM{x y:D}:dU .IsNot x y=isD x y >>= λb=>.ok (!b):=rfl
@[simp] theorem LS{n:Nat}:aI n .non=true:=by cases n<;>rfl
@[simp] theorem Qa{n:Nat}{b:Bool}:aI n (.bl b)=true:=by cases n<;>rfl
@[simp] theorem LU{n:Nat}{i:Int}:aI n (.int i)=true:=by cases n<;>rfl
@[simp] theorem LV{n:Nat}{x:Str}:aI n (.str x)=true:=by cases n<;>rfl
@[simp] theorem LW{n:Nat}{xs:List D}:aI (n+1) (.lst xs)=xs.all (aI n):=rfl
@[simp] theorem LX{n:Nat}{xs:List D}:aI (n+1) (.tup xs)=xs.all (aI n):=rfl
@[simp] theorem eq_int{i j:Int}:d_ (.int i) (.int j)=(i==j):=rfl
@[simp] theorem Qb{i j:Bool}:d_ (.bl i) (.bl j)=(i==j):=rfl
@[simp] theorem eq_str{i j:Str}:d_ (.str i) (.str j)=(i==j):=rfl
@[simp] theorem LY{i j:List D}:d_ (.lst i) (.lst j)=et i j:=rfl
@[simp] theorem LZ{i j:List D}:d_ (.tup i) (.tup j)=et i j:=rfl
@[simp] theorem JN:et [] []=true:=rfl
@[simp] theorem pR{x y:D}{xs ys:List D}:et (x::xs) (y::ys)=(d_ x y&&et xs ys):=rfl
@[simp] theorem L7{y:D}{ys:List D}:et [] (y::ys)=false:=rfl
@[simp] theorem L8{y:D}{ys:List D}:et (y::ys) []=false:=rfl
theorem Aq{z:Str}{i:Int}{c:Nat}(h:small z.length=true)(e:L2.jD z.cps.toList i=some c):qM (.str z) (.int i)=.ok (false,.str (bJ c)):=by
 simp only[qM,h,if_pos,e]
@[simp] theorem JO{xs:List D}{l h:Option Int}:wb (.lst xs) l h=.ok (true,.lst (de xs l h)):=rfl
@[simp] theorem JP{z:Str}{l h:Option Int}:wb (.str z) l h=if small z.length=true then .ok (false,.str ⟨(de z.cps.toList l h).toArray⟩)else .bad:=rfl
@[simp] theorem JQ{xs:List D}:hZ .len (.tup [.lst xs])=.ok (false,.int xs.length):=rfl
@[simp] theorem JR{xs:List D}:hZ .len (.tup [.tup xs])=.ok (false,.int xs.length):=rfl
@[simp] theorem len_str{z:Str}:hZ .len (.tup [.str z])=if small z.length=true then .ok (false,.int z.length)else .bad:=rfl
def xO(f:List Bool->Bool):Option (List Bool)->Out Rs
 |some bs=>.ok (false,.bl (f bs))
 |none=>.bad
@[simp] theorem E8{f:List Bool->Bool}{bs:List Bool}:xO f (some bs)=.ok (false,.bl (f bs)):=rfl
@[simp] theorem JS{xs:List D}:hZ .all (.tup [.lst xs])=xO (λbs=>bs.all id) (fm xs):=rfl
@[simp] theorem JT{xs:List D}:hZ .any (.tup [.lst xs])=xO (λbs=>bs.any id) (fm xs):=rfl
@[simp] theorem GD{xs:List D}:hZ .list (.tup [.lst xs])=.ok (true,.lst xs):=rfl
@[simp] theorem GF{xs:List D}:hZ .list (.tup [.tup xs])=.ok (true,.lst xs):=rfl
@[simp] theorem E9{xs:List D}:hZ .tuple (.tup [.lst xs])=.ok (false,.tup xs):=rfl
@[simp] theorem E_{xs:List D}:hZ .tuple (.tup [.tup xs])=.ok (false,.tup xs):=rfl
@[simp] theorem int_int{i:Int}:hZ .int (.tup [.int i])=.ok (false,.int i):=rfl
@[simp] theorem L9{k:Bool}:hZ .int (.tup [.bl k])=.ok (false,.int (if k then 1 else 0)):=rfl
@[simp] theorem JU{i j:Int}:hZ .min (.tup [.int i,.int j])=.ok (false,.int (if j<i then j else i)):=rfl
@[simp] theorem JV{i j:Int}:hZ .max (.tup [.int i,.int j])=.ok (false,.int (if j>i then j else i)):=rfl
@[simp] theorem L_{t:Ty}:wc .non t=some false:=rfl
@[simp] theorem Qc{t:Ty}{b:Bool}:wc (.bl b) t=some (t==.bool||t==.int):=rfl
@[simp] theorem ty_int{t:Ty}{i:Int}:wc (.int i) t=some (t==.int):=rfl
@[simp] theorem ty_str{t:Ty}{x:Str}:wc (.str x) t=some (t==.str):=rfl
@[simp] theorem Ma{t:Ty}{xs:List D}:wc (.lst xs) t=some (t==.list):=rfl
@[simp] theorem Mb{t:Ty}{xs:List D}:wc (.tup xs) t=some (t==.tuple):=rfl
@[simp] theorem Mc{t:Ty}{a:List L2.Key}{xs:List D}:wc (.dct a xs) t=some (t==.dict):=rfl
theorem aN{n:Nat}(h:n<=100000):small n=true:=by
 unfold small;rw[decide_eq_true_eq,sizeLine_eq];omega
theorem iM{i:Int}(a : -(2 ^ 64)<i)(b:i<2 ^ 64):kr i=true:=decide_eq_true (by omega)
theorem eY{i:Int}(a : -(2 ^ 62)<i)(b:i<2 ^ 62):lM i=true:=decide_eq_true (by omega)
theorem Dw{b:Type}{xs:List b}{i:Int}(c:0<=i)(d:i<xs.length):∃x,x∈xs/\L2.jD xs i=some x:=by
 have a:i.toNat<xs.length:=by omega
 refine⟨xs[i.toNat],List.getElem_mem a,?_⟩;have h:=L2.dv (List.getElem?_eq_getElem a);rw[show(i.toNat:Int)=i by omega]at h
 exact h
@[simp] theorem in_str{x y:Str}:inD (.str x) (.str y)=.ok (sv x y):=rfl
theorem dQ(n:Nat):∀a:Int,(intsFrom a n).length=n:=by
 induction n with
 |zero=>intro a;rfl
 |succ n b=>intro a;simp[intsFrom,b]
theorem eZ{n:Nat}:∀{a:Int}{i:Nat}{d:D},(intsFrom a n)[i]?=some d->d=.int (a+i)/\i<n:=by
 induction n with
 |zero=>intro a i d h;simp[intsFrom]at h
 |succ n b=>
  intro a i d h;cases i with
  |zero=>simp[intsFrom]at h;subst h;exact⟨by simp,by omega⟩
  |succ i=>
   simp[intsFrom]at h;obtain⟨c,e⟩:=b h;exact⟨by rw[c];congr 1;omega,by omega⟩
noncomputable def L1(xs:List Str):D:=.lst (xs.map .str)
def LL(rs:List (List Str)):D:=.lst (rs.map L1)
theorem rF{a:Type}(xs:List a)(k:Nat):de xs (some (k:Int)) none=xs.drop k:=by
 unfold de;rw[HT.oN,HT.jN];rcases Nat.le_total k xs.length with h|h
 .rw[Nat.min_eq_left h]
  exact List.take_of_length_le (by simp)
 .rw[Nat.min_eq_right h,List.drop_eq_nil_of_le (Nat.le_refl _),List.drop_eq_nil_of_le h];simp
theorem rG{a:Type}(xs:List a)(k:Nat):de xs none (some (k:Int))=xs.take k:=by
 unfold de;rw[HT.oN,HT.jN,List.drop_zero,Nat.sub_zero];rcases Nat.le_total k xs.length with h|h
 .rw[Nat.min_eq_left h]
 .rw[Nat.min_eq_right h,List.take_of_length_le (Nat.le_refl _),List.take_of_length_le h]
theorem xP{a:Type}(xs:List a)(k m:Nat):de xs (some (k:Int)) (some (m:Int))=(xs.drop k).take (m - k):=by
 unfold de;rw[HT.jN,HT.jN];rcases Nat.le_total k xs.length with h|h
 .rw[Nat.min_eq_left h]
  rcases Nat.le_total m xs.length with h' |h'
  .rw[Nat.min_eq_left h']
  .rw[Nat.min_eq_right h',List.take_of_length_le (by simp),List.take_of_length_le (by simp;omega)]
 .rw[Nat.min_eq_right h,List.drop_eq_nil_of_le (Nat.le_refl _),List.drop_eq_nil_of_le h];simp
@[simp] theorem Qd{a:Type}(xs:List a):de xs (some 1) none=xs.tail:=by rw[show(1:Int)=((1:Nat):Int)from rfl,rF];simp
theorem n8(n:Nat)(xs:List Str):(xs.map D.str).all (aI n)=true:=by
 rw[List.all_eq_true];intro d a;obtain⟨x,_,rfl⟩:=List.mem_map.mp a;simp
theorem Ar(xs:List Str)(n:Str):((xs.map D.str).any λy=>d_ y (.str n))=decide (n∈xs):=by
 induction xs with
 |nil=>rfl
 |cons x xs a=>
  simp only[List.map_cons,List.any_cons,a,eq_str,List.mem_cons]
  by_cases h:n=x
  .subst h;simp
  .have:(x==n)=false:=by simp;exact λe=>h e.symm
   simp[this,h]
theorem As(xs:List Str)(n:Str):inD (.str n) (.lst (xs.map .str))=.ok (decide (n∈xs)):=by
 have:inD (.str n) (.lst (xs.map .str))=if aI 8 (.str n)&&(xs.map D.str).all (aI 8)then .ok ((xs.map D.str).any λy=>d_ y (.str n))else .bad:=rfl
 rw[this,n8,Ar];simp
theorem n9(xs ys:List Str):et (xs.map .str) (ys.map .str)=decide (xs=ys):=by
 induction xs generalizing ys with
 |nil=>cases ys<;>simp
 |cons x xs a=>
  cases ys with
  |nil=>simp
  |cons y ys=>
   simp only[List.map_cons,pR,eq_str,a,List.cons.injEq]
   by_cases h:x=y
   .subst h;simp
   .simp[h]
theorem BS(xs ys:List Str):d_ (L1 xs) (L1 ys)=decide (xs=ys):=n9 xs ys
theorem pS(n:Nat)(xs:List Str):aI (n+1) (L1 xs)=true:=n8 n xs
theorem GG(n:Nat)(rs:List (List Str)):aI (n+2) (LL rs)=true:=by
 show(rs.map L1).all (aI (n+1))=true
 rw[List.all_eq_true];intro d a;obtain⟨x,_,rfl⟩:=List.mem_map.mp a;exact pS n x
theorem GH(rs a:List (List Str)):d_ (LL rs) (LL a)=decide (rs=a):=by
 show et (rs.map L1) (a.map L1)=_
 induction rs generalizing a with
 |nil=>cases a<;>simp
 |cons x c b=>
  cases a with
  |nil=>simp
  |cons y d=>
   simp only[List.map_cons,pR,BS,b,List.cons.injEq]
   by_cases h:x=y
   .subst h;simp
   .simp[h]
noncomputable def freeOf(rs:List (List Str)):List Str->Option Str
 |[]=>none
 |n::_=>if ∃t∈rs,n∈t.tail then none else some n
theorem dC{rs:List (List Str)}{n:Str}{r:List Str}(h:∃t∈rs,n∈t.tail):freeOf rs (n::r)=none:=if_pos h
theorem dD{rs:List (List Str)}{n:Str}{r:List Str}(h:¬ ∃t∈rs,n∈t.tail):freeOf rs (n::r)=some n:=if_neg h
def free(rs:List (List Str)):Option Str:=rs.findSome? (freeOf rs)
noncomputable def Au:Option Str->D
 |none=>.non
 |some n=>.str n
@[simp] theorem Md{x:Str}:isD (.str x) .non=.ok false:=rfl
@[simp] theorem JW:isD .non .non=.ok true:=rfl
@[simp] theorem Me{x:Int}:isD (.int x) .non=.ok false:=rfl
@[simp] theorem Mf{x:List D}:isD (.lst x) .non=.ok false:=rfl
noncomputable def cE(n:Str)(r:List Str):List Str:=if r.take 1=[n]then r.tail else r
inductive Mg:List (List Str)->List Str->Prop
 |done {rs}:(∀r∈rs,r=[])->Mg rs []
 |step {rs n o}:(∃r∈rs,r≠[])->free rs=some n->Mg (rs.map (cE n)) o->Mg rs (n::o)
theorem any_rows(rs:List (List Str)):fm (rs.map L1)=some (rs.map λr=>!r.isEmpty):=by
 induction rs with
 |nil=>rfl
 |cons r rs a=>
  simp only[List.map_cons,fm,a];simp[L1]
theorem any_true{rs:List (List Str)}(h:∃r∈rs,r≠[]):(rs.map λr=>!r.isEmpty).any id=true:=by
 obtain⟨r,a,b⟩:=h;rw[List.any_eq_true];exact⟨_,List.mem_map.mpr ⟨r,a,rfl⟩,by cases r<;>simp at b ⊢⟩
theorem any_false{rs:List (List Str)}(h:∀r∈rs,r=[]):(rs.map λr=>!r.isEmpty).any id=false:=by
 rw[List.any_eq_false];intro b a;obtain⟨r,c,rfl⟩:=List.mem_map.mp a;rw[h r c];simp
abbrev Fn:=List D->Out Rs
def jA(a:Int->Int->Int->Int)(F:Fn):Prop:=∀c t m,0<=t->t<100000->0<m->0<=a c t m/\a c t m<m/\F [.int c,.int t,.int m]=.ok (false,.int (a c t m))
noncomputable def SC(ns:List Int):D:=.lst (ns.map .int)
def jg(κ:List Int->Nat->Int)(F:Fn):Prop:=∀a (k:Nat),F [SC a,.int k]=.ok (false,.int (κ a k))
theorem ints_map(a:Int)(n:Nat):intsFrom a n=(List.range n).map λ(i:Nat)=>D.int (a+i):=by
 apply List.ext_getElem?;intro i
 by_cases h:i<n
 .have b:i<(intsFrom a n).length:=by rw[dQ];exact h
  have e:=(eZ (List.getElem?_eq_getElem b)).1;rw[List.getElem?_eq_getElem b,e];simp[h]
 .rw[List.getElem?_eq_none (by rw[dQ];omega),List.getElem?_eq_none (by simp;omega)]
theorem jh(n:Nat):intsFrom 0 n=(List.range n).map λ(i:Nat)=>D.int i:=by
 rw[ints_map];congr 1;funext i;simp
noncomputable def abc:Str:="abcdefghijklmnopqrstuvwxyz"
theorem Dx:∀q:Nat,q<26->abc.cps.toList[q]?=some (97+q):=by decide
theorem tG{q:Int}(a:0<=q)(b:q<26):qM (.str abc) (.int q)=.ok (false,.str (bJ (97+q.toNat))):=by
 refine Aq (aN (by decide)) ?_
 have:=L2.dv (Dx q.toNat (by omega))
 rwa[show((q.toNat:Nat):Int)=q by omega]at this
noncomputable def bs(a:Int->Int->Int->Int)(c:Int):List D:=(List.range 8).map λ(i:Nat)=>.int (a c i 26)
section
variable{Γ:lN}{M:Fn}{μ:Int->Int->Int->Int}{c:Int}{m:Nat}
end
theorem tH{rs:List (List Str)}{n:Str}(h:free rs=some n):(∃r∈rs,∃t,r=n::t)/\∀t∈rs,n∉t.tail:=by
 unfold free at h;obtain⟨r,b,e⟩:=List.exists_of_findSome?_eq_some h;cases r with
 |nil=>cases e
 |cons x t=>
  by_cases a:∃t∈rs,x∈t.tail
  .rw[dC a]at e;cases e
  .rw[dD a]at e
   cases e;exact⟨⟨_,b,t,rfl⟩,λt c d=>a ⟨t,c,d⟩⟩
theorem Av{n:Str}{rs:List (List Str)}(c:free rs=some n):∀r∈rs.map (cE n),n∉r:=by
 intro r d a;obtain⟨t,f,rfl⟩:=List.mem_map.mp d;have b:=(tH c).2 t f;unfold cE at a;split at a
 .exact b a
 .rename_i h
  cases t with
  |nil=>simp at a
  |cons x t=>
   rcases List.mem_cons.mp a with e|e
   .subst e;exact h (by simp)
   .exact b e
theorem xQ{n x:Str}{r:List Str}(h:x∈cE n r):x∈r:=by
 unfold cE at h;split at h
 .exact List.mem_of_mem_tail h
 .exact h
theorem lg{rs:List (List Str)}{o:List Str}(M:Mg rs o):∀x∈o,∃r∈rs,x∈r:=by
 induction M with
 |done h=>intro x a;simp at a
 |@step rs n o c d _ f=>
  intro x a;rcases List.mem_cons.mp a with e|e
  .subst e
   obtain⟨⟨r,b,t,rfl⟩,_⟩:=tH d;exact⟨_,b,by simp⟩
  .obtain⟨r,b,a⟩:=f x e
   obtain⟨t,g,rfl⟩:=List.mem_map.mp b;exact⟨t,g,xQ a⟩
theorem pT{rs:List (List Str)}{o:List Str}(M:Mg rs o):o.Nodup:=by
 induction M with
 |done h=>exact List.nodup_nil
 |@step rs n o a b c d=>
  refine List.nodup_cons.mpr ⟨λh=>?_,d⟩
  obtain⟨r,e,f⟩:=lg c n h;exact Av b r e f
section
variable{Γ:lN}
noncomputable def behind(rs:List (List Str)):List Str:=rs.flatMap List.tail
end
@[simp] theorem JX{xs:List Str}:hZ .list (.tup [L1 xs])=.ok (true,L1 xs):=rfl
@[simp] theorem JY{xs:List (List Str)}:hZ .list (.tup [LL xs])=.ok (true,LL xs):=rfl
@[simp] theorem Qe{xs:List Str}{n:Str}:inD (.str n) (L1 xs)=.ok (decide (n∈xs)):=As xs n
@[simp] theorem Qf{xs:List Str}{t:Ty}:wc (L1 xs) t=some (t==.list):=rfl
@[simp] theorem RQ{n:Nat}{xs:List (List Str)}:aI (n+2) (LL xs)=true:=GG n xs
@[simp] theorem RR{xs ys:List (List Str)}:d_ (LL xs) (LL ys)=decide (xs=ys):=GH xs ys
@[simp] theorem Qg{a b:Bool}:isD (.bl a) (.bl b)=.ok (a==b):=rfl
open L2
section
variable{α β:Type}{Ω ao:aD}{ρ:aS}{d x y:D}{ma mb mc mi:EM}{as:AM}{a b:SM}
@[simp] theorem ak{a:α}{f:α->aD->ay β}:(ay.ok a Ω).bind f=f a Ω:=rfl
@[simp] theorem Mh{f:α->aD->ay β}:(ay.exc x Ω:ay α).bind f=.exc x Ω:=rfl
@[simp] theorem Mi{f:α->aD->ay β}:(ay.bad:ay α).bind f=.bad:=rfl
@[simp] theorem b9{a:α}{k:α->aD->eS}:cm (.ok a Ω) k=k a Ω:=rfl
@[simp] theorem Mj{k:α->aD->eS}:cm (.exc x Ω:ay α) k=.exc x Ω:=rfl
@[simp] theorem Ml{k:α->aD->eS}:cm (.bad:ay α) k=.bad:=rfl
@[simp] theorem Qh{b:ay D}:gc (.ok d Ω) b=.ok d Ω:=rfl
@[simp] theorem Mm{b:ay D}:gc (.exc d Ω) b=.exc d Ω:=rfl
@[simp] theorem ll{b:ay D}:gc .bad b=b:=rfl
@[simp] theorem Qi{f:D->aD->ay D}:m1 f ma ρ Ω=(ma ρ Ω).bind f:=rfl
@[simp] theorem cX{f:D->D->aD->ay D}:m2 f ma mb ρ Ω=(ma ρ Ω).bind λx aM=>(mb ρ aM).bind λy a=>f x y a:=rfl
@[simp] theorem cY{f:List D->aD->ay D}:mN f as ρ Ω=(as ρ Ω).bind f:=rfl
@[simp] theorem aX:ae ρ Ω=.ok [] Ω:=rfl
@[simp] theorem a_:ab ma as ρ Ω=(ma ρ Ω).bind λx aM=>(as ρ aM).bind λxs a=>.ok (x::xs) a:=rfl
noncomputable def vr:Option (Option D)->aD->ay D
 |some (some d),Ω=>.ok d Ω
 |_,_=>.bad
@[simp] theorem gQ:vr (some (some d)) Ω=.ok d Ω:=rfl
@[simp] theorem gR{i:Nat}:aa i ρ Ω=vr ρ[i]? Ω:=by
 unfold aa;cases ρ[i]? with
 |none=>rfl
 |some o=>cases o<;>rfl
@[simp] theorem jU:af d ρ Ω=.ok d Ω:=rfl
@[simp] theorem n_{c:Cell}:hF Ω c=.ok (.ref Ω.length) (Ω++[c]):=rfl
noncomputable def tb(Ω:aD):Option Bool->ay Bool
 |some b=>.ok b Ω
 |none=>.bad
@[simp] theorem dy{t:Bool}:tb Ω (some t)=.ok t Ω:=rfl
@[simp] theorem dj:cB (.ok d Ω)=tb Ω (gf Ω d):=by simp only[cB];cases gf Ω d<;>rfl
@[simp] theorem bD{t:Bool}:gf Ω (.bl t)=some t:=rfl
@[simp] theorem GI:gf Ω .non=some false:=rfl
@[simp] theorem GJ{i:Int}:gf Ω (.int i)=some (i != 0):=rfl
noncomputable def EX(t:Option Bool)(a b:ay D):ay D:=match t with
 |some true=>a
 |some false=>b
 |none=>.bad
@[simp] theorem tI{a b:ay D}:Mir.EX (some true) a b=a:=rfl
@[simp] theorem iN{a b:ay D}:Mir.EX (some false) a b=b:=rfl
@[simp] theorem iO:eL ma mb ρ Ω=(ma ρ Ω).bind λx aM=>Mir.EX (gf aM x) (mb ρ aM) (.ok x aM):=by
 unfold eL;cases ma ρ Ω with
 |ok x aM=>
  simp only[ak];cases gf aM x with
  |none=>rfl
  |some t=>cases t<;>rfl
 |exc x aM=>rfl
 |bad=>rfl
@[simp] theorem fT:jR ma mb ρ Ω=(ma ρ Ω).bind λx aM=>Mir.EX (gf aM x) (.ok x aM) (mb ρ aM):=by
 unfold jR;cases ma ρ Ω with
 |ok x aM=>
  simp only[ak];cases gf aM x with
  |none=>rfl
  |some t=>cases t<;>rfl
 |exc x aM=>rfl
 |bad=>rfl
@[simp] theorem fU:dr ma ρ Ω=(cB (ma ρ Ω)).bind λt aM=>.ok (.bl (!t)) aM:=rfl
@[simp] theorem oa:vo mc ma mb ρ Ω=(cB (mc ρ Ω)).bind λt aM=>if t=true then ma ρ aM else mb ρ aM:=rfl
@[simp] theorem Aw{f g:D->aD->ay D}:zo f g x Ω=gc (f x Ω) (g x Ω):=rfl
@[simp] theorem fV{f g:D->D->aD->ay D}:ef f g x y Ω=gc (f x y Ω) (g x y Ω):=rfl
@[simp] theorem JZ{f g:List D->aD->ay D}{xs:List D}:lP f g xs Ω=gc (f xs Ω) (g xs Ω):=rfl
@[simp] theorem J7{f g:EM}:kI f g ρ Ω=gc (f ρ Ω) (g ρ Ω):=rfl
@[simp] theorem J8{n:Nat}:eH Ω n .non=some .non:=by cases n<;>rfl
@[simp] theorem Dy{n:Nat}{t:Bool}:eH Ω n (.bl t)=some (.bl t):=by cases n<;>rfl
@[simp] theorem Ax{n:Nat}{i:Int}:eH Ω n (.int i)=some (.int i):=by cases n<;>rfl
@[simp] theorem iP{n:Nat}{z:Str}:eH Ω n (.str z)=some (.str z):=by cases n<;>rfl
@[simp] theorem Mn{f:α->Option β}:bz f []=some []:=rfl
noncomputable def oc:Option α->Option (List α)->Option (List α)
 |some y,some ys=>some (y::ys)
 |_,_=>none
@[simp] theorem J9{y:α}{ys:List α}:oc (some y) (some ys)=some (y::ys):=rfl
@[simp] theorem og{f:α->Option β}{x:α}{xs:List α}:bz f (x::xs)=oc (f x) (bz f xs):=by
 simp only[bz];cases f x<;>cases bz f xs<;>rfl
theorem ji{a:Type}{f:β->Option a}{g:α->β}{h:α->a}(e:∀x,f (g x)=some (h x)):∀xs:List α,bz f (xs.map g)=some (xs.map h)
 |[]=>rfl
 |x::xs=>by rw[List.map_cons,og,e,ji e xs];rfl
@[simp] theorem Ay{n:Nat}{xs:List Str}:bz (eH Ω n) (xs.map .str)=some (xs.map .str):=ji (λ_=>iP) xs
@[simp] theorem Az{n:Nat}{xs:List Int}:bz (eH Ω n) (xs.map .int)=some (xs.map .int):=ji (λ_=>Ax) xs
theorem AA{n:Nat}{ds es:List D}(h:bz (eH Ω n) ds=some es):eH Ω (n+1) (.lst ds)=some (.lst es):=by simp only[eH,h,Option.map_some]
theorem jV{n k:Nat}{ds es:List D}(a:Ω[k]?=some (.lst ds))(h:bz (eH Ω n) ds=some es):eH Ω (n+1) (.ref k)=some (.lst es):=by simp only[eH,a,h,Option.map_some]
theorem du{n k:Nat}{xs:List Str}(a:Ω[k]?=some (.lst (xs.map .str))):eH Ω (n+1) (.ref k)=some (L1 xs):=jV a Ay
@[simp] theorem Mo{n:Nat}{ns:List Int}:eH Ω (n+1) (SC ns)=some (SC ns):=AA Az
@[simp] theorem J_{o:Bool}{i:Int}:fJ Ω (.ok (o,.int i))=.ok (.int i) Ω:=rfl
@[simp] theorem Dz{o:Bool}{t:Bool}:fJ Ω (.ok (o,.bl t))=.ok (.bl t) Ω:=rfl
@[simp] theorem AB{o:Bool}{z:Str}:fJ Ω (.ok (o,.str z))=.ok (.str z) Ω:=rfl
@[simp] theorem Ka{o:Bool}:fJ Ω (.ok (o,.non))=.ok .non Ω:=rfl
@[simp] theorem Kb:fJ Ω .bad=.bad:=rfl
def vN(Ω:aD)(f:List D->Out Rs):Option (List D)->ay D
 |some ds=>fJ Ω (f ds)
 |none=>.bad
@[simp] theorem tJ{f:List D->Out Rs}{ds:List D}:vN Ω f (some ds)=fJ Ω (f ds):=rfl
@[simp] theorem tK{f:List D->Out Rs}{xs:List D}:bP f xs Ω=vN Ω f (bz (eH Ω 8) xs):=by unfold bP;cases bz (eH Ω 8) xs<;>rfl
def v1(Ω:aD)(f:D->Out Rs):Option D->ay D
 |some d=>fJ Ω (f d)
 |none=>.bad
@[simp] theorem Kc{f:D->Out Rs}:v1 Ω f (some d)=fJ Ω (f d):=rfl
@[simp] theorem Kd{f:D->Out Rs}:iA f x Ω=v1 Ω f (eH Ω 8 x):=by unfold iA;cases eH Ω 8 x<;>rfl
def v2(Ω:aD)(f:D->D->Out Rs):Option D->Option D->ay D
 |some d,some e=>fJ Ω (f d e)
 |_,_=>.bad
@[simp] theorem jW{f:D->D->Out Rs}{e:D}:v2 Ω f (some d) (some e)=fJ Ω (f d e):=rfl
@[simp] theorem jX{f:D->D->Out Rs}:fK f x y Ω=v2 Ω f (eH Ω 8 x) (eH Ω 8 y):=by unfold fK;cases eH Ω 8 x<;>cases eH Ω 8 y<;>rfl
@[simp] theorem GK{z:Str}:xb .len [.str z]=if small z.length=true then .ok (false,.int z.length)else .bad:=rfl
@[simp] theorem xR{xs:List D}:xb .all [.lst xs]=xO (λbs=>bs.all id) (fm xs):=rfl
@[simp] theorem GL{xs:List D}:xb .any [.lst xs]=xO (λbs=>bs.any id) (fm xs):=rfl
@[simp] theorem dR{F:ba}{xs:List D}:aG F xs Ω=iV (F xs Ω):=rfl
@[simp] theorem ie:iV (.ok d Ω)=.ok d Ω:=rfl
@[simp] theorem gS{op:CmpOp}:cC op x y Ω=v2 Ω (λx y=>do let r ←dU op x y;Out.ok (false,D.bl r)) (eH Ω 8 x) (eH Ω 8 y):=by unfold cC;rw[jX]
@[simp] theorem oh:aw .Eq x y Ω=gc (cC .Eq x y Ω) (fv false x y Ω):=rfl
@[simp] theorem tL:aw .NotEq x y Ω=gc (cC .NotEq x y Ω) (fv true x y Ω):=rfl
@[simp] theorem Ke:aw .Lt x y Ω=cC .Lt x y Ω:=rfl
@[simp] theorem Kf:aw .LtE x y Ω=cC .LtE x y Ω:=rfl
@[simp] theorem Kg:aw .Gt x y Ω=cC .Gt x y Ω:=rfl
@[simp] theorem Kh:aw .GtE x y Ω=cC .GtE x y Ω:=rfl
@[simp] theorem oi:aw .In x y Ω=gc (cC .In x y Ω) (gg false x y Ω):=rfl
@[simp] theorem lp:aw .NotIn x y Ω=gc (cC .NotIn x y Ω) (gg true x y Ω):=rfl
@[simp] theorem Ki:aw .Is x y Ω=gc (fb false x y Ω) (cC .Is x y Ω):=rfl
@[simp] theorem DA:aw .IsNot x y Ω=gc (fb true x y Ω) (cC .IsNot x y Ω):=rfl
@[simp] theorem GN{n:Bool}{k:Nat}:fb n (.ref k) .non Ω=.ok (.bl n) Ω:=rfl
@[simp] theorem Fb{n:Bool}{i:Int}:fb n (.int i) y Ω=.bad:=rfl
@[simp] theorem Fc{n:Bool}:fb n .non y Ω=.bad:=rfl
@[simp] theorem GO{n:Bool}{t:Bool}:fb n (.bl t) y Ω=.bad:=rfl
@[simp] theorem Fd{n:Bool}{z:Str}:fb n (.str z) y Ω=.bad:=rfl
@[simp] theorem xS:aP .Add x y Ω=gc (q_ x y Ω) (gc (nI x y Ω) (fK (fk .Add) x y Ω)):=rfl
@[simp] theorem GP{i:Int}:nI (.int i) y Ω=.bad:=rfl
@[simp] theorem GQ{z:Str}:nI (.str z) y Ω=.bad:=rfl
@[simp] theorem GR{k:Nat}:nI (.ref k) y Ω=.bad:=rfl
@[simp] theorem GS{xs ys:List D}:nI (.tup xs) (.tup ys) Ω=if small (xs.length+ys.length)then .ok (.tup (xs++ys)) Ω else .bad:=rfl
@[simp] theorem GU:aP .Sub x y Ω=fK (fk .Sub) x y Ω:=rfl
@[simp] theorem Fe:aP .Mult x y Ω=fK (fk .Mult) x y Ω:=rfl
@[simp] theorem GV:aP .Mod x y Ω=fK (fk .Mod) x y Ω:=rfl
@[simp] theorem Kj:aP .FloorDiv x y Ω=fK (fk .FloorDiv) x y Ω:=rfl
@[simp] theorem Kk{i:Int}:dJ Ω (.int i)=none:=rfl
@[simp] theorem Kl{z:Str}:dJ Ω (.str z)=none:=rfl
@[simp] theorem Km{ds:List D}:dJ Ω (.tup ds)=none:=rfl
@[simp] theorem Kn{ds:List D}:dJ Ω (.lst ds)=some ds:=rfl
theorem aA{k:Nat}{ds:List D}(h:Ω[k]?=some (.lst ds)):dJ Ω (.ref k)=some ds:=by simp only[dJ,h]
theorem gT{k:Nat}{ds:List D}(h:Ω[k]?=some (.lst ds)):lR Ω (.ref k)=some (k,ds):=by simp only[lR,h]
theorem oj{k:Nat}{C:Str}{a:List (Str×D)}(h:Ω[k]?=some (.ins C a)):pH Ω (.ref k)=some (k,C,a):=by simp only[pH,h]
def ct(Ω:aD):Option (List D)->Option (List D)->ay D
 |some xs,some ys=>if small (xs.length+ys.length)then .ok (.ref Ω.length) (Ω++[.lst (xs++ys)])else .bad
 |_,_=>.bad
@[simp] theorem AD{xs ys:List D}:ct Ω (some xs) (some ys)=if small (xs.length+ys.length)then .ok (.ref Ω.length) (Ω++[.lst (xs++ys)])else .bad:=rfl
@[simp] theorem Qj{o:Option (List D)}:ct Ω none o=.bad:=rfl
@[simp] theorem AE:q_ x y Ω=ct Ω (dJ Ω x) (dJ Ω y):=by unfold q_;cases dJ Ω x<;>cases dJ Ω y<;>rfl
@[simp] theorem Ko{ds:List D}:eK Ω (.tup ds)=some ds:=rfl
@[simp] theorem aC{k:Nat}:eK Ω (.ref k)=dJ Ω (.ref k):=rfl
@[simp] theorem Kp{ds:List D}:eK Ω (.lst ds)=some ds:=rfl
def ixs(Ω:aD):Option (List D)->D->ay D
 |some ds,.int i=>match L2.jD ds i with
  |some d=>.ok d Ω
  |none=>.bad
 |_,_=>.bad
theorem jY:zw x y Ω=ixs Ω (eK Ω x) y:=by unfold zw;cases eK Ω x<;>cases y<;>rfl
theorem xT{ds:List D}{i:Int}(h:L2.jD ds i=some d):ixs Ω (some ds) (.int i)=.ok d Ω:=by simp only[ixs,h]
theorem cQ{k:Nat}{ds:List D}{i:Int}(h:Ω[k]?=some (.lst ds))(a:L2.jD ds i=some d):az (.ref k) (.int i) Ω=.ok d Ω:=by
 unfold az;rw[fV,jY,aC,aA h,xT a];rfl
@[simp] theorem dz{xs:List D}:bj xs Ω=if small xs.length then .ok (.ref Ω.length) (Ω++[.lst xs])else .bad:=rfl
@[simp] theorem jZ{xs:List D}:iE xs Ω=if small xs.length then .ok (.tup xs) Ω else .bad:=rfl
def fl(Ω:aD)(Cs:List Str)(f:Str):Option (Nat×Str×List (Str×D))->ay D
 |some (_,C,fs)=>if Cs.contains C then (match fs.lookup f with
  |some d=>.ok d Ω
  |none=>.bad)else .bad
 |none=>.bad
theorem tN{Cs:List Str}{f C:Str}{k:Nat}{a:List (Str×D)}(h:Ω[k]?=some (.ins C a))(b:Cs.contains C=true)(c:a.lookup f=some d):dm Cs f (.ref k) Ω=.ok d Ω:=by
 unfold dm;rw[oj h];simp only[b,if_true,c]
noncomputable def sq(r:eS)(b:SM):eS:=match r with
 |.nx a c=>b a c
 |r=>r
@[simp] theorem aB:sq (.nx ρ Ω) b=b ρ Ω:=rfl
@[simp] theorem Qk:sq (.rt d Ω) b=.rt d Ω:=rfl
@[simp] theorem Ql:sq (.bk ρ Ω) b=.bk ρ Ω:=rfl
@[simp] theorem Qm:sq (.ct ρ Ω) b=.ct ρ Ω:=rfl
@[simp] theorem Mp:sq (.exc d Ω) b=.exc d Ω:=rfl
@[simp] theorem Mq:sq .bad b=.bad:=rfl
@[simp] theorem ah:ag a b ρ Ω=sq (a ρ Ω) b:=by unfold ag;cases a ρ Ω<;>rfl
@[simp] theorem GW:ai ρ Ω=.nx ρ Ω:=rfl
@[simp] theorem bu{i:Nat}:ax i ma ρ Ω=cm (ma ρ Ω) λd aM=>.nx (ρ.set i (some d)) aM:=rfl
@[simp] theorem bT:bC ma ρ Ω=cm (ma ρ Ω) λ_ aM=>.nx ρ aM:=rfl
@[simp] theorem cZ:aZ ma ρ Ω=cm (ma ρ Ω) λd aM=>.rt d aM:=rfl
@[simp] theorem cx:dc ma a b ρ Ω=cm (cB (ma ρ Ω)) λt aM=>if t=true then a ρ aM else b ρ aM:=rfl
@[simp] theorem Kq{b:List Nat}:rp b ma ρ Ω=cm (ma ρ Ω) λd aM=>match fx b d ρ with|some a=>.nx a aM|none=>.bad:=rfl
@[simp] theorem Ff{a:List Nat}{ds:List D}:fx a (.tup ds) ρ=if ds.length=a.length then some (fQ a ds ρ)else none:=rfl
@[simp] theorem AF{i:Nat}{a:List Nat}{ds:List D}:fQ (i::a) (d::ds) ρ=fQ a ds (ρ.set i (some d)):=rfl
@[simp] theorem BV{ds:List D}:fQ [] ds ρ=ρ:=by cases ds<;>rfl
@[simp] theorem Kr:fR (.rt d Ω)=.ok d Ω:=rfl
@[simp] theorem Ks:fR (.nx ρ Ω)=.ok .non Ω:=rfl
theorem bt{n k:Nat}{c:SM}{ds:List D}(h:ds.length=k):bL n k c ds Ω=fR (c (aV n ds) Ω):=by unfold bL;rw[if_pos h]
@[simp] theorem bf:aL ma ρ Ω=(ma ρ Ω).bind λx aM=>srcOf aM x:=rfl
theorem aR{ds:List D}(h:eK Ω x=some ds):srcOf Ω x=.ok (.seq x) Ω:=by unfold srcOf;rw[h]
@[simp] theorem pU:cO as ρ Ω=(as ρ Ω).bind tf:=rfl
@[simp] theorem tP{j:Int}:tf [.int j] Ω=if lM j then .ok (.ints 0 j.toNat) Ω else .bad:=rfl
@[simp] theorem bU:eN (.seq x) Ω=eK Ω x:=rfl
@[simp] theorem GX{a:Int}{n:Nat}:eN (.ints a n) Ω=some (intsFrom a n):=rfl
@[simp] theorem cv{a:D->aS->Option aS}{mi:IM}:bX a mi b ρ Ω=cm (mi ρ Ω) λs aM=>eP a s b fuel 0 ρ aM:=rfl
def xU(r:eS)(I:aS->aD->Prop)(R:eS->Prop):Prop:=match r with
 |.nx a b=>I a b
 |.ct a b=>I a b
 |.bk a b=>R (.nx a b)
 |r=>R r
theorem bF{k:D->aS->Option aS}{src:Src}{b:SM}{ds:List D}(I:Nat->aS->aD->Prop){R:eS->Prop}(l:∀i ρ Ω,I i ρ Ω->eN src Ω=some ds)
  (h:∀(i:Nat) (d:D) ρ Ω,ds[i]?=some d->I i ρ Ω->∃e,k d ρ=some e/\xU (b e Ω) (I (i+1)) R) (p:∀ρ Ω,I ds.length ρ Ω->R (.nx ρ Ω)) :
  ∀(f i:Nat) ρ Ω,ds.length - i<f->i<=ds.length->I i ρ Ω->R (eP k src b f i ρ Ω):=by
 intro f
 induction f with
 |zero=>intro i ρ Ω r;omega
 |succ f o=>
  intro i ρ Ω r t n;simp only[eP,l i ρ Ω n]
  by_cases j:i<ds.length
  .have m:ds[i]?=some ds[i]:=List.getElem?_eq_getElem j
   rw[m];dsimp only;obtain⟨e,s,c⟩:=h i ds[i] ρ Ω m n;rw[s];dsimp only;cases q:b e Ω with
   |nx g a=>rw[q]at c;exact o (i+1) g a (by omega) j c
   |ct g a=>rw[q]at c;exact o (i+1) g a (by omega) j c
   |bk g a=>rw[q]at c;exact c
   |rt d a=>rw[q]at c;exact c
   |exc x a=>rw[q]at c;exact c
   |bad=>rw[q]at c;exact c
  .have m:ds[i]?=none:=List.getElem?_eq_none (by omega)
   rw[m];have:i=ds.length:=by omega
   subst this;exact p ρ Ω n
theorem AG{nc:Bool}{mc me:EM}{τ:aS}{src:Src}{ds:List D}{p:D->Bool}{g:D->D}(j:eN src Ω=some ds)(k:∀d∈ds,hG nc mc ([some d]++τ) Ω=.ok (p d) Ω)(l:∀d∈ds,p d=true->me ([some d]++τ) Ω=.ok (g d) Ω) :
  ∀(f i:Nat) (a:List D),ds.length - i<f->i<=ds.length->a.length+ds.length<=100000+i->ti nc mc me 0 τ src f i a Ω=.ok (a++((ds.drop i).filter p).map g) Ω:=by
 intro f
 induction f with
 |zero=>intro i a m;omega
 |succ f e=>
  intro i a m r s;simp only[ti,j]
  by_cases b:i<ds.length
  .have c:ds[i]?=some ds[i]:=List.getElem?_eq_getElem b
   have h:ds[i]∈ds:=List.getElem_mem b;rw[c];have o:nV 0 ds[i]=some [some ds[i]]:=rfl;simp only[o];rw[if_pos (aN (n:=a.length+1) (by omega)),k _ h,List.drop_eq_getElem_cons b,List.filter_cons]
   cases q:p ds[i]with
   |true=>
    dsimp only;rw[l _ h q];dsimp only;rw[e (i+1) _ (by omega) b (by rw[List.length_append];simp;omega)]
    simp
   |false=>
    dsimp only;rw[e (i+1) _ (by omega) b (by omega)]
    simp
  .have c:ds[i]?=none:=List.getElem?_eq_none (by omega)
   rw[c,List.drop_of_length_le (by omega)]
   simp
theorem cR{me mc:EM}{nc:Bool}{mi:IM}{cap:List Nat}{src:Src}{ds:List D}{p:D->Bool}{g:D->D}(a:mi ρ Ω=.ok src ao)(b:eN src ao=some ds)(c:∀d∈ds,hG nc mc ([some d]++dW cap ρ) ao=.ok (p d) ao)(e:∀d∈ds,p d=true->me ([some d]++dW cap ρ) ao=.ok (g d) ao)(f:ds.length<=90000) :
  bo me nc mc mi 0 cap ρ Ω=.ok (.ref ao.length) (ao++[.lst ((ds.filter p).map g)]):=by
 unfold bo;rw[a];dsimp only;rw[AG b c e fuel 0 [] (by unfold fuel;omega) (Nat.zero_le _) (by simp;omega)]
 rfl
theorem dA{k:Nat}{c:Cell}{l:aD}(h:Ω[k]?=some c):(Ω++l)[k]?=some c:=by rw[List.getElem?_append_left (List.getElem?_eq_some_iff.mp h).1];exact h
theorem av{c:Cell}{l:aD}:(Ω++c::l)[Ω.length]?=some c:=by rw[List.getElem?_append_right (Nat.le_refl _)];simp
theorem cj{j k:Nat}{c e:Cell}(h:Ω[k]?=some c)(a:k≠j):(Ω.set j e)[k]?=some c:=by rw[List.getElem?_set_ne (Ne.symm a)];exact h
theorem aQ{k:Nat}{c e:Cell}(h:Ω[k]?=some c):(Ω.set k e)[k]?=some e:=List.getElem?_set_self (List.getElem?_eq_some_iff.mp h).1
theorem bH{k:Nat}{c:Cell}(h:Ω[k]?=some c):k<Ω.length:=(List.getElem?_eq_some_iff.mp h).1
structure aj(fp:List Nat)(Ω ao:aD):Prop where
 len:Ω.length<=ao.length
 get:∀k c,Ω[k]?=some c->k∉fp->ao[k]?=some c
theorem aj.refl{fp:List Nat}:aj fp Ω Ω:=⟨Nat.le_refl _,λ_ _ h _=>h⟩
theorem aj.trans{fp:List Nat}{aM a b:aD}(h:aj fp aM a)(h':aj fp a b):aj fp aM b:=⟨Nat.le_trans h.len h'.len,λk c q n=>h'.get k c (h.get k c q n) n⟩
theorem aj.app{fp:List Nat}{l:aD}:aj fp Ω (Ω++l):=⟨by simp,λk c h _=>dA h⟩
theorem aj.set{fp:List Nat}{j:Nat}{c:Cell}(h:j∈fp):aj fp Ω (Ω.set j c):=⟨by simp,λk e q n=>cj q λz=>n (z▸h)⟩
theorem aj.sub{fp a:List Nat}(h:aj fp Ω ao)(b:∀k∈fp,k∈a):aj a Ω ao:=⟨h.len,λk c q n=>h.get k c q λz=>n (b k z)⟩
end
section
variable{Ω ao:aD}{ρ:aS}{d x y:D}{k:Nat}{ws:List Str}{w:Str}{L:List (List Str)}{rs:List Nat}
theorem fW{ds:List D}(h:Ω[k]?=some (.lst ds)):aO .len [.ref k] Ω=.ok (.int ds.length) Ω:=by
 show gc (nT [.ref k] Ω) _=_
 simp only[nT,aC,aA h];rfl
theorem dZ{ds:List D}{d:D}(h:Ω[k]?=some (.lst ds))(a:ds.length<=1000):bh (.ref k) [d] Ω=.ok .non (Ω.set k (.lst (ds++[d]))):=by
 simp only[bh,gT h];rw[if_pos (aN (by omega))]
theorem c8{ds:List D}(h:Ω[k]?=some (.lst ds)):eo Ω (.ref k)=true:=by simp only[eo,aA h];rfl
theorem lr(h:Ω[k]?=some (.lst (ws.map .str))):aw .In (.str w) (.ref k) Ω=.ok (.bl (decide (w∈ws))) Ω:=by
 simp[du (n:=7) h]
theorem j9(h:Ω[k]?=some (.lst (ws.map .str))):aw .NotIn (.str w) (.ref k) Ω=.ok (.bl (!decide (w∈ws))) Ω:=by
 simp[du (n:=7) h]
theorem GY{c d:Type}[BEq c][LawfulBEq c]{f:c->d}{p:d->Bool}{a:c}(g:∀b,p (f b)=(b==a)):∀(xs:List c),a∈xs->(xs.map f).findIdx? p=some (xs.idxOf a)
 |[],h=>by simp at h
 |b::xs,h=>by
  rw[List.map_cons,List.findIdx?_cons,g,List.idxOf_cons];cases e:b==a with
  |true=>rfl
  |false=>
   have i:a∈xs:=by
    rcases List.mem_cons.mp h with z|z
    .rw[z,beq_self_eq_true]at e;cases e
    .exact z
   simp[GY g xs i]
theorem rH(h:w∈ws):qN .index (.lst (ws.map .str)) (.tup [.str w])=.ok (false,.int (ws.idxOf w:Nat)):=by
 have e:(ws.map D.str).findIdx? (λy=>d_ y (.str w))=some (ws.idxOf w):=GY (λb=>rfl) ws h
 unfold qN;simp only[n8 8 ws,e];rfl
theorem vf(h:Ω[k]?=some (.lst (ws.map .str)))(a:w∈ws):ei (.ref k) [.str w] Ω=.ok (.int (ws.idxOf w:Nat)) Ω:=by
 have:=rH a;simp only[ei,jX,du (n:=7) h,iP,jW,L1,this];rfl
theorem lu{n:Nat}(b:Ω[k]?=some (.lst (rs.map .ref)))(h:aK (λj a=>Ω[j]?=some (.lst (a.map .str))) rs L):eH Ω (n+2) (.ref k)=some (LL L):=by
 refine jV (es:=L.map L1) b ?_;clear b
 induction h with
 |nil=>rfl
 |cons c e d=>rw[List.map_cons,og,du c,d];rfl
theorem AH{C m:Str}{F:ba}{mo:EM}{c:AM}{a:List (Str×D)}(d:mo ρ Ω=.ok (.ref k) ao)(e:ao[k]?=some (.ins C a))(f:a.lookup m=none):aF C m F mo c ρ Ω=(c ρ ao).bind λxs b=>iV (F (.ref k::xs) b):=by
 unfold aF;rw[d]
 show(match pH ao (.ref k)with|some (_,g,a)=>_|none=>_)=_
 rw[oj e];simp only[f,and_self,if_true];rfl
theorem dE{a:aD->D->Bool}{f:D->List D->aD->ay D}{mo:EM}{c:AM}(d:mo ρ Ω=.ok x ao)(h:a ao x=true):bQ a f mo c ρ Ω=(c ρ ao).bind λxs b=>f x xs b:=by
 unfold bQ;rw[d]
 show(if a ao x=true then _ else _)=_
 rw[if_pos h]
end
variable [aJ]
section
variable{Ω ao aM JD:aD}{ρ:aS}{k q:Nat}{x y:D}
theorem aj.new{fp:List Nat}(h:aj [] Ω aM)(h':aj fp aM JD)(a:∀j∈fp,Ω.length<=j):aj [] Ω JD:=⟨Nat.le_trans h.len h'.len,λk c e _=>h'.get k c (h.get k c e (by simp)) λz=>by have:=a k z;have:=bH e;omega⟩
theorem fB.up{fp:List Nat}(h:aj [] Ω ao):aj fp Ω ao:=h.sub (by simp)
@[simp] theorem GZ{z:Str}:az (.str z) y Ω=v2 Ω qM (some (.str z)) (eH Ω 8 y):=by
 unfold az;rw[fV,fV,jY,jX];simp[eK,dJ,ixs,zx,rb]
@[simp] theorem G7{z:Str}{l h:Option Int}:jH (.str z) l h Ω=fJ Ω (wb (.str z) l h):=rfl
@[simp] theorem iQ{c d e:EM}{f g:Bool}:cz c f d g e ρ Ω=(c ρ Ω).bind λx aM=>(gC f d ρ aM).bind λl a=>(gC g e ρ a).bind λh b=>jH x l h b:=rfl
@[simp] theorem AI{m:EM}:gC true m ρ Ω=.ok none Ω:=rfl
noncomputable def Qn(Ω:aD):D->ay (Option Int)
 |.int i=>.ok (some i) Ω
 |_=>.bad
@[simp] theorem AJ{m:EM}:gC false m ρ Ω=(m ρ Ω).bind λd aM=>Qn aM d:=by
 simp only[gC,Bool.false_eq_true,if_false]
 congr 1
@[simp] theorem AK{i:Int}:Qn Ω (.int i)=.ok (some i) Ω:=rfl
theorem gH{ds:List D}(h:Ω[k]?=some (.lst ds)):cI (.ref k) [] Ω=.ok .non (Ω.set k (.lst ds.reverse)):=by
 simp only[cI,gT h]
end
def nC:EM:=bo (m2 az (aa 2) (m2 (aP .Mod) (m2 (aP .Add) (aa 1) (m2 (aP .Mult) (aa 0) (aa 3))) (af (.int 26)))) true (af .non) (cO (ab (af (.int 8)) ae)) 0 [4,3,5]
def nD:EM:=bo (cz (aa 1) true (af .non) false (m2 (aP .Add) (aa 0) (af (.int 1)))) true (af .non) (cO (ab (aa 2) ae)) 0 [6]
section
variable{Ω:aD}{F:List D->Out Rs}{δ:List Int->Int->Int->Int}{ns:List Int}
def Qo(x:Str):Prop:=x.length<=17/\∃c∈x.cps.toList,97<=c
theorem Qo.ne{x:Str}(h:Qo x):x≠"-":=λe=>by
 obtain⟨_,c,a,b⟩:=h;subst e;have:c∈[45]:=a;simp at this;omega
end
section
variable{κ β:Type}[DecidableEq κ]
theorem dk{p:κ×β}{kvs:List (κ×β)}{k:κ}:bK (p::kvs) k=if p.1=k then some p.2 else bK kvs k:=by
 unfold bK;rw[List.find?_cons]
 by_cases h:p.1=k<;>simp[h]
theorem pV{k a:κ}{v:c}:∀{kvs:List (κ×c)},bK (kvs.map λb=>if b.1=k then (b.1,v)else b) a=if a=k then (bK kvs k).map λ_=>v else bK kvs a
 |[]=>by simp[bK]
 |p::kvs=>by
  rw[List.map_cons,dk,dk,dk,pV]
  by_cases h:p.1=k
  .rw[if_pos h]
   by_cases h':a=k
   .subst h';simp[h]
   .have:¬ k=a:=λe=>h' e.symm
    simp[h,h',this]
  .rw[if_neg h]
   by_cases h':a=k
   .subst h';simp[h]
   .simp[h']
theorem pW{k a:κ}{v:b}:∀{kvs:List (κ×b)},bK (kvs++[(k,v)]) a=match bK kvs a with|some d=>some d|none=>if a=k then some v else none
 |[]=>by
  rw[List.nil_append,dk]
  by_cases h:k=a
  .subst h;simp[bK]
  .have:¬ a=k:=λe=>h e.symm
   simp[bK,h,this]
 |p::kvs=>by
  rw[List.cons_append,dk,dk,pW]
  by_cases h:p.1=a<;>simp[h]
theorem ly{k:κ}:∀{kvs:List (κ×b)},(kvs.any λa=>decide (a.1=k))=(bK kvs k).isSome
 |[]=>rfl
 |p::kvs=>by
  rw[List.any_cons,dk,ly]
  by_cases h:p.1=k<;>simp[h]
theorem vg{kvs:List (κ×β)}{k a:κ}{v:β}:bK (dN kvs k v) a=if a=k then some v else bK kvs a:=by
 unfold dN;rw[ly];cases h:bK kvs k with
 |none=>
  rw[Option.isSome_none,if_neg (by simp),pW]
  by_cases b:a=k
  .subst b;simp[h]
  .cases q:bK kvs a<;>simp[b]
 |some d=>
  rw[Option.isSome_some,if_pos rfl,pV,h]
  by_cases b:a=k<;>simp[b]
theorem xV{kvs:List (κ×β)}{k:κ}{v:β}:(dN kvs k v).length<=kvs.length+1:=by
 unfold dN;split<;>simp
end
section
variable{Ω ao:aD}{F:List D->Out Rs}{δ:List Int->Int->Int->Int}{ns:List Int}{t:Nat}{kvs:List (List Key×D)}
theorem dG{xs:List Str}{i:Nat}{d:D}(h:(xs.map D.str)[i]?=some d):∃x,xs[i]?=some x/\d=.str x:=by
 rw[List.getElem?_map]at h;obtain⟨x,a,b⟩:=Option.map_eq_some_iff.mp h;exact⟨x,a,b.symm⟩
end
theorem mQ{O:ba}{ds:List D}{d:D}{ao:aD}(a:ds.all Dt=true)(h:O ds []=.ok d ao)(b:eV d=true):pureOf O ds=.ok (false,d):=by
 unfold pureOf;rw[if_pos a,h];dsimp only;rw[if_pos b]
def G8:SM:=(ag (ax 3 (m2 (aP .FloorDiv) (aa 3) (af (.int 840)))) ai)
def G9:SM:=(dc (eL (m2 (aw .Eq) (m2 (aP .Mod) (aa 0) (af (.int 2))) (af (.int 1))) (m2 (aw .Gt) (aa 0) (m2 (aP .Pow) (af (.int 10)) (af (.int 18)))))
 (ag (bX (bp 4) (cO (ab (aa 1) ae)) G8)
 (ag (aZ (m2 (aP .Mod) (m2 (aP .Mod) (aa 3) (af (.int 840))) (aa 2)))
 ai))
 ai)
def Qp:SM:=(ag (ax 5 (mN bj (ab (af (.int 48271)) (ab (af (.int 69621)) (ab (af (.int 40692)) (ab (af (.int 39373)) (ab (af (.int 16807)) (ab (af (.int 30323)) (ab (af (.int 21403)) (ab (af (.int 62089)) (ab (af (.int 45742)) (ab (af (.int 37907)) (ab (af (.int 53611)) (ab (af (.int 28411)) (ab (af (.int 59393)) (ab (af (.int 33391)) ae))))))))))))))))
 (ag (ax 6 (m2 (aP .Mod) (m2 (aP .Mult) (m2 (aP .Add) (m2 (aP .Mod) (aa 0) (af (.int 1000000007))) (af (.int 11))) (m2 az (aa 5) (m2 (aP .Mod) (aa 1) (af (.int 14))))) (af (.int 2147483629))))
 (ag (ax 7 (m2 (aP .Mod) (m2 (aP .Mult) (aa 6) (m2 (aP .Add) (aa 6) (aa 1))) (af (.int 1999999973))))
 (ag (aZ (m2 (aP .Mod) (m2 (aP .FloorDiv) (m2 (aP .Mod) (m2 (aP .Mult) (aa 7) (af (.int 16807))) (af (.int 998244353))) (af (.int 1000))) (aa 2)))
 ai))))
def mR:SM:=
 (ag (ax 3 (m2 (aP .FloorDiv) (aa 0) (af (.int 2))))
 (ag G9 Qp))
@[simp] theorem G_{x y:D}{Ω:aD}:aP .Pow x y Ω=fK (fk .Pow) x y Ω:=rfl
theorem AL{c t m:Int}(K:0<=t)(u:t<100000)(g:0<m):∃r,0<=r/\r<m/\pureOf (bL 8 3 mR) [.int c,.int t,.int m]=.ok (false,.int r):=by
 have j:∃r b,0<=r/\r<m/\bL 8 3 mR [.int c,.int t,.int m] []=.ok (.int r) b:=by
  rw[bt (by rfl)]
  have w:aV 8 [D.int c,.int t,.int m]=[some (.int c),some (.int t),some (.int m),none,none,none,none,none]:=rfl;rw[w];unfold mR;have y:(ax 3 (m2 (aP .FloorDiv) (aa 0) (af (.int 2)))) [some (.int c),some (.int t),some (.int m),none,none,none,none,none] []=.nx [some (.int c),some (.int t),some (.int m),some (.int (c / 2)),none,none,none,none] []:=by simp
  rw[ah,y,aB,ah]
  by_cases k:c%2=1/\1000000000000000000<c
  .have l:lM t=true:=eY (by omega) (by omega)
   have n:∃x a,eP (bp 4) (.ints 0 t.toNat) G8 fuel 0 [some (.int c),some (.int t),some (.int m),some (.int (c / 2)),none,none,none,none] []=.nx [some (.int c),some (.int t),some (.int m),some (.int x),a,none,none,none] []:=by
    refine bF (R:=λr=>∃x a,r=.nx [some (.int c),some (.int t),some (.int m),some (.int x),a,none,none,none] []) (ds:=intsFrom 0 t.toNat) (λ_ o p=>∃x a,o=[some (.int c),some (.int t),some (.int m),some (.int x),a,none,none,none]/\p=[]) (λ_ _ _ _=>rfl) ?_ ?_ fuel 0 _ _ (by rw[dQ];unfold fuel;omega) (Nat.zero_le _) ⟨_,_,rfl,rfl⟩
    .rintro i d o p q ⟨x,a,rfl,rfl⟩
     refine⟨_,rfl,?_⟩;have e:G8 [some (.int c),some (.int t),some (.int m),some (.int x),some d,none,none,none] []=.nx [some (.int c),some (.int t),some (.int m),some (.int (x / 840)),some d,none,none,none] []:=by simp[G8]
     show xU (G8 [some (.int c),some (.int t),some (.int m),some (.int x),some d,none,none,none] []) _ _
     rw[e];exact⟨_,_,rfl,rfl⟩
    .rintro o p ⟨x,a,rfl,rfl⟩
     exact⟨x,a,rfl⟩
   obtain⟨x,a,n⟩:=n;refine⟨x%840%m,[],Int.emod_nonneg _ (by omega),Int.emod_lt_of_pos _ g,?_⟩
   simp[G9,k.1,k.2,l,n,g]
  .obtain⟨d,q,e⟩:=Dw (xs:=[D.int 48271,.int 69621,.int 40692,.int 39373,.int 16807,.int 30323,.int 21403,.int 62089,.int 45742,.int 37907,.int 53611,.int 28411,.int 59393,.int 33391]) (i:=t%14) (Int.emod_nonneg _ (by omega)) (Int.emod_lt_of_pos _ (by omega))
   obtain⟨v,rfl⟩:∃v,d=.int v:=by
    simp only[List.mem_cons,List.not_mem_nil,or_false]at q;rcases q with h|h|h|h|h|h|h|h|h|h|h|h|h|h<;>exact⟨_,h⟩
   have A:([]++[Cell.lst [D.int 48271,.int 69621,.int 40692,.int 39373,.int 16807,.int 30323,.int 21403,.int 62089,.int 45742,.int 37907,.int 53611,.int 28411,.int 59393,.int 33391]]:aD)[0]?=some (.lst [D.int 48271,.int 69621,.int 40692,.int 39373,.int 16807,.int 30323,.int 21403,.int 62089,.int 45742,.int 37907,.int 53611,.int 28411,.int 59393,.int 33391]):=rfl;have s:=cQ A e;have B:kr (c%1000000007+11)=true:=iM (by omega) (by omega)
   have C:kr ((c%1000000007+11)*v%2147483629)=true:=iM (by omega) (by omega)
   have E:kr ((c%1000000007+11)*v%2147483629*((c%1000000007+11)*v%2147483629+t)%1999999973)=true:=iM (by omega) (by omega)
   have rI:G9 [some (.int c),some (.int t),some (.int m),some (.int (c / 2)),none,none,none,none] []=.nx [some (.int c),some (.int t),some (.int m),some (.int (c / 2)),none,none,none,none] []:=by
    by_cases f:c%2=1
    .have F:¬ 1000000000000000000<c:=λz=>k ⟨f,z⟩
     simp[G9,f,F]
    .have G:(c%2==1)=false:=by simpa using f
     simp[G9,G]
   refine⟨(c%1000000007+11)*v%2147483629*((c%1000000007+11)*v%2147483629+t)%1999999973*16807%998244353 / 1000%m,([]++[Cell.lst [D.int 48271,.int 69621,.int 40692,.int 39373,.int 16807,.int 30323,.int 21403,.int 62089,.int 45742,.int 37907,.int 53611,.int 28411,.int 59393,.int 33391]]:aD),Int.emod_nonneg _ (by omega),Int.emod_lt_of_pos _ g,?_⟩
   rw[rI,aB];have H:(ax 5 (mN bj (ab (af (.int 48271)) (ab (af (.int 69621)) (ab (af (.int 40692)) (ab (af (.int 39373)) (ab (af (.int 16807)) (ab (af (.int 30323)) (ab (af (.int 21403)) (ab (af (.int 62089)) (ab (af (.int 45742)) (ab (af (.int 37907)) (ab (af (.int 53611)) (ab (af (.int 28411)) (ab (af (.int 59393)) (ab (af (.int 33391)) ae)))))))))))))))) [some (.int c),some (.int t),some (.int m),some (.int (c / 2)),none,none,none,none] []=.nx [some (.int c),some (.int t),some (.int m),some (.int (c / 2)),none,some (.ref 0),none,none] ([]++[Cell.lst [D.int 48271,.int 69621,.int 40692,.int 39373,.int 16807,.int 30323,.int 21403,.int 62089,.int 45742,.int 37907,.int 53611,.int 28411,.int 59393,.int 33391]]):=rfl;unfold Qp;rw[ah,H,aB];generalize ([]++[Cell.lst [D.int 48271,.int 69621,.int 40692,.int 39373,.int 16807,.int 30323,.int 21403,.int 62089,.int 45742,.int 37907,.int 53611,.int 28411,.int 59393,.int 33391]]:aD)=I at s;simp[s,B,C,E,g]
 obtain⟨r,b,J,f,e⟩:=j;exact⟨r,J,f,mQ rfl e rfl⟩
section
variable{Ω ao:aD}{ρ:aS}
theorem DB{mc me:EM}{τ:aS}{src:Src}{ds:List D}(I:Nat->List D->aD->Prop)(h:∀i a Ω,I i a Ω->eN src Ω=some ds)(j:∀i d a Ω,ds[i]?=some d->I i a Ω->∃y ao,me ([some d]++τ) Ω=.ok y ao/\I (i+1) (a++[y]) ao) :
  ∀(f i:Nat) (a:List D) Ω,I i a Ω->ds.length - i<f->i<=ds.length->a.length+ds.length<=100000+i->∃ys ao,ti true mc me 0 τ src f i a Ω=.ok ys ao/\I ds.length ys ao:=by
 intro f
 induction f with
 |zero=>intro i a Ω c k;omega
 |succ f l=>
  intro i a Ω c k r s;simp only[ti,h i a Ω c]
  by_cases b:i<ds.length
  .have e:ds[i]?=some ds[i]:=List.getElem?_eq_getElem b
   rw[e];have m:nV 0 ds[i]=some [some ds[i]]:=rfl;obtain⟨y,g,o,p⟩:=j i ds[i] a Ω e c;have q:hG true mc ([some ds[i]]++τ) Ω=.ok true Ω:=rfl;simp only[m];rw[if_pos (aN (n:=a.length+1) (by omega)),q]
   dsimp only;rw[o];dsimp only;exact l (i+1) (a++[y]) g p (by omega) b (by rw[List.length_append];simp;omega)
  .have e:ds[i]?=none:=List.getElem?_eq_none (by omega)
   rw[e];have:i=ds.length:=by omega
   subst this;exact⟨a,Ω,rfl,c⟩
theorem j_{me mc:EM}{mi:IM}{cap:List Nat}{src:Src}{ds:List D}(I:Nat->List D->aD->Prop)(c:mi ρ Ω=.ok src ao)(e:I 0 [] ao)(f:∀i b Ω,I i b Ω->eN src Ω=some ds)(g:∀i d b Ω,ds[i]?=some d->I i b Ω->∃y ao,me ([some d]++dW cap ρ) Ω=.ok y ao/\I (i+1) (b++[y]) ao)(k:ds.length<=90000) :
  ∃ys a,bo me true mc mi 0 cap ρ Ω=.ok (.ref a.length) (a++[.lst ys])/\I ds.length ys a:=by
 obtain⟨ys,a,h,j⟩:=DB (mc:=mc) I f g fuel 0 [] ao e (by unfold fuel;omega) (Nat.zero_le _) (by simp;omega)
 refine⟨ys,a,?_,j⟩;unfold bo;rw[c];dsimp only;rw[h];rfl
def Kt(Ω:aD)(j:Nat)(a:List Str):Prop:=Ω[j]?=some (.lst (a.map .str))
def iW(Ω:aD)(a:List Nat)(rs:List (List Str)):Prop:=aK (Kt Ω) a rs
structure Rw(Ω:aD)(k:Nat)(js:List Nat)(rs:List (List Str)):Prop where
 ce:Ω[k]?=some (.lst (js.map .ref))
 al:iW Ω js rs
section
variable{k:Nat}{js:List Nat}{rs:List (List Str)}{row:List Str}{n:Str}
theorem iW.keep:∀{a:List Nat}{rs:List (List Str)},iW Ω a rs->∀{fp:List Nat},aj fp Ω ao->(∀j∈a,j∉fp)->iW ao a rs
 |_,_,.nil,_,_,_=>.nil
 |_,_,.cons r t,fp,K,h=>.cons (K.get _ _ r (h _ (by simp))) (iW.keep t K λj b=>h j (by simp[b]))
theorem Rw.keep(R:Rw Ω k js rs)(K:aj [] Ω ao):Rw ao k js rs:=⟨K.get _ _ R.ce (by simp),R.al.keep K (by simp)⟩
theorem Rw.tQ(R:Rw Ω k js rs){fp:List Nat}(K:aj fp Ω ao)(a:k∉fp)(b:∀j∈js,j∉fp):Rw ao k js rs:=⟨K.get _ _ R.ce a,R.al.keep K b⟩
theorem iW.len(h:iW Ω js rs):rs.length=js.length:=aK.length h
theorem Rw.len(R:Rw Ω k js rs):rs.length=js.length:=R.al.len
theorem iW.at{i:Nat}{a:List Str}(h:iW Ω js rs)(b:rs[i]?=some a):∃j,js[i]?=some j/\Ω[j]?=some (.lst (a.map .str)):=aK.CY (R:=Kt Ω) h b
theorem iW.at'{i j:Nat}(h:iW Ω js rs)(b:js[i]?=some j):∃a,rs[i]?=some a/\Ω[j]?=some (.lst (a.map .str)):=aK.get (R:=Kt Ω) h b
theorem iW.lt(h:iW Ω js rs):∀j∈js,j<Ω.length:=λj a=>by
 obtain⟨i,b⟩:=List.mem_iff_getElem?.mp a;obtain⟨c,_,d⟩:=h.at' b;exact bH d
theorem gI{a:List Nat}{i:Nat}{d:D}(h:(a.map D.ref)[i]?=some d):∃j,a[i]?=some j/\d=.ref j:=by
 rw[List.getElem?_map]at h;obtain⟨x,b,c⟩:=Option.map_eq_some_iff.mp h;exact⟨x,b,c.symm⟩
def Ku:SM:=(ag (dc (m2 (aw .In) (aa 1) (cz (aa 3) false (af (.int 1)) true (af .non))) (ag (aZ (aa 2)) ai) ai) ai)
def rJ:SM:=(ag (bX (fx [2,3]) (lS (aa 0)) Ku) (ag (aZ (af .non)) ai))
theorem rK{j:Nat}(h:Ω[j]?=some (.lst (row.map .str))):jH (.ref j) (some 1) none Ω=.ok (.ref Ω.length) (Ω++[.lst (row.tail.map .str)]):=by
 have e:de (row.map D.str) (some 1) none=row.tail.map .str:=by
  have:=rF (row.map D.str) 1;rw[show((1:Nat):Int)=1 by rfl]at this
  rw[this,←List.map_drop,List.drop_one]
 simp only[jH,aA h,n_,e]
theorem DC{j i:Nat}(h:Ω[j]?=some (.lst (row.map .str))):∃ao,aj [] Ω ao/\Ku [some (.ref k),some (.str n),some (.int i),some (.ref j)] Ω=if n∈row.tail then .rt (.int i) ao else .nx [some (.ref k),some (.str n),some (.int i),some (.ref j)] ao:=by
 have c:=rK h;have e:(Ω++[Cell.lst (row.tail.map .str)])[Ω.length]?=some (.lst (row.tail.map .str)):=av;have f:aj [] Ω (Ω++[Cell.lst (row.tail.map .str)]):=aj.app;generalize Ω++[Cell.lst (row.tail.map .str)]=b at *;have d:=lr (w:=n) e;refine⟨b,f,?_⟩
 by_cases a:n∈row.tail
 .rw[if_pos a,decide_eq_true a]at *
  simp[Ku,c,d,-oi]
 .rw[if_neg a,decide_eq_false a]at *
  simp[Ku,c,d,-oi]
theorem DD(R:Rw Ω k js rs)(B:rs.length<=1000):∃d ao,bL 4 2 rJ [.ref k,.str n] Ω=.ok d ao/\aj [] Ω ao/\((d=.non/\∀r∈rs,n∉r.tail)\/∃i:Nat,d=.int i/\∃r,rs[i]?=some r/\n∈r.tail):=by
 rw[bt (by rfl)]
 have x:aV 4 [D.ref k,.str n]=[some (.ref k),some (.str n),none,none]:=rfl;rw[x];have y:=R.len
 have o:lS (aa 0) [some (.ref k),some (.str n),none,none] Ω=.ok (.JC (.ref k)) Ω:=by
  unfold lS;simp[aA R.ce]
 unfold rJ;rw[ah,cv,o,b9]
 refine bF (R:=λr=>∃d ao,fR (sq r _)=.ok d ao/\aj [] Ω ao/\((d=.non/\∀r∈rs,n∉r.tail)\/∃i:Nat,d=.int i/\∃r,rs[i]?=some r/\n∈r.tail)) (ds:=dg 0 (js.map .ref))
  (λi g a=>∃p q,g=[some (.ref k),some (.str n),p,q]/\(∀r∈rs.take i,n∉r.tail)/\aj [] Ω a) ?_ ?_ ?_ fuel 0 _ _ (by rw[gK];unfold fuel;simp;omega) (Nat.zero_le _) ⟨none,none,rfl,by simp,aj.refl⟩
 .rintro i g a ⟨_,_,_,_,K⟩
  show(eK a (.ref k)).map (dg 0)=_
  rw[aC,aA (R.keep K).ce];rfl
 .rintro i d g a z ⟨p,q,rfl,l,K⟩
  obtain⟨C,s,rfl⟩:=iw _ 0 i d z;obtain⟨j,A,rfl⟩:=gI s;obtain⟨c,u,f⟩:=(R.keep K).al.at' A;rw[Nat.zero_add];refine⟨[some (.ref k),some (.str n),some (.int i),some (.ref j)],rfl,?_⟩;obtain⟨t,w,e⟩:=DC (k:=k) (n:=n) (i:=i) f;rw[e]
  by_cases m:n∈c.tail
  .rw[if_pos m]
   exact⟨.int i,t,rfl,K.trans w,.inr ⟨i,rfl,c,u,m⟩⟩
  .rw[if_neg m]
   refine⟨_,_,rfl,λr b=>?_,K.trans w⟩
   rw[List.take_succ,u]at b;simp at b;rcases b with h|rfl
   .exact l r h
   .exact m
 .rintro g a ⟨p,q,rfl,l,K⟩
  rw[gK,List.length_map,←y,List.take_length]at l;exact⟨.non,a,rfl,K,.inl ⟨rfl,l⟩⟩
def Ha(a:ba):SM:=(ag (dc (eL (aa 1) (m2 (aw .Is) (mN (aG a) (ab (aa 0) (ab (m2 az (aa 1) (af (.int 0))) ae))) (af .non))) (ag (aZ (m2 az (aa 1) (af (.int 0)))) ai) ai) ai)
def AN(a:ba):SM:=(ag (bX (bp 1) (aL (aa 0)) (Ha a)) (ag (aZ (af .non)) ai))
theorem iR{j:Nat}{ds:List D}(h:Ω[j]?=some (.lst ds)):gf Ω (.ref j)=some (!ds.isEmpty):=by simp only[gf,h]
theorem DE{j:Nat}(R:Rw Ω k js rs)(p:rs.length<=1000)(h:Ω[j]?=some (.lst (row.map .str))):∃ao,aj [] Ω ao/\Ha (bL 4 2 rJ) [some (.ref k),some (.ref j)] Ω=match freeOf rs row with|some m=>.rt (.str m) ao|none=>.nx [some (.ref k),some (.ref j)] ao:=by
 cases row with
 |nil=>
  have b:=iR h;refine⟨Ω,aj.refl,?_⟩;simp[Ha,freeOf,b]
 |cons m t=>
  have b:=iR h;have b:gf Ω (.ref j)=some true:=b;have c:az (.ref j) (.int 0) Ω=.ok (.str m) Ω:=cQ h (L2.dv (j:=0) rfl);obtain⟨d,a,l,o,q⟩:=DD (n:=m) R p;have s:=o.get _ _ h (by simp)
  have e:az (.ref j) (.int 0) a=.ok (.str m) a:=cQ s (L2.dv (j:=0) rfl);refine⟨a,o,?_⟩;generalize bL 4 2 rJ=w at *;rcases q with ⟨rfl,f⟩|⟨i,rfl,r,g,f⟩
  .rw[dD (by rintro⟨r,g,u⟩;exact f r g u)]
   simp[Ha,b,c,l,e]
  .rw[dC ⟨r,List.mem_of_getElem? g,f⟩]
   simp[Ha,b,c,l]
theorem DF(R:Rw Ω k js rs)(u:rs.length<=1000):∃ao,bL 2 1 (AN (bL 4 2 rJ)) [.ref k] Ω=.ok (Au (free rs)) ao/\aj [] Ω ao:=by
 rw[bt (by rfl)]
 have w:aV 2 [D.ref k]=[some (.ref k),none]:=rfl;rw[w];have y:=R.len;have n:aL (aa 0) [some (.ref k),none] Ω=.ok (.seq (.ref k)) Ω:=by simp[aR (x:=.ref k) (by rw[aC,aA R.ce])]
 unfold AN;rw[ah,cv,n,b9]
 refine bF (R:=λr=>∃ao,fR (sq r _)=.ok (Au (free rs)) ao/\aj [] Ω ao) (ds:=js.map .ref)
  (λi h a=>∃o,h=[some (.ref k),o]/\(rs.take i).findSome? (freeOf rs)=none/\aj [] Ω a) ?_ ?_ ?_ fuel 0 _ _ (by unfold fuel;simp;omega) (Nat.zero_le _) ⟨none,rfl,rfl,aj.refl⟩
 .rintro i h a ⟨_,_,_,K⟩
  rw[bU,aC,aA (R.keep K).ce]
 .rintro i d h a p ⟨o,rfl,c,K⟩
  obtain⟨j,z,rfl⟩:=gI p;have R2:=R.keep K;obtain⟨b,l,f⟩:=R2.al.at' z;refine⟨[some (.ref k),some (.ref j)],rfl,?_⟩;obtain⟨q,s,e⟩:=DE R2 u f;rw[e];have A:rs.take (i+1)=rs.take i++[b]:=by rw[List.take_succ,l];rfl
  cases t:freeOf rs b with
  |some m=>
   refine⟨q,?_,K.trans s⟩
   have:free rs=some m:=by
    unfold free
    have p:rs=rs.take i++(b::rs.drop (i+1)):=by
     have g:i<rs.length:=(List.getElem?_eq_some_iff.mp l).1;rw[List.getElem?_eq_getElem g]at l;cases l;rw[←List.drop_eq_getElem_cons g,List.take_append_drop]
    conv=>lhs;arg 2;rw[p]
    rw[List.findSome?_append,c,List.findSome?_cons,t];rfl
   rw[this];rfl
  |none=>
   refine⟨_,rfl,?_,K.trans s⟩;rw[A,List.findSome?_append,c,List.findSome?_cons,t];rfl
 .rintro h a ⟨o,rfl,c,K⟩
  rw[List.length_map,←y,List.take_length]at c;refine⟨a,?_,K⟩;unfold free;rw[c];rfl
end
end
open PySem.Spec PyProof.Rows
section
variable{P:Program}{w:World}{K:PySem.W.Frag}{mg:Str->Option Value}{base:Heap}{T:bb}{k:Nat}
end
end Mir
namespace Mir
open PySem PySem.Spec PyProof.Rows L2
section
variable{X:Cx}{pins:List (Addr×Obj)}{σ:L2.St}{s:Shared}
end
variable [aJ]
section
variable{κ:Str->Addr->Prop}{α ia:List Addr}{Z Z0:Addr->Prop}{Ω:aD}{H H0 H2:Hp}{ρ:aS}{σ:L2.St}
end
section
variable{P:Program}{w:World}{K:PySem.W.Frag}{mg:Str->Option Value}{base:Heap}{T T2:bb}{k:Nat}
end
section
variable{P:Program}{w:World}{K:PySem.W.Frag}{mg:Str->Option Value}{base:Heap}{T:bb}{k:Nat}
end
end Mir
namespace Mir
open PySem L2
variable [aJ]
section
variable{Ω ao:aD}{ρ:aS}{σ:Str->Int}{t kl:Nat}{kvs:List (List Key×D)}{line:List Str}{w x:Str}
theorem AO{ds:List D}{n:Nat}:de ds none (some (n:Int))=ds.take n:=rG ds n
theorem om{n:Nat}(h:Ω[kl]?=some (.lst (line.map .str))):jH (.ref kl) none (some (n:Int)) Ω=.ok (.ref Ω.length) (Ω++[.lst ((line.take n).map .str)]):=by
 simp only[jH,aA h,n_,AO,List.map_take]
@[simp] theorem Kv{a:Ty}{ds:List D}:eM a (.tup ds) Ω=.ok (.bl (a==.tuple)) Ω:=rfl
@[simp] theorem Kw{a:Ty}{z:Str}:eM a (.str z) Ω=.ok (.bl (a==.str)) Ω:=rfl
@[simp] theorem Kx{a:Ty}:eM a .non Ω=.ok (.bl false) Ω:=rfl
@[simp] theorem Hb{ds:List D}:aO .len [.tup ds] Ω=.ok (.int ds.length) Ω:=rfl
end
section
variable{Ω ao:aD}{ρ:aS}
theorem DG{nc:Bool}{mc me:EM}{τ:aS}{src:Src}{ds:List D}{p:D->Bool}{g:D->D}(I:Nat->aD->Prop)(q:∀i Ω,I i Ω->eN src Ω=some ds)
  (r:∀i d Ω,ds[i]?=some d->I i Ω->∃ao,hG nc mc ([some d]++τ) Ω=.ok (p d) ao/\I (i+1) ao/\(p d=true->me ([some d]++τ) ao=.ok (g d) ao)) :
  ∀(f i:Nat) (a:List D) (Ω:aD),ds.length - i<f->i<=ds.length->a.length+ds.length<=100000+i->I i Ω->∃ao,ti nc mc me 0 τ src f i a Ω=.ok (a++((ds.drop i).filter p).map g) ao/\I ds.length ao:=by
 intro f
 induction f with
 |zero=>intro i a Ω s;omega
 |succ f m=>
  intro i a Ω s y z j;simp only[ti,q i Ω j]
  by_cases b:i<ds.length
  .have h:ds[i]?=some ds[i]:=List.getElem?_eq_getElem b
   rw[h];have t:nV 0 ds[i]=some [some ds[i]]:=rfl;simp only[t];obtain⟨e,u,o,w⟩:=r i ds[i] Ω h j;rw[if_pos (aN (n:=a.length+1) (by omega)),u,List.drop_eq_getElem_cons b,List.filter_cons]
   cases x:p ds[i]with
   |true=>
    dsimp only;rw[w x];dsimp only;obtain⟨c,k,l⟩:=m (i+1) (a++[g ds[i]]) e (by omega) b (by rw[List.length_append];simp;omega) o
    exact⟨c,by rw[k];simp,l⟩
   |false=>
    dsimp only;obtain⟨c,k,l⟩:=m (i+1) a e (by omega) b (by omega) o
    exact⟨c,by rw[k];simp,l⟩
  .have h:ds[i]?=none:=List.getElem?_eq_none (by omega)
   rw[h,List.drop_of_length_le (by omega)]
   have:i=ds.length:=by omega
   subst this;exact⟨Ω,by simp,j⟩
theorem AQ{me mc:EM}{nc:Bool}{mi:IM}{cap:List Nat}{src:Src}{ds:List D}{p:D->Bool}{g:D->D}(I:Nat->aD->Prop)(b:mi ρ Ω=.ok src ao)(c:∀i Ω,I i Ω->eN src Ω=some ds)
  (f:∀i d Ω,ds[i]?=some d->I i Ω->∃ao,hG nc mc ([some d]++dW cap ρ) Ω=.ok (p d) ao/\I (i+1) ao/\(p d=true->me ([some d]++dW cap ρ) ao=.ok (g d) ao)) (k:ds.length<=90000) (j:I 0 ao) :
  ∃a,bo me nc mc mi 0 cap ρ Ω=.ok (.ref a.length) (a++[.lst ((ds.filter p).map g)])/\I ds.length a:=by
 unfold bo;rw[b];dsimp only;obtain⟨a,e,h⟩:=DG I c f fuel 0 [] ao (by unfold fuel;omega) (Nat.zero_le _) (by simp;omega) j
 refine⟨a,?_,h⟩;rw[e];rfl
theorem mS{k:Nat}{ds:List D}(h:Ω[k]?=some (.lst ds)):fc (.ref k) [] Ω=.ok .non (Ω.set k (.lst [])):=by
 simp only[fc,gT h]
end
section
variable{Ω ao:aD}{ρ:aS}{σ:Str->Int}{kl fn b:Nat}{line ys:List Str}{w:Str}{M:List (List D->ba)}{fp:List Nat}{I:List Str->aD->Prop}
theorem tR{k j:Nat}{us vs:List Str}(h:Ω[k]?=some (.lst (us.map .str)))(h':Ω[j]?=some (.lst (vs.map .str))):aw .Eq (.ref k) (.ref j) Ω=.ok (.bl (decide (us=vs))) Ω:=by
 rw[oh,gS,du (n:=7) h,du (n:=7) h',jW]
 have e:dU .Eq (L1 us) (L1 vs)=.ok (decide (us=vs)):=by
  rw[Du,pS 7,pS 7]
  show(if (true&&true)=true then Out.ok (et (us.map .str) (vs.map .str))else .bad)=_
  rw[n9];rfl
 rw[e];rfl
theorem gU{k j:Nat}{us vs:List Str}(h:Ω[k]?=some (.lst (us.map .str)))(h':Ω[j]?=some (.lst (vs.map .str))):aw .NotEq (.ref k) (.ref j) Ω=.ok (.bl (!decide (us=vs))) Ω:=by
 rw[tL,gS,du (n:=7) h,du (n:=7) h',jW]
 have e:dU .NotEq (L1 us) (L1 vs)=.ok (!decide (us=vs)):=by
  rw[Dv,pS 7,pS 7]
  show(if (true&&true)=true then Out.ok (!et (us.map .str) (vs.map .str))else .bad)=_
  rw[n9];rfl
 rw[e];rfl
theorem DH{i:Nat}{us:List Str}(h:Ω[kl]?=some (.lst (us.map .str))):jH (.ref kl) (some (i:Int)) none Ω=.ok (.ref Ω.length) (Ω++[.lst ((us.drop i).map .str)]):=by
 simp only[jH,aA h,n_,rF,List.map_drop]
end
section
variable{Ω ao:aD}{ρ:aS}{k:Nat}{js:List Nat}{rs:List (List Str)}{row:List Str}{n:Str}
theorem iW.snoc{j:Nat}(h:iW Ω js rs)(a:Ω[j]?=some (.lst (row.map .str))):iW Ω (js++[j]) (rs++[row]):=aK.append (R:=Kt Ω) h (.cons a .nil)
theorem cT{ds:List D}(h:Ω[k]?=some (.lst ds)):aO .list [.ref k] Ω=.ok (.ref Ω.length) (Ω++[.lst ds]):=by
 show gc (iI [.ref k] Ω) (jv [.ref k] Ω)=_
 simp only[iI,aC,aA h];rfl
theorem lA{me mc:EM}{mi:IM}{cap:List Nat}{f:List Str->List Str}{P:Nat->Prop}(s:mi ρ Ω=.ok (.seq (.ref k)) Ω)(R:Rw Ω k js rs)(C:rs.length<=1000)
  (t:∀j c aM,aj [] Ω aM->j∈js->c∈rs->aM[j]?=some (.lst (c.map .str))->∃l a,me ([some (.ref j)]++dW cap ρ) aM=.ok (.ref l) a/\aj [] aM a/\a[l]?=some (.lst ((f c).map .str))/\P l) :
  ∃b a,bo me true mc mi 0 cap ρ Ω=.ok (.ref a.length) (a++[.lst (b.map .ref)])/\aj [] Ω a/\iW a b (rs.map f)/\∀j∈b,P j:=by
 have u:=R.len
 obtain⟨D,a,e,b,rfl,n,w,o⟩:=j_ (me:=me) (mc:=mc) (cap:=cap) (ds:=js.map .ref) (λi g a=>∃b,g=b.map .ref/\iW a b ((rs.take i).map f)/\aj [] Ω a/\∀j∈b,P j) s ⟨[],rfl,.nil,aj.refl,by simp⟩
  (λi g a h=>by
   obtain⟨_,_,_,K,_⟩:=h;rw[bU,aC,aA (R.keep K).ce])
  (λi d g aM y h=>by
   obtain⟨b,rfl,n,K,o⟩:=h;obtain⟨j,p,rfl⟩:=gI y;obtain⟨c,q,m⟩:=(R.keep K).al.at' p;obtain⟨l,a,e,r,z,A⟩:=t j c aM K (List.mem_of_getElem? p) (List.mem_of_getElem? q) m;refine⟨.ref l,a,e,b++[l],by simp,?_,K.trans r,?_⟩
   .rw[List.take_succ,q,List.map_append]
    exact(n.keep r (by simp)).snoc z
   .intro x B
    rcases List.mem_append.mp B with h|h
    .exact o x h
    .rw[List.mem_singleton.mp h];exact A) (by simp;omega)
 refine⟨b,a,e,w,?_,o⟩;rw[List.length_map,←u,List.take_length]at n;exact n
def xW(i:Nat):EM:=bo (mN (aO .list) (ab (aa 0) ae)) true (af .non) (aL (aa i)) 0 []
theorem AR{i:Nat}(n:ρ[i]?=some (some (.ref k)))(R:Rw Ω k js rs)(o:rs.length<=1000):∃a c ao,xW i ρ Ω=.ok (.ref c) ao/\aj [] Ω ao/\Rw ao c a rs/\(∀j∈a,Ω.length<=j)/\Ω.length<=c/\c∉a:=by
 have d:aL (aa i) ρ Ω=.ok (.seq (.ref k)) Ω:=by
  rw[bf,gR,n,gQ,ak];exact aR (by rw[aC,aA R.ce])
 obtain⟨a,g,e,K,l,p⟩:=lA (me:=mN (aO .list) (ab (aa 0) ae)) (mc:=af .non) (cap:=[]) (f:=λr=>r) (P:=λj=>Ω.length<=j) d R o (λj m b K _ _ h=>by
  refine⟨b.length,b++[.lst (m.map .str)],?_,aj.app,av,K.len⟩;have:=cT h;simp[dW,this])
 rw[List.map_id']at l;refine⟨a,g.length,_,e,K.trans aj.app,⟨av,l.keep (fp:=[]) aj.app (by simp)⟩,p,K.len,λh=>?_⟩
 have:=l.lt _ h;omega
def stC:EM:=(vo (m2 (aw .Eq) (cz (aa 0) true (af .non) false (af (.int 1))) (mN bj (ab (aa 1) ae))) (cz (aa 0) false (af (.int 1)) true (af .non)) (aa 0))
theorem DI{j:Nat}(h:Ω[j]?=some (.lst (row.map .str))):jH (.ref j) none (some 1) Ω=.ok (.ref Ω.length) (Ω++[.lst ((row.take 1).map .str)]):=om (n:=1) h
theorem DJ{j:Nat}(h:Ω[j]?=some (.lst (row.map .str))):∃d ao,stC [some (.ref j),some (.str n)] Ω=.ok (.ref d) ao/\aj [] Ω ao/\ao[d]?=some (.lst ((cE n row).map .str))/\(d=j\/Ω.length<=d):=by
 have k:=DI h;have l:(Ω++[Cell.lst ((row.take 1).map .str)])[Ω.length]?=some (.lst ((row.take 1).map .str)):=av;have g:aj [] Ω (Ω++[Cell.lst ((row.take 1).map .str)]):=aj.app;generalize Ω++[Cell.lst ((row.take 1).map .str)]=a at *;have m:(a++[Cell.lst [.str n]])[a.length]?=some (.lst ([n].map .str)):=av;have e:aj [] a (a++[Cell.lst [.str n]]):=aj.app;have f:=e.get _ _ l (by simp)
 have i:=e.get _ _ (g.get _ _ h (by simp)) (by simp)
 have c:=tR f m
 have o:(m2 (aw .Eq) (cz (aa 0) true (af .non) false (af (.int 1))) (mN bj (ab (aa 1) ae))) [some (.ref j),some (.str n)] Ω=.ok (.bl (decide (row.take 1=[n]))) (a++[Cell.lst [.str n]]):=by
  simp[k,aN,c,-oh]
 generalize a++[Cell.lst [.str n]]=b at *;have K:=g.trans e;have p:=rK i;unfold stC;rw[oa,o,dj,bD,dy,ak]
 by_cases c:row.take 1=[n]
 .rw[if_pos (by rw[decide_eq_true c])]
  refine⟨b.length,b++[.lst (row.tail.map .str)],?_,K.trans aj.app,?_,.inr K.len⟩
  .simp[p]
  .unfold cE;rw[if_pos c];exact av
 .rw[if_neg (by rw[decide_eq_false c];simp)]
  refine⟨j,b,by simp,K,?_,.inl rfl⟩
  unfold cE;rw[if_neg c];exact i
def FnAt(d:ba):Prop:=∀b k e c,Rw b k e c->c.length<=1000->∃a,d [.ref k] b=.ok (Au (free c)) a/\aj [] b a
theorem Hc:FnAt (bL 2 1 (AN (bL 4 2 rJ))):=λ_ _ _ _ R a=>DF R a
def tM:EM:=(mN (aO .any) (ab (aa 1) ae))
def stM:EM:=(bo stC true (af .non) (aL (aa 1)) 0 [3])
def bM(st:SM)(a:ba):SM:=(ag (ax 3 (mN (aG a) (ab (aa 1) ae)))
 (ag (dc (m2 (aw .Is) (aa 3) (af .non))
 (ag st
 ai)
 ai)
 (ag (bC (bQ eo bh (aa 2) (ab (aa 3) ae)))
 (ag (ax 1 stM)
 ai))))
def DK(st:SM)(a:ba):SM:=
 (ag (ax 1 (xW 0))
 (ag (ax 2 (mN bj ae))
 (ag (jd tM (bM st a))
 (ag (aZ (aa 2))
 ai))))
theorem tS(R:Rw Ω k js rs):aO .any [.ref k] Ω=.ok (.bl ((rs.map λr=>!r.isEmpty).any id)) Ω:=by
 show lQ .any [.ref k] Ω=_
 unfold lQ;rw[tK];have h:=lu (n:=6) (rs:=js) (L:=rs) R.ce R.al;have:bz (eH Ω 8) [.ref k]=some [LL rs]:=by simp[h]
 rw[this,tJ];have:xb .any [LL rs]=.ok (false,.bl ((rs.map λr=>!r.isEmpty).any id)):=by simp[LL,any_rows,-List.any_map]
 rw[this,Dz]
theorem Hd{st:SM}{m:ba}(I:FnAt m){R0:D}{q:Nat}{a3:Option D}{b:List Str}(R:Rw Ω k js rs)(E:rs.length<=1000)(J:free rs=some n)(L:Ω[q]?=some (.lst (b.map .str)))(o:q≠k)(l:q∉js)(hp:b.length<=900) :
  ∃p c ao,bM st m [some R0,some (.ref k),some (.ref q),a3] Ω=.nx [some R0,some (.ref p),some (.ref q),some (.str n)] ao/\Rw ao p c (rs.map (cE n))/\ao[q]?=some (.lst ((b++[n]).map .str))/\q≠p/\q∉c/\aj [q] Ω ao:=by
 obtain⟨a,F,r⟩:=I Ω k js rs R E;rw[J]at F;have s:=r.get _ _ L (by simp)
 have M:=R.keep r;have t:=dZ (d:=.str n) s (by simp;omega)
 have N:=c8 s;have G:aj [q] a (a.set q (.lst (b.map .str++[.str n]))):=aj.set (by simp)
 have H:(a.set q (.lst (b.map .str++[.str n])))[q]?=some (.lst ((b++[n]).map .str)):=by rw[aQ s];simp
 generalize a.set q (.lst (b.map .str++[.str n]))=g at *;have R2:Rw g k js rs:=M.tQ G (by simpa using Ne.symm o) (λj u h=>l (by rw[←List.mem_singleton.mp h];exact u))
 have w:aL (aa 1) [some R0,some (.ref k),some (.ref q),some (.str n)] g=.ok (.seq (.ref k)) g:=by
  rw[bf];exact aR (by rw[aC,aA R2.ce])
 have ql:=bH H
 obtain⟨c,i,O,y,Q,A⟩:=lA (ρ:=[some R0,some (.ref k),some (.ref q),some (.str n)]) (me:=stC) (mc:=af .non) (cap:=[3]) (f:=cE n) (P:=λj=>j≠q) w R2 E (λj S i K u _ h=>by
  obtain⟨T,B,e,U,A,h5⟩:=DJ (n:=n) h;refine⟨T,B,e,U,A,?_⟩;rcases h5 with rfl|h5
  .exact λz=>l (z▸u)
  .have:=K.len
   omega)
 have V:=y.len;refine⟨i.length,c,i++[.lst (c.map .ref)],?_,⟨av,Q.keep (fp:=[]) aj.app (by simp)⟩,dA (y.get _ _ H (by simp)),by omega,λh=>A q h rfl,?_⟩
 .have C:stM [some R0,some (.ref k),some (.ref q),some (.str n)] g=.ok (.ref i.length) (i++[.lst (c.map .ref)]):=O
  have X:(ax 3 (mN (aG m) (ab (aa 1) ae))) [some R0,some (.ref k),some (.ref q),a3] Ω=.nx [some R0,some (.ref k),some (.ref q),some (.str n)] a:=by simp[F,Au]
  have Y:(dc (m2 (aw .Is) (aa 3) (af .non)) (ag st ai) ai) [some R0,some (.ref k),some (.ref q),some (.str n)] a=.nx [some R0,some (.ref k),some (.ref q),some (.str n)] a:=by simp
  have Z:(bC (bQ eo bh (aa 2) (ab (aa 3) ae))) [some R0,some (.ref k),some (.ref q),some (.str n)] a=.nx [some R0,some (.ref k),some (.ref q),some (.str n)] g:=by
   rw[bT,dE (x:=.ref q) (ao:=a) (by simp) N]
   simp[t]
  unfold bM;rw[ah,X,aB,ah,Y,aB,ah,Z,aB,ah,bu,C];rfl
 .exact((fB.up r).trans G).trans (fB.up (y.trans aj.app))
theorem xX{st:SM}{d:ba}(x:FnAt d){R0:D}{rs:List (List Str)}{o:List Str}(M:Mg rs o) :
  ∀(Ω:aD) (a:List Str) (q k:Nat) (f:List Nat) (a3:Option D) (m:Nat),Rw Ω k f rs->Ω[q]?=some (.lst (a.map .str))->q≠k->q∉f->rs.length<=1000->a.length+o.length<=900->o.length<m ->
   ∃a1 c ao,eO tM (bM st d) m [some R0,some (.ref k),some (.ref q),a3] Ω=.nx [some R0,a1,some (.ref q),c] ao/\ao[q]?=some (.lst ((a++o).map .str))/\aj [q] Ω ao:=by
 induction M with
 |@done rs h=>
  intro Ω a q k f a3 m R i _ _ _ _ g;obtain⟨m,rfl⟩:∃k,m=k+1:=⟨m - 1,by simp at g;omega⟩
  refine⟨some (.ref k),a3,Ω,?_,by rw[List.append_nil];exact i,aj.refl⟩
  have e:=tS R;rw[any_false h]at e;have j:tM [some R0,some (.ref k),some (.ref q),a3] Ω=.ok (.bl false) Ω:=by simp[tM,e]
  simp only[eO,j];rfl
 |@step rs n o h y _ z=>
  intro Ω a q k f a3 m R i l p w A g;obtain⟨m,rfl⟩:∃k,m=k+1:=⟨m - 1,by simp at g;omega⟩
  rw[List.length_cons]at A g;obtain⟨B,s,t,C,E,F,G,H,I⟩:=Hd (st:=st) x (R0:=R0) (a3:=a3) R w y i l p (by omega)
  obtain⟨a1,c,u,J,K,L⟩:=z t (a++[n]) q B s (some (.str n)) m E F G H (by simpa using w) (by simp;omega) (by omega)
  refine⟨a1,c,u,?_,by rw[K];simp,I.trans L⟩
  have e:=tS R;rw[any_true h]at e;have j:tM [some R0,some (.ref k),some (.ref q),a3] Ω=.ok (.bl true) Ω:=by simp[tM,e]
  simp only[eO,j]
  show(match bM st d [some R0,some (.ref k),some (.ref q),a3] Ω with|.nx b ao=>eO tM (bM st d) m b ao|.ct b ao=>eO tM (bM st d) m b ao|.bk b ao=>.nx b ao|r=>r)=_
  rw[C];exact J
def AS(d:ba):Prop:=∀(b:aD) (k:Nat) (e:List Nat) (c:List (List Str)) (o:List Str),Rw b k e c->Mg c o->c.length<=1000->o.length<=900->∃q a,d [.ref k] b=.ok (.ref q) a/\a[q]?=some (.lst (o.map .str))/\b.length<=q/\aj [] b a
theorem He{st:SM}{g:ba}(m:FnAt g):AS (bL 4 1 (DK st g)):=by
 intro n k A B o R M j p;rw[bt (by rfl)]
 have q:aV 4 [D.ref k]=[some (.ref k),none,none,none]:=rfl;rw[q];obtain⟨c,b,a,r,d,e,C,E,F⟩:=AR (ρ:=[some (.ref k),none,none,none]) (i:=0) rfl R j;have s:(ax 1 (xW 0)) [some (.ref k),none,none,none] n=.nx [some (.ref k),some (.ref b),none,none] a:=by rw[bu,r];rfl
 have l:aj [] a (a++[Cell.lst []]):=aj.app;have t:(a++[Cell.lst []])[a.length]?=some (.lst (([]:List Str).map .str)):=av;have u:(ax 2 (mN bj ae)) [some (.ref k),some (.ref b),none,none] a=.nx [some (.ref k),some (.ref b),some (.ref a.length),none] (a++[Cell.lst []]):=by simp[aN]
 have G:=bH e.ce;have w:=e.al.lt;obtain⟨H,I,f,x,y,z⟩:=xX (st:=st) m (R0:=.ref k) M (a++[Cell.lst []]) [] a.length b c none fuel (e.keep l) t (by omega) (λh=>by have:=w _ h;omega) j (by simpa using p) (by unfold fuel;omega)
 refine⟨a.length,f,?_,y,d.len,aj.new (d.trans l) z (by simpa using d.len)⟩
 unfold DK;rw[ah,s,aB,ah,u,aB,ah];unfold jd;rw[x];rfl
end
end Mir
namespace Mir
open PySem
open PySem.Spec PyProof.Rows L2
structure df(K:PySem.W.Frag)(x:Str)(st:Stmt)(f:Addr)(fd:FuncData):Prop where
 ns:PySem.W.nsIn K mainGlobals x=some (some (.ref f))
 fn:CP K x x st f fd
theorem lB{K:PySem.W.Frag}{x:Str}{st:Stmt}{f:Addr}{oc:Value}{i g:Option Addr}{e:Array (Option Value)}{kV d h b ct:Value}(a:PySem.W.nsIn K mainGlobals x=some (some (.ref f)))
  (l:K.lookup f=some ⟨oc,i,.func (PySem.W.fnOf x x (bS st) (bN st) (au st) .none kV d h g b ct),e⟩) (c:PySem.W.codeIn K b x=true) (k:PySem.W.keepIn K (.ref f)=true):df K x st f (PySem.W.fnOf x x (bS st) (bN st) (au st) .none kV d h g b ct):=⟨a,eA l c k⟩
variable [aJ]
structure Hf(K:PySem.W.Frag)(x qual:Str)(st:Stmt)(dV:Value)(f:Addr)(fd:FuncData):Prop where
 ex:∃(oc:Value) (od:Option Addr) (kV doc pm:Value) (an:Option Addr) (cdv ct:Value) (osl:Array (Option Value)),
  fd=PySem.W.fnOf x qual (bS st) (bN st) (au st) dV kV doc pm an cdv ct/\K.lookup f=some ⟨oc,od,.func fd,osl⟩/\PySem.W.codeIn K cdv qual=true
 kp:PySem.W.keepIn K (.ref f)=true
section
variable{P:Program}{w:World}{K:PySem.W.Frag}{mg:Str->Option Value}{base:Heap}{T:bb}{k:Nat}
theorem AU(W:bA P w K mg base T k){x qual:Str}{st:Stmt}{D:Value}{f:Addr}{y:FuncData}(F:Hf K x qual st D f y){N ps td:List Str}{c:SM}(I:bO N ps (au st)=true)(J:bZ T td st N=some c) :
    c_ P w K mg base jO (k+1) f y ps (dX (eT mg) (bL N.length ps.length c)):=by
  obtain⟨oc,od,kV,L,pm,an,n,ct,M,rfl,O,o⟩:=F.ex;have p:=nH I;refine BD O o p (λR H Q E h=>?_) λA outer s H R Q E U h=>?_
  · obtain⟨e,Z,i,l,S,r,g⟩:=h
    rw[r.length];unfold bL at g;split at g
    · rename_i V;exact V
    · exact g.elim
  · obtain⟨e,Z,i,l,S,r,g⟩:=h
    have G:fS (oK jO P w K mg base N qual (au st) f n A outer s H E).vy (eT mg) T k (au st) N:=
      { scope:=rfl,names:=rfl,calm:=rfl,room:=U,eQ:=W.eQ,own:=PassesOwn.never,LH:=λ_ _ _=>.inl rfl,sP:=p.nd,kind:=p.kind,vy:=λ_ _ _ h=>h,fld:=W.fld,cst:=W.cst
        lI:=λx F h=>⟨W.lI x F h⟩,fn:=λx F h=>⟨W.fn x F h⟩,met:=λm C F h=>⟨W.met m C F h⟩,cls:=λC F h=>let ⟨j,X,Y⟩:=W.cls C F h;⟨j,X,⟨Y⟩⟩,clo:=W.clo }
    refine⟨Gn (eT mg) pE e Z H c (aV N.length l) i,(iL (tD G 30 60) J e Z H (aV N.length l) i).vy,e,Z,kW S r,?_⟩;unfold bL at g;split at g
    · cases q:c (aV N.length l) i with
      |rt d a=>rw[q]at g;exact λv t b u gr st r=>g v t b u gr st r
      |nx z a=>rw[q]at g;exact λσ t b u B=>g .non t b u B.gr B.st (aT rfl)
      |bk z a=>rw[q]at g;exact g.elim
      |ct z a=>rw[q]at g;exact g.elim
      |exc x a=>rw[q]at g;exact g
      |bad=>rw[q]at g;exact g.elim
    · exact g.elim
end
end Mir
namespace Mir
open PySem L2
variable [aJ]
abbrev oR(k:Nat):Option D:=some (.ref k)
abbrev oI(i:Int):Option D:=some (.int i)
abbrev oS(x:Str):Option D:=some (.str x)
def bB(Ω:aD)(e:Nat)(kvs:List (Key×D)):Prop:=Ω[e]?=some (.dK kvs)\/Ω[e]?=some (.dF kvs)
abbrev en:=List (Str×List Str)
noncomputable def nms(E:en):List Str:=E.map (·.1)
noncomputable def bq(E:en)(n:Str):List Str:=(E.lookup n).getD []
def aE(P:Nat->Prop)(Ω:aD)(kvs:List (Key×D))(E:en):Prop:=aK (λa p=>a.1=.inr p.1/\∃j,a.2=.ref j/\P j/\Ω[j]?=some (.lst (p.2.map .str))) kvs E
section
variable{Ω ao:aD}{ρ:aS}{e q j:Nat}{kvs:List (Key×D)}{E:en}{P P':Nat->Prop}{n:Str}{r:List Str}{fp:List Nat}{ord:List Str}
theorem bB.keep(h:bB Ω e kvs)(K:aj fp Ω ao)(a:e∉fp):bB ao e kvs:=h.imp (λz=>K.get _ _ z a) λz=>K.get _ _ z a
theorem bB.lt(h:bB Ω e kvs):e<Ω.length:=h.elim bH bH
theorem bB.nl(h:bB Ω e kvs):∀ds,Ω[e]?≠some (.lst ds):=λds z=>by rcases h with h|h<;>rw[h]at z<;>cases z
theorem bB.ni(h:bB Ω e kvs):∀C a,Ω[e]?≠some (.ins C a):=λC a z=>by rcases h with h|h<;>rw[h]at z<;>cases z
theorem tT(h:bB Ω e kvs){m:Nat}:eH Ω (m+1) (.ref e)=none:=by rcases h with h|h<;>simp only[eH,h]
theorem tU(h:bB Ω e kvs):dJ Ω (.ref e)=none:=by rcases h with h|h<;>simp only[dJ,h]
theorem xY(h:bB Ω e kvs):rb Ω (.ref e) (.str n)=some (bK kvs (.inr n)):=by rcases h with h|h<;>simp only[rb,h,nK,Option.map_some]
theorem DL(h:bB Ω e kvs):aw .In (.str n) (.ref e) Ω=.ok (.bl (bK kvs (.inr n)).isSome) Ω:=by
 rw[oi,gS,iP,tT h]
 show gc .bad _=_
 rw[ll];simp only[gg,xY h];rfl
theorem Hg(h:bB Ω e kvs):aw .NotIn (.str n) (.ref e) Ω=.ok (.bl (!(bK kvs (.inr n)).isSome)) Ω:=by
 rw[lp,gS,iP,tT h]
 show gc .bad _=_
 rw[ll];simp only[gg,xY h];rfl
theorem dS{d:D}(h:bB Ω e kvs)(a:bK kvs (.inr n)=some d):az (.ref e) (.str n) Ω=.ok d Ω:=by
 unfold az;rw[fV,jY,aC,tU h]
 show gc .bad _=_
 rw[ll,fV];simp only[zx,xY h,a];rfl
theorem Hh(h:bB Ω e kvs):aO .len [.ref e] Ω=.ok (.int kvs.length) Ω:=by
 show gc (nT [.ref e] Ω) (gc (rl [.ref e] Ω) _)=_
 have a:nT [.ref e] Ω=.bad:=by simp only[nT,aC,tU h]
 have b:rl [.ref e] Ω=.ok (.int kvs.length) Ω:=by rcases h with h|h<;>simp only[rl,h]
 rw[a,b];rfl
theorem pX(h:bB Ω e kvs):pz Ω (.ref e)=some kvs:=by rcases h with h|h<;>simp only[pz,h]
theorem rL(h:bB Ω e kvs):aO .list [.ref e] Ω=.ok (.ref Ω.length) (Ω++[.lst (kvs.map λa=>jb a.1)]):=by
 show gc (iI [.ref e] Ω) (jv [.ref e] Ω)=_
 have b:iI [.ref e] Ω=.bad:=by simp only[iI,aC,tU h]
 have c:jv [.ref e] Ω=.ok (.ref Ω.length) (Ω++[.lst (kvs.map λa=>jb a.1)]):=by simp only[jv,pX h];rfl
 rw[b,c];rfl
theorem set_same{c:Cell}(h:Ω[e]?=some c):Ω.set e c=Ω:=by
 apply List.ext_getElem?;intro i;rw[List.getElem?_set];split
 .rename_i z;subst z;rw[if_pos (bH h),h]
 .rfl
theorem lC(h:bB Ω e kvs):srcOf Ω (.ref e)=.ok (.keys e) (Ω.set e (.dF kvs)):=by
 unfold srcOf;rw[aC,tU h];rcases h with h|h
 .simp only[h]
 .simp only[h,set_same h]
theorem Hi(h:bB Ω e kvs):s_ Ω (.ref e)=.ok (.items e) (Ω.set e (.dF kvs)):=by
 unfold s_;rcases h with h|h
 .simp only[h]
 .simp only[h,set_same h]
theorem mT(h:bB Ω e kvs):(Ω.set e (.dF kvs))[e]?=some (.dF kvs):=by rcases h with h|h<;>exact aQ h
theorem ig(h:Ω[e]?=some (.dF kvs)):eN (.keys e) Ω=some (kvs.map λa=>jb a.1):=by simp only[eN,h]
theorem aE.imp(h:aE P Ω kvs E)(e:∀j,P j->P' j):aE P' Ω kvs E:=aK.imp (λ_ _ ⟨a,j,b,c,d⟩=>⟨a,j,b,e j c,d⟩) h
theorem aE.keep(h:aE P Ω kvs E)(K:aj fp Ω ao)(e:∀j∈fp,¬ P j):aE P ao kvs E:=aK.imp (λ_ _ ⟨a,j,b,c,d⟩=>⟨a,j,b,c,K.get _ _ d λz=>e j z c⟩) h
theorem aE.c9(h:aE P Ω kvs E)(K:aj fp Ω ao)(e:∀j∈fp,∀ds,Ω[j]?≠some (.lst ds)):aE P ao kvs E:=aK.imp (λ_ _ ⟨a,j,b,c,d⟩=>⟨a,j,b,c,K.get _ _ d λz=>e j z _ d⟩) h
theorem aE.lt(h:aE P Ω kvs E):aE (λj=>P j/\j<Ω.length) Ω kvs E:=aK.imp (λ_ _ ⟨a,j,b,c,d⟩=>⟨a,j,b,⟨c,bH d⟩,d⟩) h
theorem aE.len(h:aE P Ω kvs E):E.length=kvs.length:=aK.length h
theorem aE.keys(h:aE P Ω kvs E):(kvs.map λb=>jb b.1)=(nms E).map .str:=by
 unfold aE at h
 induction h with
 |nil=>rfl
 |cons r _ a=>
  simp only[List.map_cons,nms]at a ⊢;rw[a,r.1];rfl
theorem aE.look(h:aE P Ω kvs E)(n:Str):(∀r,E.lookup n=some r->∃j,bK kvs (.inr n)=oR j/\P j/\Ω[j]?=some (.lst (r.map .str)))/\(E.lookup n=none->bK kvs (.inr n)=none):=by
 unfold aE at h
 induction h with
 |nil=>exact⟨λr h=>by simp at h,λ_=>rfl⟩
 |@cons g p kvs E a _ b=>
  obtain⟨c,j,d,e,f⟩:=a;rw[List.lookup_cons,dk,c]
  by_cases z:n=p.1
  .subst z
   rw[if_pos rfl,d];simp;exact⟨e,f⟩
  .rw[if_neg (λq=>z (by cases q;rfl)),beq_eq_false_iff_ne.mpr z]
   exact b
theorem oo(h:E.lookup n=some r):(n,r)∈E:=by
 induction E with
 |nil=>simp at h
 |cons p E a=>
  rw[List.lookup_cons]at h;split at h
  .rename_i z
   cases h;rw[eq_of_beq z];simp
  .exact List.mem_cons_of_mem _ (a h)
theorem lookup_some(h:n∈nms E):∃r,E.lookup n=some r:=by
 unfold nms at h
 induction E with
 |nil=>simp at h
 |cons p E a=>
  rw[List.lookup_cons];split
  .exact⟨_,rfl⟩
  .rename_i z
   refine a ?_;rw[List.map_cons]at h;rcases List.mem_cons.mp h with q|q
   .rw[q]at z;simp at z
   .exact q
theorem eR(h:n∈nms E):E.lookup n=some (bq E n):=by
 obtain⟨r,a⟩:=lookup_some h;unfold bq;rw[a];rfl
theorem lookup_none(h:n∉nms E):E.lookup n=none:=by
 cases q:E.lookup n with
 |none=>rfl
 |some r=>exact absurd (List.mem_map_of_mem (f:=(·.1)) (oo q)) h
theorem aE.at(h:aE P Ω kvs E)(a:n∈nms E):∃j,bK kvs (.inr n)=oR j/\P j/\Ω[j]?=some (.lst ((bq E n).map .str)):=(h.look n).1 _ (eR a)
theorem aE.is(h:aE P Ω kvs E):(bK kvs (.inr n)).isSome=decide (n∈nms E):=by
 by_cases q:n∈nms E
 .obtain⟨j,a,_⟩:=h.at q
  rw[a,decide_eq_true q];rfl
 .rw[(h.look n).2 (lookup_none q),decide_eq_false q];rfl
theorem xZ{k:Key}(h:bK kvs k=none):(kvs.any λa=>decide (a.1=k))=false:=by rw[ly,h];rfl
theorem aE.put(h:aE P Ω kvs E)(b:n∉nms E)(c:P j)(d:Ω[j]?=some (.lst (r.map .str))):aE P Ω (dN kvs (.inr n) (.ref j)) (E++[(n,r)]):=by
 have:=xZ ((h.look n).2 (lookup_none b));unfold dN;rw[if_neg (by rw[this];simp)]
 exact aK.append (R:=λ(a:Key×D) (p:Str×List Str)=>a.1=.inr p.1/\∃j,a.2=.ref j/\P j/\Ω[j]?=some (.lst (p.2.map .str))) h (.cons ⟨rfl,j,rfl,c,d⟩ .nil)
def oq(E:en)(a:List Str):List Str:=(nms E).filter λn=>!decide (n∈a)&&(bq E n).all λx=>decide (x∈a)
def Mr:EM:=(bo (m2 (aw .In) (aa 0) (aa 1)) true (af .non) (aL (m2 az (aa 1) (aa 0))) 0 [2])
def Hj:EM:=(eL (m2 (aw .NotIn) (aa 0) (aa 2)) (mN (aO .all) (ab Mr ae)))
def Ms:SM:=(ag (aZ (bo (aa 0) false Hj (aL (aa 0)) 0 [0,1])) ai)
theorem tV{a:List Bool}(h:Ω[q]?=some (.lst (a.map .bl))):aO .all [.ref q] Ω=.ok (.bl (a.all id)) Ω:=by
 show lQ .all [.ref q] Ω=_
 unfold lQ;rw[tK];have c:bz (eH Ω 7) (a.map .bl)=some (a.map .bl):=ji (λ_=>Dy) a
 have:bz (eH Ω 8) [.ref q]=some [.lst (a.map .bl)]:=by simp[jV h c]
 rw[this,tJ,xR]
 have d:fm (a.map D.bl)=some a:=by
  clear h c this
  induction a with
  |nil=>rfl
  |cons b a e=>simp[fm,e]
 rw[d];rfl
theorem rM{a:Nat}{xs:List Str}{me:EM}{mi:IM}{cap:List Nat}(c:Ω[a]?=some (.lst (xs.map .str)))(f:mi ρ Ω=.ok (.seq (.ref a)) Ω){p:Str->Bool}(h:∀x∈xs,me ([oS x]++dW cap ρ) Ω=.ok (.bl (p x)) Ω)(i:xs.length<=90000) :
  ∃ao,mN (aO .all) (ab (bo me true (af .non) mi 0 cap) ae) ρ Ω=.ok (.bl (xs.all p)) ao/\aj [] Ω ao:=by
 have e:=cR (ρ:=ρ) (Ω:=Ω) (ao:=Ω) (me:=me) (mc:=af .non) (nc:=true) (mi:=mi) (cap:=cap) (src:=.seq (.ref a)) (ds:=xs.map .str) (p:=λ_=>true) (g:=λd=>match d with|.str x=>.bl (p x)|d=>d) f (by rw[bU,aC,aA c]) (λd _=>rfl) (λd j _=>by
  obtain⟨x,b,rfl⟩:=List.mem_map.mp j;exact h x b) (by simpa using i)
 have k:((xs.map D.str).filter λ_=>true).map (λd=>match d with|.str x=>D.bl (p x)|d=>d)=(xs.map p).map .bl:=by
  rw[List.filter_eq_self.mpr (λ_ _=>rfl),List.map_map,List.map_map]
  rfl
 rw[k]at e;refine⟨Ω++[.lst ((xs.map p).map .bl)],?_,aj.app⟩;rw[cY,a_,e,ak,aX,ak,ak,tV av];simp[List.all_map]
def AV(f:ba):Prop:=∀(c:aD) (e q:Nat) (b:List (Key×D)) (E:en) (d:List Str) (P:Nat->Prop),bB c e b->aE P c b E->c[q]?=some (.lst (d.map .str))->(∀n∈nms E,(bq E n).length<=1000)->E.length<=1000 ->
 ∃z a,f [.ref e,.ref q] c=.ok (.ref z) a/\a[z]?=some (.lst ((oq E d).map .str))/\aj [e] c a/\a[e]?=some (.dF b)/\c.length<=z
theorem Hk:AV (bL 2 2 Ms):=by
 intro h e q c E a P l M N o hl;rw[bt (by rfl)]
 have R:aV 2 [D.ref e,.ref q]=[oR e,oR q]:=rfl;rw[R];have r:q≠e:=λz=>l.nl _ (z▸N)
 have s:aj [e] h (h.set e (.dF c)):=aj.set (by simp)
 have t:=mT l;have u:=M.c9 s (λj m=>by rw[List.mem_singleton.mp m];exact l.nl)
 have y:=s.get _ _ N (by simpa using r)
 have l0:(h.set e (.dF c)).length=h.length:=by simp
 have A:aL (aa 0) [oR e,oR q] h=.ok (.keys e) (h.set e (.dF c)):=by
  rw[bf];exact lC l
 generalize h.set e (.dF c)=B at *
 obtain⟨k,S,C⟩:=AQ (ρ:=[oR e,oR q]) (me:=aa 0) (mc:=Hj) (nc:=false) (cap:=[0,1]) (ds:=(nms E).map .str) (p:=λd=>match d with|.str n=>!decide (n∈a)&&(bq E n).all λx=>decide (x∈a)|_=>false) (g:=λd=>d) (λ_ b=>aj [] B b) A
  (λi b K=>by rw[ig (K.get _ _ t (by simp)),M.keys])
  (λi d b F K=>by
   obtain⟨n,T,rfl⟩:=dG F;have O:n∈nms E:=List.mem_of_getElem? T;have Q:=K.get _ _ y (by simp)
   have U:=K.get _ _ t (by simp)
   have V:=u.keep K (by simp)
   obtain⟨j,X,_,m⟩:=V.at O;have f:=j9 (w:=n) Q;have G:=dS (n:=n) (.inr U) X
   show ∃H,cB (Hj [oS n,oR e,oR q] b)=.ok (!decide (n∈a)&&(bq E n).all λx=>decide (x∈a)) H/\_
   by_cases I:n∈a
   .refine⟨b,?_,K,λ_=>rfl⟩
    rw[decide_eq_true I]at f ⊢;simp[Hj,f,-lp]
   .rw[decide_eq_false I]at f
    obtain⟨J,L,Y⟩:=rM (ρ:=[oS n,oR e,oR q]) (me:=m2 (aw .In) (aa 0) (aa 1)) (mi:=aL (m2 az (aa 1) (aa 0))) (cap:=[2]) (p:=λx=>decide (x∈a)) m (by
     rw[bf]
     show(az (.ref e) (.str n) b).bind _=_
     rw[G,ak];exact aR (by rw[aC,aA m])) (λx _=>by
     show aw .In (.str x) (.ref q) b=_
     exact lr Q) (by have:=o n O;omega)
    refine⟨J,?_,K.trans Y,λ_=>rfl⟩
    have L:mN (aO .all) (ab Mr ae) [oS n,oR e,oR q] b=_:=L;unfold Hj;rw[iO]
    show cB ((aw .NotIn (.str n) (.ref q) b).bind _)=_
    rw[f,ak,bD]
    show cB (mN (aO .all) (ab Mr ae) [oS n,oR e,oR q] b)=_
    rw[L,dj,bD,dy];simp[I]) (by simp[nms];omega) aj.refl
 refine⟨k.length,k++[.lst ((oq E a).map .str)],?_,av,?_,dA (C.get _ _ t (by simp)),by have:=C.len;omega⟩
 .unfold Ms
  rw[ah,cZ,S]
  have Z:(((nms E).map D.str).filter (λd=>match d with|.str n=>!decide (n∈a)&&(bq E n).all λx=>decide (x∈a)|_=>false)).map (λd=>d)=(oq E a).map .str:=by
   unfold oq;rw[List.map_id',List.filter_map];rfl
  rw[Z];rfl
 .exact(s.trans (fB.up C)).trans aj.app
end
theorem ot{xs:List Str}:∀{o:List Str},o.Nodup->(∀x∈o,x∈xs)->o.length<=xs.length:=by
 intro o g c
 induction o generalizing xs with
 |nil=>simp
 |cons a o h=>
  have d:=c a (by simp)
  have e:=List.nodup_cons.mp g
  have:=h (xs:=xs.erase a) e.2 (λx f=>by
   have b:x≠a:=λz=>e.1 (by rw[←z];exact f)
   exact(List.mem_erase_of_ne b).mpr (c x (by simp[f])))
  rw[List.length_erase_of_mem d]at this;have i:0<xs.length:=List.length_pos_of_mem d;simp only[List.length_cons];omega
structure Ef(E:en)(ord:List Str):Prop where
 nd:ord.Nodup
 sub:∀n∈ord,n∈nms E
 pre:∀(i:Nat) (n:Str),ord[i]?=some n->∀x∈bq E n,x∈ord.take i
structure Acy(E:en):Prop where
 nd:(nms E).Nodup
 el:∀n∈nms E,∀x∈bq E n,x∈nms E
 rk:∃rk:Str->Nat,∀n∈nms E,∀x∈bq E n,rk x<rk n
section
variable{Ω ao:aD}{ρ:aS}{e q j:Nat}{kvs:List (Key×D)}{E:en}{P P':Nat->Prop}{n:Str}{r:List Str}{fp:List Nat}{ord:List Str}
theorem kc:n∈oq E ord↔n∈nms E/\n∉ord/\∀x∈bq E n,x∈ord:=by
 unfold oq;simp[List.mem_filter]
theorem Ef.step(h:Ef E ord)(f:(nms E).Nodup):Ef E (ord++oq E ord) where
 nd:=List.nodup_append.mpr ⟨h.nd,f.filter _,λa g b j z=>(kc.mp j).2.1 (z▸g)⟩
 sub:=λn k=>(List.mem_append.mp k).elim (h.sub n) λz=>(kc.mp z).1
 pre:=λi n c x d=>by
  by_cases e:i<ord.length
  .rw[List.getElem?_append_left e]at c
   rw[List.take_append_of_le_length (Nat.le_of_lt e)];exact h.pre i n c x d
  .rw[List.getElem?_append_right (by omega)]at c
   have:=(kc.mp (List.mem_of_getElem? c)).2.2 x d;rw[List.take_append,List.take_of_length_le (by omega)]
   exact List.mem_append_left _ this
theorem DM(A:Acy E)(hz:oq E ord=[]):∀n∈nms E,n∈ord:=by
 obtain⟨d,e⟩:=A.rk
 have b:∀(k:Nat) n,d n<k->n∈nms E->n∈ord:=by
  intro k
  induction k with
  |zero=>intro n h;omega
  |succ k f=>
   intro n g a
   by_cases q:n∈ord
   .exact q
   .have:n∈oq E ord:=kc.mpr ⟨a,q,λx c=>f x (by have:=e n a x c;omega) (A.el n a x c)⟩
    rw[hz]at this;simp at this
 exact λn a=>b _ n (Nat.lt_succ_self _) a
theorem rN{k a:Nat}{xs ys:List Str}(h:Ω[k]?=some (.lst (xs.map .str)))(b:Ω[a]?=some (.lst (ys.map .str)))(c:xs.length+ys.length<=10000):fP (.ref k) [.ref a] Ω=.ok .non (Ω.set k (.lst ((xs++ys).map .str))):=by
 simp only[fP,gT h,gT b];rw[if_pos (aN (by simp;omega)),List.map_append]
def DN(a:ba):SM:=(ag (bC (bQ eo fP (aa 1) (ab (aa 2) ae)))
 (ag (ax 2 (mN (aG a) (ab (aa 0) (ab (aa 1) ae))))
 ai))
def Mt(a:ba):SM:=
 (ag (ax 1 (mN bj ae))
 (ag (ax 2 (mN (aG a) (ab (aa 0) (ab (aa 1) ae))))
 (ag (jd (aa 2)
 (DN a))
 (ag (aZ (aa 1))
 ai))))
structure Gd(E:en):Prop extends Acy E where
 few:E.length<=100
 short:∀n∈nms E,(bq E n).length<=100
theorem x8{s:ba}(Y:AV s)(G:Gd E) :
  ∀(m:Nat) (Ω:aD) (d:List Str) (q z:Nat),Ω[e]?=some (.dF kvs)->aE P Ω kvs E->Ef E d->Ω[q]?=some (.lst (d.map .str))->Ω[z]?=some (.lst ((oq E d).map .str))->q≠z->¬ P q->E.length - d.length<m ->
   ∃f a2 ao,eO (aa 2) (DN s) m [oR e,oR q,oR z] Ω=.nx [oR e,oR q,a2] ao/\ao[q]?=some (.lst (f.map .str))/\Ef E f/\(∀n∈nms E,n∈f)/\aj [q] Ω ao:=by
 intro m
 induction m with
 |zero=>intro Ω d q z _ _ _ _ _ _ _ h;omega
 |succ m Z=>
  intro Ω d q z S hr F t T a0 U hm;have u:=iR T
  have b0:d.length<=E.length:=by
   have:=ot F.nd F.sub;simpa[nms]using this
  by_cases C:oq E d=[]
  .refine⟨d,oR z,Ω,?_,t,F,DM G.toAcy C,aj.refl⟩
   have H:aa 2 [oR e,oR q,oR z] Ω=.ok (.ref z) Ω:=rfl;rw[C]at u;simp only[eO,H,dj,u];rfl
  .have H:aa 2 [oR e,oR q,oR z] Ω=.ok (.ref z) Ω:=rfl
   have u:gf Ω (.ref z)=some true:=by
    rw[u];cases hc:oq E d with
    |nil=>exact absurd hc C
    |cons a b=>rfl
   have I:=F.step G.nd
   have i:(d++oq E d).length<=E.length:=by
    have:=ot I.nd I.sub;simpa[nms]using this
   have c0:=G.few;have hx:=rN t T (by rw[List.length_append]at i;omega)
   have hL:=c8 t;have J:aj [q] Ω (Ω.set q (.lst ((d++oq E d).map .str))):=aj.set (by simp)
   have l:=aQ (e:=.lst ((d++oq E d).map .str)) t;have w:q≠e:=λz=>by rw[z,S]at t;cases t
   have o:=J.get _ _ S (by simpa using Ne.symm w)
   have y:=hr.keep J (λj K=>by rw[List.mem_singleton.mp K];exact U)
   generalize Ω.set q (.lst ((d++oq E d).map .str))=A at *;obtain⟨V,p,e2,L,D,B,lz⟩:=Y A e q kvs E (d++oq E d) P (.inr o) y l (λn X=>by have:=G.short n X;omega) (by omega)
   have M:aj [q] A p:=⟨D.len,λk c N X=>by
    by_cases h:k=e
    .subst h;rw[o]at N;cases N;exact B
    .exact D.get k c N (by simpa using h)⟩
   have O:=y.c9 D (λj K ds=>by rw[List.mem_singleton.mp K,o];simp)
   have Q:=D.get _ _ l (by simpa using w)
   have lq:=bH l
   obtain⟨f,a2,R,e3,h3,F3,h4,K3⟩:=Z p (d++oq E d) q V B O I Q L (by omega) U (by
    have:0<(oq E d).length:=List.length_pos_iff.mpr C;rw[List.length_append]at i ⊢;omega)
   refine⟨f,a2,R,?_,h3,F3,h4,(J.trans M).trans K3⟩
   have r1:DN s [oR e,oR q,oR z] Ω=.nx [oR e,oR q,oR V] p:=by
    unfold DN;rw[ah,bT,dE (x:=.ref q) (ao:=Ω) (by rfl) hL]
    have:(ab (aa 2) ae:AM) [oR e,oR q,oR z] Ω=.ok [.ref z] Ω:=rfl;rw[this,ak,hx,b9,aB];simp[e2]
   simp only[eO,H,dj,u,dy]
   show(match DN s [oR e,oR q,oR z] Ω with|.nx g ao=>eO (aa 2) (DN s) m g ao|.ct g ao=>eO (aa 2) (DN s) m g ao|.bk g ao=>.nx g ao|r=>r)=_
   rw[r1];exact e3
def AW(f:ba):Prop:=∀(d:aD) (e:Nat) (b:List (Key×D)) (E:en) (P:Nat->Prop),bB d e b->aE P d b E->Gd E ->
 ∃c z a,f [.ref e] d=.ok (.ref z) a/\a[z]?=some (.lst (c.map .str))/\Ef E c/\(∀n∈nms E,n∈c)/\aj [e] d a/\a[e]?=some (.dF b)/\d.length<=z
theorem Hl{p:ba}(A:AV p):AW (bL 3 1 (Mt p)):=by
 intro a e q E P B I G;rw[bt (by rfl)]
 have J:aV 3 [D.ref e]=[oR e,none,none]:=rfl;rw[J];have C:(a++[Cell.lst []])[a.length]?=some (.lst (([]:List Str).map .str)):=av;have m:aj [] a (a++[Cell.lst []]):=aj.app;have K:(ax 1 (mN bj ae)) [oR e,none,none] a=.nx [oR e,oR a.length,none] (a++[Cell.lst []]):=by simp[aN]
 have b:=B.keep m (by simp)
 have d:=(I.lt.keep m (by simp))
 have U:=B.lt;have V:(a++[Cell.lst []]).length=a.length+1:=by simp
 generalize a++[Cell.lst []]=f at *;have L:=G.few;obtain⟨z,g,M,r,o,l,X⟩:=A f e a.length q E [] _ b d C (λn s=>by have:=G.short n s;omega) (by omega)
 have t:=o.get _ _ C (by simp;omega)
 have u:=d.c9 o (λj N O=>by rw[List.mem_singleton.mp N];exact b.nl O)
 obtain⟨w,Y,x,Q,R,F,S,y⟩:=x8 A G fuel g [] a.length z l u ⟨List.nodup_nil,by simp,λi n h=>by simp at h⟩ t r (by omega) (λh=>by omega) (by unfold fuel;omega)
 refine⟨w,a.length,x,?_,R,F,S,?_,y.get _ _ l (by simp;omega),Nat.le_refl _⟩
 .unfold Mt
  rw[ah,K,aB,ah];have T:(ax 2 (mN (aG p) (ab (aa 0) (ab (aa 1) ae)))) [oR e,oR a.length,none] f=.nx [oR e,oR a.length,oR z] g:=by simp[M]
  rw[T,aB,ah];unfold jd;rw[Q];rfl
 .refine⟨by have:=m.len;have:=o.len;have:=y.len;omega,λk c H s=>y.get k c (o.get k c (m.get k c H (by simp)) s) ?_⟩
  have:=bH H;simp;omega
def Mu:EM:=(bo (aa 0) false (m2 (aw .NotIn) (aa 0) (aa 1)) (aL (aa 0)) 0 [1])
def Mv(a:ba)(rest:SM):SM:=
 (ag (ax 1 (mN (aG a) (ab (aa 0) ae)))
 (ag (ax 3 Mu)
 (ag (dc (dr (aa 3))
 (ag (aZ (af .non))
 ai)
 ai)
 rest)))
def DO(d:ba):Prop:=∀(c:aD) (e:Nat) (a:List (Key×D)) (E:en) (P:Nat->Prop),bB c e a->aE P c a E->Gd E ->
 ∃b,d [.ref e] c=.ok .non b/\aj [e] c b/\b[e]?=some (.dF a)
theorem Hm{f:ba}(q:AW f){rest:SM}:DO (bL 5 1 (Mv f rest)):=by
 intro Ω e i E P k m G;rw[bt (by rfl)]
 have r:aV 5 [D.ref e]=[oR e,none,none,none,none]:=rfl;rw[r];obtain⟨s,z,a,t,u,F,c,w,b,I⟩:=q Ω e i E P k m G;have x:=G.few
 have l:aL (aa 0) [oR e,oR z,none,none,none] a=.ok (.keys e) a:=by
  rw[bf]
  show srcOf a (.ref e)=_
  rw[lC (.inr b),set_same b]
 have o:=cR (ρ:=[oR e,oR z,none,none,none]) (Ω:=a) (ao:=a) (me:=aa 0) (mc:=m2 (aw .NotIn) (aa 0) (aa 1)) (nc:=false) (mi:=aL (aa 0)) (cap:=[1]) (src:=.keys e) (ds:=(nms E).map .str) (p:=λ_=>false) (g:=λd=>d) l (by rw[ig b,m.keys]) (λd k=>by
  obtain⟨n,y,rfl⟩:=List.mem_map.mp k
  show cB (aw .NotIn (.str n) (.ref z) a)=_
  rw[j9 u,decide_eq_true (c n y)];rfl) (λd _ h=>by cases h) (by simp[nms];omega)
 have A:Mu [oR e,oR z,none,none,none] a=.ok (.ref a.length) (a++[.lst []]):=by
  have:(((nms E).map D.str).filter (λ_=>false)).map (λd:D=>d)=[]:=by simp
  rw[this]at o;exact o
 refine⟨a++[.lst []],?_,w.trans aj.app,dA b⟩;have B:=iR (Ω:=a++[Cell.lst []]) (j:=a.length) (ds:=[]) av;unfold Mv;have C:(ax 1 (mN (aG f) (ab (aa 0) ae))) [oR e,none,none,none,none] Ω=.nx [oR e,oR z,none,none,none] a:=by simp[t]
 have H:(ax 3 Mu) [oR e,oR z,none,none,none] a=.nx [oR e,oR z,none,oR a.length,none] (a++[.lst []]):=by rw[bu,A];rfl
 rw[ah,C,aB,ah,H,aB,ah];simp[B]
end
noncomputable def cp(ns:List Str)(L:Str->List Str):en:=ns.map λn=>(n,L n)
def Hn(E:en)(L:Str->List Str):Prop:=∀n∈nms E,∃o,Mg ((bq E n).map L++[bq E n]) o/\L n=n::o
section
variable{Ω ao:aD}{ρ:aS}{e q j:Nat}{kvs:List (Key×D)}{E:en}{P P':Nat->Prop}{n:Str}{r:List Str}{fp:List Nat}{ord:List Str}{L:Str->List Str}
theorem bI{ns:List Str}:nms (cp ns L)=ns:=by
 unfold nms cp;rw[List.map_map];exact(List.map_congr_left λx _=>rfl).trans (List.map_id _)
theorem cN{ns:List Str}(h:n∈ns):bq (cp ns L) n=L n:=by
 unfold bq cp
 induction ns with
 |nil=>simp at h
 |cons a ns b=>
  rw[List.map_cons,List.lookup_cons]
  by_cases z:n=a
  .subst z;simp
  .rw[beq_eq_false_iff_ne.mpr z]
   refine b ?_;rcases List.mem_cons.mp h with q|q
   .exact absurd q z
   .exact q
theorem iS{a b:Nat}{xs ys:List D}(h:Ω[a]?=some (.lst xs))(c:Ω[b]?=some (.lst ys))(d:xs.length+ys.length<=10000):aP .Add (.ref a) (.ref b) Ω=.ok (.ref Ω.length) (Ω++[.lst (xs++ys)]):=by
 rw[xS,AE,aA h,aA c,AD,if_pos (aN (by omega))]
 rfl
def Qq:EM:=(bo (mN (aO .list) (ab (m2 az (aa 1) (aa 0)) ae)) true (af .non) (aL (aa 1)) 0 [0])
def Mw:EM:=(mN bj (ab (mN (aO .list) (ab (aa 1) ae)) ae))
def Mx:SM:=(ag (aZ (m2 (aP .Add) Qq Mw)) ai)
def x9(h:ba):Prop:=∀(c:aD) (l a:Nat) (e:List (Key×D)) (f:en) (P:Nat->Prop) (b:List Str),bB c l e->aE P c e f->c[a]?=some (.lst (b.map .str))->(∀x∈b,x∈nms f)->b.length<=100 ->
 ∃g k d,h [.ref l,.ref a] c=.ok (.ref k) d/\Rw d k g (b.map (bq f)++[b])/\aj [] c d/\c.length<=k/\(∀j∈g,c.length<=j)/\k∉g
theorem Ho:x9 (bL 2 2 Mx):=by
 intro Ω l a J q P e L M r N hl;rw[bt (by rfl)]
 have O:aV 2 [D.ref l,.ref a]=[oR l,oR a]:=rfl;rw[O]
 have s:aL (aa 1) [oR l,oR a] Ω=.ok (.seq (.ref a)) Ω:=by
  rw[bf];exact aR (by rw[aC,aA r])
 obtain⟨ys,f,Q,g,rfl,p,G,t⟩:=j_ (ρ:=[oR l,oR a]) (me:=mN (aO .list) (ab (m2 az (aa 1) (aa 0)) ae)) (mc:=af .non) (cap:=[0]) (ds:=e.map .str) (λi k b=>∃g,k=g.map .ref/\iW b g ((e.take i).map (bq q))/\aj [] Ω b/\∀j∈g,Ω.length<=j) s ⟨[],rfl,.nil,aj.refl,by simp⟩
  (λi k b h=>by
   obtain⟨_,_,_,K,_⟩:=h;rw[bU,aC,aA (K.get _ _ r (by simp))])
  (λi d k b u h=>by
   obtain⟨g,rfl,p,K,t⟩:=h;obtain⟨x,H,rfl⟩:=dG u;have w:=L.keep K (by simp)
   obtain⟨j,R,_,S⟩:=(M.keep K (by simp)).at (N x (List.mem_of_getElem? H))
   have z:=dS (n:=x) w R;have m:=cT S;refine⟨.ref b.length,b++[.lst ((bq q x).map .str)],?_,g++[b.length],by simp,?_,K.trans aj.app,?_⟩
   .show((az (.ref l) (.str x) b).bind _).bind _=_
    rw[z,ak]
    show aO .list [.ref j] b=_
    exact m
   .rw[List.take_succ,H,List.map_append]
    exact(p.keep (fp:=[]) aj.app (by simp)).snoc av
   .intro y A
    rcases List.mem_append.mp A with h|h
    .exact t y h
    .rw[List.mem_singleton.mp h];exact K.len) (by simp;omega)
 rw[List.length_map,List.take_length]at p;have B:Qq [oR l,oR a] Ω=.ok (.ref f.length) (f++[.lst (g.map .ref)]):=Q;have T:(f++[Cell.lst (g.map .ref)])[f.length]?=some (.lst (g.map .ref)):=av;have I:aj [] Ω (f++[Cell.lst (g.map .ref)]):=G.trans aj.app;have C:iW (f++[Cell.lst (g.map .ref)]) g (e.map (bq q)):=p.keep (fp:=[]) aj.app (by simp)
 have l2:(f++[Cell.lst (g.map .ref)]).length=f.length+1:=by simp
 have U:=p.lt;have kl:=G.len;have V:=p.len;generalize f++[Cell.lst (g.map .ref)]=b at *;have m:=cT (I.get _ _ r (by simp))
 have X:Mw [oR l,oR a] b=.ok (.ref (b.length+1)) ((b++[.lst (e.map .str)])++[.lst [.ref b.length]]):=by
  unfold Mw
  have:(mN (aO .list) (ab (aa 1) ae)) [oR l,oR a] b=.ok (.ref b.length) (b++[.lst (e.map .str)]):=by
   show aO .list [.ref a] b=_
   exact m
  rw[cY,a_,this,ak,aX,ak,ak,dz,if_pos (aN (by simp))]
  simp
 have E:aj [] b ((b++[Cell.lst (e.map .str)])++[Cell.lst [.ref b.length]]):=aj.app.trans aj.app
 have Y:((b++[Cell.lst (e.map .str)])++[Cell.lst [.ref b.length]])[b.length+1]?=some (.lst [.ref b.length]):=by
  have:=av (Ω:=b++[Cell.lst (e.map .str)]) (c:=.lst [.ref b.length]) (l:=[]);simpa using this
 have Z:((b++[Cell.lst (e.map .str)])++[Cell.lst [.ref b.length]])[b.length]?=some (.lst (e.map .str)):=dA av;have l3:((b++[Cell.lst (e.map .str)])++[Cell.lst [.ref b.length]]).length=b.length+2:=by simp
 generalize (b++[Cell.lst (e.map .str)])++[Cell.lst [.ref b.length]]=o at *;have g3:=E.get _ _ T (by simp)
 have F:=C.keep E (by simp)
 have hc:=iS g3 Y (by simp at V ⊢;omega)
 refine⟨g++[b.length],o.length,o++[.lst (g.map .ref++[.ref b.length])],?_,⟨?_,?_⟩,(I.trans E).trans aj.app,by omega,?_,?_⟩
 .unfold Mx
  rw[ah,cZ,cX,B,ak,X,ak,hc];rfl
 .have:=av (Ω:=o) (c:=.lst (g.map .ref++[.ref b.length])) (l:=[])
  simpa using this
 .exact(F.snoc Z).keep (fp:=[]) aj.app (by simp)
 .intro y A
  rcases List.mem_append.mp A with h|h
  .exact t y h
  .rw[List.mem_singleton.mp h];omega
 .intro h
  rcases List.mem_append.mp h with h|h
  .have:=U _ h;omega
  .have:=List.mem_singleton.mp h;omega
theorem AX{kvs:List (Key×D)}{k:Key}{v:D}(h:k∉kvs.map (·.1)):dN kvs k v=kvs++[(k,v)]:=by
 unfold dN;rw[if_neg];intro z;obtain⟨a,b,c⟩:=List.any_eq_true.mp z;exact h (List.mem_map.mpr ⟨a,b,of_decide_eq_true c⟩)
theorem jj:∀(ps b:List (Key×D)),((b++ps).map (·.1)).Nodup->ps.foldl (λa p=>dN a p.1 p.2) b=b++ps
 |[],b,_=>by simp
 |p::ps,b,h=>by
  have h1:p.1∉b.map (·.1):=by
   rw[List.map_append,List.map_cons]at h;have:=(List.nodup_append.mp h).2.2;exact λz=>this _ z _ (by simp) rfl
  rw[List.foldl_cons,AX h1,jj ps _ (by simpa using h)]
  simp
theorem x_{ns:List Str}{f:Str->D}(h:∀n∈ns,∃j,f n=.ref j/\P j/\Ω[j]?=some (.lst ((L n).map .str))):aE P Ω (ns.map λn=>(.inr n,f n)) (cp ns L):=by
 unfold aE cp
 induction ns with
 |nil=>exact .nil
 |cons a ns b=>exact .cons ⟨rfl,h a (by simp)⟩ (b λn c=>h n (by simp[c]))
theorem rO{me:EM}{mi:IM}{cap:List Nat}{src:Src}{ns:List Str}{f:Str->D}(m:mi ρ Ω=.ok src Ω)(o:eN src Ω=some (ns.map .str))(r:∀n∈ns,me ([oS n]++dW cap ρ) Ω=.ok (.tup [.str n,f n]) Ω)(A:ns.length<=1000)(s:ns.Nodup) :
  ∃q ao,mN kQ (ab (bo me true (af .non) mi 0 cap) ae) ρ Ω=.ok (.ref q) ao/\ao[q]?=some (.dK (ns.map λn=>(.inr n,f n)))/\aj [] Ω ao/\Ω.length<=q:=by
 have e:=cR (ρ:=ρ) (Ω:=Ω) (ao:=Ω) (me:=me) (mc:=af .non) (nc:=true) (mi:=mi) (cap:=cap) (src:=src) (ds:=ns.map .str) (p:=λ_=>true) (g:=λd=>match d with|.str n=>.tup [.str n,f n]|d=>d) m o (λd _=>rfl) (λd t _=>by
  obtain⟨x,i,rfl⟩:=List.mem_map.mp t;exact r x i) (by simp;omega)
 have u:((ns.map D.str).filter λ_=>true).map (λd=>match d with|.str n=>D.tup [.str n,f n]|d=>d)=ns.map λn=>.tup [.str n,f n]:=by
  rw[List.filter_eq_self.mpr (λ_ _=>rfl),List.map_map]
  rfl
 rw[u]at e;have w:(Ω++[Cell.lst (ns.map λn=>.tup [.str n,f n])])[Ω.length]?=some (.lst (ns.map λn=>.tup [.str n,f n])):=av
 have k:aj [] Ω (Ω++[Cell.lst (ns.map λn=>.tup [.str n,f n])]):=aj.app
 generalize Ω++[Cell.lst (ns.map λn=>.tup [.str n,f n])]=c at *
 have y:bz kP (ns.map λn=>D.tup [.str n,f n])=some (ns.map λn=>(.inr n,f n)):=ji (f:=kP) (g:=λn=>D.tup [.str n,f n]) (h:=λn=>(.inr n,f n)) (λn=>rfl) ns
 have l:=jj (ns.map λn=>((.inr n:Key),f n)) [] (by
  rw[List.nil_append,List.map_map];have:(ns.map ((λp:Key×D=>p.1) ∘ λn=>((.inr n:Key),f n)))=ns.map Sum.inr:=rfl
  rw[this];exact List.Pairwise.map _ (λa b j z=>j (by cases z;rfl)) s)
 rw[List.nil_append]at l;refine⟨c.length,c++[.dK (ns.map λn=>(.inr n,f n))],?_,av,k.trans aj.app,k.len⟩
 rw[cY,a_,e,ak,aX,ak,ak]
 show gc (jw [.ref Ω.length] c) _=_
 simp only[jw,aA w,y,l];rfl
def Qr:EM:=(mN (aO .all) (ab (bo (m2 (aw .In) (aa 0) (aa 1)) true (af .non) (aL (m2 az (aa 0) (aa 4))) 0 [2]) ae))
def Ky(a b:ba):EM:=(m2 (aP .Add) (mN bj (ab (aa 4) ae)) (mN (aG a) (ab (mN (aG b) (ab (aa 2) (ab (m2 az (aa 0) (aa 4)) ae))) ae)))
def Kz(a b:ba):SM:=(ag (dc Qr
 (ag (ag (dO (aa 2) (aa 4) (Ky a b))
 ai)
 ai)
 ai)
 ai)
def KA:SM:=(ag (dc (m2 (aw .In) (aa 4) (aa 3))
 (ag bW
 ai)
 ai)
 ai)
def Qs:EM:=(mN kQ (ab (bo (mN iE (ab (aa 0) (ab (m2 az (aa 1) (aa 0)) ae))) true (af .non) (aL (aa 0)) 0 [2]) ae))
def My(a b c d:ba):SM:=
 (ag (ax 1 (mN (aG a) (ab (aa 0) ae)))
 (ag (dc (m2 (aw .IsNot) (aa 1) (af .non))
 (ag bW
 ai)
 ai)
 (ag (ax 2 bY)
 (ag (ax 3 bY)
 (ag (bX (bp 4) (aL (mN (aG b) (ab (aa 0) ae)))
 (Kz c d))
 (ag (bX (bp 4) (aL (aa 0))
 KA)
 (ag (aZ Qs)
 ai)))))))
theorem rP{k:Nat}{d:D}(h:Ω[k]?=some (.dK kvs))(a:kvs.length<=1000):jx (.ref k) (.str n) d Ω=some (Ω.set k (.dK (dN kvs (.inr n) d))):=by
 simp only[jx,h,nK];rw[if_pos (aN (by omega))]
theorem DP{z A:ba}(hM:AS z)(hB:x9 A){l:Nat}{f:List (Key×D)}{g:List Str}{a1 a3 a5:Option D}{o:List Str}(he:Ω[e]?=some (.dF kvs))(hr:aE P Ω kvs E)(M:Ω[l]?=some (.dK f))(s:aE P' Ω f (cp g L))(hn:n∈nms E)(N:n∉g)
  (h:∀x∈bq E n,x∈g) (O:Mg ((bq E n).map L++[bq E n]) o) (hL:L n=n::o) (B:(bq E n).length<=100) (c0:g.length<=100) (ho:o.length<=900) (Q:∀j,Ω.length<=j->P' j) :
  ∃t ao,Kz z A [oR e,a1,oR l,a3,oS n,a5] Ω=.nx [oR e,a1,oR l,a3,oS n,a5] ao/\ao[l]?=some (.dK t)/\aE P' ao t (cp (g++[n]) L)/\aj [l] Ω ao:=by
 obtain⟨a,hv,_,u⟩:=hr.at hn;have R:=dS (n:=n) (.inr he) hv
 obtain⟨c,K,K1⟩:=rM (ρ:=[oR e,a1,oR l,a3,oS n,a5]) (me:=m2 (aw .In) (aa 0) (aa 1)) (mi:=aL (m2 az (aa 0) (aa 4))) (cap:=[2]) (p:=λx=>true) u (by
  rw[bf]
  show(az (.ref e) (.str n) Ω).bind _=_
  rw[R,ak];exact aR (by rw[aC,aA u])) (λx S=>by
  show aw .In (.str x) (.ref l) Ω=_
  rw[DL (.inl M),s.is,bI,decide_eq_true (h x S)]) (by omega)
 have K:Qr [oR e,a1,oR l,a3,oS n,a5] Ω=.ok (.bl true) c:=by
  have:((bq E n).all λ_=>true)=true:=by simp
  rw[this]at K;exact K
 have g2:(c++[Cell.lst [.str n]])[c.length]?=some (.lst [.str n]):=av;have y:aj [] Ω (c++[Cell.lst [.str n]]):=K1.trans aj.app
 have T:(mN bj (ab (aa 4) ae)) [oR e,a1,oR l,a3,oS n,a5] c=.ok (.ref c.length) (c++[Cell.lst [.str n]]):=by
  show bj [.str n] c=_
  rw[dz,if_pos (aN (by simp))]
 generalize c++[Cell.lst [.str n]]=i at *;have U:=y.get _ _ M (by simp)
 have C:=s.keep y (by simp)
 have V:=y.get _ _ u (by simp)
 have F:=dS (n:=n) (.inr (y.get _ _ he (by simp))) hv
 obtain⟨js,k,X,e3,R3,Y,h3,_,_⟩:=hB i l a f _ _ _ (.inl U) C V (by rw[bI];exact h) B
 have G:(bq E n).map (bq (cp g L))=(bq E n).map L:=List.map_congr_left λx S=>cN (h x S)
 rw[G]at R3;obtain⟨q,b,e4,Z,lq,K4⟩:=hM X k js _ o R3 O (by simp;omega) ho
 have H:=iS (K4.get _ _ (Y.get _ _ g2 (by simp)) (by simp)) Z (by simp;omega)
 have K5:aj [] Ω (b++[Cell.lst ([.str n]++o.map .str)]):=((y.trans Y).trans K4).trans aj.app;have g5:(b++[Cell.lst ([.str n]++o.map .str)])[b.length]?=some (.lst ((L n).map .str)):=by rw[hL];exact av
 have l4:Ω.length<=b.length:=((y.trans Y).trans K4).len
 have e5:Ky z A [oR e,a1,oR l,a3,oS n,a5] c=.ok (.ref b.length) (b++[Cell.lst ([.str n]++o.map .str)]):=by
  unfold Ky;rw[cX,T,ak]
  have:(mN (aG z) (ab (mN (aG A) (ab (aa 2) (ab (m2 az (aa 0) (aa 4)) ae))) ae)) [oR e,a1,oR l,a3,oS n,a5] i=.ok (.ref q) b:=by
   have h1:(ab (aa 2) (ab (m2 az (aa 0) (aa 4)) ae):AM) [oR e,a1,oR l,a3,oS n,a5] i=.ok [.ref l,.ref a] i:=by
    show(((az (.ref e) (.str n) i).bind _).bind _)=_
    rw[F];rfl
   rw[cY,a_,cY,h1,ak,dR,e3,ie,ak,aX,ak,ak,dR,e4,ie]
  rw[this,ak,H]
 generalize b++[Cell.lst ([.str n]++o.map .str)]=m at *;have w:=K5.get _ _ M (by simp)
 have I:=s.keep K5 (by simp)
 have J:=s.len;have a0:f.length<=1000:=by rw[←J];simp[cp];omega
 have b0:=rP (n:=n) (d:=.ref b.length) w a0;have K6:aj [l] m (m.set l (.dK (dN f (.inr n) (.ref b.length)))):=aj.set (by simp)
 refine⟨dN f (.inr n) (.ref b.length),m.set l (.dK (dN f (.inr n) (.ref b.length))),?_,aQ w,?_,(fB.up K5).trans K6⟩
 .unfold Kz
  rw[ah,cx,K,dj,bD,dy,b9,if_pos rfl,ah,ah]
  have:dO (aa 2) (aa 4) (Ky z A) [oR e,a1,oR l,a3,oS n,a5] c=.nx [oR e,a1,oR l,a3,oS n,a5] (m.set l (.dK (dN f (.inr n) (.ref b.length)))):=by
   unfold dO;rw[e5]
   show(match jx (.ref l) (.str n) (.ref b.length) m with|some ao=>eS.nx _ ao|none=>.bad)=_
   rw[b0]
  rw[this];rfl
 .have:=I.put (n:=n) (r:=L n) (by rw[bI];exact N) (Q _ l4) g5
  have h6:=this.c9 K6 (λj hj ds=>by rw[List.mem_singleton.mp hj,w];simp)
  have:cp g L++[(n,L n)]=cp (g++[n]) L:=by simp[cp]
  rw[this]at h6;exact h6
def ya(f:ba):Prop:=∀(c:aD) (e:Nat) (b:List (Key×D)) (E:en) (P:Nat->Prop) (L:Str->List Str),bB c e b->aE P c b E->Gd E->Hn E L->(∀n∈nms E,(L n).length<=900) ->
 ∃l d a,f [.ref e] c=.ok (.ref l) a/\a[l]?=some (.dK d)/\aE (λj=>c.length<=j) a d (cp (nms E) L)/\aj [e] c a/\a[e]?=some (.dF b)/\c.length<=l
theorem Hq{LO EF MG RB:ba}(hO:DO LO)(hE:AW EF)(hM:AS MG)(hB:x9 RB):ya (bL 6 1 (My LO EF MG RB)):=by
 intro Ω e Z E P L hd hr G hL q0;rw[bt (by rfl)]
 have e0:aV 6 [D.ref e]=[oR e,none,none,none,none,none]:=rfl;rw[e0];have M0:=G.few;have r0:(nms E).length=E.length:=by simp[nms]
 obtain⟨a,e1,K1,s0⟩:=hO Ω e Z E P hd hr G;have t0:=hr.c9 K1 (λj J ds=>by rw[List.mem_singleton.mp J];exact hd.nl ds)
 have le:=hd.lt;have K2:aj [] a (a++[Cell.dK []]):=aj.app;have g2:(a++[Cell.dK []])[a.length]?=some (.dK []):=av;have l2:(a++[Cell.dK []]).length=a.length+1:=by simp
 have r2:ax 2 bY [oR e,some .non,none,none,none,none] a=.nx [oR e,some .non,oR a.length,none,none,none] (a++[Cell.dK []]):=rfl;generalize a++[Cell.dK []]=g at *;have K3:aj [] g (g++[Cell.dK []]):=aj.app;have g3:(g++[Cell.dK []])[g.length]?=some (.dK []):=av;have l3:(g++[Cell.dK []]).length=g.length+1:=by simp
 have r3:ax 3 bY [oR e,some .non,oR a.length,none,none,none] g=.nx [oR e,some .non,oR a.length,oR g.length,none,none] (g++[Cell.dK []]):=rfl;generalize g++[Cell.dK []]=C at *;have y:=K2.trans K3;have M:=y.get _ _ s0 (by simp)
 have a0:=t0.keep y (by simp)
 have u0:=K3.get _ _ g2 (by simp)
 obtain⟨u,z,m,e4,b0,F,I,X,N,lz⟩:=hE C e Z E P (.inr M) a0 G;have O:a.length≠e:=by have:=K1.len;omega
 have c0:g.length≠e:=by have:=K1.len;omega
 have f0:=X.get _ _ u0 (by simpa using O)
 have v0:=X.get _ _ g3 (by simpa using c0)
 have w0:=a0.c9 X (λj J ds=>by rw[List.mem_singleton.mp J,M];simp)
 have N0:u.length<=E.length:=by
  have:=ot F.nd F.sub;omega
 have K0:=X.len;have L0:=K1.len
 have x0:aj [] C m:=⟨X.len,λk c Y _=>by
  by_cases h:k=e
  .subst h;rw[M]at Y;cases Y;exact N
  .exact X.get k c Y (by simpa using h)⟩
 have g0:aL (mN (aG EF) (ab (aa 0) ae)) [oR e,some .non,oR a.length,oR g.length,none,none] C=.ok (.seq (.ref z)) m:=by
  rw[bf];have:(mN (aG EF) (ab (aa 0) ae)) [oR e,some .non,oR a.length,oR g.length,none,none] C=.ok (.ref z) m:=by simp[e4]
  rw[this,ak];exact aR (by rw[aC,aA b0])
 have h0:∃l w b,eP (bp 4) (.seq (.ref z)) (Kz MG RB) fuel 0 [oR e,some .non,oR a.length,oR g.length,none,none] m=.nx [oR e,some .non,oR a.length,oR g.length,w,none] b/\b[a.length]?=some (.dK l)/\aE (λj=>m.length<=j) b l (cp u L)/\aj [a.length] m b:=by
  have y0:∀A,aj [a.length] m A->A[z]?=some (.lst (u.map .str)):=λA K=>K.get _ _ b0 (by simp;omega)
  refine bF (R:=λr=>∃l w b,r=.nx [oR e,some .non,oR a.length,oR g.length,w,none] b/\b[a.length]?=some (.dK l)/\aE (λj=>m.length<=j) b l (cp u L)/\aj [a.length] m b) (ds:=u.map .str)
   (λi ρ b=>∃l w,ρ=[oR e,some .non,oR a.length,oR g.length,w,none]/\b[a.length]?=some (.dK l)/\aE (λj=>m.length<=j) b l (cp (u.take i) L)/\aj [a.length] m b) ?_ ?_ ?_ fuel 0 _ _ (by unfold fuel;simp;omega) (Nat.zero_le _) ⟨[],none,rfl,f0,.nil,aj.refl⟩
  .rintro i ρ b ⟨_,_,_,_,_,K⟩
   rw[bU,aC,aA (y0 _ K)]
  .rintro i d ρ b Q ⟨l,w,rfl,B,S,K⟩
   obtain⟨n,x,rfl⟩:=dG Q;refine⟨[oR e,some .non,oR a.length,oR g.length,oS n,none],rfl,?_⟩;have H:=F.sub n (List.mem_of_getElem? x);obtain⟨o,z0,i0⟩:=hL n H;have ho:o.length<=900:=by have:=q0 n H;rw[i0]at this;simp at this;omega
   have s:=K.get _ _ N (by simpa using Ne.symm O)
   have T:=w0.c9 K (λj J ds=>by rw[List.mem_singleton.mp J,f0];simp)
   have A0:n∉u.take i:=by
    intro hm;obtain⟨i',U⟩:=List.mem_iff_getElem?.mp hm;have B0:=(List.getElem?_eq_some_iff.mp U).1;rw[List.length_take]at B0;rw[List.getElem?_take_of_lt (by omega)]at U
    have:=(List.getElem?_inj (by omega) F.nd).mp (U.trans x.symm)
    omega
   obtain⟨j0,t,e6,h6,h7,K6⟩:=DP (P':=λj=>m.length<=j) hM hB (n:=n) (a1:=some .non) (a3:=oR g.length) (a5:=none) s T B S H A0 (F.pre i n x) z0 i0 (G.short n H) (by rw[List.length_take];omega) ho (λj J=>Nat.le_trans K.len J)
   rw[e6];refine⟨j0,oS n,rfl,h6,?_,K.trans K6⟩;rw[List.take_succ,x];exact h7
  .rintro ρ b ⟨l,w,rfl,B,S,K⟩
   rw[List.length_map,List.take_length]at S;exact⟨l,w,b,rfl,B,S,K⟩
 obtain⟨l,w,b,e5,h5,T,K5⟩:=h0;have s:=K5.get _ _ N (by simpa using Ne.symm O)
 have C0:=K5.get _ _ v0 (by simp;omega)
 have k0:aL (aa 0) [oR e,some .non,oR a.length,oR g.length,w,none] b=.ok (.keys e) b:=by
  rw[bf]
  show srcOf b (.ref e)=_
  rw[lC (.inr s),set_same s]
 have V:∃p,eP (bp 4) (.keys e) KA fuel 0 [oR e,some .non,oR a.length,oR g.length,w,none] b=.nx [oR e,some .non,oR a.length,oR g.length,p,none] b:=by
  refine bF (R:=λr=>∃p,r=.nx [oR e,some .non,oR a.length,oR g.length,p,none] b) (ds:=(nms E).map .str)
   (λi ρ t=>t=b/\∃p,ρ=[oR e,some .non,oR a.length,oR g.length,p,none]) ?_ ?_ ?_ fuel 0 _ _ (by unfold fuel;simp;omega) (Nat.zero_le _) ⟨rfl,w,rfl⟩
  .rintro i ρ t ⟨rfl,_⟩
   rw[ig s,hr.keys]
  .rintro i d ρ t Q ⟨rfl,p,rfl⟩
   obtain⟨n,x,rfl⟩:=dG Q;refine⟨[oR e,some .non,oR a.length,oR g.length,oS n,none],rfl,?_⟩;have D0:=DL (n:=n) (.inl C0)
   have:KA [oR e,some .non,oR a.length,oR g.length,oS n,none] t=.nx [oR e,some .non,oR a.length,oR g.length,oS n,none] t:=by
    unfold KA;rw[ah,cx]
    show sq (cm (cB (aw .In (.str n) (.ref g.length) t)) _) _=_
    rw[D0];rfl
   rw[this];exact⟨rfl,_,rfl⟩
  .rintro ρ t ⟨rfl,p,rfl⟩
   exact⟨p,rfl⟩
 obtain⟨p,e6⟩:=V
 have l0:∀n∈nms E,∃j,(bK l (.inr n)).getD .non=.ref j/\m.length<=j/\b[j]?=some (.lst ((L n).map .str))/\bK l (.inr n)=oR j:=λn x=>by
  obtain⟨j,B,S,h3⟩:=T.at (n:=n) (by rw[bI];exact I n x)
  rw[cN (I n x)]at h3;exact⟨j,by rw[B];rfl,S,h3,B⟩
 have m0:aL (aa 0) [oR e,some .non,oR a.length,oR g.length,p,none] b=.ok (.keys e) b:=by
  rw[bf]
  show srcOf b (.ref e)=_
  rw[lC (.inr s),set_same s]
 obtain⟨q,n0,e7,g7,K7,lq⟩:=rO (ρ:=[oR e,some .non,oR a.length,oR g.length,p,none]) (me:=mN iE (ab (aa 0) (ab (m2 az (aa 1) (aa 0)) ae))) (cap:=[2]) (ns:=nms E) (f:=λn=>(bK l (.inr n)).getD .non) m0 (by rw[ig s,hr.keys]) (λn x=>by
  obtain⟨j,B,_,_,h4⟩:=l0 n x;have G0:=dS (n:=n) (.inl h5) h4
  show(((az (.ref a.length) (.str n) b).bind _).bind _).bind _=_
  rw[G0]
  show iE [.str n,.ref j] b=_
  rw[jZ,if_pos (aN (by simp)),B]) (by omega) G.nd
 have p0:aj [] a b:=⟨by have:=y.len;have:=K5.len;omega,λk c Y _=>K5.get k c (x0.get k c (y.get k c Y (by simp)) (by simp)) (by have:=bH Y;simp;omega)⟩
 refine⟨q,_,n0,?_,g7,?_,K1.trans (fB.up (p0.trans K7)),K7.get _ _ s (by simp),by have:=p0.len;omega⟩
 .unfold My
  have r1:(ax 1 (mN (aG LO) (ab (aa 0) ae))) [oR e,none,none,none,none,none] Ω=.nx [oR e,some .non,none,none,none,none] a:=by simp[e1]
  have I0:(dc (m2 (aw .IsNot) (aa 1) (af .non)) (ag bW ai) ai) [oR e,some .non,none,none,none,none] a=.nx [oR e,some .non,none,none,none,none] a:=by simp
  rw[ah,r1,aB,ah,I0,aB,ah,r2,aB,ah,r3,aB,ah,cv,g0,b9,e5,aB,ah,cv,k0,b9,e6,aB,ah,cZ];have J0:Qs [oR e,some .non,oR a.length,oR g.length,p,none] b=.ok (.ref q) n0:=e7;rw[J0];rfl
 .refine x_ λn x=>?_
  obtain⟨j,B,S,h3,_⟩:=l0 n x;exact⟨j,B,by have:=y.len;omega,K7.get _ _ h3 (by simp)⟩
end
def AY(x:Str):Prop:=1<=x.length/\x.length<=8/\∀c∈x.cps.toList,97<=c/\c<=122
section
variable{Ω ao:aD}{ρ:aS}{e q j h:Nat}{kvs:List (Key×D)}{E:en}{P P':Nat->Prop}{n:Str}{r:List Str}{fp:List Nat}{L:Str->List Str}
theorem DQ:∀c,97<=c->c<=122->sv (bJ c) "abcdefghijklmnopqrstuvwxyz"=true:=by
 have:∀i,i<26->sv (bJ (97+i)) "abcdefghijklmnopqrstuvwxyz"=true:=by decide +kernel
 intro c a b;have:=this (c - 97) (by omega)
 rwa[show 97+(c - 97)=c by omega]at this
def inC:EM:=(bo (m2 (aw .In) (aa 0) (af (.str "abcdefghijklmnopqrstuvwxyz"))) true (af .non) (aL (aa 0)) 0 [])
def Mz:SM:=
 (ag (dc (dr (m1 (eM .str) (aa 0)))
 (ag (aZ (af (.bl false)))
 ai)
 ai)
 (ag (aZ (eL (jI .LtE .LtE (af (.int 1)) (mN (aO .len) (ab (aa 0) ae)) (af (.int 8))) (mN (aO .all) (ab inC ae))))
 ai))
def DR(c:ba):Prop:=∀(b:aD) (x:Str),AY x->∃a,c [.str x] b=.ok (.bl true) a/\aj [] b a
theorem Hr:DR (bL 1 1 Mz):=by
 intro Ω x h;obtain⟨w,y,e⟩:=h;rw[bt (by rfl)]
 have i:aV 1 [D.str x]=[oS x]:=rfl;rw[i];have b:aL (aa 0) [oS x] Ω=.ok (.chars x) Ω:=rfl
 have a:=cR (ρ:=[oS x]) (Ω:=Ω) (ao:=Ω) (me:=m2 (aw .In) (aa 0) (af (.str "abcdefghijklmnopqrstuvwxyz"))) (mc:=af .non) (nc:=true) (mi:=aL (aa 0)) (cap:=[]) (src:=.chars x) (ds:=x.cps.toList.map λc=>.str (bJ c)) (p:=λ_=>true) (g:=λd=>.bl true) b rfl (λd _=>rfl) (λd j _=>by
  obtain⟨c,f,rfl⟩:=List.mem_map.mp j;have:=DQ c (e c f).1 (e c f).2
  show aw .In (.str (bJ c)) (.str _) Ω=_
  simp[dU,inD,this]) (by
  have:x.cps.toList.length=x.length:=by simp[Str.length]
  simp only[List.length_map];omega)
 have k:((x.cps.toList.map λc=>D.str (bJ c)).filter λ_=>true).map (λ_=>D.bl true)=(x.cps.toList.map λ_=>true).map .bl:=by
  rw[List.filter_eq_self.mpr (λ_ _=>rfl),List.map_map,List.map_map]
  rfl
 rw[k]at a;have a:inC [oS x] Ω=.ok (.ref Ω.length) (Ω++[.lst ((x.cps.toList.map λ_=>true).map .bl)]):=a
 have l:=tV (Ω:=Ω++[.lst ((x.cps.toList.map λ_=>true).map .bl)]) (q:=Ω.length) av
 refine⟨Ω++[.lst ((x.cps.toList.map λ_=>true).map .bl)],?_,aj.app⟩
 have m:(mN (aO .all) (ab inC ae)) [oS x] Ω=.ok (.bl true) (Ω++[.lst ((x.cps.toList.map λ_=>true).map .bl)]):=by
  rw[cY,a_,a,ak,aX,ak,ak,l];simp
 have o:(jI .LtE .LtE (af (.int 1)) (mN (aO .len) (ab (aa 0) ae)) (af (.int 8))) [oS x] Ω=.ok (.bl true) Ω:=by
  have r:aO .len [.str x] Ω=.ok (.int x.length) Ω:=by
   show gc (nT [.str x] Ω) (gc (rl [.str x] Ω) (lQ .len [.str x] Ω))=_
   show lQ .len [.str x] Ω=_
   unfold lQ;simp[aN (n:=x.length) (by omega)]
  have s:cC .LtE (.int 1) (.int x.length) Ω=.ok (.bl true) Ω:=by
   have:decide ((1:Int)<=x.length)=true:=by simp;omega
   simp[dU,this]
  have t:cC .LtE (.int x.length) (.int 8) Ω=.ok (.bl true) Ω:=by
   have:decide ((x.length:Int)<=8)=true:=by simp;omega
   simp[dU,this]
  unfold jI;have:(mN (aO .len) (ab (aa 0) ae)) [oS x] Ω=.ok (.int x.length) Ω:=r;rw[jU,ak,this,ak,s,dj,bD,dy,ak,if_pos rfl,jU,ak,t]
 have u:(dc (dr (m1 (eM .str) (aa 0))) (ag (aZ (af (.bl false))) ai) ai) [oS x] Ω=.nx [oS x] Ω:=by rfl
 unfold Mz;rw[ah,u,aB,ah,cZ,iO,o,ak,bD,tI,m];rfl
def bV(P:Nat->Prop)(Ω:aD)(h:Nat)(E:en)(L:Str->List Str):Prop:=
 ∃e l a b,Ω[h]?=some (.ins "House" [("elders",.ref e),("lines",.ref l)])/\bB Ω e a/\aE P Ω a E/\bB Ω l b/\aE P Ω b (cp (nms E) L)
theorem bV.keep(H:bV P Ω h E L)(K:aj [] Ω ao):bV P ao h E L:=by
 obtain⟨e,l,a,b,c,d,f,g,i⟩:=H;exact⟨e,l,a,b,K.get _ _ c (by simp),d.keep K (by simp),f.keep K (by simp),g.keep K (by simp),i.keep K (by simp)⟩
theorem bV.imp(H:bV P Ω h E L)(c:∀j,P j->P' j):bV P' Ω h E L:=by
 obtain⟨e,l,a,b,d,f,g,i,k⟩:=H;exact⟨e,l,a,b,d,f,g.imp c,i,k.imp c⟩
theorem bV.lt(H:bV P Ω h E L):bV (λj=>P j/\j<Ω.length) Ω h E L:=by
 obtain⟨e,l,a,b,c,d,f,g,i⟩:=H;exact⟨e,l,a,b,c,d,f.lt,g,i.lt⟩
theorem bV.BW{ds:List D}(H:bV P Ω h E L)(K:aj [q] Ω ao)(a:Ω[q]?=some (.lst ds))(k:¬ P q):bV P ao h E L:=by
 obtain⟨e,l,b,c,d,f,m,g,n⟩:=H;have o:h≠q:=λz=>by rw[z,a]at d;cases d
 have p:e≠q:=λz=>f.nl _ (z▸a)
 have r:l≠q:=λz=>g.nl _ (z▸a)
 have i:∀j∈[q],¬ P j:=λj s=>by rw[List.mem_singleton.mp s];exact k
 exact⟨e,l,b,c,K.get _ _ d (by simpa using o),f.keep K (by simpa using p),m.keep K i,g.keep K (by simpa using r),n.keep K i⟩
theorem yb(H:aE P Ω kvs (cp (nms E) L)):kvs.length=E.length:=by
 have:=H.len;simp[cp,nms]at this;omega
def fe:EM:=(m1 (dm ["House"] "elders") (aa 0))
def Hs:EM:=(m1 (dm ["House"] "lines") (aa 0))
theorem lD{l:Nat}(a:Ω[h]?=some (.ins "House" [("elders",.ref e),("lines",.ref l)])):dm ["House"] "elders" (.ref h) Ω=.ok (.ref e) Ω:=tN a rfl rfl
theorem yc{l:Nat}(a:Ω[h]?=some (.ins "House" [("elders",.ref e),("lines",.ref l)])):dm ["House"] "lines" (.ref h) Ω=.ok (.ref l) Ω:=tN a rfl rfl
def MA:SM:=(ag (aZ (mN (aO .list) (ab fe ae))) ai)
def pY(c:ba):Prop:=∀(b:aD) (h:Nat) (E:en) (L:Str->List Str) (P:Nat->Prop),bV P b h E L->∃k a,c [.ref h] b=.ok (.ref k) a/\a[k]?=some (.lst ((nms E).map .str))/\aj [] b a/\b.length<=k
theorem Ht:pY (bL 1 1 MA):=by
 intro a h E L P H;obtain⟨e,l,c,d,f,g,i,k,m⟩:=H;rw[bt (by rfl)]
 have j:aV 1 [D.ref h]=[oR h]:=rfl;rw[j];have b:=rL g;rw[i.keys]at b;refine⟨a.length,a++[.lst ((nms E).map .str)],?_,av,aj.app,Nat.le_refl _⟩
 have:(mN (aO .list) (ab fe ae)) [oR h] a=.ok (.ref a.length) (a++[.lst ((nms E).map .str)]):=by
  show(((dm ["House"] "elders" (.ref h) a).bind _).bind _)=_
  rw[lD f,ak];exact b
 unfold MA;rw[ah,cZ,this];rfl
theorem cy{m:Str}{F:ba}{i:Nat}{c:AM}(H:bV P Ω h E L)(d:ρ[i]?=some (oR h))(a:([("elders",D.ref 0),("lines",D.ref 0)]:List (Str×D)).lookup m=none):aF "House" m F (aa i) c ρ Ω=(c ρ Ω).bind λxs b=>iV (F (.ref h::xs) b):=by
 obtain⟨e,l,f,g,j,k,n,o,p⟩:=H;refine AH (by rw[gR,d,gQ]) j ?_
 simp only[List.lookup_cons]at a ⊢;split at a
 .cases a
 .split at a
  .cases a
  .rfl
def MB(a:ba):SM:=
 (ag (dc (m2 (aw .NotIn) (aa 1) (aF "House" "kinds" a (aa 0) ae))
 (ag bW
 ai)
 ai)
 ai)
def pZ(c:ba):Prop:=∀(b:aD) (h:Nat) (E:en) (L:Str->List Str) (P:Nat->Prop) (n:Str),bV P b h E L->n∈nms E->∃a,c [.ref h,.str n] b=.ok .non a/\aj [] b a
theorem Hu{d:ba}(e:pY d):pZ (bL 2 2 (MB d)):=by
 intro c h E L P n H f;rw[bt (by rfl)]
 have g:aV 2 [D.ref h,.str n]=[oR h,oS n]:=rfl;rw[g];obtain⟨k,a,i,j,l,_⟩:=e c h E L P H
 have m:aF "House" "kinds" d (aa 0) ae [oR h,oS n] c=.ok (.ref k) a:=by
  rw[cy H rfl (by decide),aX,ak,i,ie]
 refine⟨a,?_,l⟩;have b:=j9 (w:=n) j;rw[decide_eq_true f]at b;unfold MB;rw[ah,cx,cX];have:aa 1 [oR h,oS n] c=.ok (.str n) c:=rfl;rw[this,ak,m,ak,b];rfl
def MC(a:ba):SM:=(ag (bC (aF "House" "check_kind" a (aa 0) (ab (aa 3) ae)))
 (ag (dc (m2 (aw .In) (aa 3) (cz (aa 1) true (af .non) false (aa 2)))
 (ag bW
 ai)
 ai)
 ai))
def MD(a:ba):SM:=
 (ag (dc (m2 (aw .Gt) (mN (aO .len) (ab (aa 1) ae)) (af (.int 5)))
 (ag bW
 ai)
 ai)
 (ag (bX (fx [2,3]) (lS (aa 1))
 (MC a))
 ai))
def DS(CE:ba):Prop:=∀(c:aD) (h a:Nat) (E:en) (L:Str->List Str) (P:Nat->Prop) (r:List Str),bV P c h E L->c[a]?=some (.lst (r.map .str))->r.Nodup->r.length<=5->(∀x∈r,x∈nms E)->∃b,CE [.ref h,.ref a] c=.ok .non b/\aj [] c b
theorem DT{f:ba}(m:pZ f){a i:Nat}{x:Str}(H:bV P Ω h E L)(o:Ω[a]?=some (.lst (r.map .str)))(p:r[i]?=some x)(q:r.Nodup)(s:x∈nms E) :
  ∃ao,MC f [oR h,oR a,oI i,oS x] Ω=.nx [oR h,oR a,oI i,oS x] ao/\aj [] Ω ao:=by
 obtain⟨b,t,l⟩:=m Ω h E L P x H s
 have u:aF "House" "check_kind" f (aa 0) (ab (aa 3) ae) [oR h,oR a,oI i,oS x] Ω=.ok .non b:=by
  rw[cy H rfl (by decide)]
  show iV (f [.ref h,.str x] Ω)=_
  rw[t];rfl
 have g:=om (n:=i) (l.get _ _ o (by simp))
 have y:(b++[Cell.lst ((r.take i).map .str)])[b.length]?=some (.lst ((r.take i).map .str)):=av;have z:aj [] Ω (b++[Cell.lst ((r.take i).map .str)]):=l.trans aj.app;generalize b++[Cell.lst ((r.take i).map .str)]=d at *;have e:=lr (w:=x) y
 have j:x∉r.take i:=by
  intro A;obtain⟨C,c⟩:=List.mem_iff_getElem?.mp A;have k:=(List.getElem?_eq_some_iff.mp c).1;rw[List.length_take]at k;rw[List.getElem?_take_of_lt (by omega)]at c
  have:=(List.getElem?_inj (by omega) q).mp (c.trans p.symm)
  omega
 rw[decide_eq_false j]at e;refine⟨d,?_,z⟩
 have B:cz (aa 1) true (af .non) false (aa 2) [oR h,oR a,oI i,oS x] b=.ok (.ref b.length) d:=by
  rw[iQ];simp[g]
 unfold MC;rw[ah,bT,u,b9,aB,ah,cx,cX];have:aa 3 [oR h,oR a,oI i,oS x] b=.ok (.str x) b:=rfl;rw[this,ak,B,ak,e];rfl
theorem Hv{o:ba}(q:pZ o):DS (bL 4 2 (MD o)):=by
 intro c h a E L P r H g s C t;rw[bt (by rfl)]
 have u:aV 4 [D.ref h,.ref a]=[oR h,oR a,none,none]:=rfl;rw[u]
 have w:(dc (m2 (aw .Gt) (mN (aO .len) (ab (aa 1) ae)) (af (.int 5))) (ag bW ai) ai) [oR h,oR a,none,none] c=.nx [oR h,oR a,none,none] c:=by
  have e:=fW g;rw[List.length_map]at e;rw[cx,cX];have:(mN (aO .len) (ab (aa 1) ae)) [oR h,oR a,none,none] c=.ok (.int r.length) c:=e;rw[this,ak,jU,ak]
  have:aw .Gt (.int r.length) (.int 5) c=.ok (.bl false) c:=by
   simp[dU];omega
  rw[this];rfl
 have k:lS (aa 1) [oR h,oR a,none,none] c=.ok (.JC (.ref a)) c:=by
  unfold lS;simp[aA g]
 unfold MD;rw[ah,w,aB,ah,cv,k,b9]
 refine bF (R:=λr=>∃f,fR (sq r _)=.ok .non f/\aj [] c f) (ds:=dg 0 (r.map .str))
  (λi j b=>∃l m,j=[oR h,oR a,l,m]/\aj [] c b) ?_ ?_ ?_ fuel 0 _ _ (by rw[gK];unfold fuel;simp;omega) (Nat.zero_le _) ⟨none,none,rfl,aj.refl⟩
 .rintro i j b ⟨_,_,_,K⟩
  show(eK b (.ref a)).map (dg 0)=_
  rw[aC,aA (K.get _ _ g (by simp))];rfl
 .rintro i d j b y ⟨l,m,rfl,K⟩
  obtain⟨F,n,rfl⟩:=iw _ 0 i d y;obtain⟨x,p,rfl⟩:=dG n;rw[Nat.zero_add];refine⟨[oR h,oR a,oI i,oS x],rfl,?_⟩;obtain⟨z,A,B⟩:=DT q (i:=i) (H.keep K) (K.get _ _ g (by simp)) p s (t x (List.mem_of_getElem? p))
  rw[A];exact⟨_,_,rfl,K.trans B⟩
 .rintro j b ⟨l,m,rfl,K⟩
  exact⟨b,rfl,K⟩
def ME(a:ba):SM:=
 (ag (bC (aF "House" "check_kind" a (aa 0) (ab (aa 1) ae)))
 (ag (aZ (mN (aO .list) (ab (m2 az Hs (aa 1)) ae)))
 ai))
def p8(c:ba):Prop:=∀(b:aD) (h:Nat) (E:en) (L:Str->List Str) (P:Nat->Prop) (n:Str),bV P b h E L->n∈nms E->∃k a,c [.ref h,.str n] b=.ok (.ref k) a/\a[k]?=some (.lst ((L n).map .str))/\aj [] b a/\b.length<=k
theorem Hw{b:ba}(k:pZ b):p8 (bL 2 2 (ME b)):=by
 intro c h E L P n H d;rw[bt (by rfl)]
 have m:aV 2 [D.ref h,.str n]=[oR h,oS n]:=rfl;rw[m];obtain⟨a,o,f⟩:=k c h E L P n H d
 have p:aF "House" "check_kind" b (aa 0) (ab (aa 1) ae) [oR h,oS n] c=.ok .non a:=by
  rw[cy H rfl (by decide)]
  show iV (b [.ref h,.str n] c)=_
  rw[o];rfl
 obtain⟨e,l,q,r,s,x,y,t,u⟩:=H.keep f;obtain⟨j,w,_,i⟩:=u.at (n:=n) (by rw[bI];exact d)
 rw[cN d]at i;have g:=cT i;refine⟨a.length,a++[.lst ((L n).map .str)],?_,av,f.trans aj.app,f.len⟩
 have:(mN (aO .list) (ab (m2 az Hs (aa 1)) ae)) [oR h,oS n] a=.ok (.ref a.length) (a++[.lst ((L n).map .str)]):=by
  show((((dm ["House"] "lines" (.ref h) a).bind _).bind _).bind _)=_
  rw[yc s,ak]
  show(((az (.ref l) (.str n) a).bind _).bind _)=_
  rw[dS t w];exact g
 unfold ME;rw[ah,bT,p,b9,aB,ah,cZ,this];rfl
def MF(a b:ba):SM:=
 (ag (bC (aF "House" "check_kind" a (aa 0) (ab (aa 1) ae)))
 (ag (aZ (mN (aG b) (ab Hs (ab (m2 az fe (aa 1)) ae))))
 ai))
def AZ(d:ba):Prop:=∀(b:aD) (h:Nat) (E:en) (L:Str->List Str) (P:Nat->Prop) (n:Str),bV P b h E L->Gd E->n∈nms E->∃c k a,d [.ref h,.str n] b=.ok (.ref k) a/\Rw a k c ((bq E n).map L++[bq E n])/\aj [] b a/\b.length<=k/\(∀j∈c,b.length<=j)/\k∉c
theorem Hx{g i:ba}(r:pZ g)(s:x9 i):AZ (bL 2 2 (MF g i)):=by
 intro m h E L P n H G c;rw[bt (by rfl)]
 have t:aV 2 [D.ref h,.str n]=[oR h,oS n]:=rfl;rw[t];obtain⟨b,u,o⟩:=r m h E L P n H c
 have w:aF "House" "check_kind" g (aa 0) (ab (aa 1) ae) [oR h,oS n] m=.ok .non b:=by
  rw[cy H rfl (by decide)]
  show iV (g [.ref h,.str n] m)=_
  rw[u];rfl
 obtain⟨e,l,y,p,q,z,A,B,C⟩:=H.keep o;obtain⟨a,F,_,I⟩:=A.at c;obtain⟨J,k,d,K,R2,M,U,N,O⟩:=s b l a p _ P (bq E n) B C I (by rw[bI];exact G.el n c) (G.short n c)
 have f:(bq E n).map (bq (cp (nms E) L))=(bq E n).map L:=List.map_congr_left λx Q=>cN (G.el n c x Q)
 rw[f]at R2;have V:=o.len;refine⟨J,k,d,?_,R2,o.trans M,by omega,λj R=>by have:=N j R;omega,O⟩
 have:(mN (aG i) (ab Hs (ab (m2 az fe (aa 1)) ae))) [oR h,oS n] b=.ok (.ref k) d:=by
  have S:Hs [oR h,oS n] b=.ok (.ref l) b:=yc q
  have T:(m2 az fe (aa 1)) [oR h,oS n] b=.ok (.ref a) b:=by
   show((dm ["House"] "elders" (.ref h) b).bind _)=_
   rw[lD q,ak];exact dS z F
  rw[cY,a_,S,ak,a_,T,ak,aX,ak,ak,ak,dR,K,ie]
 unfold MF;rw[ah,bT,w,b9,aB,ah,cZ,this];rfl
end
section
variable{Ω ao:aD}{ρ:aS}{e q j h:Nat}{kvs:List (Key×D)}{E:en}{P P':Nat->Prop}{n:Str}{r:List Str}{fp:List Nat}{L L':Str->List Str}
theorem kd{f:Str}{mo mv:EM}{y:D}{k:Nat}{a:List (Str×D)}{aM:aD}(b:mv ρ Ω=.ok y aM)(c:mo ρ aM=.ok (.ref k) aM)(d:aM[k]?=some (.ins "House" a))(e:a.length<1000):eh ["House"] f mo mv ρ Ω=.nx ρ (aM.set k (.ins "House" (mO f y a))):=by
 unfold eh;rw[b,b9,c,b9,oj d];have:((["House"]:List Str).contains "House"&&decide (a.length<1000))=true:=by rw[decide_eq_true e];rfl
 simp only[this,if_true]
def KC:SM:=
 (ag (eh ["House"] "elders" (aa 0) bY)
 (ag (eh ["House"] "lines" (aa 0) bY)
 ai))
def DU(c:ba):Prop:=∀(b:aD) (L:Str->List Str) (P:Nat->Prop),∃a,lU "House" c [] b=.ok (.ref b.length) a/\bV P a b.length [] L/\aj [] b a
theorem Hy:DU (bL 1 1 KC):=by
 intro b L P;have h:(b++[Cell.ins "House" []])[b.length]?=some (.ins "House" []):=av;have i:aj [] b (b++[Cell.ins "House" []]):=aj.app;have p:(b++[Cell.ins "House" []]).length=b.length+1:=by simp
 unfold lU;generalize b++[Cell.ins "House" []]=a at *;rw[bt (by rfl)]
 have j:aV 1 [D.ref b.length]=[oR b.length]:=rfl;rw[j];have d:(a++[Cell.dK []])[b.length]?=some (.ins "House" []):=dA h;have k:eh ["House"] "elders" (aa 0) bY [oR b.length] a=.nx [oR b.length] ((a++[Cell.dK []]).set b.length (.ins "House" [("elders",.ref a.length)])):=kd (aM:=a++[.dK []]) rfl rfl d (by simp)
 have l:=aQ (e:=.ins "House" [("elders",.ref a.length)]) d;have m:aj [b.length] a ((a++[Cell.dK []]).set b.length (.ins "House" [("elders",.ref a.length)])):=aj.app.trans (aj.set (by simp))
 have d1:((a++[Cell.dK []]).set b.length (.ins "House" [("elders",.ref a.length)]))[a.length]?=some (.dK []):=cj av (by omega)
 have q:((a++[Cell.dK []]).set b.length (.ins "House" [("elders",.ref a.length)])).length=a.length+1:=by simp
 generalize (a++[Cell.dK []]).set b.length (.ins "House" [("elders",.ref a.length)])=aM at *;have f:(aM++[Cell.dK []])[b.length]?=some (.ins "House" [("elders",.ref a.length)]):=dA l;have n:eh ["House"] "lines" (aa 0) bY [oR b.length] aM=.nx [oR b.length] ((aM++[Cell.dK []]).set b.length (.ins "House" [("elders",.ref a.length),("lines",.ref aM.length)])):=kd (aM:=aM++[.dK []]) rfl rfl f (by simp)
 have o:=aQ (e:=.ins "House" [("elders",.ref a.length),("lines",.ref aM.length)]) f;have g:aj [b.length] aM ((aM++[Cell.dK []]).set b.length (.ins "House" [("elders",.ref a.length),("lines",.ref aM.length)])):=aj.app.trans (aj.set (by simp))
 have d2:((aM++[Cell.dK []]).set b.length (.ins "House" [("elders",.ref a.length),("lines",.ref aM.length)]))[aM.length]?=some (.dK []):=cj av (by omega)
 generalize (aM++[Cell.dK []]).set b.length (.ins "House" [("elders",.ref a.length),("lines",.ref aM.length)])=c at *;refine⟨c,?_,⟨a.length,aM.length,[],[],o,.inl (g.get _ _ d1 (by simp;omega)),.nil,.inl d2,.nil⟩,aj.new i (m.trans g) (by simp)⟩
 have:fR (KC [oR b.length] a)=.ok .non c:=by
  unfold KC;rw[ah,k,aB,ah,n];rfl
 rw[this]
def MH(a:ba):SM:=
 (ag (ax 2 (mN (aG a) (ab (aa 1) ae)))
 (ag (eh ["House"] "elders" (aa 0) (aa 1))
 (ag (eh ["House"] "lines" (aa 0) (aa 2))
 ai)))
def yd(d:ba):Prop:=∀(b:aD) (h e f g:Nat) (c:List (Key×D)) (E:en) (P:Nat->Prop) (L:Str->List Str),b[h]?=some (.ins "House" [("elders",.ref f),("lines",.ref g)])->bB b e c->aE P b c E->Gd E->Hn E L->(∀n∈nms E,(L n).length<=900)->(∀j,b.length<=j->P j) ->
 ∃a,d [.ref h,.ref e] b=.ok .non a/\bV P a h E L/\aj [h,e] b a
theorem Hz{k:ba}(H:ya k):yd (bL 3 2 (MH k)):=by
 intro y h e I f c E P L A m B G J n K;rw[bt (by rfl)]
 have M:aV 3 [D.ref h,.ref e]=[oR h,oR e,none]:=rfl;rw[M];obtain⟨l,o,aM,N,p,q,r,s,V⟩:=H y e c E P L m B G J n;have d:h≠e:=λz=>m.ni _ _ (z▸A)
 have g:=r.get _ _ A (by simpa using d)
 have t:=B.c9 r (λj u i=>by rw[List.mem_singleton.mp u];exact m.nl i)
 have w:l≠h:=λz=>by rw[z,g]at p;cases p
 have O:eh ["House"] "elders" (aa 0) (aa 1) [oR h,oR e,oR l] aM=.nx [oR h,oR e,oR l] (aM.set h (.ins "House" [("elders",.ref e),("lines",.ref f)])):=kd (aM:=aM) rfl rfl g (by simp)
 have C:=aQ (e:=.ins "House" [("elders",.ref e),("lines",.ref f)]) g;have Q:aj [h] aM (aM.set h (.ins "House" [("elders",.ref e),("lines",.ref f)])):=aj.set (by simp)
 generalize aM.set h (.ins "House" [("elders",.ref e),("lines",.ref f)])=a at *;have R:eh ["House"] "lines" (aa 0) (aa 2) [oR h,oR e,oR l] a=.nx [oR h,oR e,oR l] (a.set h (.ins "House" [("elders",.ref e),("lines",.ref l)])):=kd (aM:=a) rfl rfl C (by simp)
 have S:=aQ (e:=.ins "House" [("elders",.ref e),("lines",.ref l)]) C;have T:aj [h] a (a.set h (.ins "House" [("elders",.ref e),("lines",.ref l)])):=aj.set (by simp)
 generalize a.set h (.ins "House" [("elders",.ref e),("lines",.ref l)])=x at *;have b:=Q.trans T;have F:∀j∈[h],∀i,aM[j]?≠some (.lst i):=λj u i=>by rw[List.mem_singleton.mp u,g];simp
 refine⟨x,?_,⟨e,l,c,o,S,.inr (b.get _ _ s (by simpa using Ne.symm d)),t.c9 b F,.inl (b.get _ _ p (by simpa using w)),(q.imp K).c9 b F⟩,(r.sub (by simp)).trans (b.sub (by simp))⟩
 unfold MH;have U:(ax 2 (mN (aG k) (ab (aa 1) ae))) [oR h,oR e,none] y=.nx [oR h,oR e,oR l] aM:=by simp[N]
 rw[ah,U,aB,ah,O,aB,ah,R];rfl
def HD:EM:=(mN iE (ab (aa 0) (ab (vo (m2 (aw .Eq) (aa 0) (aa 2)) (mN (aO .list) (ab (aa 1) ae)) (m2 az (m1 (dm ["House"] "elders") (aa 3)) (aa 0))) ae)))
def MI:EM:=(mN kQ (ab (bo HD true (af .non) (aL (aa 4)) 0 [2,1,0]) ae))
def MJ:EM:=(bQ eo fO (aa 4) (ab (vo (m2 (aw .Is) (aa 3) (af .non)) (mN (aO .len) (ab (aa 4) ae)) (aa 3)) (ab (aa 1) ae)))
def MK(a CE b c:ba):SM:=
 (ag (dc (dr (mN (aG a) (ab (aa 1) ae)))
 (ag bW
 ai)
 ai)
 (ag (dc (m2 (aw .In) (aa 1) fe)
 (ag bW
 ai)
 ai)
 (ag (dc (m2 (aw .GtE) (mN (aO .len) (ab fe ae)) (af (.int 12)))
 (ag bW
 ai)
 ai)
 (ag (bC (aF "House" "check_elders" CE (aa 0) (ab (aa 2) ae)))
 (ag (ax 4 (aF "House" "kinds" b (aa 0) ae))
 (ag (bC MJ)
 (ag (bC (aF "House" "settle" c (aa 0) (ab MI ae)))
 ai)))))))
theorem ye{a:Type}{xs:List a}{x:a}:ny xs xs.length x=xs++[x]:=by
 have:HT.cG xs.length 0 (some (xs.length:Int))=xs.length:=by
  unfold HT.cG;simp;intro z;omega
 unfold ny;simp only[this];simp
theorem DV{a k:Nat}{a3:Option D}(H:bV P Ω h E L)(ha:Ω[a]?=some (.lst (r.map .str)))(hk:Ω[k]?=some (.lst ((nms E++[n]).map .str)))(hn:n∉nms E)(O:(nms E).Nodup)(hl:E.length<=100)(hP:∀j,Ω.length<=j->P j) :
  ∃q A ao,MI [oR h,oS n,oR a,a3,oR k] Ω=.ok (.ref q) ao/\ao[q]?=some (.dK A)/\aE P ao A (E++[(n,r)])/\aj [] Ω ao/\Ω.length<=q:=by
 have a0:aL (aa 4) [oR h,oS n,oR a,a3,oR k] Ω=.ok (.seq (.ref k)) Ω:=by
  rw[bf];exact aR (by rw[aC,aA hk])
 have b0:nms (E++[(n,r)])=nms E++[n]:=by simp[nms]
 obtain⟨ys,o,e1,m,rfl,Q,K1⟩:=j_ (ρ:=[oR h,oS n,oR a,a3,oR k]) (me:=HD) (mc:=af .non) (cap:=[2,1,0]) (ds:=(nms E++[n]).map .str) (λi B c=>∃m:List (Str×D),B=m.map (λp=>.tup [.str p.1,p.2])/\aE P c (m.map λp=>(.inr p.1,p.2)) ((E++[(n,r)]).take i)/\aj [] Ω c) a0 ⟨[],rfl,.nil,aj.refl⟩
  (λi B c h=>by
   obtain⟨_,_,_,K⟩:=h;rw[bU,aC,aA (K.get _ _ hk (by simp))])
  (λi d B c c0 hI=>by
   obtain⟨m,rfl,Q,K⟩:=hI;obtain⟨x,N,rfl⟩:=dG c0;obtain⟨e,l,A,k0,q1,q2,q3,q4,q5⟩:=H.keep K;have e0:=K.get _ _ ha (by simp)
   show ∃y ao,HD [oS x,oR a,oS n,oR h] c=.ok y ao/\_
   have S:∀(p:Str×List Str) (j:Nat) (s:aD),(E++[(n,r)])[i]?=some p->p.1=x->P j->s[j]?=some (.lst (p.2.map .str))->aj [] c s->∃t:List (Str×D),(m.map (λp=>D.tup [.str p.1,p.2])++[.tup [.str x,.ref j]])=t.map (λp=>.tup [.str p.1,p.2])/\aE P s (t.map λp=>(.inr p.1,p.2)) ((E++[(n,r)]).take (i+1))/\aj [] Ω s:=by
    intro p j s T C F Y K3;refine⟨m++[(x,.ref j)],by simp,?_,K.trans K3⟩
    rw[List.take_succ,T,List.map_append];exact aK.append (R:=λ(kv:Key×D) (p:Str×List Str)=>kv.1=.inr p.1/\∃j,kv.2=.ref j/\P j/\s[j]?=some (.lst (p.2.map .str))) (Q.keep K3 (by simp)) (.cons ⟨by rw[C],j,rfl,F,Y⟩ .nil)
   have Z:(m2 (aw .Eq) (aa 0) (aa 2)) [oS x,oR a,oS n,oR h] c=.ok (.bl (decide (x=n))) c:=by
    show aw .Eq (.str x) (.str n) c=_
    simp
    by_cases z:x=n<;>simp[z]
   have hi:=(List.getElem?_eq_some_iff.mp N).1;rw[List.length_append]at hi;simp only[nms,List.length_map,List.length_singleton]at hi
   by_cases G:i<E.length
   .have u:(nms E)[i]?=some x:=by rw[List.getElem?_append_left (by simp[nms];exact G)]at N;exact N
    have I:x∈nms E:=List.mem_of_getElem? u;have J:x≠n:=λz=>hn (z▸I)
    rw[decide_eq_false J]at Z;have T:(E++[(n,r)])[i]?=some E[i]:=by rw[List.getElem?_append_left G];simp
    have C:E[i].1=x:=by
     simp[nms,G]at u;exact u
    have U:bq E x=E[i].2:=by
     have hm:(x,bq E x)∈E:=oo (eR I);obtain⟨i',w⟩:=List.mem_iff_getElem?.mp hm;have e1:(nms E)[i']?=some x:=by simp[nms,w]
     have V:=(List.getElem?_eq_some_iff.mp w).1;have:=(List.getElem?_inj (by simp[nms];exact V) O).mp (e1.trans u.symm)
     subst this;rw[List.getElem?_eq_getElem V]at w;have z:=Option.some.inj w;rw[z]
    obtain⟨j,hv,F,Y⟩:=q3.at I;rw[U]at Y;obtain⟨t,z1,z2,z3⟩:=S E[i] j c T C F Y aj.refl;refine⟨.tup [.str x,.ref j],c,?_,t,z1,z2,z3⟩
    have M:(m2 az (m1 (dm ["House"] "elders") (aa 3)) (aa 0)) [oS x,oR a,oS n,oR h] c=.ok (.ref j) c:=by
     show((dm ["House"] "elders" (.ref h) c).bind _)=_
     rw[lD q1,ak];exact dS q2 hv
    unfold HD;rw[cY,a_];have:aa 0 [oS x,oR a,oS n,oR h] c=.ok (.str x) c:=rfl;rw[this,ak,a_,oa,Z,dj,bD,dy,ak,if_neg (by simp),M,ak,aX,ak,ak,ak,jZ,if_pos (aN (by simp))]
   .have f0:i=E.length:=by omega
    subst f0
    have J:x=n:=by
     rw[List.getElem?_append_right (by simp[nms])]at N
     simp[nms]at N;exact N.symm
    subst J;rw[decide_eq_true rfl]at Z;have g0:=cT e0;obtain⟨t,z1,z2,z3⟩:=S (x,r) c.length (c++[.lst (r.map .str)]) (by simp) rfl (hP _ K.len) av aj.app
    refine⟨.tup [.str x,.ref c.length],c++[.lst (r.map .str)],?_,t,z1,z2,z3⟩;have M:(mN (aO .list) (ab (aa 1) ae)) [oS x,oR a,oS x,oR h] c=.ok (.ref c.length) (c++[.lst (r.map .str)]):=g0;unfold HD;rw[cY,a_];have:aa 0 [oS x,oR a,oS x,oR h] c=.ok (.str x) c:=rfl;rw[this,ak,a_,oa,Z,dj,bD,dy,ak,if_pos rfl,M,ak,aX,ak,ak,ak,jZ,if_pos (aN (by simp))]) (by simp[nms];omega)
 have X:((nms E++[n]).map D.str).length=(E++[(n,r)]).length:=by simp[nms]
 rw[X,List.take_length]at Q
 have h0:m.map (·.1)=nms E++[n]:=by
  have:=Q.keys;rw[b0,List.map_map]at this
  have h2:(m.map (D.str ∘ (·.1)))=(nms E++[n]).map D.str:=by
   rw[←this];rfl
  rw[←List.map_map]at h2;exact(List.map_inj_right (λa b z=>by cases z;rfl)).mp h2
 have g2:(o++[Cell.lst (m.map λp=>.tup [.str p.1,p.2])])[o.length]?=some (.lst (m.map λp=>.tup [.str p.1,p.2])):=av
 have K2:aj [] Ω (o++[Cell.lst (m.map λp=>.tup [.str p.1,p.2])]):=K1.trans aj.app
 have h2:aE P (o++[Cell.lst (m.map λp=>.tup [.str p.1,p.2])]) (m.map λp=>(.inr p.1,p.2)) (E++[(n,r)]):=Q.keep (fp:=[]) aj.app (by simp)
 generalize o++[Cell.lst (m.map λp=>.tup [.str p.1,p.2])]=c at *
 have T:bz kP (m.map λp=>D.tup [.str p.1,p.2])=some (m.map λp=>(.inr p.1,p.2)):=ji (f:=kP) (g:=λp:Str×D=>D.tup [.str p.1,p.2]) (h:=λp=>(.inr p.1,p.2)) (λn=>rfl) m
 have hf:=jj (m.map λp=>((.inr p.1:Key),p.2)) [] (by
  rw[List.nil_append,List.map_map];have:(m.map ((λp:Key×D=>p.1) ∘ λp=>((.inr p.1:Key),p.2)))=(m.map (·.1)).map Sum.inr:=by rw[List.map_map];rfl
  rw[this,h0];have i0:(nms E++[n]).Nodup:=List.nodup_append.mpr ⟨O,by simp,λa ha b hb z=>hn (by rw[←List.mem_singleton.mp hb,←z];exact ha)⟩
  exact List.Pairwise.map _ (λa b j0 z=>j0 (by cases z;rfl)) i0)
 rw[List.nil_append]at hf;refine⟨c.length,_,c++[.dK (m.map λp=>(.inr p.1,p.2))],?_,av,h2.keep (fp:=[]) aj.app (by simp),K2.trans aj.app,K2.len⟩
 unfold MI;rw[cY,a_,e1,ak,aX,ak,ak]
 show gc (jw [.ref o.length] c) _=_
 simp only[jw,aA g2,T,hf];rfl
def A8(e:ba):Prop:=∀(c:aD) (h a:Nat) (E:en) (L d:Str->List Str) (P:Nat->Prop) (n:Str) (r:List Str),bV P c h E L->c[a]?=some (.lst (r.map .str))->AY n->n∉nms E->E.length<12->r.Nodup->r.length<=5->(∀x∈r,x∈nms E) ->
 Gd (E++[(n,r)])->Hn (E++[(n,r)]) d->(∀m∈nms (E++[(n,r)]),(d m).length<=900)->(∀j,c.length<=j->P j)->∃b,e [.ref h,.str n,.ref a,.non] c=.ok .non b/\bV P b h (E++[(n,r)]) d/\aj [h] c b
theorem HE{M CE N ST:ba}(hI:DR M)(hC:DS CE)(hK:pY N)(hS:yd ST):A8 (bL 5 4 (MK M CE N ST)):=by
 intro F h a E L L' P n r H O hv hn hl Q R S G T U hP;rw[bt (by rfl)]
 have e0:aV 5 [D.ref h,.str n,.ref a,.non]=[oR h,oS n,oR a,some .non,none]:=rfl;rw[e0];have V:nms (E++[(n,r)])=nms E++[n]:=by simp[nms]
 have t:(nms E).Nodup:=by
  have:=G.nd;rw[V]at this;exact(List.nodup_append.mp this).1
 obtain⟨d,e1,u⟩:=hI F n hv;have r1:(dc (dr (mN (aG M) (ab (aa 1) ae))) (ag bW ai) ai) [oR h,oS n,oR a,some .non,none] F=.nx [oR h,oS n,oR a,some .non,none] d:=by simp[e1]
 have w:=H.keep u
 have r2:(dc (m2 (aw .In) (aa 1) fe) (ag bW ai) ai) [oR h,oS n,oR a,some .non,none] d=.nx [oR h,oS n,oR a,some .non,none] d:=by
  obtain⟨e,l,f,X,y,I,J,q4,q5⟩:=w;have z:=DL (n:=n) I;rw[J.is,decide_eq_false hn]at z;rw[cx,cX]
  show cm (cB ((dm ["House"] "elders" (.ref h) d).bind _)) _=_
  rw[lD y,ak,z];rfl
 have r3:(dc (m2 (aw .GtE) (mN (aO .len) (ab fe ae)) (af (.int 12))) (ag bW ai) ai) [oR h,oS n,oR a,some .non,none] d=.nx [oR h,oS n,oR a,some .non,none] d:=by
  obtain⟨e,l,f,X,y,I,J,q4,q5⟩:=w;have i:=Hh I;have m0:=J.len
  have Y:(mN (aO .len) (ab fe ae)) [oR h,oS n,oR a,some .non,none] d=.ok (.int f.length) d:=by
   show(((dm ["House"] "elders" (.ref h) d).bind _).bind _)=_
   rw[lD y,ak];exact i
  have hc:aw .GtE (.int f.length) (.int 12) d=.ok (.bl false) d:=by
   have:decide ((f.length:Int)≥12)=false:=by simp;omega
   simp[dU];omega
  rw[cx,cX,Y,ak,jU,ak,hc];rfl
 obtain⟨m,e2,K⟩:=hC d h a E L P r w (u.get _ _ O (by simp)) Q R S
 have r4:(bC (aF "House" "check_elders" CE (aa 0) (ab (aa 2) ae))) [oR h,oS n,oR a,some .non,none] d=.nx [oR h,oS n,oR a,some .non,none] m:=by
  rw[bT,cy w rfl (by decide)]
  show cm (iV (CE [.ref h,.ref a] d)) _=_
  rw[e2];rfl
 have Z:=w.keep K;obtain⟨k,b,e3,s,K3,l3⟩:=hK m h E L P Z
 have r5:(ax 4 (aF "House" "kinds" N (aa 0) ae)) [oR h,oS n,oR a,some .non,none] m=.nx [oR h,oS n,oR a,some .non,oR k] b:=by
  rw[bu,cy Z rfl (by decide),aX,ak,e3]
  rfl
 have H3:bV (λj=>P j/\j≠k) b h E L:=(Z.lt.keep K3).imp λj g=>⟨g.1,by omega⟩
 have A:=(u.trans K).trans K3;have a0:=A.get _ _ O (by simp)
 have b0:a≠k:=by have:=bH (K.get _ _ (u.get _ _ O (by simp)) (by simp));omega
 have r6:(bC MJ) [oR h,oS n,oR a,some .non,oR k] b=.nx [oR h,oS n,oR a,some .non,oR k] (b.set k (.lst ((nms E++[n]).map .str))):=by
  have T:=c8 s;have i:=fW s
  have c0:fO (.ref k) [.int ((nms E).map D.str).length,.str n] b=.ok .non (b.set k (.lst ((nms E++[n]).map .str))):=by
   simp only[fO,gT s];rw[if_pos,ye]
   .simp
   .rw[aN (by simp[nms];omega),eY (by omega) (by simp[nms];omega)];rfl
  unfold MJ;rw[bT,dE (x:=.ref k) (ao:=b) rfl T]
  have f0:(ab (vo (m2 (aw .Is) (aa 3) (af .non)) (mN (aO .len) (ab (aa 4) ae)) (aa 3)) (ab (aa 1) ae):AM) [oR h,oS n,oR a,some .non,oR k] b=.ok [.int ((nms E).map D.str).length,.str n] b:=by
   have:(m2 (aw .Is) (aa 3) (af .non)) [oR h,oS n,oR a,some .non,oR k] b=.ok (.bl true) b:=rfl;rw[a_,oa,this,dj,bD,dy,ak,if_pos rfl];have:(mN (aO .len) (ab (aa 4) ae)) [oR h,oS n,oR a,some .non,oR k] b=.ok (.int ((nms E).map D.str).length) b:=i;rw[this];rfl
  rw[f0,ak,c0];rfl
 have K4:aj [k] b (b.set k (.lst ((nms E++[n]).map .str))):=aj.set (by simp)
 have g4:=aQ (e:=.lst ((nms E++[n]).map .str)) s;have H4:bV P (b.set k (.lst ((nms E++[n]).map .str))) h E L:=(H3.BW K4 s (by simp)).imp λj g=>g.1
 have g0:=K4.get _ _ a0 (by simpa using b0)
 have lk:=bH s;generalize b.set k (.lst ((nms E++[n]).map .str))=h0 at *
 have o:aj [] F h0:=aj.new A K4 (λj g=>by
  rw[List.mem_singleton.mp g];have:=(u.trans K).len;omega)
 obtain⟨q,f,i0,e5,g5,h5,K5,l5⟩:=DV (a3:=some .non) H4 g0 g4 hn t (by omega) (λj g=>hP j (Nat.le_trans o.len g))
 obtain⟨e,l,k0,l0,y,I,J,q4,q5⟩:=H4.keep K5;have p:=o.trans K5;obtain⟨j0,e6,H6,K6⟩:=hS i0 h q e l f (E++[(n,r)]) P L' y (.inl g5) h5 G T U (λj g=>hP j (Nat.le_trans p.len g))
 have lq:F.length<=q:=Nat.le_trans o.len l5;refine⟨j0,?_,H6,⟨Nat.le_trans p.len K6.len,λk' c B C=>K6.get k' c (p.get k' c B (by simp)) ?_⟩⟩
 .unfold MK
  rw[ah,r1,aB,ah,r2,aB,ah,r3,aB,ah,r4,aB,ah,r5,aB,ah,r6,aB,ah,bT,cy H4 rfl (by decide),a_,e5,ak,aX,ak,ak,e6]
  rfl
 .have:=bH B
  simp at C ⊢;exact⟨C,by omega⟩
end
noncomputable def ne(rs:List (List Str)):List (List Str):=rs.filter λr=>decide (r≠[])
theorem lE{rs:List (List Str)}{r:List Str}:r∈ne rs↔r∈rs/\r≠[]:=by unfold ne;simp
theorem vh{rs:List (List Str)}{a:List Str}:freeOf (ne rs) a=freeOf rs a:=by
 cases a with
 |nil=>rfl
 |cons m t=>
  by_cases h:∃r∈rs,m∈r.tail
  .obtain⟨r,c,b⟩:=h
   rw[dC ⟨r,c,b⟩,dC ⟨r,lE.mpr ⟨c,λz=>by rw[z]at b;simp at b⟩,b⟩]
  .rw[dD h,dD]
   rintro⟨r,c,b⟩;exact h ⟨r,(lE.mp c).1,b⟩
theorem A9{rs:List (List Str)}:free (ne rs)=free rs:=by
 unfold free
 have:∀b:List (List Str),(ne b).findSome? (freeOf (ne rs))=b.findSome? (freeOf rs):=by
  intro b
  induction b with
  |nil=>rfl
  |cons a b c=>
   by_cases d:a=[]
   .subst d
    have:ne ([]::b)=ne b:=by simp[ne]
    rw[this,c,List.findSome?_cons];rfl
   .have:ne (a::b)=a::ne b:=by simp[ne,d]
    rw[this,List.findSome?_cons,List.findSome?_cons,c,vh]
 exact this rs
theorem p9{n:Str}{r:List Str}(h:n∉r.tail):r.filter (λx=>decide (x≠n))=cE n r:=by
 unfold cE;cases r with
 |nil=>simp
 |cons a t=>
  have c:t.filter (λx=>decide (x≠n))=t:=List.filter_eq_self.mpr λx d=>decide_eq_true λz=>h (z▸d)
  by_cases b:a=n
  .subst b
   rw[List.filter_cons,if_neg (by simp),c,if_pos (by simp)]
   rfl
  .rw[List.filter_cons,if_pos (by simp[b]),c,if_neg (by simp[b])]
theorem A_{n:Str}{rs:List (List Str)}:ne ((ne rs).map (cE n))=ne (rs.map (cE n)):=by
 unfold ne
 induction rs with
 |nil=>rfl
 |cons a rs b=>
  by_cases c:a=[]
  .subst c
   have:cE n ([]:List Str)=[]:=by unfold cE;simp
   simp only[List.filter_cons,ne_eq,not_true_eq_false,decide_false,List.map_cons,this]at b ⊢;exact b
  .simp only[List.filter_cons,c,ne_eq,not_false_eq_true,decide_true,if_true,List.map_cons]
   rw[b]
theorem vi{rs:List (List Str)}{n:Str}(h:free rs=some n):∀r∈rs,n∉r.tail:=by
 unfold free at h;obtain⟨b,d,a⟩:=List.exists_of_findSome?_eq_some h;cases b with
 |nil=>cases a
 |cons m t=>
  by_cases c:∃r∈rs,m∈r.tail
  .rw[dC c]at a;cases a
  .rw[dD c]at a
   cases a;exact λr d e=>c ⟨r,d,e⟩
theorem mU{rs:List (List Str)}{n:Str}(h:free rs=some n):∃t,(n::t)∈rs:=by
 unfold free at h;obtain⟨b,d,a⟩:=List.exists_of_findSome?_eq_some h;cases b with
 |nil=>cases a
 |cons m t=>
  by_cases c:∃r∈rs,m∈r.tail
  .rw[dC c]at a;cases a
  .rw[dD c]at a
   cases a;exact⟨t,d⟩
noncomputable def tl(rs:List (List Str)):Nat:=(rs.map List.length).sum
theorem Ba{rs:List (List Str)}{n:Str}(h:∃t,(n::t)∈rs):tl (rs.map (cE n))<tl rs:=by
 obtain⟨t,e⟩:=h
 have b:∀r:List Str,(cE n r).length<=r.length:=λr=>by
  unfold cE;split
  .simp
  .exact Nat.le_refl _
 have f:∀c:List (List Str),tl (c.map (cE n))<=tl c:=by
  intro c
  induction c with
  |nil=>exact Nat.le_refl _
  |cons a c d=>
   unfold tl at d ⊢;simp only[List.map_cons,List.sum_cons];have:=b a;omega
 induction rs with
 |nil=>simp at e
 |cons a rs d=>
  unfold tl at f d ⊢;simp only[List.map_cons,List.sum_cons];rcases List.mem_cons.mp e with z|z
  .subst z
   have g:=f rs;have:(cE n (n::t)).length<(n::t).length:=by unfold cE;simp
   omega
  .have g:=d z
   have:=b a;omega
section
variable{Ω ao:aD}{ρ:aS}{k q b:Nat}{js:List Nat}{rs:List (List Str)}{row:List Str}{n:Str}{told:List Str}
theorem DW{nc:Bool}{mc me:EM}{τ:aS}{src:Src}{ds:List D}(I:Nat->List D->aD->Prop)(l:∀i a Ω,I i a Ω->eN src Ω=some ds)
  (m:∀i d a Ω,ds[i]?=some d->I i a Ω->(∃ao,hG nc mc ([some d]++τ) Ω=.ok false ao/\I (i+1) a ao)\/∃aM y ao,hG nc mc ([some d]++τ) Ω=.ok true aM/\me ([some d]++τ) aM=.ok y ao/\I (i+1) (a++[y]) ao) :
  ∀(f i:Nat) (a:List D) Ω,I i a Ω->ds.length - i<f->i<=ds.length->a.length+ds.length<=100000+i->∃ys ao,ti nc mc me 0 τ src f i a Ω=.ok ys ao/\I ds.length ys ao:=by
 intro f
 induction f with
 |zero=>intro i a Ω c o;omega
 |succ f k=>
  intro i a Ω c o r s;simp only[ti,l i a Ω c]
  by_cases b:i<ds.length
  .have e:ds[i]?=some ds[i]:=List.getElem?_eq_getElem b
   rw[e];have p:nV 0 ds[i]=some [some ds[i]]:=rfl;simp only[p];rw[if_pos (aN (n:=a.length+1) (by omega))]
   rcases m i ds[i] a Ω e c with ⟨aM,g,h⟩|⟨aM,y,j,g,q,h⟩
   .rw[g]
    dsimp only;exact k (i+1) a aM h (by omega) b (by omega)
   .rw[g]
    dsimp only;rw[q];dsimp only;exact k (i+1) (a++[y]) j h (by omega) b (by rw[List.length_append];simp;omega)
  .have e:ds[i]?=none:=List.getElem?_eq_none (by omega)
   rw[e];have:i=ds.length:=by omega
   subst this;exact⟨a,Ω,rfl,c⟩
theorem tW{nc:Bool}{me mc:EM}{mi:IM}{cap:List Nat}{src:Src}{ds:List D}(I:Nat->List D->aD->Prop)(c:mi ρ Ω=.ok src ao)(e:I 0 [] ao)(f:∀i a Ω,I i a Ω->eN src Ω=some ds)
  (g:∀i d a Ω,ds[i]?=some d->I i a Ω->(∃ao,hG nc mc ([some d]++dW cap ρ) Ω=.ok false ao/\I (i+1) a ao)\/∃aM y ao,hG nc mc ([some d]++dW cap ρ) Ω=.ok true aM/\me ([some d]++dW cap ρ) aM=.ok y ao/\I (i+1) (a++[y]) ao) (k:ds.length<=90000) :
  ∃ys b,bo me nc mc mi 0 cap ρ Ω=.ok (.ref b.length) (b++[.lst ys])/\I ds.length ys b:=by
 obtain⟨ys,b,h,j⟩:=DW I f g fuel 0 [] ao e (by unfold fuel;omega) (Nat.zero_le _) (by simp;omega)
 refine⟨ys,b,?_,j⟩;unfold bo;rw[c];dsimp only;rw[h];rfl
theorem mV{nc:Bool}{me mc:EM}{mi:IM}{cap:List Nat}{f:List Str->List Str}{p:List Str->Bool}{P:Nat->Prop}(z:mi ρ Ω=.ok (.seq (.ref k)) Ω)(R:Rw Ω k js rs)(I:rs.length<=1000)
  (A:∀j c aM,aj [] Ω aM->j∈js->c∈rs->aM[j]?=some (.lst (c.map .str))->∃a,hG nc mc ([oR j]++dW cap ρ) aM=.ok (p c) a/\aj [] aM a)
  (B:∀j c aM,aj [] Ω aM->j∈js->c∈rs->aM[j]?=some (.lst (c.map .str))->∃m a,me ([oR j]++dW cap ρ) aM=.ok (.ref m) a/\aj [] aM a/\a[m]?=some (.lst ((f c).map .str))/\P m) :
  ∃b a,bo me nc mc mi 0 cap ρ Ω=.ok (.ref a.length) (a++[.lst (b.map .ref)])/\aj [] Ω a/\iW a b ((rs.filter p).map f)/\∀j∈b,P j:=by
 have C:=R.len
 obtain⟨J,a,e,b,rfl,o,D,q⟩:=tW (nc:=nc) (me:=me) (mc:=mc) (cap:=cap) (ds:=js.map .ref) (λi l a=>∃b,l=b.map .ref/\iW a b (((rs.take i).filter p).map f)/\aj [] Ω a/\∀j∈b,P j) z ⟨[],rfl,.nil,aj.refl,by simp⟩
  (λi l a h=>by
   obtain⟨_,_,_,K,_⟩:=h;rw[bU,aC,aA (R.keep K).ce])
  (λi d l aM E h=>by
   obtain⟨b,rfl,o,K,q⟩:=h;obtain⟨j,t,rfl⟩:=gI E;obtain⟨c,r,g⟩:=(R.keep K).al.at' t;obtain⟨a,w,n⟩:=A j c aM K (List.mem_of_getElem? t) (List.mem_of_getElem? r) g;cases s:p c with
   |false=>
    refine .inl ⟨a,by rw[w,s],b,rfl,?_,K.trans n,q⟩
    rw[List.take_succ,r,List.filter_append];simp[s];exact o.keep n (by simp)
   |true=>
    obtain⟨m,u,e,y,F,G⟩:=B j c a (K.trans n) (List.mem_of_getElem? t) (List.mem_of_getElem? r) (n.get _ _ g (by simp))
    refine .inr ⟨a,.ref m,u,by rw[w,s],e,b++[m],by simp,?_,(K.trans n).trans y,?_⟩
    .rw[List.take_succ,r,List.filter_append,List.map_append]
     simp only[Option.toList_some,List.filter_cons,s,List.filter_nil,if_true,List.map_cons,List.map_nil];exact((o.keep n (by simp)).keep y (by simp)).snoc F
    .intro x H
     rcases List.mem_append.mp H with h|h
     .exact q x h
     .rw[List.mem_singleton.mp h];exact G) (by simp;omega)
 refine⟨b,a,e,D,?_,q⟩;rw[List.length_map,←C,List.take_length]at o;exact o
theorem ne_nil{j:Nat}{i:Nat}(a:ρ[i]?=some (oR j))(h:Ω[j]?=some (.lst (row.map .str))):∃ao,m2 (aw .NotEq) (aa i) (mN bj ae) ρ Ω=.ok (.bl (decide (row≠[]))) ao/\aj [] Ω ao:=by
 refine⟨Ω++[.lst []],?_,aj.app⟩;have e:(mN bj ae) ρ Ω=.ok (.ref Ω.length) (Ω++[.lst []]):=by rw[cY,aX,ak,dz,if_pos (aN (by simp))]
 have g:(Ω++[Cell.lst []])[Ω.length]?=some (.lst (([]:List Str).map .str)):=av;rw[cX,gR,a,gQ,ak,e,ak,gU (dA h) g]
 congr 2
 by_cases z:row=[]<;>simp[z]
theorem Bb{i:Nat}(b:ρ[i]?=some (oR k))(R:Rw Ω k js rs):∃ao,m2 (aw .NotEq) (aa i) (mN bj ae) ρ Ω=.ok (.bl (decide (rs≠[]))) ao/\aj [] Ω ao:=by
 refine⟨Ω++[.lst []],?_,aj.app⟩;have e:(mN bj ae) ρ Ω=.ok (.ref Ω.length) (Ω++[.lst []]):=by rw[cY,aX,ak,dz,if_pos (aN (by simp))]
 have g:(Ω++[Cell.lst []])[Ω.length]?=some (.lst (([]:List Nat).map .ref)):=av;have a:=R.keep (ao:=Ω++[Cell.lst []]) aj.app;have c:=lu (n:=6) a.ce a.al;have d:=lu (n:=6) (L:=[]) g .nil;rw[cX,gR,b,gQ,ak,e,ak];simp[c,d]
def KD:SM:=(ag (bX (bp 5) (aL (cz (aa 1) false (af (.int 1)) true (af .non)))
 (ag (dO (aa 4) (aa 5) (af (.bl true)))
 ai))
 ai)
def ML:EM:=(bo (m2 az (aa 0) (af (.int 0))) false (m2 (aw .NotIn) (m2 az (aa 0) (af (.int 0))) (aa 1)) (aL (aa 2)) 0 [4])
def MM:EM:=(bo (bo (aa 0) false (m2 (aw .NotEq) (aa 0) (m2 az (aa 1) (af (.int 0)))) (aL (aa 0)) 0 [1]) true (af .non) (aL (aa 2)) 0 [6])
def Qt:EM:=(bo (aa 0) false (m2 (aw .NotEq) (aa 0) (mN bj ae)) (aL (aa 2)) 0 [])
def DX:EM:=(m2 (aw .NotEq) (aa 2) (mN bj ae))
def yf:SM:=
 (ag (ax 4 bY)
 (ag (bX (bp 1) (aL (aa 2))
 KD)
 (ag (ax 6 ML)
 (ag (dc (m2 (aw .Eq) (aa 6) (mN bj ae))
 (ag (aZ (af .non))
 ai)
 ai)
 (ag (bC (bQ eo bh (aa 3) (ab (m2 az (aa 6) (af (.int 0))) ae)))
 (ag (ax 2 MM)
 (ag (ax 2 Qt)
 ai)))))))
def KG:SM:=
 (ag (ax 2 (bo (mN (aO .list) (ab (aa 0) ae)) false (m2 (aw .NotEq) (aa 0) (mN bj ae)) (aL (aa 0)) 0 []))
 (ag (ax 3 (mN bj ae))
 (ag (jd DX
 yf)
 (ag (aZ (aa 3))
 ai))))
end
section
variable{Ω ao:aD}{ρ:aS}{k q b d:Nat}{js:List Nat}{rs:List (List Str)}{row:List Str}{n:Str}{told:List Str}{kvs:List (Key×D)}{m:Nat}{S S':Str->Prop}
def oA(Ω:aD)(d m:Nat)(S:Str->Prop):Prop:=∃a,Ω[d]?=some (.dK a)/\a.length<=m/\∀n,(bK a (.inr n)).isSome=true↔S n
theorem oA.keep{fp:List Nat}(h:oA Ω d m S)(K:aj fp Ω ao)(b:d∉fp):oA ao d m S:=let ⟨a,c,e,f⟩:=h;⟨a,K.get _ _ c b,e,f⟩
theorem oA.imp(h:oA Ω d m S)(b:∀n,S n↔S' n):oA Ω d m S':=let ⟨a,c,e,f⟩:=h;⟨a,c,e,λn=>(f n).trans (b n)⟩
theorem oA.put(h:oA Ω d m S)(c:m<=1000):∃ao,jx (.ref d) (.str n) (.bl true) Ω=some ao/\oA ao d (m+1) (λx=>S x\/x=n)/\aj [d] Ω ao:=by
 obtain⟨kvs,a,e,b⟩:=h;refine⟨_,rP a (by omega),⟨_,aQ a,by have:=xV (kvs:=kvs) (k:=.inr n) (v:=D.bl true);omega,λx=>?_⟩,aj.set (by simp)⟩
 rw[vg]
 by_cases z:x=n
 .subst z;simp
 .rw[if_neg (λq=>z (by cases q;rfl)),b]
  simp[z]
theorem Bc{j:Nat}(h:Ω[j]?=some (.lst (row.map .str))){i:Nat}(a:ρ[i]?=some (oR j)):cz (aa i) false (af (.int 1)) true (af .non) ρ Ω=.ok (.ref Ω.length) (Ω++[.lst (row.tail.map .str)]):=by
 have:=rK h;rw[iQ,gR,a,gQ,ak];simp[this]
theorem DY{j:Nat}{a0 a2 a3 a5 a6:Option D}(h:Ω[j]?=some (.lst (row.map .str)))(q:oA Ω d m S)(H:m+row.length<=900) :
  ∃a ao,KD [a0,oR j,a2,a3,oR d,a5,a6] Ω=.nx [a0,oR j,a2,a3,oR d,a,a6] ao/\oA ao d (m+row.length) (λx=>S x\/x∈row.tail)/\aj [d] Ω ao:=by
 have u:=Bc (ρ:=[a0,oR j,a2,a3,oR d,a5,a6]) h (i:=1) rfl;have s:(Ω++[Cell.lst (row.tail.map .str)])[Ω.length]?=some (.lst (row.tail.map .str)):=av;have w:aj [d] Ω (Ω++[Cell.lst (row.tail.map .str)]):=aj.app;have g:oA (Ω++[Cell.lst (row.tail.map .str)]) d m S:=q.keep (fp:=[]) aj.app (by simp)
 have I:d<Ω.length:=let ⟨_,z,_⟩:=q;bH z
 generalize Ω++[Cell.lst (row.tail.map .str)]=f at *
 have k:aL (cz (aa 1) false (af (.int 1)) true (af .non)) [a0,oR j,a2,a3,oR d,a5,a6] Ω=.ok (.seq (.ref Ω.length)) f:=by
  rw[bf,u,ak];exact aR (by rw[aC,aA s])
 unfold KD;rw[ah,cv,k,b9];have A:row.tail.length<=row.length:=by simp
 refine bF (R:=λr=>∃a ao,sq r _=.nx [a0,oR j,a2,a3,oR d,a,a6] ao/\oA ao d (m+row.length) (λx=>S x\/x∈row.tail)/\aj [d] Ω ao) (ds:=row.tail.map .str)
  (λi ρ b=>∃a,ρ=[a0,oR j,a2,a3,oR d,a,a6]/\oA b d (m+i) (λx=>S x\/x∈row.tail.take i)/\aj [d] f b) ?_ ?_ ?_ fuel 0 _ _ (by unfold fuel;simp;omega) (Nat.zero_le _) ⟨a5,rfl,g.imp (by simp),aj.refl⟩
 .rintro i ρ b ⟨_,_,_,K⟩
  rw[bU,aC,aA (K.get _ _ s (by simp;omega))]
 .rintro i e ρ b B ⟨a,rfl,c,K⟩
  obtain⟨x,t,rfl⟩:=dG B;have J:=(List.getElem?_eq_some_iff.mp t).1;refine⟨[a0,oR j,a2,a3,oR d,oS x,a6],rfl,?_⟩;obtain⟨l,C,o,E⟩:=c.put (n:=x) (by omega)
  have:(ag (dO (aa 4) (aa 5) (af (.bl true))) ai) [a0,oR j,a2,a3,oR d,oS x,a6] b=.nx [a0,oR j,a2,a3,oR d,oS x,a6] l:=by
   rw[ah];unfold dO
   show sq (match jx (.ref d) (.str x) (.bl true) b with|some ao=>eS.nx _ ao|none=>.bad) _=_
   rw[C];rfl
  rw[this];refine⟨_,rfl,o.imp λy=>?_,K.trans E⟩
  rw[List.take_succ,t];simp[or_assoc]
 .rintro ρ b ⟨a,rfl,c,K⟩
  rw[List.length_map,List.take_length]at c;obtain⟨p,F,L,G⟩:=c;exact⟨a,b,rfl,⟨p,F,by omega,G⟩,w.trans K⟩
theorem Bd{i:Nat}(a:rs[i]?=some row):tl (rs.take i)+row.length=tl (rs.take (i+1)):=by
 unfold tl;rw[List.take_succ,a];simp
theorem HF{i:Nat}:tl (rs.take i)<=tl rs:=by
 have:tl rs=tl (rs.take i)+tl (rs.drop i):=by
  unfold tl;rw[←List.sum_append,←List.map_append,List.take_append_drop]
 omega
theorem DZ{a0 a1 a3 a5 a6:Option D}(R:Rw Ω k js rs)(q:Ω[d]?=some (.dK []))(O:rs.length<=1000)(P:tl rs<=800) :
  ∃c a ao,bX (bp 1) (aL (aa 2)) KD [a0,a1,oR k,a3,oR d,a5,a6] Ω=.nx [a0,c,oR k,a3,oR d,a,a6] ao/\oA ao d 900 (λx=>∃r∈rs,x∈r.tail)/\aj [d] Ω ao:=by
 have F:=R.len;have s:k≠d:=λz=>by have:=R.ce;rw[z,q]at this;cases this
 have t:∀j∈js,j∉[d]:=λj u z=>by
  obtain⟨i,G⟩:=List.mem_iff_getElem?.mp u;obtain⟨g,_,w⟩:=R.al.at' G;rw[List.mem_singleton.mp z,q]at w;cases w
 have B:∀b,aj [d] Ω b->Rw b k js rs:=λb K=>R.tQ K (by simpa using s) t
 have y:aL (aa 2) [a0,a1,oR k,a3,oR d,a5,a6] Ω=.ok (.seq (.ref k)) Ω:=by
  rw[bf];exact aR (by rw[aC,aA R.ce])
 rw[cv,y,b9]
 refine bF (R:=λr=>∃c a ao,r=.nx [a0,c,oR k,a3,oR d,a,a6] ao/\oA ao d 900 (λx=>∃r∈rs,x∈r.tail)/\aj [d] Ω ao) (ds:=js.map .ref)
  (λi p b=>∃c a,p=[a0,c,oR k,a3,oR d,a,a6]/\oA b d (tl (rs.take i)) (λx=>∃r∈rs.take i,x∈r.tail)/\aj [d] Ω b) ?_ ?_ ?_ fuel 0 _ _ (by unfold fuel;simp;omega) (Nat.zero_le _) ⟨a1,a5,rfl,⟨[],q,by simp[tl],λn=>by simp[bK]⟩,aj.refl⟩
 .rintro i p b ⟨_,_,_,_,K⟩
  rw[bU,aC,aA (B _ K).ce]
 .rintro i e p b H ⟨c,a,rfl,f,K⟩
  obtain⟨j,u,rfl⟩:=gI H;obtain⟨g,C,h⟩:=(B _ K).al.at' u;refine⟨[a0,oR j,oR k,a3,oR d,a,a6],rfl,?_⟩;have I:=Bd C;have w:=HF (rs:=rs) (i:=i+1);obtain⟨E,J,L,l,M⟩:=DY (a0:=a0) (a2:=oR k) (a3:=a3) (a5:=a) (a6:=a6) h f (by omega)
  rw[L];refine⟨_,_,rfl,?_,K.trans M⟩;rw[I]at l;refine l.imp λx=>?_
  rw[List.take_succ,C];simp only[List.mem_append,Option.toList_some,List.mem_singleton];constructor
  .rintro(⟨r,m,o⟩|z)
   .exact⟨r,.inl m,o⟩
   .exact⟨g,.inr rfl,z⟩
  .rintro⟨r,m|rfl,o⟩
   .exact .inl ⟨r,m,o⟩
   .exact .inr o
 .rintro p b ⟨c,a,rfl,f,K⟩
  rw[List.length_map,←F,List.take_length]at f;obtain⟨A,m,o,N⟩:=f;exact⟨c,a,b,rfl,⟨A,m,by omega,N⟩,K⟩
theorem D8{a0 a1 a3 a5 a6:Option D}(R:Rw Ω k js rs)(A:oA Ω d 900 (λx=>∃r∈rs,x∈r.tail))(p:∀r∈rs,r≠[])(G:rs.length<=1000) :
  ML [a0,a1,oR k,a3,oR d,a5,a6] Ω=.ok (.ref Ω.length) (Ω++[.lst ((rs.filterMap (freeOf rs)).map .str)]):=by
 have B:=R.len;obtain⟨b,C,H,z⟩:=A
 have s:aL (aa 2) [a0,a1,oR k,a3,oR d,a5,a6] Ω=.ok (.seq (.ref k)) Ω:=by
  rw[bf];exact aR (by rw[aC,aA R.ce])
 obtain⟨I,c,e,rfl,rfl⟩:=tW (ρ:=[a0,a1,oR k,a3,oR d,a5,a6]) (nc:=false) (me:=m2 az (aa 0) (af (.int 0))) (mc:=m2 (aw .NotIn) (m2 az (aa 0) (af (.int 0))) (aa 1)) (cap:=[4]) (ds:=js.map .ref) (λi f c=>f=((rs.take i).filterMap (freeOf rs)).map .str/\c=Ω) s ⟨rfl,rfl⟩
  (λi f c h=>by
   obtain⟨_,rfl⟩:=h;rw[bU,aC,aA R.ce])
  (λi e f a E h=>by
   obtain⟨rfl,rfl⟩:=h;obtain⟨j,F,rfl⟩:=gI E;obtain⟨u,w,g⟩:=R.al.at' F;cases u with
   |nil=>exact absurd rfl (p [] (List.mem_of_getElem? w))
   |cons x t=>
    have l:az (.ref j) (.int 0) a=.ok (.str x) a:=cQ g (L2.dv (j:=0) rfl);have y:=Hg (n:=x) (.inl C)
    have m:hG false (m2 (aw .NotIn) (m2 az (aa 0) (af (.int 0))) (aa 1)) ([oR j]++dW [4] [a0,a1,oR k,a3,oR d,a5,a6]) a=.ok (!(bK b (.inr x)).isSome) a:=by
     show cB ((az (.ref j) (.int 0) a).bind _)=_
     rw[l,ak]
     show cB (aw .NotIn (.str x) (.ref d) a)=_
     rw[y];rfl
    by_cases o:∃r∈rs,x∈r.tail
    .rw[(z x).mpr o]at m
     refine .inl ⟨a,m,?_,rfl⟩;rw[List.take_succ,w,List.filterMap_append];simp[dC o]
    .have:(bK b (.inr x)).isSome=false:=by
      cases q:(bK b (.inr x)).isSome with
      |true=>exact absurd ((z x).mp q) o
      |false=>rfl
     rw[this]at m;refine .inr ⟨a,.str x,a,m,?_,?_,rfl⟩
     .show az (.ref j) (.int 0) a=_
      exact l
     .rw[List.take_succ,w,List.filterMap_append]
      simp[dD o]) (by simp;omega)
 rw[List.length_map,←B,List.take_length]at e;exact e
theorem D9{a0 a1 a3 a5:Option D}{f:Nat}{t:List Str}{a4:Option D}(R:Rw Ω k js rs)(s:Ω[f]?=some (.lst ((n::t).map .str)))(u:rs.length<=1000)(w:∀r∈rs,r.length<=1000) :
  ∃i b,MM [a0,a1,oR k,a3,a4,a5,oR f] Ω=.ok (.ref b.length) (b++[.lst (i.map .ref)])/\aj [] Ω b/\iW b i (rs.map λr=>r.filter λx=>decide (x≠n))/\∀j∈i,Ω.length<=j:=by
 have l:aL (aa 2) [a0,a1,oR k,a3,a4,a5,oR f] Ω=.ok (.seq (.ref k)) Ω:=by
  rw[bf];exact aR (by rw[aC,aA R.ce])
 refine lA (ρ:=[a0,a1,oR k,a3,a4,a5,oR f]) (me:=bo (aa 0) false (m2 (aw .NotEq) (aa 0) (m2 az (aa 1) (af (.int 0)))) (aL (aa 0)) 0 [1]) (mc:=af .non) (cap:=[6]) (f:=λr=>r.filter λx=>decide (x≠n)) (P:=λj=>Ω.length<=j) l R u (λj c a K B m h=>?_)
 have o:=K.get _ _ s (by simp)
 have q:az (.ref f) (.int 0) a=.ok (.str n) a:=cQ o (L2.dv (j:=0) rfl)
 have e:=cR (ρ:=[oR j,oR f]) (Ω:=a) (ao:=a) (me:=aa 0) (mc:=m2 (aw .NotEq) (aa 0) (m2 az (aa 1) (af (.int 0)))) (nc:=false) (mi:=aL (aa 0)) (cap:=[1]) (src:=.seq (.ref j)) (ds:=c.map .str) (p:=λd=>match d with|.str x=>decide (x≠n)|_=>false) (g:=λd=>d) (by
   rw[bf];exact aR (by rw[aC,aA h])) (by rw[bU,aC,aA h]) (λd y=>by
   obtain⟨x,C,rfl⟩:=List.mem_map.mp y
   show cB ((az (.ref f) (.int 0) a).bind _)=_
   rw[q,ak]
   show cB (aw .NotEq (.str x) (.str n) a)=_
   by_cases z:x=n<;>simp[z]) (λd _ _=>rfl) (by have:=w c m;simp;omega)
 have A:((c.map D.str).filter (λd=>match d with|.str x=>decide (x≠n)|_=>false)).map (λd:D=>d)=(c.filter λx=>decide (x≠n)).map .str:=by
  rw[List.map_id',List.filter_map];rfl
 rw[A]at e;exact⟨a.length,_,e,aj.app,av,K.len⟩
theorem D_{a0 a1 a3 a4 a5 a6:Option D}(R:Rw Ω k js rs)(o:rs.length<=1000) :
  ∃b a,Qt [a0,a1,oR k,a3,a4,a5,a6] Ω=.ok (.ref a.length) (a++[.lst (b.map .ref)])/\aj [] Ω a/\iW a b (ne rs)/\∀j∈b,j∈js:=by
 have g:aL (aa 2) [a0,a1,oR k,a3,a4,a5,a6] Ω=.ok (.seq (.ref k)) Ω:=by
  rw[bf];exact aR (by rw[aC,aA R.ce])
 obtain⟨b,a,e,K,m,q⟩:=mV (ρ:=[a0,a1,oR k,a3,a4,a5,a6]) (nc:=false) (me:=aa 0) (mc:=m2 (aw .NotEq) (aa 0) (mN bj ae)) (cap:=[]) (f:=λr=>r) (p:=λr=>decide (r≠[])) (P:=λj=>j∈js) g R o (λj h d K n l c=>by
  obtain⟨a,e,s⟩:=ne_nil (ρ:=[oR j]) (i:=0) rfl c;refine⟨a,?_,s⟩
  show cB (m2 (aw .NotEq) (aa 0) (mN bj ae) [oR j] d)=_
  rw[e];rfl) (λj h d K n l c=>⟨j,d,rfl,aj.refl,c,n⟩)
 rw[List.map_id']at m;exact⟨b,a,e,K,m,q⟩
end
section
variable{Ω ao:aD}{ρ:aS}{k q b d:Nat}{js:List Nat}{rs:List (List Str)}{row:List Str}{n:Str}{told:List Str}
theorem HG{rs:List (List Str)}:(ne rs).length<=rs.length:=List.length_filter_le _ _
theorem HH{rs:List (List Str)}:tl (ne rs)=tl rs:=by
 unfold tl ne
 induction rs with
 |nil=>rfl
 |cons a rs b=>
  by_cases c:a=[]
  .subst c
   simp only[List.filter_cons,ne_eq,not_true_eq_false,decide_false,List.map_cons,List.sum_cons,List.length_nil]at b ⊢;simp at b ⊢;exact b
  .simp only[List.filter_cons,c,ne_eq,not_false_eq_true,decide_true,if_true,List.map_cons,List.sum_cons]
   rw[b]
theorem Ea{rs:List (List Str)}{r:List Str}(h:r∈rs):r.length<=tl rs:=by
 unfold tl
 induction rs with
 |nil=>simp at h
 |cons a rs b=>
  simp only[List.map_cons,List.sum_cons];rcases List.mem_cons.mp h with z|z
  .subst z;omega
  .have:=b z;omega
theorem Eb{a0 a1 a4 a5 a6:Option D}(R:Rw Ω k js (ne rs))(G:Ω[q]?=some (.lst (told.map .str)))(H:q≠k)(I:q∉js)(hl:rs.length<=900)(ht:tl rs<=800)(hp:told.length<=900) :
  (free rs=none/\∃ao,yf [a0,a1,oR k,oR q,a4,a5,a6] Ω=.rt .non ao/\aj [] Ω ao) \/
  ∃n b J c K L u ao,free rs=some n/\yf [a0,a1,oR k,oR q,a4,a5,a6] Ω=.nx [a0,b,oR L,oR q,J,c,K] ao/\Rw ao L u (ne (rs.map (cE n)))/\ao[q]?=some (.lst ((told++[n]).map .str))/\q≠L/\q∉u/\aj [q] Ω ao:=by
 have b0:=HG (rs:=rs);have c0:=HH (rs:=rs);have lq:=bH G;have lk:=bH R.ce;have lj:=R.al.lt;have g1:(Ω++[Cell.dK []])[Ω.length]?=some (.dK []):=av;have X:aj [] Ω (Ω++[Cell.dK []]):=aj.app;have Y:ax 4 bY [a0,a1,oR k,oR q,a4,a5,a6] Ω=.nx [a0,a1,oR k,oR q,oR Ω.length,a5,a6] (Ω++[Cell.dK []]):=rfl;have l1:(Ω++[Cell.dK []]).length=Ω.length+1:=by simp
 generalize Ω++[Cell.dK []]=e0 at *;obtain⟨b,c,a,Z,M,K2⟩:=DZ (a0:=a0) (a1:=a1) (a3:=oR q) (a5:=a5) (a6:=a6) (R.keep X) g1 (by omega) (by omega)
 have o:aj [] Ω a:=aj.new X K2 (by simp)
 have R2:=R.keep o;have f0:=o.get _ _ G (by simp)
 have F:=D8 (a0:=a0) (a1:=b) (a3:=oR q) (a5:=c) (a6:=a6) R2 M (λr w=>(lE.mp w).2) (by omega)
 have g3:(a++[Cell.lst (((ne rs).filterMap (freeOf (ne rs))).map .str)])[a.length]?=some (.lst (((ne rs).filterMap (freeOf (ne rs))).map .str)):=av;have K3:aj [] a (a++[Cell.lst (((ne rs).filterMap (freeOf (ne rs))).map .str)]):=aj.app;have l3:(a++[Cell.lst (((ne rs).filterMap (freeOf (ne rs))).map .str)]).length=a.length+1:=by simp
 have hh:((ne rs).filterMap (freeOf (ne rs))).head?=free rs:=by
  rw[List.head?_filterMap,←A9];rfl
 generalize (ne rs).filterMap (freeOf (ne rs))=fl at *
 have F:ax 6 ML [a0,b,oR k,oR q,oR Ω.length,c,a6] a=.nx [a0,b,oR k,oR q,oR Ω.length,c,oR a.length] (a++[Cell.lst (fl.map .str)]):=by
  rw[bu,F];rfl
 generalize a++[Cell.lst (fl.map .str)]=g at *;have N:=o.trans K3;have g4:(g++[Cell.lst []])[g.length]?=some (.lst (([]:List Str).map .str)):=av;have O:aj [] g (g++[Cell.lst []]):=aj.app
 have e4:(m2 (aw .Eq) (aa 6) (mN bj ae)) [a0,b,oR k,oR q,oR Ω.length,c,oR a.length] g=.ok (.bl (decide (fl=[]))) (g++[Cell.lst []]):=by
  have e:(mN bj ae) [a0,b,oR k,oR q,oR Ω.length,c,oR a.length] g=.ok (.ref g.length) (g++[.lst []]):=by rw[cY,aX,ak,dz,if_pos (aN (by simp))]
  have:aa 6 [a0,b,oR k,oR q,oR Ω.length,c,oR a.length] g=.ok (.ref a.length) g:=rfl;rw[cX,this,ak,e,ak,tR (O.get _ _ g3 (by simp)) g4]
 have l4:(g++[Cell.lst []]).length=g.length+1:=by simp
 generalize g++[Cell.lst []]=f at *;have m:=N.trans O;cases fl with
 |nil=>
  refine .inl ⟨by rw[←hh];rfl,f,?_,m⟩
  unfold yf;rw[ah,Y,aB,ah,Z,aB,ah,F,aB,ah,cx,e4];rfl
 |cons n t=>
  have y:free rs=some n:=by rw[←hh];rfl
  refine .inr ⟨n,?_⟩;have R4:=R.keep m;have p:=m.get _ _ G (by simp)
  have A:=O.get _ _ g3 (by simp)
  have r4:(dc (m2 (aw .Eq) (aa 6) (mN bj ae)) (ag (aZ (af .non)) ai) ai) [a0,b,oR k,oR q,oR Ω.length,c,oR a.length] g=.nx [a0,b,oR k,oR q,oR Ω.length,c,oR a.length] f:=by
   rw[cx,e4];rfl
  have P:az (.ref a.length) (.int 0) f=.ok (.str n) f:=cQ A (L2.dv (j:=0) rfl);have Q:=dZ (d:=.str n) p (by simp;omega)
  have r5:(bC (bQ eo bh (aa 3) (ab (m2 az (aa 6) (af (.int 0))) ae))) [a0,b,oR k,oR q,oR Ω.length,c,oR a.length] f=.nx [a0,b,oR k,oR q,oR Ω.length,c,oR a.length] (f.set q (.lst (told.map .str++[.str n]))):=by
   rw[bT,dE (x:=.ref q) (ao:=f) rfl (c8 p)]
   have:(ab (m2 az (aa 6) (af (.int 0))) ae:AM) [a0,b,oR k,oR q,oR Ω.length,c,oR a.length] f=.ok [.str n] f:=by
    show((az (.ref a.length) (.int 0) f).bind _)=_
    rw[P];rfl
   rw[this,ak,Q];rfl
  have S:aj [q] f (f.set q (.lst (told.map .str++[.str n]))):=aj.set (by simp)
  have T:(f.set q (.lst (told.map .str++[.str n])))[q]?=some (.lst ((told++[n]).map .str)):=by rw[aQ p];simp
  have l5:(f.set q (.lst (told.map .str++[.str n]))).length=f.length:=by simp
  generalize f.set q (.lst (told.map .str++[.str n]))=s at *;have R5:Rw s k js (ne rs):=R4.tQ S (by simpa using Ne.symm H) (λj hj h=>I (by rw[←List.mem_singleton.mp h];exact hj))
  have U:=S.get _ _ A (by have:=o.len;simp;omega)
  obtain⟨l,i,e6,K6,h6,j6⟩:=D9 (a0:=a0) (a1:=b) (a3:=oR q) (a4:=oR Ω.length) (a5:=c) R5 U (by omega) (λr w=>by have:=Ea w;omega)
  have B:((ne rs).map λr=>r.filter λx=>decide (x≠n))=(ne rs).map (cE n):=List.map_congr_left λr w=>p9 (vi y r (lE.mp w).1)
  rw[B]at h6;have R7:Rw (i++[.lst (l.map .ref)]) i.length l ((ne rs).map (cE n)):=⟨av,h6.keep (fp:=[]) aj.app (by simp)⟩
  have K7:aj [] s (i++[Cell.lst (l.map .ref)]):=K6.trans aj.app
  have r6:ax 2 MM [a0,b,oR k,oR q,oR Ω.length,c,oR a.length] s=.nx [a0,b,oR i.length,oR q,oR Ω.length,c,oR a.length] (i++[.lst (l.map .ref)]):=by
   rw[bu,e6];rfl
  have l6:=K6.len;have l7:(i++[Cell.lst (l.map .ref)]).length=i.length+1:=by simp
  generalize i++[Cell.lst (l.map .ref)]=g0 at *;obtain⟨C,E,e8,V,h8,j8⟩:=D_ (a0:=a0) (a1:=b) (a3:=oR q) (a4:=oR Ω.length) (a5:=c) (a6:=oR a.length) R7 (by simp;omega)
  rw[A_]at h8;have h0:=m.len;have l8:=V.len;refine⟨b,oR Ω.length,c,oR a.length,E.length,C,E++[.lst (C.map .ref)],y,?_,⟨av,h8.keep (fp:=[]) aj.app (by simp)⟩,dA (V.get _ _ (K7.get _ _ T (by simp)) (by simp)),by omega,λz=>?_,((fB.up m).trans S).trans (fB.up ((K7.trans V).trans aj.app))⟩
  .unfold yf
   rw[ah,Y,aB,ah,Z,aB,ah,F,aB,ah,r4,aB,ah,r5,aB,ah,r6,aB,ah,bu,e8];rfl
  .have:=j6 q (j8 q z)
   omega
theorem Ec{rs:List (List Str)}(h:ne rs=[]):Mg rs []:=.done λr a=>by
 by_cases z:r=[]
 .exact z
 .have:r∈ne rs:=lE.mpr ⟨a,z⟩
  rw[h]at this;simp at this
theorem yg{a0:Option D}:∀(m:Nat) (Ω:aD) (rs:List (List Str)) (a:List Str) (q k:Nat) (s:List Nat) (a1 a4 a5 a6:Option D),tl rs<m->Rw Ω k s (ne rs)->Ω[q]?=some (.lst (a.map .str))->q≠k->q∉s->rs.length<=900->a.length+tl rs<=800 ->
  (∃ao,eO DX yf m [a0,a1,oR k,oR q,a4,a5,a6] Ω=.rt .non ao/\aj [q] Ω ao) \/
  ∃o c x d e f ao,eO DX yf m [a0,a1,oR k,oR q,a4,a5,a6] Ω=.nx [a0,c,x,oR q,d,e,f] ao/\Mg rs o/\ao[q]?=some (.lst ((a++o).map .str))/\aj [q] Ω ao:=by
 intro m
 induction m with
 |zero=>intro Ω rs a q k s a1 a4 a5 a6 h;omega
 |succ m K=>
  intro Ω rs a q k s a1 a4 a5 a6 P R H y z I J;obtain⟨g,p,j⟩:=Bb (ρ:=[a0,a1,oR k,oR q,a4,a5,a6]) (i:=2) rfl R;have p:DX [a0,a1,oR k,oR q,a4,a5,a6] Ω=.ok (.bl (decide (ne rs≠[]))) g:=p
  by_cases A:ne rs=[]
  .rw[decide_eq_false (by simpa using A)]at p
   refine .inr ⟨[],a1,oR k,a4,a5,a6,g,?_,Ec A,by rw[List.append_nil];exact j.get _ _ H (by simp),fB.up j⟩
   simp only[eO,p];rfl
  .rw[decide_eq_true (by simpa using A)]at p
   have step:eO DX yf (m+1) [a0,a1,oR k,oR q,a4,a5,a6] Ω=(match yf [a0,a1,oR k,oR q,a4,a5,a6] g with|.nx b ao=>eO DX yf m b ao|.ct b ao=>eO DX yf m b ao|.bk b ao=>.nx b ao|r=>r):=by
    simp only[eO,p];rfl
   have B:=j.get _ _ H (by simp)
   rcases Eb (a0:=a0) (a1:=a1) (a4:=a4) (a5:=a5) (a6:=a6) (R.keep j) B y z I (by omega) (by omega)with ⟨_,l,u,w⟩|⟨n,c,d,e,f,L,C,l,E,u,R2,F,M,N,w⟩
   .refine .inl ⟨l,?_,fB.up (j.trans w)⟩
    rw[step,u]
   .have O:=Ba (mU E)
    have G:∃r∈rs,r≠[]:=by
     obtain⟨t,J⟩:=mU E;exact⟨_,J,by simp⟩
    rcases K l (rs.map (cE n)) (a++[n]) q L C c d e f (by omega) R2 F M N (by simpa using I) (by simp;omega)with ⟨MN,e3,K3⟩|⟨o,b1,b2,b4,b5,b6,MN,e3,M3,RS,K3⟩
    .refine .inl ⟨MN,?_,((fB.up j).trans w).trans K3⟩
     rw[step,u];exact e3
    .refine .inr ⟨n::o,b1,b2,b4,b5,b6,MN,?_,.step G E M3,by rw[RS];simp,((fB.up j).trans w).trans K3⟩
     rw[step,u];exact e3
def Be(e:ba):Prop:=∀(b:aD) (k:Nat) (f:List Nat) (c:List (List Str)),Rw b k f c->c.length<=900->tl c<=800->∃d a,e [.ref k] b=.ok d a/\aj [] b a/\(d=.non\/∃o q,d=.ref q/\a[q]?=some (.lst (o.map .str))/\Mg c o/\b.length<=q)
theorem HI:Be (bL 7 1 KG):=by
 intro h k I q R y A;rw[bt (by rfl)]
 have B:aV 7 [D.ref k]=[oR k,none,none,none,none,none,none]:=rfl;rw[B]
 have s:aL (aa 0) [oR k,none,none,none,none,none,none] h=.ok (.seq (.ref k)) h:=by
  rw[bf];exact aR (by rw[aC,aA R.ce])
 obtain⟨c,a,C,E,l,J⟩:=mV (ρ:=[oR k,none,none,none,none,none,none]) (nc:=false) (me:=mN (aO .list) (ab (aa 0) ae)) (mc:=m2 (aw .NotEq) (aa 0) (mN bj ae)) (cap:=[]) (f:=λr=>r) (p:=λr=>decide (r≠[])) (P:=λj=>h.length<=j) s R (by omega) (λj m a K F t d=>by
  obtain⟨b,e,n⟩:=ne_nil (ρ:=[oR j]) (i:=0) rfl d;refine⟨b,?_,n⟩
  show cB (m2 (aw .NotEq) (aa 0) (mN bj ae) [oR j] a)=_
  rw[e];rfl) (λj m a K F t d=>by
  refine⟨a.length,a++[.lst (m.map .str)],?_,aj.app,av,K.len⟩
  show aO .list [.ref j] a=_
  exact cT d)
 rw[List.map_id']at l;have l:iW a c (ne q):=l;have R2:Rw (a++[.lst (c.map .ref)]) a.length c (ne q):=⟨av,l.keep (fp:=[]) aj.app (by simp)⟩
 have n:aj [] h (a++[Cell.lst (c.map .ref)]):=E.trans aj.app;have L:(a++[Cell.lst (c.map .ref)]).length=a.length+1:=by simp
 have G:=l.lt
 have w:ax 2 (bo (mN (aO .list) (ab (aa 0) ae)) false (m2 (aw .NotEq) (aa 0) (mN bj ae)) (aL (aa 0)) 0 []) [oR k,none,none,none,none,none,none] h=.nx [oR k,none,oR a.length,none,none,none,none] (a++[Cell.lst (c.map .ref)]):=by
  rw[bu,C];rfl
 generalize a++[Cell.lst (c.map .ref)]=b at *;have u:aj [] b (b++[Cell.lst []]):=aj.app;have H:(b++[Cell.lst []])[b.length]?=some (.lst (([]:List Str).map .str)):=av;have x:(ax 3 (mN bj ae)) [oR k,none,oR a.length,none,none,none,none] b=.nx [oR k,none,oR a.length,oR b.length,none,none,none] (b++[Cell.lst []]):=by simp[aN]
 have g:=n.len;rcases yg (a0:=oR k) fuel (b++[Cell.lst []]) q [] b.length a.length c none none none none (by unfold fuel;omega) (R2.keep u) H (by omega) (λz=>by have:=G _ z;omega) y (by simpa using A)with ⟨MO,e4,K4⟩|⟨o,b1,b2,b4,b5,b6,MO,e4,M4,RT,K4⟩
 .refine⟨.non,MO,?_,aj.new (n.trans u) K4 (by simpa using g),.inl rfl⟩
  unfold KG;rw[ah,w,aB,ah,x,aB,ah];unfold jd;rw[e4];rfl
 .refine⟨.ref b.length,MO,?_,aj.new (n.trans u) K4 (by simpa using g),.inr ⟨o,b.length,rfl,by simpa using RT,M4,g⟩⟩
  unfold KG;rw[ah,w,aB,ah,x,aB,ah];unfold jd;rw[e4];rfl
end
structure fX(E:en)(L:Str->List Str):Prop where
 nd:(nms E).Nodup
 el:∀(i:Nat) (p:Str×List Str),E[i]?=some p->p.2.Nodup/\p.2.length<=5/\∀x∈p.2,x∈(nms E).take i
 ln:∀(i:Nat) (p:Str×List Str),E[i]?=some p->∃o,Mg (p.2.map L++[p.2]) o/\L p.1=p.1::o
 len:E.length<=12
section
variable{E:en}{L:Str->List Str}{i:Nat}{p:Str×List Str}{n:Str}{r o:List Str}
theorem lF:nms (E.take i)=(nms E).take i:=by simp[nms,List.map_take]
theorem iT(h:E[i]?=some p):(nms E)[i]?=some p.1:=by simp[nms,h]
theorem gW(h:(nms E)[i]?=some n):∃r,E[i]?=some (n,r):=by
 simp only[nms,List.getElem?_map,Option.map_eq_some_iff]at h;obtain⟨q,a,b⟩:=h;exact⟨q.2,by rw[a,←b]⟩
theorem yh(e:(nms E).Nodup)(h:E[i]?=some p):bq E p.1=p.2:=by
 have c:=iT h;have f:(p.1,bq E p.1)∈E:=oo (eR (List.mem_of_getElem? c));obtain⟨g,a⟩:=List.mem_iff_getElem?.mp f;have d:=iT a;have b:=(List.getElem?_eq_some_iff.mp d).1;have:=(List.getElem?_inj b e).mp (d.trans c.symm);subst this;rw[h]at a;have z:=Option.some.inj a;exact(congrArg (·.2) z).symm
theorem b_{xs:List Str}{x:Str}(h:x∈xs.take i):∃j,j<i/\xs[j]?=some x:=by
 obtain⟨j,a⟩:=List.mem_iff_getElem?.mp h;have b:=(List.getElem?_eq_some_iff.mp a).1;rw[List.length_take]at b;rw[List.getElem?_take_of_lt (by omega)]at a
 exact⟨j,by omega,a⟩
theorem gJ{xs:List Str}{x:Str}{j:Nat}(a:j<i)(h:xs[j]?=some x):x∈xs.take i:=List.mem_of_getElem? (i:=j) (by rw[List.getElem?_take_of_lt a];exact h)
namespace fX
theorem nil:fX [] L:=⟨by simp[nms],λi p h=>by simp at h,λi p h=>by simp at h,by simp⟩
theorem Bf(G:fX E L)(b:n∈nms E):∃i:Nat,E[i]?=some (n,bq E n):=by
 obtain⟨i,c⟩:=List.mem_iff_getElem?.mp b;obtain⟨r,a⟩:=gW c;exact⟨i,by rw[a,show bq E n=r from yh G.nd a]⟩
theorem sub(G:fX E L)(a:n∈nms E):∀x∈bq E n,x∈nms E:=λx b=>by
 obtain⟨i,c⟩:=G.Bf a;exact List.mem_of_mem_take ((G.el i _ c).2.2 x b)
theorem gd(G:fX E L):Gd E where
 nd:=G.nd
 el:=λn c=>G.sub c
 rk:=⟨λx=>(nms E).idxOf x,λn c x f=>by
  obtain⟨i,d⟩:=G.Bf c;obtain⟨j,g,e⟩:=b_ ((G.el i _ d).2.2 x f);have h:=iT d
  have k:(nms E).idxOf x=j:=by
   have:=(List.getElem?_eq_some_iff.mp e);obtain⟨a,b⟩:=this;rw[←b];exact List.Nodup.idxOf_getElem G.nd j a
  have l:(nms E).idxOf n=i:=by
   obtain⟨a,b⟩:=(List.getElem?_eq_some_iff.mp h);have b:(nms E)[i]=n:=b;rw[←b];exact List.Nodup.idxOf_getElem G.nd i a
  show(nms E).idxOf x<(nms E).idxOf n
  rw[k,l];exact g⟩
 few:=by have:=G.len;omega
 short:=λn c=>by
  obtain⟨i,d⟩:=G.Bf c;have:=(G.el i _ d).2.1;have:(bq E n).length<=5:=this;omega
theorem KH(G:fX E L):Hn E L:=λn a=>by
 obtain⟨i,b⟩:=G.Bf a;exact G.ln i _ b
theorem take(G:fX E L)(k:Nat):fX (E.take k) L where
 nd:=by rw[lF];exact G.nd.sublist (List.take_sublist _ _)
 el:=λi p h=>by
  have a:=(List.getElem?_eq_some_iff.mp h).1;rw[List.length_take]at a;rw[List.getElem?_take_of_lt (by omega)]at h
  obtain⟨b,c,d⟩:=G.el i p h;refine⟨b,c,λx e=>?_⟩
  rw[lF,List.take_take,Nat.min_eq_left (by omega)]
  exact d x e
 ln:=λi p h=>by
  have a:=(List.getElem?_eq_some_iff.mp h).1;rw[List.length_take]at a;rw[List.getElem?_take_of_lt (by omega)]at h
  exact G.ln i p h
 len:=by have:=G.len;rw[List.length_take];omega
theorem mem(G:fX E L):∀(k i:Nat) (n:Str),i<k->(nms E)[i]?=some n->∀x∈L n,x∈nms E:=by
 intro k
 induction k with
 |zero=>intro i n h;omega
 |succ k l=>
  intro i n s e x f;obtain⟨r,g⟩:=gW e;obtain⟨o,M,b⟩:=G.ln i _ g;have b:L n=n::o:=b;rw[b]at f;rcases List.mem_cons.mp f with z|z
  .rw[z];exact List.mem_of_getElem? e
  .obtain⟨m,p,c⟩:=lg M x z
   have a:=(G.el i _ g).2.2;rcases List.mem_append.mp p with h|h
   .obtain⟨y,q,rfl⟩:=List.mem_map.mp h
    obtain⟨j,t,d⟩:=b_ (a y q);exact l j y (by omega) d x c
   .rw[List.mem_singleton.mp h]at c
    exact List.mem_of_mem_take (a x c)
theorem short(G:fX E L)(c:n∈nms E):(L n).length<=13:=by
 obtain⟨i,b⟩:=List.mem_iff_getElem?.mp c;obtain⟨r,d⟩:=gW b;obtain⟨o,M,a⟩:=G.ln i _ d;have a:L n=n::o:=a;have e:=G.mem (i+1) i n (by omega) b
 have g:=ot (xs:=nms E) (pT M) (λx f=>e x (by rw[a];simp[f]))
 have h:(nms E).length=E.length:=by simp[nms]
 have:=G.len;rw[a];simp;omega
theorem mg(G:fX E L)(a:n∈nms E):∃o,Mg ((bq E n).map L++[bq E n]) o/\L n=n::o/\o.length<=12:=by
 obtain⟨o,M,b⟩:=G.KH n a;have:=G.short a;rw[b]at this;exact⟨o,M,b,by simpa using this⟩
theorem yi(G:fX E L)(b:∀x∈r,x∈nms E)(f:r.length<=5):tl (r.map L++[r])<=70:=by
 unfold tl;rw[List.map_append,List.sum_append]
 have c:∀r:List Str,(∀x∈r,x∈nms E)->((r.map L).map List.length).sum<=13*r.length:=by
  intro r b
  induction r with
  |nil=>simp
  |cons a r d=>
   have g:=d λx e=>b x (by simp[e])
   have h:=G.short (b a (by simp))
   simp only[List.map_cons,List.sum_cons,List.length_cons];omega
 have:=c r b;simp only[List.map_cons,List.map_nil,List.sum_cons,List.sum_nil];omega
theorem snoc(G:fX E L)(m:n∉nms E)(F:E.length<12)(j:r.Nodup)(k:r.length<=5)(s:∀x∈r,x∈nms E)(M:Mg (r.map L++[r]) o):fX (E++[(n,r)]) (λx=>if x=n then n::o else L x)/\∀x∈nms E,(if x=n then n::o else L x)=L x:=by
 have d:∀x∈nms E,(if x=n then n::o else L x)=L x:=λx e=>if_neg λ(z:x=n)=>m (z▸e)
 have f:nms (E++[(n,r)])=nms E++[n]:=by simp[nms]
 have g:(nms E).length=E.length:=by simp[nms]
 have c:∀(i:Nat) (p:Str×List Str),(E++[(n,r)])[i]?=some p->(i<E.length/\E[i]?=some p)\/(i=E.length/\p=(n,r)):=by
  intro i p h
  by_cases q:i<E.length
  .rw[List.getElem?_append_left q]at h
   exact .inl ⟨q,h⟩
  .rw[List.getElem?_append_right (by omega)]at h
   have t:=(List.getElem?_eq_some_iff.mp h).1;simp at t;have:i=E.length:=by omega
   subst this;simp at h;exact .inr ⟨rfl,h.symm⟩
 refine⟨⟨?_,?_,?_,by simp;omega⟩,d⟩
 .rw[f]
  exact List.nodup_append.mpr ⟨G.nd,by simp,λa u b w z=>m (by rw[←List.mem_singleton.mp w,←z];exact u)⟩
 .intro i p h
  rcases c i p h with ⟨q,h⟩|⟨rfl,rfl⟩
  .obtain⟨y,A,l⟩:=G.el i p h
   refine⟨y,A,λx e=>?_⟩
   rw[f,List.take_append_of_le_length (by omega)]
   exact l x e
  .refine⟨j,k,λx e=>?_⟩
   rw[f,←g,List.take_left']
   .exact s x e
   .rfl
 .intro i p h
  rcases c i p h with ⟨q,h⟩|⟨rfl,rfl⟩
  .obtain⟨B,C,D⟩:=G.ln i p h
   have l:=(G.el i p h).2.2;refine⟨B,?_,?_⟩
   .have:p.2.map (λx=>if x=n then n::o else L x)=p.2.map L:=List.map_congr_left λx e=>d x (List.mem_of_mem_take (l x e))
    rw[this];exact C
   .rw[d p.1 (List.mem_of_getElem? (iT h))]
    exact D
  .refine⟨o,?_,by simp⟩
   have:r.map (λx=>if x=n then n::o else L x)=r.map L:=List.map_congr_left λx e=>d x (s x e)
   show Mg (r.map (λx=>if x=n then n::o else L x)++[r]) o
   rw[this];exact M
end fX
end
def Qu:EM:=(bo (m2 az (aa 1) (aa 0)) true (af .non) (aL (aa 5)) 0 [3])
def MP(a:ba):EM:=(mN (aG a) (ab (m2 (aP .Add) Qu (mN bj (ab (aa 5) ae))) ae))
def MQ:SM:=(dc (m2 (aw .Is) (aa 6) (af .non))
 (ag (ax 5 (mN bj ae))
 (ag (ax 6 (mN bj ae))
 ai))
 ai)
def KI:EM:=(m2 (aP .Add) (mN bj (ab (m2 az (aa 0) (aa 4)) ae)) (aa 6))
def MR(a:ba):SM:=
 (ag (ax 5 (mN (aO .list) (ab (m2 az (aa 1) (aa 4)) ae)))
 (ag (ax 6 (MP a))
 (ag MQ
 (ag (dO (aa 2) (m2 az (aa 0) (aa 4)) (aa 5))
 (ag (dO (aa 3) (m2 az (aa 0) (aa 4)) KI)
 ai)))))
def MS(a:ba):SM:=
 (ag (ax 2 bY)
 (ag (ax 3 bY)
 (ag (bX (bp 4) (cO (ab (mN (aO .len) (ab (aa 0) ae)) ae))
 (MR a))
 (ag (aZ (mN iE (ab (aa 2) (ab (aa 3) ae))))
 ai))))
def Tr(_:Nat):Prop:=True
section
variable{Ω ao:aD}{ρ:aS}{x k e l i a:Nat}{js:List Nat}{kvs p_ fZ:List (Key×D)}{E:en}{P:Nat->Prop}{n:Str}{r:List Str}{rs:List (List Str)}{xs:List Str}{L:Str->List Str}
theorem yj{mi:IM}{me:EM}{cap:List Nat}(m:mi ρ Ω=.ok (.seq (.ref a)) Ω)(n:Ω[a]?=some (.lst (r.map .str)))(o:∀x∈r,∃j,me ([oS x]++dW cap ρ) Ω=.ok (.ref j) Ω/\Ω[j]?=some (.lst ((L x).map .str)))(t:r.length<=100) :
  ∃c,bo me true (af .non) mi 0 cap ρ Ω=.ok (.ref Ω.length) (Ω++[.lst (c.map .ref)])/\iW Ω c (r.map L):=by
 obtain⟨u,p,q,c,rfl,g,rfl⟩:=j_ (ρ:=ρ) (me:=me) (mc:=af .non) (cap:=cap) (ds:=r.map .str) (λi f b=>∃c,f=c.map .ref/\iW b c ((r.take i).map L)/\b=Ω) m ⟨[],rfl,.nil,rfl⟩
  (λi f b h=>by
   obtain⟨_,_,_,rfl⟩:=h;rw[bU,aC,aA n])
  (λi d f b k h=>by
   obtain⟨c,rfl,g,rfl⟩:=h;obtain⟨x,l,rfl⟩:=dG k;obtain⟨j,e,s⟩:=o x (List.mem_of_getElem? l);refine⟨.ref j,b,e,c++[j],by simp,?_,rfl⟩
   rw[List.take_succ,l,List.map_append];exact g.snoc s) (by simp;omega)
 rw[List.length_map,List.take_length]at g;exact⟨c,q,g⟩
theorem vj{b:Nat}{c:List (List Str)}(h:Ω[k]?=some (.lst (js.map .ref)))(d:iW Ω js c)(i:Ω[b]?=some (.lst [.ref a]))(j:Ω[a]?=some (.lst (r.map .str)))(l:c.length<=100) :
  aP .Add (.ref k) (.ref b) Ω=.ok (.ref Ω.length) (Ω++[.lst ((js++[a]).map .ref)])/\Rw (Ω++[.lst ((js++[a]).map .ref)]) Ω.length (js++[a]) (c++[r]):=by
 have f:=d.len;have g:=iS h i (by simp;omega)
 have e:js.map D.ref++[.ref a]=(js++[a]).map .ref:=by simp
 rw[e]at g;exact⟨g,av,(d.snoc j).keep (fp:=[]) aj.app (by simp)⟩
theorem rQ{j:Nat}{md mk mv:EM}{aM:aD}(a:mv ρ Ω=.ok (.ref j) aM)(b:md ρ aM=.ok (.ref e) aM)(c:mk ρ aM=.ok (.str n) aM)(d:aM[e]?=some (.dK kvs))(f:kvs.length<=1000):dO md mk mv ρ Ω=.nx ρ (aM.set e (.dK (dN kvs (.inr n) (.ref j)))):=by
 unfold dO;rw[a,b9,b,b9,c,b9,rP d f]
theorem Ed{LM:ba}(hM:Be LM){a5 a6:Option D}(hx:Ω[x]?=some (.lst (xs.map .str)))(R:Rw Ω k js rs)(G:fX E L)(hE:nms E=xs.take i)(U:xs[i]?=some n)(m0:xs.Nodup)(L0:xs.length<=12)(n0:rs[i]?=some r)(p0:r.Nodup)(a0:r.length<=5)(A:∀y∈r,y∈xs.take i)
  (he:Ω[e]?=some (.dK fZ)) (b0:aE Tr Ω fZ E) (hl:Ω[l]?=some (.dK p_)) (B:aE Tr Ω p_ (cp (nms E) L)) (c0:e≠l) :
  ∃u o q0 r0 S T ao,MR LM [oR x,oR k,oR e,oR l,oI i,a5,a6] Ω=.nx [oR x,oR k,oR e,oR l,oI i,q0,r0] ao/\aj [e,l] Ω ao /\
   ao[e]?=some (.dK S)/\aE Tr ao S (E++[(n,u)])/\ao[l]?=some (.dK T)/\aE Tr ao T (cp (nms (E++[(n,u)])) (λx=>if x=n then n::o else L x))/\fX (E++[(n,u)]) (λx=>if x=n then n::o else L x):=by
 have M0:=(List.getElem?_eq_some_iff.mp U).1
 have N0:E.length=i:=by
  have:(nms E).length=E.length:=by simp[nms]
  rw[hE,List.length_take]at this;omega
 have V:n∉nms E:=by
  rw[hE];intro hm;obtain⟨j,C,h⟩:=b_ hm;have:=(List.getElem?_inj (by omega) m0).mp (h.trans U.symm)
  omega
 rw[←hE]at A;obtain⟨j0,s0,e0⟩:=R.al.at n0;have t0:az (.ref k) (.int i) Ω=.ok (.ref j0) Ω:=cQ R.ce (L2.dv (j:=i) (by simp[s0]))
 have r1:(ax 5 (mN (aO .list) (ab (m2 az (aa 1) (aa 4)) ae))) [oR x,oR k,oR e,oR l,oI i,a5,a6] Ω=.nx [oR x,oR k,oR e,oR l,oI i,oR Ω.length,a6] (Ω++[.lst (r.map .str)]):=by
  rw[bu]
  have:(mN (aO .list) (ab (m2 az (aa 1) (aa 4)) ae)) [oR x,oR k,oR e,oR l,oI i,a5,a6] Ω=.ok (.ref Ω.length) (Ω++[.lst (r.map .str)]):=by
   show(((az (.ref k) (.int i) Ω).bind _).bind _)=_
   rw[t0];exact cT e0
  rw[this];rfl
 have g1:(Ω++[Cell.lst (r.map .str)])[Ω.length]?=some (.lst (r.map .str)):=av;have K1:aj [] Ω (Ω++[Cell.lst (r.map .str)]):=aj.app;generalize Ω++[Cell.lst (r.map .str)]=aM at *;have u0:=K1.get _ _ hl (by simp)
 have f0:=B.keep K1 (by simp)
 have v0:aL (aa 5) [oR x,oR k,oR e,oR l,oI i,oR Ω.length,a6] aM=.ok (.seq (.ref Ω.length)) aM:=by
  rw[bf];exact aR (by rw[aC,aA g1])
 obtain⟨t,e2,h2⟩:=yj (L:=L) (me:=m2 az (aa 1) (aa 0)) (cap:=[3]) v0 g1 (λy hy=>by
  obtain⟨j,hv,_,C⟩:=f0.at (n:=y) (by rw[bI];exact A y hy)
  rw[cN (A y hy)]at C;exact⟨j,dS (.inl u0) hv,C⟩) (by omega)
 have g2:(aM++[Cell.lst (t.map .ref)])[aM.length]?=some (.lst (t.map .ref)):=av;have K2:aj [] aM (aM++[Cell.lst (t.map .ref)]):=aj.app;have e2:Qu [oR x,oR k,oR e,oR l,oI i,oR Ω.length,a6] aM=.ok (.ref aM.length) (aM++[.lst (t.map .ref)]):=e2;generalize aM++[Cell.lst (t.map .ref)]=g at *;have g3:(g++[Cell.lst [.ref Ω.length]])[g.length]?=some (.lst [.ref Ω.length]):=av;have K3:aj [] g (g++[Cell.lst [.ref Ω.length]]):=aj.app
 have e3:(mN bj (ab (aa 5) ae)) [oR x,oR k,oR e,oR l,oI i,oR Ω.length,a6] g=.ok (.ref g.length) (g++[.lst [.ref Ω.length]]):=by
  show bj [.ref Ω.length] g=_
  rw[dz,if_pos (aN (by simp))]
 generalize g++[Cell.lst [.ref Ω.length]]=N at *;have O:=K2.trans K3;obtain⟨e4,R4⟩:=vj (K3.get _ _ g2 (by simp)) (h2.keep O (by simp)) g3 (O.get _ _ g1 (by simp)) (by simp;omega)
 have K4:aj [] N (N++[Cell.lst ((t++[Ω.length]).map .ref)]):=aj.app;generalize N++[Cell.lst ((t++[Ω.length]).map .ref)]=w0 at *;obtain⟨d,f,e5,K5,hd⟩:=hM w0 N.length (t++[Ω.length]) _ R4 (by simp;omega) (by have:=G.yi A a0;omega)
 have r2:ax 6 (MP LM) [oR x,oR k,oR e,oR l,oI i,oR Ω.length,a6] aM=.nx [oR x,oR k,oR e,oR l,oI i,oR Ω.length,some d] f:=by
  rw[bu];unfold MP;rw[cY,a_,cX,e2,ak,e3,ak,e4,ak,aX,ak,ak,dR,e5];rfl
 have x0:aj [] Ω f:=((K1.trans O).trans K4).trans K5;have y0:=((O.trans K4).trans K5).get _ _ g1 (by simp)
 have hI:∃u o a b m,MQ [oR x,oR k,oR e,oR l,oI i,oR Ω.length,some d] f=.nx [oR x,oR k,oR e,oR l,oI i,oR a,oR b] m/\aj [] f m/\m[a]?=some (.lst (u.map .str))/\m[b]?=some (.lst (o.map .str))/\u.Nodup/\u.length<=5/\(∀y∈u,y∈nms E)/\Mg (u.map L++[u]) o:=by
  rcases hd with rfl|⟨o,q,rfl,hq,M,_⟩
  .refine⟨[],[],f.length,f.length+1,(f++[.lst []])++[.lst []],?_,aj.app.trans aj.app,dA av,?_,by simp,by simp,by simp,.done (by simp)⟩
   .have a1:(mN bj ae) [oR x,oR k,oR e,oR l,oI i,oR Ω.length,some .non] f=.ok (.ref f.length) (f++[.lst []]):=by rw[cY,aX,ak,dz,if_pos (aN (by simp))]
    have a2:(mN bj ae) [oR x,oR k,oR e,oR l,oI i,oR f.length,some .non] (f++[.lst []])=.ok (.ref (f.length+1)) ((f++[.lst []])++[.lst []]):=by
     rw[cY,aX,ak,dz,if_pos (aN (by simp))]
     simp
    unfold MQ;rw[cx];have:(m2 (aw .Is) (aa 6) (af .non)) [oR x,oR k,oR e,oR l,oI i,oR Ω.length,some .non] f=.ok (.bl true) f:=rfl;rw[this,dj,bD,dy,b9,if_pos rfl,ah,bu,a1]
    show sq (ax 6 (mN bj ae) [oR x,oR k,oR e,oR l,oI i,oR f.length,some .non] (f++[.lst []])) _=_
    rw[bu,a2];rfl
   .have:=av (Ω:=f++[Cell.lst []]) (c:=.lst []) (l:=[])
    simpa using this
  .exact⟨r,o,Ω.length,q,f,rfl,aj.refl,y0,hq,p0,a0,A,M⟩
 obtain⟨u,o,a,b,m,r3,K6,ha,hb,q1,q2,q3,M⟩:=hI;have w:=x0.trans K6;obtain⟨G',z0⟩:=G.snoc V (by omega) q1 q2 q3 M
 have F:∀(g:aD) (b5 b6:Option D),aj [e,l] Ω g->(m2 az (aa 0) (aa 4)) [oR x,oR k,oR e,oR l,oI i,b5,b6] g=.ok (.str n) g:=λg b5 b6 K=>by
  have n1:x≠e:=λz=>by
   rw[z,he]at hx;cases hx
  have n2:x≠l:=λz=>by
   rw[z,hl]at hx;cases hx
  have A0:=K.get _ _ hx (by simp[n1,n2])
  show az (.ref x) (.int i) g=_
  exact cQ A0 (L2.dv (j:=i) (by simp[U]))
 have H:=w.get _ _ he (by simp)
 have B0:=w.get _ _ hl (by simp)
 have g0:=b0.keep w (by simp)
 have h0:=B.keep w (by simp)
 have C0:fZ.length<=1000:=by have:=b0.len;omega
 have D0:p_.length<=1000:=by have:=yb B;omega
 have r4:=rQ (ρ:=[oR x,oR k,oR e,oR l,oI i,oR a,oR b]) (md:=aa 2) (mk:=m2 az (aa 0) (aa 4)) (mv:=aa 5) (Ω:=m) (aM:=m) (j:=a) rfl rfl (F m _ _ (w.sub (by simp))) H C0
 have K7:aj [e] m (m.set e (.dK (dN fZ (.inr n) (.ref a)))):=aj.set (by simp)
 have G0:=aQ (e:=.dK (dN fZ (.inr n) (.ref a))) H;have i0:=(g0.put V (j:=a) (r:=u) trivial ha).c9 K7 (λj C ds=>by rw[List.mem_singleton.mp C,H];simp)
 have k0:=h0.c9 K7 (λj C ds=>by rw[List.mem_singleton.mp C,H];simp)
 have I0:=K7.get _ _ B0 (by simpa using Ne.symm c0)
 have J0:=K7.get _ _ hb (by
  simp;exact λz=>by rw[z,H]at hb;cases hb)
 have X:aj [e,l] Ω (m.set e (.dK (dN fZ (.inr n) (.ref a)))):=(w.sub (by simp)).trans (K7.sub (by simp))
 generalize m.set e (.dK (dN fZ (.inr n) (.ref a)))=p at *;have g8:(p++[Cell.lst [.str n]])[p.length]?=some (.lst [.str n]):=av;have K8:aj [] p (p++[Cell.lst [.str n]]):=aj.app
 have e8:(mN bj (ab (m2 az (aa 0) (aa 4)) ae)) [oR x,oR k,oR e,oR l,oI i,oR a,oR b] p=.ok (.ref p.length) (p++[.lst [.str n]]):=by
  rw[cY,a_,F p _ _ X,ak,aX,ak,ak,dz,if_pos (aN (by simp))]
 generalize p++[Cell.lst [.str n]]=s at *
 have P0:o.length<=13:=by
  have:=G'.short (n:=n) (by simp[nms])
  simp at this;omega
 have e9:=iS g8 (K8.get _ _ J0 (by simp)) (by simp;omega)
 have ev:KI [oR x,oR k,oR e,oR l,oI i,oR a,oR b] p=.ok (.ref s.length) (s++[.lst ([.str n]++o.map .str)]):=by
  unfold KI;have:aa 6 [oR x,oR k,oR e,oR l,oI i,oR a,oR b] s=.ok (.ref b) s:=rfl;rw[cX,e8,ak,this,ak,e9]
 have g9:(s++[Cell.lst ([.str n]++o.map .str)])[s.length]?=some (.lst ((n::o).map .str)):=av;have Z:aj [] p (s++[Cell.lst ([.str n]++o.map .str)]):=K8.trans aj.app;generalize s++[Cell.lst ([.str n]++o.map .str)]=I at *;have P:=Z.get _ _ I0 (by simp)
 have r5:=rQ (ρ:=[oR x,oR k,oR e,oR l,oI i,oR a,oR b]) (md:=aa 3) (mk:=m2 az (aa 0) (aa 4)) (mv:=KI) (Ω:=p) (aM:=I) (j:=s.length) ev rfl (F I _ _ (X.trans (Z.sub (by simp)))) P D0
 have Q:aj [l] I (I.set l (.dK (dN p_ (.inr n) (.ref s.length)))):=aj.set (by simp)
 have Y:nms (E++[(n,u)])=nms E++[n]:=by simp[nms]
 have l0:cp (nms E) L++[(n,n::o)]=cp (nms (E++[(n,u)])) (λx=>if x=n then n::o else L x):=by
  rw[Y];unfold cp;rw[List.map_append]
  congr 1
  .refine List.map_congr_left λy hy=>?_
   show(y,L y)=(y,if y=n then n::o else L y)
   rw[z0 y hy]
  .simp
 have J:=((k0.keep Z (by simp)).put (n:=n) (by rw[bI];exact V) (j:=s.length) (r:=n::o) trivial g9).c9 Q (λj C ds=>by rw[List.mem_singleton.mp C,P];simp)
 rw[l0]at J;have K0:∀j∈[l],∀ds,I[j]?≠some (.lst ds):=λj C ds=>by rw[List.mem_singleton.mp C,P];simp
 refine⟨u,o,oR a,oR b,_,_,_,?_,(X.trans (Z.sub (by simp))).trans (Q.sub (by simp)),Q.get _ _ (Z.get _ _ G0 (by simp)) (by simpa using c0),(i0.keep Z (by simp)).c9 Q K0,aQ P,J,G'⟩
 unfold MR;rw[ah,r1,aB,ah,r2,aB,ah,r3,aB,ah,r4,aB,ah,r5];rfl
def Bg(h:ba):Prop:=∀(f:aD) (x k:Nat) (j:List Nat) (b:List Str) (g:List (List Str)),f[x]?=some (.lst (b.map .str))->Rw f k j g->g.length=b.length->b.Nodup->b.length<=12->(∀i r,g[i]?=some r->r.Nodup/\r.length<=5/\∀y∈r,y∈b.take i) ->
 ∃E L e l c d a,h [.ref x,.ref k] f=.ok (.tup [.ref e,.ref l]) a/\aj [] f a/\nms E=b/\fX E L/\a[e]?=some (.dK c)/\aE Tr a c E/\a[l]?=some (.dK d)/\aE Tr a d (cp b L)/\e≠l
theorem HJ{Q:ba}(X:Be Q):Bg (bL 7 2 (MS Q)):=by
 intro c x k Y p C S R Z F H hr;rw[bt (by rfl)]
 have e0:aV 7 [D.ref x,.ref k]=[oR x,oR k,none,none,none,none,none]:=rfl;rw[e0];have K1:aj [] c (c++[Cell.dK []]):=aj.app;have g1:(c++[Cell.dK []])[c.length]?=some (.dK []):=av;have l1:(c++[Cell.dK []]).length=c.length+1:=by simp
 have r1:ax 2 bY [oR x,oR k,none,none,none,none,none] c=.nx [oR x,oR k,oR c.length,none,none,none,none] (c++[Cell.dK []]):=rfl;generalize c++[Cell.dK []]=a at *;have T:aj [] a (a++[Cell.dK []]):=aj.app;have g2:(a++[Cell.dK []])[a.length]?=some (.dK []):=av;have r2:ax 3 bY [oR x,oR k,oR c.length,none,none,none,none] a=.nx [oR x,oR k,oR c.length,oR a.length,none,none,none] (a++[Cell.dK []]):=rfl;generalize a++[Cell.dK []]=m at *;have q:=K1.trans T;have I:=T.get _ _ g1 (by simp)
 have u:=q.get _ _ S (by simp)
 have R2:=R.keep q;have lx:=bH S;have lk:=bH R.ce;have lj:=R.al.lt;have w:c.length≠a.length:=by omega
 have y:=fW u;rw[List.length_map]at y
 have J:cO (ab (mN (aO .len) (ab (aa 0) ae)) ae) [oR x,oR k,oR c.length,oR a.length,none,none,none] m=.ok (.ints 0 p.length) m:=by
  have:(mN (aO .len) (ab (aa 0) ae)) [oR x,oR k,oR c.length,oR a.length,none,none,none] m=.ok (.int p.length) m:=y;rw[pU,a_,this,ak,aX,ak,ak,tP,if_pos (eY (by omega) (by omega)),Int.toNat_natCast]
 unfold MS;rw[ah,r1,aB,ah,r2,aB,ah,cv,J,b9]
 refine bF (R:=λr=>∃E L e l f g h,fR (sq r _)=.ok (.tup [.ref e,.ref l]) h/\aj [] c h/\nms E=p/\fX E L/\h[e]?=some (.dK f)/\aE Tr h f E/\h[l]?=some (.dK g)/\aE Tr h g (cp p L)/\e≠l) (ds:=intsFrom 0 p.length)
  (λi M b=>∃E L f g B a5 a6,M=[oR x,oR k,oR c.length,oR a.length,B,a5,a6]/\aj [c.length,a.length] m b/\nms E=p.take i/\fX E L/\b[c.length]?=some (.dK f)/\aE Tr b f E/\b[a.length]?=some (.dK g)/\aE Tr b g (cp (nms E) L)) (λ_ _ _ _=>rfl) ?_ ?_ fuel 0 _ _ (by rw[dQ];unfold fuel;omega) (Nat.zero_le _) ⟨[],λ_=>[],[],[],none,none,none,rfl,aj.refl,rfl,fX.nil,I,.nil,g2,.nil⟩
 .rintro i d M b hd ⟨E,L,f,g,B,a5,a6,rfl,K,t,G,N,s,O,n⟩
  obtain⟨rfl,hi⟩:=eZ hd;have z:p[i]?=some p[i]:=List.getElem?_eq_getElem hi;have A:C[i]?=some (C[i]'(by omega)):=List.getElem?_eq_getElem (by omega)
  obtain⟨p1,p2,p3⟩:=hr i _ A;have P:=K.get _ _ u (by simp;omega)
  have R3:Rw b k Y C:=R2.tQ K (by simp;omega) (λj hj=>by have:=lj j hj;simp;omega)
  refine⟨[oR x,oR k,oR c.length,oR a.length,some (.int (0+(i:Int))),a5,a6],rfl,?_⟩;rw[Int.zero_add];obtain⟨r',o,b5,b6,U,V,a0,e4,K4,q1,q2,q3,q4,G4⟩:=Ed X (a5:=a5) (a6:=a6) P R3 G t z F H A p1 p2 p3 N s O n w;rw[e4];refine⟨_,_,_,_,_,_,_,rfl,K.trans K4,?_,G4,q1,q2,q3,q4⟩;rw[List.take_succ,z,←t];simp[nms]
 .rintro M b ⟨E,L,f,g,B,a5,a6,rfl,K,t,G,N,s,O,n⟩
  rw[dQ,List.take_length]at t;rw[t]at n;refine⟨E,L,c.length,a.length,f,g,b,?_,aj.new q K (by simp;omega),t,G,N,s,O,n,w⟩
  rw[aB,ah,cZ]
  have:(mN iE (ab (aa 2) (ab (aa 3) ae))) [oR x,oR k,oR c.length,oR a.length,B,a5,a6] b=.ok (.tup [.ref c.length,.ref a.length]) b:=by
   show iE [.ref c.length,.ref a.length] b=_
   rw[jZ,if_pos (aN (by simp))]
  rw[this];rfl
end
section
variable{Ω ao:aD}{ρ:aS}{e q h j:Nat}{kvs fZ:List (Key×D)}{E:en}{P:Nat->Prop}{n:Str}{r:List Str}{L:Str->List Str}
theorem bB.dI{a:Nat}{b:List (Key×D)}(h:bB Ω a b)(he:bB Ω e fZ):bB (Ω.set e (.dF fZ)) a b:=by
 by_cases z:a=e
 .subst z
  have:b=fZ:=by
   rcases h with h|h<;>rcases he with he|he<;>rw[h]at he<;>cases he<;>rfl
  subst this;exact .inr (mT he)
 .exact h.imp (λy=>cj y z) λy=>cj y z
theorem bV.dI(H:bV P Ω h E L)(a:bB Ω e fZ):bV P (Ω.set e (.dF fZ)) h E L:=by
 obtain⟨g,l,i,b,d,k,m,n,o⟩:=H;have K:aj [e] Ω (Ω.set e (.dF fZ)):=aj.set (by simp)
 have f:∀j∈[e],∀c,Ω[j]?≠some (.lst c):=λj p c=>by rw[List.mem_singleton.mp p];exact a.nl c
 exact⟨g,l,i,b,cj d (λz=>a.ni _ _ (z▸d)),k.dI a,m.c9 K f,n.dI a,o.c9 K f⟩
theorem bV.hlt(H:bV P Ω h E L):h<Ω.length:=by
 obtain⟨_,_,_,_,z,_⟩:=H;exact bH z
theorem bV.nl(H:bV P Ω h E L){ds:List D}:Ω[h]?≠some (.lst ds):=by
 obtain⟨_,_,_,_,z,_⟩:=H;rw[z];simp
def KJ(a:Key×D):D:=.tup [jb a.1,a.2]
theorem Bh(h:Ω[e]?=some (.dF kvs)):eN (.items e) Ω=some (kvs.map KJ):=by simp only[eN,h];rfl
def MT(a:ba):SM:=
 (ag (ax 4 (mN (aO .list) (ab (aa 3) ae)))
 (ag (bC (aF "House" "add" (λb=>a (b++[.non])) (aa 1) (ab (aa 2) (ab (aa 4) ae))))
 (ag (bC (bQ eo bh (aa 4) (ab (af (.str "zz")) ae)))
 ai)))
def MU(a b:ba):SM:=
 (ag (ax 1 (mN (lU "House" a) ae))
 (ag (bX (fx [2,3]) (kS (aa 0))
 (MT b))
 (ag (aZ (aa 1))
 ai)))
theorem Ee{f:ba}(J:A8 f){i:Nat}{a0 a4:Option D}(H:bV Tr Ω h (E.take i) L)(G:fX E L)(l:E[i]?=some (n,r))(K:AY n)(M:Ω[j]?=some (.lst (r.map .str))) :
  ∃o ao,MT f [a0,oR h,oS n,oR j,a4] Ω=.nx [a0,oR h,oS n,oR j,o] ao/\bV Tr ao h (E.take (i+1)) L/\aj [h] Ω ao:=by
 have N:=(List.getElem?_eq_some_iff.mp l).1;have A:=G.len;have b:E.take (i+1)=E.take i++[(n,r)]:=by rw[List.take_succ,l];rfl
 have g:=G.take (i+1)
 have p:n∉nms (E.take i):=by
  have:=g.nd;rw[b]at this;simp only[nms,List.map_append,List.map_cons,List.map_nil]at this;have O:=(List.nodup_append.mp this).2.2;exact λz=>O n z n (by simp) rfl
 obtain⟨P,q,Q⟩:=G.el i _ l;have q:r.length<=5:=q
 have R:(ax 4 (mN (aO .list) (ab (aa 3) ae))) [a0,oR h,oS n,oR j,a4] Ω=.nx [a0,oR h,oS n,oR j,oR Ω.length] (Ω++[.lst (r.map .str)]):=by
  rw[bu];have:(mN (aO .list) (ab (aa 3) ae)) [a0,oR h,oS n,oR j,a4] Ω=.ok (.ref Ω.length) (Ω++[.lst (r.map .str)]):=cT M;rw[this];rfl
 have B:(Ω++[Cell.lst (r.map .str)])[Ω.length]?=some (.lst (r.map .str)):=av;have s:aj [] Ω (Ω++[Cell.lst (r.map .str)]):=aj.app;have l1:(Ω++[Cell.lst (r.map .str)]).length=Ω.length+1:=by simp
 have C:bV (λx=>x≠Ω.length) (Ω++[Cell.lst (r.map .str)]) h (E.take i) L:=(H.lt.imp (P':=λx=>x≠Ω.length) λx S=>by omega).keep s
 have lh:=H.hlt;generalize Ω++[Cell.lst (r.map .str)]=e at *
 obtain⟨a,T,F,t⟩:=J e h Ω.length (E.take i) L L _ n r C B K p (by rw[List.length_take];omega) P q (by rw[lF];exact Q) (by rw[←b];exact g.gd) (by rw[←b];exact g.KH) (by
  rw[←b];intro m U;have:=g.short U;omega) (λx S=>by omega)
 rw[←b]at F
 have V:(bC (aF "House" "add" (λX=>f (X++[.non])) (aa 1) (ab (aa 2) (ab (aa 4) ae)))) [a0,oR h,oS n,oR j,oR Ω.length] e=.nx [a0,oR h,oS n,oR j,oR Ω.length] a:=by
  rw[bT,cy C rfl (by decide)]
  show cm (iV (f [.ref h,.str n,.ref Ω.length,.non] e)) _=_
  rw[T];rfl
 have u:=t.get _ _ B (by simp;omega)
 have w:=dZ (d:=.str "zz") u (by simp;omega)
 have Y:(bC (bQ eo bh (aa 4) (ab (af (.str "zz")) ae))) [a0,oR h,oS n,oR j,oR Ω.length] a=.nx [a0,oR h,oS n,oR j,oR Ω.length] (a.set Ω.length (.lst (r.map .str++[.str "zz"]))):=by
  rw[bT,dE (x:=.ref Ω.length) (ao:=a) rfl (c8 u)]
  show cm (bh (.ref Ω.length) [.str "zz"] a) _=_
  rw[w];rfl
 have y:aj [Ω.length] a (a.set Ω.length (.lst (r.map .str++[.str "zz"]))):=aj.set (by simp)
 refine⟨oR Ω.length,_,?_,(F.BW y u (by simp)).imp λ_ _=>trivial,⟨Nat.le_trans s.len (Nat.le_trans t.len y.len),λk c I Z=>y.get k c (t.get k c (s.get k c I (by simp)) Z) (by have:=bH I;simp;omega)⟩⟩
 unfold MT;rw[ah,R,aB,ah,V,aB,ah,Y];rfl
def Bi(d:ba):Prop:=∀(c:aD) (e:Nat) (b:List (Key×D)) (E:en) (L:Str->List Str),bB c e b->aE Tr c b E->fX E L->(∀n∈nms E,AY n) ->
 ∃h a,d [.ref e] c=.ok (.ref h) a/\bV Tr a h E L/\aj [e] c a/\a[e]?=some (.dF b)/\c.length<=h
theorem HK{z Q:ba}(Z:DU z)(hA:A8 Q):Bi (bL 5 1 (MU z Q)):=by
 intro f e g E L S T G hv;rw[bt (by rfl)]
 have e0:aV 5 [D.ref e]=[oR e,none,none,none,none]:=rfl;rw[e0];obtain⟨b,e1,H1,t⟩:=Z f L Tr
 have r1:(ax 1 (mN (lU "House" z) ae)) [oR e,none,none,none,none] f=.nx [oR e,oR f.length,none,none,none] b:=by
  rw[bu,cY,aX,ak,e1];rfl
 have l:=S.keep t (by simp)
 have A:=T.keep t (by simp)
 have U:=H1.dI l;have V:=mT l;have B:aj [e] b (b.set e (.dF g)):=aj.set (by simp)
 have C:=A.c9 B (λj o ds=>by rw[List.mem_singleton.mp o];exact l.nl ds)
 have F:kS (aa 0) [oR e,oR f.length,none,none,none] b=.ok (.items e) (b.set e (.dF g)):=Hi l;have le:=S.lt;generalize b.set e (.dF g)=H at *;have X:=G.len;have I:=T.len;unfold MU;rw[ah,r1,aB,ah,cv,F,b9]
 refine bF (R:=λr=>∃h m,fR (sq r _)=.ok (.ref h) m/\bV Tr m h E L/\aj [e] f m/\m[e]?=some (.dF g)/\f.length<=h) (ds:=g.map KJ)
  (λi u a=>∃J M a4,u=[oR e,oR f.length,J,M,a4]/\bV Tr a f.length (E.take i) L/\aj [f.length] H a) ?_ ?_ ?_ fuel 0 _ _ (by rw[List.length_map];unfold fuel;omega) (Nat.zero_le _) ⟨none,none,none,rfl,by rw[List.take_zero];exact U,aj.refl⟩
 .rintro i u a ⟨_,_,_,_,_,K⟩
  exact Bh (K.get _ _ V (by simp;omega))
 .rintro i d u a q ⟨J,M,a4,rfl,w,K⟩
  have N:=C.c9 K (λj o ds=>by rw[List.mem_singleton.mp o];exact U.nl)
  rw[List.getElem?_map]at q;obtain⟨x,O,rfl⟩:=Option.map_eq_some_iff.mp q;obtain⟨⟨n,r⟩,Y,y,j,o,_,s⟩:=aK.get (R:=λ(x:Key×D) (p:Str×List Str)=>x.1=.inr p.1/\∃j,x.2=.ref j/\Tr j/\a[j]?=some (.lst (p.2.map .str))) N O
  have P:KJ x=.tup [.str n,.ref j]:=by
   unfold KJ;rw[y,o];rfl
  rw[P];refine⟨[oR e,oR f.length,oS n,oR j,a4],rfl,?_⟩;obtain⟨b0,c0,e4,H4,K4⟩:=Ee hA (a0:=oR e) (a4:=a4) w G Y (hv n (List.mem_of_getElem? (iT Y))) s;rw[e4];exact⟨_,_,_,rfl,H4,K.trans K4⟩
 .rintro u a ⟨J,M,a4,rfl,w,K⟩
  rw[List.length_map,←I,List.take_length]at w;refine⟨f.length,a,rfl,w,⟨Nat.le_trans t.len (Nat.le_trans B.len K.len),λk c y hn=>K.get k c (B.get k c (t.get k c y (by simp)) hn) (by have:=bH y;simp;omega)⟩,K.get _ _ V (by simp;omega),Nat.le_refl _⟩
end
section
variable{Ω ao:aD}{ρ:aS}{e q h j k:Nat}{js:List Nat}{kvs fZ:List (Key×D)}{E:en}{P:Nat->Prop}{n:Str}{r row:List Str}{rs:List (List Str)}{L:Str->List Str}
theorem HL{ds:List D}(h:Ω[j]?=some (.lst ds)):eM .list (.ref j) Ω=.ok (.bl true) Ω:=by
 unfold eM;simp only[zo,zS,h];rfl
def Qv:EM:=(bo (m1 (eM .str) (aa 0)) true (af .non) (aL (aa 0)) 0 [])
def MV:SM:=(ag (aZ (eL (m1 (eM .list) (aa 0)) (mN (aO .all) (ab Qv ae)))) ai)
def yk(d:ba):Prop:=∀(c:aD) (j:Nat) (a:List Str),c[j]?=some (.lst (a.map .str))->a.length<=1000->∃b,d [.ref j] c=.ok (.bl true) b/\aj [] c b
theorem HM:yk (bL 1 1 MV):=by
 intro c j d h i;rw[bt (by rfl)]
 have e:aV 1 [D.ref j]=[oR j]:=rfl;rw[e]
 obtain⟨a,b,f⟩:=rM (ρ:=[oR j]) (me:=m1 (eM .str) (aa 0)) (mi:=aL (aa 0)) (cap:=[]) (p:=λ_=>true) h (by
  rw[bf];exact aR (by rw[aC,aA h])) (λx _=>rfl) (by omega)
 have:(d.all λ_=>true)=true:=by simp
 rw[this]at b;refine⟨a,?_,f⟩;unfold MV;have g:(m1 (eM .list) (aa 0)) [oR j] c=.ok (.bl true) c:=HL h;have b:(mN (aO .all) (ab Qv ae)) [oR j] c=.ok (.bl true) a:=b;rw[ah,cZ,iO,g,ak,bD,tI,b];rfl
end
section
variable{Ω ao:aD}{ρ:aS}{e q h j k:Nat}{js:List Nat}{kvs fZ:List (Key×D)}{E:en}{P:Nat->Prop}{n:Str}{r row:List Str}{rs:List (List Str)}{L:Str->List Str}
end
theorem Bj:∃e,jA e (pureOf (bL 8 3 mR)):=by
 have h:∀c t m:Int,∃r,0<=t->t<100000->0<m->0<=r/\r<m/\pureOf (bL 8 3 mR) [.int c,.int t,.int m]=.ok (false,.int r):=λc t m=>by
  by_cases d:0<=t/\t<100000/\0<m
  .obtain⟨r,f,g,i⟩:=AL (c:=c) d.1 d.2.1 d.2.2
   exact⟨r,λ_ _ _=>⟨f,g,i⟩⟩
  .exact⟨0,λa b c=>absurd ⟨a,b,c⟩ d⟩
 exact⟨λc t m=>(h c t m).choose,λc t m=>(h c t m).choose_spec⟩
def ou:SM:=
 (ag (dc (m2 (aw .Lt) (aa 1) (mN (aO .len) (ab (aa 0) ae)))
 (ag (aZ (m2 az (aa 0) (aa 1)))
 ai)
 ai)
 (ag (aZ (af (.int 0)))
 ai))
theorem HN(ns:List Int):Dt (SC ns)=true:=by
 show(ns.map D.int).all eV=true
 rw[List.all_eq_true];intro d a;obtain⟨i,_,rfl⟩:=List.mem_map.mp a;rfl
theorem ym:jg (λns k=>ns.getD k 0) (pureOf (bL 2 2 ou)):=by
 intro ns k
 have b:[SC ns,D.int k].all Dt=true:=by
  simp only[List.all_cons,HN,List.all_nil];rfl
 have d:aV 2 [SC ns,D.int k]=[some (SC ns),some (.int k)]:=rfl
 have a:aO .len [SC ns] []=.ok (.int ns.length) []:=by
  show ay.ok (D.int ((ns.map D.int).length:Nat)) []=_
  rw[List.length_map]
 refine mQ (ao:=[]) b ?_ rfl;rw[bt (by rfl),d]
 by_cases h:k<ns.length
 .have c:(k:Int)<(ns.length:Int):=by omega
  have e:L2.jD (ns.map D.int) (k:Int)=some (.int (ns.getD k 0)):=L2.dv (by simp[h])
  have f:az (SC ns) (.int k) []=.ok (.int (ns.getD k 0)) []:=by
   unfold az;rw[fV,fV,jY]
   show gc (ixs [] (some (ns.map D.int)) (.int k)) _=_
   rw[xT e];rfl
  simp[ou,a,c,f,-List.getD_eq_getElem?_getD]
 .have c:¬ (k:Int)<(ns.length:Int):=by omega
  have e:ns.getD k 0=0:=by rw[List.getD_eq_getElem?_getD,List.getElem?_eq_none (by omega)];rfl
  show _=ay.ok (D.int (ns.getD k 0)) []
  rw[e];simp[ou,a,c]
section
variable{Ω ao:aD}{ρ:aS}{F:List D->Out Rs}{μ:Int->Int->Int->Int}{c:Int}{m:Nat}
end
section
variable{Ω ao:aD}{ρ:aS}{F:List D->Out Rs}{μ:Int->Int->Int->Int}{c:Int}{m:Nat}{S:Str}
def vk(i j:Nat):EM:=(m2 (aP .Add) (cz (aa i) false (aa j) true (af .non)) (cz (aa i) true (af .non) false (aa j)))
theorem rR{i j q t:Nat}{a:List Str}(l:ρ[i]?=some (oR q))(m:ρ[j]?=some (oI t))(h:Ω[q]?=some (.lst (a.map .str)))(w:a.length<=1000):∃k ao,vk i j ρ Ω=.ok (.ref k) ao/\ao[k]?=some (.lst ((a.drop t++a.take t).map .str))/\aj [] Ω ao/\Ω.length<=k:=by
 have o:=DH (i:=t) h;have p:(Ω++[Cell.lst ((a.drop t).map .str)])[Ω.length]?=some (.lst ((a.drop t).map .str)):=av;have d:aj [] Ω (Ω++[Cell.lst ((a.drop t).map .str)]):=aj.app;have e:=d.get _ _ h (by simp)
 generalize Ω++[Cell.lst ((a.drop t).map .str)]=b at *;have r:=om (n:=t) e;have s:(b++[Cell.lst ((a.take t).map .str)])[b.length]?=some (.lst ((a.take t).map .str)):=av;have f:aj [] b (b++[Cell.lst ((a.take t).map .str)]):=aj.app;have g:=f.get _ _ p (by simp)
 generalize b++[Cell.lst ((a.take t).map .str)]=c at *;have u:=iS g s (by simp;omega)
 refine⟨c.length,c++[.lst ((a.drop t).map .str++(a.take t).map .str)],?_,by rw[List.map_append];exact av,(d.trans f).trans aj.app,(d.trans f).len⟩
 unfold vk;simp only[cX,iQ,gR,l,m,gQ,ak,AJ,AI,AK,o,r,u]
theorem lG{t:Nat}(a:List Str):(a.drop t++a.take t).Perm a:=by
 have:=(List.perm_append_comm (l₁:=a.drop t) (l₂:=a.take t));rwa[List.take_append_drop]at this
def rS(S:Str):Prop:=S.cps.toList.length=8/\∀x∈S.cps.toList,97<=x/\x<=122
theorem Eg(a b c d e f g h:Nat):qN .join (.str "") (.tup [.lst [.str (bJ a),.str (bJ b),.str (bJ c),.str (bJ d),.str (bJ e),.str (bJ f),.str (bJ g),.str (bJ h)]])=.ok (false,.str ⟨#[a,b,c,d,e,f,g,h]⟩):=rfl
def Qw(F:List D->Out Rs):EM:=(bo (m2 az (aa 2) (mN (bP F) (ab (aa 1) (ab (aa 0) (ab (af (.int 26)) ae))))) true (af .non) (cO (ab (af (.int 8)) ae)) 0 [0,2])
def KL(F:List D->Out Rs):EM:=(bQ zU mK (af (.str "")) (ab (Qw F) ae))
theorem Eh(a:jA μ F){a1 a3 a4 a5 a6 a7 a8 a9 a10:Option D}:∃S ao,KL F [oI c,a1,oS abc,a3,a4,a5,a6,a7,a8,a9,a10] Ω=.ok (.str S) ao/\rS S/\aj [] Ω ao:=by
 have b:lM 8=true:=eY (by omega) (by omega)
 have h:=cR (Ω:=Ω) (ao:=Ω) (ρ:=[oI c,a1,oS abc,a3,a4,a5,a6,a7,a8,a9,a10]) (me:=m2 az (aa 2) (mN (bP F) (ab (aa 1) (ab (aa 0) (ab (af (.int 26)) ae))))) (nc:=true) (mc:=af .non) (mi:=cO (ab (af (.int 8)) ae)) (cap:=[0,2]) (src:=.ints 0 8) (ds:=intsFrom 0 8) (p:=λ_=>true)
  (g:=λd=>match d with|.int j=>.str (bJ (97+(μ c j 26).toNat))|_=>.non) (by simp[b]) rfl (λd f=>rfl) (λd f _=>by
   obtain⟨i,o⟩:=List.mem_iff_getElem?.mp f;obtain⟨rfl,r⟩:=eZ o;obtain⟨k,m,q⟩:=a c (0+(i:Int)) 26 (by omega) (by omega) (by omega)
   generalize (0:Int)+(i:Int)=j at *;have e:=tG k m;simp[dW,q,e]) (by rw[dQ];omega)
 rw[List.filter_eq_self.mpr (by simp)]at h
 have s:∀j:Int,0<=j->j<100000->97<=97+(μ c j 26).toNat/\97+(μ c j 26).toNat<=122:=λj t u=>by
  obtain⟨k,m,_⟩:=a c j 26 t u (by omega)
  omega
 refine⟨⟨#[97+(μ c (0+0) 26).toNat,97+(μ c (0+1) 26).toNat,97+(μ c (0+2) 26).toNat,97+(μ c (0+3) 26).toNat,97+(μ c (0+4) 26).toNat,97+(μ c (0+5) 26).toNat,97+(μ c (0+6) 26).toNat,97+(μ c (0+7) 26).toNat]⟩,_,?_,?_,aj.app (l:=[.lst ((intsFrom 0 8).map λd=>match d with|.int j=>.str (bJ (97+(μ c j 26).toNat))|_=>.non)])⟩
 .unfold KL
  rw[dE (x:=.str "") (ao:=Ω) rfl rfl]
  have w:eH (Ω++[.lst ((intsFrom 0 8).map λd=>match d with|.int j=>.str (bJ (97+(μ c j 26).toNat))|_=>.non)]) 8 (.ref Ω.length)=some (.lst [.str (bJ (97+(μ c (0+0) 26).toNat)),.str (bJ (97+(μ c (0+1) 26).toNat)),.str (bJ (97+(μ c (0+2) 26).toNat)),.str (bJ (97+(μ c (0+3) 26).toNat)),.str (bJ (97+(μ c (0+4) 26).toNat)),.str (bJ (97+(μ c (0+5) 26).toNat)),.str (bJ (97+(μ c (0+6) 26).toNat)),.str (bJ (97+(μ c (0+7) 26).toNat))]):=
   jV av rfl
  unfold Qw;rw[a_,h];simp only[ak,aX,mK,jX,iP,w,jW,Eg,AB]
 .refine⟨rfl,λx n=>?_⟩
  simp only[List.mem_cons,List.not_mem_nil,or_false]at n;rcases n with rfl|rfl|rfl|rfl|rfl|rfl|rfl|rfl<;>exact s _ (by omega) (by omega)
noncomputable def iU(S:Str)(i:Nat):Str:=⟨(S.cps.toList.take (i+1)).toArray⟩
theorem HP(h:rS S){i:Nat}(b:i<8):AY (iU S i):=by
 have c:(iU S i).length=i+1:=by
  show(S.cps.toList.take (i+1)).toArray.size=_
  have:=h.1;rw[List.size_toArray,List.length_take];omega
 refine⟨by omega,by omega,λx a=>h.2 x (List.mem_of_mem_take (i:=i+1) ?_)⟩
 have:(iU S i).cps.toList=S.cps.toList.take (i+1):=rfl;rwa[this]at a
theorem Ei(h:rS S)(i:m<=8):((List.range m).map (iU S)).Nodup:=by
 refine List.pairwise_map.mpr (List.Pairwise.imp_of_mem (λ{a b} d e c f=>c ?_) (List.nodup_range (n:=m)))
 have j:=List.mem_range.mp d;have k:=List.mem_range.mp e;have l:=h.1;have g:=congrArg (λz:Str=>z.cps.toList.length) f
 simp only[iU,List.length_take]at g;omega
def MW:EM:=(bo (cz (aa 1) true (af .non) false (m2 (aP .Add) (aa 0) (af (.int 1)))) true (af .non) (cO (ab (aa 1) ae)) 0 [3])
theorem Ej(h:rS S)(o:m<=12){a0 a2 a4 a5 a6 a7 a8 a9 a10:Option D}:MW [a0,oI m,a2,oS S,a4,a5,a6,a7,a8,a9,a10] Ω=.ok (.ref Ω.length) (Ω++[.lst (((List.range m).map (iU S)).map .str)]):=by
 have a:lM (m:Int)=true:=eY (by omega) (by omega)
 have k:S.length=8:=by simpa[Str.length]using h.1
 have b:small S.length=true:=aN (by omega)
 have c:=cR (Ω:=Ω) (ao:=Ω) (ρ:=[a0,oI m,a2,oS S,a4,a5,a6,a7,a8,a9,a10]) (me:=cz (aa 1) true (af .non) false (m2 (aP .Add) (aa 0) (af (.int 1)))) (nc:=true) (mc:=af .non) (mi:=cO (ab (aa 1) ae)) (cap:=[3]) (src:=.ints 0 m) (ds:=intsFrom 0 m) (p:=λ_=>true)
  (g:=λd=>match d with|.int j=>.str ⟨(de S.cps.toList none (some (j+1))).toArray⟩|_=>.non) (by simp[a]) rfl (λd f=>rfl) (λd f _=>by
   obtain⟨i,l⟩:=List.mem_iff_getElem?.mp f;obtain⟨rfl,n⟩:=eZ l;generalize (0:Int)+(i:Int)=j;simp[dW,b]) (by rw[dQ];omega)
 rw[List.filter_eq_self.mpr (by simp),jh,List.map_map]at c
 have e:((List.range m).map ((λd:D=>match d with|.int j=>D.str ⟨(de S.cps.toList none (some (j+1))).toArray⟩|_=>.non) ∘ λ(i:Nat)=>D.int i))=((List.range m).map (iU S)).map .str:=by
  rw[List.map_map];refine List.map_congr_left λi _=>?_
  show D.str ⟨(de S.cps.toList none (some ((i:Int)+1))).toArray⟩=.str (iU S i)
  rw[show(i:Int)+1=((i+1:Nat):Int)by omega,rG]
  rfl
 rw[e]at c;exact c
def sgn(f st:Int)(i:Nat):Nat:=97+((f+st*(i:Int))%26).toNat
def MX:EM:=(bo (m2 az (aa 2) (m2 (aP .Mod) (m2 (aP .Add) (aa 1) (m2 (aP .Mult) (aa 3) (aa 0))) (af (.int 26)))) true (af .non) (cO (ab (aa 1) ae)) 0 [8,2,9])
theorem Ek{f st:Int}(k:1<=st)(s:st<26)(t:m<=12){a0 a3 a4 a5 a6 a7 a10:Option D}:MX [a0,oI m,oS abc,a3,a4,a5,a6,a7,oI f,oI st,a10] Ω=.ok (.ref Ω.length) (Ω++[.lst (((List.range m).map λi=>bJ (sgn f st i)).map .str)]):=by
 have a:lM (m:Int)=true:=eY (by omega) (by omega)
 have l:kr st=true:=iM (by omega) (by omega)
 have b:=cR (Ω:=Ω) (ao:=Ω) (ρ:=[a0,oI m,oS abc,a3,a4,a5,a6,a7,oI f,oI st,a10]) (me:=m2 az (aa 2) (m2 (aP .Mod) (m2 (aP .Add) (aa 1) (m2 (aP .Mult) (aa 3) (aa 0))) (af (.int 26)))) (nc:=true) (mc:=af .non) (mi:=cO (ab (aa 1) ae)) (cap:=[8,2,9]) (src:=.ints 0 m) (ds:=intsFrom 0 m) (p:=λ_=>true)
  (g:=λd=>match d with|.int j=>.str (bJ (97+((f+st*j)%26).toNat))|_=>.non) (by simp[a]) rfl (λd h=>rfl) (λd h _=>by
   obtain⟨i,n⟩:=List.mem_iff_getElem?.mp h;obtain⟨rfl,o⟩:=eZ n;generalize u:(0:Int)+(i:Int)=j;have r:kr j=true:=iM (by omega) (by omega)
   have c:=tG (q:=(f+st*j)%26) (by omega) (by omega)
   simp[dW,l,r,c]) (by rw[dQ];omega)
 rw[List.filter_eq_self.mpr (by simp),jh,List.map_map]at b
 have e:((List.range m).map ((λd:D=>match d with|.int j=>D.str (bJ (97+((f+st*j)%26).toNat))|_=>.non) ∘ λ(i:Nat)=>D.int i))=((List.range m).map λi=>bJ (sgn f st i)).map .str:=by
  rw[List.map_map];exact List.map_congr_left λi _=>rfl
 rw[e]at b;exact b
noncomputable def rT(S:Str)(a pl:Nat)(z:Str):Str:=((⟨(S.cps.toList.take pl).toArray⟩:Str)++z)++(⟨((S.cps.toList.drop (pl+1)).take (a - (pl+1))).toArray⟩:Str)
theorem rV{a pl:Nat}{c:Nat}:(rT S a pl (bJ c)).cps.toList=(S.cps.toList.take pl++[c])++(S.cps.toList.drop (pl+1)).take (a - (pl+1)):=by
 unfold rT;rw[Str.cps_append,Str.cps_append];simp[bJ]
theorem MY(h:rS S){a pl:Nat}{c:Nat}(hz:a<=8)(d:pl<a)(b:97<=c/\c<=122):AY (rT S a pl (bJ c)):=by
 have e:=h.1
 have f:(rT S a pl (bJ c)).length=a:=by
  have:(rT S a pl (bJ c)).length=(rT S a pl (bJ c)).cps.toList.length:=by simp[Str.length]
  rw[this,rV];simp only[List.length_append,List.length_take,List.length_drop,List.length_singleton];omega
 refine⟨by omega,by omega,λx hx=>?_⟩
 rw[rV]at hx;simp only[List.mem_append,List.mem_singleton]at hx;rcases hx with (hx|rfl)|hx
 .exact h.2 x (List.mem_of_mem_take hx)
 .exact b
 .exact h.2 x (List.mem_of_mem_drop (List.mem_of_mem_take hx))
theorem HQ(h:rS S){e pl:Nat}{f st:Int}(r:m<=12)(g:st=1\/st=3\/st=5\/st=7):((List.range m).map λi=>rT S e pl (bJ (sgn f st i))).Nodup:=by
 refine List.pairwise_map.mpr (List.Pairwise.imp_of_mem (λ{a b} j k c l=>c ?_) (List.nodup_range (n:=m)))
 have s:=List.mem_range.mp j;have t:=List.mem_range.mp k;have d:=congrArg (λz:Str=>z.cps.toList) l
 simp only[rV]at d;have o:=List.append_cancel_right d;have p:=List.append_cancel_left o;have q:sgn f st a=sgn f st b:=by simpa using p
 unfold sgn at q;rcases g with rfl|rfl|rfl|rfl<;>omega
def Qx:EM:=(bo (m2 (aP .Add) (m2 (aP .Add) (cz (aa 3) true (af .non) false (aa 2)) (aa 0)) (cz (aa 3) false (m2 (aP .Add) (aa 2) (af (.int 1))) false (aa 1))) true (af .non) (aL (aa 10)) 0 [6,7,3])
theorem El(h:rS S){a pl q:Nat}{b:List Nat}(hz:a<=8)(u:pl<a)(n:Ω[q]?=some (.lst ((b.map bJ).map .str)))(x:b.length<=1000){a0 a1 a2 a4 a5 a8 a9:Option D}:Qx [a0,a1,a2,oS S,a4,a5,oI a,oI pl,a8,a9,oR q] Ω=.ok (.ref Ω.length) (Ω++[.lst ((b.map λc=>rT S a pl (bJ c)).map .str)]):=by
 have r:S.length=8:=by simpa[Str.length]using h.1
 have f:small S.length=true:=aN (by omega)
 have y:=h.1
 have j:=cR (Ω:=Ω) (ao:=Ω) (ρ:=[a0,a1,a2,oS S,a4,a5,oI a,oI pl,a8,a9,oR q]) (me:=m2 (aP .Add) (m2 (aP .Add) (cz (aa 3) true (af .non) false (aa 2)) (aa 0)) (cz (aa 3) false (m2 (aP .Add) (aa 2) (af (.int 1))) false (aa 1))) (nc:=true) (mc:=af .non) (mi:=aL (aa 10)) (cap:=[6,7,3]) (src:=.seq (.ref q)) (ds:=(b.map bJ).map .str) (p:=λ_=>true)
  (g:=λd=>match d with|.str z=>.str (rT S a pl z)|_=>.non) (by
   rw[bf];exact aR (by rw[aC,aA n])) (by rw[bU,aC,aA n]) (λd o=>rfl) (λd o _=>by
   obtain⟨z,k,rfl⟩:=List.mem_map.mp o;obtain⟨c,_,rfl⟩:=List.mem_map.mp k;have s:de S.cps.toList none (some (pl:Int))=S.cps.toList.take pl:=rG _ _
   have t:de S.cps.toList (some ((pl:Int)+1)) (some (a:Int))=(S.cps.toList.drop (pl+1)).take (a - (pl+1)):=by
    rw[show(pl:Int)+1=((pl+1:Nat):Int)by omega,xP]
   have one:(bJ c).length=1:=rfl
   have A:(⟨(S.cps.toList.take pl).toArray⟩:Str).length<=8:=by
    show(S.cps.toList.take pl).toArray.size<=8
    rw[List.size_toArray,List.length_take];omega
   have B:(⟨((S.cps.toList.drop (pl+1)).take (a - (pl+1))).toArray⟩:Str).length<=8:=by
    show((S.cps.toList.drop (pl+1)).take (a - (pl+1))).toArray.size<=8
    rw[List.size_toArray,List.length_take];omega
   have l:small ((⟨(S.cps.toList.take pl).toArray⟩:Str).length+(bJ c).length)=true:=aN (by omega)
   have m:small (((⟨(S.cps.toList.take pl).toArray⟩:Str)++bJ c).length+(⟨((S.cps.toList.drop (pl+1)).take (a - (pl+1))).toArray⟩:Str).length)=true:=aN (by rw[Str.length_append];omega)
   generalize C:bJ c=w at *;simp[dW,f,s,t,l,m,rT]) (by simp;omega)
 rw[List.filter_eq_self.mpr (by simp),List.map_map,List.map_map]at j
 have e:(b.map (((λd:D=>match d with|.str z=>D.str (rT S a pl z)|_=>.non) ∘ D.str) ∘ bJ))=(b.map λc=>rT S a pl (bJ c)).map .str:=by
  rw[List.map_map];exact List.map_congr_left λi _=>rfl
 rw[e]at j;exact j
def Fg(F:List D->Out Rs):SM:=(dc (eL (m2 (aw .LtE) (aa 1) (af (.int 8))) (m2 (aw .Eq) (mN (bP F) (ab (aa 0) (ab (af (.int 9)) (ab (af (.int 4)) ae)))) (af (.int 1))))
 (ag (ax 5 MW)
 (ag (aZ (vk 5 4))
 ai))
 ai)
def MZ(F:List D->Out Rs):SM:=
 (ag (ax 2 (af (.str "abcdefghijklmnopqrstuvwxyz")))
 (ag (ax 3 (KL F))
 (ag (ax 4 (mN (bP F) (ab (aa 0) (ab (af (.int 8)) (ab (aa 1) ae)))))
 (ag (Fg F)
 (ag (ax 6 (m2 (aP .Add) (af (.int 1)) (mN (bP F) (ab (aa 0) (ab (af (.int 10)) (ab (af (.int 8)) ae))))))
 (ag (ax 7 (mN (bP F) (ab (aa 0) (ab (af (.int 11)) (ab (aa 6) ae)))))
 (ag (ax 8 (mN (bP F) (ab (aa 0) (ab (af (.int 12)) (ab (af (.int 26)) ae)))))
 (ag (ax 9 (m2 az (mN bj (ab (af (.int 1)) (ab (af (.int 3)) (ab (af (.int 5)) (ab (af (.int 7)) ae))))) (mN (bP F) (ab (aa 0) (ab (af (.int 13)) (ab (af (.int 4)) ae))))))
 (ag (ax 10 MX)
 (ag (aZ Qx)
 ai))))))))))
def Bk(N:ba):Prop:=∀(d:aD) (c:Int) (m:Nat),1<=m->m<=12->∃(b:List Str) (q:Nat) (a:aD),b.Nodup/\(∀x∈b,AY x)/\b.length=m/\N [.int c,.int m] d=.ok (.ref q) a/\a[q]?=some (.lst (b.map .str))/\aj [] d a
theorem HR(l:jA μ F):Bk (bL 11 2 (MZ F)):=by
 intro Ω c m Z I;rw[bt (by rfl)]
 have e0:aV 11 [D.int c,.int m]=[oI c,oI m,none,none,none,none,none,none,none,none,none]:=rfl;rw[e0];obtain⟨t0,t1,ht⟩:=l c 8 (m:Int) (by omega) (by omega) (by omega)
 obtain⟨w0,w1,C⟩:=l c 9 4 (by omega) (by omega) (by omega)
 obtain⟨z0,z1,hz⟩:=l c 10 8 (by omega) (by omega) (by omega)
 generalize μ c 8 (m:Int)=t at *;generalize μ c 9 4=w at *;generalize μ c 10 8=z at *;obtain⟨p0,p1,V⟩:=l c 11 (1+z) (by omega) (by omega) (by omega)
 obtain⟨f0,f1,hf⟩:=l c 12 26 (by omega) (by omega) (by omega)
 obtain⟨s0,s1,hs⟩:=l c 13 4 (by omega) (by omega) (by omega)
 generalize μ c 11 (1+z)=p at *;generalize μ c 12 26=f at *;generalize μ c 13 4=s at *;obtain⟨b,rfl⟩:∃b:Nat,(b:Int)=t:=⟨t.toNat,by omega⟩
 obtain⟨g,rfl⟩:∃g:Nat,(g:Int)=p:=⟨p.toNat,by omega⟩
 obtain⟨e,B⟩:∃e:Nat,(e:Int)=1+z:=⟨(1+z).toNat,by omega⟩
 rw[←B]at V;obtain⟨S,a,e1,A,X⟩:=Eh (Ω:=Ω) (c:=c) l (a1:=oI m) (a3:=none) (a4:=none) (a5:=none) (a6:=none) (a7:=none) (a8:=none) (a9:=none) (a10:=none);have r1:(ax 2 (af (.str "abcdefghijklmnopqrstuvwxyz"))) [oI c,oI m,none,none,none,none,none,none,none,none,none] Ω=.nx [oI c,oI m,oS abc,none,none,none,none,none,none,none,none] Ω:=rfl
 have r2:(ax 3 (KL F)) [oI c,oI m,oS abc,none,none,none,none,none,none,none,none] Ω=.nx [oI c,oI m,oS abc,oS S,none,none,none,none,none,none,none] a:=by
  rw[bu,e1];rfl
 have r3:(ax 4 (mN (bP F) (ab (aa 0) (ab (af (.int 8)) (ab (aa 1) ae))))) [oI c,oI m,oS abc,oS S,none,none,none,none,none,none,none] a=.nx [oI c,oI m,oS abc,oS S,oI b,none,none,none,none,none,none] a:=by simp[ht]
 unfold MZ;rw[ah,r1,aB,ah,r2,aB,ah,r3,aB,ah]
 by_cases Y:m<=8/\w=1
 .obtain⟨J,rfl⟩:=Y
  have e2:=Ej (Ω:=a) A I (a0:=oI c) (a2:=oS abc) (a4:=oI b) (a5:=none) (a6:=none) (a7:=none) (a8:=none) (a9:=none) (a10:=none);have K:(a++[Cell.lst (((List.range m).map (iU S)).map .str)])[a.length]?=some (.lst (((List.range m).map (iU S)).map .str)):=av;have L:aj [] a (a++[Cell.lst (((List.range m).map (iU S)).map .str)]):=aj.app
  have hv:∀x∈(List.range m).map (iU S),AY x:=λx q=>by
   obtain⟨i,hi,rfl⟩:=List.mem_map.mp q;exact HP A (by have:=List.mem_range.mp hi;omega)
  have hn:=Ei (m:=m) A J;have M:((List.range m).map (iU S)).length=m:=by simp
  generalize (List.range m).map (iU S)=E at *;generalize a++[Cell.lst (E.map .str)]=d at *;obtain⟨k,o,G,N,O,_⟩:=rR (ρ:=[oI c,oI m,oS abc,oS S,oI b,oR a.length,none,none,none,none,none]) (i:=5) (j:=4) rfl rfl K (by omega)
  have P:=lG (t:=b) E;refine⟨E.drop b++E.take b,k,o,P.nodup_iff.mpr hn,λx q=>hv x (P.mem_iff.mp q),by rw[P.length_eq];exact M,?_,N,(X.trans L).trans O⟩
  have n:((m:Int)<=8):=by omega
  have rt:(eL (m2 (aw .LtE) (aa 1) (af (.int 8))) (m2 (aw .Eq) (mN (bP F) (ab (aa 0) (ab (af (.int 9)) (ab (af (.int 4)) ae)))) (af (.int 1)))) [oI c,oI m,oS abc,oS S,oI b,none,none,none,none,none,none] a=.ok (.bl true) a:=by
   simp[C,n]
  have ra:ax 5 MW [oI c,oI m,oS abc,oS S,oI b,none,none,none,none,none,none] a=.nx [oI c,oI m,oS abc,oS S,oI b,oR a.length,none,none,none,none,none] d:=by
   rw[bu,e2];rfl
  unfold Fg;rw[cx,rt,dj,bD,dy,b9,if_pos rfl,ah,ra,aB,ah,cZ,G];rfl
 .have r4:Fg F [oI c,oI m,oS abc,oS S,oI b,none,none,none,none,none,none] a=.nx [oI c,oI m,oS abc,oS S,oI b,none,none,none,none,none,none] a:=by
   by_cases H:w=1
   .have n:¬ ((m:Int)<=8):=λh=>Y ⟨by omega,H⟩
    simp[Fg,C,n]
   .by_cases n:(m:Int)<=8
    .simp[Fg,C,n,H]
    .simp[Fg,C,n]
  have r5:(ax 6 (m2 (aP .Add) (af (.int 1)) (mN (bP F) (ab (aa 0) (ab (af (.int 10)) (ab (af (.int 8)) ae)))))) [oI c,oI m,oS abc,oS S,oI b,none,none,none,none,none,none] a=.nx [oI c,oI m,oS abc,oS S,oI b,none,oI e,none,none,none,none] a:=by
   rw[B];simp[hz]
  have r6:(ax 7 (mN (bP F) (ab (aa 0) (ab (af (.int 11)) (ab (aa 6) ae))))) [oI c,oI m,oS abc,oS S,oI b,none,oI e,none,none,none,none] a=.nx [oI c,oI m,oS abc,oS S,oI b,none,oI e,oI g,none,none,none] a:=by simp[V]
  have r7:(ax 8 (mN (bP F) (ab (aa 0) (ab (af (.int 12)) (ab (af (.int 26)) ae))))) [oI c,oI m,oS abc,oS S,oI b,none,oI e,oI g,none,none,none] a=.nx [oI c,oI m,oS abc,oS S,oI b,none,oI e,oI g,oI f,none,none] a:=by simp[hf]
  have L:aj [] a (a++[Cell.lst [.int 1,.int 3,.int 5,.int 7]]):=aj.app;have K:(a++[Cell.lst [.int 1,.int 3,.int 5,.int 7]])[a.length]?=some (.lst [.int 1,.int 3,.int 5,.int 7]):=av
  have r:∃st:Int,(st=1\/st=3\/st=5\/st=7)/\L2.jD [D.int 1,.int 3,.int 5,.int 7] s=oI st:=by
   have:s=0\/s=1\/s=2\/s=3:=by omega
   rcases this with rfl|rfl|rfl|rfl
   .exact⟨1,.inl rfl,rfl⟩
   .exact⟨3,.inr (.inl rfl),rfl⟩
   .exact⟨5,.inr (.inr (.inl rfl)),rfl⟩
   .exact⟨7,.inr (.inr (.inr rfl)),rfl⟩
  obtain⟨st,r,Q⟩:=r;have R:=cQ K Q
  have r8:(ax 9 (m2 az (mN bj (ab (af (.int 1)) (ab (af (.int 3)) (ab (af (.int 5)) (ab (af (.int 7)) ae))))) (mN (bP F) (ab (aa 0) (ab (af (.int 13)) (ab (af (.int 4)) ae)))))) [oI c,oI m,oS abc,oS S,oI b,none,oI e,oI g,oI f,none,none] a=.nx [oI c,oI m,oS abc,oS S,oI b,none,oI e,oI g,oI f,oI st,none] (a++[Cell.lst [.int 1,.int 3,.int 5,.int 7]]):=by
   have H:(mN bj (ab (af (.int 1)) (ab (af (.int 3)) (ab (af (.int 5)) (ab (af (.int 7)) ae))))) [oI c,oI m,oS abc,oS S,oI b,none,oI e,oI g,oI f,none,none] a=.ok (.ref a.length) (a++[Cell.lst [.int 1,.int 3,.int 5,.int 7]]):=by
    show bj [.int 1,.int 3,.int 5,.int 7] a=_
    rw[dz,if_pos (aN (by simp))]
   have h2:(mN (bP F) (ab (aa 0) (ab (af (.int 13)) (ab (af (.int 4)) ae)))) [oI c,oI m,oS abc,oS S,oI b,none,oI e,oI g,oI f,none,none] (a++[Cell.lst [.int 1,.int 3,.int 5,.int 7]])=.ok (.int s) (a++[Cell.lst [.int 1,.int 3,.int 5,.int 7]]):=by
    generalize a++[Cell.lst [.int 1,.int 3,.int 5,.int 7]]=b0;simp[hs]
   rw[bu,cX,H,ak,h2,ak,R];rfl
  generalize a++[Cell.lst [.int 1,.int 3,.int 5,.int 7]]=d at *;have G:=Ek (Ω:=d) (f:=f) (st:=st) (by omega) (by omega) I (a0:=oI c) (a3:=oS S) (a4:=oI b) (a5:=none) (a6:=oI e) (a7:=oI g) (a10:=none)
  have em:(List.range m).map (λi=>bJ (sgn f st i))=((List.range m).map (sgn f st)).map bJ:=by rw[List.map_map];rfl
  rw[em]at G
  have T:∀x∈(List.range m).map (sgn f st),97<=x/\x<=122:=λx q=>by
   obtain⟨i,_,rfl⟩:=List.mem_map.mp q;unfold sgn;omega
  have U:(((List.range m).map (sgn f st)).map λx=>rT S e g (bJ x)).Nodup:=by
   rw[List.map_map];exact HQ A I r
  have M:((List.range m).map (sgn f st)).length=m:=by simp
  generalize (List.range m).map (sgn f st)=u at *;have N:(d++[Cell.lst ((u.map bJ).map .str)])[d.length]?=some (.lst ((u.map bJ).map .str)):=av;have O:aj [] d (d++[Cell.lst ((u.map bJ).map .str)]):=aj.app
  have r9:ax 10 MX [oI c,oI m,oS abc,oS S,oI b,none,oI e,oI g,oI f,oI st,none] d=.nx [oI c,oI m,oS abc,oS S,oI b,none,oI e,oI g,oI f,oI st,oR d.length] (d++[Cell.lst ((u.map bJ).map .str)]):=by
   rw[bu,G];rfl
  generalize d++[Cell.lst ((u.map bJ).map .str)]=o at *;have e4:=El A (show e<=8 by omega) (show g<e by omega) N (by omega) (a0:=oI c) (a1:=oI m) (a2:=oS abc) (a4:=oI b) (a5:=none) (a8:=oI f) (a9:=oI st)
  refine⟨u.map λx=>rT S e g (bJ x),o.length,o++[.lst ((u.map λx=>rT S e g (bJ x)).map .str)],U,λx q=>?_,by simpa using M,?_,av,((X.trans L).trans O).trans aj.app⟩
  .obtain⟨y,hy,rfl⟩:=List.mem_map.mp q
   exact MY A (by omega) (by omega) (T y hy)
  .rw[r4,aB,ah,r5,aB,ah,r6,aB,ah,r7,aB,ah,r8,aB,ah,r9,aB,ah,cZ,e4]
   rfl
end
section
variable{Ω ao:aD}{ρ:aS}{F C:List D->Out Rs}{μ:Int->Int->Int->Int}{κ:List Int->Nat->Int}{c:Int}{m:Nat}{ns:List Int}{xs:List Str}{x i:Nat}
def qa(xs:List Str)(mo i:Nat)(r:List Str):Prop:=r.Nodup/\r.length<=mo/\∀y∈r,y∈xs.take i
def M7(F:List D->Out Rs):EM:=(bo (m2 az (aa 2) (aa 0)) false (m2 (aw .Eq) (mN (bP F) (ab (aa 1) (ab (aa 0) (ab (af (.int 3)) ae)))) (af (.int 0))) (cO (ab (aa 5) ae)) 0 [6,2])
theorem rW{xs:List Str}:∀{i:Nat},i<=xs.length->(List.range i).map (λj=>xs.getD j "")=xs.take i:=by
 intro i a;apply List.ext_getElem?;intro j;rw[List.getElem?_map,List.getElem?_take]
 by_cases h:j<i
 .rw[List.getElem?_range h,if_pos h]
  rw[List.getElem?_eq_getElem (by omega)]
  simp[show j<xs.length by omega]
 .rw[if_neg h,List.getElem?_eq_none (by simp;omega)]
  rfl
theorem Em(a:jA μ F){a0 a1 a3 a4 a7 a8:Option D}(m:Ω[x]?=some (.lst (xs.map .str)))(n:i<=xs.length)(s:xs.length<=100):∃r:List Str,r.Sublist (xs.take i)/\M7 F [a0,a1,oR x,a3,a4,oI i,oI c,a7,a8] Ω=.ok (.ref Ω.length) (Ω++[.lst (r.map .str)]):=by
 have b:lM (i:Int)=true:=eY (by omega) (by omega)
 have l:=cR (Ω:=Ω) (ao:=Ω) (ρ:=[a0,a1,oR x,a3,a4,oI i,oI c,a7,a8]) (me:=m2 az (aa 2) (aa 0)) (nc:=false) (mc:=m2 (aw .Eq) (mN (bP F) (ab (aa 1) (ab (aa 0) (ab (af (.int 3)) ae)))) (af (.int 0))) (mi:=cO (ab (aa 5) ae)) (cap:=[6,2]) (src:=.ints 0 i) (ds:=intsFrom 0 i) (p:=λd=>match d with|.int j=>(μ c j 3==0)|_=>false)
  (g:=λd=>match d with|.int j=>.str (xs.getD j.toNat "")|_=>.non) (by simp[b]) rfl (λd f=>by
   obtain⟨j,h⟩:=List.mem_iff_getElem?.mp f;obtain⟨rfl,k⟩:=eZ h;obtain⟨t,u,q⟩:=a c (0+(j:Int)) 3 (by omega) (by omega) (by omega)
   generalize (0:Int)+(j:Int)=o at *
   show cB ((m2 (aw .Eq) (mN (bP F) (ab (aa 1) (ab (aa 0) (ab (af (.int 3)) ae)))) (af (.int 0))) [oI o,oI c,oR x] Ω)=_
   simp[q]) (λd f _=>by
   obtain⟨j,h⟩:=List.mem_iff_getElem?.mp f;obtain⟨rfl,k⟩:=eZ h;rw[Int.zero_add]
   show az (.ref x) (.int j) Ω=.ok (.str (xs.getD (j:Int).toNat "")) Ω
   refine cQ m (L2.dv ?_);simp[show j<xs.length by omega]) (by rw[dQ];omega)
 have e:(((intsFrom 0 i).filter λd=>match d with|.int j=>(μ c j 3==0)|_=>false).map λd=>match d with|.int j=>D.str (xs.getD j.toNat "")|_=>.non)=(((List.range i).filter λj:Nat=>(μ c j 3==0)).map λj=>xs.getD j "").map .str:=by
  rw[jh,List.filter_map,List.map_map,List.map_map];rfl
 rw[e]at l;refine⟨_,?_,l⟩;rw[←rW n];exact(List.filter_sublist).map _
def M8(F:List D->Out Rs):EM:=(eL (m2 (aw .NotEq) (aa 7) (mN bj ae)) (m2 (aw .Eq) (mN (bP F) (ab (aa 6) (ab (af (.int 13)) (ab (af (.int 3)) ae)))) (af (.int 1))))
def HS(F:List D->Out Rs):SM:=(dc (M8 F)
 (ag (ax 8 (mN (bP F) (ab (aa 6) (ab (af (.int 14)) (ab (mN (aO .len) (ab (aa 7) ae)) ae)))))
 (ag (ax 7 (vk 7 8))
 ai))
 ai)
def M9(F C:List D->Out Rs):SM:=
 (ag (ax 6 (mN (bP C) (ab (aa 0) (ab (m2 (aP .Add) (aa 1) (aa 5)) ae))))
 (ag (ax 7 (M7 F))
 (ag (ax 7 (cz (aa 7) true (af .non) false (aa 3)))
 (ag (bC (bQ eo cI (aa 7) ae))
 (ag (HS F)
 (ag (bC (bQ eo bh (aa 4) (ab (aa 7) ae)))
 ai))))))
def M_(F C:List D->Out Rs):SM:=
 (ag (ax 4 (mN bj ae))
 (ag (bX (bp 5) (cO (ab (mN (aO .len) (ab (aa 2) ae)) ae))
 (M9 F C))
 (ag (aZ (aa 4))
 ai)))
abbrev RV(ns:List Int)(st x mo q:Nat)(a5 a6 a7 a8:Option D):aS:=[some (SC ns),oI st,oR x,oI mo,oR q,a5,a6,a7,a8]
theorem En(d:jA μ F){a0 a1 a2 a3 a4 a5 a8:Option D}{r:List Str}{w:Nat}(p:Ω[w]?=some (.lst (r.map .str)))(I:r.length<=100):∃(q:List Str) (g:Nat) (m:Option D) (ao:aD),q.Perm r/\HS F [a0,a1,a2,a3,a4,a5,oI c,oR w,a8] Ω=.nx [a0,a1,a2,a3,a4,a5,oI c,oR g,m] ao/\ao[g]?=some (.lst (q.map .str))/\(g=w\/Ω.length<=g)/\aj [] Ω ao:=by
 obtain⟨a,x,h⟩:=ne_nil (ρ:=[a0,a1,a2,a3,a4,a5,oI c,oR w,a8]) (i:=7) rfl p;obtain⟨J,K,y⟩:=d c 13 3 (by omega) (by omega) (by omega)
 have b:=h.get _ _ p (by simp)
 have A:(m2 (aw .Eq) (mN (bP F) (ab (aa 6) (ab (af (.int 13)) (ab (af (.int 3)) ae)))) (af (.int 1))) [a0,a1,a2,a3,a4,a5,oI c,oR w,a8] a=.ok (.bl (μ c 13 3==1)) a:=by simp[y]
 have s:M8 F [a0,a1,a2,a3,a4,a5,oI c,oR w,a8] Ω=.ok (.bl (decide (r≠[])&&(μ c 13 3==1))) a:=by
  unfold M8;rw[iO,x,ak,bD]
  by_cases e:r=[]
  .subst e;rfl
  .rw[decide_eq_true e,tI,A,Bool.true_and]
 by_cases l:r≠[]/\μ c 13 3=1
 .have L:0<r.length:=List.length_pos_iff.mpr l.1
  obtain⟨M,N,u⟩:=d c 14 (r.length:Int) (by omega) (by omega) (by omega)
  obtain⟨t,B⟩:∃t:Nat,(t:Int)=μ c 14 (r.length:Int):=⟨(μ c 14 (r.length:Int)).toNat,by omega⟩
  rw[←B]at u;have f:=fW b;rw[List.length_map]at f
  have C:(ax 8 (mN (bP F) (ab (aa 6) (ab (af (.int 14)) (ab (mN (aO .len) (ab (aa 7) ae)) ae))))) [a0,a1,a2,a3,a4,a5,oI c,oR w,a8] a=.nx [a0,a1,a2,a3,a4,a5,oI c,oR w,oI t] a:=by
   simp[f,u]
  obtain⟨k,n,E,G,H,O⟩:=rR (ρ:=[a0,a1,a2,a3,a4,a5,oI c,oR w,oI t]) (i:=7) (j:=8) rfl rfl b (by omega)
  refine⟨r.drop t++r.take t,k,oI t,n,lG r,?_,G,.inr (by have:=h.len;omega),h.trans H⟩
  have o:(decide (r≠[])&&(μ c 13 3==1))=true:=by simp[l.1,l.2]
  unfold HS;rw[cx,s,o,dj,bD,dy,b9,if_pos rfl,ah,C,aB,ah,bu,E];rfl
 .refine⟨r,w,a8,a,List.Perm.refl _,?_,b,.inl rfl,h⟩
  have o:(decide (r≠[])&&(μ c 13 3==1))=false:=by
   by_cases e:r=[]
   .simp[e]
   .have:μ c 13 3≠1:=λz=>l ⟨e,z⟩
    simp[this]
  unfold HS;rw[cx,s,o];rfl
theorem Eo(m:jA μ F)(A:jg κ C){st mo q:Nat}{k:List Nat}{rs:List (List Str)}{a6 a7 a8:Option D}(U:Ω[x]?=some (.lst (xs.map .str)))(B:xs.Nodup)(V:i<=xs.length)(X:xs.length<=100)(R:Rw Ω q k rs)(Y:q∉k)(Z:rs.length<=100) :
  ∃r j E G e ao,qa xs mo i r/\M9 F C (RV ns st x mo q (oI i) a6 a7 a8) Ω=.nx (RV ns st x mo q (oI i) E G e) ao/\Rw ao q (k++[j]) (rs++[r])/\q∉k++[j]/\aj [q] Ω ao:=by
 have H:C [SC ns,.int ((st:Int)+(i:Int))]=.ok (false,.int (κ ns (st+i))):=by
  rw[show(st:Int)+(i:Int)=((st+i:Nat):Int)by omega]
  exact A ns (st+i)
 have r1:(ax 6 (mN (bP C) (ab (aa 0) (ab (m2 (aP .Add) (aa 1) (aa 5)) ae)))) (RV ns st x mo q (oI i) a6 a7 a8) Ω=.nx (RV ns st x mo q (oI i) (some (.int (κ ns (st+i)))) a7 a8) Ω:=by
  simp[RV,H]
 generalize κ ns (st+i)=c at *;obtain⟨r,g,e2⟩:=Em (c:=c) m (a0:=some (SC ns)) (a1:=oI st) (a3:=oI mo) (a4:=oR q) (a7:=a7) (a8:=a8) U V X;have I:r.length<=100:=by have:=g.length_le;rw[List.length_take]at this;omega
 have r2:ax 7 (M7 F) (RV ns st x mo q (oI i) (oI c) a7 a8) Ω=.nx (RV ns st x mo q (oI i) (oI c) (oR Ω.length) a8) (Ω++[.lst (r.map .str)]):=by
  rw[bu,e2];rfl
 have g2:(Ω++[Cell.lst (r.map .str)])[Ω.length]?=some (.lst (r.map .str)):=av;have J:aj [] Ω (Ω++[Cell.lst (r.map .str)]):=aj.app;generalize Ω++[Cell.lst (r.map .str)]=a at *;have s3:=om (n:=mo) g2
 have r3:ax 7 (cz (aa 7) true (af .non) false (aa 3)) (RV ns st x mo q (oI i) (oI c) (oR Ω.length) a8) a=.nx (RV ns st x mo q (oI i) (oI c) (oR a.length) a8) (a++[.lst ((r.take mo).map .str)]):=by
  have:cz (aa 7) true (af .non) false (aa 3) (RV ns st x mo q (oI i) (oI c) (oR Ω.length) a8) a=.ok (.ref a.length) (a++[.lst ((r.take mo).map .str)]):=by
   rw[iQ]
   show jH (.ref Ω.length) none (some (mo:Int)) a=_
   exact s3
  rw[bu,this];rfl
 have K:(a++[Cell.lst ((r.take mo).map .str)])[a.length]?=some (.lst ((r.take mo).map .str)):=av;have K3:aj [] a (a++[Cell.lst ((r.take mo).map .str)]):=aj.app;generalize a++[Cell.lst ((r.take mo).map .str)]=f at *;have L:=gH K
 have r4:(bC (bQ eo cI (aa 7) ae)) (RV ns st x mo q (oI i) (oI c) (oR a.length) a8) f=.nx (RV ns st x mo q (oI i) (oI c) (oR a.length) a8) (f.set a.length (.lst ((r.take mo).map D.str).reverse)):=by
  rw[bT,dE (x:=.ref a.length) (ao:=f) rfl (c8 K),aX,ak,L];rfl
 have g4:(f.set a.length (.lst ((r.take mo).map D.str).reverse))[a.length]?=some (.lst ((r.take mo).reverse.map .str)):=by rw[List.map_reverse];exact aQ K
 have Q:aj [] Ω (f.set a.length (.lst ((r.take mo).map D.str).reverse)):=aj.new (J.trans K3) (aj.set (fp:=[a.length]) (by simp)) (by simpa using J.len)
 generalize f.set a.length (.lst ((r.take mo).map D.str).reverse)=M at *;obtain⟨S,w,e,b,l,r5,g5,hw,K5⟩:=En (c:=c) m (a0:=some (SC ns)) (a1:=oI st) (a2:=oR x) (a3:=oI mo) (a4:=oR q) (a5:=oI i) (a8:=a8) g4 (by rw[List.length_reverse,List.length_take];omega)
 have b0:Ω.length<=w:=by
  have:=J.len;have:=Q.len;rcases hw with z|z
  .omega
  .omega
 have o:=Q.trans K5;have u:=R.keep o;have hL:=R.len;have N:=dZ (d:=.ref w) u.ce (by simp;omega)
 have r6:(bC (bQ eo bh (aa 4) (ab (aa 7) ae))) (RV ns st x mo q (oI i) (oI c) (oR w) e) b=.nx (RV ns st x mo q (oI i) (oI c) (oR w) e) (b.set q (.lst (k.map .ref++[.ref w]))):=by
  rw[bT,dE (x:=.ref q) (ao:=b) rfl (c8 u.ce)]
  show cm (bh (.ref q) [.ref w] b) _=_
  rw[N];rfl
 have lq:=bH R.ce;have T:aj [q] b (b.set q (.lst (k.map .ref++[.ref w]))):=aj.set (by simp)
 have p:q∉k++[w]:=λz=>by
  rcases List.mem_append.mp z with z|z
  .exact Y z
  .have:=List.mem_singleton.mp z;omega
 have s:qa xs mo i S:=by
  have t:(r.take mo).Sublist (xs.take i):=(List.take_sublist _ _).trans g;have O:(r.take mo).Nodup:=(B.sublist (List.take_sublist _ _)).sublist t;refine⟨l.nodup_iff.mpr (List.pairwise_reverse.mpr (List.Pairwise.imp (λh=>Ne.symm h) O)),?_,λy hy=>?_⟩
  .rw[l.length_eq,List.length_reverse,List.length_take];omega
  .exact t.subset (List.mem_reverse.mp (l.mem_iff.mp hy))
 refine⟨S,w,oI c,oR w,e,_,s,?_,⟨?_,?_⟩,p,(fB.up o).trans T⟩
 .unfold M9
  rw[ah,r1,aB,ah,r2,aB,ah,r3,aB,ah,r4,aB,ah];have P:HS F (RV ns st x mo q (oI i) (oI c) (oR a.length) a8) M=.nx (RV ns st x mo q (oI i) (oI c) (oR w) e) b:=r5;rw[P,aB,ah,r6];rfl
 .rw[aQ u.ce];simp
 .exact(u.al.snoc g5).keep T (λj hj z=>p (by rw[←List.mem_singleton.mp z];exact hj))
def Bl(f:ba):Prop:=∀(c:aD) (g:List Int) (h x e:Nat) (b:List Str),c[x]?=some (.lst (b.map .str))->b.Nodup->b.length<=12 ->
 ∃k j d a,f [SC g,.int h,.ref x,.int e] c=.ok (.ref k) a/\Rw a k j d/\d.length=b.length/\(∀(i:Nat) (r:List Str),d[i]?=some r->qa b e i r)/\aj [] c a
theorem HU(s:jA μ F)(t:jg κ C):Bl (bL 9 4 (M_ F C)):=by
 intro a ns st x mo n E u J;rw[bt (by rfl)]
 have L:aV 9 [SC ns,.int st,.ref x,.int mo]=[some (SC ns),oI st,oR x,oI mo,none,none,none,none,none]:=rfl;rw[L];have M:(a++[Cell.lst []])[a.length]?=some (.lst (([]:List Nat).map .ref)):=av;have G:aj [] a (a++[Cell.lst []]):=aj.app;have N:(ax 4 (mN bj ae)) [some (SC ns),oI st,oR x,oI mo,none,none,none,none,none] a=.nx (RV ns st x mo a.length none none none none) (a++[Cell.lst []]):=by simp[RV,aN]
 have X:=bH E;generalize a++[Cell.lst []]=c at *;have o:=G.get _ _ E (by simp)
 have p:=fW o;rw[List.length_map]at p
 have w:cO (ab (mN (aO .len) (ab (aa 2) ae)) ae) (RV ns st x mo a.length none none none none) c=.ok (.ints 0 n.length) c:=by
  have:(mN (aO .len) (ab (aa 2) ae)) (RV ns st x mo a.length none none none none) c=.ok (.int n.length) c:=p;rw[pU,a_,this,ak,aX,ak,ak,tP,if_pos (eY (by omega) (by omega)),Int.toNat_natCast]
 unfold M_;rw[ah,N,aB,ah,cv,w,b9]
 refine bF (R:=λr=>∃k g b l,fR (sq r _)=.ok (.ref k) l/\Rw l k g b/\b.length=n.length/\(∀(i:Nat) (r:List Str),b[i]?=some r->qa n mo i r)/\aj [] a l) (ds:=intsFrom 0 n.length)
  (λi y e=>∃g b z a6 a7 a8,y=RV ns st x mo a.length z a6 a7 a8/\Rw e a.length g b/\b.length=i/\(∀(i:Nat) (r:List Str),b[i]?=some r->qa n mo i r)/\a.length∉g/\aj [a.length] c e) (λ_ _ _ _=>rfl) ?_ ?_ fuel 0 _ _ (by rw[dQ];unfold fuel;omega) (Nat.zero_le _) ⟨[],[],none,none,none,none,rfl,⟨M,.nil⟩,rfl,λi r h=>by simp at h,by simp,aj.refl⟩
 .rintro i d y e O ⟨g,b,z,a6,a7,a8,rfl,R,f,m,H,K⟩
  obtain⟨rfl,Y⟩:=eZ O;rw[Int.zero_add];refine⟨RV ns st x mo a.length (oI i) a6 a7 a8,rfl,?_⟩;obtain⟨r,j,Z,b7,b8,P,Q,S,T,A,U⟩:=Eo (i:=i) (ns:=ns) (st:=st) (mo:=mo) (a6:=a6) (a7:=a7) (a8:=a8) s t (K.get _ _ o (by simp;omega)) u (by omega) (by omega) R H (by omega)
  rw[S];refine⟨_,_,_,_,_,_,rfl,T,by simp[f],λq I h=>?_,A,K.trans U⟩
  by_cases B:q<b.length
  .rw[List.getElem?_append_left B]at h
   exact m q I h
  .rw[List.getElem?_append_right (by omega)]at h
   have V:q - b.length=0:=by
    have:=(List.getElem?_eq_some_iff.mp h).1;simp at this;omega
   rw[V]at h;have D:r=I:=by simpa using h
   subst D;obtain rfl:q=i:=by omega
   exact Q
 .rintro y e ⟨g,b,z,a6,a7,a8,rfl,R,f,m,H,K⟩
  rw[dQ]at f;exact⟨a.length,g,b,e,rfl,R,f,m,aj.new G K (by simp)⟩
end
section
variable{Ω ao:aD}{ρ:aS}{F C:List D->Out Rs}{κ:List Int->Nat->Int}{ns:List Int}{xs:List Str}{h e l x:Nat}{E:en}{L:Str->List Str}{n:Str}{fZ p_:List (Key×D)}
def Bm:SM:=(ag (aZ (af (.bl false))) ai)
def KN(C:List D->Out Rs):EM:=(m2 az (mN bj (ab (af (.int 4)) (ab (af (.int 5)) (ab (af (.int 6)) (ab (af (.int 7)) (ab (af (.int 4)) (ab (af (.int 5)) (ab (af (.int 6)) (ab (af (.int 7)) (ab (af (.int 1)) (ab (af (.int 2)) (ab (af (.int 3)) (ab (af (.int 12)) ae))))))))))))) (m2 (aP .Mod) (mN (bP C) (ab (aa 0) (ab (af (.int 0)) ae))) (af (.int 12))))
theorem Ep(b:jg κ C)(e:ρ[0]?=some (some (SC ns))):∃(m:Nat) (ao:aD),1<=m/\m<=12/\KN C ρ Ω=.ok (.int m) ao/\aj [] Ω ao:=by
 have f:C [SC ns,.int 0]=.ok (false,.int (κ ns 0)):=b ns 0
 have g:(mN bj (ab (af (.int 4)) (ab (af (.int 5)) (ab (af (.int 6)) (ab (af (.int 7)) (ab (af (.int 4)) (ab (af (.int 5)) (ab (af (.int 6)) (ab (af (.int 7)) (ab (af (.int 1)) (ab (af (.int 2)) (ab (af (.int 3)) (ab (af (.int 12)) ae))))))))))))) ρ Ω=.ok (.ref Ω.length) (Ω++[.lst [.int 4,.int 5,.int 6,.int 7,.int 4,.int 5,.int 6,.int 7,.int 1,.int 2,.int 3,.int 12]]):=by
  show bj [.int 4,.int 5,.int 6,.int 7,.int 4,.int 5,.int 6,.int 7,.int 1,.int 2,.int 3,.int 12] Ω=_
  rw[dz,if_pos (aN (by simp))]
 have h:(Ω++[Cell.lst [.int 4,.int 5,.int 6,.int 7,.int 4,.int 5,.int 6,.int 7,.int 1,.int 2,.int 3,.int 12]])[Ω.length]?=some (.lst [.int 4,.int 5,.int 6,.int 7,.int 4,.int 5,.int 6,.int 7,.int 1,.int 2,.int 3,.int 12]):=av;have i:aj [] Ω (Ω++[Cell.lst [.int 4,.int 5,.int 6,.int 7,.int 4,.int 5,.int 6,.int 7,.int 1,.int 2,.int 3,.int 12]]):=aj.app;generalize Ω++[Cell.lst [.int 4,.int 5,.int 6,.int 7,.int 4,.int 5,.int 6,.int 7,.int 1,.int 2,.int 3,.int 12]]=a at *
 have j:(m2 (aP .Mod) (mN (bP C) (ab (aa 0) (ab (af (.int 0)) ae))) (af (.int 12))) ρ a=.ok (.int (κ ns 0%12)) a:=by
  simp[e,f]
 have k:∃m:Nat,1<=m/\m<=12/\L2.jD [D.int 4,.int 5,.int 6,.int 7,.int 4,.int 5,.int 6,.int 7,.int 1,.int 2,.int 3,.int 12] (κ ns 0%12)=oI m:=by
  have n:0<=κ ns 0%12:=Int.emod_nonneg _ (by omega)
  have l:κ ns 0%12<12:=Int.emod_lt_of_pos _ (by omega)
  generalize κ ns 0%12=s at *;have:s=0\/s=1\/s=2\/s=3\/s=4\/s=5\/s=6\/s=7\/s=8\/s=9\/s=10\/s=11:=by omega
  rcases this with rfl|rfl|rfl|rfl|rfl|rfl|rfl|rfl|rfl|rfl|rfl|rfl
  .exact⟨4,by omega,by omega,rfl⟩
  .exact⟨5,by omega,by omega,rfl⟩
  .exact⟨6,by omega,by omega,rfl⟩
  .exact⟨7,by omega,by omega,rfl⟩
  .exact⟨4,by omega,by omega,rfl⟩
  .exact⟨5,by omega,by omega,rfl⟩
  .exact⟨6,by omega,by omega,rfl⟩
  .exact⟨7,by omega,by omega,rfl⟩
  .exact⟨1,by omega,by omega,rfl⟩
  .exact⟨2,by omega,by omega,rfl⟩
  .exact⟨3,by omega,by omega,rfl⟩
  .exact⟨12,by omega,by omega,rfl⟩
 obtain⟨m,m1,c,d⟩:=k;refine⟨m,a,m1,c,?_,i⟩;unfold KN;rw[cX,g,ak,j,ak];exact cQ h d
def KO(C:List D->Out Rs)(a:ba):EM:=(mN (aG a) (ab (mN (bP C) (ab (aa 0) (ab (af (.int 1)) ae))) (ab (aa 1) ae)))
def KP(a b:ba):EM:=(mN (aG a) (ab (aa 2) (ab (mN (aG b) (ab (aa 0) (ab (af (.int 2)) (ab (aa 2) (ab (af (.int 5)) ae))))) ae)))
structure Hand(Ω:aD)(x e l:Nat)(xs:List Str)(E:en)(L:Str->List Str):Prop where
 nx:Ω[x]?=some (.lst (xs.map .str))
 pos:1<=xs.length
 vn:∀n∈xs,AY n
 eq:nms E=xs
 Er:fX E L
 el:∃fZ,bB Ω e fZ/\aE Tr Ω fZ E
 ln:∃p_,bB Ω l p_/\aE Tr Ω p_ (cp xs L)
 ne:e≠l
theorem Hand.keep(h:Hand Ω x e l xs E L)(K:aj [] Ω ao):Hand ao x e l xs E L:=by
 obtain⟨d,f,g,i,j,⟨a,k,m⟩,⟨b,n,o⟩,c⟩:=h;exact⟨K.get _ _ d (by simp),f,g,i,j,⟨a,k.keep K (by simp),m.keep K (by simp)⟩,⟨b,n.keep K (by simp),o.keep K (by simp)⟩,c⟩
theorem yn{k:ba}(s:Bi k)(H:Hand Ω x e l xs E L):∃h ao,k [.ref e] Ω=.ok (.ref h) ao/\bV Tr ao h E L/\Hand ao x e l xs E L/\Ω.length<=ao.length:=by
 obtain⟨m,t,n,o,p,⟨a,d,q⟩,⟨f,u,w⟩,b⟩:=H;obtain⟨h,g,y,A,c,B,_⟩:=s Ω e a E L d q p (by rw[o];exact n)
 have r:∀j∈[e],∀i,Ω[j]?≠some (.lst i):=λj C i=>by rw[List.mem_singleton.mp C];exact d.nl i
 have D:x≠e:=λz=>d.nl _ (z▸m)
 exact⟨h,g,y,A,⟨c.get _ _ m (by simpa using D),t,n,o,p,⟨a,.inr B,q.c9 c r⟩,⟨f,u.keep c (by simpa using Ne.symm b),w.c9 c r⟩,b⟩,c.len⟩
end
structure ff(Ω ao:aD):Prop where
 len:Ω.length<=ao.length
 get:∀(k:Nat) (c:Cell),Ω[k]?=some c->ao[k]?=some c\/∃kvs,c=Cell.dK kvs/\ao[k]?=some (.dF kvs)
section
variable{Ω ao aM:aD}{ρ:aS}{e q j h k x l:Nat}{js:List Nat}{kvs fZ:List (Key×D)}{E:en}{P:Nat->Prop}{n:Str}{r row xs:List Str}{rs:List (List Str)}{L:Str->List Str}
theorem aj.kpf(K:aj [] Ω ao):ff Ω ao:=⟨K.len,λk c h=>.inl (K.get k c h (by simp))⟩
theorem ff.refl:ff Ω Ω:=⟨Nat.le_refl _,λ_ _ h=>.inl h⟩
theorem ff.trans(a:ff Ω aM)(b:ff aM ao):ff Ω ao:=⟨Nat.le_trans a.len b.len,λk c h=>by
 rcases a.get k c h with d|⟨e,rfl,d⟩
 .exact b.get k c d
 .rcases b.get k _ d with f|⟨_,z,_⟩
  .exact .inr ⟨e,rfl,f⟩
  .cases z⟩
theorem ov(h:bB Ω e fZ):ff Ω (Ω.set e (.dF fZ)):=⟨by simp,λk c a=>by
 by_cases z:k=e
 .subst z
  rcases h with h|h
  .rw[h]at a;cases a;exact .inr ⟨fZ,rfl,aQ h⟩
  .rw[h]at a;cases a;exact .inl (aQ h)
 .exact .inl (cj a z)⟩
theorem ff.lst{ds:List D}(K:ff Ω ao)(h:Ω[k]?=some (.lst ds)):ao[k]?=some (.lst ds):=(K.get _ _ h).elim id λ⟨_,z,_⟩=>nomatch z
theorem ff.dct(K:ff Ω ao)(h:bB Ω e kvs):bB ao e kvs:=by
 rcases h with h|h
 .rcases K.get _ _ h with a|⟨b,z,a⟩
  .exact .inl a
  .cases z;exact .inr a
 .rcases K.get _ _ h with a|⟨b,z,a⟩
  .exact .inr a
  .cases z
theorem ff.rows(K:ff Ω ao)(h:aE P Ω kvs E):aE P ao kvs E:=aK.imp (λ_ _ ⟨a,j,b,c,d⟩=>⟨a,j,b,c,K.lst d⟩) h
theorem ff.hs(K:ff Ω ao)(H:bV P Ω h E L):bV P ao h E L:=by
 obtain⟨e,l,a,b,c,d,f,g,i⟩:=H;exact⟨e,l,a,b,(K.get _ _ c).elim id (λ⟨_,z,_⟩=>nomatch z),K.dct d,K.rows f,K.dct g,K.rows i⟩
theorem ff.rw(K:ff Ω ao)(R:Rw Ω k js rs):Rw ao k js rs:=⟨K.lst R.ce,aK.imp (λ_ _ d=>K.lst d) R.al⟩
theorem ff.hand(K:ff Ω ao)(H:Hand Ω x e l xs E L):Hand ao x e l xs E L:=by
 obtain⟨d,f,g,h,i,⟨a,j,k⟩,⟨b,m,n⟩,c⟩:=H;exact⟨K.lst d,f,g,h,i,⟨a,K.dct j,K.rows k⟩,⟨b,K.dct m,K.rows n⟩,c⟩
def Na(a:ba):SM:=
 (ag (bC (aF "House" "check_kind" a (aa 0) (ab (aa 1) ae)))
 (ag (aZ (mN (aO .list) (ab (m2 az fe (aa 1)) ae)))
 ai))
def ow(c:ba):Prop:=∀(b:aD) (h:Nat) (E:en) (L:Str->List Str) (P:Nat->Prop) (n:Str),bV P b h E L->n∈nms E->∃k a,c [.ref h,.str n] b=.ok (.ref k) a/\a[k]?=some (.lst ((bq E n).map .str))/\aj [] b a/\b.length<=k
theorem HV{b:ba}(i:pZ b):ow (bL 2 2 (Na b)):=by
 intro c h E L P n H g;rw[bt (by rfl)]
 have k:aV 2 [D.ref h,.str n]=[oR h,oS n]:=rfl;rw[k];obtain⟨a,m,d⟩:=i c h E L P n H g
 have o:aF "House" "check_kind" b (aa 0) (ab (aa 1) ae) [oR h,oS n] c=.ok .non a:=by
  rw[cy H rfl (by decide)]
  show iV (b [.ref h,.str n] c)=_
  rw[m];rfl
 obtain⟨e,l,p,q,r,s,t,x,y⟩:=H.keep d;obtain⟨j,u,_,w⟩:=t.at g;have f:=cT w;refine⟨a.length,a++[.lst ((bq E n).map .str)],?_,av,d.trans aj.app,d.len⟩
 have:(mN (aO .list) (ab (m2 az fe (aa 1)) ae)) [oR h,oS n] a=.ok (.ref a.length) (a++[.lst ((bq E n).map .str)]):=by
  show((((dm ["House"] "elders" (.ref h) a).bind _).bind _).bind _)=_
  rw[lD r,ak]
  show(((az (.ref e) (.str n) a).bind _).bind _)=_
  rw[dS s u];exact f
 unfold Na;rw[ah,bT,o,b9,aB,ah,cZ,this];rfl
def Nb:EM:=(bo (aa 0) false (m2 (aw .In) (aa 1) (m2 az (m1 (dm ["House"] "lines") (aa 2)) (aa 0))) (aL fe) 0 [1,0])
def Nc(a:ba):SM:=
 (ag (bC (aF "House" "check_kind" a (aa 0) (ab (aa 1) ae)))
 (ag (aZ Nb)
 ai))
def rX(c:ba):Prop:=∀(b:aD) (h:Nat) (E:en) (L:Str->List Str) (P:Nat->Prop) (n:Str),bV P b h E L->n∈nms E->E.length<=1000->∃k a,c [.ref h,.str n] b=.ok (.ref k) a/\a[k]?=some (.lst (((nms E).filter λm=>decide (n∈L m)).map .str))/\ff b a/\b.length<=k
theorem HW{f:ba}(x:pZ f):rX (bL 2 2 (Nc f)):=by
 intro Ω h E L P n H y R;rw[bt (by rfl)]
 have A:aV 2 [D.ref h,.str n]=[oR h,oS n]:=rfl;rw[A];obtain⟨a,B,o⟩:=x Ω h E L P n H y
 have C:aF "House" "check_kind" f (aa 0) (ab (aa 1) ae) [oR h,oS n] Ω=.ok .non a:=by
  rw[cy H rfl (by decide)]
  show iV (f [.ref h,.str n] Ω)=_
  rw[B];rfl
 obtain⟨e,l,c,F,q,i,G,I,J⟩:=H.keep o
 have r:aL fe [oR h,oS n] a=.ok (.keys e) (a.set e (.dF c)):=by
  rw[bf]
  show((dm ["House"] "elders" (.ref h) a).bind _)=_
  rw[lD q,ak];exact lC i
 have k:=ov i;have K:=mT i;have s:h≠e:=λz=>i.ni _ _ (z▸q)
 have M:(a.set e (.dF c))[h]?=some (.ins "House" [("elders",.ref e),("lines",.ref l)]):=cj q s;have d4:=k.dct I;have d5:=k.rows J;generalize a.set e (.dF c)=b at *
 have t:=cR (ρ:=[oR h,oS n]) (Ω:=a) (ao:=b) (me:=aa 0) (mc:=m2 (aw .In) (aa 1) (m2 az (m1 (dm ["House"] "lines") (aa 2)) (aa 0))) (nc:=false) (mi:=aL fe) (cap:=[1,0]) (src:=.keys e) (ds:=(nms E).map .str) (p:=λd=>match d with|.str m=>decide (n∈L m)|_=>false) (g:=λd=>d) r (by rw[ig K,G.keys]) (λd N=>by
  obtain⟨m,u,rfl⟩:=List.mem_map.mp N;obtain⟨j,O,_,w⟩:=d5.at (n:=m) (by rw[bI];exact u)
  rw[cN u]at w
  show cB (((dm ["House"] "lines" (.ref h) b).bind _).bind _)=_
  rw[yc M,ak]
  show cB ((az (.ref l) (.str m) b).bind _)=_
  rw[dS d4 O,ak]
  show cB (aw .In (.str n) (.ref j) b)=_
  rw[lr w];rfl) (λd _ _=>rfl) (by simp[nms];omega)
 have Q:(((nms E).map D.str).filter (λd=>match d with|.str m=>decide (n∈L m)|_=>false)).map (λd:D=>d)=((nms E).filter λm=>decide (n∈L m)).map .str:=by
  rw[List.map_id',List.filter_map];rfl
 rw[Q]at t;refine⟨b.length,b++[.lst (((nms E).filter λm=>decide (n∈L m)).map .str)],?_,av,(o.kpf.trans k).trans (aj.kpf aj.app),Nat.le_trans o.len k.len⟩
 unfold Nc;rw[ah,bT,C,b9,aB,ah,cZ]
 show fR (sq (cm (Nb [oR h,oS n] a) _) _)=_
 rw[show Nb [oR h,oS n] a=_ from t]
 rfl
end
section
variable{Ω ao:aD}{l r i:Nat}{line row:List Str}
theorem Es(b:line.Nodup)(c:row.Sublist line):row.Pairwise λx y=>line.idxOf x<line.idxOf y:=by
 have h:line.Pairwise λx y=>line.idxOf x<line.idxOf y:=by
  refine List.pairwise_iff_getElem.mpr λi j d e a=>?_
  rw[List.Nodup.idxOf_getElem b i d,List.Nodup.idxOf_getElem b j e];exact a
 exact h.sublist c
def Nd:SM:=(ag (dc (jR (m2 (aw .NotIn) (aa 3) (aa 0)) (m2 (aw .LtE) (bQ eo ei (aa 0) (ab (aa 3) ae)) (aa 2)))
 (ag (aZ (af (.bl false)))
 ai)
 ai)
 (ag (ax 2 (bQ eo ei (aa 0) (ab (aa 3) ae)))
 ai))
def Nf:SM:=
 (ag (ax 2 (m1 wV (af (.int 1))))
 (ag (bX (bp 3) (aL (aa 1)) Nd)
 (ag (aZ (af (.bl true)))
 ai)))
theorem Et{x:Str}{a:Int}{a1:Option D}(b:Ω[l]?=some (.lst (line.map .str)))(d:x∈line)(i:a<(line.idxOf x:Nat)):Nd [oR l,a1,oI a,oS x] Ω=.nx [oR l,a1,oI (line.idxOf x:Nat),oS x] Ω:=by
 have c:=vf b d
 have e:(bQ eo ei (aa 0) (ab (aa 3) ae)) [oR l,a1,oI a,oS x] Ω=.ok (.int (line.idxOf x:Nat)) Ω:=by
  rw[dE (x:=.ref l) (ao:=Ω) rfl (c8 b)];exact c
 have f:(m2 (aw .NotIn) (aa 3) (aa 0)) [oR l,a1,oI a,oS x] Ω=.ok (.bl false) Ω:=by
  show aw .NotIn (.str x) (.ref l) Ω=_
  rw[j9 b,decide_eq_true d];rfl
 have g:aw .LtE (.int (line.idxOf x:Nat)) (.int a) Ω=.ok (.bl false) Ω:=by
  have:decide (((line.idxOf x:Nat):Int)<=a)=false:=by simp;omega
  simp[dU,this]
 have h:(m2 (aw .LtE) (bQ eo ei (aa 0) (ab (aa 3) ae)) (aa 2)) [oR l,a1,oI a,oS x] Ω=.ok (.bl false) Ω:=by
  have:aa 2 [oR l,a1,oI a,oS x] Ω=.ok (.int a) Ω:=rfl;rw[cX,e,ak,this,ak,g]
 unfold Nd;rw[ah,cx,fT,f,ak,bD,iN,h]
 show sq (eS.nx _ Ω) _=_
 rw[aB,ah,bu,e];rfl
def Eu(d:ba):Prop:=∀(c:aD) (l r:Nat) (a b:List Str),c[l]?=some (.lst (a.map .str))->c[r]?=some (.lst (b.map .str))->a.Nodup->b.Sublist a->a.length<=1000->d [.ref l,.ref r] c=.ok (.bl true) c
theorem HX:Eu (bL 4 2 Nf):=by
 intro c l r e f s p t h u;rw[bt (by rfl)]
 have w:aV 4 [D.ref l,.ref r]=[oR l,oR r,none,none]:=rfl;rw[w];have q:=h.length_le;have z:(ax 2 (m1 wV (af (.int 1)))) [oR l,oR r,none,none] c=.nx [oR l,oR r,oI (-1),none] c:=rfl
 have k:aL (aa 1) [oR l,oR r,oI (-1),none] c=.ok (.seq (.ref r)) c:=by
  rw[bf];exact aR (by rw[aC,aA p])
 unfold Nf;rw[ah,z,aB,ah,cv,k,b9];have A:=Es t h;refine bF (R:=λm=>fR (sq m _)=.ok (.bl true) c) (ds:=f.map .str) (λi g b=>∃(a:Int) (n:Option D),g=[oR l,oR r,oI a,n]/\b=c/\∀(j:Nat) (x:Str),i<=j->f[j]?=some x->a<(e.idxOf x:Nat)) ?_ ?_ ?_ fuel 0 _ _ (by unfold fuel;simp;omega) (Nat.zero_le _) ⟨-1,none,rfl,rfl,λj x _ _=>by omega⟩
 .rintro i g b ⟨_,_,_,rfl,_⟩
  rw[bU,aC,aA p]
 .rintro i d g b B ⟨a,n,rfl,rfl,C⟩
  obtain⟨x,o,rfl⟩:=dG B;refine⟨[oR l,oR r,oI a,oS x],rfl,?_⟩;rw[Et s (h.subset (List.mem_of_getElem? o)) (C i x (Nat.le_refl _) o)];refine⟨_,_,rfl,rfl,λj y J E=>?_⟩
  obtain⟨F,G⟩:=List.getElem?_eq_some_iff.mp o;obtain⟨H,I⟩:=List.getElem?_eq_some_iff.mp E;have:=List.pairwise_iff_getElem.mp A i j F H (by omega)
  rw[G,I]at this;omega
 .rintro g b ⟨a,n,rfl,rfl,_⟩
  rfl
end
section
variable{Ω ao:aD}{F:List D->Out Rs}{μ:Int->Int->Int->Int}{c:Int}{x:Nat}{xs:List Str}
def Ng(F:List D->Out Rs):SM:=
 (ag (ax 2 (mN (bP F) (ab (aa 1) (ab (af (.int 0)) (ab (m2 (aP .Add) (mN (aO .len) (ab (aa 0) ae)) (af (.int 1))) ae)))))
 (ag (ax 3 (vk 0 2))
 (ag (dc (m2 (aw .Eq) (mN (bP F) (ab (aa 1) (ab (af (.int 1)) (ab (af (.int 2)) ae)))) (af (.int 1)))
 (ag (bC (bQ eo cI (aa 3) ae))
 ai)
 ai)
 (ag (aZ (aa 3))
 ai))))
def Ew(f:ba):Prop:=∀(b:aD) (x:Nat) (c:Int) (d:List Str),b[x]?=some (.lst (d.map .str))->d.length<=900->∃(e:List Str) (k:Nat) (a:aD),e.Perm d/\f [.ref x,.int c] b=.ok (.ref k) a/\a[k]?=some (.lst (e.map .str))/\aj [] b a/\b.length<=k
theorem HY(d:jA μ F):Ew (bL 4 2 (Ng F)):=by
 intro l x c b o C;rw[bt (by rfl)]
 have s:aV 4 [D.ref x,.int c]=[oR x,oI c,none,none]:=rfl;rw[s];obtain⟨E,G,p⟩:=d c 0 ((b.length:Int)+1) (by omega) (by omega) (by omega)
 obtain⟨H,v1,u⟩:=d c 1 2 (by omega) (by omega) (by omega)
 obtain⟨t,w⟩:∃t:Nat,(t:Int)=μ c 0 ((b.length:Int)+1):=⟨(μ c 0 ((b.length:Int)+1)).toNat,by omega⟩
 rw[←w]at p;have e:=fW o;rw[List.length_map]at e;have y:(ax 2 (mN (bP F) (ab (aa 1) (ab (af (.int 0)) (ab (m2 (aP .Add) (mN (aO .len) (ab (aa 0) ae)) (af (.int 1))) ae))))) [oR x,oI c,none,none] l=.nx [oR x,oI c,oI t,none] l:=by simp[e,p]
 obtain⟨k,a,z,f,q,m⟩:=rR (ρ:=[oR x,oI c,oI t,none]) (i:=0) (j:=2) rfl rfl o (by omega)
 have A:ax 3 (vk 0 2) [oR x,oI c,oI t,none] l=.nx [oR x,oI c,oI t,oR k] a:=by rw[bu,z];rfl
 have r:=lG (t:=t) b;generalize b.drop t++b.take t=g at *;have B:(m2 (aw .Eq) (mN (bP F) (ab (aa 1) (ab (af (.int 1)) (ab (af (.int 2)) ae)))) (af (.int 1))) [oR x,oI c,oI t,oR k] a=.ok (.bl (μ c 1 2==1)) a:=by simp[u]
 unfold Ng;rw[ah,y,aB,ah,A,aB,ah,cx,B]
 by_cases h:μ c 1 2=1
 .have n:=gH f
  refine⟨g.reverse,k,a.set k (.lst (g.map D.str).reverse),(List.reverse_perm g).trans r,?_,by rw[List.map_reverse];exact aQ f,aj.new q (aj.set (fp:=[k]) (by simp)) (by simpa using m),m⟩
  have:(μ c 1 2==1)=true:=by simp[h]
  rw[this,dj,bD,dy,b9,if_pos rfl,ah,bT,dE (x:=.ref k) (ao:=a) rfl (c8 f),aX,ak,n];rfl
 .refine⟨g,k,a,r,?_,f,q,m⟩
  have:(μ c 1 2==1)=false:=by simp[h]
  rw[this];rfl
end
theorem tX{rs:List (List Str)}{o:List Str}(M:Mg rs o):∀r∈rs,r.Sublist o:=by
 induction M with
 |done h=>intro r b;rw[h r b];exact List.nil_sublist _
 |@step rs n o _ _ _ c=>
  intro r b;have:=c (cE n r) (List.mem_map_of_mem b);unfold cE at this;split at this
  .rename_i d
   cases r with
   |nil=>exact List.nil_sublist _
   |cons a t=>
    have e:a=n:=by simpa using d
    subst e;exact this.cons₂ a
  .exact this.cons n
namespace fX
variable{E:en}{L:Str->List Str}{n m:Str}
theorem tY(G:fX E L)(a:n∈nms E):(bq E n).Sublist (L n):=by
 obtain⟨o,M,b,_⟩:=G.mg a;rw[b];exact(tX M _ (by simp)).cons n
theorem qb(G:fX E L)(a:n∈nms E)(b:m∈bq E n):(L m).Sublist (L n):=by
 obtain⟨o,M,c,_⟩:=G.mg a;rw[c];exact(tX M _ (List.mem_append_left _ (List.mem_map_of_mem b))).cons n
theorem ahead(G:fX E L):∀(k i:Nat) (n:Str),i<k->(nms E)[i]?=some n->∀x∈L n,x∈(nms E).take (i+1):=by
 intro k
 induction k with
 |zero=>intro i n h;omega
 |succ k p=>
  intro i n A g x l;obtain⟨r,m⟩:=gW g;obtain⟨o,M,b⟩:=G.ln i _ m;have b:L n=n::o:=b;rw[b]at l;rcases List.mem_cons.mp l with z|z
  .rw[z];exact gJ (by omega) g
  .obtain⟨q,s,c⟩:=lg M x z
   have a:=(G.el i _ m).2.2;rcases List.mem_append.mp s with h|h
   .obtain⟨y,t,rfl⟩:=List.mem_map.mp h
    obtain⟨j,u,d⟩:=b_ (a y t);obtain⟨B,w,e⟩:=b_ (p j y (by omega) d x c)
    exact gJ (by omega) e
   .rw[List.mem_singleton.mp h]at c
    obtain⟨j,u,f⟩:=b_ (a x c);exact gJ (by omega) f
theorem Bn(G:fX E L)(q:n∈nms E):(L n).Nodup:=by
 obtain⟨i,c⟩:=List.mem_iff_getElem?.mp q;obtain⟨r,p⟩:=gW c;obtain⟨o,M,d⟩:=G.ln i _ p;have d:L n=n::o:=d;rw[d];refine List.nodup_cons.mpr ⟨λe=>?_,pT M⟩
 obtain⟨s,t,f⟩:=lg M n e;have a:=(G.el i _ p).2.2;have u:=(List.getElem?_eq_some_iff.mp c).1
 have b:∀j,j<i->(nms E)[j]?=some n->False:=λj g h=>by
  have:=(List.getElem?_inj (by omega) G.nd).mp (h.trans c.symm)
  omega
 rcases List.mem_append.mp t with h|h
 .obtain⟨y,w,rfl⟩:=List.mem_map.mp h
  obtain⟨j,g,k⟩:=b_ (a y w);obtain⟨x,z,l⟩:=b_ (G.ahead (j+1) j y (by omega) k n f)
  exact b x (by omega) l
 .rw[List.mem_singleton.mp h]at f
  obtain⟨j,g,m⟩:=b_ (a n f);exact b j g m
theorem deep(G:fX E L):∀(k i:Nat) (n:Str),i<k->(nms E)[i]?=some n->∀m∈L n,(L m).Sublist (L n):=by
 intro k
 induction k with
 |zero=>intro i n h;omega
 |succ k t=>
  intro i n x p m q;have b:n∈nms E:=List.mem_of_getElem? p;obtain⟨r,c⟩:=gW p;have a:bq E n=r:=yh G.nd c;obtain⟨o,M,d⟩:=G.ln i _ c;have d:L n=n::o:=d
  by_cases z:m=n
  .rw[z];exact List.Sublist.refl _
  .have e:m∈o:=by
    rw[d]at q;exact(List.mem_cons.mp q).elim (λy=>absurd y z) id
   obtain⟨u,w,f⟩:=lg M m e;have g:=(G.el i _ c).2.2;rcases List.mem_append.mp w with h|h
   .obtain⟨y,s,rfl⟩:=List.mem_map.mp h
    obtain⟨j,A,l⟩:=b_ (g y s);exact(t j y (by omega) l m f).trans (G.qb b (by rw[a];exact s))
   .rw[List.mem_singleton.mp h]at f
    exact G.qb b (by rw[a];exact f)
theorem qf(G:fX E L)(e:n∈nms E)(a:m∈L n):m∈nms E/\(L m).Sublist (L n)/\(bq E m).Sublist (L n):=by
 obtain⟨i,b⟩:=List.mem_iff_getElem?.mp e;have c:=G.mem (i+1) i n (by omega) b m a
 have d:=G.deep (i+1) i n (by omega) b m a
 exact⟨c,d,(G.tY c).trans d⟩
end fX
theorem qh:∀(xs a:List Str),xs.Nodup->(∀x∈xs,x∉a)->(xs.foldl hV a).length=a.length+xs.length
 |[],a,_,_=>by simp
 |x::xs,a,d,b=>by
  have e:hV a x=a++[x]:=if_neg (b x (by simp))
  obtain⟨f,g⟩:=List.nodup_cons.mp d
  rw[List.foldl_cons,e,qh xs (a++[x]) g (λy c=>by
   simp only[List.mem_append,List.mem_singleton,not_or];exact⟨b y (by simp[c]),λq=>f (q▸c)⟩)]
  simp;omega
theorem lH:∀xs:List Str,fo (xs.map .str)=some xs
 |[]=>rfl
 |x::xs=>by simp[fo,lH xs]
section
variable{Ω ao:aD}{e q h j k:Nat}{fZ:List (Key×D)}{E:en}{P:Nat->Prop}{n:Str}{L:Str->List Str}{xs:List Str}
theorem rY(h:Ω[k]?=some (.lst (xs.map .str)))(a:xs.Nodup)(b:xs.length<=1000):iA ez (.ref k) Ω=.ok (.int (xs.length:Nat)) Ω:=by
 have c:=du (n:=7) h
 have d:unlike xs=xs.length:=by
  have:=qh xs [] a (by simp)
  simpa[unlike]using this
 unfold iA;rw[c]
 have:ez (L1 xs)=.ok (false,.int (unlike xs)):=by
  show(match fo (xs.map .str)with|some xs=>if xs.length<=1000 then Out.ok (false,D.int (unlike xs))else .bad|none=>.bad)=_
  rw[lH]
  show(if xs.length<=1000 then Out.ok (false,D.int (unlike xs))else Out.bad)=_
  rw[if_pos b]
 dsimp only;rw[this,d];rfl
def Nh(a:ba):EM:=(jR (dr (mN (aG a) (ab (aa 3) ae))) (jR (m2 (aw .NotEq) (m2 az (aa 3) (af (.int 0))) (aa 2)) (m2 (aw .NotEq) (m1 (iA ez) (aa 3)) (mN (aO .len) (ab (aa 3) ae)))))
def Ni(a:ba):EM:=(dr (mN (aG a) (ab (aa 3) (ab (m2 az (aa 1) (aa 2)) ae))))
def Nj(a b:ba):EM:=(jR (dr (mN (aG a) (ab (aa 3) (ab (aF "House" "line" b (aa 0) (ab (aa 4) ae)) ae)))) (dr (mN (aG a) (ab (aa 3) (ab (m2 az (aa 1) (aa 4)) ae)))))
def Nk(a c b:ba):SM:=
 (ag (ax 3 (aF "House" "line" a (aa 0) (ab (aa 2) ae)))
 (ag (dc (Nh c) Bm ai)
 (ag (dc (Ni b) Bm ai)
 (ag (bX (bp 4) (aL (aa 3)) (ag (dc (Nj b a) Bm ai) ai))
 (ag (aZ (af (.bl true)))
 ai)))))
def Bo(d:ba):Prop:=∀(a:aD) (h e:Nat) (b:List (Key×D)) (E:en) (L:Str->List Str) (n:Str),bV Tr a h E L->bB a e b->aE Tr a b E->fX E L->n∈nms E->∃c,d [.ref h,.ref e,.str n] a=.ok (.bl true) c/\aj [] a c
theorem HZ{g y z:ba}(Z:p8 g)(hT:yk y)(N:Eu z):Bo (bL 5 3 (Nk g y z)):=by
 intro I h e b0 E L n H hd hr G t;rw[bt (by rfl)]
 have e0:aV 5 [D.ref h,.ref e,.str n]=[oR h,oR e,oS n,none,none]:=rfl;rw[e0];obtain⟨o,_,O,_⟩:=G.mg t;have c0:=G.short t;have l:=G.Bn t;obtain⟨k,f,e1,g1,K1,_⟩:=Z I h E L Tr n H t
 have r1:ax 3 (aF "House" "line" g (aa 0) (ab (aa 2) ae)) [oR h,oR e,oS n,none,none] I=.nx [oR h,oR e,oS n,oR k,none] f:=by
  rw[bu,cy H rfl (by decide)]
  show cm (iV (g [.ref h,.str n] I)) _=_
  rw[e1];rfl
 obtain⟨a,e2,K2⟩:=hT f k (L n) g1 (by omega)
 have u:=K2.get _ _ g1 (by simp)
 have p:=K1.trans K2
 have t2:Nh y [oR h,oR e,oS n,oR k,none] f=.ok (.bl false) a:=by
  have P:(dr (mN (aG y) (ab (aa 3) ae))) [oR h,oR e,oS n,oR k,none] f=.ok (.bl false) a:=by
   have:(mN (aG y) (ab (aa 3) ae)) [oR h,oR e,oS n,oR k,none] f=.ok (.bl true) a:=by
    show iV (y [.ref k] f)=_
    rw[e2];rfl
   rw[fU,this];rfl
  have Q:(m2 (aw .NotEq) (m2 az (aa 3) (af (.int 0))) (aa 2)) [oR h,oR e,oS n,oR k,none] a=.ok (.bl false) a:=by
   have w:az (.ref k) (.int 0) a=.ok (.str n) a:=cQ u (L2.dv (j:=0) (by rw[O];rfl))
   have:(m2 az (aa 3) (af (.int 0))) [oR h,oR e,oS n,oR k,none] a=.ok (.str n) a:=w;have v:aa 2 [oR h,oR e,oS n,oR k,none] a=.ok (.str n) a:=rfl;rw[cX,this,ak,v,ak];simp
  have a3:(m2 (aw .NotEq) (m1 (iA ez) (aa 3)) (mN (aO .len) (ab (aa 3) ae))) [oR h,oR e,oS n,oR k,none] a=.ok (.bl false) a:=by
   have b1:(m1 (iA ez) (aa 3)) [oR h,oR e,oS n,oR k,none] a=.ok (.int ((L n).length:Nat)) a:=rY u l (by omega)
   have A:=fW u;rw[List.length_map]at A;have b2:(mN (aO .len) (ab (aa 3) ae)) [oR h,oR e,oS n,oR k,none] a=.ok (.int ((L n).length:Nat)) a:=A;rw[cX,b1,ak,b2,ak];simp
  unfold Nh;rw[fT,P,ak,bD,iN,fT,Q,ak,bD,iN,a3]
 have B:=hd.keep p (by simp)
 have C:=hr.keep p (by simp)
 obtain⟨j,hv,_,hj⟩:=C.at t
 have t3:Ni z [oR h,oR e,oS n,oR k,none] a=.ok (.bl false) a:=by
  have w:(ab (aa 3) (ab (m2 az (aa 1) (aa 2)) ae):AM) [oR h,oR e,oS n,oR k,none] a=.ok [.ref k,.ref j] a:=by
   show((az (.ref e) (.str n) a).bind _).bind _=_
   rw[dS B hv];rfl
  unfold Ni;rw[fU,cY,w,ak,dR,N a k j _ _ u hj l (G.tY t) (by omega)]
  rfl
 have S:aL (aa 3) [oR h,oR e,oS n,oR k,none] a=.ok (.seq (.ref k)) a:=by
  rw[bf];exact aR (by rw[aC,aA u])
 have H2:=H.keep p;unfold Nk;rw[ah,r1,aB,ah,cx,t2]
 show ∃s,fR (sq (eS.nx [oR h,oR e,oS n,oR k,none] a) _)=_/\_
 rw[aB,ah,cx,t3]
 show ∃s,fR (sq (eS.nx [oR h,oR e,oS n,oR k,none] a) _)=_/\_
 rw[aB,ah,cv,S,b9];refine bF (R:=λr=>∃s,fR (sq r _)=.ok (.bl true) s/\aj [] I s) (ds:=(L n).map .str) (λi J b=>∃T,J=[oR h,oR e,oS n,oR k,T]/\aj [] a b) ?_ ?_ ?_ fuel 0 _ _ (by unfold fuel;simp;omega) (Nat.zero_le _) ⟨none,rfl,aj.refl⟩
 .rintro i J b ⟨_,_,K⟩
  rw[bU,aC,aA (K.get _ _ u (by simp))]
 .rintro i d J b U ⟨T,rfl,K⟩
  obtain⟨m,hm,rfl⟩:=dG U;refine⟨[oR h,oR e,oS n,oR k,oS m],rfl,?_⟩;obtain⟨x,s1,s2⟩:=G.qf t (List.mem_of_getElem? hm);have H3:=H2.keep K;have a0:=G.short x;obtain⟨q,c,e4,g4,M,_⟩:=Z b h E L Tr m H3 x;have F:=(K.trans M).get _ _ u (by simp)
  obtain⟨j2,V,_,X⟩:=((C.keep K (by simp)).keep M (by simp)).at x
  have Y:=(B.keep K (by simp)).keep M (by simp)
  have t4:Nj z g [oR h,oR e,oS n,oR k,oS m] b=.ok (.bl false) c:=by
   have P:(ab (aa 3) (ab (aF "House" "line" g (aa 0) (ab (aa 4) ae)) ae):AM) [oR h,oR e,oS n,oR k,oS m] b=.ok [.ref k,.ref q] c:=by
    have em:aF "House" "line" g (aa 0) (ab (aa 4) ae) [oR h,oR e,oS n,oR k,oS m] b=.ok (.ref q) c:=by
     rw[cy H3 rfl (by decide)]
     show iV (g [.ref h,.str m] b)=_
     rw[e4];rfl
    have v:aa 3 [oR h,oR e,oS n,oR k,oS m] b=.ok (.ref k) b:=rfl;rw[a_,v,ak,a_,em];rfl
   have Q:(ab (aa 3) (ab (m2 az (aa 1) (aa 4)) ae):AM) [oR h,oR e,oS n,oR k,oS m] c=.ok [.ref k,.ref j2] c:=by
    show((az (.ref e) (.str m) c).bind _).bind _=_
    rw[dS Y V];rfl
   have n1:(dr (mN (aG z) (ab (aa 3) (ab (aF "House" "line" g (aa 0) (ab (aa 4) ae)) ae)))) [oR h,oR e,oS n,oR k,oS m] b=.ok (.bl false) c:=by
    rw[fU,cY,P,ak,dR,N c k q _ _ F g4 l s1 (by omega)]
    rfl
   unfold Nj;rw[fT,n1,ak,bD,iN,fU,cY,Q,ak,dR,N c k j2 _ _ F X l s2 (by omega)]
   rfl
  rw[ah,cx,t4];exact⟨_,rfl,K.trans M⟩
 .rintro J b ⟨T,rfl,K⟩
  exact⟨b,rfl,p.trans K⟩
end
section
variable{Ω ao:aD}{e l q h j k:Nat}{fZ p_:List (Key×D)}{E:en}{P:Nat->Prop}{n:Str}{L:Str->List Str}{xs:List Str}
def Nl(a:ba):EM:=(m2 (aw .NotEq) (aF "House" "kinds" a (aa 0) ae) (mN (aO .list) (ab (aa 1) ae)))
def Nm(a b:ba):EM:=(jR (m2 (aw .NotEq) (aF "House" "line" a (aa 0) (ab (aa 3) ae)) (m2 az (aa 2) (aa 3))) (m2 (aw .NotEq) (aF "House" "elders_of" b (aa 0) (ab (aa 3) ae)) (m2 az (aa 1) (aa 3))))
def Qy:EM:=(bo (aa 0) false (m2 (aw .In) (aa 2) (m2 az (aa 1) (aa 0))) (aL (aa 1)) 0 [2,3])
def Nn(a:ba):EM:=(m2 (aw .NotEq) (aF "House" "heirs" a (aa 0) (ab (aa 3) ae)) Qy)
theorem Ey{d f:ba}(w:p8 d)(x:ow f)(H:bV Tr Ω h E L)(y:bB Ω e fZ)(z:aE Tr Ω fZ E)(A:bB Ω l p_)(i:aE Tr Ω p_ (cp (nms E) L))(g:n∈nms E) :
  ∃ao,Nm d f [oR h,oR e,oR l,oS n] Ω=.ok (.bl false) ao/\aj [] Ω ao:=by
 obtain⟨k,a,B,C,c,_⟩:=w Ω h E L Tr n H g;have r:=H.keep c;obtain⟨j,D,_,s⟩:=(i.keep c (by simp)).at (n:=n) (by rw[bI];exact g)
 rw[cN g]at s;have F:(m2 az (aa 2) (aa 3)) [oR h,oR e,oR l,oS n] a=.ok (.ref j) a:=dS (A.keep c (by simp)) D
 have m1:aF "House" "line" d (aa 0) (ab (aa 3) ae) [oR h,oR e,oR l,oS n] Ω=.ok (.ref k) a:=by
  rw[cy H rfl (by decide)]
  show iV (d [.ref h,.str n] Ω)=_
  rw[B];rfl
 have t:=gU C s;rw[decide_eq_true rfl]at t;obtain⟨G,b,I,J,m,_⟩:=x a h E L Tr n r g
 have o:aF "House" "elders_of" f (aa 0) (ab (aa 3) ae) [oR h,oR e,oR l,oS n] a=.ok (.ref G) b:=by
  rw[cy r rfl (by decide)]
  show iV (f [.ref h,.str n] a)=_
  rw[I];rfl
 obtain⟨K,p,_,q⟩:=(z.keep (c.trans m) (by simp)).at g
 have M:(m2 az (aa 1) (aa 3)) [oR h,oR e,oR l,oS n] b=.ok (.ref K) b:=dS (y.keep (c.trans m) (by simp)) p
 have u:=gU J q;rw[decide_eq_true rfl]at u;refine⟨b,?_,c.trans m⟩
 have N:(m2 (aw .NotEq) (aF "House" "line" d (aa 0) (ab (aa 3) ae)) (m2 az (aa 2) (aa 3))) [oR h,oR e,oR l,oS n] Ω=.ok (.bl false) a:=by
  rw[cX,m1,ak,F,ak,t];rfl
 have O:(m2 (aw .NotEq) (aF "House" "elders_of" f (aa 0) (ab (aa 3) ae)) (m2 az (aa 1) (aa 3))) [oR h,oR e,oR l,oS n] a=.ok (.bl false) b:=by
  rw[cX,o,ak,M,ak,u];rfl
 unfold Nm;rw[fT,N,ak,bD,iN,O]
theorem Ez{o:ba}(A:rX o)(H:bV Tr Ω h E L)(s:bB Ω e fZ)(B:aE Tr Ω fZ E)(C:bB Ω l p_)(t:aE Tr Ω p_ (cp (nms E) L))(F:n∈nms E)(G:e≠l)(I:E.length<=1000) :
  ∃ao,Nn o [oR h,oR e,oR l,oS n] Ω=.ok (.bl false) ao/\ff Ω ao:=by
 obtain⟨k,a,J,K,i,_⟩:=A Ω h E L Tr n H F I;have f:=i.dct s;have u:=i.rows B
 have m1:aF "House" "heirs" o (aa 0) (ab (aa 3) ae) [oR h,oR e,oR l,oS n] Ω=.ok (.ref k) a:=by
  rw[cy H rfl (by decide)]
  show iV (o [.ref h,.str n] Ω)=_
  rw[J];rfl
 have w:aL (aa 1) [oR h,oR e,oR l,oS n] a=.ok (.keys e) (a.set e (.dF fZ)):=by
  rw[bf];exact lC f
 have q:=ov f;have M:=mT f;have d4:=q.dct (i.dct C);have d5:=q.rows (i.rows t);have N:=q.lst K;generalize a.set e (.dF fZ)=b at *
 have r:=cR (ρ:=[oR h,oR e,oR l,oS n]) (Ω:=a) (ao:=b) (me:=aa 0) (mc:=m2 (aw .In) (aa 2) (m2 az (aa 1) (aa 0))) (nc:=false) (mi:=aL (aa 1)) (cap:=[2,3]) (src:=.keys e) (ds:=(nms E).map .str) (p:=λd=>match d with|.str m=>decide (n∈L m)|_=>false) (g:=λd=>d) w (by rw[ig M,u.keys]) (λd s=>by
  obtain⟨m,x,rfl⟩:=List.mem_map.mp s;obtain⟨j,O,_,y⟩:=d5.at (n:=m) (by rw[bI];exact x)
  rw[cN x]at y
  show cB ((az (.ref l) (.str m) b).bind _)=_
  rw[dS d4 O,ak]
  show cB (aw .In (.str n) (.ref j) b)=_
  rw[lr y];rfl) (λd _ _=>rfl) (by simp[nms];omega)
 have P:(((nms E).map D.str).filter (λd=>match d with|.str m=>decide (n∈L m)|_=>false)).map (λd:D=>d)=((nms E).filter λm=>decide (n∈L m)).map .str:=by
  rw[List.map_id',List.filter_map];rfl
 rw[P]at r;have r:Qy [oR h,oR e,oR l,oS n] a=_:=r;have z:=gU (dA (l:=[.lst (((nms E).filter λm=>decide (n∈L m)).map .str)]) N) (av (Ω:=b) (c:=.lst (((nms E).filter λm=>decide (n∈L m)).map .str)) (l:=[]))
 rw[decide_eq_true rfl]at z;refine⟨b++[.lst (((nms E).filter λm=>decide (n∈L m)).map .str)],?_,(i.trans q).trans (aj.kpf aj.app)⟩
 unfold Nn;rw[cX,m1,ak,r,ak,z];rfl
def Np(a b c d:ba):SM:=
 (ag (dc (Nl a) Bm ai)
 (ag (bX (bp 3) (aL (aa 1)) (ag (dc (Nm b c) Bm ai) (ag (dc (Nn d) Bm ai) ai)))
 (ag (aZ (af (.bl true)))
 ai)))
def Bp(c:ba):Prop:=∀(b:aD) (h x e l:Nat) (d:List Str) (E:en) (L:Str->List Str),bV Tr b h E L->Hand b x e l d E L->∃a,c [.ref h,.ref e,.ref l] b=.ok (.bl true) a/\ff b a
theorem H_{s P Q S:ba}(hK:pY s)(hN:p8 P)(hO:ow Q)(hH:rX S):Bp (bL 4 3 (Np s P Q S)):=by
 intro Ω h x e l xs E L H A;rw[bt (by rfl)]
 have e0:aV 4 [D.ref h,.ref e,.ref l]=[oR h,oR e,oR l,none]:=rfl;rw[e0];obtain⟨g,T,U⟩:=A.el;have hE:E.length<=12:=A.Er.len;obtain⟨k,a,e1,g1,u,_⟩:=hK Ω h E L Tr H;have w:=T.keep u (by simp)
 have y:=U.keep u (by simp)
 have p:=rL w;rw[y.keys]at p;have V:=gU (dA (l:=[.lst ((nms E).map .str)]) g1) (av (Ω:=a) (c:=.lst ((nms E).map .str)) (l:=[]));rw[decide_eq_true rfl]at V
 have t1:Nl s [oR h,oR e,oR l,none] Ω=.ok (.bl false) (a++[.lst ((nms E).map .str)]):=by
  have m1:aF "House" "kinds" s (aa 0) ae [oR h,oR e,oR l,none] Ω=.ok (.ref k) a:=by
   rw[cy H rfl (by decide),aX,ak,e1];rfl
  have B:(mN (aO .list) (ab (aa 1) ae)) [oR h,oR e,oR l,none] a=.ok (.ref a.length) (a++[.lst ((nms E).map .str)]):=p;unfold Nl;rw[cX,m1,ak,B,ak,V];rfl
 have X:ff Ω (a++[Cell.lst ((nms E).map .str)]):=(u.trans aj.app).kpf;generalize a++[Cell.lst ((nms E).map .str)]=f at *;have j:=X.dct T
 have C:aL (aa 1) [oR h,oR e,oR l,none] f=.ok (.keys e) (f.set e (.dF g)):=by
  rw[bf];exact lC j
 have F:=X.trans (ov j);have f3:=mT j;generalize f.set e (.dF g)=G at *;unfold Np;rw[ah,cx,t1]
 show ∃m,fR (sq (eS.nx [oR h,oR e,oR l,none] f) _)=_/\_
 rw[aB,ah,cv,C,b9];refine bF (R:=λr=>∃m,fR (sq r _)=.ok (.bl true) m/\ff Ω m) (ds:=(nms E).map .str) (λi t b=>∃I,t=[oR h,oR e,oR l,I]/\ff G b) ?_ ?_ ?_ fuel 0 _ _ (by unfold fuel;simp[nms];omega) (Nat.zero_le _) ⟨none,rfl,ff.refl⟩
 .rintro i t b ⟨_,_,K⟩
  have:b[e]?=some (.dF g):=(K.get _ _ f3).elim id (λ⟨_,z,_⟩=>nomatch z)
  rw[ig this,U.keys]
 .rintro i d t b J ⟨I,rfl,K⟩
  obtain⟨n,hn,rfl⟩:=dG J;have q:n∈nms E:=List.mem_of_getElem? hn;refine⟨[oR h,oR e,oR l,oS n],rfl,?_⟩;have M:=(F.trans K).hand A;have Y:=(F.trans K).hs H;obtain⟨a0,Z,p2⟩:=M.el;obtain⟨b0,p3,N⟩:=M.ln;rw[←M.eq]at N;obtain⟨O,e5,o⟩:=Ey hN hO Y Z p2 p3 N q;obtain⟨c0,e6,K6⟩:=Ez hH (Y.keep o) (Z.keep o (by simp)) (p2.keep o (by simp)) (p3.keep o (by simp)) (N.keep o (by simp)) q A.ne (by omega)
  rw[ah,cx,e5]
  show xU (sq (eS.nx [oR h,oR e,oR l,oS n] O) _) _ _
  rw[aB,ah,cx,e6];exact⟨_,rfl,(K.trans o.kpf).trans K6⟩
 .rintro t b ⟨I,rfl,K⟩
  exact⟨b,rfl,F.trans K⟩
end
section
variable{Ω:aD}{a b:Nat}{ka kb:List (Key×D)}{E E1 E2:en}{P P':Nat->Prop}{n:Str}
def ox(E:en):List (Key×D):=E.map λp=>(.inr p.1,L1 p.2)
theorem Bq(xs:List Str):aI 8 (L1 xs)=true:=by
 show(xs.map D.str).all (aI 7)=true
 rw[List.all_eq_true];intro d a;obtain⟨x,_,rfl⟩:=List.mem_map.mp a;rfl
theorem gX(h:aE P Ω ka E):nL Ω ka=some (ox E):=by
 unfold aE at h;unfold nL
 induction h with
 |nil=>rfl
 |@cons g p ka E a _ b=>
  obtain⟨c,j,d,_,e⟩:=a;have f:=du (n:=6) e;rw[og,b,d,f];simp only[Bq,if_true,c];rfl
theorem qj:∀{E:en},bK (ox E) (.inr n)=(E.lookup n).map L1
 |[]=>rfl
 |p::E=>by
  unfold ox;rw[List.map_cons,dk,List.lookup_cons]
  by_cases z:n=p.1
  .subst z;simp
  .rw[if_neg (λq=>z (by cases q;rfl)),beq_eq_false_iff_ne.mpr z]
   exact qj (E:=E)
theorem qk(b:E1.length=E2.length)(h:∀p∈E1,E2.lookup p.1=some p.2):lO (ox E1) (ox E2)=true:=by
 unfold lO;have c:((ox E1).length==(ox E2).length)=true:=by simp[ox,b]
 rw[c,Bool.true_and,List.all_eq_true];intro e a;obtain⟨p,d,rfl⟩:=List.mem_map.mp a
 show(match bK (ox E2) (.inr p.1)with|some v=>d_ (L1 p.2) v|none=>false)=true
 rw[qj,h p d]
 show d_ (L1 p.2) (L1 p.2)=true
 rw[BS];simp
end
section
variable{Ω ao aM:aD}{ρ:aS}{h m k:Nat}{as js fp:List Nat}{E:en}{n:Str}{L:Str->List Str}{rs:List (List Str)}
theorem ff.new(a:ff Ω aM)(b:aj fp aM ao)(g:∀q∈fp,Ω.length<=q):ff Ω ao:=⟨Nat.le_trans a.len b.len,λk c h=>by
 have i:=bH h;have f:k∉fp:=λz=>by have:=g k z;omega
 rcases a.get k c h with d|⟨e,z,d⟩
 .exact .inl (b.get _ _ d f)
 .exact .inr ⟨e,z,b.get _ _ d f⟩⟩
def KQ:SM:=(ag (bC (bQ eo cI (aa 2) ae)) (ag (bC (bQ eo bh (aa 2) (ab (af (.str "zz")) ae))) ai))
theorem EA{a0 a1 a2 a3:Option D}(A:Ω[m]?=some (.lst (as.map .ref)))(n:m∉as)(B:∀a∈as,∃ds:List D,Ω[a]?=some (.lst ds)/\ds.length<=500)(M:as.length<=400) :
  ∃f ao,eP (bp 2) (.seq (.ref m)) KQ fuel 0 [a0,a1,a2,a3] Ω=.nx [a0,a1,f,a3] ao/\aj as Ω ao:=by
 refine bF (R:=λr=>∃f ao,r=.nx [a0,a1,f,a3] ao/\aj as Ω ao) (ds:=as.map .ref) (λi l c=>∃f,l=[a0,a1,f,a3]/\i<=as.length/\(∀a∈as,∃ds:List D,c[a]?=some (.lst ds)/\ds.length<=500+i)/\aj as Ω c) ?_ ?_ ?_ fuel 0 _ _ (by unfold fuel;simp;omega) (Nat.zero_le _) ⟨a2,rfl,by omega,B,aj.refl⟩
 .rintro i l c ⟨_,_,_,_,K⟩
  rw[bU,aC,aA (K.get _ _ A n)]
 .rintro i d l c C ⟨f,rfl,N,u,K⟩
  obtain⟨a,w,rfl⟩:=gI C;have E:=(List.getElem?_eq_some_iff.mp w).1;have h:=List.mem_of_getElem? w;obtain⟨ds,j,F⟩:=u a h;refine⟨[a0,a1,oR a,a3],rfl,?_⟩;have G:=gH j;have o:=aQ (e:=.lst ds.reverse) j;have H:aj as c (c.set a (.lst ds.reverse)):=aj.set h
  have I:bC (bQ eo cI (aa 2) ae) [a0,a1,oR a,a3] c=.nx [a0,a1,oR a,a3] (c.set a (.lst ds.reverse)):=by
   rw[bT,dE (x:=.ref a) (ao:=c) rfl (c8 j),aX,ak,G];rfl
  have J:∀b∈as,b≠a->∃k:List D,(c.set a (.lst ds.reverse))[b]?=some (.lst k)/\k.length<=500+i:=λb p q=>by
   obtain⟨k,s,y⟩:=u b p;exact⟨k,cj s q,y⟩
  generalize c.set a (.lst ds.reverse)=g at *;have t:=dZ (d:=.str "zz") o (by simp;omega)
  have L:bC (bQ eo bh (aa 2) (ab (af (.str "zz")) ae)) [a0,a1,oR a,a3] g=.nx [a0,a1,oR a,a3] (g.set a (.lst (ds.reverse++[.str "zz"]))):=by
   rw[bT,dE (x:=.ref a) (ao:=g) rfl (c8 o)]
   show cm (bh (.ref a) [.str "zz"] g) _=_
   rw[t];rfl
  unfold KQ;rw[ah,I,aB,ah,L];refine⟨oR a,rfl,by omega,λb p=>?_,(K.trans H).trans (aj.set h)⟩
  by_cases z:b=a
  .subst z
   exact⟨_,aQ o,by simp;omega⟩
  .obtain⟨k,s,y⟩:=J b p z
   exact⟨k,cj s z,by omega⟩
 .rintro l c ⟨f,rfl,_,_,K⟩
  exact⟨f,c,rfl,K⟩
def Ia:SM:=(ag (bC (bQ eo fc (aa 3) ae)) ai)
theorem EB{a0 a1 a2 a3:Option D}(R:Rw Ω k js rs)(s:k∉js)(A:rs.length<=1000) :
  ∃b ao,eP (bp 3) (.seq (.ref k)) Ia fuel 0 [a0,a1,a2,a3] Ω=.nx [a0,a1,a2,b] ao/\aj js Ω ao:=by
 have B:=R.len;refine bF (R:=λr=>∃b ao,r=.nx [a0,a1,a2,b] ao/\aj js Ω ao) (ds:=js.map .ref) (λi l a=>∃b,l=[a0,a1,a2,b]/\(∀j∈js,∃ds,a[j]?=some (.lst ds))/\aj js Ω a) ?_ ?_ ?_ fuel 0 _ _ (by unfold fuel;simp;omega) (Nat.zero_le _) ⟨a3,rfl,λj m=>?_,aj.refl⟩
 .rintro i l a ⟨_,_,_,K⟩
  rw[bU,aC,aA (K.get _ _ R.ce s)]
 .rintro i d l a t ⟨b,rfl,p,K⟩
  obtain⟨j,m,rfl⟩:=gI t;have f:=List.mem_of_getElem? m;obtain⟨ds,c⟩:=p j f;refine⟨[a0,a1,a2,oR j],rfl,?_⟩;have u:=mS c
  have e:Ia [a0,a1,a2,oR j] a=.nx [a0,a1,a2,oR j] (a.set j (.lst [])):=by
   unfold Ia;rw[ah,bT,dE (x:=.ref j) (ao:=a) rfl (c8 c),aX,ak,u];rfl
  rw[e];refine⟨oR j,rfl,λq n=>?_,K.trans (aj.set f)⟩
  by_cases g:q=j
  .subst g;exact⟨[],aQ c⟩
  .obtain⟨w,o⟩:=p q n
   exact⟨w,cj o g⟩
 .rintro l a ⟨b,rfl,_,K⟩
  exact⟨b,a,rfl,K⟩
 .obtain⟨i,y⟩:=List.mem_iff_getElem?.mp m
  obtain⟨z,_,h⟩:=R.al.at' y;exact⟨_,h⟩
def KR(a b c d:ba):EM:=(mN bj (ab (aF "House" "line" b (aa 0) (ab (aa 1) ae)) (ab (aF "House" "elders_of" c (aa 0) (ab (aa 1) ae)) (ab (aF "House" "heirs" d (aa 0) (ab (aa 1) ae)) (ab (aF "House" "kinds" a (aa 0) ae) ae)))))
def Nq(b c d e a:ba):SM:=
 (ag (bX (bp 2) (aL (KR b c d e)) KQ)
 (ag (bC (bQ eo fc (aF "House" "rows_of" a (aa 0) (ab (aa 1) ae)) ae))
 (ag (bX (bp 3) (aL (aF "House" "rows_of" a (aa 0) (ab (aa 1) ae))) Ia)
 ai)))
def Nr(a b c d e:ba):SM:=(ag (bX (bp 1) (aL (aF "House" "kinds" a (aa 0) ae)) (Nq a b c d e)) ai)
theorem EC{w k l o:ba}{a2 a3:Option D}(N:pY w)(O:p8 k)(P:ow l)(Q:rX o)(H:bV Tr Ω h E L)(G:fX E L)(f:n∈nms E) :
  ∃(p:List Nat) (m:Nat) (ao:aD),KR w k l o [oR h,oS n,a2,a3] Ω=.ok (.ref m) ao/\ao[m]?=some (.lst (p.map .ref))/\m∉p/\(∀a∈p,Ω.length<=a/\∃ds:List D,ao[a]?=some (.lst ds)/\ds.length<=500)/\p.length<=400/\ff Ω ao:=by
 have hE:E.length<=12:=G.len;have hs:=G.short f;have B:(bq E n).length<=100:=G.gd.short n f;obtain⟨q,c,R,C,x,S⟩:=O Ω h E L Tr n H f;have y:=H.keep x;obtain⟨r,d,T,F,s,l2⟩:=P c h E L Tr n y f;have z:=y.keep s;obtain⟨t,e,U,I,g,l3⟩:=Q d h E L Tr n z f (by omega)
 have J:=g.hs z;obtain⟨u,b,V,K,i,l4⟩:=N e h E L Tr J
 have m1:aF "House" "line" k (aa 0) (ab (aa 1) ae) [oR h,oS n,a2,a3] Ω=.ok (.ref q) c:=by
  rw[cy H rfl (by decide)]
  show iV (k [.ref h,.str n] Ω)=_
  rw[R];rfl
 have A:aF "House" "elders_of" l (aa 0) (ab (aa 1) ae) [oR h,oS n,a2,a3] c=.ok (.ref r) d:=by
  rw[cy y rfl (by decide)]
  show iV (l [.ref h,.str n] c)=_
  rw[T];rfl
 have X:aF "House" "heirs" o (aa 0) (ab (aa 1) ae) [oR h,oS n,a2,a3] d=.ok (.ref t) e:=by
  rw[cy z rfl (by decide)]
  show iV (o [.ref h,.str n] d)=_
  rw[U];rfl
 have Y:aF "House" "kinds" w (aa 0) ae [oR h,oS n,a2,a3] e=.ok (.ref u) b:=by
  rw[cy J rfl (by decide),aX,ak,V];rfl
 have q1:=bH C;have q2:=bH F;have q3:=bH I;have q4:=bH K;have c1:=x.len;have c2:=s.len;have c3:=g.len;have c4:=i.len;have j:aj [] b (b++[Cell.lst [.ref q,.ref r,.ref t,.ref u]]):=aj.app;refine⟨[q,r,t,u],b.length,b++[.lst [.ref q,.ref r,.ref t,.ref u]],?_,av,by simp;omega,?_,by simp,((((x.trans s).kpf.trans g).trans i.kpf).trans j.kpf)⟩
 .unfold KR
  rw[cY,a_,m1,ak,a_,A,ak,a_,X,ak,a_,Y,ak,aX,ak,ak,ak,ak,ak,dz,if_pos (aN (by simp))]
 .intro a M
  have Z:((nms E).filter λm=>decide (n∈L m)).length<=E.length:=by
   have:=List.length_filter_le (λm=>decide (n∈L m)) (nms E)
   simpa[nms]using this
  simp only[List.mem_cons,List.not_mem_nil,or_false]at M;rcases M with rfl|rfl|rfl|rfl
  .exact⟨S,_,(i.trans j).get _ _ (g.lst (s.get _ _ C (by simp))) (by simp),by simp;omega⟩
  .exact⟨by omega,_,(i.trans j).get _ _ (g.lst F) (by simp),by simp;omega⟩
  .exact⟨by omega,_,(i.trans j).get _ _ I (by simp),by simp only[List.length_map];omega⟩
  .exact⟨by omega,_,j.get _ _ K (by simp),by simp[nms];omega⟩
theorem ED{u w y z o:ba}{a2 a3:Option D}(O:pY u)(P:p8 w)(Q:ow y)(R:rX z)(S:AZ o)(H:bV Tr Ω h E L)(G:fX E L)(A:n∈nms E) :
  ∃b d ao,Nq u w y z o [oR h,oS n,a2,a3] Ω=.nx [oR h,oS n,b,d] ao/\ff Ω ao:=by
 have C:(bq E n).length<=100:=G.gd.short n A;obtain⟨as,m,T,U,F,B,I,V,X⟩:=EC (a2:=a2) (a3:=a3) O P Q R H G A;obtain⟨b,g,Y,Z⟩:=EA (a0:=oR h) (a1:=oS n) (a2:=a2) (a3:=a3) F B (λa h=>(I a h).2) V
 have i:=X.new Z (λq r=>(I q r).1)
 have H2:=i.hs H
 have r1:bX (bp 2) (aL (KR u w y z)) KQ [oR h,oS n,a2,a3] Ω=.nx [oR h,oS n,b,a3] g:=by
  rw[cv,bf,U,ak,aR (by rw[aC,aA F]),b9,Y]
 have J:∀(c:aD),bV Tr c h E L->∃p k ao,aF "House" "rows_of" o (aa 0) (ab (aa 1) ae) [oR h,oS n,b,a3] c=.ok (.ref k) ao/\Rw ao k p ((bq E n).map L++[bq E n])/\aj [] c ao/\c.length<=k/\(∀j∈p,c.length<=j)/\k∉p:=by
  intro c K;obtain⟨p,k,ao,e,q⟩:=S c h E L Tr n K G.gd A;refine⟨p,k,ao,?_,q⟩;rw[cy K rfl (by decide)]
  show iV (o [.ref h,.str n] c)=_
  rw[e];rfl
 obtain⟨p,k,f,e3,M,K3,l3,_,_⟩:=J g H2;have hc:=mS M.ce
 have r2:bC (bQ eo fc (aF "House" "rows_of" o (aa 0) (ab (aa 1) ae)) ae) [oR h,oS n,b,a3] g=.nx [oR h,oS n,b,a3] (f.set k (.lst [])):=by
  rw[bT,dE (x:=.ref k) (ao:=f) e3 (c8 M.ce),aX,ak,hc];rfl
 have c2:=i.len;have l:ff Ω (f.set k (.lst [])):=(i.trans K3.kpf).new (fp:=[k]) (aj.set (by simp)) (λq r=>by rw[List.mem_singleton.mp r];omega)
 generalize f.set k (.lst [])=s at *;obtain⟨b0,k5,c0,e5,N,K5,l5,j5,n5⟩:=J s (l.hs H);obtain⟨d,t,e6,K6⟩:=EB (a0:=oR h) (a1:=oS n) (a2:=b) (a3:=a3) N n5 (by simp;omega)
 have r3:bX (bp 3) (aL (aF "House" "rows_of" o (aa 0) (ab (aa 1) ae))) Ia [oR h,oS n,b,a3] s=.nx [oR h,oS n,b,d] t:=by
  rw[cv,bf,e5,ak,aR (by rw[aC,aA N.ce]),b9,e6]
 have c4:=l.len;refine⟨b,d,t,?_,(l.trans K5.kpf).new K6 (λq r=>by have:=j5 q r;omega)⟩
 unfold Nq;rw[ah,r1,aB,ah,r2,aB,ah,r3];rfl
def EE(SP:ba):Prop:=∀(b:aD) (h:Nat) (E:en) (L:Str->List Str),bV Tr b h E L->fX E L->∃a,SP [.ref h] b=.ok .non a/\ff b a
theorem Ib{f o p q s:ba}(t:pY f)(x:p8 o)(y:ow p)(z:rX q)(A:AZ s):EE (bL 4 1 (Nr f o p q s)):=by
 intro g h E L H G;have P:E.length<=12:=G.len;rw[bt (by rfl)]
 have B:aV 4 [D.ref h]=[oR h,none,none,none]:=rfl;rw[B];obtain⟨k,b,C,u,w,_⟩:=t g h E L Tr H
 have m1:aF "House" "kinds" f (aa 0) ae [oR h,none,none,none] g=.ok (.ref k) b:=by
  rw[cy H rfl (by decide),aX,ak,C];rfl
 unfold Nr;rw[ah,cv,bf,m1,ak,aR (by rw[aC,aA u]),b9]
 refine bF (R:=λr=>∃c,fR (sq r _)=.ok .non c/\ff g c) (ds:=(nms E).map .str) (λi e a=>∃j a2 a3,e=[oR h,j,a2,a3]/\ff b a) ?_ ?_ ?_ fuel 0 _ _ (by unfold fuel;simp[nms];omega) (Nat.zero_le _) ⟨none,none,none,rfl,ff.refl⟩
 .rintro i e a ⟨_,_,_,_,K⟩
  rw[bU,aC,aA (K.lst u)]
 .rintro i d e a l ⟨j,a2,a3,rfl,K⟩
  obtain⟨n,F,rfl⟩:=dG l;have m:n∈nms E:=List.mem_of_getElem? F;refine⟨[oR h,oS n,a2,a3],rfl,?_⟩;obtain⟨I,J,M,N,O⟩:=ED (a2:=a2) (a3:=a3) t x y z A ((w.kpf.trans K).hs H) G m;rw[N];exact⟨_,_,_,rfl,K.trans O⟩
 .rintro e a ⟨j,a2,a3,rfl,K⟩
  exact⟨a,rfl,w.kpf.trans K⟩
end
section
variable{Ω ao aM:aD}{ρ:aS}{C:List D->Out Rs}{κ:List Int->Nat->Int}{ns:List Int}{xs ys:List Str}{h e l x q o j N B:Nat}{E E1 E2:en}{L:Str->List Str}{n:Str}{fZ p_ kvs ka kb:List (Key×D)}{P P':Nat->Prop}{ds:List D}
theorem yo(c:jg κ C){p q b:ba}(u:Bk p)(w:Bg q)(y:Bl b){m:Nat}(z:1<=m)(d:m<=12){a2:Option D}{τ:aS} :
  ∃x e l xs E L aM a,KO C p (some (SC ns)::oI m::a2::τ) Ω=.ok (.ref x) aM/\KP q b (some (SC ns)::oI m::oR x::τ) aM=.ok (.tup [.ref e,.ref l]) a/\Hand a x e l xs E L/\aj [] Ω a:=by
 have A:C [SC ns,.int 1]=.ok (false,.int (κ ns 1)):=c ns 1;obtain⟨xs,x,aM,s,B,Y,F,f,H⟩:=u Ω (κ ns 1) m z d;obtain⟨k,I,J,a,K,R,M,N,g⟩:=y aM ns 2 x 5 xs f s (by omega)
 obtain⟨E,L,e,l,j,n,o,O,t,P,G,Q,S,T,U,V⟩:=w a x k I xs J (g.get _ _ f (by simp)) R M s (by omega) (λi r h=>N i r h)
 refine⟨x,e,l,xs,E,L,aM,o,?_,?_,⟨(g.trans t).get _ _ f (by simp),by omega,B,P,G,⟨j,.inl Q,S⟩,⟨n,.inl T,U⟩,V⟩,(H.trans g).trans t⟩
 .simp[KO,A,F]
 .have X:(mN (aG b) (ab (aa 0) (ab (af (.int 2)) (ab (aa 2) (ab (af (.int 5)) ae))))) (some (SC ns)::oI m::oR x::τ) aM=.ok (.ref k) a:=by
   show iV (b [SC ns,.int 2,.ref x,.int 5] aM)=_
   rw[show b [SC ns,.int 2,.ref x,.int 5] aM=_ from K]
   rfl
  have v2:aa 2 (some (SC ns)::oI m::oR x::τ) aM=.ok (.ref x) aM:=rfl;unfold KP;rw[cY,a_,v2,ak,a_,X,ak,aX,ak,ak,ak,dR,O,ie]
theorem Br{i:Nat}(c:ys.Nodup)(b:ys[i]?=some n):n∉ys.take i:=λd=>by
 obtain⟨k,e,a⟩:=b_ d;have f:=(List.getElem?_eq_some_iff.mp b).1;have:=(List.getElem?_inj (by omega) c).mp (a.trans b.symm)
 omega
theorem yp{i:Nat}{f:Str->List Str}(a:ys[i]?=some n):cp (ys.take i) f++[(n,f n)]=cp (ys.take (i+1)) f:=by
 unfold cp;rw[List.take_succ,a];simp
theorem qm{f:Str->List Str}(h:n∈ys):(cp ys f).lookup n=some (f n):=by
 rw[eR (by rw[bI];exact h),cN h]
theorem oy{f:Str->List Str}{p:Str×List Str}(h:p∈cp ys f):p.1∈ys/\p.2=f p.1:=by
 obtain⟨n,a,rfl⟩:=List.mem_map.mp h;exact⟨a,rfl⟩
theorem EG(G:fX E L)(p:ys.Perm (nms E)):Gd (cp ys (bq E)) where
 nd:=by rw[bI];exact p.nodup_iff.mpr G.nd
 el:=λn a x b=>by
  rw[bI]at a ⊢;rw[cN a]at b;exact p.mem_iff.mpr (G.sub (p.mem_iff.mp a) x b)
 rk:=by
  obtain⟨rk,h⟩:=G.gd.rk;refine⟨rk,λn a x b=>?_⟩
  rw[bI]at a;rw[cN a]at b;exact h n (p.mem_iff.mp a) x b
 few:=by
  have c:=p.length_eq;have d:=G.len;simp only[cp,nms,List.length_map]at c ⊢;omega
 short:=λn a=>by
  rw[bI]at a;rw[cN a];exact G.gd.short n (p.mem_iff.mp a)
theorem Bs(G:fX E L)(p:ys.Perm (nms E)):Hn (cp ys (bq E)) L:=λn a=>by
 rw[bI]at a;rw[cN a];exact G.KH n (p.mem_iff.mp a)
theorem qo(a:bB Ω h ka)(b:aE P Ω ka E1)(c:bB Ω l kb)(d:aE P' Ω kb E2)(e:E1.length=E2.length)(f:∀p∈E1,E2.lookup p.1=some p.2):aw .NotEq (.ref h) (.ref l) Ω=.ok (.bl false) Ω:=by
 rw[tL,gS,tT a]
 show gc .bad (fv true (.ref h) (.ref l) Ω)=_
 rw[ll];unfold fv;simp only[pX a,pX c,gX b,gX d,qk e f];rfl
theorem yq(a:bB Ω h ka)(b:aE P Ω ka E1)(c:bB Ω l kb)(d:aE P' Ω kb E2)(e:E1.length=E2.length)(f:∀p∈E1,E2.lookup p.1=some p.2):aw .Eq (.ref h) (.ref l) Ω=.ok (.bl true) Ω:=by
 rw[oh,gS,tT a]
 show gc .bad (fv false (.ref h) (.ref l) Ω)=_
 rw[ll];unfold fv;simp only[pX a,pX c,gX b,gX d,qk e f];rfl
theorem Ic(h:Ω[j]?=some (.dK kvs)):eM .dict (.ref j) Ω=.ok (.bl true) Ω:=by
 unfold eM;rw[Aw];simp only[zS,h];rfl
def Nt:SM:=(ag (dO (aa 8) (aa 6) (mN (aO .list) (ab (m2 az (aa 3) (aa 6)) ae))) ai)
theorem Bt{a0 a1 a2 a4 a5 a6 a9:Option D}(L:bB Ω e fZ)(M:aE Tr Ω fZ E)(l:Ω[o]?=some (.lst (ys.map .str)))(p:Ω[q]?=some (.dK []))(s:e≠q)(N:∀y∈ys,y∈nms E)(O:ys.Nodup)(X:ys.length<=900) :
  ∃b c ao,bX (bp 6) (aL (aa 7)) Nt [a0,a1,a2,oR e,a4,a5,a6,oR o,oR q,a9] Ω=.nx [a0,a1,a2,oR e,a4,a5,b,oR o,oR q,a9] ao/\ao[q]?=some (.dK c)/\aE (λj=>Ω.length<=j) ao c (cp ys (bq E))/\aj [q] Ω ao:=by
 have t:o≠q:=λz=>by rw[z,p]at l;cases l
 have u:aL (aa 7) [a0,a1,a2,oR e,a4,a5,a6,oR o,oR q,a9] Ω=.ok (.seq (.ref o)) Ω:=by
  rw[bf];exact aR (by rw[aC,aA l])
 rw[cv,u,b9]
 refine bF (R:=λr=>∃b c ao,r=.nx [a0,a1,a2,oR e,a4,a5,b,oR o,oR q,a9] ao/\ao[q]?=some (.dK c)/\aE (λj=>Ω.length<=j) ao c (cp ys (bq E))/\aj [q] Ω ao) (ds:=ys.map .str)
  (λi ρ a=>∃b c,ρ=[a0,a1,a2,oR e,a4,a5,b,oR o,oR q,a9]/\a[q]?=some (.dK c)/\aE (λj=>Ω.length<=j) a c (cp (ys.take i) (bq E))/\aj [q] Ω a) ?_ ?_ ?_ fuel 0 _ _ (by unfold fuel;simp;omega) (Nat.zero_le _) ⟨a6,[],rfl,p,.nil,aj.refl⟩
 .rintro i ρ a ⟨_,_,_,_,_,K⟩
  rw[bU,aC,aA (K.get _ _ l (by simpa using t))]
 .rintro i d ρ a w ⟨b,c,rfl,g,R,K⟩
  obtain⟨n,m,rfl⟩:=dG w;have P:=(List.getElem?_eq_some_iff.mp m).1;refine⟨[a0,a1,a2,oR e,a4,a5,oS n,oR o,oR q,a9],rfl,?_⟩;have x:=L.keep K (by simpa using s)
  have A:=M.c9 K (λj f ds=>by rw[List.mem_singleton.mp f,p];simp)
  obtain⟨j,Q,_,f⟩:=A.at (N n (List.mem_of_getElem? m));have B:=dS (n:=n) x Q;have C:=cT f
  have S:(mN (aO .list) (ab (m2 az (aa 3) (aa 6)) ae)) [a0,a1,a2,oR e,a4,a5,oS n,oR o,oR q,a9] a=.ok (.ref a.length) (a++[.lst ((bq E n).map .str)]):=by
   show((az (.ref e) (.str n) a).bind _).bind _=_
   rw[B,ak];exact C
  have T:(a++[Cell.lst ((bq E n).map .str)])[a.length]?=some (.lst ((bq E n).map .str)):=av;have F:aj [] a (a++[Cell.lst ((bq E n).map .str)]):=aj.app;generalize a++[Cell.lst ((bq E n).map .str)]=h at *;have G:=F.get _ _ g (by simp)
  have k:=R.len;have U:=rQ (ρ:=[a0,a1,a2,oR e,a4,a5,oS n,oR o,oR q,a9]) (md:=aa 8) (mk:=aa 6) (n:=n) S rfl rfl G (by simp only[cp,List.length_map,List.length_take]at k;omega)
  have H:n∉nms (cp (ys.take i) (bq E)):=by rw[bI];exact Br O m
  have V:=(R.keep F (by simp)).put H (j:=a.length) (r:=bq E n) K.len T
  have I:aj [q] h (h.set q (.dK (dN c (.inr n) (.ref a.length)))):=aj.set (by simp)
  have J:=V.c9 I (λj f ds=>by rw[List.mem_singleton.mp f,G];simp)
  rw[yp m]at J;unfold Nt;rw[ah,U];exact⟨_,_,rfl,aQ G,J,(K.trans (fB.up F)).trans I⟩
 .rintro ρ a ⟨b,c,rfl,g,R,K⟩
  rw[List.length_map,List.take_length]at R;exact⟨b,c,a,rfl,g,R,K⟩
def vq(N B:Nat)(Ω:aD)(kvs:List (Key×D))(xs:List Str):Prop:=∀n∈xs,∃j a,bK kvs (.inr n)=oR j/\N<=j/\Ω[j]?=some (.lst a)/\a.length<=B
theorem vq.set{d:D}(H:vq N B Ω kvs xs)(g:Ω[j]?=some (.lst ds))(h:ds.length<=B):vq N (B+1) (Ω.set j (.lst (ds++[d]))) kvs xs:=λn e=>by
 obtain⟨k,f,a,b,c,i⟩:=H n e
 by_cases z:k=j
 .subst z
  exact⟨k,_,a,b,aQ c,by simp;omega⟩
 .exact⟨k,f,a,b,cj c z,by omega⟩
theorem BX{i:Nat}(a:(m2 az (aa i) (aa 6)) ρ Ω=.ok (.ref j) Ω)(c:Ω[j]?=some (.lst ds))(e:ds.length<=1000):bC (bQ eo bh (m2 az (aa i) (aa 6)) (ab (af (.str "zz")) ae)) ρ Ω=.nx ρ (Ω.set j (.lst (ds++[.str "zz"]))):=by
 have b:=dZ (d:=.str "zz") c e;rw[bT,dE a (c8 c)]
 show cm (bh (.ref j) [.str "zz"] Ω) _=_
 rw[b];rfl
def KS:SM:=(ag (bC (bQ eo bh (m2 az (aa 9) (aa 6)) (ab (af (.str "zz")) ae))) (ag (bC (bQ eo bh (m2 az (aa 8) (aa 6)) (ab (af (.str "zz")) ae))) ai))
theorem bB.Bu{a:Nat}{es:List D}(h:bB Ω a kvs)(b:Ω[j]?=some (.lst ds)):bB (Ω.set j (.lst es)) a kvs:=h.keep (fp:=[j]) (aj.set (by simp)) (by
 simp;exact λz=>h.nl _ (z▸b))
theorem EH{a0 a1 a2 a3 a4 a5 a7:Option D}{t w:Nat}(h:n∈xs)(k:bB Ω t ka)(q:bB Ω w kb)(l:vq N B Ω ka xs)(r:vq N B Ω kb xs)(F:B<=500) :
  ∃ao,KS [a0,a1,a2,a3,a4,a5,oS n,a7,oR w,oR t] Ω=.nx [a0,a1,a2,a3,a4,a5,oS n,a7,oR w,oR t] ao/\bB ao t ka/\bB ao w kb/\vq N (B+2) ao ka xs/\vq N (B+2) ao kb xs/\∃i j,N<=i/\N<=j/\aj [i,j] Ω ao:=by
 obtain⟨i,e,s,u,a,m⟩:=l n h;have x:=BX (ρ:=[a0,a1,a2,a3,a4,a5,oS n,a7,oR w,oR t]) (i:=9) (Ω:=Ω) (dS k s) a (by omega)
 have y:=k.Bu (es:=e++[.str "zz"]) a;have o:=q.Bu (es:=e++[.str "zz"]) a;have f:=l.set (d:=.str "zz") a m;have b:=r.set (d:=.str "zz") a m;have z:aj [i] Ω (Ω.set i (.lst (e++[.str "zz"]))):=aj.set (by simp)
 generalize Ω.set i (.lst (e++[.str "zz"]))=g at *;obtain⟨j,es,A,C,c,p⟩:=b n h;have E:=BX (ρ:=[a0,a1,a2,a3,a4,a5,oS n,a7,oR w,oR t]) (i:=8) (Ω:=g) (dS o A) c (by omega)
 refine⟨_,?_,y.Bu (es:=es++[.str "zz"]) c,o.Bu (es:=es++[.str "zz"]) c,f.set (d:=.str "zz") c p,b.set (d:=.str "zz") c p,i,j,u,C,(z.sub (by simp)).trans (aj.set (by simp))⟩
 unfold KS;rw[ah,x,aB,ah,E];rfl
theorem aE.ls{N:Nat}(R:aE (λj=>N<=j) Ω kvs E)(a:∀n∈xs,n∈nms E/\(bq E n).length<=B):vq N B Ω kvs xs:=λn b=>by
 obtain⟨j,c,d,e⟩:=R.at (a n b).1;exact⟨j,_,c,d,e,by simpa using (a n b).2⟩
theorem Bv{a0 a1 a3 a4 a5 a6 a7:Option D}{t w:Nat}(l:ff Ω aM)(m:Ω[x]?=some (.lst (xs.map .str)))(p:bB aM t ka)(s:bB aM w kb)(u:vq Ω.length 100 aM ka xs)(y:vq Ω.length 100 aM kb xs)(J:xs.length<=100) :
  ∃b ao,bX (bp 6) (aL (aa 2)) KS [a0,a1,oR x,a3,a4,a5,a6,a7,oR w,oR t] aM=.nx [a0,a1,oR x,a3,a4,a5,b,a7,oR w,oR t] ao/\ff Ω ao:=by
 have e:aL (aa 2) [a0,a1,oR x,a3,a4,a5,a6,a7,oR w,oR t] aM=.ok (.seq (.ref x)) aM:=by
  rw[bf];exact aR (by rw[aC,aA (l.lst m)])
 rw[cv,e,b9]
 refine bF (R:=λr=>∃b ao,r=.nx [a0,a1,oR x,a3,a4,a5,b,a7,oR w,oR t] ao/\ff Ω ao) (ds:=xs.map .str)
  (λi c a=>∃b,c=[a0,a1,oR x,a3,a4,a5,b,a7,oR w,oR t]/\ff Ω a/\bB a t ka/\bB a w kb/\vq Ω.length (100+2*i) a ka xs/\vq Ω.length (100+2*i) a kb xs) ?_ ?_ ?_ fuel 0 _ _ (by unfold fuel;simp;omega) (Nat.zero_le _) ⟨a6,rfl,l,p,s,u,y⟩
 .rintro i c a ⟨_,_,K,_⟩
  rw[bU,aC,aA (K.lst m)]
 .rintro i d c a f ⟨b,rfl,K,z,A,g,h⟩
  obtain⟨n,o,rfl⟩:=dG f;have B:=(List.getElem?_eq_some_iff.mp o).1;refine⟨[a0,a1,oR x,a3,a4,a5,oS n,a7,oR w,oR t],rfl,?_⟩;obtain⟨C,E,F,G,j,k,L,M,N,O,H⟩:=EH (a0:=a0) (a1:=a1) (a2:=oR x) (a3:=a3) (a4:=a4) (a5:=a5) (a7:=a7) (List.mem_of_getElem? o) z A g h (by omega)
  rw[E];exact⟨_,rfl,K.new H (λq I=>by simp at I;omega),F,G,j,k⟩
 .rintro c a ⟨b,rfl,K,_⟩
  exact⟨b,a,rfl,K⟩
end
section
variable{Ω ao aM:aD}{ρ:aS}{C:List D->Out Rs}{κ:List Int->Nat->Int}{ns:List Int}{xs ys:List Str}{h e l x q o j N B:Nat}{E E1 E2:en}{L:Str->List Str}{n:Str}{fZ p_ kvs ka kb:List (Key×D)}{P P':Nat->Prop}{ds:List D}
def Qz(a b c:ba):EM:=(jR (dr (mN (aG a) (ab (aF "House" "elders_of" b (aa 5) (ab (aa 6) ae)) ae))) (dr (mN (aG c) (ab (aa 5) (ab (aa 3) (ab (aa 6) ae))))))
def KU(a b c:ba):SM:=(ag (dc (Qz a b c) Bm ai) ai)
theorem EI{i c g:ba}(p:yk i)(q:ow c)(r:Bo g){a0 a1 a2 a4 a7 a8 a9:Option D}(H:Hand Ω x e l xs E L)(T:bV Tr Ω h E L)(s:n∈xs):∃ao,KU i c g [a0,a1,a2,oR e,a4,oR h,oS n,a7,a8,a9] Ω=.nx [a0,a1,a2,oR e,a4,oR h,oS n,a7,a8,a9] ao/\aj [] Ω ao:=by
 have b:n∈nms E:=by rw[H.eq];exact s
 obtain⟨k,d,t,u,j,_⟩:=q Ω h E L Tr n T b;obtain⟨a,w,m⟩:=p d k _ u (by have:=H.Er.gd.short n b;omega)
 obtain⟨o,y,z⟩:=(H.keep (j.trans m)).el;obtain⟨f,A,B⟩:=r a h e o E L n (T.keep (j.trans m)) y z H.Er b;refine⟨f,?_,(j.trans m).trans B⟩
 have m1:aF "House" "elders_of" c (aa 5) (ab (aa 6) ae) [a0,a1,a2,oR e,a4,oR h,oS n,a7,a8,a9] Ω=.ok (.ref k) d:=by
  rw[cy T rfl (by decide)]
  show iV (c [.ref h,.str n] Ω)=_
  rw[t];rfl
 have C:(dr (mN (aG i) (ab (aF "House" "elders_of" c (aa 5) (ab (aa 6) ae)) ae))) [a0,a1,a2,oR e,a4,oR h,oS n,a7,a8,a9] Ω=.ok (.bl false) a:=by
  rw[fU,cY,a_,m1,ak,aX,ak,ak,dR,w,ie];rfl
 have F:(dr (mN (aG g) (ab (aa 5) (ab (aa 3) (ab (aa 6) ae))))) [a0,a1,a2,oR e,a4,oR h,oS n,a7,a8,a9] a=.ok (.bl false) f:=by
  rw[fU]
  show(cB (iV (g [.ref h,.ref e,.str n] a))).bind _=_
  rw[A];rfl
 unfold KU Qz;rw[ah,cx,fT,C,ak,bD,iN,F];rfl
def KW:EM:=(jR (dr (m1 (eM .dict) (aa 9))) (jR (m2 (aw .NotEq) (aa 8) (aa 3)) (jR (m2 (aw .NotEq) (mN (aO .list) (ab (aa 9) ae)) (aa 7)) (m2 (aw .NotEq) (aa 9) (aa 4)))))
theorem EJ{a0 a1 a2 a5 a6:Option D}{t w:Nat}(G:fX E L)(p:ys.Perm (nms E))(x:bB Ω e fZ)(y:aE Tr Ω fZ E)(z:bB Ω l p_)(f:aE Tr Ω p_ (cp (nms E) L))(A:Ω[o]?=some (.lst (ys.map .str)))(B:bB Ω w ka)(g:aE P Ω ka (cp ys (bq E)))(h:Ω[t]?=some (.dK kb))(c:aE P' Ω kb (cp ys L)) :
  ∃ao,KW [a0,a1,a2,oR e,oR l,a5,a6,oR o,oR w,oR t] Ω=.ok (.bl false) ao/\aj [] Ω ao:=by
 have s:=p.length_eq;have C:=Ic h
 have F:=qo B g x y (by simp only[cp,nms,List.length_map]at s ⊢;omega) (λH i=>by
  obtain⟨j,k⟩:=oy i;rw[eR (p.mem_iff.mp j),k])
 have d:=rL (.inl h);rw[c.keys,bI]at d;have I:(Ω++[Cell.lst (ys.map .str)])[Ω.length]?=some (.lst (ys.map .str)):=av;have b:aj [] Ω (Ω++[Cell.lst (ys.map .str)]):=aj.app;generalize Ω++[Cell.lst (ys.map .str)]=a at *;have u:=gU I (b.get _ _ A (by simp))
 rw[decide_eq_true rfl]at u
 have J:=qo (show bB a t kb from .inl (b.get _ _ h (by simp))) (c.keep b (by simp)) (z.keep b (by simp)) (f.keep b (by simp)) (by simp only[cp,nms,List.length_map]at s ⊢;omega) (λH i=>by
  obtain⟨j,k⟩:=oy i;rw[qm (p.mem_iff.mp j),k])
 refine⟨a,?_,b⟩
 have m:(dr (m1 (eM .dict) (aa 9))) [a0,a1,a2,oR e,oR l,a5,a6,oR o,oR w,oR t] Ω=.ok (.bl false) Ω:=by
  rw[fU]
  show(cB (eM .dict (.ref t) Ω)).bind _=_
  rw[C];rfl
 have n:(m2 (aw .NotEq) (aa 8) (aa 3)) [a0,a1,a2,oR e,oR l,a5,a6,oR o,oR w,oR t] Ω=.ok (.bl false) Ω:=F
 have q:(m2 (aw .NotEq) (mN (aO .list) (ab (aa 9) ae)) (aa 7)) [a0,a1,a2,oR e,oR l,a5,a6,oR o,oR w,oR t] Ω=.ok (.bl false) a:=by
  rw[cX]
  show((aO .list [.ref t] Ω).bind _)=_
  rw[d,ak];exact u
 have r:(m2 (aw .NotEq) (aa 9) (aa 4)) [a0,a1,a2,oR e,oR l,a5,a6,oR o,oR w,oR t] a=.ok (.bl false) a:=J;unfold KW;rw[fT,m,ak,bD,iN,fT,n,ak,bD,iN,fT,q,ak,bD,iN,r]
def Nu(a b:ba):EM:=(eL (mN (aG a) (ab (aa 5) (ab (aa 3) (ab (aa 4) ae)))) (m2 (aw .Eq) (mN (aG b) (ab (aa 3) ae)) (aa 4)))
theorem EK{b f:ba}(q:Bp b)(r:ya f){a0 a1 a2:Option D}{τ:aS}(H:Hand Ω x e l xs E L)(T:bV Tr Ω h E L):∃ao,Nu b f (a0::a1::a2::oR e::oR l::oR h::τ) Ω=.ok (.bl true) ao:=by
 obtain⟨a,s,u⟩:=q Ω h x e l xs E L T H;have k:=u.hand H;obtain⟨g,m,w⟩:=k.el;obtain⟨y,d1,d2⟩:=k.ln;obtain⟨t,z,d,A,B,C,o,_,_⟩:=r a e g E Tr L m w H.Er.gd H.Er.KH (λn F=>by have:=H.Er.short F;omega)
 have G:∀j∈[e],∀i,a[j]?≠some (.lst i):=λj I i=>by rw[List.mem_singleton.mp I];exact m.nl i
 have c:=yq (.inl B) C (d1.keep o (by simpa using Ne.symm H.ne)) (d2.c9 o G) (by rw[H.eq]) (λp J=>by
  obtain⟨K,M⟩:=oy J;rw[qm (by rw[←H.eq];exact K),M])
 refine⟨d,?_⟩
 have N:(mN (aG b) (ab (aa 5) (ab (aa 3) (ab (aa 4) ae)))) (a0::a1::a2::oR e::oR l::oR h::τ) Ω=.ok (.bl true) a:=by
  show iV (b [.ref h,.ref e,.ref l] Ω)=_
  rw[s];rfl
 have O:(m2 (aw .Eq) (mN (aG f) (ab (aa 3) ae)) (aa 4)) (a0::a1::a2::oR e::oR l::oR h::τ) a=.ok (.bl true) d:=by
  rw[cX]
  show((iV (f [.ref e] a)).bind _)=_
  rw[A,ie,ak];exact c
 unfold Nu;rw[iO,N,ak,bD,tI,O]
def EL(C:List D->Out Rs)(c d e f g h i j b SP a:ba):SM:=
 (ag (ax 1 (KN C))
 (ag (ax 2 (KO C c))
 (ag (rp [3,4] (KP d e))
 (ag (ax 5 (mN (aG f) (ab (aa 3) ae)))
 (ag (bX (bp 6) (aL (aa 2)) (KU g h i))
 (ag (ax 7 (mN (aG j) (ab (aa 2) (ab (mN (bP C) (ab (aa 0) (ab (af (.int 20)) ae))) ae))))
 (ag (ax 8 bY)
 (ag (bX (bp 6) (aL (aa 7)) Nt)
 (ag (ax 9 (mN (aG b) (ab (aa 8) ae)))
 (ag (dc KW Bm ai)
 (ag (bX (bp 6) (aL (aa 2)) KS)
 (ag (bC (mN (aG SP) (ab (aa 5) ae)))
 (ag (aZ (Nu a b))
 ai)))))))))))))
theorem yr(B:jg κ C){NH CN RH BU TX EO LR TU LI SP J:ba}(hN:Bk NH)(hC:Bg CN)(hR:Bl RH)(hB:Bi BU)(hT:yk TX)(hO:ow EO)(hL:Bo LR)(hU:Ew TU)(hI:ya LI)(hP:EE SP)(hS:Bp J)(ns:List Int):∃ao,bL 10 1 (EL C NH CN RH BU TX EO LR TU LI SP J) [SC ns] []=.ok (.bl true) ao:=by
 rw[bt (by rfl)]
 have e0:aV 10 [SC ns]=[some (SC ns),none,none,none,none,none,none,none,none,none]:=rfl;rw[e0];obtain⟨m,D,m1,b0,em,K0⟩:=Ep (ρ:=[some (SC ns),none,none,none,none,none,none,none,none,none]) (Ω:=[]) B rfl;have r1:ax 1 (KN C) [some (SC ns),none,none,none,none,none,none,none,none,none] []=.nx [some (SC ns),oI m,none,none,none,none,none,none,none,none] D:=by rw[bu,em];rfl
 obtain⟨x,e,l,xs,E,L,aM,M,e1,e2,H2,K2⟩:=yo (Ω:=D) (ns:=ns) B hN hC hR m1 b0 (a2:=none) (τ:=[none,none,none,none,none,none,none]);have r2:ax 2 (KO C NH) [some (SC ns),oI m,none,none,none,none,none,none,none,none] D=.nx [some (SC ns),oI m,oR x,none,none,none,none,none,none,none] aM:=by rw[bu,e1];rfl
 have r3:rp [3,4] (KP CN RH) [some (SC ns),oI m,oR x,none,none,none,none,none,none,none] aM=.nx [some (SC ns),oI m,oR x,oR e,oR l,none,none,none,none,none] M:=by
  unfold rp;rw[e2];rfl
 obtain⟨h,f,e3,T3,s,_⟩:=yn hB H2;have r4:ax 5 (mN (aG BU) (ab (aa 3) ae)) [some (SC ns),oI m,oR x,oR e,oR l,none,none,none,none,none] M=.nx [some (SC ns),oI m,oR x,oR e,oR l,oR h,none,none,none,none] f:=by simp[e3]
 have G:=s.Er
 have m0:xs.length<=12:=by
  have:=G.len;rw[←s.eq];simpa[nms]using this
 have r5:∃a6 b,bX (bp 6) (aL (aa 2)) (KU TX EO LR) [some (SC ns),oI m,oR x,oR e,oR l,oR h,none,none,none,none] f=.nx [some (SC ns),oI m,oR x,oR e,oR l,oR h,a6,none,none,none] b/\aj [] f b:=by
  have c0:aL (aa 2) [some (SC ns),oI m,oR x,oR e,oR l,oR h,none,none,none,none] f=.ok (.seq (.ref x)) f:=by
   rw[bf];exact aR (by rw[aC,aA s.nx])
  rw[cv,c0,b9];refine bF (R:=λr=>∃a6 b,r=.nx [some (SC ns),oI m,oR x,oR e,oR l,oR h,a6,none,none,none] b/\aj [] f b) (ds:=xs.map .str) (λi ρ b=>∃a6,ρ=[some (SC ns),oI m,oR x,oR e,oR l,oR h,a6,none,none,none]/\aj [] f b) ?_ ?_ ?_ fuel 0 _ _ (by unfold fuel;simp;omega) (Nat.zero_le _) ⟨none,rfl,aj.refl⟩
  .rintro i ρ b ⟨_,_,K⟩
   rw[bU,aC,aA (s.keep K).nx]
  .rintro i d ρ b hd ⟨a6,rfl,K⟩
   obtain⟨n,g,rfl⟩:=dG hd;refine⟨[some (SC ns),oI m,oR x,oR e,oR l,oR h,oS n,none,none,none],rfl,?_⟩;obtain⟨a,e5,Y⟩:=EI hT hO hL (a0:=some (SC ns)) (a1:=oI m) (a2:=oR x) (a4:=oR l) (a7:=none) (a8:=none) (a9:=none) (s.keep K) (T3.keep K) (List.mem_of_getElem? g);rw[e5];exact⟨_,rfl,K.trans Y⟩
  .rintro ρ b ⟨a6,rfl,K⟩
   exact⟨a6,b,rfl,K⟩
 obtain⟨a6,b,r5,K4⟩:=r5;have T4:=T3.keep K4;have H4:=s.keep K4;have f0:C [SC ns,.int 20]=.ok (false,.int (κ ns 20)):=B ns 20;obtain⟨ys,o,a,py,e5,g5,Y,_⟩:=hU b x (κ ns 20) xs H4.nx (by omega)
 have r6:ax 7 (mN (aG TU) (ab (aa 2) (ab (mN (bP C) (ab (aa 0) (ab (af (.int 20)) ae))) ae))) [some (SC ns),oI m,oR x,oR e,oR l,oR h,a6,none,none,none] b=.nx [some (SC ns),oI m,oR x,oR e,oR l,oR h,a6,oR o,none,none] a:=by simp[f0,e5]
 have T5:=T4.keep Y;have Z:=H4.keep Y;have c:ys.Perm (nms E):=by rw[s.eq];exact py
 have r7:ax 8 bY [some (SC ns),oI m,oR x,oR e,oR l,oR h,a6,oR o,none,none] a=.nx [some (SC ns),oI m,oR x,oR e,oR l,oR h,a6,oR o,oR a.length,none] (a++[.dK []]):=rfl;have g6:(a++[Cell.dK []])[a.length]?=some (.dK []):=av;have K6:aj [] a (a++[Cell.dK []]):=aj.app;generalize hq:a.length=q at *;have l6:(a++[Cell.dK []]).length=q+1:=by simp[hq]
 generalize a++[Cell.dK []]=n0 at *;obtain⟨p0,b1,b2⟩:=Z.el;obtain⟨q0,d1,d2⟩:=Z.ln;have r0:=b1.lt;have s0:=d1.lt;obtain⟨I,kv,N,r8,g7,R7,K7⟩:=Bt (a0:=some (SC ns)) (a1:=oI m) (a2:=oR x) (a4:=oR l) (a5:=oR h) (a6:=a6) (a9:=none) (b1.keep K6 (by simp)) (b2.keep K6 (by simp)) (K6.get _ _ g5 (by simp)) g6 (by omega) (λy F=>c.mem_iff.mp F) (c.nodup_iff.mpr G.nd) (by have:=py.length_eq;omega)
 have k:∀n∈nms E,(L n).length<=13:=λn g=>G.short g
 obtain⟨t,g0,H,e8,g8,R8,K8,f8,t0⟩:=hI N q kv _ _ L (.inl g7) R7 (EG G c) (Bs G c) (λn g=>by
  rw[bI]at g;have:=k n (c.mem_iff.mp g);omega)
 rw[bI]at R8;have r9:ax 9 (mN (aG LI) (ab (aa 8) ae)) [some (SC ns),oI m,oR x,oR e,oR l,oR h,I,oR o,oR q,none] N=.nx [some (SC ns),oI m,oR x,oR e,oR l,oR h,I,oR o,oR q,oR t] H:=by simp[e8]
 have p:ff a H:=(K6.kpf.new K7 (λz hz=>by rw[List.mem_singleton.mp hz];omega)).new K8 (λz hz=>by rw[List.mem_singleton.mp hz];omega)
 have O:=R7.c9 K8 (λj hj ds=>by rw[List.mem_singleton.mp hj,g7];simp)
 have u0:=K7.len;have Ie:=p.rows d2;rw[←s.eq]at Ie;obtain⟨P,e9,Q⟩:=EJ (a0:=some (SC ns)) (a1:=oI m) (a2:=oR x) (a5:=oR h) (a6:=I) G c (p.dct b1) (p.rows b2) (p.dct d1) Ie (p.lst g5) (.inr f8) O g8 R8
 have h0:dc KW Bm ai [some (SC ns),oI m,oR x,oR e,oR l,oR h,I,oR o,oR q,oR t] H=.nx [some (SC ns),oI m,oR x,oR e,oR l,oR h,I,oR o,oR q,oR t] P:=by
  rw[cx,e9];rfl
 have u:∀n∈xs,n∈nms E:=λn g=>by rw[s.eq];exact g
 obtain⟨c6,A,i0,S⟩:=Bv (Ω:=a) (aM:=P) (xs:=xs) (x:=x) (a0:=some (SC ns)) (a1:=oI m) (a3:=oR e) (a4:=oR l) (a5:=oR h) (a6:=I) (a7:=oR o) (t:=t) (w:=q) (ka:=g0) (kb:=kv) (p.trans Q.kpf) Z.nx (.inl (Q.get _ _ g8 (by simp))) (.inr (Q.get _ _ f8 (by simp)))
  (((R8.keep Q (by simp)).imp (P':=λj=>a.length<=j) (λj hj=>by omega)).ls λn g=>by
   have F:=c.mem_iff.mpr (u n g);rw[bI,cN F];exact⟨F,by have:=k n (u n g);omega⟩)
  (((O.keep Q (by simp)).imp (P':=λj=>a.length<=j) (λj hj=>by omega)).ls λn g=>by
   have F:=c.mem_iff.mpr (u n g);rw[bI,cN F];exact⟨F,G.gd.short n (u n g)⟩) (by omega)
 have T:=S.hs T5;obtain⟨U,j0,V⟩:=hP A h E L T G;have k0:bC (mN (aG SP) (ab (aa 5) ae)) [some (SC ns),oI m,oR x,oR e,oR l,oR h,c6,oR o,oR q,oR t] A=.nx [some (SC ns),oI m,oR x,oR e,oR l,oR h,c6,oR o,oR q,oR t] U:=by simp[j0]
 obtain⟨X,l0⟩:=EK hS hI (a0:=some (SC ns)) (a1:=oI m) (a2:=oR x) (τ:=[c6,oR o,oR q,oR t]) (V.hand (S.hand Z)) (V.hs T);refine⟨X,?_⟩;unfold EL;rw[ah,r1,aB,ah,r2,aB,ah,r3,aB,ah,r4,aB,ah,r5,aB,ah,r6,aB,ah,r7,aB,ah,r8,aB,ah,r9,aB,ah,h0,aB,ah,i0,aB,ah,k0,aB,ah,cZ,l0];rfl
end
end Mir
namespace EN
open PySem PySem.Spec PyProof.Rows L2 Mir
noncomputable def top(i:Nat):Stmt:=PySem.Challenge.pw_taglook_k21_lines_keep_rows.main.body.getD i (.Pass ⟨0,0,0,0⟩)
instance clos:aJ:=⟨λ_=>⟨"","",bS (top 0),[],au (top 0),[],[]⟩,λ_=>0⟩
noncomputable def td:List Str:=[]
def Nv:bb:=((((((({}:bb).lW "MOST_ELDERS" (.int 5)).lW "MOST_KINDS" (.int 12)).lW "MOST_LETTERS" (.int 8)).lW "LETTERS" (.str "abcdefghijklmnopqrstuvwxyz")).vd "elders" ["House"]).vd "lines" ["House"])
noncomputable def QA:List Str:=["_law_script","_law_k"]
noncomputable def QB:List Str:=["_law_script","_law_k"]
def QC:SM:=
 (ag (dc (m2 (aw .Lt) (aa 1) (mN (aO .len) (ab (aa 0) ae)))
 (ag (aZ (m2 az (aa 0) (aa 1)))
 ai)
 ai)
 (ag (aZ (af (.int 0)))
 ai))
def RU:ba:=bL 2 2 QC
def F0:List Mir.D->Out Rs:=pureOf RU
def Nw:bb:=Nv.vc "_law_cell" F0
theorem RW:bO QA QB (au (top 33))=true:=by decide +kernel
theorem RX:bZ Nv td (top 33) QA=some QC:=rfl
noncomputable def QD:List Str:=["_law_cell_here","_law_turn","_law_many","_law_rest","_law_k","_law_turns","_law_one","_law_two"]
noncomputable def QE:List Str:=["_law_cell_here","_law_turn","_law_many"]
def QF:SM:=
 (ag (ax 3 (m2 (aP .FloorDiv) (aa 0) (af (.int 2))))
 (ag (dc (eL (m2 (aw .Eq) (m2 (aP .Mod) (aa 0) (af (.int 2))) (af (.int 1))) (m2 (aw .Gt) (aa 0) (m2 (aP .Pow) (af (.int 10)) (af (.int 18)))))
 (ag (bX (bp 4) (cO (ab (aa 1) ae))
 (ag (ax 3 (m2 (aP .FloorDiv) (aa 3) (af (.int 840))))
 ai))
 (ag (aZ (m2 (aP .Mod) (m2 (aP .Mod) (aa 3) (af (.int 840))) (aa 2)))
 ai))
 ai)
 (ag (ax 5 (mN bj (ab (af (.int 48271)) (ab (af (.int 69621)) (ab (af (.int 40692)) (ab (af (.int 39373)) (ab (af (.int 16807)) (ab (af (.int 30323)) (ab (af (.int 21403)) (ab (af (.int 62089)) (ab (af (.int 45742)) (ab (af (.int 37907)) (ab (af (.int 53611)) (ab (af (.int 28411)) (ab (af (.int 59393)) (ab (af (.int 33391)) ae))))))))))))))))
 (ag (ax 6 (m2 (aP .Mod) (m2 (aP .Mult) (m2 (aP .Add) (m2 (aP .Mod) (aa 0) (af (.int 1000000007))) (af (.int 11))) (m2 az (aa 5) (m2 (aP .Mod) (aa 1) (af (.int 14))))) (af (.int 2147483629))))
 (ag (ax 7 (m2 (aP .Mod) (m2 (aP .Mult) (aa 6) (m2 (aP .Add) (aa 6) (aa 1))) (af (.int 1999999973))))
 (ag (aZ (m2 (aP .Mod) (m2 (aP .FloorDiv) (m2 (aP .Mod) (m2 (aP .Mult) (aa 7) (af (.int 16807))) (af (.int 998244353))) (af (.int 1000))) (aa 2)))
 ai))))))
def RY:ba:=bL 8 3 QF
def F1:List Mir.D->Out Rs:=pureOf RY
def QG:bb:=Nw.vc "_law_mix" F1
theorem RZ:bO QD QE (au (top 34))=true:=by decide +kernel
theorem R9:bZ Nw td (top 34) QD=some QF:=rfl
def U0:bb:=QG
noncomputable def QH:List Str:=["thing"]
noncomputable def QI:List Str:=["thing"]
def d0:SM:=
 (ag (dc (dr (m1 (eM .str) (aa 0)))
 (ag (aZ (af (.bl false)))
 ai)
 ai)
 (ag (aZ (eL (jI .LtE .LtE (af (.int 1)) (mN (aO .len) (ab (aa 0) ae)) (af (.int 8))) (mN (aO .all) (ab (bo (m2 (aw .In) (aa 0) (af (.str "abcdefghijklmnopqrstuvwxyz"))) true (af .non) (aL (aa 0)) 0 []) ae))))
 ai))
def O0:ba:=bL 1 1 d0
def U1:bb:=U0.cF "is_name" O0
theorem R_:bO QH QI (au (top 19))=true:=by decide +kernel
theorem Sa:bZ U0 td (top 19) QH=some d0:=rfl
noncomputable def QJ:List Str:=["left","name","place","row"]
noncomputable def QK:List Str:=["left","name"]
def d1:SM:=
 (ag (bX (fx [2,3]) (lS (aa 0))
 (ag (dc (m2 (aw .In) (aa 1) (cz (aa 3) false (af (.int 1)) true (af .non)))
 (ag (aZ (aa 2))
 ai)
 ai)
 ai))
 (ag (aZ (af .non))
 ai))
def O1:ba:=bL 4 2 d1
def U2:bb:=U1.cF "place_behind" O1
theorem Sb:bO QJ QK (au (top 23))=true:=by decide +kernel
theorem Sd:bZ U1 td (top 23) QJ=some d1:=rfl
noncomputable def QL:List Str:=["left","row"]
noncomputable def QM:List Str:=["left"]
def d2:SM:=
 (ag (bX (bp 1) (aL (aa 0))
 (ag (dc (eL (aa 1) (m2 (aw .Is) (mN (aG O1) (ab (aa 0) (ab (m2 az (aa 1) (af (.int 0))) ae))) (af .non)))
 (ag (aZ (m2 az (aa 1) (af (.int 0))))
 ai)
 ai)
 ai))
 (ag (aZ (af .non))
 ai))
def O2:ba:=bL 2 1 d2
def U3:bb:=U2.cF "free_name" O2
theorem Se:bO QL QM (au (top 22))=true:=by decide +kernel
theorem Sf:bZ U2 td (top 22) QL=some d2:=rfl
noncomputable def QN:List Str:=["rows","left","order","name"]
noncomputable def QO:List Str:=["rows"]
def d3:SM:=
 (ag (ax 1 (bo (mN (aO .list) (ab (aa 0) ae)) true (af .non) (aL (aa 0)) 0 []))
 (ag (ax 2 (mN bj ae))
 (ag (jd (mN (aO .any) (ab (aa 1) ae))
 (ag (ax 3 (mN (aG O2) (ab (aa 1) ae)))
 (ag (dc (m2 (aw .Is) (aa 3) (af .non))
 (ag bW
 ai)
 ai)
 (ag (bC (bQ eo bh (aa 2) (ab (aa 3) ae)))
 (ag (ax 1 (bo (vo (m2 (aw .Eq) (cz (aa 0) true (af .non) false (af (.int 1))) (mN bj (ab (aa 1) ae))) (cz (aa 0) false (af (.int 1)) true (af .non)) (aa 0)) true (af .non) (aL (aa 1)) 0 [3]))
 ai)))))
 (ag (aZ (aa 2))
 ai))))
def O3:ba:=bL 4 1 d3
def U4:bb:=U3.cF "merged" O3
theorem Sg:bO QN QO (au (top 21))=true:=by decide +kernel
theorem Sh:bZ U3 td (top 21) QN=some d3:=rfl
noncomputable def QP:List Str:=["elders","order"]
noncomputable def QQ:List Str:=["elders","order"]
def d4:SM:=
 (ag (aZ (bo (aa 0) false (eL (m2 (aw .NotIn) (aa 0) (aa 2)) (mN (aO .all) (ab (bo (m2 (aw .In) (aa 0) (aa 1)) true (af .non) (aL (m2 az (aa 1) (aa 0))) 0 [2]) ae))) (aL (aa 0)) 0 [0,1]))
 ai)
def O4:ba:=bL 2 2 d4
def U5:bb:=U4.cF "ready_kinds" O4
theorem Si:bO QP QQ (au (top 14))=true:=by decide +kernel
theorem Sj:bZ U4 td (top 14) QP=some d4:=rfl
noncomputable def QR:List Str:=["elders","order","ready"]
noncomputable def QS:List Str:=["elders"]
def d5:SM:=
 (ag (ax 1 (mN bj ae))
 (ag (ax 2 (mN (aG O4) (ab (aa 0) (ab (aa 1) ae))))
 (ag (jd (aa 2)
 (ag (bC (bQ eo fP (aa 1) (ab (aa 2) ae)))
 (ag (ax 2 (mN (aG O4) (ab (aa 0) (ab (aa 1) ae))))
 ai)))
 (ag (aZ (aa 1))
 ai))))
def O5:ba:=bL 3 1 d5
def U6:bb:=U5.cF "elders_first" O5
theorem Sk:bO QR QS (au (top 13))=true:=by decide +kernel
theorem Sl:bZ U5 td (top 13) QR=some d5:=rfl
noncomputable def QT:List Str:=["elders","order","name","left","met"]
noncomputable def QU:List Str:=["elders"]
def d6:SM:=
 (ag (ax 1 (mN (aG O5) (ab (aa 0) ae)))
 (ag (ax 3 (bo (aa 0) false (m2 (aw .NotIn) (aa 0) (aa 1)) (aL (aa 0)) 0 [1]))
 (ag (dc (dr (aa 3))
 (ag (aZ (af .non))
 ai)
 ai)
 (ag (ax 4 (mN bj ae))
 (ag (ax 2 (m2 az (aa 3) (af (.int 0))))
 (ag (jd (m2 (aw .NotIn) (aa 2) (aa 4))
 (ag (bC (bQ eo bh (aa 4) (ab (aa 2) ae)))
 (ag (ax 2 (m2 az (bo (aa 0) false (m2 (aw .In) (aa 0) (aa 1)) (aL (m2 az (aa 0) (aa 2))) 0 [3]) (af (.int 0))))
 ai)))
 (ag (aZ (cz (aa 4) false (bQ eo ei (aa 4) (ab (aa 2) ae)) true (af .non)))
 ai)))))))
def O6:ba:=bL 5 1 d6
def U7:bb:=U6.cF "loop_of" O6
theorem Sm:bO QT QU (au (top 15))=true:=by decide +kernel
theorem Sn:bZ U6 td (top 15) QT=some d6:=rfl
noncomputable def QV:List Str:=["lines","own_elders"]
noncomputable def QW:List Str:=["lines","own_elders"]
def d7:SM:=
 (ag (aZ (m2 (aP .Add) (bo (mN (aO .list) (ab (m2 az (aa 1) (aa 0)) ae)) true (af .non) (aL (aa 1)) 0 [0]) (mN bj (ab (mN (aO .list) (ab (aa 1) ae)) ae))))
 ai)
def O7:ba:=bL 2 2 d7
def U8:bb:=U7.cF "rows_by" O7
theorem So:bO QV QW (au (top 27))=true:=by decide +kernel
theorem Sq:bZ U7 td (top 27) QV=some d7:=rfl
noncomputable def QX:List Str:=["elders","ring","lines","tangles","name","refusal"]
noncomputable def QY:List Str:=["elders"]
def d8:SM:=
 (ag (ax 1 (mN (aG O6) (ab (aa 0) ae)))
 (ag (dc (m2 (aw .IsNot) (aa 1) (af .non))
 (ag bW
 ai)
 ai)
 (ag (ax 2 bY)
 (ag (ax 3 bY)
 (ag (bX (bp 4) (aL (mN (aG O5) (ab (aa 0) ae)))
 (ag (dc (mN (aO .all) (ab (bo (m2 (aw .In) (aa 0) (aa 1)) true (af .non) (aL (m2 az (aa 0) (aa 4))) 0 [2]) ae))
 (ag (ag (dO (aa 2) (aa 4) (m2 (aP .Add) (mN bj (ab (aa 4) ae)) (mN (aG O3) (ab (mN (aG O7) (ab (aa 2) (ab (m2 az (aa 0) (aa 4)) ae))) ae))))
 ai)
 ai)
 ai)
 ai))
 (ag (bX (bp 4) (aL (aa 0))
 (ag (dc (m2 (aw .In) (aa 4) (aa 3))
 (ag bW
 ai)
 ai)
 ai))
 (ag (aZ (mN kQ (ab (bo (mN iE (ab (aa 0) (ab (m2 az (aa 1) (aa 0)) ae))) true (af .non) (aL (aa 0)) 0 [2]) ae)))
 ai)))))))
def O8:ba:=bL 6 1 d8
def U9:bb:=U8.cF "lines_of" O8
theorem Sr:bO QX QY (au (top 26))=true:=by decide +kernel
theorem Ss:bZ U8 td (top 26) QX=some d8:=rfl
noncomputable def QZ:List Str:=["self"]
noncomputable def Q7:List Str:=["self"]
def d9:SM:=
 (ag (eh ["House"] "elders" (aa 0) bY)
 (ag (eh ["House"] "lines" (aa 0) bY)
 ai))
def O9:ba:=bL 1 1 d9
def Q8:bb:=U9.eU "House" "__init__" O9
theorem Su:bO QZ Q7 (au (inClass (top 31) 0))=true:=by decide +kernel
theorem Sv:bZ U9 td (inClass (top 31) 0) QZ=some d9:=rfl
def Nx:bb:=Q8.Ap "House" O9
noncomputable def Ig:List Str:=["self"]
noncomputable def Ih:List Str:=["self"]
def Q9:SM:=
 (ag (aZ (mN (aO .list) (ab (m1 (dm ["House"] "elders") (aa 0)) ae)))
 ai)
def vt:ba:=bL 1 1 Q9
def Ny:bb:=Nx.eU "House" "kinds" vt
theorem Nz:bO Ig Ih (au (inClass (top 31) 5))=true:=by decide +kernel
theorem NA:bZ Nx td (inClass (top 31) 5) Ig=some Q9:=rfl
noncomputable def Ii:List Str:=["self","name"]
noncomputable def Ij:List Str:=["self","name"]
def Q_:SM:=
 (ag (dc (m2 (aw .NotIn) (aa 1) (aF "House" "kinds" vt (aa 0) ae))
 (ag bW
 ai)
 ai)
 ai)
def vl:ba:=bL 2 2 Q_
def NB:bb:=Ny.eU "House" "check_kind" vl
theorem NC:bO Ii Ij (au (inClass (top 31) 11))=true:=by decide +kernel
theorem ND:bZ Ny td (inClass (top 31) 11) Ii=some Q_:=rfl
noncomputable def Ik:List Str:=["self","elders","place","elder"]
noncomputable def Il:List Str:=["self","elders"]
def Ra:SM:=
 (ag (dc (m2 (aw .Gt) (mN (aO .len) (ab (aa 1) ae)) (af (.int 5)))
 (ag bW
 ai)
 ai)
 (ag (bX (fx [2,3]) (lS (aa 1))
 (ag (bC (aF "House" "check_kind" vl (aa 0) (ab (aa 3) ae)))
 (ag (dc (m2 (aw .In) (aa 3) (cz (aa 1) true (af .non) false (aa 2)))
 (ag bW
 ai)
 ai)
 ai)))
 ai))
def Im:ba:=bL 4 2 Ra
def NF:bb:=NB.eU "House" "check_elders" Im
theorem NG:bO Ik Il (au (inClass (top 31) 12))=true:=by decide +kernel
theorem NI:bZ NB td (inClass (top 31) 12) Ik=some Ra:=rfl
noncomputable def Io:List Str:=["self","elders","lines"]
noncomputable def Ip:List Str:=["self","elders"]
def Rb:SM:=
 (ag (ax 2 (mN (aG O8) (ab (aa 1) ae)))
 (ag (eh ["House"] "elders" (aa 0) (aa 1))
 (ag (eh ["House"] "lines" (aa 0) (aa 2))
 ai)))
def Iq:ba:=bL 3 2 Rb
def NJ:bb:=NF.eU "House" "settle" Iq
theorem NK:bO Io Ip (au (inClass (top 31) 13))=true:=by decide +kernel
theorem NL:bZ NF td (inClass (top 31) 13) Io=some Rb:=rfl
noncomputable def Ir:List Str:=["self","name","elders","at","order"]
noncomputable def vm:List Str:=["self","name","elders","at"]
def Rc:SM:=
 (ag (dc (dr (mN (aG O0) (ab (aa 1) ae)))
 (ag bW
 ai)
 ai)
 (ag (dc (m2 (aw .In) (aa 1) (m1 (dm ["House"] "elders") (aa 0)))
 (ag bW
 ai)
 ai)
 (ag (dc (m2 (aw .GtE) (mN (aO .len) (ab (m1 (dm ["House"] "elders") (aa 0)) ae)) (af (.int 12)))
 (ag bW
 ai)
 ai)
 (ag (bC (aF "House" "check_elders" Im (aa 0) (ab (aa 2) ae)))
 (ag (ax 4 (aF "House" "kinds" vt (aa 0) ae))
 (ag (bC (bQ eo fO (aa 4) (ab (vo (m2 (aw .Is) (aa 3) (af .non)) (mN (aO .len) (ab (aa 4) ae)) (aa 3)) (ab (aa 1) ae))))
 (ag (bC (aF "House" "settle" Iq (aa 0) (ab (mN kQ (ab (bo (mN iE (ab (aa 0) (ab (vo (m2 (aw .Eq) (aa 0) (aa 2)) (mN (aO .list) (ab (aa 1) ae)) (m2 az (m1 (dm ["House"] "elders") (aa 3)) (aa 0))) ae))) true (af .non) (aL (aa 4)) 0 [2,1,0]) ae)) ae)))
 ai)))))))
def Iu:ba:=bL 5 4 Rc
def NM:bb:=NJ.eU "House" "add" (λa=>Iu (a++[.non]))
theorem NN:bO Ir vm (au (inClass (top 31) 1))=true:=by decide +kernel
theorem NO:bZ NJ td (inClass (top 31) 1) Ir=some Rc:=rfl
noncomputable def Iv:List Str:=["self","name"]
noncomputable def Iw:List Str:=["self","name"]
def Rf:SM:=
 (ag (bC (aF "House" "check_kind" vl (aa 0) (ab (aa 1) ae)))
 (ag (aZ (mN (aO .list) (ab (m2 az (m1 (dm ["House"] "elders") (aa 0)) (aa 1)) ae)))
 ai))
def Bw:ba:=bL 2 2 Rf
def NP:bb:=NM.eU "House" "elders_of" Bw
theorem NQ:bO Iv Iw (au (inClass (top 31) 6))=true:=by decide +kernel
theorem NR:bZ NM td (inClass (top 31) 6) Iv=some Rf:=rfl
noncomputable def Iy:List Str:=["self","name"]
noncomputable def Iz:List Str:=["self","name"]
def Rg:SM:=
 (ag (bC (aF "House" "check_kind" vl (aa 0) (ab (aa 1) ae)))
 (ag (aZ (bo (aa 0) false (m2 (aw .In) (aa 1) (m2 az (m1 (dm ["House"] "lines") (aa 2)) (aa 0))) (aL (m1 (dm ["House"] "elders") (aa 0))) 0 [1,0]))
 ai))
def ER:ba:=bL 2 2 Rg
def NS:bb:=NP.eU "House" "heirs" ER
theorem NT:bO Iy Iz (au (inClass (top 31) 9))=true:=by decide +kernel
theorem NU:bZ NP td (inClass (top 31) 9) Iy=some Rg:=rfl
noncomputable def ID:List Str:=["self","name"]
noncomputable def IE:List Str:=["self","name"]
def Rh:SM:=
 (ag (bC (aF "House" "check_kind" vl (aa 0) (ab (aa 1) ae)))
 (ag (aZ (mN (aO .list) (ab (m2 az (m1 (dm ["House"] "lines") (aa 0)) (aa 1)) ae)))
 ai))
def yv:ba:=bL 2 2 Rh
def NV:bb:=NS.eU "House" "line" yv
theorem NW:bO ID IE (au (inClass (top 31) 7))=true:=by decide +kernel
theorem NX:bZ NS td (inClass (top 31) 7) ID=some Rh:=rfl
noncomputable def IF:List Str:=["self","name"]
noncomputable def IG:List Str:=["self","name"]
def Ri:SM:=
 (ag (bC (aF "House" "check_kind" vl (aa 0) (ab (aa 1) ae)))
 (ag (aZ (mN (aG O7) (ab (m1 (dm ["House"] "lines") (aa 0)) (ab (m2 az (m1 (dm ["House"] "elders") (aa 0)) (aa 1)) ae))))
 ai))
def Fh:ba:=bL 2 2 Ri
def NY:bb:=NV.eU "House" "rows_of" Fh
theorem NZ:bO IF IG (au (inClass (top 31) 8))=true:=by decide +kernel
theorem N7:bZ NV td (inClass (top 31) 8) IF=some Ri:=rfl
noncomputable def IH:List Str:=["_law_cell_here","_law_many","_law_letters","_law_stem","_law_turn","_law_names_here","_law_size","_law_spot","_law_first","_law_step","_law_signs"]
noncomputable def II:List Str:=["_law_cell_here","_law_many"]
def Rj:SM:=
 (ag (ax 2 (af (.str "abcdefghijklmnopqrstuvwxyz")))
 (ag (ax 3 (bQ zU mK (af (.str "")) (ab (bo (m2 az (aa 2) (mN (bP F1) (ab (aa 1) (ab (aa 0) (ab (af (.int 26)) ae))))) true (af .non) (cO (ab (af (.int 8)) ae)) 0 [0,2]) ae)))
 (ag (ax 4 (mN (bP F1) (ab (aa 0) (ab (af (.int 8)) (ab (aa 1) ae)))))
 (ag (dc (eL (m2 (aw .LtE) (aa 1) (af (.int 8))) (m2 (aw .Eq) (mN (bP F1) (ab (aa 0) (ab (af (.int 9)) (ab (af (.int 4)) ae)))) (af (.int 1))))
 (ag (ax 5 (bo (cz (aa 1) true (af .non) false (m2 (aP .Add) (aa 0) (af (.int 1)))) true (af .non) (cO (ab (aa 1) ae)) 0 [3]))
 (ag (aZ (m2 (aP .Add) (cz (aa 5) false (aa 4) true (af .non)) (cz (aa 5) true (af .non) false (aa 4))))
 ai))
 ai)
 (ag (ax 6 (m2 (aP .Add) (af (.int 1)) (mN (bP F1) (ab (aa 0) (ab (af (.int 10)) (ab (af (.int 8)) ae))))))
 (ag (ax 7 (mN (bP F1) (ab (aa 0) (ab (af (.int 11)) (ab (aa 6) ae)))))
 (ag (ax 8 (mN (bP F1) (ab (aa 0) (ab (af (.int 12)) (ab (af (.int 26)) ae)))))
 (ag (ax 9 (m2 az (mN bj (ab (af (.int 1)) (ab (af (.int 3)) (ab (af (.int 5)) (ab (af (.int 7)) ae))))) (mN (bP F1) (ab (aa 0) (ab (af (.int 13)) (ab (af (.int 4)) ae))))))
 (ag (ax 10 (bo (m2 az (aa 2) (m2 (aP .Mod) (m2 (aP .Add) (aa 1) (m2 (aP .Mult) (aa 3) (aa 0))) (af (.int 26)))) true (af .non) (cO (ab (aa 1) ae)) 0 [8,2,9]))
 (ag (aZ (bo (m2 (aP .Add) (m2 (aP .Add) (cz (aa 3) true (af .non) false (aa 2)) (aa 0)) (cz (aa 3) false (m2 (aP .Add) (aa 2) (af (.int 1))) false (aa 1))) true (af .non) (aL (aa 10)) 0 [6,7,3]))
 ai))))))))))
def IJ:ba:=bL 11 2 Rj
def N8:bb:=NY.cF "_law_names" IJ
theorem N9:bO IH II (au (top 35))=true:=by decide +kernel
theorem N_:bZ NY td (top 35) IH=some Rj:=rfl
noncomputable def IK:List Str:=["_law_script","_law_start","_law_names_here","_law_most","_law_rows_here","_law_k","_law_cell_here","_law_row","_law_spot"]
noncomputable def IL:List Str:=["_law_script","_law_start","_law_names_here","_law_most"]
def Rk:SM:=
 (ag (ax 4 (mN bj ae))
 (ag (bX (bp 5) (cO (ab (mN (aO .len) (ab (aa 2) ae)) ae))
 (ag (ax 6 (mN (bP F0) (ab (aa 0) (ab (m2 (aP .Add) (aa 1) (aa 5)) ae))))
 (ag (ax 7 (bo (m2 az (aa 2) (aa 0)) false (m2 (aw .Eq) (mN (bP F1) (ab (aa 1) (ab (aa 0) (ab (af (.int 3)) ae)))) (af (.int 0))) (cO (ab (aa 5) ae)) 0 [6,2]))
 (ag (ax 7 (cz (aa 7) true (af .non) false (aa 3)))
 (ag (bC (bQ eo cI (aa 7) ae))
 (ag (dc (eL (m2 (aw .NotEq) (aa 7) (mN bj ae)) (m2 (aw .Eq) (mN (bP F1) (ab (aa 6) (ab (af (.int 13)) (ab (af (.int 3)) ae)))) (af (.int 1))))
 (ag (ax 8 (mN (bP F1) (ab (aa 6) (ab (af (.int 14)) (ab (mN (aO .len) (ab (aa 7) ae)) ae)))))
 (ag (ax 7 (m2 (aP .Add) (cz (aa 7) false (aa 8) true (af .non)) (cz (aa 7) true (af .non) false (aa 8))))
 ai))
 ai)
 (ag (bC (bQ eo bh (aa 4) (ab (aa 7) ae)))
 ai)))))))
 (ag (aZ (aa 4))
 ai)))
def IP:ba:=bL 9 4 Rk
def Oa:bb:=N8.cF "_law_rows" IP
theorem Ob:bO IK IL (au (top 36))=true:=by decide +kernel
theorem Oc:bZ N8 td (top 36) IK=some Rk:=rfl
noncomputable def IQ:List Str:=["_law_rows_here","_law_row","_law_left","_law_told","_law_behind","_law_name","_law_free"]
noncomputable def IS:List Str:=["_law_rows_here"]
def Rl:SM:=
 (ag (ax 2 (bo (mN (aO .list) (ab (aa 0) ae)) false (m2 (aw .NotEq) (aa 0) (mN bj ae)) (aL (aa 0)) 0 []))
 (ag (ax 3 (mN bj ae))
 (ag (jd (m2 (aw .NotEq) (aa 2) (mN bj ae))
 (ag (ax 4 bY)
 (ag (bX (bp 1) (aL (aa 2))
 (ag (bX (bp 5) (aL (cz (aa 1) false (af (.int 1)) true (af .non)))
 (ag (dO (aa 4) (aa 5) (af (.bl true)))
 ai))
 ai))
 (ag (ax 6 (bo (m2 az (aa 0) (af (.int 0))) false (m2 (aw .NotIn) (m2 az (aa 0) (af (.int 0))) (aa 1)) (aL (aa 2)) 0 [4]))
 (ag (dc (m2 (aw .Eq) (aa 6) (mN bj ae))
 (ag (aZ (af .non))
 ai)
 ai)
 (ag (bC (bQ eo bh (aa 3) (ab (m2 az (aa 6) (af (.int 0))) ae)))
 (ag (ax 2 (bo (bo (aa 0) false (m2 (aw .NotEq) (aa 0) (m2 az (aa 1) (af (.int 0)))) (aL (aa 0)) 0 [1]) true (af .non) (aL (aa 2)) 0 [6]))
 (ag (ax 2 (bo (aa 0) false (m2 (aw .NotEq) (aa 0) (mN bj ae)) (aL (aa 2)) 0 []))
 ai))))))))
 (ag (aZ (aa 3))
 ai))))
def IT:ba:=bL 7 1 Rl
def Od:bb:=Oa.cF "_law_merge" IT
theorem Oe:bO IQ IS (au (top 37))=true:=by decide +kernel
theorem Of:bZ Oa td (top 37) IQ=some Rl:=rfl
noncomputable def IU:List Str:=["_law_names_here","_law_rows_here","_law_elders","_law_lines","_law_k","_law_row","_law_behind"]
noncomputable def IV:List Str:=["_law_names_here","_law_rows_here"]
def Rm:SM:=
 (ag (ax 2 bY)
 (ag (ax 3 bY)
 (ag (bX (bp 4) (cO (ab (mN (aO .len) (ab (aa 0) ae)) ae))
 (ag (ax 5 (mN (aO .list) (ab (m2 az (aa 1) (aa 4)) ae)))
 (ag (ax 6 (mN (aG IT) (ab (m2 (aP .Add) (bo (m2 az (aa 1) (aa 0)) true (af .non) (aL (aa 5)) 0 [3]) (mN bj (ab (aa 5) ae))) ae)))
 (ag (dc (m2 (aw .Is) (aa 6) (af .non))
 (ag (ax 5 (mN bj ae))
 (ag (ax 6 (mN bj ae))
 ai))
 ai)
 (ag (dO (aa 2) (m2 az (aa 0) (aa 4)) (aa 5))
 (ag (dO (aa 3) (m2 az (aa 0) (aa 4)) (m2 (aP .Add) (mN bj (ab (m2 az (aa 0) (aa 4)) ae)) (aa 6)))
 ai))))))
 (ag (aZ (mN iE (ab (aa 2) (ab (aa 3) ae))))
 ai))))
def IW:ba:=bL 7 2 Rm
def Og:bb:=Od.cF "_law_clean" IW
theorem Oh:bO IU IV (au (top 38))=true:=by decide +kernel
theorem Oi:bZ Od td (top 38) IU=some Rm:=rfl
noncomputable def IX:List Str:=["_law_elders","_law_house","_law_name","_law_row","_law_handed"]
noncomputable def IY:List Str:=["_law_elders"]
def Rn:SM:=
 (ag (ax 1 (mN (lU "House" O9) ae))
 (ag (bX (fx [2,3]) (kS (aa 0))
 (ag (ax 4 (mN (aO .list) (ab (aa 3) ae)))
 (ag (bC (aF "House" "add" (λa=>Iu (a++[.non])) (aa 1) (ab (aa 2) (ab (aa 4) ae))))
 (ag (bC (bQ eo bh (aa 4) (ab (af (.str "zz")) ae)))
 ai))))
 (ag (aZ (aa 1))
 ai)))
def IZ:ba:=bL 5 1 Rn
def Oj:bb:=Og.cF "_law_built" IZ
theorem Ol:bO IX IY (au (top 39))=true:=by decide +kernel
theorem Om:bZ Og td (top 39) IX=some Rn:=rfl
noncomputable def I_:List Str:=["_law_found"]
noncomputable def Ja:List Str:=["_law_found"]
def Ro:SM:=
 (ag (aZ (eL (m1 (eM .list) (aa 0)) (mN (aO .all) (ab (bo (m1 (eM .str) (aa 0)) true (af .non) (aL (aa 0)) 0 []) ae))))
 ai)
def ES:ba:=bL 1 1 Ro
def Oo:bb:=Oj.cF "_law_texts" ES
theorem Oq:bO I_ Ja (au (top 40))=true:=by decide +kernel
theorem Ot:bZ Oj td (top 40) I_=some Ro:=rfl
noncomputable def Jb:List Str:=["_law_line","_law_row","_law_at","_law_name"]
noncomputable def Jc:List Str:=["_law_line","_law_row"]
def Rp:SM:=
 (ag (ax 2 (m1 wV (af (.int 1))))
 (ag (bX (bp 3) (aL (aa 1))
 (ag (dc (jR (m2 (aw .NotIn) (aa 3) (aa 0)) (m2 (aw .LtE) (bQ eo ei (aa 0) (ab (aa 3) ae)) (aa 2)))
 (ag (aZ (af (.bl false)))
 ai)
 ai)
 (ag (ax 2 (bQ eo ei (aa 0) (ab (aa 3) ae)))
 ai)))
 (ag (aZ (af (.bl true)))
 ai)))
def ET:ba:=bL 4 2 Rp
def Ou:bb:=Oo.cF "_law_keeps" ET
theorem Ov:bO Jb Jc (au (top 41))=true:=by decide +kernel
theorem Ow:bZ Oo td (top 41) Jb=some Rp:=rfl
noncomputable def Jd:List Str:=["_law_house","_law_elders","_law_name","_law_line","_law_one"]
noncomputable def Je:List Str:=["_law_house","_law_elders","_law_name"]
def Rq:SM:=
 (ag (ax 3 (aF "House" "line" yv (aa 0) (ab (aa 2) ae)))
 (ag (dc (jR (dr (mN (aG ES) (ab (aa 3) ae))) (jR (m2 (aw .NotEq) (m2 az (aa 3) (af (.int 0))) (aa 2)) (m2 (aw .NotEq) (m1 (iA ez) (aa 3)) (mN (aO .len) (ab (aa 3) ae)))))
 (ag (aZ (af (.bl false)))
 ai)
 ai)
 (ag (dc (dr (mN (aG ET) (ab (aa 3) (ab (m2 az (aa 1) (aa 2)) ae))))
 (ag (aZ (af (.bl false)))
 ai)
 ai)
 (ag (bX (bp 4) (aL (aa 3))
 (ag (dc (jR (dr (mN (aG ET) (ab (aa 3) (ab (aF "House" "line" yv (aa 0) (ab (aa 4) ae)) ae)))) (dr (mN (aG ET) (ab (aa 3) (ab (m2 az (aa 1) (aa 4)) ae)))))
 (ag (aZ (af (.bl false)))
 ai)
 ai)
 ai))
 (ag (aZ (af (.bl true)))
 ai)))))
def Jf:ba:=bL 5 3 Rq
def Ox:bb:=Ou.cF "_law_line_right" Jf
theorem Oy:bO Jd Je (au (top 42))=true:=by decide +kernel
theorem Oz:bZ Ou td (top 42) Jd=some Rq:=rfl
noncomputable def Jg:List Str:=["_law_house","_law_elders","_law_lines","_law_name"]
noncomputable def Jh:List Str:=["_law_house","_law_elders","_law_lines"]
def Ie:SM:=
 (ag (dc (m2 (aw .NotEq) (aF "House" "kinds" vt (aa 0) ae) (mN (aO .list) (ab (aa 1) ae)))
 (ag (aZ (af (.bl false)))
 ai)
 ai)
 (ag (bX (bp 3) (aL (aa 1))
 (ag (dc (jR (m2 (aw .NotEq) (aF "House" "line" yv (aa 0) (ab (aa 3) ae)) (m2 az (aa 2) (aa 3))) (m2 (aw .NotEq) (aF "House" "elders_of" Bw (aa 0) (ab (aa 3) ae)) (m2 az (aa 1) (aa 3))))
 (ag (aZ (af (.bl false)))
 ai)
 ai)
 (ag (dc (m2 (aw .NotEq) (aF "House" "heirs" ER (aa 0) (ab (aa 3) ae)) (bo (aa 0) false (m2 (aw .In) (aa 2) (m2 az (aa 1) (aa 0))) (aL (aa 1)) 0 [2,3]))
 (ag (aZ (af (.bl false)))
 ai)
 ai)
 ai)))
 (ag (aZ (af (.bl true)))
 ai)))
def Ji:ba:=bL 4 3 Ie
def OA:bb:=Ox.cF "_law_same" Ji
theorem OB:bO Jg Jh (au (top 43))=true:=by decide +kernel
theorem OC:bZ Ox td (top 43) Jg=some Ie:=rfl
noncomputable def Jj:List Str:=["_law_house","_law_name","_law_told","_law_row"]
noncomputable def Jk:List Str:=["_law_house"]
def Rr:SM:=
 (ag (bX (bp 1) (aL (aF "House" "kinds" vt (aa 0) ae))
 (ag (bX (bp 2) (aL (mN bj (ab (aF "House" "line" yv (aa 0) (ab (aa 1) ae)) (ab (aF "House" "elders_of" Bw (aa 0) (ab (aa 1) ae)) (ab (aF "House" "heirs" ER (aa 0) (ab (aa 1) ae)) (ab (aF "House" "kinds" vt (aa 0) ae) ae))))))
 (ag (bC (bQ eo cI (aa 2) ae))
 (ag (bC (bQ eo bh (aa 2) (ab (af (.str "zz")) ae)))
 ai)))
 (ag (bC (bQ eo fc (aF "House" "rows_of" Fh (aa 0) (ab (aa 1) ae)) ae))
 (ag (bX (bp 3) (aL (aF "House" "rows_of" Fh (aa 0) (ab (aa 1) ae)))
 (ag (bC (bQ eo fc (aa 3) ae))
 ai))
 ai))))
 ai)
def Jl:ba:=bL 4 1 Rr
def OD:bb:=OA.cF "_law_spoil" Jl
theorem OE:bO Jj Jk (au (top 44))=true:=by decide +kernel
theorem OF:bZ OA td (top 44) Jj=some Rr:=rfl
noncomputable def Jm:List Str:=["_law_rows_here","_law_cell_here","_law_spot","_law_some"]
noncomputable def Jn:List Str:=["_law_rows_here","_law_cell_here"]
def Rt:SM:=
 (ag (ax 2 (mN (bP F1) (ab (aa 1) (ab (af (.int 0)) (ab (m2 (aP .Add) (mN (aO .len) (ab (aa 0) ae)) (af (.int 1))) ae)))))
 (ag (ax 3 (m2 (aP .Add) (cz (aa 0) false (aa 2) true (af .non)) (cz (aa 0) true (af .non) false (aa 2))))
 (ag (dc (m2 (aw .Eq) (mN (bP F1) (ab (aa 1) (ab (af (.int 1)) (ab (af (.int 2)) ae)))) (af (.int 1)))
 (ag (bC (bQ eo cI (aa 3) ae))
 ai)
 ai)
 (ag (aZ (aa 3))
 ai))))
def Jo:ba:=bL 4 2 Rt
def Ru:bb:=OD.cF "_law_turned" Jo
theorem OG:bO Jm Jn (au (top 45))=true:=by decide +kernel
theorem OH:bZ OD td (top 45) Jm=some Rt:=rfl
noncomputable def Jp:List Str:=["_law_script","_law_many","_law_names_here","_law_elders","_law_lines","_law_house","_law_name","_law_order","_law_handed","_law_told"]
noncomputable def EU:List Str:=["_law_script"]
def Rv:SM:=
 (ag (ax 1 (m2 az (mN bj (ab (af (.int 4)) (ab (af (.int 5)) (ab (af (.int 6)) (ab (af (.int 7)) (ab (af (.int 4)) (ab (af (.int 5)) (ab (af (.int 6)) (ab (af (.int 7)) (ab (af (.int 1)) (ab (af (.int 2)) (ab (af (.int 3)) (ab (af (.int 12)) ae))))))))))))) (m2 (aP .Mod) (mN (bP F0) (ab (aa 0) (ab (af (.int 0)) ae))) (af (.int 12)))))
 (ag (ax 2 (mN (aG IJ) (ab (mN (bP F0) (ab (aa 0) (ab (af (.int 1)) ae))) (ab (aa 1) ae))))
 (ag (rp [3,4] (mN (aG IW) (ab (aa 2) (ab (mN (aG IP) (ab (aa 0) (ab (af (.int 2)) (ab (aa 2) (ab (af (.int 5)) ae))))) ae))))
 (ag (ax 5 (mN (aG IZ) (ab (aa 3) ae)))
 (ag (bX (bp 6) (aL (aa 2))
 (ag (dc (jR (dr (mN (aG ES) (ab (aF "House" "elders_of" Bw (aa 5) (ab (aa 6) ae)) ae))) (dr (mN (aG Jf) (ab (aa 5) (ab (aa 3) (ab (aa 6) ae))))))
 (ag (aZ (af (.bl false)))
 ai)
 ai)
 ai))
 (ag (ax 7 (mN (aG Jo) (ab (aa 2) (ab (mN (bP F0) (ab (aa 0) (ab (af (.int 20)) ae))) ae))))
 (ag (ax 8 bY)
 (ag (bX (bp 6) (aL (aa 7))
 (ag (dO (aa 8) (aa 6) (mN (aO .list) (ab (m2 az (aa 3) (aa 6)) ae)))
 ai))
 (ag (ax 9 (mN (aG O8) (ab (aa 8) ae)))
 (ag (dc (jR (dr (m1 (eM .dict) (aa 9))) (jR (m2 (aw .NotEq) (aa 8) (aa 3)) (jR (m2 (aw .NotEq) (mN (aO .list) (ab (aa 9) ae)) (aa 7)) (m2 (aw .NotEq) (aa 9) (aa 4)))))
 (ag (aZ (af (.bl false)))
 ai)
 ai)
 (ag (bX (bp 6) (aL (aa 2))
 (ag (bC (bQ eo bh (m2 az (aa 9) (aa 6)) (ab (af (.str "zz")) ae)))
 (ag (bC (bQ eo bh (m2 az (aa 8) (aa 6)) (ab (af (.str "zz")) ae)))
 ai)))
 (ag (bC (mN (aG Jl) (ab (aa 5) ae)))
 (ag (aZ (eL (mN (aG Ji) (ab (aa 5) (ab (aa 3) (ab (aa 4) ae)))) (m2 (aw .Eq) (mN (aG O8) (ab (aa 3) ae)) (aa 4))))
 ai)))))))))))))
def Jq:ba:=bL 10 1 Rv
theorem OI:bO Jp EU (au (top 46))=true:=by decide +kernel
theorem OJ:bZ Ru td (top 46) Jp=some Rv:=rfl
theorem Sw:F0=pureOf (bL 2 2 ou):=rfl
theorem Sx:F1=pureOf (bL 8 3 mR):=rfl
theorem o0:O0=bL 1 1 Mz:=rfl
theorem o1:O1=bL 4 2 rJ:=rfl
theorem o2:O2=bL 2 1 (AN O1):=rfl
theorem o3:∃st,O3=bL 4 1 (DK st O2):=⟨_,rfl⟩
theorem o4:O4=bL 2 2 Ms:=rfl
theorem o5:O5=bL 3 1 (Mt O4):=rfl
theorem o6:∃rest,O6=bL 5 1 (Mv O5 rest):=⟨_,rfl⟩
theorem o7:O7=bL 2 2 Mx:=rfl
theorem o8:O8=bL 6 1 (My O6 O5 O3 O7):=rfl
theorem o9:O9=bL 1 1 KC:=rfl
theorem Sy:vt=bL 1 1 MA:=rfl
theorem Sz:vl=bL 2 2 (MB vt):=rfl
theorem SA:Im=bL 4 2 (MD vl):=rfl
theorem SD:Iq=bL 3 2 (MH O8):=rfl
theorem SE:Iu=bL 5 4 (MK O0 Im vt Iq):=rfl
theorem SF:Bw=bL 2 2 (Na vl):=rfl
theorem SG:ER=bL 2 2 (Nc vl):=rfl
theorem SH:yv=bL 2 2 (ME vl):=rfl
theorem SI:Fh=bL 2 2 (MF vl O7):=rfl
theorem SJ:IJ=bL 11 2 (MZ F1):=rfl
theorem SK:IP=bL 9 4 (M_ F1 F0):=rfl
theorem SN:IT=bL 7 1 KG:=rfl
theorem SO:IW=bL 7 2 (MS IT):=rfl
theorem SQ:IZ=bL 5 1 (MU O9 Iu):=rfl
theorem SR:ES=bL 1 1 MV:=rfl
theorem SS:ET=bL 4 2 Nf:=rfl
theorem SU:Jf=bL 5 3 (Nk yv ES ET):=rfl
theorem SV:Ji=bL 4 3 (Np vt yv Bw ER):=rfl
theorem SW:Jl=bL 4 1 (Nr vt yv Bw ER Fh):=rfl
theorem SX:Jo=bL 4 2 (Ng F1):=rfl
theorem SY:Jq=bL 10 1 (EL F0 IJ IW IP IZ ES Bw Jf Jo O8 Jl Ji):=rfl
theorem yt(ns:List Int)(I:ns.length<=63):∃ao,Jq [.lst (ns.map .int)] []=.ok (.bl true) ao:=by
 obtain⟨J,b⟩:=Bj;have d:=ym;rw[←Sx]at b;rw[←Sw]at d;have F:FnAt O2:=by rw[o2,o1];exact Hc
 have G:AS O3:=by obtain⟨H,e⟩:=o3;rw[e];exact He F
 have m:AV O4:=by rw[o4];exact Hk
 have h:AW O5:=by rw[o5];exact Hl m
 have n:DO O6:=by obtain⟨H,e⟩:=o6;rw[e];exact Hm h
 have i:x9 O7:=by rw[o7];exact Ho
 have j:ya O8:=by rw[o8];exact Hq n h G i
 have o:DU O9:=by rw[o9];exact Hy
 have c:pY vt:=by rw[Sy];exact Ht
 have a:pZ vl:=by rw[Sz];exact Hu c
 have p:DS Im:=by rw[SA];exact Hv a
 have q:yd Iq:=by rw[SD];exact Hz j
 have r:DR O0:=by rw[o0];exact Hr
 have s:A8 Iu:=by rw[SE];exact HE r p c q
 have f:ow Bw:=by rw[SF];exact HV a
 have k:rX ER:=by rw[SG];exact HW a
 have g:p8 yv:=by rw[SH];exact Hw a
 have t:AZ Fh:=by rw[SI];exact Hx a i
 have u:Bk IJ:=by rw[SJ];exact HR b
 have w:Bl IP:=by rw[SK];exact HU b d
 have x:Be IT:=by rw[SN];exact HI
 have y:Bg IW:=by rw[SO];exact HJ x
 have z:Bi IZ:=by rw[SQ];exact HK o s
 have l:yk ES:=by rw[SR];exact HM
 have A:Eu ET:=by rw[SS];exact HX
 have B:Bo Jf:=by rw[SU];exact HZ g l A
 have C:Bp Ji:=by rw[SV];exact H_ c g f k
 have D:EE Jl:=by rw[SW];exact Ib c g f k t
 have E:Ew Jo:=by rw[SX];exact HY b
 rw[SY];exact yr d u y w z l f B E j D C ns
theorem all_mk{P:Program}{w:World}{K:PySem.W.Frag}{h:Heap}{mg:Str->Option Value}{fa:Addr}(X:K.In h)(G:h.Ns mainGlobals mg)(l6:mg "law"=some (.ref fa))
  (nb:sO K=true)
  {q0:Tok} (z0:PySem.W.nsIn K mainGlobals "LETTERS"=some (some (.str "abcdefghijklmnopqrstuvwxyz" q0)))
  {q1:Tok} (z1:PySem.W.nsIn K mainGlobals "MOST_LETTERS"=some (some (.int 8 q1)))
  {q2:Tok} (z2:PySem.W.nsIn K mainGlobals "MOST_KINDS"=some (some (.int 12 q2)))
  {q3:Tok} (z3:PySem.W.nsIn K mainGlobals "MOST_ELDERS"=some (some (.int 5 q3)))
  {f0:Addr}{m6:FuncData} (a0:df K "_law_cell" (top 33) f0 m6)
  {f1:Addr}{n6:FuncData} (a1:df K "_law_mix" (top 34) f1 n6)
  {i:Addr} (p6:PySem.W.nsIn K mainGlobals "House"=some (some (.ref i))) (q6:PySem.W.plainGet K i Str.empty=true) (s6:PySem.W.hasDictIn K i=true) (t6:PySem.W.plainOver K i=true) (u6:PySem.W.findIn K (.ref i) "__setattr__"=some (some (.builtin "object.__setattr__"))) (v6:PySem.W.makesIn K i=true) (w6:PySem.W.keepIn K (.ref i)=true)
  (x6:PySem.W.findIn K (.ref i) "elders"=some none)
  (y6:PySem.W.findIn K (.ref i) "lines"=some none)
  {z6:Addr}{E3:FuncData} (F3:df K "is_name" (top 19) z6 E3)
  {A6:Addr}{G3:FuncData} (H3:df K "place_behind" (top 23) A6 G3)
  {B6:Addr}{I3:FuncData} (J3:df K "free_name" (top 22) B6 I3)
  {C6:Addr}{K3:FuncData} (L3:df K "merged" (top 21) C6 K3)
  {D6:Addr}{M3:FuncData} (N3:df K "ready_kinds" (top 14) D6 M3)
  {E6:Addr}{Q3:FuncData} (R3:df K "elders_first" (top 13) E6 Q3)
  {F6:Addr}{S3:FuncData} (T3:df K "loop_of" (top 15) F6 S3)
  {G6:Addr}{W3:FuncData} (Y3:df K "rows_by" (top 27) G6 W3)
  {H6:Addr}{Z3:FuncData} (a4:df K "lines_of" (top 26) H6 Z3)
  {l0:Addr}{b4 c4:Option Addr}{e4:Array (Option Value)}{f4 g4 h4 i4 n0 j4:Value} (k4:PySem.W.findIn K (.ref i) "__init__"=some (some (.ref l0))) (I6:K.lookup l0=some ⟨f4,b4,.func (PySem.W.fnOf "__init__" "House.__init__" (bS (inClass (top 31) 0)) (bN (inClass (top 31) 0)) (au (inClass (top 31) 0)) .none g4 h4 i4 c4 n0 j4),e4⟩) (J6:PySem.W.codeIn K n0 "House.__init__"=true) (l4:PySem.W.keepIn K (.ref l0)=true)
  (i9:PySem.W.isFn K (.ref l0)=true)
  {m:Addr}{j1 k1:Option Addr}{l1:Array (Option Value)}{n1 p1 t1 u1 y w1:Value} (m4:PySem.W.findIn K (.ref i) "kinds"=some (some (.ref m))) (n4:K.lookup m=some ⟨n1,j1,.func (PySem.W.fnOf "kinds" "House.kinds" (bS (inClass (top 31) 5)) (bN (inClass (top 31) 5)) (au (inClass (top 31) 5)) .none p1 t1 u1 k1 y w1),l1⟩) (p4:PySem.W.codeIn K y "House.kinds"=true) (p0:PySem.W.keepIn K (.ref m)=true)
  (K6:PySem.W.isFn K (.ref m)=true)
  {n:Addr}{x1 y1:Option Addr}{A1:Array (Option Value)}{B1 C1 D1 G1 z H1:Value} (q4:PySem.W.findIn K (.ref i) "check_kind"=some (some (.ref n))) (s4:K.lookup n=some ⟨B1,x1,.func (PySem.W.fnOf "check_kind" "House.check_kind" (bS (inClass (top 31) 11)) (bN (inClass (top 31) 11)) (au (inClass (top 31) 11)) .none C1 D1 G1 y1 z H1),A1⟩) (t4:PySem.W.codeIn K z "House.check_kind"=true) (s0:PySem.W.keepIn K (.ref n)=true)
  (L6:PySem.W.isFn K (.ref n)=true)
  {o:Addr}{I1 J1:Option Addr}{K1:Array (Option Value)}{M1 N1 P1 Q1 A R1:Value} (u4:PySem.W.findIn K (.ref i) "check_elders"=some (some (.ref o))) (v4:K.lookup o=some ⟨M1,I1,.func (PySem.W.fnOf "check_elders" "House.check_elders" (bS (inClass (top 31) 12)) (bN (inClass (top 31) 12)) (au (inClass (top 31) 12)) .none N1 P1 Q1 J1 A R1),K1⟩) (w4:PySem.W.codeIn K A "House.check_elders"=true) (t0:PySem.W.keepIn K (.ref o)=true)
  (M6:PySem.W.isFn K (.ref o)=true)
  {p:Addr}{S1 T1:Option Addr}{W1:Array (Option Value)}{Z1 a2 b2 c2 B e2:Value} (x4:PySem.W.findIn K (.ref i) "settle"=some (some (.ref p))) (y4:K.lookup p=some ⟨Z1,S1,.func (PySem.W.fnOf "settle" "House.settle" (bS (inClass (top 31) 13)) (bN (inClass (top 31) 13)) (au (inClass (top 31) 13)) .none a2 b2 c2 T1 B e2),W1⟩) (z4:PySem.W.codeIn K B "House.settle"=true) (u0:PySem.W.keepIn K (.ref p)=true)
  (N6:PySem.W.isFn K (.ref p)=true)
  {m0:Addr}{v0:Obj}{A4:Nat}
  {j:Addr}{f2 C:Option Addr}{g2:Array (Option Value)}{h2 D E F k H:Value} (B4:PySem.W.findIn K (.ref i) "add"=some (some (.ref j))) (C4:K.lookup j=some ⟨h2,f2,.func (PySem.W.fnOf "add" "House.add" (bS (inClass (top 31) 1)) (bN (inClass (top 31) 1)) (au (inClass (top 31) 1)) (.ref m0) D E F C k H),g2⟩) (D4:PySem.W.codeIn K k "House.add"=true) (w0:PySem.W.keepIn K (.ref j)=true)
  (E4:K.lookup m0=some v0) (F4:v0.data=.seq #[.none] A4)
  (P6:PySem.W.isFn K (.ref j)=true)
  {q:Addr}{i2 j2:Option Addr}{k2:Array (Option Value)}{l2 n2 p2 t2 I u2:Value} (G4:PySem.W.findIn K (.ref i) "elders_of"=some (some (.ref q))) (H4:K.lookup q=some ⟨l2,i2,.func (PySem.W.fnOf "elders_of" "House.elders_of" (bS (inClass (top 31) 6)) (bN (inClass (top 31) 6)) (au (inClass (top 31) 6)) .none n2 p2 t2 j2 I u2),k2⟩) (I4:PySem.W.codeIn K I "House.elders_of"=true) (x0:PySem.W.keepIn K (.ref q)=true)
  (Q6:PySem.W.isFn K (.ref q)=true)
  {r:Addr}{w2 x2:Option Addr}{y2:Array (Option Value)}{A2 B2 C2 D2 J E2:Value} (J4:PySem.W.findIn K (.ref i) "heirs"=some (some (.ref r))) (K4:K.lookup r=some ⟨A2,w2,.func (PySem.W.fnOf "heirs" "House.heirs" (bS (inClass (top 31) 9)) (bN (inClass (top 31) 9)) (au (inClass (top 31) 9)) .none B2 C2 D2 x2 J E2),y2⟩) (L4:PySem.W.codeIn K J "House.heirs"=true) (y0:PySem.W.keepIn K (.ref r)=true)
  (R6:PySem.W.isFn K (.ref r)=true)
  {t:Addr}{F2 G2:Option Addr}{H2:Array (Option Value)}{I2 J2 K2 M2 L N2:Value} (M4:PySem.W.findIn K (.ref i) "line"=some (some (.ref t))) (N4:K.lookup t=some ⟨I2,F2,.func (PySem.W.fnOf "line" "House.line" (bS (inClass (top 31) 7)) (bN (inClass (top 31) 7)) (au (inClass (top 31) 7)) .none J2 K2 M2 G2 L N2),H2⟩) (P4:PySem.W.codeIn K L "House.line"=true) (A0:PySem.W.keepIn K (.ref t)=true)
  (S6:PySem.W.isFn K (.ref t)=true)
  {u:Addr}{P2 Q2:Option Addr}{S2:Array (Option Value)}{T2 W2 Z2 a3 M b3:Value} (Q4:PySem.W.findIn K (.ref i) "rows_of"=some (some (.ref u))) (R4:K.lookup u=some ⟨T2,P2,.func (PySem.W.fnOf "rows_of" "House.rows_of" (bS (inClass (top 31) 8)) (bN (inClass (top 31) 8)) (au (inClass (top 31) 8)) .none W2 Z2 a3 Q2 M b3),S2⟩) (S4:PySem.W.codeIn K M "House.rows_of"=true) (B0:PySem.W.keepIn K (.ref u)=true)
  (T6:PySem.W.isFn K (.ref u)=true)
  {T4:Addr}{c3:FuncData} (D0:df K "_law_names" (top 35) T4 c3)
  {W4:Addr}{e3:FuncData} (G0:df K "_law_rows" (top 36) W4 e3)
  {Y4:Addr}{f3:FuncData} (I0:df K "_law_merge" (top 37) Y4 f3)
  {Z4:Addr}{g3:FuncData} (J0:df K "_law_clean" (top 38) Z4 g3)
  {a5:Addr}{h3:FuncData} (K0:df K "_law_built" (top 39) a5 h3)
  {b5:Addr}{i3:FuncData} (L0:df K "_law_texts" (top 40) b5 i3)
  {c5:Addr}{j3:FuncData} (M0:df K "_law_keeps" (top 41) c5 j3)
  {e5:Addr}{k3:FuncData} (N0:df K "_law_line_right" (top 42) e5 k3)
  {f5:Addr}{l3:FuncData} (P0:df K "_law_same" (top 43) f5 l3)
  {g5:Addr}{m3:FuncData} (Q0:df K "_law_spoil" (top 44) g5 m3)
  {h5:Addr}{n3:FuncData} (R0:df K "_law_turned" (top 45) h5 n3)
  {N:Addr}{p3 O:Option Addr}{s3:Array (Option Value)}{t3 Q R S l T:Value} (i5:PySem.W.nsIn K mainGlobals "law"=some (some (.ref N))) (j5:K.lookup N=some ⟨t3,p3,.func (PySem.W.fnOf "law" "law" (bS (top 46)) (bN (top 46)) (au (top 46)) .none Q R S O l T),s3⟩) (k5:PySem.W.codeIn K l "law"=true) (l5:PySem.W.keepIn K (.ref N)=true)
  : ∃fd:FuncData,(∀(s:Shared) (v:Value),BindsTo s fd ⟨[v],[]⟩ [("_law_script",v)])/\∀base:Heap,K.In base->base.Ns mainGlobals mg->c_ P w K mg base jO 34 fa fd EU (dX (eT mg) Jq):=by
 have e:=l6.symm.trans (PySem.W.mg_of X G i5);cases e;have E0:=a0.fn;have b0:=E0.binds (ps:=QB) λ_ _ _ _ _ _ a b=>match a,b with|[_,_],_=>rfl
 have E1:=a1.fn;have b1:=E1.binds (ps:=QE) λ_ _ _ _ _ _ a b=>match a,b with|[_,_,_],_=>rfl
 have u3:=F3.fn;have W6:=u3.binds (ps:=QI) λ_ _ _ _ _ _ a b=>match a,b with|[_],_=>rfl
 have v3:=H3.fn;have Y6:=v3.binds (ps:=QK) λ_ _ _ _ _ _ a b=>match a,b with|[_,_],_=>rfl
 have w3:=J3.fn;have Z6:=w3.binds (ps:=QM) λ_ _ _ _ _ _ a b=>match a,b with|[_],_=>rfl
 have x3:=L3.fn;have a7:=x3.binds (ps:=QO) λ_ _ _ _ _ _ a b=>match a,b with|[_],_=>rfl
 have y3:=N3.fn;have b7:=y3.binds (ps:=QQ) λ_ _ _ _ _ _ a b=>match a,b with|[_,_],_=>rfl
 have A3:=R3.fn;have c7:=A3.binds (ps:=QS) λ_ _ _ _ _ _ a b=>match a,b with|[_],_=>rfl
 have B3:=T3.fn;have e7:=B3.binds (ps:=QU) λ_ _ _ _ _ _ a b=>match a,b with|[_],_=>rfl
 have C3:=Y3.fn;have f7:=C3.binds (ps:=QW) λ_ _ _ _ _ _ a b=>match a,b with|[_,_],_=>rfl
 have D3:=a4.fn;have g7:=D3.binds (ps:=QY) λ_ _ _ _ _ _ a b=>match a,b with|[_],_=>rfl
 have m5:=eA (st:=(inClass (top 31) 0)) I6 J6 l4;have n5:=m5.binds (ps:=Q7) λ_ _ _ _ _ _ a b=>match a,b with|[_],_=>rfl
 have S0:=eA (st:=(inClass (top 31) 5)) n4 p4 p0;have p5:=S0.binds (ps:=Ih) λ_ _ _ _ _ _ a b=>match a,b with|[_],_=>rfl
 have T0:=eA (st:=(inClass (top 31) 11)) s4 t4 s0;have q5:=T0.binds (ps:=Ij) λ_ _ _ _ _ _ a b=>match a,b with|[_,_],_=>rfl
 have W0:=eA (st:=(inClass (top 31) 12)) v4 w4 t0;have s5:=W0.binds (ps:=Il) λ_ _ _ _ _ _ a b=>match a,b with|[_,_],_=>rfl
 have c1:=eA (st:=(inClass (top 31) 13)) y4 z4 u0;have t5:=c1.binds (ps:=Ip) λ_ _ _ _ _ _ a b=>match a,b with|[_,_],_=>rfl
 have u5:Hf K "add" "House.add" (inClass (top 31) 1) (.ref m0) j _:=⟨⟨_,_,_,_,_,_,_,_,_,rfl,C4,D4⟩,w0⟩
 have v5:Binds K (PySem.W.fnOf "add" "House.add" (bS (inClass (top 31) 1)) (bN (inClass (top 31) 1)) (au (inClass (top 31) 1)) (.ref m0) D E F C k H) vm [.none]:=λs a hi b=>by
  match a,b with
  |[],h=>simp[vm]at h
  |[_],h=>simp[vm]at h
  |[_,_],h=>simp[vm]at h
  |[_,_,_],_=>exact PySem.W.binds_K hi rfl E4 F4 rfl rfl
  |_::_::_::_::_,h=>simp[vm]at h
 have e1:=eA (st:=(inClass (top 31) 6)) H4 I4 x0;have w5:=e1.binds (ps:=Iw) λ_ _ _ _ _ _ a b=>match a,b with|[_,_],_=>rfl
 have g1:=eA (st:=(inClass (top 31) 9)) K4 L4 y0;have x5:=g1.binds (ps:=Iz) λ_ _ _ _ _ _ a b=>match a,b with|[_,_],_=>rfl
 have h1:=eA (st:=(inClass (top 31) 7)) N4 P4 A0;have y5:=h1.binds (ps:=IE) λ_ _ _ _ _ _ a b=>match a,b with|[_,_],_=>rfl
 have i1:=eA (st:=(inClass (top 31) 8)) R4 S4 B0;have z5:=i1.binds (ps:=IG) λ_ _ _ _ _ _ a b=>match a,b with|[_,_],_=>rfl
 have U:=D0.fn;have A5:=U.binds (ps:=II) λ_ _ _ _ _ _ a b=>match a,b with|[_,_],_=>rfl
 have V:=G0.fn;have B5:=V.binds (ps:=IL) λ_ _ _ _ _ _ a b=>match a,b with|[_,_,_,_],_=>rfl
 have Y:=I0.fn;have C5:=Y.binds (ps:=IS) λ_ _ _ _ _ _ a b=>match a,b with|[_],_=>rfl
 have Z:=J0.fn;have D5:=Z.binds (ps:=IV) λ_ _ _ _ _ _ a b=>match a,b with|[_,_],_=>rfl
 have c0:=K0.fn;have E5:=c0.binds (ps:=IY) λ_ _ _ _ _ _ a b=>match a,b with|[_],_=>rfl
 have e0:=L0.fn;have F5:=e0.binds (ps:=Ja) λ_ _ _ _ _ _ a b=>match a,b with|[_],_=>rfl
 have g0:=M0.fn;have G5:=g0.binds (ps:=Jc) λ_ _ _ _ _ _ a b=>match a,b with|[_,_],_=>rfl
 have h0:=N0.fn;have H5:=h0.binds (ps:=Je) λ_ _ _ _ _ _ a b=>match a,b with|[_,_,_],_=>rfl
 have i0:=P0.fn;have I5:=i0.binds (ps:=Jh) λ_ _ _ _ _ _ a b=>match a,b with|[_,_,_],_=>rfl
 have j0:=Q0.fn;have J5:=j0.binds (ps:=Jk) λ_ _ _ _ _ _ a b=>match a,b with|[_],_=>rfl
 have k0:=R0.fn;have K5:=k0.binds (ps:=Jn) λ_ _ _ _ _ _ a b=>match a,b with|[_,_],_=>rfl
 have L5:=eA (st:=(top 46)) j5 k5 l5;refine⟨PySem.W.fnOf "law" "law" (bS (top 46)) (bN (top 46)) (au (top 46)) .none Q R S O l T,λs v=>.of_eq rfl,λbase _ _=>?_⟩
 have c:=PySem.W.mg_of X G p6;have g:oH K i:=⟨q6,s6,t6,u6⟩;have V0:bA P w K mg base ({}:bb) 0:=bA.start (wO X G nb);have V1:=V0.lW (x:="MOST_ELDERS") (d:=.int 5) (v:=.int 5) (PySem.W.mg_of X G z3) ⟨_,rfl⟩ rfl;have V2:=V1.lW (x:="MOST_KINDS") (d:=.int 12) (v:=.int 12) (PySem.W.mg_of X G z2) ⟨_,rfl⟩ rfl;have V3:=V2.lW (x:="MOST_LETTERS") (d:=.int 8) (v:=.int 8) (PySem.W.mg_of X G z1) ⟨_,rfl⟩ rfl;have V4:=V3.lW (x:="LETTERS") (d:=.str "abcdefghijklmnopqrstuvwxyz") (v:=.str "abcdefghijklmnopqrstuvwxyz") (PySem.W.mg_of X G z0) ⟨_,rfl⟩ rfl;have V5:=V4.vd (f:="elders") (Cs:=["House"]) (plain1 c g x6);have V6:=V5.vd (f:="lines") (Cs:=["House"]) (plain1 c g y6);have Y0:bA P w K mg base Nv 0:=V6;have q0:=bc Y0 E0 RW RX;have Y1:bA P w K mg base Nw 1:=(Y0.mono (Nat.le_succ 0)).vc (x:="_law_cell") (PySem.W.mg_of X G a0.ns) E0.kp b0 (tF q0) (Nat.le_refl _);have q1:=bc Y1 E1 RZ R9;have Y2:bA P w K mg base QG 2:=(Y1.mono (Nat.le_succ 1)).vc (x:="_law_mix") (PySem.W.mg_of X G a1.ns) E1.kp b1 (tF q1) (Nat.le_refl _);have X0:bA P w K mg base U0 2:=Y2;have r0:=bc X0 u3 R_ Sa;have X1:bA P w K mg base U1 3:=X0.cF (PySem.W.mg_of X G F3.ns) u3.kp W6 r0;have r1:=bc X1 v3 Sb Sd;have X2:bA P w K mg base U2 4:=X1.cF (PySem.W.mg_of X G H3.ns) v3.kp Y6 r1;have r2:=bc X2 w3 Se Sf;have X3:bA P w K mg base U3 5:=X2.cF (PySem.W.mg_of X G J3.ns) w3.kp Z6 r2;have r3:=bc X3 x3 Sg Sh;have X4:bA P w K mg base U4 6:=X3.cF (PySem.W.mg_of X G L3.ns) x3.kp a7 r3;have r4:=bc X4 y3 Si Sj;have X5:bA P w K mg base U5 7:=X4.cF (PySem.W.mg_of X G N3.ns) y3.kp b7 r4;have r5:=bc X5 A3 Sk Sl;have X6:bA P w K mg base U6 8:=X5.cF (PySem.W.mg_of X G R3.ns) A3.kp c7 r5;have r6:=bc X6 B3 Sm Sn;have X7:bA P w K mg base U7 9:=X6.cF (PySem.W.mg_of X G T3.ns) B3.kp e7 r6;have r7:=bc X7 C3 So Sq;have X8:bA P w K mg base U8 10:=X7.cF (PySem.W.mg_of X G Y3.ns) C3.kp f7 r7;have r8:=bc X8 D3 Sr Ss;have X9:bA P w K mg base U9 11:=X8.cF (PySem.W.mg_of X G a4.ns) D3.kp g7 r8;have r9:=bc X9 m5 Su Sv;have h7:bA P w K mg base Q8 12:=X9.eU c g ⟨k4,i9,l4⟩ n5 r9;have M5:bA P w K mg base Nx 13:=h7.Ap c ⟨v6,k4,i9,w6⟩ n5 r9 (by decide)
 have i7:=bc M5 S0 Nz NA;have N5:bA P w K mg base Ny 14:=M5.eU c g ⟨m4,K6,p0⟩ p5 i7;have j7:=bc N5 T0 NC ND;have P5:bA P w K mg base NB 15:=N5.eU c g ⟨q4,L6,s0⟩ q5 j7;have k7:=bc P5 W0 NG NI;have Q5:bA P w K mg base NF 16:=P5.eU c g ⟨u4,M6,t0⟩ s5 k7;have l7:=bc Q5 c1 NK NL;have R5:bA P w K mg base NJ 17:=Q5.eU c g ⟨x4,N6,u0⟩ t5 l7;have m7:=AU R5 u5 NN NO;have S5:bA P w K mg base NM 18:=R5.Gs (Dd:=[.non]) c g ⟨B4,P6,w0⟩ v5 (.cons (show RelV .non Value.none from rfl) .nil) (λ_ _ _=>.one (by simp only[aq])) m7
 have n7:=bc S5 e1 NQ NR;have T5:bA P w K mg base NP 19:=S5.eU c g ⟨G4,Q6,x0⟩ w5 n7;have p7:=bc T5 g1 NT NU;have W5:bA P w K mg base NS 20:=T5.eU c g ⟨J4,R6,y0⟩ x5 p7;have q7:=bc W5 h1 NW NX;have Y5:bA P w K mg base NV 21:=W5.eU c g ⟨M4,S6,A0⟩ y5 q7;have s7:=bc Y5 i1 NZ N7;have Z5:bA P w K mg base NY 22:=Y5.eU c g ⟨Q4,T6,B0⟩ z5 s7;have t7:=bc Z5 U N9 N_;have a6:bA P w K mg base N8 23:=Z5.cF (PySem.W.mg_of X G D0.ns) U.kp A5 t7;have u7:=bc a6 V Ob Oc;have b6:bA P w K mg base Oa 24:=a6.cF (PySem.W.mg_of X G G0.ns) V.kp B5 u7;have v7:=bc b6 Y Oe Of;have c6:bA P w K mg base Od 25:=b6.cF (PySem.W.mg_of X G I0.ns) Y.kp C5 v7;have w7:=bc c6 Z Oh Oi;have e6:bA P w K mg base Og 26:=c6.cF (PySem.W.mg_of X G J0.ns) Z.kp D5 w7;have x7:=bc e6 c0 Ol Om;have f6:bA P w K mg base Oj 27:=e6.cF (PySem.W.mg_of X G K0.ns) c0.kp E5 x7;have y7:=bc f6 e0 Oq Ot;have g6:bA P w K mg base Oo 28:=f6.cF (PySem.W.mg_of X G L0.ns) e0.kp F5 y7;have z7:=bc g6 g0 Ov Ow;have h6:bA P w K mg base Ou 29:=g6.cF (PySem.W.mg_of X G M0.ns) g0.kp G5 z7;have A7:=bc h6 h0 Oy Oz;have i6:bA P w K mg base Ox 30:=h6.cF (PySem.W.mg_of X G N0.ns) h0.kp H5 A7;have B7:=bc i6 i0 OB OC;have j6:bA P w K mg base OA 31:=i6.cF (PySem.W.mg_of X G P0.ns) i0.kp I5 B7;have C7:=bc j6 j0 OE OF;have k6:bA P w K mg base OD 32:=j6.cF (PySem.W.mg_of X G Q0.ns) j0.kp J5 C7;have D7:=bc k6 k0 OG OH;have E7:bA P w K mg base Ru 33:=k6.cF (PySem.W.mg_of X G R0.ns) k0.kp K5 D7;have F7:=bc E7 L5 OI OJ;exact F7
theorem walk{l:PySem.W.OpenLaw}{q:Program}{g:List Str}{p:(Str->Option Value)->Heap->Prop}{o:World->Heap->Prop}{d:DefRec}{K:Params->PySem.W.Frag}(r:l.most=some 63)(m:d.params.defaults=[])
  (t:∀(w:World) (h:Heap),o w h->(K w.params).In h) (y:∀A,ph (K A)=true)
  (F:∀(w:World) (mg:Str->Option Value) (i:Addr) (h:Heap),(K w.params).In h->h.Ns mainGlobals mg->mg d.name=some (.ref i) ->
   ∃j:FuncData,(∀(s:Shared) (u:Value),BindsTo s j ⟨[u],[]⟩ [("_law_script",u)])/\∀base:Heap,(K w.params).In base->base.Ns mainGlobals mg->c_ l.prog w (K w.params) mg base jO 34 i j EU (dX (eT mg) Jq)) :
  PySem.W.WalkO q g p o l.row.toRowW d [] (λf vs=>PySem.call f vs):=
 L2.yX (n:=63) (k:=34) (x:="_law_script") (CX:=λ_=>jO) (sp:=λw=>Gu Jq) r (by decide) m ⟨rfl,by decide,by decide⟩ t (λw mg i h a b c=>let ⟨j,B,C⟩:=F w mg i h a b c;⟨j,B,λbase d e=>(C base d e).imp λvs H Q E z=>z (eT mg)⟩) (λw H a D G _ I J=>Ao (Ga (y w.params) I) (yt D G).choose_spec) λ_ _ _ _ _ z=>z
end EN
def PySem.W.Fast.tw16589451577311642364:PySem.Program:=PySem.Challenge.pw_taglook_k21_lines_keep_rows
theorem PySem.W.Fast.te16589451577311642364:PySem.Challenge.pw_taglook_k21_lines_keep_rows=PySem.W.Fast.tw16589451577311642364:=rfl
def PySem.W.Fast.tw4772018322348489386:Nat:=0
def PySem.W.Fast.tw10195176014287644016:Nat:=0
def PySem.W.Fast.tw14886805723280650706:Nat:=0
def PySem.W.Fast.tw2868475897706434148:Nat:=0
def PySem.W.Fast.tw2300480439811912934:Nat:=0
def PySem.W.Fast.tw402928857547752943:Nat:=0
def PySem.W.Fast.tw14178316758302130167:Nat:=0
def PySem.W.Fast.tw12778481585674565720:Nat:=0
def PySem.W.Fast.tw6018454822065505891:Nat:=0
def PySem.W.Fast.tw11485668796532811605:Nat:=0
def PySem.W.Fast.tw172643157927432574:Nat:=0
def PySem.W.Fast.tw12120227082897142452:Nat:=0
def PySem.W.Fast.tw17700459649095999631:Nat:=0
def PySem.W.Fast.tw2734873378212760646:Nat:=0
def PySem.W.Fast.tw16845298919056483010:Nat:=0
def PySem.W.Fast.tw12121055627488909901:Nat:=0
def PySem.W.Fast.tw3281376719801888693:Nat:=0
def PySem.W.Fast.tw8332007818076657536:Nat:=0
def PySem.W.Fast.tw1610864520753503435:Nat:=0
def PySem.W.Fast.tw1688974104932260413:Nat:=0
def PySem.W.Fast.tw11777467660173246651:Nat:=0
def PySem.W.Fast.tw11803492834638652085:Nat:=0
def PySem.W.Fast.tw1991587169045782313:Nat:=0
def PySem.W.Fast.tw14124738299864037506:Nat:=0
def PySem.W.Fast.tw17046383134421819175:Nat:=0
def PySem.W.Fast.tw2895170142020983707:Nat:=0
def PySem.W.Fast.tw9684922526563871453:Nat:=0
def PySem.W.Fast.tw952962096951148335:Nat:=0
def PySem.W.Fast.tw6427980755855699780:Nat:=0
def PySem.W.Fast.tw2161856970344875272:Nat:=0
open PySem PySem.W PyProof.Rows
set_option maxRecDepth 100000 in
set_option maxHeartbeats 0 in
theorem PySem.Challenge.cw_taglook_k21_lines_keep_rows_holds : PySem.Challenge.rw_taglook_k21_lines_keep_rows.Holds := by
 w_on;o_law;k_head;(case hw=>w_witness2)
 k_fill
 refine EN.walk (l:=PySem.Challenge.rw_taglook_k21_lines_keep_rows) rfl rfl (λw h Y=>PySem.W.kIn_of Y) ?hK ?F
 case hK=>intro pm;exact(Eq.refl true)
 case F=>
  intro w mg fa h KX G hmg;refine' EN.all_mk KX G hmg ?nb ?z0 ?z1 ?z2 ?z3 ?a0 ?a1 ?S7 ?S8 ?hd0 ?S9 ?S_ ?Ta ?Tb ?Tc ?Td ?Te ?Tf ?Tg ?Th ?Ti ?Tj ?Tn ?To ?Tp ?Tq ?Ts ?Tt ?Tu ?i9 ?OK ?OL ?OM ?ON ?Tv ?OO ?OP ?OQ ?OR ?i12 ?OS ?OT ?OU ?OV ?Tw ?OW ?OX ?OY ?OZ ?Tx ?O_ ?Pa ?Pb ?Pc ?Pd ?Pe ?Tz ?Pf ?Pg ?Ph ?Pj ?TB ?Pk ?Pl ?Pm ?Pn ?TC ?Po ?Pp ?Pq ?Pr ?TF ?Pt ?Pu ?Pw ?Px ?TH ?Py ?Pz ?PB ?PC ?PD ?PF ?PH ?PJ ?PK ?PL ?PM ?PN ?PQ ?PR ?PU
  (case nb=>exact(Eq.refl true))
  (case z0 |z1 |z2 |z3=>k_is)
  (case a0 |a1=>refine' Mir.lB ?a ?l ?c ?k;(case a=>k_is);(case l=>k_is);(case c=>k_is);(case k=>k_is))
  (case S7 |S8 |hd0 |S9 |S_ |Ta |Tb |Tc |Td=>k_is)
  (case Te |Tf |Tg |Th |Ti |Tj |Tn |To |Tp=>refine' Mir.lB ?a ?l ?c ?k;(case a=>k_is);(case l=>k_is);(case c=>k_is);(case k=>k_is))
  (case Tq |Ts |Tt |Tu |i9 |OK |OL |OM |ON |Tv |OO |OP |OQ |OR |i12 |OS |OT |OU |OV |Tw |OW |OX |OY |OZ |Tx |O_ |Pa |Pb |Pc |Pd=>k_is)
  (case Pe=>rfl)
  (case Tz |Pf |Pg |Ph |Pj |TB |Pk |Pl |Pm |Pn |TC |Po |Pp |Pq |Pr |TF |Pt |Pu |Pw |Px |TH=>k_is)
  (case Py |Pz |PB |PC |PD |PF |PH |PJ |PK |PL |PM=>refine' Mir.lB ?a ?l ?c ?k;(case a=>k_is);(case l=>k_is);(case c=>k_is);(case k=>k_is))
  (case PN |PQ |PR |PU=>k_is)
