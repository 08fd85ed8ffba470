import PyProof.Rows.All
import Wide.All
import OpenK.AllK
import Wide.FinOn
import Lean
import PyProof.EqAt
import PyProof.EqKinds
import PyProof.TupleCall
import PyProof.EnumFor
import PyProof.EnumMake
import PyProof.EnumStmt
import PyProof.Rows.EnumRows
import PyProof.RulesTry
import PyProof.Rows.StrWeight2
import PyProof.AutoListH
import PyProof.Draws
import PyProof.Rows.SortStr
import PyProof.Rows.SortShell
import PyProof.Rows.SortWalk
import PyProof.Rows.StrMeet
import PyProof.StrBlock2
import KE.KEqDict
import PyProof.DictIter
import PyProof.DictWalks
import KE.KDictOf
import PyProof.AttrMissSeq
import PyProof.ListRange
import PyProof.DictItems
import PyProof.DictValues
import PyProof.FitsReplace
import PySem.Challenge.RW_taglook_k64_one_shape_for_one_row
set_option Elab.async false
set_option bootstrap.genMatcherCode false
set_option genSizeOfSpec false
set_option linter.all false
set_option maxRecDepth 100000
noncomputable section
namespace L2
open PySem PySem.Spec PyProof.Rows
abbrev Key:=Sum Int Str
noncomputable def kz:Key->Value->Bool
 |.inl k,v=>Value.isInt k v
 |.inr x,v=>Value.isStrOf x v
noncomputable def LA(w:World):Key->Int
 |.inl k=>hashInt k
 |.inr x=>hashStr w x
theorem bW:∀{k:Key}{v:Value},kz k v=true->(∃i t,k=Sum.inl i/\v=Value.int i t)\/(∃x t,k=Sum.inr x/\v=Value.str x t)
 |.inl i,v,h=>by
  obtain⟨t,e⟩:=Value.isInt_shape (k:=i) (v:=v) h;exact .inl ⟨i,t,rfl,e⟩
 |.inr x,v,h=>by
  obtain⟨t,e⟩:=Value.isStrOf_shape (x:=x) (v:=v) h;exact .inr ⟨x,t,rfl,e⟩
theorem uC(i:Int)(t:Tok):kz (.inl i) (.int i t)=true:=by simp[kz,Value.isInt]
theorem uD(x:Str)(t:Tok):kz (.inr x) (.str x t)=true:=by simp[kz,Value.isStrOf]
theorem C4(a b:Int):decide ((Sum.inl a:Key)=Sum.inl b)=(a==b):=by
 by_cases e:a=b
 .subst e;simp
 .have h:¬ (Sum.inl a:Key)=Sum.inl b:=λq=>e (Sum.inl.inj q)
  rw[decide_eq_false h];exact(beq_eq_false_iff_ne.mpr e).symm
theorem C5(a b:Str):decide ((Sum.inr a:Key)=Sum.inr b)=decide (a=b):=by
 by_cases e:a=b
 .subst e;simp
 .have h:¬ (Sum.inr a:Key)=Sum.inr b:=λq=>e (Sum.inr.inj q)
  rw[decide_eq_false h,decide_eq_false e]
theorem C8(a:Int)(b:Str):decide ((Sum.inl a:Key)=Sum.inr b)=false:=decide_eq_false (λq=>nomatch q)
theorem C9(a:Str)(b:Int):decide ((Sum.inr a:Key)=Sum.inl b)=false:=decide_eq_false (λq=>nomatch q)
def bt(prog:Program)(w:World):PySem.KeyKind prog w Key where
 is:=kz
 hash:=LA w
 inj:=λv a b g f=>by
  rcases bW g with ⟨i,t,rfl,rfl⟩|⟨x,t,rfl,rfl⟩
  .rcases bW f with ⟨j,u,rfl,e⟩|⟨y,u,rfl,e⟩
   .injection e with c _;rw[c]
   .exact nomatch e
  .rcases bW f with ⟨j,u,rfl,e⟩|⟨y,u,rfl,e⟩
   .exact nomatch e
   .injection e with c _;rw[c]
 byValue:=λk v h=>by
  rcases bW h with ⟨i,t,rfl,rfl⟩|⟨x,t,rfl,rfl⟩<;>rfl
 pyHash:=λd h=>by
  rcases bW d with ⟨i,t,rfl,rfl⟩|⟨x,t,rfl,rfl⟩
  .exact wpAny_pyHash_int h
  .exact wpAny_pyHash_str h
 eqBool:=λl d h=>by
  rcases bW l with ⟨i,t,rfl,rfl⟩|⟨x,t,rfl,rfl⟩
  .rcases bW d with ⟨j,u,rfl,rfl⟩|⟨y,u,rfl,rfl⟩
   .rw[C4]at h;exact wpAny_eqBool_int h
   .rw[C8]at h;exact SeqAt.EqAt.int_str i t y u _ _ _ _ h
  .rcases bW d with ⟨j,u,rfl,rfl⟩|⟨y,u,rfl,rfl⟩
   .rw[C9]at h;exact SeqAt.EqAt.str_int x t j u _ _ _ _ h
   .rw[C5]at h;exact wpAny_eqBool_str h
 «strs» := λk x t v h=>by
  rcases bW h with ⟨i,u,rfl,e⟩|⟨y,u,rfl,e⟩
  .exact nomatch e
  .injection e with c _
   subst c;cases v<;>rfl
theorem oZ(prog:Program)(w:World)(i:Int)(t:Tok):(bt prog w).is (.inl i) (.int i t)=true:=uC i t
theorem o_(prog:Program)(w:World)(x:Str)(t:Tok):(bt prog w).is (.inr x) (.str x t)=true:=uD x t
inductive V where
 |non|bl (b:Bool)|int (i:Int)|str (x:Str)|Fx (b:Array UInt8)|flt (b:UInt64)|ref (a:Addr)|ty (n:String)
 deriving DecidableEq
def RelV:V->Value->Prop
 |.non,u=>u=Value.none
 |.bl b,u=>u=Value.bool b
 |.int i,u=>∃t,u=Value.int i t
 |.str x,u=>∃t,u=Value.str x t
 |.Fx b,u=>∃t,u=Value.bytes b t
 |.flt b,u=>∃t,u=Value.float b t
 |.ref a,u=>u=Value.ref a
 |.ty n,u=>u=Value.type n
abbrev Vals:List V->List Value->Prop:=Paired RelV
theorem Vals.length{xs:List V}{us:List Value}(r:Vals xs us):xs.length=us.length:=Paired.length r
theorem Vals.get:∀{xs:List V}{us:List Value}{i:Nat}{x:V},Vals xs us->xs[i]?=some x->∃u,us[i]?=some u/\RelV x u
 |_,_,_,_,.nil,e=>by simp at e
 |_,_,0,_,.cons r _,e=>by simp at e;subst e;exact⟨_,rfl,r⟩
 |_,_,i+1,x,.cons _ t,e=>by
  obtain⟨u,h1,h2⟩:=Vals.get (i:=i) (x:=x) t (by simpa using e)
  exact⟨u,by simpa using h1,h2⟩
theorem Vals.set{x:V}{u:Value}(r:RelV x u):∀{xs:List V}{us:List Value} (i:Nat),Vals xs us->Vals (xs.set i x) (us.set i u)
 |_,_,_,.nil=>.nil
 |_,_,0,.cons _ t=>.cons r t
 |_,_,i+1,.cons q t=>.cons q (Vals.set r i t)
theorem Vals.append:∀{xs a:List V}{us ws:List Value},Vals xs us->Vals a ws->Vals (xs++a) (us++ws)
 |_,_,_,_,.nil,s=>s
 |_,_,_,_,.cons r t,s=>.cons r (Vals.append t s)
theorem Vals.take:∀{xs:List V}{us:List Value} (n:Nat),Vals xs us->Vals (xs.take n) (us.take n)
 |_,_,0,_=>.nil
 |_,_,_+1,.nil=>.nil
 |_,_,n+1,.cons r t=>.cons r (Vals.take n t)
theorem Vals.drop:∀{xs:List V}{us:List Value} (n:Nat),Vals xs us->Vals (xs.drop n) (us.drop n)
 |_,_,0,r=>r
 |_,_,_+1,.nil=>.nil
 |_,_,n+1,.cons _ t=>Vals.drop n t
def fH:Option V->Option Value->Prop
 |some v,some u=>RelV v u
 |none,none=>True
 |_,_=>False
def KV{κ:Type}:List (κ×V)->List (κ×Value)->Prop:=Paired λ(p:κ×V) (q:κ×Value)=>p.1=q.1/\RelV p.2 q.2
noncomputable def kV:Key->V
 |.inl i=>.int i
 |.inr x=>.str x
inductive HO where
 |lst (xs:List V)
 |tup (xs:List V)
 |dK (kvs:List (Key×V))|dT (kvs:List (List Key×V))
 |set (S:Int->Bool) (n:Nat)
 |ins (C dx:Addr) (fs:List (Str×V))
 |own (x:Addr)
 |xd (fs:List (Str×V))
 |met (f x:Addr)
 |LB (lo hi:Int)
 |dg (o:Obj) (u:HO)
 |C_ (ps:Array Value)
 |ext (φ:Heap->Prop)
abbrev Hp:=Addr->Option HO
noncomputable def upd(H:Hp)(a:Addr)(o:HO):Hp:=λb=>if b=a then some o else H b
theorem aR{H:Hp}{a:Addr}{o:HO}:upd H a o a=some o:=by unfold upd;rw[if_pos rfl]
theorem aF{H:Hp}{a b:Addr}{o:HO}(h:b≠a):upd H a o b=H b:=by unfold upd;rw[if_neg h]
theorem Cj{H:Hp}{a b:Addr}{o u:HO}(h:H a=some o)(h':H b=some u)(d:o≠u):a≠b:=by
 intro e;subst e;rw[h]at h';exact d (Option.some.inj h')
theorem bb{H:Hp}{a b:Addr}{o:HO}(h:H a=some o)(h':H b=none):a≠b:=by
 intro e;subst e;rw[h]at h';cases h'
section
variable(P:Program)(w:World)
def bN(H:Hp)(h:Heap)(a:Addr):HO->Prop
 |.lst xs=>xs.length<=sizeLine/\∃(b:List Value) (n:Nat),Vals xs b/\h.get? a=some {cls:=.type "list",data:=.seq b.toArray n}
 |.tup xs=>xs.length<=sizeLine/\∃b:List Value,Vals xs b/\IsTup h a b.toArray
 |.dK kvs=>kvs.length<=sizeLine/\(a==sysModules)=false/\∃vs,KV kvs vs/\h.DictOf (bt P w) a vs
 |.dT kvs=>kvs.length<=sizeLine/\(a==sysModules)=false/\∃xs:List (List Key×Addr×Value),
   Paired (λ(p:List Key×V) (q:List Key×Addr×Value)=>p.1=q.1/\H q.2.1=some (.tup (p.1.map kV))/\RelV p.2 q.2.2) kvs xs /\
   ∃o es ep,h.get? a=some o/\o.ExactDict/\o.data=.dict es ep/\es.toList=xs.map (entryOfKey (tupleKind (bt P w)))/\(xs.map (·.1)).Nodup
 |.set S n=>h.SetOf (intKind P w) a S n
 |.ins C dx fs=>H dx=some (.own a)/\fs.length<=1000/\dx≠a/\h.get? a=some (PySem.W.instObj C dx) /\
   ∃c,h.Ns1 dx c/\(∀f,fH (fs.lookup f) (c f))/\PySem.Within c (fs.map (·.1))
 |.own _=>∃o,h.get? a=some o
 |.xd fs=>∃c,h.Ns1 a c/\∀f,fH (fs.lookup f) (c f)
 |.LB lo hi=>∃t u v,h.get? a=some {cls:=.type "range",data:=.fields #[.int lo t,.int hi u,.int 1 v]}
 |.dg o u=>h.get? a=some o/\bN H h a u
 |.C_ ps=>h.get? a=some {cls:=.none,data:=.fields ps}
 |.met f x=>h.get? a=some (PySem.W.methodObj (.ref f) (.ref x))
 |.ext d=>d h/\(∃o,h.get? a=some o)/\∀e g:Heap,d e->(∀o,e.get? a=some o->g.get? a=some o)->d g
def gN(H:Hp)(h:Heap):Prop:=∀a o,H a=some o->bN P w H h a o
end
section
variable{P:Program}{w:World}{H H':Hp}{h h':Heap}{a:Addr}{o:HO}
theorem bN.lt(x:bN P w H h a o):a<h.objs.size:=by
 cases o with
 |lst c=>obtain⟨_,_,_,_,e⟩:=x;exact Heap.lt_size e
 |tup c=>obtain⟨_,_,_,p⟩:=x;exact p.lt
 |dK b=>obtain⟨_,_,_,_,o,_,_,e,_⟩:=x;exact Heap.lt_size e
 |dT b=>obtain⟨_,_,_,_,o,_,_,e,_⟩:=x;exact Heap.lt_size e
 |set S n=>obtain⟨o,_,_,_,e,_⟩:=x;exact Heap.lt_size e
 |ins C g d=>obtain⟨_,_,_,e,_⟩:=x;exact Heap.lt_size e
 |own y=>obtain⟨_,e⟩:=x;exact Heap.lt_size e
 |xd d=>obtain⟨_,⟨_,_,_,e,_⟩,_⟩:=x;exact Heap.lt_size e
 |LB i j=>obtain⟨_,_,_,e⟩:=x;exact Heap.lt_size e
 |dg k u=>obtain⟨e,_⟩:=x;exact Heap.lt_size e
 |C_ l=>exact Heap.lt_size (show h.get? a=some _ from x)
 |met f y=>exact Heap.lt_size (show h.get? a=some _ from x)
 |ext m=>obtain⟨_,⟨_,e⟩,_⟩:=x;exact Heap.lt_size e
theorem Paired.Dc{c d:Type}{F G:c->d->Prop}:∀{l₁:List c}{l₂:List d},Paired F l₁ l₂->(∀a b,F a b->G a b)->Paired G l₁ l₂
 |_,_,.nil,_=>.nil
 |_,_,.cons r t,f=>.cons (f _ _ r) (Paired.Dc t f)
theorem bN.stay(x:bN P w H h a o)(k:∀b u,(b=a\/H b=some (.own a))->h.get? b=some u->h'.get? b=some u)
  (E:∀b,H b=some (.own a)->H' b=some (.own a)) (F:∀b xs,H b=some (.tup xs)->H' b=some (.tup xs)):bN P w H' h' a o:=by
 induction o with
 |lst xs=>obtain⟨z,l,n,r,e⟩:=x;exact⟨z,l,n,r,k _ _ (.inl rfl) e⟩
 |tup xs=>obtain⟨z,l,r,g,e,c⟩:=x;exact⟨z,l,r,g,k _ _ (.inl rfl) e,c⟩
 |dK m=>obtain⟨z,y,G,r,g,i,j,e,c⟩:=x;exact⟨z,y,G,r,g,i,j,k _ _ (.inl rfl) e,c⟩
 |dT m=>
  obtain⟨z,y,xs,r,g,i,j,e,c⟩:=x;exact⟨z,y,xs,Paired.Dc r λp q z=>⟨z.1,F _ _ z.2.1,z.2.2⟩,g,i,j,k _ _ (.inl rfl) e,c⟩
 |set S n=>obtain⟨g,i,j,t,e,c⟩:=x;exact⟨g,i,j,t,k _ _ (.inl rfl) e,c⟩
 |ins C M I=>
  obtain⟨d,z,J,e,s,⟨A,i,j,K,c⟩,r⟩:=x;exact⟨E _ d,z,J,k _ _ (.inl rfl) e,s,⟨A,i,j,k _ _ (.inr d) K,c⟩,r⟩
 |own y=>obtain⟨g,e⟩:=x;exact⟨g,k _ _ (.inl rfl) e⟩
 |xd I=>obtain⟨s,⟨A,i,j,e,c⟩,r⟩:=x;exact⟨s,⟨A,i,j,k _ _ (.inl rfl) e,c⟩,r⟩
 |LB N O=>obtain⟨t,u,v,e⟩:=x;exact⟨t,u,v,k _ _ (.inl rfl) e⟩
 |dg g u L=>obtain⟨e,q⟩:=x;exact⟨k _ _ (.inl rfl) e,L q⟩
 |C_ B=>
  have e:h.get? a=some {cls:=.none,data:=.fields B}:=x
  show h'.get? a=some {cls:=.none,data:=.fields B}
  exact k a _ (.inl rfl) e
 |met f y=>
  have e:h.get? a=some (PySem.W.methodObj (.ref f) (.ref y)):=x
  show h'.get? a=some (PySem.W.methodObj (.ref f) (.ref y))
  exact k a _ (.inl rfl) e
 |ext Q=>obtain⟨p,⟨o,e⟩,D⟩:=x;exact⟨D _ _ p λo q=>k _ _ (.inl rfl) q,⟨o,k _ _ (.inl rfl) e⟩,D⟩
theorem gN.lt(x:gN P w H h)(e:H a=some o):a<h.objs.size:=(x a o e).lt
theorem gN.fresh(x:gN P w H h)(e:h.objs.size<=a):H a=none:=by
 cases q:H a with
 |none=>rfl
 |some u=>exact absurd (Nat.lt_of_lt_of_le (x.lt q) e) (Nat.lt_irrefl _)
theorem gN.kept(x:gN P w H h)(k:∀b u,h.get? b=some u->h'.get? b=some u):gN P w H h':=λa o e=>
 (x a o e).stay (λb u _ q=>k b u q) (λ_ q=>q) λ_ _ q=>q
theorem gN.laid(x:gN P w H h)(k:∀b u,h.get? b=some u->h'.get? b=some u)(i:h.objs.size<=a)(d:bN P w (upd H a o) h' a o):gN P w (upd H a o) h':=λb u e=>by
 have f:=x.fresh i
 by_cases g:b=a
 .subst g;rw[aR]at e;cases e;exact d
 .rw[aF g]at e
  exact(x b u e).stay (λc v _ q=>k c v q) (λc q=>by rw[aF (bb q f)];exact q) λc j q=>by rw[aF (bb q f)];exact q
end
def Rd(H:Hp)(a:Addr)(u:HO):Prop:=H a=some u\/∃o,H a=some (.dg o u)
theorem Rd.ok{P:Program}{w:World}{H:Hp}{h:Heap}{a:Addr}{u:HO}(r:Rd H a u)(x:gN P w H h):bN P w H h a u:=by
 rcases r with r|⟨o,r⟩
 .exact x a u r
 .obtain⟨_,q⟩:=x a _ r
  exact q
def FT:Option HO->Prop
 |some (.lst _)=>True
 |some (.dK _)=>True
 |some (.dT _)=>True
 |some (.set _ _)=>True
 |some (.ins _ _ _)=>True
 |some (.ext _)=>True
 |_=>False
section
variable{P:Program}{w:World}{H:Hp}{h h':Heap}{x e:Addr}{o':HO}
theorem gN.write(ok:gN P w H h)(g:FT (H x))(n:e=x\/H e=some (.own x))(k:∀b u,b≠e->h.get? b=some u->h'.get? b=some u)(l:∃u,h'.get? e=some u)
  (m:bN P w (upd H x o') h' x o'):gN P w (upd H x o') h':=λb u q=>by
 have d:∀c y,H c=some (.own y)->c≠x:=λc y r z=>by subst z;rw[r]at g;exact g
 have f:∀c i,H c=some (.tup i)->c≠x:=λc i r z=>by subst z;rw[r]at g;exact g
 by_cases j:b=x
 .subst j;rw[aR]at q;cases q;exact m
 .rw[aF j]at q
  by_cases a:b=e
  .have o:H b=some (.own x):=by
    rcases n with z|z
    .exact absurd (a.trans z) j
    .rw[a];exact z
   rw[q]at o;cases o
   obtain⟨v,p⟩:=l;exact⟨v,by rw[a];exact p⟩
  .refine(ok b u q).stay (λc v hc r=>k c v ?_ r) (λc r=>by rw[aF (d c b r)];exact r) λc i r=>by rw[aF (f c i r)];exact r
   rcases hc with rfl|hc
   .exact a
   .rintro rfl
    rcases n with z|z
    .exact d c b hc z
    .rw[hc]at z;cases z;exact j rfl
end
structure Un(fs ex:List Addr)(H H':Hp)(h h':Heap):Prop where
 keep:∀b o,h.get? b=some o->H b=none->b∉fs->b∉ex->h'.get? b=some o
 slot:∀b o,h.get? b=some o->H b=none->b∈fs->b∉ex->∃sl,h'.get? b=some {o with slots:=sl}
 free:∀b o,h.get? b=some o->H b=none->b∉ex->H' b=none
 there:∀b o,h.get? b=some o->b∉ex->∃o',h'.get? b=some o'
 tups:∀b xs,H b=some (.tup xs)->H' b=some (.tup xs)
 g8:∀b o u,H b=some (.dg o u)->H' b=some (.dg o u)
 jf:∀b ps,H b=some (.C_ ps)->∃more,H' b=some (.C_ (ps++more))
section
variable{fs fs' ex ex':List Addr}{H H1 H2:Hp}{h h1 h2 h':Heap}{a x e:Addr}{o:HO}
theorem Un.any(u:Un fs ex H H1 h h1){b:Addr}{ob:Obj}(q:h.get? b=some ob)(n:H b=none)(a:b∉ex):∃d,h1.get? b=some {ob with slots:=d}:=by
 by_cases c:b∈fs
 .exact u.slot b ob q n c a
 .exact⟨ob.slots,u.keep b ob q n c a⟩
theorem Un.trans(a:Un fs ex H H1 h h1)(b:Un fs ex H1 H2 h1 h2):Un fs ex H H2 h h2 where
 keep:=λc d q n g e=>b.keep c d (a.keep c d q n g e) (a.free c d q n e) g e
 slot:=λc d q n g e=>by
  obtain⟨o,f⟩:=a.slot c d q n g e;obtain⟨j,k⟩:=b.slot c _ f (a.free c d q n e) g e;exact⟨j,k⟩
 free:=λc d q n e=>by
  obtain⟨l,f⟩:=a.there c d q e;exact b.free c l f (a.free c d q n e) e
 there:=λc d q e=>by
  obtain⟨l,f⟩:=a.there c d q e;exact b.there c l f e
 tups:=λc i q=>b.tups c i (a.tups c i q)
 g8:=λc d i q=>b.g8 c d i (a.g8 c d i q)
 jf:=λc m q=>by
  obtain⟨m1,f⟩:=a.jf c m q;obtain⟨m2,k⟩:=b.jf c _ f;exact⟨m1++m2,by rw[k,Array.append_assoc]⟩
theorem Un.kept(k:∀b u,h.get? b=some u->h'.get? b=some u):Un fs ex H H h h':=
 ⟨λb a q _ _ _=>k b a q,λb a q _ _ _=>⟨a.slots,k b a q⟩,λ_ _ _ n _=>n,λb a q _=>⟨a,k b a q⟩,λ_ _ q=>q,λ_ _ _ q=>q,λ_ c q=>⟨#[],by rw[q];simp⟩⟩
theorem Un.refl:Un fs ex H H h h:=Un.kept λ_ _ q=>q
theorem Un.laid(k:∀b u,h.get? b=some u->h'.get? b=some u)(d:h.objs.size<=a)(c:H a=none):Un fs ex H (upd H a o) h h' where
 keep:=λb u q _ _ _=>k b u q
 slot:=λb u q _ _ _=>⟨u.slots,k b u q⟩
 free:=λb u q n _=>by rw[aF (Nat.ne_of_lt (Nat.lt_of_lt_of_le (Heap.lt_size q) d))];exact n
 there:=λb u q _=>⟨u,k b u q⟩
 tups:=λb e q=>by rw[aF (bb q c)];exact q
 g8:=λb u e q=>by rw[aF (bb q c)];exact q
 jf:=λb f q=>⟨#[],by rw[aF (bb q c),q];simp⟩
theorem Un.write(c:FT (H x))(j:e=x\/H e=some (.own x))(k:∀b u,b≠e->h.get? b=some u->h'.get? b=some u)(d:∃u,h'.get? e=some u):Un fs ex H (upd H x o) h h':=by
 have g:∀b,H b=none->b≠x:=λb n z=>by subst z;rw[n]at c;exact c
 have i:∀b,H b=none->b≠e:=λb n z=>by
  subst z;rcases j with r|r
  .exact g b n r
  .rw[n]at r;cases r
 have f:∀b u,H b=some u->¬ FT (some u)->b≠x:=λb u q l z=>by subst z;rw[q]at c;exact l c
 refine⟨λb u q n _ _=>k b u (i b n) q,λb u q n _ _=>⟨u.slots,k b u (i b n) q⟩,λb u q n _=>by rw[aF (g b n)];exact n,λb u q _=>?_,
  λb m q=>by rw[aF (f b _ q λz=>z)];exact q,λb u m q=>by rw[aF (f b _ q λz=>z)];exact q,λb p q=>⟨#[],by rw[aF (f b _ q λz=>z),q];simp⟩⟩
 by_cases a:b=e
 .subst a;exact d
 .exact⟨u,k b u a q⟩
end
noncomputable def JV(h:Heap)(H:Hp):List Addr:=(List.range h.objs.size).filter λa=>(H a).isSome
def nk(h:Heap)(H:Hp):Heap:=PySem.W.hideAll h (JV h H)
theorem uE(h:Heap)(H:Hp):(nk h H).objs.size=h.objs.size:=PySem.W.hideAll_size _ _
theorem vU{h:Heap}{H:Hp}{b:Addr}{o:Obj}(e:h.get? b=some o)(n:H b=none):(nk h H).get? b=some o:=
 PySem.W.hideAll_get _ e λa=>by
  have q:(H b).isSome=true:=(List.mem_filter.mp a).2;rw[n]at q;simp at q
theorem zk{h:Heap}{H:Hp}{b:Addr}{o:Obj}(e:(nk h H).get? b=some o):h.get? b=some o/\H b=none:=by
 have a:h.get? b=some o:=PySem.W.of_hideAll (JV h H) e;refine⟨a,?_⟩;cases q:H b with
 |none=>rfl
 |some x=>
  have c:b∈JV h H:=List.mem_filter.mpr ⟨List.mem_range.mpr (Heap.lt_size a),by simp[q]⟩
  have z:(nk h H).get? b=none:=PySem.W.hideAll_none (JV h H) c;rw[z]at e;cases e
noncomputable def zl(g h:Heap)(L:Addr):List (Addr×Obj):=(List.range h.objs.size).filterMap λa=>if a=L\/(g.get? a).isSome=true then none else (h.get? a).map λo=>(a,o)
def rest(g h:Heap)(L d:Addr):List (Addr×Obj):=(zl g h L).filter λp=>decide (p.1≠d)
structure Mod(K:PySem.W.Frag)(mg:Str->Option Value)(base:Heap):Prop where
 FU:K.In base
 glob:base.Ns mainGlobals mg
 blt:∃mb,base.Ns builtinsNs mb/\∀x:Str,x≠"__name__"->mb x=bootBuiltins x
 nolimit:base.NoLimit
structure Cx where
 prog:Program
 w:World
 K:PySem.W.Frag
 mg:Str->Option Value
 base:Heap
 A:Around
 N:List Str
 s₀:Shared
 H₀:Hp
 env:Env
 outer:List Env
 stack:List Env
 ex:List Addr
 fn:Str->Bool
 calm:Bool
 pn:List (Addr×Obj)
 xe:Value->Shared->Prop
noncomputable def frs(l:List Env):List Addr:=l.filterMap (·.frame)
abbrev Cx.fs(X:Cx):List Addr:=frs X.outer
def Fy(sc:Scope)(x:Str):Prop:=sc.names.lookup x=some .local\/sc.names.lookup x=some .cell\/sc.names.lookup x=some .free
def Loc(sc:Scope)(x:Str):Prop:=sc.names.lookup x=some .local\/sc.names.lookup x=some .cell
def Look(env:Env)(h:Heap)(m:Str->Option Value)(x:Str)(u:Value):Prop:=
 (env.kindOf x=some .local/\m x=some u)\/((env.kindOf x=some .cell\/env.kindOf x=some .free)/\∃c,env.cells.lookup x=some c/\h.IsCell c (some u))
structure Cx.Ok(X:Cx):Prop where
 mod:Mod X.K X.mg X.base
 kind:X.env.scope.kind=.function
 glob:X.env.globals=mainGlobals
 blt:X.env.builtins=builtinsNs
 above:X.s₀.heap.objs.size<=X.env.locals
 inj:∀x y c,X.env.cells.lookup x=some c->X.env.cells.lookup y=some c->x=y
 has:∀x,(X.env.kindOf x=some .cell\/X.env.kindOf x=some .free)->∃c,X.env.cells.lookup x=some c
 cab:∀x c,X.fn x=true->X.env.cells.lookup x=some c->X.s₀.heap.objs.size<=c
 hd:X.calm=true->X.A.handled=none
 frames:X.A.frames=some X.stack
 JW:X.stack=X.outer\/(X.stack=X.env::X.outer/\X.env.frame=some X.env.locals)
 JX:∀b∈X.ex,b≠X.env.locals/\∀x c,X.env.cells.lookup x=some c->c≠b
 bs:∀b o,X.base.get? b=some o->X.s₀.heap.get? b=some o/\X.H₀ b=none
 Ck:X.base.objs.size<=X.s₀.heap.objs.size
 vV:∀b o,X.base.get? b=some o->b∉X.ex
 vW:∀b∈X.ex,b∉X.fs
 jM:X.s₀.heap.FunFrames X.base X.outer
 De:∀b∈X.fs,X.H₀ b=none
structure Inv(X:Cx)(pins:List (Addr×Obj))(σ:List (Option V))(H:Hp)(s:Shared):Prop where
 ok:X.Ok
 os:s.os=X.s₀.os
 bare:AllBare s.gens
 base:Un X.fs X.ex X.H₀ H X.s₀.heap s.heap
 loc:∃m,s.heap.Ns X.env.locals m/\∀(i:Nat) (x:Str) (v:V),X.N[i]?=some x->σ[i]?=some (some v)->Fy X.env.scope x->∃u,RelV v u/\Look X.env s.heap m x u
 cell:∀x c,X.env.cells.lookup x=some c->∃v,s.heap.IsCell c v
 free:H X.env.locals=none
 gm:∀x c,X.env.cells.lookup x=some c->(H c=none\/∃o u,H c=some (.dg o u))/\(X.fn x=true->H c=none)
 pin:∀p∈X.pn++pins,s.heap.get? p.1=some p.2/\H p.1=none/\p.1≠X.env.locals/\p.1∉X.fs/\∀v,p.2.data≠.cell v
 hok:gN X.prog X.w H s.heap
 len:σ.length=X.N.length
section
variable{X:Cx}{pins:List (Addr×Obj)}{σ:List (Option V)}{H H':Hp}{s:Shared}{h':Heap}
theorem Cx.Ok.LC(ok:X.Ok){b:Addr}{o:Obj}(e:X.base.get? b=some o):b∉X.fs:=λa=>by
 have:=(ok.jM.mem a).1;rw[e]at this;cases this
theorem Inv.bs(I:Inv X pins σ H s):∀b o,X.base.get? b=some o->s.heap.get? b=some o/\H b=none:=λb o e=>
 ⟨I.base.keep b o (I.ok.bs b o e).1 (I.ok.bs b o e).2 (I.ok.LC e) (I.ok.vV b o e),I.base.free b o (I.ok.bs b o e).1 (I.ok.bs b o e).2 (I.ok.vV b o e)⟩
theorem Inv.bk(I:Inv X pins σ H s):∀b o,X.base.get? b=some o->s.heap.get? b=some o:=λb o e=>(I.bs b o e).1
theorem Inv.mod(I:Inv X pins σ H s):Mod X.K X.mg X.base:=I.ok.mod
theorem Inv.je(I:Inv X pins σ H s):X.K.In s.heap:=I.ok.mod.FU.keeps I.bk
theorem Inv.lt(I:Inv X pins σ H s):X.env.locals<s.heap.objs.size:=let ⟨_,a,_⟩:=I.loc;a.lt
theorem Inv.sz(I:Inv X pins σ H s):X.s₀.heap.objs.size<=s.heap.objs.size:=Nat.le_trans I.ok.above (Nat.le_of_lt I.lt)
theorem Inv.LD(I:Inv X pins σ H s){a:Addr}(h:s.heap.objs.size<=a):a∉X.fs:=λb=>by
 obtain⟨_,o,c,_⟩:=I.ok.jM.mem b;exact absurd (Nat.lt_of_lt_of_le (Heap.lt_size c) (Nat.le_trans I.sz h)) (Nat.lt_irrefl _)
theorem Inv.LF(I:Inv X pins σ H s):∀x c,X.env.cells.lookup x=some c->c≠X.env.locals:=λx c e z=>by
 obtain⟨v,o,d,f⟩:=I.cell x c e;obtain⟨m,⟨g,h,i,a,b,_⟩,_⟩:=I.loc;rw[z,a]at d;cases d;rw[b]at f;cases f
theorem Inv.jM(I:Inv X pins σ H s):s.heap.FunFrames X.base X.outer:=by
 have a:∀(l:List Env),(∀b∈frs l,b∈X.fs)->X.s₀.heap.FunFrames X.base l->s.heap.FunFrames X.base l:=by
  intro l
  induction l with
  |nil=>intro _ _;trivial
  |cons h r i=>
   intro g j;obtain⟨k,⟨L,o,c,m,n,p⟩,q⟩:=j;have d:L∈X.fs:=g L (by unfold frs;rw[List.filterMap_cons,c];exact List.mem_cons_self)
   obtain⟨t,e⟩:=I.base.slot L o n (I.ok.De L d) d λz=>I.ok.vW L z d
   exact⟨k,⟨L,_,c,m,e,p⟩,i (λb f=>g b (by unfold frs;rw[List.filterMap_cons,c];exact List.mem_cons_of_mem _ f)) q⟩
 exact a X.outer (λ_ f=>f) I.ok.jM
theorem Inv.stack(I:Inv X pins σ H s):s.heap.FunFrames X.base X.stack:=by
 rcases I.ok.JW with e|⟨e,a⟩
 .rw[e];exact I.jM
 .rw[e]
  obtain⟨m,b,_⟩:=I.loc;refine .cons (by rw[I.ok.kind];decide) a b ?_ I.jM
  exact Heap.get?_none_of_le (Nat.le_trans I.ok.Ck I.ok.above)
theorem Inv.qS(I:Inv X pins σ H s):∀b∈frs X.stack,b∈X.env.locals::X.fs:=λb a=>by
 rcases I.ok.JW with e|⟨e,c⟩
 .rw[e]at a;exact List.mem_cons_of_mem _ a
 .rw[e]at a
  unfold frs at a;rw[List.filterMap_cons,c]at a;exact a
theorem Inv.sN(I:Inv X pins σ H s):∀b∈frs X.stack,H b=none:=λb hb=>by
 rcases List.mem_cons.mp (I.qS b hb)with e|hb
 .rw[e];exact I.free
 .obtain⟨_,o,a,_⟩:=I.ok.jM.mem hb
  exact I.base.free b o a (I.ok.De b hb) λz=>I.ok.vW b z hb
theorem Inv.step{g':Array GenState}{t':Nat}{d':Drawn}{ch:List Addr}(I:Inv X pins σ H s)
  (h:∀b∈ch,(b∈X.ex\/X.s₀.heap.objs.size<=b)/\b≠X.env.locals/\(∀x c,X.env.cells.lookup x=some c->c≠b)/\∀p∈X.pn++pins,p.1≠b)
  (keep:∀b o,b≠X.env.locals->b∉X.fs->b∉ch->s.heap.get? b=some o->H b=none->h'.get? b=some o)
  (slot:∀b o,b≠X.env.locals->b∈X.fs->b∉ch->s.heap.get? b=some o->H b=none->∃M,h'.get? b=some {o with slots:=M}) (free:∀b o,b∉ch->s.heap.get? b=some o->H b=none->H' b=none)
  (there:∀b o,b∉ch->s.heap.get? b=some o->∃E,h'.get? b=some E)
  (tups:∀b xs,H b=some (.tup xs)->H' b=some (.tup xs)) (g8:∀b o u,H b=some (.dg o u)->H' b=some (.dg o u)) (jf:∀b ps,H b=some (.C_ ps)->∃more,H' b=some (.C_ (ps++more)))
  (ns:∀m,s.heap.Ns X.env.locals m->h'.Ns X.env.locals m) (F:gN X.prog X.w H' h') (S:AllBare g') :
  Inv X pins σ H' {s with heap:=h',gens:=g',drawn:=d',toks:=t' }:=by
 have G:∀b o,X.s₀.heap.get? b=some o->b≠X.env.locals:=λb o e=>Nat.ne_of_lt (Nat.lt_of_lt_of_le (Heap.lt_size e) I.ok.above)
 have t:∀b o,X.s₀.heap.get? b=some o->b∉X.ex->b∉ch:=λb o e f A=>by
  rcases(h b A).1 with z|z
  .exact f z
  .exact absurd (Nat.lt_of_lt_of_le (Heap.lt_size e) z) (Nat.lt_irrefl _)
 have j:∀x c,X.env.cells.lookup x=some c->∀v,s.heap.IsCell c v->h'.IsCell c v:=λx c e v ⟨o,y,J⟩=>by
  have a:c∉ch:=λz=>(h c z).2.2.1 x c e rfl
  rcases(I.gm x c e).1 with C|⟨D,K,L⟩
  .by_cases O:c∈X.fs
   .obtain⟨M,q⟩:=slot c o (I.LF x c e) O a y C
    exact⟨_,q,J⟩
   .exact⟨o,keep c o (I.LF x c e) O a y C,J⟩
  .have g:s.heap.get? c=some D:=(I.hok c _ L).1
   have B:h'.get? c=some D:=(F c _ (g8 c D K L)).1;rw[y]at g;cases g
   exact⟨o,B,J⟩
 refine⟨I.ok,I.os,S,⟨λb o e n A f=>?_,λb o e n A f=>?_,λb o e n f=>?_,λb o e f=>?_,λb xs e=>tups b xs (I.base.tups b xs e),λb o xs e=>g8 b o xs (I.base.g8 b o xs e),λb ps e=>?_⟩,?_,λx c e=>?_,?_,λx c e=>?_,λp P=>?_,F,I.len⟩
 .exact keep b o (G b o e) A (t b o e f) (I.base.keep b o e n A f) (I.base.free b o e n f)
 .obtain⟨M,g⟩:=I.base.slot b o e n A f
  obtain⟨N,B⟩:=slot b _ (G b o e) A (t b o e f) g (I.base.free b o e n f);exact⟨N,B⟩
 .obtain⟨E,g⟩:=I.base.there b o e f
  exact free b E (t b o e f) g (I.base.free b o e n f)
 .obtain⟨E,g⟩:=I.base.there b o e f
  exact there b E (t b o e f) g
 .obtain⟨m1,g⟩:=I.base.jf b ps e
  obtain⟨m2,B⟩:=jf b _ g;exact⟨m1++m2,by rw[B,Array.append_assoc]⟩
 .obtain⟨m,C,T⟩:=I.loc
  refine⟨m,ns m C,λi x v g B U=>?_⟩
  obtain⟨u,r,l⟩:=T i x v g B U;refine⟨u,r,?_⟩;rcases l with l|⟨k,c,e,z⟩
  .exact .inl l
  .exact .inr ⟨k,c,e,j x c e _ z⟩
 .obtain⟨v,z⟩:=I.cell x c e
  exact⟨v,j x c e v z⟩
 .obtain⟨m,⟨o,_,_,y,_⟩,_⟩:=I.loc
  exact free _ o (λz=>(h _ z).2.1 rfl) y I.free
 .obtain⟨v,o,y,J⟩:=I.cell x c e
  have a:c∉ch:=λz=>(h c z).2.2.1 x c e rfl
  refine⟨?_,λV=>free c o a y ((I.gm x c e).2 V)⟩
  rcases(I.gm x c e).1 with C|⟨D,K,L⟩
  .exact .inl (free c o a y C)
  .exact .inr ⟨D,K,g8 c D K L⟩
 .obtain⟨e,n,Q,R,d⟩:=I.pin p P
  have a:p.1∉ch:=λz=>(h p.1 z).2.2.2 p P rfl
  exact⟨keep p.1 p.2 Q R a e n,free p.1 p.2 a e n,Q,R,d⟩
theorem Inv.un{t':Nat}(I:Inv X pins σ H s)(u:Un X.fs [] H H' s.heap h')(c:gN X.prog X.w H' h'):Inv X pins σ H' {s with heap:=h',toks:=t' }:=by
 obtain⟨m,⟨o,l,p,h,r⟩,_⟩:=id I.loc;obtain⟨q,i⟩:=u.any h I.free (by simp)
 exact I.step (g':=s.gens) (d':=s.drawn) (ch:=[]) (λ_ z=>nomatch z) (λb o _ d _ e n=>u.keep b o e n d (by simp)) (λb o _ d _ e n=>u.slot b o e n d (by simp)) (λb o _ e n=>u.free b o e n (by simp)) (λb o _ e=>u.there b o e (by simp)) u.tups u.g8 u.jf (λt j=>by
  obtain⟨x,f,g,a,k⟩:=j;rw[h]at a;cases a
  exact⟨_,f,g,i,k⟩) c I.bare
theorem Inv.call{g':Array GenState}{t':Nat}{d':Drawn}{ch:List Addr}(I:Inv X pins σ H s)(u:Un (frs X.stack) ch H H' s.heap h')(g:gN X.prog X.w H' h')(l:AllBare g')
  (d:∀b∈ch,(b∈X.ex\/X.s₀.heap.objs.size<=b)/\b≠X.env.locals/\(∀x c,X.env.cells.lookup x=some c->c≠b)/\∀p∈X.pn++pins,p.1≠b) :
  Inv X pins σ H' {s with heap:=h',gens:=g',drawn:=d',toks:=t' }:=by
 obtain⟨m,⟨o,A,B,k,r⟩,_⟩:=id I.loc;obtain⟨C,h⟩:=u.any k I.free λz=>(d _ z).2.1 rfl
 exact I.step (ch:=ch) d (λb o h q a e n=>u.keep b o e n (λz=>(List.mem_cons.mp (I.qS b z)).elim h q) a) (λb o _ _ a e n=>u.any e n a) (λb o a e n=>u.free b o e n a) (λb o a e=>u.there b o e a) u.tups u.g8 u.jf (λD t=>by
  obtain⟨E,i,j,f,y⟩:=t;rw[k]at f;cases f
  exact⟨_,i,j,h,y⟩) g l
theorem Inv.turned{t':Nat}{it:Addr}(I:Inv X pins σ H s)(k:∀b o,b≠it->s.heap.get? b=some o->h'.get? b=some o)(g:H it=none)(f:it≠X.env.locals)
  (h:it∈X.ex\/X.s₀.heap.objs.size<=it) (i:∀x c,X.env.cells.lookup x=some c->c≠it) (j:∀p∈X.pn++pins,p.1≠it):Inv X pins σ H {s with heap:=h',toks:=t' }:=by
 have d:∀b u,H b=some u->b≠it:=λb u e z=>by rw[z,g]at e;cases e
 refine I.step (g':=s.gens) (d':=s.drawn) (ch:=[it]) (λb l=>?_) (λb o _ _ a e _=>k b o (λz=>a (by simp[z])) e) (λb o _ _ a e _=>⟨o.slots,k b o (λz=>a (by simp[z])) e⟩) (λ_ _ _ _ n=>n)
  (λb o a e=>⟨o,k b o (λz=>a (by simp[z])) e⟩) (λ_ _ e=>e) (λ_ _ _ e=>e) (λb B e=>⟨#[],by rw[e];simp⟩) (λm t=>?_) (λb u e=>?_) I.bare
 .have e:b=it:=by simpa using l
  subst e;exact⟨h,f,i,j⟩
 .obtain⟨o,w,y,A,r⟩:=t
  exact⟨o,w,y,k _ o (Ne.symm f) A,r⟩
 .refine(I.hok b u e).stay (λc v a q=>k c v ?_ q) (λ_ q=>q) λ_ _ q=>q
  rcases a with z|z
  .rw[z];exact d b u e
  .exact d c _ z
theorem Inv.tok(I:Inv X pins σ H s)(t:Nat):Inv X pins σ H {s with toks:=t}:=I.un (h':=s.heap) (t':=t) Un.refl I.hok
theorem Inv.kept{t':Nat}(I:Inv X pins σ H s)(k:∀b u,s.heap.get? b=some u->h'.get? b=some u):Inv X pins σ H {s with heap:=h',toks:=t' }:=I.un (Un.kept k) (I.hok.kept k)
theorem Inv.laid{a:Addr}{o:HO}{t':Nat}(I:Inv X pins σ H s)(k:∀b u,s.heap.get? b=some u->h'.get? b=some u)(c:s.heap.objs.size<=a)(d:bN X.prog X.w (upd H a o) h' a o) :
  Inv X pins σ (upd H a o) {s with heap:=h',toks:=t' }:=I.un (Un.laid k c (I.hok.fresh c)) (I.hok.laid k c d)
theorem Inv.write{x e:Addr}{o:HO}{t':Nat}(I:Inv X pins σ H s)(d:FT (H x))(f:e=x\/H e=some (.own x))(k:∀b u,b≠e->s.heap.get? b=some u->h'.get? b=some u)(a:∃u,h'.get? e=some u)
  (c:bN X.prog X.w (upd H x o) h' x o):Inv X pins σ (upd H x o) {s with heap:=h',toks:=t' }:=I.un (Un.write d f k a) (I.hok.write d f k a c)
theorem Inv.weak{a:List (Option V)}(I:Inv X pins σ H s)(c:a.length=σ.length)(w:∀(i:Nat) v,a[i]?=some (some v)->σ[i]?=some (some v)):Inv X pins a H s:=
 ⟨I.ok,I.os,I.bare,I.base,let ⟨m,d,b⟩:=I.loc;⟨m,d,λi x v e f g=>b i x v e (w i v f) g⟩,I.cell,I.free,I.gm,I.pin,I.hok,c.trans I.len⟩
theorem Inv.sO{a:List (Addr×Obj)}(I:Inv X pins σ H s)(h:∀p∈a,s.heap.get? p.1=some p.2/\H p.1=none/\p.1≠X.env.locals/\p.1∉X.fs/\∀v,p.2.data≠.cell v):Inv X a σ H s:=
 ⟨I.ok,I.os,I.bare,I.base,I.loc,I.cell,I.free,I.gm,λp b=>(List.mem_append.mp b).elim (λz=>I.pin p (List.mem_append_left _ z)) (h p),I.hok,I.len⟩
theorem pa{N:List Str}(c:N.Nodup){i j:Nat}{x:Str}(a:N[i]?=some x)(b:N[j]?=some x):i=j:=by
 obtain⟨f,d⟩:=List.getElem?_eq_some_iff.mp a;obtain⟨g,e⟩:=List.getElem?_eq_some_iff.mp b;exact(List.getElem_inj c).mp (d.trans e.symm)
theorem mr{M:Model}{A:Around}{E:Value->Shared->Prop}{i:Nat}{x:Str}{v:V}{u:Value}{Q:Unit->Shared->Prop}(I:Inv X pins σ H s)(hN:X.N.Nodup)(O:X.N[i]?=some x)(t:Loc X.env.scope x)(r:RelV v u)
  (h:∀s',Inv X pins (σ.set i (some v)) H s'->(∃a,Heap.SameBut a s.heap s'.heap/\(a=X.env.locals\/X.env.cells.lookup x=some a))->Q () s') (hf:X.fn x=true\/X.env.scope.names.lookup x=some .local:=by first|exact .inl rfl|exact .inr rfl|assumption):wpAny M A (storeName X.env x u) Q E s:=by
 obtain⟨m,hn,hl⟩:=id I.loc;have P:(X.env.scope.kind==.class||(X.env.scope.kind==.module&&X.env.locals != X.env.globals))=false:=by rw[I.ok.kind];rfl
 have F:i<σ.length:=by rw[I.len];exact(List.getElem?_eq_some_iff.mp O).1
 have G:=I.LF
 have g:∀{a:Addr}{L:Heap},(∃o,s.heap.get? a=some o/\H a=none)->Heap.SameBut a s.heap L->gN X.prog X.w H L:=λ{a L} ha f b ob e=>by
  obtain⟨_,_,B⟩:=ha;refine(I.hok b ob e).stay (λc Y hc q=>(f.2 c ?_).trans q) (λ_ q=>q) λ_ _ q=>q
  rintro rfl;rcases hc with rfl|hc
  .rw[B]at e;cases e
  .rw[B]at hc;cases hc
 rcases t with hk|hk
 .refine wpAny_storeName_local hk hn (λL a0 f=>?_) P
  obtain⟨oL,_,_,b0,_⟩:=id hn;refine h _ ⟨I.ok,I.os,I.bare,⟨λb o e n J t=>?_,λb o e n J t=>?_,I.base.free,λb o e t=>?_,I.base.tups,I.base.g8,I.base.jf⟩,⟨_,a0,λj y v' l C e3=>?_⟩,λy c e=>?_,I.free,I.gm,λp hp=>?_,g ⟨oL,b0,I.free⟩ f,by simpa using I.len⟩ ⟨_,f,.inl rfl⟩
  .exact(f.2 b (Nat.ne_of_lt (Nat.lt_of_lt_of_le (Heap.lt_size e) I.ok.above))).trans (I.base.keep b o e n J t)
  .obtain⟨sl,l⟩:=I.base.slot b o e n J t
   exact⟨sl,(f.2 b (Nat.ne_of_lt (Nat.lt_of_lt_of_le (Heap.lt_size e) I.ok.above))).trans l⟩
  .obtain⟨o',l⟩:=I.base.there b o e t
   exact⟨o',(f.2 b (Nat.ne_of_lt (Nat.lt_of_lt_of_le (Heap.lt_size e) I.ok.above))).trans l⟩
  .by_cases K:j=i
   .subst K
    rw[O]at l;cases l
    rw[List.getElem?_set_self F]at C;cases C;exact⟨u,r,.inl ⟨hk,by simp⟩⟩
   .rw[List.getElem?_set_ne (Ne.symm K)]at C
    obtain⟨u',r',q⟩:=hl j y v' l C e3;refine⟨u',r',?_⟩;rcases q with ⟨k,e⟩|⟨k,c,e,z⟩
    .refine .inl ⟨k,?_⟩
     have:y≠x:=λe=>K (pa hN l (e▸O))
     simp[this,e]
    .exact .inr ⟨k,c,e,z.sameBut f (G y c e)⟩
  .obtain⟨Y,z⟩:=I.cell y c e
   exact⟨Y,z.sameBut f (G y c e)⟩
  .obtain⟨e,n,Z,nf,d⟩:=I.pin p hp
   exact⟨(f.2 p.1 Z).trans e,n,Z,nf,d⟩
 .have D:X.fn x=true:=by
   rcases hf with z|z
   .exact z
   .rw[z]at hk;cases hk
  obtain⟨c,hc⟩:=I.ok.has x (.inl hk);obtain⟨Y,z⟩:=I.cell x c hc;refine wpAny_storeName_cell I.ok.kind hk hc z (λL R f=>?_)
  obtain⟨oc,S,T⟩:=id z;refine h {s with heap:=L} ⟨I.ok,I.os,I.bare,⟨λb o e n J t=>?_,λb o e n J t=>?_,I.base.free,λb o e t=>?_,I.base.tups,I.base.g8,I.base.jf⟩,⟨m,hn.sameBut f (Ne.symm (G x c hc)),λj y v' l C e3=>?_⟩,λy c' e=>?_,I.free,I.gm,λp hp=>?_,g ⟨oc,S,(I.gm x c hc).2 D⟩ f,by simpa using I.len⟩ ⟨c,f,.inr hc⟩
  .exact(f.2 b (Nat.ne_of_lt (Nat.lt_of_lt_of_le (Heap.lt_size e) (I.ok.cab x c D hc)))).trans (I.base.keep b o e n J t)
  .obtain⟨sl,l⟩:=I.base.slot b o e n J t
   exact⟨sl,(f.2 b (Nat.ne_of_lt (Nat.lt_of_lt_of_le (Heap.lt_size e) (I.ok.cab x c D hc)))).trans l⟩
  .obtain⟨o',l⟩:=I.base.there b o e t
   exact⟨o',(f.2 b (Nat.ne_of_lt (Nat.lt_of_lt_of_le (Heap.lt_size e) (I.ok.cab x c D hc)))).trans l⟩
  .by_cases K:j=i
   .subst K
    rw[O]at l;cases l
    rw[List.getElem?_set_self F]at C;cases C;exact⟨u,r,.inr ⟨.inl hk,c,hc,R⟩⟩
   .rw[List.getElem?_set_ne (Ne.symm K)]at C
    obtain⟨u',r',q⟩:=hl j y v' l C e3;refine⟨u',r',?_⟩;rcases q with q|⟨k,c',e,z'⟩
    .exact .inl q
    .refine .inr ⟨k,c',e,z'.sameBut f ?_⟩
     rintro rfl;exact K (pa hN l (I.ok.inj _ _ _ e hc▸O))
  .by_cases U:c'=c
   .subst U;exact⟨_,R⟩
   .obtain⟨w2,z2⟩:=I.cell y c' e
    exact⟨w2,z2.sameBut f U⟩
  .obtain⟨e,n,Z,nf,d⟩:=I.pin p hp
   refine⟨(f.2 p.1 ?_).trans e,n,Z,nf,d⟩;intro q;rw[q,S]at e;have q':oc=p.2:=Option.some.inj e;exact d Y (by rw[←q'];exact T)
theorem pb{M:Model}{A:Around}{E:Value->Shared->Prop}{i:Nat}{x:Str}{v:V}{u:Value}{Q:Unit->Shared->Prop}(I:Inv X pins σ H s)(b:X.N.Nodup)(c:X.N[i]?=some x)(d:Loc X.env.scope x)(r:RelV v u)
  (h:∀a,Inv X pins (σ.set i (some v)) H a->Q () a) (e:X.fn x=true\/X.env.scope.names.lookup x=some .local:=by first|exact .inl rfl|exact .inr rfl|assumption):wpAny M A (storeName X.env x u) Q E s:=
 mr I b c d r (λa f _=>h a f) e
theorem Inv.call'{a:Shared}{ch:List Addr}(I:Inv X pins σ H s)(g:a.os=s.os)(u:Un (frs X.stack) ch H H' s.heap a.heap)(d:gN X.prog X.w H' a.heap)(h:AllBare a.gens)
  (f:∀b∈ch,(b∈X.ex\/X.s₀.heap.objs.size<=b)/\b≠X.env.locals/\(∀x c,X.env.cells.lookup x=some c->c≠b)/\∀p∈X.pn++pins,p.1≠b):Inv X pins σ H' a:=by
 obtain⟨j,g',d',t',i⟩:=a;have e:i=s.os:=g;subst e;exact I.call (g':=g') (t':=t') (d':=d') u d h f
end
abbrev XK:=Value->Option Addr->Hp->Prop
abbrev St:=List (Option V)
abbrev VK:=V->Hp->Prop
abbrev TE:=St->Hp->VK->Prop
abbrev TT:=St->Hp->(Bool->Hp->Prop)->Prop
abbrev TA:=St->Hp->(List V->Hp->Prop)->Prop
structure Ends where
 nx:St->Hp->Prop
 rt:VK
 bk:St->Hp->Prop:=λ_ _=>False
 ct:St->Hp->Prop:=λ_ _=>False
abbrev TS:=Ends->St->Hp->Prop
def EP(X:Cx)(pins:List (Addr×Obj))(b:St)(Q:VK)(u:Value)(c:Shared):Prop:=∃v a,Inv X pins b a c/\RelV v u/\Q v a
def TP(X:Cx)(pins:List (Addr×Obj))(c:St)(Q:Bool->Hp->Prop)(b:Bool)(d:Shared):Prop:=∃a,Inv X pins c a d/\Q b a
def AP(X:Cx)(pins:List (Addr×Obj))(c:St)(Q:List V->Hp->Prop)(us:List Value)(d:Shared):Prop:=∃a b,Inv X pins c b d/\Vals a us/\Q a b
def SP(X:Cx)(pins:List (Addr×Obj))(D:Ends)(f:Flow)(c:Shared):Prop:=
 match f with
 |.next=>∃a b,Inv X pins a b c/\D.nx a b
 |.brk=>∃a b,Inv X pins a b c/\D.bk a b
 |.cont=>∃a b,Inv X pins a b c/\D.ct a b
 |.ret u=>∃v a b,Inv X pins a b c/\RelV v u/\D.rt v b
def PE(X:Cx)(e:Expr)(t:TE):Prop:=
 ∀(pins:List (Addr×Obj)) (s:Shared) (a:St) (H:Hp) (Q:VK),Inv X pins a H s->t a H Q->wpAny (model X.prog X.w) X.A (eval e X.env) (EP X pins a Q) X.xe s
def PT(X:Cx)(e:Expr)(t:TT):Prop:=
 ∀(pins:List (Addr×Obj)) (s:Shared) (a:St) (H:Hp) (Q:Bool->Hp->Prop),Inv X pins a H s->t a H Q->wpAny (model X.prog X.w) X.A (isTrue e X.env (eval e X.env)) (TP X pins a Q) X.xe s
def PW(X:Cx)(e:Expr)(t:TT):Prop:=
 ∀(a:Sem Value) (pins:List (Addr×Obj)) (s:Shared) (b:St) (H:Hp) (Q:Bool->Hp->Prop),Inv X pins b H s->t b H Q->wpAny (model X.prog X.w) X.A (isTrue e X.env a) (TP X pins b Q) X.xe s
theorem PW.pt{X:Cx}{e:Expr}{t:TT}(h:PW X e t):PT X e t:=h _
def PA(X:Cx)(es:List Expr)(t:TA):Prop:=
 ∀(a:Pos) (pins:List (Addr×Obj)) (s:Shared) (b:St) (H:Hp) (Q:List V->Hp->Prop),Inv X pins b H s->t b H Q->wpAny (model X.prog X.w) X.A (spliced (backTo a (starEach es X.env))) (AP X pins b Q) X.xe s
def PS(X:Cx)(st:Stmt)(t:TS):Prop:=
 ∀(pins:List (Addr×Obj)) (s:Shared) (a:St) (H:Hp) (D:Ends),Inv X pins a H s->t D a H->wpAny (model X.prog X.w) X.A (exec st X.env) (SP X pins D) X.xe s
def jN(X:Cx)(st:List Stmt)(t:TS):Prop:=
 ∀(pins:List (Addr×Obj)) (s:Shared) (a:St) (H:Hp) (D:Ends),Inv X pins a H s->t D a H->wpAny (model X.prog X.w) X.A (execs st X.env) (SP X pins D) X.xe s
theorem cg{b:Type}{t:Sem b}{Q Q':b->Shared->Prop}{M:Model}{A:Around}{E:Value->Shared->Prop}{s:Shared}(h:wpAny M A t Q E s)(c:∀a s,Q a s->Q' a s):wpAny M A t Q' E s:=wpAny_mono h c λ_ _ x=>x
section
variable{X:Cx}
noncomputable def LG(i:Nat):TE:=λa H Q=>∃v,a[i]?=some (some v)/\Q v H
noncomputable def tC(v:V):TE:=λ_ H Q=>Q v H
theorem Df{i:Nat}{x:Str}{pos:Pos}(j:X.N[i]?=some x)(k:Fy X.env.scope x)(d:(x==("__debug__":Str))=false:=by decide)(f:(x==("__classdict__":Str))=false:=by decide):PE X (.Name x pos) (LG i):=by
 intro pins s n H Q I h;obtain⟨v,e,h⟩:=h;obtain⟨m,o,p⟩:=I.loc;obtain⟨u,r,l⟩:=p i x v j e k;have b:EP X pins n Q u s:=⟨v,H,I,r,h⟩;rcases l with ⟨hk,q⟩|⟨hk,c,g,a⟩
 .exact wpAny_Name (wpAny_loadName_local I.ok.kind hk o q b) d
 .rcases hk with hk|hk
  .exact wpAny_Name (wpAny_loadName_cell I.ok.kind hk g a b) d
  .exact wpAny_Name (wpAny_loadName_free I.ok.kind hk g a b f) d
theorem vX{i j pos}:PE X (.Constant (.int i) j pos) (tC (.int i)):=λ_ _ _ H _ I h=>wpAny_Constant_int ⟨.int i,H,I.tok _,⟨_,rfl⟩,h⟩
theorem FV{b j pos}:PE X (.Constant (.bool b) j pos) (tC (.bl b)):=λ_ _ _ H _ I h=>Constant_bool ⟨.bl b,H,I,rfl,h⟩
theorem Dg{j pos}:PE X (.Constant .none j pos) (tC .non):=λ_ _ _ H _ I h=>Constant_none ⟨.non,H,I,rfl,h⟩
theorem Dh{x j pos}:PE X (.Constant (.str x) j pos) (tC (.str x)):=λ_ _ _ H _ I h=>Calls.Constant_str ⟨.str x,H,I.tok _,⟨_,rfl⟩,h⟩
def Gl(X:Cx)(x:Str):Prop:=X.env.kindOf x=some .globalImplicit
theorem ix{E:Value->Shared->Prop}{pins:List (Addr×Obj)}{s:Shared}{a:St}{H:Hp}{x:Str}{u:Value}{pos:Pos}{Q:Value->Shared->Prop}(I:Inv X pins a H s)(b:Gl X x)(c:X.mg x=some u)(h:Q u s)
  (d:(x==("__debug__":Str))=false:=by decide):wpAny (model X.prog X.w) X.A (eval (.Name x pos) X.env) Q E s:=
 Calls.Name_function_global I.ok.kind b (Calls.loadGlobal_global (by rw[I.ok.glob];exact I.mod.glob.keeps I.bk) c h) d
theorem kA{E:Value->Shared->Prop}{pins:List (Addr×Obj)}{s:Shared}{a:St}{H:Hp}{x:Str}{u:Value}{pos:Pos}{Q:Value->Shared->Prop}(I:Inv X pins a H s)(b:Gl X x)(c:X.mg x=none)(d:bootBuiltins x=some u)(h:Q u s)
  (e:x≠"__name__":=by decide) (f:(x==("__debug__":Str))=false:=by decide):wpAny (model X.prog X.w) X.A (eval (.Name x pos) X.env) Q E s:=by
 obtain⟨j,g,i⟩:=I.mod.blt;exact Calls.Name_function_global I.ok.kind b (Calls.loadGlobal_builtin (by rw[I.ok.glob];exact I.mod.glob.keeps I.bk) c (by rw[I.ok.blt];exact g.keeps I.bk) ((i x e).trans d) h) f
theorem zm{x:Str}{v:V}{u:Value}{pos:Pos}(a:Gl X x)(b:X.mg x=some u)(r:RelV v u)(c:(x==("__debug__":Str))=false:=by decide):PE X (.Name x pos) (tC v):=
 λ_ _ _ H _ I h=>ix I a b ⟨v,H,I,r,h⟩ c
theorem zo{x:Str}{v:V}{u:Value}{pos:Pos}(a:Gl X x)(b:X.mg x=none)(c:bootBuiltins x=some u)(r:RelV v u)(d:x≠"__name__":=by decide)(e:(x==("__debug__":Str))=false:=by decide):PE X (.Name x pos) (tC v):=
 λ_ _ _ H _ I h=>kA I a b c ⟨v,H,I,r,h⟩ d e
variable{a b:Expr}{ta tb:TE}{pos:Pos}
variable{tA JY:TT}{rest:List Expr}
noncomputable def LH(t u:TT):TT:=λa H Q=>t a H λc b=>if c=true then u a b Q else Q false b
noncomputable def Ul(t u:TT):TT:=λa H Q=>t a H λc b=>if c=true then Q true b else u a b Q
noncomputable def LI(t:TT):TT:=λa H Q=>t a H λc b=>Q (!c) b
theorem pw_and1(b:PT X a tA):PW X (.BoolOp .And [a] pos) tA:=by
 intro f pins s d H Q I h;refine isTrue_and (cg (b pins s d H Q I h) λc g e=>?_)
 cases c with
 |true=>exact isTrue_and_nil e
 |false=>exact e
theorem pw_or1(b:PT X a tA):PW X (.BoolOp .Or [a] pos) tA:=by
 intro f pins s d H Q I h;refine isTrue_or (cg (b pins s d H Q I h) λc g e=>?_)
 cases c with
 |false=>exact isTrue_or_nil e
 |true=>exact e
theorem pw_and(f:PT X a tA)(g:PW X (.BoolOp .And (b::rest) pos) JY):PW X (.BoolOp .And (a::b::rest) pos) (LH tA JY):=by
 intro i pins s d H Q I h;refine isTrue_and (cg (f pins s d H _ I h) λc j ⟨e,I1,q1⟩=>?_)
 cases c with
 |true=>exact g i pins j d e Q I1 q1
 |false=>exact⟨e,I1,q1⟩
theorem pw_or(f:PT X a tA)(g:PW X (.BoolOp .Or (b::rest) pos) JY):PW X (.BoolOp .Or (a::b::rest) pos) (Ul tA JY):=by
 intro i pins s d H Q I h;refine isTrue_or (cg (f pins s d H _ I h) λc j ⟨e,I1,q1⟩=>?_)
 cases c with
 |true=>exact⟨e,I1,q1⟩
 |false=>exact g i pins j d e Q I1 q1
theorem Di(b:PT X a tA):PT X (.UnaryOp .Not a pos) (LI tA):=by
 intro pins s d H Q I h;exact isTrue_not (b pins s d H (λc e=>Q (!c) e) I h)
theorem Dj{op}{t:TE}(h:PE X a t):PE X (.BoolOp op [a] pos) t:=λpins s b H Q I c=>BoolOp_one (h pins s b H Q I c)
noncomputable def Fz(t:TT)(d tb:TE):TE:=λa H Q=>t a H λc b=>if c=true then d a b Q else tb a b Q
theorem vY{c:Expr}(i:PT X c tA)(j:PE X a ta)(k:PE X b tb):PE X (.IfExp c a b pos) (Fz tA ta tb):=by
 intro pins s e H Q I h;refine wpAny_IfExp (cg (i pins s e H _ I h) λd f ⟨g,I1,q1⟩=>?_)
 cases d with
 |true=>exact j pins f e g Q I1 q1
 |false=>exact k pins f e g Q I1 q1
end
def j8(K:PySem.W.Frag)(H:Hp)(a:Addr)(xs:List V):Prop:=
 Rd H a (.lst xs) \/
  ∃(o:Obj) (b:Array Value) (n:Nat),K.lookup a=some o/\o.cls=.type "list"/\o.dict=none/\o.data=.seq b n/\b.size<=sizeLine/\Vals xs b.toList
def qT(K:PySem.W.Frag)(H:Hp)(a:Addr)(xs:List V):Prop:=
 Rd H a (.tup xs) \/
  ∃(o:Obj) (b:Array Value) (n:Nat),K.lookup a=some o/\o.cls=.type "tuple"/\o.data=.seq b n/\b.size<=sizeLine/\Vals xs b.toList
noncomputable def LJ:Value->Option V
 |.none=>some .non
 |.bool b=>some (.bl b)
 |.int i _=>some (.int i)
 |.str x _=>some (.str x)
 |.bytes b _=>some (.Fx b)
 |.float b _=>some (.flt b)
 |.ref a=>some (.ref a)
 |.type n=>some (.ty n)
 |_=>none
theorem RelV.abs{x:V}{u:Value}(r:RelV x u):LJ u=some x:=by
 cases x with
 |non=>cases r;rfl
 |bl _=>cases r;rfl
 |int _=>obtain⟨t,rfl⟩:=r;rfl
 |str _=>obtain⟨t,rfl⟩:=r;rfl
 |Fx _=>obtain⟨t,rfl⟩:=r;rfl
 |flt _=>obtain⟨t,rfl⟩:=r;rfl
 |ref _=>cases r;rfl
 |ty _=>cases r;rfl
theorem RelV.inj{x y:V}{u:Value}(r:RelV x u)(q:RelV y u):x=y:=Option.some.inj (r.abs.symm.trans q.abs)
theorem Vals.inj:∀{xs a:List V}{us:List Value},Vals xs us->Vals a us->xs=a
 |_,_,_,.nil,.nil=>rfl
 |_,_,_,.cons r t,.cons b c=>by rw[r.inj b,Vals.inj t c]
section
variable{X:Cx}{pins:List (Addr×Obj)}{σ:St}{H:Hp}{s:Shared}{a:Addr}{xs ys:List V}
theorem Inv.list(I:Inv X pins σ H s)(h:j8 X.K H a xs):∃b:List Value,Vals xs b/\PlainL s.heap a b.toArray/\xs.length<=sizeLine:=by
 rcases h with h|⟨o,b,n,c,d,f,g,i,r⟩
 .obtain⟨z,b,n,r,e⟩:=h.ok I.hok
  exact⟨b,r,⟨_,n,e,rfl,rfl,rfl⟩,z⟩
 .refine⟨b.toList,r,⟨o,n,I.je a o c,d,f,by simpa using g⟩,?_⟩
  have e:=r.length;simp only[Array.length_toList]at e;omega
theorem Inv.tuple(I:Inv X pins σ H s)(h:qT X.K H a xs):∃b:List Value,Vals xs b/\IsTup s.heap a b.toArray/\xs.length<=sizeLine:=by
 rcases h with h|⟨o,b,n,c,d,f,g,r⟩
 .obtain⟨z,b,r,p⟩:=h.ok I.hok
  exact⟨b,r,p,z⟩
 .refine⟨b.toList,r,⟨o,I.je a o c,d,n,by simpa using f⟩,?_⟩
  have e:=r.length;simp only[Array.length_toList]at e;omega
theorem Inv.pe(I:Inv X pins σ H s)(h:j8 X.K H a xs)(h':j8 X.K H a ys):xs=ys:=by
 obtain⟨c,r,⟨o,n,e,_,_,d⟩,_⟩:=I.list h;obtain⟨b,i,⟨j,k,f,_,_,g⟩,_⟩:=I.list h';rw[e]at f;cases f
 rw[d]at g;injection g with d1 _;have:c=b:=by simpa using congrArg Array.toList d1
 subst this;exact r.inj i
theorem Inv.uF(I:Inv X pins σ H s)(h:qT X.K H a xs)(h':qT X.K H a ys):xs=ys:=by
 obtain⟨c,r,⟨o,e,_,n,d⟩,_⟩:=I.tuple h;obtain⟨b,i,⟨j,f,_,k,g⟩,_⟩:=I.tuple h';rw[e]at f;cases f
 rw[d]at g;injection g with d1 _;have:c=b:=by simpa using congrArg Array.toList d1
 subst this;exact r.inj i
end
abbrev Cx.wish(X:Cx)(E:Value->Shared->Prop):Cx:={X with xe:=E}
abbrev Cx.Dk(X:Cx):Cx:=X.wish λ_ _=>False
theorem Cx.Ok.wish{X:Cx}(ok:X.Ok)(E:Value->Shared->Prop):(X.wish E).Ok:=
 ⟨ok.mod,ok.kind,ok.glob,ok.blt,ok.above,ok.inj,ok.has,ok.cab,ok.hd,ok.frames,ok.JW,ok.JX,ok.bs,ok.Ck,ok.vV,ok.vW,ok.jM,ok.De⟩
theorem Cx.Ok.gn{X:Cx}{E:Value->Shared->Prop}(ok:(X.wish E).Ok):X.Ok:=
 ⟨ok.mod,ok.kind,ok.glob,ok.blt,ok.above,ok.inj,ok.has,ok.cab,ok.hd,ok.frames,ok.JW,ok.JX,ok.bs,ok.Ck,ok.vV,ok.vW,ok.jM,ok.De⟩
section
variable{X:Cx}{pins:List (Addr×Obj)}{σ:St}{H:Hp}{s:Shared}{E:Value->Shared->Prop}
theorem Inv.wish(I:Inv X pins σ H s)(E:Value->Shared->Prop):Inv (X.wish E) pins σ H s:=⟨I.ok.wish E,I.os,I.bare,I.base,I.loc,I.cell,I.free,I.gm,I.pin,I.hok,I.len⟩
theorem Inv.gn(I:Inv (X.wish E) pins σ H s):Inv X pins σ H s:=⟨I.ok.gn,I.os,I.bare,I.base,I.loc,I.cell,I.free,I.gm,I.pin,I.hok,I.len⟩
theorem SP.gn{D:Ends}{f:Flow}{c:Shared}(h:SP (X.wish E) pins D f c):SP X pins D f c:=by
 cases f with
 |next=>obtain⟨a,b,I,q⟩:=h;exact⟨a,b,I.gn,q⟩
 |brk=>obtain⟨a,b,I,q⟩:=h;exact⟨a,b,I.gn,q⟩
 |cont=>obtain⟨a,b,I,q⟩:=h;exact⟨a,b,I.gn,q⟩
 |ret u=>obtain⟨v,a,b,I,r,q⟩:=h;exact⟨v,a,b,I.gn,r,q⟩
theorem jN.Dk{st:List Stmt}{t:TS}(h:jN X.Dk st t):jN X st t:=λpins s a H D I b=>
 wpAny_mono (h pins s a H D (I.wish _) b) (λ_ _ q=>q.gn) λ_ _ z=>False.elim z
end
section
variable{X:Cx}{st:Stmt}{rest:List Stmt}{t u:TS}{e:Expr}{te:TE}{pos:Pos}
noncomputable def FW:TS:=λD a H=>D.nx a H
noncomputable def LK(t u:TS):TS:=λD a H=>t {D with nx:=u D} a H
theorem zp:jN X [] FW:=λ_ _ a H _ I h=>wpAny_execs_nil ⟨a,H,I,h⟩
theorem vZ(b:PS X st t)(c:jN X rest u):jN X (st::rest) (LK t u):=by
 intro pins s d H D I h;refine wpAny_execs_cons (cg (b pins s d H {D with nx:=u D} I h) λf e q=>?_)
 cases f with
 |next=>
  obtain⟨a,g,i,q⟩:=q;exact c pins e a g D i q
 |ret v=>exact q
 |brk=>exact q
 |cont=>exact q
theorem Inv.quiet{pins:List (Addr×Obj)}{a:St}{H:Hp}{s:Shared}(I:Inv X pins a H s):interactive X.env=false:=by simp[interactive,I.ok.kind]
noncomputable def FX(b:TE):TS:=λD a H=>b a H λ_ c=>D.nx a c
theorem zq(b:PE X e te)(c:swapsWith e none pos.line X.env=pure false:=by rfl):PS X (.Expr e pos) (FX te):=by
 intro pins s a H D I h;exact wpAny_Expr_any (cg (b pins s a H _ I h) λv d ⟨x,H1,I1,r1,q1⟩=>⟨a,H1,I1,q1⟩) I.quiet c
noncomputable def LM(a:TE):TS:=λD b H=>a b H D.rt
theorem Dl(b:PE X e te):PS X (.Return (some e) pos) (LM te):=by
 intro pins s a H D I h;exact wpAny_Return_some (cg (b pins s a H _ I h) λv c ⟨x,H1,I1,r1,q1⟩=>⟨x,a,H1,I1,r1,q1⟩)
noncomputable def FY:TS:=λD _ H=>D.rt .non H
theorem zr:PS X (.Return none pos) FY:=λ_ _ a H _ I h=>wpAny_Return_none ⟨.non,a,H,I,rfl,h⟩
noncomputable def LN(c:TT)(t u:TS):TS:=λD a H=>c a H λb d=>if b=true then t D a d else u D a d
theorem FZ{c:Expr}{a b:List Stmt}{f:TT}(j:PT X c f)(k:jN X a t)(l:jN X b u):PS X (.If c a b pos) (LN f t u):=by
 intro pins s e H D I h;refine wpAny_If (cg (j pins s e H _ I h) λd g ⟨i,I1,q1⟩=>?_)
 cases d with
 |true=>exact k pins g e i D I1 q1
 |false=>exact l pins g e i D I1 q1
end
abbrev TG:=V->St->Hp->(St->Hp->Prop)->Prop
abbrev Cm:=List V->St->Hp->(St->Hp->Prop)->Prop
def PG(X:Cx)(a:Expr)(t:TG):Prop:=
 ∀(pins:List (Addr×Obj)) (s:Shared) (c:St) (H:Hp) (v:V) (u:Value) (Q:St->Hp->Prop),Inv X pins c H s->RelV v u->t v c H Q ->
  wpAny (model X.prog X.w) X.A (assign a X.env u) (λ_ e=>∃b d,Inv X pins b d e/\Q b d) X.xe s
def F8(X:Cx)(f:List Expr)(t:Cm):Prop:=
 ∀(pins:List (Addr×Obj)) (s:Shared) (b:St) (H:Hp) (c:List V) (d:List Value) (Q:St->Hp->Prop),Inv X pins b H s->Vals c d->t c b H Q ->
  wpAny (model X.prog X.w) X.A (assignInOrder ((assignEach f X.env).map (·.2)) d) (λ_ g=>∃a e,Inv X pins a e g/\Q a e) X.xe s
abbrev LP:=V->V->V->Hp->(Hp->Prop)->Prop
def LQ(X:Cx)(t:LP):Prop:=
 ∀(pins:List (Addr×Obj)) (s:Shared) (a:St) (H:Hp) (o i v:V) (b c u:Value) (Q:Hp->Prop),Inv X pins a H s->RelV o b->RelV i c->RelV v u->t o i v H Q ->
  wpAny (model X.prog X.w) X.A (setItem b c u) (λ_ e=>∃d,Inv X pins a d e/\Q d) X.xe s
section
variable{X:Cx}{pos:Pos}
noncomputable def hY(i:Nat):TG:=λv a H Q=>Q (a.set i (some v)) H
theorem nt{i:Nat}{x:Str}(a:X.N.Nodup)(b:X.N[i]?=some x)(c:Loc X.env.scope x)(d:X.fn x=true\/X.env.scope.names.lookup x=some .local:=by first|exact .inl rfl|exact .inr rfl|assumption):PG X (.Name x pos) (hY i):=by
 intro pins s f H v u Q I r h;exact wpAny_assign_Name (pb I a b c r (λg e=>⟨_,H,e,h⟩) d)
noncomputable def F9:Cm:=λa b H Q=>a=[]/\Q b H
noncomputable def Cn(t:TG)(u:Cm):Cm:=λb c H Q=>∃v r,b=v::r/\t v c H λa d=>u r a d Q
theorem zt:F8 X [] F9:=by
 intro pins s a H b c Q I r h;obtain⟨e,h⟩:=h;subst e;cases r;exact assignInOrder_nil ⟨a,H,I,h⟩
theorem v8{e:Expr}{es:List Expr}{t:TG}{u:Cm}(b:PG X e t)(c:F8 X es u)
  (d:(assignEach (e::es) X.env).map (·.2)=assign e X.env::(assignEach es X.env).map (·.2):=by rfl):F8 X (e::es) (Cn t u):=by
 intro pins s f H k l Q I r h;obtain⟨v,vr,g,h⟩:=h;subst g;cases r with
 |cons r i=>
  rw[d];refine assignInOrder_cons (cg (b pins s f H _ _ _ I r h) λ_ j ⟨a,H1,I1,q1⟩=>?_)
  exact c pins j a H1 _ _ Q I1 i q1
noncomputable def zu(K:PySem.W.Frag)(n:Nat)(t:Cm):TG:=λv c H Q=>∃a b,v=.ref a/\qT K H a b/\b.length=n/\t b c H Q
theorem Dm{es:List Expr}{k:Nat}{t:Cm}{n:Nat}(i:X.calm=true)(h:F8 X es t)
  (j:(assignEach es X.env).length=n:=by rfl) (c:(assignEach es X.env).findIdx? (·.1)=none:=by rfl):PG X (.Tuple es k pos) (zu X.K n t):=by
 intro pins s f H v u Q I r d;obtain⟨a,l,m,p,q,d⟩:=d;subst m;cases r;obtain⟨w,g,x,B⟩:=I.tuple p;refine assign_Tuple_tuple (I.ok.hd i) x (by simp[j,←q,g.length]) c λy z=>?_
 have A:Inv X pins f H {s with heap:=y}:=I.kept (t':=s.toks) λb o e=>z b o (Nat.ne_of_lt (Heap.lt_size e)) e
 exact h pins _ f H l _ Q A (by simpa using g) d
noncomputable def Dn(b:TE)(g:TG):TS:=λD a H=>b a H λx c=>g x a c D.nx
theorem Dp{a e:Expr}{b:TE}{g:TG}(d:PE X e b)(f:PG X a g)(i:swapsWithSole [a] e pos.line X.env=pure false:=by rfl)(j:swappedStores [a] e X.env=pure none:=by rfl)
  (k:(assignEach [a] X.env).map (·.2)=[assign a X.env]:=by rfl):PS X (.Assign [a] e pos) (Dn b g):=by
 intro pins s c H D I h;refine wpAny_Assign_stores (cg (d pins s c H _ I h) λv l ⟨x,H1,I1,r1,q1⟩=>?_) i j
 rw[k];exact cg (f pins l c H1 x v _ I1 r1 q1) λ_ m q=>q
theorem Dq{i:Nat}{x:Str}{e:Expr}{b:TE}{a:Pos}(c:X.N.Nodup)(d:X.N[i]?=some x)(f:Loc X.env.scope x)(g:PE X e b)(j:swapsWith e (some (.Name x a)) pos.line X.env=pure false:=by rfl)(k:X.fn x=true\/X.env.scope.names.lookup x=some .local:=by first|exact .inl rfl|exact .inr rfl|assumption) :
  PS X (.Assign [.Name x a] e pos) (Dn b (hY i)):=by
 intro pins s l H D I h;refine wpAny_Assign_Name (cg (g pins s l H _ I h) λv r ⟨y,m,n,o,p⟩=>?_) j
 exact pb n c d f o (λt q=>⟨_,m,q,p⟩) k
noncomputable def Dr(c:TT)(tb:TS):TS:=λD a H=>∃W:Nat->St->Hp->Prop,(∃m,W m a H)/\∀m a H,W m a H ->
 c a H λb e=>if b=true then ∃N:St->Hp->Prop,(∀d f,N d f->∃g,g<m/\W g d f)/\tb {D with nx:=N,ct:=N,bk:=D.nx} a e else D.nx a e
theorem v9{c:Expr}{body:List Stmt}{r:TT}{tb:TS}(t:PassesOwn (model X.prog X.w) X.A X.env X.xe)(B:PT X c r)(C:jN X body tb):PS X (.While c body [] pos) (Dr r tb):=by
 intro pins s E H D I h;obtain⟨W,⟨F,G⟩,e⟩:=h;refine wpAny_While (codeAny_whileLoop (λn J=>∃g u,Inv X pins g u J/\W n g u) ?_ F ⟨E,H,I,G⟩)
 rintro n K ⟨d,x,L,M⟩;refine wpAny_passesOwn t (cg (B pins K d x _ L (e n d x M)) λb O ⟨y,I2,j⟩=>?_)
 cases b with
 |true=>
  obtain⟨N,z,j⟩:=j;rw[if_pos rfl];refine wpAny_passesOwn t (cg (C pins O d y _ I2 j) λf P k=>?_)
  cases f with
  |next=>
   obtain⟨a,i,l,m⟩:=k;obtain⟨o,p,q⟩:=z a i m;exact⟨o,p,a,i,l,q⟩
  |cont=>
   obtain⟨a,i,l,m⟩:=k;obtain⟨o,p,q⟩:=z a i m;exact⟨o,p,a,i,l,q⟩
  |brk=>exact k
  |ret v=>exact k
 |false=>
  rw[if_neg Bool.false_ne_true];exact wpAny_execs_nil ⟨d,y,I2,j⟩
end
structure It where
 go:Nat->Hp->Prop
 JZ:Nat->Hp->V->Hp->Prop
 stop:Nat->Hp->Prop
def lZ(X:Cx)(pins:List (Addr×Obj))(H:Hp)(b:Addr):Prop:=
 H b=none/\b≠X.env.locals/\b∉X.fs/\(b∈X.ex\/X.s₀.heap.objs.size<=b)/\(∀x c,X.env.cells.lookup x=some c->c≠b)/\∀p∈X.pn++pins,p.1≠b
theorem Inv.v_{X:Cx}{pins:List (Addr×Obj)}{f:St}{H d:Hp}{s:Shared}{b:Addr}(I:Inv X pins f H s)(a:s.heap.objs.size<=b)(g:d b=none):lZ X pins d b:=by
 refine⟨g,Nat.ne_of_gt (Nat.lt_of_lt_of_le I.lt a),I.LD a,.inr (Nat.le_trans I.sz a),λx c e z=>?_,λp h z=>?_⟩
 .obtain⟨v,q⟩:=I.cell x c e
  exact absurd (Nat.lt_of_lt_of_le q.lt (by rw[z];exact a)) (Nat.lt_irrefl _)
 .exact absurd (Nat.lt_of_lt_of_le (Heap.lt_size (I.pin p h).1) (by rw[z];exact a)) (Nat.lt_irrefl _)
structure Turn(P:Program)(w:World)(K:PySem.W.Frag)(tg:Expr)(J:It)(fp:List Addr)(it:Addr)(tn:Nat->Heap->Prop):Prop where
 mem:it∈fp
 obj:∀i h,tn i h->∀b∈fp,∃o,h.get? b=some o/\∀v,o.data≠.cell v
 keep:∀i h h',tn i h->(∀b∈fp,∀o,h.get? b=some o->h'.get? b=some o)->tn i h'
 item:∀(X:Cx),X.prog=P->X.w=w->X.K=K->X.calm=true->∀(i:Nat) (pins:List (Addr×Obj)) (s:Shared) (σ:St) (H:Hp) (E:Value->Shared->Prop),Inv X pins σ H s->(∀b∈fp,lZ X pins H b)->tn i s.heap->J.go i H ->
  wpAny (model P w) X.A (pyNext (.ref it)) (λr s1=>∃u,r=some u /\
   wpAny (model P w) X.A (letOwnedTupleGo tg (.ref it) u) (λ_ s2=>∃x H',Inv X pins σ H' s2/\RelV x u/\J.JZ i H x H'/\tn (i+1) s2.heap/\∀b∈fp,H' b=none) E s1) E s
 done:∀(X:Cx),X.prog=P->X.w=w->X.K=K->X.calm=true->∀(i:Nat) (pins:List (Addr×Obj)) (s:Shared) (σ:St) (H:Hp) (E:Value->Shared->Prop),Inv X pins σ H s->(∀b∈fp,lZ X pins H b)->tn i s.heap->J.stop i H ->
  wpAny (model P w) X.A (pyNext (.ref it)) (λr s1=>r=none/\Inv X pins σ H s1) E s
 self:∀(A:Around) (i:Nat) (s:Shared) (Q:Value->Shared->Prop) (E:Value->Shared->Prop),tn i s.heap->Q (.ref it) s->wpAny (model P w) A (pyIter (.ref it)) Q E s
abbrev TI:=St->Hp->(It->Hp->Prop)->Prop
def PIE(X:Cx)(pins:List (Addr×Obj))(h:St)(i:Expr)(R:It->Hp->Prop)(a:Value)(d:Shared):Prop:=
 ∃(e:Addr) (f:List Addr) (g:Nat->Heap->Prop) (J:It) (c:Hp),a=.ref e/\Inv X pins h c d/\Turn X.prog X.w X.K i J f e g/\g 0 d.heap/\(∀b∈f,lZ X pins c b)/\R J c
def PI(X:Cx)(b iter:Expr)(c:TI):Prop:=
 ∀(pins:List (Addr×Obj)) (s:Shared) (a:St) (H:Hp) (R:It->Hp->Prop),Inv X pins a H s->c a H R ->
  wpAny (model X.prog X.w) X.A (eval iter X.env) (λv d=>wpAny (model X.prog X.w) X.A (pyIter v) (PIE X pins a b R) X.xe d) X.xe s
theorem mu{M:Model}{A:Around}{E:Value->Shared->Prop}{s:Shared}{b:Expr}{it:Addr}{u:Value}{o:Obj}{n:String}{vs:Array Value}{Q:Unit->Shared->Prop}(c:s.heap.get? it=some o)(d:o.cls=.type n)(e:o.data=.fields vs)
    (f:["enumerate","zip","dict_itemiterator","dict_reverseitemiterator","odict_iterator","itertools.zip_longest","itertools.pairwise"].contains n=false) (a:Q () s):wpAny M A (letOwnedTupleGo b (.ref it) u) Q E s:=by
  unfold letOwnedTupleGo
  cases b<;>first
    |exact wpAny_pure a
    | (cases u<;>first
        |exact wpAny_pure a
        | (refine wpAny_bind (wpAny_load c ?_)
           rw[d,e]
           show wpAny M A (if (["enumerate","zip","dict_itemiterator","dict_reverseitemiterator","odict_iterator","itertools.zip_longest","itertools.pairwise"].contains n&&vs[0]?==some (rawInt _))=true then _ else _) Q E s
           rw[if_neg (by intro h;rw[f,Bool.false_and]at h;cases h)]
           exact wpAny_pure a))
noncomputable def LR(K:PySem.W.Frag)(a:Addr):It:=
 ⟨λi H=>∃b x,j8 K H a b/\b[i]?=some x,λi H x c=>c=H/\∀b,j8 K H a b->b[i]?=some x,λi H=>∃b,j8 K H a b/\b.length<=i⟩
noncomputable def LS(K:PySem.W.Frag)(a:Addr):It:=
 ⟨λi H=>∃b x,qT K H a b/\b[i]?=some x,λi H x c=>c=H/\∀b,qT K H a b->b[i]?=some x,λi H=>∃b,qT K H a b/\b.length<=i⟩
noncomputable def F_(a:Int)(n:Nat):It:=⟨λi _=>i<n,λi H x b=>b=H/\x=.int (a+i),λi _=>n<=i⟩
theorem uG{P:Program}{w:World}{K:PySem.W.Frag}{O:Expr}(a it:Addr):Turn P w K O (LR K a) [it] it (λi h=>h.IsListIter it a i) where
 mem:=by simp
 obj:=λi h f b g=>by
  have e:b=it:=by simpa using g
  subst e;obtain⟨o,e,c,d⟩:=f;exact⟨o,e,λv z=>by rw[d]at z;cases z⟩
 keep:=λi h l f k=>f.at λo e=>k it (by simp) o e
 item:=by
  intro X q r t M i pins s N H E I m f y;subst q r t;obtain⟨Q,x,n,A⟩:=y;obtain⟨B,C,p,R⟩:=I.list n;obtain⟨u,S,T⟩:=C.get A;obtain⟨D,F,U,G,J,L⟩:=m it (by simp)
  refine wpAny_pyNext_list_item f p.isList (x:=u) (by simpa using S) λl j V=>?_
  have Y:Inv X pins N H {s with heap:=l}:=I.turned (t':=s.toks) (λb o g e=>(V.2 b g).trans e) D F G J L
  obtain⟨o,e,c,d⟩:=id j;exact⟨u,rfl,mu (s:={s with heap:=l}) e c d (by decide) ⟨x,H,Y,T,⟨rfl,λys Z=>by rw[I.pe Z n];exact A⟩,j,λb g=>(m b g).1⟩⟩
 done:=by
  intro X q r t M i pins s N H E I m f y;subst q r t;obtain⟨Q,n,A⟩:=y;obtain⟨B,C,p,R⟩:=I.list n;obtain⟨D,F,U,G,J,L⟩:=m it (by simp)
  have hl:=C.length;exact wpAny_pyNext_list_end (I.ok.hd M) f p.isList (by simp;omega) λl eb=>⟨rfl,I.turned (t':=s.toks) (λb o g e=>eb b o g e) D F G J L⟩
 self:=λ_ _ _ _ _ f h=>wpAny_pyIter_listiter f h
theorem qU{P:Program}{w:World}{K:PySem.W.Frag}{O:Expr}(a it:Addr):Turn P w K O (LS K a) [it] it (λi h=>h.IsTupleIter it a i) where
 mem:=by simp
 obj:=λi h f b g=>by
  have e:b=it:=by simpa using g
  subst e;obtain⟨o,e,c,d⟩:=f;exact⟨o,e,λv z=>by rw[d]at z;cases z⟩
 keep:=λi h m f k=>f.at λo e=>k it (by simp) o e
 item:=by
  intro X r t y M i pins s N H E I n f A;subst r t y;obtain⟨Q,x,q,B⟩:=A;obtain⟨j,C,p,R⟩:=I.tuple q;obtain⟨u,S,T⟩:=C.get B;obtain⟨D,F,U,G,J,L⟩:=n it (by simp)
  refine wpAny_pyNext_tuple_item f (show s.heap.IsTuple a j.toArray from p) (x:=u) (by simpa using S) λm l V=>?_
  have Y:Inv X pins N H {s with heap:=m}:=I.turned (t':=s.toks) (λb o g e=>(V.2 b g).trans e) D F G J L
  obtain⟨o,e,c,d⟩:=id l;exact⟨u,rfl,mu (s:={s with heap:=m}) e c d (by decide) ⟨x,H,Y,T,⟨rfl,λys Z=>by rw[I.uF Z q];exact B⟩,l,λb g=>(n b g).1⟩⟩
 done:=by
  intro X r t y M i pins s N H E I n f A;subst r t y;obtain⟨Q,q,B⟩:=A;obtain⟨j,C,p,R⟩:=I.tuple q;obtain⟨D,F,U,G,J,L⟩:=n it (by simp)
  have hl:=C.length;exact wpAny_pyNext_tuple_end (I.ok.hd M) f (show s.heap.IsTuple a j.toArray from p) (by simp;omega) λm eb=>⟨rfl,I.turned (t':=s.toks) (λb o g e=>eb b o g e) D F G J L⟩
 self:=λ_ _ _ _ _ f h=>wpAny_pyIter_tupleiter f h
theorem qV{P:Program}{w:World}{K:PySem.W.Frag}{F:Expr}(it:Addr)(f:Int)(n:Nat):Turn P w K F (F_ f n) [it] it (λi h=>IsRangeIter h it (f+(i:Nat)*1) ((n:Int) - (i:Nat)) 1) where
 mem:=by simp
 obj:=λi h a b c=>by
  have e:b=it:=by simpa using c
  subst e
  exact⟨_,a,λv z=>by
   have G:Data.fields _=Data.cell v:=z;cases G⟩
 keep:=λi h g a k=>k it (by simp) _ a
 item:=by
  intro X l m p q i pins s C H E I j a r;subst l m p;obtain⟨u,x,J,y,A,B⟩:=j it (by simp)
  have W:=Walks.range (prog:=X.prog) (w:=X.w) (I.ok.hd q) it f 1 n;refine W.item i s _ _ r a λv g D L d M=>?_
  obtain⟨t,rfl⟩:=L;have N:Inv X pins C H {s with heap:=g,toks:=D}:=I.turned (λb o c e=>M b o (by simpa using c) e) u x y A B
  refine⟨_,rfl,mu (s:={s with heap:=g,toks:=D}) (n:="range_iterator") d rfl rfl (by decide) ⟨.int (f+i),H,N,⟨t,?_⟩,⟨rfl,rfl⟩,d,λb c=>(j b c).1⟩⟩
  rw[Int.mul_one]
 done:=by
  intro X l m p q i pins s C H E I j a r;subst l m p;obtain⟨u,x,J,y,A,B⟩:=j it (by simp)
  exact wpAny_pyNext_range_end (I.ok.hd q) a (by have:n<=i:=r;omega) λg O=>⟨rfl,I.turned (t':=s.toks) (λb o c e=>O b o c e) u x y A B⟩
 self:=λ_ _ _ _ _ a h=>wpAny_pyIter_rangeiter a h
section
variable{X:Cx}{tg:Expr}
theorem wa{pins:List (Addr×Obj)}{d:St}{H:Hp}{s:Shared}{R:It->Hp->Prop}{E:Value->Shared->Prop}{a c:Int}{t u v:Tok}{f:Nat}(I:Inv X pins d H s)(h : -(2 ^ 62)<=a)(i:a<2 ^ 62)(j : -(2 ^ 62)<=c)(k:c<2 ^ 62)
  (q:R (F_ a (c - a).toNat) H):wpAny (model X.prog X.w) X.A (pyIter (.ref s.heap.objs.size)) (PIE X pins d tg R) E {s with heap:=s.heap.push {cls:=.type "range",data:=.fields #[.int a t,.int c u,.int 1 v]},toks:=f}:=by
 refine wpAny_pyIter_range (IsRange.new ..) (small_one h i j k) ?_;have g:Inv X pins d H {s with heap:=s.heap.push {cls:=.type "range",data:=.fields #[.int a t,.int c u,.int 1 v]},toks:=f}:=I.kept λb o e=>Heap.get?_push_of_some _ e
 refine⟨(s.heap.push {cls:=.type "range",data:=.fields #[.int a t,.int c u,.int 1 v]}).objs.size,[(s.heap.push {cls:=.type "range",data:=.fields #[.int a t,.int c u,.int 1 v]}).objs.size],_,_,H,rfl,
  g.kept (t':=f) λb o e=>Heap.get?_push_of_some _ e,qV _ a (c - a).toNat,?_,λb l=>?_,q⟩
 .have m:a+((0:Nat):Int)*1=a:=by simp
  have n:(((c - a).toNat:Nat):Int) - ((0:Nat):Int)=Builtin.Range.rangeSize a c 1:=by rw[rangeSize_one];split<;>omega
  show IsRangeIter _ _ (a+((0:Nat):Int)*1) ((((c - a).toNat:Nat):Int) - ((0:Nat):Int)) 1
  rw[m,n];exact Heap.get?_push_size _ rfl
 .have e:b=(s.heap.push {cls:=.type "range",data:=.fields #[.int a t,.int c u,.int 1 v]}).objs.size:=by simpa using l
  subst e;exact g.v_ (Nat.le_refl _) (g.hok.fresh (Nat.le_refl _))
def Ga(a:TA):TI:=λb H R=>a b H λc d=>∃j:Int,c=[.int j] /\ -(2 ^ 62)<=j/\j<2 ^ 62/\R (F_ 0 j.toNat) d
theorem uH{a:Expr}{c:TA}{p pos:Pos}(d:Gl X "range")(f:X.mg "range"=none)(g:PA X [a] c)(i:starEach [a] X.env=[(false,eval a X.env)]:=by rfl):PI X tg (.Call (.Name "range" p) [a] [] pos) (Ga c):=by
 intro pins s k H R I h;refine Call_ (kA I d f boot_range (PyProof.Rows.callWith_type1 (cg (g pos pins s k H _ I h) λo u ⟨w,H1,I1,l,b⟩=>?_) i rfl))
 obtain⟨j,e,b,m,q⟩:=b;subst e;cases l with
 |cons r n=>
  cases n;obtain⟨t,rfl⟩:=r;exact call_range_1 (wa I1 (by omega) (by omega) b m (by simpa using q))
noncomputable def LU(f:TI)(g:TG)(tb:TS):TS:=λD a H=>f a H λJ h=>∃W:Nat->Nat->St->Hp->Prop,(∃m,W 0 m a h)/\∀i m a H,W i m a H ->
 (J.stop i H/\D.nx a H)\/(J.go i H/\∃N:St->Hp->Prop,(∀b c,N b c->∃e,e<m/\W (i+1) e b c)/\∀x c,J.JZ i H x c->g x a c λd j=>tb {D with nx:=N,ct:=N,bk:=D.nx} d j)
noncomputable def kB(fp:List Addr)(h:Heap):List (Addr×Obj):=fp.filterMap λb=>(h.get? b).map λo=>(b,o)
theorem fI{fp:List Addr}{h:Heap}{b:Addr}{o:Obj}(a:b∈fp)(e:h.get? b=some o):(b,o)∈kB fp h:=List.mem_filterMap.mpr ⟨b,a,by rw[e];rfl⟩
theorem uI{fp:List Addr}{h:Heap}{p:Addr×Obj}(a:p∈kB fp h):p.1∈fp/\h.get? p.1=some p.2:=by
 obtain⟨b,c,e⟩:=List.mem_filterMap.mp a;cases q:h.get? b with
 |none=>rw[q]at e;cases e
 |some o=>
  rw[q]at e;have d:(b,o)=p:=Option.some.inj e;subst d;exact⟨c,q⟩
theorem Inv.pinned{pins:List (Addr×Obj)}{a:St}{H:Hp}{s:Shared}{fp:List Addr}(I:Inv X pins a H s)(g:∀b∈fp,lZ X pins H b)(h:∀b∈fp,∃o,s.heap.get? b=some o/\∀v,o.data≠.cell v):Inv X (pins++kB fp s.heap) a H s:=
 I.sO λp i=>(List.mem_append.mp i).elim (λz=>I.pin p (List.mem_append_right _ z)) λz=>by
  obtain⟨c,e⟩:=uI z;obtain⟨j,k,l,_⟩:=g p.1 c;obtain⟨o,f,d⟩:=h p.1 c;rw[e]at f;cases f
  exact⟨e,j,k,l,d⟩
theorem Inv.iy{pins pl:List (Addr×Obj)}{a:St}{H:Hp}{s:Shared}(I:Inv X (pins++pl) a H s):Inv X pins a H s:=I.sO λp b=>I.pin p (List.mem_append_right _ (List.mem_append_left _ b))
theorem Ds{iter:Expr}{body:List Stmt}{R:TI}{g:TG}{tb:TS}{pos:Pos}(z:PassesOwn (model X.prog X.w) X.A X.env X.xe)(S:X.calm=true)(hi:PI X tg iter R)(hg:PG X tg g)(c:jN X body tb)
  (hs:∀x,foldedSetIterable iter X.env x=pure x:=by intro _;rfl):PS X (.For tg iter body [] pos) (LU R g tb):=by
 intro pins s U H D I h;refine wpAny_For (cg (hi pins s U H _ I h) λv s1 h1=>cg h1 λa0 s2 h2=>?_) hs
 obtain⟨it,B,V,J,H2,e,I2,T,L,Y,W,⟨m0,w0⟩,C⟩:=h2;subst e;have j:∀{t:Hp},(∀b∈B,t b=none)->∀b∈B,lZ X pins t b:=λhn b c=>⟨hn b c,(Y b c).2⟩
 refine codeAny_forLoop_any (λn Z=>∃i k t,Inv X pins k t Z/\V i Z.heap/\(∀b∈B,t b=none)/\W i n k t) ?_ m0 ⟨0,U,H2,I2,L,λb c=>(Y b c).1,w0⟩
 rintro n s3 ⟨i,l,K,I3,E,F,w3⟩;rcases C i n l K w3 with ⟨stop,qn⟩|⟨go,N,hN,step⟩
 .refine wpAny_passesOwn z (cg (T.done X rfl rfl rfl S i pins s3 l K X.xe I3 (j F) E stop) λr s4 ⟨M,I4⟩=>?_)
  subst M;exact wpAny_execs_nil ⟨l,K,I4,qn⟩
 .refine wpAny_passesOwn z (cg (T.item X rfl rfl rfl S i pins s3 l K X.xe I3 (j F) E go) λr s4 ⟨u,M,h4⟩=>?_)
  subst M;refine wpAny_passesOwn z (cg h4 λ_ s5 ⟨x,H5,I5,r5,y5,LV,Um⟩=>?_)
  have O:=I5.pinned (j Um) (T.obj _ _ LV);refine wpAny_passesOwn z (cg (hg _ s5 l H5 x u _ O r5 (step x H5 y5)) λ_ s6 ⟨P,H6,I6,q6⟩=>?_)
  refine wpAny_passesOwn z (cg (c _ s6 P H6 _ I6 q6) λf Q y=>?_)
  have again:∀{a:St}{p:Hp},Inv X (pins++kB B s5.heap) a p Q->N a p->∃m,m<n/\∃i k t,Inv X pins k t Q/\V i Q.heap/\(∀b∈B,t b=none)/\W i m k t:=λ{a p} q G=>by
   obtain⟨m',hm,w7⟩:=hN a p G;refine⟨m',hm,i+1,a,p,q.iy,T.keep _ _ _ LV λb c o e=>(q.pin (b,o) (List.mem_append_right _ (List.mem_append_right _ (fI c e)))).1,λb c=>?_,w7⟩
   obtain⟨o,e,d⟩:=T.obj _ _ LV b c;exact(q.pin (b,o) (List.mem_append_right _ (List.mem_append_right _ (fI c e)))).2.1
  cases f with
  |next=>obtain⟨a,p,q,G⟩:=y;exact again q G
  |cont=>obtain⟨a,p,q,G⟩:=y;exact again q G
  |brk=>obtain⟨a,p,q,y⟩:=y;exact⟨a,p,q.iy,y⟩
  |ret v=>obtain⟨x7,a,p,q,r7,y⟩:=y;exact⟨x7,a,p,q.iy,r7,y⟩
end
abbrev R2:=V->V->Hp->VK->Prop
def gf(X:Cx)(f:Value->Value->Sem Value)(r:R2):Prop:=
 ∀(pins:List (Addr×Obj)) (s:Shared) (a:St) (H:Hp) (x y:V) (v u:Value) (Q:VK),Inv X pins a H s->RelV x v->RelV y u->r x y H Q ->
  wpAny (model X.prog X.w) X.A (f v u) (EP X pins a Q) X.xe s
def LW(X:Cx)(f:Value->Sem Value)(r:V->Hp->VK->Prop):Prop:=
 ∀(pins:List (Addr×Obj)) (s:Shared) (a:St) (H:Hp) (x:V) (v:Value) (Q:VK),Inv X pins a H s->RelV x v->r x H Q ->
  wpAny (model X.prog X.w) X.A (f v) (EP X pins a Q) X.xe s
def dB(X:Cx)(f:Value)(r:List V->Hp->VK->Prop):Prop:=
 ∀(pins:List (Addr×Obj)) (s:Shared) (a:St) (H:Hp) (b:List V) (c:List Value) (Q:VK),Inv X pins a H s->Vals b c->r b H Q ->
  wpAny (model X.prog X.w) X.A (call f c) (EP X pins a Q) X.xe s
def LX(X:Cx)(r:V->Hp->(Bool->Hp->Prop)->Prop):Prop:=
 ∀(pins:List (Addr×Obj)) (s:Shared) (a:St) (H:Hp) (x:V) (v:Value) (Q:Bool->Hp->Prop),Inv X pins a H s->RelV x v->r x H Q ->
  wpAny (model X.prog X.w) X.A (truthy v) (TP X pins a Q) X.xe s
noncomputable def FA(r:R2)(b tb:TE):TE:=λa H Q=>b a H λx c=>tb a c λy d=>r x y d Q
noncomputable def Uo(r:V->Hp->VK->Prop)(a:TE):TE:=λb H Q=>a b H λx c=>r x c Q
noncomputable def rI(C:Int->Int->Prop)(g:Int->Int->V):R2:=λx y H Q=>∃i j,x=.int i/\y=.int j/\C i j/\Q (g i j) H
noncomputable def zv(g:Int->Int->V):R2:=λx y H Q=>∃i j,x=.int i/\y=.int j/\Q (g i j) H
def rU(g:Int->V):V->Hp->VK->Prop:=λx H Q=>∃i,x=.int i/\Q (g i) H
section
variable{X:Cx}{a b c:Expr}{ta tb tc:TE}{pos:Pos}
theorem Dt(k:PE X a ta)(l:PE X b tb){pins:List (Addr×Obj)}{s:Shared}{c:St}{H:Hp}{R:V->V->Hp->Prop}(I:Inv X pins c H s)
  (h:ta c H λx j=>tb c j λy d=>R x y d) {Q:Value->Shared->Prop}{f:Value->Value->Sem Value}
  (m:∀v u i x y d,Inv X pins c d i->RelV x v->RelV y u->R x y d->wpAny (model X.prog X.w) X.A (f v u) Q X.xe i) :
  wpAny (model X.prog X.w) X.A (eval a X.env) (λv e=>wpAny (model X.prog X.w) X.A (eval b X.env) (λu g=>wpAny (model X.prog X.w) X.A (f v u) Q X.xe g) X.xe e) X.xe s:=by
 refine cg (k pins s c H _ I h) λv n ⟨x,j,I1,r1,q1⟩=>?_
 refine cg (l pins n c j _ I1 q1) λu i ⟨y,d,I2,r2,q2⟩=>?_
 exact m v u i x y d I2 r1 r2 q2
theorem wb{op:Operator}{r:R2}(c:gf X (binaryOp op) r)(d:PE X a ta)(e:PE X b tb):PE X (.BinOp a op b pos) (FA r ta tb):=by
 intro pins s f H Q I h;exact wpAny_BinOp (Dt d e I h λv u g x y i j k l q=>c pins g f i x y v u Q j k l q)
theorem Gb{op:UnaryOp}{r:V->Hp->VK->Prop}(c:LW X (unaryOp op) r)(d:PE X a ta):PE X (.UnaryOp op a pos) (Uo r ta):=by
 intro pins s b H Q I h;exact UnaryOp_ (cg (d pins s b H _ I h) λv e ⟨x,H1,I1,r1,q1⟩=>c pins e b H1 x v Q I1 r1 q1)
theorem J8{f:Value->Value->Sem Value}{C:Int->Int->Prop}{g:Int->Int->Int}
  (rule:∀(i j:Int) (t u:Tok) (s:Shared) (Q:Value->Shared->Prop) (E:Value->Shared->Prop),C i j->Q (.int (g i j) s.toks) {s with toks:=s.toks+1}->wpAny (model X.prog X.w) X.A (f (.int i t) (.int j u)) Q E s) :
  gf X f (rI C λi j=>.int (g i j)):=by
 intro pins s e H x y v u Q I a b h;obtain⟨i,j,rfl,rfl,c,q⟩:=h;obtain⟨t,rfl⟩:=a;obtain⟨d,rfl⟩:=b;exact rule i j t d s _ _ c ⟨.int (g i j),H,I.tok _,⟨_,rfl⟩,q⟩
theorem Ge{f:Value->Value->Sem Value}{g:Int->Int->Int}
  (rule:∀(i j:Int) (t u:Tok) (s:Shared) (Q:Value->Shared->Prop) (E:Value->Shared->Prop),Q (.int (g i j) s.toks) {s with toks:=s.toks+1}->wpAny (model X.prog X.w) X.A (f (.int i t) (.int j u)) Q E s) :
  gf X f (zv λi j=>.int (g i j)):=by
 intro pins s d H x y v u Q I a b h;obtain⟨i,j,rfl,rfl,q⟩:=h;obtain⟨t,rfl⟩:=a;obtain⟨c,rfl⟩:=b;exact rule i j t c s _ _ ⟨.int (g i j),H,I.tok _,⟨_,rfl⟩,q⟩
theorem zw{f:Value->Value->Sem Value}{g:Int->Int->Bool}
  (rule:∀(i j:Int) (t u:Tok) (s:Shared) (Q:Value->Shared->Prop) (E:Value->Shared->Prop),Q (.bool (g i j)) s->wpAny (model X.prog X.w) X.A (f (.int i t) (.int j u)) Q E s) :
  gf X f (zv λi j=>.bl (g i j)):=by
 intro pins s d H x y v u Q I a b h;obtain⟨i,j,rfl,rfl,q⟩:=h;obtain⟨t,rfl⟩:=a;obtain⟨c,rfl⟩:=b;exact rule i j t c s _ _ ⟨.bl (g i j),H,I,rfl,q⟩
def Gf(i j:Int):Prop:=0<j/\j<1073741824
def Gg(i j:Int):Prop:=0<=j/\j<=1000000/\i.natAbs<2 ^ 64
def zx(i j:Int):Prop:=(-(2 ^ 64)<i/\i<2 ^ 64)\/(-(2 ^ 64)<j/\j<2 ^ 64)
theorem zx.ok{i j:Int}(h:zx i j):IntMulOk i j:=by
 rcases h with ⟨a,b⟩|⟨a,b⟩
 .exact .of_left (intBits_le_64 a b)
 .exact .of_right (intBits_le_64 a b)
theorem Du:gf X (binaryOp .Add) (zv λi j=>.int (i+j)):=Ge λ_ _ _ _ _ _ _ q=>add_int q
theorem Dv:gf X (binaryOp .Sub) (zv λi j=>.int (i - j)):=Ge λ_ _ _ _ _ _ _ q=>sub_int q
theorem Dw:gf X (binaryOp .Mult) (rI zx λi j=>.int (i*j)):=J8 λ_ _ _ _ _ _ _ a q=>mul_int q a.ok
theorem zy:gf X (binaryOp .FloorDiv) (rI Gf λi j=>.int (i / j)):=J8 λi j _ _ _ _ _ a q=>by
 have b:(0:Int)<j:=a.1;have c:j<1073741824:=a.2;exact floordiv_int (by omega) (by rw[Int.fdiv_eq_ediv_of_nonneg i (by omega)];exact q) (.inl (PyProof.noPylong_small (by omega)))
theorem Dx:gf X (binaryOp .Mod) (rI (λ_ j=>0<j) λi j=>.int (i%j)):=J8 λi j _ _ _ _ _ a q=>by
 have b:(0:Int)<j:=a;exact mod_int' (by omega) (by rw[Int.fmod_eq_emod_of_nonneg i (by omega)];exact q)
theorem Dy:gf X (binaryOp .Pow) (rI Gg λi j=>.int (i ^ j.toNat)):=J8 λ_ _ _ _ _ _ _ a q=>pow_int_small a.1 a.2.1 a.2.2 q
theorem Up{f:Value->Sem Value}{g:Int->Int}
  (rule:∀(i:Int) (t:Tok) (s:Shared) (Q:Value->Shared->Prop) (E:Value->Shared->Prop),Q (.int (g i) s.toks) {s with toks:=s.toks+1}->wpAny (model X.prog X.w) X.A (f (.int i t)) Q E s) :
  LW X f (rU λi=>.int (g i)):=by
 intro pins s b H x v Q I a h;obtain⟨i,rfl,q⟩:=h;obtain⟨t,rfl⟩:=a;exact rule i t s _ _ ⟨.int (g i),H,I.tok _,⟨_,rfl⟩,q⟩
theorem Dz:LW X (unaryOp .USub) (rU λi=>.int (-i)):=Up λ_ _ _ _ _ q=>neg_int q
theorem nv{pins:List (Addr×Obj)}{a:St}{H:Hp}{s:Shared}{Q:VK}{k b:Bool}(I:Inv X pins a H s)(q:Q (.bl k) H)(e:k=b):EP X pins a Q (.bool b) s:=by
 subst e;exact⟨.bl k,H,I,rfl,q⟩
theorem Gh:gf X (compareOp .Lt) (zv λi j=>.bl (decide (i<j))):=zw λ_ _ _ _ _ _ _ q=>lt_int q
theorem Gi:gf X (compareOp .LtE) (zv λi j=>.bl (decide (i<=j))):=zw λ_ _ _ _ _ _ _ q=>le_int q
theorem Gj:gf X (compareOp .Gt) (zv λi j=>.bl (decide (j<i))):=zw λ_ _ _ _ _ _ _ q=>gt_int q
theorem Gk:gf X (compareOp .GtE) (zv λi j=>.bl (decide (j<=i))):=zw λ_ _ _ _ _ _ _ q=>ge_int q
theorem uJ:gf X (compareOp .In) (λx y H Q=>∃i j,x=.str i/\y=.str j/\Q (.bl (!(Builtin.Str.occurrences j i 0 j.length 1).isEmpty)) H):=by
 intro pins s c H x y v u Q I a b h;obtain⟨i,j,rfl,rfl,q⟩:=h;obtain⟨t,rfl⟩:=a;obtain⟨d,rfl⟩:=b;exact in_str (nv I q rfl)
theorem wc:gf X (compareOp .Is) (λx y H Q=>y=.non/\Q (.bl (decide (x=.non))) H):=by
 intro pins s c H x y v u Q I a b h;obtain⟨rfl,q⟩:=h;cases b;refine is_none_gen (nv I q ?_)
 cases x<;>first
  | (cases a;rfl)
  | (obtain⟨t,rfl⟩:=a;rfl)
theorem sP:gf X (compareOp .IsNot) (λx y H Q=>y=.non/\Q (.bl (!decide (x=.non))) H):=by
 intro pins s c H x y v u Q I a b h;obtain⟨rfl,q⟩:=h;cases b;refine isnot_none_gen (nv I q ?_)
 cases x<;>first
  | (cases a;rfl)
  | (obtain⟨t,rfl⟩:=a;rfl)
theorem ny:gf X (compareOp .NotIn) (λx y H Q=>∃i j,x=.str i/\y=.str j/\Q (.bl (!(!(Builtin.Str.occurrences j i 0 j.length 1).isEmpty))) H):=by
 intro pins s c H x y v u Q I a b h;obtain⟨i,j,rfl,rfl,q⟩:=h;obtain⟨t,rfl⟩:=a;obtain⟨d,rfl⟩:=b;exact notIn_str (nv I q rfl)
theorem gf.or{f:Value->Value->Sem Value}{r a:R2}(h:gf X f r)(h':gf X f a):gf X f (λx y H Q=>r x y H Q\/a x y H Q):=by
 intro pins s b H x y v u Q I c d q;rcases q with q|q
 .exact h pins s b H x y v u Q I c d q
 .exact h' pins s b H x y v u Q I c d q
theorem gO{op:CmpOp}{r:R2}(c:gf X (compareOp op) r)(d:PE X a ta)(e:PE X b tb)(f:behindInMarks op b=false):PE X (.Compare a [op] [b] pos) (FA r ta tb):=by
 intro pins s g H Q I h;exact wpAny_Compare1 (Dt d e I h λv u i x y j k l m q=>c pins i g j x y v u Q k l m q) f
noncomputable def we(t:TE):TT:=λa H Q=>t a H λx b=>∃k,x=.bl k/\Q k b
theorem gP{op:CmpOp}{r:R2}(f:gf X (compareOp op) r)(g:PE X a ta)(i:PE X b tb)(j:behindInMarks op b=false):PT X (.Compare a [op] [b] pos) (we (FA r ta tb)):=by
 intro pins s d H Q I h
 refine wpAny_isTrue_Compare1 (cg (g pins s d H _ I h) λv l ⟨x,H1,I1,r1,q1⟩=>cg (i pins l d H1 _ I1 q1) λu m ⟨y,H2,I2,r2,q2⟩=>
  cg (f pins m d H2 x y v u _ I2 r1 r2 q2) λc o ⟨z,H3,I3,n,k,e,q3⟩=>?_) j
 subst e;cases n;exact wpAny_truthy_bool ⟨H3,I3,q3⟩
noncomputable def qW(r c:R2)(d tb e:TE):TE:=λa H Q=>d a H λx f=>tb a f λy g=>r x y g λz b=>∃k,z=.bl k /\
 (if k=true then e a b λh i=>c y h i Q else Q (.bl false) b)
theorem wg{op f:CmpOp}{r j:R2}(l:gf X (compareOp op) r)(i:gf X (compareOp f) j)(m:PE X a ta)(n:PE X b tb)(o:PE X c tc)
  (p:lastMarks [op,f] [b,c]=false:=by with_unfolding_all rfl):PE X (.Compare a [op,f] [b,c] pos) (qW r j ta tb tc):=by
 intro pins s g H Q I h
 refine Compare_chain (cg (m pins s g H _ I h) λv q ⟨x,H1,I1,r1,q1⟩=>chain_link (cg (n pins q g H1 _ I1 q1) λu t ⟨y,H2,I2,r2,q2⟩=>
  cg (l pins t g H2 x y v u _ I2 r1 r2 q2) λd w ⟨z,H3,I3,A,k,e,q3⟩=>?_)) p
 subst e;cases A;refine wpAny_truthy_bool ?_;cases k with
 |false=>exact ite_ff ⟨.bl false,H3,I3,rfl,q3⟩
 |true=>exact ite_tt (chain_last (cg (o pins w g H3 _ I3 q3) λB C ⟨D,H4,I4,r4,q4⟩=>i pins C g H4 y D u B Q I4 r2 r4 q4))
theorem wh{op f:CmpOp}{r j:R2}(l:gf X (compareOp op) r)(i:gf X (compareOp f) j)(m:PE X a ta)(n:PE X b tb)(o:PE X c tc)
  (p:lastMarks [op,f] [b,c]=false:=by with_unfolding_all rfl):PT X (.Compare a [op,f] [b,c] pos) (we (qW r j ta tb tc)):=by
 intro pins s g H Q I h
 refine isTrue_chain (cg (m pins s g H _ I h) λv q ⟨x,H1,I1,r1,q1⟩=>test_link (cg (n pins q g H1 _ I1 q1) λu t ⟨y,H2,I2,r2,q2⟩=>
  cg (l pins t g H2 x y v u _ I2 r1 r2 q2) λd w ⟨z,H3,I3,A,k,e,q3⟩=>?_)) p
 subst e;cases A;refine wpAny_truthy_bool ?_;cases k with
 |false=>
  obtain⟨J,B,C⟩:=q3;cases B;exact ite_ff ⟨H3,I3,C⟩
 |true=>
  refine ite_tt (test_last (cg (o pins w g H3 _ I3 q3) λD E ⟨F,H4,I4,r4,q4⟩=>cg (i pins E g H4 y F u D _ I4 r2 r4 q4) λK L ⟨M,H5,I5,G,k2,e2,q5⟩=>?_))
  subst e2;cases G;exact wpAny_truthy_bool ⟨H5,I5,q5⟩
def pf(K:PySem.W.Frag)(x:V)(H:Hp)(k:Bool):Prop:=
 match x with
 |.non=>k=false
 |.bl b=>k=b
 |.int i=>k=(i != 0)
 |.str y=>y.length<=sizeLine/\k=((y.length:Int) != 0)
 |.Fx y=>y.size<=sizeLine/\k=((y.size:Int) != 0)
 |.ref p=>(∃a,j8 K H p a/\k=!a.isEmpty)\/(∃a,qT K H p a/\k=!a.isEmpty)\/∃c,H p=some (.dK c)/\k=!c.isEmpty
 |_=>False
theorem qX{κ:Type}{kvs:List (κ×V)}{vs:List (κ×Value)}(r:KV kvs vs):(!vs.isEmpty)=!kvs.isEmpty:=by
 cases r<;>rfl
theorem kC{xs:List V}{a:List Value}(r:Vals xs a):(!a.toArray.isEmpty)=!xs.isEmpty:=by
 cases r<;>simp
theorem gp:(sizeLine:Nat)<2 ^ 63:=by rw[sizeLine_eq];decide
theorem nz:LX X (λx H Q=>∃k,pf X.K x H k/\Q k H):=by
 intro pins s B H x v Q I g h;obtain⟨k,e,q⟩:=h;have C:=gp;have D:sizeLine=16777216:=sizeLine_eq;cases x with
 |non=>
  cases g;have a:k=false:=e;subst a;exact truthy_none ⟨H,I,q⟩
 |bl b=>
  cases g;have a:k=b:=e;subst a;exact wpAny_truthy_bool ⟨H,I,q⟩
 |int i=>
  obtain⟨t,rfl⟩:=g;have a:k=(i != 0):=e;subst a;exact PySem.P.truthy_int ⟨H,I,q⟩
 |str y=>
  obtain⟨t,rfl⟩:=g;obtain⟨z,a⟩:y.length<=sizeLine/\k=((y.length:Int) != 0):=e;subst a;exact PySem.P.truthy_str (by omega) ⟨H,I.tok _,q⟩
 |Fx y=>
  obtain⟨t,rfl⟩:=g;obtain⟨z,a⟩:y.size<=sizeLine/\k=((y.size:Int) != 0):=e;subst a;exact PySem.W.truthy_bytes (by omega) ⟨H,I.tok _,q⟩
 |ref p=>
  cases g;have a:(∃f,j8 X.K H p f/\k=!f.isEmpty)\/(∃f,qT X.K H p f/\k=!f.isEmpty)\/∃c,H p=some (.dK c)/\k=!c.isEmpty:=e;rcases a with ⟨f,j,a⟩|⟨f,j,a⟩|⟨c,j,a⟩
  .subst a
   obtain⟨n,r,o,u⟩:=I.list j;have d:=r.length;exact wpAny_truthy_list o.isList (by simp only[List.size_toArray];omega) ⟨H,I.tok _,by rw[kC r];exact q⟩
  .subst a
   obtain⟨n,r,o,u⟩:=I.tuple j;have d:=r.length;exact truthy_tuple o (by simp only[List.size_toArray];omega) ⟨H,I.tok _,by rw[kC r];exact q⟩
  .subst a
   obtain⟨u,A,l,r,m⟩:c.length<=sizeLine/\(p==sysModules)=false/\∃l,KV c l/\s.heap.DictOf (bt X.prog X.w) p l:=I.hok p _ j;have d:c.length=l.length:=Paired.length r;exact wpAny_truthy_dict A m (by omega) ⟨H,I.tok _,by rw[qX r];exact q⟩
 |_=>exact(show False from e).elim
theorem wj(e:PE X a ta)(f:∀b,isTrue a X.env b=(do let v ←b;standAt a.pos;holding [v] (truthy v))) :
  PT X a (λc H Q=>ta c H λx d=>∃k,pf X.K x d k/\Q k d):=by
 intro pins s c H Q I h;exact isTrue_plain (cg (e pins s c H _ I h) λv g ⟨x,H1,I1,r1,q1⟩=>nz pins g c H1 x v Q I1 r1 q1) (f _)
theorem qY:gf X (binaryOp .Add) (λx y H Q=>∃i j,x=.str i/\y=.str j/\i.length+j.length<=sizeLine/\Q (.str (i++j)) H):=by
 intro pins s e H x y v u Q I a b h;obtain⟨i,j,rfl,rfl,c,q⟩:=h;obtain⟨t,rfl⟩:=a;obtain⟨d,rfl⟩:=b;exact add_str (λd f=>⟨.str (i++j),H,I.tok _,⟨_,rfl⟩,q⟩) c
theorem vals1{x:V}{us:List Value}(r:Vals [x] us):∃u,us=[u]/\RelV x u:=by
 cases r with
 |cons a b=>cases b;exact⟨_,rfl,a⟩
theorem vals2{x y:V}{us:List Value}(r:Vals [x,y] us):∃u a,us=[u,a]/\RelV x u/\RelV y a:=by
 cases r with
 |cons b c=>
  cases c with
  |cons d e=>cases e;exact⟨_,_,rfl,b,d⟩
end
structure qZ(h:Heap)(x dx C:Addr)(mA:Str->Option Value):Prop where
 obj:h.get? x=some (PySem.W.instObj C dx)
 ns:h.Ns1 dx mA
 ne:dx≠x
theorem uK{h:Heap}{c:Addr}{d:Str->Option Value}(n:h.Ns1 c d):∃f,h.get? c=some f/\∀name,PySem.W.lookIn name f=some (d name):=by
 obtain⟨o,g,r,i,j,k,_,l⟩:=n;refine⟨o,i,λname=>?_⟩
 have e:=l name;unfold nsFind findBy at e;rw[←Array.find?_toList]at e;unfold PySem.W.lookIn;rw[j];dsimp only;split
 .rename_i y q
  rw[q]at e;exact congrArg some e
 .rename_i q
  rw[q]at e
  have a:g.toList.any (·.refKey)=false:=by
   rw[List.any_eq_false];intro y m;obtain⟨z,t,b⟩:=k y (Array.mem_toList_iff.mp m);simp[DictEntry.refKey,b]
  have p:¬ g.toList.any (·.refKey)=true:=by rw[a];exact Bool.false_ne_true
  rw[if_neg p];exact congrArg some e
theorem qZ.look{h:Heap}{x b C:Addr}{c:Str->Option Value}(I:qZ h x b C c):∃a,PySem.W.InstAt h x (PySem.W.instObj C b) C (some a)/\∀name,PySem.W.lookIn name a=some (c name):=
 let ⟨a,d,e⟩:=uK I.ns
 ⟨a,⟨I.obj,rfl,rfl,d⟩,e⟩
section
variable{prog:Program}{w:World}{A:Around}{E:Value->Shared->Prop}{s:Shared}{K:PySem.W.Frag}{x dx C f:Addr}{mA:Str->Option Value}{name:Str}{v:Value}
theorem get_map{a:Bool}{Q:Value->Shared->Prop}(X:K.In s.heap)(I:qZ s.heap x dx C mA)(c:PySem.W.plainGet K C name=true)(d:PySem.W.hasDictIn K C=true)
  (e:PySem.W.findIn K (.ref C) name=some none) (f:mA name=some v) (b:PySem.W.handedIn v=true) (h:Q v {s with toks:=s.toks+1}) :
  wpAny (model prog w) A (getAttr (.ref x) name a) Q E s:=by
 obtain⟨i,J,g⟩:=I.look;exact PySem.W.get_value X J (PySem.W.plainGet_of c).1 (PySem.W.findObj_own d e rfl (by rw[g,f])) b h
theorem wk{pl:Sem Bool}{Q:Value×List Value->Shared->Prop}(X:K.In s.heap)(I:qZ s.heap x dx C mA)(a:PySem.W.plainGet K C name=true)
  (b:PySem.W.findIn K (.ref C) name=some (some (.ref f))) (c:PySem.W.isFn K (.ref f)=true) (d:mA name=none) (h:Q (.ref f,[.ref x]) s) :
  wpAny (model prog w) A (getMethod (.ref x) name pl) Q E s:=by
 obtain⟨e,J,g⟩:=I.look;exact PySem.W.method_fn X J (PySem.W.plainGet_of a).1 (PySem.W.plainGet_of a).2 b (beq_iff_eq.mp c) (by show(PySem.W.lookIn name e).map (·.isSome)=some false;rw[g,d];rfl) h
theorem zz{ns:List Str}{Q:Unit->Shared->Prop}(X:K.In s.heap)(I:qZ s.heap x dx C mA)
  (j:PySem.W.findIn K (.ref C) "__setattr__"=some (some (.builtin "object.__setattr__"))) (k:PySem.W.plainOver K C=true) (l:PySem.W.takerIn K C name=some none) (m:PySem.W.hasDictIn K C=true)
  (n:PySem.Within mA ns) (hsz:ns.length<=sizeLine)
  (h:∀h',qZ h' x dx C (λy=>if y=name then some v else mA y)->Heap.SameBut dx s.heap h'->Q () {s with heap:=h',toks:=s.toks+2}) :
  wpAny (model prog w) A (setAttr (.ref x) name v) Q E s:=by
 obtain⟨u,J,z⟩:=I.look;refine PySem.W.set_plain X J j (PySem.W.osa_open (s:={s with toks:=s.toks+1}) (r:=none) X J k l λb=>?_)
 obtain⟨B,o,e⟩:=PySem.W.any_some m;have p:s.heap.get? x=some ⟨.ref C,some dx,.plain,#[]⟩:=I.obj;refine wpAny_bind (wpAny_pure (wpAny_bind (wpAny_bind (wpAny_loadPart p (wpAny_bind (PySem.W.Looks.here (s:={s with toks:=s.toks+1}) (PySem.W.looks_clsIn X o) ?_))))));rw[e];refine wpAny_pure (a:=some dx) (wpAny_bind (wpAny_pure (wpAny_bind ?_)));refine wpAny_nsSet1 (s:={s with toks:=s.toks+1}) I.ns λh' c d=>?_
 obtain⟨D,q,t,f,g,i⟩:=c.count (PySem.Within.cons name v n);refine wpAny_bind (wpAny_lookBehind f (by rw[g];exact pastItsLine_dict (Nat.le_trans i (by rw[List.length_cons];omega))) ?_)
 exact wpAny_pure (h _ ⟨(d.2 _ (Ne.symm I.ne)).trans I.obj,c,I.ne⟩ d)
theorem wm{R:Result->Shared->Prop}{vs:List Value}{a:List (Str×Value)}(X:K.In s.heap)(b:PySem.W.makesIn K C=true)
  (c:PySem.W.findIn K (.ref C) "__init__"=some (some (.ref f))) (e:PySem.W.typeIn K (.ref f)=some (.type "function"))
  (h:codeAny (model prog w) (A.under (.builtin "type.__call__" ⟨.ref C::vs,a⟩)) (.call (.ref f) ⟨.ref (s.heap.objs.size+1)::vs,a⟩) (PySem.W.InitBack (s.heap.objs.size+1) R)
   {s with heap:=(s.heap.push PySem.W.emptyDict).push (PySem.W.instObj C s.heap.objs.size)}) :
  codeAny (model prog w) A (.call (.ref C) ⟨vs,a⟩) R s:=by
 obtain⟨i,g,d,t,j⟩:=s;exact PySem.W.make_core (PySem.W.makes_of X b) (PySem.W.looks_findIn X c) (λself=>PySem.W.bind_fn X self e) (.inl rfl) h
end
noncomputable def fb(f:Str)(v:V):List (Str×V)->List (Str×V)
 |[]=>[(f,v)]
 | (g,x)::r=>if g=f then (g,v)::r else (g,x)::fb f v r
theorem jA(f g:Str)(v:V):∀c:List (Str×V),(fb f v c).lookup g=if g=f then some v else c.lookup g
 |[]=>by
  show List.lookup g [(f,v)]=_
  by_cases h:g=f
  .have a:(g==f)=true:=beq_iff_eq.mpr h
   simp only[List.lookup,a,if_pos h]
  .have a:(g==f)=false:=beq_eq_false_iff_ne.mpr h
   simp only[List.lookup,a,if_neg h]
 | (k,x)::r=>by
  have d:=jA f g v r;rw[show fb f v ((k,x)::r)=(if k=f then (k,v)::r else (k,x)::fb f v r)from rfl]
  by_cases b:k=f
  .rw[if_pos b]
   by_cases h:g=k
   .have a:(g==k)=true:=beq_iff_eq.mpr h
    simp only[List.lookup,a,if_pos (h.trans b)]
   .have a:(g==k)=false:=beq_eq_false_iff_ne.mpr h
    simp only[List.lookup,a,if_neg (λe:g=f=>h (e.trans b.symm))]
  .rw[if_neg b]
   by_cases h:g=k
   .have a:(g==k)=true:=beq_iff_eq.mpr h
    simp only[List.lookup,a,if_neg (λe:g=f=>b (h.symm.trans e))]
   .have a:(g==k)=false:=beq_eq_false_iff_ne.mpr h
    simp only[List.lookup,a];exact d
theorem jg(f:Str)(v:V):∀a:List (Str×V),f∈(fb f v a).map (·.1)/\∀g,g∈a.map (·.1)->g∈(fb f v a).map (·.1)
 |[]=>⟨by simp[fb],λg h=>by simp at h⟩
 | (k,x)::r=>by
  obtain⟨c,d⟩:=jg f v r;rw[show fb f v ((k,x)::r)=(if k=f then (k,v)::r else (k,x)::fb f v r)from rfl]
  by_cases b:k=f
  .rw[if_pos b]
   subst b;exact⟨by simp,λg h=>by simpa using h⟩
  .rw[if_neg b]
   refine⟨?_,λg h=>?_⟩
   .rw[List.map_cons]
    exact List.mem_cons_of_mem _ c
   .rw[List.map_cons]at h ⊢
    rcases List.mem_cons.mp h with e|e
    .exact List.mem_cons.mpr (.inl e)
    .exact List.mem_cons_of_mem _ (d g e)
theorem jB(f:Str)(v:V):∀a:List (Str×V),(fb f v a).length<=a.length+1
 |[]=>by simp[fb]
 | (k,x)::r=>by
  have c:=jB f v r;rw[show fb f v ((k,x)::r)=(if k=f then (k,v)::r else (k,x)::fb f v r)from rfl]
  by_cases b:k=f
  .rw[if_pos b,List.length_cons,List.length_cons];omega
  .rw[if_neg b,List.length_cons,List.length_cons];omega
theorem fH.some_of{v:V}{o:Option Value}(r:fH (some v) o):∃u,o=some u/\RelV v u:=by
 cases o with
 |none=>exact(show False from r).elim
 |some u=>exact⟨u,rfl,r⟩
theorem fH.none_of{o:Option Value}(r:fH none o):o=none:=by
 cases o with
 |none=>rfl
 |some u=>exact(show False from r).elim
theorem uL{v:V}{u:Value}(r:RelV v u):PySem.W.handedIn u=true:=by
 cases v with
 |non=>cases (show u=Value.none from r);rfl
 |bl b=>cases (show u=Value.bool b from r);rfl
 |int i=>obtain⟨t,e⟩:=(show ∃t,u=Value.int i t from r);cases e;rfl
 |str x=>obtain⟨t,e⟩:=(show ∃t,u=Value.str x t from r);cases e;rfl
 |Fx b=>obtain⟨t,e⟩:=(show ∃t,u=Value.bytes b t from r);cases e;rfl
 |flt b=>obtain⟨t,e⟩:=(show ∃t,u=Value.float b t from r);cases e;rfl
 |ref a=>cases (show u=Value.ref a from r);rfl
 |ty n=>cases (show u=Value.type n from r);rfl
section
variable{P:Program}{w:World}{H H':Hp}{h h':Heap}{a C dx:Addr}{fs fs':List (Str×V)}
theorem j9(c:gN P w H h)(e:H a=some (.ins C dx fs)):∃b,qZ h a dx C b/\(∀f,fH (fs.lookup f) (b f))/\PySem.Within b (fs.map (·.1))/\fs.length<=1000/\H dx=some (.own a):=by
 obtain⟨d,z,g,i,b,n,r,q⟩:=(show bN P w H h a (.ins C dx fs)from c a _ e)
 exact⟨b,⟨i,n,g⟩,r,q,z,d⟩
end
structure j_(K:PySem.W.Frag)(C:Addr):Prop where
 pg:PySem.W.plainGet K C Str.empty=true
 hd:PySem.W.hasDictIn K C=true
 po:PySem.W.plainOver K C=true
 sa:PySem.W.findIn K (.ref C) "__setattr__"=some (some (.builtin "object.__setattr__"))
theorem j_.get{K:PySem.W.Frag}{C:Addr}(c:j_ K C)(f:Str):PySem.W.plainGet K C f=true:=c.pg
def fJ(K:PySem.W.Frag)(C:Addr)(f:Str):Prop:=PySem.W.findIn K (.ref C) f=some none
theorem fJ.taker{K:PySem.W.Frag}{C:Addr}{f:Str}(n:fJ K C f):PySem.W.takerIn K C f=some none:=by
 unfold PySem.W.takerIn;rw[show PySem.W.findIn K (.ref C) f=some none from n]
 rfl
structure Meth(K:PySem.W.Frag)(C:Addr)(m:Str)(f:Addr):Prop where
 at_:PySem.W.findIn K (.ref C) m=some (some (.ref f))
 fn:PySem.W.isFn K (.ref f)=true
 kp:PySem.W.keepIn K (.ref f)=true
section
variable{X:Cx}{pins:List (Addr×Obj)}{σ:St}{H:Hp}{s:Shared}{a C dx:Addr}{fs:List (Str×V)}{f:Str}{v:V}{A:Around}{E:Value->Shared->Prop}
theorem kD{b:Bool}{Q:Value->Shared->Prop}(I:Inv X pins σ H s)(e:H a=some (.ins C dx fs))(c:j_ X.K C)(n:fJ X.K C f)(l:fs.lookup f=some v)
  (h:∀u d,Inv X pins σ H d->RelV v u->Q u d):wpAny (model X.prog X.w) A (getAttr (.ref a) f b) Q E s:=by
 obtain⟨i,O,r,_,_,_⟩:=j9 I.hok e;obtain⟨u,j,g⟩:=fH.some_of (v:=v) (o:=i f) (by rw[←l];exact r f)
 exact get_map I.je O (c.get f) c.hd n j (uL g) (h u _ (I.tok _) g)
theorem kE{m:Str}{g:Addr}{pl:Sem Bool}{Q:Value×List Value->Shared->Prop}(I:Inv X pins σ H s)(e:H a=some (.ins C dx fs))(c:j_ X.K C)(k:Meth X.K C m g)(l:fs.lookup m=none)
  (h:Q (.ref g,[.ref a]) s):wpAny (model X.prog X.w) A (getMethod (.ref a) m pl) Q E s:=by
 obtain⟨b,O,r,_,_,_⟩:=j9 I.hok e;have d:b m=none:=fH.none_of (by rw[←l];exact r m)
 exact wk I.je O (c.get m) k.at_ k.fn d h
theorem kF{y:V}{u:Value}{Q:Unit->Shared->Prop}(I:Inv X pins σ H s)(e:H a=some (.ins C dx fs))(c:j_ X.K C)(n:fJ X.K C f)(J:fs.length<1000)(m:RelV y u)
  (h:∀i,Inv X pins σ (upd H a (.ins C dx (fb f y fs))) i->Q () i):wpAny (model X.prog X.w) A (setAttr (.ref a) f u) Q E s:=by
 obtain⟨j,O,r,k,_,l⟩:=j9 I.hok e;have p:(fs.map (·.1)).length<=sizeLine:=by rw[List.length_map,sizeLine_eq];omega
 refine zz I.je O c.sa c.po n.taker c.hd k p λt d B=>h _ ?_
 have D:∃o,t.get? dx=some o:=let ⟨o,_,_,e',_⟩:=d.ns;⟨o,e'⟩
 refine I.write (x:=a) (e:=dx) (by rw[e];exact True.intro) (.inr l) (λb q F z=>(B.2 b F).trans z) D ?_
 refine⟨by rw[aF O.ne];exact l,?_,O.ne,d.obj,_,d.ns,λg=>?_,λg G=>?_⟩
 .have:=jB f y fs;omega
 .show fH ((fb f y fs).lookup g) (if g=f then some u else j g)
  rw[jA]
  by_cases q:g=f
  .rw[if_pos q,if_pos q];exact m
  .rw[if_neg q,if_neg q];exact r g
 .by_cases q:g=f
  .rw[q];exact(jg f y fs).1
  .refine(jg f y fs).2 g (k g λz=>G ?_)
   show(if g=f then some u else j g)=none
   rw[if_neg q];exact z
theorem Inv.made(I:Inv X pins σ H s):Inv X pins σ (upd (upd H s.heap.objs.size (.own (s.heap.objs.size+1))) (s.heap.objs.size+1) (.ins C s.heap.objs.size []))
  {s with heap:=(s.heap.push PySem.W.emptyDict).push (PySem.W.instObj C s.heap.objs.size)}:=by
 have c:(s.heap.push PySem.W.emptyDict).get? s.heap.objs.size=some PySem.W.emptyDict:=Heap.get?_push_size s.heap rfl
 have f:((s.heap.push PySem.W.emptyDict).push (PySem.W.instObj C s.heap.objs.size)).get? (s.heap.objs.size+1)=some (PySem.W.instObj C s.heap.objs.size):=by
  have:=Heap.get?_push_size (s.heap.push PySem.W.emptyDict) (o:=PySem.W.instObj C s.heap.objs.size) rfl;rwa[Heap.size_push]at this
 have g:(s.heap.push PySem.W.emptyDict).Ns s.heap.objs.size (λ_=>none):=⟨PySem.W.emptyDict,#[],_,c,rfl,(λe h=>absurd h (by simp)),λ_=>rfl⟩
 have i:=I.laid (a:=s.heap.objs.size) (o:=.own (s.heap.objs.size+1)) (h':=s.heap.push PySem.W.emptyDict) (t':=s.toks) (λb u q=>Heap.get?_push_of_some _ q) (Nat.le_refl _) ⟨_,c⟩
 refine i.laid (a:=s.heap.objs.size+1) (o:=.ins C s.heap.objs.size []) (t':=s.toks) (λb u q=>Heap.get?_push_of_some _ q) (Nat.le_of_eq (Heap.size_push _ _)) ?_
 have d:s.heap.objs.size≠s.heap.objs.size+1:=Nat.ne_of_lt (Nat.lt_succ_self _);refine⟨by rw[aF d,aR],Nat.zero_le _,d,f,λ_=>none,(Heap.Ns1.of_empty g).at λo q=>Heap.get?_push_of_some _ q,λ_=>True.intro,λy j=>absurd rfl j⟩
theorem zA{prog:Program}{w:World}{env:Env}{e:Expr}{f:Str}{pos:Pos}{s:Shared}{Q:Value->Shared->Prop}(b:attributeBase e f env (eval e env)=eval e env)
  (h:wpAny (model prog w) A (eval e env) (λo a=>wpAny (model prog w) A (getAttr o f true) Q E a) E s):wpAny (model prog w) A (eval (.Attribute e f pos) env) Q E s:=
 Attribute_any_ h (by rw[arm_eval_Attribute,b])
end
noncomputable def LY(K:PySem.W.Frag)(d:TE)(f:Str):TE:=λe H Q=>d e H λx b=>∃a C g c v,x=.ref a/\b a=some (.ins C g c)/\j_ K C/\fJ K C f/\c.lookup f=some v/\Q v b
def LZ(K:PySem.W.Frag)(g h:TE)(f:Str):TS:=λD b H=>h b H λy i=>g b i λx d=>∃a C e c,x=.ref a/\d a=some (.ins C e c)/\j_ K C/\fJ K C f/\c.length<1000 /\
 D.nx b (upd d a (.ins C e (fb f y c)))
def Gm(X:Cx)(op:Operator)(b:V->V->Hp->VK->Prop):Prop:=
 ∀(pins:List (Addr×Obj)) (s:Shared) (a:St) (H:Hp) (x y:V) (u v:Value) (Q:VK),Inv X pins a H s->RelV x u->RelV y v->b x y H Q->wpAny (model X.prog X.w) X.A (inplaceOp op u v) (EP X pins a Q) X.xe s
def zB(K:PySem.W.Frag)(i j:TE)(k:V->V->Hp->VK->Prop)(f:Str):TS:=λD d H=>i d H λx e=>∃a C l g v,x=.ref a/\e a=some (.ins C l g)/\j_ K C/\fJ K C f/\g.lookup f=some v /\
 j d e λy m=>k v y m λz h=>∃c b,h a=some (.ins C c b)/\b.length<1000/\D.nx d (upd h a (.ins C c (fb f z b)))
section
variable{X:Cx}{o e value:Expr}{f:Str}{pos pos' tpos:Pos}{ta tv:TE}
theorem DA(b:PE X e ta)(d:attributeBase e f X.env (eval e X.env)=eval e X.env):PE X (.Attribute e f pos) (LY X.K ta f):=by
 intro pins s g H Q I h;refine zA d (cg (b pins s g H _ I h) λu k ⟨x,H1,I1,rx,a,C,dx,fs,v,ex,ea,c,n,l,q⟩=>?_)
 subst ex;obtain rfl:u=Value.ref a:=rx;exact kD I1 ea c n l λm o i j=>⟨v,H1,i,j,q⟩
theorem DB(d:PE X o ta)(e:PE X value tv)(g:swapsWith value (some (.Attribute o f pos')) pos.line X.env=pure false):PS X (.Assign [.Attribute o f pos'] value pos) (LZ X.K ta tv f):=by
 intro pins s b H D I h;refine plainObj_wpAny_Assign_Attribute (cg (e pins s b H _ I h) λu i ⟨y,H1,I1,ry,q⟩=>cg (d pins i b H1 _ I1 q) λj m ⟨x,H2,I2,rx,a,C,dx,fs,ex,ea,c,n,l,q2⟩=>?_) g
 subst ex;obtain rfl:j=Value.ref a:=rx;exact kF I2 ea c n l ry λp k=>⟨b,_,k,q2⟩
theorem uM{op:Operator}{e:V->V->Hp->VK->Prop}(g:PE X o ta)(i:PE X value tv)(d:Gm X op e):PS X (.AugAssign (.Attribute o f tpos) op value pos) (zB X.K ta tv e f):=by
 intro pins s b H D I h;refine wpAny_AugAssign_AttributeAny (cg (g pins s b H _ I h) λj A ⟨x,H1,I1,rx,a,C,dx,fs,v,ex,ea,c,n,l,q⟩=>?_)
 subst ex;obtain rfl:j=Value.ref a:=rx;refine kD I1 ea c n l λu k m p=>cg (i pins k b H1 _ m q) λr t ⟨y,H2,I3,ry,q3⟩=>cg (d pins t b H2 v y u r _ I3 p ry q3) λB E ⟨z,H3,I4,rz,Wy,fs',Uq,l',q4⟩=>?_
 exact kF I4 Uq c n l' rz λF w=>⟨b,_,w,q4⟩
def L8:V->V->Hp->VK->Prop:=λx y H Q=>∃i j,x=.int i/\y=.int j/\Q (.int (i+j)) H
theorem DC:Gm X .Add L8:=by
 rintro pins s d H x y u v Q I b c ⟨i,j,rfl,rfl,q⟩;obtain⟨t,rfl⟩:=(show ∃t,u=Value.int i t from b)
 obtain⟨a,rfl⟩:=(show ∃a,v=Value.int j a from c)
 exact PyProof.Rows.iadd_int ⟨.int (i+j),H,I.tok _,⟨_,rfl⟩,q⟩
end
section
variable{X:Cx}{pins:List (Addr×Obj)}{σ:St}{H:Hp}{s:Shared}{A:Around}{E:Value->Shared->Prop}{Q:Value->Shared->Prop}{c:Value}{b:Bool}
inductive jO (K:PySem.W.Frag) (H:Hp):V->Value->Prop where
 |non:jO K H .non (.type "NoneType")
 |bl (x:Bool):jO K H (.bl x) (.type "bool")
 |int (i:Int):jO K H (.int i) (.type "int")
 |str (x:Str):jO K H (.str x) (.type "str")
 |flt (x:UInt64):jO K H (.flt x) (.type "float")
 |lst {a:Addr}{xs:List V} (e:H a=some (.lst xs)):jO K H (.ref a) (.type "list")
 |dg {a:Addr}{o:Obj}{xs:List V} (e:H a=some (.dg o (.lst xs))):jO K H (.ref a) (.type "list")
 |tup {a:Addr}{xs:List V} (e:H a=some (.tup xs)):jO K H (.ref a) (.type "tuple")
 |dK {a:Addr}{kvs:List (Key×V)} (e:H a=some (.dK kvs)):jO K H (.ref a) (.type "dict")
 |dT {a:Addr}{kvs:List (List Key×V)} (e:H a=some (.dT kvs)):jO K H (.ref a) (.type "dict")
 |ins {a C dx:Addr}{fs:List (Str×V)} (e:H a=some (.ins C dx fs)) (cl:j_ K C) (ha:PySem.W.findIn K (.ref C) "__class__"=some (some (.builtin "object.__class__")))
   (hn:PySem.W.specialIn K (.builtin "object.__class__") "__get__"=some (some (.builtin "getset_descriptor.__get__"))) (htk:PySem.W.takesIn K (.builtin "object.__class__")=some true)
   (hm:PySem.W.mroIn K C (.type "object")=some true):jO K H (.ref a) (.ref C)
theorem dX{x:V}{u t:Value}(I:Inv X pins σ H s)(d:RelV x u)(B:jO X.K H x t)(e:PySem.W.kitOne X.K t c=some b)(h:∀D,Q (.bool b) {s with toks:=D}) :
  wpAny (model X.prog X.w) A (call (.builtin "isinstance") [u,c]) Q E s:=by
 cases B with
 |non=>cases (show u=Value.none from d);exact PySem.W.kia_one PySem.W.kitx_none I.je True.intro e (λz=>nomatch z) h
 |bl y=>cases (show u=Value.bool y from d);exact PySem.W.kia_one PySem.W.kitx_bool I.je True.intro e (λz=>nomatch z) h
 |int i=>obtain⟨t,q⟩:=(show ∃t,u=Value.int i t from d);cases q;exact PySem.W.kia_one PySem.W.kitx_int I.je True.intro e (λz=>nomatch z) h
 |str y=>obtain⟨t,q⟩:=(show ∃t,u=Value.str y t from d);cases q;exact PySem.W.kia_one PySem.W.kitx_str I.je True.intro e (λz=>nomatch z) h
 |flt y=>obtain⟨t,q⟩:=(show ∃t,u=Value.float y t from d);cases q;exact PySem.W.kia_one PySem.W.kitx_float I.je True.intro e (λz=>nomatch z) h
 |@lst a k f=>
  cases (show u=Value.ref a from d)
  obtain⟨_,_,n,_,g⟩:=(show bN X.prog X.w H s.heap a (.lst k)from I.hok a _ f)
  exact PySem.W.kia_one PySem.W.kitx_list I.je ⟨_,g,rfl⟩ e (λz=>nomatch z) h
 |@dg a F k f=>
  cases (show u=Value.ref a from d)
  obtain⟨_,_,_,n,_,g⟩:=(show bN X.prog X.w H s.heap a (.dg F (.lst k))from I.hok a _ f)
  exact PySem.W.kia_one PySem.W.kitx_list I.je ⟨_,g,rfl⟩ e (λz=>nomatch z) h
 |@tup a k f=>
  cases (show u=Value.ref a from d)
  obtain⟨_,_,_,p⟩:=(show bN X.prog X.w H s.heap a (.tup k)from I.hok a _ f)
  obtain⟨o,g,l,_⟩:=p;exact PySem.W.kia_one PySem.W.kitx_tuple I.je ⟨o,g,l⟩ e (λz=>nomatch z) h
 |@dK a j f=>
  cases (show u=Value.ref a from d)
  obtain⟨_,_,R,_,p⟩:=(show bN X.prog X.w H s.heap a (.dK j)from I.hok a _ f)
  obtain⟨o,G,L,g,l,_⟩:=p;exact PySem.W.kia_one PySem.W.kitx_dict I.je ⟨o,g,l.1⟩ e (λz=>nomatch z) h
 |@dT a j f=>
  cases (show u=Value.ref a from d)
  obtain⟨_,_,k,_,o,G,L,g,l,_⟩:=(show bN X.prog X.w H s.heap a (.dT j)from I.hok a _ f)
  exact PySem.W.kia_one PySem.W.kitx_dict I.je ⟨o,g,l.1⟩ e (λz=>nomatch z) h
 |@ins a C S T f r M N m P=>
  cases (show u=Value.ref a from d)
  obtain⟨U,O,_⟩:=j9 I.hok f;obtain⟨Y,J,_⟩:=O.look;exact PySem.W.kia_one (PySem.W.kitx_own (r.get _) r.hd M N m P) I.je J e (λz=>nomatch z) h
end
structure cO(k:Nat)(A:Around):Prop where
 hd:A.handled=none
 dp:A.depth+3*k+5<recursionLimit
 un:A.units+16*k+200<cLine
theorem cO.mono{j k:Nat}{A:Around}(r:cO k A)(h:j<=k):cO j A:=⟨r.hd,by have:=r.dp;omega,by have:=r.un;omega⟩
theorem cO.deeper{k:Nat}{A:Around}(r:cO (k+1) A)(env:Env):cO k (A.deeper env):=
 ⟨r.hd,by have:=r.dp;show A.depth+1+3*k+5<_;omega,by have:=r.un;show A.units+3+16*k+200<_;omega⟩
theorem cO.in1{k:Nat}{A:Around}(r:cO (k+1) A):cO k A.in1:=
 ⟨r.hd,by have:=r.dp;show A.depth+3*k+5<_;omega,by have:=r.un;show A.units+1+16*k+200<_;omega⟩
theorem q_{A:Around}{C:Addr}{us:List Value}{a:List (Str×Value)}:(A.under (.builtin "type.__call__" ⟨.ref C::us,a⟩)).depth=A.depth+1:=by
 first|rfl|simp[Around.under,Code.weight,Code.isCreation,Code.isGuard,Code.isCaller,Code.frames,Code.isFrame,guardIds]
theorem rd{A:Around}{C:Addr}{us:List Value}{a:List (Str×Value)}:(A.under (.builtin "type.__call__" ⟨.ref C::us,a⟩)).units=A.units+1:=by
 first|rfl|simp[Around.under,Code.cUnits,Code.frames,Code.isFrame]
theorem cO.make{k:Nat}{A:Around}(r:cO (k+1) A)(C:Addr)(us:List Value)(a:List (Str×Value)):cO k (A.under (.builtin "type.__call__" ⟨.ref C::us,a⟩)):=
 ⟨r.hd,by have:=r.dp;rw[q_];omega,by have:=r.un;rw[rd];omega⟩
theorem cO.depth{k:Nat}{A:Around}(r:cO k A):A.depth<recursionLimit:=by have:=r.dp;omega
theorem cO.units{k:Nat}{A:Around}(r:cO k A):A.units+64<cLine:=by have:=r.un;omega
noncomputable def zC:TA:=λ_ H Q=>Q [] H
noncomputable def Gn(b:TE)(c:TA):TA:=λa H Q=>b a H λx d=>c a d λe f=>Q (x::e) f
section
variable{X:Cx}{e:Expr}{es:List Expr}{te:TE}{t:TA}{pos:Pos}
theorem rf:PA X [] zC:=λ_ _ _ _ H Q I h=>Calls.spliced_nil ⟨[],H,I,.nil,h⟩
theorem gQ(c:PE X e te)(d:PA X es t)(f:starEach (e::es) X.env=(false,eval e X.env)::starEach es X.env:=by rfl):PA X (e::es) (Gn te t):=by
 intro a pins s b H Q I h;rw[f]
 show wpAny _ _ (spliced ((false,eval e X.env)::backTo a (starEach es X.env))) _ _ s
 refine Calls.spliced_cons (cg (c pins s b H _ I h) λu g ⟨x,H1,I1,r1,q1⟩=>?_)
 exact cg (d a pins g b H1 _ I1 q1) λj k ⟨i,H2,I2,r2,q2⟩=>⟨x::i,H2,I2,.cons r1 r2,q2⟩
def L_(t:TA):TE:=λc H Q=>t c H λa b=>a.length<=sizeLine/\∀p,b p=none->Q (.ref p) (upd b p (.tup a))
def Ma(t:TA):TE:=λc H Q=>t c H λa b=>a.length<=sizeLine/\∀p,b p=none->Q (.ref p) (upd b p (.lst a))
theorem DD{x1}(h:PA X es t):PE X (.Tuple es x1 pos) (L_ t):=by
 intro pins s c H Q I d;refine wpAny_Tuple_spliced (cg (h pos pins s c H _ I d) λf a ⟨g,H1,I1,r,z,q⟩=>⟨by rw[←r.length];exact z,?_⟩)
 have i:H1 a.heap.objs.size=none:=I1.hok.fresh (Nat.le_refl _);refine⟨.ref a.heap.objs.size,upd H1 a.heap.objs.size (.tup g),I1.laid (t':=a.toks) (λb u e=>Heap.get?_push_of_some _ e) (Nat.le_refl _) ?_,rfl,q _ i⟩
 exact⟨z,f,r,⟨_,Heap.get?_push_size _ rfl,rfl,_,rfl⟩⟩
theorem DE(h:PA X es t):PE X (.List es pos) (Ma t):=by
 intro pins s c H Q I d;refine wpAny_List_spliced (cg (h pos pins s c H _ I d) λf a ⟨g,H1,I1,r,z,q⟩=>⟨by rw[←r.length];exact z,?_⟩)
 have i:H1 a.heap.objs.size=none:=I1.hok.fresh (Nat.le_refl _);refine⟨.ref a.heap.objs.size,upd H1 a.heap.objs.size (.lst g),I1.laid (t':=a.toks) (λb u e=>Heap.get?_push_of_some _ e) (Nat.le_refl _) ?_,rfl,q _ i⟩
 exact⟨z,f,0,r,Heap.get?_push_size _ rfl⟩
end
abbrev Sp:=List V->Hp->VK->XK->Prop
abbrev rg:=List Env->Hp->Shared->XK->Value->Shared->Prop
structure rh(P:Program)(w:World)(K:PySem.W.Frag)(mg:Str->Option Value)(base:Heap)(A:Around)(outer:List Env)(s:Shared)(H:Hp):Prop where
 frames:A.frames=some outer
 mod:Mod K mg base
 bs:∀b o,base.get? b=some o->s.heap.get? b=some o/\H b=none
 Ck:base.objs.size<=s.heap.objs.size
 jM:s.heap.FunFrames base outer
 De:∀b∈frs outer,H b=none
 hok:gN P w H s.heap
 bare:AllBare s.gens
def CE(outer:List Env)(P:Program)(w:World)(H:Hp)(s:Shared)(Q:VK)(u:Value)(a:Shared):Prop:=
 ∃v b,a.os=s.os/\AllBare a.gens/\Un (frs outer) [] H b s.heap a.heap/\gN P w b a.heap/\RelV v u/\Q v b
def CR(CX:rg)(outer:List Env)(P:Program)(w:World)(H:Hp)(s:Shared)(Q:VK)(E:XK)(r:Result)(a:Shared):Prop:=
 match r with
 |.ok (.ret u)=>CE outer P w H s Q u a
 |.ok _=>False
 |.error e=>CX outer H s E e a
structure cH(P:Program)(w:World)(K:PySem.W.Frag)(mg:Str->Option Value)(base:Heap)(CX:rg)(k:Nat)(f:Addr)(fd:FuncData)(ps:List Str)(sp:Sp):Prop where
 len:∀vs H Q E,sp vs H Q E->vs.length=ps.length
 run:∀(A:Around) (outer:List Env) (s:Shared) (H:Hp) (args:Args) (us:List Value) (vs:List V) (Q:VK) (E:XK),cO k A->rh P w K mg base A outer s H->BindsTo s fd args (ps.zip us)->Vals vs us->sp vs H Q E ->
  codeAny (model P w) A (.call (.ref f) args) (CR CX outer P w H s Q E) s
theorem cH.mono{P:Program}{w:World}{K:PySem.W.Frag}{a:Str->Option Value}{base:Heap}{CX:rg}{j k:Nat}{f:Addr}{b:FuncData}{ps:List Str}{sp:Sp}(F:cH P w K a base CX j f b ps sp)(h:j<=k) :
  cH P w K a base CX k f b ps sp:=⟨F.len,λA outer s H args c d Q E e=>F.run A outer s H args c d Q E (e.mono h)⟩
theorem cH.imp{P:Program}{w:World}{K:PySem.W.Frag}{b:Str->Option Value}{base:Heap}{CX:rg}{k:Nat}{f:Addr}{c:FuncData}{ps:List Str}{sp a:Sp}(F:cH P w K b base CX k f c ps sp)
  (h:∀vs H Q E,a vs H Q E->sp vs H Q E):cH P w K b base CX k f c ps a:=
 ⟨λvs H Q E q=>F.len vs H Q E (h _ _ _ _ q),λA outer s H args d vs Q E e g i j l=>F.run A outer s H args d vs Q E e g i j (h _ _ _ _ l)⟩
theorem rh.make{P:Program}{w:World}{K:PySem.W.Frag}{a:Str->Option Value}{base:Heap}{A:Around}{outer:List Env}{s:Shared}{H:Hp}(e:rh P w K a base A outer s H)(C:Addr)(us:List Value)(b:List (Str×Value)) :
  rh P w K a base (A.under (.builtin "type.__call__" ⟨.ref C::us,b⟩)) outer s H:=⟨by first|exact e.frames | (simpa[Around.under,Code.envs,Code.isFrame,pushEnvs]using e.frames),e.mod,e.bs,e.Ck,e.jM,e.De,e.hok,e.bare⟩
section
variable{X:Cx}{pins:List (Addr×Obj)}{σ:St}{H:Hp}{s s':Shared}
theorem Inv.env0(I:Inv X pins σ H s):rh X.prog X.w X.K X.mg X.base X.A X.stack s H:=
 ⟨I.ok.frames,I.ok.mod,I.bs,Nat.le_trans I.ok.Ck I.sz,I.stack,I.sN,I.hok,I.bare⟩
theorem Inv.after{Q:VK}{u:Value}(I:Inv X pins σ H s)(h:CE X.stack X.prog X.w H s Q u s'):EP X pins σ Q u s':=by
 obtain⟨v,e,f,bare,i,a,r,q⟩:=h;obtain⟨j,g,d,t,c⟩:=s';obtain rfl:c=s.os:=f;exact⟨v,e,I.call (h':=j) (g':=g) (d':=d) (t':=t) (ch:=[]) i a bare (λb z=>absurd z (by simp)),r,q⟩
end
noncomputable def Co(sp:Sp)(a:List V)(E:XK)(t:TA):TE:=λb H Q=>t b H λc d=>sp (c++a) d Q E
noncomputable def Cp(C:Addr)(m:Str)(sp:Sp)(b:List V)(E:XK)(f:TE)(t:TA):TE:=λc H Q=>f c H λx d=>∃a g e,x=.ref a/\d a=some (.ins C g e)/\e.lookup m=none /\
 t c d λh i=>sp (x::(h++b)) i Q E
def Cq(C:Addr)(sp:Sp)(b:List V)(E:XK)(t:TA):TE:=λd H Q=>t d H λe c=>∀x a,c x=none->c a=none->a≠x ->
 sp (.ref x::(e++b)) (upd (upd c a (.own x)) x (.ins C a [])) (λv f=>v=.non/\Q (.ref x) f) E
def Binds(K:PySem.W.Frag)(b:FuncData)(ps:List Str)(ds:List Value):Prop:=
 ∀(s:Shared) (a:List Value),K.In s.heap->(a++ds).length=ps.length->BindsTo s b ⟨a,[]⟩ (ps.zip (a++ds))
theorem Binds.all{K:PySem.W.Frag}{a:FuncData}{ps:List Str}(h:∀us:List Value,us.length=ps.length->bindArgs a ⟨us,[]⟩=pure (ps.zip us)):Binds K a ps []:=λs us _ b=>by
 rw[List.append_nil]at b ⊢;exact .of_eq (h us b)
def Passes(CX:rg)(X:Cx)(E:XK):Prop:=∀(pins:List (Addr×Obj)) (b:St) (H:Hp) (s:Shared) (e:Value) (a:Shared),Inv X pins b H s->CX X.stack H s E e a->X.xe e a
section
variable{X:Cx}{CX:rg}{k:Nat}{f C:Addr}{fd:FuncData}{ps:List Str}{sp:Sp}{nA:List V}{ds:List Value}{E:XK}{x m:Str}{p pos apos:Pos}{e o:Expr}{es:List Expr}{ta:TE}{t:TA}
theorem nB{pins:List (Addr×Obj)}{b:St}{H:Hp}{s:Shared}{Q:VK}{us:List Value}{vs:List V}(F:cH X.prog X.w X.K X.mg X.base CX k f fd ps sp)(d:cO k X.A)(g:Binds X.K fd ps ds)(i:Vals nA ds)(j:Passes CX X E)
  (I:Inv X pins b H s) (r:Vals vs us) (h:sp (vs++nA) H Q E):wpAny (model X.prog X.w) X.A (call (.ref f) us) (EP X pins b Q) X.xe s:=by
 have c:Vals (vs++nA) (us++ds):=r.append i;have l:(us++ds).length=ps.length:=by rw[←c.length];exact F.len _ _ _ _ h
 refine wpAny_call (codeAny_mono (F.run X.A X.stack s H ⟨us,[]⟩ (us++ds) (vs++nA) Q E d I.env0 (g s us I.je l) c h) λr m a=>?_)
 cases r with
 |error e=>exact j pins b H s e m I a
 |ok fl=>
  cases fl with
  |ret u=>exact I.after a
  |next=>exact False.elim a
  |brk=>exact False.elim a
  |cont=>exact False.elim a
theorem sQ(F:cH X.prog X.w X.K X.mg X.base CX k f fd ps sp)(c:cO k X.A)(d:Gl X x)(g:X.mg x=some (.ref f))(i:PySem.W.keepIn X.K (.ref f)=true)(j:Binds X.K fd ps ds)(l:Vals nA ds)(m:Passes CX X E)
  (n:PA X (e::es) t) (a:(x==("__debug__":Str))=false:=by decide) (o:starEach (e::es) X.env=(false,eval e X.env)::starEach es X.env:=by rfl) (b:(backTo pos (starEach es X.env)).any (·.1)=false:=by rfl) :
  PE X (.Call (.Name x p) (e::es) [] pos) (Co sp nA E t):=by
 intro pins s u H Q I h;refine wpAny_Call_Name_kw (ix I d g ?_ a);refine PySem.W.callWith_K (h₀:=X.base) I.ok.mod.FU i (cg (n pos pins s u H _ I h) λy z ⟨B,H1,I1,r,q⟩=>⟨I1.je,?_⟩) o b
 exact nB F c j l m I1 r q
theorem wo(F:cH X.prog X.w X.K X.mg X.base CX k f fd ps sp)(b:cO k X.A)(c:Gl X x)(d:X.mg x=some (.ref f))(e:PySem.W.keepIn X.K (.ref f)=true)(g:Binds X.K fd ps ds)(i:Vals nA ds)(j:Passes CX X E)
  (a:(x==("__debug__":Str))=false:=by decide):PE X (.Call (.Name x p) [] [] pos) (Co sp nA E zC):=by
 intro pins s l H Q I h;refine wpAny_Call_Name_kw (ix I c d ?_ a);exact PySem.W.callWith_K0 I.je e (nB (us:=[]) F b g i j I .nil h)
theorem zD{pl:Sem Bool}(n:PE X o ta)(c:j_ X.K C)(g:Meth X.K C m f)(F:cH X.prog X.w X.K X.mg X.base CX k f fd ps sp)(p:cO k X.A)(y:Binds X.K fd ps ds)(z:Vals nA ds)(B:Passes CX X E)(D:PA X (e::es) t)
  (b:starEach (e::es) X.env=(false,eval e X.env)::starEach es X.env:=by rfl) (d:(backTo pos (starEach es X.env)).any (·.1)=false:=by rfl)
  (G:eval (.Call (.Attribute o m apos) (e::es) [] pos) X.env=(do
   let i ←eval o X.env
   standAt apos.atName
   let (f,first) ←holding [i] (getMethod i m pl)
   callWith pos f first (backTo pos (starEach (e::es) X.env)) (backToKw pos (keywordEach [] X.env))):=by rfl) :
  PE X (.Call (.Attribute o m apos) (e::es) [] pos) (Cp C m sp nA E ta t):=by
 intro pins s j H Q I h;refine PySem.W.methodCall_KW (pl:=pl) (cg (n pins s j H _ I h) λu J ⟨x,H1,I1,rx,a,dx,fs,ex,ea,l,q⟩=>?_) G
 subst ex;obtain rfl:u=Value.ref a:=rx;refine kE I1 ea c g l ?_;refine PySem.W.callWith_K (first:=[.ref a]) (h₀:=X.base) I.ok.mod.FU g.kp (cg (D pos pins J j H1 _ I1 q) λus L ⟨vs,H2,I2,r,q2⟩=>⟨I2.je,?_⟩) b d
 exact nB (us:=.ref a::us) (vs:=.ref a::vs) F p y z B I2 (.cons rfl r) q2
theorem wt{pl:Sem Bool}(e:PE X o ta)(c:j_ X.K C)(b:Meth X.K C m f)(F:cH X.prog X.w X.K X.mg X.base CX k f fd ps sp)(g:cO k X.A)(i:Binds X.K fd ps ds)(j:Vals nA ds)(n:Passes CX X E)
  (p:eval (.Call (.Attribute o m apos) [] [] pos) X.env=(do
   let d ←eval o X.env
   standAt apos.atName
   let (f,first) ←holding [d] (getMethod d m pl)
   callWith pos f first (backTo pos (starEach [] X.env)) (backToKw pos (keywordEach [] X.env))):=by rfl) :
  PE X (.Call (.Attribute o m apos) [] [] pos) (Cp C m sp nA E ta zC):=by
 intro pins s r H Q I h;refine PySem.W.methodCall_KW (pl:=pl) (cg (e pins s r H _ I h) λu t ⟨x,H1,I1,rx,a,dx,fs,ex,ea,l,q⟩=>?_) p
 subst ex;obtain rfl:u=Value.ref a:=rx;refine kE I1 ea c b l ?_;exact PySem.W.callWith_K0 (first:=[.ref a]) I1.je b.kp (nB (us:=[.ref a]) (vs:=[.ref a]) F g i j n I1 (.cons rfl .nil) q)
structure Mk(K:PySem.W.Frag)(C f:Addr):Prop where
 makes:PySem.W.makesIn K C=true
 init:PySem.W.findIn K (.ref C) "__init__"=some (some (.ref f))
 fn:PySem.W.isFn K (.ref f)=true
 kp:PySem.W.keepIn K (.ref C)=true
theorem ph{pins:List (Addr×Obj)}{d:St}{H:Hp}{s:Shared}{Q:VK}{us:List Value}{vs:List V}(M:Mk X.K C f)(F:cH X.prog X.w X.K X.mg X.base CX k f fd ps sp)(j:cO (k+1) X.A)(l:Binds X.K fd ps ds)(m:Vals nA ds)
  (n:Passes CX X E) (I:Inv X pins d H s) (r:Vals vs us)
  (h:∀x b,H x=none->H b=none->b≠x->sp (.ref x::(vs++nA)) (upd (upd H b (.own x)) x (.ins C b [])) (λv o=>v=.non/\Q (.ref x) o) E) :
  wpAny (model X.prog X.w) X.A (call (.ref C) us) (EP X pins d Q) X.xe s:=by
 have g:=h (s.heap.objs.size+1) s.heap.objs.size (I.hok.fresh (Nat.le_succ _)) (I.hok.fresh (Nat.le_refl _)) (Nat.ne_of_lt (Nat.lt_succ_self _));have c:=Inv.made (C:=C) I;have i:Vals (V.ref (s.heap.objs.size+1)::(vs++nA)) (Value.ref (s.heap.objs.size+1)::(us++ds)):=.cons rfl (r.append m)
 have p:(Value.ref (s.heap.objs.size+1)::us++ds).length=ps.length:=by
  have e:=i.length;rw[F.len _ _ _ _ g]at e;exact e.symm
 refine wpAny_call (wm (f:=f) I.je M.makes M.init (beq_iff_eq.mp M.fn) (codeAny_mono (F.run _ X.stack _ _ ⟨Value.ref (s.heap.objs.size+1)::us,[]⟩ (Value.ref (s.heap.objs.size+1)::(us++ds)) _ _ E (j.make C us [])
  (c.env0.make C us []) (l _ (Value.ref (s.heap.objs.size+1)::us) c.je p) i g) λr q a=>?_))
 cases r with
 |error e=>exact n pins d _ _ e q c a
 |ok fl=>
  cases fl with
  |ret u=>
   obtain⟨v,t,y,z,B,D⟩:=c.after a;subst B;exact⟨z,⟨V.ref (s.heap.objs.size+1),t,y,rfl,D⟩⟩
  |next=>exact False.elim a
  |brk=>exact False.elim a
  |cont=>exact False.elim a
theorem zE(M:Mk X.K C f)(F:cH X.prog X.w X.K X.mg X.base CX k f fd ps sp)(c:cO (k+1) X.A)(d:Gl X x)(g:X.mg x=some (.ref C))(i:Binds X.K fd ps ds)(j:Vals nA ds)(l:Passes CX X E)
  (m:PA X (e::es) t) (a:(x==("__debug__":Str))=false:=by decide) (n:starEach (e::es) X.env=(false,eval e X.env)::starEach es X.env:=by rfl) (b:(backTo pos (starEach es X.env)).any (·.1)=false:=by rfl) :
  PE X (.Call (.Name x p) (e::es) [] pos) (Cq C sp nA E t):=by
 intro pins s o H Q I h;refine wpAny_Call_Name_kw (ix I d g ?_ a);refine PySem.W.callWith_K (h₀:=X.base) I.ok.mod.FU M.kp (cg (m pos pins s o H _ I h) λu y ⟨z,H1,I1,r,q⟩=>⟨I1.je,?_⟩) n b
 exact ph M F c i j l I1 r q
theorem wu(M:Mk X.K C f)(F:cH X.prog X.w X.K X.mg X.base CX k f fd ps sp)(b:cO (k+1) X.A)(c:Gl X x)(d:X.mg x=some (.ref C))(e:Binds X.K fd ps ds)(g:Vals nA ds)(i:Passes CX X E)
  (a:(x==("__debug__":Str))=false:=by decide):PE X (.Call (.Name x p) [] [] pos) (Cq C sp nA E zC):=by
 intro pins s j H Q I h;refine wpAny_Call_Name_kw (ix I c d ?_ a);exact PySem.W.callWith_K0 I.je M.kp (ph (us:=[]) M F b e g i I .nil h)
end
section
variable{X:Cx}{CX:rg}{k:Nat}{f C:Addr}{fd:FuncData}{ps ks:List Str}{sp:Sp}{E:XK}{x m:Str}{p pos apos Ur:Pos}{e o:Expr}{es:List Expr}{kws:List Keyword}{te ta:TE}{t tk:TA}{nm:Option Str}
variable{g:List Value->List Value->List Value}{gV:List V->List V->List V}
end
structure nF(N P:List Str)(sc:Scope):Prop where
 kind:sc.kind=.function
 co:sc.isCoroutine=false
 gen:sc.isGenerator=false
 nd:N.Nodup
 pre:N.take P.length=P
 par:∀x∈P,sc.names.lookup x=some .local\/sc.names.lookup x=some .cell
 DF:∀y∈sc.names,y.2≠.free
theorem mw{kindOf:Str->Option NameKind}{x:Str}:∀{binds:List (Str×Value)}{m:Str->Option Value},(∀v,(x,v)∉binds)->bindL kindOf binds m x=m x
 |[],_,_=>rfl
 | (n,v)::r,m,h=>by
  unfold bindL;rw[mw λw a=>h w (List.mem_cons_of_mem _ a)]
  split
  .have:x≠n:=by rintro rfl;exact h v List.mem_cons_self
   simp[this]
  .rfl
theorem mx{kindOf:Str->Option NameKind}{x:Str}:∀{binds:List (Str×Value)}{m:Str->Option Value},(∀v,(x,v)∉binds)->bindC kindOf binds m x=m x
 |[],_,_=>rfl
 | (n,v)::r,m,h=>by
  unfold bindC;rw[mx λw a=>h w (List.mem_cons_of_mem _ a)]
  split
  .rfl
  .have:x≠n:=by rintro rfl;exact h v List.mem_cons_self
   simp[this]
theorem my{kindOf:Str->Option NameKind}{x:Str}{v:Value}:∀{P:List Str}{vs:List Value}{i:Nat}{m:Str->Option Value},P.Nodup->P[i]?=some x->vs[i]?=some v->kindOf x=some .local ->
  bindL kindOf (P.zip vs) m x=some v
 |[],_,_,_,_,h,_,_=>by simp at h
 |_::_,[],_,_,_,_,h,_=>by simp at h
 |p::P,w::vs,0,m,a,h1,h2,b=>by
  simp at h1 h2;subst h1;subst h2
  show bindL kindOf ((p,w)::P.zip vs) m p=_
  unfold bindL;rw[mw λv c=>(List.nodup_cons.mp a).1 (List.of_mem_zip c).1,if_pos b]
  simp
 |p::P,w::vs,i+1,m,a,h1,h2,b=>by
  show bindL kindOf ((p,w)::P.zip vs) m x=_
  unfold bindL;exact my (i:=i) (List.nodup_cons.mp a).2 (by simpa using h1) (by simpa using h2) b
theorem mz{kindOf:Str->Option NameKind}{x:Str}{v:Value}:∀{P:List Str}{vs:List Value}{i:Nat}{m:Str->Option Value},P.Nodup->P[i]?=some x->vs[i]?=some v->kindOf x≠some .local ->
  bindC kindOf (P.zip vs) m x=some v
 |[],_,_,_,_,h,_,_=>by simp at h
 |_::_,[],_,_,_,_,h,_=>by simp at h
 |p::P,w::vs,0,m,a,h1,h2,b=>by
  simp at h1 h2;subst h1;subst h2
  show bindC kindOf ((p,w)::P.zip vs) m p=_
  unfold bindC;rw[mx λv c=>(List.nodup_cons.mp a).1 (List.of_mem_zip c).1,if_neg b]
  simp
 |p::P,w::vs,i+1,m,a,h1,h2,b=>by
  show bindC kindOf ((p,w)::P.zip vs) m x=_
  unfold bindC;exact mz (i:=i) (List.nodup_cons.mp a).2 (by simpa using h1) (by simpa using h2) b
noncomputable def start(N:List Str)(vs:List V):St:=vs.map some++List.replicate (N.length - vs.length) none
noncomputable def uN(CX:rg)(P:Program)(w:World)(K:PySem.W.Frag)(mg:Str->Option Value)(base:Heap)(N:List Str)(qual:Str)(scope:Scope)(f:Addr)(b:Value)(A:Around)(outer:List Env)(s:Shared)(H:Hp)(E:XK):Cx where
 prog:=P
 w:=w
 K:=K
 mg:=mg
 base:=base
 A:=A.deeper (envOfC qual scope s.heap.objs.size f b)
 N:=N
 s₀:=s
 H₀:=H
 env:=envOfC qual scope s.heap.objs.size f b
 outer:=outer
 stack:=envOfC qual scope s.heap.objs.size f b::outer
 ex:=[]
 calm:=true
 fn:=λ_=>true
 pn:=[]
 xe:=λe c=>wpAny (model P w) (A.deeper (envOfC qual scope s.heap.objs.size f b)) (leaving (envOfC qual scope s.heap.objs.size f b) e) (λ_ a=>CX outer H s E e a) (λd a=>CX outer H s E d a) c
theorem pj{sc:Scope}{n:Nat}{x:Str}(h:sc.names.lookup x=some .cell):∃c,(cellsFrom n sc.names []).lookup x=some c:=by
 have q:=PySem.W.cellsFrom_some sc.names n [] (.inl h);exact Option.isSome_iff_exists.mp q
theorem uO{CX:rg}{P:Program}{w:World}{K:PySem.W.Frag}{C:Str->Option Value}{base:Heap}{N ps:List Str}{qual:Str}{scope:Scope}{f:Addr}{o:Value}{A:Around}{outer:List Env}{s D:Shared}{H:Hp}{E:XK}{us:List Value}{vs:List V}
  (S:nF N ps scope) (J:A.handled=none) (g:rh P w K C base A outer s H) (Q:vs.length=ps.length) (r:Vals vs us)
  (x:InCallC s s.heap.objs.size (bindL (envOfC qual scope s.heap.objs.size f o).kindOf (ps.zip us) λ_=>none) (cellsFrom (s.heap.objs.size+1) scope.names []) (bindC (envOfC qual scope s.heap.objs.size f o).kindOf (ps.zip us) λ_=>none) D) :
  Inv (uN CX P w K C base N qual scope f o A outer s H E) [] (start N vs) H D:=by
 have L:ps.length<=N.length:=by have:=congrArg List.length S.pre;rw[List.length_take]at this;omega
 obtain⟨t,R,rfl,F⟩:=x.done;have j:∀b:Addr,b∉(uN CX P w K C base N qual scope f o A outer s H E).ex:=λb z=>absurd (show b∈([]:List Addr)from z) (by simp)
 refine⟨⟨g.mod,S.kind,rfl,rfl,Nat.le_refl _,λy z c t d=>?_,λy hy=>?_,λy c _ h=>?_,λ_=>J,Around.frames_deeper g.frames,.inr ⟨rfl,rfl⟩,λb z=>absurd z (j b),g.bs,g.Ck,λb _ _=>j b,λb z=>absurd z (j b),g.jM,g.De⟩,
  rfl,g.bare,Un.kept F,⟨_,x.toInCall.ns,λi y v t d T=>?_⟩,λy c h=>⟨_,x.cell y c h⟩,g.hok.fresh (Nat.le_refl _),λy c h=>?_,λp l=>absurd (show p∈([]:List (Addr×Obj))from l) (by simp),g.hok.kept F,?_⟩
 .exact name_of_addr x.apart (PySem.mem_of_lookup t) (PySem.mem_of_lookup d)
 .have hy:scope.names.lookup y=some .cell\/scope.names.lookup y=some .free:=hy
  rcases hy with hy|hy
  .exact pj hy
  .exact absurd rfl (S.DF _ (PySem.mem_of_lookup hy))
 .exact Nat.le_of_lt (x.above y c (PySem.mem_of_lookup h))
 .have B:i<vs.length:=by
   unfold start at d
   by_cases B:i<vs.length
   .exact B
   .rw[List.getElem?_append_right (by simpa using B)]at d
    rw[List.getElem?_replicate]at d;split at d<;>cases d
  have M:vs[i]?=some v:=by
   unfold start at d;rw[List.getElem?_append_left (by simpa using B),List.getElem?_map]at d
   cases e:vs[i]? with
   |none=>rw[e]at d;cases d
   |some a=>rw[e]at d;cases d;rfl
  obtain⟨u,G,O⟩:=r.get M
  have l:ps[i]?=some y:=by
   rw[←S.pre,List.getElem?_take_of_lt (by omega)];exact t
  have m:ps.Nodup:=by rw[←S.pre];exact S.nd.sublist (List.take_sublist _ _)
  refine⟨u,O,?_⟩;rcases S.par y (List.mem_of_getElem? l)with k|k
  .exact .inl ⟨k,my m l G k⟩
  .obtain⟨c,e⟩:=pj (n:=s.heap.objs.size+1) k
   refine .inr ⟨.inl k,c,e,?_⟩;have q:=x.cell y c e;rw[mz m l G (by show scope.names.lookup y≠_;rw[k];decide)]at q
   exact q
 .have I:=g.hok.fresh (Nat.le_of_lt (x.above y c (PySem.mem_of_lookup h)))
  exact⟨.inl I,λ_=>I⟩
 .unfold start
  show _=N.length
  rw[List.length_append,List.length_map,List.length_replicate];omega
theorem Gp{CX:rg}{P:Program}{w:World}{K:PySem.W.Frag}{B:Str->Option Value}{base:Heap}{k:Nat}{f:Addr}{name qual:Str}{params:Arguments}{body:List Stmt}{scope:Scope}{O kV j R a ct oc:Value}{T Y:Option Addr}
  {C:Array (Option Value)}{N ps:List Str}{sp:Sp} (Z:K.lookup f=some ⟨oc,Y,.func (PySem.W.fnOf name qual params body scope O kV j R T a ct),C⟩) (D:PySem.W.codeIn K a qual=true) (S:nF N ps scope)
  (l:∀vs H Q E,sp vs H Q E->vs.length=ps.length)
  (g:∀(A:Around) (outer:List Env) (s:Shared) (H:Hp) (vs:List V) (Q:VK) (E:XK),cO k (A.deeper (envOfC qual scope s.heap.objs.size f a))->sp vs H Q E ->
   ∃t,jN (uN CX P w K B base N qual scope f a A outer s H E) body t/\t {nx:=λ_ d=>Q .non d,rt:=Q} (start N vs) H) :
  cH P w K B base CX (k+1) f (PySem.W.fnOf name qual params body scope O kV j R T a ct) ps sp:=by
 refine⟨l,λA outer s H args us vs Q E F m hb r p=>?_⟩
 have hl:=l _ _ _ _ p;have U:K.In s.heap:=m.mod.FU.keeps λb o e=>(m.bs b o e).1
 have G:s.heap.NoLimit:=m.mod.nolimit.keeps λb o e=>(m.bs b o e).1
 have h:∀y∈ps.zip us,scope.names.lookup y.1=some .local\/(scope.names.lookup y.1=some .cell/\((cellsFrom (s.heap.objs.size+1) scope.names []).lookup y.1).isSome=true):=λ⟨n,v⟩ hy=>by
  rcases S.par n (List.of_mem_zip hy).1 with q|q
  .exact .inl q
  .exact .inr ⟨q,PySem.W.cellsFrom_some _ _ _ (.inl q)⟩
 refine codeAny_call_function F.depth (U _ _ Z) rfl S.co S.gen rfl (PySem.W.codeRec_of U D) (hb _ _ _ _ ?_);refine wpAny_newFunctionEnv_cells S.kind h λa0 he X x=>?_
 subst he;refine⟨G.keeps x.toInCall.keep,codeAny_func ?_⟩;obtain⟨t,ht,hq⟩:=g A outer s H vs Q E (F.deeper _) p;have I:Inv (uN CX P w K B base N qual scope f a A outer s H E) [] (start N vs) H X:=uO S F.hd m hl r x;refine wpAny_mono (ht [] X (start N vs) H _ I hq) (λfl L i=>?_) λe L i=>i
 have z:∀{c:St}{d:Hp}{v:V}{u:Value},Inv (uN CX P w K B base N qual scope f a A outer s H E) [] c d L->RelV v u->Q v d->CE outer P w H s Q u L:=
  λ{c d v u} J M q=>⟨v,d,J.os,J.bare,J.base,J.hok,M,q⟩
 cases fl with
 |ret u=>
  obtain⟨v,c,d,J,M,q⟩:=i;exact z J M q
 |next=>
  obtain⟨c,d,J,q⟩:=i;exact z (v:=V.non) (u:=Value.none) J rfl q
 |brk=>
  obtain⟨_,_,_,q⟩:=i;exact False.elim q
 |cont=>
  obtain⟨_,_,_,q⟩:=i;exact False.elim q
section
variable{X:Cx}{x:Str}{p pos:Pos}{e:Expr}{es:List Expr}{t:TA}{id T:String}{r:List V->Hp->VK->Prop}
noncomputable def RT(r:List V->Hp->VK->Prop)(t:TA):TE:=λa H Q=>t a H λb c=>r b c Q
theorem pk(d:dB X (.builtin id) r)(f:Gl X x)(g:X.mg x=none)(i:bootBuiltins x=some (.builtin id))(j:PA X (e::es) t)(k:x≠"__name__":=by decide)(a:(x==("__debug__":Str))=false:=by decide)
  (l:starEach (e::es) X.env=(false,eval e X.env)::starEach es X.env:=by rfl) (b:(backTo pos (starEach es X.env)).any (·.1)=false:=by rfl):PE X (.Call (.Name x p) (e::es) [] pos) (RT r t):=by
 intro pins s c H Q I h;refine wpAny_Call_Name_kw (kA I f g i ?_ k a);exact PyProof.Rows.callWith_builtin1 (cg (j pos pins s c H _ I h) λm n ⟨o,H1,I1,r1,q1⟩=>d pins n c H1 o m Q I1 r1 q1) l b
theorem uP(d:dB X (.type T) r)(f:Gl X x)(g:X.mg x=none)(i:bootBuiltins x=some (.type T))(j:PA X (e::es) t)(k:x≠"__name__":=by decide)(a:(x==("__debug__":Str))=false:=by decide)
  (l:starEach (e::es) X.env=(false,eval e X.env)::starEach es X.env:=by rfl) (b:(backTo pos (starEach es X.env)).any (·.1)=false:=by rfl):PE X (.Call (.Name x p) (e::es) [] pos) (RT r t):=by
 intro pins s c H Q I h;refine wpAny_Call_Name_kw (kA I f g i ?_ k a);exact PyProof.Rows.callWith_type1 (cg (j pos pins s c H _ I h) λm n ⟨o,H1,I1,r1,q1⟩=>d pins n c H1 o m Q I1 r1 q1) l b
end
end L2
namespace HT
open PySem PyProof.Rows
section
open PySem.SeqAt
open PySem.AutoSeq1 (wpAny_loadPart')
open PySem.MeetsSeq PySem.MeetsSeq2 PySem.MeetsSeq3
end
section
variable{prog:Program}{w:World}{A:Around}{E:Value->Shared->Prop}{s:Shared}
noncomputable def gR(n d:Nat):Option Int->Nat
 |none=>d
 |some v=>if v<0 then (v+(n:Int)).toNat else min v.toNat n
theorem pq(n d:Nat):gR n d none=d:=rfl
theorem ka(n d k:Nat):gR n d (some (k:Int))=min k n:=by
 show(if (k:Int)<0 then ((k:Int)+(n:Int)).toNat else min (k:Int).toNat n)=min k n
 rw[if_neg (by omega),Int.toNat_natCast]
theorem ri(n d:Nat)(b:d<=n)(o:Option Int):gR n d o<=n:=by
 cases o with
 |none=>exact b
 |some v=>
  show(if v<0 then (v+(n:Int)).toNat else min v.toNat n)<=n
  by_cases a:v<0
  .rw[if_pos a];omega
  .rw[if_neg a];exact Nat.min_le_right _ _
end
end HT
namespace L2
open PySem PySem.Spec PyProof.Rows
abbrev TO:=St->Hp->(Option Int->Hp->Prop)->Prop
def PO(X:Cx)(e:Option Expr)(t:TO):Prop:=
 ∀(pins:List (Addr×Obj)) (s:Shared) (a:St) (H:Hp) (Q:Option Int->Hp->Prop),Inv X pins a H s->t a H Q ->
  wpAny (model X.prog X.w) X.A (evalPart e X.env) (λu c=>∃o b,Inv X pins a b c/\IsPart u o/\Q o b) X.xe s
noncomputable def sR:TO:=λ_ H Q=>Q none H
noncomputable def Gq(t:TE):TO:=λa H Q=>t a H λx b=>∃i,x=.int i/\Q (some i) b
section
variable{X:Cx}{e:Expr}{te:TE}{lo hi:Option Expr}{tl th:TO}{pos p2:Pos}
theorem zF:PO X none sR:=by
 intro pins s a H Q I h;rw[evalPart_none];exact wpAny_pure ⟨none,H,I,.none,h⟩
theorem zG(h:PE X e te):PO X (some e) (Gq te):=by
 intro pins s a H Q I b;rw[evalPart_some];refine cg (h pins s a H _ I b) λu c ⟨x,H1,I1,r1,q1⟩=>?_
 obtain⟨i,rfl,q⟩:=q1;obtain⟨t,rfl⟩:=r1;exact⟨some i,H1,I1,.int i t,q⟩
def DG(X:Cx)(r:V->Option Int->Option Int->Hp->VK->Prop):Prop:=
 ∀(pins:List (Addr×Obj)) (s:Shared) (a:St) (H:Hp) (x:V) (v b c:Value) (d e:Option Int) (f:Addr) (Q:VK),Inv X pins a H s->RelV x v->s.heap.IsSliceOf f b c .none->IsPart b d->IsPart c e->r x d e H Q ->
  ∃T g,typeLookup (.type T) "__getitem__"=pure (some (.builtin g))/\s.TypeIs v T/\wpAny (model X.prog X.w) X.A (getItem v (.ref f)) (EP X pins a Q) X.xe s
theorem DG.or{r c:V->Option Int->Option Int->Hp->VK->Prop}(h:DG X r)(h':DG X c):DG X (λx a b H Q=>r x a b H Q\/c x a b H Q):=by
 intro pins s d H x v e f a b g Q I i j k l q;rcases q with q|q
 .exact h pins s d H x v e f a b g Q I i j k l q
 .exact h' pins s d H x v e f a b g Q I i j k l q
noncomputable def Us(r:V->Option Int->Option Int->Hp->VK->Prop)(b:TE)(c d:TO):TE:=λa H Q=>b a H λx e=>c a e λl f=>d a f λu g=>r x l u g Q
theorem gq{r:V->Option Int->Option Int->Hp->VK->Prop}(g:DG X r)(i:PE X e te)(j:PO X lo tl)(k:PO X hi th):PE X (.Subscript e (.Slice lo hi none p2) pos) (Us r te tl th):=by
 intro pins s a H Q I h;refine Subscript_ (cg (i pins s a H _ I h) λv m ⟨x,H1,I1,n,q1⟩=>?_)
 refine wpAny_Slice (cg (j pins m a H1 _ I1 q1) λc o ⟨l,H2,I2,p,q2⟩=>cg (k pins o a H2 _ I2 q2) λd s3 ⟨u,f,t,y,z⟩=>?_)
 rw[evalPart_none];refine wpAny_pure ?_;have B:Inv X pins a f {s3 with heap:=s3.heap.push {cls:=.type "slice",data:=.fields #[c,d,.none]} }:=t.kept (t':=s3.toks) λb F q=>Heap.get?_push_of_some _ q
 obtain⟨T,G,C,D,E⟩:=g pins {s3 with heap:=s3.heap.push {cls:=.type "slice",data:=.fields #[c,d,.none]} } a f x v c d l u s3.heap.objs.size Q B n (Heap.IsSliceOf.new ..) p y z
 show wpAny (model X.prog X.w) X.A (subscriptTail e (.Slice lo hi none p2) v (.ref s3.heap.objs.size)) (EP X pins a Q) X.xe {s3 with heap:=s3.heap.push {cls:=.type "slice",data:=.fields #[c,d,.none]} }
 exact tail_any (ops:=[.ref s3.heap.objs.size,v]) D C E (by with_unfolding_all rfl)
def uQ(xs:List V)(a b:Option Int):List V:=(xs.drop (HT.gR xs.length 0 a)).take (HT.gR xs.length xs.length b - HT.gR xs.length 0 a)
theorem pv(xs:List V)(a b:Option Int):(uQ xs a b).length<=xs.length:=by
 unfold uQ;rw[List.length_take,List.length_drop];omega
end
noncomputable def qN(n:Nat)(i:Int):Option Nat:=if 0<=i then (if i<n then some i.toNat else none)else if -(n:Int)<=i then some (i+n).toNat else none
def jh{a:Type}(xs:List a)(i:Int):Option a:=(qN xs.length i).bind λj=>xs[j]?
theorem nG{n:Nat}{i:Int}{j:Nat}(h:qN n i=some j):seqIndex? i n=some j/\j<n /\ -(n:Int)<=i/\i<n:=by
 unfold qN at h
 by_cases b:0<=i
 .rw[if_pos b]at h
  by_cases a:i<n
  .rw[if_pos a]at h
   have e:i.toNat=j:=Option.some.inj h;exact⟨by rw[seqIndex_of b a,e],by omega,by omega,a⟩
  .rw[if_neg a]at h;cases h
 .rw[if_neg b]at h
  by_cases a : -(n:Int)<=i
  .rw[if_pos a]at h
   have e:(i+n).toNat=j:=Option.some.inj h;exact⟨by rw[seqIndex_neg (by omega) a,e],by omega,a,by omega⟩
  .rw[if_neg a]at h;cases h
theorem nH{a:Type}{xs:List a}{i:Int}{v:a}(h:jh xs i=some v):∃j,seqIndex? i xs.length=some j/\xs[j]?=some v/\j<xs.length /\ -(xs.length:Int)<=i/\i<xs.length:=by
 unfold jh at h;cases e:qN xs.length i with
 |none=>rw[e]at h;cases h
 |some j=>
  rw[e]at h;obtain⟨b,c,d,f⟩:=nG e;exact⟨j,b,h,c,d,f⟩
theorem dI{a:Type}{xs:List a}{j:Nat}{v:a}(h:xs[j]?=some v):jh xs (j:Int)=some v:=by
 have b:j<xs.length:=(List.getElem?_eq_some_iff.mp h).1
 have e:qN xs.length (j:Int)=some j:=by
  unfold qN;rw[if_pos (by omega),if_pos (by omega)];simp
 unfold jh;rw[e];exact h
def sS(b:Expr):Prop:=∀o i,subscripted b false o i=operate [o,i] (getItem o i)
def zH(X:Cx)(r:R2):Prop:=
 ∀(b a:Expr) (pins:List (Addr×Obj)) (s:Shared) (c:St) (H:Hp) (x y:V) (v u:Value) (Q:VK),Inv X pins c H s->RelV x v->RelV y u->r x y H Q ->
  subscripted a false v u=operate [v,u] (getItem v u)->wpAny (model X.prog X.w) X.A (subscriptTail b a v u) (EP X pins c Q) X.xe s
def FC(X:Cx)(d:String)(r:V->List V->Hp->VK->Prop):Prop:=
 ∀(pins:List (Addr×Obj)) (s:Shared) (a:St) (H:Hp) (x:V) (b:List V) (v:Value) (c:List Value) (Q:VK),Inv X pins a H s->RelV x v->Vals b c->r x b H Q ->
  wpAny (model X.prog X.w) X.A (call (.builtin d) (v::c)) (EP X pins a Q) X.xe s
section
variable{X:Cx}{a b:Expr}{ta tb:TE}{pos:Pos}
theorem zH.or{r c:R2}(h:zH X r)(h':zH X c):zH X (λx y H Q=>r x y H Q\/c x y H Q):=by
 intro a b pins s d H x y v u Q I e f q g;rcases q with q|q
 .exact h a b pins s d H x y v u Q I e f q g
 .exact h' a b pins s d H x y v u Q I e f q g
theorem Cr{r:R2}(c:zH X r)(d:PE X a ta)(e:PE X b tb)(f:sS b):PE X (.Subscript a b pos) (FA r ta tb):=by
 intro pins s g H Q I h;exact Subscript_ (Dt d e I h λv u i x y j k l m q=>c a b pins i g j x y v u Q k l m q (f _ _))
def Gr(K:PySem.W.Frag):R2:=λx y H Q=>∃p a i v,x=.ref p/\y=.int i/\j8 K H p a/\jh a i=some v/\Q v H
def Gu(K:PySem.W.Frag):R2:=λx y H Q=>∃p a i v,x=.ref p/\y=.int i/\qT K H p a/\jh a i=some v/\Q v H
def Gv:R2:=λx y H Q=>∃z i c,x=.str z/\y=.int i/\z.length<=sizeLine/\jh z.cps.toList i=some c/\Q (.str ⟨#[c]⟩) H
theorem zI:zH X (Gr X.K):=by
 intro c d pins s l H x y v u Q I A B h m;obtain⟨p,M,i,z,rfl,rfl,C,D,q⟩:=h;cases A;obtain⟨t,rfl⟩:=B;obtain⟨e,r,f,N⟩:=I.list C;obtain⟨j,b,E,O,F,G⟩:=nH D;obtain⟨w,n,g⟩:=r.get E;have J:=r.length;have P:=gp;have a:EP X pins l Q w s:=⟨z,H,I,g,q⟩
 by_cases o:0<=i
 .have k:i.toNat=j:=by
   rw[seqIndex_of o G]at b;exact Option.some.inj b
  exact item_listR f.isList o (by omega) (by rw[k];simpa using n) a m
 .have k:(i+(e.toArray.size:Int)).toNat=j:=by
   rw[seqIndex_neg (by omega) F]at b
   rw[List.size_toArray,←J];exact Option.some.inj b
  exact subscriptTail_builtinR (x:=w) f.isList.typeIs slot_list_getitem.lookup
   (wpAny_getItem_list_neg (Q:=λr L=>r=w/\EP X pins l Q r L) f.isList (by omega) (by rw[List.size_toArray]<;>omega) (by omega) (by rw[k];simpa using n) ⟨rfl,a⟩) m
theorem DH:zH X (Gu X.K):=by
 intro a b pins s e H x y v u Q I g k h l;obtain⟨p,F,i,z,rfl,rfl,m,n,q⟩:=h;cases g;obtain⟨t,rfl⟩:=k;obtain⟨o,r,f,G⟩:=I.tuple m;obtain⟨j,A,B,J,L,M⟩:=nH n;obtain⟨w,C,c⟩:=r.get B;have D:=r.length;have N:=gp;have d:EP X pins e Q w s:=⟨z,H,I,c,q⟩
 exact subscriptTail_builtinR (x:=w) f.typeIs slot_tuple_getitem.lookup
  (getItem_tuple (j:=j) (Q:=λr E=>r=w/\EP X pins e Q r E) f (by omega) (by omega) (by rw[List.size_toArray,←D];exact A) (by simpa using C) ⟨rfl,d⟩) l
theorem DI:zH X Gv:=by
 intro a b pins s w H x y v u Q I e f h g;obtain⟨z,i,c,rfl,rfl,A,k,q⟩:=h;obtain⟨t,rfl⟩:=e;obtain⟨B,rfl⟩:=f;obtain⟨j,d,l,C,m,n⟩:=nH k;have o:z.cps.toList.length=z.length:=by simp[Str.length]
 rw[o]at d m n;have D:=gp
 exact tail_any (typeIs_str s z t) slot_str_getitem.lookup (getItem_str (c:=c) (by
  have p:decide (i < -(2 ^ 63:Int))=false:=decide_eq_false (by omega)
  have r:decide (i≥2 ^ 63)=false:=decide_eq_false (by omega)
  rw[p,r,Bool.or_false]) (by rw[d];simpa using l) ⟨.str ⟨#[c]⟩,H,I.tok _,⟨_,rfl⟩,q⟩) g
def J9(K:PySem.W.Frag):R2:=λx y H Q=>Gr K x y H Q\/Gu K x y H Q\/Gv x y H Q
theorem wx:zH X (J9 X.K):=zI.or (DH.or DI)
theorem rj(a:List Value)(n j:Nat)(u:Value):Obj.mapSeq (·.setIfInBounds j u) {cls:=.type "list",data:=.seq a.toArray n}={cls:=.type "list",data:=.seq (a.set j u).toArray n}:=by
 simp[Obj.mapSeq]
theorem Inv.lst{pins:List (Addr×Obj)}{b:St}{H:Hp}{s:Shared}{p:Addr}{xs:List V}(I:Inv X pins b H s)(h:H p=some (.lst xs)) :
  ∃(a:List Value) (n:Nat),Vals xs a/\s.heap.get? p=some {cls:=.type "list",data:=.seq a.toArray n}/\xs.length<=sizeLine:=by
 obtain⟨z,a,n,r,e⟩:=I.hok p _ h;exact⟨a,n,r,e,z⟩
theorem Inv.DJ{pins:List (Addr×Obj)}{g:St}{H:Hp}{s:Shared}{p:Addr}{xs c:List V}{a its':List Value}{n d:Nat}{f:Obj->Obj}(I:Inv X pins g H s)(h:H p=some (.lst xs))
  (j:s.heap.get? p=some {cls:=.type "list",data:=.seq a.toArray n}) (i:f {cls:=.type "list",data:=.seq a.toArray n}={cls:=.type "list",data:=.seq its'.toArray d}) (r:Vals c its') (hz:c.length<=sizeLine) (t:Nat) :
  Inv X pins g (upd H p (.lst c)) {s with heap:=s.heap.update p f,toks:=t}:=by
 have e:(s.heap.update p f).get? p=some {cls:=.type "list",data:=.seq its'.toArray d}:=by
  rw[Heap.get?_update_self f j (by rw[i]<;>rfl),i]
 refine I.write (x:=p) (e:=p) (by rw[h];trivial) (.inl rfl) (λb u k q=>(Heap.get?_update_other _ _ (Ne.symm k)).trans q) ⟨_,e⟩ ?_
 exact⟨hz,its',d,r,e⟩
def Gw:V->V->V->Hp->(Hp->Prop)->Prop:=λo i v H Q=>∃p a k j,o=.ref p/\i=.int k/\H p=some (.lst a)/\qN a.length k=some j/\Q (upd H p (.lst (a.set j v)))
theorem set_list:LQ X Gw:=by
 intro pins s x H o i v E F u Q I y z A h;obtain⟨p,B,k,j,rfl,rfl,f,C,q⟩:=h;cases y;obtain⟨t,rfl⟩:=z;obtain⟨a,n,r,c,D⟩:=I.lst f;obtain⟨b,G,g,l⟩:=nG C;have d:=r.length;have J:=gp
 have m:Inv X pins x (upd H p (.lst (B.set j v))) {s with heap:=s.heap.update p (Obj.mapSeq (·.setIfInBounds j u))}:=
  I.DJ f c (rj a n j u) (r.set A j) (by rw[List.length_set];exact D) s.toks
 by_cases w:0<=k
 .have e:k.toNat=j:=by
   rw[seqIndex_of w l]at b;exact Option.some.inj b
  exact PySem.W.ki_setAt c w (by omega) (by rw[List.size_toArray,←d];exact l) (by rw[e];exact⟨_,m,q⟩)
 .have e:(k+(a.toArray.size:Int)).toNat=j:=by
   rw[seqIndex_neg (by omega) g]at b
   rw[List.size_toArray,←d];exact Option.some.inj b
  exact PySem.W.ki_setBack c (by omega) (by rw[List.size_toArray,←d];exact g) (by omega) (by rw[e];exact⟨_,m,q⟩)
theorem nI(a b:Option Int)(n:Nat):(sliceBounds a b none n).1=((HT.gR n 0 a:Nat):Int)/\(sliceBounds a b none n).2.1=((HT.gR n n b:Nat):Int)/\(sliceBounds a b none n).2.2=1:=by
 refine⟨?_,?_,rfl⟩
 .cases a with
  |none=>simp[sliceBounds,HT.gR]
  |some i=>
   simp only[sliceBounds,HT.gR,Option.getD_none,show(1:Int)>0 by decide,if_true]
   by_cases h:i<0
   .simp only[h,if_true]<;>omega
   .simp only[h,if_false]<;>omega
 .cases b with
  |none=>simp[sliceBounds,HT.gR]
  |some i=>
   simp only[sliceBounds,HT.gR,Option.getD_none,show(1:Int)>0 by decide,if_true]
   by_cases h:i<0
   .simp only[h,if_true]<;>omega
   .simp only[h,if_false]<;>omega
theorem l9(a:List Value)(b c:Option Int):slicePick a.toArray b c none=((a.drop (HT.gR a.length 0 b)).take (HT.gR a.length a.length c - HT.gR a.length 0 b)).toArray:=by
 obtain⟨d,e,f⟩:=nI b c a.toArray.size;unfold slicePick;rw[d,e,f];simp only[sliceRange_one,pick_run,List.size_toArray]<;>rfl
def Gx(K:PySem.W.Frag):V->Option Int->Option Int->Hp->VK->Prop:=λx c d H Q=>∃a b,x=.ref a/\j8 K H a b/\∀p,H p=none->Q (.ref p) (upd H p (.lst (uQ b c d)))
theorem iz:DG X (Gx X.K):=by
 intro pins s t H x v u w e f y Q I i j k l h;obtain⟨a,c,rfl,m,q⟩:=h;cases i;obtain⟨n,r,g,p⟩:=I.list m;have d:=r.length;refine⟨"list",_,slot_list_getitem.lookup,g.isList.typeIs,?_⟩;refine wpAny_getItem_list_slice g.isList j k l .none (by simp) ?_ (by rw[List.size_toArray]<;>omega)
 rw[l9,←d];refine⟨.ref s.heap.objs.size,_,I.laid (t':=s.toks) (o:=.lst (uQ c e f)) (λb z q=>Heap.get?_push_of_some _ q) (Nat.le_refl _) ?_,rfl,q _ (I.hok.fresh (Nat.le_refl _))⟩
 exact⟨Nat.le_trans (pv c e f) p,_,0,(r.drop (HT.gR c.length 0 e)).take (HT.gR c.length c.length f - HT.gR c.length 0 e),Heap.get?_push_size _ rfl⟩
theorem nJ:dB X (.builtin "len") (λxs H Q=>∃p b,xs=[.ref p]/\(j8 X.K H p b\/qT X.K H p b)/\Q (.int b.length) H):=by
 intro pins s i H xs j Q I r h;obtain⟨p,b,rfl,hq,q⟩:=h;obtain⟨u,rfl,f⟩:=vals1 r;cases f;have k:=gp;rcases hq with hq|hq
 .obtain⟨c,d,e,g⟩:=I.list hq
  have a:=d.length;exact Calls.call_len_list e.isList (by simp only[List.size_toArray]<;>omega) ⟨.int b.length,H,I.tok _,⟨s.toks+1,by rw[List.size_toArray,a]⟩,q⟩
 .obtain⟨c,d,e,g⟩:=I.tuple hq
  have a:=d.length;exact len_tuple e (by simp only[List.size_toArray]<;>omega) ⟨.int b.length,H,I.tok _,⟨s.toks+1,by rw[List.size_toArray,a]⟩,q⟩
theorem nK:dB X (.builtin "len") (λxs H Q=>∃z,xs=[.str z]/\z.length<=sizeLine/\Q (.int z.length) H):=by
 intro pins s a H xs b Q I r h;obtain⟨z,rfl,c,q⟩:=h;obtain⟨u,rfl,t,rfl⟩:=vals1 r;have d:=gp;exact len_str (by omega) ⟨.int z.length,H,I.tok _,⟨_,rfl⟩,q⟩
theorem dB.or{f:Value}{r a:List V->Hp->VK->Prop}(h:dB X f r)(h':dB X f a):dB X f (λxs H Q=>r xs H Q\/a xs H Q):=by
 intro pins s b H xs c Q I d q;rcases q with q|q
 .exact h pins s b H xs c Q I d q
 .exact h' pins s b H xs c Q I d q
theorem nL:dB X (.type "list") (λxs H Q=>∃p d,xs=[.ref p]/\(j8 X.K H p d\/qT X.K H p d)/\∀l,H l=none->Q (.ref l) (upd H l (.lst d))):=by
 intro pins s B H xs D Q I r h;obtain⟨p,d,rfl,hq,q⟩:=h;obtain⟨u,rfl,C⟩:=vals1 r;cases C
 have i:∀(a:List Value),Vals d a->d.length<=sizeLine->∀(c:Heap) (f:Nat),(∀b A,s.heap.get? b=some A->c.get? b=some A) ->
   c.get? s.heap.objs.size=some {cls:=.type "list",dict:=none,data:=.seq a.toArray f,slots := #[]}->EP X pins B Q (.ref s.heap.objs.size) {s with heap:=c}:=λa g j c f k e=>
  ⟨.ref s.heap.objs.size,_,I.laid (t':=s.toks) k (Nat.le_refl _) (show bN X.prog X.w _ c _ (.lst d)from⟨j,a,f,g,e⟩),rfl,q _ (I.hok.fresh (Nat.le_refl _))⟩
 rcases hq with hq|hq
 .obtain⟨a,g,t,j⟩:=I.list hq
  have m:=g.length;obtain⟨o,x,y,n,z⟩:=t.isList;exact call_list_seq p (.inl rfl) x y z (λc f k e=>i a g j c f k e) (by simp only[List.size_toArray]<;>omega)
 .obtain⟨a,g,t,j⟩:=I.tuple hq
  have m:=g.length;obtain⟨o,x,y,n,z⟩:=t;exact call_list_seq p (.inr rfl) x y z (λc f k e=>i a g j c f k e) (by simp only[List.size_toArray]<;>omega)
theorem l_:dB X (.type "tuple") (λxs H Q=>∃p c,xs=[.ref p]/\((j8 X.K H p c/\∀l,H l=none->Q (.ref l) (upd H l (.tup c)))\/(qT X.K H p c/\Q (.ref p) H))):=by
 intro pins s j H xs z Q I r h;obtain⟨p,c,rfl,h⟩:=h;obtain⟨u,rfl,t⟩:=vals1 r;cases t;rcases h with ⟨f,q⟩|⟨f,q⟩
 .obtain⟨a,g,i,k⟩:=I.list f
  have m:=g.length;refine call_tuple_list i.isList (λd x=>?_) (by simp only[List.size_toArray]<;>omega)
  have n:Inv X pins j H {s with heap:=d}:=I.kept (t':=s.toks) x
  have y:Inv X pins j (upd H d.objs.size (.tup c)) {s with heap:=d.push {cls:=.type "tuple",data:=.seq a.toArray} }:=
   n.laid (t':=s.toks) (λb o e=>Heap.get?_push_of_some _ e) (Nat.le_refl _) (show bN X.prog X.w _ _ _ (.tup c)from⟨k,a,g,IsTup.new _ _⟩)
  exact⟨.ref d.objs.size,_,y,rfl,q _ (n.hok.fresh (Nat.le_refl _))⟩
 .obtain⟨a,g,i,k⟩:=I.tuple f
  exact call_tuple_same i ⟨.ref p,H,I,rfl,q⟩
def FD(K:PySem.W.Frag)(T:String)(x:V)(H:Hp):Prop:=match x with
 |.str _=>T="str"
 |.int _=>T="int"
 |.ref p=>(T="list"/\∃b,j8 K H p b)\/(T="tuple"/\∃o,K.lookup p=some o/\o.cls=.type "tuple"/\o.dict=none) \/
   (T="dict"/\((∃a,H p=some (.dK a))\/∃a,H p=some (.dT a)))\/(T="set"/\∃S n,H p=some (.set S n))
 |_=>False
theorem DK{pins:List (Addr×Obj)}{l:St}{H:Hp}{s:Shared}{T:String}{x:V}{v:Value}(I:Inv X pins l H s)(r:RelV x v)(f:FD X.K T x H) :
  s.TypeIs v T/\∀a,v=.ref a->∃ob,s.heap.get? a=some ob/\ob.dict=none:=by
 cases x with
 |str z=>
  obtain⟨t,rfl⟩:=r;cases (show T="str" from f)
  exact⟨typeIs_str s z t,λ_ e=>nomatch e⟩
 |int i=>
  obtain⟨t,rfl⟩:=r;cases (show T="int" from f)
  exact⟨typeIs_int s i t,λ_ e=>nomatch e⟩
 |ref p=>
  cases r;rcases f with ⟨rfl,w,m⟩|⟨rfl,o,b,q,g⟩|⟨rfl,b⟩|⟨rfl,S,n,b⟩
  .obtain⟨u,_,k,_⟩:=I.list m
   refine⟨k.isList.typeIs,λa e=>?_⟩
   cases e;obtain⟨o,n,e,c,g,_⟩:=k;exact⟨o,e,g⟩
  .refine⟨⟨o,I.je p o b,q⟩,λa e=>?_⟩
   cases e;exact⟨o,I.je _ o b,g⟩
  .have z:∃o,s.heap.get? p=some o/\o.ExactDict:=by
    rcases b with ⟨h,b⟩|⟨h,b⟩
    .obtain⟨_,_,_,_,o,_,_,e,d,_⟩:=I.hok p _ b
     exact⟨o,e,d⟩
    .obtain⟨_,_,_,_,o,_,_,e,d,_⟩:=I.hok p _ b
     exact⟨o,e,d⟩
   obtain⟨o,e,d⟩:=z;refine⟨⟨o,e,d.1⟩,λa j=>?_⟩
   cases j;exact⟨o,e,d.2.1⟩
  .obtain⟨o,_,_,_,e,d,_⟩:=I.hok p _ b
   refine⟨⟨o,e,d.1⟩,λa j=>?_⟩
   cases j;exact⟨o,e,d.2.1⟩
 |_=>exact False.elim f
noncomputable def Ut(K:PySem.W.Frag)(T:String)(r:V->List V->Hp->VK->Prop)(c:TE)(t:TA):TE:=λa H Q=>c a H λx b=>FD K T x b/\t a b λd e=>r x d e Q
variable{o e:Expr}{es:List Expr}{to:TE}{t:TA}{name:Str}{apos cpos:Pos}{T id:String}{r:V->List V->Hp->VK->Prop}
theorem Gy(j:PlainAttrs T)(slot:Slot T name id)(f:typeOf (.builtin id)=pure (.type "method_descriptor"))(k:FC X id r)(l:PE X o to)(m:PA X (e::es) t)
  (b:attributeBase o name X.env (eval o X.env)=eval o X.env:=by rfl)
  (d:((backTo cpos (starEach (e::es) X.env)).all (λx=>!x.1)&&(backToKw cpos (keywordEach [] X.env)).all (λx=>x.1.isSome)
   && decide ((e::es).length+([]:List Keyword).length+(if ([]:List Keyword).isEmpty then 0 else 1)<30))=true:=by rfl)
  (c:(apos.endLine==cpos.line)=true:=by rfl) (n:starEach (e::es) X.env=(false,eval e X.env)::starEach es X.env:=by rfl) (a:(backTo cpos (starEach es X.env)).any (·.1)=false:=by rfl) :
  PE X (.Call (.Attribute o name apos) (e::es) [] cpos) (Ut X.K T r to t):=by
 intro pins s g H Q I h;refine wpAny_Call_method_late b d c rfl (cg (l pins s g H _ I h) λv p ⟨x,H1,I1,r1,ty,q1⟩=>?_)
 obtain⟨q,u⟩:=DK I1 r1 ty;refine⟨T,id,j,slot,f,q,u,?_⟩;have i:=m cpos pins p g H1 _ I1 q1;rw[n]at i ⊢;refine Calls.callWith_builtin (by show(false||(backTo cpos (starEach es X.env)).any (·.1))=false;rw[a]<;>rfl) (Calls.evalArgs_plain ?_)
 exact cg i λw y ⟨z,A,B,C,D⟩=>k pins y g A x z v w Q B r1 C D
end
def J_(X:Cx)(d:String)(r:V->List V->Hp->VK->Prop):Prop:=
 ∀(pins:List (Addr×Obj)) (s:Shared) (a:St) (H:Hp) (x:V) (b:List V) (v:Value) (c:List Value) (Q:VK),Inv X pins a H s->RelV x v->Vals b c->r x b H Q ->
  wpAny (model X.prog X.w) X.A (call (.builtin d) (v::c)) (EP X pins a Q) X.xe s
theorem Vals.one:∀{x:V}{us:List Value},Vals [x] us->∃u,us=[u]/\RelV x u
 |_,_,.cons r .nil=>⟨_,rfl,r⟩
theorem Vals.two:∀{x y:V}{us:List Value},Vals [x,y] us->∃u v,us=[u,v]/\RelV x u/\RelV y v
 |_,_,_,.cons r (.cons q .nil)=>⟨_,_,rfl,r,q⟩
theorem Vals.eraseIdx:∀{xs:List V}{us:List Value} (i:Nat),Vals xs us->Vals (xs.eraseIdx i) (us.eraseIdx i)
 |_,_,_,.nil=>.nil
 |_,_,0,.cons _ t=>t
 |_,_,i+1,.cons r t=>.cons r (Vals.eraseIdx i t)
theorem mB{a:Type}:∀(l:List a) (i:Nat),(l.eraseIdx i).length<=l.length
 |[],_=>Nat.le_refl _
 |_::_,0=>Nat.le_succ _
 |_::r,i+1=>Nat.succ_le_succ (mB r i)
section
variable{X:Cx}{pins:List (Addr×Obj)}{σ:St}{H:Hp}{s:Shared}{l b:Addr}{xs ys zs:List V}
theorem Inv.zJ{a its':List Value}{n:Nat}{f:Array Value->Array Value}{t':Nat}(I:Inv X pins σ H s)(b:H l=some (.lst xs))
  (e:s.heap.get? l=some {cls:=.type "list",data:=.seq a.toArray n}) (c:f a.toArray=its'.toArray) (d:Vals ys its') (hz:ys.length<=sizeLine) :
  Inv X pins σ (upd H l (.lst ys)) {s with heap:=s.heap.update l (Obj.mapSeq f),toks:=t' }:=by
 have q:=PySem.IsL.update e f;rw[c]at q;refine I.write (x:=l) (e:=l) (by rw[b];exact trivial) (.inl rfl) (λi u g h=>(Heap.get?_update_other s.heap (Obj.mapSeq f) (Ne.symm g)).trans h) ⟨_,q⟩ ?_
 exact⟨hz,its',_,d,q⟩
theorem Inv.Mb{a:List Value}{t':Nat}(I:Inv X pins σ H s)(b:Vals ys a)(hz:ys.length<=sizeLine) :
  Inv X pins σ (upd H s.heap.objs.size (.lst ys)) {s with heap:=s.heap.push {cls:=.type "list",data:=.seq a.toArray},toks:=t' }:=
 I.laid (λ_ _ q=>Heap.get?_push_of_some _ q) (Nat.le_refl _) ⟨hz,a,0,b,Heap.get?_push_size _ rfl⟩
theorem Inv.fresh(I:Inv X pins σ H s):H s.heap.objs.size=none:=I.hok.fresh (Nat.le_refl _)
theorem Inv.wy(I:Inv X pins σ H s)(b:H l=some (.lst xs)):xs.length<=sizeLine/\∃(a:List Value) (n:Nat),Vals xs a/\xs.length=a.length/\s.heap.get? l=some {cls:=.type "list",data:=.seq a.toArray n}:=by
 obtain⟨z,a,n,r,e⟩:=I.hok l _ b;exact⟨z,a,n,r,r.length,e⟩
theorem wz{n:Nat}(h:n<=sizeLine):Builtin.List.listTooLong n=false:=by
 unfold Builtin.List.listTooLong;exact decide_eq_false (by omega)
end
section
variable{X:Cx}
def sT:V->List V->Hp->VK->Prop:=λx b H Q=>∃l a y,x=.ref l/\b=[y]/\H l=some (.lst a)/\a.length<sizeLine/\Q .non (upd H l (.lst (a++[y])))
theorem mD:J_ X "list.append" sT:=by
 intro pins s g H x i v j Q I c d h;obtain⟨l,k,y,rfl,rfl,b,m,q⟩:=h;cases c;obtain⟨u,rfl,f⟩:=d.one;obtain⟨z,a,n,r,o,e⟩:=I.wy b;refine call_meets F.slot_list_append ⟨_,e,rfl⟩ F.entry_list_append (F.args_list_append_2 _ _) (PySem.list_append l a.toArray n u (by rw[List.size_toArray];omega)) ⟨e,?_⟩
 refine⟨.non,_,I.zJ (its':=a++[u]) b e (by simp) (r.append (.cons f .nil)) ?_,rfl,q⟩
 rw[List.length_append,List.length_singleton];omega
def sU:V->List V->Hp->VK->Prop:=λx d H Q=>∃l b a c,x=.ref l/\d=[.ref b]/\H l=some (.lst a)/\H b=some (.lst c)/\a.length+c.length<=sizeLine/\Q .non (upd H l (.lst (a++c)))
theorem uR:J_ X "list.extend" sU:=by
 intro pins s y H x A v B Q I i j h;obtain⟨l,b,C,D,rfl,rfl,g,k,E,q⟩:=h;cases i;obtain⟨u,rfl,m⟩:=j.one;cases m;obtain⟨z,c,n,r,G,e⟩:=I.wy g;obtain⟨J,a,o,p,t,w⟩:=I.wy k;have f:c.toArray.size+a.toArray.size<=sizeLine:=by rw[List.size_toArray,List.size_toArray];omega
 have d:¬ (!c.toArray.isEmpty&&Builtin.List.listTooLong (c.toArray.size+a.toArray.size))=true:=by
  rw[wz f,Bool.and_false];exact Bool.false_ne_true
 refine call_meets F.slot_list_extend ⟨_,e,rfl⟩ F.entry_list_extend (F.args_list_extend_2 _ _)
  (AutoSeq1.list_extend_list_list_0 l c.toArray n b a.toArray o d (by rw[List.size_toArray];omega) (by omega)) ⟨e,w,?_⟩
 refine⟨.non,_,I.zJ (its':=c++a) g e (by simp) (r.append p) ?_,rfl,q⟩
 rw[List.length_append];omega
def wA:V->List V->Hp->VK->Prop:=λx b H Q=>∃l a i k y,x=.ref l/\b=[.int i]/\H l=some (.lst a) /\ -(2 ^ 63)<=i/\i<2 ^ 63/\seqIndex? i a.length=some k/\a[k]?=some y/\Q y (upd H l (.lst (a.eraseIdx k)))
theorem wB:J_ X "list.pop" wA:=by
 intro pins s D H x E v G Q I d f h;obtain⟨l,g,i,k,y,rfl,rfl,c,j,m,o,p,q⟩:=h;cases d;obtain⟨u,rfl,A⟩:=f.one;obtain⟨t,rfl⟩:=A;obtain⟨z,a,n,r,B,e⟩:=I.wy c;obtain⟨w,C,b⟩:=r.get p
 refine call_meets F.slot_list_pop ⟨_,e,rfl⟩ F.entry_list_pop (F.args_list_pop_2 _ _)
  (MeetsSeq.list_pop_at l a.toArray n i t k w (fitsIndex_both j m) (by rw[List.size_toArray,←B];exact o) (by rw[←Array.getElem?_toList];exact C) (by rw[List.size_toArray];omega)) ⟨e,?_⟩
 refine⟨y,_,I.zJ (its':=a.eraseIdx k) c e ?_ (r.eraseIdx k) ?_,b,q⟩
 .show a.toArray.eraseIdxIfInBounds k=(a.eraseIdx k).toArray
  rw[List.eraseIdxIfInBounds_toArray]
 .have:=mB g k
  omega
end
section
variable{prog:Program}{w:World}{A:Around}{E:Value->Shared->Prop}{s:Shared}
end
section
variable{X:Cx}
end
section
variable{κ:Type}[DecidableEq κ]
noncomputable def g9(kvs:List (κ×V))(k:κ):Option V:=(kvs.find? λa=>decide (a.1=k)).map (·.2)
noncomputable def putK(kvs:List (κ×V))(k:κ)(v:V):List (κ×V):=
 if (kvs.any λa=>decide (a.1=k))=true then kvs.map (λa=>if a.1=k then (a.1,v)else a)else kvs++[(k,v)]
noncomputable def jC(kvs:List (κ×V))(k:κ):List (κ×V):=kvs.filter λa=>decide (a.1≠k)
theorem iA{p:κ×V}{r:List (κ×V)}{k:κ}(e:p.1=k):g9 (p::r) k=some p.2:=by simp[g9,List.find?_cons,e]
theorem iB{p:κ×V}{r:List (κ×V)}{k:κ}(e:¬ p.1=k):g9 (p::r) k=g9 r k:=by simp[g9,List.find?_cons,e]
theorem pw(k:κ):∀kvs:List (κ×V),(kvs.any λa=>decide (a.1=k))=(g9 kvs k).isSome
 |[]=>rfl
 |p::r=>by
  rw[List.any_cons]
  by_cases e:p.1=k
  .simp only[iA e,decide_eq_true e,Bool.true_or,Option.isSome_some]
  .rw[iB e,decide_eq_false e,Bool.false_or];exact pw k r
theorem eU(kvs:List (κ×V))(k:κ)(v:V):(putK kvs k v).length<=kvs.length+1:=by
 unfold putK;split
 .rw[List.length_map];omega
 .rw[List.length_append,List.length_cons,List.length_nil];omega
theorem fH.fo{o:Option V}{u:Option Value}(r:fH o u):o.isSome=u.isSome:=by
 cases o with
 |none=>cases u with
  |none=>rfl
  |some _=>exact(show False from r).elim
 |some _=>cases u with
  |none=>exact(show False from r).elim
  |some _=>rfl
theorem fH.getD{o:Option V}{u:Option Value}{d:V}{d':Value}(r:fH o u)(a:RelV d d'):RelV (o.getD d) (u.getD d'):=by
 cases o with
 |none=>cases u with
  |none=>exact a
  |some _=>exact(show False from r).elim
 |some _=>cases u with
  |none=>exact(show False from r).elim
  |some _=>exact r
theorem KV.val{kvs:List (κ×V)}{vs:List (κ×Value)}(r:KV kvs vs)(k:κ):fH (g9 kvs k) (valueAt vs k):=by
 unfold KV at r
 induction r with
 |nil=>exact True.intro
 |@cons p q i a h t f=>
  obtain⟨d,g⟩:=h
  by_cases e:p.1=k
  .have c:q.1=k:=d.symm.trans e
   have b:valueAt (q::a) k=some q.2:=by simp[valueAt,List.find?_cons,c]
   rw[iA e,b];exact g
  .have c:¬ q.1=k:=λz=>e (d.trans z)
   have b:valueAt (q::a) k=valueAt a k:=by simp[valueAt,List.find?_cons,c]
   rw[iB e,b];exact f
theorem KV.any{kvs:List (κ×V)}{vs:List (κ×Value)}(r:KV kvs vs)(k:κ):(kvs.any λa=>decide (a.1=k))=vs.any λa=>decide (a.1=k):=by
 unfold KV at r
 induction r with
 |nil=>rfl
 |cons h t b=>rw[List.any_cons,List.any_cons,b,h.1]
theorem KV.repl{kvs:List (κ×V)}{vs:List (κ×Value)}(r:KV kvs vs)(k:κ){y:V}{u:Value}(c:RelV y u) :
  KV (kvs.map λa=>if a.1=k then (a.1,y)else a) (vs.map λa=>if a.1=k then (a.1,u)else a):=by
 unfold KV at r ⊢
 induction r with
 |nil=>exact .nil
 |@cons p q g i h t d=>
  rw[List.map_cons,List.map_cons];refine .cons ?_ d;obtain⟨b,f⟩:=h
  by_cases e:p.1=k
  .rw[if_pos e,if_pos (b.symm.trans e)];exact⟨b,c⟩
  .rw[if_neg e,if_neg (λz=>e (b.trans z))];exact⟨b,f⟩
theorem KV.put{kvs:List (κ×V)}{vs:List (κ×Value)}(r:KV kvs vs)(k:κ){y:V}{u:Value}(a:RelV y u):KV (putK kvs k y) (stored vs k u):=by
 unfold putK stored;rw[r.any k]
 by_cases e:(vs.any λb=>decide (b.1=k))=true
 .rw[if_pos e,if_pos e];exact r.repl k a
 .rw[if_neg e,if_neg e];exact Paired.snoc r ⟨rfl,a⟩
theorem KV.drop{kvs:List (κ×V)}{vs:List (κ×Value)}(r:KV kvs vs)(k:κ):KV (jC kvs k) (without vs k):=by
 unfold KV at r ⊢;unfold jC without
 induction r with
 |nil=>exact .nil
 |@cons p q i j h t d=>
  obtain⟨c,f⟩:=h;rw[List.filter_cons,List.filter_cons]
  by_cases e:p.1=k
  .have a:¬ decide (p.1≠k)=true:=by simp[e]
   have b:¬ decide (q.1≠k)=true:=by simp[c.symm.trans e]
   rw[if_neg a,if_neg b];exact d
  .have g:¬ q.1=k:=λz=>e (c.trans z)
   have a:decide (p.1≠k)=true:=by simp[e]
   have b:decide (q.1≠k)=true:=by simp[g]
   rw[if_pos a,if_pos b];exact .cons ⟨c,f⟩ d
theorem KV.length{kvs:List (κ×V)}{vs:List (κ×Value)}(r:KV kvs vs):kvs.length=vs.length:=Paired.length r
theorem wC(kvs:List (κ×V))(k:κ):(jC kvs k).length<=kvs.length:=List.length_filter_le _ _
end
theorem kG{P:Program}{w:World}{k:Key}{u:Value}(r:RelV (kV k) u):(bt P w).is k u=true:=by
 cases k with
 |inl i=>obtain⟨t,e⟩:=(show ∃t,u=Value.int i t from r);subst e;exact oZ P w i t
 |inr x=>obtain⟨t,e⟩:=(show ∃t,u=Value.str x t from r);subst e;exact o_ P w x t
theorem mE{P:Program}{w:World}:∀{a:List Key}{us:List Value},Vals (a.map kV) us->ItemsAre (bt P w) a us
 |[],_,r=>by rw[List.map_nil]at r;cases r;exact .nil
 |k::a,_,r=>by
  rw[List.map_cons]at r;cases r with
  |cons h t=>exact .cons (kG h) (mE t)
abbrev KT(H:Hp):List (List Key×V)->List (List Key×Addr×Value)->Prop:=Paired λp q=>p.1=q.1/\H q.2.1=some (.tup (p.1.map kV))/\RelV p.2 q.2.2
theorem KT.val{H:Hp}{kvs:List (List Key×V)}{xs:List (List Key×Addr×Value)}(r:KT H kvs xs)(k:List Key):fH (g9 kvs k) ((atKey xs k).map (·.2)):=by
 induction r with
 |nil=>exact True.intro
 |@cons p q i a h t f=>
  obtain⟨d,_,g⟩:=h
  by_cases e:p.1=k
  .have c:q.1=k:=d.symm.trans e
   have b:atKey (q::a) k=some q.2:=by simp[atKey,List.find?_cons,c]
   rw[iA e,b];exact g
  .have c:¬ q.1=k:=λz=>e (d.trans z)
   have b:atKey (q::a) k=atKey a k:=by simp[atKey,List.find?_cons,c]
   rw[iB e,b];exact f
theorem KT.repl{H:Hp}{kvs:List (List Key×V)}{xs:List (List Key×Addr×Value)}(r:KT H kvs xs)(k:List Key){y:V}{u:Value}(d:RelV y u) :
  KT H (kvs.map λb=>if b.1=k then (b.1,y)else b) (xs.map (putAt k u)):=by
 induction r with
 |nil=>exact .nil
 |@cons p q i j h t f=>
  rw[List.map_cons,List.map_cons];refine .cons ?_ f;obtain⟨a,c,g⟩:=h;unfold putAt
  by_cases e:p.1=k
  .rw[if_pos e,if_pos (a.symm.trans e)];exact⟨a,c,d⟩
  .rw[if_neg e,if_neg (λz=>e (a.trans z))];exact⟨a,c,g⟩
theorem KT.put{H:Hp}{kvs:List (List Key×V)}{xs:List (List Key×Addr×Value)}(r:KT H kvs xs)(k:List Key){b:Addr}{y:V}{u:Value}(c:H b=some (.tup (k.map kV)))(a:RelV y u) :
  KT H (putK kvs k y) (storedH xs k b u):=by
 have e:(kvs.any λd=>decide (d.1=k))=(atKey xs k).isSome:=by
  rw[pw,(r.val k).fo,Option.isSome_map]
 unfold putK storedH;rw[e]
 by_cases q:(atKey xs k).isSome=true
 .rw[if_pos q,if_pos q];exact r.repl k a
 .rw[if_neg q,if_neg q];exact Paired.snoc r ⟨rfl,c,a⟩
theorem KT.keeps{H a:Hp}{kvs:List (List Key×V)}{xs:List (List Key×Addr×Value)}(r:KT H kvs xs)(d:∀b c,H b=some (.tup c)->a b=some (.tup c)):KT a kvs xs:=
 Paired.Dc r λ_ _ z=>⟨z.1,d _ _ z.2.1,z.2.2⟩
section
variable{P:Program}{w:World}{H:Hp}{h:Heap}{a:Addr}
theorem wD{u:HO}(ok:gN P w H h)(e:Rd H a u):bN P w H h a u:=e.ok ok
theorem gs{kvs:List (Key×V)}(ok:gN P w H h)(e:Rd H a (.dK kvs)):kvs.length<=sizeLine/\(a==sysModules)=false/\∃vs,KV kvs vs/\h.DictOf (bt P w) a vs:=
 show bN P w H h a (.dK kvs)from wD ok e
theorem Ct{kvs:List (Key×V)}(ok:gN P w H h)(e:H a=some (.dK kvs)):kvs.length<=sizeLine/\(a==sysModules)=false/\∃vs,KV kvs vs/\h.DictOf (bt P w) a vs:=gs ok (.inl e)
theorem ji{b:List Key}(ok:gN P w H h)(e:H a=some (.tup (b.map kV))):(tupleKind (bt P w)).is h b a:=by
 obtain⟨_,c,r,o,d,f,n,g⟩:=(show bN P w H h a (.tup (b.map kV))from ok a _ e)
 exact⟨o,c.toArray,n,d,f,g,by simpa using mE r⟩
theorem mF{kvs:List (List Key×V)}(ok:gN P w H h)(e:Rd H a (.dT kvs)):kvs.length<=sizeLine/\(a==sysModules)=false /\
  ∃xs,KT H kvs xs/\h.DictOfH (tupleKind (bt P w)) a xs:=by
 obtain⟨z,y,xs,r,o,d,f,g,i,j,k,n⟩:=(show bN P w H h a (.dT kvs)from wD ok e)
 refine⟨z,y,xs,r,o,d,f,g,i,j,k,λx hx=>?_,n⟩
 have b:∀{l:List (List Key×V)}{m:List (List Key×Addr×Value)},KT H l m->∀x∈m,(tupleKind (bt P w)).is h x.1 x.2.1:=by
  intro l m q
  induction q with
  |nil=>intro x hx;exact nomatch hx
  |@cons p q u A c t s=>
   intro x hx;rcases List.mem_cons.mp hx with e|hx
   .subst e
    exact ji ok (by rw[←c.1];exact c.2.1)
   .exact s x hx
 exact b r x hx
theorem wF{kvs:List (List Key×V)}(ok:gN P w H h)(e:H a=some (.dT kvs)):kvs.length<=sizeLine/\(a==sysModules)=false /\
  ∃xs,KT H kvs xs/\h.DictOfH (tupleKind (bt P w)) a xs:=mF ok (.inl e)
end
def iC(H:Hp)(a:Addr)(y:V)(r:Option V):Prop:=
 (∃c k,Rd H a (.dK c)/\y=kV k/\r=g9 c k)\/∃c k b,Rd H a (.dT c)/\y=.ref b/\H b=some (.tup (k.map kV))/\r=g9 c k
def pz(H:Hp)(a:Addr)(y v:V)(d:Hp):Prop:=
 (∃c k,H a=some (.dK c)/\y=kV k/\c.length<sizeLine/\d=upd H a (.dK (putK c k v))) \/
 ∃c k b,H a=some (.dT c)/\y=.ref b/\H b=some (.tup (k.map kV))/\c.length<sizeLine/\d=upd H a (.dT (putK c k v))
theorem iC.k{H:Hp}{a:Addr}{kvs:List (Key×V)}{k:Key}(e:H a=some (.dK kvs)):iC H a (kV k) (g9 kvs k):=.inl ⟨kvs,k,.inl e,rfl,rfl⟩
theorem iC.t{H:Hp}{a b:Addr}{kvs:List (List Key×V)}{k:List Key}(e:H a=some (.dT kvs))(c:H b=some (.tup (k.map kV))):iC H a (.ref b) (g9 kvs k):=.inr ⟨kvs,k,b,.inl e,rfl,c,rfl⟩
theorem pz.k{H:Hp}{a:Addr}{kvs:List (Key×V)}{k:Key}{v:V}(e:H a=some (.dK kvs))(b:kvs.length<sizeLine):pz H a (kV k) v (upd H a (.dK (putK kvs k v))):=.inl ⟨kvs,k,e,rfl,b,rfl⟩
theorem pz.t{H:Hp}{a b:Addr}{kvs:List (List Key×V)}{k:List Key}{v:V}(e:H a=some (.dT kvs))(c:H b=some (.tup (k.map kV)))(d:kvs.length<sizeLine) :
  pz H a (.ref b) v (upd H a (.dT (putK kvs k v))):=.inr ⟨kvs,k,b,e,rfl,c,d,rfl⟩
section
variable{X:Cx}{pins:List (Addr×Obj)}{σ:St}{H:Hp}{s:Shared}{a:Addr}{y v:V}{u r:Value}{o:Option V}{A:Around}{E:Value->Shared->Prop}
theorem Inv.big(I:Inv X pins σ H s):sysModules<s.heap.objs.size:=by
 have h:mainGlobals<s.heap.objs.size:=(I.mod.glob.keeps I.bk).lt;exact Nat.lt_trans (by decide) h
theorem uS{Q:Value->Shared->Prop}(x:A.units+1<cLine)(I:Inv X pins σ H s)(g:iC H a y (some v))(r:RelV y u)(h:∀f t,Inv X pins σ H t->RelV v f->Q f t) :
  wpAny (model X.prog X.w) A (getItem (.ref a) u) Q E s:=by
 rcases g with ⟨i,k,e,j,l⟩|⟨i,k,b,e,j,B,l⟩
 .subst j
  obtain⟨z,C,D,c,m⟩:=gs I.hok e;obtain⟨f,n,d⟩:=fH.some_of (v:=v) (o:=valueAt D k) (by rw[l];exact c.val k)
  exact wpAny_getItem_of (kG r) m.mapOf n (h f _ (I.tok _) d)
 .subst j
  cases (show u=Value.ref b from r)
  obtain⟨z,C,F,c,m⟩:=mF I.hok e;obtain⟨f,n,d⟩:=fH.some_of (v:=v) (o:=(atKey F k).map (·.2)) (by rw[l];exact c.val k)
  obtain⟨p,G,q⟩:=Option.map_eq_some_iff.mp n;refine wpAny_getItem_heap (tupleKind_room_in1 x) (ji I.hok B) m G ?_;rw[q];exact h f _ (I.tok _) d
theorem Mc{Q:Value->Shared->Prop}(p:A.units+1<cLine)(I:Inv X pins σ H s)(g:iC H a y o)(m:RelV y u)(h:∀n,Inv X pins σ H n->Q (.bool o.isSome) n) :
  wpAny (model X.prog X.w) A (compareOp .In u (.ref a)) Q E s:=by
 rcases g with ⟨d,k,e,f,l⟩|⟨d,k,b,e,f,r,l⟩
 .subst f
  obtain⟨z,i,t,c,j⟩:=gs I.hok e;refine wpAny_in_of (kG m) i j.mapOf ?_;rw[←(c.val k).fo,←l];exact h _ (I.tok _)
 .subst f
  cases (show u=Value.ref b from m)
  obtain⟨z,i,x,c,j⟩:=mF I.hok e;refine wpAny_in_heap (tupleKind_room_in1 p) (ji I.hok r) i j ?_;have q:=(c.val k).fo;rw[Option.isSome_map]at q;rw[←q,←l];exact h _ (I.tok _)
theorem zK{Q:Value->Shared->Prop}(p:A.units+1<cLine)(I:Inv X pins σ H s)(g:iC H a y o)(m:RelV y u)(h:∀n,Inv X pins σ H n->Q (.bool (!o.isSome)) n) :
  wpAny (model X.prog X.w) A (compareOp .NotIn u (.ref a)) Q E s:=by
 rcases g with ⟨d,k,e,f,l⟩|⟨d,k,b,e,f,r,l⟩
 .subst f
  obtain⟨z,i,t,c,j⟩:=gs I.hok e;refine wpAny_notIn_of (kG m) i j.mapOf ?_;rw[←(c.val k).fo,←l];exact h _ (I.tok _)
 .subst f
  cases (show u=Value.ref b from m)
  obtain⟨z,i,x,c,j⟩:=mF I.hok e;refine wpAny_notIn_heap (tupleKind_room_in1 p) (ji I.hok r) i j ?_;have q:=(c.val k).fo;rw[Option.isSome_map]at q;rw[←q,←l];exact h _ (I.tok _)
theorem iD{h':Heap}{t':Nat}{ob:HO}(I:Inv X pins σ H s)(d:FT (H a))(f:Heap.SameBut a s.heap h')(g:∃q,h'.get? a=some q)(c:bN X.prog X.w (upd H a ob) h' a ob) :
  Inv X pins σ (upd H a ob) {s with heap:=h',toks:=t' }:=
 I.write (x:=a) (e:=a) d (.inl rfl) (λb q h z=>(f.2 b h).trans z) g c
theorem nM{P:Program}{w:World}{c:Hp}{h':Heap}{kvs:List (Key×V)}{vs:List (Key×Value)}(z:kvs.length<=sizeLine)(d:(a==sysModules)=false)(b:KV kvs vs)(e:h'.DictOf (bt P w) a vs) :
  bN P w c h' a (.dK kvs):=⟨z,d,vs,b,e⟩
theorem uT{C:Hp}{Q:Unit->Shared->Prop}(M:A.units+1<cLine)(I:Inv X pins σ H s)(g:pz H a y v C)(D:RelV y u)(F:RelV v r)(h:∀G,Inv X pins σ C G->Q () G) :
  wpAny (model X.prog X.w) A (setItem (.ref a) u r) Q E s:=by
 rcases g with ⟨d,k,e,m,l,n⟩|⟨d,k,b,e,m,J,l,n⟩
 .subst m n
  obtain⟨z,o,N,f,p⟩:=Ct I.hok e;have t:N.length<=sizeLine:=by rw[←f.length];exact z
  have x:(putK d k v).length<=sizeLine:=by have:=eU d k v;omega
  refine wpAny_setItem_pairs (hsz:=t) (kG D) p λK i B=>h _ ?_
  have O:∃q,K.get? a=some q:=let ⟨q,_,_,j,_⟩:=i;⟨q,j⟩
  exact iD I (by rw[e];exact True.intro) B O (nM x o (f.put k F) i)
 .subst m n
  cases (show u=Value.ref b from D)
  obtain⟨z,o,P,f,p⟩:=wF I.hok e;have t:P.length<=sizeLine:=by rw[←Paired.length f];exact z
  have x:(putK d k v).length<=sizeLine:=by have:=eU d k v;omega
  refine wpAny_setItem_heap (hsz:=t) (tupleKind_room_in1 M) (ji I.hok J) p λK i B=>h _ ?_
  obtain⟨q,R,S,j,T,U,V,_,Y⟩:=i;refine iD I (by rw[e];exact True.intro) B ⟨q,j⟩ ⟨x,o,_,(f.put k J F).keeps λc Z L=>?_,q,R,S,j,T,U,V,Y⟩
  rw[aF (Cj L e (λz=>nomatch z))]
  exact L
end
section
variable{X:Cx}{pins:List (Addr×Obj)}{σ:St}{H:Hp}{s:Shared}{a:Addr}{kvs:List (Key×V)}{k:Key}{u:Value}{A:Around}{E:Value->Shared->Prop}
theorem Gz{v:V}{more:List Value}{Q:Value->Shared->Prop}(I:Inv X pins σ H s)(e:H a=some (.dK kvs))(f:RelV (kV k) u)(l:g9 kvs k=some v)(j:more=[]\/∃x,more=[x])
  (h:∀c m,Inv X pins σ (upd H a (.dK (jC kvs k))) m->RelV v c->Q c m):wpAny (model X.prog X.w) A (call (.builtin "dict.pop") (.ref a::u::more)) Q E s:=by
 obtain⟨z,r,n,b,p⟩:=Ct I.hok e;obtain⟨c,y,g⟩:=fH.some_of (v:=v) (o:=valueAt n k) (by rw[←l];exact b.val k)
 have B:(keyPart u).isSome=true:=by
  cases k with
  |inl i=>obtain⟨t,q⟩:=(show ∃t,u=Value.int i t from f);subst q;rfl
  |inr x=>obtain⟨t,q⟩:=(show ∃t,u=Value.str x t from f);subst q;rfl
 have C:argsOk "dict.pop" ⟨.ref a::u::more,[]⟩:=by
  rcases j with q|⟨x,q⟩
  .subst q;exact PySem.F.args_dict_pop_2 _ _
  .subst q;exact PySem.F.args_dict_pop_3 _ _ _
 refine call_meetsIn PySem.F.slot_dict_pop p.typeIs PySem.F.entry_dict_pop C (meets_dict_pop_there (bt X.prog X.w) a (kG f) more j B)
  ⟨n,c,p,by rw[←b.length];exact z,y,λD d G=>h c _ ?_ g⟩
 have J:∃q,D.get? a=some q:=let ⟨q,_,_,hq,_⟩:=d;⟨q,hq⟩
 exact iD I (by rw[e];exact True.intro) G J (nM (Nat.le_trans (wC kvs k) z) r (b.drop k) d)
theorem GA{Q:Value->Shared->Prop}(I:Inv X pins σ H s)(e:Rd H a (.dK kvs))(h:∀t c,Inv X pins σ H c->Q (.int kvs.length t) c):wpAny (model X.prog X.w) A (call (.builtin "len") [.ref a]) Q E s:=by
 obtain⟨z,d,g,b,f⟩:=gs I.hok e;refine call_len_dict d f (by rw[←b.length];rw[sizeLine_eq]at z;omega) ?_
 rw[←b.length];exact h _ _ (I.tok _)
end
def GB(i:Expr):Prop:=∀a b,subscripted i false a b=operate [a,b] (getItem a b)
theorem zL{prog:Program}{w:World}{A:Around}{E:Value->Shared->Prop}{s:Shared}{env:Env}{b a:Expr}{pos:Pos}{T m:String}{Q:Value->Shared->Prop}
  (n:typeLookup (.type T) "__getitem__"=pure (some (.builtin m))) (p:GB a)
  (h:wpAny (model prog w) A (eval b env) (λo e=>wpAny (model prog w) A (eval a env) (λi c=>c.TypeIs o T/\wpAny (model prog w) A (getItem o i) Q E c) E e) E s) :
  wpAny (model prog w) A (eval (.Subscript b a pos) env) Q E s:=by
 refine Subscript_ (wpAny_mono h (λo e j=>wpAny_mono j (λi c d=>?_) λ_ _ x=>x) λ_ _ x=>x)
 obtain⟨l,d⟩:=d;unfold subscriptTail;refine wpAny_bind ?_;rw[getitemInPython_of_ne l.not_modules];refine wpAny_bind (wpAny_specialOf l n ?_)
 have g:wpAny (model prog w) A (subscripted a false o i) (λr f=>wpAny (model prog w) A (letTemporaryGo b o r >>= λ_=>pure r) Q E f) E c:=by
  rw[p o i];exact wpAny_operating (wpAny_mono d (λr f k=>wpAny_bind (wpAny_letTemporaryGo (wpAny_pure k))) λ_ _ x=>x)
 first
  |exact wpAny_pure (wpAny_bind g)
  |exact wpAny_bind (wpAny_pure (wpAny_bind g))
  |exact wpAny_bind g
theorem pA{X:Cx}{pins:List (Addr×Obj)}{f:St}{H:Hp}{s:Shared}{a:Addr}{y:V}{o:Option V}(I:Inv X pins f H s)(g:iC H a y o):s.TypeIs (.ref a) "dict":=by
 rcases g with ⟨c,k,e,_,_⟩|⟨c,k,b,e,_,_,_⟩
 .obtain⟨_,_,h,_,d⟩:=gs I.hok e
  exact d.typeIs
 .obtain⟨_,_,i,_,d⟩:=mF I.hok e
  exact d.typeIs
noncomputable def GC(td d:TE):TE:=λb H Q=>td b H λx e=>d b e λy c=>∃a v,x=.ref a/\iC c a y (some v)/\Q v c
section
variable{X:Cx}{o i e value:Expr}{pos pos' tpos:Pos}{td ty tv:TE}
theorem zM(d:X.A.units+1<cLine)(e:PE X o td)(f:PE X i ty)(j:GB i):PE X (.Subscript o i pos) (GC td ty):=by
 intro pins s c H Q I h;refine zL PySem.F.slot_dict_getitem.lookup j (cg (e pins s c H _ I h) λu k ⟨x,H1,I1,rx,q1⟩=>cg (f pins k c H1 _ I1 q1) λm n ⟨y,H2,I2,ry,a,v,ex,g,q2⟩=>?_)
 subst ex;obtain rfl:u=Value.ref a:=rx;exact⟨pA I2 g,uS d I2 g ry λp q l b=>⟨v,H2,l,b,q2⟩⟩
end
theorem wG{P:Program}{w:World}{H:Hp}(h:Heap)(a:sysModules<h.objs.size):bN P w H (h.push {cls:=.type "dict",data:=.dict #[]}) h.objs.size (.dK []):=
 ⟨Nat.zero_le _,beq_eq_false_iff_ne.mpr (Ne.symm (Nat.ne_of_lt a)),[],.nil,Heap.DictOf.new h⟩
theorem pB{P:Program}{w:World}{H:Hp}(h:Heap)(a:sysModules<h.objs.size):bN P w H (h.push {cls:=.type "dict",data:=.dict #[]}) h.objs.size (.dT []):=
 ⟨Nat.zero_le _,beq_eq_false_iff_ne.mpr (Ne.symm (Nat.ne_of_lt a)),[],.nil,_,#[],0,Heap.get?_push_size _ rfl,⟨rfl,rfl,rfl⟩,rfl,rfl,List.nodup_nil⟩
def DL:TE:=λ_ H Q=>∀p,H p=none->Q (.ref p) (upd H p (.dK []))
def DM:TE:=λ_ H Q=>∀p,H p=none->Q (.ref p) (upd H p (.dT []))
section
variable{X:Cx}{pos:Pos}
theorem wH:PE X (.Dict [] [] pos) DL:=λpins s b H Q I h=>
 wpAny_Dict_empty ⟨.ref s.heap.objs.size,_,I.laid (a:=s.heap.objs.size) (o:=.dK []) (t':=s.toks) (λ_ _ q=>Heap.get?_push_of_some _ q) (Nat.le_refl _) (wG s.heap I.big),rfl,h _ (I.hok.fresh (Nat.le_refl _))⟩
theorem wI:PE X (.Dict [] [] pos) DM:=λpins s b H Q I h=>
 wpAny_Dict_empty ⟨.ref s.heap.objs.size,_,I.laid (a:=s.heap.objs.size) (o:=.dT []) (t':=s.toks) (λ_ _ q=>Heap.get?_push_of_some _ q) (Nat.le_refl _) (pB s.heap I.big),rfl,h _ (I.hok.fresh (Nat.le_refl _))⟩
end
def wJ:List (TE×TE)->St->Hp->(List (V×V)->Hp->Prop)->Prop
 |[],_,H,Q=>Q [] H
 | (tk,tv)::r,σ,H,Q=>tk σ H λx a=>tv σ a λy b=>wJ r σ b λps c=>Q ((x,y)::ps) c
abbrev VV:List (V×V)->List (Value×Value)->Prop:=Paired λp q=>RelV p.1 q.1/\RelV p.2 q.2
def Ka(X:Cx)(pos:Pos)(keys:List (Option Expr))(a:List Expr)(b:List (TE×TE)):Prop:=
 ∀(pins:List (Addr×Obj)) (s:Shared) (c:St) (H:Hp) (Q:List (V×V)->Hp->Prop),Inv X pins c H s->wJ b c H Q ->
  wpAny (model X.prog X.w) X.A (evalPairs (pairTrees keys a X.env pos)) (λf g=>∃d e,Inv X pins c e g/\VV d f/\Q d e) X.xe s
theorem zN{X:Cx}{pos:Pos}:Ka X pos [] [] []:=λpins s a H Q I h=>pairTrees_nil_walk ⟨[],H,I,.nil,h⟩
theorem wK{X:Cx}{pos:Pos}{k v:Expr}{c:List (Option Expr)}{vs:List Expr}{d e:TE}{a:List (TE×TE)}(f:PE X k d)(g:PE X v e)(i:Ka X pos c vs a) :
  Ka X pos (some k::c) (v::vs) ((d,e)::a):=λpins s b H Q I h=>
 pairTrees_cons_walk (cg (f pins s b H _ I h) λu j ⟨x,H1,I1,rx,q1⟩=>cg (g pins j b H1 _ I1 q1) λn l ⟨y,H2,I2,ry,q2⟩=>
  cg (i pins l b H2 _ I2 q2) λo p ⟨m,H3,I3,rel,q3⟩=>⟨(x,y)::m,H3,I3,.cons ⟨rx,ry⟩ rel,q3⟩)
structure M1(X:Cx)(o:Expr)(m:Str)(apos:Pos)(e:Expr)(cpos:Pos):Prop where
 base:attributeBase o m X.env (eval o X.env)=eval o X.env
 few:((backTo cpos (starEach [e] X.env)).all (λx=>!x.1)&&(backToKw cpos (keywordEach [] X.env)).all (λx=>x.1.isSome)
  && decide (([e]:List Expr).length+([]:List Keyword).length+(if ([]:List Keyword).isEmpty then 0 else 1)<30))=true
 line:(apos.endLine==cpos.line)=true
 trees:backTo cpos (starEach [e] X.env)=[(false,eval e X.env)]
structure M2(X:Cx)(o:Expr)(m:Str)(apos:Pos)(e f:Expr)(cpos:Pos):Prop where
 base:attributeBase o m X.env (eval o X.env)=eval o X.env
 few:((backTo cpos (starEach [e,f] X.env)).all (λx=>!x.1)&&(backToKw cpos (keywordEach [] X.env)).all (λx=>x.1.isSome)
  && decide (([e,f]:List Expr).length+([]:List Keyword).length+(if ([]:List Keyword).isEmpty then 0 else 1)<30))=true
 line:(apos.endLine==cpos.line)=true
 trees:backTo cpos (starEach [e,f] X.env)=[(false,eval e X.env),(false,eval f X.env)]
def Uu(H:Hp)(a:Addr):Prop:=(∃b,Rd H a (.dK b))\/∃b,Rd H a (.dT b)
theorem wL{X:Cx}{pins:List (Addr×Obj)}{j:St}{H:Hp}{s:Shared}{a:Addr}(I:Inv X pins j H s)(d:Uu H a) :
  s.TypeIs (.ref a) "dict"/\(∀b,Value.ref a=.ref b->∃ob,s.heap.get? b=some ob/\ob.dict=none)/\(a==sysModules)=false:=by
 rcases d with ⟨f,e⟩|⟨f,e⟩
 .obtain⟨_,g,k,_,c⟩:=gs I.hok e
  refine⟨c.typeIs,λb q=>?_,g⟩
  cases q;obtain⟨ob,_,_,h,i,_⟩:=c;exact⟨ob,h,i.2.1⟩
 .obtain⟨_,g,l,_,c⟩:=mF I.hok e
  refine⟨c.typeIs,λb q=>?_,g⟩
  cases q;obtain⟨ob,_,_,h,i,_⟩:=c;exact⟨ob,h,i.2.1⟩
section
variable{X:Cx}{pins:List (Addr×Obj)}{σ:St}{H:Hp}{s:Shared}{a:Addr}{y d:V}{u r:Value}{o:Option V}{A:Around}{E:Value->Shared->Prop}
end
section
variable{X:Cx}{o e f:Expr}{apos cpos:Pos}{td ty tx:TE}
end
section
variable{X:Cx}{pins:List (Addr×Obj)}{σ:St}{H:Hp}{s:Shared}{a:Addr}{kvs:List (Key×V)}{A:Around}{E:Value->Shared->Prop}
end
section
variable{X:Cx}{pins:List (Addr×Obj)}{σ:St}{H:Hp}{s:Shared}{a:Addr}{y:V}{u:Value}{A:Around}{E:Value->Shared->Prop}
end
end L2
namespace RU
open PySem PySem.W PySem.Calls PyProof.Rows
theorem jP{P:Params}{h:Heap}:∀(ns:List Int) (vs:List Value),WellAll P h vs (ns.map WData.int)->IntsAre vs ns:=by
 intro ns
 induction ns with
 |nil=>
  intro vs w;rw[List.map_nil]at w;cases w;exact .nil
 |cons n ns c=>
  intro vs w;rw[List.map_cons]at w;cases w with
  |cons a b=>
   cases a;exact .cons _ _ (c _ b)
theorem uU{l:OpenLaw}{n:Nat}(m:l.most=some n){P:Params}{h:Heap}{args:List WData}{vals:List Value}
  (b:l.row.toRowW.claim.pre args=true) (i:WellAll P h vals args) :
  ∃a vs ns,vals=[Value.ref a]/\args=[WData.list (ns.map WData.int)]/\h.get? a=some {cls:=.type "list",data:=.seq vs.toArray}/\IntsAre vs ns/\ns.length<=n:=by
 have j:WShape.hasAll [] args [.list .int]=true:=(pre_splitW b).1;have k:l.pre.holds [] {args:=args}=true:=(pre_splitW b).2;obtain⟨d,r,rfl,o,p⟩:=hasAllW_cons j;obtain rfl:=hasAllW_nil p;obtain⟨y,rfl,s⟩:=hasW_list o;obtain⟨ns,rfl⟩:=items_int s
 have c:ns.length<=n:=by
  unfold OpenLaw.pre at k
  have f:(WTm.not (.lt (.lit (.int (n:Int))) (.len (.arg 0)))).holds [] {args:=[.list (ns.map .int)]}=true:=by
   have f:=(holds_andW k).1;rw[m]at f;exact f
  have g:=condW_of f (w_not (w_lt w_lit (w_len_list (w_arg rfl))));rw[List.length_map]at g;refine Nat.le_of_not_lt λq=>?_
  have t:(n:Int)<((ns.length:Nat):Int):=by omega
  first
   | (rw[decide_eq_true t]at g;exact absurd g (by decide))
   | (simp at g;omega)
 cases i with
 |cons u w=>
  cases w;cases u with
  |list x e=>exact⟨_,_,ns,rfl,rfl,x,jP ns _ e,c⟩
theorem uV(l:OpenLaw)(args:List WData):l.row.toRowW.claim.post args (.bool true) args=true:=
 postW_of (r:=l.row.toRowW) (X:=(true==true))
  (show WShape.has [] (.bool true) .bool=true by first|rfl|decide|simp[WShape.has,WShape.arms,WShape.armsAll])
  (show(WTm.eq .res (.lit (.bool true))).value [] {args:=args,res:=some (.bool true),after:=args}=some (.bool (true==true))from w_eq_bool (w_res rfl) w_lit) rfl
theorem pC{l:OpenLaw}{n:Nat}{q:Program}{c:List Str}{C:(Str->Option Value)->Heap->Prop}{D:World->Heap->Prop}{d:DefRec}
  (H:l.most=some n) (u:d.params.defaults=[])
  (call:∀(w:World) (e b:Shared) (p x:Str->Option Value) (i:Addr) (o:Obj) (y s g:Value) (a:Addr) (vs:List Value) (ns:List Int),
   Ground q c [] C w e p x b.heap->D w b.heap ->
   b.heap.get? i=some o->o.data=.func (docDef d.name d.params d.body d.scope y s g)->b.heap.CodeRec s d.name->p d.name=some (.ref i) ->
   b.heap.get? a=some {cls:=.type "list",data:=.seq vs.toArray}->IntsAre vs ns->ns.length<=n->b.gens = #[] ->
   codeAny (model l.prog w) callerA (.call (.ref i) ⟨[.ref a],[]⟩) (λr t=>r=.ok (.ret (.bool true))/\OldK b.heap t.heap/\t.os=b.os/\AllBare t.gens) b) :
  WalkO q c C D l.row.toRowW d [] (λf vs=>PySem.call f vs):=by
 intro w e b p x G Y i o y s g I kV J K z E A L args vals T j F M B N;obtain rfl:I=.none:=Dflts.none E u;obtain rfl:kV=.none:=Dflts.noKw E;obtain⟨a,vs,ns,rfl,rfl,k,h,m⟩:=uU H j B;refine enter_call (codeAny_mono (call w e b p x i o y s g a vs ns G Y J (fd_plain K) z A k h m L) λr t O=>?_)
 obtain⟨rfl,P,Q,R⟩:=O;exact⟨.inl ⟨.bool true,.bool true,[],rfl,λ_=>rfl,.bool true,uV l _,λ_=>⟨List.Pairwise.nil,λ_ S=>(nomatch S)⟩⟩,P,Q,R⟩
section
variable{prog:Program}{w:World}{A:Around}{E:Value->Shared->Prop}{s:Shared}{K:Frag}
end
end RU
namespace L2
open PySem PySem.Spec PyProof.Rows
theorem mG:∀{vs:List Value}{ns:List Int},IntsAre vs ns->Vals (ns.map V.int) vs
 |_,_,.nil=>.nil
 |_,_,.cons n t h=>.cons ⟨t,rfl⟩ (mG h)
def Only(H:Hp):Prop:=∀b,H b=none\/∃o a,H b=some (.dg o (.lst a))
theorem wM{P:Program}{w:World}{K:PySem.W.Frag}{t M:Str->Option Value}{CX:rg}{k:Nat}{N a:Addr}{X:FuncData}{x:Str}{sp:Sp}{c:Shared}{vs:List Value}{ns:List Int}
  (Y:K.In c.heap) (y:c.heap.Ns mainGlobals t) (g:c.heap.Ns builtinsNs M) (O:∀x:Str,x≠"__name__"->M x=bootBuiltins x) (A:c.heap.NoLimit) (hg:c.gens = #[])
  (L:c.heap.get? a=some {cls:=.type "list",data:=.seq vs.toArray}) (Z:IntsAre vs ns) (hl:ns.length<=sizeLine) (hr:cO k callerA)
  (F:∀base:Heap,K.In base->base.Ns mainGlobals t->cH P w K t base CX k N X [x] sp) (p:∀(s:Shared) (u:Value),BindsTo s X ⟨[u],[]⟩ [(x,u)])
  (Q:∀H:Hp,Only H->j8 K H a (ns.map V.int)->sp [.ref a] H (λv _=>v=.bl true) λ_ _ _=>False)
  (R:∀H e i,CX [] H c (λ_ _ _=>False) e i->False) :
  codeAny (model P w) callerA (.call (.ref N) ⟨[.ref a],[]⟩) (λr i=>r=.ok (.ret (.bool true))/\OldK c.heap i.heap/\i.os=c.os/\AllBare i.gens) c:=by
 have rv:=mG Z;have B:=Z.length
 have l:∀H:Hp,Only H->j8 K H a (ns.map V.int)->gN P w H c.heap->(∀b,H b≠none->b=a)->(H a≠none->K.lookup a=none) ->
   codeAny (model P w) callerA (.call (.ref N) ⟨[.ref a],[]⟩) (λr i=>r=.ok (.ret (.bool true))/\OldK c.heap i.heap/\i.os=c.os/\AllBare i.gens) c:=by
  intro H hO hS C hA hK;have f:∀{b:Addr}{o:Obj},c.heap.get? b=some o->H b=none->(nk c.heap H).get? b=some o:=λe n=>vU e n
  have S:∀{b:Addr}{o:Obj}{D:Array DictEntry}{E:Nat},c.heap.get? b=some o->o.data=.dict D E->H b=none:=λ{b o D E} e d=>by
   cases q:H b with
   |none=>rfl
   |some u=>
    have T:b=a:=hA b (by rw[q];simp)
    subst T;rw[L]at e;cases e
    have d':Data.seq vs.toArray _=Data.dict D E:=d;cases d'
  have j:∀{b:Addr}{m:Str->Option Value},c.heap.Ns b m->(nk c.heap H).Ns b m:=λ{b m} ⟨o,D,E,e,d,r⟩=>⟨o,D,E,f e (S e d),d,r⟩
  have G:K.In (nk c.heap H):=λb o e=>f (Y b o e) (by
   cases q:H b with
   |none=>rfl
   |some u=>
    have T:b=a:=hA b (by rw[q];simp)
    subst T;rw[hK (by rw[q];simp)]at e;cases e)
  have hM:Mod K t (nk c.heap H):=⟨G,j y,⟨M,j g,O⟩,let ⟨mc,h1,h2⟩:=A;⟨mc,j h1,h2⟩⟩
  have e0:rh P w K t (nk c.heap H) callerA [] c H:=⟨rfl,hM,λb o e=>zk e,Nat.le_of_eq (uE _ _),trivial,λb g=>absurd (show b∈([]:List Addr)from g) (by simp),C,.of_eq hg⟩
  refine codeAny_mono ((F _ G (j y)).run callerA [] c H ⟨[.ref a],[]⟩ [.ref a] [.ref a] _ _ hr e0 (p c (.ref a)) (.cons rfl .nil) (Q H hO hS)) λr i h=>?_
  cases r with
  |error e=>exact(R H e i h).elim
  |ok fl=>
   cases fl with
   |next=>exact False.elim h
   |brk=>exact False.elim h
   |cont=>exact False.elim h
   |ret u=>
    obtain⟨v,H',os,bare,un,I,r',q⟩:=h;have q':v=.bl true:=q;subst q';obtain rfl:u=Value.bool true:=r';refine⟨rfl,OldK.of_keep λb o e=>?_,os,bare⟩
    cases q:H b with
    |none=>exact un.keep b o e q (by intro z;exact absurd (show b∈([]:List Addr)from z) (by simp)) (by simp)
    |some u=>
     rcases hO b with z|⟨ob,xs,z⟩
     .rw[q]at z;cases z
     .have z2:=un.g8 b ob _ z
      obtain⟨e1,_⟩:=C b _ z;obtain⟨e2,_⟩:=I b _ z2;rw[e]at e1;cases e1
      exact e2
 cases U:K.lookup a with
 |some o=>
  have e:=Y a o U;rw[L]at e;cases e;refine l (λ_=>none) (λ_=>.inl rfl) (.inr ⟨_,vs.toArray,_,U,rfl,rfl,rfl,by rw[List.size_toArray,B];exact hl,by simpa using rv⟩) (λb u z=>by have J:(none:Option HO)=some u:=z;cases J) (λb z=>absurd rfl z) λz=>absurd rfl z
 |none=>
  refine l (λb=>if b=a then some (.dg {cls:=.type "list",data:=.seq vs.toArray} (.lst (ns.map V.int)))else none) (λb=>?_) (.inl (.inr ⟨{cls:=.type "list",data:=.seq vs.toArray},if_pos rfl⟩)) (λb u z=>?_) (λb z=>?_) λ_=>U
  .by_cases g:b=a
   .exact .inr ⟨_,_,if_pos g⟩
   .exact .inl (if_neg g)
  .by_cases g:b=a
   .have J:=(if_pos g).symm.trans z
    cases J;subst g;exact⟨L,by rw[List.length_map];exact hl,vs,_,rv,L⟩
   .have J:=(if_neg g).symm.trans z
    cases J
  .by_cases g:b=a
   .exact g
   .exact absurd (if_neg g) z
theorem zO{l:PySem.W.OpenLaw}{n k:Nat}{q:Program}{i:List Str}{M:(Str->Option Value)->Heap->Prop}{I:World->Heap->Prop}{d:DefRec}{K:Params->PySem.W.Frag}{CX:World->rg}{sp:World->Sp}{x:Str}
  (N:l.most=some n) (y:n<=sizeLine) (z:d.params.defaults=[]) (O:cO k callerA)
  (P:∀(w:World) (h:Heap),I w h->(K w.params).In h)
  (F:∀(w:World) (m:Str->Option Value) (t:Addr) (h:Heap),(K w.params).In h->h.Ns mainGlobals m->m d.name=some (.ref t) ->
   ∃A:FuncData,(∀(s:Shared) (u:Value),BindsTo s A ⟨[u],[]⟩ [(x,u)]) /\
    ∀base:Heap,(K w.params).In base->base.Ns mainGlobals m->cH l.prog w (K w.params) m base (CX w) k t A [x] (sp w))
  (B:∀(w:World) (H:Hp) (a:Addr) (ns:List Int),ns.length<=n->Only H->j8 (K w.params) H a (ns.map V.int)->sp w [.ref a] H (λv _=>v=.bl true) λ_ _ _=>False)
  (C:∀(w:World) (H:Hp) (s:Shared) (e:Value) (D:Shared),CX w [] H s (λ_ _ _=>False) e D->False) :
  PySem.W.WalkO q i M I l.row.toRowW d [] (λf vs=>PySem.call f vs):=by
 refine RU.pC N z λw J p m mb t o pm cd Q a vs ns G Y ho hd R E r j c S=>?_
 have L:=P w _ Y;obtain⟨A,U,X⟩:=F w m t _ L G.T.g E;exact wM L G.T.g G.T.b G.T.builtins G.T.nolimit S r j (Nat.le_trans c y) O X U (λH Z hS=>B w H a ns c Z hS) λH e D=>C w H p e D
noncomputable def inClass(s:Stmt)(j:Nat):Stmt:=match s with
 |.ClassDef _ _ _ body _ _ _ _ _ _ _=>body.getD j (.Pass ⟨0,0,0,0⟩)
 |_=>.Pass ⟨0,0,0,0⟩
noncomputable def bR(s:Stmt):Arguments:=match s with
 |.FunctionDef _ a _ _ _ _ _ _ _ _=>a
 |_=>{posonlyargs:=[],args:=[],vararg:=none,kwonlyargs:=[],kw_defaults:=[],kwarg:=none,defaults:=[]}
noncomputable def bS(s:Stmt):List Stmt:=match s with
 |.FunctionDef _ _ b _ _ _ _ _ _ _=>b
 |_=>[]
noncomputable def aq(s:Stmt):Scope:=match s with
 |.FunctionDef _ _ _ _ _ _ a _ _ _=>a
 |_=>{kind:=.function,names:=[],isGenerator:=false,isCoroutine:=false}
abbrev mH:rg:=λ_ _ _ _ _ _=>False
abbrev E0:XK:=λ_ _ _=>False
theorem kH{X:Cx}:Passes mH X E0:=λ_ _ _ _ _ _ _ h=>h.elim
structure FE(K:PySem.W.Frag)(x qual:Str)(st:Stmt)(f:Addr)(fd:FuncData):Prop where
 ex:∃(oc:Value) (od:Option Addr) (kV doc pm:Value) (an:Option Addr) (cdv ct:Value) (osl:Array (Option Value)),
  fd=PySem.W.fnOf x qual (bR st) (bS st) (aq st) .none kV doc pm an cdv ct/\K.lookup f=some ⟨oc,od,.func fd,osl⟩/\PySem.W.codeIn K cdv qual=true
 kp:PySem.W.keepIn K (.ref f)=true
section
variable{P:Program}{w:World}{K:PySem.W.Frag}{mg:Str->Option Value}{base:Heap}
theorem FE.binds{x qual:Str}{st:Stmt}{f:Addr}{e:FuncData}{ps:List Str}(F:FE K x qual st f e)
  (h:∀(kV a c:Value) (d:Option Addr) (b ct:Value) (us:List Value),us.length=ps.length->bindArgs (PySem.W.fnOf x qual (bR st) (bS st) (aq st) .none kV a c d b ct) ⟨us,[]⟩=pure (ps.zip us)):Binds K e ps []:=by
 obtain⟨oc,j,kV,a,c,d,b,ct,g,rfl,k,i⟩:=F.ex;exact .all (h kV a c d b ct)
theorem rl{x qual:Str}{st:Stmt}{f:Addr}{oc:Value}{h e:Option Addr}{d:Array (Option Value)}{kV b g a ct:Value}(l:K.lookup f=some ⟨oc,h,.func (PySem.W.fnOf x qual (bR st) (bS st) (aq st) .none kV b g e a ct),d⟩)
  (c:PySem.W.codeIn K a qual=true) (k:PySem.W.keepIn K (.ref f)=true):FE K x qual st f (PySem.W.fnOf x qual (bR st) (bS st) (aq st) .none kV b g e a ct):=⟨⟨oc,h,kV,b,g,e,a,ct,d,rfl,l,c⟩,k⟩
end
section
variable{X:Cx}
theorem uW:dB X (.builtin "len") (λxs H Q=>∃a kvs,xs=[V.ref a]/\Rd H a (.dK kvs)/\Q (.int kvs.length) H):=by
 intro pins s e H xs f Q I r h;obtain⟨a,kvs,rfl,b,q⟩:=h;obtain⟨u,rfl,c⟩:=vals1 r;cases c;exact GA I b λt g d=>⟨.int kvs.length,H,d,⟨t,rfl⟩,q⟩
end
theorem pD{A B:Prop}(h:B):if false=true then A else B:=by
 rw[if_neg Bool.false_ne_true];exact h
theorem pE{A B:Prop}(h:A):if true=true then A else B:=by
 rw[if_pos rfl];exact h
def iE(H a:Hp):Prop:=∀b o,H b=some o->a b=some o
theorem iE.refl(H:Hp):iE H H:=λ_ _ h=>h
theorem iE.trans{H d e:Hp}(a:iE H d)(b:iE d e):iE H e:=λc o h=>b c o (a c o h)
section
variable{κ:Type}[DecidableEq κ]
end
end L2
namespace Mir
open PySem
inductive D where
 |non|bl (b:Bool)|int (i:Int)|str (x:Str)
 |lst (xs:List D)|tup (xs:List D)|dct (ks:List L2.Key) (vs:List D)|ref (n:Nat)
 deriving Inhabited
inductive Out (α:Type) where
 |ok (a:α)|exc (c:Str) (fs:List (Str×D))|bad
noncomputable def Out.bind{b d:Type}:Out b->(b->Out d)->Out d
 |.ok a,f=>f a
 |.exc c fs,_=>.exc c fs
 |.bad,_=>.bad
instance:Monad Out where
 pure:=.ok
 bind:=Out.bind
@[simp] theorem Kb{b c:Type}(a:b)(f:b->Out c):(Out.ok a >>= f)=f a:=rfl
@[simp] theorem GD{a b:Type}(f:a->Out b):((Out.bad:Out a) >>= f)=.bad:=rfl
@[simp] theorem GF{a b:Type}(c fs)(f:a->Out b):((Out.exc c fs:Out a) >>= f)=.exc c fs:=rfl
@[simp] theorem Kc{b:Type}(a:b):(pure a:Out b)=.ok a:=rfl
mutual
noncomputable def ed:D->D->Bool
 |.non,.non=>true
 |.bl a,.bl b=>a==b
 |.bl a,.int j=>(if a then 1 else 0)==j
 |.int i,.bl b=>i==(if b then 1 else 0)
 |.int i,.int j=>i==j
 |.str x,.str y=>x==y
 |.lst xs,.lst ys=>eQ xs ys
 |.tup xs,.tup ys=>eQ xs ys
 |_,_=>false
noncomputable def eQ:List D->List D->Bool
 |[],[]=>true
 |x::xs,y::ys=>ed x y&&eQ xs ys
 |_,_=>false
end
noncomputable def aI:Nat->D->Bool
 |_,.non|_,.bl _|_,.int _|_,.str _=>true
 |n+1,.lst xs|n+1,.tup xs=>xs.all (aI n)
 |_,_=>false
noncomputable def small(n:Nat):Bool:=decide (n<=sizeLine)
def jQ:D->Option Bool
 |.non=>some false
 |.bl b=>some b
 |.int i=>some (i != 0)
 |.str x=>if small x.length then some (x.length != 0)else none
 |.lst xs=>some (!xs.isEmpty)
 |.tup xs=>some (!xs.isEmpty)
 |_=>none
abbrev Rs:=Bool×D
noncomputable def jj(i:Int):Bool:=decide (i.natAbs<18446744073709551616)
theorem pF{i:Int}(h:jj i=true): -(2 ^ 64)<i/\i<2 ^ 64:=by
 have:=of_decide_eq_true h;omega
def eR(op:Operator)(x y:D):Out Rs:=
 match op,x,y with
 |.Add,.int i,.int j=>.ok (false,.int (i+j))
 |.Sub,.int i,.int j=>.ok (false,.int (i - j))
 |.Mult,.int i,.int j=>if jj i||jj j then .ok (false,.int (i*j))else .bad
 |.FloorDiv,.int i,.int j=>if decide (0<j)&&decide (j<1073741824)then .ok (false,.int (i / j))else .bad
 |.Mod,.int i,.int j=>if decide (0<j)then .ok (false,.int (i%j))else .bad
 |.Pow,.int i,.int j=>if decide (0<=j)&&decide (j<=1000)&&decide (i.natAbs<2 ^ 64)then .ok (false,.int (i ^ j.toNat))else .bad
 |.Add,.str i,.str j=>if small (i.length+j.length)then .ok (false,.str (i++j))else .bad
 |.Add,.lst i,.lst j=>if small (i.length+j.length)then .ok (true,.lst (i++j))else .bad
 |_,_,_=>.bad
noncomputable def sV(x y:Str):Bool := !(Builtin.Str.occurrences y x 0 y.length 1).isEmpty
def inD(x y:D):Out Bool:=
 match x,y with
 |x,.lst a=>if aI 8 x&&a.all (aI 8)then .ok (a.any λy=>ed y x)else .bad
 |x,.tup a=>if aI 8 x&&a.all (aI 8)then .ok (a.any λy=>ed y x)else .bad
 |.str x,.str y=>.ok (sV x y)
 |_,_=>.bad
noncomputable def isD(x y:D):Out Bool:=
 match x,y with
 |.non,.non=>.ok true
 |_,.non=>.ok false
 |.bl a,.bl b=>.ok (a==b)
 |.non,.bl _=>.ok false
 |.int _,.bl _=>.ok false
 |.str _,.bl _=>.ok false
 |.lst _,.bl _=>.ok false
 |.tup _,.bl _=>.ok false
 |_,_=>.bad
def dD(op:CmpOp)(x y:D):Out Bool:=
 match op,x,y with
 |.Eq,x,y=>if aI 8 x&&aI 8 y then .ok (ed x y)else .bad
 |.NotEq,x,y=>if aI 8 x&&aI 8 y then .ok (!ed x y)else .bad
 |.Lt,.int i,.int j=>.ok (decide (i<j))
 |.LtE,.int i,.int j=>.ok (decide (i<=j))
 |.Gt,.int i,.int j=>.ok (decide (j<i))
 |.GtE,.int i,.int j=>.ok (decide (j<=i))
 |.In,x,y=>inD x y
 |.NotIn,x,y=>do let b ←inD x y;.ok (!b)
 |.Is,x,y=>isD x y
 |.IsNot,x,y=>do let b ←isD x y;.ok (!b)
 |_,_,_=>.bad
noncomputable def ay(c:Nat):Str:=⟨#[c]⟩
def rn(x y:D):Out Rs:=
 match x,y with
 |.lst a,.int i=>match L2.jh a i with|some d=>.ok (false,d)|none=>.bad
 |.tup a,.int i=>match L2.jh a i with|some d=>.ok (false,d)|none=>.bad
 |.str z,.int i=>if small z.length then (match L2.jh z.cps.toList i with|some c=>.ok (false,.str (ay c))|none=>.bad)else .bad
 |_,_=>.bad
def dz{a:Type}(xs:List a)(b c:Option Int):List a:=(xs.drop (HT.gR xs.length 0 b)).take (HT.gR xs.length xs.length c - HT.gR xs.length 0 b)
def wN(x:D)(a b:Option Int):Out Rs:=
 match x with
 |.lst c=>.ok (true,.lst (dz c a b))
 |.str z=>if small z.length then .ok (false,.str ⟨(dz z.cps.toList a b).toArray⟩)else .bad
 |_=>.bad
noncomputable def intsFrom(a:Int):Nat->List D
 |0=>[]
 |n+1=>.int a::intsFrom (a+1) n
noncomputable def jk(i:Int):Bool:=decide (i.natAbs<4611686018427387904)
theorem kI{i:Int}(h:jk i=true): -(2 ^ 62)<=i/\i<2 ^ 62:=by
 have:=of_decide_eq_true h;omega
noncomputable def d_(i:Nat):List D->List D
 |[]=>[]
 |d::ds=>.tup [.int i,d]::d_ (i+1) ds
inductive kb where
 |len|all|any|sorted|list|tuple|int|min|max|bool
 deriving DecidableEq
def ft:List D->Option (List Bool)
 |[]=>some []
 |d::r=>match jQ d,ft r with|some b,some bs=>some (b::bs)|_,_=>none
noncomputable def Cu:List D->Option (List Int)
 |[]=>some []
 |.int i::r=>(Cu r).map (i :: ·)
 |_=>none
noncomputable def mI:List D->Option (List Str)
 |[]=>some []
 |.str i::r=>(mI r).map (i :: ·)
 |_=>none
noncomputable def GG(a b:Str):Bool := !decide (b.cps.toList<a.cps.toList)
def zP(ds:List D):Out (List D):=
 if 64<=ds.length then .bad else
 match Cu ds with
 |some c=>.ok ((c.mergeSort λa b=>decide (a<=b)).map .int)
 |none=>match mI ds with
  |some d=>.ok ((d.mergeSort GG).map .str)
  |none=>.bad
def ia(f:kb)(a:D):Out Rs:=
 match f,a with
 |.len,.tup [.lst b]=>.ok (false,.int b.length)
 |.len,.tup [.tup b]=>.ok (false,.int b.length)
 |.len,.tup [.str z]=>if small z.length then .ok (false,.int z.length)else .bad
 |.all,.tup [.lst b]=>match ft b with|some bs=>.ok (false,.bl (bs.all id))|none=>.bad
 |.any,.tup [.lst b]=>match ft b with|some bs=>.ok (false,.bl (bs.any id))|none=>.bad
 |.sorted,.tup [.lst b]=>do let c ←zP b;.ok (true,.lst c)
 |.list,.tup [.lst b]=>.ok (true,.lst b)
 |.list,.tup [.tup b]=>.ok (true,.lst b)
 |.tuple,.tup [.lst b]=>.ok (false,.tup b)
 |.tuple,.tup [.tup b]=>.ok (false,.tup b)
 |.int,.tup [.int i]=>.ok (false,.int i)
 |.int,.tup [.bl k]=>.ok (false,.int (if k then 1 else 0))
 |.min,.tup [.int i,.int j]=>.ok (false,.int (if j<i then j else i))
 |.max,.tup [.int i,.int j]=>.ok (false,.int (if j>i then j else i))
 |_,_=>.bad
inductive Uv where
 |index|join
 deriving DecidableEq
def rq(m:Uv)(x:D)(a:D):Out Rs:=
 match m,x,a with
 |.index,.lst b,.tup [d]=>if aI 8 d&&b.all (aI 8)then (match b.findIdx? λy=>ed y d with|some j=>.ok (false,.int j)|none=>.bad)else .bad
 |.index,.str z,.tup [.str y]=>match Builtin.Str.occurrences z y 0 z.length 1 with|i::_=>.ok (false,.int i)|[]=>.bad
 |.join,.str z,.tup [.lst c]=>match mI c with|some b=>if decide (z.length<=16)&&decide ((b.map (·.length)).sum+b.length<=1048576)then .ok (false,.str (Txt.join z b))else .bad|none=>.bad
 |_,_,_=>.bad
inductive Ty where
 |int|str|bool|list|tuple|dict
 deriving DecidableEq
noncomputable def wO:D->Ty->Option Bool
 |.non,_=>some false
 |.bl _,t=>some (t==.bool||t==.int)
 |.int _,t=>some (t==.int)
 |.str _,t=>some (t==.str)
 |.lst _,t=>some (t==.list)
 |.tup _,t=>some (t==.tuple)
 |.dct _ _,t=>some (t==.dict)
 |.ref _,_=>none
noncomputable def eV:D->Bool
 |.non|.bl _|.int _|.str _=>true
 |_=>false
noncomputable def fuel:Nat:=100000
def nN{a:Type}(xs:List a)(i:Int)(x:a):List a:=let k:=HT.gR xs.length 0 (some i);xs.take k++x::xs.drop k
end Mir
namespace Mir
open PySem PySem.Spec PyProof.Rows L2
mutual
noncomputable def Rep(Z:Addr->Prop)(H:Hp):D->V->Prop
 |.non,v=>v=.non
 |.bl b,v=>v=.bl b
 |.int i,v=>v=.int i
 |.str x,v=>v=.str x
 |.lst ds,v=>∃a vs,v=.ref a/\Z a/\Rd H a (.lst vs)/\aX Z H ds vs
 |.tup ds,v=>∃a vs,v=.ref a/\Z a/\Rd H a (.tup vs)/\aX Z H ds vs
 |.dct ks ds,v=>∃a vs,v=.ref a/\Z a/\H a=some (.dK (ks.zip vs))/\aX Z H ds vs
 |.ref _,_=>False
noncomputable def aX(Z:Addr->Prop)(H:Hp):List D->List V->Prop
 |[],a=>a=[]
 |d::ds,a=>∃v r,a=v::r/\Rep Z H d v/\aX Z H ds r
end
section
variable{Z Z':Addr->Prop}{H H':Hp}
theorem nO{a:Addr}{u:HO}(k:∀o,H a=some o->H' a=some o)(h:Rd H a u):Rd H' a u:=by
 rcases h with h|⟨o,h⟩
 .exact .inl (k _ h)
 .exact .inr ⟨o,k _ h⟩
mutual
theorem Rep.mono(k:∀a o,Z a->H a=some o->H' a=some o)(z:∀a,Z a->Z' a):∀{d:D}{v:V},Rep Z H d v->Rep Z' H' d v
 |.non,_,h=>by simpa only [Rep]using h
 |.bl _,_,h=>by simpa only [Rep]using h
 |.int _,_,h=>by simpa only [Rep]using h
 |.str _,_,h=>by simpa only [Rep]using h
 |.lst ds,v,h=>by
  simp only[Rep]at h ⊢;obtain⟨a,c,e,b,f,g⟩:=h;exact⟨a,c,e,z a b,nO (λo=>k a o b) f,aX.mono k z g⟩
 |.tup ds,v,h=>by
  simp only[Rep]at h ⊢;obtain⟨a,c,e,b,f,g⟩:=h;exact⟨a,c,e,z a b,nO (λo=>k a o b) f,aX.mono k z g⟩
 |.dct i ds,v,h=>by
  simp only[Rep]at h ⊢;obtain⟨a,c,e,b,f,g⟩:=h;exact⟨a,c,e,z a b,k a _ b f,aX.mono k z g⟩
 |.ref _,_,h=>by simp only[Rep]at h
theorem aX.mono(k:∀a o,Z a->H a=some o->H' a=some o)(z:∀a,Z a->Z' a):∀{ds:List D}{vs:List V},aX Z H ds vs->aX Z' H' ds vs
 |[],_,h=>by simpa only [aX]using h
 |d::ds,vs,h=>by
  simp only[aX]at h ⊢;obtain⟨v,r,e,h1,h2⟩:=h;exact⟨v,r,e,Rep.mono k z h1,aX.mono k z h2⟩
end
theorem aX.length:∀{ds:List D}{vs:List V},aX Z H ds vs->vs.length=ds.length
 |[],_,h=>by simp only[aX]at h;rw[h];rfl
 |d::ds,_,h=>by
  simp only[aX]at h;obtain⟨v,r,e,_,h2⟩:=h;rw[e,List.length_cons,List.length_cons,aX.length h2]
theorem aX.get:∀{ds:List D}{vs:List V}{i:Nat}{d:D},aX Z H ds vs->ds[i]?=some d->∃v,vs[i]?=some v/\Rep Z H d v
 |[],_,_,_,_,e=>by simp at e
 |d::ds,_,0,_,h,e=>by
  simp only[aX]at h;obtain⟨v,r,rfl,h1,_⟩:=h;simp at e;subst e
  exact⟨v,rfl,h1⟩
 |d::ds,_,i+1,a,h,e=>by
  simp only[aX]at h;obtain⟨v,r,rfl,_,b⟩:=h;obtain⟨u,c,f⟩:=aX.get (i:=i) (d:=a) b (by simpa using e)
  exact⟨u,by simpa using c,f⟩
theorem aX.append:∀{ds es:List D}{vs ws:List V},aX Z H ds vs->aX Z H es ws->aX Z H (ds++es) (vs++ws)
 |[],_,_,_,h,h'=>by simp only[aX]at h;rw[h];exact h'
 |d::ds,_,_,_,h,h'=>by
  simp only[aX]at h;obtain⟨v,r,rfl,h1,h2⟩:=h
  show aX Z H (d::(ds++_)) (v::(r++_))
  simp only[aX];exact⟨v,_,rfl,h1,aX.append h2 h'⟩
theorem aX.nil:aX Z H [] []:=by simp only[aX]
theorem aX.cons{d:D}{ds:List D}{v:V}{vs:List V}(h:Rep Z H d v)(h':aX Z H ds vs):aX Z H (d::ds) (v::vs):=by
 simp only[aX];exact⟨v,vs,rfl,h,h'⟩
theorem aX.nil_inv{vs:List V}(h:aX Z H [] vs):vs=[]:=by simpa only [aX]using h
theorem aX.cons_inv{d:D}{ds:List D}{vs:List V}(h:aX Z H (d::ds) vs):∃v r,vs=v::r/\Rep Z H d v/\aX Z H ds r:=by simpa only [aX]using h
def Now(Z:Addr->Prop)(H:Hp)(d:D)(v:V):Prop:=
 match d with
 |.lst c=>∃a b,v=.ref a/\Rd H a (.lst b)/\aX Z H c b
 |d=>Rep Z H d v
theorem Rep.now{d:D}{v:V}(h:Rep Z H d v):Now Z H d v:=by
 cases d with
 |lst c=>
  simp only[Rep]at h;obtain⟨a,b,e,_,h⟩:=h;exact⟨a,b,e,h⟩
 |_=>exact h
end
structure eG(Z:Addr->Prop)(H:Hp)(Z':Addr->Prop)(H':Hp):Prop where
 same:iE H H'
 sub:∀a,Z a->Z' a
 new:∀a,Z' a->Z a\/H a=none
 dom:∀a,Z' a->H' a≠none
theorem eG.refl{Z:Addr->Prop}{H:Hp}(d:∀a,Z a->H a≠none):eG Z H Z H:=⟨iE.refl _,λ_ h=>h,λ_ h=>.inl h,d⟩
theorem iE.laid{H:Hp}{p:Addr}{o:HO}(h:H p=none):iE H (upd H p o):=λb u e=>by rw[aF (bb e h)];exact e
theorem eG.laid{Z:Addr->Prop}{H:Hp}{p:Addr}{o:HO}(d:∀a,Z a->H a≠none)(h:H p=none):eG Z H Z (upd H p o):=
 ⟨iE.laid h,λ_ h=>h,λ_ h=>.inl h,λa b=>by
  have c:a≠p:=λe=>d a b (by rw[e];exact h)
  rw[aF c];exact d a b⟩
def Zp(Z:Addr->Prop)(p:Addr):Addr->Prop:=λa=>Z a\/a=p
section
variable{Z0 Z Z':Addr->Prop}{H0 H H':Hp}{ρ:zQ}{σ:L2.St}
end
def ee(bw b:Bool)(Z:Addr->Prop)(f H:Hp)(d:D)(v:V):Prop:=
 if b=true then ∃a c e,d=.lst e/\v=.ref a/\f a=none/\¬ Z a/\H a=some (.lst c)/\aX Z H e c
 else if bw=true then Now Z H d v else Rep Z H d v
theorem ee.own{bw:Bool}{Z:Addr->Prop}{b H:Hp}{a:Addr}{ds:List D}{vs:List V}(c:b a=none)(d:¬ Z a)(e:H a=some (.lst vs))(f:aX Z H ds vs):ee bw true Z b H (.lst ds) (.ref a):=by
 unfold ee;rw[if_pos rfl];exact⟨a,vs,ds,rfl,rfl,c,d,e,f⟩
theorem ee.rep{bw:Bool}{Z:Addr->Prop}{a H:Hp}{d:D}{v:V}(h:Rep Z H d v):ee bw false Z a H d v:=by
 unfold ee;rw[if_neg Bool.false_ne_true]
 split
 .exact h.now
 .exact h
theorem ee.now{b:Bool}{Z:Addr->Prop}{c H:Hp}{d:D}{v:V}(h:ee true b Z c H d v):Now Z H d v:=by
 unfold ee at h;split at h
 .obtain⟨a,e,i,rfl,rfl,_,_,f,g⟩:=h
  exact⟨a,e,rfl,.inl f,g⟩
 .rw[if_pos rfl]at h;exact h
theorem PE.imp{X:Cx}{e:Expr}{t t':TE}(h:PE X e t)(i:∀a H Q,t' a H Q->t a H Q):PE X e t':=λpins s a H Q I q=>h pins s a H Q I (i a H Q q)
theorem kJ{d e:Type}{x:Out d}{f:d->Out e}{b:e}(h:(x >>= f)=.ok b):∃a,x=.ok a/\f a=.ok b:=by
 cases x with
 |ok a=>exact⟨a,rfl,h⟩
 |exc c g=>cases h
 |bad=>cases h
section
variable{Γ:mf}{Z0 Z:Addr->Prop}{H0 H:Hp}{ρ:zQ}{σ:L2.St}{c:Ex}{Q:VK}{own:Bool}{d:D}
end
end Mir
namespace Mir
open PySem PySem.Spec PyProof.Rows L2
section
variable{Z Z':Addr->Prop}{H H2 H':Hp}{d:D}{v:V}{bw own:Bool}
theorem bC{n:Nat}(h:small n=true):n<=sizeLine:=of_decide_eq_true h
end
section
variable{X:Cx}{Γ:mf}{bw:Bool}{a b e:Expr}{ca cb c:Ex}{pos:Pos}
noncomputable def f_:D->Option V
 |.non=>some .non
 |.bl b=>some (.bl b)
 |.int i=>some (.int i)
 |.str x=>some (.str x)
 |_=>none
theorem fu{Z:Addr->Prop}{H:Hp}{d:D}{v:V}(h:f_ d=some v):Rep Z H d v:=by
 cases d<;>simp only[f_]at h<;>first|cases h;simp only[Rep]|cases h
end
section
variable{Z:Addr->Prop}{H:Hp}{x:V}
theorem fK(h:Now Z H .non x):x=.non:=by simpa only [Now,Rep]using h
theorem bB{i:Int}(h:Now Z H (.int i) x):x=.int i:=by simpa only [Now,Rep]using h
theorem ib{i:Bool}(h:Now Z H (.bl i) x):x=.bl i:=by simpa only [Now,Rep]using h
theorem c8{i:Str}(h:Now Z H (.str i) x):x=.str i:=by simpa only [Now,Rep]using h
theorem c9{ds:List D}(h:Now Z H (.lst ds) x):∃a vs,x=.ref a/\Rd H a (.lst vs)/\aX Z H ds vs:=h
theorem fL{ds:List D}(h:Now Z H (.tup ds) x):∃a vs,x=.ref a/\Z a/\Rd H a (.tup vs)/\aX Z H ds vs:=by simpa only [Now,Rep]using h
theorem kK{K:PySem.W.Frag}{a:Addr}{vs:List V}(h:Rd H a (.lst vs)):j8 K H a vs:=.inl h
theorem uX{K:PySem.W.Frag}{a:Addr}{vs:List V}(h:Rd H a (.tup vs)):qT K H a vs:=.inl h
theorem zR{bw:Bool}{Q:VK}{ds:List D}{vs:List V}(b:∀a,Z a->H a≠none)(f:aX Z H ds vs)
  (k:∀v d e,eG Z H e d->ee bw true e H d (.lst ds) v->Q v d):∀p,H p=none->Q (.ref p) (upd H p (.lst vs)):=λp c=>
 k _ _ Z (eG.laid b c) (.own c (λz=>b p z c) aR (f.mono (λa o _=>iE.laid c a o) λ_ z=>z))
end
section
variable{X:Cx}{Γ:mf}{bw:Bool}{a b e:Expr}{ca cb c:Ex}{pos:Pos}
def Cv:R2:=λx y H Q=>∃l b a c,x=.ref l/\y=.ref b/\Rd H l (.lst a)/\Rd H b (.lst c)/\a.length+c.length<=sizeLine/\∀p,H p=none->Q (.ref p) (upd H p (.lst (a++c)))
theorem zS:gf X (binaryOp .Add) Cv:=by
 intro pins s w H x y v u Q I i j h;obtain⟨l,b,d,f,rfl,rfl,k,m,A,q⟩:=h;cases i;cases j;obtain⟨z,a,n,r,e⟩:d.length<=sizeLine/\∃(a:List Value) (n:Nat),Vals d a/\s.heap.get? l=some {cls:=.type "list",data:=.seq a.toArray n}:=Rd.ok k I.hok;obtain⟨B,c,C,g,o⟩:f.length<=sizeLine/\∃(a:List Value) (n:Nat),Vals f a/\s.heap.get? b=some {cls:=.type "list",data:=.seq a.toArray n}:=Rd.ok m I.hok;have D:=r.length;have p:=g.length;refine PySem.P.add_list e o ?_ (by rw[List.size_toArray,List.size_toArray];omega)
 have t:a.toArray++c.toArray=(a++c).toArray:=by simp
 rw[t];exact⟨.ref _,_,I.Mb (t':=s.toks) (r.append g) (by rw[List.length_append];omega),rfl,q _ I.fresh⟩
def zT(op:Operator):R2:=λx y H Q=>match op with
 |.Add=>(∃i j,x=.int i/\y=.int j/\Q (.int (i+j)) H)\/(∃i j,x=.str i/\y=.str j/\i.length+j.length<=sizeLine/\Q (.str (i++j)) H)\/Cv x y H Q
 |.Sub=>∃i j,x=.int i/\y=.int j/\Q (.int (i - j)) H
 |.Mult=>∃i j,x=.int i/\y=.int j/\zx i j/\Q (.int (i*j)) H
 |.FloorDiv=>∃i j,x=.int i/\y=.int j/\Gf i j/\Q (.int (i / j)) H
 |.Mod=>∃i j,x=.int i/\y=.int j/\0<j/\Q (.int (i%j)) H
 |.Pow=>∃i j,x=.int i/\y=.int j/\Gg i j/\Q (.int (i ^ j.toNat)) H
 |_=>False
theorem wQ(op:Operator):gf X (binaryOp op) (zT op):=by
 cases op with
 |Add=>exact Du.or (qY.or zS)
 |Sub=>exact Dv
 |Mult=>exact Dw
 |FloorDiv=>exact zy
 |Mod=>exact Dx
 |Pow=>exact Dy
 |_=>exact λ_ _ _ _ _ _ _ _ _ _ _ _ h=>h.elim
theorem DN{op:Operator}{n o:D}{x y:V}{Z:Addr->Prop}{H:Hp}{h:Bool}{d:D}{Q:VK}(f:Now Z H n x)(g:Now Z H o y)(i:∀a,Z a->H a≠none)(b:eR op n o=.ok (h,d))
  (k:∀v j p,eG Z H p j->ee bw h p H j d v->Q v j):zT op x y H Q:=by
 have c:∀{r:D}{v:V},f_ r=some v->Out.ok (false,r)=Out.ok (h,d)->Q v H:=λu q=>by
  cases q;exact k _ H Z (eG.refl i) (.rep (fu u))
 unfold eR at b;split at b
 .cases bB f;cases bB g
  exact .inl ⟨_,_,rfl,rfl,c rfl b⟩
 .cases bB f;cases bB g
  exact⟨_,_,rfl,rfl,c rfl b⟩
 .cases bB f;cases bB g
  split at b
  .rename_i e
   refine⟨_,_,rfl,rfl,?_,c rfl b⟩;simp only[Bool.or_eq_true]at e;have e:=e.imp pF pF;exact e
  .cases b
 .cases bB f;cases bB g
  split at b
  .rename_i e
   refine⟨_,_,rfl,rfl,?_,c rfl b⟩;simp only[Bool.and_eq_true,decide_eq_true_eq]at e;exact e
  .cases b
 .cases bB f;cases bB g
  split at b
  .rename_i e
   exact⟨_,_,rfl,rfl,of_decide_eq_true e,c rfl b⟩
  .cases b
 .cases bB f;cases bB g
  split at b
  .rename_i e
   refine⟨_,_,rfl,rfl,?_,c rfl b⟩;simp only[Bool.and_eq_true,decide_eq_true_eq]at e;exact⟨e.1.1,Int.le_trans e.1.2 (by decide),e.2⟩
  .cases b
 .cases c8 f;cases c8 g
  split at b
  .rename_i e
   exact .inr (.inl ⟨_,_,rfl,rfl,bC e,c rfl b⟩)
  .cases b
 .obtain⟨l,w,rfl,z,s⟩:=c9 f
  obtain⟨m,A,rfl,B,t⟩:=c9 g;split at b
  .rename_i e
   cases b;have C:=bC e;exact .inr (.inr ⟨l,m,w,A,rfl,rfl,z,B,by rw[s.length,t.length];exact C,zR i (s.append t) k⟩)
  .cases b
 .cases b
end
section
variable{Z:Addr->Prop}{H:Hp}
theorem nQ{a:Addr}{u b:HO}(d:∀o w,u≠.dg o w)(c:∀o w,b≠.dg o w)(h:Rd H a u)(h':Rd H a b):u=b:=by
 rcases h with h|⟨o,h⟩<;>rcases h' with h' |⟨f,h'⟩<;>rw[h]at h'<;>injection h' with e
 .exact absurd e (d _ _)
 .exact absurd e.symm (c _ _)
 .injection e
theorem rr{a:Addr}{xs b:List V}(h:Rd H a (.lst xs))(h':Rd H a (.lst b)):xs=b:=by
 have e:=nQ (λ_ _ z=>by cases z) (λ_ _ z=>by cases z) h h'
 injection e
theorem rA{a:Addr}{xs b:List V}(h:Rd H a (.tup xs))(h':Rd H a (.tup b)):xs=b:=by
 have e:=nQ (λ_ _ z=>by cases z) (λ_ _ z=>by cases z) h h'
 injection e
theorem sW{a:Addr}{xs b:List V}(h:Rd H a (.lst xs))(h':Rd H a (.tup b)):False:=by
 have e:=nQ (λ_ _ z=>by cases z) (λ_ _ z=>by cases z) h h'
 cases e
mutual
theorem Rep.uniq:∀(n:Nat) (d d':D) (v:V),aI n d=true->aI n d'=true->Rep Z H d v->Rep Z H d' v->d=d'
 |n,.lst xs,d',v,o,o',h,h'=>by
  simp only[Rep]at h;obtain⟨a,g,rfl,_,h1,h2⟩:=h;cases d'<;>simp only[Rep]at h'
  case lst ys=>
   obtain⟨b,i,e,_,c,f⟩:=h';cases e;cases rr h1 c;cases n with
   |zero=>simp[aI]at o
   |succ n=>rw[aX.uniq n xs ys g (by simpa[aI]using o) (by simpa[aI]using o') h2 f]
  case tup ys=>
   obtain⟨b,i,e,_,c,f⟩:=h';cases e;exact(sW h1 c).elim
  case dct ks ys=>cases n<;>simp[aI]at o'
  all_goals cases h'
 |n,.tup xs,d',v,o,o',h,h'=>by
  simp only[Rep]at h;obtain⟨a,g,rfl,_,h1,h2⟩:=h;cases d'<;>simp only[Rep]at h'
  case tup ys=>
   obtain⟨b,i,e,_,c,f⟩:=h';cases e;cases rA h1 c;cases n with
   |zero=>simp[aI]at o
   |succ n=>rw[aX.uniq n xs ys g (by simpa[aI]using o) (by simpa[aI]using o') h2 f]
  case lst ys=>
   obtain⟨b,i,e,_,c,f⟩:=h';cases e;exact(sW c h1).elim
  case dct ks ys=>cases n<;>simp[aI]at o'
  all_goals cases h'
 |n,.dct ks xs,_,_,o,_,_,_=>by cases n<;>simp[aI]at o
 |n,.ref _,_,_,_,_,h,_=>by simp only[Rep]at h
 |n,.non,d',v,_,o',h,h'=>by
  simp only[Rep]at h;subst h
  cases d'<;>simp only[Rep]at h'<;>first|rfl | (obtain⟨_,_,e,_⟩:=h';cases e;done) | (cases h';done)
 |n,.bl b,d',v,_,o',h,h'=>by
  simp only[Rep]at h;subst h
  cases d'<;>simp only[Rep]at h'<;>first | (obtain⟨_,_,e,_⟩:=h';cases e;done) | (cases h';rfl) | (cases h';done)
 |n,.int b,d',v,_,o',h,h'=>by
  simp only[Rep]at h;subst h
  cases d'<;>simp only[Rep]at h'<;>first | (obtain⟨_,_,e,_⟩:=h';cases e;done) | (cases h';rfl) | (cases h';done)
 |n,.str b,d',v,_,o',h,h'=>by
  simp only[Rep]at h;subst h
  cases d'<;>simp only[Rep]at h'<;>first | (obtain⟨_,_,e,_⟩:=h';cases e;done) | (cases h';rfl) | (cases h';done)
theorem aX.uniq:∀(n:Nat) (xs a:List D) (vs:List V),(∀x∈xs,aI n x=true)->(∀x∈a,aI n x=true)->aX Z H xs vs->aX Z H a vs->xs=a
 |n,[],a,vs,_,_,h,h'=>by
  rw[h.nil_inv]at h';cases a with
  |nil=>rfl
  |cons y a=>obtain⟨_,_,e,_⟩:=h'.cons_inv;cases e
 |n,x::xs,a,vs,o,c,h,h'=>by
  obtain⟨v,r,rfl,d,f⟩:=h.cons_inv;cases a with
  |nil=>exact absurd h'.nil_inv (by simp)
  |cons y a=>
   obtain⟨w,j,e,g,i⟩:=h'.cons_inv;cases e;rw[Rep.uniq n x y v (o x (by simp)) (c y (by simp)) d g,aX.uniq n xs a r (λz b=>o z (by simp[b])) (λz b=>c z (by simp[b])) f i]
end
mutual
theorem wR:∀(n:Nat) (d:D),aI n d=true->ed d d=true
 |n,.lst xs,o=>by
  cases n with
  |zero=>simp[aI]at o
  |succ n=>simp only[ed];exact fv n xs (by simpa[aI]using o)
 |n,.tup xs,o=>by
  cases n with
  |zero=>simp[aI]at o
  |succ n=>simp only[ed];exact fv n xs (by simpa[aI]using o)
 |n,.dct _ _,o=>by cases n<;>simp[aI]at o
 |n,.ref _,o=>by cases n<;>simp[aI]at o
 |n,.non,_=>by simp[ed]
 |n,.bl _,_=>by simp[ed]
 |n,.int _,_=>by simp[ed]
 |n,.str _,_=>by simp[ed]
theorem fv:∀(n:Nat) (xs:List D),(∀x∈xs,aI n x=true)->eQ xs xs=true
 |n,[],_=>by simp[eQ]
 |n,x::xs,o=>by
  simp only[eQ,wR n x (o x (by simp)),fv n xs λz hz=>o z (by simp[hz]),Bool.and_self]
end
theorem dY:∀(xs a:List D),((List.range (min xs.length a.length)).all (λj=>ed (xs.getD j .non) (a.getD j .non))&&(xs.length==a.length))=eQ xs a
 |[],[]=>by simp[eQ]
 |[],_::_=>by simp[eQ]
 |_::_,[]=>by simp[eQ]
 |x::xs,y::a=>by
  have b:=dY xs a;have c:min (x::xs).length (y::a).length=min xs.length a.length+1:=by simp only[List.length_cons];omega
  rw[c,List.range_succ_eq_map,List.all_cons,List.all_map,eQ,←b];simp[Function.comp_def,Bool.and_assoc]
theorem kL{xs a:List D}(h:xs.length=a.length):(List.range xs.length).all (λj=>ed (xs.getD j .non) (a.getD j .non))=eQ xs a:=by
 have e:=dY xs a;rw[←h,Nat.min_self]at e;simpa using e
theorem nS{xs a:List D}(h:xs.length≠a.length):eQ xs a=false:=by
 rw[←dY xs a];simp[h]
end
inductive Vw (s:Shared) (Z:Addr->Prop) (H:Hp):D->Value->Prop where
 |non:Vw s Z H .non .none
 |bl (b:Bool):Vw s Z H (.bl b) (.bool b)
 |int (i:Int) (t:Tok):Vw s Z H (.int i) (.int i t)
 |str (x:Str) (t:Tok):Vw s Z H (.str x) (.str x t)
 |lst {l:Addr}{its:List Value}{vs:List V}{ds:List D}:s.heap.IsList l its.toArray->Vals vs its->Rd H l (.lst vs)/\aX Z H ds vs->Vw s Z H (.lst ds) (.ref l)
 |tup {l:Addr}{its:List Value}{vs:List V}{ds:List D}:s.heap.IsTuple l its.toArray->Vals vs its->Rd H l (.tup vs)/\aX Z H ds vs->Vw s Z H (.tup ds) (.ref l)
section
variable{X:Cx}{pins:List (Addr×Obj)}{σ:L2.St}{Z:Addr->Prop}{H:Hp}{s:Shared}{A:Around}
theorem gb{n:Nat}{d:D}{v:V}{u:Value}(I:Inv X pins σ H s)(c:Now Z H d v)(r:RelV v u)(o:aI n d=true):Vw s Z H d u:=by
 cases d with
 |non=>cases fK c;cases r;exact .non
 |bl b=>cases ib c;cases r;exact .bl b
 |int b=>cases bB c;obtain⟨t,rfl⟩:=r;exact .int b t
 |str b=>cases c8 c;obtain⟨t,rfl⟩:=r;exact .str b t
 |lst i=>
  obtain⟨a,j,rfl,e,f⟩:=c9 c;cases r;obtain⟨g,h,p,l⟩:=I.list (kK (K:=X.K) e);exact .lst p.isList h ⟨e,f⟩
 |tup i=>
  obtain⟨a,j,rfl,_,e,f⟩:=fL c;cases r;obtain⟨g,h,p,l⟩:=I.tuple (uX (K:=X.K) e);exact .tup p h ⟨e,f⟩
 |dct m i=>cases n<;>simp[aI]at o
 |ref k=>cases n<;>simp[aI]at o
theorem nT{vs:List V}{a:List Value}(r:Vals vs a){j:Nat}(d:j<a.length):∃v,vs[j]?=some v/\RelV v a[j]:=by
 have f:=r.length;have b:vs[j]?=some vs[j]:=by simp[show j<vs.length by omega]
 obtain⟨u,c,e⟩:=r.get b;rw[List.getElem?_eq_getElem d]at c;cases c;exact⟨_,b,e⟩
theorem fw{n:Nat}(I:Inv X pins σ H s)(r:∀(A:Around) (e f:D) (u w:Value),A.units+n<cLine->aI n e=true->aI n f=true->Vw s Z H e u->Vw s Z H f w->SeqAt.EqAt A s u w (ed e f))
  {ds es:List D} (t:∀x∈ds,aI n x=true) (y:∀x∈es,aI n x=true) (G:A.units+(n+1)<cLine) {vs ws:List V}{b a:List Value} (k:Vals vs b) (l:Vals ws a) (pl:aX Z H ds vs) (m:aX Z H es ws) :
  ∀j (g:j<b.toArray.size) (h:j<a.toArray.size),SeqAt.EqAt A.in1 s b.toArray[j] a.toArray[j] (ed (ds.getD j .non) (es.getD j .non)):=by
 intro j g h;have J:=k.length;have K:=l.length;have L:=pl.length;have M:=m.length;simp only[List.size_toArray]at g h;simp only[List.getElem_toArray];obtain⟨v,z,B⟩:=nT k g;obtain⟨w,C,i⟩:=nT l h;have o:ds[j]?=some (ds.getD j .non):=by simp[List.getD,show j<ds.length by omega]
 have p:es[j]?=some (es.getD j .non):=by simp[List.getD,show j<es.length by omega]
 obtain⟨N,c,E⟩:=pl.get o;obtain⟨O,d,F⟩:=m.get p;rw[z]at c;cases c
 rw[C]at d;cases d
 have q:=t _ (List.mem_of_getElem? o);have o2:=y _ (List.mem_of_getElem? p);exact r A.in1 _ _ _ _ (by show A.units+1+n<cLine;omega) q o2 (gb I E.now B q) (gb I F.now i o2)
theorem fx(I:Inv X pins σ H s):∀(n:Nat) (A:Around) (G J:D) (u w:Value),A.units+n<cLine->aI n G=true->aI n J=true->Vw s Z H G u->Vw s Z H J w->SeqAt.EqAt A s u w (ed G J):=by
 intro n
 induction n with
 |zero=>
  intro A G J u w N E K O o;have f:A.units<cLine:=by omega
  cases O with
  |non=>
   cases o with
   |non=>exact SeqAt.EqAt.same _
   |bl p=>exact SeqAt.EqAt.none_bool _
   |int q k=>exact SeqAt.EqAt.none_int _ _
   |str r k=>exact SeqAt.EqAt.none_str _ _
   |@lst m a d c e h g=>exact SeqAt.EqAt.none_list e f
   |@tup m a d c e h g=>exact SeqAt.EqAt.none_tuple e f
  |bl b=>
   cases o with
   |non=>exact SeqAt.EqAt.bool_none _
   |bl p=>exact SeqAt.EqAt.bool_bool _ _
   |int q k=>exact SeqAt.EqAt.bool_int _ _ _
   |str r k=>exact SeqAt.EqAt.bool_str _ _ _
   |@lst m a d c e h g=>exact SeqAt.EqAt.bool_list _ e f
   |@tup m a d c e h g=>exact SeqAt.EqAt.bool_tuple _ e f
  |int i t=>
   cases o with
   |non=>exact SeqAt.EqAt.int_none _ _
   |bl p=>exact SeqAt.EqAt.int_bool _ _ _
   |int q k=>exact SeqAt.EqAt.int_int _ _ _ _
   |str r k=>exact SeqAt.EqAt.int_str _ _ _ _
   |@lst m a d c e h g=>exact SeqAt.EqAt.int_list _ _ e f
   |@tup m a d c e h g=>exact SeqAt.EqAt.int_tuple _ _ e f
  |str x t=>
   cases o with
   |non=>exact SeqAt.EqAt.str_none _ _
   |bl p=>exact SeqAt.EqAt.str_bool _ _ _
   |int q k=>exact SeqAt.EqAt.str_int _ _ _ _
   |str r k=>exact SeqAt.EqAt.str_str _ _ _ _
   |@lst m a d c e h g=>exact SeqAt.EqAt.str_list _ _ e f
   |@tup m a d c e h g=>exact SeqAt.EqAt.str_tuple _ _ e f
  |@lst l y L z j F B=>
   cases o with
   |non=>exact SeqAt.EqAt.list_none j f
   |bl p=>exact SeqAt.EqAt.list_bool _ j f
   |int q k=>exact SeqAt.EqAt.list_int _ _ j f
   |str r k=>exact SeqAt.EqAt.list_str _ _ j f
   |@lst m a d c e h g=>
    simp[aI]at E
   |@tup m a d c e h g=>exact SeqAt.EqAt.list_tuple j e f
  |@tup l y L z j F B=>
   cases o with
   |non=>exact SeqAt.EqAt.tuple_none j f
   |bl p=>exact SeqAt.EqAt.tuple_bool _ j f
   |int q k=>exact SeqAt.EqAt.tuple_int _ _ j f
   |str r k=>exact SeqAt.EqAt.tuple_str _ _ j f
   |@lst m a d c e h g=>exact SeqAt.EqAt.tuple_list j e f
   |@tup m a d c e h g=>
    simp[aI]at E
 |succ n R=>
  intro A G J u w N E K O o;have f:A.units<cLine:=by omega
  cases O with
  |non=>
   cases o with
   |non=>exact SeqAt.EqAt.same _
   |bl p=>exact SeqAt.EqAt.none_bool _
   |int q k=>exact SeqAt.EqAt.none_int _ _
   |str r k=>exact SeqAt.EqAt.none_str _ _
   |@lst m a d c e h g=>exact SeqAt.EqAt.none_list e f
   |@tup m a d c e h g=>exact SeqAt.EqAt.none_tuple e f
  |bl b=>
   cases o with
   |non=>exact SeqAt.EqAt.bool_none _
   |bl p=>exact SeqAt.EqAt.bool_bool _ _
   |int q k=>exact SeqAt.EqAt.bool_int _ _ _
   |str r k=>exact SeqAt.EqAt.bool_str _ _ _
   |@lst m a d c e h g=>exact SeqAt.EqAt.bool_list _ e f
   |@tup m a d c e h g=>exact SeqAt.EqAt.bool_tuple _ e f
  |int i t=>
   cases o with
   |non=>exact SeqAt.EqAt.int_none _ _
   |bl p=>exact SeqAt.EqAt.int_bool _ _ _
   |int q k=>exact SeqAt.EqAt.int_int _ _ _ _
   |str r k=>exact SeqAt.EqAt.int_str _ _ _ _
   |@lst m a d c e h g=>exact SeqAt.EqAt.int_list _ _ e f
   |@tup m a d c e h g=>exact SeqAt.EqAt.int_tuple _ _ e f
  |str x t=>
   cases o with
   |non=>exact SeqAt.EqAt.str_none _ _
   |bl p=>exact SeqAt.EqAt.str_bool _ _ _
   |int q k=>exact SeqAt.EqAt.str_int _ _ _ _
   |str r k=>exact SeqAt.EqAt.str_str _ _ _ _
   |@lst m a d c e h g=>exact SeqAt.EqAt.str_list _ _ e f
   |@tup m a d c e h g=>exact SeqAt.EqAt.str_tuple _ _ e f
  |@lst l y L z j F B=>
   cases o with
   |non=>exact SeqAt.EqAt.list_none j f
   |bl p=>exact SeqAt.EqAt.list_bool _ j f
   |int q k=>exact SeqAt.EqAt.list_int _ _ j f
   |str r k=>exact SeqAt.EqAt.list_str _ _ j f
   |@lst m a d c e h g=>
    have S:=F.length;have T:=h.length;have U:=B.2.length;have V:=g.2.length;simp only[ed]
    by_cases C:l=m
    .subst C
     have P:=rr B.1 g.1;subst P;have Q:=aX.uniq n z c L (by simpa[aI]using E) (by simpa[aI]using K) B.2 g.2
     subst Q;rw[fv n z (by simpa[aI]using E)]
     exact SeqAt.EqAt.same _
    .refine SeqAt.EqAt.of_refs C ?_
     by_cases M:z.length=c.length
     .rw[←kL M]
      have:=SeqAt.RcAt.lists j e (by simp only[List.size_toArray];omega) f (fw I R (by simpa[aI]using E) (by simpa[aI]using K) N F h B.2 g.2)
      rw[show y.toArray.size=z.length by simp only[List.size_toArray];omega]at this
      exact this
     .rw[nS M]
      exact SeqAt.RcAt.lists_lengths j e (by simp only[List.size_toArray,bne_iff_ne];omega) f
   |@tup m a d c e h g=>exact SeqAt.EqAt.list_tuple j e f
  |@tup l y L z j F B=>
   cases o with
   |non=>exact SeqAt.EqAt.tuple_none j f
   |bl p=>exact SeqAt.EqAt.tuple_bool _ j f
   |int q k=>exact SeqAt.EqAt.tuple_int _ _ j f
   |str r k=>exact SeqAt.EqAt.tuple_str _ _ j f
   |@lst m a d c e h g=>exact SeqAt.EqAt.tuple_list j e f
   |@tup m a d c e h g=>
    have S:=F.length;have T:=h.length;have U:=B.2.length;have V:=g.2.length;simp only[ed]
    by_cases C:l=m
    .subst C
     have P:=rA B.1 g.1;subst P;have Q:=aX.uniq n z c L (by simpa[aI]using E) (by simpa[aI]using K) B.2 g.2
     subst Q;rw[fv n z (by simpa[aI]using E)]
     exact SeqAt.EqAt.same _
    .refine SeqAt.EqAt.of_refs C ?_
     rw[←dY z c];have:=SeqAt.RcAt.tuples j e f (fw I R (by simpa[aI]using E) (by simpa[aI]using K) N F h B.2 g.2)
     rw[show y.toArray.size=z.length by simp only[List.size_toArray];omega,show a.toArray.size=c.length by simp only[List.size_toArray];omega]at this
     exact this
theorem wU(I:Inv X pins σ H s){n:Nat}{F G:D}{u w:Value}(J:A.units+(n+1)<cLine)(K:aI (n+1) F=true)(L:aI (n+1) G=true)(M:Vw s Z H F u)(p:Vw s Z H G w):SeqAt.RcAt A s u w (ed F G):=by
 have f:A.units<cLine:=by omega
 cases M with
 |non=>
  cases p with
  |non=>exact SeqAt.RcAt.none_none
  |bl q=>exact SeqAt.RcAt.none_bool _
  |int r k=>exact SeqAt.RcAt.none_int _ _
  |str y k=>exact SeqAt.RcAt.none_str _ _
  |@lst m a e c d g h=>exact SeqAt.RcAt.none_list d f
  |@tup m a e c d g h=>exact SeqAt.RcAt.none_tuple d f
 |bl b=>
  cases p with
  |non=>exact SeqAt.RcAt.bool_none _
  |bl q=>exact SeqAt.RcAt.bool_bool _ _
  |int r k=>exact SeqAt.RcAt.bool_int _ _ _
  |str y k=>exact SeqAt.RcAt.bool_str _ _ _
  |@lst m a e c d g h=>exact SeqAt.RcAt.bool_list _ d f
  |@tup m a e c d g h=>exact SeqAt.RcAt.bool_tuple _ d f
 |int i t=>
  cases p with
  |non=>exact SeqAt.RcAt.int_none _ _
  |bl q=>exact SeqAt.RcAt.int_bool _ _ _
  |int r k=>exact SeqAt.RcAt.int_int _ _ _ _
  |str y k=>exact SeqAt.RcAt.int_str _ _ _ _
  |@lst m a e c d g h=>exact SeqAt.RcAt.int_list _ _ d f
  |@tup m a e c d g h=>exact SeqAt.RcAt.int_tuple _ _ d f
 |str x t=>
  cases p with
  |non=>exact SeqAt.RcAt.str_none _ _
  |bl q=>exact SeqAt.RcAt.str_bool _ _ _
  |int r k=>exact SeqAt.RcAt.str_int _ _ _ _
  |str y k=>exact SeqAt.RcAt.str_str _ _ _ _
  |@lst m a e c d g h=>exact SeqAt.RcAt.str_list _ _ d f
  |@tup m a e c d g h=>exact SeqAt.RcAt.str_tuple _ _ d f
 |@lst l o N z j B C=>
  cases p with
  |non=>exact SeqAt.RcAt.list_none j f
  |bl q=>exact SeqAt.RcAt.list_bool _ j f
  |int r k=>exact SeqAt.RcAt.list_int _ _ j f
  |str y k=>exact SeqAt.RcAt.list_str _ _ j f
  |@lst m a e c d g h=>
   have O:=B.length;have P:=g.length;have Q:=C.2.length;have R:=h.2.length;simp only[ed]
   by_cases E:z.length=c.length
   .rw[←kL E]
    have:=SeqAt.RcAt.lists j d (by simp only[List.size_toArray];omega) f (fw I (fx I n) (by simpa[aI]using K) (by simpa[aI]using L) J B g C.2 h.2)
    rw[show o.toArray.size=z.length by simp only[List.size_toArray];omega]at this
    exact this
   .rw[nS E]
    exact SeqAt.RcAt.lists_lengths j d (by simp only[List.size_toArray,bne_iff_ne];omega) f
  |@tup m a e c d g h=>exact SeqAt.RcAt.list_tuple j d f
 |@tup l o N z j B C=>
  cases p with
  |non=>exact SeqAt.RcAt.tuple_none j f
  |bl q=>exact SeqAt.RcAt.tuple_bool _ j f
  |int r k=>exact SeqAt.RcAt.tuple_int _ _ j f
  |str y k=>exact SeqAt.RcAt.tuple_str _ _ j f
  |@lst m a e c d g h=>exact SeqAt.RcAt.tuple_list j d f
  |@tup m a e c d g h=>
   have O:=B.length;have P:=g.length;have Q:=C.2.length;have R:=h.2.length;simp only[ed];rw[←dY z c];have:=SeqAt.RcAt.tuples j d f (fw I (fx I n) (by simpa[aI]using K) (by simpa[aI]using L) J B g C.2 h.2)
   rw[show o.toArray.size=z.length by simp only[List.size_toArray];omega,show a.toArray.size=c.length by simp only[List.size_toArray];omega]at this
   exact this
theorem rC(I:Inv X pins σ H s){n:Nat}{F G:D}{u w:Value}(J:A.units+(n+1)<cLine)(K:aI (n+1) F=true)(L:aI (n+1) G=true)(M:Vw s Z H F u)(p:Vw s Z H G w):SeqAt.RcNeAt A s u w (!ed F G):=by
 have f:A.units<cLine:=by omega
 cases M with
 |non=>
  cases p with
  |non=>exact SeqAt.RcNeAt.none_none
  |bl q=>exact SeqAt.RcNeAt.none_bool _
  |int r k=>exact SeqAt.RcNeAt.none_int _ _
  |str y k=>exact SeqAt.RcNeAt.none_str _ _
  |@lst m a e c d g h=>exact SeqAt.RcNeAt.none_list d f
  |@tup m a e c d g h=>exact SeqAt.RcNeAt.none_tuple d f
 |bl b=>
  cases p with
  |non=>exact SeqAt.RcNeAt.bool_none _
  |bl q=>exact SeqAt.RcNeAt.bool_bool _ _
  |int r k=>exact SeqAt.RcNeAt.bool_int _ _ _
  |str y k=>exact SeqAt.RcNeAt.bool_str _ _ _
  |@lst m a e c d g h=>exact SeqAt.RcNeAt.bool_list _ d f
  |@tup m a e c d g h=>exact SeqAt.RcNeAt.bool_tuple _ d f
 |int i t=>
  cases p with
  |non=>exact SeqAt.RcNeAt.int_none _ _
  |bl q=>exact SeqAt.RcNeAt.int_bool _ _ _
  |int r k=>exact SeqAt.RcNeAt.int_int _ _ _ _
  |str y k=>exact SeqAt.RcNeAt.int_str _ _ _ _
  |@lst m a e c d g h=>exact SeqAt.RcNeAt.int_list _ _ d f
  |@tup m a e c d g h=>exact SeqAt.RcNeAt.int_tuple _ _ d f
 |str x t=>
  cases p with
  |non=>exact SeqAt.RcNeAt.str_none _ _
  |bl q=>exact SeqAt.RcNeAt.str_bool _ _ _
  |int r k=>exact SeqAt.RcNeAt.str_int _ _ _ _
  |str y k=>exact SeqAt.RcNeAt.str_str _ _ _ _
  |@lst m a e c d g h=>exact SeqAt.RcNeAt.str_list _ _ d f
  |@tup m a e c d g h=>exact SeqAt.RcNeAt.str_tuple _ _ d f
 |@lst l o N z j B C=>
  cases p with
  |non=>exact SeqAt.RcNeAt.list_none j f
  |bl q=>exact SeqAt.RcNeAt.list_bool _ j f
  |int r k=>exact SeqAt.RcNeAt.list_int _ _ j f
  |str y k=>exact SeqAt.RcNeAt.list_str _ _ j f
  |@lst m a e c d g h=>
   have O:=B.length;have P:=g.length;have Q:=C.2.length;have R:=h.2.length;simp only[ed]
   by_cases E:z.length=c.length
   .rw[←kL E]
    have:=SeqAt.RcNeAt.lists j d (by simp only[List.size_toArray];omega) f (fw I (fx I n) (by simpa[aI]using K) (by simpa[aI]using L) J B g C.2 h.2)
    rw[show o.toArray.size=z.length by simp only[List.size_toArray];omega]at this
    exact this
   .rw[nS E]
    exact SeqAt.RcNeAt.lists_lengths j d (by simp only[List.size_toArray,bne_iff_ne];omega) f
  |@tup m a e c d g h=>exact SeqAt.RcNeAt.list_tuple j d f
 |@tup l o N z j B C=>
  cases p with
  |non=>exact SeqAt.RcNeAt.tuple_none j f
  |bl q=>exact SeqAt.RcNeAt.tuple_bool _ j f
  |int r k=>exact SeqAt.RcNeAt.tuple_int _ _ j f
  |str y k=>exact SeqAt.RcNeAt.tuple_str _ _ j f
  |@lst m a e c d g h=>exact SeqAt.RcNeAt.tuple_list j d f
  |@tup m a e c d g h=>
   have O:=B.length;have P:=g.length;have Q:=C.2.length;have R:=h.2.length;simp only[ed];rw[←dY z c];have:=SeqAt.RcNeAt.tuples j d f (fw I (fx I n) (by simpa[aI]using K) (by simpa[aI]using L) J B g C.2 h.2)
   rw[show o.toArray.size=z.length by simp only[List.size_toArray];omega,show a.toArray.size=c.length by simp only[List.size_toArray];omega]at this
   exact this
end
end Mir
namespace Mir
open PySem PySem.Spec PyProof.Rows L2
theorem Vw.uniq{s:Shared}{Z:Addr->Prop}{H:Hp}{n:Nat}{d d':D}{u:Value}(h:Vw s Z H d u)(h':Vw s Z H d' u)(o:aI n d=true)(r:aI n d'=true):d=d':=by
 cases h with
 |non=>cases h';rfl
 |bl b=>cases h';rfl
 |int i t=>cases h';rfl
 |str x t=>cases h';rfl
 |@lst l j k m w y f=>
  cases h' with
  |@lst _ a g c p q e=>
   cases rr f.1 e.1;cases n with
   |zero=>simp[aI]at o
   |succ n=>rw[aX.uniq n m c k (by simpa[aI]using o) (by simpa[aI]using r) f.2 e.2]
  |@tup _ a g c p q e=>exact(sW f.1 e.1).elim
 |@tup l j k m w y f=>
  cases h' with
  |@tup _ a g c p q e=>
   cases rA f.1 e.1;cases n with
   |zero=>simp[aI]at o
   |succ n=>rw[aX.uniq n m c k (by simpa[aI]using o) (by simpa[aI]using r) f.2 e.2]
  |@lst _ a g c p q e=>exact(sW e.1 f.1).elim
section
variable{X:Cx}{pins:List (Addr×Obj)}{σ:L2.St}{Z:Addr->Prop}{H:Hp}{s:Shared}
def jR(s:Shared)(Z:Addr->Prop)(H:Hp)(a:D)(u:Value):Bool:=@decide (∃d,aI 8 d=true/\Vw s Z H d u/\ed d a=true) (Classical.propDecidable _)
theorem sX{a d:D}{u:Value}(o:aI 8 d=true)(h:Vw s Z H d u):jR s Z H a u=ed d a:=by
 unfold jR;cases e:ed d a with
 |true=>exact @decide_eq_true _ (Classical.propDecidable _) ⟨d,o,h,e⟩
 |false=>
  refine @decide_eq_false _ (Classical.propDecidable _) ?_;rintro⟨g,c,f,b⟩;rw[Vw.uniq f h c o,e]at b;cases b
theorem kM(I:Inv X pins σ H s){b:D}:∀{ds:List D}{vs:List V}{a:List Value},aX Z H ds vs->Vals vs a->(∀d∈ds,aI 8 d=true)->a.any (jR s Z H b)=ds.any λd=>ed d b
 |[],_,_,h,r,_=>by rw[h.nil_inv]at r;cases r;rfl
 |d::ds,_,_,h,r,o=>by
  obtain⟨v,vr,rfl,h1,h2⟩:=h.cons_inv;cases r with
  |cons c e=>
   rw[List.any_cons,List.any_cons,kM I h2 e λz f=>o z (by simp[f]),sX (o d (by simp)) (gb I h1.now c (o d (by simp)))]
theorem kN(I:Inv X pins σ H s){A:Around}{b:D}{w:Value}(c:A.units+8<cLine)(f:aI 8 b=true)(g:Vw s Z H b w) :
  ∀{ds:List D}{vs:List V}{a:List Value},aX Z H ds vs->Vals vs a->(∀d∈ds,aI 8 d=true)->∀u∈a,SeqAt.EqAt A s u w (jR s Z H b u)
 |[],_,_,h,r,_,u,hm=>by rw[h.nil_inv]at r;cases r;simp at hm
 |d::ds,_,_,h,r,o,u,hm=>by
  obtain⟨v,vr,rfl,h1,h2⟩:=h.cons_inv;cases r with
  |cons j k=>
   rcases List.mem_cons.mp hm with e|hm
   .subst e
    have i:=gb I h1.now j (o d (by simp))
    rw[sX (o d (by simp)) i]
    exact fx I 8 A d b _ w c (o d (by simp)) f i g
   .exact kN I c f g h2 k (λz l=>o z (by simp[l])) u hm
end
section
variable{X:Cx}{Γ:mf}{bw:Bool}{a b e:Expr}{ca cb cc c:Ex}{pos:Pos}
def wV(op:CmpOp):R2:=λx y H Q=>∃Z a b k,Now Z H a x/\Now Z H b y/\dD op a b=.ok k/\Q (.bl k) H
theorem pG{Z:Addr->Prop}{H:Hp}{b:List L2.Key}{ds:List D}{x:V}(h:Now Z H (.dct b ds) x):∃a,x=.ref a:=by
 have h:Rep Z H (.dct b ds) x:=h;simp only[Rep]at h;obtain⟨a,_,e,_⟩:=h;exact⟨a,e⟩
theorem Cw{Z:Addr->Prop}{H:Hp}{f l:D}{x y:V}{k:Bool}{u v:Value}(d:Now Z H f x)(m:Now Z H l y)(e:RelV x u)(o:RelV y v)(h:isD f l=.ok k):plainIs u v=true/\(u==v)=k:=by
 have zU:∀{g:List D}{x:V}{u:Value},Now Z H (.lst g) x->RelV x u->∃a,u=.ref a:=λn r=>by
  obtain⟨a,_,rfl,_⟩:=c9 n;exact⟨a,r⟩
 have j:∀{g:List D}{x:V}{u:Value},Now Z H (.tup g) x->RelV x u->∃a,u=.ref a:=λn r=>by
  obtain⟨a,_,rfl,_⟩:=fL n;exact⟨a,r⟩
 cases l with
 |non=>
  cases fK m;cases o;cases f with
  |non=>cases fK d;cases e;cases h;exact⟨rfl,rfl⟩
  |bl b=>cases ib d;cases e;cases h;exact⟨rfl,rfl⟩
  |int i=>cases bB d;obtain⟨t,rfl⟩:=e;cases h;exact⟨rfl,rfl⟩
  |str i=>cases c8 d;obtain⟨t,rfl⟩:=e;cases h;exact⟨rfl,rfl⟩
  |lst g=>obtain⟨a,rfl⟩:=zU d e;cases h;exact⟨rfl,rfl⟩
  |tup g=>obtain⟨a,rfl⟩:=j d e;cases h;exact⟨rfl,rfl⟩
  |dct p g=>obtain⟨a,rfl⟩:=pG d;cases e;cases h;exact⟨rfl,rfl⟩
  |ref n=>exact(show False by simpa only [Now,Rep]using d).elim
 |bl c=>
  cases ib m;cases o;cases f with
  |non=>cases fK d;cases e;cases h;exact⟨rfl,rfl⟩
  |bl b=>cases ib d;cases e;cases h;exact⟨rfl,by cases b<;>cases c<;>rfl⟩
  |int i=>cases bB d;obtain⟨t,rfl⟩:=e;cases h;exact⟨rfl,rfl⟩
  |str i=>cases c8 d;obtain⟨t,rfl⟩:=e;cases h;exact⟨rfl,rfl⟩
  |lst g=>obtain⟨a,rfl⟩:=zU d e;cases h;exact⟨rfl,rfl⟩
  |tup g=>obtain⟨a,rfl⟩:=j d e;cases h;exact⟨rfl,rfl⟩
  |dct p g=>cases h
  |ref n=>cases h
 |int _=>cases f<;>cases h
 |str _=>cases f<;>cases h
 |lst _=>cases f<;>cases h
 |tup _=>cases f<;>cases h
 |dct _ _=>cases f<;>cases h
 |ref _=>cases f<;>cases h
theorem Cy{pins:List (Addr×Obj)}{s:Shared}{d:L2.St}{H:Hp}{x y:V}{u v:Value}{Q:VK}(L:X.A.units+64<cLine)(I:Inv X pins d H s)(n:RelV x u)(o:RelV y v)
  {Z:Addr->Prop}{a F:D}{k:Bool} (r:Now Z H a x) (t:Now Z H F y) (e:inD a F=.ok k) :
  (Q (.bl k) H->wpAny (model X.prog X.w) X.A (compareOp .In u v) (EP X pins d Q) X.xe s)/\(Q (.bl !k) H->wpAny (model X.prog X.w) X.A (compareOp .NotIn u v) (EP X pins d Q) X.xe s):=by
 unfold inD at e;split at e
 .rename_i z
  split at e
  .rename_i f
   cases e;simp only[Bool.and_eq_true]at f;obtain⟨g,c⟩:=f;have c:=List.all_eq_true.mp c;obtain⟨l,G,rfl,B,h⟩:=c9 t;cases o;obtain⟨b,i,p,J⟩:=I.list (kK (K:=X.K) B);have C:=gb I r n g;have j:∀w,w∈b.toArray->SeqAt.EqAt X.A.in1 s w u (jR s Z H a w):=λw E=>kN I (A:=X.A.in1) (by show X.A.units+1+8<cLine;omega) g C h i c w (by simpa using E)
   have m:b.toArray.any (jR s Z H a)=z.any λy=>ed y a:=by
    rw[←kM I h i c];simp
   exact⟨λq=>SeqAt.in_listAt (jR s Z H a) p.isList j ⟨.bl _,H,I,rfl,by rw[m];exact q⟩,λq=>SeqAt.notIn_listAt (jR s Z H a) p.isList j ⟨.bl _,H,I,rfl,by rw[m];exact q⟩⟩
  .cases e
 .rename_i z
  split at e
  .rename_i f
   cases e;simp only[Bool.and_eq_true]at f;obtain⟨g,c⟩:=f;have c:=List.all_eq_true.mp c;obtain⟨l,G,rfl,_,B,h⟩:=fL t;cases o;obtain⟨b,i,p,J⟩:=I.tuple (uX (K:=X.K) B);have C:=gb I r n g;have j:∀w,w∈b.toArray->SeqAt.EqAt X.A.in1 s w u (jR s Z H a w):=λw E=>kN I (A:=X.A.in1) (by show X.A.units+1+8<cLine;omega) g C h i c w (by simpa using E)
   have m:b.toArray.any (jR s Z H a)=z.any λy=>ed y a:=by
    rw[←kM I h i c];simp
   exact⟨λq=>SeqAt.in_tupleAt (jR s Z H a) p j ⟨.bl _,H,I,rfl,by rw[m];exact q⟩,λq=>SeqAt.notIn_tupleAt (jR s Z H a) p j ⟨.bl _,H,I,rfl,by rw[m];exact q⟩⟩
  .cases e
 .cases e
  cases c8 r;cases c8 t;exact⟨λq=>uJ pins s d H _ _ u v Q I n o ⟨_,_,rfl,rfl,q⟩,λq=>ny pins s d H _ _ u v Q I n o ⟨_,_,rfl,rfl,q⟩⟩
 .cases e
theorem jl(F:X.A.units+64<cLine)(op:CmpOp):gf X (compareOp op) (wV op):=by
 intro pins s D H x y u v Q I m p h;obtain⟨Z,c,d,k,r,t,e,q⟩:=h;have l:EP X pins D Q (.bool k) s:=⟨.bl k,H,I,rfl,q⟩
 have a:∀{i j:Int}{o:CmpOp}{g:Int->Int->Bool},gf X (compareOp o) (zv λi j=>.bl (g i j))->c=.int i->d=.int j->k=g i j->wpAny (model X.prog X.w) X.A (compareOp o u v) (EP X pins D Q) X.xe s:=by
  intro i j o g z B C G;subst B C G;cases bB r;cases bB t;exact z pins s D H _ _ u v Q I m p ⟨_,_,rfl,rfl,q⟩
 cases op with
 |Eq=>
  unfold dD at e;dsimp only at e;split at e
  .rename_i f
   cases e;simp only[Bool.and_eq_true]at f;exact wU I (n:=7) (by omega) f.1 f.2 (gb I r m f.1) (gb I t p f.2) X.prog X.w X.xe _ l
  .cases e
 |NotEq=>
  unfold dD at e;dsimp only at e;split at e
  .rename_i f
   cases e;simp only[Bool.and_eq_true]at f;exact rC I (n:=7) (by omega) f.1 f.2 (gb I r m f.1) (gb I t p f.2) X.prog X.w X.xe _ l
  .cases e
 |Lt=>cases c<;>cases d<;>first | (cases e;exact a Gh rfl rfl rfl)|cases e
 |LtE=>cases c<;>cases d<;>first | (cases e;exact a Gi rfl rfl rfl)|cases e
 |Gt=>cases c<;>cases d<;>first | (cases e;exact a Gj rfl rfl rfl)|cases e
 |GtE=>cases c<;>cases d<;>first | (cases e;exact a Gk rfl rfl rfl)|cases e
 |In=>
  have e:inD c d=.ok k:=by cases c<;>cases d<;>exact e
  exact(Cy F I m p r t e).1 q
 |NotIn=>
  have e:(do let b ←inD c d;Out.ok (!b))=.ok k:=by cases c<;>cases d<;>exact e
  obtain⟨b,B,C⟩:=kJ e;cases C;exact(Cy F I m p r t B).2 q
 |Is=>
  have e:isD c d=.ok k:=by cases c<;>cases d<;>exact e
  obtain⟨z,E⟩:=Cw r t m p e;exact wpAny_is_plain z (by rw[E];exact l)
 |IsNot=>
  have e:(do let b ←isD c d;Out.ok (!b))=.ok k:=by cases c<;>cases d<;>exact e
  obtain⟨b,B,C⟩:=kJ e;cases C;obtain⟨z,E⟩:=Cw r t m p B;exact wpAny_isNot_plain z (by rw[E];exact l)
theorem DO{op:CmpOp}{c e:D}{x y:V}{Z:Addr->Prop}{H:Hp}{b:Bool}{d:D}{Q:VK}(i:Now Z H c x)(j:Now Z H e y)(f:∀a,Z a->H a≠none)
  (l:(do let r ←dD op c e;Out.ok (false,D.bl r))=.ok (b,d)) (k:∀v g h,eG Z H h g->ee bw b h H g d v->Q v g):wV op x y H Q:=by
 obtain⟨r,m,n⟩:=kJ l;cases n;exact⟨Z,c,e,r,i,j,m,k _ H Z (eG.refl f) (.rep (fu rfl))⟩
end
theorem PT.imp{X:Cx}{e:Expr}{t t':TT}(h:PT X e t)(i:∀a H Q,t' a H Q->t a H Q):PT X e t':=λpins s a H Q I q=>h pins s a H Q I (i a H Q q)
theorem PW.imp{X:Cx}{e:Expr}{t t':TT}(h:PW X e t)(i:∀a H Q,t' a H Q->t a H Q):PW X e t':=λb pins s a H Q I q=>h b pins s a H Q I (i a H Q q)
section
variable{X:Cx}{Γ:mf}{bw:Bool}{a b e:Expr}{ca cb cc c:Ex}{pos:Pos}
theorem DP{Z:Addr->Prop}{H:Hp}{d:D}{x:V}{t:Bool}{K:PySem.W.Frag}(n:Now Z H d x)(h:jQ d=some t):pf K x H t:=by
 cases d with
 |non=>cases fK n;cases h;rfl
 |bl b=>cases ib n;cases h;rfl
 |int b=>cases bB n;cases h;rfl
 |str b=>
  cases c8 n;simp only[jQ]at h;split at h
  .rename_i j
   cases h;refine⟨bC j,?_⟩
   have e:((b.length:Int) != 0)=(b.length != 0):=by
    rw[Bool.eq_iff_iff];simp only[bne_iff_ne,ne_eq];omega
   rw[e]
  .cases h
 |lst f=>
  obtain⟨a,c,rfl,g,i⟩:=c9 n;cases h;refine .inl ⟨c,kK g,?_⟩;have:=i.length;cases f<;>cases c<;>simp at this ⊢
 |tup f=>
  obtain⟨a,c,rfl,_,g,i⟩:=fL n;cases h;refine .inr (.inl ⟨c,uX g,?_⟩);have:=i.length;cases f<;>cases c<;>simp at this ⊢
 |dct l f=>cases h
 |ref k=>cases h
end
def wW(Z:Addr->Prop)(H:Hp):List D->List V->Prop
 |[],a=>a=[]
 |d::ds,a=>∃v r,a=v::r/\Now Z H d v/\wW Z H ds r
section
variable{Z Z':Addr->Prop}{H H':Hp}
theorem wW.one{d:D}{xs:List V}(h:wW Z H [d] xs):∃x,xs=[x]/\Now Z H d x:=by
 obtain⟨v,r,e,a,b⟩:=h;exact⟨v,by rw[e,show r=[]from b],a⟩
end
def Args(bw:Bool)(Z:Addr->Prop)(H:Hp)(ds:List D)(vs:List V):Prop:=if bw=true then wW Z H ds vs else aX Z H ds vs
theorem PA.imp{X:Cx}{e:List Expr}{t t':TA}(h:PA X e t)(i:∀a H Q,t' a H Q->t a H Q):PA X e t':=λb pins s a H Q I q=>h b pins s a H Q I (i a H Q q)
section
variable{X:Cx}{Γ:mf}{bw:Bool}{a b e:Expr}{es:List Expr}{ca cb cc c cs:Ex}{pos p:Pos}
theorem wX{Z:Addr->Prop}{H:Hp}{ds:List D}{vs:List V}{i:Int}{d:D}(h:aX Z H ds vs)(e:jh ds i=some d):∃v,jh vs i=some v/\Rep Z H d v:=by
 unfold jh at e ⊢;rw[h.length];cases q:qN ds.length i with
 |none=>rw[q]at e;cases e
 |some j=>
  rw[q]at e;exact h.get e
theorem DQ{q r:D}{x y:V}{Z:Addr->Prop}{H:Hp}{e:Bool}{d:D}{Q:VK}{K:PySem.W.Frag}(g:Now Z H q x)(h:Now Z H r y)(c:∀a,Z a->H a≠none)(b:rn q r=.ok (e,d))
  (k:∀v i s,eG Z H s i->ee bw e s H i d v->Q v i):J9 K x y H Q:=by
 unfold rn at b;split at b
 .obtain⟨l,j,rfl,m,n⟩:=c9 g
  cases bB h;split at b
  .rename_i t f
   cases b;obtain⟨v,o,p⟩:=wX n f;exact .inl ⟨l,j,_,v,rfl,rfl,kK m,o,k v H Z (eG.refl c) (.rep p)⟩
  .cases b
 .obtain⟨l,j,rfl,_,m,n⟩:=fL g
  cases bB h;split at b
  .rename_i t f
   cases b;obtain⟨v,o,p⟩:=wX n f;exact .inr (.inl ⟨l,j,_,v,rfl,rfl,uX m,o,k v H Z (eG.refl c) (.rep p)⟩)
  .cases b
 .cases c8 g
  cases bB h;split at b
  .rename_i u
   split at b
   .rename_i w f
    cases b;exact .inr (.inr ⟨_,_,w,rfl,rfl,bC u,f,k _ H Z (eG.refl c) (.rep (fu rfl))⟩)
   .cases b
  .cases b
 .cases b
theorem wY{a:Type}(xs:List a)(b c:Option Int):(dz xs b c).length<=xs.length:=by
 unfold dz;rw[List.length_take,List.length_drop];omega
theorem sY(n d:Nat)(v:Int):max 0 (min (if v<0 then v+(n:Int)else v) (n:Int))=((HT.gR n d (some v):Nat):Int):=by
 show max 0 (min (if v<0 then v+(n:Int)else v) (n:Int))=(((if v<0 then (v+(n:Int)).toNat else min v.toNat n):Nat):Int)
 by_cases a:v<0
 .simp only[if_pos a];omega
 .simp only[if_neg a];omega
theorem wZ{a b:Int}{p q:Nat}(d:a=p)(e:b=q):sliceRange a b 1=(List.range (q - p)).map λk=>p+k:=by
 subst d e;unfold sliceRange;simp only[show((1:Int)>0)=True from by simp,if_true]
 by_cases c:(p:Int)<q
 .rw[if_pos c]
  have f:(((q:Int) - p+1 - 1) / 1).toNat=q - p:=by first|omega | (simp;done) | (simp;omega)
  rw[f];refine List.map_congr_left λk _=>?_
  omega
 .rw[if_neg c]
  have:q - p=0:=by omega
  rw[this];rfl
theorem kO(a b:Option Int)(n:Nat):Builtin.Str.strSliceIndices a b 1 n=(List.range (HT.gR n n b - HT.gR n 0 a)).map λk=>HT.gR n 0 a+k:=by
 unfold Builtin.Str.strSliceIndices;simp only[show((1:Int)>0)=True from by simp,if_true]
 refine wZ ?_ ?_
 .cases a with
  |none=>rfl
  |some v=>exact sY n 0 v
 .cases b with
  |none=>rfl
  |some v=>exact sY n n v
theorem uY:∀(n a:Nat) (l:List Nat),a+n<=l.length->((List.range n).map λk=>a+k).filterMap (λi=>l[i]?)=(l.drop a).take n:=by
 intro n
 induction n with
 |zero=>intro a l _;simp
 |succ n c=>
  intro a l h;have b:a+n<l.length:=by omega
  rw[List.range_succ,List.map_append,List.filterMap_append,c a l (by omega),List.take_add_one,List.getElem?_drop]
  simp[List.getElem?_eq_getElem b]
theorem w8(x:Str)(a b:Option Int):(Builtin.Str.strSliceIndices a b 1 x.length).filterMap (x.cps[·]?)=dz x.cps.toList a b:=by
 have c:x.cps.toList.length=x.length:=by simp[Str.length]
 have e:=HT.ri x.length 0 (Nat.zero_le _) a;have f:=HT.ri x.length x.length (Nat.le_refl _) b;rw[kO];unfold dz;rw[c];generalize HT.gR x.length 0 a=p at *;generalize HT.gR x.length x.length b=q at *
 by_cases d:p<=q
 .have:=uY (q - p) p x.cps.toList (by rw[c];omega)
  simpa using this
 .have:q - p=0:=by omega
  rw[this];simp
def GH:V->Option Int->Option Int->Hp->VK->Prop:=λx a b H Q=>∃z,x=.str z/\z.length<=sizeLine/\Q (.str ⟨(dz z.cps.toList a b).toArray⟩) H
theorem kP:DG X GH:=by
 intro pins s G H x v J K a b L Q I j k m n h;obtain⟨z,rfl,M,q⟩:=h;obtain⟨t,rfl⟩:=j;refine⟨"str",_,F.slot_str_getitem.lookup,typeIs_str _ _ _,?_⟩
 have part:∀{w:Value}{o:Option Int},IsPart w o->∃p:Option (Int×Tok),w=partValue p/\p.map (·.1)=o:=λh=>by
  cases h with
  |none=>exact⟨none,rfl,rfl⟩
  |int i t=>exact⟨some (i,t),rfl,rfl⟩
 obtain⟨d,r,m1⟩:=part m;obtain⟨e,y,m2⟩:=part n;subst r y;refine wpAny_getItem_str_slice (l:=d) (u:=e) (st:=none) k rfl ?_
 have A:(slicePicked z d e none).filterMap (z.cps[·]?)=dz z.cps.toList a b:=by
  unfold slicePicked;rw[m1,m2];exact w8 z a b
 have N:(dz z.cps.toList a b).length<=z.length:=by
  have:=wY z.cps.toList a b;simpa[Str.length]using this
 unfold sliceMade;split
 .rename_i g
  have c:(slicePicked z d e none).length=z.length:=by
   simp only[Bool.and_eq_true,beq_iff_eq]at g;exact g.2
  have B:(⟨(dz z.cps.toList a b).toArray⟩:Str)=z:=by
   unfold slicePicked at c;rw[m1,m2]at c;have c:(Builtin.Str.strSliceIndices a b 1 z.length).length=z.length:=c;rw[kO,List.length_map,List.length_range]at c;have O:=HT.ri z.length z.length (Nat.le_refl _) b;have f:z.cps.toList.length=z.length:=by simp[Str.length]
   have C:dz z.cps.toList a b=z.cps.toList:=by
    unfold dz;rw[f]
    by_cases D:z.length=0
    .have:z.cps.toList=[]:=List.eq_nil_of_length_eq_zero (by rw[f];exact D)
     rw[this];simp
    .have E:HT.gR z.length 0 a=0:=by omega
     rw[E,List.drop_zero,List.take_of_length_le (by rw[f];omega)]
   rw[C]
  refine⟨.str z,H,I,⟨t,rfl⟩,?_⟩;rw[B]at q;exact q
 .rw[A]
  refine⟨?_,.str _,H,I.tok _,⟨_,rfl⟩,q⟩
  show(dz z.cps.toList a b).toArray.size<=sizeLine
  rw[List.size_toArray];omega
def GI(K:PySem.W.Frag):V->Option Int->Option Int->Hp->VK->Prop:=λx a b H Q=>Gx K x a b H Q\/GH x a b H Q
end
noncomputable def kQ(F:List D->Out Rs):Sp:=λg H Q _=>
 ∃Z e b d,(∀a,Z a->H a≠none)/\aX Z H e g/\F e=.ok (b,d)/\∀v c f,eG Z H f c->ee false b f H c d v->Q v c
theorem ee.weak{bw a:Bool}{Z:Addr->Prop}{c H:Hp}{d:D}{v:V}(h:ee false a Z c H d v):ee bw a Z c H d v:=by
 unfold ee at h ⊢;split
 .rename_i b;rw[if_pos b]at h;exact h
 .rename_i b;rw[if_neg b,if_neg Bool.false_ne_true]at h
  split
  .exact h.now
  .exact h
section
variable{X:Cx}{Γ:mf}{bw:Bool}{a b e:Expr}{es:List Expr}{ca cb cc c cs:Ex}{pos p:Pos}
structure GJ(X:Cx)(k:Nat)(x:Str)(F:List D->Out Rs):Prop where
 ex:∃(f:Addr) (fd:FuncData) (ps:List Str),X.mg x=some (.ref f)/\PySem.W.keepIn X.K (.ref f)=true/\Binds X.K fd ps []/\cH X.prog X.w X.K X.mg X.base mH k f fd ps (kQ F)
inductive eH (h:Heap):Value->Bool->Prop where
 |non:eH h .none false
 |bl (b:Bool):eH h (.bool b) b
 |int (i:Int) (t:Tok):eH h (.int i t) (i != 0)
 |str (x:Str) (t:Tok):x.length<=sizeLine->eH h (.str x t) ((x.length:Int) != 0)
 |lst {l:Addr}{its:Array Value}:h.IsList l its->its.size<=sizeLine->eH h (.ref l) (!its.isEmpty)
 |tup {l:Addr}{its:Array Value}:IsTup h l its->its.size<=sizeLine->eH h (.ref l) (!its.isEmpty)
theorem eH.keep{h h':Heap}{u:Value}{t:Bool}(k:∀b o,(u=.ref b)->h.get? b=some o->h'.get? b=some o)(x:eH h u t):eH h' u t:=by
 cases x with
 |non=>exact .non
 |bl=>exact .bl _
 |int i t=>exact .int i t
 |str x t z=>exact .str x t z
 |lst q z=>obtain⟨o,a,c⟩:=q;exact .lst ⟨o,k _ o rfl a,c⟩ z
 |tup q z=>obtain⟨o,a,c⟩:=q;exact .tup ⟨o,k _ o rfl a,c⟩ z
theorem eH.run{prog:Program}{w:World}{A:Around}{E:Value->Shared->Prop}{s:Shared}{u:Value}{t:Bool}{Q:Bool->Shared->Prop}(x:eH s.heap u t)(q:∀a,Q t {s with toks:=a}):wpAny (model prog w) A (truthy u) Q E s:=by
 have b:=gp;cases x with
 |non=>exact truthy_none (q s.toks)
 |bl=>exact wpAny_truthy_bool (q s.toks)
 |int i t=>exact PySem.P.truthy_int (q s.toks)
 |str x t z=>exact PySem.P.truthy_str (by omega) (q _)
 |lst h z=>exact wpAny_truthy_list h (by omega) (q _)
 |tup h z=>exact truthy_tuple h (by omega) (q _)
theorem w9{pins:List (Addr×Obj)}{w:L2.St}{H:Hp}{s:Shared}{Z:Addr->Prop}{d:D}{v:V}{u:Value}{t:Bool}(I:Inv X pins w H s)(n:Now Z H d v)(r:RelV v u)(h:jQ d=some t):eH s.heap u t:=by
 cases d with
 |non=>cases fK n;cases r;cases h;exact .non
 |bl b=>cases ib n;cases r;cases h;exact .bl _
 |int b=>cases bB n;obtain⟨k,rfl⟩:=r;cases h;exact .int _ _
 |str b=>
  cases c8 n;obtain⟨k,rfl⟩:=r;simp only[jQ]at h;split at h
  .rename_i x
   cases h
   have e:((b.length:Int) != 0)=(b.length != 0):=by
    rw[Bool.eq_iff_iff];simp only[bne_iff_ne,ne_eq];omega
   rw[←e];exact .str b k (bC x)
  .cases h
 |lst f=>
  obtain⟨a,i,rfl,j,l⟩:=c9 n;cases r;cases h;obtain⟨c,g,p,m⟩:=I.list (kK (K:=X.K) j)
  have e:(!f.isEmpty)=!c.toArray.isEmpty:=by
   have o:=l.length;have q:=g.length;cases f<;>cases i<;>cases c<;>simp at o q ⊢
  rw[e];exact .lst p.isList (by rw[List.size_toArray,←g.length];exact m)
 |tup f=>
  obtain⟨a,i,rfl,_,j,l⟩:=fL n;cases r;cases h;obtain⟨c,g,p,m⟩:=I.tuple (uX (K:=X.K) j)
  have e:(!f.isEmpty)=!c.toArray.isEmpty:=by
   have o:=l.length;have q:=g.length;cases f<;>cases i<;>cases c<;>simp at o q ⊢
  rw[e];exact .tup p (by rw[List.size_toArray,←g.length];exact m)
 |dct y f=>cases h
 |ref k=>cases h
section
variable{prog:Program}{w:World}{A:Around}{R:Result->Shared->Prop}{J:Addr}{fp wr:List Addr}{n:Nat}{P:Nat->Value->Prop}{T:Nat->Heap->Prop}
theorem w_(W:Walks prog w A.in1 J fp wr n P T)(f:Nat->Bool)(G:Heap->Prop)(B:∀h h':Heap,G h->(∀b o,b∉wr->h.get? b=some o->h'.get? b=some o)->G h')
  (C:∀i v (h:Heap),P i v->G h->eH h v (f i)):∀(m i:Nat) (s:Shared),n - i=m->i<=n->T i s.heap->G s.heap ->
  (∀h' c,(∀b o,b∉wr->s.heap.get? b=some o->h'.get? b=some o)->R (.ok (.ret (.bool (((List.range n).drop i).all f)))) {s with heap:=h',toks:=c}) ->
  codeAny (model prog w) A (.builtin "all.loop" ⟨[.ref J],[]⟩) R s:=by
 intro m
 induction m with
 |zero=>
  intro i s D E j g a;obtain rfl:i=n:=by omega
  refine codeAny_builtin PySem.F.entry_all_loop ?_;rw[Around.under_plainId PySem.F.plain_all_loop _];refine wpAny_bind (m:=pyNext (.ref J)) (W.done s _ _ j λh' c d=>wpAny_bind (wpAny_rule (wpAny_pure ?_)))
  have q:=a h' c d;rw[List.drop_of_length_le (by simp)]at q
  exact q
 |succ m H=>
  intro i s D E j g a;have k:i<n:=by omega
  have u:(List.range n).drop i=i::(List.range n).drop (i+1):=by
   rw[List.drop_eq_getElem_cons (by simpa using k)];simp
  refine codeAny_builtin PySem.F.entry_all_loop ?_;rw[Around.under_plainId PySem.F.plain_all_loop _];refine wpAny_bind (m:=pyNext (.ref J)) (W.item i s _ _ k j λv h' c I l d=>?_)
  have x:G h':=B _ _ g d;refine wpAny_bind (wpAny_holding ((C i v h' I x).run (s:={s with heap:=h',toks:=c}) λp=>?_))
  refine wpAny_bind (wpAny_letGo ?_);cases e:f i with
  |true=>
   simp only[if_true];refine wpAny_pure ⟨plainId_quiet PySem.F.plain_all_loop _,H (i+1) _ (by omega) k l x λK r t=>?_⟩
   have q:=a K r λb o y z=>t b o y (d b o y z)
   rw[u,List.all_cons,e,Bool.true_and]at q;exact q
  |false=>
   simp only[Bool.false_eq_true,if_false];refine wpAny_bind (wpAny_rule (wpAny_pure ?_));have q:=a h' p d;rw[u,List.all_cons,e,Bool.false_and]at q;exact q
theorem xa(W:Walks prog w A.in1 J fp wr n P T)(f:Nat->Bool)(G:Heap->Prop)(B:∀h h':Heap,G h->(∀b o,b∉wr->h.get? b=some o->h'.get? b=some o)->G h')
  (C:∀i v (h:Heap),P i v->G h->eH h v (f i)):∀(m i:Nat) (s:Shared),n - i=m->i<=n->T i s.heap->G s.heap ->
  (∀h' c,(∀b o,b∉wr->s.heap.get? b=some o->h'.get? b=some o)->R (.ok (.ret (.bool (((List.range n).drop i).any f)))) {s with heap:=h',toks:=c}) ->
  codeAny (model prog w) A (.builtin "any.loop" ⟨[.ref J],[]⟩) R s:=by
 intro m
 induction m with
 |zero=>
  intro i s D E j g a;obtain rfl:i=n:=by omega
  refine codeAny_builtin PySem.F.entry_any_loop ?_;rw[Around.under_plainId PySem.F.plain_any_loop _];refine wpAny_bind (m:=pyNext (.ref J)) (W.done s _ _ j λh' c d=>wpAny_bind (wpAny_rule (wpAny_pure ?_)))
  have q:=a h' c d;rw[List.drop_of_length_le (by simp)]at q
  exact q
 |succ m H=>
  intro i s D E j g a;have k:i<n:=by omega
  have u:(List.range n).drop i=i::(List.range n).drop (i+1):=by
   rw[List.drop_eq_getElem_cons (by simpa using k)];simp
  refine codeAny_builtin PySem.F.entry_any_loop ?_;rw[Around.under_plainId PySem.F.plain_any_loop _];refine wpAny_bind (m:=pyNext (.ref J)) (W.item i s _ _ k j λv h' c I l d=>?_)
  have x:G h':=B _ _ g d;refine wpAny_bind (wpAny_holding ((C i v h' I x).run (s:={s with heap:=h',toks:=c}) λp=>?_))
  refine wpAny_bind (wpAny_letGo ?_);cases e:f i with
  |false=>
   simp only[Bool.false_eq_true,if_false];refine wpAny_pure ⟨plainId_quiet PySem.F.plain_any_loop _,H (i+1) _ (by omega) k l x λK r t=>?_⟩
   have q:=a K r λb o y z=>t b o y (d b o y z)
   rw[u,List.any_cons,e,Bool.false_or]at q;exact q
  |true=>
   simp only[if_true];refine wpAny_bind (wpAny_rule (wpAny_pure ?_));have q:=a h' p d;rw[u,List.any_cons,e,Bool.true_or]at q;exact q
end
theorem nV:∀{ds:List D}{bs:List Bool},ft ds=some bs->bs.length=ds.length
 |[],_,h=>by cases h;rfl
 |d::ds,bs,h=>by
  simp only[ft]at h;split at h
  .rename_i b a h1 h2
   cases h;rw[List.length_cons,List.length_cons,nV h2]
  .cases h
theorem sZ:∀{ds:List D}{bs:List Bool}{i:Nat}{d:D},ft ds=some bs->ds[i]?=some d->∃b,bs[i]?=some b/\jQ d=some b
 |[],_,_,_,_,h=>by simp at h
 |d::ds,bs,i,j,h,a=>by
  simp only[ft]at h;split at h
  .rename_i b e h1 h2
   cases h;cases i with
   |zero=>simp at a;subst a;exact⟨b,rfl,h1⟩
   |succ i=>
    obtain⟨c,f,g⟩:=sZ (i:=i) h2 (by simpa using a)
    exact⟨c,by simpa using f,g⟩
  .cases h
theorem all_range:∀(bs:List Bool),((List.range bs.length).all λi=>(bs[i]?).getD true)=bs.all id
 |[]=>rfl
 |b::bs=>by
  rw[List.length_cons,List.range_succ_eq_map,List.all_cons,List.all_map,List.all_cons,←all_range bs];rfl
theorem any_range:∀(bs:List Bool),((List.range bs.length).any λi=>(bs[i]?).getD false)=bs.any id
 |[]=>rfl
 |b::bs=>by
  rw[List.length_cons,List.range_succ_eq_map,List.any_cons,List.any_map,List.any_cons,←any_range bs];rfl
def Md(K:PySem.W.Frag):List V->Hp->VK->Prop:=λb H Q=>∃Z a bs x,b=[x]/\Now Z H (.lst a) x/\ft a=some bs/\Q (.bl (bs.all id)) H
def Me(K:PySem.W.Frag):List V->Hp->VK->Prop:=λb H Q=>∃Z a bs x,b=[x]/\Now Z H (.lst a) x/\ft a=some bs/\Q (.bl (bs.any id)) H
theorem xb{pins:List (Addr×Obj)}{j:L2.St}{H:Hp}{s:Shared}{Z:Addr->Prop}{ds:List D}{vs:List V}{a:List Value}{bs:List Bool}(I:Inv X pins j H s)(d:aX Z H ds vs)(e:Vals vs a)(k:ft ds=some bs)(dflt:Bool) :
  ∀(i:Nat) (v:Value),a.toArray[i]?=some v->eH s.heap v ((bs[i]?).getD dflt):=by
 intro i v c;have c:a[i]?=some v:=by simpa using c
 obtain⟨l,m⟩:=List.getElem?_eq_some_iff.mp c;obtain⟨x,n,f⟩:=nT e l;have r:=d.length;have t:=e.length;have g:ds[i]?=some ds[i]:=by simp[show i<ds.length by omega]
 obtain⟨y,h,o⟩:=d.get g;rw[n]at h;cases h
 obtain⟨b,p,q⟩:=sZ k g;rw[p];rw[m]at f;exact w9 I o.now f q
theorem xc(t:X.calm=true):dB X (.builtin "all") (Md X.K):=by
 intro pins s G H J L Q I r h;obtain⟨Z,M,bs,x,rfl,w,j,q⟩:=h;obtain⟨u,rfl,y⟩:=vals1 r;obtain⟨l,N,rfl,B,k⟩:=c9 w;cases y;obtain⟨a,n,p,O⟩:=I.list (kK (K:=X.K) B);have c:l<s.heap.objs.size:=by obtain⟨_,e,_⟩:=p.isList;exact Heap.lt_size e
 have C:=xb I k n j true;refine call_function_tree PySem.F.kind_all PySem.F.plain_all PySem.F.entry_all (PySem.F.args_all1 _) ?_;unfold Builtin.«all»;refine wpAny_bind (m:=oneArg "all" _) (wpAny_pure (wpAny_bind (wpAny_pyIter_list p.isList ?_)))
 refine wpAny_pure ⟨plainId_quiet PySem.F.plain_all_loop _,w_ (Walks.list (A:=X.A.in1) (I.ok.hd t) s.heap.objs.size l (Nat.ne_of_lt c) a.toArray) (λi=>(bs[i]?).getD true)
  (λh=>∀b o,b≠s.heap.objs.size->s.heap.get? b=some o->h.get? b=some o) (λh h' g d b o f e=>d b o (by simpa using f) (g b o f e))
  (λi v h D g=>(C i v D).keep λb o e z=>g b o (Nat.ne_of_lt (Heap.lt_size z)) z) _ 0 _ rfl (Nat.zero_le _) ⟨⟨_,Heap.get?_push_size _ rfl,rfl,rfl⟩,p.isList.push _⟩ (λb o f e=>Heap.get?_push_of_some _ e) λh' E d=>?_⟩
 have e:((List.range a.toArray.size).drop 0).all (λi=>(bs[i]?).getD true)=bs.all id:=by
  rw[List.drop_zero,List.size_toArray,←n.length,k.length,←nV j];exact all_range bs
 rw[e]
 exact⟨.bl _,H,I.kept (h':=h') (t':=E) λb o z=>d b o (by
  have:=Nat.ne_of_lt (Heap.lt_size z);simpa using this) (Heap.get?_push_of_some _ z),rfl,q⟩
theorem xf(t:X.calm=true):dB X (.builtin "any") (Me X.K):=by
 intro pins s G H J L Q I r h;obtain⟨Z,M,bs,x,rfl,w,j,q⟩:=h;obtain⟨u,rfl,y⟩:=vals1 r;obtain⟨l,N,rfl,B,k⟩:=c9 w;cases y;obtain⟨a,n,p,O⟩:=I.list (kK (K:=X.K) B);have c:l<s.heap.objs.size:=by obtain⟨_,e,_⟩:=p.isList;exact Heap.lt_size e
 have C:=xb I k n j false;refine call_function_tree PySem.F.kind_any PySem.F.plain_any PySem.F.entry_any (PySem.F.args_any1 _) ?_;unfold Builtin.«any»;refine wpAny_bind (m:=oneArg "any" _) (wpAny_pure (wpAny_bind (wpAny_pyIter_list p.isList ?_)))
 refine wpAny_pure ⟨plainId_quiet PySem.F.plain_any_loop _,xa (Walks.list (A:=X.A.in1) (I.ok.hd t) s.heap.objs.size l (Nat.ne_of_lt c) a.toArray) (λi=>(bs[i]?).getD false)
  (λh=>∀b o,b≠s.heap.objs.size->s.heap.get? b=some o->h.get? b=some o) (λh h' g d b o f e=>d b o (by simpa using f) (g b o f e))
  (λi v h D g=>(C i v D).keep λb o e z=>g b o (Nat.ne_of_lt (Heap.lt_size z)) z) _ 0 _ rfl (Nat.zero_le _) ⟨⟨_,Heap.get?_push_size _ rfl,rfl,rfl⟩,p.isList.push _⟩ (λb o f e=>Heap.get?_push_of_some _ e) λh' E d=>?_⟩
 have e:((List.range a.toArray.size).drop 0).any (λi=>(bs[i]?).getD false)=bs.any id:=by
  rw[List.drop_zero,List.size_toArray,←n.length,k.length,←nV j];exact any_range bs
 rw[e]
 exact⟨.bl _,H,I.kept (h':=h') (t':=E) λb o z=>d b o (by
  have:=Nat.ne_of_lt (Heap.lt_size z);simpa using this) (Heap.get?_push_of_some _ z),rfl,q⟩
end
section
variable{X:Cx}{Γ:mf}{bw:Bool}{a b e:Expr}{es:List Expr}{ca cb cc c cs:Ex}{pos p:Pos}
noncomputable def kb.nm:kb->Str
 |.len=>"len" |.all=>"all" |.any=>"any" |.sorted=>"sorted" |.list=>"list" |.tuple=>"tuple" |.int=>"int" |.min=>"min" |.max=>"max" |.bool=>"bool"
theorem jm{Z:Addr->Prop}{H:Hp}{d:D}{v:V}{Q:VK}(b:∀a,Z a->H a≠none)(k:∀v c e,eG Z H e c->ee bw false e H c d v->Q v c)(h:f_ d=some v):Q v H:=
 k _ H Z (eG.refl b) (.rep (fu h))
noncomputable def Ty.nm:Ty->Str
 |.int=>"int" |.str=>"str" |.bool=>"bool" |.list=>"list" |.tuple=>"tuple" |.dict=>"dict"
noncomputable def Ty.id:Ty->String
 |.int=>"int" |.str=>"str" |.bool=>"bool" |.list=>"list" |.tuple=>"tuple" |.dict=>"dict"
theorem zV(t:Ty):bootBuiltins t.nm=some (.type t.id):=by cases t<;>decide +kernel
theorem zW(K:PySem.W.Frag)(t:Ty):PySem.W.kitOne K (.type "NoneType") (.type t.id)=some false/\PySem.W.kitOne K (.type "bool") (.type t.id)=some (t==.bool||t==.int)/\PySem.W.kitOne K (.type "int") (.type t.id)=some (t==.int) /\
  PySem.W.kitOne K (.type "str") (.type t.id)=some (t==.str)/\PySem.W.kitOne K (.type "list") (.type t.id)=some (t==.list)/\PySem.W.kitOne K (.type "tuple") (.type t.id)=some (t==.tuple)/\PySem.W.kitOne K (.type "dict") (.type t.id)=some (t==.dict):=by
 cases t<;>refine⟨?_,?_,?_,?_,?_,?_,?_⟩<;>with_unfolding_all rfl
def GK(K:PySem.W.Frag):List V->Hp->VK->Prop:=λa H Q=>∃Z d x t b,a=[x,.ty (Ty.id t)]/\Now Z H d x/\wO d t=some b/\Q (.bl b) H
theorem pH{K:PySem.W.Frag}{H:Hp}{a:Addr}{vs:List V}{X:Cx}{pins:List (Addr×Obj)}{c:L2.St}{s:Shared}(I:Inv X pins c H s)(h:Rd H a (.tup vs)):∃o,s.heap.get? a=some o/\o.cls=.type "tuple":=by
 obtain⟨_,b,_,o,d,e,_⟩:vs.length<=sizeLine/\∃b:List Value,Vals vs b/\IsTup s.heap a b.toArray:=Rd.ok h I.hok;exact⟨o,d,e⟩
theorem xg:dB X (.builtin "isinstance") (GK X.K):=by
 intro pins s y H M N Q I r h;obtain⟨Z,d,x,t,b,rfl,f,i,q⟩:=h;obtain⟨u,A,rfl,j,B⟩:=vals2 r;cases (show A=Value.type (Ty.id t)from B)
 obtain⟨C,D,E,F,n,G,J⟩:=zW X.K t;have e:∀l,EP X pins y Q (.bool b) {s with toks:=l}:=λl=>⟨.bl b,H,I.tok l,rfl,q⟩
 cases d with
 |non=>cases fK f;cases i;exact dX I j .non C e
 |bl c=>cases ib f;cases i;exact dX I j (.bl c) D e
 |int c=>cases bB f;cases i;exact dX I j (.int c) E e
 |str c=>cases c8 f;cases i;exact dX I j (.str c) F e
 |lst m=>
  obtain⟨a,p,rfl,g,w⟩:=c9 f;cases i;rcases g with g|⟨o,g⟩
  .exact dX I j (.lst g) n e
  .exact dX I j (.dg g) n e
 |tup m=>
  obtain⟨a,p,rfl,_,g,w⟩:=fL f;cases i;cases j;exact PySem.W.kia_one PySem.W.kitx_tuple I.je (pH (K:=X.K) I g) G (λz=>nomatch z) e
 |dct L m=>
  have f:Rep Z H (.dct L m) x:=f;simp only[Rep]at f;obtain⟨a,p,rfl,_,g,w⟩:=f;cases i;exact dX I j (.dK g) J e
 |ref k=>cases i
end
abbrev s_(a:List Expr)(env:Env):Sem Bool:=forIn a true λc r=>if r=true then do let ok ←isTrue c env (eval c env);pure (ForInStep.yield ok)else pure (ForInStep.yield r)
section
variable{prog:Program}{w:World}{A:Around}{R:Result->Shared->Prop}{s:Shared}
theorem uZ{a e iter:Expr}{b:List Expr}{scope:Scope}{pos:Pos}{it c:Value}{env:Env}(J:Nat->Shared->Prop)
  (d:∀n s,J n s->wpAny (model prog w) A (pyNext it) (λr f=>match r with
   |none=>R (.ok .next) f
   |some v=>wpAny (model prog w) A (letOwnedTupleGo e it v) (λ_ j=>wpAny (model prog w) A (assign e env v) (λ_ k=>wpAny (model prog w) A (s_ b env) (λok g=>
      if ok=true then wpAny (model prog w) A (eval a env) (λx l=>wpAny (model prog w) A (call (.builtin "list.append") [c,x]) (λ_ o=>∃m,m<n/\J m o) (λ_ _=>False) l) (λ_ _=>False) g
      else ∃m,m<n/\J m g) (λ_ _=>False) k) (λ_ _=>False) j) (λ_ _=>False) f) (λ_ _=>False) s)
  (n:Nat) (h:J n s):codeAny (model prog w) A (.compLoop (.ListComp a [⟨e,iter,b,0⟩] scope pos) 0 it c env) R s:=by
 refine codeAny_loop rfl J (λn s q=>?_) n h
 refine wpAny_noted (env:=env) (m:=compTurn (.ListComp a [⟨e,iter,b,0⟩] scope pos) 0 it c env) ?_;rw[compTurn_list];refine wpAny_bind (wpAny_standAt (wpAny_bind (wpAny_mono (d n s q) (λr f p=>?_) λ_ _ z=>z.elim)))
 cases r with
 |none=>exact wpAny_pure p
 |some v=>
  refine wpAny_bind (wpAny_mono p (λ_ j t=>wpAny_bind (wpAny_mono t (λ_ k u=>wpAny_bind (wpAny_mono u (λok g i=>?_) λ_ _ z=>z.elim)) λ_ _ z=>z.elim)) λ_ _ z=>z.elim)
  cases ok with
  |false=>exact wpAny_pure ⟨rfl,by simpa using i⟩
  |true=>
   rw[if_pos rfl]at i;refine wpAny_bind (wpAny_bind (wpAny_mono i (λx l y=>wpAny_bind (wpAny_mono y (λ_ o B=>?_) λ_ _ z=>z.elim)) λ_ _ z=>z.elim))
   exact wpAny_pure (wpAny_pure ⟨rfl,B⟩)
end
theorem rD{scope:Scope}{env:Env}(h:∀y∈scope.names,y.2=.free->∃c,env.cells.lookup y.1=some c) :
  ∃d,closureFor scope env=pure d/\(∀n c,(n,c)∈d->env.cells.lookup n=some c)/\∀y∈scope.names,y.2=.free->∃c,(y.1,c)∈d:=by
 have u:∀(l:List (Str×NameKind)) (b:List (Str×Addr)),(∀y∈l,y.2=.free->∃c,env.cells.lookup y.1=some c)->(∀n c,(n,c)∈b->env.cells.lookup n=some c) ->
   ∃d,(forIn l b λx r=>match x with | (name,kind)=>if (kind==NameKind.free)=true then do let a ←cellOf env name;pure (ForInStep.yield ((name,a)::r))else pure (ForInStep.yield r):Sem (List (Str×Addr)))=pure d /\
    (∀n c,(n,c)∈d->env.cells.lookup n=some c)/\(∀p∈b,p∈d)/\∀y∈l,y.2=.free->∃c,(y.1,c)∈d:=by
  intro l
  induction l with
  |nil=>intro b _ o;exact⟨b,rfl,o,λ_ w=>w,λ_ D=>absurd D (by simp)⟩
  |cons y l C=>
   intro b A o;obtain⟨n,k⟩:=y;cases g:(k==NameKind.free)with
   |false=>
    obtain⟨d,e,i,s,j⟩:=C b (λz hz=>A z (by simp[hz])) o
    refine⟨d,?_,i,s,λz hz f=>?_⟩
    .rw[List.forIn_cons]
     simp only[g,Bool.false_eq_true,if_false];exact e
    .rcases List.mem_cons.mp hz with rfl|hz
     .have:k=.free:=f
      rw[this]at g;exact absurd g (by decide)
     .exact j z hz f
   |true=>
    have B:k=.free:=by simpa using g
    obtain⟨c,t⟩:=A (n,k) (by simp) B
    obtain⟨d,e,i,s,j⟩:=C ((n,c)::b) (λz hz=>A z (by simp[hz])) (λE F G=>by
     rcases List.mem_cons.mp G with q|q
     .cases q;exact t
     .exact o E F q)
    refine⟨d,?_,i,λp w=>s p (by simp[w]),λz hz f=>?_⟩
    .rw[List.forIn_cons]
     simp only[g,if_true]
     have:cellOf env n=pure c:=by
      have t:env.cells.lookup n=some c:=t;unfold cellOf;rw[t]
     rw[this];exact e
    .rcases List.mem_cons.mp hz with rfl|hz
     .exact⟨c,s _ (by simp)⟩
     .exact j z hz f
 obtain⟨d,e,i,_,j⟩:=u scope.names [] h (λ_ _ z=>absurd z (by simp))
 refine⟨d,?_,i,j⟩;unfold closureFor;have H:=congrArg (λm:Sem (List (Str×Addr))=>m >>= λr=>pure r) e
 exact H
noncomputable def blk(X:Cx)(scope:Scope)(a:List (Str×Addr))(C:Addr)(N:List Str)(s₀:Shared)(H₀:Hp)(fp:List Addr):Cx:=
 {X with N:=N,s₀:=s₀,H₀:=H₀,env:=compEnvC scope a C X.env,outer:=X.stack,stack:=X.stack,ex:=fp,fn:=λ_=>false,pn:=[],xe:=λ_ _=>False}
theorem lookup_mem{a b:Type}[BEq a][LawfulBEq a]:∀{l:List (a×b)}{x:a}{v:b},l.lookup x=some v->(x,v)∈l
 |[],_,_,h=>by simp at h
 | (n,k)::r,x,v,h=>by
  rw[List.lookup_cons]at h;cases e:x==n with
  |true=>rw[e]at h;cases h;rw[eq_of_beq e];simp
  |false=>rw[e]at h;exact List.mem_cons_of_mem _ (lookup_mem h)
theorem mem_lookup{a b:Type}[BEq a][LawfulBEq a]:∀{l:List (a×b)}{x:a}{v:b},(x,v)∈l->∃u,l.lookup x=some u
 |[],_,_,h=>by simp at h
 | (n,k)::r,x,v,h=>by
  rw[List.lookup_cons];cases e:x==n with
  |true=>exact⟨k,rfl⟩
  |false=>
   rcases List.mem_cons.mp h with q|q
   .cases q;simp at e
   .exact mem_lookup q
theorem eI{env:Env}:∀(names:List (Str×NameKind)) (x:Str),(names.map λ(n,k)=>if (k==NameKind.free&&env.scope.kind==.function&&env.kindOf n==some .cell)then (n,NameKind.cell)else (n,k)).lookup x =
  (names.lookup x).map λk=>if (k==NameKind.free&&env.scope.kind==.function&&env.kindOf x==some .cell)then NameKind.cell else k
 |[],_=>rfl
 | (n,k)::r,x=>by
  have c:=eI (env:=env) r x
  show List.lookup x ((if (k==NameKind.free&&env.scope.kind==.function&&env.kindOf n==some .cell)=true then (n,NameKind.cell)else (n,k))::_)=_
  cases b:x==n with
  |true=>
   obtain rfl:x=n:=eq_of_beq b
   by_cases a:(k==NameKind.free&&env.scope.kind==.function&&env.kindOf x==some .cell)=true
   .rw[if_pos a,List.lookup_cons,List.lookup_cons]
    simp only[b,Option.map_some,if_pos a]
   .rw[if_neg a,List.lookup_cons,List.lookup_cons]
    simp only[b,Option.map_some,if_neg a]
  |false=>
   by_cases a:(k==NameKind.free&&env.scope.kind==.function&&env.kindOf n==some .cell)=true
   .rw[if_pos a,List.lookup_cons,List.lookup_cons]
    simp only[b];exact c
   .rw[if_neg a,List.lookup_cons,List.lookup_cons]
    simp only[b];exact c
structure jD(X:Cx)(scope:Scope)(tn cn:List Str)(cap:List Nat):Prop where
 kind:scope.kind=.function
 cell:∀y∈scope.names,y.2≠.cell
 names:∀y∈scope.names,y.2=.local->scope.names.lookup y.1=some .local
 free:∀y∈scope.names,y.2=.free->X.env.kindOf y.1=some .cell\/X.env.kindOf y.1=some .free
 len:cn.length=cap.length
 at':∀(j i:Nat) (x:Str),cn[j]?=some x->cap[j]?=some i->X.N[i]?=some x/\scope.names.lookup x=some .free
noncomputable def pI(cap:List Nat)(a:L2.St):L2.St:=cap.map λi=>(a[i]?).join
def gc(a:Nat)(cap:List Nat)(b:L2.St):L2.St:=List.replicate a none++pI cap b
section
variable{X:Cx}{scope:Scope}{tn cn:List Str}{cap:List Nat}
theorem u9{pins:List (Addr×Obj)}{j:L2.St}{H:Hp}{s:Shared}{fp:List Addr}{D:List (Str×Addr)}{J:Heap}{tk:Nat}{m:Str->Option Value}(B:jD X scope tn cn cap)
  (I:Inv X pins j H s) (K:∀b∈fp,lZ X pins H b) (N:∀b∈fp,∃o,s.heap.get? b=some o) (w:∀n c,(n,c)∈D->X.env.cells.lookup n=some c) (c2:∀y∈scope.names,y.2=.free->∃c,(y.1,c)∈D)
  (L:∀b o,s.heap.get? b=some o->J.get? b=some o) (r:∃n,J.get? s.heap.objs.size=some {cls:=.type "list",data:=.seq ([]:List Value).toArray n}) (ns:J.Ns (s.heap.objs.size+1) m) :
  Inv (blk X scope D (s.heap.objs.size+1) (tn++cn) s H fp) [] (gc tn.length cap j) (upd H s.heap.objs.size (.lst [])) {s with heap:=J,toks:=tk}:=by
 have O:∀b o,s.heap.get? b=some o->b≠s.heap.objs.size+1:=λb o e=>Nat.ne_of_lt (Nat.lt_succ_of_lt (Heap.lt_size e))
 have P:∀b o,s.heap.get? b=some o->b≠s.heap.objs.size:=λb o e=>Nat.ne_of_lt (Heap.lt_size e)
 have cell:∀x c,D.lookup x=some c->∃v,s.heap.IsCell c v:=λx c e=>I.cell x c (w x c (lookup_mem e))
 have Q:∀x c,D.lookup x=some c->c≠s.heap.objs.size+1/\c≠s.heap.objs.size:=λx c e=>by
  obtain⟨v,o,A,_⟩:=cell x c e;exact⟨O c o A,P c o A⟩
 have R:∀b∈fp,b<s.heap.objs.size:=λb g=>let ⟨o,e⟩:=N b g;Heap.lt_size e
 have fr:=I.hok.fresh (Nat.le_refl s.heap.objs.size);obtain⟨nd,r⟩:=r
 refine⟨⟨I.ok.mod,B.kind,I.ok.glob,I.ok.blt,Nat.le_succ _,λx y c C a=>?_,λx f=>?_,λx c e _=>absurd (show false=true from e) Bool.false_ne_true,I.ok.hd,I.ok.frames,.inl rfl,λb g=>⟨?_,λx c e z=>?_⟩,λb o e=>I.bs b o e,Nat.le_trans I.ok.Ck I.sz,λb o e g=>?_,λb g S=>?_,I.stack,I.sN⟩,
  rfl,I.bare,?_,⟨m,ns,λi x v C a e3=>?_⟩,λx c e=>?_,?_,λx c e=>?_,λp hp=>absurd (show p∈([]:List (Addr×Obj))from hp) (by simp),?_,?_⟩
 .exact I.ok.inj x y c (w x c (lookup_mem C)) (w y c (lookup_mem a))
 .have f:(relabel scope X.env).names.lookup x=some .cell\/(relabel scope X.env).names.lookup x=some .free:=f
  unfold relabel at f;simp only[eI]at f;cases q:scope.names.lookup x with
  |none=>rw[q]at f;simp at f
  |some k=>
   rw[q]at f;have hm:=lookup_mem q
   have h:k=.free:=by
    by_cases h:k=.free
    .exact h
    .have T:(k==NameKind.free)=false:=by simpa using h
     rw[Option.map_some]at f;simp only[T,Bool.false_and,Bool.false_eq_true,if_false,Option.some.injEq]at f;rcases f with z|z
     .exact absurd z (B.cell _ hm)
     .exact z
   obtain⟨c,U⟩:=c2 _ hm h;exact mem_lookup U
 .exact Nat.ne_of_lt (Nat.lt_succ_of_lt (R b g))
 .exact(K b g).2.2.2.2.1 x c (w x c (lookup_mem e)) z
 .rcases(K b g).2.2.2.1 with z|z
  .exact I.ok.vV b o e z
  .exact absurd (Nat.lt_of_lt_of_le (Heap.lt_size (I.ok.bs b o e).1) z) (Nat.lt_irrefl _)
 .rcases List.mem_cons.mp (I.qS b S)with z|z
  .exact(K b g).2.1 z
  .exact(K b g).2.2.1 z
 .exact Un.laid L (Nat.le_refl _) fr
 .have E:i<tn.length->False:=λF=>by
   have:(gc tn.length cap j)[i]?=some none:=by
    unfold gc;rw[List.getElem?_append_left (by simpa using F),List.getElem?_replicate,if_pos F]
   rw[this]at a;cases a
  have F:tn.length<=i:=Nat.le_of_not_lt E;have C:(tn++cn)[i]?=some x:=C;rw[List.getElem?_append_right F]at C
  have d:(pI cap j)[i - tn.length]?=some (some v):=by
   unfold gc at a;rw[List.getElem?_append_right (by simpa using F)]at a
   simpa using a
  unfold pI at d;rw[List.getElem?_map]at d;cases q:cap[i - tn.length]? with
  |none=>rw[q]at d;cases d
  |some M=>
   rw[q]at d;have a:(j[M]?).join=some v:=by simpa using d
   have e4:j[M]?=some (some v):=by
    cases q2:j[M]? with
    |none=>rw[q2]at a;cases a
    |some z=>rw[q2]at a;cases z with
     |none=>cases a
     |some z=>cases a;rfl
   obtain⟨hN,t⟩:=B.at' _ _ _ C q;have h:=B.free _ (lookup_mem t) rfl;have h:X.env.kindOf x=some .cell\/X.env.kindOf x=some .free:=h
   have G:Fy X.env.scope x:=by
    rcases h with z|z
    .exact .inr (.inl z)
    .exact .inr (.inr z)
   obtain⟨m0,b0,V⟩:=I.loc;obtain⟨u,ru,Y⟩:=V M x v hN e4 G;refine⟨u,ru,.inr ⟨?_,?_⟩⟩
   .show(relabel scope X.env).names.lookup x=some .cell\/(relabel scope X.env).names.lookup x=some .free
    unfold relabel;simp only[eI,t,Option.map_some];split
    .exact .inl rfl
    .exact .inr rfl
   .have Y:∃c,X.env.cells.lookup x=some c/\s.heap.IsCell c (some u):=by
     rcases Y with ⟨z,_⟩|⟨_,z⟩
     .rcases h with y|y<;>rw[y]at z<;>cases z
     .exact z
    obtain⟨c,U,Z⟩:=Y;obtain⟨c',a0⟩:=c2 _ (lookup_mem t) rfl;obtain⟨c0,l⟩:=mem_lookup a0;have:=w _ _ (lookup_mem l);rw[U]at this;cases this
    obtain⟨o,A,r⟩:=Z;exact⟨c,l,o,L _ _ A,r⟩
 .obtain⟨v,o,A,r⟩:=cell x c e
  exact⟨v,o,L _ _ A,r⟩
 .show upd H s.heap.objs.size (.lst []) (s.heap.objs.size+1)=none
  rw[aF (Nat.succ_ne_self _)];exact I.hok.fresh (Nat.le_succ _)
 .refine⟨?_,λhz=>absurd (show false=true from hz) Bool.false_ne_true⟩
  rw[aF (Q x c e).2];exact(I.gm x c (w x c (lookup_mem e))).1
 .refine I.hok.laid L (Nat.le_refl _) ⟨Nat.zero_le _,[],nd,.nil,r⟩
 .show(gc tn.length cap j).length=(tn++cn).length
  unfold gc pI;rw[List.length_append,List.length_append,List.length_replicate,List.length_map,B.len]
def zX(X:Cx)(a:List Expr)(t:TT):Prop:=∀(pins:List (Addr×Obj)) (s:Shared) (b:L2.St) (H:Hp) (Q:Bool->Hp->Prop),Inv X pins b H s->t b H Q->wpAny (model X.prog X.w) X.A (s_ a X.env) (TP X pins b Q) X.xe s
theorem zY:zX X [] (λ_ H Q=>Q true H):=λpins s a H Q I h=>wpAny_pure ⟨H,I,h⟩
theorem zZ{c:Expr}{t:TT}(h:PT X c t):zX X [c] t:=λpins s a H Q I q=>wpAny_tests_one (h pins s a H Q I q)
def mJ(n:TI)(o:Nat)(cap:List Nat)(g:TG)(p:TT)(q:TE):TE:=λf H Q=>n f H λJ h=>∀D,h D=none->∃W:Nat->Nat->List V->Hp->Prop,(∃m,W 0 m [] (upd h D (.lst []))) /\
 ∀i m a c,W i m a c->c D=some (.lst a)/\((J.stop i c/\Q (.ref D) c)\/(J.go i c/\a.length<sizeLine/\∀x j,J.JZ i c x j->g x (gc o cap f) j λd r=>p d r λb k=>
  if b=true then q d k λy l=>l D=some (.lst a)/\∃e,e<m/\W (i+1) e (a++[y]) (upd l D (.lst (a++[y])))else ∃e,e<m/\W (i+1) e a k))
theorem mK{tg iter L:Expr}{M:List Expr}{pos Y:Pos}{wi:TI}{g:TG}{tc:TT}{te:TE}{use:Option (Value->Sem Unit)}{Q':Value->Shared->Prop}{Q:VK}{pins:List (Addr×Obj)}{d:L2.St}{H:Hp}{s:Shared}
  (hc:X.calm=true) (B:jD X scope tn cn cap) (hi:PI X tg iter wi) (hs:∀x,foldedSetIterable iter X.env x=pure x)
  (j0:∀v d H Q,g v d H Q->g v d H λN f=>Q N f/\N.length=d.length/\∀j,tn.length<=j->N[j]?=d[j]?)
  (a:∀k C l t fp,PG (blk X scope k C (tn++cn) l t fp) tg g/\zX (blk X scope k C (tn++cn) l t fp) M tc/\PE (blk X scope k C (tn++cn) l t fp) L te)
  (k0:∀(U:Shared) (f:Hp) (C D:Addr) (m:Str->Option Value),Inv X pins d f U->U.heap.Ns C m->f C=none->C≠X.env.locals->X.s₀.heap.objs.size<=C->(∀x c,X.env.cells.lookup x=some c->c≠C)->(∀p∈X.pn++pins,p.1≠C)->Q (.ref D) f ->
   compPost (model X.prog X.w) X.A X.xe use Q' (.ref D) C (.ok .next) U)
  (I:Inv X pins d H s) (h:mJ wi tn.length cap g tc te d H Q) :
  wpAny (model X.prog X.w) X.A (comprehension (.ListComp L [⟨tg,iter,M,0⟩] scope pos) scope X.env Y (newList []) false (eval iter X.env) use) Q' X.xe s:=by
 have l0:∀y∈scope.names,y.2=.free->∃c,X.env.cells.lookup y.1=some c:=λy hy hk=>I.ok.has y.1 (B.free y hy hk)
 obtain⟨k,o0,c1,c2⟩:=rD l0;refine wpAny_comprehension_free (use:=use) rfl hs o0 B.kind B.names ?_;refine cg (hi pins s d H _ I h) λv s1 O=>cg O λu0 s2 h2=>?_
 obtain⟨it,fp,P,J,E,e,R,T,Z,f2,h⟩:=h2;subst e;have fr:=R.hok.fresh (Nat.le_refl s2.heap.objs.size);obtain⟨W,⟨m0,w0⟩,a0⟩:=h s2.heap.objs.size fr;refine wpAny_newObj_type (wpAny_newFunctionEnv B.cell (λy hy=>absurd hy (by simp)) (λO ns sb=>?_) B.kind)
 have p0:(s2.heap.push {cls:=.type "list",dict:=none,data:=.seq ([]:List Value).toArray}).objs.size=s2.heap.objs.size+1:=Heap.size_push _ _;dsimp only at ns sb ⊢;rw[p0]at ns sb ⊢;have kp:∀b o,s2.heap.get? b=some o->O.get? b=some o:=λb o e=>sb.extBut b o (Nat.ne_of_lt (Nat.lt_succ_of_lt (Heap.lt_size e))) (Heap.get?_push_of_some _ (Heap.get?_push_of_some _ e))
 have hD:∃n,O.get? s2.heap.objs.size=some {cls:=.type "list",data:=.seq ([]:List Value).toArray n}:=⟨0,sb.extBut _ _ (Nat.ne_of_lt (Nat.lt_succ_self _)) (Heap.get?_push_of_some _ (Heap.get?_push_size _ rfl))⟩;have b0:∀b∈fp,∃o,s2.heap.get? b=some o:=λb a=>let ⟨o,e,_⟩:=T.obj 0 _ Z b a;⟨o,e⟩
 have I4:Inv (blk X scope k (s2.heap.objs.size+1) (tn++cn) s2 E fp) [] (gc tn.length cap d) (upd E s2.heap.objs.size (.lst [])) {s2 with heap:=O,toks:=s2.toks+([]:List (Str×Value)).length}:=
  u9 B R f2 b0 c1 c2 kp hD ns
 obtain⟨hg,ht,he⟩:=a k (s2.heap.objs.size+1) s2 E fp;have c0:P 0 O:=T.keep 0 _ _ Z λb a o e=>kp b o e
 have q0:∀b∈fp,upd E s2.heap.objs.size (.lst []) b=none:=λb a=>by
  obtain⟨o,e⟩:=b0 b a;rw[aF (Nat.ne_of_lt (Heap.lt_size e))];exact(f2 b a).1
 have F:∀{f:Hp}{pl:List (Addr×Obj)},(∀b∈fp,f b=none)->∀b∈fp,lZ (blk X scope k (s2.heap.objs.size+1) (tn++cn) s2 E fp) [] f b:=λhn b a=>
  ⟨hn b a,(I4.ok.JX b a).1,I4.ok.vW b a,.inl a,(I4.ok.JX b a).2,λp hp=>absurd (show p∈([]:List (Addr×Obj))from hp) (by simp)⟩
 have K:codeAny (model X.prog X.w) X.A (.compLoop (.ListComp L [⟨tg,iter,M,0⟩] scope pos) 0 (.ref it) (.ref s2.heap.objs.size) (compEnvC scope k (s2.heap.objs.size+1) X.env))
   (compPost (model X.prog X.w) X.A X.xe use Q' (.ref s2.heap.objs.size) (s2.heap.objs.size+1)) {s2 with heap:=O,toks:=s2.toks+([]:List (Str×Value)).length}:=by
  refine uZ (λn U=>∃i S f,Inv (blk X scope k (s2.heap.objs.size+1) (tn++cn) s2 E fp) [] (gc tn.length cap d) f U/\P i U.heap/\(∀b∈fp,f b=none)/\W i n S f) ?_ m0 ⟨0,[],_,I4,c0,q0,w0⟩
  rintro n s5 ⟨i,S,H5,I5,e0,g0,w5⟩;obtain⟨v0,r0⟩:=a0 i n S H5 w5;rcases r0 with ⟨stop,qn⟩|⟨go,h0,step⟩
  .refine cg (T.done (blk X scope k (s2.heap.objs.size+1) (tn++cn) s2 E fp) rfl rfl rfl hc i [] s5 _ H5 _ I5 (F (pl:=[]) g0) e0 stop) λr s6 ⟨hr,V⟩=>?_
   subst hr;obtain⟨mC,nC,_⟩:=V.loc
   have I7:Inv X pins d H5 s6:=by
    refine R.call' V.os V.base V.hok V.bare λb a=>?_
    obtain⟨f0,f1,f3,f4,f5,f6⟩:=f2 b a;exact⟨f4,f1,f5,f6⟩
   have hC:s2.heap.objs.size<=s2.heap.objs.size+1:=Nat.le_succ _;refine k0 s6 H5 (s2.heap.objs.size+1) s2.heap.objs.size mC I7 nC V.free (Nat.ne_of_gt (Nat.lt_of_lt_of_le R.lt hC)) (Nat.le_trans R.sz hC) (λx c e z=>?_) (λp hp z=>?_) qn
   .obtain⟨v,q⟩:=R.cell x c e
    exact absurd (Nat.lt_of_lt_of_le q.lt (by rw[z];exact hC)) (Nat.lt_irrefl _)
   .exact absurd (Nat.lt_of_lt_of_le (Heap.lt_size (R.pin p hp).1) (by rw[z];exact hC)) (Nat.lt_irrefl _)
  .refine cg (T.item (blk X scope k (s2.heap.objs.size+1) (tn++cn) s2 E fp) rfl rfl rfl hc i [] s5 _ H5 _ I5 (F (pl:=[]) g0) e0 go) λr s6 ⟨u,hr,h6⟩=>?_
   subst hr;refine cg h6 λ_ s7 ⟨x,H7,I7,r7,y7,Mf,Uw⟩=>?_
   have s0:=I7.pinned (F (pl:=[]) Uw) (T.obj _ _ Mf);refine cg (hg _ s7 _ H7 x u _ s0 r7 (j0 _ _ _ _ (step x H7 y7))) λ_ s8 ⟨G,H8,I8,q8,l8,k8⟩=>?_
   refine cg (ht _ s8 G H8 _ I8 q8) λok s9 ⟨H9,I9,q9⟩=>?_
   have again:∀{sA:Shared}{HA:Hp},Inv (blk X scope k (s2.heap.objs.size+1) (tn++cn) s2 E fp) ([]++kB fp s7.heap) G HA sA->Inv (blk X scope k (s2.heap.objs.size+1) (tn++cn) s2 E fp) [] (gc tn.length cap d) HA sA/\P (i+1) sA.heap/\∀b∈fp,HA b=none:=λ{sA HA} IA=>by
    refine⟨(IA.iy (pins:=[])).weak l8.symm λj v hj=>?_,T.keep _ _ _ Mf λb a o e=>(IA.pin (b,o) (List.mem_append_right _ (List.mem_append_right _ (fI a e)))).1,λb a=>?_⟩
    .have t0:tn.length<=j:=by
      refine Nat.le_of_not_lt λi0=>?_
      have:(gc tn.length cap d)[j]?=some none:=by
       unfold gc;rw[List.getElem?_append_left (by simpa using i0),List.getElem?_replicate,if_pos i0]
      rw[this]at hj;cases hj
     rw[k8 j t0];exact hj
    .obtain⟨o,e,_⟩:=T.obj _ _ Mf b a
     exact(IA.pin (b,o) (List.mem_append_right _ (List.mem_append_right _ (fI a e)))).2.1
   cases ok with
   |false=>
    rw[if_neg Bool.false_ne_true]at q9 ⊢;obtain⟨m',hm,w'⟩:=q9;obtain⟨a1,a2,a3⟩:=again I9;exact⟨m',hm,i+1,S,H9,a1,a2,a3,w'⟩
   |true=>
    rw[if_pos rfl]at q9 ⊢;refine cg (he _ s9 G H9 _ I9 q9) λy sB ⟨v,HB,IB,rB,Ux,m',hm,w'⟩=>?_
    have hx:=mD (X:=blk X scope k (s2.heap.objs.size+1) (tn++cn) s2 E fp) _ sB G HB (.ref s2.heap.objs.size) [v] (.ref s2.heap.objs.size) [y] (λ_ f=>f=upd HB s2.heap.objs.size (.lst (S++[v]))) IB rfl (.cons rB .nil)
     ⟨s2.heap.objs.size,S,v,rfl,rfl,Ux,h0,rfl⟩
    refine cg hx λ_ sC ⟨_,HC,IC,_,eC⟩=>?_
    subst eC;obtain⟨a1,a2,a3⟩:=again IC;exact⟨m',hm,i+1,S++[v],_,a1,a2,a3,w'⟩
 exact codeAny_compStart_list K (T.self X.A 0 _ _ _ c0 K)
theorem z8{l iter f:Expr}{i:List Expr}{pos:Pos}{t:TI}{g:TG}{u:TT}{w:TE}(y:X.calm=true)(B:jD X scope tn cn cap)(z:PI X l iter t)(A:∀x,foldedSetIterable iter X.env x=pure x)
  (n:∀v k H Q,g v k H Q->g v k H λd p=>Q d p/\d.length=k.length/\∀j,tn.length<=j->d[j]?=k[j]?)
  (E:∀r C a c fp,PG (blk X scope r C (tn++cn) a c fp) l g/\zX (blk X scope r C (tn++cn) a c fp) i u/\PE (blk X scope r C (tn++cn) a c fp) f w) :
  PE X (.ListComp f [⟨l,iter,i,0⟩] scope pos) (mJ t tn.length cap g u w):=by
 intro pins s k H Q I h;rw[eval_ListComp];refine mK (use:=none) y B z A n E (λF p C D m G J K L M N O q=>⟨m,J,λS P=>?_⟩) I h
 exact⟨.ref D,p,G.turned (it:=C) (t':=F.toks) (λb o R e=>P.extBut b o R e) K L (.inr M) N O,rfl,q⟩
theorem rE{r iter k:Expr}{l:List Expr}{pos c n:Pos}{O:TI}{g:TG}{P:TT}{R:TE}{i:Nat}{x:Str}(Y:X.N.Nodup)(u:X.N[i]?=some x)(S:X.env.scope.names.lookup x=some .local)
  (y:swapsWith (.ListComp k [⟨r,iter,l,0⟩] scope pos) (some (.Name x c)) n.line X.env=pure true) (Z:X.calm=true) (B:jD X scope tn cn cap) (hi:PI X r iter O) (hs:∀x,foldedSetIterable iter X.env x=pure x)
  (E:∀v t H Q,g v t H Q->g v t H λp F=>Q p F/\p.length=t.length/\∀j,tn.length<=j->p[j]?=t[j]?)
  (hb:∀G C d f fp,PG (blk X scope G C (tn++cn) d f fp) r g/\zX (blk X scope G C (tn++cn) d f fp) l P/\PE (blk X scope G C (tn++cn) d f fp) k R) :
  PS X (.Assign [.Name x c] (.ListComp k [⟨r,iter,l,0⟩] scope pos) n) (Dn (mJ O tn.length cap g P R) (hY i)):=by
 intro pins s t H D I h;rw[exec_Assign_Name_used _ _ _ _ y];refine wpAny_bind (wpAny_standAt (wpAny_bind ?_));refine wpAny_bind (m:=comprehension (.ListComp k [⟨r,iter,l,0⟩] scope pos) scope X.env _ (newList []) false (eval iter X.env) (some (assign (.Name x c) X.env))) ?_;refine mK (use:=some (assign (.Name x c) X.env)) (Q':=λ_ J=>wpAny (model X.prog X.w) X.A (pure ()) (λ_ K=>wpAny (model X.prog X.w) X.A (pure Flow.next) (SP X pins D) X.xe K) X.xe J) Z B hi hs E hb (λJ F C T m I' ns h1 U h3 V h5 q=>?_) I h
 show wpAny (model X.prog X.w) X.A (assign (.Name x c) X.env (.ref T)) _ _ J
 refine wpAny_assign_Name (mr I' Y u (.inl S) (v:=.ref T) rfl (λs2 I2 ch=>?_) (.inr S))
 obtain⟨a,sb,ha⟩:=ch
 have L:C≠a:=by
  rcases ha with rfl|ha
  .exact U
  .exact λz=>V _ _ ha z.symm
 refine⟨m,ns.sameBut sb L,λh' M=>wpAny_pure (wpAny_pure ?_)⟩
 exact⟨_,F,I2.turned (it:=C) (t':=s2.toks) (λb o nb e=>M.extBut b o nb e) h1 U (.inr h3) V h5,q⟩
end
theorem PI.imp{X:Cx}{b e:Expr}{t t':TI}(h:PI X b e t)(i:∀a H R,t' a H R->t a H R):PI X b e t':=λpins s a H R I q=>h pins s a H R I (i a H R q)
section
variable{Z:Addr->Prop}{H:Hp}
theorem kR:∀(n:Nat) (a:Int),(intsFrom a n).length=n
 |0,_=>rfl
 |n+1,a=>by rw[intsFrom,List.length_cons,kR n]
theorem ints_get:∀(n:Nat) (a:Int) (i:Nat) (d:D),(intsFrom a n)[i]?=some d->d=.int (a+i)
 |0,_,_,_,h=>by simp[intsFrom]at h
 |n+1,a,0,d,h=>by simp[intsFrom]at h;subst h;simp
 |n+1,a,i+1,d,h=>by
  simp only[intsFrom,List.getElem?_cons_succ]at h;rw[ints_get n (a+1) i d h]
  congr 1
  omega
noncomputable def RV(x:Str):It:=⟨λi _=>i<x.cps.size,λi H v a=>a=H/\∃c,x.cps[i]?=some c/\v=.str ⟨#[c]⟩,λi _=>x.cps.size<=i⟩
end
theorem xh{P:Program}{w:World}{K:PySem.W.Frag}{U:Expr}(it:Addr)(x:Str)(t:Tok)(j:String)(f:j="str_ascii_iterator"\/j="str_iterator"):Turn P w K U (RV x) [it] it (λi h=>h.IsStrIter it j x t i) where
 mem:=by simp
 obj:=λi h a b g=>by
  obtain rfl:b=it:=by simpa using g
  obtain⟨o,e,c,d⟩:=a;exact⟨o,e,λv z=>by rw[d]at z;cases z⟩
 keep:=λi h l a k=>let ⟨o,e,r⟩:=a;⟨o,k it (by simp) o e,r⟩
 item:=by
  intro X J L M m i pins s R H E I y a N;subst J L M;obtain⟨B,C,V,D,F,G⟩:=y it (by simp)
  have W:Walks X.prog X.w X.A it [it] [it] x.cps.size (SignAt x) (λi h=>h.IsStrIter it j x t i):=by
   rcases f with rfl|rfl
   .exact Walks.strAscii (I.ok.hd m) it x t
   .exact Walks.strWide (I.ok.hd m) it x t
  refine W.item i s _ _ N a λv l S Y p Z=>?_
  obtain⟨c,u,hx,rfl⟩:=Y;have I1:Inv X pins R H {s with heap:=l,toks:=S}:=I.turned (λb o g e=>Z b o (by simpa using g) e) B C D F G
  obtain⟨o,e,q,d⟩:=id p;refine⟨_,rfl,mu (s:={s with heap:=l,toks:=S}) (n:=j) e q d (by rcases f with rfl|rfl<;>decide) ⟨.str ⟨#[c]⟩,H,I1,⟨u,rfl⟩,⟨rfl,c,hx,rfl⟩,p,λb g=>(y b g).1⟩⟩
 done:=by
  intro X J L M m i pins s R H E I y a N;subst J L M;obtain⟨B,C,V,D,F,G⟩:=y it (by simp)
  have T:x.cps.size<=i:=N;rcases f with rfl|rfl
  .exact wpAny_pyNext_ascii_end (I.ok.hd m) a (by simp[T]) λl O=>⟨rfl,I.turned (t':=s.toks) (λb o g e=>O b o g e) B C D F G⟩
  .exact wpAny_pyNext_wide_end (I.ok.hd m) a (by simp[T]) λl O=>⟨rfl,I.turned (t':=s.toks) (λb o g e=>O b o g e) B C D F G⟩
 self:=λA i s Q E a h=>by
  rcases f with rfl|rfl
  .exact wpAny_pyIter_striter_ascii a h
  .exact wpAny_pyIter_striter_wide a h
section
variable{X:Cx}{Γ:mf}{bw:Bool}{tg e:Expr}{c cs:Ex}{pos p:Pos}
end
section
variable{X:Cx}{Γ:mf}{bw:Bool}{tg iter elt:Expr}{ifs:List Expr}{scope:Scope}{tn cn:List Str}{cap:List Nat}{Uy cc Wz:Ex}{pos:Pos}{n:Nat}
theorem jE(n:Nat)(d:0<n):∀v b H Q,hY 0 v b H Q->hY 0 v b H λa c=>Q a c/\a.length=b.length/\∀j,n<=j->a[j]?=b[j]?:=λv b H Q h=>⟨h,by simp,λj e=>by
 rw[List.getElem?_set_ne];omega⟩
end
theorem PS.imp{X:Cx}{st:Stmt}{t t':TS}(h:PS X st t)(i:∀D a H,t' D a H->t D a H):PS X st t':=λpins s a H D I q=>h pins s a H D I (i D a H q)
theorem jN.imp{X:Cx}{st:List Stmt}{t t':TS}(h:jN X st t)(i:∀D a H,t' D a H->t D a H):jN X st t':=λpins s a H D I q=>h pins s a H D I (i D a H q)
section
variable{X:Cx}{Γ:mf}{e:Expr}{c:Ex}{st:Stmt}{rest:List Stmt}{a b:RW}{pos pos':Pos}
end
section
variable{Z0 Z1 Z:Addr->Prop}{H0 H1 H:Hp}{ρ:zQ}{σ:L2.St}
end
section
variable{X:Cx}{Γ:mf}{tg e:Expr}{c:Ex}{b:RW}{tb:List Stmt}{pos pos':Pos}
def jn:List Nat->Cm
 |[]=>F9
 |i::a=>Cn (hY i) (jn a)
theorem mL{nms:List (Str×Pos)}(b:X.N.Nodup):∀(a:List Nat) (nms:List (Str×Pos)),a.length=nms.length->(∀(j i:Nat) (x:Str×Pos),a[j]?=some i->nms[j]?=some x->X.N[i]?=some x.1/\Loc X.env.scope x.1/\(X.fn x.1=true\/X.env.scope.names.lookup x.1=some .local)) ->
  F8 X (nms.map λx=>Expr.Name x.1 x.2) (jn a)
 |[],[],_,_=>zt
 |[],_::_,h,_=>by cases h
 |_::_,[],h,_=>by cases h
 |i::a,(x,c)::nms,d,h=>by
  obtain⟨h1,h2,e⟩:=h 0 i (x,c) rfl rfl;exact v8 (nt b h1 h2 e) (mL (nms:=nms) b a nms (by simpa using d) λj i x f g=>h (j+1) i x (by simpa using f) (by simpa using g))
end
section
variable{X:Cx}{Γ:mf}{e o:Expr}{c:Ex}{i j:Nat}{x y:Str}{p0 p1 p2 p3 p4 p5 pos:Pos}
def tf:V->List V->Hp->VK->Prop:=λx b H Q=>∃l a k y,x=.ref l/\b=[.int k,y]/\H l=some (.lst a) /\ -(2 ^ 63)<=k/\k<2 ^ 63/\a.length<sizeLine/\Q .non (upd H l (.lst (nN a k y)))
end
theorem pJ{X:Cx}{pins:List (Addr×Obj)}{l:L2.St}{H:Hp}{s:Shared}{h':Heap}{t':Nat}{fp:List Addr}{a:Addr}{o:HO}(I:Inv X pins l H s)(i:∀b∈fp,lZ X pins H b)
  (k:∀b o,b∉fp->s.heap.get? b=some o->h'.get? b=some o) (p:s.heap.objs.size<=a) (j:bN X.prog X.w (upd H a o) h' a o):Inv X pins l (upd H a o) {s with heap:=h',toks:=t' }:=by
 have t:=I.hok.fresh p;have f:∀b u,H b=some u->b∉fp:=λb u e z=>by rw[(i b z).1]at e;cases e
 have g:∀b u,H b=some u->upd H a o b=some u:=λb u e=>by rw[aF (bb e t)];exact e
 refine I.step (g':=s.gens) (d':=s.drawn) (ch:=fp) (λb h=>?_) (λb o _ _ d e _=>k b o d e) (λb o _ _ d e _=>⟨o.slots,k b o d e⟩) (λb u _ e n=>?_)
  (λb o d e=>⟨o,k b o d e⟩) (λb G e=>g b _ e) (λb u v e=>g b _ e) (λb J e=>⟨#[],by rw[g b _ e];simp⟩) (λm x=>?_) (λb u e=>?_) I.bare
 .obtain⟨K,y,L,A,B,C⟩:=i b h
  exact⟨A,y,B,C⟩
 .have:b≠a:=λz=>absurd (Heap.lt_size e) (by rw[z];exact Nat.not_lt.mpr p)
  rw[aF this];exact n
 .obtain⟨o,D,E,F,r⟩:=x
  exact⟨o,D,E,k _ o (λz=>(i _ z).2.1 rfl) F,r⟩
 .by_cases h:b=a
  .subst h
   rw[aR]at e;cases e
   exact j
  .rw[aF h]at e
   refine(I.hok b u e).stay (λc v d q=>k c v ?_ q) (λc q=>g c _ q) λc _ q=>g c _ q
   rcases d with z|z
   .rw[z];exact f b u e
   .exact f c _ z
def RX(K:PySem.W.Frag)(a:Addr):It:=
 ⟨λi H=>∃b x,j8 K H a b/\b[i]?=some x,λi H x c=>∃p,x=.ref p/\H p=none/\∀b,j8 K H a b->∃v,b[i]?=some v/\c=upd H p (.tup [.int i,v]),λi H=>∃b,j8 K H a b/\b.length<=i⟩
theorem u_{P:Program}{w:World}{K:PySem.W.Frag}{r:List Expr}{x1:Nat}{t:Pos}(a e it:Addr)(y:e≠it) :
  Turn P w K (.Tuple r x1 t) (RX K a) [e,it] e (λi h=>(∃g,IsEnum h e it i g)/\h.IsListIter it a i) where
 mem:=by simp
 obj:=λi h l b m=>by
  obtain⟨⟨g,f⟩,o,e2,c,d⟩:=l;rcases List.mem_cons.mp m with z|z
  .subst z
   exact⟨_,f,λv z=>by
    have z':Data.fields _=Data.cell v:=z;cases z'⟩
  .have z:b=it:=by simpa using z
   subst z;exact⟨o,e2,λv z=>by rw[d]at z;cases z⟩
 keep:=λi h h' l k=>by
  obtain⟨⟨g,f⟩,j⟩:=l;exact⟨⟨g,k e (by simp) _ f⟩,j.at λo q=>k it (by simp) o q⟩
 item:=by
  intro X D F G Y i pins s σ H E I B l J;subst D F G;obtain⟨xs,x,C,L⟩:=J;obtain⟨⟨g,f⟩,j⟩:=l;obtain⟨M,N,p,hz⟩:=I.list C;obtain⟨u,hu,ru⟩:=N.get L;refine wpAny_pyNext_enum_item f j p.isList (x:=u) (by simpa using hu) y λh' so si tu sz kp=>?_
  refine⟨_,rfl,wpAny_letOwnedTupleGo_enum (s:={s with heap:=h',toks:=s.toks+1}) so λn se O=>?_⟩
  have Q:∀b o,b∉[e,it]->s.heap.get? b=some o->n.get? b=some o:=λb o m q=>by
   have Z:b≠e:=λz=>m (by simp[z])
   have h3:b≠it:=λz=>m (by simp[z])
   exact O.extBut b o Z (kp b o Z h3 q)
  have A:e<s.heap.objs.size:=Heap.lt_size f;have R:n.get? s.heap.objs.size=some {cls:=.type "tuple",data:=.seq #[.int i s.toks,u]}:=O.extBut _ _ (Nat.ne_of_gt A) tu;have S:∃g,IsEnum n e it ((i+1:Nat):Int) g:=⟨u,by rw[show((i+1:Nat):Int)=(i:Int)+1 by omega];exact se⟩
  refine⟨.ref s.heap.objs.size,upd H s.heap.objs.size (.tup [.int i,x]),?_,rfl,⟨_,rfl,I.hok.fresh (Nat.le_refl _),λys hy=>⟨x,by rw[I.pe hy C];exact L,rfl⟩⟩,⟨S,?_⟩,λb m=>?_⟩
  .have T:IsTup n s.heap.objs.size [Value.int i s.toks,u].toArray:=⟨_,R,rfl,_,rfl⟩
   have U:bN X.prog X.w (upd H s.heap.objs.size (.tup [.int i,x])) n s.heap.objs.size (.tup [.int i,x]):=⟨by rw[sizeLine_eq];simp,[.int i s.toks,u],.cons ⟨_,rfl⟩ (.cons ru .nil),T⟩
   have:=pJ (s:=s) (h':=n) (t':=s.toks+1) I B Q (Nat.le_refl _) U;exact this
  .exact si.extBut O.extBut (Ne.symm y)
  .have V:b<s.heap.objs.size:=by
    rcases List.mem_cons.mp m with z|z
    .subst z;exact A
    .have z:b=it:=by simpa using z
     subst z;obtain⟨o,q,_⟩:=j;exact Heap.lt_size q
   rw[aF (Nat.ne_of_lt V)];exact(B b m).1
 done:=by
  intro X D F G Y i pins s σ H E I B l J;subst D F G;obtain⟨xs,C,L⟩:=J;obtain⟨⟨g,f⟩,j⟩:=l;obtain⟨M,N,p,hz⟩:=I.list C;obtain⟨f0,f1,f2,f3,f4,f5⟩:=B it (by simp)
  have hl:=N.length;exact wpAny_pyNext_enum_end (I.ok.hd Y) f j p.isList (by simp;omega) λh' eb=>⟨rfl,I.turned (t':=s.toks) (λb o m e=>eb b o m e) f0 f1 f3 f4 f5⟩
 self:=λ_ _ _ _ _ l h=>by
  obtain⟨⟨g,f⟩,_⟩:=l;exact wpAny_pyIter_enum f h
def Mg(K:PySem.W.Frag)(c:TA):TI:=λd H R=>c d H λe b=>∃a,e=[.ref a]/\(∃f,j8 K b a f)/\R (RX K a) b
theorem z9{X:Cx}{es:List Expr}{m:Nat}{c p pos:Pos}{a:Expr}{f:TA}(n:Gl X "enumerate")(o:X.mg "enumerate"=none)(t:PA X [a] f)(u:starEach [a] X.env=[(false,eval a X.env)]) :
  PI X (.Tuple es m c) (.Call (.Name "enumerate" p) [a] [] pos) (Mg X.K f):=by
 intro pins s g H R I h;refine Call_ (kA I n o boot_enumerate (PyProof.Rows.callWith_type1 (cg (t pos pins s g H _ I h) λG s1 ⟨J,i,e,w,q1⟩=>?_) u rfl))
 obtain⟨l,rfl,⟨L,x⟩,q⟩:=q1;cases w with
 |cons r y=>
  cases y;cases r;obtain⟨A,M,B,N⟩:=e.list x;refine call_enumerate_list B.isList λj k C O D=>wpAny_pyIter_enum (s:={s1 with heap:=j}) k ?_
  have E:L2.Inv X pins g i {s1 with heap:=j}:=e.kept (t':=s1.toks) D;refine⟨s1.heap.objs.size+1,[s1.heap.objs.size+1,s1.heap.objs.size],_,_,i,rfl,E,u_ l _ _ (Nat.succ_ne_self _),⟨⟨_,k⟩,C⟩,λb F=>?_,q⟩
  have d:s1.heap.objs.size<=b:=by
   rcases List.mem_cons.mp F with z|z
   .rw[z];exact Nat.le_succ _
   .have z:b=s1.heap.objs.size:=by simpa using z
    rw[z];exact Nat.le_refl _
  exact e.v_ d (e.hok.fresh d)
theorem nW:∀(ds:List D) (k:Nat),(d_ k ds).length=ds.length
 |[],_=>rfl
 |d::ds,k=>by rw[d_,List.length_cons,List.length_cons,nW ds]
theorem nX:∀(ds:List D) (k i:Nat) (d:D),(d_ k ds)[i]?=some d->∃x,ds[i]?=some x/\d=.tup [.int (k+i:Nat),x]
 |[],_,_,_,h=>by simp[d_]at h
 |d::ds,k,0,a,h=>by simp[d_]at h;exact⟨d,rfl,h.symm⟩
 |d::ds,k,i+1,a,h=>by
  simp only[d_,List.getElem?_cons_succ]at h;obtain⟨x,h1,h2⟩:=nX ds (k+1) i a h;exact⟨x,by simpa using h1,by rw[h2,show k+1+i=k+(i+1)by omega]⟩
theorem ti:∀{ds:List D}{xs:List Str}{Z:Addr->Prop}{H:Hp}{vs:List V}{us:List Value},mI ds=some xs->aX Z H ds vs->Vals vs us->StrsAre us xs
 |[],xs,Z,H,vs,us,h,r,q=>by
  cases h;rw[r.nil_inv]at q;cases q;exact .nil
 |d::ds,xs,Z,H,vs,us,h,r,q=>by
  obtain⟨v,rs,rfl,a,b⟩:=r.cons_inv;cases d with
  |str x=>
   simp only[mI]at h;obtain⟨g,c,rfl⟩:=Option.map_eq_some_iff.mp h;simp only[Rep]at a;subst a;cases q with
   |cons e f=>
    obtain⟨t,rfl⟩:=e;exact .cons x t (ti c b f)
  |_=>cases h
def rJoin:V->List V->Hp->VK->Prop:=λx c H Q=>∃z Z b a y,x=.str z/\c=[y]/\Now Z H (.lst b) y/\mI b=some a/\z.length<=16/\(a.map (·.length)).sum+a.length<=1048576/\Q (.str (Txt.join z a)) H
theorem z_{X:Cx}:FC X "str.join" rJoin:=by
 intro pins s r H x w v A Q I b c h;obtain⟨z,Z,B,C,y,rfl,rfl,n,d,e,f,q⟩:=h;obtain⟨t,rfl⟩:=b;obtain⟨l,D,rfl,g,i⟩:=c9 n;obtain⟨u,rfl,j⟩:=c.one;cases j;obtain⟨m,a,o,E⟩:=I.list (kK (K:=X.K) g);exact join_listW o.isList (by simpa using ti d i a) e f λp k=>⟨.str _,H,I.tok _,⟨p,rfl⟩,q⟩
theorem va{X:Cx}:J_ X "list.insert" tf:=by
 intro pins s B H x C v D Q I f g h;obtain⟨l,i,k,y,rfl,rfl,d,j,m,E,q⟩:=h;cases f;obtain⟨u,b,rfl,o,c⟩:=g.two;obtain⟨t,rfl⟩:=o;obtain⟨z,a,n,r,p,e⟩:=I.wy d;refine call_meets F.slot_list_insert ⟨_,e,rfl⟩ F.entry_list_insert (F.args_list_insert_3 _ _ _) (AutoListH.list_insert_list_int_val_1 l a.toArray n k t b (by rw[fitsIndex_both j m];simp) (by rw[List.size_toArray];omega)) ⟨e,?_⟩
 refine⟨.non,_,I.zJ (its':=nN a k b) d e ?_ ?_ ?_,rfl,q⟩
 .have w:(if k<0 then (k+(a.toArray.size:Int)).toNat else min k.toNat a.toArray.size)=HT.gR a.length 0 (some k):=by rw[List.size_toArray];rfl
  show(a.toArray.extract 0 (if k<0 then (k+(a.toArray.size:Int)).toNat else min k.toNat a.toArray.size)).push b++a.toArray.extract (if k<0 then (k+(a.toArray.size:Int)).toNat else min k.toNat a.toArray.size)=_
  rw[w];unfold nN;apply Array.ext';simp;exact List.take_of_length_le (by simp)
 .have A:HT.gR i.length 0 (some k)=HT.gR a.length 0 (some k):=by rw[p]
  unfold nN;rw[A];exact(r.take _).append (.cons c (r.drop _))
 .unfold nN
  simp only[List.length_append,List.length_cons,List.length_take,List.length_drop];omega
theorem Aa{v a:V}{u:Value}(h:L2.RelV v u)(h':L2.RelV a u):v=a:=by
 cases v<;>cases a<;>simp only[L2.RelV]at h h'<;>first
  | (obtain⟨t,rfl⟩:=h;obtain⟨b,e⟩:=h';cases e;done)
  | (obtain⟨t,rfl⟩:=h;obtain⟨b,e⟩:=h';cases e;rfl)
  | (obtain⟨t,rfl⟩:=h;cases h';done)
  | (subst h;obtain⟨b,e⟩:=h';cases e;done)
  | (subst h;cases h';done)
  | (subst h;cases h';rfl)
  |rfl
theorem tj{H:Hp}{a:Addr}{u:HO}{vs:List V}(h:Rd H a (.lst vs))(h':Rd H a u)(b:∀o w,u≠.dg o w):u=.lst vs:=by
 rcases h with h|⟨o,h⟩<;>rcases h' with h' |⟨c,h'⟩<;>rw[h]at h'<;>cases h'<;>first|rfl|exact absurd rfl (b _ _)
theorem tm{H:Hp}{a:Addr}{u:HO}{vs:List V}(h:Rd H a (.tup vs))(h':Rd H a u)(b:∀o w,u≠.dg o w):u=.tup vs:=by
 rcases h with h|⟨o,h⟩<;>rcases h' with h' |⟨c,h'⟩<;>rw[h]at h'<;>cases h'<;>first|rfl|exact absurd rfl (b _ _)
mutual
theorem tp{Z:Addr->Prop}{H:Hp}:∀{n:Nat}{d d':D}{v:V},aI n d=true->aI n d'=true->Rep Z H d v->Rep Z H d' v->d=d'
 |n,.non,d',v,_,o',h,h'=>by
  simp only[Rep]at h;subst h
  cases d'<;>simp only[Rep]at h'<;>first|rfl | (cases h';done) | (obtain⟨_,_,e,_⟩:=h';cases e)
 |n,.bl b,d',v,_,o',h,h'=>by
  simp only[Rep]at h;subst h
  cases d'<;>simp only[Rep]at h'<;>first | (cases h';rfl) | (cases h';done) | (obtain⟨_,_,e,_⟩:=h';cases e)
 |n,.int b,d',v,_,o',h,h'=>by
  simp only[Rep]at h;subst h
  cases d'<;>simp only[Rep]at h'<;>first | (cases h';rfl) | (cases h';done) | (obtain⟨_,_,e,_⟩:=h';cases e)
 |n,.str b,d',v,_,o',h,h'=>by
  simp only[Rep]at h;subst h
  cases d'<;>simp only[Rep]at h'<;>first | (cases h';rfl) | (cases h';done) | (obtain⟨_,_,e,_⟩:=h';cases e)
 |0,.lst ds,_,_,o,_,_,_=>by simp[aI]at o
 |0,.tup ds,_,_,o,_,_,_=>by simp[aI]at o
 |n+1,.lst ds,d',v,o,o',h,h'=>by
  simp only[Rep]at h;obtain⟨a,k,rfl,_,h1,h2⟩:=h;cases d' with
  |lst g=>
   simp only[Rep]at h';obtain⟨j,i,e,_,c,f⟩:=h';cases e;have:=tj h1 c (λ_ _ z=>by cases z)
   cases this;simp only[aI]at o o';rw[kT o o' h2 f]
  |tup g=>
   simp only[Rep]at h';obtain⟨j,i,e,_,c,f⟩:=h';cases e;have:=tj h1 c (λ_ _ z=>by cases z)
   cases this
  |dct _ _=>simp[aI]at o'
  |ref _=>simp[aI]at o'
  |_=>simp only[Rep]at h';cases h'
 |n+1,.tup ds,d',v,o,o',h,h'=>by
  simp only[Rep]at h;obtain⟨a,k,rfl,_,h1,h2⟩:=h;cases d' with
  |lst g=>
   simp only[Rep]at h';obtain⟨j,i,e,_,c,f⟩:=h';cases e;have:=tm h1 c (λ_ _ z=>by cases z)
   cases this
  |tup g=>
   simp only[Rep]at h';obtain⟨j,i,e,_,c,f⟩:=h';cases e;have:=tm h1 c (λ_ _ z=>by cases z)
   cases this;simp only[aI]at o o';rw[kT o o' h2 f]
  |dct _ _=>simp[aI]at o'
  |ref _=>simp[aI]at o'
  |_=>simp only[Rep]at h';cases h'
 |n,.dct _ _,_,_,o,_,_,_=>by cases n<;>simp[aI]at o
 |n,.ref _,_,_,o,_,_,_=>by cases n<;>simp[aI]at o
theorem kT{Z:Addr->Prop}{H:Hp}:∀{n:Nat}{ds a:List D}{vs:List V},ds.all (aI n)=true->a.all (aI n)=true->aX Z H ds vs->aX Z H a vs->ds=a
 |n,[],a,vs,_,_,h,h'=>by
  rw[h.nil_inv]at h';cases a with
  |nil=>rfl
  |cons d r=>obtain⟨_,_,e,_⟩:=h'.cons_inv;cases e
 |n,d::ds,a,vs,o,b,h,h'=>by
  obtain⟨v,r,rfl,g,i⟩:=h.cons_inv;cases a with
  |nil=>exact absurd h'.nil_inv (by simp)
  |cons j a=>
   obtain⟨k,l,e,c,f⟩:=h'.cons_inv;cases e;simp only[List.all_cons,Bool.and_eq_true]at o b;rw[tp o.1 b.1 g c,kT o.2 b.2 i f]
end
def xi:V->List V->Hp->VK->Prop:=λx b H Q=>∃Z a d y j,b=[y]/\Now Z H (.lst a) x/\Now Z H d y/\aI 8 d=true/\a.all (aI 8)=true/\a.findIdx? (λe=>ed e d)=some j/\Q (.int j) H
theorem jo{Z:Addr->Prop}{H:Hp}{ds:List D}{vs:List V}{a:List Value}{m:Nat}(r:aX Z H ds vs)(q:Vals vs a)(c:m<a.length)(e:m<ds.length):∃v,Rep Z H ds[m] v/\L2.RelV v a[m]:=by
 obtain⟨v,f,g⟩:=r.get (i:=m) (d:=ds[m]) (by simp[e])
 obtain⟨u,b,h⟩:=q.get f;rw[List.getElem?_eq_getElem c]at b;cases b;exact⟨v,g,h⟩
theorem xj{X:Cx}(hu:X.A.units+64<cLine):FC X "list.index" xi:=by
 intro pins s σ H x vs v us Q I S T h;obtain⟨Z,i,d,y,j,rfl,U,V,M,o2,Y,q⟩:=h;obtain⟨l,ws,rfl,q1,z⟩:=c9 U;cases S;obtain⟨u,rfl,ru⟩:=T.one;obtain⟨a,f,pl,hz⟩:=I.list (kK (K:=X.K) q1);obtain⟨B,he,C⟩:=List.findIdx?_eq_some_iff_getElem.mp Y;have hl:=f.length;have a0:=z.length;obtain⟨o,n,N,O,k,D⟩:=pl;have g:∀m (c:m<i.length),aI 8 i[m]=true:=λm c=>List.all_eq_true.mp o2 _ (List.getElem_mem c)
 have t:j<a.length:=by omega
 classical
 let e:Value->Bool:=λw=>decide (∃m,∃(c:m<a.length) (k:m<i.length),a[m]=w/\ed i[m] d=true)
 have p:∀m (c:m<a.length) (k:m<i.length),e a[m]=ed i[m] d:=λm c k=>by
  cases E:ed i[m] d with
  |true=>exact decide_eq_true ⟨m,c,k,rfl,E⟩
  |false=>
   refine decide_eq_false ?_;rintro⟨m',r,b,e1,P⟩;obtain⟨v1,G,J⟩:=jo z f c k;obtain⟨v2,r2,R⟩:=jo z f r b;rw[e1]at R;have:=Aa J R;subst this;rw[tp (g m k) (g m' b) G r2]at E;rw[E]at P;cases P
 refine call_meets F.slot_list_index ⟨_,N,O⟩ F.entry_list_index (F.args_list_index_2 _ _)
  (SeqAt.list_indexAt l a.toArray n none o.slots u e j (by rw[List.size_toArray];exact t) (by rw[sizeLine_eq]at hz;omega) ?_ ?_) ⟨?_,λw hw=>?_,?_⟩
 .show e a[j]=true
  rw[p j t B];exact he
 .intro m c L
  have r:m<a.length:=by simpa using c
  show e a[m]=false
  rw[p m r (by omega)]
  simpa using C m L
 .rw[N]
  obtain⟨c',d',dt,sl⟩:=o;cases O;cases k;cases D;rfl
 .obtain⟨m,c,rfl⟩:=List.mem_iff_getElem.mp (show w∈a by simpa using hw)
  have b:m<i.length:=by omega
  rw[p m c b];obtain⟨v1,G,J⟩:=jo z f c b;exact fx I 8 _ _ _ _ _ (by simp[Around.in1];omega) (g m b) M (gb I G.now J (g m b)) (gb I V ru M)
 .exact⟨.int j,H,I.tok _,⟨_,rfl⟩,q⟩
theorem vb(m:String)(x y:Str)(t u:Tok):Builtin.Str.searchArgs m {pos:=[Value.str x t,Value.str y u]}=pure (x,y,0,x.length):=by
 unfold Builtin.Str.searchArgs Builtin.Str.strSomeArgs Builtin.Str.strArg Builtin.Str.searchRange;have a:∀n,selfAndSome n m 1 3 {pos:=[Value.str x t,Value.str y u]}=pure (Value.str x t,[Value.str y u]):=λn=>by rfl
 have b:Builtin.Str.textOf (Value.str x t)=pure x:=by rfl
 have c:asStr? (Value.str y u)=pure (some y):=by rfl
 simp[a,b,c]
theorem gives_str_index(x y:Str)(t u:Tok)(i:Nat)(r:List Nat)(h:Builtin.Str.occurrences x y 0 x.length 1=i::r):Gives (Builtin.«str.index» {pos:=[Value.str x t,Value.str y u]}) (Made.int i):=by
 have g:=gives_str_find x y t u;unfold Builtin.«str.find» at g;unfold Builtin.«str.index»;rw[vb]at g ⊢;rw[h]at g;simp only[pure_bind,h]at g ⊢;exact g
def tq:V->List V->Hp->VK->Prop:=λx a H Q=>∃z y i r,x=.str z/\a=[.str y]/\Builtin.Str.occurrences z y 0 z.length 1=i::r/\Q (.int (i:Nat)) H
theorem vc{X:Cx}:FC X "str.index" tq:=by
 intro pins s f H x g v j Q I a b h;obtain⟨z,y,i,r,rfl,rfl,c,q⟩:=h;obtain⟨t,rfl⟩:=a;obtain⟨u,rfl,d⟩:=b.one;obtain⟨e,rfl⟩:=d;refine call_meets F.slot_str_index (typeIs_str s z t) F.entry_str_index (F.args_str_index_2 _ _) (gives_str_index z y t e i r c).meets ?_;exact⟨.int i,H,I.tok _,⟨_,rfl⟩,q⟩
end Mir
namespace Mir
open PySem PySem.Spec PyProof.Rows L2
section
variable{X:Cx}{Γ:mf}{bw:Bool}{a b:Expr}{rest:List Expr}{ca cb:Ex}{pos:Pos}
theorem Ab{i tb:TE}(j:PE X a i)(k:PE X (.BoolOp .And (b::rest) pos) tb):PE X (.BoolOp .And (a::b::rest) pos) (λe H Q=>i e H λx f=>∃c,pf X.K x f c/\if c=true then tb e f Q else Q x f):=by
 intro pins s e H Q I h;refine BoolOp_and (cg (j pins s e H _ I h) λv l ⟨x,f,I1,r1,c,t1,q1⟩=>?_)
 refine cg (nz pins l e f x v (λd g=>d=c/\g=f) I1 r1 ⟨c,t1,rfl,rfl⟩) λd m ⟨g,I2,e1,e2⟩=>?_
 subst e1 e2;cases d with
 |true=>exact k pins m e g Q I2 q1
 |false=>exact⟨x,g,I2,r1,q1⟩
theorem DR{i tb:TE}(j:PE X a i)(k:PE X (.BoolOp .Or (b::rest) pos) tb):PE X (.BoolOp .Or (a::b::rest) pos) (λe H Q=>i e H λx f=>∃c,pf X.K x f c/\if c=true then Q x f else tb e f Q):=by
 intro pins s e H Q I h;refine BoolOp_or (cg (j pins s e H _ I h) λv l ⟨x,f,I1,r1,c,t1,q1⟩=>?_)
 refine cg (nz pins l e f x v (λd g=>d=c/\g=f) I1 r1 ⟨c,t1,rfl,rfl⟩) λd m ⟨g,I2,e1,e2⟩=>?_
 subst e1 e2;cases d with
 |false=>exact k pins m e g Q I2 q1
 |true=>exact⟨x,g,I2,r1,q1⟩
theorem Ac{g:TE}(i:PE X a g):PE X (.UnaryOp .Not a pos) (λe H Q=>g e H λx b=>∃c,pf X.K x b c/\Q (.bl (!c)) b):=by
 intro pins s e H Q I h;refine UnaryOp_ (cg (i pins s e H _ I h) λv j ⟨x,b,I1,r1,c,t1,q1⟩=>?_)
 refine not_of (cg (nz pins j e b x v (λd f=>d=c/\f=b) I1 r1 ⟨c,t1,rfl,rfl⟩) λd k ⟨f,I2,e1,e2⟩=>?_)
 subst e1 e2;exact⟨.bl (!d),f,I2,rfl,q1⟩
theorem ee.nw{a:Bool}{Z:Addr->Prop}{b H:Hp}{d:D}{v:V}(h:ee bw a Z b H d v):Now Z H d v:=by
 cases bw with
 |true=>exact h.now
 |false=>exact(h.weak (bw:=true)).now
end
noncomputable def GL(sc:Scope)(x:Str):Bool:=match sc.names.lookup x with
 |some .local|some .cell|some .free=>true
 |_=>false
noncomputable def xk(sc:Scope)(x:Str):Bool:=match sc.names.lookup x with
 |some .local|some .cell=>true
 |_=>false
noncomputable def Ad(sc:Scope)(x:Str):Bool:=sc.names.lookup x==some .globalImplicit
noncomputable def okN(x:Str):Bool := !(x==("__debug__":Str))&&!(x==("__classdict__":Str))&&!(x==("__name__":Str))
noncomputable def Af(N:List Str)(x:Str):Option Nat:=N.findIdx? (· == x)
def mM(sc:Scope)(N:List Str)(x:Str):Option Nat:=if GL sc x&&okN x then Af N x else none
def xl(x:Str):Option Ty:=[Ty.int,.str,.bool,.list,.tuple,.dict].find? (λt=>t.nm==x)
noncomputable def isStar:Expr->Bool
 |.Starred _ _=>true
 |_=>false
noncomputable def isSlice:Expr->Bool
 |.Slice _ _ _ _=>true
 |_=>false
noncomputable def isSet:Expr->Bool
 |.Set _ _ _=>true
 |_=>false
noncomputable def rF(scope sc:Scope):Scope:={scope with names:=scope.names.map λ(n,k)=>if (k==.free&&sc.kind==.function&&sc.names.lookup n==some .cell)then (n,.cell)else (n,k)}
noncomputable def dC(scope:Scope):List Str:=(scope.names.filter λy=>y.2==.free).map (·.1)
def rG(sc:Scope)(N:List Str):List Str->Option (List Nat)
 |[]=>some []
 |x::xs=>do let i ←mM sc N x;let a ←rG sc N xs;some (i::a)
def xm(scope:Scope)(sc:Scope)(x:Str):Bool:=
 scope.kind==.function&&scope.names.all (λy=>!(y.2==.cell))&&scope.names.all (λy=>!(y.2==.local)||scope.names.lookup y.1==some .local) &&
 scope.names.all (λy=>!(y.2==.free)||(sc.names.lookup y.1==some .cell||sc.names.lookup y.1==some .free)&&scope.names.lookup y.1==some .free) &&
 scope.names.lookup x==some .local&&decide ((x::dC scope).Nodup)
noncomputable def kU:List Comprehension->Option (Str×Pos×Expr×List Expr)
 |[⟨.Name x p,iter,ifs,0⟩]=>some (x,p,iter,ifs)
 |_=>none
theorem mO{b:List Comprehension}{x:Str}{p:Pos}{iter:Expr}{a:List Expr}(h:kU b=some (x,p,iter,a)):b=[⟨.Name x p,iter,a,0⟩]:=by
 unfold kU at h;split at h
 .cases h;rfl
 .cases h
theorem xn{N:List Str}{x:Str}{i:Nat}(h:Af N x=some i):N[i]?=some x:=by
 unfold Af at h;obtain⟨a,b,_⟩:=List.findIdx?_eq_some_iff_getElem.mp h;rw[List.getElem?_eq_getElem a,eq_of_beq b]
theorem tr{sc:Scope}{N:List Str}{x:Str}{i:Nat}(h:mM sc N x=some i):N[i]?=some x/\Fy sc x/\(x==("__debug__":Str))=false/\(x==("__classdict__":Str))=false:=by
 unfold mM at h;split at h
 .rename_i a
  simp only[Bool.and_eq_true,okN,Bool.not_eq_true']at a;refine⟨xn h,?_,a.2.1.1,a.2.1.2⟩;have b:=a.1;unfold GL at b;unfold Fy;split at b
  .rename_i q;exact .inl q
  .rename_i q;exact .inr (.inl q)
  .rename_i q;exact .inr (.inr q)
  .cases b
 .cases h
theorem tw{x:Str}(h:okN x=true):(x==("__debug__":Str))=false/\(x==("__classdict__":Str))=false/\x≠"__name__":=by
 simp only[okN,Bool.and_eq_true,Bool.not_eq_true']at h;refine⟨h.1.1,h.1.2,λe=>?_⟩
 rw[e]at h;simp at h
noncomputable def ef:List Str:=["len","all","any","list","tuple","int","min","max","bool","isinstance","str","dict","range","sorted","enumerate","reversed","set"]
theorem cy{e:Expr}{es:List Expr}{env:Env}(h:isStar e=false):starEach (e::es) env=(false,eval e env)::starEach es env:=by
 cases e<;>first|rfl | (cases h)
theorem cI{env:Env}{pos:Pos}:∀{es:List Expr},(∀e∈es,isStar e=false)->(backTo pos (starEach es env)).any (·.1)=false
 |[],_=>rfl
 |e::es,h=>by
  rw[cy (h e (by simp))]
  show(false||(backTo pos (starEach es env)).any (·.1))=false
  rw[cI λz hz=>h z (by simp[hz])]
  rfl
section
variable{X:Cx}{Γ:mf}{T:Tab}{k:Nat}{sc:Scope}{N:List Str}
theorem GN{x:Str}{t:Ty}(h:xl x=some t):x=t.nm/\t.nm∈ef:=by
 unfold xl at h;have a:=List.find?_some h;exact⟨(eq_of_beq a).symm,by cases t<;>decide⟩
end
section
variable{X:Cx}{Γ:mf}{T:Tab}{k:Nat}{sc:Scope}{N:List Str}
theorem xo{sc:Scope}{N:List Str}:∀{xs:List Str}{a:List Nat},rG sc N xs=some a->xs.length=a.length/\∀(j i:Nat) (x:Str),xs[j]?=some x->a[j]?=some i->N[i]?=some x
 |[],a,h=>by cases h;exact⟨rfl,λj i x e=>by simp at e⟩
 |x::xs,a,h=>by
  simp only[rG,Option.bind_eq_bind]at h;obtain⟨i,h1,h⟩:=Option.bind_eq_some_iff.mp h;obtain⟨d,f,h⟩:=Option.bind_eq_some_iff.mp h;cases h;obtain⟨g,k⟩:=xo f;refine⟨by rw[List.length_cons,List.length_cons,g],λj l y b c=>?_⟩
  cases j with
  |zero=>simp at b c;subst b c;exact(tr h1).1
  |succ j=>exact k j l y (by simpa using b) (by simpa using c)
theorem kW{iter:Expr}{env:Env}(h:isSet iter=false):∀x,foldedSetIterable iter env x=pure x:=by
 intro x;cases iter<;>first|rfl | (simp[isSet]at h)
theorem pK{op:CmpOp}{b:Expr}(h:isSet b=false):behindInMarks op b=false:=by
 cases b<;>first|rfl | (simp[isSet]at h)
end
def pL(sc:Scope)(N:List Str)(x:Str):Option Nat:=if xk sc x&&okN x then Af N x else none
noncomputable def ic:Expr->Bool
 |.ListComp .. |.SetComp .. |.DictComp ..=>true
 |_=>false
noncomputable def pM(sc:Scope)(x:Str)(a:Pos)(e:Expr):Bool:=match e with
 |.ListComp _ _ s _=>sc.names.lookup x==some .local&&a.line==e.pos.line&&!(s.names.any λ(n,k)=>n==x&&(k==.local||k==.cell))
 |_=>false
noncomputable def eJ:List Expr->Option (List (Str×Pos))
 |[]=>some []
 |.Name x p::r=>(eJ r).map ((x,p):: ·)
 |_=>none
def kX(sc:Scope)(N:List Str):List (Str×Pos)->Option (List Nat)
 |[]=>some []
 |x::xs=>do let i ←pL sc N x.1;let a ←kX sc N xs;some (i::a)
noncomputable def xp:Expr->Bool
 |.Call .. |.Name .. |.Subscript ..=>true
 |_=>false
section
variable{X:Cx}{Γ:mf}{T:Tab}{k:Nat}{sc:Scope}{N:List Str}
theorem jF:∀{es:List Expr}{nms:List (Str×Pos)},eJ es=some nms->es=nms.map λx=>Expr.Name x.1 x.2
 |[],_,h=>by cases h;rfl
 |e::es,nms,h=>by
  unfold eJ at h;split at h
  .rename_i e;cases e
  .rename_i x p r q
   cases q;obtain⟨ns,h1,h⟩:=Option.map_eq_some_iff.mp h;subst h;rw[jF h1];rfl
  .cases h
theorem mP(env:Env):∀(nms:List (Str×Pos)),(assignEach (nms.map λx=>Expr.Name x.1 x.2) env).length=nms.length/\(assignEach (nms.map λx=>Expr.Name x.1 x.2) env).findIdx? (·.1)=none
 |[]=>⟨rfl,rfl⟩
 |x::r=>by
  obtain⟨h1,h2⟩:=mP env r;refine⟨?_,?_⟩
  .show(assignEach (r.map λx=>Expr.Name x.1 x.2) env).length+1=_
   rw[h1];rfl
  .show List.findIdx? (·.1) ((false,_)::assignEach (r.map λx=>Expr.Name x.1 x.2) env)=none
   rw[List.findIdx?_cons,h2];rfl
end
def bc(N ps:List Str)(sc:Scope):Bool:=
 sc.kind==.function&&!sc.isCoroutine&&!sc.isGenerator&&decide N.Nodup&&decide (N.take ps.length=ps)&&ps.all (xk sc)&&sc.names.all λy=>!(y.2==.free)
theorem Ag{N ps:List Str}{sc:Scope}(h:bc N ps sc=true):nF N ps sc:=by
 simp only[bc,Bool.and_eq_true,Bool.not_eq_true',decide_eq_true_eq,List.all_eq_true,beq_iff_eq]at h;obtain⟨⟨⟨⟨⟨⟨b,c⟩,d⟩,f⟩,g⟩,i⟩,j⟩:=h;refine⟨b,c,d,f,g,λx k=>?_,λy l e=>?_⟩
 .have a:=i x k
  unfold xk at a;split at a
  .rename_i q;exact .inl q
  .rename_i q;exact .inr q
  .cases a
 .have:=j y l
  rw[e]at this;exact absurd this (by decide)
section
variable{P:Program}{w:World}{K:PySem.W.Frag}{mg:Str->Option Value}{base:Heap}{Γ:mf}{T:Tab}{k:Nat}
end
noncomputable def Ah:Value->Bool
 |.type x=>x=="list"
 |_=>false
def pN(K:PySem.W.Frag):Bool:=K.all λp=>!Ah p.2.cls
theorem pO:∀{K:PySem.W.Frag}{a:Addr}{o:Obj},K.lookup a=some o->(a,o)∈K
 |[],_,_,h=>by cases h
 | (b,p)::K,a,o,h=>by
  rw[List.lookup_cons]at h;split at h
  .rename_i e
   cases h;rw[eq_of_beq e];simp
  .exact List.mem_cons_of_mem _ (pO h)
theorem GO{K:PySem.W.Frag}(b:pN K=true){H:Hp}{a:Addr}{xs:List V}(h:j8 K H a xs):Rd H a (.lst xs):=by
 rcases h with h|⟨o,c,n,d,e,_⟩
 .exact h
 .have f:=pO d
  have:=List.all_eq_true.mp b _ f;rw[e]at this;exact absurd this (by decide)
noncomputable def xq(K:PySem.W.Frag)(x:Str):Bool:=match PySem.W.nsIn K mainGlobals x with
 |some none=>true
 |_=>false
def tB(K:PySem.W.Frag):Bool:=ef.all (xq K)
theorem xr{K:PySem.W.Frag}{h:Heap}{a:Str->Option Value}(X:K.In h)(G:h.Ns mainGlobals a)(b:tB K=true):∀x∈ef,a x=none:=λx c=>by
 have:=List.all_eq_true.mp b x c;unfold xq at this;split at this
 .rename_i q;exact PySem.W.mg_none_of X G q
 .cases this
section
variable{prog:Program}{w:World}{A:Around}{E:Value->Shared->Prop}{s:Shared}
end
end Mir
namespace L2
open PySem PySem.Spec PyProof.Rows PySem.W
def GP(X:Cx)(f:Addr)(vs:List V)(a:St)(H:Hp)(Q:VK):Prop:=∀(pins:List (Addr×Obj)) (s:Shared) (b:List Value),Inv X pins a H s->Vals vs b->wpAny (model X.prog X.w) X.A (call (.ref f) b) (EP X pins a Q) X.xe s
noncomputable def Cx.fz(X:Cx)(xs:List Str):Cx:={X with fn:=λy=>X.fn y&&!(xs.contains y)}
section
variable{X:Cx}{pins:List (Addr×Obj)}{σ:St}{H:Hp}{s:Shared}
end
end L2
namespace L2
open PySem PySem.Spec PyProof.Rows
theorem rH{prog:Program}{w:World}{es:Array DictEntry}(d:Addr)(a:(d==sysModules)=false) :
  MeetsIn prog w (Builtin.«dict.__len__» ⟨[.ref d],[]⟩) (λ_ R s=>∃o ep,s.heap.get? d=some o/\o.data=.dict es ep/\R (.ok (.ret (.int es.size s.toks))) {s with toks:=s.toks+1}):=
 .of_wp λA R s ⟨o,ep,ho,hdat,h⟩=>by
  show wpAny _ _ (dictSize d >>= _) _ _ s
  unfold dictSize;refine wpAny_bind (wpAny_bind (wpAny_dictEntries ho hdat (wpAny_pure ?_)))
  show wpAny _ _ (Builtin.Dict.pendingCount d >>= _) _ _ s
  refine wpAny_bind (wpAny_pendingCount_other a ?_);refine wpAny_ret_mkInt ?_;rw[Nat.add_zero];exact h
theorem KT.length{H:Hp}{l:List (List Key×V)}{m:List (List Key×Addr×Value)}(q:KT H l m):m.length=l.length:=by
 induction q with
 |nil=>rfl
 |cons _ _ a=>rw[List.length_cons,List.length_cons,a]
theorem vd{X:Cx}:dB X (.builtin "len") (λxs H Q=>∃a kvs,xs=[V.ref a]/\H a=some (.dT kvs)/\Q (.int kvs.length) H):=by
 intro pins s p H xs t Q I r h;obtain⟨a,kvs,rfl,e,q⟩:=h;obtain⟨u,rfl,f⟩:=vals1 r;cases f;obtain⟨z,g,xs,b,c⟩:=wF I.hok e;have d:=c.typeIs;obtain⟨o,es,i,j,w,k,l,x,y⟩:=c;have n:es.size=kvs.length:=by rw[size_of_entries l,b.length]
 refine Calls.call_function_entry kind_len plain_len entry_len (args_len1 _) ?_;unfold Builtin.«len»;refine wpAny_bind (m:=oneArg "len" _) (wpAny_pure ?_)
 refine wpAny_bind (m:=callSpecial? (.ref a) (Str.ofString "__len__")) (wpAny_callSpecial?_slot (name:=Str.ofString "__len__") d F.slot_dict_len
  (call_meetsIn F.slot_dict_len d F.entry_dict_len (F.args_dict_len_1 _) (rH (es:=es) a g) ⟨o,i,j,k,?_⟩))
 show wpAny _ _ _ _ _ {s with toks:=s.toks+1}
 refine wpAny_bind (wpAny_holding (wpAny_pure ?_));refine wpAny_bind (wpAny_letGo ?_);rw[sizeLine_eq]at z
 show wpAny _ _ (if ((es.size:Nat):Int)<0 then _ else _) _ _ _
 rw[if_neg (by omega)]
 show wpAny _ _ (if ((es.size:Nat):Int)≥2 ^ 63 then _ else _) _ _ _
 rw[if_neg (by omega)]
 refine wpAny_bind (wpAny_mkInt (wpAny_pure ⟨_,rfl,.int kvs.length,H,(I.tok _).tok _,⟨_,by rw[n]⟩,q⟩))
end L2
namespace HT
open PySem PyProof.Rows
section
variable{prog:Program}{w:World}{A:Around}{E:Value->Shared->Prop}{s:Shared}
end
end HT
namespace L2
open PySem PySem.Spec PyProof.Rows
section
variable{X:Cx}
end
end L2
namespace Mir
open PySem PySem.Spec PyProof.Rows L2
end Mir
namespace Mir
open PySem L2
structure Mh where
 name:Str
 qual:Str
 params:Arguments
 body:List Stmt
 scope:Scope
 ps:List Str
 cn:List Str
class aK where
 tab:Nat->Mh
 ta:Nat->Addr
inductive Cell where
 |lst (ds:List D)
 |dK (kvs:List (Key×D))
 |dT (kvs:List (List Key×D))
 |dF (kvs:List (Key×D))
 |ins (C:Str) (fs:List (Str×D))
 |fn (j:Nat) (rJ:List D)
 |tb (j:Nat) (p:Pos) (b:Bool)
abbrev az:=List Cell
inductive ax (α:Type) where
 |ok (a:α) (Ω:az)
 |exc (x:D) (Ω:az)
 |bad
noncomputable def ax.bind{b c:Type}:ax b->(b->az->ax c)->ax c
 |.ok a Ω,f=>f a Ω
 |.exc x Ω,_=>.exc x Ω
 |.bad,_=>.bad
abbrev aV:=List (Option D)
inductive aE {α β:Type} (R:α->β->Prop):List α->List β->Prop where
 |nil:aE R [] []
 |cons {a b as bs}:R a b->aE R as bs->aE R (a::as) (b::bs)
namespace aE
variable{α β:Type}{R S:α->β->Prop}
theorem length:∀{a:List α}{bs:List β},aE R a bs->bs.length=a.length
 |_,_,.nil=>rfl
 |_,_,.cons _ t=>by rw[List.length_cons,List.length_cons,length t]
theorem imp(h:∀a b,R a b->S a b):∀{c:List α}{bs:List β},aE R c bs->aE S c bs
 |_,_,.nil=>.nil
 |_,_,.cons r t=>.cons (h _ _ r) (imp h t)
theorem get:∀{c:List α}{bs:List β}{i:Nat}{a:α},aE R c bs->c[i]?=some a->∃b,bs[i]?=some b/\R a b
 |_,_,_,_,.nil,e=>by simp at e
 |_,_,0,_,.cons r _,e=>by simp at e;subst e;exact⟨_,rfl,r⟩
 |_,_,i+1,a,.cons _ t,e=>by
  obtain⟨u,h1,h2⟩:=get (i:=i) (a:=a) t (by simpa using e)
  exact⟨u,by simpa using h1,h2⟩
theorem DS:∀{c:List α}{bs:List β}{i:Nat}{b:β},aE R c bs->bs[i]?=some b->∃a,c[i]?=some a/\R a b
 |_,_,_,_,.nil,e=>by simp at e
 |_,_,0,_,.cons r _,e=>by simp at e;subst e;exact⟨_,rfl,r⟩
 |_,_,i+1,a,.cons _ t,e=>by
  obtain⟨u,h1,h2⟩:=DS (i:=i) (b:=a) t (by simpa using e)
  exact⟨u,by simpa using h1,h2⟩
theorem append:∀{a b:List α}{bs ds:List β},aE R a bs->aE R b ds->aE R (a++b) (bs++ds)
 |_,_,_,_,.nil,h=>h
 |_,_,_,_,.cons r t,h=>.cons r (append t h)
theorem one{a:α}{b:β}(h:R a b):aE R [a] [b]:=.cons h .nil
theorem take:∀{a:List α}{bs:List β} (n:Nat),aE R a bs->aE R (a.take n) (bs.take n)
 |_,_,0,_=>by simp;exact .nil
 |_,_,n+1,.nil=>by simp;exact .nil
 |_,_,n+1,.cons r t=>.cons r (take n t)
theorem drop:∀{a:List α}{bs:List β} (n:Nat),aE R a bs->aE R (a.drop n) (bs.drop n)
 |_,_,0,h=>h
 |_,_,n+1,.nil=>by simp;exact .nil
 |_,_,n+1,.cons r t=>drop n t
theorem eraseIdx:∀{a:List α}{bs:List β} (n:Nat),aE R a bs->aE R (a.eraseIdx n) (bs.eraseIdx n)
 |_,_,n,.nil=>by simp;exact .nil
 |_,_,0,.cons _ t=>t
 |_,_,n+1,.cons r t=>.cons r (eraseIdx n t)
theorem set{a:α}{b:β}(r:R a b):∀{c:List α}{bs:List β} (n:Nat),aE R c bs->aE R (c.set n a) (bs.set n b)
 |_,_,_,.nil=>.nil
 |_,_,0,.cons _ t=>.cons r t
 |_,_,n+1,.cons q t=>.cons q (set r n t)
theorem nil_inv{bs:List β}(h:aE R [] bs):bs=[]:=by cases h;rfl
theorem cons_inv{a:α}{c:List α}{bs:List β}(h:aE R (a::c) bs):∃b r,bs=b::r/\R a b/\aE R c r:=by
 cases h with
 |cons r t=>exact⟨_,_,rfl,r,t⟩
end aE
mutual
noncomputable def ao(c:List Addr)(Z:Addr->Prop)(H:Hp):D->V->Prop
 |.non,v=>v=.non
 |.bl b,v=>v=.bl b
 |.int i,v=>v=.int i
 |.str x,v=>v=.str x
 |.lst ds,v=>∃a vs,v=.ref a/\Z a/\Rd H a (.lst vs)/\eg c Z H ds vs
 |.tup ds,v=>∃a vs,v=.ref a/\Z a/\H a=some (.tup vs)/\eg c Z H ds vs
 |.dct _ _,_=>True
 |.ref n,v=>∃a,c[n]?=some a/\v=.ref a
noncomputable def eg(b:List Addr)(Z:Addr->Prop)(H:Hp):List D->List V->Prop
 |[],a=>a=[]
 |d::ds,a=>∃v r,a=v::r/\ao b Z H d v/\eg b Z H ds r
end
theorem cz{a:List Addr}{Z:Addr->Prop}{H:Hp}:∀{ds:List D}{vs:List V},eg a Z H ds vs↔aE (ao a Z H) ds vs
 |[],vs=>by
  simp only[eg];exact⟨λh=>by subst h;exact .nil,λh=>h.nil_inv⟩
 |d::ds,vs=>by
  simp only[eg];constructor
  .rintro⟨v,r,rfl,h1,h2⟩
   exact .cons h1 (cz.mp h2)
  .intro h
   obtain⟨v,r,rfl,h1,h2⟩:=h.cons_inv;exact⟨v,r,rfl,h1,cz.mpr h2⟩
section
variable{α α':List Addr}{Z Z':Addr->Prop}{H H':Hp}
mutual
theorem ao.mono(p:∀(n:Nat) (a:Addr),α[n]?=some a->α'[n]?=some a)(k:∀a o,Z a->H a=some o->H' a=some o)(z:∀a,Z a->Z' a):∀{d:D}{v:V},ao α Z H d v->ao α' Z' H' d v
 |.non,_,h=>by simpa only [ao]using h
 |.bl _,_,h=>by simpa only [ao]using h
 |.int _,_,h=>by simpa only [ao]using h
 |.str _,_,h=>by simpa only [ao]using h
 |.lst ds,v,h=>by
  simp only[ao]at h ⊢;obtain⟨a,c,e,b,f,g⟩:=h;exact⟨a,c,e,z a b,nO (λo=>k a o b) f,eg.mono p k z g⟩
 |.tup ds,v,h=>by
  simp only[ao]at h ⊢;obtain⟨a,c,e,b,f,g⟩:=h;exact⟨a,c,e,z a b,k a _ b f,eg.mono p k z g⟩
 |.dct i ds,v,h=>by simp only[ao]
 |.ref n,v,h=>by
  simp only[ao]at h ⊢;obtain⟨a,e,h⟩:=h;exact⟨a,p n a e,h⟩
theorem eg.mono(p:∀(n:Nat) (a:Addr),α[n]?=some a->α'[n]?=some a)(k:∀a o,Z a->H a=some o->H' a=some o)(z:∀a,Z a->Z' a):∀{ds:List D}{vs:List V},eg α Z H ds vs->eg α' Z' H' ds vs
 |[],_,h=>by simpa only [eg]using h
 |d::ds,vs,h=>by
  simp only[eg]at h ⊢;obtain⟨v,r,e,h1,h2⟩:=h;exact⟨v,r,e,ao.mono p k z h1,eg.mono p k z h2⟩
end
end
def fy{K:Type}(R:D->V->Prop)(kvs:List (K×D))(a:List (K×V)):Prop:=aE (λp q=>p.1=q.1/\R p.2 q.2) kvs a
variable [aK]
def gu(κ:Str->Addr->Prop)(R:D->V->Prop)(H:Hp)(a:Addr):Cell->Prop
 |.lst ds=>∃vs,H a=some (.lst vs)/\aE R ds vs
 |.dK kvs=>∃b,H a=some (.dK b)/\fy R kvs b
 |.dT kvs=>∃b,H a=some (.dT b)/\fy R kvs b
 |.dF kvs=>∃o b,H a=some (.dg o (.dK b))/\fy R kvs b
 |.ins C fs=>∃d e c,κ C d/\H a=some (.ins d e c)/\fy R fs c
 |_=>False
theorem fy.imp{K:Type}{R S:D->V->Prop}(h:∀d v,R d v->S d v){kvs:List (K×D)}{c:List (K×V)}(k:fy R kvs c):fy S kvs c:=aE.imp (λa b q=>⟨q.1,h _ _ q.2⟩) k
theorem gu.imp{κ:Str->Addr->Prop}{R S:D->V->Prop}{H m:Hp}{a:Addr}{c:Cell}(h:∀d v,R d v->S d v)(e:∀o,H a=some o->m a=some o)(z:∀b o u,H b=some (.dg o u)->m b=some (.dg o u))(k:gu κ R H a c):gu κ S m a c:=by
 cases c with
 |lst s=>obtain⟨f,g,i⟩:=k;exact⟨f,e _ g,i.imp h⟩
 |dK l=>obtain⟨f,g,i⟩:=k;exact⟨f,e _ g,i.imp h⟩
 |dT l=>obtain⟨f,g,i⟩:=k;exact⟨f,e _ g,i.imp h⟩
 |dF l=>obtain⟨o,f,g,i⟩:=k;exact⟨o,f,e _ g,i.imp h⟩
 |ins C t=>obtain⟨n,q,f,r,g,i⟩:=k;exact⟨n,q,f,r,e _ g,i.imp h⟩
 |fn j rJ=>exact k.elim
 |tb j p b=>exact k.elim
theorem gu.some{κ:Str->Addr->Prop}{R:D->V->Prop}{H:Hp}{a:Addr}{c:Cell}(k:gu κ R H a c):H a≠none:=by
 cases c with
 |lst h=>obtain⟨f,d,g⟩:=k;rw[d];simp
 |dK e=>obtain⟨f,d,g⟩:=k;rw[d];simp
 |dT e=>obtain⟨f,d,g⟩:=k;rw[d];simp
 |dF e=>obtain⟨o,f,d,g⟩:=k;rw[d];simp
 |ins C i=>obtain⟨l,m,f,n,d,g⟩:=k;rw[d];simp
 |fn j rJ=>exact k.elim
 |tb j p b=>exact k.elim
structure bF(κ:Str->Addr->Prop)(α:List Addr)(Z:Addr->Prop)(Ω:az)(H:Hp):Prop where
 rK:α.Nodup
 xu:aE (λc a=>gu κ (ao α Z H) H a c) Ω α
 sep:∀a∈α,¬ Z a
 dom:∀a,Z a->H a≠none
structure cv(α:List Addr)(Z:Addr->Prop)(H:Hp)(α':List Addr)(Z':Addr->Prop)(H':Hp):Prop where
 pre:∀(n:Nat) (a:Addr),α[n]?=some a->α'[n]?=some a
 sub:∀a,Z a->Z' a
 new:∀a,Z' a->Z a\/H a=none
 Cz:∀a∈α',a∈α\/H a=none
 frm:∀a o,H a=some o->a∉α->H' a=some o
 has:∀a∈α,H' a≠none
 dg:∀a o u,H a=some (.dg o u)->H' a=some (.dg o u)
section
variable{κ:Str->Addr->Prop}{α α' GQ:List Addr}{Z Z' RY:Addr->Prop}{Ω au:az}{H H' RZ:Hp}
theorem cv.refl(h:∀a∈α,H a≠none):cv α Z H α Z H:=⟨λ_ _ e=>e,λ_ h=>h,λ_ h=>.inl h,λ_ h=>.inl h,λ_ _ e _=>e,h,λ_ _ _ e=>e⟩
theorem bF.has(S:bF κ α Z Ω H):∀a∈α,H a≠none:=λa b=>by
 obtain⟨n,d⟩:=List.mem_iff_getElem?.mp b;obtain⟨c,_,h⟩:=S.xu.DS d;exact h.some
theorem cv.none(g:cv α Z H α' Z' H'){a:Addr}(h:H' a=none):H a=none:=by
 cases q:H a with
 |none=>rfl
 |some o=>
  by_cases b:a∈α
  .exact absurd h (g.has a b)
  .rw[g.frm a o q b]at h;cases h
theorem cv.trans(g:cv α Z H α' Z' H')(g':cv α' Z' H' GQ RY RZ):cv α Z H GQ RY RZ where
 pre:=λn a e=>g'.pre n a (g.pre n a e)
 sub:=λa h=>g'.sub a (g.sub a h)
 new:=λa h=>by
  rcases g'.new a h with h|h
  .exact g.new a h
  .exact .inr (g.none h)
 Cz:=λa h=>by
  rcases g'.Cz a h with h|h
  .exact g.Cz a h
  .exact .inr (g.none h)
 frm:=λa o e b=>g'.frm a o (g.frm a o e b) λh=>by
  rcases g.Cz a h with h|h
  .exact b h
  .rw[e]at h;cases h
 has:=λa b=>by
  obtain⟨n,c⟩:=List.mem_iff_getElem?.mp b;exact g'.has a (List.mem_of_getElem? (g.pre n a c))
 dg:=λa o u e=>g'.dg a o u (g.dg a o u e)
theorem bF.c_(S:bF κ α Z Ω H)(g:cv α Z H α' Z' H'){d:D}{v:V}(h:ao α Z H d v):ao α' Z' H' d v:=
 h.mono g.pre (λa o z e=>g.frm a o e λb=>S.sep a b z) g.sub
theorem bF.jG(S:bF κ α Z Ω H)(g:cv α Z H α' Z' H'){ds:List D}{vs:List V}(h:aE (ao α Z H) ds vs):aE (ao α' Z' H') ds vs:=h.imp λ_ _ q=>S.c_ g q
theorem bF.cell(S:bF κ α Z Ω H){n:Nat}{c:Cell}(e:Ω[n]?=some c):∃a,α[n]?=some a/\gu κ (ao α Z H) H a c:=S.xu.get e
theorem bF.len(S:bF κ α Z Ω H):α.length=Ω.length:=S.xu.length
theorem bF.xv(S:bF κ α Z Ω H){p:Addr}{o:HO}(h:H p=none)(z:Prop)[Decidable z]:bF κ α (if z then Zp Z p else Z) Ω (upd H p o)/\cv α Z H α (if z then Zp Z p else Z) (upd H p o):=by
 have j:∀a∈α,a≠p:=λa f e=>S.has a f (e▸h)
 have k:∀a,Z a->a≠p:=λa i e=>S.dom a i (e▸h)
 have l:∀a,Z a->(if z then Zp Z p else Z) a:=λa f=>by
  split
  .exact .inl f
  .exact f
 have g:cv α Z H α (if z then Zp Z p else Z) (upd H p o):=⟨λ_ _ e=>e,l,λa f=>by
   split at f
   .rcases f with f|rfl
    .exact .inl f
    .exact .inr h
   .exact .inl f,λ_ f=>.inl f,λa u e _=>by rw[aF (bb e h)];exact e,λa f=>by rw[aF (j a f)];exact S.has a f,λa m u e=>by rw[aF (bb e h)];exact e⟩
 refine⟨⟨S.rK,?_,λa f i=>?_,λa f=>?_⟩,g⟩
 .refine S.xu.imp λc a n=>?_
  refine n.imp (λd v r=>S.c_ g r) (λu e=>?_) λb m q e=>?_
  .rw[aF (bb e h)];exact e
  .rw[aF (bb e h)];exact e
 .split at i
  .rcases i with i|rfl
   .exact S.sep a f i
   .exact j _ f rfl
  .exact S.sep a f i
 .split at f
  .rcases f with f|rfl
   .rw[aF (k a f)];exact S.dom a f
   .rw[aR];simp
  .rw[aF (k a f)];exact S.dom a f
theorem bF.laid(S:bF κ α Z Ω H){p:Addr}{o:HO}{c:Cell}(h:H p=none)(k:∀R:D->V->Prop,(∀d v,ao α Z H d v->R d v)->gu κ R (upd H p o) p c):bF κ (α++[p]) Z (Ω++[c]) (upd H p o)/\cv α Z H (α++[p]) Z (upd H p o):=by
 have f:∀a∈α,a≠p:=λa ha e=>S.has a ha (e▸h)
 have i:∀a,Z a->a≠p:=λa j e=>S.dom a j (e▸h)
 have g:cv α Z H (α++[p]) Z (upd H p o):=⟨λn a e=>by rw[List.getElem?_append_left (List.getElem?_eq_some_iff.mp e).1];exact e,λ_ h=>h,λ_ h=>.inl h,λa ha=>by
   rcases List.mem_append.mp ha with ha|ha
   .exact .inl ha
   .rw[List.mem_singleton.mp ha];exact .inr h,λa u e _=>by rw[aF (bb e h)];exact e,λa ha=>by rw[aF (f a ha)];exact S.has a ha,λa l u e=>by rw[aF (bb e h)];exact e⟩
 refine⟨⟨?_,?_,λa ha j=>?_,λa ha=>by rw[aF (i a ha)];exact S.dom a ha⟩,g⟩
 .refine List.nodup_append.mpr ⟨S.rK,by simp,λa ha b m=>?_⟩
  rw[List.mem_singleton.mp m];exact f a ha
 .refine aE.append (S.xu.imp λc a k=>?_) (.one (k _ λd v r=>S.c_ g r))
  refine k.imp (λd v r=>S.c_ g r) (λu e=>?_) λb l q e=>?_
  .rw[aF (bb e h)];exact e
  .rw[aF (bb e h)];exact e
 .rcases List.mem_append.mp ha with ha|ha
  .exact S.sep a ha j
  .rw[List.mem_singleton.mp ha]at j;exact i _ j rfl
theorem bF.put(S:bF κ α Z Ω H){n:Nat}{p:Addr}{o:HO}{c:Cell}(E:α[n]?=some p)(s:∀o u,H p≠some (.dg o u))(I:∀R:D->V->Prop,(∀d v,ao α Z H d v->R d v)->gu κ R (upd H p o) p c):bF κ α Z (Ω.set n c) (upd H p o)/\cv α Z H α Z (upd H p o):=by
 have w:p∈α:=List.mem_of_getElem? E
 have g:cv α Z H α Z (upd H p o):=⟨λn a e=>e,λ_ h=>h,λ_ h=>.inl h,λa k=>.inl k,λa u e k=>by rw[aF (λ(q:a=p)=>k (by rw[q];exact w))];exact e,λa k=>by
   by_cases q:a=p
   .subst q;rw[aR];simp
   .rw[aF q];exact S.has a k,λa l u e=>by rw[aF (λq=>s l u (by rw[←q];exact e))];exact e⟩
 refine⟨⟨S.rK,?_,S.sep,λa k=>?_⟩,g⟩
 .have x:∀{j:List Cell}{f:List Addr}{n:Nat},f.Nodup->aE (λc a=>gu κ (ao α Z H) H a c) j f->f[n]?=some p->aE (λc a=>gu κ (ao α Z (upd H p o)) (upd H p o) a c) (j.set n c) f:=by
   intro j f n y z
   induction z generalizing n with
   |nil=>intro e;simp at e
   |@cons K A j f r t B=>
    intro e;have i:=List.nodup_cons.mp y;cases n with
    |zero=>
     simp at e;subst e;refine .cons (I _ λd v r=>S.c_ g r) (aE.imp (λ_ _ q=>q) ?_)
     have:∀{j:List Cell}{f:List Addr},A∉f->aE (λc a=>gu κ (ao α Z H) H a c) j f->aE (λc a=>gu κ (ao α Z (upd H A o)) (upd H A o) a c) j f:=by
      intro j f m z
      induction z with
      |nil=>exact .nil
      |@cons L M j f r t B=>
       refine .cons (r.imp (λd v q=>S.c_ g q) (λu e=>?_) λb l C e=>?_) (B λq=>m (List.mem_cons_of_mem _ q))
       .rw[aF (λq=>m (by rw[q];simp))];exact e
       .rw[aF (λq=>s l C (by rw[←q];exact e))];exact e
     exact this i.1 t
    |succ n=>
     have F:f[n]?=some p:=by simpa using e
     refine .cons (r.imp (λd v q=>S.c_ g q) (λu J=>?_) λb l C G=>?_) (B i.2 F)
     .rw[aF (λq=>i.1 (by rw[q];exact List.mem_of_getElem? F))];exact J
     .rw[aF (λq=>s l C (by rw[←q];exact G))];exact G
  exact x S.rK S.xu E
 .by_cases q:a=p
  .subst q;rw[aR];simp
  .rw[aF q];exact S.dom a k
end
end Mir
namespace Mir
open PySem PySem.Spec PyProof.Rows L2
variable [aK]
abbrev fm:=D->az->List Addr->(Addr->Prop)->Hp->Prop
def bO(κ:Str->Addr->Prop)(Φ:fm)(f:List Addr)(Z:Addr->Prop)(H:Hp)(r:ax D)(Q:VK):Prop:=match r with
 |.ok d b=>∀v c a e,cv f Z H a e c->bF κ a e b c->ao a e c d v->Q v c
 |.exc x b=>∀c a e,cv f Z H a e c->bF κ a e b c->Φ x b a e c
 |.bad=>False
structure cT(κ:Str->Addr->Prop)(hZ:List Addr)(Z0:Addr->Prop)(H0:Hp)(α:List Addr)(Z:Addr->Prop)(Ω:az)(ρ:aV)(σ:L2.St)(H:Hp):Prop where
 st:bF κ α Z Ω H
 gr:cv hZ Z0 H0 α Z H
 len:σ.length=ρ.length
 val:∀(i:Nat) (d:D),ρ[i]?=some (some d)->∃v,σ[i]?=some (some v)/\ao α Z H d v
abbrev EM:=aV->az->ax D
noncomputable def tO(κ:Str->Addr->Prop)(Φ:fm)(a:List Addr)(c:Addr->Prop)(d:Hp)(m:EM)(ρ:aV)(Ω:az):TE:=λe H Q=>
 ∃b Z,cT κ a c d b Z Ω ρ e H/\bO κ Φ b Z H (m ρ Ω) Q
def bu(X:Cx)(κ:Str->Addr->Prop)(Φ:fm)(e:Expr)(m:EM):Prop:=∀a b c d f,PE X e (tO κ Φ a b c m d f)
section
variable{κ:Str->Addr->Prop}{Φ:fm}{α α' hZ α1:List Addr}{Z Z' Z0 Z1:Addr->Prop}{Ω au:az}{H H' H0 H1:Hp}{ρ:aV}{σ:L2.St}{Q Q':VK}{r:ax D}
theorem bO.from(g:cv α Z H α1 Z1 H1)(h:bO κ Φ α Z H r Q):bO κ Φ α1 Z1 H1 r Q:=by
 cases r with
 |ok d b=>exact λv c a e f=>h v c a e (g.trans f)
 |exc x b=>exact λc a e f=>h c a e (g.trans f)
 |bad=>exact h
theorem bO.use{f:D->az->ax D}(h:bO κ Φ α Z H (r.bind f) Q)(k:∀d aS,r=.ok d aS->∀v b a c,cv α Z H a c b->bF κ a c aS b->ao a c b d v->bO κ Φ a c b (f d aS) Q->Q' v b):bO κ Φ α Z H r Q':=by
 cases r with
 |ok d aS=>exact λv b a c g s q=>k d aS rfl v b a c g s q (bO.from g h)
 |exc x aS=>exact h
 |bad=>exact h
theorem bO.ret{d:D}{v:V}(S:bF κ α Z Ω H)(q:ao α Z H d v)(h:bO κ Φ α Z H (.ok d Ω) Q):Q v H:=h v H α Z (cv.refl S.has) S q
theorem cT.grow(S:cT κ hZ Z0 H0 α Z Ω ρ σ H)(g:cv α Z H α' Z' H')(s:bF κ α' Z' au H'):cT κ hZ Z0 H0 α' Z' au ρ σ H':=
 ⟨s,S.gr.trans g,S.len,λi d e=>let ⟨v,a,b⟩:=S.val i d e;⟨v,a,S.st.c_ g b⟩⟩
theorem a_{d:D}{v:V}(h:f_ d=some v):ao α Z H d v:=by
 cases d<;>simp only[f_]at h<;>first|cases h;simp only[ao]|cases h
theorem tD{d:D}(h:eV d=true):∃v,f_ d=some v:=by
 cases d<;>first|exact⟨_,rfl⟩|cases h
theorem dJ{d:D}{v w:V}(h:f_ d=some w)(r:Rep Z H d v):v=w:=by
 cases d<;>simp only[f_]at h<;>first | (cases h;simpa only [Rep]using r)|cases h
noncomputable def bz{a b:Type}(f:a->Option b):List a->Option (List b)
 |[]=>some []
 |x::xs=>match f x,bz f xs with
  |some y,some ys=>some (y::ys)
  |_,_=>none
def et(Ω:az):Nat->D->Option D
 |_,.non=>some .non
 |_,.bl b=>some (.bl b)
 |_,.int i=>some (.int i)
 |_,.str x=>some (.str x)
 |0,_=>none
 |n+1,.lst ds=>(bz (et Ω n) ds).map .lst
 |n+1,.tup ds=>(bz (et Ω n) ds).map .tup
 |n+1,.ref k=>match Ω[k]? with
  |some (.lst ds)=>(bz (et Ω n) ds).map .lst
  |_=>none
 |_+1,.dct _ _=>none
def tE(b:List Addr)(Z:Addr->Prop):Addr->Prop:=λa=>Z a\/a∈b
theorem eK{f:D->Option D}{R:D->V->Prop}{S:D->V->Prop}(a:∀d d' v,f d=some d'->R d v->S d' v):∀{ds es:List D}{vs:List V},bz f ds=some es->aE R ds vs->aE S es vs
 |[],es,vs,h,r=>by cases h;rw[r.nil_inv];exact .nil
 |d::ds,es,vs,h,r=>by
  simp only[bz]at h;split at h
  .rename_i y ys h1 h2
   cases h;obtain⟨v,b,rfl,c,e⟩:=r.cons_inv;exact .cons (a d y v h1 c) (eK a h2 e)
  .cases h
theorem gv:∀{ds:List D}{vs:List V},aE (Rep Z H) ds vs->aX Z H ds vs
 |_,_,.nil=>.nil
 |_,_,.cons r t=>.cons r (gv t)
theorem kc(S:bF κ α Z Ω H):∀(n:Nat) {d d':D}{v:V},et Ω n d=some d'->ao α Z H d v->Rep (tE α Z) H d' v:=by
 intro n
 induction n with
 |zero=>
  intro d d' v h r;cases d<;>simp only[et]at h<;>first | (cases h;simpa only [Rep,ao]using r)|cases h
 |succ n g=>
  intro d d' v h r;cases d with
  |lst l=>
   simp only[et]at h;obtain⟨m,b,rfl⟩:=Option.map_eq_some_iff.mp h;simp only[ao]at r;obtain⟨a,c,rfl,i,j,e⟩:=r;simp only[Rep];exact⟨a,c,rfl,.inl i,j,gv (eK (S:=Rep (tE α Z) H) (λd d' v q r=>g q r) b (cz.mp e))⟩
  |tup l=>
   simp only[et]at h;obtain⟨m,b,rfl⟩:=Option.map_eq_some_iff.mp h;simp only[ao]at r;obtain⟨a,c,rfl,i,j,e⟩:=r;simp only[Rep];exact⟨a,c,rfl,.inl i,.inl j,gv (eK (S:=Rep (tE α Z) H) (λd d' v q r=>g q r) b (cz.mp e))⟩
  |ref k=>
   simp only[et]at h;split at h
   .rename_i l p
    obtain⟨m,b,rfl⟩:=Option.map_eq_some_iff.mp h;obtain⟨a,o,c,s,e⟩:=S.cell p;simp only[ao]at r;obtain⟨t,f,rfl⟩:=r;rw[o]at f;cases f;simp only[Rep];exact⟨a,c,rfl,.inr (List.mem_of_getElem? o),.inl s,gv (eK (S:=Rep (tE α Z) H) (λd d' v q r=>g q r) b e)⟩
   .cases h
  |dct _ _=>cases h
  |_=>simp only[et]at h;cases h;simpa only [Rep,ao]using r
theorem dM(S:bF κ α Z Ω H):∀a,tE α Z a->H a≠none:=λa h=>h.elim (S.dom a) (S.has a)
theorem bF.same(S:bF κ α Z Ω H)(h:iE H H'):bF κ α Z Ω H'/\cv α Z H α Z H':=by
 have g:cv α Z H α Z H':=⟨λ_ _ e=>e,λ_ z=>z,λ_ z=>.inl z,λ_ z=>.inl z,λa o e _=>h a o e,λa f=>by
  cases q:H a with
  |none=>exact absurd q (S.has a f)
  |some o=>rw[h a o q];simp,λa o u e=>h a _ e⟩
 refine⟨⟨S.rK,S.xu.imp λc a i=>i.imp (λd v r=>S.c_ g r) (λo e=>h a o e) λb o u e=>h b _ e,S.sep,λa z=>?_⟩,g⟩
 cases q:H a with
 |none=>exact absurd q (S.dom a z)
 |some o=>rw[h a o q];simp
theorem bF.adopt(S:bF κ α Z Ω H)(h:iE H H'){p:Addr}(i:H p=none){c:Cell}(j:∀R:D->V->Prop,(∀d v,ao α Z H' d v->R d v)->gu κ R H' p c):bF κ (α++[p]) Z (Ω++[c]) H'/\cv α Z H (α++[p]) Z H':=by
 obtain⟨o,k⟩:=S.same h;have l:∀a∈α,a≠p:=λa ha e=>S.has a ha (e▸i)
 have m:∀a,Z a->a≠p:=λa f e=>S.dom a f (e▸i)
 have g:∀(n:Nat) (a:Addr),α[n]?=some a->(α++[p])[n]?=some a:=λn a e=>by rw[List.getElem?_append_left (List.getElem?_eq_some_iff.mp e).1];exact e
 have mono:∀d v,ao α Z H' d v->ao (α++[p]) Z H' d v:=λd v r=>r.mono g (λ_ _ _ e=>e) λ_ z=>z
 refine⟨⟨?_,?_,λa ha f=>?_,o.dom⟩,⟨g,λ_ z=>z,λ_ z=>.inl z,λa ha=>?_,k.frm,k.has,k.dg⟩⟩
 .refine List.nodup_append.mpr ⟨S.rK,by simp,λa ha b q=>?_⟩
  rw[List.mem_singleton.mp q];exact l a ha
 .exact aE.append (o.xu.imp λc a j=>j.imp mono (λ_ e=>e) λ_ _ _ e=>e) (.one (j _ mono))
 .rcases List.mem_append.mp ha with ha|ha
  .exact S.sep a ha f
  .rw[List.mem_singleton.mp ha]at f;exact m _ f rfl
 .rcases List.mem_append.mp ha with ha|ha
  .exact .inl ha
  .rw[List.mem_singleton.mp ha];exact .inr i
noncomputable def g_(Ω:az)(c:Cell):ax D:=.ok (.ref Ω.length) (Ω++[c])
def fM(Ω:az):Out Rs->ax D
 |.ok (own,d)=>if eV d then .ok d Ω else match own,d with
  |true,.lst ds=>if ds.all eV then g_ Ω (.lst ds)else .bad
  |_,_=>.bad
 |_=>.bad
theorem eh(S:bF κ α Z Ω H)(p:Addr):ao (α++[p]) Z H' (.ref Ω.length) (.ref p):=by
 simp only[ao];exact⟨p,by rw[←S.len];simp,rfl⟩
theorem mQ:∀{ds:List D}{vs:List V},ds.all eV=true->aX Z1 H1 ds vs->aE (ao α Z H) ds vs
 |[],vs,_,r=>by rw[r.nil_inv];exact .nil
 |d::ds,vs,h,r=>by
  obtain⟨v,b,rfl,c,e⟩:=r.cons_inv;simp only[List.all_cons,Bool.and_eq_true]at h;obtain⟨w,a⟩:=tD h.1;obtain rfl:=dJ a c;exact .cons (a_ a) (mQ h.2 e)
theorem iF{bw:Bool}{r:Out Rs}(S:bF κ α Z Ω H)(h:bO κ Φ α Z H (fM Ω r) Q):∃e d,r=.ok (e,d)/\∀v b m f,eG m H f b->ee bw e f H b d v->Q v b:=by
 cases r with
 |ok q=>
  obtain⟨e,d⟩:=q;refine⟨e,d,rfl,λv b m f g q=>?_⟩
  simp only[fM]at h;split at h
  .rename_i o
   obtain⟨w,i⟩:=tD o
   have p:v=w:=by
    have n:=q.nw;cases d with
    |non=>exact dJ (Z:=f) (H:=b) i n
    |bl _=>exact dJ (Z:=f) (H:=b) i n
    |int _=>exact dJ (Z:=f) (H:=b) i n
    |str _=>exact dJ (Z:=f) (H:=b) i n
    |_=>cases o
   subst p;obtain⟨j,k⟩:=S.same g.same;exact h v b α Z k j (a_ i)
  .split at h
   .rename_i s t
    split at h
    .rename_i l
     unfold ee at q;rw[if_pos rfl]at q;obtain⟨a,u,x,y,rfl,z,D,A,B⟩:=q;cases y;obtain⟨j,k⟩:=S.adopt (c:=.lst s) g.same z (λR C=>⟨u,A,(mQ l B).imp C⟩)
     exact h _ b _ Z k j (eh S a)
    .exact h.elim
   .exact h.elim
 |exc c E=>exact h.elim
 |bad=>exact h.elim
end
section
variable{X:Cx}{κ:Str->Addr->Prop}{Φ:fm}{α:List Addr}{Z:Addr->Prop}{Ω:az}{H:Hp}{Q:VK}
noncomputable def Mi:R2:=λx y H Q=>∃z n,x=.str z/\y=.int n/\MulOk z n/\Q (.str (Txt.mul z n)) H
theorem Ai:gf X (binaryOp .Mult) Mi:=by
 intro pins s e H x y u v Q I a b h;obtain⟨z,n,rfl,rfl,c,q⟩:=h;obtain⟨t,rfl⟩:=a;obtain⟨f,rfl⟩:=b;exact SB.mul c λd k=>⟨.str _,H,I.tok k,⟨d,rfl⟩,q⟩
noncomputable def pP(x y:D)(Ω:az):ax D:=match x,y with
 |.str z,.int n=>if decide (1<=n)&&decide (n<=1000)&&decide (z.length<=1000)then .ok (.str (Txt.mul z n)) Ω else .bad
 |_,_=>.bad
theorem Aj{a b:D}{x y:V}(S:bF κ α Z Ω H)(c:ao α Z H a x)(d:ao α Z H b y)(g:bO κ Φ α Z H (pP a b Ω) Q):Mi x y H Q:=by
 unfold pP at g;split at g
 .rename_i z n
  simp only[ao]at c d;subst c;subst d;split at g
  .rename_i f
   simp only[Bool.and_eq_true,decide_eq_true_eq]at f;obtain⟨⟨i,j⟩,h⟩:=f;refine⟨z,n,rfl,rfl,⟨?_,λ_ _=>?_,λ_ _=>?_⟩,bO.ret S (a_ rfl) g⟩
   .rw[decide_eq_false (by omega),decide_eq_false (by omega)];rfl
   .have:=(Int.le_ediv_iff_mul_le (show 0<n by omega)).mpr (show(1000:Int)*n<=9223372036854775807 by omega)
    show ¬ ((z.length:Int)>(2 ^ 63 - 1) / n)
    have e:((2:Int) ^ 63 - 1)=9223372036854775807:=by decide
    rw[e];omega
   .have:z.length*n.toNat<=1000*1000:=Nat.mul_le_mul h (by omega)
    unfold Builtin.Str.tooLong;rw[sizeLine_eq];simp;omega
  .exact g.elim
 .exact g.elim
end
def m1(f:D->az->ax D)(a:EM):EM:=λb c=>(a b c).bind f
def m2(f:D->D->az->ax D)(d e:EM):EM:=λc g=>(d c g).bind λx a=>(e c a).bind λy b=>f x y b
noncomputable def hF(a b:ax D):ax D:=match a with
 |.bad=>b
 |r=>r
def eL(f g:D->D->az->ax D):D->D->az->ax D:=λx y a=>hF (f x y a) (g x y a)
def fA(f g:EM):EM:=λa b=>hF (f a b) (g a b)
def ve(f:D->Out Rs):D->az->ax D:=λx a=>match et a 8 x with
 |some b=>fM a (f b)
 |none=>.bad
def fc(f:D->D->Out Rs):D->D->az->ax D:=λx y a=>match et a 8 x,et a 8 y with
 |some b,some c=>fM a (f b c)
 |_,_=>.bad
def gw(Ω:az):D->Option Bool
 |.ref k=>match Ω[k]? with
  |some (.lst ds)=>some (!ds.isEmpty)
  |some (.dK kvs)=>some (!kvs.isEmpty)
  |_=>none
 |d=>jQ d
def dE:ax D->ax Bool
 |.ok d Ω=>match gw Ω d with
  |some b=>.ok b Ω
  |none=>.bad
 |.exc x Ω=>.exc x Ω
 |.bad=>.bad
def oY(κ:Str->Addr->Prop)(Φ:fm)(f:List Addr)(Z:Addr->Prop)(H:Hp)(r:ax Bool)(Q:Bool->Hp->Prop):Prop:=match r with
 |.ok b c=>∀d a e,cv f Z H a e d->bF κ a e c d->Q b d
 |.exc x c=>∀d a e,cv f Z H a e d->bF κ a e c d->Φ x c a e d
 |.bad=>False
def Mj(κ:Str->Addr->Prop)(Φ:fm)(a:List Addr)(c:Addr->Prop)(d:Hp)(m:EM)(ρ:aV)(Ω:az):TT:=λe H Q=>∃b Z,cT κ a c d b Z Ω ρ e H/\oY κ Φ b Z H (dE (m ρ Ω)) Q
def gg(X:Cx)(κ:Str->Addr->Prop)(Φ:fm)(e:Expr)(m:EM):Prop:=∀a b c d f,PT X e (Mj κ Φ a b c m d f)
abbrev AM:=aV->az->ax (List D)
def pQ(κ:Str->Addr->Prop)(Φ:fm)(e:List Addr)(Z:Addr->Prop)(H:Hp)(r:ax (List D))(Q:List V->Hp->Prop):Prop:=match r with
 |.ok g b=>∀f c a d,cv e Z H a d c->bF κ a d b c->aE (ao a d c) g f->Q f c
 |.exc x b=>∀c a d,cv e Z H a d c->bF κ a d b c->Φ x b a d c
 |.bad=>False
noncomputable def Uz(κ:Str->Addr->Prop)(Φ:fm)(a:List Addr)(c:Addr->Prop)(d:Hp)(m:AM)(ρ:aV)(Ω:az):TA:=λe H Q=>∃b Z,cT κ a c d b Z Ω ρ e H/\pQ κ Φ b Z H (m ρ Ω) Q
def qO(X:Cx)(κ:Str->Addr->Prop)(Φ:fm)(es:List Expr)(m:AM):Prop:=∀a b c d e,PA X es (Uz κ Φ a b c m d e)
noncomputable def af:AM:=λ_ a=>.ok [] a
def ab(a:EM)(e:AM):AM:=λd f=>(a d f).bind λx b=>(e d b).bind λg c=>.ok (x::g) c
def mN(f:List D->az->ax D)(a:AM):EM:=λb c=>(a b c).bind f
section
variable{X:Cx}{κ:Str->Addr->Prop}{Φ:fm}{α α' hZ α1:List Addr}{Z Z' Z0 Z1:Addr->Prop}{Ω au:az}{H H' H0 H1:Hp}{ρ:aV}{σ:L2.St}{Q Q':VK}{r:ax D}{a b e:Expr}{es:List Expr}{ma mb mc m:EM}{as:AM}{pos:Pos}
theorem pQ.from{r:ax (List D)}{Q:List V->Hp->Prop}(g:cv α Z H α1 Z1 H1)(h:pQ κ Φ α Z H r Q):pQ κ Φ α1 Z1 H1 r Q:=by
 cases r with
 |ok d b=>exact λv c a e f=>h v c a e (g.trans f)
 |exc x b=>exact λc a e f=>h c a e (g.trans f)
 |bad=>exact h
theorem oY.from{r:ax Bool}{Q:Bool->Hp->Prop}(g:cv α Z H α1 Z1 H1)(h:oY κ Φ α Z H r Q):oY κ Φ α1 Z1 H1 r Q:=by
 cases r with
 |ok d b=>exact λc a e f=>h c a e (g.trans f)
 |exc x b=>exact λc a e f=>h c a e (g.trans f)
 |bad=>exact h
theorem pQ.use{r:ax (List D)}{f:List D->az->ax D}{Q':List V->Hp->Prop}(h:bO κ Φ α Z H (r.bind f) Q)(k:∀ds aS,r=.ok ds aS->∀vs b a c,cv α Z H a c b->bF κ a c aS b->aE (ao a c b) ds vs->bO κ Φ a c b (f ds aS) Q->Q' vs b):pQ κ Φ α Z H r Q':=by
 cases r with
 |ok d aS=>exact λv b a c g s q=>k d aS rfl v b a c g s q (bO.from g h)
 |exc x aS=>exact h
 |bad=>exact h
theorem PE.or{t u:TE}(h:PE X e t)(h':PE X e u):PE X e (λa H Q=>t a H Q\/u a H Q):=λpins s a H Q I q=>q.elim (h pins s a H Q I) (h' pins s a H Q I)
theorem PT.or{t u:TT}(h:PT X e t)(h':PT X e u):PT X e (λa H Q=>t a H Q\/u a H Q):=λpins s a H Q I q=>q.elim (h pins s a H Q I) (h' pins s a H Q I)
theorem mR{a b:ax D}:hF a b=a\/(a=.bad/\hF a b=b):=by cases a<;>simp[hF]
theorem bu.alt(h:bu X κ Φ e ma)(h':bu X κ Φ e mb):bu X κ Φ e (fA ma mb):=by
 intro c i j d f;refine PE.imp (PE.or (h c i j d f) (h' c i j d f)) ?_;rintro l H Q ⟨k,Z,S,g⟩;rcases mR (a:=ma d f) (b:=mb d f)with q|⟨_,q⟩
 .exact .inl ⟨k,Z,S,by rw[←q];exact g⟩
 .exact .inr ⟨k,Z,S,by rw[←q];exact g⟩
theorem gg.alt(h:gg X κ Φ e ma)(h':gg X κ Φ e mb):gg X κ Φ e (fA ma mb):=by
 intro c i j d f;refine PT.imp (PT.or (h c i j d f) (h' c i j d f)) ?_;rintro l H Q ⟨k,Z,S,g⟩;rcases mR (a:=ma d f) (b:=mb d f)with q|⟨_,q⟩
 .exact .inl ⟨k,Z,S,by rw[←q];exact g⟩
 .exact .inr ⟨k,Z,S,by rw[←q];exact g⟩
theorem fN{f g:D->D->az->ax D}:m2 (eL f g) ma mb=fA (m2 f ma mb) (m2 g ma mb):=by
 funext c a
 simp only[m2,fA];cases ma c a with
 |ok x b=>
  simp only[ax.bind];cases mb c b with
  |ok y d=>rfl
  |exc x a=>rfl
  |bad=>rfl
 |exc x a=>rfl
 |bad=>rfl
theorem nY{f:D->az->ax D}{r:V->Hp->VK->Prop}(h:∀l,PE X a l->PE X e λm H Q=>l m H λx c=>r x c Q)(o:bu X κ Φ a ma)
  (p:∀n x b Z Ω H Q,bF κ b Z Ω H->ao b Z H n x->bO κ Φ b Z H (f n Ω) Q->r x H Q):bu X κ Φ e (m1 f ma):=by
 intro i q s t Ω;refine PE.imp (h _ (o i q s t Ω)) ?_;rintro m H Q ⟨b,Z,S,g⟩;refine⟨b,Z,S,g.use λd j _ v c k u A w y z=>?_⟩
 exact p d v k u j c Q w y z
theorem dn{f:D->D->az->ax D}{r:R2}(h:∀u tb,PE X a u->PE X b tb->PE X e (FA r u tb))(n:bu X κ Φ a ma)(o:bu X κ Φ b mb)
  (G:∀z A x y i Z Ω H Q,bF κ i Z Ω H->ao i Z H z x->ao i Z H A y->bO κ Φ i Z H (f z A Ω) Q->r x y H Q):bu X κ Φ e (m2 f ma mb):=by
 intro c k l j Ω;rcases q:ma j Ω with ⟨d,m⟩|⟨x,m⟩|_
 .refine PE.imp (h _ _ (n c k l j Ω) (o c k l j m)) ?_
  rintro B H Q ⟨i,Z,S,g⟩;refine⟨i,Z,S,bO.use g λU C E v V p I J F K L=>?_⟩
  rw[q]at E;cases E;refine⟨p,I,S.grow J F,L.use λd2 s _ w M t N O P R T=>?_⟩
  exact G d d2 v w t N s M Q P (F.c_ O K) R T
 .refine PE.imp (h _ _ (n c k l j Ω) (o c k l j Ω)) ?_
  rintro B H Q ⟨i,Z,S,g⟩;refine⟨i,Z,S,?_⟩;simp only[m2,q,ax.bind]at g ⊢;exact g
 .refine PE.imp (h _ _ (n c k l j Ω) (o c k l j Ω)) ?_
  rintro B H Q ⟨i,Z,S,g⟩;simp only[m2,q,ax.bind]at g;exact g.elim
theorem pR{bw:Bool}{f:D->Out Rs}{i:D}{x:V}(S:bF κ α Z Ω H)(j:ao α Z H i x)(h:bO κ Φ α Z H (ve f i Ω) Q) :
  ∃d a d',Now (tE α Z) H d x/\f d=.ok (a,d')/\∀v b c,eG (tE α Z) H c b->ee bw a c H b d' v->Q v b:=by
 unfold ve at h;split at h
 .rename_i d l
  obtain⟨a,d',e,k⟩:=iF (bw:=bw) S h;exact⟨d,a,d',(kc S 8 l j).now,e,λv b c g q=>k v b _ c g q⟩
 .exact h.elim
theorem gy{bw:Bool}{f:D->D->Out Rs}{i j:D}{x y:V}(S:bF κ α Z Ω H)(l:ao α Z H i x)(m:ao α Z H j y)(h:bO κ Φ α Z H (fc f i j Ω) Q) :
  ∃d e a d',Now (tE α Z) H d x/\Now (tE α Z) H e y/\f d e=.ok (a,d')/\∀v b c,eG (tE α Z) H c b->ee bw a c H b d' v->Q v b:=by
 unfold fc at h;split at h
 .rename_i d e n o
  obtain⟨a,d',p,k⟩:=iF (bw:=bw) S h;exact⟨d,e,a,d',(kc S 8 n l).now,(kc S 8 o m).now,p,λv b c g q=>k v b _ c g q⟩
 .exact h.elim
theorem Ak{i:Nat}{x:Str}(c:X.N[i]?=some x)(e:Fy X.env.scope x)(a:(x==("__debug__":Str))=false)(b:(x==("__classdict__":Str))=false):bu X κ Φ (.Name x pos) (λρ Ω=>match ρ[i]? with|some (some d)=>.ok d Ω|_=>.bad):=by
 intro f k l ρ Ω;refine PE.imp (Df c e a b) ?_;rintro m H Q ⟨n,Z,S,g⟩;dsimp only at g;split at g
 .rename_i d a
  obtain⟨v,h,j⟩:=S.val i d a;exact⟨v,h,bO.ret S.st j g⟩
 .exact g.elim
theorem ke{d:D}{v:V}(h:PE X e (tC v))(a:f_ d=some v):bu X κ Φ e (λ_ Ω=>.ok d Ω):=by
 intro b c f i Ω;refine PE.imp h ?_;rintro j H Q ⟨k,Z,S,g⟩;exact bO.ret S.st (a_ a) g
def DT(d:D)(v:V):Prop:=f_ d=some v\/d=.dct [] []
theorem xw{d:D}{v:V}(h:PE X e (tC v))(a:DT d v):bu X κ Φ e (λ_ Ω=>.ok d Ω):=by
 intro b c f i Ω;refine PE.imp h ?_;rintro j H Q ⟨k,Z,S,g⟩;refine bO.ret S.st ?_ g;rcases a with a|rfl
 .exact a_ a
 .simp only[ao]
noncomputable def dh(Ω:az):D->Option (List D)
 |.ref k=>match Ω[k]? with
  |some (.lst ds)=>some ds
  |_=>none
 |.lst ds=>some ds
 |_=>none
theorem ck{x:D}{v:V}{ds:List D}(S:bF κ α Z Ω H)(r:ao α Z H x v)(h:dh Ω x=some ds):∃a vs,v=.ref a/\Rd H a (.lst vs)/\aE (ao α Z H) ds vs:=by
 cases x with
 |ref k=>
  simp only[dh]at h;split at h
  .rename_i e f
   cases h;simp only[ao]at r;obtain⟨a,g,rfl⟩:=r;obtain⟨i,b,vs,c,d⟩:=S.cell f;rw[g]at b;cases b;exact⟨a,vs,rfl,.inl c,d⟩
  .cases h
 |lst j=>
  cases h;simp only[ao]at r;obtain⟨a,vs,rfl,_,c,d⟩:=r;exact⟨a,vs,rfl,c,cz.mp d⟩
 |_=>cases h
theorem eW{x:V}{ds:List D}(r:ao α Z H (.tup ds) x):∃a vs,x=.ref a/\Z a/\H a=some (.tup vs)/\aE (ao α Z H) ds vs:=by
 simp only[ao]at r;obtain⟨a,vs,e,b,c,d⟩:=r;exact⟨a,vs,e,b,c,cz.mp d⟩
theorem gz{ds:List D}{vs:List V}(S:bF κ α Z Ω H)(r:aE (ao α Z H) ds vs)(k:bO κ Φ α Z H (g_ Ω (.lst ds)) Q):∀p,H p=none->Q (.ref p) (upd H p (.lst vs)):=λp a=>by
 obtain⟨b,d⟩:=S.laid (p:=p) (o:=.lst vs) (c:=.lst ds) a λR e=>⟨vs,aR,r.imp e⟩
 exact k _ _ _ Z d b (eh S p)
theorem pS{ds:List D}{vs:List V}(S:bF κ α Z Ω H)(r:aE (ao α Z H) ds vs)(k:bO κ Φ α Z H (.ok (.tup ds) Ω) Q):∀p,H p=none->Q (.ref p) (upd H p (.tup vs)):=λp c=>by
 obtain⟨b,a⟩:=S.xv (p:=p) (o:=.tup vs) c True;simp only[if_true]at b a;refine k _ _ _ _ a b ?_;simp only[ao];exact⟨p,vs,rfl,.inr rfl,aR,cz.mpr (S.jG a r)⟩
theorem Al:qO X κ Φ [] af:=by
 intro a c d e f;refine PA.imp rf ?_;rintro h H Q ⟨b,Z,S,g⟩;exact g [] H b Z (cv.refl S.st.has) S.st .nil
theorem xx(k:bu X κ Φ e ma)(l:qO X κ Φ es as)(m:starEach (e::es) X.env=(false,eval e X.env)::starEach es X.env):qO X κ Φ (e::es) (ab ma as):=by
 intro a f h b i;rcases q:ma b i with ⟨d,c⟩|⟨x,c⟩|_
 .refine PA.imp (gQ (k a f h b i) (l a f h b c) m) ?_
  rintro r H Q ⟨j,Z,S,g⟩;refine⟨j,Z,S,?_⟩;simp only[ab,q,ax.bind]at g ⊢;intro v C n w s t y;refine⟨n,w,S.grow s t,?_⟩;have g:=pQ.from s g
  rcases o:as b c with ⟨D,p⟩|⟨x,p⟩|_
  .rw[o]at g
   intro E F z G u A B;exact g _ _ _ _ u A (.cons (t.c_ u y) B)
  .rw[o]at g;exact g
  .rw[o]at g;exact g
 .refine PA.imp (gQ (k a f h b i) (l a f h b i) m) ?_
  rintro r H Q ⟨j,Z,S,g⟩;refine⟨j,Z,S,?_⟩;simp only[ab,q,ax.bind]at g ⊢;exact g
 .refine PA.imp (gQ (k a f h b i) (l a f h b i) m) ?_
  rintro r H Q ⟨j,Z,S,g⟩;simp only[ab,q,ax.bind]at g;exact g.elim
def bH(ds:List D)(Ω:az):ax D:=if small ds.length then g_ Ω (.lst ds)else .bad
def hH(ds:List D)(Ω:az):ax D:=if small ds.length then .ok (.tup ds) Ω else .bad
theorem Am(h:qO X κ Φ es as):bu X κ Φ (.List es pos) (mN bH as):=by
 intro b d e f i;refine PE.imp (DE (h b d e f i)) ?_;rintro o H Q ⟨j,Z,S,g⟩;refine⟨j,Z,S,pQ.use g λp k _ q r l s t m c a=>?_⟩
 unfold bH at a;split at a
 .rename_i n
  exact⟨by rw[c.length];exact bC n,gz m c a⟩
 .exact a.elim
theorem An{x1}(h:qO X κ Φ es as):bu X κ Φ (.Tuple es x1 pos) (mN hH as):=by
 intro b d e f i;refine PE.imp (DD (h b d e f i)) ?_;rintro o H Q ⟨j,Z,S,g⟩;refine⟨j,Z,S,pQ.use g λp k _ q r l s t m c a=>?_⟩
 unfold hH at a;split at a
 .rename_i n
  exact⟨by rw[c.length];exact bC n,pS m c a⟩
 .exact a.elim
def rL(x y:D)(Ω:az):ax D:=match dh Ω x,dh Ω y with
 |some a,some b=>if small (a.length+b.length)then g_ Ω (.lst (a++b))else .bad
 |_,_=>.bad
def aY(op:Operator):D->D->az->ax D:=match op with
 |.Add=>eL rL (fc (eR .Add))
 |.Mult=>eL (fc (eR .Mult)) pP
 |op=>fc (eR op)
theorem Ao{op:Operator}(j:bu X κ Φ a ma)(m:bu X κ Φ b mb):bu X κ Φ (.BinOp a op b pos) (m2 (aY op) ma mb):=by
 have E:bu X κ Φ (.BinOp a op b pos) (m2 (fc (eR op)) ma mb):=dn (r:=zT op) (λo tb c f=>wb (wQ op) c f) j m λp q x y s Z t H Q S h i g=>by
  obtain⟨d,e,z,N,A,B,D,k⟩:=gy (bw:=false) S h i g;exact DN (bw:=false) A B (dM S) D k
 have C:op=.Add->bu X κ Φ (.BinOp a op b pos) (m2 rL ma mb):=λe=>by
  subst e;refine dn (r:=zT .Add) (λo tb c f=>wb (wQ .Add) c f) j m λp q x y s Z t H Q S h i g=>?_
  unfold rL at g;split at g
  .rename_i O P F G
   obtain⟨l,I,rfl,J,u⟩:=ck S h F;obtain⟨n,K,rfl,L,w⟩:=ck S i G;split at g
   .rename_i M
    exact .inr (.inr ⟨l,n,I,K,rfl,rfl,J,L,by rw[u.length,w.length];exact bC M,gz S (u.append w) g⟩)
   .exact g.elim
  .exact g.elim
 cases op with
 |Add=>show bu X κ Φ _ (m2 (eL rL (fc (eR .Add))) ma mb);rw[fN];exact(C rfl).alt E
 |Mult=>
  show bu X κ Φ _ (m2 (eL (fc (eR .Mult)) pP) ma mb)
  rw[fN];exact E.alt (dn (r:=Mi) (λo tb c f=>wb Ai c f) j m λp q x y s Z t H Q S h i g=>Aj S h i g)
 |_=>exact E
def GS:D->az->ax D:=ve λx=>match x with|.int i=>.ok (false,.int (-i))|_=>.bad
theorem Ap(c:bu X κ Φ a ma):bu X κ Φ (.UnaryOp .USub a pos) (m1 GS ma):=
 nY (r:=rU λi=>.int (-i)) (λl e=>Gb Dz e) c λm x n Z o H Q S f g=>by
  obtain⟨d,h,p,j,b,k⟩:=pR (bw:=false) S f g;split at b
  .cases bB j
   cases b;exact⟨_,rfl,k _ H _ (eG.refl (dM S)) (.rep (fu rfl))⟩
  .cases b
end
section
variable{X:Cx}
noncomputable def GU:R2:=λx y H Q=>∃a b c d,x=.ref a/\y=.ref b/\Rd H a (.dK c)/\Rd H b (.dK d)/\((c.length≠d.length/\Q (.bl false) H)\/(c=[]/\d=[]/\Q (.bl true) H))
theorem xy(t:X.A.units+64<cLine):gf X (compareOp .Eq) GU:=by
 intro pins s w H x y u v Q I j k h;obtain⟨a,b,B,C,rfl,rfl,l,m,q⟩:=h;cases (show u=Value.ref a from j)
 cases (show v=Value.ref b from k)
 obtain⟨_,e,D,f,c⟩:=gs I.hok l;obtain⟨_,g,E,i,d⟩:=gs I.hok m;have n:=f.length;have o:=i.length;rcases q with ⟨p,q⟩|⟨rfl,rfl,q⟩
 .refine PySem.W.keq_eq (r:=false) e g c d (by omega) (λz=>absurd (n.trans (z.trans o.symm)) p) ⟨.bl false,H,I,?_,q⟩
  show Value.bool _=.bool _
  rw[Bool.and_false]
 .cases f
  cases i;exact PySem.W.keq_eq (r:=true) e g c d (by omega) (λ_=>.nil) ⟨.bl true,H,I,rfl,q⟩
end
noncomputable def bx{κ a:Type}[DecidableEq κ](kvs:List (κ×a))(k:κ):Option a:=(kvs.find? λb=>decide (b.1=k)).map (·.2)
noncomputable def bI{κ b:Type}[DecidableEq κ](kvs:List (κ×b))(k:κ)(v:b):List (κ×b):=
 if (kvs.any λa=>decide (a.1=k))=true then kvs.map (λa=>if a.1=k then (a.1,v)else a)else kvs++[(k,v)]
noncomputable def gd{κ a:Type}[DecidableEq κ](kvs:List (κ×a))(k:κ):List (κ×a):=kvs.filter λb=>decide (b.1≠k)
section
variable{κ:Type}[DecidableEq κ]{R:D->V->Prop}
theorem fy.val{kvs:List (κ×D)}{a:List (κ×V)}(h:fy R kvs a)(k:κ):(∀d,bx kvs k=some d->∃v,g9 a k=some v/\R d v)/\(bx kvs k=none->g9 a k=none):=by
 unfold fy at h
 induction h with
 |nil=>exact⟨λd e=>(by cases e),λ_=>rfl⟩
 |@cons p q b n r t i=>
  obtain⟨g,j⟩:=r
  by_cases e:p.1=k
  .have c:q.1=k:=g▸e
   have f:bx (p::b) k=some p.2:=by simp[bx,List.find?_cons,e]
   rw[f,iA c];exact⟨λd l=>by cases l;exact⟨_,rfl,j⟩,λm=>by cases m⟩
  .have c:¬ q.1=k:=λz=>e (g.trans z)
   have f:bx (p::b) k=bx b k:=by simp[bx,List.find?_cons,e]
   rw[f,iB c];exact i
theorem fy.any{kvs:List (κ×D)}{a:List (κ×V)}(h:fy R kvs a)(k:κ):(a.any λb=>decide (b.1=k))=kvs.any λb=>decide (b.1=k):=by
 unfold fy at h
 induction h with
 |nil=>rfl
 |@cons p q d e r t c=>rw[List.any_cons,List.any_cons,c,r.1]
theorem fy.put{kvs:List (κ×D)}{a:List (κ×V)}(h:fy R kvs a)(k:κ){d:D}{v:V}(r:R d v):fy R (bI kvs k d) (putK a k v):=by
 unfold bI putK;rw[h.any];split
 .rename_i c
  clear c;unfold fy at h
  induction h with
  |nil=>exact .nil
  |@cons p q g i b t f=>
   rw[List.map_cons,List.map_cons];refine .cons ?_ f
   by_cases e:p.1=k
   .rw[if_pos e,if_pos (b.1▸e)];exact⟨b.1,r⟩
   .rw[if_neg e,if_neg (λz=>e (b.1.trans z))];exact b
 .exact aE.append h (.one ⟨rfl,r⟩)
theorem fy.drop{kvs:List (κ×D)}{a:List (κ×V)}(h:fy R kvs a)(k:κ):fy R (gd kvs k) (jC a k):=by
 unfold fy at h
 induction h with
 |nil=>exact .nil
 |@cons p q d f b t c=>
  unfold gd jC;rw[List.filter_cons,List.filter_cons]
  by_cases e:p.1=k
  .have:q.1=k:=b.1▸e
   simp only[e,this,ne_eq,not_true_eq_false,decide_false];exact c
  .have:¬ q.1=k:=λz=>e (b.1.trans z)
   simp only[e,this,ne_eq,not_false_eq_true,decide_true,if_true];exact .cons b c
theorem fy.length{kvs:List (κ×D)}{a:List (κ×V)}(h:fy R kvs a):a.length=kvs.length:=aE.length h
end
noncomputable def jS:D->Option Key
 |.int i=>some (.inl i)
 |.str x=>some (.inr x)
 |_=>none
def mS:D->Option (List Key)
 |.tup ds=>bz jS ds
 |_=>none
section
variable{X:Cx}{κ:Str->Addr->Prop}{Φ:fm}{α α' hZ α1:List Addr}{Z Z' Z0 Z1:Addr->Prop}{Ω au:az}{H H' H0 H1:Hp}{ρ:aV}{σ:L2.St}{Q Q':VK}{r:ax D}{a b e:Expr}{es:List Expr}{ma mb mc m:EM}{as:AM}{pos:Pos}
theorem fB{d:D}{k:Key}{v:V}(h:jS d=some k)(r:ao α Z H d v):v=kV k:=by
 cases d with
 |int i=>cases h;simp only[ao]at r;exact r
 |str i=>cases h;simp only[ao]at r;exact r
 |_=>cases h
theorem pT:∀{ds:List D}{a:List Key}{vs:List V},bz jS ds=some a->aE (ao α Z H) ds vs->vs=a.map kV
 |[],a,vs,h,r=>by cases h;rw[r.nil_inv];rfl
 |d::ds,a,vs,h,r=>by
  simp only[bz]at h;split at h
  .rename_i y ys h1 h2
   cases h;obtain⟨v,b,rfl,c,e⟩:=r.cons_inv;rw[fB h1 c,pT h2 e];rfl
  .cases h
theorem jq{d:D}{a:List Key}{v:V}(h:mS d=some a)(r:ao α Z H d v):∃b,v=.ref b/\H b=some (.tup (a.map kV)):=by
 cases d with
 |tup f=>
  obtain⟨b,g,rfl,_,c,e⟩:=eW r;rw[pT h e]at c;exact⟨b,rfl,c⟩
 |_=>cases h
def n8(Ω:az)(x y:D):Option (Option D):=match x with
 |.ref k=>match Ω[k]? with
  |some (.dK a)=>(jS y).map (bx a)
  |some (.dT a)=>(mS y).map (bx a)
  |some (.dF a)=>(jS y).map (bx a)
  |_=>none
 |_=>none
theorem pU{x y:D}{v w:V}{o:Option D}(S:bF κ α Z Ω H)(z:ao α Z H x v)(q:ao α Z H y w)(h:n8 Ω x y=some o):∃a r,v=.ref a/\iC H a w r/\(∀d,o=some d->∃u,r=some u/\ao α Z H d u)/\(o=none->r=none):=by
 cases x with
 |ref k=>
  simp only[n8]at h;simp only[ao]at z;obtain⟨a,s,rfl⟩:=z;split at h
  .rename_i g i
   obtain⟨f,j,rfl⟩:=Option.map_eq_some_iff.mp h;obtain⟨A,c,e,l,m⟩:=S.cell i;rw[s]at c;cases c
   obtain rfl:=fB j q;obtain⟨n,p⟩:=m.val f;exact⟨a,_,rfl,iC.k l,n,p⟩
  .rename_i g i
   obtain⟨f,j,rfl⟩:=Option.map_eq_some_iff.mp h;obtain⟨A,c,e,l,m⟩:=S.cell i;rw[s]at c;cases c
   obtain⟨b,rfl,B⟩:=jq j q;obtain⟨n,p⟩:=m.val f;exact⟨a,_,rfl,iC.t l B,n,p⟩
  .rename_i g i
   obtain⟨f,j,rfl⟩:=Option.map_eq_some_iff.mp h;obtain⟨A,c,C,e,l,m⟩:=S.cell i;rw[s]at c;cases c
   obtain rfl:=fB j q;obtain⟨n,p⟩:=m.val f;exact⟨a,_,rfl,.inl ⟨e,f,.inr ⟨C,l⟩,rfl,rfl⟩,n,p⟩
  .cases h
 |_=>cases h
noncomputable def pV(Ω:az)(x:D):Option (List (Key×D)):=match x with
 |.ref k=>(match Ω[k]? with
  |some (.dK a)=>some a
  |some (.dF a)=>some a
  |_=>none)
 |_=>none
theorem iG{x:D}{v:V}{kvs:List (Key×D)}(S:bF κ α Z Ω H)(r:ao α Z H x v)(h:pV Ω x=some kvs):∃a b,v=.ref a/\Rd H a (.dK b)/\fy (ao α Z H) kvs b:=by
 unfold pV at h;split at h
 .rename_i k
  simp only[ao]at r;obtain⟨a,i,rfl⟩:=r;split at h
  .rename_i d e
   cases h;obtain⟨j,c,b,f,g⟩:=S.cell e;rw[i]at c;cases c
   exact⟨a,b,rfl,.inl f,g⟩
  .rename_i d e
   cases h;obtain⟨j,c,l,b,f,g⟩:=S.cell e;rw[i]at c;cases c
   exact⟨a,b,rfl,.inr ⟨l,f⟩,g⟩
  .cases h
 .cases h
def jT(x y:D)(Ω:az):ax D:=match pV Ω x,pV Ω y with
 |some a,some b=>if a.length=b.length then (if a.isEmpty then .ok (.bl true) Ω else .bad)else .ok (.bl false) Ω
 |_,_=>.bad
theorem xA{f h:D}{x y:V}(S:bF κ α Z Ω H)(i:ao α Z H f x)(j:ao α Z H h y)(g:bO κ Φ α Z H (jT f h Ω) Q):GU x y H Q:=by
 unfold jT at g;split at g
 .rename_i k w l m
  obtain⟨a,c,rfl,n,o⟩:=iG S i l;obtain⟨b,d,rfl,p,q⟩:=iG S j m;have r:=o.length;have s:=q.length;refine⟨a,b,c,d,rfl,rfl,n,p,?_⟩;split at g
  .rename_i e
   split at g
   .rename_i t
    have u:k=[]:=List.isEmpty_iff.mp t;subst u;exact .inr ⟨List.length_eq_zero_iff.mp (by simpa using r),List.length_eq_zero_iff.mp (by rw[s,←e];rfl),bO.ret S (a_ rfl) g⟩
   .exact g.elim
  .rename_i e
   exact .inl ⟨λz=>e (by omega),bO.ret S (a_ rfl) g⟩
 .exact g.elim
theorem Aq:∀x y Ω d au,jT x y Ω=.ok d au->∃t,d=.bl t:=λx y Ω d au h=>by
 unfold jT at h;split at h
 .split at h
  .split at h
   .cases h;exact⟨_,rfl⟩
   .cases h
  .cases h;exact⟨_,rfl⟩
 .cases h
def cD(op:CmpOp):D->D->az->ax D:=fc λx y=>do let r ←dD op x y;Out.ok (false,D.bl r)
def eS(neg:Bool)(y x:D)(Ω:az):ax D:=match n8 Ω x y with
 |some o=>.ok (.bl (if neg then !o.isSome else o.isSome)) Ω
 |none=>.bad
noncomputable def ff(neg:Bool)(x y:D)(Ω:az):ax D:=match x,y with
 |.ref _,.non=>.ok (.bl neg) Ω
 |_,_=>.bad
def aB(op:CmpOp):D->D->az->ax D:=match op with
 |.Eq=>eL (cD .Eq) jT
 |.In=>eL (cD .In) (eS false)
 |.NotIn=>eL (cD .NotIn) (eS true)
 |.Is=>eL (ff false) (cD .Is)
 |.IsNot=>eL (ff true) (cD .IsNot)
 |op=>cD op
theorem rM{o:Option D}{a:Option V}{R:D->V->Prop}(b:∀d,o=some d->∃u,a=some u/\R d u)(c:o=none->a=none):a.isSome=o.isSome:=by
 cases o with
 |none=>rw[c rfl];rfl
 |some d=>obtain⟨u,e,_⟩:=b d rfl;rw[e];rfl
theorem gS{f:D->D->az->ax D}{r:R2}(h:∀G tb,PE X a G->PE X b tb->PT X e (we (FA r G tb)))(p:bu X κ Φ a ma)(s:bu X κ Φ b mb)(z:∀x y Ω d au,f x y Ω=.ok d au->∃t,d=.bl t)
  (P:∀I J x y i Z Ω H Q,bF κ i Z Ω H->ao i Z H I x->ao i Z H J y->bO κ Φ i Z H (f I J Ω) Q->r x y H Q):gg X κ Φ e (m2 f ma mb):=by
 intro c m n j Ω;rcases q:ma j Ω with ⟨d,k⟩|⟨x,k⟩|_
 .refine PT.imp (h _ _ (p c m n j Ω) (s c m n j k)) ?_
  rintro K H Q ⟨i,Z,S,g⟩;refine⟨i,Z,S,?_⟩;simp only[m2,q,ax.bind]at g ⊢;intro v H1 A R L M T;refine⟨A,R,S.grow L M,?_⟩;have g:=oY.from L g
  rcases B:mb j k with ⟨d2,l⟩|⟨x,l⟩|_
  .rw[B]at g
   intro w U C V N Y r2;refine P d d2 v w C V l U _ Y (M.c_ N T) r2 ?_;have g:=oY.from N g
   dsimp only[ax.bind]at g;rcases o:f d d2 l with ⟨d3,E⟩|⟨x,E⟩|_
   .rw[o]at g
    obtain⟨t,rfl⟩:=z _ _ _ _ _ o;intro u H3 F Z3 g3 s3 O;simp only[ao]at O;exact⟨t,O,g H3 F Z3 g3 s3⟩
   .rw[o]at g;exact g
   .rw[o]at g;exact g
  .rw[B]at g;exact g
  .rw[B]at g;exact g
 .refine PT.imp (h _ _ (p c m n j Ω) (s c m n j Ω)) ?_
  rintro K H Q ⟨i,Z,S,g⟩;refine⟨i,Z,S,?_⟩;simp only[m2,q,ax.bind,dE]at g ⊢;exact g
 .refine PT.imp (h _ _ (p c m n j Ω) (s c m n j Ω)) ?_
  rintro K H Q ⟨i,Z,S,g⟩;simp only[m2,q,ax.bind,dE]at g;exact g.elim
noncomputable def DU(neg:Bool):R2:=λy x H Q=>∃a o,x=.ref a/\iC H a y o/\Q (.bl (if neg then !o.isSome else o.isSome)) H
theorem xB(b:X.A.units+1<cLine):gf X (compareOp .In) (DU false):=by
 intro pins s f H x y u v Q I c d h;obtain⟨a,o,rfl,g,q⟩:=h;obtain rfl:v=Value.ref a:=d;exact Mc b I g c λi e=>⟨.bl o.isSome,H,e,rfl,q⟩
theorem mT(b:X.A.units+1<cLine):gf X (compareOp .NotIn) (DU true):=by
 intro pins s f H x y u v Q I c d h;obtain⟨a,o,rfl,g,q⟩:=h;obtain rfl:v=Value.ref a:=d;exact zK b I g c λi e=>⟨.bl (!o.isSome),H,e,rfl,q⟩
theorem n9{op:CmpOp}{a b:D}{x y:V}(S:bF κ α Z Ω H)(c:ao α Z H a x)(f:ao α Z H b y)(g:bO κ Φ α Z H (cD op a b Ω) Q):wV op x y H Q:=by
 obtain⟨d,e,h,m,i,j,l,k⟩:=gy (bw:=false) S c f g;exact DO (bw:=false) i j (dM S) l k
theorem n_{neg:Bool}{b c:D}{x y:V}(S:bF κ α Z Ω H)(d:ao α Z H b x)(e:ao α Z H c y)(g:bO κ Φ α Z H (eS neg b c Ω) Q):DU neg x y H Q:=by
 unfold eS at g;split at g
 .rename_i o f
  obtain⟨a,h,rfl,i,j,k⟩:=pU S e d f;refine⟨a,h,rfl,i,?_⟩;rw[rM j k];exact bO.ret S (a_ rfl) g
 .exact g.elim
theorem oa{neg:Bool}{op:CmpOp}(h:op=if neg then .IsNot else .Is){c e:D}{x y:V}(S:bF κ α Z Ω H)(f:ao α Z H c x)(b:ao α Z H e y)(g:bO κ Φ α Z H (ff neg c e Ω) Q) :
  (if neg then (y=.non/\Q (.bl (!decide (x=.non))) H)else (y=.non/\Q (.bl (decide (x=.non))) H)):=by
 unfold ff at g;split at g
 .simp only[ao]at f b
  obtain⟨a,_,rfl⟩:=f;have:=bO.ret S (a_ (d:=.bl neg) rfl) g;cases neg
  .exact⟨b,this⟩
  .exact⟨b,this⟩
 .exact g.elim
theorem og{op:CmpOp}:∀x y Ω d au,cD op x y Ω=.ok d au->∃t,d=.bl t:=λx y Ω d au h=>by
 unfold cD fc at h;split at h
 .rename_i a b _ _
  dsimp only at h;cases q:dD op a b with
  |ok t=>
   have e:(do let r ←dD op a b;Out.ok (false,D.bl r))=Out.ok (false,D.bl t):=by rw[q];rfl
   rw[e]at h;simp only[fM,eV,if_true]at h;cases h;exact⟨_,rfl⟩
  |exc c f=>
   have e:(do let r ←dD op a b;Out.ok (false,D.bl r))=Out.exc c f:=by rw[q];rfl
   rw[e]at h;cases h
  |bad=>
   have e:(do let r ←dD op a b;Out.ok (false,D.bl r))=Out.bad:=by rw[q];rfl
   rw[e]at h;cases h
 .cases h
theorem tF{neg:Bool}:∀x y Ω d au,eS neg x y Ω=.ok d au->∃t,d=.bl t:=λx y Ω d au h=>by
 unfold eS at h;split at h
 .cases h;exact⟨_,rfl⟩
 .cases h
theorem tG{neg:Bool}:∀x y Ω d au,ff neg x y Ω=.ok d au->∃t,d=.bl t:=λx y Ω d au h=>by
 unfold ff at h;split at h
 .cases h;exact⟨_,rfl⟩
 .cases h
theorem tH{op:CmpOp}(s:X.A.units+64<cLine)(h:behindInMarks op b=false)(i:bu X κ Φ a ma)(j:bu X κ Φ b mb):bu X κ Φ (.Compare a [op] [b] pos) (m2 (aB op) ma mb)/\gg X κ Φ (.Compare a [op] [b] pos) (m2 (aB op) ma mb):=by
 have E:bu X κ Φ (.Compare a [op] [b] pos) (m2 (cD op) ma mb):=dn (λk tb c d=>gO (jl s op) c d h) i j λl m x y n Z o H Q S e f g=>n9 S e f g
 have T:gg X κ Φ (.Compare a [op] [b] pos) (m2 (cD op) ma mb):=gS (λk tb c d=>gP (jl s op) c d h) i j og λl m x y n Z o H Q S e f g=>n9 S e f g
 have p:X.A.units+1<cLine:=by omega
 cases op with
 |In=>
  have q:bu X κ Φ (.Compare a [.In] [b] pos) (m2 (eS false) ma mb):=dn (λk tb c d=>gO (xB p) c d h) i j λl m x y n Z o H Q S e f g=>n_ S e f g
  have r:gg X κ Φ (.Compare a [.In] [b] pos) (m2 (eS false) ma mb):=gS (λk tb c d=>gP (xB p) c d h) i j tF λl m x y n Z o H Q S e f g=>n_ S e f g
  show bu X κ Φ _ (m2 (eL (cD .In) (eS false)) ma mb)/\gg X κ Φ _ (m2 (eL (cD .In) (eS false)) ma mb)
  rw[fN];exact⟨E.alt q,T.alt r⟩
 |NotIn=>
  have q:bu X κ Φ (.Compare a [.NotIn] [b] pos) (m2 (eS true) ma mb):=dn (λk tb c d=>gO (mT p) c d h) i j λl m x y n Z o H Q S e f g=>n_ S e f g
  have r:gg X κ Φ (.Compare a [.NotIn] [b] pos) (m2 (eS true) ma mb):=gS (λk tb c d=>gP (mT p) c d h) i j tF λl m x y n Z o H Q S e f g=>n_ S e f g
  show bu X κ Φ _ (m2 (eL (cD .NotIn) (eS true)) ma mb)/\gg X κ Φ _ (m2 (eL (cD .NotIn) (eS true)) ma mb)
  rw[fN];exact⟨E.alt q,T.alt r⟩
 |Is=>
  have q:bu X κ Φ (.Compare a [.Is] [b] pos) (m2 (ff false) ma mb):=dn (λk tb c d=>gO wc c d h) i j λl m x y n Z o H Q S e f g=>oa (neg:=false) (op:=.Is) rfl S e f g
  have r:gg X κ Φ (.Compare a [.Is] [b] pos) (m2 (ff false) ma mb):=gS (λk tb c d=>gP wc c d h) i j tG λl m x y n Z o H Q S e f g=>oa (neg:=false) (op:=.Is) rfl S e f g
  show bu X κ Φ _ (m2 (eL (ff false) (cD .Is)) ma mb)/\gg X κ Φ _ (m2 (eL (ff false) (cD .Is)) ma mb)
  rw[fN];exact⟨q.alt E,r.alt T⟩
 |IsNot=>
  have q:bu X κ Φ (.Compare a [.IsNot] [b] pos) (m2 (ff true) ma mb):=dn (λk tb c d=>gO sP c d h) i j λl m x y n Z o H Q S e f g=>oa (neg:=true) (op:=.IsNot) rfl S e f g
  have r:gg X κ Φ (.Compare a [.IsNot] [b] pos) (m2 (ff true) ma mb):=gS (λk tb c d=>gP sP c d h) i j tG λl m x y n Z o H Q S e f g=>oa (neg:=true) (op:=.IsNot) rfl S e f g
  show bu X κ Φ _ (m2 (eL (ff true) (cD .IsNot)) ma mb)/\gg X κ Φ _ (m2 (eL (ff true) (cD .IsNot)) ma mb)
  rw[fN];exact⟨q.alt E,r.alt T⟩
 |Eq=>
  have q:bu X κ Φ (.Compare a [.Eq] [b] pos) (m2 jT ma mb):=dn (λk tb c d=>gO (xy s) c d h) i j λl m x y n Z o H Q S e f g=>xA S e f g
  have r:gg X κ Φ (.Compare a [.Eq] [b] pos) (m2 jT ma mb):=gS (λk tb c d=>gP (xy s) c d h) i j Aq λl m x y n Z o H Q S e f g=>xA S e f g
  show bu X κ Φ _ (m2 (eL (cD .Eq) jT) ma mb)/\gg X κ Φ _ (m2 (eL (cD .Eq) jT) ma mb)
  rw[fN];exact⟨E.alt q,T.alt r⟩
 |NotEq=>exact⟨E,T⟩
 |Lt=>exact⟨E,T⟩
 |LtE=>exact⟨E,T⟩
 |Gt=>exact⟨E,T⟩
 |GtE=>exact⟨E,T⟩
def gh(Ω:az)(x:D):Option (List D):=match x with
 |.tup a=>some a
 |x=>dh Ω x
def Ar(x y:D)(Ω:az):ax D:=match gh Ω x,y with
 |some a,.int i=>match L2.jh a i with
  |some d=>.ok d Ω
  |none=>.bad
 |_,_=>.bad
def xC(x y:D)(Ω:az):ax D:=match n8 Ω x y with
 |some (some d)=>.ok d Ω
 |_=>.bad
def aC:D->D->az->ax D:=eL Ar (eL xC (fc rn))
theorem kY{x:D}{v:V}{ds:List D}{K:PySem.W.Frag}(S:bF κ α Z Ω H)(r:ao α Z H x v)(h:gh Ω x=some ds):∃a vs,v=.ref a/\(j8 K H a vs\/qT K H a vs)/\aE (ao α Z H) ds vs:=by
 unfold gh at h;split at h
 .cases h
  obtain⟨a,vs,rfl,_,b,c⟩:=eW r;exact⟨a,vs,rfl,.inr (uX (.inl b)),c⟩
 .obtain⟨a,vs,rfl,b,c⟩:=ck S r h
  exact⟨a,vs,rfl,.inl (kK b),c⟩
theorem As{ds:List D}{vs:List V}{R:D->V->Prop}{i:Int}{d:D}(r:aE R ds vs)(h:L2.jh ds i=some d):∃v,L2.jh vs i=some v/\R d v:=by
 unfold L2.jh at h ⊢;rw[r.length];cases q:L2.qN ds.length i with
 |none=>rw[q]at h;cases h
 |some n=>rw[q]at h;exact r.get h
theorem Au(G:X.A.units+1<cLine)(l:sS b)(m:bu X κ Φ a ma)(n:bu X κ Φ b mb):bu X κ Φ (.Subscript a b pos) (m2 aC ma mb):=by
 unfold aC;rw[fN,fN];refine bu.alt ?_ (bu.alt ?_ ?_)
 .refine dn (r:=J9 X.K) (λt tb f h=>Cr wx f h l) m n λw z x y B Z C H Q S j c g=>?_
  unfold Ar at g;split at g
  .rename_i N i o
   obtain⟨p,D,rfl,h2,q⟩:=kY (K:=X.K) S j o;simp only[ao]at c;subst c;split at g
   .rename_i d s
    obtain⟨v,E,F⟩:=As q s;rcases h2 with h2|h2
    .exact .inl ⟨p,D,i,v,rfl,rfl,h2,E,bO.ret S F g⟩
    .exact .inr (.inl ⟨p,D,i,v,rfl,rfl,h2,E,bO.ret S F g⟩)
   .exact g.elim
  .exact g.elim
 .refine dn (r:=λx y H Q=>∃a v,x=.ref a/\iC H a y (some v)/\Q v H) (λt tb f h=>zM G f h l) m n λw z x y B Z C H Q S j c g=>?_
  unfold xC at g;split at g
  .rename_i d s
   obtain⟨a,O,rfl,o,h2,_⟩:=pU S j c s;obtain⟨u,rfl,q⟩:=h2 d rfl;exact⟨a,u,rfl,o,bO.ret S q g⟩
  .exact g.elim
 .refine dn (r:=J9 X.K) (λt tb f h=>Cr wx f h l) m n λw z x y B Z C H Q S j c g=>?_
  obtain⟨d,e,I,P,J,L,M,k⟩:=gy (bw:=false) S j c g;exact DQ (bw:=false) J L (dM S) M k
def gC(n:Bool)(m:EM):aV->az->ax (Option Int):=λc b=>if n=true then .ok none b else (m c b).bind λd a=>match d with
 |.int i=>.ok (some i) a
 |_=>.bad
def oh(x:D)(a b:Option Int)(Ω:az):ax D:=match x,dh Ω x with
 |_,some c=>g_ Ω (.lst (dz c a b))
 |.str z,none=>fM Ω (wN (.str z) a b)
 |_,_=>.bad
def eu(e:EM)(f:Bool)(g:EM)(i:Bool)(j:EM):EM:=λa k=>(e a k).bind λx b=>(gC f g a b).bind λl c=>(gC i j a c).bind λh d=>oh x l h d
def Kd(X:Cx)(κ:Str->Addr->Prop)(Φ:fm)(o:Option Expr)(n:Bool)(m:EM):Prop:=(o=none/\n=true)\/∃e,o=some e/\n=false/\bu X κ Φ e m
theorem ei{o:Option Expr}{n:Bool}(h:Kd X κ Φ o n m)(g:List Addr)(r:Addr->Prop)(s:Hp)(ρ:aV)(Ω:az):∃t,PO X o t/\∀j H b Z Q,cT κ g r s b Z Ω ρ j H ->
  (match gC n m ρ Ω with
   |.ok l aS=>∀c a f,cv b Z H a f c->bF κ a f aS c->Q l c
   |.exc x aS=>∀c a f,cv b Z H a f c->bF κ a f aS c->Φ x aS a f c
   |.bad=>False)->t j H Q:=by
 rcases h with ⟨rfl,rfl⟩|⟨e,rfl,rfl,w⟩
 .refine⟨sR,zF,λj H b Z Q S k=>?_⟩
  exact k H b Z (cv.refl S.st.has) S.st
 .refine⟨_,zG (w g r s ρ Ω),λj H b Z Q S k=>⟨b,Z,S,?_⟩⟩
  simp only[gC,Bool.false_eq_true,if_false]at k;rcases q:m ρ Ω with ⟨d,aS⟩|⟨x,aS⟩|_
  .rw[q]at k
   intro v y p z A B u;cases d with
   |int i=>simp only[ao]at u;exact⟨i,u,k y p z A B⟩
   |_=>exact k.elim
  .rw[q]at k;exact k
  .rw[q]at k;exact k
theorem Av{ds:List D}{vs:List V}{R:D->V->Prop}(h:aE R ds vs)(a b:Option Int):aE R (dz ds a b) (uQ vs a b):=by
 unfold dz uQ;rw[h.length];exact(h.drop _).take _
theorem Aw{lo hi:Option Expr}{M N:Bool}{O P:EM}{p2:Pos}(y:bu X κ Φ a ma)(R:Kd X κ Φ lo M O)(z:Kd X κ Φ hi N P):bu X κ Φ (.Subscript a (.Slice lo hi none p2) pos) (eu ma M O N P):=by
 intro b e f c j;rcases q:ma c j with ⟨d,i⟩|⟨x,i⟩|_
 .obtain⟨tl,n,E⟩:=ei R b e f c i
  rcases A:gC M O c i with ⟨l,o⟩|⟨x,o⟩|_
  .obtain⟨F,m,B⟩:=ei z b e f c o
   refine PE.imp (gq (r:=GI X.K) (iz.or kP) (y b e f c j) n m) ?_;rintro s H Q ⟨t,Z,S,g⟩;refine⟨t,Z,S,?_⟩;simp only[eu,q,A,ax.bind]at g ⊢;intro v T u U C G r1;have g:=bO.from C g
   have S1:=S.grow C G;refine E s T u U _ S1 ?_;rw[A];intro V w Y D I;have g:=bO.from D g
   have S2:=S1.grow D I;refine B s V w Y _ S2 ?_;rcases q3:gC N P c o with ⟨h,a0⟩|⟨x,a0⟩|_
   .rw[q3]at g
    intro H3 b0 Z3 g3 J;have g:=bO.from g3 g
    have r3:=I.c_ g3 (G.c_ D r1);dsimp only[ax.bind]at g;unfold oh at g;split at g
    .rename_i ds hd
     obtain⟨p,vs,rfl,h1,h2⟩:=ck J r3 hd;exact .inl ⟨p,vs,rfl,kK h1,gz J (Av h2 l h) g⟩
    ·
     simp only[ao]at r3;subst r3;obtain⟨c0,d,L,k⟩:=iF (bw:=false) J g;simp only[wN]at L;split at L
     .rename_i hs
      cases L;exact .inr ⟨_,rfl,bC hs,k _ H3 _ _ (eG.refl J.dom) (.rep (fu rfl))⟩
     .cases L
    .exact g.elim
   .rw[q3]at g;exact g
   .rw[q3]at g;exact g
  .obtain⟨F,m,B⟩:=ei z b e f c i
   refine PE.imp (gq (r:=GI X.K) (iz.or kP) (y b e f c j) n m) ?_;rintro s H Q ⟨t,Z,S,g⟩;refine⟨t,Z,S,?_⟩;simp only[eu,q,A,ax.bind]at g ⊢;intro v T u U C G r1;refine E s T u U _ (S.grow C G) ?_;rw[A];intro V w Y D I;exact g V w Y (C.trans D) I
  .obtain⟨F,m,B⟩:=ei z b e f c i
   refine PE.imp (gq (r:=GI X.K) (iz.or kP) (y b e f c j) n m) ?_;rintro s H Q ⟨t,Z,S,g⟩;simp only[eu,q,A,ax.bind]at g;exact g.elim
 .obtain⟨tl,n,E⟩:=ei R b e f c j
  obtain⟨F,m,B⟩:=ei z b e f c j;refine PE.imp (gq (r:=GI X.K) (iz.or kP) (y b e f c j) n m) ?_;rintro s H Q ⟨t,Z,S,g⟩;refine⟨t,Z,S,?_⟩;simp only[eu,q,ax.bind]at g ⊢;exact g
 .obtain⟨tl,n,E⟩:=ei R b e f c j
  obtain⟨F,m,B⟩:=ei z b e f c j;refine PE.imp (gq (r:=GI X.K) (iz.or kP) (y b e f c j) n m) ?_;rintro s H Q ⟨t,Z,S,g⟩;simp only[eu,q,ax.bind]at g;exact g.elim
end
theorem PE.ex{X:Cx}{e:Expr}{b:Type}{t:b->TE}(h:∀i,PE X e (t i)):PE X e (λa H Q=>∃i,t i a H Q):=λpins s a H Q I ⟨i,q⟩=>h i pins s a H Q I q
theorem PT.ex{X:Cx}{e:Expr}{b:Type}{t:b->TT}(h:∀i,PT X e (t i)):PT X e (λa H Q=>∃i,t i a H Q):=λpins s a H Q I ⟨i,q⟩=>h i pins s a H Q I q
theorem PW.ex{X:Cx}{e:Expr}{b:Type}{t:b->TT}(h:∀i,PW X e (t i)):PW X e (λa H Q=>∃i,t i a H Q):=λc pins s a H Q I ⟨i,q⟩=>h i c pins s a H Q I q
theorem PA.ex{X:Cx}{es:List Expr}{c:Type}{t:c->TA}(h:∀i,PA X es (t i)):PA X es (λa H Q=>∃i,t i a H Q):=λb pins s a H Q I ⟨i,q⟩=>h i b pins s a H Q I q
def fC(c d:EM):EM:=λb e=>(c b e).bind λx a=>match gw a x with
 |some true=>d b a
 |some false=>.ok x a
 |none=>.bad
def CA(c d:EM):EM:=λb e=>(c b e).bind λx a=>match gw a x with
 |some false=>d b a
 |some true=>.ok x a
 |none=>.bad
def hJ(b:EM):EM:=λc d=>(dE (b c d)).bind λt a=>.ok (.bl (!t)) a
def zh(mc c d:EM):EM:=λb e=>(dE (mc b e)).bind λt a=>if t=true then c b a else d b a
section
variable{X:Cx}{κ:Str->Addr->Prop}{Φ:fm}{α α' hZ α1:List Addr}{Z Z' Z0 Z1:Addr->Prop}{Ω au:az}{H H' H0 H1:Hp}{ρ:aV}{σ:L2.St}{Q Q':VK}{r:ax D}{a b e ce:Expr}{rest:List Expr}{es:List Expr}{ma mb mc m:EM}{as:AM}{pos p:Pos}
theorem gD{d:D}{v:V}{t:Bool}{K:PySem.W.Frag}(S:bF κ α Z Ω H)(r:ao α Z H d v)(h:gw Ω d=some t):pf K v H t:=by
 cases d with
 |non=>simp only[ao]at r;subst r;cases h;rfl
 |bl b=>simp only[ao]at r;subst r;cases h;rfl
 |int b=>simp only[ao]at r;subst r;cases h;rfl
 |str b=>
  simp only[ao]at r;subst r
  have n:Now Z H (.str b) (.str b):=by simp only[Now,Rep]
  exact DP n h
 |lst ds=>
  cases h;obtain⟨a,c,rfl,f,g⟩:=ck (ds:=ds) S r rfl;refine .inl ⟨c,kK f,?_⟩;have:=g.length;cases ds<;>cases c<;>simp at this ⊢
 |tup ds=>
  cases h;obtain⟨a,c,rfl,_,f,g⟩:=eW r;refine .inr (.inl ⟨c,uX (.inl f),?_⟩);have:=g.length;cases ds<;>cases c<;>simp at this ⊢
 |dct _ _=>cases h
 |ref k=>
  simp only[gw]at h;split at h
  .rename_i ds j
   cases h;obtain⟨a,c,rfl,f,g⟩:=ck (ds:=ds) S r (by simp only[dh,j])
   refine .inl ⟨c,kK f,?_⟩;have:=g.length;cases ds<;>cases c<;>simp at this ⊢
  .rename_i l j
   cases h;simp only[ao]at r;obtain⟨a,m,rfl⟩:=r;obtain⟨o,i,e,f,g⟩:=S.cell j;rw[m]at i;cases i
   refine .inr (.inr ⟨e,f,?_⟩);have:=g.length;cases l<;>cases e<;>simp at this ⊢
  .cases h
theorem oY.use{r:ax Bool}{f:Bool->az->ax D}{Q':Bool->Hp->Prop}(h:bO κ Φ α Z H (r.bind f) Q)(k:∀t aS,r=.ok t aS->∀b a c,cv α Z H a c b->bF κ a c aS b->bO κ Φ a c b (f t aS) Q->Q' t b):oY κ Φ α Z H r Q':=by
 cases r with
 |ok d aS=>exact λb a c g s=>k d aS rfl b a c g s (bO.from g h)
 |exc x aS=>exact h
 |bad=>exact h
theorem oY.R7{Q:Bool->Hp->Prop}{K:PySem.W.Frag}(h:oY κ Φ α Z H (dE r) Q):bO κ Φ α Z H r (λv a=>∃t,pf K v a t/\Q t a):=by
 cases r with
 |ok d b=>
  intro v a c e g s q;simp only[dE]at h;split at h
  .rename_i t f
   exact⟨t,gD s q f,h a c e g s⟩
  .exact h.elim
 |exc x b=>exact h
 |bad=>exact h.elim
theorem Ax(h:bu X κ Φ e m)(c:∀a,isTrue e X.env a=(do let v ←a;standAt e.pos;holding [v] (truthy v))):gg X κ Φ e m:=by
 intro b d f i j;refine PT.imp (wj (h b d f i j) c) ?_;rintro l H Q ⟨k,Z,S,g⟩;exact⟨k,Z,S,g.R7⟩
theorem Ay(n:bu X κ Φ a ma)(o:bu X κ Φ (.BoolOp .And (b::rest) pos) mb):bu X κ Φ (.BoolOp .And (a::b::rest) pos) (fC ma mb):=by
 intro d k l m p;refine PE.imp (Ab (n d k l m p) (PE.ex λc=>o d k l m c)) ?_
 rintro t H Q ⟨q,Z,S,g⟩;refine⟨q,Z,S,bO.use g λx c _ v u h r s e i f=>?_⟩
 split at f
 .rename_i j
  exact⟨true,gD e i j,pE ⟨c,h,r,S.grow s e,f⟩⟩
 .rename_i j
  exact⟨false,gD e i j,pD (bO.ret e i f)⟩
 .exact f.elim
theorem DV(n:bu X κ Φ a ma)(o:bu X κ Φ (.BoolOp .Or (b::rest) pos) mb):bu X κ Φ (.BoolOp .Or (a::b::rest) pos) (CA ma mb):=by
 intro d k l m p;refine PE.imp (DR (n d k l m p) (PE.ex λc=>o d k l m c)) ?_
 rintro t H Q ⟨q,Z,S,g⟩;refine⟨q,Z,S,bO.use g λx c _ v u h r s e i f=>?_⟩
 split at f
 .rename_i j
  exact⟨false,gD e i j,pD ⟨c,h,r,S.grow s e,f⟩⟩
 .rename_i j
  exact⟨true,gD e i j,pE (bO.ret e i f)⟩
 .exact f.elim
theorem vf{op:BoolOp}(c:bu X κ Φ a ma):bu X κ Φ (.BoolOp op [a] pos) ma:=λb d e f g=>Dj (c b d e f g)
theorem Az(d:bu X κ Φ a ma):bu X κ Φ (.UnaryOp .Not a pos) (hJ ma):=by
 intro b e f h i;refine PE.imp (Ac (d b e f h i)) ?_;rintro o H Q ⟨j,Z,S,g⟩;refine⟨j,Z,S,?_⟩;have:=oY.use (Q':=λt c=>Q (.bl (!t)) c) g λt k _ c l p q m n=>bO.ret m (a_ rfl) n
 exact this.R7
theorem AA(h:gg X κ Φ a ma):gg X κ Φ (.UnaryOp .Not a pos) (hJ ma):=by
 intro b i j e f;refine PT.imp (Di (h b i j e f)) ?_;rintro p H Q ⟨k,Z,S,g⟩;refine⟨k,Z,S,?_⟩;simp only[hJ]at g;cases q:dE (ma e f)with
 |ok t c=>rw[q]at g;exact λl d m n o=>g l d m n o
 |exc x c=>rw[q]at g;exact g
 |bad=>rw[q]at g;exact g
def CB(X:Cx)(κ:Str->Addr->Prop)(Φ:fm)(e:Expr)(m:EM):Prop:=∀a b c d f,PW X e (Mj κ Φ a b c m d f)
theorem CB.pt(h:CB X κ Φ e m):gg X κ Φ e m:=λa b c d f=>(h a b c d f).pt
theorem AB{op:BoolOp}(c:gg X κ Φ a ma):CB X κ Φ (.BoolOp op [a] pos) ma:=λb d e f g=>by
 cases op with
 |And=>exact pw_and1 (c b d e f g)
 |Or=>exact pw_or1 (c b d e f g)
theorem AD(p:gg X κ Φ a ma)(r:CB X κ Φ (.BoolOp .And (b::rest) pos) mb):CB X κ Φ (.BoolOp .And (a::b::rest) pos) (fC ma mb):=by
 intro e l m i n;refine PW.imp (pw_and (p e l m i n) (PW.ex λc=>r e l m i c)) ?_
 rintro t H Q ⟨s,Z,S,g⟩;refine⟨s,Z,S,?_⟩;simp only[fC]at g;cases q:ma i n with
 |ok x c=>
  rw[q]at g;dsimp only[ax.bind]at g;simp only[dE];split at g
  .rename_i f
   rw[f];exact λo d j h k=>pE ⟨c,d,j,S.grow h k,oY.from h g⟩
  .rename_i f
   rw[f];simp only[dE,f]at g;exact λo d j h k=>pD (g o d j h k)
  .exact g.elim
 |exc x c=>rw[q]at g;exact g
 |bad=>rw[q]at g;exact g.elim
theorem DW(p:gg X κ Φ a ma)(r:CB X κ Φ (.BoolOp .Or (b::rest) pos) mb):CB X κ Φ (.BoolOp .Or (a::b::rest) pos) (CA ma mb):=by
 intro e l m i n;refine PW.imp (pw_or (p e l m i n) (PW.ex λc=>r e l m i c)) ?_
 rintro t H Q ⟨s,Z,S,g⟩;refine⟨s,Z,S,?_⟩;simp only[CA]at g;cases q:ma i n with
 |ok x c=>
  rw[q]at g;dsimp only[ax.bind]at g;simp only[dE];split at g
  .rename_i f
   rw[f];exact λo d j h k=>pD ⟨c,d,j,S.grow h k,oY.from h g⟩
  .rename_i f
   rw[f];simp only[dE,f]at g;exact λo d j h k=>pE (g o d j h k)
  .exact g.elim
 |exc x c=>rw[q]at g;exact g
 |bad=>rw[q]at g;exact g.elim
theorem AE(n:gg X κ Φ ce mc)(o:bu X κ Φ a ma)(p:bu X κ Φ b mb):bu X κ Φ (.IfExp ce a b pos) (zh mc ma mb):=by
 intro d h i j q;refine PE.imp (vY (n d h i j q) (PE.ex λc=>o d h i j c) (PE.ex λc=>p d h i j c)) ?_
 rintro s H Q ⟨r,Z,S,g⟩;refine⟨r,Z,S,oY.use g λt c _ u e k l m f=>?_⟩
 cases t with
 |true=>rw[if_pos rfl]at f;exact pE ⟨c,e,k,S.grow l m,f⟩
 |false=>rw[if_neg Bool.false_ne_true]at f;exact pD ⟨c,e,k,S.grow l m,f⟩
theorem AF(r:gg X κ Φ ce mc)(u:gg X κ Φ a ma)(w:gg X κ Φ b mb):gg X κ Φ (.IfExp ce a b pos) (zh mc ma mb):=by
 intro e j k f n pins s l H Q I;rintro⟨y,Z,S,g⟩;simp only[zh]at g
 have o:Mj κ Φ e j k mc f n l H (λt i=>∃c d h,cT κ e j k d h c f l i/\oY κ Φ d h i (dE (if t=true then ma f c else mb f c)) Q):=by
  refine⟨y,Z,S,?_⟩;cases q:dE (mc f n)with
  |ok t c=>
   rw[q]at g;exact λi d h p m=>⟨c,d,h,S.grow p m,oY.from p g⟩
  |exc x c=>rw[q]at g;exact g
  |bad=>rw[q]at g;exact g.elim
 refine isTrue_IfExp (cg (r e j k f n pins s l H _ I o) λv m ⟨i,I1,c,d,h,S1,k1⟩=>?_)
 cases v with
 |true=>rw[if_pos rfl]at k1;exact u e j k f c pins m l i Q I1 ⟨d,h,S1,k1⟩
 |false=>rw[if_neg Bool.false_ne_true]at k1;exact w e j k f c pins m l i Q I1 ⟨d,h,S1,k1⟩
def kZ(op b:CmpOp)(g h mc:EM):EM:=λc i=>(g c i).bind λx d=>(h c d).bind λy e=>(dE (cD op x y e)).bind λt a=>if t=true then (mc c a).bind λz f=>cD b y z f else .ok (.bl false) a
theorem xD{op b:CmpOp}(S:cT κ hZ Z0 H0 α Z Ω ρ f H)(g:bO κ Φ α Z H (kZ op b ma mb mc ρ Ω) Q) :
  qW (wV op) (wV b) (tO κ Φ hZ Z0 H0 ma ρ Ω) (λf H Q=>∃aS,tO κ Φ hZ Z0 H0 mb ρ aS f H Q) (λf H Q=>∃aS,tO κ Φ hZ Z0 H0 mc ρ aS f H Q) f H Q:=by
 refine⟨α,Z,S,bO.use g λx aS _ v P i C r j D E=>?_⟩
 refine⟨aS,i,C,S.grow r j,bO.use E λy k _ w F l G s m A c=>?_⟩
 have I:=(S.grow r j).grow s m;refine n9 (op:=op) (κ:=κ) (Φ:=Φ) m (j.c_ s D) A ?_;cases q:cD op x y k with
 |ok d a=>
  obtain⟨t,rfl⟩:=og _ _ _ _ _ q;intro u R n J o p B;simp only[ao]at B;refine⟨t,B,?_⟩;rw[q]at c;have e:bO κ Φ l G F (if t=true then (mc ρ a).bind λz h=>cD b y z h else .ok (.bl false) a) Q:=c
  have e:=bO.from o e
  cases t with
  |true=>
   rw[if_pos rfl]at e ⊢;refine⟨a,n,J,I.grow o p,bO.use e λz h _ T U K V L M N O=>?_⟩
   exact n9 M (p.c_ L (m.c_ o A)) N O
  |false=>
   rw[if_neg Bool.false_ne_true]at e ⊢;exact bO.ret p (a_ rfl) e
 |exc x a=>rw[q]at c;exact c
 |bad=>rw[q]at c;exact c
theorem AG{op c:CmpOp}(j:X.A.units+64<cLine)(k:lastMarks [op,c] [b,ce]=false)(l:bu X κ Φ a ma)(m:bu X κ Φ b mb)(n:bu X κ Φ ce mc):bu X κ Φ (.Compare a [op,c] [b,ce] pos) (kZ op c ma mb mc):=by
 intro d f h i o;refine PE.imp (wg (jl j op) (jl j c) (l d f h i o) (PE.ex λe=>m d f h i e) (PE.ex λe=>n d f h i e) k) ?_
 rintro p H Q ⟨q,Z,S,g⟩;exact xD S g
theorem DX{op a:CmpOp}{d:D}{au:az}(h:kZ op a ma mb mc ρ Ω=.ok d au):∃t,d=.bl t:=by
 simp only[kZ]at h;cases b:ma ρ Ω with
 |ok x c=>
  rw[b]at h;dsimp only[ax.bind]at h
  cases e:mb ρ c with
  |ok y f=>
   rw[e]at h;dsimp only[ax.bind]at h
   cases g:dE (cD op x y f)with
   |ok t i=>
    rw[g]at h;dsimp only[ax.bind]at h
    split at h
    .cases j:mc ρ i with
     |ok z k=>rw[j]at h;exact og _ _ _ _ _ h
     |exc _ _=>rw[j]at h;cases h
     |bad=>rw[j]at h;cases h
    .cases h;exact⟨_,rfl⟩
   |exc _ _=>rw[g]at h;cases h
   |bad=>rw[g]at h;cases h
  |exc _ _=>rw[e]at h;cases h
  |bad=>rw[e]at h;cases h
 |exc _ _=>rw[b]at h;cases h
 |bad=>rw[b]at h;cases h
theorem AH{op c:CmpOp}(l:X.A.units+64<cLine)(o:lastMarks [op,c] [b,ce]=false)(p:bu X κ Φ a ma)(r:bu X κ Φ b mb)(s:bu X κ Φ ce mc):gg X κ Φ (.Compare a [op,c] [b,ce] pos) (kZ op c ma mb mc):=by
 intro f i j h m;refine PT.imp (wh (jl l op) (jl l c) (p f i j h m) (PE.ex λe=>r f i j h e) (PE.ex λe=>s f i j h e) o) ?_
 rintro B H Q ⟨C,Z,S,g⟩;refine xD S ?_;cases q:kZ op c ma mb mc h m with
 |ok d e=>
  obtain⟨t,rfl⟩:=DX q;rw[q]at g;intro v u k w y z n;simp only[ao]at n;exact⟨t,n,g u k w y z⟩
 |exc x e=>rw[q]at g;exact g
 |bad=>rw[q]at g;exact g.elim
def di(f:List D->Out Rs):List D->az->ax D:=λb a=>match bz (et a 8) b with
 |some c=>fM a (f c)
 |none=>.bad
theorem iH{bw:Bool}{f:List D->Out Rs}{xs:List D}{vs:List V}(S:bF κ α Z Ω H)(i:aE (ao α Z H) xs vs)(h:bO κ Φ α Z H (di f xs Ω) Q) :
  ∃ds a d',aX (tE α Z) H ds vs/\f ds=.ok (a,d')/\∀v b c,eG (tE α Z) H c b->ee bw a c H b d' v->Q v b:=by
 unfold di at h;split at h
 .rename_i ds j
  obtain⟨a,d',e,k⟩:=iF (bw:=bw) S h;exact⟨ds,a,d',gv (eK (S:=Rep (tE α Z) H) (λd d' v q r=>kc S 8 q r) j i),e,λv b c g q=>k v b _ c g q⟩
 .exact h.elim
theorem vg{k:Nat}{x:Str}{F:List D->Out Rs}(F0:GJ X k x F)(j:cO k X.A)(l:Gl X x)(a:(x==("__debug__":Str))=false)
  (m:starEach (e::es) X.env=(false,eval e X.env)::starEach es X.env) (b:(backTo pos (starEach es X.env)).any (·.1)=false) (n:qO X κ Φ (e::es) as) :
  bu X κ Φ (.Call (.Name x p) (e::es) [] pos) (mN (di F) as):=by
 obtain⟨f,O,P,o,q,r,F1⟩:=F0.ex;intro c s t u w;refine PE.imp (sQ F1 j l o q r .nil kH (n c s t u w) a m b) ?_;rintro R H Q ⟨y,Z,S,g⟩;refine⟨y,Z,S,pQ.use g λT z _ B C d E U i G I=>?_⟩
 show kQ F (B++[]) C Q E0
 rw[List.append_nil];obtain⟨J,h,K,L,M,N⟩:=iH (bw:=false) i G I;exact⟨tE d E,J,h,K,dM i,L,M,N⟩
end
end Mir
namespace L2
open PySem PySem.Spec PyProof.Rows PySem.W
section
variable{P:Program}{w:World}{K:PySem.W.Frag}{mg:Str->Option Value}{base:Heap}
end
end L2
namespace L2
open PySem PySem.Spec PyProof.Rows
def GV(a:Addr)(o:Obj):It:=
 ⟨λi H=>∃b,H a=some (.dg o (.dK b))/\i<b.length,λi H x d=>d=H/\∀b,H a=some (.dg o (.dK b))->∃c,b[i]?=some c/\x=kV c.1,λi H=>∃b,H a=some (.dg o (.dK b))/\b.length<=i⟩
theorem fO{a b:Type}{F:a->b->Prop}:∀{xs:List a}{us:List b}{i:Nat}{x:a},Paired F xs us->xs[i]?=some x->∃u,us[i]?=some u/\F x u
 |_,_,_,_,.nil,e=>by simp at e
 |_,_,0,_,.cons r _,e=>by simp at e;subst e;exact⟨_,rfl,r⟩
 |_,_,i+1,x,.cons _ t,e=>by
  obtain⟨u,h1,h2⟩:=fO (i:=i) (x:=x) t (by simpa using e)
  exact⟨u,by simpa using h1,h2⟩
theorem tI{k:Key}{u:Value}{P:Program}{w:World}(h:(bt P w).is k u=true):RelV (kV k) u:=by
 rcases bW (show kz k u=true from h)with ⟨i,t,rfl,rfl⟩|⟨x,t,rfl,rfl⟩
 .exact⟨t,rfl⟩
 .exact⟨t,rfl⟩
theorem jr{P:Program}{w:World}{H:Hp}{h:Heap}{a:Addr}{o:Obj}{kvs:List (Key×V)}{es:Array DictEntry}{ep:Nat}(ok:gN P w H h)(e:H a=some (.dg o (.dK kvs)))(c:o.data=.dict es ep) :
  ∃vs,KV kvs vs/\h.DictAt (bt P w) a vs ep/\es.size=vs.length/\(a==sysModules)=false:=by
 obtain⟨d,_,i,vs,r,p,j,k,b,l,f,m,g,n⟩:=ok a _ e;rw[d]at b;cases b
 rw[c]at f;cases f
 refine⟨vs,r,⟨o,es,d,l,c,m,g,n⟩,?_,i⟩;rw[←g.length];simp
theorem vh{P:Program}{w:World}{K:PySem.W.Frag}{U:Expr}(a it:Addr){o:Obj}{es:Array DictEntry}{ep:Nat}(O:o.data=.dict es ep):Turn P w K U (GV a o) [it] it (λi h=>h.IsKeyIter it a i es.size ep) where
 mem:=by simp
 obj:=λi h f b j=>by
  have e:b=it:=by simpa using j
  subst e;obtain⟨o,e,c,d⟩:=f;exact⟨o,e,λv z=>by rw[d]at z;cases z⟩
 keep:=λi h p f k=>by
  obtain⟨o,e,c,d⟩:=f;exact⟨o,k it (by simp) o e,c,d⟩
 item:=by
  intro X y A B Q i pins s R H E I t f C;subst y A B;obtain⟨g,u,S⟩:=C;obtain⟨V,r,D,x,_⟩:=jr I.hok u O;have l:g[i]?=some g[i]:=List.getElem?_eq_getElem S;obtain⟨q,Y,Z⟩:=fO r l;obtain⟨F,G,f2,J,L,M⟩:=t it (by simp)
  rw[x]at f;refine wpAny_pyNext_dict_item f D (k:=q.1) (v:=q.2) Y λN p hk m sb=>?_
  have I1:Inv X pins R H {s with heap:=p}:=I.turned (t':=s.toks) (λb o j e=>(sb.2 b j).trans e) F G J L M
  obtain⟨o1,e1,c1,d1⟩:=id m;refine⟨N,rfl,mu (s:={s with heap:=p}) e1 c1 d1 (by decide) ⟨kV q.1,H,I1,tI hk,⟨rfl,λT n=>?_⟩,by rw[x];exact m,λb j=>(t b j).1⟩⟩
  rw[u]at n;cases n
  exact⟨g[i],l,by rw[Z.1]⟩
 done:=by
  intro X y A B Q i pins s R H E I t f C;subst y A B;obtain⟨g,u,S⟩:=C;obtain⟨V,r,D,x,_⟩:=jr I.hok u O;obtain⟨F,G,f2,J,L,M⟩:=t it (by simp)
  have hl:=r.length;rw[x]at f;exact wpAny_pyNext_dict_end (I.ok.hd Q) f D (List.getElem?_eq_none (by omega)) λp eb=>⟨rfl,I.turned (t':=s.toks) (λb o j e=>eb b o j e) F G J L M⟩
 self:=λ_ _ _ _ _ f h=>wpAny_pyIter_keyiter f h
section
variable{X:Cx}{pins:List (Addr×Obj)}{σ:St}{H:Hp}{s:Shared}
theorem Inv.tJ{a:Addr}{kvs:List (Key×V)}(I:Inv X pins σ H s)(e:H a=some (.dK kvs)):∃o es ep,s.heap.get? a=some o/\o.data=.dict es ep/\Inv X pins σ (upd H a (.dg o (.dK kvs))) s:=by
 obtain⟨z,d,f,r,o,es,ep,b,g,c,h,i,j⟩:=I.hok a _ e;refine⟨o,es,ep,b,c,?_⟩;have:=iD (t':=s.toks) (h':=s.heap) (ob:=.dg o (.dK kvs)) I (by rw[e];exact True.intro) ⟨rfl,λ_ _=>rfl⟩ ⟨o,b⟩ ⟨b,z,d,f,r,o,es,ep,b,g,c,h,i,j⟩
 exact this
def GW(R:It->Hp->Prop)(x:V)(c:Hp):Prop:=∃a b,x=.ref a/\((c a=some (.dK b)/\∀o,R (GV a o) (upd c a (.dg o (.dK b))))\/∃o,c a=some (.dg o (.dK b))/\R (GV a o) c)
theorem AI{p:Expr}{x:V}{u:Value}{R:It->Hp->Prop}(l:Inv X pins σ H s)(B:RelV x u)(q:GW R x H):wpAny (model X.prog X.w) X.A (pyIter u) (PIE X pins σ p R) X.xe s:=by
 obtain⟨a,m,rfl,q⟩:=q;cases (show u=Value.ref a from B)
 have c:∀(o:Obj) (e:Array DictEntry) (d:Nat) (f:Hp),Inv X pins σ f s->f a=some (.dg o (.dK m))->o.data=.dict e d->R (GV a o) f->wpAny (model X.prog X.w) X.A (pyIter (.ref a)) (PIE X pins σ p R) X.xe s:=by
  intro o e d f g C j h;obtain⟨n,r,D,E,t⟩:=jr g.hok C j;refine wpAny_pyIter_dict t D ?_;have F:Inv X pins σ f {s with heap:=s.heap.push {cls:=.type "dict_keyiterator",data:=.fields #[.ref a,.int 0 0,.int n.length 0,.int d 0]} }:=g.kept (t':=s.toks) λb o q=>Heap.get?_push_of_some _ q
  refine⟨s.heap.objs.size,[s.heap.objs.size],_,_,f,rfl,F,vh a _ j,?_,λb G=>?_,h⟩
  .rw[E]
   exact⟨{cls:=.type "dict_keyiterator",data:=.fields #[.ref a,.int 0 0,.int n.length 0,.int d 0]},Heap.get?_push_size _ rfl,rfl,rfl⟩
  .have z:b=s.heap.objs.size:=by simpa using G
   rw[z];have:=g.v_ (b:=s.heap.objs.size) (Nat.le_refl _) (g.hok.fresh (Nat.le_refl _));exact this
 rcases q with ⟨k,h⟩|⟨o,k,h⟩
 .obtain⟨o,e,d,y,j,g⟩:=l.tJ k
  exact c o e d _ g aR j (h o)
 .obtain⟨y,_,t,n,r,J,e,d,i,K,I,L⟩:=l.hok a _ k
  rw[y]at i;cases i
  exact c o e d _ l k I h
end
section
variable{prog:Program}{w:World}{A:Around}{E:Value->Shared->Prop}{s:Shared}
theorem vi{a:Addr}{Q:Bool->Shared->Prop}(e:s.TypeIs (.ref a) "dict")(h:Q false s):wpAny (model prog w) A (Builtin.List.listLengthHint (.ref a)) Q E s:=by
 unfold Builtin.List.listLengthHint;refine wpAny_bind (wpAny_specialOf e F.slot_dict_len.lookup ?_);generalize d:("dict.__len__":String)=f
 wp_delta
 rw[show splitId f=some ("dict","__len__")from by subst d;decide +kernel]
 subst d;refine wpAny_bind (wpAny_isInstance (T:="dict") (b:=true) e isSubtype_dict_dict ?_);refine wpAny_ite_split (λc=>absurd c (by decide)) (λ_=>?_)
 refine wpAny_ite_split (λ_=>?_) (λc=>absurd (by decide +kernel) c)
 refine wpAny_bind (wpAny_typeOf e ?_);exact wpAny_pure h
theorem oi{a:Addr}{o:Obj}{xs:Array Value}{k:Nat}{Q:Option Value->Shared->Prop}(m:s.heap.get? a=some o)(n:o.cls=.type "list")(f:o.data=.seq xs k)(p:o.dict=none)(t:A.handled=none)
  (h:∀h' q,(∀b o,s.heap.get? b=some o->h'.get? b=some o)->Q none {s with heap:=h',toks:=q}):wpAny (model prog w) A (getAttr? (.ref a) "keys") Q E s:=by
 obtain⟨c,u,x,y⟩:=o;simp only at n f p;subst n f p;obtain⟨z,g,d,q,B⟩:=s;have r:∀j,(⟨z,g,d,j,B⟩:Shared).TypeIs (.ref a) "list":=λ_=>⟨_,m,rfl⟩
 have C:=sub_AttributeError;have D:=F.slot_list_getattribute.lookup;have G:=F.slot_list_getattribute.bind (.ref a);have H:=am_list_getattr_none;have i:typeLookup (.type "list") "keys"=pure none:=am_miss_of_fast (by kernel_rfl)
 unfold getAttr? getAttrBy? getAttrBy
 repeat (any_goals (first|assumption|exact r _ | ((with_reducible show wpAny _ _ (call (Value.builtin "list.__getattribute__") _ _) _ _ _);refine call_meets F.slot_list_getattribute (r _) am_entry_list_getattribute (F.args_list_getattribute_2 _ _) (meets_getattribute_miss_list a xs k y "keys" _ i (by decide) (by decide)) ⟨m,t,λh' j e l=>?_⟩)|wp_step))
 obtain⟨I,J,K⟩:=l.there
 show wpAny _ _ (getattributeRaised _ _ _ _ _ _ _) _ _ _
 unfold getattributeRaised
 repeat (any_goals (first|assumption|wp_step))
 exact h _ _ λb o e=>l.keeps b o e
theorem cV:plainId "dict.update.loop"=true:=by decide +kernel
theorem eX:entryFor table "dict.update.loop"=some Builtin.«dict.update.loop» := entryFor_of_fast (by kernel_rfl)
variable{K:Type}[DecidableEq K]{knd:KeyKind prog w K}
theorem k9{c d:Type}{F G:c->d->Prop}(h:∀a b,F a b->G a b):∀{xs:List c}{us:List d},Paired F xs us->Paired G xs us
 |_,_,.nil=>.nil
 |_,_,.cons r t=>.cons (h _ _ r) (k9 h t)
def k_(knd:KeyKind prog w K)(h:Heap)(p:K×Value)(u:Value):Prop:=∃b o a n,u=.ref b/\h.get? b=some o/\o.cls=.type "tuple"/\o.data=.seq #[a,p.2] n/\knd.is p.1 a=true
theorem pW{R:Result->Shared->Prop}{l it d:Addr}{items:List Value}{h₀:Heap}(hh:A.handled=none)(h:d≠it)(E:l≠d)(F:l≠it)(hl:h₀.IsList l items.toArray)(j:Value)(S:∀o,h₀.get? d=some o->o.cls≠.type "tuple")(U:∀o,h₀.get? it=some o->o.cls≠.type "tuple") :
  ∀(ps:List (K×Value)) (i:Nat) (t:Tok) (s:Shared) (c:List (K×Value)),Paired (k_ knd h₀) ps (items.drop i)->c.length+ps.length<=sizeLine->(∀b o,b≠d->b≠it->h₀.get? b=some o->s.heap.get? b=some o)->s.heap.IsListIter it l i->s.heap.DictOf knd d c ->
  (∀h' V,(∀b o,b≠d->b≠it->s.heap.get? b=some o->h'.get? b=some o)->h'.DictOf knd d (ps.foldl (λa p=>stored a p.1 p.2) c)->R (.ok (.ret j)) {s with heap:=h',toks:=V}) ->
  codeAny (model prog w) A (.builtin "dict.update.loop" ⟨[.ref d,.ref it,.int i t,j],[]⟩) R s:=by
 intro ps
 induction ps with
 |nil=>
  intro i t s c G X H k Y Z;refine codeAny_builtin eX ?_;rw[Around.under_plainId cV _];have D:items.drop i=[]:=by generalize items.drop i=q at G;cases G;rfl
  have m:s.heap.IsList l items.toArray:=let ⟨o,y,r⟩:=hl;⟨o,H l o E F y,r⟩
  show wpAny _ A.in1 (pyNext (.ref it) >>= _) _ _ s
  refine wpAny_bind (wpAny_pyNext_list_end hh k m (by simpa using List.drop_eq_nil_iff.mp D) λh' eb=>?_)
  show wpAny _ _ (Builtin.Dict.addKeywords d [] >>= _) _ _ _
  exact wpAny_bind (wpAny_pure (wpAny_pure (Z h' s.toks (λb o _ Q e=>eb b o Q e) (Y.extBut eb h))))
 |cons p ps ih=>
  intro i t s c G X H k Y Z
  have D:∃u r,items.drop i=u::r/\k_ knd h₀ p u/\Paired (k_ knd h₀) ps r:=by
   generalize items.drop i=q at G;cases G with|cons a b=>exact⟨_,_,rfl,a,b⟩
  obtain⟨u,r,D,⟨b,o,I,n,rfl,y,hc,J,L⟩,a0⟩:=D
  have hi:items[i]?=some (.ref b):=by
   have:=congrArg (·[0]?) D;simpa using this
  have hr:items.drop (i+1)=r:=by rw[←List.drop_drop,D];rfl
  have m:s.heap.IsList l items.toArray:=let ⟨o,y,r⟩:=hl;⟨o,H l o E F y,r⟩
  have b0:b≠d:=λe=>S o (e▸y) hc
  have M:b≠it:=λe=>U o (e▸y) hc
  refine codeAny_builtin eX ?_;rw[Around.under_plainId cV _]
  show wpAny _ A.in1 (pyNext (.ref it) >>= _) _ _ s
  refine wpAny_bind (wpAny_pyNext_list_item k m (x:=.ref b) (by simpa using hi) λh1 N z=>?_)
  have O:h1.get? b=some o:=(z.2 b M).trans (H b o b0 M y);have c0:h1.DictOf knd d c:=Y.extBut z.extBut h;refine wpAny_bind (wpAny_holding (wpAny_bind (wpAny_tryCatch ?_)));unfold Builtin.Dict.pairItems;refine wpAny_bind (wpAny_typeOf (T:="tuple") ⟨o,O,hc⟩ ?_);rw[if_pos (by decide)]
  unfold seqItems?;refine wpAny_bind (wpAny_bind (wpAny_load O ?_));rw[J];refine wpAny_pure (wpAny_pure ?_)
  show wpAny _ _ (holding [I,p.2] (dictSet d I p.2)) _ _ _
  refine wpAny_holding (wpAny_dictSet_pairs L c0 (λQ e0 P=>?_) (by simp at X;omega))
  refine wpAny_pure ⟨plainId_quiet cV _,?_⟩;have keep:∀f g,f≠d->f≠it->s.heap.get? f=some g->Q.get? f=some g:=λf g B C e=>(P.2 f B).trans ((z.2 f C).trans e)
  show codeAny _ _ (.builtin "dict.update.loop" ⟨[.ref d,.ref it,rawInt ((i:Int)+1),j],[]⟩) _ _
  have:=ih (i+1) 0 {s with heap:=Q,toks:=s.toks+1} (stored c p.1 p.2) (by rw[hr];exact a0) (by have:=stored_length_le c p.1 p.2;simp at X;omega) (λf g B C e=>keep f g B C (H f g B C e)) (N.at λo e=>(P.2 it (Ne.symm h)).trans e) e0 (λh' V f0 g0=>Z h' V (λf g B C e=>f0 f g B C (keep f g B C e)) g0)
  exact this
theorem la{l:Addr}{o:Obj}{items:List Value}{n:Nat}{ps:List (K×Value)}{Q:Value->Shared->Prop}(X:A.handled=none)(Y:s.heap.get? l=some o)(N:o.cls=.type "list")(g:o.data=.seq items.toArray n)(hd:o.dict=none)(hp:Paired (k_ knd s.heap) ps items)(hsz:ps.length<=sizeLine)
  (h:∀h' I,(∀b o,s.heap.get? b=some o->h'.get? b=some o)->h'.DictOf knd s.heap.objs.size (ps.foldl (λa p=>stored a p.1 p.2) [])->Q (.ref s.heap.objs.size) {s with heap:=h',toks:=I}) :
  wpAny (model prog w) A (call (.type "dict") [.ref l]) Q E s:=by
 refine callType_codes (Q₁:=λt i=>t=.ref s.heap.objs.size/\i={s with heap:=s.heap.push {cls:=.type "dict",data:=.dict #[]} }) F.kt_called_dict (F.kt_typeCall_dict_1 _) F.entry_dict_init (kt_code_dict_new _ ⟨rfl,rfl⟩) ?_
 rintro t i ⟨rfl,rfl⟩;have c:(s.heap.push {cls:=.type "dict",data:=.dict #[]}).DictOf knd s.heap.objs.size []:=Heap.DictOf.new s.heap;have j:=Heap.get?_push_of_some {cls:=.type "dict",data:=.dict #[]} Y;refine⟨c.typeIs,F.args_dict_init_2 _ _,?_⟩;unfold Builtin.«dict.__init__»;refine wpAny_bind ?_;unfold Builtin.Dict.selfAndRest;refine wpAny_bind (wpAny_notOrdered_dict c.typeIs ?_)
 show wpAny _ _ (pure (s.heap.objs.size,[Value.ref l])) _ _ _
 refine wpAny_pure ?_
 show wpAny _ _ (Builtin.Dict.updateFrom "dict.__init__" s.heap.objs.size (.ref l) [] .none) _ _ _
 unfold Builtin.Dict.updateFrom;refine wpAny_bind (wpAny_typeOf (T:="list") ⟨o,j,N⟩ ?_);rw[if_pos (by decide)]
 refine wpAny_bind (oi (A:=A.in1.in1) j N g hd X λf I O=>?_)
 rw[if_pos (by decide)]
 refine wpAny_bind (wpAny_rule ?_);have x:f.IsList l items.toArray:=⟨o,O l o j,N,n,g⟩;refine wpAny_bind (wpAny_pyIter_list (s:={s with heap:=f,toks:=I}) x ?_);refine wpAny_pure ⟨plainId_quiet cV _,?_⟩;have Z:∀b o,s.heap.get? b=some o->f.get? b=some o:=λb o e=>O b o (Heap.get?_push_of_some _ e)
 have y:f.DictOf knd s.heap.objs.size []:=let ⟨o,J,L,e,r⟩:=c;⟨o,J,L,O _ o e,r⟩
 have k:s.heap.objs.size<f.objs.size:=let ⟨o,_,_,e,_⟩:=y;Heap.lt_size e
 have z:l<s.heap.objs.size:=Heap.lt_size Y;generalize hq:f.push {cls:=Value.type "list_iterator",data:=.fields #[.ref l,.int 0 0]}=B;have M:∀b o,f.get? b=some o->B.get? b=some o:=λb o e=>by rw[←hq];exact Heap.get?_push_of_some _ e
 have C:B.IsListIter f.objs.size l 0:=by rw[←hq];exact⟨_,Heap.get?_push_size _ rfl,rfl,rfl⟩
 have D:B.DictOf knd s.heap.objs.size []:=let ⟨o,J,L,e,r⟩:=y;⟨o,J,L,M _ o e,r⟩
 have m:=pW (A:=A.in1) (R:=wants (λr G=>r=Value.none/\Q (Value.ref s.heap.objs.size) G) E) (knd:=knd) (h₀:=B) (l:=l) (it:=f.objs.size) (d:=s.heap.objs.size) (items:=items) X (Nat.ne_of_lt k) (Nat.ne_of_lt z) (Nat.ne_of_lt (Nat.lt_trans z k))
  (let ⟨o,e,r⟩:=x;⟨o,M _ o e,r⟩) .none (λo e=>by
   obtain⟨o',J,L,H,q,_⟩:=D;rw[e]at H;cases H
   rw[q.1];decide) (λo e=>by
   obtain⟨o',H,q,_⟩:=C;rw[e]at H;cases H
   rw[q];decide) ps 0 0 {s with heap:=B,toks:=I} [] (by
   rw[List.drop_zero]
   exact k9 (λp u P=>by
    obtain⟨b,o,m,n,e1,e2,r⟩:=P;exact⟨b,o,m,n,e1,M _ _ (Z _ _ e2),r⟩) hp) (by simpa using hsz) (λb o _ _ e=>e) C D (λh' S U V=>?_)
 .exact m
 .refine⟨rfl,h h' S (λb o e=>U b o ?_ ?_ (M _ _ (Z _ _ e))) V⟩
  .exact Nat.ne_of_lt (Heap.lt_size e)
  .exact Nat.ne_of_lt (Nat.lt_trans (Heap.lt_size e) k)
theorem lj{a:Addr}{kvs:List (K×Value)}{ep:Nat}{Q:Value->Shared->Prop}(hh:A.handled=none)(lo:(a==sysModules)=false)(da:s.heap.DictAt knd a kvs ep)(hn:kvs.length<=sizeLine)
  (hQ:∀h' tk f M,(∀b o,s.heap.get? b=some o->h'.get? b=some o)->h'.get? s.heap.objs.size=some {cls:=.type "list",dict:=none,data:=.seq f M,slots := #[]}->ItemsOf (λi v=>∃k x,kvs[i]?=some (k,x)/\knd.is k v=true) f kvs.length->Q (.ref s.heap.objs.size) {s with heap:=h',toks:=tk}) :
  wpAny (model prog w) A (call (.type "list") [.ref a]) Q E s:=by
 refine callType_codes (Q₁:=λu m=>u=.ref s.heap.objs.size/\m={s with heap:=s.heap.push {cls:=.type "list",data:=.seq #[]} }) F.called_list (F.typeCall_list_1 _) F.entry_list_init
  (code_list_new _ ⟨rfl,rfl⟩) λu m y=>?_
 obtain⟨rfl,rfl⟩:=y;generalize d:s.heap.objs.size=S;have I:(s.heap.push {cls:=.type "list",data:=.seq #[]}).get? S=some {cls:=.type "list",data:=.seq #[]}:=by rw[←d];exact Heap.get?_push_size _ rfl
 refine⟨⟨_,I,rfl⟩,F.args_list_init_2 _ _,?_⟩
 show wpAny _ A.in1.in1 (do let N ←Builtin.List.listItems (.ref S);Builtin.List.listUpdate (.ref S) (λ_=>#[]);letGo N.toList.reverse;Builtin.List.listExtendWith (.ref S) (.ref a) .none) _ _ _
 refine wpAny_bind ?_;unfold Builtin.List.listItems;refine wpAny_bind (wpAny_seqItems I rfl (wpAny_pure ?_))
 show wpAny _ _ (updateSeq S (λ_=>#[]) >>= λ_=>letGo (#[]:Array Value).toList.reverse >>= λ_=>Builtin.List.listExtendWith (.ref S) (.ref a) .none) _ _ _
 refine wpAny_bind (wpAny_updateSeq I rfl ?_);have c:=Heap.get?_update_self (Obj.mapSeq (λ_=>(#[]:Array Value))) I rfl
 have n:S≠a:=λe=>by
  obtain⟨o,es,p,_⟩:=da;exact Nat.lt_irrefl _ ((e▸d)▸Heap.lt_size p)
 refine wpAny_bind (wpAny_letGo ?_);generalize O:(s.heap.push {cls:=.type "list",data:=.seq #[]}).update S (Obj.mapSeq (λ_=>(#[]:Array Value)))=g at c
 have k1:∀b o,s.heap.get? b=some o->g.get? b=some o:=λb o e=>by
  rw[←O];exact(Heap.get?_update_other _ _ (λz=>Nat.lt_irrefl _ ((z▸d)▸Heap.lt_size e))).trans (Heap.get?_push_of_some _ e)
 have l:g.DictAt knd a kvs ep:=da.at' λo e=>k1 a o e
 have P:({s with heap:=g}:Shared).TypeIs (.ref a) "dict":=let ⟨o,_,p,R,_⟩:=l;⟨o,p,R.1⟩
 show wpAny _ _ (Builtin.List.listExtendWith (.ref S) (.ref a) .none) _ _ {s with heap:=g}
 unfold Builtin.List.listExtendWith;refine wpAny_bind (wpAny_typeOf P ?_);have T:Builtin.List.listSameRef (.ref S) (.ref a)=false:=by simp[Builtin.List.listSameRef,n]
 have U:(Value.type "dict"==Value.type "list")=false:=by decide
 have V:(Value.type "dict"==Value.type "tuple")=false:=by decide
 simp only[T,U,V,Bool.or_false,Bool.false_eq_true,if_false];refine wpAny_bind (wpAny_pyIter_dict lo l ?_);generalize B:g.push {cls:=.type "dict_keyiterator",data:=.fields #[.ref a,.int 0 0,.int kvs.length 0,.int ep 0]}=q;have J:∀b o,g.get? b=some o->q.get? b=some o:=λb o e=>by rw[←B];exact Heap.get?_push_of_some _ e
 have X:q.IsKeyIter g.objs.size a 0 kvs.length ep:=by rw[←B];exact⟨_,Heap.get?_push_size _ rfl,rfl,rfl⟩
 have C:q.DictAt knd a kvs ep:=l.at' λo e=>J a o e
 have Y:({s with heap:=q}:Shared).TypeIs (.ref a) "dict":=let ⟨o,_,p,R,_⟩:=C;⟨o,p,R.1⟩
 refine wpAny_bind (wpAny_holding (vi (s:={s with heap:=q}) Y ?_));refine wpAny_ite_split (λ_=>?_) (λZ=>absurd (by decide) Z)
 refine wpAny_bind (wpAny_rule ?_);refine wpAny_bind ?_
 show wpAny _ _ (updateSeq S (·.push .none) >>= λ_=>updateSeq S (·.pop)) _ _ _
 refine wpAny_bind (wpAny_updateSeq (J _ _ c) rfl ?_);have h:=Heap.get?_update_self (Obj.mapSeq (·.push Value.none)) (J _ _ c) rfl;refine wpAny_updateSeq (hz:=by seq_fits) h rfl ?_
 have j:=Heap.get?_update_self (Obj.mapSeq (·.pop)) h rfl;refine wpAny_pure ⟨plainId_quiet F.plain_extend_loop _,?_⟩;generalize a0:(q.update S (Obj.mapSeq (·.push Value.none))).update S (Obj.mapSeq (·.pop))=h3 at j
 have k3:∀b o,b≠S->q.get? b=some o->h3.get? b=some o:=λb o r e=>by
  rw[←a0];exact(Heap.get?_update_other _ _ (Ne.symm r)).trans ((Heap.get?_update_other _ _ (Ne.symm r)).trans e)
 have b0:a<g.objs.size:=let ⟨o,_,p,_⟩:=l;Heap.lt_size p
 have t:S<g.objs.size:=Heap.lt_size c;have W:=(Walks.dictKeys (prog:=prog) (w:=w) (A:=A.in1.in1) (knd:=knd) hh g.objs.size a (Nat.ne_of_lt b0) kvs ep).toS;refine codeAny_extend_loopS W hn S (λL=>?_) .none kvs.length 0 _ #[] _ rfl (Nat.zero_le _) ⟨X.at λo e=>k3 _ o (Ne.symm (Nat.ne_of_lt t)) e,C.at' λo e=>k3 _ o (Ne.symm n) e⟩ j (ItemsOf.nil _) λs' f M L D G=>?_
 .rcases List.mem_cons.mp L with e|e
  .exact Nat.ne_of_lt t e
  .exact n (by simpa using e)
 .rw[Moved.eq_with L]at D ⊢
  refine⟨rfl,?_⟩;have:=hQ s'.heap s'.toks f M (λb o e=>L.heap b o (λH=>?_) (k3 _ _ (λz=>Nat.lt_irrefl _ ((z▸d)▸Heap.lt_size e)) (J _ _ (k1 _ _ e)))) (by rw[d];exact D) G
  .rw[d]at this;exact this
  .have r:=Heap.lt_size e
   rcases List.mem_cons.mp H with e' |e'
   .rw[e',←d]at r;exact Nat.lt_irrefl _ r
   .have e':b=g.objs.size:=by simpa using e'
    rw[e',d]at r;exact Nat.lt_irrefl _ (Nat.lt_trans r t)
end
section
variable{X:Cx}
theorem AJ{vs:List V}{c:Array Value}{P:Nat->Value->Prop}(h:ItemsOf P c vs.length)(j:∀(i:Nat) (u:Value) (v:V),P i u->vs[i]?=some v->RelV v u):Vals vs c.toList:=by
 have d:∀(l:List Value) (vs:List V),l.length=vs.length->(∀(i:Nat) (u:Value) (v:V),l[i]?=some u->vs[i]?=some v->RelV v u)->Vals vs l:=by
  intro l
  induction l with
  |nil=>intro vs h _;cases vs with|nil=>exact .nil|cons a b=>simp at h
  |cons u l k=>
   intro vs h g;cases vs with
   |nil=>simp at h
   |cons v vs=>exact .cons (g 0 u v rfl rfl) (k vs (by simpa using h) λi m n e f=>g (i+1) m n (by simpa using e) (by simpa using f))
 exact d _ _ (by rw[Array.length_toList,h.1]) λi u v e f=>j i u v (h.2 i u (by simpa using e)) f
theorem rN(n:X.calm=true):dB X (.type "list") (λxs H Q=>∃a kvs,xs=[V.ref a]/\Rd H a (.dK kvs)/\∀l,H l=none->Q (.ref l) (upd H l (.lst (kvs.map λb=>kV b.1)))):=by
 intro pins s S H xs T Q I r h;obtain⟨a,kvs,rfl,p,q⟩:=h;obtain⟨u,rfl,t⟩:=vals1 r;cases t;obtain⟨z,y,g,d,A⟩:=gs I.hok p;obtain⟨o,B,ep,d1,d2,d3,d4⟩:=A;have C:=d.length;refine lj (knd:=bt X.prog X.w) (kvs:=g) (ep:=ep) (I.ok.hd n) y ⟨o,B,d1,d2,d3,d4⟩ (by omega) λD U c E F e G=>?_
 have J:Vals (kvs.map λb=>kV b.1) c.toList:=AJ (P:=λi v=>∃k x,g[i]?=some (k,x)/\(bt X.prog X.w).is k v=true) (by rw[List.length_map,←C]at *;exact G) λi u v K f=>by
  obtain⟨k,x,L,M⟩:=K
  have N:∃b,kvs[i]?=some b/\v=kV b.1:=by
   rw[List.getElem?_map]at f;cases j:kvs[i]? with
   |none=>rw[j]at f;cases f
   |some b=>rw[j]at f;cases f;exact⟨b,rfl,rfl⟩
  obtain⟨b,O,rfl⟩:=N;obtain⟨Y,m,R⟩:=fO d O;rw[L]at m;cases m
  rw[R.1];exact tI M
 exact⟨.ref s.heap.objs.size,_,I.laid F (Nat.le_refl _) (show bN X.prog X.w _ D _ (.lst _)from⟨by simpa using z,c.toList,E,J,by simpa using e⟩),rfl,q _ (I.hok.fresh (Nat.le_refl _))⟩
theorem rO:dB X (.type "dict") (λxs H Q=>∃a kvs,xs=[V.ref a]/\Rd H a (.dK kvs)/\∀l,H l=none->Q (.ref l) (upd H l (.dK kvs))):=by
 intro pins s t H xs x Q I r h;obtain⟨a,kvs,rfl,i,q⟩:=h;obtain⟨u,rfl,j⟩:=vals1 r;cases j;obtain⟨z,k,y,c,m⟩:=gs I.hok i;have A:=c.length;refine kt_call_dict (knd:=bt X.prog X.w) k m (by omega) λn d p=>?_
 have f:∀b o,s.heap.get? b=some o->n.get? b=some o:=λb o e=>(p.2 b (Nat.ne_of_lt (Heap.lt_size e))).trans (Heap.get?_push_of_some _ e)
 have g:(s.heap.objs.size==sysModules)=false:=beq_eq_false_iff_ne.mpr (Ne.symm (Nat.ne_of_lt I.big));exact⟨.ref s.heap.objs.size,_,I.laid (t':=s.toks) f (Nat.le_refl _) (nM z g c d),rfl,q _ (I.hok.fresh (Nat.le_refl _))⟩
theorem rP(M:X.calm=true):dB X (.type "dict") (λxs H Q=>∃a g ps,xs=[V.ref a]/\Rd H a (.lst g)/\Paired (λ(p:Key×V) (y:V)=>∃b,y=.ref b/\Rd H b (.tup [kV p.1,p.2])) ps g/\∀l,H l=none->Q (.ref l) (upd H l (.dK (ps.foldl (λa p=>putK a p.1 p.2) [])))):=by
 intro pins s σ H xs N Q I r h;obtain⟨a,g,ps,rfl,O,z,q⟩:=h;obtain⟨u,rfl,C⟩:=vals1 r;cases C;obtain⟨e,i,⟨o,n,P,D,E,k⟩,hz⟩:=I.list (.inl O)
 have F:∀{ps:List (Key×V)}{g:List V}{e:List Value},Paired (λ(p:Key×V) (y:V)=>∃b,y=.ref b/\Rd H b (.tup [kV p.1,p.2])) ps g->Vals g e->∃f,KV ps f/\Paired (k_ (bt X.prog X.w) s.heap) f e:=by
  intro ps g e z i
  induction z generalizing e with
  |nil=>cases i;exact⟨[],.nil,.nil⟩
  |@cons p y ps g A _ m=>
   cases i with
   |@cons _ u _ N C i=>
    obtain⟨f,j,B⟩:=m i;obtain⟨b,rfl,R⟩:=A;cases (show u=Value.ref b from C)
    obtain⟨_,K,t,S,T,U,Y,Z⟩:=(show bN X.prog X.w H s.heap b (.tup [kV p.1,p.2])from wD I.hok R)
    cases t with
    |@cons _ k' _ r1 rk t=>
     cases t with
     |@cons _ v' _ r2 G t=>
      cases t with
      |nil=>exact⟨(p.1,v')::f,.cons ⟨rfl,G⟩ j,.cons ⟨b,S,k',Y,rfl,T,U,Z,kG rk⟩ B⟩
 obtain⟨f,j,B⟩:=F z i;have hl:=j.length;have a0:=Paired.length z;refine la (knd:=bt X.prog X.w) (I.ok.hd M) P D k E B (by omega) λh' tk kp dd=>?_
 have hf:∀{ps:List (Key×V)}{f:List (Key×Value)} (c:List (Key×V)) (d:List (Key×Value)),KV c d->KV ps f->KV (ps.foldl (λa p=>putK a p.1 p.2) c) (f.foldl (λa p=>stored a p.1 p.2) d):=by
  intro ps f c d L r
  induction r generalizing c d with
  |nil=>exact L
  |@cons p q ps f A _ m=>
   simp only[List.foldl_cons];refine m _ _ ?_;rw[←A.1];exact L.put p.1 A.2
 have x:∀(ps:List (Key×V)) (c:List (Key×V)),(ps.foldl (λa p=>putK a p.1 p.2) c).length<=c.length+ps.length:=by
  intro ps
  induction ps with
  |nil=>intro c;simp
  |cons p ps m=>
   intro c;have j:=m (putK c p.1 p.2);have B:=eU c p.1 p.2;simp only[List.foldl_cons,List.length_cons]at j ⊢;omega
 have J:(ps.foldl (λa p=>putK a p.1 p.2) []).length<=sizeLine:=by
  have:=x ps [];simp at this;omega
 exact⟨.ref s.heap.objs.size,_,I.laid kp (Nat.le_refl _) (nM J (beq_eq_false_iff_ne.mpr (Ne.symm (Nat.ne_of_lt I.big))) (hf _ _ .nil j) dd),rfl,q _ (I.hok.fresh (Nat.le_refl _))⟩
end
end L2
namespace Mir
open PySem PySem.Spec PyProof.Rows L2
section
variable{X:Cx}{tg e:Expr}
def GX(K:PySem.W.Frag)(d:TE):TI:=λe H R=>d e H λx b=>(∃a c,x=.ref a/\Rd b a (.lst c)/\R (LR K a) b)\/(∃a c,x=.ref a/\Rd b a (.tup c)/\R (LS K a) b)\/(∃y,x=.str y/\R (RV y) b)\/GW R x b
theorem AK{m:TE}(n:PE X e m):PI X tg e (GX X.K m):=by
 intro pins s p H R I h;refine cg (n pins s p H _ I h) λv c ⟨x,g,d,i,r⟩=>?_
 have j:∀b∈[c.heap.objs.size],lZ X pins g b:=λb u=>by
  obtain rfl:b=c.heap.objs.size:=by simpa using u
  exact d.v_ (Nat.le_refl _) (d.hok.fresh (Nat.le_refl _))
 rcases r with ⟨a,w,rfl,k,q⟩|⟨a,w,rfl,k,q⟩|⟨y,rfl,q⟩|q
 .cases i
  obtain⟨f,z,l,A⟩:=d.list (kK (K:=X.K) k);refine wpAny_pyIter_list l.isList ?_;exact⟨c.heap.objs.size,[c.heap.objs.size],_,_,g,rfl,d.kept (t':=c.toks) λb o e=>Heap.get?_push_of_some _ e,uG a _,⟨_,Heap.get?_push_size _ rfl,rfl,rfl⟩,j,q⟩
 .cases i
  obtain⟨f,z,l,A⟩:=d.tuple (uX (K:=X.K) k);refine wpAny_pyIter_tuple (show c.heap.IsTuple a f.toArray from l) ?_
  exact⟨c.heap.objs.size,[c.heap.objs.size],_,_,g,rfl,d.kept (t':=c.toks) λb o e=>Heap.get?_push_of_some _ e,qU a _,⟨_,Heap.get?_push_size _ rfl,rfl,rfl⟩,j,q⟩
 .obtain⟨t,rfl⟩:=i
  refine wpAny_pyIter_strU ?_;exact⟨c.heap.objs.size,[c.heap.objs.size],_,_,g,rfl,d.kept (t':=c.toks) λb o e=>Heap.get?_push_of_some _ e,xh _ y t (strIterType y) (by unfold strIterType;split<;>simp),⟨_,Heap.get?_push_size _ rfl,rfl,rfl⟩,j,q⟩
 .exact AI d i q
end
variable [aK]
def mj(f g:List D->az->ax D):List D->az->ax D:=λa b=>hF (f a b) (g a b)
def oj(xs:List D)(Ω:az):ax D:=match xs with
 |[x]=>match gh Ω x with
  |some a=>.ok (.int a.length) Ω
  |none=>.bad
 |_=>.bad
noncomputable def rQ(xs:List D)(Ω:az):ax D:=match xs with
 |[.ref k]=>match Ω[k]? with
  |some (.dK a)=>.ok (.int a.length) Ω
  |some (.dT a)=>.ok (.int a.length) Ω
  |some (.dF a)=>.ok (.int a.length) Ω
  |_=>.bad
 |_=>.bad
def iI(xs:List D)(Ω:az):ax D:=match xs with
 |[x]=>match gh Ω x with
  |some a=>g_ Ω (.lst a)
  |none=>.bad
 |_=>.bad
noncomputable def jU:Key->D
 |.inl i=>.int i
 |.inr x=>.str x
def jH(xs:List D)(Ω:az):ax D:=match xs with
 |[x]=>match pV Ω x with
  |some a=>g_ Ω (.lst (a.map λb=>jU b.1))
  |none=>.bad
 |_=>.bad
def tK(xs:List D)(Ω:az):ax D:=match xs with
 |[x]=>match pV Ω x with
  |some a=>g_ Ω (.dK a)
  |none=>.bad
 |_=>.bad
def ll:D->Option (Key×D)
 |.tup [k,v]=>(jS k).map λk=>(k,v)
 |_=>none
def jI(xs:List D)(Ω:az):ax D:=match xs with
 |[x]=>match dh Ω x with
  |some b=>match bz ll b with
   |some c=>g_ Ω (.dK (c.foldl (λa p=>bI a p.1 p.2) []))
   |none=>.bad
  |none=>.bad
 |_=>.bad
def pX:List D->az->ax D:=mj jI tK
def lp(xs:List D)(Ω:az):ax D:=match xs with
 |[.tup a]=>.ok (.tup a) Ω
 |[x]=>match dh Ω x with
  |some a=>.ok (.tup a) Ω
  |none=>.bad
 |_=>.bad
def DY:List D->Out Rs
 |[.str z]=>if small z.length then .ok (false,.int z.length)else .bad
 |_=>.bad
def DZ:List D->Out Rs
 |[.lst xs]=>match ft xs with|some bs=>.ok (false,.bl (bs.all id))|none=>.bad
 |_=>.bad
def D8:List D->Out Rs
 |[.lst xs]=>match ft xs with|some bs=>.ok (false,.bl (bs.any id))|none=>.bad
 |_=>.bad
def xE:kb->List D->Out Rs
 |.len=>DY
 |.all=>DZ
 |.any=>D8
 |_=>λ_=>.bad
def mn(f:kb):List D->az->ax D:=di (xE f)
def bo(f:kb):List D->az->ax D:=match f with
 |.len=>mj oj (mj rQ (mn .len))
 |.list=>mj iI jH
 |.tuple=>lp
 |f=>mn f
section
variable{X:Cx}{κ:Str->Addr->Prop}{Φ:fm}{α α' hZ α1:List Addr}{Z Z' Z0 Z1:Addr->Prop}{Ω au:az}{H H' H0 H1:Hp}{ρ:aV}{σ:L2.St}{Q Q':VK}{r:ax D}{a b e ce o:Expr}{rest:List Expr}{es:List Expr}{ma mb mc m mo:EM}{as:AM}{pos p apos cpos:Pos}
theorem om{f g:List D->az->ax D}:mN (mj f g) as=fA (mN f as) (mN g as):=by
 funext b a
 simp only[mN,fA];cases as b a with
 |ok x c=>rfl
 |exc x a=>rfl
 |bad=>rfl
theorem gE{f:List D->az->ax D}{j:String}{x:Str}{r:List V->Hp->VK->Prop}(k:dB X (.builtin j) r)(l:Gl X x)(m:X.mg x=none)(n:bootBuiltins x=some (.builtin j))(o:x≠"__name__")(b:(x==("__debug__":Str))=false)
  (q:starEach (e::es) X.env=(false,eval e X.env)::starEach es X.env) (c:(backTo pos (starEach es X.env)).any (·.1)=false) (s:qO X κ Φ (e::es) as)
  (t:∀xs vs a Z Ω H Q,bF κ a Z Ω H->aE (ao a Z H) xs vs->bO κ Φ a Z H (f xs Ω) Q->r vs H Q):bu X κ Φ (.Call (.Name x p) (e::es) [] pos) (mN f as):=by
 intro d u w y Ω;refine PE.imp (pk k l m n (s d u w y Ω) o b q c) ?_;rintro F H Q ⟨a,Z,S,g⟩;exact⟨a,Z,S,pQ.use g λxs h _ vs z i A G B C E=>t xs vs i A h z Q B C E⟩
theorem gF{f:List D->az->ax D}{j:String}{x:Str}{r:List V->Hp->VK->Prop}(k:dB X (.type j) r)(l:Gl X x)(m:X.mg x=none)(n:bootBuiltins x=some (.type j))(o:x≠"__name__")(b:(x==("__debug__":Str))=false)
  (q:starEach (e::es) X.env=(false,eval e X.env)::starEach es X.env) (c:(backTo pos (starEach es X.env)).any (·.1)=false) (s:qO X κ Φ (e::es) as)
  (t:∀xs vs a Z Ω H Q,bF κ a Z Ω H->aE (ao a Z H) xs vs->bO κ Φ a Z H (f xs Ω) Q->r vs H Q):bu X κ Φ (.Call (.Name x p) (e::es) [] pos) (mN f as):=by
 intro d u w y Ω;refine PE.imp (uP k l m n (s d u w y Ω) o b q c) ?_;rintro F H Q ⟨a,Z,S,g⟩;exact⟨a,Z,S,pQ.use g λxs h _ vs z i A G B C E=>t xs vs i A h z Q B C E⟩
theorem gT:∀{ds:List D}{vs:List V},aX Z H ds vs->wW Z H ds vs
 |[],vs,h=>h.nil_inv
 |d::ds,vs,h=>by
  obtain⟨v,r,rfl,h1,h2⟩:=h.cons_inv;exact⟨v,r,rfl,h1.now,gT h2⟩
theorem AL{xs:List D}{vs:List V}(S:bF κ α Z Ω H)(d:aE (ao α Z H) xs vs)(g:bO κ Φ α Z H (jH xs Ω) Q):∃a kvs,vs=[V.ref a]/\Rd H a (.dK kvs)/\∀l,H l=none->Q (.ref l) (upd H l (.lst (kvs.map λc=>kV c.1))):=by
 unfold jH at g;split at g
 .split at g
  .rename_i kvs e
   obtain⟨v,r,rfl,f,h⟩:=d.cons_inv;rw[h.nil_inv];obtain⟨a,b,rfl,i,j⟩:=iG S f e;refine⟨a,b,rfl,i,gz S ?_ g⟩
   have:∀{kvs:List (Key×D)}{b:List (Key×V)},fy (ao α Z H) kvs b->aE (ao α Z H) (kvs.map λc=>jU c.1) (b.map λc=>kV c.1):=λ{kvs b} q=>by
    unfold fy at q
    induction q with
    |nil=>exact .nil
    |@cons p q _ _ k _ m=>
     refine .cons ?_ m
     show ao α Z H (jU p.1) (kV q.1)
     rw[k.1];cases q.1<;>simp only[jU,kV,ao]
   exact this j
  .exact g.elim
 .exact g.elim
theorem xF{kvs:List (Key×D)}{a:List (Key×V)}(S:bF κ α Z Ω H)(r:fy (ao α Z H) kvs a)(k:bO κ Φ α Z H (g_ Ω (.dK kvs)) Q):∀p,H p=none->Q (.ref p) (upd H p (.dK a)):=λp b=>by
 obtain⟨d,e⟩:=S.laid (p:=p) (o:=.dK a) (c:=.dK kvs) b λR f=>⟨a,aR,r.imp f⟩
 exact k _ _ _ _ e d (eh S p)
theorem AN{xs:List D}{vs:List V}(S:bF κ α Z Ω H)(c:aE (ao α Z H) xs vs)(g:bO κ Φ α Z H (tK xs Ω) Q):∃a kvs,vs=[V.ref a]/\Rd H a (.dK kvs)/\∀l,H l=none->Q (.ref l) (upd H l (.dK kvs)):=by
 unfold tK at g;split at g
 .split at g
  .rename_i kvs d
   obtain⟨v,r,rfl,e,f⟩:=c.cons_inv;rw[f.nil_inv];obtain⟨a,b,rfl,h,i⟩:=iG S e d;exact⟨a,b,rfl,h,xF S i g⟩
  .exact g.elim
 .exact g.elim
theorem mU:∀{ds:List D}{vs:List V}{ps:List (Key×D)},aE (ao α Z H) ds vs->bz ll ds=some ps->∃c,fy (ao α Z H) ps c/\Paired (λ(p:Key×V) (y:V)=>∃b,y=.ref b/\Rd H b (.tup [kV p.1,p.2])) c vs
 |[],vs,ps,r,h=>by cases h;rw[r.nil_inv];exact⟨[],.nil,.nil⟩
 |d::ds,vs,ps,r,h=>by
  simp only[bz]at h;split at h
  .rename_i y ys h1 h2
   cases h;obtain⟨v,f,rfl,g,i⟩:=r.cons_inv;obtain⟨c,j,l⟩:=mU i h2;unfold ll at h1;split at h1
   .rename_i k w
    obtain⟨m,n,rfl⟩:=Option.map_eq_some_iff.mp h1;obtain⟨a,u,rfl,_,o,e⟩:=eW g;obtain⟨x,z,rfl,q,e⟩:=e.cons_inv;obtain⟨s,A,rfl,t,e⟩:=e.cons_inv;obtain rfl:=e.nil_inv;obtain rfl:=fB n q;exact⟨(m,s)::c,.cons ⟨rfl,t⟩ j,.cons ⟨a,rfl,.inl o⟩ l⟩
   .cases h1
  .cases h
theorem AO{xs:List D}{vs:List V}(S:bF κ α Z Ω H)(j:aE (ao α Z H) xs vs)(g:bO κ Φ α Z H (jI xs Ω) Q):∃a f ps,vs=[V.ref a]/\Rd H a (.lst f)/\Paired (λ(p:Key×V) (y:V)=>∃b,y=.ref b/\Rd H b (.tup [kV p.1,p.2])) ps f/\∀l,H l=none->Q (.ref l) (upd H l (.dK (ps.foldl (λa p=>putK a p.1 p.2) []))):=by
 unfold jI at g;split at g
 .split at g
  .rename_i z k
   split at g
   .rename_i ps m
    obtain⟨v,r,rfl,n,o⟩:=j.cons_inv;rw[o.nil_inv];obtain⟨a,f,rfl,s,t⟩:=ck S n k;obtain⟨d,u,w⟩:=mU t m;refine⟨a,f,d,rfl,s,w,xF S ?_ g⟩
    have:∀{ps:List (Key×D)}{d:List (Key×V)}{e:List (Key×D)}{c:List (Key×V)},fy (ao α Z H) e c->fy (ao α Z H) ps d->fy (ao α Z H) (ps.foldl (λa p=>bI a p.1 p.2) e) (d.foldl (λa p=>putK a p.1 p.2) c):=λ{ps d e c} h q=>by
     unfold fy at q
     induction q generalizing e c with
     |nil=>exact h
     |@cons p q _ _ i _ x=>
      simp only[List.foldl_cons];refine x ?_;rw[i.1];exact h.put q.1 i.2
    exact this .nil u
   .exact g.elim
  .exact g.elim
 .exact g.elim
theorem xG(a:X.calm=true)(d:Gl X "dict")(f:X.mg "dict"=none)(h:starEach (e::es) X.env=(false,eval e X.env)::starEach es X.env)(b:(backTo pos (starEach es X.env)).any (·.1)=false)(i:qO X κ Φ (e::es) as):bu X κ Φ (.Call (.Name "dict" p) (e::es) [] pos) (mN pX as):=by
 show bu X κ Φ _ (mN (mj jI tK) as)
 rw[om];exact bu.alt (gF (rP a) d f boot_dict (by decide) (by decide) h b i λj k l Z m H Q S c g=>AO S c g) (gF rO d f boot_dict (by decide) (by decide) h b i λj k l Z m H Q S c g=>AN S c g)
theorem AQ{f:kb}(o:X.calm=true)(I:f∈[kb.len,kb.all,kb.any,kb.list,kb.tuple])(z:Gl X f.nm)(A:X.mg f.nm=none)
  (B:starEach (e::es) X.env=(false,eval e X.env)::starEach es X.env) (h:(backTo pos (starEach es X.env)).any (·.1)=false) (q:qO X κ Φ (e::es) as) :
  bu X κ Φ (.Call (.Name f.nm p) (e::es) [] pos) (mN (bo f) as):=by
 cases f with
 |len=>
  show bu X κ Φ _ (mN (mj oj (mj rQ (mn .len))) as)
  rw[om,om];refine bu.alt ?_ (bu.alt ?_ ?_)
  .refine gE nJ z A boot_len (by decide) (by decide) B h q ?_
   intro F U w Z y H Q S c g;unfold oj at g;split at g
   .split at g
    .rename_i C J
     obtain⟨v,r,rfl,i,s⟩:=c.cons_inv;rw[s.nil_inv];obtain⟨l,D,rfl,E,G⟩:=kY (K:=X.K) S i J;exact⟨l,D,rfl,E,by rw[G.length];exact bO.ret S (a_ rfl) g⟩
    .exact g.elim
   .exact g.elim
  .refine gE (uW.or vd) z A boot_len (by decide) (by decide) B h q ?_
   intro F U w Z y H Q S c g;unfold rQ at g;split at g
   .split at g
    .rename_i L M
     obtain⟨v,r,rfl,i,s⟩:=c.cons_inv;rw[s.nil_inv];simp only[ao]at i;obtain⟨a,q,rfl⟩:=i;obtain⟨a',j,m,N,O⟩:=S.cell M;rw[q]at j;cases j
     exact .inl ⟨a,m,rfl,.inl N,by rw[O.length];exact bO.ret S (a_ rfl) g⟩
    .rename_i L M
     obtain⟨v,r,rfl,i,s⟩:=c.cons_inv;rw[s.nil_inv];simp only[ao]at i;obtain⟨a,q,rfl⟩:=i;obtain⟨a',j,m,N,O⟩:=S.cell M;rw[q]at j;cases j
     exact .inr ⟨a,m,rfl,N,by rw[O.length];exact bO.ret S (a_ rfl) g⟩
    .rename_i L M
     obtain⟨v,r,rfl,i,s⟩:=c.cons_inv;rw[s.nil_inv];simp only[ao]at i;obtain⟨a,q,rfl⟩:=i;obtain⟨a',j,of,m,N,O⟩:=S.cell M;rw[q]at j;cases j
     exact .inl ⟨a,m,rfl,.inr ⟨of,N⟩,by rw[O.length];exact bO.ret S (a_ rfl) g⟩
    .exact g.elim
   .exact g.elim
  .refine gE nK z A boot_len (by decide) (by decide) B h q ?_
   intro P R w Z y H Q S c g;obtain⟨C,T,d,t,b,k⟩:=iH (bw:=false) S c g;have t:=gT t;have u:=dM S;replace b:DY C=_:=b;unfold DY at b;split at b
   .obtain⟨x,rfl,n⟩:=t.one
    cases c8 n;split at b
    .rename_i hs
     cases b;exact⟨_,rfl,bC hs,jm u k rfl⟩
    .cases b
   .cases b
 |all=>
  refine gE (xc o) z A boot_all (by decide) (by decide) B h q ?_
  intro P R w Z y H Q S c g;obtain⟨C,T,d,t,b,k⟩:=iH (bw:=false) S c g;have t:=gT t;have u:=dM S;replace b:DZ C=_:=b;unfold DZ at b;split at b
  .obtain⟨x,rfl,n⟩:=t.one
   split at b
   .rename_i bs V
    cases b;exact⟨_,_,bs,x,rfl,n,V,jm u k rfl⟩
   .cases b
  .cases b
 |any=>
  refine gE (xf o) z A boot_any (by decide) (by decide) B h q ?_
  intro P R w Z y H Q S c g;obtain⟨C,T,d,t,b,k⟩:=iH (bw:=false) S c g;have t:=gT t;have u:=dM S;replace b:D8 C=_:=b;unfold D8 at b;split at b
  .obtain⟨x,rfl,n⟩:=t.one
   split at b
   .rename_i bs V
    cases b;exact⟨_,_,bs,x,rfl,n,V,jm u k rfl⟩
   .cases b
  .cases b
 |int=>simp at I
 |min=>simp at I
 |max=>simp at I
 |list=>
  show bu X κ Φ _ (mN (mj iI jH) as)
  rw[om];refine bu.alt ?_ (gF (rN o) z A boot_list (by decide) (by decide) B h q λF U w Z y H Q S c g=>AL S c g)
  refine gF nL z A boot_list (by decide) (by decide) B h q ?_
  intro F U w Z y H Q S c g;have g:bO κ Φ w Z H (iI F y) Q:=g;unfold iI at g;split at g
  .split at g
   .rename_i C J
    obtain⟨v,r,rfl,i,s⟩:=c.cons_inv;rw[s.nil_inv];obtain⟨l,D,rfl,E,G⟩:=kY (K:=X.K) S i J;exact⟨l,D,rfl,E,gz S G g⟩
   .exact g.elim
  .exact g.elim
 |tuple=>
  refine gF l_ z A boot_tuple (by decide) (by decide) B h q ?_
  intro F U w Z y H Q S c g;have g:bO κ Φ w Z H (lp F y) Q:=g;unfold lp at g;split at g
  .obtain⟨v,r,rfl,i,s⟩:=c.cons_inv
   rw[s.nil_inv];have Y:=i;obtain⟨l,D,rfl,_,E,G⟩:=eW i;exact⟨l,D,rfl,.inr ⟨uX (.inl E),bO.ret S Y g⟩⟩
  .split at g
   .rename_i C J
    obtain⟨v,r,rfl,i,s⟩:=c.cons_inv;rw[s.nil_inv];obtain⟨l,D,rfl,E,G⟩:=ck S i J;exact⟨l,D,rfl,.inl ⟨kK E,pS S G g⟩⟩
   .exact g.elim
  .exact g.elim
 |sorted=>simp at I
 |bool=>simp at I
def Ml(t:Ty):D->az->ax D:=ve λd=>match wO d t with|some b=>.ok (false,.bl b)|none=>.bad
def rR(t:Ty):D->az->ax D:=Ml t
theorem AR{t:Ty}{c:Pos}(m:Gl X "isinstance")(n:X.mg "isinstance"=none)(f:Gl X t.nm)(h:X.mg t.nm=none)
  (l:starEach [a,Expr.Name t.nm c] X.env=(false,eval a X.env)::starEach [Expr.Name t.nm c] X.env) (i:(backTo pos (starEach [Expr.Name t.nm c] X.env)).any (·.1)=false) (o:bu X κ Φ a ma) :
  bu X κ Φ (.Call (.Name "isinstance" p) [a,.Name t.nm c] [] pos) (m1 (rR t) ma):=by
 have j:PE X (.Name t.nm c) (tC (.ty t.id)):=zo f h (zV t) rfl (by cases t<;>decide) (by cases t<;>decide)
 unfold rR
 .refine nY (r:=λx H Q=>GK X.K [x,.ty t.id] H Q) (λz s=>pk xg m n boot_isinstance (gQ s (gQ j rf rfl) l) (by decide) (by decide) l i) o ?_
  intro A x B Z C H Q S u g;obtain⟨d,w,D,y,e,k⟩:=pR (bw:=false) S u g;cases q:wO d t with
  |none=>rw[q]at e;cases e
  |some b=>
   rw[q]at e;cases e;exact⟨_,d,x,t,b,rfl,y,q,jm (dM S) k rfl⟩
def cE(b:az->D->Bool)(f:D->List D->az->ax D)(e:EM)(g:AM):EM:=λd h=>(e d h).bind λx a=>if b a x=true then (g d a).bind λi c=>f x i c else .bad
def kf(Ω:az)(x:D):Bool:=(dh Ω x).isSome
noncomputable def pY(_:az)(x:D):Bool:=match x with
 |.str _=>true
 |_=>false
theorem lx{x:D}{v:V}{K:PySem.W.Frag}(S:bF κ α Z Ω H)(r:ao α Z H x v)(h:kf Ω x=true):FD K "list" v H:=by
 unfold kf at h;cases q:dh Ω x with
 |none=>rw[q]at h;cases h
 |some d=>
  obtain⟨a,b,rfl,c,e⟩:=ck S r q;exact .inl ⟨rfl,b,kK c⟩
theorem tL{x:D}{v:V}{K:PySem.W.Frag}(S:bF κ α Z Ω H)(r:ao α Z H x v)(h:pY Ω x=true):FD K "str" v H:=by
 cases x with
 |str z=>simp only[ao]at r;subst r;rfl
 |_=>cases h
section
variable{T id:String}{name:Str}{r:V->List V->Hp->VK->Prop}{R8:az->D->Bool}{f:D->List D->az->ax D}
theorem rS{env:Env}:∀{es:List Expr},(∀e∈es,isStar e=false)->((backTo cpos (starEach es env)).all (λx=>!x.1))=true
 |[],_=>rfl
 |e::es,h=>by
  rw[cy (h e (by simp))]
  show(!false&&(backTo cpos (starEach es env)).all (λx=>!x.1))=true
  rw[rS λz hz=>h z (by simp[hz])];rfl
theorem gG(B:PlainAttrs T)(slot:PySem.Slot T name id)(l:typeOf (.builtin id)=pure (.type "method_descriptor"))(C:FC X id r)
  (D:∀x v a Z Ω H,bF κ a Z Ω H->ao a Z H x v->R8 Ω x=true->FD X.K T v H)
  (E:∀x v xs vs a Z Ω H Q,bF κ a Z Ω H->ao a Z H x v->aE (ao a Z H) xs vs->bO κ Φ a Z H (f x xs Ω) Q->r v vs H Q)
  (c:attributeBase o name X.env (eval o X.env)=eval o X.env) (d:(apos.endLine==cpos.line)=true) (F:bu X κ Φ o mo) (G:qO X κ Φ (e::es) as) (h:∀z∈e::es,isStar z=false) (s:(e::es).length<20):bu X κ Φ (.Call (.Attribute o name apos) (e::es) [] cpos) (cE R8 f mo as):=by
 intro i t u w Ω
 have j:((backTo cpos (starEach (e::es) X.env)).all (λx=>!x.1)&&(backToKw cpos (keywordEach [] X.env)).all (λx=>x.1.isSome)
   && decide ((e::es).length+([]:List Keyword).length+(if ([]:List Keyword).isEmpty then 0 else 1)<30))=true:=by
  rw[rS h,decide_eq_true (by show(e::es).length+0+0<30;omega)];rfl
 refine PE.imp (L2.Gy B slot l C (F i t u w Ω) (PA.ex λb=>G i t u w b) c j d (cy (h e (by simp))) (cI λz I=>h z (by simp[I]))) ?_
 rintro Y H Q ⟨a,Z,S,g⟩;refine⟨a,Z,S,bO.use g λx b _ v J k y L m A n=>?_⟩
 split at n
 .rename_i M
  exact⟨D x v k y b J m A M,b,k,y,S.grow L m,pQ.use n λxs p _ vs N q O P R U V=>E x v xs vs q O p N Q R (m.c_ P A) U V⟩
 .exact n.elim
end
noncomputable def oo(Ω:az):D->Option (Nat×List D)
 |.ref k=>match Ω[k]? with
  |some (.lst ds)=>some (k,ds)
  |_=>none
 |_=>none
theorem gH{x:D}{v:V}{k:Nat}{ds:List D}(S:bF κ α Z Ω H)(r:ao α Z H x v)(h:oo Ω x=some (k,ds)):∃a vs,v=.ref a/\α[k]?=some a/\H a=some (.lst vs)/\aE (ao α Z H) ds vs:=by
 cases x with
 |ref n=>
  simp only[oo]at h;split at h
  .rename_i d e
   cases h;simp only[ao]at r;obtain⟨a,c,rfl⟩:=r;obtain⟨i,b,vs,f,g⟩:=S.cell e;rw[c]at b;cases b;exact⟨a,vs,rfl,c,f,g⟩
  .cases h
 |_=>cases h
theorem iJ{k:Nat}{p:Addr}{ds:List D}{vs:List V}{d:D}{u:V}(S:bF κ α Z Ω H)(b:α[k]?=some p){ws:List V}(e:H p=some (.lst ws))(r:aE (ao α Z H) ds vs)(f:ao α Z H d u)(g:bO κ Φ α Z H (.ok d (Ω.set k (.lst ds))) Q):Q u (upd H p (.lst vs)):=by
 obtain⟨h,a⟩:=S.put (o:=.lst vs) (c:=.lst ds) b (λo u z=>by rw[e]at z;cases z) λR i=>⟨vs,aR,r.imp i⟩
 exact g _ _ _ _ a h (S.c_ a f)
def dq(x:D)(xs:List D)(Ω:az):ax D:=match oo Ω x,xs with
 |some (k,a),[y]=>if small (a.length+1)then .ok .non (Ω.set k (.lst (a++[y])))else .bad
 |_,_=>.bad
def fP(x:D)(xs:List D)(Ω:az):ax D:=match oo Ω x,xs with
 |some (k,a),[.int i]=>if jk i=true then (match L2.qN a.length i with
  |some n=>match a[n]? with
   |some d=>.ok d (Ω.set k (.lst (a.eraseIdx n)))
   |none=>.bad
  |none=>.bad)else .bad
 |_,_=>.bad
def gU(x:D)(xs:List D)(Ω:az):ax D:=match oo Ω x,xs with
 |some (k,a),[.int i,y]=>if small (a.length+1)&&jk i then .ok .non (Ω.set k (.lst (nN a i y)))else .bad
 |_,_=>.bad
def gW(x:D)(xs:List D)(Ω:az):ax D:=match oo Ω x,xs with
 |some (k,a),[y]=>match oo Ω y with
  |some (_,b)=>if small (a.length+b.length)then .ok .non (Ω.set k (.lst (a++b)))else .bad
  |none=>.bad
 |_,_=>.bad
def fg(x:D)(xs:List D)(Ω:az):ax D:=match xs with
 |[y]=>fc (λa b=>match a with|.lst c=>rq .index (.lst c) (.tup [b])|_=>.bad) x y Ω
 |_=>.bad
def pZ(x:D)(xs:List D)(Ω:az):ax D:=match xs with
 |[y]=>fc (λa b=>rq .join a (.tup [b])) x y Ω
 |_=>.bad
theorem eY{R:D->V->Prop}{y:D}{vs:List V}(h:aE R [y] vs):∃v,vs=[v]/\R y v:=by
 obtain⟨v,r,rfl,a,b⟩:=h.cons_inv;rw[b.nil_inv];exact⟨v,rfl,a⟩
theorem AS{R:D->V->Prop}{y z:D}{vs:List V}(h:aE R [y,z] vs):∃v w,vs=[v,w]/\R y v/\R z w:=by
 obtain⟨v,r,rfl,a,b⟩:=h.cons_inv;obtain⟨w,rfl,c⟩:=eY b;exact⟨v,w,rfl,a,c⟩
theorem vj{x:D}{v:V}{xs:List D}{vs:List V}(S:bF κ α Z Ω H)(r:ao α Z H x v)(rs:aE (ao α Z H) xs vs)(g:bO κ Φ α Z H (dq x xs Ω) Q):sT v vs H Q:=by
 unfold dq at g;split at g
 .rename_i k j y d
  obtain⟨a,e,rfl,f,b,c⟩:=gH S r d;obtain⟨u,rfl,h⟩:=eY rs;split at g
  .rename_i i
   have:=bC i;exact⟨a,e,u,rfl,rfl,b,by rw[c.length];omega,iJ S f b (c.append (.one h)) (a_ rfl) g⟩
  .exact g.elim
 .exact g.elim
theorem xH{x:D}{v:V}{xs:List D}{vs:List V}(S:bF κ α Z Ω H)(r:ao α Z H x v)(rs:aE (ao α Z H) xs vs)(g:bO κ Φ α Z H (fP x xs Ω) Q):wA v vs H Q:=by
 unfold fP at g;split at g
 .rename_i k t i h
  obtain⟨a,j,rfl,l,e,b⟩:=gH S r h;obtain⟨u,rfl,f⟩:=eY rs;simp only[ao]at f;subst f;split at g
  .rename_i c
   have w:=kI c;split at g
   .rename_i n m
    split at g
    .rename_i d o
     obtain⟨u,p,q⟩:=b.get o;obtain⟨s,y,z,A⟩:=nG m;exact⟨a,j,i,n,u,rfl,rfl,e,by omega,by omega,by rw[b.length];exact s,p,iJ S l e (b.eraseIdx n) q g⟩
    .exact g.elim
   .exact g.elim
  .exact g.elim
 .exact g.elim
theorem vl{x:D}{v:V}{xs:List D}{vs:List V}(S:bF κ α Z Ω H)(r:ao α Z H x v)(rs:aE (ao α Z H) xs vs)(g:bO κ Φ α Z H (gU x xs Ω) Q):tf v vs H Q:=by
 unfold gU at g;split at g
 .rename_i k m i y f
  obtain⟨a,h,rfl,j,d,b⟩:=gH S r f;obtain⟨u,w,rfl,e,l⟩:=AS rs;simp only[ao]at e;subst e;split at g
  .rename_i c
   simp only[Bool.and_eq_true]at c;have:=bC c.1;have n:=kI c.2;refine⟨a,h,i,w,rfl,rfl,d,by omega,by omega,by rw[b.length];omega,iJ S j d ?_ (a_ rfl) g⟩
   unfold nN;rw[b.length];exact(b.take _).append (.cons l (b.drop _))
  .exact g.elim
 .exact g.elim
theorem vm{x:D}{v:V}{xs:List D}{vs:List V}(S:bF κ α Z Ω H)(r:ao α Z H x v)(rs:aE (ao α Z H) xs vs)(g:bO κ Φ α Z H (gW x xs Ω) Q):sU v vs H Q:=by
 unfold gW at g;split at g
 .rename_i k q y f
  obtain⟨a,h,rfl,i,c,d⟩:=gH S r f;obtain⟨u,rfl,j⟩:=eY rs;split at g
  .rename_i n s l
   obtain⟨b,m,rfl,t,o,e⟩:=gH S j l;split at g
   .rename_i p
    exact⟨a,b,h,m,rfl,rfl,c,o,by rw[d.length,e.length];exact bC p,iJ S i c (d.append e) (a_ rfl) g⟩
   .exact g.elim
  .exact g.elim
 .exact g.elim
theorem xI{x:D}{v:V}{xs:List D}{vs:List V}(S:bF κ α Z Ω H)(r:ao α Z H x v)(rs:aE (ao α Z H) xs vs)(g:bO κ Φ α Z H (fg x xs Ω) Q):xi v vs H Q:=by
 unfold fg at g;split at g
 .obtain⟨u,rfl,c⟩:=eY rs
  obtain⟨d,e,f,n,h,i,a,k⟩:=gy (bw:=false) S r c g;cases d with
  |lst l=>
   (unfold rq at a;dsimp only at a)
   split at a
   .rename_i b
    simp only[Bool.and_eq_true]at b;split at a
    .rename_i j m
     cases a;exact⟨_,l,e,u,j,rfl,h,i,b.1,b.2,m,jm (dM S) k rfl⟩
    .cases a
   .cases a
  |_=>cases a
 .exact g.elim
theorem AU{x:D}{v:V}{xs:List D}{vs:List V}(S:bF κ α Z Ω H)(r:ao α Z H x v)(rs:aE (ao α Z H) xs vs)(g:bO κ Φ α Z H (pZ x xs Ω) Q):rJoin v vs H Q:=by
 unfold pZ at g;split at g
 .obtain⟨u,rfl,c⟩:=eY rs
  obtain⟨d,e,f,n,h,i,a,k⟩:=gy (bw:=false) S r c g;cases d with
  |str z=>
   cases c8 h;cases e with
   |lst j=>
    (unfold rq at a;dsimp only at a)
    split at a
    .rename_i l m
     split at a
     .rename_i b
      cases a;simp only[Bool.and_eq_true,decide_eq_true_eq]at b;exact⟨z,_,j,l,u,rfl,rfl,i,m,b.1,b.2,jm (dM S) k rfl⟩
     .cases a
    .cases a
   |_=>cases a
  |_=>cases e<;>cases a
 .exact g.elim
end
end Mir
namespace Mir
open PySem PySem.Spec PyProof.Rows L2
noncomputable def GY(a:Addr)(o:Obj):It:=
 ⟨λi H=>∃b,H a=some (.dg o (.dK b))/\i<b.length,λi H x d=>d=H/\∀b,H a=some (.dg o (.dK b))->∃c,b[i]?=some c/\x=c.2,λi H=>∃b,H a=some (.dg o (.dK b))/\b.length<=i⟩
theorem vo{P:Program}{w:World}{K:PySem.W.Frag}{T:Expr}(a it:Addr){o:Obj}{es:Array DictEntry}{ep:Nat}(N:o.data=.dict es ep):Turn P w K T (GY a o) [it] it (λi h=>h.IsValIter it a i es.size ep) where
 mem:=by simp
 obj:=λi h f b j=>by
  have e:b=it:=by simpa using j
  subst e;obtain⟨o,e,c,d⟩:=f;exact⟨o,e,λv z=>by rw[d]at z;cases z⟩
 keep:=λi h p f k=>by
  obtain⟨o,e,c,d⟩:=f;exact⟨o,k it (by simp) o e,c,d⟩
 item:=by
  intro X y A B O i pins s Q H E I t f C;subst y A B;obtain⟨g,u,R⟩:=C;obtain⟨U,r,D,x,_⟩:=jr I.hok u N;have l:g[i]?=some g[i]:=List.getElem?_eq_getElem R;obtain⟨q,V,Y⟩:=fO r l;obtain⟨F,G,Z,J,L,M⟩:=t it (by simp)
  rw[x]at f;refine wpAny_pyNext_values_item f D (k:=q.1) (v:=q.2) V λp m sb=>?_
  have I1:Inv X pins Q H {s with heap:=p}:=I.turned (t':=s.toks) (λb o j e=>(sb.2 b j).trans e) F G J L M
  obtain⟨o1,e1,c1,d1⟩:=id m;refine⟨q.2,rfl,mu (s:={s with heap:=p}) e1 c1 d1 (by decide) ⟨g[i].2,H,I1,Y.2,⟨rfl,λS n=>?_⟩,by rw[x];exact m,λb j=>(t b j).1⟩⟩
  rw[u]at n;cases n
  exact⟨g[i],l,rfl⟩
 done:=by
  intro X y A B O i pins s Q H E I t f C;subst y A B;obtain⟨g,u,R⟩:=C;obtain⟨U,r,D,x,_⟩:=jr I.hok u N;obtain⟨F,G,Z,J,L,M⟩:=t it (by simp)
  have hl:=r.length;rw[x]at f;exact wpAny_pyNext_values_end (I.ok.hd O) f D (List.getElem?_eq_none (by omega)) λp eb=>⟨rfl,I.turned (t':=s.toks) (λb o j e=>eb b o j e) F G J L M⟩
 self:=λ_ _ _ _ _ f h=>wpAny_pyIter_valiter f h
def Mm(R:It->Hp->Prop)(x:V)(c:Hp):Prop:=∃a b,x=.ref a/\((c a=some (.dK b)/\∀o,R (GY a o) (upd c a (.dg o (.dK b))))\/∃o,c a=some (.dg o (.dK b))/\R (GY a o) c)
theorem AV{X:Cx}{o:Expr}{M:TE}{N:Expr}{apos cpos:Pos}(j:attributeBase o "values" X.env (eval o X.env)=eval o X.env)(k:(apos.endLine==cpos.line)=true)(m:PE X o M) :
  PI X N (.Call (.Attribute o "values" apos) [] [] cpos) (λn H R=>M n H (Mm R)):=by
 intro pins s n H R I h;refine wpAny_Call_method0_late j k (cg (m pins s n H _ I h) λv s1 ⟨x,H1,I1,T,q1⟩=>?_)
 obtain⟨a,l,rfl,q⟩:=q1;cases (show v=Value.ref a from T)
 have f:∀(c:Obj) (g:Array DictEntry) (i:Nat) (p:Hp),Inv X pins n p s1->p a=some (.dg c (.dK l))->c.data=.dict g i->R (GY a c) p->wpAny (model X.prog X.w) X.A (call (.builtin "dict.values") [.ref a]) (λv U=>wpAny (model X.prog X.w) X.A (pyIter v) (PIE X pins n N R) X.xe U) X.xe s1:=by
  intro c g i p C V D u;obtain⟨E,r,O,Y,P⟩:=jr C.hok V D;have Q:s1.heap.DictOf (bt X.prog X.w) a E:=let ⟨o,g,m,r⟩:=O;⟨o,g,i,m,r⟩
  refine call_meetsIn F.slot_dict_values Q.typeIs F.entry_dict_values (F.args_dict_values_1 _) (meets_dict_values (bt X.prog X.w) a P) ⟨⟨E,Q⟩,?_⟩;generalize y:s1.heap.push {cls:=.type "dict_values",data:=.fields #[.ref a]}=d;have S:∀b o,s1.heap.get? b=some o->d.get? b=some o:=λb o e=>by rw[←y];exact Heap.get?_push_of_some _ e
  have Z:d.IsValuesView s1.heap.objs.size a:=by rw[←y];exact⟨_,Heap.get?_push_size _ rfl,rfl,rfl⟩
  have G:d.DictAt (bt X.prog X.w) a E i:=O.at' λo e=>S a o e
  have J:Inv X pins n p {s1 with heap:=d}:=C.kept (t':=s1.toks) S;refine wpAny_pyIter_values (s:={s1 with heap:=d}) Z G ?_;have I4:=λc=>J.kept (h':=d.push c) (t':=s1.toks) λb o q=>Heap.get?_push_of_some _ q
  refine⟨d.objs.size,[d.objs.size],_,_,p,rfl,I4 _,vo a _ D,?_,λb hb=>?_,u⟩
  .rw[Y]
   exact⟨_,Heap.get?_push_size _ rfl,rfl,rfl⟩
  .have z:b=d.objs.size:=by simpa using hb
   rw[z];exact J.v_ (b:=d.objs.size) (Nat.le_refl _) (J.hok.fresh (Nat.le_refl _))
 rcases q with ⟨t,u⟩|⟨c,t,u⟩
 .obtain⟨K,L,t3⟩:=wL I1 (.inl ⟨l,.inl t⟩)
  obtain⟨c,g,i,m,D,C⟩:=I1.tJ t;exact⟨"dict","dict.values",F.plainAttrs_dict,F.slot_dict_values,F.type_dict_values,K,L,Calls.callWith_builtin rfl (PySem.evalArgs_none (f c g i _ C aR D (u c)))⟩
 .obtain⟨K,L,t3⟩:=wL I1 (.inl ⟨l,.inr ⟨c,t⟩⟩)
  obtain⟨m,_,P,E,r,o',g,i,B,x1,x2,x3⟩:=I1.hok a _ t;rw[m]at B;cases B
  exact⟨"dict","dict.values",F.plainAttrs_dict,F.slot_dict_values,F.type_dict_values,K,L,Calls.callWith_builtin rfl (PySem.evalArgs_none (f c g i _ I1 t x2 u))⟩
variable [aK]
inductive Src where
 |seq (x:D)|ints (lo:Int) (n:Nat)|chars (z:Str)|Mn (x:D)|keys (k:Nat)|vals (k:Nat)
def eT:Src->az->Option (List D)
 |.seq x,Ω=>gh Ω x
 |.ints lo n,_=>some (intsFrom lo n)
 |.chars z,_=>some (z.cps.toList.map λc=>.str (ay c))
 |.Mn x,Ω=>(dh Ω x).map (d_ 0)
 |.keys k,Ω=>match Ω[k]? with
  |some (.dF kvs)=>some (kvs.map λa=>jU a.1)
  |_=>none
 |.vals k,Ω=>match Ω[k]? with
  |some (.dF kvs)=>some (kvs.map (·.2))
  |_=>none
abbrev IM:=aV->az->ax Src
def vp(κ:Str->Addr->Prop)(s:Src)(J:It)(j:List Addr)(Z:Addr->Prop)(H:Hp):Prop:=∀a f b c g,cv j Z H a f c->bF κ a f b c->eT s b=some g ->
 (∀(i:Nat) (d:D),g[i]?=some d->J.go i c/\∀x e,J.JZ i c x e->∃h,cv a f c a h e/\bF κ a h b e/\ao a h e d x)/\∀i,g.length<=i->J.stop i c
def qP(κ:Str->Addr->Prop)(Φ:fm)(e:List Addr)(Z:Addr->Prop)(H:Hp)(r:ax Src)(R:It->Hp->Prop):Prop:=match r with
 |.ok s b=>∀J c a d,cv e Z H a d c->bF κ a d b c->vp κ s J a d c->R J c
 |.exc x b=>∀c a d,cv e Z H a d c->bF κ a d b c->Φ x b a d c
 |.bad=>False
noncomputable def UA(κ:Str->Addr->Prop)(Φ:fm)(a:List Addr)(c:Addr->Prop)(d:Hp)(m:IM)(ρ:aV)(Ω:az):TI:=λe H R=>∃b Z,cT κ a c d b Z Ω ρ e H/\qP κ Φ b Z H (m ρ Ω) R
def vS(X:Cx)(κ:Str->Addr->Prop)(Φ:fm)(b e:Expr)(m:IM):Prop:=∀a c d f g,PI X b e (UA κ Φ a c d m f g)
def srcOf(Ω:az)(x:D):ax Src:=match gh Ω x,x with
 |some _,x=>.ok (.seq x) Ω
 |none,.str z=>.ok (.chars z) Ω
 |none,.ref k=>(match Ω[k]? with
  |some (.dK a)=>.ok (.keys k) (Ω.set k (.dF a))
  |some (.dF _)=>.ok (.keys k) Ω
  |_=>.bad)
 |none,_=>.bad
def bG(m:EM):IM:=λb c=>(m b c).bind λx a=>srcOf a x
noncomputable def valOf(Ω:az)(x:D):ax Src:=match x with
 |.ref k=>(match Ω[k]? with
  |some (.dK a)=>.ok (.vals k) (Ω.set k (.dF a))
  |some (.dF _)=>.ok (.vals k) Ω
  |_=>.bad)
 |_=>.bad
def mV(m:EM):IM:=λb c=>(m b c).bind λx a=>valOf a x
def vq(m:EM):IM:=λb c=>(m b c).bind λx a=>match dh a x with
 |some _=>.ok (.Mn x) a
 |none=>.bad
def tN(xs:List D)(Ω:az):ax Src:=match xs with
 |[.int j]=>if jk j then .ok (.ints 0 j.toNat) Ω else .bad
 |_=>.bad
def dW(a:AM):IM:=λb c=>(a b c).bind tN
section
variable{X:Cx}{κ:Str->Addr->Prop}{Φ:fm}{α α' hZ α1:List Addr}{Z Z' Z0 Z1:Addr->Prop}{Ω au:az}{H H' H0 H1:Hp}{ρ:aV}{σ:L2.St}{Q Q':VK}{r:ax D}{a b e ce o tg:Expr}{rest:List Expr}{es:List Expr}{ma mb mc m mo:EM}{as:AM}{pos p apos cpos tpos:Pos}
theorem qP.from{r:ax Src}{R:It->Hp->Prop}(g:cv α Z H α1 Z1 H1)(h:qP κ Φ α Z H r R):qP κ Φ α1 Z1 H1 r R:=by
 cases r with
 |ok d b=>exact λv c a e f=>h v c a e (g.trans f)
 |exc x b=>exact λc a e f=>h c a e (g.trans f)
 |bad=>exact h
theorem qP.use{r:ax D}{f:D->az->ax Src}{R:It->Hp->Prop}(h:qP κ Φ α Z H (r.bind f) R)(k:∀d aS,r=.ok d aS->∀v b a c,cv α Z H a c b->bF κ a c aS b->ao a c b d v->qP κ Φ a c b (f d aS) R->Q' v b):bO κ Φ α Z H r Q':=by
 cases r with
 |ok d aS=>exact λv b a c g s q=>k d aS rfl v b a c g s q (qP.from g h)
 |exc x aS=>exact h
 |bad=>exact h
theorem p8{K:PySem.W.Frag}{x:D}{a:Addr}(p:ao α Z H x (.ref a))(S:bF κ α Z Ω H)(q:(dh Ω x).isSome=true):vp κ (.seq x) (LR K a) α Z H:=by
 intro r t b C u g s w;have c:=S.c_ g p;have f:∀h,x≠.tup h:=λh e=>by subst e;cases q
 have j:dh b x=some u:=by
  cases x with
  |tup h=>exact absurd rfl (f _)
  |_=>exact w
 obtain⟨E,k,e,l,n⟩:=ck s c j;cases e;refine⟨λi d z=>?_,λi A=>⟨k,kK l,by rw[n.length];exact A⟩⟩
 obtain⟨v,o,B⟩:=n.get z;refine⟨⟨k,v,kK l,o⟩,λy F m=>?_⟩
 obtain⟨rfl,m⟩:=m;have:=m k (kK l);rw[o]at this;cases this;exact⟨t,cv.refl s.has,s,B⟩
theorem AW{K:PySem.W.Frag}{es:List D}{a:Addr}(l:ao α Z H (.tup es) (.ref a))(S:bF κ α Z Ω H):vp κ (.seq (.tup es)) (LS K a) α Z H:=by
 intro m n o u w g s p;have b:=S.c_ g l;cases p;obtain⟨x,c,e,_,f,j⟩:=eW b;cases e;refine⟨λi d q=>?_,λi r=>⟨c,uX (.inl f),by rw[j.length];exact r⟩⟩
 obtain⟨v,k,t⟩:=j.get q;refine⟨⟨c,v,uX (.inl f),k⟩,λy z h=>?_⟩
 obtain⟨rfl,h⟩:=h;have:=h c (uX (.inl f));rw[k]at this;cases this;exact⟨n,cv.refl s.has,s,t⟩
theorem p9{k:Nat}{a:Addr}{o:Obj}{kvs:List (Key×V)}(w:α[k]?=some a)(y:H a=some (.dg o (.dK kvs))):vp κ (.keys k) (GV a o) α Z H:=by
 intro z A B G I g s f;have h:=g.pre k a w;have b:=g.dg a _ _ y;simp only[eT]at f;split at f
 .rename_i l C
  cases f;obtain⟨J,c,K,m,n,r⟩:=s.cell C;rw[h]at c;cases c
  rw[b]at n;cases n
  have L:=r.length;refine⟨λi d t=>?_,λi D=>⟨kvs,b,by rw[List.length_map]at D;omega⟩⟩
  rw[List.getElem?_map]at t;obtain⟨p,E,rfl⟩:=Option.map_eq_some_iff.mp t;obtain⟨q,u,F,_⟩:=aE.get r E;refine⟨⟨kvs,b,(List.getElem?_eq_some_iff.mp u).1⟩,λx M j=>?_⟩
  obtain⟨rfl,j⟩:=j;obtain⟨N,e,rfl⟩:=j kvs b;rw[u]at e;cases e
  refine⟨A,cv.refl s.has,s,?_⟩;rw[F];cases q.1<;>simp only[jU,kV,ao]
 .cases f
theorem p_{k:Nat}{a:Addr}{o:Obj}{kvs:List (Key×V)}(w:α[k]?=some a)(y:H a=some (.dg o (.dK kvs))):vp κ (.vals k) (GY a o) α Z H:=by
 intro z A B G I g s f;have h:=g.pre k a w;have b:=g.dg a _ _ y;simp only[eT]at f;split at f
 .rename_i l C
  cases f;obtain⟨J,c,K,m,n,r⟩:=s.cell C;rw[h]at c;cases c
  rw[b]at n;cases n
  have L:=r.length;refine⟨λi d t=>?_,λi D=>⟨kvs,b,by rw[List.length_map]at D;omega⟩⟩
  rw[List.getElem?_map]at t;obtain⟨p,E,rfl⟩:=Option.map_eq_some_iff.mp t;obtain⟨q,u,M,F⟩:=aE.get r E;refine⟨⟨kvs,b,(List.getElem?_eq_some_iff.mp u).1⟩,λx N j=>?_⟩
  obtain⟨rfl,j⟩:=j;obtain⟨O,e,rfl⟩:=j kvs b;rw[u]at e;cases e
  exact⟨A,cv.refl s.has,s,F⟩
 .cases f
theorem AX(h:bu X κ Φ e m):vS X κ Φ tg e (bG m):=by
 intro G O P Q T;refine PI.imp (AK (h G O P Q T)) ?_;rintro σ H R ⟨U,Z,S,g⟩;refine⟨U,Z,S,qP.use g λx I _ v w k t g1 b r j=>?_⟩
 cases x with
 |tup M=>
  have l:=r;obtain⟨a,A,rfl,_,p,B⟩:=eW r;exact .inr (.inl ⟨a,A,rfl,.inl p,j _ w k t (cv.refl b.has) b (AW l b)⟩)
 |lst M=>
  have l:=r;obtain⟨a,A,rfl,p,B⟩:=ck (ds:=M) b r rfl;exact .inl ⟨a,A,rfl,p,j _ w k t (cv.refl b.has) b (p8 l b rfl)⟩
 |ref n=>
  cases s:dh I (.ref n)with
  |none=>
   simp only[srcOf,gh,s]at j;simp only[ao]at r;obtain⟨a,C,rfl⟩:=r;split at j
   .rename_i D J
    obtain⟨V,q,f,p,B⟩:=b.cell J;rw[C]at q;cases q
    refine .inr (.inr (.inr ⟨a,f,rfl,.inl ⟨p,λo=>?_⟩⟩))
    obtain⟨E,N⟩:=b.put (o:=.dg o (.dK f)) (c:=.dF D) C (λo u z=>by rw[p]at z;cases z) λR Y=>⟨o,f,aR,B.imp Y⟩
    exact j _ _ k t N E (p9 C aR)
   .rename_i D J
    obtain⟨V,q,o,f,p,B⟩:=b.cell J;rw[C]at q;cases q
    exact .inr (.inr (.inr ⟨a,f,rfl,.inr ⟨o,p,j _ w k t (cv.refl b.has) b (p9 C p)⟩⟩))
   .exact j.elim
  |some ds=>
   simp only[srcOf,gh,s]at j;have l:=r;obtain⟨a,A,rfl,p,B⟩:=ck b r s;exact .inl ⟨a,A,rfl,p,j _ w k t (cv.refl b.has) b (p8 l b (by rw[s];rfl))⟩
 |str z=>
  simp only[ao]at r;subst r;refine .inr (.inr (.inl ⟨z,rfl,j _ w k t (cv.refl b.has) b ?_⟩));intro a0 Z2 b0 H2 ds N E hs;cases hs;refine⟨λi d F=>?_,λi K=>by show z.cps.size<=i;simpa using K⟩
  have K:i<z.cps.size:=by
   have:=(List.getElem?_eq_some_iff.mp F).1;simpa using this
  refine⟨K,λy H3 hy=>?_⟩
  obtain⟨rfl,c,hc,rfl⟩:=hy;rw[List.getElem?_map]at F;have L:z.cps.toList[i]?=some c:=by simpa using hc
  rw[L]at F;cases F;exact⟨Z2,cv.refl E.has,E,a_ rfl⟩
 |non=>exact j.elim
 |bl _=>exact j.elim
 |int _=>exact j.elim
 |dct _ _=>exact j.elim
theorem xJ{b:Int}{n:Nat}:vp κ (.ints b n) (F_ b n) α Z H:=by
 intro e f h l m g s j;cases j;refine⟨λi d c=>?_,λi a=>by rw[kR]at a;exact a⟩
 have a:=(List.getElem?_eq_some_iff.mp c).1;rw[kR]at a;refine⟨a,λy o k=>?_⟩
 obtain⟨rfl,rfl⟩:=k;rw[ints_get _ _ _ _ c];exact⟨f,cv.refl s.has,s,a_ rfl⟩
theorem qP.Mo{r:ax (List D)}{f:List D->az->ax Src}{R:It->Hp->Prop}{Q':List V->Hp->Prop}(h:qP κ Φ α Z H (r.bind f) R)(k:∀ds aS,r=.ok ds aS->∀vs b a c,cv α Z H a c b->bF κ a c aS b->aE (ao a c b) ds vs->qP κ Φ a c b (f ds aS) R->Q' vs b):pQ κ Φ α Z H r Q':=by
 cases r with
 |ok d aS=>exact λv b a c g s q=>k d aS rfl v b a c g s q (qP.from g h)
 |exc x aS=>exact h
 |bad=>exact h
theorem xK(l:Gl X "range")(m:X.mg "range"=none)(n:qO X κ Φ [a] as)(o:starEach [a] X.env=[(false,eval a X.env)]):vS X κ Φ tg (.Call (.Name "range" p) [a] [] pos) (dW as):=by
 intro d q r s t;refine PI.imp (uH l m (n d q r s t) o) ?_;rintro z H R ⟨u,Z,S,g⟩;refine⟨u,Z,S,qP.Mo (Q':=λh e=>∃j:Int,h=[.int j] /\ -(2 ^ 62)<=j/\j<2 ^ 62/\R (F_ 0 j.toNat) e) g λA w _ h e f x B i y b=>?_⟩
 unfold tN at b;split at b
 .obtain⟨v,rfl,k⟩:=eY y
  simp only[ao]at k;subst k;split at b
  .rename_i c
   have c:=kI c;exact⟨_,rfl,c.1,c.2,b _ e f x (cv.refl i.has) i xJ⟩
  .exact b.elim
 .exact b.elim
noncomputable def qa(n:Nat)(d:D):Option aV:=match n,d with
 |0,d=>some [some d]
 |n,.tup a=>if a.length=n then some (a.map some)else none
 |_,_=>none
noncomputable def ej(cap:List Nat)(ρ:aV):aV:=cap.map λi=>(ρ[i]?).join
def jV(nc:Bool)(mc:EM)(ρ:aV)(Ω:az):ax Bool:=if nc=true then .ok true Ω else dE (mc ρ Ω)
def vT(nc:Bool)(mc me:EM)(n:Nat)(b:aV)(src:Src):Nat->Nat->List D->az->ax (List D)
 |0,_,_,_=>.bad
 |f+1,i,a,Ω=>match eT src Ω with
  |none=>.bad
  |some ds=>match ds[i]? with
   |none=>.ok a Ω
   |some d=>match qa n d with
    |none=>.bad
    |some c=>if small (a.length+1)then match jV nc mc (c++b) Ω with
     |.ok true aS=>match me (c++b) aS with
      |.ok y AY=>vT nc mc me n b src f (i+1) (a++[y]) AY
      |_=>.bad
     |.ok false aS=>vT nc mc me n b src f (i+1) a aS
     |_=>.bad else .bad
def cJ(me:EM)(nc:Bool)(mc:EM)(mi:IM)(n:Nat)(cap:List Nat):EM:=λc d=>match mi c d with
 |.ok s a=>match vT nc mc me n (ej cap c) s fuel 0 [] a with
  |.ok e b=>g_ b (.lst e)
  |_=>.bad
 |.exc x a=>.exc x a
 |.bad=>.bad
noncomputable def qQ:fm:=λ_ _ _ _ _=>False
theorem qb{cap:List Nat}{ds:List D}{vs:List V}(S:cT κ hZ Z0 H0 α Z Ω ρ σ H)(g:cv α Z H α1 Z1 H1)(s:bF κ α1 Z1 au H1)(r:aE (ao α1 Z1 H1) ds vs) :
  cT κ α1 Z1 H1 α1 Z1 au (ds.map some++ej cap ρ) (vs.map some++pI cap σ) H1:=by
 have a:=r.length;refine⟨s,cv.refl s.has,?_,λi d h=>?_⟩
 .rw[List.length_append,List.length_append,List.length_map,List.length_map,a]
  unfold pI ej;rw[List.length_map,List.length_map]
 .by_cases b:i<ds.length
  .rw[List.getElem?_append_left (by simpa using b),List.getElem?_map]at h
   rw[List.getElem?_append_left (by simpa[a]using b),List.getElem?_map]
   cases q:ds[i]? with
   |none=>rw[q]at h;cases h
   |some l=>
    rw[q]at h;cases h;obtain⟨v,c,e⟩:=r.get q;exact⟨v,by rw[c];rfl,e⟩
  .rw[List.getElem?_append_right (by simpa using b)]at h
   rw[List.getElem?_append_right (by simpa[a]using b)]
   unfold ej at h;unfold pI;rw[List.length_map,List.getElem?_map]at h;rw[List.length_map,a,List.getElem?_map];cases q:cap[i - ds.length]? with
   |none=>rw[q]at h;cases h
   |some j=>
    rw[q]at h;have h:(ρ[j]?).join=some d:=by simpa using h
    have k:ρ[j]?=some (some d):=by
     cases f:ρ[j]? with
     |none=>rw[f]at h;cases h
     |some o=>rw[f]at h;rw[show o=some d from h]
    obtain⟨v,c,e⟩:=S.val j d k;refine⟨v,?_,S.st.c_ g e⟩
    show some ((σ[j]?).join)=_
    rw[c];rfl
theorem cv.CC(g:cv α Z H α' Z' H'){a:Addr}{o:HO}(b:a∉α)(h:H a=some o):a∉α':=λq=>by
 rcases g.Cz a q with q|q
 .exact b q
 .rw[h]at q;cases q
theorem cv.D9(g:cv α Z H α' Z' H'){a:Addr}{o:HO}(b:¬ Z a)(h:H a=some o):¬ Z' a:=λq=>by
 rcases g.new a q with q|q
 .exact b q
 .rw[h]at q;cases q
theorem cv.side(g:cv α Z H α' Z' H'){a:Addr}{o:HO}(d:a∉α)(h:H a=Option.none):cv α Z H α' Z' (upd H' a o):=
 ⟨g.pre,g.sub,g.new,g.Cz,λb u e c=>by rw[aF (bb e h)];exact g.frm b u e c,λb c=>by rw[aF (λ(q:b=a)=>d (by rw[←q];exact c))];exact g.has b c,λb f u e=>by rw[aF (bb e h)];exact g.dg b f u e⟩
theorem AZ{n:Nat}{d:D}{a:aV}(h:qa n d=some a):∃ds:List D,a=ds.map some:=by
 unfold qa at h;split at h
 .cases h;exact⟨[d],rfl⟩
 .split at h
  .cases h;exact⟨_,rfl⟩
  .cases h
 .cases h
theorem bF.part(S:bF κ α Z Ω H){g:Addr}{vs:List V}{ds:List D}(i:H g=some (.lst vs))(j:g∉α)(hz:¬ Z g)(r:aE (ao α Z H) ds vs):bF κ (α++[g]) Z (Ω++[.lst ds]) H:=by
 have h:∀(n:Nat) (a:Addr),α[n]?=some a->(α++[g])[n]?=some a:=λn a e=>by rw[List.getElem?_append_left (List.getElem?_eq_some_iff.mp e).1];exact e
 have mono:∀d v,ao α Z H d v->ao (α++[g]) Z H d v:=λd v r=>r.mono h (λ_ _ _ e=>e) λ_ z=>z
 refine⟨?_,?_,λa ha f=>?_,S.dom⟩
 .refine List.nodup_append.mpr ⟨S.rK,by simp,λa ha b k e=>?_⟩
  rw[List.mem_singleton.mp k]at e;exact j (e▸ha)
 .exact aE.append (S.xu.imp λc a l=>l.imp mono (λ_ e=>e) λ_ _ _ e=>e) (.one ⟨vs,i,r.imp mono⟩)
 .rcases List.mem_append.mp ha with ha|ha
  .exact S.sep a ha f
  .rw[List.mem_singleton.mp ha]at f;exact hz f
theorem bF.side(S:bF κ α Z Ω H){f:Addr}{o:HO}(m:f∉α)(hz:¬ Z f)(n:∀o u,H f≠some (.dg o u)):bF κ α Z Ω (upd H f o)/\∀d v,ao α Z H d v->ao α Z (upd H f o) d v:=by
 have mono:∀d v,ao α Z H d v->ao α Z (upd H f o) d v:=λd v r=>r.mono (λ_ _ e=>e) (λa u z e=>by rw[aF (λ(q:a=f)=>hz (by rw[←q];exact z))];exact e) λ_ z=>z
 have k:∀{j:List Cell}{g:List Addr},(∀a∈g,a∈α)->aE (λc a=>gu κ (ao α Z H) H a c) j g->aE (λc a=>gu κ (ao α Z (upd H f o)) (upd H f o) a c) j g:=by
  intro j g i p
  induction p with
  |nil=>exact .nil
  |@cons c a j g r t s=>
   have l:a≠f:=λq=>m (q▸i a (by simp))
   exact .cons (r.imp mono (λu e=>by rw[aF l];exact e) λb w x e=>by rw[aF (λq=>n w x (by rw[←q];exact e))];exact e) (s λb y=>i b (by simp[y]))
 exact⟨⟨S.rK,k (λa h=>h) S.xu,S.sep,λa z=>by rw[aF (λ(q:a=f)=>hz (by rw[←q];exact z))];exact S.dom a z⟩,mono⟩
end
section
variable{X:Cx}{κ:Str->Addr->Prop}{Φ:fm}{tg iter elt:Expr}{ifs:List Expr}{scope:Scope}{tn cn:List Str}{cap:List Nat}{me mc:EM}{mi:IM}{nc:Bool}{pos:Pos}{n:Nat}
theorem vt{g:TG}(m0:vS X κ Φ tg iter mi)
  (o0:∀(d:D) (ds:List D) x p Z Ω H (m:L2.St) (k:L2.St->Hp->Prop),qa n d=some (ds.map some)->bF κ p Z Ω H->ao p Z H d x->(∀vs,aE (ao p Z H) ds vs->k (vs.map some++m) H)->g x (List.replicate tn.length none++m) H k)
  (hb:∀B C h j fp,PG (blk X scope B C (tn++cn) h j fp) tg g/\((ifs=[]/\nc=true)\/∃c,ifs=[c]/\nc=false/\gg (blk X scope B C (tn++cn) h j fp) κ qQ c mc)/\bu (blk X scope B C (tn++cn) h j fp) κ qQ elt me) :
  ∀V Z0 H0 ρ Ω,∃wi tc te,PI X tg iter wi/\(∀B C h j fp,PG (blk X scope B C (tn++cn) h j fp) tg g/\zX (blk X scope B C (tn++cn) h j fp) ifs tc/\PE (blk X scope B C (tn++cn) h j fp) elt te) /\
   ∀σ H Q,tO κ Φ V Z0 H0 (cJ me nc mc mi n cap) ρ Ω σ H Q->mJ wi tn.length cap g tc te σ H Q:=by
 intro V Z0 H0 ρ Ω
 let tc:TT:=λm H Q=>∃p Z Ω r,cT κ p Z H p Z Ω r m H/\oY κ qQ p Z H (jV nc mc r Ω) Q
 let te:TE:=λm H Q=>∃p Z Ω r,cT κ p Z H p Z Ω r m H/\bO κ qQ p Z H (me r Ω) Q
 have p0:∀B C h j fp,PG (blk X scope B C (tn++cn) h j fp) tg g/\zX (blk X scope B C (tn++cn) h j fp) ifs tc/\PE (blk X scope B C (tn++cn) h j fp) elt te:=by
  intro B C h j fp;obtain⟨h1,h2,h3⟩:=hb B C h j fp;refine⟨h1,?_,?_⟩
  .rcases h2 with ⟨e,hn⟩|⟨c,e,hn,h2⟩
   .subst e
    intro pins s m H Q I q;obtain⟨p,Z,Ω,r,S,k⟩:=q;rw[jV,if_pos hn]at k;exact zY pins s m H Q I (k H p Z (cv.refl S.st.has) S.st)
   .subst e
    intro pins s m H Q I q;obtain⟨p,Z,Ω,r,S,k⟩:=q;rw[jV,if_neg (by rw[hn];exact Bool.false_ne_true)]at k
    exact zZ (h2 p Z H r Ω) pins s m H Q I ⟨p,Z,S,k⟩
  .intro pins s m H Q I q
   obtain⟨p,Z,Ω,r,S,k⟩:=q;exact h3 p Z H r Ω pins s m H Q I ⟨p,Z,S,k⟩
 refine⟨_,tc,te,m0 V Z0 H0 ρ Ω,p0,?_⟩;rintro σ H Q ⟨p,Z,S,k⟩;refine⟨p,Z,S,?_⟩;simp only[cJ]at k;cases qi:mi ρ Ω with
 |exc x Y=>rw[qi]at k;exact k
 |bad=>rw[qi]at k;exact k.elim
 |ok a0 Y=>
  rw[qi]at k;dsimp only at k;intro J H1 K Z1 g1 s1 w1 E hD;cases qg:vT nc mc me n (ej cap ρ) a0 fuel 0 [] Y with
  |exc x e0=>rw[qg]at k;exact k.elim
  |bad=>rw[qg]at k;exact k.elim
  |ok ys e0=>
   rw[qg]at k;dsimp only at k;have R:¬ Z1 E:=λz=>s1.dom E z hD
   have A:E∉K:=λz=>s1.has E z hD
   refine⟨λi f vs T=>∃t U w F,cv K Z1 H1 t U T/\bF κ t U w T/\E∉t/\¬ U E/\T E=some (.lst vs)/\aE (ao t U T) F vs/\vT nc mc me n (ej cap ρ) a0 f i F w=.ok ys e0,
    ⟨fuel,K,Z1,Y,[],?_,?_,A,R,aR,.nil,qg⟩,?_⟩
   .exact⟨λ_ _ e=>e,λ_ z=>z,λ_ z=>.inl z,λ_ z=>.inl z,λa o e _=>by rw[aF (bb e hD)];exact e,λa ha=>by rw[aF (λ(q:a=E)=>A (by rw[←q];exact ha))];exact s1.has a ha,λa o u e=>by rw[aF (bb e hD)];exact e⟩
   .exact(s1.side A R λo u z=>by rw[hD]at z;cases z).1
   rintro i f vs T ⟨t,U,w,F,G,s2,nD,nZ,L,r2,l⟩;refine⟨L,?_⟩;cases f with
   |zero=>cases l
   |succ f=>
    simp only[vT]at l;cases qs:eT a0 w with
    |none=>rw[qs]at l;cases l
    |some ds=>
     rw[qs]at l;dsimp only at l;obtain⟨q0,r0⟩:=w1 t U w T ds G s2 qs;cases qd:ds[i]? with
     |none=>
      rw[qd]at l;cases l;have hi:ds.length<=i:=List.getElem?_eq_none_iff.mp qd;refine .inl ⟨r0 i hi,?_⟩;have sf:=s2.part L nD nZ r2
      have gA:cv K Z1 H1 (t++[E]) U T:=⟨λn a e=>by rw[List.getElem?_append_left (List.getElem?_eq_some_iff.mp (G.pre n a e)).1];exact G.pre n a e,G.sub,G.new,λa ha=>by
       rcases List.mem_append.mp ha with ha|ha
       .exact G.Cz a ha
       .rw[List.mem_singleton.mp ha];exact .inr hD,G.frm,G.has,G.dg⟩
      exact k _ T _ U (g1.trans gA) sf (eh s2 E)
     |some d=>
      rw[qd]at l;dsimp only at l;obtain⟨s0,t0⟩:=q0 i d qd;cases qt:qa n d with
      |none=>rw[qt]at l;cases l
      |some ts=>
       rw[qt]at l;dsimp only at l;obtain⟨es,rfl⟩:=AZ qt
       by_cases M:small (F.length+1)=true
       .rw[if_pos M]at l
        have M:=bC M;refine .inr ⟨s0,by rw[r2.length];omega,λx H3 yl=>?_⟩
        obtain⟨Z3,g3,s3,rx⟩:=t0 x H3 yl;have u0:=g3.D9 nZ L;have b0:=g3.frm E _ L nD;refine o0 d es x t Z3 w H3 (pI cap σ) _ qt s3 rx λws f0=>?_
        have gB:=g1.trans (G.trans g3);have SB:=qb (cap:=cap) S gB s3 f0;refine⟨t,Z3,w,_,SB,?_⟩;cases qc:jV nc mc (es.map some++ej cap ρ) w with
        |exc x N=>rw[qc]at l;cases l
        |bad=>rw[qc]at l;cases l
        |ok b N=>
         rw[qc]at l;intro H5 g0 Z5 O s5;have c0:=O.CC nD b0;have h0:=O.D9 u0 b0;have P:=O.frm E _ b0 nD;cases b with
         |false=>
          refine pD ?_;exact⟨f,Nat.lt_succ_self _,g0,Z5,N,F,G.trans (g3.trans O),s5,c0,h0,P,s3.jG O (s2.jG g3 r2),l⟩
         |true=>
          refine pE ?_;dsimp only at l;have SC:=qb (cap:=cap) S (gB.trans O) s5 (s3.jG O f0);refine⟨g0,Z5,N,_,SC,?_⟩;cases qe:me (es.map some++ej cap ρ) N with
          |exc x i0=>rw[qe]at l;cases l
          |bad=>rw[qe]at l;cases l
          |ok y i0=>
           rw[qe]at l;intro v H6 v0 Z6 g6 s6 rv;have j0:=g6.CC c0 P;have k0:=g6.D9 h0 P;have l0:=g6.frm E _ P c0;obtain⟨s7,m7⟩:=s6.side (o:=.lst (vs++[v])) j0 k0 (λo u z=>by rw[l0]at z;cases z)
           refine⟨l0,f,Nat.lt_succ_self _,v0,Z6,i0,F++[y],((G.trans (g3.trans O)).trans g6).side A hD,s7,j0,k0,aR,?_,l⟩;exact((s5.jG g6 (s3.jG O (s2.jG g3 r2))).append (.one rv)).imp m7
       .rw[if_neg M]at l;cases l
theorem ly{x:Str}{j:Pos}(l:vS X κ Φ (.Name x j) iter mi)(w:scope.names.lookup x=some .local)(m:([x]++cn).Nodup)
  (z:∀h C b f fp,((ifs=[]/\nc=true)\/∃c,ifs=[c]/\nc=false/\gg (blk X scope h C ([x]++cn) b f fp) κ qQ c mc)/\bu (blk X scope h C ([x]++cn) b f fp) κ qQ elt me) :
  ∀n A B ρ Ω,∃p q s,PI X (.Name x j) iter p/\(∀h C b f fp,PG (blk X scope h C ([x]++cn) b f fp) (.Name x j) (hY 0)/\zX (blk X scope h C ([x]++cn) b f fp) ifs q/\PE (blk X scope h C ([x]++cn) b f fp) elt s) /\
   ∀t H Q,tO κ Φ n A B (cJ me nc mc mi 0 cap) ρ Ω t H Q->mJ p [x].length cap (hY 0) q s t H Q:=by
 have u:(relabel scope X.env).names.lookup x=some .local:=lookup_relabel_local w;refine vt (g:=hY 0) (tn:=[x]) l (λd o y J Z Ω H D k i S E F=>?_) λh C b f fp=>?_
 .have i:some [some d]=some (o.map some):=i
  have e:o=[d]:=by
   injection i with i;cases o with
   |nil=>cases i
   |cons a r=>
    cases r with
    |nil=>simp only[List.map_cons,List.map_nil,List.cons.injEq,Option.some.injEq,and_true]at i;rw[i]
    |cons _ _=>cases i
  subst e;exact F [y] (.one E)
 .obtain⟨G,I⟩:=z h C b f fp
  exact⟨nt (X:=blk X scope h C ([x]++cn) b f fp) m rfl (.inl u) (.inr u),G,I⟩
theorem xM{x:Str}{g:Pos}(i:X.calm=true)(B:jD X scope [x] cn cap)(j:∀z,foldedSetIterable iter X.env z=pure z)(d:vS X κ Φ (.Name x g) iter mi)(k:scope.names.lookup x=some .local)(e:([x]++cn).Nodup)
  (l:∀h C a b fp,((ifs=[]/\nc=true)\/∃c,ifs=[c]/\nc=false/\gg (blk X scope h C ([x]++cn) a b fp) κ qQ c mc)/\bu (blk X scope h C ([x]++cn) a b fp) κ qQ elt me) :
  bu X κ Φ (.ListComp elt [⟨.Name x g,iter,ifs,0⟩] scope pos) (cJ me nc mc mi 0 cap):=by
 intro f m n o p;obtain⟨t,u,w,q,r,s⟩:=ly (cap:=cap) d k e l f m n o p;exact PE.imp (z8 i B q j (jE 1 (by decide)) r) s
end
inductive gi where
 |nx (ρ:aV) (Ω:az)|bk (ρ:aV) (Ω:az)|ct (ρ:aV) (Ω:az)|rt (d:D) (Ω:az)|exc (x:D) (Ω:az)|bad
abbrev SM:=aV->az->gi
def ew(κ:Str->Addr->Prop)(Φ:fm)(b:List Addr)(e:Addr->Prop)(f:Hp)(E:Ends):gi->Prop
 |.nx ρ Ω=>∀c H a Z,cT κ b e f a Z Ω ρ c H->E.nx c H
 |.bk ρ Ω=>∀c H a Z,cT κ b e f a Z Ω ρ c H->E.bk c H
 |.ct ρ Ω=>∀c H a Z,cT κ b e f a Z Ω ρ c H->E.ct c H
 |.rt d Ω=>∀v H a Z,cv b e f a Z H->bF κ a Z Ω H->ao a Z H d v->E.rt v H
 |.exc x Ω=>∀H a Z,cv b e f a Z H->bF κ a Z Ω H->Φ x Ω a Z H
 |.bad=>False
noncomputable def Ke(κ:Str->Addr->Prop)(Φ:fm)(a:List Addr)(b:Addr->Prop)(d:Hp)(c:SM)(ρ:aV)(Ω:az):TS:=λE e H=>∃f Z,cT κ a b d f Z Ω ρ e H/\ew κ Φ a b d E (c ρ Ω)
def oq(X:Cx)(κ:Str->Addr->Prop)(Φ:fm)(st:Stmt)(c:SM):Prop:=∀a b d e f,PS X st (Ke κ Φ a b d c e f)
def mq(X:Cx)(κ:Str->Addr->Prop)(Φ:fm)(a:List Stmt)(c:SM):Prop:=∀b d e f g,jN X a (Ke κ Φ b d e c f g)
noncomputable def cu{c:Type}(r:ax c)(k:c->az->gi):gi:=match r with
 |.ok a b=>k a b
 |.exc x b=>.exc x b
 |.bad=>.bad
noncomputable def aj:SM:=λa b=>.nx a b
noncomputable def ak(a b:SM):SM:=λe f=>match a e f with
 |.nx c d=>b c d
 |r=>r
def aH(i:Nat)(m:EM):SM:=λb c=>cu (m b c) λd a=>.nx (b.set i (some d)) a
def cA(m:EM):SM:=λb c=>cu (m b c) λ_ a=>.nx b a
def bD(m:EM):SM:=λb c=>cu (m b c) λd a=>.rt d a
noncomputable def qf:SM:=λ_ a=>.rt .non a
def dG(m:EM)(a b:SM):SM:=λd e=>cu (dE (m d e)) λt c=>if t=true then a d c else b d c
noncomputable def bA:SM:=λ_ _=>.bad
def jt(m:EM)(b:SM):Nat->SM
 |0,_,_=>.bad
 |f+1,ρ,Ω=>cu (dE (m ρ Ω)) λt aS=>if t=true then (match b ρ aS with
  |.nx a au=>jt m b f a au
  |.ct a au=>jt m b f a au
  |.bk a au=>.nx a au
  |r=>r)else .nx ρ aS
def rT(m:EM)(b:SM):SM:=jt m b fuel
noncomputable def fQ:List Nat->List D->aV->aV
 |i::a,d::ds,ρ=>fQ a ds (ρ.set i (some d))
 |_,_,ρ=>ρ
noncomputable def cP(i:Nat)(d:D)(ρ:aV):Option aV:=some (ρ.set i (some d))
def iK(a:List Nat)(d:D)(ρ:aV):Option aV:=match d with
 |.tup b=>if b.length=a.length then some (fQ a b ρ)else none
 |_=>none
def eM(c:D->aV->Option aV)(src:Src)(b:SM):Nat->Nat->SM
 |0,_,_,_=>.bad
 |f+1,i,ρ,Ω=>match eT src Ω with
  |none=>.bad
  |some ds=>match ds[i]? with
   |none=>.nx ρ Ω
   |some d=>match c d ρ with
    |none=>.bad
    |some e=>match b e Ω with
     |.nx a au=>eM c src b f (i+1) a au
     |.ct a au=>eM c src b f (i+1) a au
     |.bk a au=>.nx a au
     |r=>r
def ek(a:D->aV->Option aV)(mi:IM)(b:SM):SM:=λd e=>cu (mi d e) λs c=>eM a s b fuel 0 d c
def xN(e:List Nat)(m:EM):SM:=λc f=>cu (m c f) λd a=>match iK e d c with
 |some b=>.nx b a
 |none=>.bad
section
variable{X:Cx}{κ:Str->Addr->Prop}{Φ:fm}{α α' hZ α1:List Addr}{Z Z' Z0 Z1:Addr->Prop}{Ω au:az}{H H' H0 H1:Hp}{ρ:aV}{σ:L2.St}{E:Ends}{a b e ce o tg:Expr}{st:Stmt}{rest ta tb:List Stmt}{m:EM}{mi:IM}{ca cb:SM}{pos pos':Pos}
theorem cT.set(S:cT κ hZ Z0 H0 α Z Ω ρ σ H){d:D}{v:V}(r:ao α Z H d v)(i:Nat):cT κ hZ Z0 H0 α Z Ω (ρ.set i (some d)) (σ.set i (some v)) H:=by
 refine⟨S.st,S.gr,by simp[S.len],λj c h=>?_⟩
 by_cases a:i=j
 .subst a
  have b:i<ρ.length:=by
   have:=(List.getElem?_eq_some_iff.mp h).1;simpa using this
  rw[List.getElem?_set_self b]at h;cases h;exact⟨v,by rw[List.getElem?_set_self (by rw[S.len];exact b)],r⟩
 .rw[List.getElem?_set_ne a]at h ⊢
  exact S.val j c h
theorem ew.use{r:ax D}{k:D->az->gi}{Q:VK}(S:cT κ hZ Z0 H0 α Z Ω ρ σ H)(f:ew κ Φ hZ Z0 H0 E (cu r k))(h:∀d aS v b a c,r=.ok d aS->cv α Z H a c b->cT κ hZ Z0 H0 a c aS ρ σ b->ao a c b d v->ew κ Φ hZ Z0 H0 E (k d aS)->Q v b):bO κ Φ α Z H r Q:=by
 cases r with
 |ok d aS=>exact λv b a c g s q=>h d aS v b a c rfl g (S.grow g s) q f
 |exc x aS=>exact λb a c g s=>f b a c (S.gr.trans g) s
 |bad=>exact f
theorem ew.GZ{r:ax Bool}{k:Bool->az->gi}{Q:Bool->Hp->Prop}(S:cT κ hZ Z0 H0 α Z Ω ρ σ H)(f:ew κ Φ hZ Z0 H0 E (cu r k))(h:∀t aS b a c,r=.ok t aS->cv α Z H a c b->cT κ hZ Z0 H0 a c aS ρ σ b->ew κ Φ hZ Z0 H0 E (k t aS)->Q t b):oY κ Φ α Z H r Q:=by
 cases r with
 |ok d aS=>exact λb a c g s=>h d aS b a c rfl g (S.grow g s) f
 |exc x aS=>exact λb a c g s=>f b a c (S.gr.trans g) s
 |bad=>exact f
theorem jN.ex{c:Type}{t:c->TS}{a:List Stmt}(h:∀i,jN X a (t i)):jN X a (λD b H=>∃i,t i D b H):=λpins s b H D I ⟨i,q⟩=>h i pins s b H D I q
theorem A8:mq X κ Φ [] aj:=by
 intro a d e g h;refine jN.imp zp ?_;rintro E b H ⟨c,Z,S,f⟩;exact f b H c Z S
theorem xO(k:oq X κ Φ st ca)(l:mq X κ Φ rest cb):mq X κ Φ (st::rest) (ak ca cb):=by
 intro c g h i j;refine jN.imp (vZ (k c g h i j) (jN.ex λp:aV×az=>l c g h p.1 p.2)) ?_
 rintro E s H ⟨m,Z,S,f⟩;refine⟨m,Z,S,?_⟩;simp only[ak]at f;cases q:ca i j with
 |nx b a=>rw[q]at f;exact λn t e o r=>⟨(b,a),e,o,r,f⟩
 |bk b a=>rw[q]at f;exact f
 |ct b a=>rw[q]at f;exact f
 |rt d a=>rw[q]at f;exact f
 |exc x a=>rw[q]at f;exact f
 |bad=>rw[q]at f;exact f.elim
theorem xP:oq X κ Φ (.Return none pos) qf:=by
 intro a c d e g;refine PS.imp zr ?_;rintro E h H ⟨b,Z,S,f⟩;exact f .non H b Z S.gr S.st (a_ rfl)
theorem A9(h:bu X κ Φ e m):oq X κ Φ (.Return (some e) pos) (bD m):=by
 intro a i j k l;refine PS.imp (Dl (h a i j k l)) ?_;rintro E t H ⟨n,Z,S,f⟩;exact⟨n,Z,S,ew.use S f λd o v p b q _ g c r s=>s v p b q c.gr c.st r⟩
theorem tP{i:Nat}{x:Str}(c:X.N.Nodup)(j:X.N[i]?=some x)(k:Loc X.env.scope x)(l:X.fn x=true\/X.env.scope.names.lookup x=some .local)(n:swapsWith e (some (.Name x pos')) pos.line X.env=pure false)(h:bu X κ Φ e m) :
  oq X κ Φ (.Assign [.Name x pos'] e pos) (aH i m):=by
 intro a o p q s;refine PS.imp (Dq c j k (h a o p q s) n l) ?_;rintro E B H ⟨t,Z,S,f⟩;exact⟨t,Z,S,ew.use S f λd u v w b y _ g z r A=>A _ w b y (z.set r i)⟩
theorem xQ{i:Nat}{x:Str}{k iter p:Expr}{l:List Expr}{scope:Scope}{tn q:List Str}{cap:List Nat}{g:TG}(G:X.N.Nodup)(I:X.N[i]?=some x)(J:X.env.scope.names.lookup x=some .local)
  (s:swapsWith (.ListComp k [⟨p,iter,l,0⟩] scope pos) (some (.Name x pos')) pos'.line X.env=pure true) (K:X.calm=true) (B:jD X scope tn q cap) (L:∀x,foldedSetIterable iter X.env x=pure x)
  (t:∀v c H Q,g v c H Q->g v c H λn M=>Q n M/\n.length=c.length/\∀j,tn.length<=j->n[j]?=c[j]?)
  (h:∀o u w ρ Ω,∃y z A,PI X p iter y/\(∀D C a b fp,PG (blk X scope D C (tn++q) a b fp) p g/\zX (blk X scope D C (tn++q) a b fp) l z/\PE (blk X scope D C (tn++q) a b fp) k A) /\
   ∀c H Q,tO κ Φ o u w m ρ Ω c H Q->mJ y tn.length cap g z A c H Q) {e:Pos} (O:e.line=pos'.line) :
  oq X κ Φ (.Assign [.Name x pos'] (.ListComp k [⟨p,iter,l,0⟩] scope pos) e) (aH i m):=by
 intro o u w ρ Ω;obtain⟨y,z,A,P,R,T⟩:=h o u w ρ Ω;refine PS.imp (rE G I J (by rw[O];exact s) K B P L t R) ?_
 rintro E c H ⟨U,Z,S,f⟩;exact T c H _ ⟨U,Z,S,ew.use S f λd V v Y F Z1 _ g S1 r f1=>f1 _ Y F Z1 (S1.set r i)⟩
theorem A_(c:swapsWith e none pos.line X.env=pure false)(h:bu X κ Φ e m):oq X κ Φ (.Expr e pos) (cA m):=by
 intro a i j k l;refine PS.imp (zq (h a i j k l) c) ?_;rintro E u H ⟨n,Z,S,f⟩;exact⟨n,Z,S,ew.use S f λd o v p b q _ g s r t=>t _ p b q s⟩
theorem D_(n:gg X κ Φ e m)(o:mq X κ Φ ta ca)(p:mq X κ Φ tb cb):oq X κ Φ (.If e ta tb pos) (dG m ca cb):=by
 intro b h i j q;refine PS.imp (FZ (n b h i j q) (jN.ex λa=>o b h i j a) (jN.ex λa=>p b h i j a)) ?_
 rintro E s H ⟨r,Z,S,f⟩;refine⟨r,Z,S,ew.GZ S f λt a u c k _ g l d=>?_⟩
 cases t with
 |true=>rw[if_pos rfl]at d;exact pE ⟨a,c,k,l,d⟩
 |false=>rw[if_neg Bool.false_ne_true]at d;exact pD ⟨a,c,k,l,d⟩
theorem mW:oq X κ Φ st bA:=λa b c d e pins s g H E I ⟨h,Z,S,f⟩=>f.elim
theorem vu(L:PassesOwn (model X.prog X.w) X.A X.env X.xe)(M:gg X κ Φ e m)(N:mq X κ Φ tb cb):oq X κ Φ (.While e tb [] pos) (rT m cb):=by
 intro b o r j k;refine PS.imp (v9 L (PT.ex λp:aV×az=>M b o r p.1 p.2) (jN.ex λp:aV×az=>N b o r p.1 p.2)) ?_
 rintro E I H ⟨s,Z,S,f⟩;refine⟨λf I H=>∃s Z j k,cT κ b o r s Z k j I H/\ew κ Φ b o r E (jt m cb f j k),⟨fuel,s,Z,j,k,S,f⟩,?_⟩
 rintro f O R ⟨z,P,l,B,J,C⟩;cases f with
 |zero=>exact C.elim
 |succ f=>
  simp only[jt]at C;refine⟨(l,B),z,P,J,ew.GZ J C λt u T D Q _ g K a=>?_⟩
  cases t with
  |false=>
   rw[if_neg Bool.false_ne_true]at a;exact pD (a _ _ _ _ K)
  |true=>
   rw[if_pos rfl]at a;refine pE ⟨λh y=>∃s Z j k,cT κ b o r s Z k j h y/\ew κ Φ b o r E (jt m cb f j k),λh y q=>⟨f,Nat.lt_succ_self f,q⟩,(l,u),D,Q,K,?_⟩
   cases q:cb l u with
   |nx i c=>rw[q]at a;exact λh y n F G=>⟨n,F,i,c,G,a⟩
   |ct i c=>rw[q]at a;exact λh y n F G=>⟨n,F,i,c,G,a⟩
   |bk i c=>rw[q]at a;exact a
   |rt d c=>rw[q]at a;exact a
   |exc x c=>rw[q]at a;exact a
   |bad=>rw[q]at a;exact a.elim
def xR(κ:Str->Addr->Prop)(e:D->aV->Option aV)(g:TG):Prop:=
 ∀(d:D) (x:V) a h i f Z j l b m H (k:L2.St->Hp->Prop),cT κ a h i f Z j l m H->ao f Z H d x->e d l=some b->(∀c,cT κ a h i f Z j b c H->k c H)->g x m H k
theorem tQ{p:D->aV->Option aV}{g:TG}(hp:PassesOwn (model X.prog X.w) X.A X.env X.xe)(hc:X.calm=true)(hi:vS X κ Φ tg e mi)(hg:PG X tg g)(a0:xR κ p g)(hb:mq X κ Φ tb cb)(hs:∀x,foldedSetIterable e X.env x=pure x):oq X κ Φ (.For tg e tb [] pos) (ek p mi cb):=by
 intro j C F B M;have b0:jN X tb (λD Q H=>∃a n t c h,Ke κ Φ a n t cb c h D Q H):=λpins s Q H D I ⟨a,n,t,c,h,q⟩=>hb a n t c h pins s Q H D I q
 refine PS.imp (Ds hp hc (hi j C F B M) hg b0 hs) ?_;rintro E Q H ⟨α,Z,S,f⟩;refine⟨α,Z,S,?_⟩;simp only[ek]at f;cases qi:mi B M with
 |exc x N=>rw[qi]at f;exact λt a n g s=>f t a n (S.gr.trans g) s
 |bad=>rw[qi]at f;exact f.elim
 |ok G N=>
  rw[qi]at f;have f:ew κ Φ j C F E (eM p G cb fuel 0 B N):=f;intro J t a n g1 s1 w1;have S1:=S.grow g1 s1;refine⟨λi f Q H=>∃k R B M,cT κ j C F k R M B Q H/\cv a n t k R H/\ew κ Φ j C F E (eM p G cb f i B M),⟨fuel,a,n,B,N,S1,cv.refl s1.has,f⟩,?_⟩
  rintro i f T H2 ⟨k,R,U,u,S2,g2,b⟩;cases f with
  |zero=>exact b.elim
  |succ f=>
   simp only[eM]at b;cases qs:eT G u with
   |none=>rw[qs]at b;exact b.elim
   |some ds=>
    rw[qs]at b;dsimp only at b;obtain⟨c0,e0⟩:=w1 k R u H2 ds g2 S2.st qs;cases Y:ds[i]? with
    |none=>
     rw[Y]at b;exact .inl ⟨e0 i (List.getElem?_eq_none_iff.mp Y),b T H2 k R S2⟩
    |some d=>
     rw[Y]at b;dsimp only at b;obtain⟨f0,g0⟩:=c0 i d Y;cases qp:p d U with
     |none=>rw[qp]at b;exact b.elim
     |some K=>
      rw[qp]at b;dsimp only at b;refine .inr ⟨f0,λl o=>∃z O B M,cT κ j C F z O M B l o/\cv a n t z O o/\ew κ Φ j C F E (eM p G cb f (i+1) B M),λl o q=>⟨f,Nat.lt_succ_self f,q⟩,λx H3 yl=>?_⟩
      obtain⟨O,g3,s3,rx⟩:=g0 x H3 yl;have S3:=S2.grow g3 s3;refine a0 d x j C F k O u U K T H3 _ S3 rx qp λh0 S4=>?_
      have base:cv j C F a n t:=S1.gr;have gL:cv a n t k O H3:=g2.trans g3;have S5:cT κ a n t k O u K h0 H3:=⟨S4.st,gL,S4.len,S4.val⟩;have P:∀{z Z4 V c l o},cT κ a n t z Z4 V c l o->cT κ j C F z Z4 V c l o:=λy=>⟨y.st,base.trans y.gr,y.len,y.val⟩
      refine⟨a,n,t,K,u,k,O,S5,?_⟩;cases q:cb K u with
      |nx c h=>rw[q]at b;exact λl o m L y=>⟨m,L,c,h,P y,y.gr,b⟩
      |ct c h=>rw[q]at b;exact λl o m L y=>⟨m,L,c,h,P y,y.gr,b⟩
      |bk c h=>rw[q]at b;exact λl o m L y=>b l o m L (P y)
      |rt d h=>rw[q]at b;exact λv o m L g s r=>b v o m L (base.trans g) s r
      |exc x h=>rw[q]at b;exact λo m L g s=>b o m L (base.trans g) s
      |bad=>rw[q]at b;exact b.elim
theorem Ea(i:Nat):xR κ (cP i) (hY i):=λd x a c f g Z j l b m H k S r e h=>by
 cases e;exact h _ (S.set r i)
theorem lA:∀(a:List Nat) (ds:List D) (vs:List V) {ρ:aV}{b:L2.St},aE (ao α Z H) ds vs->ds.length=a.length->cT κ hZ Z0 H0 α Z Ω ρ b H->∀(k:L2.St->Hp->Prop),(∀c,cT κ hZ Z0 H0 α Z Ω (fQ a ds ρ) c H->k c H)->jn a vs b H k
 |[],[],vs,ρ,b,r,_,S,k,h=>by rw[r.nil_inv];exact⟨rfl,h b S⟩
 |i::a,d::ds,vs,ρ,b,r,e,S,k,h=>by
  obtain⟨v,ws,rfl,f,g⟩:=r.cons_inv;exact⟨v,ws,rfl,lA a ds ws g (by simpa using e) (S.set f i) k h⟩
 |[],_::_,_,_,_,_,e,_,_,_=>by simp at e
 |_::_,[],_,_,_,_,e,_,_,_=>by simp at e
theorem xS{K:PySem.W.Frag}(b:List Nat):xR κ (iK b) (zu K b.length (jn b)):=λd x i n o p Z q s j t H k S r e h=>by
 cases d with
 |tup l=>
  simp only[iK]at e;split at e
  .rename_i c
   cases e;obtain⟨a,f,rfl,_,m,g⟩:=eW r;exact⟨a,f,rfl,uX (.inl m),by rw[g.length];exact c,lA b l f g c S k h⟩
  .cases e
 |_=>cases e
theorem Ba{es:List Expr}{j:Nat}{p pos:Pos}{c:List Nat}(x:PG X (.Tuple es j p) (zu X.K c.length (jn c)))(o:xp e=true)(h:bu X κ Φ e m):oq X κ Φ (.Assign [.Tuple es j p] e pos) (xN c m):=by
 intro a q s t y;refine PS.imp (Dp (h a q s t y) x (by cases e<;>first|rfl | (cases o)) (by cases e<;>first|rfl | (cases o))) ?_
 rintro E z H ⟨A,Z,S,f⟩;refine⟨A,Z,S,ew.use S f λd i v u b w _ g B r k=>?_⟩
 split at k
 .rename_i l C
  exact xS (K:=X.K) c d v a q s b w i t l z u _ B r C λn D=>k n u b w D
 .exact k.elim
end
abbrev aL:=List D->az->ax D
def dN(κ:Str->Addr->Prop)(F:aL):Sp:=λd H Q _=>∃a Z b c,bF κ a Z b H/\aE (ao a Z H) c d/\bO κ qQ a Z H (F c b) Q
noncomputable def xT{a:Type}(r:ax a):ax a:=match r with
 |.ok d b=>.ok d b
 |_=>.bad
def ba(F:aL):aL:=λa b=>xT (F a b)
structure xU(X:Cx)(κ:Str->Addr->Prop)(k:Nat)(x:Str)(F:aL):Prop where
 ex:∃(f:Addr) (fd:FuncData) (ps:List Str),X.mg x=some (.ref f)/\PySem.W.keepIn X.K (.ref f)=true/\Binds X.K fd ps []/\cH X.prog X.w X.K X.mg X.base mH k f fd ps (dN κ F)
noncomputable def ot(Ω:az):D->Option (Nat×Str×List (Str×D))
 |.ref k=>match Ω[k]? with
  |some (.ins C fs)=>some (k,C,fs)
  |_=>none
 |_=>none
def aZ(Cs:List Str)(f:Str)(x:D)(Ω:az):ax D:=match ot Ω x with
 |some (_,C,a)=>if Cs.contains C then (match a.lookup f with
  |some d=>.ok d Ω
  |none=>.bad)else .bad
 |none=>.bad
noncomputable def iL(f:Str)(v:D):List (Str×D)->List (Str×D)
 |[]=>[(f,v)]
 | (g,x)::r=>if g=f then (g,v)::r else (g,x)::iL f v r
def aD(C m:Str)(F:aL)(d:EM)(e:AM):EM:=λc f=>(d c f).bind λx a=>match ot a x with
 |some (_,g,h)=>if g=C/\h.lookup m=none then (e c a).bind λi b=>ba F (x::i) b else .bad
 |none=>.bad
noncomputable def dO(C:Str)(F:aL)(xs:List D)(Ω:az):ax D:=match F (.ref Ω.length::xs) (Ω++[.ins C []])with
 |.ok .non a=>.ok (.ref Ω.length) a
 |_=>.bad
def bf(Cs:List Str)(f:Str)(e g:EM):SM:=λb h=>cu (g b h) λy c=>cu (e b c) λx a=>match ot a x with
 |some (k,C,d)=>if Cs.contains C&&decide (d.length<1000)then .nx b (a.set k (.ins C (iL f y d)))else .bad
 |none=>.bad
def gI(x y v:D)(Ω:az):Option az:=match x with
 |.ref k=>match Ω[k]? with
  |some (.dK a)=>match jS y with
   |some b=>if small (a.length+1)then some (Ω.set k (.dK (bI a b v)))else none
   |none=>none
  |some (.dT a)=>match mS y with
   |some b=>if small (a.length+1)then some (Ω.set k (.dT (bI a b v)))else none
   |none=>none
  |some (.lst c)=>match y with
   |.int i=>match L2.qN c.length i with
    |some n=>some (Ω.set k (.lst (c.set n v)))
    |none=>none
   |_=>none
  |_=>none
 |_=>none
def cQ(f g h:EM):SM:=λa i=>cu (h a i) λv b=>cu (f a b) λx c=>cu (g a c) λy d=>match gI x y v d with
 |some e=>.nx a e
 |none=>.bad
section
variable{X:Cx}{κ:Str->Addr->Prop}{Φ:fm}{α α' hZ α1:List Addr}{Z Z' Z0 Z1:Addr->Prop}{Ω au:az}{H H' H0 H1:Hp}{ρ:aV}{σ:L2.St}{Q:VK}{E:Ends}{a b e ce o tg:Expr}{es:List Expr}{st:Stmt}{rest ta tb:List Stmt}{m mo mv ma md mk:EM}{as:AM}{ca cb:SM}{pos pos' p apos:Pos}{F:aL}{C:Str}
theorem bO.ok0{r:ax D}(h:bO κ Φ α Z H (xT r) Q):bO κ qQ α Z H r Q:=by
 cases r with
 |ok d a=>exact h
 |exc x a=>exact h.elim
 |bad=>exact h
theorem xV{k:Nat}{x:Str}(F0:xU X κ k x F)(i:cO k X.A)(j:Gl X x)(a:(x==("__debug__":Str))=false)
  (l:starEach (e::es) X.env=(false,eval e X.env)::starEach es X.env) (b:(backTo pos (starEach es X.env)).any (·.1)=false) (m:qO X κ Φ (e::es) as) :
  bu X κ Φ (.Call (.Name x p) (e::es) [] pos) (mN (ba F) as):=by
 obtain⟨f,I,J,n,o,q,F1⟩:=F0.ex;intro c r s t u;refine PE.imp (sQ F1 i j n o q .nil kH (m c r s t u) a l b) ?_;rintro K H Q ⟨w,Z,S,g⟩;refine⟨w,Z,S,pQ.use g λy d _ z B h C L D E G=>?_⟩
 show dN κ F (z++[]) B Q E0
 rw[List.append_nil];exact⟨h,C,d,y,D,E,bO.ok0 G⟩
theorem vv{k:Nat}{x:Str}(F0:xU X κ k x F)(b:cO k X.A)(c:Gl X x)(a:(x==("__debug__":Str))=false):bu X κ Φ (.Call (.Name x p) [] [] pos) (mN (ba F) af):=by
 obtain⟨f,m,n,d,e,h,F1⟩:=F0.ex;intro i o q r j;refine PE.imp (wo F1 b c d e h .nil kH a) ?_;rintro s H Q ⟨l,Z,S,g⟩;exact⟨l,Z,j,[],S.st,.nil,bO.ok0 g⟩
theorem fR{R:D->V->Prop}{f:Str}:∀{b:List (Str×D)}{a:List (Str×V)},fy R b a->(∀d,b.lookup f=some d->∃v,a.lookup f=some v/\R d v)/\(b.lookup f=none->a.lookup f=none):=by
 intro b a h;unfold fy at h
 induction h with
 |nil=>exact⟨λd e=>(by cases e),λ_=>rfl⟩
 |@cons p q j l r t c=>
  obtain⟨g,i⟩:=r;obtain⟨k,d⟩:=p;obtain⟨m,v⟩:=q;cases g;rw[List.lookup_cons,List.lookup_cons];cases f==k with
  |true=>exact⟨λn e=>by cases e;exact⟨v,rfl,i⟩,λe=>by cases e⟩
  |false=>exact c
theorem qh{R:D->V->Prop}{f:Str}{d:D}{v:V}(r:R d v){c:List (Str×D)}{a:List (Str×V)}(h:fy R c a):fy R (iL f d c) (fb f v a):=by
 unfold fy at h
 induction h with
 |nil=>exact .cons ⟨rfl,r⟩ .nil
 |@cons p q j l b t g=>
  obtain⟨b,i⟩:=b;obtain⟨k,d⟩:=p;obtain⟨m,n⟩:=q;cases b;simp only[iL,fb]
  by_cases e:k=f
  .rw[if_pos e,if_pos e];exact .cons ⟨rfl,r⟩ t
  .rw[if_neg e,if_neg e];exact .cons ⟨rfl,i⟩ g
theorem gJ{x:D}{v:V}{k:Nat}{C:Str}{f:List (Str×D)}(S:bF κ α Z Ω H)(r:ao α Z H x v)(h:ot Ω x=some (k,C,f)):∃a d e b,v=.ref a/\x=.ref k/\α[k]?=some a/\κ C d/\H a=some (.ins d e b)/\fy (ao α Z H) f b:=by
 cases x with
 |ref n=>
  simp only[ot]at h;split at h
  .rename_i o b i
   cases h;simp only[ao]at r;obtain⟨a,g,rfl⟩:=r;obtain⟨p,c,d,e,b,j,l,m⟩:=S.cell i;rw[g]at c;cases c;exact⟨a,d,e,b,rfl,rfl,g,j,l,m⟩
  .cases h
 |_=>cases h
def ie(K:PySem.W.Frag)(κ:Str->Addr->Prop)(Cs:List Str)(f:Str):Prop:=∀C a,Cs.contains C=true->κ C a->j_ K a/\fJ K a f
theorem Bb{f:Str}{Cs:List Str}(i:ie X.K κ Cs f)(j:attributeBase o f X.env (eval o X.env)=eval o X.env)(l:bu X κ Φ o mo):bu X κ Φ (.Attribute o f pos) (m1 (aZ Cs f) mo):=
 nY (r:=λx H Q=>∃a C b c v,x=.ref a/\H a=some (.ins C b c)/\j_ X.K C/\fJ X.K C f/\c.lookup f=some v/\Q v H) (λD m=>DA m j) l λb x E Z F H Q S n g=>by
  unfold aZ at g;split at g
  .rename_i k C c p
   obtain⟨a,h,b,e,rfl,_,_,q,s,t⟩:=gJ S n p;split at g
   .rename_i u
    obtain⟨w,y⟩:=i C h u q;split at g
    .rename_i d z
     obtain⟨v,A,B⟩:=(fR t).1 d z;exact⟨a,h,b,e,v,rfl,s,w,y,A,bO.ret S B g⟩
    .exact g.elim
   .exact g.elim
  .exact g.elim
def CD(P:Program)(w:World)(K:PySem.W.Frag)(h:Str->Option Value)(base:Heap)(κ:Str->Addr->Prop)(k:Nat)(C m:Str)(F:aL)(c f:Addr)(d:FuncData)(ps:List Str):Prop:=
 (∀a,κ C a->a=c)/\j_ K c/\Meth K c m f/\∃(e:List Value) (b:List V) (g:List D) (F1:aL),Binds K d ps e/\Vals b e/\(∀i Z H,aE (ao i Z H) g b)/\cH P w K h base mH k f d ps (dN κ F1)/\F=λj=>F1 (j++g)
structure tR(X:Cx)(κ:Str->Addr->Prop)(k:Nat)(C m:Str)(F:aL):Prop where
 ex:∃(Ca f:Addr) (fd:FuncData) (ps:List Str),CD X.prog X.w X.K X.mg X.base κ k C m F Ca f fd ps
theorem xW{k:Nat}{m:Str}(M:tR X κ k C m F)(E:cO k X.A)(G:bu X κ Φ o mo)(I:qO X κ Φ (e::es) as){pl:Sem Bool}
  (h:starEach (e::es) X.env=(false,eval e X.env)::starEach es X.env) (i:(backTo pos (starEach es X.env)).any (·.1)=false)
  (J:eval (.Call (.Attribute o m apos) (e::es) [] pos) X.env=(do
   let w ←eval o X.env
   standAt apos.atName
   let (f,first) ←holding [w] (getMethod w m pl)
   callWith pos f first (backTo pos (starEach (e::es) X.env)) (backToKw pos (keywordEach [] X.env)))) :
  bu X κ Φ (.Call (.Attribute o m apos) (e::es) [] pos) (aD C m F mo as):=by
 obtain⟨Ca,f,fd,ps,K,j,L,N,O,Dd,F0,P,l,R,F1,rfl⟩:=M.ex;intro c y z B T;refine PE.imp (zD (G c y z B T) j L F1 E P l kH (PA.ex λb=>I c y z B b) h i J) ?_
 rintro σ H Q ⟨U,Z,S,g⟩;refine⟨U,Z,S,bO.use g λx b _ v H1 p V Y q D d=>?_⟩
 split at d
 .rename_i n C' fs hk
  split at d
  .rename_i hc
   obtain⟨rfl,hl⟩:=hc;obtain⟨a,r,dx,s,rfl,rfl,_,q1,q2,q3⟩:=gJ q D hk;obtain rfl:=K r q1;refine⟨a,dx,s,rfl,q2,(fR q3).2 hl,b,p,V,S.grow Y q,pQ.use d λxs t _ vs H2 u Z2 g2 s2 r2 k2=>?_⟩
   exact⟨u,Z2,t,_,s2,.cons (q.c_ g2 D) (r2.append (R _ _ _)),bO.ok0 k2⟩
  .exact d.elim
 .exact d.elim
theorem vx{k:Nat}{m:Str}(M:tR X κ k C m F)(s:cO k X.A)(t:bu X κ Φ o mo){pl:Sem Bool}
  (u:eval (.Call (.Attribute o m apos) [] [] pos) X.env=(do
   let p ←eval o X.env
   standAt apos.atName
   let (f,first) ←holding [p] (getMethod p m pl)
   callWith pos f first (backTo pos (starEach [] X.env)) (backToKw pos (keywordEach [] X.env)))) :
  bu X κ Φ (.Call (.Attribute o m apos) [] [] pos) (aD C m F mo af):=by
 obtain⟨Ca,f,fd,ps,w,c,y,z,B,Dd,F0,D,d,E,F1,rfl⟩:=M.ex;intro e G I J K;refine PE.imp (wt (t e G I J K) c y F1 s D d kH u) ?_;rintro σ H Q ⟨L,Z,S,g⟩;refine⟨L,Z,S,bO.use g λx h _ v H1 i N g1 q r b=>?_⟩
 split at b
 .rename_i n C' fs O
  split at b
  .rename_i P
   obtain⟨rfl,R⟩:=P;obtain⟨a,j,T,l,rfl,rfl,_,U,V,Y⟩:=gJ q r O;obtain rfl:=w j U;exact⟨a,T,l,rfl,V,(fR Y).2 R,i,N,h,_,q,.cons r (E _ _ _),bO.ok0 b⟩
  .exact b.elim
 .exact b.elim
structure xX(X:Cx)(κ:Str->Addr->Prop)(k:Nat)(C:Str)(F:aL):Prop where
 ex:∃(Ca f:Addr) (fd:FuncData) (ps:List Str),κ C Ca/\Mk X.K Ca f/\X.mg C=some (.ref Ca)/\Binds X.K fd ps []/\cH X.prog X.w X.K X.mg X.base mH k f fd ps (dN κ F)
theorem qj{xs:List D}{vs:List V}{b x a:Addr}(S:bF κ α Z Ω H)(r:aE (ao α Z H) xs vs)(e:κ C b)(g:bO κ Φ α Z H (dO C F xs Ω) Q)(y:H x=none)(f:H a=none)(h:a≠x) :
  dN κ F (.ref x::(vs++[])) (upd (upd H a (.own x)) x (.ins b a [])) (λv z=>v=.non/\Q (.ref x) z) E0:=by
 rw[List.append_nil];obtain⟨i,m⟩:=S.xv (p:=a) (o:=.own x) f False;simp only[if_false]at i m;have j:upd H a (.own x) x=none:=by rw[aF (Ne.symm h)];exact y
 obtain⟨n,A⟩:=i.laid (p:=x) (o:=.ins b a []) (c:=.ins C []) j λR I=>⟨b,a,[],e,aR,.nil⟩
 have s:=m.trans A;have t:ao (α++[x]) Z (upd (upd H a (.own x)) x (.ins b a [])) (.ref Ω.length) (.ref x):=eh i x;refine⟨α++[x],Z,Ω++[.ins C []],.ref Ω.length::xs,n,.cons t (S.jG s r),?_⟩;unfold dO at g;cases q:F (.ref Ω.length::xs) (Ω++[.ins C []])with
 |ok d k=>
  rw[q]at g;cases d with
  |non=>
   intro v B l E u G w;simp only[ao]at w;exact⟨w,g _ B l E (s.trans u) G (n.c_ u t)⟩
  |_=>exact g.elim
 |exc x k=>rw[q]at g;exact g.elim
 |bad=>rw[q]at g;exact g.elim
theorem Bc{k:Nat}(M:xX X κ k C F)(j:cO (k+1) X.A)(l:Gl X C)(a:(C==("__debug__":Str))=false)
  (m:starEach (e::es) X.env=(false,eval e X.env)::starEach es X.env) (b:(backTo pos (starEach es X.env)).any (·.1)=false) (n:qO X κ Φ (e::es) as):bu X κ Φ (.Call (.Name C p) (e::es) [] pos) (mN (dO C F) as):=by
 obtain⟨J,f,K,L,c,o,q,r,F1⟩:=M.ex;intro d s t u w;refine PE.imp (zE o F1 j l q r .nil kH (n d s t u w) a m b) ?_;rintro N H Q ⟨y,Z,S,g⟩;exact⟨y,Z,S,pQ.use g λO z _ P R B T U D E G x V I h i=>qj D E c G I h i⟩
theorem xY{k:Nat}(M:xX X κ k C F)(e:cO (k+1) X.A)(h:Gl X C)(a:(C==("__debug__":Str))=false):bu X κ Φ (.Call (.Name C p) [] [] pos) (mN (dO C F) af):=by
 obtain⟨o,f,q,r,b,i,j,l,F1⟩:=M.ex;intro m s t u w;refine PE.imp (wu i F1 e h j l .nil kH a) ?_;rintro y H Q ⟨z,Z,S,g⟩;exact λx B n c d=>qj S.st .nil b g n c d
theorem Bd{f:Str}{Cs:List Str}(F:ie X.K κ Cs f)(G:swapsWith e (some (.Attribute o f pos')) pos.line X.env=pure false)(I:bu X κ Φ o mo)(J:bu X κ Φ e mv):oq X κ Φ (.Assign [.Attribute o f pos'] e pos) (bf Cs f mo mv):=by
 intro d r s t L;refine PS.imp (DB (PE.ex λb=>I d r s t b) (J d r s t L) G) ?_
 rintro E M H ⟨N,Z,S,f⟩;refine⟨N,Z,S,ew.use S f λy b v H1 j O _ g1 l P Q=>⟨b,j,O,l,ew.use l Q λx T w H2 m U _ V n Y g=>?_⟩⟩
 split at g
 .rename_i k C fs hk
  obtain⟨a,i,p,h,rfl,rfl,h0,A,B,D⟩:=gJ n.st Y hk;split at g
  .rename_i q
   simp only[Bool.and_eq_true,decide_eq_true_eq]at q;obtain⟨c1,c2⟩:=F C i q.1 A;have ry:=l.st.c_ V P;obtain⟨s3,g3⟩:=n.st.put (o:=.ins i p (fb _ v h)) (c:=.ins C (iL _ y fs)) h0 (λo u z=>by rw[B]at z;cases z) λR hR=>⟨i,p,_,A,aR,(qh ry D).imp hR⟩
   exact⟨a,i,p,h,rfl,B,c1,c2,by rw[fy.length D];exact q.2,g M _ m U (n.grow g3 s3)⟩
  .exact g.elim
 .exact g.elim
def CF(H:Hp)(a:Addr)(y v:V)(c:Hp):Prop:=pz H a y v c\/∃b k j,y=.int k/\H a=some (.lst b)/\qN b.length k=some j/\c=upd H a (.lst (b.set j v))
noncomputable def Eb(td d e:TE):TS:=λD b H=>e b H λv f=>td b f λx g=>d b g λy h=>∃a c,x=.ref a/\CF h a y v c/\D.nx b c
theorem xZ{i b:Expr}{td d e:TE}(p:X.A.units+1<cLine)(q:PE X o td)(t:PE X i d)(w:PE X b e)(z:swapsWith b (some (.Subscript o i pos')) pos.line X.env=pure false) :
  PS X (.Assign [.Subscript o i pos'] b pos) (Eb td d e):=by
 intro pins s c H D I h;refine wpAny_Assign_Subscript (cg (w pins s c H _ I h) λr B ⟨v,H1,I1,f,q1⟩=>cg (q pins B c H1 _ I1 q1) λu C ⟨x,H2,I2,l,q2⟩=>cg (t pins C c H2 _ I2 q2) λO E ⟨y,H3,m,n,a,H4,ex,g,q3⟩=>?_) z
 subst ex;rcases g with g|⟨F,k,j,rfl,G,J,rfl⟩
 .obtain rfl:u=Value.ref a:=l
  exact uT p m g n f λK L=>⟨c,H4,L,q3⟩
 .exact cg (set_list pins E c H3 _ _ _ _ _ _ (λM=>D.nx c M) m l n f ⟨a,F,k,j,rfl,rfl,G,J,q3⟩) λ_ K ⟨N,I5,q5⟩=>⟨c,N,I5,q5⟩
theorem aE.G8{c d:Type}{R:c->d->Prop}{a:c}{b:d}:∀{e:List c}{bs:List d}{n:Nat},aE R e bs->R a b->aE R (e.set n a) (bs.set n b)
 |_,_,_,.nil,_=>.nil
 |_::_,_::_,0,.cons _ t,r=>.cons r t
 |_::_,_::_,n+1,.cons q t,r=>.cons q (aE.G8 t r)
theorem x8{x y d:D}{v w u:V}(S:bF κ α Z Ω H)(I:ao α Z H x v)(C:ao α Z H y w)(E:ao α Z H d u)(h:gI x y d Ω=some au):∃a F,v=.ref a/\CF H a w u F/\bF κ α Z au F/\cv α Z H α Z F:=by
 cases x with
 |ref k=>
  simp only[gI]at h;simp only[ao]at I;obtain⟨a,q,rfl⟩:=I;split at h
  .rename_i l r
   obtain⟨J,e,f,g,j⟩:=S.cell r;rw[q]at e;cases e
   split at h
   .rename_i m p
    obtain rfl:=fB p C;split at h
    .rename_i G
     cases h;have:=bC G;obtain⟨s,A⟩:=S.put (o:=.dK (putK f m u)) (c:=.dK (bI l m d)) q (λo u z=>by rw[g]at z;cases z) λR B=>⟨_,aR,(j.put m E).imp B⟩
     exact⟨a,_,rfl,.inl (pz.k g (by rw[j.length];omega)),s,A⟩
    .cases h
   .cases h
  .rename_i l r
   obtain⟨J,e,f,g,j⟩:=S.cell r;rw[q]at e;cases e
   split at h
   .rename_i m p
    obtain⟨b,rfl,L⟩:=jq p C;split at h
    .rename_i G
     cases h;have:=bC G;obtain⟨s,A⟩:=S.put (o:=.dT (putK f m u)) (c:=.dT (bI l m d)) q (λo u z=>by rw[g]at z;cases z) λR B=>⟨_,aR,(j.put m E).imp B⟩
     exact⟨a,_,rfl,.inl (pz.t g L (by rw[j.length];omega)),s,A⟩
    .cases h
   .cases h
  .rename_i M r
   obtain⟨J,e,K,g,j⟩:=S.cell r;rw[q]at e;cases e
   split at h
   .rename_i i
    split at h
    .rename_i n N
     cases h;cases (show w=V.int i from C)
     obtain⟨s,A⟩:=S.put (o:=.lst (K.set n u)) (c:=.lst (M.set n d)) q (λo u z=>by rw[g]at z;cases z) λR B=>⟨_,aR,(aE.G8 j E).imp B⟩
     exact⟨a,_,rfl,.inr ⟨K,i,n,rfl,g,by rw[j.length];exact N,rfl⟩,s,A⟩
    .cases h
   .cases h
  .cases h
 |_=>cases h
theorem x9{i:Expr}(B:X.A.units+1<cLine)(C:bu X κ Φ o md)(D:bu X κ Φ i mk)(F:bu X κ Φ e mv)(G:swapsWith e (some (.Subscript o i pos')) pos.line X.env=pure false):oq X κ Φ (.Assign [.Subscript o i pos'] e pos) (cQ md mk mv):=by
 intro c h j k I;refine PS.imp (xZ B (PE.ex λb=>C c h j k b) (PE.ex λb=>D c h j k b) (F c h j k I) G) ?_
 rintro E J H ⟨K,Z,S,f⟩;refine⟨K,Z,S,ew.use S f λd b v H1 l L _ g1 m M N=>⟨b,l,L,m,ew.use m N λx n w H2 p O _ P g Q R=>⟨n,p,O,g,ew.use g R λy T u H3 q U _ s t V r=>?_⟩⟩⟩
 split at r
 .rename_i Y hq
  obtain⟨a,z,rfl,h1,s4,g4⟩:=x8 t.st (g.st.c_ s Q) V (g.st.c_ s (m.st.c_ P M)) hq;exact⟨a,z,rfl,h1,r J z q U (t.grow g4 s4)⟩
 .exact r.elim
theorem vy:bu X κ Φ (.Dict [] [] pos) (λ_ Ω=>g_ Ω (.dK [])):=by
 intro a f h i Ω;refine PE.imp wH ?_;rintro j H Q ⟨k,Z,S,g⟩ p b;obtain⟨d,e⟩:=S.st.laid (p:=p) (o:=.dK []) (c:=.dK []) b λR l=>⟨[],aR,.nil⟩
 exact g _ _ _ Z e d (eh S.st p)
theorem vz:bu X κ Φ (.Dict [] [] pos) (λ_ Ω=>g_ Ω (.dT [])):=by
 intro a f h i Ω;refine PE.imp wI ?_;rintro j H Q ⟨k,Z,S,g⟩ p b;obtain⟨d,e⟩:=S.st.laid (p:=p) (o:=.dT []) (c:=.dT []) b λR l=>⟨[],aR,.nil⟩
 exact g _ _ _ Z e d (eh S.st p)
noncomputable def aM(n:Nat)(ds:List D):aV:=ds.map some++List.replicate (n - ds.length) none
noncomputable def iM:gi->ax D
 |.rt d Ω=>.ok d Ω
 |.nx _ Ω=>.ok .non Ω
 |.exc x Ω=>.exc x Ω
 |_=>.bad
def aO(n k:Nat)(c:SM):aL:=λa b=>if a.length=k then iM (c (aM n a) b)else .bad
theorem rV{ds:List D}{vs:List V}{N:List Str}(S:bF κ α Z Ω H)(r:aE (ao α Z H) ds vs):cT κ α Z H α Z Ω (aM N.length ds) (L2.start N vs) H where
 st:=S
 gr:=cv.refl S.has
 len:=by simp[aM,L2.start,r.length]
 val:=λi d a=>by
  unfold aM at a
  by_cases h:i<ds.length
  .rw[List.getElem?_append_left (by simpa using h),List.getElem?_map]at a
   obtain⟨g,b,c⟩:=Option.map_eq_some_iff.mp a;cases c;obtain⟨v,e,f⟩:=r.get b;refine⟨v,?_,f⟩;unfold L2.start;rw[List.getElem?_append_left (by simpa[r.length]using h),List.getElem?_map,e]
   rfl
  .rw[List.getElem?_append_right (by simpa using h),List.getElem?_replicate]at a
   split at a<;>cases a
end
def Be(e f:TE):TE:=λc H Q=>∀p,H p=none->e c (upd H p (.dT [])) λx g=>f c g λy a=>a p=some (.dT [])/\∃b d,x=.ref b/\a b=some (.tup (d.map kV))/\Q (.ref p) (upd a p (.dT (putK [] d y)))
theorem vA{X:Cx}{pos:Pos}{k v:Expr}{j l:TE}(hu:X.A.units+1<cLine)(J:PE X k j)(K:PE X v l):PE X (.Dict [some k] [v] pos) (Be j l):=by
 intro pins s L H Q I q;have M:=I.hok.fresh (Nat.le_refl s.heap.objs.size);have N:=I.laid (a:=s.heap.objs.size) (o:=.dT []) (h':=s.heap.push {cls:=.type "dict",data:=.dict #[]}) (t':=s.toks) (λ_ _ q=>Heap.get?_push_of_some _ q) (Nat.le_refl _) (pB s.heap I.big)
 have O:Ka X pos [some k] [v] [(j,l)]:=wK J K zN;refine wpAny_Dict_any rfl rfl (by simp) (by simp) (cg (O pins _ L _ (λm g=>match m with|[(x,y)]=>g s.heap.objs.size=some (.dT [])/\∃b d,x=.ref b/\g b=some (.tup (d.map kV))/\Q (.ref s.heap.objs.size) (upd g s.heap.objs.size (.dT (putK [] d y)))|_=>False) N (q _ M)) λws s2 n=>?_)
 obtain⟨m,g,u,f,h⟩:=n;split at h
 .rename_i x y
  obtain⟨e,b,d,rfl,D,P⟩:=h;cases f with
  |@cons p R m S r t=>
   cases t;obtain⟨T,U⟩:=r;obtain⟨Y,w2⟩:=R;cases (show Y=Value.ref b from T)
   unfold storeAll;rw[List.forIn_cons];obtain⟨z,Z,xs,f,dd⟩:=wF u.hok e;cases f;refine wpAny_bind (wpAny_bind (wpAny_dictSet_heap (knd:=tupleKind (bt X.prog X.w)) ?_ (ji u.hok D) dd λh' B hs=>?_))
   .show X.A.units<cLine
    omega
   .refine wpAny_pure ?_
    dsimp only;rw[List.forIn_nil];refine wpAny_pure ?_;obtain⟨E,es,ep,F,n,h,h4,_,h5⟩:=B
    have hl:(putK ([]:List (List Key×V)) d y).length<=sizeLine:=by
     have:=eU ([]:List (List Key×V)) d y;rw[sizeLine_eq];simp at this;omega
    have i:KT g ([]:List (List Key×V)) []:=.nil
    have C:bN X.prog X.w (upd g s.heap.objs.size (.dT (putK [] d y))) h' s.heap.objs.size (.dT (putK [] d y)):=⟨hl,Z,_,(i.put d D U).keeps λc ys G=>by
     rw[aF (Cj G e (λz=>nomatch z))]
     exact G,E,es,ep,F,n,h,h4,h5⟩
    exact⟨.ref s.heap.objs.size,_,iD u (by rw[e];exact True.intro) hs ⟨E,F⟩ C,rfl,P⟩
 .exact h.elim
def eZ(e f:EM):EM:=λd b=>(e d (b++[.dT []])).bind λy c=>(f d c).bind λv a=>match a[b.length]?,mS y with
 |some (.dT []),some g=>.ok (.ref b.length) (a.set b.length (.dT (bI [] g v)))
 |_,_=>.bad
theorem rW{X:Cx}{κ:Str->Addr->Prop}{Φ:fm}{pos:Pos}{k v:Expr}{x B:EM}(U:X.A.units+1<cLine)(V:bu X κ Φ k x)(Y:bu X κ Φ v B):bu X κ Φ (.Dict [some k] [v] pos) (eZ x B):=by
 intro f C D E F;refine PE.imp (vA U (PE.ex λe=>V f C D E e) (PE.ex λe=>Y f C D E e)) ?_
 rintro σ H Q ⟨G,Z,S,g⟩ p hp;obtain⟨I,J⟩:=S.st.laid (p:=p) (o:=.dT []) (c:=.dT []) hp λR K=>⟨[],aR,.nil⟩
 have L:=S.grow J I;have rp:ao (G++[p]) Z (upd H p (.dT [])) (.ref F.length) (.ref p):=eh S.st p;have g:=bO.from J g
 unfold eZ at g;refine⟨F++[.dT []],G++[p],Z,L,bO.use g λy m _ w H2 n Z2 M q r2 k2=>⟨m,n,Z2,L.grow M q,k2.use λd a0 _ u H3 b0 Z3 N O r3 r=>?_⟩⟩
 split at r
 .rename_i l hc s
  have h:=q.c_ N (I.c_ M rp);simp only[ao]at h;obtain⟨a,t,ea⟩:=h;cases ea;obtain⟨a',i,j,P,T⟩:=O.cell hc;rw[t]at i;cases i;have hn:=fy.length T;obtain rfl:j=[]:=List.eq_nil_of_length_eq_zero (by simpa using hn)
  obtain⟨b,rfl,hb⟩:=jq s (q.c_ N r2);refine⟨P,b,l,rfl,hb,?_⟩;obtain⟨s4,g4⟩:=O.put (o:=.dT (putK [] l u)) (c:=.dT (bI [] l d)) t (λo u z=>by rw[P]at z;cases z) λR K=>⟨_,aR,(T.put l r3).imp K⟩
  refine r _ _ _ _ g4 s4 ?_;simp only[ao];exact⟨p,t,rfl⟩
 .exact r.elim
structure qk(P:Program)(w:World)(K:PySem.W.Frag)(mg:Str->Option Value)(base:Heap)(κ:Str->Addr->Prop)(k:Nat)(j:Nat)(F:List D->aL):Prop where
 run:∀(X:Cx) (f:Addr) (vs:List V) (σ:L2.St) (H:Hp) (Q:VK) (α:List Addr) (Z:Addr->Prop) (Ω:az) (rJ ds:List D) (n:Nat),X.prog=P->X.w=w->X.K=K->X.mg=mg->X.base=base->cO k X.A ->
  bF κ α Z Ω H->α[n]?=some f->Ω[n]?=some (.fn j rJ)->aE (ao α Z H) ds vs->bO κ qQ α Z H (F rJ ds Ω) Q->GP X f vs σ H Q
theorem qk.mono{P:Program}{w:World}{K:PySem.W.Frag}{a:Str->Option Value}{base:Heap}{κ:Str->Addr->Prop}{k b j:Nat}{F:List D->aL}(h:qk P w K a base κ k j F)(c:k<=b):qk P w K a base κ b j F:=
 ⟨λX f d e H Q g Z i rJ l n m o p q r s=>h.run X f d e H Q g Z i rJ l n m o p q r (s.mono c)⟩
noncomputable def isFn(Ω:az)(n:Nat):Bool:=match Ω[n]? with
 |some (.fn _ _)=>true
 |_=>false
section
variable{X:Cx}{κ:Str->Addr->Prop}{Φ:fm}{α α' hZ:List Addr}{Z Z' Z0:Addr->Prop}{Ω au:az}{H H' H0:Hp}{ρ:aV}{σ:L2.St}
end
section
variable{κ:Str->Addr->Prop}{Φ:fm}{α:List Addr}{Z:Addr->Prop}{Ω:az}{H:Hp}{Q:VK}
noncomputable def iN(x:D)(xs:List D)(Ω:az):ax D:=match x,xs with
 |.str z,[.str y]=>match Builtin.Str.occurrences z y 0 z.length 1 with
  |i::_=>.ok (.int (i:Nat)) Ω
  |[]=>.bad
 |_,_=>.bad
theorem Bf{x:D}{v:V}{xs:List D}{vs:List V}(S:bF κ α Z Ω H)(r:ao α Z H x v)(rs:aE (ao α Z H) xs vs)(g:bO κ Φ α Z H (iN x xs Ω) Q):tq v vs H Q:=by
 unfold iN at g;split at g
 .rename_i z y
  obtain⟨u,rfl,a⟩:=eY rs;simp only[ao]at r a;subst r;subst a;split at g
  .rename_i i b c
   exact⟨z,y,i,b,rfl,rfl,c,bO.ret S (a_ rfl) g⟩
  .exact g.elim
 .exact g.elim
end
def CG:V->List V->Hp->VK->Prop:=λx c H Q=>∃a b k v,x=.ref a/\c=[kV k]/\H a=some (.dK b)/\g9 b k=some v/\Q v (upd H a (.dK (jC b k)))
theorem Bg{X:Cx}:FC X "dict.pop" CG:=by
 intro pins s l H x m v n Q I b c h;obtain⟨a,d,k,y,rfl,rfl,e,f,q⟩:=h;cases b;obtain⟨u,rfl,g⟩:=c.one;exact Gz I e g f (.inl rfl) λo p i j=>⟨y,_,i,j,q⟩
noncomputable def rX(Ω:az)(x:D):Bool:=match x with
 |.ref k=>match Ω[k]? with
  |some (.dK _)=>true
  |_=>false
 |_=>false
def lB(x:D)(xs:List D)(Ω:az):ax D:=match x,xs with
 |.ref k,[y]=>match Ω[k]?,jS y with
  |some (.dK a),some b=>match bx a b with
   |some d=>.ok d (Ω.set k (.dK (gd a b)))
   |none=>.bad
  |_,_=>.bad
 |_,_=>.bad
section
variable{κ:Str->Addr->Prop}{Φ:fm}{α:List Addr}{Z:Addr->Prop}{Ω:az}{H:Hp}{Q:VK}
theorem Bh{x:D}{v:V}{K:PySem.W.Frag}(S:bF κ α Z Ω H)(r:ao α Z H x v)(h:rX Ω x=true):FD K "dict" v H:=by
 unfold rX at h;split at h
 .rename_i k
  simp only[ao]at r;obtain⟨a,d,rfl⟩:=r;split at h
  .rename_i e f
   obtain⟨i,b,c,g,j⟩:=S.cell f;rw[d]at b;cases b
   exact .inr (.inr (.inl ⟨rfl,.inl ⟨_,g⟩⟩))
  .cases h
 .cases h
theorem Bi{x:D}{v:V}{xs:List D}{vs:List V}(S:bF κ α Z Ω H)(r:ao α Z H x v)(rs:aE (ao α Z H) xs vs)(g:bO κ Φ α Z H (lB x xs Ω) Q):CG v vs H Q:=by
 unfold lB at g;split at g
 .rename_i k y
  simp only[ao]at r;obtain⟨a,i,rfl⟩:=r;obtain⟨w,F,rfl,n,p⟩:=rs.cons_inv;obtain rfl:=p.nil_inv;split at g
  .rename_i h e s t
   obtain rfl:=fB t n;obtain⟨G,f,b,j,l⟩:=S.cell s;rw[i]at f;cases f
   split at g
   .rename_i d z
    obtain⟨u,A,B⟩:=(l.val e).1 d z;obtain⟨C,m⟩:=S.put (c:=.dK (gd h e)) (o:=.dK (jC b e)) i (λo u q=>by rw[j]at q;cases q) λR E=>⟨_,aR,(l.drop e).imp E⟩
    exact⟨a,b,e,u,rfl,rfl,j,A,g u _ _ _ m C (S.c_ m B)⟩
   .exact g.elim
  .exact g.elim
 .exact g.elim
end
noncomputable def aa(i:Nat):EM:=λa b=>match a[i]? with|some (some d)=>.ok d b|_=>.bad
noncomputable def ah(d:D):EM:=λ_ a=>.ok d a
def br:EM:=λ_ a=>g_ a (.dK [])
def Ec:EM:=λ_ a=>g_ a (.dT [])
noncomputable def o2{c d e:Type}(x:Option c)(y:Option d)(k:c->d->e):Option e:=match x,y with
 |some a,some b=>some (k a b)
 |_,_=>none
theorem bJ{c d e:Type}{x:Option c}{y:Option d}{k:c->d->e}{z:e}(h:o2 x y k=some z):∃a b,x=some a/\y=some b/\z=k a b:=by
 unfold o2 at h;split at h
 .cases h;exact⟨_,_,rfl,rfl,rfl⟩
 .cases h
theorem cK{b c:Type}{x:Option b}{k:b->c}{z:c}(h:x.map k=some z):∃a,x=some a/\z=k a:=by
 cases x with
 |none=>cases h
 |some a=>cases h;exact⟨a,rfl,rfl⟩
structure aN where
 lY:List (Str×(List D->Out Rs)):=[]
 fn:List (Str×aL):=[]
 cst:List (Str×D):=[]
 met:List (Str×Str×aL):=[]
 cls:List (Str×aL):=[]
 fld:List (Str×List Str):=[]
 clo:List (List D->aL):=[]
 fz:List Str:=[]
 xt:Bool:=false
def ou(T:aN)(sc:Scope)(N:List Str)(x:Str):Option EM:=
 match mM sc N x with
 |some i=>some (aa i)
 |none=>if Ad sc x&&okN x then (T.cst.lookup x).map ah else none
def lC:Const->Option EM
 |.none=>some (ah .non)
 |.bool b=>some (ah (.bl b))
 |.int i=>some (ah (.int i))
 |.str x=>some (ah (.str x))
 |_=>none
def dj(f:Expr->Option EM):List Expr->Option AM
 |[]=>some af
 |e::es=>o2 (f e) (dj f es) ab
def UB(op:BoolOp)(a b:EM):EM:=match op with
 |.And=>fC a b
 |.Or=>CA a b
def iO(f:Expr->Option EM)(op:BoolOp):List Expr->Option EM
 |[]=>none
 |[a]=>f a
 |a::b::r=>o2 (f a) (iO f op (b::r)) (UB op)
def rY(f:Expr->Option EM):Option Expr->Option (Bool×EM)
 |none=>some (true,ah .non)
 |some e=>(f e).map λm=>(false,m)
inductive BM where
 |append|insert|extend|ql|index|join
noncomputable def BM.nm:BM->Str
 |.append=>"append" |.insert=>"insert" |.extend=>"extend" |.ql=>"pop" |.index=>"index" |.join=>"join"
noncomputable def BM.ar:BM->Nat
 |.append=>1|.insert=>2|.extend=>1|.ql=>1|.index=>1|.join=>1
def BM.ty:BM->az->D->Bool
 |.join=>pY
 |_=>kf
def BM.f:BM->D->List D->az->ax D
 |.append=>dq|.insert=>gU|.extend=>gW|.ql=>fP|.index=>fg|.join=>pZ
def Ed(m:Str)(n:Nat):Option BM:=[BM.append,.insert,.extend,.ql,.index,.join].find? λb=>b.nm==m&&b.ar==n
def gX(a:EM)(b:AM)(m:Str):List (Str×Str×aL)->Option EM
 |[]=>none
 | (c,C,F)::r=>if c==m then (match gX a b m r with
  |some x=>some (fA (aD C m F a b) x)
  |none=>some (aD C m F a b))else gX a b m r
def ov(T:aN)(m:Str)(n:Nat)(a:EM)(c:AM):Option EM:=match Ed m n,gX a c m T.met with
 |some b,some x=>some (fA (cE b.ty b.f a c) x)
 |some b,none=>some (cE b.ty b.f a c)
 |none,x=>x
def kg(T:aN)(m:Str)(n:Nat)(a:EM)(b:AM):Option EM:=match ov T m n a b with
 |some x=>if m==("index":Str)&&n==1 then some (fA x (cE pY iN a b))else if m==("pop":Str)&&n==1 then some (fA x (cE rX lB a b))else some x
 |none=>none
def rZ(x:Str):Option kb:=[kb.len,kb.all,kb.any,kb.list,kb.tuple].find? (λb=>b.nm==x)
theorem Bj{x:Str}{b:kb}(h:rZ x=some b):x=b.nm/\b∈[kb.len,kb.all,kb.any,kb.list,kb.tuple]/\b.nm∈ef:=by
 unfold rZ at h;have c:=List.find?_some h;have a:=List.mem_of_find?_eq_some h;refine⟨(eq_of_beq c).symm,a,?_⟩;cases b<;>first | (simp at a;done)|decide
def ow(T:aN)(sc:Scope)(f:Expr->Option EM)(x:Str)(args:List Expr):Option EM:=
 if Ad sc x&&okN x then
  match T.fn.lookup x,T.lY.lookup x,T.cls.lookup x,rZ x with
  |some F,_,_,_=>(dj f args).map (mN (ba F))
  |none,some F,_,_=>if args.isEmpty then none else (dj f args).map (mN (di F))
  |none,none,some F,_=>(dj f args).map (mN (dO x F))
  |none,none,none,some b=>if args.isEmpty then none else (dj f args).map (mN (bo b))
  |none,none,none,none=>(if x==("dict":Str)then (if args.isEmpty then none else (dj f args).map (mN pX))else none)
 else none
def kh(T:aN)(sc:Scope)(N:List Str)(f:Expr->Option EM)(x:Str)(args:List Expr):Option EM:=match mM sc N x with
 |some _=>none
 |none=>ow T sc f x args
def x_(sc:Scope):List Expr->Option (Expr×Ty×Pos)
 |[a,.Name t p]=>match xl t with
  |some ty=>if Ad sc t then some (a,ty,p)else none
  |none=>none
 |_=>none
theorem vB{sc:Scope}{args:List Expr}{a:Expr}{b:Ty}{p:Pos}(h:x_ sc args=some (a,b,p)):args=[a,.Name b.nm p]/\Ad sc b.nm=true/\b.nm∈ef:=by
 unfold x_ at h;split at h
 .split at h
  .rename_i d c
   split at h
   .rename_i e
    cases h;obtain⟨rfl,m⟩:=GN c;exact⟨rfl,e,m⟩
   .cases h
  .cases h
 .cases h
def qm(sc:Scope)(f:Expr->Option EM)(x:Str)(args:List Expr):Option EM:=if x==("isinstance":Str)&&Ad sc x then match x_ sc args with
 |some (a,b,_)=>(f a).map (m1 (rR b))
 |none=>none else none
noncomputable def dZ:Expr->Bool
 |.Name .. |.Attribute .. |.Constant (.str _) .. |.Subscript .. |.Call (.Attribute ..) ..=>true
 |_=>false
def iP(f:Expr->Option EM)(sc:Scope)(iter:Expr):Option IM:=match iter with
 |.Call (.Name g _) args [] _=>if g==("range":Str)then (if Ad sc g then (match args with
   |[a]=>(dj f [a]).map dW
   |_=>none)else none)else (f iter).map bG
 |.Call (.Attribute o b c) [] [] d=>if b==("values":Str)&&c.endLine==d.line&&dZ o then (f o).map mV else (f iter).map bG
 |_=>(f iter).map bG
def ya(f:Expr->Option EM):List Expr->Option (Bool×EM)
 |[]=>some (true,ah .non)
 |[c]=>(f c).map λm=>(false,m)
 |_=>none
noncomputable def emptyDict:List (Option Expr)->List Expr->Bool
 |[],[]=>true
 |_,_=>false
noncomputable def Bk:List (Option Expr)->List Expr->Option (Expr×Expr)
 |[some (.Tuple es j p)],[v]=>some (.Tuple es j p,v)
 |_,_=>none
theorem yb{a:List (Option Expr)}{vs:List Expr}{k v:Expr}(h:Bk a vs=some (k,v)):a=[some k]/\vs=[v]:=by
 unfold Bk at h;split at h
 .cases h;exact⟨rfl,rfl⟩
 .cases h
def cB(T:aN):Nat->Scope->List Str->Expr->Option EM
 |0,_,_,_=>none
 |n+1,sc,N,e=>match e with
  |.Name x _=>ou T sc N x
  |.Constant c _ _=>lC c
  |.BinOp a d b _=>o2 (cB T n sc N a) (cB T n sc N b) (m2 (aY d))
  |.UnaryOp .USub a _=>(cB T n sc N a).map (m1 GS)
  |.UnaryOp .Not a _=>(cB T n sc N a).map hJ
  |.BoolOp d (a::b::r) _=>iO (cB T n sc N) d (a::b::r)
  |.Compare a [d] [b] _=>if isSet b then none else o2 (cB T n sc N a) (cB T n sc N b) (m2 (aB d))
  |.Compare a [d,g] [b,c] _=>if isSet c then none else o2 (cB T n sc N a) (o2 (cB T n sc N b) (cB T n sc N c) Prod.mk) λx y=>kZ d g x y.1 y.2
  |.IfExp t a b _=>o2 (cB T n sc N t) (o2 (cB T n sc N a) (cB T n sc N b) Prod.mk) λx y=>zh x y.1 y.2
  |.Subscript a (.Slice lo hi none _) _=>o2 (cB T n sc N a) (o2 (rY (cB T n sc N) lo) (rY (cB T n sc N) hi) Prod.mk) λx y=>eu x y.1.1 y.1.2 y.2.1 y.2.2
  |.Subscript a b _=>if isSlice b then none else o2 (cB T n sc N a) (cB T n sc N b) (m2 aC)
  |.List es _=>(dj (cB T n sc N) es).map (mN bH)
  |.Tuple es _ _=>(dj (cB T n sc N) es).map (mN hH)
  |.Attribute o f _=>if dZ o then o2 (T.fld.lookup f) (cB T n sc N o) λCs m=>m1 (aZ Cs f) m else none
  |.Call (.Name x _) args [] _=>match qm sc (cB T n sc N) x args with
   |some m=>some m
   |none=>kh T sc N (cB T n sc N) x args
  |.Call (.Attribute o m p1) args [] p2=>if p1.endLine==p2.line&&dZ o&&decide (args.length<20)then (match cB T n sc N o,dj (cB T n sc N) args with
   |some mo,some as=>kg T m args.length mo as
   |_,_=>none)else none
  |.ListComp elt gens scope _=>match kU gens with
   |some (x,_,iter,ifs)=>if xm scope sc x&&!isSet iter then (match rG sc N (dC scope),iP (cB T n sc N) sc iter,cB T n (rF scope sc) (x::dC scope) elt,ya (cB T n (rF scope sc) (x::dC scope)) ifs with
    |some cap,some mi,some me,some (nc,mc)=>some (cJ me nc mc mi 0 cap)
    |_,_,_,_=>none)else none
   |none=>none
  |.Dict ks h _=>if emptyDict ks h then some br else (match Bk ks h with
   |some (k,v)=>o2 (cB T n sc N k) (cB T n sc N v) eZ
   |none=>none)
  |_=>none
structure GoodO(X:Cx)(κ:Str->Addr->Prop)(T:aN)(k:Nat)(sc:Scope)(N:List Str):Prop where
 scope:X.env.scope=sc
 names:X.N=N
 calm:X.calm=true
 room:cO k X.A
 fh:∀x∈ef,X.mg x=none
 lY:∀x F,T.lY.lookup x=some F->GJ X k x F
 fn:∀x F,T.fn.lookup x=some F->xU X κ k x F
 cst:∀x d,T.cst.lookup x=some d->∃v u,X.mg x=some u/\RelV v u/\DT d v
 met:∀m C F,(m,C,F)∈T.met->tR X κ k C m F
 cls:∀C F,T.cls.lookup C=some F->∃j,j+1<=k/\xX X κ j C F
 fld:∀f Cs,T.fld.lookup f=some Cs->ie X.K κ Cs f
 clo:∀j F,T.clo[j]?=some F->qk X.prog X.w X.K X.mg X.base κ k j F
theorem GoodO.gl{X:Cx}{κ:Str->Addr->Prop}{T:aN}{k:Nat}{sc:Scope}{N:List Str}{x:Str}(G:GoodO X κ T k sc N)(h:Ad sc x=true):Gl X x:=by
 unfold Ad at h;have e:=eq_of_beq h
 show X.env.scope.names.lookup x=some .globalImplicit
 rw[G.scope];exact e
theorem GoodO.hu{X:Cx}{κ:Str->Addr->Prop}{T:aN}{k:Nat}{sc:Scope}{N:List Str}(G:GoodO X κ T k sc N):X.A.units+64<cLine:=G.room.units
theorem GoodO.blk{X:Cx}{κ:Str->Addr->Prop}{T:aN}{k:Nat}{sc:Scope}{N:List Str}(G:GoodO X κ T k sc N)(scope:Scope)(d:List (Str×Addr))(C:Addr)(c:List Str)(a:Shared)(b:Hp)(fp:List Addr):GoodO (blk X scope d C c a b fp) κ T k (rF scope sc) c where
 scope:=by rw[←G.scope];rfl
 names:=rfl
 calm:=G.calm
 room:=G.room
 fh:=G.fh
 lY:=λx F h=>⟨(G.lY x F h).ex⟩
 fn:=λx F h=>⟨(G.fn x F h).ex⟩
 cst:=G.cst
 met:=λm C F h=>⟨(G.met m C F h).ex⟩
 cls:=λC F h=>let ⟨j,e,f⟩:=G.cls C F h;⟨j,e,⟨f.ex⟩⟩
 fld:=G.fld
 clo:=G.clo
def lF(X:Cx)(κ:Str->Addr->Prop)(e:Expr)(m:EM):Prop:=(∀a,bu X κ a e m)/\(∀a,gg X κ a e m)/\isStar e=false
section
variable{X:Cx}{κ:Str->Addr->Prop}{T:aN}{k:Nat}{sc:Scope}{N:List Str}{f:Expr->Option EM}
theorem bT{e:Expr}{m:EM}(h:∀Φ,bu X κ Φ e m)(b:isStar e=false)(c:∀a,isTrue e X.env a=(do let v ←a;standAt e.pos;holding [v] (truthy v))):lF X κ e m:=⟨h,λΦ=>Ax (h Φ) c,b⟩
theorem bY(b:∀e m,f e=some m->lF X κ e m):∀{es:List Expr}{a:AM},dj f es=some a->(∀Φ,qO X κ Φ es a)/\(∀e∈es,isStar e=false)
 |[],a,h=>by cases h;exact⟨λΦ=>Al,λe d=>absurd d (by simp)⟩
 |e::es,a,h=>by
  obtain⟨m,g,h1,h2,rfl⟩:=bJ h;obtain⟨i,_,c⟩:=b e m h1;obtain⟨j,k⟩:=bY b h2;refine⟨λΦ=>xx (i Φ) (j Φ) (cy c),λz hz=>?_⟩
  rcases List.mem_cons.mp hz with rfl|hz
  .exact c
  .exact k z hz
theorem yc(G:GoodO X κ T k sc N){x:Str}{pos:Pos}{m:EM}(h:ou T sc N x=some m):lF X κ (.Name x pos) m:=by
 unfold ou at h;split at h
 .rename_i i q
  cases h;obtain⟨c,e,a,f⟩:=tr q;exact bT (λg=>Ak (by rw[G.names];exact c) (by rw[G.scope];exact e) a f) rfl (λ_=>rfl)
 .split at h
  .rename_i b
   simp only[Bool.and_eq_true]at b;obtain⟨d,a,rfl⟩:=cK h;obtain⟨v,u,j,l,n⟩:=G.cst x d a;obtain⟨o,p,r⟩:=tw b.2;exact bT (λg=>xw (zm (G.gl b.1) j l o) n) rfl (λ_=>rfl)
  .cases h
theorem vC{q:Const}{j:Nat}{pos:Pos}{m:EM}(h:lC q=some m):lF X κ (.Constant q j pos) m:=by
 cases q<;>simp only[lC]at h<;>cases h
 .exact bT (λa=>ke Dg rfl) rfl (λ_=>rfl)
 .exact bT (λa=>ke FV rfl) rfl (λ_=>rfl)
 .exact bT (λa=>ke vX rfl) rfl (λ_=>rfl)
 .exact bT (λa=>ke Dh rfl) rfl (λ_=>rfl)
theorem qo{op:BoolOp}{pos:Pos}(c:∀e m,f e=some m->lF X κ e m):∀{es:List Expr}{m:EM},iO f op es=some m->(∀Φ,bu X κ Φ (.BoolOp op es pos) m)/\(∀Φ,CB X κ Φ (.BoolOp op es pos) m)
 |[],m,h=>by cases h
 |[a],m,h=>by
  obtain⟨p1,p2,p3⟩:=c a m h;exact⟨λΦ=>vf (p1 Φ),λΦ=>AB (p2 Φ)⟩
 |a::b::r,m,h=>by
  simp only[iO]at h;obtain⟨i,l,j,k,rfl⟩:=bJ h;obtain⟨p1,p2,p3⟩:=c a i j;obtain⟨d,g⟩:=qo c k;cases op with
  |And=>exact⟨λΦ=>Ay (p1 Φ) (d Φ),λΦ=>AD (p2 Φ) (g Φ)⟩
  |Or=>exact⟨λΦ=>DV (p1 Φ) (d Φ),λΦ=>DW (p2 Φ) (g Φ)⟩
theorem qq(b:∀e m,f e=some m->lF X κ e m){o:Option Expr}{n:Bool}{m:EM}{Φ:fm}(h:rY f o=some (n,m)):Kd X κ Φ o n m:=by
 cases o with
 |none=>cases h;exact .inl ⟨rfl,rfl⟩
 |some e=>
  obtain⟨a,c,d⟩:=cK h;cases d;exact .inr ⟨e,rfl,rfl,(b e m c).1 Φ⟩
theorem Bl{m:Str}{n:Nat}{b:BM}(h:Ed m n=some b):m=b.nm/\n=b.ar:=by
 have:=List.find?_some h;simp only[Bool.and_eq_true,beq_iff_eq]at this;exact⟨this.1.symm,this.2.symm⟩
theorem dr{o:Expr}{n:Str}{env:Env}(h:dZ o=true):attributeBase o n env (eval o env)=eval o env:=by
 cases o with
 |Call f a b p=>cases f<;>first|rfl | (cases h)
 |_=>first|rfl | (cases h)
theorem G9(w:X.A.units+64<cLine)(b:BM){o:Expr}{es:List Expr}{t:EM}{u:AM}{p1 p2:Pos}{Φ:fm}(j:dZ o=true)(k:(p1.endLine==p2.line)=true)(l:es.length=b.ar)(n:bu X κ Φ o t)(y:dj f es=some u)(z:∀e m,f e=some m->lF X κ e m) :
  bu X κ Φ (.Call (.Attribute o b.nm p1) es [] p2) (cE b.ty b.f t u):=by
 obtain⟨i,p⟩:=bY z y;have i:=i Φ;cases b with
 |append=>
  match es,l with
  |[e],_=>exact gG PySem.F.plainAttrs_list PySem.F.slot_list_append PySem.F.type_list_append mD (λx v a Z c H S r h=>lx S r h) (λx v q s a Z c H Q S r d g=>vj S r d g) (dr j) k n i p (by simp)
 |ql=>
  match es,l with
  |[e],_=>exact gG PySem.F.plainAttrs_list PySem.F.slot_list_pop PySem.F.type_list_pop wB (λx v a Z c H S r h=>lx S r h) (λx v q s a Z c H Q S r d g=>xH S r d g) (dr j) k n i p (by simp)
 |insert=>
  match es,l with
  |[e,B],_=>exact gG PySem.F.plainAttrs_list PySem.F.slot_list_insert PySem.F.type_list_insert va (λx v a Z c H S r h=>lx S r h) (λx v q s a Z c H Q S r d g=>vl S r d g) (dr j) k n i p (by simp)
 |extend=>
  match es,l with
  |[e],_=>exact gG PySem.F.plainAttrs_list PySem.F.slot_list_extend PySem.F.type_list_extend uR (λx v a Z c H S r h=>lx S r h) (λx v q s a Z c H Q S r d g=>vm S r d g) (dr j) k n i p (by simp)
 |index=>
  match es,l with
  |[e],_=>exact gG PySem.F.plainAttrs_list PySem.F.slot_list_index PySem.F.type_list_index (xj w) (λx v a Z c H S r h=>lx S r h) (λx v q s a Z c H Q S r d g=>xI S r d g) (dr j) k n i p (by simp)
 |join=>
  match es,l with
  |[e],_=>exact gG PySem.F.plainAttrs_str PySem.F.slot_str_join PySem.F.type_str_join z_ (λx v a Z c H S r h=>tL S r h) (λx v q s a Z c H Q S r d g=>AU S r d g) (dr j) k n i p (by simp)
theorem tT{o:Expr}{m:Str}{apos pos:Pos}{es:List Expr}{env:Env}(c:attributeBase o m env (eval o env)=eval o env)(d:∀e∈es,isStar e=false)(b:es.length<20)(g:(apos.endLine==pos.line)=true) :
  eval (.Call (.Attribute o m apos) es [] pos) env=(do
   let a ←eval o env
   standAt apos.atName
   let (f,first) ←holding [a] (getMethod a m (do let l ←importBound o env;pure (l.getD true)))
   callWith pos f first (backTo pos (starEach es env)) (backToKw pos (keywordEach [] env))):=by
 have h:methodCallForm (es.length+([]:List Keyword).length) (backTo pos (starEach es env)) (backToKw pos (keywordEach [] env))=true:=by
  unfold methodCallForm;rw[rS d,decide_eq_true (by show es.length+0+0<30;omega)];rfl
 have i:eval (.Call (.Attribute o m apos) es [] pos) env=(do
   let a ←attributeBase o m env (eval o env)
   standAt apos.atName
   methodCall o m apos pos env a (es.length+([]:List Keyword).length) (backTo pos (starEach es env)) (backToKw pos (keywordEach [] env))):=by rfl
 rw[i,c];unfold methodCall calleeOf methodCallPos;rw[h];simp only[if_true,Bool.not_true,Bool.false_or,g];rfl
theorem ig(b:cO k X.A){o:Expr}{m:Str}{es:List Expr}{n:EM}{p:AM}{p1 p2:Pos}{Φ:fm}(c:dZ o=true)(d:(p1.endLine==p2.line)=true)(a:es.length<20)(g:bu X κ Φ o n)(i:dj f es=some p)(r:∀e m,f e=some m->lF X κ e m):∀{s:List (Str×Str×aL)}{x:EM},(∀m C F,(m,C,F)∈s->tR X κ k C m F)->gX n p m s=some x->bu X κ Φ (.Call (.Attribute o m p1) es [] p2) x
 |[],x,_,h=>by cases h
 | (j,C,F)::s,x,l,h=>by
  obtain⟨a1,a2⟩:=bY r i;simp only[gX]at h;split at h
  .rename_i t
   obtain rfl:=eq_of_beq t
   have one:bu X κ Φ (.Call (.Attribute o j p1) es [] p2) (aD C j F n p):=by
    cases es with
    |nil=>cases i;exact vx (l j C F (by simp)) b g (tT (dr c) a2 a d)
    |cons e es=>exact xW (l j C F (by simp)) b g (a1 Φ) (cy (a2 e (by simp))) (cI λz u=>a2 z (by simp[u])) (tT (dr c) a2 a d)
   split at h
   .rename_i y w
    cases h;exact one.alt (ig b c d a g i r (λm C F q=>l m C F (by simp[q])) w)
   .cases h;exact one
  .exact ig b c d a g i r (λm C F q=>l m C F (by simp[q])) h
theorem yd(G:GoodO X κ T k sc N){o:Expr}{m:Str}{es:List Expr}{d:EM}{g:AM}{p1 p2:Pos}{Φ:fm}{x:EM}(l:dZ o=true)(n:(p1.endLine==p2.line)=true)(a:es.length<20)(p:bu X κ Φ o d)(q:dj f es=some g)(r:∀e m,f e=some m->lF X κ e m)
  (h:ov T m es.length d g=some x):bu X κ Φ (.Call (.Attribute o m p1) es [] p2) x:=by
 have one:∀b,Ed m es.length=some b->bu X κ Φ (.Call (.Attribute o m p1) es [] p2) (cE b.ty b.f d g):=λb j=>by
  obtain⟨rfl,t⟩:=Bl j;exact G9 G.hu b l n t p q r
 have c:∀y,gX d g m T.met=some y->bu X κ Φ (.Call (.Attribute o m p1) es [] p2) y:=λy u=>ig G.room l n a p q r G.met u
 unfold ov at h;split at h
 .rename_i b y i s
  cases h;exact(one b i).alt (c y s)
 .rename_i b i s
  cases h;exact one b i
 .rename_i i
  exact c x h
theorem ye(G:GoodO X κ T k sc N){o:Expr}{m:Str}{es:List Expr}{z:EM}{A:AM}{p1 p2:Pos}{Φ:fm}{x:EM}(c:dZ o=true)(d:(p1.endLine==p2.line)=true)(a:es.length<20)(i:bu X κ Φ o z)(j:dj f es=some A)(l:∀e m,f e=some m->lF X κ e m)
  (h:kg T m es.length z A=some x):bu X κ Φ (.Call (.Attribute o m p1) es [] p2) x:=by
 unfold kg at h;split at h
 .rename_i y B
  have p:=yd (p1:=p1) (p2:=p2) G c d a i j l B;split at h
  .rename_i b
   simp only[Bool.and_eq_true,beq_iff_eq]at b;obtain⟨rfl,n⟩:=b;cases h;refine p.alt ?_;obtain⟨q,s⟩:=bY l j
   match es,n with
   |[e],_=>exact gG PySem.F.plainAttrs_str PySem.F.slot_str_index PySem.F.type_str_index vc (λx v t Z u H S r h=>tL S r h) (λx v C D t Z u H Q S r w g=>Bf S r w g) (dr c) d i (q Φ) s (by simp)
  .split at h
   .rename_i b
    simp only[Bool.and_eq_true,beq_iff_eq]at b;obtain⟨rfl,n⟩:=b;cases h;refine p.alt ?_;obtain⟨q,s⟩:=bY l j
    match es,n with
    |[e],_=>exact gG PySem.F.plainAttrs_dict PySem.F.slot_dict_pop PySem.F.type_dict_pop Bg (λx v t Z u H S r h=>Bh S r h) (λx v C D t Z u H Q S r w g=>Bi S r w g) (dr c) d i (q Φ) s (by simp)
   .cases h;exact p
 .cases h
theorem yf(G:GoodO X κ T k sc N)(q:∀e m,f e=some m->lF X κ e m){x:Str}{args:List Expr}{m:EM}{p pos:Pos}(h:ow T sc f x args=some m):lF X κ (.Call (.Name x p) args [] pos) m:=by
 refine bT (λr=>?_) rfl (λ_=>rfl)
 unfold ow at h;split at h
 .rename_i u
  simp only[Bool.and_eq_true]at u;obtain⟨s,D,E⟩:=tw u.2;have n:=G.gl u.1;split at h
  .rename_i F o
   obtain⟨t,d,rfl⟩:=cK h;obtain⟨i,c⟩:=bY q d;cases args with
   |nil=>cases d;exact vv (G.fn x F o) G.room n s
   |cons a args=>exact xV (G.fn x F o) G.room n s (cy (c a (by simp))) (cI λz l=>c z (by simp[l])) (i r)
  .rename_i F _ o
   split at h
   .cases h
   .rename_i g
    obtain⟨t,d,rfl⟩:=cK h;obtain⟨i,c⟩:=bY q d;cases args with
    |nil=>exact absurd rfl g
    |cons a args=>exact vg (G.lY x F o) G.room n s (cy (c a (by simp))) (cI λz l=>c z (by simp[l])) (i r)
  .rename_i F _ _ o
   obtain⟨t,d,rfl⟩:=cK h;obtain⟨i,c⟩:=bY q d;obtain⟨j,w,M⟩:=G.cls x F o;cases args with
   |nil=>cases d;exact xY M (G.room.mono w) n s
   |cons a args=>exact Bc M (G.room.mono w) n s (cy (c a (by simp))) (cI λz l=>c z (by simp[l])) (i r)
  .rename_i b _ _ _ y
   split at h
   .cases h
   .rename_i g
    obtain⟨t,d,rfl⟩:=cK h;obtain⟨i,c⟩:=bY q d;obtain⟨rfl,A,B⟩:=Bj y;cases args with
    |nil=>exact absurd rfl g
    |cons a args=>exact AQ G.calm A n (G.fh _ B) (cy (c a (by simp))) (cI λz l=>c z (by simp[l])) (i r)
  .split at h
   .rename_i C
    obtain rfl:=eq_of_beq C;split at h
    .cases h
    .rename_i g
     obtain⟨t,d,rfl⟩:=cK h;obtain⟨i,c⟩:=bY q d;cases args with
     |nil=>exact absurd rfl g
     |cons a args=>exact xG G.calm n (G.fh _ (by decide)) (cy (c a (by simp))) (cI λz l=>c z (by simp[l])) (i r)
   .cases h
 .cases h
theorem yg(G:GoodO X κ T k sc N)(b:∀e m,f e=some m->lF X κ e m){x:Str}{args:List Expr}{m:EM}{p pos:Pos}(h:kh T sc N f x args=some m):lF X κ (.Call (.Name x p) args [] pos) m:=by
 unfold kh at h;cases a:mM sc N x with
 |none=>rw[a]at h;exact yf G b h
 |some i=>
  rw[a]at h;cases h
theorem Bm(G:GoodO X κ T k sc N)(d:∀e m,f e=some m->lF X κ e m){x:Str}{args:List Expr}{m:EM}{p pos:Pos}(h:qm sc f x args=some m):lF X κ (.Call (.Name x p) args [] pos) m:=by
 unfold qm at h;split at h
 .rename_i b
  simp only[Bool.and_eq_true,beq_iff_eq]at b;obtain⟨rfl,g⟩:=b;split at h
  .rename_i a i j l
   obtain⟨rfl,n,o⟩:=vB l;obtain⟨q,r,rfl⟩:=cK h;obtain⟨s,_,t⟩:=d a q r;exact bT (λu=>AR (G.gl g) (G.fh _ (by decide)) (G.gl n) (G.fh _ o) (cy t) (cI (es:=[Expr.Name i.nm j]) λz c=>by simp at c;subst c;rfl) (s u)) rfl (λ_=>rfl)
  .cases h
 .cases h
theorem yh{s:Expr}{p1 p2:Pos}{a:Expr}{m:EM}{Φ:fm}(t:dZ a=true)(w:(p1.endLine==p2.line)=true)(e:bu X κ Φ a m) :
  vS X κ Φ s (.Call (.Attribute a "values" p1) [] [] p2) (mV m):=by
 intro l y z A B;refine PI.imp (AV (dr t) w (e l y z A B)) ?_;rintro L H R ⟨C,Z,S,g⟩;refine⟨C,Z,S,qP.use g λx D _ v M E N O h p f=>?_⟩
 unfold valOf at f;split at f
 .rename_i k
  simp only[ao]at p;obtain⟨a,e,rfl⟩:=p;split at f
  .rename_i i n
   obtain⟨F,d,b,j,r⟩:=h.cell n;rw[e]at d;cases d
   refine⟨a,b,rfl,.inl ⟨j,λo=>?_⟩⟩
   obtain⟨G,I⟩:=h.put (c:=.dF i) (o:=.dg o (.dK b)) e (λo u q=>by rw[j]at q;cases q) λR J=>⟨o,b,aR,r.imp J⟩
   exact f _ _ _ _ I G (p_ e aR)
  .rename_i i n
   obtain⟨F,d,K,b,j,r⟩:=h.cell n;rw[e]at d;cases d
   exact⟨a,b,rfl,.inr ⟨K,j,f _ _ _ _ (cv.refl h.has) h (p_ e j)⟩⟩
  .exact f.elim
 .exact f.elim
theorem ox(G:GoodO X κ T k sc N)(b:∀e m,f e=some m->lF X κ e m){iter:Expr}{mi:IM}(h:iP f sc iter=some mi):∀Φ c,vS X κ Φ c iter mi:=by
 intro Φ c
 have dflt:∀{mi},(f iter).map bG=some mi->vS X κ Φ c iter mi:=λ{mi} h=>by
  obtain⟨m,d,rfl⟩:=cK h;exact AX ((b iter m d).1 Φ)
 unfold iP at h;split at h
 .rename_i g p args j
  split at h
  .rename_i l
   obtain rfl:=eq_of_beq l;split at h
   .rename_i n
    split at h
    .rename_i a
     obtain⟨w,d,rfl⟩:=cK h;obtain⟨q,r⟩:=bY b d;exact xK (G.gl n) (G.fh _ (by decide)) (q Φ) (by rw[cy (r a (by simp))];rfl)
    .cases h
   .cases h
  .exact dflt h
 .rename_i o x y z
  split at h
  .rename_i i
   simp only[Bool.and_eq_true,beq_iff_eq]at i;obtain⟨⟨rfl,s⟩,t⟩:=i;obtain⟨u,e,rfl⟩:=cK h;exact yh t (by simpa using s) ((b o u e).1 Φ)
  .exact dflt h
 .exact dflt h
end
section
variable{X:Cx}{κ:Str->Addr->Prop}{Φ:fm}{o:Expr}{mo:EM}{pos tpos cpos:Pos}
def mX(Cs:List Str)(f:Str)(d:EM)(n:Int):SM:=λc e=>cu (d c e) λx a=>match ot a x with
 |some (k,C,b)=>if Cs.contains C&&decide (b.length<1000)then (match b.lookup f with
  |some (.int i)=>.nx c (a.set k (.ins C (iL f (.int (i+n)) b)))
  |_=>.bad)else .bad
 |none=>.bad
theorem yi{f:Str}{Cs:List Str}{n:Int}{j:Nat}(A:ie X.K κ Cs f)(B:bu X κ Φ o mo):oq X κ Φ (.AugAssign (.Attribute o f tpos) .Add (.Constant (.int n) j cpos) pos) (mX Cs f mo n):=by
 intro l D F G I;refine PS.imp (uM (B l D F G I) vX DC) ?_;rintro E J H ⟨L,Z,S,f⟩;refine⟨L,Z,S,ew.use S f λx M w N e s _ g2 m O b=>?_⟩
 split at b
 .rename_i k C P Q
  obtain⟨a,g,h,d,rfl,rfl,T,t,p,q⟩:=gJ m.st O Q;split at b
  .rename_i r
   simp only[Bool.and_eq_true,decide_eq_true_eq]at r;obtain⟨U,V⟩:=A C g r.1 t;split at b
   .rename_i i Y
    obtain⟨v,hv,y⟩:=(fR q).1 _ Y;simp only[ao]at y;subst y;have ry:ao e s N (.int (i+n)) (.int (i+n)):=by simp only[ao]
    obtain⟨s3,g3⟩:=m.st.put (o:=.ins g h (fb _ (.int (i+n)) d)) (c:=.ins C (iL _ (.int (i+n)) P)) T (λo u z=>by rw[p]at z;cases z) λR hR=>⟨g,h,_,t,aR,(qh ry q).imp hR⟩
    exact⟨a,g,h,d,.int i,rfl,p,U,V,hv,i,n,rfl,rfl,h,d,p,by rw[fy.length q];exact r.2,b J _ e s (m.grow g3 s3)⟩
   .exact b.elim
  .exact b.elim
 .exact b.elim
def tU(a:Expr)(op:Operator)(v:Expr):Option (Expr×Str×Int):=match a,op,v with
 |.Attribute o f _,.Add,.Constant (.int n) _ _=>some (o,f,n)
 |_,_,_=>none
theorem vD{a v:Expr}{op:Operator}{f:Str}{n:Int}(h:tU a op v=some (o,f,n)):∃p j q,a=.Attribute o f p/\op=.Add/\v=.Constant (.int n) j q:=by
 unfold tU at h;split at h
 .cases h;exact⟨_,_,_,rfl,rfl,rfl⟩
 .cases h
end
section
variable{κ:Str->Addr->Prop}{T:aN}{k:Nat}
theorem Bn{X:Cx}{sc:Scope}{N:List Str}(G:GoodO X κ T k sc N){scope:Scope}{x:Str}{cap:List Nat}(e:xm scope sc x=true)(l:rG sc N (dC scope)=some cap) :
  jD X scope [x] (dC scope) cap/\scope.names.lookup x=some .local/\([x]++dC scope).Nodup:=by
 simp only[xm,Bool.and_eq_true,decide_eq_true_eq,List.all_eq_true,Bool.not_eq_true',beq_iff_eq,Bool.or_eq_true]at e;obtain⟨⟨⟨⟨⟨m,n⟩,o⟩,p⟩,r⟩,s⟩:=e;obtain⟨t,u⟩:=xo l
 have f:∀y∈scope.names,y.2=.free->(sc.names.lookup y.1=some .cell\/sc.names.lookup y.1=some .free)/\scope.names.lookup y.1=some .free:=λy a b=>by
  rcases p y a with q|q
  .rw[b]at q;exact absurd q (by decide)
  .exact q
 refine⟨⟨m,λy a b=>?_,λy a b=>?_,λy a b=>?_,t,λj i z g w=>?_⟩,r,s⟩
 .have:=n y a
  rw[b]at this;exact absurd this (by decide)
 .rcases o y a with q|q
  .rw[b]at q;exact absurd q (by decide)
  .exact q
 .have:=(f y a b).1
  show X.env.scope.names.lookup y.1=_\/X.env.scope.names.lookup y.1=_
  rw[G.scope];exact this
 .refine⟨by rw[G.names];exact u j i z g w,?_⟩
  have h:z∈dC scope:=List.mem_of_getElem? g;unfold dC at h;obtain⟨y,a,rfl⟩:=List.mem_map.mp h;obtain⟨c,d⟩:=List.mem_filter.mp a;exact(f y c (by simpa using d)).2
theorem lG{T:aN}{sc:Scope}{N:List Str}{n:Nat}{a:Expr}{gens:List Comprehension}{scope:Scope}{pos:Pos}{m:EM}{P:Prop}(d:kU gens=none)(h:cB T (n+1) sc N (.ListComp a gens scope pos)=some m):P:=by
 replace h:(match kU gens with
   |some (x,_,iter,b)=>if (xm scope sc x&&!isSet iter)=true then (match rG sc N (dC scope),iP (cB T n sc N) sc iter,cB T n (rF scope sc) (x::dC scope) a,ya (cB T n (rF scope sc) (x::dC scope)) b with
    |some c,some e,some f,some (g,i)=>some (cJ f g i e 0 c)
    |_,_,_,_=>none)else none
   |none=>none)=some m:=h
 rw[d]at h;cases h
theorem jJ{n:Nat}(l:∀(X:Cx) (sc:Scope) (N:List Str) (e:Expr) (m:EM),GoodO X κ T k sc N->cB T n sc N e=some m->lF X κ e m){X:Cx}{sc:Scope}{N:List Str}(G:GoodO X κ T k sc N){scope:Scope}{x:Str}{iter g:Expr}{f:List Expr}{p pos:Pos}{m:EM}
  (h:cB T (n+1) sc N (.ListComp g [⟨.Name x p,iter,f,0⟩] scope pos)=some m):∃me nc mc mi cap,m=cJ me nc mc mi 0 cap/\jD X scope [x] (dC scope) cap/\scope.names.lookup x=some .local/\([x]++dC scope).Nodup /\
   (∀z,foldedSetIterable iter X.env z=pure z)/\(∀Φ,vS X κ Φ (.Name x p) iter mi) /\
   ∀j C b d fp,((f=[]/\nc=true)\/∃c,f=[c]/\nc=false/\gg (blk X scope j C ([x]++dC scope) b d fp) κ qQ c mc)/\bu (blk X scope j C ([x]++dC scope) b d fp) κ qQ g me:=by
 replace h:(if (xm scope sc x&&!isSet iter)=true then (match rG sc N (dC scope),iP (cB T n sc N) sc iter,cB T n (rF scope sc) (x::dC scope) g,ya (cB T n (rF scope sc) (x::dC scope)) f with
    |some cap,some mi,some me,some (nc,mc)=>some (cJ me nc mc mi 0 cap)
    |_,_,_,_=>none)else none)=some m:=h
 split at h
 .rename_i o
  simp only[Bool.and_eq_true,Bool.not_eq_true']at o;split at h
  .rename_i cap mi me nc mc s t u i
   cases h;obtain⟨w,y,A⟩:=Bn G o.1 s;refine⟨me,nc,mc,mi,cap,rfl,w,y,A,kW o.2,λΦ=>ox G (l X sc N · · G) t Φ _,λj C b d fp=>?_⟩
   have q:=G.blk scope j C ([x]++dC scope) b d fp;refine⟨?_,(l _ _ _ g me q u).1 qQ⟩
   match f,i with
   |[],i=>cases i;exact .inl ⟨rfl,rfl⟩
   |[r],i=>
    obtain⟨a,B,D⟩:=cK i;cases D;exact .inr ⟨r,rfl,rfl,(l _ _ _ r mc q B).2.1 qQ⟩
  .cases h
 .cases h
theorem r_:∀(n:Nat) (X:Cx) (sc:Scope) (N:List Str) (e:Expr) (m:EM),GoodO X κ T k sc N->cB T n sc N e=some m->lF X κ e m:=by
 intro n
 induction n with
 |zero=>intro X sc N e m G h;cases h
 |succ n U=>
  intro X sc N e m G h;have g:∀e m,cB T n sc N e=some m->lF X κ e m:=λe m q=>U X sc N e m G q
  cases e with
  |Name x pos=>exact yc G h
  |Constant c j pos=>exact vC h
  |BinOp a op b pos=>
   obtain⟨w,B,l,u,rfl⟩:=bJ h;exact bT (λd=>Ao ((g a w l).1 d) ((g b B u).1 d)) rfl (λ_=>rfl)
  |UnaryOp op a pos=>
   cases op with
   |USub=>
    obtain⟨w,l,rfl⟩:=cK h;exact bT (λd=>Ap ((g a w l).1 d)) rfl (λ_=>rfl)
   |Not=>
    obtain⟨w,l,rfl⟩:=cK h;exact⟨λd=>Az ((g a w l).1 d),λd=>AA ((g a w l).2.1 d),rfl⟩
   |_=>cases h
  |BoolOp op D pos=>
   match D,h with
   |a::b::r,h=>
    obtain⟨Y,Z⟩:=qo (pos:=pos) g (show iO (cB T n sc N) op (a::b::r)=some m from h)
    exact⟨Y,λd=>(Z d).pt,rfl⟩
   |[_],h=>cases h
   |[],h=>cases h
  |Compare a M cs pos=>
   match M,cs,h with
   |[op],[b],h=>
    replace h:(if isSet b=true then none else o2 (cB T n sc N a) (cB T n sc N b) (m2 (aB op)))=some m:=h
    split at h
    .cases h
    .rename_i O
     obtain⟨w,B,l,u,rfl⟩:=bJ h;have E:=pK (op:=op) (b:=b) (by simpa using O)
     exact⟨λd=>(tH G.hu E ((g a w l).1 d) ((g b B u).1 d)).1,λd=>(tH G.hu E ((g a w l).1 d) ((g b B u).1 d)).2,rfl⟩
   |[op,C],[b,J],h=>
    replace h:(if isSet J=true then none else o2 (cB T n sc N a) (o2 (cB T n sc N b) (cB T n sc N J) Prod.mk) λx y=>kZ op C x y.1 y.2)=some m:=h
    split at h
    .cases h
    .rename_i O
     obtain⟨w,a0,l,z,rfl⟩:=bJ h;obtain⟨B,mc,u,A,rfl⟩:=bJ z;have E:lastMarks [op,C] [b,J]=false:=pK (op:=C) (b:=J) (by simpa using O)
     exact⟨λd=>AG G.hu E ((g _ _ l).1 d) ((g _ _ u).1 d) ((g _ _ A).1 d),λd=>AH G.hu E ((g _ _ l).1 d) ((g _ _ u).1 d) ((g _ _ A).1 d),rfl⟩
   |[],_,h=>cases h
   |[_],[],h=>cases h
   |[_],_::_::_,h=>cases h
   |[_,_],[],h=>cases h
   |[_,_],[_],h=>cases h
   |[_,_],_::_::_::_,h=>cases h
   |_::_::_::_,[],h=>cases h
   |_::_::_::_,[_],h=>cases h
   |_::_::_::_,_::_::_,h=>cases h
  |IfExp t a b pos=>
   obtain⟨mt,b0,l,z,rfl⟩:=bJ h;obtain⟨w,B,u,A,rfl⟩:=bJ z;exact⟨λd=>AE ((g _ _ l).2.1 d) ((g _ _ u).1 d) ((g _ _ A).1 d),λd=>AF ((g _ _ l).2.1 d) ((g _ _ u).2.1 d) ((g _ _ A).2.1 d),rfl⟩
  |Subscript a s pos=>
   have P:∀b,isSlice b=false->o2 (cB T n sc N a) (cB T n sc N b) (m2 aC)=some m->lF X κ (.Subscript a b pos) m:=λb Q h=>by
    obtain⟨w,B,l,u,rfl⟩:=bJ h;refine bT (λd=>Au (by have:=G.hu;omega) (λo i=>?_) ((g _ _ l).1 d) ((g _ _ u).1 d)) rfl (λ_=>rfl)
    cases b<;>first|rfl | (cases Q)
   cases s with
   |Slice lo F st p2=>
    cases st with
    |none=>
     obtain⟨w,c0,l,z,rfl⟩:=bJ h;obtain⟨⟨nl,ml⟩,⟨nh,mh⟩,u,A,rfl⟩:=bJ z;exact bT (λd=>Aw ((g _ _ l).1 d) (qq g u) (qq g A)) rfl (λ_=>rfl)
    |some e=>
     cases lo with
     |none=>
      cases F with
      |none=>
       exact nomatch (show(none:Option EM)=some m from h)
      |some _=>exact nomatch (show(none:Option EM)=some m from h)
     |some _=>exact nomatch (show(none:Option EM)=some m from h)
   |_=>exact P _ rfl h
  |List es pos=>
   obtain⟨K,l,rfl⟩:=cK h;exact bT (λd=>Am ((bY g l).1 d)) rfl (λ_=>rfl)
  |Tuple es j pos=>
   obtain⟨K,l,rfl⟩:=cK h;exact bT (λd=>An ((bY g l).1 d)) rfl (λ_=>rfl)
  |Attribute o f pos=>
   replace h:(if dZ o=true then o2 (T.fld.lookup f) (cB T n sc N o) λR m=>m1 (aZ R f) m else none)=some m:=h
   split at h
   .rename_i Q
    obtain⟨R,H,l,u,rfl⟩:=bJ h;exact bT (λd=>Bb (G.fld f R l) (dr Q) ((g o H u).1 d)) rfl (λ_=>rfl)
   .cases h
  |Call f args I pos=>
   cases f with
   |Name x p=>
    cases I with
    |nil=>
     replace h:(match qm sc (cB T n sc N) x args with|some m=>some m|none=>kh T sc N (cB T n sc N) x args)=some m:=h
     cases F:qm sc (cB T n sc N) x args with
     |some m'=>
      rw[F]at h;cases h;exact Bm G g F
     |none=>
      rw[F]at h;exact yg G g h
    |cons _ _=>cases h
   |Attribute o mm p1=>
    cases I with
    |nil=>
     replace h:(if (p1.endLine==pos.line&&dZ o&&decide (args.length<20))=true then (match cB T n sc N o,dj (cB T n sc N) args with
   |some H,some K=>kg T mm args.length H K
   |_,_=>none)else none)=some m:=h
     split at h
     .rename_i L
      simp only[Bool.and_eq_true,decide_eq_true_eq]at L;split at h
      .rename_i H K l u
       exact bT (λd=>ye G L.1.2 L.1.1 L.2 ((g o H l).1 d) u g h) rfl (λ_=>rfl)
      .cases h
     .cases h
    |cons _ _=>cases h
   |_=>cases h
  |ListComp e0 gens scope pos=>
   cases V:kU gens with
   |none=>exact lG V h
   |some q=>
    obtain⟨x,px,iter,f0⟩:=q;obtain rfl:=mO V;obtain⟨me,nc,mc,mi,g0,rfl,b1,b2,b3,b4,b5,b6⟩:=jJ (λX sc N e m G q=>U X sc N e m G q) G h
    exact bT (λd=>xM G.calm b1 b4 (b5 d) b2 b3 b6) rfl (λ_=>rfl)
  |Dict S D pos=>
   replace h:(if emptyDict S D=true then some br else (match Bk S D with
   |some (k,v)=>o2 (cB T n sc N k) (cB T n sc N v) eZ
   |none=>none))=some m:=h
   split at h
   .rename_i hd
    cases h
    match S,D,hd with
    |[],[],_=>exact bT (λd=>vy) rfl (λ_=>rfl)
   .split at h
    .rename_i k0 v0 l
     obtain⟨rfl,rfl⟩:=yb l;obtain⟨mk,mv,u,A,rfl⟩:=bJ h;exact bT (λd=>rW (by have:=G.hu;omega) ((g _ _ u).1 d) ((g _ _ A).1 d)) rfl (λ_=>rfl)
    .cases h
  |_=>cases h
end
structure gK(X:Cx)(κ:Str->Addr->Prop)(T:aN)(k:Nat)(sc:Scope)(N:List Str):Prop extends GoodO X κ T k sc N where
 own:PassesOwn (model X.prog X.w) X.A X.env X.xe
 R9:∀x,xk sc x=true->T.fz.contains x=false->(X.fn x=true\/X.env.scope.names.lookup x=some .local)
 rK:N.Nodup
 kind:sc.kind=.function
 Dk:T.xt=false->∀e s,¬ X.xe e s
def fD(f:Stmt->Option SM):List Stmt->Option SM
 |[]=>some aj
 |s::r=>o2 (f s) (fD f r) ak
def oy(f:Expr->Option EM)(sc:Scope)(iter:Expr):Option IM:=match iter with
 |.Call (.Name g _) [a] [] _=>if g==("enumerate":Str)then (if Ad sc g then (f a).map vq else none)else iP f sc iter
 |_=>iP f sc iter
noncomputable def Ee:Expr->Bool
 |.Dict [] [] _=>true
 |_=>false
theorem yj{e:Expr}(h:Ee e=true):∃p,e=.Dict [] [] p:=by
 unfold Ee at h;split at h
 .exact⟨_,rfl⟩
 .cases h
def lH(T:aN)(sc:Scope)(N:List Str)(x:Str):Option Nat:=if T.fz.contains x then none else pL sc N x
def lI(T:aN)(sc:Scope)(N:List Str)(nms:List (Str×Pos)):Option (List Nat):=if nms.any (λy=>T.fz.contains y.1)then none else kX sc N nms
def sd(T:aN)(td:List Str)(k:Nat)(sc:Scope)(N:List Str)(x:Str)(a:Pos)(e:Expr)(pos:Pos):Option SM:=match lH T sc N x with
   |some i=>if td.contains x&&Ee e then some (aH i Ec)else (match cB T k sc N e with
    |some m=>if pM sc x a e then (if pos.line==a.line then some (aH i m)else none)else some (aH i m)
    |none=>none)
   |none=>none
def sg(T:aN)(k:Nat)(sc:Scope)(N:List Str)(es:List Expr)(e:Expr):Option SM:=match eJ es with
   |some nms=>match lI T sc N nms,cB T k sc N e with
    |some a,some m=>if xp e then some (xN a m)else none
    |_,_=>none
   |none=>none
def jW(T:aN)(td:List Str)(k:Nat)(sc:Scope)(N:List Str):Nat->Stmt->Option SM
 |0,_=>none
 |n+1,st=>match st with
  |.Return none _=>some qf
  |.Return (some e) _=>some (match cB T k sc N e with
   |some m=>bD m
   |none=>bA)
  |.Assign [.Name x g] e pos=>sd T td k sc N x g e pos
  |.Assign [.Tuple es _ _] e _=>sg T k sc N es e
  |.Assign [.Attribute o f _] e _=>if dZ o&&!ic e then o2 (T.fld.lookup f) (o2 (cB T k sc N o) (cB T k sc N e) Prod.mk) λCs y=>bf Cs f y.1 y.2 else none
  |.Assign [.Subscript o i _] e _=>if isSlice i||ic e then none else o2 (cB T k sc N o) (o2 (cB T k sc N i) (cB T k sc N e) Prod.mk) λx y=>cQ x y.1 y.2
  |.Expr e _=>if ic e then none else (cB T k sc N e).map cA
  |.If c a b _=>o2 (cB T k sc N c) (o2 (fD (jW T td k sc N n) a) (fD (jW T td k sc N n) b) Prod.mk) λx y=>dG x y.1 y.2
  |.While c b [] _=>o2 (cB T k sc N c) (fD (jW T td k sc N n) b) rT
  |.For (.Name x _) d b [] _=>if isSet d then none else o2 (lH T sc N x) (o2 (iP (cB T k sc N) sc d) (fD (jW T td k sc N n) b) Prod.mk) λi y=>ek (cP i) y.1 y.2
  |.For (.Tuple es _ _) d b [] _=>if isSet d then none else match eJ es with
   |some nms=>o2 (lI T sc N nms) (o2 (oy (cB T k sc N) sc d) (fD (jW T td k sc N n) b) Prod.mk) λh y=>ek (iK h) y.1 y.2
   |none=>none
  |.Raise _ _ _=>some bA
  |.AugAssign tg l v _=>(match tU tg l v with
   |some (o,f,j)=>o2 (T.fld.lookup f) (cB T k sc N o) λCs m=>mX Cs f m j
   |none=>none)
  |.Try b (_::_) [] [] _=>if T.xt then none else fD (jW T td k sc N n) b
  |_=>none
section
variable{X:Cx}{κ:Str->Addr->Prop}{Φ:fm}{T:aN}{td:List Str}{k:Nat}{sc:Scope}{N:List Str}{α α' hZ α1:List Addr}{Z Z' Z0 Z1:Addr->Prop}{Ω au:az}{H H' H0 H1:Hp}
theorem Bo{es:List Expr}{x1:Nat}{j p pos:Pos}{a:Expr}{m:EM}(hg:Gl X "enumerate")(hm:X.mg "enumerate"=none)(O:starEach [a] X.env=[(false,eval a X.env)])(ha:bu X κ Φ a m) :
  vS X κ Φ (.Tuple es x1 j) (.Call (.Name "enumerate" p) [a] [] pos) (vq m):=by
 intro r Z0 H0 ρ Ω;refine PI.imp (z9 hg hm (gQ (ha r Z0 H0 ρ Ω) rf O) O) ?_;rintro σ H R ⟨α,Z,S,g⟩;refine⟨α,Z,S,qP.use g λx s _ v H1 t Z1 g1 l P n=>?_⟩
 have u:∀{b:List Addr}{h:Addr->Prop}{c:az}{f:Hp}{i:Nat}{v:V}{q:D},bF κ b h c f->ao b h f q v->∀p,f p=none->∃z,cv b h f b z (upd f p (.tup [.int i,v]))/\bF κ b z c (upd f p (.tup [.int i,v]))/\ao b z (upd f p (.tup [.int i,v])) (.tup [.int (0+i:Nat),q]) (.ref p):=λ{b h c f i v q} k A p B=>by
  obtain⟨Q,C⟩:=k.xv (p:=p) (o:=.tup [.int i,v]) B True;simp only[if_true]at Q C;refine⟨Zp h p,C,Q,?_⟩;simp only[ao];refine⟨p,_,rfl,.inr rfl,aR,cz.mpr (.cons ?_ (.one (k.c_ C A)))⟩;simp only[ao];simp
 cases E:dh s x with
 |none=>simp only[E]at n;exact n.elim
 |some a0=>
  simp only[E]at n;have F:=P;obtain⟨a,G,rfl,q1,q2⟩:=ck l P E;refine⟨a,rfl,⟨G,kK q1⟩,n _ H1 t Z1 (cv.refl l.has) l ?_⟩;intro b h c f ds g2 k I;obtain⟨J,h2,rfl⟩:=cK I;have r2:=l.c_ g2 F;obtain⟨a',K,e,L,T⟩:=ck k r2 h2;cases e;refine⟨λi d hd=>?_,λi U=>by rw[nW]at U;exact⟨K,kK L,by rw[T.length];exact U⟩⟩
  obtain⟨q,M,rfl⟩:=nX J 0 i d hd;obtain⟨v,Y,A⟩:=T.get M;refine⟨⟨K,v,kK L,Y⟩,λy H3 N=>?_⟩
  obtain⟨p,rfl,B,N⟩:=N;obtain⟨w,hw,rfl⟩:=N K (kK L);rw[Y]at hw;cases hw
  exact u k A p B
theorem Bp{body:List Stmt}{d:ExceptHandler}{g:List ExceptHandler}{pos:Pos}{b:SM}(i:∀e s,¬ X.xe e s)(j:mq X κ Φ body b):oq X κ Φ (.Try body (d::g) [] [] pos) b:=by
 intro a k l m n pins s o H D I h;refine wpAny_Try_except (wpAny_mono (j a k l m n pins s o H D I h) (λf c q=>?_) λe c q=>absurd q (i e c))
 cases f with
 |next=>exact wpAny_execs_nil q
 |_=>exact q
theorem Bq(G:GoodO X κ T k sc N){f:Expr->Option EM}(b:∀e m,f e=some m->lF X κ e m){iter:Expr}{mi:IM}(h:oy f sc iter=some mi){es:List Expr}{j:Nat}{c:Pos}:∀Φ,vS X κ Φ (.Tuple es j c) iter mi:=by
 intro Φ;unfold oy at h;split at h
 .rename_i g p a d
  split at h
  .rename_i i
   obtain rfl:=eq_of_beq i;split at h
   .rename_i l
    obtain⟨n,e,rfl⟩:=cK h;obtain⟨o,_,q⟩:=b a n e;exact Bo (G.gl l) (G.fh _ (by decide)) (by rw[cy q];rfl) (o Φ)
   .cases h
  .exact ox G b h Φ _
 .exact ox G b h Φ _
theorem vF(G:gK X κ T k sc N){x:Str}{i:Nat}(h:pL sc N x=some i):X.N[i]?=some x/\Loc X.env.scope x:=by
 unfold pL at h;split at h
 .rename_i b
  simp only[Bool.and_eq_true]at b;refine⟨by rw[G.names];exact xn h,?_⟩
  rw[G.scope];have a:=b.1;unfold xk at a;unfold L2.Loc;split at a
  .rename_i q;exact .inl q
  .rename_i q;exact .inr q
  .cases a
 .cases h
theorem lJ{f:Stmt->Option SM}(e:∀s c,f s=some c->oq X κ Φ s c):∀{d:List Stmt}{c:SM},fD f d=some c->mq X κ Φ d c
 |[],c,h=>by cases h;exact A8
 |s::d,c,h=>by
  obtain⟨a,b,h1,h2,rfl⟩:=bJ h;exact xO (e s a h1) (lJ e h2)
theorem gY(G:gK X κ T k sc N){x:Str}{i:Nat}(h:lH T sc N x=some i):X.N[i]?=some x/\Loc X.env.scope x/\(X.fn x=true\/X.env.scope.names.lookup x=some .local):=by
 unfold lH at h;split at h
 .cases h
 .rename_i d
  obtain⟨a,b⟩:=vF G h;refine⟨a,b,G.R9 x ?_ (by simpa using d)⟩
  unfold pL at h;split at h
  .rename_i c;simp only[Bool.and_eq_true]at c;exact c.1
  .cases h
theorem lK(G:gK X κ T k sc N):∀{nms:List (Str×Pos)}{a:List Nat},(∀y∈nms,T.fz.contains y.1=false)->kX sc N nms=some a->a.length=nms.length/\∀(j i:Nat) (x:Str×Pos),a[j]?=some i->nms[j]?=some x->X.N[i]?=some x.1/\Loc X.env.scope x.1/\(X.fn x.1=true\/X.env.scope.names.lookup x.1=some .local)
 |[],a,_,h=>by cases h;exact⟨rfl,λj i x e=>by simp at e⟩
 |x::xs,a,d,h=>by
  simp only[kX,Option.bind_eq_bind]at h;obtain⟨i,h1,h⟩:=Option.bind_eq_some_iff.mp h;obtain⟨f,g,h⟩:=Option.bind_eq_some_iff.mp h;cases h;obtain⟨l,m⟩:=lK G (λy n=>d y (by simp[n])) g
  refine⟨by rw[List.length_cons,List.length_cons,l],λj o y b c=>?_⟩
  cases j with
  |zero=>
   simp at b c;subst b c
   exact gY G (by unfold lH;rw[if_neg (by rw[d x (by simp)];simp)];exact h1)
  |succ j=>exact m j o y (by simpa using b) (by simpa using c)
theorem qr(G:gK X κ T k sc N){es:List Expr}{j:Nat}{p:Pos}{nms:List (Str×Pos)}{a:List Nat}(e:eJ es=some nms)(c:lI T sc N nms=some a):PG X (.Tuple es j p) (zu X.K a.length (jn a)):=by
 obtain rfl:=jF e
 have b:(∀y∈nms,T.fz.contains y.1=false)/\kX sc N nms=some a:=by
  unfold lI at c;split at c
  .cases c
  .rename_i f
   refine⟨λy g=>?_,c⟩
   cases q:T.fz.contains y.1 with
   |false=>rfl
   |true=>exact absurd (List.any_eq_true.mpr ⟨y,g,q⟩) f
 obtain⟨d,h⟩:=lK G b.1 b.2;obtain⟨i,l⟩:=mP X.env nms;exact Dm G.calm (mL (nms:=nms) (by rw[G.names];exact G.rK) a nms d h) (by rw[i,d]) l
theorem qu{a:Expr}{gens:List Comprehension}{scope:Scope}{p b:Pos}{x:Str}{l:Nat}(G:gK X κ T k sc N) :
  swapsWith (.ListComp a gens scope p) (some (.Name x b)) l X.env=pure (pM sc x b (.ListComp a gens scope p)):=by
 have c:X.env.blockKind=.function:=by
  show(if X.env.scope.kind.isAnnotationScope=true then ScopeKind.function else X.env.scope.kind)=_
  rw[G.scope,G.kind];rfl
 show pure (X.env.blockKind==.function&&X.env.kindOf x==some .local&&b.line==p.line&&!(scope.names.any λ(n,k)=>n==x&&(k==.local||k==.cell)))=_
 rw[c]
 show pure (true&&X.env.scope.names.lookup x==some .local&&b.line==p.line&&!(scope.names.any λ(n,k)=>n==x&&(k==.local||k==.cell)))=_
 rw[G.scope];rfl
theorem tV(G:gK X κ T k sc N){n i:Nat}{x:Str}{a pos:Pos}{e:Expr}{m:EM}(j:lH T sc N x=some i)(h:cB T n sc N e=some m)(l:pM sc x a e=true->pos.line=a.line):oq X κ Φ (.Assign [.Name x a] e pos) (aH i m):=by
 obtain⟨d,o,r⟩:=gY G j;have f:X.N.Nodup:=by rw[G.names];exact G.rK
 have E:=r_ n X sc N e m G.toGoodO h;have plain:swapsWith e (some (.Name x a)) pos.line X.env=pure false->oq X κ Φ (.Assign [.Name x a] e pos) (aH i m):=λq=>tP f d o r q (E.1 Φ)
 cases e with
 |ListComp c gens scope p=>
  cases b:pM sc x a (.ListComp c gens scope p)with
  |false=>exact plain (by rw[qu G,b])
  |true=>
   cases n with
   |zero=>cases h
   |succ n=>
   cases g:kU gens with
   |none=>exact lG g h
   |some q=>
    obtain⟨y,D,iter,s⟩:=q;obtain rfl:=mO g;obtain⟨F,H,I,J,cap,rfl,t,u,w,z,A,B⟩:=jJ (λX sc N e m G q=>r_ n X sc N e m G q) G.toGoodO h
    have C:X.env.scope.names.lookup x=some .local:=by
     rw[G.scope];unfold pM at b;simp only[Bool.and_eq_true,beq_iff_eq]at b;exact b.1.1
    exact xQ f d C (by rw[qu G,b]) G.calm t z (jE 1 (by decide)) (ly (cap:=cap) (A Φ) u w B) (l b)
 |SetComp=>cases n<;>cases h
 |DictComp=>cases n<;>cases h
 |_=>exact plain rfl
theorem sj{e:Expr}{t:Option Expr}{l:Nat}{env:Env}(h:ic e=false):swapsWith e t l env=pure false:=by
 cases e<;>first|rfl | (cases h)
theorem Br(G:gK X κ T k sc N):∀(n:Nat) (d:Nat) (st:Stmt) (c:SM),jW T td d sc N n st=some c->oq X κ Φ st c:=by
 intro n d;have E:∀e m,cB T d sc N e=some m->lF X κ e m:=λe m q=>r_ d X sc N e m G.toGoodO q
 induction n with
 |zero=>intro st c h;cases h
 |succ n ih=>
  intro st c h;have B:∀J c,fD (jW T td d sc N n) J=some c->mq X κ Φ J c:=λJ c q=>lJ ih q
  have U:X.N.Nodup:=by rw[G.names];exact G.rK
  cases st with
  |Return v l=>
   cases v with
   |none=>cases h;exact xP
   |some e=>
    replace h:some (match cB T d sc N e with
   |some m=>bD m
   |none=>bA)=some c:=h
    cases h;split
    .rename_i m g
     exact A9 ((E e m g).1 Φ)
    .exact mW
  |Assign ts e l=>
   cases ts with
   |nil=>cases h
   |cons t r=>
   cases r with
   |cons t2 r=>cases t<;>cases h
   |nil=>
   cases t with
   |Name x V=>
    replace h:sd T td d sc N x V e l=some c:=h;unfold sd at h;split at h
    .rename_i i K
     split at h
     .rename_i Y
      cases h;simp only[Bool.and_eq_true]at Y;obtain⟨pd,rfl⟩:=yj Y.2;obtain⟨L,M,O⟩:=gY G K;exact tP U L M O rfl vz
     .split at h
      .rename_i m Z
       split at h
       .split at h
        .rename_i u hl
         cases h;exact tV G K Z λ_=>eq_of_beq hl
        .cases h
       .rename_i u
        cases h;exact tV G K Z λq=>absurd q u
      .cases h
    .cases h
   |Tuple P j p=>
    replace h:sg T d sc N P e=some c:=h;unfold sg at h;split at h
    .rename_i nms Q
     split at h
     .rename_i F m g s
      split at h
      .rename_i hp
       cases h;exact Ba (qr G Q g) hp ((E e m s).1 Φ)
      .cases h
     .cases h
    .cases h
   |Attribute o f p=>
    replace h:(if (dZ o&&!ic e)=true then o2 (T.fld.lookup f) (o2 (cB T d sc N o) (cB T d sc N e) Prod.mk) λA y=>bf A f y.1 y.2 else none)=some c:=h
    split at h
    .rename_i C
     simp only[Bool.and_eq_true,Bool.not_eq_true']at C;obtain⟨A,y,g,s,rfl⟩:=bJ h;obtain⟨mo,R,w,z,rfl⟩:=bJ s;exact Bd (G.fld f A g) (sj C.2) ((E o mo w).1 Φ) ((E e R z).1 Φ)
    .cases h
   |Subscript o i p=>
    replace h:(if (isSlice i||ic e)=true then none else o2 (cB T d sc N o) (o2 (cB T d sc N i) (cB T d sc N e) Prod.mk) λx y=>cQ x y.1 y.2)=some c:=h
    split at h
    .cases h
    .rename_i C
     simp only[Bool.or_eq_true,not_or,Bool.not_eq_true]at C;obtain⟨md,y,g,s,rfl⟩:=bJ h;obtain⟨mk,R,w,z,rfl⟩:=bJ s;exact x9 (by have:=G.hu;omega) ((E o md g).1 Φ) ((E i mk w).1 Φ) ((E e R z).1 Φ) (sj C.2)
   |_=>cases h
  |Expr e l=>
   replace h:(if ic e=true then none else (cB T d sc N e).map cA)=some c:=h
   split at h
   .cases h
   .rename_i C
    obtain⟨m,g,rfl⟩:=cK h;exact A_ (sj (by simpa using C)) ((E e m g).1 Φ)
  |If S a b l=>
   obtain⟨m,y,g,s,rfl⟩:=bJ h;obtain⟨ca,D,w,z,rfl⟩:=bJ s;exact D_ ((E S m g).2.1 Φ) (B a ca w) (B b D z)
  |While S b e l=>
   cases e with
   |nil=>
    obtain⟨m,D,g,s,rfl⟩:=bJ h;exact vu G.own ((E S m g).2.1 Φ) (B b D s)
   |cons _ _=>cases h
  |For H I b e l=>
   cases e with
   |nil=>
    cases H with
    |Name x V=>
     replace h:(if isSet I=true then none else o2 (lH T sc N x) (o2 (iP (cB T d sc N) sc I) (fD (jW T td d sc N n) b) Prod.mk) λi y=>ek (cP i) y.1 y.2)=some c:=h
     split at h
     .cases h
     .rename_i u
      obtain⟨i,y,g,s,rfl⟩:=bJ h;obtain⟨mi,D,w,z,rfl⟩:=bJ s;obtain⟨L,M,O⟩:=gY G g;exact tQ G.own G.calm (ox G.toGoodO E w Φ _) (nt U L M O) (Ea i) (B b D z) (kW (by simpa using u))
    |Tuple P j p=>
     replace h:(if isSet I=true then none else match eJ P with
   |some nms=>o2 (lI T sc N nms) (o2 (oy (cB T d sc N) sc I) (fD (jW T td d sc N n) b) Prod.mk) λF y=>ek (iK F) y.1 y.2
   |none=>none)=some c:=h
     split at h
     .cases h
     .rename_i u
      split at h
      .rename_i nms Q
       obtain⟨F,y,g,s,rfl⟩:=bJ h;obtain⟨mi,D,w,z,rfl⟩:=bJ s;exact tQ G.own G.calm (Bq G.toGoodO E w Φ) (qr G Q g) (xS F) (B b D z) (kW (by simpa using u))
      .cases h
    |_=>cases h
   |cons _ _=>cases H<;>cases h
  |Raise _ _ _=>cases h;exact mW
  |AugAssign H op v l=>
   replace h:(match tU H op v with
   |some (o,f,j)=>o2 (T.fld.lookup f) (cB T d sc N o) λA m=>mX A f m j
   |none=>none)=some c:=h
   split at h
   .rename_i o f j ha
    obtain⟨p,j',q,rfl,rfl,rfl⟩:=vD ha;obtain⟨A,m,g,s,rfl⟩:=bJ h;exact yi (G.fld f A g) ((E o m s).1 Φ)
   .cases h
  |Try b u oe fi l=>
   match u,oe,fi,h with
   |h0::u,[],[],h=>
    replace h:(if T.xt then none else fD (jW T td d sc N n) b)=some c:=h
    split at h
    .cases h
    .rename_i hx
     exact Bp (G.Dk (by simpa using hx)) (B b c h)
   |[],_,_,h=>cases h
   |_::_,_::_,_,h=>cases h
   |_::_,[],_::_,h=>cases h
  |_=>cases h
def fT(b:Str->Option Value):Str->Addr->Prop:=λC a=>b C=some (.ref a)
structure aT(P:Program)(w:World)(K:PySem.W.Frag)(mg:Str->Option Value)(base:Heap)(T:aN)(k:Nat):Prop where
 fh:∀x∈ef,mg x=none
 lY:∀x F,T.lY.lookup x=some F->∃(f:Addr) (fd:FuncData) (ps:List Str),mg x=some (.ref f)/\PySem.W.keepIn K (.ref f)=true/\Binds K fd ps []/\cH P w K mg base mH k f fd ps (kQ F)
 fn:∀x F,T.fn.lookup x=some F->∃(f:Addr) (fd:FuncData) (ps:List Str),mg x=some (.ref f)/\PySem.W.keepIn K (.ref f)=true/\Binds K fd ps []/\cH P w K mg base mH k f fd ps (dN (fT mg) F)
 cst:∀x d,T.cst.lookup x=some d->∃v u,mg x=some u/\RelV v u/\DT d v
 met:∀m C F,(m,C,F)∈T.met->∃(Ca f:Addr) (fd:FuncData) (ps:List Str),CD P w K mg base (fT mg) k C m F Ca f fd ps
 cls:∀C F,T.cls.lookup C=some F->∃j,j+1<=k/\∃(Ca f:Addr) (fd:FuncData) (ps:List Str),fT mg C Ca/\Mk K Ca f/\mg C=some (.ref Ca)/\Binds K fd ps []/\cH P w K mg base mH j f fd ps (dN (fT mg) F)
 fld:∀f Cs,T.fld.lookup f=some Cs->ie K (fT mg) Cs f
 clo:∀j F,T.clo[j]?=some F->qk P w K mg base (fT mg) k j F
def bg(T:aN)(td:List Str)(st:Stmt)(N:List Str):Option SM:=fD (jW T td 60 (aq st) N 30) (bS st)
end
section
variable{P:Program}{w:World}{K:PySem.W.Frag}{mg:Str->Option Value}{base:Heap}{T:aN}{k:Nat}
theorem Bs{F:aL}{au:az}{H:Hp}{a:Addr}{ns:List Int}{κ:Str->Addr->Prop}(c:Rd H a (.lst (ns.map V.int)))(h:F [.lst (ns.map D.int)] []=.ok (.bl true) au):dN κ F [.ref a] H (λv _=>v=.bl true) E0:=by
 refine⟨[],λb=>b=a,[],[.lst (ns.map D.int)],⟨List.nodup_nil,.nil,λ_ h=>by simp at h,λb e=>?_⟩,.one ?_,?_⟩
 .subst e
  rcases c with e|⟨o,e⟩<;>rw[e]<;>simp
 .simp only[ao]
  refine⟨a,ns.map V.int,rfl,rfl,c,?_⟩;clear h c
  induction ns with
  |nil=>exact cz.mpr .nil
  |cons n ns d=>exact cz.mpr (.cons (by simp only[ao]) (cz.mp d))
 .rw[h]
  intro v i f j g s r;simpa only [ao]using r
theorem aT.mono(W:aT P w K mg base T k){j:Nat}(h:k<=j):aT P w K mg base T j:=
 ⟨W.fh,λx F q=>let ⟨f,i,l,a,b,c,d⟩:=W.lY x F q;⟨f,i,l,a,b,c,d.mono h⟩,λx F q=>let ⟨f,i,l,a,b,c,d⟩:=W.fn x F q;⟨f,i,l,a,b,c,d.mono h⟩,W.cst,
  λm C F q=>let ⟨o,f,i,l,a,b,c,p,n,r,F1,d,d1,d2,e,g⟩:=W.met m C F q;⟨o,f,i,l,a,b,c,p,n,r,F1,d,d1,d2,e.mono h,g⟩,λC F q=>let ⟨s,t,u⟩:=W.cls C F q;⟨s,Nat.le_trans t h,u⟩,W.fld,λj F q=>(W.clo j F q).mono h⟩
end
noncomputable def aN.vG(T:aN)(x:Str)(F:List D->Out Rs):aN:={T with lY:=(x,F)::T.lY}
noncomputable def aN.ey(T:aN)(x:Str)(F:aL):aN:={T with fn:=(x,F)::T.fn}
noncomputable def aN.cL(T:aN)(C m:Str)(F:aL):aN:={T with met:=(m,C,F)::T.met}
noncomputable def aN.iQ(T:aN)(C:Str)(F:aL):aN:={T with cls:=(C,F)::T.cls}
def aN.cW(T:aN)(f:Str)(Cs:List Str):aN:={T with fld:=(f,Cs)::T.fld}
noncomputable def aN.hV(T:aN)(x:Str)(d:D):aN:={T with cst:=(x,d)::T.cst}
theorem eF{a:Type}{x y:Str}{F G:a}{l:List (Str×a)}(h:((x,F)::l).lookup y=some G):(y=x/\G=F)\/l.lookup y=some G:=by
 rw[List.lookup_cons]at h;cases e:y==x with
 |true=>rw[e]at h;cases h;exact .inl ⟨eq_of_beq e,rfl⟩
 |false=>rw[e]at h;exact .inr h
section
variable{P:Program}{w:World}{K:PySem.W.Frag}{mg:Str->Option Value}{base:Heap}{T:aN}{k:Nat}
theorem aT.start(a:∀x∈ef,mg x=none):aT P w K mg base {} 0:=
 ⟨a,λx F h=>(by cases h),λx F h=>(by cases h),λx d h=>(by cases h),λm C F h=>(by cases h),λC F h=>(by cases h),λf b h=>(by cases h),λj F h=>(by cases h)⟩
theorem aT.vG(W:aT P w K mg base T k){x:Str}{F:List D->Out Rs}{f:Addr}{a:FuncData}{ps:List Str}{j:Nat}(b:mg x=some (.ref f))(c:PySem.W.keepIn K (.ref f)=true)(d:Binds K a ps [])(h:cH P w K mg base mH j f a ps (kQ F))(e:j<=k) :
  aT P w K mg base (T.vG x F) k:=
 ⟨W.fh,λy G q=>by
  rcases eF q with ⟨rfl,rfl⟩|q
  .exact⟨f,a,ps,b,c,d,h.mono e⟩
  .exact W.lY y G q,W.fn,W.cst,W.met,W.cls,W.fld,W.clo⟩
theorem aT.ey(W:aT P w K mg base T k){x:Str}{F:aL}{f:Addr}{b:FuncData}{ps:List Str}(c:mg x=some (.ref f))(d:PySem.W.keepIn K (.ref f)=true)(e:Binds K b ps [])(h:cH P w K mg base mH (k+1) f b ps (dN (fT mg) F)) :
  aT P w K mg base (T.ey x F) (k+1):=by
 have a:=W.mono (Nat.le_succ k)
 exact⟨a.fh,a.lY,λy G q=>by
  rcases eF q with ⟨rfl,rfl⟩|q
  .exact⟨f,b,ps,c,d,e,h⟩
  .exact a.fn y G q,a.cst,a.met,a.cls,a.fld,a.clo⟩
theorem aT.cL(W:aT P w K mg base T k){C m:Str}{F:aL}{c f:Addr}{e:FuncData}{ps:List Str}(g:mg C=some (.ref c))(i:j_ K c)(M:Meth K c m f)(j:Binds K e ps [])(h:cH P w K mg base mH (k+1) f e ps (dN (fT mg) F)) :
  aT P w K mg base (T.cL C m F) (k+1):=by
 have b:=W.mono (Nat.le_succ k)
 exact⟨b.fh,b.lY,b.fn,b.cst,λl n G q=>by
  rcases List.mem_cons.mp q with q|q
  .cases q
   refine⟨c,f,e,ps,λa d=>?_,i,M,[],[],[],F,j,.nil,λ_ _ _=>.nil,h,by funext o;rw[List.append_nil]⟩
   have d:mg C=some (.ref a):=d;rw[g]at d;cases d;rfl
  .exact b.met l n G q,b.cls,b.fld,b.clo⟩
theorem aT.CH(W:aT P w K mg base T k){C m:Str}{F:aL}{d f:Addr}{g:FuncData}{ps:List Str}{ds:List Value}{c:List V}{Dd:List D}(i:mg C=some (.ref d))(j:j_ K d)(M:Meth K d m f)(l:Binds K g ps ds)(n:Vals c ds)(o:∀p Z H,aE (ao p Z H) Dd c)(h:cH P w K mg base mH (k+1) f g ps (dN (fT mg) F)) :
  aT P w K mg base (T.cL C m λxs=>F (xs++Dd)) (k+1):=by
 have b:=W.mono (Nat.le_succ k)
 exact⟨b.fh,b.lY,b.fn,b.cst,λr s G q=>by
  rcases List.mem_cons.mp q with q|q
  .cases q
   refine⟨d,f,g,ps,λa e=>?_,j,M,ds,c,Dd,F,l,n,o,h,rfl⟩
   have e:mg C=some (.ref a):=e;rw[i]at e;cases e;rfl
  .exact b.met r s G q,b.cls,b.fld,b.clo⟩
theorem aT.iQ(W:aT P w K mg base T k){C:Str}{F:aL}{b f:Addr}{c:FuncData}{ps:List Str}{j:Nat}(d:mg C=some (.ref b))(M:Mk K b f)(e:Binds K c ps [])(h:cH P w K mg base mH j f c ps (dN (fT mg) F))(g:j<=k) :
  aT P w K mg base (T.iQ C F) (k+1):=by
 have a:=W.mono (Nat.le_succ k)
 exact⟨a.fh,a.lY,a.fn,a.cst,a.met,λy G q=>by
  rcases eF q with ⟨rfl,rfl⟩|q
  .exact⟨j,by omega,b,f,c,ps,d,M,d,e,h⟩
  .exact a.cls y G q,a.fld,a.clo⟩
theorem aT.cW(W:aT P w K mg base T k){f:Str}{Cs:List Str}(h:ie K (fT mg) Cs f):aT P w K mg base (T.cW f Cs) k:=
 ⟨W.fh,W.lY,W.fn,W.cst,W.met,W.cls,λy G q=>by
  rcases eF q with ⟨rfl,rfl⟩|q
  .exact h
  .exact W.fld y G q,W.clo⟩
theorem aT.hV(W:aT P w K mg base T k){x:Str}{d:D}{v:V}{u:Value}(a:mg x=some u)(b:RelV v u)(c:f_ d=some v):aT P w K mg base (T.hV x d) k:=
 ⟨W.fh,W.lY,W.fn,λy G q=>by
  rcases eF q with ⟨rfl,rfl⟩|q
  .exact⟨v,u,a,b,.inl c⟩
  .exact W.cst y G q,W.met,W.cls,W.fld,W.clo⟩
theorem aT.G_(W:aT P w K mg base T k){x:Str}{f:Addr}(a:mg x=some (.ref f)):aT P w K mg base (T.hV x (.dct [] [])) k:=
 ⟨W.fh,W.lY,W.fn,λy G q=>by
  rcases eF q with ⟨rfl,rfl⟩|q
  .exact⟨.ref f,.ref f,a,rfl,.inr rfl⟩
  .exact W.cst y G q,W.met,W.cls,W.fld,W.clo⟩
theorem aT.Ha(W:aT P w K mg base T k)(p:Str×Str×aL->Bool):aT P w K mg base {T with met:=T.met.filter p} k:=⟨W.fh,W.lY,W.fn,W.cst,λm C F q=>W.met m C F (List.mem_filter.mp q).1,W.cls,W.fld,W.clo⟩
theorem plain1{C f:Str}{c:Addr}(g:mg C=some (.ref c))(h:j_ K c)(n:PySem.W.findIn K (.ref c) f=some none):ie K (fT mg) [C] f:=λe a d b=>by
 have d:e=C:=by simpa using d
 subst d;have b:mg e=some (.ref a):=b;rw[g]at b;cases b;exact⟨h,n⟩
end
def Hb(F:aL):Sp:=λa H Q E=>∀b,dN b F a H Q E
end Mir
namespace Mir
open PySem PySem.Spec PyProof.Rows L2
def Eg:D->Bool
 |.lst ds=>ds.all eV
 |d=>eV d
section
variable{α:List Addr}{Z Z1:Addr->Prop}{H H1:Hp}
theorem tW{d:D}{v:V}(a:eV d=true)(r:Rep Z H d v):ao α Z1 H1 d v:=by
 cases d with
 |lst _=>cases a
 |tup _=>cases a
 |ref _=>cases a
 |dct _ _=>cases a
 |_=>simp only[Rep]at r;simp only[ao];exact r
theorem vH{d:D}{v:V}(a:eV d=true)(r:ao α Z1 H1 d v):Rep Z H d v:=by
 cases d with
 |lst _=>cases a
 |tup _=>cases a
 |ref _=>cases a
 |dct _ _=>cases a
 |_=>simp only[ao]at r;simp only[Rep];exact r
theorem qv:∀{ds:List D}{vs:List V},ds.all eV=true->aX Z H ds vs->eg α Z1 H1 ds vs
 |[],vs,_,r=>by simp only[aX]at r;simp only[eg];exact r
 |d::ds,vs,h,r=>by
  simp only[List.all_cons,Bool.and_eq_true]at h;simp only[aX]at r;obtain⟨v,a,e,h1,h2⟩:=r;simp only[eg];exact⟨v,a,e,tW h.1 h1,qv h.2 h2⟩
theorem Hc{d:D}{v:V}(h:Eg d=true)(r:Rep Z H d v):ao α Z H d v:=by
 cases d with
 |lst g=>
  simp only[Rep]at r;obtain⟨a,b,e,z,c,f⟩:=r;simp only[ao];exact⟨a,b,e,z,c,qv h f⟩
 |tup _=>cases h
 |ref _=>cases h
 |dct _ _=>cases h
 |_=>exact tW rfl r
theorem yk:∀{ds:List D}{vs:List V},ds.all Eg=true->aX Z H ds vs->aE (ao α Z H) ds vs
 |[],vs,_,r=>by simp only[aX]at r;subst r;exact .nil
 |d::ds,vs,h,r=>by
  simp only[List.all_cons,Bool.and_eq_true]at h;simp only[aX]at r;obtain⟨v,a,rfl,h1,h2⟩:=r;exact .cons (Hc h.1 h1) (yk h.2 h2)
end
variable [aK]
def pureOf(O:aL):List D->Out Rs:=λa=>if a.all Eg=true then (match O a []with
  |.ok d _=>if eV d=true then .ok (false,d)else .bad
  |_=>.bad)else .bad
section
variable{P:Program}{w:World}{K:PySem.W.Frag}{mg:Str->Option Value}{base:Heap}{k:Nat}{f:Addr}{fd:FuncData}{ps:List Str}{O:aL}
theorem tX(h:cH P w K mg base mH k f fd ps (dN (fT mg) O)):cH P w K mg base mH k f fd ps (kQ (pureOf O)):=h.imp λC H Q E q=>by
 obtain⟨Z,i,t,d,c,r,e,g⟩:=q;unfold pureOf at e
 by_cases j:i.all Eg=true
 .rw[if_pos j]at e
  refine⟨[],Z,[],i,⟨List.nodup_nil,.nil,λa l=>by simp at l,c⟩,yk j r,?_⟩
  cases m:O i []with
  |exc x u=>rw[m]at e;cases e
  |bad=>rw[m]at e;cases e
  |ok d1 u=>
   rw[m]at e;dsimp only at e
   by_cases n:eV d1=true
   .rw[if_pos n]at e
    cases e;intro v y z D p F A;refine g v y Z ⟨λb o B=>p.frm b o B (by simp),λ_ h=>h,λ_ h=>.inl h,λa l=>?_⟩ (.rep (vH n A))
    cases s:H a with
    |none=>exact absurd s (c a l)
    |some o=>rw[p.frm a o s (by simp)];simp
   .rw[if_neg n]at e;cases e
 .rw[if_neg j]at e;cases e
end
end Mir
namespace Mir
open PySem
@[simp] theorem Hd:jQ .non=some false:=rfl
@[simp] theorem Kf{b:Bool}:jQ (.bl b)=some b:=rfl
@[simp] theorem He{i:Int}:jQ (.int i)=some (i != 0):=rfl
@[simp] theorem Hf{xs:List D}:jQ (.lst xs)=some (!xs.isEmpty):=rfl
@[simp] theorem Hg{xs:List D}:jQ (.tup xs)=some (!xs.isEmpty):=rfl
section
variable{Γ:mf}{ρ:zQ}{a b:RW}{e:Ex}{i j:Nat}{bw:Bool}
end
section
variable{bw:Bool}{i:Nat}{a b c es:Ex}
end
section
variable{Γ:mf}{ρ:zQ}{bw:Bool}{i:Nat}{a b c es:Ex}
def zU(o:Bool)(f:List D->D):D->Out Rs
 |.tup ds=>if small ds.length=true then .ok (o,f ds)else .bad
 |_=>.bad
@[simp] theorem Hh{o:Bool}{f:List D->D}{ds:List D}:zU o f (.tup ds)=if small ds.length=true then .ok (o,f ds)else .bad:=rfl
end
@[simp] theorem Kg{i j:Int}:eR .Add (.int i) (.int j)=.ok (false,.int (i+j)):=rfl
@[simp] theorem Kh{i j:Int}:eR .Sub (.int i) (.int j)=.ok (false,.int (i - j)):=rfl
@[simp] theorem Ki{i j:Int}:eR .Mult (.int i) (.int j)=if (jj i||jj j)=true then .ok (false,.int (i*j))else .bad:=rfl
@[simp] theorem Kj{i j:Int}:eR .FloorDiv (.int i) (.int j)=if (decide (0<j)&&decide (j<1073741824))=true then .ok (false,.int (i / j))else .bad:=rfl
@[simp] theorem Kk{i j:Int}:eR .Mod (.int i) (.int j)=if decide (0<j)=true then .ok (false,.int (i%j))else .bad:=rfl
@[simp] theorem Kl{i j:Int}:eR .Pow (.int i) (.int j)=if (decide (0<=j)&&decide (j<=1000)&&decide (i.natAbs<2 ^ 64))=true then .ok (false,.int (i ^ j.toNat))else .bad:=rfl
@[simp] theorem Hi{i j:Str}:eR .Add (.str i) (.str j)=if small (i.length+j.length)=true then .ok (false,.str (i++j))else .bad:=rfl
@[simp] theorem Hj{i j:List D}:eR .Add (.lst i) (.lst j)=if small (i.length+j.length)=true then .ok (true,.lst (i++j))else .bad:=rfl
@[simp] theorem Eh{x y:D}:dD .Eq x y=if (aI 8 x&&aI 8 y)=true then .ok (ed x y)else .bad:=rfl
@[simp] theorem Mp{x y:D}:dD .NotEq x y=if (aI 8 x&&aI 8 y)=true then .ok (!ed x y)else .bad:=rfl
@[simp] theorem Mq{i j:Int}:dD .Lt (.int i) (.int j)=.ok (decide (i<j)):=rfl
@[simp] theorem Mr{i j:Int}:dD .LtE (.int i) (.int j)=.ok (decide (i<=j)):=rfl
@[simp] theorem cmp_gt{i j:Int}:dD .Gt (.int i) (.int j)=.ok (decide (j<i)):=rfl
@[simp] theorem Ms{i j:Int}:dD .GtE (.int i) (.int j)=.ok (decide (j<=i)):=rfl
@[simp] theorem Mt{x y:D}:dD .In x y=inD x y:=rfl
@[simp] theorem Km{x y:D}:dD .NotIn x y=inD x y >>= λb=>.ok (!b):=rfl
@[simp] theorem Mu{x y:D}:dD .Is x y=isD x y:=rfl
@[simp] theorem Kn{x y:D}:dD .IsNot x y=isD x y >>= λb=>.ok (!b):=rfl
@[simp] theorem Mv{n:Nat}:aI n .non=true:=by cases n<;>rfl
@[simp] theorem R_{n:Nat}{b:Bool}:aI n (.bl b)=true:=by cases n<;>rfl
@[simp] theorem Mw{n:Nat}{i:Int}:aI n (.int i)=true:=by cases n<;>rfl
@[simp] theorem Mx{n:Nat}{x:Str}:aI n (.str x)=true:=by cases n<;>rfl
@[simp] theorem My{n:Nat}{xs:List D}:aI (n+1) (.lst xs)=xs.all (aI n):=rfl
@[simp] theorem Mz{n:Nat}{xs:List D}:aI (n+1) (.tup xs)=xs.all (aI n):=rfl
@[simp] theorem eq_int{i j:Int}:ed (.int i) (.int j)=(i==j):=rfl
@[simp] theorem Sa{i j:Bool}:ed (.bl i) (.bl j)=(i==j):=rfl
@[simp] theorem eq_str{i j:Str}:ed (.str i) (.str j)=(i==j):=rfl
@[simp] theorem MA{i j:List D}:ed (.lst i) (.lst j)=eQ i j:=rfl
@[simp] theorem MB{i j:List D}:ed (.tup i) (.tup j)=eQ i j:=rfl
@[simp] theorem Ko:eQ [] []=true:=rfl
@[simp] theorem ym{x y:D}{xs a:List D}:eQ (x::xs) (y::a)=(ed x y&&eQ xs a):=rfl
@[simp] theorem MC{y:D}{a:List D}:eQ [] (y::a)=false:=rfl
@[simp] theorem MD{y:D}{a:List D}:eQ (y::a) []=false:=rfl
theorem tY{z:Str}{i:Int}{c:Nat}(h:small z.length=true)(e:L2.jh z.cps.toList i=some c):rn (.str z) (.int i)=.ok (false,.str (ay c)):=by
 simp only[rn,h,if_pos,e]
@[simp] theorem Kp{xs:List D}{l h:Option Int}:wN (.lst xs) l h=.ok (true,.lst (dz xs l h)):=rfl
@[simp] theorem Kq{z:Str}{l h:Option Int}:wN (.str z) l h=if small z.length=true then .ok (false,.str ⟨(dz z.cps.toList l h).toArray⟩)else .bad:=rfl
@[simp] theorem Kr{xs:List D}:ia .len (.tup [.lst xs])=.ok (false,.int xs.length):=rfl
@[simp] theorem Ks{xs:List D}:ia .len (.tup [.tup xs])=.ok (false,.int xs.length):=rfl
@[simp] theorem len_str{z:Str}:ia .len (.tup [.str z])=if small z.length=true then .ok (false,.int z.length)else .bad:=rfl
def yn(f:List Bool->Bool):Option (List Bool)->Out Rs
 |some bs=>.ok (false,.bl (f bs))
 |none=>.bad
@[simp] theorem FF{f:List Bool->Bool}{bs:List Bool}:yn f (some bs)=.ok (false,.bl (f bs)):=rfl
@[simp] theorem Kt{xs:List D}:ia .all (.tup [.lst xs])=yn (λbs=>bs.all id) (ft xs):=rfl
@[simp] theorem Ku{xs:List D}:ia .any (.tup [.lst xs])=yn (λbs=>bs.any id) (ft xs):=rfl
@[simp] theorem Hk{xs:List D}:ia .list (.tup [.lst xs])=.ok (true,.lst xs):=rfl
@[simp] theorem Hl{xs:List D}:ia .list (.tup [.tup xs])=.ok (true,.lst xs):=rfl
@[simp] theorem FG{xs:List D}:ia .tuple (.tup [.lst xs])=.ok (false,.tup xs):=rfl
@[simp] theorem FH{xs:List D}:ia .tuple (.tup [.tup xs])=.ok (false,.tup xs):=rfl
@[simp] theorem int_int{i:Int}:ia .int (.tup [.int i])=.ok (false,.int i):=rfl
@[simp] theorem ME{k:Bool}:ia .int (.tup [.bl k])=.ok (false,.int (if k then 1 else 0)):=rfl
@[simp] theorem Kv{i j:Int}:ia .min (.tup [.int i,.int j])=.ok (false,.int (if j<i then j else i)):=rfl
@[simp] theorem Kw{i j:Int}:ia .max (.tup [.int i,.int j])=.ok (false,.int (if j>i then j else i)):=rfl
@[simp] theorem MF{t:Ty}:wO .non t=some false:=rfl
@[simp] theorem Sb{t:Ty}{b:Bool}:wO (.bl b) t=some (t==.bool||t==.int):=rfl
@[simp] theorem ty_int{t:Ty}{i:Int}:wO (.int i) t=some (t==.int):=rfl
@[simp] theorem ty_str{t:Ty}{x:Str}:wO (.str x) t=some (t==.str):=rfl
@[simp] theorem MH{t:Ty}{xs:List D}:wO (.lst xs) t=some (t==.list):=rfl
@[simp] theorem MI{t:Ty}{xs:List D}:wO (.tup xs) t=some (t==.tuple):=rfl
@[simp] theorem MJ{t:Ty}{a:List L2.Key}{xs:List D}:wO (.dct a xs) t=some (t==.dict):=rfl
theorem aG{n:Nat}(h:n<=100000):small n=true:=by
 unfold small;rw[decide_eq_true_eq,sizeLine_eq];omega
theorem iR{i:Int}(a : -(2 ^ 64)<i)(b:i<2 ^ 64):jj i=true:=decide_eq_true (by omega)
theorem e8{i:Int}(a : -(2 ^ 62)<i)(b:i<2 ^ 62):jk i=true:=decide_eq_true (by omega)
theorem Ei{b:Type}{xs:List b}{i:Int}(c:0<=i)(d:i<xs.length):∃x,x∈xs/\L2.jh xs i=some x:=by
 have a:i.toNat<xs.length:=by omega
 refine⟨xs[i.toNat],List.getElem_mem a,?_⟩;have h:=L2.dI (List.getElem?_eq_getElem a);rw[show(i.toNat:Int)=i by omega]at h
 exact h
@[simp] theorem in_str{x y:Str}:inD (.str x) (.str y)=.ok (sV x y):=rfl
theorem dP(n:Nat):∀a:Int,(intsFrom a n).length=n:=by
 induction n with
 |zero=>intro a;rfl
 |succ n b=>intro a;simp[intsFrom,b]
theorem fU{n:Nat}:∀{a:Int}{i:Nat}{d:D},(intsFrom a n)[i]?=some d->d=.int (a+i)/\i<n:=by
 induction n with
 |zero=>intro a i d h;simp[intsFrom]at h
 |succ n b=>
  intro a i d h;cases i with
  |zero=>simp[intsFrom]at h;subst h;exact⟨by simp,by omega⟩
  |succ i=>
   simp[intsFrom]at h;obtain⟨c,e⟩:=b h;exact⟨by rw[c];congr 1;omega,by omega⟩
noncomputable def L1(xs:List Str):D:=.lst (xs.map .str)
def LL(rs:List (List Str)):D:=.lst (rs.map L1)
theorem yo{a:Type}(xs:List a)(k:Nat):dz xs (some (k:Int)) none=xs.drop k:=by
 unfold dz;rw[HT.pq,HT.ka];rcases Nat.le_total k xs.length with h|h
 .rw[Nat.min_eq_left h]
  exact List.take_of_length_le (by simp)
 .rw[Nat.min_eq_right h,List.drop_eq_nil_of_le (Nat.le_refl _),List.drop_eq_nil_of_le h];simp
theorem sk{a:Type}(xs:List a)(k:Nat):dz xs none (some (k:Int))=xs.take k:=by
 unfold dz;rw[HT.pq,HT.ka,List.drop_zero,Nat.sub_zero];rcases Nat.le_total k xs.length with h|h
 .rw[Nat.min_eq_left h]
 .rw[Nat.min_eq_right h,List.take_of_length_le (Nat.le_refl _),List.take_of_length_le h]
theorem yp{a:Type}(xs:List a)(k m:Nat):dz xs (some (k:Int)) (some (m:Int))=(xs.drop k).take (m - k):=by
 unfold dz;rw[HT.ka,HT.ka];rcases Nat.le_total k xs.length with h|h
 .rw[Nat.min_eq_left h]
  rcases Nat.le_total m xs.length with h' |h'
  .rw[Nat.min_eq_left h']
  .rw[Nat.min_eq_right h',List.take_of_length_le (by simp),List.take_of_length_le (by simp;omega)]
 .rw[Nat.min_eq_right h,List.drop_eq_nil_of_le (Nat.le_refl _),List.drop_eq_nil_of_le h];simp
@[simp] theorem Sd{a:Type}(xs:List a):dz xs (some 1) none=xs.tail:=by rw[show(1:Int)=((1:Nat):Int)from rfl,yo];simp
theorem oz(n:Nat)(xs:List Str):(xs.map D.str).all (aI n)=true:=by
 rw[List.all_eq_true];intro d a;obtain⟨x,_,rfl⟩:=List.mem_map.mp a;simp
theorem Bt(xs:List Str)(n:Str):((xs.map D.str).any λy=>ed y (.str n))=decide (n∈xs):=by
 induction xs with
 |nil=>rfl
 |cons x xs a=>
  simp only[List.map_cons,List.any_cons,a,eq_str,List.mem_cons]
  by_cases h:n=x
  .subst h;simp
  .have:(x==n)=false:=by simp;exact λe=>h e.symm
   simp[this,h]
theorem Bu(xs:List Str)(n:Str):inD (.str n) (.lst (xs.map .str))=.ok (decide (n∈xs)):=by
 have:inD (.str n) (.lst (xs.map .str))=if aI 8 (.str n)&&(xs.map D.str).all (aI 8)then .ok ((xs.map D.str).any λy=>ed y (.str n))else .bad:=rfl
 rw[this,oz,Bt];simp
theorem tZ(xs a:List Str):eQ (xs.map .str) (a.map .str)=decide (xs=a):=by
 induction xs generalizing a with
 |nil=>cases a<;>simp
 |cons x xs b=>
  cases a with
  |nil=>simp
  |cons y a=>
   simp only[List.map_cons,ym,eq_str,b,List.cons.injEq]
   by_cases h:x=y
   .subst h;simp
   .simp[h]
theorem Hm(xs a:List Str):ed (L1 xs) (L1 a)=decide (xs=a):=tZ xs a
theorem yq(n:Nat)(xs:List Str):aI (n+1) (L1 xs)=true:=oz n xs
noncomputable def freeOf(rs:List (List Str)):List Str->Option Str
 |[]=>none
 |n::_=>if ∃t∈rs,n∈t.tail then none else some n
def free(rs:List (List Str)):Option Str:=rs.findSome? (freeOf rs)
@[simp] theorem MK{x:Str}:isD (.str x) .non=.ok false:=rfl
@[simp] theorem Kx:isD .non .non=.ok true:=rfl
@[simp] theorem ML{x:Int}:isD (.int x) .non=.ok false:=rfl
@[simp] theorem MM{x:List D}:isD (.lst x) .non=.ok false:=rfl
theorem any_rows(rs:List (List Str)):ft (rs.map L1)=some (rs.map λr=>!r.isEmpty):=by
 induction rs with
 |nil=>rfl
 |cons r rs a=>
  simp only[List.map_cons,ft,a];simp[L1]
abbrev Fn:=List D->Out Rs
def jK(a:Int->Int->Int->Int)(F:Fn):Prop:=∀c t m,0<=t->t<100000->0<m->0<=a c t m/\a c t m<m/\F [.int c,.int t,.int m]=.ok (false,.int (a c t m))
noncomputable def SC(ns:List Int):D:=.lst (ns.map .int)
def ju(κ:List Int->Nat->Int)(F:Fn):Prop:=∀a (k:Nat),F [SC a,.int k]=.ok (false,.int (κ a k))
theorem ints_map(a:Int)(n:Nat):intsFrom a n=(List.range n).map λ(i:Nat)=>D.int (a+i):=by
 apply List.ext_getElem?;intro i
 by_cases h:i<n
 .have b:i<(intsFrom a n).length:=by rw[dP];exact h
  have e:=(fU (List.getElem?_eq_getElem b)).1;rw[List.getElem?_eq_getElem b,e];simp[h]
 .rw[List.getElem?_eq_none (by rw[dP];omega),List.getElem?_eq_none (by simp;omega)]
theorem mY(n:Nat):intsFrom 0 n=(List.range n).map λ(i:Nat)=>D.int i:=by
 rw[ints_map];congr 1;funext i;simp
noncomputable def abc:Str:="abcdefghijklmnopqrstuvwxyz"
theorem Ej:∀q:Nat,q<26->abc.cps.toList[q]?=some (97+q):=by decide
theorem oA{q:Int}(a:0<=q)(b:q<26):rn (.str abc) (.int q)=.ok (false,.str (ay (97+q.toNat))):=by
 refine tY (aG (by decide)) ?_
 have:=L2.dI (Ej q.toNat (by omega))
 rwa[show((q.toNat:Nat):Int)=q by omega]at this
noncomputable def bs(a:Int->Int->Int->Int)(c:Int):List D:=(List.range 8).map λ(i:Nat)=>.int (a c i 26)
section
variable{Γ:mf}{M:Fn}{μ:Int->Int->Int->Int}{c:Int}{m:Nat}
end
section
variable{Γ:mf}
noncomputable def behind(rs:List (List Str)):List Str:=rs.flatMap List.tail
end
@[simp] theorem Ky{xs:List Str}:ia .list (.tup [L1 xs])=.ok (true,L1 xs):=rfl
@[simp] theorem Kz{xs:List (List Str)}:ia .list (.tup [LL xs])=.ok (true,LL xs):=rfl
@[simp] theorem Se{xs:List Str}{n:Str}:inD (.str n) (L1 xs)=.ok (decide (n∈xs)):=Bu xs n
@[simp] theorem Sf{xs:List Str}{t:Ty}:wO (L1 xs) t=some (t==.list):=rfl
@[simp] theorem MN{n:Nat}{xs:List Str}:aI (n+1) (L1 xs)=true:=yq n xs
@[simp] theorem MO{xs a:List Str}:ed (L1 xs) (L1 a)=decide (xs=a):=Hm xs a
@[simp] theorem Sg{a b:Bool}:isD (.bl a) (.bl b)=.ok (a==b):=rfl
open L2
section
variable{α β:Type}{Ω au:az}{ρ:aV}{d x y:D}{ma mb mc mi:EM}{as:AM}{a b:SM}
@[simp] theorem ai{a:α}{f:α->az->ax β}:(ax.ok a Ω).bind f=f a Ω:=rfl
@[simp] theorem MP{f:α->az->ax β}:(ax.exc x Ω:ax α).bind f=.exc x Ω:=rfl
@[simp] theorem MQ{f:α->az->ax β}:(ax.bad:ax α).bind f=.bad:=rfl
@[simp] theorem bP{a:α}{k:α->az->gi}:cu (.ok a Ω) k=k a Ω:=rfl
@[simp] theorem MR{k:α->az->gi}:cu (.exc x Ω:ax α) k=.exc x Ω:=rfl
@[simp] theorem MS{k:α->az->gi}:cu (.bad:ax α) k=.bad:=rfl
@[simp] theorem Hn{b:ax D}:hF (.ok d Ω) b=.ok d Ω:=rfl
@[simp] theorem MT{b:ax D}:hF (.exc d Ω) b=.exc d Ω:=rfl
@[simp] theorem jv{b:ax D}:hF .bad b=b:=rfl
@[simp] theorem Si{f:D->az->ax D}:m1 f ma ρ Ω=(ma ρ Ω).bind f:=rfl
@[simp] theorem bK{f:D->D->az->ax D}:m2 f ma mb ρ Ω=(ma ρ Ω).bind λx aS=>(mb ρ aS).bind λy a=>f x y a:=rfl
@[simp] theorem dQ{f:List D->az->ax D}:mN f as ρ Ω=(as ρ Ω).bind f:=rfl
@[simp] theorem bE:af ρ Ω=.ok [] Ω:=rfl
@[simp] theorem aJ:ab ma as ρ Ω=(ma ρ Ω).bind λx aS=>(as ρ aS).bind λxs a=>.ok (x::xs) a:=rfl
noncomputable def vr:Option (Option D)->az->ax D
 |some (some d),Ω=>.ok d Ω
 |_,_=>.bad
@[simp] theorem eB:vr (some (some d)) Ω=.ok d Ω:=rfl
@[simp] theorem eD{i:Nat}:aa i ρ Ω=vr ρ[i]? Ω:=by
 unfold aa;cases ρ[i]? with
 |none=>rfl
 |some o=>cases o<;>rfl
@[simp] theorem bU:ah d ρ Ω=.ok d Ω:=rfl
@[simp] theorem t8{c:Cell}:g_ Ω c=.ok (.ref Ω.length) (Ω++[c]):=rfl
noncomputable def tb(Ω:az):Option Bool->ax Bool
 |some b=>.ok b Ω
 |none=>.bad
@[simp] theorem dR{t:Bool}:tb Ω (some t)=.ok t Ω:=rfl
@[simp] theorem du:dE (.ok d Ω)=tb Ω (gw Ω d):=by simp only[dE];cases gw Ω d<;>rfl
@[simp] theorem bV{t:Bool}:gw Ω (.bl t)=some t:=rfl
@[simp] theorem Ho:gw Ω .non=some false:=rfl
@[simp] theorem Hq{i:Int}:gw Ω (.int i)=some (i != 0):=rfl
noncomputable def Fz(t:Option Bool)(a b:ax D):ax D:=match t with
 |some true=>a
 |some false=>b
 |none=>.bad
@[simp] theorem lL{a b:ax D}:Mir.Fz (some true) a b=a:=rfl
@[simp] theorem qw{a b:ax D}:Mir.Fz (some false) a b=b:=rfl
@[simp] theorem e9:fC ma mb ρ Ω=(ma ρ Ω).bind λx aS=>Mir.Fz (gw aS x) (mb ρ aS) (.ok x aS):=by
 unfold fC;cases ma ρ Ω with
 |ok x aS=>
  simp only[ai];cases gw aS x with
  |none=>rfl
  |some t=>cases t<;>rfl
 |exc x aS=>rfl
 |bad=>rfl
@[simp] theorem Ek:CA ma mb ρ Ω=(ma ρ Ω).bind λx aS=>Mir.Fz (gw aS x) (.ok x aS) (mb ρ aS):=by
 unfold CA;cases ma ρ Ω with
 |ok x aS=>
  simp only[ai];cases gw aS x with
  |none=>rfl
  |some t=>cases t<;>rfl
 |exc x aS=>rfl
 |bad=>rfl
@[simp] theorem t9:hJ ma ρ Ω=(dE (ma ρ Ω)).bind λt aS=>.ok (.bl (!t)) aS:=rfl
@[simp] theorem sm:zh mc ma mb ρ Ω=(dE (mc ρ Ω)).bind λt aS=>if t=true then ma ρ aS else mb ρ aS:=rfl
@[simp] theorem dw{f g:D->D->az->ax D}:eL f g x y Ω=hF (f x y Ω) (g x y Ω):=rfl
@[simp] theorem KA{f g:List D->az->ax D}{xs:List D}:mj f g xs Ω=hF (f xs Ω) (g xs Ω):=rfl
@[simp] theorem oB{f g:EM}:fA f g ρ Ω=hF (f ρ Ω) (g ρ Ω):=rfl
@[simp] theorem KC{n:Nat}:et Ω n .non=some .non:=by cases n<;>rfl
@[simp] theorem El{n:Nat}{t:Bool}:et Ω n (.bl t)=some (.bl t):=by cases n<;>rfl
@[simp] theorem t_{n:Nat}{i:Int}:et Ω n (.int i)=some (.int i):=by cases n<;>rfl
@[simp] theorem gZ{n:Nat}{z:Str}:et Ω n (.str z)=some (.str z):=by cases n<;>rfl
@[simp] theorem MU{f:α->Option β}:bz f []=some []:=rfl
noncomputable def oc:Option α->Option (List α)->Option (List α)
 |some y,some ys=>some (y::ys)
 |_,_=>none
@[simp] theorem KD{y:α}{a:List α}:oc (some y) (some a)=some (y::a):=rfl
@[simp] theorem ua{f:α->Option β}{x:α}{xs:List α}:bz f (x::xs)=oc (f x) (bz f xs):=by
 simp only[bz];cases f x<;>cases bz f xs<;>rfl
theorem ij{a:Type}{f:β->Option a}{g:α->β}{h:α->a}(e:∀x,f (g x)=some (h x)):∀xs:List α,bz f (xs.map g)=some (xs.map h)
 |[]=>rfl
 |x::xs=>by rw[List.map_cons,ua,e,ij e xs];rfl
@[simp] theorem ub{n:Nat}{xs:List Str}:bz (et Ω n) (xs.map .str)=some (xs.map .str):=ij (λ_=>gZ) xs
@[simp] theorem Bv{n:Nat}{xs:List Int}:bz (et Ω n) (xs.map .int)=some (xs.map .int):=ij (λ_=>t_) xs
theorem Bw{n:Nat}{ds es:List D}(h:bz (et Ω n) ds=some es):et Ω (n+1) (.lst ds)=some (.lst es):=by simp only[et,h,Option.map_some]
theorem Bx{n:Nat}{ds es:List D}(h:bz (et Ω n) ds=some es):et Ω (n+1) (.tup ds)=some (.tup es):=by simp only[et,h,Option.map_some]
theorem ki{n k:Nat}{ds es:List D}(a:Ω[k]?=some (.lst ds))(h:bz (et Ω n) ds=some es):et Ω (n+1) (.ref k)=some (.lst es):=by simp only[et,a,h,Option.map_some]
theorem eN{n k:Nat}{xs:List Str}(a:Ω[k]?=some (.lst (xs.map .str))):et Ω (n+1) (.ref k)=some (L1 xs):=ki a ub
@[simp] theorem MV{n:Nat}{ns:List Int}:et Ω (n+1) (SC ns)=some (SC ns):=Bw Bv
@[simp] theorem KG{o:Bool}{i:Int}:fM Ω (.ok (o,.int i))=.ok (.int i) Ω:=rfl
@[simp] theorem Em{o:Bool}{t:Bool}:fM Ω (.ok (o,.bl t))=.ok (.bl t) Ω:=rfl
@[simp] theorem By{o:Bool}{z:Str}:fM Ω (.ok (o,.str z))=.ok (.str z) Ω:=rfl
@[simp] theorem KH{o:Bool}:fM Ω (.ok (o,.non))=.ok .non Ω:=rfl
@[simp] theorem KI:fM Ω .bad=.bad:=rfl
def vN(Ω:az)(f:List D->Out Rs):Option (List D)->ax D
 |some ds=>fM Ω (f ds)
 |none=>.bad
@[simp] theorem uc{f:List D->Out Rs}{ds:List D}:vN Ω f (some ds)=fM Ω (f ds):=rfl
@[simp] theorem ud{f:List D->Out Rs}{xs:List D}:di f xs Ω=vN Ω f (bz (et Ω 8) xs):=by unfold di;cases bz (et Ω 8) xs<;>rfl
def v1(Ω:az)(f:D->Out Rs):Option D->ax D
 |some d=>fM Ω (f d)
 |none=>.bad
@[simp] theorem KJ{f:D->Out Rs}:v1 Ω f (some d)=fM Ω (f d):=rfl
@[simp] theorem KL{f:D->Out Rs}:ve f x Ω=v1 Ω f (et Ω 8 x):=by unfold ve;cases et Ω 8 x<;>rfl
def v2(Ω:az)(f:D->D->Out Rs):Option D->Option D->ax D
 |some d,some e=>fM Ω (f d e)
 |_,_=>.bad
@[simp] theorem kj{f:D->D->Out Rs}{e:D}:v2 Ω f (some d) (some e)=fM Ω (f d e):=rfl
@[simp] theorem iS{f:D->D->Out Rs}:fc f x y Ω=v2 Ω f (et Ω 8 x) (et Ω 8 y):=by unfold fc;cases et Ω 8 x<;>cases et Ω 8 y<;>rfl
@[simp] theorem Hr{z:Str}:xE .len [.str z]=if small z.length=true then .ok (false,.int z.length)else .bad:=rfl
@[simp] theorem yr{xs:List D}:xE .all [.lst xs]=yn (λbs=>bs.all id) (ft xs):=rfl
@[simp] theorem Hs{xs:List D}:xE .any [.lst xs]=yn (λbs=>bs.any id) (ft xs):=rfl
@[simp] theorem dS{F:aL}{xs:List D}:ba F xs Ω=xT (F xs Ω):=rfl
@[simp] theorem fV:xT (.ok d Ω)=.ok d Ω:=rfl
@[simp] theorem kk{op:CmpOp}:cD op x y Ω=v2 Ω (λx y=>do let r ←dD op x y;Out.ok (false,D.bl r)) (et Ω 8 x) (et Ω 8 y):=by unfold cD;rw[iS]
@[simp] theorem ue:aB .Eq x y Ω=hF (cD .Eq x y Ω) (jT x y Ω):=rfl
@[simp] theorem KN:aB .NotEq x y Ω=cD .NotEq x y Ω:=rfl
@[simp] theorem KO:aB .Lt x y Ω=cD .Lt x y Ω:=rfl
@[simp] theorem KP:aB .LtE x y Ω=cD .LtE x y Ω:=rfl
@[simp] theorem KQ:aB .Gt x y Ω=cD .Gt x y Ω:=rfl
@[simp] theorem KR:aB .GtE x y Ω=cD .GtE x y Ω:=rfl
@[simp] theorem km:aB .In x y Ω=hF (cD .In x y Ω) (eS false x y Ω):=rfl
@[simp] theorem fW:aB .NotIn x y Ω=hF (cD .NotIn x y Ω) (eS true x y Ω):=rfl
@[simp] theorem KS:aB .Is x y Ω=hF (ff false x y Ω) (cD .Is x y Ω):=rfl
@[simp] theorem En:aB .IsNot x y Ω=hF (ff true x y Ω) (cD .IsNot x y Ω):=rfl
@[simp] theorem Ht{n:Bool}{k:Nat}:ff n (.ref k) .non Ω=.ok (.bl n) Ω:=rfl
@[simp] theorem FI{n:Bool}{i:Int}:ff n (.int i) y Ω=.bad:=rfl
@[simp] theorem FJ{n:Bool}:ff n .non y Ω=.bad:=rfl
@[simp] theorem Hu{n:Bool}{t:Bool}:ff n (.bl t) y Ω=.bad:=rfl
@[simp] theorem FK{n:Bool}{z:Str}:ff n (.str z) y Ω=.bad:=rfl
@[simp] theorem iT:aY .Add x y Ω=hF (rL x y Ω) (fc (eR .Add) x y Ω):=rfl
@[simp] theorem Hv:aY .Sub x y Ω=fc (eR .Sub) x y Ω:=rfl
@[simp] theorem FL:aY .Mult x y Ω=hF (fc (eR .Mult) x y Ω) (pP x y Ω):=rfl
@[simp] theorem Hw:aY .Mod x y Ω=fc (eR .Mod) x y Ω:=rfl
@[simp] theorem KU:aY .FloorDiv x y Ω=fc (eR .FloorDiv) x y Ω:=rfl
@[simp] theorem KW{i:Int}:dh Ω (.int i)=none:=rfl
@[simp] theorem KY{z:Str}:dh Ω (.str z)=none:=rfl
@[simp] theorem KZ{ds:List D}:dh Ω (.tup ds)=none:=rfl
@[simp] theorem K8{ds:List D}:dh Ω (.lst ds)=some ds:=rfl
theorem aP{k:Nat}{ds:List D}(h:Ω[k]?=some (.lst ds)):dh Ω (.ref k)=some ds:=by simp only[dh,h]
theorem iU{k:Nat}{ds:List D}(h:Ω[k]?=some (.lst ds)):oo Ω (.ref k)=some (k,ds):=by simp only[oo,h]
theorem iV{k:Nat}{C:Str}{a:List (Str×D)}(h:Ω[k]?=some (.ins C a)):ot Ω (.ref k)=some (k,C,a):=by simp only[ot,h]
def ct(Ω:az):Option (List D)->Option (List D)->ax D
 |some xs,some ys=>if small (xs.length+ys.length)then .ok (.ref Ω.length) (Ω++[.lst (xs++ys)])else .bad
 |_,_=>.bad
@[simp] theorem uf{xs a:List D}:ct Ω (some xs) (some a)=if small (xs.length+a.length)then .ok (.ref Ω.length) (Ω++[.lst (xs++a)])else .bad:=rfl
@[simp] theorem Sj{o:Option (List D)}:ct Ω none o=.bad:=rfl
@[simp] theorem ug:rL x y Ω=ct Ω (dh Ω x) (dh Ω y):=by unfold rL;cases dh Ω x<;>cases dh Ω y<;>rfl
@[simp] theorem Bz{ds:List D}:gh Ω (.tup ds)=some ds:=rfl
@[simp] theorem aW{k:Nat}:gh Ω (.ref k)=dh Ω (.ref k):=rfl
@[simp] theorem K9{ds:List D}:gh Ω (.lst ds)=some ds:=rfl
def ixs(Ω:az):Option (List D)->D->ax D
 |some ds,.int i=>match L2.jh ds i with
  |some d=>.ok d Ω
  |none=>.bad
 |_,_=>.bad
theorem fX:Ar x y Ω=ixs Ω (gh Ω x) y:=by unfold Ar;cases gh Ω x<;>cases y<;>rfl
theorem sr{ds:List D}{i:Int}(h:L2.jh ds i=some d):ixs Ω (some ds) (.int i)=.ok d Ω:=by simp only[ixs,h]
theorem bL{k:Nat}{ds:List D}{i:Int}(h:Ω[k]?=some (.lst ds))(a:L2.jh ds i=some d):aC (.ref k) (.int i) Ω=.ok d Ω:=by
 unfold aC;rw[dw,fX,aW,aP h,sr a];rfl
theorem iW{ds:List D}{i:Int}(a:L2.jh ds i=some d):aC (.tup ds) (.int i) Ω=.ok d Ω:=by
 unfold aC;rw[dw,fX,Bz,sr a];rfl
@[simp] theorem oC{xs:List D}:bH xs Ω=if small xs.length then .ok (.ref Ω.length) (Ω++[.lst xs])else .bad:=rfl
@[simp] theorem oD{xs:List D}:hH xs Ω=if small xs.length then .ok (.tup xs) Ω else .bad:=rfl
def fl(Ω:az)(Cs:List Str)(f:Str):Option (Nat×Str×List (Str×D))->ax D
 |some (_,C,fs)=>if Cs.contains C then (match fs.lookup f with
  |some d=>.ok d Ω
  |none=>.bad)else .bad
 |none=>.bad
theorem cM{Cs:List Str}{f C:Str}{k:Nat}{a:List (Str×D)}(h:Ω[k]?=some (.ins C a))(b:Cs.contains C=true)(c:a.lookup f=some d):aZ Cs f (.ref k) Ω=.ok d Ω:=by
 unfold aZ;rw[iV h];simp only[b,if_true,c]
noncomputable def sq(r:gi)(b:SM):gi:=match r with
 |.nx a c=>b a c
 |r=>r
@[simp] theorem aw:sq (.nx ρ Ω) b=b ρ Ω:=rfl
@[simp] theorem Hz:sq (.rt d Ω) b=.rt d Ω:=rfl
@[simp] theorem Sk:sq (.bk ρ Ω) b=.bk ρ Ω:=rfl
@[simp] theorem Sl:sq (.ct ρ Ω) b=.ct ρ Ω:=rfl
@[simp] theorem MW:sq (.exc d Ω) b=.exc d Ω:=rfl
@[simp] theorem MX:sq .bad b=.bad:=rfl
@[simp] theorem ae:ak a b ρ Ω=sq (a ρ Ω) b:=by unfold ak;cases a ρ Ω<;>rfl
@[simp] theorem gM:aj ρ Ω=.nx ρ Ω:=rfl
@[simp] theorem bq{i:Nat}:aH i ma ρ Ω=cu (ma ρ Ω) λd aS=>.nx (ρ.set i (some d)) aS:=rfl
@[simp] theorem cm:cA ma ρ Ω=cu (ma ρ Ω) λ_ aS=>.nx ρ aS:=rfl
@[simp] theorem b_:bD ma ρ Ω=cu (ma ρ Ω) λd aS=>.rt d aS:=rfl
@[simp] theorem HD:qf ρ Ω=.rt .non Ω:=rfl
@[simp] theorem cY:dG ma a b ρ Ω=cu (dE (ma ρ Ω)) λt aS=>if t=true then a ρ aS else b ρ aS:=rfl
@[simp] theorem K_{b:List Nat}:xN b ma ρ Ω=cu (ma ρ Ω) λd aS=>match iK b d ρ with|some a=>.nx a aS|none=>.bad:=rfl
@[simp] theorem FN{a:List Nat}{ds:List D}:iK a (.tup ds) ρ=if ds.length=a.length then some (fQ a ds ρ)else none:=rfl
@[simp] theorem BA{i:Nat}{a:List Nat}{ds:List D}:fQ (i::a) (d::ds) ρ=fQ a ds (ρ.set i (some d)):=rfl
@[simp] theorem CI{ds:List D}:fQ [] ds ρ=ρ:=by cases ds<;>rfl
@[simp] theorem BB:iM (.rt d Ω)=.ok d Ω:=rfl
@[simp] theorem La:iM (.nx ρ Ω)=.ok .non Ω:=rfl
theorem aU{n k:Nat}{c:SM}{ds:List D}(h:ds.length=k):aO n k c ds Ω=iM (c (aM n ds) Ω):=by unfold aO;rw[if_pos h]
@[simp] theorem cf:bG ma ρ Ω=(ma ρ Ω).bind λx aS=>srcOf aS x:=rfl
theorem bZ{ds:List D}(h:gh Ω x=some ds):srcOf Ω x=.ok (.seq x) Ω:=by unfold srcOf;rw[h]
@[simp] theorem HE:dW as ρ Ω=(as ρ Ω).bind tN:=rfl
@[simp] theorem Lb{j:Int}:tN [.int j] Ω=if jk j then .ok (.ints 0 j.toNat) Ω else .bad:=rfl
@[simp] theorem dc:eT (.seq x) Ω=gh Ω x:=rfl
@[simp] theorem HF{a:Int}{n:Nat}:eT (.ints a n) Ω=some (intsFrom a n):=rfl
@[simp] theorem de{a:D->aV->Option aV}{mi:IM}:ek a mi b ρ Ω=cu (mi ρ Ω) λs aS=>eM a s b fuel 0 ρ aS:=rfl
def yt(r:gi)(I:aV->az->Prop)(R:gi->Prop):Prop:=match r with
 |.nx a b=>I a b
 |.ct a b=>I a b
 |.bk a b=>R (.nx a b)
 |r=>R r
theorem cp{k:D->aV->Option aV}{src:Src}{b:SM}{ds:List D}(I:Nat->aV->az->Prop){R:gi->Prop}(l:∀i ρ Ω,I i ρ Ω->eT src Ω=some ds)
  (h:∀(i:Nat) (d:D) ρ Ω,ds[i]?=some d->I i ρ Ω->∃e,k d ρ=some e/\yt (b e Ω) (I (i+1)) R) (p:∀ρ Ω,I ds.length ρ Ω->R (.nx ρ Ω)) :
  ∀(f i:Nat) ρ Ω,ds.length - i<f->i<=ds.length->I i ρ Ω->R (eM k src b f i ρ Ω):=by
 intro f
 induction f with
 |zero=>intro i ρ Ω r;omega
 |succ f o=>
  intro i ρ Ω r t n;simp only[eM,l i ρ Ω n]
  by_cases j:i<ds.length
  .have m:ds[i]?=some ds[i]:=List.getElem?_eq_getElem j
   rw[m];dsimp only;obtain⟨e,s,c⟩:=h i ds[i] ρ Ω m n;rw[s];dsimp only;cases q:b e Ω with
   |nx g a=>rw[q]at c;exact o (i+1) g a (by omega) j c
   |ct g a=>rw[q]at c;exact o (i+1) g a (by omega) j c
   |bk g a=>rw[q]at c;exact c
   |rt d a=>rw[q]at c;exact c
   |exc x a=>rw[q]at c;exact c
   |bad=>rw[q]at c;exact c
  .have m:ds[i]?=none:=List.getElem?_eq_none (by omega)
   rw[m];have:i=ds.length:=by omega
   subst this;exact p ρ Ω n
theorem BC{nc:Bool}{mc me:EM}{c:aV}{src:Src}{ds:List D}{p:D->Bool}{g:D->D}(k:eT src Ω=some ds)(l:∀d∈ds,jV nc mc ([some d]++c) Ω=.ok (p d) Ω)(m:∀d∈ds,p d=true->me ([some d]++c) Ω=.ok (g d) Ω) :
  ∀(f i:Nat) (a:List D),ds.length - i<f->i<=ds.length->a.length+ds.length<=100000+i->vT nc mc me 0 c src f i a Ω=.ok (a++((ds.drop i).filter p).map g) Ω:=by
 intro f
 induction f with
 |zero=>intro i a o;omega
 |succ f h=>
  intro i a o s t;simp only[vT,k]
  by_cases b:i<ds.length
  .have e:ds[i]?=some ds[i]:=List.getElem?_eq_getElem b
   have j:ds[i]∈ds:=List.getElem_mem b;rw[e];have q:qa 0 ds[i]=some [some ds[i]]:=rfl;simp only[q];rw[if_pos (aG (n:=a.length+1) (by omega)),l _ j,List.drop_eq_getElem_cons b,List.filter_cons]
   cases r:p ds[i]with
   |true=>
    dsimp only;rw[m _ j r];dsimp only;rw[h (i+1) _ (by omega) b (by rw[List.length_append];simp;omega)]
    simp
   |false=>
    dsimp only;rw[h (i+1) _ (by omega) b (by omega)]
    simp
  .have e:ds[i]?=none:=List.getElem?_eq_none (by omega)
   rw[e,List.drop_of_length_le (by omega)]
   simp
theorem cZ{me mc:EM}{nc:Bool}{mi:IM}{cap:List Nat}{src:Src}{ds:List D}{p:D->Bool}{g:D->D}(a:mi ρ Ω=.ok src au)(b:eT src au=some ds)(c:∀d∈ds,jV nc mc ([some d]++ej cap ρ) au=.ok (p d) au)(e:∀d∈ds,p d=true->me ([some d]++ej cap ρ) au=.ok (g d) au)(f:ds.length<=90000) :
  cJ me nc mc mi 0 cap ρ Ω=.ok (.ref au.length) (au++[.lst ((ds.filter p).map g)]):=by
 unfold cJ;rw[a];dsimp only;rw[BC b c e fuel 0 [] (by unfold fuel;omega) (Nat.zero_le _) (by simp;omega)]
 rfl
theorem cw{k:Nat}{c:Cell}{l:az}(h:Ω[k]?=some c):(Ω++l)[k]?=some c:=by rw[List.getElem?_append_left (List.getElem?_eq_some_iff.mp h).1];exact h
theorem av{c:Cell}{l:az}:(Ω++c::l)[Ω.length]?=some c:=by rw[List.getElem?_append_right (Nat.le_refl _)];simp
theorem bj{j k:Nat}{c e:Cell}(h:Ω[k]?=some c)(a:k≠j):(Ω.set j e)[k]?=some c:=by rw[List.getElem?_set_ne (Ne.symm a)];exact h
theorem aA{k:Nat}{c e:Cell}(h:Ω[k]?=some c):(Ω.set k e)[k]?=some e:=List.getElem?_set_self (List.getElem?_eq_some_iff.mp h).1
theorem bp{k:Nat}{c:Cell}(h:Ω[k]?=some c):k<Ω.length:=(List.getElem?_eq_some_iff.mp h).1
structure ag(fp:List Nat)(Ω au:az):Prop where
 len:Ω.length<=au.length
 get:∀k c,Ω[k]?=some c->k∉fp->au[k]?=some c
theorem ag.refl{fp:List Nat}:ag fp Ω Ω:=⟨Nat.le_refl _,λ_ _ h _=>h⟩
theorem ag.trans{fp:List Nat}{aS a b:az}(h:ag fp aS a)(h':ag fp a b):ag fp aS b:=⟨Nat.le_trans h.len h'.len,λk c q n=>h'.get k c (h.get k c q n) n⟩
theorem ag.app{fp:List Nat}{l:az}:ag fp Ω (Ω++l):=⟨by simp,λk c h _=>cw h⟩
theorem ag.set{fp:List Nat}{j:Nat}{c:Cell}(h:j∈fp):ag fp Ω (Ω.set j c):=⟨by simp,λk e q n=>bj q λz=>n (z▸h)⟩
theorem ag.sub{fp a:List Nat}(h:ag fp Ω au)(b:∀k∈fp,k∈a):ag a Ω au:=⟨h.len,λk c q n=>h.get k c q λz=>n (b k z)⟩
end
section
variable{Ω au:az}{ρ:aV}{d x y:D}{k:Nat}{ws:List Str}{w:Str}{L:List (List Str)}{rs:List Nat}
theorem Eo{n:Nat}{kvs:List (List Key×D)}(h:Ω[k]?=some (.dT kvs)):et Ω (n+1) (.ref k)=none:=by simp only[et,h]
theorem yu{y:D}{a:List Key}{kvs:List (List Key×D)}(h:Ω[k]?=some (.dT kvs))(b:mS y=some a):n8 Ω (.ref k) y=some (bx kvs a):=by simp only[n8,h,b,Option.map_some]
theorem vI{ds:List D}(h:Ω[k]?=some (.lst ds)):bo .tuple [.ref k] Ω=.ok (.tup ds) Ω:=by
 show lp [.ref k] Ω=_
 simp only[lp,aP h]
theorem eE{ds:List D}(h:Ω[k]?=some (.lst ds)):bo .len [.ref k] Ω=.ok (.int ds.length) Ω:=by
 show hF (oj [.ref k] Ω) _=_
 simp only[oj,aW,aP h];rfl
theorem ik{ds:List D}{d:D}(h:Ω[k]?=some (.lst ds))(a:ds.length<=1000):dq (.ref k) [d] Ω=.ok .non (Ω.set k (.lst (ds++[d]))):=by
 simp only[dq,iU h];rw[if_pos (aG (by omega))]
theorem fY{ds:List D}(h:Ω[k]?=some (.lst ds)):kf Ω (.ref k)=true:=by simp only[kf,aP h];rfl
theorem oF(h:Ω[k]?=some (.lst (ws.map .str))):aB .In (.str w) (.ref k) Ω=.ok (.bl (decide (w∈ws))) Ω:=by
 simp[eN (n:=7) h]
theorem ko(h:Ω[k]?=some (.lst (ws.map .str))):aB .NotIn (.str w) (.ref k) Ω=.ok (.bl (!decide (w∈ws))) Ω:=by
 simp[eN (n:=7) h]
theorem HG{c d:Type}[BEq c][LawfulBEq c]{f:c->d}{p:d->Bool}{a:c}(g:∀b,p (f b)=(b==a)):∀(xs:List c),a∈xs->(xs.map f).findIdx? p=some (xs.idxOf a)
 |[],h=>by simp at h
 |b::xs,h=>by
  rw[List.map_cons,List.findIdx?_cons,g,List.idxOf_cons];cases e:b==a with
  |true=>rfl
  |false=>
   have i:a∈xs:=by
    rcases List.mem_cons.mp h with z|z
    .rw[z,beq_self_eq_true]at e;cases e
    .exact z
   simp[HG g xs i]
theorem su(h:w∈ws):rq .index (.lst (ws.map .str)) (.tup [.str w])=.ok (false,.int (ws.idxOf w:Nat)):=by
 have e:(ws.map D.str).findIdx? (λy=>ed y (.str w))=some (ws.idxOf w):=HG (λb=>rfl) ws h
 unfold rq;simp only[oz 8 ws,e];rfl
theorem vJ(h:Ω[k]?=some (.lst (ws.map .str)))(a:w∈ws):fg (.ref k) [.str w] Ω=.ok (.int (ws.idxOf w:Nat)) Ω:=by
 have:=su a;simp only[fg,iS,eN (n:=7) h,gZ,kj,L1,this];rfl
theorem qx{n:Nat}(a:Ω[k]?=some (.lst (rs.map .ref)))(h:aE (λj row=>Ω[j]?=some (.lst (row.map .str))) rs L):et Ω (n+2) (.ref k)=some (LL L):=by
 refine ki (es:=L.map L1) a ?_;clear a
 induction h with
 |nil=>rfl
 |cons b d c=>rw[List.map_cons,ua,eN b,c];rfl
theorem HH:inD (L1 ws) (LL L)=.ok (decide (ws∈L)):=by
 have e:(L.map L1).any (λy=>ed y (L1 ws))=decide (ws∈L):=by
  induction L with
  |nil=>rfl
  |cons a L b=>
   rw[List.map_cons,List.any_cons,b,MO]
   by_cases q:a=ws
   .simp[q]
   .simp[q,Ne.symm q]
 have o:(L.map L1).all (aI 8)=true:=by
  induction L with
  |nil=>rfl
  |cons a L b=>simp
 show(if (aI 8 (L1 ws)&&(L.map L1).all (aI 8))=true then _ else _)=_
 rw[e,o,MN];rfl
theorem yw{j:Nat}(a:Ω[j]?=some (.lst (ws.map .str)))(b:Ω[k]?=some (.lst (rs.map .ref)))(h:aE (λj row=>Ω[j]?=some (.lst (row.map .str))) rs L):aB .NotIn (.ref j) (.ref k) Ω=.ok (.bl (!decide (ws∈L))) Ω:=by
 simp[qx (n:=6) b h,eN (n:=7) a,HH]
theorem fZ{C m:Str}{F:aL}{c:EM}{d:AM}{a:List (Str×D)}(e:c ρ Ω=.ok (.ref k) au)(f:au[k]?=some (.ins C a))(g:a.lookup m=none):aD C m F c d ρ Ω=(d ρ au).bind λxs b=>xT (F (.ref k::xs) b):=by
 unfold aD;rw[e]
 show(match ot au (.ref k)with|some (_,h,a)=>_|none=>_)=_
 rw[iV f];simp only[g,and_self,if_true];rfl
theorem jw{a:az->D->Bool}{f:D->List D->az->ax D}{c:EM}{d:AM}(e:c ρ Ω=.ok x au)(h:a au x=true):cE a f c d ρ Ω=(d ρ au).bind λxs b=>f x xs b:=by
 unfold cE;rw[e]
 show(if a au x=true then _ else _)=_
 rw[if_pos h]
end
variable [aK]
section
variable{Ω au aS AY:az}{ρ:aV}{k q:Nat}{x y:D}
theorem ag.new{fp:List Nat}(h:ag [] Ω aS)(h':ag fp aS AY)(a:∀j∈fp,Ω.length<=j):ag [] Ω AY:=⟨Nat.le_trans h.len h'.len,λk c e _=>h'.get k c (h.get k c e (by simp)) λz=>by have:=a k z;have:=bp e;omega⟩
theorem yx.up{fp:List Nat}(h:ag [] Ω au):ag fp Ω au:=h.sub (by simp)
@[simp] theorem HI{z:Str}:aC (.str z) y Ω=v2 Ω rn (some (.str z)) (et Ω 8 y):=by
 unfold aC;rw[dw,dw,fX,iS];simp[gh,dh,ixs,xC,n8]
@[simp] theorem HJ{z:Str}{l h:Option Int}:oh (.str z) l h Ω=fM Ω (wN (.str z) l h):=rfl
@[simp] theorem iX{c d e:EM}{f g:Bool}:eu c f d g e ρ Ω=(c ρ Ω).bind λx aS=>(gC f d ρ aS).bind λl a=>(gC g e ρ a).bind λh b=>oh x l h b:=rfl
@[simp] theorem oG{m:EM}:gC true m ρ Ω=.ok none Ω:=rfl
noncomputable def Sm(Ω:az):D->ax (Option Int)
 |.int i=>.ok (some i) Ω
 |_=>.bad
@[simp] theorem oH{m:EM}:gC false m ρ Ω=(m ρ Ω).bind λd aS=>Sm aS d:=by
 simp only[gC,Bool.false_eq_true,if_false]
 congr 1
@[simp] theorem uh{i:Int}:Sm Ω (.int i)=.ok (some i) Ω:=rfl
end
def nC:EM:=cJ (m2 aC (aa 2) (m2 (aY .Mod) (m2 (aY .Add) (aa 1) (m2 (aY .Mult) (aa 0) (aa 3))) (ah (.int 26)))) true (ah .non) (dW (ab (ah (.int 8)) af)) 0 [4,3,5]
def nD:EM:=cJ (eu (aa 1) true (ah .non) false (m2 (aY .Add) (aa 0) (ah (.int 1)))) true (ah .non) (dW (ab (aa 2) af)) 0 [6]
section
variable{Ω:az}{F:List D->Out Rs}{δ:List Int->Int->Int->Int}{ns:List Int}
end
section
variable{κ β:Type}[DecidableEq κ]
theorem cC{p:κ×β}{kvs:List (κ×β)}{k:κ}:bx (p::kvs) k=if p.1=k then some p.2 else bx kvs k:=by
 unfold bx;rw[List.find?_cons]
 by_cases h:p.1=k<;>simp[h]
theorem qy{k a:κ}{v:c}:∀{kvs:List (κ×c)},bx (kvs.map λb=>if b.1=k then (b.1,v)else b) a=if a=k then (bx kvs k).map λ_=>v else bx kvs a
 |[]=>by simp[bx]
 |p::kvs=>by
  rw[List.map_cons,cC,cC,cC,qy]
  by_cases h:p.1=k
  .rw[if_pos h]
   by_cases h':a=k
   .subst h';simp[h]
   .have:¬ k=a:=λe=>h' e.symm
    simp[h,h',this]
  .rw[if_neg h]
   by_cases h':a=k
   .subst h';simp[h]
   .simp[h']
theorem qz{k a:κ}{v:b}:∀{kvs:List (κ×b)},bx (kvs++[(k,v)]) a=match bx kvs a with|some d=>some d|none=>if a=k then some v else none
 |[]=>by
  rw[List.nil_append,cC]
  by_cases h:k=a
  .subst h;simp[bx]
  .have:¬ a=k:=λe=>h e.symm
   simp[bx,h,this]
 |p::kvs=>by
  rw[List.cons_append,cC,cC,qz]
  by_cases h:p.1=a<;>simp[h]
theorem lM{k:κ}:∀{kvs:List (κ×b)},(kvs.any λa=>decide (a.1=k))=(bx kvs k).isSome
 |[]=>rfl
 |p::kvs=>by
  rw[List.any_cons,cC,lM]
  by_cases h:p.1=k<;>simp[h]
theorem vK{kvs:List (κ×β)}{k a:κ}{v:β}:bx (bI kvs k v) a=if a=k then some v else bx kvs a:=by
 unfold bI;rw[lM];cases h:bx kvs k with
 |none=>
  rw[Option.isSome_none,if_neg (by simp),qz]
  by_cases b:a=k
  .subst b;simp[h]
  .cases q:bx kvs a<;>simp[b]
 |some d=>
  rw[Option.isSome_some,if_pos rfl,qy,h]
  by_cases b:a=k<;>simp[b]
theorem yy{kvs:List (κ×β)}{k:κ}{v:β}:(bI kvs k v).length<=kvs.length+1:=by
 unfold bI;split<;>simp
end
section
variable{Ω au:az}{F:List D->Out Rs}{δ:List Int->Int->Int->Int}{ns:List Int}{t:Nat}{kvs:List (List Key×D)}
theorem fj{xs:List Str}{i:Nat}{d:D}(h:(xs.map D.str)[i]?=some d):∃x,xs[i]?=some x/\d=.str x:=by
 rw[List.getElem?_map]at h;obtain⟨x,a,b⟩:=Option.map_eq_some_iff.mp h;exact⟨x,a,b.symm⟩
end
theorem mZ{O:aL}{ds:List D}{d:D}{au:az}(a:ds.all Eg=true)(h:O ds []=.ok d au)(b:eV d=true):pureOf O ds=.ok (false,d):=by
 unfold pureOf;rw[if_pos a,h];dsimp only;rw[if_pos b]
def HK:SM:=(ak (aH 3 (m2 (aY .FloorDiv) (aa 3) (ah (.int 840)))) aj)
def HL:SM:=(dG (fC (m2 (aB .Eq) (m2 (aY .Mod) (aa 0) (ah (.int 2))) (ah (.int 1))) (m2 (aB .Gt) (aa 0) (m2 (aY .Pow) (ah (.int 10)) (ah (.int 18)))))
 (ak (ek (cP 4) (dW (ab (aa 1) af)) HK)
 (ak (bD (m2 (aY .Mod) (m2 (aY .Mod) (aa 3) (ah (.int 840))) (aa 2)))
 aj))
 aj)
def Sn:SM:=(ak (aH 5 (mN bH (ab (ah (.int 48271)) (ab (ah (.int 69621)) (ab (ah (.int 40692)) (ab (ah (.int 39373)) (ab (ah (.int 16807)) (ab (ah (.int 30323)) (ab (ah (.int 21403)) (ab (ah (.int 62089)) (ab (ah (.int 45742)) (ab (ah (.int 37907)) (ab (ah (.int 53611)) (ab (ah (.int 28411)) (ab (ah (.int 59393)) (ab (ah (.int 33391)) af))))))))))))))))
 (ak (aH 6 (m2 (aY .Mod) (m2 (aY .Mult) (m2 (aY .Add) (m2 (aY .Mod) (aa 0) (ah (.int 1000000007))) (ah (.int 11))) (m2 aC (aa 5) (m2 (aY .Mod) (aa 1) (ah (.int 14))))) (ah (.int 2147483629))))
 (ak (aH 7 (m2 (aY .Mod) (m2 (aY .Mult) (aa 6) (m2 (aY .Add) (aa 6) (aa 1))) (ah (.int 1999999973))))
 (ak (bD (m2 (aY .Mod) (m2 (aY .FloorDiv) (m2 (aY .Mod) (m2 (aY .Mult) (aa 7) (ah (.int 16807))) (ah (.int 998244353))) (ah (.int 1000))) (aa 2)))
 aj))))
def m8:SM:=
 (ak (aH 3 (m2 (aY .FloorDiv) (aa 0) (ah (.int 2))))
 (ak HL Sn))
@[simp] theorem HM{x y:D}{Ω:az}:aY .Pow x y Ω=fc (eR .Pow) x y Ω:=rfl
theorem BD{c t m:Int}(K:0<=t)(u:t<100000)(g:0<m):∃r,0<=r/\r<m/\pureOf (aO 8 3 m8) [.int c,.int t,.int m]=.ok (false,.int r):=by
 have j:∃r b,0<=r/\r<m/\aO 8 3 m8 [.int c,.int t,.int m] []=.ok (.int r) b:=by
  rw[aU (by rfl)]
  have w:aM 8 [D.int c,.int t,.int m]=[some (.int c),some (.int t),some (.int m),none,none,none,none,none]:=rfl;rw[w];unfold m8;have y:(aH 3 (m2 (aY .FloorDiv) (aa 0) (ah (.int 2)))) [some (.int c),some (.int t),some (.int m),none,none,none,none,none] []=.nx [some (.int c),some (.int t),some (.int m),some (.int (c / 2)),none,none,none,none] []:=by simp
  rw[ae,y,aw,ae]
  by_cases k:c%2=1/\1000000000000000000<c
  .have l:jk t=true:=e8 (by omega) (by omega)
   have n:∃x a,eM (cP 4) (.ints 0 t.toNat) HK fuel 0 [some (.int c),some (.int t),some (.int m),some (.int (c / 2)),none,none,none,none] []=.nx [some (.int c),some (.int t),some (.int m),some (.int x),a,none,none,none] []:=by
    refine cp (R:=λr=>∃x a,r=.nx [some (.int c),some (.int t),some (.int m),some (.int x),a,none,none,none] []) (ds:=intsFrom 0 t.toNat) (λ_ o p=>∃x a,o=[some (.int c),some (.int t),some (.int m),some (.int x),a,none,none,none]/\p=[]) (λ_ _ _ _=>rfl) ?_ ?_ fuel 0 _ _ (by rw[dP];unfold fuel;omega) (Nat.zero_le _) ⟨_,_,rfl,rfl⟩
    .rintro i d o p q ⟨x,a,rfl,rfl⟩
     refine⟨_,rfl,?_⟩;have e:HK [some (.int c),some (.int t),some (.int m),some (.int x),some d,none,none,none] []=.nx [some (.int c),some (.int t),some (.int m),some (.int (x / 840)),some d,none,none,none] []:=by simp[HK]
     show yt (HK [some (.int c),some (.int t),some (.int m),some (.int x),some d,none,none,none] []) _ _
     rw[e];exact⟨_,_,rfl,rfl⟩
    .rintro o p ⟨x,a,rfl,rfl⟩
     exact⟨x,a,rfl⟩
   obtain⟨x,a,n⟩:=n;refine⟨x%840%m,[],Int.emod_nonneg _ (by omega),Int.emod_lt_of_pos _ g,?_⟩
   simp[HL,k.1,k.2,l,n,g]
  .obtain⟨d,q,e⟩:=Ei (xs:=[D.int 48271,.int 69621,.int 40692,.int 39373,.int 16807,.int 30323,.int 21403,.int 62089,.int 45742,.int 37907,.int 53611,.int 28411,.int 59393,.int 33391]) (i:=t%14) (Int.emod_nonneg _ (by omega)) (Int.emod_lt_of_pos _ (by omega))
   obtain⟨v,rfl⟩:∃v,d=.int v:=by
    simp only[List.mem_cons,List.not_mem_nil,or_false]at q;rcases q with h|h|h|h|h|h|h|h|h|h|h|h|h|h<;>exact⟨_,h⟩
   have A:([]++[Cell.lst [D.int 48271,.int 69621,.int 40692,.int 39373,.int 16807,.int 30323,.int 21403,.int 62089,.int 45742,.int 37907,.int 53611,.int 28411,.int 59393,.int 33391]]:az)[0]?=some (.lst [D.int 48271,.int 69621,.int 40692,.int 39373,.int 16807,.int 30323,.int 21403,.int 62089,.int 45742,.int 37907,.int 53611,.int 28411,.int 59393,.int 33391]):=rfl;have s:=bL A e;have B:jj (c%1000000007+11)=true:=iR (by omega) (by omega)
   have C:jj ((c%1000000007+11)*v%2147483629)=true:=iR (by omega) (by omega)
   have E:jj ((c%1000000007+11)*v%2147483629*((c%1000000007+11)*v%2147483629+t)%1999999973)=true:=iR (by omega) (by omega)
   have rI:HL [some (.int c),some (.int t),some (.int m),some (.int (c / 2)),none,none,none,none] []=.nx [some (.int c),some (.int t),some (.int m),some (.int (c / 2)),none,none,none,none] []:=by
    by_cases f:c%2=1
    .have F:¬ 1000000000000000000<c:=λz=>k ⟨f,z⟩
     simp[HL,f,F]
    .have G:(c%2==1)=false:=by simpa using f
     simp[HL,G]
   refine⟨(c%1000000007+11)*v%2147483629*((c%1000000007+11)*v%2147483629+t)%1999999973*16807%998244353 / 1000%m,([]++[Cell.lst [D.int 48271,.int 69621,.int 40692,.int 39373,.int 16807,.int 30323,.int 21403,.int 62089,.int 45742,.int 37907,.int 53611,.int 28411,.int 59393,.int 33391]]:az),Int.emod_nonneg _ (by omega),Int.emod_lt_of_pos _ g,?_⟩
   rw[rI,aw];have H:(aH 5 (mN bH (ab (ah (.int 48271)) (ab (ah (.int 69621)) (ab (ah (.int 40692)) (ab (ah (.int 39373)) (ab (ah (.int 16807)) (ab (ah (.int 30323)) (ab (ah (.int 21403)) (ab (ah (.int 62089)) (ab (ah (.int 45742)) (ab (ah (.int 37907)) (ab (ah (.int 53611)) (ab (ah (.int 28411)) (ab (ah (.int 59393)) (ab (ah (.int 33391)) af)))))))))))))))) [some (.int c),some (.int t),some (.int m),some (.int (c / 2)),none,none,none,none] []=.nx [some (.int c),some (.int t),some (.int m),some (.int (c / 2)),none,some (.ref 0),none,none] ([]++[Cell.lst [D.int 48271,.int 69621,.int 40692,.int 39373,.int 16807,.int 30323,.int 21403,.int 62089,.int 45742,.int 37907,.int 53611,.int 28411,.int 59393,.int 33391]]):=rfl;unfold Sn;rw[ae,H,aw];generalize ([]++[Cell.lst [D.int 48271,.int 69621,.int 40692,.int 39373,.int 16807,.int 30323,.int 21403,.int 62089,.int 45742,.int 37907,.int 53611,.int 28411,.int 59393,.int 33391]]:az)=I at s;simp[s,B,C,E,g]
 obtain⟨r,b,J,f,e⟩:=j;exact⟨r,J,f,mZ rfl e rfl⟩
section
variable{Ω au:az}{ρ:aV}
theorem Ep{mc me:EM}{g:aV}{src:Src}{ds:List D}(I:Nat->List D->az->Prop)(k:∀i a Ω,I i a Ω->eT src Ω=some ds)(l:∀i d a Ω,ds[i]?=some d->I i a Ω->∃y au,me ([some d]++g) Ω=.ok y au/\I (i+1) (a++[y]) au) :
  ∀(f i:Nat) (a:List D) Ω,I i a Ω->ds.length - i<f->i<=ds.length->a.length+ds.length<=100000+i->∃j au,vT true mc me 0 g src f i a Ω=.ok j au/\I ds.length j au:=by
 intro f
 induction f with
 |zero=>intro i a Ω c m;omega
 |succ f o=>
  intro i a Ω c m t u;simp only[vT,k i a Ω c]
  by_cases b:i<ds.length
  .have e:ds[i]?=some ds[i]:=List.getElem?_eq_getElem b
   rw[e];have p:qa 0 ds[i]=some [some ds[i]]:=rfl;obtain⟨y,h,q,r⟩:=l i ds[i] a Ω e c;have s:jV true mc ([some ds[i]]++g) Ω=.ok true Ω:=rfl;simp only[p];rw[if_pos (aG (n:=a.length+1) (by omega)),s]
   dsimp only;rw[q];dsimp only;exact o (i+1) (a++[y]) h r (by omega) b (by rw[List.length_append];simp;omega)
  .have e:ds[i]?=none:=List.getElem?_eq_none (by omega)
   rw[e];have:i=ds.length:=by omega
   subst this;exact⟨a,Ω,rfl,c⟩
theorem kr{me mc:EM}{mi:IM}{cap:List Nat}{src:Src}{ds:List D}(I:Nat->List D->az->Prop)(e:mi ρ Ω=.ok src au)(f:I 0 [] au)(g:∀i b Ω,I i b Ω->eT src Ω=some ds)(h:∀i d b Ω,ds[i]?=some d->I i b Ω->∃y au,me ([some d]++ej cap ρ) Ω=.ok y au/\I (i+1) (b++[y]) au)(l:ds.length<=90000) :
  ∃c a,cJ me true mc mi 0 cap ρ Ω=.ok (.ref a.length) (a++[.lst c])/\I ds.length c a:=by
 obtain⟨c,a,j,k⟩:=Ep (mc:=mc) I g h fuel 0 [] au f (by unfold fuel;omega) (Nat.zero_le _) (by simp;omega)
 refine⟨c,a,?_,k⟩;unfold cJ;rw[e];dsimp only;rw[j];rfl
def Lc(Ω:az)(j:Nat)(row:List Str):Prop:=Ω[j]?=some (.lst (row.map .str))
def oJ(Ω:az)(a:List Nat)(rs:List (List Str)):Prop:=aE (Lc Ω) a rs
structure Rw(Ω:az)(k:Nat)(js:List Nat)(rs:List (List Str)):Prop where
 ce:Ω[k]?=some (.lst (js.map .ref))
 al:oJ Ω js rs
section
variable{k:Nat}{js:List Nat}{rs:List (List Str)}{row:List Str}{n:Str}
theorem oJ.keep:∀{a:List Nat}{rs:List (List Str)},oJ Ω a rs->∀{fp:List Nat},ag fp Ω au->(∀j∈a,j∉fp)->oJ au a rs
 |_,_,.nil,_,_,_=>.nil
 |_,_,.cons r t,fp,K,h=>.cons (K.get _ _ r (h _ (by simp))) (oJ.keep t K λj b=>h j (by simp[b]))
theorem Rw.keep(R:Rw Ω k js rs)(K:ag [] Ω au):Rw au k js rs:=⟨K.get _ _ R.ce (by simp),R.al.keep K (by simp)⟩
theorem Rw.m9(R:Rw Ω k js rs){fp:List Nat}(K:ag fp Ω au)(a:k∉fp)(b:∀j∈js,j∉fp):Rw au k js rs:=⟨K.get _ _ R.ce a,R.al.keep K b⟩
theorem oJ.len(h:oJ Ω js rs):rs.length=js.length:=aE.length h
theorem Rw.len(R:Rw Ω k js rs):rs.length=js.length:=R.al.len
theorem oJ.at{i:Nat}{row:List Str}(h:oJ Ω js rs)(a:rs[i]?=some row):∃j,js[i]?=some j/\Ω[j]?=some (.lst (row.map .str)):=aE.DS (R:=Lc Ω) h a
theorem oJ.at'{i j:Nat}(h:oJ Ω js rs)(a:js[i]?=some j):∃row,rs[i]?=some row/\Ω[j]?=some (.lst (row.map .str)):=aE.get (R:=Lc Ω) h a
theorem oJ.lt(h:oJ Ω js rs):∀j∈js,j<Ω.length:=λj a=>by
 obtain⟨i,b⟩:=List.mem_iff_getElem?.mp a;obtain⟨c,_,d⟩:=h.at' b;exact bp d
theorem Er{a:List Nat}{i:Nat}{d:D}(h:(a.map D.ref)[i]?=some d):∃j,a[i]?=some j/\d=.ref j:=by
 rw[List.getElem?_map]at h;obtain⟨x,b,c⟩:=Option.map_eq_some_iff.mp h;exact⟨x,b,c.symm⟩
def UC:SM:=(ak (dG (m2 (aB .In) (aa 1) (eu (aa 3) false (ah (.int 1)) true (ah .non))) (ak (bD (aa 2)) aj) aj) aj)
def MY:SM:=(ak (ek (iK [2,3]) (vq (aa 0)) UC) (ak (bD (ah .non)) aj))
def UD(a:aL):SM:=(ak (dG (fC (aa 1) (m2 (aB .Is) (mN (ba a) (ab (aa 0) (ab (m2 aC (aa 1) (ah (.int 0))) af))) (ah .non))) (ak (bD (m2 aC (aa 1) (ah (.int 0)))) aj) aj) aj)
def MZ(a:aL):SM:=(ak (ek (cP 1) (bG (aa 0)) (UD a)) (ak (bD (ah .non)) aj))
theorem qA{j:Nat}{ds:List D}(h:Ω[j]?=some (.lst ds)):gw Ω (.ref j)=some (!ds.isEmpty):=by simp only[gw,h]
end
end
open PySem.Spec PyProof.Rows
noncomputable def aN.bQ(T:aN)(F:List D->aL):aN:={T with clo:=T.clo++[F]}
section
variable{P:Program}{w:World}{K:PySem.W.Frag}{mg:Str->Option Value}{base:Heap}{T:aN}{k:Nat}
end
end Mir
namespace Mir
open PySem PySem.Spec PyProof.Rows L2
section
variable{X:Cx}{pins:List (Addr×Obj)}{σ:L2.St}{s:Shared}
end
variable [aK]
section
variable{κ:Str->Addr->Prop}{α hZ:List Addr}{Z Z0:Addr->Prop}{Ω:az}{H H0 H2:Hp}{ρ:aV}{σ:L2.St}
end
section
variable{P:Program}{w:World}{K:PySem.W.Frag}{mg:Str->Option Value}{base:Heap}{T T2:aN}{k:Nat}
end
section
variable{P:Program}{w:World}{K:PySem.W.Frag}{mg:Str->Option Value}{base:Heap}{T:aN}{k:Nat}
end
end Mir
namespace Mir
open PySem L2
variable [aK]
section
variable{Ω au:az}{ρ:aV}{σ:Str->Int}{t kl:Nat}{kvs:List (List Key×D)}{line:List Str}{w x:Str}
theorem BE{ds:List D}{n:Nat}:dz ds none (some (n:Int))=ds.take n:=sk ds n
theorem oK{n:Nat}(h:Ω[kl]?=some (.lst (line.map .str))):oh (.ref kl) none (some (n:Int)) Ω=.ok (.ref Ω.length) (Ω++[.lst ((line.take n).map .str)]):=by
 simp only[oh,aP h,t8,BE,List.map_take]
@[simp] theorem Ld{a:Ty}{z:Str}:rR a (.str z) Ω=.ok (.bl (a==.str)) Ω:=rfl
@[simp] theorem Le{a:Ty}:rR a .non Ω=.ok (.bl false) Ω:=rfl
@[simp] theorem HN{ds:List D}:bo .len [.tup ds] Ω=.ok (.int ds.length) Ω:=rfl
end
section
variable{Ω au:az}{ρ:aV}
theorem Es{nc:Bool}{mc me:EM}{j:aV}{src:Src}{ds:List D}{p:D->Bool}{g:D->D}(I:Nat->az->Prop)(r:∀i Ω,I i Ω->eT src Ω=some ds)
  (s:∀i d Ω,ds[i]?=some d->I i Ω->∃au,jV nc mc ([some d]++j) Ω=.ok (p d) au/\I (i+1) au/\(p d=true->me ([some d]++j) au=.ok (g d) au)) :
  ∀(f i:Nat) (a:List D) (Ω:az),ds.length - i<f->i<=ds.length->a.length+ds.length<=100000+i->I i Ω->∃au,vT nc mc me 0 j src f i a Ω=.ok (a++((ds.drop i).filter p).map g) au/\I ds.length au:=by
 intro f
 induction f with
 |zero=>intro i a Ω t;omega
 |succ f o=>
  intro i a Ω t z A k;simp only[vT,r i Ω k]
  by_cases b:i<ds.length
  .have h:ds[i]?=some ds[i]:=List.getElem?_eq_getElem b
   rw[h];have u:qa 0 ds[i]=some [some ds[i]]:=rfl;simp only[u];obtain⟨e,w,q,x⟩:=s i ds[i] Ω h k;rw[if_pos (aG (n:=a.length+1) (by omega)),w,List.drop_eq_getElem_cons b,List.filter_cons]
   cases y:p ds[i]with
   |true=>
    dsimp only;rw[x y];dsimp only;obtain⟨c,l,m⟩:=o (i+1) (a++[g ds[i]]) e (by omega) b (by rw[List.length_append];simp;omega) q
    exact⟨c,by rw[l];simp,m⟩
   |false=>
    dsimp only;obtain⟨c,l,m⟩:=o (i+1) a e (by omega) b (by omega) q
    exact⟨c,by rw[l];simp,m⟩
  .have h:ds[i]?=none:=List.getElem?_eq_none (by omega)
   rw[h,List.drop_of_length_le (by omega)]
   have:i=ds.length:=by omega
   subst this;exact⟨Ω,by simp,k⟩
theorem BF{me mc:EM}{nc:Bool}{mi:IM}{cap:List Nat}{src:Src}{ds:List D}{p:D->Bool}{g:D->D}(I:Nat->az->Prop)(b:mi ρ Ω=.ok src au)(c:∀i Ω,I i Ω->eT src Ω=some ds)
  (f:∀i d Ω,ds[i]?=some d->I i Ω->∃au,jV nc mc ([some d]++ej cap ρ) Ω=.ok (p d) au/\I (i+1) au/\(p d=true->me ([some d]++ej cap ρ) au=.ok (g d) au)) (k:ds.length<=90000) (j:I 0 au) :
  ∃a,cJ me nc mc mi 0 cap ρ Ω=.ok (.ref a.length) (a++[.lst ((ds.filter p).map g)])/\I ds.length a:=by
 unfold cJ;rw[b];dsimp only;obtain⟨a,e,h⟩:=Es I c f fuel 0 [] au (by unfold fuel;omega) (Nat.zero_le _) (by simp;omega) j
 refine⟨a,?_,h⟩;rw[e];rfl
end
section
variable{Ω au:az}{ρ:aV}{σ:Str->Int}{kl fn b:Nat}{line ys:List Str}{w:Str}{M:List (List D->aL)}{fp:List Nat}{I:List Str->az->Prop}
theorem BG{k j:Nat}{us vs:List Str}(h:Ω[k]?=some (.lst (us.map .str)))(h':Ω[j]?=some (.lst (vs.map .str))):aB .Eq (.ref k) (.ref j) Ω=.ok (.bl (decide (us=vs))) Ω:=by
 rw[ue,kk,eN (n:=7) h,eN (n:=7) h',kj]
 have e:dD .Eq (L1 us) (L1 vs)=.ok (decide (us=vs)):=by
  rw[Eh,yq 7,yq 7]
  show(if (true&&true)=true then Out.ok (eQ (us.map .str) (vs.map .str))else .bad)=_
  rw[tZ];rfl
 rw[e];rfl
theorem Et{i:Nat}{us:List Str}(h:Ω[kl]?=some (.lst (us.map .str))):oh (.ref kl) (some (i:Int)) none Ω=.ok (.ref Ω.length) (Ω++[.lst ((us.drop i).map .str)]):=by
 simp only[oh,aP h,t8,yo,List.map_drop]
end
section
variable{Ω au:az}{ρ:aV}{k:Nat}{js:List Nat}{rs:List (List Str)}{row:List Str}{n:Str}
theorem oJ.snoc{j:Nat}(h:oJ Ω js rs)(a:Ω[j]?=some (.lst (row.map .str))):oJ Ω (js++[j]) (rs++[row]):=aE.append (R:=Lc Ω) h (.cons a .nil)
theorem jx{ds:List D}(h:Ω[k]?=some (.lst ds)):bo .list [.ref k] Ω=.ok (.ref Ω.length) (Ω++[.lst ds]):=by
 show hF (iI [.ref k] Ω) (jH [.ref k] Ω)=_
 simp only[iI,aW,aP h];rfl
theorem yz{me mc:EM}{mi:IM}{cap:List Nat}{f:List Str->List Str}{P:Nat->Prop}(r:mi ρ Ω=.ok (.seq (.ref k)) Ω)(R:Rw Ω k js rs)(B:rs.length<=1000)
  (s:∀j row aS,ag [] Ω aS->j∈js->row∈rs->aS[j]?=some (.lst (row.map .str))->∃g a,me ([some (.ref j)]++ej cap ρ) aS=.ok (.ref g) a/\ag [] aS a/\a[g]?=some (.lst ((f row).map .str))/\P g) :
  ∃b a,cJ me true mc mi 0 cap ρ Ω=.ok (.ref a.length) (a++[.lst (b.map .ref)])/\ag [] Ω a/\oJ a b (rs.map f)/\∀j∈b,P j:=by
 have t:=R.len
 obtain⟨C,a,e,b,rfl,m,u,n⟩:=kr (me:=me) (mc:=mc) (cap:=cap) (ds:=js.map .ref) (λi c a=>∃b,c=b.map .ref/\oJ a b ((rs.take i).map f)/\ag [] Ω a/\∀j∈b,P j) r ⟨[],rfl,.nil,ag.refl,by simp⟩
  (λi c a h=>by
   obtain⟨_,_,_,K,_⟩:=h;rw[dc,aW,aP (R.keep K).ce])
  (λi d c aS w h=>by
   obtain⟨b,rfl,m,K,n⟩:=h;obtain⟨j,o,rfl⟩:=Er w;obtain⟨row,p,l⟩:=(R.keep K).al.at' o;obtain⟨g,a,e,q,y,z⟩:=s j row aS K (List.mem_of_getElem? o) (List.mem_of_getElem? p) l;refine⟨.ref g,a,e,b++[g],by simp,?_,K.trans q,?_⟩
   .rw[List.take_succ,p,List.map_append]
    exact(m.keep q (by simp)).snoc y
   .intro x A
    rcases List.mem_append.mp A with h|h
    .exact n x h
    .rw[List.mem_singleton.mp h];exact z) (by simp;omega)
 refine⟨b,a,e,u,?_,n⟩;rw[List.length_map,←t,List.take_length]at m;exact m
def yA(i:Nat):EM:=cJ (mN (bo .list) (ab (aa 0) af)) true (ah .non) (bG (aa i)) 0 []
theorem BH{i:Nat}(n:ρ[i]?=some (some (.ref k)))(R:Rw Ω k js rs)(o:rs.length<=1000):∃a c au,yA i ρ Ω=.ok (.ref c) au/\ag [] Ω au/\Rw au c a rs/\(∀j∈a,Ω.length<=j)/\Ω.length<=c/\c∉a:=by
 have d:bG (aa i) ρ Ω=.ok (.seq (.ref k)) Ω:=by
  rw[cf,eD,n,eB,ai];exact bZ (by rw[aW,aP R.ce])
 obtain⟨a,g,e,K,l,p⟩:=yz (me:=mN (bo .list) (ab (aa 0) af)) (mc:=ah .non) (cap:=[]) (f:=λr=>r) (P:=λj=>Ω.length<=j) d R o (λj m b K _ _ h=>by
  refine⟨b.length,b++[.lst (m.map .str)],?_,ag.app,av,K.len⟩;have:=jx h;simp[ej,this])
 rw[List.map_id']at l;refine⟨a,g.length,_,e,K.trans ag.app,⟨av,l.keep (fp:=[]) ag.app (by simp)⟩,p,K.len,λh=>?_⟩
 have:=l.lt _ h;omega
def stC:EM:=(zh (m2 (aB .Eq) (eu (aa 0) true (ah .non) false (ah (.int 1))) (mN bH (ab (aa 1) af))) (eu (aa 0) false (ah (.int 1)) true (ah .non)) (aa 0))
def tM:EM:=(mN (bo .any) (ab (aa 1) af))
def stM:EM:=(cJ stC true (ah .non) (bG (aa 1)) 0 [3])
def bM(st:SM)(a:aL):SM:=(ak (aH 3 (mN (ba a) (ab (aa 1) af)))
 (ak (dG (m2 (aB .Is) (aa 3) (ah .non))
 (ak st
 aj)
 aj)
 (ak (cA (cE kf dq (aa 2) (ab (aa 3) af)))
 (ak (aH 1 stM)
 aj))))
def Eu(st:SM)(a:aL):SM:=
 (ak (aH 1 (yA 0))
 (ak (aH 2 (mN bH af))
 (ak (rT tM (bM st a))
 (ak (bD (aa 2))
 aj))))
theorem BI(R:Rw Ω k js rs):bo .any [.ref k] Ω=.ok (.bl ((rs.map λr=>!r.isEmpty).any id)) Ω:=by
 show mn .any [.ref k] Ω=_
 unfold mn;rw[ud];have h:=qx (n:=6) (rs:=js) (L:=rs) R.ce R.al;have:bz (et Ω 8) [.ref k]=some [LL rs]:=by simp[h]
 rw[this,uc];have:xE .any [LL rs]=.ok (false,.bl ((rs.map λr=>!r.isEmpty).any id)):=by simp[LL,any_rows,-List.any_map]
 rw[this,Em]
end
end Mir
namespace Mir
open PySem
open PySem.Spec PyProof.Rows L2
structure df(K:PySem.W.Frag)(x:Str)(st:Stmt)(f:Addr)(fd:FuncData):Prop where
 ns:PySem.W.nsIn K mainGlobals x=some (some (.ref f))
 fn:FE K x x st f fd
theorem lN{K:PySem.W.Frag}{x:Str}{st:Stmt}{f:Addr}{oc:Value}{i g:Option Addr}{e:Array (Option Value)}{kV d h b ct:Value}(a:PySem.W.nsIn K mainGlobals x=some (some (.ref f)))
  (l:K.lookup f=some ⟨oc,i,.func (PySem.W.fnOf x x (bR st) (bS st) (aq st) .none kV d h g b ct),e⟩) (c:PySem.W.codeIn K b x=true) (k:PySem.W.keepIn K (.ref f)=true):df K x st f (PySem.W.fnOf x x (bR st) (bS st) (aq st) .none kV d h g b ct):=⟨a,rl l c k⟩
variable [aK]
structure BJ(K:PySem.W.Frag)(x qual:Str)(st:Stmt)(dV:Value)(f:Addr)(fd:FuncData):Prop where
 ex:∃(oc:Value) (od:Option Addr) (kV doc pm:Value) (an:Option Addr) (cdv ct:Value) (osl:Array (Option Value)),
  fd=PySem.W.fnOf x qual (bR st) (bS st) (aq st) dV kV doc pm an cdv ct/\K.lookup f=some ⟨oc,od,.func fd,osl⟩/\PySem.W.codeIn K cdv qual=true
 kp:PySem.W.keepIn K (.ref f)=true
section
variable{P:Program}{w:World}{K:PySem.W.Frag}{mg:Str->Option Value}{base:Heap}{T:aN}{k:Nat}
theorem cx(W:aT P w K mg base T k){x qual:Str}{st:Stmt}{D:Value}{f:Addr}{y:FuncData}(F:BJ K x qual st D f y){N ps td:List Str}{c:SM}(I:bc N ps (aq st)=true)(J:bg T td st N=some c) :
    cH P w K mg base mH (k+1) f y ps (dN (fT mg) (aO N.length ps.length c)):=by
  obtain⟨oc,od,kV,L,pm,an,n,ct,M,rfl,O,o⟩:=F.ex;have p:=Ag I;refine Gp O o p (λR H Q E h=>?_) λA outer s H R Q E U h=>?_
  · obtain⟨e,Z,i,l,S,r,g⟩:=h
    rw[r.length];unfold aO at g;split at g
    · rename_i V;exact V
    · exact g.elim
  · obtain⟨e,Z,i,l,S,r,g⟩:=h
    have G:gK (uN mH P w K mg base N qual (aq st) f n A outer s H E).Dk (fT mg) T k (aq st) N:=
      { scope:=rfl,names:=rfl,calm:=rfl,room:=U,fh:=W.fh,own:=PassesOwn.never,R9:=λ_ _ _=>.inl rfl,rK:=p.nd,kind:=p.kind,Dk:=λ_ _ _ h=>h,fld:=W.fld,cst:=W.cst
        lY:=λx F h=>⟨W.lY x F h⟩,fn:=λx F h=>⟨W.fn x F h⟩,met:=λm C F h=>⟨W.met m C F h⟩,cls:=λC F h=>let ⟨j,X,Y⟩:=W.cls C F h;⟨j,X,⟨Y⟩⟩,clo:=W.clo }
    refine⟨Ke (fT mg) qQ e Z H c (aM N.length l) i,(lJ (Br G 30 60) J e Z H (aM N.length l) i).Dk,e,Z,rV S r,?_⟩;unfold aO at g;split at g
    · cases q:c (aM N.length l) i with
      |rt d a=>rw[q]at g;exact λv t b u gr st r=>g v t b u gr st r
      |nx z a=>rw[q]at g;exact λσ t b u B=>g .non t b u B.gr B.st (a_ rfl)
      |bk z a=>rw[q]at g;exact g.elim
      |ct z a=>rw[q]at g;exact g.elim
      |exc x a=>rw[q]at g;exact g
      |bad=>rw[q]at g;exact g.elim
    · exact g.elim
end
end Mir
namespace Mir
open PySem L2
variable [aK]
abbrev oR(k:Nat):Option D:=some (.ref k)
abbrev oI(i:Int):Option D:=some (.int i)
abbrev oS(x:Str):Option D:=some (.str x)
def cq(Ω:az)(e:Nat)(kvs:List (Key×D)):Prop:=Ω[e]?=some (.dK kvs)\/Ω[e]?=some (.dF kvs)
abbrev iY:=List (Str×List Str)
noncomputable def nms(E:iY):List Str:=E.map (·.1)
noncomputable def fk(E:iY)(n:Str):List Str:=(E.lookup n).getD []
def bh(P:Nat->Prop)(Ω:az)(kvs:List (Key×D))(E:iY):Prop:=aE (λa p=>a.1=.inr p.1/\∃j,a.2=.ref j/\P j/\Ω[j]?=some (.lst (p.2.map .str))) kvs E
section
variable{Ω au:az}{ρ:aV}{e q j:Nat}{kvs:List (Key×D)}{E:iY}{P P':Nat->Prop}{n:Str}{r:List Str}{fp:List Nat}{ord:List Str}
theorem cq.keep(h:cq Ω e kvs)(K:ag fp Ω au)(a:e∉fp):cq au e kvs:=h.imp (λz=>K.get _ _ z a) λz=>K.get _ _ z a
theorem cq.lt(h:cq Ω e kvs):e<Ω.length:=h.elim bp bp
theorem cq.nl(h:cq Ω e kvs):∀ds,Ω[e]?≠some (.lst ds):=λds z=>by rcases h with h|h<;>rw[h]at z<;>cases z
theorem cq.ni(h:cq Ω e kvs):∀C a,Ω[e]?≠some (.ins C a):=λC a z=>by rcases h with h|h<;>rw[h]at z<;>cases z
theorem yB(h:cq Ω e kvs){m:Nat}:et Ω (m+1) (.ref e)=none:=by rcases h with h|h<;>simp only[et,h]
theorem ui(h:cq Ω e kvs):dh Ω (.ref e)=none:=by rcases h with h|h<;>simp only[dh,h]
theorem yC(h:cq Ω e kvs):n8 Ω (.ref e) (.str n)=some (bx kvs (.inr n)):=by rcases h with h|h<;>simp only[n8,h,jS,Option.map_some]
theorem BK(h:cq Ω e kvs):aB .In (.str n) (.ref e) Ω=.ok (.bl (bx kvs (.inr n)).isSome) Ω:=by
 rw[km,kk,gZ,yB h]
 show hF .bad _=_
 rw[jv];simp only[eS,yC h];rfl
theorem yD(h:cq Ω e kvs):aB .NotIn (.str n) (.ref e) Ω=.ok (.bl (!(bx kvs (.inr n)).isSome)) Ω:=by
 rw[fW,kk,gZ,yB h]
 show hF .bad _=_
 rw[jv];simp only[eS,yC h];rfl
theorem h_{d:D}(h:cq Ω e kvs)(a:bx kvs (.inr n)=some d):aC (.ref e) (.str n) Ω=.ok d Ω:=by
 unfold aC;rw[dw,fX,aW,ui h]
 show hF .bad _=_
 rw[jv,dw];simp only[xC,yC h,a];rfl
theorem yE(h:cq Ω e kvs):bo .len [.ref e] Ω=.ok (.int kvs.length) Ω:=by
 show hF (oj [.ref e] Ω) (hF (rQ [.ref e] Ω) _)=_
 have a:oj [.ref e] Ω=.bad:=by simp only[oj,aW,ui h]
 have b:rQ [.ref e] Ω=.ok (.int kvs.length) Ω:=by rcases h with h|h<;>simp only[rQ,h]
 rw[a,b];rfl
theorem yF(h:cq Ω e kvs):pV Ω (.ref e)=some kvs:=by rcases h with h|h<;>simp only[pV,h]
theorem oM(h:cq Ω e kvs):bo .list [.ref e] Ω=.ok (.ref Ω.length) (Ω++[.lst (kvs.map λa=>jU a.1)]):=by
 show hF (iI [.ref e] Ω) (jH [.ref e] Ω)=_
 have b:iI [.ref e] Ω=.bad:=by simp only[iI,aW,ui h]
 have c:jH [.ref e] Ω=.ok (.ref Ω.length) (Ω++[.lst (kvs.map λa=>jU a.1)]):=by simp only[jH,yF h];rfl
 rw[b,c];rfl
theorem set_same{c:Cell}(h:Ω[e]?=some c):Ω.set e c=Ω:=by
 apply List.ext_getElem?;intro i;rw[List.getElem?_set];split
 .rename_i z;subst z;rw[if_pos (bp h),h]
 .rfl
theorem qB(h:cq Ω e kvs):srcOf Ω (.ref e)=.ok (.keys e) (Ω.set e (.dF kvs)):=by
 unfold srcOf;rw[aW,ui h];rcases h with h|h
 .simp only[h]
 .simp only[h,set_same h]
theorem CJ(h:cq Ω e kvs):(Ω.set e (.dF kvs))[e]?=some (.dF kvs):=by rcases h with h|h<;>exact aA h
theorem il(h:Ω[e]?=some (.dF kvs)):eT (.keys e) Ω=some (kvs.map λa=>jU a.1):=by simp only[eT,h]
theorem bh.imp(h:bh P Ω kvs E)(e:∀j,P j->P' j):bh P' Ω kvs E:=aE.imp (λ_ _ ⟨a,j,b,c,d⟩=>⟨a,j,b,e j c,d⟩) h
theorem bh.keep(h:bh P Ω kvs E)(K:ag fp Ω au)(e:∀j∈fp,¬ P j):bh P au kvs E:=aE.imp (λ_ _ ⟨a,j,b,c,d⟩=>⟨a,j,b,c,K.get _ _ d λz=>e j z c⟩) h
theorem bh.ez(h:bh P Ω kvs E)(K:ag fp Ω au)(e:∀j∈fp,∀ds,Ω[j]?≠some (.lst ds)):bh P au kvs E:=aE.imp (λ_ _ ⟨a,j,b,c,d⟩=>⟨a,j,b,c,K.get _ _ d λz=>e j z _ d⟩) h
theorem bh.lt(h:bh P Ω kvs E):bh (λj=>P j/\j<Ω.length) Ω kvs E:=aE.imp (λ_ _ ⟨a,j,b,c,d⟩=>⟨a,j,b,⟨c,bp d⟩,d⟩) h
theorem bh.len(h:bh P Ω kvs E):E.length=kvs.length:=aE.length h
theorem bh.keys(h:bh P Ω kvs E):(kvs.map λb=>jU b.1)=(nms E).map .str:=by
 unfold bh at h
 induction h with
 |nil=>rfl
 |cons r _ a=>
  simp only[List.map_cons,nms]at a ⊢;rw[a,r.1];rfl
theorem bh.look(h:bh P Ω kvs E)(n:Str):(∀r,E.lookup n=some r->∃j,bx kvs (.inr n)=oR j/\P j/\Ω[j]?=some (.lst (r.map .str)))/\(E.lookup n=none->bx kvs (.inr n)=none):=by
 unfold bh at h
 induction h with
 |nil=>exact⟨λr h=>by simp at h,λ_=>rfl⟩
 |@cons g p kvs E a _ b=>
  obtain⟨c,j,d,e,f⟩:=a;rw[List.lookup_cons,cC,c]
  by_cases z:n=p.1
  .subst z
   rw[if_pos rfl,d];simp;exact⟨e,f⟩
  .rw[if_neg (λq=>z (by cases q;rfl)),beq_eq_false_iff_ne.mpr z]
   exact b
theorem uj(h:E.lookup n=some r):(n,r)∈E:=by
 induction E with
 |nil=>simp at h
 |cons p E a=>
  rw[List.lookup_cons]at h;split at h
  .rename_i z
   cases h;rw[eq_of_beq z];simp
  .exact List.mem_cons_of_mem _ (a h)
theorem lookup_some(h:n∈nms E):∃r,E.lookup n=some r:=by
 unfold nms at h
 induction E with
 |nil=>simp at h
 |cons p E a=>
  rw[List.lookup_cons];split
  .exact⟨_,rfl⟩
  .rename_i z
   refine a ?_;rw[List.map_cons]at h;rcases List.mem_cons.mp h with q|q
   .rw[q]at z;simp at z
   .exact q
theorem lO(h:n∈nms E):E.lookup n=some (fk E n):=by
 obtain⟨r,a⟩:=lookup_some h;unfold fk;rw[a];rfl
theorem lookup_none(h:n∉nms E):E.lookup n=none:=by
 cases q:E.lookup n with
 |none=>rfl
 |some r=>exact absurd (List.mem_map_of_mem (f:=(·.1)) (uj q)) h
theorem bh.at(h:bh P Ω kvs E)(a:n∈nms E):∃j,bx kvs (.inr n)=oR j/\P j/\Ω[j]?=some (.lst ((fk E n).map .str)):=(h.look n).1 _ (lO a)
theorem bh.is(h:bh P Ω kvs E):(bx kvs (.inr n)).isSome=decide (n∈nms E):=by
 by_cases q:n∈nms E
 .obtain⟨j,a,_⟩:=h.at q
  rw[a,decide_eq_true q];rfl
 .rw[(h.look n).2 (lookup_none q),decide_eq_false q];rfl
theorem yG{k:Key}(h:bx kvs k=none):(kvs.any λa=>decide (a.1=k))=false:=by rw[lM,h];rfl
theorem bh.put(h:bh P Ω kvs E)(b:n∉nms E)(c:P j)(d:Ω[j]?=some (.lst (r.map .str))):bh P Ω (bI kvs (.inr n) (.ref j)) (E++[(n,r)]):=by
 have:=yG ((h.look n).2 (lookup_none b));unfold bI;rw[if_neg (by rw[this];simp)]
 exact aE.append (R:=λ(a:Key×D) (p:Str×List Str)=>a.1=.inr p.1/\∃j,a.2=.ref j/\P j/\Ω[j]?=some (.lst (p.2.map .str))) h (.cons ⟨rfl,j,rfl,c,d⟩ .nil)
def oN(E:iY)(a:List Str):List Str:=(nms E).filter λn=>!decide (n∈a)&&(fk E n).all λx=>decide (x∈a)
def M8:EM:=(cJ (m2 (aB .In) (aa 0) (aa 1)) true (ah .non) (bG (m2 aC (aa 1) (aa 0))) 0 [2])
def HP:EM:=(fC (m2 (aB .NotIn) (aa 0) (aa 2)) (mN (bo .all) (ab M8 af)))
def M9:SM:=(ak (bD (cJ (aa 0) false HP (bG (aa 0)) 0 [0,1])) aj)
theorem uk{a:List Bool}(h:Ω[q]?=some (.lst (a.map .bl))):bo .all [.ref q] Ω=.ok (.bl (a.all id)) Ω:=by
 show mn .all [.ref q] Ω=_
 unfold mn;rw[ud];have c:bz (et Ω 7) (a.map .bl)=some (a.map .bl):=ij (λ_=>El) a
 have:bz (et Ω 8) [.ref q]=some [.lst (a.map .bl)]:=by simp[ki h c]
 rw[this,uc,yr]
 have d:ft (a.map D.bl)=some a:=by
  clear h c this
  induction a with
  |nil=>rfl
  |cons b a e=>simp[ft,e]
 rw[d];rfl
theorem yH{a:Nat}{xs:List Str}{me:EM}{mi:IM}{cap:List Nat}(c:Ω[a]?=some (.lst (xs.map .str)))(f:mi ρ Ω=.ok (.seq (.ref a)) Ω){p:Str->Bool}(h:∀x∈xs,me ([oS x]++ej cap ρ) Ω=.ok (.bl (p x)) Ω)(i:xs.length<=90000) :
  ∃au,mN (bo .all) (ab (cJ me true (ah .non) mi 0 cap) af) ρ Ω=.ok (.bl (xs.all p)) au/\ag [] Ω au:=by
 have e:=cZ (ρ:=ρ) (Ω:=Ω) (au:=Ω) (me:=me) (mc:=ah .non) (nc:=true) (mi:=mi) (cap:=cap) (src:=.seq (.ref a)) (ds:=xs.map .str) (p:=λ_=>true) (g:=λd=>match d with|.str x=>.bl (p x)|d=>d) f (by rw[dc,aW,aP c]) (λd _=>rfl) (λd j _=>by
  obtain⟨x,b,rfl⟩:=List.mem_map.mp j;exact h x b) (by simpa using i)
 have k:((xs.map D.str).filter λ_=>true).map (λd=>match d with|.str x=>D.bl (p x)|d=>d)=(xs.map p).map .bl:=by
  rw[List.filter_eq_self.mpr (λ_ _=>rfl),List.map_map,List.map_map]
  rfl
 rw[k]at e;refine⟨Ω++[.lst ((xs.map p).map .bl)],?_,ag.app⟩;rw[dQ,aJ,e,ai,bE,ai,ai,uk av];simp[List.all_map]
def BL(f:aL):Prop:=∀(c:az) (e q:Nat) (b:List (Key×D)) (E:iY) (d:List Str) (P:Nat->Prop),cq c e b->bh P c b E->c[q]?=some (.lst (d.map .str))->(∀n∈nms E,(fk E n).length<=1000)->E.length<=1000 ->
 ∃z a,f [.ref e,.ref q] c=.ok (.ref z) a/\a[z]?=some (.lst ((oN E d).map .str))/\ag [e] c a/\a[e]?=some (.dF b)/\c.length<=z
theorem HQ:BL (aO 2 2 M9):=by
 intro h e q c E a P l M N o hl;rw[aU (by rfl)]
 have R:aM 2 [D.ref e,.ref q]=[oR e,oR q]:=rfl;rw[R];have r:q≠e:=λz=>l.nl _ (z▸N)
 have s:ag [e] h (h.set e (.dF c)):=ag.set (by simp)
 have t:=CJ l;have u:=M.ez s (λj m=>by rw[List.mem_singleton.mp m];exact l.nl)
 have y:=s.get _ _ N (by simpa using r)
 have l0:(h.set e (.dF c)).length=h.length:=by simp
 have A:bG (aa 0) [oR e,oR q] h=.ok (.keys e) (h.set e (.dF c)):=by
  rw[cf];exact qB l
 generalize h.set e (.dF c)=B at *
 obtain⟨k,S,C⟩:=BF (ρ:=[oR e,oR q]) (me:=aa 0) (mc:=HP) (nc:=false) (cap:=[0,1]) (ds:=(nms E).map .str) (p:=λd=>match d with|.str n=>!decide (n∈a)&&(fk E n).all λx=>decide (x∈a)|_=>false) (g:=λd=>d) (λ_ b=>ag [] B b) A
  (λi b K=>by rw[il (K.get _ _ t (by simp)),M.keys])
  (λi d b F K=>by
   obtain⟨n,T,rfl⟩:=fj F;have O:n∈nms E:=List.mem_of_getElem? T;have Q:=K.get _ _ y (by simp)
   have U:=K.get _ _ t (by simp)
   have V:=u.keep K (by simp)
   obtain⟨j,X,_,m⟩:=V.at O;have f:=ko (w:=n) Q;have G:=h_ (n:=n) (.inr U) X
   show ∃H,dE (HP [oS n,oR e,oR q] b)=.ok (!decide (n∈a)&&(fk E n).all λx=>decide (x∈a)) H/\_
   by_cases I:n∈a
   .refine⟨b,?_,K,λ_=>rfl⟩
    rw[decide_eq_true I]at f ⊢;simp[HP,f,-fW]
   .rw[decide_eq_false I]at f
    obtain⟨J,L,Y⟩:=yH (ρ:=[oS n,oR e,oR q]) (me:=m2 (aB .In) (aa 0) (aa 1)) (mi:=bG (m2 aC (aa 1) (aa 0))) (cap:=[2]) (p:=λx=>decide (x∈a)) m (by
     rw[cf]
     show(aC (.ref e) (.str n) b).bind _=_
     rw[G,ai];exact bZ (by rw[aW,aP m])) (λx _=>by
     show aB .In (.str x) (.ref q) b=_
     exact oF Q) (by have:=o n O;omega)
    refine⟨J,?_,K.trans Y,λ_=>rfl⟩
    have L:mN (bo .all) (ab M8 af) [oS n,oR e,oR q] b=_:=L;unfold HP;rw[e9]
    show dE ((aB .NotIn (.str n) (.ref q) b).bind _)=_
    rw[f,ai,bV]
    show dE (mN (bo .all) (ab M8 af) [oS n,oR e,oR q] b)=_
    rw[L,du,bV,dR];simp[I]) (by simp[nms];omega) ag.refl
 refine⟨k.length,k++[.lst ((oN E a).map .str)],?_,av,?_,cw (C.get _ _ t (by simp)),by have:=C.len;omega⟩
 .unfold M9
  rw[ae,b_,S]
  have Z:(((nms E).map D.str).filter (λd=>match d with|.str n=>!decide (n∈a)&&(fk E n).all λx=>decide (x∈a)|_=>false)).map (λd=>d)=(oN E a).map .str:=by
   unfold oN;rw[List.map_id',List.filter_map];rfl
  rw[Z];rfl
 .exact(s.trans (yx.up C)).trans ag.app
end
theorem sv{xs:List Str}:∀{o:List Str},o.Nodup->(∀x∈o,x∈xs)->o.length<=xs.length:=by
 intro o g c
 induction o generalizing xs with
 |nil=>simp
 |cons a o h=>
  have d:=c a (by simp)
  have e:=List.nodup_cons.mp g
  have:=h (xs:=xs.erase a) e.2 (λx f=>by
   have b:x≠a:=λz=>e.1 (by rw[←z];exact f)
   exact(List.mem_erase_of_ne b).mpr (c x (by simp[f])))
  rw[List.length_erase_of_mem d]at this;have i:0<xs.length:=List.length_pos_of_mem d;simp only[List.length_cons];omega
structure Ef(E:iY)(ord:List Str):Prop where
 nd:ord.Nodup
 sub:∀n∈ord,n∈nms E
 pre:∀(i:Nat) (n:Str),ord[i]?=some n->∀x∈fk E n,x∈ord.take i
structure Acy(E:iY):Prop where
 nd:(nms E).Nodup
 el:∀n∈nms E,∀x∈fk E n,x∈nms E
 rk:∃rk:Str->Nat,∀n∈nms E,∀x∈fk E n,rk x<rk n
section
variable{Ω au:az}{ρ:aV}{e q j:Nat}{kvs:List (Key×D)}{E:iY}{P P':Nat->Prop}{n:Str}{r:List Str}{fp:List Nat}{ord:List Str}
theorem ku:n∈oN E ord↔n∈nms E/\n∉ord/\∀x∈fk E n,x∈ord:=by
 unfold oN;simp[List.mem_filter]
theorem Ef.step(h:Ef E ord)(f:(nms E).Nodup):Ef E (ord++oN E ord) where
 nd:=List.nodup_append.mpr ⟨h.nd,f.filter _,λa g b j z=>(ku.mp j).2.1 (z▸g)⟩
 sub:=λn k=>(List.mem_append.mp k).elim (h.sub n) λz=>(ku.mp z).1
 pre:=λi n c x d=>by
  by_cases e:i<ord.length
  .rw[List.getElem?_append_left e]at c
   rw[List.take_append_of_le_length (Nat.le_of_lt e)];exact h.pre i n c x d
  .rw[List.getElem?_append_right (by omega)]at c
   have:=(ku.mp (List.mem_of_getElem? c)).2.2 x d;rw[List.take_append,List.take_of_length_le (by omega)]
   exact List.mem_append_left _ this
theorem Ew(A:Acy E)(hz:oN E ord=[]):∀n∈nms E,n∈ord:=by
 obtain⟨d,e⟩:=A.rk
 have b:∀(k:Nat) n,d n<k->n∈nms E->n∈ord:=by
  intro k
  induction k with
  |zero=>intro n h;omega
  |succ k f=>
   intro n g a
   by_cases q:n∈ord
   .exact q
   .have:n∈oN E ord:=ku.mpr ⟨a,q,λx c=>f x (by have:=e n a x c;omega) (A.el n a x c)⟩
    rw[hz]at this;simp at this
 exact λn a=>b _ n (Nat.lt_succ_self _) a
theorem sx{k a:Nat}{xs b:List Str}(h:Ω[k]?=some (.lst (xs.map .str)))(c:Ω[a]?=some (.lst (b.map .str)))(d:xs.length+b.length<=10000):gW (.ref k) [.ref a] Ω=.ok .non (Ω.set k (.lst ((xs++b).map .str))):=by
 simp only[gW,iU h,iU c];rw[if_pos (aG (by simp;omega)),List.map_append]
def Ey(a:aL):SM:=(ak (cA (cE kf gW (aa 1) (ab (aa 2) af)))
 (ak (aH 2 (mN (ba a) (ab (aa 0) (ab (aa 1) af))))
 aj))
def M_(a:aL):SM:=
 (ak (aH 1 (mN bH af))
 (ak (aH 2 (mN (ba a) (ab (aa 0) (ab (aa 1) af))))
 (ak (rT (aa 2)
 (Ey a))
 (ak (bD (aa 1))
 aj))))
structure Gd(E:iY):Prop extends Acy E where
 few:E.length<=100
 short:∀n∈nms E,(fk E n).length<=100
theorem yI{s:aL}(Y:BL s)(G:Gd E) :
  ∀(m:Nat) (Ω:az) (d:List Str) (q z:Nat),Ω[e]?=some (.dF kvs)->bh P Ω kvs E->Ef E d->Ω[q]?=some (.lst (d.map .str))->Ω[z]?=some (.lst ((oN E d).map .str))->q≠z->¬ P q->E.length - d.length<m ->
   ∃f a2 au,jt (aa 2) (Ey s) m [oR e,oR q,oR z] Ω=.nx [oR e,oR q,a2] au/\au[q]?=some (.lst (f.map .str))/\Ef E f/\(∀n∈nms E,n∈f)/\ag [q] Ω au:=by
 intro m
 induction m with
 |zero=>intro Ω d q z _ _ _ _ _ _ _ h;omega
 |succ m Z=>
  intro Ω d q z S hr F t T a0 U hm;have u:=qA T
  have b0:d.length<=E.length:=by
   have:=sv F.nd F.sub;simpa[nms]using this
  by_cases C:oN E d=[]
  .refine⟨d,oR z,Ω,?_,t,F,Ew G.toAcy C,ag.refl⟩
   have H:aa 2 [oR e,oR q,oR z] Ω=.ok (.ref z) Ω:=rfl;rw[C]at u;simp only[jt,H,du,u];rfl
  .have H:aa 2 [oR e,oR q,oR z] Ω=.ok (.ref z) Ω:=rfl
   have u:gw Ω (.ref z)=some true:=by
    rw[u];cases hc:oN E d with
    |nil=>exact absurd hc C
    |cons a b=>rfl
   have I:=F.step G.nd
   have i:(d++oN E d).length<=E.length:=by
    have:=sv I.nd I.sub;simpa[nms]using this
   have c0:=G.few;have hx:=sx t T (by rw[List.length_append]at i;omega)
   have hL:=fY t;have J:ag [q] Ω (Ω.set q (.lst ((d++oN E d).map .str))):=ag.set (by simp)
   have l:=aA (e:=.lst ((d++oN E d).map .str)) t;have w:q≠e:=λz=>by rw[z,S]at t;cases t
   have o:=J.get _ _ S (by simpa using Ne.symm w)
   have y:=hr.keep J (λj K=>by rw[List.mem_singleton.mp K];exact U)
   generalize Ω.set q (.lst ((d++oN E d).map .str))=A at *;obtain⟨V,p,e2,L,D,B,lz⟩:=Y A e q kvs E (d++oN E d) P (.inr o) y l (λn X=>by have:=G.short n X;omega) (by omega)
   have M:ag [q] A p:=⟨D.len,λk c N X=>by
    by_cases h:k=e
    .subst h;rw[o]at N;cases N;exact B
    .exact D.get k c N (by simpa using h)⟩
   have O:=y.ez D (λj K ds=>by rw[List.mem_singleton.mp K,o];simp)
   have Q:=D.get _ _ l (by simpa using w)
   have lq:=bp l
   obtain⟨f,a2,R,e3,h3,F3,h4,K3⟩:=Z p (d++oN E d) q V B O I Q L (by omega) U (by
    have:0<(oN E d).length:=List.length_pos_iff.mpr C;rw[List.length_append]at i ⊢;omega)
   refine⟨f,a2,R,?_,h3,F3,h4,(J.trans M).trans K3⟩
   have r1:Ey s [oR e,oR q,oR z] Ω=.nx [oR e,oR q,oR V] p:=by
    unfold Ey;rw[ae,cm,jw (x:=.ref q) (au:=Ω) (by rfl) hL]
    have:(ab (aa 2) af:AM) [oR e,oR q,oR z] Ω=.ok [.ref z] Ω:=rfl;rw[this,ai,hx,bP,aw];simp[e2]
   simp only[jt,H,du,u,dR]
   show(match Ey s [oR e,oR q,oR z] Ω with|.nx g au=>jt (aa 2) (Ey s) m g au|.ct g au=>jt (aa 2) (Ey s) m g au|.bk g au=>.nx g au|r=>r)=_
   rw[r1];exact e3
def BN(f:aL):Prop:=∀(d:az) (e:Nat) (b:List (Key×D)) (E:iY) (P:Nat->Prop),cq d e b->bh P d b E->Gd E ->
 ∃c z a,f [.ref e] d=.ok (.ref z) a/\a[z]?=some (.lst (c.map .str))/\Ef E c/\(∀n∈nms E,n∈c)/\ag [e] d a/\a[e]?=some (.dF b)/\d.length<=z
theorem HR{p:aL}(A:BL p):BN (aO 3 1 (M_ p)):=by
 intro a e q E P B I G;rw[aU (by rfl)]
 have J:aM 3 [D.ref e]=[oR e,none,none]:=rfl;rw[J];have C:(a++[Cell.lst []])[a.length]?=some (.lst (([]:List Str).map .str)):=av;have m:ag [] a (a++[Cell.lst []]):=ag.app;have K:(aH 1 (mN bH af)) [oR e,none,none] a=.nx [oR e,oR a.length,none] (a++[Cell.lst []]):=by simp[aG]
 have b:=B.keep m (by simp)
 have d:=(I.lt.keep m (by simp))
 have U:=B.lt;have V:(a++[Cell.lst []]).length=a.length+1:=by simp
 generalize a++[Cell.lst []]=f at *;have L:=G.few;obtain⟨z,g,M,r,o,l,X⟩:=A f e a.length q E [] _ b d C (λn s=>by have:=G.short n s;omega) (by omega)
 have t:=o.get _ _ C (by simp;omega)
 have u:=d.ez o (λj N O=>by rw[List.mem_singleton.mp N];exact b.nl O)
 obtain⟨w,Y,x,Q,R,F,S,y⟩:=yI A G fuel g [] a.length z l u ⟨List.nodup_nil,by simp,λi n h=>by simp at h⟩ t r (by omega) (λh=>by omega) (by unfold fuel;omega)
 refine⟨w,a.length,x,?_,R,F,S,?_,y.get _ _ l (by simp;omega),Nat.le_refl _⟩
 .unfold M_
  rw[ae,K,aw,ae];have T:(aH 2 (mN (ba p) (ab (aa 0) (ab (aa 1) af)))) [oR e,oR a.length,none] f=.nx [oR e,oR a.length,oR z] g:=by simp[M]
  rw[T,aw,ae];unfold rT;rw[Q];rfl
 .refine⟨by have:=m.len;have:=o.len;have:=y.len;omega,λk c H s=>y.get k c (o.get k c (m.get k c H (by simp)) s) ?_⟩
  have:=bp H;simp;omega
def Na:EM:=(cJ (aa 0) false (m2 (aB .NotIn) (aa 0) (aa 1)) (bG (aa 0)) 0 [1])
def Nb(a:aL)(rest:SM):SM:=
 (ak (aH 1 (mN (ba a) (ab (aa 0) af)))
 (ak (aH 3 Na)
 (ak (dG (hJ (aa 3))
 (ak (bD (ah .non))
 aj)
 aj)
 rest)))
def Ez(d:aL):Prop:=∀(c:az) (e:Nat) (a:List (Key×D)) (E:iY) (P:Nat->Prop),cq c e a->bh P c a E->Gd E ->
 ∃b,d [.ref e] c=.ok .non b/\ag [e] c b/\b[e]?=some (.dF a)
theorem HS{f:aL}(q:BN f){rest:SM}:Ez (aO 5 1 (Nb f rest)):=by
 intro Ω e i E P k m G;rw[aU (by rfl)]
 have r:aM 5 [D.ref e]=[oR e,none,none,none,none]:=rfl;rw[r];obtain⟨s,z,a,t,u,F,c,w,b,I⟩:=q Ω e i E P k m G;have x:=G.few
 have l:bG (aa 0) [oR e,oR z,none,none,none] a=.ok (.keys e) a:=by
  rw[cf]
  show srcOf a (.ref e)=_
  rw[qB (.inr b),set_same b]
 have o:=cZ (ρ:=[oR e,oR z,none,none,none]) (Ω:=a) (au:=a) (me:=aa 0) (mc:=m2 (aB .NotIn) (aa 0) (aa 1)) (nc:=false) (mi:=bG (aa 0)) (cap:=[1]) (src:=.keys e) (ds:=(nms E).map .str) (p:=λ_=>false) (g:=λd=>d) l (by rw[il b,m.keys]) (λd k=>by
  obtain⟨n,y,rfl⟩:=List.mem_map.mp k
  show dE (aB .NotIn (.str n) (.ref z) a)=_
  rw[ko u,decide_eq_true (c n y)];rfl) (λd _ h=>by cases h) (by simp[nms];omega)
 have A:Na [oR e,oR z,none,none,none] a=.ok (.ref a.length) (a++[.lst []]):=by
  have:(((nms E).map D.str).filter (λ_=>false)).map (λd:D=>d)=[]:=by simp
  rw[this]at o;exact o
 refine⟨a++[.lst []],?_,w.trans ag.app,cw b⟩;have B:=qA (Ω:=a++[Cell.lst []]) (j:=a.length) (ds:=[]) av;unfold Nb;have C:(aH 1 (mN (ba f) (ab (aa 0) af))) [oR e,none,none,none,none] Ω=.nx [oR e,oR z,none,none,none] a:=by simp[t]
 have H:(aH 3 Na) [oR e,oR z,none,none,none] a=.nx [oR e,oR z,none,oR a.length,none] (a++[.lst []]):=by rw[bq,A];rfl
 rw[ae,C,aw,ae,H,aw,ae];simp[B]
end
noncomputable def en(ns:List Str)(L:Str->List Str):iY:=ns.map λn=>(n,L n)
section
variable{Ω au:az}{ρ:aV}{e q j:Nat}{kvs:List (Key×D)}{E:iY}{P P':Nat->Prop}{n:Str}{r:List Str}{fp:List Nat}{ord:List Str}{L:Str->List Str}
theorem ec{ns:List Str}:nms (en ns L)=ns:=by
 unfold nms en;rw[List.map_map];exact(List.map_congr_left λx _=>rfl).trans (List.map_id _)
theorem iZ{ns:List Str}(h:n∈ns):fk (en ns L) n=L n:=by
 unfold fk en
 induction ns with
 |nil=>simp at h
 |cons a ns b=>
  rw[List.map_cons,List.lookup_cons]
  by_cases z:n=a
  .subst z;simp
  .rw[beq_eq_false_iff_ne.mpr z]
   refine b ?_;rcases List.mem_cons.mp h with q|q
   .exact absurd q z
   .exact q
theorem i8{a b:Nat}{xs c:List D}(h:Ω[a]?=some (.lst xs))(d:Ω[b]?=some (.lst c))(e:xs.length+c.length<=10000):aY .Add (.ref a) (.ref b) Ω=.ok (.ref Ω.length) (Ω++[.lst (xs++c)]):=by
 rw[iT,ug,aP h,aP d,uf,if_pos (aG (by omega))]
 rfl
def So:EM:=(cJ (mN (bo .list) (ab (m2 aC (aa 1) (aa 0)) af)) true (ah .non) (bG (aa 1)) 0 [0])
def Nc:EM:=(mN bH (ab (mN (bo .list) (ab (aa 1) af)) af))
def Nd:SM:=(ak (bD (m2 (aY .Add) So Nc)) aj)
def Lf(d:aL):Prop:=∀(c:az) (l a:Nat),c[a]?=some (.lst [])->∃k j b,d [.ref l,.ref a] c=.ok (.ref k) b/\b[k]?=some (.lst [.ref j])/\b[j]?=some (.lst [])/\ag [] c b
theorem EA:Lf (aO 2 2 Nd):=by
 intro c l a e;rw[aU (by rfl)]
 have m:aM 2 [D.ref l,.ref a]=[oR l,oR a]:=rfl;rw[m]
 have f:bG (aa 1) [oR l,oR a] c=.ok (.seq (.ref a)) c:=by
  rw[cf];exact bZ (by rw[aW,aP e])
 have n:So [oR l,oR a] c=.ok (.ref c.length) (c++[.lst []]):=cZ (me:=mN (bo .list) (ab (m2 aC (aa 1) (aa 0)) af)) (nc:=true) (mc:=ah .non) (cap:=[0]) (ds:=[]) (p:=λ_=>true) (g:=id) f (by rw[dc,aW,aP e]) (by simp) (by simp) (by simp)
 have o:(c++[Cell.lst []])[c.length]?=some (.lst []):=av;have j:ag [] c (c++[Cell.lst []]):=ag.app;generalize c++[Cell.lst []]=b at *;have h:=jx (j.get _ _ e (by simp))
 have q:Nc [oR l,oR a] b=.ok (.ref (b.length+1)) (b++[.lst [],.lst [.ref b.length]]):=by
  unfold Nc;have:(mN (bo .list) (ab (aa 1) af)) [oR l,oR a] b=.ok (.ref b.length) (b++[.lst []]):=h;rw[dQ,aJ,this,ai,bE,ai,ai,oC,if_pos (aG (by simp))]
  simp
 have r:(b++[Cell.lst [],.lst [.ref b.length]])[b.length]?=some (.lst []):=av;have s:(b++[Cell.lst [],.lst [.ref b.length]])[b.length+1]?=some (.lst [.ref b.length]):=by rw[List.getElem?_append_right (by omega)];simp
 have k:ag [] b (b++[Cell.lst [],.lst [.ref b.length]]):=ag.app;have i:=k.get _ _ o (by simp)
 generalize b++[Cell.lst [],.lst [.ref b.length]]=d at *;have t:=i8 i s (by simp)
 refine⟨d.length,b.length,d++[.lst [.ref b.length]],?_,av,cw r,(j.trans k).trans ag.app⟩;unfold Nd;rw[ae,b_,bK,n,ai,q,ai,t];rfl
def Lg(c:aL):Prop:=∀(b:az) (k j:Nat),b[k]?=some (.lst [.ref j])->b[j]?=some (.lst [])->∃q a,c [.ref k] b=.ok (.ref q) a/\a[q]?=some (.lst [])/\ag [] b a
theorem EB{st:SM}{c:aL}:Lg (aO 4 1 (Eu st c)):=by
 intro d k j f g;have R:Rw d k [j] [[]]:=⟨f,.cons g .nil⟩;rw[aU (by rfl)]
 have h:aM 4 [D.ref k]=[some (.ref k),none,none,none]:=rfl;rw[h];obtain⟨l,b,a,m,n,o,u,w,x⟩:=BH (ρ:=[some (.ref k),none,none,none]) (i:=0) rfl R (by simp)
 have p:(aH 1 (yA 0)) [some (.ref k),none,none,none] d=.nx [some (.ref k),some (.ref b),none,none] a:=by rw[bq,m];rfl
 have e:ag [] a (a++[Cell.lst []]):=ag.app;have q:(a++[Cell.lst []])[a.length]?=some (.lst []):=av;have r:(aH 2 (mN bH af)) [some (.ref k),some (.ref b),none,none] a=.nx [some (.ref k),some (.ref b),some (.ref a.length),none] (a++[Cell.lst []]):=by simp[aG]
 have s:=BI (o.keep e);refine⟨a.length,a++[.lst []],?_,q,n.trans e⟩;unfold Eu;rw[ae,p,aw,ae,r,aw,ae]
 have t:(rT tM (bM st c)) [some (.ref k),some (.ref b),some (.ref a.length),none] (a++[Cell.lst []])=.nx [some (.ref k),some (.ref b),some (.ref a.length),none] (a++[Cell.lst []]):=by
  show jt tM (bM st c) (99999+1) _ _=_
  unfold jt;have:tM [some (.ref k),some (.ref b),some (.ref a.length),none] (a++[Cell.lst []])=.ok (.bl false) (a++[Cell.lst []]):=s;rw[this];rfl
 rw[t];rfl
theorem um{kvs:List (Key×D)}{k:Key}{v:D}(h:k∉kvs.map (·.1)):bI kvs k v=kvs++[(k,v)]:=by
 unfold bI;rw[if_neg];intro z;obtain⟨a,b,c⟩:=List.any_eq_true.mp z;exact h (List.mem_map.mpr ⟨a,b,of_decide_eq_true c⟩)
theorem jy:∀(ps b:List (Key×D)),((b++ps).map (·.1)).Nodup->ps.foldl (λa p=>bI a p.1 p.2) b=b++ps
 |[],b,_=>by simp
 |p::ps,b,h=>by
  have h1:p.1∉b.map (·.1):=by
   rw[List.map_append,List.map_cons]at h;have:=(List.nodup_append.mp h).2.2;exact λz=>this _ z _ (by simp) rfl
  rw[List.foldl_cons,um h1,jy ps _ (by simpa using h)]
  simp
theorem yJ{ns:List Str}{f:Str->D}(h:∀n∈ns,∃j,f n=.ref j/\P j/\Ω[j]?=some (.lst ((L n).map .str))):bh P Ω (ns.map λn=>(.inr n,f n)) (en ns L):=by
 unfold bh en
 induction ns with
 |nil=>exact .nil
 |cons a ns b=>exact .cons ⟨rfl,h a (by simp)⟩ (b λn c=>h n (by simp[c]))
theorem sy{me:EM}{mi:IM}{cap:List Nat}{src:Src}{ns:List Str}{f:Str->D}(m:mi ρ Ω=.ok src Ω)(o:eT src Ω=some (ns.map .str))(r:∀n∈ns,me ([oS n]++ej cap ρ) Ω=.ok (.tup [.str n,f n]) Ω)(A:ns.length<=1000)(s:ns.Nodup) :
  ∃q au,mN pX (ab (cJ me true (ah .non) mi 0 cap) af) ρ Ω=.ok (.ref q) au/\au[q]?=some (.dK (ns.map λn=>(.inr n,f n)))/\ag [] Ω au/\Ω.length<=q:=by
 have e:=cZ (ρ:=ρ) (Ω:=Ω) (au:=Ω) (me:=me) (mc:=ah .non) (nc:=true) (mi:=mi) (cap:=cap) (src:=src) (ds:=ns.map .str) (p:=λ_=>true) (g:=λd=>match d with|.str n=>.tup [.str n,f n]|d=>d) m o (λd _=>rfl) (λd t _=>by
  obtain⟨x,i,rfl⟩:=List.mem_map.mp t;exact r x i) (by simp;omega)
 have u:((ns.map D.str).filter λ_=>true).map (λd=>match d with|.str n=>D.tup [.str n,f n]|d=>d)=ns.map λn=>.tup [.str n,f n]:=by
  rw[List.filter_eq_self.mpr (λ_ _=>rfl),List.map_map]
  rfl
 rw[u]at e;have w:(Ω++[Cell.lst (ns.map λn=>.tup [.str n,f n])])[Ω.length]?=some (.lst (ns.map λn=>.tup [.str n,f n])):=av
 have k:ag [] Ω (Ω++[Cell.lst (ns.map λn=>.tup [.str n,f n])]):=ag.app
 generalize Ω++[Cell.lst (ns.map λn=>.tup [.str n,f n])]=c at *
 have y:bz ll (ns.map λn=>D.tup [.str n,f n])=some (ns.map λn=>(.inr n,f n)):=ij (f:=ll) (g:=λn=>D.tup [.str n,f n]) (h:=λn=>(.inr n,f n)) (λn=>rfl) ns
 have l:=jy (ns.map λn=>((.inr n:Key),f n)) [] (by
  rw[List.nil_append,List.map_map];have:(ns.map ((λp:Key×D=>p.1) ∘ λn=>((.inr n:Key),f n)))=ns.map Sum.inr:=rfl
  rw[this];exact List.Pairwise.map _ (λa b j z=>j (by cases z;rfl)) s)
 rw[List.nil_append]at l;refine⟨c.length,c++[.dK (ns.map λn=>(.inr n,f n))],?_,av,k.trans ag.app,k.len⟩
 rw[dQ,aJ,e,ai,bE,ai,ai]
 show hF (jI [.ref Ω.length] c) _=_
 simp only[jI,aP w,y,l];rfl
def Sq:EM:=(mN (bo .all) (ab (cJ (m2 (aB .In) (aa 0) (aa 1)) true (ah .non) (bG (m2 aC (aa 0) (aa 4))) 0 [2]) af))
def Lh(a b:aL):EM:=(m2 (aY .Add) (mN bH (ab (aa 4) af)) (mN (ba a) (ab (mN (ba b) (ab (aa 2) (ab (m2 aC (aa 0) (aa 4)) af))) af)))
def Li(a b:aL):SM:=(ak (dG Sq
 (ak (ak (cQ (aa 2) (aa 4) (Lh a b))
 aj)
 aj)
 aj)
 aj)
def Lj:SM:=(ak (dG (m2 (aB .In) (aa 4) (aa 3))
 (ak bA
 aj)
 aj)
 aj)
def Sr:EM:=(mN pX (ab (cJ (mN hH (ab (aa 0) (ab (m2 aC (aa 1) (aa 0)) af))) true (ah .non) (bG (aa 0)) 0 [2]) af))
def Nf(a b c d:aL):SM:=
 (ak (aH 1 (mN (ba a) (ab (aa 0) af)))
 (ak (dG (m2 (aB .IsNot) (aa 1) (ah .non))
 (ak bA
 aj)
 aj)
 (ak (aH 2 br)
 (ak (aH 3 br)
 (ak (ek (cP 4) (bG (mN (ba b) (ab (aa 0) af)))
 (Li c d))
 (ak (ek (cP 4) (bG (aa 0))
 Lj)
 (ak (bD Sr)
 aj)))))))
theorem lP{k:Nat}{d:D}(h:Ω[k]?=some (.dK kvs))(a:kvs.length<=1000):gI (.ref k) (.str n) d Ω=some (Ω.set k (.dK (bI kvs (.inr n) d))):=by
 simp only[gI,h,jS];rw[if_pos (aG (by omega))]
theorem EC{t u:aL}(hM:Lg t)(hB:Lf u){l:Nat}{f:List (Key×D)}{g:List Str}{a1 a3 a5:Option D}(V:Ω[e]?=some (.dF kvs))(hr:bh P Ω kvs E)(hl:Ω[l]?=some (.dK f))(w:bh P' Ω f (en g L))(hn:n∈nms E)(F:n∉g)(hz:fk E n=[])(hL:L n=[n])(X:g.length<=100)(G:∀j,Ω.length<=j->P' j) :
  ∃o au,Li t u [oR e,a1,oR l,a3,oS n,a5] Ω=.nx [oR e,a1,oR l,a3,oS n,a5] au/\au[l]?=some (.dK o)/\bh P' au o (en (g++[n]) L)/\ag [l] Ω au:=by
 obtain⟨a,Y,_,m⟩:=hr.at hn;rw[hz]at m;have H:=h_ (n:=n) (.inr V) Y
 obtain⟨c,I,K1⟩:=yH (ρ:=[oR e,a1,oR l,a3,oS n,a5]) (me:=m2 (aB .In) (aa 0) (aa 1)) (mi:=bG (m2 aC (aa 0) (aa 4))) (cap:=[2]) (p:=λx=>true) m (by
  rw[cf]
  show(aC (.ref e) (.str n) Ω).bind _=_
  rw[H,ai];exact bZ (by rw[aW,aP m])) (λx hx=>by cases hx) (by simp)
 have I:Sq [oR e,a1,oR l,a3,oS n,a5] Ω=.ok (.bl true) c:=I;have g2:(c++[Cell.lst [.str n]])[c.length]?=some (.lst [.str n]):=av;have C:ag [] Ω (c++[Cell.lst [.str n]]):=K1.trans ag.app
 have J:(mN bH (ab (aa 4) af)) [oR e,a1,oR l,a3,oS n,a5] c=.ok (.ref c.length) (c++[Cell.lst [.str n]]):=by
  show bH [.str n] c=_
  rw[oC,if_pos (aG (by simp))]
 generalize c++[Cell.lst [.str n]]=h at *;have K:=C.get _ _ m (by simp)
 have y:=h_ (n:=n) (.inr (C.get _ _ V (by simp))) Y
 obtain⟨k,j,M,e3,g3,N,O⟩:=hB h l a K;obtain⟨q,b,e4,Q,R⟩:=hM M k j g3 N;have z:=i8 (R.get _ _ (O.get _ _ g2 (by simp)) (by simp)) Q (by simp)
 have S:ag [] Ω (b++[Cell.lst [.str n]]):=((C.trans O).trans R).trans ag.app;have g5:(b++[Cell.lst [.str n]])[b.length]?=some (.lst ((L n).map .str)):=by rw[hL];exact av
 have l4:Ω.length<=b.length:=((C.trans O).trans R).len
 have e5:Lh t u [oR e,a1,oR l,a3,oS n,a5] c=.ok (.ref b.length) (b++[Cell.lst [.str n]]):=by
  unfold Lh;rw[bK,J,ai]
  have:(mN (ba t) (ab (mN (ba u) (ab (aa 2) (ab (m2 aC (aa 0) (aa 4)) af))) af)) [oR e,a1,oR l,a3,oS n,a5] h=.ok (.ref q) b:=by
   have h1:(ab (aa 2) (ab (m2 aC (aa 0) (aa 4)) af):AM) [oR e,a1,oR l,a3,oS n,a5] h=.ok [.ref l,.ref a] h:=by
    show(((aC (.ref e) (.str n) h).bind _).bind _)=_
    rw[y];rfl
   rw[dQ,aJ,dQ,h1,ai,dS,e3,fV,ai,bE,ai,ai,dS,e4,fV]
  rw[this,ai,z];rfl
 generalize b++[Cell.lst [.str n]]=i at *;have s:=S.get _ _ hl (by simp)
 have A:=w.keep S (by simp)
 have B:=w.len;have T:f.length<=1000:=by rw[←B];simp[en];omega
 have U:=lP (n:=n) (d:=.ref b.length) s T;have Z:ag [l] i (i.set l (.dK (bI f (.inr n) (.ref b.length)))):=ag.set (by simp)
 refine⟨bI f (.inr n) (.ref b.length),i.set l (.dK (bI f (.inr n) (.ref b.length))),?_,aA s,?_,(yx.up S).trans Z⟩
 .unfold Li
  rw[ae,cY,I,du,bV,dR,bP,if_pos rfl,ae,ae]
  have:cQ (aa 2) (aa 4) (Lh t u) [oR e,a1,oR l,a3,oS n,a5] c=.nx [oR e,a1,oR l,a3,oS n,a5] (i.set l (.dK (bI f (.inr n) (.ref b.length)))):=by
   unfold cQ;rw[e5]
   show(match gI (.ref l) (.str n) (.ref b.length) i with|some au=>gi.nx _ au|none=>.bad)=_
   rw[U]
  rw[this];rfl
 .have:=A.put (n:=n) (r:=L n) (by rw[ec];exact F) (G _ l4) g5
  have h6:=this.ez Z (λj hj ds=>by rw[List.mem_singleton.mp hj,s];simp)
  have:en g L++[(n,L n)]=en (g++[n]) L:=by simp[en]
  rw[this]at h6;exact h6
def ED(f:aL):Prop:=∀(c:az) (e:Nat) (b:List (Key×D)) (E:iY) (P:Nat->Prop) (L:Str->List Str),cq c e b->bh P c b E->Gd E->(∀n∈nms E,fk E n=[]/\L n=[n]) ->
 ∃l d a,f [.ref e] c=.ok (.ref l) a/\a[l]?=some (.dK d)/\bh (λj=>c.length<=j) a d (en (nms E) L)/\ag [e] c a/\a[e]?=some (.dF b)/\c.length<=l
theorem HU{LO EF MG RB:aL}(hO:Ez LO)(hE:BN EF)(hM:Lg MG)(hB:Lf RB):ED (aO 6 1 (Nf LO EF MG RB)):=by
 intro Ω e X E P L hd hr G hL;rw[aU (by rfl)]
 have e0:aM 6 [D.ref e]=[oR e,none,none,none,none,none]:=rfl;rw[e0];have K0:=G.few;have p0:(nms E).length=E.length:=by simp[nms]
 obtain⟨a,e1,Y,q0⟩:=hO Ω e X E P hd hr G;have r0:=hr.ez Y (λj H ds=>by rw[List.mem_singleton.mp H];exact hd.nl ds)
 have le:=hd.lt;have K2:ag [] a (a++[Cell.dK []]):=ag.app;have g2:(a++[Cell.dK []])[a.length]?=some (.dK []):=av;have l2:(a++[Cell.dK []]).length=a.length+1:=by simp
 have r2:aH 2 br [oR e,some .non,none,none,none,none] a=.nx [oR e,some .non,oR a.length,none,none,none] (a++[Cell.dK []]):=rfl;generalize a++[Cell.dK []]=g at *;have K3:ag [] g (g++[Cell.dK []]):=ag.app;have g3:(g++[Cell.dK []])[g.length]?=some (.dK []):=av;have l3:(g++[Cell.dK []]).length=g.length+1:=by simp
 have r3:aH 3 br [oR e,some .non,oR a.length,none,none,none] g=.nx [oR e,some .non,oR a.length,oR g.length,none,none] (g++[Cell.dK []]):=rfl;generalize g++[Cell.dK []]=B at *;have w:=K2.trans K3;have I:=w.get _ _ q0 (by simp)
 have Z:=r0.keep w (by simp)
 have s0:=K3.get _ _ g2 (by simp)
 obtain⟨t,z,m,e4,a0,F,C,U,J,lz⟩:=hE B e X E P (.inr I) Z G;have M:a.length≠e:=by have:=Y.len;omega
 have b0:g.length≠e:=by have:=Y.len;omega
 have c0:=U.get _ _ s0 (by simpa using M)
 have t0:=U.get _ _ g3 (by simpa using b0)
 have u0:=Z.ez U (λj H ds=>by rw[List.mem_singleton.mp H,I];simp)
 have M0:t.length<=E.length:=by
  have:=sv F.nd F.sub;omega
 have I0:=U.len;have J0:=Y.len
 have v0:ag [] B m:=⟨U.len,λk c V _=>by
  by_cases h:k=e
  .subst h;rw[I]at V;cases V;exact J
  .exact U.get k c V (by simpa using h)⟩
 have f0:bG (mN (ba EF) (ab (aa 0) af)) [oR e,some .non,oR a.length,oR g.length,none,none] B=.ok (.seq (.ref z)) m:=by
  rw[cf];have:(mN (ba EF) (ab (aa 0) af)) [oR e,some .non,oR a.length,oR g.length,none,none] B=.ok (.ref z) m:=by simp[e4]
  rw[this,ai];exact bZ (by rw[aW,aP a0])
 have g0:∃l u b,eM (cP 4) (.seq (.ref z)) (Li MG RB) fuel 0 [oR e,some .non,oR a.length,oR g.length,none,none] m=.nx [oR e,some .non,oR a.length,oR g.length,u,none] b/\b[a.length]?=some (.dK l)/\bh (λj=>m.length<=j) b l (en t L)/\ag [a.length] m b:=by
  have w0:∀x,ag [a.length] m x->x[z]?=some (.lst (t.map .str)):=λx K=>K.get _ _ a0 (by simp;omega)
  refine cp (R:=λr=>∃l u b,r=.nx [oR e,some .non,oR a.length,oR g.length,u,none] b/\b[a.length]?=some (.dK l)/\bh (λj=>m.length<=j) b l (en t L)/\ag [a.length] m b) (ds:=t.map .str)
   (λi ρ b=>∃l u,ρ=[oR e,some .non,oR a.length,oR g.length,u,none]/\b[a.length]?=some (.dK l)/\bh (λj=>m.length<=j) b l (en (t.take i) L)/\ag [a.length] m b) ?_ ?_ ?_ fuel 0 _ _ (by unfold fuel;simp;omega) (Nat.zero_le _) ⟨[],none,rfl,c0,.nil,ag.refl⟩
  .rintro i ρ b ⟨_,_,_,_,_,K⟩
   rw[dc,aW,aP (w0 _ K)]
  .rintro i d ρ b N ⟨l,u,rfl,A,O,K⟩
   obtain⟨n,y,rfl⟩:=fj N;refine⟨[oR e,some .non,oR a.length,oR g.length,oS n,none],rfl,?_⟩;have h0:=F.sub n (List.mem_of_getElem? y);obtain⟨hz,x0⟩:=hL n h0;have p:=K.get _ _ J (by simpa using Ne.symm M)
   have Q:=u0.ez K (λj H ds=>by rw[List.mem_singleton.mp H,c0];simp)
   have y0:n∉t.take i:=by
    intro hm;obtain⟨i',S⟩:=List.mem_iff_getElem?.mp hm;have z0:=(List.getElem?_eq_some_iff.mp S).1;rw[List.length_take]at z0;rw[List.getElem?_take_of_lt (by omega)]at S
    have:=(List.getElem?_inj (by omega) F.nd).mp (S.trans y.symm)
    omega
   obtain⟨i0,s,e6,h6,h7,K6⟩:=EC (P':=λj=>m.length<=j) hM hB (n:=n) (a1:=some .non) (a3:=oR g.length) (a5:=none) p Q A O h0 y0 hz x0 (by rw[List.length_take];omega) (λj H=>Nat.le_trans K.len H)
   rw[e6];refine⟨i0,oS n,rfl,h6,?_,K.trans K6⟩;rw[List.take_succ,y];exact h7
  .rintro ρ b ⟨l,u,rfl,A,O,K⟩
   rw[List.length_map,List.take_length]at O;exact⟨l,u,b,rfl,A,O,K⟩
 obtain⟨l,u,b,e5,h5,Q,K5⟩:=g0;have p:=K5.get _ _ J (by simpa using Ne.symm M)
 have A0:=K5.get _ _ t0 (by simp;omega)
 have j0:bG (aa 0) [oR e,some .non,oR a.length,oR g.length,u,none] b=.ok (.keys e) b:=by
  rw[cf]
  show srcOf b (.ref e)=_
  rw[qB (.inr p),set_same p]
 have T:∃o,eM (cP 4) (.keys e) Lj fuel 0 [oR e,some .non,oR a.length,oR g.length,u,none] b=.nx [oR e,some .non,oR a.length,oR g.length,o,none] b:=by
  refine cp (R:=λr=>∃o,r=.nx [oR e,some .non,oR a.length,oR g.length,o,none] b) (ds:=(nms E).map .str)
   (λi ρ s=>s=b/\∃o,ρ=[oR e,some .non,oR a.length,oR g.length,o,none]) ?_ ?_ ?_ fuel 0 _ _ (by unfold fuel;simp;omega) (Nat.zero_le _) ⟨rfl,u,rfl⟩
  .rintro i ρ s ⟨rfl,_⟩
   rw[il p,hr.keys]
  .rintro i d ρ s N ⟨rfl,o,rfl⟩
   obtain⟨n,y,rfl⟩:=fj N;refine⟨[oR e,some .non,oR a.length,oR g.length,oS n,none],rfl,?_⟩;have B0:=BK (n:=n) (.inl A0)
   have:Lj [oR e,some .non,oR a.length,oR g.length,oS n,none] s=.nx [oR e,some .non,oR a.length,oR g.length,oS n,none] s:=by
    unfold Lj;rw[ae,cY]
    show sq (cu (dE (aB .In (.str n) (.ref g.length) s)) _) _=_
    rw[B0];rfl
   rw[this];exact⟨rfl,_,rfl⟩
  .rintro ρ s ⟨rfl,o,rfl⟩
   exact⟨o,rfl⟩
 obtain⟨o,e6⟩:=T
 have k0:∀n∈nms E,∃j,(bx l (.inr n)).getD .non=.ref j/\m.length<=j/\b[j]?=some (.lst ((L n).map .str))/\bx l (.inr n)=oR j:=λn y=>by
  obtain⟨j,A,O,h3⟩:=Q.at (n:=n) (by rw[ec];exact C n y)
  rw[iZ (C n y)]at h3;exact⟨j,by rw[A];rfl,O,h3,A⟩
 have l0:bG (aa 0) [oR e,some .non,oR a.length,oR g.length,o,none] b=.ok (.keys e) b:=by
  rw[cf]
  show srcOf b (.ref e)=_
  rw[qB (.inr p),set_same p]
 obtain⟨q,m0,e7,g7,K7,lq⟩:=sy (ρ:=[oR e,some .non,oR a.length,oR g.length,o,none]) (me:=mN hH (ab (aa 0) (ab (m2 aC (aa 1) (aa 0)) af))) (cap:=[2]) (ns:=nms E) (f:=λn=>(bx l (.inr n)).getD .non) l0 (by rw[il p,hr.keys]) (λn y=>by
  obtain⟨j,A,_,_,h4⟩:=k0 n y;have C0:=h_ (n:=n) (.inl h5) h4
  show(((aC (.ref a.length) (.str n) b).bind _).bind _).bind _=_
  rw[C0]
  show hH [.str n,.ref j] b=_
  rw[oD,if_pos (aG (by simp)),A]) (by omega) G.nd
 have o0:ag [] a b:=⟨by have:=w.len;have:=K5.len;omega,λk c V _=>K5.get k c (v0.get k c (w.get k c V (by simp)) (by simp)) (by have:=bp V;simp;omega)⟩
 refine⟨q,_,m0,?_,g7,?_,Y.trans (yx.up (o0.trans K7)),K7.get _ _ p (by simp),by have:=o0.len;omega⟩
 .unfold Nf
  have r1:(aH 1 (mN (ba LO) (ab (aa 0) af))) [oR e,none,none,none,none,none] Ω=.nx [oR e,some .non,none,none,none,none] a:=by simp[e1]
  have D0:(dG (m2 (aB .IsNot) (aa 1) (ah .non)) (ak bA aj) aj) [oR e,some .non,none,none,none,none] a=.nx [oR e,some .non,none,none,none,none] a:=by simp
  rw[ae,r1,aw,ae,D0,aw,ae,r2,aw,ae,r3,aw,ae,de,f0,bP,e5,aw,ae,de,j0,bP,e6,aw,ae,b_];have G0:Sr [oR e,some .non,oR a.length,oR g.length,o,none] b=.ok (.ref q) m0:=e7;rw[G0];rfl
 .refine yJ λn y=>?_
  obtain⟨j,A,O,h3,_⟩:=k0 n y;exact⟨j,A,by have:=w.len;omega,K7.get _ _ h3 (by simp)⟩
end
def iv(x:Str):Prop:=1<=x.length/\x.length<=8/\∀c∈x.cps.toList,97<=c/\c<=122
section
variable{Ω au:az}{ρ:aV}{e q j h:Nat}{kvs:List (Key×D)}{E:iY}{P P':Nat->Prop}{n:Str}{r:List Str}{fp:List Nat}{L:Str->List Str}
theorem EE:∀c,97<=c->c<=122->sV (ay c) "abcdefghijklmnopqrstuvwxyz"=true:=by
 have:∀i,i<26->sV (ay (97+i)) "abcdefghijklmnopqrstuvwxyz"=true:=by decide +kernel
 intro c a b;have:=this (c - 97) (by omega)
 rwa[show 97+(c - 97)=c by omega]at this
def inC:EM:=(cJ (m2 (aB .In) (aa 0) (ah (.str "abcdefghijklmnopqrstuvwxyz"))) true (ah .non) (bG (aa 0)) 0 [])
def Ng:SM:=
 (ak (dG (hJ (m1 (rR .str) (aa 0)))
 (ak (bD (ah (.bl false)))
 aj)
 aj)
 (ak (bD (fC (kZ .LtE .LtE (ah (.int 1)) (mN (bo .len) (ab (aa 0) af)) (ah (.int 8))) (mN (bo .all) (ab inC af))))
 aj))
def ip(c:aL):Prop:=∀(b:az) (x:Str),iv x->∃a,c [.str x] b=.ok (.bl true) a/\ag [] b a
theorem HV:ip (aO 1 1 Ng):=by
 intro Ω x h;obtain⟨w,y,e⟩:=h;rw[aU (by rfl)]
 have i:aM 1 [D.str x]=[oS x]:=rfl;rw[i];have b:bG (aa 0) [oS x] Ω=.ok (.chars x) Ω:=rfl
 have a:=cZ (ρ:=[oS x]) (Ω:=Ω) (au:=Ω) (me:=m2 (aB .In) (aa 0) (ah (.str "abcdefghijklmnopqrstuvwxyz"))) (mc:=ah .non) (nc:=true) (mi:=bG (aa 0)) (cap:=[]) (src:=.chars x) (ds:=x.cps.toList.map λc=>.str (ay c)) (p:=λ_=>true) (g:=λd=>.bl true) b rfl (λd _=>rfl) (λd j _=>by
  obtain⟨c,f,rfl⟩:=List.mem_map.mp j;have:=EE c (e c f).1 (e c f).2
  show aB .In (.str (ay c)) (.str _) Ω=_
  simp[dD,inD,this]) (by
  have:x.cps.toList.length=x.length:=by simp[Str.length]
  simp only[List.length_map];omega)
 have k:((x.cps.toList.map λc=>D.str (ay c)).filter λ_=>true).map (λ_=>D.bl true)=(x.cps.toList.map λ_=>true).map .bl:=by
  rw[List.filter_eq_self.mpr (λ_ _=>rfl),List.map_map,List.map_map]
  rfl
 rw[k]at a;have a:inC [oS x] Ω=.ok (.ref Ω.length) (Ω++[.lst ((x.cps.toList.map λ_=>true).map .bl)]):=a
 have l:=uk (Ω:=Ω++[.lst ((x.cps.toList.map λ_=>true).map .bl)]) (q:=Ω.length) av
 refine⟨Ω++[.lst ((x.cps.toList.map λ_=>true).map .bl)],?_,ag.app⟩
 have m:(mN (bo .all) (ab inC af)) [oS x] Ω=.ok (.bl true) (Ω++[.lst ((x.cps.toList.map λ_=>true).map .bl)]):=by
  rw[dQ,aJ,a,ai,bE,ai,ai,l];simp
 have o:(kZ .LtE .LtE (ah (.int 1)) (mN (bo .len) (ab (aa 0) af)) (ah (.int 8))) [oS x] Ω=.ok (.bl true) Ω:=by
  have r:bo .len [.str x] Ω=.ok (.int x.length) Ω:=by
   show hF (oj [.str x] Ω) (hF (rQ [.str x] Ω) (mn .len [.str x] Ω))=_
   show mn .len [.str x] Ω=_
   unfold mn;simp[aG (n:=x.length) (by omega)]
  have s:cD .LtE (.int 1) (.int x.length) Ω=.ok (.bl true) Ω:=by
   have:decide ((1:Int)<=x.length)=true:=by simp;omega
   simp[dD,this]
  have t:cD .LtE (.int x.length) (.int 8) Ω=.ok (.bl true) Ω:=by
   have:decide ((x.length:Int)<=8)=true:=by simp;omega
   simp[dD,this]
  unfold kZ;have:(mN (bo .len) (ab (aa 0) af)) [oS x] Ω=.ok (.int x.length) Ω:=r;rw[bU,ai,this,ai,s,du,bV,dR,ai,if_pos rfl,bU,ai,t]
 have u:(dG (hJ (m1 (rR .str) (aa 0))) (ak (bD (ah (.bl false))) aj) aj) [oS x] Ω=.nx [oS x] Ω:=by rfl
 unfold Ng;rw[ae,u,aw,ae,b_,e9,o,ai,bV,lL,m];rfl
def cX(P:Nat->Prop)(Ω:az)(h:Nat)(E:iY)(L:Str->List Str):Prop:=
 ∃e l a b,Ω[h]?=some (.ins "House" [("elders",.ref e),("lines",.ref l)])/\cq Ω e a/\bh P Ω a E/\cq Ω l b/\bh P Ω b (en (nms E) L)
theorem cX.keep(H:cX P Ω h E L)(K:ag [] Ω au):cX P au h E L:=by
 obtain⟨e,l,a,b,c,d,f,g,i⟩:=H;exact⟨e,l,a,b,K.get _ _ c (by simp),d.keep K (by simp),f.keep K (by simp),g.keep K (by simp),i.keep K (by simp)⟩
theorem cX.imp(H:cX P Ω h E L)(c:∀j,P j->P' j):cX P' Ω h E L:=by
 obtain⟨e,l,a,b,d,f,g,i,k⟩:=H;exact⟨e,l,a,b,d,f,g.imp c,i,k.imp c⟩
theorem cX.lt(H:cX P Ω h E L):cX (λj=>P j/\j<Ω.length) Ω h E L:=by
 obtain⟨e,l,a,b,c,d,f,g,i⟩:=H;exact⟨e,l,a,b,c,d,f.lt,g,i.lt⟩
theorem cX.HW{ds:List D}(H:cX P Ω h E L)(K:ag [q] Ω au)(a:Ω[q]?=some (.lst ds))(k:¬ P q):cX P au h E L:=by
 obtain⟨e,l,b,c,d,f,m,g,n⟩:=H;have o:h≠q:=λz=>by rw[z,a]at d;cases d
 have p:e≠q:=λz=>f.nl _ (z▸a)
 have r:l≠q:=λz=>g.nl _ (z▸a)
 have i:∀j∈[q],¬ P j:=λj s=>by rw[List.mem_singleton.mp s];exact k
 exact⟨e,l,b,c,K.get _ _ d (by simpa using o),f.keep K (by simpa using p),m.keep K i,g.keep K (by simpa using r),n.keep K i⟩
def fe:EM:=(m1 (aZ ["House"] "elders") (aa 0))
theorem uo{l:Nat}(a:Ω[h]?=some (.ins "House" [("elders",.ref e),("lines",.ref l)])):aZ ["House"] "elders" (.ref h) Ω=.ok (.ref e) Ω:=cM a rfl rfl
def Nh:SM:=(ak (bD (mN (bo .list) (ab fe af))) aj)
def BO(c:aL):Prop:=∀(b:az) (h:Nat) (E:iY) (L:Str->List Str) (P:Nat->Prop),cX P b h E L->∃k a,c [.ref h] b=.ok (.ref k) a/\a[k]?=some (.lst ((nms E).map .str))/\ag [] b a/\b.length<=k
theorem HX:BO (aO 1 1 Nh):=by
 intro a h E L P H;obtain⟨e,l,c,d,f,g,i,k,m⟩:=H;rw[aU (by rfl)]
 have j:aM 1 [D.ref h]=[oR h]:=rfl;rw[j];have b:=oM g;rw[i.keys]at b;refine⟨a.length,a++[.lst ((nms E).map .str)],?_,av,ag.app,Nat.le_refl _⟩
 have:(mN (bo .list) (ab fe af)) [oR h] a=.ok (.ref a.length) (a++[.lst ((nms E).map .str)]):=by
  show(((aZ ["House"] "elders" (.ref h) a).bind _).bind _)=_
  rw[uo f,ai];exact b
 unfold Nh;rw[ae,b_,this];rfl
theorem lQ{m:Str}{F:aL}{i:Nat}{c:AM}(H:cX P Ω h E L)(d:ρ[i]?=some (oR h))(a:([("elders",D.ref 0),("lines",D.ref 0)]:List (Str×D)).lookup m=none):aD "House" m F (aa i) c ρ Ω=(c ρ Ω).bind λxs b=>xT (F (.ref h::xs) b):=by
 obtain⟨e,l,f,g,j,k,n,o,p⟩:=H;refine fZ (by rw[eD,d,eB]) j ?_
 simp only[List.lookup_cons]at a ⊢;split at a
 .cases a
 .split at a
  .cases a
  .rfl
def Ni(a:aL):SM:=
 (ak (dG (m2 (aB .NotIn) (aa 1) (aD "House" "kinds" a (aa 0) af))
 (ak bA
 aj)
 aj)
 aj)
def iq(c:aL):Prop:=∀(b:az) (h:Nat) (E:iY) (L:Str->List Str) (P:Nat->Prop) (n:Str),cX P b h E L->n∈nms E->∃a,c [.ref h,.str n] b=.ok .non a/\ag [] b a
theorem HY{d:aL}(e:BO d):iq (aO 2 2 (Ni d)):=by
 intro c h E L P n H f;rw[aU (by rfl)]
 have g:aM 2 [D.ref h,.str n]=[oR h,oS n]:=rfl;rw[g];obtain⟨k,a,i,j,l,_⟩:=e c h E L P H
 have m:aD "House" "kinds" d (aa 0) af [oR h,oS n] c=.ok (.ref k) a:=by
  rw[lQ H rfl (by decide),bE,ai,i,fV]
 refine⟨a,?_,l⟩;have b:=ko (w:=n) j;rw[decide_eq_true f]at b;unfold Ni;rw[ae,cY,bK];have:aa 1 [oR h,oS n] c=.ok (.str n) c:=rfl;rw[this,ai,m,ai,b];rfl
def Nj(a:aL):SM:=(ak (cA (aD "House" "check_kind" a (aa 0) (ab (aa 3) af)))
 (ak (dG (m2 (aB .In) (aa 3) (eu (aa 1) true (ah .non) false (aa 2)))
 (ak bA
 aj)
 aj)
 aj))
def Nk(a:aL):SM:=
 (ak (dG (m2 (aB .Gt) (mN (bo .len) (ab (aa 1) af)) (ah (.int 5)))
 (ak bA
 aj)
 aj)
 (ak (ek (iK [2,3]) (vq (aa 1))
 (Nj a))
 aj))
def EG(CE:aL):Prop:=∀(c:az) (h a:Nat) (E:iY) (L:Str->List Str) (P:Nat->Prop) (r:List Str),cX P c h E L->c[a]?=some (.lst (r.map .str))->r.Nodup->r.length<=5->(∀x∈r,x∈nms E)->∃b,CE [.ref h,.ref a] c=.ok .non b/\ag [] c b
theorem EH{f:aL}(m:iq f){a i:Nat}{x:Str}(H:cX P Ω h E L)(o:Ω[a]?=some (.lst (r.map .str)))(p:r[i]?=some x)(q:r.Nodup)(s:x∈nms E) :
  ∃au,Nj f [oR h,oR a,oI i,oS x] Ω=.nx [oR h,oR a,oI i,oS x] au/\ag [] Ω au:=by
 obtain⟨b,t,l⟩:=m Ω h E L P x H s
 have u:aD "House" "check_kind" f (aa 0) (ab (aa 3) af) [oR h,oR a,oI i,oS x] Ω=.ok .non b:=by
  rw[lQ H rfl (by decide)]
  show xT (f [.ref h,.str x] Ω)=_
  rw[t];rfl
 have g:=oK (n:=i) (l.get _ _ o (by simp))
 have y:(b++[Cell.lst ((r.take i).map .str)])[b.length]?=some (.lst ((r.take i).map .str)):=av;have z:ag [] Ω (b++[Cell.lst ((r.take i).map .str)]):=l.trans ag.app;generalize b++[Cell.lst ((r.take i).map .str)]=d at *;have e:=oF (w:=x) y
 have j:x∉r.take i:=by
  intro A;obtain⟨C,c⟩:=List.mem_iff_getElem?.mp A;have k:=(List.getElem?_eq_some_iff.mp c).1;rw[List.length_take]at k;rw[List.getElem?_take_of_lt (by omega)]at c
  have:=(List.getElem?_inj (by omega) q).mp (c.trans p.symm)
  omega
 rw[decide_eq_false j]at e;refine⟨d,?_,z⟩
 have B:eu (aa 1) true (ah .non) false (aa 2) [oR h,oR a,oI i,oS x] b=.ok (.ref b.length) d:=by
  rw[iX];simp[g]
 unfold Nj;rw[ae,cm,u,bP,aw,ae,cY,bK];have:aa 3 [oR h,oR a,oI i,oS x] b=.ok (.str x) b:=rfl;rw[this,ai,B,ai,e];rfl
theorem HZ{o:aL}(q:iq o):EG (aO 4 2 (Nk o)):=by
 intro c h a E L P r H g s C t;rw[aU (by rfl)]
 have u:aM 4 [D.ref h,.ref a]=[oR h,oR a,none,none]:=rfl;rw[u]
 have w:(dG (m2 (aB .Gt) (mN (bo .len) (ab (aa 1) af)) (ah (.int 5))) (ak bA aj) aj) [oR h,oR a,none,none] c=.nx [oR h,oR a,none,none] c:=by
  have e:=eE g;rw[List.length_map]at e;rw[cY,bK];have:(mN (bo .len) (ab (aa 1) af)) [oR h,oR a,none,none] c=.ok (.int r.length) c:=e;rw[this,ai,bU,ai]
  have:aB .Gt (.int r.length) (.int 5) c=.ok (.bl false) c:=by
   simp[dD];omega
  rw[this];rfl
 have k:vq (aa 1) [oR h,oR a,none,none] c=.ok (.Mn (.ref a)) c:=by
  unfold vq;simp[aP g]
 unfold Nk;rw[ae,w,aw,ae,de,k,bP]
 refine cp (R:=λr=>∃f,iM (sq r _)=.ok .non f/\ag [] c f) (ds:=d_ 0 (r.map .str))
  (λi j b=>∃l m,j=[oR h,oR a,l,m]/\ag [] c b) ?_ ?_ ?_ fuel 0 _ _ (by rw[nW];unfold fuel;simp;omega) (Nat.zero_le _) ⟨none,none,rfl,ag.refl⟩
 .rintro i j b ⟨_,_,_,K⟩
  show(gh b (.ref a)).map (d_ 0)=_
  rw[aW,aP (K.get _ _ g (by simp))];rfl
 .rintro i d j b y ⟨l,m,rfl,K⟩
  obtain⟨F,n,rfl⟩:=nX _ 0 i d y;obtain⟨x,p,rfl⟩:=fj n;rw[Nat.zero_add];refine⟨[oR h,oR a,oI i,oS x],rfl,?_⟩;obtain⟨z,A,B⟩:=EH q (i:=i) (H.keep K) (K.get _ _ g (by simp)) p s (t x (List.mem_of_getElem? p))
  rw[A];exact⟨_,_,rfl,K.trans B⟩
 .rintro j b ⟨l,m,rfl,K⟩
  exact⟨b,rfl,K⟩
end
section
variable{Ω au:az}{ρ:aV}{e q j h:Nat}{kvs:List (Key×D)}{E:iY}{P P':Nat->Prop}{n:Str}{r:List Str}{fp:List Nat}{L L':Str->List Str}
theorem kx{f:Str}{b c:EM}{y:D}{k:Nat}{a:List (Str×D)}{aS:az}(d:c ρ Ω=.ok y aS)(e:b ρ aS=.ok (.ref k) aS)(g:aS[k]?=some (.ins "House" a))(h:a.length<1000):bf ["House"] f b c ρ Ω=.nx ρ (aS.set k (.ins "House" (iL f y a))):=by
 unfold bf;rw[d,bP,e,bP,iV g];have:((["House"]:List Str).contains "House"&&decide (a.length<1000))=true:=by rw[decide_eq_true h];rfl
 simp only[this,if_true]
def Lk:SM:=
 (ak (bf ["House"] "elders" (aa 0) br)
 (ak (bf ["House"] "lines" (aa 0) br)
 aj))
def yK(c:aL):Prop:=∀(b:az) (L:Str->List Str) (P:Nat->Prop),∃a,dO "House" c [] b=.ok (.ref b.length) a/\cX P a b.length [] L/\ag [] b a
theorem H_:yK (aO 1 1 Lk):=by
 intro b L P;have h:(b++[Cell.ins "House" []])[b.length]?=some (.ins "House" []):=av;have i:ag [] b (b++[Cell.ins "House" []]):=ag.app;have p:(b++[Cell.ins "House" []]).length=b.length+1:=by simp
 unfold dO;generalize b++[Cell.ins "House" []]=a at *;rw[aU (by rfl)]
 have j:aM 1 [D.ref b.length]=[oR b.length]:=rfl;rw[j];have d:(a++[Cell.dK []])[b.length]?=some (.ins "House" []):=cw h;have k:bf ["House"] "elders" (aa 0) br [oR b.length] a=.nx [oR b.length] ((a++[Cell.dK []]).set b.length (.ins "House" [("elders",.ref a.length)])):=kx (aS:=a++[.dK []]) rfl rfl d (by simp)
 have l:=aA (e:=.ins "House" [("elders",.ref a.length)]) d;have m:ag [b.length] a ((a++[Cell.dK []]).set b.length (.ins "House" [("elders",.ref a.length)])):=ag.app.trans (ag.set (by simp))
 have d1:((a++[Cell.dK []]).set b.length (.ins "House" [("elders",.ref a.length)]))[a.length]?=some (.dK []):=bj av (by omega)
 have q:((a++[Cell.dK []]).set b.length (.ins "House" [("elders",.ref a.length)])).length=a.length+1:=by simp
 generalize (a++[Cell.dK []]).set b.length (.ins "House" [("elders",.ref a.length)])=aS at *;have f:(aS++[Cell.dK []])[b.length]?=some (.ins "House" [("elders",.ref a.length)]):=cw l;have n:bf ["House"] "lines" (aa 0) br [oR b.length] aS=.nx [oR b.length] ((aS++[Cell.dK []]).set b.length (.ins "House" [("elders",.ref a.length),("lines",.ref aS.length)])):=kx (aS:=aS++[.dK []]) rfl rfl f (by simp)
 have o:=aA (e:=.ins "House" [("elders",.ref a.length),("lines",.ref aS.length)]) f;have g:ag [b.length] aS ((aS++[Cell.dK []]).set b.length (.ins "House" [("elders",.ref a.length),("lines",.ref aS.length)])):=ag.app.trans (ag.set (by simp))
 have d2:((aS++[Cell.dK []]).set b.length (.ins "House" [("elders",.ref a.length),("lines",.ref aS.length)]))[aS.length]?=some (.dK []):=bj av (by omega)
 generalize (aS++[Cell.dK []]).set b.length (.ins "House" [("elders",.ref a.length),("lines",.ref aS.length)])=c at *;refine⟨c,?_,⟨a.length,aS.length,[],[],o,.inl (g.get _ _ d1 (by simp;omega)),.nil,.inl d2,.nil⟩,ag.new i (m.trans g) (by simp)⟩
 have:iM (Lk [oR b.length] a)=.ok .non c:=by
  unfold Lk;rw[ae,k,aw,ae,n];rfl
 rw[this]
def Nl(a:aL):SM:=
 (ak (aH 2 (mN (ba a) (ab (aa 1) af)))
 (ak (bf ["House"] "elders" (aa 0) (aa 1))
 (ak (bf ["House"] "lines" (aa 0) (aa 2))
 aj)))
def yL(d:aL):Prop:=∀(b:az) (h e f g:Nat) (c:List (Key×D)) (E:iY) (P:Nat->Prop) (L:Str->List Str),b[h]?=some (.ins "House" [("elders",.ref f),("lines",.ref g)])->cq b e c->bh P b c E->Gd E->(∀n∈nms E,fk E n=[]/\L n=[n])->(∀j,b.length<=j->P j) ->
 ∃a,d [.ref h,.ref e] b=.ok .non a/\cX P a h E L/\ag [h,e] b a
theorem Ia{k:aL}(F:ED k):yL (aO 3 2 (Nl k)):=by
 intro x h e H f c E P L y m A G I J;rw[aU (by rfl)]
 have K:aM 3 [D.ref h,.ref e]=[oR h,oR e,none]:=rfl;rw[K];obtain⟨l,n,aS,M,o,p,q,r,U⟩:=F x e c E P L m A G I;have d:h≠e:=λz=>m.ni _ _ (z▸y)
 have g:=q.get _ _ y (by simpa using d)
 have s:=A.ez q (λj t i=>by rw[List.mem_singleton.mp t];exact m.nl i)
 have u:l≠h:=λz=>by rw[z,g]at o;cases o
 have N:bf ["House"] "elders" (aa 0) (aa 1) [oR h,oR e,oR l] aS=.nx [oR h,oR e,oR l] (aS.set h (.ins "House" [("elders",.ref e),("lines",.ref f)])):=kx (aS:=aS) rfl rfl g (by simp)
 have B:=aA (e:=.ins "House" [("elders",.ref e),("lines",.ref f)]) g;have O:ag [h] aS (aS.set h (.ins "House" [("elders",.ref e),("lines",.ref f)])):=ag.set (by simp)
 generalize aS.set h (.ins "House" [("elders",.ref e),("lines",.ref f)])=a at *;have Q:bf ["House"] "lines" (aa 0) (aa 2) [oR h,oR e,oR l] a=.nx [oR h,oR e,oR l] (a.set h (.ins "House" [("elders",.ref e),("lines",.ref l)])):=kx (aS:=a) rfl rfl B (by simp)
 have R:=aA (e:=.ins "House" [("elders",.ref e),("lines",.ref l)]) B;have S:ag [h] a (a.set h (.ins "House" [("elders",.ref e),("lines",.ref l)])):=ag.set (by simp)
 generalize a.set h (.ins "House" [("elders",.ref e),("lines",.ref l)])=w at *;have b:=O.trans S;have C:∀j∈[h],∀i,aS[j]?≠some (.lst i):=λj t i=>by rw[List.mem_singleton.mp t,g];simp
 refine⟨w,?_,⟨e,l,c,n,R,.inr (b.get _ _ r (by simpa using Ne.symm d)),s.ez b C,.inl (b.get _ _ o (by simpa using u)),(p.imp J).ez b C⟩,(q.sub (by simp)).trans (b.sub (by simp))⟩
 unfold Nl;have T:(aH 2 (mN (ba k) (ab (aa 1) af))) [oR h,oR e,none] x=.nx [oR h,oR e,oR l] aS:=by simp[M]
 rw[ae,T,aw,ae,N,aw,ae,Q];rfl
def Ib:EM:=(mN hH (ab (aa 0) (ab (zh (m2 (aB .Eq) (aa 0) (aa 2)) (mN (bo .list) (ab (aa 1) af)) (m2 aC (m1 (aZ ["House"] "elders") (aa 3)) (aa 0))) af)))
def Nm:EM:=(mN pX (ab (cJ Ib true (ah .non) (bG (aa 4)) 0 [2,1,0]) af))
def Nn:EM:=(cE kf gU (aa 4) (ab (zh (m2 (aB .Is) (aa 3) (ah .non)) (mN (bo .len) (ab (aa 4) af)) (aa 3)) (ab (aa 1) af)))
def Np(a CE b c:aL):SM:=
 (ak (dG (hJ (mN (ba a) (ab (aa 1) af)))
 (ak bA
 aj)
 aj)
 (ak (dG (m2 (aB .In) (aa 1) fe)
 (ak bA
 aj)
 aj)
 (ak (dG (m2 (aB .GtE) (mN (bo .len) (ab fe af)) (ah (.int 12)))
 (ak bA
 aj)
 aj)
 (ak (cA (aD "House" "check_elders" CE (aa 0) (ab (aa 2) af)))
 (ak (aH 4 (aD "House" "kinds" b (aa 0) af))
 (ak (cA Nn)
 (ak (cA (aD "House" "settle" c (aa 0) (ab Nm af)))
 aj)))))))
theorem yM{a:Type}{xs:List a}{x:a}:nN xs xs.length x=xs++[x]:=by
 have:HT.gR xs.length 0 (some (xs.length:Int))=xs.length:=by
  unfold HT.gR;simp;intro z;omega
 unfold nN;simp only[this];simp
theorem EI{a k:Nat}{a3:Option D}(H:cX P Ω h E L)(ha:Ω[a]?=some (.lst (r.map .str)))(hk:Ω[k]?=some (.lst ((nms E++[n]).map .str)))(hn:n∉nms E)(O:(nms E).Nodup)(hl:E.length<=100)(hP:∀j,Ω.length<=j->P j) :
  ∃q A au,Nm [oR h,oS n,oR a,a3,oR k] Ω=.ok (.ref q) au/\au[q]?=some (.dK A)/\bh P au A (E++[(n,r)])/\ag [] Ω au/\Ω.length<=q:=by
 have a0:bG (aa 4) [oR h,oS n,oR a,a3,oR k] Ω=.ok (.seq (.ref k)) Ω:=by
  rw[cf];exact bZ (by rw[aW,aP hk])
 have b0:nms (E++[(n,r)])=nms E++[n]:=by simp[nms]
 obtain⟨ys,o,e1,m,rfl,Q,K1⟩:=kr (ρ:=[oR h,oS n,oR a,a3,oR k]) (me:=Ib) (mc:=ah .non) (cap:=[2,1,0]) (ds:=(nms E++[n]).map .str) (λi B c=>∃m:List (Str×D),B=m.map (λp=>.tup [.str p.1,p.2])/\bh P c (m.map λp=>(.inr p.1,p.2)) ((E++[(n,r)]).take i)/\ag [] Ω c) a0 ⟨[],rfl,.nil,ag.refl⟩
  (λi B c h=>by
   obtain⟨_,_,_,K⟩:=h;rw[dc,aW,aP (K.get _ _ hk (by simp))])
  (λi d B c c0 hI=>by
   obtain⟨m,rfl,Q,K⟩:=hI;obtain⟨x,N,rfl⟩:=fj c0;obtain⟨e,l,A,k0,q1,q2,q3,q4,q5⟩:=H.keep K;have e0:=K.get _ _ ha (by simp)
   show ∃y au,Ib [oS x,oR a,oS n,oR h] c=.ok y au/\_
   have S:∀(p:Str×List Str) (j:Nat) (s:az),(E++[(n,r)])[i]?=some p->p.1=x->P j->s[j]?=some (.lst (p.2.map .str))->ag [] c s->∃t:List (Str×D),(m.map (λp=>D.tup [.str p.1,p.2])++[.tup [.str x,.ref j]])=t.map (λp=>.tup [.str p.1,p.2])/\bh P s (t.map λp=>(.inr p.1,p.2)) ((E++[(n,r)]).take (i+1))/\ag [] Ω s:=by
    intro p j s T C F Y K3;refine⟨m++[(x,.ref j)],by simp,?_,K.trans K3⟩
    rw[List.take_succ,T,List.map_append];exact aE.append (R:=λ(kv:Key×D) (p:Str×List Str)=>kv.1=.inr p.1/\∃j,kv.2=.ref j/\P j/\s[j]?=some (.lst (p.2.map .str))) (Q.keep K3 (by simp)) (.cons ⟨by rw[C],j,rfl,F,Y⟩ .nil)
   have Z:(m2 (aB .Eq) (aa 0) (aa 2)) [oS x,oR a,oS n,oR h] c=.ok (.bl (decide (x=n))) c:=by
    show aB .Eq (.str x) (.str n) c=_
    simp
    by_cases z:x=n<;>simp[z]
   have hi:=(List.getElem?_eq_some_iff.mp N).1;rw[List.length_append]at hi;simp only[nms,List.length_map,List.length_singleton]at hi
   by_cases G:i<E.length
   .have u:(nms E)[i]?=some x:=by rw[List.getElem?_append_left (by simp[nms];exact G)]at N;exact N
    have I:x∈nms E:=List.mem_of_getElem? u;have J:x≠n:=λz=>hn (z▸I)
    rw[decide_eq_false J]at Z;have T:(E++[(n,r)])[i]?=some E[i]:=by rw[List.getElem?_append_left G];simp
    have C:E[i].1=x:=by
     simp[nms,G]at u;exact u
    have U:fk E x=E[i].2:=by
     have hm:(x,fk E x)∈E:=uj (lO I);obtain⟨i',w⟩:=List.mem_iff_getElem?.mp hm;have e1:(nms E)[i']?=some x:=by simp[nms,w]
     have V:=(List.getElem?_eq_some_iff.mp w).1;have:=(List.getElem?_inj (by simp[nms];exact V) O).mp (e1.trans u.symm)
     subst this;rw[List.getElem?_eq_getElem V]at w;have z:=Option.some.inj w;rw[z]
    obtain⟨j,hv,F,Y⟩:=q3.at I;rw[U]at Y;obtain⟨t,z1,z2,z3⟩:=S E[i] j c T C F Y ag.refl;refine⟨.tup [.str x,.ref j],c,?_,t,z1,z2,z3⟩
    have M:(m2 aC (m1 (aZ ["House"] "elders") (aa 3)) (aa 0)) [oS x,oR a,oS n,oR h] c=.ok (.ref j) c:=by
     show((aZ ["House"] "elders" (.ref h) c).bind _)=_
     rw[uo q1,ai];exact h_ q2 hv
    unfold Ib;rw[dQ,aJ];have:aa 0 [oS x,oR a,oS n,oR h] c=.ok (.str x) c:=rfl;rw[this,ai,aJ,sm,Z,du,bV,dR,ai,if_neg (by simp),M,ai,bE,ai,ai,ai,oD,if_pos (aG (by simp))]
   .have f0:i=E.length:=by omega
    subst f0
    have J:x=n:=by
     rw[List.getElem?_append_right (by simp[nms])]at N
     simp[nms]at N;exact N.symm
    subst J;rw[decide_eq_true rfl]at Z;have g0:=jx e0;obtain⟨t,z1,z2,z3⟩:=S (x,r) c.length (c++[.lst (r.map .str)]) (by simp) rfl (hP _ K.len) av ag.app
    refine⟨.tup [.str x,.ref c.length],c++[.lst (r.map .str)],?_,t,z1,z2,z3⟩;have M:(mN (bo .list) (ab (aa 1) af)) [oS x,oR a,oS x,oR h] c=.ok (.ref c.length) (c++[.lst (r.map .str)]):=g0;unfold Ib;rw[dQ,aJ];have:aa 0 [oS x,oR a,oS x,oR h] c=.ok (.str x) c:=rfl;rw[this,ai,aJ,sm,Z,du,bV,dR,ai,if_pos rfl,M,ai,bE,ai,ai,ai,oD,if_pos (aG (by simp))]) (by simp[nms];omega)
 have X:((nms E++[n]).map D.str).length=(E++[(n,r)]).length:=by simp[nms]
 rw[X,List.take_length]at Q
 have h0:m.map (·.1)=nms E++[n]:=by
  have:=Q.keys;rw[b0,List.map_map]at this
  have h2:(m.map (D.str ∘ (·.1)))=(nms E++[n]).map D.str:=by
   rw[←this];rfl
  rw[←List.map_map]at h2;exact(List.map_inj_right (λa b z=>by cases z;rfl)).mp h2
 have g2:(o++[Cell.lst (m.map λp=>.tup [.str p.1,p.2])])[o.length]?=some (.lst (m.map λp=>.tup [.str p.1,p.2])):=av
 have K2:ag [] Ω (o++[Cell.lst (m.map λp=>.tup [.str p.1,p.2])]):=K1.trans ag.app
 have h2:bh P (o++[Cell.lst (m.map λp=>.tup [.str p.1,p.2])]) (m.map λp=>(.inr p.1,p.2)) (E++[(n,r)]):=Q.keep (fp:=[]) ag.app (by simp)
 generalize o++[Cell.lst (m.map λp=>.tup [.str p.1,p.2])]=c at *
 have T:bz ll (m.map λp=>D.tup [.str p.1,p.2])=some (m.map λp=>(.inr p.1,p.2)):=ij (f:=ll) (g:=λp:Str×D=>D.tup [.str p.1,p.2]) (h:=λp=>(.inr p.1,p.2)) (λn=>rfl) m
 have hf:=jy (m.map λp=>((.inr p.1:Key),p.2)) [] (by
  rw[List.nil_append,List.map_map];have:(m.map ((λp:Key×D=>p.1) ∘ λp=>((.inr p.1:Key),p.2)))=(m.map (·.1)).map Sum.inr:=by rw[List.map_map];rfl
  rw[this,h0];have i0:(nms E++[n]).Nodup:=List.nodup_append.mpr ⟨O,by simp,λa ha b hb z=>hn (by rw[←List.mem_singleton.mp hb,←z];exact ha)⟩
  exact List.Pairwise.map _ (λa b j0 z=>j0 (by cases z;rfl)) i0)
 rw[List.nil_append]at hf;refine⟨c.length,_,c++[.dK (m.map λp=>(.inr p.1,p.2))],?_,av,h2.keep (fp:=[]) ag.app (by simp),K2.trans ag.app,K2.len⟩
 unfold Nm;rw[dQ,aJ,e1,ai,bE,ai,ai]
 show hF (jI [.ref o.length] c) _=_
 simp only[jI,aP g2,T,hf];rfl
def yN(e:aL):Prop:=∀(c:az) (h a:Nat) (E:iY) (L d:Str->List Str) (P:Nat->Prop) (n:Str) (r:List Str),cX P c h E L->c[a]?=some (.lst (r.map .str))->iv n->n∉nms E->E.length<12->r.Nodup->r.length<=5->(∀x∈r,x∈nms E) ->
 Gd (E++[(n,r)])->(∀m∈nms (E++[(n,r)]),fk (E++[(n,r)]) m=[]/\d m=[m])->(∀j,c.length<=j->P j)->∃b,e [.ref h,.str n,.ref a,.non] c=.ok .non b/\cX P b h (E++[(n,r)]) d/\ag [h] c b
theorem Ic{M CE N ST:aL}(hI:ip M)(hC:EG CE)(hK:BO N)(hS:yL ST):yN (aO 5 4 (Np M CE N ST)):=by
 intro F h a E L L' P n r H O hv hn hl Q R S G T hP;rw[aU (by rfl)]
 have e0:aM 5 [D.ref h,.str n,.ref a,.non]=[oR h,oS n,oR a,some .non,none]:=rfl;rw[e0];have U:nms (E++[(n,r)])=nms E++[n]:=by simp[nms]
 have t:(nms E).Nodup:=by
  have:=G.nd;rw[U]at this;exact(List.nodup_append.mp this).1
 obtain⟨d,e1,u⟩:=hI F n hv;have r1:(dG (hJ (mN (ba M) (ab (aa 1) af))) (ak bA aj) aj) [oR h,oS n,oR a,some .non,none] F=.nx [oR h,oS n,oR a,some .non,none] d:=by simp[e1]
 have w:=H.keep u
 have r2:(dG (m2 (aB .In) (aa 1) fe) (ak bA aj) aj) [oR h,oS n,oR a,some .non,none] d=.nx [oR h,oS n,oR a,some .non,none] d:=by
  obtain⟨e,l,f,V,y,I,J,q4,q5⟩:=w;have z:=BK (n:=n) I;rw[J.is,decide_eq_false hn]at z;rw[cY,bK]
  show cu (dE ((aZ ["House"] "elders" (.ref h) d).bind _)) _=_
  rw[uo y,ai,z];rfl
 have r3:(dG (m2 (aB .GtE) (mN (bo .len) (ab fe af)) (ah (.int 12))) (ak bA aj) aj) [oR h,oS n,oR a,some .non,none] d=.nx [oR h,oS n,oR a,some .non,none] d:=by
  obtain⟨e,l,f,V,y,I,J,q4,q5⟩:=w;have i:=yE I;have l0:=J.len
  have X:(mN (bo .len) (ab fe af)) [oR h,oS n,oR a,some .non,none] d=.ok (.int f.length) d:=by
   show(((aZ ["House"] "elders" (.ref h) d).bind _).bind _)=_
   rw[uo y,ai];exact i
  have hc:aB .GtE (.int f.length) (.int 12) d=.ok (.bl false) d:=by
   have:decide ((f.length:Int)≥12)=false:=by simp;omega
   simp[dD];omega
  rw[cY,bK,X,ai,bU,ai,hc];rfl
 obtain⟨m,e2,K⟩:=hC d h a E L P r w (u.get _ _ O (by simp)) Q R S
 have r4:(cA (aD "House" "check_elders" CE (aa 0) (ab (aa 2) af))) [oR h,oS n,oR a,some .non,none] d=.nx [oR h,oS n,oR a,some .non,none] m:=by
  rw[cm,lQ w rfl (by decide)]
  show cu (xT (CE [.ref h,.ref a] d)) _=_
  rw[e2];rfl
 have Y:=w.keep K;obtain⟨k,b,e3,s,K3,l3⟩:=hK m h E L P Y
 have r5:(aH 4 (aD "House" "kinds" N (aa 0) af)) [oR h,oS n,oR a,some .non,none] m=.nx [oR h,oS n,oR a,some .non,oR k] b:=by
  rw[bq,lQ Y rfl (by decide),bE,ai,e3]
  rfl
 have H3:cX (λj=>P j/\j≠k) b h E L:=(Y.lt.keep K3).imp λj g=>⟨g.1,by omega⟩
 have A:=(u.trans K).trans K3;have Z:=A.get _ _ O (by simp)
 have a0:a≠k:=by have:=bp (K.get _ _ (u.get _ _ O (by simp)) (by simp));omega
 have r6:(cA Nn) [oR h,oS n,oR a,some .non,oR k] b=.nx [oR h,oS n,oR a,some .non,oR k] (b.set k (.lst ((nms E++[n]).map .str))):=by
  have T:=fY s;have i:=eE s
  have b0:gU (.ref k) [.int ((nms E).map D.str).length,.str n] b=.ok .non (b.set k (.lst ((nms E++[n]).map .str))):=by
   simp only[gU,iU s];rw[if_pos,yM]
   .simp
   .rw[aG (by simp[nms];omega),e8 (by omega) (by simp[nms];omega)];rfl
  unfold Nn;rw[cm,jw (x:=.ref k) (au:=b) rfl T]
  have c0:(ab (zh (m2 (aB .Is) (aa 3) (ah .non)) (mN (bo .len) (ab (aa 4) af)) (aa 3)) (ab (aa 1) af):AM) [oR h,oS n,oR a,some .non,oR k] b=.ok [.int ((nms E).map D.str).length,.str n] b:=by
   have:(m2 (aB .Is) (aa 3) (ah .non)) [oR h,oS n,oR a,some .non,oR k] b=.ok (.bl true) b:=rfl;rw[aJ,sm,this,du,bV,dR,ai,if_pos rfl];have:(mN (bo .len) (ab (aa 4) af)) [oR h,oS n,oR a,some .non,oR k] b=.ok (.int ((nms E).map D.str).length) b:=i;rw[this];rfl
  rw[c0,ai,b0];rfl
 have K4:ag [k] b (b.set k (.lst ((nms E++[n]).map .str))):=ag.set (by simp)
 have g4:=aA (e:=.lst ((nms E++[n]).map .str)) s;have H4:cX P (b.set k (.lst ((nms E++[n]).map .str))) h E L:=(H3.HW K4 s (by simp)).imp λj g=>g.1
 have f0:=K4.get _ _ Z (by simpa using a0)
 have lk:=bp s;generalize b.set k (.lst ((nms E++[n]).map .str))=g0 at *
 have o:ag [] F g0:=ag.new A K4 (λj g=>by
  rw[List.mem_singleton.mp g];have:=(u.trans K).len;omega)
 obtain⟨q,f,h0,e5,g5,h5,K5,l5⟩:=EI (a3:=some .non) H4 f0 g4 hn t (by omega) (λj g=>hP j (Nat.le_trans o.len g))
 obtain⟨e,l,j0,k0,y,I,J,q4,q5⟩:=H4.keep K5;have p:=o.trans K5;obtain⟨i0,e6,H6,K6⟩:=hS h0 h q e l f (E++[(n,r)]) P L' y (.inl g5) h5 G T (λj g=>hP j (Nat.le_trans p.len g))
 have lq:F.length<=q:=Nat.le_trans o.len l5;refine⟨i0,?_,H6,⟨Nat.le_trans p.len K6.len,λk' c B C=>K6.get k' c (p.get k' c B (by simp)) ?_⟩⟩
 .unfold Np
  rw[ae,r1,aw,ae,r2,aw,ae,r3,aw,ae,r4,aw,ae,r5,aw,ae,r6,aw,ae,cm,lQ H4 rfl (by decide),aJ,e5,ai,bE,ai,ai,e6]
  rfl
 .have:=bp B
  simp at C ⊢;exact⟨C,by omega⟩
end
theorem BP:∃e,jK e (pureOf (aO 8 3 m8)):=by
 have h:∀c t m:Int,∃r,0<=t->t<100000->0<m->0<=r/\r<m/\pureOf (aO 8 3 m8) [.int c,.int t,.int m]=.ok (false,.int r):=λc t m=>by
  by_cases d:0<=t/\t<100000/\0<m
  .obtain⟨r,f,g,i⟩:=BD (c:=c) d.1 d.2.1 d.2.2
   exact⟨r,λ_ _ _=>⟨f,g,i⟩⟩
  .exact⟨0,λa b c=>absurd ⟨a,b,c⟩ d⟩
 exact⟨λc t m=>(h c t m).choose,λc t m=>(h c t m).choose_spec⟩
def oO:SM:=
 (ak (dG (m2 (aB .Lt) (aa 1) (mN (bo .len) (ab (aa 0) af)))
 (ak (bD (m2 aC (aa 0) (aa 1)))
 aj)
 aj)
 (ak (bD (ah (.int 0)))
 aj))
theorem Ie(ns:List Int):Eg (SC ns)=true:=by
 show(ns.map D.int).all eV=true
 rw[List.all_eq_true];intro d a;obtain⟨i,_,rfl⟩:=List.mem_map.mp a;rfl
theorem yO:ju (λns k=>ns.getD k 0) (pureOf (aO 2 2 oO)):=by
 intro ns k
 have b:[SC ns,D.int k].all Eg=true:=by
  simp only[List.all_cons,Ie,List.all_nil];rfl
 have d:aM 2 [SC ns,D.int k]=[some (SC ns),some (.int k)]:=rfl
 have a:bo .len [SC ns] []=.ok (.int ns.length) []:=by
  show ax.ok (D.int ((ns.map D.int).length:Nat)) []=_
  rw[List.length_map]
 refine mZ (au:=[]) b ?_ rfl;rw[aU (by rfl),d]
 by_cases h:k<ns.length
 .have c:(k:Int)<(ns.length:Int):=by omega
  have e:L2.jh (ns.map D.int) (k:Int)=some (.int (ns.getD k 0)):=L2.dI (by simp[h])
  have f:aC (SC ns) (.int k) []=.ok (.int (ns.getD k 0)) []:=by
   unfold aC;rw[dw,dw,fX]
   show hF (ixs [] (some (ns.map D.int)) (.int k)) _=_
   rw[sr e];rfl
  simp[oO,a,c,f,-List.getD_eq_getElem?_getD]
 .have c:¬ (k:Int)<(ns.length:Int):=by omega
  have e:ns.getD k 0=0:=by rw[List.getD_eq_getElem?_getD,List.getElem?_eq_none (by omega)];rfl
  show _=ax.ok (D.int (ns.getD k 0)) []
  rw[e];simp[oO,a,c]
section
variable{Ω au:az}{ρ:aV}{F:List D->Out Rs}{μ:Int->Int->Int->Int}{c:Int}{m:Nat}
end
section
noncomputable def tS(row:List Str):D:=.tup (row.map .str)
noncomputable def kS(row:List Str):List Key:=row.map Sum.inr
theorem yP{a b:List Str}(h:kS a=kS b):a=b:=by
 unfold kS at h;exact List.map_inj_right (λx y e=>by cases e;rfl) |>.mp h
def nums(i:Nat):List (List Str)->List (List Key×D)
 |[]=>[]
 |r::L=>(kS r,.int i)::nums (i+1) L
theorem oP(row:List Str):mS (tS row)=some (kS row):=ij (f:=jS) (g:=D.str) (h:=Sum.inr) (λ_=>rfl) row
theorem qC:∀(L:List (List Str)) (i:Nat) (r:List Str),nums i (L++[r])=nums i L++[(kS r,.int (i+L.length:Nat))]
 |[],i,r=>by simp[nums]
 |a::L,i,r=>by
  rw[List.cons_append,nums,qC L (i+1) r,nums,List.cons_append]
  congr 3
  simp only[List.length_cons]
  congr 2
  omega
theorem lS:∀(L:List (List Str)) (i:Nat) (r:List Str),bx (nums i L) (kS r)=if r∈L then some (.int (i+L.idxOf r:Nat))else none
 |[],i,r=>by simp[nums,bx]
 |a::L,i,r=>by
  by_cases e:a=r
  .subst e
   rw[if_pos (by simp)]
   simp[nums,bx,List.find?_cons]
  .have c:¬ kS a=kS r:=λh=>e (yP h)
   have d:bx (nums i (a::L)) (kS r)=bx (nums (i+1) L) (kS r):=by simp[nums,bx,List.find?_cons,c]
   rw[d,lS L (i+1) r]
   by_cases b:r∈L
   .have f:(a==r)=false:=beq_eq_false_iff_ne.mpr e
    have g:(a::L).idxOf r=L.idxOf r+1:=by rw[List.idxOf_cons,f];rfl
    rw[if_pos b,if_pos (by simp[b]),g]
    congr 2
    omega
   .rw[if_neg b,if_neg (by simp[b,Ne.symm e])]
theorem yQ(L:List (List Str))(i:Nat)(r:List Str)(h:r∉L):((nums i L).any λb=>decide (b.1=kS r))=false:=by
 induction L generalizing i with
 |nil=>rfl
 |cons a L c=>
  have e:¬ a=r:=λz=>h (by simp[z])
  rw[nums,List.any_cons,c (i+1) (λz=>h (by simp[z]))]
  have d:¬ kS a=kS r:=λz=>e (yP z)
  simp[d]
theorem yR(L:List (List Str))(i:Nat):(nums i L).length=L.length:=by
 induction L generalizing i with
 |nil=>rfl
 |cons a L b=>simp[nums,b]
structure Sh(Ω:az)(s r m:Nat)(L:List (List Str)):Prop where
 ob:Ω[s]?=some (.ins "Shapes" [("rows",.ref r),("numbers",.ref m)])
 ro:Ω[r]?=some (.lst (L.map tS))
 nu:Ω[m]?=some (.dT (nums 0 L))
variable{Ω au:az}{ρ:aV}{s r m k i:Nat}{L:List (List Str)}{ws row:List Str}{w:Str}
theorem Sh.ne(S:Sh Ω s r m L):s≠r/\s≠m/\r≠m:=by
 refine⟨λe=>?_,λe=>?_,λe=>?_⟩
 .have h:=S.ob;rw[e,S.ro]at h;cases h
 .have h:=S.ob;rw[e,S.nu]at h;cases h
 .have h:=S.ro;rw[e,S.nu]at h;cases h
theorem Sh.keep(S:Sh Ω s r m L){fp:List Nat}(K:ag fp Ω au)(a:s∉fp)(b:r∉fp)(c:m∉fp):Sh au s r m L:=⟨K.get _ _ S.ob a,K.get _ _ S.ro b,K.get _ _ S.nu c⟩
theorem Sh.app(S:Sh Ω s r m L){l:az}:Sh (Ω++l) s r m L:=⟨cw S.ob,cw S.ro,cw S.nu⟩
theorem lT(S:Sh Ω s r m L):aZ ["Shapes"] "rows" (.ref s) Ω=.ok (.ref r) Ω:=cM S.ob rfl rfl
theorem qD(S:Sh Ω s r m L):aZ ["Shapes"] "numbers" (.ref s) Ω=.ok (.ref m) Ω:=cM S.ob rfl rfl
noncomputable def bQ(L:List (List Str))(ws:List Str):List (List Str):=if ws∈L then L else L++[ws]
def Ll:SM:=
 (ak (aH 2 (mN (bo .tuple) (ab (aa 1) af)))
 (ak (dG (m2 (aB .NotIn) (aa 2) (m1 (aZ ["Shapes"] "numbers") (aa 0)))
 (ak (cQ (m1 (aZ ["Shapes"] "numbers") (aa 0)) (aa 2) (mN (bo .len) (ab (m1 (aZ ["Shapes"] "rows") (aa 0)) af)))
 (ak (cA (cE kf dq (m1 (aZ ["Shapes"] "rows") (aa 0)) (ab (aa 2) af)))
 aj))
 aj)
 (ak (bD (m2 aC (m1 (aZ ["Shapes"] "numbers") (aa 0)) (aa 2)))
 aj)))
theorem CL{j:Nat}(h:Ω[m]?=some (.dT (nums 0 L)))(b:ws∈L):aC (.ref m) (tS ws) Ω=.ok (.int (L.idxOf ws:Nat)) Ω:=by
 have a:=yu (y:=tS ws) h (oP ws);rw[lS,if_pos b,Nat.zero_add]at a;unfold aC;rw[dw,dw,fX];simp only[xC,a,aW,dh,h];rfl
def BQ(d:aL):Prop:=∀(b:az) (s r m k:Nat) (L:List (List Str)) (c:List Str),Sh b s r m L->b[k]?=some (.lst (c.map .str))->L.length<=500->∃a,d [.ref s,.ref k] b=.ok (.int ((bQ L c).idxOf c:Nat)) a/\Sh a s r m (bQ L c)/\ag [r,m] b a
theorem Ig:BQ (aO 3 2 Ll):=by
 intro a s r m k L ws S Q U;obtain⟨R,T,N⟩:=S.ne;have O:=vI Q;have l:=qD S;have B:=lT S;have n:=yu (y:=tS ws) S.nu (oP ws);rw[lS]at n;have o:et a 8 (.ref m)=none:=Eo S.nu;have p:et a 8 (tS ws)=some (tS ws):=Bx ub;rw[aU (by rfl)]
 by_cases i:ws∈L
 .have C:bQ L ws=L:=by unfold bQ;rw[if_pos i]
  rw[if_pos i]at n;rw[C];refine⟨a,?_,S,ag.refl⟩;have E:eS true (tS ws) (.ref m) a=.ok (.bl false) a:=by simp only[eS,n];rfl
  have F:=CL (j:=0) S.nu i;have G:aM 3 [D.ref s,.ref k]=[some (.ref s),some (.ref k),none]:=rfl;have g:bo .tuple [.ref k] a=.ok (tS ws) a:=O;rw[G];simp[Ll,g,l,o,p,E,F,v2]
 .have C:bQ L ws=L++[ws]:=by unfold bQ;rw[if_neg i]
  rw[if_neg i]at n;rw[C];have E:eS true (tS ws) (.ref m) a=.ok (.bl true) a:=by simp only[eS,n];rfl
  have q:=eE S.ro
  have t:bI (nums 0 L) (kS ws) (.int ((L.map tS).length:Nat))=nums 0 (L++[ws]):=by
   unfold bI;rw[yQ L 0 ws i,qC];simp
  have u:gI (.ref m) (tS ws) (.int ((L.map tS).length:Nat)) a=some (a.set m (.dT (nums 0 (L++[ws])))):=by
   simp only[gI,S.nu,oP,t];rw[if_pos (aG (by rw[yR];omega))]
  generalize b:a.set m (.dT (nums 0 (L++[ws])))=e at u;have w:e[s]?=some (.ins "Shapes" [("rows",.ref r),("numbers",.ref m)]):=by rw[←b];exact bj S.ob T
  have h:e[r]?=some (.lst (L.map tS)):=by rw[←b];exact bj S.ro N
  have H:e[m]?=some (.dT (nums 0 (L++[ws]))):=by rw[←b];exact aA S.nu
  have I:aZ ["Shapes"] "rows" (.ref s) e=.ok (.ref r) e:=cM w rfl rfl;have x:=ik (d:=tS ws) h (by simp;omega)
  generalize c:e.set r (.lst (L.map tS++[tS ws]))=f at x;have J:f[s]?=some (.ins "Shapes" [("rows",.ref r),("numbers",.ref m)]):=by rw[←c];exact bj w R
  have K:f[r]?=some (.lst (L.map tS++[tS ws])):=by rw[←c];exact aA h
  have z:f[m]?=some (.dT (nums 0 (L++[ws]))):=by rw[←c];exact bj H (Ne.symm N)
  have P:Sh f s r m (L++[ws]):=⟨J,by rw[K,List.map_append];rfl,z⟩
  have A:=qD P;have F:=CL (j:=0) (ws:=ws) z (by simp)
  refine⟨f,?_,P,?_⟩
  .have G:aM 3 [D.ref s,.ref k]=[some (.ref s),some (.ref k),none]:=rfl
   have g:bo .tuple [.ref k] a=.ok (tS ws) a:=O;have M:=fY h;rw[G];simp[Ll,g,l,B,o,p,E,v2,cQ,q,u,cE,I,M,x,A,F,-List.length_map]
  .rw[←c,←b]
   exact(ag.set (by simp)).trans (ag.set (by simp))
def Nq:SM:=
 (ak (bD (mN (bo .list) (ab (m2 aC (m1 (aZ ["Shapes"] "rows") (aa 0)) (aa 1)) af)))
 aj)
def yS(c:aL):Prop:=∀(b:az) (s r m i:Nat) (L:List (List Str)) (a:List Str),Sh b s r m L->L[i]?=some a->c [.ref s,.int i] b=.ok (.ref b.length) (b++[.lst (a.map .str)])
theorem Ih:yS (aO 2 2 Nq):=by
 intro b s r m i L a S d;have c:L2.jh (L.map tS) i=some (tS a):=L2.dI (by simp[d])
 rw[aU (by rfl)]
 have e:aM 2 [D.ref s,.int i]=[some (.ref s),some (.int i)]:=rfl;have f:=bL S.ro c;have g:=lT S;have h:bo .list [tS a] b=.ok (.ref b.length) (b++[.lst (a.map .str)]):=rfl;rw[e];simp[Nq,g,f,h]
theorem yT:ws∈bQ L ws:=by
 unfold bQ;split
 .assumption
 .simp
theorem lU:(bQ L ws).length<=L.length+1:=by
 unfold bQ;split<;>simp
theorem uq(h:L.Nodup):(bQ L ws).Nodup:=by
 unfold bQ;split
 .exact h
 .exact List.nodup_append.mpr ⟨h,by simp,λa d b c z=>by simp at c;subst c;subst z;contradiction⟩
theorem fE{j:Nat}(h:L[j]?=some row):(bQ L ws)[j]?=some row:=by
 unfold bQ;split
 .exact h
 .rw[List.getElem?_append_left (List.getElem?_eq_some_iff.mp h).1];exact h
theorem qF:(bQ L ws)[(bQ L ws).idxOf ws]?=some ws:=by
 have h:=List.idxOf_lt_length_of_mem (yT (L:=L) (ws:=ws));rw[List.getElem?_eq_getElem h,List.getElem_idxOf h]
theorem ir{b:EM}{c:AM}{f:Str}{F:aL}(S:Sh au s r m L)(e:b ρ Ω=.ok (.ref s) au)(d:f≠"rows"/\f≠"numbers"):aD "Shapes" f F b c ρ Ω=(c ρ au).bind λxs a=>xT (F (.ref s::xs) a):=by
 refine fZ e S.ob ?_;simp only[List.lookup,beq_eq_false_iff_ne.mpr d.1,beq_eq_false_iff_ne.mpr d.2]
def Nr(a b:aL):SM:=
 (ak (bD (aD "Shapes" "number_of" a (aa 0) (ab (m2 (aY .Add) (aD "Shapes" "words_of" b (aa 0) (ab (aa 1) af)) (mN bH (ab (aa 2) af))) af)))
 aj)
def jX(d:aL):Prop:=∀(c:az) (s r m i:Nat) (L:List (List Str)) (a:List Str) (w:Str),Sh c s r m L->L[i]?=some a->a.length<=1000->L.length<=500->∃b,d [.ref s,.int i,.str w] c=.ok (.int ((bQ L (a++[w])).idxOf (a++[w]):Nat)) b/\Sh b s r m (bQ L (a++[w]))/\ag [r,m] c b
theorem Ii{n h:aL}(A:BQ n)(B:yS h):jX (aO 3 3 (Nr n h)):=by
 intro d s r m i L a w S C K E;have o:=B d s r m i L a S C;have p:Sh (d++[.lst (a.map .str)]) s r m L:=S.app;have q:(d++[.lst (a.map .str)])[d.length]?=some (.lst (a.map .str)):=av;generalize g:d++[.lst (a.map .str)]=b at o p q;have t:Sh (b++[.lst [.str w]]) s r m L:=p.app;have u:(b++[.lst [.str w]])[d.length]?=some (.lst (a.map .str)):=cw q;have x:(b++[.lst [.str w]])[b.length]?=some (.lst [.str w]):=av;generalize e:b++[.lst [.str w]]=c at t u x;have y:Sh (c++[.lst ((a++[w]).map .str)]) s r m L:=t.app;have z:(c++[.lst ((a++[w]).map .str)])[c.length]?=some (.lst ((a++[w]).map .str)):=av;generalize f:c++[.lst ((a++[w]).map .str)]=j at y z;obtain⟨k,F,G,H⟩:=A _ _ _ _ _ _ _ y z E;refine⟨k,?_,G,?_⟩
 .rw[aU (by rfl)]
  have I:aM 3 [D.ref s,.int i,.str w]=[some (.ref s),some (.int i),some (.str w)]:=rfl;rw[I]
  have J:aY .Add (.ref d.length) (.ref b.length) c=.ok (.ref c.length) j:=by
   rw[iT,ug,aP u,aP x,uf,if_pos (aG (by simp;omega)),Hn,←f]
   simp
  simp only[Nr,ae,b_];rw[ir S (by simp) (by decide)]
  have l:aD "Shapes" "words_of" h (aa 0) (ab (aa 1) af) [some (.ref s),some (.int i),some (.str w)] d=.ok (.ref d.length) b:=by
   rw[ir S (by simp) (by decide)]
   simp[o]
  simp[l,e,-iT,J,F,aG]
 .exact((((g▸ag.app:ag [r,m] d b)).trans (e▸ag.app)).trans (f▸ag.app)).trans H
noncomputable def fF(row:List Str)(w:Str):List Str:=row.filter λx=>decide (x≠w)
theorem m_:∀row:List Str,(row.map D.str).filter (λd=>!ed d (.str w))=(fF row w).map .str
 |[]=>rfl
 |a::row=>by
  have e:(!ed (.str a) (.str w))=decide (a≠w):=by
   show(!(a==w))=_
   by_cases h:a=w<;>simp[h]
  have b:=m_ row;unfold fF at b ⊢;rw[List.map_cons,List.filter_cons,List.filter_cons,e,b];cases decide (a≠w)<;>rfl
theorem EJ{mi:IM}{j:Nat}{src:Src}(b:mi ρ Ω=.ok src au)(c:eT src au=some (row.map .str))(e:ej [j] ρ=[some (.str w)])(f:row.length<=1000):cJ (aa 0) false (m2 (aB .NotEq) (aa 0) (aa 1)) mi 0 [j] ρ Ω=.ok (.ref au.length) (au++[.lst ((fF row w).map .str)]):=by
 have:=cZ (me:=aa 0) (nc:=false) (mc:=m2 (aB .NotEq) (aa 0) (aa 1)) (cap:=[j]) (p:=λd=>!ed d (.str w)) (g:=id) b c (by
   intro d a;obtain⟨z,h,rfl⟩:=List.mem_map.mp a;rw[e];simp[jV]) (by
   intro d a _;simp) (by simp;omega)
 rw[this,List.map_id,m_]
def Nt(a b:aL):SM:=
 (ak (bD (aD "Shapes" "number_of" a (aa 0) (ab (cJ (aa 0) false (m2 (aB .NotEq) (aa 0) (aa 1)) (bG (aD "Shapes" "words_of" b (aa 0) (ab (aa 1) af))) 0 [2]) af)))
 aj)
def jY(d:aL):Prop:=∀(c:az) (s r m i:Nat) (L:List (List Str)) (a:List Str) (w:Str),Sh c s r m L->L[i]?=some a->a.length<=1000->L.length<=500->∃b,d [.ref s,.int i,.str w] c=.ok (.int ((bQ L (fF a w)).idxOf (fF a w):Nat)) b/\Sh b s r m (bQ L (fF a w))/\ag [r,m] c b
theorem Ij{n f:aL}(u:BQ n)(x:yS f):jY (aO 3 3 (Nt n f)):=by
 intro b s r m i L row w S y z A;have o:=x b s r m i L row S y;have p:Sh (b++[.lst (row.map .str)]) s r m L:=S.app;have g:(b++[.lst (row.map .str)])[b.length]?=some (.lst (row.map .str)):=av;generalize d:b++[.lst (row.map .str)]=a at o p g;have q:Sh (a++[.lst ((fF row w).map .str)]) s r m L:=p.app;have t:(a++[.lst ((fF row w).map .str)])[a.length]?=some (.lst ((fF row w).map .str)):=av;generalize c:a++[.lst ((fF row w).map .str)]=B at q t;obtain⟨h,C,E,F⟩:=u _ _ _ _ _ _ _ q t A;refine⟨h,?_,E,?_⟩
 .rw[aU (by rfl)]
  have G:aM 3 [D.ref s,.int i,.str w]=[some (.ref s),some (.int i),some (.str w)]:=rfl;rw[G];simp only[Nt,ae,b_];rw[ir S (by simp) (by decide)]
  have k:aD "Shapes" "words_of" f (aa 0) (ab (aa 1) af) [some (.ref s),some (.int i),some (.str w)] b=.ok (.ref b.length) a:=by
   rw[ir S (by simp) (by decide)]
   simp[o]
  have l:bG (aD "Shapes" "words_of" f (aa 0) (ab (aa 1) af)) [some (.ref s),some (.int i),some (.str w)] b=.ok (.seq (.ref b.length)) a:=by
   rw[cf,k,ai];exact bZ (aW.trans (aP g))
  have e:=EJ (row:=row) (w:=w) (j:=2) l (by rw[dc,aW,aP g]) rfl z
  rw[c]at e;simp[e,C]
 .exact((((d▸ag.app:ag [r,m] b a)).trans (c▸ag.app))).trans F
noncomputable def i9(row:List Str)(w:Str):D:=if w∈row then .int (row.idxOf w:Nat)else .non
def Lm(a:aL):SM:=
 (ak (aH 3 (aD "Shapes" "words_of" a (aa 0) (ab (aa 1) af)))
 (ak (bD (zh (m2 (aB .In) (aa 2) (aa 3)) (fA (cE kf fg (aa 3) (ab (aa 2) af)) (cE pY iN (aa 3) (ab (aa 2) af))) (ah .non)))
 aj))
def hX(d:aL):Prop:=∀(c:az) (s r m i:Nat) (L:List (List Str)) (a:List Str) (w:Str),Sh c s r m L->L[i]?=some a->∃b,d [.ref s,.int i,.str w] c=.ok (i9 a w) b/\ag [] c b
theorem Ik{g:aL}(l:yS g):hX (aO 4 3 (Lm g)):=by
 intro b s r m i L a w S n;have j:=l b s r m i L a S n;have f:(b++[.lst (a.map .str)])[b.length]?=some (.lst (a.map .str)):=av;generalize c:b++[.lst (a.map .str)]=d at j f;refine⟨d,?_,c▸ag.app⟩;rw[aU (by rfl)]
 have o:aM 4 [D.ref s,.int i,.str w]=[some (.ref s),some (.int i),some (.str w),none]:=rfl;rw[o]
 have e:aD "Shapes" "words_of" g (aa 0) (ab (aa 1) af) [some (.ref s),some (.int i),some (.str w),none] b=.ok (.ref b.length) d:=by
  rw[ir S (by simp) (by decide)]
  simp[j]
 have k:=oF (w:=w) f;unfold i9
 by_cases h:w∈a
 .have p:=vJ f h
  have q:=fY f;simp[Lm,e,-km,k,h,cE,q,p]
 .simp[Lm,e,-km,k,h]
end
section
structure Tn(Ω:az)(T t s r m d:Nat)(kvs:List (Key×D))(L:List (List Str)):Prop where
 ob:Ω[T]?=some (.ins "Things" [("town",.ref t),("shapes",.ref s),("made",.ref d)])
 dk:Ω[d]?=some (.dK kvs)
 sh:Sh Ω s r m L
 nd:L.Nodup
 lt:T<s/\s<r/\r<m/\m<d
abbrev aQ(v:List (Str×Int)):List Str:=v.map (·.1)
abbrev jL(v:List (Str×Int)):List D:=v.map λp=>.int p.2
structure Tg(Ω:az)(d c l i:Nat)(k:Str)(v:List (Str×Int))(L:List (List Str)):Prop where
 ob:Ω[c]?=some (.ins "Thing" [("kind",.str k),("shape",.int i),("slots",.ref l)])
 sl:Ω[l]?=some (.lst (jL v))
 wd:L[i]?=some (aQ v)
 nd:(aQ v).Nodup
 le:v.length<=12
 lt:d<c/\c<l
variable{Ω au aS:az}{ρ:aV}{T t s r m d k c l i h:Nat}{L:List (List Str)}{kvs:List (Key×D)}{v:List (Str×Int)}{n w kd:Str}{fp:List Nat}
theorem Tn.keep(W:Tn Ω T t s r m d kvs L)(K:ag fp Ω au)(h:∀j∈fp,d<j):Tn au T t s r m d kvs L:=by
 have z:=W.lt;have q:∀j,j<=d->j∉fp:=λj b a=>by have:=h j a;omega
 exact⟨K.get _ _ W.ob (q _ (by omega)),K.get _ _ W.dk (q _ (by omega)),W.sh.keep K (q _ (by omega)) (q _ (by omega)) (q _ (by omega)),W.nd,W.lt⟩
theorem Tn.bX(W:Tn Ω T t s r m d kvs L)(K:ag [] Ω au):Tn au T t s r m d kvs L:=W.keep K (by simp)
theorem Tg.keep(W:Tg Ω d c l i kd v L)(K:ag fp Ω au)(a:c∉fp)(b:l∉fp):Tg au d c l i kd v L:=⟨K.get _ _ W.ob a,K.get _ _ W.sl b,W.wd,W.nd,W.le,W.lt⟩
theorem Tg.bX(W:Tg Ω d c l i kd v L)(K:ag [] Ω au):Tg au d c l i kd v L:=W.keep K (by simp) (by simp)
theorem cU{C f:Str}{b c:EM}{y:D}{k:Nat}{a:List (Str×D)}{aS:az}(d:c ρ Ω=.ok y aS)(e:b ρ aS=.ok (.ref k) aS)(g:aS[k]?=some (.ins C a))(h:a.length<1000):bf [C] f b c ρ Ω=.nx ρ (aS.set k (.ins C (iL f y a))):=by
 unfold bf;rw[d,bP,e,bP,iV g];have:(([C]:List Str).contains C&&decide (a.length<1000))=true:=by rw[decide_eq_true h];simp
 simp only[this,if_true]
theorem yU(W:Tn Ω T t s r m d kvs L):aZ ["Things"] "town" (.ref T) Ω=.ok (.ref t) Ω:=cM W.ob rfl rfl
theorem eO(W:Tn Ω T t s r m d kvs L):aZ ["Things"] "shapes" (.ref T) Ω=.ok (.ref s) Ω:=cM W.ob rfl rfl
theorem i_(W:Tn Ω T t s r m d kvs L):aZ ["Things"] "made" (.ref T) Ω=.ok (.ref d) Ω:=cM W.ob rfl rfl
theorem fG(W:Tg Ω d c l i kd v L):aZ ["Thing"] "shape" (.ref c) Ω=.ok (.int i) Ω:=cM W.ob rfl rfl
theorem ng(W:Tg Ω d c l i kd v L):aZ ["Thing"] "slots" (.ref c) Ω=.ok (.ref l) Ω:=cM W.ob rfl rfl
theorem dU{f:Str}{F:aL}{i:Nat}{c:AM}(W:Tn Ω T t s r m d kvs L)(e:ρ[i]?=some (oR T))(a:([("town",D.ref 0),("shapes",D.ref 0),("made",D.ref 0)]:List (Str×D)).lookup f=none):aD "Things" f F (aa i) c ρ Ω=(c ρ Ω).bind λxs b=>xT (F (.ref T::xs) b):=by
 refine fZ (by rw[eD,e,eB]) W.ob ?_
 simp only[List.lookup_cons]at a ⊢;split at a
 .cases a
 .split at a
  .cases a
  .split at a
   .cases a
   .rfl
def Nu:SM:=
 (ak (dG (m2 (aB .NotIn) (aa 1) (m1 (aZ ["Things"] "made") (aa 0)))
 (ak bA
 aj)
 aj)
 (ak (bD (m2 aC (m1 (aZ ["Things"] "made") (aa 0)) (aa 1)))
 aj))
def eo(e:aL):Prop:=∀(b:az) (T t s r m d:Nat) (a:List (Key×D)) (L:List (List Str)) (n:Str) (c:Nat),Tn b T t s r m d a L->bx a (.inr n)=some (.ref c)->e [.ref T,.str n] b=.ok (.ref c) b
theorem Il:eo (aO 2 2 Nu):=by
 intro b T t s r m d a L n c W e;rw[aU (by rfl)]
 have h:aM 2 [D.ref T,.str n]=[oR T,oS n]:=rfl;have f:=i_ W;have g:=yD (n:=n) (.inl W.dk:cq b d a);have i:=h_ (.inl W.dk:cq b d a) e;rw[e]at g;rw[h];simp[Nu,f,g,i,-fW]
theorem ja{a:aL}(b:eo a){i j:Nat}(W:Tn Ω T t s r m d kvs L)(e:bx kvs (.inr n)=some (.ref c))(f:ρ[i]?=some (oR T))(g:ρ[j]?=some (oS n)):aD "Things" "thing" a (aa i) (ab (aa j) af) ρ Ω=.ok (.ref c) Ω:=by
 rw[dU W f (by decide),aJ,eD,g,eB,ai,bE,ai,ai,b _ _ _ _ _ _ _ _ _ _ _ W e]
 rfl
def oQ(a:aL):SM:=
 (ak (bD (m1 (aZ ["Thing"] "shape") (aD "Things" "thing" a (aa 0) (ab (aa 1) af))))
 aj)
theorem CN{a:aL}(b:eo a)(W:Tn Ω T t s r m d kvs L)(e:bx kvs (.inr n)=some (.ref c))(G:Tg Ω d c l i kd v L):aO 2 2 (oQ a) [.ref T,.str n] Ω=.ok (.int i) Ω:=by
 rw[aU (by rfl)]
 have f:aM 2 [D.ref T,.str n]=[oR T,oS n]:=rfl;have g:=ja b W e (ρ:=[oR T,oS n]) (i:=0) (j:=1) rfl rfl;rw[f];simp[oQ,g,fG G]
theorem yV{ds:List D}{j:Nat}{x:D}(h:Ω[k]?=some (.lst ds))(a:j<ds.length):gI (.ref k) (.int j) x Ω=some (Ω.set k (.lst (ds.set j x))):=by
 have:L2.qN ds.length (j:Int)=some j:=by
  unfold L2.qN;simp;omega
 simp only[gI,h,this]
def vL(a b c d:aL):SM:=
 (ak (aH 4 (aD "Things" "thing" b (aa 0) (ab (aa 1) af)))
 (ak (dG (hJ (mN (ba a) (ab (aa 2) af)))
 (ak bA
 aj)
 aj)
 (ak (aH 5 (aD "Shapes" "slot_of" c (m1 (aZ ["Things"] "shapes") (aa 0)) (ab (m1 (aZ ["Thing"] "shape") (aa 4)) (ab (aa 2) af))))
 (ak (dG (m2 (aB .IsNot) (aa 5) (ah .non))
 (ak (cQ (m1 (aZ ["Thing"] "slots") (aa 4)) (aa 5) (aa 3))
 (ak qf
 aj))
 aj)
 (ak (dG (m2 (aB .GtE) (mN (bo .len) (ab (m1 (aZ ["Thing"] "slots") (aa 4)) af)) (ah (.int 12)))
 (ak bA
 aj)
 aj)
 (ak (bf ["Thing"] "shape" (aa 4) (aD "Shapes" "grown" d (m1 (aZ ["Things"] "shapes") (aa 0)) (ab (m1 (aZ ["Thing"] "shape") (aa 4)) (ab (aa 2) af))))
 (ak (cA (cE kf dq (m1 (aZ ["Thing"] "slots") (aa 4)) (ab (aa 3) af)))
 aj)))))))
noncomputable def cF(v:List (Str×Int))(w:Str)(x:Int):List (Str×Int):=if w∈aQ v then v.set ((aQ v).idxOf w) (w,x)else v++[(w,x)]
theorem BR{ws:List Str}(h:ws∈L):bQ L ws=L:=if_pos h
theorem ky{x:Int}(h:w∈aQ v):aQ (v.set ((aQ v).idxOf w) (w,x))=aQ v:=by
 have a:=List.idxOf_lt_length_of_mem h;rw[aQ,List.map_set];have:(w,x).1=(aQ v)[(aQ v).idxOf w]:=(List.getElem_idxOf a).symm;rw[this];exact List.set_getElem_self a
theorem ur{b:aL}{f:Str}{c:EM}{d:AM}{x:List D}{y:D}{a:az}(W:Sh Ω s r m L)(e:c ρ Ω=.ok (.ref s) Ω)(g:f≠"rows"/\f≠"numbers")(i:d ρ Ω=.ok x Ω)(h:b (.ref s::x) Ω=.ok y a):aD "Shapes" f b c d ρ Ω=.ok y a:=by
 rw[ir W e g,i,ai,h];rfl
theorem CO{O P Q R:aL}(hI:ip O)(hT:eo P)(hS:hX Q)(hG:jX R)(W:Tn Ω T t s r m d kvs L)(hv:bx kvs (.inr n)=some (.ref c))(G:Tg Ω d c l i kd v L)(hw:iv w)(hl:L.length<=500){x:Int}(hx:w∈aQ v\/v.length<12) :
  ∃i' S au,aO 6 4 (vL O P Q R) [.ref T,.str n,.str w,.int x] Ω=.ok .non au/\Tn au T t s r m d kvs S/\Tg au d c l i' kd (cF v w x) S/\ag [r,m,c,l] Ω au/\S=bQ L (aQ (cF v w x)):=by
 rw[aU (by rfl)]
 have e0:aM 6 [D.ref T,.str n,.str w,.int x]=[oR T,oS n,oS w,oI x,none,none]:=rfl;rw[e0];have h1:=ja hT W hv (ρ:=[oR T,oS n,oS w,oI x,none,none]) (i:=0) (j:=1) rfl rfl
 have r1:(aH 4 (aD "Things" "thing" P (aa 0) (ab (aa 1) af))) [oR T,oS n,oS w,oI x,none,none] Ω=.nx [oR T,oS n,oS w,oI x,oR c,none] Ω:=by
  rw[bq,h1];rfl
 obtain⟨u,e1,U⟩:=hI Ω w hw;have r2:(dG (hJ (mN (ba O) (ab (aa 2) af))) (ak bA aj) aj) [oR T,oS n,oS w,oI x,oR c,none] Ω=.nx [oR T,oS n,oS w,oI x,oR c,none] u:=by simp[e1]
 have N:=W.bX U;have V:=G.bX U;obtain⟨f,e2,X⟩:=hS u s r m i L (aQ v) w N.sh V.wd;have F:=N.bX X;have o:=V.bX X
 have r3:(aH 5 (aD "Shapes" "slot_of" Q (m1 (aZ ["Things"] "shapes") (aa 0)) (ab (m1 (aZ ["Thing"] "shape") (aa 4)) (ab (aa 2) af)))) [oR T,oS n,oS w,oI x,oR c,none] u=.nx [oR T,oS n,oS w,oI x,oR c,some (i9 (aQ v) w)] f:=by
  rw[bq,ur (x:=[.int i,.str w]) N.sh (by simp[eO N]) (by decide) (by simp[fG V]) e2]
  rfl
 have H:=U.trans X;have c0:=W.lt;have f0:=G.lt;unfold vL;rw[ae,r1,aw,ae,r2,aw,ae,r3,aw,ae]
 by_cases p:w∈aQ v
 .have y:i9 (aQ v) w=.int ((aQ v).idxOf w:Nat):=by unfold i9;rw[if_pos p]
  have hi:=List.idxOf_lt_length_of_mem p;have hd:=yV (x:=.int x) o.sl (j:=(aQ v).idxOf w) (by simpa[jL,aQ]using hi)
  have g:cF v w x=v.set ((aQ v).idxOf w) (w,x):=by unfold cF;rw[if_pos p]
  have ev:(jL v).set ((aQ v).idxOf w) (.int x)=jL (cF v w x):=by rw[g];simp only[jL,List.map_set]
  rw[ev]at hd;have g3:=aA (e:=.lst (jL (cF v w x))) o.sl;have A:ag [l] f (f.set l (.lst (jL (cF v w x)))):=ag.set (by simp)
  generalize f.set l (.lst (jL (cF v w x)))=h at *;refine⟨i,L,h,?_,F.keep A (by simp;omega),⟨A.get _ _ o.ob (by simp;omega),g3,?_,?_,?_,G.lt⟩,(H.sub (by simp)).trans (A.sub (by simp)),by rw[g,ky p];exact(BR (List.mem_of_getElem? G.wd)).symm⟩
  .rw[y]
   have Y:=ng o;simp[Y,hd,cQ]
  .rw[g,ky p];exact G.wd
  .rw[g,ky p];exact G.nd
  .rw[g,List.length_set];exact G.le
 .have y:i9 (aQ v) w=.non:=by unfold i9;rw[if_neg p]
  have g0:v.length<12:=hx.resolve_left p;have g:cF v w x=v++[(w,x)]:=by unfold cF;rw[if_neg p]
  rw[y];have r4:(dG (m2 (aB .IsNot) (aa 5) (ah .non)) (ak (cQ (m1 (aZ ["Thing"] "slots") (aa 4)) (aa 5) (aa 3)) (ak qf aj)) aj) [oR T,oS n,oS w,oI x,oR c,some .non] f=.nx [oR T,oS n,oS w,oI x,oR c,some .non] f:=rfl
  have r5:(dG (m2 (aB .GtE) (mN (bo .len) (ab (m1 (aZ ["Thing"] "slots") (aa 4)) af)) (ah (.int 12))) (ak bA aj) aj) [oR T,oS n,oS w,oI x,oR c,some .non] f=.nx [oR T,oS n,oS w,oI x,oR c,some .non] f:=by
   have Z:=eE o.sl;have:decide (((jL v).length:Int)≥12)=false:=by simp[jL];omega
   simp[ng o,Z,dD];omega
  obtain⟨h,e3,S3,A⟩:=hG f s r m i L (aQ v) w F.sh o.wd (by have:=G.le;simp;omega) hl
  have h0:bQ L (aQ v++[w])=bQ L (aQ (cF v w x)):=by rw[g];simp[aQ]
  have I:aQ v++[w]=aQ (cF v w x):=by rw[g];simp[aQ]
  rw[I]at e3 S3;have J:=A.get _ _ o.ob (by simp;omega)
  have a0:=A.get _ _ o.sl (by simp;omega)
  have r6:(bf ["Thing"] "shape" (aa 4) (aD "Shapes" "grown" R (m1 (aZ ["Things"] "shapes") (aa 0)) (ab (m1 (aZ ["Thing"] "shape") (aa 4)) (ab (aa 2) af)))) [oR T,oS n,oS w,oI x,oR c,some .non] f=.nx [oR T,oS n,oS w,oI x,oR c,some .non] (h.set c (.ins "Thing" [("kind",.str kd),("shape",.int ((bQ L (aQ (cF v w x))).idxOf (aQ (cF v w x)):Nat)),("slots",.ref l)])):=
   cU (ur (x:=[.int i,.str w]) F.sh (by simp[eO F]) (by decide) (by simp[fG o]) e3) rfl J (by simp)
  have K4:ag [c] h (h.set c (.ins "Thing" [("kind",.str kd),("shape",.int ((bQ L (aQ (cF v w x))).idxOf (aQ (cF v w x)):Nat)),("slots",.ref l)])):=ag.set (by simp)
  have K:=aA (e:=.ins "Thing" [("kind",.str kd),("shape",.int ((bQ L (aQ (cF v w x))).idxOf (aQ (cF v w x)):Nat)),("slots",.ref l)]) J;generalize h.set c (.ins "Thing" [("kind",.str kd),("shape",.int ((bQ L (aQ (cF v w x))).idxOf (aQ (cF v w x)):Nat)),("slots",.ref l)])=k at *;have B:=K4.get _ _ a0 (by simp;omega)
  have b0:=ik (d:=.int x) B (by simp[jL];omega)
  have Y:aZ ["Thing"] "slots" (.ref c) k=.ok (.ref l) k:=cM K rfl rfl;have hL:=fY B;have g5:=aA (e:=.lst (jL v++[.int x])) B;have K5:ag [l] k (k.set l (.lst (jL v++[.int x]))):=ag.set (by simp)
  have r7:(cA (cE kf dq (m1 (aZ ["Thing"] "slots") (aa 4)) (ab (aa 3) af))) [oR T,oS n,oS w,oI x,oR c,some .non] k=.nx [oR T,oS n,oS w,oI x,oR c,some .non] (k.set l (.lst (jL v++[.int x]))):=by
   simp[cE,Y,hL,b0]
  generalize k.set l (.lst (jL v++[.int x]))=C at *;have M:ag [c,l] h C:=(K4.sub (by simp)).trans (K5.sub (by simp))
  have E:ag [r,m,c,l] f C:=(A.sub (by simp)).trans (M.sub (by simp))
  have q:∀j,j<=d->j∉[c,l]:=λj hj=>by simp;omega
  have q':∀j,j<=d->j≠r->j≠m->j∉[r,m,c,l]:=λj hj h1 h2=>by simp;omega
  refine⟨_,bQ L (aQ (cF v w x)),C,?_,⟨E.get _ _ F.ob (q' _ (by omega) (by omega) (by omega)),E.get _ _ F.dk (q' _ (by omega) (by omega) (by omega)),S3.keep M (q _ (by omega)) (q _ (by omega)) (q _ (by omega)),uq W.nd,W.lt⟩,⟨K5.get _ _ K (by simp;omega),?_,qF,?_,by rw[g];simp;omega,G.lt⟩,(H.sub (by simp)).trans E,rfl⟩
  .rw[r4,aw,ae,r5,aw,ae,r6,aw,ae,r7,aw]
   rfl
  .rw[g5,g];simp[jL]
  .rw[←I]
   exact List.nodup_append.mpr ⟨G.nd,by simp,λa ha b hb z=>p (by simp at hb;subst hb;subst z;exact ha)⟩
def vM(a b c:aL):SM:=
 (ak (aH 3 (aD "Things" "thing" a (aa 0) (ab (aa 1) af)))
 (ak (aH 4 (aD "Shapes" "slot_of" b (m1 (aZ ["Things"] "shapes") (aa 0)) (ab (m1 (aZ ["Thing"] "shape") (aa 3)) (ab (aa 2) af))))
 (ak (dG (m2 (aB .Is) (aa 4) (ah .non))
 (ak bA
 aj)
 aj)
 (ak (bf ["Thing"] "shape" (aa 3) (aD "Shapes" "without" c (m1 (aZ ["Things"] "shapes") (aa 0)) (ab (m1 (aZ ["Thing"] "shape") (aa 3)) (ab (aa 2) af))))
 (ak (cA (fA (cE kf fP (m1 (aZ ["Thing"] "slots") (aa 3)) (ab (aa 4) af)) (cE rX lB (m1 (aZ ["Thing"] "slots") (aa 3)) (ab (aa 4) af))))
 aj)))))
noncomputable def cN(v:List (Str×Int))(w:Str):List (Str×Int):=v.eraseIdx ((aQ v).idxOf w)
theorem jz{b c:Type}{f:b->c}:∀(xs:List b) (j:Nat),(xs.eraseIdx j).map f=(xs.map f).eraseIdx j
 |[],_=>rfl
 |a::xs,0=>rfl
 |a::xs,j+1=>by simp only[List.eraseIdx_cons_succ,List.map_cons,jz xs j]
theorem uu(a:(aQ v).Nodup):fF (aQ v) w=aQ (cN v w):=by
 have b:fF (aQ v) w=(aQ v).erase w:=by
  rw[a.erase_eq_filter];unfold fF
  congr 1
  funext x
  by_cases h:x=w<;>simp[h]
 rw[b,cN,aQ,aQ,jz];exact List.erase_eq_eraseIdx_of_idxOf rfl
theorem BS{a j:Nat}(h:j<a):L2.qN a (j:Int)=some j:=by
 unfold L2.qN;simp;omega
theorem BU{ds:List D}{j:Nat}{x:D}(h:Ω[k]?=some (.lst ds))(b:ds[j]?=some x)(d:ds.length<=1000):fP (.ref k) [.int j] Ω=.ok x (Ω.set k (.lst (ds.eraseIdx j))):=by
 have c:=(List.getElem?_eq_some_iff.mp b).1;have a:jk (j:Int)=true:=e8 (by omega) (by omega)
 simp only[fP,iU h,a,if_true,BS c,b]
theorem CP{B C E:aL}(X:eo B)(Y:hX C)(Z:jY E)(W:Tn Ω T t s r m d kvs L)(hv:bx kvs (.inr n)=some (.ref c))(G:Tg Ω d c l i kd v L)(hl:L.length<=500)(N:w∈aQ v) :
  ∃i' F au,aO 5 3 (vM B C E) [.ref T,.str n,.str w] Ω=.ok .non au/\Tn au T t s r m d kvs F/\Tg au d c l i' kd (cN v w) F/\ag [r,m,c,l] Ω au/\F=bQ L (aQ (cN v w)):=by
 rw[aU (by rfl)]
 have e0:aM 5 [D.ref T,.str n,.str w]=[oR T,oS n,oS w,none,none]:=rfl;rw[e0];have a0:=W.lt;have b0:=G.lt;have hi:=List.idxOf_lt_length_of_mem N;have O:=ja X W hv (ρ:=[oR T,oS n,oS w,none,none]) (i:=0) (j:=1) rfl rfl
 have r1:(aH 3 (aD "Things" "thing" B (aa 0) (ab (aa 1) af))) [oR T,oS n,oS w,none,none] Ω=.nx [oR T,oS n,oS w,oR c,none] Ω:=by
  rw[bq,O];rfl
 obtain⟨b,P,H⟩:=Y Ω s r m i L (aQ v) w W.sh G.wd;have I:i9 (aQ v) w=.int ((aQ v).idxOf w:Nat):=by unfold i9;rw[if_pos N]
 rw[I]at P;have o:=W.bX H;have A:=G.bX H
 have r3:(aH 4 (aD "Shapes" "slot_of" C (m1 (aZ ["Things"] "shapes") (aa 0)) (ab (m1 (aZ ["Thing"] "shape") (aa 3)) (ab (aa 2) af)))) [oR T,oS n,oS w,oR c,none] Ω=.nx [oR T,oS n,oS w,oR c,oI ((aQ v).idxOf w:Nat)] b:=by
  rw[bq,ur (x:=[.int i,.str w]) W.sh (by simp[eO W]) (by decide) (by simp[fG G]) P]
  rfl
 have r4:(dG (m2 (aB .Is) (aa 4) (ah .non)) (ak bA aj) aj) [oR T,oS n,oS w,oR c,oI ((aQ v).idxOf w:Nat)] b=.nx [oR T,oS n,oS w,oR c,oI ((aQ v).idxOf w:Nat)] b:=by rfl
 obtain⟨f,Q,R,J⟩:=Z b s r m i L (aQ v) w o.sh A.wd (by have:=G.le;simp;omega) hl
 rw[uu G.nd]at Q R;have p:=J.get _ _ A.ob (by simp;omega)
 have K:=J.get _ _ A.sl (by simp;omega)
 have r6:(bf ["Thing"] "shape" (aa 3) (aD "Shapes" "without" E (m1 (aZ ["Things"] "shapes") (aa 0)) (ab (m1 (aZ ["Thing"] "shape") (aa 3)) (ab (aa 2) af)))) [oR T,oS n,oS w,oR c,oI ((aQ v).idxOf w:Nat)] b=.nx [oR T,oS n,oS w,oR c,oI ((aQ v).idxOf w:Nat)] (f.set c (.ins "Thing" [("kind",.str kd),("shape",.int ((bQ L (aQ (cN v w))).idxOf (aQ (cN v w)):Nat)),("slots",.ref l)])):=
  cU (ur (x:=[.int i,.str w]) o.sh (by simp[eO o]) (by decide) (by simp[fG A]) Q) rfl p (by simp)
 have S:ag [c] f (f.set c (.ins "Thing" [("kind",.str kd),("shape",.int ((bQ L (aQ (cN v w))).idxOf (aQ (cN v w)):Nat)),("slots",.ref l)])):=ag.set (by simp)
 have u:=aA (e:=.ins "Thing" [("kind",.str kd),("shape",.int ((bQ L (aQ (cN v w))).idxOf (aQ (cN v w)):Nat)),("slots",.ref l)]) p;generalize f.set c (.ins "Thing" [("kind",.str kd),("shape",.int ((bQ L (aQ (cN v w))).idxOf (aQ (cN v w)):Nat)),("slots",.ref l)])=a at *;have g:=S.get _ _ K (by simp;omega)
 have M:(aQ v).idxOf w<v.length:=by simpa[aQ]using hi
 have y:=BU (j:=(aQ v).idxOf w) (x:=.int (v[(aQ v).idxOf w]).2) g (by simp[jL,List.getElem?_eq_getElem M]) (by have:=G.le;simp[jL];omega)
 have ev:(jL v).eraseIdx ((aQ v).idxOf w)=jL (cN v w):=by rw[cN,jL,jL,jz]
 rw[ev]at y;have f4:aZ ["Thing"] "slots" (.ref c) a=.ok (.ref l) a:=cM u rfl rfl;have hL:=fY g;have g5:=aA (e:=.lst (jL (cN v w))) g;have U:ag [l] a (a.set l (.lst (jL (cN v w)))):=ag.set (by simp)
 have r7:(cA (fA (cE kf fP (m1 (aZ ["Thing"] "slots") (aa 3)) (ab (aa 4) af)) (cE rX lB (m1 (aZ ["Thing"] "slots") (aa 3)) (ab (aa 4) af)))) [oR T,oS n,oS w,oR c,oI ((aQ v).idxOf w:Nat)] a=.nx [oR T,oS n,oS w,oR c,oI ((aQ v).idxOf w:Nat)] (a.set l (.lst (jL (cN v w)))):=by
  simp[cE,f4,hL,y]
 generalize a.set l (.lst (jL (cN v w)))=h at *;have z:ag [c,l] f h:=(S.sub (by simp)).trans (U.sub (by simp))
 have k:ag [r,m,c,l] b h:=(J.sub (by simp)).trans (z.sub (by simp))
 have q:∀j,j<=d->j∉[c,l]:=λj hj=>by simp;omega
 have V:∀j,j<=d->j≠r->j≠m->j∉[r,m,c,l]:=λj hj O h2=>by simp;omega
 refine⟨_,bQ L (aQ (cN v w)),h,?_,⟨k.get _ _ o.ob (V _ (by omega) (by omega) (by omega)),k.get _ _ o.dk (V _ (by omega) (by omega) (by omega)),R.keep z (q _ (by omega)) (q _ (by omega)) (q _ (by omega)),uq W.nd,W.lt⟩,⟨U.get _ _ u (by simp;omega),g5,qF,?_,?_,G.lt⟩,(H.sub (by simp)).trans k,rfl⟩
 .unfold vM
  rw[ae,r1,aw,ae,r3,aw,ae,r4,aw,ae,r6,aw,ae,r7,aw];rfl
 .rw[←uu G.nd]
  exact G.nd.filter _
 .have:=G.le
  have:=List.length_eraseIdx_le v ((aQ v).idxOf w);unfold cN;omega
def vO:SM:=
 (ak (bf ["Thing"] "kind" (aa 0) (aa 1))
 (ak (bf ["Thing"] "shape" (aa 0) (ah (.int 0)))
 (ak (bf ["Thing"] "slots" (aa 0) (mN bH af))
 aj)))
theorem dy{a b:Cell}{l:az}:(Ω++a::l).set Ω.length b=Ω++b::l:=by
 rw[List.set_append_right _ _ (Nat.le_refl _)];simp
theorem EK:dO "Thing" (aO 2 2 vO) [.str kd] Ω=.ok (.ref Ω.length) (Ω++[.ins "Thing" [("kind",.str kd),("shape",.int 0),("slots",.ref (Ω.length+1))],.lst []]):=by
 unfold dO;rw[aU (by rfl)]
 have a:aM 2 [D.ref Ω.length,.str kd]=[oR Ω.length,oS kd]:=rfl;rw[a]
 have b:bf ["Thing"] "kind" (aa 0) (aa 1) [oR Ω.length,oS kd] (Ω++[Cell.ins "Thing" []])=.nx [oR Ω.length,oS kd] (Ω++[.ins "Thing" [("kind",.str kd)]]):=by
  rw[cU (y:=.str kd) (k:=Ω.length) rfl rfl av (by simp),dy];rfl
 have c:bf ["Thing"] "shape" (aa 0) (ah (.int 0)) [oR Ω.length,oS kd] (Ω++[Cell.ins "Thing" [("kind",.str kd)]])=.nx [oR Ω.length,oS kd] (Ω++[.ins "Thing" [("kind",.str kd),("shape",.int 0)]]):=by
  rw[cU (y:=.int 0) (k:=Ω.length) rfl rfl av (by simp),dy];rfl
 have d:bf ["Thing"] "slots" (aa 0) (mN bH af) [oR Ω.length,oS kd] (Ω++[Cell.ins "Thing" [("kind",.str kd),("shape",.int 0)]])=.nx [oR Ω.length,oS kd] (Ω++[.ins "Thing" [("kind",.str kd),("shape",.int 0),("slots",.ref (Ω.length+1))],.lst []]):=by
  have e:(mN bH af) [oR Ω.length,oS kd] (Ω++[Cell.ins "Thing" [("kind",.str kd),("shape",.int 0)]])=.ok (.ref (Ω.length+1)) (Ω++[.ins "Thing" [("kind",.str kd),("shape",.int 0)],.lst []]):=by
   simp[aG]
  rw[cU (y:=.ref (Ω.length+1)) (k:=Ω.length) e rfl av (by simp),dy];rfl
 unfold vO;rw[ae,b,aw,ae,c,aw,ae,d,aw];rfl
def yW(a b TI:aL):SM:=
 (ak (dG (hJ (mN (ba a) (ab (aa 1) af)))
 (ak bA
 aj)
 aj)
 (ak (dG (m2 (aB .In) (aa 1) (m1 (aZ ["Things"] "made") (aa 0)))
 (ak bA
 aj)
 aj)
 (ak (dG (m2 (aB .GtE) (mN (bo .len) (ab (m1 (aZ ["Things"] "made") (aa 0)) af)) (ah (.int 40)))
 (ak bA
 aj)
 aj)
 (ak (cA (aD "House" "check_kind" b (m1 (aZ ["Town"] "house") (m1 (aZ ["Things"] "town") (aa 0))) (ab (aa 2) af)))
 (ak (cQ (m1 (aZ ["Things"] "made") (aa 0)) (aa 1) (mN (dO "Thing" TI) (ab (aa 2) af)))
 aj)))))
variable{P:Nat->Prop}{E:iY}{N:Str->List Str}{fs:List (Str×D)}
theorem yX{b:aL}(c:iq b)(W:Tn Ω T t s r m d kvs L)(f:Ω[t]?=some (.ins "Town" (("house",.ref h)::fs)))(H:cX P Ω h E N)(g:kd∈nms E){j:Nat}(i:ρ[0]?=some (oR T))(n:ρ[j]?=some (oS kd)):∃au,(cA (aD "House" "check_kind" b (m1 (aZ ["Town"] "house") (m1 (aZ ["Things"] "town") (aa 0))) (ab (aa j) af))) ρ Ω=.nx ρ au/\ag [] Ω au:=by
 obtain⟨a,o,p⟩:=c Ω h E N P kd H g;refine⟨a,?_,p⟩;have q:=yU W;have u:aZ ["Town"] "house" (.ref t) Ω=.ok (.ref h) Ω:=cM f rfl rfl;obtain⟨e,l,w,x,y,_⟩:=H;rw[cm,fZ (k:=h) (au:=Ω) (by simp[i,q,u]) y rfl]
 simp[n,o]
theorem CQ{q z:aL}(G:ip q)(I:iq z)(W:Tn Ω T t s r m d kvs L)(J:Ω[t]?=some (.ins "Town" (("house",.ref h)::fs)))(H:cX P Ω h E N)(K:kd∈nms E)(M:iv n)(O:bx kvs (.inr n)=none)(hl:kvs.length<40)(Q:L[0]?=some []) :
  ∃c au,aO 3 3 (yW q z (aO 2 2 vO)) [.ref T,.str n,.str kd] Ω=.ok .non au/\Tn au T t s r m d (bI kvs (.inr n) (.ref c)) L/\Tg au d c (c+1) 0 kd [] L/\ag [d] Ω au/\Ω.length<=c:=by
 rw[aU (by rfl)]
 have R:aM 3 [D.ref T,.str n,.str kd]=[oR T,oS n,oS kd]:=rfl;rw[R];obtain⟨b,S,p⟩:=G Ω n M;have U:(dG (hJ (mN (ba q) (ab (aa 1) af))) (ak bA aj) aj) [oR T,oS n,oS kd] Ω=.nx [oR T,oS n,oS kd] b:=by simp[S]
 have g:=W.bX p;have A:=i_ g;have i:=BK (n:=n) (.inl g.dk:cq b d kvs);rw[O]at i;have V:(dG (m2 (aB .In) (aa 1) (m1 (aZ ["Things"] "made") (aa 0))) (ak bA aj) aj) [oR T,oS n,oS kd] b=.nx [oR T,oS n,oS kd] b:=by simp[A,i,-km]
 have u:=yE (.inl g.dk:cq b d kvs)
 have X:(dG (m2 (aB .GtE) (mN (bo .len) (ab (m1 (aZ ["Things"] "made") (aa 0)) af)) (ah (.int 40))) (ak bA aj) aj) [oR T,oS n,oS kd] b=.nx [oR T,oS n,oS kd] b:=by
  simp[A,u,dD];omega
 obtain⟨a,Y,B⟩:=yX I g (p.get _ _ J (by simp)) (H.keep p) K (ρ:=[oR T,oS n,oS kd]) (j:=2) rfl rfl
 have C:=g.bX B;have w:=EK (Ω:=a) (kd:=kd);have Z:(a++[Cell.ins "Thing" [("kind",.str kd),("shape",.int 0),("slots",.ref (a.length+1))],.lst []])[a.length]?=some (.ins "Thing" [("kind",.str kd),("shape",.int 0),("slots",.ref (a.length+1))]):=av
 have x:(a++[Cell.ins "Thing" [("kind",.str kd),("shape",.int 0),("slots",.ref (a.length+1))],.lst []])[a.length+1]?=some (.lst []):=by
  rw[List.getElem?_append_right (by omega)];simp
 have F:ag [] a (a++[Cell.ins "Thing" [("kind",.str kd),("shape",.int 0),("slots",.ref (a.length+1))],.lst []]):=ag.app;generalize a++[Cell.ins "Thing" [("kind",.str kd),("shape",.int 0),("slots",.ref (a.length+1))],.lst []]=f at *;have k:=C.bX F;have f3:=i_ k;have hd:=lP (n:=n) (d:=.ref a.length) k.dk (by omega)
 have r5:(cQ (m1 (aZ ["Things"] "made") (aa 0)) (aa 1) (mN (dO "Thing" (aO 2 2 vO)) (ab (aa 2) af))) [oR T,oS n,oS kd] a=.nx [oR T,oS n,oS kd] (f.set d (.dK (bI kvs (.inr n) (.ref a.length)))):=by
  simp[cQ,w,f3,hd]
 have ld:=bp C.dk;have g4:=aA (e:=.dK (bI kvs (.inr n) (.ref a.length))) k.dk;have l:ag [d] f (f.set d (.dK (bI kvs (.inr n) (.ref a.length)))):=ag.set (by simp)
 generalize f.set d (.dK (bI kvs (.inr n) (.ref a.length)))=y at *;have a0:=W.lt;have o:=p.trans B;refine⟨a.length,y,?_,⟨l.get _ _ k.ob (by simp;omega),g4,k.sh.keep l (by simp;omega) (by simp;omega) (by simp;omega),W.nd,W.lt⟩,⟨l.get _ _ Z (by simp;omega),l.get _ _ x (by simp;omega),Q,by simp,by simp,by omega,by omega⟩,((o.trans F).sub (by simp)).trans l,o.len⟩
 unfold yW;rw[ae,U,aw,ae,V,aw,ae,X,aw,ae,Y,aw,ae,r5,aw];rfl
def Im(a b:aL):SM:=
 (ak (aH 3 (aD "Things" "thing" a (aa 0) (ab (aa 1) af)))
 (ak (cA (aD "House" "check_kind" b (m1 (aZ ["Town"] "house") (m1 (aZ ["Things"] "town") (aa 0))) (ab (aa 2) af)))
 (ak (bf ["Thing"] "kind" (aa 3) (aa 2))
 aj)))
theorem Io{a o:aL}(p:eo a)(q:iq o)(W:Tn Ω T t s r m d kvs L)(u:bx kvs (.inr n)=some (.ref c))(G:Tg Ω d c l i w v L)(x:Ω[t]?=some (.ins "Town" (("house",.ref h)::fs)))(H:cX P Ω h E N)(z:kd∈nms E) :
  ∃au,aO 4 3 (Im a o) [.ref T,.str n,.str kd] Ω=.ok .non au/\Tn au T t s r m d kvs L/\Tg au d c l i kd v L/\ag [c] Ω au:=by
 rw[aU (by rfl)]
 have A:aM 4 [D.ref T,.str n,.str kd]=[oR T,oS n,oS kd,none]:=rfl;rw[A];have B:=ja p W u (ρ:=[oR T,oS n,oS kd,none]) (i:=0) (j:=1) rfl rfl
 have C:(aH 3 (aD "Things" "thing" a (aa 0) (ab (aa 1) af))) [oR T,oS n,oS kd,none] Ω=.nx [oR T,oS n,oS kd,oR c] Ω:=by
  rw[bq,B];rfl
 obtain⟨aS,F,b⟩:=yX q W x H z (ρ:=[oR T,oS n,oS kd,oR c]) (j:=2) rfl rfl;have I:=W.bX b;have f:=G.bX b;have J:(bf ["Thing"] "kind" (aa 3) (aa 2)) [oR T,oS n,oS kd,oR c] aS=.nx [oR T,oS n,oS kd,oR c] (aS.set c (.ins "Thing" [("kind",.str kd),("shape",.int i),("slots",.ref l)])):=cU (aS:=aS) (y:=.str kd) rfl rfl f.ob (by simp)
 have K:=aA (e:=.ins "Thing" [("kind",.str kd),("shape",.int i),("slots",.ref l)]) f.ob;have g:ag [c] aS (aS.set c (.ins "Thing" [("kind",.str kd),("shape",.int i),("slots",.ref l)])):=ag.set (by simp)
 generalize aS.set c (.ins "Thing" [("kind",.str kd),("shape",.int i),("slots",.ref l)])=k at *;have M:=G.lt;refine⟨k,?_,I.keep g (by simp;omega),⟨K,g.get _ _ f.sl (by simp;omega),G.wd,G.nd,G.le,G.lt⟩,(b.sub (by simp)).trans g⟩
 unfold Im;rw[ae,C,aw,ae,F,aw,ae,J,aw];rfl
end
section
variable{Ω au aS:az}{ρ:aV}{T t s r m d k c l i h g:Nat}{L:List (List Str)}{kvs tk:List (Key×D)}{n w kd:Str}{fp:List Nat}{P:Nat->Prop}{E:iY}{N:Str->List Str}{fs:List (Str×D)}{ks:List Str}
def BV:SM:=
 (ak (bf ["Facts"] "teller" (aa 0) (aa 1))
 (ak (bf ["Facts"] "strengths" (aa 0) br)
 (ak (bf ["Facts"] "asked" (aa 0) (mN bH af))
 aj)))
theorem EL{x:D}:∃b l,dO "Facts" (aO 2 2 BV) [x] Ω=.ok (.ref Ω.length) (Ω++.ins "Facts" b::l):=by
 unfold dO;rw[aU (by rfl)]
 have c:aM 2 [D.ref Ω.length,x]=[oR Ω.length,some x]:=rfl;rw[c]
 have d:bf ["Facts"] "teller" (aa 0) (aa 1) [oR Ω.length,some x] (Ω++[Cell.ins "Facts" []])=.nx [oR Ω.length,some x] (Ω++[.ins "Facts" [("teller",x)]]):=by
  rw[cU (y:=x) (k:=Ω.length) rfl rfl av (by simp),dy];rfl
 have e:bf ["Facts"] "strengths" (aa 0) br [oR Ω.length,some x] (Ω++[Cell.ins "Facts" [("teller",x)]])=.nx [oR Ω.length,some x] (Ω++[.ins "Facts" [("teller",x),("strengths",.ref (Ω.length+1))],.dK []]):=by
  have a:br [oR Ω.length,some x] (Ω++[Cell.ins "Facts" [("teller",x)]])=.ok (.ref (Ω.length+1)) (Ω++[.ins "Facts" [("teller",x)],.dK []]):=by
   simp[br]
  rw[cU (y:=.ref (Ω.length+1)) (k:=Ω.length) a rfl av (by simp),dy];rfl
 have f:bf ["Facts"] "asked" (aa 0) (mN bH af) [oR Ω.length,some x] (Ω++[Cell.ins "Facts" [("teller",x),("strengths",.ref (Ω.length+1))],.dK []])=.nx [oR Ω.length,some x] (Ω++[.ins "Facts" [("teller",x),("strengths",.ref (Ω.length+1)),("asked",.ref (Ω.length+2))],.dK [],.lst []]):=by
  have a:(mN bH af) [oR Ω.length,some x] (Ω++[Cell.ins "Facts" [("teller",x),("strengths",.ref (Ω.length+1))],.dK []])=.ok (.ref (Ω.length+2)) (Ω++[.ins "Facts" [("teller",x),("strengths",.ref (Ω.length+1))],.dK [],.lst []]):=by
   simp[aG]
  rw[cU (y:=.ref (Ω.length+2)) (k:=Ω.length) a rfl av (by simp),dy];rfl
 refine⟨[("teller",x),("strengths",.ref (Ω.length+1)),("asked",.ref (Ω.length+2))],[.dK [],.lst []],?_⟩;unfold BV;rw[ae,d,aw,ae,e,aw,ae,f,aw];rfl
def EN(a b:aL):SM:=
 (ak (bf ["Town"] "house" (aa 0) (mN (dO "House" a) af))
 (ak (bf ["Town"] "facts" (aa 0) (mN (dO "Facts" b) (ab (aa 1) af)))
 (ak (bf ["Town"] "tags" (aa 0) br)
 (ak (bf ["Town"] "last_deed" (aa 0) (ah (.int 0)))
 aj))))
structure To(P:Nat->Prop)(Ω:az)(t h g:Nat)(E:iY)(N:Str->List Str):Prop where
 ob:∃f b,Ω[t]?=some (.ins "Town" [("house",.ref h),("facts",f),("tags",.ref g),("last_deed",.int b)])
 hs:cX P Ω h E N
 tg:∃tk,Ω[g]?=some (.dK tk)/\(∀kv∈tk,∃i,kv.2=.int i)/\tk.length<=E.length
theorem yY{a b:List (Str×D)}(h:some (Cell.ins "Town" a)=some (.ins "House" b)):False:=by
 injection Option.some.inj h with h _;exact absurd h (by decide)
theorem cX.Ip{I:List (Str×D)}(H:cX P Ω h E N)(u:E≠[])(n:Ω[t]?=some (.ins "Town" I))(o:Ω[g]?=some (.dK tk))(J:∀L∈tk,∃i,L.2=.int i)(K:ag [t,g] Ω au):cX P au h E N:=by
 obtain⟨e,l,q,r,d,w,x,y,B⟩:=H
 have C:∀j∈[t,g],∀F,Ω[j]?≠some (.lst F):=λj m F=>by
  simp at m;rcases m with rfl|rfl
  .rw[n];simp
  .rw[o];simp
 have G:∀{a:Nat}{c:List (Key×D)}{A:iY},cq Ω a c->bh P Ω c A->A≠[]->a∉[t,g]:=by
  intro a c A hd M O;simp only[List.mem_cons,List.not_mem_nil,or_false,not_or];refine⟨λz=>hd.ni _ _ (z▸n),λz=>?_⟩
  subst z
  have:c=tk:=by
   rcases hd with hd|hd<;>rw[o]at hd<;>cases hd
   rfl
  subst this;cases A with
  |nil=>exact O rfl
  |cons p A=>
   have f:=M;unfold bh at f;cases f with
   |cons a b=>
    obtain⟨_,j,m,_⟩:=a;obtain⟨i,k⟩:=J _ List.mem_cons_self;rw[m]at k;cases k
 have Q:h∉[t,g]:=by
  simp only[List.mem_cons,List.not_mem_nil,or_false,not_or];exact⟨λz=>by rw[z,n]at d;exact yY d,λz=>by rw[z,o]at d;cases d⟩
 have s:en (nms E) N≠[]:=by
  cases E with
  |nil=>exact absurd rfl u
  |cons p E=>simp[en,nms]
 exact⟨e,l,q,r,K.get _ _ d Q,w.keep K (G w x u),x.ez K C,y.keep K (G y B s),B.ez K C⟩
theorem EO{G:aL}(U:yK G){x:D}(P:Nat->Prop):∃h g au,dO "Town" (aO 2 2 (EN G (aO 2 2 BV))) [x] Ω=.ok (.ref Ω.length) au/\To P au Ω.length h g [] N/\ag [] Ω au/\Ω.length<h/\h<g:=by
 unfold dO;rw[aU (by rfl)]
 have V:aM 2 [D.ref Ω.length,x]=[oR Ω.length,some x]:=rfl;rw[V];have X:(Ω++[Cell.ins "Town" []])[Ω.length]?=some (.ins "Town" []):=av;have Y:ag [] Ω (Ω++[Cell.ins "Town" []]):=ag.app;have l0:(Ω++[Cell.ins "Town" []]).length=Ω.length+1:=by simp
 generalize Ω++[Cell.ins "Town" []]=b at *;obtain⟨aS,Z,H1,R⟩:=U b N P;have F:=R.get _ _ X (by simp)
 have r1:bf ["Town"] "house" (aa 0) (mN (dO "House" G) af) [oR Ω.length,some x] b=.nx [oR Ω.length,some x] (aS.set Ω.length (.ins "Town" [("house",.ref b.length)])):=cU (aS:=aS) (y:=.ref b.length) Z rfl F (by simp)
 have q1:=aA (e:=.ins "Town" [("house",.ref b.length)]) F;have p:ag [Ω.length] aS (aS.set Ω.length (.ins "Town" [("house",.ref b.length)])):=ag.set (by simp)
 have H2:cX P (aS.set Ω.length (.ins "Town" [("house",.ref b.length)])) b.length [] N:=by
  obtain⟨e,l,m,n,H,r,I,s,J⟩:=H1
  have t:∀{a:Nat}{o:List (Key×D)},cq aS a o->a∉[Ω.length]:=λK=>by
   rw[List.mem_singleton];exact λz=>K.ni _ _ (z▸F)
  have u:∀j∈[Ω.length],∀w,aS[j]?≠some (.lst w):=λj L w=>by rw[List.mem_singleton.mp L,F];simp
  exact⟨e,l,m,n,p.get _ _ H (by simp;omega),r.keep p (t r),I.ez p u,s.keep p (t s),J.ez p u⟩
 generalize aS.set Ω.length (.ins "Town" [("house",.ref b.length)])=f at *;obtain⟨A,fl,e3⟩:=EL (Ω:=f) (x:=x);have M:ag [] f (f++.ins "Facts" A::fl):=ag.app;have B:=M.get _ _ q1 (by simp)
 have S:=H2.keep M;generalize f++Cell.ins "Facts" A::fl=d at *;have r2:bf ["Town"] "facts" (aa 0) (mN (dO "Facts" (aO 2 2 BV)) (ab (aa 1) af)) [oR Ω.length,some x] f=.nx [oR Ω.length,some x] (d.set Ω.length (.ins "Town" [("house",.ref b.length),("facts",.ref f.length)])):=cU (aS:=d) (y:=.ref f.length) e3 rfl B (by simp)
 have g4:=aA (e:=.ins "Town" [("house",.ref b.length),("facts",.ref f.length)]) B;have K4:ag [Ω.length] d (d.set Ω.length (.ins "Town" [("house",.ref b.length),("facts",.ref f.length)])):=ag.set (by simp)
 have C:(d.set Ω.length (.ins "Town" [("house",.ref b.length),("facts",.ref f.length)])++[Cell.dK []])[Ω.length]?=some (.ins "Town" [("house",.ref b.length),("facts",.ref f.length)]):=cw g4
 have d5:(d.set Ω.length (.ins "Town" [("house",.ref b.length),("facts",.ref f.length)])++[Cell.dK []])[d.length]?=some (.dK []):=by
  have:=av (Ω:=d.set Ω.length (.ins "Town" [("house",.ref b.length),("facts",.ref f.length)])) (c:=Cell.dK []) (l:=[]);rwa[List.length_set]at this
 have K5:ag [Ω.length] d (d.set Ω.length (.ins "Town" [("house",.ref b.length),("facts",.ref f.length)])++[Cell.dK []]):=K4.trans ag.app
 have e5:br [oR Ω.length,some x] (d.set Ω.length (.ins "Town" [("house",.ref b.length),("facts",.ref f.length)]))=.ok (.ref d.length) (d.set Ω.length (.ins "Town" [("house",.ref b.length),("facts",.ref f.length)])++[Cell.dK []]):=by
  simp[br]
 have r3:bf ["Town"] "tags" (aa 0) br [oR Ω.length,some x] (d.set Ω.length (.ins "Town" [("house",.ref b.length),("facts",.ref f.length)]))=_:=cU (aS:=(d.set Ω.length (.ins "Town" [("house",.ref b.length),("facts",.ref f.length)])++[Cell.dK []])) (y:=.ref d.length) e5 rfl C (by simp)
 generalize d.set Ω.length (.ins "Town" [("house",.ref b.length),("facts",.ref f.length)])++[Cell.dK []]=i at *;have a0:Ω.length<d.length:=bp B;have T:(i.set Ω.length (.ins "Town" [("house",.ref b.length),("facts",.ref f.length),("tags",.ref d.length)]))[Ω.length]?=some (.ins "Town" [("house",.ref b.length),("facts",.ref f.length),("tags",.ref d.length)]):=aA C;have K6:ag [Ω.length] d (i.set Ω.length (.ins "Town" [("house",.ref b.length),("facts",.ref f.length),("tags",.ref d.length)])):=K5.trans (ag.set (by simp))
 have d6:(i.set Ω.length (.ins "Town" [("house",.ref b.length),("facts",.ref f.length),("tags",.ref d.length)]))[d.length]?=some (.dK []):=bj d5 (by omega)
 have O:bf ["Town"] "tags" (aa 0) br [oR Ω.length,some x] (d.set Ω.length (.ins "Town" [("house",.ref b.length),("facts",.ref f.length)]))=.nx [oR Ω.length,some x] (i.set Ω.length (.ins "Town" [("house",.ref b.length),("facts",.ref f.length),("tags",.ref d.length)])):=r3;generalize i.set Ω.length (.ins "Town" [("house",.ref b.length),("facts",.ref f.length),("tags",.ref d.length)])=k at *;have r4:bf ["Town"] "last_deed" (aa 0) (ah (.int 0)) [oR Ω.length,some x] k=.nx [oR Ω.length,some x] (k.set Ω.length (.ins "Town" [("house",.ref b.length),("facts",.ref f.length),("tags",.ref d.length),("last_deed",.int 0)])):=cU (aS:=k) (y:=.int 0) rfl rfl T (by simp)
 have g7:=aA (e:=.ins "Town" [("house",.ref b.length),("facts",.ref f.length),("tags",.ref d.length),("last_deed",.int 0)]) T;have d7:=bj (e:=.ins "Town" [("house",.ref b.length),("facts",.ref f.length),("tags",.ref d.length),("last_deed",.int 0)]) (j:=Ω.length) d6 (by omega)
 have q:ag [Ω.length] d (k.set Ω.length (.ins "Town" [("house",.ref b.length),("facts",.ref f.length),("tags",.ref d.length),("last_deed",.int 0)])):=K6.trans (ag.set (by simp))
 generalize k.set Ω.length (.ins "Town" [("house",.ref b.length),("facts",.ref f.length),("tags",.ref d.length),("last_deed",.int 0)])=E at *
 have H7:cX P E b.length [] N:=by
  obtain⟨e,l,m,n,H,r,I,s,J⟩:=S
  have t:∀{a:Nat}{o:List (Key×D)},cq d a o->a∉[Ω.length]:=λK=>by
   rw[List.mem_singleton];exact λz=>K.ni _ _ (z▸B)
  have u:∀j∈[Ω.length],∀w,d[j]?≠some (.lst w):=λj L w=>by rw[List.mem_singleton.mp L,B];simp
  exact⟨e,l,m,n,q.get _ _ H (by simp;omega),r.keep q (t r),I.ez q u,s.keep q (t s),J.ez q u⟩
 have lh:b.length<d.length:=by
  obtain⟨_,_,_,_,z,_⟩:=S;exact bp z
 refine⟨b.length,d.length,E,?_,⟨⟨_,_,g7⟩,H7,_,d7,by simp,by simp⟩,?_,by omega,lh⟩
 .unfold EN
  rw[ae,r1,aw,ae,r2,aw,ae,O,aw,ae,r4,aw];rfl
 .have Q:ag [Ω.length] b d:=((R.sub (by simp)).trans p).trans (M.sub (by simp))
  exact ag.new Y (Q.trans q) (by simp)
def Ln:SM:=(ak (cQ (m1 (aZ ["Town"] "tags") (aa 0)) (aa 2) (m1 (aZ ["Town"] "last_deed") (aa 0)))
 aj)
def zi:SM:=
 (ak (mX ["Town"] "last_deed" (aa 0) 1)
 (ak (ek (cP 2) (bG (aa 1)) Ln)
 (ak (bD (aa 1))
 aj)))
theorem Iq{f:D}{b:Int}{q:Nat}(w:Ω[t]?=some (.ins "Town" [("house",.ref h),("facts",f),("tags",.ref g),("last_deed",.int b)]))(y:Ω[g]?=some (.dK tk))(F:∀A∈tk,∃i,A.2=.int i)(Y:tk.length<=500)(o:Ω[q]?=some (.lst [.str n])) :
  ∃l au,aO 3 2 zi [.ref t,.ref q] Ω=.ok (.ref q) au/\au[t]?=some (.ins "Town" [("house",.ref h),("facts",f),("tags",.ref g),("last_deed",.int (b+1))])/\au[g]?=some (.dK l)/\(∀A∈l,∃i,A.2=.int i)/\l.length<=tk.length+1/\ag [t,g] Ω au:=by
 rw[aU (by rfl)]
 have H:aM 3 [D.ref t,.ref q]=[oR t,oR q,none]:=rfl;rw[H]
 have I:(mX ["Town"] "last_deed" (aa 0) 1) [oR t,oR q,none] Ω=.nx [oR t,oR q,none] (Ω.set t (.ins "Town" [("house",.ref h),("facts",f),("tags",.ref g),("last_deed",.int (b+1))])):=by
  unfold mX;have:aa 0 [oR t,oR q,none] Ω=.ok (.ref t) Ω:=rfl;rw[this,bP,iV w];rfl
 have B:=aA (e:=.ins "Town" [("house",.ref h),("facts",f),("tags",.ref g),("last_deed",.int (b+1))]) w;have p:g≠t:=λz=>by rw[z,w]at y;cases y
 have C:q≠t:=λz=>by rw[z,w]at o;cases o
 have E:q≠g:=λz=>by rw[z,y]at o;cases o
 have s:=bj (e:=.ins "Town" [("house",.ref h),("facts",f),("tags",.ref g),("last_deed",.int (b+1))]) y p;have m:=bj (e:=.ins "Town" [("house",.ref h),("facts",f),("tags",.ref g),("last_deed",.int (b+1))]) o C;have J:ag [t,g] Ω (Ω.set t (.ins "Town" [("house",.ref h),("facts",f),("tags",.ref g),("last_deed",.int (b+1))])):=ag.set (by simp)
 generalize Ω.set t (.ins "Town" [("house",.ref h),("facts",f),("tags",.ref g),("last_deed",.int (b+1))])=a at *;have K:=lP (n:=n) (d:=.int (b+1)) s (by omega)
 have L:aZ ["Town"] "tags" (.ref t) a=.ok (.ref g) a:=cM B rfl rfl;have M:aZ ["Town"] "last_deed" (.ref t) a=.ok (.int (b+1)) a:=cM B rfl rfl
 have N:Ln [oR t,oR q,oS n] a=.nx [oR t,oR q,oS n] (a.set g (.dK (bI tk (.inr n) (.int (b+1))))):=by
  simp[Ln,cQ,L,M,K]
 have O:=aA (e:=.dK (bI tk (.inr n) (.int (b+1)))) s;have P:=bj (e:=.dK (bI tk (.inr n) (.int (b+1)))) B (Ne.symm p);have Q:=bj (e:=.dK (bI tk (.inr n) (.int (b+1)))) m E;have S:ag [t,g] a (a.set g (.dK (bI tk (.inr n) (.int (b+1))))):=ag.set (by simp)
 generalize a.set g (.dK (bI tk (.inr n) (.int (b+1))))=j at *
 have T:bG (aa 1) [oR t,oR q,none] a=.ok (.seq (.ref q)) a:=by
  rw[cf];exact bZ (by rw[aW,aP m])
 have U:(ek (cP 2) (bG (aa 1)) Ln) [oR t,oR q,none] a=.nx [oR t,oR q,oS n] j:=by
  rw[de,T,bP];refine cp (R:=λr=>r=.nx [oR t,oR q,oS n] j) (ds:=[.str n]) (λi u c=>(i=0/\u=[oR t,oR q,none]/\c=a)\/(i=1/\u=[oR t,oR q,oS n]/\c=j)) ?_ ?_ ?_ fuel 0 _ _ (by unfold fuel;simp) (Nat.zero_le _) (.inl ⟨rfl,rfl,rfl⟩)
  .rintro i u c (⟨_,_,rfl⟩|⟨_,_,rfl⟩)
   .rw[dc,aW,aP m]
   .rw[dc,aW,aP Q]
  .rintro i x u c G (⟨rfl,rfl,rfl⟩|⟨rfl,rfl,rfl⟩)
   .cases G
    refine⟨[oR t,oR q,oS n],rfl,?_⟩;rw[N];exact .inr ⟨rfl,rfl,rfl⟩
   .cases G
  .rintro u c (⟨V,_,_⟩|⟨_,rfl,rfl⟩)
   .cases V
   .rfl
 refine⟨_,j,?_,P,O,?_,yy,J.trans S⟩
 .unfold zi
  rw[ae,I,aw,ae,U,aw];rfl
 .intro A k
  unfold bI at k;split at k
  .obtain⟨X,h1,rfl⟩:=List.mem_map.mp k
   split
   .exact⟨_,rfl⟩
   .exact F _ h1
  .rcases List.mem_append.mp k with h1|h1
   .exact F _ h1
   .rw[List.mem_singleton.mp h1]
    exact⟨_,rfl⟩
def BW(a b:aL):SM:=
 (ak (cA (aD "House" "add" a (m1 (aZ ["Town"] "house") (aa 0)) (ab (aa 1) (ab (aa 2) (ab (aa 3) af)))))
 (ak (bD (aD "Town" "count_deed" b (aa 0) (ab (mN bH (ab (aa 1) af)) af)))
 aj))
abbrev bare(a:List Str):iY:=en a λ_=>[]
theorem BX(a:ks.Nodup)(c:ks.length<=100):Gd (bare ks):=
  { nd:=by rw[ec];exact a
    el:=λn a x b=>by rw[ec]at a;rw[iZ a]at b;cases b
    rk:=⟨λ_=>0,λn a x b=>by rw[ec]at a;rw[iZ a]at b;cases b⟩
    few:=by simp only[bare,en,List.length_map];exact c
    short:=λn a=>by rw[ec]at a;rw[iZ a];simp }
abbrev BY:Nat->Prop:=λ_=>True
theorem Ir{d:aL}(N:yN d){a:Nat}(W:To BY Ω t h g (bare ks) λn=>[n])(O:Ω[a]?=some (.lst []))(B:(ks++[n]).Nodup)(hl:ks.length<12)(P:iv n) :
  ∃x au,aO 4 4 (BW d (aO 3 2 zi)) [.ref t,.str n,.ref a,.non] Ω=.ok x au/\To BY au t h g (bare (ks++[n])) (λn=>[n])/\ag [h,t,g] Ω au:=by
 rw[aU (by rfl)]
 have Q:aM 4 [D.ref t,.str n,.ref a,.non]=[oR t,oS n,oR a,some .non]:=rfl;rw[Q];have i:bare ks++[(n,[])]=bare (ks++[n]):=by simp[bare,en]
 have j:=List.nodup_append.mp B;obtain⟨⟨f,b,o⟩,H,tk,C,E,p⟩:=W;have R:(bare ks).length=ks.length:=by simp[bare,en]
 obtain⟨c,S,F,r⟩:=N Ω h a (bare ks) (λn=>[n]) (λn=>[n]) BY n [] H O P (by rw[ec];exact λz=>j.2.2 _ z _ (by simp) rfl) (by omega) (by simp) (by simp) (by simp) (by rw[i];exact BX B (by simp;omega)) (by rw[i];exact λm G=>⟨by rw[ec]at G;exact iZ G,rfl⟩) (λ_ _=>True.intro)
 rw[i]at F
 have s:t≠h:=λz=>by
  obtain⟨_,_,_,_,q,_⟩:=H;rw[←z,o]at q;exact yY q
 have u:g≠h:=λz=>by
  obtain⟨_,_,_,_,q,_⟩:=H;rw[←z,C]at q;cases q
 have I:=r.get _ _ o (by simpa using s)
 have T:=r.get _ _ C (by simpa using u)
 have U:aZ ["Town"] "house" (.ref t) Ω=.ok (.ref h) Ω:=cM o rfl rfl
 have V:(cA (aD "House" "add" d (m1 (aZ ["Town"] "house") (aa 0)) (ab (aa 1) (ab (aa 2) (ab (aa 3) af))))) [oR t,oS n,oR a,some .non] Ω=.nx [oR t,oS n,oR a,some .non] c:=by
  obtain⟨e,l,X,Y,Z,_⟩:=H;rw[cm,fZ (k:=h) (au:=Ω) (by simp[U]) Z rfl]
  simp[S]
 have J:=cw (l:=[Cell.lst [.str n]]) I;have K:=cw (l:=[Cell.lst [.str n]]) T;have q2:(c++[Cell.lst [.str n]])[c.length]?=some (.lst [.str n]):=av;have L:ag [] c (c++[Cell.lst [.str n]]):=ag.app;have e2:(mN bH (ab (aa 1) af)) [oR t,oS n,oR a,some .non] c=.ok (.ref c.length) (c++[Cell.lst [.str n]]):=by simp[aG]
 have H2:=F.keep L;generalize c++[Cell.lst [.str n]]=a0 at *;obtain⟨w,y,e3,t3,g3,A,b0,M⟩:=Iq J K E (by omega) q2
 refine⟨.ref c.length,y,?_,⟨⟨_,_,t3⟩,H2.Ip (by simp[bare,en]) J K E M,w,g3,A,by simp[bare,en]at p ⊢;omega⟩,((r.sub (by simp)).trans (L.sub (by simp))).trans (M.sub (by simp))⟩
 unfold BW;rw[ae,V,aw,ae,b_,fZ (k:=t) (au:=c) rfl I rfl];simp only[aJ,e2,ai,bE,e3,fV,bP,Hz,BB]
def Iu(TO TA a:aL):SM:=
 (ak (aH 1 (mN (dO "Town" TO) (ab (ah (.dct [] [])) af)))
 (ak (ek (cP 2) (bG (aa 0))
 (ak (cA (fA (aD "Town" "add" (λb=>TA (b++[.non])) (aa 1) (ab (aa 2) (ab (mN bH af) af))) (aD "House" "add" a (aa 1) (ab (aa 2) (ab (mN bH af) af)))))
 aj))
 (ak (bD (aa 1))
 aj)))
theorem Iv{p c:aL}(J:yK p)(L:yN c){q:Nat}(E:Ω[q]?=some (.lst (ks.map .str)))(M:ks.Nodup)(hl:ks.length<=12)(O:∀x∈ks,iv x) :
  ∃t h g au,aO 3 1 (Iu (aO 2 2 (EN p (aO 2 2 BV))) (aO 4 4 (BW c (aO 3 2 zi))) c) [.ref q] Ω=.ok (.ref t) au/\To BY au t h g (bare ks) (λn=>[n])/\ag [] Ω au:=by
 rw[aU (by rfl)]
 have P:aM 3 [D.ref q]=[oR q,none,none]:=rfl;rw[P];obtain⟨h,g,e,Q,S,F,lh,lg⟩:=EO (Ω:=Ω) (N:=λn=>[n]) J (x:=.dct [] []) BY
 have T:(aH 1 (mN (dO "Town" (aO 2 2 (EN p (aO 2 2 BV)))) (ab (ah (.dct [] [])) af))) [oR q,none,none] Ω=.nx [oR q,oR Ω.length,none] e:=by
  rw[bq,dQ,aJ,bU,ai,bE,ai,ai,Q];rfl
 have s:=F.get _ _ E (by simp)
 have U:bG (aa 0) [oR q,oR Ω.length,none] e=.ok (.seq (.ref q)) e:=by
  rw[cf];exact bZ (by rw[aW,aP s])
 unfold Iu;rw[ae,T,aw,ae,de,U,bP];refine cp (R:=λr=>∃t h g au,iM (sq r _)=.ok (.ref t) au/\To BY au t h g (bare ks) (λn=>[n])/\ag [] Ω au) (ds:=ks.map .str) (λi o a=>∃u,o=[oR q,oR Ω.length,u]/\To BY a Ω.length h g (bare (ks.take i)) (λn=>[n])/\ag [] Ω a) ?_ ?_ ?_ fuel 0 _ _ (by unfold fuel;simp;omega) (Nat.zero_le _) ⟨none,rfl,by simpa[bare,en]using S,F⟩
 .rintro i o a ⟨_,_,_,K⟩
  rw[dc,aW,aP (K.get _ _ E (by simp))]
 .rintro i d o a V ⟨u,rfl,W,K⟩
  obtain⟨x,w,rfl⟩:=fj V;refine⟨[oR q,oR Ω.length,oS x],rfl,?_⟩;have G:ks.take (i+1)=ks.take i++[x]:=by rw[List.take_succ,w];rfl
  have hi:=(List.getElem?_eq_some_iff.mp w).1;have I:ag [] a (a++[Cell.lst []]):=ag.app;have X:(a++[Cell.lst []])[a.length]?=some (.lst []):=av;have Y:(mN bH af) [oR q,oR Ω.length,oS x] a=.ok (.ref a.length) (a++[Cell.lst []]):=by simp[aG]
  obtain⟨⟨f,b,j⟩,H,Z,hg,z,A⟩:=W;have W4:To BY (a++[Cell.lst []]) Ω.length h g (bare (ks.take i)) (λn=>[n]):=⟨⟨f,b,cw j⟩,H.keep I,Z,cw hg,z,A⟩
  generalize a++[Cell.lst []]=l at *;obtain⟨y,m,e5,W5,K5⟩:=Ir L W4 X (n:=x) (by rw[←G];exact List.Nodup.sublist (List.take_sublist _ _) M) (by simp;omega) (O x (List.mem_of_getElem? w))
  have rB:(ak (cA (fA (aD "Town" "add" (λB=>(aO 4 4 (BW c (aO 3 2 zi))) (B++[.non])) (aa 1) (ab (aa 2) (ab (mN bH af) af))) (aD "House" "add" c (aa 1) (ab (aa 2) (ab (mN bH af) af))))) aj) [oR q,oR Ω.length,oS x] a=.nx [oR q,oR Ω.length,oS x] m:=by
   have hm:(aD "Town" "add" (λB=>(aO 4 4 (BW c (aO 3 2 zi))) (B++[.non])) (aa 1) (ab (aa 2) (ab (mN bH af) af))) [oR q,oR Ω.length,oS x] a=.ok y m:=by
    rw[fZ (k:=Ω.length) (au:=a) rfl j rfl]
    have:(ab (aa 2) (ab (mN bH af) af):AM) [oR q,oR Ω.length,oS x] a=.ok [.str x,.ref a.length] l:=by
     have C:aa 2 [oR q,oR Ω.length,oS x] a=.ok (.str x) a:=rfl;rw[aJ,C,ai,aJ,Y];rfl
    rw[this,ai]
    show xT (aO 4 4 (BW c (aO 3 2 zi)) [.ref Ω.length,.str x,.ref a.length,.non] l)=_
    rw[e5];rfl
   rw[ae,cm,oB,hm];rfl
  rw[rB];refine⟨_,rfl,by rw[G];exact W5,ag.new (K.trans I) K5 (by simp;omega)⟩
 .rintro o a ⟨u,rfl,W,K⟩
  rw[List.length_map,List.take_length]at W;exact⟨Ω.length,h,g,a,rfl,W,K⟩
def ER:SM:=
 (ak (bf ["Shapes"] "rows" (aa 0) (mN bH (ab (mN hH af) af)))
 (ak (bf ["Shapes"] "numbers" (aa 0) (eZ (mN hH af) (ah (.int 0))))
 aj))
theorem ES:dO "Shapes" (aO 1 1 ER) [] Ω=.ok (.ref Ω.length) (Ω++[.ins "Shapes" [("rows",.ref (Ω.length+1)),("numbers",.ref (Ω.length+2))],.lst [.tup []],.dT [([],.int 0)]]):=by
 unfold dO;rw[aU (by rfl)]
 have b:aM 1 [D.ref Ω.length]=[oR Ω.length]:=rfl;rw[b]
 have c:bf ["Shapes"] "rows" (aa 0) (mN bH (ab (mN hH af) af)) [oR Ω.length] (Ω++[Cell.ins "Shapes" []])=.nx [oR Ω.length] (Ω++[.ins "Shapes" [("rows",.ref (Ω.length+1))],.lst [.tup []]]):=by
  have a:(mN bH (ab (mN hH af) af)) [oR Ω.length] (Ω++[Cell.ins "Shapes" []])=.ok (.ref (Ω.length+1)) (Ω++[.ins "Shapes" [],.lst [.tup []]]):=by
   simp[aG]
  rw[cU (y:=.ref (Ω.length+1)) (k:=Ω.length) a rfl av (by simp),dy];rfl
 have d:bf ["Shapes"] "numbers" (aa 0) (eZ (mN hH af) (ah (.int 0))) [oR Ω.length] (Ω++[Cell.ins "Shapes" [("rows",.ref (Ω.length+1))],.lst [.tup []]])=.nx [oR Ω.length] (Ω++[.ins "Shapes" [("rows",.ref (Ω.length+1)),("numbers",.ref (Ω.length+2))],.lst [.tup []],.dT [([],.int 0)]]):=by
  have a:(eZ (mN hH af) (ah (.int 0))) [oR Ω.length] (Ω++[Cell.ins "Shapes" [("rows",.ref (Ω.length+1))],.lst [.tup []]])=.ok (.ref (Ω.length+2)) (Ω++[.ins "Shapes" [("rows",.ref (Ω.length+1))],.lst [.tup []],.dT [([],.int 0)]]):=by
   have e:(Ω++[Cell.ins "Shapes" [("rows",.ref (Ω.length+1))],.lst [.tup []]]).length=Ω.length+2:=by simp
   have f:((Ω++[Cell.ins "Shapes" [("rows",.ref (Ω.length+1))],.lst [.tup []]])++[Cell.dT []])[(Ω++[Cell.ins "Shapes" [("rows",.ref (Ω.length+1))],.lst [.tup []]]).length]?=some (.dT []):=av;have g:(mN hH af) [oR Ω.length] ((Ω++[Cell.ins "Shapes" [("rows",.ref (Ω.length+1))],.lst [.tup []]])++[Cell.dT []])=.ok (.tup []) ((Ω++[Cell.ins "Shapes" [("rows",.ref (Ω.length+1))],.lst [.tup []]])++[Cell.dT []]):=by simp[aG]
   unfold eZ;rw[g,ai,bU,ai,f]
   show ax.ok _ (((Ω++[Cell.ins "Shapes" [("rows",.ref (Ω.length+1))],.lst [.tup []]])++[Cell.dT []]).set (Ω++[Cell.ins "Shapes" [("rows",.ref (Ω.length+1))],.lst [.tup []]]).length (.dT [([],.int 0)]))=_
   rw[dy,e];simp
  rw[cU (y:=.ref (Ω.length+2)) (k:=Ω.length) a rfl av (by simp),dy];rfl
 unfold ER;rw[ae,c,aw,ae,d,aw];rfl
def Iw(a:aL):SM:=
 (ak (bf ["Things"] "town" (aa 0) (aa 1))
 (ak (bf ["Things"] "shapes" (aa 0) (mN (dO "Shapes" a) af))
 (ak (bf ["Things"] "made" (aa 0) br)
 aj)))
theorem ET:∃s r m d au,dO "Things" (aO 2 2 (Iw (aO 1 1 ER))) [.ref t] Ω=.ok (.ref Ω.length) au/\Tn au Ω.length t s r m d [] [[]]/\ag [] Ω au:=by
 unfold dO;rw[aU (by rfl)]
 have b:aM 2 [D.ref Ω.length,.ref t]=[oR Ω.length,oR t]:=rfl;rw[b]
 have c:bf ["Things"] "town" (aa 0) (aa 1) [oR Ω.length,oR t] (Ω++[Cell.ins "Things" []])=.nx [oR Ω.length,oR t] (Ω++[.ins "Things" [("town",.ref t)]]):=by
  rw[cU (y:=.ref t) (k:=Ω.length) rfl rfl av (by simp),dy];rfl
 have e:bf ["Things"] "shapes" (aa 0) (mN (dO "Shapes" (aO 1 1 ER)) af) [oR Ω.length,oR t] (Ω++[.ins "Things" [("town",.ref t)]])=.nx [oR Ω.length,oR t] (Ω++[.ins "Things" [("town",.ref t),("shapes",.ref (Ω.length+1))],.ins "Shapes" [("rows",.ref (Ω.length+2)),("numbers",.ref (Ω.length+3))],.lst [.tup []],.dT [([],.int 0)]]):=by
  have a:=ES (Ω:=Ω++[.ins "Things" [("town",.ref t)]]);simp only[List.length_append,List.length_singleton,List.append_assoc,List.singleton_append,Nat.add_assoc]at a;rw[cU (y:=.ref (Ω.length+1)) (k:=Ω.length) a rfl av (by simp),dy];rfl
 have f:bf ["Things"] "made" (aa 0) br [oR Ω.length,oR t] (Ω++[.ins "Things" [("town",.ref t),("shapes",.ref (Ω.length+1))],.ins "Shapes" [("rows",.ref (Ω.length+2)),("numbers",.ref (Ω.length+3))],.lst [.tup []],.dT [([],.int 0)]])=.nx [oR Ω.length,oR t] (Ω++[.ins "Things" [("town",.ref t),("shapes",.ref (Ω.length+1)),("made",.ref (Ω.length+4))],.ins "Shapes" [("rows",.ref (Ω.length+2)),("numbers",.ref (Ω.length+3))],.lst [.tup []],.dT [([],.int 0)],.dK []]):=by
  have a:br [oR Ω.length,oR t] (Ω++[.ins "Things" [("town",.ref t),("shapes",.ref (Ω.length+1))],.ins "Shapes" [("rows",.ref (Ω.length+2)),("numbers",.ref (Ω.length+3))],.lst [.tup []],.dT [([],.int 0)]])=.ok (.ref (Ω.length+4)) (Ω++[.ins "Things" [("town",.ref t),("shapes",.ref (Ω.length+1))],.ins "Shapes" [("rows",.ref (Ω.length+2)),("numbers",.ref (Ω.length+3))],.lst [.tup []],.dT [([],.int 0)],.dK []]):=by
   simp[br]
  rw[cU (y:=.ref (Ω.length+4)) (k:=Ω.length) a rfl av (by simp),dy];rfl
 refine⟨Ω.length+1,Ω.length+2,Ω.length+3,Ω.length+4,Ω++[.ins "Things" [("town",.ref t),("shapes",.ref (Ω.length+1)),("made",.ref (Ω.length+4))],.ins "Shapes" [("rows",.ref (Ω.length+2)),("numbers",.ref (Ω.length+3))],.lst [.tup []],.dT [([],.int 0)],.dK []],?_,⟨av,?_,⟨?_,?_,?_⟩,by simp,by omega⟩,ag.app⟩
 .unfold Iw
  rw[ae,c,aw,ae,e,aw,ae,f,aw];rfl
 all_goals
  rw[List.getElem?_append_right (by omega)]
  simp[tS,nums,kS]
end
section
variable{Ω au:az}{ρ:aV}{F:List D->Out Rs}{μ:Int->Int->Int->Int}{c:Int}{m:Nat}{S:Str}
def BZ(i j:Nat):EM:=(m2 (aY .Add) (eu (aa i) false (aa j) true (ah .non)) (eu (aa i) true (ah .non) false (aa j)))
theorem yZ{i j q t:Nat}{ws:List Str}(h:ρ[i]?=some (oR q))(l:ρ[j]?=some (oI t))(g:Ω[q]?=some (.lst (ws.map .str)))(u:ws.length<=1000):∃k au,BZ i j ρ Ω=.ok (.ref k) au/\au[k]?=some (.lst ((ws.drop t++ws.take t).map .str))/\ag [] Ω au/\Ω.length<=k:=by
 have m:=Et (i:=t) g;have o:(Ω++[Cell.lst ((ws.drop t).map .str)])[Ω.length]?=some (.lst ((ws.drop t).map .str)):=av;have c:ag [] Ω (Ω++[Cell.lst ((ws.drop t).map .str)]):=ag.app;have d:=c.get _ _ g (by simp)
 generalize Ω++[Cell.lst ((ws.drop t).map .str)]=a at *;have p:=oK (n:=t) d;have r:(a++[Cell.lst ((ws.take t).map .str)])[a.length]?=some (.lst ((ws.take t).map .str)):=av;have e:ag [] a (a++[Cell.lst ((ws.take t).map .str)]):=ag.app;have f:=e.get _ _ o (by simp)
 generalize a++[Cell.lst ((ws.take t).map .str)]=b at *;have s:=i8 f r (by simp;omega)
 refine⟨b.length,b++[.lst ((ws.drop t).map .str++(ws.take t).map .str)],?_,by rw[List.map_append];exact av,(c.trans e).trans ag.app,(c.trans e).len⟩
 unfold BZ;simp only[bK,iX,eD,h,l,eB,ai,oH,oG,uh,m,p,s]
theorem qG{t:Nat}(ws:List Str):(ws.drop t++ws.take t).Perm ws:=by
 have:=(List.perm_append_comm (l₁:=ws.drop t) (l₂:=ws.take t));rwa[List.take_append_drop]at this
def sD(S:Str):Prop:=S.cps.toList.length=8/\∀x∈S.cps.toList,97<=x/\x<=122
theorem EU(a b c d e f g h:Nat):rq .join (.str "") (.tup [.lst [.str (ay a),.str (ay b),.str (ay c),.str (ay d),.str (ay e),.str (ay f),.str (ay g),.str (ay h)]])=.ok (false,.str ⟨#[a,b,c,d,e,f,g,h]⟩):=rfl
def Ss(F:List D->Out Rs):EM:=(cJ (m2 aC (aa 2) (mN (di F) (ab (aa 1) (ab (aa 0) (ab (ah (.int 26)) af))))) true (ah .non) (dW (ab (ah (.int 8)) af)) 0 [0,2])
def Lo(F:List D->Out Rs):EM:=(cE pY pZ (ah (.str "")) (ab (Ss F) af))
theorem EV(a:jK μ F)(o:ej [0,2] ρ=[oI c,oS abc]):∃S au,Lo F ρ Ω=.ok (.str S) au/\sD S/\ag [] Ω au:=by
 have b:jk 8=true:=e8 (by omega) (by omega)
 have h:=cZ (Ω:=Ω) (au:=Ω) (ρ:=ρ) (me:=m2 aC (aa 2) (mN (di F) (ab (aa 1) (ab (aa 0) (ab (ah (.int 26)) af))))) (nc:=true) (mc:=ah .non) (mi:=dW (ab (ah (.int 8)) af)) (cap:=[0,2]) (src:=.ints 0 8) (ds:=intsFrom 0 8) (p:=λ_=>true)
  (g:=λd=>match d with|.int j=>.str (ay (97+(μ c j 26).toNat))|_=>.non) (by simp[b]) rfl (λd f=>rfl) (λd f _=>by
   obtain⟨i,r⟩:=List.mem_iff_getElem?.mp f;obtain⟨rfl,s⟩:=fU r;obtain⟨k,m,q⟩:=a c (0+(i:Int)) 26 (by omega) (by omega) (by omega)
   generalize (0:Int)+(i:Int)=j at *;have e:=oA k m;rw[o];simp[q,e]) (by rw[dP];omega)
 rw[List.filter_eq_self.mpr (by simp)]at h
 have t:∀j:Int,0<=j->j<100000->97<=97+(μ c j 26).toNat/\97+(μ c j 26).toNat<=122:=λj u w=>by
  obtain⟨k,m,_⟩:=a c j 26 u w (by omega)
  omega
 refine⟨⟨#[97+(μ c (0+0) 26).toNat,97+(μ c (0+1) 26).toNat,97+(μ c (0+2) 26).toNat,97+(μ c (0+3) 26).toNat,97+(μ c (0+4) 26).toNat,97+(μ c (0+5) 26).toNat,97+(μ c (0+6) 26).toNat,97+(μ c (0+7) 26).toNat]⟩,_,?_,?_,ag.app (l:=[.lst ((intsFrom 0 8).map λd=>match d with|.int j=>.str (ay (97+(μ c j 26).toNat))|_=>.non)])⟩
 .unfold Lo
  rw[jw (x:=.str "") (au:=Ω) rfl rfl]
  have y:et (Ω++[.lst ((intsFrom 0 8).map λd=>match d with|.int j=>.str (ay (97+(μ c j 26).toNat))|_=>.non)]) 8 (.ref Ω.length)=some (.lst [.str (ay (97+(μ c (0+0) 26).toNat)),.str (ay (97+(μ c (0+1) 26).toNat)),.str (ay (97+(μ c (0+2) 26).toNat)),.str (ay (97+(μ c (0+3) 26).toNat)),.str (ay (97+(μ c (0+4) 26).toNat)),.str (ay (97+(μ c (0+5) 26).toNat)),.str (ay (97+(μ c (0+6) 26).toNat)),.str (ay (97+(μ c (0+7) 26).toNat))]):=
   ki av rfl
  unfold Ss;rw[aJ,h];simp only[ai,bE,pZ,iS,gZ,y,kj,EU,By]
 .refine⟨rfl,λx n=>?_⟩
  simp only[List.mem_cons,List.not_mem_nil,or_false]at n;rcases n with rfl|rfl|rfl|rfl|rfl|rfl|rfl|rfl<;>exact t _ (by omega) (by omega)
noncomputable def jb(S:Str)(i:Nat):Str:=⟨(S.cps.toList.take (i+1)).toArray⟩
theorem Iy(h:sD S){i:Nat}(b:i<8):iv (jb S i):=by
 have c:(jb S i).length=i+1:=by
  show(S.cps.toList.take (i+1)).toArray.size=_
  have:=h.1;rw[List.size_toArray,List.length_take];omega
 refine⟨by omega,by omega,λx a=>h.2 x (List.mem_of_mem_take (i:=i+1) ?_)⟩
 have:(jb S i).cps.toList=S.cps.toList.take (i+1):=rfl;rwa[this]at a
theorem EW(h:sD S)(i:m<=8):((List.range m).map (jb S)).Nodup:=by
 refine List.pairwise_map.mpr (List.Pairwise.imp_of_mem (λ{a b} d e c f=>c ?_) (List.nodup_range (n:=m)))
 have j:=List.mem_range.mp d;have k:=List.mem_range.mp e;have l:=h.1;have g:=congrArg (λz:Str=>z.cps.toList.length) f
 simp only[jb,List.length_take]at g;omega
def Nv:EM:=(cJ (eu (aa 1) true (ah .non) false (m2 (aY .Add) (aa 0) (ah (.int 1)))) true (ah .non) (dW (ab (aa 1) af)) 0 [3])
theorem EX(h:sD S)(r:m<=14)(k:ej [3] ρ=[oS S])(l:ρ[1]?=some (oI m)):Nv ρ Ω=.ok (.ref Ω.length) (Ω++[.lst (((List.range m).map (jb S)).map .str)]):=by
 have a:jk (m:Int)=true:=e8 (by omega) (by omega)
 have n:S.length=8:=by simpa[Str.length]using h.1
 have b:small S.length=true:=aG (by omega)
 have c:=cZ (Ω:=Ω) (au:=Ω) (ρ:=ρ) (me:=eu (aa 1) true (ah .non) false (m2 (aY .Add) (aa 0) (ah (.int 1)))) (nc:=true) (mc:=ah .non) (mi:=dW (ab (aa 1) af)) (cap:=[3]) (src:=.ints 0 m) (ds:=intsFrom 0 m) (p:=λ_=>true)
  (g:=λd=>match d with|.int j=>.str ⟨(dz S.cps.toList none (some (j+1))).toArray⟩|_=>.non) (by simp[a,l]) rfl (λd f=>rfl) (λd f _=>by
   obtain⟨i,o⟩:=List.mem_iff_getElem?.mp f;obtain⟨rfl,q⟩:=fU o;generalize (0:Int)+(i:Int)=j;rw[k];simp[b]) (by rw[dP];omega)
 rw[List.filter_eq_self.mpr (by simp),mY,List.map_map]at c
 have e:((List.range m).map ((λd:D=>match d with|.int j=>D.str ⟨(dz S.cps.toList none (some (j+1))).toArray⟩|_=>.non) ∘ λ(i:Nat)=>D.int i))=((List.range m).map (jb S)).map .str:=by
  rw[List.map_map];refine List.map_congr_left λi _=>?_
  show D.str ⟨(dz S.cps.toList none (some ((i:Int)+1))).toArray⟩=.str (jb S i)
  rw[show(i:Int)+1=((i+1:Nat):Int)by omega,sk]
  rfl
 rw[e]at c;exact c
def sgn(f st:Int)(i:Nat):Nat:=97+((f+st*(i:Int))%26).toNat
def Nw:EM:=(cJ (m2 aC (aa 2) (m2 (aY .Mod) (m2 (aY .Add) (aa 1) (m2 (aY .Mult) (aa 3) (aa 0))) (ah (.int 26)))) true (ah .non) (dW (ab (aa 1) af)) 0 [9,2,10])
theorem EY{f st:Int}(k:1<=st)(u:st<26)(w:m<=14)(l:ej [9,2,10] ρ=[oI f,oS abc,oI st])(n:ρ[1]?=some (oI m)):Nw ρ Ω=.ok (.ref Ω.length) (Ω++[.lst (((List.range m).map λi=>ay (sgn f st i)).map .str)]):=by
 have a:jk (m:Int)=true:=e8 (by omega) (by omega)
 have o:jj st=true:=iR (by omega) (by omega)
 have b:=cZ (Ω:=Ω) (au:=Ω) (ρ:=ρ) (me:=m2 aC (aa 2) (m2 (aY .Mod) (m2 (aY .Add) (aa 1) (m2 (aY .Mult) (aa 3) (aa 0))) (ah (.int 26)))) (nc:=true) (mc:=ah .non) (mi:=dW (ab (aa 1) af)) (cap:=[9,2,10]) (src:=.ints 0 m) (ds:=intsFrom 0 m) (p:=λ_=>true)
  (g:=λd=>match d with|.int j=>.str (ay (97+((f+st*j)%26).toNat))|_=>.non) (by simp[a,n]) rfl (λd h=>rfl) (λd h _=>by
   obtain⟨i,r⟩:=List.mem_iff_getElem?.mp h;obtain⟨rfl,s⟩:=fU r;generalize x:(0:Int)+(i:Int)=j;have t:jj j=true:=iR (by omega) (by omega)
   have c:=oA (q:=(f+st*j)%26) (by omega) (by omega)
   rw[l];simp[o,t,c]) (by rw[dP];omega)
 rw[List.filter_eq_self.mpr (by simp),mY,List.map_map]at b
 have e:((List.range m).map ((λd:D=>match d with|.int j=>D.str (ay (97+((f+st*j)%26).toNat))|_=>.non) ∘ λ(i:Nat)=>D.int i))=((List.range m).map λi=>ay (sgn f st i)).map .str:=by
  rw[List.map_map];exact List.map_congr_left λi _=>rfl
 rw[e]at b;exact b
noncomputable def sE(S:Str)(a pl:Nat)(z:Str):Str:=((⟨(S.cps.toList.take pl).toArray⟩:Str)++z)++(⟨((S.cps.toList.drop (pl+1)).take (a - (pl+1))).toArray⟩:Str)
theorem sF{a pl:Nat}{c:Nat}:(sE S a pl (ay c)).cps.toList=(S.cps.toList.take pl++[c])++(S.cps.toList.drop (pl+1)).take (a - (pl+1)):=by
 unfold sE;rw[Str.cps_append,Str.cps_append];simp[ay]
theorem Nx(h:sD S){a pl:Nat}{c:Nat}(hz:a<=8)(d:pl<a)(b:97<=c/\c<=122):iv (sE S a pl (ay c)):=by
 have e:=h.1
 have f:(sE S a pl (ay c)).length=a:=by
  have:(sE S a pl (ay c)).length=(sE S a pl (ay c)).cps.toList.length:=by simp[Str.length]
  rw[this,sF];simp only[List.length_append,List.length_take,List.length_drop,List.length_singleton];omega
 refine⟨by omega,by omega,λx hx=>?_⟩
 rw[sF]at hx;simp only[List.mem_append,List.mem_singleton]at hx;rcases hx with (hx|rfl)|hx
 .exact h.2 x (List.mem_of_mem_take hx)
 .exact b
 .exact h.2 x (List.mem_of_mem_drop (List.mem_of_mem_take hx))
theorem Iz(h:sD S){e pl:Nat}{f st:Int}(r:m<=14)(g:st=1\/st=3\/st=5\/st=7):((List.range m).map λi=>sE S e pl (ay (sgn f st i))).Nodup:=by
 refine List.pairwise_map.mpr (List.Pairwise.imp_of_mem (λ{a b} j k c l=>c ?_) (List.nodup_range (n:=m)))
 have s:=List.mem_range.mp j;have t:=List.mem_range.mp k;have d:=congrArg (λz:Str=>z.cps.toList) l
 simp only[sF]at d;have o:=List.append_cancel_right d;have p:=List.append_cancel_left o;have q:sgn f st a=sgn f st b:=by simpa using p
 unfold sgn at q;rcases g with rfl|rfl|rfl|rfl<;>omega
def Su:EM:=(cJ (m2 (aY .Add) (m2 (aY .Add) (eu (aa 3) true (ah .non) false (aa 2)) (aa 0)) (eu (aa 3) false (m2 (aY .Add) (aa 2) (ah (.int 1))) false (aa 1))) true (ah .non) (bG (aa 11)) 0 [7,8,3])
theorem EZ(h:sD S){a pl q:Nat}{b:List Nat}(hz:a<=8)(y:pl<a)(n:Ω[q]?=some (.lst ((b.map ay).map .str)))(A:b.length<=1000)(r:ej [7,8,3] ρ=[oI a,oI pl,oS S])(s:ρ[11]?=some (oR q)):Su ρ Ω=.ok (.ref Ω.length) (Ω++[.lst ((b.map λc=>sE S a pl (ay c)).map .str)]):=by
 have t:S.length=8:=by simpa[Str.length]using h.1
 have f:small S.length=true:=aG (by omega)
 have B:=h.1
 have j:=cZ (Ω:=Ω) (au:=Ω) (ρ:=ρ) (me:=m2 (aY .Add) (m2 (aY .Add) (eu (aa 3) true (ah .non) false (aa 2)) (aa 0)) (eu (aa 3) false (m2 (aY .Add) (aa 2) (ah (.int 1))) false (aa 1))) (nc:=true) (mc:=ah .non) (mi:=bG (aa 11)) (cap:=[7,8,3]) (src:=.seq (.ref q)) (ds:=(b.map ay).map .str) (p:=λ_=>true)
  (g:=λd=>match d with|.str z=>.str (sE S a pl z)|_=>.non) (by
   rw[cf,eD,s,eB,ai];exact bZ (by rw[aW,aP n])) (by rw[dc,aW,aP n]) (λd o=>rfl) (λd o _=>by
   obtain⟨z,k,rfl⟩:=List.mem_map.mp o;obtain⟨c,_,rfl⟩:=List.mem_map.mp k;have u:dz S.cps.toList none (some (pl:Int))=S.cps.toList.take pl:=sk _ _
   have x:dz S.cps.toList (some ((pl:Int)+1)) (some (a:Int))=(S.cps.toList.drop (pl+1)).take (a - (pl+1)):=by
    rw[show(pl:Int)+1=((pl+1:Nat):Int)by omega,yp]
   have one:(ay c).length=1:=rfl
   have C:(⟨(S.cps.toList.take pl).toArray⟩:Str).length<=8:=by
    show(S.cps.toList.take pl).toArray.size<=8
    rw[List.size_toArray,List.length_take];omega
   have E:(⟨((S.cps.toList.drop (pl+1)).take (a - (pl+1))).toArray⟩:Str).length<=8:=by
    show((S.cps.toList.drop (pl+1)).take (a - (pl+1))).toArray.size<=8
    rw[List.size_toArray,List.length_take];omega
   have l:small ((⟨(S.cps.toList.take pl).toArray⟩:Str).length+(ay c).length)=true:=aG (by omega)
   have m:small (((⟨(S.cps.toList.take pl).toArray⟩:Str)++ay c).length+(⟨((S.cps.toList.drop (pl+1)).take (a - (pl+1))).toArray⟩:Str).length)=true:=aG (by rw[Str.length_append];omega)
   generalize F:ay c=w at *;rw[r];simp[f,u,x,l,m,sE]) (by simp;omega)
 rw[List.filter_eq_self.mpr (by simp),List.map_map,List.map_map]at j
 have e:(b.map (((λd:D=>match d with|.str z=>D.str (sE S a pl z)|_=>.non) ∘ D.str) ∘ ay))=(b.map λc=>sE S a pl (ay c)).map .str:=by
  rw[List.map_map];exact List.map_congr_left λi _=>rfl
 rw[e]at j;exact j
def Ny:SM:=(ak (aH 3 (m2 (aY .Add) (aa 3) (mN bH (ab (m2 (aY .Add) (m2 aC (aa 3) (aa 4)) (aa 0)) (ab (m2 (aY .Add) (m2 aC (aa 3) (aa 4)) (aa 1)) af)))))
 aj)
def E8:SM:=
 (ak (aH 3 (mN bH (ab (aa 0) (ab (aa 1) af))))
 (ak (ek (cP 4) (dW (ab (aa 2) af)) Ny)
 (ak (bD (eu (aa 3) true (ah .non) false (aa 2)))
 aj)))
structure ID(a b:Str)(i:Nat)(xs:List Str):Prop where
 len:xs.length=2+2*i
 bd:∀(j:Nat) (z:Str),xs[j]?=some z->1<=z.length/\z.length<=j / 2+1/\∀c∈z.cps.toList,97<=c/\c<=122
 rp:∀(j:Nat) (z:Str),xs[j]?=some z->z.length<=1\/∃q y,q<i/\xs[q]?=some y/\(z=y++a\/z=y++b)
 nd:xs.Nodup
theorem add_str{z a:Str}(h:z.length+a.length<=1000):aY .Add (.str z) (.str a) Ω=.ok (.str (z++a)) Ω:=by
 have:small (z.length+a.length)=true:=aG (by omega)
 simp[this]
theorem one_inj{z y:Str}{u v:Nat}(h:z++ay u=y++ay v):z=y/\u=v:=by
 have a:=congrArg (λz:Str=>z.cps.toList) h
 simp only[Str.cps_append,ay,Array.toList_append]at a;have b:=List.append_inj' a rfl;obtain⟨z⟩:=z;obtain⟨y⟩:=y;have c:z=y:=Array.toList_inj.mp b.1;subst c;exact⟨rfl,by simpa using b.2⟩
theorem ID.step{x y i:Nat}{xs:List Str}{z:Str}(B:97<=x/\x<=122)(C:97<=y/\y<=122)(o:x≠y)(h:ID (ay x) (ay y) i xs)(hz:xs[i]?=some z):ID (ay x) (ay y) (i+1) (xs++[z++ay x,z++ay y]):=by
 have n:=h.bd i z hz;have G:=h.len;have s:∀u,(z++ay u).length=z.length+1:=λu=>by rw[Str.length_append];rfl
 have g:∀(u:Nat),97<=u/\u<=122->1<=(z++ay u).length/\(z++ay u).length<=i / 2+2/\∀c∈(z++ay u).cps.toList,97<=c/\c<=122:=by
  intro u H;have:=s u;refine⟨by omega,by omega,λc hc=>?_⟩
  rw[Str.cps_append]at hc;simp only[ay,Array.toList_append,List.mem_append]at hc;rcases hc with hc|hc
  .exact n.2.2 c hc
  .simp at hc
   omega
 have k:∀u,(z++ay u)∉xs:=by
  intro u D;obtain⟨j,d⟩:=List.mem_iff_getElem?.mp D;rcases h.rp j _ d with h1|⟨q,w,l,t,h1⟩
  .have:=s u;omega
  .have E:z=w:=by rcases h1 with h1|h1<;>exact(one_inj h1).1
   subst E;have:=(List.getElem?_inj (List.getElem?_eq_some_iff.mp t).1 h.nd).mp (t.trans hz.symm);omega
 have p:z++ay x≠z++ay y:=λe=>o (one_inj e).2
 refine⟨by simp;omega,λj w d=>?_,λj w d=>?_,?_⟩
 .by_cases f:j<xs.length
  .rw[List.getElem?_append_left f]at d
   exact h.bd j w d
  .rw[List.getElem?_append_right (by omega)]at d
   obtain⟨q,l⟩:∃q,j - xs.length=q:=⟨_,rfl⟩;rw[l]at d
   match q,d with
   |0,d=>cases d;have:=g x B;exact⟨this.1,by omega,this.2.2⟩
   |1,d=>cases d;have:=g y C;exact⟨this.1,by omega,this.2.2⟩
 .have m:(xs++[z++ay x,z++ay y])[i]?=some z:=by rw[List.getElem?_append_left (by omega)];exact hz
  by_cases f:j<xs.length
  .rw[List.getElem?_append_left f]at d
   rcases h.rp j w d with h1|⟨q,F,l,r,h1⟩
   .exact .inl h1
   .exact .inr ⟨q,F,by omega,by rw[List.getElem?_append_left (by omega)];exact r,h1⟩
  .rw[List.getElem?_append_right (by omega)]at d
   obtain⟨q,l⟩:∃q,j - xs.length=q:=⟨_,rfl⟩;rw[l]at d
   match q,d with
   |0,d=>cases d;exact .inr ⟨i,z,by omega,m,.inl rfl⟩
   |1,d=>cases d;exact .inr ⟨i,z,by omega,m,.inr rfl⟩
 .refine List.nodup_append.mpr ⟨h.nd,by simp[p],λa A b n e=>?_⟩
  subst e;simp only[List.mem_cons,List.not_mem_nil,or_false]at n;rcases n with rfl|rfl
  .exact k x A
  .exact k y A
def CS(d:aL):Prop:=∀(c:az) (x y m:Nat),97<=x/\x<=122->97<=y/\y<=122->x≠y->m<=14->∃(b:List Str) (q:Nat) (a:az),d [.str (ay x),.str (ay y),.int m] c=.ok (.ref q) a/\a[q]?=some (.lst (b.map .str))/\b.length=m/\(∀z∈b,iv z)/\b.Nodup/\ag [] c a
theorem E9:CS (aO 5 3 E8):=by
 intro Ω x y m J L o hm;rw[aU (by rfl)]
 have M:aM 5 [D.str (ay x),.str (ay y),.int m]=[oS (ay x),oS (ay y),oI m,none,none]:=rfl;rw[M];have N:(Ω++[Cell.lst [.str (ay x),.str (ay y)]])[Ω.length]?=some (.lst (([ay x,ay y]:List Str).map .str)):=av;have O:ag [] Ω (Ω++[Cell.lst [.str (ay x),.str (ay y)]]):=ag.app;have P:(aH 3 (mN bH (ab (aa 0) (ab (aa 1) af)))) [oS (ay x),oS (ay y),oI m,none,none] Ω=.nx [oS (ay x),oS (ay y),oI m,oR Ω.length,none] (Ω++[Cell.lst [.str (ay x),.str (ay y)]]):=by simp[aG]
 generalize Ω++[Cell.lst [.str (ay x),.str (ay y)]]=p at *
 have Q:ID (ay x) (ay y) 0 [ay x,ay y]:=by
  have one:∀u,(ay u).length=1:=λu=>rfl
  have B:ay x≠ay y:=λe=>o (by
   have:=congrArg (λz:Str=>z.cps.toList) e
   simpa[ay]using this)
  refine⟨rfl,λj z f=>?_,λj z f=>?_,by simp[B]⟩
  .match j,f with
   |0,f=>cases f;refine⟨by rw[one];omega,by rw[one];omega,λc s=>by simp[ay]at s;omega⟩
   |1,f=>cases f;refine⟨by rw[one];omega,by rw[one];omega,λc s=>by simp[ay]at s;omega⟩
  .match j,f with
   |0,f=>cases f;exact .inl (by rw[one];omega)
   |1,f=>cases f;exact .inl (by rw[one];omega)
 have C:jk (m:Int)=true:=e8 (by omega) (by omega)
 have E:dW (ab (aa 2) af) [oS (ay x),oS (ay y),oI m,oR Ω.length,none] p=.ok (.ints 0 m) p:=by simp[C]
 unfold E8;rw[ae,P,aw,ae,de,E,bP];refine cp (R:=λr=>∃(xs:List Str) (q:Nat) (h:az),iM (sq r _)=.ok (.ref q) h/\h[q]?=some (.lst (xs.map .str))/\xs.length=m/\(∀z∈xs,iv z)/\xs.Nodup/\ag [] Ω h) (ds:=intsFrom 0 m) (λi w b=>∃(q:Nat) (xs:List Str) (F:Option D),w=[oS (ay x),oS (ay y),oI m,oR q,F]/\b[q]?=some (.lst (xs.map .str))/\ID (ay x) (ay y) i xs/\ag [] Ω b) ?_ ?_ ?_ fuel 0 _ _ (by rw[dP];unfold fuel;omega) (Nat.zero_le _) ⟨_,_,none,rfl,N,Q,O⟩
 .rintro i w b _
  rfl
 .rintro i d w b S ⟨q,xs,F,rfl,A,g,K⟩
  obtain⟨rfl,T⟩:=fU S;refine⟨[oS (ay x),oS (ay y),oI m,oR q,oI (0+(i:Int))],rfl,?_⟩;rw[Int.zero_add];have U:=g.len;obtain⟨z,t⟩:∃z,xs[i]?=some z:=⟨xs[i],List.getElem?_eq_getElem (by omega)⟩
  have G:=g.bd i z t;have H:=bL A (L2.dI (xs:=xs.map D.str) (j:=i) (v:=.str z) (by simp[t]))
  have one:∀u,(ay u).length=1:=λu=>rfl
  have V:=add_str (Ω:=b) (z:=z) (a:=ay x) (by rw[one];omega)
  have X:=add_str (Ω:=b) (z:=z) (a:=ay y) (by rw[one];omega)
  have Y:(mN bH (ab (m2 (aY .Add) (m2 aC (aa 3) (aa 4)) (aa 0)) (ab (m2 (aY .Add) (m2 aC (aa 3) (aa 4)) (aa 1)) af))) [oS (ay x),oS (ay y),oI m,oR q,oI i] b=.ok (.ref b.length) (b++[.lst [.str (z++ay x),.str (z++ay y)]]):=by
   simp[H,V,X,-iT,aG]
  have Z:(b++[Cell.lst [.str (z++ay x),.str (z++ay y)]])[b.length]?=some (.lst [.str (z++ay x),.str (z++ay y)]):=av;have I:=cw (l:=[Cell.lst [.str (z++ay x),.str (z++ay y)]]) A;have K4:ag [] b (b++[Cell.lst [.str (z++ay x),.str (z++ay y)]]):=ag.app;generalize b++[Cell.lst [.str (z++ay x),.str (z++ay y)]]=k at *;have s:=i8 I Z (by simp;omega)
  have rB:Ny [oS (ay x),oS (ay y),oI m,oR q,oI i] b=.nx [oS (ay x),oS (ay y),oI m,oR k.length,oI i] (k++[.lst (xs.map .str++[.str (z++ay x),.str (z++ay y)])]):=by
   unfold Ny;rw[ae,bq,bK];have:aa 3 [oS (ay x),oS (ay y),oI m,oR q,oI i] b=.ok (.ref q) b:=rfl;rw[this,ai,Y,ai,s];rfl
  rw[rB];refine⟨k.length,xs++[z++ay x,z++ay y],_,rfl,?_,g.step J L o t,(K.trans K4).trans ag.app⟩;rw[List.map_append];exact av
 .rintro w b ⟨q,xs,F,rfl,A,g,K⟩
  rw[dP]at g;have E:=oK (n:=m) A;have U:=g.len;refine⟨xs.take m,b.length,b++[.lst ((xs.take m).map .str)],?_,av,by rw[List.length_take];omega,λz t=>?_,List.Nodup.sublist (List.take_sublist _ _) g.nd,K.trans ag.app⟩
  .rw[aw,ae,b_]
   simp only[iX,oG,oH]
   show iM (sq (cu (oh (.ref q) none (some (m:Int)) b) _) _)=_
   rw[E];rfl
  .obtain⟨j,f⟩:=List.mem_iff_getElem?.mp t
   rw[List.getElem?_take]at f;split at f
   .have G:=g.bd j z f
    exact⟨G.1,by omega,G.2.2⟩
   .cases f
theorem B8:∀c,97<=c->c<=122->Builtin.Str.occurrences abc (ay c) 0 abc.length 1=[c - 97]:=by
 have h:∀q,q<26->Builtin.Str.occurrences abc (ay (97+q)) 0 abc.length 1=[q]:=by decide +kernel
 intro c a b;have:=h (c - 97) (by omega)
 rwa[show 97+(c - 97)=c by omega]at this
def FO(F:List D->Out Rs):SM:=(dG (fC (m2 (aB .LtE) (aa 1) (ah (.int 8))) (m2 (aB .Eq) (mN (di F) (ab (aa 0) (ab (ah (.int 9)) (ab (ah (.int 4)) af)))) (ah (.int 1))))
 (ak (aH 5 Nv)
 (ak (bD (BZ 5 4))
 aj))
 aj)
def Lp(F:List D->Out Rs):EM:=(m2 aC (aa 2) (m2 (aY .Mod) (m2 (aY .Add) (m2 (aY .Add) (fA (cE kf fg (aa 2) (ab (m2 aC (aa 3) (ah (.int 0))) af)) (cE pY iN (aa 2) (ab (m2 aC (aa 3) (ah (.int 0))) af))) (ah (.int 1))) (mN (di F) (ab (aa 0) (ab (ah (.int 10)) (ab (ah (.int 25)) af))))) (ah (.int 26))))
def Lq(F:List D->Out Rs)(a:aL):SM:=(dG (m2 (aB .Eq) (mN (di F) (ab (aa 0) (ab (ah (.int 9)) (ab (ah (.int 4)) af)))) (ah (.int 2)))
 (ak (aH 6 (Lp F))
 (ak (aH 5 (mN (ba a) (ab (m2 aC (aa 3) (ah (.int 0))) (ab (aa 6) (ab (aa 1) af)))))
 (ak (bD (BZ 5 4))
 aj)))
 aj)
def Nz(F:List D->Out Rs)(a:aL):SM:=
 (ak (aH 2 (ah (.str "abcdefghijklmnopqrstuvwxyz")))
 (ak (aH 3 (Lo F))
 (ak (aH 4 (mN (di F) (ab (aa 0) (ab (ah (.int 8)) (ab (aa 1) af)))))
 (ak (FO F)
 (ak (Lq F a)
 (ak (aH 7 (m2 (aY .Add) (ah (.int 1)) (mN (di F) (ab (aa 0) (ab (ah (.int 10)) (ab (ah (.int 8)) af))))))
 (ak (aH 8 (mN (di F) (ab (aa 0) (ab (ah (.int 11)) (ab (aa 7) af)))))
 (ak (aH 9 (mN (di F) (ab (aa 0) (ab (ah (.int 12)) (ab (ah (.int 26)) af)))))
 (ak (aH 10 (m2 aC (mN bH (ab (ah (.int 1)) (ab (ah (.int 3)) (ab (ah (.int 5)) (ab (ah (.int 7)) af))))) (mN (di F) (ab (aa 0) (ab (ah (.int 13)) (ab (ah (.int 4)) af))))))
 (ak (aH 11 Nw)
 (ak (bD Su)
 aj)))))))))))
def B9(N:aL):Prop:=∀(d:az) (c:Int) (m:Nat),1<=m->m<=14->∃(b:List Str) (q:Nat) (a:az),b.Nodup/\(∀x∈b,iv x)/\b.length=m/\N [.int c,.int m] d=.ok (.ref q) a/\a[q]?=some (.lst (b.map .str))/\ag [] d a
theorem IE(l:jK μ F){U:aL}(hS:CS U):B9 (aO 12 2 (Nz F U)):=by
 intro Ω c m m0 V;rw[aU (by rfl)]
 have e0:aM 12 [D.int c,.int m]=[oI c,oI m,none,none,none,none,none,none,none,none,none,none]:=rfl;rw[e0];obtain⟨t0,t1,ht⟩:=l c 8 (m:Int) (by omega) (by omega) (by omega)
 obtain⟨w0,w1,I⟩:=l c 9 4 (by omega) (by omega) (by omega)
 obtain⟨z0,z1,hz⟩:=l c 10 8 (by omega) (by omega) (by omega)
 obtain⟨y0,y1,Y⟩:=l c 10 25 (by omega) (by omega) (by omega)
 generalize μ c 8 (m:Int)=t at *;generalize μ c 9 4=w at *;generalize μ c 10 8=z at *;generalize μ c 10 25=y at *;obtain⟨p0,p1,hp⟩:=l c 11 (1+z) (by omega) (by omega) (by omega)
 obtain⟨f0,f1,hf⟩:=l c 12 26 (by omega) (by omega) (by omega)
 obtain⟨s0,s1,hs⟩:=l c 13 4 (by omega) (by omega) (by omega)
 generalize μ c 11 (1+z)=p at *;generalize μ c 12 26=f at *;generalize μ c 13 4=s at *;obtain⟨d,rfl⟩:∃d:Nat,(d:Int)=t:=⟨t.toNat,by omega⟩
 obtain⟨n,rfl⟩:∃n:Nat,(n:Int)=p:=⟨p.toNat,by omega⟩
 obtain⟨g,M⟩:∃g:Nat,(g:Int)=1+z:=⟨(1+z).toNat,by omega⟩
 rw[←M]at hp;obtain⟨S,b,e1,A,Z⟩:=EV (Ω:=Ω) (c:=c) l (ρ:=[oI c,oI m,oS abc,none,none,none,none,none,none,none,none,none]) rfl;have r1:(aH 2 (ah (.str "abcdefghijklmnopqrstuvwxyz"))) [oI c,oI m,none,none,none,none,none,none,none,none,none,none] Ω=.nx [oI c,oI m,oS abc,none,none,none,none,none,none,none,none,none] Ω:=rfl
 have r2:(aH 3 (Lo F)) [oI c,oI m,oS abc,none,none,none,none,none,none,none,none,none] Ω=.nx [oI c,oI m,oS abc,oS S,none,none,none,none,none,none,none,none] b:=by
  rw[bq,e1];rfl
 have r3:(aH 4 (mN (di F) (ab (aa 0) (ab (ah (.int 8)) (ab (aa 1) af))))) [oI c,oI m,oS abc,oS S,none,none,none,none,none,none,none,none] b=.nx [oI c,oI m,oS abc,oS S,oI d,none,none,none,none,none,none,none] b:=by simp[ht]
 unfold Nz;rw[ae,r1,aw,ae,r2,aw,ae,r3,aw,ae]
 by_cases hc:m<=8/\w=1
 .obtain⟨a0,rfl⟩:=hc
  have e2:=EX (Ω:=b) A V (ρ:=[oI c,oI m,oS abc,oS S,oI d,none,none,none,none,none,none,none]) rfl rfl;have N:(b++[Cell.lst (((List.range m).map (jb S)).map .str)])[b.length]?=some (.lst (((List.range m).map (jb S)).map .str)):=av;have O:ag [] b (b++[Cell.lst (((List.range m).map (jb S)).map .str)]):=ag.app
  have hv:∀x∈(List.range m).map (jb S),iv x:=λx B=>by
   obtain⟨i,hi,rfl⟩:=List.mem_map.mp B;exact Iy A (by have:=List.mem_range.mp hi;omega)
  have hn:=EW (m:=m) A a0;have P:((List.range m).map (jb S)).length=m:=by simp
  generalize (List.range m).map (jb S)=X at *;generalize b++[Cell.lst (X.map .str)]=e at *;obtain⟨k,r,J,Q,R,_⟩:=yZ (ρ:=[oI c,oI m,oS abc,oS S,oI d,oR b.length,none,none,none,none,none,none]) (i:=5) (j:=4) rfl rfl N (by omega)
  have C:=qG (t:=d) X;refine⟨X.drop d++X.take d,k,r,C.nodup_iff.mpr hn,λx B=>hv x (C.mem_iff.mp B),by rw[C.length_eq];exact P,?_,Q,(Z.trans O).trans R⟩
  have u:((m:Int)<=8):=by omega
  have rt:(fC (m2 (aB .LtE) (aa 1) (ah (.int 8))) (m2 (aB .Eq) (mN (di F) (ab (aa 0) (ab (ah (.int 9)) (ab (ah (.int 4)) af)))) (ah (.int 1)))) [oI c,oI m,oS abc,oS S,oI d,none,none,none,none,none,none,none] b=.ok (.bl true) b:=by
   simp[I,u]
  have ra:aH 5 Nv [oI c,oI m,oS abc,oS S,oI d,none,none,none,none,none,none,none] b=.nx [oI c,oI m,oS abc,oS S,oI d,oR b.length,none,none,none,none,none,none] e:=by
   rw[bq,e2];rfl
  unfold FO;rw[cY,rt,du,bV,dR,bP,if_pos rfl,ae,ra,aw,ae,b_,J];rfl
 .have r4:FO F [oI c,oI m,oS abc,oS S,oI d,none,none,none,none,none,none,none] b=.nx [oI c,oI m,oS abc,oS S,oI d,none,none,none,none,none,none,none] b:=by
   by_cases K:w=1
   .have u:¬ ((m:Int)<=8):=λh=>hc ⟨by omega,K⟩
    simp[FO,I,u]
   .by_cases u:(m:Int)<=8
    .simp[FO,I,u,K]
    .simp[FO,I,u]
  rw[r4,aw,ae]
  by_cases L:w=2
  .subst L
   obtain⟨a,ha⟩:∃a,S.cps.toList[0]?=some a:=⟨S.cps.toList[0]'(by have:=A.1;omega),List.getElem?_eq_getElem _⟩
   have E:=A.2 a (List.mem_of_getElem? ha);have o0:S.length=8:=by simpa[Str.length]using A.1
   have T:∀o:az,aC (.str S) (.int 0) o=.ok (.str (ay a)) o:=λo=>by
    have:=tY (z:=S) (i:=0) (aG (by omega)) (L2.dI (j:=0) ha)
    unfold aC;rw[dw,dw,fX,iS,gZ,t_,kj,this];rfl
   have b0:=B8 a E.1 E.2
   have c0:∀o:az,iN (.str abc) [.str (ay a)] o=.ok (.int ((a - 97:Nat):Int)) o:=λo=>by
    simp only[iN,b0]
   have hq:=oA (q:=(((a - 97:Nat):Int)+1+y)%26) (by omega) (by omega)
   have ro:Lp F [oI c,oI m,oS abc,oS S,oI d,none,none,none,none,none,none,none] b=.ok (.str (ay (97+((((a - 97:Nat):Int)+1+y)%26).toNat))) b:=by
    have K:(fA (cE kf fg (aa 2) (ab (m2 aC (aa 3) (ah (.int 0))) af)) (cE pY iN (aa 2) (ab (m2 aC (aa 3) (ah (.int 0))) af))) [oI c,oI m,oS abc,oS S,oI d,none,none,none,none,none,none,none] b=.ok (.int ((a - 97:Nat):Int)) b:=by
     rw[oB];have:(cE kf fg (aa 2) (ab (m2 aC (aa 3) (ah (.int 0))) af)) [oI c,oI m,oS abc,oS S,oI d,none,none,none,none,none,none,none] b=.bad:=rfl;rw[this,jv,jw (x:=.str abc) (au:=b) rfl rfl,aJ,bK];have:aa 3 [oI c,oI m,oS abc,oS S,oI d,none,none,none,none,none,none,none] b=.ok (.str S) b:=rfl;rw[this,ai,bU,ai,T,ai,bE,ai,ai,c0]
    unfold Lp;have g0:aa 2 [oI c,oI m,oS abc,oS S,oI d,none,none,none,none,none,none,none] b=.ok (.str abc) b:=rfl;rw[bK,g0,ai,bK,bK,bK,K];simp[Y,hq]
   obtain⟨xs,q,e,e2,N,P,hv,L,O⟩:=hS b a (97+((((a - 97:Nat):Int)+1+y)%26).toNat) m E (by omega) (by omega) V
   obtain⟨k,r,J,Q,R,_⟩:=yZ (ρ:=[oI c,oI m,oS abc,oS S,oI d,oR q,oS (ay (97+((((a - 97:Nat):Int)+1+y)%26).toNat)),none,none,none,none,none]) (i:=5) (j:=4) rfl rfl N (by omega)
   have C:=qG (t:=d) xs;refine⟨xs.drop d++xs.take d,k,r,C.nodup_iff.mpr L,λx B=>hv x (C.mem_iff.mp B),by rw[C.length_eq];exact P,?_,Q,(Z.trans O).trans R⟩
   .have rt:(m2 (aB .Eq) (mN (di F) (ab (aa 0) (ab (ah (.int 9)) (ab (ah (.int 4)) af)))) (ah (.int 2))) [oI c,oI m,oS abc,oS S,oI d,none,none,none,none,none,none,none] b=.ok (.bl true) b:=by
     simp[I]
    have ra:aH 6 (Lp F) [oI c,oI m,oS abc,oS S,oI d,none,none,none,none,none,none,none] b=.nx [oI c,oI m,oS abc,oS S,oI d,none,oS (ay (97+((((a - 97:Nat):Int)+1+y)%26).toNat)),none,none,none,none,none] b:=by
     rw[bq,ro];rfl
    have rb:(aH 5 (mN (ba U) (ab (m2 aC (aa 3) (ah (.int 0))) (ab (aa 6) (ab (aa 1) af))))) [oI c,oI m,oS abc,oS S,oI d,none,oS (ay (97+((((a - 97:Nat):Int)+1+y)%26).toNat)),none,none,none,none,none] b=.nx [oI c,oI m,oS abc,oS S,oI d,oR q,oS (ay (97+((((a - 97:Nat):Int)+1+y)%26).toNat)),none,none,none,none,none] e:=by
     simp[T,e2]
    unfold Lq;rw[cY,rt,du,bV,dR,bP,if_pos rfl,ae,ra,aw,ae,rb,aw,ae,b_,J];rfl
  .have h0:Lq F U [oI c,oI m,oS abc,oS S,oI d,none,none,none,none,none,none,none] b=.nx [oI c,oI m,oS abc,oS S,oI d,none,none,none,none,none,none,none] b:=by
    simp[Lq,I,L]
   have r5:(aH 7 (m2 (aY .Add) (ah (.int 1)) (mN (di F) (ab (aa 0) (ab (ah (.int 10)) (ab (ah (.int 8)) af)))))) [oI c,oI m,oS abc,oS S,oI d,none,none,none,none,none,none,none] b=.nx [oI c,oI m,oS abc,oS S,oI d,none,none,oI g,none,none,none,none] b:=by
    rw[M];simp[hz]
   have r6:(aH 8 (mN (di F) (ab (aa 0) (ab (ah (.int 11)) (ab (aa 7) af))))) [oI c,oI m,oS abc,oS S,oI d,none,none,oI g,none,none,none,none] b=.nx [oI c,oI m,oS abc,oS S,oI d,none,none,oI g,oI n,none,none,none] b:=by simp[hp]
   have r7:(aH 9 (mN (di F) (ab (aa 0) (ab (ah (.int 12)) (ab (ah (.int 26)) af))))) [oI c,oI m,oS abc,oS S,oI d,none,none,oI g,oI n,none,none,none] b=.nx [oI c,oI m,oS abc,oS S,oI d,none,none,oI g,oI n,oI f,none,none] b:=by simp[hf]
   have O:ag [] b (b++[Cell.lst [.int 1,.int 3,.int 5,.int 7]]):=ag.app;have N:(b++[Cell.lst [.int 1,.int 3,.int 5,.int 7]])[b.length]?=some (.lst [.int 1,.int 3,.int 5,.int 7]):=av
   have G:∃st:Int,(st=1\/st=3\/st=5\/st=7)/\L2.jh [D.int 1,.int 3,.int 5,.int 7] s=oI st:=by
    have:s=0\/s=1\/s=2\/s=3:=by omega
    rcases this with rfl|rfl|rfl|rfl
    .exact⟨1,.inl rfl,rfl⟩
    .exact⟨3,.inr (.inl rfl),rfl⟩
    .exact⟨5,.inr (.inr (.inl rfl)),rfl⟩
    .exact⟨7,.inr (.inr (.inr rfl)),rfl⟩
   obtain⟨st,G,i0⟩:=G;have j0:=bL N i0
   have r8:(aH 10 (m2 aC (mN bH (ab (ah (.int 1)) (ab (ah (.int 3)) (ab (ah (.int 5)) (ab (ah (.int 7)) af))))) (mN (di F) (ab (aa 0) (ab (ah (.int 13)) (ab (ah (.int 4)) af)))))) [oI c,oI m,oS abc,oS S,oI d,none,none,oI g,oI n,oI f,none,none] b=.nx [oI c,oI m,oS abc,oS S,oI d,none,none,oI g,oI n,oI f,oI st,none] (b++[Cell.lst [.int 1,.int 3,.int 5,.int 7]]):=by
    have K:(mN bH (ab (ah (.int 1)) (ab (ah (.int 3)) (ab (ah (.int 5)) (ab (ah (.int 7)) af))))) [oI c,oI m,oS abc,oS S,oI d,none,none,oI g,oI n,oI f,none,none] b=.ok (.ref b.length) (b++[Cell.lst [.int 1,.int 3,.int 5,.int 7]]):=by
     show bH [.int 1,.int 3,.int 5,.int 7] b=_
     rw[oC,if_pos (aG (by simp))]
    have L:(mN (di F) (ab (aa 0) (ab (ah (.int 13)) (ab (ah (.int 4)) af)))) [oI c,oI m,oS abc,oS S,oI d,none,none,oI g,oI n,oI f,none,none] (b++[Cell.lst [.int 1,.int 3,.int 5,.int 7]])=.ok (.int s) (b++[Cell.lst [.int 1,.int 3,.int 5,.int 7]]):=by
     generalize b++[Cell.lst [.int 1,.int 3,.int 5,.int 7]]=o;simp[hs]
    rw[bq,bK,K,ai,L,ai,j0];rfl
   generalize b++[Cell.lst [.int 1,.int 3,.int 5,.int 7]]=e at *;have J:=EY (Ω:=e) (f:=f) (st:=st) (by omega) (by omega) V (ρ:=[oI c,oI m,oS abc,oS S,oI d,none,none,oI g,oI n,oI f,oI st,none]) rfl rfl
   have em:(List.range m).map (λi=>ay (sgn f st i))=((List.range m).map (sgn f st)).map ay:=by rw[List.map_map];rfl
   rw[em]at J
   have k0:∀x∈(List.range m).map (sgn f st),97<=x/\x<=122:=λx B=>by
    obtain⟨i,_,rfl⟩:=List.mem_map.mp B;unfold sgn;omega
   have l0:(((List.range m).map (sgn f st)).map λx=>sE S g n (ay x)).Nodup:=by
    rw[List.map_map];exact Iz A V G
   have P:((List.range m).map (sgn f st)).length=m:=by simp
   generalize (List.range m).map (sgn f st)=H at *;have Q:(e++[Cell.lst ((H.map ay).map .str)])[e.length]?=some (.lst ((H.map ay).map .str)):=av;have R:ag [] e (e++[Cell.lst ((H.map ay).map .str)]):=ag.app
   have r9:aH 11 Nw [oI c,oI m,oS abc,oS S,oI d,none,none,oI g,oI n,oI f,oI st,none] e=.nx [oI c,oI m,oS abc,oS S,oI d,none,none,oI g,oI n,oI f,oI st,oR e.length] (e++[Cell.lst ((H.map ay).map .str)]):=by
    rw[bq,J];rfl
   generalize e++[Cell.lst ((H.map ay).map .str)]=r at *;have e4:=EZ A (show g<=8 by omega) (show n<g by omega) Q (by omega) (ρ:=[oI c,oI m,oS abc,oS S,oI d,none,none,oI g,oI n,oI f,oI st,oR e.length]) rfl rfl
   refine⟨H.map λx=>sE S g n (ay x),r.length,r++[.lst ((H.map λx=>sE S g n (ay x)).map .str)],l0,λx B=>?_,by simpa using P,?_,av,((Z.trans O).trans R).trans ag.app⟩
   .obtain⟨y,Y,rfl⟩:=List.mem_map.mp B
    exact Nx A (by omega) (by omega) (k0 y Y)
   .rw[h0,aw,ae,r5,aw,ae,r6,aw,ae,r7,aw,ae,r8,aw,ae,r9,aw,ae,b_,e4]
    rfl
end
end Mir
namespace L2
open PySem PySem.Spec PyProof.Rows
noncomputable def qH(B:Addr->Prop)[DecidablePred B](H:Hp):Hp:=λb=>if B b then (match H b with|some (.dg _ u)=>some u|x=>x)else H b
structure NA(B:Addr->Prop)(H H':Hp):Prop where
 NB:∀b,B b->∃o kvs,H' b=some (.dg o (.dK kvs))
 was:∀b,B b->∃kvs,H b=some (.dK kvs)
section
variable{B:Addr->Prop}[DecidablePred B]{H H':Hp}{b:Addr}{o:Obj}{u:HO}{P:Program}{w:World}{h h':Heap}{fs ex:List Addr}
theorem sG(a:B b)(q:H b=some (.dg o u)):qH B H b=some u:=by unfold qH;rw[if_pos a,q]
theorem dm(a:¬ B b):qH B H b=H b:=by unfold qH;rw[if_neg a]
theorem y8{x:Option HO}(c:∀b,B b->∃o kvs,H b=some (.dg o (.dK kvs)))(q:H b=x)(a:∀o kvs,x≠some (.dg o (.dK kvs))):qH B H b=x:=by
 rw[dm,q];intro d;obtain⟨o,kvs,z⟩:=c b d;exact a o kvs (q.symm.trans z)
theorem gN.oT(x:gN P w H h)(c:∀b,B b->∃o kvs,H b=some (.dg o (.dK kvs))):gN P w (qH B H) h:=λa j e=>by
 have f:∀b y,H b=some (.own y)->qH B H b=some (.own y):=λb y q=>y8 c q (λ_ _ z=>by cases z)
 have g:∀b i,H b=some (.tup i)->qH B H b=some (.tup i):=λb y q=>y8 c q (λ_ _ z=>by cases z)
 by_cases d:B a
 .obtain⟨k,kvs,q⟩:=c a d
  rw[sG d q]at e;cases e;obtain⟨_,y⟩:=x a _ q;exact bN.stay y (λ_ _ _ z=>z) (λb q=>f b _ q) g
 .rw[dm d]at e
  exact(x a j e).stay (λ_ _ _ z=>z) (λb q=>f b _ q) g
theorem Un.oT(a:Un fs ex H H' h h')(t:NA B H H'):Un fs ex H (qH B H') h h' where
 keep:=a.keep
 slot:=a.slot
 free:=λb o e n d=>by
  rw[dm,a.free b o e n d];intro c;obtain⟨_,z⟩:=t.was b c;rw[n]at z;cases z
 there:=a.there
 tups:=λb f e=>by
  rw[dm,a.tups b f e];intro c;obtain⟨_,z⟩:=t.was b c;rw[e]at z;cases z
 g8:=λb o u e=>by
  rw[dm,a.g8 b o u e];intro c;obtain⟨_,z⟩:=t.was b c;rw[e]at z;cases z
 jf:=λb g e=>by
  rw[dm]
  .exact a.jf b g e
  intro c;obtain⟨_,z⟩:=t.was b c;rw[e]at z;cases z
end
open Classical in
def spT(sp:Sp):Sp:=λb H Q E=>sp b H (λv a=>∃B:Addr->Prop,NA B H a/\Q v (qH B a)) E
open Classical in
theorem cH.oT{P:Program}{w:World}{K:PySem.W.Frag}{a:Str->Option Value}{base:Heap}{CX:rg}{k:Nat}{f:Addr}{b:FuncData}{ps:List Str}{sp:Sp}(F:cH P w K a base CX k f b ps sp) :
  cH P w K a base CX k f b ps (spT sp):=
 ⟨λc H Q E q=>F.len _ _ _ _ q,λA outer s H args d c Q E g h i j l=>codeAny_mono (F.run A outer s H args d c _ E g h i j l) λr C z=>by
  cases r with
  |error e=>exact z
  |ok f=>
   cases f with
   |ret u=>
    obtain⟨v,m,n,o,p,x,y,B,t,q⟩:=z;exact⟨v,qH B m,n,o,p.oT t,x.oT t.NB,y,q⟩
   |_=>exact z⟩
section
variable{X:Cx}{pins:List (Addr×Obj)}{σ σ':St}{H H':Hp}{s s':Shared}{B:Addr->Prop}[DecidablePred B]
end
end L2
namespace Mir
open PySem PySem.Spec PyProof.Rows L2
variable [aK]
noncomputable def vP(c:Cell)(b:Option Cell):Cell:=match c,b with
 |.dF a,some (.dK _)=>.dK a
 |c,_=>c
def eA(Ω au:az):az:=au.mapIdx λk c=>vP c Ω[k]?
def er(F:aL):aL:=λc b=>match F c b with
 |.ok d a=>.ok d (eA b a)
 |r=>r
theorem aE.of_get{d g:Type}{R:d->g->Prop}:∀{c:List d}{bs:List g},bs.length=c.length->(∀(i:Nat) (a:d) (b:g),c[i]?=some a->bs[i]?=some b->R a b)->aE R c bs
 |[],[],_,_=>.nil
 |a::c,b::bs,h,k=>.cons (k 0 a b rfl rfl) (aE.of_get (by simpa using h) λi a b e f=>k (i+1) a b (by simpa using e) (by simpa using f))
 |[],_::_,h,_=>by simp at h
 |_::_,[],h,_=>by simp at h
section
variable{X:Cx}{κ:Str->Addr->Prop}{Φ:fm}{α α' hZ:List Addr}{Z Z' Z0:Addr->Prop}{Ω au:az}{H H' H0:Hp}
open Classical in
theorem y9(S:bF κ α Z Ω H)(g:cv α Z H α' Z' H')(x:bF κ α' Z' au H'):∃B:Addr->Prop,NA B H H'/\cv α Z H α' Z' (qH B H')/\bF κ α' Z' (eA Ω au) (qH B H')/\∀d v,ao α' Z' H' d v->ao α' Z' (qH B H') d v:=by
 let B:Addr->Prop:=λb=>∃(k:Nat) (h j:List (Key×D)),α'[k]?=some b/\Ω[k]?=some (Cell.dK h)/\au[k]?=some (Cell.dF j)
 have K:∀b,B b->b∈α/\∃h,H b=some (.dK h):=λb ⟨k,h,j,w,E,t⟩=>by
  obtain⟨a,F,l,L,_⟩:=S.cell E;have:=g.pre k a F;rw[w]at this;cases this
  exact⟨List.mem_of_getElem? F,l,L⟩
 have O:∀b,B b->∃o h,H' b=some (.dg o (.dK h)):=λb ⟨k,h,j,w,E,t⟩=>by
  obtain⟨a,F,o,l,L,_⟩:=x.cell t;rw[w]at F;cases F
  exact⟨o,l,L⟩
 have P:∀b,Z' b->¬ B b:=λb z ⟨k,_,_,w,_⟩=>x.sep b (List.mem_of_getElem? w) z
 have y:∀d v,ao α' Z' H' d v->ao α' Z' (qH B H') d v:=λd v r=>r.mono (λ_ _ e=>e) (λa o z e=>by rw[dm (P a z)];exact e) λ_ z=>z
 refine⟨B,⟨O,λb s=>(K b s).2⟩,⟨g.pre,g.sub,g.new,g.Cz,λa o e I=>?_,λa I=>?_,λa o u e=>?_⟩,⟨x.rK,?_,x.sep,λa z=>by rw[dm (P a z)];exact x.dom a z⟩,y⟩
 .rw[dm λs=>I (K a s).1];exact g.frm a o e I
 .by_cases s:B a
  .obtain⟨o,h,e⟩:=O a s;rw[sG s e];simp
  .rw[dm s];exact g.has a I
 .rw[dm λs=>by obtain⟨_,_,z⟩:=K a s;rw[e]at z;cases z];exact g.dg a o u e
 .refine aE.of_get (by unfold eA;rw[List.length_mapIdx];exact x.xu.length) λi c a e f=>?_
  unfold eA at e;rw[List.getElem?_mapIdx]at e;obtain⟨A,w,rfl⟩:=Option.map_eq_some_iff.mp e;obtain⟨a',E,t⟩:=x.cell w;rw[f]at E;cases E
  have R:(∀h j,Ω[i]?=some (.dK h)->A≠.dF j)->¬ B a:=λq ⟨k,h,j,m,p,Q⟩=>by
   have:k=i:=by
    have T:=(List.getElem?_eq_some_iff.mp m);have U:=(List.getElem?_eq_some_iff.mp f)
    exact(List.getElem_inj x.rK).mp (T.2.trans U.2.symm)
   subst this;rw[w]at Q;cases Q
   exact q h j p rfl
  have same:¬ B a->vP A Ω[i]?=A->gu κ (ao α' Z' (qH B H')) (qH B H') a (vP A Ω[i]?):=λn q=>by
   rw[q];cases A with
   |lst ds=>obtain⟨l,m,p⟩:=t;exact⟨l,by rw[dm n];exact m,p.imp y⟩
   |dK h=>obtain⟨l,m,p⟩:=t;exact⟨l,by rw[dm n];exact m,p.imp y⟩
   |dT h=>obtain⟨l,m,p⟩:=t;exact⟨l,by rw[dm n];exact m,p.imp y⟩
   |dF h=>obtain⟨o,l,m,p⟩:=t;exact⟨o,l,by rw[dm n];exact m,p.imp y⟩
   |ins C fs=>obtain⟨V,X,l,Y,m,p⟩:=t;exact⟨V,X,l,Y,by rw[dm n];exact m,p.imp y⟩
   |_=>exact t.elim
  by_cases M:∃h j,Ω[i]?=some (.dK h)/\A=.dF j
  .obtain⟨h,j,J,rfl⟩:=M
   have s:B a:=⟨i,h,j,f,J,w⟩;obtain⟨o,l,m,p⟩:=t;rw[J];exact⟨l,sG s m,p.imp y⟩
  .refine same (R λh j J N=>M ⟨h,j,J,N⟩) ?_
   unfold vP;split
   .rename_i h G N
    exact absurd ⟨G,h,N,rfl⟩ M
   .rfl
theorem oU{P:Program}{w:World}{K:PySem.W.Frag}{c:Str->Option Value}{base:Heap}{CX:rg}{k:Nat}{f:Addr}{e:FuncData}{ps:List Str}{F:aL}(h:cH P w K c base CX k f e ps (dN κ F)):cH P w K c base CX k f e ps (dN κ (er F)):=
 h.oT.imp λz H Q E ⟨l,Z,i,j,S,r,g⟩=>⟨l,Z,i,j,S,r,by
  unfold er at g;cases q:F j i with
  |ok d a=>
   rw[q]at g;intro v A b m n o p;obtain⟨B,s,t,u,y⟩:=y9 S n o;exact⟨B,s,g v _ b m t u (y d v p)⟩
  |exc x a=>rw[q]at g;exact g
  |bad=>rw[q]at g;exact g⟩
end
end Mir
namespace Mir
open PySem L2
variable [aK]
section
noncomputable def cj(v:List (Str×Int)):List (Key×D):=v.map λp=>(.inr p.1,.int p.2)
structure Tz where
 (n:Str) (c l i:Nat) (k:Str) (v:List (Str×Int)) (j o:Nat)
abbrev iw(y:Tz):List Nat:=[y.c,y.l,y.j,y.o]
noncomputable def ads(M:List Tz):List Nat:=M.flatMap iw
structure Ae where
 (vQ:az) (n0 T t s r m d P q:Nat)
noncomputable def gj(M:List Tz):List (Key×D):=M.map λy=>(.inr y.n,.ref y.c)
noncomputable def dH(M:List Tz):List (Key×D):=M.map λy=>(.inr y.n,.ref y.j)
structure Yx(Ω:az)(d:Nat)(L:List (List Str))(y:Tz):Prop where
 G:Tg Ω d y.c y.l y.i y.k y.v L
 R:Ω[y.j]?=some (.lst [.str y.k,.ref y.o])
 O:Ω[y.o]?=some (.dK (cj y.v))
structure Ps(Ω:az)(A:Ae)(L CM:List (List Str))(cs:List Nat)(M:List Tz):Prop where
 W:Tn Ω A.T A.t A.s A.r A.m A.d (gj M) L
 pd:cq Ω A.P (dH M)
 al:∀y∈M,Yx Ω A.d L y
 nn:(M.map (·.n)).Nodup
 ce:Rw Ω A.q cs CM
 nd:(ads M++cs).Nodup
 lo:∀a∈ads M++cs,A.n0<=a
 nq:A.q∉ads M++cs
 lt:A.d<A.P/\A.P<A.n0/\A.n0<=A.q
 ln:A.n0<=Ω.length
 bs:ag [] A.vQ Ω
 lb:A.vQ.length<=A.T
variable{Ω au aS:az}{ρ:aV}{A:Ae}{L L' CM:List (List Str)}{cs:List Nat}{M M1 M2:List Tz}{y y' z:Tz}{n w:Str}{fp:List Nat}{d:Nat}
theorem Yx.keep(Y:Yx Ω d L y)(K:ag fp Ω au)(h:∀a∈iw y,a∉fp)(b:∀(j:Nat) (row:List Str),L[j]?=some row->L'[j]?=some row):Yx au d L' y:=
 ⟨⟨K.get _ _ Y.G.ob (h _ (by simp)),K.get _ _ Y.G.sl (h _ (by simp)),b _ _ Y.G.wd,Y.G.nd,Y.G.le,Y.G.lt⟩,K.get _ _ Y.R (h _ (by simp)),K.get _ _ Y.O (h _ (by simp))⟩
theorem Yx.bX(Y:Yx Ω d L y)(K:ag [] Ω au):Yx au d L y:=Y.keep K (by simp) λ_ _ h=>h
theorem Ps.bX(H:Ps Ω A L CM cs M)(K:ag [] Ω au):Ps au A L CM cs M:=
 ⟨H.W.bX K,H.pd.keep K (by simp),λy a=>(H.al y a).bX K,H.nn,H.ce.keep K,H.nd,H.lo,H.nq,H.lt,Nat.le_trans H.ln K.len,H.bs.trans K,H.lb⟩
theorem jc:ads (M1++y::M2)=ads M1++(iw y++ads M2):=by simp[ads]
theorem lV(h:z∈M):∀a∈iw z,a∈ads M:=λa b=>List.mem_flatMap.mpr ⟨z,h,b⟩
theorem Ps.sep(H:Ps Ω A L CM cs (M1++y::M2)):(∀z∈M1++M2,∀a∈iw z,a∉iw y)/\∀a∈cs,a∉iw y:=by
 have d:=H.nd;rw[jc]at d;have e:=List.nodup_append.mp d;have f:=List.nodup_append.mp e.1;have g:=List.nodup_append.mp f.2.1;refine⟨λz hz a b c=>?_,λa b c=>?_⟩
 .rcases List.mem_append.mp hz with hz|hz
  .exact f.2.2 a (lV hz a b) a (List.mem_append_left _ c) rfl
  .exact g.2.2 a c a (lV hz a b) rfl
 .exact e.2.2 a (List.mem_append_right _ (List.mem_append_left _ c)) a b rfl
theorem Ps.low(H:Ps Ω A L CM cs M):A.T<A.s/\A.s<A.r/\A.r<A.m/\A.m<A.d/\A.d<A.P/\A.P<A.n0/\A.n0<=A.q:=by
 have:=H.W.lt;have:=H.lt;omega
theorem Ps.hi(H:Ps Ω A L CM cs M)(b:y∈M):∀a∈iw y,A.n0<=a:=λa c=>H.lo a (List.mem_append_left _ (lV b a c))
theorem Ps.upd(H:Ps Ω A L CM cs (M1++y::M2))(K:ag ([A.r,A.m]++iw y) Ω au)(q:Tn au A.T A.t A.s A.r A.m A.d (gj (M1++y::M2)) L')(i:∀(j:Nat) (row:List Str),L[j]?=some row->L'[j]?=some row)(g:y'.n=y.n)(ha:iw y'=iw y)(u:Yx au A.d L' y'):Ps au A L' CM cs (M1++y'::M2):=by
 obtain⟨k,w⟩:=H.sep;have G:=H.low
 have b:∀a,A.n0<=a->a∉iw y->a∉[A.r,A.m]++iw y:=λa x l h3=>by
  rcases List.mem_append.mp h3 with h3|h3
  .simp only[List.mem_cons,List.not_mem_nil,or_false]at h3
   omega
  .exact l h3
 have B:∀a,a<A.n0->a≠A.r->a≠A.m->a∉[A.r,A.m]++iw y:=λa x l h3 h4=>by
  rcases List.mem_append.mp h4 with h4|h4
  .simp only[List.mem_cons,List.not_mem_nil,or_false]at h4
   omega
  .have:=H.hi (by simp) a h4
   omega
 have o:∀{f:Tz->Key×D},(f y'=f y)->(M1++y'::M2).map f=(M1++y::M2).map f:=λe=>by simp[e]
 have p:y'.c=y.c/\y'.j=y.j:=by
  simp only[iw,List.cons.injEq]at ha;exact⟨ha.1,ha.2.2.1⟩
 have C:gj (M1++y'::M2)=gj (M1++y::M2):=o (by rw[g,p.1])
 have E:dH (M1++y'::M2)=dH (M1++y::M2):=o (by rw[g,p.2])
 have h:ads (M1++y'::M2)=ads (M1++y::M2):=by rw[jc,jc,ha]
 have F:(M1++y'::M2).map (·.n)=(M1++y::M2).map (·.n):=by simp[g]
 refine⟨by rw[C];exact q,by rw[E];exact H.pd.keep K (B _ (by omega) (by omega) (by omega)),λz hz=>?_,by rw[F];exact H.nn,H.ce.m9 K (b _ (by omega) λz=>H.nq (List.mem_append_left _ (lV (by simp) _ z))) λa ha=>b a (H.lo a (List.mem_append_right _ ha)) (w a ha),by rw[h];exact H.nd,by rw[h];exact H.lo,by rw[h];exact H.nq,H.lt,Nat.le_trans H.ln K.len,ag.new H.bs K λa ha=>?_,H.lb⟩
 .rcases List.mem_append.mp hz with hz|hz
  .exact(H.al z (List.mem_append_left _ hz)).keep K (λa ha=>b a (H.hi (List.mem_append_left _ hz) a ha) (k z (List.mem_append_left _ hz) a ha)) i
  .rcases List.mem_cons.mp hz with rfl|hz
   .exact u
   .exact(H.al z (by simp[hz])).keep K (λa ha=>b a (H.hi (by simp[hz]) a ha) (k z (List.mem_append_right _ hz) a ha)) i
 .have:=H.lb
  rcases List.mem_append.mp ha with ha|ha
  .simp only[List.mem_cons,List.not_mem_nil,or_false]at ha
   omega
  .have:=H.hi (by simp) a ha
   omega
theorem uv{f:Tz->D}(b:(M.map (·.n)).Nodup):bx (M.map λy=>((.inr y.n:Key),f y)) (.inr n)=((M.find? λy=>decide (y.n=n)).map f):=by
 induction M with
 |nil=>rfl
 |cons a M c=>
  rw[List.map_cons,cC,List.find?_cons]
  by_cases h:a.n=n
  .rw[if_pos (by rw[h]),decide_eq_true h]
   rfl
  .rw[if_neg (by simpa using h),decide_eq_false h]
   exact c (List.nodup_cons.mp b).2
theorem qI(a:((M1++y::M2).map (·.n)).Nodup):(M1++y::M2).find? (λz=>decide (z.n=y.n))=some y:=by
 have h:∀z∈M1,z.n≠y.n:=λz b e=>by
  rw[List.map_append,List.map_cons]at a;exact(List.nodup_append.mp a).2.2 z.n (List.mem_map.mpr ⟨z,b,rfl⟩) y.n (by simp) e
 rw[List.find?_append,List.find?_eq_none.mpr (by simpa using h)]
 simp
theorem f9(a:((M1++y::M2).map (·.n)).Nodup):bx (gj (M1++y::M2)) (.inr y.n)=oR y.c:=by
 unfold gj;rw[uv (f:=λy=>.ref y.c) a,qI a]
 rfl
theorem lW(a:((M1++y::M2).map (·.n)).Nodup):bx (dH (M1++y::M2)) (.inr y.n)=oR y.j:=by
 unfold dH;rw[uv (f:=λy=>.ref y.j) a,qI a]
 rfl
theorem sH{f:Tz->D}(b:n∉M.map (·.n)):bx (M.map λy=>((.inr y.n:Key),f y)) (.inr n)=none:=by
 induction M with
 |nil=>rfl
 |cons a M c=>
  rw[List.map_cons,cC,if_neg (by simp at b ⊢;exact λz=>b.1 z.symm)]
  exact c (by simp at b ⊢;exact b.2)
theorem qJ{f:Tz->D}(g:((M1++y::M2).map (·.n)).Nodup):gd ((M1++y::M2).map λy=>((.inr y.n:Key),f y)) (.inr y.n)=(M1++M2).map λy=>((.inr y.n:Key),f y):=by
 have d:∀z∈M1++M2,z.n≠y.n:=by
  have h:((M1++y::M2).map (·.n)).Perm (y.n::(M1++M2).map (·.n)):=by
   have:=(List.perm_middle (a:=y) (l₁:=M1) (l₂:=M2)).map (·.n);simpa using this
  have:=(List.nodup_cons.mp (h.nodup_iff.mp g)).1;exact λz c e=>this (List.mem_map.mpr ⟨z,c,e⟩)
 unfold gd;rw[List.map_append,List.map_cons,List.filter_append,List.filter_cons,if_neg (by simp),List.map_append]
 congr 1
 .refine List.filter_eq_self.mpr λi b=>?_
  obtain⟨z,c,rfl⟩:=List.mem_map.mp b;simpa using d z (List.mem_append_left _ c)
 .refine List.filter_eq_self.mpr λi b=>?_
  obtain⟨z,c,rfl⟩:=List.mem_map.mp b;simpa using d z (List.mem_append_right _ c)
theorem B_(h:n∈M.map (·.n)):∃M1 y M2,M=M1++y::M2/\y.n=n:=by
 obtain⟨y,a,rfl⟩:=List.mem_map.mp h;obtain⟨M1,M2,rfl⟩:=List.append_of_mem a;exact⟨M1,y,M2,rfl,rfl⟩
theorem Ps.drop(H:Ps Ω A L CM cs (M1++y::M2))(K:ag [A.d,A.P] Ω au)(e:au[A.d]?=some (.dK (gj (M1++M2))))(f:cq au A.P (dH (M1++M2))):Ps au A L CM cs (M1++M2):=by
 have g:=H.low;have q:∀a,A.n0<=a->a∉[A.d,A.P]:=λa h=>by simp;omega
 have b:∀z∈M1++M2,z∈M1++y::M2:=λz hz=>by
  rcases List.mem_append.mp hz with hz|hz<;>simp[hz]
 have c:(ads (M1++M2)).Sublist (ads (M1++y::M2)):=by
  have:ads (M1++M2)=ads M1++ads M2:=by simp[ads]
  rw[this,jc];exact List.Sublist.append (List.Sublist.refl _) (List.sublist_append_right _ _)
 refine⟨⟨K.get _ _ H.W.ob (by simp;omega),e,H.W.sh.keep K (by simp;omega) (by simp;omega) (by simp;omega),H.W.nd,H.W.lt⟩,f,λz hz=>(H.al z (b z hz)).keep K (λa ha=>q a (H.hi (b z hz) a ha)) λ_ _ h=>h,?_,H.ce.m9 K (by simp;omega) λa ha=>q a (H.lo a (List.mem_append_right _ ha)),List.Nodup.sublist (c.append (List.Sublist.refl _)) H.nd,λa ha=>?_,λz=>H.nq ((c.append (List.Sublist.refl _)).subset z),H.lt,Nat.le_trans H.ln K.len,ag.new H.bs K (by have:=H.lb;simp;omega),H.lb⟩
 .refine List.Nodup.sublist ?_ H.nn
  rw[List.map_append,List.map_append,List.map_cons];exact List.Sublist.append (List.Sublist.refl _) (List.sublist_cons_self _ _)
 .rcases List.mem_append.mp ha with ha|ha
  .exact H.lo a (List.mem_append_left _ (c.subset ha))
  .exact H.lo a (List.mem_append_right _ ha)
theorem Ps.more(H:Ps Ω A L CM cs M)(K:ag [A.d,A.P] Ω au)(j:y.n∉M.map (·.n))(k:Tn au A.T A.t A.s A.r A.m A.d (gj (M++[y])) L)(l:cq au A.P (dH (M++[y])))(o:Yx au A.d L y)(f:∀a∈iw y,Ω.length<=a)(p:(iw y).Nodup):Ps au A L CM cs (M++[y]):=by
 have u:=H.low;have q:∀a,A.n0<=a->a∉[A.d,A.P]:=λa h=>by simp;omega
 have g:ads (M++[y])=ads M++iw y:=by simp[ads]
 have c:∀a∈ads M++cs,a<Ω.length:=λa ha=>by
  rcases List.mem_append.mp ha with ha|ha
  .obtain⟨z,hz,ha⟩:=List.mem_flatMap.mp ha
   have Y:=H.al z hz;simp only[iw,List.mem_cons,List.not_mem_nil,or_false]at ha;rcases ha with rfl|rfl|rfl|rfl
   .exact bp Y.G.ob
   .exact bp Y.G.sl
   .exact bp Y.R
   .exact bp Y.O
  .exact H.ce.al.lt a ha
 refine⟨k,l,λz hz=>?_,?_,H.ce.m9 K (by simp;omega) λa ha=>q a (H.lo a (List.mem_append_right _ ha)),?_,λa ha=>?_,λhz=>?_,H.lt,Nat.le_trans H.ln K.len,ag.new H.bs K (by have:=H.lb;simp;omega),H.lb⟩
 .rcases List.mem_append.mp hz with hz|hz
  .exact(H.al z hz).keep K (λa ha=>q a (H.hi hz a ha)) λ_ _ h=>h
  .rw[List.mem_singleton.mp hz]
   exact o
 .rw[List.map_append]
  exact List.nodup_append.mpr ⟨H.nn,by simp,λa ha b hb e=>j (by simp at hb;subst hb;subst e;exact ha)⟩
 .have i:=List.nodup_append.mp H.nd
  rw[g,List.append_assoc];refine List.nodup_append.mpr ⟨i.1,List.nodup_append.mpr ⟨p,i.2.1,λa ha b hb e=>?_⟩,λa ha b hb e=>?_⟩
  .have:=f a ha
   have:=c b (List.mem_append_right _ hb);omega
  .rcases List.mem_append.mp hb with hb|hb
   .have:=f b hb
    have:=c a (List.mem_append_left _ ha);omega
   .exact i.2.2 a ha b hb e
 .rw[g,List.append_assoc]at ha
  rcases List.mem_append.mp ha with ha|ha
  .exact H.lo a (List.mem_append_left _ ha)
  .rcases List.mem_append.mp ha with ha|ha
   .have:=f a ha
    have:=H.ln;omega
   .exact H.lo a (List.mem_append_right _ ha)
 .have w:=bp H.ce.ce
  rw[g,List.append_assoc]at hz;rcases List.mem_append.mp hz with hz|hz
  .exact H.nq (List.mem_append_left _ hz)
  .rcases List.mem_append.mp hz with hz|hz
   .have:=f _ hz
    omega
   .exact H.nq (List.mem_append_right _ hz)
theorem cR{c:Cell}(h:au[d]?=some c)(a:∀kvs,c≠.dF kvs):(eA Ω au)[d]?=some c:=by
 unfold eA;rw[List.getElem?_mapIdx,h,Option.map_some]
 congr 1
 unfold vP;split
 .exact absurd rfl (a _)
 .rfl
theorem qK:(eA Ω au).length=au.length:=by unfold eA;rw[List.length_mapIdx]
theorem Ps.oT(g:Ps Ω A L CM cs M)(i:Ω[A.P]?=some (.dK (dH M))){d:List Nat}{e:List (List Str)}(H:Ps au A L' e d M):Ps (eA Ω au) A L' e d M/\(eA Ω au)[A.P]?=some (.dK (dH M)):=by
 have f:(eA Ω au)[A.P]?=some (.dK (dH M)):=by
  rcases H.pd with h|h
  .exact cR h (by simp)
  .unfold eA
   rw[List.getElem?_mapIdx,h,i];rfl
 refine⟨⟨⟨cR H.W.ob (by simp),cR H.W.dk (by simp),⟨cR H.W.sh.ob (by simp),cR H.W.sh.ro (by simp),cR H.W.sh.nu (by simp)⟩,H.W.nd,H.W.lt⟩,.inl f,λy j=>?_,H.nn,⟨cR H.ce.ce (by simp),?_⟩,H.nd,H.lo,H.nq,H.lt,by rw[qK];exact H.ln,⟨by rw[qK];exact H.bs.len,λk c h _=>?_⟩,H.lb⟩,f⟩
 .have Y:=H.al y j
  exact⟨⟨cR Y.G.ob (by simp),cR Y.G.sl (by simp),Y.G.wd,Y.G.nd,Y.G.le,Y.G.lt⟩,cR Y.R (by simp),cR Y.O (by simp)⟩
 .exact aE.imp (λa b h=>cR h (by simp)) H.ce.al
 .have l:=g.bs.get k c h (by simp)
  have m:=H.bs.get k c h (by simp)
  unfold eA;rw[List.getElem?_mapIdx,m,l]
  show some (vP c (some c))=some c
  cases c<;>rfl
end
section
variable{Ω au aS:az}{ρ:aV}{A:Ae}{L L' CM:List (List Str)}{cs:List Nat}{M M1 M2:List Tz}{y y' z:Tz}{n w:Str}{fp:List Nat}{d k:Nat}{x:Int}
def qL(a:EM)(b:AM):EM:=fA (cE kf fP a b) (cE rX lB a b)
theorem oV{a:EM}{b:AM}{kvs:List (Key×D)}{c:Key}{v yv:D}(e:a ρ Ω=.ok (.ref k) Ω)(f:b ρ Ω=.ok [yv] Ω)(d:Ω[k]?=some (.dK kvs))(g:jS yv=some c)(h:bx kvs c=some v):qL a b ρ Ω=.ok v (Ω.set k (.dK (gd kvs c))):=by
 have i:cE kf fP a b ρ Ω=.bad:=by
  unfold cE;rw[e,ai];simp[kf,dh,d]
 unfold qL;rw[oB,i,jv,jw e (by simp[rX,d]),f,ai]
 simp only[lB,d,g,h]
theorem Cb(a:(M.map (·.n)).Nodup)(b:y∈M):bx (gj M) (.inr y.n)=oR y.c:=by
 obtain⟨M1,M2,rfl⟩:=List.append_of_mem b;exact f9 a
theorem Cc(a:(M.map (·.n)).Nodup)(b:y∈M):bx (dH M) (.inr y.n)=oR y.j:=by
 obtain⟨M1,M2,rfl⟩:=List.append_of_mem b;exact lW a
def zj(a:aL):SM:=
 (ak (cA (aD "Things" "thing" a (aa 0) (ab (aa 1) af)))
 (ak (cA (qL (m1 (aZ ["Things"] "made") (aa 0)) (ab (aa 1) af)))
 aj))
theorem CT{b:aL}(e:eo b){T t s r m:Nat}(W:Tn Ω T t s r m d (gj (M1++y::M2)) L)(a:((M1++y::M2).map (·.n)).Nodup):aO 2 2 (zj b) [.ref T,.str y.n] Ω=.ok .non (Ω.set d (.dK (gj (M1++M2)))):=by
 rw[aU (by rfl)]
 have g:aM 2 [D.ref T,.str y.n]=[oR T,oS y.n]:=rfl;rw[g];have h:=ja e W (f9 a) (ρ:=[oR T,oS y.n]) (i:=0) (j:=1) rfl rfl;have k:=i_ W
 have l:qL (m1 (aZ ["Things"] "made") (aa 0)) (ab (aa 1) af) [oR T,oS y.n] Ω=.ok (.ref y.c) (Ω.set d (.dK (gj (M1++M2)))):=by
  rw[oV (yv:=.str y.n) (by simp[k]) rfl W.dk rfl (f9 a)]
  unfold gj;rw[qJ (f:=λy=>.ref y.c) a]
 unfold zj;rw[ae,cm,h,bP,aw,ae,cm,l];rfl
def Cd:SM:=
 (ak (bD (mN (bo .len) (ab (m1 (aZ ["Shapes"] "rows") (aa 0)) af)))
 aj)
theorem IF{s r m:Nat}(S:Sh Ω s r m L):aO 1 1 Cd [.ref s] Ω=.ok (.int L.length) Ω:=by
 rw[aU (by rfl)]
 have b:aM 1 [D.ref s]=[oR s]:=rfl;rw[b];have c:=lT S;have a:=eE S.ro;rw[List.length_map]at a;simp[Cd,c,a]
def FP:SM:=
 (ak (bD (m2 (aY .Sub) (m2 (aY .Mod) (m2 (aY .Mult) (aa 0) (ah (.int 48271))) (m2 (aY .Mult) (ah (.int 2)) (m2 (aY .Pow) (ah (.int 10)) (ah (.int 59))))) (m2 (aY .Pow) (ah (.int 10)) (ah (.int 59)))))
 aj)
theorem IG(x:Int):∃v:Int,∀Ω:az,aO 1 1 FP [.int x] Ω=.ok (.int v) Ω:=by
 refine⟨x*48271%(2*10 ^ 59) - 10 ^ 59,λΩ=>?_⟩
 rw[aU (by rfl)]
 have a:aM 1 [D.int x]=[oI x]:=rfl;rw[a];have b:jj 48271=true:=by decide
 have c:jj 2=true:=by decide
 simp[FP,b,c]
theorem Ps.dg(H:Ps Ω A L CM cs M):Ps (Ω.set A.P (.dF (dH M))) A L CM cs M/\(Ω.set A.P (.dF (dH M)))[A.P]?=some (.dF (dH M)):=by
 have e:=H.low;have K:ag [A.P] Ω (Ω.set A.P (.dF (dH M))):=ag.set (by simp)
 have q:∀a,A.n0<=a->a∉[A.P]:=λa h=>by simp;omega
 have c:=CJ H.pd;refine⟨⟨⟨K.get _ _ H.W.ob (by simp;omega),K.get _ _ H.W.dk (by simp;omega),H.W.sh.keep K (by simp;omega) (by simp;omega) (by simp;omega),H.W.nd,H.W.lt⟩,.inr c,λz d=>(H.al z d).keep K (λa b=>q a (H.hi d a b)) λ_ _ h=>h,H.nn,H.ce.m9 K (by simp;omega) λa b=>q a (H.lo a (List.mem_append_right _ b)),H.nd,H.lo,H.nq,H.lt,by rw[List.length_set];exact H.ln,ag.new H.bs K (by have:=H.lb;simp;omega),H.lb⟩,c⟩
theorem oW:(dH M).map (λa=>jU a.1)=(M.map (·.n)).map .str:=by
 simp only[dH,List.map_map];rfl
def FQ(i:Nat):EM:=(mN (bo .list) (ab (m2 aC (m2 aC (aa 1) (aa i)) (ah (.int 1))) af))
theorem lX{v:List (Str×Int)}:(cj v).map (λa=>jU a.1)=(aQ v).map .str:=by
 simp only[cj,aQ,List.map_map];rfl
theorem CU{i:Nat}(H:Ps Ω A L CM cs M)(a:y∈M)(c:ρ[1]?=some (oR A.P))(d:ρ[i]?=some (oS y.n)):FQ i ρ Ω=.ok (.ref Ω.length) (Ω++[.lst ((aQ y.v).map .str)]):=by
 have Y:=H.al y a;have e:=h_ H.pd (Cc H.nn a);have f:aC (.ref y.j) (.int 1) Ω=.ok (.ref y.o) Ω:=bL Y.R rfl;have b:=oM (.inl Y.O:cq Ω y.o (cj y.v));rw[lX]at b;simp[FQ,c,d,e,f,b]
theorem Ps.same(H:Ps Ω A L CM cs M)(c:y∈M)(hz:z∈M):decide (aQ y.v=aQ z.v)=decide (y.i=z.i):=by
 have a:=(H.al y c).G.wd;have b:=(H.al z hz).G.wd
 by_cases h:y.i=z.i
 .rw[h,b]at a
  rw[decide_eq_true h,decide_eq_true (Option.some.inj a).symm]
 .rw[decide_eq_false h,decide_eq_false λe=>h ?_]
  rw[e]at a;exact(List.getElem?_inj (List.getElem?_eq_some_iff.mp a).1 H.W.nd).mp (a.trans b.symm)
theorem Ce{a b:Nat}:aB .Eq (.int a) (.int b) Ω=.ok (.bl (decide (a=b))) Ω:=by
 by_cases h:a=b
 .simp[h]
 .have:¬ ((a:Int)=b):=by omega
  simp[h,this]
theorem sI{a:aL}(c:eo a)(H:Ps Ω A L CM cs M)(b:y∈M):aO 2 2 (oQ a) [.ref A.T,.str y.n] Ω=.ok (.int y.i) Ω:=CN c H.W (Cb H.nn b) (H.al y b).G
def NC(SP:aL):SM:=
 (ak (aH 4 (m2 (aB .Eq) (FQ 2) (FQ 3)))
 (ak (dG (m2 (aB .NotEq) (m2 (aB .Eq) (aD "Things" "shape_of" SP (aa 0) (ab (aa 2) af)) (aD "Things" "shape_of" SP (aa 0) (ab (aa 3) af))) (aa 4))
 (ak (bD (ah (.bl false)))
 aj)
 aj)
 aj))
def Sv(SP:aL):SM:=(ak (ek (cP 3) (bG (aa 1)) (NC SP)) aj)
def IH(SP:aL):SM:=(ak (ek (cP 2) (bG (aa 1)) (Sv SP)) (ak (bD (ah (.bl true))) aj))
theorem E_{c:aL}(l:eo c)(H:Ps Ω A L CM cs M)(e:y∈M)(hz:z∈M){a4:Option D}:∃f au,NC (aO 2 2 (oQ c)) [oR A.T,oR A.P,oS y.n,oS z.n,a4] Ω=.nx [oR A.T,oR A.P,oS y.n,oS z.n,f] au/\ag [] Ω au:=by
 have q:=CU (ρ:=[oR A.T,oR A.P,oS y.n,oS z.n,a4]) (i:=2) H e rfl rfl;have r:(Ω++[Cell.lst ((aQ y.v).map .str)])[Ω.length]?=some (.lst ((aQ y.v).map .str)):=av;have m:ag [] Ω (Ω++[Cell.lst ((aQ y.v).map .str)]):=ag.app;generalize Ω++[Cell.lst ((aQ y.v).map .str)]=b at *;have o:=H.bX m;have s:=CU (ρ:=[oR A.T,oR A.P,oS y.n,oS z.n,a4]) (i:=3) o hz rfl rfl;have t:(b++[Cell.lst ((aQ z.v).map .str)])[b.length]?=some (.lst ((aQ z.v).map .str)):=av;have g:ag [] b (b++[Cell.lst ((aQ z.v).map .str)]):=ag.app;have h:=g.get _ _ r (by simp)
 generalize b++[Cell.lst ((aQ z.v).map .str)]=a at *;have d:=o.bX g;have p:=BG h t;rw[H.same e hz]at p;have u:=sI l d e;have w:=sI l d hz;refine⟨some (.bl (decide (y.i=z.i))),a,?_,m.trans g⟩
 have x:(aH 4 (m2 (aB .Eq) (FQ 2) (FQ 3))) [oR A.T,oR A.P,oS y.n,oS z.n,a4] Ω=.nx [oR A.T,oR A.P,oS y.n,oS z.n,some (.bl (decide (y.i=z.i)))] a:=by
  rw[bq,bK,q,ai,s,ai,p];rfl
 have j:aD "Things" "shape_of" (aO 2 2 (oQ c)) (aa 0) (ab (aa 2) af) [oR A.T,oR A.P,oS y.n,oS z.n,some (.bl (decide (y.i=z.i)))] a=.ok (.int y.i) a:=by
  rw[dU d.W rfl (by decide)]
  simp[u]
 have k:aD "Things" "shape_of" (aO 2 2 (oQ c)) (aa 0) (ab (aa 3) af) [oR A.T,oR A.P,oS y.n,oS z.n,some (.bl (decide (y.i=z.i)))] a=.ok (.int z.i) a:=by
  rw[dU d.W rfl (by decide)]
  simp[w]
 unfold NC;rw[ae,x,aw,ae,cY,bK,bK,j,ai,k,ai,Ce,ai];cases decide (y.i=z.i)<;>rfl
theorem y_(H:Ps Ω A L CM cs M)(a:ρ[1]?=some (oR A.P)):bG (aa 1) ρ Ω=.ok (.keys A.P) (Ω.set A.P (.dF (dH M))):=by
 rw[cf,eD,a,eB,ai];exact qB H.pd
theorem CV{m:aL}(u:eo m)(H:Ps Ω A L CM cs M)(w:Ω[A.P]?=some (.dK (dH M)))(S:M.length<=100):∃au,er (aO 5 2 (IH (aO 2 2 (oQ m)))) [.ref A.T,.ref A.P] Ω=.ok (.bl true) au/\Ps au A L CM cs M/\au[A.P]?=some (.dK (dH M)):=by
 have g:∃au,aO 5 2 (IH (aO 2 2 (oQ m))) [.ref A.T,.ref A.P] Ω=.ok (.bl true) au/\Ps au A L CM cs M:=by
  rw[aU (by rfl)]
  have B:aM 5 [D.ref A.T,.ref A.P]=[oR A.T,oR A.P,none,none,none]:=rfl;rw[B];obtain⟨C,o⟩:=H.dg;have j:=y_ (ρ:=[oR A.T,oR A.P,none,none,none]) H rfl;generalize Ω.set A.P (.dF (dH M))=E at *;unfold IH;rw[ae,de,j,bP];refine cp (R:=λr=>∃au,iM (sq r _)=.ok (.bl true) au/\Ps au A L CM cs M) (ds:=(M.map (·.n)).map .str) (λi ρ b=>∃h c a4,ρ=[oR A.T,oR A.P,h,c,a4]/\Ps b A L CM cs M/\b[A.P]?=some (.dF (dH M))) ?_ ?_ ?_ fuel 0 _ _ (by simp;unfold fuel;omega) (Nat.zero_le _) ⟨_,_,_,rfl,C,o⟩
  .rintro i ρ b ⟨_,_,_,_,_,p⟩
   rw[il p,oW]
  .rintro i F ρ b q ⟨h,c,a4,rfl,k,d⟩
   obtain⟨x,s,rfl⟩:=fj q;obtain⟨y,G,rfl⟩:=List.mem_map.mp (List.mem_of_getElem? s);refine⟨[oR A.T,oR A.P,oS y.n,c,a4],rfl,?_⟩;have j:=y_ (ρ:=[oR A.T,oR A.P,oS y.n,c,a4]) k rfl;rw[set_same d]at j;unfold Sv;rw[ae,de,j,bP];refine cp (R:=λr=>yt (sq r _) (λρ a=>∃h c a4,ρ=[oR A.T,oR A.P,h,c,a4]/\Ps a A L CM cs M/\a[A.P]?=some (.dF (dH M))) _) (ds:=(M.map (·.n)).map .str) (λi ρ a=>∃c a4,ρ=[oR A.T,oR A.P,oS y.n,c,a4]/\Ps a A L CM cs M/\a[A.P]?=some (.dF (dH M))) ?_ ?_ ?_ fuel 0 _ _ (by simp;unfold fuel;omega) (Nat.zero_le _) ⟨_,_,rfl,k,d⟩
   .rintro i ρ a ⟨_,_,_,_,p⟩
    rw[il p,oW]
   .rintro U F ρ a q ⟨c,a4,rfl,l,f⟩
    obtain⟨x,s,rfl⟩:=fj q;obtain⟨z,I,rfl⟩:=List.mem_map.mp (List.mem_of_getElem? s);refine⟨[oR A.T,oR A.P,oS y.n,oS z.n,a4],rfl,?_⟩;obtain⟨J,N,e,K⟩:=E_ u l G I (a4:=a4);rw[e];exact⟨_,_,rfl,l.bX K,K.get _ _ f (by simp)⟩
   .rintro ρ a ⟨c,a4,rfl,l,f⟩
    exact⟨_,_,_,rfl,l,f⟩
  .rintro ρ b ⟨h,c,a4,rfl,k,d⟩
   exact⟨b,rfl,k⟩
 obtain⟨au,e,O⟩:=g;obtain⟨Q,t⟩:=H.oT w O;refine⟨eA Ω au,?_,Q,t⟩;unfold er;rw[e]
def II:EM:=(mN (bo .list) (ab (m2 aC (aa 2) (ah (.int 1))) af))
def Lr:SM:=
 (ak (dG (m2 (aB .NotIn) II (aa 1))
 (ak (cA (cE kf dq (aa 1) (ab II af)))
 aj)
 aj)
 aj)
def CW:SM:=(ak (ek (cP 2) (mV (aa 0)) Lr) aj)
theorem CY(Y:Yx Ω d L y)(b:ρ[2]?=some (oR y.j)):II ρ Ω=.ok (.ref Ω.length) (Ω++[.lst ((aQ y.v).map .str)]):=by
 have c:aC (.ref y.j) (.int 1) Ω=.ok (.ref y.o) Ω:=bL Y.R rfl;have a:=oM (.inl Y.O:cq Ω y.o (cj y.v));rw[lX]at a;simp[II,b,c,a]
theorem Ps.came(H:Ps Ω A L CM cs M){row:List Str}(h:Ω[k]?=some (.lst (row.map .str)))(g:k∉ads M++cs)(i:A.n0<=k)(c:k≠A.q):Ps (Ω.set A.q (.lst ((cs++[k]).map .ref))) A L (CM++[row]) (cs++[k]) M:=by
 have j:=H.low;have K:ag [A.q] Ω (Ω.set A.q (.lst ((cs++[k]).map .ref))):=ag.set (by simp)
 have q:∀a∈ads M++cs,a∉[A.q]:=λa h z=>H.nq (List.mem_singleton.mp z▸h)
 refine⟨⟨K.get _ _ H.W.ob (by simp;omega),K.get _ _ H.W.dk (by simp;omega),H.W.sh.keep K (by simp;omega) (by simp;omega) (by simp;omega),H.W.nd,H.W.lt⟩,H.pd.keep K (by simp;omega),λz d=>(H.al z d).keep K (λa ha=>q a (List.mem_append_left _ (lV d a ha))) λ_ _ h=>h,H.nn,⟨aA H.ce.ce,(H.ce.al.keep K λa ha=>q a (List.mem_append_right _ ha)).snoc (K.get _ _ h (by simpa using c))⟩,?_,λa ha=>?_,λz=>?_,H.lt,by rw[List.length_set];exact H.ln,ag.new H.bs K (by have:=H.lb;simp;omega),H.lb⟩
 .rw[←List.append_assoc]
  exact List.nodup_append.mpr ⟨H.nd,by simp,λa ha b f e=>g (by simp at f;subst f;subst e;exact ha)⟩
 .rw[←List.append_assoc]at ha
  rcases List.mem_append.mp ha with ha|ha
  .exact H.lo a ha
  .simp at ha
   omega
 .rw[←List.append_assoc]at z
  rcases List.mem_append.mp z with z|z
  .exact H.nq z
  .exact c (List.mem_singleton.mp z).symm
theorem Ps.old(H:Ps Ω A L CM cs M):∀a∈ads M++cs,a<Ω.length:=λa ha=>by
 rcases List.mem_append.mp ha with ha|ha
 .obtain⟨z,b,ha⟩:=List.mem_flatMap.mp ha
  have Y:=H.al z b;simp only[iw,List.mem_cons,List.not_mem_nil,or_false]at ha;rcases ha with rfl|rfl|rfl|rfl
  .exact bp Y.G.ob
  .exact bp Y.G.sl
  .exact bp Y.R
  .exact bp Y.O
 .exact H.ce.al.lt a ha
theorem Fb(H:Ps Ω A L CM cs M)(s:Ω[A.P]?=some (.dF (dH M)))(m:y∈M)(J:CM.length<=900):∃h au,Lr [oR A.P,oR A.q,oR y.j] Ω=.nx [oR A.P,oR A.q,oR y.j] au/\Ps au A L (bQ CM (aQ y.v)) h M/\au[A.P]?=some (.dF (dH M)):=by
 have K:=H.low;have n:=CY (ρ:=[oR A.P,oR A.q,oR y.j]) (H.al y m) rfl;have t:(Ω++[Cell.lst ((aQ y.v).map .str)])[Ω.length]?=some (.lst ((aQ y.v).map .str)):=av;have o:ag [] Ω (Ω++[Cell.lst ((aQ y.v).map .str)]):=ag.app;generalize Ω++[Cell.lst ((aQ y.v).map .str)]=a at *;have b:=H.bX o;have e:=o.get _ _ s (by simp)
 have c:=yw t b.ce.ce b.ce.al
 by_cases g:aQ y.v∈CM
 .have i:bQ CM (aQ y.v)=CM:=if_pos g
  rw[decide_eq_true g]at c;refine⟨cs,a,?_,by rw[i];exact b,e⟩
  unfold Lr;rw[ae,cY,bK,n,ai];have:aa 1 [oR A.P,oR A.q,oR y.j] a=.ok (.ref A.q) a:=rfl;rw[this,ai,c];rfl
 .have i:bQ CM (aQ y.v)=CM++[aQ y.v]:=if_neg g
  rw[decide_eq_false g]at c;have u:=CY (ρ:=[oR A.P,oR A.q,oR y.j]) (b.al y m) rfl;have w:(a++[Cell.lst ((aQ y.v).map .str)])[a.length]?=some (.lst ((aQ y.v).map .str)):=av;have p:ag [] a (a++[Cell.lst ((aQ y.v).map .str)]):=ag.app;have k:=b.old;have B:=b.ln;have C:=fY b.ce.ce;generalize a++[Cell.lst ((aQ y.v).map .str)]=l at *;have r:=b.bX p;have E:=H.ce.len;have f:=ik (d:=.ref a.length) r.ce.ce (by simp;omega)
  have F:cs.map D.ref++[.ref a.length]=(cs++[a.length]).map .ref:=by simp
  rw[F]at f;have G:=r.came w (λz=>by have:=k _ z;omega) B (by have:=bp b.ce.ce;omega)
  refine⟨_,_,?_,by rw[i];exact G,bj (p.get _ _ e (by simp)) (by omega)⟩
  have I:(cA (cE kf dq (aa 1) (ab II af))) [oR A.P,oR A.q,oR y.j] a=.nx [oR A.P,oR A.q,oR y.j] (l.set A.q (.lst ((cs++[a.length]).map .ref))):=by
   rw[cm,jw (x:=.ref A.q) (au:=a) rfl C,aJ,u,ai,bE,ai,ai,f];rfl
  unfold Lr;rw[ae,cY,bK,n,ai];have:aa 1 [oR A.P,oR A.q,oR y.j] a=.ok (.ref A.q) a:=rfl;rw[this,ai,c,du,bV,dR,bP,if_pos (by rfl),ae,I]
  rfl
def qM(CM:List (List Str))(M:List Tz):List (List Str):=M.foldl (λC y=>bQ C (aQ y.v)) CM
theorem uw:∀{M:List Tz}{CM:List (List Str)},(qM CM M).length<=CM.length+M.length
 |[],_=>by simp[qM]
 |y::M,CM=>by
  have h1:=uw (M:=M) (CM:=bQ CM (aQ y.v));have a:=lU (L:=CM) (ws:=aQ y.v);simp only[qM,List.foldl_cons,List.length_cons]at h1 ⊢;omega
theorem IJ(H:Ps Ω A L CM cs M)(o:Ω[A.P]?=some (.dK (dH M)))(J:M.length<=100)(K:CM.length<=500):∃a au,er (aO 3 2 CW) [.ref A.P,.ref A.q] Ω=.ok .non au/\Ps au A L (qM CM M) a M/\au[A.P]?=some (.dK (dH M)):=by
 have c:∃a au,aO 3 2 CW [.ref A.P,.ref A.q] Ω=.ok .non au/\Ps au A L (qM CM M) a M:=by
  rw[aU (by rfl)]
  have t:aM 3 [D.ref A.P,.ref A.q]=[oR A.P,oR A.q,none]:=rfl;rw[t];obtain⟨u,h⟩:=H.dg
  have w:mV (aa 0) [oR A.P,oR A.q,none] Ω=.ok (.vals A.P) (Ω.set A.P (.dF (dH M))):=by
   show valOf Ω (.ref A.P)=_
   unfold valOf;simp only[o]
  generalize Ω.set A.P (.dF (dH M))=x at *;unfold CW;rw[ae,de,w,bP];refine cp (R:=λr=>∃a au,iM (sq r _)=.ok .non au/\Ps au A L (qM CM M) a M) (ds:=M.map λy=>.ref y.j) (λi f b=>∃k a,f=[oR A.P,oR A.q,k]/\Ps b A L (qM CM (M.take i)) a M/\b[A.P]?=some (.dF (dH M))) ?_ ?_ ?_ fuel 0 _ _ (by simp;unfold fuel;omega) (Nat.zero_le _) ⟨_,_,rfl,u,h⟩
  .rintro i f b ⟨_,_,_,_,z⟩
   simp only[eT,z,dH,List.map_map];rfl
  .rintro i N f b p ⟨k,a,rfl,g,d⟩
   rw[List.getElem?_map]at p;obtain⟨y,s,rfl⟩:=Option.map_eq_some_iff.mp p;refine⟨[oR A.P,oR A.q,oR y.j],rfl,?_⟩
   have B:(qM CM (M.take i)).length<=900:=by
    have C:=uw (M:=M.take i) (CM:=CM);rw[List.length_take]at C;omega
   obtain⟨l,E,e,F,m⟩:=Fb g d (List.mem_of_getElem? s) B;rw[e];refine⟨_,l,rfl,?_,m⟩
   have:qM CM (M.take (i+1))=bQ (qM CM (M.take i)) (aQ y.v):=by
    rw[List.take_succ,s];simp[qM]
   rw[this];exact F
  .rintro f b ⟨k,a,rfl,g,d⟩
   rw[List.length_map,List.take_length]at g;exact⟨a,b,rfl,g⟩
 obtain⟨a,au,e,G⟩:=c;obtain⟨I,n⟩:=H.oT o G;refine⟨a,eA Ω au,?_,I,n⟩;unfold er;rw[e]
theorem sJ:∀{M:List Tz}{CM:List (List Str)},(∀y∈M,aQ y.v∈CM)->qM CM M=CM
 |[],_,_=>rfl
 |y::M,CM,h=>by
  have h1:bQ CM (aQ y.v)=CM:=if_pos (h y (by simp))
  show qM (bQ CM (aQ y.v)) M=CM
  rw[h1];exact sJ λz a=>h z (by simp[a])
theorem ux:∀{M:List Tz}{CM:List (List Str)}{R:List Str},R∉CM->(∀y∈M,aQ y.v∈CM\/aQ y.v=R)->(∃y∈M,aQ y.v=R)->qM CM M=CM++[R]
 |[],_,_,_,_,h=>by obtain⟨y,d,_⟩:=h;cases d
 |y::M,CM,R,c,a,f=>by
  show qM (bQ CM (aQ y.v)) M=_
  by_cases h:aQ y.v=R
  .have b:bQ CM (aQ y.v)=CM++[R]:=by rw[h];exact if_neg c
   rw[b];refine sJ λz hz=>?_
   rcases a z (by simp[hz])with h2|h2
   .exact List.mem_append_left _ h2
   .rw[h2];simp
  .have g:=(a y (by simp)).resolve_right h
   have b:bQ CM (aQ y.v)=CM:=if_pos g;rw[b];refine ux c (λz hz=>a z (by simp[hz])) ?_
   obtain⟨z,hz,e⟩:=f;rcases List.mem_cons.mp hz with rfl|hz
   .exact absurd e h
   .exact⟨z,hz,e⟩
end
section
variable{Ω au aS:az}{ρ:aV}{A:Ae}{L L' CM:List (List Str)}{cs:List Nat}{M M1 M2:List Tz}{y y' z:Tz}{n w kd:Str}{fp:List Nat}{d k h:Nat}{x v0:Int}{v:List (Str×Int)}{F:List D->Out Rs}{μ:Int->Int->Int->Int}{P:Nat->Prop}{E:iY}{N:Str->List Str}{fs:List (Str×D)}{Q:D}{a b c:Option D}
theorem sL:∀{v:List (Str×Int)},(aQ v).Nodup->bI (cj v) (.inr w) (.int x)=cj (cF v w x)
 |[],_=>rfl
 |p::v,i=>by
  have b:=List.nodup_cons.mp i
  by_cases e:p.1=w
  .subst e
   have d:cF (p::v) p.1 x=(p.1,x)::v:=by
    unfold cF;rw[if_pos (by simp)]
    simp
   have f:(cj v).map (λa=>if a.1=(.inr p.1:Key)then (a.1,(.int x:D))else a)=cj v:=by
    refine(List.map_congr_left λa g=>?_).trans (List.map_id _)
    obtain⟨q,j,rfl⟩:=List.mem_map.mp g;rw[if_neg]
    .rfl
    .intro z
     have z:q.1=p.1:=by simpa using z
     exact b.1 (List.mem_map.mpr ⟨q,j,z⟩)
   rw[d];unfold bI;rw[if_pos (by simp[cj])]
   show((if ((.inr p.1:Key),(.int p.2:D)).1=.inr p.1 then _ else _)::(cj v).map _)=_
   rw[if_pos rfl,f];rfl
  .have k:=sL b.2
   have d:cF (p::v) w x=p::cF v w x:=by
    unfold cF
    by_cases c:w∈aQ v
    .rw[if_pos c,if_pos (by simp[aQ]at c ⊢;exact .inr c)]
     have:(aQ (p::v)).idxOf w=(aQ v).idxOf w+1:=by
      show(p.1::aQ v).idxOf w=_
      rw[List.idxOf_cons,beq_eq_false_iff_ne.mpr e];rfl
     rw[this];rfl
    .rw[if_neg c,if_neg (by simp only[aQ,List.map_cons,List.mem_cons,not_or];exact⟨λz=>e z.symm,c⟩)]
     rfl
   have f:bI (cj (p::v)) (.inr w) (.int x)=((.inr p.1:Key),(.int p.2:D))::bI (cj v) (.inr w) (.int x):=by
    have h:¬ ((.inr p.1:Key)=.inr w):=by simpa using e
    unfold bI
    have:((cj (p::v)).any λa=>decide (a.1=(.inr w:Key)))=((cj v).any λa=>decide (a.1=(.inr w:Key))):=by
     show(decide ((.inr p.1:Key)=.inr w)||_)=_
     rw[decide_eq_false h];rfl
    rw[this];split
    .show((if (.inr p.1:Key)=.inr w then _ else _)::_)=_
     rw[if_neg h];rfl
    .rfl
   rw[d,f,k];rfl
theorem uy:∀{v:List (Str×Int)},(aQ v).Nodup->w∈aQ v->gd (cj v) (.inr w)=cj (cN v w)
 |p::v,g,f=>by
  have a:=List.nodup_cons.mp g
  by_cases e:p.1=w
  .subst e
   have b:cN (p::v) p.1=v:=by
    unfold cN;simp
   rw[b];unfold gd
   show(((.inr p.1:Key),(.int p.2:D))::cj v).filter _=_
   rw[List.filter_cons,if_neg (by simp)]
   refine List.filter_eq_self.mpr λk c=>?_
   obtain⟨q,h,rfl⟩:=List.mem_map.mp c;have:q.1≠p.1:=λz=>a.1 (List.mem_map.mpr ⟨q,h,z⟩)
   simpa using this
  .have d:w∈aQ v:=by
    simp only[aQ,List.map_cons,List.mem_cons]at f;exact f.resolve_left λz=>e z.symm
   have i:=uy a.2 d
   have b:cN (p::v) w=p::cN v w:=by
    unfold cN
    have:(aQ (p::v)).idxOf w=(aQ v).idxOf w+1:=by
     show(p.1::aQ v).idxOf w=_
     rw[List.idxOf_cons,beq_eq_false_iff_ne.mpr e];rfl
    rw[this];rfl
   have j:gd (cj (p::v)) (.inr w)=((.inr p.1:Key),(.int p.2:D))::gd (cj v) (.inr w):=by
    unfold gd
    show(((.inr p.1:Key),(.int p.2:D))::cj v).filter _=_
    rw[List.filter_cons,if_pos (by simpa using e)]
   rw[b,j,i];rfl
theorem sM:∀{v:List (Str×Int)},(bx (cj v) (.inr w)).isSome=decide (w∈aQ v)
 |[]=>by simp[cj,bx,aQ]
 |p::v=>by
  have a:=sM (v:=v);rw[cj,List.map_cons,cC]
  by_cases e:p.1=w
  .rw[if_pos (by rw[e]),decide_eq_true (by simp[aQ,e])]
   rfl
  .rw[if_neg (by simpa using e)]
   have:decide (w∈aQ (p::v))=decide (w∈aQ v):=by
    simp only[aQ,List.map_cons,List.mem_cons]
    congr 1
    exact propext ⟨λh=>h.resolve_left λz=>e z.symm,.inr⟩
   rw[this];exact a
theorem Cf(h:∀u∈aQ v,iv u)(b:iv w):∀u∈aQ (cF v w x),iv u:=by
 unfold cF;split
 .rename_i c
  rw[ky c];exact h
 .intro u a
  simp only[aQ,List.map_append,List.map_cons,List.map_nil,List.mem_append,List.mem_singleton]at a;rcases a with a|rfl
  .exact h u a
  .exact b
theorem za{u:Str}(h:u∈aQ (cN v w)):u∈aQ v:=by
 obtain⟨p,a,rfl⟩:=List.mem_map.mp h;exact List.mem_map.mpr ⟨p,List.mem_of_mem_eraseIdx a,rfl⟩
structure Q4(Ω:az)(A:Ae)(L CM:List (List Str))(cs:List Nat)(M:List Tz)(ns:List Str):Prop where
 H:Ps Ω A L CM cs M
 p:Ω[A.P]?=some (.dK (dH M))
 z:L[0]?=some []
 i:∀y∈M,y.n∈ns
 u:∀y∈M,∀w∈aQ y.v,iv w
def Fc(L a:List (List Str))(b:List Tz):Prop:=a=L\/∃R,R∉L/\a=L++[R]/\∃y∈b,aQ y.v=R
theorem uz(h:y∈M):Fc L (bQ L (aQ y.v)) M:=by
 by_cases a:aQ y.v∈L
 .exact .inl (if_pos a)
 .exact .inr ⟨_,a,if_neg a,y,h,rfl⟩
abbrev vE(A:Ae)(Q:D)(x:Int)(a b c:Option D)(n kd w:Str)(v:Int)(o:Option D):aV:=[oR A.T,oR A.P,some Q,oI x,a,b,c,oS n,oS kd,oS w,oI v,o]
def Ls(a:aL):SM:=(ak (cQ (aa 1) (aa 7) (mN bH (ab (aa 8) (ab br af))))
 (ak (bD (m2 (aB .Is) (aD "Things" "make" a (aa 0) (ab (aa 7) (ab (aa 8) af))) (ah .non)))
 aj))
theorem zb:aB .Is .non .non Ω=.ok (.bl true) Ω:=rfl
theorem oX{f:Tz->D}(b:y.n∉M.map (·.n)):bI (M.map λy=>((.inr y.n:Key),f y)) (.inr y.n) (f y)=(M++[y]).map λy=>((.inr y.n:Key),f y):=by
 rw[um,List.map_append]
 .rfl
 .intro a
  rw[List.map_map]at a;obtain⟨z,c,e⟩:=List.mem_map.mp a;exact b (List.mem_map.mpr ⟨z,c,by simpa using e⟩)
theorem Fd{U V:aL}(hI:ip U)(hC:iq V){ns:List Str}(H:Q4 Ω A L CM cs M ns)(ht:A.vQ[A.t]?=some (.ins "Town" (("house",.ref h)::fs)))(hs:cX P A.vQ h E N)(hk:kd∈nms E)(hv:iv n)(B:n∉M.map (·.n))(hi:n∈ns)(hl:M.length<40) :
  ∃X au,Ls (aO 3 3 (yW U V (aO 2 2 vO))) (vE A Q x a b c n kd w v0 none) Ω=.rt (.bl true) au/\Q4 au A L CM cs X ns/\X.length<=M.length+1:=by
 have lw:=H.H.low;have C:ag [] Ω (Ω++[.dK [],.lst [.str kd,.ref Ω.length]]):=ag.app;have g1:(Ω++[Cell.dK [],.lst [.str kd,.ref Ω.length]])[Ω.length]?=some (.dK []):=av;have g2:(Ω++[Cell.dK [],.lst [.str kd,.ref Ω.length]])[Ω.length+1]?=some (.lst [.str kd,.ref Ω.length]):=by rw[List.getElem?_append_right (by omega)];simp
 have l1:(Ω++[Cell.dK [],.lst [.str kd,.ref Ω.length]]).length=Ω.length+2:=by simp
 have e1:(mN bH (ab (aa 8) (ab br af))) (vE A Q x a b c n kd w v0 none) Ω=.ok (.ref (Ω.length+1)) (Ω++[.dK [],.lst [.str kd,.ref Ω.length]]):=by
  simp[br,aG]
 generalize Ω++[Cell.dK [],.lst [.str kd,.ref Ω.length]]=g at *;have Y:=C.get _ _ H.p (by simp)
 have F:(dH M).length<=1000:=by simp[dH];omega
 have hd:=lP (n:=n) (d:=.ref (Ω.length+1)) Y F
 have r1:(cQ (aa 1) (aa 7) (mN bH (ab (aa 8) (ab br af)))) (vE A Q x a b c n kd w v0 none) Ω=.nx (vE A Q x a b c n kd w v0 none) (g.set A.P (.dK (bI (dH M) (.inr n) (.ref (Ω.length+1))))):=by
  unfold cQ;rw[e1,bP];have h1:aa 1 (vE A Q x a b c n kd w v0 none) g=.ok (.ref A.P) g:=rfl;have h2:aa 7 (vE A Q x a b c n kd w v0 none) g=.ok (.str n) g:=rfl;rw[h1,bP,h2,bP,hd]
 have l:ag [A.P] g (g.set A.P (.dK (bI (dH M) (.inr n) (.ref (Ω.length+1))))):=ag.set (by simp)
 have g3:=aA (e:=.dK (bI (dH M) (.inr n) (.ref (Ω.length+1)))) Y;have G:=l.get _ _ g1 (by have:=bp H.p;simp;omega)
 have I:=l.get _ _ g2 (by have:=bp H.p;simp;omega)
 have l2:(g.set A.P (.dK (bI (dH M) (.inr n) (.ref (Ω.length+1))))).length=Ω.length+2:=by simp[l1]
 have J:Tn (g.set A.P (.dK (bI (dH M) (.inr n) (.ref (Ω.length+1))))) A.T A.t A.s A.r A.m A.d (gj M) L:=(H.H.W.bX C).keep l (by simp;omega)
 have Z:ag [] A.vQ (g.set A.P (.dK (bI (dH M) (.inr n) (.ref (Ω.length+1))))):=ag.new (H.H.bs.trans C) l (by have:=H.H.lb;simp;omega)
 generalize g.set A.P (.dK (bI (dH M) (.inr n) (.ref (Ω.length+1))))=o at *;obtain⟨k,K,e3,W3,G3,D,lc⟩:=CQ (n:=n) (kd:=kd) hI hC J (Z.get _ _ ht (by simp)) (hs.keep Z) hk hv (sH (f:=λy=>.ref y.c) B) (by simp[gj];omega) H.z
 have O:bI (gj M) (.inr n) (.ref k)=gj (M++[⟨n,k,k+1,0,kd,[],Ω.length+1,Ω.length⟩]):=oX (y:=⟨n,k,k+1,0,kd,[],Ω.length+1,Ω.length⟩) (f:=λy=>.ref y.c) B
 have R:bI (dH M) (.inr n) (.ref (Ω.length+1))=dH (M++[⟨n,k,k+1,0,kd,[],Ω.length+1,Ω.length⟩]):=oX (y:=⟨n,k,k+1,0,kd,[],Ω.length+1,Ω.length⟩) (f:=λy=>.ref y.j) B
 rw[O]at W3;have S:=D.get _ _ g3 (by simp;omega)
 rw[R]at S;have ld:=bp J.dk;have a0:=bp H.H.W.dk;refine⟨M++[⟨n,k,k+1,0,kd,[],Ω.length+1,Ω.length⟩],K,?_,⟨H.H.more (((C.sub (by simp)).trans (l.sub (by simp))).trans (D.sub (by simp))) B W3 (.inl S) ⟨G3,D.get _ _ I (by simp;omega),D.get _ _ G (by simp;omega)⟩ (λq hq=>?_) ?_,S,H.z,λz hz=>?_,λz hz=>?_⟩,by simp⟩
 .unfold Ls
  rw[ae,r1,aw,ae,b_,bK,dU J rfl (by decide)]
  have:(ab (aa 7) (ab (aa 8) af):AM) (vE A Q x a b c n kd w v0 none) o=.ok [.str n,.str kd] o:=rfl;rw[this,ai,e3,fV,ai,bU,ai,zb];rfl
 .simp only[iw,List.mem_cons,List.not_mem_nil,or_false]at hq
  omega
 .simp only[iw,List.nodup_cons,List.mem_cons,List.not_mem_nil,or_false,not_or,List.nodup_nil,and_true,not_false_eq_true]
  omega
 .rcases List.mem_append.mp hz with hz|hz
  .exact H.i z hz
  .rw[List.mem_singleton.mp hz]
   exact hi
 .rcases List.mem_append.mp hz with hz|hz
  .exact H.u z hz
  .rw[List.mem_singleton.mp hz]
   simp
def ND(a b:aL):SM:=(ak (cQ (aa 11) (aa 9) (mN (ba a) (ab (aa 3) af)))
 (ak (bD (m2 (aB .Is) (aD "Things" "put" b (aa 0) (ab (aa 7) (ab (aa 9) (ab (m2 aC (aa 11) (aa 9)) af)))) (ah .non)))
 aj))
theorem Q4.of{ns:List Str}(h:Q4 Ω A L CM cs (M1++y::M2) ns)(b:Ps au A L' CM cs (M1++y'::M2))(c:au[A.P]?=Ω[A.P]?)(hz:L'[0]?=some [])(a:y'.n=y.n)(d:y'.j=y.j)(e:∀u∈aQ y'.v,iv u):Q4 au A L' CM cs (M1++y'::M2) ns:=by
 refine⟨b,?_,hz,λz hz=>?_,λz hz=>?_⟩
 .rw[c,h.p]
  simp[dH,a,d]
 .rcases List.mem_append.mp hz with hz|hz
  .exact h.i z (by simp[hz])
  .rcases List.mem_cons.mp hz with rfl|hz
   .rw[a];exact h.i y (by simp)
   .exact h.i z (by simp[hz])
 .rcases List.mem_append.mp hz with hz|hz
  .exact h.u z (by simp[hz])
  .rcases List.mem_cons.mp hz with rfl|hz
   .exact e
   .exact h.u z (by simp[hz])
theorem Ps.out(H:Ps Ω A L CM cs (M1++y::M2)):A.P∉[A.r,A.m]++iw y/\A.d<y.c/\A.d<y.l/\A.d<y.j/\A.d<y.o/\A.P<y.c/\A.P<y.l/\A.P<y.j/\A.P<y.o/\y.c≠y.j/\y.c≠y.o/\y.l≠y.j/\y.l≠y.o/\y.j≠y.o/\y.c≠y.l:=by
 have f:=H.low;have b:=H.hi (y:=y) (by simp)
 have g:=b y.c (by simp)
 have h:=b y.l (by simp)
 have i:=b y.j (by simp)
 have k:=b y.o (by simp)
 have e:=H.nd;rw[jc]at e;have a:=(List.nodup_append.mp (List.nodup_append.mp (List.nodup_append.mp e).1).2.1).1;simp only[iw,List.nodup_cons,List.mem_cons,List.not_mem_nil,or_false,not_or,List.nodup_nil,and_true,not_false_eq_true]at a;refine⟨?_,by omega,by omega,by omega,by omega,by omega,by omega,by omega,by omega,a.1.2.1,a.1.2.2,a.2.1.1,a.2.1.2,a.2.2,a.1.1⟩
 simp only[List.cons_append,List.nil_append,List.mem_cons,List.not_mem_nil,or_false];omega
theorem Fe{S U V X:aL}(hI:ip S)(hT:eo U)(hS:hX V)(hG:jX X){ns:List Str}(H:Q4 Ω A L CM cs (M1++y::M2) ns)(Z:iv w)(hl:L.length<=500)(hx:w∈aQ y.v\/y.v.length<12) :
  ∃D E au,ND (aO 1 1 FP) (aO 6 4 (vL S U V X)) (vE A Q x a b c y.n kd w v0 (oR y.o)) Ω=.rt (.bl true) au/\Q4 au A D CM cs E ns/\Fc L D E/\E.length<=(M1++y::M2).length+1:=by
 obtain⟨f,q⟩:=IG x;have Y:=H.H.al y (by simp)
 obtain⟨nP,o1,o2,o3,o4,o5,o6,o7,o8,o9,F,a0,I,J,b0⟩:=H.H.out;have hd:=lP (n:=w) (d:=.int f) Y.O (by have:=Y.G.le;simp[cj];omega)
 rw[sL Y.G.nd]at hd
 have r1:(cQ (aa 11) (aa 9) (mN (ba (aO 1 1 FP)) (ab (aa 3) af))) (vE A Q x a b c y.n kd w v0 (oR y.o)) Ω=.nx (vE A Q x a b c y.n kd w v0 (oR y.o)) (Ω.set y.o (.dK (cj (cF y.v w f)))):=by
  simp[cQ,q,hd]
 have K1:ag ([A.r,A.m]++iw y) Ω (Ω.set y.o (.dK (cj (cF y.v w f)))):=ag.set (by simp)
 have i:ag [y.o] Ω (Ω.set y.o (.dK (cj (cF y.v w f)))):=ag.set (by simp)
 have g1:=aA (e:=.dK (cj (cF y.v w f))) Y.O;have W1:Tn (Ω.set y.o (.dK (cj (cF y.v w f)))) A.T A.t A.s A.r A.m A.d (gj (M1++y::M2)) L:=H.H.W.keep i (by simpa using o4)
 have G1:=Y.G.keep i (by simpa using F) (by simpa using I)
 have R1:=i.get _ _ Y.R (by simpa using J)
 have P1:=bj (e:=.dK (cj (cF y.v w f))) H.p (show A.P≠y.o by omega)
 generalize Ω.set y.o (.dK (cj (cF y.v w f)))=g at *;obtain⟨K,D,B,e2,W2,G2,C,rfl⟩:=CO hI hT hS hG W1 (f9 H.H.nn) G1 Z hl (x:=f) hx;have M:ag ([A.r,A.m]++iw y) g B:=C.sub (by simp)
 have R2:=C.get _ _ R1 (by have:=H.H.low;simp;omega)
 have g2:=C.get _ _ g1 (by have:=H.H.low;simp;omega)
 have P2:=C.get _ _ P1 (by have:=H.H.low;simp;omega)
 have H2:=H.H.upd (y':=⟨y.n,y.c,y.l,K,y.k,cF y.v w f,y.j,y.o⟩) (K1.trans M) W2 (λj c0 h=>fE h) rfl rfl ⟨G2,R2,g2⟩
 have N:aC (.ref y.o) (.str w) g=.ok (.int f) g:=h_ (.inl g1:cq g y.o _) (by rw[←sL Y.G.nd];rw[vK,if_pos rfl])
 refine⟨_,M1++⟨y.n,y.c,y.l,K,y.k,cF y.v w f,y.j,y.o⟩::M2,B,?_,H.of H2 (P2.trans H.p.symm) (fE H.z) rfl rfl (Cf (H.u y (by simp)) Z),uz (y:=⟨y.n,y.c,y.l,K,y.k,cF y.v w f,y.j,y.o⟩) (by simp),by simp⟩
 unfold ND;rw[ae,r1,aw,ae,b_,bK,dU W1 rfl (by decide)]
 have:(ab (aa 7) (ab (aa 9) (ab (m2 aC (aa 11) (aa 9)) af)):AM) (vE A Q x a b c y.n kd w v0 (oR y.o)) g=.ok [.str y.n,.str w,.int f] g:=by
  simp[N]
 rw[this,ai,e2,fV,ai,bU,ai,zb];rfl
def NF(a:aL):SM:=(ak (cA (qL (aa 11) (ab (aa 9) af)))
 (ak (bD (m2 (aB .Is) (aD "Things" "take" a (aa 0) (ab (aa 7) (ab (aa 9) af))) (ah .non)))
 aj))
theorem Ff{N S U:aL}(X:eo N)(Z:hX S)(hI:jY U){ns:List Str}(H:Q4 Ω A L CM cs (M1++y::M2) ns)(hl:L.length<=500)(B:w∈aQ y.v) :
  ∃C D au,NF (aO 5 3 (vM N S U)) (vE A Q x a b c y.n kd w v0 (oR y.o)) Ω=.rt (.bl true) au/\Q4 au A C CM cs D ns/\Fc L C D/\D.length<=(M1++y::M2).length+1:=by
 have Y:=H.H.al y (by simp)
 obtain⟨nP,o1,o2,o3,o4,o5,o6,o7,o8,o9,E,a0,F,I,b0⟩:=H.H.out
 have J:∃d,bx (cj y.v) (.inr w)=some d:=by
  have:=sM (w:=w) (v:=y.v);rw[decide_eq_true B]at this;exact Option.isSome_iff_exists.mp this
 obtain⟨dv,J⟩:=J
 have r1:(cA (qL (aa 11) (ab (aa 9) af))) (vE A Q x a b c y.n kd w v0 (oR y.o)) Ω=.nx (vE A Q x a b c y.n kd w v0 (oR y.o)) (Ω.set y.o (.dK (cj (cN y.v w)))):=by
  rw[cm,oV (k:=y.o) (yv:=.str w) rfl rfl Y.O rfl J,uy Y.G.nd B];rfl
 have K1:ag ([A.r,A.m]++iw y) Ω (Ω.set y.o (.dK (cj (cN y.v w)))):=ag.set (by simp)
 have f:ag [y.o] Ω (Ω.set y.o (.dK (cj (cN y.v w)))):=ag.set (by simp)
 have g1:=aA (e:=.dK (cj (cN y.v w))) Y.O;have V:Tn (Ω.set y.o (.dK (cj (cN y.v w)))) A.T A.t A.s A.r A.m A.d (gj (M1++y::M2)) L:=H.H.W.keep f (by simpa using o4)
 have G1:=Y.G.keep f (by simpa using E) (by simpa using F)
 have R1:=f.get _ _ Y.R (by simpa using I)
 have P1:=bj (e:=.dK (cj (cN y.v w))) H.p (show A.P≠y.o by omega)
 generalize Ω.set y.o (.dK (cj (cN y.v w)))=g at *;obtain⟨K,C,i,e2,W2,G2,q,rfl⟩:=CP X Z hI V (f9 H.H.nn) G1 hl B;have M:ag ([A.r,A.m]++iw y) g i:=q.sub (by simp)
 have R2:=q.get _ _ R1 (by have:=H.H.low;simp;omega)
 have g2:=q.get _ _ g1 (by have:=H.H.low;simp;omega)
 have P2:=q.get _ _ P1 (by have:=H.H.low;simp;omega)
 have H2:=H.H.upd (y':=⟨y.n,y.c,y.l,K,y.k,cN y.v w,y.j,y.o⟩) (K1.trans M) W2 (λj c0 h=>fE h) rfl rfl ⟨G2,R2,g2⟩
 refine⟨_,M1++⟨y.n,y.c,y.l,K,y.k,cN y.v w,y.j,y.o⟩::M2,i,?_,H.of H2 (P2.trans H.p.symm) (fE H.z) rfl rfl (λu hu=>H.u y (by simp) u (za hu)),uz (y:=⟨y.n,y.c,y.l,K,y.k,cN y.v w,y.j,y.o⟩) (by simp),by simp⟩
 unfold NF;rw[ae,r1,aw,ae,b_,bK,dU V rfl (by decide)]
 have:(ab (aa 7) (ab (aa 9) af):AM) (vE A Q x a b c y.n kd w v0 (oR y.o)) g=.ok [.str y.n,.str w] g:=rfl;rw[this,ai,e2,fV,ai,bU,ai,zb];rfl
def NG(a:aL):SM:=(ak (cQ (m2 aC (aa 1) (aa 7)) (ah (.int 0)) (aa 8))
 (ak (bD (m2 (aB .Is) (aD "Things" "move" a (aa 0) (ab (aa 7) (ab (aa 8) af))) (ah .non)))
 aj))
theorem Fg{K M:aL}(X:eo K)(Z:iq M){ns:List Str}(H:Q4 Ω A L CM cs (M1++y::M2) ns)(ht:A.vQ[A.t]?=some (.ins "Town" (("house",.ref h)::fs)))(hs:cX P A.vQ h E N)(hk:kd∈nms E) :
  ∃S B au,NG (aO 4 3 (Im K M)) (vE A Q x a b c y.n kd w v0 (oR y.o)) Ω=.rt (.bl true) au/\Q4 au A S CM cs B ns/\Fc L S B/\B.length<=(M1++y::M2).length+1:=by
 have Y:=H.H.al y (by simp)
 have lw:=H.H.low;obtain⟨nP,o1,o2,o3,o4,o5,o6,o7,o8,o9,a0,C,b0,D,c0⟩:=H.H.out;have F:=h_ H.H.pd (lW H.H.nn);have hd:=yV (x:=.str kd) (j:=0) Y.R (by simp)
 have r1:(cQ (m2 aC (aa 1) (aa 7)) (ah (.int 0)) (aa 8)) (vE A Q x a b c y.n kd w v0 (oR y.o)) Ω=.nx (vE A Q x a b c y.n kd w v0 (oR y.o)) (Ω.set y.j (.lst [.str kd,.ref y.o])):=by
  have h8:aa 8 (vE A Q x a b c y.n kd w v0 (oR y.o)) Ω=.ok (.str kd) Ω:=rfl;have h1:(m2 aC (aa 1) (aa 7)) (vE A Q x a b c y.n kd w v0 (oR y.o)) Ω=.ok (.ref y.j) Ω:=F;unfold cQ;rw[h8,bP,h1,bP,bU,bP]
  show(match gI (.ref y.j) (.int ((0:Nat):Int)) (.str kd) Ω with|some I=>gi.nx _ I|none=>.bad)=_
  rw[hd];rfl
 have K1:ag ([A.r,A.m]++iw y) Ω (Ω.set y.j (.lst [.str kd,.ref y.o])):=ag.set (by simp)
 have f:ag [y.j] Ω (Ω.set y.j (.lst [.str kd,.ref y.o])):=ag.set (by simp)
 have g1:=aA (e:=.lst [.str kd,.ref y.o]) Y.R;have U:Tn (Ω.set y.j (.lst [.str kd,.ref y.o])) A.T A.t A.s A.r A.m A.d (gj (M1++y::M2)) L:=H.H.W.keep f (by simpa using o3)
 have G1:=Y.G.keep f (by simpa using o9) (by simpa using C)
 have O1:=f.get _ _ Y.O (by simpa using Ne.symm D)
 have P1:=bj (e:=.lst [.str kd,.ref y.o]) H.p (show A.P≠y.j by omega)
 have V:ag [] A.vQ (Ω.set y.j (.lst [.str kd,.ref y.o])):=ag.new H.H.bs f (by have:=H.H.lb;simp;omega)
 generalize Ω.set y.j (.lst [.str kd,.ref y.o])=g at *;obtain⟨k,e2,W2,G2,q⟩:=Io X Z U (f9 H.H.nn) G1 (V.get _ _ ht (by simp)) (hs.keep V) hk
 have J:ag ([A.r,A.m]++iw y) g k:=q.sub (by simp)
 have R2:=q.get _ _ g1 (by simp;omega)
 have O2:=q.get _ _ O1 (by simp;omega)
 have P2:=q.get _ _ P1 (by simp;omega)
 have H2:=H.H.upd (y':=⟨y.n,y.c,y.l,y.i,kd,y.v,y.j,y.o⟩) (K1.trans J) W2 (λj e0 h=>h) rfl rfl ⟨G2,R2,O2⟩
 refine⟨L,M1++⟨y.n,y.c,y.l,y.i,kd,y.v,y.j,y.o⟩::M2,k,?_,H.of H2 (P2.trans H.p.symm) H.z rfl rfl (H.u y (by simp)),.inl rfl,by simp⟩
 unfold NG;rw[ae,r1,aw,ae,b_,bK,dU U rfl (by decide)]
 have:(ab (aa 7) (ab (aa 8) af):AM) (vE A Q x a b c y.n kd w v0 (oR y.o)) g=.ok [.str y.n,.str kd] g:=rfl;rw[this,ai,e2,fV,ai,bU,ai,zb];rfl
def NH(a:aL):SM:=(ak (cA (qL (aa 1) (ab (aa 7) af)))
 (ak (bD (m2 (aB .Is) (aD "Things" "drop" a (aa 0) (ab (aa 7) af)) (ah .non)))
 aj))
theorem Fh{B:aL}(G:eo B){ns:List Str}(H:Q4 Ω A L CM cs (M1++y::M2) ns){o:Option D} :
  ∃C h au,NH (aO 2 2 (zj B)) (vE A Q x a b c y.n kd w v0 o) Ω=.rt (.bl true) au/\Q4 au A C CM cs h ns/\Fc L C h/\h.length<=(M1++y::M2).length+1:=by
 have O:=H.H.low
 have I:(cA (qL (aa 1) (ab (aa 7) af))) (vE A Q x a b c y.n kd w v0 o) Ω=.nx (vE A Q x a b c y.n kd w v0 o) (Ω.set A.P (.dK (dH (M1++M2)))):=by
  rw[cm,oV (k:=A.P) (yv:=.str y.n) rfl rfl H.p rfl (lW H.H.nn)];unfold dH;rw[qJ (f:=λy=>.ref y.j) H.H.nn]
  rfl
 have E:ag [A.P] Ω (Ω.set A.P (.dK (dH (M1++M2)))):=ag.set (by simp)
 have J:=aA (e:=.dK (dH (M1++M2))) H.p;have l:Tn (Ω.set A.P (.dK (dH (M1++M2)))) A.T A.t A.s A.r A.m A.d (gj (M1++y::M2)) L:=H.H.W.keep E (by simp;omega)
 generalize Ω.set A.P (.dK (dH (M1++M2)))=g at *;have K:=CT G l H.H.nn;have M:ag [A.d] g (g.set A.d (.dK (gj (M1++M2)))):=ag.set (by simp)
 have N:=aA (e:=.dK (gj (M1++M2))) l.dk;have F:=bj (e:=.dK (gj (M1++M2))) J (show A.P≠A.d by omega)
 generalize g.set A.d (.dK (gj (M1++M2)))=q at *;refine⟨L,M1++M2,q,?_,⟨H.H.drop ((E.sub (by simp)).trans (M.sub (by simp))) N (.inl F),F,H.z,λz hz=>H.i z ?_,λz hz=>H.u z ?_⟩,.inl rfl,by simp;omega⟩
 .unfold NH
  rw[ae,I,aw,ae,b_,bK,dU l rfl (by decide)]
  have:(ab (aa 7) af:AM) (vE A Q x a b c y.n kd w v0 o) g=.ok [.str y.n] g:=rfl;rw[this,ai,K,fV,ai,bU,ai,zb];rfl
 .rcases List.mem_append.mp hz with hz|hz<;>simp[hz]
 .rcases List.mem_append.mp hz with hz|hz<;>simp[hz]
end
section
variable{Ω au aS:az}{ρ:aV}{A:Ae}{L L' CM:List (List Str)}{cs:List Nat}{M M1 M2:List Tz}{y y' z:Tz}{n w kd:Str}{fp:List Nat}{d k h q:Nat}{x v0:Int}{F:List D->Out Rs}{μ:Int->Int->Int->Int}{Q:D}{a b c:Option D}{ns ks ws:List Str}{nq kq wq:Nat}
abbrev cS(a b wq:Nat):D:=.tup [.ref a,.ref b,.ref wq]
abbrev lE(A:Ae)(a b wq:Nat)(x:Int)(n kd w:Str)(v:Int)(o:Option D):aV:=vE A (cS a b wq) x (oR a) (oR b) (oR wq) n kd w v o
abbrev Fi(F:List D->Out Rs)(b a d f g e:aL)(c:(List D->Out Rs)->aL->aL->aL->aL->aL->aL->SM):aL:=aO 12 4 (c F (aO 1 1 FP) (aO 3 3 (yW b e (aO 2 2 vO))) (aO 6 4 (vL b a d f)) (aO 5 3 (vM a d g)) (aO 4 3 (Im a e)) (aO 2 2 (zj a)))
def CZ(F:List D->Out Rs)(a:Nat)(t:Int):EM:=(m2 aC (aa a) (mN (di F) (ab (aa 3) (ab (ah (.int t)) (ab (mN (bo .len) (ab (aa a) af)) af)))))
theorem zc(d:jK μ F){a:Nat}{t:Int}(g:ρ[a]?=some (oR q))(h:ρ[3]?=some (oI x))(e:Ω[q]?=some (.lst (ws.map .str)))(m:0<ws.length)(i:0<=t)(n:t<1000):∃w∈ws,CZ F a t ρ Ω=.ok (.str w) Ω:=by
 have c:=eE e;rw[List.length_map]at c;obtain⟨o,p,k⟩:=d x t ws.length i (by omega) (by omega)
 generalize μ x t ws.length=r at *;obtain⟨b,rfl⟩:∃b:Nat,(b:Int)=r:=⟨r.toNat,by omega⟩
 obtain⟨w,f⟩:∃w,ws[b]?=some w:=⟨ws[b]'(by omega),List.getElem?_eq_getElem _⟩
 have l:=bL e (L2.dI (xs:=ws.map D.str) (j:=b) (v:=.str w) (by simp[f]))
 refine⟨w,List.mem_of_getElem? f,?_⟩;simp[CZ,g,h,c,k,l]
structure FR(A:Ae)(nq kq wq h:Nat)(ns ks ws:List Str):Prop where
 n:A.vQ[nq]?=some (.lst (ns.map .str))
 k:A.vQ[kq]?=some (.lst (ks.map .str))
 w:A.vQ[wq]?=some (.lst (ws.map .str))
 t:∃fs,A.vQ[A.t]?=some (.ins "Town" (("house",.ref h)::fs))
 h:cX BY A.vQ h (bare ks) λn=>[n]
 vn:∀u∈ns,iv u
 vw:∀u∈ws,iv u
 ln:ns.length=5
 lk:ks.length=3
 lw:1<=ws.length/\ws.length<=14
 nw:ws.Nodup
def dA(y:Int):EM:=(m2 (aB .Lt) (aa 10) (ah (.int y)))
def C1(F:List D->Out Rs)(a b c d e f:aL):SM:=
 (ak (xN [4,5,6] (aa 2))
 (ak (aH 7 (CZ F 4 0))
 (ak (aH 8 (CZ F 5 1))
 (ak (aH 9 (CZ F 6 2))
 (ak (aH 10 (mN (di F) (ab (aa 3) (ab (ah (.int 3)) (ab (ah (.int 9)) af)))))
 (ak (dG (m2 (aB .NotIn) (aa 7) (aa 1)) (Ls b) aj)
 (ak (aH 11 (m2 aC (m2 aC (aa 1) (aa 7)) (ah (.int 1))))
 (ak (dG (fC (dA 5) (CA (m2 (aB .In) (aa 9) (aa 11)) (m2 (aB .Lt) (mN (bo .len) (ab (aa 11) af)) (ah (.int 12))))) (ND a c) aj)
 (ak (dG (fC (dA 7) (m2 (aB .In) (aa 9) (aa 11))) (NF d) aj)
 (ak (dG (m2 (aB .Eq) (aa 10) (ah (.int 7))) (NG e) aj)
 (ak (dG (m2 (aB .Eq) (aa 10) (ah (.int 8))) (NH f) aj)
 (ak (bD (ah (.bl true)))
 aj))))))))))))
theorem eP{c:EM}{s t:SM}{b:Bool}(h:c ρ Ω=.ok (.bl b) Ω):dG c s t ρ Ω=if b=true then s ρ Ω else t ρ Ω:=by
 rw[cY,h,du,bV,dR,bP]
theorem jd{r:gi}{b:SM}{d:D}(h:r=.rt d Ω):sq r b=.rt d Ω:=by rw[h];rfl
theorem int_lt{i j:Int}:aB .Lt (.int i) (.int j) Ω=.ok (.bl (decide (i<j))) Ω:=by simp[dD]
theorem zd{i j:Int}:aB .Eq (.int i) (.int j) Ω=.ok (.bl (decide (i=j))) Ω:=by
 by_cases h:i=j<;>simp[h]
abbrev lD(A:Ae)(Q:D)(x:Int)(l:aV):aV:=[oR A.T,oR A.P,some Q,oI x]++l
theorem IK(q:jK μ F){X TH SO GR WI Z:aL}(hI:ip X)(N:eo TH)(hS:hX SO)(hG:jX GR)(hW:jY WI)(hC:iq Z)(B:FR A nq kq wq h ns ks ws)(H:Q4 Ω A L CM cs M ns)(hl:L.length<=500)(hm:M.length<40) :
  ∃p i au,Fi F X TH SO GR WI Z C1 [.ref A.T,.ref A.P,cS nq kq wq,.int x] Ω=.ok (.bl true) au/\Q4 au A p CM cs i ns/\Fc L p i/\i.length<=M.length+1:=by
 unfold Fi;rw[aU (by rfl)]
 have e0:aM 12 [D.ref A.T,.ref A.P,cS nq kq wq,.int x]=(lD A (cS nq kq wq) x [none,none,none,none,none,none,none,none]):=rfl;rw[e0];have bs:=H.H.bs;have ln:=B.ln;have lk:=B.lk;have lw:=B.lw;have r0:(xN [4,5,6] (aa 2)) (lD A (cS nq kq wq) x [none,none,none,none,none,none,none,none]) Ω=.nx (lD A (cS nq kq wq) x [oR nq,oR kq,oR wq,none,none,none,none,none]) Ω:=rfl;obtain⟨n,hn,e1⟩:=zc (Ω:=Ω) q (a:=4) (t:=0) (ρ:=(lD A (cS nq kq wq) x [oR nq,oR kq,oR wq,none,none,none,none,none])) rfl rfl (bs.get _ _ B.n (by simp)) (by omega) (by omega) (by omega)
 have r1:(aH 7 (CZ F 4 0)) (lD A (cS nq kq wq) x [oR nq,oR kq,oR wq,none,none,none,none,none]) Ω=.nx (lD A (cS nq kq wq) x [oR nq,oR kq,oR wq,oS n,none,none,none,none]) Ω:=by
  rw[bq,e1];rfl
 obtain⟨kd,a0,e2⟩:=zc (Ω:=Ω) q (a:=5) (t:=1) (ρ:=(lD A (cS nq kq wq) x [oR nq,oR kq,oR wq,oS n,none,none,none,none])) rfl rfl (bs.get _ _ B.k (by simp)) (by omega) (by omega) (by omega)
 have r2:(aH 8 (CZ F 5 1)) (lD A (cS nq kq wq) x [oR nq,oR kq,oR wq,oS n,none,none,none,none]) Ω=.nx (lD A (cS nq kq wq) x [oR nq,oR kq,oR wq,oS n,oS kd,none,none,none]) Ω:=by
  rw[bq,e2];rfl
 obtain⟨w,b0,e3⟩:=zc (Ω:=Ω) q (a:=6) (t:=2) (ρ:=(lD A (cS nq kq wq) x [oR nq,oR kq,oR wq,oS n,oS kd,none,none,none])) rfl rfl (bs.get _ _ B.w (by simp)) (by omega) (by omega) (by omega)
 have r3:(aH 9 (CZ F 6 2)) (lD A (cS nq kq wq) x [oR nq,oR kq,oR wq,oS n,oS kd,none,none,none]) Ω=.nx (lD A (cS nq kq wq) x [oR nq,oR kq,oR wq,oS n,oS kd,oS w,none,none]) Ω:=by
  rw[bq,e3];rfl
 obtain⟨y0,y1,hy⟩:=q x 3 9 (by omega) (by omega) (by omega)
 generalize μ x 3 9=v0 at *;have r4:(aH 10 (mN (di F) (ab (aa 3) (ab (ah (.int 3)) (ab (ah (.int 9)) af))))) (lD A (cS nq kq wq) x [oR nq,oR kq,oR wq,oS n,oS kd,oS w,none,none]) Ω=.nx (lE A nq kq wq x n kd w v0 none) Ω:=by simp[hy]
 unfold C1;rw[ae,r0,aw,ae,r1,aw,ae,r2,aw,ae,r3,aw,ae,r4,aw,ae];have c0:=B.vn n hn;have f0:=B.vw w b0;have E:kd∈nms (bare ks):=by rw[ec];exact a0
 obtain⟨fs,ht⟩:=B.t
 by_cases u:n∈M.map (·.n)
 .obtain⟨M1,y,M2,rfl,rfl⟩:=B_ u
  have Y:=H.H.al y (by simp)
  have m:=yD (n:=y.n) H.H.pd;rw[lW H.H.nn]at m
  have r5:(dG (m2 (aB .NotIn) (aa 7) (aa 1)) (Ls (aO 3 3 (yW X Z (aO 2 2 vO)))) aj) (lE A nq kq wq x y.n kd w v0 none) Ω=.nx (lE A nq kq wq x y.n kd w v0 none) Ω:=by
   rw[eP (b:=false) m];rfl
  have g0:=h_ H.H.pd (lW H.H.nn);have G:aC (.ref y.j) (.int 1) Ω=.ok (.ref y.o) Ω:=bL Y.R rfl
  have r6:(aH 11 (m2 aC (m2 aC (aa 1) (aa 7)) (ah (.int 1)))) (lE A nq kq wq x y.n kd w v0 none) Ω=.nx (lE A nq kq wq x y.n kd w v0 (oR y.o)) Ω:=by
   simp[g0,G]
  rw[r5,aw,ae,r6,aw,ae];have I:=BK (n:=w) (.inl Y.O:cq Ω y.o (cj y.v));rw[sM]at I;have J:=yE (.inl Y.O:cq Ω y.o (cj y.v));have h0:((cj y.v).length:Int)=y.v.length:=by simp[cj]
  rw[h0]at J;have c5:∀j:Int,dA j (lE A nq kq wq x y.n kd w v0 (oR y.o)) Ω=.ok (.bl (decide (v0<j))) Ω:=λj=>int_lt
  have c6:(m2 (aB .In) (aa 9) (aa 11)) (lE A nq kq wq x y.n kd w v0 (oR y.o)) Ω=.ok (.bl (decide (w∈aQ y.v))) Ω:=I
  have c7:(m2 (aB .Lt) (mN (bo .len) (ab (aa 11) af)) (ah (.int 12))) (lE A nq kq wq x y.n kd w v0 (oR y.o)) Ω=.ok (.bl (decide ((y.v.length:Int)<12))) Ω:=by
   have:(mN (bo .len) (ab (aa 11) af)) (lE A nq kq wq x y.n kd w v0 (oR y.o)) Ω=.ok (.int y.v.length) Ω:=J;rw[bK,this,ai,bU,ai,int_lt]
  have S:(fC (dA 5) (CA (m2 (aB .In) (aa 9) (aa 11)) (m2 (aB .Lt) (mN (bo .len) (ab (aa 11) af)) (ah (.int 12))))) (lE A nq kq wq x y.n kd w v0 (oR y.o)) Ω=.ok (.bl (decide (v0<5/\(w∈aQ y.v\/y.v.length<12)))) Ω:=by
   rw[e9,c5,ai,bV]
   by_cases g:v0<5
   .rw[decide_eq_true g,lL,Ek,c6,ai,bV]
    by_cases l:w∈aQ y.v
    .rw[decide_eq_true l,lL,decide_eq_true ⟨g,.inl l⟩]
    .rw[decide_eq_false l,qw,c7]
     congr 2
     by_cases K:y.v.length<12
     .rw[decide_eq_true (by omega),decide_eq_true ⟨g,.inr K⟩]
     .rw[decide_eq_false (by omega),decide_eq_false λz=>z.2.elim l K]
   .rw[decide_eq_false g,qw,decide_eq_false λz=>g z.1]
  have U:(fC (dA 7) (m2 (aB .In) (aa 9) (aa 11))) (lE A nq kq wq x y.n kd w v0 (oR y.o)) Ω=.ok (.bl (decide (v0<7/\w∈aQ y.v))) Ω:=by
   rw[e9,c5,ai,bV]
   by_cases g:v0<7
   .rw[decide_eq_true g,lL,c6]
    congr 2
    by_cases l:w∈aQ y.v
    .rw[decide_eq_true l,decide_eq_true ⟨g,l⟩]
    .rw[decide_eq_false l,decide_eq_false λz=>l z.2]
   .rw[decide_eq_false g,qw,decide_eq_false λz=>g z.1]
  have V:∀j:Int,(m2 (aB .Eq) (aa 10) (ah (.int j))) (lE A nq kq wq x y.n kd w v0 (oR y.o)) Ω=.ok (.bl (decide (v0=j))) Ω:=λj=>zd
  by_cases g:v0<5/\(w∈aQ y.v\/y.v.length<12)
  .obtain⟨p,i,au,e,r,s,C⟩:=Fe (Q:=cS nq kq wq) (a:=oR nq) (b:=oR kq) (c:=oR wq) (kd:=kd) (v0:=v0) (x:=x) hI N hS hG H f0 hl g.2
   rw[decide_eq_true g]at S;refine⟨p,i,au,?_,r,s,C⟩;rw[eP S,if_pos rfl,jd e];rfl
  .rw[decide_eq_false g]at S
   rw[eP S,if_neg (by simp),gM,aw,ae]
   by_cases l:v0<7/\w∈aQ y.v
   .obtain⟨p,i,au,e,r,s,C⟩:=Ff (Q:=cS nq kq wq) (a:=oR nq) (b:=oR kq) (c:=oR wq) (kd:=kd) (v0:=v0) (x:=x) N hS hW H hl l.2
    rw[decide_eq_true l]at U;refine⟨p,i,au,?_,r,s,C⟩;rw[eP U,if_pos rfl,jd e];rfl
   .rw[decide_eq_false l]at U
    rw[eP U,if_neg (by simp),gM,aw,ae]
    by_cases K:v0=7
    .obtain⟨p,i,au,e,r,s,C⟩:=Fg (Q:=cS nq kq wq) (a:=oR nq) (b:=oR kq) (c:=oR wq) (w:=w) (v0:=v0) (x:=x) N hC H ht B.h E
     have d:=V 7;rw[decide_eq_true K]at d;refine⟨p,i,au,?_,r,s,C⟩;rw[eP d,if_pos rfl,jd e];rfl
    .have d:=V 7
     rw[decide_eq_false K]at d;rw[eP d,if_neg (by simp),gM,aw,ae]
     by_cases g4:v0=8
     .obtain⟨p,i,au,e,r,s,C⟩:=Fh (Q:=cS nq kq wq) (a:=oR nq) (b:=oR kq) (c:=oR wq) (kd:=kd) (w:=w) (v0:=v0) (x:=x) N H (o:=oR y.o)
      have d:=V 8;rw[decide_eq_true g4]at d;refine⟨p,i,au,?_,r,s,C⟩;rw[eP d,if_pos rfl,jd e];rfl
     .have d:=V 8
      rw[decide_eq_false g4]at d;rw[eP d,if_neg (by simp),gM,aw]
      exact⟨L,_,Ω,rfl,H,.inl rfl,by omega⟩
 .have m:=yD (n:=n) H.H.pd
  rw[show bx (dH M) (.inr n)=none from sH (f:=λy=>.ref y.j) u]at m
  obtain⟨i,au,e,r,s⟩:=Fd (Q:=cS nq kq wq) (a:=oR nq) (b:=oR kq) (c:=oR wq) (w:=w) (v0:=v0) (x:=x) hI hC H ht B.h E c0 u hn hm;refine⟨L,i,au,?_,r,.inl rfl,s⟩;rw[eP (b:=true) m,if_pos rfl,jd e];rfl
end
section
variable{Ω au aS AY nj:az}{ρ:aV}{A:Ae}{L L' L0 CM:List (List Str)}{cs:List Nat}{M M1 M2:List Tz}{y y' z:Tz}{n w kd:Str}{fp fq:List Nat}{d k h q:Nat}{x v0:Int}{F:List D->Out Rs}{μ:Int->Int->Int->Int}{Q:D}{a1 a2 a3 a4 a6 a8 a9:Option D}{ns ks ws us:List Str}{nq kq wq:Nat}
theorem uA(a:ag fp Ω aS)(b:ag fq aS AY)(h:∀j∈fq,j∈fp\/Ω.length<=j):ag fp Ω AY:=
 ⟨Nat.le_trans a.len b.len,λk c d e=>b.get k c (a.get k c d e) λz=>(h k z).elim e λf=>by have:=bp d;omega⟩
theorem Ps.UE(H:Ps Ω A L CM cs M)(K:ag [A.r,A.m,A.d] Ω au)(e:Tn au A.T A.t A.s A.r A.m A.d (gj M) L')(f:∀(j:Nat) (row:List Str),L[j]?=some row->L'[j]?=some row):Ps au A L' CM cs M:=by
 have g:=H.low;have q:∀a,A.n0<=a->a∉[A.r,A.m,A.d]:=λa h=>by simp;omega
 exact⟨e,H.pd.keep K (by simp;omega),λz c=>(H.al z c).keep K (λa b=>q a (H.hi c a b)) f,H.nn,H.ce.m9 K (by simp;omega) λa b=>q a (H.lo a (List.mem_append_right _ b)),H.nd,H.lo,H.nq,H.lt,Nat.le_trans H.ln K.len,ag.new H.bs K (by have:=H.lb;simp;omega),H.lb⟩
structure Gs(nj Ω:az)(A:Ae)(M:List Tz)(L0 L:List (List Str))(y:Tz):Prop where
 K:ag [A.r,A.m,A.d] nj Ω
 W:Tn Ω A.T A.t A.s A.r A.m A.d (gj (M++[y])) L
 G:Tg Ω A.d y.c y.l y.i y.k y.v L
 f:nj.length<=y.c/\nj.length<=y.l
 x:∀(j:Nat) (row:List Str),L0[j]?=some row->L[j]?=some row
theorem Gs.bX(H:Gs nj Ω A M L0 L y)(K:ag [] Ω au):Gs nj au A M L0 L y:=⟨H.K.trans (K.sub (by simp)),H.W.bX K,H.G.bX K,H.f,H.x⟩
theorem Fj{g i p q:aL}(z:ip g)(B:eo i)(C:hX p)(D:jX q)(H:Gs nj Ω A M L0 L y)(E:((M++[y]).map (·.n)).Nodup)(F:iv w)(I:L.length<=500)(J:w∉aQ y.v)(N:y.v.length<12) :
  ∃y' a au,aO 6 4 (vL g i p q) [.ref A.T,.str y.n,.str w,.int x] Ω=.ok .non au/\Gs nj au A M L0 a y'/\y'.v=y.v++[(w,x)]/\y'.n=y.n/\y'.c=y.c/\y'.l=y.l/\a.length<=L.length+1/\ag [A.r,A.m,y.c,y.l] Ω au:=by
 obtain⟨O,a,b,P,s,t,u,rfl⟩:=CO z B C D H.W (f9 (M1:=M) (M2:=[]) E) H.G F I (x:=x) (.inr N);have d:cF y.v w x=y.v++[(w,x)]:=if_neg J;rw[d]at s t;refine⟨⟨y.n,y.c,y.l,O,y.k,y.v++[(w,x)],y.j,y.o⟩,bQ L (aQ (y.v++[(w,x)])),b,P,⟨uA H.K u ?_,by simpa[gj]using s,t,H.f,λj e h=>fE (H.x j e h)⟩,rfl,rfl,rfl,rfl,lU,u⟩
 intro j Q;have:=H.f;simp only[List.mem_cons,List.not_mem_nil,or_false]at Q ⊢;omega
theorem Cg{g i p:aL}(z:eo g)(B:hX i)(C:jY p){v:List (Str×Int)}(H:Gs nj Ω A M L0 L y)(D:((M++[y]).map (·.n)).Nodup)(E:L.length<=500)(q:y.v=(w,x)::v) :
  ∃y' a au,aO 5 3 (vM g i p) [.ref A.T,.str y.n,.str w] Ω=.ok .non au/\Gs nj au A M L0 a y'/\y'.v=v/\y'.n=y.n/\y'.c=y.c/\y'.l=y.l/\a.length<=L.length+1/\ag [A.r,A.m,y.c,y.l] Ω au:=by
 obtain⟨F,a,b,I,s,t,u,rfl⟩:=CP z B C H.W (f9 (M1:=M) (M2:=[]) D) H.G E (w:=w) (by rw[q];simp)
 have d:cN y.v w=v:=by rw[q];unfold cN;simp
 rw[d]at s t;refine⟨⟨y.n,y.c,y.l,F,y.k,v,y.j,y.o⟩,bQ L (aQ v),b,I,⟨uA H.K u ?_,by simpa[gj]using s,t,H.f,λj e h=>fE (H.x j e h)⟩,rfl,rfl,rfl,rfl,lU,u⟩
 intro j J;have:=H.f;simp only[List.mem_cons,List.not_mem_nil,or_false]at J ⊢;omega
def IL(a:aL):SM:=(ak (cA (aD "Things" "put" a (aa 0) (ab (aa 5) (ab (aa 8) (ab (aa 7) af))))) aj)
def IP(a:aL):SM:=(ak (cA (aD "Things" "take" a (aa 0) (ab (aa 5) (ab (aa 8) af)))) aj)
theorem Fl{p q s t:aL}(O:ip p)(P:eo q)(Q:hX s)(S:jX t){u:Nat}(H:Gs nj Ω A M L0 L y)(U:((M++[y]).map (·.n)).Nodup)(V:∀w∈us,iv w)(X:(aQ y.v++us).Nodup)(hl:y.v.length+us.length<=12)(hL:L.length+us.length<=500)(Y:Ω[u]?=some (.lst (us.map .str)))(Z:u∉[A.r,A.m,y.c,y.l]) :
  ∃b y' d au,eM (cP 8) (.seq (.ref u)) (IL (aO 6 4 (vL p q s t))) fuel 0 [oR A.T,a1,a2,a3,a4,oS y.n,a6,oI x,a8,a9] Ω=.nx [oR A.T,a1,a2,a3,a4,oS y.n,a6,oI x,b,a9] au/\Gs nj au A M L0 d y'/\y'.v=y.v++us.map (·,x)/\y'.n=y.n/\y'.c=y.c/\y'.l=y.l/\d.length<=L.length+us.length/\ag [A.r,A.m,y.c,y.l] Ω au:=by
 refine cp (R:=λr=>∃b y' d au,r=.nx [oR A.T,a1,a2,a3,a4,oS y.n,a6,oI x,b,a9] au/\Gs nj au A M L0 d y'/\y'.v=y.v++us.map (·,x)/\y'.n=y.n/\y'.c=y.c/\y'.l=y.l/\d.length<=L.length+us.length/\ag [A.r,A.m,y.c,y.l] Ω au) (ds:=us.map .str) (λi j a=>∃b y' d,j=[oR A.T,a1,a2,a3,a4,oS y.n,a6,oI x,b,a9]/\Gs nj a A M L0 d y'/\y'.v=y.v++(us.take i).map (·,x)/\y'.n=y.n/\y'.c=y.c/\y'.l=y.l/\d.length<=L.length+i/\ag [A.r,A.m,y.c,y.l] Ω a) ?_ ?_ ?_ fuel 0 _ _ (by simp;unfold fuel;omega) (Nat.zero_le _) ⟨a8,y,L,rfl,H,by simp,rfl,rfl,rfl,by omega,ag.refl⟩
 .rintro i j a ⟨_,_,_,_,_,_,_,_,_,_,K⟩
  rw[dc,aW,aP (K.get _ _ Y Z)]
 .rintro i dd j a B ⟨b,y',d,rfl,G,g,h,k,o,f,K⟩
  obtain⟨w,C,rfl⟩:=fj B;refine⟨[oR A.T,a1,a2,a3,a4,oS y.n,a6,oI x,oS w,a9],rfl,?_⟩;have hi:=(List.getElem?_eq_some_iff.mp C).1
  have D:((M++[y']).map (·.n)).Nodup:=by
   have:(M++[y']).map (·.n)=(M++[y]).map (·.n):=by simp[h]
   rw[this];exact U
  have I:us.take (i+1)=us.take i++[w]:=by rw[List.take_succ,C];rfl
  have E:w∉aQ y'.v:=by
   have h1:aQ y'.v=aQ y.v++us.take i:=by
    rw[g];simp only[aQ,List.map_append,List.map_map]
    congr 1
    exact(List.map_congr_left λ_ _=>rfl).trans (List.map_id _)
   rw[h1];have J:(aQ y.v++us.take (i+1)).Nodup:=List.Nodup.sublist (List.Sublist.append (List.Sublist.refl _) (List.take_sublist _ _)) X;rw[I,←List.append_assoc]at J;exact λz=>(List.nodup_append.mp J).2.2 w z w (by simp) rfl
  obtain⟨y2,L2,F,e,G2,f1,f2,f3,f4,f5,N⟩:=Fj (x:=x) O P Q S G D (V w (List.mem_of_getElem? C)) (by omega) E (by rw[g];simp;omega)
  have rB:IL (aO 6 4 (vL p q s t)) [oR A.T,a1,a2,a3,a4,oS y.n,a6,oI x,oS w,a9] a=.nx [oR A.T,a1,a2,a3,a4,oS y.n,a6,oI x,oS w,a9] F:=by
   unfold IL;rw[ae,cm,dU G.W rfl (by decide)]
   have:(ab (aa 5) (ab (aa 8) (ab (aa 7) af)):AM) [oR A.T,a1,a2,a3,a4,oS y.n,a6,oI x,oS w,a9] a=.ok [.str y'.n,.str w,.int x] a:=by rw[h];rfl
   rw[this,ai,e];rfl
  rw[rB];rw[k,o]at N;exact⟨_,y2,L2,rfl,G2,by rw[f1,g,I];simp,f2.trans h,f3.trans k,f4.trans o,by omega,K.trans N⟩
 .rintro j a ⟨b,y',d,rfl,G,g,h,k,o,f,K⟩
  rw[List.length_map]at f;rw[List.length_map,List.take_length]at g;exact⟨_,y',d,a,rfl,G,g,h,k,o,f,K⟩
theorem Fm{p q s:aL}(E:eo p)(F:hX q)(I:jY s){u:Nat}{v:List (Str×Int)}(H:Gs nj Ω A M L0 L y)(J:((M++[y]).map (·.n)).Nodup)(N:y.v=us.map (·,x)++v)(hl:us.length<=12)(hL:L.length+us.length<=500)(O:Ω[u]?=some (.lst (us.map .str)))(P:u∉[A.r,A.m,y.c,y.l]) :
  ∃b y' d au,eM (cP 8) (.seq (.ref u)) (IP (aO 5 3 (vM p q s))) fuel 0 [oR A.T,a1,a2,a3,a4,oS y.n,a6,oI x,a8,a9] Ω=.nx [oR A.T,a1,a2,a3,a4,oS y.n,a6,oI x,b,a9] au/\Gs nj au A M L0 d y'/\y'.v=v/\y'.n=y.n/\y'.c=y.c/\y'.l=y.l/\d.length<=L.length+us.length/\ag [A.r,A.m,y.c,y.l] Ω au:=by
 refine cp (R:=λr=>∃b y' d au,r=.nx [oR A.T,a1,a2,a3,a4,oS y.n,a6,oI x,b,a9] au/\Gs nj au A M L0 d y'/\y'.v=v/\y'.n=y.n/\y'.c=y.c/\y'.l=y.l/\d.length<=L.length+us.length/\ag [A.r,A.m,y.c,y.l] Ω au) (ds:=us.map .str) (λi j a=>∃b y' d,j=[oR A.T,a1,a2,a3,a4,oS y.n,a6,oI x,b,a9]/\Gs nj a A M L0 d y'/\y'.v=(us.drop i).map (·,x)++v/\y'.n=y.n/\y'.c=y.c/\y'.l=y.l/\d.length<=L.length+i/\ag [A.r,A.m,y.c,y.l] Ω a) ?_ ?_ ?_ fuel 0 _ _ (by simp;unfold fuel;omega) (Nat.zero_le _) ⟨a8,y,L,rfl,H,by simpa using N,rfl,rfl,rfl,by omega,ag.refl⟩
 .rintro i j a ⟨_,_,_,_,_,_,_,_,_,_,K⟩
  rw[dc,aW,aP (K.get _ _ O P)]
 .rintro i dd j a t ⟨b,y',d,rfl,G,g,h,k,o,f,K⟩
  obtain⟨w,Q,rfl⟩:=fj t;refine⟨[oR A.T,a1,a2,a3,a4,oS y.n,a6,oI x,oS w,a9],rfl,?_⟩;obtain⟨S,z⟩:=List.getElem?_eq_some_iff.mp Q
  have B:((M++[y']).map (·.n)).Nodup:=by
   have:(M++[y']).map (·.n)=(M++[y]).map (·.n):=by simp[h]
   rw[this];exact J
  rw[List.drop_eq_getElem_cons S,z,List.map_cons,List.cons_append]at g;obtain⟨U,L2,C,e,V,X,Y,Z,f4,f5,D⟩:=Cg (x:=x) E F I G B (by omega) g
  have rB:IP (aO 5 3 (vM p q s)) [oR A.T,a1,a2,a3,a4,oS y.n,a6,oI x,oS w,a9] a=.nx [oR A.T,a1,a2,a3,a4,oS y.n,a6,oI x,oS w,a9] C:=by
   unfold IP;rw[ae,cm,dU G.W rfl (by decide)]
   have:(ab (aa 5) (ab (aa 8) af):AM) [oR A.T,a1,a2,a3,a4,oS y.n,a6,oI x,oS w,a9] a=.ok [.str y'.n,.str w] a:=by rw[h];rfl
   rw[this,ai,e];rfl
  rw[rB];rw[k,o]at D;exact⟨_,U,L2,rfl,V,X,Y.trans h,Z.trans k,f4.trans o,by omega,K.trans D⟩
 .rintro j a ⟨b,y',d,rfl,G,g,h,k,o,f,K⟩
  rw[List.length_map]at f;rw[List.length_map,List.drop_length]at g;exact⟨_,y',d,a,rfl,G,by simpa using g,h,k,o,f,K⟩
abbrev qn:Str:="qqqqqqqq"
def qE:EM:=(m2 (aY .Mult) (ah (.str "q")) (ah (.int 8)))
theorem IQ:qE ρ Ω=.ok (.str qn) Ω:=rfl
def Lu:EM:=(eu (cJ (aa 0) false (m2 (aB .NotIn) (aa 0) (m2 aC (aa 2) (aa 1))) (bG (aa 3)) 0 [7,4]) true (ah .non) false (m2 (aY .Sub) (ah (.int 12)) (mN (bo .len) (ab (m2 aC (aa 4) (aa 7)) af))))
def NI(a b c SP d:aL):SM:=
 (ak (aH 5 qE)
 (ak (cA (aD "Things" "make" a (aa 0) (ab (aa 5) (ab (aa 2) af))))
 (ak (aH 9 Lu)
 (ak (ek (cP 8) (bG (m2 (aY .Add) (aa 9) (m2 aC (aa 4) (aa 7)))) (IL b))
 (ak (ek (cP 8) (bG (aa 9)) (IP c))
 (ak (dG (m2 (aB .NotEq) (aD "Things" "shape_of" SP (aa 0) (ab (aa 5) af)) (m2 aC (aa 6) (aa 7)))
 (ak (bD (ah (.bl false)))
 aj)
 aj)
 (ak (cA (aD "Things" "drop" d (aa 0) (ab (aa 5) af)))
 aj)))))))
theorem IS{R r:Nat}{rs:List Nat}{row:List Str}(q:Ω[wq]?=some (.lst (ws.map .str)))(s:Ω[R]?=some (.lst (rs.map .ref)))(y:rs[k]?=some r)(t:Ω[r]?=some (.lst (row.map .str)))(z:ρ[3]?=some (oR wq))(A:ρ[4]?=some (oR R))(B:ρ[7]?=some (oI k))(C:ej [7,4] ρ=[oI k,oR R])(I:row.length<=12)(E:ws.length<=1000) :
  ∃u au,Lu ρ Ω=.ok (.ref u) au/\au[u]?=some (.lst (((ws.filter λw=>!decide (w∈row)).take (12 - row.length)).map .str))/\ag [] Ω au/\Ω.length<=u:=by
 have F:bG (aa 3) ρ Ω=.ok (.seq (.ref wq)) Ω:=by
  rw[cf,eD,z,eB,ai];exact bZ (by rw[aW,aP q])
 have b:L2.jh (rs.map D.ref) (k:Int)=some (.ref r):=L2.dI (by simp[y])
 have h:=bL s b
 have i:=cZ (Ω:=Ω) (au:=Ω) (ρ:=ρ) (me:=aa 0) (nc:=false) (mc:=m2 (aB .NotIn) (aa 0) (m2 aC (aa 2) (aa 1))) (mi:=bG (aa 3)) (cap:=[7,4]) (src:=.seq (.ref wq)) (ds:=ws.map .str) (p:=λd=>match d with|.str w=>!decide (w∈row)|_=>true) (g:=id) F (by rw[dc,aW,aP q]) (λd x=>by
   obtain⟨w,_,rfl⟩:=List.mem_map.mp x;have:=ko (w:=w) t;rw[C];simp[jV,h,this,-fW]) (λd x _=>rfl) (by simp;omega)
 rw[List.map_id,List.filter_map]at i;have G:(ws.filter ((λd:D=>match d with|.str w=>!decide (w∈row)|_=>true) ∘ D.str))=ws.filter λw=>!decide (w∈row):=rfl
 rw[G]at i;generalize ws.filter (λw=>!decide (w∈row))=c at *
 have H:(Ω++[Cell.lst (c.map .str)])[Ω.length]?=some (.lst (c.map .str)):=av;have f:ag [] Ω (Ω++[Cell.lst (c.map .str)]):=ag.app;generalize Ω++[Cell.lst (c.map .str)]=a at *;have j:=f.get _ _ t (by simp)
 have l:=bL (f.get _ _ s (by simp)) b
 have e:=eE j;rw[List.length_map]at e
 have m:(m2 (aY .Sub) (ah (.int 12)) (mN (bo .len) (ab (m2 aC (aa 4) (aa 7)) af))) ρ a=.ok (.int ((12 - row.length:Nat):Int)) a:=by
  have:((12 - row.length:Nat):Int)=12 - (row.length:Int):=by omega
  rw[this];simp[A,B,l,e]
 have o:=oK (n:=12 - row.length) H;refine⟨a.length,a++[.lst ((c.take (12 - row.length)).map .str)],?_,av,f.trans ag.app,f.len⟩;unfold Lu;rw[iX,i,ai,oG,ai,oH,m,ai,uh,ai,o]
end
section
variable{Ω au aS AY nj:az}{ρ:aV}{A:Ae}{L L' L0 CM:List (List Str)}{cs:List Nat}{M M1 M2:List Tz}{y y' z:Tz}{n w kd:Str}{fp fq:List Nat}{d k h q:Nat}{x v0:Int}{F:List D->Out Rs}{μ:Int->Int->Int->Int}{Q:D}{a5 a7 a8 a9:Option D}{ns ks ws us:List Str}{nq kq wq R U:Nat}{rs:List Nat}
theorem C2{a b:Int}:aB .NotEq (.int a) (.int b) Ω=.ok (.bl (!decide (a=b))) Ω:=by
 simp[dD]
 by_cases h:a=b<;>simp[h]
theorem IT:iv qn:=by unfold iv;decide
theorem Fo{us:List Str}{x:Int}:aQ (us.map (·,x))=us:=by
 simp only[aQ,List.map_map];exact(List.map_congr_left λ_ _=>rfl).trans (List.map_id _)
abbrev nE(A:Ae)(kd:Str)(wq R U k:Nat)(a b c:Option D):aV:=[oR A.T,oR A.P,oS kd,oR wq,oR R,a,oR U,oI k,b,c]
theorem Fp{V p X GR WI CK:aL}(hI:ip V)(hT:eo p)(hS:hX X)(hG:jX GR)(hW:jY WI)(hC:iq CK)(B:FR A nq kq wq h ns ks ws)(H:Ps Ω A L CM cs M)(hq:qn∉M.map (·.n))(hk:kd∈ks)(hm:M.length<40)(hl:L.length<=400)(h0:L[0]?=some [])(hy:M[k]?=some y)(hu:∀u∈aQ y.v,iv u)
  (hR:Rw Ω R rs (M.map λy=>aQ y.v)) (hU:Ω[U]?=some (.lst (M.map λy=>.int y.i))) (nR:A.n0<=R) (nr:∀r∈rs,A.n0<=r) (nU:A.n0<=U) :
  ∃S b9 L' au,NI (aO 3 3 (yW V CK (aO 2 2 vO))) (aO 6 4 (vL V p X GR)) (aO 5 3 (vM p X WI)) (aO 2 2 (oQ p)) (aO 2 2 (zj p)) (nE A kd wq R U k a5 a8 a9) Ω=.nx (nE A kd wq R U k (oS qn) S b9) au/\Ps au A L' CM cs M/\ag [A.r,A.m,A.d] Ω au/\(∀(j:Nat) (row:List Str),L[j]?=some row->L'[j]?=some row)/\L'.length<=L.length+24:=by
 have lw:=H.low;have j0:=List.mem_of_getElem? hy;have Y:=H.al y j0;have D0:=bp B.w;have lb:=H.lb;obtain⟨fs,ht⟩:=B.t;obtain⟨r,N,hr⟩:=hR.al.at (i:=k) (row:=aQ y.v) (by simp[hy])
 obtain⟨c,C,e1,W1,G1,Z,lc⟩:=CQ (n:=qn) (kd:=kd) hI hC H.W (H.bs.get _ _ ht (by simp)) (B.h.keep H.bs) (by rw[ec];exact hk) IT (sH (f:=λy=>.ref y.c) hq) (by simp[gj];omega) h0
 have k0:bI (gj M) (.inr qn) (.ref c)=gj (M++[⟨qn,c,c+1,0,kd,[],0,0⟩]):=oX (y:=⟨qn,c,c+1,0,kd,[],0,0⟩) (f:=λy=>.ref y.c) hq
 rw[k0]at W1;have S1:Gs Ω C A M L L ⟨qn,c,c+1,0,kd,[],0,0⟩:=⟨Z.sub (by simp),W1,G1,⟨lc,Nat.le_trans lc (Nat.le_succ c)⟩,λ_ _ h=>h⟩
 have O:((M++[(⟨qn,c,c+1,0,kd,[],0,0⟩:Tz)]).map (·.n)).Nodup:=by
  rw[List.map_append];exact List.nodup_append.mpr ⟨H.nn,by simp,λa ha b hb e=>hq (by simp at hb;subst hb;subst e;exact ha)⟩
 have r1:(aH 5 qE) (nE A kd wq R U k a5 a8 a9) Ω=.nx (nE A kd wq R U k (oS qn) a8 a9) Ω:=by
  rw[bq,IQ];rfl
 have r2:(cA (aD "Things" "make" (aO 3 3 (yW V CK (aO 2 2 vO))) (aa 0) (ab (aa 5) (ab (aa 2) af)))) (nE A kd wq R U k (oS qn) a8 a9) Ω=.nx (nE A kd wq R U k (oS qn) a8 a9) C:=by
  rw[cm,dU H.W rfl (by decide)]
  have:(ab (aa 5) (ab (aa 2) af):AM) (nE A kd wq R U k (oS qn) a8 a9) Ω=.ok [.str qn,.str kd] Ω:=rfl;rw[this,ai,e1];rfl
 have l0:=Y.G.le;have m0:(aQ y.v).length<=12:=by simpa[aQ]using l0
 have rm:=List.mem_of_getElem? N;have G0:=nr r rm;obtain⟨u,g,e3,g3,K2,lu⟩:=IS (Ω:=C) (ρ:=(nE A kd wq R U k (oS qn) a8 a9)) (wq:=wq) (ws:=ws) (R:=R) (r:=r) (rs:=rs) (k:=k) (row:=aQ y.v) (Z.get _ _ (H.bs.get _ _ B.w (by simp)) (by simp;omega)) (Z.get _ _ hR.ce (by simp;omega)) N (Z.get _ _ hr (by simp;omega)) rfl rfl rfl rfl m0 (by have:=B.lw;omega)
 have S2:=S1.bX K2
 have r3:(aH 9 Lu) (nE A kd wq R U k (oS qn) a8 a9) C=.nx (nE A kd wq R U k (oS qn) a8 (oR u)) g:=by
  rw[bq,e3];rfl
 have o0:((((ws.filter λw=>!decide (w∈aQ y.v)).take (12 - (aQ y.v).length)))++aQ y.v).Nodup:=by
  refine List.nodup_append.mpr ⟨List.Nodup.sublist ((List.take_sublist _ _).trans List.filter_sublist) B.nw,Y.G.nd,λa ha b hb e=>?_⟩
  subst e;have:=(List.mem_filter.mp (List.mem_of_mem_take ha)).2;simp only[Bool.not_eq_true',decide_eq_false_iff_not]at this;exact this hb
 have p0:∀w∈((ws.filter λw=>!decide (w∈aQ y.v)).take (12 - (aQ y.v).length)),iv w:=λw hw=>B.vw w (List.mem_filter.mp (List.mem_of_mem_take hw)).1
 have I0:((ws.filter λw=>!decide (w∈aQ y.v)).take (12 - (aQ y.v).length)).length<=12 - (aQ y.v).length:=by rw[List.length_take];omega
 generalize (ws.filter λw=>!decide (w∈aQ y.v)).take (12 - (aQ y.v).length)=q at *
 have a0:ag [A.d] Ω g:=Z.trans (K2.sub (by simp))
 have q0:=a0.get _ _ hr (by simp;omega)
 have r0:=a0.get _ _ hR.ce (by simp;omega)
 have b0:=bL r0 (L2.dI (xs:=rs.map D.ref) (j:=k) (v:=.ref r) (by simp[N]))
 have I:=i8 g3 q0 (by simp;omega)
 have em:q.map D.str++(aQ y.v).map .str=(q++aQ y.v).map .str:=by simp
 rw[em]at I;have g4:(g++[Cell.lst ((q++aQ y.v).map .str)])[g.length]?=some (.lst ((q++aQ y.v).map .str)):=av;have K3:ag [] g (g++[Cell.lst ((q++aQ y.v).map .str)]):=ag.app
 have s0:bG (m2 (aY .Add) (aa 9) (m2 aC (aa 4) (aa 7))) (nE A kd wq R U k (oS qn) a8 (oR u)) g=.ok (.seq (.ref g.length)) (g++[Cell.lst ((q++aQ y.v).map .str)]):=by
  have h1:(m2 aC (aa 4) (aa 7)) (nE A kd wq R U k (oS qn) a8 (oR u)) g=.ok (.ref r) g:=b0;have h9:aa 9 (nE A kd wq R U k (oS qn) a8 (oR u)) g=.ok (.ref u) g:=rfl;rw[cf,bK,h9,ai,h1,ai,I,ai];exact bZ (by rw[aW,aP g4])
 have t0:=K3.get _ _ g3 (by simp)
 have l2:=K2.len;have J0:=bp G1.sl;have K0:=bp S2.W.sh.nu;have S3:=S2.bX K3;have l3:g.length<(g++[Cell.lst ((q++aQ y.v).map .str)]).length:=by simp
 generalize g++[Cell.lst ((q++aQ y.v).map .str)]=M0 at *;obtain⟨S,y1,L1,E,e4,S4,u0,c0,v0,w0,x0,K4⟩:=Fl (us:=q++aQ y.v) (x:=(k:Int)) (u:=g.length) (a1:=oR A.P) (a2:=oS kd) (a3:=oR wq) (a4:=oR R) (a6:=oR U) (a8:=a8) (a9:=oR u) hI hT hS hG S3 O (λw hw=>(List.mem_append.mp hw).elim (p0 w) (hu w)) (by simpa[aQ]using o0) (by simp only[List.length_append,List.length_nil];omega) (by simp only[List.length_append];omega) g4 (by simp;omega)
 have r4:(ek (cP 8) (bG (m2 (aY .Add) (aa 9) (m2 aC (aa 4) (aa 7)))) (IL (aO 6 4 (vL V p X GR)))) (nE A kd wq R U k (oS qn) a8 (oR u)) g=.nx (nE A kd wq R U k (oS qn) S (oR u)) E:=by
  rw[de,s0,bP];exact e4
 have e0:u∉[A.r,A.m,c,c+1]:=by
  have:=bp W1.sh.nu;simp;omega
 have g5:=K4.get _ _ t0 e0
 have f0:((M++[y1]).map (·.n)).Nodup:=by
  have:(M++[y1]).map (·.n)=(M++[(⟨qn,c,c+1,0,kd,[],0,0⟩:Tz)]).map (·.n):=by simp[c0]
  rw[this];exact O
 have y0:bG (aa 9) (nE A kd wq R U k (oS qn) S (oR u)) E=.ok (.seq (.ref u)) E:=by
  rw[cf];exact bZ (by rw[aW,aP g5])
 simp only[List.length_append]at x0;obtain⟨z,y2,L9,l,e5,o,z0,F,N0,P0,Q0,K5⟩:=Fm (us:=q) (x:=(k:Int)) (u:=u) (v:=(aQ y.v).map (·,(k:Int))) (a1:=oR A.P) (a2:=oS kd) (a3:=oR wq) (a4:=oR R) (a6:=oR U) (a8:=S) (a9:=oR u) hT hS hW S4 f0 (by rw[u0];simp) (by omega) (by omega) g5 (by rw[v0,w0];exact e0)
 rw[c0]at e5 F
 have r5:(ek (cP 8) (bG (aa 9)) (IP (aO 5 3 (vM p X WI)))) (nE A kd wq R U k (oS qn) S (oR u)) E=.nx (nE A kd wq R U k (oS qn) z (oR u)) l:=by
  rw[de,y0,bP];exact e5
 have J:((M++[y2]).map (·.n)).Nodup:=by
  have:(M++[y2]).map (·.n)=(M++[(⟨qn,c,c+1,0,kd,[],0,0⟩:Tz)]).map (·.n):=by simp[F]
  rw[this];exact O
 have sp:=CN hT o.W (f9 (M1:=M) (M2:=[]) J) o.G;rw[F]at sp
 have hi:y2.i=y.i:=by
  have h1:=o.G.wd;rw[z0,Fo]at h1;have h2:=o.x _ _ Y.G.wd;exact(List.getElem?_inj (List.getElem?_eq_some_iff.mp h1).1 o.W.nd).mp (h1.trans h2.symm)
 have A0:=o.K.get _ _ hU (by simp;omega)
 have g0:=bL A0 (L2.dI (xs:=M.map λy=>D.int y.i) (j:=k) (v:=.int y.i) (by simp[hy]))
 have r6:(dG (m2 (aB .NotEq) (aD "Things" "shape_of" (aO 2 2 (oQ p)) (aa 0) (ab (aa 5) af)) (m2 aC (aa 6) (aa 7))) (ak (bD (ah (.bl false))) aj) aj) (nE A kd wq R U k (oS qn) z (oR u)) l=.nx (nE A kd wq R U k (oS qn) z (oR u)) l:=by
  have B0:aD "Things" "shape_of" (aO 2 2 (oQ p)) (aa 0) (ab (aa 5) af) (nE A kd wq R U k (oS qn) z (oR u)) l=.ok (.int y2.i) l:=by
   rw[dU o.W rfl (by decide)]
   have:(ab (aa 5) af:AM) (nE A kd wq R U k (oS qn) z (oR u)) l=.ok [.str qn] l:=rfl;rw[this,ai,sp];rfl
  have C0:(m2 aC (aa 6) (aa 7)) (nE A kd wq R U k (oS qn) z (oR u)) l=.ok (.int y.i) l:=g0;rw[eP (b:=false)]
  .rfl
  .rw[bK,B0,ai,C0,ai,C2,hi,decide_eq_true rfl]
   rfl
 have e7:=CT (M1:=M) (M2:=[]) hT o.W J;rw[F,List.append_nil]at e7
 have r7:(cA (aD "Things" "drop" (aO 2 2 (zj p)) (aa 0) (ab (aa 5) af))) (nE A kd wq R U k (oS qn) z (oR u)) l=.nx (nE A kd wq R U k (oS qn) z (oR u)) (l.set A.d (.dK (gj M))):=by
  rw[cm,dU o.W rfl (by decide)]
  have:(ab (aa 5) af:AM) (nE A kd wq R U k (oS qn) z (oR u)) l=.ok [.str qn] l:=rfl;rw[this,ai,e7];rfl
 have K7:ag [A.d] l (l.set A.d (.dK (gj M))):=ag.set (by simp)
 have g7:=aA (e:=.dK (gj M)) o.W.dk;generalize l.set A.d (.dK (gj M))=Q at *;have W7:Tn Q A.T A.t A.s A.r A.m A.d (gj M) L9:=⟨K7.get _ _ o.W.ob (by simp;omega),g7,o.W.sh.keep K7 (by simp;omega) (by simp;omega) (by simp;omega),o.W.nd,o.W.lt⟩
 have i0:ag [A.r,A.m,A.d] Ω Q:=o.K.trans (K7.sub (by simp))
 refine⟨z,oR u,L9,Q,?_,H.UE i0 W7 o.x,i0,o.x,by omega⟩
 unfold NI;rw[ae,r1,aw,ae,r2,aw,ae,r3,aw,ae,r4,aw,ae,r5,aw,ae,r6,aw,ae,r7];rfl
def NJ:EM:=(cJ (mN (bo .list) (ab (m2 aC (aa 0) (ah (.int 1))) af)) true (ah .non) (mV (aa 1)) 0 [])
def NK(SP:aL):EM:=(cJ (aD "Things" "shape_of" SP (aa 1) (ab (aa 0) af)) true (ah .non) (bG (aa 1)) 0 [0])
def IU(a b c SP d:aL):SM:=
 (ak (dG (m2 (aB .Eq) (aa 1) br)
 (ak (bD (ah (.bl true)))
 aj)
 aj)
 (ak (aH 4 NJ)
 (ak (aH 6 (NK SP))
 (ak (ek (cP 7) (dW (ab (mN (bo .len) (ab (aa 4) af)) af)) (NI a b c SP d))
 (ak (bD (ah (.bl true)))
 aj)))))
theorem rw_ok(H:Ps Ω A L CM cs M)(w:ρ[1]?=some (oR A.P))(B:M.length<=100):∃R rs au,NJ ρ Ω=.ok (.ref R) au/\Ps au A L CM cs M/\au[A.P]?=some (.dF (dH M))/\Rw au R rs (M.map λy=>aQ y.v)/\Ω.length<=R/\∀r∈rs,Ω.length<=r:=by
 obtain⟨p,f⟩:=H.dg
 have z:mV (aa 1) ρ Ω=.ok (.vals A.P) (Ω.set A.P (.dF (dH M))):=by
  show((aa 1 ρ Ω).bind λx b=>valOf b x)=_
  rw[eD,w,eB,ai];unfold valOf;rcases H.pd with h|h
  .simp only[h]
  .simp only[h]
   rw[set_same h]
 have C:(Ω.set A.P (.dF (dH M))).length=Ω.length:=by simp
 generalize Ω.set A.P (.dF (dH M))=b at *
 obtain⟨D,c,l,rs,rfl,e,q,m⟩:=kr (ρ:=ρ) (me:=mN (bo .list) (ab (m2 aC (aa 0) (ah (.int 1))) af)) (mc:=ah .non) (cap:=[]) (ds:=M.map λy=>.ref y.j) (λi d a=>∃rs:List Nat,d=rs.map .ref/\oJ a rs ((M.take i).map λy=>aQ y.v)/\ag [] b a/\∀r∈rs,Ω.length<=r) z ⟨[],rfl,.nil,ag.refl,by simp⟩
  (λi d a n=>by
   obtain⟨_,_,_,K,_⟩:=n;have:=K.get _ _ f (by simp)
   simp only[eT,this,dH,List.map_map];rfl)
  (λi E d a s n=>by
   obtain⟨rs,rfl,e,K,m⟩:=n;rw[List.getElem?_map]at s;obtain⟨y,t,rfl⟩:=Option.map_eq_some_iff.mp s;have Y:=(p.al y (List.mem_of_getElem? t)).bX K;have l:aC (.ref y.j) (.int 1) a=.ok (.ref y.o) a:=bL Y.R rfl;have u:=oM (.inl Y.O:cq a y.o (cj y.v));rw[lX]at u;have g:ag [] a (a++[Cell.lst ((aQ y.v).map .str)]):=ag.app;refine⟨.ref a.length,a++[.lst ((aQ y.v).map .str)],?_,rs++[a.length],by simp,?_,K.trans g,λr e=>?_⟩
   .show(mN (bo .list) (ab (m2 aC (aa 0) (ah (.int 1))) af)) ([oR y.j]++ej [] ρ) a=_
    have:(m2 aC (aa 0) (ah (.int 1))) ([oR y.j]++ej [] ρ) a=.ok (.ref y.o) a:=l;rw[dQ,aJ,this,ai,bE,ai,ai,u]
   .rw[List.take_succ,t,List.map_append]
    exact(e.keep g (by simp)).snoc av
   .have:=K.len
    rcases List.mem_append.mp e with h|h
    .exact m r h
    .rw[List.mem_singleton.mp h];omega) (by simp;omega)
 rw[List.length_map,List.take_length]at e;have g:ag [] c (c++[Cell.lst (rs.map .ref)]):=ag.app;have k:=q.trans g;exact⟨c.length,rs,_,l,p.bX k,k.get _ _ f (by simp),⟨av,e.keep g (by simp)⟩,by have:=q.len;omega,m⟩
theorem IV{c:aL}(l:eo c)(H:Ps Ω A L CM cs M)(f:Ω[A.P]?=some (.dF (dH M)))(m:ρ[1]?=some (oR A.P))(o:ej [0] ρ=[oR A.T])(r:M.length<=100):NK (aO 2 2 (oQ c)) ρ Ω=.ok (.ref Ω.length) (Ω++[.lst (M.map λy=>.int y.i)]):=by
 have g:=y_ H m;rw[set_same f]at g
 obtain⟨s,p,h,rfl,rfl⟩:=kr (ρ:=ρ) (me:=aD "Things" "shape_of" (aO 2 2 (oQ c)) (aa 1) (ab (aa 0) af)) (mc:=ah .non) (cap:=[0]) (ds:=(M.map (·.n)).map .str) (λi b a=>b=(M.take i).map (λy=>.int y.i)/\a=Ω) g ⟨rfl,rfl⟩
  (λi b a d=>by rw[d.2,il f,oW])
  (λi t b a j d=>by
   obtain⟨rfl,rfl⟩:=d;rw[List.getElem?_map,List.getElem?_map]at j;obtain⟨u,e,rfl⟩:=Option.map_eq_some_iff.mp j;obtain⟨y,k,rfl⟩:=Option.map_eq_some_iff.mp e;have q:=sI l H (List.mem_of_getElem? k);refine⟨.int y.i,a,?_,by rw[List.take_succ,k];simp,rfl⟩
   rw[o,dU H.W rfl (by decide)]
   have:(ab (aa 0) af:AM) ([oS y.n]++[oR A.T]) a=.ok [.str y.n] a:=rfl;rw[this,ai,q];rfl) (by simp;omega)
 rw[List.length_map,List.length_map,List.take_length]at h;exact h
theorem IW{s g t O Q S:aL}(hI:ip s)(hT:eo g)(hS:hX t)(hG:jX O)(hW:jY Q)(hC:iq S)(B:FR A nq kq wq h ns ks ws)(H:Q4 Ω A L CM cs M ns)(hq:qn∉ns)(hk:kd∈ks)(hm:M.length<=5)(hl:L.length<=100) :
  ∃b au,er (aO 10 4 (IU (aO 3 3 (yW s S (aO 2 2 vO))) (aO 6 4 (vL s g t O)) (aO 5 3 (vM g t Q)) (aO 2 2 (oQ g)) (aO 2 2 (zj g)))) [.ref A.T,.ref A.P,.str kd,.ref wq] Ω=.ok (.bl true) au/\Ps au A b CM cs M/\au[A.P]?=some (.dK (dH M)):=by
 have w:∃b au,aO 10 4 (IU (aO 3 3 (yW s S (aO 2 2 vO))) (aO 6 4 (vL s g t O)) (aO 5 3 (vM g t Q)) (aO 2 2 (oQ g)) (aO 2 2 (zj g))) [.ref A.T,.ref A.P,.str kd,.ref wq] Ω=.ok (.bl true) au/\Ps au A b CM cs M:=by
  rw[aU (by rfl)]
  have e0:aM 10 [D.ref A.T,.ref A.P,.str kd,.ref wq]=[oR A.T,oR A.P,oS kd,oR wq,none,none,none,none,none,none]:=rfl;rw[e0];have g1:(Ω++[Cell.dK []])[Ω.length]?=some (.dK []):=av;have K1:ag [] Ω (Ω++[Cell.dK []]):=ag.app;have x:=H.H.bX K1
  have U:qn∉M.map (·.n):=λz=>by
   obtain⟨y,k,e⟩:=List.mem_map.mp z;exact hq (e▸H.i y k)
  have d:(m2 (aB .Eq) (aa 1) br) [oR A.T,oR A.P,oS kd,oR wq,none,none,none,none,none,none] Ω=.ok (.bl M.isEmpty) (Ω++[Cell.dK []]):=by
   have h1:aa 1 [oR A.T,oR A.P,oS kd,oR wq,none,none,none,none,none,none] Ω=.ok (.ref A.P) Ω:=rfl;have h2:br [oR A.T,oR A.P,oS kd,oR wq,none,none,none,none,none,none] Ω=.ok (.ref Ω.length) (Ω++[Cell.dK []]):=rfl;rw[bK,h1,ai,h2,ai,ue,kk,yB x.pd]
   show hF .bad (jT (.ref A.P) (.ref Ω.length) (Ω++[Cell.dK []]))=_
   rw[jv];unfold jT;rw[yF x.pd,yF (.inl g1)];cases M with
   |nil=>rfl
   |cons y M=>rfl
  generalize Ω++[Cell.dK []]=l at *;unfold IU
  by_cases N:M.isEmpty=true
  .rw[N]at d
   refine⟨L,l,?_,x⟩;rw[ae,cY,d];rfl
  .have N:M.isEmpty=false:=by simpa using N
   rw[N]at d
   have r1:(dG (m2 (aB .Eq) (aa 1) br) (ak (bD (ah (.bl true))) aj) aj) [oR A.T,oR A.P,oS kd,oR wq,none,none,none,none,none,none] Ω=.nx [oR A.T,oR A.P,oS kd,oR wq,none,none,none,none,none,none] l:=by
    rw[cY,d];rfl
   obtain⟨R,rs,a,e2,C,m,V,lR,lr⟩:=rw_ok (ρ:=[oR A.T,oR A.P,oS kd,oR wq,none,none,none,none,none,none]) x rfl (by omega)
   have r2:(aH 4 NJ) [oR A.T,oR A.P,oS kd,oR wq,none,none,none,none,none,none] l=.nx [oR A.T,oR A.P,oS kd,oR wq,oR R,none,none,none,none,none] a:=by
    rw[bq,e2];rfl
   have e3:=IV (ρ:=[oR A.T,oR A.P,oS kd,oR wq,oR R,none,none,none,none,none]) hT C m rfl rfl (by omega)
   have g3:(a++[Cell.lst (M.map λy=>.int y.i)])[a.length]?=some (.lst (M.map λy=>.int y.i)):=av
   have K3:ag [] a (a++[Cell.lst (M.map λy=>.int y.i)]):=ag.app
   have r3:(aH 6 (NK (aO 2 2 (oQ g)))) [oR A.T,oR A.P,oS kd,oR wq,oR R,none,none,none,none,none] a=.nx [oR A.T,oR A.P,oS kd,oR wq,oR R,none,oR a.length,none,none,none] (a++[Cell.lst (M.map λy=>.int y.i)]):=by
    rw[bq,e3];rfl
   generalize a++[Cell.lst (M.map λy=>D.int y.i)]=E at *
   have X:=C.bX K3;have o:=V.keep K3;have F:=eE o.ce;have Y:=o.len;have Z:(rs.map D.ref).length=M.length:=by simp at Y ⊢;omega
   rw[Z]at F;have a0:jk (M.length:Int)=true:=e8 (by omega) (by omega)
   have hs:dW (ab (mN (bo .len) (ab (aa 4) af)) af) [oR A.T,oR A.P,oS kd,oR wq,oR R,none,oR a.length,none,none,none] E=.ok (.ints 0 M.length) E:=by
    simp[F,a0]
   have n1:=x.ln;have n2:=C.ln;have lw:=X.low;rw[ae,r1,aw,ae,r2,aw,ae,r3,aw,ae,de,hs,bP];refine cp (R:=λr=>∃b au,iM (sq r _)=.ok (.bl true) au/\Ps au A b CM cs M) (ds:=intsFrom 0 M.length) (λi ρ c=>∃a5 a7 a8 a9 b,ρ=[oR A.T,oR A.P,oS kd,oR wq,oR R,a5,oR a.length,a7,a8,a9]/\Ps c A b CM cs M/\Rw c R rs (M.map λy=>aQ y.v)/\c[a.length]?=some (.lst (M.map λy=>.int y.i))/\(∀(j:Nat) (f:List Str),L[j]?=some f->b[j]?=some f)/\b.length<=L.length+24*i/\∀y∈M,b[y.i]?=some (aQ y.v)) ?_ ?_ ?_ fuel 0 _ _ (by rw[dP];unfold fuel;omega) (Nat.zero_le _) ⟨_,_,_,_,L,rfl,X,o,g3,λ_ _ h=>h,by omega,λy k=>(X.al y k).G.wd⟩
   .rintro i ρ c _
    rfl
   .rintro i dd ρ c hd ⟨a5,a7,a8,a9,b,rfl,Hx,q,gx,hx,b0,I⟩
    obtain⟨rfl,c0⟩:=fU hd;refine⟨[oR A.T,oR A.P,oS kd,oR wq,oR R,a5,oR a.length,oI (0+(i:Int)),a8,a9],rfl,?_⟩;rw[Int.zero_add];obtain⟨y,k⟩:∃y,M[i]?=some y:=⟨M[i],List.getElem?_eq_getElem c0⟩;obtain⟨b8,b9,L9,f0,e,Hy,K,J,g0⟩:=Fp (a5:=a5) (a8:=a8) (a9:=a9) hI hT hS hG hW hC B Hx U hk (by omega) (by omega) (hx _ _ H.z) k (H.u y (List.mem_of_getElem? k)) q gx (by omega) (λr hr=>by have:=lr r hr;omega) (by omega)
    rw[e];refine⟨_,_,_,_,L9,rfl,Hy,q.m9 K (by simp;omega) (λr hr=>by have:=lr r hr;simp;omega),K.get _ _ gx (by simp;omega),λj f h=>J j f (hx j f h),by omega,λy k=>J _ _ (I y k)⟩
   .rintro ρ c ⟨a5,a7,a8,a9,b,rfl,Hx,q,gx,hx,b0,I⟩
    exact⟨b,c,rfl,Hx⟩
 obtain⟨b,au,e,H'⟩:=w;obtain⟨C,m⟩:=H.H.oT H.p H';refine⟨b,eA Ω au,?_,C,m⟩;unfold er;rw[e]
end
section
variable{Ω au aS AY nj:az}{ρ:aV}{A:Ae}{L L' L0 CM:List (List Str)}{cs:List Nat}{M M1 M2:List Tz}{y y' z:Tz}{n w kd:Str}{d k h q:Nat}{x v0:Int}{F F0:List D->Out Rs}{μ:Int->Int->Int->Int}{ns ks ws:List Str}{nq kq wq:Nat}{sc:List Int}
abbrev oE(S Q:D)(A:Ae)(a:Option D):aV:=[some S,some Q,oR A.T,oR A.P,oR A.q,a]
abbrev IX(b a c d e f:aL):aL:=er (aO 10 4 (IU (aO 3 3 (yW b f (aO 2 2 vO))) (aO 6 4 (vL b a c d)) (aO 5 3 (vM a c e)) (aO 2 2 (oQ a)) (aO 2 2 (zj a))))
abbrev Ci(a:aL):aL:=er (aO 5 2 (IH (aO 2 2 (oQ a))))
def qR(F0:List D->Out Rs)(i:Int):EM:=(mN (di F0) (ab (aa 0) (ab (ah (.int i)) af)))
def IY(F0:List D->Out Rs)(a:aL):SM:=
 (ak (aH 1 (mN (ba a) (ab (qR F0 0) (ab (ah (.int 5)) af))))
 (ak (aH 2 (mN (ba a) (ab (qR F0 1) (ab (ah (.int 3)) af))))
 (ak (aH 3 (mN (ba a) (ab (qR F0 2) (ab (m2 aC (mN bH (ab (ah (.int 4)) (ab (ah (.int 6)) (ab (ah (.int 14)) af)))) (m2 (aY .Mod) (qR F0 3) (ah (.int 3)))) af))))
 (ak (bD (mN hH (ab (aa 1) (ab (aa 2) (ab (aa 3) af)))))
 aj))))
theorem uB(a:ju (λns k=>ns.getD k 0) F0)(i:Nat)(b:ρ[0]?=some (some (SC sc))):qR F0 i ρ Ω=.ok (.int (sc.getD i 0)) Ω:=by
 have:=a sc i;simp only at this;simp[qR,b,this]
theorem IZ(g:ju (λns k=>ns.getD k 0) F0){i:aL}(o:B9 i):∃(ns j ws:List Str) (b c wq:Nat) (au:az),aO 4 1 (IY F0 i) [SC sc] Ω=.ok (cS b c wq) au/\au[b]?=some (.lst (ns.map .str))/\au[c]?=some (.lst (j.map .str))/\au[wq]?=some (.lst (ws.map .str))/\(j.Nodup/\ws.Nodup)/\(∀u∈ns,iv u)/\(∀u∈j,iv u)/\(∀u∈ws,iv u)/\ns.length=5/\j.length=3/\1<=ws.length/\ws.length<=14:=by
 rw[aU (by rfl)]
 have w:aM 4 [SC sc]=[some (SC sc),none,none,none]:=rfl;rw[w];obtain⟨ns,b,d,R,x,y,p,z,S⟩:=o Ω (sc.getD 0 0) 5 (by omega) (by omega)
 obtain⟨j,c,a,A,B,C,q,D,E⟩:=o d (sc.getD 1 0) 3 (by omega) (by omega)
 have F:(aH 1 (mN (ba i) (ab (qR F0 0) (ab (ah (.int 5)) af)))) [some (SC sc),none,none,none] Ω=.nx [some (SC sc),oR b,none,none] d:=by
  have h:=uB (Ω:=Ω) g 0 (ρ:=[some (SC sc),none,none,none]) (sc:=sc) rfl;have h:qR F0 0 [some (SC sc),none,none,none] Ω=_:=h;have p:i [.int (sc.getD 0 0),.int 5] Ω=_:=p;rw[bq,dQ,aJ,h,ai,aJ,bU,ai,bE,ai,ai,ai,dS,p];rfl
 have G:(aH 2 (mN (ba i) (ab (qR F0 1) (ab (ah (.int 3)) af)))) [some (SC sc),oR b,none,none] d=.nx [some (SC sc),oR b,oR c,none] a:=by
  have h:=uB (Ω:=d) g 1 (ρ:=[some (SC sc),oR b,none,none]) (sc:=sc) rfl;have h:qR F0 1 [some (SC sc),oR b,none,none] d=_:=h;have q:i [.int (sc.getD 1 0),.int 3] d=_:=q;rw[bq,dQ,aJ,h,ai,aJ,bU,ai,bE,ai,ai,ai,dS,q];rfl
 have r:(a++[Cell.lst [.int 4,.int 6,.int 14]])[a.length]?=some (.lst [.int 4,.int 6,.int 14]):=av;have H:ag [] a (a++[Cell.lst [.int 4,.int 6,.int 14]]):=ag.app;have I:(mN bH (ab (ah (.int 4)) (ab (ah (.int 6)) (ab (ah (.int 14)) af)))) [some (SC sc),oR b,oR c,none] a=.ok (.ref a.length) (a++[Cell.lst [.int 4,.int 6,.int 14]]):=by simp[aG]
 generalize a++[Cell.lst [.int 4,.int 6,.int 14]]=f at *
 have s:∃m:Nat,(1<=m/\m<=14)/\(m2 aC (mN bH (ab (ah (.int 4)) (ab (ah (.int 6)) (ab (ah (.int 14)) af)))) (m2 (aY .Mod) (qR F0 3) (ah (.int 3)))) [some (SC sc),oR b,oR c,none] a=.ok (.int m) f:=by
  have h:=uB (Ω:=f) g 3 (ρ:=[some (SC sc),oR b,oR c,none]) (sc:=sc) rfl;have h:qR F0 3 [some (SC sc),oR b,oR c,none] f=_:=h
  have t:(m2 (aY .Mod) (qR F0 3) (ah (.int 3))) [some (SC sc),oR b,oR c,none] f=.ok (.int (sc.getD 3 0%3)) f:=by
   rw[bK,h,ai,bU,ai];simp
  rw[bK,I,ai,t,ai];have:sc.getD 3 0%3=0\/sc.getD 3 0%3=1\/sc.getD 3 0%3=2:=by omega
  rcases this with e|e|e<;>rw[e]
  .exact⟨4,by omega,bL r rfl⟩
  .exact⟨6,by omega,bL r rfl⟩
  .exact⟨14,by omega,bL r rfl⟩
 obtain⟨m,⟨J,m1⟩,K⟩:=s;obtain⟨ws,wq,l,L,M,T,N,O,P⟩:=o f (sc.getD 2 0) m J m1
 have Q:(aH 3 (mN (ba i) (ab (qR F0 2) (ab (m2 aC (mN bH (ab (ah (.int 4)) (ab (ah (.int 6)) (ab (ah (.int 14)) af)))) (m2 (aY .Mod) (qR F0 3) (ah (.int 3)))) af)))) [some (SC sc),oR b,oR c,none] a=.nx [some (SC sc),oR b,oR c,oR wq] l:=by
  have h:=uB (Ω:=a) g 2 (ρ:=[some (SC sc),oR b,oR c,none]) (sc:=sc) rfl;have h:qR F0 2 [some (SC sc),oR b,oR c,none] a=_:=h;rw[bq,dQ,aJ,h,ai,aJ,K,ai,bE,ai,ai,ai,dS,N];rfl
 have n:=H.trans P;refine⟨ns,j,ws,b,c,wq,l,?_,(E.trans n).get _ _ z (by simp),n.get _ _ D (by simp),O,⟨A,L⟩,x,B,M,y,C,by omega,by omega⟩
 unfold IY;rw[ae,F,aw,ae,G,aw,ae,Q,aw];simp[aG]
def NL(F0:List D->Out Rs)(a:aL):SM:=(dG (hJ (mN (ba a) (ab (aa 2) (ab (aa 3) (ab (aa 1) (ab (mN (di F0) (ab (aa 0) (ab (m2 (aY .Add) (ah (.int 4)) (aa 5)) af))) af))))))
 (ak (bD (ah (.bl false)))
 aj)
 aj)
def I_:EM:=(m2 (aB .Eq) (m2 (aY .Mod) (aa 5) (ah (.int 3))) (ah (.int 0)))
def NM(a:aL):SM:=(dG (fC I_ (m2 (aB .NotEq) (aD "Shapes" "many" a (m1 (aZ ["Things"] "shapes") (aa 2)) af) (mN (bo .len) (ab (aa 4) af))))
 (ak (bD (ah (.bl false)))
 aj)
 aj)
def NN(a:aL):SM:=(dG (fC I_ (hJ (mN (ba a) (ab (aa 2) (ab (aa 3) af)))))
 (ak (bD (ah (.bl false)))
 aj)
 aj)
def Lv(F0:List D->Out Rs)(a b c d:aL):SM:=
 (ak (NL F0 a)
 (ak (cA (mN (ba b) (ab (aa 3) (ab (aa 4) af))))
 (ak (NM c)
 (ak (NN d)
 aj))))
theorem C3(a:ρ[5]?=some (oI k)):∃b:Bool,I_ ρ Ω=.ok (.bl b) Ω:=by
 refine⟨decide ((k:Int)%3=0),?_⟩;have c:(m2 (aY .Mod) (aa 5) (ah (.int 3))) ρ Ω=.ok (.int ((k:Int)%3)) Ω:=by simp[a]
 unfold I_;rw[bK,c,ai,bU,ai,zd]
theorem Fq(b:Fc L L' M)(a:∀y∈M,aQ y.v∈L'):qM L M=L':=by
 rcases b with rfl|⟨R,c,rfl,y,d,e⟩
 .exact sJ a
 .refine ux c (λz f=>?_) ⟨y,d,e⟩
  rcases List.mem_append.mp (a z f)with h|h
  .exact .inl h
  .exact .inr (List.mem_singleton.mp h)
theorem Fs(I:ju (λns k=>ns.getD k 0) F0)(J:jK μ F){q j r s t w:aL}(hI:ip q)(hT:eo j)(hS:hX r)(hG:jX s)(hW:jY t)(hC:iq w)(B:FR A nq kq wq h ns ks ws)(H:Q4 Ω A L L cs M ns)(hl:L.length<=400)(hm:M.length<40) :
  ∃e l f au,Lv F0 (Fi F q j r s t w C1) (er (aO 3 2 CW)) (aO 1 1 Cd) (Ci j) (oE (SC sc) (cS nq kq wq) A (oI k)) Ω=.nx (oE (SC sc) (cS nq kq wq) A (oI k)) au/\Q4 au A e e f l ns/\e.length<=L.length+1/\l.length<=M.length+1:=by
 obtain⟨e,l,m,e1,n,hN,hM⟩:=IK (x:=sc.getD (4+k) 0) J hI hT hS hG hW hC B H (by omega) hm
 have r1:NL F0 (Fi F q j r s t w C1) (oE (SC sc) (cS nq kq wq) A (oI k)) Ω=.nx (oE (SC sc) (cS nq kq wq) A (oI k)) m:=by
  have C:=I sc (4+k);simp only at C;have ha:(m2 (aY .Add) (ah (.int 4)) (aa 5)) (oE (SC sc) (cS nq kq wq) A (oI k)) Ω=.ok (.int ((4+k:Nat):Int)) Ω:=by simp
  have hv:(mN (di F0) (ab (aa 0) (ab (m2 (aY .Add) (ah (.int 4)) (aa 5)) af))) (oE (SC sc) (cS nq kq wq) A (oI k)) Ω=.ok (.int (sc.getD (4+k) 0)) Ω:=by
   have h0:aa 0 (oE (SC sc) (cS nq kq wq) A (oI k)) Ω=.ok (SC sc) Ω:=rfl;rw[dQ,aJ,h0,ai,aJ,ha,ai];simp[C,-Int.natCast_add]
  have d:(mN (ba (Fi F q j r s t w C1)) (ab (aa 2) (ab (aa 3) (ab (aa 1) (ab (mN (di F0) (ab (aa 0) (ab (m2 (aY .Add) (ah (.int 4)) (aa 5)) af))) af))))) (oE (SC sc) (cS nq kq wq) A (oI k)) Ω=.ok (.bl true) m:=by
   have:(ab (aa 2) (ab (aa 3) (ab (aa 1) (ab (mN (di F0) (ab (aa 0) (ab (m2 (aY .Add) (ah (.int 4)) (aa 5)) af))) af))):AM) (oE (SC sc) (cS nq kq wq) A (oI k)) Ω=.ok [.ref A.T,.ref A.P,cS nq kq wq,.int (sc.getD (4+k) 0)] Ω:=by
    have K:aa 2 (oE (SC sc) (cS nq kq wq) A (oI k)) Ω=.ok (.ref A.T) Ω:=rfl;have N:aa 3 (oE (SC sc) (cS nq kq wq) A (oI k)) Ω=.ok (.ref A.P) Ω:=rfl;have O:aa 1 (oE (SC sc) (cS nq kq wq) A (oI k)) Ω=.ok (cS nq kq wq) Ω:=rfl;rw[aJ,K,ai,aJ,N,ai,aJ,O,ai,aJ,hv];rfl
   rw[dQ,this,ai,dS,e1];rfl
  unfold NL;rw[cY,t9,d];rfl
 have Q:e.length<=L.length+1:=by
  rcases hN with rfl|⟨R,_,rfl,_⟩
  .omega
  .simp
 obtain⟨f,a,e2,g,p2⟩:=IJ n.H n.p (by omega) (by omega)
 have S:qM L l=e:=Fq hN λy hy=>List.mem_of_getElem? (n.H.al y hy).G.wd
 rw[S]at g
 have r2:(cA (mN (ba (er (aO 3 2 CW))) (ab (aa 3) (ab (aa 4) af)))) (oE (SC sc) (cS nq kq wq) A (oI k)) m=.nx (oE (SC sc) (cS nq kq wq) A (oI k)) a:=by
  simp[e2]
 have r3:NM (aO 1 1 Cd) (oE (SC sc) (cS nq kq wq) A (oI k)) a=.nx (oE (SC sc) (cS nq kq wq) A (oI k)) a:=by
  obtain⟨b,E⟩:=C3 (k:=k) (Ω:=a) (ρ:=(oE (SC sc) (cS nq kq wq) A (oI k))) rfl;have U:=IF g.W.sh;have o:=eE g.ce.ce;have a0:=g.ce.len;have V:((f.map D.ref).length:Int)=e.length:=by simp;omega
  rw[V]at o;have hf:=eO g.W
  have X:aD "Shapes" "many" (aO 1 1 Cd) (m1 (aZ ["Things"] "shapes") (aa 2)) af (oE (SC sc) (cS nq kq wq) A (oI k)) a=.ok (.int e.length) a:=by
   rw[ir g.W.sh (by simp[hf]) (by decide),bE,ai,U]
   rfl
  have Y:(mN (bo .len) (ab (aa 4) af)) (oE (SC sc) (cS nq kq wq) A (oI k)) a=.ok (.int e.length) a:=o
  have C:(fC I_ (m2 (aB .NotEq) (aD "Shapes" "many" (aO 1 1 Cd) (m1 (aZ ["Things"] "shapes") (aa 2)) af) (mN (bo .len) (ab (aa 4) af)))) (oE (SC sc) (cS nq kq wq) A (oI k)) a=.ok (.bl false) a:=by
   rw[e9,E,ai,bV];cases b with
   |false=>rw[qw]
   |true=>
    rw[lL,bK,X,ai,Y,ai,C2,decide_eq_true rfl];rfl
  unfold NM;rw[eP C];rfl
 have Z:∃c,NN (Ci j) (oE (SC sc) (cS nq kq wq) A (oI k)) a=.nx (oE (SC sc) (cS nq kq wq) A (oI k)) c/\Ps c A e e f l/\c[A.P]?=some (.dK (dH l)):=by
  obtain⟨b,E⟩:=C3 (k:=k) (Ω:=a) (ρ:=(oE (SC sc) (cS nq kq wq) A (oI k))) rfl;unfold NN;cases b with
  |false=>
   refine⟨a,?_,g,p2⟩;rw[eP (b:=false)]
   .rfl
   .rw[e9,E,ai,bV,qw]
  |true=>
   obtain⟨c,e3,H3,p3⟩:=CV hT g p2 (by omega)
   refine⟨c,?_,H3,p3⟩
   have d:(mN (ba (Ci j)) (ab (aa 2) (ab (aa 3) af))) (oE (SC sc) (cS nq kq wq) A (oI k)) a=.ok (.bl true) c:=by
    simp[e3]
   rw[cY,e9,E,ai,bV,lL,t9,d];rfl
 obtain⟨c,Z,H3,p3⟩:=Z;refine⟨e,l,f,c,?_,⟨H3,p3,n.z,n.i,n.u⟩,Q,hM⟩;unfold Lv;rw[ae,r1,aw,ae,r2,aw,ae,r3,aw,ae,Z];rfl
def NO:EM:=(m2 (aB .In) qE (m2 aC (aa 1) (ah (.int 0))))
def NP(a b:aL):EM:=(fC (mN (ba a) (ab (aa 2) (ab (aa 3) (ab (m2 aC (m2 aC (aa 1) (ah (.int 1))) (ah (.int 0))) (ab (m2 aC (aa 1) (ah (.int 2))) af))))) (mN (ba b) (ab (aa 2) (ab (aa 3) af))))
def NQ(a b:aL):SM:=
 (ak (dG NO
 (ak (bD (ah (.bl true)))
 aj)
 aj)
 (ak (bD (NP a b))
 aj))
def Ft(F0:List D->Out Rs)(PO b c d e f a g:aL):SM:=
 (ak (aH 1 (mN (ba PO) (ab (aa 0) af)))
 (ak (aH 2 (mN (dO "Things" b) (ab (mN (ba c) (ab (m2 aC (aa 1) (ah (.int 1))) af)) af)))
 (ak (aH 3 br)
 (ak (aH 4 (mN bH (ab (mN bH af) af)))
 (ak (ek (cP 5) (dW (ab (ah (.int 40)) af)) (Lv F0 d e f a))
 (NQ g a))))))
theorem Ja{g b l m o p:aL}(G:ip g)(F:eo b)(I:hX l)(J:jX m)(K:jY o)(N:iq p)(B:FR A nq kq wq h ns ks ws)(H:Q4 Ω A L CM cs M ns)(O:L.length<=100){a5:Option D}{S:D} :
  ∃au,iM (NQ (IX g b l m o p) (Ci b) (oE S (cS nq kq wq) A a5) Ω)=.ok (.bl true) au:=by
 have Q:=H.H.bs.get _ _ B.n (by simp)
 have R:=H.H.bs.get _ _ B.k (by simp)
 have r:=oF (w:=qn) Q
 have c:NO (oE S (cS nq kq wq) A a5) Ω=.ok (.bl (decide (qn∈ns))) Ω:=by
  have e:(m2 aC (aa 1) (ah (.int 0))) (oE S (cS nq kq wq) A a5) Ω=.ok (.ref nq) Ω:=by
   show aC (cS nq kq wq) (.int 0) Ω=_
   exact iW rfl
  unfold NO;rw[bK,IQ,ai,e,ai,r]
 have s:M.length<=5:=by
  have e:(M.map (·.n)).length<=ns.length:=List.Nodup.length_le_of_subset H.H.nn λn U=>by
   obtain⟨y,V,rfl⟩:=List.mem_map.mp U;exact H.i y V
  rw[List.length_map,B.ln]at e;exact e
 unfold NQ
 by_cases t:qn∈ns
 .rw[decide_eq_true t]at c
  refine⟨Ω,?_⟩;rw[ae,eP c];rfl
 .rw[decide_eq_false t]at c
  have lk:=B.lk;obtain⟨f,q⟩:∃f,ks[0]?=some f:=⟨ks[0]'(by omega),List.getElem?_eq_getElem _⟩
  obtain⟨L',a,u,X,Y⟩:=IW G F I J K N B H t (List.mem_of_getElem? q) s O;obtain⟨d,x,H2,p2⟩:=CV F X Y (by omega)
  have u:IX g b l m o p [.ref A.T,.ref A.P,.str f,.ref wq] Ω=_:=u;have x:Ci b [.ref A.T,.ref A.P] a=_:=x;refine⟨d,?_⟩
  have e:(m2 aC (m2 aC (aa 1) (ah (.int 1))) (ah (.int 0))) (oE S (cS nq kq wq) A a5) Ω=.ok (.str f) Ω:=by
   have z:(m2 aC (aa 1) (ah (.int 1))) (oE S (cS nq kq wq) A a5) Ω=.ok (.ref kq) Ω:=by
    show aC (cS nq kq wq) (.int 1) Ω=_
    exact iW rfl
   rw[bK,z,ai,bU,ai];exact bL R (L2.dI (xs:=ks.map D.str) (j:=0) (v:=.str f) (by simp[q]))
  have z:(m2 aC (aa 1) (ah (.int 2))) (oE S (cS nq kq wq) A a5) Ω=.ok (.ref wq) Ω:=by
   show aC (cS nq kq wq) (.int 2) Ω=_
   exact iW rfl
  have Z:(mN (ba (IX g b l m o p)) (ab (aa 2) (ab (aa 3) (ab (m2 aC (m2 aC (aa 1) (ah (.int 1))) (ah (.int 0))) (ab (m2 aC (aa 1) (ah (.int 2))) af))))) (oE S (cS nq kq wq) A a5) Ω=.ok (.bl true) a:=by
   have:(ab (aa 2) (ab (aa 3) (ab (m2 aC (m2 aC (aa 1) (ah (.int 1))) (ah (.int 0))) (ab (m2 aC (aa 1) (ah (.int 2))) af))):AM) (oE S (cS nq kq wq) A a5) Ω=.ok [.ref A.T,.ref A.P,.str f,.ref wq] Ω:=by
    have C:aa 2 (oE S (cS nq kq wq) A a5) Ω=.ok (.ref A.T) Ω:=rfl;have E:aa 3 (oE S (cS nq kq wq) A a5) Ω=.ok (.ref A.P) Ω:=rfl;rw[aJ,C,ai,aJ,E,ai,aJ,e,ai,aJ,z];rfl
   rw[dQ,this,ai,dS,u];rfl
  have c2:(mN (ba (Ci b)) (ab (aa 2) (ab (aa 3) af))) (oE S (cS nq kq wq) A a5) a=.ok (.bl true) d:=by
   have:(ab (aa 2) (ab (aa 3) af):AM) (oE S (cS nq kq wq) A a5) a=.ok [.ref A.T,.ref A.P] a:=rfl;rw[dQ,this,ai,dS,x];rfl
  have c3:NP (IX g b l m o p) (Ci b) (oE S (cS nq kq wq) A a5) Ω=.ok (.bl true) d:=by
   unfold NP;rw[e9,Z,ai,bV,lL,c2]
  rw[ae,eP c,if_neg (by simp),gM,aw,ae,b_,c3]
  rfl
theorem ze(w:ju (λns k=>ns.getD k 0) F0)(I:jK μ F){y u z C D J K x E:aL}(hN:B9 J)(hw:yK K)(hA:yN x)(Y:iq E)(Z:ip y)(hT:eo u)(hS:hX z)(hG:jX C)(hW:jY D) :
  ∃au,aO 6 1 (Ft F0 (aO 4 1 (IY F0 J)) (aO 2 2 (Iw (aO 1 1 ER))) (aO 3 1 (Iu (aO 2 2 (EN K (aO 2 2 BV))) (aO 4 4 (BW x (aO 3 2 zi))) x)) (Fi F y u z C D E C1) (er (aO 3 2 CW)) (aO 1 1 Cd) (Ci u) (IX y u z C D E)) [SC sc] []=.ok (.bl true) au:=by
 rw[aU (by rfl)]
 have e0:aM 6 [SC sc]=[some (SC sc),none,none,none,none,none]:=rfl;rw[e0];obtain⟨ns,ks,ws,l,j,n,p,e1,n1,k1,w1,⟨kn,wn⟩,vn,vk,vw,ln,lk,lw⟩:=IZ (Ω:=[]) (sc:=sc) w hN
 have r1:(aH 1 (mN (ba (aO 4 1 (IY F0 J))) (ab (aa 0) af))) [some (SC sc),none,none,none,none,none] []=.nx [some (SC sc),some (cS l j n),none,none,none,none] p:=by
  have:(ab (aa 0) af:AM) [some (SC sc),none,none,none,none,none] []=.ok [SC sc] []:=rfl;rw[bq,dQ,this,ai,dS,e1];rfl
 obtain⟨t,h,g,c,e3,N,O⟩:=Iv hw hA k1 kn (by omega) vk
 obtain⟨s,r,m,d,a,e4,P,K4⟩:=ET (Ω:=c) (t:=t);have Q:aC (cS l j n) (.int 1) p=.ok (.ref j) p:=iW rfl
 have r2:(aH 2 (mN (dO "Things" (aO 2 2 (Iw (aO 1 1 ER)))) (ab (mN (ba (aO 3 1 (Iu (aO 2 2 (EN K (aO 2 2 BV))) (aO 4 4 (BW x (aO 3 2 zi))) x))) (ab (m2 aC (aa 1) (ah (.int 1))) af)) af))) [some (SC sc),some (cS l j n),none,none,none,none] p=.nx [some (SC sc),some (cS l j n),oR c.length,none,none,none] a:=by
  simp[Q,e3,e4]
 obtain⟨⟨f,b,ht⟩,hs,T⟩:=id N;have r3:(aH 3 br) [some (SC sc),some (cS l j n),oR c.length,none,none,none] a=.nx [some (SC sc),some (cS l j n),oR c.length,oR a.length,none,none] (a++[.dK []]):=rfl
 have r4:(aH 4 (mN bH (ab (mN bH af) af))) [some (SC sc),some (cS l j n),oR c.length,oR a.length,none,none] (a++[.dK []])=.nx [some (SC sc),some (cS l j n),oR c.length,oR a.length,oR (a.length+2),none] (a++[.dK [],.lst [],.lst [.ref (a.length+1)]]):=by
  simp[aG]
 have K5:ag [] a (a++[Cell.dK [],.lst [],.lst [.ref (a.length+1)]]):=ag.app;have g5:(a++[Cell.dK [],.lst [],.lst [.ref (a.length+1)]])[a.length]?=some (.dK []):=av;have g6:(a++[Cell.dK [],.lst [],.lst [.ref (a.length+1)]])[a.length+1]?=some (.lst []):=by rw[List.getElem?_append_right (by omega)];simp
 have g7:(a++[Cell.dK [],.lst [],.lst [.ref (a.length+1)]])[a.length+2]?=some (.lst [.ref (a.length+1)]):=by rw[List.getElem?_append_right (by omega)];simp
 have l5:(a++[Cell.dK [],.lst [],.lst [.ref (a.length+1)]]).length=a.length+3:=by simp
 generalize a++[Cell.dK [],.lst [],.lst [.ref (a.length+1)]]=q at *;have ld:=bp P.dk;have a0:=P.lt
 let A:Ae:=⟨c,a.length+1,c.length,t,s,r,m,d,a.length,a.length+2⟩
 have P5:Ps q A [[]] [[]] [a.length+1] []:=by
  refine⟨P.bX K5,.inl g5,by simp,by simp,⟨g7,.cons g6 .nil⟩,by simp[ads],?_,?_,?_,?_,K4.trans K5,Nat.le_refl _⟩
  all_goals simp only[A,ads,List.flatMap_nil,List.nil_append,List.mem_singleton,forall_eq]
  all_goals omega
 have B:FR A l j n h ns ks ws:=⟨O.get _ _ n1 (by simp),O.get _ _ k1 (by simp),O.get _ _ w1 (by simp),⟨_,ht⟩,hs,vn,vw,ln,lk,lw,wn⟩
 have Q5:Q4 q A [[]] [[]] [a.length+1] [] ns:=⟨P5,g5,rfl,by simp,by simp⟩
 have U:dW (ab (ah (.int 40)) af) [some (SC sc),some (cS l j n),oR c.length,oR a.length,oR (a.length+2),none] q=.ok (.ints 0 40) q:=rfl;unfold Ft;rw[ae,r1,aw,ae,r2,aw,ae,r3,aw,ae,r4,aw,ae,de,U,bP];refine cp (R:=λr=>∃au,iM (sq r _)=.ok (.bl true) au) (ds:=intsFrom 0 40) (λi G o=>∃a5 L M V,G=[some (SC sc),some (cS l j n),oR c.length,oR a.length,oR (a.length+2),a5]/\Q4 o A L L V M ns/\L.length<=1+i/\M.length<=i) ?_ ?_ ?_ fuel 0 _ _ (by rw[dP];unfold fuel;omega) (Nat.zero_le _) ⟨_,_,_,_,rfl,Q5,by simp,by simp⟩
 .rintro i G o _
  rfl
 .rintro i dd G o hd ⟨a5,L,M,V,rfl,H,hL,hM⟩
  obtain⟨rfl,b0⟩:=fU hd;refine⟨[some (SC sc),some (cS l j n),oR c.length,oR a.length,oR (a.length+2),oI (0+(i:Int))],rfl,?_⟩;rw[Int.zero_add];obtain⟨L',M',X,c0,e,H',f0,g0⟩:=Fs (sc:=sc) (k:=i) w I Z hT hS hG hW Y B H (by omega) (by omega)
  rw[show Lv F0 (Fi F y u z C D E C1) (er (aO 3 2 CW)) (aO 1 1 Cd) (Ci u) [some (SC sc),some (cS l j n),oR c.length,oR a.length,oR (a.length+2),oI i] o=_ from e]
  exact⟨_,L',M',X,rfl,H',by omega,by omega⟩
 .rintro G o ⟨a5,L,M,V,rfl,H,hL,hM⟩
  rw[dP]at hL;exact Ja (S:=SC sc) (a5:=a5) Z hT hS hG hW Y B H (by omega)
end
end Mir
namespace Mir
open PySem PySem.Spec PyProof.Rows L2
structure cG(K:PySem.W.Frag)(C:Addr)(x qual:Str)(st:Stmt)(f:Addr)(fd:FuncData):Prop where
 me:Meth K C x f
 fn:FE K x qual st f fd
theorem zf{K:PySem.W.Frag}{C:Addr}{x qual:Str}{st:Stmt}{f:Addr}{oc:Value}{j g:Option Addr}{e:Array (Option Value)}{kV d h b ct:Value}(a:PySem.W.findIn K (.ref C) x=some (some (.ref f)))
  (l:K.lookup f=some ⟨oc,j,.func (PySem.W.fnOf x qual (bR st) (bS st) (aq st) .none kV d h g b ct),e⟩) (c:PySem.W.codeIn K b qual=true) (k:PySem.W.keepIn K (.ref f)=true) (i:PySem.W.isFn K (.ref f)=true):cG K C x qual st f (PySem.W.fnOf x qual (bR st) (bS st) (aq st) .none kV d h g b ct):=⟨⟨a,i,k⟩,rl l c k⟩
variable [aK]
section
variable{P:Program}{w:World}{K:PySem.W.Frag}{mg:Str->Option Value}{base h:Heap}{T:aN}{k:Nat}{x qual C:Str}{Ca f:Addr}{st:Stmt}{fd:FuncData}{N ps td:List Str}{c:SM}
theorem e_(F:FE K x qual st f fd):BJ K x qual st .none f fd:=⟨F.ex,F.kp⟩
theorem aT.iu(W:aT P w K mg base T k)(X:K.In h)(G:h.Ns mainGlobals mg)(a:df K x st f fd)(e:bc N ps (aq st)=true)(g:bg T td st N=some c)(i:∀(kV b j:Value) (l:Option Addr) (d ct:Value) (us:List Value),us.length=ps.length->bindArgs (PySem.W.fnOf x x (bR st) (bS st) (aq st) .none kV b j l d ct) ⟨us,[]⟩=pure (ps.zip us)) :
  aT P w K mg base (T.ey x (aO N.length ps.length c)) (k+1):=W.ey (PySem.W.mg_of X G a.ns) a.fn.kp (a.fn.binds i) (cx W (e_ a.fn) e g)
theorem aT.gk(W:aT P w K mg base T k)(e:mg C=some (.ref Ca))(g:j_ K Ca)(a:cG K Ca x qual st f fd)(h:bc N ps (aq st)=true)(i:bg T td st N=some c)(j:∀(kV b l:Value) (m:Option Addr) (d ct:Value) (us:List Value),us.length=ps.length->bindArgs (PySem.W.fnOf x qual (bR st) (bS st) (aq st) .none kV b l m d ct) ⟨us,[]⟩=pure (ps.zip us)) :
  aT P w K mg base (T.cL C x (aO N.length ps.length c)) (k+1):=W.cL e g a.me (a.fn.binds j) (cx W (e_ a.fn) h i)
end
end Mir
namespace Fu
open PySem PySem.Spec PyProof.Rows L2 Mir
noncomputable def top(i:Nat):Stmt:=PySem.Challenge.pw_taglook_k64_one_shape_for_one_row.main.body.getD i (.Pass ⟨0,0,0,0⟩)
instance clos:aK:=⟨λ_=>⟨"","",bR (top 0),[],aq (top 0),[],[]⟩,λ_=>0⟩
noncomputable def td:List Str:=[]
def NR:aN:=((((((((((((((((((((((((({}:aN).hV "_law_silent" (.dct [] [])).hV "MOST_OWN_WORDS" (.int 12)).hV "MOST_THINGS" (.int 40)).hV "MOST_ELDERS" (.int 5)).hV "MOST_KINDS" (.int 12)).hV "MOST_LETTERS" (.int 8)).hV "LETTERS" (.str "abcdefghijklmnopqrstuvwxyz")).cW "elders" ["House"]).cW "lines" ["House"]).cW "house" ["Town"]).cW "facts" ["Town"]).cW "tags" ["Town"]).cW "last_deed" ["Town"]).cW "teller" ["Facts"]).cW "strengths" ["Facts"]).cW "asked" ["Facts"]).cW "rows" ["Shapes"]).cW "numbers" ["Shapes"]).cW "kind" ["Thing"]).cW "shape" ["Thing"]).cW "slots" ["Thing"]).cW "town" ["Things"]).cW "shapes" ["Things"]).cW "made" ["Things"])
noncomputable def Sw:List Str:=["_law_script","_law_k"]
noncomputable def Sx:List Str:=["_law_script","_law_k"]
def Sy:SM:=oO
def UG:aL:=aO 2 2 Sy
def F0:List Mir.D->Out Rs:=pureOf UG
def NS:aN:=NR.vG "_law_cell" F0
theorem UH:bc Sw Sx (aq (top 51))=true:=by decide +kernel
theorem UI:bg NR td (top 51) Sw=some Sy:=rfl
noncomputable def Sz:List Str:=["_law_cell_here","_law_turn","_law_many","_law_rest","_law_k","_law_turns","_law_one","_law_two"]
noncomputable def SA:List Str:=["_law_cell_here","_law_turn","_law_many"]
def SD:SM:=m8
def UJ:aL:=aO 8 3 SD
def F1:List Mir.D->Out Rs:=pureOf UJ
def SE:aN:=NS.vG "_law_mix" F1
theorem UK:bc Sz SA (aq (top 52))=true:=by decide +kernel
theorem UL:bg NS td (top 52) Sz=some SD:=rfl
def U0:aN:=SE
noncomputable def SF:List Str:=["thing"]
noncomputable def UM:List Str:=["thing"]
def d0:SM:=Ng
def O0:aL:=aO 1 1 d0
def U1:aN:=U0.ey "is_name" O0
theorem UN:bc SF UM (aq (top 19))=true:=by decide +kernel
theorem UO:bg U0 td (top 19) SF=some d0:=rfl
noncomputable def SG:List Str:=["left","name","place","row"]
noncomputable def UP:List Str:=["left","name"]
def d1:SM:=MY
def O1:aL:=aO 4 2 d1
def U2:aN:=U1.ey "place_behind" O1
theorem UQ:bc SG UP (aq (top 39))=true:=by decide +kernel
theorem UR:bg U1 td (top 39) SG=some d1:=rfl
noncomputable def SH:List Str:=["left","row"]
noncomputable def US:List Str:=["left"]
def d2:SM:=MZ O1
def O2:aL:=aO 2 1 d2
def U3:aN:=U2.ey "free_name" O2
theorem UT:bc SH US (aq (top 38))=true:=by decide +kernel
theorem UU:bg U2 td (top 38) SH=some d2:=rfl
noncomputable def SI:List Str:=["rows","left","order","name"]
noncomputable def UW:List Str:=["rows"]
def d3:SM:=Eu bA O2
def O3:aL:=aO 4 1 d3
def U4:aN:=U3.ey "merged" O3
theorem UX:bc SI UW (aq (top 37))=true:=by decide +kernel
theorem UY:bg U3 td (top 37) SI=some d3:=rfl
noncomputable def SJ:List Str:=["elders","order"]
noncomputable def UZ:List Str:=["elders","order"]
def d4:SM:=M9
def O4:aL:=aO 2 2 d4
def U5:aN:=U4.ey "ready_kinds" O4
theorem U_:bc SJ UZ (aq (top 34))=true:=by decide +kernel
theorem Va:bg U4 td (top 34) SJ=some d4:=rfl
noncomputable def SK:List Str:=["elders","order","ready"]
noncomputable def Vb:List Str:=["elders"]
def d5:SM:=M_ O4
def O5:aL:=aO 3 1 d5
def U6:aN:=U5.ey "elders_first" O5
theorem Vc:bc SK Vb (aq (top 33))=true:=by decide +kernel
theorem Vd:bg U5 td (top 33) SK=some d5:=rfl
noncomputable def SN:List Str:=["elders","order","name","left","met"]
noncomputable def Ve:List Str:=["elders"]
def d6:SM:=Nb O5
 (ak (aH 4 (mN bH af))
 (ak (aH 2 (m2 aC (aa 3) (ah (.int 0))))
 (ak (rT (m2 (aB .NotIn) (aa 2) (aa 4))
 (ak (cA (cE kf dq (aa 4) (ab (aa 2) af)))
 (ak (aH 2 (m2 aC (cJ (aa 0) false (m2 (aB .In) (aa 0) (aa 1)) (bG (m2 aC (aa 0) (aa 2))) 0 [3]) (ah (.int 0))))
 aj)))
 (ak (bD (eu (aa 4) false (fA (cE kf fg (aa 4) (ab (aa 2) af)) (cE pY iN (aa 4) (ab (aa 2) af))) true (ah .non)))
 aj))))
def O6:aL:=aO 5 1 d6
def U7:aN:=U6.ey "loop_of" O6
theorem Vf:bc SN Ve (aq (top 35))=true:=by decide +kernel
theorem Vg:bg U6 td (top 35) SN=some d6:=rfl
noncomputable def SQ:List Str:=["lines","own_elders"]
noncomputable def Vh:List Str:=["lines","own_elders"]
def d7:SM:=Nd
def O7:aL:=aO 2 2 d7
def U8:aN:=U7.ey "rows_by" O7
theorem Vi:bc SQ Vh (aq (top 43))=true:=by decide +kernel
theorem Vj:bg U7 td (top 43) SQ=some d7:=rfl
noncomputable def SR:List Str:=["elders","ring","lines","tangles","name","refusal"]
noncomputable def Vk:List Str:=["elders"]
def d8:SM:=Nf O6 O5 O3 O7
def O8:aL:=aO 6 1 d8
def U9:aN:=U8.ey "lines_of" O8
theorem Vl:bc SR Vk (aq (top 42))=true:=by decide +kernel
theorem Vm:bg U8 td (top 42) SR=some d8:=rfl
noncomputable def SS:List Str:=["self"]
noncomputable def SU:List Str:=["self"]
def d9:SM:=Lk
def O9:aL:=aO 1 1 d9
def SV:aN:=U9.cL "House" "__init__" O9
theorem Vn:bc SS SU (aq (inClass (top 47) 0))=true:=by decide +kernel
theorem Vo:bg U9 td (inClass (top 47) 0) SS=some d9:=rfl
def NT:aN:=SV.iQ "House" O9
noncomputable def Jb:List Str:=["self"]
noncomputable def NU:List Str:=["self"]
def SW:SM:=Nh
def Lw:aL:=aO 1 1 SW
def NV:aN:=NT.cL "House" "kinds" Lw
theorem NW:bc Jb NU (aq (inClass (top 47) 5))=true:=by decide +kernel
theorem NX:bg NT td (inClass (top 47) 5) Jb=some SW:=rfl
noncomputable def Jc:List Str:=["self","name"]
noncomputable def NY:List Str:=["self","name"]
def SX:SM:=Ni Lw
def Jd:aL:=aO 2 2 SX
def NZ:aN:=NV.cL "House" "check_kind" Jd
theorem N7:bc Jc NY (aq (inClass (top 47) 11))=true:=by decide +kernel
theorem N8:bg NV td (inClass (top 47) 11) Jc=some SX:=rfl
noncomputable def Je:List Str:=["self","elders","place","elder"]
noncomputable def N9:List Str:=["self","elders"]
def SY:SM:=Nk Jd
def N_:aL:=aO 4 2 SY
def Oa:aN:=NZ.cL "House" "check_elders" N_
theorem Ob:bc Je N9 (aq (inClass (top 47) 12))=true:=by decide +kernel
theorem Oc:bg NZ td (inClass (top 47) 12) Je=some SY:=rfl
noncomputable def Jf:List Str:=["self","elders","lines"]
noncomputable def Od:List Str:=["self","elders"]
def S7:SM:=Nl O8
def Oe:aL:=aO 3 2 S7
def Of:aN:=Oa.cL "House" "settle" Oe
theorem Og:bc Jf Od (aq (inClass (top 47) 13))=true:=by decide +kernel
theorem Oh:bg Oa td (inClass (top 47) 13) Jf=some S7:=rfl
noncomputable def Jg:List Str:=["self","name","elders","at","order"]
noncomputable def jZ:List Str:=["self","name","elders","at"]
def S8:SM:=Np O0 N_ Lw Oe
def Jh:aL:=aO 5 4 S8
def Oi:aN:=Of.cL "House" "add" (λa=>Jh (a++[.non]))
theorem Oj:bc Jg jZ (aq (inClass (top 47) 1))=true:=by decide +kernel
theorem Ol:bg Of td (inClass (top 47) 1) Jg=some S8:=rfl
def S9:aN:={Oi with met:=Oi.met.filter λz=>z.1 != "add" }
def Om:aN:=S9.cL "House" "add" Jh
noncomputable def Ji:List Str:=["self","teller"]
noncomputable def Jj:List Str:=["self","teller"]
def S_:SM:=BV
def Oo:aL:=aO 2 2 S_
def Ta:aN:=Om.cL "Facts" "__init__" Oo
theorem Oq:bc Ji Jj (aq (inClass (top 31) 0))=true:=by decide +kernel
theorem Ot:bg Om td (inClass (top 31) 0) Ji=some S_:=rfl
def Ou:aN:=Ta.iQ "Facts" Oo
noncomputable def Jk:List Str:=["self","teller"]
noncomputable def Jl:List Str:=["self","teller"]
def Tb:SM:=EN O9 Oo
def Ov:aL:=aO 2 2 Tb
def Tc:aN:=Ou.cL "Town" "__init__" Ov
theorem Ow:bc Jk Jl (aq (inClass (top 49) 0))=true:=by decide +kernel
theorem Ox:bg Ou td (inClass (top 49) 0) Jk=some Tb:=rfl
def Oy:aN:=Tc.iQ "Town" Ov
noncomputable def Jm:List Str:=["self","touched","name"]
noncomputable def Oz:List Str:=["self","touched"]
def Td:SM:=zi
def Te:aL:=aO 3 2 Td
def OA:aN:=Oy.cL "Town" "count_deed" Te
theorem OB:bc Jm Oz (aq (inClass (top 49) 15))=true:=by decide +kernel
theorem OC:bg Oy td (inClass (top 49) 15) Jm=some Td:=rfl
noncomputable def Jn:List Str:=["self","name","elders","at"]
noncomputable def vR:List Str:=["self","name","elders","at"]
def Tf:SM:=BW Jh Te
def Th:aL:=aO 4 4 Tf
def OD:aN:=OA.cL "Town" "add" (λa=>Th (a++[.non]))
theorem OE:bc Jn vR (aq (inClass (top 49) 1))=true:=by decide +kernel
theorem OF:bg OA td (inClass (top 49) 1) Jn=some Tf:=rfl
noncomputable def Jo:List Str:=["self"]
noncomputable def Jp:List Str:=["self"]
def Ti:SM:=ER
def OG:aL:=aO 1 1 Ti
def Tj:aN:=OD.cL "Shapes" "__init__" OG
theorem OH:bc Jo Jp (aq (inClass (top 22) 0))=true:=by decide +kernel
theorem OI:bg OD td (inClass (top 22) 0) Jo=some Ti:=rfl
def OJ:aN:=Tj.iQ "Shapes" OG
noncomputable def Jq:List Str:=["self","words","row"]
noncomputable def OK:List Str:=["self","words"]
def Tp:SM:=Ll
def Lx:aL:=aO 3 2 Tp
def OL:aN:=OJ.cL "Shapes" "number_of" Lx
theorem OM:bc Jq OK (aq (inClass (top 22) 1))=true:=by decide +kernel
theorem ON:bg OJ td (inClass (top 22) 1) Jq=some Tp:=rfl
noncomputable def Jr:List Str:=["self","number"]
noncomputable def OO:List Str:=["self","number"]
def Tq:SM:=Nq
def Js:aL:=aO 2 2 Tq
def OP:aN:=OL.cL "Shapes" "words_of" Js
theorem OQ:bc Jr OO (aq (inClass (top 22) 2))=true:=by decide +kernel
theorem OR:bg OL td (inClass (top 22) 2) Jr=some Tq:=rfl
noncomputable def Jt:List Str:=["self","number","word"]
noncomputable def OS:List Str:=["self","number","word"]
def Tr:SM:=Nr Lx Js
def OT:aL:=aO 3 3 Tr
def OU:aN:=OP.cL "Shapes" "grown" OT
theorem OV:bc Jt OS (aq (inClass (top 22) 3))=true:=by decide +kernel
theorem OW:bg OP td (inClass (top 22) 3) Jt=some Tr:=rfl
noncomputable def Ju:List Str:=["self","number","word"]
noncomputable def OX:List Str:=["self","number","word"]
def Ts:SM:=Nt Lx Js
def OY:aL:=aO 3 3 Ts
def OZ:aN:=OU.cL "Shapes" "without" OY
theorem O_:bc Ju OX (aq (inClass (top 22) 4))=true:=by decide +kernel
theorem Pa:bg OU td (inClass (top 22) 4) Ju=some Ts:=rfl
noncomputable def Jv:List Str:=["self","number","word","row"]
noncomputable def Pb:List Str:=["self","number","word"]
def Tt:SM:=Lm Js
def Ly:aL:=aO 4 3 Tt
def Pc:aN:=OZ.cL "Shapes" "slot_of" Ly
theorem Pd:bc Jv Pb (aq (inClass (top 22) 5))=true:=by decide +kernel
theorem Pe:bg OZ td (inClass (top 22) 5) Jv=some Tt:=rfl
noncomputable def Jw:List Str:=["self"]
noncomputable def Pf:List Str:=["self"]
def Tu:SM:=Cd
def Tv:aL:=aO 1 1 Tu
def Pg:aN:=Pc.cL "Shapes" "many" Tv
theorem Ph:bc Jw Pf (aq (inClass (top 22) 6))=true:=by decide +kernel
theorem Pj:bg Pc td (inClass (top 22) 6) Jw=some Tu:=rfl
noncomputable def Jx:List Str:=["self","kind"]
noncomputable def Jy:List Str:=["self","kind"]
def Tw:SM:=vO
def Pk:aL:=aO 2 2 Tw
def Tx:aN:=Pg.cL "Thing" "__init__" Pk
theorem Pl:bc Jx Jy (aq (inClass (top 26) 0))=true:=by decide +kernel
theorem Pm:bg Pg td (inClass (top 26) 0) Jx=some Tw:=rfl
def Pn:aN:=Tx.iQ "Thing" Pk
noncomputable def Jz:List Str:=["self","town"]
noncomputable def JA:List Str:=["self","town"]
def TB:SM:=Iw OG
def Po:aL:=aO 2 2 TB
def TC:aN:=Pn.cL "Things" "__init__" Po
theorem Pp:bc Jz JA (aq (inClass (top 27) 0))=true:=by decide +kernel
theorem Pq:bg Pn td (inClass (top 27) 0) Jz=some TB:=rfl
def Pr:aN:=TC.iQ "Things" Po
noncomputable def JB:List Str:=["self","name"]
noncomputable def Pt:List Str:=["self","name"]
def TF:SM:=Nu
def Fv:aL:=aO 2 2 TF
def Pu:aN:=Pr.cL "Things" "thing" Fv
theorem Pw:bc JB Pt (aq (inClass (top 27) 11))=true:=by decide +kernel
theorem Px:bg Pr td (inClass (top 27) 11) JB=some TF:=rfl
noncomputable def JC:List Str:=["self","name","kind"]
noncomputable def Py:List Str:=["self","name","kind"]
def TJ:SM:=yW O0 Jd Pk
def Pz:aL:=aO 3 3 TJ
def PB:aN:=Pu.cL "Things" "make" Pz
theorem PC:bc JC Py (aq (inClass (top 27) 1))=true:=by decide +kernel
theorem PD:bg Pu td (inClass (top 27) 1) JC=some TJ:=rfl
noncomputable def JD:List Str:=["self","name","word","value","thing","slot"]
noncomputable def PF:List Str:=["self","name","word","value"]
def TK:SM:=vL O0 Fv Ly OT
def PH:aL:=aO 6 4 TK
def PJ:aN:=PB.cL "Things" "put" PH
theorem PK:bc JD PF (aq (inClass (top 27) 2))=true:=by decide +kernel
theorem PL:bg PB td (inClass (top 27) 2) JD=some TK:=rfl
noncomputable def JE:List Str:=["self","name","word","thing","slot"]
noncomputable def PM:List Str:=["self","name","word"]
def TL:SM:=vM Fv Ly OY
def PN:aL:=aO 5 3 TL
def PQ:aN:=PJ.cL "Things" "take" PN
theorem PR:bc JE PM (aq (inClass (top 27) 3))=true:=by decide +kernel
theorem PU:bg PJ td (inClass (top 27) 3) JE=some TL:=rfl
noncomputable def JF:List Str:=["self","name","kind","thing"]
noncomputable def PV:List Str:=["self","name","kind"]
def TM:SM:=Im Fv Jd
def TN:aL:=aO 4 3 TM
def PX:aN:=PQ.cL "Things" "move" TN
theorem PY:bc JF PV (aq (inClass (top 27) 4))=true:=by decide +kernel
theorem PZ:bg PQ td (inClass (top 27) 4) JF=some TM:=rfl
noncomputable def JG:List Str:=["self","name"]
noncomputable def P7:List Str:=["self","name"]
def TQ:SM:=zj Fv
def P8:aL:=aO 2 2 TQ
def P9:aN:=PX.cL "Things" "drop" P8
theorem P_:bc JG P7 (aq (inClass (top 27) 5))=true:=by decide +kernel
theorem Qa:bg PX td (inClass (top 27) 5) JG=some TQ:=rfl
noncomputable def JH:List Str:=["self","name"]
noncomputable def Qb:List Str:=["self","name"]
def TR:SM:=oQ Fv
def Qc:aL:=aO 2 2 TR
def Qd:aN:=P9.cL "Things" "shape_of" Qc
theorem Qe:bc JH Qb (aq (inClass (top 27) 8))=true:=by decide +kernel
theorem Qf:bg P9 td (inClass (top 27) 8) JH=some TR:=rfl
noncomputable def JI:List Str:=["_law_one","_law_other","_law_many","_law_names_here","_law_k"]
noncomputable def Qg:List Str:=["_law_one","_law_other","_law_many"]
def TU:SM:=E8
def TV:aL:=aO 5 3 TU
def Qh:aN:=Qd.ey "_law_short" TV
theorem Qi:bc JI Qg (aq (top 53))=true:=by decide +kernel
theorem Qj:bg Qd td (top 53) JI=some TU:=rfl
noncomputable def JJ:List Str:=["_law_cell_here","_law_many","_law_letters","_law_stem","_law_turn","_law_names_here","_law_other","_law_size","_law_spot","_law_first","_law_step","_law_signs"]
noncomputable def Qk:List Str:=["_law_cell_here","_law_many"]
def TX:SM:=Nz F1 TV
def Ql:aL:=aO 12 2 TX
def Qm:aN:=Qh.ey "_law_names" Ql
theorem Qn:bc JJ Qk (aq (top 54))=true:=by decide +kernel
theorem Qo:bg Qh td (top 54) JJ=some TX:=rfl
noncomputable def JK:List Str:=["_law_kinds","_law_town_here","_law_kind"]
noncomputable def Qp:List Str:=["_law_kinds"]
def TY:SM:=Iu Ov Th Jh
def TZ:aL:=aO 3 1 TY
def Qq:aN:=Qm.ey "_law_town" TZ
theorem Qr:bc JK Qp (aq (top 57))=true:=by decide +kernel
theorem Qs:bg Qm td (top 57) JK=some TY:=rfl
noncomputable def JL:List Str:=["_law_cell_here"]
noncomputable def Qt:List Str:=["_law_cell_here"]
def T7:SM:=FP
def T8:aL:=aO 1 1 T7
def Qu:aN:=Qq.ey "_law_value" T8
theorem Qv:bc JL Qt (aq (top 58))=true:=by decide +kernel
theorem Qw:bg Qq td (top 58) JL=some T7:=rfl
noncomputable def JM:List Str:=["_law_things","_law_plain","_law_pools_here","_law_cell_here","_law_names_here","_law_kinds","_law_words","_law_name","_law_kind","_law_word","_law_way","_law_own"]
noncomputable def Qx:List Str:=["_law_things","_law_plain","_law_pools_here","_law_cell_here"]
def T9:SM:=C1 F1 T8 Pz PH PN TN P8
def T_:aL:=aO 12 4 T9
def Qy:aN:=Qu.ey "_law_deed" T_
theorem Qz:bc JM Qx (aq (top 59))=true:=by decide +kernel
theorem QA:bg Qu td (top 59) JM=some T9:=rfl
noncomputable def JN:List Str:=["_law_script","_law_names_here","_law_kinds","_law_words"]
noncomputable def QB:List Str:=["_law_script"]
def Ua:SM:=IY F0 Ql
def Ub:aL:=aO 4 1 Ua
def QC:aN:=Qy.ey "_law_pools" Ub
theorem QD:bc JN QB (aq (top 60))=true:=by decide +kernel
theorem QE:bg Qy td (top 60) JN=some Ua:=rfl
noncomputable def JO:List Str:=["_law_things","_law_plain","_law_one","_law_other","_law_same"]
noncomputable def JP:List Str:=["_law_things","_law_plain"]
def Uc:SM:=IH Qc
def Ud:aL:=er (aO 5 2 Uc)
def QF:aN:=QC.ey "_law_alike" Ud
theorem QG:bc JO JP (aq (top 61))=true:=by decide +kernel
theorem QH:bg QC td (top 61) JO=some Uc:=rfl
noncomputable def JQ:List Str:=["_law_things","_law_plain","_law_kind","_law_words","_law_rows","_law_name","_law_due","_law_k","_law_word","_law_more"]
noncomputable def JR:List Str:=["_law_things","_law_plain","_law_kind","_law_words"]
def Ue:SM:=IU Pz PH PN Qc P8
def Ug:aL:=er (aO 10 4 Ue)
def QI:aN:=QF.ey "_law_by_another_way" Ug
theorem QJ:bc JQ JR (aq (top 62))=true:=by decide +kernel
theorem QK:bg QF td (top 62) JQ=some Ue:=rfl
noncomputable def JS:List Str:=["_law_plain","_law_came","_law_row"]
noncomputable def JT:List Str:=["_law_plain","_law_came"]
def Uh:SM:=CW
def Ui:aL:=er (aO 3 2 Uh)
def Uj:aN:=QI.ey "_law_rows_come" Ui
theorem QL:bc JS JT (aq (top 63))=true:=by decide +kernel
theorem QM:bg QI td (top 63) JS=some Uh:=rfl
noncomputable def JU:List Str:=["_law_script","_law_pools_here","_law_things","_law_plain","_law_came","_law_k"]
noncomputable def Fw:List Str:=["_law_script"]
def Uk:SM:=Ft F0 Ub Po TZ T_ Ui Tv Ud Ug
def Lz:aL:=aO 6 1 Uk
theorem QN:bc JU Fw (aq (top 64))=true:=by decide +kernel
theorem QO:bg Uj td (top 64) JU=some Uk:=rfl
theorem zg(ns:List Int)(z:ns.length<=63):∃au,Lz [.lst (ns.map .int)] []=.ok (.bl true) au:=by
 obtain⟨x,b⟩:∃x,jK x F1:=BP;have h:ju (λns k=>ns.getD k 0) F0:=yO
 have y:Lg O3:=EB;have i:BL O4:=HQ;have c:BN O5:=HR i;have j:Ez O6:=HS c;have l:Lf O7:=EA;have m:ED O8:=HU j c y l;have n:yK O9:=H_;have d:BO Lw:=HX;have e:iq Jd:=HY d;have o:EG N_:=HZ e;have p:yL Oe:=Ia m;have f:ip O0:=HV;have q:yN Jh:=Ic f o d p;have g:BQ Lx:=Ig;have a:yS Js:=Ih;have r:jX OT:=Ii g a;have s:jY OY:=Ij g a;have t:hX Ly:=Ik a;have u:eo Fv:=Il;have w:B9 Ql:=IE b E9;exact ze h b w n q e f u t r s
set_option maxHeartbeats 0 in
theorem all_mk{P:Program}{w:World}{K:PySem.W.Frag}{h:Heap}{c:Str->Option Value}{fa:Addr}(X:K.In h)(G:h.Ns mainGlobals c)(a5:c "law"=some (.ref fa))
  (nb:tB K=true)
  {q0:Tok} (z0:PySem.W.nsIn K mainGlobals "LETTERS"=some (some (.str "abcdefghijklmnopqrstuvwxyz" q0)))
  {q1:Tok} (z1:PySem.W.nsIn K mainGlobals "MOST_LETTERS"=some (some (.int 8 q1)))
  {q2:Tok} (z2:PySem.W.nsIn K mainGlobals "MOST_KINDS"=some (some (.int 12 q2)))
  {q3:Tok} (z3:PySem.W.nsIn K mainGlobals "MOST_ELDERS"=some (some (.int 5 q3)))
  {q4:Tok} (z4:PySem.W.nsIn K mainGlobals "MOST_THINGS"=some (some (.int 40 q4)))
  {q5:Tok} (z5:PySem.W.nsIn K mainGlobals "MOST_OWN_WORDS"=some (some (.int 12 q5)))
  {fS:Addr} (z6:PySem.W.nsIn K mainGlobals "_law_silent"=some (some (.ref fS)))
  {f0:Addr}{b5:FuncData} (a0:df K "_law_cell" (top 51) f0 b5)
  {f1:Addr}{c5:FuncData} (a1:df K "_law_mix" (top 52) f1 c5)
  {u:Addr} (e5:PySem.W.nsIn K mainGlobals "House"=some (some (.ref u))) (f5:PySem.W.plainGet K u Str.empty=true) (g5:PySem.W.hasDictIn K u=true) (h5:PySem.W.plainOver K u=true) (i5:PySem.W.findIn K (.ref u) "__setattr__"=some (some (.builtin "object.__setattr__"))) (j5:PySem.W.makesIn K u=true) (k5:PySem.W.keepIn K (.ref u)=true)
  {O:Addr} (l5:PySem.W.nsIn K mainGlobals "Facts"=some (some (.ref O))) (m5:PySem.W.plainGet K O Str.empty=true) (n5:PySem.W.hasDictIn K O=true) (o5:PySem.W.plainOver K O=true) (p5:PySem.W.findIn K (.ref O) "__setattr__"=some (some (.builtin "object.__setattr__"))) (r5:PySem.W.makesIn K O=true) (s5:PySem.W.keepIn K (.ref O)=true)
  {y:Addr} (t5:PySem.W.nsIn K mainGlobals "Town"=some (some (.ref y))) (u5:PySem.W.plainGet K y Str.empty=true) (v5:PySem.W.hasDictIn K y=true) (w5:PySem.W.plainOver K y=true) (x5:PySem.W.findIn K (.ref y) "__setattr__"=some (some (.builtin "object.__setattr__"))) (y5:PySem.W.makesIn K y=true) (A5:PySem.W.keepIn K (.ref y)=true)
  {p:Addr} (B5:PySem.W.nsIn K mainGlobals "Shapes"=some (some (.ref p))) (D5:PySem.W.plainGet K p Str.empty=true) (E5:PySem.W.hasDictIn K p=true) (F5:PySem.W.plainOver K p=true) (G5:PySem.W.findIn K (.ref p) "__setattr__"=some (some (.builtin "object.__setattr__"))) (H5:PySem.W.makesIn K p=true) (I5:PySem.W.keepIn K (.ref p)=true)
  {Q:Addr} (J5:PySem.W.nsIn K mainGlobals "Thing"=some (some (.ref Q))) (K5:PySem.W.plainGet K Q Str.empty=true) (L5:PySem.W.hasDictIn K Q=true) (M5:PySem.W.plainOver K Q=true) (N5:PySem.W.findIn K (.ref Q) "__setattr__"=some (some (.builtin "object.__setattr__"))) (P5:PySem.W.makesIn K Q=true) (Q5:PySem.W.keepIn K (.ref Q)=true)
  {l:Addr} (R5:PySem.W.nsIn K mainGlobals "Things"=some (some (.ref l))) (S5:PySem.W.plainGet K l Str.empty=true) (T5:PySem.W.hasDictIn K l=true) (W5:PySem.W.plainOver K l=true) (Y5:PySem.W.findIn K (.ref l) "__setattr__"=some (some (.builtin "object.__setattr__"))) (Z5:PySem.W.makesIn K l=true) (a6:PySem.W.keepIn K (.ref l)=true)
  (b6:PySem.W.findIn K (.ref u) "elders"=some none)
  (c6:PySem.W.findIn K (.ref u) "lines"=some none)
  (e6:PySem.W.findIn K (.ref y) "house"=some none)
  (f6:PySem.W.findIn K (.ref y) "facts"=some none)
  (g6:PySem.W.findIn K (.ref y) "tags"=some none)
  (h6:PySem.W.findIn K (.ref y) "last_deed"=some none)
  (i6:PySem.W.findIn K (.ref O) "teller"=some none)
  (j6:PySem.W.findIn K (.ref O) "strengths"=some none)
  (k6:PySem.W.findIn K (.ref O) "asked"=some none)
  (l6:PySem.W.findIn K (.ref p) "rows"=some none)
  (j2:PySem.W.findIn K (.ref p) "numbers"=some none)
  (k2:PySem.W.findIn K (.ref Q) "kind"=some none)
  (l2:PySem.W.findIn K (.ref Q) "shape"=some none)
  (n2:PySem.W.findIn K (.ref Q) "slots"=some none)
  (p2:PySem.W.findIn K (.ref l) "town"=some none)
  (r2:PySem.W.findIn K (.ref l) "shapes"=some none)
  (t2:PySem.W.findIn K (.ref l) "made"=some none)
  {m6:Addr}{u2:FuncData} (n6:df K "is_name" (top 19) m6 u2)
  {o6:Addr}{w2:FuncData} (p6:df K "place_behind" (top 39) o6 w2)
  {q6:Addr}{x2:FuncData} (r6:df K "free_name" (top 38) q6 x2)
  {s6:Addr}{y2:FuncData} (t6:df K "merged" (top 37) s6 y2)
  {u6:Addr}{A2:FuncData} (v6:df K "ready_kinds" (top 34) u6 A2)
  {w6:Addr}{B2:FuncData} (x6:df K "elders_first" (top 33) w6 B2)
  {y6:Addr}{D2:FuncData} (A6:df K "loop_of" (top 35) y6 D2)
  {B6:Addr}{E2:FuncData} (C6:df K "rows_by" (top 43) B6 E2)
  {D6:Addr}{F2:FuncData} (E6:df K "lines_of" (top 42) D6 F2)
  {F6:Addr}{G2:FuncData} (r0:cG K u "__init__" "House.__init__" (inClass (top 47) 0) F6 G2)
  {H2:Addr}{c1:FuncData} (I2:cG K u "kinds" "House.kinds" (inClass (top 47) 5) H2 c1)
  {J2:Addr}{e1:FuncData} (K2:cG K u "check_kind" "House.check_kind" (inClass (top 47) 11) J2 e1)
  {N2:Addr}{g1:FuncData} (P2:cG K u "check_elders" "House.check_elders" (inClass (top 47) 12) N2 g1)
  {Q2:Addr}{h1:FuncData} (S2:cG K u "settle" "House.settle" (inClass (top 47) 13) Q2 h1)
  {R:Addr}{v0:Obj}{T2:Nat}
  {q:Addr}{i1 z:Option Addr}{j1:Array (Option Value)}{k1 A B C m D:Value} (w0:PySem.W.findIn K (.ref u) "add"=some (some (.ref q))) (W2:K.lookup q=some ⟨k1,i1,.func (PySem.W.fnOf "add" "House.add" (bR (inClass (top 47) 1)) (bS (inClass (top 47) 1)) (aq (inClass (top 47) 1)) (.ref R) A B C z m D),j1⟩) (Z2:PySem.W.codeIn K m "House.add"=true) (S:PySem.W.keepIn K (.ref q)=true)
  (x0:K.lookup R=some v0) (y0:v0.data=.seq #[.none] T2)
  (a3:PySem.W.isFn K (.ref q)=true)
  {b3:Addr}{l1:FuncData} (I:cG K O "__init__" "Facts.__init__" (inClass (top 31) 0) b3 l1)
  {c3:Addr}{n1:FuncData} (J:cG K y "__init__" "Town.__init__" (inClass (top 49) 0) c3 n1)
  {e3:Addr}{o1:FuncData} (f3:cG K y "count_deed" "Town.count_deed" (inClass (top 49) 15) e3 o1)
  {s0:Addr}{A0:Obj}{g3:Nat}
  {r:Addr}{p1 T:Option Addr}{r1:Array (Option Value)}{t1 U V Y E Z:Value} (h3:PySem.W.findIn K (.ref y) "add"=some (some (.ref r))) (i3:K.lookup r=some ⟨t1,p1,.func (PySem.W.fnOf "add" "Town.add" (bR (inClass (top 49) 1)) (bS (inClass (top 49) 1)) (aq (inClass (top 49) 1)) (.ref s0) U V Y T E Z),r1⟩) (j3:PySem.W.codeIn K E "Town.add"=true) (B0:PySem.W.keepIn K (.ref r)=true)
  (k3:K.lookup s0=some A0) (l3:A0.data=.seq #[.none] g3)
  (G6:PySem.W.isFn K (.ref r)=true)
  {m3:Addr}{u1:FuncData} (L:cG K p "__init__" "Shapes.__init__" (inClass (top 22) 0) m3 u1)
  {n3:Addr}{w1:FuncData} (o3:cG K p "number_of" "Shapes.number_of" (inClass (top 22) 1) n3 w1)
  {p3:Addr}{x1:FuncData} (r3:cG K p "words_of" "Shapes.words_of" (inClass (top 22) 2) p3 x1)
  {s3:Addr}{y1:FuncData} (t3:cG K p "grown" "Shapes.grown" (inClass (top 22) 3) s3 y1)
  {u3:Addr}{A1:FuncData} (v3:cG K p "without" "Shapes.without" (inClass (top 22) 4) u3 A1)
  {w3:Addr}{B1:FuncData} (x3:cG K p "slot_of" "Shapes.slot_of" (inClass (top 22) 5) w3 B1)
  {y3:Addr}{D1:FuncData} (A3:cG K p "many" "Shapes.many" (inClass (top 22) 6) y3 D1)
  {B3:Addr}{G1:FuncData} (M:cG K Q "__init__" "Thing.__init__" (inClass (top 26) 0) B3 G1)
  {D3:Addr}{H1:FuncData} (N:cG K l "__init__" "Things.__init__" (inClass (top 27) 0) D3 H1)
  {E3:Addr}{I1:FuncData} (F3:cG K l "thing" "Things.thing" (inClass (top 27) 11) E3 I1)
  {G3:Addr}{J1:FuncData} (H3:cG K l "make" "Things.make" (inClass (top 27) 1) G3 J1)
  {I3:Addr}{K1:FuncData} (J3:cG K l "put" "Things.put" (inClass (top 27) 2) I3 K1)
  {K3:Addr}{N1:FuncData} (L3:cG K l "take" "Things.take" (inClass (top 27) 3) K3 N1)
  {M3:Addr}{P1:FuncData} (N3:cG K l "move" "Things.move" (inClass (top 27) 4) M3 P1)
  {Q3:Addr}{Q1:FuncData} (R3:cG K l "drop" "Things.drop" (inClass (top 27) 5) Q3 Q1)
  {S3:Addr}{R1:FuncData} (T3:cG K l "shape_of" "Things.shape_of" (inClass (top 27) 8) S3 R1)
  {W3:Addr}{S1:FuncData} (Y3:df K "_law_short" (top 53) W3 S1)
  {Z3:Addr}{T1:FuncData} (a4:df K "_law_names" (top 54) Z3 T1)
  {b4:Addr}{W1:FuncData} (c4:df K "_law_town" (top 57) b4 W1)
  {e4:Addr}{Z1:FuncData} (f4:df K "_law_value" (top 58) e4 Z1)
  {g4:Addr}{a2:FuncData} (h4:df K "_law_deed" (top 59) g4 a2)
  {i4:Addr}{b2:FuncData} (j4:df K "_law_pools" (top 60) i4 b2)
  {k4:Addr}{c2:FuncData} (D0:df K "_law_alike" (top 61) k4 c2)
  {l4:Addr}{e2:FuncData} (G0:df K "_law_by_another_way" (top 62) l4 e2)
  {m4:Addr}{f2:FuncData} (I0:df K "_law_rows_come" (top 63) m4 f2)
  {c0:Addr}{g2 e0:Option Addr}{h2:Array (Option Value)}{i2 g0 h0 i0 F j0:Value} (n4:PySem.W.nsIn K mainGlobals "law"=some (some (.ref c0))) (o4:K.lookup c0=some ⟨i2,g2,.func (PySem.W.fnOf "law" "law" (bR (top 64)) (bS (top 64)) (aq (top 64)) .none g0 h0 i0 e0 F j0),h2⟩) (p4:PySem.W.codeIn K F "law"=true) (r4:PySem.W.keepIn K (.ref c0)=true)
  : ∃fd:FuncData,(∀(s:Shared) (v:Value),BindsTo s fd ⟨[v],[]⟩ [("_law_script",v)])/\∀base:Heap,K.In base->base.Ns mainGlobals c->cH P w K c base mH 55 fa fd Fw (dN (fT c) Lz):=by
 have e:=a5.symm.trans (PySem.W.mg_of X G n4);cases e;have E0:=a0.fn;have b0:=E0.binds (ps:=Sx) λ_ _ _ _ _ _ a b=>match a,b with|[_,_],_=>rfl
 have E1:=a1.fn;have b1:=E1.binds (ps:=SA) λ_ _ _ _ _ _ a b=>match a,b with|[_,_,_],_=>rfl
 have s4:=r0.fn;have t4:=s4.binds (ps:=SU) λ_ _ _ _ _ _ a b=>match a,b with|[_],_=>rfl
 have u4:BJ K "add" "House.add" (inClass (top 47) 1) (.ref R) q _:=⟨⟨_,_,_,_,_,_,_,_,_,rfl,W2,Z2⟩,S⟩
 have v4:Binds K (PySem.W.fnOf "add" "House.add" (bR (inClass (top 47) 1)) (bS (inClass (top 47) 1)) (aq (inClass (top 47) 1)) (.ref R) A B C z m D) jZ [.none]:=λs a hi b=>by
  match a,b with
  |[],h=>simp[jZ]at h
  |[_],h=>simp[jZ]at h
  |[_,_],h=>simp[jZ]at h
  |[_,_,_],_=>exact PySem.W.binds_K hi rfl x0 y0 rfl rfl
  |_::_::_::_::_,h=>simp[jZ]at h
 have w4:Binds K (PySem.W.fnOf "add" "House.add" (bR (inClass (top 47) 1)) (bS (inClass (top 47) 1)) (aq (inClass (top 47) 1)) (.ref R) A B C z m D) jZ []:=λs a hi b=>by
  match a,b with
  |[],h=>simp[jZ]at h
  |[_],h=>simp[jZ]at h
  |[_,_],h=>simp[jZ]at h
  |[_,_,_],h=>simp[jZ]at h
  |[_,_,_,_],_=>exact PySem.W.binds_K hi rfl x0 y0 rfl rfl
  |_::_::_::_::_::_,h=>simp[jZ]at h
 have J0:=I.fn;have K0:=J0.binds (ps:=Jj) λ_ _ _ _ _ _ a b=>match a,b with|[_,_],_=>rfl
 have M0:=J.fn;have N0:=M0.binds (ps:=Jl) λ_ _ _ _ _ _ a b=>match a,b with|[_,_],_=>rfl
 have x4:BJ K "add" "Town.add" (inClass (top 49) 1) (.ref s0) r _:=⟨⟨_,_,_,_,_,_,_,_,_,rfl,i3,j3⟩,B0⟩
 have y4:Binds K (PySem.W.fnOf "add" "Town.add" (bR (inClass (top 49) 1)) (bS (inClass (top 49) 1)) (aq (inClass (top 49) 1)) (.ref s0) U V Y T E Z) vR [.none]:=λs a hi b=>by
  match a,b with
  |[],h=>simp[vR]at h
  |[_],h=>simp[vR]at h
  |[_,_],h=>simp[vR]at h
  |[_,_,_],_=>exact PySem.W.binds_K hi rfl k3 l3 rfl rfl
  |_::_::_::_::_,h=>simp[vR]at h
 have P0:=L.fn;have Q0:=P0.binds (ps:=Jp) λ_ _ _ _ _ _ a b=>match a,b with|[_],_=>rfl
 have R0:=M.fn;have S0:=R0.binds (ps:=Jy) λ_ _ _ _ _ _ a b=>match a,b with|[_,_],_=>rfl
 have T0:=N.fn;have W0:=T0.binds (ps:=JA) λ_ _ _ _ _ _ a b=>match a,b with|[_,_],_=>rfl
 have k0:=D0.fn;have A4:=k0.binds (ps:=JP) λ_ _ _ _ _ _ a b=>match a,b with|[_,_],_=>rfl
 have l0:=G0.fn;have B4:=l0.binds (ps:=JR) λ_ _ _ _ _ _ a b=>match a,b with|[_,_,_,_],_=>rfl
 have m0:=I0.fn;have D4:=m0.binds (ps:=JT) λ_ _ _ _ _ _ a b=>match a,b with|[_,_],_=>rfl
 have E4:=rl (st:=(top 64)) o4 p4 r4;refine⟨PySem.W.fnOf "law" "law" (bR (top 64)) (bS (top 64)) (aq (top 64)) .none g0 h0 i0 e0 F j0,λs v=>.of_eq rfl,λbase _ _=>?_⟩
 have j:=PySem.W.mg_of X G e5;have n:j_ K u:=⟨f5,g5,h5,i5⟩;have o0:=PySem.W.mg_of X G l5;have t0:j_ K O:=⟨m5,n5,o5,p5⟩;have t:=PySem.W.mg_of X G t5;have H:j_ K y:=⟨u5,v5,w5,x5⟩;have k:=PySem.W.mg_of X G B5;have o:j_ K p:=⟨D5,E5,F5,G5⟩;have p0:=PySem.W.mg_of X G J5;have u0:j_ K Q:=⟨K5,L5,M5,N5⟩;have g:=PySem.W.mg_of X G R5;have i:j_ K l:=⟨S5,T5,W5,Y5⟩;have V0:aT P w K c base ({}:aN) 0:=aT.start (xr X G nb);have V1:=V0.G_ (x:="_law_silent") (PySem.W.mg_of X G z6);have V2:=V1.hV (x:="MOST_OWN_WORDS") (d:=.int 12) (v:=.int 12) (PySem.W.mg_of X G z5) ⟨_,rfl⟩ rfl;have V3:=V2.hV (x:="MOST_THINGS") (d:=.int 40) (v:=.int 40) (PySem.W.mg_of X G z4) ⟨_,rfl⟩ rfl;have V4:=V3.hV (x:="MOST_ELDERS") (d:=.int 5) (v:=.int 5) (PySem.W.mg_of X G z3) ⟨_,rfl⟩ rfl;have V5:=V4.hV (x:="MOST_KINDS") (d:=.int 12) (v:=.int 12) (PySem.W.mg_of X G z2) ⟨_,rfl⟩ rfl;have V6:=V5.hV (x:="MOST_LETTERS") (d:=.int 8) (v:=.int 8) (PySem.W.mg_of X G z1) ⟨_,rfl⟩ rfl;have V7:=V6.hV (x:="LETTERS") (d:=.str "abcdefghijklmnopqrstuvwxyz") (v:=.str "abcdefghijklmnopqrstuvwxyz") (PySem.W.mg_of X G z0) ⟨_,rfl⟩ rfl;have V8:=V7.cW (f:="elders") (Cs:=["House"]) (plain1 j n b6);have V9:=V8.cW (f:="lines") (Cs:=["House"]) (plain1 j n c6);have H6:=V9.cW (f:="house") (Cs:=["Town"]) (plain1 t H e6);have I6:=H6.cW (f:="facts") (Cs:=["Town"]) (plain1 t H f6);have J6:=I6.cW (f:="tags") (Cs:=["Town"]) (plain1 t H g6);have K6:=J6.cW (f:="last_deed") (Cs:=["Town"]) (plain1 t H h6);have L6:=K6.cW (f:="teller") (Cs:=["Facts"]) (plain1 o0 t0 i6);have M6:=L6.cW (f:="strengths") (Cs:=["Facts"]) (plain1 o0 t0 j6);have N6:=M6.cW (f:="asked") (Cs:=["Facts"]) (plain1 o0 t0 k6);have P6:=N6.cW (f:="rows") (Cs:=["Shapes"]) (plain1 k o l6);have Q6:=P6.cW (f:="numbers") (Cs:=["Shapes"]) (plain1 k o j2);have R6:=Q6.cW (f:="kind") (Cs:=["Thing"]) (plain1 p0 u0 k2);have S6:=R6.cW (f:="shape") (Cs:=["Thing"]) (plain1 p0 u0 l2);have T6:=S6.cW (f:="slots") (Cs:=["Thing"]) (plain1 p0 u0 n2);have W6:=T6.cW (f:="town") (Cs:=["Things"]) (plain1 g i p2);have Y6:=W6.cW (f:="shapes") (Cs:=["Things"]) (plain1 g i r2);have Z6:=Y6.cW (f:="made") (Cs:=["Things"]) (plain1 g i t2);have Y0:aT P w K c base NR 0:=Z6;have q0:=cx Y0 (e_ E0) UH UI;have Y1:aT P w K c base NS 1:=(Y0.mono (Nat.le_succ 0)).vG (x:="_law_cell") (PySem.W.mg_of X G a0.ns) E0.kp b0 (tX q0) (Nat.le_refl _);have q1:=cx Y1 (e_ E1) UK UL;have Y2:aT P w K c base SE 2:=(Y1.mono (Nat.le_succ 1)).vG (x:="_law_mix") (PySem.W.mg_of X G a1.ns) E1.kp b1 (tX q1) (Nat.le_refl _);have X0:aT P w K c base U0 2:=Y2;have X1:aT P w K c base U1 3:=X0.iu X G n6 UN UO λ_ _ _ _ _ _ a b=>match a,b with|[_],_=>rfl
 have X2:aT P w K c base U2 4:=X1.iu X G p6 UQ UR λ_ _ _ _ _ _ a b=>match a,b with|[_,_],_=>rfl
 have X3:aT P w K c base U3 5:=X2.iu X G r6 UT UU λ_ _ _ _ _ _ a b=>match a,b with|[_],_=>rfl
 have X4:aT P w K c base U4 6:=X3.iu X G t6 UX UY λ_ _ _ _ _ _ a b=>match a,b with|[_],_=>rfl
 have X5:aT P w K c base U5 7:=X4.iu X G v6 U_ Va λ_ _ _ _ _ _ a b=>match a,b with|[_,_],_=>rfl
 have X6:aT P w K c base U6 8:=X5.iu X G x6 Vc Vd λ_ _ _ _ _ _ a b=>match a,b with|[_],_=>rfl
 have X7:aT P w K c base U7 9:=X6.iu X G A6 Vf Vg λ_ _ _ _ _ _ a b=>match a,b with|[_],_=>rfl
 have X8:aT P w K c base U8 10:=X7.iu X G C6 Vi Vj λ_ _ _ _ _ _ a b=>match a,b with|[_,_],_=>rfl
 have X9:aT P w K c base U9 11:=X8.iu X G E6 Vl Vm λ_ _ _ _ _ _ a b=>match a,b with|[_],_=>rfl
 have r9:=cx X9 (e_ s4) Vn Vo;have a7:aT P w K c base SV 12:=X9.cL j n r0.me t4 r9;have b7:aT P w K c base NT 13:=a7.iQ j ⟨j5,r0.me.at_,r0.me.fn,k5⟩ t4 r9 (by decide)
 have c7:aT P w K c base NV 14:=b7.gk j n I2 NW NX λ_ _ _ _ _ _ a b=>match a,b with|[_],_=>rfl
 have e7:aT P w K c base NZ 15:=c7.gk j n K2 N7 N8 λ_ _ _ _ _ _ a b=>match a,b with|[_,_],_=>rfl
 have f7:aT P w K c base Oa 16:=e7.gk j n P2 Ob Oc λ_ _ _ _ _ _ a b=>match a,b with|[_,_],_=>rfl
 have F4:aT P w K c base Of 17:=f7.gk j n S2 Og Oh λ_ _ _ _ _ _ a b=>match a,b with|[_,_],_=>rfl
 have G4:=cx F4 u4 Oj Ol;have g7:aT P w K c base Oi 18:=F4.CH (Dd:=[.non]) j n ⟨w0,a3,S⟩ v4 (.cons (show RelV .non Value.none from rfl) .nil) (λ_ _ _=>.one (by simp only[ao])) G4
 have h7:aT P w K c base S9 19:=(g7.mono (Nat.le_succ _)).Ha _;have H4:aT P w K c base Om 20:=h7.cL j n ⟨w0,a3,S⟩ w4 (G4.mono (by decide))
 have I4:=cx H4 (e_ J0) Oq Ot;have i7:aT P w K c base Ta 21:=H4.cL o0 t0 I.me K0 I4;have J4:aT P w K c base Ou 22:=i7.iQ o0 ⟨r5,I.me.at_,I.me.fn,s5⟩ K0 I4 (by decide)
 have K4:=cx J4 (e_ M0) Ow Ox;have j7:aT P w K c base Tc 23:=J4.cL t H J.me N0 K4;have k7:aT P w K c base Oy 24:=j7.iQ t ⟨y5,J.me.at_,J.me.fn,A5⟩ N0 K4 (by decide)
 have L4:aT P w K c base OA 25:=k7.gk t H f3 OB OC λ_ _ _ _ _ _ a b=>match a,b with|[_,_],_=>rfl
 have l7:=cx L4 x4 OE OF;have M4:aT P w K c base OD 26:=L4.CH (Dd:=[.non]) t H ⟨h3,G6,B0⟩ y4 (.cons (show RelV .non Value.none from rfl) .nil) (λ_ _ _=>.one (by simp only[ao])) l7
 have N4:=cx M4 (e_ P0) OH OI;have m7:aT P w K c base Tj 27:=M4.cL k o L.me Q0 N4;have n7:aT P w K c base OJ 28:=m7.iQ k ⟨H5,L.me.at_,L.me.fn,I5⟩ Q0 N4 (by decide)
 have o7:aT P w K c base OL 29:=n7.gk k o o3 OM ON λ_ _ _ _ _ _ a b=>match a,b with|[_,_],_=>rfl
 have p7:aT P w K c base OP 30:=o7.gk k o r3 OQ OR λ_ _ _ _ _ _ a b=>match a,b with|[_,_],_=>rfl
 have q7:aT P w K c base OU 31:=p7.gk k o t3 OV OW λ_ _ _ _ _ _ a b=>match a,b with|[_,_,_],_=>rfl
 have r7:aT P w K c base OZ 32:=q7.gk k o v3 O_ Pa λ_ _ _ _ _ _ a b=>match a,b with|[_,_,_],_=>rfl
 have s7:aT P w K c base Pc 33:=r7.gk k o x3 Pd Pe λ_ _ _ _ _ _ a b=>match a,b with|[_,_,_],_=>rfl
 have P4:aT P w K c base Pg 34:=s7.gk k o A3 Ph Pj λ_ _ _ _ _ _ a b=>match a,b with|[_],_=>rfl
 have R4:=cx P4 (e_ R0) Pl Pm;have t7:aT P w K c base Tx 35:=P4.cL p0 u0 M.me S0 R4;have S4:aT P w K c base Pn 36:=t7.iQ p0 ⟨P5,M.me.at_,M.me.fn,Q5⟩ S0 R4 (by decide)
 have T4:=cx S4 (e_ T0) Pp Pq;have u7:aT P w K c base TC 37:=S4.cL g i N.me W0 T4;have v7:aT P w K c base Pr 38:=u7.iQ g ⟨Z5,N.me.at_,N.me.fn,a6⟩ W0 T4 (by decide)
 have w7:aT P w K c base Pu 39:=v7.gk g i F3 Pw Px λ_ _ _ _ _ _ a b=>match a,b with|[_,_],_=>rfl
 have x7:aT P w K c base PB 40:=w7.gk g i H3 PC PD λ_ _ _ _ _ _ a b=>match a,b with|[_,_,_],_=>rfl
 have y7:aT P w K c base PJ 41:=x7.gk g i J3 PK PL λ_ _ _ _ _ _ a b=>match a,b with|[_,_,_,_],_=>rfl
 have z7:aT P w K c base PQ 42:=y7.gk g i L3 PR PU λ_ _ _ _ _ _ a b=>match a,b with|[_,_,_],_=>rfl
 have A7:aT P w K c base PX 43:=z7.gk g i N3 PY PZ λ_ _ _ _ _ _ a b=>match a,b with|[_,_,_],_=>rfl
 have B7:aT P w K c base P9 44:=A7.gk g i R3 P_ Qa λ_ _ _ _ _ _ a b=>match a,b with|[_,_],_=>rfl
 have C7:aT P w K c base Qd 45:=B7.gk g i T3 Qe Qf λ_ _ _ _ _ _ a b=>match a,b with|[_,_],_=>rfl
 have D7:aT P w K c base Qh 46:=C7.iu X G Y3 Qi Qj λ_ _ _ _ _ _ a b=>match a,b with|[_,_,_],_=>rfl
 have E7:aT P w K c base Qm 47:=D7.iu X G a4 Qn Qo λ_ _ _ _ _ _ a b=>match a,b with|[_,_],_=>rfl
 have F7:aT P w K c base Qq 48:=E7.iu X G c4 Qr Qs λ_ _ _ _ _ _ a b=>match a,b with|[_],_=>rfl
 have G7:aT P w K c base Qu 49:=F7.iu X G f4 Qv Qw λ_ _ _ _ _ _ a b=>match a,b with|[_],_=>rfl
 have H7:aT P w K c base Qy 50:=G7.iu X G h4 Qz QA λ_ _ _ _ _ _ a b=>match a,b with|[_,_,_,_],_=>rfl
 have W4:aT P w K c base QC 51:=H7.iu X G j4 QD QE λ_ _ _ _ _ _ a b=>match a,b with|[_],_=>rfl
 have I7:=oU (cx W4 (e_ k0) QG QH);have Y4:aT P w K c base QF 52:=W4.ey (PySem.W.mg_of X G D0.ns) k0.kp A4 I7;have J7:=oU (cx Y4 (e_ l0) QJ QK);have Z4:aT P w K c base QI 53:=Y4.ey (PySem.W.mg_of X G G0.ns) l0.kp B4 J7;have K7:=oU (cx Z4 (e_ m0) QL QM);have L7:aT P w K c base Uj 54:=Z4.ey (PySem.W.mg_of X G I0.ns) m0.kp D4 K7;have M7:=cx L7 (e_ E4) QN QO;exact M7
theorem walk{l:PySem.W.OpenLaw}{q:Program}{i:List Str}{r:(Str->Option Value)->Heap->Prop}{p:World->Heap->Prop}{d:DefRec}{K:Params->PySem.W.Frag}(t:l.most=some 63)(o:d.params.defaults=[])
  (y:∀(w:World) (h:Heap),p w h->(K w.params).In h) (A:∀B,pN (K B)=true)
  (F:∀(w:World) (g:Str->Option Value) (j:Addr) (h:Heap),(K w.params).In h->h.Ns mainGlobals g->g d.name=some (.ref j) ->
   ∃m:FuncData,(∀(s:Shared) (u:Value),BindsTo s m ⟨[u],[]⟩ [("_law_script",u)])/\∀base:Heap,(K w.params).In base->base.Ns mainGlobals g->cH l.prog w (K w.params) g base mH 55 j m Fw (dN (fT g) Lz)) :
  PySem.W.WalkO q i r p l.row.toRowW d [] (λf vs=>PySem.call f vs):=
 L2.zO (n:=63) (k:=55) (x:="_law_script") (CX:=λ_=>mH) (sp:=λw=>Hb Lz) t (by decide) o ⟨rfl,by decide,by decide⟩ y (λw g j h a b c=>let ⟨m,C,D⟩:=F w g j h a b c;⟨m,C,λbase d e=>(D base d e).imp λvs H Q E z=>z (fT g)⟩) (λw H a G I _ J L=>Bs (GO (A w.params) J) (zg G I).choose_spec) λ_ _ _ _ _ z=>z
end Fu
def PySem.W.Fast.tw6562838076614602939:PySem.Program:=PySem.Challenge.pw_taglook_k64_one_shape_for_one_row
theorem PySem.W.Fast.te6562838076614602939:PySem.Challenge.pw_taglook_k64_one_shape_for_one_row=PySem.W.Fast.tw6562838076614602939:=rfl
namespace PySem.W.Fast
def tw8239026758388230573:=0
def tw2336293821650965595:=0
def tw16881546376108204918:=0
def tw756615264598300451:=0
def tw10057540011099159111:=0
def tw123520897210940755:=0
def tw6116990221239488134:=0
def tw2855246788869817071:=0
def tw7442491165827172368:=0
def tw8501746749095625228:=0
def tw7356246962286765052:=0
def tw3569536582626356329:=0
def tw15704487499310026025:=0
def tw5624044471366015392:=0
def tw6391088807327700727:=0
def tw14550659532496588006:=0
def tw4715543808836962238:=0
def tw13719103462171160443:=0
def tw4015745471767188677:=0
def tw16830443962458290376:=0
def tw12337563381199519676:=0
def tw1529842181883726422:=0
def tw3432039909720036346:=0
def tw18368309577748175291:=0
def tw12620153282885295017:=0
def tw9270787819371930244:=0
def tw14990457780757273532:=0
def tw4905257967906603088:=0
def tw11840207919597668094:=0
def tw14930393347977259650:=0
def tw12399524273160741731:=0
def tw306000382174903915:=0
def tw10608235768089428191:=0
def tw4313593869400197977:=0
def tw5264117942734850716:=0
def tw951717125655995594:=0
def tw8025489019919885390:=0
def tw2048159323488296278:=0
def tw17801737441795329669:=0
def tw4227379879213090228:=0
def tw13643652123746420453:=0
def tw6059021704716211984:=0
def tw14405847052745432861:=0
def tw3720284757304511463:=0
def tw5109358411850844124:=0
def tw14217720565773452285:=0
def tw10633541991889685818:=0
def tw13945695906981024341:=0
def tw2392851299736855471:=0
def tw13681191586365913326:=0
def tw13662426859466476896:=0
def tw11516088949362746141:=0
def tw18117359760004685145:=0
def tw16668432042052155695:=0
def tw13328371048935337179:=0
def tw3793275302180101252:=0
def tw12450123224132676862:=0
def tw17409327023620783174:=0
def tw3708331185409455831:=0
def tw10029806343975675316:=0
def tw16139045230877215445:=0
def tw13808244900819479595:=0
def tw2827273838967534360:=0
def tw17751011555341736638:=0
def tw1774651886120455273:=0
def tw3340037816267130142:=0
def tw18406484055312134117:=0
def tw16748795708386726641:=0
def tw10387043094863845928:=0
def tw14133471860105221599:=0
def tw11232756641164750544:=0
def tw1682930081511262873:=0
def tw4448518385299348755:=0
def tw7692165416606779916:=0
def tw10479168522018590114:=0
def tw4053284308863014599:=0
def tw16282817297835864494:=0
def tw15301895094096993669:=0
def tw12449557388978284966:=0
def tw12740354689299614592:=0
def tw13071633115519173010:=0
def tw1508869424839177118:=0
def tw7698546540073812229:=0
def tw8907848273506340548:=0
def tw5254903175042425892:=0
def tw7636147070029256632:=0
def tw7506540284444186194:=0
def tw407193412674928281:=0
def tw2738602637490439834:=0
def tw5283003429429943120:=0
def tw13429198776482298528:=0
def tw14975800122315177338:=0
def tw18331619725811663482:=0
def tw6004208516908317813:=0
def tw4816801462717363685:=0
def tw11884711901022941552:=0
def tw1466696410732278624:=0
def tw9482646756192323201:=0
def tw4763576536224633406:=0
def tw14178075392696266831:=0
def tw3653164482505628037:=0
def tw2900511225832418310:=0
def tw9367021641923097534:=0
def tw3558408978792930934:=0
def tw4424823979775578139:=0
def tw14761573786769282392:=0
def tw15472354017605415059:=0
def tw15813096739882206745:=0
def tw272711000503981002:=0
def tw5300347664860852884:=0
def tw12667237631564122816:=0
def tw3575803011533795193:=0
def tw14161181766761199784:=0
def tw10729542663514754805:=0
def tw16698106538918175673:=0
def tw15936626697758589100:=0
def tw5491582052821841049:=0
def tw4839757306460705876:=0
def tw7796013516517513020:=0
def tw15468944195027734192:=0
def tw1745911928801039827:=0
def tw8084192854034441661:=0
def tw1642041408965357167:=0
def tw10580552537871759996:=0
def tw9675838007040085951:=0
def tw2863524724111515440:=0
def tw1710278834918140011:=0
def tw8095210247126678632:=0
def tw12425131788693532330:=0
def tw8468781640368914434:=0
def tw17395753680591959955:=0
def tw8327181756067014367:=0
def tw1398571992290047072:=0
def tw18007448227442630535:=0
def tw11418895025474122674:=0
def tw6726300492440511965:=0
def tw9426839599078663078:=0
def tw11351688547385996603:=0
def tw16552286847461437479:=0
def tw16514313496384301836:=0
def tw1845136235056311227:=0
def tw49254174737614819:=0
def tw8532854797720043952:=0
def tw12923277250471620285:=0
def tw1605114038075956179:=0
def tw6181383193079577165:=0
def tw15574437125493315336:=0
def tw11084196216098696175:=0
def tw2672685925427882434:=0
def tw11919517946327655023:=0
def tw10105332720624494816:=0
def tw7274398035891711732:=0
def tw7126539434727199560:=0
def tw2830664113426156697:=0
def tw12407233288266521072:=0
def tw2251340945240943076:=0
def tw8433014201380748296:=0
def tw6922310500104703521:=0
def tw4266013027060149799:=0
def tw15346260879246588545:=0
def tw1686748357138348933:=0
def tw7553374505755373584:=0
def tw10051966272011770633:=0
def tw17508623347509957006:=0
def tw8890617441950508643:=0
def tw9425837981125225240:=0
def tw2447644097607821514:=0
def tw2871130262764270117:=0
def tw14261376893840339101:=0
def tw3193453891608761822:=0
def tw5126099740623084815:=0
def tw481322669651320329:=0
def tw11837144614564317923:=0
def tw17722436166538723025:=0
def tw13562264382205409339:=0
def tw15799885946822393800:=0
def tw5090633833482055893:=0
def tw16795594401184569949:=0
def tw17167169999723429402:=0
def tw12843698718633116871:=0
def tw15001660279869894929:=0
def tw6406195583177088477:=0
def tw10349627313112666704:=0
def tw16724134184605265172:=0
def tw4021091337449361398:=0
def tw7626833331928387280:=0
def tw16895779153831259742:=0
def tw16587674515775976305:=0
def tw11018103933656277560:=0
def tw5634123608425284771:=0
def tw14515841000090352139:=0
def tw13471925314799602799:=0
def tw5942931395601214327:=0
def tw8967037313326655746:=0
def tw6553119320697553434:=0
def tw7156085062058498526:=0
def tw18385128113464006324:=0
def tw15599972878878529355:=0
def tw9556443028955603538:=0
def tw10833498927603566447:=0
def tw2269345665338120281:=0
def tw7274783337115729888:=0
def tw8706210186403479971:=0
def tw3146763811639319227:=0
def tw10662268076775421659:=0
def tw16285077592050043172:=0
def tw15027075866291961348:=0
def tw9306175225722278292:=0
def tw13213848691285681517:=0
def tw5698151176719259059:=0
def tw11003100442297326616:=0
def tw5321999587349878320:=0
def tw14449736010257962696:=0
def tw13193276977912213438:=0
def tw15055951163369574108:=0
def tw15263275618308964582:=0
def tw15897036080458952161:=0
def tw994856313730505025:=0
def tw7336850277272354652:=0
def tw10864793091926301227:=0
def tw14349937077661145585:=0
def tw170141714212993586:=0
def tw8687135820375561103:=0
def tw8864168010569729949:=0
def tw6426431981316172398:=0
def tw9613143291581729514:=0
def tw13310314394793491089:=0
def tw7060549269404213664:=0
def tw6692352559807365519:=0
def tw6735607008455391573:=0
def tw1720527561471633060:=0
def tw5429312347901611597:=0
def tw17580712776755817977:=0
def tw7457901333229911514:=0
def tw16557569808713619865:=0
def tw10060359387120092190:=0
def tw7589330896550323858:=0
def tw8625831604716369403:=0
def tw2749188474543229648:=0
def tw18353656969323068100:=0
def tw9922198854618503287:=0
def tw16216821296530839520:=0
def tw15814990032686145437:=0
def tw16451157463143660217:=0
def tw16739355860445035043:=0
def tw8452668069506180360:=0
def tw6948173315765574421:=0
def tw16390881013208249943:=0
def tw7448534588889777950:=0
def tw8981808084847657599:=0
def tw17543542802740059875:=0
def tw9052148777796817649:=0
def tw14650339377044856516:=0
def tw1965373282018880729:=0
def tw18226800190975594488:=0
def tw6017134135277251127:=0
def tw8566697035825926278:=0
def tw16167218752567582068:=0
def tw13653732301127610447:=0
def tw12763859417760741635:=0
def tw7650050042127384091:=0
def tw10564662288898086201:=0
def tw8634801452657013684:=0
def tw12620608308812503457:=0
def tw5671225704352103291:=0
def tw5783547238179114148:=0
def tw5581931910714764768:=0
def tw15928179203512914454:=0
def tw15366715527421109950:=0
def tw5805457533307253456:=0
def tw16718274350099214002:=0
def tw16720582861751812778:=0
def tw16514126852543871513:=0
def tw1343119685196742744:=0
def tw7300179049162761608:=0
def tw6248737145489113812:=0
def tw10928715002251292255:=0
def tw4857323048327158637:=0
def tw17188761735332027738:=0
def tw18267447330985386854:=0
def tw1236430960634622054:=0
def tw3082075013912723098:=0
def tw8323822979233001295:=0
def tw173248188684383438:=0
def tw628008570956272399:=0
def tw346087609740818254:=0
def tw14413943723561275082:=0
def tw421479878660989599:=0
def tw3103452076561528327:=0
def tw4649960774109734944:=0
def tw16357828472888595575:=0
def tw14485294160841952822:=0
def tw6464619417936613139:=0
def tw7203139587946070683:=0
def tw16807184633024223785:=0
def tw12225600577855302130:=0
def tw18033955097243470060:=0
def tw10819462799079646170:=0
def tw4273271902893318710:=0
def tw14272905133255307403:=0
def tw8138007738518256000:=0
def tw2442949835737751062:=0
def tw8323865685637145289:=0
def tw11643060204442386174:=0
def tw10488045167435994069:=0
def tw17656161200104404090:=0
def tw4545612644961062815:=0
def tw530989389928059298:=0
def tw16325003737112925235:=0
def tw907610435999246966:=0
def tw9764448254451744029:=0
def tw13112651733506147032:=0
def tw6609382839604621924:=0
def tw8858560699008679192:=0
def tw10032041229892976285:=0
def tw1266287234216476586:=0
def tw9950634990320849404:=0
def tw15616465447571898317:=0
def tw13143127244709881479:=0
def tw2326183176874390762:=0
def tw7186612243514579:=0
def tw5517689974282058688:=0
def tw2405545339678311563:=0
def tw15106921915144615573:=0
def tw4405626177672956580:=0
def tw4338645112777438953:=0
def tw3044349048515758678:=0
def tw10424263938315142025:=0
def tw2706136477396558391:=0
def tw954370184024659809:=0
def tw11820358573234145292:=0
def tw10118244947186588239:=0
def tw14063207950543997840:=0
def tw14530177431432244110:=0
def tw15172842138486282034:=0
def tw2524355304651809126:=0
def tw6641578357133876519:=0
def tw11799115157144681483:=0
def tw12907775520725013902:=0
def tw2328984554107089088:=0
def tw2957415930111423097:=0
def tw8293673204530451429:=0
def tw14913892714863906681:=0
def tw12728186698990097170:=0
def tw1676534428728668695:=0
def tw17918517305811831347:=0
def tw18222490683696712676:=0
def tw17502668144314737871:=0
def tw15722426924924412247:=0
def tw4840943767234749294:=0
def tw11701573802908900628:=0
def tw5492662449999320591:=0
def tw16121593079270018726:=0
def tw235360196225568313:=0
def tw3414424430998565650:=0
def tw11008412288945585346:=0
def tw14352630629184614565:=0
def tw8766449063102217129:=0
def tw2067925406130719567:=0
def tw8276614339991976289:=0
def tw13668439617592835467:=0
def tw14421427692615837791:=0
def tw6668455458477138157:=0
def tw13521648796997439045:=0
def tw1955907293408946460:=0
def tw4745372960418962156:=0
def tw15246331297323121847:=0
def tw9332047670943776790:=0
def tw17239860293306649669:=0
def tw11677852811960456283:=0
def tw9532356106512845222:=0
def tw18278125533803520548:=0
def tw16455168822708735554:=0
def tw9585007523572864646:=0
def tw17740916392713889601:=0
def tw11711558963806483735:=0
def tw12113021496250470267:=0
def tw2200897938691319466:=0
def tw12332835080954730424:=0
def tw8489094852008078513:=0
def tw16998215121546869982:=0
def tw9316938748465485593:=0
def tw1838110190456103906:=0
def tw8047651531523575410:=0
def tw13441784569079922189:=0
def tw4434482138450199542:=0
def tw381095721467125827:=0
def tw201240753314061731:=0
def tw10852430301853932234:=0
def tw3664555817242537130:=0
def tw33464778731833881:=0
def tw10021681081171079914:=0
def tw16049022366692171707:=0
def tw7157908362058836273:=0
def tw6894542616139940681:=0
def tw15454385530772505647:=0
def tw9915369096895673255:=0
def tw8165271167084032639:=0
def tw10994541771033540197:=0
def tw91595516125548476:=0
def tw9732410163069671236:=0
def tw7474860653196884660:=0
def tw1493917751559489583:=0
def tw2213930908785649436:=0
def tw15424558534147795416:=0
def tw4930719464296488546:=0
def tw15608443205106351417:=0
def tw1373278764581528190:=0
def tw2428692167601237134:=0
def tw10252738049251375072:=0
def tw9432403913238544951:=0
def tw4392243841834978056:=0
def tw7094126001113835460:=0
def tw16858810572930380150:=0
def tw2533044096661984495:=0
def tw7903849232341536007:=0
def tw5981899496767993491:=0
def tw8427669658928358418:=0
def tw13256235885307011834:=0
def tw10563918787069038709:=0
def tw12014983619522265482:=0
def tw8386364350204201200:=0
def tw11305434758984464960:=0
def tw3794521253284868414:=0
def tw6467517630440680997:=0
def tw14765245726214789752:=0
def tw8324557770036654050:=0
def tw708864190056470577:=0
def tw10571742223224159396:=0
def tw10824787650106318070:=0
def tw3355591864664276220:=0
def tw16937367848776148390:=0
def tw11715063809383217976:=0
def tw8101282475696954936:=0
def tw6314260797159398883:=0
def tw11805160362764087406:=0
def tw5947430790596546871:=0
def tw18348006732230911371:=0
def tw5498077162534925297:=0
def tw6916276431902195097:=0
def tw6477891688800931848:=0
def tw7947301248846653027:=0
def tw3550888509701596413:=0
def tw15656246919538514633:=0
def tw4899205085278270208:=0
def tw12073185037938376886:=0
def tw7122613273599028650:=0
def tw13744337692819689005:=0
def tw5198009640703020240:=0
def tw97528314415517295:=0
def tw1094126435076021270:=0
def tw11156801606909665335:=0
def tw8716626170678864485:=0
def tw12542630929090095973:=0
def tw785224872181408362:=0
def tw15717727923441604694:=0
def tw9383550822084799017:=0
def tw3377990526884421827:=0
def tw11344630100443851558:=0
def tw3279745672528498374:=0
def tw2023031402579542660:=0
def tw2695967749944862263:=0
def tw2470826860850844754:=0
def tw4314954464865546979:=0
def tw9552961002185090533:=0
def tw66020219704581576:=0
def tw7616276123491908217:=0
def tw9177190009518518752:=0
def tw12199919712587962048:=0
def tw18096063449786583848:=0
def tw17167212028816785886:=0
def tw12043520405005754802:=0
def tw14344790719750855216:=0
def tw14911634531133303042:=0
def tw4581387666277026308:=0
def tw2904318460260317415:=0
def tw4991822754971313197:=0
def tw5764142896977883245:=0
def tw12341993765498213802:=0
def tw8311189655457594134:=0
def tw17982160062581488326:=0
def tw17054338032993704941:=0
def tw5038879612103831078:=0
def tw1373457286153749461:=0
def tw3268916367866497694:=0
def tw11302894523732738085:=0
def tw10963606916322233025:=0
def tw12008951642494946287:=0
def tw10222781905232834610:=0
def tw5151700950966777112:=0
def tw13527796565743763867:=0
def tw11296824057020647023:=0
def tw411739027338140690:=0
def tw3277170488903743088:=0
def tw2349736544107298365:=0
def tw11003255534517054594:=0
def tw1820373489178532857:=0
def tw8343115504913070175:=0
def tw15870493903143463542:=0
def tw2193910697094757860:=0
def tw5373298305877268470:=0
def tw14841360416236199391:=0
def tw8238935578890212628:=0
def tw16301945029880057950:=0
def tw6596826747385965179:=0
def tw17904732793532155885:=0
def tw16842067418967895561:=0
def tw4645500835115782632:=0
def tw10280993359084552785:=0
def tw5114482092457100402:=0
def tw266268436800146109:=0
def tw7231222469524123807:=0
def tw13002652090452995707:=0
def tw10066825838264933433:=0
end PySem.W.Fast
open PySem PySem.W PyProof.Rows
set_option maxRecDepth 100000 in
set_option maxHeartbeats 0 in
theorem PySem.Challenge.cw_taglook_k64_one_shape_for_one_row_holds : PySem.Challenge.rw_taglook_k64_one_shape_for_one_row.Holds := by
 w_on;o_law;k_head;(case hw=>w_witness2)
 k_fill
 refine Fu.walk (l:=PySem.Challenge.rw_taglook_k64_one_shape_for_one_row) rfl rfl (λw h Y=>PySem.W.kIn_of Y) ?hK ?F
 case hK=>intro pm;exact(Eq.refl true)
 case F=>
  intro w mg fa h KX G hmg;refine' Fu.all_mk KX G hmg ?nb ?z0 ?z1 ?z2 ?z3 ?z4 ?z5 ?z6 ?a0 ?a1 ?Vp ?Vq ?hd0 ?Vr ?Vs ?Vt ?Vu ?Vv ?Vx ?hd1 ?Vy ?Vz ?mk1 ?VA ?VB ?VC ?hd2 ?VD ?VE ?mk2 ?VF ?VG ?VH ?VI ?VJ ?VL ?mk3 ?VM ?VN ?VO ?VP ?VQ ?VR ?VS ?VT ?VU ?VW ?VX ?VY ?VZ ?V_ ?Wa ?Wb ?Wc ?Wd ?We ?Wf ?Wg ?Wh ?Wi ?Wj ?Wk ?QP ?QQ ?QR ?QS ?QT ?QU ?QV ?Wl ?Wm ?Wn ?Wo ?Wq ?Wr ?Ws ?Wt ?Wu ?Wv ?QW ?QX ?QY ?QZ ?Q7 ?Q8 ?Q9 ?Q_ ?Ra ?Rb ?Ww ?Rc ?Rf ?Rg ?Rh ?Ri ?Rj ?Rk ?Rl ?Rm ?Wx ?Rn ?Ro ?Rp ?Rq ?Rr ?Rt ?Ru ?Rv ?Rx ?Ry ?Rz ?RA ?RC ?RD ?RE ?RF ?RG ?RH ?RI ?RJ ?RK ?RL ?RM ?RN ?RO ?RP ?RQ ?RR ?RS
  (case nb=>exact(Eq.refl true))
  (case z0 |z1 |z2 |z3 |z4 |z5 |z6=>k_is)
  (case a0 |a1=>refine' Mir.lN ?a ?l ?c ?k;(case a=>k_is);(case l=>k_is);(case c=>k_is);(case k=>k_is))
  (case Vp |Vq |hd0 |Vr |Vs |Vt |Vu |Vv |Vx |hd1 |Vy |Vz |mk1 |VA |VB |VC |hd2 |VD |VE |mk2 |VF |VG |VH |VI |VJ |VL |mk3 |VM |VN |VO |VP |VQ |VR |VS |VT |VU |VW |VX |VY |VZ |V_ |Wa |Wb |Wc |Wd |We |Wf |Wg |Wh |Wi |Wj |Wk |QP |QQ |QR |QS |QT |QU |QV=>k_is)
  (case Wl |Wm |Wn |Wo |Wq |Wr |Ws |Wt |Wu=>refine' Mir.lN ?a ?l ?c ?k;(case a=>k_is);(case l=>k_is);(case c=>k_is);(case k=>k_is))
  (case Q7 |Q8 |Q9 |Q_ |Ra=>k_is)
  (case Wv |QW |QX |QY |QZ |Rc |Rf |Rg |Rn |Ro |Rp |Rq |Rr |Rt |Ru |Rv |Rx |Ry |Rz |RA |RC |RD |RE |RF=>refine' Mir.zf ?a ?l ?c ?k ?i;(case a=>k_is);(case l=>k_is);(case c=>k_is);(case k=>k_is);(case i=>k_is))
  (case Rb=>rfl)
  (case Ww |Rh |Ri |Rj |Rk |Rl=>k_is)
  (case Rm=>rfl)
  (case Wx=>k_is)
  (case RG |RH |RI |RJ |RK |RL |RM |RN |RO=>refine' Mir.lN ?a ?l ?c ?k;(case a=>k_is);(case l=>k_is);(case c=>k_is);(case k=>k_is))
  (case RP |RQ |RR |RS=>k_is)
