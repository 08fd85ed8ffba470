import PyProof.Rows.All
import Wide.All
import OpenK.AllK
import Wide.FinOn
import Lean
import PyProof.EqAt
import PyProof.EqKinds
import PyProof.TupleCall
import PyProof.EnumFor
import PyProof.EnumMake
import PyProof.EnumStmt
import PyProof.Rows.EnumRows
import PyProof.RulesTry
import PyProof.Rows.StrWeight2
import PyProof.AutoListH
import PyProof.Draws
import PyProof.Rows.SortStr
import PyProof.Rows.SortShell
import PyProof.Rows.SortWalk
import PyProof.Rows.StrMeet
import PyProof.DictIter
import PyProof.DictWalks
import KE.KDictOf
import PyProof.AttrMissSeq
import PyProof.ListRange
import PyProof.DictItems
import PyProof.DictValues
import PyProof.FitsReplace
import PySem.Challenge.RW_taglook_k22_whole_what_elders_lead_to
set_option Elab.async false
set_option bootstrap.genMatcherCode false
set_option genSizeOfSpec false
set_option linter.all false
set_option maxRecDepth 100000
noncomputable section
namespace L2
open PySem PySem.Spec PyProof.Rows
abbrev Key:=Sum Int Str
noncomputable def jW:Key->Value->Bool
 |.inl k,v=>Value.isInt k v
 |.inr x,v=>Value.isStrOf x v
noncomputable def JV(w:World):Key->Int
 |.inl k=>hashInt k
 |.inr x=>hashStr w x
theorem cu:∀{k:Key}{v:Value},jW k v=true->(∃i t,k=Sum.inl i/\v=Value.int i t)\/(∃x t,k=Sum.inr x/\v=Value.str x t)
 |.inl i,v,h=>by
  obtain⟨t,e⟩:=Value.isInt_shape (k:=i) (v:=v) h;exact .inl ⟨i,t,rfl,e⟩
 |.inr x,v,h=>by
  obtain⟨t,e⟩:=Value.isStrOf_shape (x:=x) (v:=v) h;exact .inr ⟨x,t,rfl,e⟩
theorem sZ(i:Int)(t:Tok):jW (.inl i) (.int i t)=true:=by simp[jW,Value.isInt]
theorem s_(x:Str)(t:Tok):jW (.inr x) (.str x t)=true:=by simp[jW,Value.isStrOf]
theorem Bp(a b:Int):decide ((Sum.inl a:Key)=Sum.inl b)=(a==b):=by
 by_cases e:a=b
 .subst e;simp
 .have h:¬ (Sum.inl a:Key)=Sum.inl b:=λq=>e (Sum.inl.inj q)
  rw[decide_eq_false h];exact(beq_eq_false_iff_ne.mpr e).symm
theorem Bq(a b:Str):decide ((Sum.inr a:Key)=Sum.inr b)=decide (a=b):=by
 by_cases e:a=b
 .subst e;simp
 .have h:¬ (Sum.inr a:Key)=Sum.inr b:=λq=>e (Sum.inr.inj q)
  rw[decide_eq_false h,decide_eq_false e]
theorem Br(a:Int)(b:Str):decide ((Sum.inl a:Key)=Sum.inr b)=false:=decide_eq_false (λq=>nomatch q)
theorem Bs(a:Str)(b:Int):decide ((Sum.inr a:Key)=Sum.inl b)=false:=decide_eq_false (λq=>nomatch q)
def bQ(prog:Program)(w:World):PySem.KeyKind prog w Key where
 is:=jW
 hash:=JV w
 inj:=λv a b g f=>by
  rcases cu g with ⟨i,t,rfl,rfl⟩|⟨x,t,rfl,rfl⟩
  .rcases cu f with ⟨j,u,rfl,e⟩|⟨y,u,rfl,e⟩
   .injection e with c _;rw[c]
   .exact nomatch e
  .rcases cu f with ⟨j,u,rfl,e⟩|⟨y,u,rfl,e⟩
   .exact nomatch e
   .injection e with c _;rw[c]
 byValue:=λk v h=>by
  rcases cu h with ⟨i,t,rfl,rfl⟩|⟨x,t,rfl,rfl⟩<;>rfl
 pyHash:=λd h=>by
  rcases cu d with ⟨i,t,rfl,rfl⟩|⟨x,t,rfl,rfl⟩
  .exact wpAny_pyHash_int h
  .exact wpAny_pyHash_str h
 eqBool:=λl d h=>by
  rcases cu l with ⟨i,t,rfl,rfl⟩|⟨x,t,rfl,rfl⟩
  .rcases cu d with ⟨j,u,rfl,rfl⟩|⟨y,u,rfl,rfl⟩
   .rw[Bp]at h;exact wpAny_eqBool_int h
   .rw[Br]at h;exact SeqAt.EqAt.int_str i t y u _ _ _ _ h
  .rcases cu d with ⟨j,u,rfl,rfl⟩|⟨y,u,rfl,rfl⟩
   .rw[Bs]at h;exact SeqAt.EqAt.str_int x t j u _ _ _ _ h
   .rw[Bq]at h;exact wpAny_eqBool_str h
 «strs» := λk x t v h=>by
  rcases cu h with ⟨i,u,rfl,e⟩|⟨y,u,rfl,e⟩
  .exact nomatch e
  .injection e with c _
   subst c;cases v<;>rfl
theorem og(prog:Program)(w:World)(i:Int)(t:Tok):(bQ prog w).is (.inl i) (.int i t)=true:=sZ i t
theorem oh(prog:Program)(w:World)(x:Str)(t:Tok):(bQ prog w).is (.inr x) (.str x t)=true:=s_ x t
inductive V where
 |non|bl (b:Bool)|int (i:Int)|str (x:Str)|DZ (b:Array UInt8)|flt (b:UInt64)|ref (a:Addr)|ty (n:String)
 deriving DecidableEq
def RelV:V->Value->Prop
 |.non,u=>u=Value.none
 |.bl b,u=>u=Value.bool b
 |.int i,u=>∃t,u=Value.int i t
 |.str x,u=>∃t,u=Value.str x t
 |.DZ b,u=>∃t,u=Value.bytes b t
 |.flt b,u=>∃t,u=Value.float b t
 |.ref a,u=>u=Value.ref a
 |.ty n,u=>u=Value.type n
abbrev Vals:List V->List Value->Prop:=Paired RelV
theorem Vals.length{xs:List V}{us:List Value}(r:Vals xs us):xs.length=us.length:=Paired.length r
theorem Vals.get:∀{xs:List V}{us:List Value}{i:Nat}{x:V},Vals xs us->xs[i]?=some x->∃u,us[i]?=some u/\RelV x u
 |_,_,_,_,.nil,e=>by simp at e
 |_,_,0,_,.cons r _,e=>by simp at e;subst e;exact⟨_,rfl,r⟩
 |_,_,i+1,x,.cons _ t,e=>by
  obtain⟨u,h1,h2⟩:=Vals.get (i:=i) (x:=x) t (by simpa using e)
  exact⟨u,by simpa using h1,h2⟩
theorem Vals.append:∀{xs a:List V}{us b:List Value},Vals xs us->Vals a b->Vals (xs++a) (us++b)
 |_,_,_,_,.nil,s=>s
 |_,_,_,_,.cons r t,s=>.cons r (Vals.append t s)
theorem Vals.take:∀{xs:List V}{us:List Value} (n:Nat),Vals xs us->Vals (xs.take n) (us.take n)
 |_,_,0,_=>.nil
 |_,_,_+1,.nil=>.nil
 |_,_,n+1,.cons r t=>.cons r (Vals.take n t)
theorem Vals.drop:∀{xs:List V}{us:List Value} (n:Nat),Vals xs us->Vals (xs.drop n) (us.drop n)
 |_,_,0,r=>r
 |_,_,_+1,.nil=>.nil
 |_,_,n+1,.cons _ t=>Vals.drop n t
def gF:Option V->Option Value->Prop
 |some v,some u=>RelV v u
 |none,none=>True
 |_,_=>False
def KV{κ:Type}:List (κ×V)->List (κ×Value)->Prop:=Paired λ(p:κ×V) (q:κ×Value)=>p.1=q.1/\RelV p.2 q.2
noncomputable def kV:Key->V
 |.inl i=>.int i
 |.inr x=>.str x
inductive HO where
 |lst (xs:List V)
 |tup (xs:List V)
 |dK (kvs:List (Key×V))|dT (kvs:List (List Key×V))
 |set (S:Int->Bool) (n:Nat)
 |ins (C dx:Addr) (fs:List (Str×V))
 |own (x:Addr)
 |xd (fs:List (Str×V))
 |met (f x:Addr)
 |JW (lo hi:Int)
 |dr (o:Obj) (u:HO)
 |Bt (ps:Array Value)
 |ext (φ:Heap->Prop)
abbrev Hp:=Addr->Option HO
noncomputable def upd(H:Hp)(a:Addr)(o:HO):Hp:=λb=>if b=a then some o else H b
theorem ba{H:Hp}{a:Addr}{o:HO}:upd H a o a=some o:=by unfold upd;rw[if_pos rfl]
theorem aJ{H:Hp}{a b:Addr}{o:HO}(h:b≠a):upd H a o b=H b:=by unfold upd;rw[if_neg h]
theorem bc{H:Hp}{a b:Addr}{o:HO}(h:H a=some o)(h':H b=none):a≠b:=by
 intro e;subst e;rw[h]at h';cases h'
section
variable(P:Program)(w:World)
def cw(H:Hp)(h:Heap)(a:Addr):HO->Prop
 |.lst xs=>xs.length<=sizeLine/\∃(b:List Value) (n:Nat),Vals xs b/\h.get? a=some {cls:=.type "list",data:=.seq b.toArray n}
 |.tup xs=>xs.length<=sizeLine/\∃b:List Value,Vals xs b/\IsTup h a b.toArray
 |.dK kvs=>kvs.length<=sizeLine/\(a==sysModules)=false/\∃vs,KV kvs vs/\h.DictOf (bQ P w) a vs
 |.dT kvs=>kvs.length<=sizeLine/\(a==sysModules)=false/\∃xs:List (List Key×Addr×Value),
   Paired (λ(p:List Key×V) (q:List Key×Addr×Value)=>p.1=q.1/\H q.2.1=some (.tup (p.1.map kV))/\RelV p.2 q.2.2) kvs xs /\
   ∃o es ep,h.get? a=some o/\o.ExactDict/\o.data=.dict es ep/\es.toList=xs.map (entryOfKey (tupleKind (bQ P w)))/\(xs.map (·.1)).Nodup
 |.set S n=>h.SetOf (intKind P w) a S n
 |.ins C dx fs=>H dx=some (.own a)/\fs.length<=1000/\dx≠a/\h.get? a=some (PySem.W.instObj C dx) /\
   ∃c,h.Ns1 dx c/\(∀f,gF (fs.lookup f) (c f))/\PySem.Within c (fs.map (·.1))
 |.own _=>∃o,h.get? a=some o
 |.xd fs=>∃c,h.Ns1 a c/\∀f,gF (fs.lookup f) (c f)
 |.JW lo hi=>∃t u v,h.get? a=some {cls:=.type "range",data:=.fields #[.int lo t,.int hi u,.int 1 v]}
 |.dr o u=>h.get? a=some o/\cw H h a u
 |.Bt ps=>h.get? a=some {cls:=.none,data:=.fields ps}
 |.met f x=>h.get? a=some (PySem.W.methodObj (.ref f) (.ref x))
 |.ext d=>d h/\(∃o,h.get? a=some o)/\∀e g:Heap,d e->(∀o,e.get? a=some o->g.get? a=some o)->d g
def hZ(H:Hp)(h:Heap):Prop:=∀a o,H a=some o->cw P w H h a o
end
section
variable{P:Program}{w:World}{H H':Hp}{h h':Heap}{a:Addr}{o:HO}
theorem cw.lt(x:cw P w H h a o):a<h.objs.size:=by
 cases o with
 |lst c=>obtain⟨_,_,_,_,e⟩:=x;exact Heap.lt_size e
 |tup c=>obtain⟨_,_,_,p⟩:=x;exact p.lt
 |dK b=>obtain⟨_,_,_,_,o,_,_,e,_⟩:=x;exact Heap.lt_size e
 |dT b=>obtain⟨_,_,_,_,o,_,_,e,_⟩:=x;exact Heap.lt_size e
 |set S n=>obtain⟨o,_,_,_,e,_⟩:=x;exact Heap.lt_size e
 |ins C g d=>obtain⟨_,_,_,e,_⟩:=x;exact Heap.lt_size e
 |own y=>obtain⟨_,e⟩:=x;exact Heap.lt_size e
 |xd d=>obtain⟨_,⟨_,_,_,e,_⟩,_⟩:=x;exact Heap.lt_size e
 |JW i j=>obtain⟨_,_,_,e⟩:=x;exact Heap.lt_size e
 |dr k u=>obtain⟨e,_⟩:=x;exact Heap.lt_size e
 |Bt l=>exact Heap.lt_size (show h.get? a=some _ from x)
 |met f y=>exact Heap.lt_size (show h.get? a=some _ from x)
 |ext m=>obtain⟨_,⟨_,e⟩,_⟩:=x;exact Heap.lt_size e
theorem Paired.Es{c d:Type}{F G:c->d->Prop}:∀{l₁:List c}{l₂:List d},Paired F l₁ l₂->(∀a b,F a b->G a b)->Paired G l₁ l₂
 |_,_,.nil,_=>.nil
 |_,_,.cons r t,f=>.cons (f _ _ r) (Paired.Es t f)
theorem cw.stay(x:cw P w H h a o)(k:∀b u,(b=a\/H b=some (.own a))->h.get? b=some u->h'.get? b=some u)
  (E:∀b,H b=some (.own a)->H' b=some (.own a)) (F:∀b xs,H b=some (.tup xs)->H' b=some (.tup xs)):cw P w H' h' a o:=by
 induction o with
 |lst xs=>obtain⟨z,l,n,r,e⟩:=x;exact⟨z,l,n,r,k _ _ (.inl rfl) e⟩
 |tup xs=>obtain⟨z,l,r,g,e,c⟩:=x;exact⟨z,l,r,g,k _ _ (.inl rfl) e,c⟩
 |dK m=>obtain⟨z,y,G,r,g,i,j,e,c⟩:=x;exact⟨z,y,G,r,g,i,j,k _ _ (.inl rfl) e,c⟩
 |dT m=>
  obtain⟨z,y,xs,r,g,i,j,e,c⟩:=x;exact⟨z,y,xs,Paired.Es r λp q z=>⟨z.1,F _ _ z.2.1,z.2.2⟩,g,i,j,k _ _ (.inl rfl) e,c⟩
 |set S n=>obtain⟨g,i,j,t,e,c⟩:=x;exact⟨g,i,j,t,k _ _ (.inl rfl) e,c⟩
 |ins C L I=>
  obtain⟨d,z,ne,e,s,⟨A,i,j,J,c⟩,r⟩:=x;exact⟨E _ d,z,ne,k _ _ (.inl rfl) e,s,⟨A,i,j,k _ _ (.inr d) J,c⟩,r⟩
 |own y=>obtain⟨g,e⟩:=x;exact⟨g,k _ _ (.inl rfl) e⟩
 |xd I=>obtain⟨s,⟨A,i,j,e,c⟩,r⟩:=x;exact⟨s,⟨A,i,j,k _ _ (.inl rfl) e,c⟩,r⟩
 |JW M N=>obtain⟨t,u,v,e⟩:=x;exact⟨t,u,v,k _ _ (.inl rfl) e⟩
 |dr g u K=>obtain⟨e,q⟩:=x;exact⟨k _ _ (.inl rfl) e,K q⟩
 |Bt B=>
  have e:h.get? a=some {cls:=.none,data:=.fields B}:=x
  show h'.get? a=some {cls:=.none,data:=.fields B}
  exact k a _ (.inl rfl) e
 |met f y=>
  have e:h.get? a=some (PySem.W.methodObj (.ref f) (.ref y)):=x
  show h'.get? a=some (PySem.W.methodObj (.ref f) (.ref y))
  exact k a _ (.inl rfl) e
 |ext O=>obtain⟨p,⟨o,e⟩,D⟩:=x;exact⟨D _ _ p λo q=>k _ _ (.inl rfl) q,⟨o,k _ _ (.inl rfl) e⟩,D⟩
theorem hZ.lt(x:hZ P w H h)(e:H a=some o):a<h.objs.size:=(x a o e).lt
theorem hZ.fresh(x:hZ P w H h)(e:h.objs.size<=a):H a=none:=by
 cases q:H a with
 |none=>rfl
 |some u=>exact absurd (Nat.lt_of_lt_of_le (x.lt q) e) (Nat.lt_irrefl _)
theorem hZ.kept(x:hZ P w H h)(k:∀b u,h.get? b=some u->h'.get? b=some u):hZ P w H h':=λa o e=>
 (x a o e).stay (λb u _ q=>k b u q) (λ_ q=>q) λ_ _ q=>q
theorem hZ.laid(x:hZ P w H h)(k:∀b u,h.get? b=some u->h'.get? b=some u)(i:h.objs.size<=a)(d:cw P w (upd H a o) h' a o):hZ P w (upd H a o) h':=λb u e=>by
 have f:=x.fresh i
 by_cases g:b=a
 .subst g;rw[ba]at e;cases e;exact d
 .rw[aJ g]at e
  exact(x b u e).stay (λc v _ q=>k c v q) (λc q=>by rw[aJ (bc q f)];exact q) λc j q=>by rw[aJ (bc q f)];exact q
end
def Rd(H:Hp)(a:Addr)(u:HO):Prop:=H a=some u\/∃o,H a=some (.dr o u)
theorem Rd.ok{P:Program}{w:World}{H:Hp}{h:Heap}{a:Addr}{u:HO}(r:Rd H a u)(x:hZ P w H h):cw P w H h a u:=by
 rcases r with r|⟨o,r⟩
 .exact x a u r
 .obtain⟨_,q⟩:=x a _ r
  exact q
def Et:Option HO->Prop
 |some (.lst _)=>True
 |some (.dK _)=>True
 |some (.dT _)=>True
 |some (.set _ _)=>True
 |some (.ins _ _ _)=>True
 |some (.ext _)=>True
 |_=>False
section
variable{P:Program}{w:World}{H:Hp}{h h':Heap}{x e:Addr}{o':HO}
theorem hZ.write(ok:hZ P w H h)(g:Et (H x))(n:e=x\/H e=some (.own x))(k:∀b u,b≠e->h.get? b=some u->h'.get? b=some u)(l:∃u,h'.get? e=some u)
  (m:cw P w (upd H x o') h' x o'):hZ P w (upd H x o') h':=λb u q=>by
 have d:∀c y,H c=some (.own y)->c≠x:=λc y r z=>by subst z;rw[r]at g;exact g
 have f:∀c i,H c=some (.tup i)->c≠x:=λc i r z=>by subst z;rw[r]at g;exact g
 by_cases j:b=x
 .subst j;rw[ba]at q;cases q;exact m
 .rw[aJ j]at q
  by_cases a:b=e
  .have o:H b=some (.own x):=by
    rcases n with z|z
    .exact absurd (a.trans z) j
    .rw[a];exact z
   rw[q]at o;cases o
   obtain⟨v,p⟩:=l;exact⟨v,by rw[a];exact p⟩
  .refine(ok b u q).stay (λc v hc r=>k c v ?_ r) (λc r=>by rw[aJ (d c b r)];exact r) λc i r=>by rw[aJ (f c i r)];exact r
   rcases hc with rfl|hc
   .exact a
   .rintro rfl
    rcases n with z|z
    .exact d c b hc z
    .rw[hc]at z;cases z;exact j rfl
end
structure Un(fs ex:List Addr)(H H':Hp)(h h':Heap):Prop where
 keep:∀b o,h.get? b=some o->H b=none->b∉fs->b∉ex->h'.get? b=some o
 slot:∀b o,h.get? b=some o->H b=none->b∈fs->b∉ex->∃sl,h'.get? b=some {o with slots:=sl}
 free:∀b o,h.get? b=some o->H b=none->b∉ex->H' b=none
 there:∀b o,h.get? b=some o->b∉ex->∃o',h'.get? b=some o'
 tups:∀b xs,H b=some (.tup xs)->H' b=some (.tup xs)
 h9:∀b o u,H b=some (.dr o u)->H' b=some (.dr o u)
 jX:∀b ps,H b=some (.Bt ps)->∃more,H' b=some (.Bt (ps++more))
section
variable{fs fs' ex ex':List Addr}{H H1 H2:Hp}{h h1 h2 h':Heap}{a x e:Addr}{o:HO}
theorem Un.any(u:Un fs ex H H1 h h1){b:Addr}{ob:Obj}(q:h.get? b=some ob)(n:H b=none)(a:b∉ex):∃d,h1.get? b=some {ob with slots:=d}:=by
 by_cases c:b∈fs
 .exact u.slot b ob q n c a
 .exact⟨ob.slots,u.keep b ob q n c a⟩
theorem Un.trans(a:Un fs ex H H1 h h1)(b:Un fs ex H1 H2 h1 h2):Un fs ex H H2 h h2 where
 keep:=λc d q n g e=>b.keep c d (a.keep c d q n g e) (a.free c d q n e) g e
 slot:=λc d q n g e=>by
  obtain⟨o,f⟩:=a.slot c d q n g e;obtain⟨j,k⟩:=b.slot c _ f (a.free c d q n e) g e;exact⟨j,k⟩
 free:=λc d q n e=>by
  obtain⟨l,f⟩:=a.there c d q e;exact b.free c l f (a.free c d q n e) e
 there:=λc d q e=>by
  obtain⟨l,f⟩:=a.there c d q e;exact b.there c l f e
 tups:=λc i q=>b.tups c i (a.tups c i q)
 h9:=λc d i q=>b.h9 c d i (a.h9 c d i q)
 jX:=λc m q=>by
  obtain⟨m1,f⟩:=a.jX c m q;obtain⟨m2,k⟩:=b.jX c _ f;exact⟨m1++m2,by rw[k,Array.append_assoc]⟩
theorem Un.kept(k:∀b u,h.get? b=some u->h'.get? b=some u):Un fs ex H H h h':=
 ⟨λb a q _ _ _=>k b a q,λb a q _ _ _=>⟨a.slots,k b a q⟩,λ_ _ _ n _=>n,λb a q _=>⟨a,k b a q⟩,λ_ _ q=>q,λ_ _ _ q=>q,λ_ c q=>⟨#[],by rw[q];simp⟩⟩
theorem Un.refl:Un fs ex H H h h:=Un.kept λ_ _ q=>q
theorem Un.laid(k:∀b u,h.get? b=some u->h'.get? b=some u)(d:h.objs.size<=a)(c:H a=none):Un fs ex H (upd H a o) h h' where
 keep:=λb u q _ _ _=>k b u q
 slot:=λb u q _ _ _=>⟨u.slots,k b u q⟩
 free:=λb u q n _=>by rw[aJ (Nat.ne_of_lt (Nat.lt_of_lt_of_le (Heap.lt_size q) d))];exact n
 there:=λb u q _=>⟨u,k b u q⟩
 tups:=λb e q=>by rw[aJ (bc q c)];exact q
 h9:=λb u e q=>by rw[aJ (bc q c)];exact q
 jX:=λb f q=>⟨#[],by rw[aJ (bc q c),q];simp⟩
theorem Un.write(c:Et (H x))(j:e=x\/H e=some (.own x))(k:∀b u,b≠e->h.get? b=some u->h'.get? b=some u)(d:∃u,h'.get? e=some u):Un fs ex H (upd H x o) h h':=by
 have g:∀b,H b=none->b≠x:=λb n z=>by subst z;rw[n]at c;exact c
 have i:∀b,H b=none->b≠e:=λb n z=>by
  subst z;rcases j with r|r
  .exact g b n r
  .rw[n]at r;cases r
 have f:∀b u,H b=some u->¬ Et (some u)->b≠x:=λb u q l z=>by subst z;rw[q]at c;exact l c
 refine⟨λb u q n _ _=>k b u (i b n) q,λb u q n _ _=>⟨u.slots,k b u (i b n) q⟩,λb u q n _=>by rw[aJ (g b n)];exact n,λb u q _=>?_,
  λb m q=>by rw[aJ (f b _ q λz=>z)];exact q,λb u m q=>by rw[aJ (f b _ q λz=>z)];exact q,λb p q=>⟨#[],by rw[aJ (f b _ q λz=>z),q];simp⟩⟩
 by_cases a:b=e
 .subst a;exact d
 .exact⟨u,k b u a q⟩
end
noncomputable def Ic(h:Heap)(H:Hp):List Addr:=(List.range h.objs.size).filter λa=>(H a).isSome
def mL(h:Heap)(H:Hp):Heap:=PySem.W.hideAll h (Ic h H)
theorem tf(h:Heap)(H:Hp):(mL h H).objs.size=h.objs.size:=PySem.W.hideAll_size _ _
theorem uH{h:Heap}{H:Hp}{b:Addr}{o:Obj}(e:h.get? b=some o)(n:H b=none):(mL h H).get? b=some o:=
 PySem.W.hideAll_get _ e λa=>by
  have q:(H b).isSome=true:=(List.mem_filter.mp a).2;rw[n]at q;simp at q
theorem xK{h:Heap}{H:Hp}{b:Addr}{o:Obj}(e:(mL h H).get? b=some o):h.get? b=some o/\H b=none:=by
 have a:h.get? b=some o:=PySem.W.of_hideAll (Ic h H) e;refine⟨a,?_⟩;cases q:H b with
 |none=>rfl
 |some x=>
  have c:b∈Ic h H:=List.mem_filter.mpr ⟨List.mem_range.mpr (Heap.lt_size a),by simp[q]⟩
  have z:(mL h H).get? b=none:=PySem.W.hideAll_none (Ic h H) c;rw[z]at e;cases e
noncomputable def xM(g h:Heap)(L:Addr):List (Addr×Obj):=(List.range h.objs.size).filterMap λa=>if a=L\/(g.get? a).isSome=true then none else (h.get? a).map λo=>(a,o)
def rest(g h:Heap)(L d:Addr):List (Addr×Obj):=(xM g h L).filter λp=>decide (p.1≠d)
structure Mod(K:PySem.W.Frag)(mg:Str->Option Value)(base:Heap):Prop where
 Eu:K.In base
 glob:base.Ns mainGlobals mg
 blt:∃mb,base.Ns builtinsNs mb/\∀x:Str,x≠"__name__"->mb x=bootBuiltins x
 nolimit:base.NoLimit
structure Cx where
 prog:Program
 w:World
 K:PySem.W.Frag
 mg:Str->Option Value
 base:Heap
 A:Around
 N:List Str
 s₀:Shared
 H₀:Hp
 env:Env
 outer:List Env
 stack:List Env
 ex:List Addr
 fn:Str->Bool
 calm:Bool
 pn:List (Addr×Obj)
 xe:Value->Shared->Prop
noncomputable def frs(l:List Env):List Addr:=l.filterMap (·.frame)
abbrev Cx.fs(X:Cx):List Addr:=frs X.outer
def D8(a:Scope)(x:Str):Prop:=a.names.lookup x=some .local\/a.names.lookup x=some .cell\/a.names.lookup x=some .free
def Loc(a:Scope)(x:Str):Prop:=a.names.lookup x=some .local\/a.names.lookup x=some .cell
def Look(env:Env)(h:Heap)(m:Str->Option Value)(x:Str)(u:Value):Prop:=
 (env.kindOf x=some .local/\m x=some u)\/((env.kindOf x=some .cell\/env.kindOf x=some .free)/\∃c,env.cells.lookup x=some c/\h.IsCell c (some u))
structure Cx.Ok(X:Cx):Prop where
 mod:Mod X.K X.mg X.base
 kind:X.env.scope.kind=.function
 glob:X.env.globals=mainGlobals
 blt:X.env.builtins=builtinsNs
 above:X.s₀.heap.objs.size<=X.env.locals
 inj:∀x y c,X.env.cells.lookup x=some c->X.env.cells.lookup y=some c->x=y
 has:∀x,(X.env.kindOf x=some .cell\/X.env.kindOf x=some .free)->∃c,X.env.cells.lookup x=some c
 cab:∀x c,X.fn x=true->X.env.cells.lookup x=some c->X.s₀.heap.objs.size<=c
 hd:X.calm=true->X.A.handled=none
 frames:X.A.frames=some X.stack
 Ie:X.stack=X.outer\/(X.stack=X.env::X.outer/\X.env.frame=some X.env.locals)
 Ig:∀b∈X.ex,b≠X.env.locals/\∀x c,X.env.cells.lookup x=some c->c≠b
 bs:∀b o,X.base.get? b=some o->X.s₀.heap.get? b=some o/\X.H₀ b=none
 AI:X.base.objs.size<=X.s₀.heap.objs.size
 uI:∀b o,X.base.get? b=some o->b∉X.ex
 uJ:∀b∈X.ex,b∉X.fs
 jo:X.s₀.heap.FunFrames X.base X.outer
 Bu:∀b∈X.fs,X.H₀ b=none
structure Inv(X:Cx)(pins:List (Addr×Obj))(σ:List (Option V))(H:Hp)(s:Shared):Prop where
 ok:X.Ok
 os:s.os=X.s₀.os
 bare:AllBare s.gens
 base:Un X.fs X.ex X.H₀ H X.s₀.heap s.heap
 loc:∃m,s.heap.Ns X.env.locals m/\∀(i:Nat) (x:Str) (v:V),X.N[i]?=some x->σ[i]?=some (some v)->D8 X.env.scope x->∃u,RelV v u/\Look X.env s.heap m x u
 cell:∀x c,X.env.cells.lookup x=some c->∃v,s.heap.IsCell c v
 free:H X.env.locals=none
 fV:∀x c,X.env.cells.lookup x=some c->(H c=none\/∃o u,H c=some (.dr o u))/\(X.fn x=true->H c=none)
 pin:∀p∈X.pn++pins,s.heap.get? p.1=some p.2/\H p.1=none/\p.1≠X.env.locals/\p.1∉X.fs/\∀v,p.2.data≠.cell v
 hok:hZ X.prog X.w H s.heap
 len:σ.length=X.N.length
section
variable{X:Cx}{pins:List (Addr×Obj)}{σ:List (Option V)}{H H':Hp}{s:Shared}{h':Heap}
theorem Cx.Ok.JX(ok:X.Ok){b:Addr}{o:Obj}(e:X.base.get? b=some o):b∉X.fs:=λa=>by
 have:=(ok.jo.mem a).1;rw[e]at this;cases this
theorem Inv.bs(I:Inv X pins σ H s):∀b o,X.base.get? b=some o->s.heap.get? b=some o/\H b=none:=λb o e=>
 ⟨I.base.keep b o (I.ok.bs b o e).1 (I.ok.bs b o e).2 (I.ok.JX e) (I.ok.uI b o e),I.base.free b o (I.ok.bs b o e).1 (I.ok.bs b o e).2 (I.ok.uI b o e)⟩
theorem Inv.bk(I:Inv X pins σ H s):∀b o,X.base.get? b=some o->s.heap.get? b=some o:=λb o e=>(I.bs b o e).1
theorem Inv.mod(I:Inv X pins σ H s):Mod X.K X.mg X.base:=I.ok.mod
theorem Inv.h_(I:Inv X pins σ H s):X.K.In s.heap:=I.ok.mod.Eu.keeps I.bk
theorem Inv.lt(I:Inv X pins σ H s):X.env.locals<s.heap.objs.size:=let ⟨_,a,_⟩:=I.loc;a.lt
theorem Inv.sz(I:Inv X pins σ H s):X.s₀.heap.objs.size<=s.heap.objs.size:=Nat.le_trans I.ok.above (Nat.le_of_lt I.lt)
theorem Inv.JY(I:Inv X pins σ H s){a:Addr}(h:s.heap.objs.size<=a):a∉X.fs:=λb=>by
 obtain⟨_,o,c,_⟩:=I.ok.jo.mem b;exact absurd (Nat.lt_of_lt_of_le (Heap.lt_size c) (Nat.le_trans I.sz h)) (Nat.lt_irrefl _)
theorem Inv.JZ(I:Inv X pins σ H s):∀x c,X.env.cells.lookup x=some c->c≠X.env.locals:=λx c e z=>by
 obtain⟨v,o,d,f⟩:=I.cell x c e;obtain⟨m,⟨g,h,i,a,b,_⟩,_⟩:=I.loc;rw[z,a]at d;cases d;rw[b]at f;cases f
theorem Inv.jo(I:Inv X pins σ H s):s.heap.FunFrames X.base X.outer:=by
 have a:∀(l:List Env),(∀b∈frs l,b∈X.fs)->X.s₀.heap.FunFrames X.base l->s.heap.FunFrames X.base l:=by
  intro l
  induction l with
  |nil=>intro _ _;trivial
  |cons h r i=>
   intro g j;obtain⟨k,⟨L,o,c,m,n,p⟩,q⟩:=j;have d:L∈X.fs:=g L (by unfold frs;rw[List.filterMap_cons,c];exact List.mem_cons_self)
   obtain⟨t,e⟩:=I.base.slot L o n (I.ok.Bu L d) d λz=>I.ok.uJ L z d
   exact⟨k,⟨L,_,c,m,e,p⟩,i (λb f=>g b (by unfold frs;rw[List.filterMap_cons,c];exact List.mem_cons_of_mem _ f)) q⟩
 exact a X.outer (λ_ f=>f) I.ok.jo
theorem Inv.stack(I:Inv X pins σ H s):s.heap.FunFrames X.base X.stack:=by
 rcases I.ok.Ie with e|⟨e,a⟩
 .rw[e];exact I.jo
 .rw[e]
  obtain⟨m,b,_⟩:=I.loc;refine .cons (by rw[I.ok.kind];decide) a b ?_ I.jo
  exact Heap.get?_none_of_le (Nat.le_trans I.ok.AI I.ok.above)
theorem Inv.pS(I:Inv X pins σ H s):∀b∈frs X.stack,b∈X.env.locals::X.fs:=λb a=>by
 rcases I.ok.Ie with e|⟨e,c⟩
 .rw[e]at a;exact List.mem_cons_of_mem _ a
 .rw[e]at a
  unfold frs at a;rw[List.filterMap_cons,c]at a;exact a
theorem Inv.rm(I:Inv X pins σ H s):∀b∈frs X.stack,H b=none:=λb hb=>by
 rcases List.mem_cons.mp (I.pS b hb)with e|hb
 .rw[e];exact I.free
 .obtain⟨_,o,a,_⟩:=I.ok.jo.mem hb
  exact I.base.free b o a (I.ok.Bu b hb) λz=>I.ok.uJ b z hb
theorem Inv.step{g':Array GenState}{t':Nat}{d':Drawn}{ch:List Addr}(I:Inv X pins σ H s)
  (h:∀b∈ch,(b∈X.ex\/X.s₀.heap.objs.size<=b)/\b≠X.env.locals/\(∀x c,X.env.cells.lookup x=some c->c≠b)/\∀p∈X.pn++pins,p.1≠b)
  (keep:∀b o,b≠X.env.locals->b∉X.fs->b∉ch->s.heap.get? b=some o->H b=none->h'.get? b=some o)
  (slot:∀b o,b≠X.env.locals->b∈X.fs->b∉ch->s.heap.get? b=some o->H b=none->∃M,h'.get? b=some {o with slots:=M}) (free:∀b o,b∉ch->s.heap.get? b=some o->H b=none->H' b=none)
  (there:∀b o,b∉ch->s.heap.get? b=some o->∃E,h'.get? b=some E)
  (tups:∀b xs,H b=some (.tup xs)->H' b=some (.tup xs)) (h9:∀b o u,H b=some (.dr o u)->H' b=some (.dr o u)) (jX:∀b ps,H b=some (.Bt ps)->∃more,H' b=some (.Bt (ps++more)))
  (ns:∀m,s.heap.Ns X.env.locals m->h'.Ns X.env.locals m) (F:hZ X.prog X.w H' h') (R:AllBare g') :
  Inv X pins σ H' {s with heap:=h',gens:=g',drawn:=d',toks:=t' }:=by
 have G:∀b o,X.s₀.heap.get? b=some o->b≠X.env.locals:=λb o e=>Nat.ne_of_lt (Nat.lt_of_lt_of_le (Heap.lt_size e) I.ok.above)
 have t:∀b o,X.s₀.heap.get? b=some o->b∉X.ex->b∉ch:=λb o e f A=>by
  rcases(h b A).1 with z|z
  .exact f z
  .exact absurd (Nat.lt_of_lt_of_le (Heap.lt_size e) z) (Nat.lt_irrefl _)
 have j:∀x c,X.env.cells.lookup x=some c->∀v,s.heap.IsCell c v->h'.IsCell c v:=λx c e v ⟨o,y,J⟩=>by
  have a:c∉ch:=λz=>(h c z).2.2.1 x c e rfl
  rcases(I.fV x c e).1 with C|⟨D,K,L⟩
  .by_cases O:c∈X.fs
   .obtain⟨M,q⟩:=slot c o (I.JZ x c e) O a y C
    exact⟨_,q,J⟩
   .exact⟨o,keep c o (I.JZ x c e) O a y C,J⟩
  .have g:s.heap.get? c=some D:=(I.hok c _ L).1
   have B:h'.get? c=some D:=(F c _ (h9 c D K L)).1;rw[y]at g;cases g
   exact⟨o,B,J⟩
 refine⟨I.ok,I.os,R,⟨λb o e n A f=>?_,λb o e n A f=>?_,λb o e n f=>?_,λb o e f=>?_,λb xs e=>tups b xs (I.base.tups b xs e),λb o xs e=>h9 b o xs (I.base.h9 b o xs e),λb ps e=>?_⟩,?_,λx c e=>?_,?_,λx c e=>?_,λp P=>?_,F,I.len⟩
 .exact keep b o (G b o e) A (t b o e f) (I.base.keep b o e n A f) (I.base.free b o e n f)
 .obtain⟨M,g⟩:=I.base.slot b o e n A f
  obtain⟨N,B⟩:=slot b _ (G b o e) A (t b o e f) g (I.base.free b o e n f);exact⟨N,B⟩
 .obtain⟨E,g⟩:=I.base.there b o e f
  exact free b E (t b o e f) g (I.base.free b o e n f)
 .obtain⟨E,g⟩:=I.base.there b o e f
  exact there b E (t b o e f) g
 .obtain⟨m1,g⟩:=I.base.jX b ps e
  obtain⟨m2,B⟩:=jX b _ g;exact⟨m1++m2,by rw[B,Array.append_assoc]⟩
 .obtain⟨m,C,S⟩:=I.loc
  refine⟨m,ns m C,λi x v g B T=>?_⟩
  obtain⟨u,r,l⟩:=S i x v g B T;refine⟨u,r,?_⟩;rcases l with l|⟨k,c,e,z⟩
  .exact .inl l
  .exact .inr ⟨k,c,e,j x c e _ z⟩
 .obtain⟨v,z⟩:=I.cell x c e
  exact⟨v,j x c e v z⟩
 .obtain⟨m,⟨o,_,_,y,_⟩,_⟩:=I.loc
  exact free _ o (λz=>(h _ z).2.1 rfl) y I.free
 .obtain⟨v,o,y,J⟩:=I.cell x c e
  have a:c∉ch:=λz=>(h c z).2.2.1 x c e rfl
  refine⟨?_,λU=>free c o a y ((I.fV x c e).2 U)⟩
  rcases(I.fV x c e).1 with C|⟨D,K,L⟩
  .exact .inl (free c o a y C)
  .exact .inr ⟨D,K,h9 c D K L⟩
 .obtain⟨e,n,ne,Q,d⟩:=I.pin p P
  have a:p.1∉ch:=λz=>(h p.1 z).2.2.2 p P rfl
  exact⟨keep p.1 p.2 ne Q a e n,free p.1 p.2 a e n,ne,Q,d⟩
theorem Inv.un{t':Nat}(I:Inv X pins σ H s)(u:Un X.fs [] H H' s.heap h')(c:hZ X.prog X.w H' h'):Inv X pins σ H' {s with heap:=h',toks:=t' }:=by
 obtain⟨m,⟨o,l,p,h,r⟩,_⟩:=id I.loc;obtain⟨q,i⟩:=u.any h I.free (by simp)
 exact I.step (g':=s.gens) (d':=s.drawn) (ch:=[]) (λ_ z=>nomatch z) (λb o _ d _ e n=>u.keep b o e n d (by simp)) (λb o _ d _ e n=>u.slot b o e n d (by simp)) (λb o _ e n=>u.free b o e n (by simp)) (λb o _ e=>u.there b o e (by simp)) u.tups u.h9 u.jX (λt j=>by
  obtain⟨x,f,g,a,k⟩:=j;rw[h]at a;cases a
  exact⟨_,f,g,i,k⟩) c I.bare
theorem Inv.call{g':Array GenState}{t':Nat}{d':Drawn}{ch:List Addr}(I:Inv X pins σ H s)(u:Un (frs X.stack) ch H H' s.heap h')(g:hZ X.prog X.w H' h')(l:AllBare g')
  (d:∀b∈ch,(b∈X.ex\/X.s₀.heap.objs.size<=b)/\b≠X.env.locals/\(∀x c,X.env.cells.lookup x=some c->c≠b)/\∀p∈X.pn++pins,p.1≠b) :
  Inv X pins σ H' {s with heap:=h',gens:=g',drawn:=d',toks:=t' }:=by
 obtain⟨m,⟨o,A,B,k,r⟩,_⟩:=id I.loc;obtain⟨C,h⟩:=u.any k I.free λz=>(d _ z).2.1 rfl
 exact I.step (ch:=ch) d (λb o h q a e n=>u.keep b o e n (λz=>(List.mem_cons.mp (I.pS b z)).elim h q) a) (λb o _ _ a e n=>u.any e n a) (λb o a e n=>u.free b o e n a) (λb o a e=>u.there b o e a) u.tups u.h9 u.jX (λD t=>by
  obtain⟨E,i,j,f,y⟩:=t;rw[k]at f;cases f
  exact⟨_,i,j,h,y⟩) g l
theorem Inv.turned{t':Nat}{it:Addr}(I:Inv X pins σ H s)(k:∀b o,b≠it->s.heap.get? b=some o->h'.get? b=some o)(g:H it=none)(f:it≠X.env.locals)
  (h:it∈X.ex\/X.s₀.heap.objs.size<=it) (i:∀x c,X.env.cells.lookup x=some c->c≠it) (j:∀p∈X.pn++pins,p.1≠it):Inv X pins σ H {s with heap:=h',toks:=t' }:=by
 have d:∀b u,H b=some u->b≠it:=λb u e z=>by rw[z,g]at e;cases e
 refine I.step (g':=s.gens) (d':=s.drawn) (ch:=[it]) (λb l=>?_) (λb o _ _ a e _=>k b o (λz=>a (by simp[z])) e) (λb o _ _ a e _=>⟨o.slots,k b o (λz=>a (by simp[z])) e⟩) (λ_ _ _ _ n=>n)
  (λb o a e=>⟨o,k b o (λz=>a (by simp[z])) e⟩) (λ_ _ e=>e) (λ_ _ _ e=>e) (λb B e=>⟨#[],by rw[e];simp⟩) (λm t=>?_) (λb u e=>?_) I.bare
 .have e:b=it:=by simpa using l
  subst e;exact⟨h,f,i,j⟩
 .obtain⟨o,w,y,A,r⟩:=t
  exact⟨o,w,y,k _ o (Ne.symm f) A,r⟩
 .refine(I.hok b u e).stay (λc v a q=>k c v ?_ q) (λ_ q=>q) λ_ _ q=>q
  rcases a with z|z
  .rw[z];exact d b u e
  .exact d c _ z
theorem Inv.tok(I:Inv X pins σ H s)(t:Nat):Inv X pins σ H {s with toks:=t}:=I.un (h':=s.heap) (t':=t) Un.refl I.hok
theorem Inv.kept{t':Nat}(I:Inv X pins σ H s)(k:∀b u,s.heap.get? b=some u->h'.get? b=some u):Inv X pins σ H {s with heap:=h',toks:=t' }:=I.un (Un.kept k) (I.hok.kept k)
theorem Inv.laid{a:Addr}{o:HO}{t':Nat}(I:Inv X pins σ H s)(k:∀b u,s.heap.get? b=some u->h'.get? b=some u)(c:s.heap.objs.size<=a)(d:cw X.prog X.w (upd H a o) h' a o) :
  Inv X pins σ (upd H a o) {s with heap:=h',toks:=t' }:=I.un (Un.laid k c (I.hok.fresh c)) (I.hok.laid k c d)
theorem Inv.write{x e:Addr}{o:HO}{t':Nat}(I:Inv X pins σ H s)(d:Et (H x))(f:e=x\/H e=some (.own x))(k:∀b u,b≠e->s.heap.get? b=some u->h'.get? b=some u)(a:∃u,h'.get? e=some u)
  (c:cw X.prog X.w (upd H x o) h' x o):Inv X pins σ (upd H x o) {s with heap:=h',toks:=t' }:=I.un (Un.write d f k a) (I.hok.write d f k a c)
theorem Inv.weak{a:List (Option V)}(I:Inv X pins σ H s)(c:a.length=σ.length)(w:∀(i:Nat) v,a[i]?=some (some v)->σ[i]?=some (some v)):Inv X pins a H s:=
 ⟨I.ok,I.os,I.bare,I.base,let ⟨m,d,b⟩:=I.loc;⟨m,d,λi x v e f g=>b i x v e (w i v f) g⟩,I.cell,I.free,I.fV,I.pin,I.hok,c.trans I.len⟩
theorem Inv.rn{a:List (Addr×Obj)}(I:Inv X pins σ H s)(h:∀p∈a,s.heap.get? p.1=some p.2/\H p.1=none/\p.1≠X.env.locals/\p.1∉X.fs/\∀v,p.2.data≠.cell v):Inv X a σ H s:=
 ⟨I.ok,I.os,I.bare,I.base,I.loc,I.cell,I.free,I.fV,λp b=>(List.mem_append.mp b).elim (λz=>I.pin p (List.mem_append_left _ z)) (h p),I.hok,I.len⟩
theorem oi{N:List Str}(c:N.Nodup){i j:Nat}{x:Str}(a:N[i]?=some x)(b:N[j]?=some x):i=j:=by
 obtain⟨f,d⟩:=List.getElem?_eq_some_iff.mp a;obtain⟨g,e⟩:=List.getElem?_eq_some_iff.mp b;exact(List.getElem_inj c).mp (d.trans e.symm)
theorem lR{M:Model}{A:Around}{E:Value->Shared->Prop}{i:Nat}{x:Str}{v:V}{u:Value}{Q:Unit->Shared->Prop}(I:Inv X pins σ H s)(hN:X.N.Nodup)(O:X.N[i]?=some x)(t:Loc X.env.scope x)(r:RelV v u)
  (h:∀s',Inv X pins (σ.set i (some v)) H s'->(∃a,Heap.SameBut a s.heap s'.heap/\(a=X.env.locals\/X.env.cells.lookup x=some a))->Q () s') (hf:X.fn x=true\/X.env.scope.names.lookup x=some .local:=by first|exact .inl rfl|exact .inr rfl|assumption):wpAny M A (storeName X.env x u) Q E s:=by
 obtain⟨m,hn,hl⟩:=id I.loc;have P:(X.env.scope.kind==.class||(X.env.scope.kind==.module&&X.env.locals != X.env.globals))=false:=by rw[I.ok.kind];rfl
 have F:i<σ.length:=by rw[I.len];exact(List.getElem?_eq_some_iff.mp O).1
 have G:=I.JZ
 have g:∀{a:Addr}{L:Heap},(∃o,s.heap.get? a=some o/\H a=none)->Heap.SameBut a s.heap L->hZ X.prog X.w H L:=λ{a L} ha f b ob e=>by
  obtain⟨_,_,B⟩:=ha;refine(I.hok b ob e).stay (λc Y hc q=>(f.2 c ?_).trans q) (λ_ q=>q) λ_ _ q=>q
  rintro rfl;rcases hc with rfl|hc
  .rw[B]at e;cases e
  .rw[B]at hc;cases hc
 rcases t with hk|hk
 .refine wpAny_storeName_local hk hn (λL a0 f=>?_) P
  obtain⟨oL,_,_,b0,_⟩:=id hn;refine h _ ⟨I.ok,I.os,I.bare,⟨λb o e n J t=>?_,λb o e n J t=>?_,I.base.free,λb o e t=>?_,I.base.tups,I.base.h9,I.base.jX⟩,⟨_,a0,λj y v' l C e3=>?_⟩,λy c e=>?_,I.free,I.fV,λp hp=>?_,g ⟨oL,b0,I.free⟩ f,by simpa using I.len⟩ ⟨_,f,.inl rfl⟩
  .exact(f.2 b (Nat.ne_of_lt (Nat.lt_of_lt_of_le (Heap.lt_size e) I.ok.above))).trans (I.base.keep b o e n J t)
  .obtain⟨sl,l⟩:=I.base.slot b o e n J t
   exact⟨sl,(f.2 b (Nat.ne_of_lt (Nat.lt_of_lt_of_le (Heap.lt_size e) I.ok.above))).trans l⟩
  .obtain⟨o',l⟩:=I.base.there b o e t
   exact⟨o',(f.2 b (Nat.ne_of_lt (Nat.lt_of_lt_of_le (Heap.lt_size e) I.ok.above))).trans l⟩
  .by_cases K:j=i
   .subst K
    rw[O]at l;cases l
    rw[List.getElem?_set_self F]at C;cases C;exact⟨u,r,.inl ⟨hk,by simp⟩⟩
   .rw[List.getElem?_set_ne (Ne.symm K)]at C
    obtain⟨u',r',q⟩:=hl j y v' l C e3;refine⟨u',r',?_⟩;rcases q with ⟨k,e⟩|⟨k,c,e,z⟩
    .refine .inl ⟨k,?_⟩
     have:y≠x:=λe=>K (oi hN l (e▸O))
     simp[this,e]
    .exact .inr ⟨k,c,e,z.sameBut f (G y c e)⟩
  .obtain⟨Y,z⟩:=I.cell y c e
   exact⟨Y,z.sameBut f (G y c e)⟩
  .obtain⟨e,n,ne,nf,d⟩:=I.pin p hp
   exact⟨(f.2 p.1 ne).trans e,n,ne,nf,d⟩
 .have D:X.fn x=true:=by
   rcases hf with z|z
   .exact z
   .rw[z]at hk;cases hk
  obtain⟨c,hc⟩:=I.ok.has x (.inl hk);obtain⟨Y,z⟩:=I.cell x c hc;refine wpAny_storeName_cell I.ok.kind hk hc z (λL R f=>?_)
  obtain⟨oc,S,T⟩:=id z;refine h {s with heap:=L} ⟨I.ok,I.os,I.bare,⟨λb o e n J t=>?_,λb o e n J t=>?_,I.base.free,λb o e t=>?_,I.base.tups,I.base.h9,I.base.jX⟩,⟨m,hn.sameBut f (Ne.symm (G x c hc)),λj y v' l C e3=>?_⟩,λy Z e=>?_,I.free,I.fV,λp hp=>?_,g ⟨oc,S,(I.fV x c hc).2 D⟩ f,by simpa using I.len⟩ ⟨c,f,.inr hc⟩
  .exact(f.2 b (Nat.ne_of_lt (Nat.lt_of_lt_of_le (Heap.lt_size e) (I.ok.cab x c D hc)))).trans (I.base.keep b o e n J t)
  .obtain⟨sl,l⟩:=I.base.slot b o e n J t
   exact⟨sl,(f.2 b (Nat.ne_of_lt (Nat.lt_of_lt_of_le (Heap.lt_size e) (I.ok.cab x c D hc)))).trans l⟩
  .obtain⟨o',l⟩:=I.base.there b o e t
   exact⟨o',(f.2 b (Nat.ne_of_lt (Nat.lt_of_lt_of_le (Heap.lt_size e) (I.ok.cab x c D hc)))).trans l⟩
  .by_cases K:j=i
   .subst K
    rw[O]at l;cases l
    rw[List.getElem?_set_self F]at C;cases C;exact⟨u,r,.inr ⟨.inl hk,c,hc,R⟩⟩
   .rw[List.getElem?_set_ne (Ne.symm K)]at C
    obtain⟨u',r',q⟩:=hl j y v' l C e3;refine⟨u',r',?_⟩;rcases q with q|⟨k,Z,e,z'⟩
    .exact .inl q
    .refine .inr ⟨k,Z,e,z'.sameBut f ?_⟩
     rintro rfl;exact K (oi hN l (I.ok.inj _ _ _ e hc▸O))
  .by_cases U:Z=c
   .subst U;exact⟨_,R⟩
   .obtain⟨w2,z2⟩:=I.cell y Z e
    exact⟨w2,z2.sameBut f U⟩
  .obtain⟨e,n,ne,nf,d⟩:=I.pin p hp
   refine⟨(f.2 p.1 ?_).trans e,n,ne,nf,d⟩;intro q;rw[q,S]at e;have q':oc=p.2:=Option.some.inj e;exact d Y (by rw[←q'];exact T)
theorem oj{M:Model}{A:Around}{E:Value->Shared->Prop}{i:Nat}{x:Str}{v:V}{u:Value}{Q:Unit->Shared->Prop}(I:Inv X pins σ H s)(b:X.N.Nodup)(c:X.N[i]?=some x)(d:Loc X.env.scope x)(r:RelV v u)
  (h:∀a,Inv X pins (σ.set i (some v)) H a->Q () a) (e:X.fn x=true\/X.env.scope.names.lookup x=some .local:=by first|exact .inl rfl|exact .inr rfl|assumption):wpAny M A (storeName X.env x u) Q E s:=
 lR I b c d r (λa f _=>h a f) e
theorem Inv.call'{a:Shared}{ch:List Addr}(I:Inv X pins σ H s)(g:a.os=s.os)(u:Un (frs X.stack) ch H H' s.heap a.heap)(d:hZ X.prog X.w H' a.heap)(h:AllBare a.gens)
  (f:∀b∈ch,(b∈X.ex\/X.s₀.heap.objs.size<=b)/\b≠X.env.locals/\(∀x c,X.env.cells.lookup x=some c->c≠b)/\∀p∈X.pn++pins,p.1≠b):Inv X pins σ H' a:=by
 obtain⟨j,g',d',t',i⟩:=a;have e:i=s.os:=g;subst e;exact I.call (g':=g') (t':=t') (d':=d') u d h f
end
abbrev XK:=Value->Option Addr->Hp->Prop
abbrev St:=List (Option V)
abbrev VK:=V->Hp->Prop
abbrev TE:=St->Hp->VK->Prop
abbrev TT:=St->Hp->(Bool->Hp->Prop)->Prop
abbrev TA:=St->Hp->(List V->Hp->Prop)->Prop
structure Ends where
 nx:St->Hp->Prop
 rt:VK
 bk:St->Hp->Prop:=λ_ _=>False
 ct:St->Hp->Prop:=λ_ _=>False
abbrev TS:=Ends->St->Hp->Prop
def EP(X:Cx)(pins:List (Addr×Obj))(b:St)(Q:VK)(u:Value)(c:Shared):Prop:=∃v a,Inv X pins b a c/\RelV v u/\Q v a
def TP(X:Cx)(pins:List (Addr×Obj))(c:St)(Q:Bool->Hp->Prop)(b:Bool)(d:Shared):Prop:=∃a,Inv X pins c a d/\Q b a
def AP(X:Cx)(pins:List (Addr×Obj))(c:St)(Q:List V->Hp->Prop)(us:List Value)(d:Shared):Prop:=∃a b,Inv X pins c b d/\Vals a us/\Q a b
def SP(X:Cx)(pins:List (Addr×Obj))(D:Ends)(f:Flow)(c:Shared):Prop:=
 match f with
 |.next=>∃a b,Inv X pins a b c/\D.nx a b
 |.brk=>∃a b,Inv X pins a b c/\D.bk a b
 |.cont=>∃a b,Inv X pins a b c/\D.ct a b
 |.ret u=>∃v a b,Inv X pins a b c/\RelV v u/\D.rt v b
def PE(X:Cx)(e:Expr)(t:TE):Prop:=
 ∀(pins:List (Addr×Obj)) (s:Shared) (a:St) (H:Hp) (Q:VK),Inv X pins a H s->t a H Q->wpAny (model X.prog X.w) X.A (eval e X.env) (EP X pins a Q) X.xe s
def PT(X:Cx)(e:Expr)(t:TT):Prop:=
 ∀(pins:List (Addr×Obj)) (s:Shared) (a:St) (H:Hp) (Q:Bool->Hp->Prop),Inv X pins a H s->t a H Q->wpAny (model X.prog X.w) X.A (isTrue e X.env (eval e X.env)) (TP X pins a Q) X.xe s
def PW(X:Cx)(e:Expr)(t:TT):Prop:=
 ∀(a:Sem Value) (pins:List (Addr×Obj)) (s:Shared) (b:St) (H:Hp) (Q:Bool->Hp->Prop),Inv X pins b H s->t b H Q->wpAny (model X.prog X.w) X.A (isTrue e X.env a) (TP X pins b Q) X.xe s
theorem PW.pt{X:Cx}{e:Expr}{t:TT}(h:PW X e t):PT X e t:=h _
def PA(X:Cx)(es:List Expr)(t:TA):Prop:=
 ∀(a:Pos) (pins:List (Addr×Obj)) (s:Shared) (b:St) (H:Hp) (Q:List V->Hp->Prop),Inv X pins b H s->t b H Q->wpAny (model X.prog X.w) X.A (spliced (backTo a (starEach es X.env))) (AP X pins b Q) X.xe s
def PS(X:Cx)(st:Stmt)(t:TS):Prop:=
 ∀(pins:List (Addr×Obj)) (s:Shared) (a:St) (H:Hp) (D:Ends),Inv X pins a H s->t D a H->wpAny (model X.prog X.w) X.A (exec st X.env) (SP X pins D) X.xe s
def ja(X:Cx)(st:List Stmt)(t:TS):Prop:=
 ∀(pins:List (Addr×Obj)) (s:Shared) (a:St) (H:Hp) (D:Ends),Inv X pins a H s->t D a H->wpAny (model X.prog X.w) X.A (execs st X.env) (SP X pins D) X.xe s
theorem cC{b:Type}{t:Sem b}{Q Q':b->Shared->Prop}{M:Model}{A:Around}{E:Value->Shared->Prop}{s:Shared}(h:wpAny M A t Q E s)(c:∀a s,Q a s->Q' a s):wpAny M A t Q' E s:=wpAny_mono h c λ_ _ x=>x
section
variable{X:Cx}
noncomputable def J7(i:Nat):TE:=λa H Q=>∃v,a[i]?=some (some v)/\Q v H
noncomputable def tC(v:V):TE:=λ_ H Q=>Q v H
theorem Bv{i:Nat}{x:Str}{pos:Pos}(j:X.N[i]?=some x)(k:D8 X.env.scope x)(d:(x==("__debug__":Str))=false:=by decide)(f:(x==("__classdict__":Str))=false:=by decide):PE X (.Name x pos) (J7 i):=by
 intro pins s n H Q I h;obtain⟨v,e,h⟩:=h;obtain⟨m,o,p⟩:=I.loc;obtain⟨u,r,l⟩:=p i x v j e k;have b:EP X pins n Q u s:=⟨v,H,I,r,h⟩;rcases l with ⟨hk,q⟩|⟨hk,c,g,a⟩
 .exact wpAny_Name (wpAny_loadName_local I.ok.kind hk o q b) d
 .rcases hk with hk|hk
  .exact wpAny_Name (wpAny_loadName_cell I.ok.kind hk g a b) d
  .exact wpAny_Name (wpAny_loadName_free I.ok.kind hk g a b f) d
theorem Bw{i j pos}:PE X (.Constant (.int i) j pos) (tC (.int i)):=λ_ _ _ H _ I h=>wpAny_Constant_int ⟨.int i,H,I.tok _,⟨_,rfl⟩,h⟩
theorem Ew{b j pos}:PE X (.Constant (.bool b) j pos) (tC (.bl b)):=λ_ _ _ H _ I h=>Constant_bool ⟨.bl b,H,I,rfl,h⟩
theorem Bx{j pos}:PE X (.Constant .none j pos) (tC .non):=λ_ _ _ H _ I h=>Constant_none ⟨.non,H,I,rfl,h⟩
theorem By{x j pos}:PE X (.Constant (.str x) j pos) (tC (.str x)):=λ_ _ _ H _ I h=>Calls.Constant_str ⟨.str x,H,I.tok _,⟨_,rfl⟩,h⟩
def Gl(X:Cx)(x:Str):Prop:=X.env.kindOf x=some .globalImplicit
theorem ia{E:Value->Shared->Prop}{pins:List (Addr×Obj)}{s:Shared}{a:St}{H:Hp}{x:Str}{u:Value}{pos:Pos}{Q:Value->Shared->Prop}(I:Inv X pins a H s)(b:Gl X x)(c:X.mg x=some u)(h:Q u s)
  (d:(x==("__debug__":Str))=false:=by decide):wpAny (model X.prog X.w) X.A (eval (.Name x pos) X.env) Q E s:=
 Calls.Name_function_global I.ok.kind b (Calls.loadGlobal_global (by rw[I.ok.glob];exact I.mod.glob.keeps I.bk) c h) d
theorem jY{E:Value->Shared->Prop}{pins:List (Addr×Obj)}{s:Shared}{a:St}{H:Hp}{x:Str}{u:Value}{pos:Pos}{Q:Value->Shared->Prop}(I:Inv X pins a H s)(b:Gl X x)(c:X.mg x=none)(d:bootBuiltins x=some u)(h:Q u s)
  (e:x≠"__name__":=by decide) (f:(x==("__debug__":Str))=false:=by decide):wpAny (model X.prog X.w) X.A (eval (.Name x pos) X.env) Q E s:=by
 obtain⟨j,g,i⟩:=I.mod.blt;exact Calls.Name_function_global I.ok.kind b (Calls.loadGlobal_builtin (by rw[I.ok.glob];exact I.mod.glob.keeps I.bk) c (by rw[I.ok.blt];exact g.keeps I.bk) ((i x e).trans d) h) f
theorem xN{x:Str}{v:V}{u:Value}{pos:Pos}(a:Gl X x)(b:X.mg x=some u)(r:RelV v u)(c:(x==("__debug__":Str))=false:=by decide):PE X (.Name x pos) (tC v):=
 λ_ _ _ H _ I h=>ia I a b ⟨v,H,I,r,h⟩ c
theorem xO{x:Str}{v:V}{u:Value}{pos:Pos}(a:Gl X x)(b:X.mg x=none)(c:bootBuiltins x=some u)(r:RelV v u)(d:x≠"__name__":=by decide)(e:(x==("__debug__":Str))=false:=by decide):PE X (.Name x pos) (tC v):=
 λ_ _ _ H _ I h=>jY I a b c ⟨v,H,I,r,h⟩ d e
variable{a b:Expr}{ta tb:TE}{pos:Pos}
variable{tA Ih:TT}{rest:List Expr}
noncomputable def J8(t u:TT):TT:=λa H Q=>t a H λc b=>if c=true then u a b Q else Q false b
noncomputable def Qv(t u:TT):TT:=λa H Q=>t a H λc b=>if c=true then Q true b else u a b Q
noncomputable def J9(t:TT):TT:=λa H Q=>t a H λc b=>Q (!c) b
theorem pw_and1(b:PT X a tA):PW X (.BoolOp .And [a] pos) tA:=by
 intro f pins s d H Q I h;refine isTrue_and (cC (b pins s d H Q I h) λc g e=>?_)
 cases c with
 |true=>exact isTrue_and_nil e
 |false=>exact e
theorem pw_or1(b:PT X a tA):PW X (.BoolOp .Or [a] pos) tA:=by
 intro f pins s d H Q I h;refine isTrue_or (cC (b pins s d H Q I h) λc g e=>?_)
 cases c with
 |false=>exact isTrue_or_nil e
 |true=>exact e
theorem pw_and(f:PT X a tA)(g:PW X (.BoolOp .And (b::rest) pos) Ih):PW X (.BoolOp .And (a::b::rest) pos) (J8 tA Ih):=by
 intro i pins s d H Q I h;refine isTrue_and (cC (f pins s d H _ I h) λc j ⟨e,I1,q1⟩=>?_)
 cases c with
 |true=>exact g i pins j d e Q I1 q1
 |false=>exact⟨e,I1,q1⟩
theorem pw_or(f:PT X a tA)(g:PW X (.BoolOp .Or (b::rest) pos) Ih):PW X (.BoolOp .Or (a::b::rest) pos) (Qv tA Ih):=by
 intro i pins s d H Q I h;refine isTrue_or (cC (f pins s d H _ I h) λc j ⟨e,I1,q1⟩=>?_)
 cases c with
 |true=>exact⟨e,I1,q1⟩
 |false=>exact g i pins j d e Q I1 q1
theorem Bz(b:PT X a tA):PT X (.UnaryOp .Not a pos) (J9 tA):=by
 intro pins s d H Q I h;exact isTrue_not (b pins s d H (λc e=>Q (!c) e) I h)
theorem BA{op}{t:TE}(h:PE X a t):PE X (.BoolOp op [a] pos) t:=λpins s b H Q I c=>BoolOp_one (h pins s b H Q I c)
noncomputable def D9(t:TT)(d tb:TE):TE:=λa H Q=>t a H λc b=>if c=true then d a b Q else tb a b Q
theorem uK{c:Expr}(i:PT X c tA)(j:PE X a ta)(k:PE X b tb):PE X (.IfExp c a b pos) (D9 tA ta tb):=by
 intro pins s e H Q I h;refine wpAny_IfExp (cC (i pins s e H _ I h) λd f ⟨g,I1,q1⟩=>?_)
 cases d with
 |true=>exact j pins f e g Q I1 q1
 |false=>exact k pins f e g Q I1 q1
end
def jb(K:PySem.W.Frag)(H:Hp)(a:Addr)(xs:List V):Prop:=
 Rd H a (.lst xs) \/
  ∃(o:Obj) (b:Array Value) (n:Nat),K.lookup a=some o/\o.cls=.type "list"/\o.dict=none/\o.data=.seq b n/\b.size<=sizeLine/\Vals xs b.toList
def pT(K:PySem.W.Frag)(H:Hp)(a:Addr)(xs:List V):Prop:=
 Rd H a (.tup xs) \/
  ∃(o:Obj) (b:Array Value) (n:Nat),K.lookup a=some o/\o.cls=.type "tuple"/\o.data=.seq b n/\b.size<=sizeLine/\Vals xs b.toList
noncomputable def J_:Value->Option V
 |.none=>some .non
 |.bool b=>some (.bl b)
 |.int i _=>some (.int i)
 |.str x _=>some (.str x)
 |.bytes b _=>some (.DZ b)
 |.float b _=>some (.flt b)
 |.ref a=>some (.ref a)
 |.type n=>some (.ty n)
 |_=>none
theorem RelV.abs{x:V}{u:Value}(r:RelV x u):J_ u=some x:=by
 cases x with
 |non=>cases r;rfl
 |bl _=>cases r;rfl
 |int _=>obtain⟨t,rfl⟩:=r;rfl
 |str _=>obtain⟨t,rfl⟩:=r;rfl
 |DZ _=>obtain⟨t,rfl⟩:=r;rfl
 |flt _=>obtain⟨t,rfl⟩:=r;rfl
 |ref _=>cases r;rfl
 |ty _=>cases r;rfl
theorem RelV.inj{x y:V}{u:Value}(r:RelV x u)(q:RelV y u):x=y:=Option.some.inj (r.abs.symm.trans q.abs)
theorem Vals.inj:∀{xs a:List V}{us:List Value},Vals xs us->Vals a us->xs=a
 |_,_,_,.nil,.nil=>rfl
 |_,_,_,.cons r t,.cons b c=>by rw[r.inj b,Vals.inj t c]
section
variable{X:Cx}{pins:List (Addr×Obj)}{σ:St}{H:Hp}{s:Shared}{a:Addr}{xs ys:List V}
theorem Inv.list(I:Inv X pins σ H s)(h:jb X.K H a xs):∃b:List Value,Vals xs b/\PlainL s.heap a b.toArray/\xs.length<=sizeLine:=by
 rcases h with h|⟨o,b,n,c,d,f,g,i,r⟩
 .obtain⟨z,b,n,r,e⟩:=h.ok I.hok
  exact⟨b,r,⟨_,n,e,rfl,rfl,rfl⟩,z⟩
 .refine⟨b.toList,r,⟨o,n,I.h_ a o c,d,f,by simpa using g⟩,?_⟩
  have e:=r.length;simp only[Array.length_toList]at e;omega
theorem Inv.tuple(I:Inv X pins σ H s)(h:pT X.K H a xs):∃b:List Value,Vals xs b/\IsTup s.heap a b.toArray/\xs.length<=sizeLine:=by
 rcases h with h|⟨o,b,n,c,d,f,g,r⟩
 .obtain⟨z,b,r,p⟩:=h.ok I.hok
  exact⟨b,r,p,z⟩
 .refine⟨b.toList,r,⟨o,I.h_ a o c,d,n,by simpa using f⟩,?_⟩
  have e:=r.length;simp only[Array.length_toList]at e;omega
theorem Inv.om(I:Inv X pins σ H s)(h:jb X.K H a xs)(h':jb X.K H a ys):xs=ys:=by
 obtain⟨c,r,⟨o,n,e,_,_,d⟩,_⟩:=I.list h;obtain⟨b,i,⟨j,k,f,_,_,g⟩,_⟩:=I.list h';rw[e]at f;cases f
 rw[d]at g;injection g with d1 _;have:c=b:=by simpa using congrArg Array.toList d1
 subst this;exact r.inj i
theorem Inv.ti(I:Inv X pins σ H s)(h:pT X.K H a xs)(h':pT X.K H a ys):xs=ys:=by
 obtain⟨c,r,⟨o,e,_,n,d⟩,_⟩:=I.tuple h;obtain⟨b,i,⟨j,f,_,k,g⟩,_⟩:=I.tuple h';rw[e]at f;cases f
 rw[d]at g;injection g with d1 _;have:c=b:=by simpa using congrArg Array.toList d1
 subst this;exact r.inj i
end
abbrev Cx.wish(X:Cx)(E:Value->Shared->Prop):Cx:={X with xe:=E}
abbrev Cx.uL(X:Cx):Cx:=X.wish λ_ _=>False
theorem Cx.Ok.wish{X:Cx}(ok:X.Ok)(E:Value->Shared->Prop):(X.wish E).Ok:=
 ⟨ok.mod,ok.kind,ok.glob,ok.blt,ok.above,ok.inj,ok.has,ok.cab,ok.hd,ok.frames,ok.Ie,ok.Ig,ok.bs,ok.AI,ok.uI,ok.uJ,ok.jo,ok.Bu⟩
theorem Cx.Ok.fW{X:Cx}{E:Value->Shared->Prop}(ok:(X.wish E).Ok):X.Ok:=
 ⟨ok.mod,ok.kind,ok.glob,ok.blt,ok.above,ok.inj,ok.has,ok.cab,ok.hd,ok.frames,ok.Ie,ok.Ig,ok.bs,ok.AI,ok.uI,ok.uJ,ok.jo,ok.Bu⟩
section
variable{X:Cx}{pins:List (Addr×Obj)}{σ:St}{H:Hp}{s:Shared}{E:Value->Shared->Prop}
theorem Inv.wish(I:Inv X pins σ H s)(E:Value->Shared->Prop):Inv (X.wish E) pins σ H s:=⟨I.ok.wish E,I.os,I.bare,I.base,I.loc,I.cell,I.free,I.fV,I.pin,I.hok,I.len⟩
theorem Inv.fW(I:Inv (X.wish E) pins σ H s):Inv X pins σ H s:=⟨I.ok.fW,I.os,I.bare,I.base,I.loc,I.cell,I.free,I.fV,I.pin,I.hok,I.len⟩
theorem SP.fW{D:Ends}{f:Flow}{c:Shared}(h:SP (X.wish E) pins D f c):SP X pins D f c:=by
 cases f with
 |next=>obtain⟨a,b,I,q⟩:=h;exact⟨a,b,I.fW,q⟩
 |brk=>obtain⟨a,b,I,q⟩:=h;exact⟨a,b,I.fW,q⟩
 |cont=>obtain⟨a,b,I,q⟩:=h;exact⟨a,b,I.fW,q⟩
 |ret u=>obtain⟨v,a,b,I,r,q⟩:=h;exact⟨v,a,b,I.fW,r,q⟩
theorem ja.uL{st:List Stmt}{t:TS}(h:ja X.uL st t):ja X st t:=λpins s a H D I b=>
 wpAny_mono (h pins s a H D (I.wish _) b) (λ_ _ q=>q.fW) λ_ _ z=>False.elim z
end
section
variable{X:Cx}{st:Stmt}{rest:List Stmt}{t u:TS}{e:Expr}{te:TE}{pos:Pos}
noncomputable def Ey:TS:=λD a H=>D.nx a H
noncomputable def Ka(t u:TS):TS:=λD a H=>t {D with nx:=u D} a H
theorem xP:ja X [] Ey:=λ_ _ a H _ I h=>wpAny_execs_nil ⟨a,H,I,h⟩
theorem uM(b:PS X st t)(c:ja X rest u):ja X (st::rest) (Ka t u):=by
 intro pins s d H D I h;refine wpAny_execs_cons (cC (b pins s d H {D with nx:=u D} I h) λf e q=>?_)
 cases f with
 |next=>
  obtain⟨a,g,i,q⟩:=q;exact c pins e a g D i q
 |ret v=>exact q
 |brk=>exact q
 |cont=>exact q
theorem Inv.quiet{pins:List (Addr×Obj)}{a:St}{H:Hp}{s:Shared}(I:Inv X pins a H s):interactive X.env=false:=by simp[interactive,I.ok.kind]
noncomputable def Ez(b:TE):TS:=λD a H=>b a H λ_ c=>D.nx a c
theorem xQ(b:PE X e te)(c:swapsWith e none pos.line X.env=pure false:=by rfl):PS X (.Expr e pos) (Ez te):=by
 intro pins s a H D I h;exact wpAny_Expr_any (cC (b pins s a H _ I h) λv d ⟨x,H1,I1,r1,q1⟩=>⟨a,H1,I1,q1⟩) I.quiet c
noncomputable def Kb(a:TE):TS:=λD b H=>a b H D.rt
theorem BB(b:PE X e te):PS X (.Return (some e) pos) (Kb te):=by
 intro pins s a H D I h;exact wpAny_Return_some (cC (b pins s a H _ I h) λv c ⟨x,H1,I1,r1,q1⟩=>⟨x,a,H1,I1,r1,q1⟩)
noncomputable def Kc(c:TT)(t u:TS):TS:=λD a H=>c a H λb d=>if b=true then t D a d else u D a d
theorem EA{c:Expr}{a b:List Stmt}{f:TT}(j:PT X c f)(k:ja X a t)(l:ja X b u):PS X (.If c a b pos) (Kc f t u):=by
 intro pins s e H D I h;refine wpAny_If (cC (j pins s e H _ I h) λd g ⟨i,I1,q1⟩=>?_)
 cases d with
 |true=>exact k pins g e i D I1 q1
 |false=>exact l pins g e i D I1 q1
end
abbrev TG:=V->St->Hp->(St->Hp->Prop)->Prop
abbrev AJ:=List V->St->Hp->(St->Hp->Prop)->Prop
def PG(X:Cx)(a:Expr)(t:TG):Prop:=
 ∀(pins:List (Addr×Obj)) (s:Shared) (c:St) (H:Hp) (v:V) (u:Value) (Q:St->Hp->Prop),Inv X pins c H s->RelV v u->t v c H Q ->
  wpAny (model X.prog X.w) X.A (assign a X.env u) (λ_ e=>∃b d,Inv X pins b d e/\Q b d) X.xe s
def EB(X:Cx)(f:List Expr)(t:AJ):Prop:=
 ∀(pins:List (Addr×Obj)) (s:Shared) (b:St) (H:Hp) (c:List V) (d:List Value) (Q:St->Hp->Prop),Inv X pins b H s->Vals c d->t c b H Q ->
  wpAny (model X.prog X.w) X.A (assignInOrder ((assignEach f X.env).map (·.2)) d) (λ_ g=>∃a e,Inv X pins a e g/\Q a e) X.xe s
section
variable{X:Cx}{pos:Pos}
noncomputable def gN(i:Nat):TG:=λv a H Q=>Q (a.set i (some v)) H
theorem mM{i:Nat}{x:Str}(a:X.N.Nodup)(b:X.N[i]?=some x)(c:Loc X.env.scope x)(d:X.fn x=true\/X.env.scope.names.lookup x=some .local:=by first|exact .inl rfl|exact .inr rfl|assumption):PG X (.Name x pos) (gN i):=by
 intro pins s f H v u Q I r h;exact wpAny_assign_Name (oj I a b c r (λg e=>⟨_,H,e,h⟩) d)
noncomputable def EC:AJ:=λa b H Q=>a=[]/\Q b H
noncomputable def AK(t:TG)(u:AJ):AJ:=λb c H Q=>∃v r,b=v::r/\t v c H λa d=>u r a d Q
theorem xR:EB X [] EC:=by
 intro pins s a H b c Q I r h;obtain⟨e,h⟩:=h;subst e;cases r;exact assignInOrder_nil ⟨a,H,I,h⟩
theorem uN{e:Expr}{es:List Expr}{t:TG}{u:AJ}(b:PG X e t)(c:EB X es u)
  (d:(assignEach (e::es) X.env).map (·.2)=assign e X.env::(assignEach es X.env).map (·.2):=by rfl):EB X (e::es) (AK t u):=by
 intro pins s f H k l Q I r h;obtain⟨v,vr,g,h⟩:=h;subst g;cases r with
 |cons r i=>
  rw[d];refine assignInOrder_cons (cC (b pins s f H _ _ _ I r h) λ_ j ⟨a,H1,I1,q1⟩=>?_)
  exact c pins j a H1 _ _ Q I1 i q1
noncomputable def xS(K:PySem.W.Frag)(n:Nat)(t:AJ):TG:=λv c H Q=>∃a b,v=.ref a/\pT K H a b/\b.length=n/\t b c H Q
theorem BC{es:List Expr}{k:Nat}{t:AJ}{n:Nat}(i:X.calm=true)(h:EB X es t)
  (j:(assignEach es X.env).length=n:=by rfl) (c:(assignEach es X.env).findIdx? (·.1)=none:=by rfl):PG X (.Tuple es k pos) (xS X.K n t):=by
 intro pins s f H v u Q I r d;obtain⟨a,l,m,p,q,d⟩:=d;subst m;cases r;obtain⟨w,g,x,B⟩:=I.tuple p;refine assign_Tuple_tuple (I.ok.hd i) x (by simp[j,←q,g.length]) c λy z=>?_
 have A:Inv X pins f H {s with heap:=y}:=I.kept (t':=s.toks) λb o e=>z b o (Nat.ne_of_lt (Heap.lt_size e)) e
 exact h pins _ f H l _ Q A (by simpa using g) d
noncomputable def BD(b:TE)(g:TG):TS:=λD a H=>b a H λx c=>g x a c D.nx
theorem BE{a e:Expr}{b:TE}{g:TG}(d:PE X e b)(f:PG X a g)(i:swapsWithSole [a] e pos.line X.env=pure false:=by rfl)(j:swappedStores [a] e X.env=pure none:=by rfl)
  (k:(assignEach [a] X.env).map (·.2)=[assign a X.env]:=by rfl):PS X (.Assign [a] e pos) (BD b g):=by
 intro pins s c H D I h;refine wpAny_Assign_stores (cC (d pins s c H _ I h) λv l ⟨x,H1,I1,r1,q1⟩=>?_) i j
 rw[k];exact cC (f pins l c H1 x v _ I1 r1 q1) λ_ m q=>q
theorem BF{i:Nat}{x:Str}{e:Expr}{b:TE}{a:Pos}(c:X.N.Nodup)(d:X.N[i]?=some x)(f:Loc X.env.scope x)(g:PE X e b)(j:swapsWith e (some (.Name x a)) pos.line X.env=pure false:=by rfl)(k:X.fn x=true\/X.env.scope.names.lookup x=some .local:=by first|exact .inl rfl|exact .inr rfl|assumption) :
  PS X (.Assign [.Name x a] e pos) (BD b (gN i)):=by
 intro pins s l H D I h;refine wpAny_Assign_Name (cC (g pins s l H _ I h) λv r ⟨y,m,n,o,p⟩=>?_) j
 exact oj n c d f o (λt q=>⟨_,m,q,p⟩) k
noncomputable def BG(c:TT)(tb:TS):TS:=λD a H=>∃W:Nat->St->Hp->Prop,(∃m,W m a H)/\∀m a H,W m a H ->
 c a H λb e=>if b=true then ∃N:St->Hp->Prop,(∀d f,N d f->∃g,g<m/\W g d f)/\tb {D with nx:=N,ct:=N,bk:=D.nx} a e else D.nx a e
theorem uO{c:Expr}{body:List Stmt}{r:TT}{tb:TS}(t:PassesOwn (model X.prog X.w) X.A X.env X.xe)(B:PT X c r)(C:ja X body tb):PS X (.While c body [] pos) (BG r tb):=by
 intro pins s E H D I h;obtain⟨W,⟨F,G⟩,e⟩:=h;refine wpAny_While (codeAny_whileLoop (λn J=>∃g u,Inv X pins g u J/\W n g u) ?_ F ⟨E,H,I,G⟩)
 rintro n K ⟨d,x,L,M⟩;refine wpAny_passesOwn t (cC (B pins K d x _ L (e n d x M)) λb O ⟨y,I2,j⟩=>?_)
 cases b with
 |true=>
  obtain⟨N,z,j⟩:=j;rw[if_pos rfl];refine wpAny_passesOwn t (cC (C pins O d y _ I2 j) λf P k=>?_)
  cases f with
  |next=>
   obtain⟨a,i,l,m⟩:=k;obtain⟨o,p,q⟩:=z a i m;exact⟨o,p,a,i,l,q⟩
  |cont=>
   obtain⟨a,i,l,m⟩:=k;obtain⟨o,p,q⟩:=z a i m;exact⟨o,p,a,i,l,q⟩
  |brk=>exact k
  |ret v=>exact k
 |false=>
  rw[if_neg Bool.false_ne_true];exact wpAny_execs_nil ⟨d,y,I2,j⟩
end
structure It where
 go:Nat->Hp->Prop
 Ii:Nat->Hp->V->Hp->Prop
 stop:Nat->Hp->Prop
def lE(X:Cx)(pins:List (Addr×Obj))(H:Hp)(b:Addr):Prop:=
 H b=none/\b≠X.env.locals/\b∉X.fs/\(b∈X.ex\/X.s₀.heap.objs.size<=b)/\(∀x c,X.env.cells.lookup x=some c->c≠b)/\∀p∈X.pn++pins,p.1≠b
theorem Inv.uP{X:Cx}{pins:List (Addr×Obj)}{f:St}{H d:Hp}{s:Shared}{b:Addr}(I:Inv X pins f H s)(a:s.heap.objs.size<=b)(g:d b=none):lE X pins d b:=by
 refine⟨g,Nat.ne_of_gt (Nat.lt_of_lt_of_le I.lt a),I.JY a,.inr (Nat.le_trans I.sz a),λx c e z=>?_,λp h z=>?_⟩
 .obtain⟨v,q⟩:=I.cell x c e
  exact absurd (Nat.lt_of_lt_of_le q.lt (by rw[z];exact a)) (Nat.lt_irrefl _)
 .exact absurd (Nat.lt_of_lt_of_le (Heap.lt_size (I.pin p h).1) (by rw[z];exact a)) (Nat.lt_irrefl _)
structure Turn(P:Program)(w:World)(K:PySem.W.Frag)(tg:Expr)(J:It)(fp:List Addr)(it:Addr)(tn:Nat->Heap->Prop):Prop where
 mem:it∈fp
 obj:∀i h,tn i h->∀b∈fp,∃o,h.get? b=some o/\∀v,o.data≠.cell v
 keep:∀i h h',tn i h->(∀b∈fp,∀o,h.get? b=some o->h'.get? b=some o)->tn i h'
 item:∀(X:Cx),X.prog=P->X.w=w->X.K=K->X.calm=true->∀(i:Nat) (pins:List (Addr×Obj)) (s:Shared) (σ:St) (H:Hp) (E:Value->Shared->Prop),Inv X pins σ H s->(∀b∈fp,lE X pins H b)->tn i s.heap->J.go i H ->
  wpAny (model P w) X.A (pyNext (.ref it)) (λr s1=>∃u,r=some u /\
   wpAny (model P w) X.A (letOwnedTupleGo tg (.ref it) u) (λ_ s2=>∃x H',Inv X pins σ H' s2/\RelV x u/\J.Ii i H x H'/\tn (i+1) s2.heap/\∀b∈fp,H' b=none) E s1) E s
 done:∀(X:Cx),X.prog=P->X.w=w->X.K=K->X.calm=true->∀(i:Nat) (pins:List (Addr×Obj)) (s:Shared) (σ:St) (H:Hp) (E:Value->Shared->Prop),Inv X pins σ H s->(∀b∈fp,lE X pins H b)->tn i s.heap->J.stop i H ->
  wpAny (model P w) X.A (pyNext (.ref it)) (λr s1=>r=none/\Inv X pins σ H s1) E s
 self:∀(A:Around) (i:Nat) (s:Shared) (Q:Value->Shared->Prop) (E:Value->Shared->Prop),tn i s.heap->Q (.ref it) s->wpAny (model P w) A (pyIter (.ref it)) Q E s
abbrev TI:=St->Hp->(It->Hp->Prop)->Prop
def PIE(X:Cx)(pins:List (Addr×Obj))(h:St)(i:Expr)(R:It->Hp->Prop)(a:Value)(d:Shared):Prop:=
 ∃(e:Addr) (f:List Addr) (g:Nat->Heap->Prop) (J:It) (c:Hp),a=.ref e/\Inv X pins h c d/\Turn X.prog X.w X.K i J f e g/\g 0 d.heap/\(∀b∈f,lE X pins c b)/\R J c
def PI(X:Cx)(b iter:Expr)(c:TI):Prop:=
 ∀(pins:List (Addr×Obj)) (s:Shared) (a:St) (H:Hp) (R:It->Hp->Prop),Inv X pins a H s->c a H R ->
  wpAny (model X.prog X.w) X.A (eval iter X.env) (λv d=>wpAny (model X.prog X.w) X.A (pyIter v) (PIE X pins a b R) X.xe d) X.xe s
theorem oo{M:Model}{A:Around}{E:Value->Shared->Prop}{s:Shared}{b:Expr}{it:Addr}{u:Value}{o:Obj}{n:String}{vs:Array Value}{Q:Unit->Shared->Prop}(c:s.heap.get? it=some o)(d:o.cls=.type n)(e:o.data=.fields vs)
    (f:["enumerate","zip","dict_itemiterator","dict_reverseitemiterator","odict_iterator","itertools.zip_longest","itertools.pairwise"].contains n=false) (a:Q () s):wpAny M A (letOwnedTupleGo b (.ref it) u) Q E s:=by
  unfold letOwnedTupleGo
  cases b<;>first
    |exact wpAny_pure a
    | (cases u<;>first
        |exact wpAny_pure a
        | (refine wpAny_bind (wpAny_load c ?_)
           rw[d,e]
           show wpAny M A (if (["enumerate","zip","dict_itemiterator","dict_reverseitemiterator","odict_iterator","itertools.zip_longest","itertools.pairwise"].contains n&&vs[0]?==some (rawInt _))=true then _ else _) Q E s
           rw[if_neg (by intro h;rw[f,Bool.false_and]at h;cases h)]
           exact wpAny_pure a))
noncomputable def Kd(K:PySem.W.Frag)(a:Addr):It:=
 ⟨λi H=>∃b x,jb K H a b/\b[i]?=some x,λi H x c=>c=H/\∀b,jb K H a b->b[i]?=some x,λi H=>∃b,jb K H a b/\b.length<=i⟩
noncomputable def Ke(K:PySem.W.Frag)(a:Addr):It:=
 ⟨λi H=>∃b x,pT K H a b/\b[i]?=some x,λi H x c=>c=H/\∀b,pT K H a b->b[i]?=some x,λi H=>∃b,pT K H a b/\b.length<=i⟩
noncomputable def ED(a:Int)(n:Nat):It:=⟨λi _=>i<n,λi H x b=>b=H/\x=.int (a+i),λi _=>n<=i⟩
theorem tj{P:Program}{w:World}{K:PySem.W.Frag}{O:Expr}(a it:Addr):Turn P w K O (Kd K a) [it] it (λi h=>h.IsListIter it a i) where
 mem:=by simp
 obj:=λi h f b g=>by
  have e:b=it:=by simpa using g
  subst e;obtain⟨o,e,c,d⟩:=f;exact⟨o,e,λv z=>by rw[d]at z;cases z⟩
 keep:=λi h l f k=>f.at λo e=>k it (by simp) o e
 item:=by
  intro X q r t M i pins s N H E I m f y;subst q r t;obtain⟨Q,x,n,A⟩:=y;obtain⟨B,C,p,R⟩:=I.list n;obtain⟨u,S,T⟩:=C.get A;obtain⟨D,F,U,G,J,L⟩:=m it (by simp)
  refine wpAny_pyNext_list_item f p.isList (x:=u) (by simpa using S) λl j V=>?_
  have Y:Inv X pins N H {s with heap:=l}:=I.turned (t':=s.toks) (λb o g e=>(V.2 b g).trans e) D F G J L
  obtain⟨o,e,c,d⟩:=id j;exact⟨u,rfl,oo (s:={s with heap:=l}) e c d (by decide) ⟨x,H,Y,T,⟨rfl,λys Z=>by rw[I.om Z n];exact A⟩,j,λb g=>(m b g).1⟩⟩
 done:=by
  intro X q r t M i pins s N H E I m f y;subst q r t;obtain⟨Q,n,A⟩:=y;obtain⟨B,C,p,R⟩:=I.list n;obtain⟨D,F,U,G,J,L⟩:=m it (by simp)
  have hl:=C.length;exact wpAny_pyNext_list_end (I.ok.hd M) f p.isList (by simp;omega) λl eb=>⟨rfl,I.turned (t':=s.toks) (λb o g e=>eb b o g e) D F G J L⟩
 self:=λ_ _ _ _ _ f h=>wpAny_pyIter_listiter f h
theorem pU{P:Program}{w:World}{K:PySem.W.Frag}{O:Expr}(a it:Addr):Turn P w K O (Ke K a) [it] it (λi h=>h.IsTupleIter it a i) where
 mem:=by simp
 obj:=λi h f b g=>by
  have e:b=it:=by simpa using g
  subst e;obtain⟨o,e,c,d⟩:=f;exact⟨o,e,λv z=>by rw[d]at z;cases z⟩
 keep:=λi h m f k=>f.at λo e=>k it (by simp) o e
 item:=by
  intro X r t y M i pins s N H E I n f A;subst r t y;obtain⟨Q,x,q,B⟩:=A;obtain⟨j,C,p,R⟩:=I.tuple q;obtain⟨u,S,T⟩:=C.get B;obtain⟨D,F,U,G,J,L⟩:=n it (by simp)
  refine wpAny_pyNext_tuple_item f (show s.heap.IsTuple a j.toArray from p) (x:=u) (by simpa using S) λm l V=>?_
  have Y:Inv X pins N H {s with heap:=m}:=I.turned (t':=s.toks) (λb o g e=>(V.2 b g).trans e) D F G J L
  obtain⟨o,e,c,d⟩:=id l;exact⟨u,rfl,oo (s:={s with heap:=m}) e c d (by decide) ⟨x,H,Y,T,⟨rfl,λys Z=>by rw[I.ti Z q];exact B⟩,l,λb g=>(n b g).1⟩⟩
 done:=by
  intro X r t y M i pins s N H E I n f A;subst r t y;obtain⟨Q,q,B⟩:=A;obtain⟨j,C,p,R⟩:=I.tuple q;obtain⟨D,F,U,G,J,L⟩:=n it (by simp)
  have hl:=C.length;exact wpAny_pyNext_tuple_end (I.ok.hd M) f (show s.heap.IsTuple a j.toArray from p) (by simp;omega) λm eb=>⟨rfl,I.turned (t':=s.toks) (λb o g e=>eb b o g e) D F G J L⟩
 self:=λ_ _ _ _ _ f h=>wpAny_pyIter_tupleiter f h
theorem pV{P:Program}{w:World}{K:PySem.W.Frag}{F:Expr}(it:Addr)(f:Int)(n:Nat):Turn P w K F (ED f n) [it] it (λi h=>IsRangeIter h it (f+(i:Nat)*1) ((n:Int) - (i:Nat)) 1) where
 mem:=by simp
 obj:=λi h a b c=>by
  have e:b=it:=by simpa using c
  subst e
  exact⟨_,a,λv z=>by
   have G:Data.fields _=Data.cell v:=z;cases G⟩
 keep:=λi h g a k=>k it (by simp) _ a
 item:=by
  intro X l m p q i pins s C H E I j a r;subst l m p;obtain⟨u,x,J,y,A,B⟩:=j it (by simp)
  have W:=Walks.range (prog:=X.prog) (w:=X.w) (I.ok.hd q) it f 1 n;refine W.item i s _ _ r a λv g D L d M=>?_
  obtain⟨t,rfl⟩:=L;have N:Inv X pins C H {s with heap:=g,toks:=D}:=I.turned (λb o c e=>M b o (by simpa using c) e) u x y A B
  refine⟨_,rfl,oo (s:={s with heap:=g,toks:=D}) (n:="range_iterator") d rfl rfl (by decide) ⟨.int (f+i),H,N,⟨t,?_⟩,⟨rfl,rfl⟩,d,λb c=>(j b c).1⟩⟩
  rw[Int.mul_one]
 done:=by
  intro X l m p q i pins s C H E I j a r;subst l m p;obtain⟨u,x,J,y,A,B⟩:=j it (by simp)
  exact wpAny_pyNext_range_end (I.ok.hd q) a (by have:n<=i:=r;omega) λg O=>⟨rfl,I.turned (t':=s.toks) (λb o c e=>O b o c e) u x y A B⟩
 self:=λ_ _ _ _ _ a h=>wpAny_pyIter_rangeiter a h
section
variable{X:Cx}{tg:Expr}
theorem uQ{pins:List (Addr×Obj)}{d:St}{H:Hp}{s:Shared}{R:It->Hp->Prop}{E:Value->Shared->Prop}{a c:Int}{t u v:Tok}{f:Nat}(I:Inv X pins d H s)(h : -(2 ^ 62)<=a)(i:a<2 ^ 62)(j : -(2 ^ 62)<=c)(k:c<2 ^ 62)
  (q:R (ED a (c - a).toNat) H):wpAny (model X.prog X.w) X.A (pyIter (.ref s.heap.objs.size)) (PIE X pins d tg R) E {s with heap:=s.heap.push {cls:=.type "range",data:=.fields #[.int a t,.int c u,.int 1 v]},toks:=f}:=by
 refine wpAny_pyIter_range (IsRange.new ..) (small_one h i j k) ?_;have g:Inv X pins d H {s with heap:=s.heap.push {cls:=.type "range",data:=.fields #[.int a t,.int c u,.int 1 v]},toks:=f}:=I.kept λb o e=>Heap.get?_push_of_some _ e
 refine⟨(s.heap.push {cls:=.type "range",data:=.fields #[.int a t,.int c u,.int 1 v]}).objs.size,[(s.heap.push {cls:=.type "range",data:=.fields #[.int a t,.int c u,.int 1 v]}).objs.size],_,_,H,rfl,
  g.kept (t':=f) λb o e=>Heap.get?_push_of_some _ e,pV _ a (c - a).toNat,?_,λb l=>?_,q⟩
 .have m:a+((0:Nat):Int)*1=a:=by simp
  have n:(((c - a).toNat:Nat):Int) - ((0:Nat):Int)=Builtin.Range.rangeSize a c 1:=by rw[rangeSize_one];split<;>omega
  show IsRangeIter _ _ (a+((0:Nat):Int)*1) ((((c - a).toNat:Nat):Int) - ((0:Nat):Int)) 1
  rw[m,n];exact Heap.get?_push_size _ rfl
 .have e:b=(s.heap.push {cls:=.type "range",data:=.fields #[.int a t,.int c u,.int 1 v]}).objs.size:=by simpa using l
  subst e;exact g.uP (Nat.le_refl _) (g.hok.fresh (Nat.le_refl _))
def EE(a:TA):TI:=λb H R=>a b H λc d=>∃j:Int,c=[.int j] /\ -(2 ^ 62)<=j/\j<2 ^ 62/\R (ED 0 j.toNat) d
theorem tm{a:Expr}{c:TA}{p pos:Pos}(d:Gl X "range")(f:X.mg "range"=none)(g:PA X [a] c)(i:starEach [a] X.env=[(false,eval a X.env)]:=by rfl):PI X tg (.Call (.Name "range" p) [a] [] pos) (EE c):=by
 intro pins s k H R I h;refine Call_ (jY I d f boot_range (PyProof.Rows.callWith_type1 (cC (g pos pins s k H _ I h) λo u ⟨w,H1,I1,l,b⟩=>?_) i rfl))
 obtain⟨j,e,b,m,q⟩:=b;subst e;cases l with
 |cons r n=>
  cases n;obtain⟨t,rfl⟩:=r;exact call_range_1 (uQ I1 (by omega) (by omega) b m (by simpa using q))
noncomputable def Kf(f:TI)(g:TG)(tb:TS):TS:=λD a H=>f a H λJ h=>∃W:Nat->Nat->St->Hp->Prop,(∃m,W 0 m a h)/\∀i m a H,W i m a H ->
 (J.stop i H/\D.nx a H)\/(J.go i H/\∃N:St->Hp->Prop,(∀b c,N b c->∃e,e<m/\W (i+1) e b c)/\∀x c,J.Ii i H x c->g x a c λd j=>tb {D with nx:=N,ct:=N,bk:=D.nx} d j)
noncomputable def jZ(fp:List Addr)(h:Heap):List (Addr×Obj):=fp.filterMap λb=>(h.get? b).map λo=>(b,o)
theorem fy{fp:List Addr}{h:Heap}{b:Addr}{o:Obj}(a:b∈fp)(e:h.get? b=some o):(b,o)∈jZ fp h:=List.mem_filterMap.mpr ⟨b,a,by rw[e];rfl⟩
theorem tp{fp:List Addr}{h:Heap}{p:Addr×Obj}(a:p∈jZ fp h):p.1∈fp/\h.get? p.1=some p.2:=by
 obtain⟨b,c,e⟩:=List.mem_filterMap.mp a;cases q:h.get? b with
 |none=>rw[q]at e;cases e
 |some o=>
  rw[q]at e;have d:(b,o)=p:=Option.some.inj e;subst d;exact⟨c,q⟩
theorem Inv.pinned{pins:List (Addr×Obj)}{a:St}{H:Hp}{s:Shared}{fp:List Addr}(I:Inv X pins a H s)(g:∀b∈fp,lE X pins H b)(h:∀b∈fp,∃o,s.heap.get? b=some o/\∀v,o.data≠.cell v):Inv X (pins++jZ fp s.heap) a H s:=
 I.rn λp i=>(List.mem_append.mp i).elim (λz=>I.pin p (List.mem_append_right _ z)) λz=>by
  obtain⟨c,e⟩:=tp z;obtain⟨j,k,l,_⟩:=g p.1 c;obtain⟨o,f,d⟩:=h p.1 c;rw[e]at f;cases f
  exact⟨e,j,k,l,d⟩
theorem Inv.ib{pins pl:List (Addr×Obj)}{a:St}{H:Hp}{s:Shared}(I:Inv X (pins++pl) a H s):Inv X pins a H s:=I.rn λp b=>I.pin p (List.mem_append_right _ (List.mem_append_left _ b))
theorem BH{iter:Expr}{body:List Stmt}{R:TI}{g:TG}{tb:TS}{pos:Pos}(z:PassesOwn (model X.prog X.w) X.A X.env X.xe)(S:X.calm=true)(hi:PI X tg iter R)(hg:PG X tg g)(c:ja X body tb)
  (hs:∀x,foldedSetIterable iter X.env x=pure x:=by intro _;rfl):PS X (.For tg iter body [] pos) (Kf R g tb):=by
 intro pins s U H D I h;refine wpAny_For (cC (hi pins s U H _ I h) λv s1 h1=>cC h1 λa0 s2 h2=>?_) hs
 obtain⟨it,B,V,J,H2,e,I2,T,L,Y,W,⟨m0,w0⟩,C⟩:=h2;subst e;have j:∀{t:Hp},(∀b∈B,t b=none)->∀b∈B,lE X pins t b:=λhn b c=>⟨hn b c,(Y b c).2⟩
 refine codeAny_forLoop_any (λn Z=>∃i k t,Inv X pins k t Z/\V i Z.heap/\(∀b∈B,t b=none)/\W i n k t) ?_ m0 ⟨0,U,H2,I2,L,λb c=>(Y b c).1,w0⟩
 rintro n s3 ⟨i,l,K,I3,E,F,w3⟩;rcases C i n l K w3 with ⟨stop,qn⟩|⟨go,N,hN,step⟩
 .refine wpAny_passesOwn z (cC (T.done X rfl rfl rfl S i pins s3 l K X.xe I3 (j F) E stop) λr s4 ⟨M,I4⟩=>?_)
  subst M;exact wpAny_execs_nil ⟨l,K,I4,qn⟩
 .refine wpAny_passesOwn z (cC (T.item X rfl rfl rfl S i pins s3 l K X.xe I3 (j F) E go) λr s4 ⟨u,M,h4⟩=>?_)
  subst M;refine wpAny_passesOwn z (cC h4 λ_ s5 ⟨x,H5,I5,r5,y5,Kg,Qw⟩=>?_)
  have O:=I5.pinned (j Qw) (T.obj _ _ Kg);refine wpAny_passesOwn z (cC (hg _ s5 l H5 x u _ O r5 (step x H5 y5)) λ_ s6 ⟨P,H6,I6,q6⟩=>?_)
  refine wpAny_passesOwn z (cC (c _ s6 P H6 _ I6 q6) λf Q y=>?_)
  have again:∀{a:St}{p:Hp},Inv X (pins++jZ B s5.heap) a p Q->N a p->∃m,m<n/\∃i k t,Inv X pins k t Q/\V i Q.heap/\(∀b∈B,t b=none)/\W i m k t:=λ{a p} q G=>by
   obtain⟨m',hm,w7⟩:=hN a p G;refine⟨m',hm,i+1,a,p,q.ib,T.keep _ _ _ Kg λb c o e=>(q.pin (b,o) (List.mem_append_right _ (List.mem_append_right _ (fy c e)))).1,λb c=>?_,w7⟩
   obtain⟨o,e,d⟩:=T.obj _ _ Kg b c;exact(q.pin (b,o) (List.mem_append_right _ (List.mem_append_right _ (fy c e)))).2.1
  cases f with
  |next=>obtain⟨a,p,q,G⟩:=y;exact again q G
  |cont=>obtain⟨a,p,q,G⟩:=y;exact again q G
  |brk=>obtain⟨a,p,q,y⟩:=y;exact⟨a,p,q.ib,y⟩
  |ret v=>obtain⟨x7,a,p,q,r7,y⟩:=y;exact⟨x7,a,p,q.ib,r7,y⟩
end
abbrev R2:=V->V->Hp->VK->Prop
def fX(X:Cx)(f:Value->Value->Sem Value)(r:R2):Prop:=
 ∀(pins:List (Addr×Obj)) (s:Shared) (a:St) (H:Hp) (x y:V) (v u:Value) (Q:VK),Inv X pins a H s->RelV x v->RelV y u->r x y H Q ->
  wpAny (model X.prog X.w) X.A (f v u) (EP X pins a Q) X.xe s
def Kh(X:Cx)(f:Value->Sem Value)(r:V->Hp->VK->Prop):Prop:=
 ∀(pins:List (Addr×Obj)) (s:Shared) (a:St) (H:Hp) (x:V) (v:Value) (Q:VK),Inv X pins a H s->RelV x v->r x H Q ->
  wpAny (model X.prog X.w) X.A (f v) (EP X pins a Q) X.xe s
def ee(X:Cx)(f:Value)(r:List V->Hp->VK->Prop):Prop:=
 ∀(pins:List (Addr×Obj)) (s:Shared) (a:St) (H:Hp) (b:List V) (c:List Value) (Q:VK),Inv X pins a H s->Vals b c->r b H Q ->
  wpAny (model X.prog X.w) X.A (call f c) (EP X pins a Q) X.xe s
def Ki(X:Cx)(r:V->Hp->(Bool->Hp->Prop)->Prop):Prop:=
 ∀(pins:List (Addr×Obj)) (s:Shared) (a:St) (H:Hp) (x:V) (v:Value) (Q:Bool->Hp->Prop),Inv X pins a H s->RelV x v->r x H Q ->
  wpAny (model X.prog X.w) X.A (truthy v) (TP X pins a Q) X.xe s
noncomputable def AL(r:R2)(b tb:TE):TE:=λa H Q=>b a H λx c=>tb a c λy d=>r x y d Q
noncomputable def Qx(r:V->Hp->VK->Prop)(a:TE):TE:=λb H Q=>a b H λx c=>r x c Q
noncomputable def rI(C:Int->Int->Prop)(g:Int->Int->V):R2:=λx y H Q=>∃i j,x=.int i/\y=.int j/\C i j/\Q (g i j) H
noncomputable def xT(g:Int->Int->V):R2:=λx y H Q=>∃i j,x=.int i/\y=.int j/\Q (g i j) H
def rU(g:Int->V):V->Hp->VK->Prop:=λx H Q=>∃i,x=.int i/\Q (g i) H
section
variable{X:Cx}{a b c:Expr}{ta tb tc:TE}{pos:Pos}
theorem BI(k:PE X a ta)(l:PE X b tb){pins:List (Addr×Obj)}{s:Shared}{c:St}{H:Hp}{R:V->V->Hp->Prop}(I:Inv X pins c H s)
  (h:ta c H λx j=>tb c j λy d=>R x y d) {Q:Value->Shared->Prop}{f:Value->Value->Sem Value}
  (m:∀v u i x y d,Inv X pins c d i->RelV x v->RelV y u->R x y d->wpAny (model X.prog X.w) X.A (f v u) Q X.xe i) :
  wpAny (model X.prog X.w) X.A (eval a X.env) (λv e=>wpAny (model X.prog X.w) X.A (eval b X.env) (λu g=>wpAny (model X.prog X.w) X.A (f v u) Q X.xe g) X.xe e) X.xe s:=by
 refine cC (k pins s c H _ I h) λv n ⟨x,j,I1,r1,q1⟩=>?_
 refine cC (l pins n c j _ I1 q1) λu i ⟨y,d,I2,r2,q2⟩=>?_
 exact m v u i x y d I2 r1 r2 q2
theorem AN{op:Operator}{r:R2}(c:fX X (binaryOp op) r)(d:PE X a ta)(e:PE X b tb):PE X (.BinOp a op b pos) (AL r ta tb):=by
 intro pins s f H Q I h;exact wpAny_BinOp (BI d e I h λv u g x y i j k l q=>c pins g f i x y v u Q j k l q)
theorem EG{op:UnaryOp}{r:V->Hp->VK->Prop}(c:Kh X (unaryOp op) r)(d:PE X a ta):PE X (.UnaryOp op a pos) (Qx r ta):=by
 intro pins s b H Q I h;exact UnaryOp_ (cC (d pins s b H _ I h) λv e ⟨x,H1,I1,r1,q1⟩=>c pins e b H1 x v Q I1 r1 q1)
theorem Ij{f:Value->Value->Sem Value}{C:Int->Int->Prop}{g:Int->Int->Int}
  (rule:∀(i j:Int) (t u:Tok) (s:Shared) (Q:Value->Shared->Prop) (E:Value->Shared->Prop),C i j->Q (.int (g i j) s.toks) {s with toks:=s.toks+1}->wpAny (model X.prog X.w) X.A (f (.int i t) (.int j u)) Q E s) :
  fX X f (rI C λi j=>.int (g i j)):=by
 intro pins s e H x y v u Q I a b h;obtain⟨i,j,rfl,rfl,c,q⟩:=h;obtain⟨t,rfl⟩:=a;obtain⟨d,rfl⟩:=b;exact rule i j t d s _ _ c ⟨.int (g i j),H,I.tok _,⟨_,rfl⟩,q⟩
theorem EH{f:Value->Value->Sem Value}{g:Int->Int->Int}
  (rule:∀(i j:Int) (t u:Tok) (s:Shared) (Q:Value->Shared->Prop) (E:Value->Shared->Prop),Q (.int (g i j) s.toks) {s with toks:=s.toks+1}->wpAny (model X.prog X.w) X.A (f (.int i t) (.int j u)) Q E s) :
  fX X f (xT λi j=>.int (g i j)):=by
 intro pins s d H x y v u Q I a b h;obtain⟨i,j,rfl,rfl,q⟩:=h;obtain⟨t,rfl⟩:=a;obtain⟨c,rfl⟩:=b;exact rule i j t c s _ _ ⟨.int (g i j),H,I.tok _,⟨_,rfl⟩,q⟩
theorem xU{f:Value->Value->Sem Value}{g:Int->Int->Bool}
  (rule:∀(i j:Int) (t u:Tok) (s:Shared) (Q:Value->Shared->Prop) (E:Value->Shared->Prop),Q (.bool (g i j)) s->wpAny (model X.prog X.w) X.A (f (.int i t) (.int j u)) Q E s) :
  fX X f (xT λi j=>.bl (g i j)):=by
 intro pins s d H x y v u Q I a b h;obtain⟨i,j,rfl,rfl,q⟩:=h;obtain⟨t,rfl⟩:=a;obtain⟨c,rfl⟩:=b;exact rule i j t c s _ _ ⟨.bl (g i j),H,I,rfl,q⟩
def EI(i j:Int):Prop:=0<j/\j<1073741824
def EJ(i j:Int):Prop:=0<=j/\j<=1000000/\i.natAbs<2 ^ 64
def xV(i j:Int):Prop:=(-(2 ^ 64)<i/\i<2 ^ 64)\/(-(2 ^ 64)<j/\j<2 ^ 64)
theorem xV.ok{i j:Int}(h:xV i j):IntMulOk i j:=by
 rcases h with ⟨a,b⟩|⟨a,b⟩
 .exact .of_left (intBits_le_64 a b)
 .exact .of_right (intBits_le_64 a b)
theorem BJ:fX X (binaryOp .Add) (xT λi j=>.int (i+j)):=EH λ_ _ _ _ _ _ _ q=>add_int q
theorem BK:fX X (binaryOp .Sub) (xT λi j=>.int (i - j)):=EH λ_ _ _ _ _ _ _ q=>sub_int q
theorem BL:fX X (binaryOp .Mult) (rI xV λi j=>.int (i*j)):=Ij λ_ _ _ _ _ _ _ a q=>mul_int q a.ok
theorem xW:fX X (binaryOp .FloorDiv) (rI EI λi j=>.int (i / j)):=Ij λi j _ _ _ _ _ a q=>by
 have b:(0:Int)<j:=a.1;have c:j<1073741824:=a.2;exact floordiv_int (by omega) (by rw[Int.fdiv_eq_ediv_of_nonneg i (by omega)];exact q) (.inl (PyProof.noPylong_small (by omega)))
theorem BN:fX X (binaryOp .Mod) (rI (λ_ j=>0<j) λi j=>.int (i%j)):=Ij λi j _ _ _ _ _ a q=>by
 have b:(0:Int)<j:=a;exact mod_int' (by omega) (by rw[Int.fmod_eq_emod_of_nonneg i (by omega)];exact q)
theorem BO:fX X (binaryOp .Pow) (rI EJ λi j=>.int (i ^ j.toNat)):=Ij λ_ _ _ _ _ _ _ a q=>pow_int_small a.1 a.2.1 a.2.2 q
theorem Qy{f:Value->Sem Value}{g:Int->Int}
  (rule:∀(i:Int) (t:Tok) (s:Shared) (Q:Value->Shared->Prop) (E:Value->Shared->Prop),Q (.int (g i) s.toks) {s with toks:=s.toks+1}->wpAny (model X.prog X.w) X.A (f (.int i t)) Q E s) :
  Kh X f (rU λi=>.int (g i)):=by
 intro pins s b H x v Q I a h;obtain⟨i,rfl,q⟩:=h;obtain⟨t,rfl⟩:=a;exact rule i t s _ _ ⟨.int (g i),H,I.tok _,⟨_,rfl⟩,q⟩
theorem BP:Kh X (unaryOp .USub) (rU λi=>.int (-i)):=Qy λ_ _ _ _ _ q=>neg_int q
theorem mO{pins:List (Addr×Obj)}{a:St}{H:Hp}{s:Shared}{Q:VK}{k b:Bool}(I:Inv X pins a H s)(q:Q (.bl k) H)(e:k=b):EP X pins a Q (.bool b) s:=by
 subst e;exact⟨.bl k,H,I,rfl,q⟩
theorem EK:fX X (compareOp .Lt) (xT λi j=>.bl (decide (i<j))):=xU λ_ _ _ _ _ _ _ q=>lt_int q
theorem EL:fX X (compareOp .LtE) (xT λi j=>.bl (decide (i<=j))):=xU λ_ _ _ _ _ _ _ q=>le_int q
theorem EN:fX X (compareOp .Gt) (xT λi j=>.bl (decide (j<i))):=xU λ_ _ _ _ _ _ _ q=>gt_int q
theorem EO:fX X (compareOp .GtE) (xT λi j=>.bl (decide (j<=i))):=xU λ_ _ _ _ _ _ _ q=>ge_int q
theorem tq:fX X (compareOp .In) (λx y H Q=>∃i j,x=.str i/\y=.str j/\Q (.bl (!(Builtin.Str.occurrences j i 0 j.length 1).isEmpty)) H):=by
 intro pins s c H x y v u Q I a b h;obtain⟨i,j,rfl,rfl,q⟩:=h;obtain⟨t,rfl⟩:=a;obtain⟨d,rfl⟩:=b;exact in_str (mO I q rfl)
theorem uR:fX X (compareOp .Is) (λx y H Q=>y=.non/\Q (.bl (decide (x=.non))) H):=by
 intro pins s c H x y v u Q I a b h;obtain⟨rfl,q⟩:=h;cases b;refine is_none_gen (mO I q ?_)
 cases x<;>first
  | (cases a;rfl)
  | (obtain⟨t,rfl⟩:=a;rfl)
theorem ro:fX X (compareOp .IsNot) (λx y H Q=>y=.non/\Q (.bl (!decide (x=.non))) H):=by
 intro pins s c H x y v u Q I a b h;obtain⟨rfl,q⟩:=h;cases b;refine isnot_none_gen (mO I q ?_)
 cases x<;>first
  | (cases a;rfl)
  | (obtain⟨t,rfl⟩:=a;rfl)
theorem mP:fX X (compareOp .NotIn) (λx y H Q=>∃i j,x=.str i/\y=.str j/\Q (.bl (!(!(Builtin.Str.occurrences j i 0 j.length 1).isEmpty))) H):=by
 intro pins s c H x y v u Q I a b h;obtain⟨i,j,rfl,rfl,q⟩:=h;obtain⟨t,rfl⟩:=a;obtain⟨d,rfl⟩:=b;exact notIn_str (mO I q rfl)
theorem fX.or{f:Value->Value->Sem Value}{r a:R2}(h:fX X f r)(h':fX X f a):fX X f (λx y H Q=>r x y H Q\/a x y H Q):=by
 intro pins s b H x y v u Q I c d q;rcases q with q|q
 .exact h pins s b H x y v u Q I c d q
 .exact h' pins s b H x y v u Q I c d q
theorem ic{op:CmpOp}{r:R2}(c:fX X (compareOp op) r)(d:PE X a ta)(e:PE X b tb)(f:behindInMarks op b=false):PE X (.Compare a [op] [b] pos) (AL r ta tb):=by
 intro pins s g H Q I h;exact wpAny_Compare1 (BI d e I h λv u i x y j k l m q=>c pins i g j x y v u Q k l m q) f
noncomputable def rp(t:TE):TT:=λa H Q=>t a H λx b=>∃k,x=.bl k/\Q k b
theorem ie{op:CmpOp}{r:R2}(f:fX X (compareOp op) r)(g:PE X a ta)(i:PE X b tb)(j:behindInMarks op b=false):PT X (.Compare a [op] [b] pos) (rp (AL r ta tb)):=by
 intro pins s d H Q I h
 refine wpAny_isTrue_Compare1 (cC (g pins s d H _ I h) λv l ⟨x,H1,I1,r1,q1⟩=>cC (i pins l d H1 _ I1 q1) λu m ⟨y,H2,I2,r2,q2⟩=>
  cC (f pins m d H2 x y v u _ I2 r1 r2 q2) λc o ⟨z,H3,I3,n,k,e,q3⟩=>?_) j
 subst e;cases n;exact wpAny_truthy_bool ⟨H3,I3,q3⟩
noncomputable def pW(r c:R2)(d tb e:TE):TE:=λa H Q=>d a H λx f=>tb a f λy g=>r x y g λz b=>∃k,z=.bl k /\
 (if k=true then e a b λh i=>c y h i Q else Q (.bl false) b)
theorem uS{op f:CmpOp}{r j:R2}(l:fX X (compareOp op) r)(i:fX X (compareOp f) j)(m:PE X a ta)(n:PE X b tb)(o:PE X c tc)
  (p:lastMarks [op,f] [b,c]=false:=by with_unfolding_all rfl):PE X (.Compare a [op,f] [b,c] pos) (pW r j ta tb tc):=by
 intro pins s g H Q I h
 refine Compare_chain (cC (m pins s g H _ I h) λv q ⟨x,H1,I1,r1,q1⟩=>chain_link (cC (n pins q g H1 _ I1 q1) λu t ⟨y,H2,I2,r2,q2⟩=>
  cC (l pins t g H2 x y v u _ I2 r1 r2 q2) λd w ⟨z,H3,I3,A,k,e,q3⟩=>?_)) p
 subst e;cases A;refine wpAny_truthy_bool ?_;cases k with
 |false=>exact ite_ff ⟨.bl false,H3,I3,rfl,q3⟩
 |true=>exact ite_tt (chain_last (cC (o pins w g H3 _ I3 q3) λB C ⟨D,H4,I4,r4,q4⟩=>i pins C g H4 y D u B Q I4 r2 r4 q4))
theorem uT{op f:CmpOp}{r j:R2}(l:fX X (compareOp op) r)(i:fX X (compareOp f) j)(m:PE X a ta)(n:PE X b tb)(o:PE X c tc)
  (p:lastMarks [op,f] [b,c]=false:=by with_unfolding_all rfl):PT X (.Compare a [op,f] [b,c] pos) (rp (pW r j ta tb tc)):=by
 intro pins s g H Q I h
 refine isTrue_chain (cC (m pins s g H _ I h) λv q ⟨x,H1,I1,r1,q1⟩=>test_link (cC (n pins q g H1 _ I1 q1) λu t ⟨y,H2,I2,r2,q2⟩=>
  cC (l pins t g H2 x y v u _ I2 r1 r2 q2) λd w ⟨z,H3,I3,A,k,e,q3⟩=>?_)) p
 subst e;cases A;refine wpAny_truthy_bool ?_;cases k with
 |false=>
  obtain⟨J,B,C⟩:=q3;cases B;exact ite_ff ⟨H3,I3,C⟩
 |true=>
  refine ite_tt (test_last (cC (o pins w g H3 _ I3 q3) λD E ⟨F,H4,I4,r4,q4⟩=>cC (i pins E g H4 y F u D _ I4 r2 r4 q4) λK L ⟨M,H5,I5,G,k2,e2,q5⟩=>?_))
  subst e2;cases G;exact wpAny_truthy_bool ⟨H5,I5,q5⟩
def oq(K:PySem.W.Frag)(x:V)(H:Hp)(k:Bool):Prop:=
 match x with
 |.non=>k=false
 |.bl b=>k=b
 |.int i=>k=(i != 0)
 |.str y=>y.length<=sizeLine/\k=((y.length:Int) != 0)
 |.DZ y=>y.size<=sizeLine/\k=((y.size:Int) != 0)
 |.ref p=>(∃a,jb K H p a/\k=!a.isEmpty)\/(∃a,pT K H p a/\k=!a.isEmpty)\/∃c,H p=some (.dK c)/\k=!c.isEmpty
 |_=>False
theorem pX{κ:Type}{kvs:List (κ×V)}{vs:List (κ×Value)}(r:KV kvs vs):(!vs.isEmpty)=!kvs.isEmpty:=by
 cases r<;>rfl
theorem j9{xs:List V}{a:List Value}(r:Vals xs a):(!a.toArray.isEmpty)=!xs.isEmpty:=by
 cases r<;>simp
theorem gS:(sizeLine:Nat)<2 ^ 63:=by rw[sizeLine_eq];decide
theorem mQ:Ki X (λx H Q=>∃k,oq X.K x H k/\Q k H):=by
 intro pins s B H x v Q I g h;obtain⟨k,e,q⟩:=h;have C:=gS;have D:sizeLine=16777216:=sizeLine_eq;cases x with
 |non=>
  cases g;have a:k=false:=e;subst a;exact truthy_none ⟨H,I,q⟩
 |bl b=>
  cases g;have a:k=b:=e;subst a;exact wpAny_truthy_bool ⟨H,I,q⟩
 |int i=>
  obtain⟨t,rfl⟩:=g;have a:k=(i != 0):=e;subst a;exact PySem.P.truthy_int ⟨H,I,q⟩
 |str y=>
  obtain⟨t,rfl⟩:=g;obtain⟨z,a⟩:y.length<=sizeLine/\k=((y.length:Int) != 0):=e;subst a;exact PySem.P.truthy_str (by omega) ⟨H,I.tok _,q⟩
 |DZ y=>
  obtain⟨t,rfl⟩:=g;obtain⟨z,a⟩:y.size<=sizeLine/\k=((y.size:Int) != 0):=e;subst a;exact PySem.W.truthy_bytes (by omega) ⟨H,I.tok _,q⟩
 |ref p=>
  cases g;have a:(∃f,jb X.K H p f/\k=!f.isEmpty)\/(∃f,pT X.K H p f/\k=!f.isEmpty)\/∃c,H p=some (.dK c)/\k=!c.isEmpty:=e;rcases a with ⟨f,j,a⟩|⟨f,j,a⟩|⟨c,j,a⟩
  .subst a
   obtain⟨n,r,o,u⟩:=I.list j;have d:=r.length;exact wpAny_truthy_list o.isList (by simp only[List.size_toArray];omega) ⟨H,I.tok _,by rw[j9 r];exact q⟩
  .subst a
   obtain⟨n,r,o,u⟩:=I.tuple j;have d:=r.length;exact truthy_tuple o (by simp only[List.size_toArray];omega) ⟨H,I.tok _,by rw[j9 r];exact q⟩
  .subst a
   obtain⟨u,A,l,r,m⟩:c.length<=sizeLine/\(p==sysModules)=false/\∃l,KV c l/\s.heap.DictOf (bQ X.prog X.w) p l:=I.hok p _ j;have d:c.length=l.length:=Paired.length r;exact wpAny_truthy_dict A m (by omega) ⟨H,I.tok _,by rw[pX r];exact q⟩
 |_=>exact(show False from e).elim
theorem uU(e:PE X a ta)(f:∀b,isTrue a X.env b=(do let v ←b;standAt a.pos;holding [v] (truthy v))) :
  PT X a (λc H Q=>ta c H λx d=>∃k,oq X.K x d k/\Q k d):=by
 intro pins s c H Q I h;exact isTrue_plain (cC (e pins s c H _ I h) λv g ⟨x,H1,I1,r1,q1⟩=>mQ pins g c H1 x v Q I1 r1 q1) (f _)
theorem pY:fX X (binaryOp .Add) (λx y H Q=>∃i j,x=.str i/\y=.str j/\i.length+j.length<=sizeLine/\Q (.str (i++j)) H):=by
 intro pins s e H x y v u Q I a b h;obtain⟨i,j,rfl,rfl,c,q⟩:=h;obtain⟨t,rfl⟩:=a;obtain⟨d,rfl⟩:=b;exact add_str (λd f=>⟨.str (i++j),H,I.tok _,⟨_,rfl⟩,q⟩) c
theorem vals1{x:V}{us:List Value}(r:Vals [x] us):∃u,us=[u]/\RelV x u:=by
 cases r with
 |cons a b=>cases b;exact⟨_,rfl,a⟩
theorem vals2{x y:V}{us:List Value}(r:Vals [x,y] us):∃u a,us=[u,a]/\RelV x u/\RelV y a:=by
 cases r with
 |cons b c=>
  cases c with
  |cons d e=>cases e;exact⟨_,_,rfl,b,d⟩
end
structure pZ(h:Heap)(x dx C:Addr)(mA:Str->Option Value):Prop where
 obj:h.get? x=some (PySem.W.instObj C dx)
 ns:h.Ns1 dx mA
 ne:dx≠x
theorem tr{h:Heap}{c:Addr}{d:Str->Option Value}(n:h.Ns1 c d):∃f,h.get? c=some f/\∀name,PySem.W.lookIn name f=some (d name):=by
 obtain⟨o,g,r,i,j,k,_,l⟩:=n;refine⟨o,i,λname=>?_⟩
 have e:=l name;unfold nsFind findBy at e;rw[←Array.find?_toList]at e;unfold PySem.W.lookIn;rw[j];dsimp only;split
 .rename_i y q
  rw[q]at e;exact congrArg some e
 .rename_i q
  rw[q]at e
  have a:g.toList.any (·.refKey)=false:=by
   rw[List.any_eq_false];intro y m;obtain⟨z,t,b⟩:=k y (Array.mem_toList_iff.mp m);simp[DictEntry.refKey,b]
  have p:¬ g.toList.any (·.refKey)=true:=by rw[a];exact Bool.false_ne_true
  rw[if_neg p];exact congrArg some e
theorem pZ.look{h:Heap}{x b C:Addr}{c:Str->Option Value}(I:pZ h x b C c):∃a,PySem.W.InstAt h x (PySem.W.instObj C b) C (some a)/\∀name,PySem.W.lookIn name a=some (c name):=
 let ⟨a,d,e⟩:=tr I.ns
 ⟨a,⟨I.obj,rfl,rfl,d⟩,e⟩
section
variable{prog:Program}{w:World}{A:Around}{E:Value->Shared->Prop}{s:Shared}{K:PySem.W.Frag}{x dx C f:Addr}{mA:Str->Option Value}{name:Str}{v:Value}
theorem get_map{a:Bool}{Q:Value->Shared->Prop}(X:K.In s.heap)(I:pZ s.heap x dx C mA)(c:PySem.W.plainGet K C name=true)(d:PySem.W.hasDictIn K C=true)
  (e:PySem.W.findIn K (.ref C) name=some none) (f:mA name=some v) (b:PySem.W.handedIn v=true) (h:Q v {s with toks:=s.toks+1}) :
  wpAny (model prog w) A (getAttr (.ref x) name a) Q E s:=by
 obtain⟨i,J,g⟩:=I.look;exact PySem.W.get_value X J (PySem.W.plainGet_of c).1 (PySem.W.findObj_own d e rfl (by rw[g,f])) b h
theorem uV{pl:Sem Bool}{Q:Value×List Value->Shared->Prop}(X:K.In s.heap)(I:pZ s.heap x dx C mA)(a:PySem.W.plainGet K C name=true)
  (b:PySem.W.findIn K (.ref C) name=some (some (.ref f))) (c:PySem.W.isFn K (.ref f)=true) (d:mA name=none) (h:Q (.ref f,[.ref x]) s) :
  wpAny (model prog w) A (getMethod (.ref x) name pl) Q E s:=by
 obtain⟨e,J,g⟩:=I.look;exact PySem.W.method_fn X J (PySem.W.plainGet_of a).1 (PySem.W.plainGet_of a).2 b (beq_iff_eq.mp c) (by show(PySem.W.lookIn name e).map (·.isSome)=some false;rw[g,d];rfl) h
theorem xX{ns:List Str}{Q:Unit->Shared->Prop}(X:K.In s.heap)(I:pZ s.heap x dx C mA)
  (j:PySem.W.findIn K (.ref C) "__setattr__"=some (some (.builtin "object.__setattr__"))) (k:PySem.W.plainOver K C=true) (l:PySem.W.takerIn K C name=some none) (m:PySem.W.hasDictIn K C=true)
  (n:PySem.Within mA ns) (hsz:ns.length<=sizeLine)
  (h:∀h',pZ h' x dx C (λy=>if y=name then some v else mA y)->Heap.SameBut dx s.heap h'->Q () {s with heap:=h',toks:=s.toks+2}) :
  wpAny (model prog w) A (setAttr (.ref x) name v) Q E s:=by
 obtain⟨u,J,z⟩:=I.look;refine PySem.W.set_plain X J j (PySem.W.osa_open (s:={s with toks:=s.toks+1}) (r:=none) X J k l λb=>?_)
 obtain⟨B,o,e⟩:=PySem.W.any_some m;have p:s.heap.get? x=some ⟨.ref C,some dx,.plain,#[]⟩:=I.obj;refine wpAny_bind (wpAny_pure (wpAny_bind (wpAny_bind (wpAny_loadPart p (wpAny_bind (PySem.W.Looks.here (s:={s with toks:=s.toks+1}) (PySem.W.looks_clsIn X o) ?_))))));rw[e];refine wpAny_pure (a:=some dx) (wpAny_bind (wpAny_pure (wpAny_bind ?_)));refine wpAny_nsSet1 (s:={s with toks:=s.toks+1}) I.ns λh' c d=>?_
 obtain⟨D,q,t,f,g,i⟩:=c.count (PySem.Within.cons name v n);refine wpAny_bind (wpAny_lookBehind f (by rw[g];exact pastItsLine_dict (Nat.le_trans i (by rw[List.length_cons];omega))) ?_)
 exact wpAny_pure (h _ ⟨(d.2 _ (Ne.symm I.ne)).trans I.obj,c,I.ne⟩ d)
theorem uW{R:Result->Shared->Prop}{vs:List Value}{a:List (Str×Value)}(X:K.In s.heap)(b:PySem.W.makesIn K C=true)
  (c:PySem.W.findIn K (.ref C) "__init__"=some (some (.ref f))) (e:PySem.W.typeIn K (.ref f)=some (.type "function"))
  (h:codeAny (model prog w) (A.under (.builtin "type.__call__" ⟨.ref C::vs,a⟩)) (.call (.ref f) ⟨.ref (s.heap.objs.size+1)::vs,a⟩) (PySem.W.InitBack (s.heap.objs.size+1) R)
   {s with heap:=(s.heap.push PySem.W.emptyDict).push (PySem.W.instObj C s.heap.objs.size)}) :
  codeAny (model prog w) A (.call (.ref C) ⟨vs,a⟩) R s:=by
 obtain⟨i,g,d,t,j⟩:=s;exact PySem.W.make_core (PySem.W.makes_of X b) (PySem.W.looks_findIn X c) (λself=>PySem.W.bind_fn X self e) (.inl rfl) h
end
noncomputable def fA(f:Str)(v:V):List (Str×V)->List (Str×V)
 |[]=>[(f,v)]
 | (g,x)::r=>if g=f then (g,v)::r else (g,x)::fA f v r
theorem jc(f g:Str)(v:V):∀c:List (Str×V),(fA f v c).lookup g=if g=f then some v else c.lookup g
 |[]=>by
  show List.lookup g [(f,v)]=_
  by_cases h:g=f
  .have a:(g==f)=true:=beq_iff_eq.mpr h
   simp only[List.lookup,a,if_pos h]
  .have a:(g==f)=false:=beq_eq_false_iff_ne.mpr h
   simp only[List.lookup,a,if_neg h]
 | (k,x)::r=>by
  have d:=jc f g v r;rw[show fA f v ((k,x)::r)=(if k=f then (k,v)::r else (k,x)::fA f v r)from rfl]
  by_cases b:k=f
  .rw[if_pos b]
   by_cases h:g=k
   .have a:(g==k)=true:=beq_iff_eq.mpr h
    simp only[List.lookup,a,if_pos (h.trans b)]
   .have a:(g==k)=false:=beq_eq_false_iff_ne.mpr h
    simp only[List.lookup,a,if_neg (λe:g=f=>h (e.trans b.symm))]
  .rw[if_neg b]
   by_cases h:g=k
   .have a:(g==k)=true:=beq_iff_eq.mpr h
    simp only[List.lookup,a,if_neg (λe:g=f=>b (h.symm.trans e))]
   .have a:(g==k)=false:=beq_eq_false_iff_ne.mpr h
    simp only[List.lookup,a];exact d
theorem iL(f:Str)(v:V):∀a:List (Str×V),f∈(fA f v a).map (·.1)/\∀g,g∈a.map (·.1)->g∈(fA f v a).map (·.1)
 |[]=>⟨by simp[fA],λg h=>by simp at h⟩
 | (k,x)::r=>by
  obtain⟨c,d⟩:=iL f v r;rw[show fA f v ((k,x)::r)=(if k=f then (k,v)::r else (k,x)::fA f v r)from rfl]
  by_cases b:k=f
  .rw[if_pos b]
   subst b;exact⟨by simp,λg h=>by simpa using h⟩
  .rw[if_neg b]
   refine⟨?_,λg h=>?_⟩
   .rw[List.map_cons]
    exact List.mem_cons_of_mem _ c
   .rw[List.map_cons]at h ⊢
    rcases List.mem_cons.mp h with e|e
    .exact List.mem_cons.mpr (.inl e)
    .exact List.mem_cons_of_mem _ (d g e)
theorem jd(f:Str)(v:V):∀a:List (Str×V),(fA f v a).length<=a.length+1
 |[]=>by simp[fA]
 | (k,x)::r=>by
  have c:=jd f v r;rw[show fA f v ((k,x)::r)=(if k=f then (k,v)::r else (k,x)::fA f v r)from rfl]
  by_cases b:k=f
  .rw[if_pos b,List.length_cons,List.length_cons];omega
  .rw[if_neg b,List.length_cons,List.length_cons];omega
theorem gF.some_of{v:V}{o:Option Value}(r:gF (some v) o):∃u,o=some u/\RelV v u:=by
 cases o with
 |none=>exact(show False from r).elim
 |some u=>exact⟨u,rfl,r⟩
theorem gF.none_of{o:Option Value}(r:gF none o):o=none:=by
 cases o with
 |none=>rfl
 |some u=>exact(show False from r).elim
theorem tw{v:V}{u:Value}(r:RelV v u):PySem.W.handedIn u=true:=by
 cases v with
 |non=>cases (show u=Value.none from r);rfl
 |bl b=>cases (show u=Value.bool b from r);rfl
 |int i=>obtain⟨t,e⟩:=(show ∃t,u=Value.int i t from r);cases e;rfl
 |str x=>obtain⟨t,e⟩:=(show ∃t,u=Value.str x t from r);cases e;rfl
 |DZ b=>obtain⟨t,e⟩:=(show ∃t,u=Value.bytes b t from r);cases e;rfl
 |flt b=>obtain⟨t,e⟩:=(show ∃t,u=Value.float b t from r);cases e;rfl
 |ref a=>cases (show u=Value.ref a from r);rfl
 |ty n=>cases (show u=Value.type n from r);rfl
section
variable{P:Program}{w:World}{H H':Hp}{h h':Heap}{a C dx:Addr}{fs fs':List (Str×V)}
theorem jA(c:hZ P w H h)(e:H a=some (.ins C dx fs)):∃b,pZ h a dx C b/\(∀f,gF (fs.lookup f) (b f))/\PySem.Within b (fs.map (·.1))/\fs.length<=1000/\H dx=some (.own a):=by
 obtain⟨d,z,ne,g,b,n,r,q⟩:=(show cw P w H h a (.ins C dx fs)from c a _ e)
 exact⟨b,⟨g,n,ne⟩,r,q,z,d⟩
end
structure ot(K:PySem.W.Frag)(C:Addr):Prop where
 pg:PySem.W.plainGet K C Str.empty=true
 hd:PySem.W.hasDictIn K C=true
 po:PySem.W.plainOver K C=true
 sa:PySem.W.findIn K (.ref C) "__setattr__"=some (some (.builtin "object.__setattr__"))
theorem ot.get{K:PySem.W.Frag}{C:Addr}(c:ot K C)(f:Str):PySem.W.plainGet K C f=true:=c.pg
def fY(K:PySem.W.Frag)(C:Addr)(f:Str):Prop:=PySem.W.findIn K (.ref C) f=some none
theorem fY.taker{K:PySem.W.Frag}{C:Addr}{f:Str}(n:fY K C f):PySem.W.takerIn K C f=some none:=by
 unfold PySem.W.takerIn;rw[show PySem.W.findIn K (.ref C) f=some none from n]
 rfl
structure Meth(K:PySem.W.Frag)(C:Addr)(m:Str)(f:Addr):Prop where
 at_:PySem.W.findIn K (.ref C) m=some (some (.ref f))
 fn:PySem.W.isFn K (.ref f)=true
 kp:PySem.W.keepIn K (.ref f)=true
section
variable{X:Cx}{pins:List (Addr×Obj)}{σ:St}{H:Hp}{s:Shared}{a C dx:Addr}{fs:List (Str×V)}{f:Str}{v:V}{A:Around}{E:Value->Shared->Prop}
theorem p9{b:Bool}{Q:Value->Shared->Prop}(I:Inv X pins σ H s)(e:H a=some (.ins C dx fs))(c:ot X.K C)(n:fY X.K C f)(l:fs.lookup f=some v)
  (h:∀u d,Inv X pins σ H d->RelV v u->Q u d):wpAny (model X.prog X.w) A (getAttr (.ref a) f b) Q E s:=by
 obtain⟨i,O,r,_,_,_⟩:=jA I.hok e;obtain⟨u,j,g⟩:=gF.some_of (v:=v) (o:=i f) (by rw[←l];exact r f)
 exact get_map I.h_ O (c.get f) c.hd n j (tw g) (h u _ (I.tok _) g)
theorem j_{m:Str}{g:Addr}{pl:Sem Bool}{Q:Value×List Value->Shared->Prop}(I:Inv X pins σ H s)(e:H a=some (.ins C dx fs))(c:ot X.K C)(k:Meth X.K C m g)(l:fs.lookup m=none)
  (h:Q (.ref g,[.ref a]) s):wpAny (model X.prog X.w) A (getMethod (.ref a) m pl) Q E s:=by
 obtain⟨b,O,r,_,_,_⟩:=jA I.hok e;have d:b m=none:=gF.none_of (by rw[←l];exact r m)
 exact uV I.h_ O (c.get m) k.at_ k.fn d h
theorem p_{y:V}{u:Value}{Q:Unit->Shared->Prop}(I:Inv X pins σ H s)(e:H a=some (.ins C dx fs))(c:ot X.K C)(n:fY X.K C f)(J:fs.length<1000)(m:RelV y u)
  (h:∀i,Inv X pins σ (upd H a (.ins C dx (fA f y fs))) i->Q () i):wpAny (model X.prog X.w) A (setAttr (.ref a) f u) Q E s:=by
 obtain⟨j,O,r,k,_,l⟩:=jA I.hok e;have p:(fs.map (·.1)).length<=sizeLine:=by rw[List.length_map,sizeLine_eq];omega
 refine xX I.h_ O c.sa c.po n.taker c.hd k p λt d B=>h _ ?_
 have D:∃o,t.get? dx=some o:=let ⟨o,_,_,e',_⟩:=d.ns;⟨o,e'⟩
 refine I.write (x:=a) (e:=dx) (by rw[e];exact True.intro) (.inr l) (λb q F z=>(B.2 b F).trans z) D ?_
 refine⟨by rw[aJ O.ne];exact l,?_,O.ne,d.obj,_,d.ns,λg=>?_,λg G=>?_⟩
 .have:=jd f y fs;omega
 .show gF ((fA f y fs).lookup g) (if g=f then some u else j g)
  rw[jc]
  by_cases q:g=f
  .rw[if_pos q,if_pos q];exact m
  .rw[if_neg q,if_neg q];exact r g
 .by_cases q:g=f
  .rw[q];exact(iL f y fs).1
  .refine(iL f y fs).2 g (k g λz=>G ?_)
   show(if g=f then some u else j g)=none
   rw[if_neg q];exact z
theorem Inv.made(I:Inv X pins σ H s):Inv X pins σ (upd (upd H s.heap.objs.size (.own (s.heap.objs.size+1))) (s.heap.objs.size+1) (.ins C s.heap.objs.size []))
  {s with heap:=(s.heap.push PySem.W.emptyDict).push (PySem.W.instObj C s.heap.objs.size)}:=by
 have c:(s.heap.push PySem.W.emptyDict).get? s.heap.objs.size=some PySem.W.emptyDict:=Heap.get?_push_size s.heap rfl
 have d:((s.heap.push PySem.W.emptyDict).push (PySem.W.instObj C s.heap.objs.size)).get? (s.heap.objs.size+1)=some (PySem.W.instObj C s.heap.objs.size):=by
  have:=Heap.get?_push_size (s.heap.push PySem.W.emptyDict) (o:=PySem.W.instObj C s.heap.objs.size) rfl;rwa[Heap.size_push]at this
 have f:(s.heap.push PySem.W.emptyDict).Ns s.heap.objs.size (λ_=>none):=⟨PySem.W.emptyDict,#[],_,c,rfl,(λe g=>absurd g (by simp)),λ_=>rfl⟩
 have h:=I.laid (a:=s.heap.objs.size) (o:=.own (s.heap.objs.size+1)) (h':=s.heap.push PySem.W.emptyDict) (t':=s.toks) (λb u q=>Heap.get?_push_of_some _ q) (Nat.le_refl _) ⟨_,c⟩
 refine h.laid (a:=s.heap.objs.size+1) (o:=.ins C s.heap.objs.size []) (t':=s.toks) (λb u q=>Heap.get?_push_of_some _ q) (Nat.le_of_eq (Heap.size_push _ _)) ?_
 have ne:s.heap.objs.size≠s.heap.objs.size+1:=Nat.ne_of_lt (Nat.lt_succ_self _);refine⟨by rw[aJ ne,ba],Nat.zero_le _,ne,d,λ_=>none,(Heap.Ns1.of_empty f).at λo q=>Heap.get?_push_of_some _ q,λ_=>True.intro,λy i=>absurd rfl i⟩
theorem xY{prog:Program}{w:World}{env:Env}{e:Expr}{f:Str}{pos:Pos}{s:Shared}{Q:Value->Shared->Prop}(b:attributeBase e f env (eval e env)=eval e env)
  (h:wpAny (model prog w) A (eval e env) (λo a=>wpAny (model prog w) A (getAttr o f true) Q E a) E s):wpAny (model prog w) A (eval (.Attribute e f pos) env) Q E s:=
 Attribute_any_ h (by rw[arm_eval_Attribute,b])
end
noncomputable def Kj(K:PySem.W.Frag)(d:TE)(f:Str):TE:=λe H Q=>d e H λx b=>∃a C g c v,x=.ref a/\b a=some (.ins C g c)/\ot K C/\fY K C f/\c.lookup f=some v/\Q v b
def Kk(K:PySem.W.Frag)(g h:TE)(f:Str):TS:=λD b H=>h b H λy i=>g b i λx d=>∃a C e c,x=.ref a/\d a=some (.ins C e c)/\ot K C/\fY K C f/\c.length<1000 /\
 D.nx b (upd d a (.ins C e (fA f y c)))
section
variable{X:Cx}{o e value:Expr}{f:Str}{pos pos' tpos:Pos}{ta tv:TE}
theorem BQ(b:PE X e ta)(d:attributeBase e f X.env (eval e X.env)=eval e X.env):PE X (.Attribute e f pos) (Kj X.K ta f):=by
 intro pins s g H Q I h;refine xY d (cC (b pins s g H _ I h) λu k ⟨x,H1,I1,rx,a,C,dx,fs,v,ex,ea,c,n,l,q⟩=>?_)
 subst ex;obtain rfl:u=Value.ref a:=rx;exact p9 I1 ea c n l λm o i j=>⟨v,H1,i,j,q⟩
theorem BR(d:PE X o ta)(e:PE X value tv)(g:swapsWith value (some (.Attribute o f pos')) pos.line X.env=pure false):PS X (.Assign [.Attribute o f pos'] value pos) (Kk X.K ta tv f):=by
 intro pins s b H D I h;refine plainObj_wpAny_Assign_Attribute (cC (e pins s b H _ I h) λu i ⟨y,H1,I1,ry,q⟩=>cC (d pins i b H1 _ I1 q) λj m ⟨x,H2,I2,rx,a,C,dx,fs,ex,ea,c,n,l,q2⟩=>?_) g
 subst ex;obtain rfl:j=Value.ref a:=rx;exact p_ I2 ea c n l ry λp k=>⟨b,_,k,q2⟩
end
section
variable{X:Cx}{pins:List (Addr×Obj)}{σ:St}{H:Hp}{s:Shared}{A:Around}{E:Value->Shared->Prop}{Q:Value->Shared->Prop}{c:Value}{b:Bool}
inductive jq (K:PySem.W.Frag) (H:Hp):V->Value->Prop where
 |non:jq K H .non (.type "NoneType")
 |bl (x:Bool):jq K H (.bl x) (.type "bool")
 |int (i:Int):jq K H (.int i) (.type "int")
 |str (x:Str):jq K H (.str x) (.type "str")
 |flt (x:UInt64):jq K H (.flt x) (.type "float")
 |lst {a:Addr}{xs:List V} (e:H a=some (.lst xs)):jq K H (.ref a) (.type "list")
 |dr {a:Addr}{o:Obj}{xs:List V} (e:H a=some (.dr o (.lst xs))):jq K H (.ref a) (.type "list")
 |tup {a:Addr}{xs:List V} (e:H a=some (.tup xs)):jq K H (.ref a) (.type "tuple")
 |dK {a:Addr}{kvs:List (Key×V)} (e:H a=some (.dK kvs)):jq K H (.ref a) (.type "dict")
 |dT {a:Addr}{kvs:List (List Key×V)} (e:H a=some (.dT kvs)):jq K H (.ref a) (.type "dict")
 |ins {a C dx:Addr}{fs:List (Str×V)} (e:H a=some (.ins C dx fs)) (cl:ot K C) (ha:PySem.W.findIn K (.ref C) "__class__"=some (some (.builtin "object.__class__")))
   (hn:PySem.W.specialIn K (.builtin "object.__class__") "__get__"=some (some (.builtin "getset_descriptor.__get__"))) (htk:PySem.W.takesIn K (.builtin "object.__class__")=some true)
   (hm:PySem.W.mroIn K C (.type "object")=some true):jq K H (.ref a) (.ref C)
theorem cW{x:V}{u t:Value}(I:Inv X pins σ H s)(d:RelV x u)(B:jq X.K H x t)(e:PySem.W.kitOne X.K t c=some b)(h:∀D,Q (.bool b) {s with toks:=D}) :
  wpAny (model X.prog X.w) A (call (.builtin "isinstance") [u,c]) Q E s:=by
 cases B with
 |non=>cases (show u=Value.none from d);exact PySem.W.kia_one PySem.W.kitx_none I.h_ True.intro e (λz=>nomatch z) h
 |bl y=>cases (show u=Value.bool y from d);exact PySem.W.kia_one PySem.W.kitx_bool I.h_ True.intro e (λz=>nomatch z) h
 |int i=>obtain⟨t,q⟩:=(show ∃t,u=Value.int i t from d);cases q;exact PySem.W.kia_one PySem.W.kitx_int I.h_ True.intro e (λz=>nomatch z) h
 |str y=>obtain⟨t,q⟩:=(show ∃t,u=Value.str y t from d);cases q;exact PySem.W.kia_one PySem.W.kitx_str I.h_ True.intro e (λz=>nomatch z) h
 |flt y=>obtain⟨t,q⟩:=(show ∃t,u=Value.float y t from d);cases q;exact PySem.W.kia_one PySem.W.kitx_float I.h_ True.intro e (λz=>nomatch z) h
 |@lst a k f=>
  cases (show u=Value.ref a from d)
  obtain⟨_,_,n,_,g⟩:=(show cw X.prog X.w H s.heap a (.lst k)from I.hok a _ f)
  exact PySem.W.kia_one PySem.W.kitx_list I.h_ ⟨_,g,rfl⟩ e (λz=>nomatch z) h
 |@dr a F k f=>
  cases (show u=Value.ref a from d)
  obtain⟨_,_,_,n,_,g⟩:=(show cw X.prog X.w H s.heap a (.dr F (.lst k))from I.hok a _ f)
  exact PySem.W.kia_one PySem.W.kitx_list I.h_ ⟨_,g,rfl⟩ e (λz=>nomatch z) h
 |@tup a k f=>
  cases (show u=Value.ref a from d)
  obtain⟨_,_,_,p⟩:=(show cw X.prog X.w H s.heap a (.tup k)from I.hok a _ f)
  obtain⟨o,g,l,_⟩:=p;exact PySem.W.kia_one PySem.W.kitx_tuple I.h_ ⟨o,g,l⟩ e (λz=>nomatch z) h
 |@dK a j f=>
  cases (show u=Value.ref a from d)
  obtain⟨_,_,R,_,p⟩:=(show cw X.prog X.w H s.heap a (.dK j)from I.hok a _ f)
  obtain⟨o,G,L,g,l,_⟩:=p;exact PySem.W.kia_one PySem.W.kitx_dict I.h_ ⟨o,g,l.1⟩ e (λz=>nomatch z) h
 |@dT a j f=>
  cases (show u=Value.ref a from d)
  obtain⟨_,_,k,_,o,G,L,g,l,_⟩:=(show cw X.prog X.w H s.heap a (.dT j)from I.hok a _ f)
  exact PySem.W.kia_one PySem.W.kitx_dict I.h_ ⟨o,g,l.1⟩ e (λz=>nomatch z) h
 |@ins a C S T f r M N m P=>
  cases (show u=Value.ref a from d)
  obtain⟨U,O,_⟩:=jA I.hok f;obtain⟨Y,J,_⟩:=O.look;exact PySem.W.kia_one (PySem.W.kitx_own (r.get _) r.hd M N m P) I.h_ J e (λz=>nomatch z) h
end
structure cP(k:Nat)(A:Around):Prop where
 hd:A.handled=none
 dp:A.depth+3*k+5<recursionLimit
 un:A.units+16*k+200<cLine
theorem cP.mono{j k:Nat}{A:Around}(r:cP k A)(h:j<=k):cP j A:=⟨r.hd,by have:=r.dp;omega,by have:=r.un;omega⟩
theorem cP.deeper{k:Nat}{A:Around}(r:cP (k+1) A)(env:Env):cP k (A.deeper env):=
 ⟨r.hd,by have:=r.dp;show A.depth+1+3*k+5<_;omega,by have:=r.un;show A.units+3+16*k+200<_;omega⟩
theorem cP.in1{k:Nat}{A:Around}(r:cP (k+1) A):cP k A.in1:=
 ⟨r.hd,by have:=r.dp;show A.depth+3*k+5<_;omega,by have:=r.un;show A.units+1+16*k+200<_;omega⟩
theorem qa{A:Around}{C:Addr}{us:List Value}{a:List (Str×Value)}:(A.under (.builtin "type.__call__" ⟨.ref C::us,a⟩)).depth=A.depth+1:=by
 first|rfl|simp[Around.under,Code.weight,Code.isCreation,Code.isGuard,Code.isCaller,Code.frames,Code.isFrame,guardIds]
theorem qb{A:Around}{C:Addr}{us:List Value}{a:List (Str×Value)}:(A.under (.builtin "type.__call__" ⟨.ref C::us,a⟩)).units=A.units+1:=by
 first|rfl|simp[Around.under,Code.cUnits,Code.frames,Code.isFrame]
theorem cP.make{k:Nat}{A:Around}(r:cP (k+1) A)(C:Addr)(us:List Value)(a:List (Str×Value)):cP k (A.under (.builtin "type.__call__" ⟨.ref C::us,a⟩)):=
 ⟨r.hd,by have:=r.dp;rw[qa];omega,by have:=r.un;rw[qb];omega⟩
theorem cP.depth{k:Nat}{A:Around}(r:cP k A):A.depth<recursionLimit:=by have:=r.dp;omega
theorem cP.units{k:Nat}{A:Around}(r:cP k A):A.units+64<cLine:=by have:=r.un;omega
noncomputable def xZ:TA:=λ_ H Q=>Q [] H
noncomputable def ER(b:TE)(c:TA):TA:=λa H Q=>b a H λx d=>c a d λe f=>Q (x::e) f
section
variable{X:Cx}{e:Expr}{es:List Expr}{te:TE}{t:TA}{pos:Pos}
theorem mR:PA X [] xZ:=λ_ _ _ _ H Q I h=>Calls.spliced_nil ⟨[],H,I,.nil,h⟩
theorem eR(c:PE X e te)(d:PA X es t)(f:starEach (e::es) X.env=(false,eval e X.env)::starEach es X.env:=by rfl):PA X (e::es) (ER te t):=by
 intro a pins s b H Q I h;rw[f]
 show wpAny _ _ (spliced ((false,eval e X.env)::backTo a (starEach es X.env))) _ _ s
 refine Calls.spliced_cons (cC (c pins s b H _ I h) λu g ⟨x,H1,I1,r1,q1⟩=>?_)
 exact cC (d a pins g b H1 _ I1 q1) λj k ⟨i,H2,I2,r2,q2⟩=>⟨x::i,H2,I2,.cons r1 r2,q2⟩
def Kl(t:TA):TE:=λc H Q=>t c H λa b=>a.length<=sizeLine/\∀p,b p=none->Q (.ref p) (upd b p (.tup a))
def Km(t:TA):TE:=λc H Q=>t c H λa b=>a.length<=sizeLine/\∀p,b p=none->Q (.ref p) (upd b p (.lst a))
theorem BS{x1}(h:PA X es t):PE X (.Tuple es x1 pos) (Kl t):=by
 intro pins s c H Q I d;refine wpAny_Tuple_spliced (cC (h pos pins s c H _ I d) λf a ⟨g,H1,I1,r,z,q⟩=>⟨by rw[←r.length];exact z,?_⟩)
 have i:H1 a.heap.objs.size=none:=I1.hok.fresh (Nat.le_refl _);refine⟨.ref a.heap.objs.size,upd H1 a.heap.objs.size (.tup g),I1.laid (t':=a.toks) (λb u e=>Heap.get?_push_of_some _ e) (Nat.le_refl _) ?_,rfl,q _ i⟩
 exact⟨z,f,r,⟨_,Heap.get?_push_size _ rfl,rfl,_,rfl⟩⟩
theorem BU(h:PA X es t):PE X (.List es pos) (Km t):=by
 intro pins s c H Q I d;refine wpAny_List_spliced (cC (h pos pins s c H _ I d) λf a ⟨g,H1,I1,r,z,q⟩=>⟨by rw[←r.length];exact z,?_⟩)
 have i:H1 a.heap.objs.size=none:=I1.hok.fresh (Nat.le_refl _);refine⟨.ref a.heap.objs.size,upd H1 a.heap.objs.size (.lst g),I1.laid (t':=a.toks) (λb u e=>Heap.get?_push_of_some _ e) (Nat.le_refl _) ?_,rfl,q _ i⟩
 exact⟨z,f,0,r,Heap.get?_push_size _ rfl⟩
end
abbrev Sp:=List V->Hp->VK->XK->Prop
abbrev tB:=List Env->Hp->Shared->XK->Value->Shared->Prop
structure qf(P:Program)(w:World)(K:PySem.W.Frag)(mg:Str->Option Value)(base:Heap)(A:Around)(outer:List Env)(s:Shared)(H:Hp):Prop where
 frames:A.frames=some outer
 mod:Mod K mg base
 bs:∀b o,base.get? b=some o->s.heap.get? b=some o/\H b=none
 AI:base.objs.size<=s.heap.objs.size
 jo:s.heap.FunFrames base outer
 Bu:∀b∈frs outer,H b=none
 hok:hZ P w H s.heap
 bare:AllBare s.gens
def CE(outer:List Env)(P:Program)(w:World)(H:Hp)(s:Shared)(Q:VK)(u:Value)(a:Shared):Prop:=
 ∃v b,a.os=s.os/\AllBare a.gens/\Un (frs outer) [] H b s.heap a.heap/\hZ P w b a.heap/\RelV v u/\Q v b
def CR(CX:tB)(outer:List Env)(P:Program)(w:World)(H:Hp)(s:Shared)(Q:VK)(E:XK)(r:Result)(a:Shared):Prop:=
 match r with
 |.ok (.ret u)=>CE outer P w H s Q u a
 |.ok _=>False
 |.error e=>CX outer H s E e a
structure dc(P:Program)(w:World)(K:PySem.W.Frag)(mg:Str->Option Value)(base:Heap)(CX:tB)(k:Nat)(f:Addr)(fd:FuncData)(ps:List Str)(sp:Sp):Prop where
 len:∀vs H Q E,sp vs H Q E->vs.length=ps.length
 run:∀(A:Around) (outer:List Env) (s:Shared) (H:Hp) (args:Args) (us:List Value) (vs:List V) (Q:VK) (E:XK),cP k A->qf P w K mg base A outer s H->BindsTo s fd args (ps.zip us)->Vals vs us->sp vs H Q E ->
  codeAny (model P w) A (.call (.ref f) args) (CR CX outer P w H s Q E) s
theorem dc.mono{P:Program}{w:World}{K:PySem.W.Frag}{mg:Str->Option Value}{base:Heap}{CX:tB}{j k:Nat}{f:Addr}{a:FuncData}{ps:List Str}{sp:Sp}(F:dc P w K mg base CX j f a ps sp)(h:j<=k) :
  dc P w K mg base CX k f a ps sp:=⟨F.len,λA outer s H args b c Q E d=>F.run A outer s H args b c Q E (d.mono h)⟩
theorem dc.imp{P:Program}{w:World}{K:PySem.W.Frag}{mg:Str->Option Value}{base:Heap}{CX:tB}{k:Nat}{f:Addr}{b:FuncData}{ps:List Str}{sp a:Sp}(F:dc P w K mg base CX k f b ps sp)
  (h:∀vs H Q E,a vs H Q E->sp vs H Q E):dc P w K mg base CX k f b ps a:=
 ⟨λvs H Q E q=>F.len vs H Q E (h _ _ _ _ q),λA outer s H args c vs Q E d e g i j=>F.run A outer s H args c vs Q E d e g i (h _ _ _ _ j)⟩
theorem qf.make{P:Program}{w:World}{K:PySem.W.Frag}{mg:Str->Option Value}{base:Heap}{A:Around}{outer:List Env}{s:Shared}{H:Hp}(e:qf P w K mg base A outer s H)(C:Addr)(us:List Value)(a:List (Str×Value)) :
  qf P w K mg base (A.under (.builtin "type.__call__" ⟨.ref C::us,a⟩)) outer s H:=⟨by first|exact e.frames | (simpa[Around.under,Code.envs,Code.isFrame,pushEnvs]using e.frames),e.mod,e.bs,e.AI,e.jo,e.Bu,e.hok,e.bare⟩
section
variable{X:Cx}{pins:List (Addr×Obj)}{σ:St}{H:Hp}{s s':Shared}
theorem Inv.env0(I:Inv X pins σ H s):qf X.prog X.w X.K X.mg X.base X.A X.stack s H:=
 ⟨I.ok.frames,I.ok.mod,I.bs,Nat.le_trans I.ok.AI I.sz,I.stack,I.rm,I.hok,I.bare⟩
theorem Inv.after{Q:VK}{u:Value}(I:Inv X pins σ H s)(h:CE X.stack X.prog X.w H s Q u s'):EP X pins σ Q u s':=by
 obtain⟨v,e,f,bare,i,a,r,q⟩:=h;obtain⟨j,g,d,t,c⟩:=s';obtain rfl:c=s.os:=f;exact⟨v,e,I.call (h':=j) (g':=g) (d':=d) (t':=t) (ch:=[]) i a bare (λb z=>absurd z (by simp)),r,q⟩
end
noncomputable def AO(sp:Sp)(a:List V)(E:XK)(t:TA):TE:=λb H Q=>t b H λc d=>sp (c++a) d Q E
noncomputable def AQ(C:Addr)(m:Str)(sp:Sp)(b:List V)(E:XK)(f:TE)(t:TA):TE:=λc H Q=>f c H λx d=>∃a g e,x=.ref a/\d a=some (.ins C g e)/\e.lookup m=none /\
 t c d λh i=>sp (x::(h++b)) i Q E
def AS(C:Addr)(sp:Sp)(b:List V)(E:XK)(t:TA):TE:=λd H Q=>t d H λe c=>∀x a,c x=none->c a=none->a≠x ->
 sp (.ref x::(e++b)) (upd (upd c a (.own x)) x (.ins C a [])) (λv f=>v=.non/\Q (.ref x) f) E
def Binds(K:PySem.W.Frag)(b:FuncData)(ps:List Str)(ds:List Value):Prop:=
 ∀(s:Shared) (a:List Value),K.In s.heap->(a++ds).length=ps.length->BindsTo s b ⟨a,[]⟩ (ps.zip (a++ds))
theorem Binds.all{K:PySem.W.Frag}{a:FuncData}{ps:List Str}(h:∀us:List Value,us.length=ps.length->bindArgs a ⟨us,[]⟩=pure (ps.zip us)):Binds K a ps []:=λs us _ b=>by
 rw[List.append_nil]at b ⊢;exact .of_eq (h us b)
def Passes(CX:tB)(X:Cx)(E:XK):Prop:=∀(pins:List (Addr×Obj)) (b:St) (H:Hp) (s:Shared) (e:Value) (a:Shared),Inv X pins b H s->CX X.stack H s E e a->X.xe e a
section
variable{X:Cx}{CX:tB}{k:Nat}{f C:Addr}{fd:FuncData}{ps:List Str}{sp:Sp}{mS:List V}{ds:List Value}{E:XK}{x m:Str}{p pos apos:Pos}{e o:Expr}{es:List Expr}{ta:TE}{t:TA}
theorem mT{pins:List (Addr×Obj)}{b:St}{H:Hp}{s:Shared}{Q:VK}{us:List Value}{vs:List V}(F:dc X.prog X.w X.K X.mg X.base CX k f fd ps sp)(d:cP k X.A)(g:Binds X.K fd ps ds)(i:Vals mS ds)(j:Passes CX X E)
  (I:Inv X pins b H s) (r:Vals vs us) (h:sp (vs++mS) H Q E):wpAny (model X.prog X.w) X.A (call (.ref f) us) (EP X pins b Q) X.xe s:=by
 have c:Vals (vs++mS) (us++ds):=r.append i;have l:(us++ds).length=ps.length:=by rw[←c.length];exact F.len _ _ _ _ h
 refine wpAny_call (codeAny_mono (F.run X.A X.stack s H ⟨us,[]⟩ (us++ds) (vs++mS) Q E d I.env0 (g s us I.h_ l) c h) λr m a=>?_)
 cases r with
 |error e=>exact j pins b H s e m I a
 |ok fl=>
  cases fl with
  |ret u=>exact I.after a
  |next=>exact False.elim a
  |brk=>exact False.elim a
  |cont=>exact False.elim a
theorem rq(F:dc X.prog X.w X.K X.mg X.base CX k f fd ps sp)(c:cP k X.A)(d:Gl X x)(g:X.mg x=some (.ref f))(i:PySem.W.keepIn X.K (.ref f)=true)(j:Binds X.K fd ps ds)(l:Vals mS ds)(m:Passes CX X E)
  (n:PA X (e::es) t) (a:(x==("__debug__":Str))=false:=by decide) (o:starEach (e::es) X.env=(false,eval e X.env)::starEach es X.env:=by rfl) (b:(backTo pos (starEach es X.env)).any (·.1)=false:=by rfl) :
  PE X (.Call (.Name x p) (e::es) [] pos) (AO sp mS E t):=by
 intro pins s u H Q I h;refine wpAny_Call_Name_kw (ia I d g ?_ a);refine PySem.W.callWith_K (h₀:=X.base) I.ok.mod.Eu i (cC (n pos pins s u H _ I h) λy z ⟨B,H1,I1,r,q⟩=>⟨I1.h_,?_⟩) o b
 exact mT F c j l m I1 r q
theorem uX(F:dc X.prog X.w X.K X.mg X.base CX k f fd ps sp)(b:cP k X.A)(c:Gl X x)(d:X.mg x=some (.ref f))(e:PySem.W.keepIn X.K (.ref f)=true)(g:Binds X.K fd ps ds)(i:Vals mS ds)(j:Passes CX X E)
  (a:(x==("__debug__":Str))=false:=by decide):PE X (.Call (.Name x p) [] [] pos) (AO sp mS E xZ):=by
 intro pins s l H Q I h;refine wpAny_Call_Name_kw (ia I c d ?_ a);exact PySem.W.callWith_K0 I.h_ e (mT (us:=[]) F b g i j I .nil h)
theorem x8{pl:Sem Bool}(n:PE X o ta)(c:ot X.K C)(g:Meth X.K C m f)(F:dc X.prog X.w X.K X.mg X.base CX k f fd ps sp)(p:cP k X.A)(y:Binds X.K fd ps ds)(z:Vals mS ds)(B:Passes CX X E)(D:PA X (e::es) t)
  (b:starEach (e::es) X.env=(false,eval e X.env)::starEach es X.env:=by rfl) (d:(backTo pos (starEach es X.env)).any (·.1)=false:=by rfl)
  (G:eval (.Call (.Attribute o m apos) (e::es) [] pos) X.env=(do
   let i ←eval o X.env
   standAt apos.atName
   let (f,first) ←holding [i] (getMethod i m pl)
   callWith pos f first (backTo pos (starEach (e::es) X.env)) (backToKw pos (keywordEach [] X.env))):=by rfl) :
  PE X (.Call (.Attribute o m apos) (e::es) [] pos) (AQ C m sp mS E ta t):=by
 intro pins s j H Q I h;refine PySem.W.methodCall_KW (pl:=pl) (cC (n pins s j H _ I h) λu J ⟨x,H1,I1,rx,a,dx,fs,ex,ea,l,q⟩=>?_) G
 subst ex;obtain rfl:u=Value.ref a:=rx;refine j_ I1 ea c g l ?_;refine PySem.W.callWith_K (first:=[.ref a]) (h₀:=X.base) I.ok.mod.Eu g.kp (cC (D pos pins J j H1 _ I1 q) λus L ⟨vs,H2,I2,r,q2⟩=>⟨I2.h_,?_⟩) b d
 exact mT (us:=.ref a::us) (vs:=.ref a::vs) F p y z B I2 (.cons rfl r) q2
theorem uY{pl:Sem Bool}(e:PE X o ta)(c:ot X.K C)(b:Meth X.K C m f)(F:dc X.prog X.w X.K X.mg X.base CX k f fd ps sp)(g:cP k X.A)(i:Binds X.K fd ps ds)(j:Vals mS ds)(n:Passes CX X E)
  (p:eval (.Call (.Attribute o m apos) [] [] pos) X.env=(do
   let d ←eval o X.env
   standAt apos.atName
   let (f,first) ←holding [d] (getMethod d m pl)
   callWith pos f first (backTo pos (starEach [] X.env)) (backToKw pos (keywordEach [] X.env))):=by rfl) :
  PE X (.Call (.Attribute o m apos) [] [] pos) (AQ C m sp mS E ta xZ):=by
 intro pins s r H Q I h;refine PySem.W.methodCall_KW (pl:=pl) (cC (e pins s r H _ I h) λu t ⟨x,H1,I1,rx,a,dx,fs,ex,ea,l,q⟩=>?_) p
 subst ex;obtain rfl:u=Value.ref a:=rx;refine j_ I1 ea c b l ?_;exact PySem.W.callWith_K0 (first:=[.ref a]) I1.h_ b.kp (mT (us:=[.ref a]) (vs:=[.ref a]) F g i j n I1 (.cons rfl .nil) q)
structure Mk(K:PySem.W.Frag)(C f:Addr):Prop where
 makes:PySem.W.makesIn K C=true
 init:PySem.W.findIn K (.ref C) "__init__"=some (some (.ref f))
 fn:PySem.W.isFn K (.ref f)=true
 kp:PySem.W.keepIn K (.ref C)=true
theorem ou{pins:List (Addr×Obj)}{d:St}{H:Hp}{s:Shared}{Q:VK}{us:List Value}{vs:List V}(M:Mk X.K C f)(F:dc X.prog X.w X.K X.mg X.base CX k f fd ps sp)(j:cP (k+1) X.A)(l:Binds X.K fd ps ds)(m:Vals mS ds)
  (n:Passes CX X E) (I:Inv X pins d H s) (r:Vals vs us)
  (h:∀x b,H x=none->H b=none->b≠x->sp (.ref x::(vs++mS)) (upd (upd H b (.own x)) x (.ins C b [])) (λv o=>v=.non/\Q (.ref x) o) E) :
  wpAny (model X.prog X.w) X.A (call (.ref C) us) (EP X pins d Q) X.xe s:=by
 have g:=h (s.heap.objs.size+1) s.heap.objs.size (I.hok.fresh (Nat.le_succ _)) (I.hok.fresh (Nat.le_refl _)) (Nat.ne_of_lt (Nat.lt_succ_self _));have c:=Inv.made (C:=C) I;have i:Vals (V.ref (s.heap.objs.size+1)::(vs++mS)) (Value.ref (s.heap.objs.size+1)::(us++ds)):=.cons rfl (r.append m)
 have p:(Value.ref (s.heap.objs.size+1)::us++ds).length=ps.length:=by
  have e:=i.length;rw[F.len _ _ _ _ g]at e;exact e.symm
 refine wpAny_call (uW (f:=f) I.h_ M.makes M.init (beq_iff_eq.mp M.fn) (codeAny_mono (F.run _ X.stack _ _ ⟨Value.ref (s.heap.objs.size+1)::us,[]⟩ (Value.ref (s.heap.objs.size+1)::(us++ds)) _ _ E (j.make C us [])
  (c.env0.make C us []) (l _ (Value.ref (s.heap.objs.size+1)::us) c.h_ p) i g) λr q a=>?_))
 cases r with
 |error e=>exact n pins d _ _ e q c a
 |ok fl=>
  cases fl with
  |ret u=>
   obtain⟨v,t,y,z,B,D⟩:=c.after a;subst B;exact⟨z,⟨V.ref (s.heap.objs.size+1),t,y,rfl,D⟩⟩
  |next=>exact False.elim a
  |brk=>exact False.elim a
  |cont=>exact False.elim a
theorem x9(M:Mk X.K C f)(F:dc X.prog X.w X.K X.mg X.base CX k f fd ps sp)(c:cP (k+1) X.A)(d:Gl X x)(g:X.mg x=some (.ref C))(i:Binds X.K fd ps ds)(j:Vals mS ds)(l:Passes CX X E)
  (m:PA X (e::es) t) (a:(x==("__debug__":Str))=false:=by decide) (n:starEach (e::es) X.env=(false,eval e X.env)::starEach es X.env:=by rfl) (b:(backTo pos (starEach es X.env)).any (·.1)=false:=by rfl) :
  PE X (.Call (.Name x p) (e::es) [] pos) (AS C sp mS E t):=by
 intro pins s o H Q I h;refine wpAny_Call_Name_kw (ia I d g ?_ a);refine PySem.W.callWith_K (h₀:=X.base) I.ok.mod.Eu M.kp (cC (m pos pins s o H _ I h) λu y ⟨z,H1,I1,r,q⟩=>⟨I1.h_,?_⟩) n b
 exact ou M F c i j l I1 r q
theorem uZ(M:Mk X.K C f)(F:dc X.prog X.w X.K X.mg X.base CX k f fd ps sp)(b:cP (k+1) X.A)(c:Gl X x)(d:X.mg x=some (.ref C))(e:Binds X.K fd ps ds)(g:Vals mS ds)(i:Passes CX X E)
  (a:(x==("__debug__":Str))=false:=by decide):PE X (.Call (.Name x p) [] [] pos) (AS C sp mS E xZ):=by
 intro pins s j H Q I h;refine wpAny_Call_Name_kw (ia I c d ?_ a);exact PySem.W.callWith_K0 I.h_ M.kp (ou (us:=[]) M F b e g i I .nil h)
end
section
variable{X:Cx}{CX:tB}{k:Nat}{f C:Addr}{fd:FuncData}{ps ks:List Str}{sp:Sp}{E:XK}{x m:Str}{p pos apos Qz:Pos}{e o:Expr}{es:List Expr}{kws:List Keyword}{te ta:TE}{t tk:TA}{nm:Option Str}
variable{g:List Value->List Value->List Value}{gV:List V->List V->List V}
end
structure jB(N P:List Str)(sc:Scope):Prop where
 kind:sc.kind=.function
 co:sc.isCoroutine=false
 gen:sc.isGenerator=false
 nd:N.Nodup
 pre:N.take P.length=P
 par:∀x∈P,sc.names.lookup x=some .local\/sc.names.lookup x=some .cell
 BV:∀y∈sc.names,y.2≠.free
theorem lS{kindOf:Str->Option NameKind}{x:Str}:∀{binds:List (Str×Value)}{m:Str->Option Value},(∀v,(x,v)∉binds)->bindL kindOf binds m x=m x
 |[],_,_=>rfl
 | (n,v)::r,m,h=>by
  unfold bindL;rw[lS λw a=>h w (List.mem_cons_of_mem _ a)]
  split
  .have:x≠n:=by rintro rfl;exact h v List.mem_cons_self
   simp[this]
  .rfl
theorem lT{kindOf:Str->Option NameKind}{x:Str}:∀{binds:List (Str×Value)}{m:Str->Option Value},(∀v,(x,v)∉binds)->bindC kindOf binds m x=m x
 |[],_,_=>rfl
 | (n,v)::r,m,h=>by
  unfold bindC;rw[lT λw a=>h w (List.mem_cons_of_mem _ a)]
  split
  .rfl
  .have:x≠n:=by rintro rfl;exact h v List.mem_cons_self
   simp[this]
theorem lU{kindOf:Str->Option NameKind}{x:Str}{v:Value}:∀{P:List Str}{vs:List Value}{i:Nat}{m:Str->Option Value},P.Nodup->P[i]?=some x->vs[i]?=some v->kindOf x=some .local ->
  bindL kindOf (P.zip vs) m x=some v
 |[],_,_,_,_,h,_,_=>by simp at h
 |_::_,[],_,_,_,_,h,_=>by simp at h
 |p::P,w::vs,0,m,a,h1,h2,b=>by
  simp at h1 h2;subst h1;subst h2
  show bindL kindOf ((p,w)::P.zip vs) m p=_
  unfold bindL;rw[lS λv c=>(List.nodup_cons.mp a).1 (List.of_mem_zip c).1,if_pos b]
  simp
 |p::P,w::vs,i+1,m,a,h1,h2,b=>by
  show bindL kindOf ((p,w)::P.zip vs) m x=_
  unfold bindL;exact lU (i:=i) (List.nodup_cons.mp a).2 (by simpa using h1) (by simpa using h2) b
theorem lV{kindOf:Str->Option NameKind}{x:Str}{v:Value}:∀{P:List Str}{vs:List Value}{i:Nat}{m:Str->Option Value},P.Nodup->P[i]?=some x->vs[i]?=some v->kindOf x≠some .local ->
  bindC kindOf (P.zip vs) m x=some v
 |[],_,_,_,_,h,_,_=>by simp at h
 |_::_,[],_,_,_,_,h,_=>by simp at h
 |p::P,w::vs,0,m,a,h1,h2,b=>by
  simp at h1 h2;subst h1;subst h2
  show bindC kindOf ((p,w)::P.zip vs) m p=_
  unfold bindC;rw[lT λv c=>(List.nodup_cons.mp a).1 (List.of_mem_zip c).1,if_neg b]
  simp
 |p::P,w::vs,i+1,m,a,h1,h2,b=>by
  show bindC kindOf ((p,w)::P.zip vs) m x=_
  unfold bindC;exact lV (i:=i) (List.nodup_cons.mp a).2 (by simpa using h1) (by simpa using h2) b
noncomputable def start(N:List Str)(vs:List V):St:=vs.map some++List.replicate (N.length - vs.length) none
noncomputable def ov(CX:tB)(P:Program)(w:World)(K:PySem.W.Frag)(mg:Str->Option Value)(base:Heap)(N:List Str)(qual:Str)(scope:Scope)(f:Addr)(b:Value)(A:Around)(outer:List Env)(s:Shared)(H:Hp)(E:XK):Cx where
 prog:=P
 w:=w
 K:=K
 mg:=mg
 base:=base
 A:=A.deeper (envOfC qual scope s.heap.objs.size f b)
 N:=N
 s₀:=s
 H₀:=H
 env:=envOfC qual scope s.heap.objs.size f b
 outer:=outer
 stack:=envOfC qual scope s.heap.objs.size f b::outer
 ex:=[]
 calm:=true
 fn:=λ_=>true
 pn:=[]
 xe:=λe c=>wpAny (model P w) (A.deeper (envOfC qual scope s.heap.objs.size f b)) (leaving (envOfC qual scope s.heap.objs.size f b) e) (λ_ a=>CX outer H s E e a) (λd a=>CX outer H s E d a) c
theorem ow{a:Scope}{n:Nat}{x:Str}(h:a.names.lookup x=some .cell):∃c,(cellsFrom n a.names []).lookup x=some c:=by
 have q:=PySem.W.cellsFrom_some a.names n [] (.inl h);exact Option.isSome_iff_exists.mp q
theorem tD{CX:tB}{P:Program}{w:World}{K:PySem.W.Frag}{mg:Str->Option Value}{base:Heap}{N ps:List Str}{qual:Str}{scope:Scope}{f:Addr}{o:Value}{A:Around}{outer:List Env}{s C:Shared}{H:Hp}{E:XK}{us:List Value}{vs:List V}
  (S:jB N ps scope) (I:A.handled=none) (g:qf P w K mg base A outer s H) (O:vs.length=ps.length) (r:Vals vs us)
  (x:InCallC s s.heap.objs.size (bindL (envOfC qual scope s.heap.objs.size f o).kindOf (ps.zip us) λ_=>none) (cellsFrom (s.heap.objs.size+1) scope.names []) (bindC (envOfC qual scope s.heap.objs.size f o).kindOf (ps.zip us) λ_=>none) C) :
  Inv (ov CX P w K mg base N qual scope f o A outer s H E) [] (start N vs) H C:=by
 have J:ps.length<=N.length:=by have:=congrArg List.length S.pre;rw[List.length_take]at this;omega
 obtain⟨t,Q,rfl,D⟩:=x.done;have j:∀b:Addr,b∉(ov CX P w K mg base N qual scope f o A outer s H E).ex:=λb z=>absurd (show b∈([]:List Addr)from z) (by simp)
 refine⟨⟨g.mod,S.kind,rfl,rfl,Nat.le_refl _,λy z c t d=>?_,λy hy=>?_,λy c _ h=>?_,λ_=>I,Around.frames_deeper g.frames,.inr ⟨rfl,rfl⟩,λb z=>absurd z (j b),g.bs,g.AI,λb _ _=>j b,λb z=>absurd z (j b),g.jo,g.Bu⟩,
  rfl,g.bare,Un.kept D,⟨_,x.toInCall.ns,λi y v t d R=>?_⟩,λy c h=>⟨_,x.cell y c h⟩,g.hok.fresh (Nat.le_refl _),λy c h=>?_,λp l=>absurd (show p∈([]:List (Addr×Obj))from l) (by simp),g.hok.kept D,?_⟩
 .exact name_of_addr x.apart (PySem.mem_of_lookup t) (PySem.mem_of_lookup d)
 .have hy:scope.names.lookup y=some .cell\/scope.names.lookup y=some .free:=hy
  rcases hy with hy|hy
  .exact ow hy
  .exact absurd rfl (S.BV _ (PySem.mem_of_lookup hy))
 .exact Nat.le_of_lt (x.above y c (PySem.mem_of_lookup h))
 .have B:i<vs.length:=by
   unfold start at d
   by_cases B:i<vs.length
   .exact B
   .rw[List.getElem?_append_right (by simpa using B)]at d
    rw[List.getElem?_replicate]at d;split at d<;>cases d
  have L:vs[i]?=some v:=by
   unfold start at d;rw[List.getElem?_append_left (by simpa using B),List.getElem?_map]at d
   cases e:vs[i]? with
   |none=>rw[e]at d;cases d
   |some a=>rw[e]at d;cases d;rfl
  obtain⟨u,F,M⟩:=r.get L
  have l:ps[i]?=some y:=by
   rw[←S.pre,List.getElem?_take_of_lt (by omega)];exact t
  have m:ps.Nodup:=by rw[←S.pre];exact S.nd.sublist (List.take_sublist _ _)
  refine⟨u,M,?_⟩;rcases S.par y (List.mem_of_getElem? l)with k|k
  .exact .inl ⟨k,lU m l F k⟩
  .obtain⟨c,e⟩:=ow (n:=s.heap.objs.size+1) k
   refine .inr ⟨.inl k,c,e,?_⟩;have q:=x.cell y c e;rw[lV m l F (by show scope.names.lookup y≠_;rw[k];decide)]at q
   exact q
 .have G:=g.hok.fresh (Nat.le_of_lt (x.above y c (PySem.mem_of_lookup h)))
  exact⟨.inl G,λ_=>G⟩
 .unfold start
  show _=N.length
  rw[List.length_append,List.length_map,List.length_replicate];omega
theorem AU{CX:tB}{P:Program}{w:World}{K:PySem.W.Frag}{mg:Str->Option Value}{base:Heap}{k:Nat}{f:Addr}{name qual:Str}{params:Arguments}{body:List Stmt}{scope:Scope}{M kV j O a ct oc:Value}{R X:Option Addr}
  {B:Array (Option Value)}{N ps:List Str}{sp:Sp} (Y:K.lookup f=some ⟨oc,X,.func (PySem.W.fnOf name qual params body scope M kV j O R a ct),B⟩) (C:PySem.W.codeIn K a qual=true) (S:jB N ps scope)
  (l:∀vs H Q E,sp vs H Q E->vs.length=ps.length)
  (g:∀(A:Around) (outer:List Env) (s:Shared) (H:Hp) (vs:List V) (Q:VK) (E:XK),cP k (A.deeper (envOfC qual scope s.heap.objs.size f a))->sp vs H Q E ->
   ∃t,ja (ov CX P w K mg base N qual scope f a A outer s H E) body t/\t {nx:=λ_ d=>Q .non d,rt:=Q} (start N vs) H) :
  dc P w K mg base CX (k+1) f (PySem.W.fnOf name qual params body scope M kV j O R a ct) ps sp:=by
 refine⟨l,λA outer s H args Z vs Q E D m hb r p=>?_⟩
 have hl:=l _ _ _ _ p;have T:K.In s.heap:=m.mod.Eu.keeps λb o e=>(m.bs b o e).1
 have F:s.heap.NoLimit:=m.mod.nolimit.keeps λb o e=>(m.bs b o e).1
 have h:∀y∈ps.zip Z,scope.names.lookup y.1=some .local\/(scope.names.lookup y.1=some .cell/\((cellsFrom (s.heap.objs.size+1) scope.names []).lookup y.1).isSome=true):=λ⟨n,v⟩ hy=>by
  rcases S.par n (List.of_mem_zip hy).1 with q|q
  .exact .inl q
  .exact .inr ⟨q,PySem.W.cellsFrom_some _ _ _ (.inl q)⟩
 refine codeAny_call_function D.depth (T _ _ Y) rfl S.co S.gen rfl (PySem.W.codeRec_of T C) (hb _ _ _ _ ?_);refine wpAny_newFunctionEnv_cells S.kind h λa0 he U x=>?_
 subst he;refine⟨F.keeps x.toInCall.keep,codeAny_func ?_⟩;obtain⟨t,ht,hq⟩:=g A outer s H vs Q E (D.deeper _) p;have I:Inv (ov CX P w K mg base N qual scope f a A outer s H E) [] (start N vs) H U:=tD S D.hd m hl r x;refine wpAny_mono (ht [] U (start N vs) H _ I hq) (λfl G i=>?_) λe G i=>i
 have z:∀{c:St}{d:Hp}{v:V}{u:Value},Inv (ov CX P w K mg base N qual scope f a A outer s H E) [] c d G->RelV v u->Q v d->CE outer P w H s Q u G:=
  λ{c d v u} J L q=>⟨v,d,J.os,J.bare,J.base,J.hok,L,q⟩
 cases fl with
 |ret u=>
  obtain⟨v,c,d,J,L,q⟩:=i;exact z J L q
 |next=>
  obtain⟨c,d,J,q⟩:=i;exact z (v:=V.non) (u:=Value.none) J rfl q
 |brk=>
  obtain⟨_,_,_,q⟩:=i;exact False.elim q
 |cont=>
  obtain⟨_,_,_,q⟩:=i;exact False.elim q
section
variable{X:Cx}{x:Str}{p pos:Pos}{e:Expr}{es:List Expr}{t:TA}{id T:String}{r:List V->Hp->VK->Prop}
noncomputable def OJ(r:List V->Hp->VK->Prop)(t:TA):TE:=λa H Q=>t a H λb c=>r b c Q
theorem ka(d:ee X (.builtin id) r)(f:Gl X x)(g:X.mg x=none)(i:bootBuiltins x=some (.builtin id))(j:PA X (e::es) t)(k:x≠"__name__":=by decide)(a:(x==("__debug__":Str))=false:=by decide)
  (l:starEach (e::es) X.env=(false,eval e X.env)::starEach es X.env:=by rfl) (b:(backTo pos (starEach es X.env)).any (·.1)=false:=by rfl):PE X (.Call (.Name x p) (e::es) [] pos) (OJ r t):=by
 intro pins s c H Q I h;refine wpAny_Call_Name_kw (jY I f g i ?_ k a);exact PyProof.Rows.callWith_builtin1 (cC (j pos pins s c H _ I h) λm n ⟨o,H1,I1,r1,q1⟩=>d pins n c H1 o m Q I1 r1 q1) l b
theorem tE(d:ee X (.type T) r)(f:Gl X x)(g:X.mg x=none)(i:bootBuiltins x=some (.type T))(j:PA X (e::es) t)(k:x≠"__name__":=by decide)(a:(x==("__debug__":Str))=false:=by decide)
  (l:starEach (e::es) X.env=(false,eval e X.env)::starEach es X.env:=by rfl) (b:(backTo pos (starEach es X.env)).any (·.1)=false:=by rfl):PE X (.Call (.Name x p) (e::es) [] pos) (OJ r t):=by
 intro pins s c H Q I h;refine wpAny_Call_Name_kw (jY I f g i ?_ k a);exact PyProof.Rows.callWith_type1 (cC (j pos pins s c H _ I h) λm n ⟨o,H1,I1,r1,q1⟩=>d pins n c H1 o m Q I1 r1 q1) l b
end
end L2
namespace HT
open PySem PyProof.Rows
section
open PySem.SeqAt
open PySem.AutoSeq1 (wpAny_loadPart')
open PySem.MeetsSeq PySem.MeetsSeq2 PySem.MeetsSeq3
end
section
variable{prog:Program}{w:World}{A:Around}{E:Value->Shared->Prop}{s:Shared}
noncomputable def gv(n d:Nat):Option Int->Nat
 |none=>d
 |some v=>if v<0 then (v+(n:Int)).toNat else min v.toNat n
theorem ox(n d:Nat):gv n d none=d:=rfl
theorem jC(n d k:Nat):gv n d (some (k:Int))=min k n:=by
 show(if (k:Int)<0 then ((k:Int)+(n:Int)).toNat else min (k:Int).toNat n)=min k n
 rw[if_neg (by omega),Int.toNat_natCast]
theorem qh(n d:Nat)(b:d<=n)(o:Option Int):gv n d o<=n:=by
 cases o with
 |none=>exact b
 |some v=>
  show(if v<0 then (v+(n:Int)).toNat else min v.toNat n)<=n
  by_cases a:v<0
  .rw[if_pos a];omega
  .rw[if_neg a];exact Nat.min_le_right _ _
end
end HT
namespace L2
open PySem PySem.Spec PyProof.Rows
abbrev TO:=St->Hp->(Option Int->Hp->Prop)->Prop
def PO(X:Cx)(e:Option Expr)(t:TO):Prop:=
 ∀(pins:List (Addr×Obj)) (s:Shared) (a:St) (H:Hp) (Q:Option Int->Hp->Prop),Inv X pins a H s->t a H Q ->
  wpAny (model X.prog X.w) X.A (evalPart e X.env) (λu c=>∃o b,Inv X pins a b c/\IsPart u o/\Q o b) X.xe s
noncomputable def rr:TO:=λ_ H Q=>Q none H
noncomputable def ES(t:TE):TO:=λa H Q=>t a H λx b=>∃i,x=.int i/\Q (some i) b
theorem intsAre_of{ns:List Int}:∀{us:List Value},Vals (ns.map V.int) us->IntsAre us ns:=by
 induction ns with
 |nil=>intro us r;rw[List.map_nil]at r;cases r;exact .nil
 |cons n ns a=>
  intro us r;rw[List.map_cons]at r;cases r with
  |cons b c=>
   obtain⟨t,e⟩:=b;subst e;exact .cons n t (a c)
section
variable{X:Cx}{e:Expr}{te:TE}{lo hi:Option Expr}{tl th:TO}{pos p2:Pos}
theorem x_:PO X none rr:=by
 intro pins s a H Q I h;rw[evalPart_none];exact wpAny_pure ⟨none,H,I,.none,h⟩
theorem ya(h:PE X e te):PO X (some e) (ES te):=by
 intro pins s a H Q I b;rw[evalPart_some];refine cC (h pins s a H _ I b) λu c ⟨x,H1,I1,r1,q1⟩=>?_
 obtain⟨i,rfl,q⟩:=q1;obtain⟨t,rfl⟩:=r1;exact⟨some i,H1,I1,.int i t,q⟩
def BW(X:Cx)(r:V->Option Int->Option Int->Hp->VK->Prop):Prop:=
 ∀(pins:List (Addr×Obj)) (s:Shared) (a:St) (H:Hp) (x:V) (v b c:Value) (d e:Option Int) (f:Addr) (Q:VK),Inv X pins a H s->RelV x v->s.heap.IsSliceOf f b c .none->IsPart b d->IsPart c e->r x d e H Q ->
  ∃T g,typeLookup (.type T) "__getitem__"=pure (some (.builtin g))/\s.TypeIs v T/\wpAny (model X.prog X.w) X.A (getItem v (.ref f)) (EP X pins a Q) X.xe s
theorem BW.or{r c:V->Option Int->Option Int->Hp->VK->Prop}(h:BW X r)(h':BW X c):BW X (λx a b H Q=>r x a b H Q\/c x a b H Q):=by
 intro pins s d H x v e f a b g Q I i j k l q;rcases q with q|q
 .exact h pins s d H x v e f a b g Q I i j k l q
 .exact h' pins s d H x v e f a b g Q I i j k l q
noncomputable def QA(r:V->Option Int->Option Int->Hp->VK->Prop)(b:TE)(tl c:TO):TE:=λa H Q=>b a H λx d=>tl a d λl e=>c a e λu f=>r x l u f Q
theorem fZ{r:V->Option Int->Option Int->Hp->VK->Prop}(g:BW X r)(i:PE X e te)(j:PO X lo tl)(k:PO X hi th):PE X (.Subscript e (.Slice lo hi none p2) pos) (QA r te tl th):=by
 intro pins s a H Q I h;refine Subscript_ (cC (i pins s a H _ I h) λv m ⟨x,H1,I1,n,q1⟩=>?_)
 refine wpAny_Slice (cC (j pins m a H1 _ I1 q1) λc o ⟨l,H2,I2,p,q2⟩=>cC (k pins o a H2 _ I2 q2) λd s3 ⟨u,f,t,y,z⟩=>?_)
 rw[evalPart_none];refine wpAny_pure ?_;have B:Inv X pins a f {s3 with heap:=s3.heap.push {cls:=.type "slice",data:=.fields #[c,d,.none]} }:=t.kept (t':=s3.toks) λb F q=>Heap.get?_push_of_some _ q
 obtain⟨T,G,C,D,E⟩:=g pins {s3 with heap:=s3.heap.push {cls:=.type "slice",data:=.fields #[c,d,.none]} } a f x v c d l u s3.heap.objs.size Q B n (Heap.IsSliceOf.new ..) p y z
 show wpAny (model X.prog X.w) X.A (subscriptTail e (.Slice lo hi none p2) v (.ref s3.heap.objs.size)) (EP X pins a Q) X.xe {s3 with heap:=s3.heap.push {cls:=.type "slice",data:=.fields #[c,d,.none]} }
 exact tail_any (ops:=[.ref s3.heap.objs.size,v]) D C E (by with_unfolding_all rfl)
def tF(xs:List V)(a b:Option Int):List V:=(xs.drop (HT.gv xs.length 0 a)).take (HT.gv xs.length xs.length b - HT.gv xs.length 0 a)
theorem oy(xs:List V)(a b:Option Int):(tF xs a b).length<=xs.length:=by
 unfold tF;rw[List.length_take,List.length_drop];omega
end
noncomputable def AV(n:Nat)(i:Int):Option Nat:=if 0<=i then (if i<n then some i.toNat else none)else if -(n:Int)<=i then some (i+n).toNat else none
def jD{a:Type}(xs:List a)(i:Int):Option a:=(AV xs.length i).bind λj=>xs[j]?
theorem yb{n:Nat}{i:Int}{j:Nat}(h:AV n i=some j):seqIndex? i n=some j/\j<n /\ -(n:Int)<=i/\i<n:=by
 unfold AV at h
 by_cases b:0<=i
 .rw[if_pos b]at h
  by_cases a:i<n
  .rw[if_pos a]at h
   have e:i.toNat=j:=Option.some.inj h;exact⟨by rw[seqIndex_of b a,e],by omega,by omega,a⟩
  .rw[if_neg a]at h;cases h
 .rw[if_neg b]at h
  by_cases a : -(n:Int)<=i
  .rw[if_pos a]at h
   have e:(i+n).toNat=j:=Option.some.inj h;exact⟨by rw[seqIndex_neg (by omega) a,e],by omega,a,by omega⟩
  .rw[if_neg a]at h;cases h
theorem mU{a:Type}{xs:List a}{i:Int}{v:a}(h:jD xs i=some v):∃j,seqIndex? i xs.length=some j/\xs[j]?=some v/\j<xs.length /\ -(xs.length:Int)<=i/\i<xs.length:=by
 unfold jD at h;cases e:AV xs.length i with
 |none=>rw[e]at h;cases h
 |some j=>
  rw[e]at h;obtain⟨b,c,d,f⟩:=yb e;exact⟨j,b,h,c,d,f⟩
theorem cQ{a:Type}{xs:List a}{j:Nat}{v:a}(h:xs[j]?=some v):jD xs (j:Int)=some v:=by
 have b:j<xs.length:=(List.getElem?_eq_some_iff.mp h).1
 have e:AV xs.length (j:Int)=some j:=by
  unfold AV;rw[if_pos (by omega),if_pos (by omega)];simp
 unfold jD;rw[e];exact h
def rz(b:Expr):Prop:=∀o i,subscripted b false o i=operate [o,i] (getItem o i)
def yc(X:Cx)(r:R2):Prop:=
 ∀(b a:Expr) (pins:List (Addr×Obj)) (s:Shared) (c:St) (H:Hp) (x y:V) (v u:Value) (Q:VK),Inv X pins c H s->RelV x v->RelV y u->r x y H Q ->
  subscripted a false v u=operate [v,u] (getItem v u)->wpAny (model X.prog X.w) X.A (subscriptTail b a v u) (EP X pins c Q) X.xe s
def D_(X:Cx)(d:String)(r:V->List V->Hp->VK->Prop):Prop:=
 ∀(pins:List (Addr×Obj)) (s:Shared) (a:St) (H:Hp) (x:V) (b:List V) (v:Value) (c:List Value) (Q:VK),Inv X pins a H s->RelV x v->Vals b c->r x b H Q ->
  wpAny (model X.prog X.w) X.A (call (.builtin d) (v::c)) (EP X pins a Q) X.xe s
section
variable{X:Cx}{a b:Expr}{ta tb:TE}{pos:Pos}
theorem yc.or{r c:R2}(h:yc X r)(h':yc X c):yc X (λx y H Q=>r x y H Q\/c x y H Q):=by
 intro a b pins s d H x y v u Q I e f q g;rcases q with q|q
 .exact h a b pins s d H x y v u Q I e f q g
 .exact h' a b pins s d H x y v u Q I e f q g
theorem AW{r:R2}(c:yc X r)(d:PE X a ta)(e:PE X b tb)(f:rz b):PE X (.Subscript a b pos) (AL r ta tb):=by
 intro pins s g H Q I h;exact Subscript_ (BI d e I h λv u i x y j k l m q=>c a b pins i g j x y v u Q k l m q (f _ _))
def ET(K:PySem.W.Frag):R2:=λx y H Q=>∃p a i v,x=.ref p/\y=.int i/\jb K H p a/\jD a i=some v/\Q v H
def EU(K:PySem.W.Frag):R2:=λx y H Q=>∃p a i v,x=.ref p/\y=.int i/\pT K H p a/\jD a i=some v/\Q v H
def EV:R2:=λx y H Q=>∃z i c,x=.str z/\y=.int i/\z.length<=sizeLine/\jD z.cps.toList i=some c/\Q (.str ⟨#[c]⟩) H
theorem yd:yc X (ET X.K):=by
 intro c d pins s l H x y v u Q I A B h m;obtain⟨p,M,i,z,rfl,rfl,C,D,q⟩:=h;cases A;obtain⟨t,rfl⟩:=B;obtain⟨e,r,f,N⟩:=I.list C;obtain⟨j,b,E,O,F,G⟩:=mU D;obtain⟨w,n,g⟩:=r.get E;have J:=r.length;have P:=gS;have a:EP X pins l Q w s:=⟨z,H,I,g,q⟩
 by_cases o:0<=i
 .have k:i.toNat=j:=by
   rw[seqIndex_of o G]at b;exact Option.some.inj b
  exact item_listR f.isList o (by omega) (by rw[k];simpa using n) a m
 .have k:(i+(e.toArray.size:Int)).toNat=j:=by
   rw[seqIndex_neg (by omega) F]at b
   rw[List.size_toArray,←J];exact Option.some.inj b
  exact subscriptTail_builtinR (x:=w) f.isList.typeIs slot_list_getitem.lookup
   (wpAny_getItem_list_neg (Q:=λr L=>r=w/\EP X pins l Q r L) f.isList (by omega) (by rw[List.size_toArray]<;>omega) (by omega) (by rw[k];simpa using n) ⟨rfl,a⟩) m
theorem BX:yc X (EU X.K):=by
 intro a b pins s e H x y v u Q I g k h l;obtain⟨p,F,i,z,rfl,rfl,m,n,q⟩:=h;cases g;obtain⟨t,rfl⟩:=k;obtain⟨o,r,f,G⟩:=I.tuple m;obtain⟨j,A,B,J,L,M⟩:=mU n;obtain⟨w,C,c⟩:=r.get B;have D:=r.length;have N:=gS;have d:EP X pins e Q w s:=⟨z,H,I,c,q⟩
 exact subscriptTail_builtinR (x:=w) f.typeIs slot_tuple_getitem.lookup
  (getItem_tuple (j:=j) (Q:=λr E=>r=w/\EP X pins e Q r E) f (by omega) (by omega) (by rw[List.size_toArray,←D];exact A) (by simpa using C) ⟨rfl,d⟩) l
theorem BY:yc X EV:=by
 intro a b pins s w H x y v u Q I e f h g;obtain⟨z,i,c,rfl,rfl,A,k,q⟩:=h;obtain⟨t,rfl⟩:=e;obtain⟨B,rfl⟩:=f;obtain⟨j,d,l,C,m,n⟩:=mU k;have o:z.cps.toList.length=z.length:=by simp[Str.length]
 rw[o]at d m n;have D:=gS
 exact tail_any (typeIs_str s z t) slot_str_getitem.lookup (getItem_str (c:=c) (by
  have p:decide (i < -(2 ^ 63:Int))=false:=decide_eq_false (by omega)
  have r:decide (i≥2 ^ 63)=false:=decide_eq_false (by omega)
  rw[p,r,Bool.or_false]) (by rw[d];simpa using l) ⟨.str ⟨#[c]⟩,H,I.tok _,⟨_,rfl⟩,q⟩) g
def Ik(K:PySem.W.Frag):R2:=λx y H Q=>ET K x y H Q\/EU K x y H Q\/EV x y H Q
theorem u9:yc X (Ik X.K):=yd.or (BX.or BY)
theorem Inv.lst{pins:List (Addr×Obj)}{b:St}{H:Hp}{s:Shared}{p:Addr}{xs:List V}(I:Inv X pins b H s)(h:H p=some (.lst xs)) :
  ∃(a:List Value) (n:Nat),Vals xs a/\s.heap.get? p=some {cls:=.type "list",data:=.seq a.toArray n}/\xs.length<=sizeLine:=by
 obtain⟨z,a,n,r,e⟩:=I.hok p _ h;exact⟨a,n,r,e,z⟩
theorem mV(a b:Option Int)(n:Nat):(sliceBounds a b none n).1=((HT.gv n 0 a:Nat):Int)/\(sliceBounds a b none n).2.1=((HT.gv n n b:Nat):Int)/\(sliceBounds a b none n).2.2=1:=by
 refine⟨?_,?_,rfl⟩
 .cases a with
  |none=>simp[sliceBounds,HT.gv]
  |some i=>
   simp only[sliceBounds,HT.gv,Option.getD_none,show(1:Int)>0 by decide,if_true]
   by_cases h:i<0
   .simp only[h,if_true]<;>omega
   .simp only[h,if_false]<;>omega
 .cases b with
  |none=>simp[sliceBounds,HT.gv]
  |some i=>
   simp only[sliceBounds,HT.gv,Option.getD_none,show(1:Int)>0 by decide,if_true]
   by_cases h:i<0
   .simp only[h,if_true]<;>omega
   .simp only[h,if_false]<;>omega
theorem lF(a:List Value)(b c:Option Int):slicePick a.toArray b c none=((a.drop (HT.gv a.length 0 b)).take (HT.gv a.length a.length c - HT.gv a.length 0 b)).toArray:=by
 obtain⟨d,e,f⟩:=mV b c a.toArray.size;unfold slicePick;rw[d,e,f];simp only[sliceRange_one,pick_run,List.size_toArray]<;>rfl
def EW(K:PySem.W.Frag):V->Option Int->Option Int->Hp->VK->Prop:=λx c d H Q=>∃a b,x=.ref a/\jb K H a b/\∀p,H p=none->Q (.ref p) (upd H p (.lst (tF b c d)))
theorem ig:BW X (EW X.K):=by
 intro pins s t H x v u w e f y Q I i j k l h;obtain⟨a,c,rfl,m,q⟩:=h;cases i;obtain⟨n,r,g,p⟩:=I.list m;have d:=r.length;refine⟨"list",_,slot_list_getitem.lookup,g.isList.typeIs,?_⟩;refine wpAny_getItem_list_slice g.isList j k l .none (by simp) ?_ (by rw[List.size_toArray]<;>omega)
 rw[lF,←d];refine⟨.ref s.heap.objs.size,_,I.laid (t':=s.toks) (o:=.lst (tF c e f)) (λb z q=>Heap.get?_push_of_some _ q) (Nat.le_refl _) ?_,rfl,q _ (I.hok.fresh (Nat.le_refl _))⟩
 exact⟨Nat.le_trans (oy c e f) p,_,0,(r.drop (HT.gv c.length 0 e)).take (HT.gv c.length c.length f - HT.gv c.length 0 e),Heap.get?_push_size _ rfl⟩
theorem mW:ee X (.builtin "len") (λxs H Q=>∃p b,xs=[.ref p]/\(jb X.K H p b\/pT X.K H p b)/\Q (.int b.length) H):=by
 intro pins s i H xs j Q I r h;obtain⟨p,b,rfl,hq,q⟩:=h;obtain⟨u,rfl,f⟩:=vals1 r;cases f;have k:=gS;rcases hq with hq|hq
 .obtain⟨c,d,e,g⟩:=I.list hq
  have a:=d.length;exact Calls.call_len_list e.isList (by simp only[List.size_toArray]<;>omega) ⟨.int b.length,H,I.tok _,⟨s.toks+1,by rw[List.size_toArray,a]⟩,q⟩
 .obtain⟨c,d,e,g⟩:=I.tuple hq
  have a:=d.length;exact len_tuple e (by simp only[List.size_toArray]<;>omega) ⟨.int b.length,H,I.tok _,⟨s.toks+1,by rw[List.size_toArray,a]⟩,q⟩
theorem mX:ee X (.builtin "len") (λxs H Q=>∃z,xs=[.str z]/\z.length<=sizeLine/\Q (.int z.length) H):=by
 intro pins s a H xs b Q I r h;obtain⟨z,rfl,c,q⟩:=h;obtain⟨u,rfl,t,rfl⟩:=vals1 r;have d:=gS;exact len_str (by omega) ⟨.int z.length,H,I.tok _,⟨_,rfl⟩,q⟩
theorem mY:ee X (.type "list") (λxs H Q=>∃p d,xs=[.ref p]/\(jb X.K H p d\/pT X.K H p d)/\∀l,H l=none->Q (.ref l) (upd H l (.lst d))):=by
 intro pins s B H xs D Q I r h;obtain⟨p,d,rfl,hq,q⟩:=h;obtain⟨u,rfl,C⟩:=vals1 r;cases C
 have i:∀(a:List Value),Vals d a->d.length<=sizeLine->∀(c:Heap) (f:Nat),(∀b A,s.heap.get? b=some A->c.get? b=some A) ->
   c.get? s.heap.objs.size=some {cls:=.type "list",dict:=none,data:=.seq a.toArray f,slots := #[]}->EP X pins B Q (.ref s.heap.objs.size) {s with heap:=c}:=λa g j c f k e=>
  ⟨.ref s.heap.objs.size,_,I.laid (t':=s.toks) k (Nat.le_refl _) (show cw X.prog X.w _ c _ (.lst d)from⟨j,a,f,g,e⟩),rfl,q _ (I.hok.fresh (Nat.le_refl _))⟩
 rcases hq with hq|hq
 .obtain⟨a,g,t,j⟩:=I.list hq
  have m:=g.length;obtain⟨o,x,y,n,z⟩:=t.isList;exact call_list_seq p (.inl rfl) x y z (λc f k e=>i a g j c f k e) (by simp only[List.size_toArray]<;>omega)
 .obtain⟨a,g,t,j⟩:=I.tuple hq
  have m:=g.length;obtain⟨o,x,y,n,z⟩:=t;exact call_list_seq p (.inr rfl) x y z (λc f k e=>i a g j c f k e) (by simp only[List.size_toArray]<;>omega)
theorem lG:ee X (.type "tuple") (λxs H Q=>∃p c,xs=[.ref p]/\((jb X.K H p c/\∀l,H l=none->Q (.ref l) (upd H l (.tup c)))\/(pT X.K H p c/\Q (.ref p) H))):=by
 intro pins s j H xs z Q I r h;obtain⟨p,c,rfl,h⟩:=h;obtain⟨u,rfl,t⟩:=vals1 r;cases t;rcases h with ⟨f,q⟩|⟨f,q⟩
 .obtain⟨a,g,i,k⟩:=I.list f
  have m:=g.length;refine call_tuple_list i.isList (λd x=>?_) (by simp only[List.size_toArray]<;>omega)
  have n:Inv X pins j H {s with heap:=d}:=I.kept (t':=s.toks) x
  have y:Inv X pins j (upd H d.objs.size (.tup c)) {s with heap:=d.push {cls:=.type "tuple",data:=.seq a.toArray} }:=
   n.laid (t':=s.toks) (λb o e=>Heap.get?_push_of_some _ e) (Nat.le_refl _) (show cw X.prog X.w _ _ _ (.tup c)from⟨k,a,g,IsTup.new _ _⟩)
  exact⟨.ref d.objs.size,_,y,rfl,q _ (n.hok.fresh (Nat.le_refl _))⟩
 .obtain⟨a,g,i,k⟩:=I.tuple f
  exact call_tuple_same i ⟨.ref p,H,I,rfl,q⟩
def BZ(K:PySem.W.Frag)(T:String)(x:V)(H:Hp):Prop:=match x with
 |.str _=>T="str"
 |.int _=>T="int"
 |.ref p=>(T="list"/\∃b,jb K H p b)\/(T="tuple"/\∃o,K.lookup p=some o/\o.cls=.type "tuple"/\o.dict=none) \/
   (T="dict"/\((∃a,H p=some (.dK a))\/∃a,H p=some (.dT a)))\/(T="set"/\∃S n,H p=some (.set S n))
 |_=>False
theorem u_{pins:List (Addr×Obj)}{l:St}{H:Hp}{s:Shared}{T:String}{x:V}{v:Value}(I:Inv X pins l H s)(r:RelV x v)(f:BZ X.K T x H) :
  s.TypeIs v T/\∀a,v=.ref a->∃ob,s.heap.get? a=some ob/\ob.dict=none:=by
 cases x with
 |str z=>
  obtain⟨t,rfl⟩:=r;cases (show T="str" from f)
  exact⟨typeIs_str s z t,λ_ e=>nomatch e⟩
 |int i=>
  obtain⟨t,rfl⟩:=r;cases (show T="int" from f)
  exact⟨typeIs_int s i t,λ_ e=>nomatch e⟩
 |ref p=>
  cases r;rcases f with ⟨rfl,w,m⟩|⟨rfl,o,b,q,g⟩|⟨rfl,b⟩|⟨rfl,S,n,b⟩
  .obtain⟨u,_,k,_⟩:=I.list m
   refine⟨k.isList.typeIs,λa e=>?_⟩
   cases e;obtain⟨o,n,e,c,g,_⟩:=k;exact⟨o,e,g⟩
  .refine⟨⟨o,I.h_ p o b,q⟩,λa e=>?_⟩
   cases e;exact⟨o,I.h_ _ o b,g⟩
  .have z:∃o,s.heap.get? p=some o/\o.ExactDict:=by
    rcases b with ⟨h,b⟩|⟨h,b⟩
    .obtain⟨_,_,_,_,o,_,_,e,d,_⟩:=I.hok p _ b
     exact⟨o,e,d⟩
    .obtain⟨_,_,_,_,o,_,_,e,d,_⟩:=I.hok p _ b
     exact⟨o,e,d⟩
   obtain⟨o,e,d⟩:=z;refine⟨⟨o,e,d.1⟩,λa j=>?_⟩
   cases j;exact⟨o,e,d.2.1⟩
  .obtain⟨o,_,_,_,e,d,_⟩:=I.hok p _ b
   refine⟨⟨o,e,d.1⟩,λa j=>?_⟩
   cases j;exact⟨o,e,d.2.1⟩
 |_=>exact False.elim f
noncomputable def Kn(K:PySem.W.Frag)(T:String)(r:V->List V->Hp->VK->Prop)(b:TE):TE:=λc H Q=>b c H λx a=>BZ K T x a/\r x [] a Q
noncomputable def QB(K:PySem.W.Frag)(T:String)(r:V->List V->Hp->VK->Prop)(c:TE)(t:TA):TE:=λa H Q=>c a H λx b=>BZ K T x b/\t a b λd e=>r x d e Q
variable{o e:Expr}{es:List Expr}{to:TE}{t:TA}{name:Str}{apos cpos:Pos}{T id:String}{r:V->List V->Hp->VK->Prop}
theorem B8(e:PlainAttrs T)(slot:Slot T name id)(c:typeOf (.builtin id)=pure (.type "method_descriptor"))(f:D_ X id r)(g:PE X o to)
  (a:attributeBase o name X.env (eval o X.env)=eval o X.env:=by rfl) (b:(apos.endLine==cpos.line)=true:=by rfl):PE X (.Call (.Attribute o name apos) [] [] cpos) (Kn X.K T r to):=by
 intro pins s d H Q I h;refine wpAny_Call_method0_late a b (cC (g pins s d H _ I h) λv i ⟨x,H1,I1,r1,ty,q1⟩=>?_)
 obtain⟨j,k⟩:=u_ I1 r1 ty;exact⟨T,id,e,slot,c,j,k,Calls.callWith_builtin rfl (PySem.evalArgs_none (f pins i d H1 x [] v [] Q I1 r1 .nil q1))⟩
theorem EX(j:PlainAttrs T)(slot:Slot T name id)(f:typeOf (.builtin id)=pure (.type "method_descriptor"))(k:D_ X id r)(l:PE X o to)(m:PA X (e::es) t)
  (b:attributeBase o name X.env (eval o X.env)=eval o X.env:=by rfl)
  (d:((backTo cpos (starEach (e::es) X.env)).all (λx=>!x.1)&&(backToKw cpos (keywordEach [] X.env)).all (λx=>x.1.isSome)
   && decide ((e::es).length+([]:List Keyword).length+(if ([]:List Keyword).isEmpty then 0 else 1)<30))=true:=by rfl)
  (c:(apos.endLine==cpos.line)=true:=by rfl) (n:starEach (e::es) X.env=(false,eval e X.env)::starEach es X.env:=by rfl) (a:(backTo cpos (starEach es X.env)).any (·.1)=false:=by rfl) :
  PE X (.Call (.Attribute o name apos) (e::es) [] cpos) (QB X.K T r to t):=by
 intro pins s g H Q I h;refine wpAny_Call_method_late b d c rfl (cC (l pins s g H _ I h) λv p ⟨x,H1,I1,r1,ty,q1⟩=>?_)
 obtain⟨q,u⟩:=u_ I1 r1 ty;refine⟨T,id,j,slot,f,q,u,?_⟩;have i:=m cpos pins p g H1 _ I1 q1;rw[n]at i ⊢;refine Calls.callWith_builtin (by show(false||(backTo cpos (starEach es X.env)).any (·.1))=false;rw[a]<;>rfl) (Calls.evalArgs_plain ?_)
 exact cC i λw y ⟨z,A,B,C,D⟩=>k pins y g A x z v w Q B r1 C D
end
def Il(X:Cx)(d:String)(r:V->List V->Hp->VK->Prop):Prop:=
 ∀(pins:List (Addr×Obj)) (s:Shared) (a:St) (H:Hp) (x:V) (b:List V) (v:Value) (c:List Value) (Q:VK),Inv X pins a H s->RelV x v->Vals b c->r x b H Q ->
  wpAny (model X.prog X.w) X.A (call (.builtin d) (v::c)) (EP X pins a Q) X.xe s
theorem Vals.one:∀{x:V}{us:List Value},Vals [x] us->∃u,us=[u]/\RelV x u
 |_,_,.cons r .nil=>⟨_,rfl,r⟩
theorem Vals.two:∀{x y:V}{us:List Value},Vals [x,y] us->∃u v,us=[u,v]/\RelV x u/\RelV y v
 |_,_,_,.cons r (.cons q .nil)=>⟨_,_,rfl,r,q⟩
theorem Vals.zero:∀{us:List Value},Vals [] us->us=[]
 |_,.nil=>rfl
theorem Vals.reverse{xs:List V}{us:List Value}(h:Vals xs us):Vals xs.reverse us.reverse:=by
 induction h with
 |nil=>exact .nil
 |cons r t a=>rw[List.reverse_cons,List.reverse_cons];exact Vals.append a (.cons r .nil)
section
variable{X:Cx}{pins:List (Addr×Obj)}{σ:St}{H:Hp}{s:Shared}{l b:Addr}{xs ys zs:List V}
theorem Inv.ye{a its':List Value}{n:Nat}{f:Array Value->Array Value}{t':Nat}(I:Inv X pins σ H s)(b:H l=some (.lst xs))
  (e:s.heap.get? l=some {cls:=.type "list",data:=.seq a.toArray n}) (c:f a.toArray=its'.toArray) (d:Vals ys its') (hz:ys.length<=sizeLine) :
  Inv X pins σ (upd H l (.lst ys)) {s with heap:=s.heap.update l (Obj.mapSeq f),toks:=t' }:=by
 have q:=PySem.IsL.update e f;rw[c]at q;refine I.write (x:=l) (e:=l) (by rw[b];exact trivial) (.inl rfl) (λi u g h=>(Heap.get?_update_other s.heap (Obj.mapSeq f) (Ne.symm g)).trans h) ⟨_,q⟩ ?_
 exact⟨hz,its',_,d,q⟩
theorem Inv.Ko{a:List Value}{t':Nat}(I:Inv X pins σ H s)(b:Vals ys a)(hz:ys.length<=sizeLine) :
  Inv X pins σ (upd H s.heap.objs.size (.lst ys)) {s with heap:=s.heap.push {cls:=.type "list",data:=.seq a.toArray},toks:=t' }:=
 I.laid (λ_ _ q=>Heap.get?_push_of_some _ q) (Nat.le_refl _) ⟨hz,a,0,b,Heap.get?_push_size _ rfl⟩
theorem Inv.fresh(I:Inv X pins σ H s):H s.heap.objs.size=none:=I.hok.fresh (Nat.le_refl _)
theorem Inv.va(I:Inv X pins σ H s)(b:H l=some (.lst xs)):xs.length<=sizeLine/\∃(a:List Value) (n:Nat),Vals xs a/\xs.length=a.length/\s.heap.get? l=some {cls:=.type "list",data:=.seq a.toArray n}:=by
 obtain⟨z,a,n,r,e⟩:=I.hok l _ b;exact⟨z,a,n,r,r.length,e⟩
theorem vb{n:Nat}(h:n<=sizeLine):Builtin.List.listTooLong n=false:=by
 unfold Builtin.List.listTooLong;exact decide_eq_false (by omega)
end
section
variable{X:Cx}
def rA:V->List V->Hp->VK->Prop:=λx b H Q=>∃l a y,x=.ref l/\b=[y]/\H l=some (.lst a)/\a.length<sizeLine/\Q .non (upd H l (.lst (a++[y])))
theorem lW:Il X "list.append" rA:=by
 intro pins s g H x i v j Q I c d h;obtain⟨l,k,y,rfl,rfl,b,m,q⟩:=h;cases c;obtain⟨u,rfl,f⟩:=d.one;obtain⟨z,a,n,r,o,e⟩:=I.va b;refine call_meets F.slot_list_append ⟨_,e,rfl⟩ F.entry_list_append (F.args_list_append_2 _ _) (PySem.list_append l a.toArray n u (by rw[List.size_toArray];omega)) ⟨e,?_⟩
 refine⟨.non,_,I.ye (its':=a++[u]) b e (by simp) (r.append (.cons f .nil)) ?_,rfl,q⟩
 rw[List.length_append,List.length_singleton];omega
def rC:V->List V->Hp->VK->Prop:=λx d H Q=>∃l b a c,x=.ref l/\d=[.ref b]/\H l=some (.lst a)/\H b=some (.lst c)/\a.length+c.length<=sizeLine/\Q .non (upd H l (.lst (a++c)))
theorem tG:Il X "list.extend" rC:=by
 intro pins s y H x A v B Q I i j h;obtain⟨l,b,C,D,rfl,rfl,g,k,E,q⟩:=h;cases i;obtain⟨u,rfl,m⟩:=j.one;cases m;obtain⟨z,c,n,r,G,e⟩:=I.va g;obtain⟨J,a,o,p,t,w⟩:=I.va k;have f:c.toArray.size+a.toArray.size<=sizeLine:=by rw[List.size_toArray,List.size_toArray];omega
 have d:¬ (!c.toArray.isEmpty&&Builtin.List.listTooLong (c.toArray.size+a.toArray.size))=true:=by
  rw[vb f,Bool.and_false];exact Bool.false_ne_true
 refine call_meets F.slot_list_extend ⟨_,e,rfl⟩ F.entry_list_extend (F.args_list_extend_2 _ _)
  (AutoSeq1.list_extend_list_list_0 l c.toArray n b a.toArray o d (by rw[List.size_toArray];omega) (by omega)) ⟨e,w,?_⟩
 refine⟨.non,_,I.ye (its':=c++a) g e (by simp) (r.append p) ?_,rfl,q⟩
 rw[List.length_append];omega
def oz:V->List V->Hp->VK->Prop:=λx b H Q=>∃l a,x=.ref l/\b=[]/\H l=some (.lst a)/\Q .non (upd H l (.lst a.reverse))
theorem qj:Il X "list.reverse" oz:=by
 intro pins s g H x i v j Q I d f h;obtain⟨l,k,rfl,rfl,c,q⟩:=h;cases d;have b:=f.zero;subst b;obtain⟨z,a,n,r,m,e⟩:=I.va c;refine call_meets F.slot_list_reverse ⟨_,e,rfl⟩ F.entry_list_reverse (F.args_list_reverse_1 _) (AutoSeq1.list_reverse_list_0 l a.toArray n (by rw[List.size_toArray];omega)) ⟨e,?_⟩
 refine⟨.non,_,I.ye (its':=a.reverse) c e (by simp) r.reverse ?_,rfl,q⟩
 rw[List.length_reverse];omega
end
section
variable{prog:Program}{w:World}{A:Around}{E:Value->Shared->Prop}{s:Shared}
end
section
variable{X:Cx}
end
section
variable{κ:Type}[DecidableEq κ]
noncomputable def lH(kvs:List (κ×V))(k:κ):Option V:=(kvs.find? λa=>decide (a.1=k)).map (·.2)
noncomputable def putK(kvs:List (κ×V))(k:κ)(v:V):List (κ×V):=
 if (kvs.any λa=>decide (a.1=k))=true then kvs.map (λa=>if a.1=k then (a.1,v)else a)else kvs++[(k,v)]
theorem oA{p:κ×V}{r:List (κ×V)}{k:κ}(e:p.1=k):lH (p::r) k=some p.2:=by simp[lH,List.find?_cons,e]
theorem oB{p:κ×V}{r:List (κ×V)}{k:κ}(e:¬ p.1=k):lH (p::r) k=lH r k:=by simp[lH,List.find?_cons,e]
theorem je(kvs:List (κ×V))(k:κ)(v:V):(putK kvs k v).length<=kvs.length+1:=by
 unfold putK;split
 .rw[List.length_map];omega
 .rw[List.length_append,List.length_cons,List.length_nil];omega
theorem gF.lX{o:Option V}{u:Option Value}(r:gF o u):o.isSome=u.isSome:=by
 cases o with
 |none=>cases u with
  |none=>rfl
  |some _=>exact(show False from r).elim
 |some _=>cases u with
  |none=>exact(show False from r).elim
  |some _=>rfl
theorem gF.getD{o:Option V}{u:Option Value}{d:V}{d':Value}(r:gF o u)(a:RelV d d'):RelV (o.getD d) (u.getD d'):=by
 cases o with
 |none=>cases u with
  |none=>exact a
  |some _=>exact(show False from r).elim
 |some _=>cases u with
  |none=>exact(show False from r).elim
  |some _=>exact r
theorem KV.val{kvs:List (κ×V)}{vs:List (κ×Value)}(r:KV kvs vs)(k:κ):gF (lH kvs k) (valueAt vs k):=by
 unfold KV at r
 induction r with
 |nil=>exact True.intro
 |@cons p q i a h t f=>
  obtain⟨d,g⟩:=h
  by_cases e:p.1=k
  .have c:q.1=k:=d.symm.trans e
   have b:valueAt (q::a) k=some q.2:=by simp[valueAt,List.find?_cons,c]
   rw[oA e,b];exact g
  .have c:¬ q.1=k:=λz=>e (d.trans z)
   have b:valueAt (q::a) k=valueAt a k:=by simp[valueAt,List.find?_cons,c]
   rw[oB e,b];exact f
theorem KV.any{kvs:List (κ×V)}{vs:List (κ×Value)}(r:KV kvs vs)(k:κ):(kvs.any λa=>decide (a.1=k))=vs.any λa=>decide (a.1=k):=by
 unfold KV at r
 induction r with
 |nil=>rfl
 |cons h t b=>rw[List.any_cons,List.any_cons,b,h.1]
theorem KV.repl{kvs:List (κ×V)}{vs:List (κ×Value)}(r:KV kvs vs)(k:κ){y:V}{u:Value}(c:RelV y u) :
  KV (kvs.map λa=>if a.1=k then (a.1,y)else a) (vs.map λa=>if a.1=k then (a.1,u)else a):=by
 unfold KV at r ⊢
 induction r with
 |nil=>exact .nil
 |@cons p q g i h t d=>
  rw[List.map_cons,List.map_cons];refine .cons ?_ d;obtain⟨b,f⟩:=h
  by_cases e:p.1=k
  .rw[if_pos e,if_pos (b.symm.trans e)];exact⟨b,c⟩
  .rw[if_neg e,if_neg (λz=>e (b.trans z))];exact⟨b,f⟩
theorem KV.put{kvs:List (κ×V)}{vs:List (κ×Value)}(r:KV kvs vs)(k:κ){y:V}{u:Value}(a:RelV y u):KV (putK kvs k y) (stored vs k u):=by
 unfold putK stored;rw[r.any k]
 by_cases e:(vs.any λb=>decide (b.1=k))=true
 .rw[if_pos e,if_pos e];exact r.repl k a
 .rw[if_neg e,if_neg e];exact Paired.snoc r ⟨rfl,a⟩
theorem KV.length{kvs:List (κ×V)}{vs:List (κ×Value)}(r:KV kvs vs):kvs.length=vs.length:=Paired.length r
end
theorem oC{P:Program}{w:World}{k:Key}{u:Value}(r:RelV (kV k) u):(bQ P w).is k u=true:=by
 cases k with
 |inl i=>obtain⟨t,e⟩:=(show ∃t,u=Value.int i t from r);subst e;exact og P w i t
 |inr x=>obtain⟨t,e⟩:=(show ∃t,u=Value.str x t from r);subst e;exact oh P w x t
abbrev KT(H:Hp):List (List Key×V)->List (List Key×Addr×Value)->Prop:=Paired λp q=>p.1=q.1/\H q.2.1=some (.tup (p.1.map kV))/\RelV p.2 q.2.2
section
variable{P:Program}{w:World}{H:Hp}{h:Heap}{a:Addr}
theorem AX{u:HO}(ok:hZ P w H h)(e:Rd H a u):cw P w H h a u:=e.ok ok
theorem gO{kvs:List (Key×V)}(ok:hZ P w H h)(e:Rd H a (.dK kvs)):kvs.length<=sizeLine/\(a==sysModules)=false/\∃vs,KV kvs vs/\h.DictOf (bQ P w) a vs:=
 show cw P w H h a (.dK kvs)from AX ok e
theorem EY{kvs:List (Key×V)}(ok:hZ P w H h)(e:H a=some (.dK kvs)):kvs.length<=sizeLine/\(a==sysModules)=false/\∃vs,KV kvs vs/\h.DictOf (bQ P w) a vs:=gO ok (.inl e)
end
def kb(H:Hp)(a:Addr)(y:V)(r:Option V):Prop:=
 (∃b k,Rd H a (.dK b)/\y=kV k/\r=lH b k)\/False
def tH(H:Hp)(a:Addr)(y v:V)(c:Hp):Prop:=
 (∃b k,H a=some (.dK b)/\y=kV k/\b.length<sizeLine/\c=upd H a (.dK (putK b k v)))\/False
theorem kb.k{H:Hp}{a:Addr}{kvs:List (Key×V)}{k:Key}(e:H a=some (.dK kvs)):kb H a (kV k) (lH kvs k):=.inl ⟨kvs,k,.inl e,rfl,rfl⟩
theorem tH.k{H:Hp}{a:Addr}{kvs:List (Key×V)}{k:Key}{v:V}(e:H a=some (.dK kvs))(b:kvs.length<sizeLine):tH H a (kV k) v (upd H a (.dK (putK kvs k v))):=.inl ⟨kvs,k,e,rfl,b,rfl⟩
section
variable{X:Cx}{pins:List (Addr×Obj)}{σ:St}{H:Hp}{s:Shared}{a:Addr}{y v:V}{u r:Value}{o:Option V}{A:Around}{E:Value->Shared->Prop}
theorem Inv.big(I:Inv X pins σ H s):sysModules<s.heap.objs.size:=by
 have h:mainGlobals<s.heap.objs.size:=(I.mod.glob.keeps I.bk).lt;exact Nat.lt_trans (by decide) h
theorem tI{Q:Value->Shared->Prop}(r:A.units+1<cLine)(I:Inv X pins σ H s)(g:kb H a y (some v))(i:RelV y u)(h:∀b f,Inv X pins σ H f->RelV v b->Q b f) :
  wpAny (model X.prog X.w) A (getItem (.ref a) u) Q E s:=by
 rcases g with ⟨j,k,e,m,l⟩|bad
 .subst m
  obtain⟨z,t,n,c,p⟩:=gO I.hok e;obtain⟨b,q,d⟩:=gF.some_of (v:=v) (o:=valueAt n k) (by rw[l];exact c.val k)
  exact wpAny_getItem_of (oC i) p.mapOf q (h b _ (I.tok _) d)
 .exact bad.elim
theorem Kp{Q:Value->Shared->Prop}(n:A.units+1<cLine)(I:Inv X pins σ H s)(g:kb H a y o)(d:RelV y u)(h:∀c,Inv X pins σ H c->Q (.bool o.isSome) c) :
  wpAny (model X.prog X.w) A (compareOp .In u (.ref a)) Q E s:=by
 rcases g with ⟨f,k,e,i,l⟩|bad
 .subst i
  obtain⟨z,j,p,b,m⟩:=gO I.hok e;refine wpAny_in_of (oC d) j m.mapOf ?_;rw[←(b.val k).lX,←l];exact h _ (I.tok _)
 .exact bad.elim
theorem yf{Q:Value->Shared->Prop}(n:A.units+1<cLine)(I:Inv X pins σ H s)(g:kb H a y o)(d:RelV y u)(h:∀c,Inv X pins σ H c->Q (.bool (!o.isSome)) c) :
  wpAny (model X.prog X.w) A (compareOp .NotIn u (.ref a)) Q E s:=by
 rcases g with ⟨f,k,e,i,l⟩|bad
 .subst i
  obtain⟨z,j,p,b,m⟩:=gO I.hok e;refine wpAny_notIn_of (oC d) j m.mapOf ?_;rw[←(b.val k).lX,←l];exact h _ (I.tok _)
 .exact bad.elim
theorem rD{h':Heap}{t':Nat}{ob:HO}(I:Inv X pins σ H s)(d:Et (H a))(f:Heap.SameBut a s.heap h')(g:∃q,h'.get? a=some q)(c:cw X.prog X.w (upd H a ob) h' a ob) :
  Inv X pins σ (upd H a ob) {s with heap:=h',toks:=t' }:=
 I.write (x:=a) (e:=a) d (.inl rfl) (λb q h z=>(f.2 b h).trans z) g c
theorem qk{P:Program}{w:World}{c:Hp}{h':Heap}{kvs:List (Key×V)}{vs:List (Key×Value)}(z:kvs.length<=sizeLine)(d:(a==sysModules)=false)(b:KV kvs vs)(e:h'.DictOf (bQ P w) a vs) :
  cw P w c h' a (.dK kvs):=⟨z,d,vs,b,e⟩
theorem tJ{f:Hp}{Q:Unit->Shared->Prop}(J:A.units+1<cLine)(I:Inv X pins σ H s)(g:tH H a y v f)(j:RelV y u)(m:RelV v r)(h:∀i,Inv X pins σ f i->Q () i) :
  wpAny (model X.prog X.w) A (setItem (.ref a) u r) Q E s:=by
 rcases g with ⟨b,k,e,n,l,o⟩|bad
 .subst n o
  obtain⟨z,p,t,c,x⟩:=EY I.hok e;have B:t.length<=sizeLine:=by rw[←c.length];exact z
  have C:(putK b k v).length<=sizeLine:=by have:=je b k v;omega
  refine wpAny_setItem_pairs (hsz:=B) (oC j) x λD d F=>h _ ?_
  have G:∃q,D.get? a=some q:=let ⟨q,_,_,hq,_⟩:=d;⟨q,hq⟩
  exact rD I (by rw[e];exact True.intro) F G (qk C p (c.put k m) d)
 .exact bad.elim
end
section
variable{X:Cx}{pins:List (Addr×Obj)}{σ:St}{H:Hp}{s:Shared}{a:Addr}{kvs:List (Key×V)}{k:Key}{u:Value}{A:Around}{E:Value->Shared->Prop}
theorem EZ{Q:Value->Shared->Prop}(I:Inv X pins σ H s)(e:Rd H a (.dK kvs))(h:∀t c,Inv X pins σ H c->Q (.int kvs.length t) c):wpAny (model X.prog X.w) A (call (.builtin "len") [.ref a]) Q E s:=by
 obtain⟨z,d,g,b,f⟩:=gO I.hok e;refine call_len_dict d f (by rw[←b.length];rw[sizeLine_eq]at z;omega) ?_
 rw[←b.length];exact h _ _ (I.tok _)
end
def E7(i:Expr):Prop:=∀a b,subscripted i false a b=operate [a,b] (getItem a b)
theorem yg{prog:Program}{w:World}{A:Around}{E:Value->Shared->Prop}{s:Shared}{env:Env}{b a:Expr}{pos:Pos}{T m:String}{Q:Value->Shared->Prop}
  (n:typeLookup (.type T) "__getitem__"=pure (some (.builtin m))) (p:E7 a)
  (h:wpAny (model prog w) A (eval b env) (λo e=>wpAny (model prog w) A (eval a env) (λi c=>c.TypeIs o T/\wpAny (model prog w) A (getItem o i) Q E c) E e) E s) :
  wpAny (model prog w) A (eval (.Subscript b a pos) env) Q E s:=by
 refine Subscript_ (wpAny_mono h (λo e j=>wpAny_mono j (λi c d=>?_) λ_ _ x=>x) λ_ _ x=>x)
 obtain⟨l,d⟩:=d;unfold subscriptTail;refine wpAny_bind ?_;rw[getitemInPython_of_ne l.not_modules];refine wpAny_bind (wpAny_specialOf l n ?_)
 have g:wpAny (model prog w) A (subscripted a false o i) (λr f=>wpAny (model prog w) A (letTemporaryGo b o r >>= λ_=>pure r) Q E f) E c:=by
  rw[p o i];exact wpAny_operating (wpAny_mono d (λr f k=>wpAny_bind (wpAny_letTemporaryGo (wpAny_pure k))) λ_ _ x=>x)
 first
  |exact wpAny_pure (wpAny_bind g)
  |exact wpAny_bind (wpAny_pure (wpAny_bind g))
  |exact wpAny_bind g
theorem oD{X:Cx}{pins:List (Addr×Obj)}{b:St}{H:Hp}{s:Shared}{a:Addr}{y:V}{o:Option V}(I:Inv X pins b H s)(g:kb H a y o):s.TypeIs (.ref a) "dict":=by
 rcases g with ⟨c,k,e,_,_⟩|bad
 .obtain⟨_,_,f,_,d⟩:=gO I.hok e
  exact d.typeIs
 .exact bad.elim
noncomputable def E8(td d:TE):TE:=λb H Q=>td b H λx e=>d b e λy c=>∃a v,x=.ref a/\kb c a y (some v)/\Q v c
noncomputable def E9(td d e:TE):TS:=λD b H=>e b H λv f=>td b f λx g=>d b g λy h=>∃a c,x=.ref a/\tH h a y v c/\D.nx b c
section
variable{X:Cx}{o i e value:Expr}{pos pos' tpos:Pos}{td ty tv:TE}
theorem yh(d:X.A.units+1<cLine)(e:PE X o td)(f:PE X i ty)(j:E7 i):PE X (.Subscript o i pos) (E8 td ty):=by
 intro pins s c H Q I h;refine yg PySem.F.slot_dict_getitem.lookup j (cC (e pins s c H _ I h) λu k ⟨x,H1,I1,rx,q1⟩=>cC (f pins k c H1 _ I1 q1) λm n ⟨y,H2,I2,ry,a,v,ex,g,q2⟩=>?_)
 subst ex;obtain rfl:u=Value.ref a:=rx;exact⟨oD I2 g,tI d I2 g ry λp q l b=>⟨v,H2,l,b,q2⟩⟩
theorem yi(c:X.A.units+1<cLine)(d:PE X o td)(e:PE X i ty)(f:PE X value tv)(j:swapsWith value (some (.Subscript o i pos')) pos.line X.env=pure false) :
  PS X (.Assign [.Subscript o i pos'] value pos) (E9 td ty tv):=by
 intro pins s b H D I h;refine wpAny_Assign_Subscript (cC (f pins s b H _ I h) λr k ⟨v,H1,I1,rv,q1⟩=>cC (d pins k b H1 _ I1 q1) λu l ⟨x,H2,I2,rx,q2⟩=>cC (e pins l b H2 _ I2 q2) λn p ⟨y,H3,I3,ry,a,H4,ex,g,q3⟩=>?_) j
 subst ex;obtain rfl:u=Value.ref a:=rx;exact tJ c I3 g ry rv λq m=>⟨b,H4,m,q3⟩
end
theorem vc{P:Program}{w:World}{H:Hp}(h:Heap)(a:sysModules<h.objs.size):cw P w H (h.push {cls:=.type "dict",data:=.dict #[]}) h.objs.size (.dK []):=
 ⟨Nat.zero_le _,beq_eq_false_iff_ne.mpr (Ne.symm (Nat.ne_of_lt a)),[],.nil,Heap.DictOf.new h⟩
def B9:TE:=λ_ H Q=>∀p,H p=none->Q (.ref p) (upd H p (.dK []))
section
variable{X:Cx}{pos:Pos}
theorem vd:PE X (.Dict [] [] pos) B9:=λpins s b H Q I h=>
 wpAny_Dict_empty ⟨.ref s.heap.objs.size,_,I.laid (a:=s.heap.objs.size) (o:=.dK []) (t':=s.toks) (λ_ _ q=>Heap.get?_push_of_some _ q) (Nat.le_refl _) (vc s.heap I.big),rfl,h _ (I.hok.fresh (Nat.le_refl _))⟩
end
def QC(H:Hp)(a:Addr):Prop:=(∃b,Rd H a (.dK b))\/False
theorem qm{X:Cx}{pins:List (Addr×Obj)}{f:St}{H:Hp}{s:Shared}{a:Addr}(I:Inv X pins f H s)(d:QC H a) :
  s.TypeIs (.ref a) "dict"/\(∀b,Value.ref a=.ref b->∃ob,s.heap.get? b=some ob/\ob.dict=none)/\(a==sysModules)=false:=by
 rcases d with ⟨g,e⟩|bad
 .obtain⟨_,h,k,_,c⟩:=gO I.hok e
  refine⟨c.typeIs,λb q=>?_,h⟩
  cases q;obtain⟨ob,_,_,i,j,_⟩:=c;exact⟨ob,i,j.2.1⟩
 .exact bad.elim
section
variable{X:Cx}{pins:List (Addr×Obj)}{σ:St}{H:Hp}{s:Shared}{a:Addr}{y d:V}{u r:Value}{o:Option V}{A:Around}{E:Value->Shared->Prop}
end
section
variable{X:Cx}{o e f:Expr}{apos cpos:Pos}{td ty tx:TE}
end
section
variable{X:Cx}{pins:List (Addr×Obj)}{σ:St}{H:Hp}{s:Shared}{a:Addr}{kvs:List (Key×V)}{A:Around}{E:Value->Shared->Prop}
end
section
variable{X:Cx}{pins:List (Addr×Obj)}{σ:St}{H:Hp}{s:Shared}{a:Addr}{y:V}{u:Value}{A:Around}{E:Value->Shared->Prop}
end
end L2
namespace OK
open PySem PySem.W PySem.Calls PyProof.Rows
theorem jt{P:Params}{h:Heap}:∀(ns:List Int) (vs:List Value),WellAll P h vs (ns.map WData.int)->IntsAre vs ns:=by
 intro ns
 induction ns with
 |nil=>
  intro vs w;rw[List.map_nil]at w;cases w;exact .nil
 |cons n ns c=>
  intro vs w;rw[List.map_cons]at w;cases w with
  |cons a b=>
   cases a;exact .cons _ _ (c _ b)
theorem tK{l:OpenLaw}{n:Nat}(o:l.most=some n){P:Params}{h:Heap}{args:List WData}{b:List Value}
  (c:l.row.toRowW.claim.pre args=true) (j:WellAll P h b args) :
  ∃a vs ns,b=[Value.ref a]/\args=[WData.list (ns.map WData.int)]/\h.get? a=some {cls:=.type "list",data:=.seq vs.toArray}/\IntsAre vs ns/\ns.length<=n:=by
 have k:WShape.hasAll [] args [.list .int]=true:=(pre_splitW c).1;have m:l.pre.holds [] {args:=args}=true:=(pre_splitW c).2;obtain⟨d,r,rfl,p,s⟩:=hasAllW_cons k;obtain rfl:=hasAllW_nil s;obtain⟨z,rfl,t⟩:=hasW_list p;obtain⟨ns,rfl⟩:=items_int t
 have e:ns.length<=n:=by
  unfold OpenLaw.pre at m
  have g:(WTm.not (.lt (.lit (.int (n:Int))) (.len (.arg 0)))).holds [] {args:=[.list (ns.map .int)]}=true:=by
   have g:=(holds_andW m).1;rw[o]at g;exact g
  have i:=condW_of g (w_not (w_lt w_lit (w_len_list (w_arg rfl))));rw[List.length_map]at i;refine Nat.le_of_not_lt λq=>?_
  have u:(n:Int)<((ns.length:Nat):Int):=by omega
  first
   | (rw[decide_eq_true u]at i;exact absurd i (by decide))
   | (simp at i;omega)
 cases j with
 |cons w x=>
  cases x;cases w with
  |list y f=>exact⟨_,_,ns,rfl,rfl,y,jt ns _ f,e⟩
theorem tL(l:OpenLaw)(args:List WData):l.row.toRowW.claim.post args (.bool true) args=true:=
 postW_of (r:=l.row.toRowW) (X:=(true==true))
  (show WShape.has [] (.bool true) .bool=true by first|rfl|decide|simp[WShape.has,WShape.arms,WShape.armsAll])
  (show(WTm.eq .res (.lit (.bool true))).value [] {args:=args,res:=some (.bool true),after:=args}=some (.bool (true==true))from w_eq_bool (w_res rfl) w_lit) rfl
theorem oE{l:OpenLaw}{n:Nat}{q:Program}{c:List Str}{B:(Str->Option Value)->Heap->Prop}{C:World->Heap->Prop}{d:DefRec}
  (H:l.most=some n) (t:d.params.defaults=[])
  (call:∀(w:World) (e b:Shared) (mg u:Str->Option Value) (i:Addr) (o:Obj) (x p g:Value) (a:Addr) (vs:List Value) (ns:List Int),
   Ground q c [] B w e mg u b.heap->C w b.heap ->
   b.heap.get? i=some o->o.data=.func (docDef d.name d.params d.body d.scope x p g)->b.heap.CodeRec p d.name->mg d.name=some (.ref i) ->
   b.heap.get? a=some {cls:=.type "list",data:=.seq vs.toArray}->IntsAre vs ns->ns.length<=n->b.gens = #[] ->
   codeAny (model l.prog w) callerA (.call (.ref i) ⟨[.ref a],[]⟩) (λr s=>r=.ok (.ret (.bool true))/\OldK b.heap s.heap/\s.os=b.os/\AllBare s.gens) b) :
  WalkO q c B C l.row.toRowW d [] (λf vs=>PySem.call f vs):=by
 intro w e b mg u G Y i o x p g I kV J K y D z L args E T j F M A N;obtain rfl:I=.none:=Dflts.none D t;obtain rfl:kV=.none:=Dflts.noKw D;obtain⟨a,vs,ns,rfl,rfl,k,h,m⟩:=tK H j A;refine enter_call (codeAny_mono (call w e b mg u i o x p g a vs ns G Y J (fd_plain K) y z k h m L) λr s O=>?_)
 obtain⟨rfl,P,Q,R⟩:=O;exact⟨.inl ⟨.bool true,.bool true,[],rfl,λ_=>rfl,.bool true,tL l _,λ_=>⟨List.Pairwise.nil,λ_ S=>(nomatch S)⟩⟩,P,Q,R⟩
section
variable{prog:Program}{w:World}{A:Around}{E:Value->Shared->Prop}{s:Shared}{K:Frag}
end
end OK
namespace L2
open PySem PySem.Spec PyProof.Rows
theorem iM:∀{vs:List Value}{ns:List Int},IntsAre vs ns->Vals (ns.map V.int) vs
 |_,_,.nil=>.nil
 |_,_,.cons n t h=>.cons ⟨t,rfl⟩ (iM h)
def Only(H:Hp):Prop:=∀b,H b=none\/∃o a,H b=some (.dr o (.lst a))
theorem ve{P:Program}{w:World}{K:PySem.W.Frag}{mg L:Str->Option Value}{CX:tB}{k:Nat}{M a:Addr}{U:FuncData}{x:Str}{sp:Sp}{c:Shared}{vs:List Value}{ns:List Int}
  (X:K.In c.heap) (t:c.heap.Ns mainGlobals mg) (g:c.heap.Ns builtinsNs L) (N:∀x:Str,x≠"__name__"->L x=bootBuiltins x) (y:c.heap.NoLimit) (hg:c.gens = #[])
  (J:c.heap.get? a=some {cls:=.type "list",data:=.seq vs.toArray}) (Y:IntsAre vs ns) (Z:ns.length<=sizeLine) (hr:cP k callerA)
  (F:∀base:Heap,K.In base->base.Ns mainGlobals mg->dc P w K mg base CX k M U [x] sp) (p:∀(s:Shared) (u:Value),BindsTo s U ⟨[u],[]⟩ [(x,u)])
  (O:∀H:Hp,Only H->jb K H a (ns.map V.int)->sp [.ref a] H (λv _=>v=.bl true) λ_ _ _=>False)
  (Q:∀H e i,CX [] H c (λ_ _ _=>False) e i->False) :
  codeAny (model P w) callerA (.call (.ref M) ⟨[.ref a],[]⟩) (λr i=>r=.ok (.ret (.bool true))/\OldK c.heap i.heap/\i.os=c.os/\AllBare i.gens) c:=by
 have rv:=iM Y;have A:=Y.length
 have l:∀H:Hp,Only H->jb K H a (ns.map V.int)->hZ P w H c.heap->(∀b,H b≠none->b=a)->(H a≠none->K.lookup a=none) ->
   codeAny (model P w) callerA (.call (.ref M) ⟨[.ref a],[]⟩) (λr i=>r=.ok (.ret (.bool true))/\OldK c.heap i.heap/\i.os=c.os/\AllBare i.gens) c:=by
  intro H hO hS B hA hK;have f:∀{b:Addr}{o:Obj},c.heap.get? b=some o->H b=none->(mL c.heap H).get? b=some o:=λe n=>uH e n
  have R:∀{b:Addr}{o:Obj}{C:Array DictEntry}{D:Nat},c.heap.get? b=some o->o.data=.dict C D->H b=none:=λ{b o C D} e d=>by
   cases q:H b with
   |none=>rfl
   |some u=>
    have S:b=a:=hA b (by rw[q];simp)
    subst S;rw[J]at e;cases e
    have d':Data.seq vs.toArray _=Data.dict C D:=d;cases d'
  have j:∀{b:Addr}{m:Str->Option Value},c.heap.Ns b m->(mL c.heap H).Ns b m:=λ{b m} ⟨o,C,D,e,d,r⟩=>⟨o,C,D,f e (R e d),d,r⟩
  have E:K.In (mL c.heap H):=λb o e=>f (X b o e) (by
   cases q:H b with
   |none=>rfl
   |some u=>
    have S:b=a:=hA b (by rw[q];simp)
    subst S;rw[hK (by rw[q];simp)]at e;cases e)
  have hM:Mod K mg (mL c.heap H):=⟨E,j t,⟨L,j g,N⟩,let ⟨mc,h1,h2⟩:=y;⟨mc,j h1,h2⟩⟩
  have e0:qf P w K mg (mL c.heap H) callerA [] c H:=⟨rfl,hM,λb o e=>xK e,Nat.le_of_eq (tf _ _),trivial,λb g=>absurd (show b∈([]:List Addr)from g) (by simp),B,.of_eq hg⟩
  refine codeAny_mono ((F _ E (j t)).run callerA [] c H ⟨[.ref a],[]⟩ [.ref a] [.ref a] _ _ hr e0 (p c (.ref a)) (.cons rfl .nil) (O H hO hS)) λr i h=>?_
  cases r with
  |error e=>exact(Q H e i h).elim
  |ok fl=>
   cases fl with
   |next=>exact False.elim h
   |brk=>exact False.elim h
   |cont=>exact False.elim h
   |ret u=>
    obtain⟨v,H',os,bare,un,G,r',q⟩:=h;have q':v=.bl true:=q;subst q';obtain rfl:u=Value.bool true:=r';refine⟨rfl,OldK.of_keep λb o e=>?_,os,bare⟩
    cases q:H b with
    |none=>exact un.keep b o e q (by intro z;exact absurd (show b∈([]:List Addr)from z) (by simp)) (by simp)
    |some u=>
     rcases hO b with z|⟨ob,xs,z⟩
     .rw[q]at z;cases z
     .have z2:=un.h9 b ob _ z
      obtain⟨e1,_⟩:=B b _ z;obtain⟨e2,_⟩:=G b _ z2;rw[e]at e1;cases e1
      exact e2
 cases T:K.lookup a with
 |some o=>
  have e:=X a o T;rw[J]at e;cases e;refine l (λ_=>none) (λ_=>.inl rfl) (.inr ⟨_,vs.toArray,_,T,rfl,rfl,rfl,by rw[List.size_toArray,A];exact Z,by simpa using rv⟩) (λb u z=>by have I:(none:Option HO)=some u:=z;cases I) (λb z=>absurd rfl z) λz=>absurd rfl z
 |none=>
  refine l (λb=>if b=a then some (.dr {cls:=.type "list",data:=.seq vs.toArray} (.lst (ns.map V.int)))else none) (λb=>?_) (.inl (.inr ⟨{cls:=.type "list",data:=.seq vs.toArray},if_pos rfl⟩)) (λb u z=>?_) (λb z=>?_) λ_=>T
  .by_cases g:b=a
   .exact .inr ⟨_,_,if_pos g⟩
   .exact .inl (if_neg g)
  .by_cases g:b=a
   .have I:=(if_pos g).symm.trans z
    cases I;subst g;exact⟨J,by rw[List.length_map];exact Z,vs,_,rv,J⟩
   .have I:=(if_neg g).symm.trans z
    cases I
  .by_cases g:b=a
   .exact g
   .exact absurd (if_neg g) z
theorem yj{l:PySem.W.OpenLaw}{n k:Nat}{q:Program}{i:List Str}{L:(Str->Option Value)->Heap->Prop}{E:World->Heap->Prop}{d:DefRec}{K:Params->PySem.W.Frag}{CX:World->tB}{sp:World->Sp}{x:Str}
  (M:l.most=some n) (t:n<=sizeLine) (y:d.params.defaults=[]) (N:cP k callerA)
  (O:∀(w:World) (h:Heap),E w h->(K w.params).In h)
  (F:∀(w:World) (mg:Str->Option Value) (r:Addr) (h:Heap),(K w.params).In h->h.Ns mainGlobals mg->mg d.name=some (.ref r) ->
   ∃z:FuncData,(∀(s:Shared) (u:Value),BindsTo s z ⟨[u],[]⟩ [(x,u)]) /\
    ∀base:Heap,(K w.params).In base->base.Ns mainGlobals mg->dc l.prog w (K w.params) mg base (CX w) k r z [x] (sp w))
  (A:∀(w:World) (H:Hp) (a:Addr) (ns:List Int),ns.length<=n->Only H->jb (K w.params) H a (ns.map V.int)->sp w [.ref a] H (λv _=>v=.bl true) λ_ _ _=>False)
  (B:∀(w:World) (H:Hp) (s:Shared) (e:Value) (C:Shared),CX w [] H s (λ_ _ _=>False) e C->False) :
  PySem.W.WalkO q i L E l.row.toRowW d [] (λf vs=>PySem.call f vs):=by
 refine OK.oE M y λw I m mg mb r o pm cd P a vs ns G Y ho hd Q D p j c R=>?_
 have J:=O w _ Y;obtain⟨z,S,U⟩:=F w mg r _ J G.T.g D;exact ve J G.T.g G.T.b G.T.builtins G.T.nolimit R p j (Nat.le_trans c t) N U S (λH X Z=>A w H a ns c X Z) λH e C=>B w H m e C
noncomputable def inClass(s:Stmt)(j:Nat):Stmt:=match s with
 |.ClassDef _ _ _ body _ _ _ _ _ _ _=>body.getD j (.Pass ⟨0,0,0,0⟩)
 |_=>.Pass ⟨0,0,0,0⟩
noncomputable def bI(s:Stmt):Arguments:=match s with
 |.FunctionDef _ a _ _ _ _ _ _ _ _=>a
 |_=>{posonlyargs:=[],args:=[],vararg:=none,kwonlyargs:=[],kw_defaults:=[],kwarg:=none,defaults:=[]}
noncomputable def bC(s:Stmt):List Stmt:=match s with
 |.FunctionDef _ _ b _ _ _ _ _ _ _=>b
 |_=>[]
noncomputable def aw(s:Stmt):Scope:=match s with
 |.FunctionDef _ _ _ _ _ _ a _ _ _=>a
 |_=>{kind:=.function,names:=[],isGenerator:=false,isCoroutine:=false}
abbrev jE:tB:=λ_ _ _ _ _ _=>False
abbrev E0:XK:=λ_ _ _=>False
theorem kd{X:Cx}:Passes jE X E0:=λ_ _ _ _ _ _ _ h=>h.elim
structure B_(K:PySem.W.Frag)(x qual:Str)(st:Stmt)(f:Addr)(fd:FuncData):Prop where
 ex:∃(oc:Value) (od:Option Addr) (kV doc pm:Value) (an:Option Addr) (cdv ct:Value) (osl:Array (Option Value)),
  fd=PySem.W.fnOf x qual (bI st) (bC st) (aw st) .none kV doc pm an cdv ct/\K.lookup f=some ⟨oc,od,.func fd,osl⟩/\PySem.W.codeIn K cdv qual=true
 kp:PySem.W.keepIn K (.ref f)=true
section
variable{P:Program}{w:World}{K:PySem.W.Frag}{mg:Str->Option Value}{base:Heap}
theorem B_.ok{x qual:Str}{st:Stmt}{f:Addr}{g:FuncData}{N ps:List Str}{k:Nat}{sp:Sp}(F:B_ K x qual st f g)(S:jB N ps (aw st))(c:∀vs H Q E,sp vs H Q E->vs.length=ps.length)
  (b:∀(a:Value) (A:Around) (outer:List Env) (s:Shared) (H:Hp) (vs:List V) (Q:VK) (E:XK),cP k (A.deeper (envOfC qual (aw st) s.heap.objs.size f a))->sp vs H Q E ->
   ∃t,ja (ov jE P w K mg base N qual (aw st) f a A outer s H E).uL (bC st) t/\t {nx:=λ_ i=>Q .non i,rt:=Q} (start N vs) H):dc P w K mg base jE (k+1) f g ps sp:=by
 obtain⟨oc,o,kV,j,p,r,a,ct,l,rfl,m,d⟩:=F.ex;refine AU m d S c λA outer s H vs Q E n e=>?_
 obtain⟨t,h,q⟩:=b a A outer s H vs Q E n e;exact⟨t,h.uL,q⟩
theorem B_.binds{x qual:Str}{st:Stmt}{f:Addr}{e:FuncData}{ps:List Str}(F:B_ K x qual st f e)
  (h:∀(kV a c:Value) (d:Option Addr) (b ct:Value) (us:List Value),us.length=ps.length->bindArgs (PySem.W.fnOf x qual (bI st) (bC st) (aw st) .none kV a c d b ct) ⟨us,[]⟩=pure (ps.zip us)):Binds K e ps []:=by
 obtain⟨oc,j,kV,a,c,d,b,ct,g,rfl,k,i⟩:=F.ex;exact .all (h kV a c d b ct)
theorem eo{x qual:Str}{st:Stmt}{f:Addr}{oc:Value}{h e:Option Addr}{d:Array (Option Value)}{kV b g a ct:Value}(l:K.lookup f=some ⟨oc,h,.func (PySem.W.fnOf x qual (bI st) (bC st) (aw st) .none kV b g e a ct),d⟩)
  (c:PySem.W.codeIn K a qual=true) (k:PySem.W.keepIn K (.ref f)=true):B_ K x qual st f (PySem.W.fnOf x qual (bI st) (bC st) (aw st) .none kV b g e a ct):=⟨⟨oc,h,kV,b,g,e,a,ct,d,rfl,l,c⟩,k⟩
end
section
variable{X:Cx}
theorem tN:ee X (.builtin "len") (λxs H Q=>∃a kvs,xs=[V.ref a]/\Rd H a (.dK kvs)/\Q (.int kvs.length) H):=by
 intro pins s e H xs f Q I r h;obtain⟨a,kvs,rfl,b,q⟩:=h;obtain⟨u,rfl,c⟩:=vals1 r;cases c;exact EZ I b λt g d=>⟨.int kvs.length,H,d,⟨t,rfl⟩,q⟩
end
theorem oF{A B:Prop}(h:B):if false=true then A else B:=by
 rw[if_neg Bool.false_ne_true];exact h
theorem oG{A B:Prop}(h:A):if true=true then A else B:=by
 rw[if_pos rfl];exact h
def ij(H a:Hp):Prop:=∀b o,H b=some o->a b=some o
theorem ij.refl(H:Hp):ij H H:=λ_ _ h=>h
theorem ij.trans{H d e:Hp}(a:ij H d)(b:ij d e):ij H e:=λc o h=>b c o (a c o h)
section
variable{κ:Type}[DecidableEq κ]
end
end L2
namespace Mir
open PySem
inductive D where
 |non|bl (b:Bool)|int (i:Int)|str (x:Str)
 |lst (xs:List D)|tup (xs:List D)|dct (ks:List L2.Key) (vs:List D)|ref (n:Nat)
 deriving Inhabited
inductive Out (α:Type) where
 |ok (a:α)|exc (c:Str) (fs:List (Str×D))|bad
noncomputable def Out.bind{b d:Type}:Out b->(b->Out d)->Out d
 |.ok a,f=>f a
 |.exc c fs,_=>.exc c fs
 |.bad,_=>.bad
instance:Monad Out where
 pure:=.ok
 bind:=Out.bind
@[simp] theorem Im{b c:Type}(a:b)(f:b->Out c):(Out.ok a >>= f)=f a:=rfl
@[simp] theorem E_{a b:Type}(f:a->Out b):((Out.bad:Out a) >>= f)=.bad:=rfl
@[simp] theorem Fb{a b:Type}(c fs)(f:a->Out b):((Out.exc c fs:Out a) >>= f)=.exc c fs:=rfl
@[simp] theorem Io{b:Type}(a:b):(pure a:Out b)=.ok a:=rfl
mutual
noncomputable def ey:D->D->Bool
 |.non,.non=>true
 |.bl a,.bl b=>a==b
 |.bl a,.int j=>(if a then 1 else 0)==j
 |.int i,.bl b=>i==(if b then 1 else 0)
 |.int i,.int j=>i==j
 |.str x,.str y=>x==y
 |.lst xs,.lst ys=>ez xs ys
 |.tup xs,.tup ys=>ez xs ys
 |_,_=>false
noncomputable def ez:List D->List D->Bool
 |[],[]=>true
 |x::xs,y::ys=>ey x y&&ez xs ys
 |_,_=>false
end
noncomputable def aL:Nat->D->Bool
 |_,.non|_,.bl _|_,.int _|_,.str _=>true
 |n+1,.lst xs|n+1,.tup xs=>xs.all (aL n)
 |_,_=>false
noncomputable def small(n:Nat):Bool:=decide (n<=sizeLine)
def ju:D->Option Bool
 |.non=>some false
 |.bl b=>some b
 |.int i=>some (i != 0)
 |.str x=>if small x.length then some (x.length != 0)else none
 |.lst xs=>some (!xs.isEmpty)
 |.tup xs=>some (!xs.isEmpty)
 |_=>none
abbrev Rs:=Bool×D
noncomputable def ke(i:Int):Bool:=decide (i.natAbs<18446744073709551616)
theorem oH{i:Int}(h:ke i=true): -(2 ^ 64)<i/\i<2 ^ 64:=by
 have:=of_decide_eq_true h;omega
def ff(op:Operator)(x y:D):Out Rs:=
 match op,x,y with
 |.Add,.int i,.int j=>.ok (false,.int (i+j))
 |.Sub,.int i,.int j=>.ok (false,.int (i - j))
 |.Mult,.int i,.int j=>if ke i||ke j then .ok (false,.int (i*j))else .bad
 |.FloorDiv,.int i,.int j=>if decide (0<j)&&decide (j<1073741824)then .ok (false,.int (i / j))else .bad
 |.Mod,.int i,.int j=>if decide (0<j)then .ok (false,.int (i%j))else .bad
 |.Pow,.int i,.int j=>if decide (0<=j)&&decide (j<=1000)&&decide (i.natAbs<2 ^ 64)then .ok (false,.int (i ^ j.toNat))else .bad
 |.Add,.str i,.str j=>if small (i.length+j.length)then .ok (false,.str (i++j))else .bad
 |.Add,.lst i,.lst j=>if small (i.length+j.length)then .ok (true,.lst (i++j))else .bad
 |_,_,_=>.bad
noncomputable def rE(x y:Str):Bool := !(Builtin.Str.occurrences y x 0 y.length 1).isEmpty
def inD(x y:D):Out Bool:=
 match x,y with
 |x,.lst a=>if aL 8 x&&a.all (aL 8)then .ok (a.any λy=>ey y x)else .bad
 |x,.tup a=>if aL 8 x&&a.all (aL 8)then .ok (a.any λy=>ey y x)else .bad
 |.str x,.str y=>.ok (rE x y)
 |_,_=>.bad
noncomputable def isD(x y:D):Out Bool:=
 match x,y with
 |.non,.non=>.ok true
 |_,.non=>.ok false
 |.bl a,.bl b=>.ok (a==b)
 |.non,.bl _=>.ok false
 |.int _,.bl _=>.ok false
 |.str _,.bl _=>.ok false
 |.lst _,.bl _=>.ok false
 |.tup _,.bl _=>.ok false
 |_,_=>.bad
def dH(op:CmpOp)(x y:D):Out Bool:=
 match op,x,y with
 |.Eq,x,y=>if aL 8 x&&aL 8 y then .ok (ey x y)else .bad
 |.NotEq,x,y=>if aL 8 x&&aL 8 y then .ok (!ey x y)else .bad
 |.Lt,.int i,.int j=>.ok (decide (i<j))
 |.LtE,.int i,.int j=>.ok (decide (i<=j))
 |.Gt,.int i,.int j=>.ok (decide (j<i))
 |.GtE,.int i,.int j=>.ok (decide (j<=i))
 |.In,x,y=>inD x y
 |.NotIn,x,y=>do let b ←inD x y;.ok (!b)
 |.Is,x,y=>isD x y
 |.IsNot,x,y=>do let b ←isD x y;.ok (!b)
 |_,_,_=>.bad
noncomputable def bF(c:Nat):Str:=⟨#[c]⟩
def qo(x y:D):Out Rs:=
 match x,y with
 |.lst a,.int i=>match L2.jD a i with|some d=>.ok (false,d)|none=>.bad
 |.tup a,.int i=>match L2.jD a i with|some d=>.ok (false,d)|none=>.bad
 |.str z,.int i=>if small z.length then (match L2.jD z.cps.toList i with|some c=>.ok (false,.str (bF c))|none=>.bad)else .bad
 |_,_=>.bad
def du{a:Type}(xs:List a)(b c:Option Int):List a:=(xs.drop (HT.gv xs.length 0 b)).take (HT.gv xs.length xs.length c - HT.gv xs.length 0 b)
def vf(x:D)(a b:Option Int):Out Rs:=
 match x with
 |.lst c=>.ok (true,.lst (du c a b))
 |.str z=>if small z.length then .ok (false,.str ⟨(du z.cps.toList a b).toArray⟩)else .bad
 |_=>.bad
noncomputable def intsFrom(a:Int):Nat->List D
 |0=>[]
 |n+1=>.int a::intsFrom (a+1) n
noncomputable def lI(i:Int):Bool:=decide (i.natAbs<4611686018427387904)
theorem oJ{i:Int}(h:lI i=true): -(2 ^ 62)<=i/\i<2 ^ 62:=by
 have:=of_decide_eq_true h;omega
noncomputable def dw(i:Nat):List D->List D
 |[]=>[]
 |d::ds=>.tup [.int i,d]::dw (i+1) ds
inductive jF where
 |len|all|any|sorted|list|tuple|int|min|max|bool
 deriving DecidableEq
def fg:List D->Option (List Bool)
 |[]=>some []
 |d::r=>match ju d,fg r with|some b,some bs=>some (b::bs)|_,_=>none
noncomputable def lY:List D->Option (List Int)
 |[]=>some []
 |.int i::r=>(lY r).map (i :: ·)
 |_=>none
noncomputable def f9:List D->Option (List Str)
 |[]=>some []
 |.str i::r=>(f9 r).map (i :: ·)
 |_=>none
noncomputable def bZ(a b:Str):Bool := !decide (b.cps.toList<a.cps.toList)
def ik(ds:List D):Out (List D):=
 if 64<=ds.length then .bad else
 match lY ds with
 |some c=>.ok ((c.mergeSort λa b=>decide (a<=b)).map .int)
 |none=>match f9 ds with
  |some d=>.ok ((d.mergeSort bZ).map .str)
  |none=>.bad
def gT(f:jF)(a:D):Out Rs:=
 match f,a with
 |.len,.tup [.lst b]=>.ok (false,.int b.length)
 |.len,.tup [.tup b]=>.ok (false,.int b.length)
 |.len,.tup [.str z]=>if small z.length then .ok (false,.int z.length)else .bad
 |.all,.tup [.lst b]=>match fg b with|some bs=>.ok (false,.bl (bs.all id))|none=>.bad
 |.any,.tup [.lst b]=>match fg b with|some bs=>.ok (false,.bl (bs.any id))|none=>.bad
 |.sorted,.tup [.lst b]=>do let c ←ik b;.ok (true,.lst c)
 |.list,.tup [.lst b]=>.ok (true,.lst b)
 |.list,.tup [.tup b]=>.ok (true,.lst b)
 |.tuple,.tup [.lst b]=>.ok (false,.tup b)
 |.tuple,.tup [.tup b]=>.ok (false,.tup b)
 |.int,.tup [.int i]=>.ok (false,.int i)
 |.int,.tup [.bl k]=>.ok (false,.int (if k then 1 else 0))
 |.min,.tup [.int i,.int j]=>.ok (false,.int (if j<i then j else i))
 |.max,.tup [.int i,.int j]=>.ok (false,.int (if j>i then j else i))
 |_,_=>.bad
inductive QD where
 |index|join
 deriving DecidableEq
def vg(m:QD)(x:D)(a:D):Out Rs:=
 match m,x,a with
 |.index,.lst b,.tup [d]=>if aL 8 d&&b.all (aL 8)then (match b.findIdx? λy=>ey y d with|some j=>.ok (false,.int j)|none=>.bad)else .bad
 |.index,.str z,.tup [.str y]=>match Builtin.Str.occurrences z y 0 z.length 1 with|i::_=>.ok (false,.int i)|[]=>.bad
 |.join,.str z,.tup [.lst c]=>match f9 c with|some b=>if decide (z.length<=16)&&decide ((b.map (·.length)).sum+b.length<=1048576)then .ok (false,.str (Txt.join z b))else .bad|none=>.bad
 |_,_,_=>.bad
inductive Ty where
 |int|str|bool|list|tuple|dict
 deriving DecidableEq
noncomputable def vh:D->Ty->Option Bool
 |.non,_=>some false
 |.bl _,t=>some (t==.bool||t==.int)
 |.int _,t=>some (t==.int)
 |.str _,t=>some (t==.str)
 |.lst _,t=>some (t==.list)
 |.tup _,t=>some (t==.tuple)
 |.dct _ _,t=>some (t==.dict)
 |.ref _,_=>none
noncomputable def eS:D->Bool
 |.non|.bl _|.int _|.str _=>true
 |_=>false
noncomputable def fuel:Nat:=100000
def mZ{a:Type}(xs:List a)(i:Int)(x:a):List a:=let k:=HT.gv xs.length 0 (some i);xs.take k++x::xs.drop k
end Mir
namespace Mir
open PySem PySem.Spec PyProof.Rows L2
mutual
noncomputable def Rep(Z:Addr->Prop)(H:Hp):D->V->Prop
 |.non,v=>v=.non
 |.bl b,v=>v=.bl b
 |.int i,v=>v=.int i
 |.str x,v=>v=.str x
 |.lst ds,v=>∃a vs,v=.ref a/\Z a/\Rd H a (.lst vs)/\aY Z H ds vs
 |.tup ds,v=>∃a vs,v=.ref a/\Z a/\Rd H a (.tup vs)/\aY Z H ds vs
 |.dct ks ds,v=>∃a vs,v=.ref a/\Z a/\H a=some (.dK (ks.zip vs))/\aY Z H ds vs
 |.ref _,_=>False
noncomputable def aY(Z:Addr->Prop)(H:Hp):List D->List V->Prop
 |[],a=>a=[]
 |d::ds,a=>∃v r,a=v::r/\Rep Z H d v/\aY Z H ds r
end
section
variable{Z Z':Addr->Prop}{H H':Hp}
theorem m8{a:Addr}{u:HO}(k:∀o,H a=some o->H' a=some o)(h:Rd H a u):Rd H' a u:=by
 rcases h with h|⟨o,h⟩
 .exact .inl (k _ h)
 .exact .inr ⟨o,k _ h⟩
mutual
theorem Rep.mono(k:∀a o,Z a->H a=some o->H' a=some o)(z:∀a,Z a->Z' a):∀{d:D}{v:V},Rep Z H d v->Rep Z' H' d v
 |.non,_,h=>by simpa only [Rep]using h
 |.bl _,_,h=>by simpa only [Rep]using h
 |.int _,_,h=>by simpa only [Rep]using h
 |.str _,_,h=>by simpa only [Rep]using h
 |.lst ds,v,h=>by
  simp only[Rep]at h ⊢;obtain⟨a,c,e,b,f,g⟩:=h;exact⟨a,c,e,z a b,m8 (λo=>k a o b) f,aY.mono k z g⟩
 |.tup ds,v,h=>by
  simp only[Rep]at h ⊢;obtain⟨a,c,e,b,f,g⟩:=h;exact⟨a,c,e,z a b,m8 (λo=>k a o b) f,aY.mono k z g⟩
 |.dct i ds,v,h=>by
  simp only[Rep]at h ⊢;obtain⟨a,c,e,b,f,g⟩:=h;exact⟨a,c,e,z a b,k a _ b f,aY.mono k z g⟩
 |.ref _,_,h=>by simp only[Rep]at h
theorem aY.mono(k:∀a o,Z a->H a=some o->H' a=some o)(z:∀a,Z a->Z' a):∀{ds:List D}{vs:List V},aY Z H ds vs->aY Z' H' ds vs
 |[],_,h=>by simpa only [aY]using h
 |d::ds,vs,h=>by
  simp only[aY]at h ⊢;obtain⟨v,r,e,h1,h2⟩:=h;exact⟨v,r,e,Rep.mono k z h1,aY.mono k z h2⟩
end
theorem aY.length:∀{ds:List D}{vs:List V},aY Z H ds vs->vs.length=ds.length
 |[],_,h=>by simp only[aY]at h;rw[h];rfl
 |d::ds,_,h=>by
  simp only[aY]at h;obtain⟨v,r,e,_,h2⟩:=h;rw[e,List.length_cons,List.length_cons,aY.length h2]
theorem aY.get:∀{ds:List D}{vs:List V}{i:Nat}{d:D},aY Z H ds vs->ds[i]?=some d->∃v,vs[i]?=some v/\Rep Z H d v
 |[],_,_,_,_,e=>by simp at e
 |d::ds,_,0,_,h,e=>by
  simp only[aY]at h;obtain⟨v,r,rfl,h1,_⟩:=h;simp at e;subst e
  exact⟨v,rfl,h1⟩
 |d::ds,_,i+1,a,h,e=>by
  simp only[aY]at h;obtain⟨v,r,rfl,_,b⟩:=h;obtain⟨u,c,f⟩:=aY.get (i:=i) (d:=a) b (by simpa using e)
  exact⟨u,by simpa using c,f⟩
theorem aY.append:∀{ds es:List D}{vs a:List V},aY Z H ds vs->aY Z H es a->aY Z H (ds++es) (vs++a)
 |[],_,_,_,h,h'=>by simp only[aY]at h;rw[h];exact h'
 |d::ds,_,_,_,h,h'=>by
  simp only[aY]at h;obtain⟨v,r,rfl,h1,h2⟩:=h
  show aY Z H (d::(ds++_)) (v::(r++_))
  simp only[aY];exact⟨v,_,rfl,h1,aY.append h2 h'⟩
theorem aY.nil:aY Z H [] []:=by simp only[aY]
theorem aY.cons{d:D}{ds:List D}{v:V}{vs:List V}(h:Rep Z H d v)(h':aY Z H ds vs):aY Z H (d::ds) (v::vs):=by
 simp only[aY];exact⟨v,vs,rfl,h,h'⟩
theorem aY.nil_inv{vs:List V}(h:aY Z H [] vs):vs=[]:=by simpa only [aY]using h
theorem aY.cons_inv{d:D}{ds:List D}{vs:List V}(h:aY Z H (d::ds) vs):∃v r,vs=v::r/\Rep Z H d v/\aY Z H ds r:=by simpa only [aY]using h
def Now(Z:Addr->Prop)(H:Hp)(d:D)(v:V):Prop:=
 match d with
 |.lst c=>∃a b,v=.ref a/\Rd H a (.lst b)/\aY Z H c b
 |d=>Rep Z H d v
theorem Rep.now{d:D}{v:V}(h:Rep Z H d v):Now Z H d v:=by
 cases d with
 |lst c=>
  simp only[Rep]at h;obtain⟨a,b,e,_,h⟩:=h;exact⟨a,b,e,h⟩
 |_=>exact h
end
structure eF(Z:Addr->Prop)(H:Hp)(Z':Addr->Prop)(H':Hp):Prop where
 same:ij H H'
 sub:∀a,Z a->Z' a
 new:∀a,Z' a->Z a\/H a=none
 dom:∀a,Z' a->H' a≠none
theorem eF.refl{Z:Addr->Prop}{H:Hp}(d:∀a,Z a->H a≠none):eF Z H Z H:=⟨ij.refl _,λ_ h=>h,λ_ h=>.inl h,d⟩
theorem ij.laid{H:Hp}{p:Addr}{o:HO}(h:H p=none):ij H (upd H p o):=λb u e=>by rw[aJ (bc e h)];exact e
theorem eF.laid{Z:Addr->Prop}{H:Hp}{p:Addr}{o:HO}(d:∀a,Z a->H a≠none)(h:H p=none):eF Z H Z (upd H p o):=
 ⟨ij.laid h,λ_ h=>h,λ_ h=>.inl h,λa b=>by
  have ne:a≠p:=λe=>d a b (by rw[e];exact h)
  rw[aJ ne];exact d a b⟩
def Zp(Z:Addr->Prop)(p:Addr):Addr->Prop:=λa=>Z a\/a=p
section
variable{Z0 Z Z':Addr->Prop}{H0 H H':Hp}{ρ:yk}{σ:L2.St}
end
def ef(bw b:Bool)(Z:Addr->Prop)(f H:Hp)(d:D)(v:V):Prop:=
 if b=true then ∃a c e,d=.lst e/\v=.ref a/\f a=none/\¬ Z a/\H a=some (.lst c)/\aY Z H e c
 else if bw=true then Now Z H d v else Rep Z H d v
theorem ef.own{bw:Bool}{Z:Addr->Prop}{b H:Hp}{a:Addr}{ds:List D}{vs:List V}(c:b a=none)(d:¬ Z a)(e:H a=some (.lst vs))(f:aY Z H ds vs):ef bw true Z b H (.lst ds) (.ref a):=by
 unfold ef;rw[if_pos rfl];exact⟨a,vs,ds,rfl,rfl,c,d,e,f⟩
theorem ef.rep{bw:Bool}{Z:Addr->Prop}{a H:Hp}{d:D}{v:V}(h:Rep Z H d v):ef bw false Z a H d v:=by
 unfold ef;rw[if_neg Bool.false_ne_true]
 split
 .exact h.now
 .exact h
theorem ef.now{b:Bool}{Z:Addr->Prop}{c H:Hp}{d:D}{v:V}(h:ef true b Z c H d v):Now Z H d v:=by
 unfold ef at h;split at h
 .obtain⟨a,e,i,rfl,rfl,_,_,f,g⟩:=h
  exact⟨a,e,rfl,.inl f,g⟩
 .rw[if_pos rfl]at h;exact h
theorem PE.imp{X:Cx}{e:Expr}{t t':TE}(h:PE X e t)(i:∀a H Q,t' a H Q->t a H Q):PE X e t':=λpins s a H Q I q=>h pins s a H Q I (i a H Q q)
theorem kf{d e:Type}{x:Out d}{f:d->Out e}{b:e}(h:(x >>= f)=.ok b):∃a,x=.ok a/\f a=.ok b:=by
 cases x with
 |ok a=>exact⟨a,rfl,h⟩
 |exc c g=>cases h
 |bad=>cases h
section
variable{Γ:lJ}{Z0 Z:Addr->Prop}{H0 H:Hp}{ρ:yk}{σ:L2.St}{c:Ex}{Q:VK}{own:Bool}{d:D}
end
end Mir
namespace Mir
open PySem PySem.Spec PyProof.Rows L2
section
variable{Z Z':Addr->Prop}{H H2 H':Hp}{d:D}{v:V}{bw own:Bool}
theorem bL{n:Nat}(h:small n=true):n<=sizeLine:=of_decide_eq_true h
end
section
variable{X:Cx}{Γ:lJ}{bw:Bool}{a b e:Expr}{ca cb c:Ex}{pos:Pos}
noncomputable def fh:D->Option V
 |.non=>some .non
 |.bl b=>some (.bl b)
 |.int i=>some (.int i)
 |.str x=>some (.str x)
 |_=>none
theorem fj{Z:Addr->Prop}{H:Hp}{d:D}{v:V}(h:fh d=some v):Rep Z H d v:=by
 cases d<;>simp only[fh]at h<;>first|cases h;simp only[Rep]|cases h
end
section
variable{Z:Addr->Prop}{H:Hp}{x:V}
theorem fB(h:Now Z H .non x):x=.non:=by simpa only [Now,Rep]using h
theorem bB{i:Int}(h:Now Z H (.int i) x):x=.int i:=by simpa only [Now,Rep]using h
theorem gU{i:Bool}(h:Now Z H (.bl i) x):x=.bl i:=by simpa only [Now,Rep]using h
theorem di{i:Str}(h:Now Z H (.str i) x):x=.str i:=by simpa only [Now,Rep]using h
theorem dj{ds:List D}(h:Now Z H (.lst ds) x):∃a vs,x=.ref a/\Rd H a (.lst vs)/\aY Z H ds vs:=h
theorem fC{ds:List D}(h:Now Z H (.tup ds) x):∃a vs,x=.ref a/\Z a/\Rd H a (.tup vs)/\aY Z H ds vs:=by simpa only [Now,Rep]using h
theorem jv{K:PySem.W.Frag}{a:Addr}{vs:List V}(h:Rd H a (.lst vs)):jb K H a vs:=.inl h
theorem tP{K:PySem.W.Frag}{a:Addr}{vs:List V}(h:Rd H a (.tup vs)):pT K H a vs:=.inl h
theorem ym{bw:Bool}{Q:VK}{ds:List D}{vs:List V}(b:∀a,Z a->H a≠none)(f:aY Z H ds vs)
  (k:∀v d e,eF Z H e d->ef bw true e H d (.lst ds) v->Q v d):∀p,H p=none->Q (.ref p) (upd H p (.lst vs)):=λp c=>
 k _ _ Z (eF.laid b c) (.own c (λz=>b p z c) ba (f.mono (λa o _=>ij.laid c a o) λ_ z=>z))
end
section
variable{X:Cx}{Γ:lJ}{bw:Bool}{a b e:Expr}{ca cb c:Ex}{pos:Pos}
def AY:R2:=λx y H Q=>∃l b a c,x=.ref l/\y=.ref b/\Rd H l (.lst a)/\Rd H b (.lst c)/\a.length+c.length<=sizeLine/\∀p,H p=none->Q (.ref p) (upd H p (.lst (a++c)))
theorem yn:fX X (binaryOp .Add) AY:=by
 intro pins s w H x y v u Q I i j h;obtain⟨l,b,d,f,rfl,rfl,k,m,A,q⟩:=h;cases i;cases j;obtain⟨z,a,n,r,e⟩:d.length<=sizeLine/\∃(a:List Value) (n:Nat),Vals d a/\s.heap.get? l=some {cls:=.type "list",data:=.seq a.toArray n}:=Rd.ok k I.hok;obtain⟨B,c,C,g,o⟩:f.length<=sizeLine/\∃(a:List Value) (n:Nat),Vals f a/\s.heap.get? b=some {cls:=.type "list",data:=.seq a.toArray n}:=Rd.ok m I.hok;have D:=r.length;have p:=g.length;refine PySem.P.add_list e o ?_ (by rw[List.size_toArray,List.size_toArray];omega)
 have t:a.toArray++c.toArray=(a++c).toArray:=by simp
 rw[t];exact⟨.ref _,_,I.Ko (t':=s.toks) (r.append g) (by rw[List.length_append];omega),rfl,q _ I.fresh⟩
def yo(op:Operator):R2:=λx y H Q=>match op with
 |.Add=>(∃i j,x=.int i/\y=.int j/\Q (.int (i+j)) H)\/(∃i j,x=.str i/\y=.str j/\i.length+j.length<=sizeLine/\Q (.str (i++j)) H)\/AY x y H Q
 |.Sub=>∃i j,x=.int i/\y=.int j/\Q (.int (i - j)) H
 |.Mult=>∃i j,x=.int i/\y=.int j/\xV i j/\Q (.int (i*j)) H
 |.FloorDiv=>∃i j,x=.int i/\y=.int j/\EI i j/\Q (.int (i / j)) H
 |.Mod=>∃i j,x=.int i/\y=.int j/\0<j/\Q (.int (i%j)) H
 |.Pow=>∃i j,x=.int i/\y=.int j/\EJ i j/\Q (.int (i ^ j.toNat)) H
 |_=>False
theorem vi(op:Operator):fX X (binaryOp op) (yo op):=by
 cases op with
 |Add=>exact BJ.or (pY.or yn)
 |Sub=>exact BK
 |Mult=>exact BL
 |FloorDiv=>exact xW
 |Mod=>exact BN
 |Pow=>exact BO
 |_=>exact λ_ _ _ _ _ _ _ _ _ _ _ _ h=>h.elim
theorem Cb{op:Operator}{n o:D}{x y:V}{Z:Addr->Prop}{H:Hp}{h:Bool}{d:D}{Q:VK}(f:Now Z H n x)(g:Now Z H o y)(i:∀a,Z a->H a≠none)(b:ff op n o=.ok (h,d))
  (k:∀v j p,eF Z H p j->ef bw h p H j d v->Q v j):yo op x y H Q:=by
 have c:∀{r:D}{v:V},fh r=some v->Out.ok (false,r)=Out.ok (h,d)->Q v H:=λu q=>by
  cases q;exact k _ H Z (eF.refl i) (.rep (fj u))
 unfold ff at b;split at b
 .cases bB f;cases bB g
  exact .inl ⟨_,_,rfl,rfl,c rfl b⟩
 .cases bB f;cases bB g
  exact⟨_,_,rfl,rfl,c rfl b⟩
 .cases bB f;cases bB g
  split at b
  .rename_i e
   refine⟨_,_,rfl,rfl,?_,c rfl b⟩;simp only[Bool.or_eq_true]at e;have e:=e.imp oH oH;exact e
  .cases b
 .cases bB f;cases bB g
  split at b
  .rename_i e
   refine⟨_,_,rfl,rfl,?_,c rfl b⟩;simp only[Bool.and_eq_true,decide_eq_true_eq]at e;exact e
  .cases b
 .cases bB f;cases bB g
  split at b
  .rename_i e
   exact⟨_,_,rfl,rfl,of_decide_eq_true e,c rfl b⟩
  .cases b
 .cases bB f;cases bB g
  split at b
  .rename_i e
   refine⟨_,_,rfl,rfl,?_,c rfl b⟩;simp only[Bool.and_eq_true,decide_eq_true_eq]at e;exact⟨e.1.1,Int.le_trans e.1.2 (by decide),e.2⟩
  .cases b
 .cases di f;cases di g
  split at b
  .rename_i e
   exact .inr (.inl ⟨_,_,rfl,rfl,bL e,c rfl b⟩)
  .cases b
 .obtain⟨l,w,rfl,z,s⟩:=dj f
  obtain⟨m,A,rfl,B,t⟩:=dj g;split at b
  .rename_i e
   cases b;have C:=bL e;exact .inr (.inr ⟨l,m,w,A,rfl,rfl,z,B,by rw[s.length,t.length];exact C,ym i (s.append t) k⟩)
  .cases b
 .cases b
end
section
variable{Z:Addr->Prop}{H:Hp}
theorem m9{a:Addr}{u b:HO}(d:∀o w,u≠.dr o w)(c:∀o w,b≠.dr o w)(h:Rd H a u)(h':Rd H a b):u=b:=by
 rcases h with h|⟨o,h⟩<;>rcases h' with h' |⟨f,h'⟩<;>rw[h]at h'<;>injection h' with e
 .exact absurd e (d _ _)
 .exact absurd e.symm (c _ _)
 .injection e
theorem qq{a:Addr}{xs b:List V}(h:Rd H a (.lst xs))(h':Rd H a (.lst b)):xs=b:=by
 have e:=m9 (λ_ _ z=>by cases z) (λ_ _ z=>by cases z) h h'
 injection e
theorem qr{a:Addr}{xs b:List V}(h:Rd H a (.tup xs))(h':Rd H a (.tup b)):xs=b:=by
 have e:=m9 (λ_ _ z=>by cases z) (λ_ _ z=>by cases z) h h'
 injection e
theorem rF{a:Addr}{xs b:List V}(h:Rd H a (.lst xs))(h':Rd H a (.tup b)):False:=by
 have e:=m9 (λ_ _ z=>by cases z) (λ_ _ z=>by cases z) h h'
 cases e
mutual
theorem Rep.uniq:∀(n:Nat) (d d':D) (v:V),aL n d=true->aL n d'=true->Rep Z H d v->Rep Z H d' v->d=d'
 |n,.lst xs,d',v,o,o',h,h'=>by
  simp only[Rep]at h;obtain⟨a,g,rfl,_,h1,h2⟩:=h;cases d'<;>simp only[Rep]at h'
  case lst ys=>
   obtain⟨b,i,e,_,c,f⟩:=h';cases e;cases qq h1 c;cases n with
   |zero=>simp[aL]at o
   |succ n=>rw[aY.uniq n xs ys g (by simpa[aL]using o) (by simpa[aL]using o') h2 f]
  case tup ys=>
   obtain⟨b,i,e,_,c,f⟩:=h';cases e;exact(rF h1 c).elim
  case dct ks ys=>cases n<;>simp[aL]at o'
  all_goals cases h'
 |n,.tup xs,d',v,o,o',h,h'=>by
  simp only[Rep]at h;obtain⟨a,g,rfl,_,h1,h2⟩:=h;cases d'<;>simp only[Rep]at h'
  case tup ys=>
   obtain⟨b,i,e,_,c,f⟩:=h';cases e;cases qr h1 c;cases n with
   |zero=>simp[aL]at o
   |succ n=>rw[aY.uniq n xs ys g (by simpa[aL]using o) (by simpa[aL]using o') h2 f]
  case lst ys=>
   obtain⟨b,i,e,_,c,f⟩:=h';cases e;exact(rF c h1).elim
  case dct ks ys=>cases n<;>simp[aL]at o'
  all_goals cases h'
 |n,.dct ks xs,_,_,o,_,_,_=>by cases n<;>simp[aL]at o
 |n,.ref _,_,_,_,_,h,_=>by simp only[Rep]at h
 |n,.non,d',v,_,o',h,h'=>by
  simp only[Rep]at h;subst h
  cases d'<;>simp only[Rep]at h'<;>first|rfl | (obtain⟨_,_,e,_⟩:=h';cases e;done) | (cases h';done)
 |n,.bl b,d',v,_,o',h,h'=>by
  simp only[Rep]at h;subst h
  cases d'<;>simp only[Rep]at h'<;>first | (obtain⟨_,_,e,_⟩:=h';cases e;done) | (cases h';rfl) | (cases h';done)
 |n,.int b,d',v,_,o',h,h'=>by
  simp only[Rep]at h;subst h
  cases d'<;>simp only[Rep]at h'<;>first | (obtain⟨_,_,e,_⟩:=h';cases e;done) | (cases h';rfl) | (cases h';done)
 |n,.str b,d',v,_,o',h,h'=>by
  simp only[Rep]at h;subst h
  cases d'<;>simp only[Rep]at h'<;>first | (obtain⟨_,_,e,_⟩:=h';cases e;done) | (cases h';rfl) | (cases h';done)
theorem aY.uniq:∀(n:Nat) (xs a:List D) (vs:List V),(∀x∈xs,aL n x=true)->(∀x∈a,aL n x=true)->aY Z H xs vs->aY Z H a vs->xs=a
 |n,[],a,vs,_,_,h,h'=>by
  rw[h.nil_inv]at h';cases a with
  |nil=>rfl
  |cons y a=>obtain⟨_,_,e,_⟩:=h'.cons_inv;cases e
 |n,x::xs,a,vs,o,c,h,h'=>by
  obtain⟨v,r,rfl,d,f⟩:=h.cons_inv;cases a with
  |nil=>exact absurd h'.nil_inv (by simp)
  |cons y a=>
   obtain⟨w,j,e,g,i⟩:=h'.cons_inv;cases e;rw[Rep.uniq n x y v (o x (by simp)) (c y (by simp)) d g,aY.uniq n xs a r (λz b=>o z (by simp[b])) (λz b=>c z (by simp[b])) f i]
end
mutual
theorem vj:∀(n:Nat) (d:D),aL n d=true->ey d d=true
 |n,.lst xs,o=>by
  cases n with
  |zero=>simp[aL]at o
  |succ n=>simp only[ey];exact fk n xs (by simpa[aL]using o)
 |n,.tup xs,o=>by
  cases n with
  |zero=>simp[aL]at o
  |succ n=>simp only[ey];exact fk n xs (by simpa[aL]using o)
 |n,.dct _ _,o=>by cases n<;>simp[aL]at o
 |n,.ref _,o=>by cases n<;>simp[aL]at o
 |n,.non,_=>by simp[ey]
 |n,.bl _,_=>by simp[ey]
 |n,.int _,_=>by simp[ey]
 |n,.str _,_=>by simp[ey]
theorem fk:∀(n:Nat) (xs:List D),(∀x∈xs,aL n x=true)->ez xs xs=true
 |n,[],_=>by simp[ez]
 |n,x::xs,o=>by
  simp only[ez,vj n x (o x (by simp)),fk n xs λz hz=>o z (by simp[hz]),Bool.and_self]
end
theorem dY:∀(xs a:List D),((List.range (min xs.length a.length)).all (λj=>ey (xs.getD j .non) (a.getD j .non))&&(xs.length==a.length))=ez xs a
 |[],[]=>by simp[ez]
 |[],_::_=>by simp[ez]
 |_::_,[]=>by simp[ez]
 |x::xs,y::a=>by
  have b:=dY xs a;have c:min (x::xs).length (y::a).length=min xs.length a.length+1:=by simp only[List.length_cons];omega
  rw[c,List.range_succ_eq_map,List.all_cons,List.all_map,ez,←b];simp[Function.comp_def,Bool.and_assoc]
theorem kg{xs a:List D}(h:xs.length=a.length):(List.range xs.length).all (λj=>ey (xs.getD j .non) (a.getD j .non))=ez xs a:=by
 have e:=dY xs a;rw[←h,Nat.min_self]at e;simpa using e
theorem m_{xs a:List D}(h:xs.length≠a.length):ez xs a=false:=by
 rw[←dY xs a];simp[h]
end
inductive Vw (s:Shared) (Z:Addr->Prop) (H:Hp):D->Value->Prop where
 |non:Vw s Z H .non .none
 |bl (b:Bool):Vw s Z H (.bl b) (.bool b)
 |int (i:Int) (t:Tok):Vw s Z H (.int i) (.int i t)
 |str (x:Str) (t:Tok):Vw s Z H (.str x) (.str x t)
 |lst {l:Addr}{its:List Value}{vs:List V}{ds:List D}:s.heap.IsList l its.toArray->Vals vs its->Rd H l (.lst vs)/\aY Z H ds vs->Vw s Z H (.lst ds) (.ref l)
 |tup {l:Addr}{its:List Value}{vs:List V}{ds:List D}:s.heap.IsTuple l its.toArray->Vals vs its->Rd H l (.tup vs)/\aY Z H ds vs->Vw s Z H (.tup ds) (.ref l)
section
variable{X:Cx}{pins:List (Addr×Obj)}{σ:L2.St}{Z:Addr->Prop}{H:Hp}{s:Shared}{A:Around}
theorem fP{n:Nat}{d:D}{v:V}{u:Value}(I:Inv X pins σ H s)(c:Now Z H d v)(r:RelV v u)(o:aL n d=true):Vw s Z H d u:=by
 cases d with
 |non=>cases fB c;cases r;exact .non
 |bl b=>cases gU c;cases r;exact .bl b
 |int b=>cases bB c;obtain⟨t,rfl⟩:=r;exact .int b t
 |str b=>cases di c;obtain⟨t,rfl⟩:=r;exact .str b t
 |lst i=>
  obtain⟨a,j,rfl,e,f⟩:=dj c;cases r;obtain⟨g,h,p,l⟩:=I.list (jv (K:=X.K) e);exact .lst p.isList h ⟨e,f⟩
 |tup i=>
  obtain⟨a,j,rfl,_,e,f⟩:=fC c;cases r;obtain⟨g,h,p,l⟩:=I.tuple (tP (K:=X.K) e);exact .tup p h ⟨e,f⟩
 |dct m i=>cases n<;>simp[aL]at o
 |ref k=>cases n<;>simp[aL]at o
theorem ng{vs:List V}{a:List Value}(r:Vals vs a){j:Nat}(d:j<a.length):∃v,vs[j]?=some v/\RelV v a[j]:=by
 have f:=r.length;have b:vs[j]?=some vs[j]:=by simp[show j<vs.length by omega]
 obtain⟨u,c,e⟩:=r.get b;rw[List.getElem?_eq_getElem d]at c;cases c;exact⟨_,b,e⟩
theorem fm{n:Nat}(I:Inv X pins σ H s)(r:∀(A:Around) (e f:D) (u w:Value),A.units+n<cLine->aL n e=true->aL n f=true->Vw s Z H e u->Vw s Z H f w->SeqAt.EqAt A s u w (ey e f))
  {ds es:List D} (t:∀x∈ds,aL n x=true) (y:∀x∈es,aL n x=true) (G:A.units+(n+1)<cLine) {vs k:List V}{b a:List Value} (l:Vals vs b) (m:Vals k a) (pl:aY Z H ds vs) (o:aY Z H es k) :
  ∀j (g:j<b.toArray.size) (h:j<a.toArray.size),SeqAt.EqAt A.in1 s b.toArray[j] a.toArray[j] (ey (ds.getD j .non) (es.getD j .non)):=by
 intro j g h;have J:=l.length;have K:=m.length;have L:=pl.length;have M:=o.length;simp only[List.size_toArray]at g h;simp only[List.getElem_toArray];obtain⟨v,z,B⟩:=ng l g;obtain⟨w,C,i⟩:=ng m h;have p:ds[j]?=some (ds.getD j .non):=by simp[List.getD,show j<ds.length by omega]
 have q:es[j]?=some (es.getD j .non):=by simp[List.getD,show j<es.length by omega]
 obtain⟨N,c,E⟩:=pl.get p;obtain⟨O,d,F⟩:=o.get q;rw[z]at c;cases c
 rw[C]at d;cases d
 have o1:=t _ (List.mem_of_getElem? p);have o2:=y _ (List.mem_of_getElem? q);exact r A.in1 _ _ _ _ (by show A.units+1+n<cLine;omega) o1 o2 (fP I E.now B o1) (fP I F.now i o2)
theorem fo(I:Inv X pins σ H s):∀(n:Nat) (A:Around) (G J:D) (u w:Value),A.units+n<cLine->aL n G=true->aL n J=true->Vw s Z H G u->Vw s Z H J w->SeqAt.EqAt A s u w (ey G J):=by
 intro n
 induction n with
 |zero=>
  intro A G J u w N E K O o;have f:A.units<cLine:=by omega
  cases O with
  |non=>
   cases o with
   |non=>exact SeqAt.EqAt.same _
   |bl p=>exact SeqAt.EqAt.none_bool _
   |int q k=>exact SeqAt.EqAt.none_int _ _
   |str r k=>exact SeqAt.EqAt.none_str _ _
   |@lst m a d c e h g=>exact SeqAt.EqAt.none_list e f
   |@tup m a d c e h g=>exact SeqAt.EqAt.none_tuple e f
  |bl b=>
   cases o with
   |non=>exact SeqAt.EqAt.bool_none _
   |bl p=>exact SeqAt.EqAt.bool_bool _ _
   |int q k=>exact SeqAt.EqAt.bool_int _ _ _
   |str r k=>exact SeqAt.EqAt.bool_str _ _ _
   |@lst m a d c e h g=>exact SeqAt.EqAt.bool_list _ e f
   |@tup m a d c e h g=>exact SeqAt.EqAt.bool_tuple _ e f
  |int i t=>
   cases o with
   |non=>exact SeqAt.EqAt.int_none _ _
   |bl p=>exact SeqAt.EqAt.int_bool _ _ _
   |int q k=>exact SeqAt.EqAt.int_int _ _ _ _
   |str r k=>exact SeqAt.EqAt.int_str _ _ _ _
   |@lst m a d c e h g=>exact SeqAt.EqAt.int_list _ _ e f
   |@tup m a d c e h g=>exact SeqAt.EqAt.int_tuple _ _ e f
  |str x t=>
   cases o with
   |non=>exact SeqAt.EqAt.str_none _ _
   |bl p=>exact SeqAt.EqAt.str_bool _ _ _
   |int q k=>exact SeqAt.EqAt.str_int _ _ _ _
   |str r k=>exact SeqAt.EqAt.str_str _ _ _ _
   |@lst m a d c e h g=>exact SeqAt.EqAt.str_list _ _ e f
   |@tup m a d c e h g=>exact SeqAt.EqAt.str_tuple _ _ e f
  |@lst l y L z j F B=>
   cases o with
   |non=>exact SeqAt.EqAt.list_none j f
   |bl p=>exact SeqAt.EqAt.list_bool _ j f
   |int q k=>exact SeqAt.EqAt.list_int _ _ j f
   |str r k=>exact SeqAt.EqAt.list_str _ _ j f
   |@lst m a d c e h g=>
    simp[aL]at E
   |@tup m a d c e h g=>exact SeqAt.EqAt.list_tuple j e f
  |@tup l y L z j F B=>
   cases o with
   |non=>exact SeqAt.EqAt.tuple_none j f
   |bl p=>exact SeqAt.EqAt.tuple_bool _ j f
   |int q k=>exact SeqAt.EqAt.tuple_int _ _ j f
   |str r k=>exact SeqAt.EqAt.tuple_str _ _ j f
   |@lst m a d c e h g=>exact SeqAt.EqAt.tuple_list j e f
   |@tup m a d c e h g=>
    simp[aL]at E
 |succ n R=>
  intro A G J u w N E K O o;have f:A.units<cLine:=by omega
  cases O with
  |non=>
   cases o with
   |non=>exact SeqAt.EqAt.same _
   |bl p=>exact SeqAt.EqAt.none_bool _
   |int q k=>exact SeqAt.EqAt.none_int _ _
   |str r k=>exact SeqAt.EqAt.none_str _ _
   |@lst m a d c e h g=>exact SeqAt.EqAt.none_list e f
   |@tup m a d c e h g=>exact SeqAt.EqAt.none_tuple e f
  |bl b=>
   cases o with
   |non=>exact SeqAt.EqAt.bool_none _
   |bl p=>exact SeqAt.EqAt.bool_bool _ _
   |int q k=>exact SeqAt.EqAt.bool_int _ _ _
   |str r k=>exact SeqAt.EqAt.bool_str _ _ _
   |@lst m a d c e h g=>exact SeqAt.EqAt.bool_list _ e f
   |@tup m a d c e h g=>exact SeqAt.EqAt.bool_tuple _ e f
  |int i t=>
   cases o with
   |non=>exact SeqAt.EqAt.int_none _ _
   |bl p=>exact SeqAt.EqAt.int_bool _ _ _
   |int q k=>exact SeqAt.EqAt.int_int _ _ _ _
   |str r k=>exact SeqAt.EqAt.int_str _ _ _ _
   |@lst m a d c e h g=>exact SeqAt.EqAt.int_list _ _ e f
   |@tup m a d c e h g=>exact SeqAt.EqAt.int_tuple _ _ e f
  |str x t=>
   cases o with
   |non=>exact SeqAt.EqAt.str_none _ _
   |bl p=>exact SeqAt.EqAt.str_bool _ _ _
   |int q k=>exact SeqAt.EqAt.str_int _ _ _ _
   |str r k=>exact SeqAt.EqAt.str_str _ _ _ _
   |@lst m a d c e h g=>exact SeqAt.EqAt.str_list _ _ e f
   |@tup m a d c e h g=>exact SeqAt.EqAt.str_tuple _ _ e f
  |@lst l y L z j F B=>
   cases o with
   |non=>exact SeqAt.EqAt.list_none j f
   |bl p=>exact SeqAt.EqAt.list_bool _ j f
   |int q k=>exact SeqAt.EqAt.list_int _ _ j f
   |str r k=>exact SeqAt.EqAt.list_str _ _ j f
   |@lst m a d c e h g=>
    have S:=F.length;have T:=h.length;have U:=B.2.length;have V:=g.2.length;simp only[ey]
    by_cases C:l=m
    .subst C
     have P:=qq B.1 g.1;subst P;have Q:=aY.uniq n z c L (by simpa[aL]using E) (by simpa[aL]using K) B.2 g.2
     subst Q;rw[fk n z (by simpa[aL]using E)]
     exact SeqAt.EqAt.same _
    .refine SeqAt.EqAt.of_refs C ?_
     by_cases M:z.length=c.length
     .rw[←kg M]
      have:=SeqAt.RcAt.lists j e (by simp only[List.size_toArray];omega) f (fm I R (by simpa[aL]using E) (by simpa[aL]using K) N F h B.2 g.2)
      rw[show y.toArray.size=z.length by simp only[List.size_toArray];omega]at this
      exact this
     .rw[m_ M]
      exact SeqAt.RcAt.lists_lengths j e (by simp only[List.size_toArray,bne_iff_ne];omega) f
   |@tup m a d c e h g=>exact SeqAt.EqAt.list_tuple j e f
  |@tup l y L z j F B=>
   cases o with
   |non=>exact SeqAt.EqAt.tuple_none j f
   |bl p=>exact SeqAt.EqAt.tuple_bool _ j f
   |int q k=>exact SeqAt.EqAt.tuple_int _ _ j f
   |str r k=>exact SeqAt.EqAt.tuple_str _ _ j f
   |@lst m a d c e h g=>exact SeqAt.EqAt.tuple_list j e f
   |@tup m a d c e h g=>
    have S:=F.length;have T:=h.length;have U:=B.2.length;have V:=g.2.length;simp only[ey]
    by_cases C:l=m
    .subst C
     have P:=qr B.1 g.1;subst P;have Q:=aY.uniq n z c L (by simpa[aL]using E) (by simpa[aL]using K) B.2 g.2
     subst Q;rw[fk n z (by simpa[aL]using E)]
     exact SeqAt.EqAt.same _
    .refine SeqAt.EqAt.of_refs C ?_
     rw[←dY z c];have:=SeqAt.RcAt.tuples j e f (fm I R (by simpa[aL]using E) (by simpa[aL]using K) N F h B.2 g.2)
     rw[show y.toArray.size=z.length by simp only[List.size_toArray];omega,show a.toArray.size=c.length by simp only[List.size_toArray];omega]at this
     exact this
theorem vk(I:Inv X pins σ H s){n:Nat}{F G:D}{u w:Value}(J:A.units+(n+1)<cLine)(K:aL (n+1) F=true)(L:aL (n+1) G=true)(M:Vw s Z H F u)(p:Vw s Z H G w):SeqAt.RcAt A s u w (ey F G):=by
 have f:A.units<cLine:=by omega
 cases M with
 |non=>
  cases p with
  |non=>exact SeqAt.RcAt.none_none
  |bl q=>exact SeqAt.RcAt.none_bool _
  |int r k=>exact SeqAt.RcAt.none_int _ _
  |str y k=>exact SeqAt.RcAt.none_str _ _
  |@lst m a e c d g h=>exact SeqAt.RcAt.none_list d f
  |@tup m a e c d g h=>exact SeqAt.RcAt.none_tuple d f
 |bl b=>
  cases p with
  |non=>exact SeqAt.RcAt.bool_none _
  |bl q=>exact SeqAt.RcAt.bool_bool _ _
  |int r k=>exact SeqAt.RcAt.bool_int _ _ _
  |str y k=>exact SeqAt.RcAt.bool_str _ _ _
  |@lst m a e c d g h=>exact SeqAt.RcAt.bool_list _ d f
  |@tup m a e c d g h=>exact SeqAt.RcAt.bool_tuple _ d f
 |int i t=>
  cases p with
  |non=>exact SeqAt.RcAt.int_none _ _
  |bl q=>exact SeqAt.RcAt.int_bool _ _ _
  |int r k=>exact SeqAt.RcAt.int_int _ _ _ _
  |str y k=>exact SeqAt.RcAt.int_str _ _ _ _
  |@lst m a e c d g h=>exact SeqAt.RcAt.int_list _ _ d f
  |@tup m a e c d g h=>exact SeqAt.RcAt.int_tuple _ _ d f
 |str x t=>
  cases p with
  |non=>exact SeqAt.RcAt.str_none _ _
  |bl q=>exact SeqAt.RcAt.str_bool _ _ _
  |int r k=>exact SeqAt.RcAt.str_int _ _ _ _
  |str y k=>exact SeqAt.RcAt.str_str _ _ _ _
  |@lst m a e c d g h=>exact SeqAt.RcAt.str_list _ _ d f
  |@tup m a e c d g h=>exact SeqAt.RcAt.str_tuple _ _ d f
 |@lst l o N z j B C=>
  cases p with
  |non=>exact SeqAt.RcAt.list_none j f
  |bl q=>exact SeqAt.RcAt.list_bool _ j f
  |int r k=>exact SeqAt.RcAt.list_int _ _ j f
  |str y k=>exact SeqAt.RcAt.list_str _ _ j f
  |@lst m a e c d g h=>
   have O:=B.length;have P:=g.length;have Q:=C.2.length;have R:=h.2.length;simp only[ey]
   by_cases E:z.length=c.length
   .rw[←kg E]
    have:=SeqAt.RcAt.lists j d (by simp only[List.size_toArray];omega) f (fm I (fo I n) (by simpa[aL]using K) (by simpa[aL]using L) J B g C.2 h.2)
    rw[show o.toArray.size=z.length by simp only[List.size_toArray];omega]at this
    exact this
   .rw[m_ E]
    exact SeqAt.RcAt.lists_lengths j d (by simp only[List.size_toArray,bne_iff_ne];omega) f
  |@tup m a e c d g h=>exact SeqAt.RcAt.list_tuple j d f
 |@tup l o N z j B C=>
  cases p with
  |non=>exact SeqAt.RcAt.tuple_none j f
  |bl q=>exact SeqAt.RcAt.tuple_bool _ j f
  |int r k=>exact SeqAt.RcAt.tuple_int _ _ j f
  |str y k=>exact SeqAt.RcAt.tuple_str _ _ j f
  |@lst m a e c d g h=>exact SeqAt.RcAt.tuple_list j d f
  |@tup m a e c d g h=>
   have O:=B.length;have P:=g.length;have Q:=C.2.length;have R:=h.2.length;simp only[ey];rw[←dY z c];have:=SeqAt.RcAt.tuples j d f (fm I (fo I n) (by simpa[aL]using K) (by simpa[aL]using L) J B g C.2 h.2)
   rw[show o.toArray.size=z.length by simp only[List.size_toArray];omega,show a.toArray.size=c.length by simp only[List.size_toArray];omega]at this
   exact this
theorem qu(I:Inv X pins σ H s){n:Nat}{F G:D}{u w:Value}(J:A.units+(n+1)<cLine)(K:aL (n+1) F=true)(L:aL (n+1) G=true)(M:Vw s Z H F u)(p:Vw s Z H G w):SeqAt.RcNeAt A s u w (!ey F G):=by
 have f:A.units<cLine:=by omega
 cases M with
 |non=>
  cases p with
  |non=>exact SeqAt.RcNeAt.none_none
  |bl q=>exact SeqAt.RcNeAt.none_bool _
  |int r k=>exact SeqAt.RcNeAt.none_int _ _
  |str y k=>exact SeqAt.RcNeAt.none_str _ _
  |@lst m a e c d g h=>exact SeqAt.RcNeAt.none_list d f
  |@tup m a e c d g h=>exact SeqAt.RcNeAt.none_tuple d f
 |bl b=>
  cases p with
  |non=>exact SeqAt.RcNeAt.bool_none _
  |bl q=>exact SeqAt.RcNeAt.bool_bool _ _
  |int r k=>exact SeqAt.RcNeAt.bool_int _ _ _
  |str y k=>exact SeqAt.RcNeAt.bool_str _ _ _
  |@lst m a e c d g h=>exact SeqAt.RcNeAt.bool_list _ d f
  |@tup m a e c d g h=>exact SeqAt.RcNeAt.bool_tuple _ d f
 |int i t=>
  cases p with
  |non=>exact SeqAt.RcNeAt.int_none _ _
  |bl q=>exact SeqAt.RcNeAt.int_bool _ _ _
  |int r k=>exact SeqAt.RcNeAt.int_int _ _ _ _
  |str y k=>exact SeqAt.RcNeAt.int_str _ _ _ _
  |@lst m a e c d g h=>exact SeqAt.RcNeAt.int_list _ _ d f
  |@tup m a e c d g h=>exact SeqAt.RcNeAt.int_tuple _ _ d f
 |str x t=>
  cases p with
  |non=>exact SeqAt.RcNeAt.str_none _ _
  |bl q=>exact SeqAt.RcNeAt.str_bool _ _ _
  |int r k=>exact SeqAt.RcNeAt.str_int _ _ _ _
  |str y k=>exact SeqAt.RcNeAt.str_str _ _ _ _
  |@lst m a e c d g h=>exact SeqAt.RcNeAt.str_list _ _ d f
  |@tup m a e c d g h=>exact SeqAt.RcNeAt.str_tuple _ _ d f
 |@lst l o N z j B C=>
  cases p with
  |non=>exact SeqAt.RcNeAt.list_none j f
  |bl q=>exact SeqAt.RcNeAt.list_bool _ j f
  |int r k=>exact SeqAt.RcNeAt.list_int _ _ j f
  |str y k=>exact SeqAt.RcNeAt.list_str _ _ j f
  |@lst m a e c d g h=>
   have O:=B.length;have P:=g.length;have Q:=C.2.length;have R:=h.2.length;simp only[ey]
   by_cases E:z.length=c.length
   .rw[←kg E]
    have:=SeqAt.RcNeAt.lists j d (by simp only[List.size_toArray];omega) f (fm I (fo I n) (by simpa[aL]using K) (by simpa[aL]using L) J B g C.2 h.2)
    rw[show o.toArray.size=z.length by simp only[List.size_toArray];omega]at this
    exact this
   .rw[m_ E]
    exact SeqAt.RcNeAt.lists_lengths j d (by simp only[List.size_toArray,bne_iff_ne];omega) f
  |@tup m a e c d g h=>exact SeqAt.RcNeAt.list_tuple j d f
 |@tup l o N z j B C=>
  cases p with
  |non=>exact SeqAt.RcNeAt.tuple_none j f
  |bl q=>exact SeqAt.RcNeAt.tuple_bool _ j f
  |int r k=>exact SeqAt.RcNeAt.tuple_int _ _ j f
  |str y k=>exact SeqAt.RcNeAt.tuple_str _ _ j f
  |@lst m a e c d g h=>exact SeqAt.RcNeAt.tuple_list j d f
  |@tup m a e c d g h=>
   have O:=B.length;have P:=g.length;have Q:=C.2.length;have R:=h.2.length;simp only[ey];rw[←dY z c];have:=SeqAt.RcNeAt.tuples j d f (fm I (fo I n) (by simpa[aL]using K) (by simpa[aL]using L) J B g C.2 h.2)
   rw[show o.toArray.size=z.length by simp only[List.size_toArray];omega,show a.toArray.size=c.length by simp only[List.size_toArray];omega]at this
   exact this
end
end Mir
namespace Mir
open PySem PySem.Spec PyProof.Rows L2
theorem Vw.uniq{s:Shared}{Z:Addr->Prop}{H:Hp}{n:Nat}{d d':D}{u:Value}(h:Vw s Z H d u)(h':Vw s Z H d' u)(o:aL n d=true)(r:aL n d'=true):d=d':=by
 cases h with
 |non=>cases h';rfl
 |bl b=>cases h';rfl
 |int i t=>cases h';rfl
 |str x t=>cases h';rfl
 |@lst l j k m w y f=>
  cases h' with
  |@lst _ a g c p q e=>
   cases qq f.1 e.1;cases n with
   |zero=>simp[aL]at o
   |succ n=>rw[aY.uniq n m c k (by simpa[aL]using o) (by simpa[aL]using r) f.2 e.2]
  |@tup _ a g c p q e=>exact(rF f.1 e.1).elim
 |@tup l j k m w y f=>
  cases h' with
  |@tup _ a g c p q e=>
   cases qr f.1 e.1;cases n with
   |zero=>simp[aL]at o
   |succ n=>rw[aY.uniq n m c k (by simpa[aL]using o) (by simpa[aL]using r) f.2 e.2]
  |@lst _ a g c p q e=>exact(rF e.1 f.1).elim
section
variable{X:Cx}{pins:List (Addr×Obj)}{σ:L2.St}{Z:Addr->Prop}{H:Hp}{s:Shared}
def jw(s:Shared)(Z:Addr->Prop)(H:Hp)(a:D)(u:Value):Bool:=@decide (∃d,aL 8 d=true/\Vw s Z H d u/\ey d a=true) (Classical.propDecidable _)
theorem rG{a d:D}{u:Value}(o:aL 8 d=true)(h:Vw s Z H d u):jw s Z H a u=ey d a:=by
 unfold jw;cases e:ey d a with
 |true=>exact @decide_eq_true _ (Classical.propDecidable _) ⟨d,o,h,e⟩
 |false=>
  refine @decide_eq_false _ (Classical.propDecidable _) ?_;rintro⟨g,c,f,b⟩;rw[Vw.uniq f h c o,e]at b;cases b
theorem kh(I:Inv X pins σ H s){b:D}:∀{ds:List D}{vs:List V}{a:List Value},aY Z H ds vs->Vals vs a->(∀d∈ds,aL 8 d=true)->a.any (jw s Z H b)=ds.any λd=>ey d b
 |[],_,_,h,r,_=>by rw[h.nil_inv]at r;cases r;rfl
 |d::ds,_,_,h,r,o=>by
  obtain⟨v,vr,rfl,h1,h2⟩:=h.cons_inv;cases r with
  |cons c e=>
   rw[List.any_cons,List.any_cons,kh I h2 e λz f=>o z (by simp[f]),rG (o d (by simp)) (fP I h1.now c (o d (by simp)))]
theorem ki(I:Inv X pins σ H s){A:Around}{b:D}{w:Value}(c:A.units+8<cLine)(f:aL 8 b=true)(g:Vw s Z H b w) :
  ∀{ds:List D}{vs:List V}{a:List Value},aY Z H ds vs->Vals vs a->(∀d∈ds,aL 8 d=true)->∀u∈a,SeqAt.EqAt A s u w (jw s Z H b u)
 |[],_,_,h,r,_,u,hm=>by rw[h.nil_inv]at r;cases r;simp at hm
 |d::ds,_,_,h,r,o,u,hm=>by
  obtain⟨v,vr,rfl,h1,h2⟩:=h.cons_inv;cases r with
  |cons j k=>
   rcases List.mem_cons.mp hm with e|hm
   .subst e
    have i:=fP I h1.now j (o d (by simp))
    rw[rG (o d (by simp)) i]
    exact fo I 8 A d b _ w c (o d (by simp)) f i g
   .exact ki I c f g h2 k (λz l=>o z (by simp[l])) u hm
end
section
variable{X:Cx}{Γ:lJ}{bw:Bool}{a b e:Expr}{ca cb cc c:Ex}{pos:Pos}
def vl(op:CmpOp):R2:=λx y H Q=>∃Z a b k,Now Z H a x/\Now Z H b y/\dH op a b=.ok k/\Q (.bl k) H
theorem oK{Z:Addr->Prop}{H:Hp}{b:List L2.Key}{ds:List D}{x:V}(h:Now Z H (.dct b ds) x):∃a,x=.ref a:=by
 have h:Rep Z H (.dct b ds) x:=h;simp only[Rep]at h;obtain⟨a,_,e,_⟩:=h;exact⟨a,e⟩
theorem AZ{Z:Addr->Prop}{H:Hp}{f l:D}{x y:V}{k:Bool}{u v:Value}(d:Now Z H f x)(m:Now Z H l y)(e:RelV x u)(o:RelV y v)(h:isD f l=.ok k):plainIs u v=true/\(u==v)=k:=by
 have yp:∀{g:List D}{x:V}{u:Value},Now Z H (.lst g) x->RelV x u->∃a,u=.ref a:=λn r=>by
  obtain⟨a,_,rfl,_⟩:=dj n;exact⟨a,r⟩
 have j:∀{g:List D}{x:V}{u:Value},Now Z H (.tup g) x->RelV x u->∃a,u=.ref a:=λn r=>by
  obtain⟨a,_,rfl,_⟩:=fC n;exact⟨a,r⟩
 cases l with
 |non=>
  cases fB m;cases o;cases f with
  |non=>cases fB d;cases e;cases h;exact⟨rfl,rfl⟩
  |bl b=>cases gU d;cases e;cases h;exact⟨rfl,rfl⟩
  |int i=>cases bB d;obtain⟨t,rfl⟩:=e;cases h;exact⟨rfl,rfl⟩
  |str i=>cases di d;obtain⟨t,rfl⟩:=e;cases h;exact⟨rfl,rfl⟩
  |lst g=>obtain⟨a,rfl⟩:=yp d e;cases h;exact⟨rfl,rfl⟩
  |tup g=>obtain⟨a,rfl⟩:=j d e;cases h;exact⟨rfl,rfl⟩
  |dct p g=>obtain⟨a,rfl⟩:=oK d;cases e;cases h;exact⟨rfl,rfl⟩
  |ref n=>exact(show False by simpa only [Now,Rep]using d).elim
 |bl c=>
  cases gU m;cases o;cases f with
  |non=>cases fB d;cases e;cases h;exact⟨rfl,rfl⟩
  |bl b=>cases gU d;cases e;cases h;exact⟨rfl,by cases b<;>cases c<;>rfl⟩
  |int i=>cases bB d;obtain⟨t,rfl⟩:=e;cases h;exact⟨rfl,rfl⟩
  |str i=>cases di d;obtain⟨t,rfl⟩:=e;cases h;exact⟨rfl,rfl⟩
  |lst g=>obtain⟨a,rfl⟩:=yp d e;cases h;exact⟨rfl,rfl⟩
  |tup g=>obtain⟨a,rfl⟩:=j d e;cases h;exact⟨rfl,rfl⟩
  |dct p g=>cases h
  |ref n=>cases h
 |int _=>cases f<;>cases h
 |str _=>cases f<;>cases h
 |lst _=>cases f<;>cases h
 |tup _=>cases f<;>cases h
 |dct _ _=>cases f<;>cases h
 |ref _=>cases f<;>cases h
theorem A8{pins:List (Addr×Obj)}{s:Shared}{d:L2.St}{H:Hp}{x y:V}{u v:Value}{Q:VK}(L:X.A.units+64<cLine)(I:Inv X pins d H s)(n:RelV x u)(o:RelV y v)
  {Z:Addr->Prop}{a F:D}{k:Bool} (r:Now Z H a x) (t:Now Z H F y) (e:inD a F=.ok k) :
  (Q (.bl k) H->wpAny (model X.prog X.w) X.A (compareOp .In u v) (EP X pins d Q) X.xe s)/\(Q (.bl !k) H->wpAny (model X.prog X.w) X.A (compareOp .NotIn u v) (EP X pins d Q) X.xe s):=by
 unfold inD at e;split at e
 .rename_i z
  split at e
  .rename_i f
   cases e;simp only[Bool.and_eq_true]at f;obtain⟨g,c⟩:=f;have c:=List.all_eq_true.mp c;obtain⟨l,G,rfl,B,h⟩:=dj t;cases o;obtain⟨b,i,p,J⟩:=I.list (jv (K:=X.K) B);have C:=fP I r n g;have j:∀w,w∈b.toArray->SeqAt.EqAt X.A.in1 s w u (jw s Z H a w):=λw E=>ki I (A:=X.A.in1) (by show X.A.units+1+8<cLine;omega) g C h i c w (by simpa using E)
   have m:b.toArray.any (jw s Z H a)=z.any λy=>ey y a:=by
    rw[←kh I h i c];simp
   exact⟨λq=>SeqAt.in_listAt (jw s Z H a) p.isList j ⟨.bl _,H,I,rfl,by rw[m];exact q⟩,λq=>SeqAt.notIn_listAt (jw s Z H a) p.isList j ⟨.bl _,H,I,rfl,by rw[m];exact q⟩⟩
  .cases e
 .rename_i z
  split at e
  .rename_i f
   cases e;simp only[Bool.and_eq_true]at f;obtain⟨g,c⟩:=f;have c:=List.all_eq_true.mp c;obtain⟨l,G,rfl,_,B,h⟩:=fC t;cases o;obtain⟨b,i,p,J⟩:=I.tuple (tP (K:=X.K) B);have C:=fP I r n g;have j:∀w,w∈b.toArray->SeqAt.EqAt X.A.in1 s w u (jw s Z H a w):=λw E=>ki I (A:=X.A.in1) (by show X.A.units+1+8<cLine;omega) g C h i c w (by simpa using E)
   have m:b.toArray.any (jw s Z H a)=z.any λy=>ey y a:=by
    rw[←kh I h i c];simp
   exact⟨λq=>SeqAt.in_tupleAt (jw s Z H a) p j ⟨.bl _,H,I,rfl,by rw[m];exact q⟩,λq=>SeqAt.notIn_tupleAt (jw s Z H a) p j ⟨.bl _,H,I,rfl,by rw[m];exact q⟩⟩
  .cases e
 .cases e
  cases di r;cases di t;exact⟨λq=>tq pins s d H _ _ u v Q I n o ⟨_,_,rfl,rfl,q⟩,λq=>mP pins s d H _ _ u v Q I n o ⟨_,_,rfl,rfl,q⟩⟩
 .cases e
theorem iN(F:X.A.units+64<cLine)(op:CmpOp):fX X (compareOp op) (vl op):=by
 intro pins s D H x y u v Q I m p h;obtain⟨Z,c,d,k,r,t,e,q⟩:=h;have l:EP X pins D Q (.bool k) s:=⟨.bl k,H,I,rfl,q⟩
 have a:∀{i j:Int}{o:CmpOp}{g:Int->Int->Bool},fX X (compareOp o) (xT λi j=>.bl (g i j))->c=.int i->d=.int j->k=g i j->wpAny (model X.prog X.w) X.A (compareOp o u v) (EP X pins D Q) X.xe s:=by
  intro i j o g z B C G;subst B C G;cases bB r;cases bB t;exact z pins s D H _ _ u v Q I m p ⟨_,_,rfl,rfl,q⟩
 cases op with
 |Eq=>
  unfold dH at e;dsimp only at e;split at e
  .rename_i f
   cases e;simp only[Bool.and_eq_true]at f;exact vk I (n:=7) (by omega) f.1 f.2 (fP I r m f.1) (fP I t p f.2) X.prog X.w X.xe _ l
  .cases e
 |NotEq=>
  unfold dH at e;dsimp only at e;split at e
  .rename_i f
   cases e;simp only[Bool.and_eq_true]at f;exact qu I (n:=7) (by omega) f.1 f.2 (fP I r m f.1) (fP I t p f.2) X.prog X.w X.xe _ l
  .cases e
 |Lt=>cases c<;>cases d<;>first | (cases e;exact a EK rfl rfl rfl)|cases e
 |LtE=>cases c<;>cases d<;>first | (cases e;exact a EL rfl rfl rfl)|cases e
 |Gt=>cases c<;>cases d<;>first | (cases e;exact a EN rfl rfl rfl)|cases e
 |GtE=>cases c<;>cases d<;>first | (cases e;exact a EO rfl rfl rfl)|cases e
 |In=>
  have e:inD c d=.ok k:=by cases c<;>cases d<;>exact e
  exact(A8 F I m p r t e).1 q
 |NotIn=>
  have e:(do let b ←inD c d;Out.ok (!b))=.ok k:=by cases c<;>cases d<;>exact e
  obtain⟨b,B,C⟩:=kf e;cases C;exact(A8 F I m p r t B).2 q
 |Is=>
  have e:isD c d=.ok k:=by cases c<;>cases d<;>exact e
  obtain⟨z,E⟩:=AZ r t m p e;exact wpAny_is_plain z (by rw[E];exact l)
 |IsNot=>
  have e:(do let b ←isD c d;Out.ok (!b))=.ok k:=by cases c<;>cases d<;>exact e
  obtain⟨b,B,C⟩:=kf e;cases C;obtain⟨z,E⟩:=AZ r t m p B;exact wpAny_isNot_plain z (by rw[E];exact l)
theorem Cc{op:CmpOp}{c e:D}{x y:V}{Z:Addr->Prop}{H:Hp}{b:Bool}{d:D}{Q:VK}(i:Now Z H c x)(j:Now Z H e y)(f:∀a,Z a->H a≠none)
  (l:(do let r ←dH op c e;Out.ok (false,D.bl r))=.ok (b,d)) (k:∀v g h,eF Z H h g->ef bw b h H g d v->Q v g):vl op x y H Q:=by
 obtain⟨r,m,n⟩:=kf l;cases n;exact⟨Z,c,e,r,i,j,m,k _ H Z (eF.refl f) (.rep (fj rfl))⟩
end
theorem PT.imp{X:Cx}{e:Expr}{t t':TT}(h:PT X e t)(i:∀a H Q,t' a H Q->t a H Q):PT X e t':=λpins s a H Q I q=>h pins s a H Q I (i a H Q q)
theorem PW.imp{X:Cx}{e:Expr}{t t':TT}(h:PW X e t)(i:∀a H Q,t' a H Q->t a H Q):PW X e t':=λb pins s a H Q I q=>h b pins s a H Q I (i a H Q q)
section
variable{X:Cx}{Γ:lJ}{bw:Bool}{a b e:Expr}{ca cb cc c:Ex}{pos:Pos}
theorem Cd{Z:Addr->Prop}{H:Hp}{d:D}{x:V}{t:Bool}{K:PySem.W.Frag}(n:Now Z H d x)(h:ju d=some t):oq K x H t:=by
 cases d with
 |non=>cases fB n;cases h;rfl
 |bl b=>cases gU n;cases h;rfl
 |int b=>cases bB n;cases h;rfl
 |str b=>
  cases di n;simp only[ju]at h;split at h
  .rename_i j
   cases h;refine⟨bL j,?_⟩
   have e:((b.length:Int) != 0)=(b.length != 0):=by
    rw[Bool.eq_iff_iff];simp only[bne_iff_ne,ne_eq];omega
   rw[e]
  .cases h
 |lst f=>
  obtain⟨a,c,rfl,g,i⟩:=dj n;cases h;refine .inl ⟨c,jv g,?_⟩;have:=i.length;cases f<;>cases c<;>simp at this ⊢
 |tup f=>
  obtain⟨a,c,rfl,_,g,i⟩:=fC n;cases h;refine .inr (.inl ⟨c,tP g,?_⟩);have:=i.length;cases f<;>cases c<;>simp at this ⊢
 |dct l f=>cases h
 |ref k=>cases h
end
def vm(Z:Addr->Prop)(H:Hp):List D->List V->Prop
 |[],a=>a=[]
 |d::ds,a=>∃v r,a=v::r/\Now Z H d v/\vm Z H ds r
section
variable{Z Z':Addr->Prop}{H H':Hp}
theorem vm.one{d:D}{xs:List V}(h:vm Z H [d] xs):∃x,xs=[x]/\Now Z H d x:=by
 obtain⟨v,r,e,a,b⟩:=h;exact⟨v,by rw[e,show r=[]from b],a⟩
end
def Args(bw:Bool)(Z:Addr->Prop)(H:Hp)(ds:List D)(vs:List V):Prop:=if bw=true then vm Z H ds vs else aY Z H ds vs
theorem PA.imp{X:Cx}{e:List Expr}{t t':TA}(h:PA X e t)(i:∀a H Q,t' a H Q->t a H Q):PA X e t':=λb pins s a H Q I q=>h b pins s a H Q I (i a H Q q)
section
variable{X:Cx}{Γ:lJ}{bw:Bool}{a b e:Expr}{es:List Expr}{ca cb cc c cs:Ex}{pos p:Pos}
theorem vo{Z:Addr->Prop}{H:Hp}{ds:List D}{vs:List V}{i:Int}{d:D}(h:aY Z H ds vs)(e:jD ds i=some d):∃v,jD vs i=some v/\Rep Z H d v:=by
 unfold jD at e ⊢;rw[h.length];cases q:AV ds.length i with
 |none=>rw[q]at e;cases e
 |some j=>
  rw[q]at e;exact h.get e
theorem Ce{q r:D}{x y:V}{Z:Addr->Prop}{H:Hp}{e:Bool}{d:D}{Q:VK}{K:PySem.W.Frag}(g:Now Z H q x)(h:Now Z H r y)(c:∀a,Z a->H a≠none)(b:qo q r=.ok (e,d))
  (k:∀v i s,eF Z H s i->ef bw e s H i d v->Q v i):Ik K x y H Q:=by
 unfold qo at b;split at b
 .obtain⟨l,j,rfl,m,n⟩:=dj g
  cases bB h;split at b
  .rename_i t f
   cases b;obtain⟨v,o,p⟩:=vo n f;exact .inl ⟨l,j,_,v,rfl,rfl,jv m,o,k v H Z (eF.refl c) (.rep p)⟩
  .cases b
 .obtain⟨l,j,rfl,_,m,n⟩:=fC g
  cases bB h;split at b
  .rename_i t f
   cases b;obtain⟨v,o,p⟩:=vo n f;exact .inr (.inl ⟨l,j,_,v,rfl,rfl,tP m,o,k v H Z (eF.refl c) (.rep p)⟩)
  .cases b
 .cases di g
  cases bB h;split at b
  .rename_i u
   split at b
   .rename_i w f
    cases b;exact .inr (.inr ⟨_,_,w,rfl,rfl,bL u,f,k _ H Z (eF.refl c) (.rep (fj rfl))⟩)
   .cases b
  .cases b
 .cases b
theorem vp{a:Type}(xs:List a)(b c:Option Int):(du xs b c).length<=xs.length:=by
 unfold du;rw[List.length_take,List.length_drop];omega
theorem rH(n d:Nat)(v:Int):max 0 (min (if v<0 then v+(n:Int)else v) (n:Int))=((HT.gv n d (some v):Nat):Int):=by
 show max 0 (min (if v<0 then v+(n:Int)else v) (n:Int))=(((if v<0 then (v+(n:Int)).toNat else min v.toNat n):Nat):Int)
 by_cases a:v<0
 .simp only[if_pos a];omega
 .simp only[if_neg a];omega
theorem vq{a b:Int}{p q:Nat}(d:a=p)(e:b=q):sliceRange a b 1=(List.range (q - p)).map λk=>p+k:=by
 subst d e;unfold sliceRange;simp only[show((1:Int)>0)=True from by simp,if_true]
 by_cases c:(p:Int)<q
 .rw[if_pos c]
  have f:(((q:Int) - p+1 - 1) / 1).toNat=q - p:=by first|omega | (simp;done) | (simp;omega)
  rw[f];refine List.map_congr_left λk _=>?_
  omega
 .rw[if_neg c]
  have:q - p=0:=by omega
  rw[this];rfl
theorem kj(a b:Option Int)(n:Nat):Builtin.Str.strSliceIndices a b 1 n=(List.range (HT.gv n n b - HT.gv n 0 a)).map λk=>HT.gv n 0 a+k:=by
 unfold Builtin.Str.strSliceIndices;simp only[show((1:Int)>0)=True from by simp,if_true]
 refine vq ?_ ?_
 .cases a with
  |none=>rfl
  |some v=>exact rH n 0 v
 .cases b with
  |none=>rfl
  |some v=>exact rH n n v
theorem tQ:∀(n a:Nat) (l:List Nat),a+n<=l.length->((List.range n).map λk=>a+k).filterMap (λi=>l[i]?)=(l.drop a).take n:=by
 intro n
 induction n with
 |zero=>intro a l _;simp
 |succ n c=>
  intro a l h;have b:a+n<l.length:=by omega
  rw[List.range_succ,List.map_append,List.filterMap_append,c a l (by omega),List.take_add_one,List.getElem?_drop]
  simp[List.getElem?_eq_getElem b]
theorem vt(x:Str)(a b:Option Int):(Builtin.Str.strSliceIndices a b 1 x.length).filterMap (x.cps[·]?)=du x.cps.toList a b:=by
 have c:x.cps.toList.length=x.length:=by simp[Str.length]
 have e:=HT.qh x.length 0 (Nat.zero_le _) a;have f:=HT.qh x.length x.length (Nat.le_refl _) b;rw[kj];unfold du;rw[c];generalize HT.gv x.length 0 a=p at *;generalize HT.gv x.length x.length b=q at *
 by_cases d:p<=q
 .have:=tQ (q - p) p x.cps.toList (by rw[c];omega)
  simpa using this
 .have:q - p=0:=by omega
  rw[this];simp
def Fc:V->Option Int->Option Int->Hp->VK->Prop:=λx a b H Q=>∃z,x=.str z/\z.length<=sizeLine/\Q (.str ⟨(du z.cps.toList a b).toArray⟩) H
theorem kk:BW X Fc:=by
 intro pins s G H x v J K a b L Q I j k m n h;obtain⟨z,rfl,M,q⟩:=h;obtain⟨t,rfl⟩:=j;refine⟨"str",_,F.slot_str_getitem.lookup,typeIs_str _ _ _,?_⟩
 have part:∀{w:Value}{o:Option Int},IsPart w o->∃p:Option (Int×Tok),w=partValue p/\p.map (·.1)=o:=λh=>by
  cases h with
  |none=>exact⟨none,rfl,rfl⟩
  |int i t=>exact⟨some (i,t),rfl,rfl⟩
 obtain⟨d,r,m1⟩:=part m;obtain⟨e,y,m2⟩:=part n;subst r y;refine wpAny_getItem_str_slice (l:=d) (u:=e) (st:=none) k rfl ?_
 have A:(slicePicked z d e none).filterMap (z.cps[·]?)=du z.cps.toList a b:=by
  unfold slicePicked;rw[m1,m2];exact vt z a b
 have N:(du z.cps.toList a b).length<=z.length:=by
  have:=vp z.cps.toList a b;simpa[Str.length]using this
 unfold sliceMade;split
 .rename_i g
  have c:(slicePicked z d e none).length=z.length:=by
   simp only[Bool.and_eq_true,beq_iff_eq]at g;exact g.2
  have B:(⟨(du z.cps.toList a b).toArray⟩:Str)=z:=by
   unfold slicePicked at c;rw[m1,m2]at c;have c:(Builtin.Str.strSliceIndices a b 1 z.length).length=z.length:=c;rw[kj,List.length_map,List.length_range]at c;have O:=HT.qh z.length z.length (Nat.le_refl _) b;have f:z.cps.toList.length=z.length:=by simp[Str.length]
   have C:du z.cps.toList a b=z.cps.toList:=by
    unfold du;rw[f]
    by_cases D:z.length=0
    .have:z.cps.toList=[]:=List.eq_nil_of_length_eq_zero (by rw[f];exact D)
     rw[this];simp
    .have E:HT.gv z.length 0 a=0:=by omega
     rw[E,List.drop_zero,List.take_of_length_le (by rw[f];omega)]
   rw[C]
  refine⟨.str z,H,I,⟨t,rfl⟩,?_⟩;rw[B]at q;exact q
 .rw[A]
  refine⟨?_,.str _,H,I.tok _,⟨_,rfl⟩,q⟩
  show(du z.cps.toList a b).toArray.size<=sizeLine
  rw[List.size_toArray];omega
def Fd(K:PySem.W.Frag):V->Option Int->Option Int->Hp->VK->Prop:=λx a b H Q=>EW K x a b H Q\/Fc x a b H Q
end
noncomputable def km(F:List D->Out Rs):Sp:=λg H Q _=>
 ∃Z e b d,(∀a,Z a->H a≠none)/\aY Z H e g/\F e=.ok (b,d)/\∀v c f,eF Z H f c->ef false b f H c d v->Q v c
theorem ef.weak{bw a:Bool}{Z:Addr->Prop}{c H:Hp}{d:D}{v:V}(h:ef false a Z c H d v):ef bw a Z c H d v:=by
 unfold ef at h ⊢;split
 .rename_i b;rw[if_pos b]at h;exact h
 .rename_i b;rw[if_neg b,if_neg Bool.false_ne_true]at h
  split
  .exact h.now
  .exact h
section
variable{X:Cx}{Γ:lJ}{bw:Bool}{a b e:Expr}{es:List Expr}{ca cb cc c cs:Ex}{pos p:Pos}
structure Fe(X:Cx)(k:Nat)(x:Str)(F:List D->Out Rs):Prop where
 ex:∃(f:Addr) (fd:FuncData) (ps:List Str),X.mg x=some (.ref f)/\PySem.W.keepIn X.K (.ref f)=true/\Binds X.K fd ps []/\dc X.prog X.w X.K X.mg X.base jE k f fd ps (km F)
inductive eG (h:Heap):Value->Bool->Prop where
 |non:eG h .none false
 |bl (b:Bool):eG h (.bool b) b
 |int (i:Int) (t:Tok):eG h (.int i t) (i != 0)
 |str (x:Str) (t:Tok):x.length<=sizeLine->eG h (.str x t) ((x.length:Int) != 0)
 |lst {l:Addr}{its:Array Value}:h.IsList l its->its.size<=sizeLine->eG h (.ref l) (!its.isEmpty)
 |tup {l:Addr}{its:Array Value}:IsTup h l its->its.size<=sizeLine->eG h (.ref l) (!its.isEmpty)
theorem eG.keep{h h':Heap}{u:Value}{t:Bool}(k:∀b o,(u=.ref b)->h.get? b=some o->h'.get? b=some o)(x:eG h u t):eG h' u t:=by
 cases x with
 |non=>exact .non
 |bl=>exact .bl _
 |int i t=>exact .int i t
 |str x t z=>exact .str x t z
 |lst q z=>obtain⟨o,a,c⟩:=q;exact .lst ⟨o,k _ o rfl a,c⟩ z
 |tup q z=>obtain⟨o,a,c⟩:=q;exact .tup ⟨o,k _ o rfl a,c⟩ z
theorem eG.run{prog:Program}{w:World}{A:Around}{E:Value->Shared->Prop}{s:Shared}{u:Value}{t:Bool}{Q:Bool->Shared->Prop}(x:eG s.heap u t)(q:∀a,Q t {s with toks:=a}):wpAny (model prog w) A (truthy u) Q E s:=by
 have b:=gS;cases x with
 |non=>exact truthy_none (q s.toks)
 |bl=>exact wpAny_truthy_bool (q s.toks)
 |int i t=>exact PySem.P.truthy_int (q s.toks)
 |str x t z=>exact PySem.P.truthy_str (by omega) (q _)
 |lst h z=>exact wpAny_truthy_list h (by omega) (q _)
 |tup h z=>exact truthy_tuple h (by omega) (q _)
theorem vu{pins:List (Addr×Obj)}{w:L2.St}{H:Hp}{s:Shared}{Z:Addr->Prop}{d:D}{v:V}{u:Value}{t:Bool}(I:Inv X pins w H s)(n:Now Z H d v)(r:RelV v u)(h:ju d=some t):eG s.heap u t:=by
 cases d with
 |non=>cases fB n;cases r;cases h;exact .non
 |bl b=>cases gU n;cases r;cases h;exact .bl _
 |int b=>cases bB n;obtain⟨k,rfl⟩:=r;cases h;exact .int _ _
 |str b=>
  cases di n;obtain⟨k,rfl⟩:=r;simp only[ju]at h;split at h
  .rename_i x
   cases h
   have e:((b.length:Int) != 0)=(b.length != 0):=by
    rw[Bool.eq_iff_iff];simp only[bne_iff_ne,ne_eq];omega
   rw[←e];exact .str b k (bL x)
  .cases h
 |lst f=>
  obtain⟨a,i,rfl,j,l⟩:=dj n;cases r;cases h;obtain⟨c,g,p,m⟩:=I.list (jv (K:=X.K) j)
  have e:(!f.isEmpty)=!c.toArray.isEmpty:=by
   have o:=l.length;have q:=g.length;cases f<;>cases i<;>cases c<;>simp at o q ⊢
  rw[e];exact .lst p.isList (by rw[List.size_toArray,←g.length];exact m)
 |tup f=>
  obtain⟨a,i,rfl,_,j,l⟩:=fC n;cases r;cases h;obtain⟨c,g,p,m⟩:=I.tuple (tP (K:=X.K) j)
  have e:(!f.isEmpty)=!c.toArray.isEmpty:=by
   have o:=l.length;have q:=g.length;cases f<;>cases i<;>cases c<;>simp at o q ⊢
  rw[e];exact .tup p (by rw[List.size_toArray,←g.length];exact m)
 |dct y f=>cases h
 |ref k=>cases h
section
variable{prog:Program}{w:World}{A:Around}{R:Result->Shared->Prop}{J:Addr}{fp wr:List Addr}{n:Nat}{P:Nat->Value->Prop}{T:Nat->Heap->Prop}
theorem vv(W:Walks prog w A.in1 J fp wr n P T)(f:Nat->Bool)(G:Heap->Prop)(B:∀h h':Heap,G h->(∀b o,b∉wr->h.get? b=some o->h'.get? b=some o)->G h')
  (C:∀i v (h:Heap),P i v->G h->eG h v (f i)):∀(m i:Nat) (s:Shared),n - i=m->i<=n->T i s.heap->G s.heap ->
  (∀h' c,(∀b o,b∉wr->s.heap.get? b=some o->h'.get? b=some o)->R (.ok (.ret (.bool (((List.range n).drop i).all f)))) {s with heap:=h',toks:=c}) ->
  codeAny (model prog w) A (.builtin "all.loop" ⟨[.ref J],[]⟩) R s:=by
 intro m
 induction m with
 |zero=>
  intro i s D E j g a;obtain rfl:i=n:=by omega
  refine codeAny_builtin PySem.F.entry_all_loop ?_;rw[Around.under_plainId PySem.F.plain_all_loop _];refine wpAny_bind (m:=pyNext (.ref J)) (W.done s _ _ j λh' c d=>wpAny_bind (wpAny_rule (wpAny_pure ?_)))
  have q:=a h' c d;rw[List.drop_of_length_le (by simp)]at q
  exact q
 |succ m H=>
  intro i s D E j g a;have k:i<n:=by omega
  have u:(List.range n).drop i=i::(List.range n).drop (i+1):=by
   rw[List.drop_eq_getElem_cons (by simpa using k)];simp
  refine codeAny_builtin PySem.F.entry_all_loop ?_;rw[Around.under_plainId PySem.F.plain_all_loop _];refine wpAny_bind (m:=pyNext (.ref J)) (W.item i s _ _ k j λv h' c I l d=>?_)
  have x:G h':=B _ _ g d;refine wpAny_bind (wpAny_holding ((C i v h' I x).run (s:={s with heap:=h',toks:=c}) λp=>?_))
  refine wpAny_bind (wpAny_letGo ?_);cases e:f i with
  |true=>
   simp only[if_true];refine wpAny_pure ⟨plainId_quiet PySem.F.plain_all_loop _,H (i+1) _ (by omega) k l x λK r t=>?_⟩
   have q:=a K r λb o y z=>t b o y (d b o y z)
   rw[u,List.all_cons,e,Bool.true_and]at q;exact q
  |false=>
   simp only[Bool.false_eq_true,if_false];refine wpAny_bind (wpAny_rule (wpAny_pure ?_));have q:=a h' p d;rw[u,List.all_cons,e,Bool.false_and]at q;exact q
theorem vw(W:Walks prog w A.in1 J fp wr n P T)(f:Nat->Bool)(G:Heap->Prop)(B:∀h h':Heap,G h->(∀b o,b∉wr->h.get? b=some o->h'.get? b=some o)->G h')
  (C:∀i v (h:Heap),P i v->G h->eG h v (f i)):∀(m i:Nat) (s:Shared),n - i=m->i<=n->T i s.heap->G s.heap ->
  (∀h' c,(∀b o,b∉wr->s.heap.get? b=some o->h'.get? b=some o)->R (.ok (.ret (.bool (((List.range n).drop i).any f)))) {s with heap:=h',toks:=c}) ->
  codeAny (model prog w) A (.builtin "any.loop" ⟨[.ref J],[]⟩) R s:=by
 intro m
 induction m with
 |zero=>
  intro i s D E j g a;obtain rfl:i=n:=by omega
  refine codeAny_builtin PySem.F.entry_any_loop ?_;rw[Around.under_plainId PySem.F.plain_any_loop _];refine wpAny_bind (m:=pyNext (.ref J)) (W.done s _ _ j λh' c d=>wpAny_bind (wpAny_rule (wpAny_pure ?_)))
  have q:=a h' c d;rw[List.drop_of_length_le (by simp)]at q
  exact q
 |succ m H=>
  intro i s D E j g a;have k:i<n:=by omega
  have u:(List.range n).drop i=i::(List.range n).drop (i+1):=by
   rw[List.drop_eq_getElem_cons (by simpa using k)];simp
  refine codeAny_builtin PySem.F.entry_any_loop ?_;rw[Around.under_plainId PySem.F.plain_any_loop _];refine wpAny_bind (m:=pyNext (.ref J)) (W.item i s _ _ k j λv h' c I l d=>?_)
  have x:G h':=B _ _ g d;refine wpAny_bind (wpAny_holding ((C i v h' I x).run (s:={s with heap:=h',toks:=c}) λp=>?_))
  refine wpAny_bind (wpAny_letGo ?_);cases e:f i with
  |false=>
   simp only[Bool.false_eq_true,if_false];refine wpAny_pure ⟨plainId_quiet PySem.F.plain_any_loop _,H (i+1) _ (by omega) k l x λK r t=>?_⟩
   have q:=a K r λb o y z=>t b o y (d b o y z)
   rw[u,List.any_cons,e,Bool.false_or]at q;exact q
  |true=>
   simp only[if_true];refine wpAny_bind (wpAny_rule (wpAny_pure ?_));have q:=a h' p d;rw[u,List.any_cons,e,Bool.true_or]at q;exact q
end
theorem nj:∀{ds:List D}{bs:List Bool},fg ds=some bs->bs.length=ds.length
 |[],_,h=>by cases h;rfl
 |d::ds,bs,h=>by
  simp only[fg]at h;split at h
  .rename_i b a h1 h2
   cases h;rw[List.length_cons,List.length_cons,nj h2]
  .cases h
theorem rJ:∀{ds:List D}{bs:List Bool}{i:Nat}{d:D},fg ds=some bs->ds[i]?=some d->∃b,bs[i]?=some b/\ju d=some b
 |[],_,_,_,_,h=>by simp at h
 |d::ds,bs,i,j,h,a=>by
  simp only[fg]at h;split at h
  .rename_i b e h1 h2
   cases h;cases i with
   |zero=>simp at a;subst a;exact⟨b,rfl,h1⟩
   |succ i=>
    obtain⟨c,f,g⟩:=rJ (i:=i) h2 (by simpa using a)
    exact⟨c,by simpa using f,g⟩
  .cases h
theorem all_range:∀(bs:List Bool),((List.range bs.length).all λi=>(bs[i]?).getD true)=bs.all id
 |[]=>rfl
 |b::bs=>by
  rw[List.length_cons,List.range_succ_eq_map,List.all_cons,List.all_map,List.all_cons,←all_range bs];rfl
theorem any_range:∀(bs:List Bool),((List.range bs.length).any λi=>(bs[i]?).getD false)=bs.any id
 |[]=>rfl
 |b::bs=>by
  rw[List.length_cons,List.range_succ_eq_map,List.any_cons,List.any_map,List.any_cons,←any_range bs];rfl
def Kr(K:PySem.W.Frag):List V->Hp->VK->Prop:=λb H Q=>∃Z a bs x,b=[x]/\Now Z H (.lst a) x/\fg a=some bs/\Q (.bl (bs.all id)) H
def Ks(K:PySem.W.Frag):List V->Hp->VK->Prop:=λb H Q=>∃Z a bs x,b=[x]/\Now Z H (.lst a) x/\fg a=some bs/\Q (.bl (bs.any id)) H
theorem vx{pins:List (Addr×Obj)}{j:L2.St}{H:Hp}{s:Shared}{Z:Addr->Prop}{ds:List D}{vs:List V}{a:List Value}{bs:List Bool}(I:Inv X pins j H s)(d:aY Z H ds vs)(e:Vals vs a)(k:fg ds=some bs)(dflt:Bool) :
  ∀(i:Nat) (v:Value),a.toArray[i]?=some v->eG s.heap v ((bs[i]?).getD dflt):=by
 intro i v c;have c:a[i]?=some v:=by simpa using c
 obtain⟨l,m⟩:=List.getElem?_eq_some_iff.mp c;obtain⟨x,n,f⟩:=ng e l;have r:=d.length;have t:=e.length;have g:ds[i]?=some ds[i]:=by simp[show i<ds.length by omega]
 obtain⟨y,h,o⟩:=d.get g;rw[n]at h;cases h
 obtain⟨b,p,q⟩:=rJ k g;rw[p];rw[m]at f;exact vu I o.now f q
theorem vy(t:X.calm=true):ee X (.builtin "all") (Kr X.K):=by
 intro pins s G H J L Q I r h;obtain⟨Z,M,bs,x,rfl,w,j,q⟩:=h;obtain⟨u,rfl,y⟩:=vals1 r;obtain⟨l,N,rfl,B,k⟩:=dj w;cases y;obtain⟨a,n,p,O⟩:=I.list (jv (K:=X.K) B);have c:l<s.heap.objs.size:=by obtain⟨_,e,_⟩:=p.isList;exact Heap.lt_size e
 have C:=vx I k n j true;refine call_function_tree PySem.F.kind_all PySem.F.plain_all PySem.F.entry_all (PySem.F.args_all1 _) ?_;unfold Builtin.«all»;refine wpAny_bind (m:=oneArg "all" _) (wpAny_pure (wpAny_bind (wpAny_pyIter_list p.isList ?_)))
 refine wpAny_pure ⟨plainId_quiet PySem.F.plain_all_loop _,vv (Walks.list (A:=X.A.in1) (I.ok.hd t) s.heap.objs.size l (Nat.ne_of_lt c) a.toArray) (λi=>(bs[i]?).getD true)
  (λh=>∀b o,b≠s.heap.objs.size->s.heap.get? b=some o->h.get? b=some o) (λh h' g d b o f e=>d b o (by simpa using f) (g b o f e))
  (λi v h D g=>(C i v D).keep λb o e z=>g b o (Nat.ne_of_lt (Heap.lt_size z)) z) _ 0 _ rfl (Nat.zero_le _) ⟨⟨_,Heap.get?_push_size _ rfl,rfl,rfl⟩,p.isList.push _⟩ (λb o f e=>Heap.get?_push_of_some _ e) λh' E d=>?_⟩
 have e:((List.range a.toArray.size).drop 0).all (λi=>(bs[i]?).getD true)=bs.all id:=by
  rw[List.drop_zero,List.size_toArray,←n.length,k.length,←nj j];exact all_range bs
 rw[e]
 exact⟨.bl _,H,I.kept (h':=h') (t':=E) λb o z=>d b o (by
  have:=Nat.ne_of_lt (Heap.lt_size z);simpa using this) (Heap.get?_push_of_some _ z),rfl,q⟩
theorem vz(t:X.calm=true):ee X (.builtin "any") (Ks X.K):=by
 intro pins s G H J L Q I r h;obtain⟨Z,M,bs,x,rfl,w,j,q⟩:=h;obtain⟨u,rfl,y⟩:=vals1 r;obtain⟨l,N,rfl,B,k⟩:=dj w;cases y;obtain⟨a,n,p,O⟩:=I.list (jv (K:=X.K) B);have c:l<s.heap.objs.size:=by obtain⟨_,e,_⟩:=p.isList;exact Heap.lt_size e
 have C:=vx I k n j false;refine call_function_tree PySem.F.kind_any PySem.F.plain_any PySem.F.entry_any (PySem.F.args_any1 _) ?_;unfold Builtin.«any»;refine wpAny_bind (m:=oneArg "any" _) (wpAny_pure (wpAny_bind (wpAny_pyIter_list p.isList ?_)))
 refine wpAny_pure ⟨plainId_quiet PySem.F.plain_any_loop _,vw (Walks.list (A:=X.A.in1) (I.ok.hd t) s.heap.objs.size l (Nat.ne_of_lt c) a.toArray) (λi=>(bs[i]?).getD false)
  (λh=>∀b o,b≠s.heap.objs.size->s.heap.get? b=some o->h.get? b=some o) (λh h' g d b o f e=>d b o (by simpa using f) (g b o f e))
  (λi v h D g=>(C i v D).keep λb o e z=>g b o (Nat.ne_of_lt (Heap.lt_size z)) z) _ 0 _ rfl (Nat.zero_le _) ⟨⟨_,Heap.get?_push_size _ rfl,rfl,rfl⟩,p.isList.push _⟩ (λb o f e=>Heap.get?_push_of_some _ e) λh' E d=>?_⟩
 have e:((List.range a.toArray.size).drop 0).any (λi=>(bs[i]?).getD false)=bs.any id:=by
  rw[List.drop_zero,List.size_toArray,←n.length,k.length,←nj j];exact any_range bs
 rw[e]
 exact⟨.bl _,H,I.kept (h':=h') (t':=E) λb o z=>d b o (by
  have:=Nat.ne_of_lt (Heap.lt_size z);simpa using this) (Heap.get?_push_of_some _ z),rfl,q⟩
end
section
variable{X:Cx}{Γ:lJ}{bw:Bool}{a b e:Expr}{es:List Expr}{ca cb cc c cs:Ex}{pos p:Pos}
noncomputable def jF.nm:jF->Str
 |.len=>"len" |.all=>"all" |.any=>"any" |.sorted=>"sorted" |.list=>"list" |.tuple=>"tuple" |.int=>"int" |.min=>"min" |.max=>"max" |.bool=>"bool"
theorem iO{Z:Addr->Prop}{H:Hp}{d:D}{v:V}{Q:VK}(b:∀a,Z a->H a≠none)(k:∀v c e,eF Z H e c->ef bw false e H c d v->Q v c)(h:fh d=some v):Q v H:=
 k _ H Z (eF.refl b) (.rep (fj h))
noncomputable def Ty.nm:Ty->Str
 |.int=>"int" |.str=>"str" |.bool=>"bool" |.list=>"list" |.tuple=>"tuple" |.dict=>"dict"
noncomputable def Ty.id:Ty->String
 |.int=>"int" |.str=>"str" |.bool=>"bool" |.list=>"list" |.tuple=>"tuple" |.dict=>"dict"
theorem yq(t:Ty):bootBuiltins t.nm=some (.type t.id):=by cases t<;>decide +kernel
theorem rK(K:PySem.W.Frag)(t:Ty):PySem.W.kitOne K (.type "NoneType") (.type t.id)=some false/\PySem.W.kitOne K (.type "bool") (.type t.id)=some (t==.bool||t==.int)/\PySem.W.kitOne K (.type "int") (.type t.id)=some (t==.int) /\
  PySem.W.kitOne K (.type "str") (.type t.id)=some (t==.str)/\PySem.W.kitOne K (.type "list") (.type t.id)=some (t==.list)/\PySem.W.kitOne K (.type "tuple") (.type t.id)=some (t==.tuple)/\PySem.W.kitOne K (.type "dict") (.type t.id)=some (t==.dict):=by
 cases t<;>refine⟨?_,?_,?_,?_,?_,?_,?_⟩<;>with_unfolding_all rfl
def Ff(K:PySem.W.Frag):List V->Hp->VK->Prop:=λa H Q=>∃Z d x t b,a=[x,.ty (Ty.id t)]/\Now Z H d x/\vh d t=some b/\Q (.bl b) H
theorem jf{K:PySem.W.Frag}{H:Hp}{a:Addr}{vs:List V}{X:Cx}{pins:List (Addr×Obj)}{c:L2.St}{s:Shared}(I:Inv X pins c H s)(h:Rd H a (.tup vs)):∃o,s.heap.get? a=some o/\o.cls=.type "tuple":=by
 obtain⟨_,b,_,o,d,e,_⟩:vs.length<=sizeLine/\∃b:List Value,Vals vs b/\IsTup s.heap a b.toArray:=Rd.ok h I.hok;exact⟨o,d,e⟩
theorem vA:ee X (.builtin "isinstance") (Ff X.K):=by
 intro pins s y H M N Q I r h;obtain⟨Z,d,x,t,b,rfl,f,i,q⟩:=h;obtain⟨u,A,rfl,j,B⟩:=vals2 r;cases (show A=Value.type (Ty.id t)from B)
 obtain⟨C,D,E,F,n,G,J⟩:=rK X.K t;have e:∀l,EP X pins y Q (.bool b) {s with toks:=l}:=λl=>⟨.bl b,H,I.tok l,rfl,q⟩
 cases d with
 |non=>cases fB f;cases i;exact cW I j .non C e
 |bl c=>cases gU f;cases i;exact cW I j (.bl c) D e
 |int c=>cases bB f;cases i;exact cW I j (.int c) E e
 |str c=>cases di f;cases i;exact cW I j (.str c) F e
 |lst m=>
  obtain⟨a,p,rfl,g,w⟩:=dj f;cases i;rcases g with g|⟨o,g⟩
  .exact cW I j (.lst g) n e
  .exact cW I j (.dr g) n e
 |tup m=>
  obtain⟨a,p,rfl,_,g,w⟩:=fC f;cases i;cases j;exact PySem.W.kia_one PySem.W.kitx_tuple I.h_ (jf (K:=X.K) I g) G (λz=>nomatch z) e
 |dct L m=>
  have f:Rep Z H (.dct L m) x:=f;simp only[Rep]at f;obtain⟨a,p,rfl,_,g,w⟩:=f;cases i;exact cW I j (.dK g) J e
 |ref k=>cases i
end
abbrev rL(a:List Expr)(env:Env):Sem Bool:=forIn a true λc r=>if r=true then do let ok ←isTrue c env (eval c env);pure (ForInStep.yield ok)else pure (ForInStep.yield r)
section
variable{prog:Program}{w:World}{A:Around}{R:Result->Shared->Prop}{s:Shared}
theorem tR{a e iter:Expr}{b:List Expr}{scope:Scope}{pos:Pos}{it c:Value}{env:Env}(J:Nat->Shared->Prop)
  (d:∀n s,J n s->wpAny (model prog w) A (pyNext it) (λr f=>match r with
   |none=>R (.ok .next) f
   |some v=>wpAny (model prog w) A (letOwnedTupleGo e it v) (λ_ j=>wpAny (model prog w) A (assign e env v) (λ_ k=>wpAny (model prog w) A (rL b env) (λok g=>
      if ok=true then wpAny (model prog w) A (eval a env) (λx l=>wpAny (model prog w) A (call (.builtin "list.append") [c,x]) (λ_ o=>∃m,m<n/\J m o) (λ_ _=>False) l) (λ_ _=>False) g
      else ∃m,m<n/\J m g) (λ_ _=>False) k) (λ_ _=>False) j) (λ_ _=>False) f) (λ_ _=>False) s)
  (n:Nat) (h:J n s):codeAny (model prog w) A (.compLoop (.ListComp a [⟨e,iter,b,0⟩] scope pos) 0 it c env) R s:=by
 refine codeAny_loop rfl J (λn s q=>?_) n h
 refine wpAny_noted (env:=env) (m:=compTurn (.ListComp a [⟨e,iter,b,0⟩] scope pos) 0 it c env) ?_;rw[compTurn_list];refine wpAny_bind (wpAny_standAt (wpAny_bind (wpAny_mono (d n s q) (λr f p=>?_) λ_ _ z=>z.elim)))
 cases r with
 |none=>exact wpAny_pure p
 |some v=>
  refine wpAny_bind (wpAny_mono p (λ_ j t=>wpAny_bind (wpAny_mono t (λ_ k u=>wpAny_bind (wpAny_mono u (λok g i=>?_) λ_ _ z=>z.elim)) λ_ _ z=>z.elim)) λ_ _ z=>z.elim)
  cases ok with
  |false=>exact wpAny_pure ⟨rfl,by simpa using i⟩
  |true=>
   rw[if_pos rfl]at i;refine wpAny_bind (wpAny_bind (wpAny_mono i (λx l y=>wpAny_bind (wpAny_mono y (λ_ o B=>?_) λ_ _ z=>z.elim)) λ_ _ z=>z.elim))
   exact wpAny_pure (wpAny_pure ⟨rfl,B⟩)
end
theorem qv{scope:Scope}{env:Env}(h:∀y∈scope.names,y.2=.free->∃c,env.cells.lookup y.1=some c) :
  ∃d,closureFor scope env=pure d/\(∀n c,(n,c)∈d->env.cells.lookup n=some c)/\∀y∈scope.names,y.2=.free->∃c,(y.1,c)∈d:=by
 have u:∀(l:List (Str×NameKind)) (b:List (Str×Addr)),(∀y∈l,y.2=.free->∃c,env.cells.lookup y.1=some c)->(∀n c,(n,c)∈b->env.cells.lookup n=some c) ->
   ∃d,(forIn l b λx r=>match x with | (name,kind)=>if (kind==NameKind.free)=true then do let a ←cellOf env name;pure (ForInStep.yield ((name,a)::r))else pure (ForInStep.yield r):Sem (List (Str×Addr)))=pure d /\
    (∀n c,(n,c)∈d->env.cells.lookup n=some c)/\(∀p∈b,p∈d)/\∀y∈l,y.2=.free->∃c,(y.1,c)∈d:=by
  intro l
  induction l with
  |nil=>intro b _ o;exact⟨b,rfl,o,λ_ w=>w,λ_ D=>absurd D (by simp)⟩
  |cons y l C=>
   intro b A o;obtain⟨n,k⟩:=y;cases g:(k==NameKind.free)with
   |false=>
    obtain⟨d,e,i,s,j⟩:=C b (λz hz=>A z (by simp[hz])) o
    refine⟨d,?_,i,s,λz hz f=>?_⟩
    .rw[List.forIn_cons]
     simp only[g,Bool.false_eq_true,if_false];exact e
    .rcases List.mem_cons.mp hz with rfl|hz
     .have:k=.free:=f
      rw[this]at g;exact absurd g (by decide)
     .exact j z hz f
   |true=>
    have B:k=.free:=by simpa using g
    obtain⟨c,t⟩:=A (n,k) (by simp) B
    obtain⟨d,e,i,s,j⟩:=C ((n,c)::b) (λz hz=>A z (by simp[hz])) (λE F G=>by
     rcases List.mem_cons.mp G with q|q
     .cases q;exact t
     .exact o E F q)
    refine⟨d,?_,i,λp w=>s p (by simp[w]),λz hz f=>?_⟩
    .rw[List.forIn_cons]
     simp only[g,if_true]
     have:cellOf env n=pure c:=by
      have t:env.cells.lookup n=some c:=t;unfold cellOf;rw[t]
     rw[this];exact e
    .rcases List.mem_cons.mp hz with rfl|hz
     .exact⟨c,s _ (by simp)⟩
     .exact j z hz f
 obtain⟨d,e,i,_,j⟩:=u scope.names [] h (λ_ _ z=>absurd z (by simp))
 refine⟨d,?_,i,j⟩;unfold closureFor;have H:=congrArg (λm:Sem (List (Str×Addr))=>m >>= λr=>pure r) e
 exact H
noncomputable def blk(X:Cx)(scope:Scope)(a:List (Str×Addr))(C:Addr)(N:List Str)(s₀:Shared)(H₀:Hp)(fp:List Addr):Cx:=
 {X with N:=N,s₀:=s₀,H₀:=H₀,env:=compEnvC scope a C X.env,outer:=X.stack,stack:=X.stack,ex:=fp,fn:=λy=>scope.names.lookup y==some .cell,pn:=[],xe:=λ_ _=>False}
theorem lookup_mem{a b:Type}[BEq a][LawfulBEq a]:∀{l:List (a×b)}{x:a}{v:b},l.lookup x=some v->(x,v)∈l
 |[],_,_,h=>by simp at h
 | (n,k)::r,x,v,h=>by
  rw[List.lookup_cons]at h;cases e:x==n with
  |true=>rw[e]at h;cases h;rw[eq_of_beq e];simp
  |false=>rw[e]at h;exact List.mem_cons_of_mem _ (lookup_mem h)
theorem mem_lookup{a b:Type}[BEq a][LawfulBEq a]:∀{l:List (a×b)}{x:a}{v:b},(x,v)∈l->∃u,l.lookup x=some u
 |[],_,_,h=>by simp at h
 | (n,k)::r,x,v,h=>by
  rw[List.lookup_cons];cases e:x==n with
  |true=>exact⟨k,rfl⟩
  |false=>
   rcases List.mem_cons.mp h with q|q
   .cases q;simp at e
   .exact mem_lookup q
theorem dJ{env:Env}:∀(names:List (Str×NameKind)) (x:Str),(names.map λ(n,k)=>if (k==NameKind.free&&env.scope.kind==.function&&env.kindOf n==some .cell)then (n,NameKind.cell)else (n,k)).lookup x =
  (names.lookup x).map λk=>if (k==NameKind.free&&env.scope.kind==.function&&env.kindOf x==some .cell)then NameKind.cell else k
 |[],_=>rfl
 | (n,k)::r,x=>by
  have c:=dJ (env:=env) r x
  show List.lookup x ((if (k==NameKind.free&&env.scope.kind==.function&&env.kindOf n==some .cell)=true then (n,NameKind.cell)else (n,k))::_)=_
  cases b:x==n with
  |true=>
   obtain rfl:x=n:=eq_of_beq b
   by_cases a:(k==NameKind.free&&env.scope.kind==.function&&env.kindOf x==some .cell)=true
   .rw[if_pos a,List.lookup_cons,List.lookup_cons]
    simp only[b,Option.map_some,if_pos a]
   .rw[if_neg a,List.lookup_cons,List.lookup_cons]
    simp only[b,Option.map_some,if_neg a]
  |false=>
   by_cases a:(k==NameKind.free&&env.scope.kind==.function&&env.kindOf n==some .cell)=true
   .rw[if_pos a,List.lookup_cons,List.lookup_cons]
    simp only[b];exact c
   .rw[if_neg a,List.lookup_cons,List.lookup_cons]
    simp only[b];exact c
theorem yr{M:Model}{A:Around}{E:Value->Shared->Prop}{s:Shared}{scope:Scope}{globals:Addr}{a:List (Str×Addr)}{qual:Str}{outer:Env}{Q:Env->Shared->Prop}
  (c:Q (newEnv scope s.heap.objs.size globals (cellsFrom (s.heap.objs.size+1) scope.names a) qual none .none (some outer) builtinsNs) {s with heap:=pushCells (s.heap.push {cls:=.type "dict",data:=.dict #[]}) scope.names}) :
  wpAny M A (newFunctionEnv scope globals a [] qual none .none (some outer)) Q E s:=by
 simp only[newFunctionEnv,Option.isSome_some,if_true];refine wpAny_bind (wpAny_alloc ?_);refine wpAny_bind (wpAny_layCells _ (λname kind cells=>by cases b:kind==NameKind.cell<;>simp[b]) _ _ _ _ ?_)
 rw[show({s with heap:=s.heap.push {cls:=.type "dict",data:=.dict #[]} }:Shared).heap.objs.size=s.heap.objs.size+1 from Heap.size_push ..]
 rw[List.forIn_nil];exact wpAny_bind (wpAny_pure (wpAny_pure c))
theorem il:∀(names:List (Str×NameKind)) (h:Heap) (a:List (Str×Addr)) (x:Str) (c:Addr),(names.map (·.1)).Nodup->(cellsFrom h.objs.size names a).lookup x=some c ->
  (names.lookup x=some .cell/\h.objs.size<=c/\(pushCells h names).IsCell c none)\/(names.lookup x≠some .cell/\a.lookup x=some c)
 |[],h,a,x,c,_,e=>.inr ⟨by simp,e⟩
 | (n,k)::r,h,a,x,c,o,e=>by
  have g:n∉r.map (·.1)/\(r.map (·.1)).Nodup:=List.nodup_cons.mp o;have ne:∀{p},r.lookup x=some p->(x==n)=false:=λq=>beq_eq_false_iff_ne.mpr λz=>g.1 (z▸List.mem_map_of_mem (f:=(·.1)) (lookup_mem q))
  unfold cellsFrom at e;unfold pushCells;rw[List.lookup_cons]
  by_cases i:k=.cell
  .subst i
   simp only[beq_self_eq_true,if_true]at e ⊢;rcases il r (h.push {cls:=.type "cell",data:=.cell none}) ((n,h.objs.size)::a) x c g.2 (by rw[Heap.size_push];exact e)with ⟨d,b,j⟩|⟨d,b⟩
   .rw[ne d]
    rw[Heap.size_push]at b;exact .inl ⟨d,by omega,j⟩
   .rw[List.lookup_cons]at b
    cases l:x==n with
    |true=>rw[l]at b;cases b;exact .inl ⟨rfl,Nat.le_refl _,⟨_,pushCells_keeps _ _ _ _ (Heap.get?_push_size _ rfl),rfl⟩⟩
    |false=>rw[l]at b;exact .inr ⟨d,b⟩
  .have m:(k==NameKind.cell)=false:=by simpa using i
   simp only[m,Bool.false_eq_true,if_false]at e ⊢;rcases il r h a x c g.2 e with ⟨d,b,j⟩|⟨d,b⟩
   .rw[ne d];exact .inl ⟨d,b,j⟩
   .cases l:x==n with
    |true=>exact .inr ⟨by simpa using i,b⟩
    |false=>exact .inr ⟨d,b⟩
theorem nk:∀(names:List (Str×NameKind)) (n:Nat) (a:List (Str×Addr)) (p:Str×Addr),p∈a->p∈cellsFrom n names a
 |[],_,_,_,h=>h
 | (m,k)::r,n,a,p,h=>by
  unfold cellsFrom;split
  .exact nk r _ _ p (List.mem_cons_of_mem _ h)
  .exact nk r _ _ p h
theorem qw:∀(names:List (Str×NameKind)) (n:Nat) (a:List (Str×Addr)) (x:Str),(x,NameKind.cell)∈names->∃c,(x,c)∈cellsFrom n names a
 | (m,k)::r,n,a,x,h=>by
  unfold cellsFrom;rcases List.mem_cons.mp h with q|q
  .cases q
   rw[if_pos (show(NameKind.cell==NameKind.cell)=true from rfl)]
   exact⟨n,nk r _ _ _ (by simp)⟩
  .split
   .exact qw r _ _ x q
   .exact qw r _ _ x q
theorem qx:∀(names:List (Str×NameKind)) (h:Heap) (a:List (Str×Addr)) (x y:Str) (c:Addr),(names.map (·.1)).Nodup->names.lookup x=some .cell->names.lookup y=some .cell ->
  (cellsFrom h.objs.size names a).lookup x=some c->(cellsFrom h.objs.size names a).lookup y=some c->x=y
 |[],_,_,_,_,_,_,h,_,_,_=>by simp at h
 | (n,k)::r,h,a,x,y,c,w,i,d,ex,g=>by
  have b:n∉r.map (·.1)/\(r.map (·.1)).Nodup:=List.nodup_cons.mp w;have A:r.lookup n≠some .cell:=λq=>b.1 (List.mem_map_of_mem (f:=(·.1)) (lookup_mem q))
  unfold cellsFrom at ex g;rw[List.lookup_cons]at i d
  by_cases p:k=.cell
  .subst p
   simp only[beq_self_eq_true,if_true]at ex g;have ex:(cellsFrom (h.push {cls:=.type "cell",data:=.cell none}).objs.size r ((n,h.objs.size)::a)).lookup x=some c:=by rw[Heap.size_push];exact ex
   have g:(cellsFrom (h.push {cls:=.type "cell",data:=.cell none}).objs.size r ((n,h.objs.size)::a)).lookup y=some c:=by rw[Heap.size_push];exact g
   have m:∀z,z=n->(cellsFrom (h.push {cls:=.type "cell",data:=.cell none}).objs.size r ((n,h.objs.size)::a)).lookup z=some c->h.objs.size≥c:=λz s e=>by
    rcases il r _ _ z c b.2 e with ⟨u,_⟩|⟨_,q⟩
    .rw[s]at u;exact absurd u A
    .rw[s,List.lookup_cons]at q;simp at q;exact Nat.le_of_eq q.symm
   have o:∀z,r.lookup z=some .cell->(cellsFrom (h.push {cls:=.type "cell",data:=.cell none}).objs.size r ((n,h.objs.size)::a)).lookup z=some c->h.objs.size<c:=λz s e=>by
    rcases il r _ _ z c b.2 e with ⟨_,q,_⟩|⟨q,_⟩
    .rw[Heap.size_push]at q;omega
    .exact absurd s q
   cases l:x==n with
   |true=>
    cases j:y==n with
    |true=>rw[eq_of_beq l,eq_of_beq j]
    |false=>
     rw[j]at d;have B:=m x (eq_of_beq l) ex;have C:=o y d g;omega
   |false=>
    rw[l]at i;cases j:y==n with
    |true=>
     have B:=m y (eq_of_beq j) g;have C:=o x i ex;omega
    |false=>
     rw[j]at d;exact qx r _ _ x y c b.2 i d ex g
  .have t:(k==NameKind.cell)=false:=by simpa using p
   simp only[t,Bool.false_eq_true,if_false]at ex g;cases l:x==n with
   |true=>rw[l]at i;exact absurd (by injection i) p
   |false=>
    cases j:y==n with
    |true=>rw[j]at d;exact absurd (by injection d) p
    |false=>
     rw[l]at i;rw[j]at d;exact qx r h a x y c b.2 i d ex g
structure jg(X:Cx)(scope:Scope)(tn cn:List Str)(cap:List Nat):Prop where
 kind:scope.kind=.function
 nd:(scope.names.map (·.1)).Nodup
 names:∀y∈scope.names,y.2=.local->scope.names.lookup y.1=some .local
 free:∀y∈scope.names,y.2=.free->X.env.kindOf y.1=some .cell\/X.env.kindOf y.1=some .free
 len:cn.length=cap.length
 at':∀(j i:Nat) (x:Str),cn[j]?=some x->cap[j]?=some i->X.N[i]?=some x/\scope.names.lookup x=some .free
noncomputable def oM(cap:List Nat)(a:L2.St):L2.St:=cap.map λi=>(a[i]?).join
def fQ(a:Nat)(cap:List Nat)(b:L2.St):L2.St:=List.replicate a none++oM cap b
section
variable{X:Cx}{scope:Scope}{tn cn:List Str}{cap:List Nat}
theorem tS{pins:List (Addr×Obj)}{t:L2.St}{H:Hp}{s:Shared}{fp:List Addr}{F:List (Str×Addr)}{G:Heap}{tk:Nat}{m:Str->Option Value}(B:jg X scope tn cn cap)
  (I:Inv X pins t H s) (O:∀b∈fp,lE X pins H b) (R:∀b∈fp,∃o,s.heap.get? b=some o) (A:∀n c,F.lookup n=some c->(scope.names.lookup n=some .cell/\s.heap.objs.size+2<=c/\G.IsCell c none)\/(scope.names.lookup n≠some .cell/\X.env.cells.lookup n=some c)) (c2:∀y∈scope.names,y.2=.free\/y.2=.cell->∃c,(y.1,c)∈F)
  (c3:∀x y c,scope.names.lookup x=some .cell->scope.names.lookup y=some .cell->F.lookup x=some c->F.lookup y=some c->x=y)
  (P:∀b o,s.heap.get? b=some o->G.get? b=some o) (C:∃n,G.get? s.heap.objs.size=some {cls:=.type "list",data:=.seq ([]:List Value).toArray n}) (ns:G.Ns (s.heap.objs.size+1) m) :
  Inv (blk X scope F (s.heap.objs.size+1) (tn++cn) s H fp) [] (fQ tn.length cap t) (upd H s.heap.objs.size (.lst [])) {s with heap:=G,toks:=tk}:=by
 have e0:∀b o,s.heap.get? b=some o->b≠s.heap.objs.size+1:=λb o e=>Nat.ne_of_lt (Nat.lt_succ_of_lt (Heap.lt_size e))
 have f0:∀b o,s.heap.get? b=some o->b≠s.heap.objs.size:=λb o e=>Nat.ne_of_lt (Heap.lt_size e)
 have D:∀x c,X.env.cells.lookup x=some c->s.heap.objs.size>c:=λx c e=>by
  obtain⟨v,o,J,_⟩:=I.cell x c e;exact Heap.lt_size J
 have K:∀b∈fp,b<s.heap.objs.size:=λb g=>let ⟨o,e⟩:=R b g;Heap.lt_size e
 have fr:=I.hok.fresh (Nat.le_refl s.heap.objs.size);obtain⟨nd,C⟩:=C
 refine⟨⟨I.ok.mod,B.kind,I.ok.glob,I.ok.blt,Nat.le_succ _,λx y c E a=>?_,λx h=>?_,λx c e a=>?_,I.ok.hd,I.ok.frames,.inl rfl,λb g=>⟨?_,λx c e z=>?_⟩,λb o e=>I.bs b o e,Nat.le_trans I.ok.AI I.sz,λb o e g=>?_,λb g S=>?_,I.stack,I.rm⟩,
  rfl,I.bare,?_,⟨m,ns,λi x v E a e3=>?_⟩,λx c e=>?_,?_,λx c e=>?_,λp hp=>absurd (show p∈([]:List (Addr×Obj))from hp) (by simp),?_,?_⟩
 .rcases A x c E with ⟨j,d,_⟩|⟨j,d⟩<;>rcases A y c a with ⟨b1,T,_⟩|⟨b1,T⟩
  .exact c3 x y c j b1 E a
  .have:=D y c T;omega
  .have:=D x c d;omega
  .exact I.ok.inj x y c d T
 .have h:(relabel scope X.env).names.lookup x=some .cell\/(relabel scope X.env).names.lookup x=some .free:=h
  unfold relabel at h;simp only[dJ]at h;cases q:scope.names.lookup x with
  |none=>rw[q]at h;simp at h
  |some k=>
   rw[q]at h;have hm:=lookup_mem q
   have l:k=.free\/k=.cell:=by
    by_cases l:k=.free
    .exact .inl l
    .have U:(k==NameKind.free)=false:=by simpa using l
     rw[Option.map_some]at h;simp only[U,Bool.false_and,Bool.false_eq_true,if_false,Option.some.injEq]at h;rcases h with z|z
     .exact .inr z
     .exact .inl z
   obtain⟨c,V⟩:=c2 _ hm l;exact mem_lookup V
 .have e:(scope.names.lookup x==some NameKind.cell)=true:=e
  rcases A x c a with ⟨_,d,_⟩|⟨j,_⟩
  .show s.heap.objs.size<=c
   omega
  .exact absurd (eq_of_beq e) j
 .exact Nat.ne_of_lt (Nat.lt_succ_of_lt (K b g))
 .rcases A x c e with ⟨_,d,_⟩|⟨_,d⟩
  .exact absurd (K b g) (Nat.not_lt.mpr (by rw[←z];omega))
  .exact(O b g).2.2.2.2.1 x c d z
 .rcases(O b g).2.2.2.1 with z|z
  .exact I.ok.uI b o e z
  .exact absurd (Nat.lt_of_lt_of_le (Heap.lt_size (I.ok.bs b o e).1) z) (Nat.lt_irrefl _)
 .rcases List.mem_cons.mp (I.pS b S)with z|z
  .exact(O b g).2.1 z
  .exact(O b g).2.2.1 z
 .exact Un.laid P (Nat.le_refl _) fr
 .have L:i<tn.length->False:=λM=>by
   have:(fQ tn.length cap t)[i]?=some none:=by
    unfold fQ;rw[List.getElem?_append_left (by simpa using M),List.getElem?_replicate,if_pos M]
   rw[this]at a;cases a
  have M:tn.length<=i:=Nat.le_of_not_lt L;have E:(tn++cn)[i]?=some x:=E;rw[List.getElem?_append_right M]at E
  have f:(oM cap t)[i - tn.length]?=some (some v):=by
   unfold fQ at a;rw[List.getElem?_append_right (by simpa using M)]at a
   simpa using a
  unfold oM at f;rw[List.getElem?_map]at f;cases q:cap[i - tn.length]? with
  |none=>rw[q]at f;cases f
  |some Q=>
   rw[q]at f;have a:(t[Q]?).join=some v:=by simpa using f
   have e4:t[Q]?=some (some v):=by
    cases q2:t[Q]? with
    |none=>rw[q2]at a;cases a
    |some z=>rw[q2]at a;cases z with
     |none=>cases a
     |some z=>cases a;rfl
   obtain⟨hN,r⟩:=B.at' _ _ _ E q;have l:=B.free _ (lookup_mem r) rfl;have l:X.env.kindOf x=some .cell\/X.env.kindOf x=some .free:=l
   have N:D8 X.env.scope x:=by
    rcases l with z|z
    .exact .inr (.inl z)
    .exact .inr (.inr z)
   obtain⟨m0,g0,Y⟩:=I.loc;obtain⟨u,ru,Z⟩:=Y Q x v hN e4 N;refine⟨u,ru,.inr ⟨?_,?_⟩⟩
   .show(relabel scope X.env).names.lookup x=some .cell\/(relabel scope X.env).names.lookup x=some .free
    unfold relabel;simp only[dJ,r,Option.map_some];split
    .exact .inl rfl
    .exact .inr rfl
   .have Z:∃c,X.env.cells.lookup x=some c/\s.heap.IsCell c (some u):=by
     rcases Z with ⟨z,_⟩|⟨_,z⟩
     .rcases l with y|y<;>rw[y]at z<;>cases z
     .exact z
    obtain⟨c,V,a0⟩:=Z;obtain⟨c',b0⟩:=c2 _ (lookup_mem r) (.inl rfl);obtain⟨c0,w⟩:=mem_lookup b0
    have this:X.env.cells.lookup x=some c0:=by
     rcases A _ _ w with ⟨j,_⟩|⟨_,d⟩
     .rw[r]at j;cases j
     .exact d
    rw[V]at this;cases this
    obtain⟨o,J,C⟩:=a0;exact⟨c,w,o,P _ _ J,C⟩
 .rcases A x c e with ⟨_,_,a3⟩|⟨_,d⟩
  .exact⟨none,a3⟩
  .obtain⟨v,o,J,C⟩:=I.cell x c d
   exact⟨v,o,P _ _ J,C⟩
 .show upd H s.heap.objs.size (.lst []) (s.heap.objs.size+1)=none
  rw[aJ (Nat.succ_ne_self _)];exact I.hok.fresh (Nat.le_succ _)
 .rcases A x c e with ⟨_,d,_⟩|⟨j,d⟩
  .have q:upd H s.heap.objs.size (.lst []) c=none:=by
    rw[aJ (Nat.ne_of_gt (by omega))]
    exact I.hok.fresh (by omega)
   exact⟨.inl q,λ_=>q⟩
  .refine⟨?_,λhz=>absurd (eq_of_beq (show(scope.names.lookup x==some NameKind.cell)=true from hz)) j⟩
   rw[aJ (Nat.ne_of_lt (D x c d))];exact(I.fV x c d).1
 .refine I.hok.laid P (Nat.le_refl _) ⟨Nat.zero_le _,[],nd,.nil,C⟩
 .show(fQ tn.length cap t).length=(tn++cn).length
  unfold fQ oM;rw[List.length_append,List.length_append,List.length_replicate,List.length_map,B.len]
def yt(X:Cx)(a:List Expr)(t:TT):Prop:=∀(pins:List (Addr×Obj)) (s:Shared) (b:L2.St) (H:Hp) (Q:Bool->Hp->Prop),Inv X pins b H s->t b H Q->wpAny (model X.prog X.w) X.A (rL a X.env) (TP X pins b Q) X.xe s
theorem yu:yt X [] (λ_ H Q=>Q true H):=λpins s a H Q I h=>wpAny_pure ⟨H,I,h⟩
theorem yv{c:Expr}{t:TT}(h:PT X c t):yt X [c] t:=λpins s a H Q I q=>wpAny_tests_one (h pins s a H Q I q)
def lZ(n:TI)(o:Nat)(cap:List Nat)(g:TG)(p:TT)(q:TE):TE:=λf H Q=>n f H λJ h=>∀D,h D=none->∃W:Nat->Nat->List V->Hp->Prop,(∃m,W 0 m [] (upd h D (.lst []))) /\
 ∀i m a c,W i m a c->c D=some (.lst a)/\((J.stop i c/\Q (.ref D) c)\/(J.go i c/\a.length<sizeLine/\∀x j,J.Ii i c x j->g x (fQ o cap f) j λd r=>p d r λb k=>
  if b=true then q d k λy l=>l D=some (.lst a)/\∃e,e<m/\W (i+1) e (a++[y]) (upd l D (.lst (a++[y])))else ∃e,e<m/\W (i+1) e a k))
theorem l9{tg iter L:Expr}{M:List Expr}{pos Y:Pos}{wi:TI}{g:TG}{tc:TT}{te:TE}{use:Option (Value->Sem Unit)}{Q':Value->Shared->Prop}{Q:VK}{pins:List (Addr×Obj)}{f:L2.St}{H:Hp}{s:Shared}
  (hc:X.calm=true) (B:jg X scope tn cn cap) (hi:PI X tg iter wi) (hs:∀x,foldedSetIterable iter X.env x=pure x)
  (l0:∀v f H Q,g v f H Q->g v f H λN k=>Q N k/\N.length=f.length/\∀j,tn.length<=j->N[j]?=f[j]?)
  (a:∀d C l t fp,PG (blk X scope d C (tn++cn) l t fp) tg g/\yt (blk X scope d C (tn++cn) l t fp) M tc/\PE (blk X scope d C (tn++cn) l t fp) L te)
  (n0:∀(S:Shared) (k:Hp) (C D:Addr) (m:Str->Option Value),Inv X pins f k S->S.heap.Ns C m->k C=none->C≠X.env.locals->X.s₀.heap.objs.size<=C->(∀x c,X.env.cells.lookup x=some c->c≠C)->(∀p∈X.pn++pins,p.1≠C)->Q (.ref D) k ->
   compPost (model X.prog X.w) X.A X.xe use Q' (.ref D) C (.ok .next) S)
  (I:Inv X pins f H s) (h:lZ wi tn.length cap g tc te f H Q) :
  wpAny (model X.prog X.w) X.A (comprehension (.ListComp L [⟨tg,iter,M,0⟩] scope pos) scope X.env Y (newList []) false (eval iter X.env) use) Q' X.xe s:=by
 have p0:∀y∈scope.names,y.2=.free->∃c,X.env.cells.lookup y.1=some c:=λy hy hk=>I.ok.has y.1 (B.free y hy hk)
 obtain⟨d,Z,c1,c2⟩:=qv p0;refine wpAny_comprehension_free (use:=use) rfl hs Z B.kind B.names ?_;refine cC (hi pins s f H _ I h) λv s1 U=>cC U λv0 s2 h2=>?_
 obtain⟨it,fp,O,J,E,e,P,T,a0,f2,h⟩:=h2;subst e;have fr:=P.hok.fresh (Nat.le_refl s2.heap.objs.size);obtain⟨W,⟨m0,w0⟩,b0⟩:=h s2.heap.objs.size fr;refine wpAny_newObj_type (yr ?_);have c0:(s2.heap.push {cls:=.type "list",dict:=none,data:=.seq ([]:List Value).toArray}).objs.size=s2.heap.objs.size+1:=Heap.size_push _ _;dsimp only;have kp:=λb o (e:s2.heap.get? b=some o)=>pushCells_keeps scope.names _ b o (Heap.get?_push_of_some {cls:=.type "dict",data:=.dict #[]} (Heap.get?_push_of_some {cls:=.type "list",dict:=none,data:=.seq ([]:List Value).toArray} e))
 have hD:∃n,(pushCells ((s2.heap.push {cls:=.type "list",dict:=none,data:=.seq ([]:List Value).toArray}).push {cls:=.type "dict",data:=.dict #[]}) scope.names).get? s2.heap.objs.size=some {cls:=.type "list",data:=.seq ([]:List Value).toArray n}:=⟨0,pushCells_keeps _ _ _ _ (Heap.get?_push_of_some _ (Heap.get?_push_size _ rfl))⟩;have ns:=(Heap.Ns.new (s2.heap.push {cls:=.type "list",dict:=none,data:=.seq ([]:List Value).toArray}) (.type "dict")).keeps (pushCells_keeps scope.names _);have q0:((s2.heap.push {cls:=.type "list",dict:=none,data:=.seq ([]:List Value).toArray}).push {cls:=.type "dict",data:=.dict #[]}).objs.size=s2.heap.objs.size+2:=by rw[Heap.size_push,c0]
 have d1:=λn c=>il scope.names ((s2.heap.push {cls:=.type "list",dict:=none,data:=.seq ([]:List Value).toArray}).push {cls:=.type "dict",data:=.dict #[]}) d n c B.nd
 have d3:=λx y c=>qx scope.names ((s2.heap.push {cls:=.type "list",dict:=none,data:=.seq ([]:List Value).toArray}).push {cls:=.type "dict",data:=.dict #[]}) d x y c B.nd
 rw[c0]at ns ⊢;rw[q0]at d1 d3;generalize pushCells ((s2.heap.push {cls:=.type "list",dict:=none,data:=.seq ([]:List Value).toArray}).push {cls:=.type "dict",data:=.dict #[]}) scope.names=U at *
 have d2:∀y∈scope.names,y.2=.free\/y.2=.cell->∃c,(y.1,c)∈cellsFrom (s2.heap.objs.size+2) scope.names d:=λy hy hk=>by
  rcases hk with hk|hk
  .obtain⟨c,hc⟩:=c2 y hy hk
   exact⟨c,nk _ _ _ _ hc⟩
  .obtain⟨y1,y2⟩:=y
   have hk:y2=.cell:=hk;subst hk;exact qw _ _ _ _ hy
 have d1:∀n c,(cellsFrom (s2.heap.objs.size+2) scope.names d).lookup n=some c->(scope.names.lookup n=some .cell/\s2.heap.objs.size+2<=c/\U.IsCell c none)\/(scope.names.lookup n≠some .cell/\X.env.cells.lookup n=some c):=λn c e=>(d1 n c e).imp id λq=>⟨q.1,c1 n c (lookup_mem q.2)⟩
 have eC:s2.heap.objs.size+1+1=s2.heap.objs.size+2:=rfl;rw[eC];clear c1 c2 Z;generalize cellsFrom (s2.heap.objs.size+2) scope.names d=d at *;have e0:∀b∈fp,∃o,s2.heap.get? b=some o:=λb a=>let ⟨o,e,_⟩:=T.obj 0 _ a0 b a;⟨o,e⟩
 have I4:Inv (blk X scope d (s2.heap.objs.size+1) (tn++cn) s2 E fp) [] (fQ tn.length cap f) (upd E s2.heap.objs.size (.lst [])) {s2 with heap:=U}:=
  tS B P f2 e0 d1 d2 d3 kp hD ns
 obtain⟨hg,ht,he⟩:=a d (s2.heap.objs.size+1) s2 E fp;have g0:O 0 U:=T.keep 0 _ _ a0 λb a o e=>kp b o e
 have r0:∀b∈fp,upd E s2.heap.objs.size (.lst []) b=none:=λb a=>by
  obtain⟨o,e⟩:=e0 b a;rw[aJ (Nat.ne_of_lt (Heap.lt_size e))];exact(f2 b a).1
 have F:∀{k:Hp}{pl:List (Addr×Obj)},(∀b∈fp,k b=none)->∀b∈fp,lE (blk X scope d (s2.heap.objs.size+1) (tn++cn) s2 E fp) [] k b:=λhn b a=>
  ⟨hn b a,(I4.ok.Ig b a).1,I4.ok.uJ b a,.inl a,(I4.ok.Ig b a).2,λp hp=>absurd (show p∈([]:List (Addr×Obj))from hp) (by simp)⟩
 have K:codeAny (model X.prog X.w) X.A (.compLoop (.ListComp L [⟨tg,iter,M,0⟩] scope pos) 0 (.ref it) (.ref s2.heap.objs.size) (compEnvC scope d (s2.heap.objs.size+1) X.env))
   (compPost (model X.prog X.w) X.A X.xe use Q' (.ref s2.heap.objs.size) (s2.heap.objs.size+1)) {s2 with heap:=U}:=by
  refine tR (λn S=>∃i R k,Inv (blk X scope d (s2.heap.objs.size+1) (tn++cn) s2 E fp) [] (fQ tn.length cap f) k S/\O i S.heap/\(∀b∈fp,k b=none)/\W i n R k) ?_ m0 ⟨0,[],_,I4,g0,r0,w0⟩
  rintro n s5 ⟨i,R,H5,I5,h0,i0,w5⟩;obtain⟨x0,s0⟩:=b0 i n R H5 w5;rcases s0 with ⟨stop,qn⟩|⟨go,j0,step⟩
  .refine cC (T.done (blk X scope d (s2.heap.objs.size+1) (tn++cn) s2 E fp) rfl rfl rfl hc i [] s5 _ H5 _ I5 (F (pl:=[]) i0) h0 stop) λr s6 ⟨hr,V⟩=>?_
   subst hr;obtain⟨mC,nC,_⟩:=V.loc
   have I7:Inv X pins f H5 s6:=by
    refine P.call' V.os V.base V.hok V.bare λb a=>?_
    obtain⟨f0,f1,f3,f4,f5,f6⟩:=f2 b a;exact⟨f4,f1,f5,f6⟩
   have hC:s2.heap.objs.size<=s2.heap.objs.size+1:=Nat.le_succ _;refine n0 s6 H5 (s2.heap.objs.size+1) s2.heap.objs.size mC I7 nC V.free (Nat.ne_of_gt (Nat.lt_of_lt_of_le P.lt hC)) (Nat.le_trans P.sz hC) (λx c e z=>?_) (λp hp z=>?_) qn
   .obtain⟨v,q⟩:=P.cell x c e
    exact absurd (Nat.lt_of_lt_of_le q.lt (by rw[z];exact hC)) (Nat.lt_irrefl _)
   .exact absurd (Nat.lt_of_lt_of_le (Heap.lt_size (P.pin p hp).1) (by rw[z];exact hC)) (Nat.lt_irrefl _)
  .refine cC (T.item (blk X scope d (s2.heap.objs.size+1) (tn++cn) s2 E fp) rfl rfl rfl hc i [] s5 _ H5 _ I5 (F (pl:=[]) i0) h0 go) λr s6 ⟨u,hr,h6⟩=>?_
   subst hr;refine cC h6 λ_ s7 ⟨x,H7,I7,r7,y7,Kt,QE⟩=>?_
   have t0:=I7.pinned (F (pl:=[]) QE) (T.obj _ _ Kt);refine cC (hg _ s7 _ H7 x u _ t0 r7 (l0 _ _ _ _ (step x H7 y7))) λ_ s8 ⟨G,H8,I8,q8,l8,k8⟩=>?_
   refine cC (ht _ s8 G H8 _ I8 q8) λok s9 ⟨H9,I9,q9⟩=>?_
   have again:∀{sA:Shared}{HA:Hp},Inv (blk X scope d (s2.heap.objs.size+1) (tn++cn) s2 E fp) ([]++jZ fp s7.heap) G HA sA->Inv (blk X scope d (s2.heap.objs.size+1) (tn++cn) s2 E fp) [] (fQ tn.length cap f) HA sA/\O (i+1) sA.heap/\∀b∈fp,HA b=none:=λ{sA HA} IA=>by
    refine⟨(IA.ib (pins:=[])).weak l8.symm λj v hj=>?_,T.keep _ _ _ Kt λb a o e=>(IA.pin (b,o) (List.mem_append_right _ (List.mem_append_right _ (fy a e)))).1,λb a=>?_⟩
    .have u0:tn.length<=j:=by
      refine Nat.le_of_not_lt λk0=>?_
      have:(fQ tn.length cap f)[j]?=some none:=by
       unfold fQ;rw[List.getElem?_append_left (by simpa using k0),List.getElem?_replicate,if_pos k0]
      rw[this]at hj;cases hj
     rw[k8 j u0];exact hj
    .obtain⟨o,e,_⟩:=T.obj _ _ Kt b a
     exact(IA.pin (b,o) (List.mem_append_right _ (List.mem_append_right _ (fy a e)))).2.1
   cases ok with
   |false=>
    rw[if_neg Bool.false_ne_true]at q9 ⊢;obtain⟨m',hm,w'⟩:=q9;obtain⟨a1,a2,a3⟩:=again I9;exact⟨m',hm,i+1,R,H9,a1,a2,a3,w'⟩
   |true=>
    rw[if_pos rfl]at q9 ⊢;refine cC (he _ s9 G H9 _ I9 q9) λy sB ⟨v,HB,IB,rB,QF,m',hm,w'⟩=>?_
    have hx:=lW (X:=blk X scope d (s2.heap.objs.size+1) (tn++cn) s2 E fp) _ sB G HB (.ref s2.heap.objs.size) [v] (.ref s2.heap.objs.size) [y] (λ_ k=>k=upd HB s2.heap.objs.size (.lst (R++[v]))) IB rfl (.cons rB .nil)
     ⟨s2.heap.objs.size,R,v,rfl,rfl,QF,j0,rfl⟩
    refine cC hx λ_ sC ⟨_,HC,IC,_,eC⟩=>?_
    subst eC;obtain⟨a1,a2,a3⟩:=again IC;exact⟨m',hm,i+1,R++[v],_,a1,a2,a3,w'⟩
 exact codeAny_compStart_list K (T.self X.A 0 _ _ _ g0 K)
theorem yw{l iter f:Expr}{i:List Expr}{pos:Pos}{t:TI}{g:TG}{u:TT}{w:TE}(y:X.calm=true)(B:jg X scope tn cn cap)(z:PI X l iter t)(A:∀x,foldedSetIterable iter X.env x=pure x)
  (n:∀v k H Q,g v k H Q->g v k H λd p=>Q d p/\d.length=k.length/\∀j,tn.length<=j->d[j]?=k[j]?)
  (E:∀r C a c fp,PG (blk X scope r C (tn++cn) a c fp) l g/\yt (blk X scope r C (tn++cn) a c fp) i u/\PE (blk X scope r C (tn++cn) a c fp) f w) :
  PE X (.ListComp f [⟨l,iter,i,0⟩] scope pos) (lZ t tn.length cap g u w):=by
 intro pins s k H Q I h;rw[eval_ListComp];refine l9 (use:=none) y B z A n E (λF p C D m G J K L M N O q=>⟨m,J,λS P=>?_⟩) I h
 exact⟨.ref D,p,G.turned (it:=C) (t':=F.toks) (λb o R e=>P.extBut b o R e) K L (.inr M) N O,rfl,q⟩
theorem qy{r iter k:Expr}{l:List Expr}{pos c n:Pos}{O:TI}{g:TG}{P:TT}{R:TE}{i:Nat}{x:Str}(Y:X.N.Nodup)(u:X.N[i]?=some x)(S:X.env.scope.names.lookup x=some .local)
  (y:swapsWith (.ListComp k [⟨r,iter,l,0⟩] scope pos) (some (.Name x c)) n.line X.env=pure true) (Z:X.calm=true) (B:jg X scope tn cn cap) (hi:PI X r iter O) (hs:∀x,foldedSetIterable iter X.env x=pure x)
  (E:∀v t H Q,g v t H Q->g v t H λp F=>Q p F/\p.length=t.length/\∀j,tn.length<=j->p[j]?=t[j]?)
  (hb:∀G C d f fp,PG (blk X scope G C (tn++cn) d f fp) r g/\yt (blk X scope G C (tn++cn) d f fp) l P/\PE (blk X scope G C (tn++cn) d f fp) k R) :
  PS X (.Assign [.Name x c] (.ListComp k [⟨r,iter,l,0⟩] scope pos) n) (BD (lZ O tn.length cap g P R) (gN i)):=by
 intro pins s t H D I h;rw[exec_Assign_Name_used _ _ _ _ y];refine wpAny_bind (wpAny_standAt (wpAny_bind ?_));refine wpAny_bind (m:=comprehension (.ListComp k [⟨r,iter,l,0⟩] scope pos) scope X.env _ (newList []) false (eval iter X.env) (some (assign (.Name x c) X.env))) ?_;refine l9 (use:=some (assign (.Name x c) X.env)) (Q':=λ_ J=>wpAny (model X.prog X.w) X.A (pure ()) (λ_ K=>wpAny (model X.prog X.w) X.A (pure Flow.next) (SP X pins D) X.xe K) X.xe J) Z B hi hs E hb (λJ F C T m I' ns h1 U h3 V h5 q=>?_) I h
 show wpAny (model X.prog X.w) X.A (assign (.Name x c) X.env (.ref T)) _ _ J
 refine wpAny_assign_Name (lR I' Y u (.inl S) (v:=.ref T) rfl (λs2 I2 ch=>?_) (.inr S))
 obtain⟨a,sb,ha⟩:=ch
 have L:C≠a:=by
  rcases ha with rfl|ha
  .exact U
  .exact λz=>V _ _ ha z.symm
 refine⟨m,ns.sameBut sb L,λh' M=>wpAny_pure (wpAny_pure ?_)⟩
 exact⟨_,F,I2.turned (it:=C) (t':=s2.toks) (λb o nb e=>M.extBut b o nb e) h1 U (.inr h3) V h5,q⟩
end
theorem PI.imp{X:Cx}{b e:Expr}{t t':TI}(h:PI X b e t)(i:∀a H R,t' a H R->t a H R):PI X b e t':=λpins s a H R I q=>h pins s a H R I (i a H R q)
section
variable{Z:Addr->Prop}{H:Hp}
theorem kn:∀(n:Nat) (a:Int),(intsFrom a n).length=n
 |0,_=>rfl
 |n+1,a=>by rw[intsFrom,List.length_cons,kn n]
theorem ints_get:∀(n:Nat) (a:Int) (i:Nat) (d:D),(intsFrom a n)[i]?=some d->d=.int (a+i)
 |0,_,_,_,h=>by simp[intsFrom]at h
 |n+1,a,0,d,h=>by simp[intsFrom]at h;subst h;simp
 |n+1,a,i+1,d,h=>by
  simp only[intsFrom,List.getElem?_cons_succ]at h;rw[ints_get n (a+1) i d h]
  congr 1
  omega
noncomputable def OL(x:Str):It:=⟨λi _=>i<x.cps.size,λi H v a=>a=H/\∃c,x.cps[i]?=some c/\v=.str ⟨#[c]⟩,λi _=>x.cps.size<=i⟩
end
theorem vB{P:Program}{w:World}{K:PySem.W.Frag}{U:Expr}(it:Addr)(x:Str)(t:Tok)(j:String)(f:j="str_ascii_iterator"\/j="str_iterator"):Turn P w K U (OL x) [it] it (λi h=>h.IsStrIter it j x t i) where
 mem:=by simp
 obj:=λi h a b g=>by
  obtain rfl:b=it:=by simpa using g
  obtain⟨o,e,c,d⟩:=a;exact⟨o,e,λv z=>by rw[d]at z;cases z⟩
 keep:=λi h l a k=>let ⟨o,e,r⟩:=a;⟨o,k it (by simp) o e,r⟩
 item:=by
  intro X J L M m i pins s R H E I y a N;subst J L M;obtain⟨B,C,V,D,F,G⟩:=y it (by simp)
  have W:Walks X.prog X.w X.A it [it] [it] x.cps.size (SignAt x) (λi h=>h.IsStrIter it j x t i):=by
   rcases f with rfl|rfl
   .exact Walks.strAscii (I.ok.hd m) it x t
   .exact Walks.strWide (I.ok.hd m) it x t
  refine W.item i s _ _ N a λv l S Y p Z=>?_
  obtain⟨c,u,hx,rfl⟩:=Y;have I1:Inv X pins R H {s with heap:=l,toks:=S}:=I.turned (λb o g e=>Z b o (by simpa using g) e) B C D F G
  obtain⟨o,e,q,d⟩:=id p;refine⟨_,rfl,oo (s:={s with heap:=l,toks:=S}) (n:=j) e q d (by rcases f with rfl|rfl<;>decide) ⟨.str ⟨#[c]⟩,H,I1,⟨u,rfl⟩,⟨rfl,c,hx,rfl⟩,p,λb g=>(y b g).1⟩⟩
 done:=by
  intro X J L M m i pins s R H E I y a N;subst J L M;obtain⟨B,C,V,D,F,G⟩:=y it (by simp)
  have T:x.cps.size<=i:=N;rcases f with rfl|rfl
  .exact wpAny_pyNext_ascii_end (I.ok.hd m) a (by simp[T]) λl O=>⟨rfl,I.turned (t':=s.toks) (λb o g e=>O b o g e) B C D F G⟩
  .exact wpAny_pyNext_wide_end (I.ok.hd m) a (by simp[T]) λl O=>⟨rfl,I.turned (t':=s.toks) (λb o g e=>O b o g e) B C D F G⟩
 self:=λA i s Q E a h=>by
  rcases f with rfl|rfl
  .exact wpAny_pyIter_striter_ascii a h
  .exact wpAny_pyIter_striter_wide a h
section
variable{X:Cx}{Γ:lJ}{bw:Bool}{tg e:Expr}{c cs:Ex}{pos p:Pos}
end
section
variable{X:Cx}{Γ:lJ}{bw:Bool}{tg iter elt:Expr}{ifs:List Expr}{scope:Scope}{tn cn:List Str}{cap:List Nat}{QG cc Sr:Ex}{pos:Pos}{n:Nat}
theorem jh(n:Nat)(d:0<n):∀v b H Q,gN 0 v b H Q->gN 0 v b H λa c=>Q a c/\a.length=b.length/\∀j,n<=j->a[j]?=b[j]?:=λv b H Q h=>⟨h,by simp,λj e=>by
 rw[List.getElem?_set_ne];omega⟩
end
theorem PS.imp{X:Cx}{st:Stmt}{t t':TS}(h:PS X st t)(i:∀D a H,t' D a H->t D a H):PS X st t':=λpins s a H D I q=>h pins s a H D I (i D a H q)
theorem ja.imp{X:Cx}{st:List Stmt}{t t':TS}(h:ja X st t)(i:∀D a H,t' D a H->t D a H):ja X st t':=λpins s a H D I q=>h pins s a H D I (i D a H q)
section
variable{X:Cx}{Γ:lJ}{e:Expr}{c:Ex}{st:Stmt}{rest:List Stmt}{a b:OM}{pos pos':Pos}
end
section
variable{Z0 Z1 Z:Addr->Prop}{H0 H1 H:Hp}{ρ:yk}{σ:L2.St}
end
section
variable{X:Cx}{Γ:lJ}{tg e:Expr}{c:Ex}{b:OM}{tb:List Stmt}{pos pos':Pos}
def iP:List Nat->AJ
 |[]=>EC
 |i::a=>AK (gN i) (iP a)
theorem l_{nms:List (Str×Pos)}(b:X.N.Nodup):∀(a:List Nat) (nms:List (Str×Pos)),a.length=nms.length->(∀(j i:Nat) (x:Str×Pos),a[j]?=some i->nms[j]?=some x->X.N[i]?=some x.1/\Loc X.env.scope x.1/\(X.fn x.1=true\/X.env.scope.names.lookup x.1=some .local)) ->
  EB X (nms.map λx=>Expr.Name x.1 x.2) (iP a)
 |[],[],_,_=>xR
 |[],_::_,h,_=>by cases h
 |_::_,[],h,_=>by cases h
 |i::a,(x,c)::nms,d,h=>by
  obtain⟨h1,h2,e⟩:=h 0 i (x,c) rfl rfl;exact uN (mM b h1 h2 e) (l_ (nms:=nms) b a nms (by simpa using d) λj i x f g=>h (j+1) i x (by simpa using f) (by simpa using g))
end
section
variable{X:Cx}{Γ:lJ}{e o:Expr}{c:Ex}{i j:Nat}{x y:Str}{p0 p1 p2 p3 p4 p5 pos:Pos}
def rM:V->List V->Hp->VK->Prop:=λx b H Q=>∃l a k y,x=.ref l/\b=[.int k,y]/\H l=some (.lst a) /\ -(2 ^ 63)<=k/\k<2 ^ 63/\a.length<sizeLine/\Q .non (upd H l (.lst (mZ a k y)))
end
theorem ji{X:Cx}{pins:List (Addr×Obj)}{l:L2.St}{H:Hp}{s:Shared}{h':Heap}{t':Nat}{fp:List Addr}{a:Addr}{o:HO}(I:Inv X pins l H s)(i:∀b∈fp,lE X pins H b)
  (k:∀b o,b∉fp->s.heap.get? b=some o->h'.get? b=some o) (p:s.heap.objs.size<=a) (j:cw X.prog X.w (upd H a o) h' a o):Inv X pins l (upd H a o) {s with heap:=h',toks:=t' }:=by
 have t:=I.hok.fresh p;have f:∀b u,H b=some u->b∉fp:=λb u e z=>by rw[(i b z).1]at e;cases e
 have g:∀b u,H b=some u->upd H a o b=some u:=λb u e=>by rw[aJ (bc e t)];exact e
 refine I.step (g':=s.gens) (d':=s.drawn) (ch:=fp) (λb h=>?_) (λb o _ _ d e _=>k b o d e) (λb o _ _ d e _=>⟨o.slots,k b o d e⟩) (λb u _ e n=>?_)
  (λb o d e=>⟨o,k b o d e⟩) (λb G e=>g b _ e) (λb u v e=>g b _ e) (λb J e=>⟨#[],by rw[g b _ e];simp⟩) (λm x=>?_) (λb u e=>?_) I.bare
 .obtain⟨K,y,L,A,B,C⟩:=i b h
  exact⟨A,y,B,C⟩
 .have:b≠a:=λz=>absurd (Heap.lt_size e) (by rw[z];exact Nat.not_lt.mpr p)
  rw[aJ this];exact n
 .obtain⟨o,D,E,F,r⟩:=x
  exact⟨o,D,E,k _ o (λz=>(i _ z).2.1 rfl) F,r⟩
 .by_cases h:b=a
  .subst h
   rw[ba]at e;cases e
   exact j
  .rw[aJ h]at e
   refine(I.hok b u e).stay (λc v d q=>k c v ?_ q) (λc q=>g c _ q) λc _ q=>g c _ q
   rcases d with z|z
   .rw[z];exact f b u e
   .exact f c _ z
def ON(K:PySem.W.Frag)(a:Addr):It:=
 ⟨λi H=>∃b x,jb K H a b/\b[i]?=some x,λi H x c=>∃p,x=.ref p/\H p=none/\∀b,jb K H a b->∃v,b[i]?=some v/\c=upd H p (.tup [.int i,v]),λi H=>∃b,jb K H a b/\b.length<=i⟩
theorem tT{P:Program}{w:World}{K:PySem.W.Frag}{r:List Expr}{x1:Nat}{t:Pos}(a e it:Addr)(y:e≠it) :
  Turn P w K (.Tuple r x1 t) (ON K a) [e,it] e (λi h=>(∃g,IsEnum h e it i g)/\h.IsListIter it a i) where
 mem:=by simp
 obj:=λi h l b m=>by
  obtain⟨⟨g,f⟩,o,e2,c,d⟩:=l;rcases List.mem_cons.mp m with z|z
  .subst z
   exact⟨_,f,λv z=>by
    have z':Data.fields _=Data.cell v:=z;cases z'⟩
  .have z:b=it:=by simpa using z
   subst z;exact⟨o,e2,λv z=>by rw[d]at z;cases z⟩
 keep:=λi h h' l k=>by
  obtain⟨⟨g,f⟩,j⟩:=l;exact⟨⟨g,k e (by simp) _ f⟩,j.at λo q=>k it (by simp) o q⟩
 item:=by
  intro X D F G Y i pins s σ H E I B l J;subst D F G;obtain⟨xs,x,C,L⟩:=J;obtain⟨⟨g,f⟩,j⟩:=l;obtain⟨M,N,p,hz⟩:=I.list C;obtain⟨u,hu,ru⟩:=N.get L;refine wpAny_pyNext_enum_item f j p.isList (x:=u) (by simpa using hu) y λh' so si tu sz kp=>?_
  refine⟨_,rfl,wpAny_letOwnedTupleGo_enum (s:={s with heap:=h',toks:=s.toks+1}) so λn se O=>?_⟩
  have Q:∀b o,b∉[e,it]->s.heap.get? b=some o->n.get? b=some o:=λb o m q=>by
   have Z:b≠e:=λz=>m (by simp[z])
   have h3:b≠it:=λz=>m (by simp[z])
   exact O.extBut b o Z (kp b o Z h3 q)
  have A:e<s.heap.objs.size:=Heap.lt_size f;have R:n.get? s.heap.objs.size=some {cls:=.type "tuple",data:=.seq #[.int i s.toks,u]}:=O.extBut _ _ (Nat.ne_of_gt A) tu;have S:∃g,IsEnum n e it ((i+1:Nat):Int) g:=⟨u,by rw[show((i+1:Nat):Int)=(i:Int)+1 by omega];exact se⟩
  refine⟨.ref s.heap.objs.size,upd H s.heap.objs.size (.tup [.int i,x]),?_,rfl,⟨_,rfl,I.hok.fresh (Nat.le_refl _),λys hy=>⟨x,by rw[I.om hy C];exact L,rfl⟩⟩,⟨S,?_⟩,λb m=>?_⟩
  .have T:IsTup n s.heap.objs.size [Value.int i s.toks,u].toArray:=⟨_,R,rfl,_,rfl⟩
   have U:cw X.prog X.w (upd H s.heap.objs.size (.tup [.int i,x])) n s.heap.objs.size (.tup [.int i,x]):=⟨by rw[sizeLine_eq];simp,[.int i s.toks,u],.cons ⟨_,rfl⟩ (.cons ru .nil),T⟩
   have:=ji (s:=s) (h':=n) (t':=s.toks+1) I B Q (Nat.le_refl _) U;exact this
  .exact si.extBut O.extBut (Ne.symm y)
  .have V:b<s.heap.objs.size:=by
    rcases List.mem_cons.mp m with z|z
    .subst z;exact A
    .have z:b=it:=by simpa using z
     subst z;obtain⟨o,q,_⟩:=j;exact Heap.lt_size q
   rw[aJ (Nat.ne_of_lt V)];exact(B b m).1
 done:=by
  intro X D F G Y i pins s σ H E I B l J;subst D F G;obtain⟨xs,C,L⟩:=J;obtain⟨⟨g,f⟩,j⟩:=l;obtain⟨M,N,p,hz⟩:=I.list C;obtain⟨f0,f1,f2,f3,f4,f5⟩:=B it (by simp)
  have hl:=N.length;exact wpAny_pyNext_enum_end (I.ok.hd Y) f j p.isList (by simp;omega) λh' eb=>⟨rfl,I.turned (t':=s.toks) (λb o m e=>eb b o m e) f0 f1 f3 f4 f5⟩
 self:=λ_ _ _ _ _ l h=>by
  obtain⟨⟨g,f⟩,_⟩:=l;exact wpAny_pyIter_enum f h
def Ku(K:PySem.W.Frag)(c:TA):TI:=λd H R=>c d H λe b=>∃a,e=[.ref a]/\(∃f,jb K b a f)/\R (ON K a) b
theorem yx{X:Cx}{es:List Expr}{m:Nat}{c p pos:Pos}{a:Expr}{f:TA}(n:Gl X "enumerate")(o:X.mg "enumerate"=none)(t:PA X [a] f)(u:starEach [a] X.env=[(false,eval a X.env)]) :
  PI X (.Tuple es m c) (.Call (.Name "enumerate" p) [a] [] pos) (Ku X.K f):=by
 intro pins s g H R I h;refine Call_ (jY I n o boot_enumerate (PyProof.Rows.callWith_type1 (cC (t pos pins s g H _ I h) λG s1 ⟨J,i,e,w,q1⟩=>?_) u rfl))
 obtain⟨l,rfl,⟨L,x⟩,q⟩:=q1;cases w with
 |cons r y=>
  cases y;cases r;obtain⟨A,M,B,N⟩:=e.list x;refine call_enumerate_list B.isList λj k C O D=>wpAny_pyIter_enum (s:={s1 with heap:=j}) k ?_
  have E:L2.Inv X pins g i {s1 with heap:=j}:=e.kept (t':=s1.toks) D;refine⟨s1.heap.objs.size+1,[s1.heap.objs.size+1,s1.heap.objs.size],_,_,i,rfl,E,tT l _ _ (Nat.succ_ne_self _),⟨⟨_,k⟩,C⟩,λb F=>?_,q⟩
  have d:s1.heap.objs.size<=b:=by
   rcases List.mem_cons.mp F with z|z
   .rw[z];exact Nat.le_succ _
   .have z:b=s1.heap.objs.size:=by simpa using z
    rw[z];exact Nat.le_refl _
  exact e.uP d (e.hok.fresh d)
theorem ip:∀(ds:List D) (k:Nat),(dw k ds).length=ds.length
 |[],_=>rfl
 |d::ds,k=>by rw[dw,List.length_cons,List.length_cons,ip ds]
theorem jG:∀(ds:List D) (k i:Nat) (d:D),(dw k ds)[i]?=some d->∃x,ds[i]?=some x/\d=.tup [.int (k+i:Nat),x]
 |[],_,_,_,h=>by simp[dw]at h
 |d::ds,k,0,a,h=>by simp[dw]at h;exact⟨d,rfl,h.symm⟩
 |d::ds,k,i+1,a,h=>by
  simp only[dw,List.getElem?_cons_succ]at h;obtain⟨x,h1,h2⟩:=jG ds (k+1) i a h;exact⟨x,by simpa using h1,by rw[h2,show k+1+i=k+(i+1)by omega]⟩
theorem rN:∀{ds:List D}{xs:List Str}{Z:Addr->Prop}{H:Hp}{vs:List V}{us:List Value},f9 ds=some xs->aY Z H ds vs->Vals vs us->StrsAre us xs
 |[],xs,Z,H,vs,us,h,r,q=>by
  cases h;rw[r.nil_inv]at q;cases q;exact .nil
 |d::ds,xs,Z,H,vs,us,h,r,q=>by
  obtain⟨v,rs,rfl,a,b⟩:=r.cons_inv;cases d with
  |str x=>
   simp only[f9]at h;obtain⟨g,c,rfl⟩:=Option.map_eq_some_iff.mp h;simp only[Rep]at a;subst a;cases q with
   |cons e f=>
    obtain⟨t,rfl⟩:=e;exact .cons x t (rN c b f)
  |_=>cases h
def rJoin:V->List V->Hp->VK->Prop:=λx c H Q=>∃z Z b a y,x=.str z/\c=[y]/\Now Z H (.lst b) y/\f9 b=some a/\z.length<=16/\(a.map (·.length)).sum+a.length<=1048576/\Q (.str (Txt.join z a)) H
theorem yy{X:Cx}:D_ X "str.join" rJoin:=by
 intro pins s r H x w v A Q I b c h;obtain⟨z,Z,B,C,y,rfl,rfl,n,d,e,f,q⟩:=h;obtain⟨t,rfl⟩:=b;obtain⟨l,D,rfl,g,i⟩:=dj n;obtain⟨u,rfl,j⟩:=c.one;cases j;obtain⟨m,a,o,E⟩:=I.list (jv (K:=X.K) g);exact join_listW o.isList (by simpa using rN d i a) e f λp k=>⟨.str _,H,I.tok _,⟨p,rfl⟩,q⟩
theorem tU{X:Cx}:Il X "list.insert" rM:=by
 intro pins s B H x C v D Q I f g h;obtain⟨l,i,k,y,rfl,rfl,d,j,m,E,q⟩:=h;cases f;obtain⟨u,b,rfl,o,c⟩:=g.two;obtain⟨t,rfl⟩:=o;obtain⟨z,a,n,r,p,e⟩:=I.va d;refine call_meets F.slot_list_insert ⟨_,e,rfl⟩ F.entry_list_insert (F.args_list_insert_3 _ _ _) (AutoListH.list_insert_list_int_val_1 l a.toArray n k t b (by rw[fitsIndex_both j m];simp) (by rw[List.size_toArray];omega)) ⟨e,?_⟩
 refine⟨.non,_,I.ye (its':=mZ a k b) d e ?_ ?_ ?_,rfl,q⟩
 .have w:(if k<0 then (k+(a.toArray.size:Int)).toNat else min k.toNat a.toArray.size)=HT.gv a.length 0 (some k):=by rw[List.size_toArray];rfl
  show(a.toArray.extract 0 (if k<0 then (k+(a.toArray.size:Int)).toNat else min k.toNat a.toArray.size)).push b++a.toArray.extract (if k<0 then (k+(a.toArray.size:Int)).toNat else min k.toNat a.toArray.size)=_
  rw[w];unfold mZ;apply Array.ext';simp;exact List.take_of_length_le (by simp)
 .have A:HT.gv i.length 0 (some k)=HT.gv a.length 0 (some k):=by rw[p]
  unfold mZ;rw[A];exact(r.take _).append (.cons c (r.drop _))
 .unfold mZ
  simp only[List.length_append,List.length_cons,List.length_take,List.length_drop];omega
theorem yz{v a:V}{u:Value}(h:L2.RelV v u)(h':L2.RelV a u):v=a:=by
 cases v<;>cases a<;>simp only[L2.RelV]at h h'<;>first
  | (obtain⟨t,rfl⟩:=h;obtain⟨b,e⟩:=h';cases e;done)
  | (obtain⟨t,rfl⟩:=h;obtain⟨b,e⟩:=h';cases e;rfl)
  | (obtain⟨t,rfl⟩:=h;cases h';done)
  | (subst h;obtain⟨b,e⟩:=h';cases e;done)
  | (subst h;cases h';done)
  | (subst h;cases h';rfl)
  |rfl
theorem rO{H:Hp}{a:Addr}{u:HO}{vs:List V}(h:Rd H a (.lst vs))(h':Rd H a u)(b:∀o w,u≠.dr o w):u=.lst vs:=by
 rcases h with h|⟨o,h⟩<;>rcases h' with h' |⟨c,h'⟩<;>rw[h]at h'<;>cases h'<;>first|rfl|exact absurd rfl (b _ _)
theorem rP{H:Hp}{a:Addr}{u:HO}{vs:List V}(h:Rd H a (.tup vs))(h':Rd H a u)(b:∀o w,u≠.dr o w):u=.tup vs:=by
 rcases h with h|⟨o,h⟩<;>rcases h' with h' |⟨c,h'⟩<;>rw[h]at h'<;>cases h'<;>first|rfl|exact absurd rfl (b _ _)
mutual
theorem rQ{Z:Addr->Prop}{H:Hp}:∀{n:Nat}{d d':D}{v:V},aL n d=true->aL n d'=true->Rep Z H d v->Rep Z H d' v->d=d'
 |n,.non,d',v,_,o',h,h'=>by
  simp only[Rep]at h;subst h
  cases d'<;>simp only[Rep]at h'<;>first|rfl | (cases h';done) | (obtain⟨_,_,e,_⟩:=h';cases e)
 |n,.bl b,d',v,_,o',h,h'=>by
  simp only[Rep]at h;subst h
  cases d'<;>simp only[Rep]at h'<;>first | (cases h';rfl) | (cases h';done) | (obtain⟨_,_,e,_⟩:=h';cases e)
 |n,.int b,d',v,_,o',h,h'=>by
  simp only[Rep]at h;subst h
  cases d'<;>simp only[Rep]at h'<;>first | (cases h';rfl) | (cases h';done) | (obtain⟨_,_,e,_⟩:=h';cases e)
 |n,.str b,d',v,_,o',h,h'=>by
  simp only[Rep]at h;subst h
  cases d'<;>simp only[Rep]at h'<;>first | (cases h';rfl) | (cases h';done) | (obtain⟨_,_,e,_⟩:=h';cases e)
 |0,.lst ds,_,_,o,_,_,_=>by simp[aL]at o
 |0,.tup ds,_,_,o,_,_,_=>by simp[aL]at o
 |n+1,.lst ds,d',v,o,o',h,h'=>by
  simp only[Rep]at h;obtain⟨a,k,rfl,_,h1,h2⟩:=h;cases d' with
  |lst g=>
   simp only[Rep]at h';obtain⟨j,i,e,_,c,f⟩:=h';cases e;have:=rO h1 c (λ_ _ z=>by cases z)
   cases this;simp only[aL]at o o';rw[ko o o' h2 f]
  |tup g=>
   simp only[Rep]at h';obtain⟨j,i,e,_,c,f⟩:=h';cases e;have:=rO h1 c (λ_ _ z=>by cases z)
   cases this
  |dct _ _=>simp[aL]at o'
  |ref _=>simp[aL]at o'
  |_=>simp only[Rep]at h';cases h'
 |n+1,.tup ds,d',v,o,o',h,h'=>by
  simp only[Rep]at h;obtain⟨a,k,rfl,_,h1,h2⟩:=h;cases d' with
  |lst g=>
   simp only[Rep]at h';obtain⟨j,i,e,_,c,f⟩:=h';cases e;have:=rP h1 c (λ_ _ z=>by cases z)
   cases this
  |tup g=>
   simp only[Rep]at h';obtain⟨j,i,e,_,c,f⟩:=h';cases e;have:=rP h1 c (λ_ _ z=>by cases z)
   cases this;simp only[aL]at o o';rw[ko o o' h2 f]
  |dct _ _=>simp[aL]at o'
  |ref _=>simp[aL]at o'
  |_=>simp only[Rep]at h';cases h'
 |n,.dct _ _,_,_,o,_,_,_=>by cases n<;>simp[aL]at o
 |n,.ref _,_,_,o,_,_,_=>by cases n<;>simp[aL]at o
theorem ko{Z:Addr->Prop}{H:Hp}:∀{n:Nat}{ds a:List D}{vs:List V},ds.all (aL n)=true->a.all (aL n)=true->aY Z H ds vs->aY Z H a vs->ds=a
 |n,[],a,vs,_,_,h,h'=>by
  rw[h.nil_inv]at h';cases a with
  |nil=>rfl
  |cons d r=>obtain⟨_,_,e,_⟩:=h'.cons_inv;cases e
 |n,d::ds,a,vs,o,b,h,h'=>by
  obtain⟨v,r,rfl,g,i⟩:=h.cons_inv;cases a with
  |nil=>exact absurd h'.nil_inv (by simp)
  |cons j a=>
   obtain⟨k,l,e,c,f⟩:=h'.cons_inv;cases e;simp only[List.all_cons,Bool.and_eq_true]at o b;rw[rQ o.1 b.1 g c,ko o.2 b.2 i f]
end
def vC:V->List V->Hp->VK->Prop:=λx b H Q=>∃Z a d y j,b=[y]/\Now Z H (.lst a) x/\Now Z H d y/\aL 8 d=true/\a.all (aL 8)=true/\a.findIdx? (λe=>ey e d)=some j/\Q (.int j) H
theorem iQ{Z:Addr->Prop}{H:Hp}{ds:List D}{vs:List V}{a:List Value}{m:Nat}(r:aY Z H ds vs)(q:Vals vs a)(c:m<a.length)(e:m<ds.length):∃v,Rep Z H ds[m] v/\L2.RelV v a[m]:=by
 obtain⟨v,f,g⟩:=r.get (i:=m) (d:=ds[m]) (by simp[e])
 obtain⟨u,b,h⟩:=q.get f;rw[List.getElem?_eq_getElem c]at b;cases b;exact⟨v,g,h⟩
theorem vD{X:Cx}(hu:X.A.units+64<cLine):D_ X "list.index" vC:=by
 intro pins s σ H x vs v us Q I R S h;obtain⟨Z,i,d,y,j,rfl,T,U,o1,o2,V,q⟩:=h;obtain⟨l,ws,rfl,Y,z⟩:=dj T;cases R;obtain⟨u,rfl,ru⟩:=S.one;obtain⟨a,f,pl,hz⟩:=I.list (jv (K:=X.K) Y);obtain⟨B,he,C⟩:=List.findIdx?_eq_some_iff_getElem.mp V;have hl:=f.length;have a0:=z.length;obtain⟨o,n,M,N,k,D⟩:=pl;have g:∀m (c:m<i.length),aL 8 i[m]=true:=λm c=>List.all_eq_true.mp o2 _ (List.getElem_mem c)
 have t:j<a.length:=by omega
 classical
 let e:Value->Bool:=λw=>decide (∃m,∃(c:m<a.length) (k:m<i.length),a[m]=w/\ey i[m] d=true)
 have p:∀m (c:m<a.length) (k:m<i.length),e a[m]=ey i[m] d:=λm c k=>by
  cases E:ey i[m] d with
  |true=>exact decide_eq_true ⟨m,c,k,rfl,E⟩
  |false=>
   refine decide_eq_false ?_;rintro⟨m',r,b,e1,O⟩;obtain⟨v1,G,J⟩:=iQ z f c k;obtain⟨v2,r2,P⟩:=iQ z f r b;rw[e1]at P;have:=yz J P;subst this;rw[rQ (g m k) (g m' b) G r2]at E;rw[E]at O;cases O
 refine call_meets F.slot_list_index ⟨_,M,N⟩ F.entry_list_index (F.args_list_index_2 _ _)
  (SeqAt.list_indexAt l a.toArray n none o.slots u e j (by rw[List.size_toArray];exact t) (by rw[sizeLine_eq]at hz;omega) ?_ ?_) ⟨?_,λw hw=>?_,?_⟩
 .show e a[j]=true
  rw[p j t B];exact he
 .intro m c L
  have r:m<a.length:=by simpa using c
  show e a[m]=false
  rw[p m r (by omega)]
  simpa using C m L
 .rw[M]
  obtain⟨c',d',dt,sl⟩:=o;cases N;cases k;cases D;rfl
 .obtain⟨m,c,rfl⟩:=List.mem_iff_getElem.mp (show w∈a by simpa using hw)
  have b:m<i.length:=by omega
  rw[p m c b];obtain⟨v1,G,J⟩:=iQ z f c b;exact fo I 8 _ _ _ _ _ (by simp[Around.in1];omega) (g m b) o1 (fP I G.now J (g m b)) (fP I U ru o1)
 .exact⟨.int j,H,I.tok _,⟨_,rfl⟩,q⟩
end Mir
namespace Mir
open PySem PySem.Spec PyProof.Rows L2
section
variable{X:Cx}{Γ:lJ}{bw:Bool}{a b:Expr}{rest:List Expr}{ca cb:Ex}{pos:Pos}
theorem yA{i tb:TE}(j:PE X a i)(k:PE X (.BoolOp .And (b::rest) pos) tb):PE X (.BoolOp .And (a::b::rest) pos) (λe H Q=>i e H λx f=>∃c,oq X.K x f c/\if c=true then tb e f Q else Q x f):=by
 intro pins s e H Q I h;refine BoolOp_and (cC (j pins s e H _ I h) λv l ⟨x,f,I1,r1,c,t1,q1⟩=>?_)
 refine cC (mQ pins l e f x v (λd g=>d=c/\g=f) I1 r1 ⟨c,t1,rfl,rfl⟩) λd m ⟨g,I2,e1,e2⟩=>?_
 subst e1 e2;cases d with
 |true=>exact k pins m e g Q I2 q1
 |false=>exact⟨x,g,I2,r1,q1⟩
theorem Cf{i tb:TE}(j:PE X a i)(k:PE X (.BoolOp .Or (b::rest) pos) tb):PE X (.BoolOp .Or (a::b::rest) pos) (λe H Q=>i e H λx f=>∃c,oq X.K x f c/\if c=true then Q x f else tb e f Q):=by
 intro pins s e H Q I h;refine BoolOp_or (cC (j pins s e H _ I h) λv l ⟨x,f,I1,r1,c,t1,q1⟩=>?_)
 refine cC (mQ pins l e f x v (λd g=>d=c/\g=f) I1 r1 ⟨c,t1,rfl,rfl⟩) λd m ⟨g,I2,e1,e2⟩=>?_
 subst e1 e2;cases d with
 |false=>exact k pins m e g Q I2 q1
 |true=>exact⟨x,g,I2,r1,q1⟩
theorem yB{g:TE}(i:PE X a g):PE X (.UnaryOp .Not a pos) (λe H Q=>g e H λx b=>∃c,oq X.K x b c/\Q (.bl (!c)) b):=by
 intro pins s e H Q I h;refine UnaryOp_ (cC (i pins s e H _ I h) λv j ⟨x,b,I1,r1,c,t1,q1⟩=>?_)
 refine not_of (cC (mQ pins j e b x v (λd f=>d=c/\f=b) I1 r1 ⟨c,t1,rfl,rfl⟩) λd k ⟨f,I2,e1,e2⟩=>?_)
 subst e1 e2;exact⟨.bl (!d),f,I2,rfl,q1⟩
theorem ef.nw{a:Bool}{Z:Addr->Prop}{b H:Hp}{d:D}{v:V}(h:ef bw a Z b H d v):Now Z H d v:=by
 cases bw with
 |true=>exact h.now
 |false=>exact(h.weak (bw:=true)).now
end
noncomputable def Fg(a:Scope)(x:Str):Bool:=match a.names.lookup x with
 |some .local|some .cell|some .free=>true
 |_=>false
noncomputable def vE(a:Scope)(x:Str):Bool:=match a.names.lookup x with
 |some .local|some .cell=>true
 |_=>false
noncomputable def yC(a:Scope)(x:Str):Bool:=a.names.lookup x==some .globalImplicit
noncomputable def okN(x:Str):Bool := !(x==("__debug__":Str))&&!(x==("__classdict__":Str))&&!(x==("__name__":Str))
noncomputable def yD(N:List Str)(x:Str):Option Nat:=N.findIdx? (· == x)
def mf(a:Scope)(N:List Str)(x:Str):Option Nat:=if Fg a x&&okN x then yD N x else none
def vF(x:Str):Option Ty:=[Ty.int,.str,.bool,.list,.tuple,.dict].find? (λt=>t.nm==x)
noncomputable def isStar:Expr->Bool
 |.Starred _ _=>true
 |_=>false
noncomputable def isSlice:Expr->Bool
 |.Slice _ _ _ _=>true
 |_=>false
noncomputable def isSet:Expr->Bool
 |.Set _ _ _=>true
 |_=>false
noncomputable def qz(scope a:Scope):Scope:={scope with names:=scope.names.map λ(n,k)=>if (k==.free&&a.kind==.function&&a.names.lookup n==some .cell)then (n,.cell)else (n,k)}
noncomputable def dE(scope:Scope):List Str:=(scope.names.filter λy=>y.2==.free).map (·.1)
def qA(a:Scope)(N:List Str):List Str->Option (List Nat)
 |[]=>some []
 |x::xs=>do let i ←mf a N x;let b ←qA a N xs;some (i::b)
def vG(scope:Scope)(sc:Scope)(x:Str):Bool:=
 scope.kind==.function&&decide ((scope.names.map (·.1)).Nodup)&&scope.names.all (λy=>!(y.2==.local)||scope.names.lookup y.1==some .local) &&
 scope.names.all (λy=>!(y.2==.free)||(sc.names.lookup y.1==some .cell||sc.names.lookup y.1==some .free)&&scope.names.lookup y.1==some .free) &&
 (scope.names.lookup x==some .local||scope.names.lookup x==some .cell)&&decide ((x::dE scope).Nodup)
noncomputable def kq:List Comprehension->Option (Str×Pos×Expr×List Expr)
 |[⟨.Name x p,iter,ifs,0⟩]=>some (x,p,iter,ifs)
 |_=>none
theorem mj{b:List Comprehension}{x:Str}{p:Pos}{iter:Expr}{a:List Expr}(h:kq b=some (x,p,iter,a)):b=[⟨.Name x p,iter,a,0⟩]:=by
 unfold kq at h;split at h
 .cases h;rfl
 .cases h
theorem vH{N:List Str}{x:Str}{i:Nat}(h:yD N x=some i):N[i]?=some x:=by
 unfold yD at h;obtain⟨a,b,_⟩:=List.findIdx?_eq_some_iff_getElem.mp h;rw[List.getElem?_eq_getElem a,eq_of_beq b]
theorem rR{c:Scope}{N:List Str}{x:Str}{i:Nat}(h:mf c N x=some i):N[i]?=some x/\D8 c x/\(x==("__debug__":Str))=false/\(x==("__classdict__":Str))=false:=by
 unfold mf at h;split at h
 .rename_i a
  simp only[Bool.and_eq_true,okN,Bool.not_eq_true']at a;refine⟨vH h,?_,a.2.1.1,a.2.1.2⟩;have b:=a.1;unfold Fg at b;unfold D8;split at b
  .rename_i q;exact .inl q
  .rename_i q;exact .inr (.inl q)
  .rename_i q;exact .inr (.inr q)
  .cases b
 .cases h
theorem rS{x:Str}(h:okN x=true):(x==("__debug__":Str))=false/\(x==("__classdict__":Str))=false/\x≠"__name__":=by
 simp only[okN,Bool.and_eq_true,Bool.not_eq_true']at h;refine⟨h.1.1,h.1.2,λe=>?_⟩
 rw[e]at h;simp at h
noncomputable def eg:List Str:=["len","all","any","list","tuple","int","min","max","bool","isinstance","str","dict","range","sorted","enumerate","reversed","set"]
theorem cD{e:Expr}{es:List Expr}{env:Env}(h:isStar e=false):starEach (e::es) env=(false,eval e env)::starEach es env:=by
 cases e<;>first|rfl | (cases h)
theorem cG{env:Env}{pos:Pos}:∀{es:List Expr},(∀e∈es,isStar e=false)->(backTo pos (starEach es env)).any (·.1)=false
 |[],_=>rfl
 |e::es,h=>by
  rw[cD (h e (by simp))]
  show(false||(backTo pos (starEach es env)).any (·.1))=false
  rw[cG λz hz=>h z (by simp[hz])]
  rfl
section
variable{X:Cx}{Γ:lJ}{T:Tab}{k:Nat}{sc:Scope}{N:List Str}
theorem Fh{x:Str}{t:Ty}(h:vF x=some t):x=t.nm/\t.nm∈eg:=by
 unfold vF at h;have a:=List.find?_some h;exact⟨(eq_of_beq a).symm,by cases t<;>decide⟩
end
section
variable{X:Cx}{Γ:lJ}{T:Tab}{k:Nat}{sc:Scope}{N:List Str}
theorem vI{d:Scope}{N:List Str}:∀{xs:List Str}{a:List Nat},qA d N xs=some a->xs.length=a.length/\∀(j i:Nat) (x:Str),xs[j]?=some x->a[j]?=some i->N[i]?=some x
 |[],a,h=>by cases h;exact⟨rfl,λj i x e=>by simp at e⟩
 |x::xs,a,h=>by
  simp only[qA,Option.bind_eq_bind]at h;obtain⟨i,h1,h⟩:=Option.bind_eq_some_iff.mp h;obtain⟨f,g,h⟩:=Option.bind_eq_some_iff.mp h;cases h;obtain⟨k,l⟩:=vI g;refine⟨by rw[List.length_cons,List.length_cons,k],λj m y b c=>?_⟩
  cases j with
  |zero=>simp at b c;subst b c;exact(rR h1).1
  |succ j=>exact l j m y (by simpa using b) (by simpa using c)
theorem kr{iter:Expr}{env:Env}(h:isSet iter=false):∀x,foldedSetIterable iter env x=pure x:=by
 intro x;cases iter<;>first|rfl | (simp[isSet]at h)
theorem oN{op:CmpOp}{b:Expr}(h:isSet b=false):behindInMarks op b=false:=by
 cases b<;>first|rfl | (simp[isSet]at h)
end
def oO(a:Scope)(N:List Str)(x:Str):Option Nat:=if vE a x&&okN x then yD N x else none
noncomputable def ku:Expr->Bool
 |.ListComp .. |.SetComp .. |.DictComp ..=>true
 |_=>false
noncomputable def oP(a:Scope)(x:Str)(b:Pos)(e:Expr):Bool:=match e with
 |.ListComp _ _ s _=>a.names.lookup x==some .local&&b.line==e.pos.line&&!(s.names.any λ(n,k)=>n==x&&(k==.local||k==.cell))
 |_=>false
noncomputable def eH:List Expr->Option (List (Str×Pos))
 |[]=>some []
 |.Name x p::r=>(eH r).map ((x,p):: ·)
 |_=>none
def kx(a:Scope)(N:List Str):List (Str×Pos)->Option (List Nat)
 |[]=>some []
 |x::xs=>do let i ←oO a N x.1;let b ←kx a N xs;some (i::b)
noncomputable def vJ:Expr->Bool
 |.Call .. |.Name .. |.Subscript ..=>true
 |_=>false
section
variable{X:Cx}{Γ:lJ}{T:Tab}{k:Nat}{sc:Scope}{N:List Str}
theorem jj:∀{es:List Expr}{nms:List (Str×Pos)},eH es=some nms->es=nms.map λx=>Expr.Name x.1 x.2
 |[],_,h=>by cases h;rfl
 |e::es,nms,h=>by
  unfold eH at h;split at h
  .rename_i e;cases e
  .rename_i x p r q
   cases q;obtain⟨ns,h1,h⟩:=Option.map_eq_some_iff.mp h;subst h;rw[jj h1];rfl
  .cases h
theorem mn(env:Env):∀(nms:List (Str×Pos)),(assignEach (nms.map λx=>Expr.Name x.1 x.2) env).length=nms.length/\(assignEach (nms.map λx=>Expr.Name x.1 x.2) env).findIdx? (·.1)=none
 |[]=>⟨rfl,rfl⟩
 |x::r=>by
  obtain⟨h1,h2⟩:=mn env r;refine⟨?_,?_⟩
  .show(assignEach (r.map λx=>Expr.Name x.1 x.2) env).length+1=_
   rw[h1];rfl
  .show List.findIdx? (·.1) ((false,_)::assignEach (r.map λx=>Expr.Name x.1 x.2) env)=none
   rw[List.findIdx?_cons,h2];rfl
end
def bW(N ps:List Str)(a:Scope):Bool:=
 a.kind==.function&&!a.isCoroutine&&!a.isGenerator&&decide N.Nodup&&decide (N.take ps.length=ps)&&ps.all (vE a)&&a.names.all λy=>!(y.2==.free)
theorem nq{N ps:List Str}{b:Scope}(h:bW N ps b=true):jB N ps b:=by
 simp only[bW,Bool.and_eq_true,Bool.not_eq_true',decide_eq_true_eq,List.all_eq_true,beq_iff_eq]at h;obtain⟨⟨⟨⟨⟨⟨c,d⟩,f⟩,g⟩,i⟩,j⟩,k⟩:=h;refine⟨c,d,f,g,i,λx l=>?_,λy m e=>?_⟩
 .have a:=j x l
  unfold vE at a;split at a
  .rename_i q;exact .inl q
  .rename_i q;exact .inr q
  .cases a
 .have:=k y m
  rw[e]at this;exact absurd this (by decide)
section
variable{P:Program}{w:World}{K:PySem.W.Frag}{mg:Str->Option Value}{base:Heap}{Γ:lJ}{T:Tab}{k:Nat}
end
noncomputable def yE:Value->Bool
 |.type x=>x=="list"
 |_=>false
def oQ(K:PySem.W.Frag):Bool:=K.all λp=>!yE p.2.cls
theorem oT:∀{K:PySem.W.Frag}{a:Addr}{o:Obj},K.lookup a=some o->(a,o)∈K
 |[],_,_,h=>by cases h
 | (b,p)::K,a,o,h=>by
  rw[List.lookup_cons]at h;split at h
  .rename_i e
   cases h;rw[eq_of_beq e];simp
  .exact List.mem_cons_of_mem _ (oT h)
theorem Fi{K:PySem.W.Frag}(b:oQ K=true){H:Hp}{a:Addr}{xs:List V}(h:jb K H a xs):Rd H a (.lst xs):=by
 rcases h with h|⟨o,c,n,d,e,_⟩
 .exact h
 .have f:=oT d
  have:=List.all_eq_true.mp b _ f;rw[e]at this;exact absurd this (by decide)
noncomputable def vK(K:PySem.W.Frag)(x:Str):Bool:=match PySem.W.nsIn K mainGlobals x with
 |some none=>true
 |_=>false
def rT(K:PySem.W.Frag):Bool:=eg.all (vK K)
theorem vL{K:PySem.W.Frag}{h:Heap}{mg:Str->Option Value}(X:K.In h)(G:h.Ns mainGlobals mg)(a:rT K=true):∀x∈eg,mg x=none:=λx b=>by
 have:=List.all_eq_true.mp a x b;unfold vK at this;split at this
 .rename_i q;exact PySem.W.mg_none_of X G q
 .cases this
section
variable{prog:Program}{w:World}{A:Around}{E:Value->Shared->Prop}{s:Shared}
end
end Mir
namespace L2
open PySem PySem.Spec PyProof.Rows PySem.W
def Fj(X:Cx)(f:Addr)(vs:List V)(a:St)(H:Hp)(Q:VK):Prop:=∀(pins:List (Addr×Obj)) (s:Shared) (b:List Value),Inv X pins a H s->Vals vs b->wpAny (model X.prog X.w) X.A (call (.ref f) b) (EP X pins a Q) X.xe s
noncomputable def Cx.fz(X:Cx)(xs:List Str):Cx:={X with fn:=λy=>X.fn y&&!(xs.contains y)}
section
variable{X:Cx}{pins:List (Addr×Obj)}{σ:St}{H:Hp}{s:Shared}
end
end L2
namespace L2
open PySem PySem.Spec PyProof.Rows
theorem KT.length{H:Hp}{l:List (List Key×V)}{m:List (List Key×Addr×Value)}(q:KT H l m):m.length=l.length:=by
 induction q with
 |nil=>rfl
 |cons _ _ a=>rw[List.length_cons,List.length_cons,a]
end L2
namespace HT
open PySem PyProof.Rows
section
variable{prog:Program}{w:World}{A:Around}{E:Value->Shared->Prop}{s:Shared}
end
end HT
namespace L2
open PySem PySem.Spec PyProof.Rows
section
variable{X:Cx}
end
end L2
namespace Mir
open PySem PySem.Spec PyProof.Rows L2
theorem dZ{a b:Str}:bZ a b=true↔a.cps.toList<=b.cps.toList:=by
 unfold bZ;rw[Bool.not_eq_true',decide_eq_false_iff_not];exact List.not_lt
theorem eT(a b c:Str)(d:bZ a b=true)(e:bZ b c=true):bZ a c=true:=dZ.mpr (List.le_trans (dZ.mp d) (dZ.mp e))
theorem f_(a b:Str):(bZ a b||bZ b a)=true:=by
 rw[Bool.or_eq_true,dZ,dZ];exact List.le_total _ _
theorem ky{a b:Str}(c:bZ a b=true)(d:bZ b a=true):a=b:=by
 have e:=List.le_antisymm (dZ.mp c) (dZ.mp d);cases a;cases b
 simp only[Str.mk.injEq];exact Array.toList_inj.mp e
theorem mq:∀{d:List Str}{p:Str},risingS p d=true->(p::d).Pairwise λa b=>bZ a b=true
 |[],p,_=>by simp
 |x::r,p,h=>by
  simp only[risingS,Bool.and_eq_true,Bool.not_eq_true',ltCps_eq]at h;have c:bZ p x=true:=by unfold bZ;rw[h.1];rfl
  have e:=mq h.2;refine List.pairwise_cons.mpr ⟨λy hy=>?_,e⟩
  rcases List.mem_cons.mp hy with rfl|hy
  .exact c
  .exact eT _ _ _ c ((List.pairwise_cons.mp e).1 y hy)
theorem vM{d c:List Str}(e:c.Perm d)(f:sortedS c=true):c=d.mergeSort bZ:=by
 refine List.Perm.eq_of_pairwise (le:=λa b=>bZ a b=true) (λa b _ _ g h=>ky g h) ?_ (List.pairwise_mergeSort eT f_ d) (e.trans (List.mergeSort_perm d bZ).symm)
 cases c with
 |nil=>exact List.Pairwise.nil
 |cons x r=>exact mq f
theorem vO{ns d:List Int}(g:d.Perm ns)(i:d.Pairwise (· <= ·)):d=ns.mergeSort λa b=>decide (a<=b):=by
 refine List.Perm.eq_of_pairwise (le:=λa b=>decide (a<=b)=true) (λa b _ _ e f=>?_) (i.imp λh=>by simpa using h) (List.pairwise_mergeSort (λa b c e f=>?_) (λa b=>?_) ns) (g.trans (List.mergeSort_perm ns _).symm)
 .simp at e f;omega
 .simp at e f ⊢;omega
 .simp;omega
theorem kz:∀{a:List Str}{us:List Value},Vals (a.map V.str) us->StrsAre us a
 |[],_,r=>by cases r;exact .nil
 |x::a,_,r=>by
  cases r with
  |cons h t=>
   obtain⟨tk,rfl⟩:=h;exact .cons _ _ (kz t)
theorem mr:∀{us:List Value}{a:List Str},StrsAre us a->Vals (a.map V.str) us
 |_,_,.nil=>.nil
 |_,_,.cons x t h=>.cons ⟨t,rfl⟩ (mr h)
theorem tV{X:Cx}:ee X (.builtin "sorted") (λxs H Q=>∃a,xs=[.ref a]/\((∃f:List Str,jb X.K H a (f.map V.str)/\f.length<64/\∀l,H l=none->Q (.ref l) (upd H l (.lst ((f.mergeSort bZ).map V.str)))) \/
  ∃ns:List Int,jb X.K H a (ns.map V.int)/\ns.length<64/\∀l,H l=none->Q (.ref l) (upd H l (.lst ((ns.mergeSort λa b=>decide (a<=b)).map V.int))))):=by
 intro pins s E H xs F Q I r h;obtain⟨a,rfl,h⟩:=h;obtain⟨u,rfl,z⟩:=vals1 r;cases z;have fresh:H (s.heap.objs.size+1)=none:=I.hok.fresh (Nat.le_succ _);rcases h with ⟨f,i,j,q⟩|⟨ns,i,j,q⟩
 .obtain⟨c,g,k,A⟩:=I.list i
  have m:=g.length;rw[List.length_map]at m;refine sorted_strs (vs:=c) k.isList (kz g) (by omega) λd B n p t=>?_
  obtain⟨e,w⟩:=sortedAll_at s.heap c d;have x:=vM p t;subst x;refine⟨.ref (s.heap.objs.size+1),_,I.laid (t':=s.toks) (o:=.lst ((f.mergeSort bZ).map V.str)) (λb C y=>sortedAll_old y) (Nat.le_succ _) ?_,rfl,q _ fresh⟩
  exact⟨by rw[List.length_map,List.length_mergeSort,sizeLine_eq];omega,d.toList,e,mr n,w⟩
 .obtain⟨c,g,k,A⟩:=I.list i
  have m:=g.length;rw[List.length_map]at m;refine sorted_ints (vs:=c) k.isList (intsAre_of g) (by omega) λd D n p t=>?_
  obtain⟨e,w⟩:=sortedAll_at s.heap c d;have x:=vO p t;subst x;refine⟨.ref (s.heap.objs.size+1),_,I.laid (t':=s.toks) (o:=.lst ((ns.mergeSort λa b=>decide (a<=b)).map V.int)) (λb C y=>sortedAll_old y) (Nat.le_succ _) ?_,rfl,q _ fresh⟩
  exact⟨by rw[List.length_map,List.length_mergeSort,sizeLine_eq];omega,d.toList,e,iM n,w⟩
end Mir
namespace Mir
open PySem L2
structure Kv where
 name:Str
 qual:Str
 params:Arguments
 body:List Stmt
 scope:Scope
 ps:List Str
 cn:List Str
class aH where
 tab:Nat->Kv
 ta:Nat->Addr
inductive Cell where
 |lst (ds:List D)
 |dK (kvs:List (Key×D))
 |dT (kvs:List (List Key×D))
 |dF (kvs:List (Key×D))
 |ins (C:Str) (fs:List (Str×D))
 |fn (j:Nat) (qB:List D)
 |tb (j:Nat) (p:Pos) (b:Bool)
abbrev aD:=List Cell
inductive ay (α:Type) where
 |ok (a:α) (Ω:aD)
 |exc (x:D) (Ω:aD)
 |bad
noncomputable def ay.bind{b c:Type}:ay b->(b->aD->ay c)->ay c
 |.ok a Ω,f=>f a Ω
 |.exc x Ω,_=>.exc x Ω
 |.bad,_=>.bad
abbrev aR:=List (Option D)
inductive aI {α β:Type} (R:α->β->Prop):List α->List β->Prop where
 |nil:aI R [] []
 |cons {a b as bs}:R a b->aI R as bs->aI R (a::as) (b::bs)
namespace aI
variable{α β:Type}{R S:α->β->Prop}
theorem length:∀{a:List α}{bs:List β},aI R a bs->bs.length=a.length
 |_,_,.nil=>rfl
 |_,_,.cons _ t=>by rw[List.length_cons,List.length_cons,length t]
theorem imp(h:∀a b,R a b->S a b):∀{c:List α}{bs:List β},aI R c bs->aI S c bs
 |_,_,.nil=>.nil
 |_,_,.cons r t=>.cons (h _ _ r) (imp h t)
theorem get:∀{c:List α}{bs:List β}{i:Nat}{a:α},aI R c bs->c[i]?=some a->∃b,bs[i]?=some b/\R a b
 |_,_,_,_,.nil,e=>by simp at e
 |_,_,0,_,.cons r _,e=>by simp at e;subst e;exact⟨_,rfl,r⟩
 |_,_,i+1,a,.cons _ t,e=>by
  obtain⟨u,h1,h2⟩:=get (i:=i) (a:=a) t (by simpa using e)
  exact⟨u,by simpa using h1,h2⟩
theorem Cg:∀{c:List α}{bs:List β}{i:Nat}{b:β},aI R c bs->bs[i]?=some b->∃a,c[i]?=some a/\R a b
 |_,_,_,_,.nil,e=>by simp at e
 |_,_,0,_,.cons r _,e=>by simp at e;subst e;exact⟨_,rfl,r⟩
 |_,_,i+1,a,.cons _ t,e=>by
  obtain⟨u,h1,h2⟩:=Cg (i:=i) (b:=a) t (by simpa using e)
  exact⟨u,by simpa using h1,h2⟩
theorem append:∀{a b:List α}{bs ds:List β},aI R a bs->aI R b ds->aI R (a++b) (bs++ds)
 |_,_,_,_,.nil,h=>h
 |_,_,_,_,.cons r t,h=>.cons r (append t h)
theorem one{a:α}{b:β}(h:R a b):aI R [a] [b]:=.cons h .nil
theorem take:∀{a:List α}{bs:List β} (n:Nat),aI R a bs->aI R (a.take n) (bs.take n)
 |_,_,0,_=>by simp;exact .nil
 |_,_,n+1,.nil=>by simp;exact .nil
 |_,_,n+1,.cons r t=>.cons r (take n t)
theorem drop:∀{a:List α}{bs:List β} (n:Nat),aI R a bs->aI R (a.drop n) (bs.drop n)
 |_,_,0,h=>h
 |_,_,n+1,.nil=>by simp;exact .nil
 |_,_,n+1,.cons r t=>drop n t
theorem reverse:∀{a:List α}{bs:List β},aI R a bs->aI R a.reverse bs.reverse
 |_,_,.nil=>.nil
 |_,_,.cons r t=>by rw[List.reverse_cons,List.reverse_cons];exact(reverse t).append (one r)
theorem set{a:α}{b:β}(r:R a b):∀{c:List α}{bs:List β} (n:Nat),aI R c bs->aI R (c.set n a) (bs.set n b)
 |_,_,_,.nil=>.nil
 |_,_,0,.cons _ t=>.cons r t
 |_,_,n+1,.cons q t=>.cons q (set r n t)
theorem nil_inv{bs:List β}(h:aI R [] bs):bs=[]:=by cases h;rfl
theorem cons_inv{a:α}{c:List α}{bs:List β}(h:aI R (a::c) bs):∃b r,bs=b::r/\R a b/\aI R c r:=by
 cases h with
 |cons r t=>exact⟨_,_,rfl,r,t⟩
end aI
mutual
noncomputable def au(c:List Addr)(Z:Addr->Prop)(H:Hp):D->V->Prop
 |.non,v=>v=.non
 |.bl b,v=>v=.bl b
 |.int i,v=>v=.int i
 |.str x,v=>v=.str x
 |.lst ds,v=>∃a vs,v=.ref a/\Z a/\Rd H a (.lst vs)/\eh c Z H ds vs
 |.tup ds,v=>∃a vs,v=.ref a/\Z a/\H a=some (.tup vs)/\eh c Z H ds vs
 |.dct _ _,_=>False
 |.ref n,v=>∃a,c[n]?=some a/\v=.ref a
noncomputable def eh(b:List Addr)(Z:Addr->Prop)(H:Hp):List D->List V->Prop
 |[],a=>a=[]
 |d::ds,a=>∃v r,a=v::r/\au b Z H d v/\eh b Z H ds r
end
theorem cA{a:List Addr}{Z:Addr->Prop}{H:Hp}:∀{ds:List D}{vs:List V},eh a Z H ds vs↔aI (au a Z H) ds vs
 |[],vs=>by
  simp only[eh];exact⟨λh=>by subst h;exact .nil,λh=>h.nil_inv⟩
 |d::ds,vs=>by
  simp only[eh];constructor
  .rintro⟨v,r,rfl,h1,h2⟩
   exact .cons h1 (cA.mp h2)
  .intro h
   obtain⟨v,r,rfl,h1,h2⟩:=h.cons_inv;exact⟨v,r,rfl,h1,cA.mpr h2⟩
section
variable{α α':List Addr}{Z Z':Addr->Prop}{H H':Hp}
mutual
theorem au.mono(p:∀(n:Nat) (a:Addr),α[n]?=some a->α'[n]?=some a)(k:∀a o,Z a->H a=some o->H' a=some o)(z:∀a,Z a->Z' a):∀{d:D}{v:V},au α Z H d v->au α' Z' H' d v
 |.non,_,h=>by simpa only [au]using h
 |.bl _,_,h=>by simpa only [au]using h
 |.int _,_,h=>by simpa only [au]using h
 |.str _,_,h=>by simpa only [au]using h
 |.lst ds,v,h=>by
  simp only[au]at h ⊢;obtain⟨a,c,e,b,f,g⟩:=h;exact⟨a,c,e,z a b,m8 (λo=>k a o b) f,eh.mono p k z g⟩
 |.tup ds,v,h=>by
  simp only[au]at h ⊢;obtain⟨a,c,e,b,f,g⟩:=h;exact⟨a,c,e,z a b,k a _ b f,eh.mono p k z g⟩
 |.dct i ds,v,h=>by simp only[au]at h
 |.ref n,v,h=>by
  simp only[au]at h ⊢;obtain⟨a,e,h⟩:=h;exact⟨a,p n a e,h⟩
theorem eh.mono(p:∀(n:Nat) (a:Addr),α[n]?=some a->α'[n]?=some a)(k:∀a o,Z a->H a=some o->H' a=some o)(z:∀a,Z a->Z' a):∀{ds:List D}{vs:List V},eh α Z H ds vs->eh α' Z' H' ds vs
 |[],_,h=>by simpa only [eh]using h
 |d::ds,vs,h=>by
  simp only[eh]at h ⊢;obtain⟨v,r,e,h1,h2⟩:=h;exact⟨v,r,e,au.mono p k z h1,eh.mono p k z h2⟩
end
end
def fU{K:Type}(R:D->V->Prop)(kvs:List (K×D))(a:List (K×V)):Prop:=aI (λp q=>p.1=q.1/\R p.2 q.2) kvs a
variable [aH]
def gG(κ:Str->Addr->Prop)(R:D->V->Prop)(H:Hp)(a:Addr):Cell->Prop
 |.lst ds=>∃vs,H a=some (.lst vs)/\aI R ds vs
 |.dK kvs=>∃b,H a=some (.dK b)/\fU R kvs b
 |.dT kvs=>False
 |.dF kvs=>∃o b,H a=some (.dr o (.dK b))/\fU R kvs b
 |.ins C fs=>∃d e c,κ C d/\H a=some (.ins d e c)/\fU R fs c
 |_=>False
theorem fU.imp{K:Type}{R S:D->V->Prop}(h:∀d v,R d v->S d v){kvs:List (K×D)}{c:List (K×V)}(k:fU R kvs c):fU S kvs c:=aI.imp (λa b q=>⟨q.1,h _ _ q.2⟩) k
theorem gG.imp{κ:Str->Addr->Prop}{R S:D->V->Prop}{H m:Hp}{a:Addr}{c:Cell}(h:∀d v,R d v->S d v)(e:∀o,H a=some o->m a=some o)(z:∀b o u,H b=some (.dr o u)->m b=some (.dr o u))(k:gG κ R H a c):gG κ S m a c:=by
 cases c with
 |lst s=>obtain⟨f,g,i⟩:=k;exact⟨f,e _ g,i.imp h⟩
 |dK l=>obtain⟨f,g,i⟩:=k;exact⟨f,e _ g,i.imp h⟩
 |dT l=>exact k.elim
 |dF l=>obtain⟨o,f,g,i⟩:=k;exact⟨o,f,e _ g,i.imp h⟩
 |ins C t=>obtain⟨n,q,f,r,g,i⟩:=k;exact⟨n,q,f,r,e _ g,i.imp h⟩
 |fn j qB=>exact k.elim
 |tb j p b=>exact k.elim
theorem gG.some{κ:Str->Addr->Prop}{R:D->V->Prop}{H:Hp}{a:Addr}{c:Cell}(k:gG κ R H a c):H a≠none:=by
 cases c with
 |lst h=>obtain⟨f,d,g⟩:=k;rw[d];simp
 |dK e=>obtain⟨f,d,g⟩:=k;rw[d];simp
 |dT e=>exact k.elim
 |dF e=>obtain⟨o,f,d,g⟩:=k;rw[d];simp
 |ins C i=>obtain⟨l,m,f,n,d,g⟩:=k;rw[d];simp
 |fn j qB=>exact k.elim
 |tb j p b=>exact k.elim
structure bR(κ:Str->Addr->Prop)(α:List Addr)(Z:Addr->Prop)(Ω:aD)(H:Hp):Prop where
 rV:α.Nodup
 xG:aI (λc a=>gG κ (au α Z H) H a c) Ω α
 sep:∀a∈α,¬ Z a
 dom:∀a,Z a->H a≠none
structure cO(α:List Addr)(Z:Addr->Prop)(H:Hp)(α':List Addr)(Z':Addr->Prop)(H':Hp):Prop where
 pre:∀(n:Nat) (a:Addr),α[n]?=some a->α'[n]?=some a
 sub:∀a,Z a->Z' a
 new:∀a,Z' a->Z a\/H a=none
 Ci:∀a∈α',a∈α\/H a=none
 frm:∀a o,H a=some o->a∉α->H' a=some o
 has:∀a∈α,H' a≠none
 dr:∀a o u,H a=some (.dr o u)->H' a=some (.dr o u)
section
variable{κ:Str->Addr->Prop}{α α' Fl:List Addr}{Z Z' OO:Addr->Prop}{Ω ao:aD}{H H' OP:Hp}
theorem cO.refl(h:∀a∈α,H a≠none):cO α Z H α Z H:=⟨λ_ _ e=>e,λ_ h=>h,λ_ h=>.inl h,λ_ h=>.inl h,λ_ _ e _=>e,h,λ_ _ _ e=>e⟩
theorem bR.has(S:bR κ α Z Ω H):∀a∈α,H a≠none:=λa b=>by
 obtain⟨n,d⟩:=List.mem_iff_getElem?.mp b;obtain⟨c,_,h⟩:=S.xG.Cg d;exact h.some
theorem cO.none(g:cO α Z H α' Z' H'){a:Addr}(h:H' a=none):H a=none:=by
 cases q:H a with
 |none=>rfl
 |some o=>
  by_cases b:a∈α
  .exact absurd h (g.has a b)
  .rw[g.frm a o q b]at h;cases h
theorem cO.trans(g:cO α Z H α' Z' H')(g':cO α' Z' H' Fl OO OP):cO α Z H Fl OO OP where
 pre:=λn a e=>g'.pre n a (g.pre n a e)
 sub:=λa h=>g'.sub a (g.sub a h)
 new:=λa h=>by
  rcases g'.new a h with h|h
  .exact g.new a h
  .exact .inr (g.none h)
 Ci:=λa h=>by
  rcases g'.Ci a h with h|h
  .exact g.Ci a h
  .exact .inr (g.none h)
 frm:=λa o e b=>g'.frm a o (g.frm a o e b) λh=>by
  rcases g.Ci a h with h|h
  .exact b h
  .rw[e]at h;cases h
 has:=λa b=>by
  obtain⟨n,c⟩:=List.mem_iff_getElem?.mp b;exact g'.has a (List.mem_of_getElem? (g.pre n a c))
 dr:=λa o u e=>g'.dr a o u (g.dr a o u e)
theorem bR.dA(S:bR κ α Z Ω H)(g:cO α Z H α' Z' H'){d:D}{v:V}(h:au α Z H d v):au α' Z' H' d v:=
 h.mono g.pre (λa o z e=>g.frm a o e λb=>S.sep a b z) g.sub
theorem bR.jk(S:bR κ α Z Ω H)(g:cO α Z H α' Z' H'){ds:List D}{vs:List V}(h:aI (au α Z H) ds vs):aI (au α' Z' H') ds vs:=h.imp λ_ _ q=>S.dA g q
theorem bR.cell(S:bR κ α Z Ω H){n:Nat}{c:Cell}(e:Ω[n]?=some c):∃a,α[n]?=some a/\gG κ (au α Z H) H a c:=S.xG.get e
theorem bR.len(S:bR κ α Z Ω H):α.length=Ω.length:=S.xG.length
theorem bR.rW(S:bR κ α Z Ω H){p:Addr}{o:HO}(h:H p=none)(z:Prop)[Decidable z]:bR κ α (if z then Zp Z p else Z) Ω (upd H p o)/\cO α Z H α (if z then Zp Z p else Z) (upd H p o):=by
 have j:∀a∈α,a≠p:=λa f e=>S.has a f (e▸h)
 have k:∀a,Z a->a≠p:=λa i e=>S.dom a i (e▸h)
 have sub:∀a,Z a->(if z then Zp Z p else Z) a:=λa f=>by
  split
  .exact .inl f
  .exact f
 have g:cO α Z H α (if z then Zp Z p else Z) (upd H p o):=⟨λ_ _ e=>e,sub,λa f=>by
   split at f
   .rcases f with f|rfl
    .exact .inl f
    .exact .inr h
   .exact .inl f,λ_ f=>.inl f,λa u e _=>by rw[aJ (bc e h)];exact e,λa f=>by rw[aJ (j a f)];exact S.has a f,λa l u e=>by rw[aJ (bc e h)];exact e⟩
 refine⟨⟨S.rV,?_,λa f i=>?_,λa f=>?_⟩,g⟩
 .refine S.xG.imp λc a m=>?_
  refine m.imp (λd v r=>S.dA g r) (λu e=>?_) λb l n e=>?_
  .rw[aJ (bc e h)];exact e
  .rw[aJ (bc e h)];exact e
 .split at i
  .rcases i with i|rfl
   .exact S.sep a f i
   .exact j _ f rfl
  .exact S.sep a f i
 .split at f
  .rcases f with f|rfl
   .rw[aJ (k a f)];exact S.dom a f
   .rw[ba];simp
  .rw[aJ (k a f)];exact S.dom a f
theorem bR.laid(S:bR κ α Z Ω H){p:Addr}{o:HO}{c:Cell}(h:H p=none)(k:∀R:D->V->Prop,(∀d v,au α Z H d v->R d v)->gG κ R (upd H p o) p c):bR κ (α++[p]) Z (Ω++[c]) (upd H p o)/\cO α Z H (α++[p]) Z (upd H p o):=by
 have f:∀a∈α,a≠p:=λa ha e=>S.has a ha (e▸h)
 have i:∀a,Z a->a≠p:=λa j e=>S.dom a j (e▸h)
 have g:cO α Z H (α++[p]) Z (upd H p o):=⟨λn a e=>by rw[List.getElem?_append_left (List.getElem?_eq_some_iff.mp e).1];exact e,λ_ h=>h,λ_ h=>.inl h,λa ha=>by
   rcases List.mem_append.mp ha with ha|ha
   .exact .inl ha
   .rw[List.mem_singleton.mp ha];exact .inr h,λa u e _=>by rw[aJ (bc e h)];exact e,λa ha=>by rw[aJ (f a ha)];exact S.has a ha,λa l u e=>by rw[aJ (bc e h)];exact e⟩
 refine⟨⟨?_,?_,λa ha j=>?_,λa ha=>by rw[aJ (i a ha)];exact S.dom a ha⟩,g⟩
 .refine List.nodup_append.mpr ⟨S.rV,by simp,λa ha b m=>?_⟩
  rw[List.mem_singleton.mp m];exact f a ha
 .refine aI.append (S.xG.imp λc a k=>?_) (.one (k _ λd v r=>S.dA g r))
  refine k.imp (λd v r=>S.dA g r) (λu e=>?_) λb l q e=>?_
  .rw[aJ (bc e h)];exact e
  .rw[aJ (bc e h)];exact e
 .rcases List.mem_append.mp ha with ha|ha
  .exact S.sep a ha j
  .rw[List.mem_singleton.mp ha]at j;exact i _ j rfl
theorem bR.put(S:bR κ α Z Ω H){n:Nat}{p:Addr}{o:HO}{c:Cell}(E:α[n]?=some p)(s:∀o u,H p≠some (.dr o u))(I:∀R:D->V->Prop,(∀d v,au α Z H d v->R d v)->gG κ R (upd H p o) p c):bR κ α Z (Ω.set n c) (upd H p o)/\cO α Z H α Z (upd H p o):=by
 have w:p∈α:=List.mem_of_getElem? E
 have g:cO α Z H α Z (upd H p o):=⟨λn a e=>e,λ_ h=>h,λ_ h=>.inl h,λa k=>.inl k,λa u e k=>by rw[aJ (λ(q:a=p)=>k (by rw[q];exact w))];exact e,λa k=>by
   by_cases q:a=p
   .subst q;rw[ba];simp
   .rw[aJ q];exact S.has a k,λa l u e=>by rw[aJ (λq=>s l u (by rw[←q];exact e))];exact e⟩
 refine⟨⟨S.rV,?_,S.sep,λa k=>?_⟩,g⟩
 .have x:∀{j:List Cell}{f:List Addr}{n:Nat},f.Nodup->aI (λc a=>gG κ (au α Z H) H a c) j f->f[n]?=some p->aI (λc a=>gG κ (au α Z (upd H p o)) (upd H p o) a c) (j.set n c) f:=by
   intro j f n y z
   induction z generalizing n with
   |nil=>intro e;simp at e
   |@cons K A j f r t B=>
    intro e;have i:=List.nodup_cons.mp y;cases n with
    |zero=>
     simp at e;subst e;refine .cons (I _ λd v r=>S.dA g r) (aI.imp (λ_ _ q=>q) ?_)
     have:∀{j:List Cell}{f:List Addr},A∉f->aI (λc a=>gG κ (au α Z H) H a c) j f->aI (λc a=>gG κ (au α Z (upd H A o)) (upd H A o) a c) j f:=by
      intro j f m z
      induction z with
      |nil=>exact .nil
      |@cons L M j f r t B=>
       refine .cons (r.imp (λd v q=>S.dA g q) (λu e=>?_) λb l C e=>?_) (B λq=>m (List.mem_cons_of_mem _ q))
       .rw[aJ (λq=>m (by rw[q];simp))];exact e
       .rw[aJ (λq=>s l C (by rw[←q];exact e))];exact e
     exact this i.1 t
    |succ n=>
     have F:f[n]?=some p:=by simpa using e
     refine .cons (r.imp (λd v q=>S.dA g q) (λu J=>?_) λb l C G=>?_) (B i.2 F)
     .rw[aJ (λq=>i.1 (by rw[q];exact List.mem_of_getElem? F))];exact J
     .rw[aJ (λq=>s l C (by rw[←q];exact G))];exact G
  exact x S.rV S.xG E
 .by_cases q:a=p
  .subst q;rw[ba];simp
  .rw[aJ q];exact S.dom a k
end
end Mir
namespace Mir
open PySem PySem.Spec PyProof.Rows L2
variable [aH]
abbrev gb:=D->aD->List Addr->(Addr->Prop)->Hp->Prop
def cv(κ:Str->Addr->Prop)(Φ:gb)(f:List Addr)(Z:Addr->Prop)(H:Hp)(r:ay D)(Q:VK):Prop:=match r with
 |.ok d b=>∀v c a e,cO f Z H a e c->bR κ a e b c->au a e c d v->Q v c
 |.exc x b=>∀c a e,cO f Z H a e c->bR κ a e b c->Φ x b a e c
 |.bad=>False
structure cY(κ:Str->Addr->Prop)(gW:List Addr)(Z0:Addr->Prop)(H0:Hp)(α:List Addr)(Z:Addr->Prop)(Ω:aD)(ρ:aR)(σ:L2.St)(H:Hp):Prop where
 st:bR κ α Z Ω H
 gr:cO gW Z0 H0 α Z H
 len:σ.length=ρ.length
 val:∀(i:Nat) (d:D),ρ[i]?=some (some d)->∃v,σ[i]?=some (some v)/\au α Z H d v
abbrev EM:=aR->aD->ay D
noncomputable def tO(κ:Str->Addr->Prop)(Φ:gb)(a:List Addr)(c:Addr->Prop)(d:Hp)(m:EM)(ρ:aR)(Ω:aD):TE:=λe H Q=>
 ∃b Z,cY κ a c d b Z Ω ρ e H/\cv κ Φ b Z H (m ρ Ω) Q
def bz(X:Cx)(κ:Str->Addr->Prop)(Φ:gb)(e:Expr)(m:EM):Prop:=∀a b c d f,PE X e (tO κ Φ a b c m d f)
section
variable{κ:Str->Addr->Prop}{Φ:gb}{α α' gW α1:List Addr}{Z Z' Z0 Z1:Addr->Prop}{Ω ao:aD}{H H' H0 H1:Hp}{ρ:aR}{σ:L2.St}{Q Q':VK}{r:ay D}
theorem cv.from(g:cO α Z H α1 Z1 H1)(h:cv κ Φ α Z H r Q):cv κ Φ α1 Z1 H1 r Q:=by
 cases r with
 |ok d b=>exact λv c a e f=>h v c a e (g.trans f)
 |exc x b=>exact λc a e f=>h c a e (g.trans f)
 |bad=>exact h
theorem cv.use{f:D->aD->ay D}(h:cv κ Φ α Z H (r.bind f) Q)(k:∀d aG,r=.ok d aG->∀v b a c,cO α Z H a c b->bR κ a c aG b->au a c b d v->cv κ Φ a c b (f d aG) Q->Q' v b):cv κ Φ α Z H r Q':=by
 cases r with
 |ok d aG=>exact λv b a c g s q=>k d aG rfl v b a c g s q (cv.from g h)
 |exc x aG=>exact h
 |bad=>exact h
theorem cv.ret{d:D}{v:V}(S:bR κ α Z Ω H)(q:au α Z H d v)(h:cv κ Φ α Z H (.ok d Ω) Q):Q v H:=h v H α Z (cO.refl S.has) S q
theorem cY.grow(S:cY κ gW Z0 H0 α Z Ω ρ σ H)(g:cO α Z H α' Z' H')(s:bR κ α' Z' ao H'):cY κ gW Z0 H0 α' Z' ao ρ σ H':=
 ⟨s,S.gr.trans g,S.len,λi d e=>let ⟨v,a,b⟩:=S.val i d e;⟨v,a,S.st.dA g b⟩⟩
theorem a_{d:D}{v:V}(h:fh d=some v):au α Z H d v:=by
 cases d<;>simp only[fh]at h<;>first|cases h;simp only[au]|cases h
theorem rX{d:D}(h:eS d=true):∃v,fh d=some v:=by
 cases d<;>first|exact⟨_,rfl⟩|cases h
theorem dM{d:D}{v w:V}(h:fh d=some w)(r:Rep Z H d v):v=w:=by
 cases d<;>simp only[fh]at h<;>first | (cases h;simpa only [Rep]using r)|cases h
noncomputable def bN{a b:Type}(f:a->Option b):List a->Option (List b)
 |[]=>some []
 |x::xs=>match f x,bN f xs with
  |some y,some ys=>some (y::ys)
  |_,_=>none
def eO(Ω:aD):Nat->D->Option D
 |_,.non=>some .non
 |_,.bl b=>some (.bl b)
 |_,.int i=>some (.int i)
 |_,.str x=>some (.str x)
 |0,_=>none
 |n+1,.lst ds=>(bN (eO Ω n) ds).map .lst
 |n+1,.tup ds=>(bN (eO Ω n) ds).map .tup
 |n+1,.ref k=>match Ω[k]? with
  |some (.lst ds)=>(bN (eO Ω n) ds).map .lst
  |_=>none
 |_+1,.dct _ _=>none
def rY(b:List Addr)(Z:Addr->Prop):Addr->Prop:=λa=>Z a\/a∈b
theorem eI{f:D->Option D}{R:D->V->Prop}{S:D->V->Prop}(a:∀d d' v,f d=some d'->R d v->S d' v):∀{ds es:List D}{vs:List V},bN f ds=some es->aI R ds vs->aI S es vs
 |[],es,vs,h,r=>by cases h;rw[r.nil_inv];exact .nil
 |d::ds,es,vs,h,r=>by
  simp only[bN]at h;split at h
  .rename_i y ys h1 h2
   cases h;obtain⟨v,b,rfl,c,e⟩:=r.cons_inv;exact .cons (a d y v h1 c) (eI a h2 e)
  .cases h
theorem gc:∀{ds:List D}{vs:List V},aI (Rep Z H) ds vs->aY Z H ds vs
 |_,_,.nil=>.nil
 |_,_,.cons r t=>.cons r (gc t)
theorem jH(S:bR κ α Z Ω H):∀(n:Nat) {d d':D}{v:V},eO Ω n d=some d'->au α Z H d v->Rep (rY α Z) H d' v:=by
 intro n
 induction n with
 |zero=>
  intro d d' v h r;cases d<;>simp only[eO]at h<;>first | (cases h;simpa only [Rep,au]using r)|cases h
 |succ n g=>
  intro d d' v h r;cases d with
  |lst l=>
   simp only[eO]at h;obtain⟨m,b,rfl⟩:=Option.map_eq_some_iff.mp h;simp only[au]at r;obtain⟨a,c,rfl,i,j,e⟩:=r;simp only[Rep];exact⟨a,c,rfl,.inl i,j,gc (eI (S:=Rep (rY α Z) H) (λd d' v q r=>g q r) b (cA.mp e))⟩
  |tup l=>
   simp only[eO]at h;obtain⟨m,b,rfl⟩:=Option.map_eq_some_iff.mp h;simp only[au]at r;obtain⟨a,c,rfl,i,j,e⟩:=r;simp only[Rep];exact⟨a,c,rfl,.inl i,.inl j,gc (eI (S:=Rep (rY α Z) H) (λd d' v q r=>g q r) b (cA.mp e))⟩
  |ref k=>
   simp only[eO]at h;split at h
   .rename_i l p
    obtain⟨m,b,rfl⟩:=Option.map_eq_some_iff.mp h;obtain⟨a,o,c,s,e⟩:=S.cell p;simp only[au]at r;obtain⟨t,f,rfl⟩:=r;rw[o]at f;cases f;simp only[Rep];exact⟨a,c,rfl,.inr (List.mem_of_getElem? o),.inl s,gc (eI (S:=Rep (rY α Z) H) (λd d' v q r=>g q r) b e)⟩
   .cases h
  |dct _ _=>cases h
  |_=>simp only[eO]at h;cases h;simpa only [Rep,au]using r
theorem dN(S:bR κ α Z Ω H):∀a,rY α Z a->H a≠none:=λa h=>h.elim (S.dom a) (S.has a)
theorem bR.same(S:bR κ α Z Ω H)(h:ij H H'):bR κ α Z Ω H'/\cO α Z H α Z H':=by
 have g:cO α Z H α Z H':=⟨λ_ _ e=>e,λ_ z=>z,λ_ z=>.inl z,λ_ z=>.inl z,λa o e _=>h a o e,λa f=>by
  cases q:H a with
  |none=>exact absurd q (S.has a f)
  |some o=>rw[h a o q];simp,λa o u e=>h a _ e⟩
 refine⟨⟨S.rV,S.xG.imp λc a i=>i.imp (λd v r=>S.dA g r) (λo e=>h a o e) λb o u e=>h b _ e,S.sep,λa z=>?_⟩,g⟩
 cases q:H a with
 |none=>exact absurd q (S.dom a z)
 |some o=>rw[h a o q];simp
theorem bR.adopt(S:bR κ α Z Ω H)(h:ij H H'){p:Addr}(i:H p=none){c:Cell}(j:∀R:D->V->Prop,(∀d v,au α Z H' d v->R d v)->gG κ R H' p c):bR κ (α++[p]) Z (Ω++[c]) H'/\cO α Z H (α++[p]) Z H':=by
 obtain⟨o,k⟩:=S.same h;have l:∀a∈α,a≠p:=λa ha e=>S.has a ha (e▸i)
 have m:∀a,Z a->a≠p:=λa f e=>S.dom a f (e▸i)
 have g:∀(n:Nat) (a:Addr),α[n]?=some a->(α++[p])[n]?=some a:=λn a e=>by rw[List.getElem?_append_left (List.getElem?_eq_some_iff.mp e).1];exact e
 have mono:∀d v,au α Z H' d v->au (α++[p]) Z H' d v:=λd v r=>r.mono g (λ_ _ _ e=>e) λ_ z=>z
 refine⟨⟨?_,?_,λa ha f=>?_,o.dom⟩,⟨g,λ_ z=>z,λ_ z=>.inl z,λa ha=>?_,k.frm,k.has,k.dr⟩⟩
 .refine List.nodup_append.mpr ⟨S.rV,by simp,λa ha b q=>?_⟩
  rw[List.mem_singleton.mp q];exact l a ha
 .exact aI.append (o.xG.imp λc a j=>j.imp mono (λ_ e=>e) λ_ _ _ e=>e) (.one (j _ mono))
 .rcases List.mem_append.mp ha with ha|ha
  .exact S.sep a ha f
  .rw[List.mem_singleton.mp ha]at f;exact m _ f rfl
 .rcases List.mem_append.mp ha with ha|ha
  .exact .inl ha
  .rw[List.mem_singleton.mp ha];exact .inr i
noncomputable def gX(Ω:aD)(c:Cell):ay D:=.ok (.ref Ω.length) (Ω++[c])
def fD(Ω:aD):Out Rs->ay D
 |.ok (own,d)=>if eS d then .ok d Ω else match own,d with
  |true,.lst ds=>if ds.all eS then gX Ω (.lst ds)else .bad
  |_,_=>.bad
 |_=>.bad
theorem fq(S:bR κ α Z Ω H)(p:Addr):au (α++[p]) Z H' (.ref Ω.length) (.ref p):=by
 simp only[au];exact⟨p,by rw[←S.len];simp,rfl⟩
theorem mu:∀{ds:List D}{vs:List V},ds.all eS=true->aY Z1 H1 ds vs->aI (au α Z H) ds vs
 |[],vs,_,r=>by rw[r.nil_inv];exact .nil
 |d::ds,vs,h,r=>by
  obtain⟨v,b,rfl,c,e⟩:=r.cons_inv;simp only[List.all_cons,Bool.and_eq_true]at h;obtain⟨w,a⟩:=rX h.1;obtain rfl:=dM a c;exact .cons (a_ a) (mu h.2 e)
theorem iq{bw:Bool}{r:Out Rs}(S:bR κ α Z Ω H)(h:cv κ Φ α Z H (fD Ω r) Q):∃e d,r=.ok (e,d)/\∀v b m f,eF m H f b->ef bw e f H b d v->Q v b:=by
 cases r with
 |ok q=>
  obtain⟨e,d⟩:=q;refine⟨e,d,rfl,λv b m f g q=>?_⟩
  simp only[fD]at h;split at h
  .rename_i o
   obtain⟨w,i⟩:=rX o
   have p:v=w:=by
    have n:=q.nw;cases d with
    |non=>exact dM (Z:=f) (H:=b) i n
    |bl _=>exact dM (Z:=f) (H:=b) i n
    |int _=>exact dM (Z:=f) (H:=b) i n
    |str _=>exact dM (Z:=f) (H:=b) i n
    |_=>cases o
   subst p;obtain⟨j,k⟩:=S.same g.same;exact h v b α Z k j (a_ i)
  .split at h
   .rename_i s t
    split at h
    .rename_i l
     unfold ef at q;rw[if_pos rfl]at q;obtain⟨a,u,x,y,rfl,z,D,A,B⟩:=q;cases y;obtain⟨j,k⟩:=S.adopt (c:=.lst s) g.same z (λR C=>⟨u,A,(mu l B).imp C⟩)
     exact h _ b _ Z k j (fq S a)
    .exact h.elim
   .exact h.elim
 |exc c E=>exact h.elim
 |bad=>exact h.elim
end
def m1(f:D->aD->ay D)(a:EM):EM:=λb c=>(a b c).bind f
def m2(f:D->D->aD->ay D)(d e:EM):EM:=λc g=>(d c g).bind λx a=>(e c a).bind λy b=>f x y b
noncomputable def gH(a b:ay D):ay D:=match a with
 |.bad=>b
 |r=>r
def Cj(f g:D->aD->ay D):D->aD->ay D:=λx a=>gH (f x a) (g x a)
def fR(f g:D->D->aD->ay D):D->D->aD->ay D:=λx y a=>gH (f x y a) (g x y a)
def kA(f g:EM):EM:=λa b=>gH (f a b) (g a b)
def tW(f:D->Out Rs):D->aD->ay D:=λx a=>match eO a 8 x with
 |some b=>fD a (f b)
 |none=>.bad
def fE(f:D->D->Out Rs):D->D->aD->ay D:=λx y a=>match eO a 8 x,eO a 8 y with
 |some b,some c=>fD a (f b c)
 |_,_=>.bad
def fS(Ω:aD):D->Option Bool
 |.ref k=>match Ω[k]? with
  |some (.lst ds)=>some (!ds.isEmpty)
  |some (.dK kvs)=>some (!kvs.isEmpty)
  |_=>none
 |d=>ju d
def cx:ay D->ay Bool
 |.ok d Ω=>match fS Ω d with
  |some b=>.ok b Ω
  |none=>.bad
 |.exc x Ω=>.exc x Ω
 |.bad=>.bad
def n9(κ:Str->Addr->Prop)(Φ:gb)(f:List Addr)(Z:Addr->Prop)(H:Hp)(r:ay Bool)(Q:Bool->Hp->Prop):Prop:=match r with
 |.ok b c=>∀d a e,cO f Z H a e d->bR κ a e c d->Q b d
 |.exc x c=>∀d a e,cO f Z H a e d->bR κ a e c d->Φ x c a e d
 |.bad=>False
def Kw(κ:Str->Addr->Prop)(Φ:gb)(a:List Addr)(c:Addr->Prop)(d:Hp)(m:EM)(ρ:aR)(Ω:aD):TT:=λe H Q=>∃b Z,cY κ a c d b Z Ω ρ e H/\n9 κ Φ b Z H (cx (m ρ Ω)) Q
def gf(X:Cx)(κ:Str->Addr->Prop)(Φ:gb)(e:Expr)(m:EM):Prop:=∀a b c d f,PT X e (Kw κ Φ a b c m d f)
abbrev AM:=aR->aD->ay (List D)
def oU(κ:Str->Addr->Prop)(Φ:gb)(e:List Addr)(Z:Addr->Prop)(H:Hp)(r:ay (List D))(Q:List V->Hp->Prop):Prop:=match r with
 |.ok g b=>∀f c a d,cO e Z H a d c->bR κ a d b c->aI (au a d c) g f->Q f c
 |.exc x b=>∀c a d,cO e Z H a d c->bR κ a d b c->Φ x b a d c
 |.bad=>False
noncomputable def QH(κ:Str->Addr->Prop)(Φ:gb)(a:List Addr)(c:Addr->Prop)(d:Hp)(m:AM)(ρ:aR)(Ω:aD):TA:=λe H Q=>∃b Z,cY κ a c d b Z Ω ρ e H/\oU κ Φ b Z H (m ρ Ω) Q
def oV(X:Cx)(κ:Str->Addr->Prop)(Φ:gb)(es:List Expr)(m:AM):Prop:=∀a b c d e,PA X es (QH κ Φ a b c m d e)
noncomputable def af:AM:=λ_ a=>.ok [] a
def ab(a:EM)(e:AM):AM:=λd f=>(a d f).bind λx b=>(e d b).bind λg c=>.ok (x::g) c
def mN(f:List D->aD->ay D)(a:AM):EM:=λb c=>(a b c).bind f
section
variable{X:Cx}{κ:Str->Addr->Prop}{Φ:gb}{α α' gW α1:List Addr}{Z Z' Z0 Z1:Addr->Prop}{Ω ao:aD}{H H' H0 H1:Hp}{ρ:aR}{σ:L2.St}{Q Q':VK}{r:ay D}{a b e:Expr}{es:List Expr}{ma mb mc m:EM}{as:AM}{pos:Pos}
theorem oU.from{r:ay (List D)}{Q:List V->Hp->Prop}(g:cO α Z H α1 Z1 H1)(h:oU κ Φ α Z H r Q):oU κ Φ α1 Z1 H1 r Q:=by
 cases r with
 |ok d b=>exact λv c a e f=>h v c a e (g.trans f)
 |exc x b=>exact λc a e f=>h c a e (g.trans f)
 |bad=>exact h
theorem n9.from{r:ay Bool}{Q:Bool->Hp->Prop}(g:cO α Z H α1 Z1 H1)(h:n9 κ Φ α Z H r Q):n9 κ Φ α1 Z1 H1 r Q:=by
 cases r with
 |ok d b=>exact λc a e f=>h c a e (g.trans f)
 |exc x b=>exact λc a e f=>h c a e (g.trans f)
 |bad=>exact h
theorem oU.use{r:ay (List D)}{f:List D->aD->ay D}{Q':List V->Hp->Prop}(h:cv κ Φ α Z H (r.bind f) Q)(k:∀ds aG,r=.ok ds aG->∀vs b a c,cO α Z H a c b->bR κ a c aG b->aI (au a c b) ds vs->cv κ Φ a c b (f ds aG) Q->Q' vs b):oU κ Φ α Z H r Q':=by
 cases r with
 |ok d aG=>exact λv b a c g s q=>k d aG rfl v b a c g s q (cv.from g h)
 |exc x aG=>exact h
 |bad=>exact h
theorem PE.or{t u:TE}(h:PE X e t)(h':PE X e u):PE X e (λa H Q=>t a H Q\/u a H Q):=λpins s a H Q I q=>q.elim (h pins s a H Q I) (h' pins s a H Q I)
theorem PT.or{t u:TT}(h:PT X e t)(h':PT X e u):PT X e (λa H Q=>t a H Q\/u a H Q):=λpins s a H Q I q=>q.elim (h pins s a H Q I) (h' pins s a H Q I)
theorem mw{a b:ay D}:gH a b=a\/(a=.bad/\gH a b=b):=by cases a<;>simp[gH]
theorem bz.alt(h:bz X κ Φ e ma)(h':bz X κ Φ e mb):bz X κ Φ e (kA ma mb):=by
 intro c i j d f;refine PE.imp (PE.or (h c i j d f) (h' c i j d f)) ?_;rintro l H Q ⟨k,Z,S,g⟩;rcases mw (a:=ma d f) (b:=mb d f)with q|⟨_,q⟩
 .exact .inl ⟨k,Z,S,by rw[←q];exact g⟩
 .exact .inr ⟨k,Z,S,by rw[←q];exact g⟩
theorem gf.alt(h:gf X κ Φ e ma)(h':gf X κ Φ e mb):gf X κ Φ e (kA ma mb):=by
 intro c i j d f;refine PT.imp (PT.or (h c i j d f) (h' c i j d f)) ?_;rintro l H Q ⟨k,Z,S,g⟩;rcases mw (a:=ma d f) (b:=mb d f)with q|⟨_,q⟩
 .exact .inl ⟨k,Z,S,by rw[←q];exact g⟩
 .exact .inr ⟨k,Z,S,by rw[←q];exact g⟩
theorem gY{f g:D->D->aD->ay D}:m2 (fR f g) ma mb=kA (m2 f ma mb) (m2 g ma mb):=by
 funext c a
 simp only[m2,kA];cases ma c a with
 |ok x b=>
  simp only[ay.bind];cases mb c b with
  |ok y d=>rfl
  |exc x a=>rfl
  |bad=>rfl
 |exc x a=>rfl
 |bad=>rfl
theorem Ck{f g:D->aD->ay D}:m1 (Cj f g) ma=kA (m1 f ma) (m1 g ma):=by
 funext b a
 simp only[m1,kA];cases ma b a with
 |ok x c=>rfl
 |exc x a=>rfl
 |bad=>rfl
theorem jI{f:D->aD->ay D}{r:V->Hp->VK->Prop}(h:∀l,PE X a l->PE X e λm H Q=>l m H λx c=>r x c Q)(o:bz X κ Φ a ma)
  (p:∀n x b Z Ω H Q,bR κ b Z Ω H->au b Z H n x->cv κ Φ b Z H (f n Ω) Q->r x H Q):bz X κ Φ e (m1 f ma):=by
 intro i q s t Ω;refine PE.imp (h _ (o i q s t Ω)) ?_;rintro m H Q ⟨b,Z,S,g⟩;refine⟨b,Z,S,g.use λd j _ v c k u A w y z=>?_⟩
 exact p d v k u j c Q w y z
theorem dO{f:D->D->aD->ay D}{r:R2}(h:∀u tb,PE X a u->PE X b tb->PE X e (AL r u tb))(n:bz X κ Φ a ma)(o:bz X κ Φ b mb)
  (G:∀z A x y i Z Ω H Q,bR κ i Z Ω H->au i Z H z x->au i Z H A y->cv κ Φ i Z H (f z A Ω) Q->r x y H Q):bz X κ Φ e (m2 f ma mb):=by
 intro c k l j Ω;rcases q:ma j Ω with ⟨d,m⟩|⟨x,m⟩|_
 .refine PE.imp (h _ _ (n c k l j Ω) (o c k l j m)) ?_
  rintro B H Q ⟨i,Z,S,g⟩;refine⟨i,Z,S,cv.use g λU C E v V p I J F K L=>?_⟩
  rw[q]at E;cases E;refine⟨p,I,S.grow J F,L.use λd2 s _ w M t N O P R T=>?_⟩
  exact G d d2 v w t N s M Q P (F.dA O K) R T
 .refine PE.imp (h _ _ (n c k l j Ω) (o c k l j Ω)) ?_
  rintro B H Q ⟨i,Z,S,g⟩;refine⟨i,Z,S,?_⟩;simp only[m2,q,ay.bind]at g ⊢;exact g
 .refine PE.imp (h _ _ (n c k l j Ω) (o c k l j Ω)) ?_
  rintro B H Q ⟨i,Z,S,g⟩;simp only[m2,q,ay.bind]at g;exact g.elim
theorem oW{bw:Bool}{f:D->Out Rs}{i:D}{x:V}(S:bR κ α Z Ω H)(j:au α Z H i x)(h:cv κ Φ α Z H (tW f i Ω) Q) :
  ∃d a d',Now (rY α Z) H d x/\f d=.ok (a,d')/\∀v b c,eF (rY α Z) H c b->ef bw a c H b d' v->Q v b:=by
 unfold tW at h;split at h
 .rename_i d l
  obtain⟨a,d',e,k⟩:=iq (bw:=bw) S h;exact⟨d,a,d',(jH S 8 l j).now,e,λv b c g q=>k v b _ c g q⟩
 .exact h.elim
theorem gg{bw:Bool}{f:D->D->Out Rs}{i j:D}{x y:V}(S:bR κ α Z Ω H)(l:au α Z H i x)(m:au α Z H j y)(h:cv κ Φ α Z H (fE f i j Ω) Q) :
  ∃d e a d',Now (rY α Z) H d x/\Now (rY α Z) H e y/\f d e=.ok (a,d')/\∀v b c,eF (rY α Z) H c b->ef bw a c H b d' v->Q v b:=by
 unfold fE at h;split at h
 .rename_i d e n o
  obtain⟨a,d',p,k⟩:=iq (bw:=bw) S h;exact⟨d,e,a,d',(jH S 8 n l).now,(jH S 8 o m).now,p,λv b c g q=>k v b _ c g q⟩
 .exact h.elim
theorem yF{i:Nat}{x:Str}(c:X.N[i]?=some x)(e:D8 X.env.scope x)(a:(x==("__debug__":Str))=false)(b:(x==("__classdict__":Str))=false):bz X κ Φ (.Name x pos) (λρ Ω=>match ρ[i]? with|some (some d)=>.ok d Ω|_=>.bad):=by
 intro f k l ρ Ω;refine PE.imp (Bv c e a b) ?_;rintro m H Q ⟨n,Z,S,g⟩;dsimp only at g;split at g
 .rename_i d a
  obtain⟨v,h,j⟩:=S.val i d a;exact⟨v,h,cv.ret S.st j g⟩
 .exact g.elim
theorem ir{d:D}{v:V}(h:PE X e (tC v))(a:fh d=some v):bz X κ Φ e (λ_ Ω=>.ok d Ω):=by
 intro b c f i Ω;refine PE.imp h ?_;rintro j H Q ⟨k,Z,S,g⟩;exact cv.ret S.st (a_ a) g
noncomputable def de(Ω:aD):D->Option (List D)
 |.ref k=>match Ω[k]? with
  |some (.lst ds)=>some ds
  |_=>none
 |.lst ds=>some ds
 |_=>none
theorem bJ{x:D}{v:V}{ds:List D}(S:bR κ α Z Ω H)(r:au α Z H x v)(h:de Ω x=some ds):∃a vs,v=.ref a/\Rd H a (.lst vs)/\aI (au α Z H) ds vs:=by
 cases x with
 |ref k=>
  simp only[de]at h;split at h
  .rename_i e f
   cases h;simp only[au]at r;obtain⟨a,g,rfl⟩:=r;obtain⟨i,b,vs,c,d⟩:=S.cell f;rw[g]at b;cases b;exact⟨a,vs,rfl,.inl c,d⟩
  .cases h
 |lst j=>
  cases h;simp only[au]at r;obtain⟨a,vs,rfl,_,c,d⟩:=r;exact⟨a,vs,rfl,c,cA.mp d⟩
 |_=>cases h
theorem eU{x:V}{ds:List D}(r:au α Z H (.tup ds) x):∃a vs,x=.ref a/\Z a/\H a=some (.tup vs)/\aI (au α Z H) ds vs:=by
 simp only[au]at r;obtain⟨a,vs,e,b,c,d⟩:=r;exact⟨a,vs,e,b,c,cA.mp d⟩
theorem eJ{ds:List D}{vs:List V}(S:bR κ α Z Ω H)(r:aI (au α Z H) ds vs)(k:cv κ Φ α Z H (gX Ω (.lst ds)) Q):∀p,H p=none->Q (.ref p) (upd H p (.lst vs)):=λp a=>by
 obtain⟨b,d⟩:=S.laid (p:=p) (o:=.lst vs) (c:=.lst ds) a λR e=>⟨vs,ba,r.imp e⟩
 exact k _ _ _ Z d b (fq S p)
theorem oX{ds:List D}{vs:List V}(S:bR κ α Z Ω H)(r:aI (au α Z H) ds vs)(k:cv κ Φ α Z H (.ok (.tup ds) Ω) Q):∀p,H p=none->Q (.ref p) (upd H p (.tup vs)):=λp c=>by
 obtain⟨b,a⟩:=S.rW (p:=p) (o:=.tup vs) c True;simp only[if_true]at b a;refine k _ _ _ _ a b ?_;simp only[au];exact⟨p,vs,rfl,.inr rfl,ba,cA.mpr (S.jk a r)⟩
theorem yG:oV X κ Φ [] af:=by
 intro a c d e f;refine PA.imp mR ?_;rintro h H Q ⟨b,Z,S,g⟩;exact g [] H b Z (cO.refl S.st.has) S.st .nil
theorem vP(k:bz X κ Φ e ma)(l:oV X κ Φ es as)(m:starEach (e::es) X.env=(false,eval e X.env)::starEach es X.env):oV X κ Φ (e::es) (ab ma as):=by
 intro a f h b i;rcases q:ma b i with ⟨d,c⟩|⟨x,c⟩|_
 .refine PA.imp (eR (k a f h b i) (l a f h b c) m) ?_
  rintro r H Q ⟨j,Z,S,g⟩;refine⟨j,Z,S,?_⟩;simp only[ab,q,ay.bind]at g ⊢;intro v C n w s t y;refine⟨n,w,S.grow s t,?_⟩;have g:=oU.from s g
  rcases o:as b c with ⟨D,p⟩|⟨x,p⟩|_
  .rw[o]at g
   intro E F z G u A B;exact g _ _ _ _ u A (.cons (t.dA u y) B)
  .rw[o]at g;exact g
  .rw[o]at g;exact g
 .refine PA.imp (eR (k a f h b i) (l a f h b i) m) ?_
  rintro r H Q ⟨j,Z,S,g⟩;refine⟨j,Z,S,?_⟩;simp only[ab,q,ay.bind]at g ⊢;exact g
 .refine PA.imp (eR (k a f h b i) (l a f h b i) m) ?_
  rintro r H Q ⟨j,Z,S,g⟩;simp only[ab,q,ay.bind]at g;exact g.elim
def aT(ds:List D)(Ω:aD):ay D:=if small ds.length then gX Ω (.lst ds)else .bad
def gI(ds:List D)(Ω:aD):ay D:=if small ds.length then .ok (.tup ds) Ω else .bad
theorem yH(h:oV X κ Φ es as):bz X κ Φ (.List es pos) (mN aT as):=by
 intro b d e f i;refine PE.imp (BU (h b d e f i)) ?_;rintro o H Q ⟨j,Z,S,g⟩;refine⟨j,Z,S,oU.use g λp k _ q r l s t m c a=>?_⟩
 unfold aT at a;split at a
 .rename_i n
  exact⟨by rw[c.length];exact bL n,eJ m c a⟩
 .exact a.elim
theorem yI{x1}(h:oV X κ Φ es as):bz X κ Φ (.Tuple es x1 pos) (mN gI as):=by
 intro b d e f i;refine PE.imp (BS (h b d e f i)) ?_;rintro o H Q ⟨j,Z,S,g⟩;refine⟨j,Z,S,oU.use g λp k _ q r l s t m c a=>?_⟩
 unfold gI at a;split at a
 .rename_i n
  exact⟨by rw[c.length];exact bL n,oX m c a⟩
 .exact a.elim
def qC(x y:D)(Ω:aD):ay D:=match de Ω x,de Ω y with
 |some a,some b=>if small (a.length+b.length)then gX Ω (.lst (a++b))else .bad
 |_,_=>.bad
def aM(op:Operator):D->D->aD->ay D:=match op with
 |.Add=>fR qC (fE (ff .Add))
 |op=>fE (ff op)
theorem yJ{op:Operator}(j:bz X κ Φ a ma)(m:bz X κ Φ b mb):bz X κ Φ (.BinOp a op b pos) (m2 (aM op) ma mb):=by
 have E:bz X κ Φ (.BinOp a op b pos) (m2 (fE (ff op)) ma mb):=dO (r:=yo op) (λq tb c f=>AN (vi op) c f) j m λs t x y u Z w H Q S h i g=>by
  obtain⟨d,e,z,N,A,B,D,k⟩:=gg (bw:=false) S h i g;exact Cb (bw:=false) A B (dN S) D k
 have C:op=.Add->bz X κ Φ (.BinOp a op b pos) (m2 qC ma mb):=λe=>by
  subst e;refine dO (r:=yo .Add) (λq tb c f=>AN (vi .Add) c f) j m λs t x y u Z w H Q S h i g=>?_
  unfold qC at g;split at g
  .rename_i O P F G
   obtain⟨l,I,rfl,J,o⟩:=bJ S h F;obtain⟨n,K,rfl,L,p⟩:=bJ S i G;split at g
   .rename_i M
    exact .inr (.inr ⟨l,n,I,K,rfl,rfl,J,L,by rw[o.length,p.length];exact bL M,eJ S (o.append p) g⟩)
   .exact g.elim
  .exact g.elim
 cases op with
 |Add=>show bz X κ Φ _ (m2 (fR qC (fE (ff .Add))) ma mb);rw[gY];exact(C rfl).alt E
 |_=>exact E
def Fm:D->aD->ay D:=tW λx=>match x with|.int i=>.ok (false,.int (-i))|_=>.bad
theorem yK(c:bz X κ Φ a ma):bz X κ Φ (.UnaryOp .USub a pos) (m1 Fm ma):=
 jI (r:=rU λi=>.int (-i)) (λl e=>EG BP e) c λm x n Z o H Q S f g=>by
  obtain⟨d,h,p,j,b,k⟩:=oW (bw:=false) S f g;split at b
  .cases bB j
   cases b;exact⟨_,rfl,k _ H _ (eF.refl (dN S)) (.rep (fj rfl))⟩
  .cases b
end
noncomputable def cf{κ a:Type}[DecidableEq κ](kvs:List (κ×a))(k:κ):Option a:=(kvs.find? λb=>decide (b.1=k)).map (·.2)
noncomputable def cZ{κ b:Type}[DecidableEq κ](kvs:List (κ×b))(k:κ)(v:b):List (κ×b):=
 if (kvs.any λa=>decide (a.1=k))=true then kvs.map (λa=>if a.1=k then (a.1,v)else a)else kvs++[(k,v)]
section
variable{κ:Type}[DecidableEq κ]{R:D->V->Prop}
theorem fU.val{kvs:List (κ×D)}{a:List (κ×V)}(h:fU R kvs a)(k:κ):(∀d,cf kvs k=some d->∃v,lH a k=some v/\R d v)/\(cf kvs k=none->lH a k=none):=by
 unfold fU at h
 induction h with
 |nil=>exact⟨λd e=>(by cases e),λ_=>rfl⟩
 |@cons p q b n r t i=>
  obtain⟨g,j⟩:=r
  by_cases e:p.1=k
  .have c:q.1=k:=g▸e
   have f:cf (p::b) k=some p.2:=by simp[cf,List.find?_cons,e]
   rw[f,oA c];exact⟨λd l=>by cases l;exact⟨_,rfl,j⟩,λm=>by cases m⟩
  .have c:¬ q.1=k:=λz=>e (g.trans z)
   have f:cf (p::b) k=cf b k:=by simp[cf,List.find?_cons,e]
   rw[f,oB c];exact i
theorem fU.any{kvs:List (κ×D)}{a:List (κ×V)}(h:fU R kvs a)(k:κ):(a.any λb=>decide (b.1=k))=kvs.any λb=>decide (b.1=k):=by
 unfold fU at h
 induction h with
 |nil=>rfl
 |@cons p q d e r t c=>rw[List.any_cons,List.any_cons,c,r.1]
theorem fU.put{kvs:List (κ×D)}{a:List (κ×V)}(h:fU R kvs a)(k:κ){d:D}{v:V}(r:R d v):fU R (cZ kvs k d) (putK a k v):=by
 unfold cZ putK;rw[h.any];split
 .rename_i c
  clear c;unfold fU at h
  induction h with
  |nil=>exact .nil
  |@cons p q g i b t f=>
   rw[List.map_cons,List.map_cons];refine .cons ?_ f
   by_cases e:p.1=k
   .rw[if_pos e,if_pos (b.1▸e)];exact⟨b.1,r⟩
   .rw[if_neg e,if_neg (λz=>e (b.1.trans z))];exact b
 .exact aI.append h (.one ⟨rfl,r⟩)
theorem fU.length{kvs:List (κ×D)}{a:List (κ×V)}(h:fU R kvs a):a.length=kvs.length:=aI.length h
end
noncomputable def qD:D->Option Key
 |.int i=>some (.inl i)
 |.str x=>some (.inr x)
 |_=>none
section
variable{X:Cx}{κ:Str->Addr->Prop}{Φ:gb}{α α' gW α1:List Addr}{Z Z' Z0 Z1:Addr->Prop}{Ω ao:aD}{H H' H0 H1:Hp}{ρ:aR}{σ:L2.St}{Q Q':VK}{r:ay D}{a b e:Expr}{es:List Expr}{ma mb mc m:EM}{as:AM}{pos:Pos}
theorem iu{d:D}{k:Key}{v:V}(h:qD d=some k)(r:au α Z H d v):v=kV k:=by
 cases d with
 |int i=>cases h;simp only[au]at r;exact r
 |str i=>cases h;simp only[au]at r;exact r
 |_=>cases h
def qE(Ω:aD)(x y:D):Option (Option D):=match x with
 |.ref k=>match Ω[k]? with
  |some (.dK a)=>(qD y).map (cf a)
  |some (.dF a)=>(qD y).map (cf a)
  |_=>none
 |_=>none
theorem oY{x y:D}{v w:V}{o:Option D}(S:bR κ α Z Ω H)(q:au α Z H x v)(r:au α Z H y w)(h:qE Ω x y=some o):∃a f,v=.ref a/\kb H a w f/\(∀d,o=some d->∃u,f=some u/\au α Z H d u)/\(o=none->f=none):=by
 cases x with
 |ref k=>
  simp only[qE]at h;simp only[au]at q;obtain⟨a,s,rfl⟩:=q;split at h
  .rename_i g i
   obtain⟨e,j,rfl⟩:=Option.map_eq_some_iff.mp h;obtain⟨t,b,c,l,m⟩:=S.cell i;rw[s]at b;cases b
   obtain rfl:=iu j r;obtain⟨n,p⟩:=m.val e;exact⟨a,_,rfl,kb.k l,n,p⟩
  .rename_i g i
   obtain⟨e,j,rfl⟩:=Option.map_eq_some_iff.mp h;obtain⟨t,b,z,c,l,m⟩:=S.cell i;rw[s]at b;cases b
   obtain rfl:=iu j r;obtain⟨n,p⟩:=m.val e;exact⟨a,_,rfl,.inl ⟨c,e,.inr ⟨z,l⟩,rfl,rfl⟩,n,p⟩
  .cases h
 |_=>cases h
def c8(op:CmpOp):D->D->aD->ay D:=fE λx y=>do let r ←dH op x y;Out.ok (false,D.bl r)
def fT(neg:Bool)(y x:D)(Ω:aD):ay D:=match qE Ω x y with
 |some o=>.ok (.bl (if neg then !o.isSome else o.isSome)) Ω
 |none=>.bad
noncomputable def e_(neg:Bool)(x y:D)(Ω:aD):ay D:=match x,y with
 |.ref _,.non=>.ok (.bl neg) Ω
 |_,_=>.bad
def ax(op:CmpOp):D->D->aD->ay D:=match op with
 |.In=>fR (c8 .In) (fT false)
 |.NotIn=>fR (c8 .NotIn) (fT true)
 |.Is=>fR (e_ false) (c8 .Is)
 |.IsNot=>fR (e_ true) (c8 .IsNot)
 |op=>c8 op
theorem qF{o:Option D}{a:Option V}{R:D->V->Prop}(b:∀d,o=some d->∃u,a=some u/\R d u)(c:o=none->a=none):a.isSome=o.isSome:=by
 cases o with
 |none=>rw[c rfl];rfl
 |some d=>obtain⟨u,e,_⟩:=b d rfl;rw[e];rfl
theorem gw{f:D->D->aD->ay D}{r:R2}(h:∀G tb,PE X a G->PE X b tb->PT X e (rp (AL r G tb)))(p:bz X κ Φ a ma)(s:bz X κ Φ b mb)(z:∀x y Ω d ao,f x y Ω=.ok d ao->∃t,d=.bl t)
  (P:∀I J x y i Z Ω H Q,bR κ i Z Ω H->au i Z H I x->au i Z H J y->cv κ Φ i Z H (f I J Ω) Q->r x y H Q):gf X κ Φ e (m2 f ma mb):=by
 intro c m n j Ω;rcases q:ma j Ω with ⟨d,k⟩|⟨x,k⟩|_
 .refine PT.imp (h _ _ (p c m n j Ω) (s c m n j k)) ?_
  rintro K H Q ⟨i,Z,S,g⟩;refine⟨i,Z,S,?_⟩;simp only[m2,q,ay.bind]at g ⊢;intro v H1 A R L M T;refine⟨A,R,S.grow L M,?_⟩;have g:=n9.from L g
  rcases B:mb j k with ⟨d2,l⟩|⟨x,l⟩|_
  .rw[B]at g
   intro w U C V N Y r2;refine P d d2 v w C V l U _ Y (M.dA N T) r2 ?_;have g:=n9.from N g
   dsimp only[ay.bind]at g;rcases o:f d d2 l with ⟨d3,E⟩|⟨x,E⟩|_
   .rw[o]at g
    obtain⟨t,rfl⟩:=z _ _ _ _ _ o;intro u H3 F Z3 g3 s3 O;simp only[au]at O;exact⟨t,O,g H3 F Z3 g3 s3⟩
   .rw[o]at g;exact g
   .rw[o]at g;exact g
  .rw[B]at g;exact g
  .rw[B]at g;exact g
 .refine PT.imp (h _ _ (p c m n j Ω) (s c m n j Ω)) ?_
  rintro K H Q ⟨i,Z,S,g⟩;refine⟨i,Z,S,?_⟩;simp only[m2,q,ay.bind,cx]at g ⊢;exact g
 .refine PT.imp (h _ _ (p c m n j Ω) (s c m n j Ω)) ?_
  rintro K H Q ⟨i,Z,S,g⟩;simp only[m2,q,ay.bind,cx]at g;exact g.elim
noncomputable def Cm(neg:Bool):R2:=λy x H Q=>∃a o,x=.ref a/\kb H a y o/\Q (.bl (if neg then !o.isSome else o.isSome)) H
theorem vQ(b:X.A.units+1<cLine):fX X (compareOp .In) (Cm false):=by
 intro pins s f H x y u v Q I c d h;obtain⟨a,o,rfl,g,q⟩:=h;obtain rfl:v=Value.ref a:=d;exact Kp b I g c λi e=>⟨.bl o.isSome,H,e,rfl,q⟩
theorem mx(b:X.A.units+1<cLine):fX X (compareOp .NotIn) (Cm true):=by
 intro pins s f H x y u v Q I c d h;obtain⟨a,o,rfl,g,q⟩:=h;obtain rfl:v=Value.ref a:=d;exact yf b I g c λi e=>⟨.bl (!o.isSome),H,e,rfl,q⟩
theorem nr{op:CmpOp}{a b:D}{x y:V}(S:bR κ α Z Ω H)(c:au α Z H a x)(f:au α Z H b y)(g:cv κ Φ α Z H (c8 op a b Ω) Q):vl op x y H Q:=by
 obtain⟨d,e,h,m,i,j,l,k⟩:=gg (bw:=false) S c f g;exact Cc (bw:=false) i j (dN S) l k
theorem nt{neg:Bool}{b c:D}{x y:V}(S:bR κ α Z Ω H)(d:au α Z H b x)(e:au α Z H c y)(g:cv κ Φ α Z H (fT neg b c Ω) Q):Cm neg x y H Q:=by
 unfold fT at g;split at g
 .rename_i o f
  obtain⟨a,h,rfl,i,j,k⟩:=oY S e d f;refine⟨a,h,rfl,i,?_⟩;rw[qF j k];exact cv.ret S (a_ rfl) g
 .exact g.elim
theorem nu{neg:Bool}{op:CmpOp}(h:op=if neg then .IsNot else .Is){c e:D}{x y:V}(S:bR κ α Z Ω H)(f:au α Z H c x)(b:au α Z H e y)(g:cv κ Φ α Z H (e_ neg c e Ω) Q) :
  (if neg then (y=.non/\Q (.bl (!decide (x=.non))) H)else (y=.non/\Q (.bl (decide (x=.non))) H)):=by
 unfold e_ at g;split at g
 .simp only[au]at f b
  obtain⟨a,_,rfl⟩:=f;have:=cv.ret S (a_ (d:=.bl neg) rfl) g;cases neg
  .exact⟨b,this⟩
  .exact⟨b,this⟩
 .exact g.elim
theorem nv{op:CmpOp}:∀x y Ω d ao,c8 op x y Ω=.ok d ao->∃t,d=.bl t:=λx y Ω d ao h=>by
 unfold c8 fE at h;split at h
 .rename_i a b _ _
  dsimp only at h;cases q:dH op a b with
  |ok t=>
   have e:(do let r ←dH op a b;Out.ok (false,D.bl r))=Out.ok (false,D.bl t):=by rw[q];rfl
   rw[e]at h;simp only[fD,eS,if_true]at h;cases h;exact⟨_,rfl⟩
  |exc c f=>
   have e:(do let r ←dH op a b;Out.ok (false,D.bl r))=Out.exc c f:=by rw[q];rfl
   rw[e]at h;cases h
  |bad=>
   have e:(do let r ←dH op a b;Out.ok (false,D.bl r))=Out.bad:=by rw[q];rfl
   rw[e]at h;cases h
 .cases h
theorem rZ{neg:Bool}:∀x y Ω d ao,fT neg x y Ω=.ok d ao->∃t,d=.bl t:=λx y Ω d ao h=>by
 unfold fT at h;split at h
 .cases h;exact⟨_,rfl⟩
 .cases h
theorem r_{neg:Bool}:∀x y Ω d ao,e_ neg x y Ω=.ok d ao->∃t,d=.bl t:=λx y Ω d ao h=>by
 unfold e_ at h;split at h
 .cases h;exact⟨_,rfl⟩
 .cases h
theorem sd{op:CmpOp}(s:X.A.units+64<cLine)(h:behindInMarks op b=false)(i:bz X κ Φ a ma)(j:bz X κ Φ b mb):bz X κ Φ (.Compare a [op] [b] pos) (m2 (ax op) ma mb)/\gf X κ Φ (.Compare a [op] [b] pos) (m2 (ax op) ma mb):=by
 have E:bz X κ Φ (.Compare a [op] [b] pos) (m2 (c8 op) ma mb):=dO (λk tb c d=>ic (iN s op) c d h) i j λl m x y n Z o H Q S e f g=>nr S e f g
 have T:gf X κ Φ (.Compare a [op] [b] pos) (m2 (c8 op) ma mb):=gw (λk tb c d=>ie (iN s op) c d h) i j nv λl m x y n Z o H Q S e f g=>nr S e f g
 have p:X.A.units+1<cLine:=by omega
 cases op with
 |In=>
  have q:bz X κ Φ (.Compare a [.In] [b] pos) (m2 (fT false) ma mb):=dO (λk tb c d=>ic (vQ p) c d h) i j λl m x y n Z o H Q S e f g=>nt S e f g
  have r:gf X κ Φ (.Compare a [.In] [b] pos) (m2 (fT false) ma mb):=gw (λk tb c d=>ie (vQ p) c d h) i j rZ λl m x y n Z o H Q S e f g=>nt S e f g
  show bz X κ Φ _ (m2 (fR (c8 .In) (fT false)) ma mb)/\gf X κ Φ _ (m2 (fR (c8 .In) (fT false)) ma mb)
  rw[gY];exact⟨E.alt q,T.alt r⟩
 |NotIn=>
  have q:bz X κ Φ (.Compare a [.NotIn] [b] pos) (m2 (fT true) ma mb):=dO (λk tb c d=>ic (mx p) c d h) i j λl m x y n Z o H Q S e f g=>nt S e f g
  have r:gf X κ Φ (.Compare a [.NotIn] [b] pos) (m2 (fT true) ma mb):=gw (λk tb c d=>ie (mx p) c d h) i j rZ λl m x y n Z o H Q S e f g=>nt S e f g
  show bz X κ Φ _ (m2 (fR (c8 .NotIn) (fT true)) ma mb)/\gf X κ Φ _ (m2 (fR (c8 .NotIn) (fT true)) ma mb)
  rw[gY];exact⟨E.alt q,T.alt r⟩
 |Is=>
  have q:bz X κ Φ (.Compare a [.Is] [b] pos) (m2 (e_ false) ma mb):=dO (λk tb c d=>ic uR c d h) i j λl m x y n Z o H Q S e f g=>nu (neg:=false) (op:=.Is) rfl S e f g
  have r:gf X κ Φ (.Compare a [.Is] [b] pos) (m2 (e_ false) ma mb):=gw (λk tb c d=>ie uR c d h) i j r_ λl m x y n Z o H Q S e f g=>nu (neg:=false) (op:=.Is) rfl S e f g
  show bz X κ Φ _ (m2 (fR (e_ false) (c8 .Is)) ma mb)/\gf X κ Φ _ (m2 (fR (e_ false) (c8 .Is)) ma mb)
  rw[gY];exact⟨q.alt E,r.alt T⟩
 |IsNot=>
  have q:bz X κ Φ (.Compare a [.IsNot] [b] pos) (m2 (e_ true) ma mb):=dO (λk tb c d=>ic ro c d h) i j λl m x y n Z o H Q S e f g=>nu (neg:=true) (op:=.IsNot) rfl S e f g
  have r:gf X κ Φ (.Compare a [.IsNot] [b] pos) (m2 (e_ true) ma mb):=gw (λk tb c d=>ie ro c d h) i j r_ λl m x y n Z o H Q S e f g=>nu (neg:=true) (op:=.IsNot) rfl S e f g
  show bz X κ Φ _ (m2 (fR (e_ true) (c8 .IsNot)) ma mb)/\gf X κ Φ _ (m2 (fR (e_ true) (c8 .IsNot)) ma mb)
  rw[gY];exact⟨q.alt E,r.alt T⟩
 |Eq=>exact⟨E,T⟩
 |NotEq=>exact⟨E,T⟩
 |Lt=>exact⟨E,T⟩
 |LtE=>exact⟨E,T⟩
 |Gt=>exact⟨E,T⟩
 |GtE=>exact⟨E,T⟩
def fF(Ω:aD)(x:D):Option (List D):=match x with
 |.tup a=>some a
 |x=>de Ω x
def yL(x y:D)(Ω:aD):ay D:=match fF Ω x,y with
 |some a,.int i=>match L2.jD a i with
  |some d=>.ok d Ω
  |none=>.bad
 |_,_=>.bad
def yM(x y:D)(Ω:aD):ay D:=match qE Ω x y with
 |some (some d)=>.ok d Ω
 |_=>.bad
def az:D->D->aD->ay D:=fR yL (fR yM (fE qo))
theorem kB{x:D}{v:V}{ds:List D}{K:PySem.W.Frag}(S:bR κ α Z Ω H)(r:au α Z H x v)(h:fF Ω x=some ds):∃a vs,v=.ref a/\(jb K H a vs\/pT K H a vs)/\aI (au α Z H) ds vs:=by
 unfold fF at h;split at h
 .cases h
  obtain⟨a,vs,rfl,_,b,c⟩:=eU r;exact⟨a,vs,rfl,.inr (tP (.inl b)),c⟩
 .obtain⟨a,vs,rfl,b,c⟩:=bJ S r h
  exact⟨a,vs,rfl,.inl (jv b),c⟩
theorem yN{ds:List D}{vs:List V}{R:D->V->Prop}{i:Int}{d:D}(r:aI R ds vs)(h:L2.jD ds i=some d):∃v,L2.jD vs i=some v/\R d v:=by
 unfold L2.jD at h ⊢;rw[r.length];cases q:L2.AV ds.length i with
 |none=>rw[q]at h;cases h
 |some n=>rw[q]at h;exact r.get h
theorem yO(G:X.A.units+1<cLine)(l:rz b)(m:bz X κ Φ a ma)(n:bz X κ Φ b mb):bz X κ Φ (.Subscript a b pos) (m2 az ma mb):=by
 unfold az;rw[gY,gY];refine bz.alt ?_ (bz.alt ?_ ?_)
 .refine dO (r:=Ik X.K) (λt tb f h=>AW u9 f h l) m n λw z x y B Z C H Q S j c g=>?_
  unfold yL at g;split at g
  .rename_i N i o
   obtain⟨p,D,rfl,h2,q⟩:=kB (K:=X.K) S j o;simp only[au]at c;subst c;split at g
   .rename_i d s
    obtain⟨v,E,F⟩:=yN q s;rcases h2 with h2|h2
    .exact .inl ⟨p,D,i,v,rfl,rfl,h2,E,cv.ret S F g⟩
    .exact .inr (.inl ⟨p,D,i,v,rfl,rfl,h2,E,cv.ret S F g⟩)
   .exact g.elim
  .exact g.elim
 .refine dO (r:=λx y H Q=>∃a v,x=.ref a/\kb H a y (some v)/\Q v H) (λt tb f h=>yh G f h l) m n λw z x y B Z C H Q S j c g=>?_
  unfold yM at g;split at g
  .rename_i d s
   obtain⟨a,O,rfl,o,h2,_⟩:=oY S j c s;obtain⟨u,rfl,q⟩:=h2 d rfl;exact⟨a,u,rfl,o,cv.ret S q g⟩
  .exact g.elim
 .refine dO (r:=Ik X.K) (λt tb f h=>AW u9 f h l) m n λw z x y B Z C H Q S j c g=>?_
  obtain⟨d,e,I,P,J,L,M,k⟩:=gg (bw:=false) S j c g;exact Ce (bw:=false) J L (dN S) M k
def gh(n:Bool)(m:EM):aR->aD->ay (Option Int):=λc b=>if n=true then .ok none b else (m c b).bind λd a=>match d with
 |.int i=>.ok (some i) a
 |_=>.bad
def jx(x:D)(a b:Option Int)(Ω:aD):ay D:=match x,de Ω x with
 |_,some c=>gX Ω (.lst (du c a b))
 |.str z,none=>fD Ω (vf (.str z) a b)
 |_,_=>.bad
def cH(e:EM)(f:Bool)(g:EM)(i:Bool)(j:EM):EM:=λa k=>(e a k).bind λx b=>(gh f g a b).bind λl c=>(gh i j a c).bind λh d=>jx x l h d
def Ip(X:Cx)(κ:Str->Addr->Prop)(Φ:gb)(o:Option Expr)(n:Bool)(m:EM):Prop:=(o=none/\n=true)\/∃e,o=some e/\n=false/\bz X κ Φ e m
theorem ei{o:Option Expr}{n:Bool}(h:Ip X κ Φ o n m)(g:List Addr)(r:Addr->Prop)(s:Hp)(ρ:aR)(Ω:aD):∃t,PO X o t/\∀j H b Z Q,cY κ g r s b Z Ω ρ j H ->
  (match gh n m ρ Ω with
   |.ok l aG=>∀c a f,cO b Z H a f c->bR κ a f aG c->Q l c
   |.exc x aG=>∀c a f,cO b Z H a f c->bR κ a f aG c->Φ x aG a f c
   |.bad=>False)->t j H Q:=by
 rcases h with ⟨rfl,rfl⟩|⟨e,rfl,rfl,w⟩
 .refine⟨rr,x_,λj H b Z Q S k=>?_⟩
  exact k H b Z (cO.refl S.st.has) S.st
 .refine⟨_,ya (w g r s ρ Ω),λj H b Z Q S k=>⟨b,Z,S,?_⟩⟩
  simp only[gh,Bool.false_eq_true,if_false]at k;rcases q:m ρ Ω with ⟨d,aG⟩|⟨x,aG⟩|_
  .rw[q]at k
   intro v y p z A B u;cases d with
   |int i=>simp only[au]at u;exact⟨i,u,k y p z A B⟩
   |_=>exact k.elim
  .rw[q]at k;exact k
  .rw[q]at k;exact k
theorem yP{ds:List D}{vs:List V}{R:D->V->Prop}(h:aI R ds vs)(a b:Option Int):aI R (du ds a b) (tF vs a b):=by
 unfold du tF;rw[h.length];exact(h.drop _).take _
theorem yQ{lo hi:Option Expr}{M N:Bool}{O P:EM}{p2:Pos}(y:bz X κ Φ a ma)(R:Ip X κ Φ lo M O)(z:Ip X κ Φ hi N P):bz X κ Φ (.Subscript a (.Slice lo hi none p2) pos) (cH ma M O N P):=by
 intro b e f c j;rcases q:ma c j with ⟨d,i⟩|⟨x,i⟩|_
 .obtain⟨tl,n,E⟩:=ei R b e f c i
  rcases A:gh M O c i with ⟨l,o⟩|⟨x,o⟩|_
  .obtain⟨F,m,B⟩:=ei z b e f c o
   refine PE.imp (fZ (r:=Fd X.K) (ig.or kk) (y b e f c j) n m) ?_;rintro s H Q ⟨t,Z,S,g⟩;refine⟨t,Z,S,?_⟩;simp only[cH,q,A,ay.bind]at g ⊢;intro v T u U C G r1;have g:=cv.from C g
   have S1:=S.grow C G;refine E s T u U _ S1 ?_;rw[A];intro V w Y D I;have g:=cv.from D g
   have S2:=S1.grow D I;refine B s V w Y _ S2 ?_;rcases q3:gh N P c o with ⟨h,a0⟩|⟨x,a0⟩|_
   .rw[q3]at g
    intro H3 b0 Z3 g3 J;have g:=cv.from g3 g
    have r3:=I.dA g3 (G.dA D r1);dsimp only[ay.bind]at g;unfold jx at g;split at g
    .rename_i ds hd
     obtain⟨p,vs,rfl,h1,h2⟩:=bJ J r3 hd;exact .inl ⟨p,vs,rfl,jv h1,eJ J (yP h2 l h) g⟩
    ·
     simp only[au]at r3;subst r3;obtain⟨c0,d,L,k⟩:=iq (bw:=false) J g;simp only[vf]at L;split at L
     .rename_i hs
      cases L;exact .inr ⟨_,rfl,bL hs,k _ H3 _ _ (eF.refl J.dom) (.rep (fj rfl))⟩
     .cases L
    .exact g.elim
   .rw[q3]at g;exact g
   .rw[q3]at g;exact g
  .obtain⟨F,m,B⟩:=ei z b e f c i
   refine PE.imp (fZ (r:=Fd X.K) (ig.or kk) (y b e f c j) n m) ?_;rintro s H Q ⟨t,Z,S,g⟩;refine⟨t,Z,S,?_⟩;simp only[cH,q,A,ay.bind]at g ⊢;intro v T u U C G r1;refine E s T u U _ (S.grow C G) ?_;rw[A];intro V w Y D I;exact g V w Y (C.trans D) I
  .obtain⟨F,m,B⟩:=ei z b e f c i
   refine PE.imp (fZ (r:=Fd X.K) (ig.or kk) (y b e f c j) n m) ?_;rintro s H Q ⟨t,Z,S,g⟩;simp only[cH,q,A,ay.bind]at g;exact g.elim
 .obtain⟨tl,n,E⟩:=ei R b e f c j
  obtain⟨F,m,B⟩:=ei z b e f c j;refine PE.imp (fZ (r:=Fd X.K) (ig.or kk) (y b e f c j) n m) ?_;rintro s H Q ⟨t,Z,S,g⟩;refine⟨t,Z,S,?_⟩;simp only[cH,q,ay.bind]at g ⊢;exact g
 .obtain⟨tl,n,E⟩:=ei R b e f c j
  obtain⟨F,m,B⟩:=ei z b e f c j;refine PE.imp (fZ (r:=Fd X.K) (ig.or kk) (y b e f c j) n m) ?_;rintro s H Q ⟨t,Z,S,g⟩;simp only[cH,q,ay.bind]at g;exact g.elim
end
theorem PE.ex{X:Cx}{e:Expr}{b:Type}{t:b->TE}(h:∀i,PE X e (t i)):PE X e (λa H Q=>∃i,t i a H Q):=λpins s a H Q I ⟨i,q⟩=>h i pins s a H Q I q
theorem PT.ex{X:Cx}{e:Expr}{b:Type}{t:b->TT}(h:∀i,PT X e (t i)):PT X e (λa H Q=>∃i,t i a H Q):=λpins s a H Q I ⟨i,q⟩=>h i pins s a H Q I q
theorem PW.ex{X:Cx}{e:Expr}{b:Type}{t:b->TT}(h:∀i,PW X e (t i)):PW X e (λa H Q=>∃i,t i a H Q):=λc pins s a H Q I ⟨i,q⟩=>h i c pins s a H Q I q
theorem PA.ex{X:Cx}{es:List Expr}{c:Type}{t:c->TA}(h:∀i,PA X es (t i)):PA X es (λa H Q=>∃i,t i a H Q):=λb pins s a H Q I ⟨i,q⟩=>h i b pins s a H Q I q
def eK(c d:EM):EM:=λb e=>(c b e).bind λx a=>match fS a x with
 |some true=>d b a
 |some false=>.ok x a
 |none=>.bad
def Ea(c d:EM):EM:=λb e=>(c b e).bind λx a=>match fS a x with
 |some false=>d b a
 |some true=>.ok x a
 |none=>.bad
def gJ(b:EM):EM:=λc d=>(cx (b c d)).bind λt a=>.ok (.bl (!t)) a
def uE(mc c d:EM):EM:=λb e=>(cx (mc b e)).bind λt a=>if t=true then c b a else d b a
section
variable{X:Cx}{κ:Str->Addr->Prop}{Φ:gb}{α α' gW α1:List Addr}{Z Z' Z0 Z1:Addr->Prop}{Ω ao:aD}{H H' H0 H1:Hp}{ρ:aR}{σ:L2.St}{Q Q':VK}{r:ay D}{a b e ce:Expr}{rest:List Expr}{es:List Expr}{ma mb mc m:EM}{as:AM}{pos p:Pos}
theorem gi{d:D}{v:V}{t:Bool}{K:PySem.W.Frag}(S:bR κ α Z Ω H)(r:au α Z H d v)(h:fS Ω d=some t):oq K v H t:=by
 cases d with
 |non=>simp only[au]at r;subst r;cases h;rfl
 |bl b=>simp only[au]at r;subst r;cases h;rfl
 |int b=>simp only[au]at r;subst r;cases h;rfl
 |str b=>
  simp only[au]at r;subst r
  have n:Now Z H (.str b) (.str b):=by simp only[Now,Rep]
  exact Cd n h
 |lst ds=>
  cases h;obtain⟨a,c,rfl,f,g⟩:=bJ (ds:=ds) S r rfl;refine .inl ⟨c,jv f,?_⟩;have:=g.length;cases ds<;>cases c<;>simp at this ⊢
 |tup ds=>
  cases h;obtain⟨a,c,rfl,_,f,g⟩:=eU r;refine .inr (.inl ⟨c,tP (.inl f),?_⟩);have:=g.length;cases ds<;>cases c<;>simp at this ⊢
 |dct _ _=>cases h
 |ref k=>
  simp only[fS]at h;split at h
  .rename_i ds j
   cases h;obtain⟨a,c,rfl,f,g⟩:=bJ (ds:=ds) S r (by simp only[de,j])
   refine .inl ⟨c,jv f,?_⟩;have:=g.length;cases ds<;>cases c<;>simp at this ⊢
  .rename_i l j
   cases h;simp only[au]at r;obtain⟨a,m,rfl⟩:=r;obtain⟨o,i,e,f,g⟩:=S.cell j;rw[m]at i;cases i
   refine .inr (.inr ⟨e,f,?_⟩);have:=g.length;cases l<;>cases e<;>simp at this ⊢
  .cases h
theorem n9.use{r:ay Bool}{f:Bool->aD->ay D}{Q':Bool->Hp->Prop}(h:cv κ Φ α Z H (r.bind f) Q)(k:∀t aG,r=.ok t aG->∀b a c,cO α Z H a c b->bR κ a c aG b->cv κ Φ a c b (f t aG) Q->Q' t b):n9 κ Φ α Z H r Q':=by
 cases r with
 |ok d aG=>exact λb a c g s=>k d aG rfl b a c g s (cv.from g h)
 |exc x aG=>exact h
 |bad=>exact h
theorem n9.OQ{Q:Bool->Hp->Prop}{K:PySem.W.Frag}(h:n9 κ Φ α Z H (cx r) Q):cv κ Φ α Z H r (λv a=>∃t,oq K v a t/\Q t a):=by
 cases r with
 |ok d b=>
  intro v a c e g s q;simp only[cx]at h;split at h
  .rename_i t f
   exact⟨t,gi s q f,h a c e g s⟩
  .exact h.elim
 |exc x b=>exact h
 |bad=>exact h.elim
theorem yR(h:bz X κ Φ e m)(c:∀a,isTrue e X.env a=(do let v ←a;standAt e.pos;holding [v] (truthy v))):gf X κ Φ e m:=by
 intro b d f i j;refine PT.imp (uU (h b d f i j) c) ?_;rintro l H Q ⟨k,Z,S,g⟩;exact⟨k,Z,S,g.OQ⟩
theorem yS(n:bz X κ Φ a ma)(o:bz X κ Φ (.BoolOp .And (b::rest) pos) mb):bz X κ Φ (.BoolOp .And (a::b::rest) pos) (eK ma mb):=by
 intro d k l m p;refine PE.imp (yA (n d k l m p) (PE.ex λc=>o d k l m c)) ?_
 rintro t H Q ⟨q,Z,S,g⟩;refine⟨q,Z,S,cv.use g λx c _ v u h r s e i f=>?_⟩
 split at f
 .rename_i j
  exact⟨true,gi e i j,oG ⟨c,h,r,S.grow s e,f⟩⟩
 .rename_i j
  exact⟨false,gi e i j,oF (cv.ret e i f)⟩
 .exact f.elim
theorem Cn(n:bz X κ Φ a ma)(o:bz X κ Φ (.BoolOp .Or (b::rest) pos) mb):bz X κ Φ (.BoolOp .Or (a::b::rest) pos) (Ea ma mb):=by
 intro d k l m p;refine PE.imp (Cf (n d k l m p) (PE.ex λc=>o d k l m c)) ?_
 rintro t H Q ⟨q,Z,S,g⟩;refine⟨q,Z,S,cv.use g λx c _ v u h r s e i f=>?_⟩
 split at f
 .rename_i j
  exact⟨false,gi e i j,oF ⟨c,h,r,S.grow s e,f⟩⟩
 .rename_i j
  exact⟨true,gi e i j,oG (cv.ret e i f)⟩
 .exact f.elim
theorem tX{op:BoolOp}(c:bz X κ Φ a ma):bz X κ Φ (.BoolOp op [a] pos) ma:=λb d e f g=>BA (c b d e f g)
theorem yT(d:bz X κ Φ a ma):bz X κ Φ (.UnaryOp .Not a pos) (gJ ma):=by
 intro b e f h i;refine PE.imp (yB (d b e f h i)) ?_;rintro o H Q ⟨j,Z,S,g⟩;refine⟨j,Z,S,?_⟩;have:=n9.use (Q':=λt c=>Q (.bl (!t)) c) g λt k _ c l p q m n=>cv.ret m (a_ rfl) n
 exact this.OQ
theorem yU(h:gf X κ Φ a ma):gf X κ Φ (.UnaryOp .Not a pos) (gJ ma):=by
 intro b i j e f;refine PT.imp (Bz (h b i j e f)) ?_;rintro p H Q ⟨k,Z,S,g⟩;refine⟨k,Z,S,?_⟩;simp only[gJ]at g;cases q:cx (ma e f)with
 |ok t c=>rw[q]at g;exact λl d m n o=>g l d m n o
 |exc x c=>rw[q]at g;exact g
 |bad=>rw[q]at g;exact g
def A9(X:Cx)(κ:Str->Addr->Prop)(Φ:gb)(e:Expr)(m:EM):Prop:=∀a b c d f,PW X e (Kw κ Φ a b c m d f)
theorem A9.pt(h:A9 X κ Φ e m):gf X κ Φ e m:=λa b c d f=>(h a b c d f).pt
theorem yV{op:BoolOp}(c:gf X κ Φ a ma):A9 X κ Φ (.BoolOp op [a] pos) ma:=λb d e f g=>by
 cases op with
 |And=>exact pw_and1 (c b d e f g)
 |Or=>exact pw_or1 (c b d e f g)
theorem yW(p:gf X κ Φ a ma)(r:A9 X κ Φ (.BoolOp .And (b::rest) pos) mb):A9 X κ Φ (.BoolOp .And (a::b::rest) pos) (eK ma mb):=by
 intro e l m i n;refine PW.imp (pw_and (p e l m i n) (PW.ex λc=>r e l m i c)) ?_
 rintro t H Q ⟨s,Z,S,g⟩;refine⟨s,Z,S,?_⟩;simp only[eK]at g;cases q:ma i n with
 |ok x c=>
  rw[q]at g;dsimp only[ay.bind]at g;simp only[cx];split at g
  .rename_i f
   rw[f];exact λo d j h k=>oG ⟨c,d,j,S.grow h k,n9.from h g⟩
  .rename_i f
   rw[f];simp only[cx,f]at g;exact λo d j h k=>oF (g o d j h k)
  .exact g.elim
 |exc x c=>rw[q]at g;exact g
 |bad=>rw[q]at g;exact g.elim
theorem Co(p:gf X κ Φ a ma)(r:A9 X κ Φ (.BoolOp .Or (b::rest) pos) mb):A9 X κ Φ (.BoolOp .Or (a::b::rest) pos) (Ea ma mb):=by
 intro e l m i n;refine PW.imp (pw_or (p e l m i n) (PW.ex λc=>r e l m i c)) ?_
 rintro t H Q ⟨s,Z,S,g⟩;refine⟨s,Z,S,?_⟩;simp only[Ea]at g;cases q:ma i n with
 |ok x c=>
  rw[q]at g;dsimp only[ay.bind]at g;simp only[cx];split at g
  .rename_i f
   rw[f];exact λo d j h k=>oF ⟨c,d,j,S.grow h k,n9.from h g⟩
  .rename_i f
   rw[f];simp only[cx,f]at g;exact λo d j h k=>oG (g o d j h k)
  .exact g.elim
 |exc x c=>rw[q]at g;exact g
 |bad=>rw[q]at g;exact g.elim
theorem yX(n:gf X κ Φ ce mc)(o:bz X κ Φ a ma)(p:bz X κ Φ b mb):bz X κ Φ (.IfExp ce a b pos) (uE mc ma mb):=by
 intro d h i j q;refine PE.imp (uK (n d h i j q) (PE.ex λc=>o d h i j c) (PE.ex λc=>p d h i j c)) ?_
 rintro s H Q ⟨r,Z,S,g⟩;refine⟨r,Z,S,n9.use g λt c _ u e k l m f=>?_⟩
 cases t with
 |true=>rw[if_pos rfl]at f;exact oG ⟨c,e,k,S.grow l m,f⟩
 |false=>rw[if_neg Bool.false_ne_true]at f;exact oF ⟨c,e,k,S.grow l m,f⟩
theorem yY(r:gf X κ Φ ce mc)(u:gf X κ Φ a ma)(w:gf X κ Φ b mb):gf X κ Φ (.IfExp ce a b pos) (uE mc ma mb):=by
 intro e j k f n pins s l H Q I;rintro⟨y,Z,S,g⟩;simp only[uE]at g
 have o:Kw κ Φ e j k mc f n l H (λt i=>∃c d h,cY κ e j k d h c f l i/\n9 κ Φ d h i (cx (if t=true then ma f c else mb f c)) Q):=by
  refine⟨y,Z,S,?_⟩;cases q:cx (mc f n)with
  |ok t c=>
   rw[q]at g;exact λi d h p m=>⟨c,d,h,S.grow p m,n9.from p g⟩
  |exc x c=>rw[q]at g;exact g
  |bad=>rw[q]at g;exact g.elim
 refine isTrue_IfExp (cC (r e j k f n pins s l H _ I o) λv m ⟨i,I1,c,d,h,S1,k1⟩=>?_)
 cases v with
 |true=>rw[if_pos rfl]at k1;exact u e j k f c pins m l i Q I1 ⟨d,h,S1,k1⟩
 |false=>rw[if_neg Bool.false_ne_true]at k1;exact w e j k f c pins m l i Q I1 ⟨d,h,S1,k1⟩
def jy(op b:CmpOp)(g h mc:EM):EM:=λc i=>(g c i).bind λx d=>(h c d).bind λy e=>(cx (c8 op x y e)).bind λt a=>if t=true then (mc c a).bind λz f=>c8 b y z f else .ok (.bl false) a
theorem vR{op b:CmpOp}(S:cY κ gW Z0 H0 α Z Ω ρ f H)(g:cv κ Φ α Z H (jy op b ma mb mc ρ Ω) Q) :
  pW (vl op) (vl b) (tO κ Φ gW Z0 H0 ma ρ Ω) (λf H Q=>∃aG,tO κ Φ gW Z0 H0 mb ρ aG f H Q) (λf H Q=>∃aG,tO κ Φ gW Z0 H0 mc ρ aG f H Q) f H Q:=by
 refine⟨α,Z,S,cv.use g λx aG _ v P i C r j D E=>?_⟩
 refine⟨aG,i,C,S.grow r j,cv.use E λy k _ w F l G s m A c=>?_⟩
 have I:=(S.grow r j).grow s m;refine nr (op:=op) (κ:=κ) (Φ:=Φ) m (j.dA s D) A ?_;cases q:c8 op x y k with
 |ok d a=>
  obtain⟨t,rfl⟩:=nv _ _ _ _ _ q;intro u R n J o p B;simp only[au]at B;refine⟨t,B,?_⟩;rw[q]at c;have e:cv κ Φ l G F (if t=true then (mc ρ a).bind λz h=>c8 b y z h else .ok (.bl false) a) Q:=c
  have e:=cv.from o e
  cases t with
  |true=>
   rw[if_pos rfl]at e ⊢;refine⟨a,n,J,I.grow o p,cv.use e λz h _ T U K V L M N O=>?_⟩
   exact nr M (p.dA L (m.dA o A)) N O
  |false=>
   rw[if_neg Bool.false_ne_true]at e ⊢;exact cv.ret p (a_ rfl) e
 |exc x a=>rw[q]at c;exact c
 |bad=>rw[q]at c;exact c
theorem yZ{op c:CmpOp}(j:X.A.units+64<cLine)(k:lastMarks [op,c] [b,ce]=false)(l:bz X κ Φ a ma)(m:bz X κ Φ b mb)(n:bz X κ Φ ce mc):bz X κ Φ (.Compare a [op,c] [b,ce] pos) (jy op c ma mb mc):=by
 intro d f h i o;refine PE.imp (uS (iN j op) (iN j c) (l d f h i o) (PE.ex λe=>m d f h i e) (PE.ex λe=>n d f h i e) k) ?_
 rintro p H Q ⟨q,Z,S,g⟩;exact vR S g
theorem Cp{op a:CmpOp}{d:D}{ao:aD}(h:jy op a ma mb mc ρ Ω=.ok d ao):∃t,d=.bl t:=by
 simp only[jy]at h;cases b:ma ρ Ω with
 |ok x c=>
  rw[b]at h;dsimp only[ay.bind]at h
  cases e:mb ρ c with
  |ok y f=>
   rw[e]at h;dsimp only[ay.bind]at h
   cases g:cx (c8 op x y f)with
   |ok t i=>
    rw[g]at h;dsimp only[ay.bind]at h
    split at h
    .cases j:mc ρ i with
     |ok z k=>rw[j]at h;exact nv _ _ _ _ _ h
     |exc _ _=>rw[j]at h;cases h
     |bad=>rw[j]at h;cases h
    .cases h;exact⟨_,rfl⟩
   |exc _ _=>rw[g]at h;cases h
   |bad=>rw[g]at h;cases h
  |exc _ _=>rw[e]at h;cases h
  |bad=>rw[e]at h;cases h
 |exc _ _=>rw[b]at h;cases h
 |bad=>rw[b]at h;cases h
theorem y8{op c:CmpOp}(l:X.A.units+64<cLine)(o:lastMarks [op,c] [b,ce]=false)(p:bz X κ Φ a ma)(r:bz X κ Φ b mb)(s:bz X κ Φ ce mc):gf X κ Φ (.Compare a [op,c] [b,ce] pos) (jy op c ma mb mc):=by
 intro f i j h m;refine PT.imp (uT (iN l op) (iN l c) (p f i j h m) (PE.ex λe=>r f i j h e) (PE.ex λe=>s f i j h e) o) ?_
 rintro B H Q ⟨C,Z,S,g⟩;refine vR S ?_;cases q:jy op c ma mb mc h m with
 |ok d e=>
  obtain⟨t,rfl⟩:=Cp q;rw[q]at g;intro v u k w y z n;simp only[au]at n;exact⟨t,n,g u k w y z⟩
 |exc x e=>rw[q]at g;exact g
 |bad=>rw[q]at g;exact g.elim
def bD(f:List D->Out Rs):List D->aD->ay D:=λb a=>match bN (eO a 8) b with
 |some c=>fD a (f c)
 |none=>.bad
theorem iv{bw:Bool}{f:List D->Out Rs}{xs:List D}{vs:List V}(S:bR κ α Z Ω H)(i:aI (au α Z H) xs vs)(h:cv κ Φ α Z H (bD f xs Ω) Q) :
  ∃ds a d',aY (rY α Z) H ds vs/\f ds=.ok (a,d')/\∀v b c,eF (rY α Z) H c b->ef bw a c H b d' v->Q v b:=by
 unfold bD at h;split at h
 .rename_i ds j
  obtain⟨a,d',e,k⟩:=iq (bw:=bw) S h;exact⟨ds,a,d',gc (eI (S:=Rep (rY α Z) H) (λd d' v q r=>jH S 8 q r) j i),e,λv b c g q=>k v b _ c g q⟩
 .exact h.elim
theorem tY{k:Nat}{x:Str}{F:List D->Out Rs}(F0:Fe X k x F)(j:cP k X.A)(l:Gl X x)(a:(x==("__debug__":Str))=false)
  (m:starEach (e::es) X.env=(false,eval e X.env)::starEach es X.env) (b:(backTo pos (starEach es X.env)).any (·.1)=false) (n:oV X κ Φ (e::es) as) :
  bz X κ Φ (.Call (.Name x p) (e::es) [] pos) (mN (bD F) as):=by
 obtain⟨f,O,P,o,q,r,F1⟩:=F0.ex;intro c s t u w;refine PE.imp (rq F1 j l o q r .nil kd (n c s t u w) a m b) ?_;rintro R H Q ⟨y,Z,S,g⟩;refine⟨y,Z,S,oU.use g λT z _ B C d E U i G I=>?_⟩
 show km F (B++[]) C Q E0
 rw[List.append_nil];obtain⟨J,h,K,L,M,N⟩:=iv (bw:=false) i G I;exact⟨rY d E,J,h,K,dN i,L,M,N⟩
end
end Mir
namespace L2
open PySem PySem.Spec PyProof.Rows PySem.W
section
variable{P:Program}{w:World}{K:PySem.W.Frag}{mg:Str->Option Value}{base:Heap}
end
end L2
namespace L2
open PySem PySem.Spec PyProof.Rows
def Fo(a:Addr)(o:Obj):It:=
 ⟨λi H=>∃b,H a=some (.dr o (.dK b))/\i<b.length,λi H x d=>d=H/\∀b,H a=some (.dr o (.dK b))->∃c,b[i]?=some c/\x=kV c.1,λi H=>∃b,H a=some (.dr o (.dK b))/\b.length<=i⟩
theorem fG{a b:Type}{F:a->b->Prop}:∀{xs:List a}{us:List b}{i:Nat}{x:a},Paired F xs us->xs[i]?=some x->∃u,us[i]?=some u/\F x u
 |_,_,_,_,.nil,e=>by simp at e
 |_,_,0,_,.cons r _,e=>by simp at e;subst e;exact⟨_,rfl,r⟩
 |_,_,i+1,x,.cons _ t,e=>by
  obtain⟨u,h1,h2⟩:=fG (i:=i) (x:=x) t (by simpa using e)
  exact⟨u,by simpa using h1,h2⟩
theorem ny{k:Key}{u:Value}{P:Program}{w:World}(h:(bQ P w).is k u=true):RelV (kV k) u:=by
 rcases cu (show jW k u=true from h)with ⟨i,t,rfl,rfl⟩|⟨x,t,rfl,rfl⟩
 .exact⟨t,rfl⟩
 .exact⟨t,rfl⟩
theorem iR{P:Program}{w:World}{H:Hp}{h:Heap}{a:Addr}{o:Obj}{kvs:List (Key×V)}{es:Array DictEntry}{ep:Nat}(ok:hZ P w H h)(e:H a=some (.dr o (.dK kvs)))(c:o.data=.dict es ep) :
  ∃vs,KV kvs vs/\h.DictAt (bQ P w) a vs ep/\es.size=vs.length/\(a==sysModules)=false:=by
 obtain⟨d,_,i,vs,r,p,j,k,b,l,f,m,g,n⟩:=ok a _ e;rw[d]at b;cases b
 rw[c]at f;cases f
 refine⟨vs,r,⟨o,es,d,l,c,m,g,n⟩,?_,i⟩;rw[←g.length];simp
theorem tZ{P:Program}{w:World}{K:PySem.W.Frag}{U:Expr}(a it:Addr){o:Obj}{es:Array DictEntry}{ep:Nat}(O:o.data=.dict es ep):Turn P w K U (Fo a o) [it] it (λi h=>h.IsKeyIter it a i es.size ep) where
 mem:=by simp
 obj:=λi h f b j=>by
  have e:b=it:=by simpa using j
  subst e;obtain⟨o,e,c,d⟩:=f;exact⟨o,e,λv z=>by rw[d]at z;cases z⟩
 keep:=λi h p f k=>by
  obtain⟨o,e,c,d⟩:=f;exact⟨o,k it (by simp) o e,c,d⟩
 item:=by
  intro X y A B Q i pins s R H E I t f C;subst y A B;obtain⟨g,u,S⟩:=C;obtain⟨V,r,D,x,_⟩:=iR I.hok u O;have l:g[i]?=some g[i]:=List.getElem?_eq_getElem S;obtain⟨q,Y,Z⟩:=fG r l;obtain⟨F,G,f2,J,L,M⟩:=t it (by simp)
  rw[x]at f;refine wpAny_pyNext_dict_item f D (k:=q.1) (v:=q.2) Y λN p hk m sb=>?_
  have I1:Inv X pins R H {s with heap:=p}:=I.turned (t':=s.toks) (λb o j e=>(sb.2 b j).trans e) F G J L M
  obtain⟨o1,e1,c1,d1⟩:=id m;refine⟨N,rfl,oo (s:={s with heap:=p}) e1 c1 d1 (by decide) ⟨kV q.1,H,I1,ny hk,⟨rfl,λT n=>?_⟩,by rw[x];exact m,λb j=>(t b j).1⟩⟩
  rw[u]at n;cases n
  exact⟨g[i],l,by rw[Z.1]⟩
 done:=by
  intro X y A B Q i pins s R H E I t f C;subst y A B;obtain⟨g,u,S⟩:=C;obtain⟨V,r,D,x,_⟩:=iR I.hok u O;obtain⟨F,G,f2,J,L,M⟩:=t it (by simp)
  have hl:=r.length;rw[x]at f;exact wpAny_pyNext_dict_end (I.ok.hd Q) f D (List.getElem?_eq_none (by omega)) λp eb=>⟨rfl,I.turned (t':=s.toks) (λb o j e=>eb b o j e) F G J L M⟩
 self:=λ_ _ _ _ _ f h=>wpAny_pyIter_keyiter f h
section
variable{X:Cx}{pins:List (Addr×Obj)}{σ:St}{H:Hp}{s:Shared}
theorem Inv.sg{a:Addr}{kvs:List (Key×V)}(I:Inv X pins σ H s)(e:H a=some (.dK kvs)):∃o es ep,s.heap.get? a=some o/\o.data=.dict es ep/\Inv X pins σ (upd H a (.dr o (.dK kvs))) s:=by
 obtain⟨z,d,f,r,o,es,ep,b,g,c,h,i,j⟩:=I.hok a _ e;refine⟨o,es,ep,b,c,?_⟩;have:=rD (t':=s.toks) (h':=s.heap) (ob:=.dr o (.dK kvs)) I (by rw[e];exact True.intro) ⟨rfl,λ_ _=>rfl⟩ ⟨o,b⟩ ⟨b,z,d,f,r,o,es,ep,b,g,c,h,i,j⟩
 exact this
def Fp(R:It->Hp->Prop)(x:V)(c:Hp):Prop:=∃a b,x=.ref a/\((c a=some (.dK b)/\∀o,R (Fo a o) (upd c a (.dr o (.dK b))))\/∃o,c a=some (.dr o (.dK b))/\R (Fo a o) c)
theorem y9{p:Expr}{x:V}{u:Value}{R:It->Hp->Prop}(l:Inv X pins σ H s)(B:RelV x u)(q:Fp R x H):wpAny (model X.prog X.w) X.A (pyIter u) (PIE X pins σ p R) X.xe s:=by
 obtain⟨a,m,rfl,q⟩:=q;cases (show u=Value.ref a from B)
 have c:∀(o:Obj) (e:Array DictEntry) (d:Nat) (f:Hp),Inv X pins σ f s->f a=some (.dr o (.dK m))->o.data=.dict e d->R (Fo a o) f->wpAny (model X.prog X.w) X.A (pyIter (.ref a)) (PIE X pins σ p R) X.xe s:=by
  intro o e d f g C j h;obtain⟨n,r,D,E,t⟩:=iR g.hok C j;refine wpAny_pyIter_dict t D ?_;have F:Inv X pins σ f {s with heap:=s.heap.push {cls:=.type "dict_keyiterator",data:=.fields #[.ref a,.int 0 0,.int n.length 0,.int d 0]} }:=g.kept (t':=s.toks) λb o q=>Heap.get?_push_of_some _ q
  refine⟨s.heap.objs.size,[s.heap.objs.size],_,_,f,rfl,F,tZ a _ j,?_,λb G=>?_,h⟩
  .rw[E]
   exact⟨{cls:=.type "dict_keyiterator",data:=.fields #[.ref a,.int 0 0,.int n.length 0,.int d 0]},Heap.get?_push_size _ rfl,rfl,rfl⟩
  .have z:b=s.heap.objs.size:=by simpa using G
   rw[z];have:=g.uP (b:=s.heap.objs.size) (Nat.le_refl _) (g.hok.fresh (Nat.le_refl _));exact this
 rcases q with ⟨k,h⟩|⟨o,k,h⟩
 .obtain⟨o,e,d,y,j,g⟩:=l.sg k
  exact c o e d _ g ba j (h o)
 .obtain⟨y,_,t,n,r,J,e,d,i,K,I,L⟩:=l.hok a _ k
  rw[y]at i;cases i
  exact c o e d _ l k I h
end
section
variable{prog:Program}{w:World}{A:Around}{E:Value->Shared->Prop}{s:Shared}
theorem t8{a:Addr}{Q:Bool->Shared->Prop}(e:s.TypeIs (.ref a) "dict")(h:Q false s):wpAny (model prog w) A (Builtin.List.listLengthHint (.ref a)) Q E s:=by
 unfold Builtin.List.listLengthHint;refine wpAny_bind (wpAny_specialOf e F.slot_dict_len.lookup ?_);generalize d:("dict.__len__":String)=f
 wp_delta
 rw[show splitId f=some ("dict","__len__")from by subst d;decide +kernel]
 subst d;refine wpAny_bind (wpAny_isInstance (T:="dict") (b:=true) e isSubtype_dict_dict ?_);refine wpAny_ite_split (λc=>absurd c (by decide)) (λ_=>?_)
 refine wpAny_ite_split (λ_=>?_) (λc=>absurd (by decide +kernel) c)
 refine wpAny_bind (wpAny_typeOf e ?_);exact wpAny_pure h
theorem nz{a:Addr}{o:Obj}{xs:Array Value}{k:Nat}{Q:Option Value->Shared->Prop}(m:s.heap.get? a=some o)(n:o.cls=.type "list")(f:o.data=.seq xs k)(p:o.dict=none)(t:A.handled=none)
  (h:∀h' q,(∀b o,s.heap.get? b=some o->h'.get? b=some o)->Q none {s with heap:=h',toks:=q}):wpAny (model prog w) A (getAttr? (.ref a) "keys") Q E s:=by
 obtain⟨c,u,x,y⟩:=o;simp only at n f p;subst n f p;obtain⟨z,g,d,q,B⟩:=s;have r:∀j,(⟨z,g,d,j,B⟩:Shared).TypeIs (.ref a) "list":=λ_=>⟨_,m,rfl⟩
 have C:=sub_AttributeError;have D:=F.slot_list_getattribute.lookup;have G:=F.slot_list_getattribute.bind (.ref a);have H:=am_list_getattr_none;have i:typeLookup (.type "list") "keys"=pure none:=am_miss_of_fast (by kernel_rfl)
 unfold getAttr? getAttrBy? getAttrBy
 repeat (any_goals (first|assumption|exact r _ | ((with_reducible show wpAny _ _ (call (Value.builtin "list.__getattribute__") _ _) _ _ _);refine call_meets F.slot_list_getattribute (r _) am_entry_list_getattribute (F.args_list_getattribute_2 _ _) (meets_getattribute_miss_list a xs k y "keys" _ i (by decide) (by decide)) ⟨m,t,λh' j e l=>?_⟩)|wp_step))
 obtain⟨I,J,K⟩:=l.there
 show wpAny _ _ (getattributeRaised _ _ _ _ _ _ _) _ _ _
 unfold getattributeRaised
 repeat (any_goals (first|assumption|wp_step))
 exact h _ _ λb o e=>l.keeps b o e
theorem c9:plainId "dict.update.loop"=true:=by decide +kernel
theorem eV:entryFor table "dict.update.loop"=some Builtin.«dict.update.loop» := entryFor_of_fast (by kernel_rfl)
variable{K:Type}[DecidableEq K]{knd:KeyKind prog w K}
theorem kC{c d:Type}{F G:c->d->Prop}(h:∀a b,F a b->G a b):∀{xs:List c}{us:List d},Paired F xs us->Paired G xs us
 |_,_,.nil=>.nil
 |_,_,.cons r t=>.cons (h _ _ r) (kC h t)
def kD(knd:KeyKind prog w K)(h:Heap)(p:K×Value)(u:Value):Prop:=∃b o a n,u=.ref b/\h.get? b=some o/\o.cls=.type "tuple"/\o.data=.seq #[a,p.2] n/\knd.is p.1 a=true
theorem oZ{R:Result->Shared->Prop}{l it d:Addr}{items:List Value}{h₀:Heap}(hh:A.handled=none)(h:d≠it)(E:l≠d)(F:l≠it)(hl:h₀.IsList l items.toArray)(j:Value)(S:∀o,h₀.get? d=some o->o.cls≠.type "tuple")(U:∀o,h₀.get? it=some o->o.cls≠.type "tuple") :
  ∀(ps:List (K×Value)) (i:Nat) (t:Tok) (s:Shared) (c:List (K×Value)),Paired (kD knd h₀) ps (items.drop i)->c.length+ps.length<=sizeLine->(∀b o,b≠d->b≠it->h₀.get? b=some o->s.heap.get? b=some o)->s.heap.IsListIter it l i->s.heap.DictOf knd d c ->
  (∀h' V,(∀b o,b≠d->b≠it->s.heap.get? b=some o->h'.get? b=some o)->h'.DictOf knd d (ps.foldl (λa p=>stored a p.1 p.2) c)->R (.ok (.ret j)) {s with heap:=h',toks:=V}) ->
  codeAny (model prog w) A (.builtin "dict.update.loop" ⟨[.ref d,.ref it,.int i t,j],[]⟩) R s:=by
 intro ps
 induction ps with
 |nil=>
  intro i t s c G X H k Y Z;refine codeAny_builtin eV ?_;rw[Around.under_plainId c9 _];have D:items.drop i=[]:=by generalize items.drop i=q at G;cases G;rfl
  have m:s.heap.IsList l items.toArray:=let ⟨o,y,r⟩:=hl;⟨o,H l o E F y,r⟩
  show wpAny _ A.in1 (pyNext (.ref it) >>= _) _ _ s
  refine wpAny_bind (wpAny_pyNext_list_end hh k m (by simpa using List.drop_eq_nil_iff.mp D) λh' eb=>?_)
  show wpAny _ _ (Builtin.Dict.addKeywords d [] >>= _) _ _ _
  exact wpAny_bind (wpAny_pure (wpAny_pure (Z h' s.toks (λb o _ Q e=>eb b o Q e) (Y.extBut eb h))))
 |cons p ps ih=>
  intro i t s c G X H k Y Z
  have D:∃u r,items.drop i=u::r/\kD knd h₀ p u/\Paired (kD knd h₀) ps r:=by
   generalize items.drop i=q at G;cases G with|cons a b=>exact⟨_,_,rfl,a,b⟩
  obtain⟨u,r,D,⟨b,o,I,n,rfl,y,hc,J,L⟩,a0⟩:=D
  have hi:items[i]?=some (.ref b):=by
   have:=congrArg (·[0]?) D;simpa using this
  have hr:items.drop (i+1)=r:=by rw[←List.drop_drop,D];rfl
  have m:s.heap.IsList l items.toArray:=let ⟨o,y,r⟩:=hl;⟨o,H l o E F y,r⟩
  have b0:b≠d:=λe=>S o (e▸y) hc
  have M:b≠it:=λe=>U o (e▸y) hc
  refine codeAny_builtin eV ?_;rw[Around.under_plainId c9 _]
  show wpAny _ A.in1 (pyNext (.ref it) >>= _) _ _ s
  refine wpAny_bind (wpAny_pyNext_list_item k m (x:=.ref b) (by simpa using hi) λh1 N z=>?_)
  have O:h1.get? b=some o:=(z.2 b M).trans (H b o b0 M y);have c0:h1.DictOf knd d c:=Y.extBut z.extBut h;refine wpAny_bind (wpAny_holding (wpAny_bind (wpAny_tryCatch ?_)));unfold Builtin.Dict.pairItems;refine wpAny_bind (wpAny_typeOf (T:="tuple") ⟨o,O,hc⟩ ?_);rw[if_pos (by decide)]
  unfold seqItems?;refine wpAny_bind (wpAny_bind (wpAny_load O ?_));rw[J];refine wpAny_pure (wpAny_pure ?_)
  show wpAny _ _ (holding [I,p.2] (dictSet d I p.2)) _ _ _
  refine wpAny_holding (wpAny_dictSet_pairs L c0 (λQ e0 P=>?_) (by simp at X;omega))
  refine wpAny_pure ⟨plainId_quiet c9 _,?_⟩;have keep:∀f g,f≠d->f≠it->s.heap.get? f=some g->Q.get? f=some g:=λf g B C e=>(P.2 f B).trans ((z.2 f C).trans e)
  show codeAny _ _ (.builtin "dict.update.loop" ⟨[.ref d,.ref it,rawInt ((i:Int)+1),j],[]⟩) _ _
  have:=ih (i+1) 0 {s with heap:=Q,toks:=s.toks+1} (stored c p.1 p.2) (by rw[hr];exact a0) (by have:=stored_length_le c p.1 p.2;simp at X;omega) (λf g B C e=>keep f g B C (H f g B C e)) (N.at λo e=>(P.2 it (Ne.symm h)).trans e) e0 (λh' V f0 g0=>Z h' V (λf g B C e=>f0 f g B C (keep f g B C e)) g0)
  exact this
theorem kE{l:Addr}{o:Obj}{items:List Value}{n:Nat}{ps:List (K×Value)}{Q:Value->Shared->Prop}(X:A.handled=none)(Y:s.heap.get? l=some o)(N:o.cls=.type "list")(g:o.data=.seq items.toArray n)(hd:o.dict=none)(hp:Paired (kD knd s.heap) ps items)(hsz:ps.length<=sizeLine)
  (h:∀h' I,(∀b o,s.heap.get? b=some o->h'.get? b=some o)->h'.DictOf knd s.heap.objs.size (ps.foldl (λa p=>stored a p.1 p.2) [])->Q (.ref s.heap.objs.size) {s with heap:=h',toks:=I}) :
  wpAny (model prog w) A (call (.type "dict") [.ref l]) Q E s:=by
 refine callType_codes (Q₁:=λt i=>t=.ref s.heap.objs.size/\i={s with heap:=s.heap.push {cls:=.type "dict",data:=.dict #[]} }) F.kt_called_dict (F.kt_typeCall_dict_1 _) F.entry_dict_init (kt_code_dict_new _ ⟨rfl,rfl⟩) ?_
 rintro t i ⟨rfl,rfl⟩;have c:(s.heap.push {cls:=.type "dict",data:=.dict #[]}).DictOf knd s.heap.objs.size []:=Heap.DictOf.new s.heap;have j:=Heap.get?_push_of_some {cls:=.type "dict",data:=.dict #[]} Y;refine⟨c.typeIs,F.args_dict_init_2 _ _,?_⟩;unfold Builtin.«dict.__init__»;refine wpAny_bind ?_;unfold Builtin.Dict.selfAndRest;refine wpAny_bind (wpAny_notOrdered_dict c.typeIs ?_)
 show wpAny _ _ (pure (s.heap.objs.size,[Value.ref l])) _ _ _
 refine wpAny_pure ?_
 show wpAny _ _ (Builtin.Dict.updateFrom "dict.__init__" s.heap.objs.size (.ref l) [] .none) _ _ _
 unfold Builtin.Dict.updateFrom;refine wpAny_bind (wpAny_typeOf (T:="list") ⟨o,j,N⟩ ?_);rw[if_pos (by decide)]
 refine wpAny_bind (nz (A:=A.in1.in1) j N g hd X λf I O=>?_)
 rw[if_pos (by decide)]
 refine wpAny_bind (wpAny_rule ?_);have x:f.IsList l items.toArray:=⟨o,O l o j,N,n,g⟩;refine wpAny_bind (wpAny_pyIter_list (s:={s with heap:=f,toks:=I}) x ?_);refine wpAny_pure ⟨plainId_quiet c9 _,?_⟩;have Z:∀b o,s.heap.get? b=some o->f.get? b=some o:=λb o e=>O b o (Heap.get?_push_of_some _ e)
 have y:f.DictOf knd s.heap.objs.size []:=let ⟨o,J,L,e,r⟩:=c;⟨o,J,L,O _ o e,r⟩
 have k:s.heap.objs.size<f.objs.size:=let ⟨o,_,_,e,_⟩:=y;Heap.lt_size e
 have z:l<s.heap.objs.size:=Heap.lt_size Y;generalize hq:f.push {cls:=Value.type "list_iterator",data:=.fields #[.ref l,.int 0 0]}=B;have M:∀b o,f.get? b=some o->B.get? b=some o:=λb o e=>by rw[←hq];exact Heap.get?_push_of_some _ e
 have C:B.IsListIter f.objs.size l 0:=by rw[←hq];exact⟨_,Heap.get?_push_size _ rfl,rfl,rfl⟩
 have D:B.DictOf knd s.heap.objs.size []:=let ⟨o,J,L,e,r⟩:=y;⟨o,J,L,M _ o e,r⟩
 have m:=oZ (A:=A.in1) (R:=wants (λr G=>r=Value.none/\Q (Value.ref s.heap.objs.size) G) E) (knd:=knd) (h₀:=B) (l:=l) (it:=f.objs.size) (d:=s.heap.objs.size) (items:=items) X (Nat.ne_of_lt k) (Nat.ne_of_lt z) (Nat.ne_of_lt (Nat.lt_trans z k))
  (let ⟨o,e,r⟩:=x;⟨o,M _ o e,r⟩) .none (λo e=>by
   obtain⟨o',J,L,H,q,_⟩:=D;rw[e]at H;cases H
   rw[q.1];decide) (λo e=>by
   obtain⟨o',H,q,_⟩:=C;rw[e]at H;cases H
   rw[q];decide) ps 0 0 {s with heap:=B,toks:=I} [] (by
   rw[List.drop_zero]
   exact kC (λp u P=>by
    obtain⟨b,o,m,n,e1,e2,r⟩:=P;exact⟨b,o,m,n,e1,M _ _ (Z _ _ e2),r⟩) hp) (by simpa using hsz) (λb o _ _ e=>e) C D (λh' S U V=>?_)
 .exact m
 .refine⟨rfl,h h' S (λb o e=>U b o ?_ ?_ (M _ _ (Z _ _ e))) V⟩
  .exact Nat.ne_of_lt (Heap.lt_size e)
  .exact Nat.ne_of_lt (Nat.lt_trans (Heap.lt_size e) k)
theorem kF{a:Addr}{kvs:List (K×Value)}{ep:Nat}{Q:Value->Shared->Prop}(hh:A.handled=none)(lo:(a==sysModules)=false)(da:s.heap.DictAt knd a kvs ep)(hn:kvs.length<=sizeLine)
  (hQ:∀h' tk f M,(∀b o,s.heap.get? b=some o->h'.get? b=some o)->h'.get? s.heap.objs.size=some {cls:=.type "list",dict:=none,data:=.seq f M,slots := #[]}->ItemsOf (λi v=>∃k x,kvs[i]?=some (k,x)/\knd.is k v=true) f kvs.length->Q (.ref s.heap.objs.size) {s with heap:=h',toks:=tk}) :
  wpAny (model prog w) A (call (.type "list") [.ref a]) Q E s:=by
 refine callType_codes (Q₁:=λu m=>u=.ref s.heap.objs.size/\m={s with heap:=s.heap.push {cls:=.type "list",data:=.seq #[]} }) F.called_list (F.typeCall_list_1 _) F.entry_list_init
  (code_list_new _ ⟨rfl,rfl⟩) λu m y=>?_
 obtain⟨rfl,rfl⟩:=y;generalize d:s.heap.objs.size=S;have I:(s.heap.push {cls:=.type "list",data:=.seq #[]}).get? S=some {cls:=.type "list",data:=.seq #[]}:=by rw[←d];exact Heap.get?_push_size _ rfl
 refine⟨⟨_,I,rfl⟩,F.args_list_init_2 _ _,?_⟩
 show wpAny _ A.in1.in1 (do let N ←Builtin.List.listItems (.ref S);Builtin.List.listUpdate (.ref S) (λ_=>#[]);letGo N.toList.reverse;Builtin.List.listExtendWith (.ref S) (.ref a) .none) _ _ _
 refine wpAny_bind ?_;unfold Builtin.List.listItems;refine wpAny_bind (wpAny_seqItems I rfl (wpAny_pure ?_))
 show wpAny _ _ (updateSeq S (λ_=>#[]) >>= λ_=>letGo (#[]:Array Value).toList.reverse >>= λ_=>Builtin.List.listExtendWith (.ref S) (.ref a) .none) _ _ _
 refine wpAny_bind (wpAny_updateSeq I rfl ?_);have c:=Heap.get?_update_self (Obj.mapSeq (λ_=>(#[]:Array Value))) I rfl
 have n:S≠a:=λe=>by
  obtain⟨o,es,p,_⟩:=da;exact Nat.lt_irrefl _ ((e▸d)▸Heap.lt_size p)
 refine wpAny_bind (wpAny_letGo ?_);generalize O:(s.heap.push {cls:=.type "list",data:=.seq #[]}).update S (Obj.mapSeq (λ_=>(#[]:Array Value)))=g at c
 have k1:∀b o,s.heap.get? b=some o->g.get? b=some o:=λb o e=>by
  rw[←O];exact(Heap.get?_update_other _ _ (λz=>Nat.lt_irrefl _ ((z▸d)▸Heap.lt_size e))).trans (Heap.get?_push_of_some _ e)
 have l:g.DictAt knd a kvs ep:=da.at' λo e=>k1 a o e
 have P:({s with heap:=g}:Shared).TypeIs (.ref a) "dict":=let ⟨o,_,p,R,_⟩:=l;⟨o,p,R.1⟩
 show wpAny _ _ (Builtin.List.listExtendWith (.ref S) (.ref a) .none) _ _ {s with heap:=g}
 unfold Builtin.List.listExtendWith;refine wpAny_bind (wpAny_typeOf P ?_);have T:Builtin.List.listSameRef (.ref S) (.ref a)=false:=by simp[Builtin.List.listSameRef,n]
 have U:(Value.type "dict"==Value.type "list")=false:=by decide
 have V:(Value.type "dict"==Value.type "tuple")=false:=by decide
 simp only[T,U,V,Bool.or_false,Bool.false_eq_true,if_false];refine wpAny_bind (wpAny_pyIter_dict lo l ?_);generalize B:g.push {cls:=.type "dict_keyiterator",data:=.fields #[.ref a,.int 0 0,.int kvs.length 0,.int ep 0]}=q;have J:∀b o,g.get? b=some o->q.get? b=some o:=λb o e=>by rw[←B];exact Heap.get?_push_of_some _ e
 have X:q.IsKeyIter g.objs.size a 0 kvs.length ep:=by rw[←B];exact⟨_,Heap.get?_push_size _ rfl,rfl,rfl⟩
 have C:q.DictAt knd a kvs ep:=l.at' λo e=>J a o e
 have Y:({s with heap:=q}:Shared).TypeIs (.ref a) "dict":=let ⟨o,_,p,R,_⟩:=C;⟨o,p,R.1⟩
 refine wpAny_bind (wpAny_holding (t8 (s:={s with heap:=q}) Y ?_));refine wpAny_ite_split (λ_=>?_) (λZ=>absurd (by decide) Z)
 refine wpAny_bind (wpAny_rule ?_);refine wpAny_bind ?_
 show wpAny _ _ (updateSeq S (·.push .none) >>= λ_=>updateSeq S (·.pop)) _ _ _
 refine wpAny_bind (wpAny_updateSeq (J _ _ c) rfl ?_);have h:=Heap.get?_update_self (Obj.mapSeq (·.push Value.none)) (J _ _ c) rfl;refine wpAny_updateSeq (hz:=by seq_fits) h rfl ?_
 have j:=Heap.get?_update_self (Obj.mapSeq (·.pop)) h rfl;refine wpAny_pure ⟨plainId_quiet F.plain_extend_loop _,?_⟩;generalize a0:(q.update S (Obj.mapSeq (·.push Value.none))).update S (Obj.mapSeq (·.pop))=h3 at j
 have k3:∀b o,b≠S->q.get? b=some o->h3.get? b=some o:=λb o r e=>by
  rw[←a0];exact(Heap.get?_update_other _ _ (Ne.symm r)).trans ((Heap.get?_update_other _ _ (Ne.symm r)).trans e)
 have b0:a<g.objs.size:=let ⟨o,_,p,_⟩:=l;Heap.lt_size p
 have t:S<g.objs.size:=Heap.lt_size c;have W:=(Walks.dictKeys (prog:=prog) (w:=w) (A:=A.in1.in1) (knd:=knd) hh g.objs.size a (Nat.ne_of_lt b0) kvs ep).toS;refine codeAny_extend_loopS W hn S (λL=>?_) .none kvs.length 0 _ #[] _ rfl (Nat.zero_le _) ⟨X.at λo e=>k3 _ o (Ne.symm (Nat.ne_of_lt t)) e,C.at' λo e=>k3 _ o (Ne.symm n) e⟩ j (ItemsOf.nil _) λs' f M L D G=>?_
 .rcases List.mem_cons.mp L with e|e
  .exact Nat.ne_of_lt t e
  .exact n (by simpa using e)
 .rw[Moved.eq_with L]at D ⊢
  refine⟨rfl,?_⟩;have:=hQ s'.heap s'.toks f M (λb o e=>L.heap b o (λH=>?_) (k3 _ _ (λz=>Nat.lt_irrefl _ ((z▸d)▸Heap.lt_size e)) (J _ _ (k1 _ _ e)))) (by rw[d];exact D) G
  .rw[d]at this;exact this
  .have r:=Heap.lt_size e
   rcases List.mem_cons.mp H with e' |e'
   .rw[e',←d]at r;exact Nat.lt_irrefl _ r
   .have e':b=g.objs.size:=by simpa using e'
    rw[e',d]at r;exact Nat.lt_irrefl _ (Nat.lt_trans r t)
end
section
variable{X:Cx}
theorem y_{vs:List V}{c:Array Value}{P:Nat->Value->Prop}(h:ItemsOf P c vs.length)(j:∀(i:Nat) (u:Value) (v:V),P i u->vs[i]?=some v->RelV v u):Vals vs c.toList:=by
 have d:∀(l:List Value) (vs:List V),l.length=vs.length->(∀(i:Nat) (u:Value) (v:V),l[i]?=some u->vs[i]?=some v->RelV v u)->Vals vs l:=by
  intro l
  induction l with
  |nil=>intro vs h _;cases vs with|nil=>exact .nil|cons a b=>simp at h
  |cons u l k=>
   intro vs h g;cases vs with
   |nil=>simp at h
   |cons v vs=>exact .cons (g 0 u v rfl rfl) (k vs (by simpa using h) λi m n e f=>g (i+1) m n (by simpa using e) (by simpa using f))
 exact d _ _ (by rw[Array.length_toList,h.1]) λi u v e f=>j i u v (h.2 i u (by simpa using e)) f
theorem qG(n:X.calm=true):ee X (.type "list") (λxs H Q=>∃a kvs,xs=[V.ref a]/\Rd H a (.dK kvs)/\∀l,H l=none->Q (.ref l) (upd H l (.lst (kvs.map λb=>kV b.1)))):=by
 intro pins s S H xs T Q I r h;obtain⟨a,kvs,rfl,p,q⟩:=h;obtain⟨u,rfl,t⟩:=vals1 r;cases t;obtain⟨z,y,g,d,A⟩:=gO I.hok p;obtain⟨o,B,ep,d1,d2,d3,d4⟩:=A;have C:=d.length;refine kF (knd:=bQ X.prog X.w) (kvs:=g) (ep:=ep) (I.ok.hd n) y ⟨o,B,d1,d2,d3,d4⟩ (by omega) λD U c E F e G=>?_
 have J:Vals (kvs.map λb=>kV b.1) c.toList:=y_ (P:=λi v=>∃k x,g[i]?=some (k,x)/\(bQ X.prog X.w).is k v=true) (by rw[List.length_map,←C]at *;exact G) λi u v K f=>by
  obtain⟨k,x,L,M⟩:=K
  have N:∃b,kvs[i]?=some b/\v=kV b.1:=by
   rw[List.getElem?_map]at f;cases j:kvs[i]? with
   |none=>rw[j]at f;cases f
   |some b=>rw[j]at f;cases f;exact⟨b,rfl,rfl⟩
  obtain⟨b,O,rfl⟩:=N;obtain⟨Y,m,R⟩:=fG d O;rw[L]at m;cases m
  rw[R.1];exact ny M
 exact⟨.ref s.heap.objs.size,_,I.laid F (Nat.le_refl _) (show cw X.prog X.w _ D _ (.lst _)from⟨by simpa using z,c.toList,E,J,by simpa using e⟩),rfl,q _ (I.hok.fresh (Nat.le_refl _))⟩
theorem qH:ee X (.type "dict") (λxs H Q=>∃a kvs,xs=[V.ref a]/\Rd H a (.dK kvs)/\∀l,H l=none->Q (.ref l) (upd H l (.dK kvs))):=by
 intro pins s t H xs x Q I r h;obtain⟨a,kvs,rfl,i,q⟩:=h;obtain⟨u,rfl,j⟩:=vals1 r;cases j;obtain⟨z,k,y,c,m⟩:=gO I.hok i;have A:=c.length;refine kt_call_dict (knd:=bQ X.prog X.w) k m (by omega) λn d p=>?_
 have f:∀b o,s.heap.get? b=some o->n.get? b=some o:=λb o e=>(p.2 b (Nat.ne_of_lt (Heap.lt_size e))).trans (Heap.get?_push_of_some _ e)
 have g:(s.heap.objs.size==sysModules)=false:=beq_eq_false_iff_ne.mpr (Ne.symm (Nat.ne_of_lt I.big));exact⟨.ref s.heap.objs.size,_,I.laid (t':=s.toks) f (Nat.le_refl _) (qk z g c d),rfl,q _ (I.hok.fresh (Nat.le_refl _))⟩
theorem qI(M:X.calm=true):ee X (.type "dict") (λxs H Q=>∃a g ps,xs=[V.ref a]/\Rd H a (.lst g)/\Paired (λ(p:Key×V) (y:V)=>∃b,y=.ref b/\Rd H b (.tup [kV p.1,p.2])) ps g/\∀l,H l=none->Q (.ref l) (upd H l (.dK (ps.foldl (λa p=>putK a p.1 p.2) [])))):=by
 intro pins s σ H xs N Q I r h;obtain⟨a,g,ps,rfl,O,z,q⟩:=h;obtain⟨u,rfl,C⟩:=vals1 r;cases C;obtain⟨e,i,⟨o,n,P,D,E,k⟩,hz⟩:=I.list (.inl O)
 have F:∀{ps:List (Key×V)}{g:List V}{e:List Value},Paired (λ(p:Key×V) (y:V)=>∃b,y=.ref b/\Rd H b (.tup [kV p.1,p.2])) ps g->Vals g e->∃f,KV ps f/\Paired (kD (bQ X.prog X.w) s.heap) f e:=by
  intro ps g e z i
  induction z generalizing e with
  |nil=>cases i;exact⟨[],.nil,.nil⟩
  |@cons p y ps g A _ m=>
   cases i with
   |@cons _ u _ N C i=>
    obtain⟨f,j,B⟩:=m i;obtain⟨b,rfl,R⟩:=A;cases (show u=Value.ref b from C)
    obtain⟨_,K,t,S,T,U,Y,Z⟩:=(show cw X.prog X.w H s.heap b (.tup [kV p.1,p.2])from AX I.hok R)
    cases t with
    |@cons _ k' _ r1 rk t=>
     cases t with
     |@cons _ v' _ r2 G t=>
      cases t with
      |nil=>exact⟨(p.1,v')::f,.cons ⟨rfl,G⟩ j,.cons ⟨b,S,k',Y,rfl,T,U,Z,oC rk⟩ B⟩
 obtain⟨f,j,B⟩:=F z i;have hl:=j.length;have a0:=Paired.length z;refine kE (knd:=bQ X.prog X.w) (I.ok.hd M) P D k E B (by omega) λh' tk kp dd=>?_
 have hf:∀{ps:List (Key×V)}{f:List (Key×Value)} (c:List (Key×V)) (d:List (Key×Value)),KV c d->KV ps f->KV (ps.foldl (λa p=>putK a p.1 p.2) c) (f.foldl (λa p=>stored a p.1 p.2) d):=by
  intro ps f c d L r
  induction r generalizing c d with
  |nil=>exact L
  |@cons p q ps f A _ m=>
   simp only[List.foldl_cons];refine m _ _ ?_;rw[←A.1];exact L.put p.1 A.2
 have x:∀(ps:List (Key×V)) (c:List (Key×V)),(ps.foldl (λa p=>putK a p.1 p.2) c).length<=c.length+ps.length:=by
  intro ps
  induction ps with
  |nil=>intro c;simp
  |cons p ps m=>
   intro c;have j:=m (putK c p.1 p.2);have B:=je c p.1 p.2;simp only[List.foldl_cons,List.length_cons]at j ⊢;omega
 have J:(ps.foldl (λa p=>putK a p.1 p.2) []).length<=sizeLine:=by
  have:=x ps [];simp at this;omega
 exact⟨.ref s.heap.objs.size,_,I.laid kp (Nat.le_refl _) (qk J (beq_eq_false_iff_ne.mpr (Ne.symm (Nat.ne_of_lt I.big))) (hf _ _ .nil j) dd),rfl,q _ (I.hok.fresh (Nat.le_refl _))⟩
end
end L2
namespace Mir
open PySem PySem.Spec PyProof.Rows L2
section
variable{X:Cx}{tg e:Expr}
def Fq(K:PySem.W.Frag)(tl:TE):TI:=λd H R=>tl d H λx b=>(∃a c,x=.ref a/\Rd b a (.lst c)/\R (Kd K a) b)\/(∃a c,x=.ref a/\Rd b a (.tup c)/\R (Ke K a) b)\/(∃y,x=.str y/\R (OL y) b)\/Fp R x b
theorem za{tl:TE}(m:PE X e tl):PI X tg e (Fq X.K tl):=by
 intro pins s n H R I h;refine cC (m pins s n H _ I h) λv c ⟨x,g,d,i,p⟩=>?_
 have j:∀b∈[c.heap.objs.size],lE X pins g b:=λb r=>by
  obtain rfl:b=c.heap.objs.size:=by simpa using r
  exact d.uP (Nat.le_refl _) (d.hok.fresh (Nat.le_refl _))
 rcases p with ⟨a,u,rfl,k,q⟩|⟨a,u,rfl,k,q⟩|⟨y,rfl,q⟩|q
 .cases i
  obtain⟨f,w,l,z⟩:=d.list (jv (K:=X.K) k);refine wpAny_pyIter_list l.isList ?_;exact⟨c.heap.objs.size,[c.heap.objs.size],_,_,g,rfl,d.kept (t':=c.toks) λb o e=>Heap.get?_push_of_some _ e,tj a _,⟨_,Heap.get?_push_size _ rfl,rfl,rfl⟩,j,q⟩
 .cases i
  obtain⟨f,w,l,z⟩:=d.tuple (tP (K:=X.K) k);refine wpAny_pyIter_tuple (show c.heap.IsTuple a f.toArray from l) ?_
  exact⟨c.heap.objs.size,[c.heap.objs.size],_,_,g,rfl,d.kept (t':=c.toks) λb o e=>Heap.get?_push_of_some _ e,pU a _,⟨_,Heap.get?_push_size _ rfl,rfl,rfl⟩,j,q⟩
 .obtain⟨t,rfl⟩:=i
  refine wpAny_pyIter_strU ?_;exact⟨c.heap.objs.size,[c.heap.objs.size],_,_,g,rfl,d.kept (t':=c.toks) λb o e=>Heap.get?_push_of_some _ e,vB _ y t (strIterType y) (by unfold strIterType;split<;>simp),⟨_,Heap.get?_push_size _ rfl,rfl,rfl⟩,j,q⟩
 .exact y9 d i q
end
def Fs(a:Addr)(o:Obj):It:=
 ⟨λi H=>∃b,H a=some (.dr o (.dK b))/\i<b.length,λi H x d=>∃p,x=.ref p/\H p=none/\∀b,H a=some (.dr o (.dK b))->∃c,b[i]?=some c/\d=upd H p (.tup [kV c.1,c.2]),λi H=>∃b,H a=some (.dr o (.dK b))/\b.length<=i⟩
theorem t9:entryFor table "dict_itemiterator.__iter__"=some Builtin.«dict_keyiterator.__iter__» :=
 entryFor_alias (id':="dict_keyiterator.__iter__") (by kernel_rfl) (by decide +kernel) (by decide +kernel) (by kernel_rfl)
theorem qJ{prog:Program}{w:World}{A:Around}{E:Value->Shared->Prop}{s:Shared}{it d:Addr}{i n ep:Nat}{ok c:Value}{Q:Value->Shared->Prop}(a:IsItemIter s.heap it d i n ep ok c)(h:Q (.ref it) s):wpAny (model prog w) A (pyIter (.ref it)) Q E s:=by
 have b:s.TypeIs (.ref it) "dict_itemiterator":=⟨_,a,rfl⟩;refine wpAny_pyIter_slot b F.slot_dict_itemiterator_iter (wpAny_call_entry F.slot_dict_itemiterator_iter b t9 ?_ (F.args_dict_itemiterator_iter_1 _))
 show wpAny _ _ (ret (.ref it)) _ _ s
 exact wpAny_pure ⟨_,rfl,"dict_itemiterator",_,b,F.slot_dict_itemiterator_next.lookup,h⟩
theorem qK{P:Program}{w:World}{K:PySem.W.Frag}{l:List Expr}{Y:Nat}{m:Pos}(a it:Addr){o:Obj}{es:Array DictEntry}{ep:Nat}(O:o.data=.dict es ep) :
  Turn P w K (.Tuple l Y m) (Fs a o) [it] it (λi h=>∃ok g,IsItemIter h it a i es.size ep ok g) where
 mem:=by simp
 obj:=λi h c b f=>by
  have e:b=it:=by simpa using f
  subst e;obtain⟨ok,g,c⟩:=c
  exact⟨_,c,λv z=>by
   have Z:Data.fields _=Data.cell v:=z;cases Z⟩
 keep:=λi h h' c k=>by
  obtain⟨ok,g,c⟩:=c;exact⟨ok,g,k it (by simp) _ c⟩
 item:=by
  intro X B C D Q i pins s σ H E I x c F;subst B C D;obtain⟨d,y,R⟩:=F;obtain⟨ok,g,c⟩:=c;obtain⟨vs,r,G,A,_⟩:=iR I.hok y O;have n:d[i]?=some d[i]:=List.getElem?_eq_getElem R;obtain⟨q,hv,S⟩:=fG r n;have p:it<s.heap.objs.size:=Heap.lt_size c;rw[A]at c;refine wpAny_pyNext_items_item c G (k:=q.1) (v:=q.2) hv λj h' hk so tu sz kp=>?_
  refine⟨_,rfl,wpAny_letOwnedTupleGo_items (s:={s with heap:=h' }) so λt se T=>?_⟩
  have J:∀b o,b∉[it]->s.heap.get? b=some o->t.get? b=some o:=λb o f q=>by
   have U:b≠it:=λz=>f (by simp[z])
   exact T.extBut b o U (kp b o U q)
  have L:t.get? s.heap.objs.size=some {cls:=.type "tuple",data:=.seq #[j,q.2]}:=T.extBut _ _ (Nat.ne_of_gt p) tu;refine⟨.ref s.heap.objs.size,upd H s.heap.objs.size (.tup [kV d[i].1,d[i].2]),?_,rfl,⟨_,rfl,I.hok.fresh (Nat.le_refl _),λV u=>?_⟩,⟨_,_,by rw[A];exact se⟩,λb f=>?_⟩
  .have M:IsTup t s.heap.objs.size [j,q.2].toArray:=⟨_,L,rfl,_,rfl⟩
   have N:cw X.prog X.w (upd H s.heap.objs.size (.tup [kV d[i].1,d[i].2])) t s.heap.objs.size (.tup [kV d[i].1,d[i].2]):=⟨by rw[sizeLine_eq];simp,[j,q.2],.cons (by rw[S.1];exact ny hk) (.cons S.2 .nil),M⟩
   have:=ji (s:=s) (h':=t) (t':=s.toks) I x J (Nat.le_refl _) N;exact this
  .rw[y]at u;cases u
   exact⟨d[i],n,rfl⟩
  .have e:b=it:=by simpa using f
   subst e;rw[aJ (Nat.ne_of_lt p)];exact(x b f).1
 done:=by
  intro X B C D Q i pins s σ H E I x c F;subst B C D;obtain⟨d,y,R⟩:=F;obtain⟨ok,g,c⟩:=c;obtain⟨vs,r,G,A,_⟩:=iR I.hok y O;obtain⟨f0,f1,f2,f3,f4,f5⟩:=x it (by simp)
  have hl:=r.length;rw[A]at c;exact wpAny_pyNext_items_end (I.ok.hd Q) c G (List.getElem?_eq_none (by omega)) λh' eb=>⟨rfl,I.turned (t':=s.toks) (λb o f e=>eb b o f e) f0 f1 f3 f4 f5⟩
 self:=λ_ _ _ _ _ c h=>by
  obtain⟨ok,g,c⟩:=c;exact qJ c h
def Kx(R:It->Hp->Prop)(x:V)(c:Hp):Prop:=∃a b,x=.ref a/\((c a=some (.dK b)/\∀o,R (Fs a o) (upd c a (.dr o (.dK b))))\/∃o,c a=some (.dr o (.dK b))/\R (Fs a o) c)
theorem vS{X:Cx}{o:Expr}{S:TE}{g:List Expr}{M:Nat}{i j k:Pos}(n:attributeBase o "items" X.env (eval o X.env)=eval o X.env)(p:(j.endLine==k.line)=true)(B:PE X o S) :
  PI X (.Tuple g M i) (.Call (.Attribute o "items" j) [] [] k) (λt H R=>S t H (Kx R)):=by
 intro pins s t H R I h;refine wpAny_Call_method0_late n p (cC (B pins s t H _ I h) λv s1 ⟨x,H1,I1,Z,q1⟩=>?_)
 obtain⟨a,u,rfl,q⟩:=q1;cases (show v=Value.ref a from Z)
 have l:∀(c:Obj) (m:Array DictEntry) (f:Nat) (y:Hp),Inv X pins t y s1->y a=some (.dr c (.dK u))->c.data=.dict m f->R (Fs a c) y->wpAny (model X.prog X.w) X.A (call (.builtin "dict.items") [.ref a]) (λv s2=>wpAny (model X.prog X.w) X.A (pyIter v) (PIE X pins t (.Tuple g M i) R) X.xe s2) X.xe s1:=by
  intro c m f y K e2 L D;obtain⟨E,r,T,hz,U⟩:=iR K.hok e2 L;have V:s1.heap.DictOf (bQ X.prog X.w) a E:=let ⟨o,m,B,r⟩:=T;⟨o,m,f,B,r⟩
  refine call_meetsIn F.slot_dict_items V.typeIs F.entry_dict_items (F.args_dict_items_1 _) (meets_dict_items (bQ X.prog X.w) a U) ⟨⟨E,V⟩,?_⟩;generalize G:s1.heap.push {cls:=.type "dict_items",data:=.fields #[.ref a]}=d;have Y:∀b o,s1.heap.get? b=some o->d.get? b=some o:=λb o e=>by rw[←G];exact Heap.get?_push_of_some _ e
  have hv:d.IsItemsView s1.heap.objs.size a:=by rw[←G];exact⟨_,Heap.get?_push_size _ rfl,rfl,rfl⟩
  have N:d.DictAt (bQ X.prog X.w) a E f:=T.at' λo e=>Y a o e
  have O:Inv X pins t y {s1 with heap:=d}:=K.kept (t':=s1.toks) Y;refine wpAny_pyIter_items (s:={s1 with heap:=d}) hv N ?_;have I4:Inv X pins t y {s1 with heap:=d.push {cls:=.type "dict_itemiterator",data:=.fields #[.none,.bool false,.ref a,.int 0 0,.int E.length 0,.int f 0,.none,.none]} }:=O.kept (t':=s1.toks) λb o q=>Heap.get?_push_of_some _ q
  refine⟨d.objs.size,[d.objs.size],_,_,y,rfl,I4,qK a _ L,?_,λb hb=>?_,D⟩
  .rw[hz]
   exact⟨_,_,Heap.get?_push_size _ rfl⟩
  .have z:b=d.objs.size:=by simpa using hb
   rw[z];exact O.uP (b:=d.objs.size) (Nat.le_refl _) (O.hok.fresh (Nat.le_refl _))
 rcases q with ⟨C,D⟩|⟨c,C,D⟩
 .obtain⟨P,Q,t3⟩:=qm I1 (.inl ⟨u,.inl C⟩)
  obtain⟨c,m,f,B,L,K⟩:=I1.sg C;exact⟨"dict","dict.items",F.plainAttrs_dict,F.slot_dict_items,F.type_dict_items,P,Q,Calls.callWith_builtin rfl (PySem.evalArgs_none (l c m f _ K ba L (D c)))⟩
 .obtain⟨P,Q,t3⟩:=qm I1 (.inl ⟨u,.inr ⟨c,C⟩⟩)
  obtain⟨B,_,U,E,r,o',m,f,J,M,x2,x3⟩:=I1.hok a _ C;rw[B]at J;cases J
  exact⟨"dict","dict.items",F.plainAttrs_dict,F.slot_dict_items,F.type_dict_items,P,Q,Calls.callWith_builtin rfl (PySem.evalArgs_none (l c m f _ I1 C x2 D))⟩
variable [aH]
def lK(f g:List D->aD->ay D):List D->aD->ay D:=λa b=>gH (f a b) (g a b)
def nA(xs:List D)(Ω:aD):ay D:=match xs with
 |[x]=>match fF Ω x with
  |some a=>.ok (.int a.length) Ω
  |none=>.bad
 |_=>.bad
noncomputable def qL(xs:List D)(Ω:aD):ay D:=match xs with
 |[.ref k]=>match Ω[k]? with
  |some (.dK a)=>.ok (.int a.length) Ω
  |some (.dF a)=>.ok (.int a.length) Ω
  |_=>.bad
 |_=>.bad
def iw(xs:List D)(Ω:aD):ay D:=match xs with
 |[x]=>match fF Ω x with
  |some a=>gX Ω (.lst a)
  |none=>.bad
 |_=>.bad
noncomputable def iS:Key->D
 |.inl i=>.int i
 |.inr x=>.str x
noncomputable def qM(Ω:aD)(x:D):Option (List (Key×D)):=match x with
 |.ref k=>(match Ω[k]? with
  |some (.dK a)=>some a
  |some (.dF a)=>some a
  |_=>none)
 |_=>none
def jl(xs:List D)(Ω:aD):ay D:=match xs with
 |[x]=>match qM Ω x with
  |some a=>gX Ω (.lst (a.map λb=>iS b.1))
  |none=>.bad
 |_=>.bad
def kG(xs:List D)(Ω:aD):ay D:=match xs with
 |[x]=>match qM Ω x with
  |some a=>gX Ω (.dK a)
  |none=>.bad
 |_=>.bad
def kH:D->Option (Key×D)
 |.tup [k,v]=>(qD k).map λk=>(k,v)
 |_=>none
def gj(xs:List D)(Ω:aD):ay D:=match xs with
 |[x]=>match de Ω x with
  |some b=>match bN kH b with
   |some c=>gX Ω (.dK (c.foldl (λa p=>cZ a p.1 p.2) []))
   |none=>.bad
  |none=>.bad
 |_=>.bad
def eW:List D->aD->ay D:=lK gj kG
def qN(xs:List D)(Ω:aD):ay D:=match xs with
 |[.tup a]=>.ok (.tup a) Ω
 |[x]=>match de Ω x with
  |some a=>.ok (.tup a) Ω
  |none=>.bad
 |_=>.bad
def Cq:List D->Out Rs
 |[.str z]=>if small z.length then .ok (false,.int z.length)else .bad
 |_=>.bad
def Cr:List D->Out Rs
 |[.lst xs]=>match fg xs with|some bs=>.ok (false,.bl (bs.all id))|none=>.bad
 |_=>.bad
def Ct:List D->Out Rs
 |[.lst xs]=>match fg xs with|some bs=>.ok (false,.bl (bs.any id))|none=>.bad
 |_=>.bad
def vT:jF->List D->Out Rs
 |.len=>Cq
 |.all=>Cr
 |.any=>Ct
 |_=>λ_=>.bad
def lL(f:jF):List D->aD->ay D:=bD (vT f)
def aP(f:jF):List D->aD->ay D:=match f with
 |.len=>lK nA (lK qL (lL .len))
 |.list=>lK iw jl
 |.tuple=>qN
 |f=>lL f
section
variable{X:Cx}{κ:Str->Addr->Prop}{Φ:gb}{α α' gW α1:List Addr}{Z Z' Z0 Z1:Addr->Prop}{Ω ao:aD}{H H' H0 H1:Hp}{ρ:aR}{σ:L2.St}{Q Q':VK}{r:ay D}{a b e ce o:Expr}{rest:List Expr}{es:List Expr}{ma mb mc m mo:EM}{as:AM}{pos p apos cpos:Pos}
theorem nB{f g:List D->aD->ay D}:mN (lK f g) as=kA (mN f as) (mN g as):=by
 funext b a
 simp only[mN,kA];cases as b a with
 |ok x c=>rfl
 |exc x a=>rfl
 |bad=>rfl
theorem ft{f:List D->aD->ay D}{j:String}{x:Str}{r:List V->Hp->VK->Prop}(k:ee X (.builtin j) r)(l:Gl X x)(m:X.mg x=none)(n:bootBuiltins x=some (.builtin j))(o:x≠"__name__")(b:(x==("__debug__":Str))=false)
  (q:starEach (e::es) X.env=(false,eval e X.env)::starEach es X.env) (c:(backTo pos (starEach es X.env)).any (·.1)=false) (s:oV X κ Φ (e::es) as)
  (t:∀xs vs a Z Ω H Q,bR κ a Z Ω H->aI (au a Z H) xs vs->cv κ Φ a Z H (f xs Ω) Q->r vs H Q):bz X κ Φ (.Call (.Name x p) (e::es) [] pos) (mN f as):=by
 intro d u w y Ω;refine PE.imp (ka k l m n (s d u w y Ω) o b q c) ?_;rintro F H Q ⟨a,Z,S,g⟩;exact⟨a,Z,S,oU.use g λxs h _ vs z i A G B C E=>t xs vs i A h z Q B C E⟩
theorem gk{f:List D->aD->ay D}{j:String}{x:Str}{r:List V->Hp->VK->Prop}(k:ee X (.type j) r)(l:Gl X x)(m:X.mg x=none)(n:bootBuiltins x=some (.type j))(o:x≠"__name__")(b:(x==("__debug__":Str))=false)
  (q:starEach (e::es) X.env=(false,eval e X.env)::starEach es X.env) (c:(backTo pos (starEach es X.env)).any (·.1)=false) (s:oV X κ Φ (e::es) as)
  (t:∀xs vs a Z Ω H Q,bR κ a Z Ω H->aI (au a Z H) xs vs->cv κ Φ a Z H (f xs Ω) Q->r vs H Q):bz X κ Φ (.Call (.Name x p) (e::es) [] pos) (mN f as):=by
 intro d u w y Ω;refine PE.imp (tE k l m n (s d u w y Ω) o b q c) ?_;rintro F H Q ⟨a,Z,S,g⟩;exact⟨a,Z,S,oU.use g λxs h _ vs z i A G B C E=>t xs vs i A h z Q B C E⟩
theorem gx:∀{ds:List D}{vs:List V},aY Z H ds vs->vm Z H ds vs
 |[],vs,h=>h.nil_inv
 |d::ds,vs,h=>by
  obtain⟨v,r,rfl,h1,h2⟩:=h.cons_inv;exact⟨v,r,rfl,h1.now,gx h2⟩
theorem kI{x:D}{v:V}{kvs:List (Key×D)}(S:bR κ α Z Ω H)(r:au α Z H x v)(h:qM Ω x=some kvs):∃a b,v=.ref a/\Rd H a (.dK b)/\fU (au α Z H) kvs b:=by
 unfold qM at h;split at h
 .rename_i k
  simp only[au]at r;obtain⟨a,i,rfl⟩:=r;split at h
  .rename_i d e
   cases h;obtain⟨j,c,b,f,g⟩:=S.cell e;rw[i]at c;cases c
   exact⟨a,b,rfl,.inl f,g⟩
  .rename_i d e
   cases h;obtain⟨j,c,l,b,f,g⟩:=S.cell e;rw[i]at c;cases c
   exact⟨a,b,rfl,.inr ⟨l,f⟩,g⟩
  .cases h
 .cases h
theorem zb{xs:List D}{vs:List V}(S:bR κ α Z Ω H)(d:aI (au α Z H) xs vs)(g:cv κ Φ α Z H (jl xs Ω) Q):∃a kvs,vs=[V.ref a]/\Rd H a (.dK kvs)/\∀l,H l=none->Q (.ref l) (upd H l (.lst (kvs.map λc=>kV c.1))):=by
 unfold jl at g;split at g
 .split at g
  .rename_i kvs e
   obtain⟨v,r,rfl,f,h⟩:=d.cons_inv;rw[h.nil_inv];obtain⟨a,b,rfl,i,j⟩:=kI S f e;refine⟨a,b,rfl,i,eJ S ?_ g⟩
   have:∀{kvs:List (Key×D)}{b:List (Key×V)},fU (au α Z H) kvs b->aI (au α Z H) (kvs.map λc=>iS c.1) (b.map λc=>kV c.1):=λ{kvs b} q=>by
    unfold fU at q
    induction q with
    |nil=>exact .nil
    |@cons p q _ _ k _ m=>
     refine .cons ?_ m
     show au α Z H (iS p.1) (kV q.1)
     rw[k.1];cases q.1<;>simp only[iS,kV,au]
   exact this j
  .exact g.elim
 .exact g.elim
theorem vU{kvs:List (Key×D)}{a:List (Key×V)}(S:bR κ α Z Ω H)(r:fU (au α Z H) kvs a)(k:cv κ Φ α Z H (gX Ω (.dK kvs)) Q):∀p,H p=none->Q (.ref p) (upd H p (.dK a)):=λp b=>by
 obtain⟨d,e⟩:=S.laid (p:=p) (o:=.dK a) (c:=.dK kvs) b λR f=>⟨a,ba,r.imp f⟩
 exact k _ _ _ _ e d (fq S p)
theorem zc{xs:List D}{vs:List V}(S:bR κ α Z Ω H)(c:aI (au α Z H) xs vs)(g:cv κ Φ α Z H (kG xs Ω) Q):∃a kvs,vs=[V.ref a]/\Rd H a (.dK kvs)/\∀l,H l=none->Q (.ref l) (upd H l (.dK kvs)):=by
 unfold kG at g;split at g
 .split at g
  .rename_i kvs d
   obtain⟨v,r,rfl,e,f⟩:=c.cons_inv;rw[f.nil_inv];obtain⟨a,b,rfl,h,i⟩:=kI S e d;exact⟨a,b,rfl,h,vU S i g⟩
  .exact g.elim
 .exact g.elim
theorem my:∀{ds:List D}{vs:List V}{ps:List (Key×D)},aI (au α Z H) ds vs->bN kH ds=some ps->∃c,fU (au α Z H) ps c/\Paired (λ(p:Key×V) (y:V)=>∃b,y=.ref b/\Rd H b (.tup [kV p.1,p.2])) c vs
 |[],vs,ps,r,h=>by cases h;rw[r.nil_inv];exact⟨[],.nil,.nil⟩
 |d::ds,vs,ps,r,h=>by
  simp only[bN]at h;split at h
  .rename_i y ys h1 h2
   cases h;obtain⟨v,f,rfl,g,i⟩:=r.cons_inv;obtain⟨c,j,l⟩:=my i h2;unfold kH at h1;split at h1
   .rename_i k w
    obtain⟨m,n,rfl⟩:=Option.map_eq_some_iff.mp h1;obtain⟨a,u,rfl,_,o,e⟩:=eU g;obtain⟨x,z,rfl,q,e⟩:=e.cons_inv;obtain⟨s,A,rfl,t,e⟩:=e.cons_inv;obtain rfl:=e.nil_inv;obtain rfl:=iu n q;exact⟨(m,s)::c,.cons ⟨rfl,t⟩ j,.cons ⟨a,rfl,.inl o⟩ l⟩
   .cases h1
  .cases h
theorem zd{xs:List D}{vs:List V}(S:bR κ α Z Ω H)(j:aI (au α Z H) xs vs)(g:cv κ Φ α Z H (gj xs Ω) Q):∃a f ps,vs=[V.ref a]/\Rd H a (.lst f)/\Paired (λ(p:Key×V) (y:V)=>∃b,y=.ref b/\Rd H b (.tup [kV p.1,p.2])) ps f/\∀l,H l=none->Q (.ref l) (upd H l (.dK (ps.foldl (λa p=>putK a p.1 p.2) []))):=by
 unfold gj at g;split at g
 .split at g
  .rename_i z k
   split at g
   .rename_i ps m
    obtain⟨v,r,rfl,n,o⟩:=j.cons_inv;rw[o.nil_inv];obtain⟨a,f,rfl,s,t⟩:=bJ S n k;obtain⟨d,u,w⟩:=my t m;refine⟨a,f,d,rfl,s,w,vU S ?_ g⟩
    have:∀{ps:List (Key×D)}{d:List (Key×V)}{e:List (Key×D)}{c:List (Key×V)},fU (au α Z H) e c->fU (au α Z H) ps d->fU (au α Z H) (ps.foldl (λa p=>cZ a p.1 p.2) e) (d.foldl (λa p=>putK a p.1 p.2) c):=λ{ps d e c} h q=>by
     unfold fU at q
     induction q generalizing e c with
     |nil=>exact h
     |@cons p q _ _ i _ x=>
      simp only[List.foldl_cons];refine x ?_;rw[i.1];exact h.put q.1 i.2
    exact this .nil u
   .exact g.elim
  .exact g.elim
 .exact g.elim
theorem vV(a:X.calm=true)(d:Gl X "dict")(f:X.mg "dict"=none)(h:starEach (e::es) X.env=(false,eval e X.env)::starEach es X.env)(b:(backTo pos (starEach es X.env)).any (·.1)=false)(i:oV X κ Φ (e::es) as):bz X κ Φ (.Call (.Name "dict" p) (e::es) [] pos) (mN eW as):=by
 show bz X κ Φ _ (mN (lK gj kG) as)
 rw[nB];exact bz.alt (gk (qI a) d f boot_dict (by decide) (by decide) h b i λj k l Z m H Q S c g=>zd S c g) (gk qH d f boot_dict (by decide) (by decide) h b i λj k l Z m H Q S c g=>zc S c g)
theorem ze{f:jF}(i:X.calm=true)(I:f∈[jF.len,jF.all,jF.any,jF.list,jF.tuple])(z:Gl X f.nm)(A:X.mg f.nm=none)
  (B:starEach (e::es) X.env=(false,eval e X.env)::starEach es X.env) (c:(backTo pos (starEach es X.env)).any (·.1)=false) (m:oV X κ Φ (e::es) as) :
  bz X κ Φ (.Call (.Name f.nm p) (e::es) [] pos) (mN (aP f) as):=by
 cases f with
 |len=>
  show bz X κ Φ _ (mN (lK nA (lK qL (lL .len))) as)
  rw[nB,nB];refine bz.alt ?_ (bz.alt ?_ ?_)
  .refine ft mW z A boot_len (by decide) (by decide) B c m ?_
   intro F O w Z y H Q S h g;unfold nA at g;split at g
   .split at g
    .rename_i C J
     obtain⟨v,r,rfl,j,o⟩:=h.cons_inv;rw[o.nil_inv];obtain⟨l,D,rfl,E,G⟩:=kB (K:=X.K) S j J;exact⟨l,D,rfl,E,by rw[G.length];exact cv.ret S (a_ rfl) g⟩
    .exact g.elim
   .exact g.elim
  .refine ft tN z A boot_len (by decide) (by decide) B c m ?_
   intro F O w Z y H Q S h g;unfold qL at g;split at g
   .split at g
    .rename_i P R
     obtain⟨v,r,rfl,j,o⟩:=h.cons_inv;rw[o.nil_inv];simp only[au]at j;obtain⟨a,m,rfl⟩:=j;obtain⟨a',q,s,T,U⟩:=S.cell R;rw[m]at q;cases q
     exact⟨a,s,rfl,.inl T,by rw[U.length];exact cv.ret S (a_ rfl) g⟩
    .rename_i P R
     obtain⟨v,r,rfl,j,o⟩:=h.cons_inv;rw[o.nil_inv];simp only[au]at j;obtain⟨a,m,rfl⟩:=j;obtain⟨a',q,of,s,T,U⟩:=S.cell R;rw[m]at q;cases q
     exact⟨a,s,rfl,.inr ⟨of,T⟩,by rw[U.length];exact cv.ret S (a_ rfl) g⟩
    .exact g.elim
   .exact g.elim
  .refine ft mX z A boot_len (by decide) (by decide) B c m ?_
   intro L M w Z y H Q S h g;obtain⟨C,N,d,t,b,k⟩:=iv (bw:=false) S h g;have t:=gx t;have u:=dN S;replace b:Cq C=_:=b;unfold Cq at b;split at b
   .obtain⟨x,rfl,n⟩:=t.one
    cases di n;split at b
    .rename_i hs
     cases b;exact⟨_,rfl,bL hs,iO u k rfl⟩
    .cases b
   .cases b
 |all=>
  refine ft (vy i) z A boot_all (by decide) (by decide) B c m ?_
  intro L M w Z y H Q S h g;obtain⟨C,N,d,t,b,k⟩:=iv (bw:=false) S h g;have t:=gx t;have u:=dN S;replace b:Cr C=_:=b;unfold Cr at b;split at b
  .obtain⟨x,rfl,n⟩:=t.one
   split at b
   .rename_i bs V
    cases b;exact⟨_,_,bs,x,rfl,n,V,iO u k rfl⟩
   .cases b
  .cases b
 |any=>
  refine ft (vz i) z A boot_any (by decide) (by decide) B c m ?_
  intro L M w Z y H Q S h g;obtain⟨C,N,d,t,b,k⟩:=iv (bw:=false) S h g;have t:=gx t;have u:=dN S;replace b:Ct C=_:=b;unfold Ct at b;split at b
  .obtain⟨x,rfl,n⟩:=t.one
   split at b
   .rename_i bs V
    cases b;exact⟨_,_,bs,x,rfl,n,V,iO u k rfl⟩
   .cases b
  .cases b
 |int=>simp at I
 |min=>simp at I
 |max=>simp at I
 |list=>
  show bz X κ Φ _ (mN (lK iw jl) as)
  rw[nB];refine bz.alt ?_ (gk (qG i) z A boot_list (by decide) (by decide) B c m λF O w Z y H Q S h g=>zb S h g)
  refine gk mY z A boot_list (by decide) (by decide) B c m ?_
  intro F O w Z y H Q S h g;have g:cv κ Φ w Z H (iw F y) Q:=g;unfold iw at g;split at g
  .split at g
   .rename_i C J
    obtain⟨v,r,rfl,j,o⟩:=h.cons_inv;rw[o.nil_inv];obtain⟨l,D,rfl,E,G⟩:=kB (K:=X.K) S j J;exact⟨l,D,rfl,E,eJ S G g⟩
   .exact g.elim
  .exact g.elim
 |tuple=>
  refine gk lG z A boot_tuple (by decide) (by decide) B c m ?_
  intro F O w Z y H Q S h g;have g:cv κ Φ w Z H (qN F y) Q:=g;unfold qN at g;split at g
  .obtain⟨v,r,rfl,j,o⟩:=h.cons_inv
   rw[o.nil_inv];have Y:=j;obtain⟨l,D,rfl,_,E,G⟩:=eU j;exact⟨l,D,rfl,.inr ⟨tP (.inl E),cv.ret S Y g⟩⟩
  .split at g
   .rename_i C J
    obtain⟨v,r,rfl,j,o⟩:=h.cons_inv;rw[o.nil_inv];obtain⟨l,D,rfl,E,G⟩:=bJ S j J;exact⟨l,D,rfl,.inl ⟨jv E,oX S G g⟩⟩
   .exact g.elim
  .exact g.elim
 |sorted=>simp at I
 |bool=>simp at I
def gm(xs:List D)(Ω:aD):ay D:=match xs with
 |[x]=>match de Ω x with
  |some a=>match ik a with
   |.ok b=>gX Ω (.lst b)
   |_=>.bad
  |none=>.bad
 |_=>.bad
theorem o_:∀{ds:List D}{a:List Int}{vs:List V},lY ds=some a->aI (au α Z H) ds vs->vs=a.map V.int
 |[],a,vs,h,r=>by cases h;exact r.nil_inv
 |d::ds,a,vs,h,r=>by
  obtain⟨v,f,rfl,b,c⟩:=r.cons_inv;cases d with
  |int i=>
   obtain⟨g,e,rfl⟩:=Option.map_eq_some_iff.mp (show(lY ds).map (i :: ·)=some a from h)
   simp only[au]at b;rw[b,o_ e c];rfl
  |_=>cases h
theorem pa:∀{ds:List D}{a:List Str}{vs:List V},f9 ds=some a->aI (au α Z H) ds vs->vs=a.map V.str
 |[],a,vs,h,r=>by cases h;exact r.nil_inv
 |d::ds,a,vs,h,r=>by
  obtain⟨v,f,rfl,b,c⟩:=r.cons_inv;cases d with
  |str i=>
   obtain⟨g,e,rfl⟩:=Option.map_eq_some_iff.mp (show(f9 ds).map (i :: ·)=some a from h)
   simp only[au]at b;rw[b,pa e c];rfl
  |_=>cases h
theorem kJ{a:Type}{f:a->D}{g:a->V}(h:∀x,au α Z H (f x) (g x)):∀xs:List a,aI (au α Z H) (xs.map f) (xs.map g)
 |[]=>.nil
 |x::xs=>.cons (h x) (kJ h xs)
theorem vW(m:Gl X "sorted")(n:X.mg "sorted"=none)(o:starEach (e::es) X.env=(false,eval e X.env)::starEach es X.env)(h:(backTo pos (starEach es X.env)).any (·.1)=false)(q:oV X κ Φ (e::es) as) :
  bz X κ Φ (.Call (.Name "sorted" p) (e::es) [] pos) (mN gm as):=by
 refine ft tV m n (by decide +kernel) (by decide) (by decide) o h q ?_
 intro z A B Z C H Q S s g;unfold gm at g;split at g
 .split at g
  .rename_i E t
   obtain⟨v,r,rfl,u,w⟩:=s.cons_inv;rw[w.nil_inv];obtain⟨a,F,rfl,l,d⟩:=bJ S u t;split at g
   .rename_i G b
    unfold ik at b;split at b
    .cases b
    .rename_i y
     split at b
     .rename_i c i
      cases b;have j:=o_ i d;subst j;have k:c.length<64:=by have:=d.length;rw[List.length_map]at this;omega
      exact⟨a,rfl,.inr ⟨c,jv l,k,eJ S (kJ (f:=D.int) (g:=V.int) (λx=>by simp only[au]) _) g⟩⟩
     .split at b
      .rename_i c i
       cases b;have j:=pa i d;subst j;have k:c.length<64:=by have:=d.length;rw[List.length_map]at this;omega
       exact⟨a,rfl,.inl ⟨c,jv l,k,eJ S (kJ (f:=D.str) (g:=V.str) (λx=>by simp only[au]) _) g⟩⟩
      .cases b
   .exact g.elim
  .exact g.elim
 .exact g.elim
def Ky(t:Ty):D->aD->ay D:=tW λd=>match vh d t with|some b=>.ok (false,.bl b)|none=>.bad
noncomputable def Ft(t:Ty)(x:D)(Ω:aD):ay D:=match x with
 |.ref k=>match Ω[k]? with
  |some (.lst _)=>.ok (.bl (t==.list)) Ω
  |some (.dK _)=>.ok (.bl (t==.dict)) Ω
  |_=>.bad
 |.lst _=>.ok (.bl (t==.list)) Ω
 |.tup _=>.ok (.bl (t==.tuple)) Ω
 |_=>.bad
def nE(t:Ty):D->aD->ay D:=Cj (Ft t) (Ky t)
def A_(K:PySem.W.Frag):List V->Hp->VK->Prop:=λd H Q=>∃a c t,d=[.ref a,.ty (Ty.id t)]/\((Rd H a (.lst c)/\Q (.bl (t==.list)) H)\/(Rd H a (.tup c)/\Q (.bl (t==.tuple)) H)\/(∃b,H a=some (.dK b)/\Q (.bl (t==.dict)) H))
theorem t_:ee X (.builtin "isinstance") (A_ X.K):=by
 intro pins s f H n p Q I r h;obtain⟨a,w,t,rfl,h⟩:=h;obtain⟨u,i,rfl,e,j⟩:=vals2 r;cases (show i=Value.type (Ty.id t)from j)
 obtain⟨x,y,A,B,g,k,l⟩:=rK X.K t;rcases h with ⟨d,q⟩|⟨d,q⟩|⟨m,d,q⟩
 .have b:∀c,EP X pins f Q (.bool (t==.list)) {s with toks:=c}:=λc=>⟨.bl _,H,I.tok c,rfl,q⟩
  rcases d with d|⟨o,d⟩
  .exact cW I e (.lst d) g b
  .exact cW I e (.dr d) g b
 .have b:∀c,EP X pins f Q (.bool (t==.tuple)) {s with toks:=c}:=λc=>⟨.bl _,H,I.tok c,rfl,q⟩
  cases e;exact PySem.W.kia_one PySem.W.kitx_tuple I.h_ (jf (K:=X.K) I d) k (λz=>nomatch z) b
 .have b:∀c,EP X pins f Q (.bool (t==.dict)) {s with toks:=c}:=λc=>⟨.bl _,H,I.tok c,rfl,q⟩
  exact cW I e (.dK d) l b
theorem zf{t:Ty}{f:Pos}(A:Gl X "isinstance")(B:X.mg "isinstance"=none)(u:Gl X t.nm)(w:X.mg t.nm=none)
  (n:starEach [a,Expr.Name t.nm f] X.env=(false,eval a X.env)::starEach [Expr.Name t.nm f] X.env) (h:(backTo pos (starEach [Expr.Name t.nm f] X.env)).any (·.1)=false) (o:bz X κ Φ a ma) :
  bz X κ Φ (.Call (.Name "isinstance" p) [a,.Name t.nm f] [] pos) (m1 (nE t) ma):=by
 have i:PE X (.Name t.nm f) (tC (.ty t.id)):=xO u w (yq t) rfl (by cases t<;>decide) (by cases t<;>decide)
 unfold nE;rw[Ck];refine bz.alt ?_ ?_
 .refine jI (r:=λx H Q=>A_ X.K [x,.ty t.id] H Q) (λD y=>ka t_ A B boot_isinstance (eR y (eR i mR rfl) n) (by decide) (by decide) n h) o ?_
  intro E x F Z G H Q S c g;unfold Ft at g;split at g
  .split at g
   .rename_i k ds z
    obtain⟨a,j,rfl,e,C⟩:=bJ (ds:=ds) S c (by simp only[de,z])
    exact⟨a,j,t,rfl,.inl ⟨e,cv.ret S (a_ rfl) g⟩⟩
   .rename_i k I z
    simp only[au]at c;obtain⟨a,o,rfl⟩:=c;obtain⟨M,l,m,e,_⟩:=S.cell z;rw[o]at l;cases l
    exact⟨a,[],t,rfl,.inr (.inr ⟨m,e,cv.ret S (a_ rfl) g⟩)⟩
   .exact g.elim
  .rename_i ds
   obtain⟨a,j,rfl,e,C⟩:=bJ (ds:=ds) S c rfl;exact⟨a,j,t,rfl,.inl ⟨e,cv.ret S (a_ rfl) g⟩⟩
  .obtain⟨a,j,rfl,_,e,C⟩:=eU c
   exact⟨a,j,t,rfl,.inr (.inl ⟨.inl e,cv.ret S (a_ rfl) g⟩)⟩
  .exact g.elim
 .refine jI (r:=λx H Q=>Ff X.K [x,.ty t.id] H Q) (λD y=>ka vA A B boot_isinstance (eR y (eR i mR rfl) n) (by decide) (by decide) n h) o ?_
  intro E x F Z G H Q S c g;obtain⟨d,J,N,L,s,k⟩:=oW (bw:=false) S c g;cases q:vh d t with
  |none=>rw[q]at s;cases s
  |some b=>
   rw[q]at s;cases s;exact⟨_,d,x,t,b,rfl,L,q,iO (dN S) k rfl⟩
def dg(b:aD->D->Bool)(f:D->List D->aD->ay D)(mo:EM)(e:AM):EM:=λd g=>(mo d g).bind λx a=>if b a x=true then (e d a).bind λh c=>f x h c else .bad
def hY(Ω:aD)(x:D):Bool:=(de Ω x).isSome
noncomputable def zg(_:aD)(x:D):Bool:=match x with
 |.str _=>true
 |_=>false
theorem kK{x:D}{v:V}{K:PySem.W.Frag}(S:bR κ α Z Ω H)(r:au α Z H x v)(h:hY Ω x=true):BZ K "list" v H:=by
 unfold hY at h;cases q:de Ω x with
 |none=>rw[q]at h;cases h
 |some d=>
  obtain⟨a,b,rfl,c,e⟩:=bJ S r q;exact .inl ⟨rfl,b,jv c⟩
theorem zh{x:D}{v:V}{K:PySem.W.Frag}(S:bR κ α Z Ω H)(r:au α Z H x v)(h:zg Ω x=true):BZ K "str" v H:=by
 cases x with
 |str z=>simp only[au]at r;subst r;rfl
 |_=>cases h
section
variable{T id:String}{name:Str}{r:V->List V->Hp->VK->Prop}{Iq:aD->D->Bool}{f:D->List D->aD->ay D}
theorem zi(p:PlainAttrs T)(slot:PySem.Slot T name id)(h:typeOf (.builtin id)=pure (.type "method_descriptor"))(q:D_ X id r)
  (s:∀x v a Z Ω H,bR κ a Z Ω H->au a Z H x v->Iq Ω x=true->BZ X.K T v H)
  (t:∀x v xs vs a Z Ω H Q,bR κ a Z Ω H->au a Z H x v->aI (au a Z H) xs vs->cv κ Φ a Z H (f x xs Ω) Q->r v vs H Q)
  (b:attributeBase o name X.env (eval o X.env)=eval o X.env) (c:(apos.endLine==cpos.line)=true) (u:bz X κ Φ o mo):bz X κ Φ (.Call (.Attribute o name apos) [] [] cpos) (dg Iq f mo af):=by
 intro i w y z Ω;refine PE.imp (L2.B8 p slot h q (u i w y z Ω) b c) ?_;rintro B H Q ⟨a,Z,S,g⟩;refine⟨a,Z,S,cv.use g λx d _ v k e l C m n j=>?_⟩
 split at j
 .rename_i A
  exact⟨s x v e l d k m n A,t x v [] [] e l d k Q m n .nil j⟩
 .exact j.elim
theorem qO{env:Env}:∀{es:List Expr},(∀e∈es,isStar e=false)->((backTo cpos (starEach es env)).all (λx=>!x.1))=true
 |[],_=>rfl
 |e::es,h=>by
  rw[cD (h e (by simp))]
  show(!false&&(backTo cpos (starEach es env)).all (λx=>!x.1))=true
  rw[qO λz hz=>h z (by simp[hz])];rfl
theorem kL(B:PlainAttrs T)(slot:PySem.Slot T name id)(l:typeOf (.builtin id)=pure (.type "method_descriptor"))(C:D_ X id r)
  (D:∀x v a Z Ω H,bR κ a Z Ω H->au a Z H x v->Iq Ω x=true->BZ X.K T v H)
  (E:∀x v xs vs a Z Ω H Q,bR κ a Z Ω H->au a Z H x v->aI (au a Z H) xs vs->cv κ Φ a Z H (f x xs Ω) Q->r v vs H Q)
  (c:attributeBase o name X.env (eval o X.env)=eval o X.env) (d:(apos.endLine==cpos.line)=true) (F:bz X κ Φ o mo) (G:oV X κ Φ (e::es) as) (h:∀z∈e::es,isStar z=false) (s:(e::es).length<20):bz X κ Φ (.Call (.Attribute o name apos) (e::es) [] cpos) (dg Iq f mo as):=by
 intro i t u w Ω
 have j:((backTo cpos (starEach (e::es) X.env)).all (λx=>!x.1)&&(backToKw cpos (keywordEach [] X.env)).all (λx=>x.1.isSome)
   && decide ((e::es).length+([]:List Keyword).length+(if ([]:List Keyword).isEmpty then 0 else 1)<30))=true:=by
  rw[qO h,decide_eq_true (by show(e::es).length+0+0<30;omega)];rfl
 refine PE.imp (L2.EX B slot l C (F i t u w Ω) (PA.ex λb=>G i t u w b) c j d (cD (h e (by simp))) (cG λz I=>h z (by simp[I]))) ?_
 rintro Y H Q ⟨a,Z,S,g⟩;refine⟨a,Z,S,cv.use g λx b _ v J k y L m A n=>?_⟩
 split at n
 .rename_i M
  exact⟨D x v k y b J m A M,b,k,y,S.grow L m,oU.use n λxs p _ vs N q O P R U V=>E x v xs vs q O p N Q R (m.dA P A) U V⟩
 .exact n.elim
end
noncomputable def nF(Ω:aD):D->Option (Nat×List D)
 |.ref k=>match Ω[k]? with
  |some (.lst ds)=>some (k,ds)
  |_=>none
 |_=>none
theorem gn{x:D}{v:V}{k:Nat}{ds:List D}(S:bR κ α Z Ω H)(r:au α Z H x v)(h:nF Ω x=some (k,ds)):∃a vs,v=.ref a/\α[k]?=some a/\H a=some (.lst vs)/\aI (au α Z H) ds vs:=by
 cases x with
 |ref n=>
  simp only[nF]at h;split at h
  .rename_i d e
   cases h;simp only[au]at r;obtain⟨a,c,rfl⟩:=r;obtain⟨i,b,vs,f,g⟩:=S.cell e;rw[c]at b;cases b;exact⟨a,vs,rfl,c,f,g⟩
  .cases h
 |_=>cases h
theorem ix{k:Nat}{p:Addr}{ds:List D}{vs:List V}{d:D}{u:V}(S:bR κ α Z Ω H)(b:α[k]?=some p){e:List V}(f:H p=some (.lst e))(r:aI (au α Z H) ds vs)(h:au α Z H d u)(g:cv κ Φ α Z H (.ok d (Ω.set k (.lst ds))) Q):Q u (upd H p (.lst vs)):=by
 obtain⟨i,a⟩:=S.put (o:=.lst vs) (c:=.lst ds) b (λo u z=>by rw[f]at z;cases z) λR j=>⟨vs,ba,r.imp j⟩
 exact g _ _ _ _ a i (S.dA a h)
def bq(x:D)(xs:List D)(Ω:aD):ay D:=match nF Ω x,xs with
 |some (k,a),[y]=>if small (a.length+1)then .ok .non (Ω.set k (.lst (a++[y])))else .bad
 |_,_=>.bad
def ej(x:D)(xs:List D)(Ω:aD):ay D:=match nF Ω x,xs with
 |some (k,a),[]=>.ok .non (Ω.set k (.lst a.reverse))
 |_,_=>.bad
def fH(x:D)(xs:List D)(Ω:aD):ay D:=match nF Ω x,xs with
 |some (k,a),[.int i,y]=>if small (a.length+1)&&lI i then .ok .non (Ω.set k (.lst (mZ a i y)))else .bad
 |_,_=>.bad
def fI(x:D)(xs:List D)(Ω:aD):ay D:=match nF Ω x,xs with
 |some (k,a),[y]=>match nF Ω y with
  |some (_,b)=>if small (a.length+b.length)then .ok .non (Ω.set k (.lst (a++b)))else .bad
  |none=>.bad
 |_,_=>.bad
def nG(x:D)(xs:List D)(Ω:aD):ay D:=match xs with
 |[y]=>fE (λa b=>match a with|.lst c=>vg .index (.lst c) (.tup [b])|_=>.bad) x y Ω
 |_=>.bad
def mz(x:D)(xs:List D)(Ω:aD):ay D:=match xs with
 |[y]=>fE (λa b=>vg .join a (.tup [b])) x y Ω
 |_=>.bad
theorem gy{R:D->V->Prop}{y:D}{vs:List V}(h:aI R [y] vs):∃v,vs=[v]/\R y v:=by
 obtain⟨v,r,rfl,a,b⟩:=h.cons_inv;rw[b.nil_inv];exact⟨v,rfl,a⟩
theorem zj{R:D->V->Prop}{y z:D}{vs:List V}(h:aI R [y,z] vs):∃v w,vs=[v,w]/\R y v/\R z w:=by
 obtain⟨v,r,rfl,a,b⟩:=h.cons_inv;obtain⟨w,rfl,c⟩:=gy b;exact⟨v,w,rfl,a,c⟩
theorem ua{x:D}{v:V}{xs:List D}{vs:List V}(S:bR κ α Z Ω H)(r:au α Z H x v)(rs:aI (au α Z H) xs vs)(g:cv κ Φ α Z H (bq x xs Ω) Q):rA v vs H Q:=by
 unfold bq at g;split at g
 .rename_i k j y d
  obtain⟨a,e,rfl,f,b,c⟩:=gn S r d;obtain⟨u,rfl,h⟩:=gy rs;split at g
  .rename_i i
   have:=bL i;exact⟨a,e,u,rfl,rfl,b,by rw[c.length];omega,ix S f b (c.append (.one h)) (a_ rfl) g⟩
  .exact g.elim
 .exact g.elim
theorem qP{x:D}{v:V}{xs:List D}{vs:List V}(S:bR κ α Z Ω H)(r:au α Z H x v)(rs:aI (au α Z H) xs vs)(g:cv κ Φ α Z H (ej x xs Ω) Q):oz v vs H Q:=by
 unfold ej at g;split at g
 .rename_i k h c
  obtain⟨a,d,rfl,e,b,f⟩:=gn S r c;rw[rs.nil_inv];exact⟨a,d,rfl,rfl,b,ix S e b f.reverse (a_ rfl) g⟩
 .exact g.elim
theorem ub{x:D}{v:V}{xs:List D}{vs:List V}(S:bR κ α Z Ω H)(r:au α Z H x v)(rs:aI (au α Z H) xs vs)(g:cv κ Φ α Z H (fH x xs Ω) Q):rM v vs H Q:=by
 unfold fH at g;split at g
 .rename_i k m i y f
  obtain⟨a,h,rfl,j,d,b⟩:=gn S r f;obtain⟨u,w,rfl,e,l⟩:=zj rs;simp only[au]at e;subst e;split at g
  .rename_i c
   simp only[Bool.and_eq_true]at c;have:=bL c.1;have n:=oJ c.2;refine⟨a,h,i,w,rfl,rfl,d,by omega,by omega,by rw[b.length];omega,ix S j d ?_ (a_ rfl) g⟩
   unfold mZ;rw[b.length];exact(b.take _).append (.cons l (b.drop _))
  .exact g.elim
 .exact g.elim
theorem uc{x:D}{v:V}{xs:List D}{vs:List V}(S:bR κ α Z Ω H)(r:au α Z H x v)(rs:aI (au α Z H) xs vs)(g:cv κ Φ α Z H (fI x xs Ω) Q):rC v vs H Q:=by
 unfold fI at g;split at g
 .rename_i k q y f
  obtain⟨a,h,rfl,i,c,d⟩:=gn S r f;obtain⟨u,rfl,j⟩:=gy rs;split at g
  .rename_i n s l
   obtain⟨b,m,rfl,t,o,e⟩:=gn S j l;split at g
   .rename_i p
    exact⟨a,b,h,m,rfl,rfl,c,o,by rw[d.length,e.length];exact bL p,ix S i c (d.append e) (a_ rfl) g⟩
   .exact g.elim
  .exact g.elim
 .exact g.elim
theorem vX{x:D}{v:V}{xs:List D}{vs:List V}(S:bR κ α Z Ω H)(r:au α Z H x v)(rs:aI (au α Z H) xs vs)(g:cv κ Φ α Z H (nG x xs Ω) Q):vC v vs H Q:=by
 unfold nG at g;split at g
 .obtain⟨u,rfl,c⟩:=gy rs
  obtain⟨d,e,f,n,h,i,a,k⟩:=gg (bw:=false) S r c g;cases d with
  |lst l=>
   (unfold vg at a;dsimp only at a)
   split at a
   .rename_i b
    simp only[Bool.and_eq_true]at b;split at a
    .rename_i j m
     cases a;exact⟨_,l,e,u,j,rfl,h,i,b.1,b.2,m,iO (dN S) k rfl⟩
    .cases a
   .cases a
  |_=>cases a
 .exact g.elim
theorem zk{x:D}{v:V}{xs:List D}{vs:List V}(S:bR κ α Z Ω H)(r:au α Z H x v)(rs:aI (au α Z H) xs vs)(g:cv κ Φ α Z H (mz x xs Ω) Q):rJoin v vs H Q:=by
 unfold mz at g;split at g
 .obtain⟨u,rfl,c⟩:=gy rs
  obtain⟨d,e,f,n,h,i,a,k⟩:=gg (bw:=false) S r c g;cases d with
  |str z=>
   cases di h;cases e with
   |lst j=>
    (unfold vg at a;dsimp only at a)
    split at a
    .rename_i l m
     split at a
     .rename_i b
      cases a;simp only[Bool.and_eq_true,decide_eq_true_eq]at b;exact⟨z,_,j,l,u,rfl,rfl,i,m,b.1,b.2,iO (dN S) k rfl⟩
     .cases a
    .cases a
   |_=>cases a
  |_=>cases e<;>cases a
 .exact g.elim
end
inductive Src where
 |seq (x:D)|ints (lo:Int) (n:Nat)|chars (z:Str)|Ir (x:D)|keys (k:Nat)|items (k:Nat)
def er:Src->aD->Option (List D)
 |.seq x,Ω=>fF Ω x
 |.ints lo n,_=>some (intsFrom lo n)
 |.chars z,_=>some (z.cps.toList.map λc=>.str (bF c))
 |.Ir x,Ω=>(de Ω x).map (dw 0)
 |.keys k,Ω=>match Ω[k]? with
  |some (.dF kvs)=>some (kvs.map λa=>iS a.1)
  |_=>none
 |.items k,Ω=>match Ω[k]? with
  |some (.dF kvs)=>some (kvs.map λa=>.tup [iS a.1,a.2])
  |_=>none
abbrev IM:=aR->aD->ay Src
def ud(κ:Str->Addr->Prop)(s:Src)(J:It)(j:List Addr)(Z:Addr->Prop)(H:Hp):Prop:=∀a f b c g,cO j Z H a f c->bR κ a f b c->er s b=some g ->
 (∀(i:Nat) (d:D),g[i]?=some d->J.go i c/\∀x e,J.Ii i c x e->∃h,cO a f c a h e/\bR κ a h b e/\au a h e d x)/\∀i,g.length<=i->J.stop i c
def pR(κ:Str->Addr->Prop)(Φ:gb)(e:List Addr)(Z:Addr->Prop)(H:Hp)(r:ay Src)(R:It->Hp->Prop):Prop:=match r with
 |.ok s b=>∀J c a d,cO e Z H a d c->bR κ a d b c->ud κ s J a d c->R J c
 |.exc x b=>∀c a d,cO e Z H a d c->bR κ a d b c->Φ x b a d c
 |.bad=>False
noncomputable def QI(κ:Str->Addr->Prop)(Φ:gb)(a:List Addr)(c:Addr->Prop)(d:Hp)(m:IM)(ρ:aR)(Ω:aD):TI:=λe H R=>∃b Z,cY κ a c d b Z Ω ρ e H/\pR κ Φ b Z H (m ρ Ω) R
def uF(X:Cx)(κ:Str->Addr->Prop)(Φ:gb)(b e:Expr)(m:IM):Prop:=∀a c d f g,PI X b e (QI κ Φ a c d m f g)
def srcOf(Ω:aD)(x:D):ay Src:=match fF Ω x,x with
 |some _,x=>.ok (.seq x) Ω
 |none,.str z=>.ok (.chars z) Ω
 |none,.ref k=>(match Ω[k]? with
  |some (.dK a)=>.ok (.keys k) (Ω.set k (.dF a))
  |some (.dF _)=>.ok (.keys k) Ω
  |_=>.bad)
 |none,_=>.bad
def aK(m:EM):IM:=λb c=>(m b c).bind λx a=>srcOf a x
noncomputable def sh(Ω:aD)(x:D):ay Src:=match x with
 |.ref k=>(match Ω[k]? with
  |some (.dK a)=>.ok (.items k) (Ω.set k (.dF a))
  |some (.dF _)=>.ok (.items k) Ω
  |_=>.bad)
 |_=>.bad
def eu(m:EM):IM:=λb c=>(m b c).bind λx a=>sh a x
def lM(m:EM):IM:=λb c=>(m b c).bind λx a=>match de a x with
 |some _=>.ok (.Ir x) a
 |none=>.bad
def sj(xs:List D)(Ω:aD):ay Src:=match xs with
 |[.int j]=>if lI j then .ok (.ints 0 j.toNat) Ω else .bad
 |_=>.bad
def b_(a:AM):IM:=λb c=>(a b c).bind sj
section
variable{X:Cx}{κ:Str->Addr->Prop}{Φ:gb}{α α' gW α1:List Addr}{Z Z' Z0 Z1:Addr->Prop}{Ω ao:aD}{H H' H0 H1:Hp}{ρ:aR}{σ:L2.St}{Q Q':VK}{r:ay D}{a b e ce o tg:Expr}{rest:List Expr}{es:List Expr}{ma mb mc m mo:EM}{as:AM}{pos p apos cpos tpos:Pos}
theorem pR.from{r:ay Src}{R:It->Hp->Prop}(g:cO α Z H α1 Z1 H1)(h:pR κ Φ α Z H r R):pR κ Φ α1 Z1 H1 r R:=by
 cases r with
 |ok d b=>exact λv c a e f=>h v c a e (g.trans f)
 |exc x b=>exact λc a e f=>h c a e (g.trans f)
 |bad=>exact h
theorem pR.use{r:ay D}{f:D->aD->ay Src}{R:It->Hp->Prop}(h:pR κ Φ α Z H (r.bind f) R)(k:∀d aG,r=.ok d aG->∀v b a c,cO α Z H a c b->bR κ a c aG b->au a c b d v->pR κ Φ a c b (f d aG) R->Q' v b):cv κ Φ α Z H r Q':=by
 cases r with
 |ok d aG=>exact λv b a c g s q=>k d aG rfl v b a c g s q (pR.from g h)
 |exc x aG=>exact h
 |bad=>exact h
theorem pd{K:PySem.W.Frag}{x:D}{a:Addr}(p:au α Z H x (.ref a))(S:bR κ α Z Ω H)(q:(de Ω x).isSome=true):ud κ (.seq x) (Kd K a) α Z H:=by
 intro r t b C u g s w;have c:=S.dA g p;have f:∀h,x≠.tup h:=λh e=>by subst e;cases q
 have j:de b x=some u:=by
  cases x with
  |tup h=>exact absurd rfl (f _)
  |_=>exact w
 obtain⟨E,k,e,l,n⟩:=bJ s c j;cases e;refine⟨λi d z=>?_,λi A=>⟨k,jv l,by rw[n.length];exact A⟩⟩
 obtain⟨v,o,B⟩:=n.get z;refine⟨⟨k,v,jv l,o⟩,λy F m=>?_⟩
 obtain⟨rfl,m⟩:=m;have:=m k (jv l);rw[o]at this;cases this;exact⟨t,cO.refl s.has,s,B⟩
theorem zl{K:PySem.W.Frag}{es:List D}{a:Addr}(l:au α Z H (.tup es) (.ref a))(S:bR κ α Z Ω H):ud κ (.seq (.tup es)) (Ke K a) α Z H:=by
 intro m n o u w g s p;have b:=S.dA g l;cases p;obtain⟨x,c,e,_,f,j⟩:=eU b;cases e;refine⟨λi d q=>?_,λi r=>⟨c,tP (.inl f),by rw[j.length];exact r⟩⟩
 obtain⟨v,k,t⟩:=j.get q;refine⟨⟨c,v,tP (.inl f),k⟩,λy z h=>?_⟩
 obtain⟨rfl,h⟩:=h;have:=h c (tP (.inl f));rw[k]at this;cases this;exact⟨n,cO.refl s.has,s,t⟩
theorem pe{k:Nat}{a:Addr}{o:Obj}{kvs:List (Key×V)}(w:α[k]?=some a)(y:H a=some (.dr o (.dK kvs))):ud κ (.keys k) (Fo a o) α Z H:=by
 intro z A B G I g s f;have h:=g.pre k a w;have b:=g.dr a _ _ y;simp only[er]at f;split at f
 .rename_i l C
  cases f;obtain⟨J,c,K,m,n,r⟩:=s.cell C;rw[h]at c;cases c
  rw[b]at n;cases n
  have L:=r.length;refine⟨λi d t=>?_,λi D=>⟨kvs,b,by rw[List.length_map]at D;omega⟩⟩
  rw[List.getElem?_map]at t;obtain⟨p,E,rfl⟩:=Option.map_eq_some_iff.mp t;obtain⟨q,u,F,_⟩:=aI.get r E;refine⟨⟨kvs,b,(List.getElem?_eq_some_iff.mp u).1⟩,λx M j=>?_⟩
  obtain⟨rfl,j⟩:=j;obtain⟨N,e,rfl⟩:=j kvs b;rw[u]at e;cases e
  refine⟨A,cO.refl s.has,s,?_⟩;rw[F];cases q.1<;>simp only[iS,kV,au]
 .cases f
theorem mB{k:Nat}{a:Addr}{o:Obj}{kvs:List (Key×V)}(B:α[k]?=some a)(C:H a=some (.dr o (.dK kvs))):ud κ (.items k) (Fs a o) α Z H:=by
 intro D E F M N g s f;have h:=g.pre k a B;have b:=g.dr a _ _ C;simp only[er]at f;split at f
 .rename_i r G
  cases f;obtain⟨O,c,P,t,u,w⟩:=s.cell G;rw[h]at c;cases c
  rw[b]at u;cases u
  have Q:=w.length;refine⟨λi d y=>?_,λi I=>⟨kvs,b,by rw[List.length_map]at I;omega⟩⟩
  rw[List.getElem?_map]at y;obtain⟨p,J,rfl⟩:=Option.map_eq_some_iff.mp y;obtain⟨q,z,K,L⟩:=aI.get w J;refine⟨⟨kvs,b,(List.getElem?_eq_some_iff.mp z).1⟩,λx R j=>?_⟩
  obtain⟨l,rfl,m,j⟩:=j;obtain⟨S,e,rfl⟩:=j kvs b;rw[z]at e;cases e
  obtain⟨A,n⟩:=s.rW (p:=l) (o:=.tup [kV q.1,q.2]) m True;simp only[if_true]at A n;refine⟨Zp E l,n,A,?_⟩;simp only[au];refine⟨l,_,rfl,.inr rfl,ba,cA.mpr (.cons ?_ (.one (s.dA n L)))⟩;rw[K];cases q.1<;>simp only[iS,kV,au]
 .cases f
theorem zm(h:bz X κ Φ e m):uF X κ Φ tg e (aK m):=by
 intro G O P Q T;refine PI.imp (za (h G O P Q T)) ?_;rintro σ H R ⟨U,Z,S,g⟩;refine⟨U,Z,S,pR.use g λx I _ v w k t g1 b r j=>?_⟩
 cases x with
 |tup M=>
  have l:=r;obtain⟨a,A,rfl,_,p,B⟩:=eU r;exact .inr (.inl ⟨a,A,rfl,.inl p,j _ w k t (cO.refl b.has) b (zl l b)⟩)
 |lst M=>
  have l:=r;obtain⟨a,A,rfl,p,B⟩:=bJ (ds:=M) b r rfl;exact .inl ⟨a,A,rfl,p,j _ w k t (cO.refl b.has) b (pd l b rfl)⟩
 |ref n=>
  cases s:de I (.ref n)with
  |none=>
   simp only[srcOf,fF,s]at j;simp only[au]at r;obtain⟨a,C,rfl⟩:=r;split at j
   .rename_i D J
    obtain⟨V,q,f,p,B⟩:=b.cell J;rw[C]at q;cases q
    refine .inr (.inr (.inr ⟨a,f,rfl,.inl ⟨p,λo=>?_⟩⟩))
    obtain⟨E,N⟩:=b.put (o:=.dr o (.dK f)) (c:=.dF D) C (λo u z=>by rw[p]at z;cases z) λR Y=>⟨o,f,ba,B.imp Y⟩
    exact j _ _ k t N E (pe C ba)
   .rename_i D J
    obtain⟨V,q,o,f,p,B⟩:=b.cell J;rw[C]at q;cases q
    exact .inr (.inr (.inr ⟨a,f,rfl,.inr ⟨o,p,j _ w k t (cO.refl b.has) b (pe C p)⟩⟩))
   .exact j.elim
  |some ds=>
   simp only[srcOf,fF,s]at j;have l:=r;obtain⟨a,A,rfl,p,B⟩:=bJ b r s;exact .inl ⟨a,A,rfl,p,j _ w k t (cO.refl b.has) b (pd l b (by rw[s];rfl))⟩
 |str z=>
  simp only[au]at r;subst r;refine .inr (.inr (.inl ⟨z,rfl,j _ w k t (cO.refl b.has) b ?_⟩));intro a0 Z2 b0 H2 ds N E hs;cases hs;refine⟨λi d F=>?_,λi K=>by show z.cps.size<=i;simpa using K⟩
  have K:i<z.cps.size:=by
   have:=(List.getElem?_eq_some_iff.mp F).1;simpa using this
  refine⟨K,λy H3 hy=>?_⟩
  obtain⟨rfl,c,hc,rfl⟩:=hy;rw[List.getElem?_map]at F;have L:z.cps.toList[i]?=some c:=by simpa using hc
  rw[L]at F;cases F;exact⟨Z2,cO.refl E.has,E,a_ rfl⟩
 |non=>exact j.elim
 |bl _=>exact j.elim
 |int _=>exact j.elim
 |dct _ _=>exact j.elim
theorem vY{b:Int}{n:Nat}:ud κ (.ints b n) (ED b n) α Z H:=by
 intro e f h l m g s j;cases j;refine⟨λi d c=>?_,λi a=>by rw[kn]at a;exact a⟩
 have a:=(List.getElem?_eq_some_iff.mp c).1;rw[kn]at a;refine⟨a,λy o k=>?_⟩
 obtain⟨rfl,rfl⟩:=k;rw[ints_get _ _ _ _ c];exact⟨f,cO.refl s.has,s,a_ rfl⟩
theorem pR.Kz{r:ay (List D)}{f:List D->aD->ay Src}{R:It->Hp->Prop}{Q':List V->Hp->Prop}(h:pR κ Φ α Z H (r.bind f) R)(k:∀ds aG,r=.ok ds aG->∀vs b a c,cO α Z H a c b->bR κ a c aG b->aI (au a c b) ds vs->pR κ Φ a c b (f ds aG) R->Q' vs b):oU κ Φ α Z H r Q':=by
 cases r with
 |ok d aG=>exact λv b a c g s q=>k d aG rfl v b a c g s q (pR.from g h)
 |exc x aG=>exact h
 |bad=>exact h
theorem vZ(l:Gl X "range")(m:X.mg "range"=none)(n:oV X κ Φ [a] as)(o:starEach [a] X.env=[(false,eval a X.env)]):uF X κ Φ tg (.Call (.Name "range" p) [a] [] pos) (b_ as):=by
 intro d q r s t;refine PI.imp (tm l m (n d q r s t) o) ?_;rintro z H R ⟨u,Z,S,g⟩;refine⟨u,Z,S,pR.Kz (Q':=λh e=>∃j:Int,h=[.int j] /\ -(2 ^ 62)<=j/\j<2 ^ 62/\R (ED 0 j.toNat) e) g λA w _ h e f x B i y b=>?_⟩
 unfold sj at b;split at b
 .obtain⟨v,rfl,k⟩:=gy y
  simp only[au]at k;subst k;split at b
  .rename_i c
   have c:=oJ c;exact⟨_,rfl,c.1,c.2,b _ e f x (cO.refl i.has) i vY⟩
  .exact b.elim
 .exact b.elim
noncomputable def nH(n:Nat)(d:D):Option aR:=match n,d with
 |0,d=>some [some d]
 |n,.tup a=>if a.length=n then some (a.map some)else none
 |_,_=>none
noncomputable def dI(cap:List Nat)(ρ:aR):aR:=cap.map λi=>(ρ[i]?).join
def gK(nc:Bool)(mc:EM)(ρ:aR)(Ω:aD):ay Bool:=if nc=true then .ok true Ω else cx (mc ρ Ω)
def sk(nc:Bool)(mc me:EM)(n:Nat)(τ:aR)(src:Src):Nat->Nat->List D->aD->ay (List D)
 |0,_,_,_=>.bad
 |f+1,i,a,Ω=>match er src Ω with
  |none=>.bad
  |some ds=>match ds[i]? with
   |none=>.ok a Ω
   |some d=>match nH n d with
    |none=>.bad
    |some ts=>if small (a.length+1)then match gK nc mc (ts++τ) Ω with
     |.ok true aG=>match me (ts++τ) aG with
      |.ok y Iu=>sk nc mc me n τ src f (i+1) (a++[y]) Iu
      |_=>.bad
     |.ok false aG=>sk nc mc me n τ src f (i+1) a aG
     |_=>.bad else .bad
def aW(me:EM)(nc:Bool)(mc:EM)(mi:IM)(n:Nat)(cap:List Nat):EM:=λc d=>match mi c d with
 |.ok s a=>match sk nc mc me n (dI cap c) s fuel 0 [] a with
  |.ok e b=>gX b (.lst e)
  |_=>.bad
 |.exc x a=>.exc x a
 |.bad=>.bad
noncomputable def pf:gb:=λ_ _ _ _ _=>False
theorem ph{cap:List Nat}{ds:List D}{vs:List V}(S:cY κ gW Z0 H0 α Z Ω ρ σ H)(g:cO α Z H α1 Z1 H1)(s:bR κ α1 Z1 ao H1)(r:aI (au α1 Z1 H1) ds vs) :
  cY κ α1 Z1 H1 α1 Z1 ao (ds.map some++dI cap ρ) (vs.map some++oM cap σ) H1:=by
 have a:=r.length;refine⟨s,cO.refl s.has,?_,λi d h=>?_⟩
 .rw[List.length_append,List.length_append,List.length_map,List.length_map,a]
  unfold oM dI;rw[List.length_map,List.length_map]
 .by_cases b:i<ds.length
  .rw[List.getElem?_append_left (by simpa using b),List.getElem?_map]at h
   rw[List.getElem?_append_left (by simpa[a]using b),List.getElem?_map]
   cases q:ds[i]? with
   |none=>rw[q]at h;cases h
   |some l=>
    rw[q]at h;cases h;obtain⟨v,c,e⟩:=r.get q;exact⟨v,by rw[c];rfl,e⟩
  .rw[List.getElem?_append_right (by simpa using b)]at h
   rw[List.getElem?_append_right (by simpa[a]using b)]
   unfold dI at h;unfold oM;rw[List.length_map,List.getElem?_map]at h;rw[List.length_map,a,List.getElem?_map];cases q:cap[i - ds.length]? with
   |none=>rw[q]at h;cases h
   |some j=>
    rw[q]at h;have h:(ρ[j]?).join=some d:=by simpa using h
    have k:ρ[j]?=some (some d):=by
     cases f:ρ[j]? with
     |none=>rw[f]at h;cases h
     |some o=>rw[f]at h;rw[show o=some d from h]
    obtain⟨v,c,e⟩:=S.val j d k;refine⟨v,?_,S.st.dA g e⟩
    show some ((σ[j]?).join)=_
    rw[c];rfl
theorem cO.Ba(g:cO α Z H α' Z' H'){a:Addr}{o:HO}(b:a∉α)(h:H a=some o):a∉α':=λq=>by
 rcases g.Ci a q with q|q
 .exact b q
 .rw[h]at q;cases q
theorem cO.Cu(g:cO α Z H α' Z' H'){a:Addr}{o:HO}(b:¬ Z a)(h:H a=some o):¬ Z' a:=λq=>by
 rcases g.new a q with q|q
 .exact b q
 .rw[h]at q;cases q
theorem cO.side(g:cO α Z H α' Z' H'){a:Addr}{o:HO}(d:a∉α)(h:H a=Option.none):cO α Z H α' Z' (upd H' a o):=
 ⟨g.pre,g.sub,g.new,g.Ci,λb u e c=>by rw[aJ (bc e h)];exact g.frm b u e c,λb c=>by rw[aJ (λ(q:b=a)=>d (by rw[←q];exact c))];exact g.has b c,λb f u e=>by rw[aJ (bc e h)];exact g.dr b f u e⟩
theorem zo{n:Nat}{d:D}{τ:aR}(h:nH n d=some τ):∃ds:List D,τ=ds.map some:=by
 unfold nH at h;split at h
 .cases h;exact⟨[d],rfl⟩
 .split at h
  .cases h;exact⟨_,rfl⟩
  .cases h
 .cases h
theorem bR.part(S:bR κ α Z Ω H){g:Addr}{vs:List V}{ds:List D}(i:H g=some (.lst vs))(j:g∉α)(hz:¬ Z g)(r:aI (au α Z H) ds vs):bR κ (α++[g]) Z (Ω++[.lst ds]) H:=by
 have h:∀(n:Nat) (a:Addr),α[n]?=some a->(α++[g])[n]?=some a:=λn a e=>by rw[List.getElem?_append_left (List.getElem?_eq_some_iff.mp e).1];exact e
 have mono:∀d v,au α Z H d v->au (α++[g]) Z H d v:=λd v r=>r.mono h (λ_ _ _ e=>e) λ_ z=>z
 refine⟨?_,?_,λa ha f=>?_,S.dom⟩
 .refine List.nodup_append.mpr ⟨S.rV,by simp,λa ha b k e=>?_⟩
  rw[List.mem_singleton.mp k]at e;exact j (e▸ha)
 .exact aI.append (S.xG.imp λc a l=>l.imp mono (λ_ e=>e) λ_ _ _ e=>e) (.one ⟨vs,i,r.imp mono⟩)
 .rcases List.mem_append.mp ha with ha|ha
  .exact S.sep a ha f
  .rw[List.mem_singleton.mp ha]at f;exact hz f
theorem bR.side(S:bR κ α Z Ω H){f:Addr}{o:HO}(m:f∉α)(hz:¬ Z f)(n:∀o u,H f≠some (.dr o u)):bR κ α Z Ω (upd H f o)/\∀d v,au α Z H d v->au α Z (upd H f o) d v:=by
 have mono:∀d v,au α Z H d v->au α Z (upd H f o) d v:=λd v r=>r.mono (λ_ _ e=>e) (λa u z e=>by rw[aJ (λ(q:a=f)=>hz (by rw[←q];exact z))];exact e) λ_ z=>z
 have k:∀{j:List Cell}{g:List Addr},(∀a∈g,a∈α)->aI (λc a=>gG κ (au α Z H) H a c) j g->aI (λc a=>gG κ (au α Z (upd H f o)) (upd H f o) a c) j g:=by
  intro j g i p
  induction p with
  |nil=>exact .nil
  |@cons c a j g r t s=>
   have l:a≠f:=λq=>m (q▸i a (by simp))
   exact .cons (r.imp mono (λu e=>by rw[aJ l];exact e) λb w x e=>by rw[aJ (λq=>n w x (by rw[←q];exact e))];exact e) (s λb y=>i b (by simp[y]))
 exact⟨⟨S.rV,k (λa h=>h) S.xG,S.sep,λa z=>by rw[aJ (λ(q:a=f)=>hz (by rw[←q];exact z))];exact S.dom a z⟩,mono⟩
end
section
variable{X:Cx}{κ:Str->Addr->Prop}{Φ:gb}{tg iter elt:Expr}{ifs:List Expr}{scope:Scope}{tn cn:List Str}{cap:List Nat}{me mc:EM}{mi:IM}{nc:Bool}{pos:Pos}{n:Nat}
theorem ue{g:TG}(m0:uF X κ Φ tg iter mi)
  (n0:∀(d:D) (ds:List D) x p Z Ω H (m:L2.St) (k:L2.St->Hp->Prop),nH n d=some (ds.map some)->bR κ p Z Ω H->au p Z H d x->(∀vs,aI (au p Z H) ds vs->k (vs.map some++m) H)->g x (List.replicate tn.length none++m) H k)
  (hb:∀B C h j fp,PG (blk X scope B C (tn++cn) h j fp) tg g/\((ifs=[]/\nc=true)\/∃c,ifs=[c]/\nc=false/\gf (blk X scope B C (tn++cn) h j fp) κ pf c mc)/\bz (blk X scope B C (tn++cn) h j fp) κ pf elt me) :
  ∀V Z0 H0 ρ Ω,∃wi tc te,PI X tg iter wi/\(∀B C h j fp,PG (blk X scope B C (tn++cn) h j fp) tg g/\yt (blk X scope B C (tn++cn) h j fp) ifs tc/\PE (blk X scope B C (tn++cn) h j fp) elt te) /\
   ∀σ H Q,tO κ Φ V Z0 H0 (aW me nc mc mi n cap) ρ Ω σ H Q->lZ wi tn.length cap g tc te σ H Q:=by
 intro V Z0 H0 ρ Ω
 let tc:TT:=λm H Q=>∃p Z Ω r,cY κ p Z H p Z Ω r m H/\n9 κ pf p Z H (gK nc mc r Ω) Q
 let te:TE:=λm H Q=>∃p Z Ω r,cY κ p Z H p Z Ω r m H/\cv κ pf p Z H (me r Ω) Q
 have p0:∀B C h j fp,PG (blk X scope B C (tn++cn) h j fp) tg g/\yt (blk X scope B C (tn++cn) h j fp) ifs tc/\PE (blk X scope B C (tn++cn) h j fp) elt te:=by
  intro B C h j fp;obtain⟨h1,h2,h3⟩:=hb B C h j fp;refine⟨h1,?_,?_⟩
  .rcases h2 with ⟨e,hn⟩|⟨c,e,hn,h2⟩
   .subst e
    intro pins s m H Q I q;obtain⟨p,Z,Ω,r,S,k⟩:=q;rw[gK,if_pos hn]at k;exact yu pins s m H Q I (k H p Z (cO.refl S.st.has) S.st)
   .subst e
    intro pins s m H Q I q;obtain⟨p,Z,Ω,r,S,k⟩:=q;rw[gK,if_neg (by rw[hn];exact Bool.false_ne_true)]at k
    exact yv (h2 p Z H r Ω) pins s m H Q I ⟨p,Z,S,k⟩
  .intro pins s m H Q I q
   obtain⟨p,Z,Ω,r,S,k⟩:=q;exact h3 p Z H r Ω pins s m H Q I ⟨p,Z,S,k⟩
 refine⟨_,tc,te,m0 V Z0 H0 ρ Ω,p0,?_⟩;rintro σ H Q ⟨p,Z,S,k⟩;refine⟨p,Z,S,?_⟩;simp only[aW]at k;cases qi:mi ρ Ω with
 |exc x Y=>rw[qi]at k;exact k
 |bad=>rw[qi]at k;exact k.elim
 |ok a0 Y=>
  rw[qi]at k;dsimp only at k;intro J H1 K Z1 g1 s1 w1 E hD;cases qg:sk nc mc me n (dI cap ρ) a0 fuel 0 [] Y with
  |exc x e0=>rw[qg]at k;exact k.elim
  |bad=>rw[qg]at k;exact k.elim
  |ok ys e0=>
   rw[qg]at k;dsimp only at k;have R:¬ Z1 E:=λz=>s1.dom E z hD
   have A:E∉K:=λz=>s1.has E z hD
   refine⟨λi f vs T=>∃t U w F,cO K Z1 H1 t U T/\bR κ t U w T/\E∉t/\¬ U E/\T E=some (.lst vs)/\aI (au t U T) F vs/\sk nc mc me n (dI cap ρ) a0 f i F w=.ok ys e0,
    ⟨fuel,K,Z1,Y,[],?_,?_,A,R,ba,.nil,qg⟩,?_⟩
   .exact⟨λ_ _ e=>e,λ_ z=>z,λ_ z=>.inl z,λ_ z=>.inl z,λa o e _=>by rw[aJ (bc e hD)];exact e,λa ha=>by rw[aJ (λ(q:a=E)=>A (by rw[←q];exact ha))];exact s1.has a ha,λa o u e=>by rw[aJ (bc e hD)];exact e⟩
   .exact(s1.side A R λo u z=>by rw[hD]at z;cases z).1
   rintro i f vs T ⟨t,U,w,F,G,s2,nD,nZ,L,r2,l⟩;refine⟨L,?_⟩;cases f with
   |zero=>cases l
   |succ f=>
    simp only[sk]at l;cases qs:er a0 w with
    |none=>rw[qs]at l;cases l
    |some ds=>
     rw[qs]at l;dsimp only at l;obtain⟨q0,r0⟩:=w1 t U w T ds G s2 qs;cases qd:ds[i]? with
     |none=>
      rw[qd]at l;cases l;have hi:ds.length<=i:=List.getElem?_eq_none_iff.mp qd;refine .inl ⟨r0 i hi,?_⟩;have sf:=s2.part L nD nZ r2
      have gA:cO K Z1 H1 (t++[E]) U T:=⟨λn a e=>by rw[List.getElem?_append_left (List.getElem?_eq_some_iff.mp (G.pre n a e)).1];exact G.pre n a e,G.sub,G.new,λa ha=>by
       rcases List.mem_append.mp ha with ha|ha
       .exact G.Ci a ha
       .rw[List.mem_singleton.mp ha];exact .inr hD,G.frm,G.has,G.dr⟩
      exact k _ T _ U (g1.trans gA) sf (fq s2 E)
     |some d=>
      rw[qd]at l;dsimp only at l;obtain⟨s0,t0⟩:=q0 i d qd;cases qt:nH n d with
      |none=>rw[qt]at l;cases l
      |some ts=>
       rw[qt]at l;dsimp only at l;obtain⟨es,rfl⟩:=zo qt
       by_cases M:small (F.length+1)=true
       .rw[if_pos M]at l
        have M:=bL M;refine .inr ⟨s0,by rw[r2.length];omega,λx H3 yl=>?_⟩
        obtain⟨Z3,g3,s3,rx⟩:=t0 x H3 yl;have u0:=g3.Cu nZ L;have b0:=g3.frm E _ L nD;refine n0 d es x t Z3 w H3 (oM cap σ) _ qt s3 rx λws f0=>?_
        have gB:=g1.trans (G.trans g3);have SB:=ph (cap:=cap) S gB s3 f0;refine⟨t,Z3,w,_,SB,?_⟩;cases qc:gK nc mc (es.map some++dI cap ρ) w with
        |exc x N=>rw[qc]at l;cases l
        |bad=>rw[qc]at l;cases l
        |ok b N=>
         rw[qc]at l;intro H5 g0 Z5 O s5;have c0:=O.Ba nD b0;have h0:=O.Cu u0 b0;have P:=O.frm E _ b0 nD;cases b with
         |false=>
          refine oF ?_;exact⟨f,Nat.lt_succ_self _,g0,Z5,N,F,G.trans (g3.trans O),s5,c0,h0,P,s3.jk O (s2.jk g3 r2),l⟩
         |true=>
          refine oG ?_;dsimp only at l;have SC:=ph (cap:=cap) S (gB.trans O) s5 (s3.jk O f0);refine⟨g0,Z5,N,_,SC,?_⟩;cases qe:me (es.map some++dI cap ρ) N with
          |exc x i0=>rw[qe]at l;cases l
          |bad=>rw[qe]at l;cases l
          |ok y i0=>
           rw[qe]at l;intro v H6 v0 Z6 g6 s6 rv;have j0:=g6.Ba c0 P;have k0:=g6.Cu h0 P;have l0:=g6.frm E _ P c0;obtain⟨s7,m7⟩:=s6.side (o:=.lst (vs++[v])) j0 k0 (λo u z=>by rw[l0]at z;cases z)
           refine⟨l0,f,Nat.lt_succ_self _,v0,Z6,i0,F++[y],((G.trans (g3.trans O)).trans g6).side A hD,s7,j0,k0,ba,?_,l⟩;exact((s5.jk g6 (s3.jk O (s2.jk g3 r2))).append (.one rv)).imp m7
       .rw[if_neg M]at l;cases l
theorem kM{x:Str}{j:Pos}(l:uF X κ Φ (.Name x j) iter mi)(p:scope.names.lookup x=some .local\/scope.names.lookup x=some .cell)(m:([x]++cn).Nodup)
  (z:∀h C b f fp,((ifs=[]/\nc=true)\/∃c,ifs=[c]/\nc=false/\gf (blk X scope h C ([x]++cn) b f fp) κ pf c mc)/\bz (blk X scope h C ([x]++cn) b f fp) κ pf elt me) :
  ∀n A B ρ Ω,∃s t u,PI X (.Name x j) iter s/\(∀h C b f fp,PG (blk X scope h C ([x]++cn) b f fp) (.Name x j) (gN 0)/\yt (blk X scope h C ([x]++cn) b f fp) ifs t/\PE (blk X scope h C ([x]++cn) b f fp) elt u) /\
   ∀w H Q,tO κ Φ n A B (aW me nc mc mi 0 cap) ρ Ω w H Q->lZ s [x].length cap (gN 0) t u w H Q:=by
 have D:(relabel scope X.env).names.lookup x=some .local\/(relabel scope X.env).names.lookup x=some .cell:=by
  rcases p with q|q
  .exact .inl (lookup_relabel_local q)
  .refine .inr ?_
   unfold relabel;simp only[dJ,q,Option.map_some];rfl
 have E:(scope.names.lookup x==some NameKind.cell)=true\/(relabel scope X.env).names.lookup x=some .local:=by
  rcases p with q|q
  .exact .inr (lookup_relabel_local q)
  .exact .inl (by rw[q];rfl)
 refine ue (g:=gN 0) (tn:=[x]) l (λd o y L Z Ω H F k i S G I=>?_) λh C b f fp=>?_
 .have i:some [some d]=some (o.map some):=i
  have e:o=[d]:=by
   injection i with i;cases o with
   |nil=>cases i
   |cons a r=>
    cases r with
    |nil=>simp only[List.map_cons,List.map_nil,List.cons.injEq,Option.some.injEq,and_true]at i;rw[i]
    |cons _ _=>cases i
  subst e;exact I [y] (.one G)
 .obtain⟨J,K⟩:=z h C b f fp
  exact⟨mM (X:=blk X scope h C ([x]++cn) b f fp) m rfl D E,J,K⟩
theorem v9{x:Str}{g:Pos}(i:X.calm=true)(B:jg X scope [x] cn cap)(j:∀z,foldedSetIterable iter X.env z=pure z)(d:uF X κ Φ (.Name x g) iter mi)(k:scope.names.lookup x=some .local\/scope.names.lookup x=some .cell)(e:([x]++cn).Nodup)
  (l:∀h C a b fp,((ifs=[]/\nc=true)\/∃c,ifs=[c]/\nc=false/\gf (blk X scope h C ([x]++cn) a b fp) κ pf c mc)/\bz (blk X scope h C ([x]++cn) a b fp) κ pf elt me) :
  bz X κ Φ (.ListComp elt [⟨.Name x g,iter,ifs,0⟩] scope pos) (aW me nc mc mi 0 cap):=by
 intro f m n o p;obtain⟨t,u,w,q,r,s⟩:=kM (cap:=cap) d k e l f m n o p;exact PE.imp (yw i B q j (jh 1 (by decide)) r) s
end
inductive fu where
 |nx (ρ:aR) (Ω:aD)|bk (ρ:aR) (Ω:aD)|ct (ρ:aR) (Ω:aD)|rt (d:D) (Ω:aD)|exc (x:D) (Ω:aD)|bad
abbrev SM:=aR->aD->fu
def eA(κ:Str->Addr->Prop)(Φ:gb)(b:List Addr)(e:Addr->Prop)(f:Hp)(E:Ends):fu->Prop
 |.nx ρ Ω=>∀c H a Z,cY κ b e f a Z Ω ρ c H->E.nx c H
 |.bk ρ Ω=>∀c H a Z,cY κ b e f a Z Ω ρ c H->E.bk c H
 |.ct ρ Ω=>∀c H a Z,cY κ b e f a Z Ω ρ c H->E.ct c H
 |.rt d Ω=>∀v H a Z,cO b e f a Z H->bR κ a Z Ω H->au a Z H d v->E.rt v H
 |.exc x Ω=>∀H a Z,cO b e f a Z H->bR κ a Z Ω H->Φ x Ω a Z H
 |.bad=>False
noncomputable def Fu(κ:Str->Addr->Prop)(Φ:gb)(a:List Addr)(b:Addr->Prop)(d:Hp)(c:SM)(ρ:aR)(Ω:aD):TS:=λE e H=>∃f Z,cY κ a b d f Z Ω ρ e H/\eA κ Φ a b d E (c ρ Ω)
def pj(X:Cx)(κ:Str->Addr->Prop)(Φ:gb)(st:Stmt)(c:SM):Prop:=∀a b d e f,PS X st (Fu κ Φ a b d c e f)
def lN(X:Cx)(κ:Str->Addr->Prop)(Φ:gb)(a:List Stmt)(c:SM):Prop:=∀b d e f g,ja X a (Fu κ Φ b d e c f g)
noncomputable def bK{c:Type}(r:ay c)(k:c->aD->fu):fu:=match r with
 |.ok a b=>k a b
 |.exc x b=>.exc x b
 |.bad=>.bad
noncomputable def aj:SM:=λa b=>.nx a b
noncomputable def ag(a b:SM):SM:=λe f=>match a e f with
 |.nx c d=>b c d
 |r=>r
def av(i:Nat)(m:EM):SM:=λb c=>bK (m b c) λd a=>.nx (b.set i (some d)) a
def bH(m:EM):SM:=λb c=>bK (m b c) λ_ a=>.nx b a
def bh(m:EM):SM:=λb c=>bK (m b c) λd a=>.rt d a
def cU(m:EM)(a b:SM):SM:=λd e=>bK (cx (m d e)) λt c=>if t=true then a d c else b d c
noncomputable def bO:SM:=λ_ _=>.bad
def ek(m:EM)(b:SM):Nat->SM
 |0,_,_=>.bad
 |f+1,ρ,Ω=>bK (cx (m ρ Ω)) λt aG=>if t=true then (match b ρ aG with
  |.nx a ao=>ek m b f a ao
  |.ct a ao=>ek m b f a ao
  |.bk a ao=>.nx a ao
  |r=>r)else .nx ρ aG
def gM(m:EM)(b:SM):SM:=ek m b fuel
noncomputable def fJ:List Nat->List D->aR->aR
 |i::a,d::ds,ρ=>fJ a ds (ρ.set i (some d))
 |_,_,ρ=>ρ
noncomputable def bX(i:Nat)(d:D)(ρ:aR):Option aR:=some (ρ.set i (some d))
def dm(a:List Nat)(d:D)(ρ:aR):Option aR:=match d with
 |.tup b=>if b.length=a.length then some (fJ a b ρ)else none
 |_=>none
def eX(c:D->aR->Option aR)(src:Src)(b:SM):Nat->Nat->SM
 |0,_,_,_=>.bad
 |f+1,i,ρ,Ω=>match er src Ω with
  |none=>.bad
  |some ds=>match ds[i]? with
   |none=>.nx ρ Ω
   |some d=>match c d ρ with
    |none=>.bad
    |some e=>match b e Ω with
     |.nx a ao=>eX c src b f (i+1) a ao
     |.ct a ao=>eX c src b f (i+1) a ao
     |.bk a ao=>.nx a ao
     |r=>r
def cj(a:D->aR->Option aR)(mi:IM)(b:SM):SM:=λd e=>bK (mi d e) λs c=>eX a s b fuel 0 d c
def qQ(e:List Nat)(m:EM):SM:=λc f=>bK (m c f) λd a=>match dm e d c with
 |some b=>.nx b a
 |none=>.bad
section
variable{X:Cx}{κ:Str->Addr->Prop}{Φ:gb}{α α' gW α1:List Addr}{Z Z' Z0 Z1:Addr->Prop}{Ω ao:aD}{H H' H0 H1:Hp}{ρ:aR}{σ:L2.St}{E:Ends}{a b e ce o tg:Expr}{st:Stmt}{rest ta tb:List Stmt}{m:EM}{mi:IM}{ca cb:SM}{pos pos':Pos}
theorem cY.set(S:cY κ gW Z0 H0 α Z Ω ρ σ H){d:D}{v:V}(r:au α Z H d v)(i:Nat):cY κ gW Z0 H0 α Z Ω (ρ.set i (some d)) (σ.set i (some v)) H:=by
 refine⟨S.st,S.gr,by simp[S.len],λj c h=>?_⟩
 by_cases a:i=j
 .subst a
  have b:i<ρ.length:=by
   have:=(List.getElem?_eq_some_iff.mp h).1;simpa using this
  rw[List.getElem?_set_self b]at h;cases h;exact⟨v,by rw[List.getElem?_set_self (by rw[S.len];exact b)],r⟩
 .rw[List.getElem?_set_ne a]at h ⊢
  exact S.val j c h
theorem eA.use{r:ay D}{k:D->aD->fu}{Q:VK}(S:cY κ gW Z0 H0 α Z Ω ρ σ H)(f:eA κ Φ gW Z0 H0 E (bK r k))(h:∀d aG v b a c,r=.ok d aG->cO α Z H a c b->cY κ gW Z0 H0 a c aG ρ σ b->au a c b d v->eA κ Φ gW Z0 H0 E (k d aG)->Q v b):cv κ Φ α Z H r Q:=by
 cases r with
 |ok d aG=>exact λv b a c g s q=>h d aG v b a c rfl g (S.grow g s) q f
 |exc x aG=>exact λb a c g s=>f b a c (S.gr.trans g) s
 |bad=>exact f
theorem eA.Fv{r:ay Bool}{k:Bool->aD->fu}{Q:Bool->Hp->Prop}(S:cY κ gW Z0 H0 α Z Ω ρ σ H)(f:eA κ Φ gW Z0 H0 E (bK r k))(h:∀t aG b a c,r=.ok t aG->cO α Z H a c b->cY κ gW Z0 H0 a c aG ρ σ b->eA κ Φ gW Z0 H0 E (k t aG)->Q t b):n9 κ Φ α Z H r Q:=by
 cases r with
 |ok d aG=>exact λb a c g s=>h d aG b a c rfl g (S.grow g s) f
 |exc x aG=>exact λb a c g s=>f b a c (S.gr.trans g) s
 |bad=>exact f
theorem ja.ex{c:Type}{t:c->TS}{a:List Stmt}(h:∀i,ja X a (t i)):ja X a (λD b H=>∃i,t i D b H):=λpins s b H D I ⟨i,q⟩=>h i pins s b H D I q
theorem zp:lN X κ Φ [] aj:=by
 intro a d e g h;refine ja.imp xP ?_;rintro E b H ⟨c,Z,S,f⟩;exact f b H c Z S
theorem v_(k:pj X κ Φ st ca)(l:lN X κ Φ rest cb):lN X κ Φ (st::rest) (ag ca cb):=by
 intro c g h i j;refine ja.imp (uM (k c g h i j) (ja.ex λp:aR×aD=>l c g h p.1 p.2)) ?_
 rintro E s H ⟨m,Z,S,f⟩;refine⟨m,Z,S,?_⟩;simp only[ag]at f;cases q:ca i j with
 |nx b a=>rw[q]at f;exact λn t e o r=>⟨(b,a),e,o,r,f⟩
 |bk b a=>rw[q]at f;exact f
 |ct b a=>rw[q]at f;exact f
 |rt d a=>rw[q]at f;exact f
 |exc x a=>rw[q]at f;exact f
 |bad=>rw[q]at f;exact f.elim
theorem zq(h:bz X κ Φ e m):pj X κ Φ (.Return (some e) pos) (bh m):=by
 intro a i j k l;refine PS.imp (BB (h a i j k l)) ?_;rintro E t H ⟨n,Z,S,f⟩;exact⟨n,Z,S,eA.use S f λd o v p b q _ g c r s=>s v p b q c.gr c.st r⟩
theorem zr{i:Nat}{x:Str}(c:X.N.Nodup)(j:X.N[i]?=some x)(k:Loc X.env.scope x)(l:X.fn x=true\/X.env.scope.names.lookup x=some .local)(n:swapsWith e (some (.Name x pos')) pos.line X.env=pure false)(h:bz X κ Φ e m) :
  pj X κ Φ (.Assign [.Name x pos'] e pos) (av i m):=by
 intro a o p q s;refine PS.imp (BF c j k (h a o p q s) n l) ?_;rintro E B H ⟨t,Z,S,f⟩;exact⟨t,Z,S,eA.use S f λd u v w b y _ g z r A=>A _ w b y (z.set r i)⟩
theorem wa{i:Nat}{x:Str}{k iter p:Expr}{l:List Expr}{scope:Scope}{tn q:List Str}{cap:List Nat}{g:TG}(G:X.N.Nodup)(I:X.N[i]?=some x)(J:X.env.scope.names.lookup x=some .local)
  (s:swapsWith (.ListComp k [⟨p,iter,l,0⟩] scope pos) (some (.Name x pos')) pos'.line X.env=pure true) (K:X.calm=true) (B:jg X scope tn q cap) (L:∀x,foldedSetIterable iter X.env x=pure x)
  (t:∀v c H Q,g v c H Q->g v c H λn M=>Q n M/\n.length=c.length/\∀j,tn.length<=j->n[j]?=c[j]?)
  (h:∀o u w ρ Ω,∃y z A,PI X p iter y/\(∀D C a b fp,PG (blk X scope D C (tn++q) a b fp) p g/\yt (blk X scope D C (tn++q) a b fp) l z/\PE (blk X scope D C (tn++q) a b fp) k A) /\
   ∀c H Q,tO κ Φ o u w m ρ Ω c H Q->lZ y tn.length cap g z A c H Q) {e:Pos} (O:e.line=pos'.line) :
  pj X κ Φ (.Assign [.Name x pos'] (.ListComp k [⟨p,iter,l,0⟩] scope pos) e) (av i m):=by
 intro o u w ρ Ω;obtain⟨y,z,A,P,R,T⟩:=h o u w ρ Ω;refine PS.imp (qy G I J (by rw[O];exact s) K B P L t R) ?_
 rintro E c H ⟨U,Z,S,f⟩;exact T c H _ ⟨U,Z,S,eA.use S f λd V v Y F Z1 _ g S1 r f1=>f1 _ Y F Z1 (S1.set r i)⟩
theorem zt(c:swapsWith e none pos.line X.env=pure false)(h:bz X κ Φ e m):pj X κ Φ (.Expr e pos) (bH m):=by
 intro a i j k l;refine PS.imp (xQ (h a i j k l) c) ?_;rintro E u H ⟨n,Z,S,f⟩;exact⟨n,Z,S,eA.use S f λd o v p b q _ g s r t=>t _ p b q s⟩
theorem Cv(n:gf X κ Φ e m)(o:lN X κ Φ ta ca)(p:lN X κ Φ tb cb):pj X κ Φ (.If e ta tb pos) (cU m ca cb):=by
 intro b h i j q;refine PS.imp (EA (n b h i j q) (ja.ex λa=>o b h i j a) (ja.ex λa=>p b h i j a)) ?_
 rintro E s H ⟨r,Z,S,f⟩;refine⟨r,Z,S,eA.Fv S f λt a u c k _ g l d=>?_⟩
 cases t with
 |true=>rw[if_pos rfl]at d;exact oG ⟨a,c,k,l,d⟩
 |false=>rw[if_neg Bool.false_ne_true]at d;exact oF ⟨a,c,k,l,d⟩
theorem mD:pj X κ Φ st bO:=λa b c d e pins s g H E I ⟨h,Z,S,f⟩=>f.elim
theorem uf(L:PassesOwn (model X.prog X.w) X.A X.env X.xe)(M:gf X κ Φ e m)(N:lN X κ Φ tb cb):pj X κ Φ (.While e tb [] pos) (gM m cb):=by
 intro b o r j k;refine PS.imp (uO L (PT.ex λp:aR×aD=>M b o r p.1 p.2) (ja.ex λp:aR×aD=>N b o r p.1 p.2)) ?_
 rintro E I H ⟨s,Z,S,f⟩;refine⟨λf I H=>∃s Z j k,cY κ b o r s Z k j I H/\eA κ Φ b o r E (ek m cb f j k),⟨fuel,s,Z,j,k,S,f⟩,?_⟩
 rintro f O R ⟨z,P,l,B,J,C⟩;cases f with
 |zero=>exact C.elim
 |succ f=>
  simp only[ek]at C;refine⟨(l,B),z,P,J,eA.Fv J C λt u T D Q _ g K a=>?_⟩
  cases t with
  |false=>
   rw[if_neg Bool.false_ne_true]at a;exact oF (a _ _ _ _ K)
  |true=>
   rw[if_pos rfl]at a;refine oG ⟨λh y=>∃s Z j k,cY κ b o r s Z k j h y/\eA κ Φ b o r E (ek m cb f j k),λh y q=>⟨f,Nat.lt_succ_self f,q⟩,(l,u),D,Q,K,?_⟩
   cases q:cb l u with
   |nx i c=>rw[q]at a;exact λh y n F G=>⟨n,F,i,c,G,a⟩
   |ct i c=>rw[q]at a;exact λh y n F G=>⟨n,F,i,c,G,a⟩
   |bk i c=>rw[q]at a;exact a
   |rt d c=>rw[q]at a;exact a
   |exc x c=>rw[q]at a;exact a
   |bad=>rw[q]at a;exact a.elim
def wb(κ:Str->Addr->Prop)(e:D->aR->Option aR)(g:TG):Prop:=
 ∀(d:D) (x:V) a h i f Z j l b m H (k:L2.St->Hp->Prop),cY κ a h i f Z j l m H->au f Z H d x->e d l=some b->(∀c,cY κ a h i f Z j b c H->k c H)->g x m H k
theorem sm{p:D->aR->Option aR}{g:TG}(hp:PassesOwn (model X.prog X.w) X.A X.env X.xe)(hc:X.calm=true)(hi:uF X κ Φ tg e mi)(hg:PG X tg g)(a0:wb κ p g)(hb:lN X κ Φ tb cb)(hs:∀x,foldedSetIterable e X.env x=pure x):pj X κ Φ (.For tg e tb [] pos) (cj p mi cb):=by
 intro j C F B M;have b0:ja X tb (λD Q H=>∃a n t c h,Fu κ Φ a n t cb c h D Q H):=λpins s Q H D I ⟨a,n,t,c,h,q⟩=>hb a n t c h pins s Q H D I q
 refine PS.imp (BH hp hc (hi j C F B M) hg b0 hs) ?_;rintro E Q H ⟨α,Z,S,f⟩;refine⟨α,Z,S,?_⟩;simp only[cj]at f;cases qi:mi B M with
 |exc x N=>rw[qi]at f;exact λt a n g s=>f t a n (S.gr.trans g) s
 |bad=>rw[qi]at f;exact f.elim
 |ok G N=>
  rw[qi]at f;have f:eA κ Φ j C F E (eX p G cb fuel 0 B N):=f;intro J t a n g1 s1 w1;have S1:=S.grow g1 s1;refine⟨λi f Q H=>∃k R B M,cY κ j C F k R M B Q H/\cO a n t k R H/\eA κ Φ j C F E (eX p G cb f i B M),⟨fuel,a,n,B,N,S1,cO.refl s1.has,f⟩,?_⟩
  rintro i f T H2 ⟨k,R,U,u,S2,g2,b⟩;cases f with
  |zero=>exact b.elim
  |succ f=>
   simp only[eX]at b;cases qs:er G u with
   |none=>rw[qs]at b;exact b.elim
   |some ds=>
    rw[qs]at b;dsimp only at b;obtain⟨c0,e0⟩:=w1 k R u H2 ds g2 S2.st qs;cases Y:ds[i]? with
    |none=>
     rw[Y]at b;exact .inl ⟨e0 i (List.getElem?_eq_none_iff.mp Y),b T H2 k R S2⟩
    |some d=>
     rw[Y]at b;dsimp only at b;obtain⟨f0,g0⟩:=c0 i d Y;cases qp:p d U with
     |none=>rw[qp]at b;exact b.elim
     |some K=>
      rw[qp]at b;dsimp only at b;refine .inr ⟨f0,λl o=>∃z O B M,cY κ j C F z O M B l o/\cO a n t z O o/\eA κ Φ j C F E (eX p G cb f (i+1) B M),λl o q=>⟨f,Nat.lt_succ_self f,q⟩,λx H3 yl=>?_⟩
      obtain⟨O,g3,s3,rx⟩:=g0 x H3 yl;have S3:=S2.grow g3 s3;refine a0 d x j C F k O u U K T H3 _ S3 rx qp λh0 S4=>?_
      have base:cO j C F a n t:=S1.gr;have gL:cO a n t k O H3:=g2.trans g3;have S5:cY κ a n t k O u K h0 H3:=⟨S4.st,gL,S4.len,S4.val⟩;have P:∀{z Z4 V c l o},cY κ a n t z Z4 V c l o->cY κ j C F z Z4 V c l o:=λy=>⟨y.st,base.trans y.gr,y.len,y.val⟩
      refine⟨a,n,t,K,u,k,O,S5,?_⟩;cases q:cb K u with
      |nx c h=>rw[q]at b;exact λl o m L y=>⟨m,L,c,h,P y,y.gr,b⟩
      |ct c h=>rw[q]at b;exact λl o m L y=>⟨m,L,c,h,P y,y.gr,b⟩
      |bk c h=>rw[q]at b;exact λl o m L y=>b l o m L (P y)
      |rt d h=>rw[q]at b;exact λv o m L g s r=>b v o m L (base.trans g) s r
      |exc x h=>rw[q]at b;exact λo m L g s=>b o m L (base.trans g) s
      |bad=>rw[q]at b;exact b.elim
theorem Cw(i:Nat):wb κ (bX i) (gN i):=λd x a c f g Z j l b m H k S r e h=>by
 cases e;exact h _ (S.set r i)
theorem kN:∀(a:List Nat) (ds:List D) (vs:List V) {ρ:aR}{b:L2.St},aI (au α Z H) ds vs->ds.length=a.length->cY κ gW Z0 H0 α Z Ω ρ b H->∀(k:L2.St->Hp->Prop),(∀c,cY κ gW Z0 H0 α Z Ω (fJ a ds ρ) c H->k c H)->iP a vs b H k
 |[],[],vs,ρ,b,r,_,S,k,h=>by rw[r.nil_inv];exact⟨rfl,h b S⟩
 |i::a,d::ds,vs,ρ,b,r,e,S,k,h=>by
  obtain⟨v,ws,rfl,f,g⟩:=r.cons_inv;exact⟨v,ws,rfl,kN a ds ws g (by simpa using e) (S.set f i) k h⟩
 |[],_::_,_,_,_,_,e,_,_,_=>by simp at e
 |_::_,[],_,_,_,_,e,_,_,_=>by simp at e
theorem wc{K:PySem.W.Frag}(b:List Nat):wb κ (dm b) (xS K b.length (iP b)):=λd x i n o p Z q s j t H k S r e h=>by
 cases d with
 |tup l=>
  simp only[dm]at e;split at e
  .rename_i c
   cases e;obtain⟨a,f,rfl,_,m,g⟩:=eU r;exact⟨a,f,rfl,tP (.inl m),by rw[g.length];exact c,kN b l f g c S k h⟩
  .cases e
 |_=>cases e
theorem zu{es:List Expr}{j:Nat}{p pos:Pos}{c:List Nat}(x:PG X (.Tuple es j p) (xS X.K c.length (iP c)))(o:vJ e=true)(h:bz X κ Φ e m):pj X κ Φ (.Assign [.Tuple es j p] e pos) (qQ c m):=by
 intro a q s t y;refine PS.imp (BE (h a q s t y) x (by cases e<;>first|rfl | (cases o)) (by cases e<;>first|rfl | (cases o))) ?_
 rintro E z H ⟨A,Z,S,f⟩;refine⟨A,Z,S,eA.use S f λd i v u b w _ g B r k=>?_⟩
 split at k
 .rename_i l C
  exact wc (K:=X.K) c d v a q s b w i t l z u _ B r C λn D=>k n u b w D
 .exact k.elim
end
abbrev aV:=List D->aD->ay D
def dX(κ:Str->Addr->Prop)(F:aV):Sp:=λd H Q _=>∃a Z b c,bR κ a Z b H/\aI (au a Z H) c d/\cv κ pf a Z H (F c b) Q
noncomputable def jJ{a:Type}(r:ay a):ay a:=match r with
 |.ok d b=>.ok d b
 |_=>.bad
def aS(F:aV):aV:=λa b=>jJ (F a b)
structure wd(X:Cx)(κ:Str->Addr->Prop)(k:Nat)(x:Str)(F:aV):Prop where
 ex:∃(f:Addr) (fd:FuncData) (ps:List Str),X.mg x=some (.ref f)/\PySem.W.keepIn X.K (.ref f)=true/\Binds X.K fd ps []/\dc X.prog X.w X.K X.mg X.base jE k f fd ps (dX κ F)
noncomputable def pk(Ω:aD):D->Option (Nat×Str×List (Str×D))
 |.ref k=>match Ω[k]? with
  |some (.ins C fs)=>some (k,C,fs)
  |_=>none
 |_=>none
def dn(Cs:List Str)(f:Str)(x:D)(Ω:aD):ay D:=match pk Ω x with
 |some (_,C,a)=>if Cs.contains C then (match a.lookup f with
  |some d=>.ok d Ω
  |none=>.bad)else .bad
 |none=>.bad
noncomputable def mE(f:Str)(v:D):List (Str×D)->List (Str×D)
 |[]=>[(f,v)]
 | (g,x)::r=>if g=f then (g,v)::r else (g,x)::mE f v r
def aN(C m:Str)(F:aV)(mo:EM)(d:AM):EM:=λc e=>(mo c e).bind λx a=>match pk a x with
 |some (_,f,g)=>if f=C/\g.lookup m=none then (d c a).bind λh b=>aS F (x::h) b else .bad
 |none=>.bad
noncomputable def lO(C:Str)(F:aV)(xs:List D)(Ω:aD):ay D:=match F (.ref Ω.length::xs) (Ω++[.ins C []])with
 |.ok .non a=>.ok (.ref Ω.length) a
 |_=>.bad
def en(Cs:List Str)(f:Str)(mo mv:EM):SM:=λb e=>bK (mv b e) λy c=>bK (mo b c) λx a=>match pk a x with
 |some (k,C,d)=>if Cs.contains C&&decide (d.length<1000)then .nx b (a.set k (.ins C (mE f y d)))else .bad
 |none=>.bad
def jm(x y v:D)(Ω:aD):Option aD:=match x with
 |.ref k=>match Ω[k]? with
  |some (.dK a)=>match qD y with
   |some b=>if small (a.length+1)then some (Ω.set k (.dK (cZ a b v)))else none
   |none=>none
  |_=>none
 |_=>none
def cz(md mk mv:EM):SM:=λa f=>bK (mv a f) λv b=>bK (md a b) λx c=>bK (mk a c) λy d=>match jm x y v d with
 |some e=>.nx a e
 |none=>.bad
section
variable{X:Cx}{κ:Str->Addr->Prop}{Φ:gb}{α α' gW α1:List Addr}{Z Z' Z0 Z1:Addr->Prop}{Ω ao:aD}{H H' H0 H1:Hp}{ρ:aR}{σ:L2.St}{Q:VK}{E:Ends}{a b e ce o tg:Expr}{es:List Expr}{st:Stmt}{rest ta tb:List Stmt}{m mo mv ma md mk:EM}{as:AM}{ca cb:SM}{pos pos' p apos:Pos}{F:aV}{C:Str}
theorem cv.ok0{r:ay D}(h:cv κ Φ α Z H (jJ r) Q):cv κ pf α Z H r Q:=by
 cases r with
 |ok d a=>exact h
 |exc x a=>exact h.elim
 |bad=>exact h
theorem we{k:Nat}{x:Str}(F0:wd X κ k x F)(i:cP k X.A)(j:Gl X x)(a:(x==("__debug__":Str))=false)
  (l:starEach (e::es) X.env=(false,eval e X.env)::starEach es X.env) (b:(backTo pos (starEach es X.env)).any (·.1)=false) (m:oV X κ Φ (e::es) as) :
  bz X κ Φ (.Call (.Name x p) (e::es) [] pos) (mN (aS F) as):=by
 obtain⟨f,I,J,n,o,q,F1⟩:=F0.ex;intro c r s t u;refine PE.imp (rq F1 i j n o q .nil kd (m c r s t u) a l b) ?_;rintro K H Q ⟨w,Z,S,g⟩;refine⟨w,Z,S,oU.use g λy d _ z B h C L D E G=>?_⟩
 show dX κ F (z++[]) B Q E0
 rw[List.append_nil];exact⟨h,C,d,y,D,E,cv.ok0 G⟩
theorem ug{k:Nat}{x:Str}(F0:wd X κ k x F)(b:cP k X.A)(c:Gl X x)(a:(x==("__debug__":Str))=false):bz X κ Φ (.Call (.Name x p) [] [] pos) (mN (aS F) af):=by
 obtain⟨f,m,n,d,e,h,F1⟩:=F0.ex;intro i o q r j;refine PE.imp (uX F1 b c d e h .nil kd a) ?_;rintro s H Q ⟨l,Z,S,g⟩;exact⟨l,Z,j,[],S.st,.nil,cv.ok0 g⟩
theorem gZ{R:D->V->Prop}{f:Str}:∀{b:List (Str×D)}{a:List (Str×V)},fU R b a->(∀d,b.lookup f=some d->∃v,a.lookup f=some v/\R d v)/\(b.lookup f=none->a.lookup f=none):=by
 intro b a h;unfold fU at h
 induction h with
 |nil=>exact⟨λd e=>(by cases e),λ_=>rfl⟩
 |@cons p q j l r t c=>
  obtain⟨g,i⟩:=r;obtain⟨k,d⟩:=p;obtain⟨m,v⟩:=q;cases g;rw[List.lookup_cons,List.lookup_cons];cases f==k with
  |true=>exact⟨λn e=>by cases e;exact⟨v,rfl,i⟩,λe=>by cases e⟩
  |false=>exact c
theorem wg{R:D->V->Prop}{f:Str}{d:D}{v:V}(r:R d v){c:List (Str×D)}{a:List (Str×V)}(h:fU R c a):fU R (mE f d c) (fA f v a):=by
 unfold fU at h
 induction h with
 |nil=>exact .cons ⟨rfl,r⟩ .nil
 |@cons p q j l b t g=>
  obtain⟨b,i⟩:=b;obtain⟨k,d⟩:=p;obtain⟨m,n⟩:=q;cases b;simp only[mE,fA]
  by_cases e:k=f
  .rw[if_pos e,if_pos e];exact .cons ⟨rfl,r⟩ t
  .rw[if_neg e,if_neg e];exact .cons ⟨rfl,i⟩ g
theorem iy{x:D}{v:V}{k:Nat}{C:Str}{f:List (Str×D)}(S:bR κ α Z Ω H)(r:au α Z H x v)(h:pk Ω x=some (k,C,f)):∃a d e b,v=.ref a/\x=.ref k/\α[k]?=some a/\κ C d/\H a=some (.ins d e b)/\fU (au α Z H) f b:=by
 cases x with
 |ref n=>
  simp only[pk]at h;split at h
  .rename_i o b i
   cases h;simp only[au]at r;obtain⟨a,g,rfl⟩:=r;obtain⟨p,c,d,e,b,j,l,m⟩:=S.cell i;rw[g]at c;cases c;exact⟨a,d,e,b,rfl,rfl,g,j,l,m⟩
  .cases h
 |_=>cases h
def iT(K:PySem.W.Frag)(κ:Str->Addr->Prop)(Cs:List Str)(f:Str):Prop:=∀C a,Cs.contains C=true->κ C a->ot K a/\fY K a f
theorem zv{f:Str}{Cs:List Str}(i:iT X.K κ Cs f)(j:attributeBase o f X.env (eval o X.env)=eval o X.env)(l:bz X κ Φ o mo):bz X κ Φ (.Attribute o f pos) (m1 (dn Cs f) mo):=
 jI (r:=λx H Q=>∃a C b c v,x=.ref a/\H a=some (.ins C b c)/\ot X.K C/\fY X.K C f/\c.lookup f=some v/\Q v H) (λD m=>BQ m j) l λb x E Z F H Q S n g=>by
  unfold dn at g;split at g
  .rename_i k C c p
   obtain⟨a,h,b,e,rfl,_,_,q,s,t⟩:=iy S n p;split at g
   .rename_i u
    obtain⟨w,y⟩:=i C h u q;split at g
    .rename_i d z
     obtain⟨v,A,B⟩:=(gZ t).1 d z;exact⟨a,h,b,e,v,rfl,s,w,y,A,cv.ret S B g⟩
    .exact g.elim
   .exact g.elim
  .exact g.elim
def Bb(P:Program)(w:World)(K:PySem.W.Frag)(mg:Str->Option Value)(base:Heap)(κ:Str->Addr->Prop)(k:Nat)(C m:Str)(F:aV)(c f:Addr)(d:FuncData)(ps:List Str):Prop:=
 (∀a,κ C a->a=c)/\ot K c/\Meth K c m f/\∃(e:List Value) (b:List V) (g:List D) (F1:aV),Binds K d ps e/\Vals b e/\(∀h Z H,aI (au h Z H) g b)/\dc P w K mg base jE k f d ps (dX κ F1)/\F=λi=>F1 (i++g)
structure sr(X:Cx)(κ:Str->Addr->Prop)(k:Nat)(C m:Str)(F:aV):Prop where
 ex:∃(Ca f:Addr) (fd:FuncData) (ps:List Str),Bb X.prog X.w X.K X.mg X.base κ k C m F Ca f fd ps
theorem wh{k:Nat}{m:Str}(M:sr X κ k C m F)(E:cP k X.A)(G:bz X κ Φ o mo)(I:oV X κ Φ (e::es) as){pl:Sem Bool}
  (h:starEach (e::es) X.env=(false,eval e X.env)::starEach es X.env) (i:(backTo pos (starEach es X.env)).any (·.1)=false)
  (J:eval (.Call (.Attribute o m apos) (e::es) [] pos) X.env=(do
   let w ←eval o X.env
   standAt apos.atName
   let (f,first) ←holding [w] (getMethod w m pl)
   callWith pos f first (backTo pos (starEach (e::es) X.env)) (backToKw pos (keywordEach [] X.env)))) :
  bz X κ Φ (.Call (.Attribute o m apos) (e::es) [] pos) (aN C m F mo as):=by
 obtain⟨Ca,f,fd,ps,K,j,L,N,O,Dd,F0,P,l,R,F1,rfl⟩:=M.ex;intro c y z B T;refine PE.imp (x8 (G c y z B T) j L F1 E P l kd (PA.ex λb=>I c y z B b) h i J) ?_
 rintro σ H Q ⟨U,Z,S,g⟩;refine⟨U,Z,S,cv.use g λx b _ v H1 p V Y q D d=>?_⟩
 split at d
 .rename_i n C' fs hk
  split at d
  .rename_i hc
   obtain⟨rfl,hl⟩:=hc;obtain⟨a,r,dx,s,rfl,rfl,_,q1,q2,q3⟩:=iy q D hk;obtain rfl:=K r q1;refine⟨a,dx,s,rfl,q2,(gZ q3).2 hl,b,p,V,S.grow Y q,oU.use d λxs t _ vs H2 u Z2 g2 s2 r2 k2=>?_⟩
   exact⟨u,Z2,t,_,s2,.cons (q.dA g2 D) (r2.append (R _ _ _)),cv.ok0 k2⟩
  .exact d.elim
 .exact d.elim
theorem uh{k:Nat}{m:Str}(M:sr X κ k C m F)(s:cP k X.A)(t:bz X κ Φ o mo){pl:Sem Bool}
  (u:eval (.Call (.Attribute o m apos) [] [] pos) X.env=(do
   let p ←eval o X.env
   standAt apos.atName
   let (f,first) ←holding [p] (getMethod p m pl)
   callWith pos f first (backTo pos (starEach [] X.env)) (backToKw pos (keywordEach [] X.env)))) :
  bz X κ Φ (.Call (.Attribute o m apos) [] [] pos) (aN C m F mo af):=by
 obtain⟨Ca,f,fd,ps,w,c,y,z,B,Dd,F0,D,d,E,F1,rfl⟩:=M.ex;intro e G I J K;refine PE.imp (uY (t e G I J K) c y F1 s D d kd u) ?_;rintro σ H Q ⟨L,Z,S,g⟩;refine⟨L,Z,S,cv.use g λx h _ v H1 i N g1 q r b=>?_⟩
 split at b
 .rename_i n C' fs O
  split at b
  .rename_i P
   obtain⟨rfl,R⟩:=P;obtain⟨a,j,T,l,rfl,rfl,_,U,V,Y⟩:=iy q r O;obtain rfl:=w j U;exact⟨a,T,l,rfl,V,(gZ Y).2 R,i,N,h,_,q,.cons r (E _ _ _),cv.ok0 b⟩
  .exact b.elim
 .exact b.elim
structure wj(X:Cx)(κ:Str->Addr->Prop)(k:Nat)(C:Str)(F:aV):Prop where
 ex:∃(Ca f:Addr) (fd:FuncData) (ps:List Str),κ C Ca/\Mk X.K Ca f/\X.mg C=some (.ref Ca)/\Binds X.K fd ps []/\dc X.prog X.w X.K X.mg X.base jE k f fd ps (dX κ F)
theorem pq{xs:List D}{vs:List V}{b x a:Addr}(S:bR κ α Z Ω H)(r:aI (au α Z H) xs vs)(e:κ C b)(g:cv κ Φ α Z H (lO C F xs Ω) Q)(y:H x=none)(f:H a=none)(h:a≠x) :
  dX κ F (.ref x::(vs++[])) (upd (upd H a (.own x)) x (.ins b a [])) (λv z=>v=.non/\Q (.ref x) z) E0:=by
 rw[List.append_nil];obtain⟨i,m⟩:=S.rW (p:=a) (o:=.own x) f False;simp only[if_false]at i m;have j:upd H a (.own x) x=none:=by rw[aJ (Ne.symm h)];exact y
 obtain⟨n,A⟩:=i.laid (p:=x) (o:=.ins b a []) (c:=.ins C []) j λR I=>⟨b,a,[],e,ba,.nil⟩
 have s:=m.trans A;have t:au (α++[x]) Z (upd (upd H a (.own x)) x (.ins b a [])) (.ref Ω.length) (.ref x):=fq i x;refine⟨α++[x],Z,Ω++[.ins C []],.ref Ω.length::xs,n,.cons t (S.jk s r),?_⟩;unfold lO at g;cases q:F (.ref Ω.length::xs) (Ω++[.ins C []])with
 |ok d k=>
  rw[q]at g;cases d with
  |non=>
   intro v B l E u G w;simp only[au]at w;exact⟨w,g _ B l E (s.trans u) G (n.dA u t)⟩
  |_=>exact g.elim
 |exc x k=>rw[q]at g;exact g.elim
 |bad=>rw[q]at g;exact g.elim
theorem zw{k:Nat}(M:wj X κ k C F)(j:cP (k+1) X.A)(l:Gl X C)(a:(C==("__debug__":Str))=false)
  (m:starEach (e::es) X.env=(false,eval e X.env)::starEach es X.env) (b:(backTo pos (starEach es X.env)).any (·.1)=false) (n:oV X κ Φ (e::es) as):bz X κ Φ (.Call (.Name C p) (e::es) [] pos) (mN (lO C F) as):=by
 obtain⟨J,f,K,L,c,o,q,r,F1⟩:=M.ex;intro d s t u w;refine PE.imp (x9 o F1 j l q r .nil kd (n d s t u w) a m b) ?_;rintro N H Q ⟨y,Z,S,g⟩;exact⟨y,Z,S,oU.use g λO z _ P R B T U D E G x V I h i=>pq D E c G I h i⟩
theorem wk{k:Nat}(M:wj X κ k C F)(e:cP (k+1) X.A)(h:Gl X C)(a:(C==("__debug__":Str))=false):bz X κ Φ (.Call (.Name C p) [] [] pos) (mN (lO C F) af):=by
 obtain⟨o,f,q,r,b,i,j,l,F1⟩:=M.ex;intro m s t u w;refine PE.imp (uZ i F1 e h j l .nil kd a) ?_;rintro y H Q ⟨z,Z,S,g⟩;exact λx B n c d=>pq S.st .nil b g n c d
theorem zx{f:Str}{Cs:List Str}(F:iT X.K κ Cs f)(G:swapsWith e (some (.Attribute o f pos')) pos.line X.env=pure false)(I:bz X κ Φ o mo)(J:bz X κ Φ e mv):pj X κ Φ (.Assign [.Attribute o f pos'] e pos) (en Cs f mo mv):=by
 intro d r s t L;refine PS.imp (BR (PE.ex λb=>I d r s t b) (J d r s t L) G) ?_
 rintro E M H ⟨N,Z,S,f⟩;refine⟨N,Z,S,eA.use S f λy b v H1 j O _ g1 l P Q=>⟨b,j,O,l,eA.use l Q λx T w H2 m U _ V n Y g=>?_⟩⟩
 split at g
 .rename_i k C fs hk
  obtain⟨a,i,p,h,rfl,rfl,h0,A,B,D⟩:=iy n.st Y hk;split at g
  .rename_i q
   simp only[Bool.and_eq_true,decide_eq_true_eq]at q;obtain⟨c1,c2⟩:=F C i q.1 A;have ry:=l.st.dA V P;obtain⟨s3,g3⟩:=n.st.put (o:=.ins i p (fA _ v h)) (c:=.ins C (mE _ y fs)) h0 (λo u z=>by rw[B]at z;cases z) λR hR=>⟨i,p,_,A,ba,(wg ry D).imp hR⟩
   exact⟨a,i,p,h,rfl,B,c1,c2,by rw[fU.length D];exact q.2,g M _ m U (n.grow g3 s3)⟩
  .exact g.elim
 .exact g.elim
theorem wm{x y d:D}{v w u:V}(S:bR κ α Z Ω H)(l:au α Z H x v)(q:au α Z H y w)(r:au α Z H d u)(h:jm x y d Ω=some ao):∃a f,v=.ref a/\tH H a w u f/\bR κ α Z ao f/\cO α Z H α Z f:=by
 cases x with
 |ref k=>
  simp only[jm]at h;simp only[au]at l;obtain⟨a,m,rfl⟩:=l;split at h
  .rename_i g s
   obtain⟨E,b,e,n,p⟩:=S.cell s;rw[m]at b;cases b
   split at h
   .rename_i i j
    obtain rfl:=iu j q;split at h
    .rename_i t
     cases h;have:=bL t;obtain⟨A,B⟩:=S.put (o:=.dK (putK e i u)) (c:=.dK (cZ g i d)) m (λo u z=>by rw[n]at z;cases z) λR C=>⟨_,ba,(p.put i r).imp C⟩
     exact⟨a,_,rfl,tH.k n (by rw[p.length];omega),A,B⟩
    .cases h
   .cases h
  .cases h
 |_=>cases h
theorem wo{i:Expr}(B:X.A.units+1<cLine)(C:bz X κ Φ o md)(D:bz X κ Φ i mk)(F:bz X κ Φ e mv)(G:swapsWith e (some (.Subscript o i pos')) pos.line X.env=pure false):pj X κ Φ (.Assign [.Subscript o i pos'] e pos) (cz md mk mv):=by
 intro c h j k I;refine PS.imp (yi B (PE.ex λb=>C c h j k b) (PE.ex λb=>D c h j k b) (F c h j k I) G) ?_
 rintro E J H ⟨K,Z,S,f⟩;refine⟨K,Z,S,eA.use S f λd b v H1 l L _ g1 m M N=>⟨b,l,L,m,eA.use m N λx n w H2 p O _ P g Q R=>⟨n,p,O,g,eA.use g R λy T u H3 q U _ s t V r=>?_⟩⟩⟩
 split at r
 .rename_i Y hq
  obtain⟨a,z,rfl,h1,s4,g4⟩:=wm t.st (g.st.dA s Q) V (g.st.dA s (m.st.dA P M)) hq;exact⟨a,z,rfl,h1,r J z q U (t.grow g4 s4)⟩
 .exact r.elim
theorem ui:bz X κ Φ (.Dict [] [] pos) (λ_ Ω=>gX Ω (.dK [])):=by
 intro a f h i Ω;refine PE.imp vd ?_;rintro j H Q ⟨k,Z,S,g⟩ p b;obtain⟨d,e⟩:=S.st.laid (p:=p) (o:=.dK []) (c:=.dK []) b λR l=>⟨[],ba,.nil⟩
 exact g _ _ _ Z e d (fq S.st p)
noncomputable def aZ(n:Nat)(ds:List D):aR:=ds.map some++List.replicate (n - ds.length) none
noncomputable def gp:fu->ay D
 |.rt d Ω=>.ok d Ω
 |.nx _ Ω=>.ok .non Ω
 |.exc x Ω=>.exc x Ω
 |_=>.bad
def bS(n k:Nat)(c:SM):aV:=λa b=>if a.length=k then gp (c (aZ n a) b)else .bad
theorem kO{ds:List D}{vs:List V}{N:List Str}(S:bR κ α Z Ω H)(r:aI (au α Z H) ds vs):cY κ α Z H α Z Ω (aZ N.length ds) (L2.start N vs) H where
 st:=S
 gr:=cO.refl S.has
 len:=by simp[aZ,L2.start,r.length]
 val:=λi d a=>by
  unfold aZ at a
  by_cases h:i<ds.length
  .rw[List.getElem?_append_left (by simpa using h),List.getElem?_map]at a
   obtain⟨g,b,c⟩:=Option.map_eq_some_iff.mp a;cases c;obtain⟨v,e,f⟩:=r.get b;refine⟨v,?_,f⟩;unfold L2.start;rw[List.getElem?_append_left (by simpa[r.length]using h),List.getElem?_map,e]
   rfl
  .rw[List.getElem?_append_right (by simpa using h),List.getElem?_replicate]at a
   split at a<;>cases a
end
structure pv(P:Program)(w:World)(K:PySem.W.Frag)(mg:Str->Option Value)(base:Heap)(κ:Str->Addr->Prop)(k:Nat)(j:Nat)(F:List D->aV):Prop where
 run:∀(X:Cx) (f:Addr) (vs:List V) (σ:L2.St) (H:Hp) (Q:VK) (α:List Addr) (Z:Addr->Prop) (Ω:aD) (qB ds:List D) (n:Nat),X.prog=P->X.w=w->X.K=K->X.mg=mg->X.base=base->cP k X.A ->
  bR κ α Z Ω H->α[n]?=some f->Ω[n]?=some (.fn j qB)->aI (au α Z H) ds vs->cv κ pf α Z H (F qB ds Ω) Q->Fj X f vs σ H Q
theorem pv.mono{P:Program}{w:World}{K:PySem.W.Frag}{mg:Str->Option Value}{base:Heap}{κ:Str->Addr->Prop}{k a j:Nat}{F:List D->aV}(h:pv P w K mg base κ k j F)(b:k<=a):pv P w K mg base κ a j F:=
 ⟨λX f c d H Q e Z g qB i n l m o p q r=>h.run X f c d H Q e Z g qB i n l m o p q (r.mono b)⟩
noncomputable def isFn(Ω:aD)(n:Nat):Bool:=match Ω[n]? with
 |some (.fn _ _)=>true
 |_=>false
section
variable{X:Cx}{κ:Str->Addr->Prop}{Φ:gb}{α α' gW:List Addr}{Z Z' Z0:Addr->Prop}{Ω ao:aD}{H H' H0:Hp}{ρ:aR}{σ:L2.St}
end
end Mir
namespace Mir
open PySem PySem.Spec PyProof.Rows L2
theorem su:typeLookup (.type "dict_values") "__contains__"=pure none:=by rw[typeLookup_type,builtinLookup_eq_fast];kernel_rfl
theorem sv:entryFor table "proto.contains_iter"=some Builtin.«proto.contains_iter» := entryFor_of_fast (by kernel_rfl)
theorem iU:plainId "proto.contains_iter"=true:=by decide +kernel
def Cy(h:Heap)(v:Value):Prop:=v=.none\/∃l items,v=.ref l/\h.IsList l items
section
variable{prog:Program}{w:World}{K:Type}[DecidableEq K]{knd:KeyKind prog w K}{A:Around}{E:Value->Shared->Prop}
theorem Cz{s:Shared}{v:Value}(h:Cy s.heap v)(a:A.units<cLine):SeqAt.EqAt A s v .none (v==.none):=by
 rcases h with rfl|⟨l,items,rfl,b⟩
 .exact SeqAt.EqAt.same _
 .exact SeqAt.EqAt.list_none b a
theorem uj{R:Result->Shared->Prop}{it d:Addr}{kvs:List (K×Value)}{ep:Nat}{h₀:Heap}(F:A.handled=none)(I:A.in1.units<cLine)(n:d≠it)(G:h₀.DictAt knd d kvs ep)(J:∀p∈kvs,Cy h₀ p.2)(B:∀l items,h₀.IsList l items->l≠it) :
  ∀(m i:Nat) (s:Shared),kvs.length - i<=m->(∀b o,b≠it->h₀.get? b=some o->s.heap.get? b=some o)->s.heap.IsValIter it d i kvs.length ep ->
   (∀h',(∀b o,b≠it->s.heap.get? b=some o->h'.get? b=some o)->R (.ok (.ret (.bool ((kvs.drop i).any λp=>p.2==.none)))) {s with heap:=h' }) ->
   codeAny (model prog w) A (.builtin "proto.contains_iter" ⟨[.ref it,.none],[]⟩) R s:=by
 intro m
 induction m with
 |zero=>
  intro i s L z f j;have c:kvs[i]?=none:=List.getElem?_eq_none (by omega)
  have g:s.heap.DictAt knd d kvs ep:=G.at' λo e=>z d o n e
  refine codeAny_builtin sv ?_;rw[Around.under_plainId iU _]
  show wpAny _ A.in1 (pyNext (.ref it) >>= _) _ _ s
  refine wpAny_bind (wpAny_pyNext_values_end F f g c λh' C=>?_)
  refine wpAny_bind (wpAny_rule (wpAny_pure ?_));have:=j h' λb o a e=>C b o a e
  rw[List.drop_eq_nil_of_le (by omega)]at this
  exact this
 |succ m M=>
  intro i s L z f j;have g:s.heap.DictAt knd d kvs ep:=G.at' λo e=>z d o n e
  refine codeAny_builtin sv ?_;rw[Around.under_plainId iU _]
  show wpAny _ A.in1 (pyNext (.ref it) >>= _) _ _ s
  cases c:kvs[i]? with
  |none=>
   refine wpAny_bind (wpAny_pyNext_values_end F f g c λh' C=>?_)
   refine wpAny_bind (wpAny_rule (wpAny_pure ?_));have:=j h' λb o a e=>C b o a e
   rw[List.drop_eq_nil_of_le (by simpa using c)]at this
   exact this
  |some p=>
   obtain⟨k,v⟩:=p;have t:=(List.getElem?_eq_some_iff.mp c).1
   have D:kvs.drop i=(k,v)::kvs.drop (i+1):=by
    rw[List.drop_eq_getElem_cons t];rw[List.getElem?_eq_getElem t]at c;injection c with c;rw[c]
   refine wpAny_bind (wpAny_pyNext_values_item f g c λu x h=>?_)
   have y:∀b o,b≠it->h₀.get? b=some o->u.get? b=some o:=λb o a e=>(h.2 b a).trans (z b o a e)
   have N:Cy u v:=by
    rcases J _ (List.mem_of_getElem? c)with q|⟨l,items,q,H⟩
    .exact .inl q
    .refine .inr ⟨l,items,q,?_⟩
     obtain⟨o,O,r⟩:=id H;exact⟨o,y l o (B l items H) O,r⟩
   refine wpAny_bind (Cz (s:={s with heap:=u}) N I _ _ _ _ ?_);rw[D]at j;cases a:(v==Value.none)with
   |true=>
    show wpAny _ _ (rule _ >>= _) _ _ _
    refine wpAny_bind (wpAny_rule (wpAny_pure ?_));have:=j u λb o a e=>(h.2 b a).trans e
    simp only[List.any_cons,a,Bool.true_or]at this;exact this
   |false=>
    refine wpAny_pure ⟨plainId_quiet iU _,?_⟩;refine M (i+1) {s with heap:=u} (by omega) y x λh' E=>?_
    have:=j h' λb o a e=>E b o a ((h.2 b a).trans e)
    simp only[List.any_cons,a,Bool.false_or]at this;exact this
theorem lP{s:Shared}{v d:Addr}{kvs:List (K×Value)}{ep:Nat}{Q:Bool->Shared->Prop}(i:A.handled=none)(j:A.in1.units<cLine)(c:s.heap.IsValuesView v d)(f:s.heap.DictAt knd d kvs ep)(k:∀g∈kvs,Cy s.heap g.2)
  (m:∀h',(∀b o,s.heap.get? b=some o->h'.get? b=some o)->Q (kvs.any λg=>g.2==.none) {s with heap:=h' }):wpAny (model prog w) A (contains (.ref v) .none) Q E s:=by
 unfold contains
 try with_reducible refine wpAny_holding ?_
 refine wpAny_bind (wpAny_specialOf c.typeIs su ?_)
 show wpAny _ _ (if ((none:Option Value)==some Value.none)=true then _ else _) _ E s
 rw[if_neg (by decide)]
 refine wpAny_bind (wpAny_callSpecialUnlessNone?_none (name:=Str.ofString "__contains__") c.typeIs su ?_);refine wpAny_bind (wpAny_rule ?_);refine wpAny_bind (wpAny_tryCatch (wpAny_pyIter_values c f ?_));have a:∀b o,s.heap.get? b=some o->b≠s.heap.objs.size:=λb o e=>Nat.ne_of_lt (Heap.lt_size e)
 refine wpAny_bind (wpAny_runValue (uj (h₀:=s.heap) (R:=λr q=>match r with|.ok (.ret v)=>_|.ok _=>False|.error e=>_) i j ?_ f k ?_ kvs.length 0 _ (by omega) (λb o _ e=>Heap.get?_push_of_some _ e) ⟨_,Heap.get?_push_size _ rfl,rfl,rfl⟩ λh' n=>?_))
 .obtain⟨o,t,h,_⟩:=id f
  exact a d o h
 .intro l items p
  obtain⟨o,h,_⟩:=p;exact a l o h
 .rw[List.drop_zero]
  exact wpAny_pure (m h' λb o e=>n b o (a b o e) (Heap.get?_push_of_some _ e))
end
noncomputable def uk:V->Bool
 |.non=>true
 |_=>false
def Iv:R2:=λx y H Q=>x=.non/\∃a c,y=.ref a/\Rd H a (.dK c)/\(∀d∈c,d.2=.non\/∃b e,d.2=.ref b/\Rd H b (.lst e))/\Q (.bl (!(c.any λd=>uk d.2))) H
theorem CA{P:Program}{w:World}{H:Hp}{h:Heap}(ok:hZ P w H h){kvs:List (Key×V)}{vs:List (Key×Value)}(r:KV kvs vs)(i:∀a∈kvs,a.2=.non\/∃b xs,a.2=.ref b/\Rd H b (.lst xs)) :
  (vs.any λa=>a.2==.none)=(kvs.any λa=>uk a.2)/\∀a∈vs,Cy h a.2:=by
 induction r with
 |nil=>exact⟨rfl,λa h=>by simp at h⟩
 |@cons p q kvs vs j _ k=>
  obtain⟨l,m⟩:=k λa c=>i a (by simp[c])
  have o:=i p (by simp)
  have one:(q.2==Value.none)=uk p.2/\Cy h q.2:=by
   have d:=j.2;rcases o with e|⟨b,xs,e,s⟩
   .rw[e]at d ⊢
    have z:q.2=.none:=d;rw[z];exact⟨rfl,.inl rfl⟩
   .rw[e]at d ⊢
    have z:q.2=.ref b:=d;rw[z];refine⟨rfl,.inr ?_⟩;obtain⟨_,f,n,_,g⟩:=(show cw P w H h b (.lst xs)from s.ok ok)
    exact⟨b,f.toArray,rfl,⟨_,g,rfl,n,rfl⟩⟩
  refine⟨by rw[List.any_cons,List.any_cons,l,one.1],λa c=>?_⟩
  rcases List.mem_cons.mp c with rfl|z
  .exact one.2
  .exact m a z
section
variable{X:Cx}{a o:Expr}{ta to:TE}{apos cpos pos:Pos}
theorem sx(J:X.calm=true)(K:X.A.units+1<cLine)(c:attributeBase o "values" X.env (eval o X.env)=eval o X.env)(d:(apos.endLine==cpos.line)=true)(n:PE X o to){pins:List (Addr×Obj)}{m:L2.St}{H:Hp}{s:Shared}{Q:VK}{x:V}{v:Value}(I:Inv X pins m H s)(L:RelV x v)(h:to m H λy p=>Iv x y p Q) :
  wpAny (model X.prog X.w) X.A (eval (.Call (.Attribute o "values" apos) [] [] cpos) X.env) (λu s2=>wpAny (model X.prog X.w) X.A (compareOp .NotIn v u) (EP X pins m Q) X.xe s2) X.xe s:=by
 refine wpAny_Call_method0_late c d (cC (n pins s m H _ I h) λu s2 ⟨y,p,I2,M,q2⟩=>?_)
 obtain⟨rfl,a,g,rfl,e,N,q⟩:=q2;cases (show v=Value.none from L)
 cases (show u=Value.ref a from M)
 obtain⟨O,P,t3⟩:=qm I2 (.inl ⟨g,e⟩);refine⟨"dict","dict.values",F.plainAttrs_dict,F.slot_dict_values,F.type_dict_values,O,P,Calls.callWith_builtin rfl (PySem.evalArgs_none ?_)⟩;obtain⟨_,R,t,f,B⟩:=gO I2.hok e;obtain⟨S,T⟩:=CA I2.hok f N;refine call_meetsIn F.slot_dict_values B.typeIs F.entry_dict_values (F.args_dict_values_1 _) (meets_dict_values (bQ X.prog X.w) a R) ⟨⟨t,B⟩,?_⟩;generalize i:s2.heap.push {cls:=.type "dict_values",data:=.fields #[.ref a]}=j;have C:∀b o,s2.heap.get? b=some o->j.get? b=some o:=λb o e=>by rw[←i];exact Heap.get?_push_of_some _ e
 have U:j.IsValuesView s2.heap.objs.size a:=by rw[←i];exact⟨_,Heap.get?_push_size _ rfl,rfl,rfl⟩
 obtain⟨G,Y,Z,g1,g2⟩:=B;have D:j.DictAt (bQ X.prog X.w) a t Z:=⟨G,Y,C a G g1,g2⟩;have E:∀k∈t,Cy j k.2:=λk f=>(T k f).imp id λ⟨l,items,q1,o,n,r⟩=>⟨l,items,q1,o,C l o n,r⟩
 show wpAny _ _ (do return Value.bool (!(←contains (.ref s2.heap.objs.size) .none))) _ _ _
 refine wpAny_bind (lP (s:={s2 with heap:=j}) (I2.ok.hd J) K U D E λh' hk=>wpAny_pure ?_)
 refine⟨.bl (!(g.any λk=>uk k.2)),p,I2.kept (t':=s2.toks) λb o z=>hk b o (C b o z),?_,q⟩
 rw[S];rfl
theorem Fw(d:X.calm=true)(e:X.A.units+1<cLine)(b:attributeBase o "values" X.env (eval o X.env)=eval o X.env)(c:(apos.endLine==cpos.line)=true)(f:PE X a ta)(g:PE X o to) :
  PE X (.Compare a [.NotIn] [.Call (.Attribute o "values" apos) [] [] cpos] pos) (AL Iv ta to):=by
 intro pins s i H Q I h;exact wpAny_Compare1 (cC (f pins s i H _ I h) λv j ⟨x,H1,I1,r1,q1⟩=>sx d e b c g I1 r1 q1) rfl
theorem Fx(f:X.calm=true)(g:X.A.units+1<cLine)(b:attributeBase o "values" X.env (eval o X.env)=eval o X.env)(d:(apos.endLine==cpos.line)=true)(i:PE X a ta)(j:PE X o to) :
  PT X (.Compare a [.NotIn] [.Call (.Attribute o "values" apos) [] [] cpos] pos) (rp (AL Iv ta to)):=by
 intro pins s l H Q I h;refine wpAny_isTrue_Compare1 (cC (i pins s l H _ I h) λv p ⟨x,H1,I1,r1,q1⟩=>cC (sx f g b d j I1 r1 q1) λu q m=>cC m λc r ⟨z,H3,I3,n,k,e,q3⟩=>?_) rfl
 subst e;cases n;exact wpAny_truthy_bool ⟨H3,I3,q3⟩
end
variable [aH]
noncomputable def iV:D->Bool
 |.non=>true
 |_=>false
def xH(x y:D)(Ω:aD):ay D:=if iV x then (match qM Ω y with
 |some a=>if a.all (λb=>iV b.2||(de Ω b.2).isSome)then .ok (.bl (!(a.any λb=>iV b.2))) Ω else .bad
 |none=>.bad)else .bad
section
variable{κ:Str->Addr->Prop}{Φ:gb}{α:List Addr}{Z:Addr->Prop}{Ω:aD}{H:Hp}{Q:VK}
theorem sy{d:D}(h:iV d=true):d=.non:=by cases d<;>first|rfl | (cases h)
theorem CB(S:bR κ α Z Ω H){kvs:List (Key×D)}{c:List (Key×V)}(r:fU (au α Z H) kvs c)(h:kvs.all (λd=>iV d.2||(de Ω d.2).isSome)=true) :
  (c.any λd=>uk d.2)=(kvs.any λd=>iV d.2)/\∀d∈c,d.2=.non\/∃b xs,d.2=.ref b/\Rd H b (.lst xs):=by
 unfold fU at r
 induction r with
 |nil=>exact⟨rfl,λd h=>by simp at h⟩
 |@cons p q kvs c j _ k=>
  rw[List.all_cons,Bool.and_eq_true]at h;obtain⟨l,m⟩:=k h.2
  have one:uk q.2=iV p.2/\(q.2=.non\/∃b xs,q.2=.ref b/\Rd H b (.lst xs)):=by
   have e:=j.2;cases i:iV p.2 with
   |true=>
    rw[sy i]at e;have z:q.2=.non:=by simpa only [au]using e
    rw[z];exact⟨rfl,.inl rfl⟩
   |false=>
    rw[i,Bool.false_or]at h;obtain⟨s,f⟩:=Option.isSome_iff_exists.mp h.1;obtain⟨a,n,z,o,_⟩:=bJ S e f;rw[z];exact⟨rfl,.inr ⟨a,n,rfl,o⟩⟩
  refine⟨by rw[List.any_cons,List.any_cons,l,one.1],λd g=>?_⟩
  rcases List.mem_cons.mp g with rfl|z
  .exact one.2
  .exact m d z
theorem Bc{c d:D}{x y:V}(S:bR κ α Z Ω H)(f:au α Z H c x)(h:au α Z H d y)(g:cv κ Φ α Z H (xH c d Ω) Q):Iv x y H Q:=by
 unfold xH at g;split at g
 .rename_i i
  split at g
  .rename_i j k
   split at g
   .rename_i l
    rw[sy i]at f;obtain⟨a,b,rfl,e,r⟩:=kI S h k;obtain⟨m,n⟩:=CB S r l;refine⟨by simpa only [au]using f,a,b,rfl,e,n,?_⟩
    rw[m];exact cv.ret S (a_ rfl) g
   .exact g.elim
  .exact g.elim
 .exact g.elim
theorem CC:∀x y Ω d ao,xH x y Ω=.ok d ao->∃t,d=.bl t:=λx y Ω d ao h=>by
 unfold xH at h;split at h
 .split at h
  .split at h
   .cases h;exact⟨_,rfl⟩
   .cases h
  .cases h
 .cases h
end
noncomputable def aa(i:Nat):EM:=λa b=>match a[i]? with|some (some d)=>.ok d b|_=>.bad
noncomputable def ae(d:D):EM:=λ_ a=>.ok d a
def bE:EM:=λ_ a=>gX a (.dK [])
noncomputable def o2{c d e:Type}(x:Option c)(y:Option d)(k:c->d->e):Option e:=match x,y with
 |some a,some b=>some (k a b)
 |_,_=>none
theorem cg{c d e:Type}{x:Option c}{y:Option d}{k:c->d->e}{z:e}(h:o2 x y k=some z):∃a b,x=some a/\y=some b/\z=k a b:=by
 unfold o2 at h;split at h
 .cases h;exact⟨_,_,rfl,rfl,rfl⟩
 .cases h
theorem cK{b c:Type}{x:Option b}{k:b->c}{z:c}(h:x.map k=some z):∃a,x=some a/\z=k a:=by
 cases x with
 |none=>cases h
 |some a=>cases h;exact⟨a,rfl,rfl⟩
structure bb where
 lC:List (Str×(List D->Out Rs)):=[]
 fn:List (Str×aV):=[]
 cst:List (Str×D):=[]
 met:List (Str×Str×aV):=[]
 cls:List (Str×aV):=[]
 fld:List (Str×List Str):=[]
 clo:List (List D->aV):=[]
 fz:List Str:=[]
 xt:Bool:=false
def nI(T:bb)(a:Scope)(N:List Str)(x:Str):Option EM:=
 match mf a N x with
 |some i=>some (aa i)
 |none=>if yC a x&&okN x then (T.cst.lookup x).map ae else none
def kP:Const->Option EM
 |.none=>some (ae .non)
 |.bool b=>some (ae (.bl b))
 |.int i=>some (ae (.int i))
 |.str x=>some (ae (.str x))
 |_=>none
def dq(f:Expr->Option EM):List Expr->Option AM
 |[]=>some af
 |e::es=>o2 (f e) (dq f es) ab
def QJ(op:BoolOp)(a b:EM):EM:=match op with
 |.And=>eK a b
 |.Or=>Ea a b
def iz(f:Expr->Option EM)(op:BoolOp):List Expr->Option EM
 |[]=>none
 |[a]=>f a
 |a::b::r=>o2 (f a) (iz f op (b::r)) (QJ op)
def qR(f:Expr->Option EM):Option Expr->Option (Bool×EM)
 |none=>some (true,ae .non)
 |some e=>(f e).map λm=>(false,m)
inductive BM where
 |append|reverse|insert|extend|index|join
noncomputable def BM.nm:BM->Str
 |.append=>"append" |.reverse=>"reverse" |.insert=>"insert" |.extend=>"extend" |.index=>"index" |.join=>"join"
noncomputable def BM.ar:BM->Nat
 |.append=>1|.reverse=>0|.insert=>2|.extend=>1|.index=>1|.join=>1
def BM.ty:BM->aD->D->Bool
 |.join=>zg
 |_=>hY
def BM.f:BM->D->List D->aD->ay D
 |.append=>bq|.reverse=>ej|.insert=>fH|.extend=>fI|.index=>nG|.join=>mz
def CD(m:Str)(n:Nat):Option BM:=[BM.append,.reverse,.insert,.extend,.index,.join].find? λb=>b.nm==m&&b.ar==n
def gz(mo:EM)(a:AM)(m:Str):List (Str×Str×aV)->Option EM
 |[]=>none
 | (b,C,F)::r=>if b==m then (match gz mo a m r with
  |some x=>some (kA (aN C m F mo a) x)
  |none=>some (aN C m F mo a))else gz mo a m r
def jK(T:bb)(m:Str)(n:Nat)(mo:EM)(a:AM):Option EM:=match CD m n,gz mo a m T.met with
 |some b,some x=>some (kA (dg b.ty b.f mo a) x)
 |some b,none=>some (dg b.ty b.f mo a)
 |none,x=>x
noncomputable def dP:Expr->Bool
 |.Name .. |.Attribute .. |.Constant (.str _) .. |.Call (.Name ..) (_::_) ..=>true
 |_=>false
def kQ(op:CmpOp)(b:Expr):Option Expr:=match op,b with
 |.NotIn,.Call (.Attribute o m a) [] [] c=>if m==("values":Str)&&a.endLine==c.line&&dP o then some o else none
 |_,_=>none
theorem wq{op:CmpOp}{b o:Expr}(h:kQ op b=some o):∃c d,op=.NotIn/\b=.Call (.Attribute o "values" c) [] [] d/\(c.endLine==d.line)=true/\dP o=true:=by
 unfold kQ at h;split at h
 .split at h
  .rename_i a
   simp only[Bool.and_eq_true]at a;cases h;exact⟨_,_,rfl,by rw[eq_of_beq a.1.1],a.1.2,a.2⟩
  .cases h
 .cases h
def qS(x:Str):Option jF:=[jF.len,jF.all,jF.any,jF.list,jF.tuple].find? (λb=>b.nm==x)
theorem zy{x:Str}{b:jF}(h:qS x=some b):x=b.nm/\b∈[jF.len,jF.all,jF.any,jF.list,jF.tuple]/\b.nm∈eg:=by
 unfold qS at h;have c:=List.find?_some h;have a:=List.mem_of_find?_eq_some h;refine⟨(eq_of_beq c).symm,a,?_⟩;cases b<;>first | (simp at a;done)|decide
def nJ(T:bb)(a:Scope)(f:Expr->Option EM)(x:Str)(args:List Expr):Option EM:=
 if yC a x&&okN x then
  match T.fn.lookup x,T.lC.lookup x,T.cls.lookup x,qS x with
  |some F,_,_,_=>(dq f args).map (mN (aS F))
  |none,some F,_,_=>if args.isEmpty then none else (dq f args).map (mN (bD F))
  |none,none,some F,_=>(dq f args).map (mN (lO x F))
  |none,none,none,some b=>if args.isEmpty then none else (dq f args).map (mN (aP b))
  |none,none,none,none=>if x==("sorted":Str)then (if args.isEmpty then none else (dq f args).map (mN gm))else (if x==("dict":Str)then (if args.isEmpty then none else (dq f args).map (mN eW))else none)
 else none
def jL(T:bb)(a:Scope)(N:List Str)(f:Expr->Option EM)(x:Str)(args:List Expr):Option EM:=match mf a N x with
 |some _=>none
 |none=>nJ T a f x args
def wt(b:Scope):List Expr->Option (Expr×Ty×Pos)
 |[a,.Name t p]=>match vF t with
  |some ty=>if yC b t then some (a,ty,p)else none
  |none=>none
 |_=>none
theorem um{d:Scope}{args:List Expr}{a:Expr}{b:Ty}{p:Pos}(h:wt d args=some (a,b,p)):args=[a,.Name b.nm p]/\yC d b.nm=true/\b.nm∈eg:=by
 unfold wt at h;split at h
 .split at h
  .rename_i e c
   split at h
   .rename_i f
    cases h;obtain⟨rfl,m⟩:=Fh c;exact⟨rfl,f,m⟩
   .cases h
  .cases h
 .cases h
def pw(b:Scope)(f:Expr->Option EM)(x:Str)(args:List Expr):Option EM:=if x==("isinstance":Str)&&yC b x then match wt b args with
 |some (a,c,_)=>(f a).map (m1 (nE c))
 |none=>none else none
def gP(f:Expr->Option EM)(b:Scope)(iter:Expr):Option IM:=match iter with
 |.Call (.Name g _) args [] _=>if g==("range":Str)then (if yC b g then (match args with
   |[a]=>(dq f [a]).map b_
   |_=>none)else none)else (f iter).map aK
 |_=>(f iter).map aK
def wu(f:Expr->Option EM):List Expr->Option (Bool×EM)
 |[]=>some (true,ae .non)
 |[c]=>(f c).map λm=>(false,m)
 |_=>none
noncomputable def emptyDict:List (Option Expr)->List Expr->Bool
 |[],[]=>true
 |_,_=>false
def cL(T:bb):Nat->Scope->List Str->Expr->Option EM
 |0,_,_,_=>none
 |n+1,sc,N,e=>match e with
  |.Name x _=>nI T sc N x
  |.Constant c _ _=>kP c
  |.BinOp a d b _=>o2 (cL T n sc N a) (cL T n sc N b) (m2 (aM d))
  |.UnaryOp .USub a _=>(cL T n sc N a).map (m1 Fm)
  |.UnaryOp .Not a _=>(cL T n sc N a).map gJ
  |.BoolOp d (a::b::r) _=>iz (cL T n sc N) d (a::b::r)
  |.Compare a [d] [b] _=>match kQ d b with
   |some o=>o2 (cL T n sc N a) (cL T n sc N o) (m2 xH)
   |none=>if isSet b then none else o2 (cL T n sc N a) (cL T n sc N b) (m2 (ax d))
  |.Compare a [d,g] [b,c] _=>if isSet c then none else o2 (cL T n sc N a) (o2 (cL T n sc N b) (cL T n sc N c) Prod.mk) λx y=>jy d g x y.1 y.2
  |.IfExp t a b _=>o2 (cL T n sc N t) (o2 (cL T n sc N a) (cL T n sc N b) Prod.mk) λx y=>uE x y.1 y.2
  |.Subscript a (.Slice lo hi none _) _=>o2 (cL T n sc N a) (o2 (qR (cL T n sc N) lo) (qR (cL T n sc N) hi) Prod.mk) λx y=>cH x y.1.1 y.1.2 y.2.1 y.2.2
  |.Subscript a b _=>if isSlice b then none else o2 (cL T n sc N a) (cL T n sc N b) (m2 az)
  |.List es _=>(dq (cL T n sc N) es).map (mN aT)
  |.Tuple es _ _=>(dq (cL T n sc N) es).map (mN gI)
  |.Attribute o f _=>if dP o then o2 (T.fld.lookup f) (cL T n sc N o) λCs m=>m1 (dn Cs f) m else none
  |.Call (.Name x _) args [] _=>match pw sc (cL T n sc N) x args with
   |some m=>some m
   |none=>jL T sc N (cL T n sc N) x args
  |.Call (.Attribute o m p1) args [] p2=>if p1.endLine==p2.line&&dP o&&decide (args.length<20)then (match cL T n sc N o,dq (cL T n sc N) args with
   |some mo,some as=>jK T m args.length mo as
   |_,_=>none)else none
  |.ListComp elt gens scope _=>match kq gens with
   |some (x,_,iter,ifs)=>if vG scope sc x&&!isSet iter then (match qA sc N (dE scope),gP (cL T n sc N) sc iter,cL T n (qz scope sc) (x::dE scope) elt,wu (cL T n (qz scope sc) (x::dE scope)) ifs with
    |some cap,some mi,some me,some (nc,mc)=>some (aW me nc mc mi 0 cap)
    |_,_,_,_=>none)else none
   |none=>none
  |.Dict ks h _=>if emptyDict ks h then some bE else none
  |_=>none
structure GoodO(X:Cx)(κ:Str->Addr->Prop)(T:bb)(k:Nat)(sc:Scope)(N:List Str):Prop where
 scope:X.env.scope=sc
 names:X.N=N
 calm:X.calm=true
 room:cP k X.A
 eP:∀x∈eg,X.mg x=none
 lC:∀x F,T.lC.lookup x=some F->Fe X k x F
 fn:∀x F,T.fn.lookup x=some F->wd X κ k x F
 cst:∀x d,T.cst.lookup x=some d->∃v u,X.mg x=some u/\RelV v u/\fh d=some v
 met:∀m C F,(m,C,F)∈T.met->sr X κ k C m F
 cls:∀C F,T.cls.lookup C=some F->∃j,j+1<=k/\wj X κ j C F
 fld:∀f Cs,T.fld.lookup f=some Cs->iT X.K κ Cs f
 clo:∀j F,T.clo[j]?=some F->pv X.prog X.w X.K X.mg X.base κ k j F
theorem GoodO.gl{X:Cx}{κ:Str->Addr->Prop}{T:bb}{k:Nat}{a:Scope}{N:List Str}{x:Str}(G:GoodO X κ T k a N)(h:yC a x=true):Gl X x:=by
 unfold yC at h;have e:=eq_of_beq h
 show X.env.scope.names.lookup x=some .globalImplicit
 rw[G.scope];exact e
theorem GoodO.hu{X:Cx}{κ:Str->Addr->Prop}{T:bb}{k:Nat}{a:Scope}{N:List Str}(G:GoodO X κ T k a N):X.A.units+64<cLine:=G.room.units
theorem GoodO.blk{X:Cx}{κ:Str->Addr->Prop}{T:bb}{k:Nat}{c:Scope}{N:List Str}(G:GoodO X κ T k c N)(scope:Scope)(e:List (Str×Addr))(C:Addr)(d:List Str)(a:Shared)(b:Hp)(fp:List Addr):GoodO (blk X scope e C d a b fp) κ T k (qz scope c) d where
 scope:=by rw[←G.scope];rfl
 names:=rfl
 calm:=G.calm
 room:=G.room
 eP:=G.eP
 lC:=λx F h=>⟨(G.lC x F h).ex⟩
 fn:=λx F h=>⟨(G.fn x F h).ex⟩
 cst:=G.cst
 met:=λm C F h=>⟨(G.met m C F h).ex⟩
 cls:=λC F h=>let ⟨j,f,g⟩:=G.cls C F h;⟨j,f,⟨g.ex⟩⟩
 fld:=G.fld
 clo:=G.clo
def lD(X:Cx)(κ:Str->Addr->Prop)(e:Expr)(m:EM):Prop:=(∀a,bz X κ a e m)/\(∀a,gf X κ a e m)/\isStar e=false
section
variable{X:Cx}{κ:Str->Addr->Prop}{T:bb}{k:Nat}{sc:Scope}{N:List Str}{f:Expr->Option EM}
theorem cy{e:Expr}{m:EM}(h:∀Φ,bz X κ Φ e m)(b:isStar e=false)(c:∀a,isTrue e X.env a=(do let v ←a;standAt e.pos;holding [v] (truthy v))):lD X κ e m:=⟨h,λΦ=>yR (h Φ) c,b⟩
theorem cB(b:∀e m,f e=some m->lD X κ e m):∀{es:List Expr}{a:AM},dq f es=some a->(∀Φ,oV X κ Φ es a)/\(∀e∈es,isStar e=false)
 |[],a,h=>by cases h;exact⟨λΦ=>yG,λe d=>absurd d (by simp)⟩
 |e::es,a,h=>by
  obtain⟨m,g,h1,h2,rfl⟩:=cg h;obtain⟨i,_,c⟩:=b e m h1;obtain⟨j,k⟩:=cB b h2;refine⟨λΦ=>vP (i Φ) (j Φ) (cD c),λz hz=>?_⟩
  rcases List.mem_cons.mp hz with rfl|hz
  .exact c
  .exact k z hz
theorem wx(G:GoodO X κ T k sc N){x:Str}{pos:Pos}{m:EM}(h:nI T sc N x=some m):lD X κ (.Name x pos) m:=by
 unfold nI at h;split at h
 .rename_i i q
  cases h;obtain⟨c,e,a,f⟩:=rR q;exact cy (λg=>yF (by rw[G.names];exact c) (by rw[G.scope];exact e) a f) rfl (λ_=>rfl)
 .split at h
  .rename_i b
   simp only[Bool.and_eq_true]at b;obtain⟨d,a,rfl⟩:=cK h;obtain⟨v,u,j,l,n⟩:=G.cst x d a;obtain⟨o,p,r⟩:=rS b.2;exact cy (λg=>ir (xN (G.gl b.1) j l o) n) rfl (λ_=>rfl)
  .cases h
theorem uo{q:Const}{j:Nat}{pos:Pos}{m:EM}(h:kP q=some m):lD X κ (.Constant q j pos) m:=by
 cases q<;>simp only[kP]at h<;>cases h
 .exact cy (λa=>ir Bx rfl) rfl (λ_=>rfl)
 .exact cy (λa=>ir Ew rfl) rfl (λ_=>rfl)
 .exact cy (λa=>ir Bw rfl) rfl (λ_=>rfl)
 .exact cy (λa=>ir By rfl) rfl (λ_=>rfl)
theorem pz{op:BoolOp}{pos:Pos}(c:∀e m,f e=some m->lD X κ e m):∀{es:List Expr}{m:EM},iz f op es=some m->(∀Φ,bz X κ Φ (.BoolOp op es pos) m)/\(∀Φ,A9 X κ Φ (.BoolOp op es pos) m)
 |[],m,h=>by cases h
 |[a],m,h=>by
  obtain⟨p1,p2,p3⟩:=c a m h;exact⟨λΦ=>tX (p1 Φ),λΦ=>yV (p2 Φ)⟩
 |a::b::r,m,h=>by
  simp only[iz]at h;obtain⟨i,l,j,k,rfl⟩:=cg h;obtain⟨p1,p2,p3⟩:=c a i j;obtain⟨d,g⟩:=pz c k;cases op with
  |And=>exact⟨λΦ=>yS (p1 Φ) (d Φ),λΦ=>yW (p2 Φ) (g Φ)⟩
  |Or=>exact⟨λΦ=>Cn (p1 Φ) (d Φ),λΦ=>Co (p2 Φ) (g Φ)⟩
theorem pA(b:∀e m,f e=some m->lD X κ e m){o:Option Expr}{n:Bool}{m:EM}{Φ:gb}(h:qR f o=some (n,m)):Ip X κ Φ o n m:=by
 cases o with
 |none=>cases h;exact .inl ⟨rfl,rfl⟩
 |some e=>
  obtain⟨a,c,d⟩:=cK h;cases d;exact .inr ⟨e,rfl,rfl,(b e m c).1 Φ⟩
theorem zz{m:Str}{n:Nat}{b:BM}(h:CD m n=some b):m=b.nm/\n=b.ar:=by
 have:=List.find?_some h;simp only[Bool.and_eq_true,beq_iff_eq]at this;exact⟨this.1.symm,this.2.symm⟩
theorem dz{o:Expr}{n:Str}{env:Env}(h:dP o=true):attributeBase o n env (eval o env)=eval o env:=by
 cases o with
 |Call f a b p=>cases f<;>first | (cases a<;>first|rfl | (cases h)) | (cases h)
 |_=>first|rfl | (cases h)
theorem Fy(z:X.A.units+64<cLine)(b:BM){o:Expr}{es:List Expr}{mo:EM}{t:AM}{u w:Pos}{Φ:gb}(j:dP o=true)(k:(u.endLine==w.line)=true)(l:es.length=b.ar)(n:bz X κ Φ o mo)(y:dq f es=some t)(B:∀e m,f e=some m->lD X κ e m) :
  bz X κ Φ (.Call (.Attribute o b.nm u) es [] w) (dg b.ty b.f mo t):=by
 obtain⟨i,p⟩:=cB B y;have i:=i Φ;cases b with
 |append=>
  match es,l with
  |[e],_=>exact kL PySem.F.plainAttrs_list PySem.F.slot_list_append PySem.F.type_list_append lW (λx v a Z c H S r h=>kK S r h) (λx v q s a Z c H Q S r d g=>ua S r d g) (dz j) k n i p (by simp)
 |reverse=>
  match es,l with
  |[],_=>cases y;exact zi PySem.F.plainAttrs_list PySem.F.slot_list_reverse PySem.F.type_list_reverse qj (λx v a Z c H S r h=>kK S r h) (λx v q s a Z c H Q S r d g=>qP S r d g) (dz j) k n
 |insert=>
  match es,l with
  |[e,C],_=>exact kL PySem.F.plainAttrs_list PySem.F.slot_list_insert PySem.F.type_list_insert tU (λx v a Z c H S r h=>kK S r h) (λx v q s a Z c H Q S r d g=>ub S r d g) (dz j) k n i p (by simp)
 |extend=>
  match es,l with
  |[e],_=>exact kL PySem.F.plainAttrs_list PySem.F.slot_list_extend PySem.F.type_list_extend tG (λx v a Z c H S r h=>kK S r h) (λx v q s a Z c H Q S r d g=>uc S r d g) (dz j) k n i p (by simp)
 |index=>
  match es,l with
  |[e],_=>exact kL PySem.F.plainAttrs_list PySem.F.slot_list_index PySem.F.type_list_index (vD z) (λx v a Z c H S r h=>kK S r h) (λx v q s a Z c H Q S r d g=>vX S r d g) (dz j) k n i p (by simp)
 |join=>
  match es,l with
  |[e],_=>exact kL PySem.F.plainAttrs_str PySem.F.slot_str_join PySem.F.type_str_join yy (λx v a Z c H S r h=>zh S r h) (λx v q s a Z c H Q S r d g=>zk S r d g) (dz j) k n i p (by simp)
theorem sD{o:Expr}{m:Str}{a pos:Pos}{es:List Expr}{env:Env}(d:attributeBase o m env (eval o env)=eval o env)(g:∀e∈es,isStar e=false)(c:es.length<20)(h:(a.endLine==pos.line)=true) :
  eval (.Call (.Attribute o m a) es [] pos) env=(do
   let b ←eval o env
   standAt a.atName
   let (f,first) ←holding [b] (getMethod b m (do let l ←importBound o env;pure (l.getD true)))
   callWith pos f first (backTo pos (starEach es env)) (backToKw pos (keywordEach [] env))):=by
 have i:methodCallForm (es.length+([]:List Keyword).length) (backTo pos (starEach es env)) (backToKw pos (keywordEach [] env))=true:=by
  unfold methodCallForm;rw[qO g,decide_eq_true (by show es.length+0+0<30;omega)];rfl
 have j:eval (.Call (.Attribute o m a) es [] pos) env=(do
   let b ←attributeBase o m env (eval o env)
   standAt a.atName
   methodCall o m a pos env b (es.length+([]:List Keyword).length) (backTo pos (starEach es env)) (backToKw pos (keywordEach [] env))):=by rfl
 rw[j,d];unfold methodCall calleeOf methodCallPos;rw[i];simp only[if_true,Bool.not_true,Bool.false_or,h];rfl
theorem g_(b:cP k X.A){o:Expr}{m:Str}{es:List Expr}{mo:EM}{p:AM}{r s:Pos}{Φ:gb}(c:dP o=true)(d:(r.endLine==s.line)=true)(a:es.length<20)(g:bz X κ Φ o mo)(i:dq f es=some p)(t:∀e m,f e=some m->lD X κ e m):∀{u:List (Str×Str×aV)}{x:EM},(∀m C F,(m,C,F)∈u->sr X κ k C m F)->gz mo p m u=some x->bz X κ Φ (.Call (.Attribute o m r) es [] s) x
 |[],x,_,h=>by cases h
 | (j,C,F)::u,x,l,h=>by
  obtain⟨w,n⟩:=cB t i;simp only[gz]at h;split at h
  .rename_i B
   obtain rfl:=eq_of_beq B
   have one:bz X κ Φ (.Call (.Attribute o j r) es [] s) (aN C j F mo p):=by
    cases es with
    |nil=>cases i;exact uh (l j C F (by simp)) b g (sD (dz c) n a d)
    |cons e es=>exact wh (l j C F (by simp)) b g (w Φ) (cD (n e (by simp))) (cG λz D=>n z (by simp[D])) (sD (dz c) n a d)
   split at h
   .rename_i y E
    cases h;exact one.alt (g_ b c d a g i t (λm C F q=>l m C F (by simp[q])) E)
   .cases h;exact one
  .exact g_ b c d a g i t (λm C F q=>l m C F (by simp[q])) h
theorem wy(G:GoodO X κ T k sc N){o:Expr}{m:Str}{es:List Expr}{mo:EM}{d:AM}{g i:Pos}{Φ:gb}{x:EM}(n:dP o=true)(p:(g.endLine==i.line)=true)(a:es.length<20)(q:bz X κ Φ o mo)(r:dq f es=some d)(s:∀e m,f e=some m->lD X κ e m)
  (h:jK T m es.length mo d=some x):bz X κ Φ (.Call (.Attribute o m g) es [] i) x:=by
 have one:∀b,CD m es.length=some b->bz X κ Φ (.Call (.Attribute o m g) es [] i) (dg b.ty b.f mo d):=λb l=>by
  obtain⟨rfl,u⟩:=zz l;exact Fy G.hu b n p u q r s
 have c:∀y,gz mo d m T.met=some y->bz X κ Φ (.Call (.Attribute o m g) es [] i) y:=λy w=>g_ G.room n p a q r s G.met w
 unfold jK at h;split at h
 .rename_i b y j t
  cases h;exact(one b j).alt (c y t)
 .rename_i b j t
  cases h;exact one b j
 .rename_i j
  exact c x h
theorem wz(G:GoodO X κ T k sc N)(o:∀e m,f e=some m->lD X κ e m){x:Str}{args:List Expr}{m:EM}{p pos:Pos}(h:nJ T sc f x args=some m):lD X κ (.Call (.Name x p) args [] pos) m:=by
 refine cy (λq=>?_) rfl (λ_=>rfl)
 unfold nJ at h;split at h
 .rename_i u
  simp only[Bool.and_eq_true]at u;obtain⟨s,D,E⟩:=rS u.2;have n:=G.gl u.1;split at h
  .rename_i F r
   obtain⟨t,g,rfl⟩:=cK h;obtain⟨i,c⟩:=cB o g;cases args with
   |nil=>cases g;exact ug (G.fn x F r) G.room n s
   |cons a args=>exact we (G.fn x F r) G.room n s (cD (c a (by simp))) (cG λz l=>c z (by simp[l])) (i q)
  .rename_i F _ r
   split at h
   .cases h
   .rename_i d
    obtain⟨t,g,rfl⟩:=cK h;obtain⟨i,c⟩:=cB o g;cases args with
    |nil=>exact absurd rfl d
    |cons a args=>exact tY (G.lC x F r) G.room n s (cD (c a (by simp))) (cG λz l=>c z (by simp[l])) (i q)
  .rename_i F _ _ r
   obtain⟨t,g,rfl⟩:=cK h;obtain⟨i,c⟩:=cB o g;obtain⟨j,y,M⟩:=G.cls x F r;cases args with
   |nil=>cases g;exact wk M (G.room.mono y) n s
   |cons a args=>exact zw M (G.room.mono y) n s (cD (c a (by simp))) (cG λz l=>c z (by simp[l])) (i q)
  .rename_i b _ _ _ A
   split at h
   .cases h
   .rename_i d
    obtain⟨t,g,rfl⟩:=cK h;obtain⟨i,c⟩:=cB o g;obtain⟨rfl,B,C⟩:=zy A;cases args with
    |nil=>exact absurd rfl d
    |cons a args=>exact ze G.calm B n (G.eP _ C) (cD (c a (by simp))) (cG λz l=>c z (by simp[l])) (i q)
  .split at h
   .rename_i w
    obtain rfl:=eq_of_beq w;split at h
    .cases h
    .rename_i d
     obtain⟨t,g,rfl⟩:=cK h;obtain⟨i,c⟩:=cB o g;cases args with
     |nil=>exact absurd rfl d
     |cons a args=>exact vW n (G.eP _ (by decide)) (cD (c a (by simp))) (cG λz l=>c z (by simp[l])) (i q)
   .split at h
    .rename_i w
     obtain rfl:=eq_of_beq w;split at h
     .cases h
     .rename_i d
      obtain⟨t,g,rfl⟩:=cK h;obtain⟨i,c⟩:=cB o g;cases args with
      |nil=>exact absurd rfl d
      |cons a args=>exact vV G.calm n (G.eP _ (by decide)) (cD (c a (by simp))) (cG λz l=>c z (by simp[l])) (i q)
    .cases h
 .cases h
theorem wA(G:GoodO X κ T k sc N)(b:∀e m,f e=some m->lD X κ e m){x:Str}{args:List Expr}{m:EM}{p pos:Pos}(h:jL T sc N f x args=some m):lD X κ (.Call (.Name x p) args [] pos) m:=by
 unfold jL at h;cases a:mf sc N x with
 |none=>rw[a]at h;exact wz G b h
 |some i=>
  rw[a]at h;cases h
theorem zA(G:GoodO X κ T k sc N)(d:∀e m,f e=some m->lD X κ e m){x:Str}{args:List Expr}{m:EM}{p pos:Pos}(h:pw sc f x args=some m):lD X κ (.Call (.Name x p) args [] pos) m:=by
 unfold pw at h;split at h
 .rename_i b
  simp only[Bool.and_eq_true,beq_iff_eq]at b;obtain⟨rfl,g⟩:=b;split at h
  .rename_i a i j l
   obtain⟨rfl,n,o⟩:=um l;obtain⟨q,r,rfl⟩:=cK h;obtain⟨s,_,t⟩:=d a q r;exact cy (λu=>zf (G.gl g) (G.eP _ (by decide)) (G.gl n) (G.eP _ o) (cD t) (cG (es:=[Expr.Name i.nm j]) λz c=>by simp at c;subst c;rfl) (s u)) rfl (λ_=>rfl)
  .cases h
 .cases h
theorem kR(G:GoodO X κ T k sc N)(d:∀e m,f e=some m->lD X κ e m){iter:Expr}{mi:IM}(h:gP f sc iter=some mi):∀Φ b,uF X κ Φ b iter mi:=by
 intro Φ b
 have dflt:∀{mi},(f iter).map aK=some mi->uF X κ Φ b iter mi:=λ{mi} h=>by
  obtain⟨m,c,rfl⟩:=cK h;exact zm ((d iter m c).1 Φ)
 unfold gP at h;split at h
 .rename_i g p args i
  split at h
  .rename_i j
   obtain rfl:=eq_of_beq j;split at h
   .rename_i l
    split at h
    .rename_i a
     obtain⟨q,c,rfl⟩:=cK h;obtain⟨n,o⟩:=cB d c;exact vZ (G.gl l) (G.eP _ (by decide)) (n Φ) (by rw[cD (o a (by simp))];rfl)
    .cases h
   .cases h
  .exact dflt h
 .exact dflt h
end
section
variable{κ:Str->Addr->Prop}{T:bb}{k:Nat}
theorem zB{X:Cx}{b:Scope}{N:List Str}(G:GoodO X κ T k b N){scope:Scope}{x:Str}{cap:List Nat}(f:vG scope b x=true)(m:qA b N (dE scope)=some cap) :
  jg X scope [x] (dE scope) cap/\(scope.names.lookup x=some .local\/scope.names.lookup x=some .cell)/\([x]++dE scope).Nodup:=by
 simp only[vG,Bool.and_eq_true,decide_eq_true_eq,List.all_eq_true,Bool.not_eq_true',beq_iff_eq,Bool.or_eq_true]at f;obtain⟨⟨⟨⟨⟨n,o⟩,p⟩,r⟩,s⟩,t⟩:=f;obtain⟨u,w⟩:=vI m
 have g:∀y∈scope.names,y.2=.free->(b.names.lookup y.1=some .cell\/b.names.lookup y.1=some .free)/\scope.names.lookup y.1=some .free:=λy a c=>by
  rcases r y a with q|q
  .rw[c]at q;exact absurd q (by decide)
  .exact q
 refine⟨⟨n,o,λy a c=>?_,λy a c=>?_,u,λj i z h A=>?_⟩,s,t⟩
 .rcases p y a with q|q
  .rw[c]at q;exact absurd q (by decide)
  .exact q
 .have:=(g y a c).1
  show X.env.scope.names.lookup y.1=_\/X.env.scope.names.lookup y.1=_
  rw[G.scope];exact this
 .refine⟨by rw[G.names];exact w j i z h A,?_⟩
  have l:z∈dE scope:=List.mem_of_getElem? h;unfold dE at l;obtain⟨y,a,rfl⟩:=List.mem_map.mp l;obtain⟨d,e⟩:=List.mem_filter.mp a;exact(g y d (by simpa using e)).2
theorem kS{T:bb}{a:Scope}{N:List Str}{n:Nat}{b:Expr}{gens:List Comprehension}{scope:Scope}{pos:Pos}{m:EM}{P:Prop}(e:kq gens=none)(h:cL T (n+1) a N (.ListComp b gens scope pos)=some m):P:=by
 replace h:(match kq gens with
   |some (x,_,iter,c)=>if (vG scope a x&&!isSet iter)=true then (match qA a N (dE scope),gP (cL T n a N) a iter,cL T n (qz scope a) (x::dE scope) b,wu (cL T n (qz scope a) (x::dE scope)) c with
    |some d,some f,some g,some (i,j)=>some (aW g i j f 0 d)
    |_,_,_,_=>none)else none
   |none=>none)=some m:=h
 rw[e]at h;cases h
theorem jn{n:Nat}(o:∀(X:Cx) (f:Scope) (N:List Str) (e:Expr) (m:EM),GoodO X κ T k f N->cL T n f N e=some m->lD X κ e m){X:Cx}{f:Scope}{N:List Str}(G:GoodO X κ T k f N){scope:Scope}{x:Str}{iter i:Expr}{g:List Expr}{q pos:Pos}{m:EM}
  (h:cL T (n+1) f N (.ListComp i [⟨.Name x q,iter,g,0⟩] scope pos)=some m):∃me nc mc mi cap,m=aW me nc mc mi 0 cap/\jg X scope [x] (dE scope) cap/\(scope.names.lookup x=some .local\/scope.names.lookup x=some .cell)/\([x]++dE scope).Nodup /\
   (∀z,foldedSetIterable iter X.env z=pure z)/\(∀Φ,uF X κ Φ (.Name x q) iter mi) /\
   ∀l C b d fp,((g=[]/\nc=true)\/∃c,g=[c]/\nc=false/\gf (blk X scope l C ([x]++dE scope) b d fp) κ pf c mc)/\bz (blk X scope l C ([x]++dE scope) b d fp) κ pf i me:=by
 replace h:(if (vG scope f x&&!isSet iter)=true then (match qA f N (dE scope),gP (cL T n f N) f iter,cL T n (qz scope f) (x::dE scope) i,wu (cL T n (qz scope f) (x::dE scope)) g with
    |some cap,some mi,some me,some (nc,mc)=>some (aW me nc mc mi 0 cap)
    |_,_,_,_=>none)else none)=some m:=h
 split at h
 .rename_i p
  simp only[Bool.and_eq_true,Bool.not_eq_true']at p;split at h
  .rename_i cap mi me nc mc t u w j
   cases h;obtain⟨y,A,B⟩:=zB G p.1 t;refine⟨me,nc,mc,mi,cap,rfl,y,A,B,kr p.2,λΦ=>kR G (o X f N · · G) u Φ _,λl C b d fp=>?_⟩
   have r:=G.blk scope l C ([x]++dE scope) b d fp;refine⟨?_,(o _ _ _ i me r w).1 pf⟩
   match g,j with
   |[],j=>cases j;exact .inl ⟨rfl,rfl⟩
   |[s],j=>
    obtain⟨a,D,E⟩:=cK j;cases E;exact .inr ⟨s,rfl,rfl,(o _ _ _ s mc r D).2.1 pf⟩
  .cases h
 .cases h
theorem qT:∀(n:Nat) (X:Cx) (w:Scope) (N:List Str) (e:Expr) (m:EM),GoodO X κ T k w N->cL T n w N e=some m->lD X κ e m:=by
 intro n
 induction n with
 |zero=>intro X w N e m G h;cases h
 |succ n ih=>
  intro X w N e m G h;have l:∀e m,cL T n w N e=some m->lD X κ e m:=λe m q=>ih X w N e m G q
  cases e with
  |Name x pos=>exact wx G h
  |Constant c j pos=>exact uo h
  |BinOp a op b pos=>
   obtain⟨A,D,u,z,rfl⟩:=cg h;exact cy (λd=>yJ ((l a A u).1 d) ((l b D z).1 d)) rfl (λ_=>rfl)
  |UnaryOp op a pos=>
   cases op with
   |USub=>
    obtain⟨A,u,rfl⟩:=cK h;exact cy (λd=>yK ((l a A u).1 d)) rfl (λ_=>rfl)
   |Not=>
    obtain⟨A,u,rfl⟩:=cK h;exact⟨λd=>yT ((l a A u).1 d),λd=>yU ((l a A u).2.1 d),rfl⟩
   |_=>cases h
  |BoolOp op M pos=>
   match M,h with
   |a::b::r,h=>
    obtain⟨q1,q2⟩:=pz (pos:=pos) l (show iz (cL T n w N) op (a::b::r)=some m from h)
    exact⟨q1,λd=>(q2 d).pt,rfl⟩
   |[_],h=>cases h
   |[],h=>cases h
  |Compare a U cs pos=>
   match U,cs,h with
   |[op],[b],h=>
    replace h:(match kQ op b with
     |some o=>o2 (cL T n w N a) (cL T n w N o) (m2 xH)
     |none=>if isSet b=true then none else o2 (cL T n w N a) (cL T n w N b) (m2 (ax op)))=some m:=h
    cases V:kQ op b with
    |some o=>
     rw[V]at h;obtain⟨A,C,u,z,rfl⟩:=cg h;obtain⟨p1,p2,rfl,rfl,hl,I⟩:=wq V;exact⟨λd=>dO (λta tb Y pb=>Fw G.calm (by have:=G.hu;omega) (dz I) hl Y pb) ((l a A u).1 d) ((l o C z).1 d) λdx dy x y α Z Ω H Q S rx ry g=>Bc S rx ry g,λd=>gw (λta tb Y pb=>Fx G.calm (by have:=G.hu;omega) (dz I) hl Y pb) ((l a A u).1 d) ((l o C z).1 d) CC λdx dy x y α Z Ω H Q S rx ry g=>Bc S rx ry g,rfl⟩
    |none=>
     rw[V]at h;replace h:(if isSet b=true then none else o2 (cL T n w N a) (cL T n w N b) (m2 (ax op)))=some m:=h
     split at h
     .cases h
     .rename_i hs
      obtain⟨A,D,u,z,rfl⟩:=cg h;have J:=oN (op:=op) (b:=b) (by simpa using hs)
      exact⟨λd=>(sd G.hu J ((l a A u).1 d) ((l b D z).1 d)).1,λd=>(sd G.hu J ((l a A u).1 d) ((l b D z).1 d)).2,rfl⟩
   |[op,E],[b,O],h=>
    replace h:(if isSet O=true then none else o2 (cL T n w N a) (o2 (cL T n w N b) (cL T n w N O) Prod.mk) λx y=>jy op E x y.1 y.2)=some m:=h
    split at h
    .cases h
    .rename_i hs
     obtain⟨A,b0,u,B,rfl⟩:=cg h;obtain⟨D,mc,z,F,rfl⟩:=cg B;have J:lastMarks [op,E] [b,O]=false:=oN (op:=E) (b:=O) (by simpa using hs)
     exact⟨λd=>yZ G.hu J ((l _ _ u).1 d) ((l _ _ z).1 d) ((l _ _ F).1 d),λd=>y8 G.hu J ((l _ _ u).1 d) ((l _ _ z).1 d) ((l _ _ F).1 d),rfl⟩
   |[],_,h=>cases h
   |[_],[],h=>cases h
   |[_],_::_::_,h=>cases h
   |[_,_],[],h=>cases h
   |[_,_],[_],h=>cases h
   |[_,_],_::_::_::_,h=>cases h
   |_::_::_::_,[],h=>cases h
   |_::_::_::_,[_],h=>cases h
   |_::_::_::_,_::_::_,h=>cases h
  |IfExp t a b pos=>
   obtain⟨mt,c0,u,B,rfl⟩:=cg h;obtain⟨A,D,z,F,rfl⟩:=cg B;exact⟨λd=>yX ((l _ _ u).2.1 d) ((l _ _ z).1 d) ((l _ _ F).1 d),λd=>yY ((l _ _ u).2.1 d) ((l _ _ z).2.1 d) ((l _ _ F).2.1 d),rfl⟩
  |Subscript a s pos=>
   have a0:∀b,isSlice b=false->o2 (cL T n w N a) (cL T n w N b) (m2 az)=some m->lD X κ (.Subscript a b pos) m:=λb I h=>by
    obtain⟨A,D,u,z,rfl⟩:=cg h;refine cy (λd=>yO (by have:=G.hu;omega) (λo i=>?_) ((l _ _ u).1 d) ((l _ _ z).1 d)) rfl (λ_=>rfl)
    cases b<;>first|rfl | (cases I)
   cases s with
   |Slice lo K st p2=>
    cases st with
    |none=>
     obtain⟨A,e0,u,B,rfl⟩:=cg h;obtain⟨⟨nl,ml⟩,⟨nh,mh⟩,z,F,rfl⟩:=cg B;exact cy (λd=>yQ ((l _ _ u).1 d) (pA l z) (pA l F)) rfl (λ_=>rfl)
    |some e=>
     cases lo with
     |none=>
      cases K with
      |none=>
       exact nomatch (show(none:Option EM)=some m from h)
      |some _=>exact nomatch (show(none:Option EM)=some m from h)
     |some _=>exact nomatch (show(none:Option EM)=some m from h)
   |_=>exact a0 _ rfl h
  |List es pos=>
   obtain⟨P,u,rfl⟩:=cK h;exact cy (λd=>yH ((cB l u).1 d)) rfl (λ_=>rfl)
  |Tuple es j pos=>
   obtain⟨P,u,rfl⟩:=cK h;exact cy (λd=>yI ((cB l u).1 d)) rfl (λ_=>rfl)
  |Attribute o f pos=>
   replace h:(if dP o=true then o2 (T.fld.lookup f) (cL T n w N o) λCs m=>m1 (dn Cs f) m else none)=some m:=h
   split at h
   .rename_i I
    obtain⟨Cs,C,u,z,rfl⟩:=cg h;exact cy (λd=>zv (G.fld f Cs u) (dz I) ((l o C z).1 d)) rfl (λ_=>rfl)
   .cases h
  |Call f args L pos=>
   cases f with
   |Name x p=>
    cases L with
    |nil=>
     replace h:(match pw w (cL T n w N) x args with|some m=>some m|none=>jL T w N (cL T n w N) x args)=some m:=h
     cases K:pw w (cL T n w N) x args with
     |some m'=>
      rw[K]at h;cases h;exact zA G l K
     |none=>
      rw[K]at h;exact wA G l h
    |cons _ _=>cases h
   |Attribute o mm p1=>
    cases L with
    |nil=>
     replace h:(if (p1.endLine==pos.line&&dP o&&decide (args.length<20))=true then (match cL T n w N o,dq (cL T n w N) args with
   |some C,some P=>jK T mm args.length C P
   |_,_=>none)else none)=some m:=h
     split at h
     .rename_i R
      simp only[Bool.and_eq_true,decide_eq_true_eq]at R;split at h
      .rename_i C P u z
       exact cy (λd=>wy G R.1.2 R.1.1 R.2 ((l o C u).1 d) z l h) rfl (λ_=>rfl)
      .cases h
     .cases h
    |cons _ _=>cases h
   |_=>cases h
  |ListComp f0 gens scope pos=>
   cases hg:kq gens with
   |none=>exact kS hg h
   |some q=>
    obtain⟨x,px,iter,g0⟩:=q;obtain rfl:=mj hg;obtain⟨me,nc,mc,mi,h0,rfl,b1,b2,b3,b4,b5,b6⟩:=jn (λX w N e m G q=>ih X w N e m G q) G h
    exact cy (λd=>v9 G.calm b1 b4 (b5 d) b2 b3 b6) rfl (λ_=>rfl)
  |Dict ks M pos=>
   replace h:(if emptyDict ks M=true then some bE else none)=some m:=h
   split at h
   .rename_i hd
    cases h
    match ks,M,hd with
    |[],[],_=>exact cy (λd=>ui) rfl (λ_=>rfl)
   .cases h
  |_=>cases h
end
structure fK(X:Cx)(κ:Str->Addr->Prop)(T:bb)(k:Nat)(sc:Scope)(N:List Str):Prop extends GoodO X κ T k sc N where
 own:PassesOwn (model X.prog X.w) X.A X.env X.xe
 KA:∀x,vE sc x=true->T.fz.contains x=false->(X.fn x=true\/X.env.scope.names.lookup x=some .local)
 rV:N.Nodup
 kind:sc.kind=.function
 uL:T.xt=false->∀e s,¬ X.xe e s
def fv(f:Stmt->Option SM):List Stmt->Option SM
 |[]=>some aj
 |s::r=>o2 (f s) (fv f r) ag
def nK(f:Expr->Option EM)(b:Scope)(iter:Expr):Option IM:=match iter with
 |.Call (.Name g _) [a] [] _=>if g==("enumerate":Str)then (if yC b g then (f a).map lM else none)else gP f b iter
 |.Call (.Attribute o c d) [] [] e=>if c==("items":Str)&&d.endLine==e.line&&dP o then (f o).map eu else gP f b iter
 |_=>gP f b iter
def kT(T:bb)(a:Scope)(N:List Str)(x:Str):Option Nat:=if T.fz.contains x then none else oO a N x
def kU(T:bb)(a:Scope)(N:List Str)(nms:List (Str×Pos)):Option (List Nat):=if nms.any (λy=>T.fz.contains y.1)then none else kx a N nms
def qU(T:bb)(td:List Str)(k:Nat)(a:Scope)(N:List Str)(x:Str)(b:Pos)(e:Expr)(pos:Pos):Option SM:=match kT T a N x with
   |some i=>(match cL T k a N e with
    |some m=>if oP a x b e then (if pos.line==b.line then some (av i m)else none)else some (av i m)
    |none=>none)
   |none=>none
def qV(T:bb)(k:Nat)(a:Scope)(N:List Str)(es:List Expr)(e:Expr):Option SM:=match eH es with
   |some nms=>match kU T a N nms,cL T k a N e with
    |some b,some m=>if vJ e then some (qQ b m)else none
    |_,_=>none
   |none=>none
def jz(T:bb)(td:List Str)(k:Nat)(d:Scope)(N:List Str):Nat->Stmt->Option SM
 |0,_=>none
 |n+1,st=>match st with
  |.Return (some e) _=>some (match cL T k d N e with
   |some m=>bh m
   |none=>bO)
  |.Assign [.Name x h] e pos=>qU T td k d N x h e pos
  |.Assign [.Tuple es _ _] e _=>qV T k d N es e
  |.Assign [.Attribute o f _] e _=>if dP o&&!ku e then o2 (T.fld.lookup f) (o2 (cL T k d N o) (cL T k d N e) Prod.mk) λCs y=>en Cs f y.1 y.2 else none
  |.Assign [.Subscript o i _] e _=>if isSlice i then none else o2 (cL T k d N o) (o2 (cL T k d N i) (cL T k d N e) Prod.mk) λx y=>cz x y.1 y.2
  |.Expr e _=>if ku e then none else (cL T k d N e).map bH
  |.If c a b _=>o2 (cL T k d N c) (o2 (fv (jz T td k d N n) a) (fv (jz T td k d N n) b) Prod.mk) λx y=>cU x y.1 y.2
  |.While c b [] _=>o2 (cL T k d N c) (fv (jz T td k d N n) b) gM
  |.For (.Name x _) g b [] _=>if isSet g then none else o2 (kT T d N x) (o2 (gP (cL T k d N) d g) (fv (jz T td k d N n) b) Prod.mk) λi y=>cj (bX i) y.1 y.2
  |.For (.Tuple es _ _) g b [] _=>if isSet g then none else match eH es with
   |some nms=>o2 (kU T d N nms) (o2 (nK (cL T k d N) d g) (fv (jz T td k d N n) b) Prod.mk) λj y=>cj (dm j) y.1 y.2
   |none=>none
  |.Raise _ _ _=>some bO
  |.Try b (_::_) [] [] _=>if T.xt then none else fv (jz T td k d N n) b
  |_=>none
section
variable{X:Cx}{κ:Str->Addr->Prop}{Φ:gb}{T:bb}{td:List Str}{k:Nat}{sc:Scope}{N:List Str}{α α' gW α1:List Addr}{Z Z' Z0 Z1:Addr->Prop}{Ω ao:aD}{H H' H0 H1:Hp}
theorem zC{es:List Expr}{x1:Nat}{j p pos:Pos}{a:Expr}{m:EM}(hg:Gl X "enumerate")(hm:X.mg "enumerate"=none)(O:starEach [a] X.env=[(false,eval a X.env)])(ha:bz X κ Φ a m) :
  uF X κ Φ (.Tuple es x1 j) (.Call (.Name "enumerate" p) [a] [] pos) (lM m):=by
 intro r Z0 H0 ρ Ω;refine PI.imp (yx hg hm (eR (ha r Z0 H0 ρ Ω) mR O) O) ?_;rintro σ H R ⟨α,Z,S,g⟩;refine⟨α,Z,S,pR.use g λx s _ v H1 t Z1 g1 l P n=>?_⟩
 have u:∀{b:List Addr}{h:Addr->Prop}{c:aD}{f:Hp}{i:Nat}{v:V}{q:D},bR κ b h c f->au b h f q v->∀p,f p=none->∃z,cO b h f b z (upd f p (.tup [.int i,v]))/\bR κ b z c (upd f p (.tup [.int i,v]))/\au b z (upd f p (.tup [.int i,v])) (.tup [.int (0+i:Nat),q]) (.ref p):=λ{b h c f i v q} k A p B=>by
  obtain⟨Q,C⟩:=k.rW (p:=p) (o:=.tup [.int i,v]) B True;simp only[if_true]at Q C;refine⟨Zp h p,C,Q,?_⟩;simp only[au];refine⟨p,_,rfl,.inr rfl,ba,cA.mpr (.cons ?_ (.one (k.dA C A)))⟩;simp only[au];simp
 cases E:de s x with
 |none=>simp only[E]at n;exact n.elim
 |some a0=>
  simp only[E]at n;have F:=P;obtain⟨a,G,rfl,q1,q2⟩:=bJ l P E;refine⟨a,rfl,⟨G,jv q1⟩,n _ H1 t Z1 (cO.refl l.has) l ?_⟩;intro b h c f ds g2 k I;obtain⟨J,h2,rfl⟩:=cK I;have r2:=l.dA g2 F;obtain⟨a',K,e,L,T⟩:=bJ k r2 h2;cases e;refine⟨λi d hd=>?_,λi U=>by rw[ip]at U;exact⟨K,jv L,by rw[T.length];exact U⟩⟩
  obtain⟨q,M,rfl⟩:=jG J 0 i d hd;obtain⟨v,Y,A⟩:=T.get M;refine⟨⟨K,v,jv L,Y⟩,λy H3 N=>?_⟩
  obtain⟨p,rfl,B,N⟩:=N;obtain⟨w,hw,rfl⟩:=N K (jv L);rw[Y]at hw;cases hw
  exact u k A p B
theorem uq{es:List Expr}{y:Nat}{h r s:Pos}{a:Expr}{m:EM}(z:dP a=true)(A:(r.endLine==s.line)=true)(e:bz X κ Φ a m) :
  uF X κ Φ (.Tuple es y h) (.Call (.Attribute a "items" r) [] [] s) (eu m):=by
 intro n B C D E;refine PI.imp (vS (dz z) A (e n B C D E)) ?_;rintro O H R ⟨F,Z,S,g⟩;refine⟨F,Z,S,pR.use g λx G _ v P I Q T i t f=>?_⟩
 unfold sh at f;split at f
 .rename_i k
  simp only[au]at t;obtain⟨a,e,rfl⟩:=t;split at f
  .rename_i j p
   obtain⟨J,d,b,l,w⟩:=i.cell p;rw[e]at d;cases d
   refine⟨a,b,rfl,.inl ⟨l,λo=>?_⟩⟩
   obtain⟨K,L⟩:=i.put (c:=.dF j) (o:=.dr o (.dK b)) e (λo u q=>by rw[l]at q;cases q) λR M=>⟨o,b,ba,w.imp M⟩
   exact f _ _ _ _ L K (mB e ba)
  .rename_i j p
   obtain⟨J,d,N,b,l,w⟩:=i.cell p;rw[e]at d;cases d
   exact⟨a,b,rfl,.inr ⟨N,l,f _ _ _ _ (cO.refl i.has) i (mB e l)⟩⟩
  .exact f.elim
 .exact f.elim
theorem zD{body:List Stmt}{d:ExceptHandler}{g:List ExceptHandler}{pos:Pos}{b:SM}(i:∀e s,¬ X.xe e s)(j:lN X κ Φ body b):pj X κ Φ (.Try body (d::g) [] [] pos) b:=by
 intro a k l m n pins s o H D I h;refine wpAny_Try_except (wpAny_mono (j a k l m n pins s o H D I h) (λf c q=>?_) λe c q=>absurd q (i e c))
 cases f with
 |next=>exact wpAny_execs_nil q
 |_=>exact q
theorem zE(G:GoodO X κ T k sc N){f:Expr->Option EM}(b:∀e m,f e=some m->lD X κ e m){iter:Expr}{mi:IM}(h:nK f sc iter=some mi){es:List Expr}{j:Nat}{l:Pos}:∀Φ,uF X κ Φ (.Tuple es j l) iter mi:=by
 intro Φ;unfold nK at h;split at h
 .rename_i g p a n
  split at h
  .rename_i q
   obtain rfl:=eq_of_beq q;split at h
   .rename_i c
    obtain⟨d,e,rfl⟩:=cK h;obtain⟨i,_,r⟩:=b a d e;exact zC (G.gl c) (G.eP _ (by decide)) (by rw[cD r];rfl) (i Φ)
   .cases h
  .exact kR G b h Φ _
 .rename_i o u i w
  split at h
  .rename_i c
   simp only[Bool.and_eq_true,beq_iff_eq]at c;obtain⟨⟨rfl,s⟩,t⟩:=c;obtain⟨d,e,rfl⟩:=cK h;exact uq t (by simpa using s) ((b o d e).1 Φ)
  .exact kR G b h Φ _
 .exact kR G b h Φ _
theorem ur(G:fK X κ T k sc N){x:Str}{i:Nat}(h:oO sc N x=some i):X.N[i]?=some x/\Loc X.env.scope x:=by
 unfold oO at h;split at h
 .rename_i b
  simp only[Bool.and_eq_true]at b;refine⟨by rw[G.names];exact vH h,?_⟩
  rw[G.scope];have a:=b.1;unfold vE at a;unfold L2.Loc;split at a
  .rename_i q;exact .inl q
  .rename_i q;exact .inr q
  .cases a
 .cases h
theorem iA{f:Stmt->Option SM}(e:∀s c,f s=some c->pj X κ Φ s c):∀{d:List Stmt}{c:SM},fv f d=some c->lN X κ Φ d c
 |[],c,h=>by cases h;exact zp
 |s::d,c,h=>by
  obtain⟨a,b,h1,h2,rfl⟩:=cg h;exact v_ (e s a h1) (iA e h2)
theorem iW(G:fK X κ T k sc N){x:Str}{i:Nat}(h:kT T sc N x=some i):X.N[i]?=some x/\Loc X.env.scope x/\(X.fn x=true\/X.env.scope.names.lookup x=some .local):=by
 unfold kT at h;split at h
 .cases h
 .rename_i d
  obtain⟨a,b⟩:=ur G h;refine⟨a,b,G.KA x ?_ (by simpa using d)⟩
  unfold oO at h;split at h
  .rename_i c;simp only[Bool.and_eq_true]at c;exact c.1
  .cases h
theorem kW(G:fK X κ T k sc N):∀{nms:List (Str×Pos)}{a:List Nat},(∀y∈nms,T.fz.contains y.1=false)->kx sc N nms=some a->a.length=nms.length/\∀(j i:Nat) (x:Str×Pos),a[j]?=some i->nms[j]?=some x->X.N[i]?=some x.1/\Loc X.env.scope x.1/\(X.fn x.1=true\/X.env.scope.names.lookup x.1=some .local)
 |[],a,_,h=>by cases h;exact⟨rfl,λj i x e=>by simp at e⟩
 |x::xs,a,d,h=>by
  simp only[kx,Option.bind_eq_bind]at h;obtain⟨i,h1,h⟩:=Option.bind_eq_some_iff.mp h;obtain⟨f,g,h⟩:=Option.bind_eq_some_iff.mp h;cases h;obtain⟨l,m⟩:=kW G (λy n=>d y (by simp[n])) g
  refine⟨by rw[List.length_cons,List.length_cons,l],λj o y b c=>?_⟩
  cases j with
  |zero=>
   simp at b c;subst b c
   exact iW G (by unfold kT;rw[if_neg (by rw[d x (by simp)];simp)];exact h1)
  |succ j=>exact m j o y (by simpa using b) (by simpa using c)
theorem pB(G:fK X κ T k sc N){es:List Expr}{j:Nat}{p:Pos}{nms:List (Str×Pos)}{a:List Nat}(e:eH es=some nms)(c:kU T sc N nms=some a):PG X (.Tuple es j p) (xS X.K a.length (iP a)):=by
 obtain rfl:=jj e
 have b:(∀y∈nms,T.fz.contains y.1=false)/\kx sc N nms=some a:=by
  unfold kU at c;split at c
  .cases c
  .rename_i f
   refine⟨λy g=>?_,c⟩
   cases q:T.fz.contains y.1 with
   |false=>rfl
   |true=>exact absurd (List.any_eq_true.mpr ⟨y,g,q⟩) f
 obtain⟨d,h⟩:=kW G b.1 b.2;obtain⟨i,l⟩:=mn X.env nms;exact BC G.calm (l_ (nms:=nms) (by rw[G.names];exact G.rV) a nms d h) (by rw[i,d]) l
theorem pC{a:Expr}{gens:List Comprehension}{scope:Scope}{p b:Pos}{x:Str}{l:Nat}(G:fK X κ T k sc N) :
  swapsWith (.ListComp a gens scope p) (some (.Name x b)) l X.env=pure (oP sc x b (.ListComp a gens scope p)):=by
 have c:X.env.blockKind=.function:=by
  show(if X.env.scope.kind.isAnnotationScope=true then ScopeKind.function else X.env.scope.kind)=_
  rw[G.scope,G.kind];rfl
 show pure (X.env.blockKind==.function&&X.env.kindOf x==some .local&&b.line==p.line&&!(scope.names.any λ(n,k)=>n==x&&(k==.local||k==.cell)))=_
 rw[c]
 show pure (true&&X.env.scope.names.lookup x==some .local&&b.line==p.line&&!(scope.names.any λ(n,k)=>n==x&&(k==.local||k==.cell)))=_
 rw[G.scope];rfl
theorem sE(G:fK X κ T k sc N){n i:Nat}{x:Str}{a pos:Pos}{e:Expr}{m:EM}(j:kT T sc N x=some i)(h:cL T n sc N e=some m)(l:oP sc x a e=true->pos.line=a.line):pj X κ Φ (.Assign [.Name x a] e pos) (av i m):=by
 obtain⟨d,o,r⟩:=iW G j;have f:X.N.Nodup:=by rw[G.names];exact G.rV
 have E:=qT n X sc N e m G.toGoodO h;have plain:swapsWith e (some (.Name x a)) pos.line X.env=pure false->pj X κ Φ (.Assign [.Name x a] e pos) (av i m):=λq=>zr f d o r q (E.1 Φ)
 cases e with
 |ListComp c gens scope p=>
  cases b:oP sc x a (.ListComp c gens scope p)with
  |false=>exact plain (by rw[pC G,b])
  |true=>
   cases n with
   |zero=>cases h
   |succ n=>
   cases g:kq gens with
   |none=>exact kS g h
   |some q=>
    obtain⟨y,D,iter,s⟩:=q;obtain rfl:=mj g;obtain⟨F,H,I,J,cap,rfl,t,u,w,z,A,B⟩:=jn (λX sc N e m G q=>qT n X sc N e m G q) G.toGoodO h
    have C:X.env.scope.names.lookup x=some .local:=by
     rw[G.scope];unfold oP at b;simp only[Bool.and_eq_true,beq_iff_eq]at b;exact b.1.1
    exact wa f d C (by rw[pC G,b]) G.calm t z (jh 1 (by decide)) (kM (cap:=cap) (A Φ) u w B) (l b)
 |SetComp=>cases n<;>cases h
 |DictComp=>cases n<;>cases h
 |_=>exact plain rfl
theorem wB{e:Expr}{t:Option Expr}{l:Nat}{env:Env}(h:ku e=false):swapsWith e t l env=pure false:=by
 cases e<;>first|rfl | (cases h)
theorem zF{e o i:Expr}{p:Pos}{l:Nat}{env:Env}:swapsWith e (some (.Subscript o i p)) l env=pure false:=by
 cases e<;>rfl
theorem sF(G:fK X κ T k sc N):∀(n:Nat) (d:Nat) (st:Stmt) (c:SM),jz T td d sc N n st=some c->pj X κ Φ st c:=by
 intro n d;have E:∀e m,cL T d sc N e=some m->lD X κ e m:=λe m q=>qT d X sc N e m G.toGoodO q
 induction n with
 |zero=>intro st c h;cases h
 |succ n S=>
  intro st c h;have B:∀H c,fv (jz T td d sc N n) H=some c->lN X κ Φ H c:=λH c q=>iA S q
  have U:X.N.Nodup:=by rw[G.names];exact G.rV
  cases st with
  |Return v l=>
   cases v with
   |none=>cases h
   |some e=>
    replace h:some (match cL T d sc N e with
   |some m=>bh m
   |none=>bO)=some c:=h
    cases h;split
    .rename_i m g
     exact zq ((E e m g).1 Φ)
    .exact mD
  |Assign V e l=>
   cases V with
   |nil=>cases h
   |cons t r=>
   cases r with
   |cons t2 r=>cases t<;>cases h
   |nil=>
   cases t with
   |Name x O=>
    replace h:qU T td d sc N x O e l=some c:=h;unfold qU at h;split at h
    .rename_i i P
     .split at h
      .rename_i m Q
       split at h
       .split at h
        .rename_i u Y
         cases h;exact sE G P Q λ_=>eq_of_beq Y
        .cases h
       .rename_i u
        cases h;exact sE G P Q λq=>absurd q u
      .cases h
    .cases h
   |Tuple I j p=>
    replace h:qV T d sc N I e=some c:=h;unfold qV at h;split at h
    .rename_i nms J
     split at h
     .rename_i D m g s
      split at h
      .rename_i Z
       cases h;exact zu (pB G J g) Z ((E e m s).1 Φ)
      .cases h
     .cases h
    .cases h
   |Attribute o f p=>
    replace h:(if (dP o&&!ku e)=true then o2 (T.fld.lookup f) (o2 (cL T d sc N o) (cL T d sc N e) Prod.mk) λK y=>en K f y.1 y.2 else none)=some c:=h
    split at h
    .rename_i C
     simp only[Bool.and_eq_true,Bool.not_eq_true']at C;obtain⟨K,y,g,s,rfl⟩:=cg h;obtain⟨mo,L,w,z,rfl⟩:=cg s;exact zx (G.fld f K g) (wB C.2) ((E o mo w).1 Φ) ((E e L z).1 Φ)
    .cases h
   |Subscript o i p=>
    replace h:(if isSlice i=true then none else o2 (cL T d sc N o) (o2 (cL T d sc N i) (cL T d sc N e) Prod.mk) λx y=>cz x y.1 y.2)=some c:=h
    split at h
    .cases h
    .rename_i C
     obtain⟨md,y,g,s,rfl⟩:=cg h;obtain⟨mk,L,w,z,rfl⟩:=cg s;exact wo (by have:=G.hu;omega) ((E o md g).1 Φ) ((E i mk w).1 Φ) ((E e L z).1 Φ) (zF)
   |_=>cases h
  |Expr e l=>
   replace h:(if ku e=true then none else (cL T d sc N e).map bH)=some c:=h
   split at h
   .cases h
   .rename_i C
    obtain⟨m,g,rfl⟩:=cK h;exact zt (wB (by simpa using C)) ((E e m g).1 Φ)
  |If M a b l=>
   obtain⟨m,y,g,s,rfl⟩:=cg h;obtain⟨ca,A,w,z,rfl⟩:=cg s;exact Cv ((E M m g).2.1 Φ) (B a ca w) (B b A z)
  |While M b e l=>
   cases e with
   |nil=>
    obtain⟨m,A,g,s,rfl⟩:=cg h;exact uf G.own ((E M m g).2.1 Φ) (B b A s)
   |cons _ _=>cases h
  |For R F b e l=>
   cases e with
   |nil=>
    cases R with
    |Name x O=>
     replace h:(if isSet F=true then none else o2 (kT T sc N x) (o2 (gP (cL T d sc N) sc F) (fv (jz T td d sc N n) b) Prod.mk) λi y=>cj (bX i) y.1 y.2)=some c:=h
     split at h
     .cases h
     .rename_i u
      obtain⟨i,y,g,s,rfl⟩:=cg h;obtain⟨mi,A,w,z,rfl⟩:=cg s;obtain⟨s1,s2,s3⟩:=iW G g;exact sm G.own G.calm (kR G.toGoodO E w Φ _) (mM U s1 s2 s3) (Cw i) (B b A z) (kr (by simpa using u))
    |Tuple I j p=>
     replace h:(if isSet F=true then none else match eH I with
   |some nms=>o2 (kU T sc N nms) (o2 (nK (cL T d sc N) sc F) (fv (jz T td d sc N n) b) Prod.mk) λD y=>cj (dm D) y.1 y.2
   |none=>none)=some c:=h
     split at h
     .cases h
     .rename_i u
      split at h
      .rename_i nms J
       obtain⟨D,y,g,s,rfl⟩:=cg h;obtain⟨mi,A,w,z,rfl⟩:=cg s;exact sm G.own G.calm (zE G.toGoodO E w Φ) (pB G J g) (wc D) (B b A z) (kr (by simpa using u))
      .cases h
    |_=>cases h
   |cons _ _=>cases R<;>cases h
  |Raise _ _ _=>cases h;exact mD
  |Try b u oe fi l=>
   match u,oe,fi,h with
   |h0::u,[],[],h=>
    replace h:(if T.xt then none else fv (jz T td d sc N n) b)=some c:=h
    split at h
    .cases h
    .rename_i hx
     exact zD (G.uL (by simpa using hx)) (B b c h)
   |[],_,_,h=>cases h
   |_::_,_::_,_,h=>cases h
   |_::_,[],_::_,h=>cases h
  |_=>cases h
def eQ(mg:Str->Option Value):Str->Addr->Prop:=λC a=>mg C=some (.ref a)
structure bu(P:Program)(w:World)(K:PySem.W.Frag)(mg:Str->Option Value)(base:Heap)(T:bb)(k:Nat):Prop where
 eP:∀x∈eg,mg x=none
 lC:∀x F,T.lC.lookup x=some F->∃(f:Addr) (fd:FuncData) (ps:List Str),mg x=some (.ref f)/\PySem.W.keepIn K (.ref f)=true/\Binds K fd ps []/\dc P w K mg base jE k f fd ps (km F)
 fn:∀x F,T.fn.lookup x=some F->∃(f:Addr) (fd:FuncData) (ps:List Str),mg x=some (.ref f)/\PySem.W.keepIn K (.ref f)=true/\Binds K fd ps []/\dc P w K mg base jE k f fd ps (dX (eQ mg) F)
 cst:∀x d,T.cst.lookup x=some d->∃v u,mg x=some u/\RelV v u/\fh d=some v
 met:∀m C F,(m,C,F)∈T.met->∃(Ca f:Addr) (fd:FuncData) (ps:List Str),Bb P w K mg base (eQ mg) k C m F Ca f fd ps
 cls:∀C F,T.cls.lookup C=some F->∃j,j+1<=k/\∃(Ca f:Addr) (fd:FuncData) (ps:List Str),eQ mg C Ca/\Mk K Ca f/\mg C=some (.ref Ca)/\Binds K fd ps []/\dc P w K mg base jE j f fd ps (dX (eQ mg) F)
 fld:∀f Cs,T.fld.lookup f=some Cs->iT K (eQ mg) Cs f
 clo:∀j F,T.clo[j]?=some F->pv P w K mg base (eQ mg) k j F
def ck(T:bb)(td:List Str)(st:Stmt)(N:List Str):Option SM:=fv (jz T td 60 (aw st) N 30) (bC st)
end
section
variable{P:Program}{w:World}{K:PySem.W.Frag}{mg:Str->Option Value}{base:Heap}{T:bb}{k:Nat}
theorem bf(W:bu P w K mg base T k){x qual:Str}{st:Stmt}{f:Addr}{t:FuncData}(F:B_ K x qual st f t){N ps td:List Str}{c:SM}(u:bW N ps (aw st)=true)(D:ck T td st N=some c) :
    dc P w K mg base jE (k+1) f t ps (dX (eQ mg) (bS N.length ps.length c)):=by
  refine F.ok (nq u) (λI H Q E h=>?_) λn A outer s H I Q E J h=>?_
  · obtain⟨e,Z,i,l,S,r,g⟩:=h
    rw[r.length];unfold bS at g;split at g
    · rename_i L;exact L
    · exact g.elim
  · obtain⟨e,Z,i,l,S,r,g⟩:=h
    have y:=nq u
    have G:fK (ov jE P w K mg base N qual (aw st) f n A outer s H E).uL (eQ mg) T k (aw st) N:=
      { scope:=rfl,names:=rfl,calm:=rfl,room:=J,eP:=W.eP,own:=PassesOwn.never,KA:=λ_ _ _=>.inl rfl,rV:=y.nd,kind:=y.kind,uL:=λ_ _ _ h=>h,fld:=W.fld,cst:=W.cst
        lC:=λx F h=>⟨W.lC x F h⟩,fn:=λx F h=>⟨W.fn x F h⟩,met:=λm C F h=>⟨W.met m C F h⟩,cls:=λC F h=>let ⟨j,M,O⟩:=W.cls C F h;⟨j,M,⟨O⟩⟩,clo:=W.clo }
    refine⟨Fu (eQ mg) pf e Z H c (aZ N.length l) i,iA (sF G 30 60) D e Z H (aZ N.length l) i,e,Z,kO S r,?_⟩;unfold bS at g;split at g
    · cases q:c (aZ N.length l) i with
      |rt d a=>rw[q]at g;exact λv o b p R st r=>g v o b p R st r
      |nx z a=>rw[q]at g;exact λU o b p B=>g .non o b p B.gr B.st (a_ rfl)
      |bk z a=>rw[q]at g;exact g.elim
      |ct z a=>rw[q]at g;exact g.elim
      |exc x a=>rw[q]at g;exact g
      |bad=>rw[q]at g;exact g.elim
    · exact g.elim
theorem zG{F:aV}{ao:aD}{H:Hp}{a:Addr}{ns:List Int}{κ:Str->Addr->Prop}(c:Rd H a (.lst (ns.map V.int)))(h:F [.lst (ns.map D.int)] []=.ok (.bl true) ao):dX κ F [.ref a] H (λv _=>v=.bl true) E0:=by
 refine⟨[],λb=>b=a,[],[.lst (ns.map D.int)],⟨List.nodup_nil,.nil,λ_ h=>by simp at h,λb e=>?_⟩,.one ?_,?_⟩
 .subst e
  rcases c with e|⟨o,e⟩<;>rw[e]<;>simp
 .simp only[au]
  refine⟨a,ns.map V.int,rfl,rfl,c,?_⟩;clear h c
  induction ns with
  |nil=>exact cA.mpr .nil
  |cons n ns d=>exact cA.mpr (.cons (by simp only[au]) (cA.mp d))
 .rw[h]
  intro v i f j g s r;simpa only [au]using r
theorem bu.mono(W:bu P w K mg base T k){j:Nat}(h:k<=j):bu P w K mg base T j:=
 ⟨W.eP,λx F q=>let ⟨f,i,l,a,b,c,d⟩:=W.lC x F q;⟨f,i,l,a,b,c,d.mono h⟩,λx F q=>let ⟨f,i,l,a,b,c,d⟩:=W.fn x F q;⟨f,i,l,a,b,c,d.mono h⟩,W.cst,
  λm C F q=>let ⟨o,f,i,l,a,b,c,p,n,r,F1,d,d1,d2,e,g⟩:=W.met m C F q;⟨o,f,i,l,a,b,c,p,n,r,F1,d,d1,d2,e.mono h,g⟩,λC F q=>let ⟨s,t,u⟩:=W.cls C F q;⟨s,Nat.le_trans t h,u⟩,W.fld,λj F q=>(W.clo j F q).mono h⟩
end
noncomputable def bb.uu(T:bb)(x:Str)(F:List D->Out Rs):bb:={T with lC:=(x,F)::T.lC}
noncomputable def bb.df(T:bb)(x:Str)(F:aV):bb:={T with fn:=(x,F)::T.fn}
noncomputable def bb.eB(T:bb)(C m:Str)(F:aV):bb:={T with met:=(m,C,F)::T.met}
noncomputable def bb.zH(T:bb)(C:Str)(F:aV):bb:={T with cls:=(C,F)::T.cls}
def bb.uv(T:bb)(f:Str)(Cs:List Str):bb:={T with fld:=(f,Cs)::T.fld}
noncomputable def bb.lQ(T:bb)(x:Str)(d:D):bb:={T with cst:=(x,d)::T.cst}
theorem fw{a:Type}{x y:Str}{F G:a}{l:List (Str×a)}(h:((x,F)::l).lookup y=some G):(y=x/\G=F)\/l.lookup y=some G:=by
 rw[List.lookup_cons]at h;cases e:y==x with
 |true=>rw[e]at h;cases h;exact .inl ⟨eq_of_beq e,rfl⟩
 |false=>rw[e]at h;exact .inr h
section
variable{P:Program}{w:World}{K:PySem.W.Frag}{mg:Str->Option Value}{base:Heap}{T:bb}{k:Nat}
theorem bu.start(a:∀x∈eg,mg x=none):bu P w K mg base {} 0:=
 ⟨a,λx F h=>(by cases h),λx F h=>(by cases h),λx d h=>(by cases h),λm C F h=>(by cases h),λC F h=>(by cases h),λf b h=>(by cases h),λj F h=>(by cases h)⟩
theorem bu.uu(W:bu P w K mg base T k){x:Str}{F:List D->Out Rs}{f:Addr}{a:FuncData}{ps:List Str}{j:Nat}(b:mg x=some (.ref f))(c:PySem.W.keepIn K (.ref f)=true)(d:Binds K a ps [])(h:dc P w K mg base jE j f a ps (km F))(e:j<=k) :
  bu P w K mg base (T.uu x F) k:=
 ⟨W.eP,λy G q=>by
  rcases fw q with ⟨rfl,rfl⟩|q
  .exact⟨f,a,ps,b,c,d,h.mono e⟩
  .exact W.lC y G q,W.fn,W.cst,W.met,W.cls,W.fld,W.clo⟩
theorem bu.df(W:bu P w K mg base T k){x:Str}{F:aV}{f:Addr}{b:FuncData}{ps:List Str}(c:mg x=some (.ref f))(d:PySem.W.keepIn K (.ref f)=true)(e:Binds K b ps [])(h:dc P w K mg base jE (k+1) f b ps (dX (eQ mg) F)) :
  bu P w K mg base (T.df x F) (k+1):=by
 have a:=W.mono (Nat.le_succ k)
 exact⟨a.eP,a.lC,λy G q=>by
  rcases fw q with ⟨rfl,rfl⟩|q
  .exact⟨f,b,ps,c,d,e,h⟩
  .exact a.fn y G q,a.cst,a.met,a.cls,a.fld,a.clo⟩
theorem bu.eB(W:bu P w K mg base T k){C m:Str}{F:aV}{c f:Addr}{e:FuncData}{ps:List Str}(g:mg C=some (.ref c))(i:ot K c)(M:Meth K c m f)(j:Binds K e ps [])(h:dc P w K mg base jE (k+1) f e ps (dX (eQ mg) F)) :
  bu P w K mg base (T.eB C m F) (k+1):=by
 have b:=W.mono (Nat.le_succ k)
 exact⟨b.eP,b.lC,b.fn,b.cst,λl n G q=>by
  rcases List.mem_cons.mp q with q|q
  .cases q
   refine⟨c,f,e,ps,λa d=>?_,i,M,[],[],[],F,j,.nil,λ_ _ _=>.nil,h,by funext o;rw[List.append_nil]⟩
   have d:mg C=some (.ref a):=d;rw[g]at d;cases d;rfl
  .exact b.met l n G q,b.cls,b.fld,b.clo⟩
theorem bu.Fz(W:bu P w K mg base T k){C m:Str}{F:aV}{d f:Addr}{g:FuncData}{ps:List Str}{ds:List Value}{c:List V}{Dd:List D}(i:mg C=some (.ref d))(j:ot K d)(M:Meth K d m f)(l:Binds K g ps ds)(n:Vals c ds)(o:∀p Z H,aI (au p Z H) Dd c)(h:dc P w K mg base jE (k+1) f g ps (dX (eQ mg) F)) :
  bu P w K mg base (T.eB C m λxs=>F (xs++Dd)) (k+1):=by
 have b:=W.mono (Nat.le_succ k)
 exact⟨b.eP,b.lC,b.fn,b.cst,λr s G q=>by
  rcases List.mem_cons.mp q with q|q
  .cases q
   refine⟨d,f,g,ps,λa e=>?_,j,M,ds,c,Dd,F,l,n,o,h,rfl⟩
   have e:mg C=some (.ref a):=e;rw[i]at e;cases e;rfl
  .exact b.met r s G q,b.cls,b.fld,b.clo⟩
theorem bu.zH(W:bu P w K mg base T k){C:Str}{F:aV}{b f:Addr}{c:FuncData}{ps:List Str}{j:Nat}(d:mg C=some (.ref b))(M:Mk K b f)(e:Binds K c ps [])(h:dc P w K mg base jE j f c ps (dX (eQ mg) F))(g:j<=k) :
  bu P w K mg base (T.zH C F) (k+1):=by
 have a:=W.mono (Nat.le_succ k)
 exact⟨a.eP,a.lC,a.fn,a.cst,a.met,λy G q=>by
  rcases fw q with ⟨rfl,rfl⟩|q
  .exact⟨j,by omega,b,f,c,ps,d,M,d,e,h⟩
  .exact a.cls y G q,a.fld,a.clo⟩
theorem bu.uv(W:bu P w K mg base T k){f:Str}{Cs:List Str}(h:iT K (eQ mg) Cs f):bu P w K mg base (T.uv f Cs) k:=
 ⟨W.eP,W.lC,W.fn,W.cst,W.met,W.cls,λy G q=>by
  rcases fw q with ⟨rfl,rfl⟩|q
  .exact h
  .exact W.fld y G q,W.clo⟩
theorem bu.lQ(W:bu P w K mg base T k){x:Str}{d:D}{v:V}{u:Value}(a:mg x=some u)(b:RelV v u)(c:fh d=some v):bu P w K mg base (T.lQ x d) k:=
 ⟨W.eP,W.lC,W.fn,λy G q=>by
  rcases fw q with ⟨rfl,rfl⟩|q
  .exact⟨v,u,a,b,c⟩
  .exact W.cst y G q,W.met,W.cls,W.fld,W.clo⟩
theorem plain1{C f:Str}{c:Addr}(g:mg C=some (.ref c))(h:ot K c)(n:PySem.W.findIn K (.ref c) f=some none):iT K (eQ mg) [C] f:=λe a d b=>by
 have d:e=C:=by simpa using d
 subst d;have b:mg e=some (.ref a):=b;rw[g]at b;cases b;exact⟨h,n⟩
end
def FA(F:aV):Sp:=λa H Q E=>∀b,dX b F a H Q E
end Mir
namespace Mir
open PySem PySem.Spec PyProof.Rows L2
def CF:D->Bool
 |.lst ds=>ds.all eS
 |d=>eS d
section
variable{α:List Addr}{Z Z1:Addr->Prop}{H H1:Hp}
theorem sG{d:D}{v:V}(a:eS d=true)(r:Rep Z H d v):au α Z1 H1 d v:=by
 cases d with
 |lst _=>cases a
 |tup _=>cases a
 |ref _=>cases a
 |dct _ _=>cases a
 |_=>simp only[Rep]at r;simp only[au];exact r
theorem uw{d:D}{v:V}(a:eS d=true)(r:au α Z1 H1 d v):Rep Z H d v:=by
 cases d with
 |lst _=>cases a
 |tup _=>cases a
 |ref _=>cases a
 |dct _ _=>cases a
 |_=>simp only[au]at r;simp only[Rep];exact r
theorem pD:∀{ds:List D}{vs:List V},ds.all eS=true->aY Z H ds vs->eh α Z1 H1 ds vs
 |[],vs,_,r=>by simp only[aY]at r;simp only[eh];exact r
 |d::ds,vs,h,r=>by
  simp only[List.all_cons,Bool.and_eq_true]at h;simp only[aY]at r;obtain⟨v,a,e,h1,h2⟩:=r;simp only[eh];exact⟨v,a,e,sG h.1 h1,pD h.2 h2⟩
theorem FC{d:D}{v:V}(h:CF d=true)(r:Rep Z H d v):au α Z H d v:=by
 cases d with
 |lst g=>
  simp only[Rep]at r;obtain⟨a,b,e,z,c,f⟩:=r;simp only[au];exact⟨a,b,e,z,c,pD h f⟩
 |tup _=>cases h
 |ref _=>cases h
 |dct _ _=>cases h
 |_=>exact sG rfl r
theorem wC:∀{ds:List D}{vs:List V},ds.all CF=true->aY Z H ds vs->aI (au α Z H) ds vs
 |[],vs,_,r=>by simp only[aY]at r;subst r;exact .nil
 |d::ds,vs,h,r=>by
  simp only[List.all_cons,Bool.and_eq_true]at h;simp only[aY]at r;obtain⟨v,a,rfl,h1,h2⟩:=r;exact .cons (FC h.1 h1) (wC h.2 h2)
end
variable [aH]
def pureOf(O:aV):List D->Out Rs:=λa=>if a.all CF=true then (match O a []with
  |.ok d _=>if eS d=true then .ok (false,d)else .bad
  |_=>.bad)else .bad
section
variable{P:Program}{w:World}{K:PySem.W.Frag}{mg:Str->Option Value}{base:Heap}{k:Nat}{f:Addr}{fd:FuncData}{ps:List Str}{O:aV}
theorem sH(h:dc P w K mg base jE k f fd ps (dX (eQ mg) O)):dc P w K mg base jE k f fd ps (km (pureOf O)):=h.imp λC H Q E q=>by
 obtain⟨Z,i,t,d,c,r,e,g⟩:=q;unfold pureOf at e
 by_cases j:i.all CF=true
 .rw[if_pos j]at e
  refine⟨[],Z,[],i,⟨List.nodup_nil,.nil,λa l=>by simp at l,c⟩,wC j r,?_⟩
  cases m:O i []with
  |exc x u=>rw[m]at e;cases e
  |bad=>rw[m]at e;cases e
  |ok d1 u=>
   rw[m]at e;dsimp only at e
   by_cases n:eS d1=true
   .rw[if_pos n]at e
    cases e;intro v y z D p F A;refine g v y Z ⟨λb o B=>p.frm b o B (by simp),λ_ h=>h,λ_ h=>.inl h,λa l=>?_⟩ (.rep (uw n A))
    cases s:H a with
    |none=>exact absurd s (c a l)
    |some o=>rw[p.frm a o s (by simp)];simp
   .rw[if_neg n]at e;cases e
 .rw[if_neg j]at e;cases e
end
end Mir
namespace Mir
open PySem
@[simp] theorem FD:ju .non=some false:=rfl
@[simp] theorem Iw{b:Bool}:ju (.bl b)=some b:=rfl
@[simp] theorem FE{i:Int}:ju (.int i)=some (i != 0):=rfl
@[simp] theorem FG{xs:List D}:ju (.lst xs)=some (!xs.isEmpty):=rfl
@[simp] theorem FH{xs:List D}:ju (.tup xs)=some (!xs.isEmpty):=rfl
section
variable{Γ:lJ}{ρ:yk}{a b:OM}{e:Ex}{i j:Nat}{bw:Bool}
end
section
variable{bw:Bool}{i:Nat}{a b c es:Ex}
end
section
variable{Γ:lJ}{ρ:yk}{bw:Bool}{i:Nat}{a b c es:Ex}
def yp(o:Bool)(f:List D->D):D->Out Rs
 |.tup ds=>if small ds.length=true then .ok (o,f ds)else .bad
 |_=>.bad
@[simp] theorem FI{o:Bool}{f:List D->D}{ds:List D}:yp o f (.tup ds)=if small ds.length=true then .ok (o,f ds)else .bad:=rfl
end
@[simp] theorem Iy{i j:Int}:ff .Add (.int i) (.int j)=.ok (false,.int (i+j)):=rfl
@[simp] theorem Iz{i j:Int}:ff .Sub (.int i) (.int j)=.ok (false,.int (i - j)):=rfl
@[simp] theorem ID{i j:Int}:ff .Mult (.int i) (.int j)=if (ke i||ke j)=true then .ok (false,.int (i*j))else .bad:=rfl
@[simp] theorem IE{i j:Int}:ff .FloorDiv (.int i) (.int j)=if (decide (0<j)&&decide (j<1073741824))=true then .ok (false,.int (i / j))else .bad:=rfl
@[simp] theorem IF{i j:Int}:ff .Mod (.int i) (.int j)=if decide (0<j)=true then .ok (false,.int (i%j))else .bad:=rfl
@[simp] theorem IG{i j:Int}:ff .Pow (.int i) (.int j)=if (decide (0<=j)&&decide (j<=1000)&&decide (i.natAbs<2 ^ 64))=true then .ok (false,.int (i ^ j.toNat))else .bad:=rfl
@[simp] theorem FJ{i j:Str}:ff .Add (.str i) (.str j)=if small (i.length+j.length)=true then .ok (false,.str (i++j))else .bad:=rfl
@[simp] theorem FK{i j:List D}:ff .Add (.lst i) (.lst j)=if small (i.length+j.length)=true then .ok (true,.lst (i++j))else .bad:=rfl
@[simp] theorem CG{x y:D}:dH .Eq x y=if (aL 8 x&&aL 8 y)=true then .ok (ey x y)else .bad:=rfl
@[simp] theorem wD{x y:D}:dH .NotEq x y=if (aL 8 x&&aL 8 y)=true then .ok (!ey x y)else .bad:=rfl
@[simp] theorem KC{i j:Int}:dH .Lt (.int i) (.int j)=.ok (decide (i<j)):=rfl
@[simp] theorem KD{i j:Int}:dH .LtE (.int i) (.int j)=.ok (decide (i<=j)):=rfl
@[simp] theorem cmp_gt{i j:Int}:dH .Gt (.int i) (.int j)=.ok (decide (j<i)):=rfl
@[simp] theorem KG{i j:Int}:dH .GtE (.int i) (.int j)=.ok (decide (j<=i)):=rfl
@[simp] theorem KH{x y:D}:dH .In x y=inD x y:=rfl
@[simp] theorem IH{x y:D}:dH .NotIn x y=inD x y >>= λb=>.ok (!b):=rfl
@[simp] theorem KI{x y:D}:dH .Is x y=isD x y:=rfl
@[simp] theorem II{x y:D}:dH .IsNot x y=isD x y >>= λb=>.ok (!b):=rfl
@[simp] theorem KJ{n:Nat}:aL n .non=true:=by cases n<;>rfl
@[simp] theorem OR{n:Nat}{b:Bool}:aL n (.bl b)=true:=by cases n<;>rfl
@[simp] theorem KL{n:Nat}{i:Int}:aL n (.int i)=true:=by cases n<;>rfl
@[simp] theorem KN{n:Nat}{x:Str}:aL n (.str x)=true:=by cases n<;>rfl
@[simp] theorem KO{n:Nat}{xs:List D}:aL (n+1) (.lst xs)=xs.all (aL n):=rfl
@[simp] theorem KP{n:Nat}{xs:List D}:aL (n+1) (.tup xs)=xs.all (aL n):=rfl
@[simp] theorem eq_int{i j:Int}:ey (.int i) (.int j)=(i==j):=rfl
@[simp] theorem OS{i j:Bool}:ey (.bl i) (.bl j)=(i==j):=rfl
@[simp] theorem eq_str{i j:Str}:ey (.str i) (.str j)=(i==j):=rfl
@[simp] theorem KQ{i j:List D}:ey (.lst i) (.lst j)=ez i j:=rfl
@[simp] theorem KR{i j:List D}:ey (.tup i) (.tup j)=ez i j:=rfl
@[simp] theorem IJ:ez [] []=true:=rfl
@[simp] theorem pE{x y:D}{xs a:List D}:ez (x::xs) (y::a)=(ey x y&&ez xs a):=rfl
@[simp] theorem KS{y:D}{a:List D}:ez [] (y::a)=false:=rfl
@[simp] theorem KU{y:D}{a:List D}:ez (y::a) []=false:=rfl
theorem zI{z:Str}{i:Int}{c:Nat}(h:small z.length=true)(e:L2.jD z.cps.toList i=some c):qo (.str z) (.int i)=.ok (false,.str (bF c)):=by
 simp only[qo,h,if_pos,e]
@[simp] theorem IK{xs:List D}{l h:Option Int}:vf (.lst xs) l h=.ok (true,.lst (du xs l h)):=rfl
@[simp] theorem IL{z:Str}{l h:Option Int}:vf (.str z) l h=if small z.length=true then .ok (false,.str ⟨(du z.cps.toList l h).toArray⟩)else .bad:=rfl
@[simp] theorem IP{xs:List D}:gT .len (.tup [.lst xs])=.ok (false,.int xs.length):=rfl
@[simp] theorem IQ{xs:List D}:gT .len (.tup [.tup xs])=.ok (false,.int xs.length):=rfl
@[simp] theorem len_str{z:Str}:gT .len (.tup [.str z])=if small z.length=true then .ok (false,.int z.length)else .bad:=rfl
def wF(f:List Bool->Bool):Option (List Bool)->Out Rs
 |some bs=>.ok (false,.bl (f bs))
 |none=>.bad
@[simp] theorem Eb{f:List Bool->Bool}{bs:List Bool}:wF f (some bs)=.ok (false,.bl (f bs)):=rfl
@[simp] theorem IS{xs:List D}:gT .all (.tup [.lst xs])=wF (λbs=>bs.all id) (fg xs):=rfl
@[simp] theorem IT{xs:List D}:gT .any (.tup [.lst xs])=wF (λbs=>bs.any id) (fg xs):=rfl
@[simp] theorem FL{xs:List D}:gT .list (.tup [.lst xs])=.ok (true,.lst xs):=rfl
@[simp] theorem FN{xs:List D}:gT .list (.tup [.tup xs])=.ok (true,.lst xs):=rfl
@[simp] theorem Ec{xs:List D}:gT .tuple (.tup [.lst xs])=.ok (false,.tup xs):=rfl
@[simp] theorem Ed{xs:List D}:gT .tuple (.tup [.tup xs])=.ok (false,.tup xs):=rfl
@[simp] theorem int_int{i:Int}:gT .int (.tup [.int i])=.ok (false,.int i):=rfl
@[simp] theorem KW{k:Bool}:gT .int (.tup [.bl k])=.ok (false,.int (if k then 1 else 0)):=rfl
@[simp] theorem IU{i j:Int}:gT .min (.tup [.int i,.int j])=.ok (false,.int (if j<i then j else i)):=rfl
@[simp] theorem IV{i j:Int}:gT .max (.tup [.int i,.int j])=.ok (false,.int (if j>i then j else i)):=rfl
@[simp] theorem KY{t:Ty}:vh .non t=some false:=rfl
@[simp] theorem OT{t:Ty}{b:Bool}:vh (.bl b) t=some (t==.bool||t==.int):=rfl
@[simp] theorem ty_int{t:Ty}{i:Int}:vh (.int i) t=some (t==.int):=rfl
@[simp] theorem ty_str{t:Ty}{x:Str}:vh (.str x) t=some (t==.str):=rfl
@[simp] theorem KZ{t:Ty}{xs:List D}:vh (.lst xs) t=some (t==.list):=rfl
@[simp] theorem K9{t:Ty}{xs:List D}:vh (.tup xs) t=some (t==.tuple):=rfl
@[simp] theorem K_{t:Ty}{a:List L2.Key}{xs:List D}:vh (.dct a xs) t=some (t==.dict):=rfl
theorem aF{n:Nat}(h:n<=100000):small n=true:=by
 unfold small;rw[decide_eq_true_eq,sizeLine_eq];omega
theorem iB{i:Int}(a : -(2 ^ 64)<i)(b:i<2 ^ 64):ke i=true:=decide_eq_true (by omega)
theorem ec{i:Int}(a : -(2 ^ 62)<i)(b:i<2 ^ 62):lI i=true:=decide_eq_true (by omega)
theorem CH{b:Type}{xs:List b}{i:Int}(c:0<=i)(d:i<xs.length):∃x,x∈xs/\L2.jD xs i=some x:=by
 have a:i.toNat<xs.length:=by omega
 refine⟨xs[i.toNat],List.getElem_mem a,?_⟩;have h:=L2.cQ (List.getElem?_eq_getElem a);rw[show(i.toNat:Int)=i by omega]at h
 exact h
@[simp] theorem in_str{x y:Str}:inD (.str x) (.str y)=.ok (rE x y):=rfl
theorem cR(n:Nat):∀a:Int,(intsFrom a n).length=n:=by
 induction n with
 |zero=>intro a;rfl
 |succ n b=>intro a;simp[intsFrom,b]
theorem dQ{n:Nat}:∀{a:Int}{i:Nat}{d:D},(intsFrom a n)[i]?=some d->d=.int (a+i)/\i<n:=by
 induction n with
 |zero=>intro a i d h;simp[intsFrom]at h
 |succ n b=>
  intro a i d h;cases i with
  |zero=>simp[intsFrom]at h;subst h;exact⟨by simp,by omega⟩
  |succ i=>
   simp[intsFrom]at h;obtain⟨c,e⟩:=b h;exact⟨by rw[c];congr 1;omega,by omega⟩
noncomputable def L1(xs:List Str):D:=.lst (xs.map .str)
def LL(rs:List (List Str)):D:=.lst (rs.map L1)
theorem qW{a:Type}(xs:List a)(k:Nat):du xs (some (k:Int)) none=xs.drop k:=by
 unfold du;rw[HT.ox,HT.jC];rcases Nat.le_total k xs.length with h|h
 .rw[Nat.min_eq_left h]
  exact List.take_of_length_le (by simp)
 .rw[Nat.min_eq_right h,List.drop_eq_nil_of_le (Nat.le_refl _),List.drop_eq_nil_of_le h];simp
theorem qX{a:Type}(xs:List a)(k:Nat):du xs none (some (k:Int))=xs.take k:=by
 unfold du;rw[HT.ox,HT.jC,List.drop_zero,Nat.sub_zero];rcases Nat.le_total k xs.length with h|h
 .rw[Nat.min_eq_left h]
 .rw[Nat.min_eq_right h,List.take_of_length_le (Nat.le_refl _),List.take_of_length_le h]
theorem wG{a:Type}(xs:List a)(k m:Nat):du xs (some (k:Int)) (some (m:Int))=(xs.drop k).take (m - k):=by
 unfold du;rw[HT.jC,HT.jC];rcases Nat.le_total k xs.length with h|h
 .rw[Nat.min_eq_left h]
  rcases Nat.le_total m xs.length with h' |h'
  .rw[Nat.min_eq_left h']
  .rw[Nat.min_eq_right h',List.take_of_length_le (by simp),List.take_of_length_le (by simp;omega)]
 .rw[Nat.min_eq_right h,List.drop_eq_nil_of_le (Nat.le_refl _),List.drop_eq_nil_of_le h];simp
@[simp] theorem OU{a:Type}(xs:List a):du xs (some 1) none=xs.tail:=by rw[show(1:Int)=((1:Nat):Int)from rfl,qW];simp
theorem sI(n:Nat)(xs:List Str):(xs.map D.str).all (aL n)=true:=by
 rw[List.all_eq_true];intro d a;obtain⟨x,_,rfl⟩:=List.mem_map.mp a;simp
theorem zJ(xs:List Str)(n:Str):((xs.map D.str).any λy=>ey y (.str n))=decide (n∈xs):=by
 induction xs with
 |nil=>rfl
 |cons x xs a=>
  simp only[List.map_cons,List.any_cons,a,eq_str,List.mem_cons]
  by_cases h:n=x
  .subst h;simp
  .have:(x==n)=false:=by simp;exact λe=>h e.symm
   simp[this,h]
theorem zK(xs:List Str)(n:Str):inD (.str n) (.lst (xs.map .str))=.ok (decide (n∈xs)):=by
 have:inD (.str n) (.lst (xs.map .str))=if aL 8 (.str n)&&(xs.map D.str).all (aL 8)then .ok ((xs.map D.str).any λy=>ey y (.str n))else .bad:=rfl
 rw[this,sI,zJ];simp
theorem nL(xs a:List Str):ez (xs.map .str) (a.map .str)=decide (xs=a):=by
 induction xs generalizing a with
 |nil=>cases a<;>simp
 |cons x xs b=>
  cases a with
  |nil=>simp
  |cons y a=>
   simp only[List.map_cons,pE,eq_str,b,List.cons.injEq]
   by_cases h:x=y
   .subst h;simp
   .simp[h]
theorem FO(xs a:List Str):ey (L1 xs) (L1 a)=decide (xs=a):=nL xs a
theorem pF(n:Nat)(xs:List Str):aL (n+1) (L1 xs)=true:=sI n xs
theorem Bd(n:Nat)(rs:List (List Str)):aL (n+2) (LL rs)=true:=by
 show(rs.map L1).all (aL (n+1))=true
 rw[List.all_eq_true];intro d a;obtain⟨x,_,rfl⟩:=List.mem_map.mp a;exact pF n x
theorem Be(rs a:List (List Str)):ey (LL rs) (LL a)=decide (rs=a):=by
 show ez (rs.map L1) (a.map L1)=_
 induction rs generalizing a with
 |nil=>cases a<;>simp
 |cons x c b=>
  cases a with
  |nil=>simp
  |cons y d=>
   simp only[List.map_cons,pE,FO,b,List.cons.injEq]
   by_cases h:x=y
   .subst h;simp
   .simp[h]
noncomputable def freeOf(rs:List (List Str)):List Str->Option Str
 |[]=>none
 |n::_=>if ∃t∈rs,n∈t.tail then none else some n
theorem dB{rs:List (List Str)}{n:Str}{r:List Str}(h:∃t∈rs,n∈t.tail):freeOf rs (n::r)=none:=if_pos h
theorem dC{rs:List (List Str)}{n:Str}{r:List Str}(h:¬ ∃t∈rs,n∈t.tail):freeOf rs (n::r)=some n:=if_neg h
def free(rs:List (List Str)):Option Str:=rs.findSome? (freeOf rs)
noncomputable def zL:Option Str->D
 |none=>.non
 |some n=>.str n
@[simp] theorem La{x:Str}:isD (.str x) .non=.ok false:=rfl
@[simp] theorem IW:isD .non .non=.ok true:=rfl
@[simp] theorem Lb{x:Int}:isD (.int x) .non=.ok false:=rfl
@[simp] theorem Lc{x:List D}:isD (.lst x) .non=.ok false:=rfl
noncomputable def cI(n:Str)(r:List Str):List Str:=if r.take 1=[n]then r.tail else r
inductive Mg:List (List Str)->List Str->Prop
 |done {rs}:(∀r∈rs,r=[])->Mg rs []
 |step {rs n o}:(∃r∈rs,r≠[])->free rs=some n->Mg (rs.map (cI n)) o->Mg rs (n::o)
theorem any_rows(rs:List (List Str)):fg (rs.map L1)=some (rs.map λr=>!r.isEmpty):=by
 induction rs with
 |nil=>rfl
 |cons r rs a=>
  simp only[List.map_cons,fg,a];simp[L1]
theorem any_true{rs:List (List Str)}(h:∃r∈rs,r≠[]):(rs.map λr=>!r.isEmpty).any id=true:=by
 obtain⟨r,a,b⟩:=h;rw[List.any_eq_true];exact⟨_,List.mem_map.mpr ⟨r,a,rfl⟩,by cases r<;>simp at b ⊢⟩
theorem any_false{rs:List (List Str)}(h:∀r∈rs,r=[]):(rs.map λr=>!r.isEmpty).any id=false:=by
 rw[List.any_eq_false];intro b a;obtain⟨r,c,rfl⟩:=List.mem_map.mp a;rw[h r c];simp
abbrev Fn:=List D->Out Rs
def gQ(a:Int->Int->Int->Int)(F:Fn):Prop:=∀c t m,0<=t->t<100000->0<m->0<=a c t m/\a c t m<m/\F [.int c,.int t,.int m]=.ok (false,.int (a c t m))
noncomputable def SC(ns:List Int):D:=.lst (ns.map .int)
def hF(κ:List Int->Nat->Int)(F:Fn):Prop:=∀a (k:Nat),F [SC a,.int k]=.ok (false,.int (κ a k))
theorem ints_map(a:Int)(n:Nat):intsFrom a n=(List.range n).map λ(i:Nat)=>D.int (a+i):=by
 apply List.ext_getElem?;intro i
 by_cases h:i<n
 .have b:i<(intsFrom a n).length:=by rw[cR];exact h
  have e:=(dQ (List.getElem?_eq_getElem b)).1;rw[List.getElem?_eq_getElem b,e];simp[h]
 .rw[List.getElem?_eq_none (by rw[cR];omega),List.getElem?_eq_none (by simp;omega)]
theorem gC(n:Nat):intsFrom 0 n=(List.range n).map λ(i:Nat)=>D.int i:=by
 rw[ints_map];congr 1;funext i;simp
noncomputable def abc:Str:="abcdefghijklmnopqrstuvwxyz"
theorem CI:∀q:Nat,q<26->abc.cps.toList[q]?=some (97+q):=by decide
theorem sJ{q:Int}(a:0<=q)(b:q<26):qo (.str abc) (.int q)=.ok (false,.str (bF (97+q.toNat))):=by
 refine zI (aF (by decide)) ?_
 have:=L2.cQ (CI q.toNat (by omega))
 rwa[show((q.toNat:Nat):Int)=q by omega]at this
noncomputable def bs(a:Int->Int->Int->Int)(c:Int):List D:=(List.range 8).map λ(i:Nat)=>.int (a c i 26)
section
variable{Γ:lJ}{M:Fn}{μ:Int->Int->Int->Int}{c:Int}{m:Nat}
end
theorem sL{rs:List (List Str)}{n:Str}(h:free rs=some n):(∃r∈rs,∃t,r=n::t)/\∀t∈rs,n∉t.tail:=by
 unfold free at h;obtain⟨r,b,e⟩:=List.exists_of_findSome?_eq_some h;cases r with
 |nil=>cases e
 |cons x t=>
  by_cases a:∃t∈rs,x∈t.tail
  .rw[dB a]at e;cases e
  .rw[dC a]at e
   cases e;exact⟨⟨_,b,t,rfl⟩,λt c d=>a ⟨t,c,d⟩⟩
theorem zM{n:Str}{rs:List (List Str)}(c:free rs=some n):∀r∈rs.map (cI n),n∉r:=by
 intro r d a;obtain⟨t,f,rfl⟩:=List.mem_map.mp d;have b:=(sL c).2 t f;unfold cI at a;split at a
 .exact b a
 .rename_i h
  cases t with
  |nil=>simp at a
  |cons x t=>
   rcases List.mem_cons.mp a with e|e
   .subst e;exact h (by simp)
   .exact b e
theorem wH{n x:Str}{r:List Str}(h:x∈cI n r):x∈r:=by
 unfold cI at h;split at h
 .exact List.mem_of_mem_tail h
 .exact h
theorem hJ{rs:List (List Str)}{o:List Str}(M:Mg rs o):∀x∈o,∃r∈rs,x∈r:=by
 induction M with
 |done h=>intro x a;simp at a
 |@step rs n o c d _ f=>
  intro x a;rcases List.mem_cons.mp a with e|e
  .subst e
   obtain⟨⟨r,b,t,rfl⟩,_⟩:=sL d;exact⟨_,b,by simp⟩
  .obtain⟨r,b,a⟩:=f x e
   obtain⟨t,g,rfl⟩:=List.mem_map.mp b;exact⟨t,g,wH a⟩
theorem kX{rs:List (List Str)}{o:List Str}(M:Mg rs o):o.Nodup:=by
 induction M with
 |done h=>exact List.nodup_nil
 |@step rs n o a b c d=>
  refine List.nodup_cons.mpr ⟨λh=>?_,d⟩
  obtain⟨r,e,f⟩:=hJ c n h;exact zM b r e f
section
variable{Γ:lJ}
noncomputable def behind(rs:List (List Str)):List Str:=rs.flatMap List.tail
end
@[simp] theorem IX{xs:List Str}:gT .list (.tup [L1 xs])=.ok (true,L1 xs):=rfl
@[simp] theorem IY{xs:List (List Str)}:gT .list (.tup [LL xs])=.ok (true,LL xs):=rfl
@[simp] theorem OV{xs:List Str}{n:Str}:inD (.str n) (L1 xs)=.ok (decide (n∈xs)):=zK xs n
@[simp] theorem OW{xs:List Str}{t:Ty}:vh (L1 xs) t=some (t==.list):=rfl
@[simp] theorem QK{n:Nat}{xs:List (List Str)}:aL (n+2) (LL xs)=true:=Bd n xs
@[simp] theorem QL{xs a:List (List Str)}:ey (LL xs) (LL a)=decide (xs=a):=Be xs a
@[simp] theorem OX{a b:Bool}:isD (.bl a) (.bl b)=.ok (a==b):=rfl
open L2
section
variable{α β:Type}{Ω ao:aD}{ρ:aR}{d x y:D}{ma mb mc mi:EM}{as:AM}{a b:SM}
@[simp] theorem ak{a:α}{f:α->aD->ay β}:(ay.ok a Ω).bind f=f a Ω:=rfl
@[simp] theorem Ld{f:α->aD->ay β}:(ay.exc x Ω:ay α).bind f=.exc x Ω:=rfl
@[simp] theorem Le{f:α->aD->ay β}:(ay.bad:ay α).bind f=.bad:=rfl
@[simp] theorem bt{a:α}{k:α->aD->fu}:bK (.ok a Ω) k=k a Ω:=rfl
@[simp] theorem Lf{k:α->aD->fu}:bK (.exc x Ω:ay α) k=.exc x Ω:=rfl
@[simp] theorem Lg{k:α->aD->fu}:bK (.bad:ay α) k=.bad:=rfl
@[simp] theorem OY{b:ay D}:gH (.ok d Ω) b=.ok d Ω:=rfl
@[simp] theorem Lh{b:ay D}:gH (.exc d Ω) b=.exc d Ω:=rfl
@[simp] theorem qY{b:ay D}:gH .bad b=b:=rfl
@[simp] theorem OZ{f:D->aD->ay D}:m1 f ma ρ Ω=(ma ρ Ω).bind f:=rfl
@[simp] theorem cV{f:D->D->aD->ay D}:m2 f ma mb ρ Ω=(ma ρ Ω).bind λx aG=>(mb ρ aG).bind λy a=>f x y a:=rfl
@[simp] theorem cM{f:List D->aD->ay D}:mN f as ρ Ω=(as ρ Ω).bind f:=rfl
@[simp] theorem aU:af ρ Ω=.ok [] Ω:=rfl
@[simp] theorem aO:ab ma as ρ Ω=(ma ρ Ω).bind λx aG=>(as ρ aG).bind λxs a=>.ok (x::xs) a:=rfl
noncomputable def vr:Option (Option D)->aD->ay D
 |some (some d),Ω=>.ok d Ω
 |_,_=>.bad
@[simp] theorem fL:vr (some (some d)) Ω=.ok d Ω:=rfl
@[simp] theorem fM{i:Nat}:aa i ρ Ω=vr ρ[i]? Ω:=by
 unfold aa;cases ρ[i]? with
 |none=>rfl
 |some o=>cases o<;>rfl
@[simp] theorem gD:ae d ρ Ω=.ok d Ω:=rfl
@[simp] theorem jM{c:Cell}:gX Ω c=.ok (.ref Ω.length) (Ω++[c]):=rfl
noncomputable def tb(Ω:aD):Option Bool->ay Bool
 |some b=>.ok b Ω
 |none=>.bad
@[simp] theorem c_{t:Bool}:tb Ω (some t)=.ok t Ω:=rfl
@[simp] theorem cS:cx (.ok d Ω)=tb Ω (fS Ω d):=by simp only[cx];cases fS Ω d<;>rfl
@[simp] theorem cJ{t:Bool}:fS Ω (.bl t)=some t:=rfl
@[simp] theorem FP:fS Ω .non=some false:=rfl
@[simp] theorem FQ{i:Int}:fS Ω (.int i)=some (i != 0):=rfl
noncomputable def D9(t:Option Bool)(a b:ay D):ay D:=match t with
 |some true=>a
 |some false=>b
 |none=>.bad
@[simp] theorem Bf{a b:ay D}:Mir.D9 (some true) a b=a:=rfl
@[simp] theorem O_{a b:ay D}:Mir.D9 (some false) a b=b:=rfl
@[simp] theorem gE:eK ma mb ρ Ω=(ma ρ Ω).bind λx aG=>Mir.D9 (fS aG x) (mb ρ aG) (.ok x aG):=by
 unfold eK;cases ma ρ Ω with
 |ok x aG=>
  simp only[ak];cases fS aG x with
  |none=>rfl
  |some t=>cases t<;>rfl
 |exc x aG=>rfl
 |bad=>rfl
@[simp] theorem Li:Ea ma mb ρ Ω=(ma ρ Ω).bind λx aG=>Mir.D9 (fS aG x) (.ok x aG) (mb ρ aG):=by
 unfold Ea;cases ma ρ Ω with
 |ok x aG=>
  simp only[ak];cases fS aG x with
  |none=>rfl
  |some t=>cases t<;>rfl
 |exc x aG=>rfl
 |bad=>rfl
@[simp] theorem zN:gJ ma ρ Ω=(cx (ma ρ Ω)).bind λt aG=>.ok (.bl (!t)) aG:=rfl
@[simp] theorem nM:uE mc ma mb ρ Ω=(cx (mc ρ Ω)).bind λt aG=>if t=true then ma ρ aG else mb ρ aG:=rfl
@[simp] theorem IZ{f g:D->aD->ay D}:Cj f g x Ω=gH (f x Ω) (g x Ω):=rfl
@[simp] theorem fN{f g:D->D->aD->ay D}:fR f g x y Ω=gH (f x y Ω) (g x y Ω):=rfl
@[simp] theorem I_{f g:List D->aD->ay D}{xs:List D}:lK f g xs Ω=gH (f xs Ω) (g xs Ω):=rfl
@[simp] theorem Ja{f g:EM}:kA f g ρ Ω=gH (f ρ Ω) (g ρ Ω):=rfl
@[simp] theorem Jb{n:Nat}:eO Ω n .non=some .non:=by cases n<;>rfl
@[simp] theorem CJ{n:Nat}{t:Bool}:eO Ω n (.bl t)=some (.bl t):=by cases n<;>rfl
@[simp] theorem zO{n:Nat}{i:Int}:eO Ω n (.int i)=some (.int i):=by cases n<;>rfl
@[simp] theorem jN{n:Nat}{z:Str}:eO Ω n (.str z)=some (.str z):=by cases n<;>rfl
@[simp] theorem Lj{f:α->Option β}:bN f []=some []:=rfl
noncomputable def oc:Option α->Option (List α)->Option (List α)
 |some y,some ys=>some (y::ys)
 |_,_=>none
@[simp] theorem Jc{y:α}{a:List α}:oc (some y) (some a)=some (y::a):=rfl
@[simp] theorem sM{f:α->Option β}{x:α}{xs:List α}:bN f (x::xs)=oc (f x) (bN f xs):=by
 simp only[bN];cases f x<;>cases bN f xs<;>rfl
theorem iX{a:Type}{f:β->Option a}{g:α->β}{h:α->a}(e:∀x,f (g x)=some (h x)):∀xs:List α,bN f (xs.map g)=some (xs.map h)
 |[]=>rfl
 |x::xs=>by rw[List.map_cons,sM,e,iX e xs];rfl
@[simp] theorem zP{n:Nat}{xs:List Str}:bN (eO Ω n) (xs.map .str)=some (xs.map .str):=iX (λ_=>jN) xs
@[simp] theorem zQ{n:Nat}{xs:List Int}:bN (eO Ω n) (xs.map .int)=some (xs.map .int):=iX (λ_=>zO) xs
theorem zR{n:Nat}{ds es:List D}(h:bN (eO Ω n) ds=some es):eO Ω (n+1) (.lst ds)=some (.lst es):=by simp only[eO,h,Option.map_some]
theorem jO{n k:Nat}{ds es:List D}(a:Ω[k]?=some (.lst ds))(h:bN (eO Ω n) ds=some es):eO Ω (n+1) (.ref k)=some (.lst es):=by simp only[eO,a,h,Option.map_some]
theorem eL{n k:Nat}{xs:List Str}(a:Ω[k]?=some (.lst (xs.map .str))):eO Ω (n+1) (.ref k)=some (L1 xs):=jO a zP
@[simp] theorem Lk{n:Nat}{ns:List Int}:eO Ω (n+1) (SC ns)=some (SC ns):=zR zQ
@[simp] theorem Jd{o:Bool}{i:Int}:fD Ω (.ok (o,.int i))=.ok (.int i) Ω:=rfl
@[simp] theorem CK{o:Bool}{t:Bool}:fD Ω (.ok (o,.bl t))=.ok (.bl t) Ω:=rfl
@[simp] theorem zS{o:Bool}{z:Str}:fD Ω (.ok (o,.str z))=.ok (.str z) Ω:=rfl
@[simp] theorem Je{o:Bool}:fD Ω (.ok (o,.non))=.ok .non Ω:=rfl
@[simp] theorem Jf:fD Ω .bad=.bad:=rfl
def vN(Ω:aD)(f:List D->Out Rs):Option (List D)->ay D
 |some ds=>fD Ω (f ds)
 |none=>.bad
@[simp] theorem sN{f:List D->Out Rs}{ds:List D}:vN Ω f (some ds)=fD Ω (f ds):=rfl
@[simp] theorem sO{f:List D->Out Rs}{xs:List D}:bD f xs Ω=vN Ω f (bN (eO Ω 8) xs):=by unfold bD;cases bN (eO Ω 8) xs<;>rfl
def v1(Ω:aD)(f:D->Out Rs):Option D->ay D
 |some d=>fD Ω (f d)
 |none=>.bad
@[simp] theorem Jg{f:D->Out Rs}:v1 Ω f (some d)=fD Ω (f d):=rfl
@[simp] theorem Jh{f:D->Out Rs}:tW f x Ω=v1 Ω f (eO Ω 8 x):=by unfold tW;cases eO Ω 8 x<;>rfl
def v2(Ω:aD)(f:D->D->Out Rs):Option D->Option D->ay D
 |some d,some e=>fD Ω (f d e)
 |_,_=>.bad
@[simp] theorem jP{f:D->D->Out Rs}{e:D}:v2 Ω f (some d) (some e)=fD Ω (f d e):=rfl
@[simp] theorem nN{f:D->D->Out Rs}:fE f x y Ω=v2 Ω f (eO Ω 8 x) (eO Ω 8 y):=by unfold fE;cases eO Ω 8 x<;>cases eO Ω 8 y<;>rfl
@[simp] theorem FR{z:Str}:vT .len [.str z]=if small z.length=true then .ok (false,.int z.length)else .bad:=rfl
@[simp] theorem wI{xs:List D}:vT .all [.lst xs]=wF (λbs=>bs.all id) (fg xs):=rfl
@[simp] theorem FT{xs:List D}:vT .any [.lst xs]=wF (λbs=>bs.any id) (fg xs):=rfl
@[simp] theorem eM{F:aV}{xs:List D}:aS F xs Ω=jJ (F xs Ω):=rfl
@[simp] theorem hU:jJ (.ok d Ω)=.ok d Ω:=rfl
@[simp] theorem iC{op:CmpOp}:c8 op x y Ω=v2 Ω (λx y=>do let r ←dH op x y;Out.ok (false,D.bl r)) (eO Ω 8 x) (eO Ω 8 y):=by unfold c8;rw[nN]
@[simp] theorem sP:ax .Eq x y Ω=c8 .Eq x y Ω:=rfl
@[simp] theorem sQ:ax .NotEq x y Ω=c8 .NotEq x y Ω:=rfl
@[simp] theorem Ji:ax .Lt x y Ω=c8 .Lt x y Ω:=rfl
@[simp] theorem Jj:ax .LtE x y Ω=c8 .LtE x y Ω:=rfl
@[simp] theorem Jk:ax .Gt x y Ω=c8 .Gt x y Ω:=rfl
@[simp] theorem Jl:ax .GtE x y Ω=c8 .GtE x y Ω:=rfl
@[simp] theorem nO:ax .In x y Ω=gH (c8 .In x y Ω) (fT false x y Ω):=rfl
@[simp] theorem kY:ax .NotIn x y Ω=gH (c8 .NotIn x y Ω) (fT true x y Ω):=rfl
@[simp] theorem Jm:ax .Is x y Ω=gH (e_ false x y Ω) (c8 .Is x y Ω):=rfl
@[simp] theorem CL:ax .IsNot x y Ω=gH (e_ true x y Ω) (c8 .IsNot x y Ω):=rfl
@[simp] theorem FU{n:Bool}{k:Nat}:e_ n (.ref k) .non Ω=.ok (.bl n) Ω:=rfl
@[simp] theorem Ee{n:Bool}{i:Int}:e_ n (.int i) y Ω=.bad:=rfl
@[simp] theorem Eg{n:Bool}:e_ n .non y Ω=.bad:=rfl
@[simp] theorem FV{n:Bool}{t:Bool}:e_ n (.bl t) y Ω=.bad:=rfl
@[simp] theorem Eh{n:Bool}{z:Str}:e_ n (.str z) y Ω=.bad:=rfl
@[simp] theorem wJ:aM .Add x y Ω=gH (qC x y Ω) (fE (ff .Add) x y Ω):=rfl
@[simp] theorem FW:aM .Sub x y Ω=fE (ff .Sub) x y Ω:=rfl
@[simp] theorem Ei:aM .Mult x y Ω=fE (ff .Mult) x y Ω:=rfl
@[simp] theorem FX:aM .Mod x y Ω=fE (ff .Mod) x y Ω:=rfl
@[simp] theorem Jn:aM .FloorDiv x y Ω=fE (ff .FloorDiv) x y Ω:=rfl
@[simp] theorem Jo{i:Int}:de Ω (.int i)=none:=rfl
@[simp] theorem Jp{z:Str}:de Ω (.str z)=none:=rfl
@[simp] theorem Jq{ds:List D}:de Ω (.tup ds)=none:=rfl
@[simp] theorem Jr{ds:List D}:de Ω (.lst ds)=some ds:=rfl
theorem aB{k:Nat}{ds:List D}(h:Ω[k]?=some (.lst ds)):de Ω (.ref k)=some ds:=by simp only[de,h]
theorem iD{k:Nat}{ds:List D}(h:Ω[k]?=some (.lst ds)):nF Ω (.ref k)=some (k,ds):=by simp only[nF,h]
theorem nP{k:Nat}{C:Str}{a:List (Str×D)}(h:Ω[k]?=some (.ins C a)):pk Ω (.ref k)=some (k,C,a):=by simp only[pk,h]
def ct(Ω:aD):Option (List D)->Option (List D)->ay D
 |some xs,some ys=>if small (xs.length+ys.length)then .ok (.ref Ω.length) (Ω++[.lst (xs++ys)])else .bad
 |_,_=>.bad
@[simp] theorem zT{xs a:List D}:ct Ω (some xs) (some a)=if small (xs.length+a.length)then .ok (.ref Ω.length) (Ω++[.lst (xs++a)])else .bad:=rfl
@[simp] theorem Pa{o:Option (List D)}:ct Ω none o=.bad:=rfl
@[simp] theorem zU:qC x y Ω=ct Ω (de Ω x) (de Ω y):=by unfold qC;cases de Ω x<;>cases de Ω y<;>rfl
@[simp] theorem Js{ds:List D}:fF Ω (.tup ds)=some ds:=rfl
@[simp] theorem aE{k:Nat}:fF Ω (.ref k)=de Ω (.ref k):=rfl
@[simp] theorem Jt{ds:List D}:fF Ω (.lst ds)=some ds:=rfl
def ixs(Ω:aD):Option (List D)->D->ay D
 |some ds,.int i=>match L2.jD ds i with
  |some d=>.ok d Ω
  |none=>.bad
 |_,_=>.bad
theorem jQ:yL x y Ω=ixs Ω (fF Ω x) y:=by unfold yL;cases fF Ω x<;>cases y<;>rfl
theorem wK{ds:List D}{i:Int}(h:L2.jD ds i=some d):ixs Ω (some ds) (.int i)=.ok d Ω:=by simp only[ixs,h]
theorem cE{k:Nat}{ds:List D}{i:Int}(h:Ω[k]?=some (.lst ds))(a:L2.jD ds i=some d):az (.ref k) (.int i) Ω=.ok d Ω:=by
 unfold az;rw[fN,jQ,aE,aB h,wK a];rfl
@[simp] theorem cT{xs:List D}:aT xs Ω=if small xs.length then .ok (.ref Ω.length) (Ω++[.lst xs])else .bad:=rfl
@[simp] theorem iE{xs:List D}:gI xs Ω=if small xs.length then .ok (.tup xs) Ω else .bad:=rfl
def fl(Ω:aD)(Cs:List Str)(f:Str):Option (Nat×Str×List (Str×D))->ay D
 |some (_,C,fs)=>if Cs.contains C then (match fs.lookup f with
  |some d=>.ok d Ω
  |none=>.bad)else .bad
 |none=>.bad
theorem sR{Cs:List Str}{f C:Str}{k:Nat}{a:List (Str×D)}(h:Ω[k]?=some (.ins C a))(b:Cs.contains C=true)(c:a.lookup f=some d):dn Cs f (.ref k) Ω=.ok d Ω:=by
 unfold dn;rw[nP h];simp only[b,if_true,c]
noncomputable def sq(r:fu)(b:SM):fu:=match r with
 |.nx a c=>b a c
 |r=>r
@[simp] theorem aA:sq (.nx ρ Ω) b=b ρ Ω:=rfl
@[simp] theorem Pb:sq (.rt d Ω) b=.rt d Ω:=rfl
@[simp] theorem Pc:sq (.bk ρ Ω) b=.bk ρ Ω:=rfl
@[simp] theorem Pd:sq (.ct ρ Ω) b=.ct ρ Ω:=rfl
@[simp] theorem Ll:sq (.exc d Ω) b=.exc d Ω:=rfl
@[simp] theorem Lm:sq .bad b=.bad:=rfl
@[simp] theorem ah:ag a b ρ Ω=sq (a ρ Ω) b:=by unfold ag;cases a ρ Ω<;>rfl
@[simp] theorem FY:aj ρ Ω=.nx ρ Ω:=rfl
@[simp] theorem br{i:Nat}:av i ma ρ Ω=bK (ma ρ Ω) λd aG=>.nx (ρ.set i (some d)) aG:=rfl
@[simp] theorem bT:bH ma ρ Ω=bK (ma ρ Ω) λ_ aG=>.nx ρ aG:=rfl
@[simp] theorem dR:bh ma ρ Ω=bK (ma ρ Ω) λd aG=>.rt d aG:=rfl
@[simp] theorem bY:cU ma a b ρ Ω=bK (cx (ma ρ Ω)) λt aG=>if t=true then a ρ aG else b ρ aG:=rfl
@[simp] theorem Ju{b:List Nat}:qQ b ma ρ Ω=bK (ma ρ Ω) λd aG=>match dm b d ρ with|some a=>.nx a aG|none=>.bad:=rfl
@[simp] theorem Ej{a:List Nat}{ds:List D}:dm a (.tup ds) ρ=if ds.length=a.length then some (fJ a ds ρ)else none:=rfl
@[simp] theorem zV{i:Nat}{a:List Nat}{ds:List D}:fJ (i::a) (d::ds) ρ=fJ a ds (ρ.set i (some d)):=rfl
@[simp] theorem Bg{ds:List D}:fJ [] ds ρ=ρ:=by cases ds<;>rfl
@[simp] theorem Jv:gp (.rt d Ω)=.ok d Ω:=rfl
@[simp] theorem Jw:gp (.nx ρ Ω)=.ok .non Ω:=rfl
theorem bx{n k:Nat}{c:SM}{ds:List D}(h:ds.length=k):bS n k c ds Ω=gp (c (aZ n ds) Ω):=by unfold bS;rw[if_pos h]
@[simp] theorem bg:aK ma ρ Ω=(ma ρ Ω).bind λx aG=>srcOf aG x:=rfl
theorem aX{ds:List D}(h:fF Ω x=some ds):srcOf Ω x=.ok (.seq x) Ω:=by unfold srcOf;rw[h]
@[simp] theorem iF:b_ as ρ Ω=(as ρ Ω).bind sj:=rfl
@[simp] theorem jR{j:Int}:sj [.int j] Ω=if lI j then .ok (.ints 0 j.toNat) Ω else .bad:=rfl
@[simp] theorem cp:er (.seq x) Ω=fF Ω x:=rfl
@[simp] theorem FZ{a:Int}{n:Nat}:er (.ints a n) Ω=some (intsFrom a n):=rfl
@[simp] theorem cq{a:D->aR->Option aR}{mi:IM}:cj a mi b ρ Ω=bK (mi ρ Ω) λs aG=>eX a s b fuel 0 ρ aG:=rfl
def Bh(r:fu)(I:aR->aD->Prop)(R:fu->Prop):Prop:=match r with
 |.nx a b=>I a b
 |.ct a b=>I a b
 |.bk a b=>R (.nx a b)
 |r=>R r
theorem bA{k:D->aR->Option aR}{src:Src}{b:SM}{ds:List D}(I:Nat->aR->aD->Prop){R:fu->Prop}(l:∀i ρ Ω,I i ρ Ω->er src Ω=some ds)
  (h:∀(i:Nat) (d:D) ρ Ω,ds[i]?=some d->I i ρ Ω->∃e,k d ρ=some e/\Bh (b e Ω) (I (i+1)) R) (p:∀ρ Ω,I ds.length ρ Ω->R (.nx ρ Ω)) :
  ∀(f i:Nat) ρ Ω,ds.length - i<f->i<=ds.length->I i ρ Ω->R (eX k src b f i ρ Ω):=by
 intro f
 induction f with
 |zero=>intro i ρ Ω r;omega
 |succ f o=>
  intro i ρ Ω r t n;simp only[eX,l i ρ Ω n]
  by_cases j:i<ds.length
  .have m:ds[i]?=some ds[i]:=List.getElem?_eq_getElem j
   rw[m];dsimp only;obtain⟨e,s,c⟩:=h i ds[i] ρ Ω m n;rw[s];dsimp only;cases q:b e Ω with
   |nx g a=>rw[q]at c;exact o (i+1) g a (by omega) j c
   |ct g a=>rw[q]at c;exact o (i+1) g a (by omega) j c
   |bk g a=>rw[q]at c;exact c
   |rt d a=>rw[q]at c;exact c
   |exc x a=>rw[q]at c;exact c
   |bad=>rw[q]at c;exact c
  .have m:ds[i]?=none:=List.getElem?_eq_none (by omega)
   rw[m];have:i=ds.length:=by omega
   subst this;exact p ρ Ω n
theorem zW{nc:Bool}{mc me:EM}{τ:aR}{src:Src}{ds:List D}{p:D->Bool}{g:D->D}(j:er src Ω=some ds)(k:∀d∈ds,gK nc mc ([some d]++τ) Ω=.ok (p d) Ω)(l:∀d∈ds,p d=true->me ([some d]++τ) Ω=.ok (g d) Ω) :
  ∀(f i:Nat) (a:List D),ds.length - i<f->i<=ds.length->a.length+ds.length<=100000+i->sk nc mc me 0 τ src f i a Ω=.ok (a++((ds.drop i).filter p).map g) Ω:=by
 intro f
 induction f with
 |zero=>intro i a m;omega
 |succ f e=>
  intro i a m r s;simp only[sk,j]
  by_cases b:i<ds.length
  .have c:ds[i]?=some ds[i]:=List.getElem?_eq_getElem b
   have h:ds[i]∈ds:=List.getElem_mem b;rw[c];have o:nH 0 ds[i]=some [some ds[i]]:=rfl;simp only[o];rw[if_pos (aF (n:=a.length+1) (by omega)),k _ h,List.drop_eq_getElem_cons b,List.filter_cons]
   cases q:p ds[i]with
   |true=>
    dsimp only;rw[l _ h q];dsimp only;rw[e (i+1) _ (by omega) b (by rw[List.length_append];simp;omega)]
    simp
   |false=>
    dsimp only;rw[e (i+1) _ (by omega) b (by omega)]
    simp
  .have c:ds[i]?=none:=List.getElem?_eq_none (by omega)
   rw[c,List.drop_of_length_le (by omega)]
   simp
theorem cF{me mc:EM}{nc:Bool}{mi:IM}{cap:List Nat}{src:Src}{ds:List D}{p:D->Bool}{g:D->D}(a:mi ρ Ω=.ok src ao)(b:er src ao=some ds)(c:∀d∈ds,gK nc mc ([some d]++dI cap ρ) ao=.ok (p d) ao)(e:∀d∈ds,p d=true->me ([some d]++dI cap ρ) ao=.ok (g d) ao)(f:ds.length<=90000) :
  aW me nc mc mi 0 cap ρ Ω=.ok (.ref ao.length) (ao++[.lst ((ds.filter p).map g)]):=by
 unfold aW;rw[a];dsimp only;rw[zW b c e fuel 0 [] (by unfold fuel;omega) (Nat.zero_le _) (by simp;omega)]
 rfl
theorem dS{k:Nat}{c:Cell}{l:aD}(h:Ω[k]?=some c):(Ω++l)[k]?=some c:=by rw[List.getElem?_append_left (List.getElem?_eq_some_iff.mp h).1];exact h
theorem aq{c:Cell}{l:aD}:(Ω++c::l)[Ω.length]?=some c:=by rw[List.getElem?_append_right (Nat.le_refl _)];simp
theorem dh{j k:Nat}{c e:Cell}(h:Ω[k]?=some c)(a:k≠j):(Ω.set j e)[k]?=some c:=by rw[List.getElem?_set_ne (Ne.symm a)];exact h
theorem aQ{k:Nat}{c e:Cell}(h:Ω[k]?=some c):(Ω.set k e)[k]?=some e:=List.getElem?_set_self (List.getElem?_eq_some_iff.mp h).1
theorem bp{k:Nat}{c:Cell}(h:Ω[k]?=some c):k<Ω.length:=(List.getElem?_eq_some_iff.mp h).1
structure ai(fp:List Nat)(Ω ao:aD):Prop where
 len:Ω.length<=ao.length
 get:∀k c,Ω[k]?=some c->k∉fp->ao[k]?=some c
theorem ai.refl{fp:List Nat}:ai fp Ω Ω:=⟨Nat.le_refl _,λ_ _ h _=>h⟩
theorem ai.trans{fp:List Nat}{aG a b:aD}(h:ai fp aG a)(h':ai fp a b):ai fp aG b:=⟨Nat.le_trans h.len h'.len,λk c q n=>h'.get k c (h.get k c q n) n⟩
theorem ai.app{fp:List Nat}{l:aD}:ai fp Ω (Ω++l):=⟨by simp,λk c h _=>dS h⟩
theorem ai.set{fp:List Nat}{j:Nat}{c:Cell}(h:j∈fp):ai fp Ω (Ω.set j c):=⟨by simp,λk e q n=>dh q λz=>n (z▸h)⟩
theorem ai.sub{fp a:List Nat}(h:ai fp Ω ao)(b:∀k∈fp,k∈a):ai a Ω ao:=⟨h.len,λk c q n=>h.get k c q λz=>n (b k z)⟩
end
section
variable{Ω ao:aD}{ρ:aR}{d x y:D}{k:Nat}{ws:List Str}{w:Str}{L:List (List Str)}{rs:List Nat}
theorem fO{ds:List D}(h:Ω[k]?=some (.lst ds)):aP .len [.ref k] Ω=.ok (.int ds.length) Ω:=by
 show gH (nA [.ref k] Ω) _=_
 simp only[nA,aE,aB h];rfl
theorem d_{ds:List D}{d:D}(h:Ω[k]?=some (.lst ds))(a:ds.length<=1000):bq (.ref k) [d] Ω=.ok .non (Ω.set k (.lst (ds++[d]))):=by
 simp only[bq,iD h];rw[if_pos (aF (by omega))]
theorem eD{ds:List D}(h:Ω[k]?=some (.lst ds)):hY Ω (.ref k)=true:=by simp only[hY,aB h];rfl
theorem iY(h:Ω[k]?=some (.lst (ws.map .str))):ax .In (.str w) (.ref k) Ω=.ok (.bl (decide (w∈ws))) Ω:=by
 simp[eL (n:=7) h]
theorem jS(h:Ω[k]?=some (.lst (ws.map .str))):ax .NotIn (.str w) (.ref k) Ω=.ok (.bl (!decide (w∈ws))) Ω:=by
 simp[eL (n:=7) h]
theorem gs{n:Nat}(b:Ω[k]?=some (.lst (rs.map .ref)))(h:aI (λj a=>Ω[j]?=some (.lst (a.map .str))) rs L):eO Ω (n+2) (.ref k)=some (LL L):=by
 refine jO (es:=L.map L1) b ?_;clear b
 induction h with
 |nil=>rfl
 |cons c e d=>rw[List.map_cons,sM,eL c,d];rfl
theorem zX{C m:Str}{F:aV}{mo:EM}{c:AM}{a:List (Str×D)}(d:mo ρ Ω=.ok (.ref k) ao)(e:ao[k]?=some (.ins C a))(f:a.lookup m=none):aN C m F mo c ρ Ω=(c ρ ao).bind λxs b=>jJ (F (.ref k::xs) b):=by
 unfold aN;rw[d]
 show(match pk ao (.ref k)with|some (_,g,a)=>_|none=>_)=_
 rw[nP e];simp only[f,and_self,if_true];rfl
theorem fb{a:aD->D->Bool}{f:D->List D->aD->ay D}{mo:EM}{c:AM}(d:mo ρ Ω=.ok x ao)(h:a ao x=true):dg a f mo c ρ Ω=(c ρ ao).bind λxs b=>f x xs b:=by
 unfold dg;rw[d]
 show(if a ao x=true then _ else _)=_
 rw[if_pos h]
end
variable [aH]
section
variable{Ω ao aG Iu:aD}{ρ:aR}{k q:Nat}{x y:D}
theorem ai.new{fp:List Nat}(h:ai [] Ω aG)(h':ai fp aG Iu)(a:∀j∈fp,Ω.length<=j):ai [] Ω Iu:=⟨Nat.le_trans h.len h'.len,λk c e _=>h'.get k c (h.get k c e (by simp)) λz=>by have:=a k z;have:=bp e;omega⟩
theorem dv.up{fp:List Nat}(h:ai [] Ω ao):ai fp Ω ao:=h.sub (by simp)
@[simp] theorem F7{z:Str}:az (.str z) y Ω=v2 Ω qo (some (.str z)) (eO Ω 8 y):=by
 unfold az;rw[fN,fN,jQ,nN];simp[fF,de,ixs,yM,qE]
@[simp] theorem F8{z:Str}{l h:Option Int}:jx (.str z) l h Ω=fD Ω (vf (.str z) l h):=rfl
@[simp] theorem iG{c d e:EM}{f g:Bool}:cH c f d g e ρ Ω=(c ρ Ω).bind λx aG=>(gh f d ρ aG).bind λl a=>(gh g e ρ a).bind λh b=>jx x l h b:=rfl
@[simp] theorem zY{m:EM}:gh true m ρ Ω=.ok none Ω:=rfl
noncomputable def Pe(Ω:aD):D->ay (Option Int)
 |.int i=>.ok (some i) Ω
 |_=>.bad
@[simp] theorem zZ{m:EM}:gh false m ρ Ω=(m ρ Ω).bind λd aG=>Pe aG d:=by
 simp only[gh,Bool.false_eq_true,if_false]
 congr 1
@[simp] theorem z8{i:Int}:Pe Ω (.int i)=.ok (some i) Ω:=rfl
theorem pG{ds:List D}(h:Ω[k]?=some (.lst ds)):ej (.ref k) [] Ω=.ok .non (Ω.set k (.lst ds.reverse)):=by
 simp only[ej,iD h]
end
def nC:EM:=aW (m2 az (aa 2) (m2 (aM .Mod) (m2 (aM .Add) (aa 1) (m2 (aM .Mult) (aa 0) (aa 3))) (ae (.int 26)))) true (ae .non) (b_ (ab (ae (.int 8)) af)) 0 [4,3,5]
def nD:EM:=aW (cH (aa 1) true (ae .non) false (m2 (aM .Add) (aa 0) (ae (.int 1)))) true (ae .non) (b_ (ab (aa 2) af)) 0 [6]
section
variable{Ω:aD}{F:List D->Out Rs}{δ:List Int->Int->Int->Int}{ns:List Int}
def Pf(x:Str):Prop:=x.length<=17/\∃c∈x.cps.toList,97<=c
theorem Pf.ne{x:Str}(h:Pf x):x≠"-":=λe=>by
 obtain⟨_,c,a,b⟩:=h;subst e;have:c∈[45]:=a;simp at this;omega
end
section
variable{κ β:Type}[DecidableEq κ]
theorem dk{p:κ×β}{kvs:List (κ×β)}{k:κ}:cf (p::kvs) k=if p.1=k then some p.2 else cf kvs k:=by
 unfold cf;rw[List.find?_cons]
 by_cases h:p.1=k<;>simp[h]
theorem pH{k a:κ}{v:c}:∀{kvs:List (κ×c)},cf (kvs.map λb=>if b.1=k then (b.1,v)else b) a=if a=k then (cf kvs k).map λ_=>v else cf kvs a
 |[]=>by simp[cf]
 |p::kvs=>by
  rw[List.map_cons,dk,dk,dk,pH]
  by_cases h:p.1=k
  .rw[if_pos h]
   by_cases h':a=k
   .subst h';simp[h]
   .have:¬ k=a:=λe=>h' e.symm
    simp[h,h',this]
  .rw[if_neg h]
   by_cases h':a=k
   .subst h';simp[h]
   .simp[h']
theorem pI{k a:κ}{v:b}:∀{kvs:List (κ×b)},cf (kvs++[(k,v)]) a=match cf kvs a with|some d=>some d|none=>if a=k then some v else none
 |[]=>by
  rw[List.nil_append,dk]
  by_cases h:k=a
  .subst h;simp[cf]
  .have:¬ a=k:=λe=>h e.symm
   simp[cf,h,this]
 |p::kvs=>by
  rw[List.cons_append,dk,dk,pI]
  by_cases h:p.1=a<;>simp[h]
theorem iH{k:κ}:∀{kvs:List (κ×b)},(kvs.any λa=>decide (a.1=k))=(cf kvs k).isSome
 |[]=>rfl
 |p::kvs=>by
  rw[List.any_cons,dk,iH]
  by_cases h:p.1=k<;>simp[h]
theorem mF{kvs:List (κ×β)}{k a:κ}{v:β}:cf (cZ kvs k v) a=if a=k then some v else cf kvs a:=by
 unfold cZ;rw[iH];cases h:cf kvs k with
 |none=>
  rw[Option.isSome_none,if_neg (by simp),pI]
  by_cases b:a=k
  .subst b;simp[h]
  .cases q:cf kvs a<;>simp[b]
 |some d=>
  rw[Option.isSome_some,if_pos rfl,pH,h]
  by_cases b:a=k<;>simp[b]
theorem wL{kvs:List (κ×β)}{k:κ}{v:β}:(cZ kvs k v).length<=kvs.length+1:=by
 unfold cZ;split<;>simp
end
section
variable{Ω ao:aD}{F:List D->Out Rs}{δ:List Int->Int->Int->Int}{ns:List Int}{t:Nat}{kvs:List (List Key×D)}
theorem ew{xs:List Str}{i:Nat}{d:D}(h:(xs.map D.str)[i]?=some d):∃x,xs[i]?=some x/\d=.str x:=by
 rw[List.getElem?_map]at h;obtain⟨x,a,b⟩:=Option.map_eq_some_iff.mp h;exact⟨x,a,b.symm⟩
end
theorem mG{O:aV}{ds:List D}{d:D}{ao:aD}(a:ds.all CF=true)(h:O ds []=.ok d ao)(b:eS d=true):pureOf O ds=.ok (false,d):=by
 unfold pureOf;rw[if_pos a,h];dsimp only;rw[if_pos b]
def F9:SM:=(ag (av 3 (m2 (aM .FloorDiv) (aa 3) (ae (.int 840)))) aj)
def F_:SM:=(cU (eK (m2 (ax .Eq) (m2 (aM .Mod) (aa 0) (ae (.int 2))) (ae (.int 1))) (m2 (ax .Gt) (aa 0) (m2 (aM .Pow) (ae (.int 10)) (ae (.int 18)))))
 (ag (cj (bX 4) (b_ (ab (aa 1) af)) F9)
 (ag (bh (m2 (aM .Mod) (m2 (aM .Mod) (aa 3) (ae (.int 840))) (aa 2)))
 aj))
 aj)
def Pg:SM:=(ag (av 5 (mN aT (ab (ae (.int 48271)) (ab (ae (.int 69621)) (ab (ae (.int 40692)) (ab (ae (.int 39373)) (ab (ae (.int 16807)) (ab (ae (.int 30323)) (ab (ae (.int 21403)) (ab (ae (.int 62089)) (ab (ae (.int 45742)) (ab (ae (.int 37907)) (ab (ae (.int 53611)) (ab (ae (.int 28411)) (ab (ae (.int 59393)) (ab (ae (.int 33391)) af))))))))))))))))
 (ag (av 6 (m2 (aM .Mod) (m2 (aM .Mult) (m2 (aM .Add) (m2 (aM .Mod) (aa 0) (ae (.int 1000000007))) (ae (.int 11))) (m2 az (aa 5) (m2 (aM .Mod) (aa 1) (ae (.int 14))))) (ae (.int 2147483629))))
 (ag (av 7 (m2 (aM .Mod) (m2 (aM .Mult) (aa 6) (m2 (aM .Add) (aa 6) (aa 1))) (ae (.int 1999999973))))
 (ag (bh (m2 (aM .Mod) (m2 (aM .FloorDiv) (m2 (aM .Mod) (m2 (aM .Mult) (aa 7) (ae (.int 16807))) (ae (.int 998244353))) (ae (.int 1000))) (aa 2)))
 aj))))
def mH:SM:=
 (ag (av 3 (m2 (aM .FloorDiv) (aa 0) (ae (.int 2))))
 (ag F_ Pg))
@[simp] theorem Ga{x y:D}{Ω:aD}:aM .Pow x y Ω=fE (ff .Pow) x y Ω:=rfl
theorem z9{c t m:Int}(K:0<=t)(u:t<100000)(g:0<m):∃r,0<=r/\r<m/\pureOf (bS 8 3 mH) [.int c,.int t,.int m]=.ok (false,.int r):=by
 have j:∃r b,0<=r/\r<m/\bS 8 3 mH [.int c,.int t,.int m] []=.ok (.int r) b:=by
  rw[bx (by rfl)]
  have w:aZ 8 [D.int c,.int t,.int m]=[some (.int c),some (.int t),some (.int m),none,none,none,none,none]:=rfl;rw[w];unfold mH;have y:(av 3 (m2 (aM .FloorDiv) (aa 0) (ae (.int 2)))) [some (.int c),some (.int t),some (.int m),none,none,none,none,none] []=.nx [some (.int c),some (.int t),some (.int m),some (.int (c / 2)),none,none,none,none] []:=by simp
  rw[ah,y,aA,ah]
  by_cases k:c%2=1/\1000000000000000000<c
  .have l:lI t=true:=ec (by omega) (by omega)
   have n:∃x a,eX (bX 4) (.ints 0 t.toNat) F9 fuel 0 [some (.int c),some (.int t),some (.int m),some (.int (c / 2)),none,none,none,none] []=.nx [some (.int c),some (.int t),some (.int m),some (.int x),a,none,none,none] []:=by
    refine bA (R:=λr=>∃x a,r=.nx [some (.int c),some (.int t),some (.int m),some (.int x),a,none,none,none] []) (ds:=intsFrom 0 t.toNat) (λ_ o p=>∃x a,o=[some (.int c),some (.int t),some (.int m),some (.int x),a,none,none,none]/\p=[]) (λ_ _ _ _=>rfl) ?_ ?_ fuel 0 _ _ (by rw[cR];unfold fuel;omega) (Nat.zero_le _) ⟨_,_,rfl,rfl⟩
    .rintro i d o p q ⟨x,a,rfl,rfl⟩
     refine⟨_,rfl,?_⟩;have e:F9 [some (.int c),some (.int t),some (.int m),some (.int x),some d,none,none,none] []=.nx [some (.int c),some (.int t),some (.int m),some (.int (x / 840)),some d,none,none,none] []:=by simp[F9]
     show Bh (F9 [some (.int c),some (.int t),some (.int m),some (.int x),some d,none,none,none] []) _ _
     rw[e];exact⟨_,_,rfl,rfl⟩
    .rintro o p ⟨x,a,rfl,rfl⟩
     exact⟨x,a,rfl⟩
   obtain⟨x,a,n⟩:=n;refine⟨x%840%m,[],Int.emod_nonneg _ (by omega),Int.emod_lt_of_pos _ g,?_⟩
   simp[F_,k.1,k.2,l,n,g]
  .obtain⟨d,q,e⟩:=CH (xs:=[D.int 48271,.int 69621,.int 40692,.int 39373,.int 16807,.int 30323,.int 21403,.int 62089,.int 45742,.int 37907,.int 53611,.int 28411,.int 59393,.int 33391]) (i:=t%14) (Int.emod_nonneg _ (by omega)) (Int.emod_lt_of_pos _ (by omega))
   obtain⟨v,rfl⟩:∃v,d=.int v:=by
    simp only[List.mem_cons,List.not_mem_nil,or_false]at q;rcases q with h|h|h|h|h|h|h|h|h|h|h|h|h|h<;>exact⟨_,h⟩
   have A:([]++[Cell.lst [D.int 48271,.int 69621,.int 40692,.int 39373,.int 16807,.int 30323,.int 21403,.int 62089,.int 45742,.int 37907,.int 53611,.int 28411,.int 59393,.int 33391]]:aD)[0]?=some (.lst [D.int 48271,.int 69621,.int 40692,.int 39373,.int 16807,.int 30323,.int 21403,.int 62089,.int 45742,.int 37907,.int 53611,.int 28411,.int 59393,.int 33391]):=rfl;have s:=cE A e;have B:ke (c%1000000007+11)=true:=iB (by omega) (by omega)
   have C:ke ((c%1000000007+11)*v%2147483629)=true:=iB (by omega) (by omega)
   have E:ke ((c%1000000007+11)*v%2147483629*((c%1000000007+11)*v%2147483629+t)%1999999973)=true:=iB (by omega) (by omega)
   have rI:F_ [some (.int c),some (.int t),some (.int m),some (.int (c / 2)),none,none,none,none] []=.nx [some (.int c),some (.int t),some (.int m),some (.int (c / 2)),none,none,none,none] []:=by
    by_cases f:c%2=1
    .have F:¬ 1000000000000000000<c:=λz=>k ⟨f,z⟩
     simp[F_,f,F]
    .have G:(c%2==1)=false:=by simpa using f
     simp[F_,G]
   refine⟨(c%1000000007+11)*v%2147483629*((c%1000000007+11)*v%2147483629+t)%1999999973*16807%998244353 / 1000%m,([]++[Cell.lst [D.int 48271,.int 69621,.int 40692,.int 39373,.int 16807,.int 30323,.int 21403,.int 62089,.int 45742,.int 37907,.int 53611,.int 28411,.int 59393,.int 33391]]:aD),Int.emod_nonneg _ (by omega),Int.emod_lt_of_pos _ g,?_⟩
   rw[rI,aA];have H:(av 5 (mN aT (ab (ae (.int 48271)) (ab (ae (.int 69621)) (ab (ae (.int 40692)) (ab (ae (.int 39373)) (ab (ae (.int 16807)) (ab (ae (.int 30323)) (ab (ae (.int 21403)) (ab (ae (.int 62089)) (ab (ae (.int 45742)) (ab (ae (.int 37907)) (ab (ae (.int 53611)) (ab (ae (.int 28411)) (ab (ae (.int 59393)) (ab (ae (.int 33391)) af)))))))))))))))) [some (.int c),some (.int t),some (.int m),some (.int (c / 2)),none,none,none,none] []=.nx [some (.int c),some (.int t),some (.int m),some (.int (c / 2)),none,some (.ref 0),none,none] ([]++[Cell.lst [D.int 48271,.int 69621,.int 40692,.int 39373,.int 16807,.int 30323,.int 21403,.int 62089,.int 45742,.int 37907,.int 53611,.int 28411,.int 59393,.int 33391]]):=rfl;unfold Pg;rw[ah,H,aA];generalize ([]++[Cell.lst [D.int 48271,.int 69621,.int 40692,.int 39373,.int 16807,.int 30323,.int 21403,.int 62089,.int 45742,.int 37907,.int 53611,.int 28411,.int 59393,.int 33391]]:aD)=I at s;simp[s,B,C,E,g]
 obtain⟨r,b,J,f,e⟩:=j;exact⟨r,J,f,mG rfl e rfl⟩
section
variable{Ω ao:aD}{ρ:aR}
theorem CM{mc me:EM}{τ:aR}{src:Src}{ds:List D}(I:Nat->List D->aD->Prop)(j:∀i a Ω,I i a Ω->er src Ω=some ds)(k:∀i d a Ω,ds[i]?=some d->I i a Ω->∃y ao,me ([some d]++τ) Ω=.ok y ao/\I (i+1) (a++[y]) ao) :
  ∀(f i:Nat) (a:List D) Ω,I i a Ω->ds.length - i<f->i<=ds.length->a.length+ds.length<=100000+i->∃h ao,sk true mc me 0 τ src f i a Ω=.ok h ao/\I ds.length h ao:=by
 intro f
 induction f with
 |zero=>intro i a Ω c l;omega
 |succ f m=>
  intro i a Ω c l s t;simp only[sk,j i a Ω c]
  by_cases b:i<ds.length
  .have e:ds[i]?=some ds[i]:=List.getElem?_eq_getElem b
   rw[e];have o:nH 0 ds[i]=some [some ds[i]]:=rfl;obtain⟨y,g,p,q⟩:=k i ds[i] a Ω e c;have r:gK true mc ([some ds[i]]++τ) Ω=.ok true Ω:=rfl;simp only[o];rw[if_pos (aF (n:=a.length+1) (by omega)),r]
   dsimp only;rw[p];dsimp only;exact m (i+1) (a++[y]) g q (by omega) b (by rw[List.length_append];simp;omega)
  .have e:ds[i]?=none:=List.getElem?_eq_none (by omega)
   rw[e];have:i=ds.length:=by omega
   subst this;exact⟨a,Ω,rfl,c⟩
theorem iI{me mc:EM}{mi:IM}{cap:List Nat}{src:Src}{ds:List D}(I:Nat->List D->aD->Prop)(e:mi ρ Ω=.ok src ao)(f:I 0 [] ao)(g:∀i b Ω,I i b Ω->er src Ω=some ds)(h:∀i d b Ω,ds[i]?=some d->I i b Ω->∃y ao,me ([some d]++dI cap ρ) Ω=.ok y ao/\I (i+1) (b++[y]) ao)(l:ds.length<=90000) :
  ∃c a,aW me true mc mi 0 cap ρ Ω=.ok (.ref a.length) (a++[.lst c])/\I ds.length c a:=by
 obtain⟨c,a,j,k⟩:=CM (mc:=mc) I g h fuel 0 [] ao f (by unfold fuel;omega) (Nat.zero_le _) (by simp;omega)
 refine⟨c,a,?_,k⟩;unfold aW;rw[e];dsimp only;rw[j];rfl
def Jx(Ω:aD)(j:Nat)(a:List Str):Prop:=Ω[j]?=some (.lst (a.map .str))
def gR(Ω:aD)(a:List Nat)(rs:List (List Str)):Prop:=aI (Jx Ω) a rs
structure Rw(Ω:aD)(k:Nat)(js:List Nat)(rs:List (List Str)):Prop where
 ce:Ω[k]?=some (.lst (js.map .ref))
 al:gR Ω js rs
section
variable{k:Nat}{js:List Nat}{rs:List (List Str)}{row:List Str}{n:Str}
theorem gR.keep:∀{a:List Nat}{rs:List (List Str)},gR Ω a rs->∀{fp:List Nat},ai fp Ω ao->(∀j∈a,j∉fp)->gR ao a rs
 |_,_,.nil,_,_,_=>.nil
 |_,_,.cons r t,fp,K,h=>.cons (K.get _ _ r (h _ (by simp))) (gR.keep t K λj b=>h j (by simp[b]))
theorem Rw.keep(R:Rw Ω k js rs)(K:ai [] Ω ao):Rw ao k js rs:=⟨K.get _ _ R.ce (by simp),R.al.keep K (by simp)⟩
theorem Rw.sS(R:Rw Ω k js rs){fp:List Nat}(K:ai fp Ω ao)(a:k∉fp)(b:∀j∈js,j∉fp):Rw ao k js rs:=⟨K.get _ _ R.ce a,R.al.keep K b⟩
theorem gR.len(h:gR Ω js rs):rs.length=js.length:=aI.length h
theorem Rw.len(R:Rw Ω k js rs):rs.length=js.length:=R.al.len
theorem gR.at{i:Nat}{a:List Str}(h:gR Ω js rs)(b:rs[i]?=some a):∃j,js[i]?=some j/\Ω[j]?=some (.lst (a.map .str)):=aI.Cg (R:=Jx Ω) h b
theorem gR.at'{i j:Nat}(h:gR Ω js rs)(b:js[i]?=some j):∃a,rs[i]?=some a/\Ω[j]?=some (.lst (a.map .str)):=aI.get (R:=Jx Ω) h b
theorem gR.lt(h:gR Ω js rs):∀j∈js,j<Ω.length:=λj a=>by
 obtain⟨i,b⟩:=List.mem_iff_getElem?.mp a;obtain⟨c,_,d⟩:=h.at' b;exact bp d
theorem iZ{a:List Nat}{i:Nat}{d:D}(h:(a.map D.ref)[i]?=some d):∃j,a[i]?=some j/\d=.ref j:=by
 rw[List.getElem?_map]at h;obtain⟨x,b,c⟩:=Option.map_eq_some_iff.mp h;exact⟨x,b,c.symm⟩
def Jy:SM:=(ag (cU (m2 (ax .In) (aa 1) (cH (aa 3) false (ae (.int 1)) true (ae .non))) (ag (bh (aa 2)) aj) aj) aj)
def qZ:SM:=(ag (cj (dm [2,3]) (lM (aa 0)) Jy) (ag (bh (ae .non)) aj))
theorem q_{j:Nat}(h:Ω[j]?=some (.lst (row.map .str))):jx (.ref j) (some 1) none Ω=.ok (.ref Ω.length) (Ω++[.lst (row.tail.map .str)]):=by
 have e:du (row.map D.str) (some 1) none=row.tail.map .str:=by
  have:=qW (row.map D.str) 1;rw[show((1:Nat):Int)=1 by rfl]at this
  rw[this,←List.map_drop,List.drop_one]
 simp only[jx,aB h,jM,e]
theorem CN{j i:Nat}(h:Ω[j]?=some (.lst (row.map .str))):∃ao,ai [] Ω ao/\Jy [some (.ref k),some (.str n),some (.int i),some (.ref j)] Ω=if n∈row.tail then .rt (.int i) ao else .nx [some (.ref k),some (.str n),some (.int i),some (.ref j)] ao:=by
 have c:=q_ h;have e:(Ω++[Cell.lst (row.tail.map .str)])[Ω.length]?=some (.lst (row.tail.map .str)):=aq;have f:ai [] Ω (Ω++[Cell.lst (row.tail.map .str)]):=ai.app;generalize Ω++[Cell.lst (row.tail.map .str)]=b at *;have d:=iY (w:=n) e;refine⟨b,f,?_⟩
 by_cases a:n∈row.tail
 .rw[if_pos a,decide_eq_true a]at *
  simp[Jy,c,d,-nO]
 .rw[if_neg a,decide_eq_false a]at *
  simp[Jy,c,d,-nO]
theorem CO(R:Rw Ω k js rs)(B:rs.length<=1000):∃d ao,bS 4 2 qZ [.ref k,.str n] Ω=.ok d ao/\ai [] Ω ao/\((d=.non/\∀r∈rs,n∉r.tail)\/∃i:Nat,d=.int i/\∃r,rs[i]?=some r/\n∈r.tail):=by
 rw[bx (by rfl)]
 have x:aZ 4 [D.ref k,.str n]=[some (.ref k),some (.str n),none,none]:=rfl;rw[x];have y:=R.len
 have o:lM (aa 0) [some (.ref k),some (.str n),none,none] Ω=.ok (.Ir (.ref k)) Ω:=by
  unfold lM;simp[aB R.ce]
 unfold qZ;rw[ah,cq,o,bt]
 refine bA (R:=λr=>∃d ao,gp (sq r _)=.ok d ao/\ai [] Ω ao/\((d=.non/\∀r∈rs,n∉r.tail)\/∃i:Nat,d=.int i/\∃r,rs[i]?=some r/\n∈r.tail)) (ds:=dw 0 (js.map .ref))
  (λi g a=>∃p q,g=[some (.ref k),some (.str n),p,q]/\(∀r∈rs.take i,n∉r.tail)/\ai [] Ω a) ?_ ?_ ?_ fuel 0 _ _ (by rw[ip];unfold fuel;simp;omega) (Nat.zero_le _) ⟨none,none,rfl,by simp,ai.refl⟩
 .rintro i g a ⟨_,_,_,_,K⟩
  show(fF a (.ref k)).map (dw 0)=_
  rw[aE,aB (R.keep K).ce];rfl
 .rintro i d g a z ⟨p,q,rfl,l,K⟩
  obtain⟨C,s,rfl⟩:=jG _ 0 i d z;obtain⟨j,A,rfl⟩:=iZ s;obtain⟨c,u,f⟩:=(R.keep K).al.at' A;rw[Nat.zero_add];refine⟨[some (.ref k),some (.str n),some (.int i),some (.ref j)],rfl,?_⟩;obtain⟨t,w,e⟩:=CN (k:=k) (n:=n) (i:=i) f;rw[e]
  by_cases m:n∈c.tail
  .rw[if_pos m]
   exact⟨.int i,t,rfl,K.trans w,.inr ⟨i,rfl,c,u,m⟩⟩
  .rw[if_neg m]
   refine⟨_,_,rfl,λr b=>?_,K.trans w⟩
   rw[List.take_succ,u]at b;simp at b;rcases b with h|rfl
   .exact l r h
   .exact m
 .rintro g a ⟨p,q,rfl,l,K⟩
  rw[ip,List.length_map,←y,List.take_length]at l;exact⟨.non,a,rfl,K,.inl ⟨rfl,l⟩⟩
def Gb(a:aV):SM:=(ag (cU (eK (aa 1) (m2 (ax .Is) (mN (aS a) (ab (aa 0) (ab (m2 az (aa 1) (ae (.int 0))) af))) (ae .non))) (ag (bh (m2 az (aa 1) (ae (.int 0)))) aj) aj) aj)
def z_(a:aV):SM:=(ag (cj (bX 1) (aK (aa 0)) (Gb a)) (ag (bh (ae .non)) aj))
theorem iJ{j:Nat}{ds:List D}(h:Ω[j]?=some (.lst ds)):fS Ω (.ref j)=some (!ds.isEmpty):=by simp only[fS,h]
theorem CP{j:Nat}(R:Rw Ω k js rs)(p:rs.length<=1000)(h:Ω[j]?=some (.lst (row.map .str))):∃ao,ai [] Ω ao/\Gb (bS 4 2 qZ) [some (.ref k),some (.ref j)] Ω=match freeOf rs row with|some m=>.rt (.str m) ao|none=>.nx [some (.ref k),some (.ref j)] ao:=by
 cases row with
 |nil=>
  have b:=iJ h;refine⟨Ω,ai.refl,?_⟩;simp[Gb,freeOf,b]
 |cons m t=>
  have b:=iJ h;have b:fS Ω (.ref j)=some true:=b;have c:az (.ref j) (.int 0) Ω=.ok (.str m) Ω:=cE h (L2.cQ (j:=0) rfl);obtain⟨d,a,l,o,q⟩:=CO (n:=m) R p;have s:=o.get _ _ h (by simp)
  have e:az (.ref j) (.int 0) a=.ok (.str m) a:=cE s (L2.cQ (j:=0) rfl);refine⟨a,o,?_⟩;generalize bS 4 2 qZ=w at *;rcases q with ⟨rfl,f⟩|⟨i,rfl,r,g,f⟩
  .rw[dC (by rintro⟨r,g,u⟩;exact f r g u)]
   simp[Gb,b,c,l,e]
  .rw[dB ⟨r,List.mem_of_getElem? g,f⟩]
   simp[Gb,b,c,l]
theorem CQ(R:Rw Ω k js rs)(u:rs.length<=1000):∃ao,bS 2 1 (z_ (bS 4 2 qZ)) [.ref k] Ω=.ok (zL (free rs)) ao/\ai [] Ω ao:=by
 rw[bx (by rfl)]
 have w:aZ 2 [D.ref k]=[some (.ref k),none]:=rfl;rw[w];have y:=R.len;have n:aK (aa 0) [some (.ref k),none] Ω=.ok (.seq (.ref k)) Ω:=by simp[aX (x:=.ref k) (by rw[aE,aB R.ce])]
 unfold z_;rw[ah,cq,n,bt]
 refine bA (R:=λr=>∃ao,gp (sq r _)=.ok (zL (free rs)) ao/\ai [] Ω ao) (ds:=js.map .ref)
  (λi h a=>∃o,h=[some (.ref k),o]/\(rs.take i).findSome? (freeOf rs)=none/\ai [] Ω a) ?_ ?_ ?_ fuel 0 _ _ (by unfold fuel;simp;omega) (Nat.zero_le _) ⟨none,rfl,rfl,ai.refl⟩
 .rintro i h a ⟨_,_,_,K⟩
  rw[cp,aE,aB (R.keep K).ce]
 .rintro i d h a p ⟨o,rfl,c,K⟩
  obtain⟨j,z,rfl⟩:=iZ p;have R2:=R.keep K;obtain⟨b,l,f⟩:=R2.al.at' z;refine⟨[some (.ref k),some (.ref j)],rfl,?_⟩;obtain⟨q,s,e⟩:=CP R2 u f;rw[e];have A:rs.take (i+1)=rs.take i++[b]:=by rw[List.take_succ,l];rfl
  cases t:freeOf rs b with
  |some m=>
   refine⟨q,?_,K.trans s⟩
   have:free rs=some m:=by
    unfold free
    have p:rs=rs.take i++(b::rs.drop (i+1)):=by
     have g:i<rs.length:=(List.getElem?_eq_some_iff.mp l).1;rw[List.getElem?_eq_getElem g]at l;cases l;rw[←List.drop_eq_getElem_cons g,List.take_append_drop]
    conv=>lhs;arg 2;rw[p]
    rw[List.findSome?_append,c,List.findSome?_cons,t];rfl
   rw[this];rfl
  |none=>
   refine⟨_,rfl,?_,K.trans s⟩;rw[A,List.findSome?_append,c,List.findSome?_cons,t];rfl
 .rintro h a ⟨o,rfl,c,K⟩
  rw[List.length_map,←y,List.take_length]at c;refine⟨a,?_,K⟩;unfold free;rw[c];rfl
end
end
open PySem.Spec PyProof.Rows
section
variable{P:Program}{w:World}{K:PySem.W.Frag}{mg:Str->Option Value}{base:Heap}{T:bb}{k:Nat}
end
end Mir
namespace Mir
open PySem PySem.Spec PyProof.Rows L2
section
variable{X:Cx}{pins:List (Addr×Obj)}{σ:L2.St}{s:Shared}
end
variable [aH]
section
variable{κ:Str->Addr->Prop}{α gW:List Addr}{Z Z0:Addr->Prop}{Ω:aD}{H H0 H2:Hp}{ρ:aR}{σ:L2.St}
end
section
variable{P:Program}{w:World}{K:PySem.W.Frag}{mg:Str->Option Value}{base:Heap}{T T2:bb}{k:Nat}
end
section
variable{P:Program}{w:World}{K:PySem.W.Frag}{mg:Str->Option Value}{base:Heap}{T:bb}{k:Nat}
end
end Mir
namespace Mir
open PySem L2
variable [aH]
section
variable{Ω ao:aD}{ρ:aR}{σ:Str->Int}{t kl:Nat}{kvs:List (List Key×D)}{line:List Str}{w x:Str}
theorem Aa{ds:List D}{n:Nat}:du ds none (some (n:Int))=ds.take n:=qX ds n
theorem nQ{n:Nat}(h:Ω[kl]?=some (.lst (line.map .str))):jx (.ref kl) none (some (n:Int)) Ω=.ok (.ref Ω.length) (Ω++[.lst ((line.take n).map .str)]):=by
 simp only[jx,aB h,jM,Aa,List.map_take]
@[simp] theorem Jz{a:Ty}{ds:List D}:nE a (.tup ds) Ω=.ok (.bl (a==.tuple)) Ω:=rfl
@[simp] theorem JA{a:Ty}{z:Str}:nE a (.str z) Ω=.ok (.bl (a==.str)) Ω:=rfl
@[simp] theorem JB{a:Ty}:nE a .non Ω=.ok (.bl false) Ω:=rfl
@[simp] theorem Ge{ds:List D}:aP .len [.tup ds] Ω=.ok (.int ds.length) Ω:=rfl
end
section
variable{Ω ao:aD}{ρ:aR}
theorem CS{nc:Bool}{mc me:EM}{τ:aR}{src:Src}{ds:List D}{p:D->Bool}{g:D->D}(I:Nat->aD->Prop)(q:∀i Ω,I i Ω->er src Ω=some ds)
  (r:∀i d Ω,ds[i]?=some d->I i Ω->∃ao,gK nc mc ([some d]++τ) Ω=.ok (p d) ao/\I (i+1) ao/\(p d=true->me ([some d]++τ) ao=.ok (g d) ao)) :
  ∀(f i:Nat) (a:List D) (Ω:aD),ds.length - i<f->i<=ds.length->a.length+ds.length<=100000+i->I i Ω->∃ao,sk nc mc me 0 τ src f i a Ω=.ok (a++((ds.drop i).filter p).map g) ao/\I ds.length ao:=by
 intro f
 induction f with
 |zero=>intro i a Ω s;omega
 |succ f m=>
  intro i a Ω s y z j;simp only[sk,q i Ω j]
  by_cases b:i<ds.length
  .have h:ds[i]?=some ds[i]:=List.getElem?_eq_getElem b
   rw[h];have t:nH 0 ds[i]=some [some ds[i]]:=rfl;simp only[t];obtain⟨e,u,o,w⟩:=r i ds[i] Ω h j;rw[if_pos (aF (n:=a.length+1) (by omega)),u,List.drop_eq_getElem_cons b,List.filter_cons]
   cases x:p ds[i]with
   |true=>
    dsimp only;rw[w x];dsimp only;obtain⟨c,k,l⟩:=m (i+1) (a++[g ds[i]]) e (by omega) b (by rw[List.length_append];simp;omega) o
    exact⟨c,by rw[k];simp,l⟩
   |false=>
    dsimp only;obtain⟨c,k,l⟩:=m (i+1) a e (by omega) b (by omega) o
    exact⟨c,by rw[k];simp,l⟩
  .have h:ds[i]?=none:=List.getElem?_eq_none (by omega)
   rw[h,List.drop_of_length_le (by omega)]
   have:i=ds.length:=by omega
   subst this;exact⟨Ω,by simp,j⟩
theorem Ab{me mc:EM}{nc:Bool}{mi:IM}{cap:List Nat}{src:Src}{ds:List D}{p:D->Bool}{g:D->D}(I:Nat->aD->Prop)(b:mi ρ Ω=.ok src ao)(c:∀i Ω,I i Ω->er src Ω=some ds)
  (f:∀i d Ω,ds[i]?=some d->I i Ω->∃ao,gK nc mc ([some d]++dI cap ρ) Ω=.ok (p d) ao/\I (i+1) ao/\(p d=true->me ([some d]++dI cap ρ) ao=.ok (g d) ao)) (k:ds.length<=90000) (j:I 0 ao) :
  ∃a,aW me nc mc mi 0 cap ρ Ω=.ok (.ref a.length) (a++[.lst ((ds.filter p).map g)])/\I ds.length a:=by
 unfold aW;rw[b];dsimp only;obtain⟨a,e,h⟩:=CS I c f fuel 0 [] ao (by unfold fuel;omega) (Nat.zero_le _) (by simp;omega) j
 refine⟨a,?_,h⟩;rw[e];rfl
end
section
variable{Ω ao:aD}{ρ:aR}{σ:Str->Int}{kl fn b:Nat}{line ys:List Str}{w:Str}{M:List (List D->aV)}{fp:List Nat}{I:List Str->aD->Prop}
theorem sT{k j:Nat}{us vs:List Str}(h:Ω[k]?=some (.lst (us.map .str)))(h':Ω[j]?=some (.lst (vs.map .str))):ax .Eq (.ref k) (.ref j) Ω=.ok (.bl (decide (us=vs))) Ω:=by
 rw[sP,iC,eL (n:=7) h,eL (n:=7) h',jP]
 have e:dH .Eq (L1 us) (L1 vs)=.ok (decide (us=vs)):=by
  rw[CG,pF 7,pF 7]
  show(if (true&&true)=true then Out.ok (ez (us.map .str) (vs.map .str))else .bad)=_
  rw[nL];rfl
 rw[e];rfl
theorem nR{k j:Nat}{us vs:List Str}(h:Ω[k]?=some (.lst (us.map .str)))(h':Ω[j]?=some (.lst (vs.map .str))):ax .NotEq (.ref k) (.ref j) Ω=.ok (.bl (!decide (us=vs))) Ω:=by
 rw[sQ,iC,eL (n:=7) h,eL (n:=7) h',jP]
 have e:dH .NotEq (L1 us) (L1 vs)=.ok (!decide (us=vs)):=by
  rw[wD,pF 7,pF 7]
  show(if (true&&true)=true then Out.ok (!ez (us.map .str) (vs.map .str))else .bad)=_
  rw[nL];rfl
 rw[e];rfl
theorem CT{i:Nat}{us:List Str}(h:Ω[kl]?=some (.lst (us.map .str))):jx (.ref kl) (some (i:Int)) none Ω=.ok (.ref Ω.length) (Ω++[.lst ((us.drop i).map .str)]):=by
 simp only[jx,aB h,jM,qW,List.map_drop]
end
section
variable{Ω ao:aD}{ρ:aR}{k:Nat}{js:List Nat}{rs:List (List Str)}{row:List Str}{n:Str}
theorem gR.snoc{j:Nat}(h:gR Ω js rs)(a:Ω[j]?=some (.lst (row.map .str))):gR Ω (js++[j]) (rs++[row]):=aI.append (R:=Jx Ω) h (.cons a .nil)
theorem cX{ds:List D}(h:Ω[k]?=some (.lst ds)):aP .list [.ref k] Ω=.ok (.ref Ω.length) (Ω++[.lst ds]):=by
 show gH (iw [.ref k] Ω) (jl [.ref k] Ω)=_
 simp only[iw,aE,aB h];rfl
theorem kZ{me mc:EM}{mi:IM}{cap:List Nat}{f:List Str->List Str}{P:Nat->Prop}(s:mi ρ Ω=.ok (.seq (.ref k)) Ω)(R:Rw Ω k js rs)(C:rs.length<=1000)
  (t:∀j c aG,ai [] Ω aG->j∈js->c∈rs->aG[j]?=some (.lst (c.map .str))->∃l a,me ([some (.ref j)]++dI cap ρ) aG=.ok (.ref l) a/\ai [] aG a/\a[l]?=some (.lst ((f c).map .str))/\P l) :
  ∃b a,aW me true mc mi 0 cap ρ Ω=.ok (.ref a.length) (a++[.lst (b.map .ref)])/\ai [] Ω a/\gR a b (rs.map f)/\∀j∈b,P j:=by
 have u:=R.len
 obtain⟨D,a,e,b,rfl,n,w,o⟩:=iI (me:=me) (mc:=mc) (cap:=cap) (ds:=js.map .ref) (λi g a=>∃b,g=b.map .ref/\gR a b ((rs.take i).map f)/\ai [] Ω a/\∀j∈b,P j) s ⟨[],rfl,.nil,ai.refl,by simp⟩
  (λi g a h=>by
   obtain⟨_,_,_,K,_⟩:=h;rw[cp,aE,aB (R.keep K).ce])
  (λi d g aG y h=>by
   obtain⟨b,rfl,n,K,o⟩:=h;obtain⟨j,p,rfl⟩:=iZ y;obtain⟨c,q,m⟩:=(R.keep K).al.at' p;obtain⟨l,a,e,r,z,A⟩:=t j c aG K (List.mem_of_getElem? p) (List.mem_of_getElem? q) m;refine⟨.ref l,a,e,b++[l],by simp,?_,K.trans r,?_⟩
   .rw[List.take_succ,q,List.map_append]
    exact(n.keep r (by simp)).snoc z
   .intro x B
    rcases List.mem_append.mp B with h|h
    .exact o x h
    .rw[List.mem_singleton.mp h];exact A) (by simp;omega)
 refine⟨b,a,e,w,?_,o⟩;rw[List.length_map,←u,List.take_length]at n;exact n
def wM(i:Nat):EM:=aW (mN (aP .list) (ab (aa 0) af)) true (ae .non) (aK (aa i)) 0 []
theorem Ac{i:Nat}(n:ρ[i]?=some (some (.ref k)))(R:Rw Ω k js rs)(o:rs.length<=1000):∃a c ao,wM i ρ Ω=.ok (.ref c) ao/\ai [] Ω ao/\Rw ao c a rs/\(∀j∈a,Ω.length<=j)/\Ω.length<=c/\c∉a:=by
 have d:aK (aa i) ρ Ω=.ok (.seq (.ref k)) Ω:=by
  rw[bg,fM,n,fL,ak];exact aX (by rw[aE,aB R.ce])
 obtain⟨a,g,e,K,l,p⟩:=kZ (me:=mN (aP .list) (ab (aa 0) af)) (mc:=ae .non) (cap:=[]) (f:=λr=>r) (P:=λj=>Ω.length<=j) d R o (λj m b K _ _ h=>by
  refine⟨b.length,b++[.lst (m.map .str)],?_,ai.app,aq,K.len⟩;have:=cX h;simp[dI,this])
 rw[List.map_id']at l;refine⟨a,g.length,_,e,K.trans ai.app,⟨aq,l.keep (fp:=[]) ai.app (by simp)⟩,p,K.len,λh=>?_⟩
 have:=l.lt _ h;omega
def stC:EM:=(uE (m2 (ax .Eq) (cH (aa 0) true (ae .non) false (ae (.int 1))) (mN aT (ab (aa 1) af))) (cH (aa 0) false (ae (.int 1)) true (ae .non)) (aa 0))
theorem CU{j:Nat}(h:Ω[j]?=some (.lst (row.map .str))):jx (.ref j) none (some 1) Ω=.ok (.ref Ω.length) (Ω++[.lst ((row.take 1).map .str)]):=nQ (n:=1) h
theorem CV{j:Nat}(h:Ω[j]?=some (.lst (row.map .str))):∃d ao,stC [some (.ref j),some (.str n)] Ω=.ok (.ref d) ao/\ai [] Ω ao/\ao[d]?=some (.lst ((cI n row).map .str))/\(d=j\/Ω.length<=d):=by
 have k:=CU h;have l:(Ω++[Cell.lst ((row.take 1).map .str)])[Ω.length]?=some (.lst ((row.take 1).map .str)):=aq;have g:ai [] Ω (Ω++[Cell.lst ((row.take 1).map .str)]):=ai.app;generalize Ω++[Cell.lst ((row.take 1).map .str)]=a at *;have m:(a++[Cell.lst [.str n]])[a.length]?=some (.lst ([n].map .str)):=aq;have e:ai [] a (a++[Cell.lst [.str n]]):=ai.app;have f:=e.get _ _ l (by simp)
 have i:=e.get _ _ (g.get _ _ h (by simp)) (by simp)
 have c:=sT f m
 have o:(m2 (ax .Eq) (cH (aa 0) true (ae .non) false (ae (.int 1))) (mN aT (ab (aa 1) af))) [some (.ref j),some (.str n)] Ω=.ok (.bl (decide (row.take 1=[n]))) (a++[Cell.lst [.str n]]):=by
  simp[k,aF,c,-sP]
 generalize a++[Cell.lst [.str n]]=b at *;have K:=g.trans e;have p:=q_ i;unfold stC;rw[nM,o,cS,cJ,c_,ak]
 by_cases c:row.take 1=[n]
 .rw[if_pos (by rw[decide_eq_true c])]
  refine⟨b.length,b++[.lst (row.tail.map .str)],?_,K.trans ai.app,?_,.inr K.len⟩
  .simp[p]
  .unfold cI;rw[if_pos c];exact aq
 .rw[if_neg (by rw[decide_eq_false c];simp)]
  refine⟨j,b,by simp,K,?_,.inl rfl⟩
  unfold cI;rw[if_neg c];exact i
def FnAt(d:aV):Prop:=∀b k e c,Rw b k e c->c.length<=1000->∃a,d [.ref k] b=.ok (zL (free c)) a/\ai [] b a
theorem Gf:FnAt (bS 2 1 (z_ (bS 4 2 qZ))):=λ_ _ _ _ R a=>CQ R a
def tM:EM:=(mN (aP .any) (ab (aa 1) af))
def stM:EM:=(aW stC true (ae .non) (aK (aa 1)) 0 [3])
def bM(st:SM)(a:aV):SM:=(ag (av 3 (mN (aS a) (ab (aa 1) af)))
 (ag (cU (m2 (ax .Is) (aa 3) (ae .non))
 (ag st
 aj)
 aj)
 (ag (bH (dg hY bq (aa 2) (ab (aa 3) af)))
 (ag (av 1 stM)
 aj))))
def CW(st:SM)(a:aV):SM:=
 (ag (av 1 (wM 0))
 (ag (av 2 (mN aT af))
 (ag (gM tM (bM st a))
 (ag (bh (aa 2))
 aj))))
theorem sU(R:Rw Ω k js rs):aP .any [.ref k] Ω=.ok (.bl ((rs.map λr=>!r.isEmpty).any id)) Ω:=by
 show lL .any [.ref k] Ω=_
 unfold lL;rw[sO];have h:=gs (n:=6) (rs:=js) (L:=rs) R.ce R.al;have:bN (eO Ω 8) [.ref k]=some [LL rs]:=by simp[h]
 rw[this,sN];have:vT .any [LL rs]=.ok (false,.bl ((rs.map λr=>!r.isEmpty).any id)):=by simp[LL,any_rows,-List.any_map]
 rw[this,CK]
theorem Gg{st:SM}{m:aV}(I:FnAt m){R0:D}{q:Nat}{a3:Option D}{b:List Str}(R:Rw Ω k js rs)(E:rs.length<=1000)(J:free rs=some n)(L:Ω[q]?=some (.lst (b.map .str)))(o:q≠k)(l:q∉js)(hp:b.length<=900) :
  ∃p c ao,bM st m [some R0,some (.ref k),some (.ref q),a3] Ω=.nx [some R0,some (.ref p),some (.ref q),some (.str n)] ao/\Rw ao p c (rs.map (cI n))/\ao[q]?=some (.lst ((b++[n]).map .str))/\q≠p/\q∉c/\ai [q] Ω ao:=by
 obtain⟨a,F,r⟩:=I Ω k js rs R E;rw[J]at F;have s:=r.get _ _ L (by simp)
 have M:=R.keep r;have t:=d_ (d:=.str n) s (by simp;omega)
 have N:=eD s;have G:ai [q] a (a.set q (.lst (b.map .str++[.str n]))):=ai.set (by simp)
 have H:(a.set q (.lst (b.map .str++[.str n])))[q]?=some (.lst ((b++[n]).map .str)):=by rw[aQ s];simp
 generalize a.set q (.lst (b.map .str++[.str n]))=g at *;have R2:Rw g k js rs:=M.sS G (by simpa using Ne.symm o) (λj u h=>l (by rw[←List.mem_singleton.mp h];exact u))
 have w:aK (aa 1) [some R0,some (.ref k),some (.ref q),some (.str n)] g=.ok (.seq (.ref k)) g:=by
  rw[bg];exact aX (by rw[aE,aB R2.ce])
 have ql:=bp H
 obtain⟨c,i,O,y,Q,A⟩:=kZ (ρ:=[some R0,some (.ref k),some (.ref q),some (.str n)]) (me:=stC) (mc:=ae .non) (cap:=[3]) (f:=cI n) (P:=λj=>j≠q) w R2 E (λj S i K u _ h=>by
  obtain⟨T,B,e,U,A,h5⟩:=CV (n:=n) h;refine⟨T,B,e,U,A,?_⟩;rcases h5 with rfl|h5
  .exact λz=>l (z▸u)
  .have:=K.len
   omega)
 have V:=y.len;refine⟨i.length,c,i++[.lst (c.map .ref)],?_,⟨aq,Q.keep (fp:=[]) ai.app (by simp)⟩,dS (y.get _ _ H (by simp)),by omega,λh=>A q h rfl,?_⟩
 .have C:stM [some R0,some (.ref k),some (.ref q),some (.str n)] g=.ok (.ref i.length) (i++[.lst (c.map .ref)]):=O
  have X:(av 3 (mN (aS m) (ab (aa 1) af))) [some R0,some (.ref k),some (.ref q),a3] Ω=.nx [some R0,some (.ref k),some (.ref q),some (.str n)] a:=by simp[F,zL]
  have Y:(cU (m2 (ax .Is) (aa 3) (ae .non)) (ag st aj) aj) [some R0,some (.ref k),some (.ref q),some (.str n)] a=.nx [some R0,some (.ref k),some (.ref q),some (.str n)] a:=by simp
  have Z:(bH (dg hY bq (aa 2) (ab (aa 3) af))) [some R0,some (.ref k),some (.ref q),some (.str n)] a=.nx [some R0,some (.ref k),some (.ref q),some (.str n)] g:=by
   rw[bT,fb (x:=.ref q) (ao:=a) (by simp) N]
   simp[t]
  unfold bM;rw[ah,X,aA,ah,Y,aA,ah,Z,aA,ah,br,C];rfl
 .exact((dv.up r).trans G).trans (dv.up (y.trans ai.app))
theorem wN{st:SM}{d:aV}(x:FnAt d){R0:D}{rs:List (List Str)}{o:List Str}(M:Mg rs o) :
  ∀(Ω:aD) (a:List Str) (q k:Nat) (f:List Nat) (a3:Option D) (m:Nat),Rw Ω k f rs->Ω[q]?=some (.lst (a.map .str))->q≠k->q∉f->rs.length<=1000->a.length+o.length<=900->o.length<m ->
   ∃a1 c ao,ek tM (bM st d) m [some R0,some (.ref k),some (.ref q),a3] Ω=.nx [some R0,a1,some (.ref q),c] ao/\ao[q]?=some (.lst ((a++o).map .str))/\ai [q] Ω ao:=by
 induction M with
 |@done rs h=>
  intro Ω a q k f a3 m R i _ _ _ _ g;obtain⟨m,rfl⟩:∃k,m=k+1:=⟨m - 1,by simp at g;omega⟩
  refine⟨some (.ref k),a3,Ω,?_,by rw[List.append_nil];exact i,ai.refl⟩
  have e:=sU R;rw[any_false h]at e;have j:tM [some R0,some (.ref k),some (.ref q),a3] Ω=.ok (.bl false) Ω:=by simp[tM,e]
  simp only[ek,j];rfl
 |@step rs n o h y _ z=>
  intro Ω a q k f a3 m R i l p w A g;obtain⟨m,rfl⟩:∃k,m=k+1:=⟨m - 1,by simp at g;omega⟩
  rw[List.length_cons]at A g;obtain⟨B,s,t,C,E,F,G,H,I⟩:=Gg (st:=st) x (R0:=R0) (a3:=a3) R w y i l p (by omega)
  obtain⟨a1,c,u,J,K,L⟩:=z t (a++[n]) q B s (some (.str n)) m E F G H (by simpa using w) (by simp;omega) (by omega)
  refine⟨a1,c,u,?_,by rw[K];simp,I.trans L⟩
  have e:=sU R;rw[any_true h]at e;have j:tM [some R0,some (.ref k),some (.ref q),a3] Ω=.ok (.bl true) Ω:=by simp[tM,e]
  simp only[ek,j]
  show(match bM st d [some R0,some (.ref k),some (.ref q),a3] Ω with|.nx b ao=>ek tM (bM st d) m b ao|.ct b ao=>ek tM (bM st d) m b ao|.bk b ao=>.nx b ao|r=>r)=_
  rw[C];exact J
def Ad(d:aV):Prop:=∀(b:aD) (k:Nat) (e:List Nat) (c:List (List Str)) (o:List Str),Rw b k e c->Mg c o->c.length<=1000->o.length<=900->∃q a,d [.ref k] b=.ok (.ref q) a/\a[q]?=some (.lst (o.map .str))/\b.length<=q/\ai [] b a
theorem Gh{st:SM}{g:aV}(m:FnAt g):Ad (bS 4 1 (CW st g)):=by
 intro n k A B o R M j p;rw[bx (by rfl)]
 have q:aZ 4 [D.ref k]=[some (.ref k),none,none,none]:=rfl;rw[q];obtain⟨c,b,a,r,d,e,C,E,F⟩:=Ac (ρ:=[some (.ref k),none,none,none]) (i:=0) rfl R j;have s:(av 1 (wM 0)) [some (.ref k),none,none,none] n=.nx [some (.ref k),some (.ref b),none,none] a:=by rw[br,r];rfl
 have l:ai [] a (a++[Cell.lst []]):=ai.app;have t:(a++[Cell.lst []])[a.length]?=some (.lst (([]:List Str).map .str)):=aq;have u:(av 2 (mN aT af)) [some (.ref k),some (.ref b),none,none] a=.nx [some (.ref k),some (.ref b),some (.ref a.length),none] (a++[Cell.lst []]):=by simp[aF]
 have G:=bp e.ce;have w:=e.al.lt;obtain⟨H,I,f,x,y,z⟩:=wN (st:=st) m (R0:=.ref k) M (a++[Cell.lst []]) [] a.length b c none fuel (e.keep l) t (by omega) (λh=>by have:=w _ h;omega) j (by simpa using p) (by unfold fuel;omega)
 refine⟨a.length,f,?_,y,d.len,ai.new (d.trans l) z (by simpa using d.len)⟩
 unfold CW;rw[ah,s,aA,ah,u,aA,ah];unfold gM;rw[x];rfl
end
end Mir
namespace Mir
open PySem
open PySem.Spec PyProof.Rows L2
structure dG(K:PySem.W.Frag)(x:Str)(st:Stmt)(f:Addr)(fd:FuncData):Prop where
 ns:PySem.W.nsIn K mainGlobals x=some (some (.ref f))
 fn:B_ K x x st f fd
theorem k9{K:PySem.W.Frag}{x:Str}{st:Stmt}{f:Addr}{oc:Value}{i g:Option Addr}{e:Array (Option Value)}{kV d h b ct:Value}(a:PySem.W.nsIn K mainGlobals x=some (some (.ref f)))
  (l:K.lookup f=some ⟨oc,i,.func (PySem.W.fnOf x x (bI st) (bC st) (aw st) .none kV d h g b ct),e⟩) (c:PySem.W.codeIn K b x=true) (k:PySem.W.keepIn K (.ref f)=true):dG K x st f (PySem.W.fnOf x x (bI st) (bC st) (aw st) .none kV d h g b ct):=⟨a,eo l c k⟩
variable [aH]
structure Gi(K:PySem.W.Frag)(x qual:Str)(st:Stmt)(dV:Value)(f:Addr)(fd:FuncData):Prop where
 ex:∃(oc:Value) (od:Option Addr) (kV doc pm:Value) (an:Option Addr) (cdv ct:Value) (osl:Array (Option Value)),
  fd=PySem.W.fnOf x qual (bI st) (bC st) (aw st) dV kV doc pm an cdv ct/\K.lookup f=some ⟨oc,od,.func fd,osl⟩/\PySem.W.codeIn K cdv qual=true
 kp:PySem.W.keepIn K (.ref f)=true
section
variable{P:Program}{w:World}{K:PySem.W.Frag}{mg:Str->Option Value}{base:Heap}{T:bb}{k:Nat}
theorem Ae(W:bu P w K mg base T k){x qual:Str}{st:Stmt}{D:Value}{f:Addr}{y:FuncData}(F:Gi K x qual st D f y){N ps td:List Str}{c:SM}(I:bW N ps (aw st)=true)(J:ck T td st N=some c) :
    dc P w K mg base jE (k+1) f y ps (dX (eQ mg) (bS N.length ps.length c)):=by
  obtain⟨oc,od,kV,L,pm,an,n,ct,M,rfl,O,o⟩:=F.ex;have p:=nq I;refine AU O o p (λR H Q E h=>?_) λA outer s H R Q E U h=>?_
  · obtain⟨e,Z,i,l,S,r,g⟩:=h
    rw[r.length];unfold bS at g;split at g
    · rename_i V;exact V
    · exact g.elim
  · obtain⟨e,Z,i,l,S,r,g⟩:=h
    have G:fK (ov jE P w K mg base N qual (aw st) f n A outer s H E).uL (eQ mg) T k (aw st) N:=
      { scope:=rfl,names:=rfl,calm:=rfl,room:=U,eP:=W.eP,own:=PassesOwn.never,KA:=λ_ _ _=>.inl rfl,rV:=p.nd,kind:=p.kind,uL:=λ_ _ _ h=>h,fld:=W.fld,cst:=W.cst
        lC:=λx F h=>⟨W.lC x F h⟩,fn:=λx F h=>⟨W.fn x F h⟩,met:=λm C F h=>⟨W.met m C F h⟩,cls:=λC F h=>let ⟨j,X,Y⟩:=W.cls C F h;⟨j,X,⟨Y⟩⟩,clo:=W.clo }
    refine⟨Fu (eQ mg) pf e Z H c (aZ N.length l) i,(iA (sF G 30 60) J e Z H (aZ N.length l) i).uL,e,Z,kO S r,?_⟩;unfold bS at g;split at g
    · cases q:c (aZ N.length l) i with
      |rt d a=>rw[q]at g;exact λv t b u gr st r=>g v t b u gr st r
      |nx z a=>rw[q]at g;exact λσ t b u B=>g .non t b u B.gr B.st (a_ rfl)
      |bk z a=>rw[q]at g;exact g.elim
      |ct z a=>rw[q]at g;exact g.elim
      |exc x a=>rw[q]at g;exact g
      |bad=>rw[q]at g;exact g.elim
    · exact g.elim
end
end Mir
namespace Mir
open PySem L2
variable [aH]
abbrev oR(k:Nat):Option D:=some (.ref k)
abbrev oI(i:Int):Option D:=some (.int i)
abbrev oS(x:Str):Option D:=some (.str x)
def bU(Ω:aD)(e:Nat)(kvs:List (Key×D)):Prop:=Ω[e]?=some (.dK kvs)\/Ω[e]?=some (.dF kvs)
abbrev dW:=List (Str×List Str)
noncomputable def nms(E:dW):List Str:=E.map (·.1)
noncomputable def bj(E:dW)(n:Str):List Str:=(E.lookup n).getD []
def aC(P:Nat->Prop)(Ω:aD)(kvs:List (Key×D))(E:dW):Prop:=aI (λa p=>a.1=.inr p.1/\∃j,a.2=.ref j/\P j/\Ω[j]?=some (.lst (p.2.map .str))) kvs E
section
variable{Ω ao:aD}{ρ:aR}{e q j:Nat}{kvs:List (Key×D)}{E:dW}{P P':Nat->Prop}{n:Str}{r:List Str}{fp:List Nat}{ord:List Str}
theorem bU.keep(h:bU Ω e kvs)(K:ai fp Ω ao)(a:e∉fp):bU ao e kvs:=h.imp (λz=>K.get _ _ z a) λz=>K.get _ _ z a
theorem bU.lt(h:bU Ω e kvs):e<Ω.length:=h.elim bp bp
theorem bU.nl(h:bU Ω e kvs):∀ds,Ω[e]?≠some (.lst ds):=λds z=>by rcases h with h|h<;>rw[h]at z<;>cases z
theorem bU.ni(h:bU Ω e kvs):∀C a,Ω[e]?≠some (.ins C a):=λC a z=>by rcases h with h|h<;>rw[h]at z<;>cases z
theorem Bi(h:bU Ω e kvs){m:Nat}:eO Ω (m+1) (.ref e)=none:=by rcases h with h|h<;>simp only[eO,h]
theorem pJ(h:bU Ω e kvs):de Ω (.ref e)=none:=by rcases h with h|h<;>simp only[de,h]
theorem wO(h:bU Ω e kvs):qE Ω (.ref e) (.str n)=some (cf kvs (.inr n)):=by rcases h with h|h<;>simp only[qE,h,qD,Option.map_some]
theorem Af(h:bU Ω e kvs):ax .In (.str n) (.ref e) Ω=.ok (.bl (cf kvs (.inr n)).isSome) Ω:=by
 rw[nO,iC,jN,Bi h]
 show gH .bad _=_
 rw[qY];simp only[fT,wO h];rfl
theorem wQ(h:bU Ω e kvs):ax .NotIn (.str n) (.ref e) Ω=.ok (.bl (!(cf kvs (.inr n)).isSome)) Ω:=by
 rw[kY,iC,jN,Bi h]
 show gH .bad _=_
 rw[qY];simp only[fT,wO h];rfl
theorem dU{d:D}(h:bU Ω e kvs)(a:cf kvs (.inr n)=some d):az (.ref e) (.str n) Ω=.ok d Ω:=by
 unfold az;rw[fN,jQ,aE,pJ h]
 show gH .bad _=_
 rw[qY,fN];simp only[yM,wO h,a];rfl
theorem Bj(h:bU Ω e kvs):aP .len [.ref e] Ω=.ok (.int kvs.length) Ω:=by
 show gH (nA [.ref e] Ω) (gH (qL [.ref e] Ω) _)=_
 have a:nA [.ref e] Ω=.bad:=by simp only[nA,aE,pJ h]
 have b:qL [.ref e] Ω=.ok (.int kvs.length) Ω:=by rcases h with h|h<;>simp only[qL,h]
 rw[a,b];rfl
theorem wR(h:bU Ω e kvs):qM Ω (.ref e)=some kvs:=by rcases h with h|h<;>simp only[qM,h]
theorem CY(h:bU Ω e kvs):aP .list [.ref e] Ω=.ok (.ref Ω.length) (Ω++[.lst (kvs.map λa=>iS a.1)]):=by
 show gH (iw [.ref e] Ω) (jl [.ref e] Ω)=_
 have b:iw [.ref e] Ω=.bad:=by simp only[iw,aE,pJ h]
 have c:jl [.ref e] Ω=.ok (.ref Ω.length) (Ω++[.lst (kvs.map λa=>iS a.1)]):=by simp only[jl,wR h];rfl
 rw[b,c];rfl
theorem wU(h:bU Ω e kvs):eW [.ref e] Ω=.ok (.ref Ω.length) (Ω++[.dK kvs]):=by
 show gH (gj [.ref e] Ω) (kG [.ref e] Ω)=_
 have a:gj [.ref e] Ω=.bad:=by simp only[gj,pJ h]
 have b:kG [.ref e] Ω=.ok (.ref Ω.length) (Ω++[.dK kvs]):=by simp only[kG,wR h];rfl
 rw[a,b];rfl
theorem set_same{c:Cell}(h:Ω[e]?=some c):Ω.set e c=Ω:=by
 apply List.ext_getElem?;intro i;rw[List.getElem?_set];split
 .rename_i z;subst z;rw[if_pos (bp h),h]
 .rfl
theorem k_(h:bU Ω e kvs):srcOf Ω (.ref e)=.ok (.keys e) (Ω.set e (.dF kvs)):=by
 unfold srcOf;rw[aE,pJ h];rcases h with h|h
 .simp only[h]
 .simp only[h,set_same h]
theorem wV(h:bU Ω e kvs):sh Ω (.ref e)=.ok (.items e) (Ω.set e (.dF kvs)):=by
 unfold sh;rcases h with h|h
 .simp only[h]
 .simp only[h,set_same h]
theorem mI(h:bU Ω e kvs):(Ω.set e (.dF kvs))[e]?=some (.dF kvs):=by rcases h with h|h<;>exact aQ h
theorem hV(h:Ω[e]?=some (.dF kvs)):er (.keys e) Ω=some (kvs.map λa=>iS a.1):=by simp only[er,h]
theorem aC.imp(h:aC P Ω kvs E)(e:∀j,P j->P' j):aC P' Ω kvs E:=aI.imp (λ_ _ ⟨a,j,b,c,d⟩=>⟨a,j,b,e j c,d⟩) h
theorem aC.keep(h:aC P Ω kvs E)(K:ai fp Ω ao)(e:∀j∈fp,¬ P j):aC P ao kvs E:=aI.imp (λ_ _ ⟨a,j,b,c,d⟩=>⟨a,j,b,c,K.get _ _ d λz=>e j z c⟩) h
theorem aC.cm(h:aC P Ω kvs E)(K:ai fp Ω ao)(e:∀j∈fp,∀ds,Ω[j]?≠some (.lst ds)):aC P ao kvs E:=aI.imp (λ_ _ ⟨a,j,b,c,d⟩=>⟨a,j,b,c,K.get _ _ d λz=>e j z _ d⟩) h
theorem aC.lt(h:aC P Ω kvs E):aC (λj=>P j/\j<Ω.length) Ω kvs E:=aI.imp (λ_ _ ⟨a,j,b,c,d⟩=>⟨a,j,b,⟨c,bp d⟩,d⟩) h
theorem aC.len(h:aC P Ω kvs E):E.length=kvs.length:=aI.length h
theorem aC.keys(h:aC P Ω kvs E):(kvs.map λb=>iS b.1)=(nms E).map .str:=by
 unfold aC at h
 induction h with
 |nil=>rfl
 |cons r _ a=>
  simp only[List.map_cons,nms]at a ⊢;rw[a,r.1];rfl
theorem aC.look(h:aC P Ω kvs E)(n:Str):(∀r,E.lookup n=some r->∃j,cf kvs (.inr n)=oR j/\P j/\Ω[j]?=some (.lst (r.map .str)))/\(E.lookup n=none->cf kvs (.inr n)=none):=by
 unfold aC at h
 induction h with
 |nil=>exact⟨λr h=>by simp at h,λ_=>rfl⟩
 |@cons g p kvs E a _ b=>
  obtain⟨c,j,d,e,f⟩:=a;rw[List.lookup_cons,dk,c]
  by_cases z:n=p.1
  .subst z
   rw[if_pos rfl,d];simp;exact⟨e,f⟩
  .rw[if_neg (λq=>z (by cases q;rfl)),beq_eq_false_iff_ne.mpr z]
   exact b
theorem nS(h:E.lookup n=some r):(n,r)∈E:=by
 induction E with
 |nil=>simp at h
 |cons p E a=>
  rw[List.lookup_cons]at h;split at h
  .rename_i z
   cases h;rw[eq_of_beq z];simp
  .exact List.mem_cons_of_mem _ (a h)
theorem lookup_some(h:n∈nms E):∃r,E.lookup n=some r:=by
 unfold nms at h
 induction E with
 |nil=>simp at h
 |cons p E a=>
  rw[List.lookup_cons];split
  .exact⟨_,rfl⟩
  .rename_i z
   refine a ?_;rw[List.map_cons]at h;rcases List.mem_cons.mp h with q|q
   .rw[q]at z;simp at z
   .exact q
theorem hW(h:n∈nms E):E.lookup n=some (bj E n):=by
 obtain⟨r,a⟩:=lookup_some h;unfold bj;rw[a];rfl
theorem lookup_none(h:n∉nms E):E.lookup n=none:=by
 cases q:E.lookup n with
 |none=>rfl
 |some r=>exact absurd (List.mem_map_of_mem (f:=(·.1)) (nS q)) h
theorem aC.at(h:aC P Ω kvs E)(a:n∈nms E):∃j,cf kvs (.inr n)=oR j/\P j/\Ω[j]?=some (.lst ((bj E n).map .str)):=(h.look n).1 _ (hW a)
theorem aC.is(h:aC P Ω kvs E):(cf kvs (.inr n)).isSome=decide (n∈nms E):=by
 by_cases q:n∈nms E
 .obtain⟨j,a,_⟩:=h.at q
  rw[a,decide_eq_true q];rfl
 .rw[(h.look n).2 (lookup_none q),decide_eq_false q];rfl
theorem wW{k:Key}(h:cf kvs k=none):(kvs.any λa=>decide (a.1=k))=false:=by rw[iH,h];rfl
theorem aC.put(h:aC P Ω kvs E)(b:n∉nms E)(c:P j)(d:Ω[j]?=some (.lst (r.map .str))):aC P Ω (cZ kvs (.inr n) (.ref j)) (E++[(n,r)]):=by
 have:=wW ((h.look n).2 (lookup_none b));unfold cZ;rw[if_neg (by rw[this];simp)]
 exact aI.append (R:=λ(a:Key×D) (p:Str×List Str)=>a.1=.inr p.1/\∃j,a.2=.ref j/\P j/\Ω[j]?=some (.lst (p.2.map .str))) h (.cons ⟨rfl,j,rfl,c,d⟩ .nil)
def nT(E:dW)(a:List Str):List Str:=(nms E).filter λn=>!decide (n∈a)&&(bj E n).all λx=>decide (x∈a)
def Ln:EM:=(aW (m2 (ax .In) (aa 0) (aa 1)) true (ae .non) (aK (m2 az (aa 1) (aa 0))) 0 [2])
def Gj:EM:=(eK (m2 (ax .NotIn) (aa 0) (aa 2)) (mN (aP .all) (ab Ln af)))
def Lo:SM:=(ag (bh (aW (aa 0) false Gj (aK (aa 0)) 0 [0,1])) aj)
theorem sV{a:List Bool}(h:Ω[q]?=some (.lst (a.map .bl))):aP .all [.ref q] Ω=.ok (.bl (a.all id)) Ω:=by
 show lL .all [.ref q] Ω=_
 unfold lL;rw[sO];have c:bN (eO Ω 7) (a.map .bl)=some (a.map .bl):=iX (λ_=>CJ) a
 have:bN (eO Ω 8) [.ref q]=some [.lst (a.map .bl)]:=by simp[jO h c]
 rw[this,sN,wI]
 have d:fg (a.map D.bl)=some a:=by
  clear h c this
  induction a with
  |nil=>rfl
  |cons b a e=>simp[fg,e]
 rw[d];rfl
theorem nU{a:Nat}{xs:List Str}{me:EM}{mi:IM}{cap:List Nat}(c:Ω[a]?=some (.lst (xs.map .str)))(f:mi ρ Ω=.ok (.seq (.ref a)) Ω){p:Str->Bool}(h:∀x∈xs,me ([oS x]++dI cap ρ) Ω=.ok (.bl (p x)) Ω)(i:xs.length<=90000) :
  ∃ao,mN (aP .all) (ab (aW me true (ae .non) mi 0 cap) af) ρ Ω=.ok (.bl (xs.all p)) ao/\ai [] Ω ao:=by
 have e:=cF (ρ:=ρ) (Ω:=Ω) (ao:=Ω) (me:=me) (mc:=ae .non) (nc:=true) (mi:=mi) (cap:=cap) (src:=.seq (.ref a)) (ds:=xs.map .str) (p:=λ_=>true) (g:=λd=>match d with|.str x=>.bl (p x)|d=>d) f (by rw[cp,aE,aB c]) (λd _=>rfl) (λd j _=>by
  obtain⟨x,b,rfl⟩:=List.mem_map.mp j;exact h x b) (by simpa using i)
 have k:((xs.map D.str).filter λ_=>true).map (λd=>match d with|.str x=>D.bl (p x)|d=>d)=(xs.map p).map .bl:=by
  rw[List.filter_eq_self.mpr (λ_ _=>rfl),List.map_map,List.map_map]
  rfl
 rw[k]at e;refine⟨Ω++[.lst ((xs.map p).map .bl)],?_,ai.app⟩;rw[cM,aO,e,ak,aU,ak,ak,sV aq];simp[List.all_map]
def Ag(f:aV):Prop:=∀(c:aD) (e q:Nat) (b:List (Key×D)) (E:dW) (d:List Str) (P:Nat->Prop),bU c e b->aC P c b E->c[q]?=some (.lst (d.map .str))->(∀n∈nms E,(bj E n).length<=1000)->E.length<=1000 ->
 ∃z a,f [.ref e,.ref q] c=.ok (.ref z) a/\a[z]?=some (.lst ((nT E d).map .str))/\ai [e] c a/\a[e]?=some (.dF b)/\c.length<=z
theorem Gk:Ag (bS 2 2 Lo):=by
 intro h e q c E a P l M N o hl;rw[bx (by rfl)]
 have R:aZ 2 [D.ref e,.ref q]=[oR e,oR q]:=rfl;rw[R];have r:q≠e:=λz=>l.nl _ (z▸N)
 have s:ai [e] h (h.set e (.dF c)):=ai.set (by simp)
 have t:=mI l;have u:=M.cm s (λj m=>by rw[List.mem_singleton.mp m];exact l.nl)
 have y:=s.get _ _ N (by simpa using r)
 have l0:(h.set e (.dF c)).length=h.length:=by simp
 have A:aK (aa 0) [oR e,oR q] h=.ok (.keys e) (h.set e (.dF c)):=by
  rw[bg];exact k_ l
 generalize h.set e (.dF c)=B at *
 obtain⟨k,S,C⟩:=Ab (ρ:=[oR e,oR q]) (me:=aa 0) (mc:=Gj) (nc:=false) (cap:=[0,1]) (ds:=(nms E).map .str) (p:=λd=>match d with|.str n=>!decide (n∈a)&&(bj E n).all λx=>decide (x∈a)|_=>false) (g:=λd=>d) (λ_ b=>ai [] B b) A
  (λi b K=>by rw[hV (K.get _ _ t (by simp)),M.keys])
  (λi d b F K=>by
   obtain⟨n,T,rfl⟩:=ew F;have O:n∈nms E:=List.mem_of_getElem? T;have Q:=K.get _ _ y (by simp)
   have U:=K.get _ _ t (by simp)
   have V:=u.keep K (by simp)
   obtain⟨j,X,_,m⟩:=V.at O;have f:=jS (w:=n) Q;have G:=dU (n:=n) (.inr U) X
   show ∃H,cx (Gj [oS n,oR e,oR q] b)=.ok (!decide (n∈a)&&(bj E n).all λx=>decide (x∈a)) H/\_
   by_cases I:n∈a
   .refine⟨b,?_,K,λ_=>rfl⟩
    rw[decide_eq_true I]at f ⊢;simp[Gj,f,-kY]
   .rw[decide_eq_false I]at f
    obtain⟨J,L,Y⟩:=nU (ρ:=[oS n,oR e,oR q]) (me:=m2 (ax .In) (aa 0) (aa 1)) (mi:=aK (m2 az (aa 1) (aa 0))) (cap:=[2]) (p:=λx=>decide (x∈a)) m (by
     rw[bg]
     show(az (.ref e) (.str n) b).bind _=_
     rw[G,ak];exact aX (by rw[aE,aB m])) (λx _=>by
     show ax .In (.str x) (.ref q) b=_
     exact iY Q) (by have:=o n O;omega)
    refine⟨J,?_,K.trans Y,λ_=>rfl⟩
    have L:mN (aP .all) (ab Ln af) [oS n,oR e,oR q] b=_:=L;unfold Gj;rw[gE]
    show cx ((ax .NotIn (.str n) (.ref q) b).bind _)=_
    rw[f,ak,cJ]
    show cx (mN (aP .all) (ab Ln af) [oS n,oR e,oR q] b)=_
    rw[L,cS,cJ,c_];simp[I]) (by simp[nms];omega) ai.refl
 refine⟨k.length,k++[.lst ((nT E a).map .str)],?_,aq,?_,dS (C.get _ _ t (by simp)),by have:=C.len;omega⟩
 .unfold Lo
  rw[ah,dR,S]
  have Z:(((nms E).map D.str).filter (λd=>match d with|.str n=>!decide (n∈a)&&(bj E n).all λx=>decide (x∈a)|_=>false)).map (λd=>d)=(nT E a).map .str:=by
   unfold nT;rw[List.map_id',List.filter_map];rfl
  rw[Z];rfl
 .exact(s.trans (dv.up C)).trans ai.app
end
theorem hX{xs:List Str}:∀{o:List Str},o.Nodup->(∀x∈o,x∈xs)->o.length<=xs.length:=by
 intro o g c
 induction o generalizing xs with
 |nil=>simp
 |cons a o h=>
  have d:=c a (by simp)
  have e:=List.nodup_cons.mp g
  have:=h (xs:=xs.erase a) e.2 (λx f=>by
   have b:x≠a:=λz=>e.1 (by rw[←z];exact f)
   exact(List.mem_erase_of_ne b).mpr (c x (by simp[f])))
  rw[List.length_erase_of_mem d]at this;have i:0<xs.length:=List.length_pos_of_mem d;simp only[List.length_cons];omega
structure Ef(E:dW)(ord:List Str):Prop where
 nd:ord.Nodup
 sub:∀n∈ord,n∈nms E
 pre:∀(i:Nat) (n:Str),ord[i]?=some n->∀x∈bj E n,x∈ord.take i
structure Acy(E:dW):Prop where
 nd:(nms E).Nodup
 el:∀n∈nms E,∀x∈bj E n,x∈nms E
 rk:∃rk:Str->Nat,∀n∈nms E,∀x∈bj E n,rk x<rk n
section
variable{Ω ao:aD}{ρ:aR}{e q j:Nat}{kvs:List (Key×D)}{E:dW}{P P':Nat->Prop}{n:Str}{r:List Str}{fp:List Nat}{ord:List Str}
theorem jT:n∈nT E ord↔n∈nms E/\n∉ord/\∀x∈bj E n,x∈ord:=by
 unfold nT;simp[List.mem_filter]
theorem Ef.step(h:Ef E ord)(f:(nms E).Nodup):Ef E (ord++nT E ord) where
 nd:=List.nodup_append.mpr ⟨h.nd,f.filter _,λa g b j z=>(jT.mp j).2.1 (z▸g)⟩
 sub:=λn k=>(List.mem_append.mp k).elim (h.sub n) λz=>(jT.mp z).1
 pre:=λi n c x d=>by
  by_cases e:i<ord.length
  .rw[List.getElem?_append_left e]at c
   rw[List.take_append_of_le_length (Nat.le_of_lt e)];exact h.pre i n c x d
  .rw[List.getElem?_append_right (by omega)]at c
   have:=(jT.mp (List.mem_of_getElem? c)).2.2 x d;rw[List.take_append,List.take_of_length_le (by omega)]
   exact List.mem_append_left _ this
theorem CZ(A:Acy E)(hz:nT E ord=[]):∀n∈nms E,n∈ord:=by
 obtain⟨d,e⟩:=A.rk
 have b:∀(k:Nat) n,d n<k->n∈nms E->n∈ord:=by
  intro k
  induction k with
  |zero=>intro n h;omega
  |succ k f=>
   intro n g a
   by_cases q:n∈ord
   .exact q
   .have:n∈nT E ord:=jT.mpr ⟨a,q,λx c=>f x (by have:=e n a x c;omega) (A.el n a x c)⟩
    rw[hz]at this;simp at this
 exact λn a=>b _ n (Nat.lt_succ_self _) a
theorem rb{k a:Nat}{xs b:List Str}(h:Ω[k]?=some (.lst (xs.map .str)))(c:Ω[a]?=some (.lst (b.map .str)))(d:xs.length+b.length<=10000):fI (.ref k) [.ref a] Ω=.ok .non (Ω.set k (.lst ((xs++b).map .str))):=by
 simp only[fI,iD h,iD c];rw[if_pos (aF (by simp;omega)),List.map_append]
def C8(a:aV):SM:=(ag (bH (dg hY fI (aa 1) (ab (aa 2) af)))
 (ag (av 2 (mN (aS a) (ab (aa 0) (ab (aa 1) af))))
 aj))
def Lp(a:aV):SM:=
 (ag (av 1 (mN aT af))
 (ag (av 2 (mN (aS a) (ab (aa 0) (ab (aa 1) af))))
 (ag (gM (aa 2)
 (C8 a))
 (ag (bh (aa 1))
 aj))))
structure Gd(E:dW):Prop extends Acy E where
 few:E.length<=100
 short:∀n∈nms E,(bj E n).length<=100
theorem wX{s:aV}(Y:Ag s)(G:Gd E) :
  ∀(m:Nat) (Ω:aD) (d:List Str) (q z:Nat),Ω[e]?=some (.dF kvs)->aC P Ω kvs E->Ef E d->Ω[q]?=some (.lst (d.map .str))->Ω[z]?=some (.lst ((nT E d).map .str))->q≠z->¬ P q->E.length - d.length<m ->
   ∃f a2 ao,ek (aa 2) (C8 s) m [oR e,oR q,oR z] Ω=.nx [oR e,oR q,a2] ao/\ao[q]?=some (.lst (f.map .str))/\Ef E f/\(∀n∈nms E,n∈f)/\ai [q] Ω ao:=by
 intro m
 induction m with
 |zero=>intro Ω d q z _ _ _ _ _ _ _ h;omega
 |succ m Z=>
  intro Ω d q z S hr F t T a0 U hm;have u:=iJ T
  have b0:d.length<=E.length:=by
   have:=hX F.nd F.sub;simpa[nms]using this
  by_cases C:nT E d=[]
  .refine⟨d,oR z,Ω,?_,t,F,CZ G.toAcy C,ai.refl⟩
   have H:aa 2 [oR e,oR q,oR z] Ω=.ok (.ref z) Ω:=rfl;rw[C]at u;simp only[ek,H,cS,u];rfl
  .have H:aa 2 [oR e,oR q,oR z] Ω=.ok (.ref z) Ω:=rfl
   have u:fS Ω (.ref z)=some true:=by
    rw[u];cases hc:nT E d with
    |nil=>exact absurd hc C
    |cons a b=>rfl
   have I:=F.step G.nd
   have i:(d++nT E d).length<=E.length:=by
    have:=hX I.nd I.sub;simpa[nms]using this
   have c0:=G.few;have hx:=rb t T (by rw[List.length_append]at i;omega)
   have hL:=eD t;have J:ai [q] Ω (Ω.set q (.lst ((d++nT E d).map .str))):=ai.set (by simp)
   have l:=aQ (e:=.lst ((d++nT E d).map .str)) t;have w:q≠e:=λz=>by rw[z,S]at t;cases t
   have o:=J.get _ _ S (by simpa using Ne.symm w)
   have y:=hr.keep J (λj K=>by rw[List.mem_singleton.mp K];exact U)
   generalize Ω.set q (.lst ((d++nT E d).map .str))=A at *;obtain⟨V,p,e2,L,D,B,lz⟩:=Y A e q kvs E (d++nT E d) P (.inr o) y l (λn X=>by have:=G.short n X;omega) (by omega)
   have M:ai [q] A p:=⟨D.len,λk c N X=>by
    by_cases h:k=e
    .subst h;rw[o]at N;cases N;exact B
    .exact D.get k c N (by simpa using h)⟩
   have O:=y.cm D (λj K ds=>by rw[List.mem_singleton.mp K,o];simp)
   have Q:=D.get _ _ l (by simpa using w)
   have lq:=bp l
   obtain⟨f,a2,R,e3,h3,F3,h4,K3⟩:=Z p (d++nT E d) q V B O I Q L (by omega) U (by
    have:0<(nT E d).length:=List.length_pos_iff.mpr C;rw[List.length_append]at i ⊢;omega)
   refine⟨f,a2,R,?_,h3,F3,h4,(J.trans M).trans K3⟩
   have r1:C8 s [oR e,oR q,oR z] Ω=.nx [oR e,oR q,oR V] p:=by
    unfold C8;rw[ah,bT,fb (x:=.ref q) (ao:=Ω) (by rfl) hL]
    have:(ab (aa 2) af:AM) [oR e,oR q,oR z] Ω=.ok [.ref z] Ω:=rfl;rw[this,ak,hx,bt,aA];simp[e2]
   simp only[ek,H,cS,u,c_]
   show(match C8 s [oR e,oR q,oR z] Ω with|.nx g ao=>ek (aa 2) (C8 s) m g ao|.ct g ao=>ek (aa 2) (C8 s) m g ao|.bk g ao=>.nx g ao|r=>r)=_
   rw[r1];exact e3
def Ah(f:aV):Prop:=∀(d:aD) (e:Nat) (b:List (Key×D)) (E:dW) (P:Nat->Prop),bU d e b->aC P d b E->Gd E ->
 ∃c z a,f [.ref e] d=.ok (.ref z) a/\a[z]?=some (.lst (c.map .str))/\Ef E c/\(∀n∈nms E,n∈c)/\ai [e] d a/\a[e]?=some (.dF b)/\d.length<=z
theorem Gm{p:aV}(A:Ag p):Ah (bS 3 1 (Lp p)):=by
 intro a e q E P B I G;rw[bx (by rfl)]
 have J:aZ 3 [D.ref e]=[oR e,none,none]:=rfl;rw[J];have C:(a++[Cell.lst []])[a.length]?=some (.lst (([]:List Str).map .str)):=aq;have m:ai [] a (a++[Cell.lst []]):=ai.app;have K:(av 1 (mN aT af)) [oR e,none,none] a=.nx [oR e,oR a.length,none] (a++[Cell.lst []]):=by simp[aF]
 have b:=B.keep m (by simp)
 have d:=(I.lt.keep m (by simp))
 have U:=B.lt;have V:(a++[Cell.lst []]).length=a.length+1:=by simp
 generalize a++[Cell.lst []]=f at *;have L:=G.few;obtain⟨z,g,M,r,o,l,X⟩:=A f e a.length q E [] _ b d C (λn s=>by have:=G.short n s;omega) (by omega)
 have t:=o.get _ _ C (by simp;omega)
 have u:=d.cm o (λj N O=>by rw[List.mem_singleton.mp N];exact b.nl O)
 obtain⟨w,Y,x,Q,R,F,S,y⟩:=wX A G fuel g [] a.length z l u ⟨List.nodup_nil,by simp,λi n h=>by simp at h⟩ t r (by omega) (λh=>by omega) (by unfold fuel;omega)
 refine⟨w,a.length,x,?_,R,F,S,?_,y.get _ _ l (by simp;omega),Nat.le_refl _⟩
 .unfold Lp
  rw[ah,K,aA,ah];have T:(av 2 (mN (aS p) (ab (aa 0) (ab (aa 1) af)))) [oR e,oR a.length,none] f=.nx [oR e,oR a.length,oR z] g:=by simp[M]
  rw[T,aA,ah];unfold gM;rw[Q];rfl
 .refine⟨by have:=m.len;have:=o.len;have:=y.len;omega,λk c H s=>y.get k c (o.get k c (m.get k c H (by simp)) s) ?_⟩
  have:=bp H;simp;omega
def Lq:EM:=(aW (aa 0) false (m2 (ax .NotIn) (aa 0) (aa 1)) (aK (aa 0)) 0 [1])
def Lr(a:aV)(rest:SM):SM:=
 (ag (av 1 (mN (aS a) (ab (aa 0) af)))
 (ag (av 3 Lq)
 (ag (cU (gJ (aa 3))
 (ag (bh (ae .non))
 aj)
 aj)
 rest)))
def C9(d:aV):Prop:=∀(c:aD) (e:Nat) (a:List (Key×D)) (E:dW) (P:Nat->Prop),bU c e a->aC P c a E->Gd E ->
 ∃b,d [.ref e] c=.ok .non b/\ai [e] c b/\b[e]?=some (.dF a)
theorem Gn{f:aV}(q:Ah f){rest:SM}:C9 (bS 5 1 (Lr f rest)):=by
 intro Ω e i E P k m G;rw[bx (by rfl)]
 have r:aZ 5 [D.ref e]=[oR e,none,none,none,none]:=rfl;rw[r];obtain⟨s,z,a,t,u,F,c,w,b,I⟩:=q Ω e i E P k m G;have x:=G.few
 have l:aK (aa 0) [oR e,oR z,none,none,none] a=.ok (.keys e) a:=by
  rw[bg]
  show srcOf a (.ref e)=_
  rw[k_ (.inr b),set_same b]
 have o:=cF (ρ:=[oR e,oR z,none,none,none]) (Ω:=a) (ao:=a) (me:=aa 0) (mc:=m2 (ax .NotIn) (aa 0) (aa 1)) (nc:=false) (mi:=aK (aa 0)) (cap:=[1]) (src:=.keys e) (ds:=(nms E).map .str) (p:=λ_=>false) (g:=λd=>d) l (by rw[hV b,m.keys]) (λd k=>by
  obtain⟨n,y,rfl⟩:=List.mem_map.mp k
  show cx (ax .NotIn (.str n) (.ref z) a)=_
  rw[jS u,decide_eq_true (c n y)];rfl) (λd _ h=>by cases h) (by simp[nms];omega)
 have A:Lq [oR e,oR z,none,none,none] a=.ok (.ref a.length) (a++[.lst []]):=by
  have:(((nms E).map D.str).filter (λ_=>false)).map (λd:D=>d)=[]:=by simp
  rw[this]at o;exact o
 refine⟨a++[.lst []],?_,w.trans ai.app,dS b⟩;have B:=iJ (Ω:=a++[Cell.lst []]) (j:=a.length) (ds:=[]) aq;unfold Lr;have C:(av 1 (mN (aS f) (ab (aa 0) af))) [oR e,none,none,none,none] Ω=.nx [oR e,oR z,none,none,none] a:=by simp[t]
 have H:(av 3 Lq) [oR e,oR z,none,none,none] a=.nx [oR e,oR z,none,oR a.length,none] (a++[.lst []]):=by rw[br,A];rfl
 rw[ah,C,aA,ah,H,aA,ah];simp[B]
end
noncomputable def bo(ns:List Str)(L:Str->List Str):dW:=ns.map λn=>(n,L n)
def Gp(E:dW)(L:Str->List Str):Prop:=∀n∈nms E,∃o,Mg ((bj E n).map L++[bj E n]) o/\L n=n::o
section
variable{Ω ao:aD}{ρ:aR}{e q j:Nat}{kvs:List (Key×D)}{E:dW}{P P':Nat->Prop}{n:Str}{r:List Str}{fp:List Nat}{ord:List Str}{L:Str->List Str}
theorem bV{ns:List Str}:nms (bo ns L)=ns:=by
 unfold nms bo;rw[List.map_map];exact(List.map_congr_left λx _=>rfl).trans (List.map_id _)
theorem ed{ns:List Str}(h:n∈ns):bj (bo ns L) n=L n:=by
 unfold bj bo
 induction ns with
 |nil=>simp at h
 |cons a ns b=>
  rw[List.map_cons,List.lookup_cons]
  by_cases z:n=a
  .subst z;simp
  .rw[beq_eq_false_iff_ne.mpr z]
   refine b ?_;rcases List.mem_cons.mp h with q|q
   .exact absurd q z
   .exact q
theorem eY{a b:Nat}{xs c:List D}(h:Ω[a]?=some (.lst xs))(d:Ω[b]?=some (.lst c))(e:xs.length+c.length<=10000):aM .Add (.ref a) (.ref b) Ω=.ok (.ref Ω.length) (Ω++[.lst (xs++c)]):=by
 rw[wJ,zU,aB h,aB d,zT,if_pos (aF (by omega))]
 rfl
def Ph:EM:=(aW (mN (aP .list) (ab (m2 az (aa 1) (aa 0)) af)) true (ae .non) (aK (aa 1)) 0 [0])
def Ls:EM:=(mN aT (ab (mN (aP .list) (ab (aa 1) af)) af))
def Lu:SM:=(ag (bh (m2 (aM .Add) Ph Ls)) aj)
def wY(h:aV):Prop:=∀(c:aD) (l a:Nat) (e:List (Key×D)) (f:dW) (P:Nat->Prop) (b:List Str),bU c l e->aC P c e f->c[a]?=some (.lst (b.map .str))->(∀x∈b,x∈nms f)->b.length<=100 ->
 ∃g k d,h [.ref l,.ref a] c=.ok (.ref k) d/\Rw d k g (b.map (bj f)++[b])/\ai [] c d/\c.length<=k/\(∀j∈g,c.length<=j)/\k∉g
theorem Gq:wY (bS 2 2 Lu):=by
 intro Ω l a J q P e L M r N hl;rw[bx (by rfl)]
 have O:aZ 2 [D.ref l,.ref a]=[oR l,oR a]:=rfl;rw[O]
 have s:aK (aa 1) [oR l,oR a] Ω=.ok (.seq (.ref a)) Ω:=by
  rw[bg];exact aX (by rw[aE,aB r])
 obtain⟨ys,f,Q,g,rfl,p,G,t⟩:=iI (ρ:=[oR l,oR a]) (me:=mN (aP .list) (ab (m2 az (aa 1) (aa 0)) af)) (mc:=ae .non) (cap:=[0]) (ds:=e.map .str) (λi k b=>∃g,k=g.map .ref/\gR b g ((e.take i).map (bj q))/\ai [] Ω b/\∀j∈g,Ω.length<=j) s ⟨[],rfl,.nil,ai.refl,by simp⟩
  (λi k b h=>by
   obtain⟨_,_,_,K,_⟩:=h;rw[cp,aE,aB (K.get _ _ r (by simp))])
  (λi d k b u h=>by
   obtain⟨g,rfl,p,K,t⟩:=h;obtain⟨x,H,rfl⟩:=ew u;have w:=L.keep K (by simp)
   obtain⟨j,R,_,S⟩:=(M.keep K (by simp)).at (N x (List.mem_of_getElem? H))
   have z:=dU (n:=x) w R;have m:=cX S;refine⟨.ref b.length,b++[.lst ((bj q x).map .str)],?_,g++[b.length],by simp,?_,K.trans ai.app,?_⟩
   .show((az (.ref l) (.str x) b).bind _).bind _=_
    rw[z,ak]
    show aP .list [.ref j] b=_
    exact m
   .rw[List.take_succ,H,List.map_append]
    exact(p.keep (fp:=[]) ai.app (by simp)).snoc aq
   .intro y A
    rcases List.mem_append.mp A with h|h
    .exact t y h
    .rw[List.mem_singleton.mp h];exact K.len) (by simp;omega)
 rw[List.length_map,List.take_length]at p;have B:Ph [oR l,oR a] Ω=.ok (.ref f.length) (f++[.lst (g.map .ref)]):=Q;have T:(f++[Cell.lst (g.map .ref)])[f.length]?=some (.lst (g.map .ref)):=aq;have I:ai [] Ω (f++[Cell.lst (g.map .ref)]):=G.trans ai.app;have C:gR (f++[Cell.lst (g.map .ref)]) g (e.map (bj q)):=p.keep (fp:=[]) ai.app (by simp)
 have l2:(f++[Cell.lst (g.map .ref)]).length=f.length+1:=by simp
 have U:=p.lt;have kl:=G.len;have V:=p.len;generalize f++[Cell.lst (g.map .ref)]=b at *;have m:=cX (I.get _ _ r (by simp))
 have X:Ls [oR l,oR a] b=.ok (.ref (b.length+1)) ((b++[.lst (e.map .str)])++[.lst [.ref b.length]]):=by
  unfold Ls
  have:(mN (aP .list) (ab (aa 1) af)) [oR l,oR a] b=.ok (.ref b.length) (b++[.lst (e.map .str)]):=by
   show aP .list [.ref a] b=_
   exact m
  rw[cM,aO,this,ak,aU,ak,ak,cT,if_pos (aF (by simp))]
  simp
 have E:ai [] b ((b++[Cell.lst (e.map .str)])++[Cell.lst [.ref b.length]]):=ai.app.trans ai.app
 have Y:((b++[Cell.lst (e.map .str)])++[Cell.lst [.ref b.length]])[b.length+1]?=some (.lst [.ref b.length]):=by
  have:=aq (Ω:=b++[Cell.lst (e.map .str)]) (c:=.lst [.ref b.length]) (l:=[]);simpa using this
 have Z:((b++[Cell.lst (e.map .str)])++[Cell.lst [.ref b.length]])[b.length]?=some (.lst (e.map .str)):=dS aq;have l3:((b++[Cell.lst (e.map .str)])++[Cell.lst [.ref b.length]]).length=b.length+2:=by simp
 generalize (b++[Cell.lst (e.map .str)])++[Cell.lst [.ref b.length]]=o at *;have g3:=E.get _ _ T (by simp)
 have F:=C.keep E (by simp)
 have hc:=eY g3 Y (by simp at V ⊢;omega)
 refine⟨g++[b.length],o.length,o++[.lst (g.map .ref++[.ref b.length])],?_,⟨?_,?_⟩,(I.trans E).trans ai.app,by omega,?_,?_⟩
 .unfold Lu
  rw[ah,dR,cV,B,ak,X,ak,hc];rfl
 .have:=aq (Ω:=o) (c:=.lst (g.map .ref++[.ref b.length])) (l:=[])
  simpa using this
 .exact(F.snoc Z).keep (fp:=[]) ai.app (by simp)
 .intro y A
  rcases List.mem_append.mp A with h|h
  .exact t y h
  .rw[List.mem_singleton.mp h];omega
 .intro h
  rcases List.mem_append.mp h with h|h
  .have:=U _ h;omega
  .have:=List.mem_singleton.mp h;omega
theorem nV{kvs:List (Key×D)}{k:Key}{v:D}(h:k∉kvs.map (·.1)):cZ kvs k v=kvs++[(k,v)]:=by
 unfold cZ;rw[if_neg];intro z;obtain⟨a,b,c⟩:=List.any_eq_true.mp z;exact h (List.mem_map.mpr ⟨a,b,of_decide_eq_true c⟩)
theorem i8:∀(ps b:List (Key×D)),((b++ps).map (·.1)).Nodup->ps.foldl (λa p=>cZ a p.1 p.2) b=b++ps
 |[],b,_=>by simp
 |p::ps,b,h=>by
  have h1:p.1∉b.map (·.1):=by
   rw[List.map_append,List.map_cons]at h;have:=(List.nodup_append.mp h).2.2;exact λz=>this _ z _ (by simp) rfl
  rw[List.foldl_cons,nV h1,i8 ps _ (by simpa using h)]
  simp
theorem wZ{ns:List Str}{f:Str->D}(h:∀n∈ns,∃j,f n=.ref j/\P j/\Ω[j]?=some (.lst ((L n).map .str))):aC P Ω (ns.map λn=>(.inr n,f n)) (bo ns L):=by
 unfold aC bo
 induction ns with
 |nil=>exact .nil
 |cons a ns b=>exact .cons ⟨rfl,h a (by simp)⟩ (b λn c=>h n (by simp[c]))
theorem rd{me:EM}{mi:IM}{cap:List Nat}{src:Src}{ns:List Str}{f:Str->D}(m:mi ρ Ω=.ok src Ω)(o:er src Ω=some (ns.map .str))(r:∀n∈ns,me ([oS n]++dI cap ρ) Ω=.ok (.tup [.str n,f n]) Ω)(A:ns.length<=1000)(s:ns.Nodup) :
  ∃q ao,mN eW (ab (aW me true (ae .non) mi 0 cap) af) ρ Ω=.ok (.ref q) ao/\ao[q]?=some (.dK (ns.map λn=>(.inr n,f n)))/\ai [] Ω ao/\Ω.length<=q:=by
 have e:=cF (ρ:=ρ) (Ω:=Ω) (ao:=Ω) (me:=me) (mc:=ae .non) (nc:=true) (mi:=mi) (cap:=cap) (src:=src) (ds:=ns.map .str) (p:=λ_=>true) (g:=λd=>match d with|.str n=>.tup [.str n,f n]|d=>d) m o (λd _=>rfl) (λd t _=>by
  obtain⟨x,i,rfl⟩:=List.mem_map.mp t;exact r x i) (by simp;omega)
 have u:((ns.map D.str).filter λ_=>true).map (λd=>match d with|.str n=>D.tup [.str n,f n]|d=>d)=ns.map λn=>.tup [.str n,f n]:=by
  rw[List.filter_eq_self.mpr (λ_ _=>rfl),List.map_map]
  rfl
 rw[u]at e;have w:(Ω++[Cell.lst (ns.map λn=>.tup [.str n,f n])])[Ω.length]?=some (.lst (ns.map λn=>.tup [.str n,f n])):=aq
 have k:ai [] Ω (Ω++[Cell.lst (ns.map λn=>.tup [.str n,f n])]):=ai.app
 generalize Ω++[Cell.lst (ns.map λn=>.tup [.str n,f n])]=c at *
 have y:bN kH (ns.map λn=>D.tup [.str n,f n])=some (ns.map λn=>(.inr n,f n)):=iX (f:=kH) (g:=λn=>D.tup [.str n,f n]) (h:=λn=>(.inr n,f n)) (λn=>rfl) ns
 have l:=i8 (ns.map λn=>((.inr n:Key),f n)) [] (by
  rw[List.nil_append,List.map_map];have:(ns.map ((λp:Key×D=>p.1) ∘ λn=>((.inr n:Key),f n)))=ns.map Sum.inr:=rfl
  rw[this];exact List.Pairwise.map _ (λa b j z=>j (by cases z;rfl)) s)
 rw[List.nil_append]at l;refine⟨c.length,c++[.dK (ns.map λn=>(.inr n,f n))],?_,aq,k.trans ai.app,k.len⟩
 rw[cM,aO,e,ak,aU,ak,ak]
 show gH (gj [.ref Ω.length] c) _=_
 simp only[gj,aB w,y,l];rfl
def Pj:EM:=(mN (aP .all) (ab (aW (m2 (ax .In) (aa 0) (aa 1)) true (ae .non) (aK (m2 az (aa 0) (aa 4))) 0 [2]) af))
def JC(a b:aV):EM:=(m2 (aM .Add) (mN aT (ab (aa 4) af)) (mN (aS a) (ab (mN (aS b) (ab (aa 2) (ab (m2 az (aa 0) (aa 4)) af))) af)))
def JD(a b:aV):SM:=(ag (cU Pj
 (ag (ag (cz (aa 2) (aa 4) (JC a b))
 aj)
 aj)
 aj)
 aj)
def JE:SM:=(ag (cU (m2 (ax .In) (aa 4) (aa 3))
 (ag bO
 aj)
 aj)
 aj)
def Pk:EM:=(mN eW (ab (aW (mN gI (ab (aa 0) (ab (m2 az (aa 1) (aa 0)) af))) true (ae .non) (aK (aa 0)) 0 [2]) af))
def Lv(a b c d:aV):SM:=
 (ag (av 1 (mN (aS a) (ab (aa 0) af)))
 (ag (cU (m2 (ax .IsNot) (aa 1) (ae .non))
 (ag bO
 aj)
 aj)
 (ag (av 2 bE)
 (ag (av 3 bE)
 (ag (cj (bX 4) (aK (mN (aS b) (ab (aa 0) af)))
 (JD c d))
 (ag (cj (bX 4) (aK (aa 0))
 JE)
 (ag (bh Pk)
 aj)))))))
theorem nW{k:Nat}{d:D}(h:Ω[k]?=some (.dK kvs))(a:kvs.length<=1000):jm (.ref k) (.str n) d Ω=some (Ω.set k (.dK (cZ kvs (.inr n) d))):=by
 simp only[jm,h,qD];rw[if_pos (aF (by omega))]
theorem C_{z A:aV}(hM:Ad z)(hB:wY A){l:Nat}{f:List (Key×D)}{g:List Str}{a1 a3 a5:Option D}{o:List Str}(he:Ω[e]?=some (.dF kvs))(hr:aC P Ω kvs E)(M:Ω[l]?=some (.dK f))(s:aC P' Ω f (bo g L))(hn:n∈nms E)(N:n∉g)
  (h:∀x∈bj E n,x∈g) (O:Mg ((bj E n).map L++[bj E n]) o) (hL:L n=n::o) (B:(bj E n).length<=100) (c0:g.length<=100) (ho:o.length<=900) (Q:∀j,Ω.length<=j->P' j) :
  ∃t ao,JD z A [oR e,a1,oR l,a3,oS n,a5] Ω=.nx [oR e,a1,oR l,a3,oS n,a5] ao/\ao[l]?=some (.dK t)/\aC P' ao t (bo (g++[n]) L)/\ai [l] Ω ao:=by
 obtain⟨a,hv,_,u⟩:=hr.at hn;have R:=dU (n:=n) (.inr he) hv
 obtain⟨c,K,K1⟩:=nU (ρ:=[oR e,a1,oR l,a3,oS n,a5]) (me:=m2 (ax .In) (aa 0) (aa 1)) (mi:=aK (m2 az (aa 0) (aa 4))) (cap:=[2]) (p:=λx=>true) u (by
  rw[bg]
  show(az (.ref e) (.str n) Ω).bind _=_
  rw[R,ak];exact aX (by rw[aE,aB u])) (λx S=>by
  show ax .In (.str x) (.ref l) Ω=_
  rw[Af (.inl M),s.is,bV,decide_eq_true (h x S)]) (by omega)
 have K:Pj [oR e,a1,oR l,a3,oS n,a5] Ω=.ok (.bl true) c:=by
  have:((bj E n).all λ_=>true)=true:=by simp
  rw[this]at K;exact K
 have g2:(c++[Cell.lst [.str n]])[c.length]?=some (.lst [.str n]):=aq;have y:ai [] Ω (c++[Cell.lst [.str n]]):=K1.trans ai.app
 have T:(mN aT (ab (aa 4) af)) [oR e,a1,oR l,a3,oS n,a5] c=.ok (.ref c.length) (c++[Cell.lst [.str n]]):=by
  show aT [.str n] c=_
  rw[cT,if_pos (aF (by simp))]
 generalize c++[Cell.lst [.str n]]=i at *;have U:=y.get _ _ M (by simp)
 have C:=s.keep y (by simp)
 have V:=y.get _ _ u (by simp)
 have F:=dU (n:=n) (.inr (y.get _ _ he (by simp))) hv
 obtain⟨js,k,X,e3,R3,Y,h3,_,_⟩:=hB i l a f _ _ _ (.inl U) C V (by rw[bV];exact h) B
 have G:(bj E n).map (bj (bo g L))=(bj E n).map L:=List.map_congr_left λx S=>ed (h x S)
 rw[G]at R3;obtain⟨q,b,e4,Z,lq,K4⟩:=hM X k js _ o R3 O (by simp;omega) ho
 have H:=eY (K4.get _ _ (Y.get _ _ g2 (by simp)) (by simp)) Z (by simp;omega)
 have K5:ai [] Ω (b++[Cell.lst ([.str n]++o.map .str)]):=((y.trans Y).trans K4).trans ai.app;have g5:(b++[Cell.lst ([.str n]++o.map .str)])[b.length]?=some (.lst ((L n).map .str)):=by rw[hL];exact aq
 have l4:Ω.length<=b.length:=((y.trans Y).trans K4).len
 have e5:JC z A [oR e,a1,oR l,a3,oS n,a5] c=.ok (.ref b.length) (b++[Cell.lst ([.str n]++o.map .str)]):=by
  unfold JC;rw[cV,T,ak]
  have:(mN (aS z) (ab (mN (aS A) (ab (aa 2) (ab (m2 az (aa 0) (aa 4)) af))) af)) [oR e,a1,oR l,a3,oS n,a5] i=.ok (.ref q) b:=by
   have h1:(ab (aa 2) (ab (m2 az (aa 0) (aa 4)) af):AM) [oR e,a1,oR l,a3,oS n,a5] i=.ok [.ref l,.ref a] i:=by
    show(((az (.ref e) (.str n) i).bind _).bind _)=_
    rw[F];rfl
   rw[cM,aO,cM,h1,ak,eM,e3,hU,ak,aU,ak,ak,eM,e4,hU]
  rw[this,ak,H]
 generalize b++[Cell.lst ([.str n]++o.map .str)]=m at *;have w:=K5.get _ _ M (by simp)
 have I:=s.keep K5 (by simp)
 have J:=s.len;have a0:f.length<=1000:=by rw[←J];simp[bo];omega
 have b0:=nW (n:=n) (d:=.ref b.length) w a0;have K6:ai [l] m (m.set l (.dK (cZ f (.inr n) (.ref b.length)))):=ai.set (by simp)
 refine⟨cZ f (.inr n) (.ref b.length),m.set l (.dK (cZ f (.inr n) (.ref b.length))),?_,aQ w,?_,(dv.up K5).trans K6⟩
 .unfold JD
  rw[ah,bY,K,cS,cJ,c_,bt,if_pos rfl,ah,ah]
  have:cz (aa 2) (aa 4) (JC z A) [oR e,a1,oR l,a3,oS n,a5] c=.nx [oR e,a1,oR l,a3,oS n,a5] (m.set l (.dK (cZ f (.inr n) (.ref b.length)))):=by
   unfold cz;rw[e5]
   show(match jm (.ref l) (.str n) (.ref b.length) m with|some ao=>fu.nx _ ao|none=>.bad)=_
   rw[b0]
  rw[this];rfl
 .have:=I.put (n:=n) (r:=L n) (by rw[bV];exact N) (Q _ l4) g5
  have h6:=this.cm K6 (λj hj ds=>by rw[List.mem_singleton.mp hj,w];simp)
  have:bo g L++[(n,L n)]=bo (g++[n]) L:=by simp[bo]
  rw[this]at h6;exact h6
def Dc(f:aV):Prop:=∀(c:aD) (e:Nat) (b:List (Key×D)) (E:dW) (P:Nat->Prop) (L:Str->List Str),bU c e b->aC P c b E->Gd E->Gp E L->(∀n∈nms E,(L n).length<=900) ->
 ∃l d a,f [.ref e] c=.ok (.ref l) a/\a[l]?=some (.dK d)/\aC (λj=>c.length<=j) a d (bo (nms E) L)/\ai [e] c a/\a[e]?=some (.dF b)/\c.length<=l
theorem Gr{LO EF MG RB:aV}(hO:C9 LO)(hE:Ah EF)(hM:Ad MG)(hB:wY RB):Dc (bS 6 1 (Lv LO EF MG RB)):=by
 intro Ω e Z E P L hd hr G hL q0;rw[bx (by rfl)]
 have e0:aZ 6 [D.ref e]=[oR e,none,none,none,none,none]:=rfl;rw[e0];have M0:=G.few;have r0:(nms E).length=E.length:=by simp[nms]
 obtain⟨a,e1,K1,s0⟩:=hO Ω e Z E P hd hr G;have t0:=hr.cm K1 (λj J ds=>by rw[List.mem_singleton.mp J];exact hd.nl ds)
 have le:=hd.lt;have K2:ai [] a (a++[Cell.dK []]):=ai.app;have g2:(a++[Cell.dK []])[a.length]?=some (.dK []):=aq;have l2:(a++[Cell.dK []]).length=a.length+1:=by simp
 have r2:av 2 bE [oR e,some .non,none,none,none,none] a=.nx [oR e,some .non,oR a.length,none,none,none] (a++[Cell.dK []]):=rfl;generalize a++[Cell.dK []]=g at *;have K3:ai [] g (g++[Cell.dK []]):=ai.app;have g3:(g++[Cell.dK []])[g.length]?=some (.dK []):=aq;have l3:(g++[Cell.dK []]).length=g.length+1:=by simp
 have r3:av 3 bE [oR e,some .non,oR a.length,none,none,none] g=.nx [oR e,some .non,oR a.length,oR g.length,none,none] (g++[Cell.dK []]):=rfl;generalize g++[Cell.dK []]=C at *;have y:=K2.trans K3;have M:=y.get _ _ s0 (by simp)
 have a0:=t0.keep y (by simp)
 have u0:=K3.get _ _ g2 (by simp)
 obtain⟨u,z,m,e4,b0,F,I,X,N,lz⟩:=hE C e Z E P (.inr M) a0 G;have O:a.length≠e:=by have:=K1.len;omega
 have c0:g.length≠e:=by have:=K1.len;omega
 have f0:=X.get _ _ u0 (by simpa using O)
 have v0:=X.get _ _ g3 (by simpa using c0)
 have w0:=a0.cm X (λj J ds=>by rw[List.mem_singleton.mp J,M];simp)
 have N0:u.length<=E.length:=by
  have:=hX F.nd F.sub;omega
 have K0:=X.len;have L0:=K1.len
 have x0:ai [] C m:=⟨X.len,λk c Y _=>by
  by_cases h:k=e
  .subst h;rw[M]at Y;cases Y;exact N
  .exact X.get k c Y (by simpa using h)⟩
 have g0:aK (mN (aS EF) (ab (aa 0) af)) [oR e,some .non,oR a.length,oR g.length,none,none] C=.ok (.seq (.ref z)) m:=by
  rw[bg];have:(mN (aS EF) (ab (aa 0) af)) [oR e,some .non,oR a.length,oR g.length,none,none] C=.ok (.ref z) m:=by simp[e4]
  rw[this,ak];exact aX (by rw[aE,aB b0])
 have h0:∃l w b,eX (bX 4) (.seq (.ref z)) (JD MG RB) fuel 0 [oR e,some .non,oR a.length,oR g.length,none,none] m=.nx [oR e,some .non,oR a.length,oR g.length,w,none] b/\b[a.length]?=some (.dK l)/\aC (λj=>m.length<=j) b l (bo u L)/\ai [a.length] m b:=by
  have y0:∀A,ai [a.length] m A->A[z]?=some (.lst (u.map .str)):=λA K=>K.get _ _ b0 (by simp;omega)
  refine bA (R:=λr=>∃l w b,r=.nx [oR e,some .non,oR a.length,oR g.length,w,none] b/\b[a.length]?=some (.dK l)/\aC (λj=>m.length<=j) b l (bo u L)/\ai [a.length] m b) (ds:=u.map .str)
   (λi ρ b=>∃l w,ρ=[oR e,some .non,oR a.length,oR g.length,w,none]/\b[a.length]?=some (.dK l)/\aC (λj=>m.length<=j) b l (bo (u.take i) L)/\ai [a.length] m b) ?_ ?_ ?_ fuel 0 _ _ (by unfold fuel;simp;omega) (Nat.zero_le _) ⟨[],none,rfl,f0,.nil,ai.refl⟩
  .rintro i ρ b ⟨_,_,_,_,_,K⟩
   rw[cp,aE,aB (y0 _ K)]
  .rintro i d ρ b Q ⟨l,w,rfl,B,S,K⟩
   obtain⟨n,x,rfl⟩:=ew Q;refine⟨[oR e,some .non,oR a.length,oR g.length,oS n,none],rfl,?_⟩;have H:=F.sub n (List.mem_of_getElem? x);obtain⟨o,z0,i0⟩:=hL n H;have ho:o.length<=900:=by have:=q0 n H;rw[i0]at this;simp at this;omega
   have s:=K.get _ _ N (by simpa using Ne.symm O)
   have T:=w0.cm K (λj J ds=>by rw[List.mem_singleton.mp J,f0];simp)
   have A0:n∉u.take i:=by
    intro hm;obtain⟨i',U⟩:=List.mem_iff_getElem?.mp hm;have B0:=(List.getElem?_eq_some_iff.mp U).1;rw[List.length_take]at B0;rw[List.getElem?_take_of_lt (by omega)]at U
    have:=(List.getElem?_inj (by omega) F.nd).mp (U.trans x.symm)
    omega
   obtain⟨j0,t,e6,h6,h7,K6⟩:=C_ (P':=λj=>m.length<=j) hM hB (n:=n) (a1:=some .non) (a3:=oR g.length) (a5:=none) s T B S H A0 (F.pre i n x) z0 i0 (G.short n H) (by rw[List.length_take];omega) ho (λj J=>Nat.le_trans K.len J)
   rw[e6];refine⟨j0,oS n,rfl,h6,?_,K.trans K6⟩;rw[List.take_succ,x];exact h7
  .rintro ρ b ⟨l,w,rfl,B,S,K⟩
   rw[List.length_map,List.take_length]at S;exact⟨l,w,b,rfl,B,S,K⟩
 obtain⟨l,w,b,e5,h5,T,K5⟩:=h0;have s:=K5.get _ _ N (by simpa using Ne.symm O)
 have C0:=K5.get _ _ v0 (by simp;omega)
 have k0:aK (aa 0) [oR e,some .non,oR a.length,oR g.length,w,none] b=.ok (.keys e) b:=by
  rw[bg]
  show srcOf b (.ref e)=_
  rw[k_ (.inr s),set_same s]
 have V:∃p,eX (bX 4) (.keys e) JE fuel 0 [oR e,some .non,oR a.length,oR g.length,w,none] b=.nx [oR e,some .non,oR a.length,oR g.length,p,none] b:=by
  refine bA (R:=λr=>∃p,r=.nx [oR e,some .non,oR a.length,oR g.length,p,none] b) (ds:=(nms E).map .str)
   (λi ρ t=>t=b/\∃p,ρ=[oR e,some .non,oR a.length,oR g.length,p,none]) ?_ ?_ ?_ fuel 0 _ _ (by unfold fuel;simp;omega) (Nat.zero_le _) ⟨rfl,w,rfl⟩
  .rintro i ρ t ⟨rfl,_⟩
   rw[hV s,hr.keys]
  .rintro i d ρ t Q ⟨rfl,p,rfl⟩
   obtain⟨n,x,rfl⟩:=ew Q;refine⟨[oR e,some .non,oR a.length,oR g.length,oS n,none],rfl,?_⟩;have D0:=Af (n:=n) (.inl C0)
   have:JE [oR e,some .non,oR a.length,oR g.length,oS n,none] t=.nx [oR e,some .non,oR a.length,oR g.length,oS n,none] t:=by
    unfold JE;rw[ah,bY]
    show sq (bK (cx (ax .In (.str n) (.ref g.length) t)) _) _=_
    rw[D0];rfl
   rw[this];exact⟨rfl,_,rfl⟩
  .rintro ρ t ⟨rfl,p,rfl⟩
   exact⟨p,rfl⟩
 obtain⟨p,e6⟩:=V
 have l0:∀n∈nms E,∃j,(cf l (.inr n)).getD .non=.ref j/\m.length<=j/\b[j]?=some (.lst ((L n).map .str))/\cf l (.inr n)=oR j:=λn x=>by
  obtain⟨j,B,S,h3⟩:=T.at (n:=n) (by rw[bV];exact I n x)
  rw[ed (I n x)]at h3;exact⟨j,by rw[B];rfl,S,h3,B⟩
 have m0:aK (aa 0) [oR e,some .non,oR a.length,oR g.length,p,none] b=.ok (.keys e) b:=by
  rw[bg]
  show srcOf b (.ref e)=_
  rw[k_ (.inr s),set_same s]
 obtain⟨q,n0,e7,g7,K7,lq⟩:=rd (ρ:=[oR e,some .non,oR a.length,oR g.length,p,none]) (me:=mN gI (ab (aa 0) (ab (m2 az (aa 1) (aa 0)) af))) (cap:=[2]) (ns:=nms E) (f:=λn=>(cf l (.inr n)).getD .non) m0 (by rw[hV s,hr.keys]) (λn x=>by
  obtain⟨j,B,_,_,h4⟩:=l0 n x;have G0:=dU (n:=n) (.inl h5) h4
  show(((az (.ref a.length) (.str n) b).bind _).bind _).bind _=_
  rw[G0]
  show gI [.str n,.ref j] b=_
  rw[iE,if_pos (aF (by simp)),B]) (by omega) G.nd
 have p0:ai [] a b:=⟨by have:=y.len;have:=K5.len;omega,λk c Y _=>K5.get k c (x0.get k c (y.get k c Y (by simp)) (by simp)) (by have:=bp Y;simp;omega)⟩
 refine⟨q,_,n0,?_,g7,?_,K1.trans (dv.up (p0.trans K7)),K7.get _ _ s (by simp),by have:=p0.len;omega⟩
 .unfold Lv
  have r1:(av 1 (mN (aS LO) (ab (aa 0) af))) [oR e,none,none,none,none,none] Ω=.nx [oR e,some .non,none,none,none,none] a:=by simp[e1]
  have I0:(cU (m2 (ax .IsNot) (aa 1) (ae .non)) (ag bO aj) aj) [oR e,some .non,none,none,none,none] a=.nx [oR e,some .non,none,none,none,none] a:=by simp
  rw[ah,r1,aA,ah,I0,aA,ah,r2,aA,ah,r3,aA,ah,cq,g0,bt,e5,aA,ah,cq,k0,bt,e6,aA,ah,dR];have J0:Pk [oR e,some .non,oR a.length,oR g.length,p,none] b=.ok (.ref q) n0:=e7;rw[J0];rfl
 .refine wZ λn x=>?_
  obtain⟨j,B,S,h3,_⟩:=l0 n x;exact⟨j,B,by have:=y.len;omega,K7.get _ _ h3 (by simp)⟩
end
def Ai(x:Str):Prop:=1<=x.length/\x.length<=8/\∀c∈x.cps.toList,97<=c/\c<=122
section
variable{Ω ao:aD}{ρ:aR}{e q j h:Nat}{kvs:List (Key×D)}{E:dW}{P P':Nat->Prop}{n:Str}{r:List Str}{fp:List Nat}{L:Str->List Str}
theorem De:∀c,97<=c->c<=122->rE (bF c) "abcdefghijklmnopqrstuvwxyz"=true:=by
 have:∀i,i<26->rE (bF (97+i)) "abcdefghijklmnopqrstuvwxyz"=true:=by decide +kernel
 intro c a b;have:=this (c - 97) (by omega)
 rwa[show 97+(c - 97)=c by omega]at this
def inC:EM:=(aW (m2 (ax .In) (aa 0) (ae (.str "abcdefghijklmnopqrstuvwxyz"))) true (ae .non) (aK (aa 0)) 0 [])
def Lw:SM:=
 (ag (cU (gJ (m1 (nE .str) (aa 0)))
 (ag (bh (ae (.bl false)))
 aj)
 aj)
 (ag (bh (eK (jy .LtE .LtE (ae (.int 1)) (mN (aP .len) (ab (aa 0) af)) (ae (.int 8))) (mN (aP .all) (ab inC af))))
 aj))
def Df(c:aV):Prop:=∀(b:aD) (x:Str),Ai x->∃a,c [.str x] b=.ok (.bl true) a/\ai [] b a
theorem Gs:Df (bS 1 1 Lw):=by
 intro Ω x h;obtain⟨w,y,e⟩:=h;rw[bx (by rfl)]
 have i:aZ 1 [D.str x]=[oS x]:=rfl;rw[i];have b:aK (aa 0) [oS x] Ω=.ok (.chars x) Ω:=rfl
 have a:=cF (ρ:=[oS x]) (Ω:=Ω) (ao:=Ω) (me:=m2 (ax .In) (aa 0) (ae (.str "abcdefghijklmnopqrstuvwxyz"))) (mc:=ae .non) (nc:=true) (mi:=aK (aa 0)) (cap:=[]) (src:=.chars x) (ds:=x.cps.toList.map λc=>.str (bF c)) (p:=λ_=>true) (g:=λd=>.bl true) b rfl (λd _=>rfl) (λd j _=>by
  obtain⟨c,f,rfl⟩:=List.mem_map.mp j;have:=De c (e c f).1 (e c f).2
  show ax .In (.str (bF c)) (.str _) Ω=_
  simp[dH,inD,this]) (by
  have:x.cps.toList.length=x.length:=by simp[Str.length]
  simp only[List.length_map];omega)
 have k:((x.cps.toList.map λc=>D.str (bF c)).filter λ_=>true).map (λ_=>D.bl true)=(x.cps.toList.map λ_=>true).map .bl:=by
  rw[List.filter_eq_self.mpr (λ_ _=>rfl),List.map_map,List.map_map]
  rfl
 rw[k]at a;have a:inC [oS x] Ω=.ok (.ref Ω.length) (Ω++[.lst ((x.cps.toList.map λ_=>true).map .bl)]):=a
 have l:=sV (Ω:=Ω++[.lst ((x.cps.toList.map λ_=>true).map .bl)]) (q:=Ω.length) aq
 refine⟨Ω++[.lst ((x.cps.toList.map λ_=>true).map .bl)],?_,ai.app⟩
 have m:(mN (aP .all) (ab inC af)) [oS x] Ω=.ok (.bl true) (Ω++[.lst ((x.cps.toList.map λ_=>true).map .bl)]):=by
  rw[cM,aO,a,ak,aU,ak,ak,l];simp
 have o:(jy .LtE .LtE (ae (.int 1)) (mN (aP .len) (ab (aa 0) af)) (ae (.int 8))) [oS x] Ω=.ok (.bl true) Ω:=by
  have r:aP .len [.str x] Ω=.ok (.int x.length) Ω:=by
   show gH (nA [.str x] Ω) (gH (qL [.str x] Ω) (lL .len [.str x] Ω))=_
   show lL .len [.str x] Ω=_
   unfold lL;simp[aF (n:=x.length) (by omega)]
  have s:c8 .LtE (.int 1) (.int x.length) Ω=.ok (.bl true) Ω:=by
   have:decide ((1:Int)<=x.length)=true:=by simp;omega
   simp[dH,this]
  have t:c8 .LtE (.int x.length) (.int 8) Ω=.ok (.bl true) Ω:=by
   have:decide ((x.length:Int)<=8)=true:=by simp;omega
   simp[dH,this]
  unfold jy;have:(mN (aP .len) (ab (aa 0) af)) [oS x] Ω=.ok (.int x.length) Ω:=r;rw[gD,ak,this,ak,s,cS,cJ,c_,ak,if_pos rfl,gD,ak,t]
 have u:(cU (gJ (m1 (nE .str) (aa 0))) (ag (bh (ae (.bl false))) aj) aj) [oS x] Ω=.nx [oS x] Ω:=by rfl
 unfold Lw;rw[ah,u,aA,ah,dR,gE,o,ak,cJ,Bf,m];rfl
def bP(P:Nat->Prop)(Ω:aD)(h:Nat)(E:dW)(L:Str->List Str):Prop:=
 ∃e l a b,Ω[h]?=some (.ins "House" [("elders",.ref e),("lines",.ref l)])/\bU Ω e a/\aC P Ω a E/\bU Ω l b/\aC P Ω b (bo (nms E) L)
theorem bP.keep(H:bP P Ω h E L)(K:ai [] Ω ao):bP P ao h E L:=by
 obtain⟨e,l,a,b,c,d,f,g,i⟩:=H;exact⟨e,l,a,b,K.get _ _ c (by simp),d.keep K (by simp),f.keep K (by simp),g.keep K (by simp),i.keep K (by simp)⟩
theorem bP.imp(H:bP P Ω h E L)(c:∀j,P j->P' j):bP P' Ω h E L:=by
 obtain⟨e,l,a,b,d,f,g,i,k⟩:=H;exact⟨e,l,a,b,d,f,g.imp c,i,k.imp c⟩
theorem bP.lt(H:bP P Ω h E L):bP (λj=>P j/\j<Ω.length) Ω h E L:=by
 obtain⟨e,l,a,b,c,d,f,g,i⟩:=H;exact⟨e,l,a,b,c,d,f.lt,g,i.lt⟩
theorem bP.w8{ds:List D}(H:bP P Ω h E L)(K:ai [q] Ω ao)(a:Ω[q]?=some (.lst ds))(k:¬ P q):bP P ao h E L:=by
 obtain⟨e,l,b,c,d,f,m,g,n⟩:=H;have o:h≠q:=λz=>by rw[z,a]at d;cases d
 have p:e≠q:=λz=>f.nl _ (z▸a)
 have r:l≠q:=λz=>g.nl _ (z▸a)
 have i:∀j∈[q],¬ P j:=λj s=>by rw[List.mem_singleton.mp s];exact k
 exact⟨e,l,b,c,K.get _ _ d (by simpa using o),f.keep K (by simpa using p),m.keep K i,g.keep K (by simpa using r),n.keep K i⟩
theorem w9(H:aC P Ω kvs (bo (nms E) L)):kvs.length=E.length:=by
 have:=H.len;simp[bo,nms]at this;omega
def fe:EM:=(m1 (dn ["House"] "elders") (aa 0))
def Gu:EM:=(m1 (dn ["House"] "lines") (aa 0))
theorem lb{l:Nat}(a:Ω[h]?=some (.ins "House" [("elders",.ref e),("lines",.ref l)])):dn ["House"] "elders" (.ref h) Ω=.ok (.ref e) Ω:=sR a rfl rfl
theorem w_{l:Nat}(a:Ω[h]?=some (.ins "House" [("elders",.ref e),("lines",.ref l)])):dn ["House"] "lines" (.ref h) Ω=.ok (.ref l) Ω:=sR a rfl rfl
def Lx:SM:=(ag (bh (mN (aP .list) (ab fe af))) aj)
def rf(c:aV):Prop:=∀(b:aD) (h:Nat) (E:dW) (L:Str->List Str) (P:Nat->Prop),bP P b h E L->∃k a,c [.ref h] b=.ok (.ref k) a/\a[k]?=some (.lst ((nms E).map .str))/\ai [] b a/\b.length<=k
theorem Gv:rf (bS 1 1 Lx):=by
 intro a h E L P H;obtain⟨e,l,c,d,f,g,i,k,m⟩:=H;rw[bx (by rfl)]
 have j:aZ 1 [D.ref h]=[oR h]:=rfl;rw[j];have b:=CY g;rw[i.keys]at b;refine⟨a.length,a++[.lst ((nms E).map .str)],?_,aq,ai.app,Nat.le_refl _⟩
 have:(mN (aP .list) (ab fe af)) [oR h] a=.ok (.ref a.length) (a++[.lst ((nms E).map .str)]):=by
  show(((dn ["House"] "elders" (.ref h) a).bind _).bind _)=_
  rw[lb f,ak];exact b
 unfold Lx;rw[ah,dR,this];rfl
theorem cN{m:Str}{F:aV}{i:Nat}{c:AM}(H:bP P Ω h E L)(d:ρ[i]?=some (oR h))(a:([("elders",D.ref 0),("lines",D.ref 0)]:List (Str×D)).lookup m=none):aN "House" m F (aa i) c ρ Ω=(c ρ Ω).bind λxs b=>jJ (F (.ref h::xs) b):=by
 obtain⟨e,l,f,g,j,k,n,o,p⟩:=H;refine zX (by rw[fM,d,fL]) j ?_
 simp only[List.lookup_cons]at a ⊢;split at a
 .cases a
 .split at a
  .cases a
  .rfl
def Ly(a:aV):SM:=
 (ag (cU (m2 (ax .NotIn) (aa 1) (aN "House" "kinds" a (aa 0) af))
 (ag bO
 aj)
 aj)
 aj)
def pK(c:aV):Prop:=∀(b:aD) (h:Nat) (E:dW) (L:Str->List Str) (P:Nat->Prop) (n:Str),bP P b h E L->n∈nms E->∃a,c [.ref h,.str n] b=.ok .non a/\ai [] b a
theorem Gw{d:aV}(e:rf d):pK (bS 2 2 (Ly d)):=by
 intro c h E L P n H f;rw[bx (by rfl)]
 have g:aZ 2 [D.ref h,.str n]=[oR h,oS n]:=rfl;rw[g];obtain⟨k,a,i,j,l,_⟩:=e c h E L P H
 have m:aN "House" "kinds" d (aa 0) af [oR h,oS n] c=.ok (.ref k) a:=by
  rw[cN H rfl (by decide),aU,ak,i,hU]
 refine⟨a,?_,l⟩;have b:=jS (w:=n) j;rw[decide_eq_true f]at b;unfold Ly;rw[ah,bY,cV];have:aa 1 [oR h,oS n] c=.ok (.str n) c:=rfl;rw[this,ak,m,ak,b];rfl
def Lz(a:aV):SM:=(ag (bH (aN "House" "check_kind" a (aa 0) (ab (aa 3) af)))
 (ag (cU (m2 (ax .In) (aa 3) (cH (aa 1) true (ae .non) false (aa 2)))
 (ag bO
 aj)
 aj)
 aj))
def LA(a:aV):SM:=
 (ag (cU (m2 (ax .Gt) (mN (aP .len) (ab (aa 1) af)) (ae (.int 5)))
 (ag bO
 aj)
 aj)
 (ag (cj (dm [2,3]) (lM (aa 1))
 (Lz a))
 aj))
def Aj(CE:aV):Prop:=∀(c:aD) (h a:Nat) (E:dW) (L:Str->List Str) (P:Nat->Prop) (r:List Str),bP P c h E L->c[a]?=some (.lst (r.map .str))->r.Nodup->r.length<=5->(∀x∈r,x∈nms E)->∃b,CE [.ref h,.ref a] c=.ok .non b/\ai [] c b
theorem Dg{f:aV}(m:pK f){a i:Nat}{x:Str}(H:bP P Ω h E L)(o:Ω[a]?=some (.lst (r.map .str)))(p:r[i]?=some x)(q:r.Nodup)(s:x∈nms E) :
  ∃ao,Lz f [oR h,oR a,oI i,oS x] Ω=.nx [oR h,oR a,oI i,oS x] ao/\ai [] Ω ao:=by
 obtain⟨b,t,l⟩:=m Ω h E L P x H s
 have u:aN "House" "check_kind" f (aa 0) (ab (aa 3) af) [oR h,oR a,oI i,oS x] Ω=.ok .non b:=by
  rw[cN H rfl (by decide)]
  show jJ (f [.ref h,.str x] Ω)=_
  rw[t];rfl
 have g:=nQ (n:=i) (l.get _ _ o (by simp))
 have y:(b++[Cell.lst ((r.take i).map .str)])[b.length]?=some (.lst ((r.take i).map .str)):=aq;have z:ai [] Ω (b++[Cell.lst ((r.take i).map .str)]):=l.trans ai.app;generalize b++[Cell.lst ((r.take i).map .str)]=d at *;have e:=iY (w:=x) y
 have j:x∉r.take i:=by
  intro A;obtain⟨C,c⟩:=List.mem_iff_getElem?.mp A;have k:=(List.getElem?_eq_some_iff.mp c).1;rw[List.length_take]at k;rw[List.getElem?_take_of_lt (by omega)]at c
  have:=(List.getElem?_inj (by omega) q).mp (c.trans p.symm)
  omega
 rw[decide_eq_false j]at e;refine⟨d,?_,z⟩
 have B:cH (aa 1) true (ae .non) false (aa 2) [oR h,oR a,oI i,oS x] b=.ok (.ref b.length) d:=by
  rw[iG];simp[g]
 unfold Lz;rw[ah,bT,u,bt,aA,ah,bY,cV];have:aa 3 [oR h,oR a,oI i,oS x] b=.ok (.str x) b:=rfl;rw[this,ak,B,ak,e];rfl
theorem Gx{o:aV}(q:pK o):Aj (bS 4 2 (LA o)):=by
 intro c h a E L P r H g s C t;rw[bx (by rfl)]
 have u:aZ 4 [D.ref h,.ref a]=[oR h,oR a,none,none]:=rfl;rw[u]
 have w:(cU (m2 (ax .Gt) (mN (aP .len) (ab (aa 1) af)) (ae (.int 5))) (ag bO aj) aj) [oR h,oR a,none,none] c=.nx [oR h,oR a,none,none] c:=by
  have e:=fO g;rw[List.length_map]at e;rw[bY,cV];have:(mN (aP .len) (ab (aa 1) af)) [oR h,oR a,none,none] c=.ok (.int r.length) c:=e;rw[this,ak,gD,ak]
  have:ax .Gt (.int r.length) (.int 5) c=.ok (.bl false) c:=by
   simp[dH];omega
  rw[this];rfl
 have k:lM (aa 1) [oR h,oR a,none,none] c=.ok (.Ir (.ref a)) c:=by
  unfold lM;simp[aB g]
 unfold LA;rw[ah,w,aA,ah,cq,k,bt]
 refine bA (R:=λr=>∃f,gp (sq r _)=.ok .non f/\ai [] c f) (ds:=dw 0 (r.map .str))
  (λi j b=>∃l m,j=[oR h,oR a,l,m]/\ai [] c b) ?_ ?_ ?_ fuel 0 _ _ (by rw[ip];unfold fuel;simp;omega) (Nat.zero_le _) ⟨none,none,rfl,ai.refl⟩
 .rintro i j b ⟨_,_,_,K⟩
  show(fF b (.ref a)).map (dw 0)=_
  rw[aE,aB (K.get _ _ g (by simp))];rfl
 .rintro i d j b y ⟨l,m,rfl,K⟩
  obtain⟨F,n,rfl⟩:=jG _ 0 i d y;obtain⟨x,p,rfl⟩:=ew n;rw[Nat.zero_add];refine⟨[oR h,oR a,oI i,oS x],rfl,?_⟩;obtain⟨z,A,B⟩:=Dg q (i:=i) (H.keep K) (K.get _ _ g (by simp)) p s (t x (List.mem_of_getElem? p))
  rw[A];exact⟨_,_,rfl,K.trans B⟩
 .rintro j b ⟨l,m,rfl,K⟩
  exact⟨b,rfl,K⟩
def LB(a:aV):SM:=
 (ag (bH (aN "House" "check_kind" a (aa 0) (ab (aa 1) af)))
 (ag (bh (mN (aP .list) (ab (m2 az Gu (aa 1)) af)))
 aj))
def xa(c:aV):Prop:=∀(b:aD) (h:Nat) (E:dW) (L:Str->List Str) (P:Nat->Prop) (n:Str),bP P b h E L->n∈nms E->∃k a,c [.ref h,.str n] b=.ok (.ref k) a/\a[k]?=some (.lst ((L n).map .str))/\ai [] b a/\b.length<=k
theorem Gy{b:aV}(k:pK b):xa (bS 2 2 (LB b)):=by
 intro c h E L P n H d;rw[bx (by rfl)]
 have m:aZ 2 [D.ref h,.str n]=[oR h,oS n]:=rfl;rw[m];obtain⟨a,o,f⟩:=k c h E L P n H d
 have p:aN "House" "check_kind" b (aa 0) (ab (aa 1) af) [oR h,oS n] c=.ok .non a:=by
  rw[cN H rfl (by decide)]
  show jJ (b [.ref h,.str n] c)=_
  rw[o];rfl
 obtain⟨e,l,q,r,s,x,y,t,u⟩:=H.keep f;obtain⟨j,w,_,i⟩:=u.at (n:=n) (by rw[bV];exact d)
 rw[ed d]at i;have g:=cX i;refine⟨a.length,a++[.lst ((L n).map .str)],?_,aq,f.trans ai.app,f.len⟩
 have:(mN (aP .list) (ab (m2 az Gu (aa 1)) af)) [oR h,oS n] a=.ok (.ref a.length) (a++[.lst ((L n).map .str)]):=by
  show((((dn ["House"] "lines" (.ref h) a).bind _).bind _).bind _)=_
  rw[w_ s,ak]
  show(((az (.ref l) (.str n) a).bind _).bind _)=_
  rw[dU t w];exact g
 unfold LB;rw[ah,bT,p,bt,aA,ah,dR,this];rfl
def LC(a b:aV):SM:=
 (ag (bH (aN "House" "check_kind" a (aa 0) (ab (aa 1) af)))
 (ag (bh (mN (aS b) (ab Gu (ab (m2 az fe (aa 1)) af))))
 aj))
def Ak(d:aV):Prop:=∀(b:aD) (h:Nat) (E:dW) (L:Str->List Str) (P:Nat->Prop) (n:Str),bP P b h E L->Gd E->n∈nms E->∃c k a,d [.ref h,.str n] b=.ok (.ref k) a/\Rw a k c ((bj E n).map L++[bj E n])/\ai [] b a/\b.length<=k/\(∀j∈c,b.length<=j)/\k∉c
theorem Gz{g i:aV}(r:pK g)(s:wY i):Ak (bS 2 2 (LC g i)):=by
 intro m h E L P n H G c;rw[bx (by rfl)]
 have t:aZ 2 [D.ref h,.str n]=[oR h,oS n]:=rfl;rw[t];obtain⟨b,u,o⟩:=r m h E L P n H c
 have w:aN "House" "check_kind" g (aa 0) (ab (aa 1) af) [oR h,oS n] m=.ok .non b:=by
  rw[cN H rfl (by decide)]
  show jJ (g [.ref h,.str n] m)=_
  rw[u];rfl
 obtain⟨e,l,y,p,q,z,A,B,C⟩:=H.keep o;obtain⟨a,F,_,I⟩:=A.at c;obtain⟨J,k,d,K,R2,M,U,N,O⟩:=s b l a p _ P (bj E n) B C I (by rw[bV];exact G.el n c) (G.short n c)
 have f:(bj E n).map (bj (bo (nms E) L))=(bj E n).map L:=List.map_congr_left λx Q=>ed (G.el n c x Q)
 rw[f]at R2;have V:=o.len;refine⟨J,k,d,?_,R2,o.trans M,by omega,λj R=>by have:=N j R;omega,O⟩
 have:(mN (aS i) (ab Gu (ab (m2 az fe (aa 1)) af))) [oR h,oS n] b=.ok (.ref k) d:=by
  have S:Gu [oR h,oS n] b=.ok (.ref l) b:=w_ q
  have T:(m2 az fe (aa 1)) [oR h,oS n] b=.ok (.ref a) b:=by
   show((dn ["House"] "elders" (.ref h) b).bind _)=_
   rw[lb q,ak];exact dU z F
  rw[cM,aO,S,ak,aO,T,ak,aU,ak,ak,ak,eM,K,hU]
 unfold LC;rw[ah,bT,w,bt,aA,ah,dR,this];rfl
end
section
variable{Ω ao:aD}{ρ:aR}{e q j h:Nat}{kvs:List (Key×D)}{E:dW}{P P':Nat->Prop}{n:Str}{r:List Str}{fp:List Nat}{L L':Str->List Str}
theorem jU{f:Str}{mo mv:EM}{y:D}{k:Nat}{a:List (Str×D)}{aG:aD}(b:mv ρ Ω=.ok y aG)(c:mo ρ aG=.ok (.ref k) aG)(d:aG[k]?=some (.ins "House" a))(e:a.length<1000):en ["House"] f mo mv ρ Ω=.nx ρ (aG.set k (.ins "House" (mE f y a))):=by
 unfold en;rw[b,bt,c,bt,nP d];have:((["House"]:List Str).contains "House"&&decide (a.length<1000))=true:=by rw[decide_eq_true e];rfl
 simp only[this,if_true]
def JF:SM:=
 (ag (en ["House"] "elders" (aa 0) bE)
 (ag (en ["House"] "lines" (aa 0) bE)
 aj))
def Dh(c:aV):Prop:=∀(b:aD) (L:Str->List Str) (P:Nat->Prop),∃a,lO "House" c [] b=.ok (.ref b.length) a/\bP P a b.length [] L/\ai [] b a
theorem GA:Dh (bS 1 1 JF):=by
 intro b L P;have h:(b++[Cell.ins "House" []])[b.length]?=some (.ins "House" []):=aq;have i:ai [] b (b++[Cell.ins "House" []]):=ai.app;have p:(b++[Cell.ins "House" []]).length=b.length+1:=by simp
 unfold lO;generalize b++[Cell.ins "House" []]=a at *;rw[bx (by rfl)]
 have j:aZ 1 [D.ref b.length]=[oR b.length]:=rfl;rw[j];have d:(a++[Cell.dK []])[b.length]?=some (.ins "House" []):=dS h;have k:en ["House"] "elders" (aa 0) bE [oR b.length] a=.nx [oR b.length] ((a++[Cell.dK []]).set b.length (.ins "House" [("elders",.ref a.length)])):=jU (aG:=a++[.dK []]) rfl rfl d (by simp)
 have l:=aQ (e:=.ins "House" [("elders",.ref a.length)]) d;have m:ai [b.length] a ((a++[Cell.dK []]).set b.length (.ins "House" [("elders",.ref a.length)])):=ai.app.trans (ai.set (by simp))
 have d1:((a++[Cell.dK []]).set b.length (.ins "House" [("elders",.ref a.length)]))[a.length]?=some (.dK []):=dh aq (by omega)
 have q:((a++[Cell.dK []]).set b.length (.ins "House" [("elders",.ref a.length)])).length=a.length+1:=by simp
 generalize (a++[Cell.dK []]).set b.length (.ins "House" [("elders",.ref a.length)])=aG at *;have f:(aG++[Cell.dK []])[b.length]?=some (.ins "House" [("elders",.ref a.length)]):=dS l;have n:en ["House"] "lines" (aa 0) bE [oR b.length] aG=.nx [oR b.length] ((aG++[Cell.dK []]).set b.length (.ins "House" [("elders",.ref a.length),("lines",.ref aG.length)])):=jU (aG:=aG++[.dK []]) rfl rfl f (by simp)
 have o:=aQ (e:=.ins "House" [("elders",.ref a.length),("lines",.ref aG.length)]) f;have g:ai [b.length] aG ((aG++[Cell.dK []]).set b.length (.ins "House" [("elders",.ref a.length),("lines",.ref aG.length)])):=ai.app.trans (ai.set (by simp))
 have d2:((aG++[Cell.dK []]).set b.length (.ins "House" [("elders",.ref a.length),("lines",.ref aG.length)]))[aG.length]?=some (.dK []):=dh aq (by omega)
 generalize (aG++[Cell.dK []]).set b.length (.ins "House" [("elders",.ref a.length),("lines",.ref aG.length)])=c at *;refine⟨c,?_,⟨a.length,aG.length,[],[],o,.inl (g.get _ _ d1 (by simp;omega)),.nil,.inl d2,.nil⟩,ai.new i (m.trans g) (by simp)⟩
 have:gp (JF [oR b.length] a)=.ok .non c:=by
  unfold JF;rw[ah,k,aA,ah,n];rfl
 rw[this]
def LD(a:aV):SM:=
 (ag (av 2 (mN (aS a) (ab (aa 1) af)))
 (ag (en ["House"] "elders" (aa 0) (aa 1))
 (ag (en ["House"] "lines" (aa 0) (aa 2))
 aj)))
def sW(d:aV):Prop:=∀(b:aD) (h e f g:Nat) (c:List (Key×D)) (E:dW) (P:Nat->Prop) (L:Str->List Str),b[h]?=some (.ins "House" [("elders",.ref f),("lines",.ref g)])->bU b e c->aC P b c E->Gd E->Gp E L->(∀n∈nms E,(L n).length<=900)->(∀j,b.length<=j->P j) ->
 ∃a,d [.ref h,.ref e] b=.ok .non a/\bP P a h E L/\ai [h,e] b a
theorem GB{k:aV}(H:Dc k):sW (bS 3 2 (LD k)):=by
 intro y h e I f c E P L A m B G J n K;rw[bx (by rfl)]
 have M:aZ 3 [D.ref h,.ref e]=[oR h,oR e,none]:=rfl;rw[M];obtain⟨l,o,aG,N,p,q,r,s,V⟩:=H y e c E P L m B G J n;have d:h≠e:=λz=>m.ni _ _ (z▸A)
 have g:=r.get _ _ A (by simpa using d)
 have t:=B.cm r (λj u i=>by rw[List.mem_singleton.mp u];exact m.nl i)
 have w:l≠h:=λz=>by rw[z,g]at p;cases p
 have O:en ["House"] "elders" (aa 0) (aa 1) [oR h,oR e,oR l] aG=.nx [oR h,oR e,oR l] (aG.set h (.ins "House" [("elders",.ref e),("lines",.ref f)])):=jU (aG:=aG) rfl rfl g (by simp)
 have C:=aQ (e:=.ins "House" [("elders",.ref e),("lines",.ref f)]) g;have Q:ai [h] aG (aG.set h (.ins "House" [("elders",.ref e),("lines",.ref f)])):=ai.set (by simp)
 generalize aG.set h (.ins "House" [("elders",.ref e),("lines",.ref f)])=a at *;have R:en ["House"] "lines" (aa 0) (aa 2) [oR h,oR e,oR l] a=.nx [oR h,oR e,oR l] (a.set h (.ins "House" [("elders",.ref e),("lines",.ref l)])):=jU (aG:=a) rfl rfl C (by simp)
 have S:=aQ (e:=.ins "House" [("elders",.ref e),("lines",.ref l)]) C;have T:ai [h] a (a.set h (.ins "House" [("elders",.ref e),("lines",.ref l)])):=ai.set (by simp)
 generalize a.set h (.ins "House" [("elders",.ref e),("lines",.ref l)])=x at *;have b:=Q.trans T;have F:∀j∈[h],∀i,aG[j]?≠some (.lst i):=λj u i=>by rw[List.mem_singleton.mp u,g];simp
 refine⟨x,?_,⟨e,l,c,o,S,.inr (b.get _ _ s (by simpa using Ne.symm d)),t.cm b F,.inl (b.get _ _ p (by simpa using w)),(q.imp K).cm b F⟩,(r.sub (by simp)).trans (b.sub (by simp))⟩
 unfold LD;have U:(av 2 (mN (aS k) (ab (aa 1) af))) [oR h,oR e,none] y=.nx [oR h,oR e,oR l] aG:=by simp[N]
 rw[ah,U,aA,ah,O,aA,ah,R];rfl
def GC:EM:=(mN gI (ab (aa 0) (ab (uE (m2 (ax .Eq) (aa 0) (aa 2)) (mN (aP .list) (ab (aa 1) af)) (m2 az (m1 (dn ["House"] "elders") (aa 3)) (aa 0))) af)))
def LF:EM:=(mN eW (ab (aW GC true (ae .non) (aK (aa 4)) 0 [2,1,0]) af))
def LG:EM:=(dg hY fH (aa 4) (ab (uE (m2 (ax .Is) (aa 3) (ae .non)) (mN (aP .len) (ab (aa 4) af)) (aa 3)) (ab (aa 1) af)))
def LH(a CE b c:aV):SM:=
 (ag (cU (gJ (mN (aS a) (ab (aa 1) af)))
 (ag bO
 aj)
 aj)
 (ag (cU (m2 (ax .In) (aa 1) fe)
 (ag bO
 aj)
 aj)
 (ag (cU (m2 (ax .GtE) (mN (aP .len) (ab fe af)) (ae (.int 12)))
 (ag bO
 aj)
 aj)
 (ag (bH (aN "House" "check_elders" CE (aa 0) (ab (aa 2) af)))
 (ag (av 4 (aN "House" "kinds" b (aa 0) af))
 (ag (bH LG)
 (ag (bH (aN "House" "settle" c (aa 0) (ab LF af)))
 aj)))))))
theorem xb{a:Type}{xs:List a}{x:a}:mZ xs xs.length x=xs++[x]:=by
 have:HT.gv xs.length 0 (some (xs.length:Int))=xs.length:=by
  unfold HT.gv;simp;intro z;omega
 unfold mZ;simp only[this];simp
theorem Di{a k:Nat}{a3:Option D}(H:bP P Ω h E L)(ha:Ω[a]?=some (.lst (r.map .str)))(hk:Ω[k]?=some (.lst ((nms E++[n]).map .str)))(hn:n∉nms E)(O:(nms E).Nodup)(hl:E.length<=100)(hP:∀j,Ω.length<=j->P j) :
  ∃q A ao,LF [oR h,oS n,oR a,a3,oR k] Ω=.ok (.ref q) ao/\ao[q]?=some (.dK A)/\aC P ao A (E++[(n,r)])/\ai [] Ω ao/\Ω.length<=q:=by
 have a0:aK (aa 4) [oR h,oS n,oR a,a3,oR k] Ω=.ok (.seq (.ref k)) Ω:=by
  rw[bg];exact aX (by rw[aE,aB hk])
 have b0:nms (E++[(n,r)])=nms E++[n]:=by simp[nms]
 obtain⟨ys,o,e1,m,rfl,Q,K1⟩:=iI (ρ:=[oR h,oS n,oR a,a3,oR k]) (me:=GC) (mc:=ae .non) (cap:=[2,1,0]) (ds:=(nms E++[n]).map .str) (λi B c=>∃m:List (Str×D),B=m.map (λp=>.tup [.str p.1,p.2])/\aC P c (m.map λp=>(.inr p.1,p.2)) ((E++[(n,r)]).take i)/\ai [] Ω c) a0 ⟨[],rfl,.nil,ai.refl⟩
  (λi B c h=>by
   obtain⟨_,_,_,K⟩:=h;rw[cp,aE,aB (K.get _ _ hk (by simp))])
  (λi d B c c0 hI=>by
   obtain⟨m,rfl,Q,K⟩:=hI;obtain⟨x,N,rfl⟩:=ew c0;obtain⟨e,l,A,k0,q1,q2,q3,q4,q5⟩:=H.keep K;have e0:=K.get _ _ ha (by simp)
   show ∃y ao,GC [oS x,oR a,oS n,oR h] c=.ok y ao/\_
   have S:∀(p:Str×List Str) (j:Nat) (s:aD),(E++[(n,r)])[i]?=some p->p.1=x->P j->s[j]?=some (.lst (p.2.map .str))->ai [] c s->∃t:List (Str×D),(m.map (λp=>D.tup [.str p.1,p.2])++[.tup [.str x,.ref j]])=t.map (λp=>.tup [.str p.1,p.2])/\aC P s (t.map λp=>(.inr p.1,p.2)) ((E++[(n,r)]).take (i+1))/\ai [] Ω s:=by
    intro p j s T C F Y K3;refine⟨m++[(x,.ref j)],by simp,?_,K.trans K3⟩
    rw[List.take_succ,T,List.map_append];exact aI.append (R:=λ(kv:Key×D) (p:Str×List Str)=>kv.1=.inr p.1/\∃j,kv.2=.ref j/\P j/\s[j]?=some (.lst (p.2.map .str))) (Q.keep K3 (by simp)) (.cons ⟨by rw[C],j,rfl,F,Y⟩ .nil)
   have Z:(m2 (ax .Eq) (aa 0) (aa 2)) [oS x,oR a,oS n,oR h] c=.ok (.bl (decide (x=n))) c:=by
    show ax .Eq (.str x) (.str n) c=_
    simp
    by_cases z:x=n<;>simp[z]
   have hi:=(List.getElem?_eq_some_iff.mp N).1;rw[List.length_append]at hi;simp only[nms,List.length_map,List.length_singleton]at hi
   by_cases G:i<E.length
   .have u:(nms E)[i]?=some x:=by rw[List.getElem?_append_left (by simp[nms];exact G)]at N;exact N
    have I:x∈nms E:=List.mem_of_getElem? u;have J:x≠n:=λz=>hn (z▸I)
    rw[decide_eq_false J]at Z;have T:(E++[(n,r)])[i]?=some E[i]:=by rw[List.getElem?_append_left G];simp
    have C:E[i].1=x:=by
     simp[nms,G]at u;exact u
    have U:bj E x=E[i].2:=by
     have hm:(x,bj E x)∈E:=nS (hW I);obtain⟨i',w⟩:=List.mem_iff_getElem?.mp hm;have e1:(nms E)[i']?=some x:=by simp[nms,w]
     have V:=(List.getElem?_eq_some_iff.mp w).1;have:=(List.getElem?_inj (by simp[nms];exact V) O).mp (e1.trans u.symm)
     subst this;rw[List.getElem?_eq_getElem V]at w;have z:=Option.some.inj w;rw[z]
    obtain⟨j,hv,F,Y⟩:=q3.at I;rw[U]at Y;obtain⟨t,z1,z2,z3⟩:=S E[i] j c T C F Y ai.refl;refine⟨.tup [.str x,.ref j],c,?_,t,z1,z2,z3⟩
    have M:(m2 az (m1 (dn ["House"] "elders") (aa 3)) (aa 0)) [oS x,oR a,oS n,oR h] c=.ok (.ref j) c:=by
     show((dn ["House"] "elders" (.ref h) c).bind _)=_
     rw[lb q1,ak];exact dU q2 hv
    unfold GC;rw[cM,aO];have:aa 0 [oS x,oR a,oS n,oR h] c=.ok (.str x) c:=rfl;rw[this,ak,aO,nM,Z,cS,cJ,c_,ak,if_neg (by simp),M,ak,aU,ak,ak,ak,iE,if_pos (aF (by simp))]
   .have f0:i=E.length:=by omega
    subst f0
    have J:x=n:=by
     rw[List.getElem?_append_right (by simp[nms])]at N
     simp[nms]at N;exact N.symm
    subst J;rw[decide_eq_true rfl]at Z;have g0:=cX e0;obtain⟨t,z1,z2,z3⟩:=S (x,r) c.length (c++[.lst (r.map .str)]) (by simp) rfl (hP _ K.len) aq ai.app
    refine⟨.tup [.str x,.ref c.length],c++[.lst (r.map .str)],?_,t,z1,z2,z3⟩;have M:(mN (aP .list) (ab (aa 1) af)) [oS x,oR a,oS x,oR h] c=.ok (.ref c.length) (c++[.lst (r.map .str)]):=g0;unfold GC;rw[cM,aO];have:aa 0 [oS x,oR a,oS x,oR h] c=.ok (.str x) c:=rfl;rw[this,ak,aO,nM,Z,cS,cJ,c_,ak,if_pos rfl,M,ak,aU,ak,ak,ak,iE,if_pos (aF (by simp))]) (by simp[nms];omega)
 have X:((nms E++[n]).map D.str).length=(E++[(n,r)]).length:=by simp[nms]
 rw[X,List.take_length]at Q
 have h0:m.map (·.1)=nms E++[n]:=by
  have:=Q.keys;rw[b0,List.map_map]at this
  have h2:(m.map (D.str ∘ (·.1)))=(nms E++[n]).map D.str:=by
   rw[←this];rfl
  rw[←List.map_map]at h2;exact(List.map_inj_right (λa b z=>by cases z;rfl)).mp h2
 have g2:(o++[Cell.lst (m.map λp=>.tup [.str p.1,p.2])])[o.length]?=some (.lst (m.map λp=>.tup [.str p.1,p.2])):=aq
 have K2:ai [] Ω (o++[Cell.lst (m.map λp=>.tup [.str p.1,p.2])]):=K1.trans ai.app
 have h2:aC P (o++[Cell.lst (m.map λp=>.tup [.str p.1,p.2])]) (m.map λp=>(.inr p.1,p.2)) (E++[(n,r)]):=Q.keep (fp:=[]) ai.app (by simp)
 generalize o++[Cell.lst (m.map λp=>.tup [.str p.1,p.2])]=c at *
 have T:bN kH (m.map λp=>D.tup [.str p.1,p.2])=some (m.map λp=>(.inr p.1,p.2)):=iX (f:=kH) (g:=λp:Str×D=>D.tup [.str p.1,p.2]) (h:=λp=>(.inr p.1,p.2)) (λn=>rfl) m
 have hf:=i8 (m.map λp=>((.inr p.1:Key),p.2)) [] (by
  rw[List.nil_append,List.map_map];have:(m.map ((λp:Key×D=>p.1) ∘ λp=>((.inr p.1:Key),p.2)))=(m.map (·.1)).map Sum.inr:=by rw[List.map_map];rfl
  rw[this,h0];have i0:(nms E++[n]).Nodup:=List.nodup_append.mpr ⟨O,by simp,λa ha b hb z=>hn (by rw[←List.mem_singleton.mp hb,←z];exact ha)⟩
  exact List.Pairwise.map _ (λa b j0 z=>j0 (by cases z;rfl)) i0)
 rw[List.nil_append]at hf;refine⟨c.length,_,c++[.dK (m.map λp=>(.inr p.1,p.2))],?_,aq,h2.keep (fp:=[]) ai.app (by simp),K2.trans ai.app,K2.len⟩
 unfold LF;rw[cM,aO,e1,ak,aU,ak,ak]
 show gH (gj [.ref o.length] c) _=_
 simp only[gj,aB g2,T,hf];rfl
def Al(e:aV):Prop:=∀(c:aD) (h a:Nat) (E:dW) (L d:Str->List Str) (P:Nat->Prop) (n:Str) (r:List Str),bP P c h E L->c[a]?=some (.lst (r.map .str))->Ai n->n∉nms E->E.length<12->r.Nodup->r.length<=5->(∀x∈r,x∈nms E) ->
 Gd (E++[(n,r)])->Gp (E++[(n,r)]) d->(∀m∈nms (E++[(n,r)]),(d m).length<=900)->(∀j,c.length<=j->P j)->∃b,e [.ref h,.str n,.ref a,.non] c=.ok .non b/\bP P b h (E++[(n,r)]) d/\ai [h] c b
theorem GD{M CE N ST:aV}(hI:Df M)(hC:Aj CE)(hK:rf N)(hS:sW ST):Al (bS 5 4 (LH M CE N ST)):=by
 intro F h a E L L' P n r H O hv hn hl Q R hrs G S T hP;rw[bx (by rfl)]
 have e0:aZ 5 [D.ref h,.str n,.ref a,.non]=[oR h,oS n,oR a,some .non,none]:=rfl;rw[e0];have U:nms (E++[(n,r)])=nms E++[n]:=by simp[nms]
 have t:(nms E).Nodup:=by
  have:=G.nd;rw[U]at this;exact(List.nodup_append.mp this).1
 obtain⟨d,e1,u⟩:=hI F n hv;have r1:(cU (gJ (mN (aS M) (ab (aa 1) af))) (ag bO aj) aj) [oR h,oS n,oR a,some .non,none] F=.nx [oR h,oS n,oR a,some .non,none] d:=by simp[e1]
 have w:=H.keep u
 have r2:(cU (m2 (ax .In) (aa 1) fe) (ag bO aj) aj) [oR h,oS n,oR a,some .non,none] d=.nx [oR h,oS n,oR a,some .non,none] d:=by
  obtain⟨e,l,f,V,y,I,J,q4,q5⟩:=w;have z:=Af (n:=n) I;rw[J.is,decide_eq_false hn]at z;rw[bY,cV]
  show bK (cx ((dn ["House"] "elders" (.ref h) d).bind _)) _=_
  rw[lb y,ak,z];rfl
 have r3:(cU (m2 (ax .GtE) (mN (aP .len) (ab fe af)) (ae (.int 12))) (ag bO aj) aj) [oR h,oS n,oR a,some .non,none] d=.nx [oR h,oS n,oR a,some .non,none] d:=by
  obtain⟨e,l,f,V,y,I,J,q4,q5⟩:=w;have i:=Bj I;have l0:=J.len
  have X:(mN (aP .len) (ab fe af)) [oR h,oS n,oR a,some .non,none] d=.ok (.int f.length) d:=by
   show(((dn ["House"] "elders" (.ref h) d).bind _).bind _)=_
   rw[lb y,ak];exact i
  have hc:ax .GtE (.int f.length) (.int 12) d=.ok (.bl false) d:=by
   have:decide ((f.length:Int)≥12)=false:=by simp;omega
   simp[dH];omega
  rw[bY,cV,X,ak,gD,ak,hc];rfl
 obtain⟨m,e2,K⟩:=hC d h a E L P r w (u.get _ _ O (by simp)) Q R hrs
 have r4:(bH (aN "House" "check_elders" CE (aa 0) (ab (aa 2) af))) [oR h,oS n,oR a,some .non,none] d=.nx [oR h,oS n,oR a,some .non,none] m:=by
  rw[bT,cN w rfl (by decide)]
  show bK (jJ (CE [.ref h,.ref a] d)) _=_
  rw[e2];rfl
 have Y:=w.keep K;obtain⟨k,b,e3,s,K3,l3⟩:=hK m h E L P Y
 have r5:(av 4 (aN "House" "kinds" N (aa 0) af)) [oR h,oS n,oR a,some .non,none] m=.nx [oR h,oS n,oR a,some .non,oR k] b:=by
  rw[br,cN Y rfl (by decide),aU,ak,e3]
  rfl
 have H3:bP (λj=>P j/\j≠k) b h E L:=(Y.lt.keep K3).imp λj g=>⟨g.1,by omega⟩
 have A:=(u.trans K).trans K3;have Z:=A.get _ _ O (by simp)
 have a0:a≠k:=by have:=bp (K.get _ _ (u.get _ _ O (by simp)) (by simp));omega
 have r6:(bH LG) [oR h,oS n,oR a,some .non,oR k] b=.nx [oR h,oS n,oR a,some .non,oR k] (b.set k (.lst ((nms E++[n]).map .str))):=by
  have S:=eD s;have i:=fO s
  have b0:fH (.ref k) [.int ((nms E).map D.str).length,.str n] b=.ok .non (b.set k (.lst ((nms E++[n]).map .str))):=by
   simp only[fH,iD s];rw[if_pos,xb]
   .simp
   .rw[aF (by simp[nms];omega),ec (by omega) (by simp[nms];omega)];rfl
  unfold LG;rw[bT,fb (x:=.ref k) (ao:=b) rfl S]
  have c0:(ab (uE (m2 (ax .Is) (aa 3) (ae .non)) (mN (aP .len) (ab (aa 4) af)) (aa 3)) (ab (aa 1) af):AM) [oR h,oS n,oR a,some .non,oR k] b=.ok [.int ((nms E).map D.str).length,.str n] b:=by
   have:(m2 (ax .Is) (aa 3) (ae .non)) [oR h,oS n,oR a,some .non,oR k] b=.ok (.bl true) b:=rfl;rw[aO,nM,this,cS,cJ,c_,ak,if_pos rfl];have:(mN (aP .len) (ab (aa 4) af)) [oR h,oS n,oR a,some .non,oR k] b=.ok (.int ((nms E).map D.str).length) b:=i;rw[this];rfl
  rw[c0,ak,b0];rfl
 have K4:ai [k] b (b.set k (.lst ((nms E++[n]).map .str))):=ai.set (by simp)
 have g4:=aQ (e:=.lst ((nms E++[n]).map .str)) s;have H4:bP P (b.set k (.lst ((nms E++[n]).map .str))) h E L:=(H3.w8 K4 s (by simp)).imp λj g=>g.1
 have f0:=K4.get _ _ Z (by simpa using a0)
 have lk:=bp s;generalize b.set k (.lst ((nms E++[n]).map .str))=g0 at *
 have o:ai [] F g0:=ai.new A K4 (λj g=>by
  rw[List.mem_singleton.mp g];have:=(u.trans K).len;omega)
 obtain⟨q,f,h0,e5,g5,h5,K5,l5⟩:=Di (a3:=some .non) H4 f0 g4 hn t (by omega) (λj g=>hP j (Nat.le_trans o.len g))
 obtain⟨e,l,j0,k0,y,I,J,q4,q5⟩:=H4.keep K5;have p:=o.trans K5;obtain⟨i0,e6,H6,K6⟩:=hS h0 h q e l f (E++[(n,r)]) P L' y (.inl g5) h5 G S T (λj g=>hP j (Nat.le_trans p.len g))
 have lq:F.length<=q:=Nat.le_trans o.len l5;refine⟨i0,?_,H6,⟨Nat.le_trans p.len K6.len,λk' c B C=>K6.get k' c (p.get k' c B (by simp)) ?_⟩⟩
 .unfold LH
  rw[ah,r1,aA,ah,r2,aA,ah,r3,aA,ah,r4,aA,ah,r5,aA,ah,r6,aA,ah,bT,cN H4 rfl (by decide),aO,e5,ak,aU,ak,ak,e6]
  rfl
 .have:=bp B
  simp at C ⊢;exact⟨C,by omega⟩
end
noncomputable def ne(rs:List (List Str)):List (List Str):=rs.filter λr=>decide (r≠[])
theorem lg{rs:List (List Str)}{r:List Str}:r∈ne rs↔r∈rs/\r≠[]:=by unfold ne;simp
theorem ux{rs:List (List Str)}{a:List Str}:freeOf (ne rs) a=freeOf rs a:=by
 cases a with
 |nil=>rfl
 |cons m t=>
  by_cases h:∃r∈rs,m∈r.tail
  .obtain⟨r,c,b⟩:=h
   rw[dB ⟨r,c,b⟩,dB ⟨r,lg.mpr ⟨c,λz=>by rw[z]at b;simp at b⟩,b⟩]
  .rw[dC h,dC]
   rintro⟨r,c,b⟩;exact h ⟨r,(lg.mp c).1,b⟩
theorem Am{rs:List (List Str)}:free (ne rs)=free rs:=by
 unfold free
 have:∀b:List (List Str),(ne b).findSome? (freeOf (ne rs))=b.findSome? (freeOf rs):=by
  intro b
  induction b with
  |nil=>rfl
  |cons a b c=>
   by_cases d:a=[]
   .subst d
    have:ne ([]::b)=ne b:=by simp[ne]
    rw[this,c,List.findSome?_cons];rfl
   .have:ne (a::b)=a::ne b:=by simp[ne,d]
    rw[this,List.findSome?_cons,List.findSome?_cons,c,ux]
 exact this rs
theorem pL{n:Str}{r:List Str}(h:n∉r.tail):r.filter (λx=>decide (x≠n))=cI n r:=by
 unfold cI;cases r with
 |nil=>simp
 |cons a t=>
  have c:t.filter (λx=>decide (x≠n))=t:=List.filter_eq_self.mpr λx d=>decide_eq_true λz=>h (z▸d)
  by_cases b:a=n
  .subst b
   rw[List.filter_cons,if_neg (by simp),c,if_pos (by simp)]
   rfl
  .rw[List.filter_cons,if_pos (by simp[b]),c,if_neg (by simp[b])]
theorem An{n:Str}{rs:List (List Str)}:ne ((ne rs).map (cI n))=ne (rs.map (cI n)):=by
 unfold ne
 induction rs with
 |nil=>rfl
 |cons a rs b=>
  by_cases c:a=[]
  .subst c
   have:cI n ([]:List Str)=[]:=by unfold cI;simp
   simp only[List.filter_cons,ne_eq,not_true_eq_false,decide_false,List.map_cons,this]at b ⊢;exact b
  .simp only[List.filter_cons,c,ne_eq,not_false_eq_true,decide_true,if_true,List.map_cons]
   rw[b]
theorem uy{rs:List (List Str)}{n:Str}(h:free rs=some n):∀r∈rs,n∉r.tail:=by
 unfold free at h;obtain⟨b,d,a⟩:=List.exists_of_findSome?_eq_some h;cases b with
 |nil=>cases a
 |cons m t=>
  by_cases c:∃r∈rs,m∈r.tail
  .rw[dB c]at a;cases a
  .rw[dC c]at a
   cases a;exact λr d e=>c ⟨r,d,e⟩
theorem mJ{rs:List (List Str)}{n:Str}(h:free rs=some n):∃t,(n::t)∈rs:=by
 unfold free at h;obtain⟨b,d,a⟩:=List.exists_of_findSome?_eq_some h;cases b with
 |nil=>cases a
 |cons m t=>
  by_cases c:∃r∈rs,m∈r.tail
  .rw[dB c]at a;cases a
  .rw[dC c]at a
   cases a;exact⟨t,d⟩
noncomputable def tl(rs:List (List Str)):Nat:=(rs.map List.length).sum
theorem Ao{rs:List (List Str)}{n:Str}(h:∃t,(n::t)∈rs):tl (rs.map (cI n))<tl rs:=by
 obtain⟨t,e⟩:=h
 have b:∀r:List Str,(cI n r).length<=r.length:=λr=>by
  unfold cI;split
  .simp
  .exact Nat.le_refl _
 have f:∀c:List (List Str),tl (c.map (cI n))<=tl c:=by
  intro c
  induction c with
  |nil=>exact Nat.le_refl _
  |cons a c d=>
   unfold tl at d ⊢;simp only[List.map_cons,List.sum_cons];have:=b a;omega
 induction rs with
 |nil=>simp at e
 |cons a rs d=>
  unfold tl at f d ⊢;simp only[List.map_cons,List.sum_cons];rcases List.mem_cons.mp e with z|z
  .subst z
   have g:=f rs;have:(cI n (n::t)).length<(n::t).length:=by unfold cI;simp
   omega
  .have g:=d z
   have:=b a;omega
section
variable{Ω ao:aD}{ρ:aR}{k q b:Nat}{js:List Nat}{rs:List (List Str)}{row:List Str}{n:Str}{told:List Str}
theorem Dj{nc:Bool}{mc me:EM}{τ:aR}{src:Src}{ds:List D}(I:Nat->List D->aD->Prop)(m:∀i a Ω,I i a Ω->er src Ω=some ds)
  (o:∀i d a Ω,ds[i]?=some d->I i a Ω->(∃ao,gK nc mc ([some d]++τ) Ω=.ok false ao/\I (i+1) a ao)\/∃aG y ao,gK nc mc ([some d]++τ) Ω=.ok true aG/\me ([some d]++τ) aG=.ok y ao/\I (i+1) (a++[y]) ao) :
  ∀(f i:Nat) (a:List D) Ω,I i a Ω->ds.length - i<f->i<=ds.length->a.length+ds.length<=100000+i->∃k ao,sk nc mc me 0 τ src f i a Ω=.ok k ao/\I ds.length k ao:=by
 intro f
 induction f with
 |zero=>intro i a Ω c p;omega
 |succ f l=>
  intro i a Ω c p s t;simp only[sk,m i a Ω c]
  by_cases b:i<ds.length
  .have e:ds[i]?=some ds[i]:=List.getElem?_eq_getElem b
   rw[e];have q:nH 0 ds[i]=some [some ds[i]]:=rfl;simp only[q];rw[if_pos (aF (n:=a.length+1) (by omega))]
   rcases o i ds[i] a Ω e c with ⟨aG,g,h⟩|⟨aG,y,j,g,r,h⟩
   .rw[g]
    dsimp only;exact l (i+1) a aG h (by omega) b (by omega)
   .rw[g]
    dsimp only;rw[r];dsimp only;exact l (i+1) (a++[y]) j h (by omega) b (by rw[List.length_append];simp;omega)
  .have e:ds[i]?=none:=List.getElem?_eq_none (by omega)
   rw[e];have:i=ds.length:=by omega
   subst this;exact⟨a,Ω,rfl,c⟩
theorem sX{nc:Bool}{me mc:EM}{mi:IM}{cap:List Nat}{src:Src}{ds:List D}(I:Nat->List D->aD->Prop)(e:mi ρ Ω=.ok src ao)(f:I 0 [] ao)(g:∀i a Ω,I i a Ω->er src Ω=some ds)
  (h:∀i d a Ω,ds[i]?=some d->I i a Ω->(∃ao,gK nc mc ([some d]++dI cap ρ) Ω=.ok false ao/\I (i+1) a ao)\/∃aG y ao,gK nc mc ([some d]++dI cap ρ) Ω=.ok true aG/\me ([some d]++dI cap ρ) aG=.ok y ao/\I (i+1) (a++[y]) ao) (l:ds.length<=90000) :
  ∃c b,aW me nc mc mi 0 cap ρ Ω=.ok (.ref b.length) (b++[.lst c])/\I ds.length c b:=by
 obtain⟨c,b,j,k⟩:=Dj I g h fuel 0 [] ao f (by unfold fuel;omega) (Nat.zero_le _) (by simp;omega)
 refine⟨c,b,?_,k⟩;unfold aW;rw[e];dsimp only;rw[j];rfl
theorem mK{nc:Bool}{me mc:EM}{mi:IM}{cap:List Nat}{f:List Str->List Str}{p:List Str->Bool}{P:Nat->Prop}(z:mi ρ Ω=.ok (.seq (.ref k)) Ω)(R:Rw Ω k js rs)(I:rs.length<=1000)
  (A:∀j c aG,ai [] Ω aG->j∈js->c∈rs->aG[j]?=some (.lst (c.map .str))->∃a,gK nc mc ([oR j]++dI cap ρ) aG=.ok (p c) a/\ai [] aG a)
  (B:∀j c aG,ai [] Ω aG->j∈js->c∈rs->aG[j]?=some (.lst (c.map .str))->∃m a,me ([oR j]++dI cap ρ) aG=.ok (.ref m) a/\ai [] aG a/\a[m]?=some (.lst ((f c).map .str))/\P m) :
  ∃b a,aW me nc mc mi 0 cap ρ Ω=.ok (.ref a.length) (a++[.lst (b.map .ref)])/\ai [] Ω a/\gR a b ((rs.filter p).map f)/\∀j∈b,P j:=by
 have C:=R.len
 obtain⟨J,a,e,b,rfl,o,D,q⟩:=sX (nc:=nc) (me:=me) (mc:=mc) (cap:=cap) (ds:=js.map .ref) (λi l a=>∃b,l=b.map .ref/\gR a b (((rs.take i).filter p).map f)/\ai [] Ω a/\∀j∈b,P j) z ⟨[],rfl,.nil,ai.refl,by simp⟩
  (λi l a h=>by
   obtain⟨_,_,_,K,_⟩:=h;rw[cp,aE,aB (R.keep K).ce])
  (λi d l aG E h=>by
   obtain⟨b,rfl,o,K,q⟩:=h;obtain⟨j,t,rfl⟩:=iZ E;obtain⟨c,r,g⟩:=(R.keep K).al.at' t;obtain⟨a,w,n⟩:=A j c aG K (List.mem_of_getElem? t) (List.mem_of_getElem? r) g;cases s:p c with
   |false=>
    refine .inl ⟨a,by rw[w,s],b,rfl,?_,K.trans n,q⟩
    rw[List.take_succ,r,List.filter_append];simp[s];exact o.keep n (by simp)
   |true=>
    obtain⟨m,u,e,y,F,G⟩:=B j c a (K.trans n) (List.mem_of_getElem? t) (List.mem_of_getElem? r) (n.get _ _ g (by simp))
    refine .inr ⟨a,.ref m,u,by rw[w,s],e,b++[m],by simp,?_,(K.trans n).trans y,?_⟩
    .rw[List.take_succ,r,List.filter_append,List.map_append]
     simp only[Option.toList_some,List.filter_cons,s,List.filter_nil,if_true,List.map_cons,List.map_nil];exact((o.keep n (by simp)).keep y (by simp)).snoc F
    .intro x H
     rcases List.mem_append.mp H with h|h
     .exact q x h
     .rw[List.mem_singleton.mp h];exact G) (by simp;omega)
 refine⟨b,a,e,D,?_,q⟩;rw[List.length_map,←C,List.take_length]at o;exact o
theorem ne_nil{j:Nat}{i:Nat}(a:ρ[i]?=some (oR j))(h:Ω[j]?=some (.lst (row.map .str))):∃ao,m2 (ax .NotEq) (aa i) (mN aT af) ρ Ω=.ok (.bl (decide (row≠[]))) ao/\ai [] Ω ao:=by
 refine⟨Ω++[.lst []],?_,ai.app⟩;have e:(mN aT af) ρ Ω=.ok (.ref Ω.length) (Ω++[.lst []]):=by rw[cM,aU,ak,cT,if_pos (aF (by simp))]
 have g:(Ω++[Cell.lst []])[Ω.length]?=some (.lst (([]:List Str).map .str)):=aq;rw[cV,fM,a,fL,ak,e,ak,nR (dS h) g]
 congr 2
 by_cases z:row=[]<;>simp[z]
theorem Ap{i:Nat}(b:ρ[i]?=some (oR k))(R:Rw Ω k js rs):∃ao,m2 (ax .NotEq) (aa i) (mN aT af) ρ Ω=.ok (.bl (decide (rs≠[]))) ao/\ai [] Ω ao:=by
 refine⟨Ω++[.lst []],?_,ai.app⟩;have e:(mN aT af) ρ Ω=.ok (.ref Ω.length) (Ω++[.lst []]):=by rw[cM,aU,ak,cT,if_pos (aF (by simp))]
 have g:(Ω++[Cell.lst []])[Ω.length]?=some (.lst (([]:List Nat).map .ref)):=aq;have a:=R.keep (ao:=Ω++[Cell.lst []]) ai.app;have c:=gs (n:=6) a.ce a.al;have d:=gs (n:=6) (L:=[]) g .nil;rw[cV,fM,b,fL,ak,e,ak];simp[c,d]
def JG:SM:=(ag (cj (bX 5) (aK (cH (aa 1) false (ae (.int 1)) true (ae .non)))
 (ag (cz (aa 4) (aa 5) (ae (.bl true)))
 aj))
 aj)
def LI:EM:=(aW (m2 az (aa 0) (ae (.int 0))) false (m2 (ax .NotIn) (m2 az (aa 0) (ae (.int 0))) (aa 1)) (aK (aa 2)) 0 [4])
def LJ:EM:=(aW (aW (aa 0) false (m2 (ax .NotEq) (aa 0) (m2 az (aa 1) (ae (.int 0)))) (aK (aa 0)) 0 [1]) true (ae .non) (aK (aa 2)) 0 [6])
def Pl:EM:=(aW (aa 0) false (m2 (ax .NotEq) (aa 0) (mN aT af)) (aK (aa 2)) 0 [])
def Dk:EM:=(m2 (ax .NotEq) (aa 2) (mN aT af))
def xc:SM:=
 (ag (av 4 bE)
 (ag (cj (bX 1) (aK (aa 2))
 JG)
 (ag (av 6 LI)
 (ag (cU (m2 (ax .Eq) (aa 6) (mN aT af))
 (ag (bh (ae .non))
 aj)
 aj)
 (ag (bH (dg hY bq (aa 3) (ab (m2 az (aa 6) (ae (.int 0))) af)))
 (ag (av 2 LJ)
 (ag (av 2 Pl)
 aj)))))))
def JH:SM:=
 (ag (av 2 (aW (mN (aP .list) (ab (aa 0) af)) false (m2 (ax .NotEq) (aa 0) (mN aT af)) (aK (aa 0)) 0 []))
 (ag (av 3 (mN aT af))
 (ag (gM Dk
 xc)
 (ag (bh (aa 3))
 aj))))
end
section
variable{Ω ao:aD}{ρ:aR}{k q b d:Nat}{js:List Nat}{rs:List (List Str)}{row:List Str}{n:Str}{told:List Str}{kvs:List (Key×D)}{m:Nat}{S S':Str->Prop}
def n_(Ω:aD)(d m:Nat)(S:Str->Prop):Prop:=∃a,Ω[d]?=some (.dK a)/\a.length<=m/\∀n,(cf a (.inr n)).isSome=true↔S n
theorem n_.keep{fp:List Nat}(h:n_ Ω d m S)(K:ai fp Ω ao)(b:d∉fp):n_ ao d m S:=let ⟨a,c,e,f⟩:=h;⟨a,K.get _ _ c b,e,f⟩
theorem n_.imp(h:n_ Ω d m S)(b:∀n,S n↔S' n):n_ Ω d m S':=let ⟨a,c,e,f⟩:=h;⟨a,c,e,λn=>(f n).trans (b n)⟩
theorem n_.put(h:n_ Ω d m S)(c:m<=1000):∃ao,jm (.ref d) (.str n) (.bl true) Ω=some ao/\n_ ao d (m+1) (λx=>S x\/x=n)/\ai [d] Ω ao:=by
 obtain⟨kvs,a,e,b⟩:=h;refine⟨_,nW a (by omega),⟨_,aQ a,by have:=wL (kvs:=kvs) (k:=.inr n) (v:=D.bl true);omega,λx=>?_⟩,ai.set (by simp)⟩
 rw[mF]
 by_cases z:x=n
 .subst z;simp
 .rw[if_neg (λq=>z (by cases q;rfl)),b]
  simp[z]
theorem Aq{j:Nat}(h:Ω[j]?=some (.lst (row.map .str))){i:Nat}(a:ρ[i]?=some (oR j)):cH (aa i) false (ae (.int 1)) true (ae .non) ρ Ω=.ok (.ref Ω.length) (Ω++[.lst (row.tail.map .str)]):=by
 have:=q_ h;rw[iG,fM,a,fL,ak];simp[this]
theorem Dl{j:Nat}{a0 a2 a3 a5 a6:Option D}(h:Ω[j]?=some (.lst (row.map .str)))(q:n_ Ω d m S)(H:m+row.length<=900) :
  ∃a ao,JG [a0,oR j,a2,a3,oR d,a5,a6] Ω=.nx [a0,oR j,a2,a3,oR d,a,a6] ao/\n_ ao d (m+row.length) (λx=>S x\/x∈row.tail)/\ai [d] Ω ao:=by
 have u:=Aq (ρ:=[a0,oR j,a2,a3,oR d,a5,a6]) h (i:=1) rfl;have s:(Ω++[Cell.lst (row.tail.map .str)])[Ω.length]?=some (.lst (row.tail.map .str)):=aq;have w:ai [d] Ω (Ω++[Cell.lst (row.tail.map .str)]):=ai.app;have g:n_ (Ω++[Cell.lst (row.tail.map .str)]) d m S:=q.keep (fp:=[]) ai.app (by simp)
 have I:d<Ω.length:=let ⟨_,z,_⟩:=q;bp z
 generalize Ω++[Cell.lst (row.tail.map .str)]=f at *
 have k:aK (cH (aa 1) false (ae (.int 1)) true (ae .non)) [a0,oR j,a2,a3,oR d,a5,a6] Ω=.ok (.seq (.ref Ω.length)) f:=by
  rw[bg,u,ak];exact aX (by rw[aE,aB s])
 unfold JG;rw[ah,cq,k,bt];have A:row.tail.length<=row.length:=by simp
 refine bA (R:=λr=>∃a ao,sq r _=.nx [a0,oR j,a2,a3,oR d,a,a6] ao/\n_ ao d (m+row.length) (λx=>S x\/x∈row.tail)/\ai [d] Ω ao) (ds:=row.tail.map .str)
  (λi ρ b=>∃a,ρ=[a0,oR j,a2,a3,oR d,a,a6]/\n_ b d (m+i) (λx=>S x\/x∈row.tail.take i)/\ai [d] f b) ?_ ?_ ?_ fuel 0 _ _ (by unfold fuel;simp;omega) (Nat.zero_le _) ⟨a5,rfl,g.imp (by simp),ai.refl⟩
 .rintro i ρ b ⟨_,_,_,K⟩
  rw[cp,aE,aB (K.get _ _ s (by simp;omega))]
 .rintro i e ρ b B ⟨a,rfl,c,K⟩
  obtain⟨x,t,rfl⟩:=ew B;have J:=(List.getElem?_eq_some_iff.mp t).1;refine⟨[a0,oR j,a2,a3,oR d,oS x,a6],rfl,?_⟩;obtain⟨l,C,o,E⟩:=c.put (n:=x) (by omega)
  have:(ag (cz (aa 4) (aa 5) (ae (.bl true))) aj) [a0,oR j,a2,a3,oR d,oS x,a6] b=.nx [a0,oR j,a2,a3,oR d,oS x,a6] l:=by
   rw[ah];unfold cz
   show sq (match jm (.ref d) (.str x) (.bl true) b with|some ao=>fu.nx _ ao|none=>.bad) _=_
   rw[C];rfl
  rw[this];refine⟨_,rfl,o.imp λy=>?_,K.trans E⟩
  rw[List.take_succ,t];simp[or_assoc]
 .rintro ρ b ⟨a,rfl,c,K⟩
  rw[List.length_map,List.take_length]at c;obtain⟨p,F,L,G⟩:=c;exact⟨a,b,rfl,⟨p,F,by omega,G⟩,w.trans K⟩
theorem Ar{i:Nat}(a:rs[i]?=some row):tl (rs.take i)+row.length=tl (rs.take (i+1)):=by
 unfold tl;rw[List.take_succ,a];simp
theorem GF{i:Nat}:tl (rs.take i)<=tl rs:=by
 have:tl rs=tl (rs.take i)+tl (rs.drop i):=by
  unfold tl;rw[←List.sum_append,←List.map_append,List.take_append_drop]
 omega
theorem Dm{a0 a1 a3 a5 a6:Option D}(R:Rw Ω k js rs)(q:Ω[d]?=some (.dK []))(O:rs.length<=1000)(P:tl rs<=800) :
  ∃c a ao,cj (bX 1) (aK (aa 2)) JG [a0,a1,oR k,a3,oR d,a5,a6] Ω=.nx [a0,c,oR k,a3,oR d,a,a6] ao/\n_ ao d 900 (λx=>∃r∈rs,x∈r.tail)/\ai [d] Ω ao:=by
 have F:=R.len;have s:k≠d:=λz=>by have:=R.ce;rw[z,q]at this;cases this
 have t:∀j∈js,j∉[d]:=λj u z=>by
  obtain⟨i,G⟩:=List.mem_iff_getElem?.mp u;obtain⟨g,_,w⟩:=R.al.at' G;rw[List.mem_singleton.mp z,q]at w;cases w
 have B:∀b,ai [d] Ω b->Rw b k js rs:=λb K=>R.sS K (by simpa using s) t
 have y:aK (aa 2) [a0,a1,oR k,a3,oR d,a5,a6] Ω=.ok (.seq (.ref k)) Ω:=by
  rw[bg];exact aX (by rw[aE,aB R.ce])
 rw[cq,y,bt]
 refine bA (R:=λr=>∃c a ao,r=.nx [a0,c,oR k,a3,oR d,a,a6] ao/\n_ ao d 900 (λx=>∃r∈rs,x∈r.tail)/\ai [d] Ω ao) (ds:=js.map .ref)
  (λi p b=>∃c a,p=[a0,c,oR k,a3,oR d,a,a6]/\n_ b d (tl (rs.take i)) (λx=>∃r∈rs.take i,x∈r.tail)/\ai [d] Ω b) ?_ ?_ ?_ fuel 0 _ _ (by unfold fuel;simp;omega) (Nat.zero_le _) ⟨a1,a5,rfl,⟨[],q,by simp[tl],λn=>by simp[cf]⟩,ai.refl⟩
 .rintro i p b ⟨_,_,_,_,K⟩
  rw[cp,aE,aB (B _ K).ce]
 .rintro i e p b H ⟨c,a,rfl,f,K⟩
  obtain⟨j,u,rfl⟩:=iZ H;obtain⟨g,C,h⟩:=(B _ K).al.at' u;refine⟨[a0,oR j,oR k,a3,oR d,a,a6],rfl,?_⟩;have I:=Ar C;have w:=GF (rs:=rs) (i:=i+1);obtain⟨E,J,L,l,M⟩:=Dl (a0:=a0) (a2:=oR k) (a3:=a3) (a5:=a) (a6:=a6) h f (by omega)
  rw[L];refine⟨_,_,rfl,?_,K.trans M⟩;rw[I]at l;refine l.imp λx=>?_
  rw[List.take_succ,C];simp only[List.mem_append,Option.toList_some,List.mem_singleton];constructor
  .rintro(⟨r,m,o⟩|z)
   .exact⟨r,.inl m,o⟩
   .exact⟨g,.inr rfl,z⟩
  .rintro⟨r,m|rfl,o⟩
   .exact .inl ⟨r,m,o⟩
   .exact .inr o
 .rintro p b ⟨c,a,rfl,f,K⟩
  rw[List.length_map,←F,List.take_length]at f;obtain⟨A,m,o,N⟩:=f;exact⟨c,a,b,rfl,⟨A,m,by omega,N⟩,K⟩
theorem Dn{a0 a1 a3 a5 a6:Option D}(R:Rw Ω k js rs)(A:n_ Ω d 900 (λx=>∃r∈rs,x∈r.tail))(p:∀r∈rs,r≠[])(G:rs.length<=1000) :
  LI [a0,a1,oR k,a3,oR d,a5,a6] Ω=.ok (.ref Ω.length) (Ω++[.lst ((rs.filterMap (freeOf rs)).map .str)]):=by
 have B:=R.len;obtain⟨b,C,H,z⟩:=A
 have s:aK (aa 2) [a0,a1,oR k,a3,oR d,a5,a6] Ω=.ok (.seq (.ref k)) Ω:=by
  rw[bg];exact aX (by rw[aE,aB R.ce])
 obtain⟨I,c,e,rfl,rfl⟩:=sX (ρ:=[a0,a1,oR k,a3,oR d,a5,a6]) (nc:=false) (me:=m2 az (aa 0) (ae (.int 0))) (mc:=m2 (ax .NotIn) (m2 az (aa 0) (ae (.int 0))) (aa 1)) (cap:=[4]) (ds:=js.map .ref) (λi f c=>f=((rs.take i).filterMap (freeOf rs)).map .str/\c=Ω) s ⟨rfl,rfl⟩
  (λi f c h=>by
   obtain⟨_,rfl⟩:=h;rw[cp,aE,aB R.ce])
  (λi e f a E h=>by
   obtain⟨rfl,rfl⟩:=h;obtain⟨j,F,rfl⟩:=iZ E;obtain⟨u,w,g⟩:=R.al.at' F;cases u with
   |nil=>exact absurd rfl (p [] (List.mem_of_getElem? w))
   |cons x t=>
    have l:az (.ref j) (.int 0) a=.ok (.str x) a:=cE g (L2.cQ (j:=0) rfl);have y:=wQ (n:=x) (.inl C)
    have m:gK false (m2 (ax .NotIn) (m2 az (aa 0) (ae (.int 0))) (aa 1)) ([oR j]++dI [4] [a0,a1,oR k,a3,oR d,a5,a6]) a=.ok (!(cf b (.inr x)).isSome) a:=by
     show cx ((az (.ref j) (.int 0) a).bind _)=_
     rw[l,ak]
     show cx (ax .NotIn (.str x) (.ref d) a)=_
     rw[y];rfl
    by_cases o:∃r∈rs,x∈r.tail
    .rw[(z x).mpr o]at m
     refine .inl ⟨a,m,?_,rfl⟩;rw[List.take_succ,w,List.filterMap_append];simp[dB o]
    .have:(cf b (.inr x)).isSome=false:=by
      cases q:(cf b (.inr x)).isSome with
      |true=>exact absurd ((z x).mp q) o
      |false=>rfl
     rw[this]at m;refine .inr ⟨a,.str x,a,m,?_,?_,rfl⟩
     .show az (.ref j) (.int 0) a=_
      exact l
     .rw[List.take_succ,w,List.filterMap_append]
      simp[dC o]) (by simp;omega)
 rw[List.length_map,←B,List.take_length]at e;exact e
theorem Dp{a0 a1 a3 a5:Option D}{f:Nat}{t:List Str}{a4:Option D}(R:Rw Ω k js rs)(s:Ω[f]?=some (.lst ((n::t).map .str)))(u:rs.length<=1000)(w:∀r∈rs,r.length<=1000) :
  ∃i b,LJ [a0,a1,oR k,a3,a4,a5,oR f] Ω=.ok (.ref b.length) (b++[.lst (i.map .ref)])/\ai [] Ω b/\gR b i (rs.map λr=>r.filter λx=>decide (x≠n))/\∀j∈i,Ω.length<=j:=by
 have l:aK (aa 2) [a0,a1,oR k,a3,a4,a5,oR f] Ω=.ok (.seq (.ref k)) Ω:=by
  rw[bg];exact aX (by rw[aE,aB R.ce])
 refine kZ (ρ:=[a0,a1,oR k,a3,a4,a5,oR f]) (me:=aW (aa 0) false (m2 (ax .NotEq) (aa 0) (m2 az (aa 1) (ae (.int 0)))) (aK (aa 0)) 0 [1]) (mc:=ae .non) (cap:=[6]) (f:=λr=>r.filter λx=>decide (x≠n)) (P:=λj=>Ω.length<=j) l R u (λj c a K B m h=>?_)
 have o:=K.get _ _ s (by simp)
 have q:az (.ref f) (.int 0) a=.ok (.str n) a:=cE o (L2.cQ (j:=0) rfl)
 have e:=cF (ρ:=[oR j,oR f]) (Ω:=a) (ao:=a) (me:=aa 0) (mc:=m2 (ax .NotEq) (aa 0) (m2 az (aa 1) (ae (.int 0)))) (nc:=false) (mi:=aK (aa 0)) (cap:=[1]) (src:=.seq (.ref j)) (ds:=c.map .str) (p:=λd=>match d with|.str x=>decide (x≠n)|_=>false) (g:=λd=>d) (by
   rw[bg];exact aX (by rw[aE,aB h])) (by rw[cp,aE,aB h]) (λd y=>by
   obtain⟨x,C,rfl⟩:=List.mem_map.mp y
   show cx ((az (.ref f) (.int 0) a).bind _)=_
   rw[q,ak]
   show cx (ax .NotEq (.str x) (.str n) a)=_
   by_cases z:x=n<;>simp[z]) (λd _ _=>rfl) (by have:=w c m;simp;omega)
 have A:((c.map D.str).filter (λd=>match d with|.str x=>decide (x≠n)|_=>false)).map (λd:D=>d)=(c.filter λx=>decide (x≠n)).map .str:=by
  rw[List.map_id',List.filter_map];rfl
 rw[A]at e;exact⟨a.length,_,e,ai.app,aq,K.len⟩
theorem Dq{a0 a1 a3 a4 a5 a6:Option D}(R:Rw Ω k js rs)(o:rs.length<=1000) :
  ∃b a,Pl [a0,a1,oR k,a3,a4,a5,a6] Ω=.ok (.ref a.length) (a++[.lst (b.map .ref)])/\ai [] Ω a/\gR a b (ne rs)/\∀j∈b,j∈js:=by
 have g:aK (aa 2) [a0,a1,oR k,a3,a4,a5,a6] Ω=.ok (.seq (.ref k)) Ω:=by
  rw[bg];exact aX (by rw[aE,aB R.ce])
 obtain⟨b,a,e,K,m,q⟩:=mK (ρ:=[a0,a1,oR k,a3,a4,a5,a6]) (nc:=false) (me:=aa 0) (mc:=m2 (ax .NotEq) (aa 0) (mN aT af)) (cap:=[]) (f:=λr=>r) (p:=λr=>decide (r≠[])) (P:=λj=>j∈js) g R o (λj h d K n l c=>by
  obtain⟨a,e,s⟩:=ne_nil (ρ:=[oR j]) (i:=0) rfl c;refine⟨a,?_,s⟩
  show cx (m2 (ax .NotEq) (aa 0) (mN aT af) [oR j] d)=_
  rw[e];rfl) (λj h d K n l c=>⟨j,d,rfl,ai.refl,c,n⟩)
 rw[List.map_id']at m;exact⟨b,a,e,K,m,q⟩
end
section
variable{Ω ao:aD}{ρ:aR}{k q b d:Nat}{js:List Nat}{rs:List (List Str)}{row:List Str}{n:Str}{told:List Str}
theorem GG{rs:List (List Str)}:(ne rs).length<=rs.length:=List.length_filter_le _ _
theorem GH{rs:List (List Str)}:tl (ne rs)=tl rs:=by
 unfold tl ne
 induction rs with
 |nil=>rfl
 |cons a rs b=>
  by_cases c:a=[]
  .subst c
   simp only[List.filter_cons,ne_eq,not_true_eq_false,decide_false,List.map_cons,List.sum_cons,List.length_nil]at b ⊢;simp at b ⊢;exact b
  .simp only[List.filter_cons,c,ne_eq,not_false_eq_true,decide_true,if_true,List.map_cons,List.sum_cons]
   rw[b]
theorem Dr{rs:List (List Str)}{r:List Str}(h:r∈rs):r.length<=tl rs:=by
 unfold tl
 induction rs with
 |nil=>simp at h
 |cons a rs b=>
  simp only[List.map_cons,List.sum_cons];rcases List.mem_cons.mp h with z|z
  .subst z;omega
  .have:=b z;omega
theorem Ds{a0 a1 a4 a5 a6:Option D}(R:Rw Ω k js (ne rs))(G:Ω[q]?=some (.lst (told.map .str)))(H:q≠k)(I:q∉js)(hl:rs.length<=900)(ht:tl rs<=800)(hp:told.length<=900) :
  (free rs=none/\∃ao,xc [a0,a1,oR k,oR q,a4,a5,a6] Ω=.rt .non ao/\ai [] Ω ao) \/
  ∃n b J c K L u ao,free rs=some n/\xc [a0,a1,oR k,oR q,a4,a5,a6] Ω=.nx [a0,b,oR L,oR q,J,c,K] ao/\Rw ao L u (ne (rs.map (cI n)))/\ao[q]?=some (.lst ((told++[n]).map .str))/\q≠L/\q∉u/\ai [q] Ω ao:=by
 have b0:=GG (rs:=rs);have c0:=GH (rs:=rs);have lq:=bp G;have lk:=bp R.ce;have lj:=R.al.lt;have g1:(Ω++[Cell.dK []])[Ω.length]?=some (.dK []):=aq;have X:ai [] Ω (Ω++[Cell.dK []]):=ai.app;have Y:av 4 bE [a0,a1,oR k,oR q,a4,a5,a6] Ω=.nx [a0,a1,oR k,oR q,oR Ω.length,a5,a6] (Ω++[Cell.dK []]):=rfl;have l1:(Ω++[Cell.dK []]).length=Ω.length+1:=by simp
 generalize Ω++[Cell.dK []]=e0 at *;obtain⟨b,c,a,Z,M,K2⟩:=Dm (a0:=a0) (a1:=a1) (a3:=oR q) (a5:=a5) (a6:=a6) (R.keep X) g1 (by omega) (by omega)
 have o:ai [] Ω a:=ai.new X K2 (by simp)
 have R2:=R.keep o;have f0:=o.get _ _ G (by simp)
 have F:=Dn (a0:=a0) (a1:=b) (a3:=oR q) (a5:=c) (a6:=a6) R2 M (λr w=>(lg.mp w).2) (by omega)
 have g3:(a++[Cell.lst (((ne rs).filterMap (freeOf (ne rs))).map .str)])[a.length]?=some (.lst (((ne rs).filterMap (freeOf (ne rs))).map .str)):=aq;have K3:ai [] a (a++[Cell.lst (((ne rs).filterMap (freeOf (ne rs))).map .str)]):=ai.app;have l3:(a++[Cell.lst (((ne rs).filterMap (freeOf (ne rs))).map .str)]).length=a.length+1:=by simp
 have hh:((ne rs).filterMap (freeOf (ne rs))).head?=free rs:=by
  rw[List.head?_filterMap,←Am];rfl
 generalize (ne rs).filterMap (freeOf (ne rs))=fl at *
 have F:av 6 LI [a0,b,oR k,oR q,oR Ω.length,c,a6] a=.nx [a0,b,oR k,oR q,oR Ω.length,c,oR a.length] (a++[Cell.lst (fl.map .str)]):=by
  rw[br,F];rfl
 generalize a++[Cell.lst (fl.map .str)]=g at *;have N:=o.trans K3;have g4:(g++[Cell.lst []])[g.length]?=some (.lst (([]:List Str).map .str)):=aq;have O:ai [] g (g++[Cell.lst []]):=ai.app
 have e4:(m2 (ax .Eq) (aa 6) (mN aT af)) [a0,b,oR k,oR q,oR Ω.length,c,oR a.length] g=.ok (.bl (decide (fl=[]))) (g++[Cell.lst []]):=by
  have e:(mN aT af) [a0,b,oR k,oR q,oR Ω.length,c,oR a.length] g=.ok (.ref g.length) (g++[.lst []]):=by rw[cM,aU,ak,cT,if_pos (aF (by simp))]
  have:aa 6 [a0,b,oR k,oR q,oR Ω.length,c,oR a.length] g=.ok (.ref a.length) g:=rfl;rw[cV,this,ak,e,ak,sT (O.get _ _ g3 (by simp)) g4]
 have l4:(g++[Cell.lst []]).length=g.length+1:=by simp
 generalize g++[Cell.lst []]=f at *;have m:=N.trans O;cases fl with
 |nil=>
  refine .inl ⟨by rw[←hh];rfl,f,?_,m⟩
  unfold xc;rw[ah,Y,aA,ah,Z,aA,ah,F,aA,ah,bY,e4];rfl
 |cons n t=>
  have y:free rs=some n:=by rw[←hh];rfl
  refine .inr ⟨n,?_⟩;have R4:=R.keep m;have p:=m.get _ _ G (by simp)
  have A:=O.get _ _ g3 (by simp)
  have r4:(cU (m2 (ax .Eq) (aa 6) (mN aT af)) (ag (bh (ae .non)) aj) aj) [a0,b,oR k,oR q,oR Ω.length,c,oR a.length] g=.nx [a0,b,oR k,oR q,oR Ω.length,c,oR a.length] f:=by
   rw[bY,e4];rfl
  have P:az (.ref a.length) (.int 0) f=.ok (.str n) f:=cE A (L2.cQ (j:=0) rfl);have Q:=d_ (d:=.str n) p (by simp;omega)
  have r5:(bH (dg hY bq (aa 3) (ab (m2 az (aa 6) (ae (.int 0))) af))) [a0,b,oR k,oR q,oR Ω.length,c,oR a.length] f=.nx [a0,b,oR k,oR q,oR Ω.length,c,oR a.length] (f.set q (.lst (told.map .str++[.str n]))):=by
   rw[bT,fb (x:=.ref q) (ao:=f) rfl (eD p)]
   have:(ab (m2 az (aa 6) (ae (.int 0))) af:AM) [a0,b,oR k,oR q,oR Ω.length,c,oR a.length] f=.ok [.str n] f:=by
    show((az (.ref a.length) (.int 0) f).bind _)=_
    rw[P];rfl
   rw[this,ak,Q];rfl
  have S:ai [q] f (f.set q (.lst (told.map .str++[.str n]))):=ai.set (by simp)
  have T:(f.set q (.lst (told.map .str++[.str n])))[q]?=some (.lst ((told++[n]).map .str)):=by rw[aQ p];simp
  have l5:(f.set q (.lst (told.map .str++[.str n]))).length=f.length:=by simp
  generalize f.set q (.lst (told.map .str++[.str n]))=s at *;have R5:Rw s k js (ne rs):=R4.sS S (by simpa using Ne.symm H) (λj hj h=>I (by rw[←List.mem_singleton.mp h];exact hj))
  have U:=S.get _ _ A (by have:=o.len;simp;omega)
  obtain⟨l,i,e6,K6,h6,j6⟩:=Dp (a0:=a0) (a1:=b) (a3:=oR q) (a4:=oR Ω.length) (a5:=c) R5 U (by omega) (λr w=>by have:=Dr w;omega)
  have B:((ne rs).map λr=>r.filter λx=>decide (x≠n))=(ne rs).map (cI n):=List.map_congr_left λr w=>pL (uy y r (lg.mp w).1)
  rw[B]at h6;have R7:Rw (i++[.lst (l.map .ref)]) i.length l ((ne rs).map (cI n)):=⟨aq,h6.keep (fp:=[]) ai.app (by simp)⟩
  have K7:ai [] s (i++[Cell.lst (l.map .ref)]):=K6.trans ai.app
  have r6:av 2 LJ [a0,b,oR k,oR q,oR Ω.length,c,oR a.length] s=.nx [a0,b,oR i.length,oR q,oR Ω.length,c,oR a.length] (i++[.lst (l.map .ref)]):=by
   rw[br,e6];rfl
  have l6:=K6.len;have l7:(i++[Cell.lst (l.map .ref)]).length=i.length+1:=by simp
  generalize i++[Cell.lst (l.map .ref)]=g0 at *;obtain⟨C,E,e8,V,h8,j8⟩:=Dq (a0:=a0) (a1:=b) (a3:=oR q) (a4:=oR Ω.length) (a5:=c) (a6:=oR a.length) R7 (by simp;omega)
  rw[An]at h8;have h0:=m.len;have l8:=V.len;refine⟨b,oR Ω.length,c,oR a.length,E.length,C,E++[.lst (C.map .ref)],y,?_,⟨aq,h8.keep (fp:=[]) ai.app (by simp)⟩,dS (V.get _ _ (K7.get _ _ T (by simp)) (by simp)),by omega,λz=>?_,((dv.up m).trans S).trans (dv.up ((K7.trans V).trans ai.app))⟩
  .unfold xc
   rw[ah,Y,aA,ah,Z,aA,ah,F,aA,ah,r4,aA,ah,r5,aA,ah,r6,aA,ah,br,e8];rfl
  .have:=j6 q (j8 q z)
   omega
theorem Dt{rs:List (List Str)}(h:ne rs=[]):Mg rs []:=.done λr a=>by
 by_cases z:r=[]
 .exact z
 .have:r∈ne rs:=lg.mpr ⟨a,z⟩
  rw[h]at this;simp at this
theorem xf{a0:Option D}:∀(m:Nat) (Ω:aD) (rs:List (List Str)) (a:List Str) (q k:Nat) (s:List Nat) (a1 a4 a5 a6:Option D),tl rs<m->Rw Ω k s (ne rs)->Ω[q]?=some (.lst (a.map .str))->q≠k->q∉s->rs.length<=900->a.length+tl rs<=800 ->
  (∃ao,ek Dk xc m [a0,a1,oR k,oR q,a4,a5,a6] Ω=.rt .non ao/\ai [q] Ω ao) \/
  ∃o c x d e f ao,ek Dk xc m [a0,a1,oR k,oR q,a4,a5,a6] Ω=.nx [a0,c,x,oR q,d,e,f] ao/\Mg rs o/\ao[q]?=some (.lst ((a++o).map .str))/\ai [q] Ω ao:=by
 intro m
 induction m with
 |zero=>intro Ω rs a q k s a1 a4 a5 a6 h;omega
 |succ m K=>
  intro Ω rs a q k s a1 a4 a5 a6 P R H y z I J;obtain⟨g,p,j⟩:=Ap (ρ:=[a0,a1,oR k,oR q,a4,a5,a6]) (i:=2) rfl R;have p:Dk [a0,a1,oR k,oR q,a4,a5,a6] Ω=.ok (.bl (decide (ne rs≠[]))) g:=p
  by_cases A:ne rs=[]
  .rw[decide_eq_false (by simpa using A)]at p
   refine .inr ⟨[],a1,oR k,a4,a5,a6,g,?_,Dt A,by rw[List.append_nil];exact j.get _ _ H (by simp),dv.up j⟩
   simp only[ek,p];rfl
  .rw[decide_eq_true (by simpa using A)]at p
   have step:ek Dk xc (m+1) [a0,a1,oR k,oR q,a4,a5,a6] Ω=(match xc [a0,a1,oR k,oR q,a4,a5,a6] g with|.nx b ao=>ek Dk xc m b ao|.ct b ao=>ek Dk xc m b ao|.bk b ao=>.nx b ao|r=>r):=by
    simp only[ek,p];rfl
   have B:=j.get _ _ H (by simp)
   rcases Ds (a0:=a0) (a1:=a1) (a4:=a4) (a5:=a5) (a6:=a6) (R.keep j) B y z I (by omega) (by omega)with ⟨_,l,u,w⟩|⟨n,c,d,e,f,L,C,l,E,u,R2,F,M,N,w⟩
   .refine .inl ⟨l,?_,dv.up (j.trans w)⟩
    rw[step,u]
   .have O:=Ao (mJ E)
    have G:∃r∈rs,r≠[]:=by
     obtain⟨t,J⟩:=mJ E;exact⟨_,J,by simp⟩
    rcases K l (rs.map (cI n)) (a++[n]) q L C c d e f (by omega) R2 F M N (by simpa using I) (by simp;omega)with ⟨LK,e3,K3⟩|⟨o,b1,b2,b4,b5,b6,LK,e3,M3,QM,K3⟩
    .refine .inl ⟨LK,?_,((dv.up j).trans w).trans K3⟩
     rw[step,u];exact e3
    .refine .inr ⟨n::o,b1,b2,b4,b5,b6,LK,?_,.step G E M3,by rw[QM];simp,((dv.up j).trans w).trans K3⟩
     rw[step,u];exact e3
def rg(LM:aV):Prop:=∀(b:aD) (k:Nat) (e:List Nat) (c:List (List Str)),Rw b k e c->c.length<=900->tl c<=800->∃d a,LM [.ref k] b=.ok d a/\ai [] b a/\(d=.non\/∃o q,d=.ref q/\a[q]?=some (.lst (o.map .str))/\Mg c o/\b.length<=q)
theorem GI:rg (bS 7 1 JH):=by
 intro h k I q R y A;rw[bx (by rfl)]
 have B:aZ 7 [D.ref k]=[oR k,none,none,none,none,none,none]:=rfl;rw[B]
 have s:aK (aa 0) [oR k,none,none,none,none,none,none] h=.ok (.seq (.ref k)) h:=by
  rw[bg];exact aX (by rw[aE,aB R.ce])
 obtain⟨c,a,C,E,l,J⟩:=mK (ρ:=[oR k,none,none,none,none,none,none]) (nc:=false) (me:=mN (aP .list) (ab (aa 0) af)) (mc:=m2 (ax .NotEq) (aa 0) (mN aT af)) (cap:=[]) (f:=λr=>r) (p:=λr=>decide (r≠[])) (P:=λj=>h.length<=j) s R (by omega) (λj m a K F t d=>by
  obtain⟨b,e,n⟩:=ne_nil (ρ:=[oR j]) (i:=0) rfl d;refine⟨b,?_,n⟩
  show cx (m2 (ax .NotEq) (aa 0) (mN aT af) [oR j] a)=_
  rw[e];rfl) (λj m a K F t d=>by
  refine⟨a.length,a++[.lst (m.map .str)],?_,ai.app,aq,K.len⟩
  show aP .list [.ref j] a=_
  exact cX d)
 rw[List.map_id']at l;have l:gR a c (ne q):=l;have R2:Rw (a++[.lst (c.map .ref)]) a.length c (ne q):=⟨aq,l.keep (fp:=[]) ai.app (by simp)⟩
 have n:ai [] h (a++[Cell.lst (c.map .ref)]):=E.trans ai.app;have L:(a++[Cell.lst (c.map .ref)]).length=a.length+1:=by simp
 have G:=l.lt
 have w:av 2 (aW (mN (aP .list) (ab (aa 0) af)) false (m2 (ax .NotEq) (aa 0) (mN aT af)) (aK (aa 0)) 0 []) [oR k,none,none,none,none,none,none] h=.nx [oR k,none,oR a.length,none,none,none,none] (a++[Cell.lst (c.map .ref)]):=by
  rw[br,C];rfl
 generalize a++[Cell.lst (c.map .ref)]=b at *;have u:ai [] b (b++[Cell.lst []]):=ai.app;have H:(b++[Cell.lst []])[b.length]?=some (.lst (([]:List Str).map .str)):=aq;have x:(av 3 (mN aT af)) [oR k,none,oR a.length,none,none,none,none] b=.nx [oR k,none,oR a.length,oR b.length,none,none,none] (b++[Cell.lst []]):=by simp[aF]
 have g:=n.len;rcases xf (a0:=oR k) fuel (b++[Cell.lst []]) q [] b.length a.length c none none none none (by unfold fuel;omega) (R2.keep u) H (by omega) (λz=>by have:=G _ z;omega) y (by simpa using A)with ⟨LN,e4,K4⟩|⟨o,b1,b2,b4,b5,b6,LN,e4,M4,QN,K4⟩
 .refine⟨.non,LN,?_,ai.new (n.trans u) K4 (by simpa using g),.inl rfl⟩
  unfold JH;rw[ah,w,aA,ah,x,aA,ah];unfold gM;rw[e4];rfl
 .refine⟨.ref b.length,LN,?_,ai.new (n.trans u) K4 (by simpa using g),.inr ⟨o,b.length,rfl,by simpa using QN,M4,g⟩⟩
  unfold JH;rw[ah,w,aA,ah,x,aA,ah];unfold gM;rw[e4];rfl
end
structure eN(E:dW)(L:Str->List Str):Prop where
 nd:(nms E).Nodup
 el:∀(i:Nat) (p:Str×List Str),E[i]?=some p->p.2.Nodup/\p.2.length<=5/\∀x∈p.2,x∈(nms E).take i
 ln:∀(i:Nat) (p:Str×List Str),E[i]?=some p->∃o,Mg (p.2.map L++[p.2]) o/\L p.1=p.1::o
 len:E.length<=12
section
variable{E:dW}{L:Str->List Str}{i:Nat}{p:Str×List Str}{n:Str}{r o:List Str}
theorem fx:nms (E.take i)=(nms E).take i:=by simp[nms,List.map_take]
theorem eZ(h:E[i]?=some p):(nms E)[i]?=some p.1:=by simp[nms,h]
theorem eE(h:(nms E)[i]?=some n):∃r,E[i]?=some (n,r):=by
 simp only[nms,List.getElem?_map,Option.map_eq_some_iff]at h;obtain⟨q,a,b⟩:=h;exact⟨q.2,by rw[a,←b]⟩
theorem lr(e:(nms E).Nodup)(h:E[i]?=some p):bj E p.1=p.2:=by
 have c:=eZ h;have f:(p.1,bj E p.1)∈E:=nS (hW (List.mem_of_getElem? c));obtain⟨g,a⟩:=List.mem_iff_getElem?.mp f;have d:=eZ a;have b:=(List.getElem?_eq_some_iff.mp d).1;have:=(List.getElem?_inj b e).mp (d.trans c.symm);subst this;rw[h]at a;have z:=Option.some.inj a;exact(congrArg (·.2) z).symm
theorem bG{xs:List Str}{x:Str}(h:x∈xs.take i):∃j,j<i/\xs[j]?=some x:=by
 obtain⟨j,a⟩:=List.mem_iff_getElem?.mp h;have b:=(List.getElem?_eq_some_iff.mp a).1;rw[List.length_take]at b;rw[List.getElem?_take_of_lt (by omega)]at a
 exact⟨j,by omega,a⟩
theorem gu{xs:List Str}{x:Str}{j:Nat}(a:j<i)(h:xs[j]?=some x):x∈xs.take i:=List.mem_of_getElem? (i:=j) (by rw[List.getElem?_take_of_lt a];exact h)
namespace eN
theorem nil:eN [] L:=⟨by simp[nms],λi p h=>by simp at h,λi p h=>by simp at h,by simp⟩
theorem xg(G:eN E L)(b:n∈nms E):∃i:Nat,E[i]?=some (n,bj E n):=by
 obtain⟨i,c⟩:=List.mem_iff_getElem?.mp b;obtain⟨r,a⟩:=eE c;exact⟨i,by rw[a,show bj E n=r from lr G.nd a]⟩
theorem sub(G:eN E L)(a:n∈nms E):∀x∈bj E n,x∈nms E:=λx b=>by
 obtain⟨i,c⟩:=G.xg a;exact List.mem_of_mem_take ((G.el i _ c).2.2 x b)
theorem gd(G:eN E L):Gd E where
 nd:=G.nd
 el:=λn c=>G.sub c
 rk:=⟨λx=>(nms E).idxOf x,λn c x f=>by
  obtain⟨i,d⟩:=G.xg c;obtain⟨j,g,e⟩:=bG ((G.el i _ d).2.2 x f);have h:=eZ d
  have k:(nms E).idxOf x=j:=by
   have:=(List.getElem?_eq_some_iff.mp e);obtain⟨a,b⟩:=this;rw[←b];exact List.Nodup.idxOf_getElem G.nd j a
  have l:(nms E).idxOf n=i:=by
   obtain⟨a,b⟩:=(List.getElem?_eq_some_iff.mp h);have b:(nms E)[i]=n:=b;rw[←b];exact List.Nodup.idxOf_getElem G.nd i a
  show(nms E).idxOf x<(nms E).idxOf n
  rw[k,l];exact g⟩
 few:=by have:=G.len;omega
 short:=λn c=>by
  obtain⟨i,d⟩:=G.xg c;have:=(G.el i _ d).2.1;have:(bj E n).length<=5:=this;omega
theorem LP(G:eN E L):Gp E L:=λn a=>by
 obtain⟨i,b⟩:=G.xg a;exact G.ln i _ b
theorem take(G:eN E L)(k:Nat):eN (E.take k) L where
 nd:=by rw[fx];exact G.nd.sublist (List.take_sublist _ _)
 el:=λi p h=>by
  have a:=(List.getElem?_eq_some_iff.mp h).1;rw[List.length_take]at a;rw[List.getElem?_take_of_lt (by omega)]at h
  obtain⟨b,c,d⟩:=G.el i p h;refine⟨b,c,λx e=>?_⟩
  rw[fx,List.take_take,Nat.min_eq_left (by omega)]
  exact d x e
 ln:=λi p h=>by
  have a:=(List.getElem?_eq_some_iff.mp h).1;rw[List.length_take]at a;rw[List.getElem?_take_of_lt (by omega)]at h
  exact G.ln i p h
 len:=by have:=G.len;rw[List.length_take];omega
theorem mem(G:eN E L):∀(k i:Nat) (n:Str),i<k->(nms E)[i]?=some n->∀x∈L n,x∈nms E:=by
 intro k
 induction k with
 |zero=>intro i n h;omega
 |succ k l=>
  intro i n s e x f;obtain⟨r,g⟩:=eE e;obtain⟨o,M,b⟩:=G.ln i _ g;have b:L n=n::o:=b;rw[b]at f;rcases List.mem_cons.mp f with z|z
  .rw[z];exact List.mem_of_getElem? e
  .obtain⟨m,p,c⟩:=hJ M x z
   have a:=(G.el i _ g).2.2;rcases List.mem_append.mp p with h|h
   .obtain⟨y,q,rfl⟩:=List.mem_map.mp h
    obtain⟨j,t,d⟩:=bG (a y q);exact l j y (by omega) d x c
   .rw[List.mem_singleton.mp h]at c
    exact List.mem_of_mem_take (a x c)
theorem short(G:eN E L)(c:n∈nms E):(L n).length<=13:=by
 obtain⟨i,b⟩:=List.mem_iff_getElem?.mp c;obtain⟨r,d⟩:=eE b;obtain⟨o,M,a⟩:=G.ln i _ d;have a:L n=n::o:=a;have e:=G.mem (i+1) i n (by omega) b
 have g:=hX (xs:=nms E) (kX M) (λx f=>e x (by rw[a];simp[f]))
 have h:(nms E).length=E.length:=by simp[nms]
 have:=G.len;rw[a];simp;omega
theorem mg(G:eN E L)(a:n∈nms E):∃o,Mg ((bj E n).map L++[bj E n]) o/\L n=n::o/\o.length<=12:=by
 obtain⟨o,M,b⟩:=G.LP n a;have:=G.short a;rw[b]at this;exact⟨o,M,b,by simpa using this⟩
theorem xh(G:eN E L)(b:∀x∈r,x∈nms E)(f:r.length<=5):tl (r.map L++[r])<=70:=by
 unfold tl;rw[List.map_append,List.sum_append]
 have c:∀r:List Str,(∀x∈r,x∈nms E)->((r.map L).map List.length).sum<=13*r.length:=by
  intro r b
  induction r with
  |nil=>simp
  |cons a r d=>
   have g:=d λx e=>b x (by simp[e])
   have h:=G.short (b a (by simp))
   simp only[List.map_cons,List.sum_cons,List.length_cons];omega
 have:=c r b;simp only[List.map_cons,List.map_nil,List.sum_cons,List.sum_nil];omega
theorem snoc(G:eN E L)(m:n∉nms E)(F:E.length<12)(j:r.Nodup)(k:r.length<=5)(s:∀x∈r,x∈nms E)(M:Mg (r.map L++[r]) o):eN (E++[(n,r)]) (λx=>if x=n then n::o else L x)/\∀x∈nms E,(if x=n then n::o else L x)=L x:=by
 have d:∀x∈nms E,(if x=n then n::o else L x)=L x:=λx e=>if_neg λ(z:x=n)=>m (z▸e)
 have f:nms (E++[(n,r)])=nms E++[n]:=by simp[nms]
 have g:(nms E).length=E.length:=by simp[nms]
 have c:∀(i:Nat) (p:Str×List Str),(E++[(n,r)])[i]?=some p->(i<E.length/\E[i]?=some p)\/(i=E.length/\p=(n,r)):=by
  intro i p h
  by_cases q:i<E.length
  .rw[List.getElem?_append_left q]at h
   exact .inl ⟨q,h⟩
  .rw[List.getElem?_append_right (by omega)]at h
   have t:=(List.getElem?_eq_some_iff.mp h).1;simp at t;have:i=E.length:=by omega
   subst this;simp at h;exact .inr ⟨rfl,h.symm⟩
 refine⟨⟨?_,?_,?_,by simp;omega⟩,d⟩
 .rw[f]
  exact List.nodup_append.mpr ⟨G.nd,by simp,λa u b w z=>m (by rw[←List.mem_singleton.mp w,←z];exact u)⟩
 .intro i p h
  rcases c i p h with ⟨q,h⟩|⟨rfl,rfl⟩
  .obtain⟨y,A,l⟩:=G.el i p h
   refine⟨y,A,λx e=>?_⟩
   rw[f,List.take_append_of_le_length (by omega)]
   exact l x e
  .refine⟨j,k,λx e=>?_⟩
   rw[f,←g,List.take_left']
   .exact s x e
   .rfl
 .intro i p h
  rcases c i p h with ⟨q,h⟩|⟨rfl,rfl⟩
  .obtain⟨B,C,D⟩:=G.ln i p h
   have l:=(G.el i p h).2.2;refine⟨B,?_,?_⟩
   .have:p.2.map (λx=>if x=n then n::o else L x)=p.2.map L:=List.map_congr_left λx e=>d x (List.mem_of_mem_take (l x e))
    rw[this];exact C
   .rw[d p.1 (List.mem_of_getElem? (eZ h))]
    exact D
  .refine⟨o,?_,by simp⟩
   have:r.map (λx=>if x=n then n::o else L x)=r.map L:=List.map_congr_left λx e=>d x (s x e)
   show Mg (r.map (λx=>if x=n then n::o else L x)++[r]) o
   rw[this];exact M
end eN
end
def Pm:EM:=(aW (m2 az (aa 1) (aa 0)) true (ae .non) (aK (aa 5)) 0 [3])
def LQ(LM:aV):EM:=(mN (aS LM) (ab (m2 (aM .Add) Pm (mN aT (ab (aa 5) af))) af))
def LR:SM:=(cU (m2 (ax .Is) (aa 6) (ae .non))
 (ag (av 5 (mN aT af))
 (ag (av 6 (mN aT af))
 aj))
 aj)
def JI:EM:=(m2 (aM .Add) (mN aT (ab (m2 az (aa 0) (aa 4)) af)) (aa 6))
def LS(LM:aV):SM:=
 (ag (av 5 (mN (aP .list) (ab (m2 az (aa 1) (aa 4)) af)))
 (ag (av 6 (LQ LM))
 (ag LR
 (ag (cz (aa 2) (m2 az (aa 0) (aa 4)) (aa 5))
 (ag (cz (aa 3) (m2 az (aa 0) (aa 4)) JI)
 aj)))))
def LU(LM:aV):SM:=
 (ag (av 2 bE)
 (ag (av 3 bE)
 (ag (cj (bX 4) (b_ (ab (mN (aP .len) (ab (aa 0) af)) af))
 (LS LM))
 (ag (bh (mN gI (ab (aa 2) (ab (aa 3) af))))
 aj))))
def Tr(_:Nat):Prop:=True
section
variable{Ω ao:aD}{ρ:aR}{x k e l i a:Nat}{js:List Nat}{kvs xI dD:List (Key×D)}{E:dW}{P:Nat->Prop}{n:Str}{r:List Str}{rs:List (List Str)}{xs:List Str}{L:Str->List Str}
theorem xi{mi:IM}{me:EM}{cap:List Nat}(m:mi ρ Ω=.ok (.seq (.ref a)) Ω)(n:Ω[a]?=some (.lst (r.map .str)))(o:∀x∈r,∃j,me ([oS x]++dI cap ρ) Ω=.ok (.ref j) Ω/\Ω[j]?=some (.lst ((L x).map .str)))(t:r.length<=100) :
  ∃c,aW me true (ae .non) mi 0 cap ρ Ω=.ok (.ref Ω.length) (Ω++[.lst (c.map .ref)])/\gR Ω c (r.map L):=by
 obtain⟨u,p,q,c,rfl,g,rfl⟩:=iI (ρ:=ρ) (me:=me) (mc:=ae .non) (cap:=cap) (ds:=r.map .str) (λi f b=>∃c,f=c.map .ref/\gR b c ((r.take i).map L)/\b=Ω) m ⟨[],rfl,.nil,rfl⟩
  (λi f b h=>by
   obtain⟨_,_,_,rfl⟩:=h;rw[cp,aE,aB n])
  (λi d f b k h=>by
   obtain⟨c,rfl,g,rfl⟩:=h;obtain⟨x,l,rfl⟩:=ew k;obtain⟨j,e,s⟩:=o x (List.mem_of_getElem? l);refine⟨.ref j,b,e,c++[j],by simp,?_,rfl⟩
   rw[List.take_succ,l,List.map_append];exact g.snoc s) (by simp;omega)
 rw[List.length_map,List.take_length]at g;exact⟨c,q,g⟩
theorem uz{b:Nat}{c:List (List Str)}(h:Ω[k]?=some (.lst (js.map .ref)))(d:gR Ω js c)(i:Ω[b]?=some (.lst [.ref a]))(j:Ω[a]?=some (.lst (r.map .str)))(l:c.length<=100) :
  aM .Add (.ref k) (.ref b) Ω=.ok (.ref Ω.length) (Ω++[.lst ((js++[a]).map .ref)])/\Rw (Ω++[.lst ((js++[a]).map .ref)]) Ω.length (js++[a]) (c++[r]):=by
 have f:=d.len;have g:=eY h i (by simp;omega)
 have e:js.map D.ref++[.ref a]=(js++[a]).map .ref:=by simp
 rw[e]at g;exact⟨g,aq,(d.snoc j).keep (fp:=[]) ai.app (by simp)⟩
theorem lu{j:Nat}{md mk mv:EM}{aG:aD}(a:mv ρ Ω=.ok (.ref j) aG)(b:md ρ aG=.ok (.ref e) aG)(c:mk ρ aG=.ok (.str n) aG)(d:aG[e]?=some (.dK kvs))(f:kvs.length<=1000):cz md mk mv ρ Ω=.nx ρ (aG.set e (.dK (cZ kvs (.inr n) (.ref j)))):=by
 unfold cz;rw[a,bt,b,bt,c,bt,nW d f]
theorem Du{LM:aV}(hM:rg LM){a5 a6:Option D}(Z:Ω[x]?=some (.lst (xs.map .str)))(R:Rw Ω k js rs)(G:eN E L)(hE:nms E=xs.take i)(T:xs[i]?=some n)(m0:xs.Nodup)(L0:xs.length<=12)(n0:rs[i]?=some r)(p0:r.Nodup)(a0:r.length<=5)(hrs:∀y∈r,y∈xs.take i)
  (he:Ω[e]?=some (.dK dD)) (b0:aC Tr Ω dD E) (hl:Ω[l]?=some (.dK xI)) (A:aC Tr Ω xI (bo (nms E) L)) (c0:e≠l) :
  ∃u o q0 r0 Q S ao,LS LM [oR x,oR k,oR e,oR l,oI i,a5,a6] Ω=.nx [oR x,oR k,oR e,oR l,oI i,q0,r0] ao/\ai [e,l] Ω ao /\
   ao[e]?=some (.dK Q)/\aC Tr ao Q (E++[(n,u)])/\ao[l]?=some (.dK S)/\aC Tr ao S (bo (nms (E++[(n,u)])) (λx=>if x=n then n::o else L x))/\eN (E++[(n,u)]) (λx=>if x=n then n::o else L x):=by
 have M0:=(List.getElem?_eq_some_iff.mp T).1
 have N0:E.length=i:=by
  have:(nms E).length=E.length:=by simp[nms]
  rw[hE,List.length_take]at this;omega
 have U:n∉nms E:=by
  rw[hE];intro hm;obtain⟨j,B,h⟩:=bG hm;have:=(List.getElem?_inj (by omega) m0).mp (h.trans T.symm)
  omega
 rw[←hE]at hrs;obtain⟨j0,s0,e0⟩:=R.al.at n0;have t0:az (.ref k) (.int i) Ω=.ok (.ref j0) Ω:=cE R.ce (L2.cQ (j:=i) (by simp[s0]))
 have r1:(av 5 (mN (aP .list) (ab (m2 az (aa 1) (aa 4)) af))) [oR x,oR k,oR e,oR l,oI i,a5,a6] Ω=.nx [oR x,oR k,oR e,oR l,oI i,oR Ω.length,a6] (Ω++[.lst (r.map .str)]):=by
  rw[br]
  have:(mN (aP .list) (ab (m2 az (aa 1) (aa 4)) af)) [oR x,oR k,oR e,oR l,oI i,a5,a6] Ω=.ok (.ref Ω.length) (Ω++[.lst (r.map .str)]):=by
   show(((az (.ref k) (.int i) Ω).bind _).bind _)=_
   rw[t0];exact cX e0
  rw[this];rfl
 have g1:(Ω++[Cell.lst (r.map .str)])[Ω.length]?=some (.lst (r.map .str)):=aq;have K1:ai [] Ω (Ω++[Cell.lst (r.map .str)]):=ai.app;generalize Ω++[Cell.lst (r.map .str)]=aG at *;have u0:=K1.get _ _ hl (by simp)
 have f0:=A.keep K1 (by simp)
 have v0:aK (aa 5) [oR x,oR k,oR e,oR l,oI i,oR Ω.length,a6] aG=.ok (.seq (.ref Ω.length)) aG:=by
  rw[bg];exact aX (by rw[aE,aB g1])
 obtain⟨t,e2,h2⟩:=xi (L:=L) (me:=m2 az (aa 1) (aa 0)) (cap:=[3]) v0 g1 (λy hy=>by
  obtain⟨j,hv,_,B⟩:=f0.at (n:=y) (by rw[bV];exact hrs y hy)
  rw[ed (hrs y hy)]at B;exact⟨j,dU (.inl u0) hv,B⟩) (by omega)
 have g2:(aG++[Cell.lst (t.map .ref)])[aG.length]?=some (.lst (t.map .ref)):=aq;have K2:ai [] aG (aG++[Cell.lst (t.map .ref)]):=ai.app;have e2:Pm [oR x,oR k,oR e,oR l,oI i,oR Ω.length,a6] aG=.ok (.ref aG.length) (aG++[.lst (t.map .ref)]):=e2;generalize aG++[Cell.lst (t.map .ref)]=g at *;have g3:(g++[Cell.lst [.ref Ω.length]])[g.length]?=some (.lst [.ref Ω.length]):=aq;have K3:ai [] g (g++[Cell.lst [.ref Ω.length]]):=ai.app
 have e3:(mN aT (ab (aa 5) af)) [oR x,oR k,oR e,oR l,oI i,oR Ω.length,a6] g=.ok (.ref g.length) (g++[.lst [.ref Ω.length]]):=by
  show aT [.ref Ω.length] g=_
  rw[cT,if_pos (aF (by simp))]
 generalize g++[Cell.lst [.ref Ω.length]]=J at *;have N:=K2.trans K3;obtain⟨e4,R4⟩:=uz (K3.get _ _ g2 (by simp)) (h2.keep N (by simp)) g3 (N.get _ _ g1 (by simp)) (by simp;omega)
 have K4:ai [] J (J++[Cell.lst ((t++[Ω.length]).map .ref)]):=ai.app;generalize J++[Cell.lst ((t++[Ω.length]).map .ref)]=w0 at *;obtain⟨d,f,e5,K5,hd⟩:=hM w0 J.length (t++[Ω.length]) _ R4 (by simp;omega) (by have:=G.xh hrs a0;omega)
 have r2:av 6 (LQ LM) [oR x,oR k,oR e,oR l,oI i,oR Ω.length,a6] aG=.nx [oR x,oR k,oR e,oR l,oI i,oR Ω.length,some d] f:=by
  rw[br];unfold LQ;rw[cM,aO,cV,e2,ak,e3,ak,e4,ak,aU,ak,ak,eM,e5];rfl
 have x0:ai [] Ω f:=((K1.trans N).trans K4).trans K5;have y0:=((N.trans K4).trans K5).get _ _ g1 (by simp)
 have hI:∃u o a b m,LR [oR x,oR k,oR e,oR l,oI i,oR Ω.length,some d] f=.nx [oR x,oR k,oR e,oR l,oI i,oR a,oR b] m/\ai [] f m/\m[a]?=some (.lst (u.map .str))/\m[b]?=some (.lst (o.map .str))/\u.Nodup/\u.length<=5/\(∀y∈u,y∈nms E)/\Mg (u.map L++[u]) o:=by
  rcases hd with rfl|⟨o,q,rfl,hq,M,_⟩
  .refine⟨[],[],f.length,f.length+1,(f++[.lst []])++[.lst []],?_,ai.app.trans ai.app,dS aq,?_,by simp,by simp,by simp,.done (by simp)⟩
   .have a1:(mN aT af) [oR x,oR k,oR e,oR l,oI i,oR Ω.length,some .non] f=.ok (.ref f.length) (f++[.lst []]):=by rw[cM,aU,ak,cT,if_pos (aF (by simp))]
    have a2:(mN aT af) [oR x,oR k,oR e,oR l,oI i,oR f.length,some .non] (f++[.lst []])=.ok (.ref (f.length+1)) ((f++[.lst []])++[.lst []]):=by
     rw[cM,aU,ak,cT,if_pos (aF (by simp))]
     simp
    unfold LR;rw[bY];have:(m2 (ax .Is) (aa 6) (ae .non)) [oR x,oR k,oR e,oR l,oI i,oR Ω.length,some .non] f=.ok (.bl true) f:=rfl;rw[this,cS,cJ,c_,bt,if_pos rfl,ah,br,a1]
    show sq (av 6 (mN aT af) [oR x,oR k,oR e,oR l,oI i,oR f.length,some .non] (f++[.lst []])) _=_
    rw[br,a2];rfl
   .have:=aq (Ω:=f++[Cell.lst []]) (c:=.lst []) (l:=[])
    simpa using this
  .exact⟨r,o,Ω.length,q,f,rfl,ai.refl,y0,hq,p0,a0,hrs,M⟩
 obtain⟨u,o,a,b,m,r3,K6,ha,hb,q1,q2,q3,M⟩:=hI;have w:=x0.trans K6;obtain⟨G',z0⟩:=G.snoc U (by omega) q1 q2 q3 M
 have C:∀(g:aD) (b5 b6:Option D),ai [e,l] Ω g->(m2 az (aa 0) (aa 4)) [oR x,oR k,oR e,oR l,oI i,b5,b6] g=.ok (.str n) g:=λg b5 b6 K=>by
  have n1:x≠e:=λz=>by
   rw[z,he]at Z;cases Z
  have n2:x≠l:=λz=>by
   rw[z,hl]at Z;cases Z
  have A0:=K.get _ _ Z (by simp[n1,n2])
  show az (.ref x) (.int i) g=_
  exact cE A0 (L2.cQ (j:=i) (by simp[T]))
 have F:=w.get _ _ he (by simp)
 have B0:=w.get _ _ hl (by simp)
 have g0:=b0.keep w (by simp)
 have h0:=A.keep w (by simp)
 have C0:dD.length<=1000:=by have:=b0.len;omega
 have D0:xI.length<=1000:=by have:=w9 A;omega
 have r4:=lu (ρ:=[oR x,oR k,oR e,oR l,oI i,oR a,oR b]) (md:=aa 2) (mk:=m2 az (aa 0) (aa 4)) (mv:=aa 5) (Ω:=m) (aG:=m) (j:=a) rfl rfl (C m _ _ (w.sub (by simp))) F C0
 have K7:ai [e] m (m.set e (.dK (cZ dD (.inr n) (.ref a)))):=ai.set (by simp)
 have G0:=aQ (e:=.dK (cZ dD (.inr n) (.ref a))) F;have i0:=(g0.put U (j:=a) (r:=u) trivial ha).cm K7 (λj B ds=>by rw[List.mem_singleton.mp B,F];simp)
 have k0:=h0.cm K7 (λj B ds=>by rw[List.mem_singleton.mp B,F];simp)
 have I0:=K7.get _ _ B0 (by simpa using Ne.symm c0)
 have J0:=K7.get _ _ hb (by
  simp;exact λz=>by rw[z,F]at hb;cases hb)
 have V:ai [e,l] Ω (m.set e (.dK (cZ dD (.inr n) (.ref a)))):=(w.sub (by simp)).trans (K7.sub (by simp))
 generalize m.set e (.dK (cZ dD (.inr n) (.ref a)))=p at *;have g8:(p++[Cell.lst [.str n]])[p.length]?=some (.lst [.str n]):=aq;have K8:ai [] p (p++[Cell.lst [.str n]]):=ai.app
 have e8:(mN aT (ab (m2 az (aa 0) (aa 4)) af)) [oR x,oR k,oR e,oR l,oI i,oR a,oR b] p=.ok (.ref p.length) (p++[.lst [.str n]]):=by
  rw[cM,aO,C p _ _ V,ak,aU,ak,ak,cT,if_pos (aF (by simp))]
 generalize p++[Cell.lst [.str n]]=s at *
 have P0:o.length<=13:=by
  have:=G'.short (n:=n) (by simp[nms])
  simp at this;omega
 have e9:=eY g8 (K8.get _ _ J0 (by simp)) (by simp;omega)
 have ev:JI [oR x,oR k,oR e,oR l,oI i,oR a,oR b] p=.ok (.ref s.length) (s++[.lst ([.str n]++o.map .str)]):=by
  unfold JI;have:aa 6 [oR x,oR k,oR e,oR l,oI i,oR a,oR b] s=.ok (.ref b) s:=rfl;rw[cV,e8,ak,this,ak,e9]
 have g9:(s++[Cell.lst ([.str n]++o.map .str)])[s.length]?=some (.lst ((n::o).map .str)):=aq;have Y:ai [] p (s++[Cell.lst ([.str n]++o.map .str)]):=K8.trans ai.app;generalize s++[Cell.lst ([.str n]++o.map .str)]=H at *;have O:=Y.get _ _ I0 (by simp)
 have r5:=lu (ρ:=[oR x,oR k,oR e,oR l,oI i,oR a,oR b]) (md:=aa 3) (mk:=m2 az (aa 0) (aa 4)) (mv:=JI) (Ω:=p) (aG:=H) (j:=s.length) ev rfl (C H _ _ (V.trans (Y.sub (by simp)))) O D0
 have P:ai [l] H (H.set l (.dK (cZ xI (.inr n) (.ref s.length)))):=ai.set (by simp)
 have X:nms (E++[(n,u)])=nms E++[n]:=by simp[nms]
 have l0:bo (nms E) L++[(n,n::o)]=bo (nms (E++[(n,u)])) (λx=>if x=n then n::o else L x):=by
  rw[X];unfold bo;rw[List.map_append]
  congr 1
  .refine List.map_congr_left λy hy=>?_
   show(y,L y)=(y,if y=n then n::o else L y)
   rw[z0 y hy]
  .simp
 have I:=((k0.keep Y (by simp)).put (n:=n) (by rw[bV];exact U) (j:=s.length) (r:=n::o) trivial g9).cm P (λj B ds=>by rw[List.mem_singleton.mp B,O];simp)
 rw[l0]at I;have K0:∀j∈[l],∀ds,H[j]?≠some (.lst ds):=λj B ds=>by rw[List.mem_singleton.mp B,O];simp
 refine⟨u,o,oR a,oR b,_,_,_,?_,(V.trans (Y.sub (by simp))).trans (P.sub (by simp)),P.get _ _ (Y.get _ _ G0 (by simp)) (by simpa using c0),(i0.keep Y (by simp)).cm P K0,aQ O,I,G'⟩
 unfold LS;rw[ah,r1,aA,ah,r2,aA,ah,r3,aA,ah,r4,aA,ah,r5];rfl
def As(h:aV):Prop:=∀(f:aD) (x k:Nat) (j:List Nat) (b:List Str) (g:List (List Str)),f[x]?=some (.lst (b.map .str))->Rw f k j g->g.length=b.length->b.Nodup->b.length<=12->(∀i r,g[i]?=some r->r.Nodup/\r.length<=5/\∀y∈r,y∈b.take i) ->
 ∃E L e l c d a,h [.ref x,.ref k] f=.ok (.tup [.ref e,.ref l]) a/\ai [] f a/\nms E=b/\eN E L/\a[e]?=some (.dK c)/\aC Tr a c E/\a[l]?=some (.dK d)/\aC Tr a d (bo b L)/\e≠l
theorem GJ{LM:aV}(V:rg LM):As (bS 7 2 (LU LM)):=by
 intro c x k X p C Q R hrs F H Y;rw[bx (by rfl)]
 have Z:aZ 7 [D.ref x,.ref k]=[oR x,oR k,none,none,none,none,none]:=rfl;rw[Z];have K1:ai [] c (c++[Cell.dK []]):=ai.app;have g1:(c++[Cell.dK []])[c.length]?=some (.dK []):=aq;have l1:(c++[Cell.dK []]).length=c.length+1:=by simp
 have r1:av 2 bE [oR x,oR k,none,none,none,none,none] c=.nx [oR x,oR k,oR c.length,none,none,none,none] (c++[Cell.dK []]):=rfl;generalize c++[Cell.dK []]=a at *;have S:ai [] a (a++[Cell.dK []]):=ai.app;have g2:(a++[Cell.dK []])[a.length]?=some (.dK []):=aq;have r2:av 3 bE [oR x,oR k,oR c.length,none,none,none,none] a=.nx [oR x,oR k,oR c.length,oR a.length,none,none,none] (a++[Cell.dK []]):=rfl;generalize a++[Cell.dK []]=m at *;have q:=K1.trans S;have I:=S.get _ _ g1 (by simp)
 have u:=q.get _ _ Q (by simp)
 have R2:=R.keep q;have lx:=bp Q;have lk:=bp R.ce;have lj:=R.al.lt;have w:c.length≠a.length:=by omega
 have y:=fO u;rw[List.length_map]at y
 have J:b_ (ab (mN (aP .len) (ab (aa 0) af)) af) [oR x,oR k,oR c.length,oR a.length,none,none,none] m=.ok (.ints 0 p.length) m:=by
  have:(mN (aP .len) (ab (aa 0) af)) [oR x,oR k,oR c.length,oR a.length,none,none,none] m=.ok (.int p.length) m:=y;rw[iF,aO,this,ak,aU,ak,ak,jR,if_pos (ec (by omega) (by omega)),Int.toNat_natCast]
 unfold LU;rw[ah,r1,aA,ah,r2,aA,ah,cq,J,bt]
 refine bA (R:=λr=>∃E L e l f g h,gp (sq r _)=.ok (.tup [.ref e,.ref l]) h/\ai [] c h/\nms E=p/\eN E L/\h[e]?=some (.dK f)/\aC Tr h f E/\h[l]?=some (.dK g)/\aC Tr h g (bo p L)/\e≠l) (ds:=intsFrom 0 p.length)
  (λi M b=>∃E L f g B a5 a6,M=[oR x,oR k,oR c.length,oR a.length,B,a5,a6]/\ai [c.length,a.length] m b/\nms E=p.take i/\eN E L/\b[c.length]?=some (.dK f)/\aC Tr b f E/\b[a.length]?=some (.dK g)/\aC Tr b g (bo (nms E) L)) (λ_ _ _ _=>rfl) ?_ ?_ fuel 0 _ _ (by rw[cR];unfold fuel;omega) (Nat.zero_le _) ⟨[],λ_=>[],[],[],none,none,none,rfl,ai.refl,rfl,eN.nil,I,.nil,g2,.nil⟩
 .rintro i d M b hd ⟨E,L,f,g,B,a5,a6,rfl,K,t,G,N,s,O,n⟩
  obtain⟨rfl,hi⟩:=dQ hd;have z:p[i]?=some p[i]:=List.getElem?_eq_getElem hi;have A:C[i]?=some (C[i]'(by omega)):=List.getElem?_eq_getElem (by omega)
  obtain⟨p1,p2,p3⟩:=Y i _ A;have P:=K.get _ _ u (by simp;omega)
  have R3:Rw b k X C:=R2.sS K (by simp;omega) (λj hj=>by have:=lj j hj;simp;omega)
  refine⟨[oR x,oR k,oR c.length,oR a.length,some (.int (0+(i:Int))),a5,a6],rfl,?_⟩;rw[Int.zero_add];obtain⟨r',o,b5,b6,T,U,a0,e4,K4,q1,q2,q3,q4,G4⟩:=Du V (a5:=a5) (a6:=a6) P R3 G t z F H A p1 p2 p3 N s O n w;rw[e4];refine⟨_,_,_,_,_,_,_,rfl,K.trans K4,?_,G4,q1,q2,q3,q4⟩;rw[List.take_succ,z,←t];simp[nms]
 .rintro M b ⟨E,L,f,g,B,a5,a6,rfl,K,t,G,N,s,O,n⟩
  rw[cR,List.take_length]at t;rw[t]at n;refine⟨E,L,c.length,a.length,f,g,b,?_,ai.new q K (by simp;omega),t,G,N,s,O,n,w⟩
  rw[aA,ah,dR]
  have:(mN gI (ab (aa 2) (ab (aa 3) af))) [oR x,oR k,oR c.length,oR a.length,B,a5,a6] b=.ok (.tup [.ref c.length,.ref a.length]) b:=by
   show gI [.ref c.length,.ref a.length] b=_
   rw[iE,if_pos (aF (by simp))]
  rw[this];rfl
end
section
variable{Ω ao:aD}{ρ:aR}{e q h j:Nat}{kvs dD:List (Key×D)}{E:dW}{P:Nat->Prop}{n:Str}{r:List Str}{L:Str->List Str}
theorem bU.dr{a:Nat}{b:List (Key×D)}(h:bU Ω a b)(he:bU Ω e dD):bU (Ω.set e (.dF dD)) a b:=by
 by_cases z:a=e
 .subst z
  have:b=dD:=by
   rcases h with h|h<;>rcases he with he|he<;>rw[h]at he<;>cases he<;>rfl
  subst this;exact .inr (mI he)
 .exact h.imp (λy=>dh y z) λy=>dh y z
theorem bP.dr(H:bP P Ω h E L)(a:bU Ω e dD):bP P (Ω.set e (.dF dD)) h E L:=by
 obtain⟨g,l,i,b,d,k,m,n,o⟩:=H;have K:ai [e] Ω (Ω.set e (.dF dD)):=ai.set (by simp)
 have f:∀j∈[e],∀c,Ω[j]?≠some (.lst c):=λj p c=>by rw[List.mem_singleton.mp p];exact a.nl c
 exact⟨g,l,i,b,dh d (λz=>a.ni _ _ (z▸d)),k.dr a,m.cm K f,n.dr a,o.cm K f⟩
theorem bP.hlt(H:bP P Ω h E L):h<Ω.length:=by
 obtain⟨_,_,_,_,z,_⟩:=H;exact bp z
theorem bP.nl(H:bP P Ω h E L){ds:List D}:Ω[h]?≠some (.lst ds):=by
 obtain⟨_,_,_,_,z,_⟩:=H;rw[z];simp
def Bk(a:Key×D):D:=.tup [iS a.1,a.2]
theorem nX(h:Ω[e]?=some (.dF kvs)):er (.items e) Ω=some (kvs.map Bk):=by simp only[er,h];rfl
def LW(a:aV):SM:=
 (ag (av 4 (mN (aP .list) (ab (aa 3) af)))
 (ag (bH (aN "House" "add" (λb=>a (b++[.non])) (aa 1) (ab (aa 2) (ab (aa 4) af))))
 (ag (bH (dg hY bq (aa 4) (ab (ae (.str "zz")) af)))
 aj)))
def LX(a b:aV):SM:=
 (ag (av 1 (mN (lO "House" a) af))
 (ag (cj (dm [2,3]) (eu (aa 0))
 (LW b))
 (ag (bh (aa 1))
 aj)))
theorem Dv{f:aV}(J:Al f){i:Nat}{a0 a4:Option D}(H:bP Tr Ω h (E.take i) L)(G:eN E L)(l:E[i]?=some (n,r))(K:Ai n)(M:Ω[j]?=some (.lst (r.map .str))) :
  ∃o ao,LW f [a0,oR h,oS n,oR j,a4] Ω=.nx [a0,oR h,oS n,oR j,o] ao/\bP Tr ao h (E.take (i+1)) L/\ai [h] Ω ao:=by
 have N:=(List.getElem?_eq_some_iff.mp l).1;have A:=G.len;have b:E.take (i+1)=E.take i++[(n,r)]:=by rw[List.take_succ,l];rfl
 have g:=G.take (i+1)
 have p:n∉nms (E.take i):=by
  have:=g.nd;rw[b]at this;simp only[nms,List.map_append,List.map_cons,List.map_nil]at this;have O:=(List.nodup_append.mp this).2.2;exact λz=>O n z n (by simp) rfl
 obtain⟨P,q,Q⟩:=G.el i _ l;have q:r.length<=5:=q
 have R:(av 4 (mN (aP .list) (ab (aa 3) af))) [a0,oR h,oS n,oR j,a4] Ω=.nx [a0,oR h,oS n,oR j,oR Ω.length] (Ω++[.lst (r.map .str)]):=by
  rw[br];have:(mN (aP .list) (ab (aa 3) af)) [a0,oR h,oS n,oR j,a4] Ω=.ok (.ref Ω.length) (Ω++[.lst (r.map .str)]):=cX M;rw[this];rfl
 have B:(Ω++[Cell.lst (r.map .str)])[Ω.length]?=some (.lst (r.map .str)):=aq;have s:ai [] Ω (Ω++[Cell.lst (r.map .str)]):=ai.app;have l1:(Ω++[Cell.lst (r.map .str)]).length=Ω.length+1:=by simp
 have C:bP (λx=>x≠Ω.length) (Ω++[Cell.lst (r.map .str)]) h (E.take i) L:=(H.lt.imp (P':=λx=>x≠Ω.length) λx S=>by omega).keep s
 have lh:=H.hlt;generalize Ω++[Cell.lst (r.map .str)]=e at *
 obtain⟨a,T,F,t⟩:=J e h Ω.length (E.take i) L L _ n r C B K p (by rw[List.length_take];omega) P q (by rw[fx];exact Q) (by rw[←b];exact g.gd) (by rw[←b];exact g.LP) (by
  rw[←b];intro m U;have:=g.short U;omega) (λx S=>by omega)
 rw[←b]at F
 have V:(bH (aN "House" "add" (λX=>f (X++[.non])) (aa 1) (ab (aa 2) (ab (aa 4) af)))) [a0,oR h,oS n,oR j,oR Ω.length] e=.nx [a0,oR h,oS n,oR j,oR Ω.length] a:=by
  rw[bT,cN C rfl (by decide)]
  show bK (jJ (f [.ref h,.str n,.ref Ω.length,.non] e)) _=_
  rw[T];rfl
 have u:=t.get _ _ B (by simp;omega)
 have w:=d_ (d:=.str "zz") u (by simp;omega)
 have Y:(bH (dg hY bq (aa 4) (ab (ae (.str "zz")) af))) [a0,oR h,oS n,oR j,oR Ω.length] a=.nx [a0,oR h,oS n,oR j,oR Ω.length] (a.set Ω.length (.lst (r.map .str++[.str "zz"]))):=by
  rw[bT,fb (x:=.ref Ω.length) (ao:=a) rfl (eD u)]
  show bK (bq (.ref Ω.length) [.str "zz"] a) _=_
  rw[w];rfl
 have y:ai [Ω.length] a (a.set Ω.length (.lst (r.map .str++[.str "zz"]))):=ai.set (by simp)
 refine⟨oR Ω.length,_,?_,(F.w8 y u (by simp)).imp λ_ _=>trivial,⟨Nat.le_trans s.len (Nat.le_trans t.len y.len),λk c I Z=>y.get k c (t.get k c (s.get k c I (by simp)) Z) (by have:=bp I;simp;omega)⟩⟩
 unfold LW;rw[ah,R,aA,ah,V,aA,ah,Y];rfl
def Au(d:aV):Prop:=∀(c:aD) (e:Nat) (b:List (Key×D)) (E:dW) (L:Str->List Str),bU c e b->aC Tr c b E->eN E L->(∀n∈nms E,Ai n) ->
 ∃h a,d [.ref e] c=.ok (.ref h) a/\bP Tr a h E L/\ai [e] c a/\a[e]?=some (.dF b)/\c.length<=h
theorem GK{z Q:aV}(Z:Dh z)(hA:Al Q):Au (bS 5 1 (LX z Q)):=by
 intro f e g E L S T G hv;rw[bx (by rfl)]
 have e0:aZ 5 [D.ref e]=[oR e,none,none,none,none]:=rfl;rw[e0];obtain⟨b,e1,H1,t⟩:=Z f L Tr
 have r1:(av 1 (mN (lO "House" z) af)) [oR e,none,none,none,none] f=.nx [oR e,oR f.length,none,none,none] b:=by
  rw[br,cM,aU,ak,e1];rfl
 have l:=S.keep t (by simp)
 have A:=T.keep t (by simp)
 have U:=H1.dr l;have V:=mI l;have B:ai [e] b (b.set e (.dF g)):=ai.set (by simp)
 have C:=A.cm B (λj o ds=>by rw[List.mem_singleton.mp o];exact l.nl ds)
 have F:eu (aa 0) [oR e,oR f.length,none,none,none] b=.ok (.items e) (b.set e (.dF g)):=wV l;have le:=S.lt;generalize b.set e (.dF g)=H at *;have X:=G.len;have I:=T.len;unfold LX;rw[ah,r1,aA,ah,cq,F,bt]
 refine bA (R:=λr=>∃h m,gp (sq r _)=.ok (.ref h) m/\bP Tr m h E L/\ai [e] f m/\m[e]?=some (.dF g)/\f.length<=h) (ds:=g.map Bk)
  (λi u a=>∃J M a4,u=[oR e,oR f.length,J,M,a4]/\bP Tr a f.length (E.take i) L/\ai [f.length] H a) ?_ ?_ ?_ fuel 0 _ _ (by rw[List.length_map];unfold fuel;omega) (Nat.zero_le _) ⟨none,none,none,rfl,by rw[List.take_zero];exact U,ai.refl⟩
 .rintro i u a ⟨_,_,_,_,_,K⟩
  exact nX (K.get _ _ V (by simp;omega))
 .rintro i d u a q ⟨J,M,a4,rfl,w,K⟩
  have N:=C.cm K (λj o ds=>by rw[List.mem_singleton.mp o];exact U.nl)
  rw[List.getElem?_map]at q;obtain⟨x,O,rfl⟩:=Option.map_eq_some_iff.mp q;obtain⟨⟨n,r⟩,Y,y,j,o,_,s⟩:=aI.get (R:=λ(x:Key×D) (p:Str×List Str)=>x.1=.inr p.1/\∃j,x.2=.ref j/\Tr j/\a[j]?=some (.lst (p.2.map .str))) N O
  have P:Bk x=.tup [.str n,.ref j]:=by
   unfold Bk;rw[y,o];rfl
  rw[P];refine⟨[oR e,oR f.length,oS n,oR j,a4],rfl,?_⟩;obtain⟨b0,c0,e4,H4,K4⟩:=Dv hA (a0:=oR e) (a4:=a4) w G Y (hv n (List.mem_of_getElem? (eZ Y))) s;rw[e4];exact⟨_,_,_,rfl,H4,K.trans K4⟩
 .rintro u a ⟨J,M,a4,rfl,w,K⟩
  rw[List.length_map,←I,List.take_length]at w;refine⟨f.length,a,rfl,w,⟨Nat.le_trans t.len (Nat.le_trans B.len K.len),λk c y hn=>K.get k c (B.get k c (t.get k c y (by simp)) hn) (by have:=bp y;simp;omega)⟩,K.get _ _ V (by simp;omega),Nat.le_refl _⟩
end
section
variable{Ω ao:aD}{ρ:aR}{e q h j k:Nat}{js:List Nat}{kvs dD:List (Key×D)}{E:dW}{P:Nat->Prop}{n:Str}{r row:List Str}{rs:List (List Str)}{L:Str->List Str}
theorem Pn{j:Nat}{a:List Nat}(R:Rw Ω k js rs)(b:Rw Ω j a rs):ax .NotEq (.ref k) (.ref j) Ω=.ok (.bl false) Ω:=by
 rw[sQ,iC,gs (n:=6) (rs:=js) (L:=rs) R.ce R.al,gs (n:=6) (rs:=a) (L:=rs) b.ce b.al,jP]
 have e:dH .NotEq (LL rs) (LL rs)=.ok false:=by
  rw[wD,Bd 6,Be];simp
 rw[e];rfl
end
section
variable{Ω ao:aD}{ρ:aR}{e q h j k:Nat}{js:List Nat}{kvs dD:List (Key×D)}{E:dW}{P:Nat->Prop}{n:Str}{r row:List Str}{rs:List (List Str)}{L:Str->List Str}
end
theorem Av:∃e,gQ e (pureOf (bS 8 3 mH)):=by
 have h:∀c t m:Int,∃r,0<=t->t<100000->0<m->0<=r/\r<m/\pureOf (bS 8 3 mH) [.int c,.int t,.int m]=.ok (false,.int r):=λc t m=>by
  by_cases d:0<=t/\t<100000/\0<m
  .obtain⟨r,f,g,i⟩:=z9 (c:=c) d.1 d.2.1 d.2.2
   exact⟨r,λ_ _ _=>⟨f,g,i⟩⟩
  .exact⟨0,λa b c=>absurd ⟨a,b,c⟩ d⟩
 exact⟨λc t m=>(h c t m).choose,λc t m=>(h c t m).choose_spec⟩
def nY:SM:=
 (ag (cU (m2 (ax .Lt) (aa 1) (mN (aP .len) (ab (aa 0) af)))
 (ag (bh (m2 az (aa 0) (aa 1)))
 aj)
 aj)
 (ag (bh (ae (.int 0)))
 aj))
theorem GL(ns:List Int):CF (SC ns)=true:=by
 show(ns.map D.int).all eS=true
 rw[List.all_eq_true];intro d a;obtain⟨i,_,rfl⟩:=List.mem_map.mp a;rfl
theorem xj:hF (λns k=>ns.getD k 0) (pureOf (bS 2 2 nY)):=by
 intro ns k
 have b:[SC ns,D.int k].all CF=true:=by
  simp only[List.all_cons,GL,List.all_nil];rfl
 have d:aZ 2 [SC ns,D.int k]=[some (SC ns),some (.int k)]:=rfl
 have a:aP .len [SC ns] []=.ok (.int ns.length) []:=by
  show ay.ok (D.int ((ns.map D.int).length:Nat)) []=_
  rw[List.length_map]
 refine mG (ao:=[]) b ?_ rfl;rw[bx (by rfl),d]
 by_cases h:k<ns.length
 .have c:(k:Int)<(ns.length:Int):=by omega
  have e:L2.jD (ns.map D.int) (k:Int)=some (.int (ns.getD k 0)):=L2.cQ (by simp[h])
  have f:az (SC ns) (.int k) []=.ok (.int (ns.getD k 0)) []:=by
   unfold az;rw[fN,fN,jQ]
   show gH (ixs [] (some (ns.map D.int)) (.int k)) _=_
   rw[wK e];rfl
  simp[nY,a,c,f,-List.getD_eq_getElem?_getD]
 .have c:¬ (k:Int)<(ns.length:Int):=by omega
  have e:ns.getD k 0=0:=by rw[List.getD_eq_getElem?_getD,List.getElem?_eq_none (by omega)];rfl
  show _=ay.ok (D.int (ns.getD k 0)) []
  rw[e];simp[nY,a,c]
section
variable{Ω ao:aD}{ρ:aR}{F:List D->Out Rs}{μ:Int->Int->Int->Int}{c:Int}{m:Nat}
end
section
variable{Ω ao:aD}{ρ:aR}{F:List D->Out Rs}{μ:Int->Int->Int->Int}{c:Int}{m:Nat}{S:Str}
def Aw(i j:Nat):EM:=(m2 (aM .Add) (cH (aa i) false (aa j) true (ae .non)) (cH (aa i) true (ae .non) false (aa j)))
theorem xk{i j q t:Nat}{a:List Str}(l:ρ[i]?=some (oR q))(m:ρ[j]?=some (oI t))(h:Ω[q]?=some (.lst (a.map .str)))(w:a.length<=1000):∃k ao,Aw i j ρ Ω=.ok (.ref k) ao/\ao[k]?=some (.lst ((a.drop t++a.take t).map .str))/\ai [] Ω ao/\Ω.length<=k:=by
 have o:=CT (i:=t) h;have p:(Ω++[Cell.lst ((a.drop t).map .str)])[Ω.length]?=some (.lst ((a.drop t).map .str)):=aq;have d:ai [] Ω (Ω++[Cell.lst ((a.drop t).map .str)]):=ai.app;have e:=d.get _ _ h (by simp)
 generalize Ω++[Cell.lst ((a.drop t).map .str)]=b at *;have r:=nQ (n:=t) e;have s:(b++[Cell.lst ((a.take t).map .str)])[b.length]?=some (.lst ((a.take t).map .str)):=aq;have f:ai [] b (b++[Cell.lst ((a.take t).map .str)]):=ai.app;have g:=f.get _ _ p (by simp)
 generalize b++[Cell.lst ((a.take t).map .str)]=c at *;have u:=eY g s (by simp;omega)
 refine⟨c.length,c++[.lst ((a.drop t).map .str++(a.take t).map .str)],?_,by rw[List.map_append];exact aq,(d.trans f).trans ai.app,(d.trans f).len⟩
 unfold Aw;simp only[cV,iG,fM,l,m,fL,ak,zZ,zY,z8,o,r,u]
theorem pM{t:Nat}(a:List Str):(a.drop t++a.take t).Perm a:=by
 have:=(List.perm_append_comm (l₁:=a.drop t) (l₂:=a.take t));rwa[List.take_append_drop]at this
def rh(S:Str):Prop:=S.cps.toList.length=8/\∀x∈S.cps.toList,97<=x/\x<=122
theorem Dw(a b c d e f g h:Nat):vg .join (.str "") (.tup [.lst [.str (bF a),.str (bF b),.str (bF c),.str (bF d),.str (bF e),.str (bF f),.str (bF g),.str (bF h)]])=.ok (false,.str ⟨#[a,b,c,d,e,f,g,h]⟩):=rfl
def Po(F:List D->Out Rs):EM:=(aW (m2 az (aa 2) (mN (bD F) (ab (aa 1) (ab (aa 0) (ab (ae (.int 26)) af))))) true (ae .non) (b_ (ab (ae (.int 8)) af)) 0 [0,2])
def JJ(F:List D->Out Rs):EM:=(dg zg mz (ae (.str "")) (ab (Po F) af))
theorem Dx(a:gQ μ F){a1 a3 a4 a5 a6 a7 a8 a9 a10:Option D}:∃S ao,JJ F [oI c,a1,oS abc,a3,a4,a5,a6,a7,a8,a9,a10] Ω=.ok (.str S) ao/\rh S/\ai [] Ω ao:=by
 have b:lI 8=true:=ec (by omega) (by omega)
 have h:=cF (Ω:=Ω) (ao:=Ω) (ρ:=[oI c,a1,oS abc,a3,a4,a5,a6,a7,a8,a9,a10]) (me:=m2 az (aa 2) (mN (bD F) (ab (aa 1) (ab (aa 0) (ab (ae (.int 26)) af))))) (nc:=true) (mc:=ae .non) (mi:=b_ (ab (ae (.int 8)) af)) (cap:=[0,2]) (src:=.ints 0 8) (ds:=intsFrom 0 8) (p:=λ_=>true)
  (g:=λd=>match d with|.int j=>.str (bF (97+(μ c j 26).toNat))|_=>.non) (by simp[b]) rfl (λd f=>rfl) (λd f _=>by
   obtain⟨i,o⟩:=List.mem_iff_getElem?.mp f;obtain⟨rfl,r⟩:=dQ o;obtain⟨k,m,q⟩:=a c (0+(i:Int)) 26 (by omega) (by omega) (by omega)
   generalize (0:Int)+(i:Int)=j at *;have e:=sJ k m;simp[dI,q,e]) (by rw[cR];omega)
 rw[List.filter_eq_self.mpr (by simp)]at h
 have s:∀j:Int,0<=j->j<100000->97<=97+(μ c j 26).toNat/\97+(μ c j 26).toNat<=122:=λj t u=>by
  obtain⟨k,m,_⟩:=a c j 26 t u (by omega)
  omega
 refine⟨⟨#[97+(μ c (0+0) 26).toNat,97+(μ c (0+1) 26).toNat,97+(μ c (0+2) 26).toNat,97+(μ c (0+3) 26).toNat,97+(μ c (0+4) 26).toNat,97+(μ c (0+5) 26).toNat,97+(μ c (0+6) 26).toNat,97+(μ c (0+7) 26).toNat]⟩,_,?_,?_,ai.app (l:=[.lst ((intsFrom 0 8).map λd=>match d with|.int j=>.str (bF (97+(μ c j 26).toNat))|_=>.non)])⟩
 .unfold JJ
  rw[fb (x:=.str "") (ao:=Ω) rfl rfl]
  have w:eO (Ω++[.lst ((intsFrom 0 8).map λd=>match d with|.int j=>.str (bF (97+(μ c j 26).toNat))|_=>.non)]) 8 (.ref Ω.length)=some (.lst [.str (bF (97+(μ c (0+0) 26).toNat)),.str (bF (97+(μ c (0+1) 26).toNat)),.str (bF (97+(μ c (0+2) 26).toNat)),.str (bF (97+(μ c (0+3) 26).toNat)),.str (bF (97+(μ c (0+4) 26).toNat)),.str (bF (97+(μ c (0+5) 26).toNat)),.str (bF (97+(μ c (0+6) 26).toNat)),.str (bF (97+(μ c (0+7) 26).toNat))]):=
   jO aq rfl
  unfold Po;rw[aO,h];simp only[ak,aU,mz,nN,jN,w,jP,Dw,zS]
 .refine⟨rfl,λx n=>?_⟩
  simp only[List.mem_cons,List.not_mem_nil,or_false]at n;rcases n with rfl|rfl|rfl|rfl|rfl|rfl|rfl|rfl<;>exact s _ (by omega) (by omega)
noncomputable def iK(S:Str)(i:Nat):Str:=⟨(S.cps.toList.take (i+1)).toArray⟩
theorem GN(h:rh S){i:Nat}(b:i<8):Ai (iK S i):=by
 have c:(iK S i).length=i+1:=by
  show(S.cps.toList.take (i+1)).toArray.size=_
  have:=h.1;rw[List.size_toArray,List.length_take];omega
 refine⟨by omega,by omega,λx a=>h.2 x (List.mem_of_mem_take (i:=i+1) ?_)⟩
 have:(iK S i).cps.toList=S.cps.toList.take (i+1):=rfl;rwa[this]at a
theorem Dy(h:rh S)(i:m<=8):((List.range m).map (iK S)).Nodup:=by
 refine List.pairwise_map.mpr (List.Pairwise.imp_of_mem (λ{a b} d e c f=>c ?_) (List.nodup_range (n:=m)))
 have j:=List.mem_range.mp d;have k:=List.mem_range.mp e;have l:=h.1;have g:=congrArg (λz:Str=>z.cps.toList.length) f
 simp only[iK,List.length_take]at g;omega
def LY:EM:=(aW (cH (aa 1) true (ae .non) false (m2 (aM .Add) (aa 0) (ae (.int 1)))) true (ae .non) (b_ (ab (aa 1) af)) 0 [3])
theorem Dz(h:rh S)(o:m<=12){a0 a2 a4 a5 a6 a7 a8 a9 a10:Option D}:LY [a0,oI m,a2,oS S,a4,a5,a6,a7,a8,a9,a10] Ω=.ok (.ref Ω.length) (Ω++[.lst (((List.range m).map (iK S)).map .str)]):=by
 have a:lI (m:Int)=true:=ec (by omega) (by omega)
 have k:S.length=8:=by simpa[Str.length]using h.1
 have b:small S.length=true:=aF (by omega)
 have c:=cF (Ω:=Ω) (ao:=Ω) (ρ:=[a0,oI m,a2,oS S,a4,a5,a6,a7,a8,a9,a10]) (me:=cH (aa 1) true (ae .non) false (m2 (aM .Add) (aa 0) (ae (.int 1)))) (nc:=true) (mc:=ae .non) (mi:=b_ (ab (aa 1) af)) (cap:=[3]) (src:=.ints 0 m) (ds:=intsFrom 0 m) (p:=λ_=>true)
  (g:=λd=>match d with|.int j=>.str ⟨(du S.cps.toList none (some (j+1))).toArray⟩|_=>.non) (by simp[a]) rfl (λd f=>rfl) (λd f _=>by
   obtain⟨i,l⟩:=List.mem_iff_getElem?.mp f;obtain⟨rfl,n⟩:=dQ l;generalize (0:Int)+(i:Int)=j;simp[dI,b]) (by rw[cR];omega)
 rw[List.filter_eq_self.mpr (by simp),gC,List.map_map]at c
 have e:((List.range m).map ((λd:D=>match d with|.int j=>D.str ⟨(du S.cps.toList none (some (j+1))).toArray⟩|_=>.non) ∘ λ(i:Nat)=>D.int i))=((List.range m).map (iK S)).map .str:=by
  rw[List.map_map];refine List.map_congr_left λi _=>?_
  show D.str ⟨(du S.cps.toList none (some ((i:Int)+1))).toArray⟩=.str (iK S i)
  rw[show(i:Int)+1=((i+1:Nat):Int)by omega,qX]
  rfl
 rw[e]at c;exact c
def sgn(f st:Int)(i:Nat):Nat:=97+((f+st*(i:Int))%26).toNat
def LZ:EM:=(aW (m2 az (aa 2) (m2 (aM .Mod) (m2 (aM .Add) (aa 1) (m2 (aM .Mult) (aa 3) (aa 0))) (ae (.int 26)))) true (ae .non) (b_ (ab (aa 1) af)) 0 [8,2,9])
theorem DA{f st:Int}(k:1<=st)(s:st<26)(t:m<=12){a0 a3 a4 a5 a6 a7 a10:Option D}:LZ [a0,oI m,oS abc,a3,a4,a5,a6,a7,oI f,oI st,a10] Ω=.ok (.ref Ω.length) (Ω++[.lst (((List.range m).map λi=>bF (sgn f st i)).map .str)]):=by
 have a:lI (m:Int)=true:=ec (by omega) (by omega)
 have l:ke st=true:=iB (by omega) (by omega)
 have b:=cF (Ω:=Ω) (ao:=Ω) (ρ:=[a0,oI m,oS abc,a3,a4,a5,a6,a7,oI f,oI st,a10]) (me:=m2 az (aa 2) (m2 (aM .Mod) (m2 (aM .Add) (aa 1) (m2 (aM .Mult) (aa 3) (aa 0))) (ae (.int 26)))) (nc:=true) (mc:=ae .non) (mi:=b_ (ab (aa 1) af)) (cap:=[8,2,9]) (src:=.ints 0 m) (ds:=intsFrom 0 m) (p:=λ_=>true)
  (g:=λd=>match d with|.int j=>.str (bF (97+((f+st*j)%26).toNat))|_=>.non) (by simp[a]) rfl (λd h=>rfl) (λd h _=>by
   obtain⟨i,n⟩:=List.mem_iff_getElem?.mp h;obtain⟨rfl,o⟩:=dQ n;generalize u:(0:Int)+(i:Int)=j;have r:ke j=true:=iB (by omega) (by omega)
   have c:=sJ (q:=(f+st*j)%26) (by omega) (by omega)
   simp[dI,l,r,c]) (by rw[cR];omega)
 rw[List.filter_eq_self.mpr (by simp),gC,List.map_map]at b
 have e:((List.range m).map ((λd:D=>match d with|.int j=>D.str (bF (97+((f+st*j)%26).toNat))|_=>.non) ∘ λ(i:Nat)=>D.int i))=((List.range m).map λi=>bF (sgn f st i)).map .str:=by
  rw[List.map_map];exact List.map_congr_left λi _=>rfl
 rw[e]at b;exact b
noncomputable def ri(S:Str)(a pl:Nat)(z:Str):Str:=((⟨(S.cps.toList.take pl).toArray⟩:Str)++z)++(⟨((S.cps.toList.drop (pl+1)).take (a - (pl+1))).toArray⟩:Str)
theorem rj{a pl:Nat}{c:Nat}:(ri S a pl (bF c)).cps.toList=(S.cps.toList.take pl++[c])++(S.cps.toList.drop (pl+1)).take (a - (pl+1)):=by
 unfold ri;rw[Str.cps_append,Str.cps_append];simp[bF]
theorem L7(h:rh S){a pl:Nat}{c:Nat}(hz:a<=8)(d:pl<a)(b:97<=c/\c<=122):Ai (ri S a pl (bF c)):=by
 have e:=h.1
 have f:(ri S a pl (bF c)).length=a:=by
  have:(ri S a pl (bF c)).length=(ri S a pl (bF c)).cps.toList.length:=by simp[Str.length]
  rw[this,rj];simp only[List.length_append,List.length_take,List.length_drop,List.length_singleton];omega
 refine⟨by omega,by omega,λx hx=>?_⟩
 rw[rj]at hx;simp only[List.mem_append,List.mem_singleton]at hx;rcases hx with (hx|rfl)|hx
 .exact h.2 x (List.mem_of_mem_take hx)
 .exact b
 .exact h.2 x (List.mem_of_mem_drop (List.mem_of_mem_take hx))
theorem GO(h:rh S){e pl:Nat}{f st:Int}(r:m<=12)(g:st=1\/st=3\/st=5\/st=7):((List.range m).map λi=>ri S e pl (bF (sgn f st i))).Nodup:=by
 refine List.pairwise_map.mpr (List.Pairwise.imp_of_mem (λ{a b} j k c l=>c ?_) (List.nodup_range (n:=m)))
 have s:=List.mem_range.mp j;have t:=List.mem_range.mp k;have d:=congrArg (λz:Str=>z.cps.toList) l
 simp only[rj]at d;have o:=List.append_cancel_right d;have p:=List.append_cancel_left o;have q:sgn f st a=sgn f st b:=by simpa using p
 unfold sgn at q;rcases g with rfl|rfl|rfl|rfl<;>omega
def Pp:EM:=(aW (m2 (aM .Add) (m2 (aM .Add) (cH (aa 3) true (ae .non) false (aa 2)) (aa 0)) (cH (aa 3) false (m2 (aM .Add) (aa 2) (ae (.int 1))) false (aa 1))) true (ae .non) (aK (aa 10)) 0 [6,7,3])
theorem DB(h:rh S){a pl q:Nat}{b:List Nat}(hz:a<=8)(u:pl<a)(n:Ω[q]?=some (.lst ((b.map bF).map .str)))(x:b.length<=1000){a0 a1 a2 a4 a5 a8 a9:Option D}:Pp [a0,a1,a2,oS S,a4,a5,oI a,oI pl,a8,a9,oR q] Ω=.ok (.ref Ω.length) (Ω++[.lst ((b.map λc=>ri S a pl (bF c)).map .str)]):=by
 have r:S.length=8:=by simpa[Str.length]using h.1
 have f:small S.length=true:=aF (by omega)
 have y:=h.1
 have j:=cF (Ω:=Ω) (ao:=Ω) (ρ:=[a0,a1,a2,oS S,a4,a5,oI a,oI pl,a8,a9,oR q]) (me:=m2 (aM .Add) (m2 (aM .Add) (cH (aa 3) true (ae .non) false (aa 2)) (aa 0)) (cH (aa 3) false (m2 (aM .Add) (aa 2) (ae (.int 1))) false (aa 1))) (nc:=true) (mc:=ae .non) (mi:=aK (aa 10)) (cap:=[6,7,3]) (src:=.seq (.ref q)) (ds:=(b.map bF).map .str) (p:=λ_=>true)
  (g:=λd=>match d with|.str z=>.str (ri S a pl z)|_=>.non) (by
   rw[bg];exact aX (by rw[aE,aB n])) (by rw[cp,aE,aB n]) (λd o=>rfl) (λd o _=>by
   obtain⟨z,k,rfl⟩:=List.mem_map.mp o;obtain⟨c,_,rfl⟩:=List.mem_map.mp k;have s:du S.cps.toList none (some (pl:Int))=S.cps.toList.take pl:=qX _ _
   have t:du S.cps.toList (some ((pl:Int)+1)) (some (a:Int))=(S.cps.toList.drop (pl+1)).take (a - (pl+1)):=by
    rw[show(pl:Int)+1=((pl+1:Nat):Int)by omega,wG]
   have one:(bF c).length=1:=rfl
   have A:(⟨(S.cps.toList.take pl).toArray⟩:Str).length<=8:=by
    show(S.cps.toList.take pl).toArray.size<=8
    rw[List.size_toArray,List.length_take];omega
   have B:(⟨((S.cps.toList.drop (pl+1)).take (a - (pl+1))).toArray⟩:Str).length<=8:=by
    show((S.cps.toList.drop (pl+1)).take (a - (pl+1))).toArray.size<=8
    rw[List.size_toArray,List.length_take];omega
   have l:small ((⟨(S.cps.toList.take pl).toArray⟩:Str).length+(bF c).length)=true:=aF (by omega)
   have m:small (((⟨(S.cps.toList.take pl).toArray⟩:Str)++bF c).length+(⟨((S.cps.toList.drop (pl+1)).take (a - (pl+1))).toArray⟩:Str).length)=true:=aF (by rw[Str.length_append];omega)
   generalize C:bF c=w at *;simp[dI,f,s,t,l,m,ri]) (by simp;omega)
 rw[List.filter_eq_self.mpr (by simp),List.map_map,List.map_map]at j
 have e:(b.map (((λd:D=>match d with|.str z=>D.str (ri S a pl z)|_=>.non) ∘ D.str) ∘ bF))=(b.map λc=>ri S a pl (bF c)).map .str:=by
  rw[List.map_map];exact List.map_congr_left λi _=>rfl
 rw[e]at j;exact j
def Ek(F:List D->Out Rs):SM:=(cU (eK (m2 (ax .LtE) (aa 1) (ae (.int 8))) (m2 (ax .Eq) (mN (bD F) (ab (aa 0) (ab (ae (.int 9)) (ab (ae (.int 4)) af)))) (ae (.int 1))))
 (ag (av 5 LY)
 (ag (bh (Aw 5 4))
 aj))
 aj)
def L8(F:List D->Out Rs):SM:=
 (ag (av 2 (ae (.str "abcdefghijklmnopqrstuvwxyz")))
 (ag (av 3 (JJ F))
 (ag (av 4 (mN (bD F) (ab (aa 0) (ab (ae (.int 8)) (ab (aa 1) af)))))
 (ag (Ek F)
 (ag (av 6 (m2 (aM .Add) (ae (.int 1)) (mN (bD F) (ab (aa 0) (ab (ae (.int 10)) (ab (ae (.int 8)) af))))))
 (ag (av 7 (mN (bD F) (ab (aa 0) (ab (ae (.int 11)) (ab (aa 6) af)))))
 (ag (av 8 (mN (bD F) (ab (aa 0) (ab (ae (.int 12)) (ab (ae (.int 26)) af)))))
 (ag (av 9 (m2 az (mN aT (ab (ae (.int 1)) (ab (ae (.int 3)) (ab (ae (.int 5)) (ab (ae (.int 7)) af))))) (mN (bD F) (ab (aa 0) (ab (ae (.int 13)) (ab (ae (.int 4)) af))))))
 (ag (av 10 LZ)
 (ag (bh Pp)
 aj))))))))))
def Ax(N:aV):Prop:=∀(d:aD) (c:Int) (m:Nat),1<=m->m<=12->∃(b:List Str) (q:Nat) (a:aD),b.Nodup/\(∀x∈b,Ai x)/\b.length=m/\N [.int c,.int m] d=.ok (.ref q) a/\a[q]?=some (.lst (b.map .str))/\ai [] d a
theorem GP(l:gQ μ F):Ax (bS 11 2 (L8 F)):=by
 intro Ω c m Z I;rw[bx (by rfl)]
 have e0:aZ 11 [D.int c,.int m]=[oI c,oI m,none,none,none,none,none,none,none,none,none]:=rfl;rw[e0];obtain⟨t0,t1,ht⟩:=l c 8 (m:Int) (by omega) (by omega) (by omega)
 obtain⟨w0,w1,C⟩:=l c 9 4 (by omega) (by omega) (by omega)
 obtain⟨z0,z1,hz⟩:=l c 10 8 (by omega) (by omega) (by omega)
 generalize μ c 8 (m:Int)=t at *;generalize μ c 9 4=w at *;generalize μ c 10 8=z at *;obtain⟨p0,p1,V⟩:=l c 11 (1+z) (by omega) (by omega) (by omega)
 obtain⟨f0,f1,hf⟩:=l c 12 26 (by omega) (by omega) (by omega)
 obtain⟨s0,s1,hs⟩:=l c 13 4 (by omega) (by omega) (by omega)
 generalize μ c 11 (1+z)=p at *;generalize μ c 12 26=f at *;generalize μ c 13 4=s at *;obtain⟨b,rfl⟩:∃b:Nat,(b:Int)=t:=⟨t.toNat,by omega⟩
 obtain⟨g,rfl⟩:∃g:Nat,(g:Int)=p:=⟨p.toNat,by omega⟩
 obtain⟨e,B⟩:∃e:Nat,(e:Int)=1+z:=⟨(1+z).toNat,by omega⟩
 rw[←B]at V;obtain⟨S,a,e1,A,X⟩:=Dx (Ω:=Ω) (c:=c) l (a1:=oI m) (a3:=none) (a4:=none) (a5:=none) (a6:=none) (a7:=none) (a8:=none) (a9:=none) (a10:=none);have r1:(av 2 (ae (.str "abcdefghijklmnopqrstuvwxyz"))) [oI c,oI m,none,none,none,none,none,none,none,none,none] Ω=.nx [oI c,oI m,oS abc,none,none,none,none,none,none,none,none] Ω:=rfl
 have r2:(av 3 (JJ F)) [oI c,oI m,oS abc,none,none,none,none,none,none,none,none] Ω=.nx [oI c,oI m,oS abc,oS S,none,none,none,none,none,none,none] a:=by
  rw[br,e1];rfl
 have r3:(av 4 (mN (bD F) (ab (aa 0) (ab (ae (.int 8)) (ab (aa 1) af))))) [oI c,oI m,oS abc,oS S,none,none,none,none,none,none,none] a=.nx [oI c,oI m,oS abc,oS S,oI b,none,none,none,none,none,none] a:=by simp[ht]
 unfold L8;rw[ah,r1,aA,ah,r2,aA,ah,r3,aA,ah]
 by_cases Y:m<=8/\w=1
 .obtain⟨J,rfl⟩:=Y
  have e2:=Dz (Ω:=a) A I (a0:=oI c) (a2:=oS abc) (a4:=oI b) (a5:=none) (a6:=none) (a7:=none) (a8:=none) (a9:=none) (a10:=none);have K:(a++[Cell.lst (((List.range m).map (iK S)).map .str)])[a.length]?=some (.lst (((List.range m).map (iK S)).map .str)):=aq;have L:ai [] a (a++[Cell.lst (((List.range m).map (iK S)).map .str)]):=ai.app
  have hv:∀x∈(List.range m).map (iK S),Ai x:=λx q=>by
   obtain⟨i,hi,rfl⟩:=List.mem_map.mp q;exact GN A (by have:=List.mem_range.mp hi;omega)
  have hn:=Dy (m:=m) A J;have M:((List.range m).map (iK S)).length=m:=by simp
  generalize (List.range m).map (iK S)=E at *;generalize a++[Cell.lst (E.map .str)]=d at *;obtain⟨k,o,G,N,O,_⟩:=xk (ρ:=[oI c,oI m,oS abc,oS S,oI b,oR a.length,none,none,none,none,none]) (i:=5) (j:=4) rfl rfl K (by omega)
  have P:=pM (t:=b) E;refine⟨E.drop b++E.take b,k,o,P.nodup_iff.mpr hn,λx q=>hv x (P.mem_iff.mp q),by rw[P.length_eq];exact M,?_,N,(X.trans L).trans O⟩
  have n:((m:Int)<=8):=by omega
  have rt:(eK (m2 (ax .LtE) (aa 1) (ae (.int 8))) (m2 (ax .Eq) (mN (bD F) (ab (aa 0) (ab (ae (.int 9)) (ab (ae (.int 4)) af)))) (ae (.int 1)))) [oI c,oI m,oS abc,oS S,oI b,none,none,none,none,none,none] a=.ok (.bl true) a:=by
   simp[C,n]
  have ra:av 5 LY [oI c,oI m,oS abc,oS S,oI b,none,none,none,none,none,none] a=.nx [oI c,oI m,oS abc,oS S,oI b,oR a.length,none,none,none,none,none] d:=by
   rw[br,e2];rfl
  unfold Ek;rw[bY,rt,cS,cJ,c_,bt,if_pos rfl,ah,ra,aA,ah,dR,G];rfl
 .have r4:Ek F [oI c,oI m,oS abc,oS S,oI b,none,none,none,none,none,none] a=.nx [oI c,oI m,oS abc,oS S,oI b,none,none,none,none,none,none] a:=by
   by_cases H:w=1
   .have n:¬ ((m:Int)<=8):=λh=>Y ⟨by omega,H⟩
    simp[Ek,C,n]
   .by_cases n:(m:Int)<=8
    .simp[Ek,C,n,H]
    .simp[Ek,C,n]
  have r5:(av 6 (m2 (aM .Add) (ae (.int 1)) (mN (bD F) (ab (aa 0) (ab (ae (.int 10)) (ab (ae (.int 8)) af)))))) [oI c,oI m,oS abc,oS S,oI b,none,none,none,none,none,none] a=.nx [oI c,oI m,oS abc,oS S,oI b,none,oI e,none,none,none,none] a:=by
   rw[B];simp[hz]
  have r6:(av 7 (mN (bD F) (ab (aa 0) (ab (ae (.int 11)) (ab (aa 6) af))))) [oI c,oI m,oS abc,oS S,oI b,none,oI e,none,none,none,none] a=.nx [oI c,oI m,oS abc,oS S,oI b,none,oI e,oI g,none,none,none] a:=by simp[V]
  have r7:(av 8 (mN (bD F) (ab (aa 0) (ab (ae (.int 12)) (ab (ae (.int 26)) af))))) [oI c,oI m,oS abc,oS S,oI b,none,oI e,oI g,none,none,none] a=.nx [oI c,oI m,oS abc,oS S,oI b,none,oI e,oI g,oI f,none,none] a:=by simp[hf]
  have L:ai [] a (a++[Cell.lst [.int 1,.int 3,.int 5,.int 7]]):=ai.app;have K:(a++[Cell.lst [.int 1,.int 3,.int 5,.int 7]])[a.length]?=some (.lst [.int 1,.int 3,.int 5,.int 7]):=aq
  have r:∃st:Int,(st=1\/st=3\/st=5\/st=7)/\L2.jD [D.int 1,.int 3,.int 5,.int 7] s=oI st:=by
   have:s=0\/s=1\/s=2\/s=3:=by omega
   rcases this with rfl|rfl|rfl|rfl
   .exact⟨1,.inl rfl,rfl⟩
   .exact⟨3,.inr (.inl rfl),rfl⟩
   .exact⟨5,.inr (.inr (.inl rfl)),rfl⟩
   .exact⟨7,.inr (.inr (.inr rfl)),rfl⟩
  obtain⟨st,r,Q⟩:=r;have R:=cE K Q
  have r8:(av 9 (m2 az (mN aT (ab (ae (.int 1)) (ab (ae (.int 3)) (ab (ae (.int 5)) (ab (ae (.int 7)) af))))) (mN (bD F) (ab (aa 0) (ab (ae (.int 13)) (ab (ae (.int 4)) af)))))) [oI c,oI m,oS abc,oS S,oI b,none,oI e,oI g,oI f,none,none] a=.nx [oI c,oI m,oS abc,oS S,oI b,none,oI e,oI g,oI f,oI st,none] (a++[Cell.lst [.int 1,.int 3,.int 5,.int 7]]):=by
   have H:(mN aT (ab (ae (.int 1)) (ab (ae (.int 3)) (ab (ae (.int 5)) (ab (ae (.int 7)) af))))) [oI c,oI m,oS abc,oS S,oI b,none,oI e,oI g,oI f,none,none] a=.ok (.ref a.length) (a++[Cell.lst [.int 1,.int 3,.int 5,.int 7]]):=by
    show aT [.int 1,.int 3,.int 5,.int 7] a=_
    rw[cT,if_pos (aF (by simp))]
   have h2:(mN (bD F) (ab (aa 0) (ab (ae (.int 13)) (ab (ae (.int 4)) af)))) [oI c,oI m,oS abc,oS S,oI b,none,oI e,oI g,oI f,none,none] (a++[Cell.lst [.int 1,.int 3,.int 5,.int 7]])=.ok (.int s) (a++[Cell.lst [.int 1,.int 3,.int 5,.int 7]]):=by
    generalize a++[Cell.lst [.int 1,.int 3,.int 5,.int 7]]=b0;simp[hs]
   rw[br,cV,H,ak,h2,ak,R];rfl
  generalize a++[Cell.lst [.int 1,.int 3,.int 5,.int 7]]=d at *;have G:=DA (Ω:=d) (f:=f) (st:=st) (by omega) (by omega) I (a0:=oI c) (a3:=oS S) (a4:=oI b) (a5:=none) (a6:=oI e) (a7:=oI g) (a10:=none)
  have em:(List.range m).map (λi=>bF (sgn f st i))=((List.range m).map (sgn f st)).map bF:=by rw[List.map_map];rfl
  rw[em]at G
  have T:∀x∈(List.range m).map (sgn f st),97<=x/\x<=122:=λx q=>by
   obtain⟨i,_,rfl⟩:=List.mem_map.mp q;unfold sgn;omega
  have U:(((List.range m).map (sgn f st)).map λx=>ri S e g (bF x)).Nodup:=by
   rw[List.map_map];exact GO A I r
  have M:((List.range m).map (sgn f st)).length=m:=by simp
  generalize (List.range m).map (sgn f st)=u at *;have N:(d++[Cell.lst ((u.map bF).map .str)])[d.length]?=some (.lst ((u.map bF).map .str)):=aq;have O:ai [] d (d++[Cell.lst ((u.map bF).map .str)]):=ai.app
  have r9:av 10 LZ [oI c,oI m,oS abc,oS S,oI b,none,oI e,oI g,oI f,oI st,none] d=.nx [oI c,oI m,oS abc,oS S,oI b,none,oI e,oI g,oI f,oI st,oR d.length] (d++[Cell.lst ((u.map bF).map .str)]):=by
   rw[br,G];rfl
  generalize d++[Cell.lst ((u.map bF).map .str)]=o at *;have e4:=DB A (show e<=8 by omega) (show g<e by omega) N (by omega) (a0:=oI c) (a1:=oI m) (a2:=oS abc) (a4:=oI b) (a5:=none) (a8:=oI f) (a9:=oI st)
  refine⟨u.map λx=>ri S e g (bF x),o.length,o++[.lst ((u.map λx=>ri S e g (bF x)).map .str)],U,λx q=>?_,by simpa using M,?_,aq,((X.trans L).trans O).trans ai.app⟩
  .obtain⟨y,hy,rfl⟩:=List.mem_map.mp q
   exact L7 A (by omega) (by omega) (T y hy)
  .rw[r4,aA,ah,r5,aA,ah,r6,aA,ah,r7,aA,ah,r8,aA,ah,r9,aA,ah,dR,e4]
   rfl
end
section
variable{Ω ao:aD}{ρ:aR}{F C:List D->Out Rs}{μ:Int->Int->Int->Int}{κ:List Int->Nat->Int}{c:Int}{m:Nat}{ns:List Int}{xs:List Str}{x i:Nat}
def pN(xs:List Str)(mo i:Nat)(r:List Str):Prop:=r.Nodup/\r.length<=mo/\∀y∈r,y∈xs.take i
def L9(F:List D->Out Rs):EM:=(aW (m2 az (aa 2) (aa 0)) false (m2 (ax .Eq) (mN (bD F) (ab (aa 1) (ab (aa 0) (ab (ae (.int 3)) af)))) (ae (.int 0))) (b_ (ab (aa 5) af)) 0 [6,2])
theorem ly{xs:List Str}:∀{i:Nat},i<=xs.length->(List.range i).map (λj=>xs.getD j "")=xs.take i:=by
 intro i a;apply List.ext_getElem?;intro j;rw[List.getElem?_map,List.getElem?_take]
 by_cases h:j<i
 .rw[List.getElem?_range h,if_pos h]
  rw[List.getElem?_eq_getElem (by omega)]
  simp[show j<xs.length by omega]
 .rw[if_neg h,List.getElem?_eq_none (by simp;omega)]
  rfl
theorem DC(a:gQ μ F){a0 a1 a3 a4 a7 a8:Option D}(m:Ω[x]?=some (.lst (xs.map .str)))(n:i<=xs.length)(s:xs.length<=100):∃r:List Str,r.Sublist (xs.take i)/\L9 F [a0,a1,oR x,a3,a4,oI i,oI c,a7,a8] Ω=.ok (.ref Ω.length) (Ω++[.lst (r.map .str)]):=by
 have b:lI (i:Int)=true:=ec (by omega) (by omega)
 have l:=cF (Ω:=Ω) (ao:=Ω) (ρ:=[a0,a1,oR x,a3,a4,oI i,oI c,a7,a8]) (me:=m2 az (aa 2) (aa 0)) (nc:=false) (mc:=m2 (ax .Eq) (mN (bD F) (ab (aa 1) (ab (aa 0) (ab (ae (.int 3)) af)))) (ae (.int 0))) (mi:=b_ (ab (aa 5) af)) (cap:=[6,2]) (src:=.ints 0 i) (ds:=intsFrom 0 i) (p:=λd=>match d with|.int j=>(μ c j 3==0)|_=>false)
  (g:=λd=>match d with|.int j=>.str (xs.getD j.toNat "")|_=>.non) (by simp[b]) rfl (λd f=>by
   obtain⟨j,h⟩:=List.mem_iff_getElem?.mp f;obtain⟨rfl,k⟩:=dQ h;obtain⟨t,u,q⟩:=a c (0+(j:Int)) 3 (by omega) (by omega) (by omega)
   generalize (0:Int)+(j:Int)=o at *
   show cx ((m2 (ax .Eq) (mN (bD F) (ab (aa 1) (ab (aa 0) (ab (ae (.int 3)) af)))) (ae (.int 0))) [oI o,oI c,oR x] Ω)=_
   simp[q]) (λd f _=>by
   obtain⟨j,h⟩:=List.mem_iff_getElem?.mp f;obtain⟨rfl,k⟩:=dQ h;rw[Int.zero_add]
   show az (.ref x) (.int j) Ω=.ok (.str (xs.getD (j:Int).toNat "")) Ω
   refine cE m (L2.cQ ?_);simp[show j<xs.length by omega]) (by rw[cR];omega)
 have e:(((intsFrom 0 i).filter λd=>match d with|.int j=>(μ c j 3==0)|_=>false).map λd=>match d with|.int j=>D.str (xs.getD j.toNat "")|_=>.non)=(((List.range i).filter λj:Nat=>(μ c j 3==0)).map λj=>xs.getD j "").map .str:=by
  rw[gC,List.filter_map,List.map_map,List.map_map];rfl
 rw[e]at l;refine⟨_,?_,l⟩;rw[←ly n];exact(List.filter_sublist).map _
def L_(F:List D->Out Rs):EM:=(eK (m2 (ax .NotEq) (aa 7) (mN aT af)) (m2 (ax .Eq) (mN (bD F) (ab (aa 6) (ab (ae (.int 13)) (ab (ae (.int 3)) af)))) (ae (.int 1))))
def GQ(F:List D->Out Rs):SM:=(cU (L_ F)
 (ag (av 8 (mN (bD F) (ab (aa 6) (ab (ae (.int 14)) (ab (mN (aP .len) (ab (aa 7) af)) af)))))
 (ag (av 7 (Aw 7 8))
 aj))
 aj)
def Ma(F C:List D->Out Rs):SM:=
 (ag (av 6 (mN (bD C) (ab (aa 0) (ab (m2 (aM .Add) (aa 1) (aa 5)) af))))
 (ag (av 7 (L9 F))
 (ag (av 7 (cH (aa 7) true (ae .non) false (aa 3)))
 (ag (bH (dg hY ej (aa 7) af))
 (ag (GQ F)
 (ag (bH (dg hY bq (aa 4) (ab (aa 7) af)))
 aj))))))
def Mb(F C:List D->Out Rs):SM:=
 (ag (av 4 (mN aT af))
 (ag (cj (bX 5) (b_ (ab (mN (aP .len) (ab (aa 2) af)) af))
 (Ma F C))
 (ag (bh (aa 4))
 aj)))
abbrev RV(ns:List Int)(st x mo q:Nat)(a5 a6 a7 a8:Option D):aR:=[some (SC ns),oI st,oR x,oI mo,oR q,a5,a6,a7,a8]
theorem DD(d:gQ μ F){a0 a1 a2 a3 a4 a5 a8:Option D}{r:List Str}{w:Nat}(p:Ω[w]?=some (.lst (r.map .str)))(I:r.length<=100):∃(q:List Str) (g:Nat) (m:Option D) (ao:aD),q.Perm r/\GQ F [a0,a1,a2,a3,a4,a5,oI c,oR w,a8] Ω=.nx [a0,a1,a2,a3,a4,a5,oI c,oR g,m] ao/\ao[g]?=some (.lst (q.map .str))/\(g=w\/Ω.length<=g)/\ai [] Ω ao:=by
 obtain⟨a,x,h⟩:=ne_nil (ρ:=[a0,a1,a2,a3,a4,a5,oI c,oR w,a8]) (i:=7) rfl p;obtain⟨J,K,y⟩:=d c 13 3 (by omega) (by omega) (by omega)
 have b:=h.get _ _ p (by simp)
 have A:(m2 (ax .Eq) (mN (bD F) (ab (aa 6) (ab (ae (.int 13)) (ab (ae (.int 3)) af)))) (ae (.int 1))) [a0,a1,a2,a3,a4,a5,oI c,oR w,a8] a=.ok (.bl (μ c 13 3==1)) a:=by simp[y]
 have s:L_ F [a0,a1,a2,a3,a4,a5,oI c,oR w,a8] Ω=.ok (.bl (decide (r≠[])&&(μ c 13 3==1))) a:=by
  unfold L_;rw[gE,x,ak,cJ]
  by_cases e:r=[]
  .subst e;rfl
  .rw[decide_eq_true e,Bf,A,Bool.true_and]
 by_cases l:r≠[]/\μ c 13 3=1
 .have L:0<r.length:=List.length_pos_iff.mpr l.1
  obtain⟨M,N,u⟩:=d c 14 (r.length:Int) (by omega) (by omega) (by omega)
  obtain⟨t,B⟩:∃t:Nat,(t:Int)=μ c 14 (r.length:Int):=⟨(μ c 14 (r.length:Int)).toNat,by omega⟩
  rw[←B]at u;have f:=fO b;rw[List.length_map]at f
  have C:(av 8 (mN (bD F) (ab (aa 6) (ab (ae (.int 14)) (ab (mN (aP .len) (ab (aa 7) af)) af))))) [a0,a1,a2,a3,a4,a5,oI c,oR w,a8] a=.nx [a0,a1,a2,a3,a4,a5,oI c,oR w,oI t] a:=by
   simp[f,u]
  obtain⟨k,n,E,G,H,O⟩:=xk (ρ:=[a0,a1,a2,a3,a4,a5,oI c,oR w,oI t]) (i:=7) (j:=8) rfl rfl b (by omega)
  refine⟨r.drop t++r.take t,k,oI t,n,pM r,?_,G,.inr (by have:=h.len;omega),h.trans H⟩
  have o:(decide (r≠[])&&(μ c 13 3==1))=true:=by simp[l.1,l.2]
  unfold GQ;rw[bY,s,o,cS,cJ,c_,bt,if_pos rfl,ah,C,aA,ah,br,E];rfl
 .refine⟨r,w,a8,a,List.Perm.refl _,?_,b,.inl rfl,h⟩
  have o:(decide (r≠[])&&(μ c 13 3==1))=false:=by
   by_cases e:r=[]
   .simp[e]
   .have:μ c 13 3≠1:=λz=>l ⟨e,z⟩
    simp[this]
  unfold GQ;rw[bY,s,o];rfl
theorem DE(m:gQ μ F)(A:hF κ C){st mo q:Nat}{k:List Nat}{rs:List (List Str)}{a6 a7 a8:Option D}(U:Ω[x]?=some (.lst (xs.map .str)))(B:xs.Nodup)(V:i<=xs.length)(X:xs.length<=100)(R:Rw Ω q k rs)(Y:q∉k)(Z:rs.length<=100) :
  ∃r j E G e ao,pN xs mo i r/\Ma F C (RV ns st x mo q (oI i) a6 a7 a8) Ω=.nx (RV ns st x mo q (oI i) E G e) ao/\Rw ao q (k++[j]) (rs++[r])/\q∉k++[j]/\ai [q] Ω ao:=by
 have H:C [SC ns,.int ((st:Int)+(i:Int))]=.ok (false,.int (κ ns (st+i))):=by
  rw[show(st:Int)+(i:Int)=((st+i:Nat):Int)by omega]
  exact A ns (st+i)
 have r1:(av 6 (mN (bD C) (ab (aa 0) (ab (m2 (aM .Add) (aa 1) (aa 5)) af)))) (RV ns st x mo q (oI i) a6 a7 a8) Ω=.nx (RV ns st x mo q (oI i) (some (.int (κ ns (st+i)))) a7 a8) Ω:=by
  simp[RV,H]
 generalize κ ns (st+i)=c at *;obtain⟨r,g,e2⟩:=DC (c:=c) m (a0:=some (SC ns)) (a1:=oI st) (a3:=oI mo) (a4:=oR q) (a7:=a7) (a8:=a8) U V X;have I:r.length<=100:=by have:=g.length_le;rw[List.length_take]at this;omega
 have r2:av 7 (L9 F) (RV ns st x mo q (oI i) (oI c) a7 a8) Ω=.nx (RV ns st x mo q (oI i) (oI c) (oR Ω.length) a8) (Ω++[.lst (r.map .str)]):=by
  rw[br,e2];rfl
 have g2:(Ω++[Cell.lst (r.map .str)])[Ω.length]?=some (.lst (r.map .str)):=aq;have J:ai [] Ω (Ω++[Cell.lst (r.map .str)]):=ai.app;generalize Ω++[Cell.lst (r.map .str)]=a at *;have s3:=nQ (n:=mo) g2
 have r3:av 7 (cH (aa 7) true (ae .non) false (aa 3)) (RV ns st x mo q (oI i) (oI c) (oR Ω.length) a8) a=.nx (RV ns st x mo q (oI i) (oI c) (oR a.length) a8) (a++[.lst ((r.take mo).map .str)]):=by
  have:cH (aa 7) true (ae .non) false (aa 3) (RV ns st x mo q (oI i) (oI c) (oR Ω.length) a8) a=.ok (.ref a.length) (a++[.lst ((r.take mo).map .str)]):=by
   rw[iG]
   show jx (.ref Ω.length) none (some (mo:Int)) a=_
   exact s3
  rw[br,this];rfl
 have K:(a++[Cell.lst ((r.take mo).map .str)])[a.length]?=some (.lst ((r.take mo).map .str)):=aq;have K3:ai [] a (a++[Cell.lst ((r.take mo).map .str)]):=ai.app;generalize a++[Cell.lst ((r.take mo).map .str)]=f at *;have L:=pG K
 have r4:(bH (dg hY ej (aa 7) af)) (RV ns st x mo q (oI i) (oI c) (oR a.length) a8) f=.nx (RV ns st x mo q (oI i) (oI c) (oR a.length) a8) (f.set a.length (.lst ((r.take mo).map D.str).reverse)):=by
  rw[bT,fb (x:=.ref a.length) (ao:=f) rfl (eD K),aU,ak,L];rfl
 have g4:(f.set a.length (.lst ((r.take mo).map D.str).reverse))[a.length]?=some (.lst ((r.take mo).reverse.map .str)):=by rw[List.map_reverse];exact aQ K
 have Q:ai [] Ω (f.set a.length (.lst ((r.take mo).map D.str).reverse)):=ai.new (J.trans K3) (ai.set (fp:=[a.length]) (by simp)) (by simpa using J.len)
 generalize f.set a.length (.lst ((r.take mo).map D.str).reverse)=M at *;obtain⟨S,w,e,b,l,r5,g5,hw,K5⟩:=DD (c:=c) m (a0:=some (SC ns)) (a1:=oI st) (a2:=oR x) (a3:=oI mo) (a4:=oR q) (a5:=oI i) (a8:=a8) g4 (by rw[List.length_reverse,List.length_take];omega)
 have b0:Ω.length<=w:=by
  have:=J.len;have:=Q.len;rcases hw with z|z
  .omega
  .omega
 have o:=Q.trans K5;have u:=R.keep o;have hL:=R.len;have N:=d_ (d:=.ref w) u.ce (by simp;omega)
 have r6:(bH (dg hY bq (aa 4) (ab (aa 7) af))) (RV ns st x mo q (oI i) (oI c) (oR w) e) b=.nx (RV ns st x mo q (oI i) (oI c) (oR w) e) (b.set q (.lst (k.map .ref++[.ref w]))):=by
  rw[bT,fb (x:=.ref q) (ao:=b) rfl (eD u.ce)]
  show bK (bq (.ref q) [.ref w] b) _=_
  rw[N];rfl
 have lq:=bp R.ce;have T:ai [q] b (b.set q (.lst (k.map .ref++[.ref w]))):=ai.set (by simp)
 have p:q∉k++[w]:=λz=>by
  rcases List.mem_append.mp z with z|z
  .exact Y z
  .have:=List.mem_singleton.mp z;omega
 have s:pN xs mo i S:=by
  have t:(r.take mo).Sublist (xs.take i):=(List.take_sublist _ _).trans g;have O:(r.take mo).Nodup:=(B.sublist (List.take_sublist _ _)).sublist t;refine⟨l.nodup_iff.mpr (List.pairwise_reverse.mpr (List.Pairwise.imp (λh=>Ne.symm h) O)),?_,λy hy=>?_⟩
  .rw[l.length_eq,List.length_reverse,List.length_take];omega
  .exact t.subset (List.mem_reverse.mp (l.mem_iff.mp hy))
 refine⟨S,w,oI c,oR w,e,_,s,?_,⟨?_,?_⟩,p,(dv.up o).trans T⟩
 .unfold Ma
  rw[ah,r1,aA,ah,r2,aA,ah,r3,aA,ah,r4,aA,ah];have P:GQ F (RV ns st x mo q (oI i) (oI c) (oR a.length) a8) M=.nx (RV ns st x mo q (oI i) (oI c) (oR w) e) b:=r5;rw[P,aA,ah,r6];rfl
 .rw[aQ u.ce];simp
 .exact(u.al.snoc g5).keep T (λj hj z=>p (by rw[←List.mem_singleton.mp z];exact hj))
def Ay(f:aV):Prop:=∀(c:aD) (g:List Int) (h x e:Nat) (b:List Str),c[x]?=some (.lst (b.map .str))->b.Nodup->b.length<=12 ->
 ∃k j d a,f [SC g,.int h,.ref x,.int e] c=.ok (.ref k) a/\Rw a k j d/\d.length=b.length/\(∀(i:Nat) (r:List Str),d[i]?=some r->pN b e i r)/\ai [] c a
theorem GR(q:gQ μ F)(s:hF κ C):Ay (bS 9 4 (Mb F C)):=by
 intro a ns st x mo m D t I;rw[bx (by rfl)]
 have J:aZ 9 [SC ns,.int st,.ref x,.int mo]=[some (SC ns),oI st,oR x,oI mo,none,none,none,none,none]:=rfl;rw[J];have L:(a++[Cell.lst []])[a.length]?=some (.lst (([]:List Nat).map .ref)):=aq;have E:ai [] a (a++[Cell.lst []]):=ai.app;have M:(av 4 (mN aT af)) [some (SC ns),oI st,oR x,oI mo,none,none,none,none,none] a=.nx (RV ns st x mo a.length none none none none) (a++[Cell.lst []]):=by simp[RV,aF]
 have V:=bp D;generalize a++[Cell.lst []]=c at *;have n:=E.get _ _ D (by simp)
 have o:=fO n;rw[List.length_map]at o
 have u:b_ (ab (mN (aP .len) (ab (aa 2) af)) af) (RV ns st x mo a.length none none none none) c=.ok (.ints 0 m.length) c:=by
  have:(mN (aP .len) (ab (aa 2) af)) (RV ns st x mo a.length none none none none) c=.ok (.int m.length) c:=o;rw[iF,aO,this,ak,aU,ak,ak,jR,if_pos (ec (by omega) (by omega)),Int.toNat_natCast]
 unfold Mb;rw[ah,M,aA,ah,cq,u,bt]
 refine bA (R:=λr=>∃k f b g,gp (sq r _)=.ok (.ref k) g/\Rw g k f b/\b.length=m.length/\(∀(i:Nat) (r:List Str),b[i]?=some r->pN m mo i r)/\ai [] a g) (ds:=intsFrom 0 m.length)
  (λi w e=>∃f b y a6 a7 a8,w=RV ns st x mo a.length y a6 a7 a8/\Rw e a.length f b/\b.length=i/\(∀(i:Nat) (r:List Str),b[i]?=some r->pN m mo i r)/\a.length∉f/\ai [a.length] c e) (λ_ _ _ _=>rfl) ?_ ?_ fuel 0 _ _ (by rw[cR];unfold fuel;omega) (Nat.zero_le _) ⟨[],[],none,none,none,none,rfl,⟨L,.nil⟩,rfl,λi r h=>by simp at h,by simp,ai.refl⟩
 .rintro i d w e N ⟨f,b,y,a6,a7,a8,rfl,R,hrs,l,G,K⟩
  obtain⟨rfl,X⟩:=dQ N;rw[Int.zero_add];refine⟨RV ns st x mo a.length (oI i) a6 a7 a8,rfl,?_⟩;obtain⟨r,j,Y,Z,b8,O,P,Q,S,z,T⟩:=DE (i:=i) (ns:=ns) (st:=st) (mo:=mo) (a6:=a6) (a7:=a7) (a8:=a8) q s (K.get _ _ n (by simp;omega)) t (by omega) (by omega) R G (by omega)
  rw[Q];refine⟨_,_,_,_,_,_,rfl,S,by simp[hrs],λp H h=>?_,z,K.trans T⟩
  by_cases A:p<b.length
  .rw[List.getElem?_append_left A]at h
   exact l p H h
  .rw[List.getElem?_append_right (by omega)]at h
   have U:p - b.length=0:=by
    have:=(List.getElem?_eq_some_iff.mp h).1;simp at this;omega
   rw[U]at h;have B:r=H:=by simpa using h
   subst B;obtain rfl:p=i:=by omega
   exact P
 .rintro w e ⟨f,b,y,a6,a7,a8,rfl,R,hrs,l,G,K⟩
  rw[cR]at hrs;exact⟨a.length,f,b,e,rfl,R,hrs,l,ai.new E K (by simp)⟩
end
section
variable{Ω ao:aD}{ρ:aR}{F C:List D->Out Rs}{κ:List Int->Nat->Int}{ns:List Int}{xs:List Str}{h e l x:Nat}{E:dW}{L:Str->List Str}{n:Str}{dD xI:List (Key×D)}
def Bl:SM:=(ag (bh (ae (.bl false))) aj)
def JK(C:List D->Out Rs)(a:aV):EM:=(mN (aS a) (ab (mN (bD C) (ab (aa 0) (ab (ae (.int 1)) af))) (ab (aa 1) af)))
structure Hand(Ω:aD)(x e l:Nat)(xs:List Str)(E:dW)(L:Str->List Str):Prop where
 nx:Ω[x]?=some (.lst (xs.map .str))
 pos:1<=xs.length
 vn:∀n∈xs,Ai n
 eq:nms E=xs
 xl:eN E L
 el:∃dD,bU Ω e dD/\aC Tr Ω dD E
 ln:∃xI,bU Ω l xI/\aC Tr Ω xI (bo xs L)
 ne:e≠l
theorem xm{k:aV}(s:Au k)(H:Hand Ω x e l xs E L):∃h ao,k [.ref e] Ω=.ok (.ref h) ao/\bP Tr ao h E L/\Hand ao x e l xs E L/\Ω.length<=ao.length:=by
 obtain⟨m,t,n,o,p,⟨a,d,q⟩,⟨f,u,w⟩,b⟩:=H;obtain⟨h,g,y,A,c,B,_⟩:=s Ω e a E L d q p (by rw[o];exact n)
 have r:∀j∈[e],∀i,Ω[j]?≠some (.lst i):=λj C i=>by rw[List.mem_singleton.mp C];exact d.nl i
 have D:x≠e:=λz=>d.nl _ (z▸m)
 exact⟨h,g,y,A,⟨c.get _ _ m (by simpa using D),t,n,o,p,⟨a,.inr B,q.cm c r⟩,⟨f,u.keep c (by simpa using Ne.symm b),w.cm c r⟩,b⟩,c.len⟩
end
structure fc(Ω ao:aD):Prop where
 len:Ω.length<=ao.length
 get:∀(k:Nat) (c:Cell),Ω[k]?=some c->ao[k]?=some c\/∃kvs,c=Cell.dK kvs/\ao[k]?=some (.dF kvs)
section
variable{Ω ao aG:aD}{ρ:aR}{e q j h k x l:Nat}{js:List Nat}{kvs dD:List (Key×D)}{E:dW}{P:Nat->Prop}{n:Str}{r row xs:List Str}{rs:List (List Str)}{L:Str->List Str}
theorem ai.kpf(K:ai [] Ω ao):fc Ω ao:=⟨K.len,λk c h=>.inl (K.get k c h (by simp))⟩
theorem fc.refl:fc Ω Ω:=⟨Nat.le_refl _,λ_ _ h=>.inl h⟩
theorem fc.trans(a:fc Ω aG)(b:fc aG ao):fc Ω ao:=⟨Nat.le_trans a.len b.len,λk c h=>by
 rcases a.get k c h with d|⟨e,rfl,d⟩
 .exact b.get k c d
 .rcases b.get k _ d with f|⟨_,z,_⟩
  .exact .inr ⟨e,rfl,f⟩
  .cases z⟩
theorem Az(h:bU Ω e dD):fc Ω (Ω.set e (.dF dD)):=⟨by simp,λk c a=>by
 by_cases z:k=e
 .subst z
  rcases h with h|h
  .rw[h]at a;cases a;exact .inr ⟨dD,rfl,aQ h⟩
  .rw[h]at a;cases a;exact .inl (aQ h)
 .exact .inl (dh a z)⟩
theorem fc.lst{ds:List D}(K:fc Ω ao)(h:Ω[k]?=some (.lst ds)):ao[k]?=some (.lst ds):=(K.get _ _ h).elim id λ⟨_,z,_⟩=>nomatch z
theorem fc.dct(K:fc Ω ao)(h:bU Ω e kvs):bU ao e kvs:=by
 rcases h with h|h
 .rcases K.get _ _ h with a|⟨b,z,a⟩
  .exact .inl a
  .cases z;exact .inr a
 .rcases K.get _ _ h with a|⟨b,z,a⟩
  .exact .inr a
  .cases z
theorem fc.rows(K:fc Ω ao)(h:aC P Ω kvs E):aC P ao kvs E:=aI.imp (λ_ _ ⟨a,j,b,c,d⟩=>⟨a,j,b,c,K.lst d⟩) h
theorem fc.hs(K:fc Ω ao)(H:bP P Ω h E L):bP P ao h E L:=by
 obtain⟨e,l,a,b,c,d,f,g,i⟩:=H;exact⟨e,l,a,b,(K.get _ _ c).elim id (λ⟨_,z,_⟩=>nomatch z),K.dct d,K.rows f,K.dct g,K.rows i⟩
theorem fc.rw(K:fc Ω ao)(R:Rw Ω k js rs):Rw ao k js rs:=⟨K.lst R.ce,aI.imp (λ_ _ d=>K.lst d) R.al⟩
def Mc:EM:=(aW (aa 0) false (m2 (ax .In) (aa 1) (m2 az (m1 (dn ["House"] "lines") (aa 2)) (aa 0))) (aK fe) 0 [1,0])
def Md(a:aV):SM:=
 (ag (bH (aN "House" "check_kind" a (aa 0) (ab (aa 1) af)))
 (ag (bh Mc)
 aj))
def AA(c:aV):Prop:=∀(b:aD) (h:Nat) (E:dW) (L:Str->List Str) (P:Nat->Prop) (n:Str),bP P b h E L->n∈nms E->E.length<=1000->∃k a,c [.ref h,.str n] b=.ok (.ref k) a/\a[k]?=some (.lst (((nms E).filter λm=>decide (n∈L m)).map .str))/\fc b a/\b.length<=k
theorem GS{f:aV}(x:pK f):AA (bS 2 2 (Md f)):=by
 intro Ω h E L P n H y R;rw[bx (by rfl)]
 have A:aZ 2 [D.ref h,.str n]=[oR h,oS n]:=rfl;rw[A];obtain⟨a,B,o⟩:=x Ω h E L P n H y
 have C:aN "House" "check_kind" f (aa 0) (ab (aa 1) af) [oR h,oS n] Ω=.ok .non a:=by
  rw[cN H rfl (by decide)]
  show jJ (f [.ref h,.str n] Ω)=_
  rw[B];rfl
 obtain⟨e,l,c,F,q,i,G,I,J⟩:=H.keep o
 have r:aK fe [oR h,oS n] a=.ok (.keys e) (a.set e (.dF c)):=by
  rw[bg]
  show((dn ["House"] "elders" (.ref h) a).bind _)=_
  rw[lb q,ak];exact k_ i
 have k:=Az i;have K:=mI i;have s:h≠e:=λz=>i.ni _ _ (z▸q)
 have M:(a.set e (.dF c))[h]?=some (.ins "House" [("elders",.ref e),("lines",.ref l)]):=dh q s;have d4:=k.dct I;have d5:=k.rows J;generalize a.set e (.dF c)=b at *
 have t:=cF (ρ:=[oR h,oS n]) (Ω:=a) (ao:=b) (me:=aa 0) (mc:=m2 (ax .In) (aa 1) (m2 az (m1 (dn ["House"] "lines") (aa 2)) (aa 0))) (nc:=false) (mi:=aK fe) (cap:=[1,0]) (src:=.keys e) (ds:=(nms E).map .str) (p:=λd=>match d with|.str m=>decide (n∈L m)|_=>false) (g:=λd=>d) r (by rw[hV K,G.keys]) (λd N=>by
  obtain⟨m,u,rfl⟩:=List.mem_map.mp N;obtain⟨j,O,_,w⟩:=d5.at (n:=m) (by rw[bV];exact u)
  rw[ed u]at w
  show cx (((dn ["House"] "lines" (.ref h) b).bind _).bind _)=_
  rw[w_ M,ak]
  show cx ((az (.ref l) (.str m) b).bind _)=_
  rw[dU d4 O,ak]
  show cx (ax .In (.str n) (.ref j) b)=_
  rw[iY w];rfl) (λd _ _=>rfl) (by simp[nms];omega)
 have Q:(((nms E).map D.str).filter (λd=>match d with|.str m=>decide (n∈L m)|_=>false)).map (λd:D=>d)=((nms E).filter λm=>decide (n∈L m)).map .str:=by
  rw[List.map_id',List.filter_map];rfl
 rw[Q]at t;refine⟨b.length,b++[.lst (((nms E).filter λm=>decide (n∈L m)).map .str)],?_,aq,(o.kpf.trans k).trans (ai.kpf ai.app),Nat.le_trans o.len k.len⟩
 unfold Md;rw[ah,bT,C,bt,aA,ah,dR]
 show gp (sq (bK (Mc [oR h,oS n] a) _) _)=_
 rw[show Mc [oR h,oS n] a=_ from t]
 rfl
end
section
variable{Ω ao:aD}{l r i:Nat}{line row:List Str}
end
section
variable{Ω ao:aD}{F:List D->Out Rs}{μ:Int->Int->Int->Int}{c:Int}{x:Nat}{xs:List Str}
end
theorem sY{rs:List (List Str)}{o:List Str}(M:Mg rs o):∀r∈rs,r.Sublist o:=by
 induction M with
 |done h=>intro r b;rw[h r b];exact List.nil_sublist _
 |@step rs n o _ _ _ c=>
  intro r b;have:=c (cI n r) (List.mem_map_of_mem b);unfold cI at this;split at this
  .rename_i d
   cases r with
   |nil=>exact List.nil_sublist _
   |cons a t=>
    have e:a=n:=by simpa using d
    subst e;exact this.cons₂ a
  .exact this.cons n
namespace eN
variable{E:dW}{L:Str->List Str}{n m:Str}
theorem AB(G:eN E L)(a:n∈nms E):(bj E n).Sublist (L n):=by
 obtain⟨o,M,b,_⟩:=G.mg a;rw[b];exact(sY M _ (by simp)).cons n
theorem pO(G:eN E L)(a:n∈nms E)(b:m∈bj E n):(L m).Sublist (L n):=by
 obtain⟨o,M,c,_⟩:=G.mg a;rw[c];exact(sY M _ (List.mem_append_left _ (List.mem_map_of_mem b))).cons n
theorem ahead(G:eN E L):∀(k i:Nat) (n:Str),i<k->(nms E)[i]?=some n->∀x∈L n,x∈(nms E).take (i+1):=by
 intro k
 induction k with
 |zero=>intro i n h;omega
 |succ k p=>
  intro i n A g x l;obtain⟨r,m⟩:=eE g;obtain⟨o,M,b⟩:=G.ln i _ m;have b:L n=n::o:=b;rw[b]at l;rcases List.mem_cons.mp l with z|z
  .rw[z];exact gu (by omega) g
  .obtain⟨q,s,c⟩:=hJ M x z
   have a:=(G.el i _ m).2.2;rcases List.mem_append.mp s with h|h
   .obtain⟨y,t,rfl⟩:=List.mem_map.mp h
    obtain⟨j,u,d⟩:=bG (a y t);obtain⟨B,w,e⟩:=bG (p j y (by omega) d x c)
    exact gu (by omega) e
   .rw[List.mem_singleton.mp h]at c
    obtain⟨j,u,f⟩:=bG (a x c);exact gu (by omega) f
theorem AD(G:eN E L)(q:n∈nms E):(L n).Nodup:=by
 obtain⟨i,c⟩:=List.mem_iff_getElem?.mp q;obtain⟨r,p⟩:=eE c;obtain⟨o,M,d⟩:=G.ln i _ p;have d:L n=n::o:=d;rw[d];refine List.nodup_cons.mpr ⟨λe=>?_,kX M⟩
 obtain⟨s,t,f⟩:=hJ M n e;have a:=(G.el i _ p).2.2;have u:=(List.getElem?_eq_some_iff.mp c).1
 have b:∀j,j<i->(nms E)[j]?=some n->False:=λj g h=>by
  have:=(List.getElem?_inj (by omega) G.nd).mp (h.trans c.symm)
  omega
 rcases List.mem_append.mp t with h|h
 .obtain⟨y,w,rfl⟩:=List.mem_map.mp h
  obtain⟨j,g,k⟩:=bG (a y w);obtain⟨x,z,l⟩:=bG (G.ahead (j+1) j y (by omega) k n f)
  exact b x (by omega) l
 .rw[List.mem_singleton.mp h]at f
  obtain⟨j,g,m⟩:=bG (a n f);exact b j g m
theorem deep(G:eN E L):∀(k i:Nat) (n:Str),i<k->(nms E)[i]?=some n->∀m∈L n,(L m).Sublist (L n):=by
 intro k
 induction k with
 |zero=>intro i n h;omega
 |succ k t=>
  intro i n x p m q;have b:n∈nms E:=List.mem_of_getElem? p;obtain⟨r,c⟩:=eE p;have a:bj E n=r:=lr G.nd c;obtain⟨o,M,d⟩:=G.ln i _ c;have d:L n=n::o:=d
  by_cases z:m=n
  .rw[z];exact List.Sublist.refl _
  .have e:m∈o:=by
    rw[d]at q;exact(List.mem_cons.mp q).elim (λy=>absurd y z) id
   obtain⟨u,w,f⟩:=hJ M m e;have g:=(G.el i _ c).2.2;rcases List.mem_append.mp w with h|h
   .obtain⟨y,s,rfl⟩:=List.mem_map.mp h
    obtain⟨j,A,l⟩:=bG (g y s);exact(t j y (by omega) l m f).trans (G.pO b (by rw[a];exact s))
   .rw[List.mem_singleton.mp h]at f
    exact G.pO b (by rw[a];exact f)
theorem pP(G:eN E L)(e:n∈nms E)(a:m∈L n):m∈nms E/\(L m).Sublist (L n)/\(bj E m).Sublist (L n):=by
 obtain⟨i,b⟩:=List.mem_iff_getElem?.mp e;have c:=G.mem (i+1) i n (by omega) b m a
 have d:=G.deep (i+1) i n (by omega) b m a
 exact⟨c,d,(G.AB c).trans d⟩
end eN
section
variable{Ω ao aG:aD}{ρ:aR}{e q h j t:Nat}{kvs:List (Key×D)}{E:dW}{P:Nat->Prop}{n:Str}{r ns:List Str}{f R:Str->List Str}{ts:List (Str×Nat)}{L L':Str->List Str}
theorem lA{i:Nat}{a:List Str}(d:a.Nodup)(c:a[i]?=some n):n∉a.take i:=λe=>by
 obtain⟨k,f,b⟩:=bG e;have g:=(List.getElem?_eq_some_iff.mp c).1;have:=(List.getElem?_inj (by omega) d).mp (b.trans c.symm)
 omega
noncomputable def El(p:Str×Nat):D:=.tup [.str p.1,.ref p.2]
theorem Bm{i:Nat}{d:D}(h:(ts.map El)[i]?=some d):∃p,ts[i]?=some p/\d=El p:=by
 rw[List.getElem?_map]at h;cases a:ts[i]? with
 |none=>rw[a]at h;cases h
 |some p=>rw[a]at h;cases h;exact⟨p,rfl,rfl⟩
theorem pQ(b:(nms E).Nodup):bo (nms E) (bj E)=E:=by
 apply List.ext_getElem?;intro i;unfold bo;rw[List.getElem?_map];cases a:E[i]? with
 |none=>simp[nms,a]
 |some p=>
  rw[eZ a,Option.map_some,lr b a]
theorem aC.upd(H:aC P Ω kvs (bo ns f))(c:n∈ns)(h:P j)(i:Ω[j]?=some (.lst (r.map .str))):aC P Ω (cZ kvs (.inr n) (.ref j)) (bo ns λm=>if m=n then r else f m):=by
 have d:(kvs.any λb=>decide (b.1=Sum.inr n))=true:=by
  rw[iH,H.is,bV,decide_eq_true c]
 unfold cZ;rw[if_pos d];clear d c;unfold aC bo at *
 induction ns generalizing kvs with
 |nil=>cases H;exact .nil
 |cons m ns k=>
  rw[List.map_cons]at H;cases H with
  |@cons b _ e _ l o=>
   rw[List.map_cons,List.map_cons];refine .cons ?_ (k o);obtain⟨a,g,p,s,t⟩:=l;have a:b.1=Sum.inr m:=a
   by_cases z:m=n
   .rw[if_pos (by rw[a,z])]
    refine⟨a,j,rfl,h,?_⟩
    show Ω[j]?=some (.lst ((if m=n then r else f m).map .str))
    rw[if_pos z];exact i
   .rw[if_neg (by rw[a];exact λq=>z (by cases q;rfl))]
    refine⟨a,g,p,s,?_⟩
    show Ω[g]?=some (.lst ((if m=n then r else f m).map .str))
    rw[if_neg z];exact t
def Me(a CE:aV)(st:SM):SM:=
 (ag (bH (aN "House" "check_kind" a (aa 0) (ab (aa 3) af)))
 (ag (cU (m2 (ax .In) (aa 3) (aa 2)) (ag st aj) aj)
 (ag (bH (aN "House" "check_elders" CE (aa 0) (ab (aa 4) af)))
 (ag (bH (dg hY bq (aa 2) (ab (aa 3) af)))
 aj))))
def Mf(a CE:aV)(st:SM):SM:=
 (ag (av 2 (mN aT af))
 (ag (cj (dm [3,4]) (aK (aa 1)) (Me a CE st))
 aj))
structure Em(Ω:aD)(t:Nat)(ts:List (Str×Nat))(E:dW)(R:Str->List Str):Prop where
 ce:Ω[t]?=some (.lst (ts.map El))
 nd:(ts.map (·.1)).Nodup
 len:ts.length<=100
 row:∀p∈ts,Ω[p.2]?=some (.lst ((R p.1).map .str))/\p.1∈nms E/\(R p.1).Nodup/\(R p.1).length<=5/\∀x∈R p.1,x∈nms E
theorem Em.keep{fp:List Nat}(T:Em Ω t ts E R)(K:ai fp Ω ao)(b:∀q∈fp,∀ds,Ω[q]?≠some (.lst ds)):Em ao t ts E R:=
 ⟨K.get _ _ T.ce λz=>b _ z _ T.ce,T.nd,T.len,λp a=>⟨K.get _ _ (T.row p a).1 λz=>b _ z _ (T.row p a).1,(T.row p a).2⟩⟩
def DF(c:aV):Prop:=∀(b:aD) (h t:Nat) (d:List (Str×Nat)) (E:dW) (L R:Str->List Str) (P:Nat->Prop),bP P b h E L->Em b t d E R->∃a,c [.ref h,.ref t] b=.ok .non a/\ai [] b a
theorem GU{o CE:aV}(Y:pK o)(Z:Aj CE){st:SM}:DF (bS 5 2 (Mf o CE st)):=by
 intro b h t q E L R P H T;rw[bx (by rfl)]
 have e0:aZ 5 [D.ref h,.ref t]=[oR h,oR t,none,none,none]:=rfl;rw[e0];have y:ai [] b (b++[Cell.lst []]):=ai.app;have N:(b++[Cell.lst []])[b.length]?=some (.lst (([]:List Str).map .str)):=aq;have r1:av 2 (mN aT af) [oR h,oR t,none,none,none] b=.nx [oR h,oR t,oR b.length,none,none] (b++[Cell.lst []]):=by simp[aF]
 have A:=T.keep y (by simp)
 have H1:bP (λj=>P j/\j<b.length) (b++[Cell.lst []]) h E L:=H.lt.keep y
 have lt:=bp T.ce;have lp:∀p∈q,p.2<b.length:=λp m=>bp (T.row p m).1
 generalize b++[Cell.lst []]=l at *
 have B:aK (aa 1) [oR h,oR t,oR b.length,none,none] l=.ok (.seq (.ref t)) l:=by
  rw[bg];exact aX (by rw[aE,aB A.ce])
 unfold Mf;rw[ah,r1,aA,ah,cq,B,bt];have O:=T.len;refine bA (R:=λr=>∃ao,gp (sq r _)=.ok .non ao/\ai [] b ao) (ds:=q.map El) (λi s c=>∃C F,s=[oR h,oR t,oR b.length,C,F]/\ai [b.length] l c/\c[b.length]?=some (.lst (((q.take i).map (·.1)).map .str))) ?_ ?_ ?_ fuel 0 _ _ (by unfold fuel;simp;omega) (Nat.zero_le _) ⟨none,none,rfl,ai.refl,N⟩
 .rintro i s c ⟨_,_,_,K,_⟩
  rw[cp,aE,aB (K.get _ _ A.ce (by simp;omega))]
 .rintro i d s c hd ⟨C,F,rfl,K,g⟩
  obtain⟨⟨n,a⟩,m,rfl⟩:=Bm hd;have a0:=(List.getElem?_eq_some_iff.mp m).1;have Q:=List.mem_of_getElem? m;refine⟨[oR h,oR t,oR b.length,oS n,oR a],rfl,?_⟩;obtain⟨w1,w2,w3,w4,w5⟩:=A.row _ Q;have la:=lp _ Q;have G:bP (λj=>P j/\j<b.length) c h E L:=H1.w8 K N (λz=>by omega)
  obtain⟨f,e3,u⟩:=Y c h E L _ n G w2
  have m3:aN "House" "check_kind" o (aa 0) (ab (aa 3) af) [oR h,oR t,oR b.length,oS n,oR a] c=.ok .non f:=by
   rw[cN G rfl (by decide)]
   show jJ (o [.ref h,.str n] c)=_
   rw[e3];rfl
  have S:=u.get _ _ g (by simp)
  have I:n∉(q.take i).map (·.1):=by
   have:=lA T.nd (i:=i) (n:=n) (by simp[m])
   rwa[←List.map_take]at this
  have U:=iY (w:=n) S;rw[decide_eq_false I]at U;have V:=G.keep u;obtain⟨k,e4,X⟩:=Z f h a E L _ (R n) V ((ai.trans K (dv.up u)).get _ _ w1 (by simp;omega)) w3 w4 w5
  have m4:aN "House" "check_elders" CE (aa 0) (ab (aa 4) af) [oR h,oR t,oR b.length,oS n,oR a] f=.ok .non k:=by
   rw[cN V rfl (by decide)]
   show jJ (CE [.ref h,.ref a] f)=_
   rw[e4];rfl
  have J:=X.get _ _ S (by simp)
  have M:=d_ (d:=.str n) J (by simp;omega)
  have e:Me o CE st [oR h,oR t,oR b.length,oS n,oR a] c=.nx [oR h,oR t,oR b.length,oS n,oR a] (k.set b.length (.lst (((q.take i).map (·.1)).map .str++[.str n]))):=by
   unfold Me;rw[ah,bT,m3,bt,aA,ah,bY]
   show sq (bK (cx (ax .In (.str n) (.ref b.length) f)) _) _=_
   rw[U]
   show sq (bH _ _ f) _=_
   rw[bT,m4,bt,aA,ah,bT,fb (x:=.ref b.length) (ao:=k) rfl (eD J)]
   show sq (bK (bq (.ref b.length) [.str n] k) _) _=_
   rw[M];rfl
  rw[e];refine⟨_,_,rfl,((K.trans (dv.up u)).trans (dv.up X)).trans (ai.set (by simp)),?_⟩
  rw[aQ J,List.take_succ,m];simp
 .rintro s c ⟨C,F,rfl,K,_⟩
  exact⟨c,rfl,ai.new y K (by simp)⟩
def Mh:SM:=(ag (cz (aa 2) (aa 3) (mN (aP .list) (ab (aa 4) af))) aj)
def Mi(a b:aV):SM:=
 (ag (bH (aN "House" "may_turn" a (aa 0) (ab (aa 1) af)))
 (ag (av 2 (mN eW (ab fe af)))
 (ag (cj (dm [3,4]) (aK (aa 1)) Mh)
 (ag (bH (aN "House" "settle" b (aa 0) (ab (aa 2) af)))
 aj))))
def xn(TA:aV):Prop:=∀(b:aD) (h t:Nat) (d:List (Str×Nat)) (E:dW) (L c R:Str->List Str) (P:Nat->Prop),bP P b h E L->Em b t d E R->(nms E).Nodup->E.length<=100->(∀n∈nms E,n∉d.map (·.1)->R n=bj E n)->Gd (bo (nms E) R)->Gp (bo (nms E) R) c->(∀n∈nms E,(c n).length<=900)->(∀j,b.length<=j->P j) ->
 ∃a,TA [.ref h,.ref t] b=.ok .non a/\bP P a h (bo (nms E) R) c/\ai [h] b a
theorem GV{Y Z:aV}(hM:DF Y)(hS:sW Z):xn (bS 5 2 (Mi Y Z)):=by
 intro I h t C E L L' R P H T a0 j0 hR G hL b0 hP;rw[bx (by rfl)]
 have e0:aZ 5 [D.ref h,.ref t]=[oR h,oR t,none,none,none]:=rfl;rw[e0];obtain⟨o,e1,F⟩:=hM I h t C E L R P H T
 have m1:aN "House" "may_turn" Y (aa 0) (ab (aa 1) af) [oR h,oR t,none,none,none] I=.ok .non o:=by
  rw[cN H rfl (by decide)]
  show jJ (Y [.ref h,.ref t] I)=_
  rw[e1];rfl
 obtain⟨e,l,s,k0,h1,h2,h3,h4,h5⟩:=H.keep F;have c0:=wU h2
 have f0:(mN eW (ab fe af)) [oR h,oR t,none,none,none] o=.ok (.ref o.length) (o++[.dK s]):=by
  show(((dn ["House"] "elders" (.ref h) o).bind _).bind _)=_
  rw[lb h1,ak];exact c0
 have N:ai [] o (o++[Cell.dK s]):=ai.app;have g2:(o++[Cell.dK s])[o.length]?=some (.dK s):=aq;have R2:aC P (o++[Cell.dK s]) s (bo (nms E) (bj E)):=by rw[pQ a0];exact h3.keep N (by simp)
 have T2:=(T.keep F (by simp)).keep N (by simp)
 have O:=N.get _ _ h1 (by simp)
 have l1:=F.len;have lh:=bp h1;have lt:=bp (T.keep F (by simp)).ce
 have lp:∀p∈C,p.2<o.length:=λp hp=>bp ((T.keep F (by simp)).row p hp).1
 have l2:(o++[Cell.dK s]).length=o.length+1:=by simp
 generalize hq:o.length=q at *;generalize o++[Cell.dK s]=w at *;have i0:=T.len
 have g0:∀{I:aD}{u:List (Key×D)}{f:Str->List Str},aC P I u (bo (nms E) f)->u.length<=1000:=λ{I u f} H=>by
  have:=H.len;simp[bo,nms]at this;omega
 have r3:∃A B u b,cj (dm [3,4]) (aK (aa 1)) Mh [oR h,oR t,oR q,none,none] w=.nx [oR h,oR t,oR q,A,B] b/\ai [q] w b/\b[q]?=some (.dK u)/\aC P b u (bo (nms E) R):=by
  have h0:aK (aa 1) [oR h,oR t,oR q,none,none] w=.ok (.seq (.ref t)) w:=by
   rw[bg];exact aX (by rw[aE,aB T2.ce])
  rw[cq,h0,bt];refine bA (R:=λr=>∃A B u b,r=.nx [oR h,oR t,oR q,A,B] b/\ai [q] w b/\b[q]?=some (.dK u)/\aC P b u (bo (nms E) R)) (ds:=C.map El) (λi ρ b=>∃A B u,ρ=[oR h,oR t,oR q,A,B]/\ai [q] w b/\b[q]?=some (.dK u)/\aC P b u (bo (nms E) λn=>if n∈(C.take i).map (·.1)then R n else bj E n)) ?_ ?_ ?_ fuel 0 _ _ (by unfold fuel;simp;omega) (Nat.zero_le _) ⟨none,none,s,rfl,ai.refl,g2,by simpa using R2⟩
  .rintro i ρ b ⟨_,_,_,_,K,_⟩
   rw[cp,aE,aB (K.get _ _ T2.ce (by simp;omega))]
  .rintro i d ρ b hd ⟨A,B,u,rfl,K,g,J⟩
   obtain⟨⟨n,a⟩,hp,rfl⟩:=Bm hd;have M:=List.mem_of_getElem? hp;refine⟨[oR h,oR t,oR q,oS n,oR a],rfl,?_⟩;obtain⟨w1,w2,_⟩:=T2.row _ M;have la:=lp _ M;have w3:=K.get _ _ w1 (by simp;omega)
   have ev:(mN (aP .list) (ab (aa 4) af)) [oR h,oR t,oR q,oS n,oR a] b=.ok (.ref b.length) (b++[.lst ((R n).map .str)]):=cX w3;have x:ai [] b (b++[Cell.lst ((R n).map .str)]):=ai.app;have g3:(b++[Cell.lst ((R n).map .str)])[b.length]?=some (.lst ((R n).map .str)):=aq;have kl:=K.len;generalize hz:b.length=z at *;generalize b++[Cell.lst ((R n).map .str)]=y at *;have gq:=x.get _ _ g (by simp)
   have r1:=lu (ρ:=[oR h,oR t,oR q,oS n,oR a]) (md:=aa 2) (mk:=aa 3) (n:=n) ev rfl rfl gq (g0 J);have R4:=(J.keep x (by simp)).upd (n:=n) w2 (hP z (by omega)) g3
   have Q:ai [q] y (y.set q (.dK (cZ u (.inr n) (.ref z)))):=ai.set (by simp)
   have R5:=R4.cm Q (λj hj ds=>by rw[List.mem_singleton.mp hj,gq];simp)
   unfold Mh;rw[ah,r1];refine⟨_,_,_,rfl,(K.trans (dv.up x)).trans Q,aQ gq,?_⟩
   have hf:(λm=>if m=n then R n else if m∈(C.take i).map (·.1)then R m else bj E m)=λm=>if m∈(C.take (i+1)).map (·.1)then R m else bj E m:=by
    funext m
    rw[List.take_succ,hp]
    by_cases S:m=n
    .subst S;simp
    .simp[S]
   rw[hf]at R5;exact R5
  .rintro ρ b ⟨A,B,u,rfl,K,g,J⟩
   rw[List.length_map,List.take_length]at J
   have hf:bo (nms E) (λn=>if n∈C.map (·.1)then R n else bj E n)=bo (nms E) R:=by
    unfold bo;refine List.map_congr_left λn hn=>?_
    show(n,if n∈C.map (·.1)then R n else bj E n)=(n,R n)
    by_cases M:n∈C.map (·.1)
    .rw[if_pos M]
    .rw[if_neg M,hR n hn M]
   rw[hf]at J;exact⟨A,B,u,b,rfl,K,g,J⟩
 obtain⟨A,B,u,b,r3,x,g3,R3⟩:=r3;have U:=x.get _ _ O (by simp;omega)
 have l3:=x.len
 have H3:bP P b h E L:=by
  have:=((H.keep F).keep N);obtain⟨e',l',V,X,q1,q2,q3,q4,q5⟩:=this;rw[O]at q1;simp only[Option.some.injEq,Cell.ins.injEq,List.cons.injEq,Prod.mk.injEq,D.ref.injEq,true_and,and_true]at q1;obtain⟨rfl,rfl⟩:=q1;have nl:∀j∈[q],∀ds,w[j]?≠some (.lst ds):=λj hj ds=>by rw[List.mem_singleton.mp hj,g2];simp
  have le:=h2.lt;have ll:=h4.lt;exact⟨e,l,V,X,U,q2.keep x (by simp;omega),q3.cm x nl,q4.keep x (by simp;omega),q5.cm x nl⟩
 obtain⟨y,e4,H4,Q⟩:=hS b h q e l u (bo (nms E) R) P L' U (.inl g3) R3 G hL (by rw[bV];exact b0) (λj hj=>hP j (by omega))
 have m4:aN "House" "settle" Z (aa 0) (ab (aa 2) af) [oR h,oR t,oR q,A,B] b=.ok .non y:=by
  rw[cN H3 rfl (by decide)]
  show jJ (Z [.ref h,.ref q] b)=_
  rw[e4];rfl
 refine⟨y,?_,H4,⟨by have:=Q.len;omega,λk c hk hn=>Q.get k c (x.get k c (N.get k c (F.get k c hk (by simp)) (by simp)) (by have:=bp hk;simp;omega)) (by have:=bp hk;simp at hn ⊢;omega)⟩⟩
 unfold Mi;rw[ah,bT,m1,bt,aA,ah,br,f0,bt,aA]
 show gp (ag _ _ [oR h,oR t,oR q,none,none] w)=_
 rw[ah,r3,aA,ah,bT,m4];rfl
end
def Wv(b:List Str)(Ω:aD)(d:D):Prop:=d=.non\/∃j a,d=.ref j/\Ω[j]?=some (.lst (List.map D.str a))/\a.length<=13/\∀x∈a,x∈b
def i_(a:List Str)(Ω:aD)(b:List (Key×D))(ns:List Str):Prop:=aI (λp n=>p.1=.inr n/\Wv a Ω p.2) b ns
structure GW(E:dW):Prop where
 nd:(nms E).Nodup
 el:∀(i:Nat) (p:Str×List Str),E[i]?=some p->p.2.Nodup/\p.2.length<=5/\∀x∈p.2,x∈(nms E).take i
 len:E.length<=12
def AE(Ω:aD)(a:List (Key×D))(E:dW):Prop:=(∀p∈a,p.2≠.non)->∃L,eN E L/\aC Tr Ω a (bo (nms E) L)
section
variable{Ω ao aG:aD}{ρ:aR}{e q j k i jr:Nat}{kv dD kvs:List (Key×D)}{E:dW}{n x:Str}{r ns NS:List Str}{fp:List Nat}{d:D}{L:Str->List Str}
theorem Wv.keep(h:Wv NS Ω d)(K:ai fp Ω ao)(e:∀q∈fp,∀ds,Ω[q]?≠some (.lst ds)):Wv NS ao d:=h.imp id λ⟨j,row,a,b,c⟩=>⟨j,row,a,K.get _ _ b λz=>e _ z _ b,c⟩
theorem i_.keep(h:i_ NS Ω kv ns)(K:ai fp Ω ao)(a:∀q∈fp,∀ds,Ω[q]?≠some (.lst ds)):i_ NS ao kv ns:=aI.imp (λ_ _ q=>⟨q.1,q.2.keep K a⟩) h
theorem i_.look(h:i_ NS Ω kv ns):(n∈ns->∃d,cf kv (.inr n)=some d/\Wv NS Ω d)/\(n∉ns->cf kv (.inr n)=none):=by
 unfold i_ at h
 induction h with
 |nil=>exact⟨λh=>by simp at h,λ_=>rfl⟩
 |@cons p m kv ns a _ b=>
  rw[dk,a.1]
  by_cases z:m=n
  .subst z
   rw[if_pos rfl];exact⟨λ_=>⟨_,rfl,a.2⟩,λh=>absurd (by simp) h⟩
  .rw[if_neg (λq=>z (by cases q;rfl))]
   exact⟨λh=>b.1 ((List.mem_cons.mp h).elim (λy=>absurd y.symm z) id),λh=>b.2 λy=>h (by simp[y])⟩
theorem i_.len(h:i_ NS Ω kv ns):kv.length=ns.length:=(aI.length h).symm
theorem i_.QO(h:i_ NS Ω kv ns):kv.map (·.1)=ns.map Sum.inr:=by
 unfold i_ at h
 induction h with
 |nil=>rfl
 |cons a _ b=>rw[List.map_cons,List.map_cons,a.1,b]
theorem xo{md mk mv:EM}(a:mv ρ Ω=.ok d aG)(b:md ρ aG=.ok (.ref e) aG)(c:mk ρ aG=.ok (.str n) aG)(f:aG[e]?=some (.dK kvs))(g:kvs.length<=1000):cz md mk mv ρ Ω=.nx ρ (aG.set e (.dK (cZ kvs (.inr n) d))):=by
 unfold cz;rw[a,bt,b,bt,c,bt,nW f g]
theorem xp{d':D}(h:Sum.inr n∉kv.map (·.1)):cZ (kv++[((.inr n:Key),d)]) (.inr n) d'=kv++[(.inr n,d')]:=by
 unfold cZ;rw[if_pos (by simp),List.map_append]
 congr 1
 .refine(List.map_congr_left λp a=>?_).trans (List.map_id _)
  rw[if_neg λz=>h (List.mem_map.mpr ⟨p,a,z⟩)]
  rfl
 .simp
def oa(a:List (Key×D))(x:Str):Nat:=match cf a (.inr x)with
 |some (.ref j)=>j
 |_=>0
def uA(a:List (Key×D))(x:Str):Bool:=match cf a (.inr x)with
 |some (.ref _)=>true
 |_=>false
def AF(Ω:aD)(a:List (Key×D))(x:Str):List Str:=match Ω[oa a x]? with
 |some (.lst b)=>(f9 b).getD []
 |_=>[]
theorem strs_map:∀xs:List Str,f9 (xs.map .str)=some xs
 |[]=>rfl
 |x::xs=>by simp[f9,strs_map xs]
theorem xq(h:cf kv (.inr x)=oR j):oa kv x=j:=by unfold oa;rw[h]
theorem xr{a:List Str}(h:cf kv (.inr x)=oR j)(b:Ω[j]?=some (.lst (a.map .str))):AF Ω kv x=a:=by
 unfold AF;rw[xq h,b];simp[strs_map]
theorem jV(h:i_ NS Ω kv ns)(e:x∈ns)(b:uA kv x=true):cf kv (.inr x)=oR (oa kv x)/\Ω[oa kv x]?=some (.lst ((AF Ω kv x).map .str))/\(AF Ω kv x).length<=13/\∀y∈AF Ω kv x,y∈NS:=by
 obtain⟨d,a,f⟩:=h.look.1 e;rcases f with rfl|⟨j,g,rfl,c,i,k⟩
 .unfold uA at b
  rw[a]at b;cases b
 .rw[xq a,xr a c]
  exact⟨a,c,i,k⟩
def ldC:EM:=(eK (m2 (ax .NotIn) (aa 3) (aa 1)) (mN (aP .all) (ab (aW (m2 (ax .In) (aa 0) (aa 1)) true (ae .non) (aK (aa 4)) 0 [1]) af)))
def Mj:EM:=(mN (aP .all) (ab (aW (m2 (ax .IsNot) (m2 az (aa 1) (aa 0)) (ae .non)) true (ae .non) (aK (aa 4)) 0 [1]) af))
def Ml:EM:=(aW (m2 az (aa 1) (aa 0)) true (ae .non) (aK (aa 4)) 0 [1])
def JL(LM:aV):EM:=(mN (aS LM) (ab (m2 (aM .Add) Ml (mN aT (ab (aa 4) af))) af))
def GX:EM:=(m2 (aM .Add) (mN aT (ab (aa 3) af)) (aa 5))
def ldI(LM:aV):SM:=(ag (av 5 (JL LM)) (ag (cU (m2 (ax .IsNot) (aa 5) (ae .non)) (ag (cz (aa 1) (aa 3) GX) aj) aj) aj))
def Bn(LM:aV):SM:=(ag (cU ldC (ag (cz (aa 1) (aa 3) (ae .non)) (ag (cU Mj (ldI LM) aj) aj)) aj) aj)
theorem DG{a2 a5:Option D}(B:Ω[q]?=some (.dK kv))(m:Ω[jr]?=some (.lst (r.map .str)))(W:i_ NS Ω kv ns)(w:∀x∈r,x∈ns)(C:r.all (uA kv)=true)(O:r.length<=5) :
  ∃k ao,(m2 (aM .Add) Ml (mN aT (ab (aa 4) af))) [oR e,oR q,a2,oS n,oR jr,a5] Ω=.ok (.ref k) ao/\ai [] Ω ao/\Rw ao k (r.map (oa kv)++[jr]) (r.map (AF Ω kv)++[r]):=by
 have i:∀x∈r,uA kv x=true:=List.all_eq_true.mp C
 have o:aK (aa 4) [oR e,oR q,a2,oS n,oR jr,a5] Ω=.ok (.seq (.ref jr)) Ω:=by
  rw[bg];exact aX (by rw[aE,aB m])
 have j:=cF (ρ:=[oR e,oR q,a2,oS n,oR jr,a5]) (Ω:=Ω) (ao:=Ω) (me:=m2 az (aa 1) (aa 0)) (mc:=ae .non) (nc:=true) (mi:=aK (aa 4)) (cap:=[1]) (src:=.seq (.ref jr)) (ds:=r.map .str) (p:=λ_=>true) (g:=λd=>match d with|.str x=>.ref (oa kv x)|d=>d) o (by rw[cp,aE,aB m]) (λd _=>rfl) (λd E _=>by
  obtain⟨x,z,rfl⟩:=List.mem_map.mp E;exact dU (.inl B) (jV W (w x z) (i x z)).1) (by simp;omega)
 have F:((r.map D.str).filter λ_=>true).map (λd=>match d with|.str x=>D.ref (oa kv x)|d=>d)=(r.map (oa kv)).map .ref:=by
  rw[List.filter_eq_self.mpr (λ_ _=>rfl),List.map_map,List.map_map]
  rfl
 rw[F]at j;have j:Ml [oR e,oR q,a2,oS n,oR jr,a5] Ω=.ok (.ref Ω.length) (Ω++[.lst ((r.map (oa kv)).map .ref)]):=j;have G:ai [] Ω (Ω++[Cell.lst ((r.map (oa kv)).map .ref)]):=ai.app;have H:(Ω++[Cell.lst ((r.map (oa kv)).map .ref)])[Ω.length]?=some (.lst ((r.map (oa kv)).map .ref)):=aq;generalize Ω++[Cell.lst ((r.map (oa kv)).map .ref)]=a at *
 have I:(mN aT (ab (aa 4) af)) [oR e,oR q,a2,oS n,oR jr,a5] a=.ok (.ref a.length) (a++[.lst [.ref jr]]):=by
  show aT [.ref jr] a=_
  rw[cT,if_pos (aF (by simp))]
 have A:ai [] a (a++[Cell.lst [.ref jr]]):=ai.app;have J:(a++[Cell.lst [.ref jr]])[a.length]?=some (.lst [.ref jr]):=aq;generalize a++[Cell.lst [.ref jr]]=b at *;have K:=eY (A.get _ _ H (by simp)) J (by simp;omega)
 have L:ai [] b (b++[Cell.lst ((r.map (oa kv)).map .ref++[.ref jr])]):=ai.app;have s:=(G.trans A).trans L;refine⟨b.length,_,?_,s,⟨?_,?_⟩⟩
 .rw[cV,j,ak,I,ak,K]
 .have:=aq (Ω:=b) (c:=.lst ((r.map (oa kv)).map .ref++[.ref jr])) (l:=[])
  simpa using this
 .generalize b++[Cell.lst ((r.map (oa kv)).map .ref++[.ref jr])]=t at *
  have u:∀f:List Str,(∀x∈f,x∈r)->gR t (f.map (oa kv)) (f.map (AF Ω kv)):=by
   intro f
   induction f with
   |nil=>intro _;exact .nil
   |cons x f M=>intro h;exact .cons (s.get _ _ (jV W (w x (h x (by simp))) (i x (h x (by simp)))).2.1 (by simp)) (M λy N=>h y (by simp[N]))
  exact(u r λ_ h=>h).snoc (s.get _ _ m (by simp))
theorem DH{f:Str->List Str}(c:∀x∈r,(f x).length<=13)(g:r.length<=5):tl (r.map f++[r])<=70:=by
 have b:∀a:List Str,(∀x∈a,(f x).length<=13)->((a.map f).map List.length).sum<=13*a.length:=by
  intro a
  induction a with
  |nil=>intro _;simp
  |cons x a d=>
   intro h;have i:=h x (by simp)
   have j:=d λy e=>h y (by simp[e])
   simp only[List.map_cons,List.sum_cons,List.length_cons];omega
 have:=b r c;unfold tl;rw[List.map_append,List.sum_append];simp;simp at this;omega
theorem uB{xs:List Str}(h:x∈xs.take i):x∈xs:=List.mem_of_mem_take h
theorem i_.snoc(h:i_ NS Ω kv ns)(a:Wv NS Ω d):i_ NS Ω (kv++[(.inr n,d)]) (ns++[n]):=aI.append (R:=λ(p:Key×D) (n:Str)=>p.1=.inr n/\Wv NS Ω p.2) h (.cons ⟨rfl,a⟩ .nil)
theorem take_snoc{xs:List Str}(h:xs[i]?=some n):xs.take (i+1)=xs.take i++[n]:=by rw[List.take_succ,h];rfl
theorem DI{LM:aV}(hM:rg LM){a2 a5:Option D}(U:Ω[q]?=some (.dK kv))(hr:Ω[jr]?=some (.lst (r.map .str)))(F:GW E)(hi:E[i]?=some (n,r))(W:i_ (nms E) Ω kv ((nms E).take i))(S:AE Ω kv (E.take i)) :
  ∃i0 c ao,Bn LM [oR e,oR q,a2,oS n,oR jr,a5] Ω=.nx [oR e,oR q,a2,oS n,oR jr,i0] ao/\ao[q]?=some (.dK c)/\i_ (nms E) ao c ((nms E).take (i+1))/\AE ao c (E.take (i+1))/\ai [q] Ω ao:=by
 have z0:=(List.getElem?_eq_some_iff.mp hi).1;have A:=eZ hi;have B:n∉(nms E).take i:=lA F.nd A;obtain⟨f1,V,C⟩:=F.el i _ hi;have V:r.length<=5:=V;have C:∀x∈r,x∈(nms E).take i:=C;have y0:=F.len;have kl:kv.length<=12:=by have:=W.len;rw[List.length_take]at this;omega
 have l:Sum.inr n∉kv.map (·.1):=by
  rw[W.QO];intro h;obtain⟨m,hm,z⟩:=List.mem_map.mp h;cases z;exact B hm
 have N:=wQ (n:=n) (.inl U);rw[W.look.2 B]at N
 have Y:∀(g:aD),g[jr]?=some (.lst (r.map .str))->aK (aa 4) [oR e,oR q,a2,oS n,oR jr,a5] g=.ok (.seq (.ref jr)) g:=λg h=>by
  rw[bg];exact aX (by rw[aE,aB h])
 obtain⟨aG,e1,K1⟩:=nU (ρ:=[oR e,oR q,a2,oS n,oR jr,a5]) (me:=m2 (ax .In) (aa 0) (aa 1)) (cap:=[1]) (p:=λx=>true) hr (Y Ω hr) (λx f=>by
  show ax .In (.str x) (.ref q) Ω=_
  obtain⟨d,Z,_⟩:=W.look.1 (C x f);rw[Af (.inl U),Z];rfl) (by omega)
 have e1:ldC [oR e,oR q,a2,oS n,oR jr,a5] Ω=.ok (.bl true) aG:=by
  have z:(r.all λ_=>true)=true:=by simp
  rw[z]at e1;unfold ldC;rw[gE]
  show(ax .NotIn (.str n) (.ref q) Ω).bind _=_
  rw[N,ak];exact e1
 have q1:=K1.get _ _ U (by simp)
 have r1:=K1.get _ _ hr (by simp)
 have p1:=xo (ρ:=[oR e,oR q,a2,oS n,oR jr,a5]) (md:=aa 1) (mk:=aa 3) (mv:=ae .non) (n:=n) (Ω:=aG) (aG:=aG) rfl rfl rfl q1 (by omega)
 rw[nV l]at p1;have K2:ai [q] aG (aG.set q (.dK (kv++[(.inr n,.non)]))):=ai.set (by simp)
 have q2:=aQ (e:=.dK (kv++[((.inr n:Key),D.non)])) q1;have a0:∀j∈[q],∀O,aG[j]?≠some (.lst O):=λj hj O=>by rw[List.mem_singleton.mp hj,q1];simp
 have W2:=(W.keep K1 (by simp)).keep K2 a0
 have r2:=K2.get _ _ r1 (λz=>a0 _ z _ r1)
 have Kq:ai [q] Ω (aG.set q (.dK (kv++[(.inr n,.non)]))):=(dv.up K1).trans K2;generalize aG.set q (.dK (kv++[(.inr n,.non)]))=g at *;have b0:=W2.snoc (n:=n) (d:=.non) (.inl rfl)
 have s:∀x∈r,cf (kv++[((.inr n:Key),D.non)]) (.inr x)=cf kv (.inr x):=λx f=>by
  have j0:x≠n:=λz=>B (z▸C x f)
  rw[←nV l,mF,if_neg (λz=>j0 (by cases z;rfl))]
 have rest:∀{a:aD},ai [] g a->∃c,a[q]?=some (.dK c)/\i_ (nms E) a c ((nms E).take (i+1))/\AE a c (E.take (i+1))/\ai [q] Ω a:=λ{a} K=>by
  refine⟨_,K.get _ _ q2 (by simp),?_,λh=>absurd rfl (h (.inr n,.non) (by simp)),Kq.trans (dv.up K)⟩
  rw[take_snoc A];exact b0.keep K (by simp)
 obtain⟨a,e3,H⟩:=nU (ρ:=[oR e,oR q,a2,oS n,oR jr,a5]) (me:=m2 (ax .IsNot) (m2 az (aa 1) (aa 0)) (ae .non)) (cap:=[1]) (p:=uA kv) r2 (Y g r2) (λx f=>by
  obtain⟨d,Z,hw⟩:=W2.look.1 (C x f);have k0:=dU (n:=x) (.inl q2) ((s x f).trans Z)
  show((az (.ref q) (.str x) g).bind _)=_
  rw[k0,ak,gD,ak];rcases hw with rfl|⟨j,l0,rfl,_⟩
  .have:uA kv x=false:=by unfold uA;rw[Z]
   rw[this];simp[dH]
  .have:uA kv x=true:=by unfold uA;rw[Z]
   rw[this];rfl) (by omega)
 have e3:Mj [oR e,oR q,a2,oS n,oR jr,a5] g=.ok (.bl (r.all (uA kv))) a:=e3
 have start:∀{X:fu},sq (bK (cx (Mj [oR e,oR q,a2,oS n,oR jr,a5] g)) λt ao=>if t=true then ldI LM [oR e,oR q,a2,oS n,oR jr,a5] ao else aj [oR e,oR q,a2,oS n,oR jr,a5] ao) aj=X->Bn LM [oR e,oR q,a2,oS n,oR jr,a5] Ω=sq X aj:=λ{X} h=>by
  unfold Bn;rw[ah,bY,e1,cS,cJ,c_,bt,if_pos rfl,ah,p1,aA,ah,bY,h]
 cases hb:r.all (uA kv)with
 |false=>
  obtain⟨c,z⟩:=rest H;refine⟨a5,c,a,?_,z⟩;rw[start rfl,e3,hb];rfl
 |true=>
  have u:r.all (uA (kv++[((.inr n:Key),D.non)]))=true:=by
   rw[List.all_eq_true]at hb ⊢;intro x f;have:=hb x f;unfold uA at this ⊢;rw[s x f];exact this
  have q3:=H.get _ _ q2 (by simp)
  have r3:=H.get _ _ r2 (by simp)
  have W3:=b0.keep H (by simp)
  have P:∀x∈r,x∈(nms E).take i++[n]:=λx f=>List.mem_append_left _ (C x f)
  obtain⟨k4,m0,e4,K4,R4⟩:=DG (e:=e) (n:=n) (a2:=a2) (a5:=a5) q3 r3 W3 P u V;have n0:∀x∈r,(AF a (kv++[((.inr n:Key),D.non)]) x).length<=13:=λx f=>(jV W3 (P x f) (List.all_eq_true.mp u x f)).2.2.1
  have A0:=DH n0 V;obtain⟨d5,b,e5,K5,p0⟩:=hM m0 k4 _ _ R4 (by simp;omega) (by omega)
  have m5:JL LM [oR e,oR q,a2,oS n,oR jr,a5] a=.ok d5 b:=by
   unfold JL;rw[cM,aO,e4,ak,aU,ak,ak,eM,e5,hU]
  have c0:=K4.trans K5;have s5:av 5 (JL LM) [oR e,oR q,a2,oS n,oR jr,a5] a=.nx [oR e,oR q,a2,oS n,oR jr,some d5] b:=by rw[br,m5];rfl
  rcases p0 with rfl|⟨o,p,rfl,hp,M,_⟩
  .obtain⟨c,z⟩:=rest (H.trans c0)
   refine⟨some .non,c,b,?_,z⟩;rw[start rfl,e3,hb]
   show sq (sq (ldI LM [oR e,oR q,a2,oS n,oR jr,a5] a) aj) aj=_
   unfold ldI;rw[ah,s5];rfl
  ·
   have q0:=kX M
   have e0:∀x∈o,x∈nms E:=λx f=>by
    obtain⟨l0,h1,h2⟩:=hJ M x f;rcases List.mem_append.mp h1 with h|h
    .obtain⟨y,hy,rfl⟩:=List.mem_map.mp h
     exact(jV W3 (P y hy) (List.all_eq_true.mp u y hy)).2.2.2 x h2
    .rw[List.mem_singleton.mp h]at h2
     exact uB (C x h2)
   have B0:o.length<=12:=by
    have:=hX q0 e0;simp only[nms,List.length_map]at this;omega
   have e6:(mN aT (ab (aa 3) af)) [oR e,oR q,a2,oS n,oR jr,oR p] b=.ok (.ref b.length) (b++[.lst [.str n]]):=by
    show aT [.str n] b=_
    rw[cT,if_pos (aF (by simp))]
   have K6:ai [] b (b++[Cell.lst [.str n]]):=ai.app;have g6:(b++[Cell.lst [.str n]])[b.length]?=some (.lst [.str n]):=aq;generalize b++[Cell.lst [.str n]]=k at *;have e7:=eY g6 (K6.get _ _ hp (by simp)) (by simp;omega)
   have v7:GX [oR e,oR q,a2,oS n,oR jr,oR p] b=.ok (.ref k.length) (k++[.lst ([.str n]++o.map .str)]):=by
    have:aa 5 [oR e,oR q,a2,oS n,oR jr,oR p] k=.ok (.ref p) k:=rfl;unfold GX;rw[cV,e6,ak,this,ak,e7]
   have K7:ai [] k (k++[Cell.lst ([.str n]++o.map .str)]):=ai.app;have g7:(k++[Cell.lst ([.str n]++o.map .str)])[k.length]?=some (.lst ((n::o).map .str)):=aq;generalize hz:k.length=T at *;generalize k++[Cell.lst ([.str n]++o.map .str)]=w at *;have I:=(c0.trans K6).trans K7;have q7:=I.get _ _ q3 (by simp)
   have p8:=xo (ρ:=[oR e,oR q,a2,oS n,oR jr,oR p]) (md:=aa 1) (mk:=aa 3) (mv:=GX) (n:=n) v7 rfl rfl q7 (by simp;omega)
   rw[xp l]at p8;have K8:ai [q] w (w.set q (.dK (kv++[(.inr n,.ref T)]))):=ai.set (by simp)
   have Q:∀j∈[q],∀O,w[j]?≠some (.lst O):=λj hj O=>by rw[List.mem_singleton.mp hj,q7];simp
   have g8:=K8.get _ _ g7 (λz=>Q _ z _ g7)
   have r0:Wv (nms E) (w.set q (.dK (kv++[(.inr n,.ref T)]))) (.ref T):=.inr ⟨T,n::o,rfl,g8,by simp;omega,λx f=>(List.mem_cons.mp f).elim (λy=>y▸List.mem_of_getElem? A) (e0 x)⟩
   refine⟨oR p,_,_,?_,aQ q7,?_,?_,((Kq.trans (dv.up H)).trans (dv.up I)).trans K8⟩
   .rw[start rfl,e3,hb]
    show sq (sq (ldI LM [oR e,oR q,a2,oS n,oR jr,a5] a) aj) aj=_
    unfold ldI;rw[ah,s5,aA,ah]
    show sq (sq (sq (ag (cz (aa 1) (aa 3) GX) aj [oR e,oR q,a2,oS n,oR jr,oR p] b) aj) aj) aj=_
    rw[ah,p8];rfl
   .rw[take_snoc A]
    exact(((W2.keep H (by simp)).keep I (by simp)).keep K8 Q).snoc r0
   .intro f0
    obtain⟨L,G,RA⟩:=S λp hp=>f0 p (by simp[hp])
    have s0:∀x∈r,AF a (kv++[((.inr n:Key),D.non)]) x=L x:=λx f=>by
     have g0:x∈nms (E.take i):=by rw[fx];exact C x f
     obtain⟨j,t0,_,J⟩:=RA.at (n:=x) (by rw[bV];exact g0)
     rw[ed g0]at J;exact xr ((s x f).trans t0) (H.get _ _ (Kq.get _ _ J (λz=>by rw[List.mem_singleton.mp z,U]at J;cases J)) (by simp))
    rw[List.map_congr_left s0]at M;obtain⟨G',u0⟩:=G.snoc (n:=n) (r:=r) (o:=o) (by rw[fx];exact B) (by rw[List.length_take];omega) f1 V (λx f=>by rw[fx];exact C x f) M
    have v0:E.take (i+1)=E.take i++[(n,r)]:=by rw[List.take_succ,hi];rfl
    rw[v0];refine⟨_,G',?_⟩
    have h0:bo (nms (E.take i)) L++[(n,n::o)]=bo (nms (E.take i++[(n,r)])) (λx=>if x=n then n::o else L x):=by
     have:nms (E.take i++[(n,r)])=nms (E.take i)++[n]:=by simp[nms]
     rw[this];unfold bo;rw[List.map_append]
     congr 1
     .refine List.map_congr_left λy hy=>?_
      show(y,L y)=(y,if y=n then n::o else L y)
      rw[u0 y hy]
     .simp
    rw[←h0];have w0:∀j∈[q],∀O,Ω[j]?≠some (.lst O):=λj hj O=>by rw[List.mem_singleton.mp hj,U];simp
    have x0:=(((RA.cm Kq w0).keep H (by simp)).keep I (by simp)).cm K8 Q
    exact aI.append (R:=λ(kv:Key×D) (p:Str×List Str)=>kv.1=.inr p.1/\∃j,kv.2=.ref j/\Tr j/\(w.set q (.dK (_++[((.inr n:Key),D.ref T)])))[j]?=some (.lst (p.2.map .str))) x0 (.cons ⟨rfl,T,rfl,trivial,g8⟩ .nil)
end
section
variable{Ω ao aG:aD}{ρ:aR}{e q j k i jr:Nat}{kv dD kvs:List (Key×D)}{E:dW}{n x:Str}{r ns NS:List Str}{d:D}{L:Str->List Str}
theorem xu(f:aC Tr Ω dD E)(a:(dD.map Bk)[i]?=some d):∃n r j,E[i]?=some (n,r)/\d=.tup [.str n,.ref j]/\Ω[j]?=some (.lst (r.map .str)):=by
 rw[List.getElem?_map]at a;obtain⟨c,e,rfl⟩:=Option.map_eq_some_iff.mp a;obtain⟨⟨n,r⟩,g,h,j,k,_,b⟩:=aI.get (R:=λ(c:Key×D) (p:Str×List Str)=>c.1=.inr p.1/\∃j,c.2=.ref j/\Tr j/\Ω[j]?=some (.lst (p.2.map .str))) f e
 refine⟨n,r,j,g,?_,b⟩;unfold Bk;rw[h,k];rfl
theorem GY{LM:aV}(C:rg LM){a2 a3 a4 a5:Option D}(s:bU Ω e dD)(y:aC Tr Ω dD E)(F:GW E)(G:Ω[q]?=some (.dK []))(f:q≠e) :
  ∃h k c b ao,cj (dm [3,4]) (eu (aa 0)) (Bn LM) [oR e,oR q,a2,a3,a4,a5] Ω=.nx [oR e,oR q,a2,h,k,c] ao/\ao[q]?=some (.dK b)/\i_ (nms E) ao b (nms E)/\AE ao b E/\ao[e]?=some (.dF dD)/\ai [e,q] Ω ao:=by
 have t:eu (aa 0) [oR e,oR q,a2,a3,a4,a5] Ω=.ok (.items e) (Ω.set e (.dF dD)):=wV s;have z:=mI s;have u:ai [e] Ω (Ω.set e (.dF dD)):=ai.set (by simp)
 have H:=y.cm u (λj l ds=>by rw[List.mem_singleton.mp l];exact s.nl ds)
 have A:=u.get _ _ G (by simpa using f)
 generalize Ω.set e (.dF dD)=m at *;have B:=F.len;have o:=y.len;have w:∀j∈[q],∀ds,m[j]?≠some (.lst ds):=λj l ds=>by rw[List.mem_singleton.mp l,A];simp
 rw[cq,t,bt]
 refine bA (R:=λr=>∃h k c b ao,r=.nx [oR e,oR q,a2,h,k,c] ao/\ao[q]?=some (.dK b)/\i_ (nms E) ao b (nms E)/\AE ao b E/\ao[e]?=some (.dF dD)/\ai [e,q] Ω ao) (ds:=dD.map Bk)
  (λi p a=>∃a3 a4 a5 b,p=[oR e,oR q,a2,a3,a4,a5]/\a[q]?=some (.dK b)/\i_ (nms E) a b ((nms E).take i)/\AE a b (E.take i)/\ai [q] m a) ?_ ?_ ?_ fuel 0 _ _ (by rw[List.length_map];unfold fuel;omega) (Nat.zero_le _) ⟨a3,a4,a5,[],rfl,A,.nil,λ_=>⟨λ_=>[],eN.nil,.nil⟩,ai.refl⟩
 .rintro i p a ⟨_,_,_,_,_,_,_,_,K⟩
  exact nX (K.get _ _ z (by simpa using Ne.symm f))
 .rintro i d p a x ⟨a3,a4,a5,b,rfl,g,W,S,K⟩
  obtain⟨n,r,j,I,rfl,l⟩:=xu (H.cm K w) x;refine⟨[oR e,oR q,a2,oS n,oR j,a5],rfl,?_⟩;obtain⟨c,J,L,M,N,O,P,Q⟩:=DI C (e:=e) (a2:=a2) (a5:=a5) g l F I W S;rw[M];exact⟨_,_,_,_,rfl,N,O,P,K.trans Q⟩
 .rintro p a ⟨a3,a4,a5,b,rfl,g,W,S,K⟩
  have T:(nms E).length=E.length:=by simp[nms]
  rw[List.length_map,←o,←T,List.take_length]at W;rw[List.length_map,←o,List.take_length]at S;exact⟨a3,a4,a5,b,a,rfl,g,W,S,K.get _ _ z (by simpa using Ne.symm f),(u.sub (by simp)).trans (K.sub (by simp))⟩
theorem GZ{LM:aV}{a2 a3 a4 a5:Option D}(h:Ω[e]?=some (.dF dD))(m:aC Tr Ω dD E)(w:E.length<=12)(o:Ω[q]?=some (.dK kv))(W:i_ (nms E) Ω kv (nms E)) :
  ∃c f,cj (dm [3,4]) (eu (aa 0)) (Bn LM) [oR e,oR q,a2,a3,a4,a5] Ω=.nx [oR e,oR q,a2,c,f,a5] Ω:=by
 have k:eu (aa 0) [oR e,oR q,a2,a3,a4,a5] Ω=.ok (.items e) Ω:=by
  have:eu (aa 0) [oR e,oR q,a2,a3,a4,a5] Ω=.ok (.items e) (Ω.set e (.dF dD)):=wV (.inr h);rwa[set_same h]at this
 have p:=m.len;rw[cq,k,bt];refine bA (R:=λr=>∃c f,r=.nx [oR e,oR q,a2,c,f,a5] Ω) (ds:=dD.map Bk) (λi g a=>a=Ω/\∃a3 a4,g=[oR e,oR q,a2,a3,a4,a5]) ?_ ?_ ?_ fuel 0 _ _ (by rw[List.length_map];unfold fuel;omega) (Nat.zero_le _) ⟨rfl,a3,a4,rfl⟩
 .rintro i g a ⟨rfl,_⟩
  exact nX h
 .rintro i d g a l ⟨rfl,a3,a4,rfl⟩
  obtain⟨n,r,j,s,rfl,x⟩:=xu m l;refine⟨[oR e,oR q,a2,oS n,oR j,a5],rfl,?_⟩;obtain⟨y,t,_⟩:=W.look.1 (List.mem_of_getElem? (eZ s));have b:=wQ (n:=n) (.inl o);rw[t]at b
  have u:ldC [oR e,oR q,a2,oS n,oR j,a5] a=.ok (.bl false) a:=by
   unfold ldC;rw[gE]
   show(ax .NotIn (.str n) (.ref q) a).bind _=_
   rw[b];rfl
  have:Bn LM [oR e,oR q,a2,oS n,oR j,a5] a=.nx [oR e,oR q,a2,oS n,oR j,a5] a:=by
   unfold Bn;rw[ah,bY,u];rfl
  rw[this];exact⟨rfl,_,_,rfl⟩
 .rintro g a ⟨rfl,a3,a4,rfl⟩
  exact⟨a3,a4,rfl⟩
def Mm(LM:aV):SM:=
 (ag (av 1 bE)
 (ag (cj (bX 2) (b_ (ab (mN (aP .len) (ab (aa 0) af)) af)) (ag (cj (dm [3,4]) (eu (aa 0)) (Bn LM)) aj))
 (ag (bh (aa 1))
 aj)))
def xv(f:aV):Prop:=∀(c:aD) (e:Nat) (b:List (Key×D)) (E:dW),bU c e b->aC Tr c b E->GW E->1<=E.length ->
 ∃q d a,f [.ref e] c=.ok (.ref q) a/\a[q]?=some (.dK d)/\ai [e] c a/\a[e]?=some (.dF b)/\i_ (nms E) a d (nms E)/\AE a d E
theorem G7{LM:aV}(O:rg LM):xv (bS 6 1 (Mm LM)):=by
 intro m e p E I J F L;rw[bx (by rfl)]
 have P:aZ 6 [D.ref e]=[oR e,none,none,none,none,none]:=rfl;rw[P];have Q:av 1 bE [oR e,none,none,none,none,none] m=.nx [oR e,oR m.length,none,none,none,none] (m++[Cell.dK []]):=rfl;have w:ai [] m (m++[Cell.dK []]):=ai.app;have x:(m++[Cell.dK []])[m.length]?=some (.dK []):=aq;have le:=I.lt;have n:=I.keep w (by simp)
 have s:=J.keep w (by simp)
 generalize T:m.length=q at *;generalize m++[Cell.dK []]=b at *;have t:=Bj n;rw[←J.len]at t;have u:=F.len
 have y:b_ (ab (mN (aP .len) (ab (aa 0) af)) af) [oR e,oR q,none,none,none,none] b=.ok (.ints 0 E.length) b:=by
  have:(mN (aP .len) (ab (aa 0) af)) [oR e,oR q,none,none,none,none] b=.ok (.int E.length) b:=t;rw[iF,aO,this,ak,aU,ak,ak,jR,if_pos (ec (by omega) (by omega)),Int.toNat_natCast]
 have A:∀j∈[e,q],∀ds,b[j]?≠some (.lst ds):=λj M ds=>by
  simp only[List.mem_cons,List.not_mem_nil,or_false]at M;rcases M with rfl|rfl
  .exact n.nl ds
  .rw[x];simp
 unfold Mm;rw[ah,Q,aA,ah,cq,y,bt]
 refine bA (R:=λr=>∃q l h,gp (sq r _)=.ok (.ref q) h/\h[q]?=some (.dK l)/\ai [e] m h/\h[e]?=some (.dF p)/\i_ (nms E) h l (nms E)/\AE h l E) (ds:=intsFrom 0 E.length)
  (λi B a=>∃a2 a3 a4 a5 l,B=[oR e,oR q,a2,a3,a4,a5]/\ai [e,q] b a/\a[q]?=some (.dK l)/\((i=0/\l=[]/\a=b)\/(0<i/\i_ (nms E) a l (nms E)/\AE a l E/\a[e]?=some (.dF p)))) (λ_ _ _ _=>rfl) ?_ ?_ fuel 0 _ _ (by rw[cR];unfold fuel;omega) (Nat.zero_le _) ⟨none,none,none,none,[],rfl,ai.refl,x,.inl ⟨rfl,rfl,rfl⟩⟩
 .rintro i d B a hd ⟨a2,a3,a4,a5,l,rfl,K,g,o⟩
  refine⟨[oR e,oR q,some d,a3,a4,a5],rfl,?_⟩;rcases o with ⟨rfl,rfl,rfl⟩|⟨U,W,S,f⟩
  .obtain⟨C,G,V,l,X,H,Y,Z,S4,f4,K4⟩:=GY O (a2:=some d) (a3:=a3) (a4:=a4) (a5:=a5) n s F x (by omega)
   rw[ah,H];exact⟨_,_,_,_,_,rfl,K4,Y,.inr ⟨by omega,Z,S4,f4⟩⟩
  .obtain⟨C,G,H⟩:=GZ (LM:=LM) (a2:=some d) (a3:=a3) (a4:=a4) (a5:=a5) f (s.cm K A) u g W
   rw[ah,H];exact⟨_,_,_,_,_,rfl,K,g,.inr ⟨by omega,W,S,f⟩⟩
 .rintro B a ⟨a2,a3,a4,a5,l,rfl,K,g,o⟩
  rcases o with ⟨z,_⟩|⟨U,W,S,f⟩
  .rw[cR]at z
   omega
  .refine⟨q,l,a,rfl,g,⟨by have:=w.len;have:=K.len;omega,λk c N hn=>K.get k c (w.get k c N (by simp)) (by have:=bp N;simp at hn ⊢;omega)⟩,f,W,S⟩
end
section
variable{Ω ao aG:aD}{ρ:aR}{e q j k i:Nat}{kv dD kvs:List (Key×D)}{E:dW}{n x:Str}{r rc S:List Str}{d:D}{L:Str->List Str}{P:Nat->Prop}
theorem eN.least(G:eN E L){S:Str->Prop}(q:∀y,S y->∀x∈bj E y,S x):∀(k i:Nat) (n:Str),i<k->(nms E)[i]?=some n->S n->∀x∈L n,S x:=by
 intro k
 induction k with
 |zero=>intro i n h;omega
 |succ k s=>
  intro i n A t m x p;obtain⟨r,d⟩:=eE t;have a:bj E n=r:=lr G.nd d;obtain⟨o,M,e⟩:=G.ln i _ d;have e:L n=n::o:=e;rw[e]at p;rcases List.mem_cons.mp p with z|z
  .rw[z];exact m
  .obtain⟨u,w,f⟩:=hJ M x z
   have g:=(G.el i _ d).2.2;have b:∀y∈r,S y:=λy c=>q n m y (by rw[a];exact c)
   rcases List.mem_append.mp w with h|h
   .obtain⟨y,c,rfl⟩:=List.mem_map.mp h
    obtain⟨j,B,l⟩:=bG (g y c);exact s j y (by omega) l (b y c) x f
   .rw[List.mem_singleton.mp h]at f
    exact b x f
def En:SM:=(ag (cU (m2 (ax .NotIn) (aa 4) (aa 2)) (ag (bH (dg hY bq (aa 2) (ab (aa 4) af))) aj) aj) aj)
def JM:SM:=(ag (cj (bX 4) (aK (m2 az (aa 0) (m2 az (aa 2) (aa 3)))) En) (ag (av 3 (m2 (aM .Add) (aa 3) (ae (.int 1)))) aj))
def JN:EM:=(m2 (ax .Lt) (aa 3) (mN (aP .len) (ab (aa 2) af)))
def Mn:SM:=
 (ag (av 2 (mN aT (ab (aa 1) af)))
 (ag (av 3 (ae (.int 0)))
 (ag (gM JN JM)
 (ag (bh (aa 2))
 aj))))
theorem G8{a0 a1 a3 a4:Option D}(C:Ω[k]?=some (.lst (rc.map .str)))(E:Ω[j]?=some (.lst (r.map .str)))(s:k≠j)(F:rc.Nodup)(G:∀x∈rc,x∈S)(H:∀x∈r,x∈S)(N:r.length<=100)(O:S.length<=100) :
  ∃mo e ao,eX (bX 4) (.seq (.ref j)) En fuel 0 [a0,a1,oR k,a3,a4] Ω=.nx [a0,a1,oR k,a3,e] ao/\ao[k]?=some (.lst ((rc++mo).map .str))/\(rc++mo).Nodup/\(∀x∈rc++mo,x∈S)/\(∀x∈r,x∈rc++mo)/\ai [k] Ω ao:=by
 refine bA (R:=λt=>∃mo e ao,t=.nx [a0,a1,oR k,a3,e] ao/\ao[k]?=some (.lst ((rc++mo).map .str))/\(rc++mo).Nodup/\(∀x∈rc++mo,x∈S)/\(∀x∈r,x∈rc++mo)/\ai [k] Ω ao) (ds:=r.map .str)
  (λi p c=>∃mo e,p=[a0,a1,oR k,a3,e]/\c[k]?=some (.lst ((rc++mo).map .str))/\(rc++mo).Nodup/\(∀x∈rc++mo,x∈S)/\(∀x∈r.take i,x∈rc++mo)/\ai [k] Ω c) ?_ ?_ ?_ fuel 0 _ _ (by unfold fuel;simp;omega) (Nat.zero_le _) ⟨[],a4,rfl,by simpa using C,by simpa using F,by simpa using G,by simp,ai.refl⟩
 .rintro i p c ⟨_,_,_,_,_,_,_,K⟩
  rw[cp,aE,aB (K.get _ _ E (by simpa using Ne.symm s))]
 .rintro i d p c I ⟨mo,e,rfl,g,m,n,o,K⟩
  obtain⟨x,u,rfl⟩:=ew I;refine⟨[a0,a1,oR k,a3,oS x],rfl,?_⟩;have f:=jS (w:=x) g
  by_cases q:x∈rc++mo
  .rw[decide_eq_true q]at f
   have:En [a0,a1,oR k,a3,oS x] c=.nx [a0,a1,oR k,a3,oS x] c:=by
    unfold En;rw[ah,bY]
    show sq (bK (cx (ax .NotIn (.str x) (.ref k) c)) _) _=_
    rw[f];rfl
   rw[this];refine⟨mo,_,rfl,g,m,n,λy l=>?_,K⟩
   rw[List.take_succ,u]at l;rcases List.mem_append.mp l with h|h
   .exact o y h
   .have:y=x:=by simpa using h
    rw[this];exact q
  .rw[decide_eq_false q]at f
   have J:=hX m n;have A:=d_ (d:=.str x) g (by rw[List.length_map];omega)
   have:En [a0,a1,oR k,a3,oS x] c=.nx [a0,a1,oR k,a3,oS x] (c.set k (.lst ((rc++mo).map .str++[.str x]))):=by
    unfold En;rw[ah,bY]
    show sq (bK (cx (ax .NotIn (.str x) (.ref k) c)) _) _=_
    rw[f]
    show sq (ag (bH _) _ [a0,a1,oR k,a3,oS x] c) _=_
    rw[ah,bT,fb (x:=.ref k) (ao:=c) rfl (eD g)]
    show sq (sq (bK (bq (.ref k) [.str x] c) _) _) _=_
    rw[A];rfl
   rw[this];have B:x∈S:=H x (List.mem_of_getElem? u);refine⟨mo++[x],_,rfl,?_,?_,?_,λy l=>?_,K.trans (ai.set (by simp))⟩
   .rw[aQ g];simp
   .rw[←List.append_assoc]
    exact List.nodup_append.mpr ⟨m,by simp,λa L b M z=>q (by rw[←List.mem_singleton.mp M,←z];exact L)⟩
   .intro y l
    rw[←List.append_assoc]at l;rcases List.mem_append.mp l with h|h
    .exact n y h
    .rw[List.mem_singleton.mp h];exact B
   .rw[←List.append_assoc]
    rw[List.take_succ,u]at l;rcases List.mem_append.mp l with h|h
    .exact List.mem_append_left _ (o y h)
    .exact List.mem_append_right _ (by simpa using h)
 .rintro p c ⟨mo,e,rfl,g,m,n,o,K⟩
  rw[List.length_map,List.take_length]at o;exact⟨mo,e,c,rfl,g,m,n,o,K⟩
theorem xw(G:eN E L)(q:n∈nms E):∀(m:Nat) (Ω:aD) (b:List Str) (a:Nat) (a4:Option D),bU Ω e dD->aC (λj=>j≠k) Ω dD E->Ω[k]?=some (.lst (b.map .str))->b.Nodup->n∈b->(∀x∈b,x∈L n)->(∀(i:Nat) (y:Str),i<a->b[i]?=some y->∀x∈bj E y,x∈b)->a<=b.length->14 - a<m ->
   ∃(c:List Str) (g d:Option D) (ao:aD),ek JN JM m [oR e,oS n,oR k,oI a,a4] Ω=.nx [oR e,oS n,oR k,g,d] ao/\ao[k]?=some (.lst (c.map .str))/\c.Nodup/\n∈c/\(∀x∈c,x∈L n)/\(∀y∈c,∀x∈bj E y,x∈c)/\ai [k] Ω ao:=by
 have b0:=G.short q;intro m
 induction m with
 |zero=>intro Ω b a a4 _ _ _ _ _ _ _ _ h;omega
 |succ m ih=>
  intro Ω b a a4 H Z r l hn A s c0 hm;have e0:=hX l A;have t:=fO r;rw[List.length_map]at t
  have B:JN [oR e,oS n,oR k,oI a,a4] Ω=.ok (.bl (decide (a<b.length))) Ω:=by
   unfold JN;rw[cV];have I:aa 3 [oR e,oS n,oR k,oI a,a4] Ω=.ok (.int a) Ω:=rfl;have J:(mN (aP .len) (ab (aa 2) af)) [oR e,oS n,oR k,oI a,a4] Ω=.ok (.int b.length) Ω:=t;rw[I,ak,J,ak];have:decide (a<b.length)=decide ((a:Int)<b.length):=by simp
   rw[this];simp[dH]
  by_cases f:a<b.length
  .have o:b[a]?=some b[a]:=List.getElem?_eq_getElem f
   generalize b[a]=y at o;have K:=A y (List.mem_of_getElem? o);obtain⟨u,_,M⟩:=G.pP q K;obtain⟨j,hv,N,C⟩:=Z.at u;have O:az (.ref k) (.int a) Ω=.ok (.str y) Ω:=cE r (L2.cQ (j:=a) (by simp[o]))
   have P:aK (m2 az (aa 0) (m2 az (aa 2) (aa 3))) [oR e,oS n,oR k,oI a,a4] Ω=.ok (.seq (.ref j)) Ω:=by
    rw[bg,cV];have I:aa 0 [oR e,oS n,oR k,oI a,a4] Ω=.ok (.ref e) Ω:=rfl;have J:(m2 az (aa 2) (aa 3)) [oR e,oS n,oR k,oI a,a4] Ω=.ok (.str y) Ω:=O;rw[I,ak,J,ak,dU H hv,ak];exact aX (by rw[aE,aB C])
   have Q:(bj E y).length<=100:=G.gd.short y u;obtain⟨mo,d,w,e2,g2,n2,s2,t2,R⟩:=G8 (a0:=oR e) (a1:=oS n) (a3:=oI a) (a4:=a4) (S:=L n) r C (Ne.symm N) l A (λx p=>M.subset p) Q (by omega)
   have rB:JM [oR e,oS n,oR k,oI a,a4] Ω=.nx [oR e,oS n,oR k,oI (a+1:Nat),d] w:=by
    unfold JM;rw[ah,cq,P,bt,e2,aA,ah];simp
   have T:∀j∈[k],¬ (λj=>j≠k) j:=λj C z=>z (List.mem_singleton.mp C)
   have U:e≠k:=λz=>H.nl _ (z▸r)
   obtain⟨c,g,b4,V,e3,q1,q2,q3,q4,q5,K3⟩:=ih w (b++mo) (a+1) d (H.keep R (by simpa using U)) (Z.keep R T) g2 n2 (by simp[hn]) s2 (λi z X F x p=>by
    by_cases Y:i<a
    .rw[List.getElem?_append_left (by omega)]at F
     exact List.mem_append_left _ (s i z Y F x p)
    .have:i=a:=by omega
     subst this;rw[List.getElem?_append_left f,o]at F;cases F;exact t2 x p) (by simp;omega) (by omega)
   refine⟨c,g,b4,V,?_,q1,q2,q3,q4,q5,R.trans K3⟩;rw[decide_eq_true f]at B;simp only[ek,B,cS,cJ,c_,bt,if_true,rB];exact e3
  .refine⟨b,oI a,a4,Ω,?_,r,l,hn,A,λy o x p=>?_,ai.refl⟩
   .rw[decide_eq_false f]at B
    simp only[ek,B,cS,cJ,c_,bt];rfl
   .obtain⟨i,X⟩:=List.mem_iff_getElem?.mp o
    have:=(List.getElem?_eq_some_iff.mp X).1;exact s i y (by omega) X x p
def AG(f:aV):Prop:=∀(b:aD) (e:Nat) (c:List (Key×D)) (E:dW) (L:Str->List Str) (n:Str),bU b e c->aC Tr b c E->eN E L->n∈nms E ->
 ∃d k a,f [.ref e,.str n] b=.ok (.ref k) a/\a[k]?=some (.lst (List.map D.str d))/\d.Perm (L n)/\ai [] b a/\b.length<=k
theorem G9:AG (bS 5 2 Mn):=by
 intro a e c E L n w d G f;rw[bx (by rfl)]
 have z:aZ 5 [D.ref e,.str n]=[oR e,oS n,none,none,none]:=rfl;rw[z];have A:av 2 (mN aT (ab (aa 1) af)) [oR e,oS n,none,none,none] a=.nx [oR e,oS n,oR a.length,none,none] (a++[Cell.lst [.str n]]):=by simp[aF]
 have g:ai [] a (a++[Cell.lst [.str n]]):=ai.app;have B:(a++[Cell.lst [.str n]])[a.length]?=some (.lst (([n]:List Str).map .str)):=aq;have l:=w.keep g (by simp)
 have m:aC (λj=>j≠a.length) (a++[Cell.lst [.str n]]) c E:=(d.lt.imp (P':=λj=>j≠a.length) λj U=>by omega).keep g (by simp)
 generalize C:a.length=k at *;generalize a++[Cell.lst [.str n]]=b at *;obtain⟨i,t⟩:=List.mem_iff_getElem?.mp f
 have p:n∈L n:=by
  obtain⟨r,d⟩:=eE t;obtain⟨o,_,q⟩:=G.ln i _ d;have q:L n=n::o:=q;rw[q];simp
 obtain⟨u,F,H,s,I,J,K,M,N,O,P⟩:=xw G f fuel b [n] 0 none l m B (by simp) (by simp) (by simpa using p) (λi y h=>by omega) (by simp) (by unfold fuel;omega)
 refine⟨u,k,s,?_,J,(List.perm_ext_iff_of_nodup K (G.AD f)).mpr λx=>⟨N x,λQ=>G.least (S:=λx=>x∈u) (λy R=>O y R) (i+1) i n (by omega) t M x Q⟩,ai.new g P (by simp;omega),by omega⟩
 unfold Mn;rw[ah,A,aA,ah];have T:av 3 (ae (.int 0)) [oR e,oS n,oR k,none,none] b=.nx [oR e,oS n,oR k,oI (0:Nat),none] b:=rfl;rw[T,aA,ah];unfold gM;rw[I];rfl
end
section
variable{Ω ao aG:aD}{ρ:aR}{e q j k i h z:Nat}{kv dD kvs:List (Key×D)}{E:dW}{n x:Str}{r rc ns:List Str}{d:D}{f L:Str->List Str}{js:List Nat}{rs:List (List Str)}
theorem xx{xs:List Str}(h:xs.length<64):ik (xs.map .str)=.ok ((xs.mergeSort bZ).map .str):=by
 unfold ik;rw[if_neg (by simp;omega)]
 cases xs with
 |nil=>simp[lY]
 |cons x xs=>
  have:lY ((x::xs).map .str)=none:=rfl;rw[this,strs_map]
theorem G_{xs:List Str}(a:Ω[k]?=some (.lst (xs.map .str)))(h:xs.length<64):gm [.ref k] Ω=.ok (.ref Ω.length) (Ω++[.lst ((xs.mergeSort bZ).map .str)]):=by
 simp only[gm,aB a,xx h,jM]
theorem xy{xs c:List Str}(h:xs.Perm c):xs.mergeSort bZ=c.mergeSort bZ:=
 List.Perm.eq_of_pairwise (le:=λa b=>bZ a b=true) (λa b _ _ d e=>ky d e) (List.pairwise_mergeSort eT f_ xs) (List.pairwise_mergeSort eT f_ c) (((List.mergeSort_perm xs bZ).trans h).trans (List.mergeSort_perm c bZ).symm)
theorem fc.rwa(K:fc Ω ao)(h:gR Ω js rs):gR ao js rs:=aI.imp (λ_ _ d=>K.lst d) h
theorem n8{me:EM}{mi:IM}{cap:List Nat}{src:Src}(p:mi ρ Ω=.ok src Ω)(q:∀aG,fc Ω aG->er src aG=some (ns.map .str))(r:∀x∈ns,∀aG,fc Ω aG->∃j a,me ([oS x]++dI cap ρ) aG=.ok (.ref j) a/\a[j]?=some (.lst ((f x).map .str))/\fc aG a)(y:ns.length<=100) :
  ∃k b ao,aW me true (ae .non) mi 0 cap ρ Ω=.ok (.ref k) ao/\Rw ao k b (ns.map f)/\fc Ω ao:=by
 obtain⟨z,aG,s,b,rfl,e,t⟩:=iI (mc:=ae .non) (me:=me) (cap:=cap) (ds:=ns.map .str) (λi c a=>∃b,c=b.map .ref/\gR a b ((ns.take i).map f)/\fc Ω a) p ⟨[],rfl,.nil,fc.refl⟩
  (λi c a h=>by
   obtain⟨_,_,_,K⟩:=h;exact q a K)
  (λi d c a g h=>by
   obtain⟨b,rfl,e,K⟩:=h;obtain⟨x,m,rfl⟩:=ew g;obtain⟨j,l,u,w,n⟩:=r x (List.mem_of_getElem? m) a K;refine⟨.ref j,l,u,b++[j],by simp,?_,K.trans n⟩
   rw[List.take_succ,m,List.map_append];exact(n.rwa e).snoc w) (by simp;omega)
 rw[List.length_map,List.take_length]at e;have o:ai [] aG (aG++[Cell.lst (b.map .ref)]):=ai.app;exact⟨aG.length,b,_,s,⟨aq,e.keep o (by simp)⟩,t.trans o.kpf⟩
def hcC(a:aV)(i:Nat)(cap:List Nat):EM:=(aW (aa 0) false (m2 (ax .In) (aa 1) (m2 az (aa 2) (aa 0))) (aK (aN "House" "kinds" a (aa i) af)) 0 cap)
def hrs(E:dW)(L:Str->List Str)(n:Str):List Str:=(nms E).filter λm=>decide (n∈L m)
theorem Bo{b:aV}(t:rf b){cap:List Nat}(H:bP Tr Ω h E L)(u:ρ[i]?=some (oR h))(o:dI cap ρ=[oS n,oR z])(hz:bU Ω z kv)(w:aC Tr Ω kv (bo (nms E) f))(x:∀m∈nms E,(f m).Perm (L m))(I:E.length<=100) :
  ∃k ao,hcC b i cap ρ Ω=.ok (.ref k) ao/\ao[k]?=some (.lst ((hrs E L n).map .str))/\ai [] Ω ao:=by
 obtain⟨k,a,y,q,c,_⟩:=t Ω h E L Tr H
 have m1:aN "House" "kinds" b (aa i) af ρ Ω=.ok (.ref k) a:=by
  rw[cN H u (by decide),aU,ak,y];rfl
 have e:aK (aN "House" "kinds" b (aa i) af) ρ Ω=.ok (.seq (.ref k)) a:=by
  rw[bg,m1,ak];exact aX (by rw[aE,aB q])
 have A:=hz.keep c (by simp)
 have B:=w.keep c (by simp)
 have r:=cF (ρ:=ρ) (Ω:=Ω) (ao:=a) (me:=aa 0) (mc:=m2 (ax .In) (aa 1) (m2 az (aa 2) (aa 0))) (nc:=false) (cap:=cap) (src:=.seq (.ref k)) (ds:=(nms E).map .str) (p:=λd=>match d with|.str m=>decide (n∈L m)|_=>false) (g:=λd=>d) e (by rw[cp,aE,aB q]) (λd C=>by
  obtain⟨m,l,rfl⟩:=List.mem_map.mp C;obtain⟨j,F,_,s⟩:=B.at (n:=m) (by rw[bV];exact l)
  rw[ed l]at s;rw[o]
  show cx ((az (.ref z) (.str m) a).bind _)=_
  rw[dU A F,ak]
  show cx (ax .In (.str n) (.ref j) a)=_
  rw[iY s]
  show ay.ok (decide (n∈f m)) a=.ok (decide (n∈L m)) a
  simp[(x m l).mem_iff]) (λd _ _=>by rw[o];rfl) (by simp[nms];omega)
 have G:(((nms E).map D.str).filter (λd=>match d with|.str m=>decide (n∈L m)|_=>false)).map (λd:D=>d)=(hrs E L n).map .str:=by
  rw[List.map_id',List.filter_map];rfl
 rw[G]at r;exact⟨a.length,_,r,aq,c.trans ai.app⟩
def Mo(a:aV):EM:=(m2 (ax .NotEq) (mN gm (ab (aN "House" "line" a (aa 0) (ab (aa 4) af)) af)) (mN gm (ab (m2 az (aa 3) (aa 4)) af)))
def Mp(a b:aV):EM:=(m2 (ax .NotEq) (aN "House" "heirs" a (aa 0) (ab (aa 4) af)) (hcC b 0 [4,3]))
def Pq(a:aV):EM:=(aW (aN "House" "line" a (aa 1) (ab (aa 0) af)) true (ae .non) (aK (m2 az (aa 1) (aa 4))) 0 [0])
def Mq(a b:aV):EM:=(m2 (ax .NotEq) (aN "House" "rows_of" a (aa 0) (ab (aa 4) af)) (m2 (aM .Add) (Pq b) (mN aT (ab (m2 az (aa 1) (aa 4)) af))))
theorem DJ{e:aV}(r:xa e){a1 a2 a5:Option D}(H:bP Tr Ω h E L)(hz:bU Ω z kv)(s:aC Tr Ω kv (bo (nms E) f))(i:∀m∈nms E,(f m).Perm (L m))(g:n∈nms E)(I:(L n).length<=13) :
  ∃ao,Mo e [oR h,a1,a2,oR z,oS n,a5] Ω=.ok (.bl false) ao/\ai [] Ω ao:=by
 obtain⟨k,a,t,u,w,_⟩:=r Ω h E L Tr n H g
 have m1:aN "House" "line" e (aa 0) (ab (aa 4) af) [oR h,a1,a2,oR z,oS n,a5] Ω=.ok (.ref k) a:=by
  rw[cN H rfl (by decide)]
  show jJ (e [.ref h,.str n] Ω)=_
  rw[t];rfl
 have x:=G_ u (by omega)
 have y:ai [] a (a++[Cell.lst (((L n).mergeSort bZ).map .str)]):=ai.app;have A:(a++[Cell.lst (((L n).mergeSort bZ).map .str)])[a.length]?=some (.lst (((L n).mergeSort bZ).map .str)):=aq
 have B:(mN gm (ab (aN "House" "line" e (aa 0) (ab (aa 4) af)) af)) [oR h,a1,a2,oR z,oS n,a5] Ω=.ok (.ref a.length) (a++[Cell.lst (((L n).mergeSort bZ).map .str)]):=by
  rw[cM,aO,m1,ak,aU,ak,ak,x]
 generalize a++[Cell.lst (((L n).mergeSort bZ).map .str)]=b at *;have d:=w.trans y;obtain⟨j,C,_,o⟩:=(s.keep d (by simp)).at (n:=n) (by rw[bV];exact g)
 rw[ed g]at o;have F:(m2 az (aa 3) (aa 4)) [oR h,a1,a2,oR z,oS n,a5] b=.ok (.ref j) b:=dU (hz.keep d (by simp)) C
 have p:=G_ o (by rw[(i n g).length_eq];omega)
 rw[xy (i n g)]at p
 have G:(mN gm (ab (m2 az (aa 3) (aa 4)) af)) [oR h,a1,a2,oR z,oS n,a5] b=.ok (.ref b.length) (b++[Cell.lst (((L n).mergeSort bZ).map .str)]):=by
  rw[cM,aO,F,ak,aU,ak,ak,p]
 have q:=nR (dS (l:=[.lst (((L n).mergeSort bZ).map .str)]) A) (aq (Ω:=b) (c:=.lst (((L n).mergeSort bZ).map .str)) (l:=[]));rw[decide_eq_true rfl]at q;refine⟨b++[Cell.lst (((L n).mergeSort bZ).map .str)],?_,d.trans ai.app⟩;unfold Mo;rw[cV,B,ak,G,ak,q];rfl
theorem DK{a g:aV}(l:AA a)(o:rf g){a1 a2 a5:Option D}(H:bP Tr Ω h E L)(hz:bU Ω z kv)(p:aC Tr Ω kv (bo (nms E) f))(q:∀m∈nms E,(f m).Perm (L m))(r:n∈nms E)(s:E.length<=100) :
  ∃ao,Mp a g [oR h,a1,a2,oR z,oS n,a5] Ω=.ok (.bl false) ao/\fc Ω ao:=by
 obtain⟨k,d,t,u,b,_⟩:=l Ω h E L Tr n H r (by omega)
 have m1:aN "House" "heirs" a (aa 0) (ab (aa 4) af) [oR h,a1,a2,oR z,oS n,a5] Ω=.ok (.ref k) d:=by
  rw[cN H rfl (by decide)]
  show jJ (a [.ref h,.str n] Ω)=_
  rw[t];rfl
 obtain⟨y,e,w,x,j⟩:=Bo o (ρ:=[oR h,a1,a2,oR z,oS n,a5]) (i:=0) (cap:=[4,3]) (n:=n) (b.hs H) rfl rfl (b.dct hz) (b.rows p) q s;have c:=nR (j.get _ _ u (by simp)) x
 have:decide (((nms E).filter λm=>decide (n∈L m))=hrs E L n)=true:=decide_eq_true rfl
 rw[this]at c;refine⟨e,?_,b.trans j.kpf⟩;unfold Mp;rw[cV,m1,ak,w,ak,c];rfl
theorem DL{p i:aV}(M:Ak p)(N:xa i){a2 a3 a5:Option D}(H:bP Tr Ω h E L)(B:bU Ω e dD)(O:aC Tr Ω dD E)(G:eN E L)(q:n∈nms E) :
  ∃ao,Mq p i [oR h,oR e,a2,a3,oS n,a5] Ω=.ok (.bl false) ao/\fc Ω ao:=by
 obtain⟨js,k,d,P,Q,m,_⟩:=M Ω h E L Tr n H G.gd q
 have m1:aN "House" "rows_of" p (aa 0) (ab (aa 4) af) [oR h,oR e,a2,a3,oS n,a5] Ω=.ok (.ref k) d:=by
  rw[cN H rfl (by decide)]
  show jJ (p [.ref h,.str n] Ω)=_
  rw[P];rfl
 have R:=H.keep m;obtain⟨j,C,_,r⟩:=(O.keep m (by simp)).at q
 have S:(m2 az (aa 1) (aa 4)) [oR h,oR e,a2,a3,oS n,a5] d=.ok (.ref j) d:=dU (B.keep m (by simp)) C
 have s:aK (m2 az (aa 1) (aa 4)) [oR h,oR e,a2,a3,oS n,a5] d=.ok (.seq (.ref j)) d:=by
  rw[bg,S,ak];exact aX (by rw[aE,aB r])
 have t:(bj E n).length<=100:=G.gd.short n q
 obtain⟨T,g,a,u,R2,F⟩:=n8 (ρ:=[oR h,oR e,a2,a3,oS n,a5]) (me:=aN "House" "line" i (aa 1) (ab (aa 0) af)) (cap:=[0]) (f:=L) s (λa K=>by rw[cp,aE,aB (K.lst r)]) (λx U a K=>by
  have I:=K.hs R;obtain⟨V,b,w,y,o,_⟩:=N a h E L Tr x I (G.sub q x U);refine⟨V,b,?_,y,o.kpf⟩
  show aN "House" "line" i (aa 1) (ab (aa 0) af) [oS x,oR h] a=_
  rw[cN I rfl (by decide)]
  show jJ (i [.ref h,.str x] a)=_
  rw[w];rfl) t
 have u:Pq i [oR h,oR e,a2,a3,oS n,a5] d=.ok (.ref T) a:=u;have X:(m2 az (aa 1) (aa 4)) [oR h,oR e,a2,a3,oS n,a5] a=.ok (.ref j) a:=dU (F.dct (B.keep m (by simp))) C
 have w:(mN aT (ab (m2 az (aa 1) (aa 4)) af)) [oR h,oR e,a2,a3,oS n,a5] a=.ok (.ref a.length) (a++[.lst [.ref j]]):=by
  rw[cM,aO,X,ak,aU,ak,ak,cT,if_pos (aF (by simp))]
 have o:ai [] a (a++[Cell.lst [.ref j]]):=ai.app;have y:(a++[Cell.lst [.ref j]])[a.length]?=some (.lst [.ref j]):=aq;generalize a++[Cell.lst [.ref j]]=b at *;have z:=R2.len;rw[List.length_map]at z;have Y:=eY (o.get _ _ R2.ce (by simp)) y (by simp;omega)
 have J:ai [] b (b++[Cell.lst (g.map .ref++[.ref j])]):=ai.app;have A:=(F.trans o.kpf).trans J.kpf
 have Z:Rw (b++[Cell.lst (g.map .ref++[.ref j])]) b.length (g++[j]) ((bj E n).map L++[bj E n]):=by
  refine⟨?_,((R2.al.keep o (by simp)).keep J (by simp)).snoc (A.lst r)⟩
  have:=aq (Ω:=b) (c:=.lst (g.map .ref++[.ref j])) (l:=[]);simpa using this
 refine⟨b++[Cell.lst (g.map .ref++[.ref j])],?_,m.kpf.trans A⟩;unfold Mq;rw[cV,m1,ak,cV,u,ak,w,ak,Y,ak,Pn (A.rw Q) Z]
end
section
variable{Ω ao aG:aD}{ρ:aR}{e q j k i h z:Nat}{kv dD kvs:List (Key×D)}{E:dW}{n x:Str}{r rc ns:List Str}{d:D}{f L:Str->List Str}
def Mr(a:aV):SM:=(ag (cz (aa 3) (aa 4) (mN (aS a) (ab (aa 1) (ab (aa 4) af)))) aj)
def AH(a:aV):EM:=(aW (hcC a 1 [0,2]) true (ae .non) (aK (aa 1)) 0 [0,3])
def Ms(a:aV):EM:=(aW (aN "House" "heirs" a (aa 1) (ab (aa 0) af)) true (ae .non) (aK (aa 1)) 0 [0])
def JO(a:aV):EM:=(eK (aa 2) (m2 (ax .NotEq) (Ms a) (aa 5)))
def Mt(b c a d:aV):SM:=(ag (cU (Mo a) Bl aj) (ag (cU (Mp c b) Bl aj) (ag (cU (Mq d a) Bl aj) aj)))
def Mu(c a b d e:aV):SM:=
 (ag (av 3 bE)
 (ag (cj (bX 4) (aK (aa 1)) (Mr c))
 (ag (av 5 (AH a))
 (ag (cU (JO b) Bl aj)
 (ag (cj (bX 4) (aK (aa 1)) (Mt a b d e))
 (ag (bh (ae (.bl true)))
 aj))))))
theorem fc.dr(K:fc Ω ao)(h:Ω[e]?=some (.dF dD)):ao[e]?=some (.dF dD):=(K.get _ _ h).elim id λ⟨_,z,_⟩=>nomatch z
theorem xA{A:aV}(hA:AG A){a0 a2 a4 a5:Option D}(F:bU Ω e dD)(V:aC Tr Ω dD E)(G:eN E L)(hz:Ω[z]?=some (.dK []))(h:e≠z) :
  ∃b c f ao,cj (bX 4) (aK (aa 1)) (Mr A) [a0,oR e,a2,oR z,a4,a5] Ω=.nx [a0,oR e,a2,oR z,b,a5] ao/\ai [e,z] Ω ao/\ao[e]?=some (.dF dD)/\ao[z]?=some (.dK c)/\aC Tr ao c (bo (nms E) f)/\∀m∈nms E,(f m).Perm (L m):=by
 have H:aK (aa 1) [a0,oR e,a2,oR z,a4,a5] Ω=.ok (.keys e) (Ω.set e (.dF dD)):=by
  rw[bg];exact k_ F
 have I:=mI F;have J:ai [e] Ω (Ω.set e (.dF dD)):=ai.set (by simp)
 have r1:=V.cm J (λj p ds=>by rw[List.mem_singleton.mp p];exact F.nl ds)
 have X:=J.get _ _ hz (by simpa using Ne.symm h)
 generalize Ω.set e (.dF dD)=s at *;have Y:=G.len;have M:∀j∈[z],∀ds,s[j]?≠some (.lst ds):=λj p ds=>by rw[List.mem_singleton.mp p,X];simp
 rw[cq,H,bt]
 refine bA (R:=λr=>∃b c f ao,r=.nx [a0,oR e,a2,oR z,b,a5] ao/\ai [e,z] Ω ao/\ao[e]?=some (.dF dD)/\ao[z]?=some (.dK c)/\aC Tr ao c (bo (nms E) f)/\∀m∈nms E,(f m).Perm (L m)) (ds:=(nms E).map .str)
  (λi ρ a=>∃b c f,ρ=[a0,oR e,a2,oR z,b,a5]/\ai [z] s a/\a[z]?=some (.dK c)/\aC Tr a c (bo ((nms E).take i) f)/\∀m∈(nms E).take i,(f m).Perm (L m)) ?_ ?_ ?_ fuel 0 _ _ (by unfold fuel;simp[nms];omega) (Nat.zero_le _) ⟨a4,[],λ_=>[],rfl,ai.refl,X,.nil,by simp⟩
 .rintro i ρ a ⟨_,_,_,_,K,_⟩
  rw[hV (K.get _ _ I (by simpa using h)),V.keys]
 .rintro i d ρ a N ⟨b,c,f,rfl,K,g,t,B⟩
  obtain⟨n,C,rfl⟩:=ew N;have O:n∈nms E:=List.mem_of_getElem? C;have u:n∉(nms E).take i:=lA G.nd C;refine⟨[a0,oR e,a2,oR z,oS n,a5],rfl,?_⟩;have P:=K.get _ _ I (by simpa using h)
  obtain⟨w,k,o,e4,g4,p4,Q,_⟩:=hA a e dD E L n (.inr P) (r1.cm K M) G O
  have ev:(mN (aS A) (ab (aa 1) (ab (aa 4) af))) [a0,oR e,a2,oR z,oS n,a5] a=.ok (.ref k) o:=by
   show jJ (A [.ref e,.str n] a)=_
   rw[e4];rfl
  have S:=Q.get _ _ g (by simp)
  have kl:c.length<=1000:=by
   have:=t.len;simp only[bo,List.length_map,List.length_take,nms]at this;omega
  have T:=lu (ρ:=[a0,oR e,a2,oR z,oS n,a5]) (md:=aa 3) (mk:=aa 4) (n:=n) ev rfl rfl S kl;have R4:=(t.keep Q (by simp)).put (n:=n) (by rw[bV];exact u) (j:=k) (r:=w) trivial g4
  have Z:ai [z] o (o.set z (.dK (cZ c (.inr n) (.ref k)))):=ai.set (by simp)
  have R5:=R4.cm Z (λj p ds=>by rw[List.mem_singleton.mp p,S];simp)
  unfold Mr;rw[ah,T]
  have x:bo ((nms E).take i) f++[(n,w)]=bo ((nms E).take (i+1)) (λm=>if m=n then w else f m):=by
   rw[take_snoc C];unfold bo;rw[List.map_append]
   congr 1
   .refine List.map_congr_left λy hy=>?_
    show(y,f y)=(y,if y=n then w else f y)
    have U:y≠n:=λq=>u (by rw[←q];exact hy)
    rw[if_neg U]
   .simp
  rw[x]at R5;refine⟨_,_,_,rfl,(K.trans (dv.up Q)).trans Z,aQ S,R5,λm hm=>?_⟩
  show(if m=n then w else f m).Perm (L m)
  by_cases l:m=n
  .rw[if_pos l,l];exact p4
  .rw[if_neg l]
   rw[take_snoc C]at hm;exact B m ((List.mem_append.mp hm).elim id λq=>absurd (List.mem_singleton.mp q) l)
 .rintro ρ a ⟨b,c,f,rfl,K,g,t,B⟩
  rw[List.length_map,List.take_length]at t B;exact⟨b,c,f,a,rfl,(J.sub (by simp)).trans (K.sub (by simp)),K.get _ _ I (by simpa using h),g,t,B⟩
theorem lB{i:Nat}(a:ρ[i]?=some (oR e))(h:Ω[e]?=some (.dF dD)):aK (aa i) ρ Ω=.ok (.keys e) Ω:=by
 rw[bg,fM,a,fL,ak,k_ (.inr h),set_same h]
def xB(f:aV):Prop:=∀(a:aD) (h e:Nat) (c:List (Key×D)) (E:dW) (L:Str->List Str) (b:Bool),bP Tr a h E L->bU a e c->aC Tr a c E->eN E L->∃d,f [.ref h,.ref e,.bl b] a=.ok (.bl true) d/\fc a d
theorem Ha{AR u o P Q:aV}(hA:AG AR)(hK:rf u)(hH:AA o)(hN:xa P)(hO:Ak Q):xB (bS 6 3 (Mu AR u o P Q)):=by
 intro Ω h e F E L b H S T G;have j0:=G.len;rw[bx (by rfl)]
 have e0:aZ 6 [D.ref h,.ref e,.bl b]=[oR h,oR e,some (.bl b),none,none,none]:=rfl;rw[e0];have r1:av 3 bE [oR h,oR e,some (.bl b),none,none,none] Ω=.nx [oR h,oR e,some (.bl b),oR Ω.length,none,none] (Ω++[Cell.dK []]):=rfl;have I:ai [] Ω (Ω++[Cell.dK []]):=ai.app;have g1:(Ω++[Cell.dK []])[Ω.length]?=some (.dK []):=aq;have le:=S.lt;have U:=S.keep I (by simp)
 have V:=T.keep I (by simp)
 have H1:=H.keep I;generalize k0:Ω.length=z at *;generalize Ω++[Cell.dK []]=l0 at *;obtain⟨a4,kv,f,m,r2,K2,fe,X,R2,Y⟩:=xA hA (a0:=oR h) (a2:=some (.bl b)) (a4:=none) (a5:=none) U V G g1 (by omega)
 have w:fc Ω m:=⟨Nat.le_trans (by have:=I.len;omega) K2.len,λk c B=>by
  by_cases Z:k=e
  .subst Z
   rcases S with q|q
   .rw[q]at B;cases B;exact .inr ⟨F,rfl,fe⟩
   .rw[q]at B;cases B;exact .inl fe
  .exact .inl (K2.get k c (I.get k c B (by simp)) (by have:=bp B;simp;omega))⟩
 have J:=w.hs H;have b0:=w.rows T;have ks:∀{g a:aD},g[e]?=some (.dF F)->fc g a->er (.keys e) a=some ((nms E).map .str):=λh K=>by rw[hV (K.dr h),T.keys]
 obtain⟨j,m0,g,e3,R3,K3⟩:=n8 (ρ:=[oR h,oR e,some (.bl b),oR z,a4,none]) (Ω:=m) (me:=hcC u 1 [0,2]) (cap:=[0,3]) (f:=hrs E L) (lB (i:=1) rfl fe) (λg K=>ks fe K) (λx hx g K=>by
  obtain⟨k,a,e4,g4,C⟩:=Bo hK (ρ:=[oS x,oR h,oR z]) (i:=1) (cap:=[0,2]) (n:=x) (K.hs J) rfl rfl (K.dct (.inl X)) (K.rows R2) Y (by omega)
  exact⟨k,a,e4,g4,C.kpf⟩) (by simp[nms];omega)
 have r3:av 5 (AH u) [oR h,oR e,some (.bl b),oR z,a4,none] m=.nx [oR h,oR e,some (.bl b),oR z,a4,oR j] g:=by
  rw[br]
  show bK (AH u [oR h,oR e,some (.bl b),oR z,a4,none] m) _=_
  rw[show AH u [oR h,oR e,some (.bl b),oR z,a4,none] m=_ from e3]
  rfl
 have M:=K3.dr fe;have H3:=K3.hs J
 have r4:∃a,cU (JO o) Bl aj [oR h,oR e,some (.bl b),oR z,a4,oR j] g=.nx [oR h,oR e,some (.bl b),oR z,a4,oR j] a/\fc g a:=by
  cases b with
  |false=>exact⟨g,rfl,fc.refl⟩
  |true=>
   obtain⟨k6,n0,a,e4,R4,C⟩:=n8 (ρ:=[oR h,oR e,some (.bl true),oR z,a4,oR j]) (Ω:=g) (me:=aN "House" "heirs" o (aa 1) (ab (aa 0) af)) (cap:=[0]) (f:=hrs E L) (lB (i:=1) rfl M) (λa K=>ks M K) (λx hx a K=>by
    have H4:=K.hs H3;obtain⟨k,l,e5,g5,K5,_⟩:=hH a h E L Tr x H4 hx (by omega)
    refine⟨k,l,?_,g5,K5⟩
    show aN "House" "heirs" o (aa 1) (ab (aa 0) af) [oS x,oR h] a=_
    rw[cN H4 rfl (by decide)]
    show jJ (o [.ref h,.str x] a)=_
    rw[e5];rfl) (by simp[nms];omega)
   refine⟨a,?_,C⟩;have c:=Pn R4 (C.rw R3)
   have et:JO o [oR h,oR e,some (.bl true),oR z,a4,oR j] g=.ok (.bl false) a:=by
    unfold JO;rw[gE]
    show(m2 (ax .NotEq) (Ms o) (aa 5)) [oR h,oR e,some (.bl true),oR z,a4,oR j] g=_
    rw[cV,show Ms o [oR h,oR e,some (.bl true),oR z,a4,oR j] g=_ from e4,ak]
    exact c
   rw[bY,et];rfl
 obtain⟨a,r4,C⟩:=r4;have y:=K3.trans C;have N:=y.dr fe;have c0:=lB (ρ:=[oR h,oR e,some (.bl b),oR z,a4,oR j]) (i:=1) rfl N;unfold Mu;rw[ah,r1,aA,ah,r2,aA,ah,r3,aA,ah,r4,aA,ah,cq,c0,bt];refine bA (R:=λr=>∃O,gp (sq r _)=.ok (.bl true) O/\fc Ω O) (ds:=(nms E).map .str) (λi ρ l=>∃a4,ρ=[oR h,oR e,some (.bl b),oR z,a4,oR j]/\fc a l) ?_ ?_ ?_ fuel 0 _ _ (by unfold fuel;simp[nms];omega) (Nat.zero_le _) ⟨a4,rfl,fc.refl⟩
 .rintro i ρ l ⟨_,_,K⟩
  exact ks N K
 .rintro i d ρ l f0 ⟨a4,rfl,K⟩
  obtain⟨n,hn,rfl⟩:=ew f0;have p:n∈nms E:=List.mem_of_getElem? hn;refine⟨[oR h,oR e,some (.bl b),oR z,oS n,oR j],rfl,?_⟩;have s:=y.trans K;have hs:=G.short p;obtain⟨g0,e6,K6⟩:=DJ hN (a1:=oR e) (a2:=some (.bl b)) (a5:=oR j) (s.hs J) (s.dct (.inl X)) (s.rows R2) Y p hs;have t:=s.trans K6.kpf;obtain⟨h0,e7,K7⟩:=DK hH hK (a1:=oR e) (a2:=some (.bl b)) (a5:=oR j) (t.hs J) (t.dct (.inl X)) (t.rows R2) Y p (by omega)
  have A:=t.trans K7;obtain⟨i0,e8,K8⟩:=DL hO hN (a2:=some (.bl b)) (a3:=oR z) (a5:=oR j) (A.hs J) (.inr (A.dr fe)) (A.rows b0) G p
  have:Mt u o P Q [oR h,oR e,some (.bl b),oR z,oS n,oR j] l=.nx [oR h,oR e,some (.bl b),oR z,oS n,oR j] i0:=by
   unfold Mt;rw[ah,bY,e6]
   show sq (fu.nx [oR h,oR e,some (.bl b),oR z,oS n,oR j] g0) _=_
   rw[aA,ah,bY,e7]
   show sq (fu.nx [oR h,oR e,some (.bl b),oR z,oS n,oR j] h0) _=_
   rw[aA,ah,bY,e8];rfl
  rw[this];exact⟨_,rfl,((K.trans K6.kpf).trans K7).trans K8⟩
 .rintro ρ l ⟨a4,rfl,K⟩
  exact⟨l,rfl,w.trans (y.trans K)⟩
end
section
variable{Ω ao aG:aD}{ρ:aR}{F C:List D->Out Rs}{μ:Int->Int->Int->Int}{κ:List Int->Nat->Int}{c:Int}{ns:List Int}{xs r:List Str}{h e l x q j k i:Nat}{E:dW}{L R:Str->List Str}{n:Str}{kv dD xI:List (Key×D)}
def JP(C:List D->Out Rs):EM:=(m2 az (mN aT (ab (ae (.int 4)) (ab (ae (.int 5)) (ab (ae (.int 6)) (ab (ae (.int 7)) (ab (ae (.int 4)) (ab (ae (.int 5)) (ab (ae (.int 6)) (ab (ae (.int 7)) (ab (ae (.int 1)) (ab (ae (.int 2)) (ab (ae (.int 3)) (ab (ae (.int 7)) af))))))))))))) (m2 (aM .Mod) (mN (bD C) (ab (aa 0) (ab (ae (.int 0)) af))) (ae (.int 12))))
theorem DM(b:hF κ C)(h:ρ[0]?=some (some (SC ns))):∃(m:Nat) (ao:aD),1<=m/\m<=12/\JP C ρ Ω=.ok (.int m) ao/\ai [] Ω ao:=by
 have i:C [SC ns,.int 0]=.ok (false,.int (κ ns 0)):=b ns 0
 have k:(mN aT (ab (ae (.int 4)) (ab (ae (.int 5)) (ab (ae (.int 6)) (ab (ae (.int 7)) (ab (ae (.int 4)) (ab (ae (.int 5)) (ab (ae (.int 6)) (ab (ae (.int 7)) (ab (ae (.int 1)) (ab (ae (.int 2)) (ab (ae (.int 3)) (ab (ae (.int 7)) af))))))))))))) ρ Ω=.ok (.ref Ω.length) (Ω++[.lst ([4,5,6,7,4,5,6,7,1,2,3,7].map .int)]):=by
  show aT ([4,5,6,7,4,5,6,7,1,2,3,7].map .int) Ω=_
  rw[cT,if_pos (aF (by simp))]
 have l:(Ω++[Cell.lst ([4,5,6,7,4,5,6,7,1,2,3,7].map .int)])[Ω.length]?=some (.lst ([4,5,6,7,4,5,6,7,1,2,3,7].map .int)):=aq;have n:ai [] Ω (Ω++[Cell.lst ([4,5,6,7,4,5,6,7,1,2,3,7].map .int)]):=ai.app;generalize Ω++[Cell.lst ([4,5,6,7,4,5,6,7,1,2,3,7].map .int)]=a at *;have g:(m2 (aM .Mod) (mN (bD C) (ab (aa 0) (ab (ae (.int 0)) af))) (ae (.int 12))) ρ a=.ok (.int (κ ns 0%12)) a:=by simp[h,i]
 obtain⟨s,c⟩:∃s:Nat,κ ns 0%12=s:=⟨(κ ns 0%12).toNat,by omega⟩
 have d:s<12:=by omega
 rw[c]at g
 have e:∀s<12,∃m:Nat,1<=m/\m<=12/\([4,5,6,7,4,5,6,7,1,2,3,7]:List Int)[s]?=some (m:Int):=by
  intro s c
  match s,c with
  |0,_=>exact⟨4,by omega,by omega,rfl⟩
  |1,_=>exact⟨5,by omega,by omega,rfl⟩
  |2,_=>exact⟨6,by omega,by omega,rfl⟩
  |3,_=>exact⟨7,by omega,by omega,rfl⟩
  |4,_=>exact⟨4,by omega,by omega,rfl⟩
  |5,_=>exact⟨5,by omega,by omega,rfl⟩
  |6,_=>exact⟨6,by omega,by omega,rfl⟩
  |7,_=>exact⟨7,by omega,by omega,rfl⟩
  |8,_=>exact⟨1,by omega,by omega,rfl⟩
  |9,_=>exact⟨2,by omega,by omega,rfl⟩
  |10,_=>exact⟨3,by omega,by omega,rfl⟩
  |11,_=>exact⟨7,by omega,by omega,rfl⟩
 obtain⟨m,m1,f,o⟩:=e s d;refine⟨m,a,m1,f,?_,n⟩;unfold JP;rw[cV,k,ak,g,ak];exact cE l (L2.cQ (j:=s) (by rw[List.getElem?_map,o];rfl))
def JQ(a b:aV):EM:=(mN (aS a) (ab (aa 2) (ab (mN (aS b) (ab (aa 0) (ab (ae (.int 2)) (ab (aa 2) (ab (ae (.int 4)) af))))) af)))
theorem Hb(c:hF κ C){o p b:aV}(t:Ax o)(u:As p)(w:Ay b){m:Nat}(y:1<=m)(d:m<=12){a2:Option D}{τ:aR} :
  ∃x e l xs E L aG a,JK C o (some (SC ns)::oI m::a2::τ) Ω=.ok (.ref x) aG/\JQ p b (some (SC ns)::oI m::oR x::τ) aG=.ok (.tup [.ref e,.ref l]) a/\Hand a x e l xs E L/\xs.length=m:=by
 have z:C [SC ns,.int 1]=.ok (false,.int (κ ns 1)):=c ns 1;obtain⟨xs,x,aG,q,A,B,F,f,K1⟩:=t Ω (κ ns 1) m y d;obtain⟨k,H,I,a,J,R,K,M,s⟩:=w aG ns 2 x 4 xs f q (by omega)
 obtain⟨E,L,e,l,g,j,n,N,O,P,G,Q,S,T,U,V⟩:=u a x k H xs I (s.get _ _ f (by simp)) R K q (by omega) (λi r h=>by
  obtain⟨X,q2,Y⟩:=M i r h;exact⟨X,by omega,Y⟩)
 refine⟨x,e,l,xs,E,L,aG,n,?_,?_,⟨(s.trans O).get _ _ f (by simp),by omega,A,P,G,⟨g,.inl Q,S⟩,⟨j,.inl T,U⟩,V⟩,B⟩
 .simp[JK,z,F]
 .have Z:(mN (aS b) (ab (aa 0) (ab (ae (.int 2)) (ab (aa 2) (ab (ae (.int 4)) af))))) (some (SC ns)::oI m::oR x::τ) aG=.ok (.ref k) a:=by
   show jJ (b [SC ns,.int 2,.ref x,.int 4] aG)=_
   rw[show b [SC ns,.int 2,.ref x,.int 4] aG=_ from J]
   rfl
  have v2:aa 2 (some (SC ns)::oI m::oR x::τ) aG=.ok (.ref x) aG:=rfl;unfold JQ;rw[cM,aO,v2,ak,aO,Z,ak,aU,ak,ak,ak,eM,N,hU]
def Pr(F:List D->Out Rs):EM:=(aW (m2 az (aa 2) (aa 0)) false (m2 (ax .Eq) (mN (bD F) (ab (aa 1) (ab (m2 (aM .Add) (ae (.int 1)) (aa 0)) (ab (ae (.int 2)) af)))) (ae (.int 1))) (b_ (ab (mN (aP .len) (ab (aa 9) af)) af)) 0 [7,9])
theorem DN(b:gQ μ F){a0 a1 a2 a3 a4 a5 a6 a8 a10:Option D}(m:Ω[j]?=some (.lst (r.map .str)))(t:r.length<=5):∃n:List Str,n.Sublist r/\Pr F [a0,a1,a2,a3,a4,a5,a6,oI c,a8,oR j,a10] Ω=.ok (.ref Ω.length) (Ω++[.lst (n.map .str)]):=by
 have a:=fO m;rw[List.length_map]at a
 have f:b_ (ab (mN (aP .len) (ab (aa 9) af)) af) [a0,a1,a2,a3,a4,a5,a6,oI c,a8,oR j,a10] Ω=.ok (.ints 0 r.length) Ω:=by
  have:(mN (aP .len) (ab (aa 9) af)) [a0,a1,a2,a3,a4,a5,a6,oI c,a8,oR j,a10] Ω=.ok (.int r.length) Ω:=a;rw[iF,aO,this,ak,aU,ak,ak,jR,if_pos (ec (by omega) (by omega)),Int.toNat_natCast]
 have o:=cF (Ω:=Ω) (ao:=Ω) (ρ:=[a0,a1,a2,a3,a4,a5,a6,oI c,a8,oR j,a10]) (me:=m2 az (aa 2) (aa 0)) (nc:=false) (mc:=m2 (ax .Eq) (mN (bD F) (ab (aa 1) (ab (m2 (aM .Add) (ae (.int 1)) (aa 0)) (ab (ae (.int 2)) af)))) (ae (.int 1))) (cap:=[7,9]) (src:=.ints 0 r.length) (ds:=intsFrom 0 r.length) (p:=λd=>match d with|.int j=>(μ c (1+j) 2==1)|_=>false)
  (g:=λd=>match d with|.int j=>.str (r.getD j.toNat "")|_=>.non) f rfl (λd h=>by
   obtain⟨k,i⟩:=List.mem_iff_getElem?.mp h;obtain⟨rfl,l⟩:=dQ i;obtain⟨u,w,q⟩:=b c (1+(0+(k:Int))) 2 (by omega) (by omega) (by omega)
   generalize (0:Int)+(k:Int)=s at *
   show cx ((m2 (ax .Eq) (mN (bD F) (ab (aa 1) (ab (m2 (aM .Add) (ae (.int 1)) (aa 0)) (ab (ae (.int 2)) af)))) (ae (.int 1))) [oI s,oI c,oR j] Ω)=_
   simp[q]) (λd h _=>by
   obtain⟨k,i⟩:=List.mem_iff_getElem?.mp h;obtain⟨rfl,l⟩:=dQ i;rw[Int.zero_add]
   show az (.ref j) (.int k) Ω=.ok (.str (r.getD (k:Int).toNat "")) Ω
   refine cE m (L2.cQ ?_);simp[show k<r.length by omega]) (by rw[cR];omega)
 have e:(((intsFrom 0 r.length).filter λd=>match d with|.int j=>(μ c (1+j) 2==1)|_=>false).map λd=>match d with|.int j=>D.str (r.getD j.toNat "")|_=>.non)=(((List.range r.length).filter λj:Nat=>(μ c (1+j) 2==1)).map λj=>r.getD j "").map .str:=by
  rw[gC,List.filter_map,List.map_map,List.map_map];rfl
 rw[e]at o;refine⟨_,?_,o⟩;have:=ly (xs:=r) (Nat.le_refl _);rw[List.take_length]at this
 conv=>rhs;rw[←this]
 exact(List.filter_sublist).map _
theorem eN.part(G:eN E L)(l:n∈nms E)(b:r.Sublist (bj E n)):GW (bo (nms E) λm=>if m=n then r else bj E m) where
 nd:=by rw[bV];exact G.nd
 el:=λi p c=>by
  rw[bV];unfold bo at c;rw[List.getElem?_map]at c;obtain⟨m,j,rfl⟩:=Option.map_eq_some_iff.mp c;obtain⟨d,e⟩:=eE j;have a:bj E m=d:=lr G.nd e;obtain⟨f,g,h⟩:=G.el i _ e
  show(if m=n then r else bj E m).Nodup/\(if m=n then r else bj E m).length<=5/\∀x∈(if m=n then r else bj E m),x∈(nms E).take i
  by_cases z:m=n
  .rw[if_pos z]
   rw[←z,a]at b;exact⟨b.nodup f,Nat.le_trans b.length_le g,λx k=>h x (b.subset k)⟩
  .rw[if_neg z,a]
   exact⟨f,g,h⟩
 len:=by
  have:=G.len;simpa[bo,nms]using this
theorem DO(b:Ω[q]?=some (.dK kv)){a c:List Str}(W:i_ a Ω kv c):xH .non (.ref q) Ω=.ok (.bl (!(kv.any λp=>iV p.2))) Ω:=by
 unfold xH;rw[if_pos (show iV .non=true from rfl),wR (.inl b)]
 have:kv.all (λp=>iV p.2||(de Ω p.2).isSome)=true:=by
  rw[List.all_eq_true];intro p d;obtain⟨i,e⟩:=List.mem_iff_getElem?.mp d;obtain⟨m,_,_,f⟩:=aI.get (R:=λ(p:Key×D) (n:Str)=>p.1=.inr n/\Wv a Ω p.2) W e
  rcases f with z|⟨j,g,z,h,_⟩
  .rw[z];rfl
  .rw[z,aB h];simp
 simp only[this,if_true]
end
section
variable{Ω ao aG:aD}{ρ:aR}{F C:List D->Out Rs}{μ:Int->Int->Int->Int}{κ:List Int->Nat->Int}{c:Int}{ns:List Int}{xs r:List Str}{h e l x q j k i m:Nat}{E:dW}{L R:Str->List Str}{n:Str}{kv dD xI:List (Key×D)}
theorem xC(K:ai [q] Ω aG)(h:bU Ω q kv)(f:aG[q]?=some (.dF kv)):fc Ω aG:=⟨K.len,λk c a=>by
 by_cases z:k=q
 .subst z
  rcases h with h|h
  .rw[h]at a;cases a;exact .inr ⟨kv,rfl,f⟩
  .rw[h]at a;cases a;exact .inl f
 .exact .inl (K.get k c a (by simpa using z))⟩
structure uG(Ω:aD)(x e h:Nat)(xs:List Str)(E:dW)(L:Str->List Str):Prop where
 nx:Ω[x]?=some (.lst (xs.map .str))
 eq:nms E=xs
 xl:eN E L
 el:∃dD,bU Ω e dD/\aC Tr Ω dD E
 hs:bP Tr Ω h E L
theorem uG.kpf(B:uG Ω x e h xs E L)(K:fc Ω ao):uG ao x e h xs E L:=
 ⟨K.lst B.nx,B.eq,B.xl,let ⟨c,a,b⟩:=B.el;⟨c,K.dct a,K.rows b⟩,K.hs B.hs⟩
abbrev LV(ns:List Int)(m x e l h:Nat)(a6 a7 a8 a9 a10:Option D):aR:=[some (SC ns),oI m,oR x,oR e,oR l,oR h,a6,a7,a8,a9,a10]
def JR(a:aV):EM:=(m2 xH (ae .non) (mN (aS a) (ab (aa 10) af)))
def JS:EM:=(mN aT (ab (mN gI (ab (aa 8) (ab (mN (aP .list) (ab (m2 az (aa 10) (aa 8)) af)) af))) af))
def JT(TA:aV):SM:=(ag (bH (aN "House" "turn_all" TA (aa 5) (ab JS af))) (ag (av 3 (aa 10)) aj))
theorem DP{d:aV}(k:xv d){a6 a7 a8 a9:Option D}(g:bU Ω q kv)(n:aC Tr Ω kv E)(F:GW E)(f:1<=E.length) :
  ∃b ao,JR d (LV ns m x e l h a6 a7 a8 a9 (oR q)) Ω=.ok (.bl b) ao/\(b=true->∃L,eN E L)/\fc Ω ao/\ao[q]?=some (.dF kv):=by
 obtain⟨o,a,c,r,s,t,i,u,w⟩:=k Ω q kv E g n F f
 have y:(mN (aS d) (ab (aa 10) af)) (LV ns m x e l h a6 a7 a8 a9 (oR q)) Ω=.ok (.ref o) c:=by
  show jJ (d [.ref q] Ω)=_
  rw[r];rfl
 refine⟨!(a.any λp=>iV p.2),c,?_,λj=>?_,xC t g i,i⟩
 .unfold JR
  rw[cV,gD,ak,y,ak];exact DO s u
 .have A:∀p∈a,p.2≠.non:=λp f z=>by
   have:(a.any λp=>iV p.2)=true:=List.any_eq_true.mpr ⟨p,f,by rw[z];rfl⟩
   rw[this]at j;cases j
  obtain⟨L,G,_⟩:=w A;exact⟨L,G⟩
theorem DQ{TA:aV}(P:xn TA){a6 a7 a9:Option D}{r:Str->List Str}(B:uG Ω x e h xs E L)(k:n∈nms E)(I:Ω[q]?=some (.dF kv))(Q:∀y∈nms E,y≠n->R y=bj E y)(J:aC Tr Ω kv (bo (nms E) R))(G:eN (bo (nms E) R) r) :
  ∃ao,JT TA (LV ns m x e l h a6 a7 (oS n) a9 (oR q)) Ω=.nx (LV ns m x q l h a6 a7 (oS n) a9 (oR q)) ao/\uG ao x q h xs (bo (nms E) R) r:=by
 obtain⟨j,S,_,o⟩:=J.at (n:=n) (by rw[bV];exact k)
 rw[ed k]at o;have U:(m2 az (aa 10) (aa 8)) (LV ns m x e l h a6 a7 (oS n) a9 (oR q)) Ω=.ok (.ref j) Ω:=dU (.inr I) S;have V:=cX o
 have X:(mN (aP .list) (ab (m2 az (aa 10) (aa 8)) af)) (LV ns m x e l h a6 a7 (oS n) a9 (oR q)) Ω=.ok (.ref Ω.length) (Ω++[.lst ((R n).map .str)]):=by
  rw[cM,aO,U,ak,aU,ak,ak,V]
 have Y:ai [] Ω (Ω++[Cell.lst ((R n).map .str)]):=ai.app;have Z:(Ω++[Cell.lst ((R n).map .str)])[Ω.length]?=some (.lst ((R n).map .str)):=aq;generalize Ω.length=b at *;generalize Ω++[Cell.lst ((R n).map .str)]=a at *
 have c2:JS (LV ns m x e l h a6 a7 (oS n) a9 (oR q)) Ω=.ok (.ref a.length) (a++[.lst [.tup [.str n,.ref b]]]):=by
  have v8:aa 8 (LV ns m x e l h a6 a7 (oS n) a9 (oR q)) Ω=.ok (.str n) Ω:=rfl;unfold JS;rw[cM,aO,cM,aO,v8,ak,aO,X,ak,aU,ak,ak,ak,iE,if_pos (aF (by simp)),ak,aU,ak,ak,cT,if_pos (aF (by simp))]
 have K:ai [] a (a++[Cell.lst [.tup [.str n,.ref b]]]):=ai.app;have g2:(a++[Cell.lst [.tup [.str n,.ref b]]])[a.length]?=some (.lst ([(n,b)].map El)):=aq;have s:=K.get _ _ Z (by simp)
 have c:=Y.trans K;generalize a.length=t at *;generalize a++[Cell.lst [.tup [.str n,.ref b]]]=d at *;have f:=B.kpf c.kpf;obtain⟨i,hi⟩:=List.mem_iff_getElem?.mp k;have u:(bo (nms E) R)[i]?=some (n,R n):=by unfold bo;rw[List.getElem?_map,hi];rfl
 obtain⟨w1,w2,w3⟩:=G.el i _ u
 have T:Em d t [(n,b)] E R:=⟨g2,by simp,by simp,λp hp=>by
  rw[List.mem_singleton.mp hp]
  exact⟨s,k,w1,w2,λx hx=>by
   have:=w3 x hx;rw[bV]at this;exact List.mem_of_mem_take this⟩⟩
 have M:=B.xl.len
 obtain⟨g,e3,H3,w⟩:=P d h t [(n,b)] E L r R Tr f.hs T B.xl.nd (by omega) (λy A C=>Q y A λz=>C (by simp[z])) G.gd G.LP (λy A=>by
  have:=G.short (n:=y) (by rw[bV];exact A)
  omega) (λ_ _=>trivial)
 have F:=c.get _ _ I (by simp)
 have r2:=J.keep c (by simp)
 have N:∀{O},d[h]?≠some (.lst O):=f.hs.nl
 have H:q≠h:=λz=>by
  obtain⟨_,_,_,_,hh,_⟩:=f.hs;rw[z,hh]at F;cases F
 refine⟨g,?_,⟨w.get _ _ f.nx (by simp;exact λz=>N (z▸f.nx)),by rw[bV];exact B.eq,G,⟨kv,.inr (w.get _ _ F (by simpa using H)),r2.cm w (λj o O=>by rw[List.mem_singleton.mp o];exact N)⟩,H3⟩⟩
 unfold JT
 have m3:aN "House" "turn_all" TA (aa 5) (ab JS af) (LV ns m x e l h a6 a7 (oS n) a9 (oR q)) Ω=.ok .non g:=by
  rw[cN B.hs rfl (by decide),aO,c2,ak,aU,ak,ak,e3,hU]
 rw[ah,bT,m3];rfl
def Mv(C:List D->Out Rs):EM:=(mN (bD C) (ab (aa 0) (ab (m2 (aM .Add) (ae (.int 20)) (aa 6)) af)))
def Mw(F:List D->Out Rs):EM:=(m2 az (aa 2) (mN (bD F) (ab (aa 7) (ab (ae (.int 0)) (ab (aa 1) af)))))
def JU(a:aV)(me:EM):EM:=(gJ (mN (aS a) (ab (aa 5) (ab (aa 3) (ab me af)))))
def lvE(F:List D->Out Rs):EM:=(m2 (ax .Eq) (mN (bD F) (ab (aa 7) (ab (ae (.int 11)) (ab (ae (.int 2)) af)))) (ae (.int 1)))
def DR(C:List D->Out Rs):EM:=(m2 (ax .Eq) (m2 (aM .Mod) (mN (bD C) (ab (aa 0) (ab (ae (.int 0)) af))) (ae (.int 2))) (ae (.int 0)))
def Mx(C F:List D->Out Rs)(a TA b:aV):SM:=
 (ag (av 7 (Mv C))
 (ag (av 8 (Mw F))
 (ag (av 9 (m2 az (aa 3) (aa 8)))
 (ag (av 10 (mN eW (ab (aa 3) af)))
 (ag (cz (aa 10) (aa 8) (Pr F))
 (ag (cU (JR a) (JT TA) aj)
 (ag (cU (JU b (lvE F)) Bl aj)
 aj)))))))
theorem xD{d:aV}(f:xB d){me:EM}{b:Bool}{a6 a7 a8 a9 a10:Option D}(g:me (LV ns m x e l h a6 a7 a8 a9 a10) Ω=.ok (.bl b) Ω)(B:uG Ω x e h xs E L) :
  ∃ao,cU (JU d me) Bl aj (LV ns m x e l h a6 a7 a8 a9 a10) Ω=.nx (LV ns m x e l h a6 a7 a8 a9 a10) ao/\uG ao x e h xs E L:=by
 obtain⟨a,i,j⟩:=B.el;obtain⟨c,k,n⟩:=f Ω h e a E L b B.hs i j B.xl;refine⟨c,?_,B.kpf n⟩;have o:aa 5 (LV ns m x e l h a6 a7 a8 a9 a10) Ω=.ok (.ref h) Ω:=rfl;have p:aa 3 (LV ns m x e l h a6 a7 a8 a9 a10) Ω=.ok (.ref e) Ω:=rfl;unfold JU;rw[bY,zN,cM,aO,o,ak,aO,p,ak,aO,g,ak,aU,ak,ak,ak,ak,eM,k];rfl
theorem DS(s:gQ μ F)(N:hF κ C){O TA RG:aV}(hD:xv O)(hT:xn TA)(hG:xB RG){a7 a8 a9 a10:Option D}(hm:xs.length=m)(h1:1<=m)(B:uG Ω x e h xs E L) :
  ∃g H t b7 b8 b9 P ao,Mx C F O TA RG (LV ns m x e l h (oI i) a7 a8 a9 a10) Ω=.nx (LV ns m x g l h (oI i) b7 b8 b9 P) ao/\uG ao x g h xs H t:=by
 have I:=B.xl.len;have l0:xs.length<=12:=by rw[←B.eq];simpa[nms]using I
 have kc:C [SC ns,.int (20+(i:Int))]=.ok (false,.int (κ ns (20+i))):=by
  have:=N ns (20+i);rw[Int.natCast_add]at this;exact this
 have s7:av 7 (Mv C) (LV ns m x e l h (oI i) a7 a8 a9 a10) Ω=.nx (LV ns m x e l h (oI i) (oI (κ ns (20+i))) a8 a9 a10) Ω:=by simp[Mv,kc]
 generalize κ ns (20+i)=c at *;obtain⟨t0,t1,ht⟩:=s c 0 m (by omega) (by omega) (by omega)
 obtain⟨w,hw⟩:∃w:Nat,μ c 0 m=w:=⟨(μ c 0 m).toNat,by omega⟩
 rw[hw]at ht t1;have Q:w<xs.length:=by omega
 have u:xs[w]?=some xs[w]:=List.getElem?_eq_getElem Q;generalize xs[w]=n at u;have o:n∈nms E:=by rw[B.eq];exact List.mem_of_getElem? u
 have S:az (.ref x) (.int w) Ω=.ok (.str n) Ω:=cE B.nx (L2.cQ (j:=w) (by simp[u]))
 have s8:av 8 (Mw F) (LV ns m x e l h (oI i) (oI c) a8 a9 a10) Ω=.nx (LV ns m x e l h (oI i) (oI c) (oS n) a9 a10) Ω:=by simp[Mw,ht,S]
 obtain⟨a,T,U⟩:=B.el;obtain⟨j,hv,_,V⟩:=U.at o;have X:=dU (n:=n) T hv;have s9:av 9 (m2 az (aa 3) (aa 8)) (LV ns m x e l h (oI i) (oI c) (oS n) a9 a10) Ω=.nx (LV ns m x e l h (oI i) (oI c) (oS n) (oR j) a10) Ω:=by simp[X]
 have Y:=wU T;have Z:av 10 (mN eW (ab (aa 3) af)) (LV ns m x e l h (oI i) (oI c) (oS n) (oR j) a10) Ω=.nx (LV ns m x e l h (oI i) (oI c) (oS n) (oR j) (oR Ω.length)) (Ω++[.dK a]):=by simp[Y]
 have K1:ai [] Ω (Ω++[Cell.dK a]):=ai.app;have g1:(Ω++[Cell.dK a])[Ω.length]?=some (.dK a):=aq;have le:=T.lt;have lh:=B.hs.hlt;have lx:=bp B.nx;generalize m0:Ω.length=q at *;generalize Ω++[Cell.dK a]=f at *
 have rl:(bj E n).length<=5:=by
  obtain⟨k,hk⟩:=B.xl.xg o;exact(B.xl.el k _ hk).2.1
 obtain⟨G,b0,ep⟩:=DN s (c:=c) (a0:=some (SC ns)) (a1:=oI m) (a2:=oR x) (a3:=oR e) (a4:=oR l) (a5:=oR h) (a6:=oI i) (a8:=oS n) (a10:=oR q) (K1.get _ _ V (by simp)) rl
 have K2:ai [] f (f++[Cell.lst (G.map .str)]):=ai.app;have g2:(f++[Cell.lst (G.map .str)])[f.length]?=some (.lst (G.map .str)):=aq;generalize f.length=z at *;generalize f++[Cell.lst (G.map .str)]=p at *;have A:=K2.get _ _ g1 (by simp)
 have c0:a.length<=1000:=by have:=U.len;omega
 have e0:=lu (ρ:=LV ns m x e l h (oI i) (oI c) (oS n) (oR j) (oR q)) (md:=aa 10) (mk:=aa 8) (n:=n) ep rfl rfl A c0;have R2:aC Tr p a (bo (nms E) (bj E)):=by rw[pQ B.xl.nd];exact(U.keep K1 (by simp)).keep K2 (by simp)
 have M:=R2.upd o (j:=z) (r:=G) trivial g2;have K3:ai [q] p (p.set q (.dK (cZ a (.inr n) (.ref z)))):=ai.set (by simp)
 have M:=M.cm K3 (λj V ds=>by rw[List.mem_singleton.mp V,A];simp)
 have f0:=aQ (e:=.dK (cZ a (.inr n) (.ref z))) A;have g0:ai [] Ω (p.set q (.dK (cZ a (.inr n) (.ref z)))):=ai.new (K1.trans K2) K3 (by simp;omega)
 generalize p.set q (.dK (cZ a (.inr n) (.ref z)))=h0 at *;have B3:=B.kpf g0.kpf;have FF:=B.xl.part o b0;obtain⟨b,i0,e4,hb,K4,f4⟩:=DP hD (ns:=ns) (m:=m) (x:=x) (e:=e) (l:=l) (h:=h) (a6:=oI i) (a7:=oI c) (a8:=oS n) (a9:=oR j) (.inl f0) M FF (by simp only[bo,List.length_map];rw[B.eq];omega)
 have B4:=B3.kpf K4;obtain⟨v0,v1,J⟩:=s c 11 2 (by omega) (by omega) (by omega)
 have K:∀(g:Nat) (d:aD),lvE F (LV ns m x g l h (oI i) (oI c) (oS n) (oR j) (oR q)) d=.ok (.bl (μ c 11 2==1)) d:=λg d=>by simp[lvE,J]
 have j0:∃g H t d,cU (JR O) (JT TA) aj (LV ns m x e l h (oI i) (oI c) (oS n) (oR j) (oR q)) h0=.nx (LV ns m x g l h (oI i) (oI c) (oS n) (oR j) (oR q)) d/\uG d x g h xs H t:=by
  cases b with
  |false=>
   refine⟨e,E,L,i0,?_,B4⟩;rw[bY,e4];rfl
  |true=>
   obtain⟨t,G'⟩:=hb rfl;obtain⟨d,e5,B5⟩:=DQ hT (ns:=ns) (m:=m) (l:=l) (a6:=oI i) (a7:=oI c) (a9:=oR j) (R:=λy=>if y=n then G else bj E y) B4 o f4 (λy _ hy=>if_neg hy) (K4.rows M) G'
   refine⟨q,_,t,d,?_,B5⟩;rw[bY,e4];exact e5
 obtain⟨g,H,t,d,r5,B5⟩:=j0;obtain⟨k0,r6,B6⟩:=xD hG (ns:=ns) (m:=m) (l:=l) (K g d) B5;refine⟨g,H,t,oI c,oS n,oR j,oR q,k0,?_,B6⟩;unfold Mx;rw[ah,s7,aA,ah,s8,aA,ah,s9,aA,ah,Z,aA,ah,e0,aA,ah,r5,aA,ah,r6];rfl
def DT(C F:List D->Out Rs)(b c d e f TA a:aV):SM:=
 (ag (av 1 (JP C))
 (ag (av 2 (JK C b))
 (ag (qQ [3,4] (JQ c d))
 (ag (av 5 (mN (aS e) (ab (aa 3) af)))
 (ag (cU (JU a (DR C)) Bl aj)
 (ag (cj (bX 6) (b_ (ab (ae (.int 4)) af)) (Mx C F f TA a))
 (ag (bh (ae (.bl true)))
 aj)))))))
theorem xE(o:gQ μ F)(a:hF κ C){p q s t D TA G:aV}(J:Ax p)(K:As q)(M:Ay s)(N:Au t)(O:xv D)(P:xn TA)(H:xB G)(ns:List Int):∃ao,bS 11 1 (DT C F p q s t D TA G) [SC ns] []=.ok (.bl true) ao:=by
 rw[bx (by rfl)]
 have Q:aZ 11 [SC ns]=[some (SC ns),none,none,none,none,none,none,none,none,none,none]:=rfl;rw[Q];obtain⟨m,f,m1,u,S,K0⟩:=DM (ρ:=[some (SC ns),none,none,none,none,none,none,none,none,none,none]) (Ω:=[]) a rfl;have T:av 1 (JP C) [some (SC ns),none,none,none,none,none,none,none,none,none,none] []=.nx [some (SC ns),oI m,none,none,none,none,none,none,none,none,none] f:=by rw[br,S];rfl
 obtain⟨x,e,l,I,E,L,g,j,U,V,X,w⟩:=Hb (Ω:=f) (ns:=ns) a J K M m1 u (a2:=none) (τ:=[none,none,none,none,none,none,none,none]);have Y:av 2 (JK C p) [some (SC ns),oI m,none,none,none,none,none,none,none,none,none] f=.nx [some (SC ns),oI m,oR x,none,none,none,none,none,none,none,none] g:=by rw[br,U];rfl
 have Z:qQ [3,4] (JQ q s) [some (SC ns),oI m,oR x,none,none,none,none,none,none,none,none] g=.nx [some (SC ns),oI m,oR x,oR e,oR l,none,none,none,none,none,none] j:=by
  unfold qQ;rw[V];rfl
 obtain⟨h,b,e3,T3,n,_⟩:=xm N X;have r4:av 5 (mN (aS t) (ab (aa 3) af)) [some (SC ns),oI m,oR x,oR e,oR l,none,none,none,none,none,none] j=.nx (LV ns m x e l h none none none none none) b:=by simp[e3]
 have B3:uG b x e h I E L:=⟨n.nx,n.eq,n.xl,n.el,T3⟩;have k0:C [SC ns,.int 0]=.ok (false,.int (κ ns 0)):=a ns 0;have y:DR C (LV ns m x e l h none none none none none) b=.ok (.bl (κ ns 0%2==0)) b:=by simp[DR,k0]
 obtain⟨k,r5,B4⟩:=xD H y B3;have z:b_ (ab (ae (.int 4)) af) (LV ns m x e l h none none none none none) k=.ok (.ints 0 4) k:=rfl;unfold DT;rw[ah,T,aA,ah,Y,aA,ah,Z,aA,ah,r4,aA,ah,r5,aA,ah,cq,z,bt];refine bA (R:=λr=>∃ao,gp (sq r _)=.ok (.bl true) ao) (ds:=intsFrom 0 4) (λi ρ c=>∃e E L A a7 a8 a9 a10,ρ=LV ns m x e l h A a7 a8 a9 a10/\uG c x e h I E L) (λ_ _ _ _=>rfl) ?_ ?_ fuel 0 _ _ (by rw[cR];unfold fuel;omega) (Nat.zero_le _) ⟨e,E,L,none,none,none,none,none,rfl,B4⟩
 .rintro i d ρ c hd ⟨e,E,L,A,a7,a8,a9,a10,rfl,B⟩
  obtain⟨rfl,hi⟩:=dQ hd;refine⟨LV ns m x e l h (some (.int (0+(i:Int)))) a7 a8 a9 a10,rfl,?_⟩;rw[Int.zero_add];obtain⟨e',E',L',b7,b8,b9,a0,b0,e6,B6⟩:=DS o a O P H (ns:=ns) (l:=l) (i:=i) (a7:=a7) (a8:=a8) (a9:=a9) (a10:=a10) w m1 B;rw[e6];exact⟨_,_,_,_,_,_,_,_,rfl,B6⟩
 .rintro ρ c ⟨e,E,L,A,a7,a8,a9,a10,rfl,B⟩
  exact⟨c,rfl⟩
end
end Mir
namespace DU
open PySem PySem.Spec PyProof.Rows L2 Mir
noncomputable def top(i:Nat):Stmt:=PySem.Challenge.pw_taglook_k22_whole_what_elders_lead_to.main.body.getD i (.Pass ⟨0,0,0,0⟩)
instance clos:aH:=⟨λ_=>⟨"","",bI (top 0),[],aw (top 0),[],[]⟩,λ_=>0⟩
noncomputable def td:List Str:=[]
def My:bb:=((((((({}:bb).lQ "MOST_ELDERS" (.int 5)).lQ "MOST_KINDS" (.int 12)).lQ "MOST_LETTERS" (.int 8)).lQ "LETTERS" (.str "abcdefghijklmnopqrstuvwxyz")).uv "elders" ["House"]).uv "lines" ["House"])
noncomputable def Pt:List Str:=["_law_script","_law_k"]
noncomputable def Pu:List Str:=["_law_script","_law_k"]
def Pw:SM:=
 (ag (cU (m2 (ax .Lt) (aa 1) (mN (aP .len) (ab (aa 0) af)))
 (ag (bh (m2 az (aa 0) (aa 1)))
 aj)
 aj)
 (ag (bh (ae (.int 0)))
 aj))
def QP:aV:=bS 2 2 Pw
def F0:List Mir.D->Out Rs:=pureOf QP
def Mz:bb:=My.uu "_law_cell" F0
theorem QQ:bW Pt Pu (aw (top 33))=true:=by decide +kernel
theorem QR:ck My td (top 33) Pt=some Pw:=rfl
noncomputable def Px:List Str:=["_law_cell_here","_law_turn","_law_many","_law_rest","_law_k","_law_turns","_law_one","_law_two"]
noncomputable def Py:List Str:=["_law_cell_here","_law_turn","_law_many"]
def Pz:SM:=
 (ag (av 3 (m2 (aM .FloorDiv) (aa 0) (ae (.int 2))))
 (ag (cU (eK (m2 (ax .Eq) (m2 (aM .Mod) (aa 0) (ae (.int 2))) (ae (.int 1))) (m2 (ax .Gt) (aa 0) (m2 (aM .Pow) (ae (.int 10)) (ae (.int 18)))))
 (ag (cj (bX 4) (b_ (ab (aa 1) af))
 (ag (av 3 (m2 (aM .FloorDiv) (aa 3) (ae (.int 840))))
 aj))
 (ag (bh (m2 (aM .Mod) (m2 (aM .Mod) (aa 3) (ae (.int 840))) (aa 2)))
 aj))
 aj)
 (ag (av 5 (mN aT (ab (ae (.int 48271)) (ab (ae (.int 69621)) (ab (ae (.int 40692)) (ab (ae (.int 39373)) (ab (ae (.int 16807)) (ab (ae (.int 30323)) (ab (ae (.int 21403)) (ab (ae (.int 62089)) (ab (ae (.int 45742)) (ab (ae (.int 37907)) (ab (ae (.int 53611)) (ab (ae (.int 28411)) (ab (ae (.int 59393)) (ab (ae (.int 33391)) af))))))))))))))))
 (ag (av 6 (m2 (aM .Mod) (m2 (aM .Mult) (m2 (aM .Add) (m2 (aM .Mod) (aa 0) (ae (.int 1000000007))) (ae (.int 11))) (m2 az (aa 5) (m2 (aM .Mod) (aa 1) (ae (.int 14))))) (ae (.int 2147483629))))
 (ag (av 7 (m2 (aM .Mod) (m2 (aM .Mult) (aa 6) (m2 (aM .Add) (aa 6) (aa 1))) (ae (.int 1999999973))))
 (ag (bh (m2 (aM .Mod) (m2 (aM .FloorDiv) (m2 (aM .Mod) (m2 (aM .Mult) (aa 7) (ae (.int 16807))) (ae (.int 998244353))) (ae (.int 1000))) (aa 2)))
 aj))))))
def QS:aV:=bS 8 3 Pz
def F1:List Mir.D->Out Rs:=pureOf QS
def PB:bb:=Mz.uu "_law_mix" F1
theorem QT:bW Px Py (aw (top 34))=true:=by decide +kernel
theorem QU:ck Mz td (top 34) Px=some Pz:=rfl
def U0:bb:=PB
noncomputable def PC:List Str:=["thing"]
noncomputable def PD:List Str:=["thing"]
def d0:SM:=
 (ag (cU (gJ (m1 (nE .str) (aa 0)))
 (ag (bh (ae (.bl false)))
 aj)
 aj)
 (ag (bh (eK (jy .LtE .LtE (ae (.int 1)) (mN (aP .len) (ab (aa 0) af)) (ae (.int 8))) (mN (aP .all) (ab (aW (m2 (ax .In) (aa 0) (ae (.str "abcdefghijklmnopqrstuvwxyz"))) true (ae .non) (aK (aa 0)) 0 []) af))))
 aj))
def O0:aV:=bS 1 1 d0
def U1:bb:=U0.df "is_name" O0
theorem QV:bW PC PD (aw (top 19))=true:=by decide +kernel
theorem QW:ck U0 td (top 19) PC=some d0:=rfl
noncomputable def PF:List Str:=["left","name","place","row"]
noncomputable def PH:List Str:=["left","name"]
def d1:SM:=
 (ag (cj (dm [2,3]) (lM (aa 0))
 (ag (cU (m2 (ax .In) (aa 1) (cH (aa 3) false (ae (.int 1)) true (ae .non)))
 (ag (bh (aa 2))
 aj)
 aj)
 aj))
 (ag (bh (ae .non))
 aj))
def O1:aV:=bS 4 2 d1
def U2:bb:=U1.df "place_behind" O1
theorem QX:bW PF PH (aw (top 23))=true:=by decide +kernel
theorem QY:ck U1 td (top 23) PF=some d1:=rfl
noncomputable def PJ:List Str:=["left","row"]
noncomputable def PK:List Str:=["left"]
def d2:SM:=
 (ag (cj (bX 1) (aK (aa 0))
 (ag (cU (eK (aa 1) (m2 (ax .Is) (mN (aS O1) (ab (aa 0) (ab (m2 az (aa 1) (ae (.int 0))) af))) (ae .non)))
 (ag (bh (m2 az (aa 1) (ae (.int 0))))
 aj)
 aj)
 aj))
 (ag (bh (ae .non))
 aj))
def O2:aV:=bS 2 1 d2
def U3:bb:=U2.df "free_name" O2
theorem QZ:bW PJ PK (aw (top 22))=true:=by decide +kernel
theorem Q7:ck U2 td (top 22) PJ=some d2:=rfl
noncomputable def PL:List Str:=["rows","left","order","name"]
noncomputable def PM:List Str:=["rows"]
def d3:SM:=
 (ag (av 1 (aW (mN (aP .list) (ab (aa 0) af)) true (ae .non) (aK (aa 0)) 0 []))
 (ag (av 2 (mN aT af))
 (ag (gM (mN (aP .any) (ab (aa 1) af))
 (ag (av 3 (mN (aS O2) (ab (aa 1) af)))
 (ag (cU (m2 (ax .Is) (aa 3) (ae .non))
 (ag bO
 aj)
 aj)
 (ag (bH (dg hY bq (aa 2) (ab (aa 3) af)))
 (ag (av 1 (aW (uE (m2 (ax .Eq) (cH (aa 0) true (ae .non) false (ae (.int 1))) (mN aT (ab (aa 1) af))) (cH (aa 0) false (ae (.int 1)) true (ae .non)) (aa 0)) true (ae .non) (aK (aa 1)) 0 [3]))
 aj)))))
 (ag (bh (aa 2))
 aj))))
def O3:aV:=bS 4 1 d3
def U4:bb:=U3.df "merged" O3
theorem Q8:bW PL PM (aw (top 21))=true:=by decide +kernel
theorem Q9:ck U3 td (top 21) PL=some d3:=rfl
noncomputable def PN:List Str:=["elders","order"]
noncomputable def PQ:List Str:=["elders","order"]
def d4:SM:=
 (ag (bh (aW (aa 0) false (eK (m2 (ax .NotIn) (aa 0) (aa 2)) (mN (aP .all) (ab (aW (m2 (ax .In) (aa 0) (aa 1)) true (ae .non) (aK (m2 az (aa 1) (aa 0))) 0 [2]) af))) (aK (aa 0)) 0 [0,1]))
 aj)
def O4:aV:=bS 2 2 d4
def U5:bb:=U4.df "ready_kinds" O4
theorem Q_:bW PN PQ (aw (top 14))=true:=by decide +kernel
theorem Ra:ck U4 td (top 14) PN=some d4:=rfl
noncomputable def PR:List Str:=["elders","order","ready"]
noncomputable def PU:List Str:=["elders"]
def d5:SM:=
 (ag (av 1 (mN aT af))
 (ag (av 2 (mN (aS O4) (ab (aa 0) (ab (aa 1) af))))
 (ag (gM (aa 2)
 (ag (bH (dg hY fI (aa 1) (ab (aa 2) af)))
 (ag (av 2 (mN (aS O4) (ab (aa 0) (ab (aa 1) af))))
 aj)))
 (ag (bh (aa 1))
 aj))))
def O5:aV:=bS 3 1 d5
def U6:bb:=U5.df "elders_first" O5
theorem Rb:bW PR PU (aw (top 13))=true:=by decide +kernel
theorem Rc:ck U5 td (top 13) PR=some d5:=rfl
noncomputable def PV:List Str:=["elders","order","name","left","met"]
noncomputable def PX:List Str:=["elders"]
def d6:SM:=
 (ag (av 1 (mN (aS O5) (ab (aa 0) af)))
 (ag (av 3 (aW (aa 0) false (m2 (ax .NotIn) (aa 0) (aa 1)) (aK (aa 0)) 0 [1]))
 (ag (cU (gJ (aa 3))
 (ag (bh (ae .non))
 aj)
 aj)
 (ag (av 4 (mN aT af))
 (ag (av 2 (m2 az (aa 3) (ae (.int 0))))
 (ag (gM (m2 (ax .NotIn) (aa 2) (aa 4))
 (ag (bH (dg hY bq (aa 4) (ab (aa 2) af)))
 (ag (av 2 (m2 az (aW (aa 0) false (m2 (ax .In) (aa 0) (aa 1)) (aK (m2 az (aa 0) (aa 2))) 0 [3]) (ae (.int 0))))
 aj)))
 (ag (bh (cH (aa 4) false (dg hY nG (aa 4) (ab (aa 2) af)) true (ae .non)))
 aj)))))))
def O6:aV:=bS 5 1 d6
def U7:bb:=U6.df "loop_of" O6
theorem Rf:bW PV PX (aw (top 15))=true:=by decide +kernel
theorem Rg:ck U6 td (top 15) PV=some d6:=rfl
noncomputable def PY:List Str:=["lines","own_elders"]
noncomputable def PZ:List Str:=["lines","own_elders"]
def d7:SM:=
 (ag (bh (m2 (aM .Add) (aW (mN (aP .list) (ab (m2 az (aa 1) (aa 0)) af)) true (ae .non) (aK (aa 1)) 0 [0]) (mN aT (ab (mN (aP .list) (ab (aa 1) af)) af))))
 aj)
def O7:aV:=bS 2 2 d7
def U8:bb:=U7.df "rows_by" O7
theorem Rh:bW PY PZ (aw (top 27))=true:=by decide +kernel
theorem Ri:ck U7 td (top 27) PY=some d7:=rfl
noncomputable def P7:List Str:=["elders","ring","lines","tangles","name","refusal"]
noncomputable def P8:List Str:=["elders"]
def d8:SM:=
 (ag (av 1 (mN (aS O6) (ab (aa 0) af)))
 (ag (cU (m2 (ax .IsNot) (aa 1) (ae .non))
 (ag bO
 aj)
 aj)
 (ag (av 2 bE)
 (ag (av 3 bE)
 (ag (cj (bX 4) (aK (mN (aS O5) (ab (aa 0) af)))
 (ag (cU (mN (aP .all) (ab (aW (m2 (ax .In) (aa 0) (aa 1)) true (ae .non) (aK (m2 az (aa 0) (aa 4))) 0 [2]) af))
 (ag (ag (cz (aa 2) (aa 4) (m2 (aM .Add) (mN aT (ab (aa 4) af)) (mN (aS O3) (ab (mN (aS O7) (ab (aa 2) (ab (m2 az (aa 0) (aa 4)) af))) af))))
 aj)
 aj)
 aj)
 aj))
 (ag (cj (bX 4) (aK (aa 0))
 (ag (cU (m2 (ax .In) (aa 4) (aa 3))
 (ag bO
 aj)
 aj)
 aj))
 (ag (bh (mN eW (ab (aW (mN gI (ab (aa 0) (ab (m2 az (aa 1) (aa 0)) af))) true (ae .non) (aK (aa 0)) 0 [2]) af)))
 aj)))))))
def O8:aV:=bS 6 1 d8
def U9:bb:=U8.df "lines_of" O8
theorem Rj:bW P7 P8 (aw (top 26))=true:=by decide +kernel
theorem Rk:ck U8 td (top 26) P7=some d8:=rfl
noncomputable def P9:List Str:=["self"]
noncomputable def P_:List Str:=["self"]
def d9:SM:=
 (ag (en ["House"] "elders" (aa 0) bE)
 (ag (en ["House"] "lines" (aa 0) bE)
 aj))
def O9:aV:=bS 1 1 d9
def Qa:bb:=U9.eB "House" "__init__" O9
theorem Rl:bW P9 P_ (aw (inClass (top 31) 0))=true:=by decide +kernel
theorem Rm:ck U9 td (inClass (top 31) 0) P9=some d9:=rfl
def MA:bb:=Qa.zH "House" O9
noncomputable def Hc:List Str:=["self"]
noncomputable def Hd:List Str:=["self"]
def Qb:SM:=
 (ag (bh (mN (aP .list) (ab (m1 (dn ["House"] "elders") (aa 0)) af)))
 aj)
def xJ:aV:=bS 1 1 Qb
def MB:bb:=MA.eB "House" "kinds" xJ
theorem MC:bW Hc Hd (aw (inClass (top 31) 5))=true:=by decide +kernel
theorem MD:ck MA td (inClass (top 31) 5) Hc=some Qb:=rfl
noncomputable def He:List Str:=["self","name"]
noncomputable def Hf:List Str:=["self","name"]
def Qc:SM:=
 (ag (cU (m2 (ax .NotIn) (aa 1) (aN "House" "kinds" xJ (aa 0) af))
 (ag bO
 aj)
 aj)
 aj)
def uC:aV:=bS 2 2 Qc
def ME:bb:=MB.eB "House" "check_kind" uC
theorem MF:bW He Hf (aw (inClass (top 31) 11))=true:=by decide +kernel
theorem MH:ck MB td (inClass (top 31) 11) He=some Qc:=rfl
noncomputable def Hg:List Str:=["self","elders","place","elder"]
noncomputable def Hh:List Str:=["self","elders"]
def Qd:SM:=
 (ag (cU (m2 (ax .Gt) (mN (aP .len) (ab (aa 1) af)) (ae (.int 5)))
 (ag bO
 aj)
 aj)
 (ag (cj (dm [2,3]) (lM (aa 1))
 (ag (bH (aN "House" "check_kind" uC (aa 0) (ab (aa 3) af)))
 (ag (cU (m2 (ax .In) (aa 3) (cH (aa 1) true (ae .non) false (aa 2)))
 (ag bO
 aj)
 aj)
 aj)))
 aj))
def DV:aV:=bS 4 2 Qd
def MI:bb:=ME.eB "House" "check_elders" DV
theorem MJ:bW Hg Hh (aw (inClass (top 31) 12))=true:=by decide +kernel
theorem MK:ck ME td (inClass (top 31) 12) Hg=some Qd:=rfl
noncomputable def Hi:List Str:=["self","elders","lines"]
noncomputable def Hj:List Str:=["self","elders"]
def Qe:SM:=
 (ag (av 2 (mN (aS O8) (ab (aa 1) af)))
 (ag (en ["House"] "elders" (aa 0) (aa 1))
 (ag (en ["House"] "lines" (aa 0) (aa 2))
 aj)))
def DW:aV:=bS 3 2 Qe
def ML:bb:=MI.eB "House" "settle" DW
theorem MM:bW Hi Hj (aw (inClass (top 31) 13))=true:=by decide +kernel
theorem MN:ck MI td (inClass (top 31) 13) Hi=some Qe:=rfl
noncomputable def Hk:List Str:=["self","name","elders","at","order"]
noncomputable def uD:List Str:=["self","name","elders","at"]
def Qf:SM:=
 (ag (cU (gJ (mN (aS O0) (ab (aa 1) af)))
 (ag bO
 aj)
 aj)
 (ag (cU (m2 (ax .In) (aa 1) (m1 (dn ["House"] "elders") (aa 0)))
 (ag bO
 aj)
 aj)
 (ag (cU (m2 (ax .GtE) (mN (aP .len) (ab (m1 (dn ["House"] "elders") (aa 0)) af)) (ae (.int 12)))
 (ag bO
 aj)
 aj)
 (ag (bH (aN "House" "check_elders" DV (aa 0) (ab (aa 2) af)))
 (ag (av 4 (aN "House" "kinds" xJ (aa 0) af))
 (ag (bH (dg hY fH (aa 4) (ab (uE (m2 (ax .Is) (aa 3) (ae .non)) (mN (aP .len) (ab (aa 4) af)) (aa 3)) (ab (aa 1) af))))
 (ag (bH (aN "House" "settle" DW (aa 0) (ab (mN eW (ab (aW (mN gI (ab (aa 0) (ab (uE (m2 (ax .Eq) (aa 0) (aa 2)) (mN (aP .list) (ab (aa 1) af)) (m2 az (m1 (dn ["House"] "elders") (aa 3)) (aa 0))) af))) true (ae .non) (aK (aa 4)) 0 [2,1,0]) af)) af)))
 aj)))))))
def Hl:aV:=bS 5 4 Qf
def MO:bb:=ML.eB "House" "add" (λa=>Hl (a++[.non]))
theorem MP:bW Hk uD (aw (inClass (top 31) 1))=true:=by decide +kernel
theorem MQ:ck ML td (inClass (top 31) 1) Hk=some Qf:=rfl
noncomputable def Hm:List Str:=["self","turns","turned","name","elders"]
noncomputable def Hn:List Str:=["self","turns"]
def Qg:SM:=
 (ag (av 2 (mN aT af))
 (ag (cj (dm [3,4]) (aK (aa 1))
 (ag (bH (aN "House" "check_kind" uC (aa 0) (ab (aa 3) af)))
 (ag (cU (m2 (ax .In) (aa 3) (aa 2))
 (ag bO
 aj)
 aj)
 (ag (bH (aN "House" "check_elders" DV (aa 0) (ab (aa 4) af)))
 (ag (bH (dg hY bq (aa 2) (ab (aa 3) af)))
 aj)))))
 aj))
def Ho:aV:=bS 5 2 Qg
def MR:bb:=MO.eB "House" "may_turn" Ho
theorem MS:bW Hm Hn (aw (inClass (top 31) 4))=true:=by decide +kernel
theorem MT:ck MO td (inClass (top 31) 4) Hm=some Qg:=rfl
noncomputable def Hq:List Str:=["self","turns","elders","name","others"]
noncomputable def Hr:List Str:=["self","turns"]
def Qh:SM:=
 (ag (bH (aN "House" "may_turn" Ho (aa 0) (ab (aa 1) af)))
 (ag (av 2 (mN eW (ab (m1 (dn ["House"] "elders") (aa 0)) af)))
 (ag (cj (dm [3,4]) (aK (aa 1))
 (ag (cz (aa 2) (aa 3) (mN (aP .list) (ab (aa 4) af)))
 aj))
 (ag (bH (aN "House" "settle" DW (aa 0) (ab (aa 2) af)))
 aj))))
def Hs:aV:=bS 5 2 Qh
def MU:bb:=MR.eB "House" "turn_all" Hs
theorem MV:bW Hq Hr (aw (inClass (top 31) 3))=true:=by decide +kernel
theorem MW:ck MR td (inClass (top 31) 3) Hq=some Qh:=rfl
noncomputable def Ht:List Str:=["self","name"]
noncomputable def Hu:List Str:=["self","name"]
def Qi:SM:=
 (ag (bH (aN "House" "check_kind" uC (aa 0) (ab (aa 1) af)))
 (ag (bh (aW (aa 0) false (m2 (ax .In) (aa 1) (m2 az (m1 (dn ["House"] "lines") (aa 2)) (aa 0))) (aK (m1 (dn ["House"] "elders") (aa 0))) 0 [1,0]))
 aj))
def Eo:aV:=bS 2 2 Qi
def MX:bb:=MU.eB "House" "heirs" Eo
theorem MY:bW Ht Hu (aw (inClass (top 31) 9))=true:=by decide +kernel
theorem MZ:ck MU td (inClass (top 31) 9) Ht=some Qi:=rfl
noncomputable def Hv:List Str:=["self","name"]
noncomputable def Hw:List Str:=["self","name"]
def Qj:SM:=
 (ag (bH (aN "House" "check_kind" uC (aa 0) (ab (aa 1) af)))
 (ag (bh (mN (aP .list) (ab (m2 az (m1 (dn ["House"] "lines") (aa 0)) (aa 1)) af)))
 aj))
def Ep:aV:=bS 2 2 Qj
def M7:bb:=MX.eB "House" "line" Ep
theorem M8:bW Hv Hw (aw (inClass (top 31) 7))=true:=by decide +kernel
theorem M9:ck MX td (inClass (top 31) 7) Hv=some Qj:=rfl
noncomputable def Hx:List Str:=["self","name"]
noncomputable def Hy:List Str:=["self","name"]
def Qk:SM:=
 (ag (bH (aN "House" "check_kind" uC (aa 0) (ab (aa 1) af)))
 (ag (bh (mN (aS O7) (ab (m1 (dn ["House"] "lines") (aa 0)) (ab (m2 az (m1 (dn ["House"] "elders") (aa 0)) (aa 1)) af))))
 aj))
def Hz:aV:=bS 2 2 Qk
def M_:bb:=M7.eB "House" "rows_of" Hz
theorem Na:bW Hx Hy (aw (inClass (top 31) 8))=true:=by decide +kernel
theorem Nb:ck M7 td (inClass (top 31) 8) Hx=some Qk:=rfl
noncomputable def HD:List Str:=["_law_cell_here","_law_many","_law_letters","_law_stem","_law_turn","_law_names_here","_law_size","_law_spot","_law_first","_law_step","_law_signs"]
noncomputable def HE:List Str:=["_law_cell_here","_law_many"]
def Ql:SM:=
 (ag (av 2 (ae (.str "abcdefghijklmnopqrstuvwxyz")))
 (ag (av 3 (dg zg mz (ae (.str "")) (ab (aW (m2 az (aa 2) (mN (bD F1) (ab (aa 1) (ab (aa 0) (ab (ae (.int 26)) af))))) true (ae .non) (b_ (ab (ae (.int 8)) af)) 0 [0,2]) af)))
 (ag (av 4 (mN (bD F1) (ab (aa 0) (ab (ae (.int 8)) (ab (aa 1) af)))))
 (ag (cU (eK (m2 (ax .LtE) (aa 1) (ae (.int 8))) (m2 (ax .Eq) (mN (bD F1) (ab (aa 0) (ab (ae (.int 9)) (ab (ae (.int 4)) af)))) (ae (.int 1))))
 (ag (av 5 (aW (cH (aa 1) true (ae .non) false (m2 (aM .Add) (aa 0) (ae (.int 1)))) true (ae .non) (b_ (ab (aa 1) af)) 0 [3]))
 (ag (bh (m2 (aM .Add) (cH (aa 5) false (aa 4) true (ae .non)) (cH (aa 5) true (ae .non) false (aa 4))))
 aj))
 aj)
 (ag (av 6 (m2 (aM .Add) (ae (.int 1)) (mN (bD F1) (ab (aa 0) (ab (ae (.int 10)) (ab (ae (.int 8)) af))))))
 (ag (av 7 (mN (bD F1) (ab (aa 0) (ab (ae (.int 11)) (ab (aa 6) af)))))
 (ag (av 8 (mN (bD F1) (ab (aa 0) (ab (ae (.int 12)) (ab (ae (.int 26)) af)))))
 (ag (av 9 (m2 az (mN aT (ab (ae (.int 1)) (ab (ae (.int 3)) (ab (ae (.int 5)) (ab (ae (.int 7)) af))))) (mN (bD F1) (ab (aa 0) (ab (ae (.int 13)) (ab (ae (.int 4)) af))))))
 (ag (av 10 (aW (m2 az (aa 2) (m2 (aM .Mod) (m2 (aM .Add) (aa 1) (m2 (aM .Mult) (aa 3) (aa 0))) (ae (.int 26)))) true (ae .non) (b_ (ab (aa 1) af)) 0 [8,2,9]))
 (ag (bh (aW (m2 (aM .Add) (m2 (aM .Add) (cH (aa 3) true (ae .non) false (aa 2)) (aa 0)) (cH (aa 3) false (m2 (aM .Add) (aa 2) (ae (.int 1))) false (aa 1))) true (ae .non) (aK (aa 10)) 0 [6,7,3]))
 aj))))))))))
def HF:aV:=bS 11 2 Ql
def Nc:bb:=M_.df "_law_names" HF
theorem Nd:bW HD HE (aw (top 35))=true:=by decide +kernel
theorem Nf:ck M_ td (top 35) HD=some Ql:=rfl
noncomputable def HG:List Str:=["_law_script","_law_start","_law_names_here","_law_most","_law_rows_here","_law_k","_law_cell_here","_law_row","_law_spot"]
noncomputable def HH:List Str:=["_law_script","_law_start","_law_names_here","_law_most"]
def Qm:SM:=
 (ag (av 4 (mN aT af))
 (ag (cj (bX 5) (b_ (ab (mN (aP .len) (ab (aa 2) af)) af))
 (ag (av 6 (mN (bD F0) (ab (aa 0) (ab (m2 (aM .Add) (aa 1) (aa 5)) af))))
 (ag (av 7 (aW (m2 az (aa 2) (aa 0)) false (m2 (ax .Eq) (mN (bD F1) (ab (aa 1) (ab (aa 0) (ab (ae (.int 3)) af)))) (ae (.int 0))) (b_ (ab (aa 5) af)) 0 [6,2]))
 (ag (av 7 (cH (aa 7) true (ae .non) false (aa 3)))
 (ag (bH (dg hY ej (aa 7) af))
 (ag (cU (eK (m2 (ax .NotEq) (aa 7) (mN aT af)) (m2 (ax .Eq) (mN (bD F1) (ab (aa 6) (ab (ae (.int 13)) (ab (ae (.int 3)) af)))) (ae (.int 1))))
 (ag (av 8 (mN (bD F1) (ab (aa 6) (ab (ae (.int 14)) (ab (mN (aP .len) (ab (aa 7) af)) af)))))
 (ag (av 7 (m2 (aM .Add) (cH (aa 7) false (aa 8) true (ae .non)) (cH (aa 7) true (ae .non) false (aa 8))))
 aj))
 aj)
 (ag (bH (dg hY bq (aa 4) (ab (aa 7) af)))
 aj)))))))
 (ag (bh (aa 4))
 aj)))
def HI:aV:=bS 9 4 Qm
def Ng:bb:=Nc.df "_law_rows" HI
theorem Nh:bW HG HH (aw (top 36))=true:=by decide +kernel
theorem Ni:ck Nc td (top 36) HG=some Qm:=rfl
noncomputable def HJ:List Str:=["_law_rows_here","_law_row","_law_left","_law_told","_law_behind","_law_name","_law_free"]
noncomputable def HK:List Str:=["_law_rows_here"]
def Qn:SM:=
 (ag (av 2 (aW (mN (aP .list) (ab (aa 0) af)) false (m2 (ax .NotEq) (aa 0) (mN aT af)) (aK (aa 0)) 0 []))
 (ag (av 3 (mN aT af))
 (ag (gM (m2 (ax .NotEq) (aa 2) (mN aT af))
 (ag (av 4 bE)
 (ag (cj (bX 1) (aK (aa 2))
 (ag (cj (bX 5) (aK (cH (aa 1) false (ae (.int 1)) true (ae .non)))
 (ag (cz (aa 4) (aa 5) (ae (.bl true)))
 aj))
 aj))
 (ag (av 6 (aW (m2 az (aa 0) (ae (.int 0))) false (m2 (ax .NotIn) (m2 az (aa 0) (ae (.int 0))) (aa 1)) (aK (aa 2)) 0 [4]))
 (ag (cU (m2 (ax .Eq) (aa 6) (mN aT af))
 (ag (bh (ae .non))
 aj)
 aj)
 (ag (bH (dg hY bq (aa 3) (ab (m2 az (aa 6) (ae (.int 0))) af)))
 (ag (av 2 (aW (aW (aa 0) false (m2 (ax .NotEq) (aa 0) (m2 az (aa 1) (ae (.int 0)))) (aK (aa 0)) 0 [1]) true (ae .non) (aK (aa 2)) 0 [6]))
 (ag (av 2 (aW (aa 0) false (m2 (ax .NotEq) (aa 0) (mN aT af)) (aK (aa 2)) 0 []))
 aj))))))))
 (ag (bh (aa 3))
 aj))))
def DX:aV:=bS 7 1 Qn
def Nj:bb:=Ng.df "_law_merge" DX
theorem Nk:bW HJ HK (aw (top 37))=true:=by decide +kernel
theorem Nl:ck Ng td (top 37) HJ=some Qn:=rfl
noncomputable def HL:List Str:=["_law_names_here","_law_rows_here","_law_elders","_law_lines","_law_k","_law_row","_law_behind"]
noncomputable def HM:List Str:=["_law_names_here","_law_rows_here"]
def Qo:SM:=
 (ag (av 2 bE)
 (ag (av 3 bE)
 (ag (cj (bX 4) (b_ (ab (mN (aP .len) (ab (aa 0) af)) af))
 (ag (av 5 (mN (aP .list) (ab (m2 az (aa 1) (aa 4)) af)))
 (ag (av 6 (mN (aS DX) (ab (m2 (aM .Add) (aW (m2 az (aa 1) (aa 0)) true (ae .non) (aK (aa 5)) 0 [3]) (mN aT (ab (aa 5) af))) af)))
 (ag (cU (m2 (ax .Is) (aa 6) (ae .non))
 (ag (av 5 (mN aT af))
 (ag (av 6 (mN aT af))
 aj))
 aj)
 (ag (cz (aa 2) (m2 az (aa 0) (aa 4)) (aa 5))
 (ag (cz (aa 3) (m2 az (aa 0) (aa 4)) (m2 (aM .Add) (mN aT (ab (m2 az (aa 0) (aa 4)) af)) (aa 6)))
 aj))))))
 (ag (bh (mN gI (ab (aa 2) (ab (aa 3) af))))
 aj))))
def HN:aV:=bS 7 2 Qo
def Nm:bb:=Nj.df "_law_clean" HN
theorem Nn:bW HL HM (aw (top 38))=true:=by decide +kernel
theorem Np:ck Nj td (top 38) HL=some Qo:=rfl
noncomputable def HP:List Str:=["_law_elders","_law_house","_law_name","_law_row","_law_handed"]
noncomputable def HQ:List Str:=["_law_elders"]
def Qp:SM:=
 (ag (av 1 (mN (lO "House" O9) af))
 (ag (cj (dm [2,3]) (eu (aa 0))
 (ag (av 4 (mN (aP .list) (ab (aa 3) af)))
 (ag (bH (aN "House" "add" (λa=>Hl (a++[.non])) (aa 1) (ab (aa 2) (ab (aa 4) af))))
 (ag (bH (dg hY bq (aa 4) (ab (ae (.str "zz")) af)))
 aj))))
 (ag (bh (aa 1))
 aj)))
def HR:aV:=bS 5 1 Qp
def Nq:bb:=Nm.df "_law_built" HR
theorem Nr:bW HP HQ (aw (top 40))=true:=by decide +kernel
theorem Nt:ck Nm td (top 40) HP=some Qp:=rfl
noncomputable def HS:List Str:=["_law_elders","_law_lines","_law_turn","_law_name","_law_row","_law_behind"]
noncomputable def HU:List Str:=["_law_elders"]
def Qq:SM:=
 (ag (av 1 bE)
 (ag (cj (bX 2) (b_ (ab (mN (aP .len) (ab (aa 0) af)) af))
 (ag (cj (dm [3,4]) (eu (aa 0))
 (ag (cU (eK (m2 (ax .NotIn) (aa 3) (aa 1)) (mN (aP .all) (ab (aW (m2 (ax .In) (aa 0) (aa 1)) true (ae .non) (aK (aa 4)) 0 [1]) af)))
 (ag (cz (aa 1) (aa 3) (ae .non))
 (ag (cU (mN (aP .all) (ab (aW (m2 (ax .IsNot) (m2 az (aa 1) (aa 0)) (ae .non)) true (ae .non) (aK (aa 4)) 0 [1]) af))
 (ag (av 5 (mN (aS DX) (ab (m2 (aM .Add) (aW (m2 az (aa 1) (aa 0)) true (ae .non) (aK (aa 4)) 0 [1]) (mN aT (ab (aa 4) af))) af)))
 (ag (cU (m2 (ax .IsNot) (aa 5) (ae .non))
 (ag (cz (aa 1) (aa 3) (m2 (aM .Add) (mN aT (ab (aa 3) af)) (aa 5)))
 aj)
 aj)
 aj))
 aj)
 aj))
 aj)
 aj))
 aj))
 (ag (bh (aa 1))
 aj)))
def HV:aV:=bS 6 1 Qq
def Nu:bb:=Nq.df "_law_lined" HV
theorem Nv:bW HS HU (aw (top 39))=true:=by decide +kernel
theorem Nw:ck Nq td (top 39) HS=some Qq:=rfl
noncomputable def HW:List Str:=["_law_elders","_law_name","_law_reach","_law_at","_law_elder"]
noncomputable def HX:List Str:=["_law_elders","_law_name"]
def Qr:SM:=
 (ag (av 2 (mN aT (ab (aa 1) af)))
 (ag (av 3 (ae (.int 0)))
 (ag (gM (m2 (ax .Lt) (aa 3) (mN (aP .len) (ab (aa 2) af)))
 (ag (cj (bX 4) (aK (m2 az (aa 0) (m2 az (aa 2) (aa 3))))
 (ag (cU (m2 (ax .NotIn) (aa 4) (aa 2))
 (ag (bH (dg hY bq (aa 2) (ab (aa 4) af)))
 aj)
 aj)
 aj))
 (ag (av 3 (m2 (aM .Add) (aa 3) (ae (.int 1))))
 aj)))
 (ag (bh (aa 2))
 aj))))
def HY:aV:=bS 5 2 Qr
def Nx:bb:=Nu.df "_law_all_reach" HY
theorem Ny:bW HW HX (aw (top 41))=true:=by decide +kernel
theorem Nz:ck Nu td (top 41) HW=some Qr:=rfl
noncomputable def HZ:List Str:=["_law_house","_law_elders","_law_early","_law_reach","_law_name","_law_heirs"]
noncomputable def H_:List Str:=["_law_house","_law_elders","_law_early"]
def Qs:SM:=
 (ag (av 3 bE)
 (ag (cj (bX 4) (aK (aa 1))
 (ag (cz (aa 3) (aa 4) (mN (aS HY) (ab (aa 1) (ab (aa 4) af))))
 aj))
 (ag (av 5 (aW (aW (aa 0) false (m2 (ax .In) (aa 1) (m2 az (aa 2) (aa 0))) (aK (aN "House" "kinds" xJ (aa 1) af)) 0 [0,2]) true (ae .non) (aK (aa 1)) 0 [0,3]))
 (ag (cU (eK (aa 2) (m2 (ax .NotEq) (aW (aN "House" "heirs" Eo (aa 1) (ab (aa 0) af)) true (ae .non) (aK (aa 1)) 0 [0]) (aa 5)))
 (ag (bh (ae (.bl false)))
 aj)
 aj)
 (ag (cj (bX 4) (aK (aa 1))
 (ag (cU (m2 (ax .NotEq) (mN gm (ab (aN "House" "line" Ep (aa 0) (ab (aa 4) af)) af)) (mN gm (ab (m2 az (aa 3) (aa 4)) af)))
 (ag (bh (ae (.bl false)))
 aj)
 aj)
 (ag (cU (m2 (ax .NotEq) (aN "House" "heirs" Eo (aa 0) (ab (aa 4) af)) (aW (aa 0) false (m2 (ax .In) (aa 1) (m2 az (aa 2) (aa 0))) (aK (aN "House" "kinds" xJ (aa 0) af)) 0 [4,3]))
 (ag (bh (ae (.bl false)))
 aj)
 aj)
 (ag (cU (m2 (ax .NotEq) (aN "House" "rows_of" Hz (aa 0) (ab (aa 4) af)) (m2 (aM .Add) (aW (aN "House" "line" Ep (aa 1) (ab (aa 0) af)) true (ae .non) (aK (m2 az (aa 1) (aa 4))) 0 [0]) (mN aT (ab (m2 az (aa 1) (aa 4)) af))))
 (ag (bh (ae (.bl false)))
 aj)
 aj)
 aj))))
 (ag (bh (ae (.bl true)))
 aj))))))
def Er:aV:=bS 6 3 Qs
def Qt:bb:=Nx.df "_law_right" Er
theorem NA:bW HZ H_ (aw (top 42))=true:=by decide +kernel
theorem NB:ck Nx td (top 42) HZ=some Qs:=rfl
noncomputable def Ia:List Str:=["_law_script","_law_many","_law_names_here","_law_elders","_law_lines","_law_house","_law_k","_law_cell_here","_law_name","_law_row","_law_after"]
noncomputable def DY:List Str:=["_law_script"]
def Qu:SM:=
 (ag (av 1 (m2 az (mN aT (ab (ae (.int 4)) (ab (ae (.int 5)) (ab (ae (.int 6)) (ab (ae (.int 7)) (ab (ae (.int 4)) (ab (ae (.int 5)) (ab (ae (.int 6)) (ab (ae (.int 7)) (ab (ae (.int 1)) (ab (ae (.int 2)) (ab (ae (.int 3)) (ab (ae (.int 7)) af))))))))))))) (m2 (aM .Mod) (mN (bD F0) (ab (aa 0) (ab (ae (.int 0)) af))) (ae (.int 12)))))
 (ag (av 2 (mN (aS HF) (ab (mN (bD F0) (ab (aa 0) (ab (ae (.int 1)) af))) (ab (aa 1) af))))
 (ag (qQ [3,4] (mN (aS HN) (ab (aa 2) (ab (mN (aS HI) (ab (aa 0) (ab (ae (.int 2)) (ab (aa 2) (ab (ae (.int 4)) af))))) af))))
 (ag (av 5 (mN (aS HR) (ab (aa 3) af)))
 (ag (cU (gJ (mN (aS Er) (ab (aa 5) (ab (aa 3) (ab (m2 (ax .Eq) (m2 (aM .Mod) (mN (bD F0) (ab (aa 0) (ab (ae (.int 0)) af))) (ae (.int 2))) (ae (.int 0))) af)))))
 (ag (bh (ae (.bl false)))
 aj)
 aj)
 (ag (cj (bX 6) (b_ (ab (ae (.int 4)) af))
 (ag (av 7 (mN (bD F0) (ab (aa 0) (ab (m2 (aM .Add) (ae (.int 20)) (aa 6)) af))))
 (ag (av 8 (m2 az (aa 2) (mN (bD F1) (ab (aa 7) (ab (ae (.int 0)) (ab (aa 1) af))))))
 (ag (av 9 (m2 az (aa 3) (aa 8)))
 (ag (av 10 (mN eW (ab (aa 3) af)))
 (ag (cz (aa 10) (aa 8) (aW (m2 az (aa 2) (aa 0)) false (m2 (ax .Eq) (mN (bD F1) (ab (aa 1) (ab (m2 (aM .Add) (ae (.int 1)) (aa 0)) (ab (ae (.int 2)) af)))) (ae (.int 1))) (b_ (ab (mN (aP .len) (ab (aa 9) af)) af)) 0 [7,9]))
 (ag (cU (m2 xH (ae .non) (mN (aS HV) (ab (aa 10) af)))
 (ag (bH (aN "House" "turn_all" Hs (aa 5) (ab (mN aT (ab (mN gI (ab (aa 8) (ab (mN (aP .list) (ab (m2 az (aa 10) (aa 8)) af)) af))) af)) af)))
 (ag (av 3 (aa 10))
 aj))
 aj)
 (ag (cU (gJ (mN (aS Er) (ab (aa 5) (ab (aa 3) (ab (m2 (ax .Eq) (mN (bD F1) (ab (aa 7) (ab (ae (.int 11)) (ab (ae (.int 2)) af)))) (ae (.int 1))) af)))))
 (ag (bh (ae (.bl false)))
 aj)
 aj)
 aj))))))))
 (ag (bh (ae (.bl true)))
 aj)))))))
def Ib:aV:=bS 11 1 Qu
theorem NC:bW Ia DY (aw (top 43))=true:=by decide +kernel
theorem ND:ck Qt td (top 43) Ia=some Qu:=rfl
theorem Rn:F0=pureOf (bS 2 2 nY):=rfl
theorem Ro:F1=pureOf (bS 8 3 mH):=rfl
theorem o0:O0=bS 1 1 Lw:=rfl
theorem o1:O1=bS 4 2 qZ:=rfl
theorem o2:O2=bS 2 1 (z_ O1):=rfl
theorem o3:∃st,O3=bS 4 1 (CW st O2):=⟨_,rfl⟩
theorem o4:O4=bS 2 2 Lo:=rfl
theorem o5:O5=bS 3 1 (Lp O4):=rfl
theorem o6:∃rest,O6=bS 5 1 (Lr O5 rest):=⟨_,rfl⟩
theorem o7:O7=bS 2 2 Lu:=rfl
theorem o8:O8=bS 6 1 (Lv O6 O5 O3 O7):=rfl
theorem o9:O9=bS 1 1 JF:=rfl
theorem Rp:xJ=bS 1 1 Lx:=rfl
theorem Rq:uC=bS 2 2 (Ly xJ):=rfl
theorem Rr:DV=bS 4 2 (LA uC):=rfl
theorem Rt:DW=bS 3 2 (LD O8):=rfl
theorem Ru:Hl=bS 5 4 (LH O0 DV xJ DW):=rfl
theorem Rv:∃st,Ho=bS 5 2 (Mf uC DV st):=⟨_,rfl⟩
theorem Rx:Hs=bS 5 2 (Mi Ho DW):=rfl
theorem Ry:Eo=bS 2 2 (Md uC):=rfl
theorem Rz:Ep=bS 2 2 (LB uC):=rfl
theorem RC:Hz=bS 2 2 (LC uC O7):=rfl
theorem RD:HF=bS 11 2 (L8 F1):=rfl
theorem RE:HI=bS 9 4 (Mb F1 F0):=rfl
theorem RF:DX=bS 7 1 JH:=rfl
theorem RH:HN=bS 7 2 (LU DX):=rfl
theorem RI:HR=bS 5 1 (LX O9 Hl):=rfl
theorem RJ:HV=bS 6 1 (Mm DX):=rfl
theorem RK:HY=bS 5 2 Mn:=rfl
theorem RL:Er=bS 6 3 (Mu HY xJ Eo Ep Hz):=rfl
theorem RM:Ib=bS 11 1 (DT F0 F1 HF HN HI HR HV Hs Er):=rfl
theorem xF(ns:List Int)(G:ns.length<=63):∃ao,Ib [.lst (ns.map .int)] []=.ok (.bl true) ao:=by
 obtain⟨H,b⟩:=Av;have c:=xj;rw[←Ro]at b;rw[←Rn]at c;have E:FnAt O2:=by rw[o2,o1];exact Gf
 have F:Ad O3:=by obtain⟨D,e⟩:=o3;rw[e];exact Gh E
 have k:Ag O4:=by rw[o4];exact Gk
 have f:Ah O5:=by rw[o5];exact Gm k
 have l:C9 O6:=by obtain⟨D,e⟩:=o6;rw[e];exact Gn f
 have g:wY O7:=by rw[o7];exact Gq
 have m:Dc O8:=by rw[o8];exact Gr l f F g
 have n:Dh O9:=by rw[o9];exact GA
 have d:rf xJ:=by rw[Rp];exact Gv
 have a:pK uC:=by rw[Rq];exact Gw d
 have h:Aj DV:=by rw[Rr];exact Gx a
 have i:sW DW:=by rw[Rt];exact GB m
 have o:Df O0:=by rw[o0];exact Gs
 have p:Al Hl:=by rw[Ru];exact GD o h d i
 have q:DF Ho:=by obtain⟨D,e⟩:=Rv;rw[e];exact GU a h
 have r:xn Hs:=by rw[Rx];exact GV q i
 have s:AA Eo:=by rw[Ry];exact GS a
 have t:xa Ep:=by rw[Rz];exact Gy a
 have u:Ak Hz:=by rw[RC];exact Gz a g
 have w:Ax HF:=by rw[RD];exact GP b
 have x:Ay HI:=by rw[RE];exact GR b c
 have j:rg DX:=by rw[RF];exact GI
 have y:As HN:=by rw[RH];exact GJ j
 have z:Au HR:=by rw[RI];exact GK n p
 have A:xv HV:=by rw[RJ];exact G7 j
 have B:AG HY:=by rw[RK];exact G9
 have C:xB Er:=by rw[RL];exact Ha B d s t u
 rw[RM];exact xE b c w y x z A r C ns
theorem all_mk{P:Program}{w:World}{K:PySem.W.Frag}{h:Heap}{mg:Str->Option Value}{fa:Addr}(X:K.In h)(G:h.Ns mainGlobals mg)(k6:mg "law"=some (.ref fa))
  (nb:rT K=true)
  {q0:Tok} (z0:PySem.W.nsIn K mainGlobals "LETTERS"=some (some (.str "abcdefghijklmnopqrstuvwxyz" q0)))
  {q1:Tok} (z1:PySem.W.nsIn K mainGlobals "MOST_LETTERS"=some (some (.int 8 q1)))
  {q2:Tok} (z2:PySem.W.nsIn K mainGlobals "MOST_KINDS"=some (some (.int 12 q2)))
  {q3:Tok} (z3:PySem.W.nsIn K mainGlobals "MOST_ELDERS"=some (some (.int 5 q3)))
  {f0:Addr}{l6:FuncData} (a0:dG K "_law_cell" (top 33) f0 l6)
  {f1:Addr}{m6:FuncData} (a1:dG K "_law_mix" (top 34) f1 m6)
  {i:Addr} (n6:PySem.W.nsIn K mainGlobals "House"=some (some (.ref i))) (p6:PySem.W.plainGet K i Str.empty=true) (q6:PySem.W.hasDictIn K i=true) (s6:PySem.W.plainOver K i=true) (t6:PySem.W.findIn K (.ref i) "__setattr__"=some (some (.builtin "object.__setattr__"))) (u6:PySem.W.makesIn K i=true) (v6:PySem.W.keepIn K (.ref i)=true)
  (w6:PySem.W.findIn K (.ref i) "elders"=some none)
  (x6:PySem.W.findIn K (.ref i) "lines"=some none)
  {y6:Addr}{H3:FuncData} (I3:dG K "is_name" (top 19) y6 H3)
  {z6:Addr}{J3:FuncData} (K3:dG K "place_behind" (top 23) z6 J3)
  {A6:Addr}{L3:FuncData} (M3:dG K "free_name" (top 22) A6 L3)
  {B6:Addr}{N3:FuncData} (Q3:dG K "merged" (top 21) B6 N3)
  {C6:Addr}{R3:FuncData} (S3:dG K "ready_kinds" (top 14) C6 R3)
  {D6:Addr}{T3:FuncData} (W3:dG K "elders_first" (top 13) D6 T3)
  {E6:Addr}{Y3:FuncData} (Z3:dG K "loop_of" (top 15) E6 Y3)
  {F6:Addr}{a4:FuncData} (b4:dG K "rows_by" (top 27) F6 a4)
  {G6:Addr}{c4:FuncData} (e4:dG K "lines_of" (top 26) G6 c4)
  {k0:Addr}{f4 g4:Option Addr}{h4:Array (Option Value)}{i4 j4 k4 l4 m0 m4:Value} (n4:PySem.W.findIn K (.ref i) "__init__"=some (some (.ref k0))) (H6:K.lookup k0=some ⟨i4,f4,.func (PySem.W.fnOf "__init__" "House.__init__" (bI (inClass (top 31) 0)) (bC (inClass (top 31) 0)) (aw (inClass (top 31) 0)) .none j4 k4 l4 g4 m0 m4),h4⟩) (I6:PySem.W.codeIn K m0 "House.__init__"=true) (p4:PySem.W.keepIn K (.ref k0)=true)
  (i9:PySem.W.isFn K (.ref k0)=true)
  {m:Addr}{h1 i1:Option Addr}{j1:Array (Option Value)}{k1 l1 n1 p1 z t1:Value} (q4:PySem.W.findIn K (.ref i) "kinds"=some (some (.ref m))) (s4:K.lookup m=some ⟨k1,h1,.func (PySem.W.fnOf "kinds" "House.kinds" (bI (inClass (top 31) 5)) (bC (inClass (top 31) 5)) (aw (inClass (top 31) 5)) .none l1 n1 p1 i1 z t1),j1⟩) (t4:PySem.W.codeIn K z "House.kinds"=true) (n0:PySem.W.keepIn K (.ref m)=true)
  (J6:PySem.W.isFn K (.ref m)=true)
  {n:Addr}{u1 w1:Option Addr}{x1:Array (Option Value)}{y1 A1 B1 C1 A D1:Value} (u4:PySem.W.findIn K (.ref i) "check_kind"=some (some (.ref n))) (v4:K.lookup n=some ⟨y1,u1,.func (PySem.W.fnOf "check_kind" "House.check_kind" (bI (inClass (top 31) 11)) (bC (inClass (top 31) 11)) (aw (inClass (top 31) 11)) .none A1 B1 C1 w1 A D1),x1⟩) (w4:PySem.W.codeIn K A "House.check_kind"=true) (p0:PySem.W.keepIn K (.ref n)=true)
  (K6:PySem.W.isFn K (.ref n)=true)
  {o:Addr}{G1 H1:Option Addr}{I1:Array (Option Value)}{J1 K1 M1 N1 B P1:Value} (x4:PySem.W.findIn K (.ref i) "check_elders"=some (some (.ref o))) (y4:K.lookup o=some ⟨J1,G1,.func (PySem.W.fnOf "check_elders" "House.check_elders" (bI (inClass (top 31) 12)) (bC (inClass (top 31) 12)) (aw (inClass (top 31) 12)) .none K1 M1 N1 H1 B P1),I1⟩) (z4:PySem.W.codeIn K B "House.check_elders"=true) (s0:PySem.W.keepIn K (.ref o)=true)
  (L6:PySem.W.isFn K (.ref o)=true)
  {p:Addr}{Q1 R1:Option Addr}{S1:Array (Option Value)}{T1 W1 Z1 a2 C b2:Value} (A4:PySem.W.findIn K (.ref i) "settle"=some (some (.ref p))) (B4:K.lookup p=some ⟨T1,Q1,.func (PySem.W.fnOf "settle" "House.settle" (bI (inClass (top 31) 13)) (bC (inClass (top 31) 13)) (aw (inClass (top 31) 13)) .none W1 Z1 a2 R1 C b2),S1⟩) (C4:PySem.W.codeIn K C "House.settle"=true) (t0:PySem.W.keepIn K (.ref p)=true)
  (M6:PySem.W.isFn K (.ref p)=true)
  {l0:Addr}{u0:Obj}{D4:Nat}
  {j:Addr}{c2 D:Option Addr}{e2:Array (Option Value)}{f2 E F H k I:Value} (E4:PySem.W.findIn K (.ref i) "add"=some (some (.ref j))) (F4:K.lookup j=some ⟨f2,c2,.func (PySem.W.fnOf "add" "House.add" (bI (inClass (top 31) 1)) (bC (inClass (top 31) 1)) (aw (inClass (top 31) 1)) (.ref l0) E F H D k I),e2⟩) (G4:PySem.W.codeIn K k "House.add"=true) (v0:PySem.W.keepIn K (.ref j)=true)
  (H4:K.lookup l0=some u0) (I4:u0.data=.seq #[.none] D4)
  (N6:PySem.W.isFn K (.ref j)=true)
  {q:Addr}{g2 h2:Option Addr}{i2:Array (Option Value)}{j2 k2 l2 n2 J p2:Value} (J4:PySem.W.findIn K (.ref i) "may_turn"=some (some (.ref q))) (K4:K.lookup q=some ⟨j2,g2,.func (PySem.W.fnOf "may_turn" "House.may_turn" (bI (inClass (top 31) 4)) (bC (inClass (top 31) 4)) (aw (inClass (top 31) 4)) .none k2 l2 n2 h2 J p2),i2⟩) (L4:PySem.W.codeIn K J "House.may_turn"=true) (w0:PySem.W.keepIn K (.ref q)=true)
  (P6:PySem.W.isFn K (.ref q)=true)
  {r:Addr}{t2 u2:Option Addr}{w2:Array (Option Value)}{x2 y2 A2 B2 L C2:Value} (M4:PySem.W.findIn K (.ref i) "turn_all"=some (some (.ref r))) (N4:K.lookup r=some ⟨x2,t2,.func (PySem.W.fnOf "turn_all" "House.turn_all" (bI (inClass (top 31) 3)) (bC (inClass (top 31) 3)) (aw (inClass (top 31) 3)) .none y2 A2 B2 u2 L C2),w2⟩) (P4:PySem.W.codeIn K L "House.turn_all"=true) (x0:PySem.W.keepIn K (.ref r)=true)
  (Q6:PySem.W.isFn K (.ref r)=true)
  {t:Addr}{D2 E2:Option Addr}{F2:Array (Option Value)}{G2 H2 I2 J2 M K2:Value} (Q4:PySem.W.findIn K (.ref i) "heirs"=some (some (.ref t))) (R4:K.lookup t=some ⟨G2,D2,.func (PySem.W.fnOf "heirs" "House.heirs" (bI (inClass (top 31) 9)) (bC (inClass (top 31) 9)) (aw (inClass (top 31) 9)) .none H2 I2 J2 E2 M K2),F2⟩) (S4:PySem.W.codeIn K M "House.heirs"=true) (y0:PySem.W.keepIn K (.ref t)=true)
  (R6:PySem.W.isFn K (.ref t)=true)
  {u:Addr}{M2 N2:Option Addr}{P2:Array (Option Value)}{Q2 S2 T2 W2 N Z2:Value} (T4:PySem.W.findIn K (.ref i) "line"=some (some (.ref u))) (W4:K.lookup u=some ⟨Q2,M2,.func (PySem.W.fnOf "line" "House.line" (bI (inClass (top 31) 7)) (bC (inClass (top 31) 7)) (aw (inClass (top 31) 7)) .none S2 T2 W2 N2 N Z2),P2⟩) (Y4:PySem.W.codeIn K N "House.line"=true) (A0:PySem.W.keepIn K (.ref u)=true)
  (S6:PySem.W.isFn K (.ref u)=true)
  {y:Addr}{a3 b3:Option Addr}{c3:Array (Option Value)}{e3 f3 g3 h3 O i3:Value} (Z4:PySem.W.findIn K (.ref i) "rows_of"=some (some (.ref y))) (a5:K.lookup y=some ⟨e3,a3,.func (PySem.W.fnOf "rows_of" "House.rows_of" (bI (inClass (top 31) 8)) (bC (inClass (top 31) 8)) (aw (inClass (top 31) 8)) .none f3 g3 h3 b3 O i3),c3⟩) (b5:PySem.W.codeIn K O "House.rows_of"=true) (B0:PySem.W.keepIn K (.ref y)=true)
  (T6:PySem.W.isFn K (.ref y)=true)
  {c5:Addr}{j3:FuncData} (D0:dG K "_law_names" (top 35) c5 j3)
  {e5:Addr}{k3:FuncData} (G0:dG K "_law_rows" (top 36) e5 k3)
  {f5:Addr}{l3:FuncData} (I0:dG K "_law_merge" (top 37) f5 l3)
  {g5:Addr}{m3:FuncData} (J0:dG K "_law_clean" (top 38) g5 m3)
  {h5:Addr}{n3:FuncData} (K0:dG K "_law_built" (top 40) h5 n3)
  {i5:Addr}{p3:FuncData} (L0:dG K "_law_lined" (top 39) i5 p3)
  {j5:Addr}{s3:FuncData} (M0:dG K "_law_all_reach" (top 41) j5 s3)
  {k5:Addr}{t3:FuncData} (N0:dG K "_law_right" (top 42) k5 t3)
  {Q:Addr}{u3 R:Option Addr}{v3:Array (Option Value)}{w3 S T U l V:Value} (l5:PySem.W.nsIn K mainGlobals "law"=some (some (.ref Q))) (m5:K.lookup Q=some ⟨w3,u3,.func (PySem.W.fnOf "law" "law" (bI (top 43)) (bC (top 43)) (aw (top 43)) .none S T U R l V),v3⟩) (n5:PySem.W.codeIn K l "law"=true) (p5:PySem.W.keepIn K (.ref Q)=true)
  : ∃fd:FuncData,(∀(s:Shared) (v:Value),BindsTo s fd ⟨[v],[]⟩ [("_law_script",v)])/\∀base:Heap,K.In base->base.Ns mainGlobals mg->dc P w K mg base jE 32 fa fd DY (dX (eQ mg) Ib):=by
 have e:=k6.symm.trans (PySem.W.mg_of X G l5);cases e;have E0:=a0.fn;have b0:=E0.binds (ps:=Pu) λ_ _ _ _ _ _ a b=>match a,b with|[_,_],_=>rfl
 have E1:=a1.fn;have b1:=E1.binds (ps:=Py) λ_ _ _ _ _ _ a b=>match a,b with|[_,_,_],_=>rfl
 have x3:=I3.fn;have W6:=x3.binds (ps:=PD) λ_ _ _ _ _ _ a b=>match a,b with|[_],_=>rfl
 have y3:=K3.fn;have Y6:=y3.binds (ps:=PH) λ_ _ _ _ _ _ a b=>match a,b with|[_,_],_=>rfl
 have A3:=M3.fn;have Z6:=A3.binds (ps:=PK) λ_ _ _ _ _ _ a b=>match a,b with|[_],_=>rfl
 have B3:=Q3.fn;have a7:=B3.binds (ps:=PM) λ_ _ _ _ _ _ a b=>match a,b with|[_],_=>rfl
 have C3:=S3.fn;have b7:=C3.binds (ps:=PQ) λ_ _ _ _ _ _ a b=>match a,b with|[_,_],_=>rfl
 have D3:=W3.fn;have c7:=D3.binds (ps:=PU) λ_ _ _ _ _ _ a b=>match a,b with|[_],_=>rfl
 have E3:=Z3.fn;have e7:=E3.binds (ps:=PX) λ_ _ _ _ _ _ a b=>match a,b with|[_],_=>rfl
 have F3:=b4.fn;have f7:=F3.binds (ps:=PZ) λ_ _ _ _ _ _ a b=>match a,b with|[_,_],_=>rfl
 have G3:=e4.fn;have g7:=G3.binds (ps:=P8) λ_ _ _ _ _ _ a b=>match a,b with|[_],_=>rfl
 have q5:=eo (st:=(inClass (top 31) 0)) H6 I6 p4;have s5:=q5.binds (ps:=P_) λ_ _ _ _ _ _ a b=>match a,b with|[_],_=>rfl
 have P0:=eo (st:=(inClass (top 31) 5)) s4 t4 n0;have t5:=P0.binds (ps:=Hd) λ_ _ _ _ _ _ a b=>match a,b with|[_],_=>rfl
 have Q0:=eo (st:=(inClass (top 31) 11)) v4 w4 p0;have u5:=Q0.binds (ps:=Hf) λ_ _ _ _ _ _ a b=>match a,b with|[_,_],_=>rfl
 have R0:=eo (st:=(inClass (top 31) 12)) y4 z4 s0;have v5:=R0.binds (ps:=Hh) λ_ _ _ _ _ _ a b=>match a,b with|[_,_],_=>rfl
 have S0:=eo (st:=(inClass (top 31) 13)) B4 C4 t0;have w5:=S0.binds (ps:=Hj) λ_ _ _ _ _ _ a b=>match a,b with|[_,_],_=>rfl
 have x5:Gi K "add" "House.add" (inClass (top 31) 1) (.ref l0) j _:=⟨⟨_,_,_,_,_,_,_,_,_,rfl,F4,G4⟩,v0⟩
 have y5:Binds K (PySem.W.fnOf "add" "House.add" (bI (inClass (top 31) 1)) (bC (inClass (top 31) 1)) (aw (inClass (top 31) 1)) (.ref l0) E F H D k I) uD [.none]:=λs a hi b=>by
  match a,b with
  |[],h=>simp[uD]at h
  |[_],h=>simp[uD]at h
  |[_,_],h=>simp[uD]at h
  |[_,_,_],_=>exact PySem.W.binds_K hi rfl H4 I4 rfl rfl
  |_::_::_::_::_,h=>simp[uD]at h
 have T0:=eo (st:=(inClass (top 31) 4)) K4 L4 w0;have z5:=T0.binds (ps:=Hn) λ_ _ _ _ _ _ a b=>match a,b with|[_,_],_=>rfl
 have W0:=eo (st:=(inClass (top 31) 3)) N4 P4 x0;have A5:=W0.binds (ps:=Hr) λ_ _ _ _ _ _ a b=>match a,b with|[_,_],_=>rfl
 have c1:=eo (st:=(inClass (top 31) 9)) R4 S4 y0;have B5:=c1.binds (ps:=Hu) λ_ _ _ _ _ _ a b=>match a,b with|[_,_],_=>rfl
 have e1:=eo (st:=(inClass (top 31) 7)) W4 Y4 A0;have C5:=e1.binds (ps:=Hw) λ_ _ _ _ _ _ a b=>match a,b with|[_,_],_=>rfl
 have g1:=eo (st:=(inClass (top 31) 8)) a5 b5 B0;have D5:=g1.binds (ps:=Hy) λ_ _ _ _ _ _ a b=>match a,b with|[_,_],_=>rfl
 have Y:=D0.fn;have E5:=Y.binds (ps:=HE) λ_ _ _ _ _ _ a b=>match a,b with|[_,_],_=>rfl
 have Z:=G0.fn;have F5:=Z.binds (ps:=HH) λ_ _ _ _ _ _ a b=>match a,b with|[_,_,_,_],_=>rfl
 have c0:=I0.fn;have G5:=c0.binds (ps:=HK) λ_ _ _ _ _ _ a b=>match a,b with|[_],_=>rfl
 have e0:=J0.fn;have H5:=e0.binds (ps:=HM) λ_ _ _ _ _ _ a b=>match a,b with|[_,_],_=>rfl
 have g0:=K0.fn;have I5:=g0.binds (ps:=HQ) λ_ _ _ _ _ _ a b=>match a,b with|[_],_=>rfl
 have h0:=L0.fn;have J5:=h0.binds (ps:=HU) λ_ _ _ _ _ _ a b=>match a,b with|[_],_=>rfl
 have i0:=M0.fn;have K5:=i0.binds (ps:=HX) λ_ _ _ _ _ _ a b=>match a,b with|[_,_],_=>rfl
 have j0:=N0.fn;have L5:=j0.binds (ps:=H_) λ_ _ _ _ _ _ a b=>match a,b with|[_,_,_],_=>rfl
 have M5:=eo (st:=(top 43)) m5 n5 p5;refine⟨PySem.W.fnOf "law" "law" (bI (top 43)) (bC (top 43)) (aw (top 43)) .none S T U R l V,λs v=>.of_eq rfl,λbase _ _=>?_⟩
 have c:=PySem.W.mg_of X G n6;have g:ot K i:=⟨p6,q6,s6,t6⟩;have V0:bu P w K mg base ({}:bb) 0:=bu.start (vL X G nb);have V1:=V0.lQ (x:="MOST_ELDERS") (d:=.int 5) (v:=.int 5) (PySem.W.mg_of X G z3) ⟨_,rfl⟩ rfl;have V2:=V1.lQ (x:="MOST_KINDS") (d:=.int 12) (v:=.int 12) (PySem.W.mg_of X G z2) ⟨_,rfl⟩ rfl;have V3:=V2.lQ (x:="MOST_LETTERS") (d:=.int 8) (v:=.int 8) (PySem.W.mg_of X G z1) ⟨_,rfl⟩ rfl;have V4:=V3.lQ (x:="LETTERS") (d:=.str "abcdefghijklmnopqrstuvwxyz") (v:=.str "abcdefghijklmnopqrstuvwxyz") (PySem.W.mg_of X G z0) ⟨_,rfl⟩ rfl;have V5:=V4.uv (f:="elders") (Cs:=["House"]) (plain1 c g w6);have V6:=V5.uv (f:="lines") (Cs:=["House"]) (plain1 c g x6);have Y0:bu P w K mg base My 0:=V6;have q0:=bf Y0 E0 QQ QR;have Y1:bu P w K mg base Mz 1:=(Y0.mono (Nat.le_succ 0)).uu (x:="_law_cell") (PySem.W.mg_of X G a0.ns) E0.kp b0 (sH q0) (Nat.le_refl _);have q1:=bf Y1 E1 QT QU;have Y2:bu P w K mg base PB 2:=(Y1.mono (Nat.le_succ 1)).uu (x:="_law_mix") (PySem.W.mg_of X G a1.ns) E1.kp b1 (sH q1) (Nat.le_refl _);have X0:bu P w K mg base U0 2:=Y2;have r0:=bf X0 x3 QV QW;have X1:bu P w K mg base U1 3:=X0.df (PySem.W.mg_of X G I3.ns) x3.kp W6 r0;have r1:=bf X1 y3 QX QY;have X2:bu P w K mg base U2 4:=X1.df (PySem.W.mg_of X G K3.ns) y3.kp Y6 r1;have r2:=bf X2 A3 QZ Q7;have X3:bu P w K mg base U3 5:=X2.df (PySem.W.mg_of X G M3.ns) A3.kp Z6 r2;have r3:=bf X3 B3 Q8 Q9;have X4:bu P w K mg base U4 6:=X3.df (PySem.W.mg_of X G Q3.ns) B3.kp a7 r3;have r4:=bf X4 C3 Q_ Ra;have X5:bu P w K mg base U5 7:=X4.df (PySem.W.mg_of X G S3.ns) C3.kp b7 r4;have r5:=bf X5 D3 Rb Rc;have X6:bu P w K mg base U6 8:=X5.df (PySem.W.mg_of X G W3.ns) D3.kp c7 r5;have r6:=bf X6 E3 Rf Rg;have X7:bu P w K mg base U7 9:=X6.df (PySem.W.mg_of X G Z3.ns) E3.kp e7 r6;have r7:=bf X7 F3 Rh Ri;have X8:bu P w K mg base U8 10:=X7.df (PySem.W.mg_of X G b4.ns) F3.kp f7 r7;have r8:=bf X8 G3 Rj Rk;have X9:bu P w K mg base U9 11:=X8.df (PySem.W.mg_of X G e4.ns) G3.kp g7 r8;have r9:=bf X9 q5 Rl Rm;have h7:bu P w K mg base Qa 12:=X9.eB c g ⟨n4,i9,p4⟩ s5 r9;have N5:bu P w K mg base MA 13:=h7.zH c ⟨u6,n4,i9,v6⟩ s5 r9 (by decide)
 have i7:=bf N5 P0 MC MD;have P5:bu P w K mg base MB 14:=N5.eB c g ⟨q4,J6,n0⟩ t5 i7;have j7:=bf P5 Q0 MF MH;have Q5:bu P w K mg base ME 15:=P5.eB c g ⟨u4,K6,p0⟩ u5 j7;have k7:=bf Q5 R0 MJ MK;have R5:bu P w K mg base MI 16:=Q5.eB c g ⟨x4,L6,s0⟩ v5 k7;have l7:=bf R5 S0 MM MN;have S5:bu P w K mg base ML 17:=R5.eB c g ⟨A4,M6,t0⟩ w5 l7;have m7:=Ae S5 x5 MP MQ;have T5:bu P w K mg base MO 18:=S5.Fz (Dd:=[.non]) c g ⟨E4,N6,v0⟩ y5 (.cons (show RelV .non Value.none from rfl) .nil) (λ_ _ _=>.one (by simp only[au])) m7
 have n7:=bf T5 T0 MS MT;have W5:bu P w K mg base MR 19:=T5.eB c g ⟨J4,P6,w0⟩ z5 n7;have p7:=bf W5 W0 MV MW;have Y5:bu P w K mg base MU 20:=W5.eB c g ⟨M4,Q6,x0⟩ A5 p7;have q7:=bf Y5 c1 MY MZ;have Z5:bu P w K mg base MX 21:=Y5.eB c g ⟨Q4,R6,y0⟩ B5 q7;have s7:=bf Z5 e1 M8 M9;have a6:bu P w K mg base M7 22:=Z5.eB c g ⟨T4,S6,A0⟩ C5 s7;have t7:=bf a6 g1 Na Nb;have b6:bu P w K mg base M_ 23:=a6.eB c g ⟨Z4,T6,B0⟩ D5 t7;have u7:=bf b6 Y Nd Nf;have c6:bu P w K mg base Nc 24:=b6.df (PySem.W.mg_of X G D0.ns) Y.kp E5 u7;have v7:=bf c6 Z Nh Ni;have e6:bu P w K mg base Ng 25:=c6.df (PySem.W.mg_of X G G0.ns) Z.kp F5 v7;have w7:=bf e6 c0 Nk Nl;have f6:bu P w K mg base Nj 26:=e6.df (PySem.W.mg_of X G I0.ns) c0.kp G5 w7;have x7:=bf f6 e0 Nn Np;have g6:bu P w K mg base Nm 27:=f6.df (PySem.W.mg_of X G J0.ns) e0.kp H5 x7;have y7:=bf g6 g0 Nr Nt;have h6:bu P w K mg base Nq 28:=g6.df (PySem.W.mg_of X G K0.ns) g0.kp I5 y7;have z7:=bf h6 h0 Nv Nw;have i6:bu P w K mg base Nu 29:=h6.df (PySem.W.mg_of X G L0.ns) h0.kp J5 z7;have A7:=bf i6 i0 Ny Nz;have j6:bu P w K mg base Nx 30:=i6.df (PySem.W.mg_of X G M0.ns) i0.kp K5 A7;have B7:=bf j6 j0 NA NB;have C7:bu P w K mg base Qt 31:=j6.df (PySem.W.mg_of X G N0.ns) j0.kp L5 B7;have D7:=bf C7 M5 NC ND;exact D7
theorem walk{l:PySem.W.OpenLaw}{q:Program}{g:List Str}{p:(Str->Option Value)->Heap->Prop}{o:World->Heap->Prop}{d:DefRec}{K:Params->PySem.W.Frag}(r:l.most=some 63)(m:d.params.defaults=[])
  (t:∀(w:World) (h:Heap),o w h->(K w.params).In h) (y:∀A,oQ (K A)=true)
  (F:∀(w:World) (mg:Str->Option Value) (i:Addr) (h:Heap),(K w.params).In h->h.Ns mainGlobals mg->mg d.name=some (.ref i) ->
   ∃j:FuncData,(∀(s:Shared) (u:Value),BindsTo s j ⟨[u],[]⟩ [("_law_script",u)])/\∀base:Heap,(K w.params).In base->base.Ns mainGlobals mg->dc l.prog w (K w.params) mg base jE 32 i j DY (dX (eQ mg) Ib)) :
  PySem.W.WalkO q g p o l.row.toRowW d [] (λf vs=>PySem.call f vs):=
 L2.yj (n:=63) (k:=32) (x:="_law_script") (CX:=λ_=>jE) (sp:=λw=>FA Ib) r (by decide) m ⟨rfl,by decide,by decide⟩ t (λw mg i h a b c=>let ⟨j,B,C⟩:=F w mg i h a b c;⟨j,B,λbase d e=>(C base d e).imp λvs H Q E z=>z (eQ mg)⟩) (λw H a D G _ I J=>zG (Fi (y w.params) I) (xF D G).choose_spec) λ_ _ _ _ _ z=>z
end DU
def PySem.W.Fast.tw17204844127666425156:PySem.Program:=PySem.Challenge.pw_taglook_k22_whole_what_elders_lead_to
theorem PySem.W.Fast.te17204844127666425156:PySem.Challenge.pw_taglook_k22_whole_what_elders_lead_to=PySem.W.Fast.tw17204844127666425156:=rfl
def PySem.W.Fast.tw4605513972918634659:Nat:=0
def PySem.W.Fast.tw13921904185161490252:Nat:=0
def PySem.W.Fast.tw6889794653719494418:Nat:=0
def PySem.W.Fast.tw4594236398546918737:Nat:=0
def PySem.W.Fast.tw9722587496866333155:Nat:=0
def PySem.W.Fast.tw14143116955527921589:Nat:=0
def PySem.W.Fast.tw3373057454111092874:Nat:=0
def PySem.W.Fast.tw16015478190849201778:Nat:=0
def PySem.W.Fast.tw4287068269668245803:Nat:=0
def PySem.W.Fast.tw11963816867918851881:Nat:=0
def PySem.W.Fast.tw18124476967932512094:Nat:=0
def PySem.W.Fast.tw14791823332796730207:Nat:=0
def PySem.W.Fast.tw18227404840437410182:Nat:=0
def PySem.W.Fast.tw12502347581585338735:Nat:=0
def PySem.W.Fast.tw14894471837657700580:Nat:=0
def PySem.W.Fast.tw16361907550290825051:Nat:=0
def PySem.W.Fast.tw3406386296092497731:Nat:=0
def PySem.W.Fast.tw13990773021941568886:Nat:=0
def PySem.W.Fast.tw14961554517521247030:Nat:=0
def PySem.W.Fast.tw14433004269976220759:Nat:=0
def PySem.W.Fast.tw3827317362252160784:Nat:=0
def PySem.W.Fast.tw5612192784846319600:Nat:=0
def PySem.W.Fast.tw18197718466067100060:Nat:=0
def PySem.W.Fast.tw14413385986092427157:Nat:=0
def PySem.W.Fast.tw11893193386684807049:Nat:=0
def PySem.W.Fast.tw16580271788531244529:Nat:=0
def PySem.W.Fast.tw12860334814448117741:Nat:=0
def PySem.W.Fast.tw13379604137782270208:Nat:=0
open PySem PySem.W PyProof.Rows
set_option maxRecDepth 100000 in
set_option maxHeartbeats 0 in
theorem PySem.Challenge.cw_taglook_k22_whole_what_elders_lead_to_holds : PySem.Challenge.rw_taglook_k22_whole_what_elders_lead_to.Holds := by
 w_on;o_law;k_head;(case hw=>w_witness2)
 k_fill
 refine DU.walk (l:=PySem.Challenge.rw_taglook_k22_whole_what_elders_lead_to) rfl rfl (λw h Y=>PySem.W.kIn_of Y) ?hK ?F
 case hK=>intro pm;exact(Eq.refl true)
 case F=>
  intro w mg fa h KX G hmg;refine' DU.all_mk KX G hmg ?nb ?z0 ?z1 ?z2 ?z3 ?a0 ?a1 ?RN ?RO ?hd0 ?RP ?RQ ?RR ?RS ?RT ?RU ?RW ?RX ?RY ?RZ ?R8 ?R9 ?R_ ?Sa ?Sb ?Sd ?Se ?Sf ?Sg ?i9 ?NF ?NG ?NH ?NI ?Sh ?NJ ?NK ?NL ?NM ?i12 ?NN ?NO ?NP ?NQ ?Si ?NR ?NT ?NU ?NV ?Sj ?NW ?NX ?NY ?NZ ?N7 ?N8 ?Sk ?N9 ?N_ ?Oa ?Ob ?Sl ?Oc ?Od ?Oe ?Of ?Sm ?Og ?Oh ?Oi ?Oj ?Sn ?Ol ?Om ?Oo ?Oq ?So ?Ot ?Ou ?Ov ?Ow ?Sq ?Ox ?Oy ?Oz ?OA ?OB ?OC ?OD ?OE ?OF ?OG ?OH ?OI
  (case nb=>exact(Eq.refl true))
  (case z0 |z1 |z2 |z3=>k_is)
  (case a0 |a1=>refine' Mir.k9 ?a ?l ?c ?k;(case a=>k_is);(case l=>k_is);(case c=>k_is);(case k=>k_is))
  (case RN |RO |hd0 |RP |RQ |RR |RS |RT |RU=>k_is)
  (case RW |RX |RY |RZ |R8 |R9 |R_ |Sa |Sb=>refine' Mir.k9 ?a ?l ?c ?k;(case a=>k_is);(case l=>k_is);(case c=>k_is);(case k=>k_is))
  (case Sd |Se |Sf |Sg |i9 |NF |NG |NH |NI |Sh |NJ |NK |NL |NM |i12 |NN |NO |NP |NQ |Si |NR |NT |NU |NV |Sj |NW |NX |NY |NZ |N7=>k_is)
  (case N8=>rfl)
  (case Sk |N9 |N_ |Oa |Ob |Sl |Oc |Od |Oe |Of |Sm |Og |Oh |Oi |Oj |Sn |Ol |Om |Oo |Oq |So |Ot |Ou |Ov |Ow |Sq=>k_is)
  (case Ox |Oy |Oz |OA |OB |OC |OD |OE=>refine' Mir.k9 ?a ?l ?c ?k;(case a=>k_is);(case l=>k_is);(case c=>k_is);(case k=>k_is))
  (case OF |OG |OH |OI=>k_is)
