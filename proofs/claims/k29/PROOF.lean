import PyProof.Rows.All
import Wide.All
import OpenK.AllK
import Wide.FinOn
import Lean
import PyProof.EqAt
import PyProof.EqKinds
import PyProof.TupleCall
import PyProof.DictIter
import PyProof.DictWalks
import KE.KDictOf
import PyProof.AttrMissSeq
import PyProof.ListRange
import PyProof.DictItems
import PyProof.SeqRoads2
import PyProof.ExcClass3
import PyProof.ExcAttrAll.ValueError
import KE.KIsAll
import PyProof.ExcBaseAll.ValueError
import PyProof.RulesAs
import KE.KTryMore
import PyProof.NsDelKeeps
import PyProof.EnumFor
import PyProof.EnumMake
import PyProof.EnumStmt
import PyProof.Rows.EnumRows
import PyProof.RulesTry
import PyProof.Rows.StrWeight2
import PyProof.AutoListH
import PyProof.Draws
import PyProof.Rows.SortStr
import PyProof.Rows.SortShell
import PyProof.Rows.SortWalk
import PyProof.Rows.StrMeet
import PyProof.FitsReplace
import PySem.Challenge.RW_taglook_k29_dropped_and_placed
set_option Elab.async false
set_option bootstrap.genMatcherCode false
set_option genSizeOfSpec false
set_option linter.all false
set_option maxRecDepth 100000
set_option maxHeartbeats 4000000
noncomputable section
namespace L2
open PySem PySem.Spec PyProof.Rows
abbrev Key:=Sum Int Str
noncomputable def mv:Key->Value->Bool
 |.inl k,v=>Value.isInt k v
 |.inr x,v=>Value.isStrOf x v
noncomputable def MU(w:World):Key->Int
 |.inl k=>hashInt k
 |.inr x=>hashStr w x
theorem bI:∀{k:Key}{v:Value},mv k v=true->(∃i t,k=Sum.inl i/\v=Value.int i t)\/(∃x t,k=Sum.inr x/\v=Value.str x t)
 |.inl i,v,h=>by
  obtain⟨t,e⟩:=Value.isInt_shape h;exact .inl ⟨i,t,rfl,e⟩
 |.inr x,v,h=>by
  obtain⟨t,e⟩:=Value.isStrOf_shape h;exact .inr ⟨x,t,rfl,e⟩
theorem uy(i:Int)(t:Tok):mv (.inl i) (.int i t)=true:=by simp[mv,Value.isInt]
theorem uz(x:Str)(t:Tok):mv (.inr x) (.str x t)=true:=by simp[mv,Value.isStrOf]
theorem Er(a b:Int):decide ((Sum.inl a:Key)=Sum.inl b)=(a==b):=by
 grind
theorem Es(a b:Str):decide ((Sum.inr a:Key)=Sum.inr b)=decide (a=b):=by
 simp
theorem Et(a:Int)(b:Str):decide ((Sum.inl a:Key)=Sum.inr b)=false:=rfl
theorem Eu(a:Str)(b:Int):decide ((Sum.inr a:Key)=Sum.inl b)=false:=rfl
def cY(prog:Program)(w:World):PySem.KeyKind prog w Key where
 is:=mv
 hash:=MU w
 inj:=λv a b g f=>by
  rcases bI g with ⟨i,t,rfl,rfl⟩|⟨x,t,rfl,rfl⟩
  .rcases bI f with ⟨j,u,rfl,e⟩|⟨y,u,rfl,e⟩
   .injection e with c _;rw[c]
   .exact nomatch e
  .rcases bI f with ⟨j,u,rfl,e⟩|⟨y,u,rfl,e⟩
   .exact nomatch e
   .injection e with c _;rw[c]
 byValue:=λk v h=>by
  rcases bI h with ⟨i,t,rfl,rfl⟩|⟨x,t,rfl,rfl⟩<;>rfl
 pyHash:=λd h=>by
  rcases bI d with ⟨i,t,rfl,rfl⟩|⟨x,t,rfl,rfl⟩
  .exact wpAny_pyHash_int h
  .exact wpAny_pyHash_str h
 eqBool:=λl d h=>by
  rcases bI l with ⟨i,t,rfl,rfl⟩|⟨x,t,rfl,rfl⟩
  .rcases bI d with ⟨j,u,rfl,rfl⟩|⟨y,u,rfl,rfl⟩
   .rw[Er]at h;exact wpAny_eqBool_int h
   .rw[Et]at h;exact SeqAt.EqAt.int_str i t y u _ _ _ _ h
  .rcases bI d with ⟨j,u,rfl,rfl⟩|⟨y,u,rfl,rfl⟩
   .rw[Eu]at h;exact SeqAt.EqAt.str_int x t j u _ _ _ _ h
   .rw[Es]at h;exact wpAny_eqBool_str h
 «strs» := λk x t v h=>by
  rcases bI h with ⟨i,u,rfl,e⟩|⟨y,u,rfl,e⟩
  .exact nomatch e
  .injection e with c _
   subst c;cases v<;>rfl
theorem pk(prog:Program)(w:World)(i:Int)(t:Tok):(cY prog w).is (.inl i) (.int i t)=true:=uy i t
theorem pq(prog:Program)(w:World)(x:Str)(t:Tok):(cY prog w).is (.inr x) (.str x t)=true:=uz x t
inductive V where
 |non|bl (b:Bool)|int (i:Int)|str (x:Str)|GZ (b:Array UInt8)|flt (b:UInt64)|ref (a:Addr)|ty (n:String)
 deriving DecidableEq
def RelV:V->Value->Prop
 |.non,u=>u=Value.none
 |.bl b,u=>u=Value.bool b
 |.int i,u=>∃t,u=Value.int i t
 |.str x,u=>∃t,u=Value.str x t
 |.GZ b,u=>∃t,u=Value.bytes b t
 |.flt b,u=>∃t,u=Value.float b t
 |.ref a,u=>u=Value.ref a
 |.ty n,u=>u=Value.type n
abbrev Vals:List V->List Value->Prop:=Paired RelV
theorem Vals.length{xs:List V}{a:List Value}(r:Vals xs a):xs.length=a.length:=Paired.length r
theorem Vals.get:∀{xs:List V}{a:List Value}{i:Nat}{x:V},Vals xs a->xs[i]?=some x->∃u,a[i]?=some u/\RelV x u
 |_,_,_,_,.nil,e=>by simp at e
 |_,_,0,_,.cons r _,e=>by simp_all
 |_,_,i+1,x,.cons _ t,e=>by
  obtain⟨u,b,c⟩:=Vals.get t (by simpa using e)
  simp_all
theorem Vals.append:∀{xs a:List V}{b c:List Value},Vals xs b->Vals a c->Vals (xs++a) (b++c)
 |_,_,_,_,.nil,s=>s
 |_,_,_,_,.cons r t,s=>.cons r (Vals.append t s)
theorem Vals.take:∀{xs:List V}{a:List Value} (n:Nat),Vals xs a->Vals (xs.take n) (a.take n)
 |_,_,0,_=>.nil
 |_,_,_+1,.nil=>.nil
 |_,_,n+1,.cons r t=>.cons r (Vals.take n t)
theorem Vals.drop:∀{xs:List V}{a:List Value} (n:Nat),Vals xs a->Vals (xs.drop n) (a.drop n)
 |_,_,0,r=>r
 |_,_,_+1,.nil=>.nil
 |_,_,n+1,.cons _ t=>Vals.drop n t
def fO:Option V->Option Value->Prop
 |some v,some u=>RelV v u
 |none,none=>True
 |_,_=>False
def KV{a:Type}:List (a×V)->List (a×Value)->Prop:=Paired λ(p:a×V) (q:a×Value)=>p.1=q.1/\RelV p.2 q.2
noncomputable def kV:Key->V
 |.inl i=>.int i
 |.inr x=>.str x
inductive HO where
 |lst (xs:List V)
 |tup (xs:List V)
 |dK (kvs:List (Key×V))|dT (kvs:List (List Key×V))
 |set (S:Int->Bool) (n:Nat)
 |ins (C dx:Addr) (fs:List (Str×V))
 |own (x:Addr)
 |xd (fs:List (Str×V))
 |met (f x:Addr)
 |MV (lo hi:Int)
 |dj (o:Obj) (u:HO)
 |Ew (ps:Array Value)
 |ext (φ:Heap->Prop)
abbrev Hp:=Addr->Option HO
noncomputable def upd(H:Hp)(a:Addr)(o:HO):Hp:=λb=>if b=a then some o else H b
variable{e:Hp}{h:Addr}{o0:HO}
theorem aL:upd e h o0 h=some o0:=by unfold upd;simp_all
variable{G:Addr}
theorem av(a:G≠h):upd e h o0 G=e G:=by unfold upd;rw[if_neg a]
theorem aW(a:e h=some o0)(b:e G=none):h≠G:=by
 grind
section
variable(P:Program)(w:World)
def cT(H:Hp)(h:Heap)(a:Addr):HO->Prop
 |.lst xs=>xs.length<=sizeLine/\∃(b:List Value) (n:Nat),Vals xs b/\h.get? a=some {cls:=.type "list",data:=.seq b.toArray n}
 |.tup xs=>xs.length<=sizeLine/\∃b:List Value,Vals xs b/\IsTup h a b.toArray
 |.dK c=>c.length<=sizeLine/\(a==sysModules)=false/\∃i,KV c i/\h.DictOf (cY P w) a i
 |.dT c=>c.length<=sizeLine/\(a==sysModules)=false/\∃xs:List (List Key×Addr×Value),
   Paired (λ(p:List Key×V) (q:List Key×Addr×Value)=>p.1=q.1/\H q.2.1=some (.tup (p.1.map kV))/\RelV p.2 q.2.2) c xs /\
   ∃o j m,h.get? a=some o/\o.ExactDict/\o.data=.dict j m/\j.toList=xs.map (entryOfKey (tupleKind (cY P w)))/\(xs.map (·.1)).Nodup
 |.set S n=>h.SetOf (intKind P w) a S n
 |.ins C e fs=>H e=some (.own a)/\fs.length<=1000/\e≠a/\h.get? a=some (PySem.W.instObj C e) /\
   ∃d,h.Ns1 e d/\(∀f,fO (fs.lookup f) (d f))/\PySem.Within d (fs.map (·.1))
 |.own _=>∃o,h.get? a=some o
 |.xd fs=>∃d,h.Ns1 a d/\∀f,fO (fs.lookup f) (d f)
 |.MV r s=>∃t u v,h.get? a=some {cls:=.type "range",data:=.fields #[.int r t,.int s u,.int 1 v]}
 |.dj o u=>h.get? a=some o/\cT H h a u
 |.Ew y=>h.get? a=some {cls:=.none,data:=.fields y}
 |.met f x=>h.get? a=some (PySem.W.methodObj (.ref f) (.ref x))
 |.ext g=>g h/\(∃o,h.get? a=some o)/\∀k l:Heap,g k->(∀o,k.get? a=some o->l.get? a=some o)->g l
def gN(H:Hp)(h:Heap):Prop:=∀a o,H a=some o->cT P w H h a o
end
theorem cT.lt{P:Program}{w:World}{H:Hp}{h:Heap}{a:Addr}{o:HO}(x:cT P w H h a o):a<h.objs.size:=by
 cases o with
 |lst c=>obtain⟨_,_,_,_,e⟩:=x;exact Heap.lt_size e
 |tup c=>obtain⟨_,_,_,p⟩:=x;exact p.lt
 |dK b=>obtain⟨_,_,_,_,o,_,_,e,_⟩:=x;exact Heap.lt_size e
 |dT b=>obtain⟨_,_,_,_,o,_,_,e,_⟩:=x;exact Heap.lt_size e
 |set S n=>obtain⟨o,_,_,_,e,_⟩:=x;exact Heap.lt_size e
 |ins C g d=>obtain⟨_,_,_,e,_⟩:=x;exact Heap.lt_size e
 |own y=>obtain⟨_,e⟩:=x;exact Heap.lt_size e
 |xd d=>obtain⟨_,⟨_,_,_,e,_⟩,_⟩:=x;exact Heap.lt_size e
 |MV i j=>obtain⟨_,_,_,e⟩:=x;exact Heap.lt_size e
 |dj k u=>obtain⟨e,_⟩:=x;exact Heap.lt_size e
 |Ew l=>exact Heap.lt_size (x)
 |met f y=>exact Heap.lt_size (x)
 |ext m=>obtain⟨_,⟨_,e⟩,_⟩:=x;exact Heap.lt_size e
theorem Paired.Hr{c d:Type}{F G:c->d->Prop}:∀{l₁:List c}{l₂:List d},Paired F l₁ l₂->(∀a b,F a b->G a b)->Paired G l₁ l₂
 |_,_,.nil,_=>.nil
 |_,_,.cons r t,f=>.cons (f _ _ r) (Paired.Hr t f)
variable{A:World}{A3 w:Heap}{z:Program}{ο:Hp}
theorem cT.stay(x:cT z A e w h o0)(k:∀b u,(b=h\/e b=some (.own h))->w.get? b=some u->A3.get? b=some u)(E:∀b,e b=some (.own h)->ο b=some (.own h))(F:∀b xs,e b=some (.tup xs)->ο b=some (.tup xs)):cT z A ο A3 h o0:=by
 induction o0 with
 |lst xs=>obtain⟨g,m,n,r,a⟩:=x;exact⟨g,_,n,r,k _ _ (.inl rfl) a⟩
 |tup xs=>obtain⟨g,m,r,i,a,c⟩:=x;exact⟨g,_,r,i,k _ _ (.inl rfl) a,c⟩
 |dK o=>obtain⟨g,y,G,r,i,j,l,a,c⟩:=x;exact⟨g,y,G,r,i,j,l,k _ _ (.inl rfl) a,c⟩
 |dT o=>
  obtain⟨g,y,xs,r,i,j,l,a,c⟩:=x;exact⟨g,y,xs,Paired.Hr r λp q g=>⟨g.1,F _ _ g.2.1,g.2.2⟩,i,j,l,k _ _ (.inl rfl) a,c⟩
 |set S n=>obtain⟨i,j,l,t,a,c⟩:=x;exact⟨i,j,l,t,k _ _ (.inl rfl) a,c⟩
 |ins C K H=>
  obtain⟨d,g,ne,a,s,⟨B,j,l,I,c⟩,r⟩:=x;exact⟨E _ d,g,ne,k _ _ (.inl rfl) a,s,⟨B,j,l,k _ _ (.inr d) I,c⟩,r⟩
 |own y=>obtain⟨i,a⟩:=x;exact⟨i,k _ _ (.inl rfl) a⟩
 |xd H=>obtain⟨s,⟨B,j,l,a,c⟩,r⟩:=x;exact⟨s,⟨B,j,l,k _ _ (.inl rfl) a,c⟩,r⟩
 |MV L M=>obtain⟨t,u,v,a⟩:=x;exact⟨t,u,v,k _ _ (.inl rfl) a⟩
 |dj i u J=>obtain⟨a,q⟩:=x;exact⟨k _ _ (.inl rfl) a,J q⟩
 |Ew N=>
  exact k h _ (.inl rfl) x
 |met f y=>
  exact k h _ (.inl rfl) x
 |ext O=>obtain⟨p,⟨o0,a⟩,D⟩:=x;exact⟨D _ _ p λo0 q=>k _ _ (.inl rfl) q,⟨o0,k _ _ (.inl rfl) a⟩,D⟩
theorem gN.lt{P:Program}{w:World}{H:Hp}{h:Heap}{a:Addr}{o:HO}(x:gN P w H h)(e:H a=some o):a<h.objs.size:=(x a o e).lt
theorem gN.fresh(x:gN z A e w)(a:w.objs.size<=h):e h=none:=by
 cases q:e h with
 |none=>rfl
 |some u=>exact absurd (Nat.lt_of_lt_of_le (x.lt q) a) (by simp)
theorem gN.kept(x:gN z A e w)(k:∀b u,w.get? b=some u->A3.get? b=some u):gN z A e A3:=λa o c=>
 (x a o c).stay (λb u _ q=>k b u q) (λ_ q=>q) λ_ _ q=>q
theorem gN.laid{o:HO}(x:gN z A e w)(k:∀b u,w.get? b=some u->A3.get? b=some u)(g:w.objs.size<=h)(i:cT z A (upd e h o) A3 h o):gN z A (upd e h o) A3:=λb u a=>by
 have d:=x.fresh g
 by_cases f:b=h
 .subst f;rw[aL]at a;grind
 .rw[av f]at a
  exact(x b u a).stay (λc v _ q=>k c v q) (λc q=>by rwa[av (aW q d)]) λc j q=>by rwa[av (aW q d)]
def Rd(H:Hp)(a:Addr)(u:HO):Prop:=H a=some u\/∃o,H a=some (.dj o u)
theorem Rd.ok(r:Rd e h o0)(x:gN z A e w):cT z A e w h o0:=by
 rcases r with r|⟨o,r⟩
 .exact x h o0 r
 .obtain⟨_,q⟩:=x h _ r
  exact q
def Hs:Option HO->Prop
 |some (.lst _)=>True
 |some (.dK _)=>True
 |some (.dT _)=>True
 |some (.set _ _)=>True
 |some (.ins _ _ _)=>True
 |some (.ext _)=>True
 |_=>False
theorem gN.write(ok:gN z A e w)(f:Hs (e h))(o:G=h\/e G=some (.own h))(k:∀b u,b≠G->w.get? b=some u->A3.get? b=some u)(g:∃u,A3.get? G=some u)(m:cT z A (upd e h o0) A3 h o0):gN z A (upd e h o0) A3:=λb u q=>by
 have d:∀c y,e c=some (.own y)->c≠h:=λc y r a=>by subst a;rwa[r]at f
 by_cases i:b=h
 .subst i;rw[aL]at q;grind
 .rw[av i]at q
  by_cases n:b=G
  .have j:e b=some (.own h):=by
    grind
   rw[q]at j;cases j
   obtain⟨v,p⟩:=g;exact⟨v,by grind⟩
  .refine(ok b u q).stay (λc v s r=>k c v ?_ r) (λc r=>by rwa[av (d c b r)]) λc l r=>by rwa[av ((λc l r a=>by subst a;rw[r]at f;exact f) c l r)]
   grind
structure Un(fs ex:List Addr)(H H':Hp)(h h':Heap):Prop where
 keep:∀b o,h.get? b=some o->H b=none->b∉fs->b∉ex->h'.get? b=some o
 slot:∀b o,h.get? b=some o->H b=none->b∈fs->b∉ex->∃sl,h'.get? b=some {o with slots:=sl}
 free:∀b o,h.get? b=some o->H b=none->b∉ex->H' b=none
 there:∀b o,h.get? b=some o->b∉ex->∃o',h'.get? b=some o'
 tups:∀b xs,H b=some (.tup xs)->H' b=some (.tup xs)
 eD:∀b o u,H b=some (.dj o u)->H' b=some (.dj o u)
 fo:∀b ps,H b=some (.Ew ps)->∃more,H' b=some (.Ew (ps++more))
variable{i0 r:List Addr}
theorem Un.any(u:Un r i0 e ο w A3){ob:Obj}(q:w.get? h=some ob)(n:e h=none)(a:h∉i0):∃c,A3.get? h=some {ob with slots:=c}:=by
 by_cases b:h∈r
 .exact u.slot h ob q n b a
 .exact⟨_,u.keep h ob q n b a⟩
variable{M6:Hp}
theorem Un.trans{m:Heap}(a:Un r i0 e ο w A3)(b:Un r i0 ο M6 A3 m):Un r i0 e M6 w m where
 keep:=λc d q n h f=>b.keep c d (a.keep c d q n h f) (a.free c d q n f) h f
 slot:=λc d q n h f=>by
  obtain⟨p,g⟩:=a.slot c d q n h f;obtain⟨j,k⟩:=b.slot c _ g (a.free c d q n f) h f;exact⟨j,k⟩
 free:=λc d q n f=>by
  obtain⟨l,g⟩:=a.there c d q f;exact b.free c l g (a.free c d q n f) f
 there:=λc d q f=>by
  obtain⟨l,g⟩:=a.there c d q f;exact b.there c l g f
 tups:=λc i q=>b.tups c i (a.tups c i q)
 eD:=λc d i q=>b.eD c d i (a.eD c d i q)
 fo:=λc o q=>by
  obtain⟨m1,g⟩:=a.fo c o q;obtain⟨m2,k⟩:=b.fo c _ g;exact⟨m1++m2,by rw[k,Array.append_assoc]⟩
theorem Un.kept(k:∀b u,w.get? b=some u->A3.get? b=some u):Un r i0 e e w A3:=
 ⟨λb a q _ _ _=>k b a q,λb a q _ _ _=>⟨_,k b a q⟩,λ_ _ _ n _=>n,λb a q _=>⟨a,k b a q⟩,λ_ _ q=>q,λ_ _ _ q=>q,λ_ c q=>⟨#[],by simp_all⟩⟩
theorem Un.refl:Un r i0 e e w w:=Un.kept λ_ _ q=>q
theorem Un.laid{o:HO}(k:∀b u,w.get? b=some u->A3.get? b=some u)(c:w.objs.size<=h)(a:e h=none):Un r i0 e (upd e h o) w A3 where
 keep:=λb u q _ _ _=>k b u q
 slot:=λb u q _ _ _=>⟨_,k b u q⟩
 free:=λb u q n _=>by rwa[av (Nat.ne_of_lt (Nat.lt_of_lt_of_le (Heap.lt_size q) c))]
 there:=λb u q _=>⟨u,k b u q⟩
 tups:=λb d q=>by rwa[av (aW q a)]
 eD:=λb u d q=>by rwa[av (aW q a)]
 fo:=λb f q=>⟨#[],by rw[av (aW q a),q];simp⟩
theorem Un.write(d:Hs (e h))(j:G=h\/e G=some (.own h))(k:∀b u,b≠G->w.get? b=some u->A3.get? b=some u)(f:∃u,A3.get? G=some u):Un r i0 e (upd e h o0) w A3:=by
 have g:∀b,e b=none->b≠h:=λb n z=>by subst z;rwa[n]at d
 have c:∀b,e b=none->b≠G:=λb n z=>by
  grind
 have a:∀b u,e b=some u->¬ Hs (some u)->b≠h:=λb u q l z=>by simp_all
 refine⟨λb u q n _ _=>k b u (c b n) q,λb u q n _ _=>⟨_,k b u (c b n) q⟩,λb u q n _=>by rwa[av (g b n)],λb u q _=>?_,
  λb i q=>by rwa[av (a b _ q λz=>z)],λb u i q=>by rwa[av (a b _ q λz=>z)],λb m q=>⟨#[],by rw[av (a b _ q λz=>z),q];simp⟩⟩
 grind
variable{C7:List Addr}
theorem Un.mono{a:List Addr}(u:Un r C7 e ο w A3)(f:∀b∈r,b∈i0)(h:∀b∈C7,b∈a):Un i0 a e ο w A3:=
 ⟨λb c q n g d=>u.keep b c q n (λz=>g (f b z)) (by grind),λ_ _ q n _ d=>u.any q n (by grind),λb c q n d=>u.free b c q n (by grind),λb c q d=>u.there b c q (by grind),u.tups,u.eD,u.fo⟩
noncomputable def RA(h:Heap)(H:Hp):List Addr:=(List.range h.objs.size).filter λa=>(H a).isSome
def nK(h:Heap)(H:Hp):Heap:=PySem.W.hideAll h (RA h H)
theorem uA(h:Heap)(H:Hp):(nK h H).objs.size=h.objs.size:=PySem.W.hideAll_size _ _
variable{ω:Obj}
theorem v9(a:w.get? h=some ω)(n:e h=none):(nK w e).get? h=some ω:=
 PySem.W.hideAll_get _ a λb=>by
  have q:=(List.mem_filter.mp b).2
  grind
theorem z9(a:(nK w e).get? h=some ω):w.get? h=some ω/\e h=none:=by
 have b:=PySem.W.of_hideAll _ a;refine⟨b,?_⟩;cases q:e h with
 |none=>rfl
 |some x=>
  have z:(nK w e).get? h=none:=PySem.W.hideAll_none _ (List.mem_filter.mpr ⟨List.mem_range.mpr (Heap.lt_size b),by simp[q]⟩)
  grind
noncomputable def z_(g h:Heap)(L:Addr):List (Addr×Obj):=(List.range h.objs.size).filterMap λa=>if a=L\/(g.get? a).isSome=true then none else (h.get? a).map λo=>(a,o)
def rest(g h:Heap)(L d:Addr):List (Addr×Obj):=(z_ g h L).filter λp=>decide (p.1≠d)
structure Mod(K:PySem.W.Frag)(mg:Str->Option Value)(base:Heap):Prop where
 Aa:K.In base
 glob:base.Ns mainGlobals mg
 blt:∃mb,base.Ns builtinsNs mb/\∀x:Str,x≠"__name__"->mb x=bootBuiltins x
 nolimit:base.NoLimit
structure Cx where
 prog:Program
 w:World
 K:PySem.W.Frag
 mg:Str->Option Value
 base:Heap
 A:Around
 N:List Str
 s₀:Shared
 H₀:Hp
 env:Env
 outer:List Env
 stack:List Env
 ex:List Addr
 fn:Str->Bool
 calm:Bool
 pn:List (Addr×Obj)
 xe:Value->Shared->Prop
noncomputable def frs(l:List Env):List Addr:=l.filterMap (·.frame)
abbrev Cx.fs(X:Cx):List Addr:=frs X.outer
def sO(a:Scope)(x:Str):Prop:=a.names.lookup x=some .local\/a.names.lookup x=some .cell\/a.names.lookup x=some .free
def Loc(a:Scope)(x:Str):Prop:=a.names.lookup x=some .local\/a.names.lookup x=some .cell
def Look(env:Env)(h:Heap)(m:Str->Option Value)(x:Str)(u:Value):Prop:=
 (env.kindOf x=some .local/\m x=some u)\/((env.kindOf x=some .cell\/env.kindOf x=some .free)/\∃c,env.cells.lookup x=some c/\h.IsCell c (some u))
structure Cx.Ok(X:Cx):Prop where
 mod:Mod X.K X.mg X.base
 kind:X.env.scope.kind=.function
 glob:X.env.globals=mainGlobals
 blt:X.env.builtins=builtinsNs
 above:X.s₀.heap.objs.size<=X.env.locals
 inj:∀x y c,X.env.cells.lookup x=some c->X.env.cells.lookup y=some c->x=y
 has:∀x,(X.env.kindOf x=some .cell\/X.env.kindOf x=some .free)->∃c,X.env.cells.lookup x=some c
 cab:∀x c,X.fn x=true->X.env.cells.lookup x=some c->X.s₀.heap.objs.size<=c
 hd:X.calm=true->X.A.handled=none
 frames:X.A.frames=some X.stack
 zX:X.stack=X.outer\/(X.stack=X.env::X.outer/\X.env.frame=some X.env.locals)
 Ab:∀b∈X.ex,b≠X.env.locals/\∀x c,X.env.cells.lookup x=some c->c≠b
 bs:∀b o,X.base.get? b=some o->X.s₀.heap.get? b=some o/\X.H₀ b=none
 rg:X.base.objs.size<=X.s₀.heap.objs.size
 lR:∀b o,X.base.get? b=some o->b∉X.ex
 lS:∀b∈X.ex,b∉X.fs
 fq:X.s₀.heap.FunFrames X.base X.outer
 uB:∀b∈X.fs,X.H₀ b=none
structure Inv(X:Cx)(pins:List (Addr×Obj))(σ:List (Option V))(H:Hp)(s:Shared):Prop where
 ok:X.Ok
 os:s.os=X.s₀.os
 bare:AllBare s.gens
 base:Un X.fs X.ex X.H₀ H X.s₀.heap s.heap
 loc:∃m,s.heap.Ns X.env.locals m/\∀(i:Nat) (x:Str) (v:V),X.N[i]?=some x->σ[i]?=some (some v)->sO X.env.scope x->∃u,RelV v u/\Look X.env s.heap m x u
 cell:∀x c,X.env.cells.lookup x=some c->∃v,s.heap.IsCell c v
 free:H X.env.locals=none
 cI:∀x c,X.env.cells.lookup x=some c->(H c=none\/∃o u,H c=some (.dj o u))/\(X.fn x=true->H c=none)
 pin:∀p∈X.pn++pins,s.heap.get? p.1=some p.2/\H p.1=none/\p.1≠X.env.locals/\p.1∉X.fs/\∀v,p.2.data≠.cell v
 hok:gN X.prog X.w H s.heap
 len:σ.length=X.N.length
variable{c:Cx}
theorem Cx.Ok.MW(ok:c.Ok)(e:c.base.get? h=some ω):h∉c.fs:=λa=>by
 have:=(ok.fq.mem a).1
 grind
theorem Inv.bs{X:Cx}{pins:List (Addr×Obj)}{a:List (Option V)}{H:Hp}{s:Shared}(I:Inv X pins a H s):∀b o,X.base.get? b=some o->s.heap.get? b=some o/\H b=none:=λb o e=>
 ⟨I.base.keep b o (I.ok.bs b o e).1 (I.ok.bs b o e).2 (I.ok.MW e) (I.ok.lR b o e),I.base.free b o (I.ok.bs b o e).1 (I.ok.bs b o e).2 (I.ok.lR b o e)⟩
variable{o:Shared}{v:List (Addr×Obj)}{y2:List (Option V)}
theorem Inv.bk(I:Inv c v y2 e o):∀b a,c.base.get? b=some a->o.heap.get? b=some a:=λb a d=>(I.bs b a d).1
theorem Inv.mod{X:Cx}{pins:List (Addr×Obj)}{a:List (Option V)}{H:Hp}{s:Shared}(I:Inv X pins a H s):Mod X.K X.mg X.base:=I.ok.mod
theorem Inv.d5(I:Inv c v y2 e o):c.K.In o.heap:=I.ok.mod.Aa.keeps I.bk
theorem Inv.lt{X:Cx}{pins:List (Addr×Obj)}{a:List (Option V)}{H:Hp}{s:Shared}(I:Inv X pins a H s):X.env.locals<s.heap.objs.size:=let ⟨_,b,_⟩:=I.loc;b.lt
theorem Inv.sz(I:Inv c v y2 e o):c.s₀.heap.objs.size<=o.heap.objs.size:=Nat.le_trans I.ok.above (Nat.le_of_lt I.lt)
theorem Inv.MX(I:Inv c v y2 e o)(a:o.heap.objs.size<=h):h∉c.fs:=λd=>by
 obtain⟨_,b,f,_⟩:=I.ok.fq.mem d;exact absurd (Nat.lt_of_lt_of_le (Heap.lt_size f) (Nat.le_trans I.sz a)) (by simp)
theorem Inv.Ht(I:Inv c v y2 e o):∀x a,c.env.cells.lookup x=some a->a≠c.env.locals:=λx a b z=>by
 obtain⟨d,f,i,j⟩:=I.cell x a b;obtain⟨m,⟨k,l,n,g,h,_⟩,_⟩:=I.loc
 grind
theorem Inv.fq{X:Cx}{pins:List (Addr×Obj)}{h:List (Option V)}{H:Hp}{s:Shared}(I:Inv X pins h H s):s.heap.FunFrames X.base X.outer:=by
 have a:∀(l:List _),(∀b∈frs l,b∈X.fs)->X.s₀.heap.FunFrames X.base l->s.heap.FunFrames X.base l:=by
  intro l
  induction l with
  |nil=>intro _ _;trivial
  |cons i r j=>
   intro f k;obtain⟨m,⟨L,o,g,n,p,q⟩,t⟩:=k;have c:=f L (by unfold frs;grind)
   obtain⟨u,e⟩:=I.base.slot L o p (I.ok.uB L c) c λz=>I.ok.lS L z c
   exact⟨m,⟨L,_,g,n,e,q⟩,j (λb d=>f b (by unfold frs;rw[List.filterMap_cons,g];exact List.mem_cons_of_mem _ d)) t⟩
 exact a _ (λ_ d=>d) I.ok.fq
theorem Inv.stack{X:Cx}{pins:List (Addr×Obj)}{a:List (Option V)}{H:Hp}{s:Shared}(I:Inv X pins a H s):s.heap.FunFrames X.base X.stack:=by
 rcases I.ok.zX with e|⟨e,b⟩
 .rw[e];exact I.fq
 .rw[e]
  obtain⟨m,c,_⟩:=I.loc;refine .cons (by rw[I.ok.kind];decide) b c (Heap.get?_none_of_le (Nat.le_trans I.ok.rg I.ok.above)) I.fq
theorem Inv.nL(I:Inv c v y2 e o):∀b∈frs c.stack,b∈c.env.locals::c.fs:=λb d=>by
 rcases I.ok.zX with a|⟨a,f⟩
 .simp_all
 .rw[a]at d
  unfold frs at d;rwa[List.filterMap_cons,f]at d
theorem Inv.j_(I:Inv c v y2 e o):∀b∈frs c.stack,e b=none:=λb hb=>by
 rcases List.mem_cons.mp (I.nL b hb)with a|hb
 .rw[a];exact I.free
 .obtain⟨_,d,f,_⟩:=I.ok.fq.mem hb
  exact I.base.free b d f (I.ok.uB b hb) λz=>I.ok.lS b z hb
theorem Inv.step{X:Cx}{pins:List (Addr×Obj)}{R:List (Option V)}{H D:Hp}{s:Shared}{y:Heap}{S:Array GenState}{t':Nat}{Z:Drawn}{ch:List Addr}(I:Inv X pins R H s)(h:∀b∈ch,(b∈X.ex\/X.s₀.heap.objs.size<=b)/\b≠X.env.locals/\(∀x c,X.env.cells.lookup x=some c->c≠b)/\∀p∈X.pn++pins,p.1≠b)(keep:∀b o,b≠X.env.locals->b∉X.fs->b∉ch->s.heap.get? b=some o->H b=none->y.get? b=some o)(slot:∀b o,b≠X.env.locals->b∈X.fs->b∉ch->s.heap.get? b=some o->H b=none->∃P,y.get? b=some {o with slots:=P})(free:∀b o,b∉ch->s.heap.get? b=some o->H b=none->D b=none)(there:∀b o,b∉ch->s.heap.get? b=some o->∃G,y.get? b=some G)(tups:∀b xs,H b=some (.tup xs)->D b=some (.tup xs))(eD:∀b o u,H b=some (.dj o u)->D b=some (.dj o u))(fo:∀b L,H b=some (.Ew L)->∃more,D b=some (.Ew (L++more)))(ns:∀m,s.heap.Ns X.env.locals m->y.Ns X.env.locals m)(J:gN X.prog X.w D y)(hg:AllBare S):
  Inv X pins R D {s with heap:=y,gens:=S,drawn:=Z,toks:=t' }:=by
 have K:∀b o,X.s₀.heap.get? b=some o->b≠X.env.locals:=λb o e=>Nat.ne_of_lt (Nat.lt_of_lt_of_le (Heap.lt_size e) I.ok.above)
 have t:∀b o,X.s₀.heap.get? b=some o->b∉X.ex->b∉ch:=λb o e f B=>by
  rcases(h b B).1 with z|z
  .exact f z
  .exact absurd (Nat.lt_of_lt_of_le (Heap.lt_size e) z) (Nat.lt_irrefl _)
 have j:∀x c,X.env.cells.lookup x=some c->∀v,s.heap.IsCell c v->y.IsCell c v:=λx c e v ⟨o,A,M⟩=>by
  have a:c∉ch:=λz=>(h c z).2.2.1 x c e rfl
  rcases(I.cI x c e).1 with E|⟨F,N,O⟩
  .by_cases T:c∈X.fs
   .obtain⟨P,q⟩:=slot c o (I.Ht x c e) T a A E
    exact⟨_,q,M⟩
   .exact⟨o,keep c o (I.Ht x c e) T a A E,M⟩
  .have g:s.heap.get? c=some F:=(I.hok c _ O).1
   have C:y.get? c=some F:=(J c _ (eD c F N O)).1;rw[A]at g;cases g
   exact⟨o,C,M⟩
 refine⟨I.ok,I.os,hg,⟨λb o e n B f=>?_,λb o e n B f=>?_,λb o e n f=>?_,λb o e f=>?_,λb xs e=>tups b xs (I.base.tups b xs e),λb o xs e=>eD b o xs (I.base.eD b o xs e),λb L e=>?_⟩,?_,λx c e=>?_,?_,λx c e=>?_,λp U=>?_,J,I.len⟩
 .exact keep b o (K b o e) B (t b o e f) (I.base.keep b o e n B f) (I.base.free b o e n f)
 .obtain⟨P,g⟩:=I.base.slot b o e n B f
  obtain⟨Q,C⟩:=slot b _ (K b o e) B (t b o e f) g (I.base.free b o e n f);exact⟨Q,C⟩
 .obtain⟨G,g⟩:=I.base.there b o e f
  exact free b G (t b o e f) g (I.base.free b o e n f)
 .obtain⟨G,g⟩:=I.base.there b o e f
  exact there b G (t b o e f) g
 .obtain⟨m1,g⟩:=I.base.fo b L e
  obtain⟨m2,C⟩:=fo b _ g;exact⟨m1++m2,by rw[C,Array.append_assoc]⟩
 .obtain⟨m,E,hl⟩:=I.loc
  refine⟨m,ns m E,λi x v g C e3=>?_⟩
  obtain⟨u,r,l⟩:=hl i x v g C e3;refine⟨u,r,?_⟩;rcases l with l|⟨k,c,e,z⟩
  .exact .inl l
  .exact .inr ⟨k,c,e,j x c e _ z⟩
 .obtain⟨v,z⟩:=I.cell x c e
  exact⟨v,j x c e v z⟩
 .obtain⟨m,⟨o,_,_,A,_⟩,_⟩:=I.loc
  exact free _ o (λz=>(h _ z).2.1 rfl) A I.free
 .obtain⟨v,o,A,M⟩:=I.cell x c e
  have a:c∉ch:=λz=>(h c z).2.2.1 x c e rfl
  refine⟨?_,λhf=>free c o a A ((I.cI x c e).2 hf)⟩
  rcases(I.cI x c e).1 with E|⟨F,N,O⟩
  .exact .inl (free c o a A E)
  .exact .inr ⟨F,N,eD c F N O⟩
 .obtain⟨e,n,ne,Y,d⟩:=I.pin p U
  have a:p.1∉ch:=λz=>(h p.1 z).2.2.2 p U rfl
  exact⟨keep p.1 p.2 ne Y a e n,free p.1 p.2 a e n,ne,Y,d⟩
variable{b:Nat}
theorem Inv.un{s:Shared}(I:Inv c v y2 e s)(u:Un c.fs [] e ο s.heap w)(g:gN c.prog c.w ο w):Inv c v y2 ο {s with heap:=w,toks:=b}:=by
 obtain⟨m,⟨o,t,x,i,r⟩,_⟩:=id I.loc;obtain⟨y,j⟩:=u.any i I.free (by simp)
 exact I.step (ch:=[]) (λ_ z=>nomatch z) (λa o _ h _ d n=>u.keep a o d n h (by simp)) (λa o _ h _ d n=>u.slot a o d n h (by simp)) (λa o _ d n=>u.free a o d n (by simp)) (λa o _ d=>u.there a o d (by simp)) u.tups u.eD u.fo (λA k=>by
  obtain⟨B,l,p,f,q⟩:=k;rw[i]at f;cases f
  exact⟨_,_,_,j,q⟩) g I.bare
variable{L4:Drawn}{P4:Array GenState}
theorem Inv.call{s:Shared}(I:Inv c v y2 e s)(u:Un (frs c.stack) r e ο s.heap w)(j:gN c.prog c.w ο w)(t:AllBare P4)(h:∀a∈r,(a∈c.ex\/c.s₀.heap.objs.size<=a)/\a≠c.env.locals/\(∀x f,c.env.cells.lookup x=some f->f≠a)/\∀p∈c.pn++v,p.1≠a):
  Inv c v y2 ο {s with heap:=w,gens:=P4,drawn:=L4,toks:=b}:=by
 obtain⟨m,⟨o,E,F,l,q⟩,_⟩:=id I.loc;obtain⟨G,k⟩:=u.any l I.free λz=>(h _ z).2.1 rfl
 exact I.step h (λa o k y g d n=>u.keep a o d n (λz=>(List.mem_cons.mp (I.nL a z)).elim k y) g) (λa o _ _ g d n=>u.any d n g) (λa o g d n=>u.free a o d n g) (λa o g d=>u.there a o d g) u.tups u.eD u.fo (λH A=>by
  obtain⟨J,B,C,i,D⟩:=A;rw[l]at i;cases i
  exact⟨_,_,_,k,D⟩) j t
theorem Inv.turned{s:Shared}(I:Inv c v y2 e s)(k:∀a o,a≠h->s.heap.get? a=some o->w.get? a=some o)(G:e h=none)(l:h≠c.env.locals)(t:h∈c.ex\/c.s₀.heap.objs.size<=h)(y:∀x f,c.env.cells.lookup x=some f->f≠h)(A:∀p∈c.pn++v,p.1≠h):Inv c v y2 e {s with heap:=w,toks:=b}:=by
 have i:∀a u,e a=some u->a≠h:=λa u d z=>by grind
 refine I.step (ch:=[h]) (λa B=>?_) (λa o _ _ g d _=>k a o (λz=>g (by simp[z])) d) (λa o _ _ g d _=>⟨_,k a o (λz=>g (by simp[z])) d⟩) (λ_ _ _ _ n=>n)
  (λa o g d=>⟨o,k a o (λz=>g (by simp[z])) d⟩) (λ_ _ d=>d) (λ_ _ _ d=>d) (λa H d=>⟨#[],by simp_all⟩) (λm C=>?_) (λa u d=>?_) I.bare
 .have d:=by simpa using B
  subst d;exact⟨t,l,y,A⟩
 .obtain⟨o,D,E,F,r⟩:=C
  exact⟨o,D,E,k _ o (Ne.symm l) F,r⟩
 .refine(I.hok a u d).stay (λf j g q=>k f j ?_ q) (λ_ q=>q) λ_ _ q=>q
  rcases g with z|z
  .rw[z];exact i a u d
  .exact i f _ z
theorem Inv.tok{s:Shared}(I:Inv c v y2 e s)(t:Nat):Inv c v y2 e {s with toks:=t}:=I.un Un.refl I.hok
theorem Inv.kept{X:Cx}{pins:List (Addr×Obj)}{a:List (Option V)}{H:Hp}{s:Shared}{c:Heap}{t':Nat}(I:Inv X pins a H s)(k:∀b u,s.heap.get? b=some u->c.get? b=some u):Inv X pins a H {s with heap:=c,toks:=t' }:=I.un (Un.kept k) (I.hok.kept k)
theorem Inv.laid{X:Cx}{pins:List (Addr×Obj)}{f:List (Option V)}{H:Hp}{s:Shared}{c:Heap}{a:Addr}{o:HO}{t':Nat}(I:Inv X pins f H s)(k:∀b u,s.heap.get? b=some u->c.get? b=some u)(d:s.heap.objs.size<=a)(e:cT X.prog X.w (upd H a o) c a o):
  Inv X pins f (upd H a o) {s with heap:=c,toks:=t' }:=I.un (Un.laid k d (I.hok.fresh d)) (I.hok.laid k d e)
theorem Inv.write{X:Cx}{pins:List (Addr×Obj)}{f:List (Option V)}{H:Hp}{s:Shared}{c:Heap}{x e:Addr}{o:HO}{t':Nat}(I:Inv X pins f H s)(g:Hs (H x))(h:e=x\/H e=some (.own x))(k:∀b u,b≠e->s.heap.get? b=some u->c.get? b=some u)(a:∃u,c.get? e=some u)(d:cT X.prog X.w (upd H x o) c x o):Inv X pins f (upd H x o) {s with heap:=c,toks:=t' }:=I.un (Un.write g h k a) (I.hok.write g h k a d)
theorem Inv.weak{b:List (Option V)}(I:Inv c v y2 e o)(f:b.length=y2.length)(w:∀(i:Nat) a,b[i]?=some (some a)->y2[i]?=some (some a)):Inv c v b e o:=
 ⟨I.ok,I.os,I.bare,I.base,let ⟨m,g,d⟩:=I.loc;⟨m,g,λi x a h j k=>d i x a h (w i a j) k⟩,I.cell,I.free,I.cI,I.pin,I.hok,f.trans I.len⟩
theorem Inv.sP{a:List (Addr×Obj)}(I:Inv c v y2 e o)(h:∀p∈a,o.heap.get? p.1=some p.2/\e p.1=none/\p.1≠c.env.locals/\p.1∉c.fs/\∀b,p.2.data≠.cell b):Inv c a y2 e o:=
 ⟨I.ok,I.os,I.bare,I.base,I.loc,I.cell,I.free,I.cI,λp d=>(List.mem_append.mp d).elim (λz=>I.pin p (List.mem_append_left _ z)) (h p),I.hok,I.len⟩
variable{d:Str}{g:List Str}{t:Nat}
theorem pv(e:g.Nodup)(a:g[b]?=some d)(c:g[t]?=some d):b=t:=by
 obtain⟨i,f⟩:=List.getElem?_eq_some_iff.mp a;obtain⟨j,h⟩:=List.getElem?_eq_some_iff.mp c;exact(List.getElem_inj e).mp (f.trans h.symm)
variable{A4:Model}{H:Value}{N1:Unit->Shared->Prop}{O:Around}{U:Value->Shared->Prop}{u:V}
theorem mw{s:Shared}(I:Inv c v y2 e s)(hN:c.N.Nodup)(M:c.N[b]?=some d)(A:Loc c.env.scope d)(r:RelV u H)(h:∀S,Inv c v (y2.set b (some u)) e S->(∃a,Heap.SameBut a s.heap S.heap/\(a=c.env.locals\/c.env.cells.lookup d=some a))->N1 () S)(hf:c.fn d=true\/c.env.scope.names.lookup d=some .local:=by first|exact .inl rfl|exact .inr rfl|assumption):wpAny A4 O (storeName c.env d H) N1 U s:=by
 obtain⟨m,T,hl⟩:=id I.loc;have F:b<y2.length:=by rw[I.len];exact(List.getElem?_eq_some_iff.mp M).1
 have G:=I.Ht
 have t:∀{a:Addr}{L:Heap},(∃o,s.heap.get? a=some o/\e a=none)->Heap.SameBut a s.heap L->gN c.prog c.w e L:=λ{a L} ha l g ob f=>by
  obtain⟨_,_,V⟩:=ha;refine(I.hok g ob f).stay (λi X B q=>(l.2 i ?_).trans q) (λ_ q=>q) λ_ _ q=>q
  grind
 rcases A with hk|hk
 .refine wpAny_storeName_local hk T (λL Y l=>?_) (by rw[I.ok.kind];rfl)
  obtain⟨oL,_,_,Z,_⟩:=id T;refine h _ ⟨I.ok,I.os,I.bare,⟨λg o f n J A=>?_,λg o f n J A=>?_,I.base.free,λg o f A=>?_,I.base.tups,I.base.eD,I.base.fo⟩,⟨_,Y,λj y v' x D e3=>?_⟩,λy i f=>?_,I.free,I.cI,λp hp=>?_,t ⟨oL,Z,I.free⟩ l,by simpa using I.len⟩ ⟨_,l,.inl rfl⟩
  .exact(l.2 g (Nat.ne_of_lt (Nat.lt_of_lt_of_le (Heap.lt_size f) I.ok.above))).trans (I.base.keep g o f n J A)
  .obtain⟨sl,x⟩:=I.base.slot g o f n J A
   exact⟨sl,(l.2 g (Nat.ne_of_lt (Nat.lt_of_lt_of_le (Heap.lt_size f) I.ok.above))).trans x⟩
  .obtain⟨o',x⟩:=I.base.there g o f A
   exact⟨o',(l.2 g (Nat.ne_of_lt (Nat.lt_of_lt_of_le (Heap.lt_size f) I.ok.above))).trans x⟩
  .by_cases K:j=b
   .subst K
    rw[M]at x;cases x
    rw[List.getElem?_set_self F]at D;cases D;exact⟨H,r,.inl ⟨hk,by simp⟩⟩
   .rw[List.getElem?_set_ne (Ne.symm K)]at D
    obtain⟨u',r',q⟩:=hl j y v' x D e3;refine⟨u',r',?_⟩;rcases q with ⟨k,f⟩|⟨k,i,f,z⟩
    .refine .inl ⟨k,?_⟩
     have:y≠d:=λf=>K (pv hN x (f▸M))
     simp[this,f]
    .exact .inr ⟨k,i,f,z.sameBut l (G y i f)⟩
  .obtain⟨X,z⟩:=I.cell y i f
   exact⟨X,z.sameBut l (G y i f)⟩
  .obtain⟨f,n,ne,nf,C⟩:=I.pin p hp
   exact⟨(l.2 p.1 ne).trans f,n,ne,nf,C⟩
 .have E:c.fn d=true:=by
   rcases hf with z|z
   .exact z
   .rw[z]at hk;cases hk
  obtain⟨i,B⟩:=I.ok.has d (.inl hk);obtain⟨X,z⟩:=I.cell d i B;refine wpAny_storeName_cell I.ok.kind hk B z (λL P l=>?_)
  obtain⟨oc,a0,b0⟩:=id z;refine h {s with heap:=L} ⟨I.ok,I.os,I.bare,⟨λg o f n J A=>?_,λg o f n J A=>?_,I.base.free,λg o f A=>?_,I.base.tups,I.base.eD,I.base.fo⟩,⟨m,T.sameBut l (Ne.symm (G d i B)),λj y v' x D e3=>?_⟩,λy R f=>?_,I.free,I.cI,λp hp=>?_,t ⟨oc,a0,(I.cI d i B).2 E⟩ l,by simpa using I.len⟩ ⟨i,l,.inr B⟩
  .exact(l.2 g (Nat.ne_of_lt (Nat.lt_of_lt_of_le (Heap.lt_size f) (I.ok.cab d i E B)))).trans (I.base.keep g o f n J A)
  .obtain⟨sl,x⟩:=I.base.slot g o f n J A
   exact⟨sl,(l.2 g (Nat.ne_of_lt (Nat.lt_of_lt_of_le (Heap.lt_size f) (I.ok.cab d i E B)))).trans x⟩
  .obtain⟨o',x⟩:=I.base.there g o f A
   exact⟨o',(l.2 g (Nat.ne_of_lt (Nat.lt_of_lt_of_le (Heap.lt_size f) (I.ok.cab d i E B)))).trans x⟩
  .by_cases K:j=b
   .subst K
    rw[M]at x;cases x
    rw[List.getElem?_set_self F]at D;cases D;exact⟨H,r,.inr ⟨.inl hk,i,B,P⟩⟩
   .rw[List.getElem?_set_ne (Ne.symm K)]at D
    obtain⟨u',r',q⟩:=hl j y v' x D e3;refine⟨u',r',?_⟩;rcases q with q|⟨k,R,f,z'⟩
    .exact .inl q
    .refine .inr ⟨k,R,f,z'.sameBut l ?_⟩
     rintro rfl;exact K (pv hN x (I.ok.inj _ _ _ f B▸M))
  .by_cases Q:R=i
   .subst Q;exact⟨_,P⟩
   .obtain⟨w2,z2⟩:=I.cell y R f
    exact⟨w2,z2.sameBut l Q⟩
  .obtain⟨f,n,ne,nf,C⟩:=I.pin p hp
   refine⟨(l.2 p.1 ?_).trans f,n,ne,nf,C⟩
   grind
theorem kE(I:Inv c v y2 e o)(f:c.N.Nodup)(g:c.N[b]?=some d)(i:Loc c.env.scope d)(r:RelV u H)(h:∀a,Inv c v (y2.set b (some u)) e a->N1 () a)(j:c.fn d=true\/c.env.scope.names.lookup d=some .local:=by first|exact .inl rfl|exact .inr rfl|assumption):wpAny A4 O (storeName c.env d H) N1 U o:=
 mw I f g i r (λa k _=>h a k) j
variable{i7:Shared}
theorem Inv.call'(I:Inv c v y2 e o)(g:i7.os=o.os)(u:Un (frs c.stack) r e ο o.heap i7.heap)(d:gN c.prog c.w ο i7.heap)(h:AllBare i7.gens)(f:∀b∈r,(b∈c.ex\/c.s₀.heap.objs.size<=b)/\b≠c.env.locals/\(∀x a,c.env.cells.lookup x=some a->a≠b)/\∀p∈c.pn++v,p.1≠b):Inv c v y2 ο i7:=by
 obtain⟨i,j,k,l,m⟩:=i7;subst g;exact I.call u d h f
abbrev XK:=Value->Option Addr->Hp->Prop
abbrev St:=List (Option V)
abbrev VK:=V->Hp->Prop
abbrev TE:=St->Hp->VK->Prop
abbrev TT:=St->Hp->(Bool->Hp->Prop)->Prop
abbrev TA:=St->Hp->(List V->Hp->Prop)->Prop
structure Ends where
 nx:St->Hp->Prop
 rt:VK
 bk:St->Hp->Prop:=λ_ _=>False
 ct:St->Hp->Prop:=λ_ _=>False
abbrev TS:=Ends->St->Hp->Prop
def EP(X:Cx)(pins:List (Addr×Obj))(b:St)(Q:VK)(u:Value)(c:Shared):Prop:=∃v a,Inv X pins b a c/\RelV v u/\Q v a
def TP(X:Cx)(pins:List (Addr×Obj))(c:St)(Q:Bool->Hp->Prop)(b:Bool)(d:Shared):Prop:=∃a,Inv X pins c a d/\Q b a
def AP(X:Cx)(pins:List (Addr×Obj))(c:St)(Q:List V->Hp->Prop)(d:List Value)(e:Shared):Prop:=∃a b,Inv X pins c b e/\Vals a d/\Q a b
def SP(X:Cx)(pins:List (Addr×Obj))(D:Ends)(f:Flow)(c:Shared):Prop:=
 match f with
 |.next=>∃a b,Inv X pins a b c/\D.nx a b
 |.brk=>∃a b,Inv X pins a b c/\D.bk a b
 |.cont=>∃a b,Inv X pins a b c/\D.ct a b
 |.ret u=>∃v a b,Inv X pins a b c/\RelV v u/\D.rt v b
def PE(X:Cx)(e:Expr)(t:TE):Prop:=
 ∀(pins:List (Addr×Obj)) (s:Shared) (a:St) (H:Hp) (Q:VK),Inv X pins a H s->t a H Q->wpAny (model X.prog X.w) X.A (eval e X.env) (EP X pins a Q) X.xe s
def PT(X:Cx)(e:Expr)(t:TT):Prop:=
 ∀(pins:List (Addr×Obj)) (s:Shared) (a:St) (H:Hp) (Q:Bool->Hp->Prop),Inv X pins a H s->t a H Q->wpAny (model X.prog X.w) X.A (isTrue e X.env (eval e X.env)) (TP X pins a Q) X.xe s
def PW(X:Cx)(e:Expr)(t:TT):Prop:=
 ∀(a:Sem Value) (pins:List (Addr×Obj)) (s:Shared) (b:St) (H:Hp) (Q:Bool->Hp->Prop),Inv X pins b H s->t b H Q->wpAny (model X.prog X.w) X.A (isTrue e X.env a) (TP X pins b Q) X.xe s
variable{P1:TT}{j:Expr}
theorem PW.pt(h:PW c j P1):PT c j P1:=h _
def PA(X:Cx)(c:List Expr)(t:TA):Prop:=
 ∀(a:Pos) (pins:List (Addr×Obj)) (s:Shared) (b:St) (H:Hp) (Q:List V->Hp->Prop),Inv X pins b H s->t b H Q->wpAny (model X.prog X.w) X.A (spliced (backTo a (starEach c X.env))) (AP X pins b Q) X.xe s
def PS(X:Cx)(st:Stmt)(t:TS):Prop:=
 ∀(pins:List (Addr×Obj)) (s:Shared) (a:St) (H:Hp) (D:Ends),Inv X pins a H s->t D a H->wpAny (model X.prog X.w) X.A (exec st X.env) (SP X pins D) X.xe s
def gU(X:Cx)(st:List Stmt)(t:TS):Prop:=
 ∀(pins:List (Addr×Obj)) (s:Shared) (a:St) (H:Hp) (D:Ends),Inv X pins a H s->t D a H->wpAny (model X.prog X.w) X.A (execs st X.env) (SP X pins D) X.xe s
theorem bD{b:Type}{t:Sem b}{Q c:b->Shared->Prop}(h:wpAny A4 O t Q U o)(d:∀a o,Q a o->c a o):wpAny A4 O t c U o:=wpAny_mono h d λ_ _ x=>x
noncomputable def MY(i:Nat):TE:=λa H Q=>∃v,a[i]?=some (some v)/\Q v H
noncomputable def tC(v:V):TE:=λ_ H Q=>Q v H
variable{l:Pos}
theorem g_(o:c.N[b]?=some d)(p:sO c.env.scope d)(i:(d==("__debug__":Str))=false:=by decide)(j:(d==("__classdict__":Str))=false:=by decide):PE c (.Name d l) (MY b):=by
 intro pins s q H Q I h;obtain⟨v,e,h⟩:=h;obtain⟨m,t,w⟩:=I.loc;obtain⟨u,r,g⟩:=w b d v o e p;have f:EP c _ q Q u s:=⟨v,H,I,r,h⟩;rcases g with ⟨hk,x⟩|⟨hk,k,n,a⟩
 .exact wpAny_Name (wpAny_loadName_local I.ok.kind hk t x f) i
 .rcases hk with hk|hk
  .exact wpAny_Name (wpAny_loadName_cell I.ok.kind hk n a f) i
  .exact wpAny_Name (wpAny_loadName_free I.ok.kind hk n a f j) i
theorem Ex{i j pos}:PE c (.Constant (.int i) j pos) (tC (.int i)):=λ_ _ _ H _ I h=>wpAny_Constant_int ⟨.int i,H,I.tok _,⟨_,rfl⟩,h⟩
theorem Hu{b j pos}:PE c (.Constant (.bool b) j pos) (tC (.bl b)):=λ_ _ _ H _ I h=>Constant_bool ⟨.bl b,H,I,rfl,h⟩
theorem v_{j pos}:PE c (.Constant .none j pos) (tC .non):=λ_ _ _ H _ I h=>Constant_none ⟨.non,H,I,rfl,h⟩
theorem wa{x j pos}:PE c (.Constant (.str x) j pos) (tC (.str x)):=λ_ _ _ H _ I h=>Calls.Constant_str ⟨.str x,H,I.tok _,⟨_,rfl⟩,h⟩
def Gl(X:Cx)(x:Str):Prop:=X.env.kindOf x=some .globalImplicit
variable{M1:Value->Shared->Prop}{N:St}
theorem d9(I:Inv c v N e o)(a:Gl c d)(b:c.mg d=some H)(h:M1 H o)(f:(d==("__debug__":Str))=false:=by decide):wpAny (model c.prog c.w) c.A (eval (.Name d l) c.env) M1 U o:=
 Calls.Name_function_global I.ok.kind a (Calls.loadGlobal_global (by rw[I.ok.glob];exact I.mod.glob.keeps I.bk) b h) f
theorem jf(I:Inv c v N e o)(a:Gl c d)(b:c.mg d=none)(f:bootBuiltins d=some H)(h:M1 H o)(g:d≠"__name__":=by decide)(i:(d==("__debug__":Str))=false:=by decide):wpAny (model c.prog c.w) c.A (eval (.Name d l) c.env) M1 U o:=by
 obtain⟨m,j,k⟩:=I.mod.blt;exact Calls.Name_function_global I.ok.kind a (Calls.loadGlobal_builtin (by rw[I.ok.glob];exact I.mod.glob.keeps I.bk) b (by rw[I.ok.blt];exact j.keeps I.bk) ((k d g).trans f) h) i
theorem Ac(b:Gl c d)(e:c.mg d=some H)(r:RelV u H)(f:(d==("__debug__":Str))=false:=by decide):PE c (.Name d l) (tC u):=
 λ_ _ _ a _ I h=>d9 I b e ⟨u,a,I,r,h⟩ f
theorem Ad(b:Gl c d)(e:c.mg d=none)(f:bootBuiltins d=some H)(r:RelV u H)(g:d≠"__name__":=by decide)(i:(d==("__debug__":Str))=false:=by decide):PE c (.Name d l) (tC u):=
 λ_ _ _ a _ I h=>jf I b e f ⟨u,a,I,r,h⟩ g i
noncomputable def tB(t:TE):TT:=λa H Q=>t a H λx b=>∃c,x=.bl c/\Q c b
variable{ν:TE}
theorem wb(h:PE c j ν)(b:∀a,isTrue j c.env a=(do let v ←a;standAt j.pos;holding [v] (truthy v)):=by intro _;rfl):PT c j (tB ν):=by
 intro pins s e H Q I f;refine isTrue_plain (bD (h pins s e H _ I f) λv i ⟨x,H1,I1,g,q1⟩=>?_) (b _)
 obtain⟨d,rfl,q⟩:=q1;cases g;exact wpAny_truthy_bool ⟨H1,I1,q⟩
noncomputable def MZ(t u:TT):TT:=λa H Q=>t a H λc b=>if c=true then u a b Q else Q false b
noncomputable def RB(t u:TT):TT:=λa H Q=>t a H λc b=>if c=true then Q true b else u a b Q
noncomputable def M9(t:TT):TT:=λa H Q=>t a H λc b=>Q (!c) b
theorem pw_and1(b:PT c j P1):PW c (.BoolOp .And [j] l) P1:=by
 intro f pins s d H Q I h;refine isTrue_and (bD (b _ s d H Q I h) λa g e=>?_)
 cases a with
 |true=>exact isTrue_and_nil e
 |false=>exact e
theorem pw_or1(b:PT c j P1):PW c (.BoolOp .Or [j] l) P1:=by
 intro f pins s d H Q I h;refine isTrue_or (bD (b _ s d H Q I h) λa g e=>?_)
 cases a with
 |false=>exact isTrue_or_nil e
 |true=>exact e
variable{E:List Expr}{M:Expr}{y6:TT}
theorem pw_and(e:PT c j P1)(f:PW c (.BoolOp .And (M::E) l) y6):PW c (.BoolOp .And (j::M::E) l) (MZ P1 y6):=by
 intro g pins s b H Q I h;refine isTrue_and (bD (e _ s b H _ I h) λa i ⟨d,I1,q1⟩=>?_)
 cases a with
 |true=>exact f g _ i b d Q I1 q1
 |false=>exact⟨d,I1,q1⟩
theorem pw_or(e:PT c j P1)(f:PW c (.BoolOp .Or (M::E) l) y6):PW c (.BoolOp .Or (j::M::E) l) (RB P1 y6):=by
 intro g pins s b H Q I h;refine isTrue_or (bD (e _ s b H _ I h) λa i ⟨d,I1,q1⟩=>?_)
 cases a with
 |true=>exact⟨d,I1,q1⟩
 |false=>exact f g _ i b d Q I1 q1
theorem wc(a:PT c j P1):PT c (.UnaryOp .Not j l) (M9 P1):=by
 intro pins s b H Q I h;exact isTrue_not (a _ s b H _ I h)
theorem Ey{op}(h:PE c j ν):PE c (.BoolOp op [j] l) ν:=λpins s a H Q I b=>BoolOp_one (h _ s a H Q I b)
noncomputable def G9(t:TT)(d tb:TE):TE:=λa H Q=>t a H λc b=>if c=true then d a b Q else tb a b Q
variable{B1:Expr}{C2:TE}
theorem wd(f:PT c B1 P1)(g:PE c j ν)(i:PE c M C2):PE c (.IfExp B1 j M l) (G9 P1 ν C2):=by
 intro pins s a H Q I h;refine wpAny_IfExp (bD (f _ s a H _ I h) λd b ⟨e,I1,q1⟩=>?_)
 cases d with
 |true=>exact g _ b a e Q I1 q1
 |false=>exact i _ b a e Q I1 q1
def kF(K:PySem.W.Frag)(H:Hp)(a:Addr)(xs:List V):Prop:=
 Rd H a (.lst xs) \/
  ∃(o:Obj) (b:Array Value) (n:Nat),K.lookup a=some o/\o.cls=.type "list"/\o.dict=none/\o.data=.seq b n/\b.size<=sizeLine/\Vals xs b.toList
def sQ(K:PySem.W.Frag)(H:Hp)(a:Addr)(xs:List V):Prop:=
 Rd H a (.tup xs) \/
  ∃(o:Obj) (b:Array Value) (n:Nat),K.lookup a=some o/\o.cls=.type "tuple"/\o.data=.seq b n/\b.size<=sizeLine/\Vals xs b.toList
noncomputable def M_:Value->Option V
 |.none=>some .non
 |.bool b=>some (.bl b)
 |.int i _=>some (.int i)
 |.str x _=>some (.str x)
 |.bytes b _=>some (.GZ b)
 |.float b _=>some (.flt b)
 |.ref a=>some (.ref a)
 |.type n=>some (.ty n)
 |_=>none
theorem RelV.abs(r:RelV u H):M_ H=some u:=by
 cases u with
 |non=>cases r;rfl
 |bl _=>cases r;rfl
 |int _=>obtain⟨t,rfl⟩:=r;rfl
 |str _=>obtain⟨t,rfl⟩:=r;rfl
 |GZ _=>obtain⟨t,rfl⟩:=r;rfl
 |flt _=>obtain⟨t,rfl⟩:=r;rfl
 |ref _=>cases r;rfl
 |ty _=>cases r;rfl
theorem RelV.inj{x y:V}{u:Value}(r:RelV x u)(q:RelV y u):x=y:=Option.some.inj (r.abs.symm.trans q.abs)
theorem Vals.inj:∀{xs a:List V}{b:List Value},Vals xs b->Vals a b->xs=a
 |_,_,_,.nil,.nil=>rfl
 |_,_,_,.cons r t,.cons c d=>by rw[r.inj c,Vals.inj t d]
variable{I:List V}
theorem Inv.list(d:Inv c v N e o)(a:kF c.K e h I):∃b:List Value,Vals I b/\PlainL o.heap h b.toArray/\I.length<=sizeLine:=by
 rcases a with a|⟨f,b,n,i,j,k,l,m,r⟩
 .obtain⟨z,b,n,r,g⟩:=a.ok d.hok
  exact⟨_,r,⟨_,n,g,rfl,rfl,rfl⟩,z⟩
 .refine⟨_,r,⟨f,n,d.d5 h f i,j,k,by omega⟩,?_⟩
  have g:=r.length
  grind
theorem Inv.tuple(d:Inv c v N e o)(a:sQ c.K e h I):∃b:List Value,Vals I b/\IsTup o.heap h b.toArray/\I.length<=sizeLine:=by
 rcases a with a|⟨f,b,n,i,j,k,l,r⟩
 .obtain⟨z,b,r,p⟩:=a.ok d.hok
  exact⟨_,r,p,z⟩
 .refine⟨_,r,⟨f,d.d5 h f i,j,n,by omega⟩,?_⟩
  have g:=r.length
  simp_all
variable{Y3:List V}
theorem Inv.pw(a:Inv c v N e o)(b:kF c.K e h I)(k:kF c.K e h Y3):I=Y3:=by
 obtain⟨g,r,⟨i,n,j,_,_,d⟩,_⟩:=a.list b;obtain⟨f,l,⟨m,p,q,_,_,s⟩,_⟩:=a.list k;have:g=f:=by grind
 subst this;exact r.inj l
theorem Inv.uC(a:Inv c v N e o)(b:sQ c.K e h I)(k:sQ c.K e h Y3):I=Y3:=by
 obtain⟨g,r,⟨i,j,_,n,d⟩,_⟩:=a.tuple b;obtain⟨f,l,⟨m,p,_,q,s⟩,_⟩:=a.tuple k;have:g=f:=by grind
 subst this;exact r.inj l
abbrev Cx.wish(X:Cx)(E:Value->Shared->Prop):Cx:={X with xe:=E}
abbrev Cx.jP(X:Cx):Cx:=X.wish λ_ _=>False
theorem Cx.Ok.wish{X:Cx}(ok:X.Ok)(E:Value->Shared->Prop):(X.wish E).Ok:=
 ⟨ok.mod,ok.kind,ok.glob,ok.blt,ok.above,ok.inj,ok.has,ok.cab,ok.hd,ok.frames,ok.zX,ok.Ab,ok.bs,ok.rg,ok.lR,ok.lS,ok.fq,ok.uB⟩
theorem Cx.Ok.dA(ok:(c.wish U).Ok):c.Ok:=
 ⟨ok.mod,ok.kind,ok.glob,ok.blt,ok.above,ok.inj,ok.has,ok.cab,ok.hd,ok.frames,ok.zX,ok.Ab,ok.bs,ok.rg,ok.lR,ok.lS,ok.fq,ok.uB⟩
theorem Inv.wish{X:Cx}{pins:List (Addr×Obj)}{a:St}{H:Hp}{s:Shared}(I:Inv X pins a H s)(E:Value->Shared->Prop):Inv (X.wish E) pins a H s:=⟨I.ok.wish E,I.os,I.bare,I.base,I.loc,I.cell,I.free,I.cI,I.pin,I.hok,I.len⟩
theorem Inv.dA{X:Cx}{pins:List (Addr×Obj)}{a:St}{H:Hp}{s:Shared}{E:Value->Shared->Prop}(I:Inv (X.wish E) pins a H s):Inv X pins a H s:=⟨I.ok.dA,I.os,I.bare,I.base,I.loc,I.cell,I.free,I.cI,I.pin,I.hok,I.len⟩
theorem SP.dA{X:Cx}{pins:List (Addr×Obj)}{E:Value->Shared->Prop}{D:Ends}{f:Flow}{c:Shared}(h:SP (X.wish E) pins D f c):SP X pins D f c:=by
 cases f with
 |next=>obtain⟨a,b,I,q⟩:=h;exact⟨_,b,I.dA,q⟩
 |brk=>obtain⟨a,b,I,q⟩:=h;exact⟨_,b,I.dA,q⟩
 |cont=>obtain⟨a,b,I,q⟩:=h;exact⟨_,b,I.dA,q⟩
 |ret u=>obtain⟨v,a,b,I,r,q⟩:=h;exact⟨v,_,b,I.dA,r,q⟩
theorem gU.jP{X:Cx}{st:List Stmt}{t:TS}(h:gU X.jP st t):gU X st t:=λpins s a H D I b=>
 wpAny_mono (h _ s a H D (I.wish _) b) (λ_ _ q=>q.dA) (by simp)
noncomputable def Hv:TS:=λD a H=>D.nx a H
noncomputable def Na(t u:TS):TS:=λD a H=>t {D with nx:=u D} a H
theorem sR:gU c [] Hv:=λ_ _ a H _ I h=>wpAny_execs_nil ⟨a,H,I,h⟩
variable{A5 W6:TS}{G2:List Stmt}{Δ:Stmt}
theorem pz(a:PS c Δ A5)(b:gU c G2 W6):gU c (Δ::G2) (Na A5 W6):=by
 intro pins s d H D I h;refine wpAny_execs_cons (bD (a _ s d H _ I h) λf e q=>?_)
 cases f with
 |next=>
  obtain⟨g,i,j,q⟩:=q;exact b _ e _ i D j q
 |ret v=>exact q
 |brk=>exact q
 |cont=>exact q
theorem nM(a:PS c Δ A5):gU c [Δ] A5:=by
 intro pins s b H D I h;refine wpAny_execs_cons (bD (a _ s b H D I h) λf d q=>?_)
 cases f with
 |next=>exact wpAny_execs_nil q
 |ret v=>exact q
 |brk=>exact q
 |cont=>exact q
theorem Inv.quiet(I:Inv c v N e o):interactive c.env=false:=by simp[interactive,I.ok.kind]
noncomputable def Hw(b:TE):TS:=λD a H=>b a H λ_ c=>D.nx a c
theorem Ae(b:PE c j ν)(d:swapsWith j none l.line c.env=pure false:=by rfl):PS c (.Expr j l) (Hw ν):=by
 intro pins s a H D I h;exact wpAny_Expr_any (bD (b _ s a H _ I h) λv e ⟨x,H1,I1,r1,q1⟩=>⟨a,H1,I1,q1⟩) I.quiet d
noncomputable def Nb(a:TE):TS:=λD b H=>a b H D.rt
theorem Ez(b:PE c j ν):PS c (.Return (some j) l) (Nb ν):=by
 intro pins s a H D I h;exact wpAny_Return_some (bD (b _ s a H _ I h) λv d ⟨x,H1,I1,r1,q1⟩=>⟨x,a,H1,I1,r1,q1⟩)
noncomputable def Nc(c:TT)(t u:TS):TS:=λD a H=>c a H λb d=>if b=true then t D a d else u D a d
variable{A7:List Stmt}
theorem DC(f:PT c j P1)(g:gU c G2 A5)(i:gU c A7 W6):PS c (.If j G2 A7 l) (Nc P1 A5 W6):=by
 intro pins s a H D I h;refine wpAny_If (bD (f _ s a H _ I h) λd b ⟨e,I1,q1⟩=>?_)
 cases d with
 |true=>exact g _ b a e D I1 q1
 |false=>exact i _ b a e D I1 q1
abbrev TG:=V->St->Hp->(St->Hp->Prop)->Prop
abbrev DD:=List V->St->Hp->(St->Hp->Prop)->Prop
def PG(X:Cx)(a:Expr)(t:TG):Prop:=
 ∀(pins:List (Addr×Obj)) (s:Shared) (c:St) (H:Hp) (v:V) (u:Value) (Q:St->Hp->Prop),Inv X pins c H s->RelV v u->t v c H Q ->
  wpAny (model X.prog X.w) X.A (assign a X.env u) (λ_ e=>∃b d,Inv X pins b d e/\Q b d) X.xe s
def Hx(X:Cx)(f:List Expr)(t:DD):Prop:=
 ∀(pins:List (Addr×Obj)) (s:Shared) (b:St) (H:Hp) (c:List V) (d:List Value) (Q:St->Hp->Prop),Inv X pins b H s->Vals c d->t c b H Q ->
  wpAny (model X.prog X.w) X.A (assignInOrder ((assignEach f X.env).map (·.2)) d) (λ_ g=>∃a e,Inv X pins a e g/\Q a e) X.xe s
noncomputable def ik(i:Nat):TG:=λv a H Q=>Q (a.set i (some v)) H
theorem ka(a:c.N.Nodup)(e:c.N[b]?=some d)(f:Loc c.env.scope d)(g:c.fn d=true\/c.env.scope.names.lookup d=some .local:=by first|exact .inl rfl|exact .inr rfl|assumption):PG c (.Name d l) (ik b):=by
 intro pins s j H v u Q I r h;exact wpAny_assign_Name (kE I a e f r (λk i=>⟨_,H,i,h⟩) g)
noncomputable def Hy:DD:=λa b H Q=>a=[]/\Q b H
noncomputable def DE(t:TG)(u:DD):DD:=λb c H Q=>∃v r,b=v::r/\t v c H λa d=>u r a d Q
theorem Af:Hx c [] Hy:=by
 intro pins s a H b d Q I r h;obtain⟨e,h⟩:=h;exact assignInOrder_nil ⟨a,H,I,h⟩
variable{C4:TG}
theorem we{u:DD}(a:PG c j C4)(b:Hx c E u)(d:(assignEach (j::E) c.env).map (·.2)=assign j c.env::(assignEach E c.env).map (·.2):=by rfl):Hx c (j::E) (DE C4 u):=by
 intro pins s e H k l Q I r h;obtain⟨v,vr,f,h⟩:=h;subst f;cases r with
 |cons r g=>
  rw[d];refine assignInOrder_cons (bD (a _ s e H _ _ _ I r h) λ_ i ⟨_,H1,I1,q1⟩=>b _ i _ H1 _ _ Q I1 g q1)
noncomputable def Ag(K:PySem.W.Frag)(n:Nat)(t:DD):TG:=λv c H Q=>∃a b,v=.ref a/\sQ K H a b/\b.length=n/\t b c H Q
theorem EA{d:DD}(j:c.calm=true)(h:Hx c E d)(k:(assignEach E c.env).length=t:=by rfl)(g:(assignEach E c.env).findIdx? (·.1)=none:=by rfl):PG c (.Tuple E b l) (Ag c.K t d):=by
 intro pins s m H v u Q I r i;obtain⟨a,n,p,q,w,i⟩:=i;subst p;cases r;obtain⟨x,y,z,B⟩:=I.tuple q;refine assign_Tuple_tuple (I.ok.hd j) z (by simp[k,←w,y.length]) g λC A=>?_
 exact h _ _ m H n _ Q (I.kept (t':=s.toks) λf o e=>A f o (Nat.ne_of_lt (Heap.lt_size e)) e) (by grind) i
noncomputable def EB(b:TE)(g:TG):TS:=λD a H=>b a H λx c=>g x a c D.nx
theorem EC(b:PE c M ν)(d:PG c j C4)(e:swapsWithSole [j] M l.line c.env=pure false:=by rfl)(f:swappedStores [j] M c.env=pure none:=by rfl)(g:(assignEach [j] c.env).map (·.2)=[assign j c.env]:=by rfl):PS c (.Assign [j] M l) (EB ν C4):=by
 intro pins s a H D I h;refine wpAny_Assign_stores (bD (b _ s a H _ I h) λv i ⟨x,H1,I1,r1,q1⟩=>?_) e f
 rw[g];exact bD (d _ i a H1 x v _ I1 r1 q1) λ_ k q=>q
variable{C:Pos}
theorem nN(a:c.N.Nodup)(e:c.N[b]?=some d)(f:Loc c.env.scope d)(g:PE c j ν)(i:swapsWith j (some (.Name d C)) l.line c.env=pure false:=by rfl)(k:c.fn d=true\/c.env.scope.names.lookup d=some .local:=by first|exact .inl rfl|exact .inr rfl|assumption):
  PS c (.Assign [.Name d C] j l) (EB ν (ik b)):=by
 intro pins s m H D I h;refine wpAny_Assign_Name (bD (g _ s m H _ I h) λv t ⟨y,n,o,p,q⟩=>kE o a e f p (λu r=>⟨_,n,r,q⟩) k) i
noncomputable def ED(c:TT)(tb:TS):TS:=λD a H=>∃W:Nat->St->Hp->Prop,(∃m,W m a H)/\∀m a H,W m a H ->
 c a H λb e=>if b=true then ∃N:St->Hp->Prop,(∀d f,N d f->∃g,g<m/\W g d f)/\tb {D with nx:=N,ct:=N,bk:=D.nx} a e else D.nx a e
theorem wg(t:PassesOwn (model c.prog c.w) c.A c.env c.xe)(B:PT c j P1)(C:gU c G2 A5):PS c (.While j G2 [] l) (ED P1 A5):=by
 intro pins s E H D I h;obtain⟨W,⟨F,G⟩,a⟩:=h;refine wpAny_While (codeAny_whileLoop (λn J=>∃d u,Inv c _ d u J/\W n d u) ?_ F ⟨E,H,I,G⟩)
 rintro n K ⟨L,x,M,O⟩;refine wpAny_passesOwn t (bD (B _ K _ x _ M (a n _ x O)) λb P ⟨y,I2,g⟩=>?_)
 cases b with
 |true=>
  obtain⟨N,z,g⟩:=g;refine wpAny_passesOwn t (bD (C _ P _ y _ I2 g) λf Q i=>?_)
  cases f with
  |next=>
   obtain⟨k,e,m,o⟩:=i;obtain⟨p,q,r⟩:=z _ e o;exact⟨p,q,_,e,m,r⟩
  |cont=>
   obtain⟨k,e,m,o⟩:=i;obtain⟨p,q,r⟩:=z _ e o;exact⟨p,q,_,e,m,r⟩
  |brk=>exact i
  |ret v=>exact i
 |false=>
  exact wpAny_execs_nil ⟨_,y,I2,g⟩
structure It where
 go:Nat->Hp->Prop
 KA:Nat->Hp->V->Hp->Prop
 stop:Nat->Hp->Prop
def lT(X:Cx)(pins:List (Addr×Obj))(H:Hp)(b:Addr):Prop:=
 H b=none/\b≠X.env.locals/\b∉X.fs/\(b∈X.ex\/X.s₀.heap.objs.size<=b)/\(∀x c,X.env.cells.lookup x=some c->c≠b)/\∀p∈X.pn++pins,p.1≠b
theorem Inv.wh(I:Inv c v N e o)(d:o.heap.objs.size<=h)(g:ο h=none):lT c v ο h:=by
 refine⟨g,Nat.ne_of_gt (Nat.lt_of_lt_of_le I.lt d),I.MX d,.inr (Nat.le_trans I.sz d),λx a b z=>?_,λp i z=>?_⟩
 .obtain⟨f,q⟩:=I.cell x a b
  exact absurd (Nat.lt_of_lt_of_le q.lt (by rwa[z])) (Nat.lt_irrefl _)
 .exact absurd (Nat.lt_of_lt_of_le (Heap.lt_size (I.pin p i).1) (by rwa[z])) (Nat.lt_irrefl _)
structure Turn(P:Program)(w:World)(K:PySem.W.Frag)(tg:Expr)(J:It)(fp:List Addr)(it:Addr)(tn:Nat->Heap->Prop):Prop where
 mem:it∈fp
 obj:∀i h,tn i h->∀b∈fp,∃o,h.get? b=some o/\∀v,o.data≠.cell v
 keep:∀i h h',tn i h->(∀b∈fp,∀o,h.get? b=some o->h'.get? b=some o)->tn i h'
 item:∀(X:Cx),X.prog=P->X.w=w->X.K=K->X.calm=true->∀(i:Nat) (pins:List (Addr×Obj)) (s:Shared) (σ:St) (H:Hp) (E:Value->Shared->Prop),Inv X pins σ H s->(∀b∈fp,lT X pins H b)->tn i s.heap->J.go i H ->
  wpAny (model P w) X.A (pyNext (.ref it)) (λr s1=>∃u,r=some u /\
   wpAny (model P w) X.A (letOwnedTupleGo tg (.ref it) u) (λ_ s2=>∃x H',Inv X pins σ H' s2/\RelV x u/\J.KA i H x H'/\tn (i+1) s2.heap/\∀b∈fp,H' b=none) E s1) E s
 done:∀(X:Cx),X.prog=P->X.w=w->X.K=K->X.calm=true->∀(i:Nat) (pins:List (Addr×Obj)) (s:Shared) (σ:St) (H:Hp) (E:Value->Shared->Prop),Inv X pins σ H s->(∀b∈fp,lT X pins H b)->tn i s.heap->J.stop i H ->
  wpAny (model P w) X.A (pyNext (.ref it)) (λr s1=>r=none/\Inv X pins σ H s1) E s
 self:∀(A:Around) (i:Nat) (s:Shared) (Q:Value->Shared->Prop) (E:Value->Shared->Prop),tn i s.heap->Q (.ref it) s->wpAny (model P w) A (pyIter (.ref it)) Q E s
abbrev TI:=St->Hp->(It->Hp->Prop)->Prop
def PIE(X:Cx)(pins:List (Addr×Obj))(h:St)(i:Expr)(R:It->Hp->Prop)(a:Value)(d:Shared):Prop:=
 ∃(e:Addr) (f:List Addr) (g:Nat->Heap->Prop) (J:It) (c:Hp),a=.ref e/\Inv X pins h c d/\Turn X.prog X.w X.K i J f e g/\g 0 d.heap/\(∀b∈f,lT X pins c b)/\R J c
def PI(X:Cx)(b iter:Expr)(c:TI):Prop:=
 ∀(pins:List (Addr×Obj)) (s:Shared) (a:St) (H:Hp) (R:It->Hp->Prop),Inv X pins a H s->c a H R ->
  wpAny (model X.prog X.w) X.A (eval iter X.env) (λv d=>wpAny (model X.prog X.w) X.A (pyIter v) (PIE X pins a b R) X.xe d) X.xe s
variable{U1:String}{u5:Array Value}
theorem pA(b:o.heap.get? h=some ω)(c:ω.cls=.type U1)(d:ω.data=.fields u5)(e:["enumerate","zip","dict_itemiterator","dict_reverseitemiterator","odict_iterator","itertools.zip_longest","itertools.pairwise"].contains U1=false)(a:N1 () o):wpAny A4 O (letOwnedTupleGo j (.ref h) H) N1 U o:=by
  cases j<;>first
    |exact wpAny_pure a
    | (cases H<;>first
        |exact wpAny_pure a
        | (refine wpAny_bind (wpAny_load b ?_)
           rw[c,d]
           show wpAny A4 O (if (["enumerate","zip","dict_itemiterator","dict_reverseitemiterator","odict_iterator","itertools.zip_longest","itertools.pairwise"].contains U1&&u5[0]?==some _)=true then _ else _) N1 U o
           rw[if_neg (by grind)]
           exact wpAny_pure a))
noncomputable def Nd(K:PySem.W.Frag)(a:Addr):It:=
 ⟨λi H=>∃b x,kF K H a b/\b[i]?=some x,λi H x c=>c=H/\∀b,kF K H a b->b[i]?=some x,λi H=>∃b,kF K H a b/\b.length<=i⟩
noncomputable def Nf(K:PySem.W.Frag)(a:Addr):It:=
 ⟨λi H=>∃b x,sQ K H a b/\b[i]?=some x,λi H x c=>c=H/\∀b,sQ K H a b->b[i]?=some x,λi H=>∃b,sQ K H a b/\b.length<=i⟩
noncomputable def KC(a:Int)(n:Nat):It:=⟨λi _=>i<n,λi H x b=>b=H/\x=.int (a+i),λi _=>n<=i⟩
variable{x:PySem.W.Frag}
theorem uD(a g:Addr):Turn z A x j (Nd x a) [g] g (λi h=>h.IsListIter g a i) where
 mem:=by simp
 obj:=λi h f b l=>by
  obtain⟨o,e,c,d⟩:=f
  simp_all
 keep:=λi h M f k=>f.at λo e=>k g (by simp) o e
 item:=by
  intro X t w y N i pins s P H E I q f B;subst t w y;obtain⟨Q,m,r,O⟩:=B;obtain⟨C,D,p,R⟩:=I.list r;obtain⟨u,S,T⟩:=D.get O;obtain⟨F,G,U,J,K,L⟩:=q g (by simp)
  refine wpAny_pyNext_list_item f p.isList (by simpa using S) λM n V=>?_
  obtain⟨o,e,c,d⟩:=id n;exact⟨u,rfl,pA e c d (by decide) ⟨m,H,(I.turned (λb o l e=>(V.2 b l).trans e) F G J K L),T,⟨rfl,λys Y=>by rwa[I.pw Y r]⟩,n,λb l=>(q b l).1⟩⟩
 done:=by
  intro X t w y N i pins s P H E I q f B;subst t w y;obtain⟨Q,r,O⟩:=B;obtain⟨C,D,p,R⟩:=I.list r;obtain⟨F,G,U,J,K,L⟩:=q g (by simp)
  have hl:=D.length;exact wpAny_pyNext_list_end (I.ok.hd N) f p.isList (by simp;omega) λM Z=>⟨rfl,I.turned (λb o l e=>Z b o l e) F G J K L⟩
 self:=λ_ _ _ _ _ f h=>wpAny_pyIter_listiter f h
theorem rh(a g:Addr):Turn z A x j (Nf x a) [g] g (λi h=>h.IsTupleIter g a i) where
 mem:=by simp
 obj:=λi h f b n=>by
  obtain⟨o,e,c,d⟩:=f
  grind
 keep:=λi h M f k=>f.at (by grind)
 item:=by
  intro X r t w N i pins s P H E I y f B;subst r t w;obtain⟨Q,l,q,O⟩:=B;obtain⟨C,D,p,R⟩:=I.tuple q;obtain⟨u,S,T⟩:=D.get O;obtain⟨F,G,U,J,K,L⟩:=y g (by simp)
  refine wpAny_pyNext_tuple_item f (p) (by simpa using S) λM m V=>?_
  obtain⟨o,e,c,d⟩:=id m;exact⟨u,rfl,pA e c d (by decide) ⟨l,H,(I.turned (b:=s.toks) (λb o n e=>(V.2 b n).trans e) F G J K L),T,⟨rfl,λys Y=>by rwa[I.uC Y q]⟩,m,by grind⟩⟩
 done:=by
  intro X r t w N i pins s P H E I y f B;subst r t w;obtain⟨Q,q,O⟩:=B;obtain⟨C,D,p,R⟩:=I.tuple q;obtain⟨F,G,U,J,K,L⟩:=y g (by simp)
  have hl:=D.length;exact wpAny_pyNext_tuple_end (I.ok.hd N) f (p) (by simp;omega) λM Z=>⟨rfl,I.turned (λb o n e=>Z b o n e) F G J K L⟩
 self:=λ_ _ _ _ _ f h=>wpAny_pyIter_tupleiter f h
theorem ri{w:World}(c:Addr)(f:Int)(n:Nat):Turn z w x j (KC f n) [c] c (λi h=>IsRangeIter h c (f+(i:Nat)*1) ((n:Int) - (i:Nat)) 1) where
 mem:=by simp
 obj:=λi h a b g=>by
  grind
 keep:=λi h B a k=>k c (by simp) _ a
 item:=by
  intro X C D F l i pins s G H E I m a p;subst C D F;obtain⟨q,r,J,u,y,A⟩:=m c (by simp)
  have W:=Walks.range (prog:=X.prog) (w:=X.w) (I.ok.hd l) c f 1 n;refine W.item i s _ _ p a λv B N K d L=>?_
  obtain⟨t,rfl⟩:=K;refine⟨_,rfl,pA d rfl rfl (by decide) ⟨.int _,H,(I.turned (λb o g e=>L b o (by grind) e) q r u y A),⟨t,?_⟩,⟨rfl,rfl⟩,d,by grind⟩⟩
  grind
 done:=by
  intro X C D F l i pins s G H E I m a p;obtain⟨q,r,J,u,y,A⟩:=m c (by simp)
  exact wpAny_pyNext_range_end (I.ok.hd l) a (by have:n<=i:=p;omega) λB M=>⟨rfl,I.turned (λb o g e=>M b o g e) q r u y A⟩
 self:=λ_ _ _ _ _ a h=>wpAny_pyIter_rangeiter a h
variable{L6:It->Hp->Prop}{M0 P:Int}{T6:Tok}
theorem wj{s:Shared}{u d:Tok}(I:Inv c v N e s)(h : -(2 ^ 62)<=P)(i:P<2 ^ 62)(k : -(2 ^ 62)<=M0)(l:M0<2 ^ 62)(q:L6 (KC P (M0 - P).toNat) e):wpAny (model c.prog c.w) c.A (pyIter (.ref s.heap.objs.size)) (PIE c v N j L6) U {s with heap:=s.heap.push {cls:=.type "range",data:=.fields #[.int P T6,.int M0 u,.int 1 d]},toks:=b}:=by
 refine wpAny_pyIter_range (IsRange.new ..) (small_one h i k l) ?_;have g:Inv c _ N e {s with heap:=s.heap.push {cls:=.type "range",data:=.fields #[.int P T6,.int M0 u,.int 1 d]},toks:=b}:=I.kept λf o a=>Heap.get?_push_of_some _ a
 refine⟨_,_,_,_,e,rfl,
  g.kept λf o a=>Heap.get?_push_of_some _ a,ri _ P _,?_,λf p=>?_,q⟩
 .have m:P+((0:Nat))*1=P:=by simp
  have n:(((M0 - P).toNat)) - ((0:Nat))=Builtin.Range.rangeSize P M0 1:=by rw[rangeSize_one];grind
  rw[m,n];exact Heap.get?_push_size _ rfl
 .have a:f=(s.heap.push {cls:=.type "range",data:=.fields #[.int P T6,.int M0 u,.int 1 d]}).objs.size:=by grind
  subst a;exact g.wh (Nat.le_refl _) (g.hok.fresh (Nat.le_refl _))
def Hz(a:TA):TI:=λb H R=>a b H λc d=>∃j:Int,c=[.int j] /\ -(2 ^ 62)<=j/\j<2 ^ 62/\R (KC 0 j.toNat) d
variable{Q1:TA}
theorem uE(d:Gl c "range")(f:c.mg "range"=none)(g:PA c [M] Q1)(i:starEach [M] c.env=[(false,eval M c.env)]:=by rfl):PI c j (.Call (.Name "range" l) [M] [] C) (Hz Q1):=by
 intro pins s k H R I h;refine Call_ (jf I d f boot_range (PyProof.Rows.callWith_type1 (bD (g _ _ s k H _ I h) λp u ⟨w,H1,I1,m,a⟩=>?_) i rfl))
 obtain⟨b,e,a,n,q⟩:=a;subst e;cases m with
 |cons r o=>
  cases o;obtain⟨t,rfl⟩:=r;exact call_range_1 (wj I1 (by omega) (by omega) a n (by simp_all))
noncomputable def Ng(f:TI)(g:TG)(tb:TS):TS:=λD a H=>f a H λJ h=>∃W:Nat->Nat->St->Hp->Prop,(∃m,W 0 m a h)/\∀i m a H,W i m a H ->
 (J.stop i H/\D.nx a H)\/(J.go i H/\∃N:St->Hp->Prop,(∀b c,N b c->∃e,e<m/\W (i+1) e b c)/\∀x c,J.KA i H x c->g x a c λd j=>tb {D with nx:=N,ct:=N,bk:=D.nx} d j)
noncomputable def nO(fp:List Addr)(h:Heap):List (Addr×Obj):=fp.filterMap λb=>(h.get? b).map λo=>(b,o)
theorem ft(a:h∈r)(e:w.get? h=some ω):(h,ω)∈nO r w:=List.mem_filterMap.mpr ⟨h,a,by rw[e];rfl⟩
theorem uF{p:Addr×Obj}(a:p∈nO r w):p.1∈r/\w.get? p.1=some p.2:=by
 obtain⟨b,c,e⟩:=List.mem_filterMap.mp a;cases q:w.get? b with
 |none=>grind
 |some o=>
  grind
theorem Inv.pinned(I:Inv c v N e o)(i:∀b∈r,lT c v e b)(j:∀b∈r,∃a,o.heap.get? b=some a/\∀f,a.data≠.cell f):Inv c (v++nO r o.heap) N e o:=
 I.sP λp k=>(List.mem_append.mp k).elim (λz=>I.pin p (List.mem_append_right _ z)) λz=>by
  obtain⟨g,h⟩:=uF z;obtain⟨l,m,n,_⟩:=i _ g;obtain⟨a,q,d⟩:=j _ g
  simp_all
theorem Inv.il{pl:List (Addr×Obj)}(I:Inv c (v++pl) N e o):Inv c v N e o:=I.sP λp a=>I.pin p (List.mem_append_right _ (List.mem_append_left _ a))
variable{z6:TI}
theorem EE(C:PassesOwn (model c.prog c.w) c.A c.env c.xe)(S:c.calm=true)(hi:PI c j M z6)(hg:PG c j C4)(g:gU c G2 A5)(hs:∀x,foldedSetIterable M c.env x=pure x:=by intro _;rfl):PS c (.For j M G2 [] l) (Ng z6 C4 A5):=by
 intro pins s U H D I h;refine wpAny_For (bD (hi pins s U H _ I h) λv s1 h1=>bD h1 λa0 s2 h2=>?_) hs
 obtain⟨it,L,V,J,H2,e,I2,T,P,X,W,⟨m0,w0⟩,E⟩:=h2;subst e;have k:∀{z:Hp},(∀b∈L,z b=none)->∀b∈L,lT c pins z b:=λhn b g=>⟨hn b g,(X b g).2⟩
 refine codeAny_forLoop_any (λn Y=>∃i p z,Inv c pins p z Y/\V i Y.heap/\(∀b∈L,z b=none)/\W i n p z) ?_ m0 ⟨0,U,H2,I2,P,λb g=>(X b g).1,w0⟩
 rintro n Z ⟨i,q,O,I3,F,G,w3⟩;rcases E i n q O w3 with ⟨stop,qn⟩|⟨go,N,hN,step⟩
 .refine wpAny_passesOwn C (bD (T.done c rfl rfl rfl S i pins Z q O _ I3 (k G) F stop) λr s4 ⟨Q,I4⟩=>?_)
  subst Q;exact wpAny_execs_nil ⟨q,O,I4,qn⟩
 .refine wpAny_passesOwn C (bD (T.item c rfl rfl rfl S i _ Z q O _ I3 (k G) F go) λr s4 ⟨u,Q,h4⟩=>?_)
  subst Q;refine wpAny_passesOwn C (bD h4 λ_ s5 ⟨x,H5,I5,r5,y5,Nh,RC⟩=>?_)
  refine wpAny_passesOwn C (bD (hg _ s5 q H5 x u _ (I5.pinned (k RC) (T.obj _ _ Nh)) r5 (step x H5 y5)) λ_ s6 ⟨R,H6,I6,q6⟩=>?_)
  refine wpAny_passesOwn C (bD (g _ s6 R H6 _ I6 q6) λf s7 B=>?_)
  have again:∀{a:St}{t:Hp},Inv c _ a t s7->N a t->∃m,m<n/\∃i p z,Inv c pins p z s7/\V i _/\(∀b∈L,z b=none)/\W i m p z:=λ{a t} y K=>by
   obtain⟨m',hm,w7⟩:=hN a t K;refine⟨m',hm,_,a,t,y.il,T.keep _ _ _ Nh λb g o e=>(y.pin _ (List.mem_append_right _ (List.mem_append_right _ (ft g e)))).1,λb g=>?_,w7⟩
   obtain⟨o,e,d⟩:=T.obj _ _ Nh b g;exact(y.pin _ (List.mem_append_right _ (List.mem_append_right _ (ft g e)))).2.1
  cases f with
  |next=>obtain⟨a,t,y,K⟩:=B;exact again y K
  |cont=>obtain⟨a,t,y,K⟩:=B;exact again y K
  |brk=>obtain⟨a,t,y,B⟩:=B;exact⟨a,t,y.il,B⟩
  |ret v=>obtain⟨x7,a,t,y,r7,B⟩:=B;exact⟨x7,a,t,y.il,r7,B⟩
abbrev R2:=V->V->Hp->VK->Prop
def fT(X:Cx)(f:Value->Value->Sem Value)(r:R2):Prop:=
 ∀(pins:List (Addr×Obj)) (s:Shared) (a:St) (H:Hp) (x y:V) (v u:Value) (Q:VK),Inv X pins a H s->RelV x v->RelV y u->r x y H Q ->
  wpAny (model X.prog X.w) X.A (f v u) (EP X pins a Q) X.xe s
def eH(X:Cx)(f:Value)(r:List V->Hp->VK->Prop):Prop:=
 ∀(pins:List (Addr×Obj)) (s:Shared) (a:St) (H:Hp) (b:List V) (c:List Value) (Q:VK),Inv X pins a H s->Vals b c->r b H Q ->
  wpAny (model X.prog X.w) X.A (call f c) (EP X pins a Q) X.xe s
def Ni(X:Cx)(r:V->Hp->(Bool->Hp->Prop)->Prop):Prop:=
 ∀(pins:List (Addr×Obj)) (s:Shared) (a:St) (H:Hp) (x:V) (v:Value) (Q:Bool->Hp->Prop),Inv X pins a H s->RelV x v->r x H Q ->
  wpAny (model X.prog X.w) X.A (truthy v) (TP X pins a Q) X.xe s
noncomputable def G_(r:R2)(b tb:TE):TE:=λa H Q=>b a H λx c=>tb a c λy d=>r x y d Q
noncomputable def rI(C:Int->Int->Prop)(g:Int->Int->V):R2:=λx y H Q=>∃i j,x=.int i/\y=.int j/\C i j/\Q (g i j) H
noncomputable def Ah(g:Int->Int->V):R2:=λx y H Q=>∃i j,x=.int i/\y=.int j/\Q (g i j) H
variable{w6:Value->Value->Sem Value}
theorem EF(k:PE c j ν)(l:PE c M C2){R:V->V->Hp->Prop}(I:Inv c v N e o)(h:ν N e λx i=>C2 N i λy b=>R x y b)(m:∀a u g x y b,Inv c v N b g->RelV x a->RelV y u->R x y b->wpAny (model c.prog c.w) c.A (w6 a u) U c.xe g):
  wpAny (model c.prog c.w) c.A (eval j c.env) (λa d=>wpAny (model c.prog c.w) c.A (eval M c.env) (λu f=>wpAny (model c.prog c.w) c.A (w6 a u) U c.xe f) c.xe d) c.xe o:=by
 refine bD (k _ o N e _ I h) λa n ⟨x,i,I1,r1,q1⟩=>?_
 refine bD (l _ n N i _ I1 q1) λu g ⟨y,b,I2,r2,q2⟩=>m a u g x y b I2 r1 r2 q2
variable{m8:Operator}{y4:R2}
theorem DF(a:fT c (binaryOp m8) y4)(b:PE c j ν)(d:PE c M C2):PE c (.BinOp j m8 M l) (G_ y4 ν C2):=by
 intro pins s e H Q I h;exact wpAny_BinOp (EF b d I h λv u f x y g i k m q=>a _ f e g x y v u Q i k m q)
theorem KD{C:Int->Int->Prop}{g:Int->Int->Int}(rule:∀(i j:Int) (t u:Tok) (s:Shared) (Q:Value->Shared->Prop) (E:Value->Shared->Prop),C i j->Q (.int (g i j) s.toks) {s with toks:=s.toks+1}->wpAny (model c.prog c.w) c.A (w6 (.int i t) (.int j u)) Q E s):
  fT c w6 (rI C λi j=>.int (g i j)):=by
 intro pins s f H x y v u Q I a b h;obtain⟨i,j,rfl,rfl,d,q⟩:=h;obtain⟨t,rfl⟩:=a;obtain⟨e,rfl⟩:=b;exact rule i j t e s _ _ d ⟨.int _,H,I.tok _,⟨_,rfl⟩,q⟩
theorem HD{g:Int->Int->Int}(rule:∀(i j:Int) (t u:Tok) (s:Shared) (Q:Value->Shared->Prop) (E:Value->Shared->Prop),Q (.int (g i j) s.toks) {s with toks:=s.toks+1}->wpAny (model c.prog c.w) c.A (w6 (.int i t) (.int j u)) Q E s):
  fT c w6 (Ah λi j=>.int (g i j)):=by
 intro pins s e H x y v u Q I a b h;obtain⟨i,j,rfl,rfl,q⟩:=h;obtain⟨t,rfl⟩:=a;obtain⟨d,rfl⟩:=b;exact rule i j t d s _ _ ⟨.int _,H,I.tok _,⟨_,rfl⟩,q⟩
theorem Ai{g:Int->Int->Bool}(rule:∀(i j:Int) (t u:Tok) (s:Shared) (Q:Value->Shared->Prop) (E:Value->Shared->Prop),Q (.bool (g i j)) s->wpAny (model c.prog c.w) c.A (w6 (.int i t) (.int j u)) Q E s):
  fT c w6 (Ah λi j=>.bl (g i j)):=by
 intro pins s e H x y v u Q I a b h;obtain⟨i,j,rfl,rfl,q⟩:=h;obtain⟨t,rfl⟩:=a;obtain⟨d,rfl⟩:=b;exact rule i j t d s _ _ ⟨.bl _,H,I,rfl,q⟩
def HE(i j:Int):Prop:=0<j/\j<1073741824
def HF(i j:Int):Prop:=0<=j/\j<=1000000/\i.natAbs<2 ^ 64
def Aj(i j:Int):Prop:=(-(2 ^ 64)<i/\i<2 ^ 64)\/(-(2 ^ 64)<j/\j<2 ^ 64)
theorem Aj.ok(h:Aj P M0):IntMulOk P M0:=by
 rcases h with ⟨a,b⟩|⟨a,b⟩
 .exact .of_left (intBits_le_64 a b)
 .exact .of_right (intBits_le_64 a b)
theorem EG:fT c (binaryOp .Add) (Ah λi j=>.int (i+j)):=HD λ_ _ _ _ _ _ _ q=>add_int q
theorem EH:fT c (binaryOp .Sub) (Ah λi j=>.int (i - j)):=HD λ_ _ _ _ _ _ _ q=>sub_int q
theorem EI:fT c (binaryOp .Mult) (rI Aj λi j=>.int (i*j)):=KD λ_ _ _ _ _ _ _ a q=>mul_int q a.ok
theorem Ak:fT c (binaryOp .FloorDiv) (rI HE λi j=>.int (i / j)):=KD λi j _ _ _ _ _ a q=>by
 have b:=a.1;have d:=a.2;exact floordiv_int (by omega) (by rwa[Int.fdiv_eq_ediv_of_nonneg i (by omega)]) (.inl (PyProof.noPylong_small (by omega)))
theorem EJ:fT c (binaryOp .Mod) (rI (λ_ j=>0<j) λi j=>.int (i%j)):=KD λi j _ _ _ _ _ a q=>mod_int' (by omega) (by rwa[Int.fmod_eq_emod_of_nonneg i (by omega)])
theorem EK:fT c (binaryOp .Pow) (rI HF λi j=>.int (i ^ j.toNat)):=KD λ_ _ _ _ _ _ _ a q=>pow_int_small a.1 a.2.1 a.2.2 q
variable{C1 y:Bool}{ε:VK}
theorem nP(I:Inv c v N e o)(q:ε (.bl y) e)(a:y=C1):EP c v N ε (.bool C1) o:=by
 subst a;exact⟨.bl y,e,I,rfl,q⟩
theorem HG:fT c (compareOp .Lt) (Ah λi j=>.bl (decide (i<j))):=Ai λ_ _ _ _ _ _ _ q=>lt_int q
theorem HH:fT c (compareOp .LtE) (Ah λi j=>.bl (decide (i<=j))):=Ai λ_ _ _ _ _ _ _ q=>le_int q
theorem HI:fT c (compareOp .Gt) (Ah λi j=>.bl (decide (j<i))):=Ai λ_ _ _ _ _ _ _ q=>gt_int q
theorem HJ:fT c (compareOp .GtE) (Ah λi j=>.bl (decide (j<=i))):=Ai λ_ _ _ _ _ _ _ q=>ge_int q
theorem uG:fT c (compareOp .In) (λx y H Q=>∃i j,x=.str i/\y=.str j/\Q (.bl (!(Builtin.Str.occurrences j i 0 j.length 1).isEmpty)) H):=by
 intro pins s d H x y v u Q I a b h;obtain⟨i,j,rfl,rfl,q⟩:=h;obtain⟨t,rfl⟩:=a;obtain⟨e,rfl⟩:=b;exact in_str (nP I q rfl)
theorem wk:fT c (compareOp .Is) (λx y H Q=>y=.non/\Q (.bl (decide (x=.non))) H):=by
 intro pins s d H x y v u Q I a b h;obtain⟨rfl,q⟩:=h;cases b;refine is_none_gen (nP I q ?_)
 cases x<;>first
  | (obtain⟨t,rfl⟩:=a;rfl)
theorem sS:fT c (compareOp .IsNot) (λx y H Q=>y=.non/\Q (.bl (!decide (x=.non))) H):=by
 intro pins s d H x y v u Q I a b h;obtain⟨rfl,q⟩:=h;cases b;refine isnot_none_gen (nP I q ?_)
 cases x<;>first
  | (obtain⟨t,rfl⟩:=a;rfl)
theorem nQ:fT c (compareOp .NotIn) (λx y H Q=>∃i j,x=.str i/\y=.str j/\Q (.bl (!(!(Builtin.Str.occurrences j i 0 j.length 1).isEmpty))) H):=by
 intro pins s d H x y v u Q I a b h;obtain⟨i,j,rfl,rfl,q⟩:=h;obtain⟨t,rfl⟩:=a;obtain⟨e,rfl⟩:=b;exact notIn_str (nP I q rfl)
variable{k7:R2}
theorem fT.or(h:fT c w6 y4)(e:fT c w6 k7):fT c w6 (λx y H Q=>y4 x y H Q\/k7 x y H Q):=by
 intro pins s a H x y v u Q I b d q;rcases q with q|q
 .exact h _ s a H x y v u Q I b d q
 .exact e _ s a H x y v u Q I b d q
variable{A2:CmpOp}
theorem ip(a:fT c (compareOp A2) y4)(b:PE c j ν)(d:PE c M C2)(e:behindInMarks A2 M=false):PE c (.Compare j [A2] [M] l) (G_ y4 ν C2):=by
 intro pins s f H Q I h;exact wpAny_Compare1 (EF b d I h λv u g x y i k m n q=>a _ g f i x y v u Q k m n q) e
noncomputable def wm(t:TE):TT:=λa H Q=>t a H λx b=>∃k,x=.bl k/\Q k b
theorem iq(d:fT c (compareOp A2) y4)(f:PE c j ν)(g:PE c M C2)(i:behindInMarks A2 M=false):PT c (.Compare j [A2] [M] l) (wm (G_ y4 ν C2)):=by
 intro pins s a H Q I h
 refine wpAny_isTrue_Compare1 (bD (f _ s a H _ I h) λv m ⟨x,H1,I1,r1,q1⟩=>bD (g _ m a H1 _ I1 q1) λu n ⟨y,H2,I2,r2,q2⟩=>
  bD (d _ n a H2 x y v u _ I2 r1 r2 q2) λb p ⟨z,H3,I3,o,k,e,q3⟩=>?_) i
 subst e;cases o;exact wpAny_truthy_bool ⟨H3,I3,q3⟩
noncomputable def rj(r c:R2)(d tb e:TE):TE:=λa H Q=>d a H λx f=>tb a f λy g=>r x y g λz b=>∃k,z=.bl k /\
 (if k=true then e a b λh i=>c y h i Q else Q (.bl false) b)
variable{N7:TE}{o6:CmpOp}
theorem wo(f:fT c (compareOp A2) y4)(b:fT c (compareOp o6) k7)(g:PE c j ν)(i:PE c M C2)(m:PE c B1 N7)(n:lastMarks [A2,o6] [M,B1]=false:=by with_unfolding_all rfl):PE c (.Compare j [A2,o6] [M,B1] l) (rj y4 k7 ν C2 N7):=by
 intro pins s a H Q I h
 refine Compare_chain (bD (g _ s a H _ I h) λv o ⟨x,H1,I1,r1,q1⟩=>chain_link (bD (i _ o a H1 _ I1 q1) λu p ⟨y,H2,I2,r2,q2⟩=>
  bD (f _ p a H2 x y v u _ I2 r1 r2 q2) λd q ⟨z,H3,I3,r,k,e,q3⟩=>?_)) n
 subst e;cases r;refine wpAny_truthy_bool ?_;cases k with
 |false=>exact ite_ff ⟨.bl _,H3,I3,rfl,q3⟩
 |true=>exact ite_tt (chain_last (bD (m _ q a H3 _ I3 q3) λt w ⟨A,H4,I4,r4,q4⟩=>b _ w a H4 y A u t Q I4 r2 r4 q4))
theorem wq(f:fT c (compareOp A2) y4)(b:fT c (compareOp o6) k7)(g:PE c j ν)(i:PE c M C2)(m:PE c B1 N7)(n:lastMarks [A2,o6] [M,B1]=false:=by with_unfolding_all rfl):PT c (.Compare j [A2,o6] [M,B1] l) (wm (rj y4 k7 ν C2 N7)):=by
 intro pins s a H Q I h
 refine isTrue_chain (bD (g _ s a H _ I h) λv o ⟨x,H1,I1,r1,q1⟩=>test_link (bD (i _ o a H1 _ I1 q1) λu p ⟨y,H2,I2,r2,q2⟩=>
  bD (f _ p a H2 x y v u _ I2 r1 r2 q2) λd q ⟨z,H3,I3,r,k,e,q3⟩=>?_)) n
 subst e;cases r;refine wpAny_truthy_bool ?_;cases k with
 |false=>
  obtain⟨E,t,w⟩:=q3;cases t;exact ite_ff ⟨H3,I3,w⟩
 |true=>
  refine ite_tt (test_last (bD (m _ q a H3 _ I3 q3) λA B ⟨C,H4,I4,r4,q4⟩=>bD (b _ B a H4 y C u A _ I4 r2 r4 q4) λF G ⟨J,H5,I5,D,k2,e2,q5⟩=>?_))
  subst e2;cases D;exact wpAny_truthy_bool ⟨H5,I5,q5⟩
def pB(K:PySem.W.Frag)(x:V)(H:Hp)(k:Bool):Prop:=
 match x with
 |.non=>k=false
 |.bl b=>k=b
 |.int i=>k=(i != 0)
 |.str y=>y.length<=sizeLine/\k=((y.length:Int) != 0)
 |.GZ y=>y.size<=sizeLine/\k=((y.size:Int) != 0)
 |.ref p=>(∃a,kF K H p a/\k=!a.isEmpty)\/(∃a,sQ K H p a/\k=!a.isEmpty)\/∃c,H p=some (.dK c)/\k=!c.isEmpty
 |_=>False
theorem rl{a:Type}{kvs:List (a×V)}{b:List (a×Value)}(r:KV kvs b):(!b.isEmpty)=!kvs.isEmpty:=by
 cases r<;>rfl
variable{ψ:List Value}
theorem kG(r:Vals I ψ):(!ψ.toArray.isEmpty)=!I.isEmpty:=by
 cases r<;>simp
theorem hF:(sizeLine:Nat)<2 ^ 63:=by decide
theorem nR:Ni c (λx H Q=>∃k,pB c.K x H k/\Q k H):=by
 intro pins s C H x v Q I j h;obtain⟨k,e,q⟩:=h;have D:=hF;have E:sizeLine=16777216:=sizeLine_eq;cases x with
 |non=>
  cases j;have a:k=false:=e;subst a;exact truthy_none ⟨H,I,q⟩
 |bl b=>
  cases j;have a:k=b:=e;subst a;exact wpAny_truthy_bool ⟨H,I,q⟩
 |int i=>
  obtain⟨t,rfl⟩:=j;have a:k=(i != 0):=e;subst a;exact PySem.P.truthy_int ⟨H,I,q⟩
 |str y=>
  obtain⟨t,rfl⟩:=j;obtain⟨A,a⟩:y.length<=sizeLine/\k=((y.length:Int) != 0):=e;subst a;exact PySem.P.truthy_str (by omega) ⟨H,I.tok _,q⟩
 |GZ y=>
  obtain⟨t,rfl⟩:=j;obtain⟨A,a⟩:y.size<=sizeLine/\k=((y.size:Int) != 0):=e;subst a;exact PySem.W.truthy_bytes (by omega) ⟨H,I.tok _,q⟩
 |ref p=>
  cases j;have a:(∃g,kF c.K H p g/\k=!g.isEmpty)\/(∃g,sQ c.K H p g/\k=!g.isEmpty)\/∃d,H p=some (.dK d)/\k=!d.isEmpty:=e;rcases a with ⟨g,l,a⟩|⟨g,l,a⟩|⟨d,l,a⟩
  .subst a
   obtain⟨o,r,u,z⟩:=I.list l;have f:=r.length;exact wpAny_truthy_list u.isList (by simp only[List.size_toArray];omega) ⟨H,I.tok _,by rw[kG r];exact q⟩
  .subst a
   obtain⟨o,r,u,z⟩:=I.tuple l;have f:=r.length;exact truthy_tuple u (by simp only[List.size_toArray];omega) ⟨H,I.tok _,by rw[kG r];exact q⟩
  .subst a
   obtain⟨z,B,n,r,m⟩:d.length<=sizeLine/\(p==sysModules)=false/\∃n,KV d n/\s.heap.DictOf (cY c.prog c.w) p n:=I.hok p _ l;have f:d.length=n.length:=Paired.length r;exact wpAny_truthy_dict B m (by omega) ⟨H,I.tok _,by rw[rl r];exact q⟩
 |_=>exact(show False from e).elim
theorem wt(e:PE c j ν)(f:∀a,isTrue j c.env a=(do let v ←a;standAt j.pos;holding [v] (truthy v))):
  PT c j (λb H Q=>ν b H λx d=>∃k,pB c.K x d k/\Q k d):=by
 intro pins s b H Q I h;exact isTrue_plain (bD (e _ s b H _ I h) λv g ⟨x,H1,I1,r1,q1⟩=>nR _ g b H1 x v Q I1 r1 q1) (f _)
theorem rm:fT c (binaryOp .Add) (λx y H Q=>∃i j,x=.str i/\y=.str j/\i.length+j.length<=sizeLine/\Q (.str (i++j)) H):=by
 intro pins s f H x y v u Q I a b h;obtain⟨i,j,rfl,rfl,d,q⟩:=h;obtain⟨t,rfl⟩:=a;obtain⟨e,rfl⟩:=b;exact add_str (λe g=>⟨.str _,H,I.tok _,⟨_,rfl⟩,q⟩) d
theorem vals1(r:Vals [u] ψ):∃a,ψ=[a]/\RelV u a:=by
 cases r with
 |cons b c=>cases c;exact⟨_,rfl,b⟩
variable{B2:V}
theorem vals2(r:Vals [u,B2] ψ):∃a b,ψ=[a,b]/\RelV u a/\RelV B2 b:=by
 cases r with
 |cons c d=>
  cases d with
  |cons e f=>cases f;exact⟨_,_,rfl,c,e⟩
structure rn(h:Heap)(x dx C:Addr)(mA:Str->Option Value):Prop where
 obj:h.get? x=some (PySem.W.instObj C dx)
 ns:h.Ns1 dx mA
 ne:dx≠x
variable{θ:Str->Option Value}
theorem eU(n:w.Ns1 h θ):∃od,w.get? h=some od/\∀name,PySem.W.lookIn name od=some (θ name):=by
 obtain⟨o,c,j,d,f,g,_,i⟩:=n;refine⟨o,d,λname=>?_⟩
 have e:=i name;unfold nsFind findBy at e;unfold PySem.W.lookIn;rw[f];dsimp only;split
 .grind
 .have a:c.toList.any (·.refKey)=false:=by
   rw[List.any_eq_false];intro y k;obtain⟨z,t,b⟩:=g y (by grind)
   simp[DictEntry.refKey,b]
  grind
variable{Ξ:Addr}
theorem rn.look(I:rn w h G Ξ θ):∃od,PySem.W.InstAt w h (PySem.W.instObj Ξ G) Ξ (some od)/\∀name,PySem.W.lookIn name od=some (θ name):=
 let ⟨od,a,b⟩:=eU I.ns
 ⟨od,⟨I.obj,rfl,rfl,a⟩,b⟩
theorem get_map{s:Shared}(X:x.In s.heap)(I:rn s.heap h G Ξ θ)(c:PySem.W.plainGet x Ξ d=true)(e:PySem.W.hasDictIn x Ξ=true)(f:PySem.W.findIn x (.ref Ξ) d=some none)(g:θ d=some H)(b:PySem.W.handedIn H=true)(a:M1 H {s with toks:=s.toks+1}):
  wpAny (model z A) O (getAttr (.ref h) d y) M1 U s:=by
 obtain⟨j,J,i⟩:=I.look;exact PySem.W.get_value X J (PySem.W.plainGet_of c).1 (PySem.W.findObj_own e f rfl (by rw[i,g])) b a
variable{v0:Addr}
theorem wu{pl:Sem Bool}{Q:Value×List Value->Shared->Prop}(X:x.In o.heap)(I:rn o.heap h G Ξ θ)(b:PySem.W.plainGet x Ξ d=true)(c:PySem.W.findIn x (.ref Ξ) d=some (some (.ref v0)))(e:PySem.W.isFn x (.ref v0)=true)(g:θ d=none)(a:Q (.ref v0,[.ref h]) o):
  wpAny (model z A) O (getMethod (.ref h) d pl) Q U o:=by
 obtain⟨f,J,i⟩:=I.look;exact PySem.W.method_fn X J (PySem.W.plainGet_of b).1 (PySem.W.plainGet_of b).2 c (beq_iff_eq.mp e) (by show(PySem.W.lookIn _ f).map _=some _;grind) a
theorem Al{s:Shared}(X:x.In s.heap)(I:rn s.heap h G Ξ θ)(l:PySem.W.findIn x (.ref Ξ) "__setattr__"=some (some (.builtin "object.__setattr__")))(m:PySem.W.plainOver x Ξ=true)(n:PySem.W.takerIn x Ξ d=some none)(o:PySem.W.hasDictIn x Ξ=true)(p:PySem.Within θ g)(hsz:g.length<=sizeLine)(a:∀f,rn f h G Ξ (λy=>if y=d then some H else θ y)->Heap.SameBut G s.heap f->N1 () {s with heap:=f,toks:=s.toks+2}):
  wpAny (model z A) O (setAttr (.ref h) d H) N1 U s:=by
 obtain⟨B,J,C⟩:=I.look;refine PySem.W.set_plain X J l (PySem.W.osa_open X J m n λb=>?_)
 obtain⟨D,q,i⟩:=PySem.W.any_some o;have r:=I.obj;refine wpAny_bind (wpAny_pure (wpAny_bind (wpAny_bind (wpAny_loadPart r (wpAny_bind (PySem.W.Looks.here (PySem.W.looks_clsIn X q) ?_))))));rw[i];refine wpAny_pure (wpAny_bind (wpAny_pure (wpAny_bind ?_)));refine wpAny_nsSet1 I.ns λf c e=>?_
 obtain⟨E,t,u,j,k,w⟩:=c.count (PySem.Within.cons _ H p);refine wpAny_bind (wpAny_lookBehind j (by rw[k];exact pastItsLine_dict (by grind)) ?_)
 exact wpAny_pure (a _ ⟨(e.2 _ (Ne.symm I.ne)).trans I.obj,c,I.ne⟩ e)
variable{w4:Result->Shared->Prop}{w8:List (Str×Value)}
theorem wx{s:Shared}(X:x.In s.heap)(b:PySem.W.makesIn x h=true)(c:PySem.W.findIn x (.ref h) "__init__"=some (some (.ref G)))(d:PySem.W.typeIn x (.ref G)=some (.type "function"))(a:codeAny (model z A) (O.under (.builtin "type.__call__" ⟨.ref h::ψ,w8⟩)) (.call (.ref G) ⟨.ref (s.heap.objs.size+1)::ψ,w8⟩) (PySem.W.InitBack (s.heap.objs.size+1) w4)
   {s with heap:=(s.heap.push PySem.W.emptyDict).push (PySem.W.instObj h s.heap.objs.size)}):
  codeAny (model z A) O (.call (.ref h) ⟨ψ,w8⟩) w4 s:=by
 exact PySem.W.make_core (PySem.W.makes_of X b) (PySem.W.looks_findIn X c) (λself=>PySem.W.bind_fn X _ d) (.inl rfl) a
noncomputable def fU(f:Str)(v:V):List (Str×V)->List (Str×V)
 |[]=>[(f,v)]
 | (g,x)::r=>if g=f then (g,v)::r else (g,x)::fU f v r
theorem jD(f g:Str)(v:V):∀a:List (Str×V),(fU f v a).lookup g=if g=f then some v else a.lookup g
 |[]=>by
  show List.lookup g [(f,v)]=_
  grind
 | (k,x)::r=>by
  have b:=jD f g v r;rw[show fU f v _=(if k=f then (k,v)::r else (k,x)::fU f v r)from rfl]
  grind
theorem jg(f:Str)(v:V):∀a:List (Str×V),f∈(fU f v a).map (·.1)/\∀g,g∈a.map (·.1)->g∈(fU f v a).map (·.1)
 |[]=>⟨by simp[fU],by simp⟩
 | (k,x)::r=>by
  obtain⟨b,c⟩:=jg f v r;rw[show fU f v _=(if k=f then (k,v)::r else (k,x)::fU f v r)from rfl]
  grind
theorem jE(f:Str)(v:V):∀a:List (Str×V),(fU f v a).length<=a.length+1
 |[]=>by simp[fU]
 | (k,x)::r=>by
  have b:=jE f v r;rw[show fU f v _=(if k=f then (k,v)::r else (k,x)::fU f v r)from rfl]
  grind
variable{T3:Option Value}
theorem fO.some_of(r:fO (some u) T3):∃a,T3=some a/\RelV u a:=by
 cases T3 with
 |none=>exact(r).elim
 |some a=>exact⟨a,rfl,r⟩
theorem fO.none_of(r:fO none T3):T3=none:=by
 cases T3 with
 |none=>rfl
 |some u=>exact(r).elim
theorem mx(r:RelV u H):PySem.W.handedIn H=true:=by
 cases u with
 |non=>cases (r);rfl
 |bl b=>cases (r);rfl
 |int i=>obtain⟨t,e⟩:=(r);cases e;rfl
 |str x=>obtain⟨t,e⟩:=(r);cases e;rfl
 |GZ b=>obtain⟨t,e⟩:=(r);cases e;rfl
 |flt b=>obtain⟨t,e⟩:=(r);cases e;rfl
 |ref a=>cases (r);rfl
 |ty n=>cases (r);rfl
variable{G3:List (Str×V)}
theorem kb(g:gN z A e w)(a:e h=some (.ins G Ξ G3)):∃b,rn w h Ξ G b/\(∀f,fO (G3.lookup f) (b f))/\PySem.Within b (G3.map (·.1))/\G3.length<=1000/\e Ξ=some (.own h):=by
 obtain⟨d,c,ne,i,b,n,r,q⟩:=(g h _ a);exact⟨b,⟨i,n,ne⟩,r,q,c,d⟩
structure ke(K:PySem.W.Frag)(C:Addr):Prop where
 pg:PySem.W.plainGet K C Str.empty=true
 hd:PySem.W.hasDictIn K C=true
 po:PySem.W.plainOver K C=true
 sa:PySem.W.findIn K (.ref C) "__setattr__"=some (some (.builtin "object.__setattr__"))
theorem ke.get(c:ke x h)(f:Str):PySem.W.plainGet x h f=true:=c.pg
def cz(K:PySem.W.Frag)(C:Addr)(f:Str):Prop:=PySem.W.findIn K (.ref C) f=some none
theorem cz.taker(n:cz x h d):PySem.W.takerIn x h d=some none:=by
 unfold PySem.W.takerIn;rw[n];rfl
structure Meth(K:PySem.W.Frag)(C:Addr)(m:Str)(f:Addr):Prop where
 at_:PySem.W.findIn K (.ref C) m=some (some (.ref f))
 fn:PySem.W.isFn K (.ref f)=true
 kp:PySem.W.keepIn K (.ref f)=true
theorem ro(I:Inv c v N e o)(f:e h=some (.ins G Ξ G3))(b:ke c.K G)(n:cz c.K G d)(l:G3.lookup d=some u)(g:∀a j,Inv c v N e j->RelV u a->M1 a j):wpAny (model c.prog c.w) O (getAttr (.ref h) d y) M1 U o:=by
 obtain⟨m,i,r,_,_,_⟩:=kb I.hok f;obtain⟨a,p,k⟩:=fO.some_of (u:=u) (T3:=m d) (by grind)
 exact get_map I.d5 i (b.get d) b.hd n p (mx k) (g a _ (I.tok _) k)
theorem fu{pl:Sem Bool}{Q:Value×List Value->Shared->Prop}(I:Inv c v N e o)(a:e h=some (.ins G Ξ G3))(b:ke c.K G)(k:Meth c.K G d v0)(l:G3.lookup d=none)(f:Q (.ref v0,[.ref h]) o):wpAny (model c.prog c.w) O (getMethod (.ref h) d pl) Q U o:=by
 obtain⟨i,g,r,_,_,_⟩:=kb I.hok a;have j:i d=none:=fO.none_of (by grind)
 exact wu I.d5 g (b.get d) k.at_ k.fn j f
theorem rp(I:Inv c v N e o)(j:e h=some (.ins G Ξ G3))(a:ke c.K G)(n:cz c.K G d)(E:G3.length<1000)(t:RelV u H)(k:∀m,Inv c v N (upd e h (.ins G Ξ (fU d u G3))) m->N1 () m):wpAny (model c.prog c.w) O (setAttr (.ref h) d H) N1 U o:=by
 obtain⟨F,f,r,p,_,s⟩:=kb I.hok j;have x:(G3.map (·.1)).length<=sizeLine:=by rw[List.length_map,sizeLine_eq];omega
 refine Al I.d5 f a.sa a.po n.taker a.hd p x λy l A=>k _ ?_
 have B:∃i,y.get? Ξ=some i:=let ⟨i,_,_,e',_⟩:=l.ns;⟨i,e'⟩
 refine I.write (by rw[j];exact True.intro) (.inr s) (λb q C z=>(A.2 b C).trans z) B ?_
 refine⟨by rw[av f.ne];exact s,?_,f.ne,l.obj,_,l.ns,λg=>?_,λg D=>?_⟩
 .have:=jE d u G3;omega
 .rw[jD]
  by_cases q:g=d
  .rw[if_pos q,if_pos q];exact t
  grind
 .by_cases q:g=d
  .rw[q];exact(jg d u G3).1
  .refine(jg d u G3).2 g (p g λz=>D ?_)
   grind
theorem Inv.made{s:Shared}(I:Inv c v N e s):Inv c v N (upd (upd e s.heap.objs.size (.own (s.heap.objs.size+1))) (s.heap.objs.size+1) (.ins h s.heap.objs.size []))
  {s with heap:=(s.heap.push PySem.W.emptyDict).push (PySem.W.instObj h s.heap.objs.size)}:=by
 have d:(s.heap.push _).get? _=some PySem.W.emptyDict:=Heap.get?_push_size _ rfl
 have f:=by
  have:=Heap.get?_push_size (s.heap.push PySem.W.emptyDict) (o:=PySem.W.instObj h s.heap.objs.size) rfl;rwa[Heap.size_push]at this
 have g:(s.heap.push _).Ns _ _:=⟨_,_,_,d,rfl,(λa i=>absurd i (by simp)),λ_=>rfl⟩
 have j:=I.laid (o:=.own (s.heap.objs.size+1)) (t':=s.toks) (λb u q=>Heap.get?_push_of_some _ q) (Nat.le_refl _) ⟨_,d⟩
 refine j.laid (λb u q=>Heap.get?_push_of_some _ q) (by simp) ?_
 have ne:s.heap.objs.size≠s.heap.objs.size+1:=Nat.ne_of_lt (by simp)
 refine⟨by rw[av ne,aL],Nat.zero_le _,ne,f,_,(Heap.Ns1.of_empty g).at λo q=>Heap.get?_push_of_some _ q,λ_=>True.intro,λy k=>absurd rfl k⟩
variable{P2:Env}
theorem nS(c:attributeBase j d P2 (eval j P2)=eval j P2)(h:wpAny (model z A) O (eval j P2) (λa b=>wpAny (model z A) O (getAttr a d true) M1 U b) U o):wpAny (model z A) O (eval (.Attribute j d l) P2) M1 U o:=
 Attribute_any_ h (by rw[arm_eval_Attribute,c])
noncomputable def Nj(K:PySem.W.Frag)(d:TE)(f:Str):TE:=λe H Q=>d e H λx b=>∃a C g c v,x=.ref a/\b a=some (.ins C g c)/\ke K C/\cz K C f/\c.lookup f=some v/\Q v b
def Nk(K:PySem.W.Frag)(g h:TE)(f:Str):TS:=λD b H=>h b H λy i=>g b i λx d=>∃a C e c,x=.ref a/\d a=some (.ins C e c)/\ke K C/\cz K C f/\c.length<1000 /\
 D.nx b (upd d a (.ins C e (fU f y c)))
theorem EL(b:PE c j ν)(e:attributeBase j d c.env (eval j c.env)=eval j c.env):PE c (.Attribute j d l) (Nj c.K ν d):=by
 intro pins s f H Q I h;refine nS e (bD (b _ s f H _ I h) λu k ⟨x,H1,I1,rx,a,C,dx,fs,v,ex,ea,HK,n,HL,q⟩=>?_)
 subst ex;obtain rfl:u=Value.ref a:=rx;exact ro I1 ea HK n HL λm o g i=>⟨v,H1,g,i,q⟩
theorem EN(e:PE c j ν)(f:PE c M C2)(g:swapsWith M (some (.Attribute j d C)) l.line c.env=pure false):PS c (.Assign [.Attribute j d C] M l) (Nk c.K ν C2 d):=by
 intro pins s b H D I h;refine plainObj_wpAny_Assign_Attribute (bD (f _ s b H _ I h) λu i ⟨y,H1,I1,ry,q⟩=>bD (e _ i b H1 _ I1 q) λk o ⟨x,H2,I2,rx,a,QA,dx,fs,ex,ea,HM,n,HN,q2⟩=>?_) g
 subst ex;obtain rfl:k=Value.ref a:=rx;exact rp I2 ea HM n HN ry λp m=>⟨b,_,m,q2⟩
inductive jQ (K:PySem.W.Frag) (H:Hp):V->Value->Prop where
 |non:jQ K H .non (.type "NoneType")
 |bl (x:Bool):jQ K H (.bl x) (.type "bool")
 |int (i:Int):jQ K H (.int i) (.type "int")
 |str (x:Str):jQ K H (.str x) (.type "str")
 |flt (x:UInt64):jQ K H (.flt x) (.type "float")
 |lst {a:Addr}{xs:List V} (e:H a=some (.lst xs)):jQ K H (.ref a) (.type "list")
 |dj {a:Addr}{o:Obj}{xs:List V} (e:H a=some (.dj o (.lst xs))):jQ K H (.ref a) (.type "list")
 |tup {a:Addr}{xs:List V} (e:H a=some (.tup xs)):jQ K H (.ref a) (.type "tuple")
 |dK {a:Addr}{kvs:List (Key×V)} (e:H a=some (.dK kvs)):jQ K H (.ref a) (.type "dict")
 |dT {a:Addr}{kvs:List (List Key×V)} (e:H a=some (.dT kvs)):jQ K H (.ref a) (.type "dict")
 |ins {a C dx:Addr}{fs:List (Str×V)} (e:H a=some (.ins C dx fs)) (cl:ke K C) (ha:PySem.W.findIn K (.ref C) "__class__"=some (some (.builtin "object.__class__")))
   (hn:PySem.W.specialIn K (.builtin "object.__class__") "__get__"=some (some (.builtin "getset_descriptor.__get__"))) (htk:PySem.W.takesIn K (.builtin "object.__class__")=some true)
   (hm:PySem.W.mroIn K C (.type "object")=some true):jQ K H (.ref a) (.ref C)
variable{Q0 z5:Value}
theorem dC{s:Shared}(I:Inv c v N e s)(d:RelV u Q0)(A:jQ c.K e u z5)(b:PySem.W.kitOne c.K z5 H=some y)(h:∀B,M1 (.bool y) {s with toks:=B}):
  wpAny (model c.prog c.w) O (call (.builtin "isinstance") [Q0,H]) M1 U s:=by
 cases A with
 |non=>cases (d);exact PySem.W.kia_one PySem.W.kitx_none I.d5 True.intro b (λz=>nomatch z) h
 |bl f=>cases (d);exact PySem.W.kia_one PySem.W.kitx_bool I.d5 True.intro b (λz=>nomatch z) h
 |int i=>obtain⟨z5,q⟩:=(d);cases q;exact PySem.W.kia_one PySem.W.kitx_int I.d5 True.intro b (λz=>nomatch z) h
 |str f=>obtain⟨z5,q⟩:=(d);cases q;exact PySem.W.kia_one PySem.W.kitx_str I.d5 True.intro b (λz=>nomatch z) h
 |flt f=>obtain⟨z5,q⟩:=(d);cases q;exact PySem.W.kia_one PySem.W.kitx_float I.d5 True.intro b (λz=>nomatch z) h
 |@lst a m g=>
  cases (d);obtain⟨_,_,n,_,j⟩:=(I.hok a _ g);exact PySem.W.kia_one PySem.W.kitx_list I.d5 ⟨_,j,rfl⟩ b (λz=>nomatch z) h
 |@dj a M m g=>
  cases (d);obtain⟨_,_,_,n,_,j⟩:=(I.hok a _ g);exact PySem.W.kia_one PySem.W.kitx_list I.d5 ⟨_,j,rfl⟩ b (λz=>nomatch z) h
 |@tup a m g=>
  cases (d);obtain⟨_,_,_,p⟩:=(I.hok a _ g);obtain⟨o,j,l,_⟩:=p;exact PySem.W.kia_one PySem.W.kitx_tuple I.d5 ⟨o,j,l⟩ b (λz=>nomatch z) h
 |@dK a r g=>
  cases (d);obtain⟨_,_,P,_,p⟩:=(I.hok a _ g);obtain⟨o,D,E,j,l,_⟩:=p;exact PySem.W.kia_one PySem.W.kitx_dict I.d5 ⟨o,j,l.1⟩ b (λz=>nomatch z) h
 |@dT a r g=>
  cases (d);obtain⟨_,_,m,_,o,D,E,j,l,_⟩:=(I.hok a _ g);exact PySem.W.kia_one PySem.W.kitx_dict I.d5 ⟨o,j,l.1⟩ b (λz=>nomatch z) h
 |@ins a C Q R g x F G t L=>
  cases (d);obtain⟨S,k,_⟩:=kb I.hok g;obtain⟨T,J,_⟩:=k.look;exact PySem.W.kia_one (PySem.W.kitx_own (x.get _) x.hd F G t L) I.d5 J b (λz=>nomatch z) h
structure bA(k:Nat)(A:Around):Prop where
 hd:A.handled=none
 dp:A.depth+3*k+5<recursionLimit
 un:A.units+16*k+200<cLine
theorem bA.mono(r:bA t O)(h:b<=t):bA b O:=⟨r.hd,by have:=r.dp;omega,by have:=r.un;omega⟩
theorem bA.deeper{k:Nat}{A:Around}(r:bA (k+1) A)(env:Env):bA k (A.deeper env):=
 ⟨r.hd,by have:=r.dp;show A.depth+1+3*k+5<_;omega,by have:=r.un;show A.units+3+16*k+200<_;omega⟩
theorem rr:(O.under (.builtin "type.__call__" ⟨.ref h::ψ,w8⟩)).depth=O.depth+1:=by
 rfl
theorem rA:(O.under (.builtin "type.__call__" ⟨.ref h::ψ,w8⟩)).units=O.units+1:=by
 rfl
theorem bA.make(r:bA (b+1) O)(C:Addr)(a:List Value)(c:List (Str×Value)):bA b (O.under (.builtin "type.__call__" ⟨.ref C::a,c⟩)):=
 ⟨r.hd,by have:=r.dp;rw[rr];omega,by have:=r.un;rw[rA];omega⟩
theorem bA.depth{k:Nat}{A:Around}(r:bA k A):A.depth<recursionLimit:=by have:=r.dp;omega
theorem bA.units{k:Nat}{A:Around}(r:bA k A):A.units+64<cLine:=by have:=r.un;omega
noncomputable def wy:TA:=λ_ H Q=>Q [] H
noncomputable def DG(b:TE)(c:TA):TA:=λa H Q=>b a H λx d=>c a d λe f=>Q (x::e) f
theorem nT:PA c [] wy:=λ_ _ _ _ H Q I h=>Calls.spliced_nil ⟨[],H,I,.nil,h⟩
theorem eI(b:PE c j ν)(d:PA c E Q1)(e:starEach (j::E) c.env=(false,eval j c.env)::starEach E c.env:=by rfl):PA c (j::E) (DG ν Q1):=by
 intro f pins s a H Q I h;rw[e];refine Calls.spliced_cons (bD (b _ s a H _ I h) λu g ⟨x,H1,I1,r1,q1⟩=>bD (d _ _ g a H1 _ I1 q1) λi k ⟨l,H2,I2,r2,q2⟩=>⟨_,H2,I2,.cons r1 r2,q2⟩)
def Nl(t:TA):TE:=λc H Q=>t c H λa b=>a.length<=sizeLine/\∀p,b p=none->Q (.ref p) (upd b p (.tup a))
def Nn(t:TA):TE:=λc H Q=>t c H λa b=>a.length<=sizeLine/\∀p,b p=none->Q (.ref p) (upd b p (.lst a))
theorem wz{x1}(h:PA c E Q1):PE c (.Tuple E x1 l) (Nl Q1):=by
 intro pins s a H Q I d;refine wpAny_Tuple_spliced (bD (h _ _ s a H _ I d) λf g ⟨i,H1,I1,r,z,q⟩=>⟨by rwa[←r.length],?_⟩)
 refine⟨.ref _,_,I1.laid (λb u e=>Heap.get?_push_of_some _ e) (Nat.le_refl _) ?_,rfl,q _ (I1.hok.fresh (Nat.le_refl _))⟩
 exact⟨z,f,r,⟨_,Heap.get?_push_size _ rfl,rfl,_,rfl⟩⟩
theorem EO(h:PA c E Q1):PE c (.List E l) (Nn Q1):=by
 intro pins s a H Q I d;refine wpAny_List_spliced (bD (h _ _ s a H _ I d) λf g ⟨i,H1,I1,r,z,q⟩=>⟨by rwa[←r.length],?_⟩)
 refine⟨.ref _,_,I1.laid (λb u e=>Heap.get?_push_of_some _ e) (Nat.le_refl _) ?_,rfl,q _ (I1.hok.fresh (Nat.le_refl _))⟩
 exact⟨z,f,0,r,Heap.get?_push_size _ rfl⟩
abbrev Sp:=List V->Hp->VK->XK->Prop
abbrev uH:=List Env->Hp->Shared->XK->Value->Shared->Prop
structure pC(P:Program)(w:World)(K:PySem.W.Frag)(mg:Str->Option Value)(base:Heap)(A:Around)(outer:List Env)(s:Shared)(H:Hp):Prop where
 frames:A.frames=some outer
 mod:Mod K mg base
 bs:∀b o,base.get? b=some o->s.heap.get? b=some o/\H b=none
 rg:base.objs.size<=s.heap.objs.size
 fq:s.heap.FunFrames base outer
 uB:∀b∈frs outer,H b=none
 hok:gN P w H s.heap
 bare:AllBare s.gens
def CE(outer:List Env)(P:Program)(w:World)(H:Hp)(s:Shared)(Q:VK)(u:Value)(a:Shared):Prop:=
 ∃v b,a.os=s.os/\AllBare a.gens/\Un (frs outer) [] H b s.heap a.heap/\gN P w b a.heap/\RelV v u/\Q v b
def CR(CX:uH)(outer:List Env)(P:Program)(w:World)(H:Hp)(s:Shared)(Q:VK)(E:XK)(r:Result)(a:Shared):Prop:=
 match r with
 |.ok (.ret u)=>CE outer P w H s Q u a
 |.ok _=>False
 |.error e=>CX outer H s E e a
structure bx(P:Program)(w:World)(K:PySem.W.Frag)(mg:Str->Option Value)(base:Heap)(CX:uH)(k:Nat)(f:Addr)(fd:FuncData)(ps:List Str)(sp:Sp):Prop where
 len:∀vs H Q E,sp vs H Q E->vs.length=ps.length
 run:∀(A:Around) (outer:List Env) (s:Shared) (H:Hp) (args:Args) (us:List Value) (vs:List V) (Q:VK) (E:XK),bA k A->pC P w K mg base A outer s H->BindsTo s fd args (ps.zip us)->Vals vs us->sp vs H Q E ->
  codeAny (model P w) A (.call (.ref f) args) (CR CX outer P w H s Q E) s
theorem bx.mono{P:Program}{w:World}{K:PySem.W.Frag}{a:Str->Option Value}{base:Heap}{CX:uH}{j k:Nat}{f:Addr}{b:FuncData}{c:List Str}{sp:Sp}(F:bx P w K a base CX j f b c sp)(h:j<=k):
  bx P w K a base CX k f b c sp:=⟨F.len,λA outer s H args d e Q E g=>F.run A _ s H _ d e Q E (g.mono h)⟩
variable{D2:Sp}{Q2:uH}{ς:FuncData}
theorem bx.imp{e:Sp}(F:bx z A x θ w Q2 b h ς g D2)(a:∀d H Q E,e d H Q E->D2 d H Q E):bx z A x θ w Q2 b h ς g e:=
 ⟨λd H Q E q=>F.len d H Q E (a _ _ _ _ q),λc outer s H args f d Q E i j k l m=>F.run c _ s H _ f d Q E i j k l (a _ _ _ _ m)⟩
variable{F4:List Env}
theorem pC.make(a:pC z A x θ w O F4 o e)(C:Addr)(b:List Value)(c:List (Str×Value)):
  pC z A x θ w (O.under (.builtin "type.__call__" ⟨.ref C::b,c⟩)) F4 o e:=⟨by first|exact a.frames,a.mod,a.bs,a.rg,a.fq,a.uB,a.hok,a.bare⟩
theorem Inv.env0(I:Inv c v N e o):pC c.prog c.w c.K c.mg c.base c.A c.stack o e:=
 ⟨I.ok.frames,I.ok.mod,I.bs,Nat.le_trans I.ok.rg I.sz,I.stack,I.j_,I.hok,I.bare⟩
theorem Inv.after(I:Inv c v N e o)(h:CE c.stack c.prog c.w e o ε H i7):EP c v N ε H i7:=by
 obtain⟨a,j,k,bare,l,f,r,q⟩:=h;obtain⟨m,g,d,t,i⟩:=i7;obtain rfl:i=o.os:=k;exact⟨a,j,I.call l f bare (λb z=>absurd z (by simp)),r,q⟩
noncomputable def DH(sp:Sp)(a:List V)(E:XK)(t:TA):TE:=λb H Q=>t b H λc d=>sp (c++a) d Q E
noncomputable def DI(C:Addr)(m:Str)(sp:Sp)(b:List V)(E:XK)(f:TE)(t:TA):TE:=λc H Q=>f c H λx d=>∃a g e,x=.ref a/\d a=some (.ins C g e)/\e.lookup m=none /\
 t c d λh i=>sp (x::(h++b)) i Q E
def DJ(C:Addr)(sp:Sp)(b:List V)(E:XK)(t:TA):TE:=λd H Q=>t d H λe c=>∀x a,c x=none->c a=none->a≠x ->
 sp (.ref x::(e++b)) (upd (upd c a (.own x)) x (.ins C a [])) (λv f=>v=.non/\Q (.ref x) f) E
def Binds(K:PySem.W.Frag)(d:FuncData)(b:List Str)(c:List Value):Prop:=
 ∀(s:Shared) (a:List Value),K.In s.heap->(a++c).length=b.length->BindsTo s d ⟨a,[]⟩ (b.zip (a++c))
theorem Binds.all(h:∀a:List Value,a.length=g.length->bindArgs ς ⟨a,[]⟩=pure (g.zip a)):Binds x ς g []:=λs a _ b=>by
 rw[List.append_nil]at b ⊢;exact .of_eq (h a b)
def Passes(CX:uH)(X:Cx)(E:XK):Prop:=∀(pins:List (Addr×Obj)) (b:St) (H:Hp) (s:Shared) (e:Value) (a:Shared),Inv X pins b H s->CX X.stack H s E e a->X.xe e a
variable{G1:XK}{W3:List Value}
theorem nU(F:bx c.prog c.w c.K c.mg c.base Q2 b h ς g D2)(k:bA b c.A)(l:Binds c.K ς g ψ)(m:Vals I ψ)(n:Passes Q2 c G1)(a:Inv c v N e o)(r:Vals Y3 W3)(d:D2 (Y3++I) e ε G1):wpAny (model c.prog c.w) c.A (call (.ref h) W3) (EP c v N ε) c.xe o:=by
 have j:=r.append m;refine wpAny_call (codeAny_mono (F.run _ _ o e ⟨W3,[]⟩ _ _ ε G1 k a.env0 (l o W3 a.d5 (by rw[←j.length];exact F.len _ _ _ _ d)) j d) λr p i=>?_)
 cases r with
 |error f=>exact n _ N e o f p a i
 |ok fl=>
  cases fl with
  |ret u=>exact a.after i
  |next=>exact False.elim i
  |brk=>exact False.elim i
  |cont=>exact False.elim i
theorem nV(F:bx c.prog c.w c.K c.mg c.base Q2 b h ς g D2)(k:bA b c.A)(m:Gl c d)(n:c.mg d=some (.ref h))(o:PySem.W.keepIn c.K (.ref h)=true)(p:Binds c.K ς g ψ)(t:Vals I ψ)(u:Passes Q2 c G1)(x:PA c (j::E) Q1)(f:(d==("__debug__":Str))=false:=by decide)(y:starEach (j::E) c.env=(false,eval j c.env)::starEach E c.env:=by rfl)(i:(backTo C (starEach E c.env)).any (·.1)=false:=by rfl):
  PE c (.Call (.Name d l) (j::E) [] C) (DH D2 I G1 Q1):=by
 intro pins s z H Q a e;refine wpAny_Call_Name_kw (d9 a m n ?_ f);refine PySem.W.callWith_K a.ok.mod.Aa o (bD (x _ _ s z H _ a e) λB D ⟨G,H1,I1,r,q⟩=>⟨I1.d5,nU F k p t u I1 r q⟩) y i
theorem wA(F:bx c.prog c.w c.K c.mg c.base Q2 b h ς g D2)(i:bA b c.A)(j:Gl c d)(k:c.mg d=some (.ref h))(m:PySem.W.keepIn c.K (.ref h)=true)(n:Binds c.K ς g ψ)(o:Vals I ψ)(p:Passes Q2 c G1)(f:(d==("__debug__":Str))=false:=by decide):PE c (.Call (.Name d l) [] [] C) (DH D2 I G1 wy):=by
 intro pins s q H Q a e;refine wpAny_Call_Name_kw (d9 a j k (PySem.W.callWith_K0 a.d5 m (nU F i n o p a .nil e)) f)
theorem Am{pl:Sem Bool}(t:PE c M ν)(f:ke c.K G)(n:Meth c.K G d h)(F:bx c.prog c.w c.K c.mg c.base Q2 b h ς g D2)(y:bA b c.A)(z:Binds c.K ς g ψ)(B:Vals I ψ)(D:Passes Q2 c G1)(J:PA c (j::E) Q1)(k:starEach (j::E) c.env=(false,eval j c.env)::starEach E c.env:=by rfl)(m:(backTo l (starEach E c.env)).any (·.1)=false:=by rfl)(L:eval (.Call (.Attribute M d C) (j::E) [] l) c.env=(do
   let o ←eval M c.env
   standAt C.atName
   let (h,first) ←holding [o] (getMethod o d pl)
   callWith l h first (backTo l (starEach (j::E) c.env)) (backToKw l (keywordEach [] c.env))):=by rfl):
  PE c (.Call (.Attribute M d C) (j::E) [] l) (DI G d D2 I G1 ν Q1):=by
 intro pins s p H Q e i;refine PySem.W.methodCall_KW (bD (t _ s p H _ e i) λu N ⟨x,H1,I1,rx,a,dx,fs,ex,ea,HP,q⟩=>?_) L
 subst ex;obtain rfl:u=Value.ref a:=rx;refine fu I1 ea f n HP ?_;refine PySem.W.callWith_K e.ok.mod.Aa n.kp (bD (J _ _ N p H1 _ I1 q) λP R ⟨O,H2,I2,r,q2⟩=>⟨I2.d5,?_⟩) k m
 exact nU (Y3:=.ref a::O) F y z B D I2 (.cons rfl r) q2
theorem wB{pl:Sem Bool}(n:PE c j ν)(e:ke c.K G)(k:Meth c.K G d h)(F:bx c.prog c.w c.K c.mg c.base Q2 b h ς g D2)(o:bA b c.A)(p:Binds c.K ς g ψ)(r:Vals I ψ)(t:Passes Q2 c G1)(y:eval (.Call (.Attribute j d C) [] [] l) c.env=(do
   let m ←eval j c.env
   standAt C.atName
   let (h,first) ←holding [m] (getMethod m d pl)
   callWith l h first (backTo l (starEach [] c.env)) (backToKw l (keywordEach [] c.env))):=by rfl):
  PE c (.Call (.Attribute j d C) [] [] l) (DI G d D2 I G1 ν wy):=by
 intro pins s z H Q f i;refine PySem.W.methodCall_KW (bD (n _ s z H _ f i) λu B ⟨x,H1,I1,rx,a,dx,fs,ex,ea,HQ,q⟩=>?_) y
 subst ex;obtain rfl:u=Value.ref a:=rx;refine fu I1 ea e k HQ ?_;exact PySem.W.callWith_K0 I1.d5 k.kp (nU (Y3:=[.ref a]) F o p r t I1 (.cons rfl .nil) q)
structure Mk(K:PySem.W.Frag)(C f:Addr):Prop where
 makes:PySem.W.makesIn K C=true
 init:PySem.W.findIn K (.ref C) "__init__"=some (some (.ref f))
 fn:PySem.W.isFn K (.ref f)=true
 kp:PySem.W.keepIn K (.ref C)=true
theorem pD(M:Mk c.K G h)(F:bx c.prog c.w c.K c.mg c.base Q2 b h ς g D2)(p:bA (b+1) c.A)(q:Binds c.K ς g ψ)(s:Vals I ψ)(t:Passes Q2 c G1)(a:Inv c v N e o)(r:Vals Y3 W3)(j:∀x k,e x=none->e k=none->k≠x->D2 (.ref x::(Y3++I)) (upd (upd e k (.own x)) x (.ins G k [])) (λf y=>f=.non/\ε (.ref x) y) G1):
  wpAny (model c.prog c.w) c.A (call (.ref G) W3) (EP c v N ε) c.xe o:=by
 have m:=j _ _ (a.hok.fresh (Nat.le_succ _)) (a.hok.fresh (Nat.le_refl _)) (by simp)
 have l:=Inv.made (h:=G) a;have n:Vals (V.ref (o.heap.objs.size+1)::(Y3++I)) _:=.cons rfl (r.append s)
 have z:=by
  have d:=n.length;rw[F.len _ _ _ _ m]at d;exact d.symm
 refine wpAny_call (wx a.d5 M.makes M.init (beq_iff_eq.mp M.fn) (codeAny_mono (F.run _ _ _ _ ⟨_,[]⟩ _ _ _ G1 (p.make G W3 [])
  (l.env0.make G W3 []) (q _ _ l.d5 z) n m) λr B i=>?_))
 cases r with
 |error d=>exact t _ N _ _ d B l i
 |ok fl=>
  cases fl with
  |ret u=>
   obtain⟨f,C,D,E,H,J⟩:=l.after i;subst H;exact⟨E,⟨V.ref _,C,D,rfl,J⟩⟩
  |next=>exact False.elim i
  |brk=>exact False.elim i
  |cont=>exact False.elim i
theorem An(M:Mk c.K G h)(F:bx c.prog c.w c.K c.mg c.base Q2 b h ς g D2)(k:bA (b+1) c.A)(m:Gl c d)(n:c.mg d=some (.ref G))(o:Binds c.K ς g ψ)(p:Vals I ψ)(t:Passes Q2 c G1)(u:PA c (j::E) Q1)(f:(d==("__debug__":Str))=false:=by decide)(x:starEach (j::E) c.env=(false,eval j c.env)::starEach E c.env:=by rfl)(i:(backTo C (starEach E c.env)).any (·.1)=false:=by rfl):
  PE c (.Call (.Name d l) (j::E) [] C) (DJ G D2 I G1 Q1):=by
 intro pins s y H Q a e;refine wpAny_Call_Name_kw (d9 a m n ?_ f);refine PySem.W.callWith_K a.ok.mod.Aa M.kp (bD (u _ _ s y H _ a e) λz B ⟨D,H1,I1,r,q⟩=>⟨I1.d5,?_⟩) x i
 exact pD M F k o p t I1 r q
theorem wC(M:Mk c.K G h)(F:bx c.prog c.w c.K c.mg c.base Q2 b h ς g D2)(i:bA (b+1) c.A)(j:Gl c d)(k:c.mg d=some (.ref G))(m:Binds c.K ς g ψ)(n:Vals I ψ)(o:Passes Q2 c G1)(f:(d==("__debug__":Str))=false:=by decide):PE c (.Call (.Name d l) [] [] C) (DJ G D2 I G1 wy):=by
 intro pins s p H Q a e;refine wpAny_Call_Name_kw (d9 a j k ?_ f);exact PySem.W.callWith_K0 a.d5 M.kp (pD M F i m n o a .nil e)
def PK(X:Cx)(a:List Keyword)(t:TA):Prop:=
 ∀(b:Pos) (pins:List (Addr×Obj)) (s:Shared) (c:St) (H:Hp) (Q:List V->Hp->Prop),Inv X pins c H s->t c H Q->wpAny (model X.prog X.w) X.A (evalAll ((backToKw b (keywordEach a X.env)).map (·.2))) (AP X pins c Q) X.xe s
theorem ER:PK c [] wy:=λ_ _ _ _ H Q I h=>wpAny_evalAll_nil ⟨[],H,I,.nil,h⟩
variable{d8:Option Str}
theorem Ao{a:List Keyword}(e:PE c j ν)(f:PK c a Q1):PK c (⟨d8,j,l⟩::a) (DG ν Q1):=by
 intro b pins s d H Q I h
 show wpAny _ _ (evalAll ((do let v ←eval j c.env;standAt b;pure v)::(backToKw b (keywordEach a c.env)).map (·.2))) _ _ s
 refine wpAny_evalAll_cons (wpAny_bind (bD (e pins s d H _ I h) λu g ⟨x,H1,I1,r1,q1⟩=>wpAny_bind (wpAny_standAt (wpAny_pure ?_))))
 exact bD (f b pins g d H1 _ I1 q1) λk m ⟨i,H2,I2,r2,q2⟩=>⟨x::i,H2,I2,.cons r1 r2,q2⟩
structure jh(K:PySem.W.Frag)(fd:FuncData)(ps ks:List Str)(g:List Value->List Value->List Value)(gV:List V->List V->List V):Prop where
 to:∀(s:Shared) (us ws:List Value),K.In s.heap->(g us ws).length=ps.length->BindsTo s fd ⟨us,ks.zip ws⟩ (ps.zip (g us ws))
 rel:∀{vs:List V}{us:List Value}{zs:List V}{ws:List Value},Vals vs us->Vals zs ws->Vals (gV vs zs) (g us ws)
variable{Y:List Str}
theorem Ap{d:List Value->List Value->List Value}{k:List V->List V->List V}(F:bx c.prog c.w c.K c.mg c.base Q2 b h ς g D2)(n:bA b c.A)(l:jh c.K ς g Y d k)(p:Passes Q2 c G1)(a:Inv c v N e o)(r:Vals I ψ)(q:Vals Y3 W3)(f:D2 (k I Y3) e ε G1):wpAny (model c.prog c.w) c.A (call (.ref h) ψ (Y.zip W3)) (EP c v N ε) c.xe o:=by
 have m:=l.rel r q;have s:(d ψ W3).length=g.length:=by rw[←m.length];exact F.len _ _ _ _ f
 refine wpAny_call (codeAny_mono (F.run c.A c.stack o e ⟨ψ,Y.zip W3⟩ (d ψ W3) (k I Y3) ε G1 n a.env0 (l.to o ψ W3 a.d5 s) m f) λr t j=>?_)
 cases r with
 |error i=>exact p v N e o i t a j
 |ok fl=>
  cases fl with
  |ret u=>exact a.after j
  |next=>exact False.elim j
  |brk=>exact False.elim j
  |cont=>exact False.elim j
structure ir(N P:List Str)(sc:Scope):Prop where
 kind:sc.kind=.function
 co:sc.isCoroutine=false
 gen:sc.isGenerator=false
 nd:N.Nodup
 pre:N.take P.length=P
 par:∀x∈P,sc.names.lookup x=some .local\/sc.names.lookup x=some .cell
 ES:∀y∈sc.names,y.2≠.free
theorem my{kindOf:Str->Option NameKind}{x:Str}:∀{binds:List (Str×Value)}{m:Str->Option Value},(∀v,(x,v)∉binds)->bindL kindOf binds m x=m x
 |[],_,_=>rfl
 | (n,v)::r,m,h=>by
  unfold bindL;rw[my λw a=>h w (List.mem_cons_of_mem _ a)]
  split
  .have:x≠n:=by rintro rfl;exact h v (by simp)
   simp[this]
  .rfl
theorem mz{kindOf:Str->Option NameKind}{x:Str}:∀{binds:List (Str×Value)}{m:Str->Option Value},(∀v,(x,v)∉binds)->bindC kindOf binds m x=m x
 |[],_,_=>rfl
 | (n,v)::r,m,h=>by
  unfold bindC;rw[mz (by grind)]
  split
  .rfl
  grind
theorem mB{kindOf:Str->Option NameKind}{x:Str}{v:Value}:∀{P:List Str}{a:List Value}{i:Nat}{m:Str->Option Value},P.Nodup->P[i]?=some x->a[i]?=some v->kindOf x=some .local ->
  bindL kindOf (P.zip a) m x=some v
 |[],_,_,_,_,h,_,_=>by simp at h
 |_::_,[],_,_,_,_,h,_=>by simp at h
 |p::P,w::a,0,m,c,b,d,e=>by
  simp at b d;subst b;subst d
  show bindL _ ((p,w)::P.zip a) m p=_
  unfold bindL;rw[my λv f=>(List.nodup_cons.mp c).1 (List.of_mem_zip f).1,if_pos e]
  simp
 |p::P,w::a,i+1,m,c,b,d,e=>by
  unfold bindL;exact mB (List.nodup_cons.mp c).2 (by simpa using b) (by simp_all) e
theorem mD{kindOf:Str->Option NameKind}{x:Str}{v:Value}:∀{P:List Str}{a:List Value}{i:Nat}{m:Str->Option Value},P.Nodup->P[i]?=some x->a[i]?=some v->kindOf x≠some .local ->
  bindC kindOf (P.zip a) m x=some v
 |[],_,_,_,_,h,_,_=>by simp at h
 |_::_,[],_,_,_,_,h,_=>by simp at h
 |p::P,w::a,0,m,e,b,c,d=>by
  simp at b c;subst b;subst c
  show bindC _ ((p,w)::P.zip a) m p=_
  unfold bindC;rw[mz λv f=>(List.nodup_cons.mp e).1 (List.of_mem_zip f).1,if_neg d]
  simp
 |p::P,w::a,i+1,m,e,b,c,d=>by
  unfold bindC;exact mD (by grind) (by simpa using b) (by grind) d
noncomputable def start(N:List Str)(a:List V):St:=a.map some++List.replicate (N.length - a.length) none
noncomputable def cO(CX:uH)(P:Program)(w:World)(K:PySem.W.Frag)(mg:Str->Option Value)(base:Heap)(N:List Str)(qual:Str)(scope:Scope)(f:Addr)(b:Value)(A:Around)(outer:List Env)(s:Shared)(H:Hp)(E:XK):Cx where
 prog:=P
 w:=w
 K:=K
 mg:=mg
 base:=base
 A:=A.deeper (envOfC qual scope s.heap.objs.size f b)
 N:=N
 s₀:=s
 H₀:=H
 env:=envOfC qual scope s.heap.objs.size f b
 outer:=outer
 stack:=envOfC qual scope s.heap.objs.size f b::outer
 ex:=[]
 calm:=true
 fn:=λ_=>true
 pn:=[]
 xe:=λe c=>wpAny (model P w) (A.deeper (envOfC qual scope s.heap.objs.size f b)) (leaving (envOfC qual scope s.heap.objs.size f b) e) (λ_ a=>CX outer H s E e a) (λd a=>CX outer H s E d a) c
variable{π:Scope}
theorem pE(h:π.names.lookup d=some .cell):∃c,(cellsFrom b π.names []).lookup d=some c:=by
 exact Option.isSome_iff_exists.mp (PySem.W.cellsFrom_some _ b [] (.inl h))
theorem mE(S:ir g Y π)(J:O.handled=none)(m:pC z A x θ w O F4 o e)(N:I.length=Y.length)(r:Vals I ψ)(a:InCallC o o.heap.objs.size (bindL (envOfC d π o.heap.objs.size h H).kindOf (Y.zip ψ) λ_=>none) (cellsFrom (o.heap.objs.size+1) π.names []) (bindC (envOfC d π o.heap.objs.size h H).kindOf (Y.zip ψ) λ_=>none) i7):
  Inv (cO Q2 z A x θ w g d π h H O F4 o e G1) [] (start g I) e i7:=by
 have K:Y.length<=g.length:=by have:=congrArg List.length S.pre;grind
 obtain⟨C,P,rfl,E⟩:=a.done;have n:∀b:Addr,b∉(cO Q2 z A x θ w g d π h H O F4 o e G1).ex:=λb f=>absurd (show b∈([]:List Addr)from f) (by simp)
 refine⟨⟨m.mod,S.kind,rfl,rfl,Nat.le_refl _,λy f c C s=>?_,λy hy=>?_,λy c _ j=>?_,λ_=>J,Around.frames_deeper m.frames,.inr ⟨rfl,rfl⟩,λb f=>absurd f (n b),m.bs,m.rg,λb _ _=>n b,λb f=>absurd f (n b),m.fq,m.uB⟩,
  rfl,m.bare,Un.kept E,⟨_,a.toInCall.ns,λi y v C s Q=>?_⟩,λy c j=>⟨_,a.cell y c j⟩,m.hok.fresh (Nat.le_refl _),λy c j=>?_,λp t=>absurd (show p∈([])from t) (by simp),m.hok.kept E,?_⟩
 .exact name_of_addr a.apart (PySem.mem_of_lookup C) (PySem.mem_of_lookup s)
 .rcases hy with hy|hy
  .exact pE hy
  .exact absurd rfl (S.ES _ (PySem.mem_of_lookup hy))
 .exact Nat.le_of_lt (a.above y c (PySem.mem_of_lookup j))
 .have D:i<I.length:=by
   unfold start at s
   by_cases D:i<I.length
   .exact D
   .rw[List.getElem?_append_right (by simpa using D)]at s
    rw[List.getElem?_replicate]at s
    simp_all
  have L:I[i]?=some v:=by
   unfold start at s;rw[List.getElem?_append_left (by simpa using D)]at s
   simp_all
  obtain⟨u,F,M⟩:=r.get L
  have t:Y[i]?=some y:=by
   rw[←S.pre,List.getElem?_take_of_lt (by omega)];exact C
  have B:Y.Nodup:=by rw[←S.pre];exact S.nd.sublist (List.take_sublist _ _)
  refine⟨u,M,?_⟩;rcases S.par y (List.mem_of_getElem? t)with k|k
  .exact .inl ⟨k,mB B t F k⟩
  .obtain⟨c,l⟩:=pE k
   refine .inr ⟨.inl k,c,l,?_⟩;have q:=a.cell y c l;rwa[mD B t F (by show π.names.lookup y≠_;rw[k];decide)]at q
 .have G:=m.hok.fresh (Nat.le_of_lt (a.above y c (PySem.mem_of_lookup j)))
  exact⟨.inl G,λ_=>G⟩
 .unfold start
  show _=g.length
  grind
variable{D3 D5:Option Addr}{M5 N5 x6:Value}{T:Str}{v5:Array (Option Value)}
theorem wD{params:Arguments}{oc:Value}(N:x.lookup h=some ⟨oc,D5,.func (PySem.W.fnOf d T params G2 π H Q0 z5 M5 D3 N5 x6),v5⟩)(F:PySem.W.codeIn x N5 T=true)(S:ir g Y π)(y:∀l a Q E,D2 l a Q E->l.length=Y.length)(m:∀(c:Around) (outer:List Env) (s:Shared) (a:Hp) (l:List V) (Q:VK) (E:XK),bA b (c.deeper (envOfC T π s.heap.objs.size h N5))->D2 l a Q E ->
   ∃t,gU (cO Q2 z A x θ w g T π h N5 c outer s a E) G2 t/\t {nx:=λ_ k=>Q .non k,rt:=Q} (start g l) a):
  bx z A x θ w Q2 (b+1) h (PySem.W.fnOf d T params G2 π H Q0 z5 M5 D3 N5 x6) Y D2:=by
 refine⟨y,λc outer s a args us l Q E G B O r C=>?_⟩
 have M:=B.mod.Aa.keeps λf o e=>(B.bs f o e).1
 have I:=B.mod.nolimit.keeps λf o e=>(B.bs f o e).1
 refine codeAny_call_function G.depth (M _ _ N) rfl S.co S.gen rfl (PySem.W.codeRec_of M F) (O _ _ _ _ ?_)
 refine wpAny_newFunctionEnv_cells S.kind (λ⟨n,v⟩ P=>by
  rcases S.par n (List.of_mem_zip P).1 with q|q
  .exact .inl q
  .exact .inr ⟨q,PySem.W.cellsFrom_some _ _ _ (.inl q)⟩) λR U X i=>?_
 subst U;refine⟨I.keeps i.toInCall.keep,codeAny_func ?_⟩;obtain⟨t,Z,hq⟩:=m c _ s a l Q E (G.deeper _) C;refine wpAny_mono (Z [] X _ a _ (mE S G.hd B (y _ _ _ _ C) r i) hq) (λfl K p=>?_) λe K p=>p
 have D:∀{j:St}{k:Hp}{v:V}{u:Value},Inv (cO Q2 z A x θ w g T π h N5 c _ s a E) [] j k K->RelV v u->Q v k->CE outer z A a s Q u K:=
  λ{j k v u} J L q=>⟨v,k,J.os,J.bare,J.base,J.hok,L,q⟩
 cases fl with
 |ret u=>
  obtain⟨v,j,k,J,L,q⟩:=p;exact D J L q
 |next=>
  obtain⟨j,k,J,q⟩:=p;exact D (v:=V.non) J rfl q
 |brk=>
  obtain⟨_,_,_,q⟩:=p
  simp_all
 |cont=>
  obtain⟨_,_,_,q⟩:=p
  simp_all
noncomputable def QB(r:List V->Hp->VK->Prop)(t:TA):TE:=λa H Q=>t a H λb c=>r b c Q
variable{v7:List V->Hp->VK->Prop}
theorem pF(f:eH c (.builtin U1) v7)(g:Gl c d)(i:c.mg d=none)(k:bootBuiltins d=some (.builtin U1))(m:PA c (j::E) Q1)(n:d≠"__name__":=by decide)(a:(d==("__debug__":Str))=false:=by decide)(o:starEach (j::E) c.env=(false,eval j c.env)::starEach E c.env:=by rfl)(b:(backTo C (starEach E c.env)).any (·.1)=false:=by rfl):PE c (.Call (.Name d l) (j::E) [] C) (QB v7 Q1):=by
 intro pins s e H Q I h;refine wpAny_Call_Name_kw (jf I g i k (PyProof.Rows.callWith_builtin1 (bD (m _ _ s e H _ I h) λp q ⟨r,H1,I1,r1,q1⟩=>f _ q e H1 r p Q I1 r1 q1) o b) n a)
theorem uI(f:eH c (.type U1) v7)(g:Gl c d)(i:c.mg d=none)(k:bootBuiltins d=some (.type U1))(m:PA c (j::E) Q1)(n:d≠"__name__":=by decide)(a:(d==("__debug__":Str))=false:=by decide)(o:starEach (j::E) c.env=(false,eval j c.env)::starEach E c.env:=by rfl)(b:(backTo C (starEach E c.env)).any (·.1)=false:=by rfl):PE c (.Call (.Name d l) (j::E) [] C) (QB v7 Q1):=by
 intro pins s e H Q I h;refine wpAny_Call_Name_kw (jf I g i k (PyProof.Rows.callWith_type1 (bD (m _ _ s e H _ I h) λp q ⟨r,H1,I1,r1,q1⟩=>f _ q e H1 r p Q I1 r1 q1) o b) n a)
end L2
namespace HT
open PySem PyProof.Rows
noncomputable def ji(n d:Nat):Option Int->Nat
 |none=>d
 |some v=>if v<0 then (v+(n:Int)).toNat else min v.toNat n
theorem pG(n d:Nat):ji n d none=d:=rfl
theorem iu(n d k:Nat):ji n d (some (k:Int))=min k n:=by
 rfl
theorem wF(n d:Nat)(a:d<=n)(o:Option Int):ji n d o<=n:=by
 cases o with
 |none=>exact a
 |some v=>
  show(if v<0 then (v+(n)).toNat else min _ n)<=n
  grind
end HT
namespace L2
open PySem PySem.Spec PyProof.Rows
abbrev TO:=St->Hp->(Option Int->Hp->Prop)->Prop
def PO(X:Cx)(e:Option Expr)(t:TO):Prop:=
 ∀(pins:List (Addr×Obj)) (s:Shared) (a:St) (H:Hp) (Q:Option Int->Hp->Prop),Inv X pins a H s->t a H Q ->
  wpAny (model X.prog X.w) X.A (evalPart e X.env) (λu c=>∃o b,Inv X pins a b c/\IsPart u o/\Q o b) X.xe s
noncomputable def Aq:TO:=λ_ H Q=>Q none H
noncomputable def HR(t:TE):TO:=λa H Q=>t a H λx b=>∃i,x=.int i/\Q (some i) b
variable{c:Cx}
theorem Ar:PO c none Aq:=by
 intro pins s a H Q I h;exact wpAny_pure ⟨_,H,I,.none,h⟩
variable{j:Expr}{ν:TE}
theorem As(h:PE c j ν):PO c (some j) (HR ν):=by
 intro pins s a H Q I b;refine bD (h _ s a H _ I b) λu d ⟨x,H1,I1,r1,q1⟩=>?_
 obtain⟨i,rfl,q⟩:=q1;obtain⟨t,rfl⟩:=r1;exact⟨_,H1,I1,.int i t,q⟩
def ET(X:Cx)(r:V->Option Int->Option Int->Hp->VK->Prop):Prop:=
 ∀(pins:List (Addr×Obj)) (s:Shared) (a:St) (H:Hp) (x:V) (v b c:Value) (d e:Option Int) (f:Addr) (Q:VK),Inv X pins a H s->RelV x v->s.heap.IsSliceOf f b c .none->IsPart b d->IsPart c e->r x d e H Q ->
  ∃T id,typeLookup (.type T) "__getitem__"=pure (some (.builtin id))/\s.TypeIs v T/\wpAny (model X.prog X.w) X.A (getItem v (.ref f)) (EP X pins a Q) X.xe s
theorem ET.or{r d:V->Option Int->Option Int->Hp->VK->Prop}(h:ET c r)(n:ET c d):ET c (λx a b H Q=>r x a b H Q\/d x a b H Q):=by
 intro pins s e H x v f g a b i Q I j k l m q;rcases q with q|q
 .exact h _ s e H x v f g a b i Q I j k l m q
 .exact n _ s e H x v f g a b i Q I j k l m q
noncomputable def RD(r:V->Option Int->Option Int->Hp->VK->Prop)(b:TE)(tl c:TO):TE:=λa H Q=>b a H λx d=>tl a d λl e=>c a e λu f=>r x l u f Q
variable{C l:Pos}{D6:Option Expr}
theorem fV{e:Option Expr}{tl f:TO}{r:V->Option Int->Option Int->Hp->VK->Prop}(g:ET c r)(i:PE c j ν)(k:PO c D6 tl)(m:PO c e f):PE c (.Subscript j (.Slice D6 e none C) l) (RD r ν tl f):=by
 intro pins s d H Q I h;refine Subscript_ (bD (i _ s d H _ I h) λv n ⟨x,H1,I1,r1,q1⟩=>?_)
 refine wpAny_Slice (bD (k _ n d H1 _ I1 q1) λo p ⟨a,H2,I2,pl,q2⟩=>bD (m _ p d H2 _ I2 q2) λt A ⟨u,H3,I3,pu,q3⟩=>?_)
 refine wpAny_pure ?_;obtain⟨T,id,w,y,z⟩:=g _ _ d H3 x v o t a u _ Q (I3.kept λb B q=>Heap.get?_push_of_some _ q) r1 (Heap.IsSliceOf.new ..) pl pu q3
 exact tail_any y w z (by rfl)
def wG(xs:List V)(a b:Option Int):List V:=(xs.drop (HT.ji xs.length 0 a)).take (HT.ji xs.length xs.length b - HT.ji xs.length 0 a)
theorem pH(xs:List V)(a b:Option Int):(wG xs a b).length<=xs.length:=by
 unfold wG;rw[List.length_take,List.length_drop];omega
noncomputable def DK(n:Nat)(i:Int):Option Nat:=if 0<=i then (if i<n then some i.toNat else none)else if -(n:Int)<=i then some (i+n).toNat else none
def kf{a:Type}(xs:List a)(i:Int):Option a:=(DK xs.length i).bind λj=>xs[j]?
variable{P:Int}{b t:Nat}
theorem Au(h:DK b P=some t):seqIndex? P b=some t/\t<b /\ -(b:Int)<=P/\P<b:=by
 unfold DK at h
 by_cases c:0<=P
 .rw[if_pos c]at h
  by_cases a:P<b
  .rw[if_pos a]at h
   have e:=Option.some.inj h;exact⟨by rw[seqIndex_of c a,e],by omega,by omega,a⟩
  simp_all
 .rw[if_neg c]at h
  by_cases a : -(b)<=P
  .rw[if_pos a]at h
   have e:=Option.some.inj h;exact⟨by rw[seqIndex_neg (by omega) a,e],by omega,a,by omega⟩
  simp_all
theorem nW{a:Type}{xs:List a}{v:a}(h:kf xs P=some v):∃j,seqIndex? P xs.length=some j/\xs[j]?=some v/\j<xs.length /\ -(xs.length:Int)<=P/\P<xs.length:=by
 unfold kf at h;cases e:DK xs.length P with
 |none=>simp_all
 |some j=>
  rw[e]at h;obtain⟨b,c,d,f⟩:=Au e;exact⟨j,b,h,c,d,f⟩
theorem cJ{a:Type}{xs:List a}{v:a}(h:xs[b]?=some v):kf xs (b:Int)=some v:=by
 have c:=(List.getElem?_eq_some_iff.mp h).1
 have e:DK xs.length (b)=some b:=by
  unfold DK
  simp_all
 unfold kf;rwa[e]
def sT(b:Expr):Prop:=∀o i,subscripted b false o i=operate [o,i] (getItem o i)
def Av(X:Cx)(r:R2):Prop:=
 ∀(b a:Expr) (pins:List (Addr×Obj)) (s:Shared) (c:St) (H:Hp) (x y:V) (v u:Value) (Q:VK),Inv X pins c H s->RelV x v->RelV y u->r x y H Q ->
  subscripted a false v u=operate [v,u] (getItem v u)->wpAny (model X.prog X.w) X.A (subscriptTail b a v u) (EP X pins c Q) X.xe s
def Ha(X:Cx)(id:String)(r:V->List V->Hp->VK->Prop):Prop:=
 ∀(pins:List (Addr×Obj)) (s:Shared) (a:St) (H:Hp) (x:V) (b:List V) (v:Value) (c:List Value) (Q:VK),Inv X pins a H s->RelV x v->Vals b c->r x b H Q ->
  wpAny (model X.prog X.w) X.A (call (.builtin id) (v::c)) (EP X pins a Q) X.xe s
variable{k7 y4:R2}
theorem Av.or(h:Av c y4)(i:Av c k7):Av c (λx y H Q=>y4 x y H Q\/k7 x y H Q):=by
 intro a b pins s d H x y v u Q I e f q g;rcases q with q|q
 .exact h _ _ _ s d H x y v u Q I e f q g
 .exact i _ _ _ s d H x y v u Q I e f q g
variable{C2:TE}{M:Expr}
theorem DL(a:Av c y4)(b:PE c j ν)(d:PE c M C2)(e:sT M):PE c (.Subscript j M l) (G_ y4 ν C2):=by
 intro pins s f H Q I h;exact Subscript_ (EF b d I h λv u g x y i k m n q=>a j M _ g f i x y v u Q k m n q (e _ _))
def HS(K:PySem.W.Frag):R2:=λx y H Q=>∃p a i v,x=.ref p/\y=.int i/\kF K H p a/\kf a i=some v/\Q v H
def HU(K:PySem.W.Frag):R2:=λx y H Q=>∃p a i v,x=.ref p/\y=.int i/\sQ K H p a/\kf a i=some v/\Q v H
def HV:R2:=λx y H Q=>∃z i c,x=.str z/\y=.int i/\z.length<=sizeLine/\kf z.cps.toList i=some c/\Q (.str ⟨#[c]⟩) H
theorem Aw:Av c (HS c.K):=by
 intro b d pins s A H x y v u Q I B C h l;obtain⟨p,L,i,z,rfl,rfl,D,E,q⟩:=h;cases B;obtain⟨t,rfl⟩:=C;obtain⟨e,r,f,M⟩:=I.list D;obtain⟨j,m,F,N,G,J⟩:=nW E;obtain⟨w,n,g⟩:=r.get F;have O:=r.length;have P:=hF;have a:EP c _ A Q w s:=⟨z,H,I,g,q⟩
 by_cases o:0<=i
 .have k:i.toNat=j:=by
   rw[seqIndex_of o J]at m
   simp_all
  exact item_listR f.isList o (by omega) (by rw[k];simpa using n) a l
 .have k:(i+(e.toArray.size)).toNat=j:=by
   rw[seqIndex_neg (by omega) G]at m
   simp_all
  exact subscriptTail_builtinR f.isList.typeIs slot_list_getitem.lookup
   (wpAny_getItem_list_neg f.isList (by omega) (by simp_all) (by omega) (by rw[k];simpa using n) ⟨rfl,a⟩) l
theorem EU:Av c (HU c.K):=by
 intro a b pins s A H x y v u Q I f g h k;obtain⟨p,B,i,z,rfl,rfl,l,m,q⟩:=h;cases f;obtain⟨t,rfl⟩:=g;obtain⟨n,r,e,C⟩:=I.tuple l;obtain⟨j,D,o,E,F,G⟩:=nW m;obtain⟨w,J,d⟩:=r.get o;have L:=r.length;have M:=hF
 exact subscriptTail_builtinR e.typeIs slot_tuple_getitem.lookup
  (getItem_tuple (j:=j) e (by omega) (by omega) (by grind) (by grind) ⟨rfl,⟨z,H,I,d,q⟩⟩) k
theorem EV:Av c HV:=by
 intro a b pins s p H x y v u Q I e f h g;obtain⟨z,i,d,rfl,rfl,r,k,q⟩:=h;obtain⟨t,rfl⟩:=e;obtain⟨w,rfl⟩:=f;obtain⟨j,l,A,B,m,n⟩:=nW k;have o:z.cps.toList.length=z.length:=by rfl
 rw[o]at l m n;have C:=hF
 exact tail_any (typeIs_str s z t) slot_str_getitem.lookup (getItem_str (by
  grind) (by grind) ⟨.str ⟨_⟩,H,I.tok _,⟨_,rfl⟩,q⟩) g
def QC(K:PySem.W.Frag):R2:=λx y H Q=>HS K x y H Q\/HU K x y H Q\/HV x y H Q
theorem wH:Av c (QC c.K):=Aw.or (EU.or EV)
theorem Inv.lst{X:Cx}{pins:List (Addr×Obj)}{b:St}{H:Hp}{s:Shared}{p:Addr}{xs:List V}(I:Inv X pins b H s)(h:H p=some (.lst xs)):
  ∃(a:List Value) (n:Nat),Vals xs a/\s.heap.get? p=some {cls:=.type "list",data:=.seq a.toArray n}/\xs.length<=sizeLine:=by
 obtain⟨z,a,n,r,e⟩:=I.hok p _ h;exact⟨_,n,r,e,z⟩
theorem nX(a b:Option Int)(n:Nat):(sliceBounds a b none n).1=((HT.ji n 0 a:Nat):Int)/\(sliceBounds a b none n).2.1=((HT.ji n n b:Nat):Int)/\(sliceBounds a b none n).2.2=1:=by
 refine⟨?_,?_,rfl⟩
 .cases a with
  |none=>rfl
  |some i=>
   simp only[sliceBounds,HT.ji,Option.getD_none,show(1)>0 by decide,if_true]
   grind
 .cases b with
  |none=>rfl
  |some i=>
   simp only[sliceBounds,HT.ji,Option.getD_none,show(1)>0 by decide,if_true]
   grind
theorem lU(a:List Value)(b c:Option Int):slicePick a.toArray b c none=((a.drop (HT.ji a.length 0 b)).take (HT.ji a.length a.length c - HT.ji a.length 0 b)).toArray:=by
 obtain⟨d,e,f⟩:=nX b c _;unfold slicePick;rw[d,e,f];simp only[sliceRange_one,pick_run,List.size_toArray]
def HW(K:PySem.W.Frag):V->Option Int->Option Int->Hp->VK->Prop:=λx c d H Q=>∃a b,x=.ref a/\kF K H a b/\∀p,H p=none->Q (.ref p) (upd H p (.lst (wG b c d)))
theorem iv:ET c (HW c.K):=by
 intro pins s t H x v u w f g y Q I i j k l h;obtain⟨a,m,rfl,n,q⟩:=h;cases i;obtain⟨o,r,e,p⟩:=I.list n;have d:=r.length;refine⟨_,_,slot_list_getitem.lookup,e.isList.typeIs,?_⟩;refine wpAny_getItem_list_slice e.isList j k l .none (by simp) ?_ (by grind)
 rw[lU,←d];refine⟨.ref _,_,I.laid (λb z q=>Heap.get?_push_of_some _ q) (Nat.le_refl _) ?_,rfl,q _ (I.hok.fresh (Nat.le_refl _))⟩
 exact⟨Nat.le_trans (pH m f g) p,_,0,(r.drop _).take _,Heap.get?_push_size _ rfl⟩
theorem nY:eH c (.builtin "len") (λxs H Q=>∃p b,xs=[.ref p]/\(kF c.K H p b\/sQ c.K H p b)/\Q (.int b.length) H):=by
 intro pins s j H xs k Q I r h;obtain⟨p,b,rfl,hq,q⟩:=h;obtain⟨u,rfl,g⟩:=vals1 r;cases g;have l:=hF;rcases hq with hq|hq
 .obtain⟨d,e,f,i⟩:=I.list hq
  have a:=e.length;exact Calls.call_len_list f.isList (by grind) ⟨.int _,H,I.tok _,⟨s.toks+1,by grind⟩,q⟩
 .obtain⟨d,e,f,i⟩:=I.tuple hq
  have a:=e.length;exact len_tuple f (by grind) ⟨.int _,H,I.tok _,⟨s.toks+1,by grind⟩,q⟩
theorem n3:eH c (.builtin "len") (λxs H Q=>∃z,xs=[.str z]/\z.length<=sizeLine/\Q (.int z.length) H):=by
 intro pins s a H xs b Q I r h;obtain⟨z,rfl,d,q⟩:=h;obtain⟨u,rfl,t,rfl⟩:=vals1 r;have e:=hF;exact len_str (by omega) ⟨.int _,H,I.tok _,⟨_,rfl⟩,q⟩
theorem n4:eH c (.type "list") (λxs H Q=>∃p f,xs=[.ref p]/\(kF c.K H p f\/sQ c.K H p f)/\∀l,H l=none->Q (.ref l) (upd H l (.lst f))):=by
 intro pins s B H xs D Q I r h;obtain⟨p,f,rfl,hq,q⟩:=h;obtain⟨u,rfl,C⟩:=vals1 r;cases C
 have j:∀(a:List _),Vals f _->f.length<=sizeLine->∀(d:Heap) (i:Nat),(∀b A,s.heap.get? b=some A->d.get? b=some A) ->
   d.get? _=some _->EP c _ B Q _ _:=λa g k d i m e=>
  ⟨.ref _,_,I.laid (t':=s.toks) m (Nat.le_refl _) (show cT _ _ _ d _ (.lst f)from⟨k,a,i,g,e⟩),rfl,q _ (I.hok.fresh (Nat.le_refl _))⟩
 rcases hq with hq|hq
 .obtain⟨a,g,w,k⟩:=I.list hq
  have t:=g.length;obtain⟨o,x,y,n,z⟩:=w.isList;exact call_list_seq p (.inl rfl) x y z (λd i m e=>j _ g k d i m e) (by grind)
 .obtain⟨a,g,w,k⟩:=I.tuple hq
  have t:=g.length;obtain⟨o,x,y,n,z⟩:=w;exact call_list_seq p (.inr rfl) x y z (λd i m e=>j _ g k d i m e) (by grind)
def DM(K:PySem.W.Frag)(T:String)(x:V)(H:Hp):Prop:=match x with
 |.str _=>T="str"
 |.int _=>T="int"
 |.ref p=>(T="list"/\∃b,kF K H p b)\/(T="tuple"/\∃o,K.lookup p=some o/\o.cls=.type "tuple"/\o.dict=none) \/
   (T="dict"/\((∃a,H p=some (.dK a))\/∃a,H p=some (.dT a)))\/(T="set"/\∃S n,H p=some (.set S n))
 |_=>False
variable{H:Value}{N:St}{U1:String}{e:Hp}{o:Shared}{u:V}{v:List (Addr×Obj)}
theorem wJ(I:Inv c v N e o)(r:RelV u H)(h:DM c.K U1 u e):
  o.TypeIs H U1/\∀a,H=.ref a->∃m,o.heap.get? a=some m/\m.dict=none:=by
 cases u with
 |str z=>
  obtain⟨t,rfl⟩:=r;cases (h);exact⟨typeIs_str o z t,λ_ d=>nomatch d⟩
 |int i=>
  obtain⟨t,rfl⟩:=r;cases (h);exact⟨typeIs_int o i t,λ_ d=>nomatch d⟩
 |ref p=>
  cases r;rcases h with ⟨rfl,A,w⟩|⟨rfl,b,f,x,q⟩|⟨rfl,f⟩|⟨rfl,S,n,f⟩
  .obtain⟨y,_,s,_⟩:=I.list w
   refine⟨s.isList.typeIs,λa d=>?_⟩
   obtain⟨b,n,d,j,q,_⟩:=s
   grind
  .refine⟨⟨b,I.d5 p b f,x⟩,λa d=>?_⟩
   cases d;exact⟨b,I.d5 _ b f,q⟩
  .have z:∃b,o.heap.get? p=some b/\b.ExactDict:=by
    rcases f with ⟨k,f⟩|⟨k,f⟩
    .obtain⟨_,_,_,_,b,_,_,d,g,_⟩:=I.hok p _ f
     grind
    .obtain⟨_,_,_,_,b,_,_,d,g,_⟩:=I.hok p _ f
     grind
   obtain⟨b,d,g⟩:=z;refine⟨⟨b,d,g.1⟩,λa l=>?_⟩
   cases l;exact⟨b,d,g.2.1⟩
  .obtain⟨b,_,_,_,d,g,_⟩:=I.hok p _ f
   refine⟨⟨b,d,g.1⟩,λa l=>?_⟩
   cases l;exact⟨b,d,g.2.1⟩
 |_=>exact False.elim h
noncomputable def Np(K:PySem.W.Frag)(T:String)(r:V->List V->Hp->VK->Prop)(b:TE):TE:=λc H Q=>b c H λx a=>DM K T x a/\r x [] a Q
noncomputable def RE(K:PySem.W.Frag)(T:String)(r:V->List V->Hp->VK->Prop)(c:TE)(t:TA):TE:=λa H Q=>c a H λx b=>DM K T x b/\t a b λd e=>r x d e Q
variable{Q4:String}{S6:V->List V->Hp->VK->Prop}{d:Str}
theorem EW(g:PlainAttrs U1)(slot:Slot U1 d Q4)(e:typeOf (.builtin Q4)=pure (.type "method_descriptor"))(i:Ha c Q4 S6)(k:PE c j ν)(a:attributeBase j d c.env (eval j c.env)=eval j c.env:=by rfl)(b:(l.endLine==C.line)=true:=by rfl):PE c (.Call (.Attribute j d l) [] [] C) (Np c.K U1 S6 ν):=by
 intro pins s f H Q I h;refine wpAny_Call_method0_late a b (bD (k _ s f H _ I h) λv m ⟨x,H1,I1,r1,ty,q1⟩=>?_)
 obtain⟨n,o⟩:=wJ I1 r1 ty;exact⟨U1,Q4,g,slot,e,n,o,Calls.callWith_builtin rfl (PySem.evalArgs_none (i _ m f H1 x [] v [] Q I1 r1 .nil q1))⟩
variable{E:List Expr}{Q1:TA}
theorem HX(m:PlainAttrs U1)(slot:Slot U1 d Q4)(g:typeOf (.builtin Q4)=pure (.type "method_descriptor"))(n:Ha c Q4 S6)(o:PE c j ν)(p:PA c (M::E) Q1)(a:attributeBase j d c.env (eval j c.env)=eval j c.env:=by rfl)(e:((backTo C (starEach (M::E) c.env)).all (λx=>!x.1)&&(backToKw C (keywordEach [] c.env)).all (λx=>x.1.isSome)
   && decide ((M::E).length+([]:List Keyword).length+(if ([]:List Keyword).isEmpty then 0 else 1)<30))=true:=by rfl)(b:(l.endLine==C.line)=true:=by rfl)(q:starEach (M::E) c.env=(false,eval M c.env)::starEach E c.env:=by rfl)(f:(backTo C (starEach E c.env)).any (·.1)=false:=by rfl):
  PE c (.Call (.Attribute j d l) (M::E) [] C) (RE c.K U1 S6 ν Q1):=by
 intro pins s i H Q I h;refine wpAny_Call_method_late a e b rfl (bD (o _ s i H _ I h) λv r ⟨x,H1,I1,r1,ty,q1⟩=>?_)
 obtain⟨t,u⟩:=wJ I1 r1 ty;refine⟨U1,Q4,m,slot,g,t,u,?_⟩;have k:=p C _ r i H1 _ I1 q1;rw[q]at k ⊢;refine Calls.callWith_builtin (by grind) (Calls.evalArgs_plain (bD k λw y ⟨z,H2,I2,r2,q2⟩=>n _ y i H2 x z v w Q I2 r1 r2 q2))
def HY(X:Cx)(id:String)(r:V->List V->Hp->VK->Prop):Prop:=
 ∀(pins:List (Addr×Obj)) (s:Shared) (a:St) (H:Hp) (x:V) (b:List V) (v:Value) (c:List Value) (Q:VK),Inv X pins a H s->RelV x v->Vals b c->r x b H Q ->
  wpAny (model X.prog X.w) X.A (call (.builtin id) (v::c)) (EP X pins a Q) X.xe s
theorem Vals.one:∀{x:V}{a:List Value},Vals [x] a->∃u,a=[u]/\RelV x u
 |_,_,.cons r .nil=>⟨_,rfl,r⟩
theorem Vals.two:∀{x y:V}{a:List Value},Vals [x,y] a->∃u v,a=[u,v]/\RelV x u/\RelV y v
 |_,_,_,.cons r (.cons q .nil)=>by grind
theorem Vals.zero:∀{a:List Value},Vals [] a->a=[]
 |_,.nil=>rfl
theorem Vals.eraseIdx:∀{xs:List V}{a:List Value} (i:Nat),Vals xs a->Vals (xs.eraseIdx i) (a.eraseIdx i)
 |_,_,_,.nil=>.nil
 |_,_,0,.cons _ t=>t
 |_,_,i+1,.cons r t=>.cons r (Vals.eraseIdx i t)
theorem Vals.reverse{xs:List V}{a:List Value}(h:Vals xs a):Vals xs.reverse a.reverse:=by
 induction h with
 |nil=>exact .nil
 |cons r t b=>rw[List.reverse_cons,List.reverse_cons];exact Vals.append b (.cons r .nil)
variable{W2:Type}
theorem uJ:∀(l:List W2) (i:Nat),(l.eraseIdx i).length<=l.length
 |[],_=>Nat.le_refl _
 |_::_,0=>Nat.le_succ _
 |_::r,i+1=>by grind
variable{I Y3:List V}{W3 ψ:List Value}{h:Addr}
theorem Inv.wK{s:Shared}{f:Array Value->Array Value}(a:Inv c v N e s)(g:e h=some (.lst I))(d:s.heap.get? h=some {cls:=.type "list",data:=.seq ψ.toArray b})(i:f ψ.toArray=W3.toArray)(j:Vals Y3 W3)(hz:Y3.length<=sizeLine):
  Inv c v N (upd e h (.lst Y3)) {s with heap:=s.heap.update h (Obj.mapSeq f),toks:=t}:=by
 have q:=PySem.IsL.update d f;rw[i]at q;refine a.write (by rw[g];exact trivial) (.inl rfl) (λm u k l=>(Heap.get?_update_other _ _ (Ne.symm k)).trans l) ⟨_,q⟩ ⟨hz,_,_,j,q⟩
theorem Inv.Nq{s:Shared}(a:Inv c v N e s)(d:Vals I ψ)(hz:I.length<=sizeLine):
  Inv c v N (upd e s.heap.objs.size (.lst I)) {s with heap:=s.heap.push {cls:=.type "list",data:=.seq ψ.toArray},toks:=b}:=
 a.laid (λ_ _ q=>Heap.get?_push_of_some _ q) (Nat.le_refl _) ⟨hz,_,0,d,Heap.get?_push_size _ rfl⟩
theorem Inv.fresh{X:Cx}{pins:List (Addr×Obj)}{a:St}{H:Hp}{s:Shared}(I:Inv X pins a H s):H s.heap.objs.size=none:=I.hok.fresh (Nat.le_refl _)
theorem Inv.uK(b:Inv c v N e o)(f:e h=some (.lst I)):I.length<=sizeLine/\∃(a:List Value) (n:Nat),Vals I a/\I.length=a.length/\o.heap.get? h=some {cls:=.type "list",data:=.seq a.toArray n}:=by
 obtain⟨z,a,n,r,d⟩:=b.hok h _ f;exact⟨z,_,n,r,r.length,d⟩
theorem wL(h:b<=sizeLine):Builtin.List.listTooLong b=false:=decide_eq_false (by omega)
def sU:V->List V->Hp->VK->Prop:=λx b H Q=>∃l a y,x=.ref l/\b=[y]/\H l=some (.lst a)/\a.length<sizeLine/\Q .non (upd H l (.lst (a++[y])))
theorem mF:HY c "list.append" sU:=by
 intro pins s i H x j v k Q I b d h;obtain⟨l,m,y,rfl,rfl,a,o,q⟩:=h;cases b;obtain⟨u,rfl,f⟩:=d.one;obtain⟨z,g,n,r,p,e⟩:=I.uK a;refine call_meets F.slot_list_append ⟨_,e,rfl⟩ F.entry_list_append (F.args_list_append_2 _ _) (PySem.list_append l _ n u (by grind)) ⟨e,?_⟩
 refine⟨.non,_,I.wK a e (by simp) (r.append (.cons f .nil)) ?_,rfl,q⟩
 grind
def sV:V->List V->Hp->VK->Prop:=λx d H Q=>∃l b a c,x=.ref l/\d=[.ref b]/\H l=some (.lst a)/\H b=some (.lst c)/\a.length+c.length<=sizeLine/\Q .non (upd H l (.lst (a++c)))
theorem uL:HY c "list.extend" sV:=by
 intro pins s y H x A v B Q I i j h;obtain⟨l,b,C,D,rfl,rfl,g,k,E,q⟩:=h;cases i;obtain⟨u,rfl,m⟩:=j.one;cases m;obtain⟨z,d,n,r,G,e⟩:=I.uK g;obtain⟨J,a,o,p,t,w⟩:=I.uK k;have f:d.toArray.size+a.toArray.size<=sizeLine:=by grind
 refine call_meets F.slot_list_extend ⟨_,e,rfl⟩ F.entry_list_extend (F.args_list_extend_2 _ _)
  (AutoSeq1.list_extend_list_list_0 l _ n b _ o (by
  rw[wL f]
  grind) (by omega) (by omega)) ⟨e,w,?_⟩
 refine⟨.non,_,I.wK g e (by simp) (r.append p) ?_,rfl,q⟩
 grind
def pI:V->List V->Hp->VK->Prop:=λx b H Q=>∃l a,x=.ref l/\b=[]/\H l=some (.lst a)/\Q .non (upd H l (.lst a.reverse))
theorem rC:HY c "list.reverse" pI:=by
 intro pins s i H x j v k Q I d f h;obtain⟨l,m,rfl,rfl,b,q⟩:=h;cases d;have a:=f.zero;subst a;obtain⟨z,g,n,r,o,e⟩:=I.uK b;refine call_meets F.slot_list_reverse ⟨_,e,rfl⟩ F.entry_list_reverse (F.args_list_reverse_1 _) (AutoSeq1.list_reverse_list_0 l _ n (by simp_all)) ⟨e,?_⟩
 refine⟨.non,_,I.wK b e (by simp) r.reverse ?_,rfl,q⟩
 simp_all
variable{T3:Option Value}{W5:Option V}
section
variable{κ:Type}[DecidableEq κ]
noncomputable def jR(kvs:List (κ×V))(k:κ):Option V:=(kvs.find? λa=>decide (a.1=k)).map (·.2)
noncomputable def putK(kvs:List (κ×V))(k:κ)(v:V):List (κ×V):=
 if (kvs.any λa=>decide (a.1=k))=true then kvs.map (λa=>if a.1=k then (a.1,v)else a)else kvs++[(k,v)]
noncomputable def kH(kvs:List (κ×V))(k:κ):List (κ×V):=kvs.filter λa=>decide (a.1≠k)
theorem pJ{p:κ×V}{r:List (κ×V)}{k:κ}(e:p.1=k):jR (p::r) k=some p.2:=by simp[jR,List.find?_cons,e]
theorem pK{p:κ×V}{r:List (κ×V)}{k:κ}(e:¬ p.1=k):jR (p::r) k=jR r k:=by simp[jR,List.find?_cons,e]
theorem jF(kvs:List (κ×V))(k:κ)(v:V):(putK kvs k v).length<=kvs.length+1:=by
 unfold putK
 grind
theorem fO.mG(r:fO W5 T3):W5.isSome=T3.isSome:=by
 cases W5 with
 |none=>cases T3 with
  |none=>rfl
  |some _=>exact(r).elim
 |some _=>cases T3 with
  |none=>exact(r).elim
  |some _=>rfl
theorem KV.val{kvs:List (κ×V)}{d:List (κ×Value)}(r:KV kvs d)(k:κ):fO (jR kvs k) (valueAt d k):=by
 induction r with
 |nil=>exact True.intro
 |@cons p q g a h t i=>
  obtain⟨f,j⟩:=h
  by_cases e:p.1=k
  .have c:=f.symm.trans e
   have b:valueAt (q::a) k=some q.2:=by simp[valueAt,List.find?_cons,c]
   rwa[pJ e,b]
  .have c:¬ q.1=k:=λz=>e (f.trans z)
   have b:valueAt (q::a) k=valueAt a k:=by simp[valueAt,List.find?_cons,c]
   rwa[pK e,b]
theorem KV.any{kvs:List (κ×V)}{b:List (κ×Value)}(r:KV kvs b)(k:κ):(kvs.any λa=>decide (a.1=k))=b.any λa=>decide (a.1=k):=by
 induction r with
 |nil=>rfl
 |cons h t c=>simp_all
theorem KV.repl{kvs:List (κ×V)}{b:List (κ×Value)}(r:KV kvs b)(k:κ)(d:RelV u H):
  KV (kvs.map λa=>if a.1=k then (a.1,u)else a) (b.map λa=>if a.1=k then (a.1,H)else a):=by
 induction r with
 |nil=>exact .nil
 |@cons p q e f h t c=>
  refine .cons ?_ c
  grind
theorem KV.put{kvs:List (κ×V)}{a:List (κ×Value)}(r:KV kvs a)(k:κ)(b:RelV u H):KV (putK kvs k u) (stored a k H):=by
 unfold putK stored;rw[r.any k]
 by_cases e:(a.any λc=>decide (c.1=k))=true
 .rw[if_pos e,if_pos e];exact r.repl k b
 .rw[if_neg e,if_neg e];exact Paired.snoc r ⟨rfl,b⟩
theorem KV.drop{kvs:List (κ×V)}{a:List (κ×Value)}(r:KV kvs a)(k:κ):KV (kH kvs k) (without a k):=by
 unfold kH without
 induction r with
 |nil=>exact .nil
 |@cons p q g i h t c=>
  obtain⟨b,d⟩:=h;rw[List.filter_cons,List.filter_cons]
  by_cases e:p.1=k
  .simp_all
  .have f:¬ q.1=k:=λz=>e (b.trans z)
   rw[if_pos (by simp[e]),if_pos (by simp[f])];exact .cons ⟨b,d⟩ c
theorem KV.length{kvs:List (κ×V)}{a:List (κ×Value)}(r:KV kvs a):kvs.length=a.length:=Paired.length r
theorem wM(kvs:List (κ×V))(k:κ):(kH kvs k).length<=kvs.length:=List.length_filter_le _ _
end
variable{A:World}{k6:Key}{z:Program}
theorem mH(r:RelV (kV k6) H):(cY z A).is k6 H=true:=by
 cases k6 with
 |inl i=>obtain⟨t,e⟩:=(r);subst e;exact pk z A i t
 |inr x=>obtain⟨t,e⟩:=(r);subst e;exact pq z A x t
abbrev KT(H:Hp):List (List Key×V)->List (List Key×Addr×Value)->Prop:=Paired λp q=>p.1=q.1/\H q.2.1=some (.tup (p.1.map kV))/\RelV p.2 q.2.2
variable{o0:HO}{w:Heap}
theorem DN(ok:gN z A e w)(a:Rd e h o0):cT z A e w h o0:=a.ok ok
variable{B4:List (Key×V)}
theorem iw(ok:gN z A e w)(a:Rd e h (.dK B4)):B4.length<=sizeLine/\(h==sysModules)=false/\∃b,KV B4 b/\w.DictOf (cY z A) h b:=
 DN ok a
theorem DO(ok:gN z A e w)(a:e h=some (.dK B4)):B4.length<=sizeLine/\(h==sysModules)=false/\∃b,KV B4 b/\w.DictOf (cY z A) h b:=iw ok (.inl a)
def lV(H:Hp)(a:Addr)(y:V)(r:Option V):Prop:=
 (∃b k,Rd H a (.dK b)/\y=kV k/\r=jR b k)\/False
def uM(H:Hp)(a:Addr)(y v:V)(c:Hp):Prop:=
 (∃b k,H a=some (.dK b)/\y=kV k/\b.length<sizeLine/\c=upd H a (.dK (putK b k v)))\/False
theorem lV.k{H:Hp}{a:Addr}{kvs:List (Key×V)}{k:Key}(e:H a=some (.dK kvs)):lV H a (kV k) (jR kvs k):=.inl ⟨_,k,.inl e,rfl,rfl⟩
theorem uM.k{H:Hp}{a:Addr}{kvs:List (Key×V)}{k:Key}{v:V}(e:H a=some (.dK kvs))(b:kvs.length<sizeLine):uM H a (kV k) v (upd H a (.dK (putK kvs k v))):=.inl ⟨_,k,e,rfl,b,rfl⟩
theorem Inv.big(I:Inv c v N e o):sysModules<o.heap.objs.size:=by
 exact Nat.lt_trans (by decide) ((I.mod.glob.keeps I.bk).lt)
variable{B2:V}{M1 U:Value->Shared->Prop}{O:Around}
theorem uN(s:O.units+1<cLine)(I:Inv c v N e o)(g:lV e h u (some B2))(m:RelV u H)(a:∀d j,Inv c v N e j->RelV B2 d->M1 d j):
  wpAny (model c.prog c.w) O (getItem (.ref h) H) M1 U o:=by
 rcases g with ⟨n,k,b,p,l⟩|bad
 .subst p
  obtain⟨z,t,x,f,q⟩:=iw I.hok b;obtain⟨d,r,i⟩:=fO.some_of (by rw[l];exact f.val k)
  exact wpAny_getItem_of (mH m) q.mapOf r (a d _ (I.tok _) i)
 simp_all
theorem Nr(q:O.units+1<cLine)(I:Inv c v N e o)(g:lV e h u W5)(i:RelV u H)(a:∀f,Inv c v N e f->M1 (.bool W5.isSome) f):
  wpAny (model c.prog c.w) O (compareOp .In H (.ref h)) M1 U o:=by
 rcases g with ⟨j,k,b,m,l⟩|bad
 .subst m
  obtain⟨z,n,r,d,p⟩:=iw I.hok b;refine wpAny_in_of (mH i) n p.mapOf ?_;rw[←(d.val k).mG,←l];exact a _ (I.tok _)
 simp_all
theorem Ax(q:O.units+1<cLine)(I:Inv c v N e o)(g:lV e h u W5)(i:RelV u H)(a:∀f,Inv c v N e f->M1 (.bool (!W5.isSome)) f):
  wpAny (model c.prog c.w) O (compareOp .NotIn H (.ref h)) M1 U o:=by
 rcases g with ⟨j,k,b,m,l⟩|bad
 .subst m
  obtain⟨z,n,r,d,p⟩:=iw I.hok b;refine wpAny_notIn_of (mH i) n p.mapOf ?_;rw[←(d.val k).mG,←l];exact a _ (I.tok _)
 simp_all
theorem n7{s:Shared}(I:Inv c v N e s)(f:Hs (e h))(g:Heap.SameBut h s.heap w)(i:∃q,w.get? h=some q)(d:cT c.prog c.w (upd e h o0) w h o0):
  Inv c v N (upd e h o0) {s with heap:=w,toks:=b}:=
 I.write f (.inl rfl) (λa q j z=>(g.2 a j).trans z) i d
theorem n9{b:List (Key×Value)}(a:B4.length<=sizeLine)(d:(h==sysModules)=false)(c:KV B4 b)(f:w.DictOf (cY z A) h b):
  cT z A e w h (.dK B4):=⟨a,d,b,c,f⟩
variable{N1:Unit->Shared->Prop}{Q0:Value}{ο:Hp}
theorem uO(A:O.units+1<cLine)(I:Inv c v N e o)(g:uM e h u B2 ο)(m:RelV u H)(n:RelV B2 Q0)(b:∀j,Inv c v N ο j->N1 () j):
  wpAny (model c.prog c.w) O (setItem (.ref h) H Q0) N1 U o:=by
 rcases g with ⟨i,k,a,p,l,r⟩|bad
 .subst p r
  obtain⟨z,s,B,d,t⟩:=DO I.hok a;refine wpAny_setItem_pairs (hsz:=(by rw[←d.length];exact z)) (mH m) t λC f x=>b _ ?_
  exact n7 I (by rw[a];exact True.intro) x (let ⟨q,_,_,y,_⟩:=f;⟨q,y⟩) (n9 (by have:=jF i k B2;omega) s (d.put k n) f)
 simp_all
theorem HZ(I:Inv c v N e o)(a:e h=some (.dK B4))(j:RelV (kV k6) H)(l:jR B4 k6=some u)(m:ψ=[]\/∃x,ψ=[x])(b:∀f n,Inv c v N (upd e h (.dK (kH B4 k6))) n->RelV u f->M1 f n):wpAny (model c.prog c.w) O (call (.builtin "dict.pop") (.ref h::H::ψ)) M1 U o:=by
 obtain⟨z,r,s,d,p⟩:=DO I.hok a;obtain⟨f,y,k⟩:=fO.some_of (by rw[←l];exact d.val k6)
 refine call_meetsIn PySem.F.slot_dict_pop p.typeIs PySem.F.entry_dict_pop (by
  rcases m with q|⟨x,q⟩
  .subst q;exact PySem.F.args_dict_pop_2 _ _
  .subst q;exact PySem.F.args_dict_pop_3 _ _ _) (meets_dict_pop_there _ h (mH j) _ m (by
  cases k6 with
  |inl i=>obtain⟨t,q⟩:=(show ∃t,H=Value.int i t from j);subst q;rfl
  |inr x=>obtain⟨t,q⟩:=(show ∃t,H=Value.str x t from j);subst q;rfl))
  ⟨s,f,p,by rwa[←d.length],y,λC g A=>b f _ ?_ k⟩
 exact n7 I (by rw[a];exact True.intro) A (let ⟨q,_,_,B,_⟩:=g;⟨q,B⟩) (n9 (Nat.le_trans (wM _ k6) z) r (d.drop k6) g)
theorem H_(I:Inv c v N e o)(a:Rd e h (.dK B4))(b:∀t f,Inv c v N e f->M1 (.int B4.length t) f):wpAny (model c.prog c.w) O (call (.builtin "len") [.ref h]) M1 U o:=by
 obtain⟨z,g,j,d,i⟩:=iw I.hok a;refine call_len_dict g i (by rw[←d.length];rw[sizeLine_eq]at z;omega) ?_
 rw[←d.length];exact b _ _ (I.tok _)
def Ia(i:Expr):Prop:=∀a b,subscripted i false a b=operate [a,b] (getItem a b)
variable{P2:Env}
theorem Ay(k:typeLookup (.type U1) "__getitem__"=pure (some (.builtin Q4)))(m:Ia M)(h:wpAny (model z A) O (eval j P2) (λa d=>wpAny (model z A) O (eval M P2) (λi b=>b.TypeIs a U1/\wpAny (model z A) O (getItem a i) M1 U b) U d) U o):
  wpAny (model z A) O (eval (.Subscript j M l) P2) M1 U o:=by
 refine Subscript_ (wpAny_mono h (λa d e=>wpAny_mono e (λi b c=>?_) λ_ _ x=>x) λ_ _ x=>x)
 obtain⟨n,c⟩:=c;refine wpAny_bind ?_;refine wpAny_bind (wpAny_specialOf n k ?_)
 first
  |exact wpAny_pure (wpAny_bind (by
  rw[m a i];exact wpAny_operating (wpAny_mono c (λr g f=>wpAny_bind (wpAny_letTemporaryGo (wpAny_pure f))) λ_ _ x=>x)))
theorem pL(I:Inv c v N e o)(g:lV e h u W5):o.TypeIs (.ref h) "dict":=by
 rcases g with ⟨b,k,a,_,_⟩|bad
 .obtain⟨_,_,f,_,d⟩:=iw I.hok a
  exact d.typeIs
 simp_all
noncomputable def Ib(d e:TE):TE:=λb H Q=>d b H λx f=>e b f λy c=>∃a v,x=.ref a/\lV c a y (some v)/\Q v c
noncomputable def Ic(d e f:TE):TS:=λD b H=>f b H λv g=>d b g λx h=>e b h λy i=>∃a c,x=.ref a/\uM i a y v c/\D.nx b c
theorem Az(e:c.A.units+1<cLine)(f:PE c j ν)(i:PE c M C2)(k:Ia M):PE c (.Subscript j M l) (Ib ν C2):=by
 intro pins s d H Q I h;refine Ay PySem.F.slot_dict_getitem.lookup k (bD (f _ s d H _ I h) λu m ⟨x,H1,I1,rx,q1⟩=>bD (i _ m d H1 _ I1 q1) λo p ⟨y,H2,I2,ry,a,v,ex,g,q2⟩=>?_)
 subst ex;obtain rfl:u=Value.ref a:=rx;exact⟨pL I2 g,uN e I2 g ry λq r n b=>⟨v,H2,n,b,q2⟩⟩
variable{B1:Expr}{N7:TE}
theorem AA(d:c.A.units+1<cLine)(e:PE c j ν)(f:PE c M C2)(i:PE c B1 N7)(k:swapsWith B1 (some (.Subscript j M C)) l.line c.env=pure false):
  PS c (.Assign [.Subscript j M C] B1 l) (Ic ν C2 N7):=by
 intro pins s b H D I h;refine wpAny_Assign_Subscript (bD (i _ s b H _ I h) λr m ⟨v,H1,I1,rv,q1⟩=>bD (e _ m b H1 _ I1 q1) λu n ⟨x,H2,I2,rx,q2⟩=>bD (f _ n b H2 _ I2 q2) λp q ⟨y,H3,I3,ry,a,H4,ex,g,q3⟩=>?_) k
 subst ex;obtain rfl:u=Value.ref a:=rx;exact uO d I3 g ry rv λt o=>⟨b,H4,o,q3⟩
theorem wN(h:Heap)(a:sysModules<h.objs.size):cT z A e (h.push {cls:=.type "dict",data:=.dict #[]}) h.objs.size (.dK []):=
 ⟨Nat.zero_le _,beq_eq_false_iff_ne.mpr (Ne.symm (Nat.ne_of_lt a)),[],.nil,Heap.DictOf.new h⟩
def EX:TE:=λ_ H Q=>∀p,H p=none->Q (.ref p) (upd H p (.dK []))
theorem wO:PE c (.Dict [] [] l) EX:=λpins s a H Q I h=>
 wpAny_Dict_empty ⟨.ref _,_,I.laid (λ_ _ q=>Heap.get?_push_of_some _ q) (Nat.le_refl _) (wN _ I.big),rfl,h _ (I.hok.fresh (Nat.le_refl _))⟩
structure M2(X:Cx)(o:Expr)(m:Str)(apos:Pos)(e f:Expr)(cpos:Pos):Prop where
 base:attributeBase o m X.env (eval o X.env)=eval o X.env
 few:((backTo cpos (starEach [e,f] X.env)).all (λx=>!x.1)&&(backToKw cpos (keywordEach [] X.env)).all (λx=>x.1.isSome)
  && decide (([e,f]:List Expr).length+([]:List Keyword).length+(if ([]:List Keyword).isEmpty then 0 else 1)<30))=true
 line:(apos.endLine==cpos.line)=true
 trees:backTo cpos (starEach [e,f] X.env)=[(false,eval e X.env),(false,eval f X.env)]
def RF(H:Hp)(a:Addr):Prop:=(∃b,Rd H a (.dK b))\/False
theorem wQ(I:Inv c v N e o)(d:RF e h):
  o.TypeIs (.ref h) "dict"/\(∀b,Value.ref h=.ref b->∃f,o.heap.get? b=some f/\f.dict=none)/\(h==sysModules)=false:=by
 rcases d with ⟨i,a⟩|bad
 .obtain⟨_,j,m,_,g⟩:=iw I.hok a
  refine⟨g.typeIs,λb q=>?_,j⟩
  cases q;obtain⟨f,_,_,k,l,_⟩:=g;exact⟨f,k,l.2.1⟩
 simp_all
end L2
namespace QD
open PySem PySem.W PySem.Calls PyProof.Rows
variable{w:Heap}
theorem jS{P:Params}:∀(d:List Int) (e:List Value),WellAll P w e (d.map WData.int)->IntsAre e d:=by
 intro d
 induction d with
 |nil=>
  intro e c;cases c;exact .nil
 |cons n d f=>
  intro e c;cases c with
  |cons a b=>
   cases a;exact .cons _ _ (f _ b)
variable{b:Nat}{ψ:List Value}
theorem uP{l:OpenLaw}(k:l.most=some b){P:Params}{args:List WData}(c:l.row.toRowW.claim.pre args=true)(h:WellAll P w ψ args):
  ∃a j e,ψ=[Value.ref a]/\args=[WData.list (e.map WData.int)]/\w.get? a=some {cls:=.type "list",data:=.seq j.toArray}/\IntsAre j e/\e.length<=b:=by
 obtain⟨d,r,rfl,m,n⟩:=hasAllW_cons ((pre_splitW c).1);obtain rfl:=hasAllW_nil n;obtain⟨t,rfl,o⟩:=hasW_list m;obtain⟨e,rfl⟩:=items_int o
 have f:e.length<=b:=by
  have i:=by
   have i:=(holds_andW ((pre_splitW c).2)).1;rwa[k]at i
  have u:=condW_of i (w_not (w_lt w_lit (w_len_list (w_arg rfl))))
  grind
 cases h with
 |cons p q=>
  cases q;cases p with
  |list s g=>exact⟨_,_,e,rfl,rfl,s,jS e _ g,f⟩
theorem uQ(l:OpenLaw)(args:List WData):l.row.toRowW.claim.post args (.bool true) args=true:=
 postW_of
  (by rfl)
  (w_eq_bool (w_res rfl) w_lit) rfl
variable{C8:DefRec}{L7:World->Heap->Prop}{M8:(Str->Option Value)->Heap->Prop}{g:List Str}{z:Program}
theorem pM{l:OpenLaw}(H:l.most=some b)(u:C8.params.defaults=[])(call:∀(w:World) (d c:Shared) (p x:Str->Option Value) (i:Addr) (o:Obj) (y q j:Value) (a:Addr) (h:List Value) (s:List Int),
   Ground z g [] M8 w d p x c.heap->L7 w c.heap ->
   c.heap.get? i=some o->o.data=.func (docDef C8.name C8.params C8.body C8.scope y q j)->c.heap.CodeRec q C8.name->p C8.name=some (.ref i) ->
   c.heap.get? a=some {cls:=.type "list",data:=.seq h.toArray}->IntsAre h s->s.length<=b->c.gens = #[] ->
   codeAny (model l.prog w) callerA (.call (.ref i) ⟨[.ref a],[]⟩) (λr t=>r=.ok (.ret (.bool true))/\OldK c.heap t.heap/\t.os=c.os/\AllBare t.gens) c):
  WalkO z g M8 L7 l.row.toRowW C8 [] (λf h=>PySem.call f h):=by
 intro w d c p x G Y i o y q j I kV J K A D B L args E R k F hrd C M;obtain rfl:I=.none:=Dflts.none D u;obtain rfl:kV=.none:=Dflts.noKw D;obtain⟨a,h,s,rfl,rfl,m,e,n⟩:=uP H k C;refine enter_call (codeAny_mono (call w _ _ p x i o y q _ a h s G Y J (fd_plain K) A B m e n L) λr t N=>?_)
 obtain⟨rfl,O,P,Q⟩:=N;exact⟨.inl ⟨_,_,[],rfl,λ_=>rfl,.bool _,uQ l _,by simp⟩,O,P,Q⟩
end QD
namespace L2
open PySem PySem.Spec PyProof.Rows
theorem mI:∀{a:List Value}{b:List Int},IntsAre a b->Vals (b.map V.int) a
 |_,_,.nil=>.nil
 |_,_,.cons n t h=>.cons ⟨t,rfl⟩ (mI h)
def Only(H:Hp):Prop:=∀b,H b=none\/∃o a,H b=some (.dj o (.lst a))
variable{A:World}{D2:Sp}{G h:Addr}{N2:List Int}{Q2:uH}{b:Nat}{d:Str}{o:Shared}{x:PySem.W.Frag}{z:Program}{θ:Str->Option Value}{ς:FuncData}{ψ:List Value}
theorem wR{N:Str->Option Value}(U:x.In o.heap)(y:o.heap.Ns mainGlobals θ)(k:o.heap.Ns builtinsNs N)(O:∀d:Str,d≠"__name__"->N d=bootBuiltins d)(B:o.heap.NoLimit)(hg:o.gens = #[])(M:o.heap.get? G=some {cls:=.type "list",data:=.seq ψ.toArray})(X:IntsAre ψ N2)(Y:N2.length<=sizeLine)(hr:bA b callerA)(F:∀base:Heap,x.In base->base.Ns mainGlobals θ->bx z A x θ base Q2 b h ς [d] D2)(w:∀(s:Shared) (u:Value),BindsTo s ς ⟨[u],[]⟩ [(d,u)])(P:∀H:Hp,Only H->kF x H G (N2.map V.int)->D2 [.ref G] H (λv _=>v=.bl true) λ_ _ _=>False)(Q:∀H e l,Q2 [] H o (λ_ _ _=>False) e l->False):
  codeAny (model z A) callerA (.call (.ref h) ⟨[.ref G],[]⟩) (λr l=>r=.ok (.ret (.bool true))/\OldK o.heap l.heap/\l.os=o.os/\AllBare l.gens) o:=by
 have Z:=mI X;have C:=X.length
 have t:∀H:Hp,Only H->kF x H G (N2.map V.int)->gN z A H o.heap->(∀a,H a≠none->a=G)->(H G≠none->x.lookup G=none) ->
   codeAny (model z A) callerA (.call (.ref h) ⟨[.ref G],[]⟩) (λr l=>r=.ok (.ret (.bool true))/\OldK o.heap l.heap/\l.os=o.os/\AllBare l.gens) o:=by
  intro H hO hS D hA hK;have j:∀{a:Addr}{f:Obj},o.heap.get? a=some f->H a=none->(nK o.heap H).get? a=some f:=λe n=>v9 e n
  have R:∀{a:Addr}{f:Obj}{E:Array DictEntry}{I:Nat},o.heap.get? a=some f->f.data=.dict E I->H a=none:=λ{a f E I} e i=>by
   cases q:H a with
   |none=>rfl
   |some u=>
    have S:a=G:=hA a (by rw[q];simp)
    subst S;rw[M]at e;cases e
    have d':Data.seq ψ.toArray _=Data.dict E I:=i;cases d'
  have p:∀{a:Addr}{m:Str->Option Value},o.heap.Ns a m->(nK o.heap H).Ns a m:=λ{a m} ⟨f,E,I,e,i,r⟩=>⟨f,E,I,j e (R e i),i,r⟩
  have J:x.In (nK o.heap H):=λa f e=>j (U a f e) (by
   cases q:H a with
   |none=>rfl
   |some u=>
    have S:a=G:=hA a (by rw[q];simp)
    subst S;rw[hK (by rw[q];simp)]at e;cases e)
  have hM:Mod x θ (nK o.heap H):=⟨J,p y,⟨N,p k,O⟩,let ⟨mc,h1,h2⟩:=B;⟨mc,p h1,h2⟩⟩
  have e0:pC z A x θ (nK o.heap H) callerA [] o H:=⟨rfl,hM,λa f e=>z9 e,Nat.le_of_eq (uA _ _),trivial,λa k=>absurd (show a∈([]:List Addr)from k) (by simp),D,.of_eq hg⟩
  refine codeAny_mono ((F _ J (p y)).run callerA [] o H ⟨[.ref G],[]⟩ [.ref G] [.ref G] _ _ hr e0 (w o (.ref G)) (.cons rfl .nil) (P H hO hS)) λr l g=>?_
  cases r with
  |error e=>exact(Q H e l g).elim
  |ok fl=>
   cases fl with
   |next=>exact False.elim g
   |brk=>exact False.elim g
   |cont=>exact False.elim g
   |ret u=>
    obtain⟨v,H',os,bare,un,K,r',q⟩:=g;have q':v=.bl true:=q;subst q';obtain rfl:u=Value.bool true:=r';refine⟨rfl,OldK.of_keep λa f e=>?_,os,bare⟩
    cases q:H a with
    |none=>exact un.keep a f e q (by intro c;exact absurd (show a∈([]:List Addr)from c) (by simp)) (by simp)
    |some u=>
     rcases hO a with c|⟨ob,xs,c⟩
     .rw[q]at c;cases c
     .have z2:=un.eD a ob _ c
      obtain⟨e1,_⟩:=D a _ c;obtain⟨e2,_⟩:=K a _ z2;rw[e]at e1;cases e1
      exact e2
 cases T:x.lookup G with
 |some f=>
  have e:=U G f T;rw[M]at e;cases e;refine t (λ_=>none) (λ_=>.inl rfl) (.inr ⟨_,ψ.toArray,_,T,rfl,rfl,rfl,by rw[List.size_toArray,C];exact Y,by simpa using Z⟩) (λa u c=>by have L:(none:Option HO)=some u:=c;cases L) (λa c=>absurd rfl c) λc=>absurd rfl c
 |none=>
  refine t (λa=>if a=G then some (.dj {cls:=.type "list",data:=.seq ψ.toArray} (.lst (N2.map V.int)))else none) (λa=>?_) (.inl (.inr ⟨{cls:=.type "list",data:=.seq ψ.toArray},if_pos rfl⟩)) (λa u c=>?_) (λa c=>?_) λ_=>T
  .by_cases k:a=G
   .exact .inr ⟨_,_,if_pos k⟩
   .exact .inl (if_neg k)
  .by_cases k:a=G
   .have L:=(if_pos k).symm.trans c
    cases L;subst k;exact⟨M,by rw[List.length_map];exact Y,ψ,_,Z,M⟩
   .have L:=(if_neg k).symm.trans c
    cases L
  .by_cases k:a=G
   .exact k
   .exact absurd (if_neg k) c
variable{C8:DefRec}{L7:World->Heap->Prop}{M8:(Str->Option Value)->Heap->Prop}{g:List Str}{t:Nat}
theorem AB{l:PySem.W.OpenLaw}{K:Params->PySem.W.Frag}{CX:World->uH}{sp:World->Sp}(J:l.most=some b)(q:b<=sizeLine)(r:C8.params.defaults=[])(L:bA t callerA)(M:∀(w:World) (h:Heap),L7 w h->(K w.params).In h)(F:∀(w:World) (j:Str->Option Value) (n:Addr) (h:Heap),(K w.params).In h->h.Ns mainGlobals j->j C8.name=some (.ref n) ->
   ∃x:FuncData,(∀(s:Shared) (u:Value),BindsTo s x ⟨[u],[]⟩ [(d,u)]) /\
    ∀base:Heap,(K w.params).In base->base.Ns mainGlobals j->bx l.prog w (K w.params) j base (CX w) t n x [d] (sp w))(y:∀(w:World) (H:Hp) (a:Addr) (p:List Int),p.length<=b->Only H->kF (K w.params) H a (p.map V.int)->sp w [.ref a] H (λv _=>v=.bl true) λ_ _ _=>False)(A:∀(w:World) (H:Hp) (s:Shared) (e:Value) (B:Shared),CX w [] H s (λ_ _ _=>False) e B->False):
  PySem.W.WalkO z g M8 L7 l.row.toRowW C8 [] (λf D=>PySem.call f D):=by
 refine QD.pM J r λw E k j X n o Z cd N a D p G Y ho hd O C m i c P=>?_
 have I:=M w _ Y;obtain⟨x,Q,R⟩:=F w j n _ I G.T.g C;exact wR I G.T.g G.T.b G.T.builtins G.T.nolimit P m i (Nat.le_trans c q) L R Q (λH S U=>y w H a p c S U) λH e B=>A w H k e B
noncomputable def inClass(s:Stmt)(j:Nat):Stmt:=match s with
 |.ClassDef _ _ _ body _ _ _ _ _ _ _=>body.getD j (.Pass ⟨0,0,0,0⟩)
 |_=>.Pass ⟨0,0,0,0⟩
noncomputable def bq(s:Stmt):Arguments:=match s with
 |.FunctionDef _ a _ _ _ _ _ _ _ _=>a
 |_=>{posonlyargs:=[],args:=[],vararg:=none,kwonlyargs:=[],kw_defaults:=[],kwarg:=none,defaults:=[]}
noncomputable def aV(s:Stmt):List Stmt:=match s with
 |.FunctionDef _ _ b _ _ _ _ _ _ _=>b
 |_=>[]
noncomputable def aj(s:Stmt):Scope:=match s with
 |.FunctionDef _ _ _ _ _ _ a _ _ _=>a
 |_=>{kind:=.function,names:=[],isGenerator:=false,isCoroutine:=false}
abbrev eB:uH:=λ_ _ _ _ _ _=>False
abbrev E0:XK:=λ_ _ _=>False
variable{c:Cx}
theorem iy:Passes eB c E0:=λ_ _ _ _ _ _ _ h=>h.elim
structure vU(K:PySem.W.Frag)(x qual:Str)(st:Stmt)(f:Addr)(fd:FuncData):Prop where
 ex:∃(oc:Value) (od:Option Addr) (kV doc pm:Value) (an:Option Addr) (cdv ct:Value) (osl:Array (Option Value)),
  fd=PySem.W.fnOf x qual (bq st) (aV st) (aj st) .none kV doc pm an cdv ct/\K.lookup f=some ⟨oc,od,.func fd,osl⟩/\PySem.W.codeIn K cdv qual=true
 kp:PySem.W.keepIn K (.ref f)=true
variable{T:Str}{Y:List Str}{w:Heap}{Δ:Stmt}
theorem vU.ok(F:vU x d T Δ h ς)(S:ir g Y (aj Δ))(j:∀c H Q E,D2 c H Q E->c.length=Y.length)(e:∀(f:Value) (a:Around) (outer:List Env) (s:Shared) (H:Hp) (c:List V) (Q:VK) (E:XK),bA b (a.deeper (envOfC T (aj Δ) s.heap.objs.size h f))->D2 c H Q E ->
   ∃t,gU (cO eB z A x θ w g T (aj Δ) h f a outer s H E).jP (aV Δ) t/\t {nx:=λ_ m=>Q .non m,rt:=Q} (start g c) H):bx z A x θ w eB (b+1) h ς Y D2:=by
 obtain⟨oc,u,kV,n,y,B,f,ct,o,rfl,p,k⟩:=F.ex;refine wD p k S j λa outer s H c Q E r l=>?_
 obtain⟨t,i,q⟩:=e _ a _ s H c Q E r l;exact⟨t,i.jP,q⟩
theorem vU.binds(F:vU x d T Δ h ς)(a:∀(kV b e:Value) (f:Option Addr) (c ct:Value) (i:List Value),i.length=g.length->bindArgs (PySem.W.fnOf d T (bq Δ) (aV Δ) (aj Δ) .none kV b e f c ct) ⟨i,[]⟩=pure (g.zip i)):Binds x ς g []:=by
 obtain⟨oc,l,kV,b,e,f,c,ct,j,rfl,m,k⟩:=F.ex;exact .all (a kV _ e f _ ct)
variable{D3 D5:Option Addr}{H M5 N5 Q0 x6 z5:Value}{v5:Array (Option Value)}
theorem n_(l:x.lookup h=some ⟨H,D3,.func (PySem.W.fnOf d T (bq Δ) (aV Δ) (aj Δ) .none Q0 z5 M5 D5 N5 x6),v5⟩)(c:PySem.W.codeIn x N5 T=true)(k:PySem.W.keepIn x (.ref h)=true):vU x d T Δ h (PySem.W.fnOf d T (bq Δ) (aV Δ) (aj Δ) .none Q0 z5 M5 D5 N5 x6):=⟨⟨H,D3,Q0,_,M5,D5,_,x6,_,rfl,l,c⟩,k⟩
theorem uR:eH c (.builtin "len") (λxs H Q=>∃a kvs,xs=[V.ref a]/\Rd H a (.dK kvs)/\Q (.int kvs.length) H):=by
 intro pins s f H xs g Q I r h;obtain⟨a,kvs,rfl,b,q⟩:=h;obtain⟨u,rfl,d⟩:=vals1 r;cases d;exact H_ I b λt i e=>⟨.int _,H,e,⟨t,rfl⟩,q⟩
variable{T7:Prop}
theorem pN{B:Prop}(h:B):if false=true then T7 else B:=by
 grind
theorem pO{B:Prop}(h:T7):if true=true then T7 else B:=h
def iz(H a:Hp):Prop:=∀b o,H b=some o->a b=some o
theorem iz.refl(H:Hp):iz H H:=λ_ _ h=>h
variable{M6 e ο:Hp}
theorem iz.trans(a:iz e ο)(b:iz ο M6):iz e M6:=λc o h=>b c o (a c o h)
open PySem.W
def Ie(X:Cx)(f:Addr)(c:List V)(a:St)(H:Hp)(Q:VK):Prop:=∀(pins:List (Addr×Obj)) (s:Shared) (b:List Value),Inv X pins a H s->Vals c b->wpAny (model X.prog X.w) X.A (call (.ref f) b) (EP X pins a Q) X.xe s
noncomputable def Cx.fz(X:Cx)(xs:List Str):Cx:={X with fn:=λy=>X.fn y&&!(xs.contains y)}
theorem KT.length{H:Hp}{l:List (List Key×V)}{m:List (List Key×Addr×Value)}(q:KT H l m):m.length=l.length:=by
 induction q with
 |nil=>rfl
 |cons _ _ a=>simp_all
end L2
namespace HT
open PySem PyProof.Rows
end HT
namespace L2
open PySem PySem.Spec PyProof.Rows
open PySem.W
def Ig(a:Addr)(o:Obj):It:=
 ⟨λi H=>∃b,H a=some (.dj o (.dK b))/\i<b.length,λi H x d=>d=H/\∀b,H a=some (.dj o (.dK b))->∃c,b[i]?=some c/\x=kV c.1,λi H=>∃b,H a=some (.dj o (.dK b))/\b.length<=i⟩
theorem fv{a b:Type}{F:a->b->Prop}:∀{xs:List a}{c:List b}{i:Nat}{x:a},Paired F xs c->xs[i]?=some x->∃u,c[i]?=some u/\F x u
 |_,_,_,_,.nil,e=>by simp at e
 |_,_,0,_,.cons r _,e=>by simp_all
 |_,_,i+1,x,.cons _ t,e=>by
  obtain⟨u,d,f⟩:=fv t (by simpa using e)
  simp_all
variable{A:World}{H:Value}{k6:Key}{z:Program}
theorem oa(h:(cY z A).is k6 H=true):RelV (kV k6) H:=by
 rcases bI (h)with ⟨i,t,rfl,rfl⟩|⟨x,t,rfl,rfl⟩
 .exact⟨t,rfl⟩
 .exact⟨t,rfl⟩
variable{B4:List (Key×V)}{J8:Array DictEntry}{b:Nat}{e:Hp}{h:Addr}{w:Heap}{ω:Obj}
theorem jj(ok:gN z A e w)(a:e h=some (.dj ω (.dK B4)))(f:ω.data=.dict J8 b):
  ∃c,KV B4 c/\w.DictAt (cY z A) h c b/\J8.size=c.length/\(h==sysModules)=false:=by
 obtain⟨g,_,k,c,r,q,l,m,d,n,i,o,j,p⟩:=ok h _ a;rw[g]at d;cases d
 rw[f]at i;cases i
 refine⟨c,r,⟨ω,J8,g,n,f,o,j,p⟩,?_,k⟩;rw[←j.length];simp
variable{j:Expr}{x:PySem.W.Frag}
theorem uS(a l:Addr)(M:ω.data=.dict J8 b):Turn z A x j (Ig a ω) [l] l (λi h=>h.IsKeyIter l a i J8.size b) where
 mem:=by simp
 obj:=λi h g f m=>by
  obtain⟨ω,e,c,d⟩:=g
  simp_all
 keep:=λi h N g k=>by
  obtain⟨ω,e,c,d⟩:=g;exact⟨ω,k l (by simp) ω e,c,d⟩
 item:=by
  intro X p t u O i pins s R H E I n g w;subst p t u;obtain⟨y,B,P⟩:=w;obtain⟨S,r,C,o,_⟩:=jj I.hok B M;obtain⟨q,T,rq⟩:=fv r (List.getElem?_eq_getElem P);obtain⟨D,F,U,G,J,K⟩:=n l (by simp)
  rw[o]at g;refine wpAny_pyNext_dict_item g C T λV N Y L Z=>?_
  obtain⟨o1,e1,c1,d1⟩:=id L;refine⟨_,rfl,pA e1 c1 d1 (by decide) ⟨_,H,(I.turned (λf ω m e=>(Z.2 f m).trans e) D F G J K),oa Y,⟨rfl,λQ a0=>?_⟩,by rwa[o],λf m=>(n f m).1⟩⟩
  simp_all
 done:=by
  intro X p t u O i pins s R H E I n g w;subst p t u;obtain⟨y,B,P⟩:=w;obtain⟨S,r,C,o,_⟩:=jj I.hok B M;obtain⟨D,F,U,G,J,K⟩:=n l (by simp)
  have hl:=r.length;rw[o]at g;exact wpAny_pyNext_dict_end (I.ok.hd O) g C (by grind) λN eb=>⟨rfl,I.turned (λf ω m e=>eb f ω m e) D F G J K⟩
 self:=λ_ _ _ _ _ g h=>wpAny_pyIter_keyiter g h
variable{N:St}{c:Cx}{o:Shared}{v:List (Addr×Obj)}
theorem Inv.sW(I:Inv c v N e o)(d:e h=some (.dK B4)):∃a f g,o.heap.get? h=some a/\a.data=.dict f g/\Inv c v N (upd e h (.dj a (.dK B4))) o:=by
 obtain⟨z,k,l,r,a,f,g,i,m,j,n,p,q⟩:=I.hok h _ d;refine⟨a,f,g,i,j,?_⟩;have:=n7 (b:=o.toks) (o0:=.dj a (.dK _)) I (by rw[d];exact True.intro) ⟨rfl,by simp⟩ ⟨a,i⟩ ⟨i,z,k,l,r,a,f,g,i,m,j,n,p,q⟩
 exact this
def Ih(R:It->Hp->Prop)(x:V)(c:Hp):Prop:=∃a b,x=.ref a/\((c a=some (.dK b)/\∀o,R (Ig a o) (upd c a (.dj o (.dK b))))\/∃o,c a=some (.dj o (.dK b))/\R (Ig a o) c)
variable{L6:It->Hp->Prop}{u:V}
theorem AD(s:Inv c v N e o)(x:RelV u H)(q:Ih L6 u e):wpAny (model c.prog c.w) c.A (pyIter H) (PIE c v N j L6) c.xe o:=by
 obtain⟨a,n,rfl,q⟩:=q;cases (x)
 have g:∀(d:Obj) (h:Array _) (i:Nat) (k:Hp),Inv c v N k o->k a=some (.dj d (.dK n))->d.data=.dict h i->L6 (Ig a d) k->wpAny (model c.prog c.w) c.A (pyIter (.ref a)) (PIE c v N j L6) c.xe o:=by
  intro d h i k f y l m;obtain⟨B,r,C,D,t⟩:=jj f.hok y l;refine wpAny_pyIter_dict t C ?_;refine⟨_,_,_,_,k,rfl,(f.kept λb d q=>Heap.get?_push_of_some _ q),uS a _ l,?_,λb E=>?_,m⟩
  .rw[D]
   exact⟨_,Heap.get?_push_size _ rfl,rfl,rfl⟩
  .have z:=by simpa using E
   rw[z];have:=f.wh (Nat.le_refl _) (f.hok.fresh (Nat.le_refl _));exact this
 rcases q with ⟨p,m⟩|⟨d,p,m⟩
 .obtain⟨d,h,i,F,l,f⟩:=s.sW p
  exact g d h i _ f aL l (m d)
 .obtain⟨F,_,t,B,r,I,h,i,G,J,K,L⟩:=s.hok a _ p
  grind
variable{A3:Heap}{G Ξ:Addr}{U:Value->Shared->Prop}{u5:Array Value}{w4:Result->Shared->Prop}{ψ:List Value}
section
variable{prog:Program}{w:World}{A:Around}{E:Value->Shared->Prop}{s:Shared}
theorem uT{Q:Bool->Shared->Prop}(b:s.TypeIs (.ref h) "dict")(a:Q false s):wpAny (model prog w) A (Builtin.List.listLengthHint (.ref h)) Q E s:=by
 refine wpAny_bind (wpAny_specialOf b F.slot_dict_len.lookup ?_);generalize c:("dict.__len__")=d;subst c;refine wpAny_bind (wpAny_isInstance b isSubtype_dict_dict ?_);refine wpAny_bind (wpAny_typeOf b ?_);exact wpAny_pure a
theorem og{Q:Option Value->Shared->Prop}(n:s.heap.get? h=some ω)(o:ω.cls=.type "list")(f:ω.data=.seq u5 b)(p:ω.dict=none)(t:A.handled=none)(i:∀m q,(∀a ω,s.heap.get? a=some ω->m.get? a=some ω)->Q none {s with heap:=m,toks:=q}):wpAny (model prog w) A (getAttr? (.ref h) "keys") Q E s:=by
 obtain⟨c,u,x,y⟩:=ω;simp only at o f p;subst o f p;obtain⟨z,g,d,q,B⟩:=s;have r:∀k,(⟨z,g,d,k,B⟩:Shared).TypeIs (.ref h) "list":=λ_=>⟨_,n,rfl⟩
 have C:=sub_AttributeError;have D:=F.slot_list_getattribute.lookup;have G:=F.slot_list_getattribute.bind (.ref h);have H:=am_list_getattr_none;have j:typeLookup (.type "list") "keys"=pure none:=am_miss_of_fast (by kernel_rfl)
 unfold getAttr? getAttrBy? getAttrBy
 repeat (any_goals (first|assumption|exact r _ | ((with_reducible show wpAny _ _ (call (Value.builtin "list.__getattribute__") _ _) _ _ _);refine call_meets F.slot_list_getattribute (r _) am_entry_list_getattribute (F.args_list_getattribute_2 _ _) (meets_getattribute_miss_list h u5 b y "keys" _ j (by decide) (by decide)) ⟨n,t,λm k e l=>?_⟩)|wp_step))
 obtain⟨I,J,K⟩:=l.there
 show wpAny _ _ (getattributeRaised _ _ _ _ _ _ _) _ _ _
 unfold getattributeRaised
 repeat (any_goals (first|assumption|wp_step))
 exact i _ _ λa ω e=>l.keeps a ω e
theorem eJ:plainId "dict.update.loop"=true:=by decide +kernel
theorem eK:entryFor table "dict.update.loop"=some Builtin.«dict.update.loop» := entryFor_of_fast (by kernel_rfl)
variable{K:Type}[DecidableEq K]{knd:KeyKind prog w K}
theorem kI{c d:Type}{F G:c->d->Prop}(h:∀a b,F a b->G a b):∀{xs:List c}{e:List d},Paired F xs e->Paired G xs e
 |_,_,.nil=>.nil
 |_,_,.cons r t=>.cons (h _ _ r) (kI h t)
def kJ(knd:KeyKind prog w K)(h:Heap)(p:K×Value)(u:Value):Prop:=∃b o a n,u=.ref b/\h.get? b=some o/\o.cls=.type "tuple"/\o.data=.seq #[a,p.2] n/\knd.is p.1 a=true
theorem pP(hh:A.handled=none)(g:Ξ≠G)(D:h≠Ξ)(E:h≠G)(hl:A3.IsList h ψ.toArray)(F:Value)(R:∀o,A3.get? Ξ=some o->o.cls≠.type "tuple")(S:∀o,A3.get? G=some o->o.cls≠.type "tuple"):
  ∀(j:List (K×Value)) (i:Nat) (t:Tok) (s:Shared) (c:List (K×Value)),Paired (kJ knd A3) j (ψ.drop i)->c.length+j.length<=sizeLine->(∀b o,b≠Ξ->b≠G->A3.get? b=some o->s.heap.get? b=some o)->s.heap.IsListIter G h i->s.heap.DictOf knd Ξ c ->
  (∀k U,(∀b o,b≠Ξ->b≠G->s.heap.get? b=some o->k.get? b=some o)->k.DictOf knd Ξ (j.foldl (λa p=>stored a p.1 p.2) c)->w4 (.ok (.ret F)) {s with heap:=k,toks:=U}) ->
  codeAny (model prog w) A (.builtin "dict.update.loop" ⟨[.ref Ξ,.ref G,.int i t,F],[]⟩) w4 s:=by
 intro j
 induction j with
 |nil=>
  intro i t s c H V I l X Y;refine codeAny_builtin eK ?_;have C:ψ.drop i=[]:=by generalize ψ.drop i=q at H;cases H;rfl
  refine wpAny_bind (wpAny_pyNext_list_end hh l (let ⟨o,m,r⟩:=hl;⟨o,I h o D E m,r⟩) (by simpa using List.drop_eq_nil_iff.mp C) λk eb=>?_)
  exact wpAny_bind (wpAny_pure (wpAny_pure (Y k s.toks (λb o _ Q e=>eb b o Q e) (X.extBut eb g))))
 |cons p j ih=>
  intro i t s c H V I l X Y
  have C:∃u r,ψ.drop i=u::r/\kJ knd A3 p u/\Paired (kJ knd A3) j r:=by
   generalize ψ.drop i=q at H;cases H with|cons a b=>exact⟨_,_,rfl,a,b⟩
  obtain⟨u,r,C,⟨b,o,g0,n,rfl,m,Z,J,L⟩,a0⟩:=C;have hr:ψ.drop (i+1)=r:=by rw[←List.drop_drop,C];rfl
  have b0:b≠Ξ:=λe=>R o (e▸m) Z
  have M:b≠G:=λe=>S o (e▸m) Z
  refine codeAny_builtin eK ?_
  refine wpAny_bind (wpAny_pyNext_list_item l (let ⟨o,m,r⟩:=hl;⟨o,I h o D E m,r⟩) (x:=.ref b) (by simpa using (by
   have:=congrArg (·[0]?) C;simpa using this)) λh1 N y=>?_)
  have O:h1.get? b=some o:=(y.2 b M).trans (I b o b0 M m);have c0:h1.DictOf knd Ξ c:=X.extBut y.extBut g;refine wpAny_bind (wpAny_holding (wpAny_bind (wpAny_tryCatch ?_)));unfold Builtin.Dict.pairItems;refine wpAny_bind (wpAny_typeOf (T:="tuple") ⟨o,O,Z⟩ ?_);rw[if_pos (by decide)]
  unfold seqItems?;refine wpAny_bind (wpAny_bind (wpAny_load O ?_));rw[J];refine wpAny_pure (wpAny_pure ?_);refine wpAny_holding (wpAny_dictSet_pairs L c0 (λQ d0 P=>?_) (by simp at V;omega))
  refine wpAny_pure ⟨plainId_quiet eJ _,?_⟩;have keep:∀d f,d≠Ξ->d≠G->s.heap.get? d=some f->Q.get? d=some f:=λd f z B e=>(P.2 d z).trans ((y.2 d B).trans e)
  have:=ih (i+1) 0 {s with heap:=Q,toks:=s.toks+1} (stored c p.1 p.2) (by rw[hr];exact a0) (by have:=stored_length_le c p.1 p.2;simp at V;omega) (λd f z B e=>keep d f z B (I d f z B e)) (N.at λo e=>(P.2 G (Ne.symm g)).trans e) d0 (λk U e0 f0=>Y k U (λd f z B e=>e0 d f z B (keep d f z B e)) f0)
  exact this
theorem kK{H:List (K×Value)}(X:A.handled=none)(Y:s.heap.get? h=some ω)(M:ω.cls=.type "list")(f:ω.data=.seq ψ.toArray b)(hd:ω.dict=none)(hp:Paired (kJ knd s.heap) H ψ)(hsz:H.length<=sizeLine)(i:∀n N,(∀c ω,s.heap.get? c=some ω->n.get? c=some ω)->n.DictOf knd s.heap.objs.size (H.foldl (λa p=>stored a p.1 p.2) [])->U (.ref s.heap.objs.size) {s with heap:=n,toks:=N}):
  wpAny (model prog w) A (call (.type "dict") [.ref h]) U E s:=by
 refine callType_codes (Q₁:=λo g=>o=.ref s.heap.objs.size/\g={s with heap:=s.heap.push _}) F.kt_called_dict (F.kt_typeCall_dict_1 _) F.entry_dict_init (kt_code_dict_new _ ⟨rfl,rfl⟩) ?_
 rintro o g ⟨rfl,rfl⟩;have d:(s.heap.push _).DictOf knd s.heap.objs.size []:=Heap.DictOf.new s.heap;have j:=Heap.get?_push_of_some {cls:=.type "dict",data:=.dict #[]} Y;refine⟨d.typeIs,F.args_dict_init_2 _ _,?_⟩;refine wpAny_bind ?_;refine wpAny_bind (wpAny_notOrdered_dict d.typeIs ?_);refine wpAny_pure ?_
 show wpAny _ _ (Builtin.Dict.updateFrom "dict.__init__" s.heap.objs.size (.ref h) [] .none) _ _ _
 refine wpAny_bind (wpAny_typeOf (T:="list") ⟨ω,j,M⟩ ?_);rw[if_pos (by decide)]
 refine wpAny_bind (og (A:=A.in1.in1) j M f hd X λm N O=>?_)
 rw[if_pos (by decide)]
 refine wpAny_bind (wpAny_rule ?_);have q:m.IsList h ψ.toArray:=⟨ω,O h ω j,M,b,f⟩;refine wpAny_bind (wpAny_pyIter_list q ?_);refine wpAny_pure ⟨plainId_quiet eJ _,?_⟩;have Z:=λc ω e=>O c ω (Heap.get?_push_of_some _ e)
 have t:m.DictOf knd s.heap.objs.size []:=let ⟨ω,I,J,e,r⟩:=d;⟨ω,I,J,O _ ω e,r⟩
 have k:=let ⟨ω,_,_,e,_⟩:=t;Heap.lt_size e
 have x:h<s.heap.objs.size:=Heap.lt_size Y;generalize hq:m.push _=y;have L:∀c ω,m.get? c=some ω->y.get? c=some ω:=λc ω e=>by rw[←hq];exact Heap.get?_push_of_some _ e
 have z:y.IsListIter m.objs.size h 0:=by rw[←hq];exact⟨_,Heap.get?_push_size _ rfl,rfl,rfl⟩
 have B:y.DictOf knd s.heap.objs.size []:=let ⟨ω,I,J,e,r⟩:=t;⟨ω,I,J,L _ ω e,r⟩
 have l:=pP (A:=A.in1) (w4:=wants (λr C=>r=Value.none/\U (Value.ref s.heap.objs.size) C) E) (knd:=knd) (A3:=y) (h:=h) (G:=m.objs.size) (Ξ:=s.heap.objs.size) (ψ:=ψ) X (Nat.ne_of_lt k) (Nat.ne_of_lt x) (Nat.ne_of_lt (Nat.lt_trans x k))
  (let ⟨ω,e,r⟩:=q;⟨ω,L _ ω e,r⟩) .none (λω e=>by
   obtain⟨o',I,J,P,D,_⟩:=B;rw[e]at P;cases P
   rw[D.1];decide) (λω e=>by
   obtain⟨o',P,D,_⟩:=z
   grind) H 0 0 {s with heap:=y,toks:=N} [] (by
   rw[List.drop_zero]
   exact kI (λp u Q=>by
    obtain⟨c,ω,l,b,e1,e2,r⟩:=Q;exact⟨c,ω,l,b,e1,L _ _ (Z _ _ e2),r⟩) hp) (by simpa using hsz) (λc ω _ _ e=>e) z B (λn R S V=>?_)
 .exact l
 .refine⟨rfl,i n R (λc ω e=>S c ω ?_ ?_ (L _ _ (Z _ _ e))) V⟩
  .exact Nat.ne_of_lt (Heap.lt_size e)
  .exact Nat.ne_of_lt (Nat.lt_trans (Heap.lt_size e) k)
theorem kL{kvs:List (K×Value)}(hh:A.handled=none)(lo:(h==sysModules)=false)(da:s.heap.DictAt knd h kvs b)(hn:kvs.length<=sizeLine)(hQ:∀N tk f O,(∀a o,s.heap.get? a=some o->N.get? a=some o)->N.get? s.heap.objs.size=some {cls:=.type "list",dict:=none,data:=.seq f O,slots := #[]}->ItemsOf (λi v=>∃k x,kvs[i]?=some (k,x)/\knd.is k v=true) f kvs.length->U (.ref s.heap.objs.size) {s with heap:=N,toks:=tk}):
  wpAny (model prog w) A (call (.type "list") [.ref h]) U E s:=by
 refine callType_codes (Q₁:=λy n=>y=.ref s.heap.objs.size/\n={s with heap:=s.heap.push {cls:=.type "list",data:=.seq #[]} }) F.called_list (F.typeCall_list_1 _) F.entry_list_init
  (code_list_new _ ⟨rfl,rfl⟩) λy n B=>?_
 obtain⟨rfl,rfl⟩:=B;generalize d:s.heap.objs.size=S;have J:(s.heap.push {cls:=.type "list",data:=.seq #[]}).get? S=some {cls:=.type "list",data:=.seq #[]}:=by rw[←d];exact Heap.get?_push_size _ rfl
 refine⟨⟨_,J,rfl⟩,F.args_list_init_2 _ _,?_⟩;refine wpAny_bind ?_;unfold Builtin.List.listItems;refine wpAny_bind (wpAny_seqItems J rfl (wpAny_pure ?_));refine wpAny_bind (wpAny_updateSeq J rfl ?_);have c:=Heap.get?_update_self (Obj.mapSeq (λ_=>(#[]:Array Value))) J rfl
 have p:S≠h:=λe=>by
  obtain⟨o,es,q,_⟩:=da;exact Nat.lt_irrefl _ ((e▸d)▸Heap.lt_size q)
 refine wpAny_bind (wpAny_letGo ?_);generalize P:(s.heap.push {cls:=.type "list",data:=.seq #[]}).update S (Obj.mapSeq (λ_=>(#[]:Array Value)))=g at c
 have k1:∀a o,s.heap.get? a=some o->g.get? a=some o:=λa o e=>by
  rw[←P];exact(Heap.get?_update_other _ _ (λz=>Nat.lt_irrefl _ ((z▸d)▸Heap.lt_size e))).trans (Heap.get?_push_of_some _ e)
 have m:g.DictAt knd h kvs b:=da.at' λo e=>k1 h o e
 have Q:({s with heap:=g}:Shared).TypeIs (.ref h) "dict":=let ⟨o,_,q,R,_⟩:=m;⟨o,q,R.1⟩
 show wpAny _ _ (Builtin.List.listExtendWith (.ref S) (.ref h) .none) _ _ {s with heap:=g}
 unfold Builtin.List.listExtendWith;refine wpAny_bind (wpAny_typeOf Q ?_);have T:Builtin.List.listSameRef (.ref S) (.ref h)=false:=by simp[Builtin.List.listSameRef,p]
 have V:(Value.type "dict"==Value.type "list")=false:=by decide
 have X:(Value.type "dict"==Value.type "tuple")=false:=by decide
 simp only[T,V,X,Bool.or_false,Bool.false_eq_true,if_false];refine wpAny_bind (wpAny_pyIter_dict lo m ?_);generalize C:g.push {cls:=.type "dict_keyiterator",data:=.fields #[.ref h,.int 0 0,.int kvs.length 0,.int b 0]}=r;have L:∀a o,g.get? a=some o->r.get? a=some o:=λa o e=>by rw[←C];exact Heap.get?_push_of_some _ e
 have Y:r.IsKeyIter g.objs.size h 0 kvs.length b:=by rw[←C];exact⟨_,Heap.get?_push_size _ rfl,rfl,rfl⟩
 have D:r.DictAt knd h kvs b:=m.at' λo e=>L h o e
 have Z:({s with heap:=r}:Shared).TypeIs (.ref h) "dict":=let ⟨o,_,q,R,_⟩:=D;⟨o,q,R.1⟩
 refine wpAny_bind (wpAny_holding (uT (s:={s with heap:=r}) Z ?_));refine wpAny_ite_split (λ_=>?_) (λa0=>absurd (by decide) a0)
 refine wpAny_bind (wpAny_rule ?_);refine wpAny_bind ?_
 show wpAny _ _ (updateSeq S (·.push .none) >>= λ_=>updateSeq S (·.pop)) _ _ _
 refine wpAny_bind (wpAny_updateSeq (L _ _ c) rfl ?_);have j:=Heap.get?_update_self (Obj.mapSeq (·.push Value.none)) (L _ _ c) rfl;refine wpAny_updateSeq (hz:=by seq_fits) j rfl ?_
 have l:=Heap.get?_update_self (Obj.mapSeq (·.pop)) j rfl;refine wpAny_pure ⟨plainId_quiet F.plain_extend_loop _,?_⟩;generalize b0:(r.update S (Obj.mapSeq (·.push Value.none))).update S (Obj.mapSeq (·.pop))=h3 at l
 have k3:∀a o,a≠S->r.get? a=some o->h3.get? a=some o:=λa o t e=>by
  rw[←b0];exact(Heap.get?_update_other _ _ (Ne.symm t)).trans ((Heap.get?_update_other _ _ (Ne.symm t)).trans e)
 have c0:h<g.objs.size:=let ⟨o,_,q,_⟩:=m;Heap.lt_size q
 have u:S<g.objs.size:=Heap.lt_size c;have W:=(Walks.dictKeys (prog:=prog) (w:=w) (A:=A.in1.in1) (knd:=knd) hh g.objs.size h (Nat.ne_of_lt c0) kvs b).toS;refine codeAny_extend_loopS W hn S (λM=>?_) .none kvs.length 0 _ #[] _ rfl (Nat.zero_le _) ⟨Y.at λo e=>k3 _ o (Ne.symm (Nat.ne_of_lt u)) e,D.at' λo e=>k3 _ o (Ne.symm p) e⟩ l (ItemsOf.nil _) λs' f O M G H=>?_
 .rcases List.mem_cons.mp M with e|e
  .exact Nat.ne_of_lt u e
  .exact p (by simpa using e)
 .rw[Moved.eq_with M]at G ⊢
  refine⟨rfl,?_⟩;have:=hQ s'.heap s'.toks f O (λa o e=>M.heap a o (λI=>?_) (k3 _ _ (λz=>Nat.lt_irrefl _ ((z▸d)▸Heap.lt_size e)) (L _ _ (k1 _ _ e)))) (by rw[d];exact G) H
  .rw[d]at this;exact this
  .have t:=Heap.lt_size e
   rcases List.mem_cons.mp I with e' |e'
   .rw[e',←d]at t;exact Nat.lt_irrefl _ t
   .have e':a=g.objs.size:=by simpa using e'
    rw[e',d]at t;exact Nat.lt_irrefl _ (Nat.lt_trans t u)
end
variable{I:List V}{n8:Nat->Value->Prop}
theorem AF(h:ItemsOf n8 u5 I.length)(g:∀(i:Nat) (u:Value) (v:V),n8 i u->I[i]?=some v->RelV v u):Vals I u5.toList:=by
 have c:∀(l:List _) (I:List V),l.length=I.length->(∀(i:Nat) (u:Value) (v:V),l[i]?=some u->I[i]?=some v->RelV v u)->Vals I l:=by
  intro l
  induction l with
  |nil=>intro I h _;cases I with|nil=>exact .nil|cons a b=>simp at h
  |cons u l j=>
   intro I h f;cases I with
   |nil=>simp at h
   |cons v I=>exact .cons (f 0 u v rfl rfl) (j I (by simpa using h) λi k m d e=>f (i+1) k m (by simpa using d) (by simpa using e))
 exact c _ _ (by rw[Array.length_toList,h.1]) λi u v d e=>g i u v (h.2 i u (by simpa using d)) e
theorem rD(j:c.calm=true):eH c (.type "list") (λxs H Q=>∃a kvs,xs=[V.ref a]/\Rd H a (.dK kvs)/\∀l,H l=none->Q (.ref l) (upd H l (.lst (kvs.map λb=>kV b.1)))):=by
 intro pins s S H xs T Q I r h;obtain⟨a,kvs,rfl,m,q⟩:=h;obtain⟨u,rfl,n⟩:=vals1 r;cases n;obtain⟨z,p,U,d,t⟩:=iw I.hok m;obtain⟨o,w,X,y,A,B,C⟩:=t;have D:=d.length;refine kL (I.ok.hd j) p ⟨o,w,y,A,B,C⟩ (by omega) λE Y f F G e J=>?_
 have K:Vals (kvs.map λb=>kV b.1) _:=AF (by rw[List.length_map,←D]at *;exact J) λi u v L Z=>by
  obtain⟨k,x,M,N⟩:=L
  have O:∃b,kvs[i]?=some b/\v=kV b.1:=by
   grind
  obtain⟨b,P,rfl⟩:=O;obtain⟨q',g,R⟩:=fv d P;rw[M]at g;cases g
  rw[R.1];exact oa N
 exact⟨.ref _,_,I.laid G (Nat.le_refl _) (show cT _ _ _ E _ (.lst _)from⟨by grind,_,F,K,by omega⟩),rfl,q _ (I.hok.fresh (Nat.le_refl _))⟩
theorem rE:eH c (.type "dict") (λxs H Q=>∃a kvs,xs=[V.ref a]/\Rd H a (.dK kvs)/\∀l,H l=none->Q (.ref l) (upd H l (.dK kvs))):=by
 intro pins s w H xs x Q I r h;obtain⟨a,kvs,rfl,j,q⟩:=h;obtain⟨u,rfl,k⟩:=vals1 r;cases k;obtain⟨z,m,y,d,n⟩:=iw I.hok j;have A:=d.length;refine kt_call_dict m n (by omega) λp f t=>?_
 have g:∀b o,s.heap.get? b=some o->p.get? b=some o:=λb o e=>(t.2 b (Nat.ne_of_lt (Heap.lt_size e))).trans (Heap.get?_push_of_some _ e)
 have i:=beq_eq_false_iff_ne.mpr (Ne.symm (Nat.ne_of_lt I.big));exact⟨.ref _,_,I.laid g (Nat.le_refl _) (n9 z i d f),rfl,q _ (I.hok.fresh (Nat.le_refl _))⟩
theorem rG(N:c.calm=true):eH c (.type "dict") (λxs H Q=>∃a j d,xs=[V.ref a]/\Rd H a (.lst j)/\Paired (λ(p:Key×V) (y:V)=>∃b,y=.ref b/\Rd H b (.tup [kV p.1,p.2])) d j/\∀l,H l=none->Q (.ref l) (upd H l (.dK (d.foldl (λa p=>putK a p.1 p.2) [])))):=by
 intro pins s σ H xs O Q I r h;obtain⟨a,j,d,rfl,P,x,q⟩:=h;obtain⟨u,rfl,D⟩:=vals1 r;cases D;obtain⟨g,k,⟨o,n,R,E,F,m⟩,hz⟩:=I.list (.inl P)
 have G:∀{d:List (Key×V)}{j:List V}{g:List Value},Paired (λ(p) (y:V)=>∃b,y=.ref b/\Rd H b (.tup [kV p.1,p.2])) d j->Vals j g->∃i,KV d i/\Paired (kJ (cY c.prog c.w) s.heap) i g:=by
  intro d j g x k
  induction x generalizing g with
  |nil=>cases k;exact⟨[],.nil,.nil⟩
  |@cons p y d j z _ A=>
   cases k with
   |@cons _ u _ O D k=>
    obtain⟨i,B,C⟩:=A k;obtain⟨b,rfl,S⟩:=z;cases (D);obtain⟨_,K,t,T,U,X,Y,Z⟩:=(DN I.hok S);cases t with
    |@cons _ k' _ r1 rk t=>
     cases t with
     |@cons _ v' _ r2 J t=>
      cases t with
      |nil=>exact⟨(p.1,v')::i,.cons ⟨rfl,J⟩ B,.cons ⟨b,T,k',Y,rfl,U,X,Z,mH rk⟩ C⟩
 obtain⟨i,B,C⟩:=G x k;have hl:=B.length;have a0:=Paired.length x;refine kK (I.ok.hd N) R E m F C (by omega) λh' tk kp dd=>?_
 have hf:∀{d:List (Key×V)}{i:List _} (e:List (Key×V)) (f:List _),KV e f->KV d i->KV (d.foldl (λa p=>putK a p.1 p.2) e) (i.foldl (λa p=>stored a p.1 p.2) f):=by
  intro d i e f L r
  induction r generalizing e f with
  |nil=>exact L
  |@cons p q d i z _ A=>
   simp;refine A _ _ ?_;rw[←z.1];exact L.put p.1 z.2
 have M:∀(d:List (Key×V)) (e:List (Key×V)),(d.foldl (λa p=>putK a p.1 p.2) e).length<=e.length+d.length:=by
  intro d
  induction d with
  |nil=>simp
  |cons p d A=>
   intro e;have C:=jF e p.1 p.2
   grind
 exact⟨.ref _,_,I.laid kp (Nat.le_refl _) (n9 (by
  grind) (beq_eq_false_iff_ne.mpr (Ne.symm (Nat.ne_of_lt I.big))) (hf _ _ .nil B) dd),rfl,q _ (I.hok.fresh (Nat.le_refl _))⟩
theorem mJ{A B:Type}{f:A->B}:∀{l:List A}{j:Nat},(l.map f).eraseIdx j=(l.eraseIdx j).map f
 |[],_=>rfl
 |_::_,0=>rfl
 |a::l,j+1=>congrArg _ (mJ)
def sX:V->List V->Hp->VK->Prop:=λx b H Q=>∃(l:Addr) (a:List Str) (y:Str) (j:Nat),x=.ref l/\b=[.str y]/\H l=some (.lst (a.map .str))/\a.findIdx? (λz=>z.cps.toList==y.cps.toList)=some j/\Q .non (upd H l (.lst ((a.eraseIdx j).map .str)))
theorem uU:HY c "list.remove" sX:=by
 intro pins s S H x T v U Q I J K h;obtain⟨l,A,y,j,rfl,rfl,G,L,q⟩:=h;cases J;obtain⟨u,rfl,M⟩:=K.one;obtain⟨t,rfl⟩:=M;obtain⟨z,b,n,r,N,e⟩:=I.uK G;rw[List.length_map]at N;obtain⟨O,P,R⟩:=List.findIdx?_eq_some_iff_getElem.mp L
 have d:∀m (g:m<b.length) (o:m<A.length),∃k,b[m]=.str A[m] k:=λm g o=>by
  obtain⟨w,B,k,f⟩:=r.get (i:=m) (x:=.str A[m]) (by rw[List.getElem?_map,List.getElem?_eq_getElem o];rfl)
  rw[List.getElem?_eq_getElem g]at B;exact⟨k,(Option.some.inj B).trans f⟩
 let C:Value->Bool:=λw=>match w with
  |.str a _=>a.cps.toList==y.cps.toList
  |_=>false
 have p:j<b.length:=by omega
 refine call_meets F.slot_list_remove ⟨_,e,rfl⟩ F.entry_list_remove (F.args_list_remove_2 _ _)
  (MeetsSeq.list_remove l b.toArray n (.str y t) C (λw B=>?_) j (by rw[List.size_toArray];exact p) ?_ (λm g D=>?_) (by rw[List.size_toArray];simp only[List.length_map]at z;omega)) ⟨e,?_⟩
 .obtain⟨m,g,rfl⟩:=List.mem_iff_getElem.mp (show w∈b by simpa using B)
  obtain⟨k,f⟩:=d m g (by omega)
  rw[f];exact PySem.SeqRoads2.EqGives.str _ _ _ _
 .show C b[j]=true
  obtain⟨k,f⟩:=d j p O;rw[f];exact P
 .have E:m<b.length:=by simpa using g
  show C b[m]=false
  obtain⟨k,f⟩:=d m E (by omega)
  rw[f];exact Bool.eq_false_iff.mpr (R m D)
 .refine⟨.non,_,I.wK (W3:=b.eraseIdx j) G e ?_ (by have:=r.eraseIdx j;rwa[mJ]at this) ?_,rfl,q⟩
  .show b.toArray.eraseIdxIfInBounds j=(b.eraseIdx j).toArray
   rw[List.eraseIdxIfInBounds_toArray]
  .have:=uJ A j
   simp only[List.length_map]at z ⊢;omega
noncomputable def EY(C:Addr)(m:Str)(sp:Sp)(e:List V->List V->List V)(E:XK)(f:TE)(t g:TA):TE:=λb H Q=>f b H λx c=>∃a h d,x=.ref a/\c a=some (.ins C h d)/\d.lookup m=none /\
 t b c λi j=>g b j λk l=>sp (e (x::i) k) l Q E
variable{C l:Pos}{D2:Sp}{E:List Expr}{G1:XK}{M:Expr}{Q1:TA}{Q2:uH}{Y g:List Str}{d:Str}{ν:TE}{ς:FuncData}
theorem wU{e:List Keyword}{B:TA}{f:List Value->List Value->List Value}{D:List V->List V->List V}{pl:Sem Bool}(O:PE c M ν)(i:ke c.K G)(J:Meth c.K G d h)(F:bx c.prog c.w c.K c.mg c.base Q2 b h ς g D2)(P:bA b c.A)(R:jh c.K ς g Y f D)(S:Passes Q2 c G1)(T:PA c (j::E) Q1)(o:PK c e B)(n:(backToKw l (keywordEach e c.env)).all (·.1.isSome)=true)(p:(backToKw l (keywordEach e c.env)).filterMap (·.1)=Y)(t:starEach (j::E) c.env=(false,eval j c.env)::starEach E c.env)(y:((backTo l (starEach (j::E) c.env)).any (·.1)||(backToKw l (keywordEach e c.env)).any (·.1.isNone))=false)(U:eval (.Call (.Attribute M d C) (j::E) e l) c.env=(do
   let L ←eval M c.env
   standAt C.atName
   let (h,first) ←holding [L] (getMethod L d pl)
   callWith l h first (backTo l (starEach (j::E) c.env)) (backToKw l (keywordEach e c.env)))):
  PE c (.Call (.Attribute M d C) (j::E) e l) (EY G d D2 D G1 ν Q1 B):=by
 intro pins s z H Q I k;refine PySem.W.methodCall_KW (pl:=pl) (bD (O pins s z H _ I k) λu X ⟨x,Z,N,rx,a,dx,fs,ex,ea,m,q⟩=>?_) U
 subst ex;obtain rfl:u=Value.ref a:=rx;refine fu N ea i J m ?_;refine PySem.W.callWith_KW I.ok.mod.Aa J.kp n (bD (T l pins X z Z _ N q) λus s2 ⟨vs,H2,I2,r,q2⟩=>?_) y t
 refine bD (o l pins s2 z H2 _ I2 q2) λws s3 ⟨zs,H3,I3,rz,q3⟩=>⟨I3.d5,?_⟩
 rw[p];exact Ap (I:=.ref a::vs) F P R S I3 (.cons rfl r) rz q3
noncomputable def gK{a:Type}(b c:List a):List a:=match c with
 |[w]=>b++[w]
 |_=>[]
theorem pQ(c:g≠[])(h:∀(s:Shared) (b:List Value) (w:Value),x.In s.heap->b.length+1=g.length->BindsTo s ς ⟨b,[(d,w)]⟩ (g.zip (b++[w]))):jh x ς g [d] gK gK where
 to:=λs b e f a=>by
  match e,a with
  |[w],a=>exact h s b w f (by simpa[gK]using a)
  |[],a=>exact absurd (List.length_eq_zero_iff.mp a.symm) c
  |_::_::_,a=>exact absurd (List.length_eq_zero_iff.mp a.symm) c
 rel:=λr i=>by
  cases i with
  |nil=>exact .nil
  |cons q t=>
   cases t with
   |nil=>exact r.append (.cons q .nil)
   |cons _ _=>exact .nil
noncomputable def pf(B:Addr->Prop)[DecidablePred B](H:Hp):Hp:=λb=>if B b then (match H b with|some (.dj _ u)=>some u|x=>x)else H b
structure Ii(B:Addr->Prop)(H H':Hp):Prop where
 wV:∀b,B b->∃o kvs,H' b=some (.dj o (.dK kvs))
 was:∀b,B b->∃kvs,H b=some (.dK kvs)
section
variable{B:Addr->Prop}[DecidablePred B]{H H':Hp}{b:Addr}{o:Obj}{u:HO}{P:Program}{w:World}{h h':Heap}{fs ex:List Addr}
theorem rH(a:B b)(q:H b=some (.dj o u)):pf B H b=some u:=by unfold pf;grind
theorem bR(a:¬ B b):pf B H b=H b:=by unfold pf;grind
theorem wW{x:Option HO}(c:∀b,B b->∃o kvs,H b=some (.dj o (.dK kvs)))(q:H b=x)(a:∀o kvs,x≠some (.dj o (.dK kvs))):pf B H b=x:=by
 rw[bR,q];intro d;obtain⟨o,kvs,z⟩:=c b d;exact a o _ (q.symm.trans z)
theorem gN.lW(x:gN P w H h)(c:∀b,B b->∃o kvs,H b=some (.dj o (.dK kvs))):gN P w (pf B H) h:=λa i e=>by
 have f:∀b y,H b=some (.own y)->pf B H b=some _:=λb y q=>wW c q (λ_ _ z=>by cases z)
 have g:∀b j,H b=some _->pf B H b=some (.tup j):=λb y q=>wW c q (λ_ _ z=>by cases z)
 by_cases d:B a
 .obtain⟨k,kvs,q⟩:=c a d
  rw[rH d q]at e;cases e;obtain⟨_,y⟩:=x a _ q;exact cT.stay y (λ_ _ _ z=>z) (λb q=>f b _ q) g
 .rw[bR d]at e
  exact(x a i e).stay (λ_ _ _ z=>z) (λb q=>f b _ q) g
theorem Un.lW(a:Un fs ex H H' h h')(t:Ii B H H'):Un fs ex H (pf B H') h h' where
 keep:=a.keep
 slot:=a.slot
 free:=λb o e n d=>by
  rw[bR,a.free b o e n d];intro c;obtain⟨_,z⟩:=t.was b c;grind
 there:=a.there
 tups:=λb f e=>by
  rw[bR,a.tups b f e];intro c;obtain⟨_,z⟩:=t.was b c;grind
 eD:=λb o u e=>by
  rw[bR,a.eD b o u e];intro c;obtain⟨_,z⟩:=t.was b c;grind
 fo:=λb g e=>by
  rw[bR]
  .exact a.fo b g e
  intro c;obtain⟨_,z⟩:=t.was b c;grind
end
open Classical in
def spT(sp:Sp):Sp:=λb H Q E=>sp b H (λv a=>∃B:Addr->Prop,Ii B H a/\Q v (pf B a)) E
open Classical in
theorem bx.lW{P:Program}{w:World}{K:PySem.W.Frag}{a:Str->Option Value}{base:Heap}{CX:uH}{k:Nat}{f:Addr}{b:FuncData}{c:List Str}{sp:Sp}(F:bx P w K a base CX k f b c sp):
  bx P w K a base CX k f b c (spT sp):=
 ⟨λd H Q E q=>F.len _ _ _ _ q,λA outer s H args g d Q E h i j l m=>codeAny_mono (F.run A _ s H _ g d _ E h i j l m) λr C z=>by
  cases r with
  |error e=>exact z
  |ok f=>
   cases f with
   |ret u=>
    obtain⟨v,D,n,o,p,x,y,B,t,q⟩:=z;exact⟨v,_,n,o,p.lW t,x.lW t.wV,y,q⟩
   |_=>exact z⟩
section
variable{X:Cx}{pins:List (Addr×Obj)}{σ σ':St}{H H':Hp}{s s':Shared}{B:Addr->Prop}[DecidablePred B]
theorem Inv.lW(I:Inv X pins σ H s)(J:Inv X pins σ' H' s')(t:Ii B H H'):Inv X pins σ' (pf B H') s' where
 ok:=J.ok
 os:=J.os
 bare:=J.bare
 base:=by
  have d:=t.was;refine⟨J.base.keep,J.base.slot,λb o e n f=>?_,J.base.there,λb g e=>?_,λb o u e=>?_,λb h e=>?_⟩
  .rw[bR,J.base.free b o e n f]
   intro a;obtain⟨_,z⟩:=d b a;rw[I.base.free b o e n f]at z;cases z
  .rw[bR,J.base.tups b g e]
   intro a;obtain⟨_,z⟩:=d b a;rw[I.base.tups b g e]at z;cases z
  .rw[bR,J.base.eD b o u e]
   intro a;obtain⟨_,z⟩:=d b a;rw[I.base.eD b o u e]at z;cases z
  .rw[bR]
   .exact J.base.fo b h e
   intro a;obtain⟨_,z⟩:=d b a;obtain⟨_,y⟩:=I.base.fo b h e;grind
 loc:=J.loc
 cell:=J.cell
 free:=by
  rw[bR,J.free];intro a;obtain⟨_,_,z⟩:=t.wV _ a;rw[J.free]at z;cases z
 cI:=λx c e=>by
  rw[bR]
  .exact J.cI x c e
  .intro a
   obtain⟨o,i,z⟩:=t.wV _ a;obtain⟨v,oc,q,r⟩:=J.cell x c e;obtain⟨w,_,_,A,_,C,D,E,F,_,G,_⟩:=J.hok _ _ z
   grind
 pin:=λp j=>by
  obtain⟨k,l,m⟩:=J.pin p j;refine⟨k,?_,m⟩;rw[bR,l];intro a;obtain⟨_,_,z⟩:=t.wV _ a;grind
 hok:=J.hok.lW t.wV
 len:=J.len
end
open Classical in
theorem PS.lW{X:Cx}{st:Stmt}{t:TS}(h:PS X st t):PS X st (λE b H=>t {E with nx:=λa c=>∃B:Addr->Prop,Ii B H c/\E.nx a (pf B c)} b H):=λpins s b H D I d=>bD (h _ s b H _ I d) λf e z=>by
 cases f with
 |next=>
  obtain⟨a,c,J,B,t,q⟩:=z;exact⟨_,_,I.lW J t,q⟩
 |_=>exact z
abbrev gv(h:Heap)(C:Addr)(rest:List Value):Heap:=(h.push {cls:=.type "tuple",data:=.seq rest.toArray}).push {cls:=.ref C,data:=.fields #[.ref h.objs.size,.none,.none,.none,.bool false,.none]}
variable{C1 y:Bool}{D3:Option Addr}{L4:Drawn}{O:Around}{P4:Array GenState}{P5 Q5 S5 T3 T5:Option Value}{P7 Q4 U1:String}{T:Str}{T4:OsState}{W3 d6 o8 t8:List Value}{Y5:Option Bool}{t:Nat}{θ:Str->Option Value}
theorem lX(F:ExcBaseFacts U1 Q4 P7 d6)(c:OwnTail w d6 W3)(l:w.get? h=some (excClassObj d T h G ψ W3 y g o8 C1 Y5 D3 T3 P5 Q5 S5 T5 Q4))(s:w.Ns G θ)(n:θ "__init__"=some (.ref Ξ))(u:∀self,PySem.W.Looks (model z A) w (bindSpecial (.ref Ξ) self) (.ref Ξ,[self]))(i:t8.length<=sizeLine){Q:Fin->Shared->Prop}(x:codeAny (model z A) O (.call (.ref Ξ) ⟨.ref (w.objs.size+1)::t8,[]⟩) (λr p=>match r with|.ok (.ret v)=>v=.none/\Q (.done (.ret (.ref (w.objs.size+1)))) p|.ok _=>False|.error e=>U e p) ⟨gv w h t8,P4,L4,t,T4⟩):
  wpAny (model z A) O (Builtin.«type.__call__» ⟨.ref h::t8,[]⟩) Q U ⟨w,P4,L4,t,T4⟩:=by
 repeat (first|with_reducible refine wpAny_loadPart_at l ?_|with_reducible refine wpAny_madeBy_exc l ?_|wp_step)
 refine codeAny_call_builtin_code (Code.quiet_builtin _ F.quiet) (wpAny_check_new_subT F c l ?_);refine codeAny_exc_new_subT F c l ?_ i
 show wpAny _ _ _ _ _ _
 have k:∀b o,w.get? b=some o->(gv w h t8).get? b=some o:=λb o e=>Heap.get?_push_of_some _ (Heap.get?_push_of_some _ e)
 have f:=k _ _ l;have j:(gv w h t8).Ns G θ:=let ⟨o,es,ep,e,r⟩:=s;⟨o,es,ep,k _ _ e,r⟩
 have q:(Value.ref h::W3).contains (.ref h)=true:=by simp
 have m:=c.keeps k;have B:=(u (.ref (w.objs.size+1))).keeps k;unfold isInstance
 repeat (first|with_reducible refine wpAny_loadPart_at hget ?_ | (with_reducible refine wpAny_isSubtype_exc f ?_;rw[q])|wp_step)
 show wpAny _ _ (typeLookup (.ref h) _) _ _ _
 refine wpAny_typeLookup_tail f j m F.mroIs F.init.lookup ?_;rw[n];refine wpAny_holding (wpAny_bind (B.at ?_));refine wpAny_bind (wpAny_call (codeAny_mono x λr p a=>?_))
 rcases r with e | (v|_|_|_)<;>first|exact a|exact a.elim|skip
 obtain⟨rfl,a⟩:=a;exact wpAny_pure (wpAny_pure a)
theorem wX(F:ExcBaseFacts U1 Q4 P7 d6)(a:OwnTail w d6 W3)(e:w.get? h=some (excClassObj d T h G ψ W3 y g o8 C1 Y5 D3 T3 P5 Q5 S5 T5 Q4))(f:w.Ns G θ)(c:θ "__init__"=some (.ref Ξ))(i:∀self,PySem.W.Looks (model z A) w (bindSpecial (.ref Ξ) self) (.ref Ξ,[self]))(b:t8.length<=sizeLine)(j:codeAny (model z A) (O.under (.builtin "type.__call__" ⟨.ref h::t8,[]⟩)) (.call (.ref Ξ) ⟨.ref (w.objs.size+1)::t8,[]⟩) (PySem.W.InitBack (w.objs.size+1) w4) ⟨gv w h t8,P4,L4,t,T4⟩):
  codeAny (model z A) O (.call (.ref h) ⟨t8,[]⟩) w4 ⟨w,P4,L4,t,T4⟩:=by
 have k:=tc_lookup;have l:=tc_bind (.ref h);refine codeAny_of_tree ?_
 repeat (any_goals (first|assumption|rfl|wp_step))
 refine⟨rfl,?_⟩;refine codeAny_call_builtin_at (Code.quiet_builtin _ (by decide +kernel)) entry_typeCall (wpAny_check_type_call_sub e (lX F a e f c i b ?_))
 exact j
open PySem.W (clsIn findIn takerIn InstAt)
open PySem.Builtin PySem.Builtin.ObjectAttr PySem.Builtin.Getset_descriptor
abbrev oh:List Value:=[.type "ValueError",.type "Exception",.type "BaseException",.type "object"]
noncomputable def eQ:List Value->Bool
 |.ref _::r=>eQ r
 |l=>l==oh
theorem mK(self:Value):∀{l:List Value},eQ l=true->refuseLoop self "__setattr__" l=pure ()
 |[],e=>by rfl
 |a::r,e=>by
  cases a with
  |ref c=>rw[refuseLoop_ref];exact mK _ e
  |_=>rw[eq_of_beq (e)];exact PySem.F.store_ValueError.passes _
theorem wY:∀{l:List Value},eQ l=true->l.contains (.type "object")=true
 |[],e=>by simp[eQ]at e
 |a::r,e=>by
  cases a with
  |ref c=>rw[List.contains_cons,wY (l:=r) e,Bool.or_true]
  |_=>rw[eq_of_beq (e)];decide
variable{C6:Option Obj}{G7:ClassData}{T6:Tok}
theorem sY(X:x.In o.heap)(I:InstAt o.heap h ω G C6)(m:clsIn x G=some G7)(j:eQ G7.mro=true)(p:takerIn x G d=some none)(g:∀b,wpAny (model z A) O.in1 (storeInOwnDict (.ref h) (.ref G) (.str d T6) d H b) (λl k=>match l with|.done f=>w4 (.ok f) k|.again n=>n.quiet=true/\codeAny (model z A) O n w4 k) (λe k=>w4 (.error e) k) o):
  codeAny (model z A) O (.call (.builtin "object.__setattr__") ⟨[.ref h,.str d T6,H],[]⟩) w4 o:=by
 have i:=PySem.F.store_object
 have ne:G7.mro.isEmpty=false:=by cases q:G7.mro with
  |nil=>rw[q]at j;simp[eQ]at j
  |cons _ _=>rfl
 refine codeAny_call_builtin i.slot.plain i.entry (@PySem.W.check_slot _ _ _ o _ _ _ _ _ [] _ i.kind i.split (I.type.andThen (PySem.W.looks_mroIn X (by unfold PySem.W.mroIn;rw[m,Option.bind_some,if_neg (by grind),wY j]))) (i.args _ _ _) ?_)
 obtain⟨c,r,s⟩:=Option.bind_eq_some_iff.mp p;have t:PySem.W.Looks (model z A) _ (mroOf (.ref G)) _:=(PySem.W.looks_clsIn X m).andThen .now
 have u:PySem.W.Looks (model z A) o.heap (storeTaker? c) none:=by
  cases c with
  |none=>exact .now
  |some a=>
   obtain⟨b,w,e⟩:=Option.map_eq_some_iff.mp s;refine(PySem.W.looks_takesIn X w).andThen ?_;cases b with
   |true=>cases e
   |false=>exact .now
 rw[PySem.W.osa_eq,refuse_eq];refine wpAny_bind (wpAny_bind (I.type.here (wpAny_bind (t.here ?_))));rw[mK _ j];refine wpAny_pure (wpAny_bind (I.type.here (wpAny_bind ((PySem.W.looks_findIn X r).here (wpAny_bind (u.here (g _)))))))
variable{N1:Unit->Shared->Prop}{v5:Array (Option Value)}
theorem AG{s:Shared}(X:x.In s.heap)(k:s.heap.get? h=some ⟨.ref G,none,.fields u5,v5⟩)(q:clsIn x G=some G7)(r:eQ G7.mro=true)(t:G7.hasDict=true)(u:findIn x (.ref G) "__setattr__"=some (some (.builtin "object.__setattr__")))(w:takerIn x G d=some none)(c:∀f t',f.get? h=some ⟨.ref G,some s.heap.objs.size,.fields u5,v5⟩->f.Ns1 s.heap.objs.size (λy=>if y=d then some H else none)->(∀b o,b≠h->s.heap.get? b=some o->f.get? b=some o)->N1 () {s with heap:=f,toks:=t' }):
  wpAny (model z A) O (setAttr (.ref h) d H) N1 U s:=by
 have I:InstAt _ h ⟨_,_,_,v5⟩ G none:=⟨k,rfl,rfl,trivial⟩;refine PySem.W.set_plain X I u (sY X I q r w λb=>?_)
 have a:(s.heap.push {cls:=.type "dict",data:=.dict #[]}).get? h=some ⟨_,_,_,v5⟩:=Heap.get?_push_of_some _ k;have g:=Nat.ne_of_lt (Heap.lt_size k);refine wpAny_bind (wpAny_pure (wpAny_bind (wpAny_bind (wpAny_loadPart k (wpAny_bind (PySem.W.Looks.here (PySem.W.looks_clsIn X q) ?_))))));rw[t];refine wpAny_bind (wpAny_alloc' (wpAny_bind (wpAny_update' a (wpAny_pure ?_))))
 have l:((s.heap.push _).update h λo=>{o with dict:=some s.heap.objs.size}).get? _=some {cls:=.type "dict",data:=.dict #[]}:=
  (Heap.get?_update_ne _ _ _ _ g.symm).trans (Heap.get?_push_at rfl rfl)
 refine wpAny_bind (wpAny_pure (wpAny_bind (wpAny_nsSet1 (Heap.Ns1.of_empty ⟨_,_,_,l,rfl,λe B=>absurd B (by simp),λ_=>rfl⟩) λf i j=>?_)))
 obtain⟨F,C,D,m,n,E⟩:=i.count (Within.cons _ H Within.nil);refine wpAny_bind (wpAny_lookBehind m (by rw[n];exact pastItsLine_dict (by grind)) ?_)
 refine wpAny_pure (c f _ ((j.2 h g).trans (Heap.get?_update_self _ a rfl)) i λb o p e=>(j.2 b (Nat.ne_of_lt (Heap.lt_size e))).trans ((λb o p e=>
  (Heap.get?_update_ne _ _ _ _ p).trans (Heap.get?_push_of_some _ e)) b o p e))
variable{D5:Option Addr}{j3 v0:Addr}
theorem lY{h:Heap}(F:ExcBaseFacts U1 Q4 P7 d6)(a:OwnTail h d6 W3)(j:h.get? G=some (excClassObj d T G Ξ ψ W3 y g o8 C1 Y5 D3 T3 P5 Q5 S5 T5 Q4))(e:h.get? v0=some ⟨.ref G,D5,.fields #[.ref j3,.none,.none,.none,.bool false,.none],v5⟩)(f:t8.length<=sizeLine)(k:∀c,c.get? v0=some ⟨.ref G,D5,.fields #[.ref h.objs.size,.none,.none,.none,.bool false,.none],v5⟩->c.get? h.objs.size=some {cls:=.type "tuple",data:=.seq t8.toArray}->(∀b o,b≠v0->h.get? b=some o->c.get? b=some o)->w4 (.ok (.ret .none)) ⟨c,P4,L4,t,T4⟩):
  codeAny (model z A) O (.call (.builtin P7) ⟨.ref v0::t8,[]⟩) w4 ⟨h,P4,L4,t,T4⟩:=by
 refine codeAny_call_builtin F.init.plain F.initEntry (wpAny_check_init_subT F a j e rfl ?_);have i:=Heap.get?_push_of_some (h:=h) {cls:=.type "tuple",data:=.seq t8.toArray} e
 wp_walk
 refine k _ ?_ ?_ λb o l m=>?_
 .exact Heap.get?_update_self _ i rfl
 .rw[Heap.get?_update_other _ _ (Ne.symm (Nat.ne_of_gt (Heap.lt_size e)))]
  exact Heap.get?_push_at rfl rfl
 .rw[Heap.get?_update_other _ _ (Ne.symm l)]
  exact Heap.get?_push_of_some _ m
open PySem.W (clsIn findIn takerIn InstAt Looks mroIn)
structure rJ(K:PySem.W.Frag)(C:Addr):Prop where
 ga:findIn K (.ref C) "__getattribute__"=some (some (.builtin "BaseException.__getattribute__"))
 gn:findIn K (.ref C) "__getattr__"=some none
 be:mroIn K C (.type "BaseException")=some true
theorem wZ(X:x.In w)(I:InstAt w h ω G C6)(a:rJ x G)(b:N1 () ⟨w,P4,L4,t,T4⟩):wpAny (model z A) O (checkBuiltinCall "BaseException.__getattribute__" ⟨[.ref h,H],[]⟩) N1 U ⟨w,P4,L4,t,T4⟩:=by
 have L:Looks (model z A) w (isInstance _ _) _:=(I.type).andThen (PySem.W.looks_mroIn X a.be);refine wpAny_bind (L.at ?_)
 repeat (any_goals (first|assumption|wp_step))
variable{Q0:Value}
theorem AH(X:x.In w)(I:InstAt w h ω G C6)(a:rJ x G)(c:∀(Q:Fin->Shared->Prop) (E:Value->Shared->Prop),Q (.done (.ret Q0)) ⟨w,P4,L4,b,T4⟩->wpAny (model z A) O.in1 (Builtin.«object.__getattribute__» ⟨[.ref h,H],[]⟩) Q E ⟨w,P4,L4,t,T4⟩)(d:w4 (.ok (.ret Q0)) ⟨w,P4,L4,b,T4⟩):codeAny (model z A) O (.call (.builtin "BaseException.__getattribute__") ⟨[.ref h,H],[]⟩) w4 ⟨w,P4,L4,t,T4⟩:=
 codeAny_call_builtin F.attr_ValueError.ga.plain F.entry_bexc_ga (wZ X I a (c _ _ d))
variable{M1:Value->Shared->Prop}
theorem DP(X:x.In w)(I:InstAt w h ω G C6)(a:rJ x G)(c:∀(O:Around) (M1:Fin->Shared->Prop) (U:Value->Shared->Prop),M1 (.done (.ret Q0)) ⟨w,P4,L4,b,T4⟩->wpAny (model z A) O (Builtin.«object.__getattribute__» ⟨[.ref h,H],[]⟩) M1 U ⟨w,P4,L4,t,T4⟩)(d:handedOut Q0=pure Q0)(e:M1 Q0 ⟨w,P4,L4,b,T4⟩):wpAny (model z A) O (getAttrBy (.ref h) H y C1) M1 U ⟨w,P4,L4,t,T4⟩:=by
 have f:=I.type (M:=model z A);have L1:=PySem.W.looks_findIn (M:=model z A) X a.ga;have L2:=PySem.W.looks_findIn (M:=model z A) X a.gn;have i:=F.attr_ValueError.ga.bind (.ref h);have g:(C1&&onTheHeap (Value.builtin "BaseException.__getattribute__"))=false:=by cases C1<;>rfl
 refine wpAny_holding (wpAny_bind (f.at (wpAny_bind (L1.at ?_))))
 show wpAny _ _ (if (onTheHeap _&&Value.builtin _==Value.builtin _)=true then _ else _) _ _ _
 refine wpAny_bind (L2.at ?_)
 repeat (any_goals (first|wp_step))
 refine AH X I a (c _) ?_
 show wpAny _ _ (handedOut Q0) _ _ _
 rw[d];exact wpAny_pure e
theorem AI(X:x.In w)(I:InstAt w h ω G C6)(a:rJ x G)(b:PySem.W.findObj x G C6 d=some (.value H))(c:PySem.W.handedIn H=true)(e:M1 H ⟨w,P4,L4,t+1,T4⟩):
  wpAny (model z A) O (getAttr (.ref h) d y) M1 U ⟨w,P4,L4,t,T4⟩:=by
 refine wpAny_bind (wpAny_mkText (DP X I a (λg i j q=>?_) (PySem.W.handedOut_of c) e))
 have f:=I.type (M:=model z A);have L1:=PySem.W.looks_find (M:=model z A) X I b;refine wpAny_bind (wpAny_pure (wpAny_bind (wpAny_pure (wpAny_bind (f.at (wpAny_bind (L1.at (wpAny_pure q))))))))
theorem uV{ox:Obj}{od:Obj}{Q:Option Value->Shared->Prop}(X:x.In w)(I:InstAt w h ox G (some od))(a:rJ x G)(c:PySem.W.hasDictIn x G=true)(e:findIn x (.ref G) "__class__"=some (some (.builtin "object.__class__")))(f:PySem.W.specialIn x (.builtin "object.__class__") "__get__"=some (some (.builtin "getset_descriptor.__get__")))(d:PySem.W.takesIn x (.builtin "object.__class__")=some true)(g:mroIn x G (.type "object")=some true)(i:Q (some (.ref G)) ⟨w,P4,L4,t+1,T4⟩):wpAny (model z A) O (getAttr? (.ref h) "__class__") Q U ⟨w,P4,L4,t,T4⟩:=by
 have j:PySem.W.findObj x G (some od) "__class__"=some (.bind (.builtin "getset_descriptor.__get__") (.builtin "object.__class__")):=PySem.W.findObj_data (by obtain⟨m,k,_⟩:=PySem.W.any_some c;rw[k];rfl) e f d
 unfold getAttr? getAttrBy?;refine wpAny_bind (wpAny_mkText (wpAny_bind (wpAny_attempt (DP (b:=t+1) X I a (λn o p q=>?_) rfl (wpAny_pure i)))))
 have l:=I.type (M:=model z A);have L1:=PySem.W.looks_find (M:=model z A) X I j;unfold Builtin.«object.__getattribute__»;refine wpAny_bind (wpAny_pure (wpAny_bind (wpAny_pure (wpAny_bind (l.at (wpAny_bind (L1.at ?_)))))))
 show wpAny _ _ (holding [.builtin "object.__class__"] (call (.builtin "getset_descriptor.__get__") [.builtin "object.__class__",.ref h,.ref G]) >>= ret) _ _ _
 exact wpAny_bind (wpAny_holding (wpAny_call (PySem.W.class_get (s:=⟨w,P4,L4,t+1,T4⟩) (ox:=ox) (od:=some od) X I g (wpAny_pure q))))
variable{F6:Obj}
theorem w9(f:rJ x G)(c:PySem.W.hasDictIn x G=true)(r:findIn x (.ref G) "__class__"=some (some (.builtin "object.__class__")))(u:PySem.W.specialIn x (.builtin "object.__class__") "__get__"=some (some (.builtin "getset_descriptor.__get__")))(i:PySem.W.takesIn x (.builtin "object.__class__")=some true)(w:mroIn x G (.type "object")=some true):
  PySem.W.KitX x (.ref h) (.ref G) (λa=>InstAt a h ω G (some F6)) where
 ty:=λ_ _ _ I=>I.type
 it:=λ_ _ X _=>by
  obtain⟨j,b,_⟩:=PySem.W.any_some c;unfold PySem.W.clsIn at b;split at b
  .rename_i y A l m o
   intro D E F H k q;unfold isType loadHead;exact wpAny_bind (wpAny_loadPart (k _ _ (X _ _ o)) (wpAny_pure q))
  .cases b
 ne:=λa B J C n K X p=>by
  obtain⟨j,b,_⟩:=PySem.W.any_some c;refine Bool.eq_false_iff.mpr λq=>?_
  have e:G=B:=Value.ref.inj (beq_iff_eq.mp q);subst e;unfold PySem.W.clsIn at b;split at b
  .rename_i y A l m o
   have z:=(X _ _ o).symm.trans p;cases z
  .cases b
 ca:=λ{_ _ _ _ _ s} X I k=>by
  obtain⟨a,g,d,t,L⟩:=s;exact uV X I f c r u i w k
structure kM(K:PySem.W.Frag)(C N fI:Addr):Prop where
 ex:∃(nm q:Str) (bs bm:List Value) (sn:List Str) (sub:List Value) (ab:Bool) (col:Option Bool) (dd:Option Addr) (k0 k1 k2 k3 k5:Option Value),
  K.lookup C=some (excClassObj nm q C N bs bm true sn sub ab col dd k0 k1 k2 k3 k5 "ValueError.__new__")/\(∀h:Heap,K.In h->OwnTail h oh bm)
 cd:∃cd,clsIn K C=some cd/\eQ cd.mro=true/\cd.hasDict=true
 sa:findIn K (.ref C) "__setattr__"=some (some (.builtin "object.__setattr__"))
 xg:rJ K C
 hd:PySem.W.hasDictIn K C=true
 ns:∀h:Heap,K.In h->∃mN,h.Ns N mN/\mN "__init__"=some (.ref fI)
 kp:PySem.W.keepIn K (.ref C)=true
 fn:PySem.W.typeIn K (.ref fI)=some (.type "function")
noncomputable def bB(C:Addr)(od:Option Addr)(t:Addr):Obj:=⟨.ref C,od,.fields #[.ref t,.none,.none,.none,.bool false,.none],#[]⟩
theorem Inv.w_(I:Inv c [] N e o)(a:o.heap.get? h=some ω)(b:e h=none)(d:h≠c.env.locals)(f:h∉c.fs)(g:∀v,ω.data≠.cell v):Inv c [(h,ω)] N e o:=
 ⟨I.ok,I.os,I.bare,I.base,I.loc,I.cell,I.free,I.cI,λp i=>by
  rcases List.mem_append.mp i with q|q
  .exact I.pin p (by simp[q])
  .rw[List.mem_singleton.mp q];exact⟨a,b,d,f,g⟩,I.hok,I.len⟩
theorem Inv.xq(I:Inv c v N e o):Inv c [] N e o:=
 ⟨I.ok,I.os,I.bare,I.base,I.loc,I.cell,I.free,I.cI,λp a=>I.pin p (by simp_all),I.hok,I.len⟩
variable{G3:List (Str×V)}
theorem sZ{s:Shared}(I:Inv c v N e s)(T:kM c.K G Ξ v0)(j:cz c.K G d)(k:s.heap.get? h=some ω)(m:ω.cls=.ref G)(o:ω.dict=some j3)(f:PySem.W.notCls ω=true)(p:e j3=some (.xd G3))(z:G3.lookup d=some u)(b:∀a,RelV u a->Inv c v N e {s with toks:=s.toks+1}->U a {s with toks:=s.toks+1}):wpAny (model c.prog c.w) O (getAttr (.ref h) d y) U M1 s:=by
 obtain⟨q,n,r⟩:=I.hok j3 _ p;obtain⟨a,t,i⟩:=fO.some_of (u:=u) (T3:=q d) (by grind)
 obtain⟨x,g,l⟩:=eU n;have J:InstAt _ h ω G (some x):=⟨k,m,f,by grind⟩
 exact AI I.d5 J T.xg (PySem.W.findObj_own T.hd j (by rfl) (by rw[l,t])) (mx i) (b a i (I.tok _))
structure xr(X:Cx)(e:Addr):Prop where
 new:e∈X.ex\/X.s₀.heap.objs.size<=e
 cell:∀x c,X.env.cells.lookup x=some c->c≠e
 pn:∀p∈X.pn,p.1≠e
theorem Inv.RG{s:Shared}(I:Inv c [(h,ω)] N e s)(F:xr c h)(n:w.get? h=some F6)(o:∀d k,d≠h->s.heap.get? d=some k->w.get? d=some k)(r:∀v,F6.data≠.cell v):Inv c [(h,F6)] N e {s with heap:=w,toks:=b}:=by
 obtain⟨G,t,i,x,H⟩:=I.pin (h,ω) (by simp)
 have y:=I.xq;have keep:∀d ω,d∉[h]->s.heap.get? d=some ω->w.get? d=some ω:=λd ω f q=>o d ω (by simp_all) q
 have J:Inv c [] N e {s with heap:=w,toks:=b}:=by
  refine y.step (λd f=>?_) (λd ω _ _ f q _=>keep d ω f q) (λd ω _ _ f q _=>⟨_,keep d ω f q⟩) (λd ω f q j=>j) (λd ω f q=>⟨ω,keep d ω f q⟩) (λd A q=>q) (λd ω l q=>q) (λd K q=>⟨#[],by simp_all⟩) (λm j=>?_) ?_ I.bare
  .rw[List.mem_singleton.mp f]
   exact⟨F.new,i,F.cell,λp L=>F.pn p (by simp_all)⟩
  .obtain⟨ω,B,C,D,E⟩:=j
   exact⟨ω,B,C,keep _ ω (by simp[Ne.symm i]) D,E⟩
  .intro a u q
   refine(I.hok a u q).stay (λd l f g=>keep d l (λz=>?_) g) (λd g=>g) λd A g=>g
   grind
 exact J.w_ n t i x r
structure XBase(K:PySem.W.Frag)(mg:Str->Option Value)(bn:Str)(B0:Addr):Prop where
 mg:mg bn=some (.ref B0)
 ga:PySem.W.specialIn K (.ref B0) "__getattribute__"=some (some (.builtin "type.__getattribute__"))
 rd:PySem.W.readsIn K B0 (.type "type")=true
 ini:PySem.W.findCls K (.ref B0) (.type "type") "__init__"=some (.val (.builtin "ValueError.__init__"))
noncomputable def Cx.mk1(X:Cx)(e:Addr):Cx:={X with ex:=[e]}
theorem Inv.mk1{X:Cx}{pins:List (Addr×Obj)}{d:St}{H:Hp}{s:Shared}{e:Addr}(I:Inv X pins d H s)(j:X.ex=[])(f:e≠X.env.locals)(g:∀x c,X.env.cells.lookup x=some c->c≠e)(i:∀o,X.base.get? e≠some o)(k:e∉X.fs):Inv (X.mk1 e) pins d H s:=
 ⟨⟨I.ok.mod,I.ok.kind,I.ok.glob,I.ok.blt,I.ok.above,I.ok.inj,I.ok.has,I.ok.cab,I.ok.hd,I.ok.frames,I.ok.zX,λb a=>by rw[List.mem_singleton.mp a];exact⟨f,g⟩,I.ok.bs,I.ok.rg,λb o q a=>by rw[List.mem_singleton.mp a]at q;exact i o q,λb a=>by rwa[List.mem_singleton.mp a],I.ok.fq,I.ok.uB⟩,
  I.os,I.bare,I.base.mono (λ_ h=>h) (by simp_all),I.loc,I.cell,I.free,I.cI,I.pin,I.hok,I.len⟩
structure s_(l:List Env)(e:Addr)(oe:Obj)(T:Addr)(h h':Heap):Prop where
 keep:∀b o,b≠e->b∉frs l->h.get? b=some o->h'.get? b=some o
 slot:∀b o,b≠e->h.get? b=some o->∃sl,h'.get? b=some {o with slots:=sl}
 at_:h'.get? e=some (oe.mapFields (·.setIfInBounds 1 (.ref T)))
 tb:∃oT ts,h'.get? T=some oT/\oT.data=.fields ts/\ts[3]?=some .none
 new:h.objs.size<=T
def rK(h:Heap)(c:Array Value):Prop:=c[1]?=some .none\/∃d a b,c[1]?=some (.ref d)/\h.get? d=some a/\a.data=.fields b/\b[3]?=some .none
variable{A4:Model}{F4:List Env}{P2:Env}
theorem td{s:Shared}{head:Value}{e:Bool}(y:O.frames=some (P2::F4))(C:s.heap.FunFrames w (P2::F4))(F:P2.frame=some h)(H:s.heap.get? G=some ω)(D:ω.data=.fields u5)(hsz:1<u5.size)(m:∀E T,s_ (P2::F4) G ω T s.heap E->N1 () {s with heap:=E}):
  wpAny A4 O (do let a ←frameOf P2;let u ←entryPlaceOf h e;let b ←EntryCells.newEntry head a .none (rawInt h) .none u;setField (.ref G) 1 b) (λ_ I=>wpAny A4 O (setFlight (.ref G) none) N1 U I) U s:=by
 refine wpAny_bind (wpAny_frameOf_fun y C F λc d=>?_)
 refine wpAny_bind (wpAny_entryPlaceOf λu z=>?_)
 refine wpAny_bind (wpAny_newObj_type ?_ (z.sizeOk5 _ _ _ _ _))
 have g:=(d.2.1 G (λJ=>by
  obtain⟨_,o,M,K⟩:=C.mem J
  grind)).trans H
 generalize A:({cls:=.type _,dict:=none,data:=.fields _}:Obj)=p at *;have i:p.data=.fields ([head,.ref h,.none,rawInt h,.none]++(if u.isEmpty then List.replicate 6 Value.none else u)).toArray:=by grind
 have j:=Heap.get?_push_of_some p g;have r:=Nat.ne_of_gt (Heap.lt_size g);refine wpAny_setField j D hsz ?_;have k:=Obj.data_mapFields D (·.setIfInBounds 1 (Value.ref c.objs.size));have n:=Heap.get?_update_self _ j (Obj.isFreed_of_fields k);have l:((c.push p).update G (Obj.mapFields (·.setIfInBounds 1 (Value.ref c.objs.size)))).get? _=some p:=(Heap.get?_update_other _ _ (Ne.symm r)).trans (Heap.get?_push_size _ (by rw[←A];rfl))
 refine wpAny_bind (wpAny_field n k (x:=.ref c.objs.size) (by simp[hsz]) ?_)
 refine wpAny_setField l i (by simp) (m _ c.objs.size ?_)
 have keep:∀b o,b≠G->c.get? b=some o->(((c.push p).update G (Obj.mapFields (·.setIfInBounds 1 (Value.ref c.objs.size)))).update _ (Obj.mapFields (·.setIfInBounds 3 ((none).elim Value.none λf=>rawInt f)))).get? b=some o:=λb o B t=>by
  rw[Heap.get?_update_other _ _ (Nat.ne_of_gt (Heap.lt_size t)),Heap.get?_update_other _ _ (Ne.symm B)];exact Heap.get?_push_of_some _ t
 refine⟨λb o t L q=>keep b o t ((d.2.1 b L).trans q),λb o t q=>?_,?_,?_,by rw[d.1];grind⟩
 .obtain⟨N,P⟩:=d.2.2 b o q
  grind
 .rwa[Heap.get?_update_other _ _ r]
 .exact⟨_,_,Heap.get?_update_self _ l (Obj.isFreed_of_fields (Obj.data_mapFields i _)),Obj.data_mapFields i _,by simp⟩
theorem xu{s:Shared}(b:O.frames=some (P2::F4))(j:s.heap.FunFrames w (P2::F4))(f:P2.frame=some h)(d:s.heap.get? G=some ω)(e:ω.data=.fields u5)(c:rK s.heap u5)(a:∀k T,s_ (P2::F4) G ω T s.heap k->N1 () {s with heap:=k}):
  wpAny A4 O (noteFrame (.ref G) P2) (λ_ m=>wpAny A4 O (setFlight (.ref G) none) N1 U m) U s:=by
 unfold noteFrame;simp only[f];rcases c with c|⟨n,o,p,c,g,i,l⟩
 .refine wpAny_bind (wpAny_field d e c (td b j f d e (by grind) a))
 .refine wpAny_bind (wpAny_field d e c ?_)
  refine wpAny_bind (wpAny_field g i l ?_);refine wpAny_bind (wpAny_setField g i (by grind) ?_)
  rw[Heap.update_setField_same _ n _ _ 3 _ g i l];exact td b j f d e (by grind) a
theorem uW{s:Shared}(b:O.frames=some (P2::F4))(d:s.heap.FunFrames w (P2::F4))(e:P2.frame=some h)(f:s.heap.get? G=some ω)(g:ω.data=.fields u5)(i:rK s.heap u5)(a:∀c T,s_ (P2::F4) G ω T s.heap c->N1 () {s with heap:=c}):wpAny A4 O (leaving P2 (.ref G)) N1 U s:=wpAny_bind (xu b d e f g i a)
variable{A8:Flow->Shared->Prop}
theorem rL{x:Sem Value}(f:W3.contains (.type "BaseException")=true)(m:O.handled=none)(b:wpAny A4 O x (λv a=>∃e od t,v=.ref e/\a.heap.get? h=some (excClassObj d T h G ψ W3 y g d6 C1 Y5 D3 T3 P5 Q5 S5 T5 U1)/\a.heap.get? e=some (bB h od t)/\U (.ref e) a) U o):
  wpAny A4 O (raiseStmt P2 (some x) none) A8 U o:=by
 have i:(Value.ref h::W3).contains (.type "BaseException")=true:=by simp_all
 unfold raiseStmt;refine wpAny_bind (wpAny_mono b (λv a c=>?_) λ_ _ x=>x)
 obtain⟨e,od,t,rfl,n,l,p⟩:=c;obtain⟨q,j,k,r,s⟩:=a;have l:q.get? e=some ⟨.ref h,od,_,#[]⟩:=l
 repeat (first | (with_reducible refine wpAny_isSubtype_exc n ?_;rw[i])|wp_step)
 exact wpAny_raiseNew_none m p
theorem uX(b:W3.contains (.type "BaseException")=true)(i:O.handled=none)(c:wpAny A4 O (eval j P2) (λv a=>∃e od t,v=.ref e/\a.heap.get? h=some (excClassObj d T h G ψ W3 y g d6 C1 Y5 D3 T3 P5 Q5 S5 T5 U1)/\a.heap.get? e=some (bB h od t)/\U (.ref e) a) U o):
  wpAny A4 O (exec (.Raise (some j) none l) P2) A8 U o:=by
 first
  |exact wpAny_bind (wpAny_standAt (rL b i (wpAny_bind (wpAny_mono c (λv a f=>wpAny_bind (wpAny_standAt (wpAny_pure f))) λ_ _ j=>j))))
structure rM(P:Program)(w:World)(outer:List Env)(H:Hp)(s:Shared)(e C d:Addr)(H':Hp)(s':Shared):Prop where
 os:s'.os=s.os
 bare:AllBare s'.gens
 un:Un (frs outer) [] H H' s.heap s'.heap
 hok:gN P w H' s'.heap
 new:s.heap.objs.size<=e
 free:H' e=none
 obj:∃oe vs,s'.heap.get? e=some oe/\oe.cls=.ref C/\oe.dict=some d/\oe.data=.fields vs/\rK s'.heap vs
noncomputable def pR(P:Program)(w:World):uH:=λouter H s E x b=>∃e C d a,x=.ref e/\rM P w outer H s e C d a b/\E (.ref C) (some d) a
theorem xv(I:Inv c v N e o)(t:c.ex=[])(j:c.stack=c.env::c.outer)(k:c.env.frame=some c.env.locals)(D:o.heap.get? h=some (bB G (some Ξ) v0))(x:c.s₀.heap.objs.size<=h)(E:e h=none)(f:∀y,rM c.prog c.w c.outer c.H₀ c.s₀ h G Ξ e y->N1 () y):wpAny (model c.prog c.w) c.A (leaving c.env (.ref h)) N1 U o:=by
 have l:=I.ok.frames;rw[j]at l;have B:=I.stack;rw[j]at B;refine uW l B k D rfl (.inl rfl) λP T F=>f _ ?_
 have p:∀b u,e b=some u->b∉frs _:=λb u q z=>by
  have:=I.j_ b (by omega)
  grind
 have g:∀b d,c.s₀.heap.get? b=some d->b≠h/\b≠c.env.locals:=λb d q=>⟨λz=>by rw[z]at q;exact absurd (Nat.lt_of_lt_of_le (Heap.lt_size q) x) (by simp),λz=>by rw[z]at q;exact absurd (Nat.lt_of_lt_of_le (Heap.lt_size q) I.ok.above) (by simp)⟩
 refine⟨I.os,I.bare,⟨λb d q n i _=>?_,λb d q n i _=>?_,λb d q n _=>I.base.free b d q n (by simp_all),λb d q _=>?_,I.base.tups,I.base.eD,I.base.fo⟩,λa u q=>?_,x,E,?_⟩
 .exact F.keep b d (g b d q).1 ((λb d q i z=>by
  unfold frs at z;rw[List.filterMap_cons,k]at z;rcases List.mem_cons.mp z with z|z
  .grind
  .exact i z) b d q i) (I.base.keep b d q n i (by rw[t];simp))
 .obtain⟨Q,r⟩:=I.base.slot b d q n i (by rw[t];simp)
  obtain⟨s,C⟩:=F.slot b _ (g b d q).1 r
  grind
 .obtain⟨R,r⟩:=I.base.there b d q (by simp_all)
  obtain⟨s,C⟩:=F.slot b _ (g b d q).1 r;exact⟨_,C⟩
 .refine(I.hok a u q).stay (λb H i m=>F.keep b H (λz=>?_) ?_ m) (λb m=>m) λb S m=>m
  .grind
  grind
 .obtain⟨J,K,L,M,O⟩:=F.tb
  exact⟨_,_,F.at_,rfl,rfl,rfl,.inr ⟨T,J,K,by simp,L,M,O⟩⟩
noncomputable def Cx.rb(X:Cx)(e:Addr):Cx:={X with A:=X.A.mark (some (.ref e)),calm:=false,xe:=λ_ _=>False}
theorem Inv.rb{X:Cx}{pins:List (Addr×Obj)}{a:St}{H:Hp}{s:Shared}{e:Addr}(I:Inv X pins a H s):Inv (X.rb e) pins a H s:=
 ⟨⟨I.ok.mod,I.ok.kind,I.ok.glob,I.ok.blt,I.ok.above,I.ok.inj,I.ok.has,I.ok.cab,(λz=>nomatch (z)),I.ok.frames,I.ok.zX,I.ok.Ab,I.ok.bs,I.ok.rg,I.ok.lR,I.ok.lS,I.ok.fq,I.ok.uB⟩,
  I.os,I.bare,I.base,I.loc,I.cell,I.free,I.cI,I.pin,I.hok,I.len⟩
theorem Inv.Ij(ok:c.Ok)(I:Inv (c.rb h) v N e o):Inv c [] N e o:=
 ⟨ok,I.os,I.bare,I.base,I.loc,I.cell,I.free,I.cI,λp a=>I.pin p (by rw[List.append_nil]at a;simp[show p∈(c.rb h).pn from a]),I.hok,I.len⟩
theorem Inv.flown{s:Shared}(I:Inv c [] N e s)(F:s_ c.stack h ω G s.heap w)(f:xr c h)(i:h≠c.env.locals)(E:e h=none):Inv c [] N e {s with heap:=w}:=by
 refine I.step (ch:=[h]) (λb d=>?_) (λb o l d j q n=>F.keep b o (by grind) (λz=>((λb z=>List.mem_cons.mp (I.nL b z)) b z).elim l d) q) (λb o _ _ j q _=>F.slot b o (by grind) q) (λ_ _ _ _ n=>n) (λb o j q=>?_) (λ_ _ q=>q) (λ_ _ _ q=>q) (λb H q=>⟨#[],by grind⟩) (λm r=>?_) (λa u q=>?_) I.bare
 .rw[List.mem_singleton.mp d]
  exact⟨f.new,i,f.cell,λp J=>f.pn p (by grind)⟩
 .obtain⟨t,k⟩:=F.slot b o (by grind) q
  grind
 .obtain⟨o,x,y,A,B,C⟩:=r
  obtain⟨t,k⟩:=F.slot _ o (Ne.symm i) A;exact⟨_,x,y,k,B,C⟩
 .refine(I.hok a u q).stay (λb D d g=>F.keep b D (λz=>?_) (λz=>?_) g) (λ_ g=>g) (by simp)
  .grind
  .have K:=I.j_ b z
   grind
theorem fW{b:Array Value}(e:o.heap.get? h=some ω)(f:ω.data=.fields u5)(g:u5[1]?=some (.ref G))(d:o.heap.get? G=some F6)(a:F6.data=.fields b)(i:b[3]?=some .none)(c:N1 () o):
  wpAny A4 O (setFlight (.ref h) none) N1 U o:=by
 refine wpAny_bind (wpAny_field e f g ?_);refine wpAny_setField d a (by grind) ?_
 have:=Heap.update_setField_same _ G F6 b 3 _ d a i
 simp_all
noncomputable def Cx.xy(X:Cx)(e:Addr)(a:Obj):Cx:={X with pn:=X.pn++[(e,a)]}
theorem Inv.xy{X:Cx}{a:St}{H:Hp}{s:Shared}{e:Addr}{b:Obj}(I:Inv X [(e,b)] a H s):Inv (X.xy e b) [] a H s:=
 ⟨⟨I.ok.mod,I.ok.kind,I.ok.glob,I.ok.blt,I.ok.above,I.ok.inj,I.ok.has,I.ok.cab,I.ok.hd,I.ok.frames,I.ok.zX,I.ok.Ab,I.ok.bs,I.ok.rg,I.ok.lR,I.ok.lS,I.ok.fq,I.ok.uB⟩,
  I.os,I.bare,I.base,I.loc,I.cell,I.free,I.cI,λp c=>I.pin p (by simpa[Cx.xy]using c),I.hok,I.len⟩
theorem Inv.DQ(I:Inv (c.xy h ω) [] N e o):Inv c [(h,ω)] N e o:=
 ⟨⟨I.ok.mod,I.ok.kind,I.ok.glob,I.ok.blt,I.ok.above,I.ok.inj,I.ok.has,I.ok.cab,I.ok.hd,I.ok.frames,I.ok.zX,I.ok.Ab,I.ok.bs,I.ok.rg,I.ok.lR,I.ok.lS,I.ok.fq,I.ok.uB⟩,
  I.os,I.bare,I.base,I.loc,I.cell,I.free,I.cI,λp a=>I.pin p (by simpa[Cx.xy]using a),I.hok,I.len⟩
structure KG(K:PySem.W.Frag)(C:Addr):Prop where
 ha:PySem.W.findIn K (.ref C) "__class__"=some (some (.builtin "object.__class__"))
 hn:PySem.W.specialIn K (.builtin "object.__class__") "__get__"=some (some (.builtin "getset_descriptor.__get__"))
 ht:PySem.W.takesIn K (.builtin "object.__class__")=some true
 hm:PySem.W.mroIn K C (.type "object")=some true
structure Hb(X:Cx)(e C:Addr)(oe:Obj)(d:Addr)(N fI:Addr):Prop where
 pn:(e,oe)∈X.pn
 cls:oe.cls=.ref C
 dict:oe.dict=some d
 no:PySem.W.notCls oe=true
 txt:kM X.K C N fI
 is:KG X.K C
theorem Hb.inst(a:Hb c h G ω j3 Ξ v0)(I:Inv c v N e o)(b:e j3=some (.xd G3)):∃od,PySem.W.InstAt o.heap h ω G (some od):=by
 obtain⟨f,d,_⟩:=I.hok j3 _ b;obtain⟨od,g,_⟩:=eU d;exact⟨od,(I.pin (h,ω) (by simp[a.pn])).1,a.cls,a.no,by rwa[a.dict]⟩
def oi(X:Cx)(z:Str×Pos)(a:Value):Prop:=∀(E:Value->Shared->Prop) (pins:List (Addr×Obj)) (s:Shared) (b:St) (H:Hp) (Q:Value->Shared->Prop),Inv X pins b H s->Q a s->wpAny (model X.prog X.w) X.A (eval (.Name z.1 z.2) X.env) Q E s
noncomputable def Nt(i:Nat)(e d:Addr)(b:Bool):TE:=λa H Q=>a[i]?=some (some (.ref e))/\(∃c,H d=some (.xd c))/\Q (.bl b) H
variable{D1 o7:Pos}
theorem xB(a:Hb c h G ω j3 Ξ v0)(n:c.N[b]?=some d)(o:sO c.env.scope d)(p:Gl c "isinstance")(q:c.mg "isinstance"=none)(g:oi c (T,D1) H)(r:PySem.W.kitOne c.K (.ref G) H=some y)(i:(d==("__debug__":Str))=false:=by decide)(j:(d==("__classdict__":Str))=false:=by decide):
  PE c (.Call (.Name "isinstance" l) [.Name d C,.Name T D1] [] o7) (Nt b h j3 y):=by
 intro pins s m e Q I f;obtain⟨t,⟨J,x⟩,A⟩:=f;refine wpAny_Call_Name_kw (jf I p q boot_isinstance ?_ (by decide) (by decide))
 refine PyProof.Rows.callWith_builtin1 ?_ rfl rfl;refine Calls.spliced_cons (bD (g_ n o i j _ s m e (λw B=>w=.ref h/\B=e) I ⟨_,t,rfl,rfl⟩) λu D ⟨w,H1,J1,E,hw,hH⟩=>?_)
 subst hw hH;cases (E);refine Calls.spliced_cons (g _ _ D m H1 _ J1 (Calls.spliced_nil ?_));obtain⟨L,k⟩:=a.inst J1 x;exact PySem.W.kia_one (w9 a.txt.xg a.txt.hd a.is.ha a.is.hn a.is.ht a.is.hm) J1.d5 k r (λz=>nomatch z) λF=>⟨.bl y,H1,J1.tok F,rfl,A⟩
noncomputable def RH(i:Nat)(e d:Addr)(a:Str):TE:=λc H Q=>c[i]?=some (some (.ref e))/\∃b v,H d=some (.xd b)/\b.lookup a=some v/\Q v H
theorem DR(a:Hb c h G ω j3 Ξ v0)(i:cz c.K G T)(j:c.N[b]?=some d)(k:sO c.env.scope d)(f:(d==("__debug__":Str))=false:=by decide)(g:(d==("__classdict__":Str))=false:=by decide):
  PE c (.Attribute (.Name d l) T C) (RH b h j3 T):=by
 intro pins s m H Q I e;obtain⟨n,z,v,o,p,q⟩:=e;refine nS rfl (bD (g_ j k f g _ s m H (λw r=>w=.ref h/\r=H) I ⟨_,n,rfl,rfl⟩) λu A ⟨w,H1,J1,t,hw,hH⟩=>?_)
 subst hw hH;cases (t);exact sZ J1 a.txt i (J1.pin (h,ω) (by simp[a.pn])).1 a.cls a.dict a.no o p λB x y=>⟨v,H1,y,x,q⟩
theorem xC{s:Shared}(X:x.In s.heap)(p:s.heap.get? h=some ω)(a:ω.cls=.ref G)(e:ω.dict=some Ξ)(f:PySem.W.notCls ω=true)(q:clsIn x G=some G7)(t:eQ G7.mro=true)(u:G7.hasDict=true)(w:findIn x (.ref G) "__setattr__"=some (some (.builtin "object.__setattr__")))(B:takerIn x G d=some none)(r:s.heap.Ns1 Ξ θ)(C:Within θ g)(N:g.length<1000)(i:∀c t',c.Ns1 Ξ (λy=>if y=d then some H else θ y)->Heap.SameBut Ξ s.heap c->N1 () {s with heap:=c,toks:=t' }):
  wpAny (model z A) O (setAttr (.ref h) d H) N1 U s:=by
 obtain⟨D,j,l⟩:=eU r;have I:InstAt _ h ω G (some D):=⟨p,a,f,by grind⟩
 refine PySem.W.set_plain X I w (sY X I q t B λb=>?_)
 obtain⟨oc,E,F,J⟩:=ω;subst a e;refine wpAny_bind (wpAny_pure (wpAny_bind (wpAny_bind (wpAny_loadPart p (wpAny_bind (PySem.W.Looks.here (PySem.W.looks_clsIn X q) ?_))))));rw[u];refine wpAny_pure ?_;refine wpAny_bind (wpAny_pure (wpAny_bind (wpAny_nsSet1 r λc k K=>?_)))
 obtain⟨P,L,M,m,n,o⟩:=k.count (Within.cons _ H C);refine wpAny_bind (wpAny_lookBehind m (by rw[n];exact pastItsLine_dict (Nat.le_trans o (by rw[List.length_cons,sizeLine_eq];omega))) (wpAny_pure (by grind)))
variable{o0:HO}
theorem Inv.Ik(I:Inv c v N e o)(g:e h=some o0)(i:∀a u,o0≠.dj a u):h≠c.env.locals/\(∀x b,c.env.cells.lookup x=some b->b≠h)/\∀p∈c.pn++v,p.1≠h:=by
 refine⟨λz=>?_,λx b d z=>?_,λp f z=>?_⟩
 .have:=I.free;grind
 .rcases(I.cI x b d).1 with q|⟨j,u,q⟩
  .grind
  grind
 .obtain⟨_,q,_⟩:=I.pin p f
  grind
theorem AJ(c:∀f,fO (G3.lookup f) (θ f))(a:G3.lookup d=none)(r:RelV u H)(f:Str):fO ((G3++[(d,u)]).lookup f) (if f=d then some H else θ f):=by
 rw[List.lookup_append]
 by_cases b:f=d
 .subst b
  rw[a];simp[List.lookup];exact r
 grind
theorem uY(a:∀f,fO (G3.lookup f) (θ f)):Within θ (G3.map (·.1)):=λy c=>by
 have:=a y;cases q:G3.lookup y with
 |none=>
  rw[q]at this;cases b:θ y with
  |none=>grind
  |some _=>rw[b]at this;exact this.elim
 |some v=>
  grind
theorem xD{s:Shared}(I:Inv c [(h,bB G none j3)] N e s)(T:kM c.K G Ξ v0)(Q:cz c.K G d)(R:h∈c.ex\/c.s₀.heap.objs.size<=h)(t:∀x g,c.env.cells.lookup x=some g->g≠h)(y:∀p∈c.pn,p.1≠h)(r:RelV u H)(j:∀k E,e k=none->k≠h->s.heap.objs.size<=k->Inv c [(h,bB G (some k) j3)] N (upd e k (.xd [(d,u)])) E->N1 () E):wpAny (model c.prog c.w) O (setAttr (.ref h) d H) N1 U s:=by
 obtain⟨cd,S,V,X⟩:=T.cd;obtain⟨F,Y,A,Z,p5⟩:=I.pin (h,bB G none j3) (by simp)
 have B:=I.hok.fresh (Nat.le_refl _);have l:=Nat.ne_of_gt (Heap.lt_size F);refine AG I.d5 F S V X T.sa Q.taker λL t' g1 g2 g3=>j _ _ B l (Nat.le_refl _) ?_
 have I0:=I.xq;have keep:∀b o,b∉[h]->s.heap.get? b=some o->L.get? b=some o:=λb o i q=>g3 b o (by simpa using i) q
 have J:Inv c [] N (upd e s.heap.objs.size (.xd [(d,u)])) {s with heap:=L,toks:=t' }:=by
  refine I0.step (ch:=[h]) (λb i=>?_) (λb o _ _ i q _=>keep b o i q) (λb o _ _ i q _=>⟨o.slots,keep b o i q⟩) (λb o i q C=>?_) (λb o i q=>⟨o,keep b o i q⟩) (λb xs q=>?_) (λb o M q=>?_) (λb ps q=>?_) (λm C=>?_) ?_ I.bare
  .rw[List.mem_singleton.mp i]
   exact⟨R,A,t,λp hp=>y p (by simpa using hp)⟩
  .rw[av (Nat.ne_of_lt (Heap.lt_size q))];exact C
  .rw[av (λz=>by grind)];exact q
  .rw[av (λz=>by grind)];exact q
  .exact⟨#[],by rw[av (λz=>by grind),q];simp⟩
  .obtain⟨o,es,ep,e1,e2⟩:=C
   exact⟨o,es,ep,keep _ o (by simp[Ne.symm A]) e1,e2⟩
  .intro a o q
   by_cases P:a=s.heap.objs.size
   .subst P
    rw[aL]at q;cases q;refine⟨_,g2,λf=>?_⟩
    by_cases D:f=d
    .rw[D];simp[List.lookup];exact r
    .rw[if_neg D]
     have:(f==d)=false:=by simpa using D
     simp[List.lookup,this];exact trivial
   .rw[av P]at q
    refine(I.hok a o q).stay (λb M i n=>keep b M (λz=>?_) n) (λb n=>?_) λb xs n=>?_
    .grind
    .rw[av (λz=>by grind)];exact n
    .rw[av (λz=>by grind)];exact n
 exact J.w_ g1 (by rw[av (Ne.symm l)];exact Y) A Z (λu=>by simp[bB])
variable{Q6:Addr}
theorem xE(I:Inv c [(h,bB G (some Q6) j3)] N e o)(T:kM c.K G Ξ v0)(C:cz c.K G d)(t:e Q6=some (.xd G3))(k:c.s₀.heap.objs.size<=Q6)(D:G3.length<900)(p:G3.lookup d=none)(r:RelV u H)(j:∀x,Inv c [(h,bB G (some Q6) j3)] N (upd e Q6 (.xd (G3++[(d,u)]))) x->N1 () x):wpAny (model c.prog c.w) O (setAttr (.ref h) d H) N1 U o:=by
 obtain⟨cd,E,F,J⟩:=T.cd;obtain⟨L,p2,p3,p4,p5⟩:=I.pin (h,bB G (some Q6) j3) (by simp)
 obtain⟨M,P,Q⟩:=I.Ik t (λ_ _ z=>nomatch z)
 obtain⟨mA,n,y⟩:=I.hok Q6 _ t;refine xC I.d5 L rfl rfl rfl E F J T.sa C.taker n (uY y) (by simp;omega) λR t' S V=>j _ ?_
 have keep:∀b g,b≠Q6->o.heap.get? b=some g->R.get? b=some g:=λb g i q=>(V.2 b i).trans q
 have ne:∀{b:Addr}{g:HO},e b=some g->(∀f,g≠.xd f)->b≠Q6:=λ{b g} q hx z=>by grind
 refine I.step (ch:=[Q6]) (λb i=>?_) (λb g _ _ i q _=>keep b g (by simpa using i) q) (λb g _ _ i q _=>⟨g.slots,keep b g (by simpa using i) q⟩) (λb g i q s=>?_) (λb g i q=>⟨g,keep b g (by simpa using i) q⟩) (λb X q=>?_) (λb g A q=>?_) (λb ps q=>?_) (λm s=>?_) ?_ I.bare
 .rw[List.mem_singleton.mp i]
  exact⟨.inr k,M,P,Q⟩
 .rw[av (by simpa using i)];exact s
 .rw[av (ne q λ_ z=>nomatch z)];exact q
 .rw[av (ne q λ_ z=>nomatch z)];exact q
 .exact⟨#[],by rw[av (ne q λ_ z=>nomatch z),q];simp⟩
 .obtain⟨g,Y,Z,e1,e2⟩:=s
  exact⟨g,Y,Z,by grind,e2⟩
 .intro a g q
  by_cases B:a=Q6
  .subst B
   rw[aL]at q;cases q;exact⟨_,S,AJ y p r⟩
  .rw[av B]at q
   refine(I.hok a g q).stay (λb A i l=>keep b A (λz=>?_) l) (λb l=>?_) λb X l=>?_
   .grind
   .rw[av (by grind)];exact l
   .rw[av (by grind)];exact l
structure iA where
 fld:Str
 ve:Expr
 a1:Pos
 a2:Pos
 a3:Pos
noncomputable def iA.st(a:Str)(r:iA):Stmt:=.Assign [.Attribute (.Name a r.a1) r.fld r.a2] r.ve r.a3
def kN(e c:Addr):List (Str×TE)->Option Addr->List (Str×V)->St->Hp->(Option Addr->List (Str×V)->Hp->Prop)->Prop
 |[],g,fs,_,H,Q=>Q g fs H
 | (f,d)::r,none,_,σ,H,Q=>d σ H λv b=>∀a,b a=none->a≠e->c<=a->kN e c r (some a) [(f,v)] σ (upd b a (.xd [(f,v)])) Q
 | (f,d)::r,some a,fs,σ,H,Q=>d σ H λv b=>b a=some (.xd fs)/\kN e c r (some a) (fs++[(f,v)]) σ (upd b a (.xd (fs++[(f,v)]))) Q
def Hc(X:Cx)(H:Hp):Option Addr->List (Str×V)->Prop
 |none,fs=>fs=[]
 |some a,fs=>H a=some (.xd fs)/\X.s₀.heap.objs.size<=a
theorem oj{X:Cx}{h:St}{e C N Y t:Addr}{j:Str}{i:Nat}(T:kM X.K C N Y)(F:xr X e)(n:X.N[i]?=some j)(o:sO X.env.scope j)(b:h[i]?=some (some (.ref e)))(c:(j==("__debug__":Str))=false)(d:(j==("__classdict__":Str))=false){Q:Option Addr->List (Str×V)->Hp->Prop}{R:Flow->Shared->Prop}{rest:List Stmt}(K:∀od a g M,Inv X [(e,bB C od t)] h g M->Hc X g od a->Q od a g->wpAny (model X.prog X.w) X.A (execs rest X.env) R X.xe M):
  ∀(rs:List (iA×TE)) (od:Option Addr) (a:List (Str×V)) (H:Hp) (s:Shared),(∀r∈rs,PE X r.1.ve r.2/\cz X.K C r.1.fld/\∀env,swapsWith r.1.ve (some (.Attribute (.Name j r.1.a1) r.1.fld r.1.a2)) r.1.a3.line env=pure false) ->
   ((a.map (·.1))++rs.map (·.1.fld)).Nodup->a.length+rs.length<900->Inv X [(e,bB C od t)] h H s->Hc X H od a->kN e X.s₀.heap.objs.size (rs.map λr=>(r.1.fld,r.2)) od a h H Q ->
   wpAny (model X.prog X.w) X.A (execs (rs.map (λr=>r.1.st j)++rest) X.env) R X.xe s
 |[],od,a,H,s,_,_,_,I,k,q=>K od a H s I k q
 | (r,Z)::rs,od,a,H,s,O,P,u,I,k,q=>by
  obtain⟨S,U,x⟩:=O (r,Z) (by simp)
  have m:=λy (hm:y∈rs)=>O y (List.mem_cons_of_mem _ hm)
  have f:((a.map (·.1)++[r.fld])++rs.map (·.1.fld)).Nodup:=by simpa using P
  refine wpAny_execs_cons (plainObj_wpAny_Assign_Attribute (?_) (x _));cases od with
  |none=>
   cases (show a=[]from k)
   refine bD (S _ s h H _ I q) λu1 s2 ⟨v,H2,J2,r2,q2⟩=>?_
   refine bD (g_ (l:=r.a1) n o c d _ _ _ H2 (λz g=>z=.ref e/\g=H2) J2 ⟨.ref e,b,rfl,rfl⟩) λu2 s3 ⟨z,H3,J3,B,hz,hH⟩=>?_
   subst hz hH;cases (B);have D:=J3.sz;refine xD J3 T U F.new F.cell F.pn r2 λE G a0 b0 J L=>?_
   exact oj T F n o b c d K rs (some E) [(r.fld,v)] _ G m (by simpa using f) (by simp at u ⊢;omega) L ⟨aL,Nat.le_trans D J⟩ (by grind)
  |some E=>
   refine bD (S _ s h H _ I q) λu1 s2 ⟨v,H2,J2,r2,q1,q2⟩=>?_
   refine bD (g_ (l:=r.a1) n o c d _ _ _ H2 (λz g=>z=.ref e/\g=H2) J2 ⟨.ref e,b,rfl,rfl⟩) λu2 s3 ⟨z,H3,J3,B,hz,hH⟩=>?_
   subst hz hH;cases (B);refine xE J3 T U q1 k.2 (by simp at u;omega) (by
   have hn:r.fld∉a.map (·.1):=λz=>by
    have:=(List.nodup_append.mp (List.nodup_append.mp f).1).2.2 _ z _ (List.mem_singleton.mpr rfl);exact this rfl
   clear P f u k q I
   induction a with
   |nil=>rfl
   |cons p y ih=>
    rw[List.lookup]
    grind) r2 λG L=>?_
   exact oj T F n o b c d K rs (some E) _ _ G m (by simpa using f) (by simp at u ⊢;omega) L ⟨aL,k.2⟩ q2
noncomputable def lZ(a:Str)(q:Str×Pos×Pos):Expr:=.Attribute (.Name a q.2.1) q.1 q.2.2
theorem xF{X:Cx}{f:St}{H:Hp}{e C N r t:Addr}{a:Str}{i:Nat}{j:List (Str×V)}(T:kM X.K C N r)(k:X.N[i]?=some a)(l:sO X.env.scope a)(b:f[i]?=some (some (.ref e)))(c:(a==("__debug__":Str))=false)(d:(a==("__classdict__":Str))=false){pos:Pos}{g:Addr}(m:H g=some (.xd j)):
  ∀(L:List (Str×Pos×Pos)) (s:Shared) {Q:List Value->Shared->Prop},(∀q∈L,cz X.K C q.1/\∃v,j.lookup q.1=some v)->Inv X [(e,bB C (some g) t)] f H s->(∀n o,n.length=L.length->Inv X [(e,bB C (some g) t)] f H o->Q n o) ->
   wpAny (model X.prog X.w) X.A (spliced (backTo pos (starEach (L.map (lZ a)) X.env))) Q X.xe s
 |[],s,Q,_,I,h=>Calls.spliced_nil (h [] s rfl I)
 |q::L,s,Q,p,I,h=>by
  obtain⟨x,v,y⟩:=p q (by simp)
  refine Calls.spliced_cons (nS rfl (bD (g_ k l c d _ _ f H (λw z=>w=.ref e/\z=H) I ⟨_,b,rfl,rfl⟩) λu G ⟨w,H2,J2,B,hw,hH⟩=>?_))
  subst hw;rw[hH]at J2;cases (B);obtain⟨D,_,_,_,_⟩:=J2.pin (e,bB C (some g) t) (by simp)
  refine sZ J2 T x D rfl rfl rfl m y λu J E=>xF T k l b c d m L _ (λF M=>p F (by grind)) E (by grind)
theorem uZ{a:Str}{env:Env}:∀L:List (Str×Pos×Pos),starEach (L.map (lZ a)) env=L.map λq=>(false,eval (lZ a q) env)
 |[]=>rfl
 |q::L=>by
  rw[List.map_cons,List.map_cons,←uZ L];rfl
theorem AK{pl:Sem Bool}{L:List (Str×Pos×Pos)}(I:Inv c [(h,bB G D3 j3)] N e o)(F:xr c h)(a:kM c.K G Ξ v0)(B:XBase c.K c.mg T Q6)(st:Hc c e D3 G3)(y:∀q∈L,cz c.K G q.1/\∃v,G3.lookup q.1=some v)(r:L.length<=900)(z:c.N[b]?=some d)(D:sO c.env.scope d)(j:N[b]?=some (some (.ref h)))(J:Gl c T)(E:eval (.Call (.Attribute (.Name T l) "__init__" D1) (.Name d C::L.map (lZ d)) [] o7) c.env=(do
   let H ←eval (.Name T l) c.env
   standAt D1.atName
   let (f,first) ←holding [H] (getMethod H "__init__" pl)
   callWith o7 f first (backTo o7 (starEach (.Name d C::L.map (lZ d)) c.env)) (backToKw o7 (keywordEach [] c.env))))(g:∀t' i,Inv c [(h,bB G D3 t')] N e i->U .none i)(s:(T==("__debug__":Str))=false)(k:(d==("__debug__":Str))=false)(m:(d==("__classdict__":Str))=false):
  wpAny (model c.prog c.w) c.A (eval (.Call (.Attribute (.Name T l) "__init__" D1) (.Name d C::L.map (lZ d)) [] o7) c.env) U c.xe o:=by
 refine PySem.W.methodCall_KW (d9 I J B.mg ?_ s) E;refine PySem.W.method_cls I.d5 B.ga (PySem.W.cls_value I.d5 B.rd B.ini (by rfl) ?_)
 have n:starEach (.Name d C::L.map (lZ d)) _=(false,eval _ c.env)::starEach _ _:=rfl;refine PyProof.Rows.callWith_builtin1 ?_ n ?_
 .refine Calls.spliced_cons (bD (g_ z D k m _ _ N e (λw M=>w=.ref h/\M=e) (I.tok (o.toks+1)) ⟨_,j,rfl,rfl⟩) λu s1 ⟨w,H1,J1,O,hw,hH⟩=>?_)
  subst hw hH;cases (O)
  have t:∀x i,x.length=L.length->Inv c [(h,bB G D3 j3)] N H1 i->wpAny (model c.prog c.w) c.A (call _ (.ref h::x)) U c.xe i:=λx i P p=>by
   obtain⟨nm,q,bs,bm,sn,Q,ab,R,S,k0,k1,k2,k3,k5,V,X⟩:=a.ex;obtain⟨Y,_,_,_,_⟩:=p.pin (h,bB G D3 j3) (by simp)
   refine wpAny_call (lY PySem.F.excBase_ValueError (X _ p.d5) (p.d5 _ _ V) Y (by rw[sizeLine_eq];omega) λh' Z g2 g3=>g _ _ (p.RG F Z g3 (λv=>by simp[bB])))
  cases D3 with
  |none=>
   cases (st);cases L with
   |nil=>exact Calls.spliced_nil (by grind)
   |cons q L=>grind
  |some dd=>exact xF a z D j k m st.1 L _ y J1 t
 .clear n E y r
  induction L with
  |nil=>rfl
  |cons q L ih=>exact ih
structure mL(K:PySem.W.Frag)(mg:Str->Option Value)(C N0 f c:Addr)(fd:FuncData)(st:Stmt)(qual sf:Str)(ps:List Str)(rs:List iA):Prop where
 fn:∃x,vU K x qual st f fd
 cv:fd.code=.ref c
 sc:ir (sf::ps) (sf::ps) (aj st)
 cls:kM K C N0 f
 bs:Binds K fd (sf::ps) []
 na:∀r∈rs,cz K C r.fld
 nd:(rs.map (·.fld)).Nodup
 sl:(aj st).names.lookup sf=some .local
 d1:(sf==("__debug__":Str))=false
 d2:(sf==("__classdict__":Str))=false
 ln:rs.length<900
 pl:ps.length<900
 body:∃(bn:Str) (B0:Addr) (L:List (Str×Pos×Pos)) (p1 p2 p5 apos pos:Pos) (pl:Env->Sem Bool),XBase K mg bn B0/\(bn==("__debug__":Str))=false/\(aj st).names.lookup bn=some .globalImplicit /\
  aV st=rs.map (iA.st sf)++[.Expr (.Call (.Attribute (.Name bn p1) "__init__" apos) (.Name sf p2::L.map (lZ sf)) [] pos) p5]/\L.map (·.1)=rs.map (·.fld) /\
  (∀r∈rs,∀env,swapsWith r.ve (some (.Attribute (.Name sf r.a1) r.fld r.a2)) r.a3.line env=pure false) /\
  (∀env:Env,eval (.Call (.Attribute (.Name bn p1) "__init__" apos) (.Name sf p2::L.map (lZ sf)) [] pos) env=(do
   let ov ←eval (.Name bn p1) env
   standAt apos.atName
   let (f,first) ←holding [ov] (getMethod ov "__init__" (pl env))
   callWith pos f first (backTo pos (starEach (.Name sf p2::L.map (lZ sf)) env)) (backToKw pos (keywordEach [] env))))
variable{G6:List iA}{Δ:Stmt}
theorem EZ{fP:Option Addr->List (Str×V)->Hp->Prop}(D:mL x θ Ξ v0 h G ς Δ d T g G6)(h0:∀E,∃t:List TE,t.length=G6.length/\(∀p∈G6.zip t,PE ((cO eB z A x θ w (T::g) d (aj Δ) h (.ref G) O F4 o e E).jP.mk1 j3) p.1.ve p.2) /\
   kN j3 o.heap.objs.size ((G6.zip t).map λr=>(r.1.fld,r.2)) none [] (start (T::g) (.ref j3::I)) e λod a Z=>a.map (·.1)=G6.map (·.fld)/\fP od a Z)(u:bA (b+1) O)(e0:pC z A x θ w O F4 o e)(hb:BindsTo o ς ⟨.ref j3::ψ,[]⟩ ((T::g).zip (.ref j3::ψ)))(a0:I.length=g.length)(rv:Vals I ψ)(he:o.heap.get? j3=some (bB Ξ none Q6))(i0:w.objs.size<=j3)(j0:e j3=none)(b0:j3∉frs F4)(P:∀od a i t' m,fP od a i->(od=none/\a=[]\/∃Y,od=some Y/\i Y=some (.xd a)/\o.heap.objs.size<=Y)->m.os=o.os->AllBare m.gens->Un (frs F4) [j3] e i o.heap m.heap->gN z A i m.heap ->
   m.heap.get? j3=some (bB Ξ od t')->i j3=none->w4 (.ok (.ret (.ref j3))) m):
  codeAny (model z A) O (.call (.ref h) ⟨.ref j3::ψ,[]⟩) (PySem.W.InitBack j3 w4) o:=by
 obtain⟨c,F⟩:=D.fn;have l0:=D.cv;have S:=D.sc;have j:=D.cls;obtain⟨bn,B0,L,p1,p2,p5,apos,D0,pl,B,m0,hg,n0,c0,o0,ht⟩:=D.body;obtain⟨oc,od,kV,G0,pm,an,p0,ct,I0,rfl,lk,q0⟩:=F.ex;obtain rfl:p0=.ref G:=l0;have KX:x.In o.heap:=e0.mod.Aa.keeps λk f j3=>(e0.bs k f j3).1
 have r0:o.heap.NoLimit:=e0.mod.nolimit.keeps λk f j3=>(e0.bs k f j3).1
 refine codeAny_call_function u.depth (KX _ _ lk) rfl S.co S.gen rfl (PySem.W.codeRec_of KX q0) (hb _ _ _ _ ?_)
 refine wpAny_newFunctionEnv_cells S.kind (λ⟨n,v⟩ hy=>by
  rcases S.par n (List.of_mem_zip hy).1 with q|q
  .exact .inl q
  .exact .inr ⟨q,PySem.W.cellsFrom_some _ _ _ (.inl q)⟩) λJ0 s0 s1 c=>?_
 subst s0;refine⟨r0.keeps c.toInCall.keep,codeAny_func ?_⟩;have E:XK:=λ_ _ _=>False
 have s:Inv (cO eB z A x θ w (T::g) d (aj Δ) h (.ref G) O F4 o e E) [] (start (T::g) (.ref j3::I)) e s1:=mE (ψ:=.ref j3::ψ) S u.hd e0 (by simp[a0]) (.cons rfl rv) c
 have d0:=Heap.lt_size he;have H:j3≠o.heap.objs.size:=Nat.ne_of_lt d0
 have f0:∀(y:Str) (cc:Addr),(envOfC d (aj Δ) o.heap.objs.size h (.ref G)).cells.lookup y=some cc->cc≠j3:=λy cc hy l=>by
  have:=s.ok.cab y cc rfl hy;rw[l]at this;exact absurd (Nat.lt_of_lt_of_le d0 this) (Nat.lt_irrefl _)
 have I1:=(s.wish (λ_ _=>False)).mk1 (e:=j3) rfl H f0 (λf q=>absurd (Nat.lt_of_lt_of_le (Heap.lt_size q) i0) (Nat.lt_irrefl _)) b0
 have I2:=I1.w_ (c.toInCall.keep _ _ he) j0 H b0 (λv=>by simp[bB])
 obtain⟨t,t0,u0,w0⟩:=h0 E
 have x0:wpAny (model z A) (O.deeper (envOfC d (aj Δ) o.heap.objs.size h (.ref G))) (execs (aV Δ) (envOfC d (aj Δ) o.heap.objs.size h (.ref G)))
   (λfl m=>fl=.next/\∃od a i t',fP od a i/\Hc (cO eB z A x θ w (T::g) d (aj Δ) h (.ref G) O F4 o e E) i od a/\Inv ((cO eB z A x θ w (T::g) d (aj Δ) h (.ref G) O F4 o e E).jP.mk1 j3) [(j3,bB Ξ od t')] (start (T::g) (.ref j3::I)) i m) (λ_ _=>False) s1:=by
  have y0:((cO eB z A x θ w (T::g) d (aj Δ) h (.ref G) O F4 o e E).jP.mk1 j3).s₀=o:=rfl
  have z0:∀i od a,Hc ((cO eB z A x θ w (T::g) d (aj Δ) h (.ref G) O F4 o e E).jP.mk1 j3) i od a->Hc (cO eB z A x θ w (T::g) d (aj Δ) h (.ref G) O F4 o e E) i od a:=λi od a q=>by
   cases od with
   |none=>exact q
   |some Y=>exact q
  generalize C:(cO eB z A x θ w (T::g) d (aj Δ) h (.ref G) O F4 o e E).jP.mk1 j3=X at *;have xe:X.env=envOfC d (aj Δ) o.heap.objs.size h (.ref G):=by rw[←C];rfl
  have xN:X.N=T::g:=by rw[←C];rfl
  have xA:X.A=O.deeper (envOfC d (aj Δ) o.heap.objs.size h (.ref G)):=by rw[←C];rfl
  have xK:X.K=x:=by rw[←C];rfl
  have xm:X.mg=θ:=by rw[←C];rfl
  have xp:X.prog=z:=by rw[←C];rfl
  have xw:X.w=A:=by rw[←C];rfl
  have xx:X.xe=λ_ _=>False:=by rw[←C];rfl
  have fr:xr X j3:=⟨.inl (by rw[←C];simp[Cx.mk1]),by rw[xe];exact f0,by rw[←C];intro p hp;cases hp⟩
  rw[←xA,←xe,←xp,←xw,←xx,n0];have na:=D.na;rw[←xK]at j B na;rw[←xm]at B;have hN:X.N[0]?=some T:=by rw[xN];rfl
  have hv:sO X.env.scope T:=.inl (by rw[xe];exact D.sl)
  have A0:Gl X bn:=by show X.env.scope.names.lookup bn=_;rw[xe];exact hg
  have g0:G6.map (iA.st T)=(G6.zip t).map λr=>r.1.st T:=by
   have e1:=List.map_fst_zip (l₁:=G6) (l₂:=t) (by omega)
   conv=>lhs;rw[←e1]
   rw[List.map_map];rfl
  rw[g0];have M:∀r∈G6.zip t,r.1∈G6:=λr u=>(List.of_mem_zip u).1
  refine oj (Q:=λod a Z=>a.map (·.1)=G6.map (·.fld)/\fP od a Z) j fr hN hv rfl D.d1 D.d2 (λod a Z m J R q=>?_) (G6.zip t) none [] e s1 (λr u=>⟨u0 r u,na _ (M r u),o0 _ (M r u)⟩) ?_ ?_ I2 rfl (by rw[y0];exact w0)
  .obtain⟨q1,q2⟩:=q
   refine wpAny_execs_cons (wpAny_Expr_any (AK J fr j B R (λq' C0=>?_) ?_ hN hv rfl A0 (ht X.env) (λt' s5 J5=>?_) m0 D.d1 D.d2) J.quiet (by rfl))
   .have h1:q'.1∈G6.map (·.fld):=by rw[←c0];exact List.mem_map_of_mem C0
    obtain⟨r,u,e1⟩:=List.mem_map.mp h1;refine⟨by rw[←e1];exact na r u,?_⟩
    rw[←q1]at h1;clear J R q1 q2
    induction a with
    |nil=>cases h1
    |cons p r ih=>
     rw[List.lookup];split
     .exact⟨_,rfl⟩
     .rename_i hb
      refine ih ?_
      simp_all
   .have:=congrArg List.length c0
    simp at this;have:=D.ln;omega
   .exact wpAny_execs_nil ⟨rfl,od,a,Z,t',q2,z0 _ _ _ R,J5⟩
  .have e2:(G6.zip t).map (·.1.fld)=G6.map (·.fld):=by
    have e1:=List.map_fst_zip (l₁:=G6) (l₂:=t) (by omega)
    conv=>rhs;rw[←e1]
    rw[List.map_map];rfl
   simp only[List.map_nil,List.nil_append];rw[e2];exact D.nd
  .have:=D.ln
   simp[t0];omega
 refine wpAny_mono x0 (λfl m hs=>?_) λ_ _ l=>l.elim
 obtain⟨rfl,od,a,i,t',q2,U,J⟩:=hs;obtain⟨g1,g2,_,_,_⟩:=J.pin (j3,bB Ξ od t') (by simp)
 refine⟨rfl,P od a i t' m q2 ?_ J.os J.bare J.base J.hok g1 g2⟩;cases od with
 |none=>exact .inl ⟨rfl,U⟩
 |some Y=>exact .inr ⟨Y,rfl,U.1,U.2⟩
theorem kO(b:Gl c d)(e:c.mg d=some H)(f:(d==("__debug__":Str))=false):oi c (d,l) H:=λE pins s g a Q I q=>d9 I b e q f
theorem Inv.gone{s:Shared}(ok:c.Ok)(I:Inv (c.rb h) v N e s)(G:c.N.Nodup)(H:c.N[t]?=some d)(J:∀(j:Nat) (x:Str) (i:V),c.N[j]?=some x->N[j]?=some (some i)->sO c.env.scope x->∃u,RelV i u/\Look c.env s.heap θ x u)(K:w.Ns c.env.locals (λx=>if x=d then T3 else θ x))(L:Heap.SameBut c.env.locals s.heap w):Inv c [] (N.set t none) e {s with heap:=w,toks:=b}:=by
 have k:∀f o,f≠c.env.locals->s.heap.get? f=some o->w.get? f=some o:=λf o m q=>(L.2 f m).trans q
 have l:∀f o,c.s₀.heap.get? f=some o->f≠c.env.locals:=λf o q=>Nat.ne_of_lt (Nat.lt_of_lt_of_le (Heap.lt_size q) I.ok.above)
 refine⟨ok,I.os,I.bare,⟨λf o q d m n=>k f o (l f o q) (I.base.keep f o q d m n),λf o q d m n=>?_,I.base.free,λf o q n=>?_,I.base.tups,I.base.eD,I.base.fo⟩,⟨_,K,λj x i B z M=>?_⟩,λx g q=>?_,I.free,I.cI,λp E=>?_,λa u q=>?_,by rw[List.length_set];exact I.len⟩
 .obtain⟨O,r⟩:=I.base.slot f o q d m n
  exact⟨O,k f _ (l f o q) r⟩
 .obtain⟨P,r⟩:=I.base.there f o q n
  exact⟨P,k f _ (l f o q) r⟩
 .by_cases y:j=t
  .rw[List.getElem?_set]at z
   simp_all
  .rw[List.getElem?_set_ne (Ne.symm y)]at z
   obtain⟨u,Q,R⟩:=J j x i B z M;refine⟨u,Q,?_⟩;rcases R with ⟨C,D⟩|⟨C,g,D,o,S,T⟩
   .exact .inl ⟨C,by dsimp only;rwa[if_neg (λU=>by
    subst U;exact y ((List.getElem?_inj (List.getElem?_eq_some_iff.mp B).1 G).mp (B.trans H.symm)))]⟩
   .exact .inr ⟨C,g,D,o,k g o (I.Ht x g D) S,T⟩
 .obtain⟨i,o,r,X⟩:=I.cell x g q
  exact⟨i,o,k g o (I.Ht x g q) r,X⟩
 .rw[List.append_nil]at E
  obtain⟨Y,Z,F,a4,a5⟩:=I.pin p (by simp[show p∈(c.rb h).pn from E])
  exact⟨k _ _ F Y,Z,F,a4,a5⟩
 .refine(I.hok a u q).stay (λf u' m A=>k f u' (λz=>?_) A) (λ_ A=>A) λ_ _ A=>A
  have hf:e c.env.locals=none:=I.free
  grind
noncomputable def Il(b:Option Str)(i:Nat)(a:St):St:=if b.isSome then a.set i none else a
variable{G2:List Stmt}{d8:Option Str}{i7:Shared}{ο:Hp}
theorem xG(I:Inv c [] N e o)(k:rM c.prog c.w c.stack e o h G Ξ ο i7)(E:c.stack=c.env::c.outer)(a0:c.env.frame=some c.env.locals)(b0:ο Ξ=some (.xd G3))(hg:Gl c d)(hm:c.mg d=some (.ref v0))(c0:PySem.W.exmOne c.K (.ref G) (.ref v0)=some true)(hN:c.N.Nodup)(Z:∀n,d8=some n->c.N[b]?=some n)(P:∀n,d8=some n->c.env.scope.names.lookup n=some .local)(j:∀y s4,y.cls=.ref G->y.dict=some Ξ->PySem.W.notCls y=true->Inv (c.rb h) [(h,y)] (if d8.isSome then N.set b (some (.ref h))else N) ο s4 ->
   wpAny (model c.prog c.w) (c.A.mark (some (.ref h))) (execs (Δ::G2) c.env) (λf s5=>∃B H5,Inv (c.rb h) [(h,y)] B H5 s5/\∀s6,Inv c [] (Il d8 b B) H5 s6->A8 f s6) (λ_ _=>False) s4)(d0:(d==("__debug__":Str))=false:=by decide):
  wpAny (model c.prog c.w) c.A (noteFrame (.ref h) c.env) (λ_ Q=>wpAny (model c.prog c.w) c.A (setFlight (.ref h) none) (λ_ R=>wpAny (model c.prog c.w) c.A (handleBy (.ref h) c.env [.ExceptHandler (some (.Name d l)) d8 (Δ::G2) C]) A8 U R) U Q) U i7:=by
 have I':=I.call' (r:=[]) k.os k.un k.hok k.bare (by simp)
 obtain⟨y,vs,g1,g2,g3,g4,g5⟩:=k.obj;have S:=I'.ok.frames;rw[E]at S;have hl:=I'.stack;rw[E]at hl;have H:∀i a,o.heap.get? i=some a->i≠h:=λi a q z=>by rw[z]at q;exact absurd (Nat.lt_of_lt_of_le (Heap.lt_size q) k.new) (Nat.lt_irrefl _)
 have s:h≠c.env.locals:=λz=>by
  obtain⟨m,⟨a,_,_,ho,_⟩,_⟩:=I.loc;exact H _ _ ho z.symm
 have V:h∉c.fs:=λz=>by
  obtain⟨_,a,ho,_⟩:=I.ok.fq.mem z;exact absurd (Nat.lt_of_lt_of_le (Heap.lt_size ho) (Nat.le_trans I.sz k.new)) (Nat.lt_irrefl _)
 refine xu S hl a0 g1 g4 g5 λh' T F=>?_
 have J:=I'.flown (by rw[E];exact F) (⟨.inr (Nat.le_trans I.sz k.new),λx L q=>by
  obtain⟨v,a,q1,_⟩:=I.cell x L q;exact H _ _ q1,λp l=>by
  obtain⟨q1,_⟩:=I.pin p (by simp[l])
  exact H _ _ q1⟩) s k.free
 have t:=F.at_;obtain⟨oT,ts,t1,t2,t3⟩:=F.tb;have M:(y.mapFields (·.setIfInBounds 1 (.ref T))).cls=.ref G:=by rw[Obj.cls_mapFields];exact g2
 have g:=Obj.data_mapFields g4 (·.setIfInBounds 1 (Value.ref T))
 have X:(y.mapFields (·.setIfInBounds 1 (.ref T))).dict=some Ξ:=by
  obtain⟨oc,od,dt,sl⟩:=y;cases dt<;>exact g3
 have Y:1<vs.size:=by
  rcases g5 with z|⟨_,_,_,z,_⟩<;>exact(Array.getElem?_eq_some_iff.mp z).1
 generalize (y.mapFields _)=D at *;have O:PySem.W.notCls D=true:=by unfold PySem.W.notCls;rw[g]
 obtain⟨mA,nA,_⟩:=J.hok Ξ _ b0;obtain⟨od,gd,_⟩:=eU nA;have e0:PySem.W.InstAt h' h D G (some od):=⟨t,M,O,by grind⟩
 refine wpAny_handleBy_cons (codeAny_handlers_test ?_) (by intro q;cases q)
 refine d9 J.rb hg hm ?_ d0;refine(PySem.W.exm_one (K:=c.K) J.d5 e0.type c0).here ?_;cases d8 with
 |none=>
  refine codeAny_handlers_suite ?_;refine fW t g (by simp[Y]) t1 t2 t3 ?_
  exact wpAny_mono (j D _ M X O (J.rb.w_ t k.free s V (λv=>by rw[g];simp))) (λf s5 ⟨B,H5,J5,q5⟩=>q5 _ (J5.Ij I.ok)) (λ_ _ z=>z.elim)
 |some n=>
 have Z:=Z n rfl;have P:=P n rfl;refine codeAny_handlers_suite_as ?_;refine fW t g (by simp[Y]) t1 t2 t3 ?_
 refine kE (c:=c.rb h) (J.rb.w_ t k.free s V (λv=>by rw[g];simp)) hN Z (.inl P) (u:=.ref h) rfl (λs4 J4=>?_) (.inr P)
 refine wpAny_mono (j D s4 M X O J4) (λf s5 ⟨B,H5,J5,q5⟩=>?_) (λ_ _ z=>z.elim)
 obtain⟨m,f0,g0⟩:=J5.loc;exact wpAny_nameGoes_keeps P f0 (by rw[I.ok.kind];rfl) λh6 v6 n6 h0=>q5 _ (J5.gone I.ok hN Z g0 n6 h0)
noncomputable def Im(C:Addr)(W:Addr->List (Str×V)->Hp->Prop):XK:=λa e b=>a=.ref C/\∃d c,e=some d/\b d=some (.xd c)/\W d c b
noncomputable def Cx.rN(X:Cx)(a:List (Addr×Obj)):Cx:={X with pn:=X.pn++a}
theorem Inv.rN{X:Cx}{pins:List (Addr×Obj)}{a:St}{H:Hp}{s:Shared}(I:Inv X pins a H s):Inv (X.rN pins) [] a H s:=
 ⟨⟨I.ok.mod,I.ok.kind,I.ok.glob,I.ok.blt,I.ok.above,I.ok.inj,I.ok.has,I.ok.cab,I.ok.hd,I.ok.frames,I.ok.zX,I.ok.Ab,I.ok.bs,I.ok.rg,I.ok.lR,I.ok.lS,I.ok.fq,I.ok.uB⟩,
  I.os,I.bare,I.base,I.loc,I.cell,I.free,I.cI,λp b=>I.pin p (by simpa[Cx.rN]using b),I.hok,I.len⟩
theorem Inv.mM(I:Inv (c.rN v) [] N e o):Inv c v N e o:=
 ⟨⟨I.ok.mod,I.ok.kind,I.ok.glob,I.ok.blt,I.ok.above,I.ok.inj,I.ok.has,I.ok.cab,I.ok.hd,I.ok.frames,I.ok.zX,I.ok.Ab,I.ok.bs,I.ok.rg,I.ok.lR,I.ok.lS,I.ok.fq,I.ok.uB⟩,
  I.os,I.bare,I.base,I.loc,I.cell,I.free,I.cI,λp a=>I.pin p (by simpa[Cx.rN]using a),I.hok,I.len⟩
def kg(X:Cx)(b:St)(E:XK):Prop:=∀(pins:List (Addr×Obj)) (H:Hp) (s:Shared) (e:Value) (a:Shared),Inv X pins b H s->pR X.prog X.w X.stack H s E e a->X.xe e a
variable{A7:List Stmt}{B8:Ends}
theorem Io{W:Addr->List (Str×V)->Hp->Prop}(I:Inv c v N e o)(D:c.stack=c.env::c.outer)(E:c.env.frame=some c.env.locals)(X:Gl c d)(F:c.mg d=some (.ref G))(H:PySem.W.exmOne c.K (.ref h) (.ref G)=some true)(Y:c.N.Nodup)(Z:∀n,d8=some n->c.N[b]?=some n)(hn:∀n,d8=some n->c.env.scope.names.lookup n=some .local)(p:∀L:Value->Shared->Prop,kg ((c.rN v).wish L) N (Im h W)->wpAny (model c.prog c.w) c.A (execs G2 c.env) (SP ((c.rN v).wish L) [] B8) L o)(m:∀a g y s j B,j g=some (.xd y)->W g y j->s.cls=.ref h->s.dict=some g->PySem.W.notCls s=true->Inv (((c.rN v).rb a).xy a s) [] (if d8.isSome then N.set b (some (.ref a))else N) j B ->
   wpAny (model c.prog c.w) (c.A.mark (some (.ref a))) (execs (Δ::A7) c.env) (SP (((c.rN v).rb a).xy a s) [] {nx:=λk j=>B8.nx (Il d8 b k) j,rt:=B8.rt}) (λ_ _=>False) B)(M:(d==("__debug__":Str))=false):
  wpAny (model c.prog c.w) c.A (exec (.Try G2 [.ExceptHandler (some (.Name d l)) d8 (Δ::A7) C] [] [] D1) c.env) (SP c v B8) c.xe o:=by
 refine wpAny_Try_except (wpAny_mono (p _ ?_) (λf U z=>?_) (λa U z=>z))
 .intro O H1 U x s2 J hT
  obtain⟨a,C',g,H2,rfl,Th,hE⟩:=hT;obtain⟨e1,d',y,e2,t,hW⟩:=hE;cases e1;cases e2;refine xG (c:=c.rN _) J.dA.xq Th D E t X F H Y Z hn (λs B c1 c2 c3 J4=>?_) M
  refine wpAny_mono (m a g y s H2 B t hW c1 c2 c3 J4.xy) (λf s5 z=>?_) (λ_ _ z=>z.elim)
  cases f with
  |next=>
   obtain⟨P,Q,R,S⟩:=z;exact⟨_,Q,R.DQ,λs6 T=>⟨_,_,T.mM,S⟩⟩
  |ret u=>
   obtain⟨i,P,Q,R,rv,S⟩:=z;exact⟨_,Q,R.DQ,λs6 T=>⟨i,_,_,T.mM,rv,S⟩⟩
  |brk=>obtain⟨_,_,_,z⟩:=z;exact z.elim
  |cont=>obtain⟨_,_,_,z⟩:=z;exact z.elim
 .cases f with
  |next=>
   obtain⟨k,j,J,q⟩:=z;exact wpAny_execs_nil ⟨_,j,J.dA.mM,q⟩
  |ret u=>
   obtain⟨i,k,j,J,r,q⟩:=z;exact⟨i,_,j,J.dA.mM,r,q⟩
  |brk=>obtain⟨k,j,J,q⟩:=z;exact⟨_,j,J.dA.mM,q⟩
  |cont=>obtain⟨k,j,J,q⟩:=z;exact⟨_,j,J.dA.mM,q⟩
theorem AL{fP:Option Addr->List (Str×V)->Hp->Prop}(D:mL c.K c.mg h G Ξ v0 ς Δ d T g G6)(j:Inv c v N e o)(hr:bA (b+2) c.A)(rv:Vals I ψ)(s:I.length=g.length)(a0:∀l J,¬ fP none l J)(L:∀(A:Around) (m:Shared) (a:Addr) (E:XK),bA b (A.deeper (envOfC d (aj Δ) m.heap.objs.size Ξ (.ref v0)))->e a=none->∃M:List TE,M.length=G6.length/\(∀p∈G6.zip M,PE ((cO eB c.prog c.w c.K c.mg c.base (T::g) d (aj Δ) Ξ (.ref v0) A c.stack m e E).jP.mk1 a) p.1.ve p.2) /\
   kN a m.heap.objs.size ((G6.zip M).map λr=>(r.1.fld,r.2)) none [] (start (T::g) (.ref a::I)) e λod l J=>l.map (·.1)=G6.map (·.fld)/\fP od l J)(u:∀a B l t y m,fP (some B) l y->Inv c v N y m->m.heap.get? a=some (bB h (some B) t)->o.heap.objs.size<=a->y a=none->y B=some (.xd l)->U (.ref a) m):
  wpAny (model c.prog c.w) c.A (call (.ref h) ψ) U c.xe o:=by
 obtain⟨nm,q,bs,bm,sn,b0,ab,c0,d0,k0,k1,k2,k3,k5,hC,ot⟩:=D.cls.ex;obtain⟨mN,hn,O⟩:=D.cls.ns _ j.d5;have C:∀f i,o.heap.get? f=some i->(gv _ h ψ).get? f=some i:=λf i a=>Heap.get?_push_of_some _ (Heap.get?_push_of_some _ a)
 have I2:=j.kept (t':=o.toks) C;have H:=j.hok.fresh (Nat.le_succ _);have k:∀f i,o.heap.get? f=some i->f≠o.heap.objs.size+1:=λf i q=>Nat.ne_of_lt (Nat.lt_succ_of_lt (Heap.lt_size q))
 have P:=rv.length.symm.trans s;refine wpAny_call ?_;refine wX PySem.F.excBase_ValueError (ot _ j.d5) (j.d5 _ _ hC) hn O (λself=>PySem.W.bind_fn j.d5 _ D.cls.fn) (by have:=D.pl;rw[sizeLine_eq];omega) ?_
 refine EZ D (λE=>L _ _ _ E ((hr.make h ψ []).deeper _) H) (hr.make h ψ []) (I2.env0.make h ψ []) (by have:=D.bs _ (.ref (o.heap.objs.size+1)::ψ) I2.d5 (by simp[P]);simp_all) s rv (by
  show(gv _ h ψ).get? _=some ({cls:=.ref h,data:=.fields _})
  heap_get) ?_ H (λz=>by
  obtain⟨_,i,Q,_⟩:=j.stack.mem z;exact k _ _ Q rfl) (λod l y t' m q2 R Q S x X g1 g2=>?_)
 .exact Nat.le_trans (Nat.le_trans j.ok.rg j.sz) (Nat.le_succ _)
 .rcases R with ⟨rfl,rfl⟩|⟨B,rfl,Y,e0⟩
  .simp_all
  .exact u _ B l t' y m q2 (j.call' (r:=[]) Q ⟨λf i a n Z _=>x.keep f i (C f i a) n Z (by simpa using k f i a),λf i a n Z _=>x.slot f i (C f i a) n Z (by simpa using k f i a),λf i a n _=>x.free f i (C f i a) n (by simpa using k f i a),λf i a _=>x.there f i (C f i a) (by simpa using k f i a),x.tups,x.eD,x.fo⟩ X S (by simp)) g1 (Nat.le_succ _) g2 Y
noncomputable def AN(f:TA)(Arg:List V->Hp->Prop)(fP:List V->Hp->Option Addr->List (Str×V)->Hp->Prop)(n:Nat)(C:Addr)(E:XK):TS:=λ_ g H=>f g H λa d=>a.length=n/\Arg a d/\∀e b c,fP a d (some c) e b->b c=some (.xd e)->E (.ref C) (some c) b
variable{B5 v3:Str}{z7:List V->Hp->Prop}{π:Scope}
theorem u9{fP:List V->Hp->Option Addr->List (Str×V)->Hp->Prop}(D:mL x θ G Ξ v0 j3 ς Δ T v3 Y G6)(hr:bA (b+2) (O.deeper (envOfC d π o.heap.objs.size h H)))(hg:Gl (cO (pR z A) z A x θ w g d π h H O F4 o e G1) B5)(hm:θ B5=some (.ref G))(u:PA (cO (pR z A) z A x θ w g d π h H O F4 o e G1) (j::E) Q1)(K:∀f c B L,¬ fP f c none B L)(M:∀f c,z7 f c->∀(F:Around) (N:List Env) (n:Shared) (a:Addr) (P:XK),bA b (F.deeper (envOfC T (aj Δ) n.heap.objs.size v0 (.ref j3)))->c a=none->∃Q:List TE,Q.length=G6.length/\(∀p∈G6.zip Q,PE ((cO eB z A x θ w (v3::Y) T (aj Δ) v0 (.ref j3) F N n c P).jP.mk1 a) p.1.ve p.2) /\
   kN a n.heap.objs.size ((G6.zip Q).map λr=>(r.1.fld,r.2)) none [] (start (v3::Y) (.ref a::f)) c λod B L=>B.map (·.1)=G6.map (·.fld)/\fP f c od B L)(R:starEach (j::E) (envOfC d π o.heap.objs.size h H)=(false,eval j (envOfC d π o.heap.objs.size h H))::starEach E (envOfC d π o.heap.objs.size h H))(S:(backTo C (starEach E (envOfC d π o.heap.objs.size h H))).any (·.1)=false)(U:(B5==("__debug__":Str))=false):
  PS (cO (pR z A) z A x θ w g d π h H O F4 o e G1) (.Raise (some (.Call (.Name B5 l) (j::E) [] C)) none D1) (AN Q1 z7 fP Y.length G G1):=by
 intro pins s σ i Dn I k;obtain⟨nm,q,bs,bm,sn,X,ab,Z,a0,k0,k1,k2,k3,k5,hC,N⟩:=D.cls.ex;refine uX (h:=G) (d:=nm) (T:=q) (G:=Ξ) (ψ:=bs) (y:=true) (g:=sn) (d6:=X) (C1:=ab) (Y5:=Z) (D3:=a0) (T3:=k0) (P5:=k1) (Q5:=k2) (S5:=k3) (T5:=k5) (U1:="ValueError.__new__") ((N _ I.d5).hasType (by rfl)) (I.ok.hd rfl) ?_
 refine wpAny_Call_Name_kw (d9 I hg hm ?_ U);refine PySem.W.callWith_K I.ok.mod.Aa D.cls.kp (bD (u _ _ s σ i _ I k) λus s1 ⟨f,c,I1,r1,hl,ha,hq⟩=>⟨I1.d5,?_⟩) R S
 refine AL D I1 hr r1 hl (K f c) (λF n a P b0 he=>M f c ha F _ n a P b0 he) λa dd B t H2 n q2 J g1 g2 g3 g4=>⟨a,_,t,rfl,J.d5 _ _ hC,g1,xv J rfl rfl rfl g1 (Nat.le_trans I1.sz g2) g3 λc0 m=>⟨a,G,dd,_,rfl,m,by grind⟩⟩
theorem xH{pl:Sem Bool}(P:PE c j ν)(f:ke c.K h)(D:Meth c.K h d G)(F:bx c.prog c.w c.K c.mg c.base (pR c.prog c.w) b G ς g D2)(R:bA b c.A)(S:Binds c.K ς g [])(T:kg c N G1)(U:PA c (M::E) Q1)(p:starEach (M::E) c.env=(false,eval M c.env)::starEach E c.env)(t:(backTo C (starEach E c.env)).any (·.1)=false)(X:eval (.Call (.Attribute j d l) (M::E) [] C) c.env=(do
   let J ←eval j c.env
   standAt l.atName
   let (G,first) ←holding [J] (getMethod J d pl)
   callWith C G first (backTo C (starEach (M::E) c.env)) (backToKw C (keywordEach [] c.env)))):
  PE c (.Call (.Attribute j d l) (M::E) [] C) (λi H Q=>i=N/\ν i H λx n=>∃a L y,x=.ref a/\n a=some (.ins h L y)/\y.lookup d=none/\Q1 i n λz o=>D2 (x::z) o Q G1):=by
 intro pins s i H Q I e;obtain⟨rfl,e⟩:=e;refine PySem.W.methodCall_KW (bD (P _ s i H _ I e) λu Y ⟨x,n,I1,rx,a,L,y,ex,ea,Ip,q⟩=>?_) X
 subst ex;obtain rfl:u=Value.ref a:=rx;refine fu I1 ea f D Ip ?_;refine PySem.W.callWith_K I.ok.mod.Aa D.kp (bD (U _ _ Y i n _ I1 q) λus B ⟨z,o,I2,r,q2⟩=>⟨I2.d5,?_⟩) p t
 have O:Vals (V.ref a::z) _:=.cons rfl r;have k:=S B _ I2.d5 (by rw[List.append_nil];exact(by rw[←O.length];exact F.len _ _ _ _ q2))
 rw[List.append_nil]at k;refine wpAny_call (codeAny_mono (F.run _ _ B o ⟨_,[]⟩ _ _ Q G1 R I2.env0 k O q2) λr Z m=>?_)
 cases r with
 |error M=>exact T _ o B M Z I2 m
 |ok fl=>
  cases fl with
  |ret u=>exact I2.after m
  |next=>exact False.elim m
  |brk=>exact False.elim m
  |cont=>exact False.elim m
noncomputable def xI(e:DictEntry):Bool:=match e.key with
 |.str _ _=>true
 |_=>false
def KH(K:PySem.W.Frag)(N:Addr)(b:Str):Option (Option Value):=match K.lookup N with
 |some ⟨_,_,.dict a _,_⟩=>if a.toList.all xI=true then some (nsFind a b)else none
 |_=>none
theorem DS(a:KH x h d=some T3)(f:Heap)(X:x.In f):∃mN,f.Ns h mN/\mN d=T3:=by
 unfold KH at a;split at a
 .rename_i c b g n k i
  split at a
  .rename_i j
   cases a;refine⟨_,⟨_,g,n,X _ _ i,rfl,λe l=>?_,λ_=>rfl⟩,rfl⟩
   have:=List.all_eq_true.mp j e (by grind)
   unfold xI at this
   grind
  .cases a
 .cases a
def pS(K:PySem.W.Frag):List Value->Bool
 |.ref A::tl=>(match K.lookup A with
  |some ⟨_,_,.cls a,_⟩=>KH K a.ns "__init__"==some none
  |_=>false)&&pS K tl
 |l=>l==oh
theorem tf{K:PySem.W.Frag}:∀{l:List Value},pS K l=true->∀h:Heap,K.In h->OwnTail h oh l
 |[],e,h,X=>by simp[pS]at e
 |a::r,e,h,X=>by
  cases a with
  |ref A=>
   simp only[pS,Bool.and_eq_true]at e;obtain⟨b,f⟩:=e;split at b
   .rename_i c d k m g
    obtain⟨mN,i,j⟩:=DS (eq_of_beq b) h X;exact .own (X _ _ g) i j (tf f h X)
   .cases b
  |_=>rw[eq_of_beq (e)];exact .base
end L2
namespace Mir
open PySem
inductive D where
 |non|bl (b:Bool)|int (i:Int)|str (x:Str)
 |lst (xs:List D)|tup (xs:List D)|dct (ks:List L2.Key) (vs:List D)|ref (n:Nat)
 deriving Inhabited
inductive Out (α:Type) where
 |ok (a:α)|exc (c:Str) (fs:List (Str×D))|bad
noncomputable def Out.bind{b d:Type}:Out b->(b->Out d)->Out d
 |.ok a,f=>f a
 |.exc c fs,_=>.exc c fs
 |.bad,_=>.bad
instance:Monad Out where
 pure:=.ok
 bind:=Out.bind
variable{M7 W2:Type}
@[simp] theorem KI(a:W2)(f:W2->Out M7):(Out.ok a >>= f)=f a:=rfl
@[simp] theorem Iq(f:W2->Out M7):((Out.bad:Out W2) >>= f)=.bad:=rfl
@[simp] theorem Ir(c fs)(f:W2->Out M7):((Out.exc c fs:Out W2) >>= f)=.exc c fs:=rfl
@[simp] theorem KJ(a:W2):(pure a:Out W2)=.ok a:=rfl
mutual
noncomputable def eE:D->D->Bool
 |.non,.non=>true
 |.bl a,.bl b=>a==b
 |.bl a,.int j=>(if a then 1 else 0)==j
 |.int i,.bl b=>i==(if b then 1 else 0)
 |.int i,.int j=>i==j
 |.str x,.str y=>x==y
 |.lst c,.lst d=>eF c d
 |.tup c,.tup d=>eF c d
 |_,_=>false
noncomputable def eF:List D->List D->Bool
 |[],[]=>true
 |x::a,y::b=>eE x y&&eF a b
 |_,_=>false
end
noncomputable def aO:Nat->D->Bool
 |_,.non|_,.bl _|_,.int _|_,.str _=>true
 |n+1,.lst a|n+1,.tup a=>a.all (aO n)
 |_,_=>false
noncomputable def small(n:Nat):Bool:=decide (n<=sizeLine)
def jT:D->Option Bool
 |.non=>some false
 |.bl b=>some b
 |.int i=>some (i != 0)
 |.str x=>if small x.length then some (x.length != 0)else none
 |.lst a=>some (!a.isEmpty)
 |.tup a=>some (!a.isEmpty)
 |_=>none
abbrev Rs:=Bool×D
noncomputable def kP(i:Int):Bool:=decide (i.natAbs<18446744073709551616)
variable{P:Int}
theorem pT(h:kP P=true): -(2 ^ 64)<P/\P<2 ^ 64:=by
 have:=of_decide_eq_true h;omega
def fQ(a:Operator)(x y:D):Out Rs:=
 match a,x,y with
 |.Add,.int i,.int j=>.ok (false,.int (i+j))
 |.Sub,.int i,.int j=>.ok (false,.int (i - j))
 |.Mult,.int i,.int j=>if kP i||kP j then .ok (false,.int (i*j))else .bad
 |.FloorDiv,.int i,.int j=>if decide (0<j)&&decide (j<1073741824)then .ok (false,.int (i / j))else .bad
 |.Mod,.int i,.int j=>if decide (0<j)then .ok (false,.int (i%j))else .bad
 |.Pow,.int i,.int j=>if decide (0<=j)&&decide (j<=1000)&&decide (i.natAbs<2 ^ 64)then .ok (false,.int (i ^ j.toNat))else .bad
 |.Add,.str i,.str j=>if small (i.length+j.length)then .ok (false,.str (i++j))else .bad
 |.Add,.lst i,.lst j=>if small (i.length+j.length)then .ok (true,.lst (i++j))else .bad
 |_,_,_=>.bad
noncomputable def th(x y:Str):Bool := !(Builtin.Str.occurrences y x 0 y.length 1).isEmpty
def inD(x y:D):Out Bool:=
 match x,y with
 |x,.lst a=>if aO 8 x&&a.all (aO 8)then .ok (a.any λy=>eE y x)else .bad
 |x,.tup a=>if aO 8 x&&a.all (aO 8)then .ok (a.any λy=>eE y x)else .bad
 |.str x,.str y=>.ok (th x y)
 |_,_=>.bad
noncomputable def isD(x y:D):Out Bool:=
 match x,y with
 |.non,.non=>.ok true
 |_,.non=>.ok false
 |.bl a,.bl b=>.ok (a==b)
 |.non,.bl _=>.ok false
 |.int _,.bl _=>.ok false
 |.str _,.bl _=>.ok false
 |.lst _,.bl _=>.ok false
 |.tup _,.bl _=>.ok false
 |_,_=>.bad
def d_(a:CmpOp)(x y:D):Out Bool:=
 match a,x,y with
 |.Eq,x,y=>if aO 8 x&&aO 8 y then .ok (eE x y)else .bad
 |.NotEq,x,y=>if aO 8 x&&aO 8 y then .ok (!eE x y)else .bad
 |.Lt,.int i,.int j=>.ok (decide (i<j))
 |.LtE,.int i,.int j=>.ok (decide (i<=j))
 |.Gt,.int i,.int j=>.ok (decide (j<i))
 |.GtE,.int i,.int j=>.ok (decide (j<=i))
 |.In,x,y=>inD x y
 |.NotIn,x,y=>do let b ←inD x y;.ok (!b)
 |.Is,x,y=>isD x y
 |.IsNot,x,y=>do let b ←isD x y;.ok (!b)
 |_,_,_=>.bad
noncomputable def bz(c:Nat):Str:=⟨#[c]⟩
def rO(x y:D):Out Rs:=
 match x,y with
 |.lst a,.int i=>match L2.kf a i with|some d=>.ok (false,d)|none=>.bad
 |.tup a,.int i=>match L2.kf a i with|some d=>.ok (false,d)|none=>.bad
 |.str z,.int i=>if small z.length then (match L2.kf z.cps.toList i with|some c=>.ok (false,.str (bz c))|none=>.bad)else .bad
 |_,_=>.bad
def dk{a:Type}(xs:List a)(b c:Option Int):List a:=(xs.drop (HT.ji xs.length 0 b)).take (HT.ji xs.length xs.length c - HT.ji xs.length 0 b)
def xJ(x:D)(a b:Option Int):Out Rs:=
 match x with
 |.lst c=>.ok (true,.lst (dk c a b))
 |.str z=>if small z.length then .ok (false,.str ⟨(dk z.cps.toList a b).toArray⟩)else .bad
 |_=>.bad
noncomputable def intsFrom(a:Int):Nat->List D
 |0=>[]
 |n+1=>.int a::intsFrom (a+1) n
noncomputable def l9(i:Int):Bool:=decide (i.natAbs<4611686018427387904)
theorem pU(h:l9 P=true): -(2 ^ 62)<=P/\P<2 ^ 62:=by
 have:=of_decide_eq_true h;omega
noncomputable def dq(i:Nat):List D->List D
 |[]=>[]
 |d::a=>.tup [.int i,d]::dq (i+1) a
inductive l_ where
 |len|all|any|sorted|list|tuple|int|min|max|bool
 deriving DecidableEq
def eV:List D->Option (List Bool)
 |[]=>some []
 |d::r=>match jT d,eV r with|some b,some bs=>some (b::bs)|_,_=>none
noncomputable def DT:List D->Option (List Int)
 |[]=>some []
 |.int i::r=>(DT r).map (i :: ·)
 |_=>none
noncomputable def iC:List D->Option (List Str)
 |[]=>some []
 |.str i::r=>(iC r).map (i :: ·)
 |_=>none
noncomputable def Iu(a b:Str):Bool := !decide (b.cps.toList<a.cps.toList)
def AO(c:List D):Out (List D):=
 if 64<=c.length then .bad else
 match DT c with
 |some d=>.ok ((d.mergeSort λa b=>decide (a<=b)).map .int)
 |none=>match iC c with
  |some e=>.ok ((e.mergeSort Iu).map .str)
  |none=>.bad
def hG(f:l_)(a:D):Out Rs:=
 match f,a with
 |.len,.tup [.lst b]=>.ok (false,.int b.length)
 |.len,.tup [.tup b]=>.ok (false,.int b.length)
 |.len,.tup [.str z]=>if small z.length then .ok (false,.int z.length)else .bad
 |.all,.tup [.lst b]=>match eV b with|some bs=>.ok (false,.bl (bs.all id))|none=>.bad
 |.any,.tup [.lst b]=>match eV b with|some bs=>.ok (false,.bl (bs.any id))|none=>.bad
 |.sorted,.tup [.lst b]=>do let c ←AO b;.ok (true,.lst c)
 |.list,.tup [.lst b]=>.ok (true,.lst b)
 |.list,.tup [.tup b]=>.ok (true,.lst b)
 |.tuple,.tup [.lst b]=>.ok (false,.tup b)
 |.tuple,.tup [.tup b]=>.ok (false,.tup b)
 |.int,.tup [.int i]=>.ok (false,.int i)
 |.int,.tup [.bl k]=>.ok (false,.int (if k then 1 else 0))
 |.min,.tup [.int i,.int j]=>.ok (false,.int (if j<i then j else i))
 |.max,.tup [.int i,.int j]=>.ok (false,.int (if j>i then j else i))
 |_,_=>.bad
inductive RI where
 |index|join
 deriving DecidableEq
def E9(m:RI)(x:D)(a:D):Out Rs:=
 match m,x,a with
 |.index,.lst b,.tup [d]=>if aO 8 d&&b.all (aO 8)then (match b.findIdx? λy=>eE y d with|some j=>.ok (false,.int j)|none=>.bad)else .bad
 |.index,.str z,.tup [.str y]=>match Builtin.Str.occurrences z y 0 z.length 1 with|i::_=>.ok (false,.int i)|[]=>.bad
 |.join,.str z,.tup [.lst c]=>match iC c with|some b=>if decide (z.length<=16)&&decide ((b.map (·.length)).sum+b.length<=1048576)then .ok (false,.str (Txt.join z b))else .bad|none=>.bad
 |_,_,_=>.bad
inductive Ty where
 |int|str|bool|list|tuple|dict
 deriving DecidableEq
noncomputable def xM:D->Ty->Option Bool
 |.non,_=>some false
 |.bl _,t=>some (t==.bool||t==.int)
 |.int _,t=>some (t==.int)
 |.str _,t=>some (t==.str)
 |.lst _,t=>some (t==.list)
 |.tup _,t=>some (t==.tuple)
 |.dct _ _,t=>some (t==.dict)
 |.ref _,_=>none
noncomputable def fJ:D->Bool
 |.non|.bl _|.int _|.str _=>true
 |_=>false
noncomputable def fuel:Nat:=100000
def om{a:Type}(xs:List a)(i:Int)(x:a):List a:=let k:=HT.ji xs.length 0 (some i);xs.take k++x::xs.drop k
open PySem.Spec PyProof.Rows L2
mutual
noncomputable def Rep(Z:Addr->Prop)(H:Hp):D->V->Prop
 |.non,v=>v=.non
 |.bl b,v=>v=.bl b
 |.int i,v=>v=.int i
 |.str x,v=>v=.str x
 |.lst d,v=>∃a c,v=.ref a/\Z a/\Rd H a (.lst c)/\ba Z H d c
 |.tup d,v=>∃a c,v=.ref a/\Z a/\Rd H a (.tup c)/\ba Z H d c
 |.dct e d,v=>∃a c,v=.ref a/\Z a/\H a=some (.dK (e.zip c))/\ba Z H d c
 |.ref _,_=>False
noncomputable def ba(Z:Addr->Prop)(H:Hp):List D->List V->Prop
 |[],a=>a=[]
 |d::b,a=>∃v r,a=v::r/\Rep Z H d v/\ba Z H b r
end
variable{e ο:Hp}{h:Addr}{o0:HO}
theorem oo(k:∀o,e h=some o->ο h=some o)(a:Rd e h o0):Rd ο h o0:=by
 rcases a with a|⟨o,a⟩
 .exact .inl (k _ a)
 .exact .inr ⟨o,k _ a⟩
mutual
theorem Rep.mono{Z i:Addr->Prop}{H j:Hp}(k:∀a o,Z a->H a=some o->j a=some o)(z:∀a,Z a->i a):∀{d:D}{v:V},Rep Z H d v->Rep i j d v
 |.non,_,h=>by simpa only [Rep]using h
 |.bl _,_,h=>by simpa only [Rep]using h
 |.int _,_,h=>by simpa only [Rep]using h
 |.str _,_,h=>by simpa only [Rep]using h
 |.lst l,v,h=>by
  simp only[Rep]at h ⊢;obtain⟨a,c,e,b,f,g⟩:=h;exact⟨a,c,e,z a b,oo (λo=>k a o b) f,ba.mono k z g⟩
 |.tup l,v,h=>by
  simp only[Rep]at h ⊢;obtain⟨a,c,e,b,f,g⟩:=h;exact⟨a,c,e,z a b,oo (λo=>k a o b) f,ba.mono k z g⟩
 |.dct m l,v,h=>by
  simp only[Rep]at h ⊢;obtain⟨a,c,e,b,f,g⟩:=h;exact⟨a,c,e,z a b,k a _ b f,ba.mono k z g⟩
 |.ref _,_,h=>by simp only[Rep]at h
theorem ba.mono{Z f:Addr->Prop}{H g:Hp}(k:∀a o,Z a->H a=some o->g a=some o)(z:∀a,Z a->f a):∀{b:List D}{c:List V},ba Z H b c->ba f g b c
 |[],_,h=>by simpa only [ba]using h
 |d::b,c,h=>by
  simp only[ba]at h ⊢;obtain⟨v,r,e,i,j⟩:=h;exact⟨v,r,e,Rep.mono k z i,ba.mono k z j⟩
end
theorem ba.length{Z:Addr->Prop}{H:Hp}:∀{a:List D}{b:List V},ba Z H a b->b.length=a.length
 |[],_,h=>by rw[h];rfl
 |d::a,_,h=>by
  obtain⟨v,r,e,_,c⟩:=h;rw[e,List.length_cons,List.length_cons,ba.length c]
theorem ba.get{Z:Addr->Prop}{H:Hp}:∀{a:List D}{b:List V}{i:Nat}{d:D},ba Z H a b->a[i]?=some d->∃v,b[i]?=some v/\Rep Z H d v
 |[],_,_,_,_,e=>by simp at e
 |d::a,_,0,_,h,e=>by
  obtain⟨v,r,rfl,f,_⟩:=h
  simp_all
 |d::a,_,i+1,g,h,e=>by
  obtain⟨v,r,rfl,_,c⟩:=h;obtain⟨u,j,k⟩:=ba.get c (by simpa using e)
  simp_all
theorem ba.append{Z:Addr->Prop}{H:Hp}:∀{a b:List D}{c e:List V},ba Z H a c->ba Z H b e->ba Z H (a++b) (c++e)
 |[],_,_,_,h,h'=>by rwa[h]
 |d::a,_,_,_,h,h'=>by
  obtain⟨v,r,rfl,f,g⟩:=h;exact⟨v,_,rfl,f,ba.append g h'⟩
variable{n:Addr->Prop}
theorem ba.nil:ba n e [] []:=by rfl
theorem ba.cons{Z:Addr->Prop}{H:Hp}{d:D}{b:List D}{v:V}{a:List V}(h:Rep Z H d v)(c:ba Z H b a):ba Z H (d::b) (v::a):=⟨v,a,rfl,h,c⟩
variable{I:List V}
theorem ba.nil_inv(h:ba n e [] I):I=[]:=by simpa only [ba]using h
variable{m:D}{q:List D}
theorem ba.cons_inv(h:ba n e (m::q) I):∃v r,I=v::r/\Rep n e m v/\ba n e q r:=by simpa only [ba]using h
def Now(Z:Addr->Prop)(H:Hp)(d:D)(v:V):Prop:=
 match d with
 |.lst c=>∃a b,v=.ref a/\Rd H a (.lst b)/\ba Z H c b
 |d=>Rep Z H d v
variable{u:V}
theorem Rep.now(h:Rep n e m u):Now n e m u:=by
 cases m with
 |lst d=>
  obtain⟨a,c,b,_,h⟩:=h;exact⟨a,c,b,h⟩
 |_=>exact h
structure eG(Z:Addr->Prop)(H:Hp)(Z':Addr->Prop)(H':Hp):Prop where
 same:iz H H'
 sub:∀a,Z a->Z' a
 new:∀a,Z' a->Z a\/H a=none
 dom:∀a,Z' a->H' a≠none
theorem eG.refl{Z:Addr->Prop}{H:Hp}(d:∀a,Z a->H a≠none):eG Z H Z H:=⟨iz.refl _,λ_ h=>h,λ_ h=>.inl h,d⟩
theorem iz.laid{o:HO}(a:e h=none):iz e (upd e h o):=λb u c=>by rwa[av (aW c a)]
theorem eG.laid{Z:Addr->Prop}{H:Hp}{p:Addr}{o:HO}(d:∀a,Z a->H a≠none)(h:H p=none):eG Z H Z (upd H p o):=
 ⟨iz.laid h,λ_ h=>h,λ_ h=>.inl h,λa b=>by
  rw[av (λe=>d a b (by rwa[e]))]
  exact d a b⟩
def Zp(Z:Addr->Prop)(p:Addr):Addr->Prop:=λa=>Z a\/a=p
def ec(f b:Bool)(Z:Addr->Prop)(g H:Hp)(d:D)(v:V):Prop:=
 if b=true then ∃a c e,d=.lst e/\v=.ref a/\g a=none/\¬ Z a/\H a=some (.lst c)/\ba Z H e c
 else if f=true then Now Z H d v else Rep Z H d v
variable{y:Bool}
theorem ec.own(a:e h=none)(b:¬ n h)(c:ο h=some (.lst I))(d:ba n ο q I):ec y true n e ο (.lst q) (.ref h):=⟨h,I,q,rfl,rfl,a,b,c,d⟩
theorem ec.rep(h:Rep n ο m u):ec y false n e ο m u:=by
 unfold ec;rw[if_neg (by simp)]
 split
 .exact h.now
 .exact h
theorem ec.now(h:ec true y n e ο m u):Now n ο m u:=by
 unfold ec at h;split at h
 .obtain⟨a,b,f,rfl,rfl,_,_,c,d⟩:=h
  exact⟨a,b,rfl,.inl c,d⟩
 simp_all
variable{C2 ν:TE}{c:Cx}{j:Expr}
theorem PE.imp(h:PE c j ν)(i:∀a H Q,C2 a H Q->ν a H Q):PE c j C2:=λpins s a H Q I q=>h _ s a H Q I (i a H Q q)
theorem kQ{d e:Type}{x:Out d}{f:d->Out e}{b:e}(h:(x >>= f)=.ok b):∃a,x=.ok a/\f a=.ok b:=by
 cases x with
 |ok a=>exact⟨a,rfl,h⟩
 |exc c g=>cases h
 |bad=>cases h
variable{b:Nat}
theorem bw(h:small b=true):b<=sizeLine:=of_decide_eq_true h
noncomputable def eW:D->Option V
 |.non=>some .non
 |.bl b=>some (.bl b)
 |.int i=>some (.int i)
 |.str x=>some (.str x)
 |_=>none
theorem fX(h:eW m=some u):Rep n e m u:=by
 cases m<;>simp only[eW]at h<;>first|cases h;simp only[Rep]|cases h
theorem fw(h:Now n e .non u):u=.non:=by simpa only [Now,Rep]using h
theorem bt(h:Now n e (.int P) u):u=.int P:=by simpa only [Now,Rep]using h
theorem hJ(h:Now n e (.bl y) u):u=.bl y:=by simpa only [Now,Rep]using h
variable{d:Str}
theorem cP(h:Now n e (.str d) u):u=.str d:=by simpa only [Now,Rep]using h
theorem cZ(h:Now n e (.lst q) u):∃a b,u=.ref a/\Rd e a (.lst b)/\ba n e q b:=h
theorem fx(h:Now n e (.tup q) u):∃a b,u=.ref a/\n a/\Rd e a (.tup b)/\ba n e q b:=by simpa only [Now,Rep]using h
variable{x:PySem.W.Frag}
theorem mf(a:Rd e h (.lst I)):kF x e h I:=.inl a
theorem vV(a:Rd e h (.tup I)):sQ x e h I:=.inl a
variable{ε:VK}
theorem AQ(b:∀a,n a->e a≠none)(g:ba n e q I)(k:∀v d f,eG n e f d->ec y true f e d (.lst q) v->ε v d):∀p,e p=none->ε (.ref p) (upd e p (.lst I)):=λp c=>
 k _ _ n (eG.laid b c) (.own c (λz=>b p z c) aL (g.mono (λa o _=>iz.laid c a o) λ_ z=>z))
def DU:R2:=λx y H Q=>∃l b a c,x=.ref l/\y=.ref b/\Rd H l (.lst a)/\Rd H b (.lst c)/\a.length+c.length<=sizeLine/\∀p,H p=none->Q (.ref p) (upd H p (.lst (a++c)))
theorem AR:fT c (binaryOp .Add) DU:=by
 intro pins s A H x y v u Q I j k h;obtain⟨l,b,f,g,rfl,rfl,m,o,B,q⟩:=h;cases j;cases k;obtain⟨z,a,n,r,e⟩:f.length<=sizeLine/\∃(a:List _) (n:Nat),Vals f _/\s.heap.get? l=some _:=Rd.ok m I.hok;obtain⟨C,d,D,i,p⟩:g.length<=sizeLine/\∃(a:List _) (n:Nat),Vals g _/\s.heap.get? b=some _:=Rd.ok o I.hok;have E:=r.length;have t:=i.length;refine PySem.P.add_list e p ?_ (by grind)
 have w:a.toArray++d.toArray=(a++d).toArray:=by simp
 rw[w];exact⟨.ref _,_,I.Nq (r.append i) (by grind),rfl,q _ I.fresh⟩
def Iv(a:Operator):R2:=λx y H Q=>match a with
 |.Add=>(∃i j,x=.int i/\y=.int j/\Q (.int (i+j)) H)\/(∃i j,x=.str i/\y=.str j/\i.length+j.length<=sizeLine/\Q (.str (i++j)) H)\/DU x y H Q
 |.Sub=>∃i j,x=.int i/\y=.int j/\Q (.int (i - j)) H
 |.Mult=>∃i j,x=.int i/\y=.int j/\Aj i j/\Q (.int (i*j)) H
 |.FloorDiv=>∃i j,x=.int i/\y=.int j/\HE i j/\Q (.int (i / j)) H
 |.Mod=>∃i j,x=.int i/\y=.int j/\0<j/\Q (.int (i%j)) H
 |.Pow=>∃i j,x=.int i/\y=.int j/\HF i j/\Q (.int (i ^ j.toNat)) H
 |_=>False
theorem xO(a:Operator):fT c (binaryOp a) (Iv a):=by
 cases a with
 |Add=>exact EG.or (rm.or AR)
 |Sub=>exact EH
 |Mult=>exact EI
 |FloorDiv=>exact Ak
 |Mod=>exact EJ
 |Pow=>exact EK
 |_=>exact λ_ _ _ _ _ _ _ _ _ _ _ _ h=>h.elim
variable{B2:V}{C1:Bool}{P6 X:D}{m8:Operator}
theorem E_(f:Now n e m u)(g:Now n e X B2)(i:∀a,n a->e a≠none)(b:fQ m8 m X=.ok (C1,P6))(k:∀v j o,eG n e o j->ec y C1 o e j P6 v->ε v j):Iv m8 u B2 e ε:=by
 have c:∀{p:D}{v:V},eW p=some v->Out.ok (false,p)=Out.ok (C1,P6)->ε v e:=λt q=>by
  cases q;exact k _ e n (eG.refl i) (.rep (fX t))
 unfold fQ at b;split at b
 .cases bt f;cases bt g
  exact .inl ⟨_,_,rfl,rfl,c rfl b⟩
 .cases bt f;cases bt g
  exact⟨_,_,rfl,rfl,c rfl b⟩
 .cases bt f;cases bt g
  split at b
  .rename_i d
   refine⟨_,_,rfl,rfl,?_,c rfl b⟩;simp at d;exact(d.imp pT pT)
  .cases b
 .cases bt f;cases bt g
  split at b
  .rename_i d
   refine⟨_,_,rfl,rfl,?_,c rfl b⟩;simp at d;exact d
  .cases b
 .cases bt f;cases bt g
  split at b
  .exact⟨_,_,rfl,rfl,by grind,c rfl b⟩
  .cases b
 .cases bt f;cases bt g
  split at b
  .rename_i d
   refine⟨_,_,rfl,rfl,?_,c rfl b⟩;simp at d;exact⟨d.1.1,by grind,d.2⟩
  .cases b
 .cases cP f;cases cP g
  split at b
  .rename_i d
   exact .inr (.inl ⟨_,_,rfl,rfl,bw d,c rfl b⟩)
  .cases b
 .obtain⟨l,w,rfl,x,r⟩:=cZ f
  obtain⟨h,z,rfl,A,s⟩:=cZ g;split at b
  .rename_i d
   cases b;exact .inr (.inr ⟨l,h,w,z,rfl,rfl,x,A,by rw[r.length,s.length];exact(bw d),AQ i (r.append s) k⟩)
  .cases b
 .cases b
theorem oq{c:HO}(f:∀o w,o0≠.dj o w)(d:∀o w,c≠.dj o w)(a:Rd e h o0)(b:Rd e h c):o0=c:=by
 rcases a with a|⟨o,a⟩<;>rcases b with b|⟨g,b⟩<;>rw[a]at b<;>injection b with xP
 .exact absurd xP (f _ _)
 .exact absurd xP.symm (d _ _)
 .injection xP
variable{Y3:List V}
theorem rP(a:Rd e h (.lst I))(b:Rd e h (.lst Y3)):I=Y3:=by
 injection (oq (λ_ _ z=>by cases z) (λ_ _ z=>by cases z) a b)
theorem rQ(a:Rd e h (.tup I))(b:Rd e h (.tup Y3)):I=Y3:=by
 injection (oq (λ_ _ z=>by cases z) (λ_ _ z=>by cases z) a b)
theorem ti(a:Rd e h (.lst I))(c:Rd e h (.tup Y3)):False:=by
 have b:=oq (λ_ _ z=>by cases z) (λ_ _ z=>by cases z) a c
 cases b
mutual
theorem Rep.uniq{Z:Addr->Prop}{H:Hp}:∀(n:Nat) (d c:D) (v:V),aO n d=true->aO n c=true->Rep Z H d v->Rep Z H c v->d=c
 |n,.lst k,c,v,o,f,h,h'=>by
  simp only[Rep]at h;obtain⟨a,l,rfl,_,i,m⟩:=h;cases c<;>simp only[Rep]at h'
  case lst ys=>
   obtain⟨b,p,e,_,g,j⟩:=h';cases e;cases rP i g;cases n with
   |zero=>simp[aO]at o
   |succ n=>rw[ba.uniq n k ys l (by simpa[aO]using o) (by simpa[aO]using f) m j]
  case tup ys=>
   obtain⟨b,p,e,_,g,j⟩:=h';cases e;exact(ti i g).elim
  case dct ks ys=>cases n<;>simp[aO]at f
  all_goals cases h'
 |n,.tup k,c,v,o,f,h,h'=>by
  simp only[Rep]at h;obtain⟨a,l,rfl,_,i,m⟩:=h;cases c<;>simp only[Rep]at h'
  case tup ys=>
   obtain⟨b,p,e,_,g,j⟩:=h';cases e;cases rQ i g;cases n with
   |zero=>simp[aO]at o
   |succ n=>rw[ba.uniq n k ys l (by simpa[aO]using o) (by simpa[aO]using f) m j]
  case lst ys=>
   obtain⟨b,p,e,_,g,j⟩:=h';cases e;exact(ti g i).elim
  case dct ks ys=>cases n<;>simp[aO]at f
  all_goals cases h'
 |n,.dct ks k,_,_,o,_,_,_=>by cases n<;>simp[aO]at o
 |n,.ref _,_,_,_,_,h,_=>by simp only[Rep]at h
 |n,.non,c,v,_,f,h,h'=>by
  simp only[Rep]at h;subst h
  cases c<;>simp only[Rep]at h'<;>first|rfl | (obtain⟨_,_,e,_⟩:=h';cases e;done) | (cases h';done)
 |n,.bl b,c,v,_,f,h,h'=>by
  simp only[Rep]at h;subst h
  cases c<;>simp only[Rep]at h'<;>first | (obtain⟨_,_,e,_⟩:=h';cases e;done) | (cases h';rfl) | (cases h';done)
 |n,.int b,c,v,_,f,h,h'=>by
  simp only[Rep]at h;subst h
  cases c<;>simp only[Rep]at h'<;>first | (obtain⟨_,_,e,_⟩:=h';cases e;done) | (cases h';rfl) | (cases h';done)
 |n,.str b,c,v,_,f,h,h'=>by
  simp only[Rep]at h;subst h
  cases c<;>simp only[Rep]at h'<;>first | (obtain⟨_,_,e,_⟩:=h';cases e;done) | (cases h';rfl) | (cases h';done)
theorem ba.uniq{Z:Addr->Prop}{H:Hp}:∀(n:Nat) (xs a:List D) (b:List V),(∀x∈xs,aO n x=true)->(∀x∈a,aO n x=true)->ba Z H xs b->ba Z H a b->xs=a
 |n,[],a,b,_,_,h,h'=>by
  rw[h.nil_inv]at h';cases a with
  |nil=>rfl
  |cons y a=>obtain⟨_,_,e,_⟩:=h'.cons_inv;cases e
 |n,x::xs,a,b,o,d,h,h'=>by
  obtain⟨v,r,rfl,f,g⟩:=h.cons_inv;cases a with
  |nil=>exact absurd h'.nil_inv (by simp)
  |cons y a=>
   obtain⟨w,k,e,i,j⟩:=h'.cons_inv;cases e;rw[Rep.uniq n x y v (o x (by simp)) (d y (by simp)) f i,ba.uniq n xs a r (λz c=>o z (by simp[c])) (λz c=>d z (by simp[c])) g j]
end
mutual
theorem xQ:∀(n:Nat) (d:D),aO n d=true->eE d d=true
 |n,.lst a,o=>by
  cases n with
  |zero=>simp[aO]at o
  |succ n=>simp only[eE];exact eX n a (by simpa[aO]using o)
 |n,.tup a,o=>by
  cases n with
  |zero=>simp[aO]at o
  |succ n=>simp only[eE];exact eX n a (by simpa[aO]using o)
 |n,.dct _ _,o=>by cases n<;>simp[aO]at o
 |n,.ref _,o=>by cases n<;>simp[aO]at o
 |n,.non,_=>by simp[eE]
 |n,.bl _,_=>by simp[eE]
 |n,.int _,_=>by simp[eE]
 |n,.str _,_=>by simp[eE]
theorem eX:∀(n:Nat) (xs:List D),(∀x∈xs,aO n x=true)->eF xs xs=true
 |n,[],_=>by simp[eF]
 |n,x::xs,o=>by
  simp only[eF,xQ n x (o x (by simp)),eX n xs λz hz=>o z (by simp[hz]),Bool.and_self]
end
theorem dD:∀(xs a:List D),((List.range (min xs.length a.length)).all (λj=>eE (xs.getD j .non) (a.getD j .non))&&(xs.length==a.length))=eF xs a
 |[],[]=>by simp[eF]
 |[],_::_=>by simp[eF]
 |_::_,[]=>by simp[eF]
 |x::xs,y::a=>by
  have b:min (x::xs).length (y::a).length=min xs.length a.length+1:=by simp
  rw[b,List.range_succ_eq_map,eF,←(dD xs a)];simp[Function.comp_def,Bool.and_assoc]
variable{j4:List D}
theorem kR(h:q.length=j4.length):(List.range q.length).all (λj=>eE (q.getD j .non) (j4.getD j .non))=eF q j4:=by
 have e:=dD q j4
 simp_all
theorem ou(h:q.length≠j4.length):eF q j4=false:=by
 rw[←dD q j4];simp[h]
inductive Vw (s:Shared) (Z:Addr->Prop) (H:Hp):D->Value->Prop where
 |non:Vw s Z H .non .none
 |bl (b:Bool):Vw s Z H (.bl b) (.bool b)
 |int (i:Int) (t:Tok):Vw s Z H (.int i) (.int i t)
 |str (x:Str) (t:Tok):Vw s Z H (.str x) (.str x t)
 |lst {l:Addr}{its:List Value}{vs:List V}{ds:List D}:s.heap.IsList l its.toArray->Vals vs its->Rd H l (.lst vs)/\ba Z H ds vs->Vw s Z H (.lst ds) (.ref l)
 |tup {l:Addr}{its:List Value}{vs:List V}{ds:List D}:s.heap.IsTuple l its.toArray->Vals vs its->Rd H l (.tup vs)/\ba Z H ds vs->Vw s Z H (.tup ds) (.ref l)
variable{H:Value}{J0:L2.St}{o:Shared}{v:List (Addr×Obj)}
theorem gW(I:Inv c v J0 e o)(g:Now n e m u)(r:RelV u H)(f:aO b m=true):Vw o n e m H:=by
 cases m with
 |non=>cases fw g;cases r;exact .non
 |bl d=>cases hJ g;cases r;exact .bl d
 |int d=>cases bt g;obtain⟨t,rfl⟩:=r;exact .int d t
 |str d=>cases cP g;obtain⟨t,rfl⟩:=r;exact .str d t
 |lst q=>
  obtain⟨a,s,rfl,h,i⟩:=cZ g;cases r;obtain⟨j,l,p,w⟩:=I.list (mf h);exact .lst p.isList l ⟨h,i⟩
 |tup q=>
  obtain⟨a,s,rfl,_,h,i⟩:=fx g;cases r;obtain⟨j,l,p,w⟩:=I.tuple (vV h);exact .tup p l ⟨h,i⟩
 |dct x q=>cases b<;>simp[aO]at f
 |ref k=>cases b<;>simp[aO]at f
variable{ψ:List Value}
theorem ow(r:Vals I ψ)(c:b<ψ.length):∃v,I[b]?=some v/\RelV v ψ[b]:=by
 have d:=r.length;have a:I[b]?=some I[b]:=by simp
 obtain⟨u,e,f⟩:=r.get a
 simp_all
variable{O:Around}{W3:List Value}
theorem eY(a:Inv c v J0 e o)(A:∀(O:Around) (g h:D) (u w:Value),O.units+b<cLine->aO b g=true->aO b h=true->Vw o n e g u->Vw o n e h w->SeqAt.EqAt O o u w (eE g h))(ox:∀x∈q,aO b x=true)(B:∀x∈j4,aO b x=true)(J:O.units+(b+1)<cLine)(p:Vals I ψ)(r:Vals Y3 W3)(pl:ba n e q I)(s:ba n e j4 Y3):
  ∀j (i:j<ψ.toArray.size) (k:j<W3.toArray.size),SeqAt.EqAt O.in1 o ψ.toArray[j] W3.toArray[j] (eE (q.getD j .non) (j4.getD j .non)):=by
 intro j i k;have K:=p.length;have L:=r.length;have M:=pl.length;have N:=s.length;simp at i k;obtain⟨l,C,E⟩:=ow p i;obtain⟨w,F,m⟩:=ow r k;have t:q[j]?=some (q.getD j .non):=by grind
 have y:j4[j]?=some (j4.getD j .non):=by grind
 obtain⟨P,d,G⟩:=pl.get t;obtain⟨Q,f,H⟩:=s.get y;rw[C]at d;cases d
 rw[F]at f;cases f
 have z:=ox _ (List.mem_of_getElem? t);have o2:=B _ (List.mem_of_getElem? y);exact A _ _ _ _ _ (by grind) z o2 (gW a G.now E z) (gW a H.now m o2)
theorem fY(I:Inv c v J0 e o):∀(h:Nat) (A:Around) (K L:D) (u w:Value),A.units+h<cLine->aO h K=true->aO h L=true->Vw o n e K u->Vw o n e L w->SeqAt.EqAt A o u w (eE K L):=by
 intro h
 induction h with
 |zero=>
  intro A K L u w P H M Q s;have j:A.units<cLine:=by omega
  cases Q with
  |non=>
   cases s with
   |non=>exact SeqAt.EqAt.same _
   |bl y=>exact SeqAt.EqAt.none_bool _
   |int z r=>exact SeqAt.EqAt.none_int _ _
   |str B r=>exact SeqAt.EqAt.none_str _ _
   |@lst m a f d g p k=>exact SeqAt.EqAt.none_list g j
   |@tup m a f d g p k=>exact SeqAt.EqAt.none_tuple g j
  |bl b=>
   cases s with
   |non=>exact SeqAt.EqAt.bool_none _
   |bl y=>exact SeqAt.EqAt.bool_bool _ _
   |int z r=>exact SeqAt.EqAt.bool_int _ _ _
   |str B r=>exact SeqAt.EqAt.bool_str _ _ _
   |@lst m a f d g p k=>exact SeqAt.EqAt.bool_list _ g j
   |@tup m a f d g p k=>exact SeqAt.EqAt.bool_tuple _ g j
  |int i t=>
   cases s with
   |non=>exact SeqAt.EqAt.int_none _ _
   |bl y=>exact SeqAt.EqAt.int_bool _ _ _
   |int z r=>exact SeqAt.EqAt.int_int _ _ _ _
   |str B r=>exact SeqAt.EqAt.int_str _ _ _ _
   |@lst m a f d g p k=>exact SeqAt.EqAt.int_list _ _ g j
   |@tup m a f d g p k=>exact SeqAt.EqAt.int_tuple _ _ g j
  |str x t=>
   cases s with
   |non=>exact SeqAt.EqAt.str_none _ _
   |bl y=>exact SeqAt.EqAt.str_bool _ _ _
   |int z r=>exact SeqAt.EqAt.str_int _ _ _ _
   |str B r=>exact SeqAt.EqAt.str_str _ _ _ _
   |@lst m a f d g p k=>exact SeqAt.EqAt.str_list _ _ g j
   |@tup m a f d g p k=>exact SeqAt.EqAt.str_tuple _ _ g j
  |@lst l C N E q J F=>
   cases s with
   |non=>exact SeqAt.EqAt.list_none q j
   |bl y=>exact SeqAt.EqAt.list_bool _ q j
   |int z r=>exact SeqAt.EqAt.list_int _ _ q j
   |str B r=>exact SeqAt.EqAt.list_str _ _ q j
   |@lst m a f d g p k=>
    simp[aO]at H
   |@tup m a f d g p k=>exact SeqAt.EqAt.list_tuple q g j
  |@tup l C N E q J F=>
   cases s with
   |non=>exact SeqAt.EqAt.tuple_none q j
   |bl y=>exact SeqAt.EqAt.tuple_bool _ q j
   |int z r=>exact SeqAt.EqAt.tuple_int _ _ q j
   |str B r=>exact SeqAt.EqAt.tuple_str _ _ q j
   |@lst m a f d g p k=>exact SeqAt.EqAt.tuple_list q g j
   |@tup m a f d g p k=>
    simp[aO]at H
 |succ h T=>
  intro A K L u w P H M Q s;have j:A.units<cLine:=by omega
  cases Q with
  |non=>
   cases s with
   |non=>exact SeqAt.EqAt.same _
   |bl y=>exact SeqAt.EqAt.none_bool _
   |int z r=>exact SeqAt.EqAt.none_int _ _
   |str B r=>exact SeqAt.EqAt.none_str _ _
   |@lst m a f d g p k=>exact SeqAt.EqAt.none_list g j
   |@tup m a f d g p k=>exact SeqAt.EqAt.none_tuple g j
  |bl b=>
   cases s with
   |non=>exact SeqAt.EqAt.bool_none _
   |bl y=>exact SeqAt.EqAt.bool_bool _ _
   |int z r=>exact SeqAt.EqAt.bool_int _ _ _
   |str B r=>exact SeqAt.EqAt.bool_str _ _ _
   |@lst m a f d g p k=>exact SeqAt.EqAt.bool_list _ g j
   |@tup m a f d g p k=>exact SeqAt.EqAt.bool_tuple _ g j
  |int i t=>
   cases s with
   |non=>exact SeqAt.EqAt.int_none _ _
   |bl y=>exact SeqAt.EqAt.int_bool _ _ _
   |int z r=>exact SeqAt.EqAt.int_int _ _ _ _
   |str B r=>exact SeqAt.EqAt.int_str _ _ _ _
   |@lst m a f d g p k=>exact SeqAt.EqAt.int_list _ _ g j
   |@tup m a f d g p k=>exact SeqAt.EqAt.int_tuple _ _ g j
  |str x t=>
   cases s with
   |non=>exact SeqAt.EqAt.str_none _ _
   |bl y=>exact SeqAt.EqAt.str_bool _ _ _
   |int z r=>exact SeqAt.EqAt.str_int _ _ _ _
   |str B r=>exact SeqAt.EqAt.str_str _ _ _ _
   |@lst m a f d g p k=>exact SeqAt.EqAt.str_list _ _ g j
   |@tup m a f d g p k=>exact SeqAt.EqAt.str_tuple _ _ g j
  |@lst l C N E q J F=>
   cases s with
   |non=>exact SeqAt.EqAt.list_none q j
   |bl y=>exact SeqAt.EqAt.list_bool _ q j
   |int z r=>exact SeqAt.EqAt.list_int _ _ q j
   |str B r=>exact SeqAt.EqAt.list_str _ _ q j
   |@lst m a f d g p k=>
    have U:=J.length;have V:=p.length;have X:=F.2.length;have Y:=k.2.length;simp only[eE]
    by_cases G:l=m
    .subst G
     have R:=rP F.1 k.1;subst R;have S:=ba.uniq h E d N (by simpa[aO]using H) (by simpa[aO]using M) F.2 k.2
     subst S;rw[eX h E (by simpa[aO]using H)]
     exact SeqAt.EqAt.same _
    .refine SeqAt.EqAt.of_refs G ?_
     by_cases O:E.length=d.length
     .rw[←kR O]
      have:=SeqAt.RcAt.lists q g (by simp only[List.size_toArray];omega) j (eY I T (by simpa[aO]using H) (by simpa[aO]using M) P J p F.2 k.2)
      rw[show C.toArray.size=E.length by simp only[List.size_toArray];omega]at this
      exact this
     .rw[ou O]
      exact SeqAt.RcAt.lists_lengths q g (by simp only[List.size_toArray,bne_iff_ne];omega) j
   |@tup m a f d g p k=>exact SeqAt.EqAt.list_tuple q g j
  |@tup l C N E q J F=>
   cases s with
   |non=>exact SeqAt.EqAt.tuple_none q j
   |bl y=>exact SeqAt.EqAt.tuple_bool _ q j
   |int z r=>exact SeqAt.EqAt.tuple_int _ _ q j
   |str B r=>exact SeqAt.EqAt.tuple_str _ _ q j
   |@lst m a f d g p k=>exact SeqAt.EqAt.tuple_list q g j
   |@tup m a f d g p k=>
    have U:=J.length;have V:=p.length;have X:=F.2.length;have Y:=k.2.length;simp only[eE]
    by_cases G:l=m
    .subst G
     have R:=rQ F.1 k.1;subst R;have S:=ba.uniq h E d N (by simpa[aO]using H) (by simpa[aO]using M) F.2 k.2
     subst S;rw[eX h E (by simpa[aO]using H)]
     exact SeqAt.EqAt.same _
    .refine SeqAt.EqAt.of_refs G ?_
     rw[←dD E d];have:=SeqAt.RcAt.tuples q g j (eY I T (by simpa[aO]using H) (by simpa[aO]using M) P J p F.2 k.2)
     rw[show C.toArray.size=E.length by simp only[List.size_toArray];omega,show a.toArray.size=d.length by simp only[List.size_toArray];omega]at this
     exact this
variable{Q0:Value}
theorem xR(I:Inv c v J0 e o)(F:O.units+(b+1)<cLine)(ox:aO (b+1) m=true)(G:aO (b+1) X=true)(J:Vw o n e m H)(u:Vw o n e X Q0):SeqAt.RcAt O o H Q0 (eE m X):=by
 have j:O.units<cLine:=by omega
 cases J with
 |non=>
  cases u with
  |non=>exact SeqAt.RcAt.none_none
  |bl w=>exact SeqAt.RcAt.none_bool _
  |int y r=>exact SeqAt.RcAt.none_int _ _
  |str z r=>exact SeqAt.RcAt.none_str _ _
  |@lst a d h f g k p=>exact SeqAt.RcAt.none_list g j
  |@tup a d h f g k p=>exact SeqAt.RcAt.none_tuple g j
 |bl E=>
  cases u with
  |non=>exact SeqAt.RcAt.bool_none _
  |bl w=>exact SeqAt.RcAt.bool_bool _ _
  |int y r=>exact SeqAt.RcAt.bool_int _ _ _
  |str z r=>exact SeqAt.RcAt.bool_str _ _ _
  |@lst a d h f g k p=>exact SeqAt.RcAt.bool_list _ g j
  |@tup a d h f g k p=>exact SeqAt.RcAt.bool_tuple _ g j
 |int i t=>
  cases u with
  |non=>exact SeqAt.RcAt.int_none _ _
  |bl w=>exact SeqAt.RcAt.int_bool _ _ _
  |int y r=>exact SeqAt.RcAt.int_int _ _ _ _
  |str z r=>exact SeqAt.RcAt.int_str _ _ _ _
  |@lst a d h f g k p=>exact SeqAt.RcAt.int_list _ _ g j
  |@tup a d h f g k p=>exact SeqAt.RcAt.int_tuple _ _ g j
 |str x t=>
  cases u with
  |non=>exact SeqAt.RcAt.str_none _ _
  |bl w=>exact SeqAt.RcAt.str_bool _ _ _
  |int y r=>exact SeqAt.RcAt.str_int _ _ _ _
  |str z r=>exact SeqAt.RcAt.str_str _ _ _ _
  |@lst a d h f g k p=>exact SeqAt.RcAt.str_list _ _ g j
  |@tup a d h f g k p=>exact SeqAt.RcAt.str_tuple _ _ g j
 |@lst l s K A q B C=>
  cases u with
  |non=>exact SeqAt.RcAt.list_none q j
  |bl w=>exact SeqAt.RcAt.list_bool _ q j
  |int y r=>exact SeqAt.RcAt.list_int _ _ q j
  |str z r=>exact SeqAt.RcAt.list_str _ _ q j
  |@lst a d h f g k p=>
   have L:=B.length;have M:=k.length;have N:=C.2.length;have P:=p.2.length;simp only[eE]
   by_cases D:A.length=f.length
   .rw[←kR D]
    have:=SeqAt.RcAt.lists q g (by simp only[List.size_toArray];omega) j (eY I (fY I b) (by simpa[aO]using ox) (by simpa[aO]using G) F B k C.2 p.2)
    rw[show s.toArray.size=A.length by simp only[List.size_toArray];omega]at this
    exact this
   .rw[ou D]
    exact SeqAt.RcAt.lists_lengths q g (by simp only[List.size_toArray,bne_iff_ne];omega) j
  |@tup a d h f g k p=>exact SeqAt.RcAt.list_tuple q g j
 |@tup l s K A q B C=>
  cases u with
  |non=>exact SeqAt.RcAt.tuple_none q j
  |bl w=>exact SeqAt.RcAt.tuple_bool _ q j
  |int y r=>exact SeqAt.RcAt.tuple_int _ _ q j
  |str z r=>exact SeqAt.RcAt.tuple_str _ _ q j
  |@lst a d h f g k p=>exact SeqAt.RcAt.tuple_list q g j
  |@tup a d h f g k p=>
   have L:=B.length;have M:=k.length;have N:=C.2.length;have P:=p.2.length;simp only[eE];rw[←dD A f];have:=SeqAt.RcAt.tuples q g j (eY I (fY I b) (by simpa[aO]using ox) (by simpa[aO]using G) F B k C.2 p.2)
   rw[show s.toArray.size=A.length by simp only[List.size_toArray];omega,show d.toArray.size=f.length by simp only[List.size_toArray];omega]at this
   exact this
theorem rR(I:Inv c v J0 e o)(F:O.units+(b+1)<cLine)(ox:aO (b+1) m=true)(G:aO (b+1) X=true)(J:Vw o n e m H)(u:Vw o n e X Q0):SeqAt.RcNeAt O o H Q0 (!eE m X):=by
 have j:O.units<cLine:=by omega
 cases J with
 |non=>
  cases u with
  |non=>exact SeqAt.RcNeAt.none_none
  |bl w=>exact SeqAt.RcNeAt.none_bool _
  |int y r=>exact SeqAt.RcNeAt.none_int _ _
  |str z r=>exact SeqAt.RcNeAt.none_str _ _
  |@lst a d h f g k p=>exact SeqAt.RcNeAt.none_list g j
  |@tup a d h f g k p=>exact SeqAt.RcNeAt.none_tuple g j
 |bl E=>
  cases u with
  |non=>exact SeqAt.RcNeAt.bool_none _
  |bl w=>exact SeqAt.RcNeAt.bool_bool _ _
  |int y r=>exact SeqAt.RcNeAt.bool_int _ _ _
  |str z r=>exact SeqAt.RcNeAt.bool_str _ _ _
  |@lst a d h f g k p=>exact SeqAt.RcNeAt.bool_list _ g j
  |@tup a d h f g k p=>exact SeqAt.RcNeAt.bool_tuple _ g j
 |int i t=>
  cases u with
  |non=>exact SeqAt.RcNeAt.int_none _ _
  |bl w=>exact SeqAt.RcNeAt.int_bool _ _ _
  |int y r=>exact SeqAt.RcNeAt.int_int _ _ _ _
  |str z r=>exact SeqAt.RcNeAt.int_str _ _ _ _
  |@lst a d h f g k p=>exact SeqAt.RcNeAt.int_list _ _ g j
  |@tup a d h f g k p=>exact SeqAt.RcNeAt.int_tuple _ _ g j
 |str x t=>
  cases u with
  |non=>exact SeqAt.RcNeAt.str_none _ _
  |bl w=>exact SeqAt.RcNeAt.str_bool _ _ _
  |int y r=>exact SeqAt.RcNeAt.str_int _ _ _ _
  |str z r=>exact SeqAt.RcNeAt.str_str _ _ _ _
  |@lst a d h f g k p=>exact SeqAt.RcNeAt.str_list _ _ g j
  |@tup a d h f g k p=>exact SeqAt.RcNeAt.str_tuple _ _ g j
 |@lst l s K A q B C=>
  cases u with
  |non=>exact SeqAt.RcNeAt.list_none q j
  |bl w=>exact SeqAt.RcNeAt.list_bool _ q j
  |int y r=>exact SeqAt.RcNeAt.list_int _ _ q j
  |str z r=>exact SeqAt.RcNeAt.list_str _ _ q j
  |@lst a d h f g k p=>
   have L:=B.length;have M:=k.length;have N:=C.2.length;have P:=p.2.length;simp only[eE]
   by_cases D:A.length=f.length
   .rw[←kR D]
    have:=SeqAt.RcNeAt.lists q g (by simp only[List.size_toArray];omega) j (eY I (fY I b) (by simpa[aO]using ox) (by simpa[aO]using G) F B k C.2 p.2)
    rw[show s.toArray.size=A.length by simp only[List.size_toArray];omega]at this
    exact this
   .rw[ou D]
    exact SeqAt.RcNeAt.lists_lengths q g (by simp only[List.size_toArray,bne_iff_ne];omega) j
  |@tup a d h f g k p=>exact SeqAt.RcNeAt.list_tuple q g j
 |@tup l s K A q B C=>
  cases u with
  |non=>exact SeqAt.RcNeAt.tuple_none q j
  |bl w=>exact SeqAt.RcNeAt.tuple_bool _ q j
  |int y r=>exact SeqAt.RcNeAt.tuple_int _ _ q j
  |str z r=>exact SeqAt.RcNeAt.tuple_str _ _ q j
  |@lst a d h f g k p=>exact SeqAt.RcNeAt.tuple_list q g j
  |@tup a d h f g k p=>
   have L:=B.length;have M:=k.length;have N:=C.2.length;have P:=p.2.length;simp only[eE];rw[←dD A f];have:=SeqAt.RcNeAt.tuples q g j (eY I (fY I b) (by simpa[aO]using ox) (by simpa[aO]using G) F B k C.2 p.2)
   rw[show s.toArray.size=A.length by simp only[List.size_toArray];omega,show d.toArray.size=f.length by simp only[List.size_toArray];omega]at this
   exact this
theorem Vw.uniq{s:Shared}{Z:Addr->Prop}{H:Hp}{n:Nat}{d k:D}{u:Value}(h:Vw s Z H d u)(j:Vw s Z H k u)(o:aO n d=true)(y:aO n k=true):d=k:=by
 cases h with
 |non=>cases j;rfl
 |bl b=>cases j;rfl
 |int i t=>cases j;rfl
 |str x t=>cases j;rfl
 |@lst l m p q z A e=>
  cases j with
  |@lst _ a f g r w c=>
   cases rP e.1 c.1;cases n with
   |zero=>simp[aO]at o
   |succ n=>rw[ba.uniq n q _ p (by simpa[aO]using o) (by simpa[aO]using y) e.2 c.2]
  |@tup _ a f g r w c=>exact(ti e.1 c.1).elim
 |@tup l m p q z A e=>
  cases j with
  |@tup _ a f g r w c=>
   cases rQ e.1 c.1;cases n with
   |zero=>simp[aO]at o
   |succ n=>rw[ba.uniq n q _ p (by simpa[aO]using o) (by simpa[aO]using y) e.2 c.2]
  |@lst _ a f g r w c=>exact(ti c.1 e.1).elim
def xS(s:Shared)(Z:Addr->Prop)(H:Hp)(a:D)(u:Value):Bool:=@decide (∃d,aO 8 d=true/\Vw s Z H d u/\eE d a=true) (Classical.propDecidable _)
theorem tj(a:aO 8 X=true)(h:Vw o n e X H):xS o n e m H=eE X m:=by
 cases b:eE X m with
 |true=>exact @decide_eq_true _ (Classical.propDecidable _) ⟨X,a,h,b⟩
 |false=>
  refine @decide_eq_false _ (Classical.propDecidable _) ?_;rintro⟨g,d,f,c⟩;rw[Vw.uniq f h d a,b]at c;cases c
theorem kS{X:Cx}{pins:List (Addr×Obj)}{f:L2.St}{Z:Addr->Prop}{H:Hp}{s:Shared}(I:Inv X pins f H s){c:D}:∀{b:List D}{e:List V}{a:List Value},ba Z H b e->Vals e a->(∀d∈b,aO 8 d=true)->a.any (xS s Z H c)=b.any λd=>eE d c
 |[],_,_,h,r,_=>by rw[h.nil_inv]at r;cases r;rfl
 |d::b,_,_,h,r,o=>by
  obtain⟨v,vr,rfl,g,i⟩:=h.cons_inv;cases r with
  |cons j k=>
   rw[List.any_cons,List.any_cons,kS I i k λz l=>o z (by simp[l]),tj (o d (by simp)) (gW I g.now j (o d (by simp)))]
theorem kT{X:Cx}{pins:List (Addr×Obj)}{k:L2.St}{Z:Addr->Prop}{H:Hp}{s:Shared}(I:Inv X pins k H s){A:Around}{b:D}{w:Value}(f:A.units+8<cLine)(ox:aO 8 b=true)(g:Vw s Z H b w):
  ∀{c:List D}{i:List V}{a:List Value},ba Z H c i->Vals i a->(∀d∈c,aO 8 d=true)->∀u∈a,SeqAt.EqAt A s u w (xS s Z H b u)
 |[],_,_,h,r,_,u,hm=>by rw[h.nil_inv]at r;cases r;simp at hm
 |d::c,_,_,h,r,o,u,hm=>by
  obtain⟨v,vr,rfl,l,m⟩:=h.cons_inv;cases r with
  |cons n p=>
   rcases List.mem_cons.mp hm with e|hm
   .subst e
    have j:=gW I l.now n (o d (by simp))
    rw[tj (o d (by simp)) j]
    exact fY I 8 A d b _ w f (o d (by simp)) ox j g
   .exact kT I f ox g m p (λz q=>o z (by simp[q])) u hm
def xT(c:CmpOp):R2:=λx y H Q=>∃Z a b k,Now Z H a x/\Now Z H b y/\d_ c a b=.ok k/\Q (.bl k) H
theorem pV{c:List L2.Key}(h:Now n e (.dct c q) u):∃a,u=.ref a:=by
 obtain⟨a,_,b,_⟩:=h;exact⟨a,b⟩
theorem DV(f:Now n e m u)(l:Now n e X B2)(g:RelV u H)(o:RelV B2 Q0)(h:isD m X=.ok y):plainIs H Q0=true/\(H==Q0)=y:=by
 have AS:∀{j:List D}{u:V}{H:Value},Now n e (.lst j) u->RelV u H->∃a,H=.ref a:=λd r=>by
  obtain⟨a,_,rfl,_⟩:=cZ d;exact⟨a,r⟩
 have k:∀{j:List D}{u:V}{H:Value},Now n e (.tup j) u->RelV u H->∃a,H=.ref a:=λd r=>by
  obtain⟨a,_,rfl,_⟩:=fx d;exact⟨a,r⟩
 cases X with
 |non=>
  cases fw l;cases o;cases m with
  |non=>cases fw f;cases g;cases h;exact⟨rfl,rfl⟩
  |bl b=>cases hJ f;cases g;cases h;exact⟨rfl,rfl⟩
  |int i=>cases bt f;obtain⟨t,rfl⟩:=g;cases h;exact⟨rfl,rfl⟩
  |str i=>cases cP f;obtain⟨t,rfl⟩:=g;cases h;exact⟨rfl,rfl⟩
  |lst j=>obtain⟨a,rfl⟩:=AS f g;cases h;exact⟨rfl,rfl⟩
  |tup j=>obtain⟨a,rfl⟩:=k f g;cases h;exact⟨rfl,rfl⟩
  |dct p j=>obtain⟨a,rfl⟩:=pV f;cases g;cases h;exact⟨rfl,rfl⟩
  |ref d=>exact(show False by simpa only [Now,Rep]using f).elim
 |bl c=>
  cases hJ l;cases o;cases m with
  |non=>cases fw f;cases g;cases h;exact⟨rfl,rfl⟩
  |bl b=>cases hJ f;cases g;cases h;exact⟨rfl,by cases b<;>cases c<;>rfl⟩
  |int i=>cases bt f;obtain⟨t,rfl⟩:=g;cases h;exact⟨rfl,rfl⟩
  |str i=>cases cP f;obtain⟨t,rfl⟩:=g;cases h;exact⟨rfl,rfl⟩
  |lst j=>obtain⟨a,rfl⟩:=AS f g;cases h;exact⟨rfl,rfl⟩
  |tup j=>obtain⟨a,rfl⟩:=k f g;cases h;exact⟨rfl,rfl⟩
  |dct p j=>cases h
  |ref d=>cases h
 |int _=>cases m<;>cases h
 |str _=>cases m<;>cases h
 |lst _=>cases m<;>cases h
 |tup _=>cases m<;>cases h
 |dct _ _=>cases m<;>cases h
 |ref _=>cases m<;>cases h
theorem DW(F:c.A.units+64<cLine)(I:Inv c v J0 e o)(k:RelV u H)(r:RelV B2 Q0)(s:Now n e m u)(t:Now n e X B2)(a:inD m X=.ok y):
  (ε (.bl y) e->wpAny (model c.prog c.w) c.A (compareOp .In H Q0) (EP c v J0 ε) c.xe o)/\(ε (.bl !y) e->wpAny (model c.prog c.w) c.A (compareOp .NotIn H Q0) (EP c v J0 ε) c.xe o):=by
 unfold inD at a;split at a
 .rename_i x
  split at a
  .rename_i f
   cases a;simp only[Bool.and_eq_true]at f;obtain⟨g,d⟩:=f;have d:=List.all_eq_true.mp d;obtain⟨l,B,rfl,z,h⟩:=cZ t;cases r;obtain⟨b,i,p,C⟩:=I.list (mf z);have j:∀w,w∈b.toArray->SeqAt.EqAt c.A.in1 o w H _:=λw D=>kT I (by grind) g (gW I s k g) h i d w (by grind)
   have E:b.toArray.any (xS o n e m)=x.any λB2=>eE B2 m:=by
    rw[←kS I h i d];simp
   exact⟨λq=>SeqAt.in_listAt _ p.isList j ⟨.bl _,e,I,rfl,by grind⟩,λq=>SeqAt.notIn_listAt _ p.isList j ⟨.bl _,e,I,rfl,by grind⟩⟩
  .cases a
 .rename_i x
  split at a
  .rename_i f
   cases a;simp only[Bool.and_eq_true]at f;obtain⟨g,d⟩:=f;have d:=List.all_eq_true.mp d;obtain⟨l,B,rfl,_,z,h⟩:=fx t;cases r;obtain⟨b,i,p,C⟩:=I.tuple (vV z);have j:∀w,w∈b.toArray->SeqAt.EqAt c.A.in1 o w H _:=λw D=>kT I (by grind) g (gW I s k g) h i d w (by grind)
   have E:b.toArray.any (xS o n e m)=x.any λB2=>eE B2 m:=by
    rw[←kS I h i d];simp
   exact⟨λq=>SeqAt.in_tupleAt _ p j ⟨.bl _,e,I,rfl,by grind⟩,λq=>SeqAt.notIn_tupleAt _ p j ⟨.bl _,e,I,rfl,by grind⟩⟩
  .cases a
 .cases a
  cases cP s;cases cP t;exact⟨λq=>uG _ o J0 e _ _ H Q0 ε I k r ⟨_,_,rfl,rfl,q⟩,λq=>nQ _ o J0 e _ _ H Q0 ε I k r ⟨_,_,rfl,rfl,q⟩⟩
 .cases a
variable{A2:CmpOp}
theorem kh(h:d_ A2 m X=.ok y)(a:A2=.Lt\/A2=.LtE\/A2=.Gt\/A2=.GtE):∃i j,m=.int i/\X=.int j:=by
 rcases a with rfl|rfl|rfl|rfl<;>cases m<;>first | (cases h;done) | (cases X<;>first|exact⟨_,_,rfl,rfl⟩|cases h)
theorem jk(G:c.A.units+64<cLine)(D:CmpOp):fT c (compareOp D) (xT D):=by
 intro pins s E H x y u v Q I l m h;obtain⟨Z,r,t,k,n,p,e,q⟩:=h;have f:EP c pins E Q (.bool k) s:=⟨.bl k,H,I,rfl,q⟩
 have a:∀{i j:Int}{o:CmpOp}{g:Int->Int->Bool},fT c (compareOp o) (Ah λi j=>.bl (g i j))->r=.int i->t=.int j->k=g i j->wpAny (model c.prog c.w) c.A (compareOp o u v) (EP c pins E Q) c.xe s:=by
  intro i j o g z B C J;subst B C J;cases bt n;cases bt p;exact z pins s E H _ _ u v Q I l m ⟨_,_,rfl,rfl,q⟩
 cases D with
 |Eq=>
  unfold d_ at e;dsimp only at e;split at e
  .rename_i d
   cases e;simp only[Bool.and_eq_true]at d;exact xR I (b:=7) (by omega) d.1 d.2 (gW I n l d.1) (gW I p m d.2) c.prog c.w c.xe _ f
  .cases e
 |NotEq=>
  unfold d_ at e;dsimp only at e;split at e
  .rename_i d
   cases e;simp only[Bool.and_eq_true]at d;exact rR I (b:=7) (by omega) d.1 d.2 (gW I n l d.1) (gW I p m d.2) c.prog c.w c.xe _ f
  .cases e
 |Lt=>obtain⟨i,j,rfl,rfl⟩:=kh e (by simp);cases e;exact a HG rfl rfl rfl
 |LtE=>obtain⟨i,j,rfl,rfl⟩:=kh e (by simp);cases e;exact a HH rfl rfl rfl
 |Gt=>obtain⟨i,j,rfl,rfl⟩:=kh e (by simp);cases e;exact a HI rfl rfl rfl
 |GtE=>obtain⟨i,j,rfl,rfl⟩:=kh e (by simp);cases e;exact a HJ rfl rfl rfl
 |In=>
  have e:inD r t=.ok k:=e;exact(DW G I l m n p e).1 q
 |NotIn=>
  have e:(do let b ←inD r t;Out.ok (!b))=.ok k:=e
  obtain⟨b,B,C⟩:=kQ e;cases C;exact(DW G I l m n p B).2 q
 |Is=>
  have e:isD r t=.ok k:=e;obtain⟨z,F⟩:=DV n p l m e;exact wpAny_is_plain z (by rw[F];exact f)
 |IsNot=>
  have e:(do let b ←isD r t;Out.ok (!b))=.ok k:=e
  obtain⟨b,B,C⟩:=kQ e;cases C;obtain⟨z,F⟩:=DV n p l m B;exact wpAny_isNot_plain z (by rw[F];exact f)
theorem Fb(f:Now n e m u)(g:Now n e X B2)(b:∀a,n a->e a≠none)(h:(do let r ←d_ A2 m X;Out.ok (false,D.bl r))=.ok (C1,P6))(k:∀v c d,eG n e d c->ec y C1 d e c P6 v->ε v c):xT A2 u B2 e ε:=by
 obtain⟨r,i,j⟩:=kQ h;cases j;exact⟨n,m,X,r,f,g,i,k _ e n (eG.refl b) (.rep (fX rfl))⟩
variable{P1 y6:TT}
theorem PT.imp(h:PT c j P1)(i:∀a H Q,y6 a H Q->P1 a H Q):PT c j y6:=λpins s a H Q I q=>h _ s a H Q I (i a H Q q)
theorem PW.imp(h:PW c j P1)(i:∀a H Q,y6 a H Q->P1 a H Q):PW c j y6:=λb pins s a H Q I q=>h b _ s a H Q I (i a H Q q)
theorem Fc(c:Now n e m u)(h:jT m=some y):pB x u e y:=by
 cases m with
 |non=>cases fw c;cases h;rfl
 |bl b=>cases hJ c;cases h;rfl
 |int b=>cases bt c;cases h;rfl
 |str b=>
  cases cP c;simp only[jT]at h;split at h
  .rename_i j
   cases h;refine⟨bw j,?_⟩
   grind
  .cases h
 |lst i=>
  obtain⟨a,d,rfl,f,g⟩:=cZ c;cases h;refine .inl ⟨d,mf f,?_⟩;have:=g.length
  grind
 |tup i=>
  obtain⟨a,d,rfl,_,f,g⟩:=fx c;cases h;refine .inr (.inl ⟨d,vV f,?_⟩);have:=g.length
  grind
 |dct l i=>cases h
 |ref k=>cases h
def xU(Z:Addr->Prop)(H:Hp):List D->List V->Prop
 |[],a=>a=[]
 |d::b,a=>∃v r,a=v::r/\Now Z H d v/\xU Z H b r
theorem xU.one(h:xU n e [m] I):∃x,I=[x]/\Now n e m x:=by
 obtain⟨v,r,a,b,c⟩:=h;exact⟨v,by rw[a,c],b⟩
def Args(c:Bool)(Z:Addr->Prop)(H:Hp)(a:List D)(b:List V):Prop:=if c=true then xU Z H a b else ba Z H a b
variable{E:List Expr}{Q1:TA}
theorem PA.imp{t':TA}(h:PA c E Q1)(i:∀a H Q,t' a H Q->Q1 a H Q):PA c E t':=λb pins s a H Q I q=>h _ _ s a H Q I (i a H Q q)
theorem xV(h:ba n e q I)(a:kf q P=some m):∃v,kf I P=some v/\Rep n e m v:=by
 unfold kf at a ⊢;rw[h.length];cases b:DK _ P with
 |none=>simp_all
 |some j=>
  rw[b]at a;exact h.get a
theorem Fd(f:Now n e m u)(g:Now n e X B2)(c:∀a,n a->e a≠none)(b:rO m X=.ok (C1,P6))(k:∀v h r,eG n e r h->ec y C1 r e h P6 v->ε v h):QC x u B2 e ε:=by
 unfold rO at b;split at b
 .obtain⟨l,i,rfl,j,o⟩:=cZ f
  cases bt g;split at b
  .rename_i s d
   cases b;obtain⟨v,p,q⟩:=xV o d;exact .inl ⟨l,i,_,v,rfl,rfl,mf j,p,k v e n (eG.refl c) (.rep q)⟩
  .cases b
 .obtain⟨l,i,rfl,_,j,o⟩:=fx f
  cases bt g;split at b
  .rename_i s d
   cases b;obtain⟨v,p,q⟩:=xV o d;exact .inr (.inl ⟨l,i,_,v,rfl,rfl,vV j,p,k v e n (eG.refl c) (.rep q)⟩)
  .cases b
 .cases cP f
  cases bt g;split at b
  .rename_i t
   split at b
   .rename_i w d
    cases b;exact .inr (.inr ⟨_,_,w,rfl,rfl,bw t,d,k _ e n (eG.refl c) (.rep (fX rfl))⟩)
   .cases b
  .cases b
 .cases b
theorem xW(xs:List W2)(a b:Option Int):(dk xs a b).length<=xs.length:=by
 unfold dk;rw[List.length_take,List.length_drop];omega
theorem tm(n d:Nat)(v:Int):max 0 (min (if v<0 then v+(n:Int)else v) (n:Int))=((HT.ji n d (some v):Nat):Int):=by
 show max 0 _=(((if v<0 then (v+(n)).toNat else min _ n):Nat):Int)
 grind
variable{M0:Int}{t:Nat}
theorem xX(a:P=b)(c:M0=t):sliceRange P M0 1=(List.range (t - b)).map λk=>b+k:=by
 subst a c;unfold sliceRange
 grind
theorem kU(a b:Option Int)(n:Nat):Builtin.Str.strSliceIndices a b 1 n=(List.range (HT.ji n n b - HT.ji n 0 a)).map λk=>HT.ji n 0 a+k:=by
 refine xX ?_ ?_
 .cases a with
  |none=>rfl
  |some v=>exact tm n 0 v
 .cases b with
  |none=>rfl
  |some v=>exact tm n n v
theorem u_:∀(n a:Nat) (l:List Nat),a+n<=l.length->((List.range n).map λk=>a+k).filterMap (λi=>l[i]?)=(l.drop a).take n:=by
 intro n
 induction n with
 |zero=>intro a l _;simp
 |succ n c=>
  intro a l h;have b:a+n<l.length:=by omega
  rw[List.range_succ,List.map_append,List.filterMap_append,c a l (by omega),List.take_add_one,List.getElem?_drop]
  simp[List.getElem?_eq_getElem b]
theorem xY(x:Str)(b a:Option Int):(Builtin.Str.strSliceIndices b a 1 x.length).filterMap (x.cps[·]?)=dk x.cps.toList b a:=by
 have c:x.cps.toList.length=x.length:=by rfl
 have e:=HT.wF x.length _ (Nat.le_refl _) a;rw[kU];unfold dk;rw[c];generalize HT.ji _ 0 b=p at *;generalize HT.ji _ _ a=q at *
 by_cases d:p<=q
 .have:=u_ (q - p) p _ (by rw[c];omega)
  grind
 grind
def Iw:V->Option Int->Option Int->Hp->VK->Prop:=λx a b H Q=>∃z,x=.str z/\z.length<=sizeLine/\Q (.str ⟨(dk z.cps.toList a b).toArray⟩) H
theorem kW:ET c Iw:=by
 intro pins s J H x v K L a b M Q I k m n r h;obtain⟨z,rfl,N,q⟩:=h;obtain⟨t,rfl⟩:=k;refine⟨"str",_,F.slot_str_getitem.lookup,typeIs_str _ _ _,?_⟩
 have part:∀{w:Value}{o:Option Int},IsPart w o->∃p:Option (Int×Tok),w=partValue p/\p.map (·.1)=o:=λh=>by
  cases h with
  |none=>exact⟨none,rfl,rfl⟩
  |int i t=>exact⟨some (i,t),rfl,rfl⟩
 obtain⟨e,y,m1⟩:=part n;obtain⟨f,A,m2⟩:=part r;subst y A;refine wpAny_getItem_str_slice (l:=e) (u:=f) (st:=none) m rfl ?_
 have B:(slicePicked z e f none).filterMap (z.cps[·]?)=dk z.cps.toList a b:=by
  unfold slicePicked;rw[m1,m2];exact xY z a b
 have O:(dk z.cps.toList a b).length<=z.length:=by
  have:=xW z.cps.toList a b;simpa[Str.length]using this
 unfold sliceMade;split
 .rename_i j
  have d:(slicePicked z e f none).length=z.length:=by
   simp only[Bool.and_eq_true,beq_iff_eq]at j;exact j.2
  have C:(⟨(dk z.cps.toList a b).toArray⟩:Str)=z:=by
   unfold slicePicked at d;rw[m1,m2]at d;have d:(Builtin.Str.strSliceIndices a b 1 z.length).length=z.length:=d;rw[kU,List.length_map,List.length_range]at d;have P:=HT.wF z.length z.length (Nat.le_refl _) b;have g:z.cps.toList.length=z.length:=by simp[Str.length]
   have D:dk z.cps.toList a b=z.cps.toList:=by
    unfold dk;rw[g]
    by_cases E:z.length=0
    .have:z.cps.toList=[]:=List.eq_nil_of_length_eq_zero (by rw[g];exact E)
     rw[this];simp
    .have G:HT.ji z.length 0 a=0:=by omega
     rw[G,List.drop_zero,List.take_of_length_le (by rw[g];omega)]
   rw[D]
  refine⟨.str z,H,I,⟨t,rfl⟩,?_⟩;rw[C]at q;exact q
 .rw[B]
  refine⟨?_,.str _,H,I.tok _,⟨_,rfl⟩,q⟩
  show(dk z.cps.toList a b).toArray.size<=sizeLine
  rw[List.size_toArray];omega
def Iy(K:PySem.W.Frag):V->Option Int->Option Int->Hp->VK->Prop:=λx a b H Q=>HW K x a b H Q\/Iw x a b H Q
noncomputable def oy(F:List D->Out Rs):Sp:=λg H Q _=>
 ∃Z e b d,(∀a,Z a->H a≠none)/\ba Z H e g/\F e=.ok (b,d)/\∀v c f,eG Z H f c->ec false b f H c d v->Q v c
theorem ec.weak(h:ec false C1 n e ο m u):ec y C1 n e ο m u:=by
 unfold ec at h ⊢;split
 .simp_all
 .rename_i a;rw[if_neg a]at h
  split
  .exact h.now
  .exact h
structure Iz(X:Cx)(k:Nat)(x:Str)(F:List D->Out Rs):Prop where
 ex:∃(f:Addr) (fd:FuncData) (ps:List Str),X.mg x=some (.ref f)/\PySem.W.keepIn X.K (.ref f)=true/\Binds X.K fd ps []/\bx X.prog X.w X.K X.mg X.base eB k f fd ps (oy F)
inductive eo (h:Heap):Value->Bool->Prop where
 |non:eo h .none false
 |bl (b:Bool):eo h (.bool b) b
 |int (i:Int) (t:Tok):eo h (.int i t) (i != 0)
 |str (x:Str) (t:Tok):x.length<=sizeLine->eo h (.str x t) ((x.length:Int) != 0)
 |lst {l:Addr}{its:Array Value}:h.IsList l its->its.size<=sizeLine->eo h (.ref l) (!its.isEmpty)
 |tup {l:Addr}{its:Array Value}:IsTup h l its->its.size<=sizeLine->eo h (.ref l) (!its.isEmpty)
variable{A3 w:Heap}
theorem eo.keep(k:∀b o,(H=.ref b)->w.get? b=some o->A3.get? b=some o)(x:eo w H y):eo A3 H y:=by
 cases x with
 |non=>exact .non
 |bl=>exact .bl _
 |int i y=>exact .int i y
 |str x y z=>exact .str x y z
 |lst q z=>obtain⟨o,a,c⟩:=q;exact .lst ⟨o,k _ o rfl a,c⟩ z
 |tup q z=>obtain⟨o,a,c⟩:=q;exact .tup ⟨o,k _ o rfl a,c⟩ z
variable{A:World}{U:Value->Shared->Prop}{z:Program}
theorem eo.run{s:Shared}{Q:Bool->Shared->Prop}(x:eo s.heap H y)(q:∀b,Q y {s with toks:=b}):wpAny (model z A) O (truthy H) Q U s:=by
 have c:=hF;cases x with
 |non=>exact truthy_none (q _)
 |bl=>exact wpAny_truthy_bool (q _)
 |int i y=>exact PySem.P.truthy_int (q _)
 |str x y a=>exact PySem.P.truthy_str (by omega) (q _)
 |lst h a=>exact wpAny_truthy_list h (by omega) (q _)
 |tup h a=>exact truthy_tuple h (by omega) (q _)
theorem xZ(I:Inv c v J0 e o)(d:Now n e m u)(r:RelV u H)(h:jT m=some y):eo o.heap H y:=by
 cases m with
 |non=>cases fw d;cases r;cases h;exact .non
 |bl b=>cases hJ d;cases r;cases h;exact .bl _
 |int b=>cases bt d;obtain⟨k,rfl⟩:=r;cases h;exact .int _ _
 |str b=>
  cases cP d;obtain⟨k,rfl⟩:=r;simp only[jT]at h;split at h
  .rename_i s
   cases h
   have f:((b.length:Int) != 0)=(b.length != 0):=by
    grind
   rw[←f];exact .str b k (bw s)
  .cases h
 |lst j=>
  obtain⟨a,t,rfl,l,q⟩:=cZ d;cases r;cases h;obtain⟨g,i,p,w⟩:=I.list (mf l)
  have f:(!j.isEmpty)=!g.toArray.isEmpty:=by
   have x:=q.length;have z:=i.length
   grind
  rw[f];exact .lst p.isList (by rwa[List.size_toArray,←i.length])
 |tup j=>
  obtain⟨a,t,rfl,_,l,q⟩:=fx d;cases r;cases h;obtain⟨g,i,p,w⟩:=I.tuple (vV l)
  have f:(!j.isEmpty)=!g.toArray.isEmpty:=by
   have x:=q.length;have z:=i.length
   grind
  rw[f];exact .tup p (by rwa[List.size_toArray,←i.length])
 |dct A j=>cases h
 |ref k=>cases h
variable{i0 r:List Addr}{n8:Nat->Value->Prop}{w4:Result->Shared->Prop}
theorem x5{T:Nat->Heap->Prop}(W:Walks z A O.in1 h r i0 b n8 T)(n:Nat->Bool)(G:Heap->Prop)(C:∀c d:Heap,G c->(∀a o,a∉i0->c.get? a=some o->d.get? a=some o)->G d)(D:∀i v (c:Heap),n8 i v->G c->eo c v (n i)):∀(m i:Nat) (s:Shared),b - i=m->i<=b->T i s.heap->G s.heap ->
  (∀d k,(∀a o,a∉i0->s.heap.get? a=some o->d.get? a=some o)->w4 (.ok (.ret (.bool (((List.range b).drop i).all n)))) {s with heap:=d,toks:=k}) ->
  codeAny (model z A) O (.builtin "all.loop" ⟨[.ref h],[]⟩) w4 s:=by
 intro m
 induction m with
 |zero=>
  intro i s E H p g f;obtain rfl:i=b:=by omega
  refine codeAny_builtin PySem.F.entry_all_loop ?_;refine wpAny_bind (W.done s _ _ p λd k l=>wpAny_bind (wpAny_rule (wpAny_pure ?_)))
  have q:=f d k l;rw[List.drop_of_length_le (by simp)]at q
  exact q
 |succ m I=>
  intro i s E H p g f;have t:i<b:=by omega
  have M:(List.range b).drop i=i::(List.range b).drop (i+1):=by
   rw[List.drop_eq_getElem_cons (by simpa using t)];simp
  refine codeAny_builtin PySem.F.entry_all_loop ?_;refine wpAny_bind (W.item i s _ _ t p λv d k J u l=>?_)
  have y:G d:=C _ _ g l;refine wpAny_bind (wpAny_holding ((D i v d J y).run λK=>?_))
  refine wpAny_bind (wpAny_letGo ?_);cases e:n i with
  |true=>
   refine wpAny_pure ⟨plainId_quiet PySem.F.plain_all_loop _,I (i+1) _ (by omega) t u y λL w x=>?_⟩
   have q:=f L w λa o B j=>x a o B (l a o B j)
   simp_all
  |false=>
   refine wpAny_bind (wpAny_rule (wpAny_pure ?_))
   simp_all
theorem x9{T:Nat->Heap->Prop}(W:Walks z A O.in1 h r i0 b n8 T)(n:Nat->Bool)(G:Heap->Prop)(C:∀c d:Heap,G c->(∀a o,a∉i0->c.get? a=some o->d.get? a=some o)->G d)(D:∀i v (c:Heap),n8 i v->G c->eo c v (n i)):∀(m i:Nat) (s:Shared),b - i=m->i<=b->T i s.heap->G s.heap ->
  (∀d k,(∀a o,a∉i0->s.heap.get? a=some o->d.get? a=some o)->w4 (.ok (.ret (.bool (((List.range b).drop i).any n)))) {s with heap:=d,toks:=k}) ->
  codeAny (model z A) O (.builtin "any.loop" ⟨[.ref h],[]⟩) w4 s:=by
 intro m
 induction m with
 |zero=>
  intro i s E H p g f;obtain rfl:i=b:=by omega
  refine codeAny_builtin PySem.F.entry_any_loop ?_;refine wpAny_bind (W.done s _ _ p λd k l=>wpAny_bind (wpAny_rule (wpAny_pure ?_)))
  have q:=f d k l;rw[List.drop_of_length_le (by simp)]at q
  exact q
 |succ m I=>
  intro i s E H p g f;have t:i<b:=by omega
  have M:(List.range b).drop i=i::(List.range b).drop (i+1):=by
   rw[List.drop_eq_getElem_cons (by simpa using t)];simp
  refine codeAny_builtin PySem.F.entry_any_loop ?_;refine wpAny_bind (W.item i s _ _ t p λv d k J u l=>?_)
  have y:G d:=C _ _ g l;refine wpAny_bind (wpAny_holding ((D i v d J y).run λK=>?_))
  refine wpAny_bind (wpAny_letGo ?_);cases e:n i with
  |false=>
   refine wpAny_pure ⟨plainId_quiet PySem.F.plain_any_loop _,I (i+1) _ (by omega) t u y λL w x=>?_⟩
   have q:=f L w λa o B j=>x a o B (l a o B j)
   simp_all
  |true=>
   refine wpAny_bind (wpAny_rule (wpAny_pure ?_))
   simp_all
theorem oz:∀{a:List D}{bs:List Bool},eV a=some bs->bs.length=a.length
 |[],_,h=>by cases h;rfl
 |d::a,bs,h=>by
  simp only[eV]at h;split at h
  .rename_i b c f e
   cases h;rw[List.length_cons,List.length_cons,oz e]
  .cases h
theorem tp:∀{a:List D}{bs:List Bool}{i:Nat}{d:D},eV a=some bs->a[i]?=some d->∃b,bs[i]?=some b/\jT d=some b
 |[],_,_,_,_,h=>by simp at h
 |d::a,bs,i,j,h,e=>by
  simp only[eV]at h;split at h
  .rename_i b f k g
   cases h;cases i with
   |zero=>simp_all
   |succ i=>
    obtain⟨c,l,m⟩:=tp g (by simpa using e)
    simp_all
  .cases h
theorem all_range:∀(bs:List Bool),((List.range bs.length).all λi=>(bs[i]?).getD true)=bs.all id
 |[]=>rfl
 |b::bs=>by
  rw[List.length_cons,List.range_succ_eq_map,List.all_cons,List.all_map,List.all_cons,←all_range bs];rfl
theorem any_range:∀(bs:List Bool),((List.range bs.length).any λi=>(bs[i]?).getD false)=bs.any id
 |[]=>rfl
 |b::bs=>by
  rw[List.length_cons,List.range_succ_eq_map,List.any_cons,List.any_map,List.any_cons,←any_range bs];rfl
def Nu(K:PySem.W.Frag):List V->Hp->VK->Prop:=λb H Q=>∃Z a bs x,b=[x]/\Now Z H (.lst a) x/\eV a=some bs/\Q (.bl (bs.all id)) H
def Nv(K:PySem.W.Frag):List V->Hp->VK->Prop:=λb H Q=>∃Z a bs x,b=[x]/\Now Z H (.lst a) x/\eV a=some bs/\Q (.bl (bs.any id)) H
variable{v8:List Bool}
theorem x_(d:Inv c v J0 e o)(f:ba n e q I)(g:Vals I ψ)(l:eV q=some v8)(dflt:Bool):
  ∀(i:Nat) (a:Value),ψ.toArray[i]?=some a->eo o.heap a ((v8[i]?).getD dflt):=by
 intro i a m;obtain⟨p,r⟩:=List.getElem?_eq_some_iff.mp (by simpa using m)
 obtain⟨x,s,h⟩:=ow g p;have z:=f.length;have A:=g.length;have j:q[i]?=some q[i]:=by simp
 obtain⟨y,k,t⟩:=f.get j;rw[s]at k;cases k
 obtain⟨b,u,w⟩:=tp l j;rw[u];rw[r]at h;exact xZ d t.now h w
theorem ya(n:c.calm=true):eH c (.builtin "all") (Nu c.K):=by
 intro pins s D H E G Q I r h;obtain⟨Z,J,bs,x,rfl,t,j,q⟩:=h;obtain⟨u,rfl,w⟩:=vals1 r;obtain⟨l,L,rfl,y,k⟩:=cZ t;cases w;obtain⟨a,m,p,M⟩:=I.list (mf y);refine call_function_tree PySem.F.kind_all PySem.F.plain_all PySem.F.entry_all (PySem.F.args_all1 _) ?_;refine wpAny_bind (wpAny_pure (wpAny_bind (wpAny_pyIter_list p.isList ?_)))
 refine wpAny_pure ⟨plainId_quiet PySem.F.plain_all_loop _,x5 (Walks.list (A:=c.A.in1) (I.ok.hd n) _ l (Nat.ne_of_lt (by obtain⟨_,e,_⟩:=p.isList;exact Heap.lt_size e)) _) _
  (λh=>∀b o,b≠s.heap.objs.size->s.heap.get? b=some o->h.get? b=some o) (λh B g d b o f e=>d b o (by simpa using f) (g b o f e))
  (λi v h C g=>((x_ I k m j true) i v C).keep λb o e z=>g b o (Nat.ne_of_lt (Heap.lt_size z)) z) _ 0 _ rfl (Nat.zero_le _) ⟨⟨_,Heap.get?_push_size _ rfl,rfl,rfl⟩,p.isList.push _⟩ (λb o f e=>Heap.get?_push_of_some _ e) λB N d=>?_⟩
 have e:((List.range a.toArray.size).drop 0).all (λi=>(bs[i]?).getD true)=bs.all id:=by
  rw[List.size_toArray,←m.length,k.length,←oz j];exact all_range bs
 rw[e]
 exact⟨.bl _,H,I.kept λb o z=>d b o (by
  have:=Nat.ne_of_lt (Heap.lt_size z);simpa using this) (Heap.get?_push_of_some _ z),rfl,q⟩
theorem yb(n:c.calm=true):eH c (.builtin "any") (Nv c.K):=by
 intro pins s E H G J Q I r h;obtain⟨Z,L,bs,x,rfl,t,f,q⟩:=h;obtain⟨u,rfl,w⟩:=vals1 r;obtain⟨l,M,rfl,y,j⟩:=cZ t;cases w;obtain⟨a,k,p,N⟩:=I.list (mf y);have B:l<s.heap.objs.size:=by obtain⟨_,e,_⟩:=p.isList;exact Heap.lt_size e
 refine call_function_tree PySem.F.kind_any PySem.F.plain_any PySem.F.entry_any (PySem.F.args_any1 _) ?_;refine wpAny_bind (wpAny_pure (wpAny_bind (wpAny_pyIter_list p.isList ?_)))
 refine wpAny_pure ⟨plainId_quiet PySem.F.plain_any_loop _,x9 (Walks.list (A:=c.A.in1) (I.ok.hd n) _ l (by grind) _) _
  (λh=>∀b o,b≠s.heap.objs.size->s.heap.get? b=some o->h.get? b=some o) (λh C g d b o m e=>d b o (by grind) (g b o m e))
  (λi v h D g=>((x_ I j k f false) i v D).keep λb o e z=>g b o (Nat.ne_of_lt (Heap.lt_size z)) z) _ 0 _ rfl (Nat.zero_le _) ⟨⟨_,Heap.get?_push_size _ rfl,rfl,rfl⟩,p.isList.push _⟩ (λb o m e=>Heap.get?_push_of_some _ e) λC O d=>?_⟩
 have e:((List.range a.toArray.size).drop 0).any (λi=>(bs[i]?).getD false)=bs.any id:=by
  rw[List.size_toArray,←k.length,j.length,←oz f];exact any_range bs
 rw[e]
 exact⟨.bl _,H,I.kept λb o z=>d b o (by
  have:=Nat.ne_of_lt (Heap.lt_size z)
  grind) (Heap.get?_push_of_some _ z),rfl,q⟩
noncomputable def l_.nm:l_->Str
 |.len=>"len" |.all=>"all" |.any=>"any" |.sorted=>"sorted" |.list=>"list" |.tuple=>"tuple" |.int=>"int" |.min=>"min" |.max=>"max" |.bool=>"bool"
theorem kX(b:∀a,n a->e a≠none)(k:∀u c d,eG n e d c->ec y false d e c m u->ε u c)(h:eW m=some u):ε u e:=
 k _ e n (eG.refl b) (.rep (fX h))
noncomputable def Ty.nm:Ty->Str
 |.int=>"int" |.str=>"str" |.bool=>"bool" |.list=>"list" |.tuple=>"tuple" |.dict=>"dict"
noncomputable def Ty.id:Ty->String
 |.int=>"int" |.str=>"str" |.bool=>"bool" |.list=>"list" |.tuple=>"tuple" |.dict=>"dict"
theorem AU(t:Ty):bootBuiltins t.nm=some (.type t.id):=by cases t<;>decide +kernel
theorem AV(K:PySem.W.Frag)(t:Ty):PySem.W.kitOne K (.type "NoneType") (.type t.id)=some false/\PySem.W.kitOne K (.type "bool") (.type t.id)=some (t==.bool||t==.int)/\PySem.W.kitOne K (.type "int") (.type t.id)=some (t==.int) /\
  PySem.W.kitOne K (.type "str") (.type t.id)=some (t==.str)/\PySem.W.kitOne K (.type "list") (.type t.id)=some (t==.list)/\PySem.W.kitOne K (.type "tuple") (.type t.id)=some (t==.tuple)/\PySem.W.kitOne K (.type "dict") (.type t.id)=some (t==.dict):=by
 cases t<;>refine⟨?_,?_,?_,?_,?_,?_,?_⟩<;>with_unfolding_all rfl
def ID(K:PySem.W.Frag):List V->Hp->VK->Prop:=λa H Q=>∃Z d x t b,a=[x,.ty (Ty.id t)]/\Now Z H d x/\xM d t=some b/\Q (.bl b) H
theorem pW{K:PySem.W.Frag}(b:Inv c v J0 e o)(d:Rd e h (.tup I)):∃a,o.heap.get? h=some a/\a.cls=.type "tuple":=by
 obtain⟨_,f,_,a,g,i,_⟩:I.length<=sizeLine/\∃f:List _,Vals I _/\IsTup _ h _:=Rd.ok d b.hok;exact⟨a,g,i⟩
theorem yc:eH c (.builtin "isinstance") (ID c.K):=by
 intro pins s A H L M Q I r h;obtain⟨Z,d,x,t,b,rfl,l,i,q⟩:=h;obtain⟨u,N,rfl,j,B⟩:=vals2 r;cases (B);obtain⟨C,D,E,F,m,G,J⟩:=AV c.K t;have f:∀n,EP c _ A Q _ _:=λn=>⟨.bl b,H,I.tok n,rfl,q⟩
 cases d with
 |non=>cases fw l;cases i;exact dC I j .non C f
 |bl e=>cases hJ l;cases i;exact dC I j (.bl e) D f
 |int e=>cases bt l;cases i;exact dC I j (.int e) E f
 |str e=>cases cP l;cases i;exact dC I j (.str e) F f
 |lst p=>
  obtain⟨a,w,rfl,g,y⟩:=cZ l;cases i;rcases g with g|⟨o,g⟩
  .exact dC I j (.lst g) m f
  .exact dC I j (.dj g) m f
 |tup p=>
  obtain⟨a,w,rfl,_,g,y⟩:=fx l;cases i;cases j;exact PySem.W.kia_one PySem.W.kitx_tuple I.d5 (pW (K:=c.K) I g) G (λz=>nomatch z) f
 |dct O p=>
  obtain⟨a,w,rfl,_,g,y⟩:=l;cases i;exact dC I j (.dK g) J f
 |ref k=>cases i
abbrev tq(a:List Expr)(env:Env):Sem Bool:=forIn a true λc r=>if r=true then do let ok ←isTrue c env (eval c env);pure (ForInStep.yield ok)else pure (ForInStep.yield r)
variable{B1 M:Expr}{P2:Env}{l:Pos}{π:Scope}
theorem va(J:Nat->Shared->Prop)(a:∀n o,J n o->wpAny (model z A) O (pyNext H) (λr b=>match r with
   |none=>w4 (.ok .next) b
   |some v=>wpAny (model z A) O (letOwnedTupleGo M H v) (λ_ d=>wpAny (model z A) O (assign M P2 v) (λ_ e=>wpAny (model z A) O (tq E P2) (λok c=>
      if ok=true then wpAny (model z A) O (eval j P2) (λx f=>wpAny (model z A) O (call (.builtin "list.append") [Q0,x]) (λ_ g=>∃m,m<n/\J m g) (λ_ _=>False) f) (λ_ _=>False) c
      else ∃m,m<n/\J m c) (λ_ _=>False) e) (λ_ _=>False) d) (λ_ _=>False) b) (λ_ _=>False) o)(n:Nat)(h:J n o):codeAny (model z A) O (.compLoop (.ListComp j [⟨M,B1,E,0⟩] π l) 0 H Q0 P2) w4 o:=by
 refine codeAny_loop rfl J (λn o k=>?_) n h
 refine wpAny_noted ?_;rw[compTurn_list];refine wpAny_bind (wpAny_standAt (wpAny_bind (wpAny_mono (a n o k) (λr b i=>?_) (by grind))))
 cases r with
 |none=>exact wpAny_pure i
 |some v=>
  refine wpAny_bind (wpAny_mono i (λ_ d p=>wpAny_bind (wpAny_mono p (λ_ e q=>wpAny_bind (wpAny_mono q (λok c s=>?_) (by grind))) (by grind))) (by grind))
  cases ok with
  |false=>exact wpAny_pure ⟨rfl,by grind⟩
  |true=>
   refine wpAny_bind (wpAny_bind (wpAny_mono s (λx f t=>wpAny_bind (wpAny_mono t (λ_ g u=>wpAny_pure (wpAny_pure ⟨rfl,u⟩)) (by grind))) (by grind)))
theorem rS(h:∀y∈π.names,y.2=.free->∃c,P2.cells.lookup y.1=some c):
  ∃d,closureFor π P2=pure d/\(∀n c,(n,c)∈d->P2.cells.lookup n=some c)/\∀y∈π.names,y.2=.free->∃c,(y.1,c)∈d:=by
 have u:∀(l:List (Str×NameKind)) (b:List (Str×Addr)),(∀y∈l,y.2=.free->∃c,P2.cells.lookup y.1=some c)->(∀n c,(n,c)∈b->P2.cells.lookup n=some c) ->
   ∃d,(forIn l b λx r=>match x with | (name,kind)=>if (kind==NameKind.free)=true then do let a ←cellOf P2 name;pure (ForInStep.yield ((name,a)::r))else pure (ForInStep.yield r):Sem (List (Str×Addr)))=pure d /\
    (∀n c,(n,c)∈d->P2.cells.lookup n=some c)/\(∀p∈b,p∈d)/\∀y∈l,y.2=.free->∃c,(y.1,c)∈d:=by
  intro l
  induction l with
  |nil=>intro b _ o;exact⟨b,rfl,o,λ_ w=>w,λ_ D=>absurd D (by simp)⟩
  |cons y l C=>
   intro b A o;obtain⟨n,k⟩:=y;cases g:(k==NameKind.free)with
   |false=>
    obtain⟨d,e,i,s,j⟩:=C b (λz hz=>A z (by simp[hz])) o
    refine⟨d,?_,i,s,λz hz f=>?_⟩
    .rw[List.forIn_cons]
     simp only[g,Bool.false_eq_true,if_false];exact e
    .rcases List.mem_cons.mp hz with rfl|hz
     .have:k=.free:=f
      rw[this]at g;exact absurd g (by decide)
     .exact j z hz f
   |true=>
    have B:k=.free:=by simpa using g
    obtain⟨c,t⟩:=A (n,k) (by simp) B
    obtain⟨d,e,i,s,j⟩:=C ((n,c)::b) (λz hz=>A z (by simp[hz])) (λE F G=>by
     rcases List.mem_cons.mp G with q|q
     .cases q;exact t
     .exact o E F q)
    refine⟨d,?_,i,λp w=>s p (by simp[w]),λz hz f=>?_⟩
    .rw[List.forIn_cons]
     simp only[g,if_true]
     have:cellOf P2 n=pure c:=by
      have t:P2.cells.lookup n=some c:=t;unfold cellOf;rw[t]
     rw[this];exact e
    .rcases List.mem_cons.mp hz with rfl|hz
     .exact⟨c,s _ (by simp)⟩
     .exact j z hz f
 obtain⟨d,e,i,_,j⟩:=u π.names [] h (λ_ _ z=>absurd z (by simp))
 refine⟨d,?_,i,j⟩;unfold closureFor;have H:=congrArg (λm:Sem (List (Str×Addr))=>m >>= λr=>pure r) e
 exact H
noncomputable def blk(X:Cx)(scope:Scope)(a:List (Str×Addr))(C:Addr)(N:List Str)(s₀:Shared)(H₀:Hp)(fp:List Addr):Cx:=
 {X with N:=N,s₀:=s₀,H₀:=H₀,env:=compEnvC scope a C X.env,outer:=X.stack,stack:=X.stack,ex:=fp,fn:=λ_=>false,pn:=[],xe:=λ_ _=>False}
theorem lookup_mem{a b:Type}[BEq a][LawfulBEq a]:∀{l:List (a×b)}{x:a}{v:b},l.lookup x=some v->(x,v)∈l
 |[],_,_,h=>by simp at h
 | (n,k)::r,x,v,h=>by
  rw[List.lookup_cons]at h;cases e:x==n with
  |true=>grind
  |false=>rw[e]at h;exact List.mem_cons_of_mem _ (lookup_mem h)
theorem mem_lookup{a b:Type}[BEq a][LawfulBEq a]:∀{l:List (a×b)}{x:a}{v:b},(x,v)∈l->∃u,l.lookup x=some u
 |[],_,_,h=>by simp at h
 | (n,k)::r,x,v,h=>by
  rw[List.lookup_cons];cases e:x==n with
  |true=>simp
  |false=>
   rcases List.mem_cons.mp h with q|q
   .simp_all
   .exact mem_lookup q
theorem er{env:Env}:∀(names:List (Str×NameKind)) (x:Str),(names.map λ(n,k)=>if (k==NameKind.free&&env.scope.kind==.function&&env.kindOf n==some .cell)then (n,NameKind.cell)else (n,k)).lookup x =
  (names.lookup x).map λk=>if (k==NameKind.free&&env.scope.kind==.function&&env.kindOf x==some .cell)then NameKind.cell else k
 |[],_=>rfl
 | (n,k)::r,x=>by
  have a:=er (env:=env) r x
  grind
structure jG(X:Cx)(scope:Scope)(tn cn:List Str)(cap:List Nat):Prop where
 kind:scope.kind=.function
 cell:∀y∈scope.names,y.2≠.cell
 names:∀y∈scope.names,y.2=.local->scope.names.lookup y.1=some .local
 free:∀y∈scope.names,y.2=.free->X.env.kindOf y.1=some .cell\/X.env.kindOf y.1=some .free
 len:cn.length=cap.length
 at':∀(j i:Nat) (x:Str),cn[j]?=some x->cap[j]?=some i->X.N[i]?=some x/\scope.names.lookup x=some .free
noncomputable def pX(a:List Nat)(b:L2.St):L2.St:=a.map λi=>(b[i]?).join
def fK(b:Nat)(a:List Nat)(c:L2.St):L2.St:=List.replicate b none++pX a c
variable{J:List Nat}{Y g:List Str}{θ:Str->Option Value}
theorem vb{s:Shared}{K:List (Str×Addr)}(B:jG c π g Y J)(I:Inv c v J0 e s)(O:∀d∈r,lT c v e d)(R:∀d∈r,∃o,s.heap.get? d=some o)(F:∀n a,(n,a)∈K->c.env.cells.lookup n=some a)(c2:∀y∈π.names,y.2=.free->∃a,(y.1,a)∈K)(P:∀d o,s.heap.get? d=some o->w.get? d=some o)(C:∃n,w.get? s.heap.objs.size=some {cls:=.type "list",data:=.seq ([]:List Value).toArray n})(ns:w.Ns (s.heap.objs.size+1) θ):
  Inv (blk c π K (s.heap.objs.size+1) (g++Y) s e r) [] (fK g.length J J0) (upd e s.heap.objs.size (.lst [])) {s with heap:=w,toks:=b}:=by
 have S:∀d o,s.heap.get? d=some o->d≠s.heap.objs.size:=λd o f=>Nat.ne_of_lt (Heap.lt_size f)
 have cell:∀x a,K.lookup x=some a->∃h,s.heap.IsCell a h:=λx a f=>I.cell x a (F x a (lookup_mem f))
 have T:∀x a,K.lookup x=some a->a≠s.heap.objs.size+1/\a≠s.heap.objs.size:=λx a f=>by
  obtain⟨h,o,G,_⟩:=cell x a f;exact⟨(λd o f=>Nat.ne_of_lt (Nat.lt_succ_of_lt (Heap.lt_size f))) a o G,S a o G⟩
 have U:∀d∈r,d<s.heap.objs.size:=λd t=>let ⟨o,f⟩:=R d t;Heap.lt_size f
 have fr:=I.hok.fresh (Nat.le_refl s.heap.objs.size);obtain⟨nd,C⟩:=C
 refine⟨⟨I.ok.mod,B.kind,I.ok.glob,I.ok.blt,Nat.le_succ _,λx y a H l=>?_,λx m=>?_,λx a f _=>absurd (show false=true from f) Bool.false_ne_true,I.ok.hd,I.ok.frames,.inl rfl,λd t=>⟨?_,λx a f z=>?_⟩,λd o f=>I.bs d o f,Nat.le_trans I.ok.rg I.sz,λd o f t=>?_,λd t V=>?_,I.stack,I.j_⟩,
  rfl,I.bare,?_,⟨θ,ns,λi x h H l e3=>?_⟩,λx a f=>?_,?_,λx a f=>?_,λp hp=>absurd (show p∈([]:List (Addr×Obj))from hp) (by simp),?_,?_⟩
 .exact I.ok.inj x y a (F x a (lookup_mem H)) (F y a (lookup_mem l))
 .have m:(relabel π c.env).names.lookup x=some .cell\/(relabel π c.env).names.lookup x=some .free:=m
  unfold relabel at m;simp only[er]at m;cases q:π.names.lookup x with
  |none=>rw[q]at m;simp at m
  |some k=>
   rw[q]at m;have hm:=lookup_mem q
   have D:k=.free:=by
    by_cases D:k=.free
    .exact D
    .have X:(k==NameKind.free)=false:=by simpa using D
     rw[Option.map_some]at m;simp only[X,Bool.false_and,Bool.false_eq_true,if_false,Option.some.injEq]at m;rcases m with z|z
     .exact absurd z (B.cell _ hm)
     .exact z
   obtain⟨a,Z⟩:=c2 _ hm D;exact mem_lookup Z
 .exact Nat.ne_of_lt (Nat.lt_succ_of_lt (U d t))
 .exact(O d t).2.2.2.2.1 x a (F x a (lookup_mem f)) z
 .rcases(O d t).2.2.2.1 with z|z
  .exact I.ok.lR d o f z
  .exact absurd (Nat.lt_of_lt_of_le (Heap.lt_size (I.ok.bs d o f).1) z) (Nat.lt_irrefl _)
 .rcases List.mem_cons.mp (I.nL d V)with z|z
  .exact(O d t).2.1 z
  .exact(O d t).2.2.1 z
 .exact Un.laid P (Nat.le_refl _) fr
 .have L:i<g.length->False:=λM=>by
   have:(fK g.length J J0)[i]?=some none:=by
    unfold fK;rw[List.getElem?_append_left (by simpa using M),List.getElem?_replicate,if_pos M]
   rw[this]at l;cases l
  have M:g.length<=i:=Nat.le_of_not_lt L;have H:(g++Y)[i]?=some x:=H;rw[List.getElem?_append_right M]at H
  have j:(pX J J0)[i - g.length]?=some (some h):=by
   unfold fK at l;rw[List.getElem?_append_right (by simpa using M)]at l
   simpa using l
  unfold pX at j;rw[List.getElem?_map]at j;cases q:J[i - g.length]? with
  |none=>rw[q]at j;cases j
  |some Q=>
   rw[q]at j;have l:(J0[Q]?).join=some h:=by simpa using j
   have e4:J0[Q]?=some (some h):=by
    cases q2:J0[Q]? with
    |none=>rw[q2]at l;cases l
    |some z=>simp_all
   obtain⟨hN,E⟩:=B.at' _ _ _ H q;have D:=B.free _ (lookup_mem E) rfl
   have N:sO c.env.scope x:=by
    rcases D with z|z
    .exact .inr (.inl z)
    .exact .inr (.inr z)
   obtain⟨m0,d0,a0⟩:=I.loc;obtain⟨u,ru,lk⟩:=a0 Q x h hN e4 N;refine⟨u,ru,.inr ⟨?_,?_⟩⟩
   .show(relabel π c.env).names.lookup x=some .cell\/(relabel π c.env).names.lookup x=some .free
    unfold relabel;simp only[er,E,Option.map_some];split
    .exact .inl rfl
    .exact .inr rfl
   .have lk:∃a,c.env.cells.lookup x=some a/\s.heap.IsCell a (some u):=by
     rcases lk with ⟨z,_⟩|⟨_,z⟩
     .rcases D with y|y<;>rw[y]at z<;>cases z
     .exact z
    obtain⟨a,Z,b0⟩:=lk;obtain⟨c',c0⟩:=c2 _ (lookup_mem E) rfl;obtain⟨e0,A⟩:=mem_lookup c0;have:=F _ _ (lookup_mem A);rw[Z]at this;cases this
    obtain⟨o,G,C⟩:=b0;exact⟨a,A,o,P _ _ G,C⟩
 .obtain⟨h,o,G,C⟩:=cell x a f
  exact⟨h,o,P _ _ G,C⟩
 .show upd e s.heap.objs.size (.lst []) (s.heap.objs.size+1)=none
  rw[av (Nat.succ_ne_self _)];exact I.hok.fresh (Nat.le_succ _)
 .refine⟨?_,λhz=>absurd (show false=true from hz) Bool.false_ne_true⟩
  rw[av (T x a f).2];exact(I.cI x a (F x a (lookup_mem f))).1
 .refine I.hok.laid P (Nat.le_refl _) ⟨Nat.zero_le _,[],nd,.nil,C⟩
 .show(fK g.length J J0).length=(g++Y).length
  unfold fK pX;rw[List.length_append,List.length_append,List.length_replicate,List.length_map,B.len]
def AW(X:Cx)(a:List Expr)(t:TT):Prop:=∀(pins:List (Addr×Obj)) (s:Shared) (b:L2.St) (H:Hp) (Q:Bool->Hp->Prop),Inv X pins b H s->t b H Q->wpAny (model X.prog X.w) X.A (tq a X.env) (TP X pins b Q) X.xe s
theorem AX:AW c [] (λ_ H Q=>Q true H):=λpins s a H Q I h=>wpAny_pure ⟨H,I,h⟩
theorem AY(h:PT c j P1):AW c [j] P1:=λpins s a H Q I q=>wpAny_tests_one (h _ s a H Q I q)
def mO(o:TI)(p:Nat)(f:List Nat)(g:TG)(q:TT)(r:TE):TE:=λh H Q=>o h H λJ j=>∀D,j D=none->∃W:Nat->Nat->List V->Hp->Prop,(∃m,W 0 m [] (upd j D (.lst []))) /\
 ∀i m a c,W i m a c->c D=some (.lst a)/\((J.stop i c/\Q (.ref D) c)\/(J.go i c/\a.length<sizeLine/\∀x k,J.KA i c x k->g x (fK p f h) k λd s=>q d s λb l=>
  if b=true then r d l λy n=>n D=some (.lst a)/\∃e,e<m/\W (i+1) e (a++[y]) (upd n D (.lst (a++[y])))else ∃e,e<m/\W (i+1) e a l))
variable{C:Pos}{C4:TG}{z6:TI}
theorem mP{use:Option (Value->Sem Unit)}(hc:c.calm=true)(B:jG c π g Y J)(hi:PI c j M z6)(hs:∀x,foldedSetIterable M c.env x=pure x)(j0:∀k J0 e ε,C4 k J0 e ε->C4 k J0 e λR G=>ε R G/\R.length=J0.length/\∀s,g.length<=s->R[s]?=J0[s]?)(F:∀H f K L fp,PG (blk c π H f (g++Y) K L fp) j C4/\AW (blk c π H f (g++Y) K L fp) E P1/\PE (blk c π H f (g++Y) K L fp) B1 ν)(l0:∀(Z:Shared) (G:Hp) (f D:Addr) (m:Str->Option Value),Inv c v J0 G Z->Z.heap.Ns f m->G f=none->f≠c.env.locals->c.s₀.heap.objs.size<=f->(∀x t,c.env.cells.lookup x=some t->t≠f)->(∀p∈c.pn++v,p.1≠f)->ε (.ref D) G ->
   compPost (model c.prog c.w) c.A c.xe use U (.ref D) f (.ok .next) Z)(I:Inv c v J0 e o)(h:mO z6 g.length J C4 P1 ν J0 e ε):
  wpAny (model c.prog c.w) c.A (comprehension (.ListComp B1 [⟨j,M,E,0⟩] π l) π c.env C (newList []) false (eval M c.env) use) U c.xe o:=by
 have n0:∀y∈π.names,y.2=.free->∃t,c.env.cells.lookup y.1=some t:=λy hy hk=>I.ok.has y.1 (B.free y hy hk)
 obtain⟨H,o0,c1,c2⟩:=rS n0;refine wpAny_comprehension_free (use:=use) rfl hs o0 B.kind B.names ?_;refine bD (hi v o J0 e _ I h) λk s1 S=>bD S λu0 s2 h2=>?_
 obtain⟨it,fp,V,p0,N,a,X,T,a0,f2,h⟩:=h2;subst a;have fr:=X.hok.fresh (Nat.le_refl s2.heap.objs.size);obtain⟨W,⟨m0,w0⟩,b0⟩:=h s2.heap.objs.size fr;refine wpAny_newObj_type (wpAny_newFunctionEnv B.cell (λy hy=>absurd hy (by simp)) (λS ns sb=>?_) B.kind)
 dsimp only at ns sb ⊢;rw[(Heap.size_push _ _)]at ns sb ⊢;have kp:∀b d,s2.heap.get? b=some d->S.get? b=some d:=λb d a=>sb.extBut b d (Nat.ne_of_lt (Nat.lt_succ_of_lt (Heap.lt_size a))) (Heap.get?_push_of_some _ (Heap.get?_push_of_some _ a))
 have hD:∃n,S.get? s2.heap.objs.size=some {cls:=.type "list",data:=.seq ([]:List Value).toArray n}:=⟨0,sb.extBut _ _ (Nat.ne_of_lt (Nat.lt_succ_self _)) (Heap.get?_push_of_some _ (Heap.get?_push_size _ rfl))⟩;have c0:∀b∈fp,∃d,s2.heap.get? b=some d:=λb F=>let ⟨d,a,_⟩:=T.obj 0 _ a0 b F;⟨d,a⟩
 have I4:Inv (blk c π H (s2.heap.objs.size+1) (g++Y) s2 N fp) [] (fK g.length J J0) (upd N s2.heap.objs.size (.lst [])) {s2 with heap:=S,toks:=s2.toks+([]:List (Str×Value)).length}:=
  vb B X f2 c0 c1 c2 kp hD ns
 obtain⟨hg,ht,he⟩:=F H (s2.heap.objs.size+1) s2 N fp;have d0:V 0 S:=T.keep 0 _ _ a0 λb F d a=>kp b d a
 have q0:∀b∈fp,upd N s2.heap.objs.size (.lst []) b=none:=λb F=>by
  obtain⟨d,a⟩:=c0 b F;rw[av (Nat.ne_of_lt (Heap.lt_size a))];exact(f2 b F).1
 have O:∀{G:Hp}{pl:List (Addr×Obj)},(∀b∈fp,G b=none)->∀b∈fp,lT (blk c π H (s2.heap.objs.size+1) (g++Y) s2 N fp) [] G b:=λhn b F=>
  ⟨hn b F,(I4.ok.Ab b F).1,I4.ok.lS b F,.inl F,(I4.ok.Ab b F).2,λp hp=>absurd (show p∈([]:List (Addr×Obj))from hp) (by simp)⟩
 have Q:codeAny (model c.prog c.w) c.A (.compLoop (.ListComp B1 [⟨j,M,E,0⟩] π l) 0 (.ref it) (.ref s2.heap.objs.size) (compEnvC π H (s2.heap.objs.size+1) c.env))
   (compPost (model c.prog c.w) c.A c.xe use U (.ref s2.heap.objs.size) (s2.heap.objs.size+1)) {s2 with heap:=S,toks:=s2.toks+([]:List (Str×Value)).length}:=by
  refine va (λn Z=>∃i ys G,Inv (blk c π H (s2.heap.objs.size+1) (g++Y) s2 N fp) [] (fK g.length J J0) G Z/\V i Z.heap/\(∀b∈fp,G b=none)/\W i n ys G) ?_ m0 ⟨0,[],_,I4,d0,q0,w0⟩
  rintro n s5 ⟨i,ys,H5,I5,e0,g0,w5⟩;obtain⟨v0,r0⟩:=b0 i n ys H5 w5;rcases r0 with ⟨stop,qn⟩|⟨go,h0,step⟩
  .refine bD (T.done (blk c π H (s2.heap.objs.size+1) (g++Y) s2 N fp) rfl rfl rfl hc i [] s5 _ H5 _ I5 (O (pl:=[]) g0) e0 stop) λr s6 ⟨hr,I6⟩=>?_
   subst hr;obtain⟨mC,nC,_⟩:=I6.loc
   have I7:Inv c v J0 H5 s6:=by
    refine X.call' I6.os I6.base I6.hok I6.bare λb F=>?_
    obtain⟨f0,f1,f3,f4,f5,f6⟩:=f2 b F;exact⟨f4,f1,f5,f6⟩
   have hC:s2.heap.objs.size<=s2.heap.objs.size+1:=Nat.le_succ _;refine l0 s6 H5 (s2.heap.objs.size+1) s2.heap.objs.size mC I7 nC I6.free (Nat.ne_of_gt (Nat.lt_of_lt_of_le X.lt hC)) (Nat.le_trans X.sz hC) (λx t a z=>?_) (λp hp z=>?_) qn
   .obtain⟨k,q⟩:=X.cell x t a
    exact absurd (Nat.lt_of_lt_of_le q.lt (by rw[z];exact hC)) (Nat.lt_irrefl _)
   .exact absurd (Nat.lt_of_lt_of_le (Heap.lt_size (X.pin p hp).1) (by rw[z];exact hC)) (Nat.lt_irrefl _)
  .refine bD (T.item (blk c π H (s2.heap.objs.size+1) (g++Y) s2 N fp) rfl rfl rfl hc i [] s5 _ H5 _ I5 (O (pl:=[]) g0) e0 go) λr s6 ⟨u,hr,h6⟩=>?_
   subst hr;refine bD h6 λ_ s7 ⟨x,H7,I7,r7,y7,Nw,RJ⟩=>?_
   have s0:=I7.pinned (O (pl:=[]) RJ) (T.obj _ _ Nw);refine bD (hg _ s7 _ H7 x u _ s0 r7 (j0 _ _ _ _ (step x H7 y7))) λ_ s8 ⟨P,H8,I8,q8,l8,k8⟩=>?_
   refine bD (ht _ s8 P H8 _ I8 q8) λok s9 ⟨H9,I9,q9⟩=>?_
   have again:∀{sA:Shared}{HA:Hp},Inv (blk c π H (s2.heap.objs.size+1) (g++Y) s2 N fp) ([]++nO fp s7.heap) P HA sA->Inv (blk c π H (s2.heap.objs.size+1) (g++Y) s2 N fp) [] (fK g.length J J0) HA sA/\V (i+1) sA.heap/\∀b∈fp,HA b=none:=λ{sA HA} IA=>by
    refine⟨(IA.il (v:=[])).weak l8.symm λs k hj=>?_,T.keep _ _ _ Nw λb F d a=>(IA.pin (b,d) (List.mem_append_right _ (List.mem_append_right _ (ft F a)))).1,λb F=>?_⟩
    .have t0:g.length<=s:=by
      refine Nat.le_of_not_lt λi0=>?_
      have:(fK g.length J J0)[s]?=some none:=by
       unfold fK;rw[List.getElem?_append_left (by simpa using i0),List.getElem?_replicate,if_pos i0]
      rw[this]at hj;cases hj
     rw[k8 s t0];exact hj
    .obtain⟨d,a,_⟩:=T.obj _ _ Nw b F
     exact(IA.pin (b,d) (List.mem_append_right _ (List.mem_append_right _ (ft F a)))).2.1
   cases ok with
   |false=>
    grind
   |true=>
    rw[if_pos rfl]at q9 ⊢;refine bD (he _ s9 P H9 _ I9 q9) λy sB ⟨k,HB,IB,rB,RK,m',hm,w'⟩=>?_
    have hx:=mF (c:=blk c π H (s2.heap.objs.size+1) (g++Y) s2 N fp) _ sB P HB (.ref s2.heap.objs.size) [k] (.ref s2.heap.objs.size) [y] (λ_ G=>G=upd HB s2.heap.objs.size (.lst (ys++[k]))) IB rfl (.cons rB .nil)
     ⟨s2.heap.objs.size,ys,k,rfl,rfl,RK,h0,rfl⟩
    refine bD hx λ_ sC ⟨_,HC,IC,_,eC⟩=>?_
    subst eC;obtain⟨a1,a2,a3⟩:=again IC;exact⟨m',hm,i+1,ys++[k],_,a1,a2,a3,w'⟩
 exact codeAny_compStart_list Q (T.self c.A 0 _ _ _ d0 Q)
theorem AZ(t:c.calm=true)(B:jG c π g Y J)(u:PI c j M z6)(w:∀x,foldedSetIterable M c.env x=pure x)(n:∀v k H Q,C4 v k H Q->C4 v k H λi p=>Q i p/\i.length=k.length/\∀a,g.length<=a->i[a]?=k[a]?)(y:∀r C d f fp,PG (blk c π r C (g++Y) d f fp) j C4/\AW (blk c π r C (g++Y) d f fp) E P1/\PE (blk c π r C (g++Y) d f fp) B1 ν):
  PE c (.ListComp B1 [⟨j,M,E,0⟩] π l) (mO z6 g.length J C4 P1 ν):=by
 intro pins s k H Q I h;refine mP t B u w n y (λR p C D m z A F G K L N q=>⟨m,A,λS O=>⟨.ref D,p,z.turned (λb o P e=>O.extBut b o P e) F G (.inr K) L N,rfl,q⟩⟩) I h
variable{D1:Pos}
theorem rT(K:c.N.Nodup)(w:c.N[b]?=some d)(G:c.env.scope.names.lookup d=some .local)(x:swapsWith (.ListComp B1 [⟨j,M,E,0⟩] π l) (some (.Name d C)) D1.line c.env=pure true)(L:c.calm=true)(B:jG c π g Y J)(O:PI c j M z6)(P:∀d,foldedSetIterable M c.env d=pure d)(y:∀v t H Q,C4 v t H Q->C4 v t H λp z=>Q p z/\p.length=t.length/\∀i,g.length<=i->p[i]?=t[i]?)(R:∀A f k n fp,PG (blk c π A f (g++Y) k n fp) j C4/\AW (blk c π A f (g++Y) k n fp) E P1/\PE (blk c π A f (g++Y) k n fp) B1 ν):
  PS c (.Assign [.Name d C] (.ListComp B1 [⟨j,M,E,0⟩] π l) D1) (EB (mO z6 g.length J C4 P1 ν) (ik b)):=by
 intro pins s t H D I h;rw[exec_Assign_Name_used _ _ _ _ x];refine wpAny_bind (wpAny_standAt (wpAny_bind ?_));refine wpAny_bind ?_;refine mP L B O P y R (λs' z f S m T U V X Z h4 h5 q=>?_) I h
 refine wpAny_assign_Name (mw T K w (.inl G) (u:=.ref S) rfl (λs2 I2 ch=>?_) (.inr G))
 obtain⟨a,sb,ha⟩:=ch
 refine⟨m,U.sameBut sb (by
  grind),λh' F=>wpAny_pure (wpAny_pure ⟨_,z,I2.turned (λr o nb e=>F.extBut r o nb e) V X (.inr Z) h4 h5,q⟩)⟩
theorem PI.imp{t':TI}(h:PI c j M z6)(i:∀a H R,t' a H R->z6 a H R):PI c j M t':=λpins s a H R I q=>h _ s a H R I (i a H R q)
theorem kY:∀(n:Nat) (a:Int),(intsFrom a n).length=n
 |0,_=>rfl
 |n+1,a=>by rw[intsFrom,List.length_cons,kY n]
theorem ints_get:∀(n:Nat) (a:Int) (i:Nat) (d:D),(intsFrom a n)[i]?=some d->d=.int (a+i)
 |0,_,_,_,h=>by simp[intsFrom]at h
 |n+1,a,0,d,h=>by simp[intsFrom]at h;subst h;simp
 |n+1,a,i+1,d,h=>by
  rw[ints_get n _ i d h]
  grind
noncomputable def QE(x:Str):It:=⟨λi _=>i<x.cps.size,λi H v a=>a=H/\∃c,x.cps[i]?=some c/\v=.str ⟨#[c]⟩,λi _=>x.cps.size<=i⟩
theorem yd(f:Addr)(a:Str)(t:Tok)(y:String)(l:y="str_ascii_iterator"\/y="str_iterator"):Turn z A x j (QE a) [f] f (λi h=>h.IsStrIter f y a t i) where
 mem:=by simp
 obj:=λi h g b m=>by
  obtain⟨o,e,c,d⟩:=g
  simp_all
 keep:=λi h K g k=>let ⟨o,e,r⟩:=g;⟨o,k f (by simp) o e,r⟩
 item:=by
  intro X O P R n i pins s T H E I B g L;subst O P R;obtain⟨C,D,U,F,G,J⟩:=B f (by simp)
  have W:Walks X.prog X.w X.A f [f] [f] a.cps.size (SignAt a) (λi h=>h.IsStrIter f y a t i):=by
   rcases l with rfl|rfl
   .exact Walks.strAscii (I.ok.hd n) f a t
   .exact Walks.strWide (I.ok.hd n) f a t
  refine W.item i s _ _ L g λv K tk V p Y=>?_
  obtain⟨c,u,Z,rfl⟩:=V;obtain⟨o,e,q,d⟩:=id p;refine⟨_,rfl,pA e q d (by rcases l with rfl|rfl<;>decide) ⟨.str ⟨_⟩,H,(I.turned (λb o m e=>Y b o (by simp_all) e) C D F G J),⟨u,rfl⟩,⟨rfl,c,Z,rfl⟩,p,λb m=>(B b m).1⟩⟩
 done:=by
  intro X O P R n i pins s T H E I B g L;obtain⟨C,D,U,F,G,J⟩:=B f (by simp)
  have S:a.cps.size<=i:=L;rcases l with rfl|rfl
  .exact wpAny_pyNext_ascii_end (I.ok.hd n) g (by simp[S]) λK M=>⟨rfl,I.turned (λb o m e=>M b o m e) C D F G J⟩
  .exact wpAny_pyNext_wide_end (I.ok.hd n) g (by simp[S]) λK M=>⟨rfl,I.turned (λb o m e=>M b o m e) C D F G J⟩
 self:=λN i s Q E g h=>by
  rcases l with rfl|rfl
  .exact wpAny_pyIter_striter_ascii g h
  .exact wpAny_pyIter_striter_wide g h
theorem jH(n:Nat)(d:0<n):∀v b H Q,ik 0 v b H Q->ik 0 v b H λa c=>Q a c/\a.length=b.length/\∀j,n<=j->a[j]?=b[j]?:=λv b H Q h=>⟨h,by simp,by grind⟩
variable{A5 W6:TS}{Δ:Stmt}
theorem PS.imp(h:PS c Δ A5)(i:∀D a H,W6 D a H->A5 D a H):PS c Δ W6:=λpins s a H D I q=>h _ s a H D I (i D a H q)
variable{G2:List Stmt}
theorem gU.imp(h:gU c G2 A5)(i:∀D a H,W6 D a H->A5 D a H):gU c G2 W6:=λpins s a H D I q=>h _ s a H D I (i D a H q)
def jl:List Nat->DD
 |[]=>Hy
 |i::a=>DE (ik i) (jl a)
theorem mQ{X:Cx}{nms:List (Str×Pos)}(b:X.N.Nodup):∀(a:List Nat) (nms:List (Str×Pos)),a.length=nms.length->(∀(j i:Nat) (x:Str×Pos),a[j]?=some i->nms[j]?=some x->X.N[i]?=some x.1/\Loc X.env.scope x.1/\(X.fn x.1=true\/X.env.scope.names.lookup x.1=some .local)) ->
  Hx X (nms.map λx=>Expr.Name x.1 x.2) (jl a)
 |[],[],_,_=>Af
 |[],_::_,h,_=>by cases h
 |_::_,[],h,_=>by cases h
 |i::a,(x,f)::nms,g,h=>by
  obtain⟨c,d,e⟩:=h 0 i _ rfl rfl;exact we (ka b c d e) (mQ (nms:=nms) b a _ (by simp_all) λj i x k l=>h (j+1) i x (by simp_all) (by simp_all))
def tr:V->List V->Hp->VK->Prop:=λx b H Q=>∃l a k y,x=.ref l/\b=[.int k,y]/\H l=some (.lst a) /\ -(2 ^ 63)<=k/\k<2 ^ 63/\a.length<sizeLine/\Q .non (upd H l (.lst (om a k y)))
theorem jI{s:Shared}(I:Inv c v J0 e s)(p:∀a∈r,lT c v e a)(k:∀a o0,a∉r->s.heap.get? a=some o0->w.get? a=some o0)(x:s.heap.objs.size<=h)(y:cT c.prog c.w (upd e h o0) w h o0):Inv c v J0 (upd e h o0) {s with heap:=w,toks:=b}:=by
 have t:∀a u,e a=some u->a∉r:=λa u d z=>by rw[(p a z).1]at d;cases d
 have l:∀a u,e a=some u->upd e h o0 a=some u:=λa u d=>by rwa[av (aW d (I.hok.fresh x))]
 refine I.step (λa o=>?_) (λa o0 _ _ i d _=>k a o0 i d) (λa o0 _ _ i d _=>⟨_,k a o0 i d⟩) (λa u _ d n=>?_)
  (λa o0 i d=>⟨o0,k a o0 i d⟩) (λa J d=>l a _ d) (λa u g d=>l a _ d) (λa K d=>⟨#[],by simp_all⟩) (λm A=>?_) (λa u d=>?_) I.bare
 .obtain⟨L,B,M,C,D,E⟩:=p a o
  exact⟨C,B,D,E⟩
 .have:a≠h:=λz=>absurd (Heap.lt_size d) (by simp_all)
  rwa[av this]
 .obtain⟨o0,F,G,H,j⟩:=A
  exact⟨o0,F,G,k _ o0 (λz=>(p _ z).2.1 rfl) H,j⟩
 .by_cases o:a=h
  .subst o
   rw[aL]at d;grind
  .rw[av o]at d
   refine(I.hok a u d).stay (λf g i q=>k f g ?_ q) (λf q=>l f _ q) λf _ q=>l f _ q
   rcases i with z|z
   .simp_all
   .exact t f _ z
def QF(K:PySem.W.Frag)(a:Addr):It:=
 ⟨λi H=>∃b x,kF K H a b/\b[i]?=some x,λi H x c=>∃p,x=.ref p/\H p=none/\∀b,kF K H a b->∃v,b[i]?=some v/\c=upd H p (.tup [.int i,v]),λi H=>∃b,kF K H a b/\b.length<=i⟩
theorem vc{P:Program}(a e t:Addr)(C:e≠t):
  Turn P A x (.Tuple E b l) (QF x a) [e,t] e (λi h=>(∃j,IsEnum h e t i j)/\h.IsListIter t a i) where
 mem:=by simp
 obj:=λi h r f y=>by
  obtain⟨⟨j,g⟩,o,e2,c,d⟩:=r
  grind
 keep:=λi h T r k=>by
  obtain⟨⟨j,g⟩,n⟩:=r;exact⟨⟨j,k e (by simp) _ g⟩,n.at λo q=>k t (by simp) o q⟩
 item:=by
  intro X J K L U i pins s σ H B I F r M;subst J K L;obtain⟨xs,m,G,V⟩:=M;obtain⟨⟨j,g⟩,n⟩:=r;obtain⟨N,O,p,hz⟩:=I.list G;obtain⟨u,hu,ru⟩:=O.get V;refine wpAny_pyNext_enum_item g n p.isList (by simpa using hu) C λT so si tu sz kp=>?_
  refine⟨_,rfl,wpAny_letOwnedTupleGo_enum so λY se Q=>?_⟩
  have D:=Heap.lt_size g;refine⟨.ref _,_,?_,rfl,⟨_,rfl,I.hok.fresh (Nat.le_refl _),λys hy=>⟨m,by rwa[I.pw hy G],rfl⟩⟩,⟨⟨u,by grind⟩,?_⟩,λf y=>?_⟩
  .have R:IsTup Y _ _:=⟨_,(Q.extBut _ _ (Nat.ne_of_gt D) tu),rfl,_,rfl⟩
   have S:cT X.prog X.w (upd H s.heap.objs.size (.tup [.int i,m])) Y _ (.tup [.int i,m]):=⟨by rw[sizeLine_eq];simp,_,.cons ⟨_,rfl⟩ (.cons ru .nil),R⟩
   have:=jI (b:=s.toks+1) I F (λf o y q=>by
   have Z:f≠e:=λz=>y (by simp[z])
   have h3:f≠t:=λz=>y (by simp[z])
   exact Q.extBut f o Z (kp f o Z h3 q)) (Nat.le_refl _) S
   exact this
  .exact si.extBut Q.extBut (Ne.symm C)
  .rw[av (Nat.ne_of_lt (by
    rcases List.mem_cons.mp y with z|z
    .subst z;exact D
    .have z:f=t:=by simpa using z
     subst z;obtain⟨o,q,_⟩:=n;exact Heap.lt_size q))]
   exact(F f y).1
 done:=by
  intro X J K L U i pins s σ H B I F r M;subst J K L;obtain⟨xs,G,V⟩:=M;obtain⟨⟨j,g⟩,n⟩:=r;obtain⟨N,O,p,hz⟩:=I.list G;obtain⟨f0,f1,f2,f3,f4,f5⟩:=F t (by simp)
  have hl:=O.length;exact wpAny_pyNext_enum_end (I.ok.hd U) g n p.isList (by simp;omega) λT eb=>⟨rfl,I.turned (λf o y e=>eb f o y e) f0 f1 f3 f4 f5⟩
 self:=λ_ _ _ _ _ r h=>by
  obtain⟨⟨j,g⟩,_⟩:=r;exact wpAny_pyIter_enum g h
def Nx(K:PySem.W.Frag)(c:TA):TI:=λd H R=>c d H λe b=>∃a,e=[.ref a]/\(∃f,kF K b a f)/\R (QF K a) b
theorem A9(i:Gl c "enumerate")(k:c.mg "enumerate"=none)(m:PA c [j] Q1)(n:starEach [j] c.env=[(false,eval j c.env)]):
  PI c (.Tuple E b l) (.Call (.Name "enumerate" C) [j] [] D1) (Nx c.K Q1):=by
 intro pins s o H R I h;refine Call_ (jf I i k boot_enumerate (PyProof.Rows.callWith_type1 (bD (m _ _ s o H _ I h) λD f ⟨F,H1,I1,p,q1⟩=>?_) n rfl))
 obtain⟨a,rfl,⟨G,t⟩,q⟩:=q1;cases p with
 |cons r u=>
  cases u;cases r;obtain⟨w,J,x,L⟩:=I1.list t;refine call_enumerate_list x.isList λM g y N A=>wpAny_pyIter_enum g ?_
  refine⟨_,_,_,_,H1,rfl,(I1.kept (t':=f.toks) A),vc a _ _ (by simp),⟨⟨_,g⟩,y⟩,λd B=>?_,q⟩
  have e:f.heap.objs.size<=d:=by
   rcases List.mem_cons.mp B with z|z
   .simp_all
   simp_all
  exact I1.wh e (I1.hok.fresh e)
theorem fy:∀(a:List D) (k:Nat),(dq k a).length=a.length
 |[],_=>rfl
 |d::a,k=>by rw[dq,List.length_cons,List.length_cons,fy a]
theorem iD:∀(a:List D) (k i:Nat) (d:D),(dq k a)[i]?=some d->∃x,a[i]?=some x/\d=.tup [.int (k+i:Nat),x]
 |[],_,_,_,h=>by simp[dq]at h
 |d::a,k,0,b,h=>by simp[dq]at h;simp_all
 |d::a,k,i+1,b,h=>by
  obtain⟨x,c,e⟩:=iD a _ i b h;exact⟨x,by simp_all,by grind⟩
theorem tv:∀{c:List D}{xs:List Str}{Z:Addr->Prop}{H:Hp}{a:List V}{b:List Value},iC c=some xs->ba Z H c a->Vals a b->StrsAre b xs
 |[],xs,Z,H,a,b,h,r,q=>by
  cases h;rw[r.nil_inv]at q;cases q;exact .nil
 |d::c,xs,Z,H,a,b,h,r,q=>by
  obtain⟨v,k,rfl,e,f⟩:=r.cons_inv;cases d with
  |str x=>
   obtain⟨l,g,rfl⟩:=Option.map_eq_some_iff.mp h;subst e;cases q with
   |cons i j=>
    obtain⟨t,rfl⟩:=i;exact .cons x t (tv g f j)
  |_=>cases h
def rJoin:V->List V->Hp->VK->Prop:=λx c H Q=>∃z Z b a y,x=.str z/\c=[y]/\Now Z H (.lst b) y/\iC b=some a/\z.length<=16/\(a.map (·.length)).sum+a.length<=1048576/\Q (.str (Txt.join z a)) H
theorem A_:Ha c "str.join" rJoin:=by
 intro pins s w H x A v B Q I b d h;obtain⟨z,Z,C,D,y,rfl,rfl,n,e,f,g,q⟩:=h;obtain⟨t,rfl⟩:=b;obtain⟨l,E,rfl,i,j⟩:=cZ n;obtain⟨u,rfl,m⟩:=d.one;cases m;obtain⟨o,a,p,F⟩:=I.list (mf i);exact join_listW p.isList (by simpa using tv e j a) f g λr k=>⟨.str _,H,I.tok _,⟨r,rfl⟩,q⟩
theorem vd:HY c "list.insert" tr:=by
 intro pins s B H x C v D Q I g i h;obtain⟨l,j,k,y,rfl,rfl,d,m,o,E,q⟩:=h;cases g;obtain⟨u,f,rfl,p,b⟩:=i.two;obtain⟨t,rfl⟩:=p;obtain⟨z,a,n,r,w,e⟩:=I.uK d;refine call_meets F.slot_list_insert ⟨_,e,rfl⟩ F.entry_list_insert (F.args_list_insert_3 _ _ _) (AutoListH.list_insert_list_int_val_1 l _ n k t f (by rw[fitsIndex_both m o];simp) (by grind)) ⟨e,?_⟩
 refine⟨.non,_,I.wK (W3:=om a k f) d e ?_ ?_ ?_,rfl,q⟩
 .have G:(if k<0 then (k+(a.toArray.size)).toNat else min k.toNat a.toArray.size)=HT.ji a.length 0 (some k):=by rfl
  unfold om
  grind
 .have A:HT.ji j.length 0 (some k)=HT.ji a.length 0 (some k):=by rw[w]
  unfold om;rw[A];exact(r.take _).append (.cons b (r.drop _))
 .unfold om
  grind
theorem Ba(g:PE c j ν)(i:PE c (.BoolOp .And (M::E) l) C2):PE c (.BoolOp .And (j::M::E) l) (λb H Q=>ν b H λx e=>∃a,pB c.K x e a/\if a=true then C2 b e Q else Q x e):=by
 intro pins s b H Q I h;refine BoolOp_and (bD (g _ s b H _ I h) λv k ⟨x,e,I1,r1,a,t1,q1⟩=>?_)
 refine bD (nR _ k b e x v (λd f=>d=a/\f=e) I1 r1 ⟨a,t1,rfl,rfl⟩) λd m ⟨f,I2,e1,e2⟩=>?_
 subst e1 e2;cases d with
 |true=>exact i _ m b f Q I2 q1
 |false=>exact⟨x,f,I2,r1,q1⟩
theorem Fe(g:PE c j ν)(i:PE c (.BoolOp .Or (M::E) l) C2):PE c (.BoolOp .Or (j::M::E) l) (λb H Q=>ν b H λx e=>∃a,pB c.K x e a/\if a=true then Q x e else C2 b e Q):=by
 intro pins s b H Q I h;refine BoolOp_or (bD (g _ s b H _ I h) λv k ⟨x,e,I1,r1,a,t1,q1⟩=>?_)
 refine bD (nR _ k b e x v (λd f=>d=a/\f=e) I1 r1 ⟨a,t1,rfl,rfl⟩) λd m ⟨f,I2,e1,e2⟩=>?_
 subst e1 e2;cases d with
 |false=>exact i _ m b f Q I2 q1
 |true=>exact⟨x,f,I2,r1,q1⟩
theorem Bb(g:PE c j ν):PE c (.UnaryOp .Not j l) (λe H Q=>ν e H λx b=>∃a,pB c.K x b a/\Q (.bl (!a)) b):=by
 intro pins s e H Q I h;refine UnaryOp_ (bD (g _ s e H _ I h) λv i ⟨x,b,I1,r1,a,t1,q1⟩=>?_)
 refine not_of (bD (nR _ i e b x v (λd f=>d=a/\f=b) I1 r1 ⟨a,t1,rfl,rfl⟩) λd k ⟨f,I2,e1,e2⟩=>?_)
 subst e1 e2;exact⟨.bl _,f,I2,rfl,q1⟩
theorem ec.nw(h:ec y C1 n e ο m u):Now n ο m u:=by
 cases y with
 |true=>exact h.now
 |false=>exact(h.weak).now
noncomputable def IE(a:Scope)(x:Str):Bool:=match a.names.lookup x with
 |some .local|some .cell|some .free=>true
 |_=>false
noncomputable def ye(a:Scope)(x:Str):Bool:=match a.names.lookup x with
 |some .local|some .cell=>true
 |_=>false
noncomputable def Bc(a:Scope)(x:Str):Bool:=a.names.lookup x==some .globalImplicit
noncomputable def okN(x:Str):Bool := !(x==("__debug__":Str))&&!(x==("__classdict__":Str))&&!(x==("__name__":Str))
noncomputable def Ff(N:List Str)(x:Str):Option Nat:=N.findIdx? (· == x)
def mR(a:Scope)(N:List Str)(x:Str):Option Nat:=if IE a x&&okN x then Ff N x else none
def DX(x:Str):Option Ty:=[Ty.int,.str,.bool,.list,.tuple,.dict].find? (λt=>t.nm==x)
noncomputable def isStar:Expr->Bool
 |.Starred _ _=>true
 |_=>false
noncomputable def isSlice:Expr->Bool
 |.Slice _ _ _ _=>true
 |_=>false
noncomputable def isSet:Expr->Bool
 |.Set _ _ _=>true
 |_=>false
noncomputable def Fg(scope a:Scope):Scope:={scope with names:=scope.names.map λ(n,k)=>if (k==.free&&a.kind==.function&&a.names.lookup n==some .cell)then (n,.cell)else (n,k)}
noncomputable def eL(scope:Scope):List Str:=(scope.names.filter λy=>y.2==.free).map (·.1)
def rU(a:Scope)(N:List Str):List Str->Option (List Nat)
 |[]=>some []
 |x::b=>do let i ←mR a N x;let c ←rU a N b;some (i::c)
def yf(scope:Scope)(sc:Scope)(x:Str):Bool:=
 scope.kind==.function&&scope.names.all (λy=>!(y.2==.cell))&&scope.names.all (λy=>!(y.2==.local)||scope.names.lookup y.1==some .local) &&
 scope.names.all (λy=>!(y.2==.free)||(sc.names.lookup y.1==some .cell||sc.names.lookup y.1==some .free)&&scope.names.lookup y.1==some .free) &&
 scope.names.lookup x==some .local&&decide ((x::eL scope).Nodup)
noncomputable def kZ:List Comprehension->Option (Str×Pos×Expr×List Expr)
 |[⟨.Name x p,iter,a,0⟩]=>some (x,p,iter,a)
 |_=>none
variable{u8:List Comprehension}
theorem mS(h:kZ u8=some (d,l,j,E)):u8=[⟨.Name d l,j,E,0⟩]:=by
 unfold kZ at h
 grind
theorem yg(h:Ff g d=some b):g[b]?=some d:=by
 obtain⟨a,c,_⟩:=List.findIdx?_eq_some_iff_getElem.mp h
 simp_all
theorem tw(h:mR π g d=some b):g[b]?=some d/\sO π d/\(d==("__debug__":Str))=false/\(d==("__classdict__":Str))=false:=by
 unfold mR at h;split at h
 .rename_i a
  simp only[Bool.and_eq_true,okN,Bool.not_eq_true']at a;refine⟨yg h,?_,a.2.1.1,a.2.1.2⟩;have c:=a.1;unfold IE at c;unfold sO
  grind
 .cases h
theorem tx(h:okN d=true):(d==("__debug__":Str))=false/\(d==("__classdict__":Str))=false/\d≠"__name__":=by
 simp only[okN,Bool.and_eq_true,Bool.not_eq_true']at h
 simp_all
noncomputable def dO:List Str:=["len","all","any","list","tuple","int","min","max","bool","isinstance","str","dict","range","sorted","enumerate","reversed","set"]
theorem bK(h:isStar j=false):starEach (j::E) P2=(false,eval j P2)::starEach E P2:=by
 cases j<;>first|rfl | (cases h)
theorem bL{env:Env}{pos:Pos}:∀{a:List Expr},(∀e∈a,isStar e=false)->(backTo pos (starEach a env)).any (·.1)=false
 |[],_=>rfl
 |e::a,h=>by
  rw[bK (h e (by simp))]
  show(false||(backTo _ _).any _)=false
  rw[bL λz hz=>h z (by simp[hz])]
  rfl
variable{u3:Ty}
theorem IF(h:DX d=some u3):d=u3.nm/\u3.nm∈dO:=by
 have a:=List.find?_some h;exact⟨(eq_of_beq a).symm,by cases u3<;>decide⟩
theorem yh{d:Scope}{N:List Str}:∀{xs:List Str}{a:List Nat},rU d N xs=some a->xs.length=a.length/\∀(j i:Nat) (x:Str),xs[j]?=some x->a[j]?=some i->N[i]?=some x
 |[],a,h=>by cases h;exact⟨rfl,λj i x e=>by simp at e⟩
 |x::xs,a,h=>by
  simp only[rU,Option.bind_eq_bind]at h;obtain⟨i,f,h⟩:=Option.bind_eq_some_iff.mp h;obtain⟨g,k,h⟩:=Option.bind_eq_some_iff.mp h;cases h;obtain⟨l,m⟩:=yh k;refine⟨by rw[List.length_cons,List.length_cons,l],λj n y b c=>?_⟩
  cases j with
  |zero=>simp at b c;subst b c;exact(tw f).1
  |succ j=>exact m j n y (by simpa using b) (by simpa using c)
theorem fZ(h:isSet j=false):∀x,foldedSetIterable j P2 x=pure x:=by
 intro x;cases j<;>first|rfl | (simp[isSet]at h)
theorem pY(h:isSet j=false):behindInMarks A2 j=false:=by
 cases j<;>first|rfl | (simp[isSet]at h)
def pZ(a:Scope)(N:List Str)(x:Str):Option Nat:=if ye a x&&okN x then Ff N x else none
noncomputable def hU:Expr->Bool
 |.ListComp .. |.SetComp .. |.DictComp ..=>true
 |_=>false
noncomputable def p_(a:Scope)(x:Str)(b:Pos)(e:Expr):Bool:=match e with
 |.ListComp _ _ s _=>a.names.lookup x==some .local&&b.line==e.pos.line&&!(s.names.any λ(n,k)=>n==x&&(k==.local||k==.cell))
 |_=>false
noncomputable def dr:List Expr->Option (List (Str×Pos))
 |[]=>some []
 |.Name x p::r=>(dr r).map ((x,p):: ·)
 |_=>none
def oA(a:Scope)(N:List Str):List (Str×Pos)->Option (List Nat)
 |[]=>some []
 |x::b=>do let i ←pZ a N x.1;let c ←oA a N b;some (i::c)
noncomputable def yi:Expr->Bool
 |.Call .. |.Name .. |.Subscript ..=>true
 |_=>false
theorem jJ:∀{a:List Expr}{nms:List (Str×Pos)},dr a=some nms->a=nms.map λx=>Expr.Name x.1 x.2
 |[],_,h=>by cases h;rfl
 |e::a,nms,h=>by
  unfold dr at h;split at h
  .grind
  .rename_i x p r q
   cases q;obtain⟨c,b,h⟩:=Option.map_eq_some_iff.mp h;subst h;rw[jJ b];rfl
  .cases h
theorem mT(env:Env):∀(nms:List (Str×Pos)),(assignEach (nms.map λx=>Expr.Name x.1 x.2) env).length=nms.length/\(assignEach (nms.map λx=>Expr.Name x.1 x.2) env).findIdx? (·.1)=none
 |[]=>⟨rfl,rfl⟩
 |x::r=>by
  obtain⟨a,b⟩:=mT _ r;refine⟨?_,?_⟩
  .show(assignEach _ _).length+1=_
   rw[a];rfl
  .show List.findIdx? _ ((false,_)::assignEach _ _)=none
   simp_all
def eZ(N b:List Str)(a:Scope):Bool:=
 a.kind==.function&&!a.isCoroutine&&!a.isGenerator&&decide N.Nodup&&decide (N.take b.length=b)&&b.all (ye a)&&a.names.all λy=>!(y.2==.free)
theorem iE(h:eZ g Y π=true):ir g Y π:=by
 simp only[eZ,Bool.and_eq_true,Bool.not_eq_true',decide_eq_true_eq,List.all_eq_true,beq_iff_eq]at h;obtain⟨⟨⟨⟨⟨⟨a,b⟩,c⟩,d⟩,f⟩,i⟩,l⟩:=h;refine⟨a,b,c,d,f,λx j=>?_,λy m e=>?_⟩
 .have k:=i x j
  unfold ye at k
  grind
 grind
noncomputable def Bd:Value->Bool
 |.type x=>x=="list"
 |_=>false
def qa(K:PySem.W.Frag):Bool:=K.all λp=>!Bd p.2.cls
theorem qb:∀{K:PySem.W.Frag}{a:Addr}{o:Obj},K.lookup a=some o->(a,o)∈K
 |[],_,_,h=>by cases h
 | (b,p)::K,a,o,h=>by
  rw[List.lookup_cons]at h;split at h
  .grind
  .exact List.mem_cons_of_mem _ (qb h)
theorem IG(b:qa x=true)(a:kF x e h I):Rd e h (.lst I):=by
 rcases a with a|⟨o,c,n,d,f,_⟩
 .exact a
 .have g:=qb d
  have:=List.all_eq_true.mp b _ g;rw[f]at this;exact absurd this (by decide)
noncomputable def yj(K:PySem.W.Frag)(x:Str):Bool:=match PySem.W.nsIn K mainGlobals x with
 |some none=>true
 |_=>false
def tA(K:PySem.W.Frag):Bool:=dO.all (yj K)
theorem yk(X:x.In w)(G:w.Ns mainGlobals θ)(b:tA x=true):∀a∈dO,θ a=none:=λa c=>by
 have:=List.all_eq_true.mp b a c;unfold yj at this;split at this
 .rename_i q;exact PySem.W.mg_none_of X G q
 .cases this
def IH(K:PySem.W.Frag)(tl:TE):TI:=λd H R=>tl d H λx b=>(∃a c,x=.ref a/\Rd b a (.lst c)/\R (Nd K a) b)\/(∃a c,x=.ref a/\Rd b a (.tup c)/\R (Nf K a) b)\/(∃y,x=.str y/\R (QE y) b)\/Ih R x b
theorem Be(n:PE c M ν):PI c j M (IH c.K ν):=by
 intro pins s p H R I h;refine bD (n pins s p H _ I h) λv m ⟨x,e,d,f,r⟩=>?_
 have g:∀b∈[m.heap.objs.size],lT c pins e b:=λb u=>by
  obtain rfl:b=m.heap.objs.size:=by simpa using u
  exact d.wh (Nat.le_refl _) (d.hok.fresh (Nat.le_refl _))
 rcases r with ⟨a,w,rfl,i,q⟩|⟨a,w,rfl,i,q⟩|⟨y,rfl,q⟩|q
 .cases f
  obtain⟨k,z,l,A⟩:=d.list (mf i);refine wpAny_pyIter_list l.isList ?_;exact⟨_,_,_,_,e,rfl,d.kept λb o M=>Heap.get?_push_of_some _ M,uD a _,⟨_,Heap.get?_push_size _ rfl,rfl,rfl⟩,g,q⟩
 .cases f
  obtain⟨k,z,l,A⟩:=d.tuple (vV i);refine wpAny_pyIter_tuple (l) ?_;exact⟨_,_,_,_,e,rfl,d.kept λb o M=>Heap.get?_push_of_some _ M,rh a _,⟨_,Heap.get?_push_size _ rfl,rfl,rfl⟩,g,q⟩
 .obtain⟨t,rfl⟩:=f
  refine wpAny_pyIter_strU ?_;exact⟨_,_,_,_,e,rfl,d.kept λb o M=>Heap.get?_push_of_some _ M,yd _ y t _ (by unfold strIterType;split<;>simp),⟨_,Heap.get?_push_size _ rfl,rfl,rfl⟩,g,q⟩
 .exact AD d f q
def II(a:Addr)(o:Obj):It:=
 ⟨λi H=>∃b,H a=some (.dj o (.dK b))/\i<b.length,λi H x d=>∃p,x=.ref p/\H p=none/\∀b,H a=some (.dj o (.dK b))->∃c,b[i]?=some c/\d=upd H p (.tup [kV c.1,c.2]),λi H=>∃b,H a=some (.dj o (.dK b))/\b.length<=i⟩
theorem vf:entryFor table "dict_itemiterator.__iter__"=some Builtin.«dict_keyiterator.__iter__» :=
 entryFor_alias (id':="dict_keyiterator.__iter__") (by kernel_rfl) (by rfl) (by decide +kernel) (by kernel_rfl)
variable{G:Addr}{M1:Value->Shared->Prop}{υ:Nat}
theorem rV(c:IsItemIter o.heap h G b t υ H Q0)(a:M1 (.ref h) o):wpAny (model z A) O (pyIter (.ref h)) M1 U o:=by
 have d:o.TypeIs (.ref h) _:=⟨_,c,rfl⟩;refine wpAny_pyIter_slot d F.slot_dict_itemiterator_iter (wpAny_call_entry F.slot_dict_itemiterator_iter d vf ?_ (F.args_dict_itemiterator_iter_1 _));exact wpAny_pure ⟨_,rfl,_,_,d,F.slot_dict_itemiterator_next.lookup,a⟩
variable{J8:Array DictEntry}{ω:Obj}
theorem rW(a g:Addr)(R:ω.data=.dict J8 t):
  Turn z A x (.Tuple E b l) (II a ω) [g] g (λi h=>∃ok u,IsItemIter h g a i J8.size t ok u) where
 mem:=by simp
 obj:=λi h d c j=>by
  grind
 keep:=λi h S d k=>by
  grind
 item:=by
  intro X D F G T i pins s σ H m I y d J;subst D F G;obtain⟨f,K,U⟩:=J;obtain⟨ok,u,d⟩:=d;obtain⟨vs,r,L,B,_⟩:=jj I.hok K R;have M:=List.getElem?_eq_getElem U;obtain⟨q,hv,V⟩:=fv r M;have o:=Heap.lt_size d;rw[B]at d;refine wpAny_pyNext_items_item d L (k:=q.1) (v:=q.2) hv λp S hk so tu sz kp=>?_
  refine⟨_,rfl,wpAny_letOwnedTupleGo_items so λC se Y=>?_⟩
  have N:∀c ω,c∉[g]->s.heap.get? c=some ω->C.get? c=some ω:=λc ω j q=>by
   have Z:c≠g:=λn=>j (by simp[n])
   exact Y.extBut c ω Z (kp c ω Z q)
  have O:=Y.extBut _ _ (Nat.ne_of_gt o) tu;refine⟨.ref s.heap.objs.size,upd H s.heap.objs.size (.tup [kV f[i].1,f[i].2]),?_,rfl,⟨_,rfl,I.hok.fresh (Nat.le_refl _),λa0 b0=>?_⟩,⟨_,_,by rw[B];exact se⟩,λc j=>?_⟩
  .have P:IsTup C s.heap.objs.size [p,q.2].toArray:=⟨_,O,rfl,_,rfl⟩
   have Q:cT X.prog X.w (upd H s.heap.objs.size (.tup [kV f[i].1,f[i].2])) C s.heap.objs.size (.tup [kV f[i].1,f[i].2]):=⟨by rw[sizeLine_eq];simp,[p,q.2],.cons (by rw[V.1];exact oa hk) (.cons V.2 .nil),P⟩
   have:=jI (s:=s) (w:=C) (b:=s.toks) I y N (Nat.le_refl _) Q;exact this
  .grind
  .have e:c=g:=by simpa using j
   subst e;rw[av (Nat.ne_of_lt o)];exact(y c j).1
 done:=by
  intro X D F G T i pins s σ H m I y d J;subst D F G;obtain⟨f,K,U⟩:=J;obtain⟨ok,u,d⟩:=d;obtain⟨vs,r,L,B,_⟩:=jj I.hok K R;obtain⟨f0,f1,f2,f3,f4,f5⟩:=y g (by simp)
  have hl:=r.length;rw[B]at d;exact wpAny_pyNext_items_end (I.ok.hd T) d L (by grind) λS eb=>⟨rfl,I.turned (b:=s.toks) (λc ω j e=>eb c ω j e) f0 f1 f3 f4 f5⟩
 self:=λ_ _ _ _ _ d h=>by
  obtain⟨ok,u,d⟩:=d;exact rV d h
def Ny(R:It->Hp->Prop)(x:V)(c:Hp):Prop:=∃a b,x=.ref a/\((c a=some (.dK b)/\∀o,R (II a o) (upd c a (.dj o (.dK b))))\/∃o,c a=some (.dj o (.dK b))/\R (II a o) c)
theorem ym(g:attributeBase j "items" c.env (eval j c.env)=eval j c.env)(i:(C.endLine==D1.line)=true)(o:PE c j ν):
  PI c (.Tuple E b l) (.Call (.Attribute j "items" C) [] [] D1) (λp H R=>ν p H (Ny R)):=by
 intro pins s p H R I h;refine wpAny_Call_method0_late g i (bD (o pins s p H _ I h) λv s1 ⟨x,H1,I1,X,q1⟩=>?_)
 obtain⟨a,k,rfl,q⟩:=q1;cases (X)
 have u:∀(f:Obj) (m:Array DictEntry) (n:Nat) (t:Hp),Inv c pins p t s1->t a=some (.dj f (.dK k))->f.data=.dict m n->R (II a f) t->wpAny (model c.prog c.w) c.A (call (.builtin "dict.items") [.ref a]) (λv Y=>wpAny (model c.prog c.w) c.A (pyIter v) (PIE c pins p (.Tuple E b l) R) c.xe Y) c.xe s1:=by
  intro f m n t D Z G J;obtain⟨K,r,S,hz,T⟩:=jj D.hok Z G;have U:s1.heap.DictOf _ a K:=let ⟨j,m,o,r⟩:=S;⟨j,m,n,o,r⟩
  refine call_meetsIn F.slot_dict_items U.typeIs F.entry_dict_items (F.args_dict_items_1 _) (meets_dict_items _ a T) ⟨⟨K,U⟩,?_⟩;generalize y:s1.heap.push _=L;have V:∀d j,s1.heap.get? d=some j->L.get? d=some j:=λd j e=>by rw[←y];exact Heap.get?_push_of_some _ e
  have hv:L.IsItemsView s1.heap.objs.size a:=by rw[←y];exact⟨_,Heap.get?_push_size _ rfl,rfl,rfl⟩
  have M:=S.at' λj e=>V a j e
  have N:=D.kept (t':=s1.toks) V;refine wpAny_pyIter_items hv M ?_;have I4:Inv c pins p t {s1 with heap:=L.push {cls:=.type "dict_itemiterator",data:=.fields #[.none,.bool false,.ref a,.int 0 0,.int K.length 0,.int n 0,.none,.none]} }:=N.kept λd j q=>Heap.get?_push_of_some _ q
  refine⟨_,_,_,_,t,rfl,I4,rW a _ G,?_,λd hb=>?_,J⟩
  .rw[hz]
   exact⟨_,_,Heap.get?_push_size _ rfl⟩
  .have z:=by simpa using hb
   rw[z];exact N.wh (Nat.le_refl _) (N.hok.fresh (Nat.le_refl _))
 rcases q with ⟨B,J⟩|⟨f,B,J⟩
 .obtain⟨O,P,t3⟩:=wQ I1 (.inl ⟨k,.inl B⟩)
  obtain⟨f,m,n,o,G,D⟩:=I1.sW B;exact⟨"dict",_,F.plainAttrs_dict,F.slot_dict_items,F.type_dict_items,O,P,Calls.callWith_builtin rfl (PySem.evalArgs_none (u f m n _ D aL G (J f)))⟩
 .obtain⟨O,P,t3⟩:=wQ I1 (.inl ⟨k,.inr ⟨f,B⟩⟩)
  obtain⟨o,_,T,K,r,o',m,n,Q,b,x2,x3⟩:=I1.hok a _ B;rw[o]at Q;exact⟨"dict",_,F.plainAttrs_dict,F.slot_dict_items,F.type_dict_items,O,P,Calls.callWith_builtin rfl (PySem.evalArgs_none (by grind))⟩
@[simp] theorem IJ:jT .non=some false:=rfl
@[simp] theorem KL:jT (.bl y)=some y:=rfl
@[simp] theorem IK:jT (.int P)=some (P != 0):=rfl
@[simp] theorem IL:jT (.lst q)=some (!q.isEmpty):=rfl
@[simp] theorem IP:jT (.tup q)=some (!q.isEmpty):=rfl
def AS(o:Bool)(f:List D->D):D->Out Rs
 |.tup a=>if small a.length=true then .ok (o,f a)else .bad
 |_=>.bad
@[simp] theorem IQ{f:List D->D}:AS y f (.tup q)=if small q.length=true then .ok (y,f q)else .bad:=rfl
@[simp] theorem KN:fQ .Add (.int P) (.int M0)=.ok (false,.int (P+M0)):=rfl
@[simp] theorem KO:fQ .Sub (.int P) (.int M0)=.ok (false,.int (P - M0)):=rfl
@[simp] theorem KP:fQ .Mult (.int P) (.int M0)=if (kP P||kP M0)=true then .ok (false,.int (P*M0))else .bad:=rfl
@[simp] theorem KQ:fQ .FloorDiv (.int P) (.int M0)=if (decide (0<M0)&&decide (M0<1073741824))=true then .ok (false,.int (P / M0))else .bad:=rfl
@[simp] theorem KR:fQ .Mod (.int P) (.int M0)=if decide (0<M0)=true then .ok (false,.int (P%M0))else .bad:=rfl
@[simp] theorem KS:fQ .Pow (.int P) (.int M0)=if (decide (0<=M0)&&decide (M0<=1000)&&decide (P.natAbs<2 ^ 64))=true then .ok (false,.int (P ^ M0.toNat))else .bad:=rfl
variable{T:Str}
@[simp] theorem IS:fQ .Add (.str d) (.str T)=if small (d.length+T.length)=true then .ok (false,.str (d++T))else .bad:=rfl
@[simp] theorem IT:fQ .Add (.lst q) (.lst j4)=if small (q.length+j4.length)=true then .ok (true,.lst (q++j4))else .bad:=rfl
@[simp] theorem Nz:d_ .Eq m X=if (aO 8 m&&aO 8 X)=true then .ok (eE m X)else .bad:=rfl
@[simp] theorem NA:d_ .NotEq m X=if (aO 8 m&&aO 8 X)=true then .ok (!eE m X)else .bad:=rfl
@[simp] theorem NB:d_ .Lt (.int P) (.int M0)=.ok (decide (P<M0)):=rfl
@[simp] theorem NC:d_ .LtE (.int P) (.int M0)=.ok (decide (P<=M0)):=rfl
@[simp] theorem cmp_gt:d_ .Gt (.int P) (.int M0)=.ok (decide (M0<P)):=rfl
@[simp] theorem ND:d_ .GtE (.int P) (.int M0)=.ok (decide (M0<=P)):=rfl
@[simp] theorem NF:d_ .In m X=inD m X:=rfl
@[simp] theorem KU:d_ .NotIn m X=inD m X >>= λb=>.ok (!b):=rfl
@[simp] theorem NG:d_ .Is m X=isD m X:=rfl
@[simp] theorem KW:d_ .IsNot m X=isD m X >>= λb=>.ok (!b):=rfl
@[simp] theorem NI:aO b .non=true:=by cases b<;>rfl
@[simp] theorem QG:aO b (.bl y)=true:=by cases b<;>rfl
@[simp] theorem NJ:aO b (.int P)=true:=by cases b<;>rfl
@[simp] theorem NK:aO b (.str d)=true:=by cases b<;>rfl
@[simp] theorem NL:aO (b+1) (.lst q)=q.all (aO b):=rfl
@[simp] theorem NM:aO (b+1) (.tup q)=q.all (aO b):=rfl
@[simp] theorem eq_int:eE (.int P) (.int M0)=(P==M0):=rfl
@[simp] theorem QI:eE (.bl y) (.bl C1)=(y==C1):=rfl
@[simp] theorem eq_str:eE (.str d) (.str T)=(d==T):=rfl
@[simp] theorem NN:eE (.lst q) (.lst j4)=eF q j4:=rfl
@[simp] theorem NO:eE (.tup q) (.tup j4)=eF q j4:=rfl
@[simp] theorem KY:eF [] []=true:=rfl
@[simp] theorem qf:eF (m::q) (X::j4)=(eE m X&&eF q j4):=rfl
@[simp] theorem NP:eF [] (m::q)=false:=rfl
@[simp] theorem NQ:eF (m::q) []=false:=rfl
theorem Bf(h:small d.length=true)(e:L2.kf d.cps.toList P=some b):rO (.str d) (.int P)=.ok (false,.str (bz b)):=by
 simp only[rO,h,if_pos,e]
variable{f8 i8:Option Int}
@[simp] theorem KZ:xJ (.lst q) f8 i8=.ok (true,.lst (dk q f8 i8)):=rfl
@[simp] theorem K_:xJ (.str d) f8 i8=if small d.length=true then .ok (false,.str ⟨(dk d.cps.toList f8 i8).toArray⟩)else .bad:=rfl
@[simp] theorem La:hG .len (.tup [.lst q])=.ok (false,.int q.length):=rfl
@[simp] theorem Lb:hG .len (.tup [.tup q])=.ok (false,.int q.length):=rfl
@[simp] theorem len_str:hG .len (.tup [.str d])=if small d.length=true then .ok (false,.int d.length)else .bad:=rfl
noncomputable def yn(f:List Bool->Bool):Option (List Bool)->Out Rs
 |some bs=>.ok (false,.bl (f bs))
 |none=>.bad
@[simp] theorem Hd{f:List Bool->Bool}:yn f (some v8)=.ok (false,.bl (f v8)):=rfl
@[simp] theorem Lc:hG .all (.tup [.lst q])=yn (λbs=>bs.all id) (eV q):=rfl
@[simp] theorem Ld:hG .any (.tup [.lst q])=yn (λbs=>bs.any id) (eV q):=rfl
@[simp] theorem IU:hG .list (.tup [.lst q])=.ok (true,.lst q):=rfl
@[simp] theorem IV:hG .list (.tup [.tup q])=.ok (true,.lst q):=rfl
@[simp] theorem He:hG .tuple (.tup [.lst q])=.ok (false,.tup q):=rfl
@[simp] theorem Hf:hG .tuple (.tup [.tup q])=.ok (false,.tup q):=rfl
@[simp] theorem int_int:hG .int (.tup [.int P])=.ok (false,.int P):=rfl
@[simp] theorem NR:hG .int (.tup [.bl y])=.ok (false,.int (if y then 1 else 0)):=rfl
@[simp] theorem Le:hG .min (.tup [.int P,.int M0])=.ok (false,.int (if M0<P then M0 else P)):=rfl
@[simp] theorem Lf:hG .max (.tup [.int P,.int M0])=.ok (false,.int (if M0>P then M0 else P)):=rfl
@[simp] theorem NS:xM .non u3=some false:=rfl
@[simp] theorem QJ{t:Ty}:xM (.bl y) t=some (t==.bool||t==.int):=rfl
@[simp] theorem ty_int:xM (.int P) u3=some (u3==.int):=rfl
@[simp] theorem ty_str:xM (.str d) u3=some (u3==.str):=rfl
@[simp] theorem NT:xM (.lst q) u3=some (u3==.list):=rfl
@[simp] theorem NU:xM (.tup q) u3=some (u3==.tuple):=rfl
@[simp] theorem NV{a:List L2.Key}:xM (.dct a q) u3=some (u3==.dict):=rfl
theorem aT(h:b<=100000):small b=true:=by
 unfold small;rw[decide_eq_true_eq,sizeLine_eq];omega
theorem iF(a : -(2 ^ 64)<P)(b:P<2 ^ 64):kP P=true:=decide_eq_true (by omega)
theorem ed(a : -(2 ^ 62)<P)(b:P<2 ^ 62):l9 P=true:=decide_eq_true (by omega)
theorem Fh{a:Type}{xs:List a}(c:0<=P)(d:P<xs.length):∃x,x∈xs/\L2.kf xs P=some x:=by
 have b:P.toNat<xs.length:=by omega
 refine⟨xs[P.toNat],by simp,?_⟩
 have h:=L2.cJ (List.getElem?_eq_getElem b)
 grind
@[simp] theorem in_str:inD (.str d) (.str T)=.ok (th d T):=rfl
theorem du(n:Nat):∀a:Int,(intsFrom a n).length=n:=by
 induction n with
 |zero=>intro a;rfl
 |succ n b=>simp[intsFrom,b]
theorem eM:∀{a:Int}{i:Nat}{d:D},(intsFrom a b)[i]?=some d->d=.int (a+i)/\i<b:=by
 induction b with
 |zero=>intro a i d h;simp[intsFrom]at h
 |succ b c=>
  intro a i d h;cases i with
  |zero=>simp[intsFrom]at h;grind
  |succ i=>
   simp[intsFrom]at h
   grind
noncomputable def L1(xs:List Str):D:=.lst (xs.map .str)
def LL(rs:List (List Str)):D:=.lst (rs.map L1)
theorem yo(xs:List W2)(k:Nat):dk xs (some (k:Int)) none=xs.drop k:=by
 unfold dk;rw[HT.pG,HT.iu];rcases Nat.le_total k _ with h|h
 .rw[Nat.min_eq_left h]
  exact List.take_of_length_le (by simp)
 simp_all
theorem rX(xs:List W2)(k:Nat):dk xs none (some (k:Int))=xs.take k:=by
 unfold dk;rw[HT.pG,HT.iu]
 grind
theorem yp(xs:List W2)(k m:Nat):dk xs (some (k:Int)) (some (m:Int))=(xs.drop k).take (m - k):=by
 unfold dk;rw[HT.iu,HT.iu];rcases Nat.le_total k xs.length with h|h
 .rw[Nat.min_eq_left h]
  rcases Nat.le_total m xs.length with h' |h'
  .rw[Nat.min_eq_left h']
  .rw[Nat.min_eq_right h',List.take_of_length_le (by simp),List.take_of_length_le (by simp;omega)]
 .rw[Nat.min_eq_right h,List.drop_eq_nil_of_le (Nat.le_refl _),List.drop_eq_nil_of_le h];simp
@[simp] theorem QK(xs:List W2):dk xs (some 1) none=xs.tail:=by rw[show(1)=((1:Nat):Int)from rfl,yo];simp
theorem Bg(n:Nat)(xs:List Str):(xs.map D.str).all (aO n)=true:=by
 simp
theorem Bh(xs:List Str)(n:Str):((xs.map D.str).any λy=>eE y (.str n))=decide (n∈xs):=by
 induction xs with
 |nil=>rfl
 |cons x xs a=>
  simp only[List.map_cons,List.any_cons,a,eq_str,List.mem_cons]
  grind
theorem Bi(xs:List Str)(n:Str):inD (.str n) (.lst (xs.map .str))=.ok (decide (n∈xs)):=by
 have:inD _ (.lst _)=if aO 8 (.str n)&&(xs.map D.str).all _ then .ok _ else .bad:=rfl
 rw[this,Bh];simp
theorem Bj(xs a:List Str):eF (xs.map .str) (a.map .str)=decide (xs=a):=by
 induction xs generalizing a with
 |nil=>cases a<;>simp
 |cons x xs b=>
  cases a with
  |nil=>simp
  |cons y a=>
   simp only[List.map_cons,qf,eq_str,b,List.cons.injEq]
   grind
theorem DY(xs a:List Str):eE (L1 xs) (L1 a)=decide (xs=a):=Bj xs a
theorem DZ(n:Nat)(xs:List Str):aO (n+1) (L1 xs)=true:=Bg n xs
theorem IW(n:Nat)(rs:List (List Str)):aO (n+2) (LL rs)=true:=by
 show(rs.map L1).all (aO (n+1))=true
 rw[List.all_eq_true];intro d a;obtain⟨x,_,rfl⟩:=List.mem_map.mp a;exact DZ n x
theorem IX(rs a:List (List Str)):eE (LL rs) (LL a)=decide (rs=a):=by
 show eF (rs.map L1) (a.map L1)=_
 induction rs generalizing a with
 |nil=>cases a<;>simp
 |cons x c b=>
  cases a with
  |nil=>simp
  |cons y d=>
   simp only[List.map_cons,qf,DY,b,List.cons.injEq]
   by_cases h:x=y
   .subst h;simp
   .simp[h]
noncomputable def freeOf(rs:List (List Str)):List Str->Option Str
 |[]=>none
 |n::_=>if ∃t∈rs,n∈t.tail then none else some n
variable{S:List (List Str)}
theorem dc(h:∃t∈S,d∈t.tail):freeOf S (d::g)=none:=if_pos h
theorem de(h:¬ ∃t∈S,d∈t.tail):freeOf S (d::g)=some d:=if_neg h
def free(rs:List (List Str)):Option Str:=rs.findSome? (freeOf rs)
noncomputable def Fi:Option Str->D
 |none=>.non
 |some n=>.str n
@[simp] theorem NW:isD (.str d) .non=.ok false:=rfl
@[simp] theorem Lg:isD .non .non=.ok true:=rfl
@[simp] theorem NX:isD (.int P) .non=.ok false:=rfl
@[simp] theorem NY:isD (.lst q) .non=.ok false:=rfl
noncomputable def cK(n:Str)(r:List Str):List Str:=if r.take 1=[n]then r.tail else r
inductive Mg:List (List Str)->List Str->Prop
 |done {rs}:(∀r∈rs,r=[])->Mg rs []
 |step {rs n o}:(∃r∈rs,r≠[])->free rs=some n->Mg (rs.map (cK n)) o->Mg rs (n::o)
theorem any_rows(rs:List (List Str)):eV (rs.map L1)=some (rs.map λr=>!r.isEmpty):=by
 induction rs with
 |nil=>rfl
 |cons r rs a=>
  simp only[List.map_cons,eV,a];simp[L1]
theorem any_true(h:∃r∈S,r≠[]):(S.map λr=>!r.isEmpty).any id=true:=by
 simp_all
theorem any_false(h:∀r∈S,r=[]):(S.map λr=>!r.isEmpty).any id=false:=by
 grind
abbrev Fn:=List D->Out Rs
def et(a:Int->Int->Int->Int)(F:Fn):Prop:=∀c t m,0<=t->t<100000->0<m->0<=a c t m/\a c t m<m/\F [.int c,.int t,.int m]=.ok (false,.int (a c t m))
noncomputable def SC(a:List Int):D:=.lst (a.map .int)
def eS(b:List Int->Nat->Int)(F:Fn):Prop:=∀a (k:Nat),F [SC a,.int k]=.ok (false,.int (b a k))
theorem ints_map(a:Int)(n:Nat):intsFrom a n=(List.range n).map λ(i:Nat)=>D.int (a+i):=by
 apply List.ext_getElem?;intro i
 by_cases h:i<n
 .have b:i<(intsFrom a n).length:=by rwa[du]
  have e:=(eM (List.getElem?_eq_getElem b)).1
  simp_all
 .rw[List.getElem?_eq_none (by rw[du];omega),List.getElem?_eq_none (by simp;omega)]
theorem jm(n:Nat):intsFrom 0 n=(List.range n).map λ(i:Nat)=>D.int i:=by
 rw[ints_map];congr 1;funext i;simp
noncomputable def abc:Str:="abcdefghijklmnopqrstuvwxyz"
theorem Fj:∀q:Nat,q<26->abc.cps.toList[q]?=some (97+q):=by decide
theorem tD(a:0<=P)(b:P<26):rO (.str abc) (.int P)=.ok (false,.str (bz (97+P.toNat))):=by
 refine Bf (aT (by decide)) ?_
 have:=L2.cJ (Fj P.toNat (by omega))
 grind
noncomputable def bs(a:Int->Int->Int->Int)(c:Int):List D:=(List.range 8).map λ(i:Nat)=>.int (a c i 26)
def Nm(b:Int->Int->Int->Int)(c:Int)(m a k:Nat)(z:Str):Prop:=
 z.length<=8/\if b c 10 4=1/\m<9 then z.length=k+1 else z.cps.toList[a]?=some (97+((b c a 26+k)%26).toNat)
theorem tE(h:free S=some d):(∃r∈S,∃t,r=d::t)/\∀t∈S,d∉t.tail:=by
 obtain⟨r,b,e⟩:=List.exists_of_findSome?_eq_some h;cases r with
 |nil=>cases e
 |cons x t=>
  by_cases a:∃t∈S,x∈t.tail
  .rw[dc a]at e;cases e
  .rw[de a]at e
   grind
theorem Bk(b:free S=some d):∀r∈S.map (cK d),d∉r:=by
 intro r c a;obtain⟨t,e,rfl⟩:=List.mem_map.mp c;have f:=(tE b).2 t e;unfold cK at a;split at a
 .grind
 .cases t with
  |nil=>simp at a
  |cons x t=>
   grind
theorem yq(h:T∈cK d g):T∈g:=by
 unfold cK at h;split at h
 .exact List.mem_of_mem_tail h
 .exact h
theorem oB(M:Mg S g):∀x∈g,∃r∈S,x∈r:=by
 induction M with
 |done h=>simp
 |@step S n g c d _ f=>
  intro x a;rcases List.mem_cons.mp a with e|e
  .obtain⟨⟨r,b,t,rfl⟩,_⟩:=tE d
   grind
  .obtain⟨r,b,a⟩:=f x e
   obtain⟨t,i,rfl⟩:=List.mem_map.mp b;exact⟨t,i,yq a⟩
theorem qh(M:Mg S g):g.Nodup:=by
 induction M with
 |done h=>simp
 |@step S n g a b c d=>
  refine List.nodup_cons.mpr ⟨λh=>?_,d⟩
  obtain⟨r,e,f⟩:=oB c n h;exact Bk b r e f
noncomputable def behind(rs:List (List Str)):List Str:=rs.flatMap List.tail
@[simp] theorem Lh:hG .list (.tup [L1 g])=.ok (true,L1 g):=rfl
@[simp] theorem Li:hG .list (.tup [LL S])=.ok (true,LL S):=rfl
@[simp] theorem QL:inD (.str d) (L1 g)=.ok (decide (d∈g)):=Bi g d
@[simp] theorem QM:xM (L1 g) u3=some (u3==.list):=rfl
@[simp] theorem RL:aO (b+1) (L1 g)=true:=DZ b g
@[simp] theorem RM:aO (b+2) (LL S)=true:=IW b S
@[simp] theorem RN:eE (L1 g) (L1 Y)=decide (g=Y):=DY g Y
@[simp] theorem RO{a:List (List Str)}:eE (LL S) (LL a)=decide (S=a):=IX S a
@[simp] theorem QN:isD (.bl y) (.bl C1)=.ok (y==C1):=rfl
structure NZ where
 name:Str
 qual:Str
 params:Arguments
 body:List Stmt
 scope:Scope
 ps:List Str
 cn:List Str
class jn where
 tab:Nat->NZ
 ta:Nat->Addr
inductive Cell where
 |lst (ds:List D)
 |dK (kvs:List (Key×D))
 |dT (kvs:List (List Key×D))
 |dF (kvs:List (Key×D))
 |ins (C:Str) (fs:List (Str×D))
 |fn (j:Nat) (vg:List D)
 |tb (j:Nat) (p:Pos) (b:Bool)
abbrev aJ:=List Cell
inductive ay (α:Type) where
 |ok (a:α) (Ω:aJ)
 |exc (x:D) (Ω:aJ)
 |bad
noncomputable def ay.bind{b c:Type}:ay b->(b->aJ->ay c)->ay c
 |.ok a Ω,f=>f a Ω
 |.exc x Ω,_=>.exc x Ω
 |.bad,_=>.bad
abbrev bp:=List (Option D)
inductive aG {α β:Type} (R:α->β->Prop):List α->List β->Prop where
 |nil:aG R [] []
 |cons {a b as bs}:R a b->aG R as bs->aG R (a::as) (b::bs)
namespace aG
section
variable{α β:Type}{R S:α->β->Prop}
theorem length:∀{a:List α}{bs:List β},aG R a bs->bs.length=a.length
 |_,_,.nil=>rfl
 |_,_,.cons _ t=>by rw[List.length_cons,List.length_cons,length t]
theorem imp(h:∀a b,R a b->S a b):∀{c:List α}{bs:List β},aG R c bs->aG S c bs
 |_,_,.nil=>.nil
 |_,_,.cons r t=>.cons (h _ _ r) (imp h t)
theorem get:∀{c:List α}{bs:List β}{i:Nat}{a:α},aG R c bs->c[i]?=some a->∃b,bs[i]?=some b/\R a b
 |_,_,_,_,.nil,e=>by simp at e
 |_,_,0,_,.cons r _,e=>by simp_all
 |_,_,i+1,a,.cons _ t,e=>by
  obtain⟨u,d,f⟩:=get t (by simpa using e)
  simp_all
theorem Fl:∀{c:List α}{bs:List β}{i:Nat}{b:β},aG R c bs->bs[i]?=some b->∃a,c[i]?=some a/\R a b
 |_,_,_,_,.nil,e=>by simp at e
 |_,_,0,_,.cons r _,e=>by simp_all
 |_,_,i+1,a,.cons _ t,e=>by
  obtain⟨u,d,f⟩:=Fl t (by simpa using e)
  simp_all
theorem append:∀{a b:List α}{bs c:List β},aG R a bs->aG R b c->aG R (a++b) (bs++c)
 |_,_,_,_,.nil,h=>h
 |_,_,_,_,.cons r t,h=>.cons r (append t h)
theorem one{a:α}{b:β}(h:R a b):aG R [a] [b]:=.cons h .nil
theorem take:∀{a:List α}{bs:List β} (n:Nat),aG R a bs->aG R (a.take n) (bs.take n)
 |_,_,0,_=>.nil
 |_,_,n+1,.nil=>.nil
 |_,_,n+1,.cons r t=>.cons r (take n t)
theorem drop:∀{a:List α}{bs:List β} (n:Nat),aG R a bs->aG R (a.drop n) (bs.drop n)
 |_,_,0,h=>h
 |_,_,n+1,.nil=>.nil
 |_,_,n+1,.cons r t=>drop n t
theorem reverse:∀{a:List α}{bs:List β},aG R a bs->aG R a.reverse bs.reverse
 |_,_,.nil=>.nil
 |_,_,.cons r t=>by rw[List.reverse_cons,List.reverse_cons];exact(reverse t).append (one r)
theorem nil_inv{bs:List β}(h:aG R [] bs):bs=[]:=by cases h;rfl
theorem cons_inv{a:α}{c:List α}{bs:List β}(h:aG R (a::c) bs):∃b r,bs=b::r/\R a b/\aG R c r:=by
 cases h with
 |cons r t=>exact⟨_,_,rfl,r,t⟩
end
end aG
mutual
noncomputable def au(d:List Addr)(Z:Addr->Prop)(H:Hp):D->V->Prop
 |.non,v=>v=.non
 |.bl b,v=>v=.bl b
 |.int i,v=>v=.int i
 |.str x,v=>v=.str x
 |.lst e,v=>∃a c,v=.ref a/\Z a/\Rd H a (.lst c)/\e_ d Z H e c
 |.tup e,v=>∃a c,v=.ref a/\Z a/\H a=some (.tup c)/\e_ d Z H e c
 |.dct _ _,_=>False
 |.ref n,v=>∃a,d[n]?=some a/\v=.ref a
noncomputable def e_(b:List Addr)(Z:Addr->Prop)(H:Hp):List D->List V->Prop
 |[],a=>a=[]
 |d::c,a=>∃v r,a=v::r/\au b Z H d v/\e_ b Z H c r
end
theorem bV{f:List Addr}{Z:Addr->Prop}{H:Hp}:∀{b:List D}{a:List V},e_ f Z H b a↔aG (au f Z H) b a
 |[],a=>⟨λh=>by subst h;exact .nil,λh=>h.nil_inv⟩
 |d::b,a=>by
  constructor
  .rintro⟨v,r,rfl,c,e⟩
   exact .cons c (bV.mp e)
  .intro h
   obtain⟨v,r,rfl,c,e⟩:=h.cons_inv;exact⟨v,r,rfl,c,bV.mpr e⟩
mutual
theorem au.mono{j b:List Addr}{Z l:Addr->Prop}{H m:Hp}(p:∀(n:Nat) (a:Addr),j[n]?=some a->b[n]?=some a)(k:∀a o,Z a->H a=some o->m a=some o)(z:∀a,Z a->l a):∀{d:D}{v:V},au j Z H d v->au b l m d v
 |.non,_,h=>by simpa only [au]using h
 |.bl _,_,h=>by simpa only [au]using h
 |.int _,_,h=>by simpa only [au]using h
 |.str _,_,h=>by simpa only [au]using h
 |.lst q,v,h=>by
  obtain⟨a,f,e,c,g,i⟩:=h;exact⟨a,f,e,z a c,oo (λo=>k a o c) g,e_.mono p k z i⟩
 |.tup q,v,h=>by
  obtain⟨a,f,e,c,g,i⟩:=h;exact⟨a,f,e,z a c,k a _ c g,e_.mono p k z i⟩
 |.dct r q,v,h=>by simp only[au]at h
 |.ref n,v,h=>by
  simp only[au]at h ⊢
  grind
theorem e_.mono{g b:List Addr}{Z i:Addr->Prop}{H j:Hp}(p:∀(n:Nat) (a:Addr),g[n]?=some a->b[n]?=some a)(k:∀a o,Z a->H a=some o->j a=some o)(z:∀a,Z a->i a):∀{c:List D}{f:List V},e_ g Z H c f->e_ b i j c f
 |[],_,h=>by simpa only [e_]using h
 |d::c,f,h=>by
  simp only[e_]at h ⊢;obtain⟨v,r,e,l,m⟩:=h;exact⟨v,r,e,au.mono p k z l,e_.mono p k z m⟩
end
def hV{K:Type}(R:D->V->Prop)(kvs:List (K×D))(a:List (K×V)):Prop:=aG (λp q=>p.1=q.1/\R p.2 q.2) kvs a
variable [jn]
def fA(g:Str->Addr->Prop)(R:D->V->Prop)(H:Hp)(a:Addr):Cell->Prop
 |.lst h=>∃e,H a=some (.lst e)/\aG R h e
 |.dK c=>∃b,H a=some (.dK b)/\hV R c b
 |.dT c=>False
 |.dF c=>∃o b,H a=some (.dj o (.dK b))/\hV R c b
 |.ins C fs=>∃f i d,g C f/\H a=some (.ins f i d)/\hV R fs d
 |_=>False
theorem hV.imp{K:Type}{R S:D->V->Prop}(h:∀d v,R d v->S d v){kvs:List (K×D)}{c:List (K×V)}(k:hV R kvs c):hV S kvs c:=aG.imp (λa b q=>⟨q.1,h _ _ q.2⟩) k
theorem fA.imp{n:Str->Addr->Prop}{R S:D->V->Prop}{H m:Hp}{a:Addr}{c:Cell}(h:∀d v,R d v->S d v)(e:∀o,H a=some o->m a=some o)(z:∀b o u,H b=some (.dj o u)->m b=some (.dj o u))(k:fA n R H a c):fA n S m a c:=by
 cases c with
 |lst t=>obtain⟨f,g,i⟩:=k;exact⟨f,e _ g,i.imp h⟩
 |dK l=>obtain⟨f,g,i⟩:=k;exact⟨f,e _ g,i.imp h⟩
 |dT l=>exact k.elim
 |dF l=>obtain⟨o,f,g,i⟩:=k;exact⟨o,f,e _ g,i.imp h⟩
 |ins C w=>obtain⟨q,r,f,s,g,i⟩:=k;exact⟨q,r,f,s,e _ g,i.imp h⟩
 |fn j vg=>exact k.elim
 |tb j p b=>exact k.elim
variable{B3:Cell}{i:Str->Addr->Prop}{n5:D->V->Prop}
theorem fA.some(k:fA i n5 e h B3):e h≠none:=by
 cases B3 with
 |lst g=>obtain⟨d,a,f⟩:=k;rw[a];simp
 |dK c=>obtain⟨d,a,f⟩:=k;rw[a];simp
 |dT c=>exact k.elim
 |dF c=>obtain⟨o,d,a,f⟩:=k;rw[a];simp
 |ins C l=>obtain⟨m,n,d,q,a,f⟩:=k;rw[a];simp
 |fn j vg=>exact k.elim
 |tb j p b=>exact k.elim
structure br(κ:Str->Addr->Prop)(α:List Addr)(Z:Addr->Prop)(Ω:aJ)(H:Hp):Prop where
 mU:α.Nodup
 vW:aG (λc a=>fA κ (au α Z H) H a c) Ω α
 sep:∀a∈α,¬ Z a
 dom:∀a,Z a->H a≠none
structure bW(α:List Addr)(Z:Addr->Prop)(H:Hp)(α':List Addr)(Z':Addr->Prop)(H':Hp):Prop where
 pre:∀(n:Nat) (a:Addr),α[n]?=some a->α'[n]?=some a
 sub:∀a,Z a->Z' a
 new:∀a,Z' a->Z a\/H a=none
 zY:∀a∈α',a∈α\/H a=none
 frm:∀a o,H a=some o->a∉α->H' a=some o
 has:∀a∈α,H' a≠none
 dj:∀a o u,H a=some (.dj o u)->H' a=some (.dj o u)
theorem bW.refl(h:∀a∈r,e a≠none):bW r n e r n e:=⟨λ_ _ b=>b,λ_ h=>h,λ_ h=>.inl h,λ_ h=>.inl h,λ_ _ b _=>b,h,λ_ _ _ b=>b⟩
variable{a:aJ}
theorem br.has(S:br i r n a e):∀b∈r,e b≠none:=λb f=>by
 obtain⟨d,g⟩:=List.mem_iff_getElem?.mp f;obtain⟨c,_,h⟩:=S.vW.Fl g;exact h.some
theorem bW.none{c b:List Addr}{Z f:Addr->Prop}{H d:Hp}(g:bW c Z H b f d){a:Addr}(h:d a=none):H a=none:=by
 cases q:H a with
 |none=>rfl
 |some o=>
  by_cases e:a∈c
  .exact absurd h (g.has a e)
  .rw[g.frm a o q e]at h;cases h
variable{C7:List Addr}{L8 P0:Addr->Prop}{M6:Hp}
theorem bW.trans(g:bW r n e i0 P0 ο)(d:bW i0 P0 ο C7 L8 M6):bW r n e C7 L8 M6 where
 pre:=λc a b=>d.pre c a (g.pre c a b)
 sub:=λa h=>d.sub a (g.sub a h)
 new:=λa h=>by
  rcases d.new a h with h|h
  .exact g.new a h
  .exact .inr (g.none h)
 zY:=λa h=>by
  rcases d.zY a h with h|h
  .exact g.zY a h
  .exact .inr (g.none h)
 frm:=λa o b f=>d.frm a o (g.frm a o b f) λh=>by
  rcases g.zY a h with h|h
  .exact f h
  grind
 has:=λa f=>by
  obtain⟨c,i⟩:=List.mem_iff_getElem?.mp f;exact d.has a (List.mem_of_getElem? (g.pre c a i))
 dj:=λa o u b=>d.dj a o u (g.dj a o u b)
theorem br.cA(S:br i r n a e)(g:bW r n e i0 P0 ο)(h:au r n e m u):au i0 P0 ο m u:=
 h.mono g.pre (λb o z c=>g.frm b o c λd=>S.sep b d z) g.sub
theorem br.iG(S:br i r n a e)(g:bW r n e i0 P0 ο)(h:aG (au r n e) q I):aG (au i0 P0 ο) q I:=h.imp λ_ _ b=>S.cA g b
theorem br.cell(S:br i r n a e)(d:a[b]?=some B3):∃c,r[b]?=some c/\fA i (au r n e) e c B3:=S.vW.get d
theorem br.len(S:br i r n a e):r.length=a.length:=S.vW.length
theorem br.mV(S:br i r n a e)(k:e h=none)(z:Prop)[Decidable z]:br i r (if z then Zp n h else n) a (upd e h o0)/\bW r n e r (if z then Zp n h else n) (upd e h o0):=by
 have p:∀f∈r,f≠h:=λf l j=>S.has f l (j▸k)
 have q:∀f,n f->f≠h:=λf m j=>S.dom f m (j▸k)
 have g:bW r n e r (if z then Zp n h else n) (upd e h o0):=⟨λ_ _ j=>j,(λf l=>by
  split
  .exact .inl l
  .exact l),λf l=>by
   split at l
   .rcases l with l|rfl
    .exact .inl l
    .exact .inr k
   .exact .inl l,λ_ l=>.inl l,λf u j _=>by rwa[av (aW j k)],λf l=>by rw[av (p f l)];exact S.has f l,λf s u j=>by rwa[av (aW j k)]⟩
 refine⟨⟨S.mU,?_,λf l m=>?_,λf l=>?_⟩,g⟩
 .refine S.vW.imp λc f t=>?_
  refine t.imp (λd v o=>S.cA g o) (λu j=>?_) λb s w j=>?_
  .rwa[av (aW j k)]
  .rwa[av (aW j k)]
 .split at m
  .rcases m with m|rfl
   .exact S.sep f l m
   .exact p _ l rfl
  .exact S.sep f l m
 .split at l
  .rcases l with l|rfl
   .rw[av (q f l)];exact S.dom f l
   .rw[aL];simp
  .rw[av (q f l)];exact S.dom f l
theorem br.laid(S:br i r n a e){o:HO}{c:Cell}(k:e h=none)(m:∀R:D->V->Prop,(∀d v,au r n e d v->R d v)->fA i R (upd e h o) h c):br i (r++[h]) n (a++[c]) (upd e h o)/\bW r n e (r++[h]) n (upd e h o):=by
 have p:∀f∈r,f≠h:=λf ha j=>S.has f ha (j▸k)
 have q:∀f,n f->f≠h:=λf s j=>S.dom f s (j▸k)
 have g:bW r n e (r++[h]) n (upd e h o):=⟨λt f j=>by rwa[List.getElem?_append_left (List.getElem?_eq_some_iff.mp j).1],λ_ k=>k,λ_ k=>.inl k,by grind,λf u j _=>by rwa[av (aW j k)],λf ha=>by rw[av (p f ha)];exact S.has f ha,λf w u j=>by rwa[av (aW j k)]⟩
 refine⟨⟨?_,?_,λf ha s=>?_,λf ha=>by rw[av (q f ha)];exact S.dom f ha⟩,g⟩
 .refine List.nodup_append.mpr ⟨S.mU,by simp,λf ha b x=>?_⟩
  simp_all
 .refine aG.append (S.vW.imp λc f m=>?_) (.one (m _ λd v l=>S.cA g l))
  refine m.imp (λd v l=>S.cA g l) (λu j=>?_) λb w y j=>?_
  .rwa[av (aW j k)]
  .rwa[av (aW j k)]
 .rcases List.mem_append.mp ha with ha|ha
  .exact S.sep f ha s
  simp_all
theorem br.put(S:br i r n a e){k:Nat}{c:Cell}(H:r[k]?=some h)(z:∀o0 u,e h≠some (.dj o0 u))(K:∀R:D->V->Prop,(∀d v,au r n e d v->R d v)->fA i R (upd e h o0) h c):br i r n (a.set k c) (upd e h o0)/\bW r n e r n (upd e h o0):=by
 have g:bW r n e r n (upd e h o0):=⟨λk f j=>j,λ_ m=>m,λ_ m=>.inl m,λf w=>.inl w,λf u j w=>by rw[av (λ(q:f=h)=>w (by rw[q];exact(List.mem_of_getElem? H)))];exact j,λf w=>by
   by_cases q:f=h
   .subst q;rw[aL];simp
   .rw[av q];exact S.has f w,λf x u j=>by rw[av (λq=>z x u (by rw[←q];exact j))];exact j⟩
 refine⟨⟨S.mU,?_,S.sep,λf w=>?_⟩,g⟩
 .have A:∀{s:List Cell}{o:List Addr}{k:Nat},o.Nodup->aG (λc f=>fA i (au r n e) e f c) s o->o[k]?=some h->aG (λc f=>fA i (au r n (upd e h o0)) (upd e h o0) f c) (s.set k c) o:=by
   intro s o k B C
   induction C generalizing k with
   |nil=>simp
   |@cons M E s o l t F=>
    intro j;have p:=List.nodup_cons.mp B;cases k with
    |zero=>
     simp at j;subst j;refine .cons (K _ λd v l=>S.cA g l) (aG.imp (λ_ _ q=>q) ?_)
     have:∀{s:List Cell}{o:List Addr},E∉o->aG (λc f=>fA i (au r n e) e f c) s o->aG (λc f=>fA i (au r n (upd e E o0)) (upd e E o0) f c) s o:=by
      intro s o y C
      induction C with
      |nil=>exact .nil
      |@cons N O s o l t F=>
       refine .cons (l.imp (λd v q=>S.cA g q) (λu j=>?_) λb x G j=>?_) (F λq=>y (List.mem_cons_of_mem _ q))
       .rw[av (λq=>y (by rw[q];simp))];exact j
       .rw[av (λq=>z x G (by rw[←q];exact j))];exact j
     exact this p.1 t
    |succ k=>
     have I:=by simpa using j
     refine .cons (l.imp (λd v q=>S.cA g q) (λu L=>?_) λb x G J=>?_) (F p.2 I)
     .rw[av (λq=>p.1 (by rw[q];exact List.mem_of_getElem? I))];exact L
     .rw[av (λq=>z x G (by rw[←q];exact J))];exact J
  exact A S.mU S.vW H
 .by_cases q:f=h
  .subst q;rw[aL];simp
  .rw[av q];exact S.dom f w
abbrev gX:=D->aJ->List Addr->(Addr->Prop)->Hp->Prop
def bE(f:Str->Addr->Prop)(Φ:gX)(g:List Addr)(Z:Addr->Prop)(H:Hp)(r:ay D)(Q:VK):Prop:=match r with
 |.ok d b=>∀v c a e,bW g Z H a e c->br f a e b c->au a e c d v->Q v c
 |.exc x b=>∀c a e,bW g Z H a e c->br f a e b c->Φ x b a e c
 |.bad=>False
structure cj(κ:Str->Addr->Prop)(QO:List Addr)(Z0:Addr->Prop)(H0:Hp)(α:List Addr)(Z:Addr->Prop)(Ω:aJ)(ρ:bp)(σ:L2.St)(H:Hp):Prop where
 st:br κ α Z Ω H
 gr:bW QO Z0 H0 α Z H
 len:σ.length=ρ.length
 val:∀(i:Nat) (d:D),ρ[i]?=some (some d)->∃v,σ[i]?=some (some v)/\au α Z H d v
abbrev EM:=bp->aJ->ay D
noncomputable def tO(b:Str->Addr->Prop)(Φ:gX)(a:List Addr)(f:Addr->Prop)(g:Hp)(m:EM)(c:bp)(d:aJ):TE:=λh H Q=>
 ∃e Z,cj b a f g e Z d c h H/\bE b Φ e Z H (m c d) Q
def bo(X:Cx)(b:Str->Addr->Prop)(Φ:gX)(e:Expr)(m:EM):Prop:=∀a c d f g,PE X e (tO b Φ a c d m f g)
variable{C3:ay D}{p:gX}
theorem bE.from(g:bW r n e i0 P0 ο)(h:bE i p r n e C3 ε):bE i p i0 P0 ο C3 ε:=by
 cases C3 with
 |ok d a=>exact λv b c f j=>h v b _ f (g.trans j)
 |exc x a=>exact λb c f j=>h b _ f (g.trans j)
 |bad=>exact h
variable{D8:D->aJ->ay D}
theorem bE.use{j:VK}(h:bE i p r n e (C3.bind D8) ε)(k:∀d a,C3=.ok d a->∀v c b f,bW r n e b f c->br i b f a c->au b f c d v->bE i p b f c (D8 d a) ε->j v c):bE i p r n e C3 j:=by
 cases C3 with
 |ok d a=>exact λv c b f g s q=>k d _ rfl v c _ f g s q (bE.from g h)
 |exc x a=>exact h
 |bad=>exact h
theorem bE.ret(S:br i r n a e)(q:au r n e m u)(h:bE i p r n e (.ok m a) ε):ε u e:=h u e r n (bW.refl S.has) S q
variable{B:bp}{η:aJ}
theorem cj.grow(S:cj i C7 L8 M6 r n a B J0 e)(g:bW r n e i0 P0 ο)(s:br i i0 P0 η ο):cj i C7 L8 M6 i0 P0 η B J0 ο:=
 ⟨s,S.gr.trans g,S.len,λb d c=>let ⟨v,f,h⟩:=S.val b d c;⟨v,f,S.st.cA g h⟩⟩
theorem bb(h:eW m=some u):au r n e m u:=by
 cases m<;>simp only[eW]at h<;>first|cases h;simp only[au]|cases h
theorem tF(h:fJ m=true):∃v,eW m=some v:=by
 cases m<;>first|exact⟨_,rfl⟩|cases h
theorem dv(h:eW m=some B2)(r:Rep n e m u):u=B2:=by
 cases m<;>simp only[eW]at h<;>first | (cases h;simpa only [Rep]using r)|cases h
noncomputable def bN{a b:Type}(f:a->Option b):List a->Option (List b)
 |[]=>some []
 |x::c=>match f x,bN f c with
  |some y,some d=>some (y::d)
  |_,_=>none
def fk(c:aJ):Nat->D->Option D
 |_,.non=>some .non
 |_,.bl b=>some (.bl b)
 |_,.int i=>some (.int i)
 |_,.str x=>some (.str x)
 |0,_=>none
 |n+1,.lst a=>(bN (fk c n) a).map .lst
 |n+1,.tup a=>(bN (fk c n) a).map .tup
 |n+1,.ref k=>match c[k]? with
  |some (.lst a)=>(bN (fk c n) a).map .lst
  |_=>none
 |_+1,.dct _ _=>none
def Bl(b:List Addr)(Z:Addr->Prop):Addr->Prop:=λa=>Z a\/a∈b
theorem eu{f:D->Option D}{R:D->V->Prop}{S:D->V->Prop}(g:∀d e v,f d=some e->R d v->S e v):∀{c a:List D}{b:List V},bN f c=some a->aG R c b->aG S a b
 |[],a,b,h,r=>by cases h;rw[r.nil_inv];exact .nil
 |d::c,a,b,h,r=>by
  simp only[bN]at h;split at h
  .rename_i y l m i
   cases h;obtain⟨v,j,rfl,n,k⟩:=r.cons_inv;exact .cons (by grind) (eu g i k)
  .cases h
theorem f9{Z:Addr->Prop}{H:Hp}:∀{a:List D}{b:List V},aG (Rep Z H) a b->ba Z H a b
 |_,_,.nil=>.nil
 |_,_,.cons r t=>.cons r (f9 t)
theorem ki(S:br i r n a e):∀(f:Nat) {d g:D}{v:V},fk a f d=some g->au r n e d v->Rep (Bl r n) e g v:=by
 intro f
 induction f with
 |zero=>
  intro d g v h b;cases d<;>simp only[fk]at h<;>first | (cases h;simpa only [Rep,au]using b)|cases h
 |succ f p=>
  intro d g v h b;cases d with
  |lst u=>
   obtain⟨w,j,rfl⟩:=Option.map_eq_some_iff.mp h;obtain⟨c,l,rfl,s,t,m⟩:=b;exact⟨c,l,rfl,.inl s,t,f9 (eu (S:=Rep _ e) (λd g v q b=>p q b) j (bV.mp m))⟩
  |tup u=>
   obtain⟨w,j,rfl⟩:=Option.map_eq_some_iff.mp h;obtain⟨c,l,rfl,s,t,m⟩:=b;exact⟨c,l,rfl,.inl s,.inl t,f9 (eu (S:=Rep _ e) (λd g v q b=>p q b) j (bV.mp m))⟩
  |ref k=>
   simp only[fk]at h;split at h
   .rename_i u x
    obtain⟨w,j,rfl⟩:=Option.map_eq_some_iff.mp h;obtain⟨c,y,l,z,m⟩:=S.cell x;obtain⟨A,o,rfl⟩:=b;rw[y]at o;cases o;exact⟨c,l,rfl,.inr (by grind),.inl z,f9 (eu (S:=Rep _ e) (λd g v q b=>p q b) j m)⟩
   .cases h
  |dct _ _=>cases h
  |_=>simp only[fk]at h;cases h;simpa only [Rep,au]using b
theorem ee(S:br i r n a e):∀b,Bl r n b->e b≠none:=λb h=>h.elim (S.dom b) (S.has b)
theorem br.same(S:br i r n a e)(h:iz e ο):br i r n a ο/\bW r n e r n ο:=by
 have g:bW r n e r n ο:=⟨λ_ _ j=>j,λ_ z=>z,λ_ z=>.inl z,λ_ z=>.inl z,λf o j _=>h f o j,λf l=>by
  cases q:e f with
  |none=>exact absurd q (S.has f l)
  |some o=>rw[h f o q];simp,λf o u j=>h f _ j⟩
 refine⟨⟨S.mU,S.vW.imp λc f m=>m.imp (λd v k=>S.cA g k) (λo j=>h f o j) λb o u j=>h b _ j,S.sep,λf z=>?_⟩,g⟩
 cases q:e f with
 |none=>exact absurd q (S.dom f z)
 |some o=>rw[h f o q];simp
theorem br.adopt(S:br i r n a e)(j:iz e ο)(q:e h=none)(m:∀R:D->V->Prop,(∀d v,au r n ο d v->R d v)->fA i R ο h B3):br i (r++[h]) n (a++[B3]) ο/\bW r n e (r++[h]) n ο:=by
 obtain⟨s,o⟩:=S.same j;have t:∀c∈r,c≠h:=λc ha f=>S.has c ha (f▸q)
 have u:∀c,n c->c≠h:=λc p f=>S.dom c p (f▸q)
 have l:∀(g:Nat) (c:Addr),r[g]?=some c->(r++[h])[g]?=some c:=λg c f=>by rwa[List.getElem?_append_left (by grind)]
 have mono:∀d v,au r n ο d v->au _ n ο d v:=λd v k=>k.mono l (λ_ _ _ f=>f) λ_ z=>z
 refine⟨⟨?_,?_,λc ha p=>?_,s.dom⟩,⟨l,λ_ z=>z,λ_ z=>.inl z,λc ha=>?_,o.frm,o.has,o.dj⟩⟩
 .refine List.nodup_append.mpr ⟨S.mU,by simp,λc ha b w=>?_⟩
  simp_all
 .exact aG.append (s.vW.imp λB3 c m=>m.imp mono (λ_ f=>f) λ_ _ _ f=>f) (.one (m _ mono))
 .rcases List.mem_append.mp ha with ha|ha
  .exact S.sep c ha p
  simp_all
 grind
noncomputable def iH(a:aJ)(c:Cell):ay D:=.ok (.ref a.length) (a++[c])
def fR(b:aJ):Out Rs->ay D
 |.ok (a,d)=>if fJ d then .ok d b else match a,d with
  |true,.lst c=>if c.all fJ then iH b (.lst c)else .bad
  |_,_=>.bad
 |_=>.bad
theorem fb(S:br i r n a e)(p:Addr):au (r++[p]) n ο (.ref a.length) (.ref p):=⟨p,by rw[←S.len];simp,rfl⟩
theorem mW{e:List Addr}{Z f:Addr->Prop}{H g:Hp}:∀{a:List D}{b:List V},a.all fJ=true->ba f g a b->aG (au e Z H) a b
 |[],b,_,r=>by rw[r.nil_inv];exact .nil
 |d::a,b,h,r=>by
  obtain⟨v,i,rfl,j,k⟩:=r.cons_inv;simp only[List.all_cons,Bool.and_eq_true]at h;obtain⟨w,c⟩:=tF h.1;obtain rfl:=dv c j;exact .cons (bb c) (mW h.2 k)
theorem iI{f:Out Rs}(S:br i r n a e)(h:bE i p r n e (fR a f) ε):∃k d,f=.ok (k,d)/\∀v j x l,eG x e l j->ec y k l e j d v->ε v j:=by
 cases f with
 |ok q=>
  obtain⟨k,d⟩:=q;refine⟨_,d,rfl,λv j x l g q=>?_⟩
  simp only[fR]at h;split at h
  .rename_i z
   obtain⟨w,o⟩:=tF z
   have A:=by
    have b:=q.nw;cases d with
    |non=>exact dv (n:=l) (e:=j) o b
    |bl _=>exact dv (n:=l) (e:=j) o b
    |int _=>exact dv (n:=l) (e:=j) o b
    |str _=>exact dv (n:=l) (e:=j) o b
    |_=>cases z
   subst A;obtain⟨s,t⟩:=S.same g.same;exact h v j r n t s (bb o)
  .split at h
   .rename_i B C
    split at h
    .rename_i u
     obtain⟨m,D,E,F,rfl,G,K,H,I⟩:=q;cases F;obtain⟨s,t⟩:=S.adopt (B3:=.lst B) g.same G (λR J=>⟨D,H,(mW u I).imp J⟩)
     exact h _ j _ n t s (fb S m)
    .exact h.elim
   .exact h.elim
 |exc c L=>exact h.elim
 |bad=>exact h.elim
def m1(f:D->aJ->ay D)(a:EM):EM:=λb c=>(a b c).bind f
def m2(f:D->D->aJ->ay D)(d e:EM):EM:=λc g=>(d c g).bind λx a=>(e c a).bind λy b=>f x y b
noncomputable def i9(a b:ay D):ay D:=match a with
 |.bad=>b
 |r=>r
def fS(f g:D->D->aJ->ay D):D->D->aJ->ay D:=λx y a=>i9 (f x y a) (g x y a)
def mj(f g:EM):EM:=λa b=>i9 (f a b) (g a b)
def Bm(f:D->Out Rs):D->aJ->ay D:=λx a=>match fk a 8 x with
 |some b=>fR a (f b)
 |none=>.bad
def gO(f:D->D->Out Rs):D->D->aJ->ay D:=λx y a=>match fk a 8 x,fk a 8 y with
 |some b,some c=>fR a (f b c)
 |_,_=>.bad
def iJ(b:aJ):D->Option Bool
 |.ref k=>match b[k]? with
  |some (.lst c)=>some (!c.isEmpty)
  |some (.dK a)=>some (!a.isEmpty)
  |_=>none
 |d=>jT d
def bZ:ay D->ay Bool
 |.ok d Ω=>match iJ Ω d with
  |some b=>.ok b Ω
  |none=>.bad
 |.exc x Ω=>.exc x Ω
 |.bad=>.bad
def ph(f:Str->Addr->Prop)(Φ:gX)(g:List Addr)(Z:Addr->Prop)(H:Hp)(r:ay Bool)(Q:Bool->Hp->Prop):Prop:=match r with
 |.ok b c=>∀d a e,bW g Z H a e d->br f a e c d->Q b d
 |.exc x c=>∀d a e,bW g Z H a e d->br f a e c d->Φ x c a e d
 |.bad=>False
def N8(b:Str->Addr->Prop)(Φ:gX)(a:List Addr)(f:Addr->Prop)(g:Hp)(m:EM)(c:bp)(d:aJ):TT:=λh H Q=>∃e Z,cj b a f g e Z d c h H/\ph b Φ e Z H (bZ (m c d)) Q
def gP(X:Cx)(b:Str->Addr->Prop)(Φ:gX)(e:Expr)(m:EM):Prop:=∀a c d f g,PT X e (N8 b Φ a c d m f g)
abbrev AM:=bp->aJ->ay (List D)
def mX(e:Str->Addr->Prop)(Φ:gX)(f:List Addr)(Z:Addr->Prop)(H:Hp)(r:ay (List D))(Q:List V->Hp->Prop):Prop:=match r with
 |.ok h b=>∀g c a d,bW f Z H a d c->br e a d b c->aG (au a d c) h g->Q g c
 |.exc x b=>∀c a d,bW f Z H a d c->br e a d b c->Φ x b a d c
 |.bad=>False
noncomputable def RP(b:Str->Addr->Prop)(Φ:gX)(a:List Addr)(f:Addr->Prop)(g:Hp)(m:AM)(c:bp)(d:aJ):TA:=λh H Q=>∃e Z,cj b a f g e Z d c h H/\mX b Φ e Z H (m c d) Q
def mY(X:Cx)(b:Str->Addr->Prop)(Φ:gX)(c:List Expr)(m:AM):Prop:=∀a d e f g,PA X c (RP b Φ a d e m f g)
noncomputable def ah:AM:=λ_ a=>.ok [] a
def ae(a:EM)(e:AM):AM:=λd f=>(a d f).bind λx b=>(e d b).bind λg c=>.ok (x::g) c
def mN(f:List D->aJ->ay D)(a:AM):EM:=λb c=>(a b c).bind f
variable{Z7:ay (List D)}{z7:List V->Hp->Prop}
theorem mX.from(g:bW r n e i0 P0 ο)(h:mX i p r n e Z7 z7):mX i p i0 P0 ο Z7 z7:=by
 cases Z7 with
 |ok d a=>exact λv b c f j=>h v b _ f (g.trans j)
 |exc x a=>exact λb c f j=>h b _ f (g.trans j)
 |bad=>exact h
variable{J7:Bool->Hp->Prop}{Y7:ay Bool}
theorem ph.from(g:bW r n e i0 P0 ο)(h:ph i p r n e Y7 J7):ph i p i0 P0 ο Y7 J7:=by
 cases Y7 with
 |ok d a=>exact λb c f j=>h b _ f (g.trans j)
 |exc x a=>exact λb c f j=>h b _ f (g.trans j)
 |bad=>exact h
variable{i6:List D->aJ->ay D}
theorem mX.use(h:bE i p r n e (Z7.bind i6) ε)(k:∀j a,Z7=.ok j a->∀l c b f,bW r n e b f c->br i b f a c->aG (au b f c) j l->bE i p b f c (i6 j a) ε->z7 l c):mX i p r n e Z7 z7:=by
 cases Z7 with
 |ok d a=>exact λv c b f g s q=>k d _ rfl v c _ f g s q (bE.from g h)
 |exc x a=>exact h
 |bad=>exact h
theorem PE.or(h:PE c j ν)(b:PE c j C2):PE c j (λa H Q=>ν a H Q\/C2 a H Q):=λpins s a H Q I q=>q.elim (h _ s a H Q I) (b _ s a H Q I)
theorem PT.or(h:PT c j P1)(b:PT c j y6):PT c j (λa H Q=>P1 a H Q\/y6 a H Q):=λpins s a H Q I q=>q.elim (h _ s a H Q I) (b _ s a H Q I)
variable{W7:ay D}
theorem mZ:i9 C3 W7=C3\/(C3=.bad/\i9 C3 W7=W7):=by cases C3<;>simp[i9]
variable{s ζ:EM}
theorem bo.alt(h:bo c i p j s)(l:bo c i p j ζ):bo c i p j (mj s ζ):=by
 intro a e f b d;refine PE.imp (PE.or (h a e f b d) (l a e f b d)) ?_;rintro m H Q ⟨k,Z,S,g⟩;rcases mZ (C3:=s b d)with q|⟨_,q⟩
 .exact .inl ⟨k,Z,S,by rwa[←q]⟩
 .exact .inr ⟨k,Z,S,by rwa[←q]⟩
theorem gP.alt(h:gP c i p j s)(l:gP c i p j ζ):gP c i p j (mj s ζ):=by
 intro a e f b d;refine PT.imp (PT.or (h a e f b d) (l a e f b d)) ?_;rintro m H Q ⟨k,Z,S,g⟩;rcases mZ (C3:=s b d)with q|⟨_,q⟩
 .exact .inl ⟨k,Z,S,by rwa[←q]⟩
 .exact .inr ⟨k,Z,S,by rwa[←q]⟩
variable{N6:D->D->aJ->ay D}
theorem hX{g:D->D->aJ->ay D}:m2 (fS N6 g) s ζ=mj (m2 N6 s ζ) (m2 g s ζ):=by
 funext b a
 simp only[m2,mj];cases s b a with
 |ok x c=>
  simp only[ay.bind];cases ζ b _ with
  |ok y d=>rfl
  |exc x a=>rfl
  |bad=>rfl
 |exc x a=>rfl
 |bad=>rfl
theorem tG{r:V->Hp->VK->Prop}(h:∀k,PE c j k->PE c M λl H Q=>k l H λx e=>r x e Q)(n:bo c i p j s)(o:∀m x a Z b H Q,br i a Z b H->au a Z H m x->bE i p a Z H (D8 m b) Q->r x H Q):bo c i p M (m1 D8 s):=by
 intro f q t u b;refine PE.imp (h _ (n f q t u b)) ?_;rintro l H Q ⟨a,Z,S,g⟩;refine⟨a,Z,S,g.use λd w _ v e y z D A B C=>o d v _ z _ e Q A B C⟩
variable{y4:R2}
theorem dJ(h:∀r tb,PE c j r->PE c M tb->PE c B1 (G_ y4 r tb))(n:bo c i p j s)(o:bo c i p M ζ)(D:∀t u x y b Z e H Q,br i b Z e H->au b Z H t x->au b Z H u y->bE i p b Z H (N6 t u e) Q->y4 x y H Q):bo c i p B1 (m2 N6 s ζ):=by
 intro a k l f e;rcases q:s f e with ⟨d,m⟩|⟨x,m⟩|_
 .refine PE.imp (h _ _ (n a k l f e) (o a k l f m)) ?_
  rintro z H Q ⟨b,Z,S,g⟩;refine⟨b,Z,S,bE.use g λX A B v Y E F G C I J=>?_⟩
  rw[q]at B;cases B;refine⟨_,F,S.grow G C,J.use λK L _ w N O P R T U V=>D d K v w _ P _ N Q T (C.cA R I) U V⟩
 .refine PE.imp (h _ _ (n a k l f e) (o a k l f e)) ?_
  rintro z H Q ⟨b,Z,S,g⟩;refine⟨b,Z,S,?_⟩;simp only[m2,q,ay.bind]at g ⊢;exact g
 .refine PE.imp (h _ _ (n a k l f e) (o a k l f e)) ?_
  rintro z H Q ⟨b,Z,S,g⟩;simp only[m2,q,ay.bind]at g;exact g.elim
variable{E8:D->Out Rs}
theorem yr(S:br i r n a e)(l:au r n e m u)(h:bE i p r n e (Bm E8 m a) ε):
  ∃d b f,Now (Bl r n) e d u/\E8 d=.ok (b,f)/\∀v g j,eG (Bl r n) e j g->ec y b j e g f v->ε v g:=by
 unfold Bm at h;split at h
 .rename_i d o
  obtain⟨b,f,c,k⟩:=iI (y:=y) S h;exact⟨d,_,f,(ki S 8 o l).now,c,by grind⟩
 .exact h.elim
variable{G8:D->D->Out Rs}
theorem iK(S:br i r n a e)(l:au r n e m u)(o:au r n e X B2)(h:bE i p r n e (gO G8 m X a) ε):
  ∃d b c f,Now (Bl r n) e d u/\Now (Bl r n) e b B2/\G8 d b=.ok (c,f)/\∀v g j,eG (Bl r n) e j g->ec y c j e g f v->ε v g:=by
 unfold gO at h;split at h
 .rename_i d b q s
  obtain⟨c,f,t,k⟩:=iI (y:=y) S h;exact⟨d,b,_,f,(ki S 8 q l).now,(ki S 8 s o).now,t,by grind⟩
 .exact h.elim
theorem tH(k:c.N[b]?=some d)(m:sO c.env.scope d)(e:(d==("__debug__":Str))=false)(f:(d==("__classdict__":Str))=false):bo c i p (.Name d l) (λh j=>match h[b]? with|some (some a)=>.ok a j|_=>.bad):=by
 intro n r s h j;refine PE.imp (g_ k m e f) ?_;rintro t H Q ⟨u,Z,S,g⟩;dsimp only at g;split at g
 .rename_i a e
  obtain⟨v,o,q⟩:=S.val b a e;exact⟨v,o,bE.ret S.st q g⟩
 .exact g.elim
theorem gw(h:PE c j (tC u))(b:eW m=some u):bo c i p j (λ_ a=>.ok m a):=by
 intro d e f k a;refine PE.imp h ?_;rintro l H Q ⟨n,Z,S,g⟩;exact bE.ret S.st (bb b) g
noncomputable def dE(b:aJ):D->Option (List D)
 |.ref k=>match b[k]? with
  |some (.lst a)=>some a
  |_=>none
 |.lst a=>some a
 |_=>none
theorem ck(S:br i r n a e)(c:au r n e m u)(h:dE a m=some q):∃b d,u=.ref b/\Rd e b (.lst d)/\aG (au r n e) q d:=by
 cases m with
 |ref k=>
  simp only[dE]at h;split at h
  .rename_i l o
   cases h;obtain⟨b,p,rfl⟩:=c;obtain⟨s,f,d,g,j⟩:=S.cell o;rw[p]at f;cases f;exact⟨b,d,rfl,.inl g,j⟩
  .cases h
 |lst t=>
  cases h;obtain⟨b,d,rfl,_,g,j⟩:=c;exact⟨b,d,rfl,g,bV.mp j⟩
 |_=>cases h
theorem gx(b:au r n e (.tup q) u):∃a d,u=.ref a/\n a/\e a=some (.tup d)/\aG (au r n e) q d:=by
 obtain⟨a,d,c,f,g,h⟩:=b;exact⟨a,d,c,f,g,bV.mp h⟩
theorem f_(S:br i r n a e)(d:aG (au r n e) q I)(k:bE i p r n e (iH a (.lst q)) ε):∀b,e b=none->ε (.ref b) (upd e b (.lst I)):=λb f=>by
 obtain⟨g,h⟩:=S.laid (c:=.lst q) f λR j=>⟨I,aL,d.imp j⟩
 exact k _ _ _ n h g (fb S b)
theorem yt(S:br i r n a e)(c:aG (au r n e) q I)(k:bE i p r n e (.ok (.tup q) a) ε):∀b,e b=none->ε (.ref b) (upd e b (.tup I)):=λb f=>by
 obtain⟨g,d⟩:=S.mV f True;refine k _ _ _ _ d g ⟨b,I,rfl,.inr rfl,aL,bV.mpr (S.iG d c)⟩
theorem kj:mY c i p [] ah:=by
 intro a d e f h;refine PA.imp nT ?_;rintro j H Q ⟨b,Z,S,g⟩;exact g [] H b Z (bW.refl S.st.has) S.st .nil
variable{d0:AM}
theorem iL(m:bo c i p j s)(n:mY c i p E d0)(o:starEach (j::E) c.env=(false,eval j c.env)::starEach E c.env):mY c i p (j::E) (ae s d0):=by
 intro a e f b h;rcases q:s b h with ⟨d,k⟩|⟨x,k⟩|_
 .refine PA.imp (eI (m a e f b h) (n a e f b k) o) ?_
  rintro u H Q ⟨l,Z,S,g⟩;refine⟨l,Z,S,?_⟩;simp only[ae,q,ay.bind]at g ⊢;intro v I A B w y C;refine⟨_,B,S.grow w y,?_⟩;have g:=mX.from w g
  rcases r:d0 b _ with ⟨J,t⟩|⟨x,t⟩|_
  .rw[r]at g
   intro K L D M z F G;exact g _ _ _ _ z F (.cons (y.cA z C) G)
  .rwa[r]at g
  .rwa[r]at g
 .refine PA.imp (eI (m a e f b h) (n a e f b h) o) ?_
  rintro u H Q ⟨l,Z,S,g⟩;refine⟨l,Z,S,?_⟩;simp only[ae,q,ay.bind]at g ⊢;exact g
 .refine PA.imp (eI (m a e f b h) (n a e f b h) o) ?_
  rintro u H Q ⟨l,Z,S,g⟩;simp only[ae,q,ay.bind]at g;exact g.elim
def bh(a:List D)(b:aJ):ay D:=if small a.length then iH b (.lst a)else .bad
def jU(a:List D)(b:aJ):ay D:=if small a.length then .ok (.tup a) b else .bad
theorem Bn(h:mY c i p E d0):bo c i p (.List E l) (mN bh d0):=by
 intro b e f j k;refine PE.imp (EO (h b e f j k)) ?_;rintro s H Q ⟨m,Z,S,g⟩;refine⟨m,Z,S,mX.use g λt n _ u w o x y q d a=>?_⟩
 unfold bh at a;split at a
 .rename_i r
  exact⟨by rw[d.length];exact bw r,f_ q d a⟩
 .exact a.elim
theorem Bo{x1}(h:mY c i p E d0):bo c i p (.Tuple E x1 l) (mN jU d0):=by
 intro b e f j k;refine PE.imp (wz (h b e f j k)) ?_;rintro s H Q ⟨m,Z,S,g⟩;refine⟨m,Z,S,mX.use g λt n _ u w o x y q d a=>?_⟩
 unfold jU at a;split at a
 .rename_i r
  exact⟨by rw[d.length];exact bw r,yt q d a⟩
 .exact a.elim
def yu(x y:D)(a:aJ):ay D:=match dE a x,dE a y with
 |some b,some c=>if small (b.length+c.length)then iH a (.lst (b++c))else .bad
 |_,_=>.bad
def aY(op:Operator):D->D->aJ->ay D:=match op with
 |.Add=>fS yu (gO (fQ .Add))
 |op=>gO (fQ op)
theorem Bp(o:bo c i p j s)(q:bo c i p M ζ):bo c i p (.BinOp j m8 M l) (m2 (aY m8) s ζ):=by
 have E:bo c i p (.BinOp j m8 M l) (m2 (gO _) s ζ):=dJ (λu tb b f=>DF (xO m8) b f) o q λw z x y A Z B H Q S h m g=>by
  obtain⟨d,e,D,T,F,G,I,k⟩:=iK S h m g;exact E_ (y:=false) F G (ee S) I k
 have C:m8=.Add->bo c i p (.BinOp j m8 M l) (m2 yu s ζ):=λe=>by
  subst e;refine dJ (λu tb b f=>DF (xO _) b f) o q λw z x y A Z B H Q S h m g=>?_
  unfold yu at g;split at g
  .rename_i U V J K
   obtain⟨a,L,rfl,N,r⟩:=ck S h J;obtain⟨n,O,rfl,P,t⟩:=ck S m K;split at g
   .rename_i R
    exact .inr (.inr ⟨a,n,L,O,rfl,rfl,N,P,by rw[r.length,t.length];exact bw R,f_ S (r.append t) g⟩)
   .exact g.elim
  .exact g.elim
 cases m8 with
 |Add=>show bo c i p _ (m2 (fS _ _) s ζ);rw[hX];exact(C rfl).alt E
 |_=>exact E
noncomputable def b_{a b:Type}[DecidableEq a](kvs:List (a×b))(k:a):Option b:=(kvs.find? λc=>decide (c.1=k)).map (·.2)
noncomputable def cm{b c:Type}[DecidableEq b](kvs:List (b×c))(k:b)(v:c):List (b×c):=
 if (kvs.any λa=>decide (a.1=k))=true then kvs.map (λa=>if a.1=k then (a.1,v)else a)else kvs++[(k,v)]
noncomputable def dZ{a b:Type}[DecidableEq a](kvs:List (a×b))(k:a):List (a×b):=kvs.filter λc=>decide (c.1≠k)
section
variable{κ:Type}[DecidableEq κ]{R:D->V->Prop}
theorem hV.val{kvs:List (κ×D)}{a:List (κ×V)}(h:hV R kvs a)(k:κ):(∀d,b_ kvs k=some d->∃v,jR a k=some v/\R d v)/\(b_ kvs k=none->jR a k=none):=by
 induction h with
 |nil=>exact⟨λd e=>(by cases e),λ_=>rfl⟩
 |@cons p q b g r t i=>
  obtain⟨c,j⟩:=r
  by_cases e:p.1=k
  .have f:b_ (p::b) k=some p.2:=by simp[b_,List.find?_cons,e]
   rw[pJ (c▸e)]
   grind
  .have f:b_ (p::b) k=b_ b k:=by simp[b_,List.find?_cons,e]
   rwa[f,pK (λz=>e (c.trans z))]
theorem hV.any{kvs:List (κ×D)}{a:List (κ×V)}(h:hV R kvs a)(k:κ):(a.any λb=>decide (b.1=k))=kvs.any λb=>decide (b.1=k):=by
 induction h with
 |nil=>rfl
 |@cons p q c d r t e=>simp_all
theorem hV.put{kvs:List (κ×D)}{a:List (κ×V)}(h:hV R kvs a)(k:κ)(r:R m u):hV R (cm kvs k m) (putK a k u):=by
 unfold cm putK;rw[h.any];split
 .rename_i b
  clear b
  induction h with
  |nil=>exact .nil
  |@cons p q d e f t c=>
   refine .cons ?_ c
   grind
 .exact aG.append h (.one ⟨rfl,r⟩)
theorem hV.drop{kvs:List (κ×D)}{a:List (κ×V)}(h:hV R kvs a)(k:κ):hV R (dZ kvs k) (kH a k):=by
 induction h with
 |nil=>exact .nil
 |@cons p q d f b t c=>
  unfold dZ kH;rw[List.filter_cons,List.filter_cons]
  by_cases e:p.1=k
  .have:=b.1▸e
   simp only[e,this,ne_eq,not_true_eq_false,decide_false];exact c
  .have:¬ q.1=k:=λz=>e (b.1.trans z)
   simp only[e,this,ne_eq,not_false_eq_true,decide_true,if_true];exact .cons b c
theorem hV.length{kvs:List (κ×D)}{a:List (κ×V)}(h:hV R kvs a):a.length=kvs.length:=aG.length h
end
noncomputable def oC:D->Option Key
 |.int i=>some (.inl i)
 |.str x=>some (.inr x)
 |_=>none
variable{k6:Key}
theorem gf(h:oC m=some k6)(a:au r n e m u):u=kV k6:=by
 cases m with
 |int i=>cases h;exact a
 |str i=>cases h;exact a
 |_=>cases h
def vh(b:aJ)(x y:D):Option (Option D):=match x with
 |.ref k=>match b[k]? with
  |some (.dK a)=>(oC y).map (b_ a)
  |some (.dF a)=>(oC y).map (b_ a)
  |_=>none
 |_=>none
variable{Ψ:Option D}
theorem qj(S:br i r n a e)(A:au r n e m u)(y:au r n e X B2)(h:vh a m X=some Ψ):∃b l,u=.ref b/\lV e b B2 l/\(∀d,Ψ=some d->∃c,l=some c/\au r n e d c)/\(Ψ=none->l=none):=by
 cases m with
 |ref k=>
  simp only[vh]at h;obtain⟨b,z,rfl⟩:=A;split at h
  .rename_i o p
   obtain⟨j,q,rfl⟩:=Option.map_eq_some_iff.mp h;obtain⟨B,f,g,s,t⟩:=S.cell p;rw[z]at f;cases f
   obtain rfl:=gf q y;obtain⟨w,x⟩:=t.val j;exact⟨b,_,rfl,lV.k s,w,x⟩
  .rename_i o p
   obtain⟨j,q,rfl⟩:=Option.map_eq_some_iff.mp h;obtain⟨B,f,C,g,s,t⟩:=S.cell p;rw[z]at f;cases f
   obtain rfl:=gf q y;obtain⟨w,x⟩:=t.val j;exact⟨b,_,rfl,.inl ⟨_,j,.inr ⟨C,s⟩,rfl,rfl⟩,w,x⟩
  .cases h
 |_=>cases h
def eg(a:CmpOp):D->D->aJ->ay D:=gO λx y=>do let r ←d_ a x y;Out.ok (false,D.bl r)
def mm(a:Bool)(y x:D)(b:aJ):ay D:=match vh b x y with
 |some o=>.ok (.bl (if a then !o.isSome else o.isSome)) b
 |none=>.bad
noncomputable def jo(a:Bool)(x y:D)(b:aJ):ay D:=match x,y with
 |.ref _,.non=>.ok (.bl a) b
 |_,_=>.bad
def aH(op:CmpOp):D->D->aJ->ay D:=match op with
 |.In=>fS (eg .In) (mm false)
 |.NotIn=>fS (eg .NotIn) (mm true)
 |.Is=>fS (jo false) (eg .Is)
 |.IsNot=>fS (jo true) (eg .IsNot)
 |op=>eg op
variable{W5:Option V}
theorem rY(a:∀d,Ψ=some d->∃u,W5=some u/\n5 d u)(b:Ψ=none->W5=none):W5.isSome=Ψ.isSome:=by
 cases Ψ with
 |none=>rw[b rfl];rfl
 |some d=>obtain⟨u,e,_⟩:=a d rfl;rw[e];rfl
theorem iM(h:∀D tb,PE c j D->PE c M tb->PT c B1 (wm (G_ y4 D tb)))(o:bo c i p j s)(r:bo c i p M ζ)(z:∀x y b d ax,N6 x y b=.ok d ax->∃t,d=.bl t)(N:∀E F x y e Z b H Q,br i e Z b H->au e Z H E x->au e Z H F y->bE i p e Z H (N6 E F b) Q->y4 x y H Q):gP c i p B1 (m2 N6 s ζ):=by
 intro a k l f b;rcases q:s f b with ⟨d,m⟩|⟨x,m⟩|_
 .refine PT.imp (h _ _ (o a k l f b) (r a k l f m)) ?_
  rintro G H Q ⟨e,Z,S,g⟩;refine⟨e,Z,S,?_⟩;simp only[m2,q,ay.bind]at g ⊢;intro v H1 O P I J R;refine⟨_,P,S.grow I J,?_⟩;have g:=ph.from I g
  rcases A:ζ f _ with ⟨K,B⟩|⟨x,B⟩|_
  .rw[A]at g
   intro w T U V L X Y;refine N d K v w _ V _ T _ X (J.cA L R) Y ?_;have g:=ph.from L g
   dsimp only[ay.bind]at g;rcases n:N6 d K _ with ⟨d3,C⟩|⟨x,C⟩|_
   .rw[n]at g
    obtain⟨t,rfl⟩:=z _ _ _ _ _ n;intro u H3 a0 Z3 g3 s3 r3;exact⟨t,r3,g H3 _ Z3 g3 s3⟩
   .rwa[n]at g
   .rwa[n]at g
  .rwa[A]at g
  .rwa[A]at g
 .refine PT.imp (h _ _ (o a k l f b) (r a k l f b)) ?_
  rintro G H Q ⟨e,Z,S,g⟩;refine⟨e,Z,S,?_⟩;simp only[m2,q,ay.bind,bZ]at g ⊢;exact g
 .refine PT.imp (h _ _ (o a k l f b) (r a k l f b)) ?_
  rintro G H Q ⟨e,Z,S,g⟩;simp only[m2,q,ay.bind,bZ]at g;exact g.elim
noncomputable def Fm(b:Bool):R2:=λy x H Q=>∃a o,x=.ref a/\lV H a y o/\Q (.bl (if b then !o.isSome else o.isSome)) H
theorem yv(b:c.A.units+1<cLine):fT c (compareOp .In) (Fm false):=by
 intro pins s i H x y u v Q I d e h;obtain⟨a,o,rfl,g,q⟩:=h;obtain rfl:v=Value.ref a:=e;exact Nr b I g d λj f=>⟨.bl _,H,f,rfl,q⟩
theorem m9(b:c.A.units+1<cLine):fT c (compareOp .NotIn) (Fm true):=by
 intro pins s i H x y u v Q I d e h;obtain⟨a,o,rfl,g,q⟩:=h;obtain rfl:v=Value.ref a:=e;exact Ax b I g d λj f=>⟨.bl _,H,f,rfl,q⟩
theorem oD(S:br i r n a e)(c:au r n e m u)(f:au r n e X B2)(g:bE i p r n e (eg A2 m X a) ε):xT A2 u B2 e ε:=by
 obtain⟨d,b,h,q,j,l,o,k⟩:=iK S c f g;exact Fb (y:=false) j l (ee S) o k
theorem oE(S:br i r n a e)(c:au r n e m u)(d:au r n e X B2)(g:bE i p r n e (mm y m X a) ε):Fm y u B2 e ε:=by
 unfold mm at g;split at g
 .rename_i o f
  obtain⟨b,h,rfl,j,k,l⟩:=qj S d c f;refine⟨b,h,rfl,j,?_⟩;rw[rY k l];exact bE.ret S (bb rfl) g
 .exact g.elim
theorem oF(b:A2=if y then .IsNot else .Is)(S:br i r n a e)(c:au r n e m u)(d:au r n e X B2)(g:bE i p r n e (jo y m X a) ε):
  (if y then (B2=.non/\ε (.bl (!decide (u=.non))) e)else (B2=.non/\ε (.bl (decide (u=.non))) e)):=by
 unfold jo at g;split at g
 .simp only[au]at c d
  have:=bE.ret S (bb rfl) g
  grind
 .exact g.elim
theorem oG:∀x y f d ax,eg A2 x y f=.ok d ax->∃t,d=.bl t:=λx y f d ax h=>by
 unfold eg gO at h;split at h
 .rename_i a b _ _
  dsimp only at h;cases q:d_ A2 a b with
  |ok t=>
   have e:(do let r ←d_ A2 a b;Out.ok (false,D.bl r))=Out.ok (false,D.bl t):=by rw[q];rfl
   rw[e]at h;cases h
   grind
  |exc c g=>
   have e:(do let r ←d_ A2 a b;Out.ok (false,D.bl r))=Out.exc c g:=by rw[q];rfl
   rw[e]at h;cases h
  |bad=>
   have e:(do let r ←d_ A2 a b;Out.ok (false,D.bl r))=Out.bad:=by rw[q];rfl
   rw[e]at h;cases h
 .cases h
theorem tI:∀x a b d ax,mm y x a b=.ok d ax->∃t,d=.bl t:=λx a b d ax h=>by
 unfold mm at h
 grind
theorem tJ:∀x a b d ax,jo y x a b=.ok d ax->∃t,d=.bl t:=λx a b d ax h=>by
 unfold jo at h
 grind
theorem tK(z:c.A.units+64<cLine)(f:behindInMarks A2 M=false)(h:bo c i p j s)(k:bo c i p M ζ):bo c i p (.Compare j [A2] [M] l) (m2 (aH A2) s ζ)/\gP c i p (.Compare j [A2] [M] l) (m2 (aH A2) s ζ):=by
 have E:bo c i p (.Compare j _ _ l) _:=dJ (λm tb a b=>ip (jk z A2) a b f) h k λn o x y q Z r H Q S d e g=>oD S d e g
 have T:gP c i p (.Compare j _ _ l) _:=iM (λm tb a b=>iq (jk z A2) a b f) h k oG λn o x y q Z r H Q S d e g=>oD S d e g
 have t:c.A.units+1<cLine:=by omega
 cases A2 with
 |In=>
  show bo c i p _ (m2 (fS _ _) s ζ)/\gP c i p _ (m2 (fS _ _) s ζ)
  rw[hX];exact⟨E.alt (dJ (λm tb a b=>ip (yv t) a b f) h k λn o x y q Z r H Q S d e g=>oE S d e g),T.alt (iM (λm tb a b=>iq (yv t) a b f) h k tI λn o x y q Z r H Q S d e g=>oE S d e g)⟩
 |NotIn=>
  show bo c i p _ (m2 (fS _ _) s ζ)/\gP c i p _ (m2 (fS _ _) s ζ)
  rw[hX];exact⟨E.alt (dJ (λm tb a b=>ip (m9 t) a b f) h k λn o x y q Z r H Q S d e g=>oE S d e g),T.alt (iM (λm tb a b=>iq (m9 t) a b f) h k tI λn o x y q Z r H Q S d e g=>oE S d e g)⟩
 |Is=>
  have u:bo c i p (.Compare j _ _ l) _:=dJ (λm tb a b=>ip wk a b f) h k λn o x y q Z r H Q S d e g=>oF (y:=false) rfl S d e g
  have w:gP c i p (.Compare j _ _ l) _:=iM (λm tb a b=>iq wk a b f) h k tJ λn o x y q Z r H Q S d e g=>oF (y:=false) rfl S d e g
  show bo c i p _ (m2 (fS _ _) s ζ)/\gP c i p _ (m2 (fS _ _) s ζ)
  rw[hX];exact⟨u.alt E,w.alt T⟩
 |IsNot=>
  have u:bo c i p (.Compare j _ _ l) _:=dJ (λm tb a b=>ip sS a b f) h k λn o x y q Z r H Q S d e g=>oF (y:=true) rfl S d e g
  have w:gP c i p (.Compare j _ _ l) _:=iM (λm tb a b=>iq sS a b f) h k tJ λn o x y q Z r H Q S d e g=>oF (y:=true) rfl S d e g
  show bo c i p _ (m2 (fS _ _) s ζ)/\gP c i p _ (m2 (fS _ _) s ζ)
  rw[hX];exact⟨u.alt E,w.alt T⟩
 |Eq=>exact⟨E,T⟩
 |NotEq=>exact⟨E,T⟩
 |Lt=>exact⟨E,T⟩
 |LtE=>exact⟨E,T⟩
 |Gt=>exact⟨E,T⟩
 |GtE=>exact⟨E,T⟩
def gg(a:aJ)(x:D):Option (List D):=match x with
 |.tup b=>some b
 |x=>dE a x
def Fo(x y:D)(a:aJ):ay D:=match gg a x,y with
 |some b,.int i=>match L2.kf b i with
  |some d=>.ok d a
  |none=>.bad
 |_,_=>.bad
def Fp(x y:D)(a:aJ):ay D:=match vh a x y with
 |some (some d)=>.ok d a
 |_=>.bad
def aM:D->D->aJ->ay D:=fS Fo (fS Fp (gO rO))
theorem k4(S:br i r n a e)(c:au r n e m u)(h:gg a m=some q):∃b d,u=.ref b/\(kF x e b d\/sQ x e b d)/\aG (au r n e) q d:=by
 unfold gg at h;split at h
 .cases h
  obtain⟨b,d,rfl,_,f,g⟩:=gx c;exact⟨b,d,rfl,.inr (vV (.inl f)),g⟩
 .obtain⟨b,d,rfl,f,g⟩:=ck S c h
  exact⟨b,d,rfl,.inl (mf f),g⟩
theorem Bq(r:aG n5 q I)(h:L2.kf q P=some m):∃v,L2.kf I P=some v/\n5 m v:=by
 unfold L2.kf at h ⊢;rw[r.length];cases a:L2.DK _ P with
 |none=>simp_all
 |some n=>rw[a]at h;exact r.get h
theorem Br(K:c.A.units+1<cLine)(o:sT M)(q:bo c i p j s)(r:bo c i p M ζ):bo c i p (.Subscript j M l) (m2 aM s ζ):=by
 unfold aM;rw[hX,hX];refine bo.alt ?_ (bo.alt ?_ ?_)
 .refine dJ (λB tb f h=>DL wH f h o) q r λC D x y E Z F H Q S m n g=>?_
  unfold Fo at g;split at g
  .rename_i R a t
   obtain⟨b,G,rfl,h2,w⟩:=k4 S m t;subst n;split at g
   .rename_i d z
    obtain⟨v,I,J⟩:=Bq w z;rcases h2 with h2|h2
    .exact .inl ⟨b,G,a,v,rfl,rfl,h2,I,bE.ret S J g⟩
    .exact .inr (.inl ⟨b,G,a,v,rfl,rfl,h2,I,bE.ret S J g⟩)
   .exact g.elim
  .exact g.elim
 .refine dJ (λB tb f h=>Az K f h o) q r λC D x y E Z F H Q S m n g=>?_
  unfold Fp at g;split at g
  .rename_i d z
   obtain⟨j,T,rfl,t,h2,_⟩:=qj S m n z;obtain⟨u,rfl,w⟩:=h2 d rfl;exact⟨j,u,rfl,t,bE.ret S w g⟩
  .exact g.elim
 .refine dJ (λB tb f h=>DL wH f h o) q r λC D x y E Z F H Q S m n g=>?_
  obtain⟨d,e,L,U,N,O,P,k⟩:=iK S m n g;exact Fd (y:=false) N O (ee S) P k
def gY(n:Bool)(m:EM):bp->aJ->ay (Option Int):=λc b=>if n=true then .ok none b else (m c b).bind λd a=>match d with
 |.int i=>.ok (some i) a
 |_=>.bad
def k9(x:D)(b c:Option Int)(a:aJ):ay D:=match x,dE a x with
 |_,some d=>iH a (.lst (dk d b c))
 |.str z,none=>fR a (xJ (.str z) b c)
 |_,_=>.bad
def dG(e:EM)(f:Bool)(g:EM)(i:Bool)(j:EM):EM:=λa k=>(e a k).bind λx b=>(gY f g a b).bind λl c=>(gY i j a c).bind λh d=>k9 x l h d
def Lj(X:Cx)(a:Str->Addr->Prop)(Φ:gX)(o:Option Expr)(n:Bool)(m:EM):Prop:=(o=none/\n=true)\/∃e,o=some e/\n=false/\bo X a Φ e m
variable{D6:Option Expr}
theorem dP(h:Lj c i p D6 y s)(u:List Addr)(w:Addr->Prop)(z:Hp)(n:bp)(o:aJ):∃t,PO c D6 t/\∀r H f Z Q,cj i u w z f Z o n r H ->
  (match gY y s n o with
   |.ok l a=>∀g b m,bW f Z H b m g->br i b m a g->Q l g
   |.exc x a=>∀g b m,bW f Z H b m g->br i b m a g->p x a b m g
   |.bad=>False)->t r H Q:=by
 rcases h with ⟨rfl,rfl⟩|⟨e,rfl,rfl,A⟩
 .refine⟨_,Ar,λr H f Z Q S k=>k H f Z (bW.refl S.st.has) S.st⟩
 .refine⟨_,As (A _ w z n o),λr H f Z Q S k=>⟨f,Z,S,?_⟩⟩
  simp only[gY,Bool.false_eq_true,if_false]at k;rcases q:s n o with ⟨d,a⟩|⟨x,a⟩|_
  .rw[q]at k
   intro v B C D E F G;cases d with
   |int j=>exact⟨j,G,k B _ D E F⟩
   |_=>exact k.elim
  .rwa[q]at k
  .rwa[q]at k
theorem Bs(h:aG n5 q I)(a b:Option Int):aG n5 (dk q a b) (wG I a b):=by
 unfold dk wG;rw[h.length];exact(h.drop _).take _
variable{u4:EM}
theorem Bt{hi:Option Expr}(F:bo c i p j s)(V:Lj c i p D6 y ζ)(G:Lj c i p hi C1 u4):bo c i p (.Subscript j (.Slice D6 hi none C) l) (dG s y ζ C1 u4):=by
 intro a e f b n;rcases q:s b n with ⟨d,m⟩|⟨x,m⟩|_
 .obtain⟨tl,t,N⟩:=dP V a e f b m
  rcases I:gY y ζ b m with ⟨u,w⟩|⟨x,w⟩|_
  .obtain⟨O,o,J⟩:=dP G a e f b w
   refine PE.imp (fV (r:=Iy c.K) (iv.or kW) (F a e f b n) t o) ?_;rintro z H Q ⟨A,Z,S,g⟩;refine⟨A,Z,S,?_⟩;simp only[dG,q,I,ay.bind]at g ⊢;intro v X B Y L P r1;have g:=bE.from L g
   have S1:=S.grow L P;refine N z X B Y _ S1 ?_;rw[I];intro H2 D Z2 M R;have g:=bE.from M g
   refine J z H2 D Z2 _ (S1.grow M R) ?_;rcases q3:gY C1 u4 b w with ⟨h,a0⟩|⟨x,a0⟩|_
   .rw[q3]at g
    intro H3 b0 Z3 g3 T;have g:=bE.from g3 g
    have r3:=R.cA g3 (P.cA M r1);dsimp only[ay.bind]at g;unfold k9 at g;split at g
    .rename_i ds hd
     obtain⟨E,vs,rfl,h1,h2⟩:=ck T r3 hd;exact .inl ⟨E,vs,rfl,mf h1,f_ T (Bs h2 u h) g⟩
    ·
     subst r3;obtain⟨c0,d,U,k⟩:=iI (y:=false) T g;simp only[xJ]at U;split at U
     .rename_i hs
      cases U;exact .inr ⟨_,rfl,bw hs,k _ H3 _ _ (eG.refl T.dom) (.rep (fX rfl))⟩
     .cases U
    .exact g.elim
   .rw[q3]at g;exact g
   .rw[q3]at g;exact g
  .obtain⟨O,o,J⟩:=dP G a e f b m
   refine PE.imp (fV (r:=Iy c.K) (iv.or kW) (F a e f b n) t o) ?_;rintro z H Q ⟨A,Z,S,g⟩;refine⟨A,Z,S,?_⟩;simp only[dG,q,I,ay.bind]at g ⊢;intro v X B Y L P r1;refine N z X B Y _ (S.grow L P) ?_;rw[I];intro H2 D Z2 M R;exact g H2 D Z2 (L.trans M) R
  .obtain⟨O,o,J⟩:=dP G a e f b m
   refine PE.imp (fV (r:=Iy c.K) (iv.or kW) (F a e f b n) t o) ?_;rintro z H Q ⟨A,Z,S,g⟩;simp only[dG,q,I,ay.bind]at g;exact g.elim
 .obtain⟨tl,t,N⟩:=dP V a e f b n
  obtain⟨O,o,J⟩:=dP G a e f b n;refine PE.imp (fV (r:=Iy c.K) (iv.or kW) (F a e f b n) t o) ?_;rintro z H Q ⟨A,Z,S,g⟩;refine⟨A,Z,S,?_⟩;simp only[dG,q,ay.bind]at g ⊢;exact g
 .obtain⟨tl,t,N⟩:=dP V a e f b n
  obtain⟨O,o,J⟩:=dP G a e f b n;refine PE.imp (fV (r:=Iy c.K) (iv.or kW) (F a e f b n) t o) ?_;rintro z H Q ⟨A,Z,S,g⟩;simp only[dG,q,ay.bind]at g;exact g.elim
theorem PE.ex{b:Type}{t:b->TE}(h:∀i,PE c j (t i)):PE c j (λa H Q=>∃i,t i a H Q):=λpins s a H Q I ⟨i,q⟩=>h i _ s a H Q I q
theorem PT.ex{b:Type}{t:b->TT}(h:∀i,PT c j (t i)):PT c j (λa H Q=>∃i,t i a H Q):=λpins s a H Q I ⟨i,q⟩=>h i _ s a H Q I q
theorem PW.ex{b:Type}{t:b->TT}(h:∀i,PW c j (t i)):PW c j (λa H Q=>∃i,t i a H Q):=λd pins s a H Q I ⟨i,q⟩=>h i d _ s a H Q I q
theorem PA.ex{b:Type}{t:b->TA}(h:∀i,PA c E (t i)):PA c E (λa H Q=>∃i,t i a H Q):=λd pins s a H Q I ⟨i,q⟩=>h i _ _ s a H Q I q
def iN(c d:EM):EM:=λb e=>(c b e).bind λx a=>match iJ a x with
 |some true=>d b a
 |some false=>.ok x a
 |none=>.bad
def Fq(c d:EM):EM:=λb e=>(c b e).bind λx a=>match iJ a x with
 |some false=>d b a
 |some true=>.ok x a
 |none=>.bad
def iO(b:EM):EM:=λc d=>(bZ (b c d)).bind λt a=>.ok (.bl (!t)) a
def Bu(c d e:EM):EM:=λb f=>(bZ (c b f)).bind λt a=>if t=true then d b a else e b a
theorem gh(S:br i r n a e)(c:au r n e m u)(h:iJ a m=some y):pB x u e y:=by
 cases m with
 |non=>subst c;cases h;rfl
 |bl b=>subst c;cases h;rfl
 |int b=>subst c;cases h;rfl
 |str b=>
  subst c;have f:Now n e (.str b) (.str b):=by rfl
  exact Fc f h
 |lst o=>
  cases h;obtain⟨d,g,rfl,j,l⟩:=ck S c rfl;refine .inl ⟨g,mf j,?_⟩;have:=l.length;cases o<;>cases g<;>simp at this ⊢
 |tup o=>
  cases h;obtain⟨d,g,rfl,_,j,l⟩:=gx c;refine .inr (.inl ⟨g,vV (.inl j),?_⟩);have:=l.length;cases o<;>cases g<;>simp at this ⊢
 |dct _ _=>cases h
 |ref k=>
  simp only[iJ]at h;split at h
  .rename_i o s
   cases h;obtain⟨d,g,rfl,j,l⟩:=ck (q:=o) S c (by simp only[dE,s])
   refine .inl ⟨g,mf j,?_⟩;have:=l.length
   grind
  .rename_i w s
   cases h;obtain⟨d,z,rfl⟩:=c;obtain⟨A,p,t,j,l⟩:=S.cell s;rw[z]at p;cases p
   refine .inr (.inr ⟨_,j,?_⟩);have:=l.length
   grind
  .cases h
theorem ph.use{f:Bool->aJ->ay D}(h:bE i p r n e (Y7.bind f) ε)(k:∀t a,Y7=.ok t a->∀c b j,bW r n e b j c->br i b j a c->bE i p b j c (f t a) ε->J7 t c):ph i p r n e Y7 J7:=by
 cases Y7 with
 |ok d a=>exact λc b j g s=>k d _ rfl c _ j g s (bE.from g h)
 |exc x a=>exact h
 |bad=>exact h
theorem ph.QP(h:ph i p r n e (bZ C3) J7):bE i p r n e C3 (λv a=>∃t,pB x v a t/\J7 t a):=by
 cases C3 with
 |ok d b=>
  intro v a f j g s q;simp only[bZ]at h;split at h
  .rename_i t k
   exact⟨t,gh s q k,h a _ j g s⟩
  .exact h.elim
 |exc c b=>exact h
 |bad=>exact h.elim
theorem Bv(h:bo c i p j s)(d:∀a,isTrue j c.env a=(do let v ←a;standAt j.pos;holding [v] (truthy v))):gP c i p j s:=by
 intro b e f k l;refine PT.imp (wt (h b e f k l) d) ?_;rintro n H Q ⟨m,Z,S,g⟩;exact⟨m,Z,S,g.QP⟩
theorem Bw(o:bo c i p j s)(q:bo c i p (.BoolOp .And (M::E) l) ζ):bo c i p (.BoolOp .And (j::M::E) l) (iN s ζ):=by
 intro a k m n r;refine PE.imp (Ba (o a k m n r) (PE.ex λb=>q a k m n b)) ?_
 rintro z H Q ⟨t,Z,S,g⟩;refine⟨t,Z,S,bE.use g λx b _ v A u w y d f e=>?_⟩
 split at e
 .rename_i h
  exact⟨_,gh d f h,pO ⟨_,_,w,S.grow y d,e⟩⟩
 .rename_i h
  exact⟨_,gh d f h,pN (bE.ret d f e)⟩
 .exact e.elim
theorem Fs(o:bo c i p j s)(q:bo c i p (.BoolOp .Or (M::E) l) ζ):bo c i p (.BoolOp .Or (j::M::E) l) (Fq s ζ):=by
 intro a k m n r;refine PE.imp (Fe (o a k m n r) (PE.ex λb=>q a k m n b)) ?_
 rintro z H Q ⟨t,Z,S,g⟩;refine⟨t,Z,S,bE.use g λx b _ v A u w y d f e=>?_⟩
 split at e
 .rename_i h
  exact⟨_,gh d f h,pN ⟨_,_,w,S.grow y d,e⟩⟩
 .rename_i h
  exact⟨_,gh d f h,pO (bE.ret d f e)⟩
 .exact e.elim
theorem vi{a:BoolOp}(b:bo c i p j s):bo c i p (.BoolOp a [j] l) s:=λd e f g h=>Ey (b _ e f g h)
theorem Bx(b:bo c i p j s):bo c i p (.UnaryOp .Not j l) (iO s):=by
 intro a d e f h;refine PE.imp (Bb (b a d e f h)) ?_;rintro r H Q ⟨k,Z,S,g⟩;refine⟨k,Z,S,?_⟩;have:=ph.use g λt m _ u n w x o q=>bE.ret o (bb rfl) q
 exact this.QP
theorem By(d:gP c i p j s):gP c i p (.UnaryOp .Not j l) (iO s):=by
 intro a e f h k;refine PT.imp (wc (d a e f h k)) ?_;rintro n H Q ⟨m,Z,S,g⟩;refine⟨m,Z,S,?_⟩;simp only[iO]at g;cases q:bZ _ with
 |ok t b=>rwa[q]at g
 |exc x b=>rwa[q]at g
 |bad=>rwa[q]at g
def D9(X:Cx)(b:Str->Addr->Prop)(Φ:gX)(e:Expr)(m:EM):Prop:=∀a c d f g,PW X e (N8 b Φ a c d m f g)
theorem D9.pt{X:Cx}{a:Str->Addr->Prop}{Φ:gX}{e:Expr}{m:EM}(h:D9 X a Φ e m):gP X a Φ e m:=λb c d f g=>(h _ c d f g).pt
theorem Bz{a:BoolOp}(b:gP c i p j s):D9 c i p (.BoolOp a [j] l) s:=λh d e f g=>by
 cases a with
 |And=>exact pw_and1 (b _ d e f g)
 |Or=>exact pw_or1 (b _ d e f g)
theorem BA(u:gP c i p j s)(w:D9 c i p (.BoolOp .And (M::E) l) ζ):D9 c i p (.BoolOp .And (j::M::E) l) (iN s ζ):=by
 intro b n o f r;refine PW.imp (pw_and (u b n o f r) (PW.ex λa=>w b n o f a)) ?_
 rintro z H Q ⟨y,Z,S,g⟩;refine⟨y,Z,S,?_⟩;simp only[iN]at g;cases q:s f r with
 |ok x a=>
  rw[q]at g;dsimp only[ay.bind]at g;simp only[bZ];split at g
  .rename_i d
   rw[d];exact λt h k e m=>pO ⟨_,_,k,S.grow e m,ph.from e g⟩
  .rename_i d
   rw[d];simp only[bZ,d]at g;exact λt h k e m=>pN (g t _ k e m)
  .exact g.elim
 |exc x a=>rwa[q]at g
 |bad=>rwa[q]at g
theorem Fu(u:gP c i p j s)(w:D9 c i p (.BoolOp .Or (M::E) l) ζ):D9 c i p (.BoolOp .Or (j::M::E) l) (Fq s ζ):=by
 intro b n o f r;refine PW.imp (pw_or (u b n o f r) (PW.ex λa=>w b n o f a)) ?_
 rintro z H Q ⟨y,Z,S,g⟩;refine⟨y,Z,S,?_⟩;simp only[Fq]at g;cases q:s f r with
 |ok x a=>
  rw[q]at g;dsimp only[ay.bind]at g;simp only[bZ];split at g
  .rename_i d
   rw[d];exact λt h k e m=>pN ⟨_,_,k,S.grow e m,ph.from e g⟩
  .rename_i d
   rw[d];simp only[bZ,d]at g;exact λt h k e m=>pO (g t _ k e m)
  .exact g.elim
 |exc x a=>rwa[q]at g
 |bad=>rwa[q]at g
theorem BB(o:gP c i p B1 u4)(q:bo c i p j s)(r:bo c i p M ζ):bo c i p (.IfExp B1 j M l) (Bu u4 s ζ):=by
 intro b d e f u;refine PE.imp (wd (o b d e f u) (PE.ex λa=>q b d e f a) (PE.ex λa=>r b d e f a)) ?_
 rintro y H Q ⟨w,Z,S,g⟩;refine⟨w,Z,S,ph.use g λt a _ z x h k m n=>?_⟩
 cases t with
 |true=>exact pO ⟨_,_,h,S.grow k m,n⟩
 |false=>exact pN ⟨_,_,h,S.grow k m,n⟩
theorem BC(z:gP c i p B1 u4)(A:gP c i p j s)(B:gP c i p M ζ):gP c i p (.IfExp B1 j M l) (Bu u4 s ζ):=by
 intro k m n b w pins d o H Q I;rintro⟨C,Z,S,g⟩;simp only[Bu]at g
 have u:N8 i p k m n u4 b w o H (λt h=>∃a e f,cj i k m n e f a b o h/\ph i p e f h (bZ (if t=true then s b a else ζ b a)) Q):=by
  refine⟨C,Z,S,?_⟩;cases q:bZ _ with
  |ok t a=>
   rw[q]at g;exact λh e f y r=>⟨_,_,f,S.grow y r,ph.from y g⟩
  |exc x a=>rwa[q]at g
  |bad=>rwa[q]at g
 refine isTrue_IfExp (bD (z _ m n b w _ d o H _ I u) λv r ⟨h,I1,_,_,f,S1,k1⟩=>?_)
 cases v with
 |true=>exact A _ m n b _ _ r o h Q I1 ⟨_,f,S1,k1⟩
 |false=>exact B _ m n b _ _ r o h Q I1 ⟨_,f,S1,k1⟩
def k_(g b:CmpOp)(h i j:EM):EM:=λc k=>(h c k).bind λx d=>(i c d).bind λy e=>(bZ (eg g x y e)).bind λt a=>if t=true then (j c a).bind λz f=>eg b y z f else .ok (.bl false) a
variable{o6:CmpOp}
theorem yw(S:cj i i0 P0 ο r n a B J0 e)(g:bE i p r n e (k_ A2 o6 s ζ u4 B a) ε):
  rj (xT A2) (xT o6) (tO i p i0 P0 ο s B a) (λJ0 e ε=>∃b,tO i p i0 P0 ο ζ B b J0 e ε) (λJ0 e ε=>∃b,tO i p i0 P0 ο u4 B b J0 e ε) J0 e ε:=by
 refine⟨r,n,S,bE.use g λx b _ v X D E o h F G=>?_⟩
 refine⟨_,_,E,S.grow o h,bE.use G λy H _ w I J K A j C c=>?_⟩
 have L:=(S.grow o h).grow A j;refine oD (p:=p) j (h.cA A F) C ?_;cases q:eg A2 x y _ with
 |ok d k=>
  obtain⟨t,rfl⟩:=oG _ _ _ _ _ q;intro u Y M N l m O;refine⟨t,O,?_⟩;rw[q]at c;have f:bE i p _ K I (if t=true then (u4 B _).bind _ else .ok _ _) ε:=c
  have f:=bE.from l f
  cases t with
  |true=>
   refine⟨_,_,N,L.grow l m,bE.use f λz P _ Z H4 Q Z4 R T U V=>?_⟩
   exact oD T (m.cA R (j.cA l C)) U V
  |false=>
   exact bE.ret m (bb rfl) f
 |exc x k=>rw[q]at c;exact c
 |bad=>rw[q]at c;exact c
theorem BD(h:c.A.units+64<cLine)(k:lastMarks [A2,o6] [M,B1]=false)(m:bo c i p j s)(n:bo c i p M ζ)(o:bo c i p B1 u4):bo c i p (.Compare j [A2,o6] [M,B1] l) (k_ A2 o6 s ζ u4):=by
 intro a d e f q;refine PE.imp (wo (jk h A2) (jk h _) (m a d e f q) (PE.ex λb=>n a d e f b) (PE.ex λb=>o a d e f b) k) ?_
 rintro r H Q ⟨t,Z,S,g⟩;exact yw S g
theorem Fv(h:k_ A2 o6 s ζ u4 B a=.ok m η):∃t,m=.bl t:=by
 simp only[k_]at h;cases b:s B a with
 |ok x c=>
  rw[b]at h;dsimp only[ay.bind]at h
  cases d:ζ B _ with
  |ok y e=>
   rw[d]at h;dsimp only[ay.bind]at h
   cases f:bZ _ with
   |ok t g=>
    rw[f]at h;dsimp only[ay.bind]at h
    split at h
    .cases i:u4 B _ with
     |ok z j=>rw[i]at h;exact oG _ _ _ _ _ h
     |exc _ _=>grind
     |bad=>grind
    grind
   |exc _ _=>grind
   |bad=>grind
  |exc _ _=>grind
  |bad=>grind
 |exc _ _=>rw[b]at h;cases h
 |bad=>rw[b]at h;cases h
theorem BE(k:c.A.units+64<cLine)(n:lastMarks [A2,o6] [M,B1]=false)(o:bo c i p j s)(r:bo c i p M ζ)(u:bo c i p B1 u4):gP c i p (.Compare j [A2,o6] [M,B1] l) (k_ A2 o6 s ζ u4):=by
 intro b f h e m;refine PT.imp (wq (jk k A2) (jk k _) (o b f h e m) (PE.ex λa=>r b f h e a) (PE.ex λa=>u b f h e a) n) ?_
 rintro E H Q ⟨F,Z,S,g⟩;refine yw S ?_;cases q:k_ A2 _ s ζ u4 e m with
 |ok d a=>
  obtain⟨t,rfl⟩:=Fv q;rw[q]at g;intro v w y z B C D;exact⟨t,D,g w _ z B C⟩
 |exc x a=>rw[q]at g;exact g
 |bad=>rw[q]at g;exact g.elim
def bF(f:List D->Out Rs):List D->aJ->ay D:=λb a=>match bN (fk a 8) b with
 |some c=>fR a (f c)
 |none=>.bad
variable{y1:List D->Out Rs}
theorem iP(S:br i r n a e)(s:aG (au r n e) q I)(h:bE i p r n e (bF y1 q a) ε):
  ∃l b j,ba (Bl r n) e l I/\y1 l=.ok (b,j)/\∀v m o,eG (Bl r n) e o m->ec y b o e m j v->ε v m:=by
 unfold bF at h;split at h
 .rename_i l t
  obtain⟨b,j,c,k⟩:=iI (y:=y) S h;exact⟨l,_,j,f9 (eu (S:=Rep _ e) (λd j v f g=>ki S 8 f g) t s),c,by grind⟩
 .exact h.elim
theorem vj(F0:Iz c b d y1)(m:bA b c.A)(n:Gl c d)(a:(d==("__debug__":Str))=false)(o:starEach (j::E) c.env=(false,eval j c.env)::starEach E c.env)(e:(backTo l (starEach E c.env)).any (·.1)=false)(q:mY c i p (j::E) d0):
  bo c i p (.Call (.Name d C) (j::E) [] l) (mN (bF y1) d0):=by
 obtain⟨f,O,P,r,s,t,F1⟩:=F0.ex;intro h u w x y;refine PE.imp (nV F1 m n r s t .nil iy (q h u w x y) a o e) ?_;rintro R H Q ⟨z,Z,S,g⟩;refine⟨z,Z,S,mX.use g λT B _ U V D X Y k F G=>?_⟩
 rw[List.append_nil];obtain⟨I,J,K,L,M,N⟩:=iP k F G;exact⟨_,I,_,K,ee k,L,M,N⟩
def mn(f g:List D->aJ->ay D):List D->aJ->ay D:=λa b=>i9 (f a b) (g a b)
def vk(xs:List D)(a:aJ):ay D:=match xs with
 |[x]=>match gg a x with
  |some b=>.ok (.int b.length) a
  |none=>.bad
 |_=>.bad
noncomputable def yx(xs:List D)(b:aJ):ay D:=match xs with
 |[.ref k]=>match b[k]? with
  |some (.dK a)=>.ok (.int a.length) b
  |some (.dF a)=>.ok (.int a.length) b
  |_=>.bad
 |_=>.bad
def jK(xs:List D)(a:aJ):ay D:=match xs with
 |[x]=>match gg a x with
  |some b=>iH a (.lst b)
  |none=>.bad
 |_=>.bad
noncomputable def jq:Key->D
 |.inl i=>.int i
 |.inr x=>.str x
noncomputable def vl(b:aJ)(x:D):Option (List (Key×D)):=match x with
 |.ref k=>(match b[k]? with
  |some (.dK a)=>some a
  |some (.dF a)=>some a
  |_=>none)
 |_=>none
def la(xs:List D)(b:aJ):ay D:=match xs with
 |[x]=>match vl b x with
  |some a=>iH b (.lst (a.map λc=>jq c.1))
  |none=>.bad
 |_=>.bad
def qk(xs:List D)(b:aJ):ay D:=match xs with
 |[x]=>match vl b x with
  |some a=>iH b (.dK a)
  |none=>.bad
 |_=>.bad
def m_:D->Option (Key×D)
 |.tup [k,v]=>(oC k).map λk=>(k,v)
 |_=>none
def iQ(xs:List D)(b:aJ):ay D:=match xs with
 |[x]=>match dE b x with
  |some c=>match bN m_ c with
   |some d=>iH b (.dK (d.foldl (λa p=>cm a p.1 p.2) []))
   |none=>.bad
  |none=>.bad
 |_=>.bad
def gZ:List D->aJ->ay D:=mn iQ qk
def Fw:List D->Out Rs
 |[.str z]=>if small z.length then .ok (false,.int z.length)else .bad
 |_=>.bad
def Fx:List D->Out Rs
 |[.lst a]=>match eV a with|some bs=>.ok (false,.bl (bs.all id))|none=>.bad
 |_=>.bad
def Fy:List D->Out Rs
 |[.lst a]=>match eV a with|some bs=>.ok (false,.bl (bs.any id))|none=>.bad
 |_=>.bad
def yy:l_->List D->Out Rs
 |.len=>Fw
 |.all=>Fx
 |.any=>Fy
 |_=>λ_=>.bad
def oH(f:l_):List D->aJ->ay D:=bF (yy f)
def a8(f:l_):List D->aJ->ay D:=match f with
 |.len=>mn vk (mn yx (oH .len))
 |.list=>mn jK la
 |f=>oH f
theorem oJ{g:List D->aJ->ay D}:mN (mn i6 g) d0=mj (mN i6 d0) (mN g d0):=by
 funext b a
 simp only[mN,mj];cases d0 b a with
 |ok x c=>rfl
 |exc x a=>rfl
 |bad=>rfl
variable{U1:String}{v7:List V->Hp->VK->Prop}
theorem gi(m:eH c (.builtin U1) v7)(n:Gl c d)(o:c.mg d=none)(q:bootBuiltins d=some (.builtin U1))(r:d≠"__name__")(f:(d==("__debug__":Str))=false)(s:starEach (j::E) c.env=(false,eval j c.env)::starEach E c.env)(h:(backTo l (starEach E c.env)).any (·.1)=false)(t:mY c i p (j::E) d0)(u:∀xs b a Z e H Q,br i a Z e H->aG (au a Z H) xs b->bE i p a Z H (i6 xs e) Q->v7 b H Q):bo c i p (.Call (.Name d C) (j::E) [] l) (mN i6 d0):=by
 intro k w x y e;refine PE.imp (pF m n o q (t k w x y e) r f s h) ?_;rintro J H Q ⟨a,Z,S,g⟩;exact⟨a,Z,S,mX.use g λxs z _ b A B D K F G I=>u xs b _ D _ A Q F G I⟩
theorem iR(m:eH c (.type U1) v7)(n:Gl c d)(o:c.mg d=none)(q:bootBuiltins d=some (.type U1))(r:d≠"__name__")(e:(d==("__debug__":Str))=false)(s:starEach (j::E) c.env=(false,eval j c.env)::starEach E c.env)(f:(backTo l (starEach E c.env)).any (·.1)=false)(t:mY c i p (j::E) d0)(y:∀xs k a Z b H Q,br i a Z b H->aG (au a Z H) xs k->bE i p a Z H (i6 xs b) Q->v7 k H Q):bo c i p (.Call (.Name d C) (j::E) [] l) (mN i6 d0):=by
 intro h u w x b;refine PE.imp (uI m n o q (t h u w x b) r e s f) ?_;rintro z H Q ⟨a,Z,S,g⟩;exact⟨a,Z,S,mX.use g (by grind)⟩
theorem gy{Z:Addr->Prop}{H:Hp}:∀{b:List D}{a:List V},ba Z H b a->xU Z H b a
 |[],a,h=>h.nil_inv
 |d::b,a,h=>by
  obtain⟨v,r,rfl,c,e⟩:=h.cons_inv;exact⟨v,r,rfl,c.now,gy e⟩
variable{R:List (Key×D)}
theorem qm(S:br i r n a e)(f:au r n e m u)(h:vl a m=some R):∃b c,u=.ref b/\Rd e b (.dK c)/\hV (au r n e) R c:=by
 unfold vl at h;split at h
 .obtain⟨b,o,rfl⟩:=f
  split at h
  .rename_i g j
   cases h;obtain⟨p,d,c,k,l⟩:=S.cell j;rw[o]at d;cases d
   exact⟨b,_,rfl,.inl k,l⟩
  .rename_i g j
   cases h;obtain⟨p,d,q,c,k,l⟩:=S.cell j;rw[o]at d;cases d
   exact⟨b,_,rfl,.inr ⟨q,k⟩,l⟩
  .cases h
 .cases h
theorem BF(S:br i r n a e)(k:aG (au r n e) q I)(g:bE i p r n e (la q a) ε):∃b kvs,I=[V.ref b]/\Rd e b (.dK kvs)/\∀l,e l=none->ε (.ref l) (upd e l (.lst (kvs.map λf=>kV f.1))):=by
 unfold la at g;split at g
 .split at g
  .rename_i kvs m
   obtain⟨v,h,rfl,o,s⟩:=k.cons_inv;rw[s.nil_inv];obtain⟨b,d,rfl,t,u⟩:=qm S o m;refine⟨b,_,rfl,t,f_ S ?_ g⟩
   have:∀{kvs:List _}{d:List _},hV (au r n e) kvs d->aG (au r n e) (kvs.map λf=>jq f.1) (d.map λf=>kV f.1):=λ{kvs d} c=>by
    induction c with
    |nil=>exact .nil
    |@cons j c _ _ w _ x=>
     refine .cons ?_ x
     show au r n e (jq _) (kV _)
     rw[w.1];cases c.1<;>simp only[jq,kV,au]
   exact this u
  .exact g.elim
 .exact g.elim
variable{B4:List (Key×V)}
theorem yz(S:br i r n a e)(d:hV (au r n e) R B4)(k:bE i p r n e (iH a (.dK R)) ε):∀b,e b=none->ε (.ref b) (upd e b (.dK B4)):=λb g=>by
 obtain⟨h,j⟩:=S.laid (c:=.dK _) g λf l=>⟨_,aL,d.imp l⟩
 exact k _ _ _ _ j h (fb S b)
theorem BG(S:br i r n a e)(f:aG (au r n e) q I)(g:bE i p r n e (qk q a) ε):∃b kvs,I=[V.ref b]/\Rd e b (.dK kvs)/\∀l,e l=none->ε (.ref l) (upd e l (.dK kvs)):=by
 unfold qk at g;split at g
 .split at g
  .rename_i kvs h
   obtain⟨v,c,rfl,j,k⟩:=f.cons_inv;rw[k.nil_inv];obtain⟨b,d,rfl,m,o⟩:=qm S j h;exact⟨b,_,rfl,m,yz S o g⟩
  .exact g.elim
 .exact g.elim
theorem ng{k:List Addr}{Z:Addr->Prop}{H:Hp}:∀{j:List D}{f:List V}{g:List (Key×D)},aG (au k Z H) j f->bN m_ j=some g->∃c,hV (au k Z H) g c/\Paired (λ(p:Key×V) (y:V)=>∃b,y=.ref b/\Rd H b (.tup [kV p.1,p.2])) c f
 |[],f,g,r,h=>by cases h;rw[r.nil_inv];exact⟨[],.nil,.nil⟩
 |d::j,f,g,r,h=>by
  simp only[bN]at h;split at h
  .rename_i y B i l
   cases h;obtain⟨v,m,rfl,n,o⟩:=r.cons_inv;obtain⟨c,q,s⟩:=ng o l;unfold m_ at i;split at i
   .obtain⟨t,u,rfl⟩:=Option.map_eq_some_iff.mp i
    obtain⟨a,C,rfl,_,w,e⟩:=gx n;obtain⟨E,F,rfl,x,e⟩:=e.cons_inv;obtain⟨z,G,rfl,A,e⟩:=e.cons_inv;obtain rfl:=e.nil_inv;obtain rfl:=gf u x;exact⟨(t,z)::c,.cons ⟨rfl,A⟩ q,.cons ⟨a,rfl,.inl w⟩ s⟩
   .cases i
  .cases h
theorem BH(S:br i r n a e)(w:aG (au r n e) q I)(g:bE i p r n e (iQ q a) ε):∃d o m,I=[V.ref d]/\Rd e d (.lst o)/\Paired (λ(c:Key×V) (y:V)=>∃b,y=.ref b/\Rd e b (.tup [kV c.1,c.2])) m o/\∀l,e l=none->ε (.ref l) (upd e l (.dK (m.foldl (λd c=>putK d c.1 c.2) []))):=by
 unfold iQ at g;split at g
 .split at g
  .rename_i H x
   split at g
   .rename_i m z
    obtain⟨v,s,rfl,A,B⟩:=w.cons_inv;rw[B.nil_inv];obtain⟨d,o,rfl,C,D⟩:=ck S A x;obtain⟨j,E,F⟩:=ng D z;refine⟨d,o,_,rfl,C,F,yz S ?_ g⟩
    have:∀{m:List _}{j:List _}{k:List _}{f:List (Key×V)},hV _ k f->hV (au r n e) m j->hV (au r n e) (m.foldl (λd c=>cm d c.1 c.2) k) (j.foldl (λd c=>putK d c.1 c.2) f):=λ{m j k f} t h=>by
     induction h generalizing k f with
     |nil=>exact t
     |@cons c h _ _ u _ G=>
      simp;refine G ?_;rw[u.1];exact t.put _ u.2
    exact this .nil E
   .exact g.elim
  .exact g.elim
 .exact g.elim
theorem yA(a:c.calm=true)(e:Gl c "dict")(f:c.mg "dict"=none)(h:starEach (j::E) c.env=(false,eval j c.env)::starEach E c.env)(b:(backTo l (starEach E c.env)).any (·.1)=false)(k:mY c i p (j::E) d0):bo c i p (.Call (.Name "dict" C) (j::E) [] l) (mN gZ d0):=by
 show bo c i p _ (mN (mn _ _) d0)
 rw[oJ];exact bo.alt (iR (rG a) e f boot_dict (by decide) (by decide) h b k λm n o Z q H Q S d g=>BH S d g) (iR rE e f boot_dict (by decide) (by decide) h b k λm n o Z q H Q S d g=>BG S d g)
theorem BI{f:l_}(e:c.calm=true)(L:f∈[l_.len,l_.all,l_.any,l_.list])(A:Gl c f.nm)(B:c.mg f.nm=none)(D:starEach (j::E) c.env=(false,eval j c.env)::starEach E c.env)(h:(backTo l (starEach E c.env)).any (·.1)=false)(q:mY c i p (j::E) d0):
  bo c i p (.Call (.Name f.nm C) (j::E) [] l) (mN (a8 f) d0):=by
 cases f with
 |len=>
  show bo c i p _ (mN (mn vk (mn yx (oH .len))) d0)
  rw[oJ,oJ];refine bo.alt ?_ (bo.alt ?_ ?_)
  .refine gi nY A B boot_len (by decide) (by decide) D h q ?_
   intro P R F Z G H Q S o g;unfold vk at g;split at g
   .split at g
    .rename_i I T
     obtain⟨v,r,rfl,z,J⟩:=o.cons_inv;rw[J.nil_inv];obtain⟨m,U,rfl,V,X⟩:=k4 (x:=c.K) S z T;exact⟨m,U,rfl,V,by rw[X.length];exact bE.ret S (bb rfl) g⟩
    .exact g.elim
   .exact g.elim
  .refine gi uR A B boot_len (by decide) (by decide) D h q ?_
   intro P R F Z G H Q S o g;unfold yx at g;split at g
   .split at g
    .rename_i Y hk
     obtain⟨v,r,rfl,z,J⟩:=o.cons_inv;rw[J.nil_inv];simp only[au]at z;obtain⟨a,q,rfl⟩:=z;obtain⟨a',s,t,h1,h2⟩:=S.cell hk;rw[q]at s;cases s
     exact⟨a,t,rfl,.inl h1,by rw[h2.length];exact bE.ret S (bb rfl) g⟩
    .rename_i Y hk
     obtain⟨v,r,rfl,z,J⟩:=o.cons_inv;rw[J.nil_inv];simp only[au]at z;obtain⟨a,q,rfl⟩:=z;obtain⟨a',s,of,t,h1,h2⟩:=S.cell hk;rw[q]at s;cases s
     exact⟨a,t,rfl,.inr ⟨of,h1⟩,by rw[h2.length];exact bE.ret S (bb rfl) g⟩
    .exact g.elim
   .exact g.elim
  .refine gi n3 A B boot_len (by decide) (by decide) D h q ?_
   intro M N F Z G H Q S o g;obtain⟨I,O,d,u,b,k⟩:=iP (y:=false) S o g;have u:=gy u;have w:=ee S;replace b:Fw I=_:=b;unfold Fw at b;split at b
   .obtain⟨x,rfl,n⟩:=u.one
    cases cP n;split at b
    .rename_i hs
     cases b;exact⟨_,rfl,bw hs,kX w k rfl⟩
    .cases b
   .cases b
 |all=>
  refine gi (ya e) A B boot_all (by decide) (by decide) D h q ?_
  intro M N F Z G H Q S o g;obtain⟨I,O,d,u,b,k⟩:=iP (y:=false) S o g;have u:=gy u;have w:=ee S;replace b:Fx I=_:=b;unfold Fx at b;split at b
  .obtain⟨x,rfl,n⟩:=u.one
   split at b
   .rename_i bs hb
    cases b;exact⟨_,_,bs,x,rfl,n,hb,kX w k rfl⟩
   .cases b
  .cases b
 |any=>
  refine gi (yb e) A B boot_any (by decide) (by decide) D h q ?_
  intro M N F Z G H Q S o g;obtain⟨I,O,d,u,b,k⟩:=iP (y:=false) S o g;have u:=gy u;have w:=ee S;replace b:Fy I=_:=b;unfold Fy at b;split at b
  .obtain⟨x,rfl,n⟩:=u.one
   split at b
   .rename_i bs hb
    cases b;exact⟨_,_,bs,x,rfl,n,hb,kX w k rfl⟩
   .cases b
  .cases b
 |int=>simp at L
 |min=>simp at L
 |max=>simp at L
 |list=>
  show bo c i p _ (mN (mn jK la) d0)
  rw[oJ];refine bo.alt ?_ (iR (rD e) A B boot_list (by decide) (by decide) D h q λP R F Z G H Q S o g=>BF S o g)
  refine iR n4 A B boot_list (by decide) (by decide) D h q ?_
  intro P R F Z G H Q S o g;have g:bE i p F Z H (jK P G) Q:=g;unfold jK at g;split at g
  .split at g
   .rename_i I T
    obtain⟨v,r,rfl,z,J⟩:=o.cons_inv;rw[J.nil_inv];obtain⟨m,U,rfl,V,X⟩:=k4 (x:=c.K) S z T;exact⟨m,U,rfl,V,f_ S X g⟩
   .exact g.elim
  .exact g.elim
 |tuple=>simp at L
 |sorted=>simp at L
 |bool=>simp at L
theorem qo{e:List Addr}{Z:Addr->Prop}{H:Hp}:∀{c:List D}{a:List Str}{b:List V},iC c=some a->aG (au e Z H) c b->b=a.map V.str
 |[],a,b,h,r=>by cases h;exact r.nil_inv
 |d::c,a,b,h,r=>by
  obtain⟨v,k,rfl,f,g⟩:=r.cons_inv;cases d with
  |str i=>
   obtain⟨l,j,rfl⟩:=Option.map_eq_some_iff.mp (h);rw[f,qo j g];rfl
  |_=>cases h
def N9(t:Ty):D->aJ->ay D:=Bm λd=>match xM d t with|some b=>.ok (false,.bl b)|none=>.bad
def oK(t:Ty):D->aJ->ay D:=N9 t
theorem BJ(o:Gl c "isinstance")(t:c.mg "isinstance"=none)(a:Gl c u3.nm)(e:c.mg u3.nm=none)(m:starEach [j,Expr.Name u3.nm D1] c.env=(false,eval j c.env)::starEach [Expr.Name u3.nm D1] c.env)(f:(backTo l (starEach [Expr.Name u3.nm D1] c.env)).any (·.1)=false)(u:bo c i p j s):
  bo c i p (.Call (.Name "isinstance" C) [j,.Name u3.nm D1] [] l) (m1 (oK u3) s):=by
 have h:PE c (.Name _ D1) (tC (.ty _)):=Ad a e (AU u3) rfl (by cases u3<;>decide) (by cases u3<;>decide)
 .refine tG (r:=λx H Q=>ID c.K _ H Q) (λD w=>pF yc o t boot_isinstance (eI w (eI h nT rfl) m) (by decide) (by decide) m f) u ?_
  intro E x F Z G H Q S z g;obtain⟨d,A,I,B,n,k⟩:=yr (y:=false) S z g;cases q:xM d u3 with
  |none=>grind
  |some b=>
   rw[q]at n;cases n;exact⟨_,d,x,u3,b,rfl,B,q,kX (ee S) k rfl⟩
def dm(b:aJ->D->Bool)(f:D->List D->aJ->ay D)(e:EM)(g:AM):EM:=λd h=>(e d h).bind λx a=>if b a x=true then (g d a).bind λi c=>f x i c else .bad
def lP(a:aJ)(x:D):Bool:=(dE a x).isSome
noncomputable def Fz(_:aJ)(x:D):Bool:=match x with
 |.str _=>true
 |_=>false
theorem lb(S:br i r n a e)(b:au r n e m u)(h:lP a m=true):DM x "list" u e:=by
 unfold lP at h;cases q:dE a m with
 |none=>grind
 |some g=>
  obtain⟨c,d,rfl,f,j⟩:=ck S b q;exact .inl ⟨rfl,d,mf f⟩
theorem BK(S:br i r n a e)(b:au r n e m u)(h:Fz a m=true):DM x "str" u e:=by
 cases m with
 |str z=>subst b;rfl
 |_=>cases h
variable{F8:D->List D->aJ->ay D}{Q4:String}{S6:V->List V->Hp->VK->Prop}{S7:aJ->D->Bool}
theorem BL(u:PlainAttrs U1)(slot:PySem.Slot U1 d Q4)(h:typeOf (.builtin Q4)=pure (.type "method_descriptor"))(w:Ha c Q4 S6)(y:∀x v a Z b H,br i a Z b H->au a Z H x v->S7 b x=true->DM c.K U1 v H)(z:∀x v xs n a Z b H Q,br i a Z b H->au a Z H x v->aG (au a Z H) xs n->bE i p a Z H (F8 x xs b) Q->S6 v n H Q)(e:attributeBase j d c.env (eval j c.env)=eval j c.env)(f:(l.endLine==C.line)=true)(A:bo c i p j s):bo c i p (.Call (.Attribute j d l) [] [] C) (dm S7 F8 s ah):=by
 intro k B D E b;refine PE.imp (L2.EW u slot h w (A k B D E b) e f) ?_;rintro J H Q ⟨a,Z,S,g⟩;refine⟨a,Z,S,bE.use g λx F _ v o G q L r t m=>?_⟩
 split at m
 .rename_i I
  exact⟨y x v _ q _ o r t I,z x v [] [] _ q _ o Q r t .nil m⟩
 .exact m.elim
theorem oM{cpos:Pos}{env:Env}:∀{a:List Expr},(∀e∈a,isStar e=false)->((backTo cpos (starEach a env)).all (λx=>!x.1))=true
 |[],_=>rfl
 |e::a,h=>by
  rw[bK (h e (by simp))]
  show(!false&&(backTo _ _).all _)=true
  rw[oM (by grind)];rfl
theorem jr(A:PlainAttrs U1)(slot:PySem.Slot U1 d Q4)(n:typeOf (.builtin Q4)=pure (.type "method_descriptor"))(B:Ha c Q4 S6)(hT:∀x v a Z b H,br i a Z b H->au a Z H x v->S7 b x=true->DM c.K U1 v H)(D:∀x v xs m a Z b H Q,br i a Z b H->au a Z H x v->aG (au a Z H) xs m->bE i p a Z H (F8 x xs b) Q->S6 v m H Q)(e:attributeBase M d c.env (eval M c.env)=eval M c.env)(f:(l.endLine==C.line)=true)(F:bo c i p M s)(G:mY c i p (j::E) d0)(o:∀z∈j::E,isStar z=false)(r:(j::E).length<20):bo c i p (.Call (.Attribute M d l) (j::E) [] C) (dm S7 F8 s d0):=by
 intro h t u w b
 refine PE.imp (L2.HX A slot n B (F h t u w b) (PA.ex λk=>G h t u w k) e (by
  rw[oM o,decide_eq_true (by grind)];rfl) f (bK (by grind)) (bL (by grind))) ?_
 rintro σ H Q ⟨a,Z,S,g⟩;refine⟨a,Z,S,bE.use g λx k _ v H1 I J L y N q=>?_⟩
 split at q
 .exact⟨by grind,_,_,J,S.grow L y,mX.use q λxs O _ m P R T U V X Y=>D x v xs m _ T _ P Q V (y.cA U N) X Y⟩
 .exact q.elim
noncomputable def mq(a:aJ):D->Option (Nat×List D)
 |.ref k=>match a[k]? with
  |some (.lst b)=>some (k,b)
  |_=>none
 |_=>none
theorem fc(S:br i r n a e)(d:au r n e m u)(h:mq a m=some (b,q)):∃c f,u=.ref c/\r[b]?=some c/\e c=some (.lst f)/\aG (au r n e) q f:=by
 cases m with
 |ref g=>
  simp only[mq]at h;split at h
  .rename_i j k
   simp only[au]at d;obtain⟨o,l,f,p,s⟩:=S.cell k
   grind
  .cases h
 |_=>cases h
theorem gj(S:br i r n a e)(j:r[b]?=some h)(t:e h=some (.lst Y3))(d:aG (au r n e) q I)(k:au r n e m u)(g:bE i p r n e (.ok m (a.set b (.lst q))) ε):ε u (upd e h (.lst I)):=by
 obtain⟨l,f⟩:=S.put (c:=.lst q) j (λo u z=>by grind) λR s=>⟨I,aL,d.imp s⟩
 exact g _ _ _ _ f l (S.cA f k)
def c9(x:D)(xs:List D)(a:aJ):ay D:=match mq a x,xs with
 |some (k,b),[y]=>if small (b.length+1)then .ok .non (a.set k (.lst (b++[y])))else .bad
 |_,_=>.bad
def ew(x:D)(xs:List D)(a:aJ):ay D:=match mq a x,xs with
 |some (k,b),[]=>.ok .non (a.set k (.lst b.reverse))
 |_,_=>.bad
def cQ(x:D)(xs:List D)(a:aJ):ay D:=match mq a x,xs with
 |some (k,b),[.int i,y]=>if small (b.length+1)&&l9 i then .ok .non (a.set k (.lst (om b i y)))else .bad
 |_,_=>.bad
def gz(x:D)(xs:List D)(a:aJ):ay D:=match mq a x,xs with
 |some (k,b),[y]=>match mq a y with
  |some (_,c)=>if small (b.length+c.length)then .ok .non (a.set k (.lst (b++c)))else .bad
  |none=>.bad
 |_,_=>.bad
def qq(x:D)(xs:List D)(c:aJ):ay D:=match xs with
 |[y]=>gO (λa b=>E9 .join a (.tup [b])) x y c
 |_=>.bad
theorem gC(h:aG n5 [m] I):∃v,I=[v]/\n5 m v:=by
 obtain⟨v,r,rfl,a,b⟩:=h.cons_inv;rw[b.nil_inv];exact⟨v,rfl,a⟩
theorem BN(h:aG n5 [m,X] I):∃v w,I=[v,w]/\n5 m v/\n5 X w:=by
 obtain⟨v,r,rfl,a,b⟩:=h.cons_inv;obtain⟨w,rfl,c⟩:=gC b;exact⟨v,w,rfl,a,c⟩
theorem vm(S:br i r n a e)(b:au r n e m u)(rs:aG (au r n e) q I)(g:bE i p r n e (c9 m q a) ε):sU u I e ε:=by
 unfold c9 at g;split at g
 .rename_i k w y j
  obtain⟨c,l,rfl,o,f,h⟩:=fc S b j;obtain⟨d,rfl,s⟩:=gC rs;split at g
  .rename_i t
   have:=bw t;exact⟨c,l,d,rfl,rfl,f,by rw[h.length];omega,gj S o f (h.append (.one s)) (bb rfl) g⟩
  .exact g.elim
 .exact g.elim
theorem rZ(S:br i r n a e)(b:au r n e m u)(rs:aG (au r n e) q I)(g:bE i p r n e (ew m q a) ε):pI u I e ε:=by
 unfold ew at g;split at g
 .rename_i k o f
  obtain⟨c,h,rfl,j,d,l⟩:=fc S b f;rw[rs.nil_inv];exact⟨c,h,rfl,rfl,d,gj S j d l.reverse (bb rfl) g⟩
 .exact g.elim
theorem vn(S:br i r n a e)(b:au r n e m u)(rs:aG (au r n e) q I)(g:bE i p r n e (cQ m q a) ε):tr u I e ε:=by
 unfold cQ at g;split at g
 .rename_i k A c y o
  obtain⟨d,s,rfl,t,l,f⟩:=fc S b o;obtain⟨h,w,rfl,x,z⟩:=BN rs;subst x;split at g
  .rename_i j
   simp at j;have:=bw j.1;have B:=pU j.2;refine⟨d,s,c,w,rfl,rfl,l,by omega,by omega,by rw[f.length];omega,gj S t l ?_ (bb rfl) g⟩
   unfold om;rw[f.length];exact(f.take _).append (.cons z (f.drop _))
  .exact g.elim
 .exact g.elim
theorem vo(S:br i r n a e)(c:au r n e m u)(rs:aG (au r n e) q I)(g:bE i p r n e (gz m q a) ε):sV u I e ε:=by
 unfold gz at g;split at g
 .rename_i k D y s
  obtain⟨d,t,rfl,w,j,l⟩:=fc S c s;obtain⟨f,rfl,x⟩:=gC rs;split at g
  .rename_i h E z
   obtain⟨b,A,rfl,F,B,o⟩:=fc S x z;split at g
   .rename_i C
    exact⟨d,b,t,A,rfl,rfl,j,B,by rw[l.length,o.length];exact bw C,gj S w j (l.append o) (bb rfl) g⟩
   .exact g.elim
  .exact g.elim
 .exact g.elim
theorem BO(S:br i r n a e)(f:au r n e m u)(rs:aG (au r n e) q I)(g:bE i p r n e (qq m q a) ε):rJoin u I e ε:=by
 unfold qq at g;split at g
 .obtain⟨h,rfl,l⟩:=gC rs
  obtain⟨d,b,o,B,s,t,c,k⟩:=iK (y:=false) S f l g;cases d with
  |str z=>
   cases cP s;cases b with
   |lst w=>
    (unfold E9 at c;dsimp only at c)
    split at c
    .rename_i x A
     split at c
     .rename_i j
      cases c;simp at j;exact⟨z,_,w,x,h,rfl,rfl,t,A,j.1,j.2,kX (ee S) k rfl⟩
     .cases c
    .cases c
   |_=>cases c
  |_=>cases b<;>cases c
 .exact g.elim
inductive Src where
 |seq (x:D)|ints (lo:Int) (n:Nat)|chars (z:Str)|IY (x:D)|keys (k:Nat)|items (k:Nat)
def eh:Src->aJ->Option (List D)
 |.seq x,Ω=>gg Ω x
 |.ints d n,_=>some (intsFrom d n)
 |.chars z,_=>some (z.cps.toList.map λc=>.str (bz c))
 |.IY x,Ω=>(dE Ω x).map (dq 0)
 |.keys k,Ω=>match Ω[k]? with
  |some (.dF a)=>some (a.map λb=>jq b.1)
  |_=>none
 |.items k,Ω=>match Ω[k]? with
  |some (.dF a)=>some (a.map λb=>.tup [jq b.1,b.2])
  |_=>none
abbrev IM:=bp->aJ->ay Src
def vp(j:Str->Addr->Prop)(s:Src)(J:It)(k:List Addr)(Z:Addr->Prop)(H:Hp):Prop:=∀a f b c g,bW k Z H a f c->br j a f b c->eh s b=some g ->
 (∀(i:Nat) (d:D),g[i]?=some d->J.go i c/\∀x e,J.KA i c x e->∃h,bW a f c a h e/\br j a h b e/\au a h e d x)/\∀i,g.length<=i->J.stop i c
def rf(e:Str->Addr->Prop)(Φ:gX)(f:List Addr)(Z:Addr->Prop)(H:Hp)(r:ay Src)(R:It->Hp->Prop):Prop:=match r with
 |.ok s b=>∀J c a d,bW f Z H a d c->br e a d b c->vp e s J a d c->R J c
 |.exc x b=>∀c a d,bW f Z H a d c->br e a d b c->Φ x b a d c
 |.bad=>False
noncomputable def RQ(b:Str->Addr->Prop)(Φ:gX)(a:List Addr)(f:Addr->Prop)(g:Hp)(m:IM)(c:bp)(d:aJ):TI:=λh H R=>∃e Z,cj b a f g e Z d c h H/\rf b Φ e Z H (m c d) R
def vX(X:Cx)(b:Str->Addr->Prop)(Φ:gX)(c e:Expr)(m:IM):Prop:=∀a d f g h,PI X c e (RQ b Φ a d f m g h)
def srcOf(a:aJ)(x:D):ay Src:=match gg a x,x with
 |some _,x=>.ok (.seq x) a
 |none,.str z=>.ok (.chars z) a
 |none,.ref k=>(match a[k]? with
  |some (.dK b)=>.ok (.keys k) (a.set k (.dF b))
  |some (.dF _)=>.ok (.keys k) a
  |_=>.bad)
 |none,_=>.bad
def bf(m:EM):IM:=λb c=>(m b c).bind λx a=>srcOf a x
noncomputable def tL(a:aJ)(x:D):ay Src:=match x with
 |.ref k=>(match a[k]? with
  |some (.dK b)=>.ok (.items k) (a.set k (.dF b))
  |some (.dF _)=>.ok (.items k) a
  |_=>.bad)
 |_=>.bad
def hY(m:EM):IM:=λb c=>(m b c).bind λx a=>tL a x
def jV(m:EM):IM:=λb c=>(m b c).bind λx a=>match dE a x with
 |some _=>.ok (.IY x) a
 |none=>.bad
def tN(xs:List D)(a:aJ):ay Src:=match xs with
 |[.int j]=>if l9 j then .ok (.ints 0 j.toNat) a else .bad
 |_=>.bad
def cU(a:AM):IM:=λb c=>(a b c).bind tN
variable{L6:It->Hp->Prop}
theorem rf.from{a:ay Src}(g:bW r n e i0 P0 ο)(h:rf i p r n e a L6):rf i p i0 P0 ο a L6:=by
 cases a with
 |ok d b=>exact λv c f j k=>h v c _ j (g.trans k)
 |exc x b=>exact λc f j k=>h c _ j (g.trans k)
 |bad=>exact h
theorem rf.use{f:D->aJ->ay Src}(h:rf i p r n e (C3.bind f) L6)(k:∀d a,C3=.ok d a->∀v c b j,bW r n e b j c->br i b j a c->au b j c d v->rf i p b j c (f d a) L6->ε v c):bE i p r n e C3 ε:=by
 cases C3 with
 |ok d a=>exact λv c b j g s q=>k d _ rfl v c _ j g s q (rf.from g h)
 |exc x a=>exact h
 |bad=>exact h
theorem qr(u:au r n e m (.ref h))(S:br i r n a e)(w:(dE a m).isSome=true):vp i (.seq m) (Nd x h) r n e:=by
 intro z A f G B g s C;have D:∀j,m≠.tup j:=λj b=>by subst b;cases w
 have k:dE f m=some B:=by
  cases m with
  |tup j=>grind
  |_=>exact C
 obtain⟨H,l,b,o,q⟩:=ck s (S.cA g u) k;cases b;refine⟨λc d E=>?_,λc I=>⟨l,mf o,by rwa[q.length]⟩⟩
 obtain⟨v,t,F⟩:=q.get E;refine⟨⟨l,v,mf o,t⟩,λy J p=>?_⟩
 obtain⟨rfl,p⟩:=p;have:=p l (mf o);rw[t]at this;cases this;exact⟨A,bW.refl s.has,s,F⟩
theorem BP(o:au r n e (.tup q) (.ref h))(S:br i r n a e):vp i (.seq (.tup q)) (Nf x h) r n e:=by
 intro p t u B C g s w;cases w;obtain⟨D,f,b,_,j,l⟩:=gx (S.cA g o);cases b;refine⟨λc d z=>?_,λc E=>⟨f,vV (.inl j),by rwa[l.length]⟩⟩
 obtain⟨v,m,A⟩:=l.get z;refine⟨⟨f,v,vV (.inl j),m⟩,λy F k=>?_⟩
 obtain⟨rfl,k⟩:=k;have:=k f (vV (.inl j));rw[m]at this;cases this;exact⟨t,bW.refl s.has,s,A⟩
theorem qu(y:r[b]?=some h)(z:e h=some (.dj ω (.dK B4))):vp i (.keys b) (Ig h ω) r n e:=by
 intro A B C H I g s k;have a:=g.dj h _ _ z;simp only[eh]at k;split at k
 .rename_i m D
  cases k;obtain⟨J,f,K,o,t,u⟩:=s.cell D;rw[(g.pre b h y)]at f;cases f
  rw[a]at t;cases t
  have L:=u.length;refine⟨λc d w=>?_,λc M=>⟨_,a,by grind⟩⟩
  rw[List.getElem?_map]at w;obtain⟨p,E,rfl⟩:=Option.map_eq_some_iff.mp w;obtain⟨q,F,G,_⟩:=aG.get u E;refine⟨⟨_,a,by grind⟩,λx N l=>?_⟩
  obtain⟨rfl,l⟩:=l;obtain⟨O,j,rfl⟩:=l _ a;rw[F]at j;cases j
  refine⟨B,bW.refl s.has,s,?_⟩;rw[G];cases q.1<;>simp only[jq,kV,au]
 .cases k
theorem nj(B:r[b]?=some h)(C:e h=some (.dj ω (.dK B4))):vp i (.items b) (II h ω) r n e:=by
 intro D M E N O g s k;have l:=g.pre b h B;have a:=g.dj h _ _ C;simp only[eh]at k;split at k
 .rename_i t F
  cases k;obtain⟨P,f,Q,u,w,y⟩:=s.cell F;rw[l]at f;cases f
  rw[a]at w;cases w
  have R:=y.length;refine⟨λc d z=>?_,λc S=>⟨_,a,by grind⟩⟩
  rw[List.getElem?_map]at z;obtain⟨p,G,rfl⟩:=Option.map_eq_some_iff.mp z;obtain⟨q,H,I,J⟩:=aG.get y G;refine⟨⟨_,a,by grind⟩,λx T m=>?_⟩
  obtain⟨K,rfl,o,m⟩:=m;obtain⟨U,j,rfl⟩:=m _ a;rw[H]at j;cases j
  obtain⟨L,A⟩:=s.mV o True;refine⟨_,A,L,?_⟩;refine⟨K,_,rfl,.inr rfl,aL,bV.mpr (.cons ?_ (.one (s.cA A J)))⟩;rw[I];cases q.1<;>simp only[jq,kV,au]
 .cases k
theorem BQ(h:bo c i p j s):vX c i p M j (bf s):=by
 intro I Q T U V;refine PI.imp (Be (h I Q T U V)) ?_;rintro σ H R ⟨X,Z,S,g⟩;refine⟨X,Z,S,rf.use g λx J _ v B l A g1 e r f=>?_⟩
 cases x with
 |tup Y=>
  obtain⟨a,C,rfl,_,q,D⟩:=gx r;exact .inr (.inl ⟨a,C,rfl,.inl q,f _ B l A (bW.refl e.has) e (BP r e)⟩)
 |lst Y=>
  obtain⟨a,C,rfl,q,D⟩:=ck e r rfl;exact .inl ⟨a,C,rfl,q,f _ B l A (bW.refl e.has) e (qr r e rfl)⟩
 |ref n=>
  cases t:dE J (.ref n)with
  |none=>
   simp only[srcOf,gg,t]at f;obtain⟨a,E,rfl⟩:=r;split at f
   .rename_i F K
    obtain⟨a',m,k,q,D⟩:=e.cell K;rw[E]at m;cases m
    refine .inr (.inr (.inr ⟨a,k,rfl,.inl ⟨q,λo=>?_⟩⟩))
    obtain⟨G,O⟩:=e.put (c:=.dF F) E (λo u z=>by grind) λR hR=>⟨o,k,aL,D.imp hR⟩
    exact f _ _ l A O G (qu E aL)
   .rename_i F K
    obtain⟨a',m,o,k,q,D⟩:=e.cell K;rw[E]at m;cases m
    exact .inr (.inr (.inr ⟨a,k,rfl,.inr ⟨o,q,f _ B l A (bW.refl e.has) e (qu E q)⟩⟩))
   .exact f.elim
  |some ds=>
   simp only[srcOf,gg,t]at f;obtain⟨a,C,rfl,q,D⟩:=ck e r t;exact .inl ⟨a,C,rfl,q,f _ B l A (bW.refl e.has) e (qr r e (by grind))⟩
 |str z=>
  subst r;refine .inr (.inr (.inl ⟨z,rfl,f _ B l A (bW.refl e.has) e ?_⟩));intro a0 Z2 b0 H2 ds O G hs;cases hs;refine⟨λb d L=>?_,λb P=>by show z.cps.size<=b;grind⟩
  have P:b<z.cps.size:=by
   grind
  refine⟨P,λy H3 hy=>?_⟩
  obtain⟨rfl,w,hc,rfl⟩:=hy;rw[List.getElem?_map]at L;have N:z.cps.toList[b]?=some w:=by grind
  rw[N]at L;cases L;exact⟨Z2,bW.refl G.has,G,bb rfl⟩
 |non=>exact f.elim
 |bl _=>exact f.elim
 |int _=>exact f.elim
 |dct _ _=>exact f.elim
theorem yB:vp i (.ints P b) (KC P b) r n e:=by
 intro h j k o p g s l;cases l;refine⟨λa d f=>?_,λa c=>by rwa[kY]at c⟩
 have c:=(List.getElem?_eq_some_iff.mp f).1;rw[kY]at c;refine⟨c,λy q m=>?_⟩
 obtain⟨rfl,rfl⟩:=m;rw[ints_get _ _ _ _ f];exact⟨j,bW.refl s.has,s,bb rfl⟩
theorem rf.N_{f:List D->aJ->ay Src}(h:rf i p r n e (Z7.bind f) L6)(k:∀l a,Z7=.ok l a->∀m c b j,bW r n e b j c->br i b j a c->aG (au b j c) l m->rf i p b j c (f l a) L6->z7 m c):mX i p r n e Z7 z7:=by
 cases Z7 with
 |ok d a=>exact λv c b j g s q=>k d _ rfl v c _ j g s q (rf.from g h)
 |exc x a=>exact h
 |bad=>exact h
theorem yC(f:Gl c "range")(h:c.mg "range"=none)(k:mY c i p [j] d0)(m:starEach [j] c.env=[(false,eval j c.env)]):vX c i p M (.Call (.Name "range" C) [j] [] l) (cU d0):=by
 intro d n o q r;refine PI.imp (uE f h (k d n o q r) m) ?_;rintro A H R ⟨s,Z,S,g⟩;refine⟨s,Z,S,rf.N_ g λB t _ D u w x E e y a=>?_⟩
 unfold tN at a;split at a
 .obtain⟨v,rfl,z⟩:=gC y
  subst z;split at a
  .rename_i b
   have b:=pU b;exact⟨_,rfl,b.1,b.2,a _ u _ x (bW.refl e.has) e yB⟩
  .exact a.elim
 .exact a.elim
noncomputable def oN(n:Nat)(d:D):Option bp:=match n,d with
 |0,d=>some [some d]
 |n,.tup a=>if a.length=n then some (a.map some)else none
 |_,_=>none
noncomputable def dn(a:List Nat)(b:bp):bp:=a.map λi=>(b[i]?).join
def gQ(b:Bool)(c:EM)(d:bp)(a:aJ):ay Bool:=if b=true then .ok true a else bZ (c d a)
def tP(g:Bool)(h j:EM)(n:Nat)(e:bp)(b:Src):Nat->Nat->List D->aJ->ay (List D)
 |0,_,_,_=>.bad
 |f+1,i,a,Ω=>match eh b Ω with
  |none=>.bad
  |some m=>match m[i]? with
   |none=>.ok a Ω
   |some d=>match oN n d with
    |none=>.bad
    |some l=>if small (a.length+1)then match gQ g h (l++e) Ω with
     |.ok true c=>match j (l++e) c with
      |.ok y k=>tP g h j n e b f (i+1) (a++[y]) k
      |_=>.bad
     |.ok false c=>tP g h j n e b f (i+1) a c
     |_=>.bad else .bad
def bC(e:EM)(f:Bool)(g:EM)(h:IM)(n:Nat)(b:List Nat):EM:=λd i=>match h d i with
 |.ok s a=>match tP f g e n (dn b d) s fuel 0 [] a with
  |.ok j c=>iH c (.lst j)
  |_=>.bad
 |.exc x a=>.exc x a
 |.bad=>.bad
noncomputable def lQ:gX:=λ_ _ _ _ _=>False
theorem qv(S:cj i i0 P0 ο r n a B J0 e)(g:bW r n e C7 L8 M6)(s:br i C7 L8 η M6)(f:aG (au C7 L8 M6) q I):
  cj i C7 L8 M6 C7 L8 η (q.map some++dn J B) (I.map some++pX J J0) M6:=by
 have p:=f.length;refine⟨s,bW.refl s.has,?_,λc d h=>?_⟩
 .unfold pX dn
  simp_all
 .by_cases t:c<q.length
  .rw[List.getElem?_append_left (by simp_all),List.getElem?_map]at h
   rw[List.getElem?_append_left (by simp_all),List.getElem?_map]
   cases b:q[c]? with
   |none=>rw[b]at h;cases h
   |some u=>
    rw[b]at h;cases h;obtain⟨v,l,k⟩:=f.get b;exact⟨v,by rw[l];rfl,k⟩
  .rw[List.getElem?_append_right (by simp_all)]at h
   rw[List.getElem?_append_right (by simp_all)]
   unfold dn at h;unfold pX;rw[List.length_map,List.getElem?_map]at h;cases b:J[c - q.length]? with
   |none=>simp_all
   |some j=>
    rw[b]at h;have h:=by simpa using h
    obtain⟨v,l,k⟩:=S.val j d (by
     cases m:B[j]? with
     |none=>rw[m]at h;cases h
     |some o=>rw[m]at h;simp_all)
    refine⟨v,?_,S.st.cA g k⟩
    simp_all
theorem bW.D_(g:bW r n e i0 P0 ο)(b:h∉r)(a:e h=some o0):h∉i0:=λq=>by
 rcases g.zY h q with q|q
 .exact b q
 grind
theorem bW.FA(g:bW r n e i0 P0 ο)(b:¬ n h)(a:e h=some o0):¬ P0 h:=λq=>by
 rcases g.new h q with q|q
 .exact b q
 grind
theorem bW.side(g:bW r n e i0 P0 ο){o:HO}(f:h∉r)(c:e h=Option.none):bW r n e i0 P0 (upd ο h o):=
 ⟨g.pre,g.sub,g.new,g.zY,λb u a d=>by rw[av (aW a c)];exact g.frm b u a d,λb d=>by rw[av (λ(q)=>f (by simp_all))];exact g.has b d,λb i u a=>by rw[av (aW a c)];exact g.dj b i u a⟩
theorem BR(h:oN b m=some B):∃a:List D,B=a.map some:=by
 unfold oN at h;split at h
 .cases h;exact⟨[m],rfl⟩
 .grind
 .cases h
theorem br.part(S:br i r n a e)(m:e h=some (.lst I))(p:h∉r)(hz:¬ n h)(j:aG (au r n e) q I):br i (r++[h]) n (a++[.lst q]) e:=by
 have mono:∀d v,au r n e d v->au (r++[h]) n e d v:=λd v j=>j.mono (λk g f=>by rwa[List.getElem?_append_left (by grind)]) (λ_ _ _ f=>f) λ_ z=>z
 refine⟨?_,?_,λg ha l=>?_,S.dom⟩
 .refine List.nodup_append.mpr ⟨S.mU,by simp,λg ha b s f=>?_⟩
  simp_all
 .exact aG.append (S.vW.imp λc g o=>o.imp mono (λ_ f=>f) λ_ _ _ f=>f) (.one ⟨I,m,j.imp mono⟩)
 .rcases List.mem_append.mp ha with ha|ha
  .exact S.sep g ha l
  simp_all
theorem br.side(S:br i r n a e){o:HO}(x:h∉r)(hz:¬ n h)(y:∀o u,e h≠some (.dj o u)):br i r n a (upd e h o)/\∀d v,au r n e d v->au r n (upd e h o) d v:=by
 have mono:∀d v,au r n e d v->au r n (upd e h o) d v:=λd v j=>j.mono (λ_ _ g=>g) (λf u z g=>by rwa[av (λ(q)=>hz (by simp_all))]) λ_ z=>z
 have s:∀{p:List _}{l:List _},(∀f∈l,f∈r)->aG (λc f=>fA i (au r n e) e f c) p l->aG (λc f=>fA i (au r n (upd e h o)) (upd e h o) f c) p l:=by
  intro p l m A
  induction A with
  |nil=>exact .nil
  |@cons c f p l j t B=>
   have w:f≠h:=λq=>x (q▸m f (by simp))
   exact .cons (j.imp mono (λu g=>by rwa[av w]) λb C D g=>by rwa[av (λq=>y C D (by simp_all))]) (B λb E=>m b (by simp[E]))
 exact⟨⟨S.mU,s (λf k=>k) S.vW,S.sep,λf z=>by rw[av (λ(q)=>hz (by simp_all))];exact S.dom f z⟩,mono⟩
variable{A1:IM}
theorem vq(s0:vX c i p j M A1)(t0:∀(d:D) (ds:List D) x w Z F H (r:L2.St) (k:L2.St->Hp->Prop),oN b d=some (ds.map some)->br i w Z F H->au w Z H d x->(∀vs,aG (au w Z H) ds vs->k (vs.map some++r) H)->C4 x (List.replicate g.length none++r) H k)(hb:∀N C h l fp,PG (blk c π N C (g++Y) h l fp) j C4/\((E=[]/\y=true)\/∃K,E=[K]/\y=false/\gP (blk c π N C (g++Y) h l fp) i lQ K ζ)/\bo (blk c π N C (g++Y) h l fp) i lQ B1 s):
  ∀c0 Z0 H0 ρ F,∃wi tc te,PI c j M wi/\(∀N C h l fp,PG (blk c π N C (g++Y) h l fp) j C4/\AW (blk c π N C (g++Y) h l fp) E tc/\PE (blk c π N C (g++Y) h l fp) B1 te) /\
   ∀σ H Q,tO i p c0 Z0 H0 (bC s y ζ A1 b J) ρ F σ H Q->mO wi g.length J C4 tc te σ H Q:=by
 intro c0 Z0 H0 ρ F
 let tc:TT:=λr H Q=>∃w Z F A,cj i w Z H w Z F A r H/\ph i lQ w Z H (gQ y ζ A F) Q
 let te:TE:=λr H Q=>∃w Z F A,cj i w Z H w Z F A r H/\bE i lQ w Z H (s A F) Q
 have u0:∀N C h l fp,PG (blk c π N C (g++Y) h l fp) j C4/\AW (blk c π N C (g++Y) h l fp) E tc/\PE (blk c π N C (g++Y) h l fp) B1 te:=by
  intro N C h l fp;obtain⟨h1,h2,h3⟩:=hb N C h l fp;refine⟨h1,?_,?_⟩
  .rcases h2 with ⟨e,hn⟩|⟨K,e,hn,h2⟩
   .subst e
    intro pins t r H Q I q;obtain⟨w,Z,F,A,S,k⟩:=q;rw[gQ,if_pos hn]at k;exact AX pins t r H Q I (k H w Z (bW.refl S.st.has) S.st)
   .subst e
    intro pins t r H Q I q;obtain⟨w,Z,F,A,S,k⟩:=q;rw[gQ,if_neg (by rw[hn];exact Bool.false_ne_true)]at k
    exact AY (h2 w Z H A F) pins t r H Q I ⟨w,Z,S,k⟩
  .intro pins t r H Q I q
   obtain⟨w,Z,F,A,S,k⟩:=q;exact h3 w Z H A F pins t r H Q I ⟨w,Z,S,k⟩
 refine⟨_,tc,te,s0 c0 Z0 H0 ρ F,u0,?_⟩;rintro σ H Q ⟨w,Z,S,k⟩;refine⟨w,Z,S,?_⟩;simp only[bC]at k;cases qi:A1 ρ F with
 |exc x d0=>rw[qi]at k;exact k
 |bad=>rw[qi]at k;exact k.elim
 |ok e0 d0=>
  rw[qi]at k;dsimp only at k;intro v0 H1 T Z1 g1 s1 w1 O hD;cases qg:tP y ζ s b (dn J ρ) e0 fuel 0 [] d0 with
  |exc x j0=>rw[qg]at k;exact k.elim
  |bad=>rw[qg]at k;exact k.elim
  |ok ys j0=>
   rw[qg]at k;dsimp only at k;have b0:¬ Z1 O:=λz=>s1.dom O z hD
   have L:O∉T:=λz=>s1.has O z hD
   refine⟨λn f vs H2=>∃B Z2 G P,bW T Z1 H1 B Z2 H2/\br i B Z2 G H2/\O∉B/\¬ Z2 O/\H2 O=some (.lst vs)/\aG (au B Z2 H2) P vs/\tP y ζ s b (dn J ρ) e0 f n P G=.ok ys j0,
    ⟨fuel,T,Z1,d0,[],?_,?_,L,b0,aL,.nil,qg⟩,?_⟩
   .exact⟨λ_ _ e=>e,λ_ z=>z,λ_ z=>.inl z,λ_ z=>.inl z,λa o e _=>by rw[av (aW e hD)];exact e,λa ha=>by rw[av (λ(q:a=O)=>L (by rw[←q];exact ha))];exact s1.has a ha,λa o u e=>by rw[av (aW e hD)];exact e⟩
   .exact(s1.side L b0 λo u z=>by rw[hD]at z;cases z).1
   rintro n f vs H2 ⟨B,Z2,G,P,R,s2,nD,nZ,U,r2,m⟩;refine⟨U,?_⟩;cases f with
   |zero=>cases m
   |succ f=>
    simp only[tP]at m;cases qs:eh e0 G with
    |none=>rw[qs]at m;cases m
    |some ds=>
     rw[qs]at m;dsimp only at m;obtain⟨w0,x0⟩:=w1 B Z2 G H2 ds R s2 qs;cases qd:ds[n]? with
     |none=>
      rw[qd]at m;cases m;have hi:ds.length<=n:=List.getElem?_eq_none_iff.mp qd;refine .inl ⟨x0 n hi,?_⟩;have sf:=s2.part U nD nZ r2
      have gA:bW T Z1 H1 (B++[O]) Z2 H2:=⟨λb a e=>by rw[List.getElem?_append_left (List.getElem?_eq_some_iff.mp (R.pre b a e)).1];exact R.pre b a e,R.sub,R.new,λa ha=>by
       rcases List.mem_append.mp ha with ha|ha
       .exact R.zY a ha
       .rw[List.mem_singleton.mp ha];exact .inr hD,R.frm,R.has,R.dj⟩
      exact k _ H2 _ Z2 (g1.trans gA) sf (fb s2 O)
     |some d=>
      rw[qd]at m;dsimp only at m;obtain⟨y0,z0⟩:=w0 n d qd;cases qt:oN b d with
      |none=>rw[qt]at m;cases m
      |some ts=>
       rw[qt]at m;dsimp only at m;obtain⟨es,rfl⟩:=BR qt
       by_cases V:small (P.length+1)=true
       .rw[if_pos V]at m
        have V:=bw V;refine .inr ⟨y0,by rw[r2.length];omega,λx H3 yl=>?_⟩
        obtain⟨Z3,g3,s3,rx⟩:=z0 x H3 yl;have A0:=g3.FA nZ U;have f0:=g3.frm O _ U nD;refine t0 d es x B Z3 G H3 (pX J σ) _ qt s3 rx λws l0=>?_
        have gB:=g1.trans (R.trans g3);have SB:=qv (J:=J) S gB s3 l0;refine⟨B,Z3,G,_,SB,?_⟩;cases qc:gQ y ζ (es.map some++dn J ρ) G with
        |exc x X=>rw[qc]at m;cases m
        |bad=>rw[qc]at m;cases m
        |ok g0 X=>
         rw[qc]at m;intro H5 m0 Z5 g5 s5;have h0:=g5.D_ nD f0;have n0:=g5.FA A0 f0;have a0:=g5.frm O _ f0 nD;cases g0 with
         |false=>
          refine pN ?_;exact⟨f,Nat.lt_succ_self _,m0,Z5,X,P,R.trans (g3.trans g5),s5,h0,n0,a0,s3.iG g5 (s2.iG g3 r2),m⟩
         |true=>
          refine pO ?_;dsimp only at m;have SC:=qv (J:=J) S (gB.trans g5) s5 (s3.iG g5 l0);refine⟨m0,Z5,X,_,SC,?_⟩;cases qe:s (es.map some++dn J ρ) X with
          |exc x o0=>rw[qe]at m;cases m
          |bad=>rw[qe]at m;cases m
          |ok i0 o0=>
           rw[qe]at m;intro v H6 C0 Z6 g6 s6 rv;have p0:=g6.D_ h0 a0;have q0:=g6.FA n0 a0;have r0:=g6.frm O _ a0 h0;obtain⟨s7,m7⟩:=s6.side (o:=.lst (vs++[v])) p0 q0 (λo u z=>by rw[r0]at z;cases z)
           refine⟨r0,f,Nat.lt_succ_self _,C0,Z6,o0,P++[i0],((R.trans (g3.trans g5)).trans g6).side L hD,s7,p0,q0,aL,?_,m⟩;exact((s5.iG g6 (s3.iG g5 (s2.iG g3 r2))).append (.one rv)).imp m7
       .rw[if_neg V]at m;cases m
theorem lg(o:vX c i p (.Name d l) j A1)(I:π.names.lookup d=some .local)(q:([d]++g).Nodup)(K:∀m C b f fp,((E=[]/\y=true)\/∃h,E=[h]/\y=false/\gP (blk c π m C ([d]++g) b f fp) i lQ h ζ)/\bo (blk c π m C ([d]++g) b f fp) i lQ M s):
  ∀t L N O x,∃z A B,PI c (.Name d l) j z/\(∀m C b f fp,PG (blk c π m C ([d]++g) b f fp) (.Name d l) (ik 0)/\AW (blk c π m C ([d]++g) b f fp) E A/\PE (blk c π m C ([d]++g) b f fp) M B) /\
   ∀D H Q,tO i p t L N (bC s y ζ A1 0 J) O x D H Q->mO z [d].length J (ik 0) A B D H Q:=by
 have F:(relabel _ c.env).names.lookup d=some _:=lookup_relabel_local I;refine vq o (λn G u X Z x H P k w S R T=>?_) λm C b f fp=>?_
 .have e:G=[n]:=by
   injection w with w;cases G with
   |nil=>cases w
   |cons a r=>
    simp_all
  subst e;exact T _ (.one R)
 .obtain⟨U,V⟩:=K m C _ _ fp
  exact⟨ka q rfl (.inl F) (.inr F),U,V⟩
theorem yD(n:c.calm=true)(B:jG c π [d] g J)(o:∀z,foldedSetIterable j c.env z=pure z)(h:vX c i p (.Name d C) j A1)(q:π.names.lookup d=some .local)(k:([d]++g).Nodup)(r:∀m a e f fp,((E=[]/\y=true)\/∃b,E=[b]/\y=false/\gP (blk c π m a ([d]++g) e f fp) i lQ b ζ)/\bo (blk c π m a ([d]++g) e f fp) i lQ M s):
  bo c i p (.ListComp M [⟨.Name d C,j,E,0⟩] π l) (bC s y ζ A1 0 J):=by
 intro t u w x A;obtain⟨H,I,K,D,F,G⟩:=lg h q k r _ u w x A;exact PE.imp (AZ n B D o (jH 1 (by decide)) F) G
inductive ff where
 |nx (ρ:bp) (Ω:aJ)|bk (ρ:bp) (Ω:aJ)|ct (ρ:bp) (Ω:aJ)|rt (d:D) (Ω:aJ)|exc (x:D) (Ω:aJ)|bad
abbrev SM:=bp->aJ->ff
def dQ(e:Str->Addr->Prop)(Φ:gX)(b:List Addr)(f:Addr->Prop)(g:Hp)(E:Ends):ff->Prop
 |.nx h Ω=>∀c H a Z,cj e b f g a Z Ω h c H->E.nx c H
 |.bk h Ω=>∀c H a Z,cj e b f g a Z Ω h c H->E.bk c H
 |.ct h Ω=>∀c H a Z,cj e b f g a Z Ω h c H->E.ct c H
 |.rt d Ω=>∀v H a Z,bW b f g a Z H->br e a Z Ω H->au a Z H d v->E.rt v H
 |.exc x Ω=>∀H a Z,bW b f g a Z H->br e a Z Ω H->Φ x Ω a Z H
 |.bad=>False
noncomputable def Hg(b:Str->Addr->Prop)(Φ:gX)(a:List Addr)(d:Addr->Prop)(e:Hp)(c:SM)(f:bp)(g:aJ):TS:=λE h H=>∃i Z,cj b a d e i Z g f h H/\dQ b Φ a d e E (c f g)
def i_(X:Cx)(b:Str->Addr->Prop)(Φ:gX)(st:Stmt)(c:SM):Prop:=∀a d e f g,PS X st (Hg b Φ a d e c f g)
def jW(X:Cx)(d:Str->Addr->Prop)(Φ:gX)(a:List Stmt)(c:SM):Prop:=∀b e f g h,gU X a (Hg d Φ b e f c g h)
noncomputable def bu{c:Type}(r:ay c)(k:c->aJ->ff):ff:=match r with
 |.ok a b=>k a b
 |.exc x b=>.exc x b
 |.bad=>.bad
noncomputable def ao:SM:=λa b=>.nx a b
noncomputable def ak(a b:SM):SM:=λe f=>match a e f with
 |.nx c d=>b c d
 |r=>r
def aF(i:Nat)(m:EM):SM:=λb c=>bu (m b c) λd a=>.nx (b.set i (some d)) a
def cF(m:EM):SM:=λb c=>bu (m b c) λ_ a=>.nx b a
def bS(m:EM):SM:=λb c=>bu (m b c) λd a=>.rt d a
def dR(m:EM)(a b:SM):SM:=λd e=>bu (bZ (m d e)) λt c=>if t=true then a d c else b d c
noncomputable def bO:SM:=λ_ _=>.bad
def ei(m:EM)(b:SM):Nat->SM
 |0,_,_=>.bad
 |f+1,d,Ω=>bu (bZ (m d Ω)) λt c=>if t=true then (match b d c with
  |.nx a ax=>ei m b f a ax
  |.ct a ax=>ei m b f a ax
  |.bk a ax=>.nx a ax
  |r=>r)else .nx d c
def jt(m:EM)(b:SM):SM:=ei m b fuel
noncomputable def fB:List Nat->List D->bp->bp
 |i::b,d::c,a=>fB b c (a.set i (some d))
 |_,_,a=>a
noncomputable def cV(i:Nat)(d:D)(a:bp):Option bp:=some (a.set i (some d))
def dS(a:List Nat)(d:D)(c:bp):Option bp:=match d with
 |.tup b=>if b.length=a.length then some (fB a b c)else none
 |_=>none
def gm(c:D->bp->Option bp)(e:Src)(b:SM):Nat->Nat->SM
 |0,_,_,_=>.bad
 |f+1,i,h,Ω=>match eh e Ω with
  |none=>.bad
  |some j=>match j[i]? with
   |none=>.nx h Ω
   |some d=>match c d h with
    |none=>.bad
    |some g=>match b g Ω with
     |.nx a ax=>gm c e b f (i+1) a ax
     |.ct a ax=>gm c e b f (i+1) a ax
     |.bk a ax=>.nx a ax
     |r=>r
def dw(a:D->bp->Option bp)(e:IM)(b:SM):SM:=λd f=>bu (e d f) λs c=>gm a s b fuel 0 d c
def yE(e:List Nat)(m:EM):SM:=λc f=>bu (m c f) λd a=>match dS e d c with
 |some b=>.nx b a
 |none=>.bad
theorem cj.set{e:Str->Addr->Prop}{c a:List Addr}{Z f:Addr->Prop}{g:aJ}{H k:Hp}{l:bp}{m:L2.St}(S:cj e a f k c Z g l m H){d:D}{v:V}(r:au c Z H d v)(i:Nat):cj e a f k c Z g (l.set i (some d)) (m.set i (some v)) H:=by
 refine⟨S.st,S.gr,by simp[S.len],λj n h=>?_⟩
 by_cases b:i=j
 .subst b
  have o:=by
   have:=(List.getElem?_eq_some_iff.mp h).1;simpa using this
  rw[List.getElem?_set_self o]at h;cases h;exact⟨v,by rw[List.getElem?_set_self (by rwa[S.len])],r⟩
 .rw[List.getElem?_set_ne b]at h ⊢
  exact S.val j n h
variable{B8:Ends}
theorem dQ.use{k:D->aJ->ff}(S:cj i i0 P0 ο r n a B J0 e)(f:dQ i p i0 P0 ο B8 (bu C3 k))(h:∀d b v j c l,C3=.ok d b->bW r n e c l j->cj i i0 P0 ο c l b B J0 j->au c l j d v->dQ i p i0 P0 ο B8 (k d b)->ε v j):bE i p r n e C3 ε:=by
 cases C3 with
 |ok d b=>exact λv j c l g s q=>h d _ v j _ l rfl g (S.grow g s) q f
 |exc x b=>exact λj c l g s=>f j _ l (S.gr.trans g) s
 |bad=>exact f
theorem dQ.IZ{k:Bool->aJ->ff}(S:cj i i0 P0 ο r n a B J0 e)(f:dQ i p i0 P0 ο B8 (bu Y7 k))(h:∀t b j c l,Y7=.ok t b->bW r n e c l j->cj i i0 P0 ο c l b B J0 j->dQ i p i0 P0 ο B8 (k t b)->J7 t j):ph i p r n e Y7 J7:=by
 cases Y7 with
 |ok d b=>exact λj c l g s=>h d _ j _ l rfl g (S.grow g s) f
 |exc x b=>exact λj c l g s=>f j _ l (S.gr.trans g) s
 |bad=>exact f
theorem gU.ex{b:Type}{t:b->TS}(h:∀i,gU c G2 (t i)):gU c G2 (λD a H=>∃i,t i D a H):=λpins s a H D I ⟨i,q⟩=>h i _ s a H D I q
theorem tQ:jW c i p [] ao:=by
 intro a e g h j;refine gU.imp sR ?_;rintro E b H ⟨d,Z,S,f⟩;exact f b H d Z S
variable{B6 Θ:SM}
theorem iS(m:i_ c i p Δ Θ)(n:jW c i p G2 B6):jW c i p (Δ::G2) (ak Θ B6):=by
 intro g h j k l;refine gU.imp (pz (m g h j k l) (gU.ex λa:bp×aJ=>n g h j a.1 a.2)) ?_
 rintro E w H ⟨o,Z,S,f⟩;refine⟨o,Z,S,?_⟩;simp only[ak]at f;cases q:Θ k l with
 |nx e b=>rw[q]at f;exact λr y s t u=>⟨(e,b),_,t,u,f⟩
 |bk e b=>rwa[q]at f
 |ct e b=>rwa[q]at f
 |rt d b=>rwa[q]at f
 |exc x b=>rwa[q]at f
 |bad=>rwa[q]at f
theorem tR(h:bo c i p j s):i_ c i p (.Return (some j) l) (bS s):=by
 intro a e k m n;refine PS.imp (Ez (h a e k m n)) ?_;rintro E y H ⟨o,Z,S,f⟩;exact⟨o,Z,S,dQ.use S f λd q v t u w _ g b r x=>x v t _ w b.gr b.st r⟩
theorem tS(k:c.N.Nodup)(m:c.N[b]?=some d)(n:Loc c.env.scope d)(o:c.fn d=true\/c.env.scope.names.lookup d=some .local)(q:swapsWith j (some (.Name d C)) l.line c.env=pure false)(h:bo c i p j s):
  i_ c i p (.Assign [.Name d C] j l) (aF b s):=by
 intro a t u w x;refine PS.imp (nN k m n (h a t u w x) q o) ?_;rintro E I H ⟨y,Z,S,f⟩;exact⟨y,Z,S,dQ.use S f λe z v A B D _ g F r G=>G _ A _ D (F.set r b)⟩
theorem yF(K:c.N.Nodup)(L:c.N[b]?=some d)(O:c.env.scope.names.lookup d=some .local)(P:swapsWith (.ListComp j [⟨B1,M,E,0⟩] π l) (some (.Name d C)) C.line c.env=pure true)(R:c.calm=true)(B:jG c π g Y J)(T:∀d,foldedSetIterable M c.env d=pure d)(t:∀v n H Q,C4 v n H Q->C4 v n H λo U=>Q o U/\o.length=n.length/\∀a,g.length<=a->o[a]?=n[a]?)(h:∀q u w x y,∃z A D,PI c B1 M z/\(∀F e k m fp,PG (blk c π F e (g++Y) k m fp) B1 C4/\AW (blk c π F e (g++Y) k m fp) E A/\PE (blk c π F e (g++Y) k m fp) j D) /\
   ∀n H Q,tO i p q u w s x y n H Q->mO z g.length J C4 A D n H Q)(V:D1.line=C.line):
  i_ c i p (.Assign [.Name d C] (.ListComp j [⟨B1,M,E,0⟩] π l) D1) (aF b s):=by
 intro q u w x y;obtain⟨z,A,D,X,h2,h3⟩:=h _ u w x y;refine PS.imp (rT K L O (by rwa[V]) R B X T t h2) ?_
 rintro G n H ⟨α,Z,S,f⟩;exact h3 n H _ ⟨α,Z,S,dQ.use S f λI a0 v H1 b0 Z1 _ C4 S1 r f1=>f1 _ H1 _ Z1 (S1.set r b)⟩
theorem BS(b:swapsWith j none l.line c.env=pure false)(h:bo c i p j s):i_ c i p (.Expr j l) (cF s):=by
 intro a e k m n;refine PS.imp (Ae (h a e k m n) b) ?_;rintro E z H ⟨o,Z,S,f⟩;exact⟨o,Z,S,dQ.use S f λd q v t u w _ g x r y=>y _ t _ w x⟩
variable{A7:List Stmt}
theorem yG(o:gP c i p j s)(q:jW c i p G2 Θ)(r:jW c i p A7 B6):i_ c i p (.If j G2 A7 l) (dR s Θ B6):=by
 intro b d e h u;refine PS.imp (DC (o b d e h u) (gU.ex λa=>q b d e h a) (gU.ex λa=>r b d e h a)) ?_
 rintro E y H ⟨w,Z,S,f⟩;refine⟨w,Z,S,dQ.IZ S f λt a z x k _ g m n=>?_⟩
 cases t with
 |true=>exact pO ⟨_,_,k,m,n⟩
 |false=>exact pN ⟨_,_,k,m,n⟩
theorem nk:i_ c i p Δ bO:=λa b d e g pins s h H E I ⟨j,Z,S,f⟩=>f.elim
theorem nq(N:PassesOwn (model c.prog c.w) c.A c.env c.xe)(O:gP c i p j s)(P:jW c i p G2 Θ):i_ c i p (.While j G2 [] l) (jt s Θ):=by
 intro h o r u y;refine PS.imp (wg N (PT.ex λa:bp×aJ=>O h o r a.1 a.2) (gU.ex λa:bp×aJ=>P h o r a.1 a.2)) ?_
 rintro E I H ⟨z,Z,S,f⟩;refine⟨λf I H=>∃z Z u y,cj i _ o r z Z y u I H/\dQ i p _ o r E (ei s Θ f u y),⟨_,z,Z,u,y,S,f⟩,?_⟩
 rintro f Q X ⟨R,T,k,B,J,K⟩;cases f with
 |zero=>exact K.elim
 |succ f=>
  refine⟨(k,B),_,T,J,dQ.IZ J K λt C Y U V _ g L b=>?_⟩
  cases t with
  |false=>
   exact pN (b _ _ _ _ L)
  |true=>
   refine pO ⟨_,λm M q=>⟨f,by simp,q⟩,(k,C),_,V,L,?_⟩
   cases q:Θ _ _ with
   |nx n e=>rw[q]at b;exact λm M D F G=>⟨_,F,_,_,G,b⟩
   |ct n e=>rw[q]at b;exact λm M D F G=>⟨_,F,_,_,G,b⟩
   |bk n e=>rwa[q]at b
   |rt d e=>rwa[q]at b
   |exc x e=>rwa[q]at b
   |bad=>rwa[q]at b
def yH(h:Str->Addr->Prop)(e:D->bp->Option bp)(g:TG):Prop:=
 ∀(d:D) (x:V) a i j f Z l m b n H (k:L2.St->Hp->Prop),cj h a i j f Z l m n H->au f Z H d x->e d m=some b->(∀c,cj h a i j f Z l b c H->k c H)->g x n H k
variable{D7:D->bp->Option bp}
theorem kk(hp:PassesOwn (model c.prog c.w) c.A c.env c.xe)(hc:c.calm=true)(hi:vX c i p M j A1)(hg:PG c M C4)(O:yH i D7 C4)(hb:jW c i p G2 Θ)(hs:∀x,foldedSetIterable j c.env x=pure x):i_ c i p (.For M j G2 [] l) (dw D7 A1 Θ):=by
 intro P G K C L;have Q:gU c G2 (λD F H=>∃o n t e g,Hg i p _ n t Θ _ _ D F H):=λpins s F H D I ⟨o,n,t,e,g,q⟩=>hb o n t e g _ s F H D I q
 refine PS.imp (EE hp hc (hi P G K C L) hg Q hs) ?_;rintro E F H ⟨α,Z,S,f⟩;refine⟨α,Z,S,?_⟩;simp only[dw]at f;cases R:A1 C L with
 |exc x T=>rw[R]at f;exact λt o n C4 s=>f t _ n (S.gr.trans C4) s
 |bad=>rwa[R]at f
 |ok e0 T=>
  rw[R]at f;intro J t o n g1 s1 w1;have S1:=S.grow g1 s1;refine⟨λb f F H=>∃z N C L,cj i _ G K z N L C F H/\bW _ n t z N H/\dQ i p _ G K E (gm _ _ Θ f b C L),⟨_,_,n,C,_,S1,bW.refl s1.has,f⟩,?_⟩
  rintro b f f0 H2 ⟨z,N,g0,h0,U,g2,a⟩;cases f with
  |zero=>exact a.elim
  |succ f=>
   simp only[gm]at a;cases V:eh _ _ with
   |none=>rw[V]at a;exact a.elim
   |some ds=>
    rw[V]at a;dsimp only at a;obtain⟨X,i0⟩:=w1 _ N _ H2 ds g2 U.st V;cases Y:ds[b]? with
    |none=>
     rw[Y]at a;exact .inl ⟨by grind,a _ H2 _ N U⟩
    |some d=>
     rw[Y]at a;dsimp only at a;obtain⟨a0,b0⟩:=X b d Y;cases qp:D7 d _ with
     |none=>rw[qp]at a;exact a.elim
     |some j0=>
      rw[qp]at a;dsimp only at a;refine .inr ⟨a0,_,λk m q=>⟨f,by simp,q⟩,λx H3 yl=>?_⟩
      obtain⟨Z3,g3,s3,rx⟩:=b0 x H3 yl;refine O d x _ G K _ Z3 _ _ _ _ H3 _ (U.grow g3 s3) rx qp λl0 S4=>?_
      have base:=S1.gr;have gL:=g2.trans g3;have B:∀{c0 Z4 d0 e k m},cj i _ n t _ Z4 _ _ _ m->cj i _ G K c0 Z4 d0 e k m:=λh=>⟨h.st,base.trans h.gr,h.len,h.val⟩
      refine⟨_,n,t,_,_,_,Z3,⟨S4.st,gL,S4.len,S4.val⟩,?_⟩;cases q:Θ _ _ with
      |nx e g=>rw[q]at a;exact λk m u y h=>⟨_,y,_,_,B h,h.gr,a⟩
      |ct e g=>rw[q]at a;exact λk m u y h=>⟨_,y,_,_,B h,h.gr,a⟩
      |bk e g=>rw[q]at a;exact λk m u y h=>a _ m _ y (B h)
      |rt d g=>rw[q]at a;exact λv m u y C4 s r=>a v m _ y (base.trans C4) s r
      |exc x g=>rw[q]at a;exact λm u y C4 s=>a m _ y (base.trans C4) s
      |bad=>rwa[q]at a
theorem yJ(a:Nat):yH i (cV a) (ik a):=λd x b f g j Z l m c n H k S r e h=>by
 cases e;exact h _ (S.set r a)
theorem lr{n:Str->Addr->Prop}{m a:List Addr}{Z o:Addr->Prop}{p:aJ}{H q:Hp}:∀(b:List Nat) (c:List D) (g:List V) {j:bp}{e:L2.St},aG (au m Z H) c g->c.length=b.length->cj n a o q m Z p j e H->∀(k:L2.St->Hp->Prop),(∀f,cj n a o q m Z p (fB b c j) f H->k f H)->jl b g e H k
 |[],[],g,j,e,r,_,S,k,h=>by rw[r.nil_inv];exact⟨rfl,h e S⟩
 |i::b,d::c,g,j,e,r,l,S,k,h=>by
  obtain⟨v,s,rfl,t,u⟩:=r.cons_inv;exact⟨v,s,rfl,lr b c s u (by simp_all) (S.set t i) k h⟩
 |[],_::_,_,_,_,_,l,_,_,_=>by simp at l
 |_::_,[],_,_,_,_,l,_,_,_=>by simp at l
theorem r_(b:List Nat):yH i (dS b) (Ag x b.length (jl b)):=λd c j p q s Z t u l w H k S r e h=>by
 cases d with
 |tup m=>
  simp only[dS]at e;split at e
  .rename_i n
   cases e;obtain⟨a,f,rfl,_,o,g⟩:=gx r;exact⟨a,f,rfl,vV (.inl o),by rwa[g.length],lr b m f g n S k h⟩
  .cases e
 |_=>cases e
theorem BU(u:PG c (.Tuple E b l) (Ag c.K J.length (jl J)))(w:yi j=true)(h:bo c i p j s):i_ c i p (.Assign [.Tuple E b l] j C) (yE J s):=by
 intro a m n o x;refine PS.imp (EC (h a m n o x) u (by cases j<;>first|rfl) (by cases j<;>first|rfl | (cases w))) ?_
 rintro e y H ⟨z,Z,S,f⟩;refine⟨z,Z,S,dQ.use S f λd A v q B t _ g D r k=>?_⟩
 split at k
 .rename_i F G
  exact r_ J d v _ m n _ t _ o _ y q _ D r G λI L=>k _ q _ t L
 .exact k.elim
abbrev a_:=List D->aJ->ay D
def cD(b:Str->Addr->Prop)(F:a_):Sp:=λe H Q _=>∃a Z c d,br b a Z c H/\aG (au a Z H) d e/\bE b lQ a Z H (F d c) Q
noncomputable def nr{a:Type}(r:ay a):ay a:=match r with
 |.ok d b=>.ok d b
 |_=>.bad
def aX(F:a_):a_:=λa b=>nr (F a b)
structure yK(X:Cx)(κ:Str->Addr->Prop)(k:Nat)(x:Str)(F:a_):Prop where
 ex:∃(f:Addr) (fd:FuncData) (ps:List Str),X.mg x=some (.ref f)/\PySem.W.keepIn X.K (.ref f)=true/\Binds X.K fd ps []/\bx X.prog X.w X.K X.mg X.base eB k f fd ps (cD κ F)
noncomputable def mr(a:aJ):D->Option (Nat×Str×List (Str×D))
 |.ref k=>match a[k]? with
  |some (.ins C fs)=>some (k,C,fs)
  |_=>none
 |_=>none
def dH(Cs:List Str)(f:Str)(x:D)(a:aJ):ay D:=match mr a x with
 |some (_,C,b)=>if Cs.contains C then (match b.lookup f with
  |some d=>.ok d a
  |none=>.bad)else .bad
 |none=>.bad
noncomputable def qw(f:Str)(v:D):List (Str×D)->List (Str×D)
 |[]=>[(f,v)]
 | (g,x)::r=>if g=f then (g,v)::r else (g,x)::qw f v r
def aZ(C m:Str)(F:a_)(d:EM)(e:AM):EM:=λc f=>(d c f).bind λx a=>match mr a x with
 |some (_,g,h)=>if g=C/\h.lookup m=none then (e c a).bind λi b=>aX F (x::i) b else .bad
 |none=>.bad
noncomputable def lu(C:Str)(F:a_)(xs:List D)(a:aJ):ay D:=match F (.ref a.length::xs) (a++[.ins C []])with
 |.ok .non b=>.ok (.ref a.length) b
 |_=>.bad
def dU(Cs:List Str)(f:Str)(e g:EM):SM:=λb h=>bu (g b h) λy c=>bu (e b c) λx a=>match mr a x with
 |some (k,C,d)=>if Cs.contains C&&decide (d.length<1000)then .nx b (a.set k (.ins C (qw f y d)))else .bad
 |none=>.bad
def ly(x y v:D)(b:aJ):Option aJ:=match x with
 |.ref k=>match b[k]? with
  |some (.dK a)=>match oC y with
   |some c=>if small (a.length+1)then some (b.set k (.dK (cm a c v)))else none
   |none=>none
  |_=>none
 |_=>none
def dW(f g h:EM):SM:=λa i=>bu (h a i) λv b=>bu (f a b) λx c=>bu (g a c) λy d=>match ly x y v d with
 |some e=>.nx a e
 |none=>.bad
theorem bE.ok0(h:bE i p r n e (nr C3) ε):bE i lQ r n e C3 ε:=by
 cases C3 with
 |ok d a=>exact h
 |exc x a=>exact h.elim
 |bad=>exact h
variable{L:a_}
theorem yL(F0:yK c i b d L)(k:bA b c.A)(m:Gl c d)(a:(d==("__debug__":Str))=false)(n:starEach (j::E) c.env=(false,eval j c.env)::starEach E c.env)(e:(backTo l (starEach E c.env)).any (·.1)=false)(o:mY c i p (j::E) d0):
  bo c i p (.Call (.Name d C) (j::E) [] l) (mN (aX L) d0):=by
 obtain⟨f,K,M,q,r,s,F1⟩:=F0.ex;intro h t u w x;refine PE.imp (nV F1 k m q r s .nil iy (o h t u w x) a n e) ?_;rintro N H Q ⟨y,Z,S,g⟩;refine⟨y,Z,S,mX.use g λz B _ O P D F R G I J=>?_⟩
 rw[List.append_nil];exact⟨_,F,_,z,G,I,bE.ok0 J⟩
theorem vt(F0:yK c i b d L)(e:bA b c.A)(h:Gl c d)(a:(d==("__debug__":Str))=false):bo c i p (.Call (.Name d C) [] [] l) (mN (aX L) ah):=by
 obtain⟨f,r,s,j,k,m,F1⟩:=F0.ex;intro n t u w o;refine PE.imp (wA F1 e h j k m .nil iy a) ?_;rintro x H Q ⟨q,Z,S,g⟩;exact⟨q,Z,o,[],S.st,.nil,bE.ok0 g⟩
theorem ey:∀{c:List (Str×D)}{b:List (Str×V)},hV n5 c b->(∀a,c.lookup d=some a->∃v,b.lookup d=some v/\n5 a v)/\(c.lookup d=none->b.lookup d=none):=by
 intro c b h;unfold hV at h
 induction h with
 |nil=>exact⟨λa e=>(by cases e),λ_=>rfl⟩
 |@cons p q j l r t f=>
  obtain⟨g,i⟩:=r;obtain⟨k,a⟩:=p;obtain⟨m,v⟩:=q;cases g;rw[List.lookup_cons,List.lookup_cons];cases d==k with
  |true=>exact⟨λn e=>by cases e;exact⟨v,rfl,i⟩,λe=>by cases e⟩
  |false=>exact f
variable{F5:List (Str×D)}{G3:List (Str×V)}
theorem yM(r:n5 m u)(h:hV n5 F5 G3):hV n5 (qw d m F5) (fU d u G3):=by
 induction h with
 |nil=>exact .cons ⟨rfl,r⟩ .nil
 |@cons p q f g a t b=>
  obtain⟨a,c⟩:=a;obtain⟨k,m⟩:=p;obtain⟨i,j⟩:=q;cases a;simp only[qw,fU]
  by_cases e:k=d
  .rw[if_pos e,if_pos e];exact .cons ⟨rfl,r⟩ t
  .rw[if_neg e,if_neg e];exact .cons ⟨rfl,c⟩ b
theorem fg(S:br i r n a e)(g:au r n e m u)(h:mr a m=some (b,d,F5)):∃c j l f,u=.ref c/\m=.ref b/\r[b]?=some c/\i d j/\e c=some (.ins j l f)/\hV (au r n e) F5 f:=by
 cases m with
 |ref k=>
  simp only[mr]at h;split at h
  .rename_i q f o
   simp only[au]at g;obtain⟨s,p,j,l,f,t,w,x⟩:=S.cell o
   grind
  .cases h
 |_=>cases h
def ju(K:PySem.W.Frag)(b:Str->Addr->Prop)(Cs:List Str)(f:Str):Prop:=∀C a,Cs.contains C=true->b C a->ke K a/\cz K a f
theorem BV(m:ju c.K i g d)(n:attributeBase j d c.env (eval j c.env)=eval j c.env)(o:bo c i p j s):bo c i p (.Attribute j d l) (m1 (dH g d) s):=
 tG (λI q=>EL q n) o λf x J Z L H Q S r b=>by
  unfold dH at b;split at b
  .rename_i k C M t
   obtain⟨a,h,f,u,rfl,_,_,w,y,z⟩:=fg S r t;split at b
   .rename_i A
    obtain⟨B,D⟩:=m C h A w;split at b
    .rename_i e E
     obtain⟨v,F,G⟩:=(ey z).1 e E;exact⟨a,h,f,_,v,rfl,y,B,D,F,bE.ret S G b⟩
    .exact b.elim
   .exact b.elim
  .exact b.elim
def Ea(P:Program)(w:World)(K:PySem.W.Frag)(j:Str->Option Value)(base:Heap)(d:Str->Addr->Prop)(k:Nat)(C m:Str)(F:a_)(c f:Addr)(e:FuncData)(g:List Str):Prop:=
 (∀a,d C a->a=c)/\ke K c/\Meth K c m f/\∃(h:List Value) (b:List V) (i:List D) (F1:a_),Binds K e g h/\Vals b h/\(∀l Z H,aG (au l Z H) i b)/\bx P w K j base eB k f e g (cD d F1)/\F=λn=>F1 (n++i)
structure tT(X:Cx)(κ:Str->Addr->Prop)(k:Nat)(C m:Str)(F:a_):Prop where
 ex:∃(Ca f:Addr) (fd:FuncData) (ps:List Str),Ea X.prog X.w X.K X.mg X.base κ k C m F Ca f fd ps
theorem yN(e:tT c i b d T L)(F:bA b c.A)(G:bo c i p M s)(I:mY c i p (j::E) d0){pl:Sem Bool}(o:starEach (j::E) c.env=(false,eval j c.env)::starEach E c.env)(q:(backTo l (starEach E c.env)).any (·.1)=false)(J:eval (.Call (.Attribute M T C) (j::E) [] l) c.env=(do
   let w ←eval M c.env
   standAt C.atName
   let (f,first) ←holding [w] (getMethod w T pl)
   callWith l f first (backTo l (starEach (j::E) c.env)) (backToKw l (keywordEach [] c.env)))):
  bo c i p (.Call (.Attribute M T C) (j::E) [] l) (aZ d T L s d0):=by
 obtain⟨Ca,f,fd,ps,K,r,N,O,P,Dd,F0,R,t,U,F1,rfl⟩:=e.ex;intro h y z B V;refine PE.imp (Am (G h y z B V) r N F1 F R t iy (PA.ex λk=>I h y z B k) o q J) ?_
 rintro σ H Q ⟨X,Z,S,g⟩;refine⟨X,Z,S,bE.use g λx k _ v H1 Y Z1 g1 u D m=>?_⟩
 split at m
 .rename_i n C' fs hk
  split at m
  .rename_i hc
   obtain⟨rfl,hl⟩:=hc;obtain⟨a,a0,dx,b0,rfl,rfl,_,q1,q2,q3⟩:=fg u D hk;obtain rfl:=K _ q1;refine⟨a,dx,_,rfl,q2,(ey q3).2 hl,_,_,Z1,S.grow g1 u,mX.use m λxs c0 _ vs H2 e0 Z2 g2 s2 r2 k2=>?_⟩
   exact⟨_,Z2,_,_,s2,.cons (u.cA g2 D) (r2.append (U _ _ _)),bE.ok0 k2⟩
  .exact m.elim
 .exact m.elim
theorem vu(M:tT c i b d T L)(t:bA b c.A)(u:bo c i p j s){pl:Sem Bool}(w:eval (.Call (.Attribute j T C) [] [] l) c.env=(do
   let o ←eval j c.env
   standAt C.atName
   let (f,first) ←holding [o] (getMethod o T pl)
   callWith l f first (backTo l (starEach [] c.env)) (backToKw l (keywordEach [] c.env)))):
  bo c i p (.Call (.Attribute j T C) [] [] l) (aZ d T L s ah):=by
 obtain⟨Ca,f,fd,ps,y,h,z,B,D,Dd,F0,E,k,F,F1,rfl⟩:=M.ex;intro m G I J K;refine PE.imp (wB (u m G I J K) h z F1 t E k iy w) ?_;rintro σ H Q ⟨N,Z,S,g⟩;refine⟨N,Z,S,bE.use g λx O _ v H1 P R g1 q r e=>?_⟩
 split at e
 .rename_i n C' fs U
  split at e
  .rename_i V
   obtain⟨rfl,X⟩:=V;obtain⟨a,Y,dx,a0,rfl,rfl,_,q1,q2,q3⟩:=fg q r U;obtain rfl:=y _ q1;exact⟨a,dx,_,rfl,q2,(ey q3).2 X,_,R,_,_,q,.cons r (F _ _ _),bE.ok0 e⟩
  .exact e.elim
 .exact e.elim
structure yO(X:Cx)(κ:Str->Addr->Prop)(k:Nat)(C:Str)(F:a_):Prop where
 ex:∃(Ca f:Addr) (fd:FuncData) (ps:List Str),κ C Ca/\Mk X.K Ca f/\X.mg C=some (.ref Ca)/\Binds X.K fd ps []/\bx X.prog X.w X.K X.mg X.base eB k f fd ps (cD κ F)
variable{Ξ:Addr}
theorem qx(S:br i r n a e)(f:aG (au r n e) q I)(k:i d h)(g:bE i p r n e (lu d L q a) ε)(A:e G=none)(l:e Ξ=none)(m:Ξ≠G):
  cD i L (.ref G::(I++[])) (upd (upd e Ξ (.own G)) G (.ins h Ξ [])) (λv B=>v=.non/\ε (.ref G) B) E0:=by
 rw[List.append_nil];obtain⟨o,u⟩:=S.mV l False;simp at o u;have s:upd e Ξ (.own G) G=none:=by rw[av (Ne.symm m)];exact A
 obtain⟨w,C⟩:=o.laid (c:=.ins d []) s λR K=>⟨h,Ξ,[],k,aL,.nil⟩
 have x:=u.trans C;have y:au _ n (upd (upd e Ξ (.own G)) G (.ins h Ξ [])) _ _:=fb o G;refine⟨_,n,_,_,w,.cons y (S.iG x f),?_⟩;unfold lu at g;cases b:L _ _ with
 |ok j t=>
  rw[b]at g;cases j with
  |non=>
   intro v D E F z H J;exact⟨J,g _ D _ F (x.trans z) H (w.cA z y)⟩
  |_=>exact g.elim
 |exc G t=>rw[b]at g;exact g.elim
 |bad=>rw[b]at g;exact g.elim
theorem BW(M:yO c i b d L)(o:bA (b+1) c.A)(q:Gl c d)(a:(d==("__debug__":Str))=false)(r:starEach (j::E) c.env=(false,eval j c.env)::starEach E c.env)(e:(backTo l (starEach E c.env)).any (·.1)=false)(s:mY c i p (j::E) d0):bo c i p (.Call (.Name d C) (j::E) [] l) (mN (lu d L) d0):=by
 obtain⟨P,f,R,T,h,t,u,w,F1⟩:=M.ex;intro k y z B D;refine PE.imp (An t F1 o q u w .nil iy (s k y z B D) a r e) ?_;rintro U H Q ⟨F,Z,S,g⟩;exact⟨F,Z,S,mX.use g λV G _ X Y I Z1 g1 J K N x dx O m n=>qx J K h N O m n⟩
theorem yP(M:yO c i b d L)(k:bA (b+1) c.A)(m:Gl c d)(a:(d==("__debug__":Str))=false):bo c i p (.Call (.Name d C) [] [] l) (mN (lu d L) ah):=by
 obtain⟨t,f,u,w,e,n,o,q,F1⟩:=M.ex;intro r y z B D;refine PE.imp (wC n F1 k m o q .nil iy a) ?_;rintro E H Q ⟨F,Z,S,g⟩;exact λx G s h j=>qx S.st .nil e g s h j
theorem BX(G:ju c.K i g d)(I:swapsWith j (some (.Attribute M d C)) l.line c.env=pure false)(J:bo c i p M s)(L:bo c i p j ζ):i_ c i p (.Assign [.Attribute M d C] j l) (dU g d s ζ):=by
 intro e r t A N;refine PS.imp (EN (PE.ex λf=>J e r t A f) (L e r t A N) I) ?_
 rintro E O H ⟨P,Z,S,d⟩;refine⟨P,Z,S,dQ.use S d λy f v H1 Q T _ g1 m U V=>⟨_,_,T,m,dQ.use m V λx X w H2 Y Z2 _ g2 n r2 h=>?_⟩⟩
 split at h
 .rename_i k b fs hk
  obtain⟨a,o,B,a0,rfl,rfl,h0,D,h2,F⟩:=fg n.st r2 hk;split at h
  .rename_i q
   simp only[Bool.and_eq_true,decide_eq_true_eq]at q;obtain⟨c1,c2⟩:=G b o q.1 D;have ry:=m.st.cA g2 U;obtain⟨s3,g3⟩:=n.st.put (c:=.ins b _) h0 (λM u z=>by grind) λR hR=>⟨o,B,_,D,aL,(yM ry F).imp hR⟩
   exact⟨a,o,B,_,rfl,h2,c1,c2,by rw[hV.length F];exact q.2,h O _ _ Z2 (n.grow g3 s3)⟩
  .exact h.elim
 .exact h.elim
theorem yQ{d:V}(S:br i r n a e)(s:au r n e m u)(t:au r n e X B2)(w:au r n e P6 d)(h:ly m X P6 a=some η):∃b g,u=.ref b/\uM e b B2 d g/\br i r n η g/\bW r n e r n g:=by
 cases m with
 |ref k=>
  simp only[ly]at h;obtain⟨b,l,rfl⟩:=s;split at h
  .rename_i x y
   obtain⟨G,f,p,A,q⟩:=S.cell y;rw[l]at f;cases f
   split at h
   .rename_i B j
    obtain rfl:=gf j t;split at h
    .rename_i C
     cases h;have:=bw C;obtain⟨D,E⟩:=S.put (c:=.dK _) l (λo d z=>by grind) λR F=>⟨_,aL,(q.put B w).imp F⟩
     exact⟨b,_,rfl,uM.k A (by rw[q.length];omega),D,E⟩
    .cases h
   .cases h
  .cases h
 |_=>cases h
theorem yR(z:c.A.units+1<cLine)(B:bo c i p M ζ)(D:bo c i p B1 u4)(F:bo c i p j s)(G:swapsWith j (some (.Subscript M B1 C)) l.line c.env=pure false):i_ c i p (.Assign [.Subscript M B1 C] j l) (dW ζ u4 s):=by
 intro e h k m I;refine PS.imp (AA z (PE.ex λb=>B e h k m b) (PE.ex λb=>D e h k m b) (F e h k m I) G) ?_
 rintro E J H ⟨K,Z,S,f⟩;refine⟨K,Z,S,dQ.use S f λd b v H1 L N _ g1 n O P=>⟨_,_,N,n,dQ.use n P λx Q w H2 R T _ U g V X=>⟨_,_,T,g,dQ.use g X λy Y u H3 a0 Z3 _ q r r3 o=>?_⟩⟩⟩
 split at o
 .rename_i b0 hq
  obtain⟨a,t,rfl,h1,s4,g4⟩:=yQ r.st (g.st.cA q V) r3 (g.st.cA q (n.st.cA U O)) hq;exact⟨a,t,rfl,h1,o J t _ Z3 (r.grow g4 s4)⟩
 .exact o.elim
theorem vv:bo c i p (.Dict [] [] l) (λ_ b=>iH b (.dK [])):=by
 intro d j k m b;refine PE.imp wO ?_;rintro n H Q ⟨o,Z,S,g⟩ a e;obtain⟨f,h⟩:=S.st.laid (c:=.dK []) e λR q=>⟨[],aL,.nil⟩
 exact g _ _ _ Z h f (fb S.st a)
noncomputable def a7(n:Nat)(a:List D):bp:=a.map some++List.replicate (n - a.length) none
noncomputable def gR:ff->ay D
 |.rt d Ω=>.ok d Ω
 |.nx _ Ω=>.ok .non Ω
 |.exc x Ω=>.exc x Ω
 |_=>.bad
def bT(n k:Nat)(c:SM):a_:=λa b=>if a.length=k then gR (c (a7 n a) b)else .bad
theorem hZ(S:br i r n a e)(b:aG (au r n e) q I):cj i r n e r n a (a7 g.length q) (L2.start g I) e where
 st:=S
 gr:=bW.refl S.has
 len:=by simp[a7,L2.start,b.length]
 val:=λc d f=>by
  unfold a7 at f
  by_cases h:c<q.length
  .rw[List.getElem?_append_left (by simpa using h),List.getElem?_map]at f
   obtain⟨o,j,k⟩:=Option.map_eq_some_iff.mp f;cases k;obtain⟨v,l,m⟩:=b.get j;refine⟨v,?_,m⟩;unfold L2.start;rw[List.getElem?_append_left (by simpa[b.length]using h),List.getElem?_map,l]
   rfl
  .rw[List.getElem?_append_right (by simpa using h),List.getElem?_replicate]at f
   split at f<;>cases f
structure qy(P:Program)(w:World)(K:PySem.W.Frag)(mg:Str->Option Value)(base:Heap)(κ:Str->Addr->Prop)(k:Nat)(j:Nat)(F:List D->a_):Prop where
 run:∀(X:Cx) (f:Addr) (vs:List V) (σ:L2.St) (H:Hp) (Q:VK) (α:List Addr) (Z:Addr->Prop) (Ω:aJ) (vg ds:List D) (n:Nat),X.prog=P->X.w=w->X.K=K->X.mg=mg->X.base=base->bA k X.A ->
  br κ α Z Ω H->α[n]?=some f->Ω[n]?=some (.fn j vg)->aG (au α Z H) ds vs->bE κ lQ α Z H (F vg ds Ω) Q->Ie X f vs σ H Q
theorem qy.mono{P:Program}{w:World}{K:PySem.W.Frag}{a:Str->Option Value}{base:Heap}{b:Str->Addr->Prop}{k c j:Nat}{F:List D->a_}(h:qy P w K a base b k j F)(d:k<=c):qy P w K a base b c j F:=
 ⟨λX f e g H Q i Z l vg m n o p q r s t=>h.run X f e g H Q i Z l _ m n o p q r s (t.mono d)⟩
noncomputable def isFn(a:aJ)(n:Nat):Bool:=match a[n]? with
 |some (.fn _ _)=>true
 |_=>false
def fC(x:D)(xs:List D)(a:aJ):ay D:=match mq a x,xs with
 |some (k,c),[.str y]=>match iC c with
  |some b=>(match b.findIdx? (λz=>z.cps.toList==y.cps.toList)with
   |some j=>.ok .non (a.set k (.lst ((b.eraseIdx j).map .str)))
   |none=>.bad)
  |none=>.bad
 |_,_=>.bad
theorem yS:aG (au r n e) (g.map .str) (g.map .str):=by
 induction g with
 |nil=>exact .nil
 |cons x g a=>exact .cons (by rfl) a
theorem vw(S:br i r n a e)(b:au r n e m u)(rs:aG (au r n e) q I)(g:bE i p r n e (fC m q a) ε):sX u I e ε:=by
 unfold fC at g;split at g
 .rename_i k z y h
  obtain⟨c,A,rfl,l,d,o⟩:=fc S b h;obtain⟨f,rfl,s⟩:=gC rs;subst s;split at g
  .rename_i t w
   split at g
   .rename_i j x
    rw[(qo w o)]at d;exact⟨c,t,y,j,rfl,rfl,d,x,gj S l d yS (by rfl) g⟩
   .exact g.elim
  .exact g.elim
 .exact g.elim
def Eb:V->List V->Hp->VK->Prop:=λx c H Q=>∃a b k v,x=.ref a/\c=[kV k]/\H a=some (.dK b)/\jR b k=some v/\Q v (upd H a (.dK (kH b k)))
theorem BY:Ha c "dict.pop" Eb:=by
 intro pins s m H x n v o Q I b d h;obtain⟨a,e,k,y,rfl,rfl,f,g,q⟩:=h;cases b;obtain⟨u,rfl,i⟩:=d.one;exact HZ I f i g (.inl rfl) λp r j l=>⟨y,_,j,l,q⟩
noncomputable def oO(a:aJ)(x:D):Bool:=match x with
 |.ref k=>match a[k]? with
  |some (.dK _)=>true
  |_=>false
 |_=>false
def gp(x:D)(xs:List D)(b:aJ):ay D:=match x,xs with
 |.ref k,[y]=>match b[k]?,oC y with
  |some (.dK a),some c=>match b_ a c with
   |some d=>.ok d (b.set k (.dK (dZ a c)))
   |none=>.bad
  |_,_=>.bad
 |_,_=>.bad
theorem BZ(S:br i r n a e)(b:au r n e m u)(h:oO a m=true):DM x "dict" u e:=by
 unfold oO at h;split at h
 .obtain⟨c,g,rfl⟩:=b
  split at h
  .rename_i j k
   obtain⟨l,d,f,o,p⟩:=S.cell k;rw[g]at d;exact .inr (by grind)
  .cases h
 .cases h
theorem B9(S:br i r n a e)(f:au r n e m u)(rs:aG (au r n e) q I)(g:bE i p r n e (gp m q a) ε):Eb u I e ε:=by
 unfold gp at g;split at g
 .obtain⟨h,s,rfl⟩:=f
  obtain⟨w,L,rfl,z,A⟩:=rs.cons_inv;obtain rfl:=A.nil_inv;split at g
  .rename_i B k C D
   obtain rfl:=gf D z;obtain⟨M,j,t,E,x⟩:=S.cell C;rw[s]at j;cases j
   split at g
   .rename_i d F
    obtain⟨b,G,H⟩:=(x.val k).1 d F;obtain⟨J,y⟩:=S.put (c:=.dK _) s (λo b l=>by grind) λR K=>⟨_,aL,(x.drop k).imp K⟩
    exact⟨h,_,k,b,rfl,rfl,E,G,g b _ _ _ y J (S.cA y H)⟩
   .exact g.elim
  .exact g.elim
 .exact g.elim
abbrev Lk:=List ((Str×Str)×Str×a_)
def nt(P:Program)(w:World)(K:PySem.W.Frag)(h:Str->Option Value)(base:Heap)(c:Str->Addr->Prop)(k:Nat)(t:Lk):Prop:=
 ∀m d C F,t.lookup (m,d)=some (C,F)->∃(b f:Addr) (e:FuncData) (g:List Str),(∀a,c C a->a=b)/\ke K b/\Meth K b m f/\jh K e g [d] gK gK/\bx P w K h base eB k f e g (cD c F)
theorem nt.mono{P:Program}{w:World}{K:PySem.W.Frag}{g:Str->Option Value}{base:Heap}{i:Str->Addr->Prop}{k j:Nat}{t:Lk}(G:nt P w K g base i k t)(h:k<=j):nt P w K g base i j t:=λm l C F q=>
 let ⟨n,f,o,p,a,b,c,d,e⟩:=G m l C F q;⟨n,f,o,p,a,b,c,d,e.mono h⟩
def nu(d:AM)(e:EM):AM:=λc f=>(d c f).bind λg a=>(e c a).bind λx b=>.ok (g++[x]) b
variable{v3:Str}
theorem vx{t:Lk}(G:nt c.prog c.w c.K c.mg c.base i b t)(hl:t.lookup (T,v3)=some (d,L))(hr:bA b c.A)(ho:bo c i p j s)(ha:mY c i p (M::E) d0)(hk:bo c i p B1 ζ){pl:Sem Bool}(B:starEach (M::E) c.env=(false,eval M c.env)::starEach E c.env)(D:((backTo C (starEach (M::E) c.env)).any (·.1)||(backToKw C (keywordEach [⟨some v3,B1,D1⟩] c.env)).any (·.1.isNone))=false)(ht:eval (.Call (.Attribute j T l) (M::E) [⟨some v3,B1,D1⟩] C) c.env=(do
   let Y ←eval j c.env
   standAt l.atName
   let (f,first) ←holding [Y] (getMethod Y T pl)
   callWith C f first (backTo C (starEach (M::E) c.env)) (backToKw C (keywordEach [⟨some v3,B1,D1⟩] c.env)))):
  bo c i p (.Call (.Attribute j T l) (M::E) [⟨some v3,B1,D1⟩] C) (aZ d T L s (nu d0 ζ)):=by
 obtain⟨Ca,f,fd,ps,hC,F,hm,hb,F1⟩:=G T v3 d L hl;intro o I J r Ω;refine PE.imp (wU (ho o I J r Ω) F hm F1 hr hb iy (PA.ex λh=>ha o I J r h) (Ao (PE.ex λh=>hk o I J r h) ER) rfl rfl B D ht) ?_
 rintro σ H Q ⟨α,Z,S,g⟩;refine⟨α,Z,S,bE.use g λx h _ v H1 u Z1 g1 z r1 e=>?_⟩
 split at e
 .rename_i n C' fs hq
  split at e
  .rename_i hc
   obtain⟨rfl,N⟩:=hc;obtain⟨a,O,dx,P,rfl,rfl,_,q1,q2,q3⟩:=fg z r1 hq;obtain rfl:=hC O q1;refine⟨a,dx,P,rfl,q2,(ey q3).2 N,h,u,Z1,S.grow g1 z,?_⟩
   have e:bE i p u Z1 H1 ((d0 r h).bind λR k=>(ζ r k).bind λy m=>aX L (.ref n::(R++[y])) m) Q:=by
    unfold nu at e;cases q:d0 r h with
    |ok R k=>
     rw[q]at e;cases U:ζ r k with
     |ok y m=>simp only[ay.bind,U]at e ⊢;exact e
     |exc _ _=>simp only[ay.bind,U]at e ⊢;exact e
     |bad=>simp only[ay.bind,U]at e ⊢;exact e
    |exc _ _=>rw[q]at e;exact e
    |bad=>rw[q]at e;exact e
   refine mX.use e λR k _ vs H2 V Z2 g2 s2 r2 k2=>?_
   have S2:=(S.grow g1 z).grow g2 s2;refine⟨k,V,Z2,S2,bE.use k2 λy m _ w H3 X Z3 g3 s3 r3 k3=>?_⟩
   refine⟨X,Z3,m,_,s3,?_,bE.ok0 k3⟩;exact .cons ((z.cA (g2.trans g3) r1)) ((s2.iG g3 r2).append (.one r3))
  .exact e.elim
 .exact e.elim
noncomputable def B_(c:Cell)(b:Option Cell):Cell:=match c,b with
 |.dF a,some (.dK _)=>.dK a
 |c,_=>c
def cp(a ax:aJ):aJ:=ax.mapIdx λk c=>B_ c a[k]?
def fL(F:a_):a_:=λc b=>match F c b with
 |.ok d a=>.ok d (cp b a)
 |r=>r
def FC(b:aJ)(r:ff):ff:=match r with
 |.nx c a=>.nx c (cp b a)
 |r=>r
def nv(a:D->bp->Option bp)(d:IM)(b:SM):SM:=λe c=>FC c (dw a d b e c)
theorem aG.of_get{d g:Type}{R:d->g->Prop}:∀{c:List d}{bs:List g},bs.length=c.length->(∀(i:Nat) (a:d) (b:g),c[i]?=some a->bs[i]?=some b->R a b)->aG R c bs
 |[],[],_,_=>.nil
 |a::c,b::bs,h,k=>.cons (k 0 a b rfl rfl) (aG.of_get (by simp_all) λi a b e f=>k (i+1) a b (by simp_all) (by simp_all))
 |[],_::_,h,_=>by simp at h
 |_::_,[],h,_=>by simp at h
variable{Q2:uH}{ς:FuncData}
section
variable{X:Cx}{κ:Str->Addr->Prop}{Φ:gX}{α α' QO:List Addr}{Z Z' Z0:Addr->Prop}{Ω ax:aJ}{H H' H0:Hp}
open Classical in
theorem qz(S:br κ α Z Ω H)(g:bW α Z H α' Z' H')(w:br κ α' Z' ax H'):∃B:Addr->Prop,Ii B H H'/\bW α Z H α' Z' (pf B H')/\br κ α' Z' (cp Ω ax) (pf B H')/\∀d v,au α' Z' H' d v->au α' Z' (pf B H') d v:=by
 let B:Addr->Prop:=λb=>∃(k:Nat) (h j:List (Key×D)),α'[k]?=some b/\Ω[k]?=some (Cell.dK h)/\ax[k]?=some (Cell.dF j)
 have I:∀b,B b->b∈α/\∃h,H b=some (.dK h):=λb ⟨k,h,j,x,A,t⟩=>by
  obtain⟨a,J,l,K,_⟩:=S.cell A;have:=g.pre k a J;rw[x]at this;cases this
  exact⟨List.mem_of_getElem? J,l,K⟩
 have L:∀b,B b->∃o h,H' b=some (.dj o (.dK h)):=λb ⟨k,h,j,x,A,t⟩=>by
  obtain⟨a,J,o,l,K,_⟩:=w.cell t
  grind
 have M:∀b,Z' b->¬ B b:=λb z ⟨k,_,_,x,_⟩=>w.sep b (List.mem_of_getElem? x) z
 have y:∀d v,au α' Z' H' d v->au α' Z' (pf B H') d v:=λd v r=>r.mono (λ_ _ e=>e) (λa o z e=>by rw[bR (M a z)];exact e) λ_ z=>z
 refine⟨B,⟨L,λb m=>(I b m).2⟩,⟨g.pre,g.sub,g.new,g.zY,λa o e F=>?_,λa F=>?_,λa o u e=>?_⟩,⟨w.mU,?_,w.sep,λa z=>by rw[bR (M a z)];exact w.dom a z⟩,y⟩
 .rw[bR λm=>F (I a m).1];exact g.frm a o e F
 .by_cases m:B a
  .obtain⟨o,h,e⟩:=L a m;rw[rH m e];simp
  .rw[bR m];exact g.has a F
 .rw[bR λm=>by obtain⟨_,_,z⟩:=I a m;rw[e]at z;cases z];exact g.dj a o u e
 .refine aG.of_get (by unfold cp;rw[List.length_mapIdx];exact w.vW.length) λi c a e f=>?_
  unfold cp at e;rw[List.getElem?_mapIdx]at e;obtain⟨E,x,rfl⟩:=Option.map_eq_some_iff.mp e;obtain⟨X,A,t⟩:=w.cell x;rw[f]at A;cases A
  have same:¬ B a->B_ E Ω[i]?=E->fA κ (au α' Z' (pf B H')) (pf B H') a (B_ E Ω[i]?):=λn q=>by
   rw[q];cases E with
   |lst Y=>obtain⟨l,p,s⟩:=t;exact⟨l,by rw[bR n];exact p,s.imp y⟩
   |dK h=>obtain⟨l,p,s⟩:=t;exact⟨l,by rw[bR n];exact p,s.imp y⟩
   |dF h=>obtain⟨o,l,p,s⟩:=t;exact⟨o,l,by rw[bR n];exact p,s.imp y⟩
   |ins C fs=>obtain⟨P,Q,l,R,p,s⟩:=t;exact⟨P,Q,l,R,by rw[bR n];exact p,s.imp y⟩
   |_=>exact t.elim
  by_cases N:∃h j,Ω[i]?=some (.dK h)/\E=.dF j
  .obtain⟨h,j,G,rfl⟩:=N
   have m:B a:=⟨i,h,j,f,G,x⟩;obtain⟨o,l,p,s⟩:=t;rw[G];exact⟨l,rH m p,s.imp y⟩
  .refine same ((λq ⟨k,h,j,p,s,O⟩=>by
   have:k=i:=by
    have T:=(List.getElem?_eq_some_iff.mp p);have U:=(List.getElem?_eq_some_iff.mp f)
    exact(List.getElem_inj w.mU).mp (T.2.trans U.2.symm)
   subst this;rw[x]at O;cases O
   exact q h j s rfl) λh j G V=>N ⟨h,j,G,V⟩) ?_
   unfold B_
   grind
theorem oP(a:bx z A x θ w Q2 b h ς g (cD κ L)):bx z A x θ w Q2 b h ς g (cD κ (fL L)):=
 a.lW.imp λy H Q E ⟨j,Z,f,i,S,r,qA⟩=>⟨j,Z,f,i,S,r,by
  unfold fL at qA;cases q:L i f with
  |ok d c=>
   rw[q]at qA;intro v C k l m n o;obtain⟨B,p,s,t,u⟩:=qz S m n;exact⟨B,p,qA v _ _ l s t (u d v o)⟩
  |exc e c=>rwa[q]at qA
  |bad=>rwa[q]at qA⟩
theorem yT(h:i_ X κ Φ Δ Θ):i_ X κ Φ Δ (λm l=>FC l (Θ m l)):=by
 intro z A C m l;have F:PS X Δ (λD t H=>∃n u w,Hg κ Φ _ u w Θ m l D t H):=λpins s t H D I ⟨n,u,w,q⟩=>h n u w m l _ s t H D I q
 refine PS.imp F.lW ?_;rintro E t H ⟨y,Z,S,f⟩;replace f:dQ κ Φ _ A C E (FC l _):=f;refine⟨y,Z,H,y,Z,⟨S.st,bW.refl S.st.has,S.len,S.val⟩,?_⟩;cases q:Θ m l with
 |nx o b=>
  rw[q]at f;intro p k c j a;obtain⟨B,G,J,K,L⟩:=qz S.st a.gr a.st;refine⟨B,G,f _ _ _ j ⟨K,S.gr.trans J,a.len,λi d e=>?_⟩⟩
  obtain⟨v,M,N⟩:=a.val i d e
  grind
 |bk o b=>rw[q]at f;exact λp k c j a=>f _ k _ j ⟨a.st,S.gr.trans a.gr,a.len,a.val⟩
 |ct o b=>rw[q]at f;exact λp k c j a=>f _ k _ j ⟨a.st,S.gr.trans a.gr,a.len,a.val⟩
 |rt d b=>rw[q]at f;exact λv k c j g s r=>f v k _ j (S.gr.trans g) s r
 |exc x b=>rw[q]at f;exact λk c j g s=>f k _ j (S.gr.trans g) s
 |bad=>rwa[q]at f
end
noncomputable def aa(i:Nat):EM:=λa b=>match a[i]? with|some (some d)=>.ok d b|_=>.bad
noncomputable def ai(d:D):EM:=λ_ a=>.ok d a
def cX:EM:=λ_ a=>iH a (.dK [])
noncomputable def o2{c d e:Type}(x:Option c)(y:Option d)(k:c->d->e):Option e:=match x,y with
 |some a,some b=>some (k a b)
 |_,_=>none
theorem bg{c d e:Type}{x:Option c}{y:Option d}{k:c->d->e}{z:e}(h:o2 x y k=some z):∃a b,x=some a/\y=some b/\z=k a b:=by
 unfold o2 at h
 grind
theorem cG{b c:Type}{x:Option b}{k:b->c}{z:c}(h:x.map k=some z):∃a,x=some a/\z=k a:=by
 cases x with
 |none=>cases h
 |some a=>grind
structure aQ where
 je:List (Str×(List D->Out Rs)):=[]
 fn:List (Str×a_):=[]
 cst:List (Str×D):=[]
 met:List (Str×Str×a_):=[]
 cls:List (Str×a_):=[]
 fld:List (Str×List Str):=[]
 clo:List (List D->a_):=[]
 fz:List Str:=[]
 xt:Bool:=false
 I_:Lk:=[]
def oQ(T:aQ)(a:Scope)(N:List Str)(x:Str):Option EM:=
 match mR a N x with
 |some i=>some (aa i)
 |none=>if Bc a x&&okN x then (T.cst.lookup x).map ai else none
def qB:Const->Option EM
 |.none=>some (ai .non)
 |.bool b=>some (ai (.bl b))
 |.int i=>some (ai (.int i))
 |.str x=>some (ai (.str x))
 |_=>none
def cL(f:Expr->Option EM):List Expr->Option AM
 |[]=>some ah
 |e::a=>o2 (f e) (cL f a) ae
def RR(c:BoolOp)(a b:EM):EM:=match c with
 |.And=>iN a b
 |.Or=>Fq a b
def km(f:Expr->Option EM)(c:BoolOp):List Expr->Option EM
 |[]=>none
 |[a]=>f a
 |a::b::r=>o2 (f a) (km f c (b::r)) (RR c)
def sd(f:Expr->Option EM):Option Expr->Option (Bool×EM)
 |none=>some (true,ai .non)
 |some e=>(f e).map λm=>(false,m)
inductive BM where
 |append|reverse|insert|extend|join|vy|remove
noncomputable def BM.nm:BM->Str
 |.append=>"append" |.reverse=>"reverse" |.insert=>"insert" |.extend=>"extend" |.join=>"join" |.vy=>"pop" |.remove=>"remove"
noncomputable def BM.ar:BM->Nat
 |.append=>1|.reverse=>0|.insert=>2|.extend=>1|.join=>1|.vy=>1|.remove=>1
def BM.ty:BM->aJ->D->Bool
 |.join=>Fz
 |.vy=>oO
 |_=>lP
def BM.f:BM->D->List D->aJ->ay D
 |.append=>c9|.reverse=>ew|.insert=>cQ|.extend=>gz|.join=>qq|.vy=>gp|.remove=>fC
def FD(m:Str)(n:Nat):Option BM:=[BM.append,.reverse,.insert,.extend,.join,.vy,.remove].find? λb=>b.nm==m&&b.ar==n
def gD(a:EM)(b:AM)(m:Str):List (Str×Str×a_)->Option EM
 |[]=>none
 | (c,C,F)::r=>if c==m then (match gD a b m r with
  |some x=>some (mj (aZ C m F a b) x)
  |none=>some (aZ C m F a b))else gD a b m r
def kn(T:aQ)(m:Str)(n:Nat)(a:EM)(c:AM):Option EM:=match FD m n,gD a c m T.met with
 |some b,some x=>some (mj (dm b.ty b.f a c) x)
 |some b,none=>some (dm b.ty b.f a c)
 |none,x=>x
noncomputable def df:Expr->Bool
 |.Name .. |.Attribute .. |.Constant (.str _) .. |.Subscript ..=>true
 |_=>false
def yU(x:Str):Option l_:=[l_.len,l_.all,l_.any,l_.list].find? (λb=>b.nm==x)
theorem Cb{b:l_}(h:yU d=some b):d=b.nm/\b∈[l_.len,l_.all,l_.any,l_.list]/\b.nm∈dO:=by
 have a:=List.find?_some h;have c:=List.mem_of_find?_eq_some h;refine⟨(eq_of_beq a).symm,c,?_⟩;cases b<;>first|decide
def oU(T:aQ)(a:Scope)(f:Expr->Option EM)(x:Str)(args:List Expr):Option EM:=
 if Bc a x&&okN x then
  match T.fn.lookup x,T.je.lookup x,T.cls.lookup x,yU x with
  |some F,_,_,_=>(cL f args).map (mN (aX F))
  |none,some F,_,_=>if args.isEmpty then none else (cL f args).map (mN (bF F))
  |none,none,some F,_=>(cL f args).map (mN (lu x F))
  |none,none,none,some b=>if args.isEmpty then none else (cL f args).map (mN (a8 b))
  |none,none,none,none=>if x==("dict":Str)then (if args.isEmpty then none else (cL f args).map (mN gZ))else none
 else none
def ko(T:aQ)(a:Scope)(N:List Str)(f:Expr->Option EM)(x:Str)(args:List Expr):Option EM:=match mR a N x with
 |some _=>none
 |none=>oU T a f x args
def yV(b:Scope):List Expr->Option (Expr×Ty×Pos)
 |[a,.Name t p]=>match DX t with
  |some c=>if Bc b t then some (a,c,p)else none
  |none=>none
 |_=>none
theorem vz(h:yV π E=some (j,u3,l)):E=[j,.Name u3.nm l]/\Bc π u3.nm=true/\u3.nm∈dO:=by
 unfold yV at h;split at h
 .split at h
  .rename_i b a
   split at h
   .obtain⟨rfl,m⟩:=IF a
    grind
   .cases h
  .cases h
 .cases h
def qC(b:Scope)(f:Expr->Option EM)(x:Str)(args:List Expr):Option EM:=if x==("isinstance":Str)&&Bc b x then match yV b args with
 |some (a,c,_)=>(f a).map (m1 (oK c))
 |none=>none else none
def fM(f:Expr->Option EM)(b:Scope)(iter:Expr):Option IM:=match iter with
 |.Call (.Name g _) args [] _=>if g==("range":Str)then (if Bc b g then (match args with
   |[a]=>(cL f [a]).map cU
   |_=>none)else none)else (f iter).map bf
 |_=>(f iter).map bf
def yW(f:Expr->Option EM):List Expr->Option (Bool×EM)
 |[]=>some (true,ai .non)
 |[c]=>(f c).map λm=>(false,m)
 |_=>none
noncomputable def emptyDict:List (Option Expr)->List Expr->Bool
 |[],[]=>true
 |_,_=>false
def Cc(T:aQ)(f:Expr->Option EM)(o:Expr)(m:Str)(a:Expr)(b:List Expr)(c:Keyword):Option EM:=match c with
 |⟨some d,e,_⟩=>(match T.I_.lookup (m,d)with
  |some (C,F)=>o2 (f o) (o2 (cL f (a::b)) (f e) Prod.mk) λg y=>aZ C m F g (nu y.1 y.2)
  |none=>none)
 |_=>none
def cx(T:aQ):Nat->Scope->List Str->Expr->Option EM
 |0,_,_,_=>none
 |n+1,d,N,e=>match e with
  |.Name x _=>oQ T d N x
  |.Constant c _ _=>qB c
  |.BinOp a g b _=>o2 (cx T n d N a) (cx T n d N b) (m2 (aY g))
  |.UnaryOp .Not a _=>(cx T n d N a).map iO
  |.BoolOp g (a::b::r) _=>km (cx T n d N) g (a::b::r)
  |.Compare a [g] [b] _=>if isSet b then none else o2 (cx T n d N a) (cx T n d N b) (m2 (aH g))
  |.Compare a [g,i] [b,c] _=>if isSet c then none else o2 (cx T n d N a) (o2 (cx T n d N b) (cx T n d N c) Prod.mk) λx y=>k_ g i x y.1 y.2
  |.IfExp t a b _=>o2 (cx T n d N t) (o2 (cx T n d N a) (cx T n d N b) Prod.mk) λx y=>Bu x y.1 y.2
  |.Subscript a (.Slice u w none _) _=>o2 (cx T n d N a) (o2 (sd (cx T n d N) u) (sd (cx T n d N) w) Prod.mk) λx y=>dG x y.1.1 y.1.2 y.2.1 y.2.2
  |.Subscript a b _=>if isSlice b then none else o2 (cx T n d N a) (cx T n d N b) (m2 aM)
  |.List j _=>(cL (cx T n d N) j).map (mN bh)
  |.Tuple j _ _=>(cL (cx T n d N) j).map (mN jU)
  |.Attribute o f _=>if df o then o2 (T.fld.lookup f) (cx T n d N o) λCs m=>m1 (dH Cs f) m else none
  |.Call (.Name x _) args [] _=>match qC d (cx T n d N) x args with
   |some m=>some m
   |none=>ko T d N (cx T n d N) x args
  |.Call (.Attribute o m k) args [] l=>if k.endLine==l.line&&df o&&decide (args.length<20)then (match cx T n d N o,cL (cx T n d N) args with
   |some z,some h=>kn T m args.length z h
   |_,_=>none)else none
  |.Call (.Attribute o m k) (a::h) [A] l=>if k.endLine==l.line&&df o&&decide ((a::h).length<20)then Cc T (cx T n d N) o m a h A else none
  |.ListComp p gens scope _=>match kZ gens with
   |some (x,_,iter,q)=>if yf scope d x&&!isSet iter then (match rU d N (eL scope),fM (cx T n d N) d iter,cx T n (Fg scope d) (x::eL scope) p,yW (cx T n (Fg scope d) (x::eL scope)) q with
    |some s,some B,some C,some (D,E)=>some (bC C D E B 0 s)
    |_,_,_,_=>none)else none
   |none=>none
  |.Dict F G _=>if emptyDict F G then some cX else none
  |_=>none
structure GoodO(X:Cx)(κ:Str->Addr->Prop)(T:aQ)(k:Nat)(sc:Scope)(N:List Str):Prop where
 scope:X.env.scope=sc
 names:X.N=N
 calm:X.calm=true
 room:bA k X.A
 dy:∀x∈dO,X.mg x=none
 je:∀x F,T.je.lookup x=some F->Iz X k x F
 fn:∀x F,T.fn.lookup x=some F->yK X κ k x F
 cst:∀x d,T.cst.lookup x=some d->∃v u,X.mg x=some u/\RelV v u/\eW d=some v
 met:∀m C F,(m,C,F)∈T.met->tT X κ k C m F
 cls:∀C F,T.cls.lookup C=some F->∃j,j+1<=k/\yO X κ j C F
 fld:∀f Cs,T.fld.lookup f=some Cs->ju X.K κ Cs f
 clo:(∀j F,T.clo[j]?=some F->qy X.prog X.w X.K X.mg X.base κ k j F)/\nt X.prog X.w X.K X.mg X.base κ k T.I_
variable{χ:aQ}
theorem GoodO.gl(G:GoodO c i χ b π g)(h:Bc π d=true):Gl c d:=by
 show c.env.scope.names.lookup d=some _
 rw[G.scope];exact(eq_of_beq h)
theorem GoodO.hu(G:GoodO c i χ b π g):c.A.units+64<cLine:=G.room.units
theorem GoodO.blk{X:Cx}{c:Str->Addr->Prop}{T:aQ}{k:Nat}{d:Scope}{N:List Str}(G:GoodO X c T k d N)(scope:Scope)(f:List (Str×Addr))(C:Addr)(e:List Str)(a:Shared)(b:Hp)(fp:List Addr):GoodO (blk X scope f C e a b fp) c T k (Fg scope d) e where
 scope:=by rw[←G.scope];rfl
 names:=rfl
 calm:=G.calm
 room:=G.room
 dy:=G.dy
 je:=λx F h=>⟨(G.je x F h).ex⟩
 fn:=λx F h=>⟨(G.fn x F h).ex⟩
 cst:=G.cst
 met:=λm C F h=>⟨(G.met m C F h).ex⟩
 cls:=λC F h=>let ⟨j,g,i⟩:=G.cls C F h;⟨j,g,⟨i.ex⟩⟩
 fld:=G.fld
 clo:=G.clo
def kq(X:Cx)(b:Str->Addr->Prop)(e:Expr)(m:EM):Prop:=(∀a,bo X b a e m)/\(∀a,gP X b a e m)/\isStar e=false
theorem bP(h:∀Φ,bo c i Φ j s)(b:isStar j=false)(d:∀a,isTrue j c.env a=(do let v ←a;standAt j.pos;holding [v] (truthy v))):kq c i j s:=⟨h,λΦ=>Bv (h Φ) d,b⟩
theorem bJ{X:Cx}{c:Str->Addr->Prop}{f:Expr->Option EM}(d:∀e m,f e=some m->kq X c e m):∀{a:List Expr}{b:AM},cL f a=some b->(∀Φ,mY X c Φ a b)/\(∀e∈a,isStar e=false)
 |[],b,h=>by cases h;exact⟨λΦ=>kj,by simp⟩
 |e::a,b,h=>by
  obtain⟨m,g,i,j,rfl⟩:=bg h;obtain⟨k,_,l⟩:=d e m i;obtain⟨n,o⟩:=bJ d j;refine⟨λΦ=>iL (k Φ) (n Φ) (bK l),λz p=>?_⟩
  grind
theorem yX(G:GoodO c i χ b π g)(h:oQ χ π g d=some s):kq c i (.Name d l) s:=by
 unfold oQ at h;split at h
 .rename_i e q
  cases h;obtain⟨t,w,f,k⟩:=tw q;exact bP (λm=>tH (by rwa[G.names]) (by rwa[G.scope]) f k) rfl (λ_=>rfl)
 .split at h
  .rename_i j
   simp at j;obtain⟨a,f,rfl⟩:=cG h;obtain⟨v,u,n,o,p⟩:=G.cst d a f;obtain⟨r,x,y⟩:=tx j.2;exact bP (λm=>gw (Ac (G.gl j.1) n o r) p) rfl (λ_=>rfl)
  .cases h
theorem vA{q:Const}(h:qB q=some s):kq c i (.Constant q b l) s:=by
 cases q<;>cases h
 .exact bP (λa=>gw v_ rfl) rfl (λ_=>rfl)
 .exact bP (λa=>gw Hu rfl) rfl (λ_=>rfl)
 .exact bP (λa=>gw Ex rfl) rfl (λ_=>rfl)
 .exact bP (λa=>gw wa rfl) rfl (λ_=>rfl)
theorem qD{X:Cx}{i:Str->Addr->Prop}{f:Expr->Option EM}{c:BoolOp}{pos:Pos}(j:∀e m,f e=some m->kq X i e m):∀{k:List Expr}{m:EM},km f c k=some m->(∀Φ,bo X i Φ (.BoolOp c k pos) m)/\(∀Φ,D9 X i Φ (.BoolOp c k pos) m)
 |[],m,h=>by cases h
 |[a],m,h=>by
  obtain⟨d,g,o⟩:=j a m h;exact⟨λΦ=>vi (d Φ),λΦ=>Bz (g Φ)⟩
 |a::b::r,m,h=>by
  obtain⟨p,t,q,s,rfl⟩:=bg h;obtain⟨d,g,o⟩:=j a p q;obtain⟨l,n⟩:=qD j s;cases c with
  |And=>exact⟨λΦ=>Bw (d Φ) (l Φ),λΦ=>BA (g Φ) (n Φ)⟩
  |Or=>exact⟨λΦ=>Fs (d Φ) (l Φ),λΦ=>Fu (g Φ) (n Φ)⟩
variable{Y4:Expr->Option EM}
theorem qE(b:∀e s,Y4 e=some s->kq c i e s)(h:sd Y4 D6=some (y,s)):Lj c i p D6 y s:=by
 cases D6 with
 |none=>cases h;exact .inl ⟨rfl,rfl⟩
 |some e=>
  obtain⟨a,d,f⟩:=cG h;cases f;exact .inr ⟨e,rfl,rfl,(b e s d).1 p⟩
theorem Cd{m:Str}{n:Nat}{b:BM}(h:FD m n=some b):m=b.nm/\n=b.ar:=by
 have:=List.find?_some h
 grind
theorem c_(h:df j=true):attributeBase j d P2 (eval j P2)=eval j P2:=by
 cases j<;>first|rfl | (cases h)
theorem Ja(G:c.A.units+64<cLine)(b:BM)(o:df j=true)(q:(l.endLine==C.line)=true)(t:E.length=b.ar)(u:bo c i p j s)(B:cL Y4 E=some d0)(D:∀e m,Y4 e=some m->kq c i e m):
  bo c i p (.Call (.Attribute j b.nm l) E [] C) (dm b.ty b.f s d0):=by
 obtain⟨n,w⟩:=bJ D B;have n:=n p;cases b with
 |append=>
  match E,t with
  |[e],_=>exact jr PySem.F.plainAttrs_list PySem.F.slot_list_append PySem.F.type_list_append mF (λx v a Z d H S r h=>lb S r h) (λx v y z a Z d H Q S r k g=>vm S r k g) (c_ o) q u n w (by simp)
 |reverse=>
  match E,t with
  |[],_=>cases B;exact BL PySem.F.plainAttrs_list PySem.F.slot_list_reverse PySem.F.type_list_reverse rC (λx v a Z d H S r h=>lb S r h) (λx v y z a Z d H Q S r k g=>rZ S r k g) (c_ o) q u
 |insert=>
  match E,t with
  |[e,I],_=>exact jr PySem.F.plainAttrs_list PySem.F.slot_list_insert PySem.F.type_list_insert vd (λx v a Z d H S r h=>lb S r h) (λx v y z a Z d H Q S r k g=>vn S r k g) (c_ o) q u n w (by simp)
 |extend=>
  match E,t with
  |[e],_=>exact jr PySem.F.plainAttrs_list PySem.F.slot_list_extend PySem.F.type_list_extend uL (λx v a Z d H S r h=>lb S r h) (λx v y z a Z d H Q S r k g=>vo S r k g) (c_ o) q u n w (by simp)
 |join=>
  match E,t with
  |[e],_=>exact jr PySem.F.plainAttrs_str PySem.F.slot_str_join PySem.F.type_str_join A_ (λx v a Z d H S r h=>BK S r h) (λx v y z a Z d H Q S r k g=>BO S r k g) (c_ o) q u n w (by simp)
 |vy=>
  match E,t with
  |[e],_=>exact jr PySem.F.plainAttrs_dict PySem.F.slot_dict_pop PySem.F.type_dict_pop BY (λx v a Z d H S r h=>BZ S r h) (λx v y z a Z d H Q S r k g=>B9 S r k g) (c_ o) q u n w (by simp)
 |remove=>
  match E,t with
  |[e],_=>exact jr PySem.F.plainAttrs_list PySem.F.slot_list_remove PySem.F.type_list_remove uU (λx v a Z d H S r h=>lb S r h) (λx v y z a Z d H Q S r k g=>vw S r k g) (c_ o) q u n w (by simp)
theorem oV(i:attributeBase j d P2 (eval j P2)=eval j P2)(g:∀e∈E,isStar e=false)(c:E.length<20)(k:(l.endLine==C.line)=true):
  eval (.Call (.Attribute j d l) E [] C) P2=(do
   let b ←eval j P2
   standAt l.atName
   let (f,first) ←holding [b] (getMethod b d (do let a ←importBound j P2;pure (a.getD true)))
   callWith C f first (backTo C (starEach E P2)) (backToKw C (keywordEach [] P2))):=by
 have m:methodCallForm (E.length+([]:List Keyword).length) (backTo C (starEach E P2)) (backToKw C (keywordEach [] P2))=true:=by
  unfold methodCallForm;rw[oM g,decide_eq_true (by grind)];rfl
 have h:eval (.Call (.Attribute j d l) E [] C) P2=(do
   let b ←attributeBase j d P2 (eval j P2)
   standAt l.atName
   methodCall j d l C P2 b (E.length+([]:List Keyword).length) (backTo C (starEach E P2)) (backToKw C (keywordEach [] P2))):=by rfl
 rw[h];unfold methodCall calleeOf methodCallPos
 simp_all
theorem h9{X:Cx}{c:Str->Addr->Prop}{k:Nat}{f:Expr->Option EM}(d:bA k X.A){o:Expr}{m:Str}{b:List Expr}{n:EM}{p:AM}{r s:Pos}{Φ:gX}(g:df o=true)(i:(r.endLine==s.line)=true)(a:b.length<20)(j:bo X c Φ o n)(l:cL f b=some p)(t:∀e m,f e=some m->kq X c e m):∀{ms:List (Str×Str×a_)}{x:EM},(∀m C F,(m,C,F)∈ms->tT X c k C m F)->gD n p m ms=some x->bo X c Φ (.Call (.Attribute o m r) b [] s) x
 |[],x,_,h=>by cases h
 | (u,C,F)::ms,x,w,h=>by
  obtain⟨B,z⟩:=bJ t l;simp only[gD]at h;split at h
  .rename_i D
   obtain rfl:=eq_of_beq D
   have one:bo X c Φ (.Call (.Attribute o u r) b [] s) (aZ C u F n p):=by
    cases b with
    |nil=>cases l;exact vu (by grind) d j (oV (c_ g) z a i)
    |cons e b=>exact yN (by grind) d j (B Φ) (bK (by grind)) (bL (by grind)) (oV (c_ g) z a i)
   split at h
   .rename_i y E
    cases h;exact one.alt (h9 d g i a j l t (λm C F q=>w m C F (by simp[q])) E)
   grind
  .exact h9 d g i a j l t (λm C F q=>w m C F (by simp[q])) h
theorem yY{X:Cx}{a:Str->Addr->Prop}{T:aQ}{k:Nat}{w:Scope}{N:List Str}{f:Expr->Option EM}(G:GoodO X a T k w N){o:Expr}{m:Str}{c:List Expr}{g:EM}{i:AM}{j l:Pos}{Φ:gX}{x:EM}(q:df o=true)(r:(j.endLine==l.line)=true)(d:c.length<20)(s:bo X a Φ o g)(t:cL f c=some i)(u:∀e m,f e=some m->kq X a e m)(h:kn T m c.length g i=some x):bo X a Φ (.Call (.Attribute o m j) c [] l) x:=by
 have one:∀b,FD m _=some b->bo X a Φ (.Call (.Attribute o m j) c [] l) (dm b.ty b.f g i):=λb n=>by
  obtain⟨rfl,z⟩:=Cd n;exact Ja G.hu b q r z s t u
 have p:∀y,gD g i m _=some y->bo X a Φ _ y:=λy A=>h9 G.room q r d s t u G.met A
 unfold kn at h;split at h
 .rename_i b y B C
  cases h;exact(one b B).alt (p y C)
 .grind
 grind
theorem yZ(G:GoodO c i χ b π g)(q:∀e s,Y4 e=some s->kq c i e s)(h:oU χ π Y4 d E=some s):kq c i (.Call (.Name d l) E [] C) s:=by
 refine bP (λr=>?_) rfl (λ_=>rfl)
 unfold oU at h;split at h
 .rename_i w
  simp at w;obtain⟨t,H,I⟩:=tx w.2;have o:=G.gl w.1;split at h
  .rename_i F p
   obtain⟨u,f,rfl⟩:=cG h;obtain⟨m,n⟩:=bJ q f;cases E with
   |nil=>cases f;exact vt (G.fn d F p) G.room o t
   |cons a E=>exact yL (G.fn d F p) G.room o t (bK (n a (by simp))) (bL (by grind)) (m r)
  .rename_i F _ p
   split at h
   .cases h
   .rename_i k
    obtain⟨u,f,rfl⟩:=cG h;obtain⟨m,n⟩:=bJ q f;cases E with
    |nil=>exact absurd rfl k
    |cons a E=>exact vj (G.je d F p) G.room o t (bK (n a (by simp))) (bL (by grind)) (m r)
  .rename_i F _ _ p
   obtain⟨u,f,rfl⟩:=cG h;obtain⟨m,n⟩:=bJ q f;obtain⟨j,y,M⟩:=G.cls d F p;cases E with
   |nil=>cases f;exact yP M (G.room.mono y) o t
   |cons a E=>exact BW M (G.room.mono y) o t (bK (n a (by simp))) (bL (by grind)) (m r)
  .rename_i x _ _ _ z
   split at h
   .cases h
   .rename_i k
    obtain⟨u,f,rfl⟩:=cG h;obtain⟨m,n⟩:=bJ q f;obtain⟨rfl,A,B⟩:=Cb z;cases E with
    |nil=>exact absurd rfl k
    |cons a E=>exact BI G.calm A o (G.dy _ B) (bK (n a (by simp))) (bL (by grind)) (m r)
  .split at h
   .rename_i D
    obtain rfl:=eq_of_beq D;split at h
    .cases h
    .rename_i k
     obtain⟨u,f,rfl⟩:=cG h;obtain⟨m,n⟩:=bJ q f;cases E with
     |nil=>exact absurd rfl k
     |cons a E=>exact yA G.calm o (G.dy _ (by decide)) (bK (n a (by simp))) (bL (by grind)) (m r)
   .cases h
 .cases h
theorem y9(G:GoodO c i χ b π g)(f:∀e s,Y4 e=some s->kq c i e s)(h:ko χ π g Y4 d E=some s):kq c i (.Call (.Name d l) E [] C) s:=by
 unfold ko at h;cases j:mR π g d with
 |none=>rw[j]at h;exact yZ G f h
 |some a=>
  grind
theorem Ce(i:attributeBase j d P2 (eval j P2)=eval j P2)(g:∀e∈E,isStar e=false)(c:E.length<20)(k:(l.endLine==C.line)=true):
  eval (.Call (.Attribute j d l) E [⟨some T,M,D1⟩] C) P2=(do
   let b ←eval j P2
   standAt l.atName
   let (f,first) ←holding [b] (getMethod b d (do let a ←importBound j P2;pure (a.getD true)))
   callWith C f first (backTo C (starEach E P2)) (backToKw C (keywordEach [⟨some T,M,D1⟩] P2))):=by
 have m:methodCallForm (E.length+([⟨some T,M,D1⟩]:List Keyword).length) (backTo C (starEach E P2)) (backToKw C (keywordEach [⟨some T,M,D1⟩] P2))=true:=by
  unfold methodCallForm;rw[oM g,decide_eq_true (by show E.length+1+1<30;omega)];rfl
 have h:eval (.Call (.Attribute j d l) E [⟨some T,M,D1⟩] C) P2=(do
   let b ←attributeBase j d P2 (eval j P2)
   standAt l.atName
   methodCall j d l C P2 b (E.length+([⟨some T,M,D1⟩]:List Keyword).length) (backTo C (starEach E P2)) (backToKw C (keywordEach [⟨some T,M,D1⟩] P2))):=by rfl
 rw[h];unfold methodCall calleeOf methodCallPos
 simp_all
theorem Jb(G:GoodO c i χ b π g)(f:∀e s,Y4 e=some s->kq c i e s){n:Keyword}(p:df j=true)(q:(l.endLine==C.line)=true)(a:(M::E).length<20)(h:Cc χ Y4 j d M E n=some s):kq c i (.Call (.Attribute j d l) (M::E) [n] C) s:=by
 unfold Cc at h;split at h
 .split at h
  .rename_i k F r
   obtain⟨t,y,u,w,rfl⟩:=bg h;obtain⟨D,x,z,A,rfl⟩:=bg w;obtain⟨B,o⟩:=bJ f z;exact bP (λm=>vx G.clo.2 r G.room ((f j t u).1 m) (B m) ((f _ x A).1 m) (bK (by grind)) (by rw[(bL (pos:=C) o (env:=c.env))];rfl) (Ce (c_ p) o a q)) rfl (λ_=>rfl)
  .cases h
 .cases h
theorem Cf(G:GoodO c i χ b π g)(k:∀e s,Y4 e=some s->kq c i e s)(h:qC π Y4 d E=some s):kq c i (.Call (.Name d l) E [] C) s:=by
 unfold qC at h;split at h
 .rename_i f
  simp at f;obtain⟨rfl,m⟩:=f;split at h
  .rename_i a x y n
   obtain⟨rfl,o,p⟩:=vz n;obtain⟨q,r,rfl⟩:=cG h;obtain⟨t,_,u⟩:=k a q r;exact bP (λw=>BJ (G.gl m) (G.dy _ (by decide)) (G.gl o) (G.dy _ p) (bK u) (bL λz j=>by simp at j;subst j;rfl) (t w)) rfl (λ_=>rfl)
  .cases h
 .cases h
theorem jv(G:GoodO c i χ b π g)(k:∀e m,Y4 e=some m->kq c i e m)(h:fM Y4 π j=some A1):∀Φ d,vX c i Φ d j A1:=by
 intro Φ d
 have dflt:∀{A1},(Y4 j).map bf=some A1->vX c i Φ d _ A1:=λ{A1} h=>by
  obtain⟨m,f,rfl⟩:=cG h;exact BQ ((k _ m f).1 Φ)
 unfold fM at h;split at h
 .split at h
  .rename_i l
   obtain rfl:=eq_of_beq l;split at h
   .rename_i n
    split at h
    .rename_i a
     obtain⟨p,f,rfl⟩:=cG h;obtain⟨o,q⟩:=bJ k f;exact yC (G.gl n) (G.dy _ (by decide)) (o Φ) (by rw[bK (by grind)];rfl)
    .cases h
   .cases h
  grind
 grind
variable{j7:Scope}
theorem Cg(G:GoodO c i χ b π g)(l:yf j7 π d=true)(p:rU π g (eL j7)=some J):
  jG c j7 [d] (eL j7) J/\j7.names.lookup d=some .local/\([d]++eL j7).Nodup:=by
 simp only[yf,Bool.and_eq_true,decide_eq_true_eq,List.all_eq_true,Bool.not_eq_true',beq_iff_eq,Bool.or_eq_true]at l;obtain⟨⟨⟨⟨⟨r,s⟩,t⟩,u⟩,w⟩,x⟩:=l;obtain⟨A,B⟩:=yh p
 have m:∀y∈j7.names,y.2=.free->(π.names.lookup y.1=some .cell\/π.names.lookup y.1=some .free)/\j7.names.lookup y.1=some .free:=λy a e=>by
  rcases u y a with q|q
  .rw[e]at q;exact absurd q (by decide)
  .exact q
 refine⟨⟨r,λy a e=>?_,λy a e=>?_,λy a e=>?_,A,λj f z n C=>?_⟩,w,x⟩
 .have:=s y a
  rw[e]at this;exact absurd this (by decide)
 .rcases t y a with q|q
  .rw[e]at q;exact absurd q (by decide)
  .exact q
 .have:=(m y a e).1
  show c.env.scope.names.lookup y.1=_\/c.env.scope.names.lookup y.1=_
  rw[G.scope];exact this
 .refine⟨by rw[G.names];exact B j f z n C,?_⟩
  have o:z∈eL j7:=List.mem_of_getElem? n;unfold eL at o;obtain⟨y,a,rfl⟩:=List.mem_map.mp o;obtain⟨h,k⟩:=List.mem_filter.mp a;exact(m y h (by simpa using k)).2
variable{T7:Prop}
theorem lA(c:kZ u8=none)(h:cx χ (b+1) π g (.ListComp j u8 j7 l)=some s):T7:=by
 replace h:(match kZ _ with
   |some (x,_,iter,a)=>if (yf _ π x&&!isSet _)=true then (match rU π g _,fM _ π _,cx χ b _ _ _,yW _ _ with
    |some _,some d,some e,some (f,i)=>some _
    |_,_,_,_=>none)else none
   |none=>none)=some s:=h
 grind
theorem jL(A:∀(c:Cx) (π:Scope) (g:List Str) (e:Expr) (s:EM),GoodO c i χ b π g->cx χ t π g e=some s->kq c i e s)(G:GoodO c i χ b π g)(h:cx χ (t+1) π g (.ListComp M [⟨.Name d l,j,E,0⟩] j7 C)=some s):∃p q r u o,s=bC p q r u 0 o/\jG c j7 [d] (eL j7) o/\j7.names.lookup d=some .local/\([d]++eL j7).Nodup /\
   (∀z,foldedSetIterable j c.env z=pure z)/\(∀Φ,vX c i Φ (.Name d l) j u) /\
   ∀x f k m fp,((E=[]/\q=true)\/∃n,E=[n]/\q=false/\gP (blk c j7 x f ([d]++eL j7) k m fp) i lQ n r)/\bo (blk c j7 x f ([d]++eL j7) k m fp) i lQ M p:=by
 replace h:(if (yf _ π d&&!isSet _)=true then (match rU π g _,fM _ π _,cx χ t _ _ _,yW _ _ with
    |some _,some u,some p,some (q,r)=>some _
    |_,_,_,_=>none)else none)=some s:=h
 split at h
 .rename_i y
  simp at y;split at h
  .rename_i o u p q r F H I w
   cases h;obtain⟨J,K,L⟩:=Cg G y.1 F;refine⟨p,q,r,u,_,rfl,J,K,L,fZ y.2,λΦ=>jv G (by grind) H Φ _,λx f k m fp=>?_⟩
   have B:=G.blk j7 x f ([d]++eL j7) k m fp;refine⟨?_,(A _ _ _ _ p B I).1 _⟩
   match E,w with
   |[],w=>cases w;grind
   |[D],w=>
    obtain⟨a,N,O⟩:=cG w;cases O;exact .inr ⟨D,rfl,rfl,(A _ _ _ D r B N).2.1 _⟩
  .cases h
 .cases h
theorem h_:∀(n:Nat) (X:Cx) (l:Scope) (N:List Str) (e:Expr) (m:EM),GoodO X i χ b l N->cx χ n l N e=some m->kq X i e m:=by
 intro n
 induction n with
 |zero=>intro X l N e m G h;cases h
 |succ n Y=>
  intro X l N e m G h;have k:∀e m,cx χ n l N e=some m->kq X i e m:=λe m q=>Y X l N e m G q
  cases e with
  |Name x pos=>exact yX G h
  |Constant c j pos=>exact vA h
  |BinOp a B d pos=>
   obtain⟨z,D,u,w,rfl⟩:=bg h;exact bP (λg=>Bp ((k a z u).1 g) ((k d D w).1 g)) rfl (λ_=>rfl)
  |UnaryOp B a pos=>
   cases B with
   |Not=>
    obtain⟨z,u,rfl⟩:=cG h;exact⟨λg=>Bx ((k a z u).1 g),λg=>By ((k a z u).2.1 g),rfl⟩
   |_=>cases h
  |BoolOp B M pos=>
   match M,h with
   |a::d::r,h=>
    obtain⟨q1,q2⟩:=qD (pos:=pos) k (show km (cx χ n l N) B (a::d::r)=some m from h)
    exact⟨q1,λg=>(q2 g).pt,rfl⟩
   |[_],h=>cases h
   |[],h=>cases h
  |Compare a Q cs pos=>
   match Q,cs,h with
   |[B],[d],h=>
    replace h:(if isSet d=true then none else o2 (cx χ n l N a) (cx χ n l N d) (m2 (aH B)))=some m:=h
    split at h
    .cases h
    .rename_i R
     obtain⟨z,D,u,w,rfl⟩:=bg h;have I:=pY (A2:=B) (j:=d) (by simpa using R)
     exact⟨λg=>(tK G.hu I ((k a z u).1 g) ((k d D w).1 g)).1,λg=>(tK G.hu I ((k a z u).1 g) ((k d D w).1 g)).2,rfl⟩
   |[B,E],[d,O],h=>
    replace h:(if isSet O=true then none else o2 (cx χ n l N a) (o2 (cx χ n l N d) (cx χ n l N O) Prod.mk) λx y=>k_ B E x y.1 y.2)=some m:=h
    split at h
    .cases h
    .rename_i R
     obtain⟨z,a0,u,A,rfl⟩:=bg h;obtain⟨D,mc,w,F,rfl⟩:=bg A;have I:lastMarks [B,E] [d,O]=false:=pY (A2:=E) (j:=O) (by simpa using R)
     exact⟨λg=>BD G.hu I ((k _ _ u).1 g) ((k _ _ w).1 g) ((k _ _ F).1 g),λg=>BE G.hu I ((k _ _ u).1 g) ((k _ _ w).1 g) ((k _ _ F).1 g),rfl⟩
   |[],_,h=>cases h
   |[_],[],h=>cases h
   |[_],_::_::_,h=>cases h
   |[_,_],[],h=>cases h
   |[_,_],[_],h=>cases h
   |[_,_],_::_::_::_,h=>cases h
   |_::_::_::_,[],h=>cases h
   |_::_::_::_,[_],h=>cases h
   |_::_::_::_,_::_::_,h=>cases h
  |IfExp t a d pos=>
   obtain⟨mt,b0,u,A,rfl⟩:=bg h;obtain⟨z,D,w,F,rfl⟩:=bg A;exact⟨λg=>BB ((k _ _ u).2.1 g) ((k _ _ w).1 g) ((k _ _ F).1 g),λg=>BC ((k _ _ u).2.1 g) ((k _ _ w).2.1 g) ((k _ _ F).2.1 g),rfl⟩
  |Subscript a s pos=>
   have S:∀d,isSlice d=false->o2 (cx χ n l N a) (cx χ n l N d) (m2 aM)=some m->kq X i (.Subscript a d pos) m:=λd T h=>by
    obtain⟨z,D,u,w,rfl⟩:=bg h;refine bP (λg=>Br (by have:=G.hu;omega) (λo U=>?_) ((k _ _ u).1 g) ((k _ _ w).1 g)) rfl (λ_=>rfl)
    cases d<;>first|rfl | (cases T)
   cases s with
   |Slice lo J st p2=>
    cases st with
    |none=>
     obtain⟨z,c0,u,A,rfl⟩:=bg h;obtain⟨⟨nl,ml⟩,⟨nh,mh⟩,w,F,rfl⟩:=bg A;exact bP (λg=>Bt ((k _ _ u).1 g) (qE k w) (qE k F)) rfl (λ_=>rfl)
    |some e=>
     cases lo with
     |none=>
      cases J with
      |none=>
       exact nomatch (show(none:Option EM)=some m from h)
      |some _=>exact nomatch (show(none:Option EM)=some m from h)
     |some _=>exact nomatch (show(none:Option EM)=some m from h)
   |_=>exact S _ rfl h
  |List es pos=>
   obtain⟨H,u,rfl⟩:=cG h;exact bP (λg=>Bn ((bJ k u).1 g)) rfl (λ_=>rfl)
  |Tuple es j pos=>
   obtain⟨H,u,rfl⟩:=cG h;exact bP (λg=>Bo ((bJ k u).1 g)) rfl (λ_=>rfl)
  |Attribute o f pos=>
   replace h:(if df o=true then o2 (χ.fld.lookup f) (cx χ n l N o) λV m=>m1 (dH V f) m else none)=some m:=h
   split at h
   .rename_i T
    obtain⟨V,K,u,w,rfl⟩:=bg h;exact bP (λg=>BV (G.fld f V u) (c_ T) ((k o K w).1 g)) rfl (λ_=>rfl)
   .cases h
  |Call f args L pos=>
   cases f with
   |Name x p=>
    cases L with
    |nil=>
     replace h:(match qC l (cx χ n l N) x args with|some m=>some m|none=>ko χ l N (cx χ n l N) x args)=some m:=h
     cases J:qC l (cx χ n l N) x args with
     |some m'=>
      rw[J]at h;cases h;exact Cf G k J
     |none=>
      rw[J]at h;exact y9 G k h
    |cons _ _=>cases h
   |Attribute o Z p1=>
    cases L with
    |nil=>
     replace h:(if (p1.endLine==pos.line&&df o&&decide (args.length<20))=true then (match cx χ n l N o,cL (cx χ n l N) args with
   |some K,some H=>kn χ Z args.length K H
   |_,_=>none)else none)=some m:=h
     split at h
     .rename_i C
      simp only[Bool.and_eq_true,decide_eq_true_eq]at C;split at h
      .rename_i K H u w
       exact bP (λg=>yY G C.1.2 C.1.1 C.2 ((k o K u).1 g) w k h) rfl (λ_=>rfl)
      .cases h
     .cases h
    |cons kd P=>
     cases P with
     |cons _ _=>cases args<;>cases h
     |nil=>
      cases args with
      |nil=>cases h
      |cons a H=>
       replace h:(if (p1.endLine==pos.line&&df o&&decide ((a::H).length<20))=true then Cc χ (cx χ n l N) o Z a H kd else none)=some m:=h
       split at h
       .rename_i C
        simp only[Bool.and_eq_true,decide_eq_true_eq]at C;exact Jb G k C.1.2 C.1.1 C.2 h
       .cases h
   |_=>cases h
  |ListComp d0 gens scope pos=>
   cases hg:kZ gens with
   |none=>exact lA hg h
   |some q=>
    obtain⟨x,px,iter,e0⟩:=q;obtain rfl:=mS hg;obtain⟨me,nc,mc,mi,f0,rfl,b1,b2,b3,b4,b5,b6⟩:=jL (λX l N e m G q=>Y X l N e m G q) G h
    exact bP (λg=>yD G.calm b1 b4 (b5 g) b2 b3 b6) rfl (λ_=>rfl)
  |Dict P M pos=>
   replace h:(if emptyDict P M=true then some cX else none)=some m:=h
   split at h
   .rename_i hd
    cases h
    match P,M,hd with
    |[],[],_=>exact bP (λg=>vv) rfl (λ_=>rfl)
   .cases h
  |_=>cases h
structure ez(X:Cx)(κ:Str->Addr->Prop)(T:aQ)(k:Nat)(sc:Scope)(N:List Str):Prop extends GoodO X κ T k sc N where
 own:PassesOwn (model X.prog X.w) X.A X.env X.xe
 Ll:∀x,ye sc x=true->T.fz.contains x=false->(X.fn x=true\/X.env.scope.names.lookup x=some .local)
 mU:N.Nodup
 kind:sc.kind=.function
 jP:T.xt=false->∀e s,¬ X.xe e s
def cW(f:Stmt->Option SM):List Stmt->Option SM
 |[]=>some ao
 |s::r=>o2 (f s) (cW f r) ak
def jw(f:Expr->Option EM)(b:Scope)(iter:Expr):Option IM:=match iter with
 |.Call (.Name g _) [a] [] _=>if g==("enumerate":Str)then (if Bc b g then (f a).map jV else none)else fM f b iter
 |.Call (.Attribute o c d) [] [] e=>if c==("items":Str)&&d.endLine==e.line&&df o then (f o).map hY else fM f b iter
 |_=>fM f b iter
def iT(T:aQ)(a:Scope)(N:List Str)(x:Str):Option Nat:=if T.fz.contains x then none else pZ a N x
def ia(T:aQ)(a:Scope)(N:List Str)(nms:List (Str×Pos)):Option (List Nat):=if nms.any (λy=>T.fz.contains y.1)then none else oA a N nms
def sg(T:aQ)(c:List Str)(k:Nat)(a:Scope)(N:List Str)(x:Str)(b:Pos)(e:Expr)(pos:Pos):Option SM:=match iT T a N x with
   |some i=>(match cx T k a N e with
    |some m=>if p_ a x b e then (if pos.line==b.line then some (aF i m)else none)else some (aF i m)
    |none=>none)
   |none=>none
def sj(T:aQ)(k:Nat)(a:Scope)(N:List Str)(b:List Expr)(e:Expr):Option SM:=match dr b with
   |some nms=>match ia T a N nms,cx T k a N e with
    |some c,some m=>if yi e then some (yE c m)else none
    |_,_=>none
   |none=>none
noncomputable def Ci:Expr->Bool
 |.Call (.Attribute (.Attribute ..) m _) [] [] _=>m==("items":Str)
 |_=>false
def ny(b:Bool)(a:D->bp->Option bp)(d:IM)(c:SM):SM:=if b then nv a d c else dw a d c
theorem qF(h:i_ c i p Δ (dw D7 A1 Θ)):i_ c i p Δ (ny y D7 A1 Θ):=by
 unfold ny;split
 .exact yT h
 .exact h
def iU(T:aQ)(g:List Str)(k:Nat)(d:Scope)(N:List Str):Nat->Stmt->Option SM
 |0,_=>none
 |n+1,p=>match p with
  |.Return (some e) _=>some (match cx T k d N e with
   |some m=>bS m
   |none=>bO)
  |.Assign [.Name x q] e j=>sg T g k d N x q e j
  |.Assign [.Tuple l _ _] e _=>sj T k d N l e
  |.Assign [.Attribute o f _] e _=>if df o&&!hU e then o2 (T.fld.lookup f) (o2 (cx T k d N o) (cx T k d N e) Prod.mk) λCs y=>dU Cs f y.1 y.2 else none
  |.Assign [.Subscript o i _] e _=>if isSlice i||hU e then none else o2 (cx T k d N o) (o2 (cx T k d N i) (cx T k d N e) Prod.mk) λx y=>dW x y.1 y.2
  |.Expr e _=>if hU e then none else (cx T k d N e).map cF
  |.If c a b _=>o2 (cx T k d N c) (o2 (cW (iU T g k d N n) a) (cW (iU T g k d N n) b) Prod.mk) λx y=>dR x y.1 y.2
  |.While c b [] _=>o2 (cx T k d N c) (cW (iU T g k d N n) b) jt
  |.For (.Name x _) h b [] _=>if isSet h then none else o2 (iT T d N x) (o2 (fM (cx T k d N) d h) (cW (iU T g k d N n) b) Prod.mk) λi y=>dw (cV i) y.1 y.2
  |.For (.Tuple l _ _) h b [] _=>if isSet h then none else match dr l with
   |some nms=>o2 (ia T d N nms) (o2 (jw (cx T k d N) d h) (cW (iU T g k d N n) b) Prod.mk) λr y=>ny (Ci h) (dS r) y.1 y.2
   |none=>none
  |.Raise _ _ _=>some bO
  |.Try b (_::_) [] [] _=>if T.xt then none else cW (iU T g k d N n) b
  |_=>none
theorem Cj(X:Gl c "enumerate")(Y:c.mg "enumerate"=none)(N:starEach [j] c.env=[(false,eval j c.env)])(ha:bo c i p j s):
  vX c i p (.Tuple E b l) (.Call (.Name "enumerate" C) [j] [] D1) (jV s):=by
 intro t Z0 H0 ρ Ω;refine PI.imp (A9 X Y (eI (ha t Z0 H0 ρ Ω) nT N) N) ?_;rintro σ H R ⟨α,Z,S,g⟩;refine⟨α,Z,S,rf.use g λx u _ v H1 a0 Z1 g1 o O q=>?_⟩
 have z:∀{f:List _}{m:Addr->Prop}{h:aJ}{k:Hp}{a:Nat}{v:V}{r:D},br i _ m _ k->au f m k r v->∀C,k C=none->∃A,bW _ m k _ A _/\br i _ A h _/\au _ A _ (.tup [.int (0+a),r]) _:=λ{f m h k a v r} n B C F=>by
  obtain⟨s3,P⟩:=n.mV (o0:=.tup [.int a,v]) F True;refine⟨_,P,s3,?_⟩;refine⟨C,_,rfl,.inr rfl,aL,bV.mpr (.cons ?_ (.one (n.cA P B)))⟩;simp only[au];simp
 cases G:dE u x with
 |none=>simp only[G]at q;exact q.elim
 |some b0=>
  simp only[G]at q;obtain⟨j,c0,rfl,q1,q2⟩:=ck o O G;refine⟨j,rfl,⟨_,mf q1⟩,q _ H1 _ Z1 (bW.refl o.has) o ?_⟩;intro f m h k ds g2 n I;obtain⟨d0,h2,rfl⟩:=cG I;have r2:=o.cA g2 O;obtain⟨a',J,e,K,Q⟩:=ck n r2 h2;cases e;refine⟨λa d hd=>?_,λa hi=>by rw[fy]at hi;exact⟨J,mf K,by rwa[Q.length]⟩⟩
  obtain⟨r,L,rfl⟩:=iD _ 0 a d hd;obtain⟨v,T,B⟩:=Q.get L;refine⟨⟨J,v,mf K,T⟩,λy H3 M=>?_⟩
  obtain⟨C,rfl,F,M⟩:=M;obtain⟨w,U,rfl⟩:=M J (mf K);rw[T]at U;cases U
  exact z n B C F
theorem vB(w:df j=true)(y:(C.endLine==D1.line)=true)(d:bo c i p j s):
  vX c i p (.Tuple E b l) (.Call (.Attribute j "items" C) [] [] D1) (hY s):=by
 intro m z A B D;refine PI.imp (ym (c_ w) y (d m z A B D)) ?_;rintro P H R ⟨F,Z,S,g⟩;refine⟨F,Z,S,rf.use g λx G _ v Q I T U f J e=>?_⟩
 unfold tL at e;split at e
 .obtain⟨j,d,rfl⟩:=J
  split at e
  .rename_i n r
   obtain⟨K,a,h,k,t⟩:=f.cell r;rw[d]at a;cases a
   refine⟨j,_,rfl,.inl ⟨k,λo=>?_⟩⟩
   obtain⟨L,M⟩:=f.put (c:=.dF _) d (λo u q=>by grind) λR N=>⟨o,_,aL,t.imp N⟩
   exact e _ _ _ _ M L (nj d aL)
  .rename_i n r
   obtain⟨K,a,O,h,k,t⟩:=f.cell r;rw[d]at a;cases a
   exact⟨j,_,rfl,.inr ⟨O,k,e _ _ _ _ (bW.refl f.has) f (nj d k)⟩⟩
  .exact e.elim
 .exact e.elim
theorem Ck{b:ExceptHandler}{d:List ExceptHandler}(g:∀e s,¬ c.xe e s)(j:jW c i p G2 Θ):i_ c i p (.Try G2 (b::d) [] [] l) Θ:=by
 intro k m n o r pins s t H D I h;refine wpAny_Try_except (wpAny_mono (j _ m n o r _ s t H D I h) (λf a q=>?_) λe a q=>absurd q (g e a))
 cases f with
 |next=>exact wpAny_execs_nil q
 |_=>exact q
theorem tU(G:GoodO c i χ b π g)(d:∀e m,Y4 e=some m->kq c i e m)(h:jw Y4 π j=some A1):∀Φ,vX c i Φ (.Tuple E t l) j A1:=by
 intro Φ;unfold jw at h;split at h
 .rename_i k p a r
  split at h
  .rename_i s
   obtain rfl:=eq_of_beq s;split at h
   .rename_i f
    obtain⟨n,e,rfl⟩:=cG h;obtain⟨q,_,u⟩:=d a n e;exact Cj (G.gl f) (G.dy _ (by decide)) (by rw[bK u];rfl) (q Φ)
   .cases h
  .exact jv G d h Φ _
 .rename_i o x q y
  split at h
  .rename_i f
   simp at f;obtain⟨⟨rfl,z⟩,w⟩:=f;obtain⟨n,e,rfl⟩:=cG h;exact vB w (by grind) ((d o n e).1 Φ)
  .exact jv G d h Φ _
 .exact jv G d h Φ _
theorem vC(G:ez c i χ b π g)(h:pZ π g d=some t):c.N[t]?=some d/\Loc c.env.scope d:=by
 unfold pZ at h;split at h
 .rename_i a
  simp at a;refine⟨by rw[G.names];exact yg h,?_⟩
  rw[G.scope];have e:=a.1;unfold ye at e;unfold L2.Loc
  grind
 .cases h
theorem gq{X:Cx}{e:Str->Addr->Prop}{Φ:gX}{f:Stmt->Option SM}(g:∀s c,f s=some c->i_ X e Φ s c):∀{d:List Stmt}{c:SM},cW f d=some c->jW X e Φ d c
 |[],c,h=>by cases h;exact tQ
 |s::d,c,h=>by
  obtain⟨a,b,i,j,rfl⟩:=bg h;exact iS (g s a i) (gq g j)
theorem gE(G:ez c i χ b π g)(h:iT χ π g d=some t):c.N[t]?=some d/\Loc c.env.scope d/\(c.fn d=true\/c.env.scope.names.lookup d=some .local):=by
 unfold iT at h;split at h
 .cases h
 .obtain⟨a,e⟩:=vC G h
  refine⟨a,e,G.Ll d ?_ (by grind)⟩
  unfold pZ at h
  grind
theorem lD{X:Cx}{c:Str->Addr->Prop}{T:aQ}{k:Nat}{b:Scope}{N:List Str}(G:ez X c T k b N):∀{nms:List (Str×Pos)}{a:List Nat},(∀y∈nms,T.fz.contains y.1=false)->oA b N nms=some a->a.length=nms.length/\∀(j i:Nat) (x:Str×Pos),a[j]?=some i->nms[j]?=some x->X.N[i]?=some x.1/\Loc X.env.scope x.1/\(X.fn x.1=true\/X.env.scope.names.lookup x.1=some .local)
 |[],a,_,h=>by cases h;simp_all
 |x::n,a,d,h=>by
  obtain⟨i,o,h⟩:=Option.bind_eq_some_iff.mp h;obtain⟨e,f,h⟩:=Option.bind_eq_some_iff.mp h;cases h;obtain⟨p,g⟩:=lD G (λy l=>d y (by simp[l])) f
  refine⟨by simp_all,λj m y q r=>?_⟩
  cases j with
  |zero=>
   exact gE G (by unfold iT;simp_all)
  |succ j=>exact g j m y (by simp_all) (by simp_all)
theorem lE(G:ez c i χ b π g){nms:List (Str×Pos)}(e:dr E=some nms)(f:ia χ π g nms=some J):PG c (.Tuple E t l) (Ag c.K J.length (jl J)):=by
 obtain rfl:=jJ e
 have a:(∀y∈nms,χ.fz.contains y.1=false)/\oA π g nms=some J:=by
  unfold ia at f
  grind
 obtain⟨d,h⟩:=lD G a.1 a.2;obtain⟨j,k⟩:=mT _ _;exact EA G.calm (mQ (nms:=nms) (by rw[G.names];exact G.mU) J _ d h) (by rw[j,d]) k
theorem qG(G:ez c i χ b π g):
  swapsWith (.ListComp j u8 j7 l) (some (.Name d C)) t c.env=pure (p_ π d C (.ListComp j u8 j7 l)):=by
 have a:c.env.blockKind=.function:=by
  show(if c.env.scope.kind.isAnnotationScope=true then ScopeKind.function else c.env.scope.kind)=_
  rw[G.scope,G.kind];rfl
 show pure _=_
 rw[a]
 show pure (true&&c.env.scope.names.lookup d==some _&&C.line==l.line&&!(j7.names.any _))=_
 rw[G.scope];rfl
theorem tV(G:ez c i χ b π g)(n:iT χ π g d=some υ)(h:cx χ t π g j=some s)(o:p_ π d l j=true->C.line=l.line):i_ c i p (.Assign [.Name d l] j C) (aF υ s):=by
 obtain⟨f,r,u⟩:=gE G n;have k:c.N.Nodup:=by rw[G.names];exact G.mU
 have plain:swapsWith j (some (.Name d l)) C.line _=pure _->i_ c i p _ _:=λq=>tS k f r u q ((h_ t c π g j s G.toGoodO h).1 p)
 cases j with
 |ListComp w gens scope e=>
  cases a:p_ π d l _ with
  |false=>exact plain (by rw[qG G,a])
  |true=>
   cases t with
   |zero=>cases h
   |succ t=>
   cases m:kZ _ with
   |none=>exact lA m h
   |some q=>
    obtain rfl:=mS m;obtain⟨F,H,I,J,x,rfl,y,z,A,B,D,E⟩:=jL (λc π g j s G q=>h_ t c π g j s G q) G.toGoodO h
    exact yF k f (by
     rw[G.scope];unfold p_ at a;simp only[Bool.and_eq_true,beq_iff_eq]at a;exact a.1.1) (by rw[qG G,a]) G.calm y B (jH 1 (by decide)) (lg (D p) z A E) (o a)
 |SetComp=>cases t<;>cases h
 |DictComp=>cases t<;>cases h
 |_=>exact plain rfl
theorem sk(h:hU j=false):swapsWith j D6 b P2=pure false:=by
 cases j<;>first|rfl | (cases h)
theorem tW(G:ez c i χ b π Y):∀(n:Nat) (s:Nat) (st:Stmt) (d:SM),iU χ g s π Y n st=some d->i_ c i p st d:=by
 intro n s;have E:∀e m,cx χ s π Y e=some m->kq c i e m:=λe m q=>h_ s c π Y e m G.toGoodO q
 induction n with
 |zero=>intro st d h;cases h
 |succ n X=>
  intro st d h;have B:∀L d,cW (iU χ g s π Y n) L=some d->jW c i p L d:=λL d q=>gq X q
  have Z:c.N.Nodup:=by rw[G.names];exact G.mU
  cases st with
  |Return v w=>
   cases v with
   |none=>cases h
   |some e=>
    replace h:some (match cx χ s π Y e with
   |some m=>bS m
   |none=>bO)=some d:=h
    cases h;split
    .rename_i m u
     exact tR ((E e m u).1 p)
    .exact nk
  |Assign ts e w=>
   cases ts with
   |nil=>cases h
   |cons t r=>
   cases r with
   |cons t2 r=>cases t<;>cases h
   |nil=>
   cases t with
   |Name x S=>
    replace h:sg χ g s π Y x S e w=some d:=h;unfold sg at h;split at h
    .rename_i l T
     .split at h
      .rename_i m U
       split at h
       .split at h
        .rename_i C hl
         cases h;exact tV G T U λ_=>eq_of_beq hl
        .cases h
       .rename_i C
        cases h;exact tV G T U λq=>absurd q C
      .cases h
    .cases h
   |Tuple M j z=>
    replace h:sj χ s π Y M e=some d:=h;unfold sj at h;split at h
    .rename_i nms O
     split at h
     .rename_i K m u A
      split at h
      .rename_i hp
       cases h;exact BU (lE G O u) hp ((E e m A).1 p)
      .cases h
     .cases h
    .cases h
   |Attribute o f z=>
    replace h:(if (df o&&!hU e)=true then o2 (χ.fld.lookup f) (o2 (cx χ s π Y o) (cx χ s π Y e) Prod.mk) λP y=>dU P f y.1 y.2 else none)=some d:=h
    split at h
    .rename_i H
     simp only[Bool.and_eq_true,Bool.not_eq_true']at H;obtain⟨P,y,u,A,rfl⟩:=bg h;obtain⟨mo,Q,D,F,rfl⟩:=bg A;exact BX (G.fld f P u) (sk H.2) ((E o mo D).1 p) ((E e Q F).1 p)
    .cases h
   |Subscript o l z=>
    replace h:(if (isSlice l||hU e)=true then none else o2 (cx χ s π Y o) (o2 (cx χ s π Y l) (cx χ s π Y e) Prod.mk) λx y=>dW x y.1 y.2)=some d:=h
    split at h
    .cases h
    .rename_i H
     simp only[Bool.or_eq_true,not_or,Bool.not_eq_true]at H;obtain⟨md,y,u,A,rfl⟩:=bg h;obtain⟨mk,Q,D,F,rfl⟩:=bg A;exact yR (by have:=G.hu;omega) ((E o md u).1 p) ((E l mk D).1 p) ((E e Q F).1 p) (sk H.2)
   |_=>cases h
  |Expr e w=>
   replace h:(if hU e=true then none else (cx χ s π Y e).map cF)=some d:=h
   split at h
   .cases h
   .rename_i H
    obtain⟨m,u,rfl⟩:=cG h;exact BS (sk (by simpa using H)) ((E e m u).1 p)
  |If R a k w=>
   obtain⟨m,y,u,A,rfl⟩:=bg h;obtain⟨ca,I,D,F,rfl⟩:=bg A;exact yG ((E R m u).2.1 p) (B a ca D) (B k I F)
  |While R k e w=>
   cases e with
   |nil=>
    obtain⟨m,I,u,A,rfl⟩:=bg h;exact nq G.own ((E R m u).2.1 p) (B k I A)
   |cons _ _=>cases h
  |For V J k e w=>
   cases e with
   |nil=>
    cases V with
    |Name x S=>
     replace h:(if isSet J=true then none else o2 (iT χ π Y x) (o2 (fM (cx χ s π Y) π J) (cW (iU χ g s π Y n) k) Prod.mk) λl y=>dw (cV l) y.1 y.2)=some d:=h
     split at h
     .cases h
     .rename_i C
      obtain⟨l,y,u,A,rfl⟩:=bg h;obtain⟨mi,I,D,F,rfl⟩:=bg A;obtain⟨s1,s2,s3⟩:=gE G u;exact kk G.own G.calm (jv G.toGoodO E D p _) (ka Z s1 s2 s3) (yJ l) (B k I F) (fZ (by simpa using C))
    |Tuple M j z=>
     replace h:(if isSet J=true then none else match dr M with
   |some nms=>o2 (ia χ π Y nms) (o2 (jw (cx χ s π Y) π J) (cW (iU χ g s π Y n) k) Prod.mk) λK y=>ny (Ci J) (dS K) y.1 y.2
   |none=>none)=some d:=h
     split at h
     .cases h
     .rename_i C
      split at h
      .rename_i nms O
       obtain⟨K,y,u,A,rfl⟩:=bg h;obtain⟨mi,I,D,F,rfl⟩:=bg A;exact qF (kk G.own G.calm (tU G.toGoodO E D p) (lE G O u) (r_ K) (B k I F) (fZ (by simpa using C)))
      .cases h
    |_=>cases h
   |cons _ _=>cases V<;>cases h
  |Raise _ _ _=>cases h;exact nk
  |Try k C oe fi w=>
   match C,oe,fi,h with
   |h0::C,[],[],h=>
    replace h:(if χ.xt then none else cW (iU χ g s π Y n) k)=some d:=h
    split at h
    .cases h
    .rename_i hx
     exact Ck (G.jP (by simpa using hx)) (B k d h)
   |[],_,_,h=>cases h
   |_::_,_::_,_,h=>cases h
   |_::_,[],_::_,h=>cases h
  |_=>cases h
def cE(b:Str->Option Value):Str->Addr->Prop:=λC a=>b C=some (.ref a)
structure aR(P:Program)(w:World)(K:PySem.W.Frag)(mg:Str->Option Value)(base:Heap)(T:aQ)(k:Nat):Prop where
 dy:∀x∈dO,mg x=none
 je:∀x F,T.je.lookup x=some F->∃(f:Addr) (fd:FuncData) (ps:List Str),mg x=some (.ref f)/\PySem.W.keepIn K (.ref f)=true/\Binds K fd ps []/\bx P w K mg base eB k f fd ps (oy F)
 fn:∀x F,T.fn.lookup x=some F->∃(f:Addr) (fd:FuncData) (ps:List Str),mg x=some (.ref f)/\PySem.W.keepIn K (.ref f)=true/\Binds K fd ps []/\bx P w K mg base eB k f fd ps (cD (cE mg) F)
 cst:∀x d,T.cst.lookup x=some d->∃v u,mg x=some u/\RelV v u/\eW d=some v
 met:∀m C F,(m,C,F)∈T.met->∃(Ca f:Addr) (fd:FuncData) (ps:List Str),Ea P w K mg base (cE mg) k C m F Ca f fd ps
 cls:∀C F,T.cls.lookup C=some F->∃j,j+1<=k/\∃(Ca f:Addr) (fd:FuncData) (ps:List Str),cE mg C Ca/\Mk K Ca f/\mg C=some (.ref Ca)/\Binds K fd ps []/\bx P w K mg base eB j f fd ps (cD (cE mg) F)
 fld:∀f Cs,T.fld.lookup f=some Cs->ju K (cE mg) Cs f
 clo:(∀j F,T.clo[j]?=some F->qy P w K mg base (cE mg) k j F)/\nt P w K mg base (cE mg) k T.I_
def tX(T:aQ)(a:List Str)(st:Stmt)(N:List Str):Option SM:=cW (iU T a 60 (aj st) N 30) (aV st)
variable{N2:List Int}
theorem Cm(f:Rd e h (.lst (N2.map V.int)))(d:L [.lst (N2.map D.int)] []=.ok (.bl true) a):cD i L [.ref h] e (λv _=>v=.bl true) E0:=by
 refine⟨[],λb=>b=h,[],[.lst (N2.map D.int)],⟨by simp,.nil,by simp,λb c=>?_⟩,.one ?_,?_⟩
 .subst c
  rcases f with c|⟨o,c⟩<;>rw[c]<;>simp
 .refine⟨h,_,rfl,rfl,f,?_⟩
  clear d f
  induction N2 with
  |nil=>rfl
  |cons n N2 j=>exact bV.mpr (.cons (by rfl) (bV.mp j))
 .rw[d]
  intro v l k m g s r;simpa only [au]using r
theorem aR.mono{P:Program}{w:World}{K:PySem.W.Frag}{n:Str->Option Value}{base:Heap}{T:aQ}{k:Nat}(W:aR P w K n base T k){j:Nat}(h:k<=j):aR P w K n base T j:=
 ⟨W.dy,λx F q=>let ⟨f,i,l,a,b,c,d⟩:=W.je x F q;⟨f,i,l,a,b,c,d.mono h⟩,λx F q=>let ⟨f,i,l,a,b,c,d⟩:=W.fn x F q;⟨f,i,l,a,b,c,d.mono h⟩,W.cst,
  λm C F q=>let ⟨o,f,i,l,a,b,c,p,r,s,F1,d,t,u,e,g⟩:=W.met m C F q;⟨o,f,i,l,a,b,c,p,_,s,F1,d,t,u,e.mono h,g⟩,λC F q=>let ⟨y,A,z⟩:=W.cls C F q;⟨y,by grind,z⟩,W.fld,⟨λj F q=>(W.clo.1 j F q).mono h,W.clo.2.mono h⟩⟩
noncomputable def aQ.vD(T:aQ)(x:Str)(F:List D->Out Rs):aQ:={T with je:=(x,F)::T.je}
noncomputable def aQ.ej(T:aQ)(x:Str)(F:a_):aQ:={T with fn:=(x,F)::T.fn}
noncomputable def aQ.fh(T:aQ)(C m:Str)(F:a_):aQ:={T with met:=(m,C,F)::T.met}
noncomputable def aQ.Cn(T:aQ)(C:Str)(F:a_):aQ:={T with cls:=(C,F)::T.cls}
def aQ.vE(T:aQ)(f:Str)(Cs:List Str):aQ:={T with fld:=(f,Cs)::T.fld}
noncomputable def aQ.jX(T:aQ)(x:Str)(d:D):aQ:={T with cst:=(x,d)::T.cst}
theorem fj{a:Type}{F G:a}{l:List (Str×a)}(h:((d,F)::l).lookup T=some G):(T=d/\G=F)\/l.lookup T=some G:=by
 grind
theorem aR.start(b:∀a∈dO,θ a=none):aR z A x θ w {} 0:=
 ⟨b,λa F h=>(by cases h),λa F h=>(by cases h),by simp,by simp,λC F h=>(by cases h),by simp,⟨by simp,λm c C F h=>(by cases h)⟩⟩
variable{B5:Str}
theorem aR.Jc{T:aQ}(W:aR z A x θ w T b)(n:θ d=some (.ref h))(l:ke x h)(M:Meth x h v3 G)(m:jh x ς g [B5] gK gK)(c:bx z A x θ w eB b G ς g (cD (cE θ) L)):aR z A x θ w {T with I_:=[((v3,B5),d,L)]} b:=
 ⟨W.dy,W.je,W.fn,W.cst,W.met,W.cls,W.fld,⟨W.clo.1,λj f o i q=>by
  have q:(match (j,f)==(v3,B5)with|true=>some _|false=>none)=some _:=q
  cases e:((j,f)==(v3,B5))with
  |true=>
   rw[e]at q;cases q;cases (eq_of_beq e);exact⟨h,G,ς,g,λa k=>by have k:θ d=some _:=k;grind,l,M,m,c⟩
  |false=>grind⟩⟩
theorem aR.vD{P:Program}{w:World}{K:PySem.W.Frag}{a:Str->Option Value}{base:Heap}{T:aQ}{k:Nat}(W:aR P w K a base T k){x:Str}{F:List D->Out Rs}{f:Addr}{b:FuncData}{c:List Str}{j:Nat}(d:a x=some (.ref f))(e:PySem.W.keepIn K (.ref f)=true)(g:Binds K b c [])(h:bx P w K a base eB j f b c (oy F))(i:j<=k):
  aR P w K a base (T.vD x F) k:=
 ⟨W.dy,λy G q=>by
  rcases fj q with ⟨rfl,rfl⟩|q
  .exact⟨f,b,c,d,e,g,h.mono i⟩
  .exact W.je y G q,W.fn,W.cst,W.met,W.cls,W.fld,W.clo⟩
theorem aR.ej{P:Program}{w:World}{K:PySem.W.Frag}{b:Str->Option Value}{base:Heap}{T:aQ}{k:Nat}(W:aR P w K b base T k){x:Str}{F:a_}{f:Addr}{c:FuncData}{d:List Str}(e:b x=some (.ref f))(g:PySem.W.keepIn K (.ref f)=true)(i:Binds K c d [])(h:bx P w K b base eB (k+1) f c d (cD (cE b) F)):
  aR P w K b base (T.ej x F) (k+1):=by
 have a:=W.mono (Nat.le_succ k)
 exact⟨a.dy,a.je,λy G q=>by
  rcases fj q with ⟨rfl,rfl⟩|q
  .exact⟨f,c,d,e,g,i,h⟩
  .exact a.fn y G q,a.cst,a.met,a.cls,a.fld,a.clo⟩
theorem aR.fh{P:Program}{w:World}{K:PySem.W.Frag}{c:Str->Option Value}{base:Heap}{T:aQ}{k:Nat}(W:aR P w K c base T k){C m:Str}{F:a_}{d f:Addr}{e:FuncData}{g:List Str}(p:c C=some (.ref d))(j:ke K d)(M:Meth K d m f)(l:Binds K e g [])(h:bx P w K c base eB (k+1) f e g (cD (cE c) F)):
  aR P w K c base (T.fh C m F) (k+1):=by
 have b:=W.mono (Nat.le_succ k)
 exact⟨b.dy,b.je,b.fn,b.cst,λn o G q=>by
  rcases List.mem_cons.mp q with q|q
  .cases q
   refine⟨d,f,e,g,λa i=>?_,j,M,[],[],[],F,l,.nil,λ_ _ _=>.nil,h,by simp⟩
   have i:c C=some _:=i
   grind
  .exact b.met n o G q,b.cls,b.fld,b.clo⟩
theorem aR.Jd(W:aR z A x θ w χ b)(r:θ d=some (.ref h))(j:ke x h)(M:Meth x h T G)(k:Binds x ς g ψ)(l:Vals I ψ)(m:∀n Z H,aG (au n Z H) j4 I)(e:bx z A x θ w eB (b+1) G ς g (cD (cE θ) L)):
  aR z A x θ w (χ.fh d T λxs=>L (xs++j4)) (b+1):=by
 have c:=W.mono (Nat.le_succ b)
 exact⟨c.dy,c.je,c.fn,c.cst,λo p f q=>by
  rcases List.mem_cons.mp q with q|q
  .cases q
   refine⟨h,G,ς,g,λa i=>?_,j,M,ψ,_,j4,L,k,l,m,e,rfl⟩
   have i:θ d=some _:=i
   grind
  .exact c.met o p f q,c.cls,c.fld,c.clo⟩
theorem aR.Cn{P:Program}{w:World}{K:PySem.W.Frag}{b:Str->Option Value}{base:Heap}{T:aQ}{k:Nat}(W:aR P w K b base T k){C:Str}{F:a_}{c f:Addr}{d:FuncData}{e:List Str}{j:Nat}(g:b C=some (.ref c))(M:Mk K c f)(i:Binds K d e [])(h:bx P w K b base eB j f d e (cD (cE b) F))(l:j<=k):
  aR P w K b base (T.Cn C F) (k+1):=by
 have a:=W.mono (Nat.le_succ k)
 exact⟨a.dy,a.je,a.fn,a.cst,a.met,λy G q=>by
  rcases fj q with ⟨rfl,rfl⟩|q
  .exact⟨j,by omega,c,f,d,e,g,M,g,i,h⟩
  .exact a.cls y G q,a.fld,a.clo⟩
theorem aR.vE{P:Program}{w:World}{K:PySem.W.Frag}{a:Str->Option Value}{base:Heap}{T:aQ}{k:Nat}(W:aR P w K a base T k){f:Str}{Cs:List Str}(h:ju K (cE a) Cs f):aR P w K a base (T.vE f Cs) k:=
 ⟨W.dy,W.je,W.fn,W.cst,W.met,W.cls,λy G q=>by
  rcases fj q with ⟨rfl,rfl⟩|q
  .exact h
  .exact W.fld y G q,W.clo⟩
theorem aR.jX{P:Program}{w:World}{K:PySem.W.Frag}{a:Str->Option Value}{base:Heap}{T:aQ}{k:Nat}(W:aR P w K a base T k){x:Str}{d:D}{v:V}{u:Value}(b:a x=some u)(c:RelV v u)(e:eW d=some v):aR P w K a base (T.jX x d) k:=
 ⟨W.dy,W.je,W.fn,λy G q=>by
  rcases fj q with ⟨rfl,rfl⟩|q
  .exact⟨v,u,b,c,e⟩
  .exact W.cst y G q,W.met,W.cls,W.fld,W.clo⟩
theorem plain1(e:θ d=some (.ref h))(f:ke x h)(n:PySem.W.findIn x (.ref h) T=some none):ju x (cE θ) [d] T:=λg a c b=>by
 have c:=by simpa using c
 subst c;have b:θ g=some _:=b;rw[e]at b;cases b;exact⟨f,n⟩
def Je(F:a_):Sp:=λa H Q E=>∀b,cD b F a H Q E
end Mir
namespace Mir
open PySem PySem.Spec PyProof.Rows L2
def Hh:D->Bool
 |.lst a=>a.all fJ
 |d=>fJ d
variable{P0 n:Addr->Prop}{e ο:Hp}{m:D}{r:List Addr}{u:V}
theorem tY(b:fJ m=true)(a:Rep n e m u):au r P0 ο m u:=by
 cases m with
 |lst _=>cases b
 |tup _=>cases b
 |ref _=>cases b
 |dct _ _=>cases b
 |_=>exact a
theorem vF(b:fJ m=true)(a:au r P0 ο m u):Rep n e m u:=by
 cases m with
 |lst _=>cases b
 |tup _=>cases b
 |ref _=>cases b
 |dct _ _=>cases b
 |_=>exact a
theorem qH{c:List Addr}{Z f:Addr->Prop}{H g:Hp}:∀{a:List D}{b:List V},a.all fJ=true->ba Z H a b->e_ c f g a b
 |[],b,_,r=>r
 |d::a,b,h,r=>by
  simp only[List.all_cons,Bool.and_eq_true]at h;obtain⟨v,i,e,j,k⟩:=r;exact⟨v,i,e,tY h.1 j,qH h.2 k⟩
theorem Jf(h:Hh m=true)(b:Rep n e m u):au r n e m u:=by
 cases m with
 |lst i=>
  obtain⟨a,d,c,z,f,g⟩:=b;exact⟨a,d,c,z,f,qH h g⟩
 |tup _=>cases h
 |ref _=>cases h
 |dct _ _=>cases h
 |_=>exact tY rfl b
theorem y_{c:List Addr}{Z:Addr->Prop}{H:Hp}:∀{a:List D}{b:List V},a.all Hh=true->ba Z H a b->aG (au c Z H) a b
 |[],b,_,r=>by subst r;exact .nil
 |d::a,b,h,r=>by
  simp only[List.all_cons,Bool.and_eq_true]at h;obtain⟨v,g,rfl,e,f⟩:=r;exact .cons (Jf h.1 e) (y_ h.2 f)
variable [jn]
def pureOf(O:a_):List D->Out Rs:=λa=>if a.all Hh=true then (match O a []with
  |.ok d _=>if fJ d=true then .ok (false,d)else .bad
  |_=>.bad)else .bad
variable{A:World}{L:a_}{b:Nat}{g:List Str}{h:Addr}{w:Heap}{x:PySem.W.Frag}{z:Program}{θ:Str->Option Value}{ς:FuncData}
theorem tZ(c:bx z A x θ w eB b h ς g (cD (cE θ) L)):bx z A x θ w eB b h ς g (oy (pureOf L)):=c.imp λI H Q E q=>by
 obtain⟨Z,j,s,d,k,r,e,f⟩:=q;unfold pureOf at e
 by_cases m:j.all Hh=true
 .rw[if_pos m]at e
  refine⟨[],Z,[],j,⟨by simp,.nil,by simp,k⟩,y_ m r,?_⟩
  cases t:L j []with
  |exc l u=>grind
  |bad=>grind
  |ok y u=>
   rw[t]at e;dsimp only at e
   by_cases n:fJ y=true
   .rw[if_pos n]at e
    cases e;intro v B C J p K D;refine f v B Z ⟨λi o F=>p.frm i o F (by simp),λ_ c=>c,by grind,λa M=>?_⟩ (.rep (vF n D))
    cases G:H a with
    |none=>simp_all
    |some o=>rw[p.frm a o G (by simp)];simp
   simp_all
 grind
end Mir
namespace Mir
open PySem L2
variable{a:aJ}
@[simp] theorem aw{c d:Type}{b:c}{f:c->aJ->ay d}:(ay.ok b a).bind f=f b a:=rfl
variable{W2:Type}{m:D}
@[simp] theorem Oa{b:Type}{f:W2->aJ->ay b}:(ay.exc m a:ay W2).bind f=.exc m a:=rfl
@[simp] theorem Ob{a:Type}{f:W2->aJ->ay a}:(ay.bad:ay W2).bind f=.bad:=rfl
@[simp] theorem cM{c:Type}{b:c}{k:c->aJ->ff}:bu (.ok b a) k=k b a:=rfl
@[simp] theorem Oc{k:W2->aJ->ff}:bu (.exc m a:ay W2) k=.exc m a:=rfl
@[simp] theorem Od{k:W2->aJ->ff}:bu (.bad:ay W2) k=.bad:=rfl
variable{C3:ay D}
@[simp] theorem QQ:i9 (.ok m a) C3=.ok m a:=rfl
@[simp] theorem Oe:i9 (.exc m a) C3=.exc m a:=rfl
@[simp] theorem Of:i9 .bad C3=C3:=rfl
variable{B:bp}{D8:D->aJ->ay D}{s:EM}
@[simp] theorem QR:m1 D8 s B a=(s B a).bind D8:=rfl
variable{N6:D->D->aJ->ay D}{ζ:EM}
@[simp] theorem dh:m2 N6 s ζ B a=(s B a).bind λx b=>(ζ B b).bind λy c=>N6 x y c:=rfl
variable{d0:AM}{i6:List D->aJ->ay D}
@[simp] theorem dX:mN i6 d0 B a=(d0 B a).bind i6:=rfl
@[simp] theorem bG:ah B a=.ok [] a:=rfl
@[simp] theorem a6:ae s d0 B a=(s B a).bind λx b=>(d0 B b).bind λxs c=>.ok (x::xs) c:=rfl
noncomputable def vr:Option (Option D)->aJ->ay D
 |some (some d),Ω=>.ok d Ω
 |_,_=>.bad
@[simp] theorem t4:vr (some (some m)) a=.ok m a:=rfl
variable{b:Nat}
@[simp] theorem oW:aa b B a=vr B[b]? a:=by
 unfold aa;cases B[b]? with
 |none=>rfl
 |some o=>cases o<;>rfl
@[simp] theorem t5:ai m B a=.ok m a:=rfl
variable{B3:Cell}
@[simp] theorem oX:iH a B3=.ok (.ref a.length) (a++[B3]):=rfl
noncomputable def tb(a:aJ):Option Bool->ay Bool
 |some b=>.ok b a
 |none=>.bad
variable{y:Bool}
@[simp] theorem fD:tb a (some y)=.ok y a:=rfl
@[simp] theorem eN:bZ (.ok m a)=tb a (iJ a m):=by rfl
@[simp] theorem dN:iJ a (.bl y)=some y:=rfl
@[simp] theorem Jg:iJ a .non=some false:=rfl
variable{P:Int}
@[simp] theorem Jh:iJ a (.int P)=some (P != 0):=rfl
noncomputable def G9(t:Option Bool)(a b:ay D):ay D:=match t with
 |some true=>a
 |some false=>b
 |none=>.bad
variable{W7:ay D}
@[simp] theorem Ec:Mir.G9 (some true) C3 W7=C3:=rfl
@[simp] theorem Ji:Mir.G9 (some false) C3 W7=W7:=rfl
@[simp] theorem kr:iN s ζ B a=(s B a).bind λx b=>Mir.G9 (iJ b x) (ζ B b) (.ok x b):=by
 rfl
@[simp] theorem FE:Fq s ζ B a=(s B a).bind λx b=>Mir.G9 (iJ b x) (.ok x b) (ζ B b):=by
 unfold Fq;cases s B a with
 |ok x b=>
  simp;cases iJ _ x with
  |none=>rfl
  |some t=>cases t<;>rfl
 |exc x b=>rfl
 |bad=>rfl
@[simp] theorem Co:iO s B a=(bZ (s B a)).bind λt b=>.ok (.bl (!t)) b:=rfl
variable{u4:EM}
@[simp] theorem sm:Bu u4 s ζ B a=(bZ (u4 B a)).bind λt b=>if t=true then s B b else ζ B b:=rfl
variable{X:D}
@[simp] theorem oY{g:D->D->aJ->ay D}:fS N6 g m X a=i9 (N6 m X a) (g m X a):=rfl
variable{q:List D}
@[simp] theorem Lm{g:List D->aJ->ay D}:mn i6 g q a=i9 (i6 q a) (g q a):=rfl
@[simp] theorem t6:mj s ζ B a=i9 (s B a) (ζ B a):=rfl
@[simp] theorem Ln:fk a b .non=some .non:=by cases b<;>rfl
@[simp] theorem FF:fk a b (.bl y)=some (.bl y):=by cases b<;>rfl
@[simp] theorem Cp:fk a b (.int P)=some (.int P):=by cases b<;>rfl
variable{d:Str}
@[simp] theorem t7:fk a b (.str d)=some (.str d):=by cases b<;>rfl
@[simp] theorem Og{a b:Type}{f:a->Option b}:bN f []=some []:=rfl
noncomputable def oc{a:Type}:Option a->Option (List a)->Option (List a)
 |some y,some b=>some (y::b)
 |_,_=>none
@[simp] theorem Lo{a:Type}{y:a}{b:List a}:oc (some y) (some b)=some (y::b):=rfl
@[simp] theorem t9{a b:Type}{f:a->Option b}{x:a}{xs:List a}:bN f (x::xs)=oc (f x) (bN f xs):=by
 rfl
theorem jx{a b:Type}{c:Type}{f:b->Option c}{g:a->b}{h:a->c}(e:∀x,f (g x)=some (h x)):∀xs:List a,bN f (xs.map g)=some (xs.map h)
 |[]=>rfl
 |x::xs=>by rw[List.map_cons,t9,e,jx e xs];rfl
variable{g:List Str}
@[simp] theorem Cq:bN (fk a b) (g.map .str)=some (g.map .str):=jx (λ_=>t7) g
variable{N2:List Int}
@[simp] theorem Cr:bN (fk a b) (N2.map .int)=some (N2.map .int):=jx (λ_=>Cp) N2
variable{j4:List D}
theorem Ct(h:bN (fk a b) q=some j4):fk a (b+1) (.lst q)=some (.lst j4):=by simp only[fk,h,Option.map_some]
variable{t:Nat}
theorem ku(c:a[t]?=some (.lst q))(h:bN (fk a b) q=some j4):fk a (b+1) (.ref t)=some (.lst j4):=by simp only[fk,c,h,Option.map_some]
theorem eA(c:a[t]?=some (.lst (g.map .str))):fk a (b+1) (.ref t)=some (L1 g):=ku c Cq
@[simp] theorem Oh:fk a (b+1) (SC N2)=some (SC N2):=Ct Cr
@[simp] theorem Lp:fR a (.ok (y,.int P))=.ok (.int P) a:=rfl
variable{C1:Bool}
@[simp] theorem Oi:fR a (.ok (y,.bl C1))=.ok (.bl C1) a:=rfl
@[simp] theorem Cu:fR a (.ok (y,.str d))=.ok (.str d) a:=rfl
@[simp] theorem Lq:fR a (.ok (y,.non))=.ok .non a:=rfl
@[simp] theorem Lr:fR a .bad=.bad:=rfl
def vN(a:aJ)(f:List D->Out Rs):Option (List D)->ay D
 |some b=>fR a (f b)
 |none=>.bad
variable{y1:List D->Out Rs}
@[simp] theorem Cv:vN a y1 (some q)=fR a (y1 q):=rfl
@[simp] theorem Cw:bF y1 q a=vN a y1 (bN (fk a 8) q):=by rfl
def v1(a:aJ)(f:D->Out Rs):Option D->ay D
 |some d=>fR a (f d)
 |none=>.bad
variable{E8:D->Out Rs}
@[simp] theorem Ls:v1 a E8 (some m)=fR a (E8 m):=rfl
@[simp] theorem Lu:Bm E8 m a=v1 a E8 (fk a 8 m):=by rfl
def v2(a:aJ)(f:D->D->Out Rs):Option D->Option D->ay D
 |some d,some e=>fR a (f d e)
 |_,_=>.bad
variable{G8:D->D->Out Rs}
@[simp] theorem Cy:v2 a G8 (some m) (some X)=fR a (G8 m X):=rfl
@[simp] theorem Cz:gO G8 m X a=v2 a G8 (fk a 8 m) (fk a 8 X):=by rfl
@[simp] theorem Jj:yy .len [.str d]=if small d.length=true then .ok (false,.int d.length)else .bad:=rfl
@[simp] theorem za:yy .all [.lst q]=yn (λbs=>bs.all id) (eV q):=rfl
@[simp] theorem Jk:yy .any [.lst q]=yn (λbs=>bs.any id) (eV q):=rfl
variable{L:a_}
@[simp] theorem zb:aX L q a=nr (L q a):=rfl
@[simp] theorem FG:nr (.ok m a)=.ok m a:=rfl
variable{A2:CmpOp}
@[simp] theorem kx:eg A2 m X a=v2 a (λm X=>do let r ←d_ A2 m X;Out.ok (false,D.bl r)) (fk a 8 m) (fk a 8 X):=by rfl
@[simp] theorem t_:aH .Eq m X a=eg .Eq m X a:=rfl
@[simp] theorem CA:aH .NotEq m X a=eg .NotEq m X a:=rfl
@[simp] theorem Lw:aH .Lt m X a=eg .Lt m X a:=rfl
@[simp] theorem Lx:aH .LtE m X a=eg .LtE m X a:=rfl
@[simp] theorem Ly:aH .Gt m X a=eg .Gt m X a:=rfl
@[simp] theorem Lz:aH .GtE m X a=eg .GtE m X a:=rfl
@[simp] theorem oZ:aH .In m X a=i9 (eg .In m X a) (mm false m X a):=rfl
@[simp] theorem lF:aH .NotIn m X a=i9 (eg .NotIn m X a) (mm true m X a):=rfl
@[simp] theorem LA:aH .Is m X a=i9 (jo false m X a) (eg .Is m X a):=rfl
@[simp] theorem FH:aH .IsNot m X a=i9 (jo true m X a) (eg .IsNot m X a):=rfl
@[simp] theorem Jl:jo y (.ref b) .non a=.ok (.bl y) a:=rfl
@[simp] theorem Hi:jo y (.int P) m a=.bad:=rfl
@[simp] theorem Hj:jo y .non m a=.bad:=rfl
@[simp] theorem Jm:jo y (.bl C1) m a=.bad:=rfl
@[simp] theorem Hk:jo y (.str d) m a=.bad:=rfl
@[simp] theorem zc:aY .Add m X a=i9 (yu m X a) (gO (fQ .Add) m X a):=rfl
@[simp] theorem Jn:aY .Sub m X a=gO (fQ .Sub) m X a:=rfl
@[simp] theorem Hl:aY .Mult m X a=gO (fQ .Mult) m X a:=rfl
@[simp] theorem Jo:aY .Mod m X a=gO (fQ .Mod) m X a:=rfl
@[simp] theorem LB:aY .FloorDiv m X a=gO (fQ .FloorDiv) m X a:=rfl
@[simp] theorem LC:dE a (.int P)=none:=rfl
@[simp] theorem LD:dE a (.str d)=none:=rfl
@[simp] theorem LF:dE a (.tup q)=none:=rfl
@[simp] theorem LG:dE a (.lst q)=some q:=rfl
theorem aA(h:a[b]?=some (.lst q)):dE a (.ref b)=some q:=by simp only[dE,h]
theorem fE(h:a[b]?=some (.lst q)):mq a (.ref b)=some (b,q):=by simp only[mq,h]
variable{F5:List (Str×D)}
theorem ky(h:a[b]?=some (.ins d F5)):mr a (.ref b)=some (b,d,F5):=by simp only[mr,h]
def ct(a:aJ):Option (List D)->Option (List D)->ay D
 |some b,some c=>if small (b.length+c.length)then .ok (.ref a.length) (a++[.lst (b++c)])else .bad
 |_,_=>.bad
@[simp] theorem CB:ct a (some q) (some j4)=if small (q.length+j4.length)then .ok (.ref a.length) (a++[.lst (q++j4)])else .bad:=rfl
@[simp] theorem QS{o:Option (List D)}:ct a none o=.bad:=rfl
@[simp] theorem CC:yu m X a=ct a (dE a m) (dE a X):=by rfl
@[simp] theorem LH:gg a (.tup q)=some q:=rfl
@[simp] theorem aI:gg a (.ref b)=dE a (.ref b):=rfl
@[simp] theorem LI:gg a (.lst q)=some q:=rfl
def ixs(a:aJ):Option (List D)->D->ay D
 |some b,.int i=>match L2.kf b i with
  |some d=>.ok d a
  |none=>.bad
 |_,_=>.bad
theorem ua:Fo m X a=ixs a (gg a m) X:=by rfl
theorem zd(h:L2.kf q P=some m):ixs a (some q) (.int P)=.ok m a:=by simp only[ixs,h]
theorem cq(h:a[b]?=some (.lst q))(c:L2.kf q P=some m):aM (.ref b) (.int P) a=.ok m a:=by
 unfold aM;rw[oY,ua,aI,aA h,zd c];rfl
@[simp] theorem eO:bh q a=if small q.length then .ok (.ref a.length) (a++[.lst q])else .bad:=rfl
@[simp] theorem o9:jU q a=if small q.length then .ok (.tup q) a else .bad:=rfl
def fl(a:aJ)(Cs:List Str)(f:Str):Option (Nat×Str×List (Str×D))->ay D
 |some (_,C,fs)=>if Cs.contains C then (match fs.lookup f with
  |some d=>.ok d a
  |none=>.bad)else .bad
 |none=>.bad
variable{T:Str}
theorem ub(h:a[b]?=some (.ins T F5))(c:g.contains T=true)(e:F5.lookup d=some m):dH g d (.ref b) a=.ok m a:=by
 unfold dH;rw[ky h];grind
noncomputable def sq(r:ff)(b:SM):ff:=match r with
 |.nx a c=>b a c
 |r=>r
variable{Θ:SM}
@[simp] theorem aD:sq (.nx B a) Θ=Θ B a:=rfl
@[simp] theorem QT:sq (.rt m a) Θ=.rt m a:=rfl
@[simp] theorem QU:sq (.bk B a) Θ=.bk B a:=rfl
@[simp] theorem QV:sq (.ct B a) Θ=.ct B a:=rfl
@[simp] theorem Oj:sq (.exc m a) Θ=.exc m a:=rfl
@[simp] theorem Ol:sq .bad Θ=.bad:=rfl
variable{B6:SM}
@[simp] theorem ag:ak Θ B6 B a=sq (Θ B a) B6:=by rfl
@[simp] theorem Jp:ao B a=.nx B a:=rfl
@[simp] theorem cb:aF b s B a=bu (s B a) λd c=>.nx (B.set b (some d)) c:=rfl
@[simp] theorem bQ:cF s B a=bu (s B a) λ_ b=>.nx B b:=rfl
@[simp] theorem gF:bS s B a=bu (s B a) λd b=>.rt d b:=rfl
@[simp] theorem bU:dR s Θ B6 B a=bu (bZ (s B a)) λt b=>if t=true then Θ B b else B6 B b:=rfl
variable{J:List Nat}
@[simp] theorem LJ:yE J s B a=bu (s B a) λd b=>match dS J d B with|some c=>.nx c b|none=>.bad:=rfl
@[simp] theorem Hm:dS J (.tup q) B=if q.length=J.length then some (fB J q B)else none:=rfl
@[simp] theorem CD:fB (b::J) (m::q) B=fB J q (B.set b (some m)):=rfl
@[simp] theorem Ed:fB [] q B=B:=by cases q<;>rfl
@[simp] theorem LK:gR (.rt m a)=.ok m a:=rfl
@[simp] theorem LM:gR (.nx B a)=.ok .non a:=rfl
theorem bj(h:q.length=t):bT b t Θ q a=gR (Θ (a7 b q) a):=by unfold bT;rw[if_pos h]
@[simp] theorem cf:bf s B a=(s B a).bind λx b=>srcOf b x:=rfl
theorem aU(h:gg a m=some q):srcOf a m=.ok (.seq m) a:=by unfold srcOf;rw[h]
@[simp] theorem qI:cU d0 B a=(d0 B a).bind tN:=rfl
@[simp] theorem uc:tN [.int P] a=if l9 P then .ok (.ints 0 P.toNat) a else .bad:=rfl
@[simp] theorem cg:eh (.seq m) a=gg a m:=rfl
@[simp] theorem Jq:eh (.ints P b) a=some (intsFrom P b):=rfl
variable{A1:IM}{D7:D->bp->Option bp}
@[simp] theorem cR:dw D7 A1 Θ B a=bu (A1 B a) λs b=>gm D7 s Θ fuel 0 B b:=rfl
def Ee(r:ff)(I:bp->aJ->Prop)(R:ff->Prop):Prop:=match r with
 |.nx a b=>I a b
 |.ct a b=>I a b
 |.bk a b=>R (.nx a b)
 |r=>R r
variable{v4:Src}
theorem bX(I:Nat->bp->aJ->Prop){R:ff->Prop}(l:∀i c b,I i c b->eh v4 b=some q)(h:∀(i:Nat) (d:D) c b,q[i]?=some d->I i c b->∃j,D7 d c=some j/\Ee (Θ j b) (I (i+1)) R)(s:∀c b,I q.length c b->R (.nx c b)):
  ∀(f i:Nat) c b,q.length - i<f->i<=q.length->I i c b->R (gm D7 v4 Θ f i c b):=by
 intro f
 induction f with
 |zero=>simp
 |succ f n=>
  intro i c b t u o;simp only[gm,l i c b o]
  by_cases k:i<q.length
  .have p:=List.getElem?_eq_getElem k
   rw[p];dsimp only;obtain⟨j,r,g⟩:=h i _ c b p o;rw[r];dsimp only;cases a:Θ _ b with
   |nx m e=>rw[a]at g;exact n _ _ _ (by omega) k g
   |ct m e=>rw[a]at g;exact n _ _ _ (by omega) k g
   |bk m e=>rwa[a]at g
   |rt d e=>rwa[a]at g
   |exc x e=>rwa[a]at g
   |bad=>rwa[a]at g
  grind
variable{E7:D->D}{F7:D->Bool}
theorem CF(k:eh v4 a=some q)(l:∀d∈q,gQ y s ([some d]++B) a=.ok (F7 d) a)(m:∀d∈q,F7 d=true->ζ ([some d]++B) a=.ok (E7 d) a):
  ∀(f i:Nat) (c:List D),q.length - i<f->i<=q.length->c.length+q.length<=100000+i->tP y s ζ 0 B v4 f i c a=.ok (c++((q.drop i).filter F7).map E7) a:=by
 intro f
 induction f with
 |zero=>intro i c n;omega
 |succ f h=>
  intro i c n r t;simp only[tP,k]
  by_cases e:i<q.length
  .have g:q[i]?=some q[i]:=List.getElem?_eq_getElem e
   have j:q[i]∈q:=List.getElem_mem e;rw[g];have o:oN 0 q[i]=some [some q[i]]:=rfl;simp only[o];rw[if_pos (aT (b:=c.length+1) (by omega)),l _ j,List.drop_eq_getElem_cons e,List.filter_cons]
   cases p:F7 q[i]with
   |true=>
    dsimp only;rw[m _ j p];dsimp only;rw[h (i+1) _ (by omega) e (by rw[List.length_append];simp;omega)]
    simp
   |false=>
    dsimp only;rw[h (i+1) _ (by omega) e (by omega)]
    simp
  .have g:q[i]?=none:=List.getElem?_eq_none (by omega)
   rw[g,List.drop_of_length_le (by omega)]
   simp
variable{η:aJ}
theorem cu(b:A1 B a=.ok v4 η)(c:eh v4 η=some q)(e:∀d∈q,gQ y ζ ([some d]++dn J B) η=.ok (F7 d) η)(f:∀d∈q,F7 d=true->s ([some d]++dn J B) η=.ok (E7 d) η)(g:q.length<=90000):
  bC s y ζ A1 0 J B a=.ok (.ref η.length) (η++[.lst ((q.filter F7).map E7)]):=by
 unfold bC;rw[b];dsimp only;rw[CF c e f _ 0 [] (by unfold fuel;omega) (Nat.zero_le _) (by simp;omega)]
 rfl
theorem cS(h:a[b]?=some B3):(a++η)[b]?=some B3:=by rwa[List.getElem?_append_left (List.getElem?_eq_some_iff.mp h).1]
theorem aq:(a++B3::η)[a.length]?=some B3:=by simp
theorem dg{e:Cell}(h:a[t]?=some B3)(c:t≠b):(a.set b e)[t]?=some B3:=by rwa[List.getElem?_set_ne (Ne.symm c)]
theorem aK{e:Cell}(h:a[b]?=some B3):(a.set b e)[b]?=some e:=List.getElem?_set_self (List.getElem?_eq_some_iff.mp h).1
theorem bc(h:a[b]?=some B3):b<a.length:=by grind
structure af(fp:List Nat)(Ω ax:aJ):Prop where
 len:Ω.length<=ax.length
 get:∀k c,Ω[k]?=some c->k∉fp->ax[k]?=some c
theorem af.refl:af J a a:=⟨Nat.le_refl _,λ_ _ h _=>h⟩
variable{A6:aJ}
theorem af.trans(h:af J a η)(b:af J η A6):af J a A6:=⟨Nat.le_trans h.len b.len,λk c q n=>b.get k c (h.get k c q n) n⟩
theorem af.app:af J a (a++η):=⟨by simp,λk c h _=>cS h⟩
theorem af.set{a:aJ}{fp:List Nat}{j:Nat}{c:Cell}(h:j∈fp):af fp a (a.set j c):=⟨by simp,λk e q n=>dg q λz=>n (z▸h)⟩
variable{B7:List Nat}
theorem af.sub(h:af J a η)(b:∀k∈J,k∈B7):af B7 a η:=⟨h.len,λk c q n=>h.get k c q λz=>n (b k z)⟩
theorem gG(h:a[b]?=some (.lst q)):a8 .len [.ref b] a=.ok (.int q.length) a:=by
 show i9 _ _=_
 simp only[vk,aI,aA h];rfl
theorem ib(h:a[b]?=some (.lst q))(c:q.length<=1000):c9 (.ref b) [m] a=.ok .non (a.set b (.lst (q++[m]))):=by
 simp only[c9,fE h];rw[if_pos (aT (by omega))]
theorem en(h:a[b]?=some (.lst q)):lP a (.ref b)=true:=by simp only[lP,aA h];rfl
theorem ic(h:a[b]?=some (.lst (g.map .str))):aH .In (.str d) (.ref b) a=.ok (.bl (decide (d∈g))) a:=by
 simp[eA h]
theorem kz(h:a[b]?=some (.lst (g.map .str))):aH .NotIn (.str d) (.ref b) a=.ok (.bl (!decide (d∈g))) a:=by
 simp[eA h]
variable{S:List (List Str)}
theorem lG(d:a[b]?=some (.lst (J.map .ref)))(h:aG (λj c=>a[j]?=some (.lst (c.map .str))) J S):fk a (t+2) (.ref b)=some (LL S):=by
 refine ku d ?_;clear d
 induction h with
 |nil=>rfl
 |cons e g f=>rw[List.map_cons,t9,eA e,f];rfl
theorem CG(e:s B a=.ok (.ref b) η)(f:η[b]?=some (.ins d F5))(g:F5.lookup T=none):aZ d T L s d0 B a=(d0 B η).bind λxs c=>nr (L (.ref b::xs) c):=by
 unfold aZ;rw[e]
 show(match mr _ _ with|some (_,h,F5)=>_|none=>_)=_
 rw[ky f];simp only[g,and_self,if_true];rfl
variable{F8:D->List D->aJ->ay D}{S7:aJ->D->Bool}
theorem dY(c:s B a=.ok m η)(h:S7 η m=true):dm S7 F8 s d0 B a=(d0 B η).bind λxs b=>F8 m xs b:=by
 unfold dm
 simp_all
variable [jn]
theorem af.new(h:af [] a η)(b:af J η A6)(d:∀j∈J,a.length<=j):af [] a A6:=⟨Nat.le_trans h.len b.len,λk c e _=>b.get k c (h.get k c e (by simp)) (by grind)⟩
theorem dz.up(h:af [] a η):af J a η:=h.sub (by simp)
@[simp] theorem Jr:aM (.str d) m a=v2 a rO (some (.str d)) (fk a 8 m):=by
 rfl
variable{f8 i8:Option Int}
@[simp] theorem Js:k9 (.str d) f8 i8 a=fR a (xJ (.str d) f8 i8):=rfl
@[simp] theorem Jt:dG s y ζ C1 u4 B a=(s B a).bind λx b=>(gY y ζ B b).bind λl c=>(gY C1 u4 B c).bind λh d=>k9 x l h d:=rfl
@[simp] theorem LN:gY true s B a=.ok none a:=rfl
noncomputable def QW(a:aJ):D->ay (Option Int)
 |.int i=>.ok (some i) a
 |_=>.bad
@[simp] theorem LO:gY false s B a=(s B a).bind λd b=>QW b d:=by
 rfl
@[simp] theorem LP:QW a (.int P)=.ok (some P) a:=rfl
theorem qJ(h:a[b]?=some (.lst q)):ew (.ref b) [] a=.ok .non (a.set b (.lst q.reverse)):=by
 simp only[ew,fE h]
def nC:EM:=bC (m2 aM (aa 2) (m2 (aY .Mod) (m2 (aY .Add) (aa 1) (m2 (aY .Mult) (aa 0) (aa 3))) (ai (.int 26)))) true (ai .non) (cU (ae (ai (.int 8)) ah)) 0 [4,3,5]
def nD:EM:=bC (dG (aa 1) true (ai .non) false (m2 (aY .Add) (aa 0) (ai (.int 1)))) true (ai .non) (cU (ae (aa 2) ah)) 0 [6]
def QX(x:Str):Prop:=x.length<=17/\∃c∈x.cps.toList,97<=c
theorem QX.ne(h:QX d):d≠"-":=λe=>by
 obtain⟨_,c,a,b⟩:=h;subst e;have:c∈[45]:=a;simp at this;omega
section
variable{κ β:Type}[DecidableEq κ]
theorem di{p:κ×β}{kvs:List (κ×β)}{k:κ}:b_ (p::kvs) k=if p.1=k then some p.2 else b_ kvs k:=by
 unfold b_
 grind
theorem qK{k a:κ}{v:β}:∀{kvs:List (κ×β)},b_ (kvs.map λb=>if b.1=k then (b.1,v)else b) a=if a=k then (b_ kvs k).map λ_=>v else b_ kvs a
 |[]=>by simp[b_]
 |p::kvs=>by
  rw[List.map_cons,di,di,di,qK]
  by_cases h:p.1=k
  .by_cases h':a=k
   .simp_all
   .have:¬ k=a:=λe=>h' e.symm
    simp_all
  .rw[if_neg h]
   by_cases h':a=k
   .simp_all
   .simp[h']
theorem qL{k a:κ}{v:β}:∀{kvs:List (κ×β)},b_ (kvs++[(k,v)]) a=match b_ kvs a with|some d=>some d|none=>if a=k then some v else none
 |[]=>by
  rw[List.nil_append,di]
  by_cases h:k=a
  .subst h;simp[b_]
  grind
 |p::kvs=>by
  rw[List.cons_append,di,di,qL]
  grind
theorem iV{k:κ}:∀{kvs:List (κ×β)},(kvs.any λa=>decide (a.1=k))=(b_ kvs k).isSome
 |[]=>rfl
 |p::kvs=>by
  rw[List.any_cons,di,iV]
  by_cases h:p.1=k<;>simp[h]
theorem vG{kvs:List (κ×β)}{k a:κ}{v:β}:b_ (cm kvs k v) a=if a=k then some v else b_ kvs a:=by
 unfold cm;rw[iV];cases h:b_ _ k with
 |none=>
  rw[if_neg (by simp),qL]
  grind
 |some d=>
  rw[Option.isSome_some,if_pos rfl,qK]
  grind
theorem ze{kvs:List (κ×β)}{k:κ}{v:β}:(cm kvs k v).length<=kvs.length+1:=by
 unfold cm;split<;>simp
end
def tB(F:List D->Out Rs):SM:=(ak (aF 8 (mN (bF F) (ae (aa 0) (ae (m2 (aY .Add) (m2 (aY .Add) (aa 1) (ai (.int 1))) (mN (a8 .len) (ae (aa 4) ah))) (ae (m2 (aY .Mult) (ai (.int 2)) (aa 5)) ah)))))
 (ak (dW (aa 4) (mN jU (ae (aa 6) (ae (aa 7) ah))) (m2 aM (mN bh (ae (ai (.int 1)) (ae (ai (.int 2)) (ae (ai (.int 0)) ah)))) (mN (a8 .min) (ae (ai (.int 2)) (ae (aa 8) ah)))))
 ao))
theorem fF(h:(g.map D.str)[b]?=some m):∃x,g[b]?=some x/\m=.str x:=by
 rw[List.getElem?_map]at h;obtain⟨x,a,c⟩:=Option.map_eq_some_iff.mp h;exact⟨x,a,c.symm⟩
theorem nz(b:q.all Hh=true)(h:L q []=.ok m a)(c:fJ m=true):pureOf L q=.ok (false,m):=by
 unfold pureOf
 grind
def Ju:SM:=(ak (aF 3 (m2 (aY .FloorDiv) (aa 3) (ai (.int 840)))) ao)
def Jv:SM:=(dR (iN (m2 (aH .Eq) (m2 (aY .Mod) (aa 0) (ai (.int 2))) (ai (.int 1))) (m2 (aH .Gt) (aa 0) (m2 (aY .Pow) (ai (.int 10)) (ai (.int 18)))))
 (ak (dw (cV 4) (cU (ae (aa 1) ah)) Ju)
 (ak (bS (m2 (aY .Mod) (m2 (aY .Mod) (aa 3) (ai (.int 840))) (aa 2)))
 ao))
 ao)
def QY:SM:=(ak (aF 5 (mN bh (ae (ai (.int 48271)) (ae (ai (.int 69621)) (ae (ai (.int 40692)) (ae (ai (.int 39373)) (ae (ai (.int 16807)) (ae (ai (.int 30323)) (ae (ai (.int 21403)) (ae (ai (.int 62089)) (ae (ai (.int 45742)) (ae (ai (.int 37907)) (ae (ai (.int 53611)) (ae (ai (.int 28411)) (ae (ai (.int 59393)) (ae (ai (.int 33391)) ah))))))))))))))))
 (ak (aF 6 (m2 (aY .Mod) (m2 (aY .Mult) (m2 (aY .Add) (m2 (aY .Mod) (aa 0) (ai (.int 1000000007))) (ai (.int 11))) (m2 aM (aa 5) (m2 (aY .Mod) (aa 1) (ai (.int 14))))) (ai (.int 2147483629))))
 (ak (aF 7 (m2 (aY .Mod) (m2 (aY .Mult) (aa 6) (m2 (aY .Add) (aa 6) (aa 1))) (ai (.int 1999999973))))
 (ak (bS (m2 (aY .Mod) (m2 (aY .FloorDiv) (m2 (aY .Mod) (m2 (aY .Mult) (aa 7) (ai (.int 16807))) (ai (.int 998244353))) (ai (.int 1000))) (aa 2)))
 ao))))
def nB:SM:=
 (ak (aF 3 (m2 (aY .FloorDiv) (aa 0) (ai (.int 2))))
 (ak Jv QY))
@[simp] theorem Jw:aY .Pow m X a=gO (fQ .Pow) m X a:=rfl
variable{M0:Int}
theorem CH{m:Int}(C:0<=M0)(s:M0<100000)(f:0<m):∃r,0<=r/\r<m/\pureOf (bT 8 3 nB) [.int P,.int M0,.int m]=.ok (false,.int r):=by
 have g:∃r b,0<=r/\r<m/\bT 8 3 nB [.int P,.int M0,.int m] []=.ok (.int r) b:=by
  rw[bj (by rfl)]
  have t:a7 8 [D.int P,.int M0,.int m]=[some (.int P),some (.int M0),some (.int m),none,none,none,none,none]:=rfl;rw[t];unfold nB;have u:(aF 3 (m2 (aY .FloorDiv) (aa 0) (ai (.int 2)))) [some (.int P),some (.int M0),some (.int m),none,none,none,none,none] []=.nx [some (.int P),some (.int M0),some (.int m),some (.int (P / 2)),none,none,none,none] []:=by simp
  rw[ag,u,aD,ag]
  by_cases j:P%2=1/\1000000000000000000<P
  .have k:l9 M0=true:=ed (by omega) (by omega)
   have l:∃x a,gm (cV 4) (.ints 0 M0.toNat) Ju fuel 0 [some (.int P),some (.int M0),some (.int m),some (.int (P / 2)),none,none,none,none] []=.nx [some (.int P),some (.int M0),some (.int m),some (.int x),a,none,none,none] []:=by
    refine bX (R:=λr=>∃x a,r=.nx [some (.int P),some (.int M0),some (.int m),some (.int x),a,none,none,none] []) (q:=intsFrom 0 M0.toNat) (λ_ n o=>∃x a,n=[some (.int P),some (.int M0),some (.int m),some (.int x),a,none,none,none]/\o=[]) (λ_ _ _ _=>rfl) ?_ ?_ fuel 0 _ _ (by rw[du];unfold fuel;omega) (Nat.zero_le _) ⟨_,_,rfl,rfl⟩
    .rintro i d n o p ⟨x,a,rfl,rfl⟩
     refine⟨_,rfl,?_⟩;have e:Ju [some (.int P),some (.int M0),some (.int m),some (.int x),some d,none,none,none] []=.nx [some (.int P),some (.int M0),some (.int m),some (.int (x / 840)),some d,none,none,none] []:=by simp[Ju]
     show Ee (Ju [some (.int P),some (.int M0),some (.int m),some (.int x),some d,none,none,none] []) _ _
     rw[e];exact⟨_,_,rfl,rfl⟩
    .rintro n o ⟨x,a,rfl,rfl⟩
     exact⟨x,a,rfl⟩
   obtain⟨x,a,l⟩:=l;refine⟨x%840%m,[],Int.emod_nonneg _ (by omega),Int.emod_lt_of_pos _ f,?_⟩
   simp[Jv,j.1,j.2,k,l,f]
  .obtain⟨d,p,e⟩:=Fh (xs:=[D.int 48271,.int 69621,.int 40692,.int 39373,.int 16807,.int 30323,.int 21403,.int 62089,.int 45742,.int 37907,.int 53611,.int 28411,.int 59393,.int 33391]) (P:=M0%14) (Int.emod_nonneg _ (by omega)) (Int.emod_lt_of_pos _ (by omega))
   obtain⟨v,rfl⟩:∃v,d=.int v:=by
    simp only[List.mem_cons,List.not_mem_nil,or_false]at p;rcases p with h|h|h|h|h|h|h|h|h|h|h|h|h|h<;>exact⟨_,h⟩
   have w:([]++[Cell.lst [D.int 48271,.int 69621,.int 40692,.int 39373,.int 16807,.int 30323,.int 21403,.int 62089,.int 45742,.int 37907,.int 53611,.int 28411,.int 59393,.int 33391]]:aJ)[0]?=some _:=rfl;have E:=cq w e;have F:kP (P%1000000007+11)=true:=iF (by omega) (by omega)
   have G:kP ((P%1000000007+11)*v%2147483629)=true:=iF (by omega) (by omega)
   have H:kP ((P%1000000007+11)*v%2147483629*((P%1000000007+11)*v%2147483629+M0)%1999999973)=true:=iF (by omega) (by omega)
   have rI:Jv [some (.int P),some (.int M0),some (.int m),some (.int (P / 2)),none,none,none,none] []=.nx [some (.int P),some (.int M0),some (.int m),some (.int (P / 2)),none,none,none,none] []:=by
    by_cases c:P%2=1
    .have y:¬ 1000000000000000000<P:=λz=>j ⟨c,z⟩
     simp[Jv,c,y]
    .have A:(P%2==1)=false:=by simpa using c
     simp[Jv,A]
   refine⟨(P%1000000007+11)*v%2147483629*((P%1000000007+11)*v%2147483629+M0)%1999999973*16807%998244353 / 1000%m,([]++[Cell.lst [D.int 48271,.int 69621,.int 40692,.int 39373,.int 16807,.int 30323,.int 21403,.int 62089,.int 45742,.int 37907,.int 53611,.int 28411,.int 59393,.int 33391]]:aJ),Int.emod_nonneg _ (by omega),Int.emod_lt_of_pos _ f,?_⟩
   rw[rI,aD];have I:(aF 5 (mN bh (ae (ai (.int 48271)) (ae (ai (.int 69621)) (ae (ai (.int 40692)) (ae (ai (.int 39373)) (ae (ai (.int 16807)) (ae (ai (.int 30323)) (ae (ai (.int 21403)) (ae (ai (.int 62089)) (ae (ai (.int 45742)) (ae (ai (.int 37907)) (ae (ai (.int 53611)) (ae (ai (.int 28411)) (ae (ai (.int 59393)) (ae (ai (.int 33391)) ah)))))))))))))))) [some (.int P),some (.int M0),some (.int m),some (.int (P / 2)),none,none,none,none] []=.nx [some (.int P),some (.int M0),some (.int m),some (.int (P / 2)),none,some (.ref 0),none,none] _:=rfl;unfold QY
   simp_all
 obtain⟨r,b,B,c,e⟩:=g;exact⟨r,B,c,nz rfl e rfl⟩
theorem FI(I:Nat->List D->aJ->Prop)(g:∀i a b,I i a b->eh v4 b=some q)(k:∀i d a b,q[i]?=some d->I i a b->∃y ax,ζ ([some d]++B) b=.ok y ax/\I (i+1) (a++[y]) ax):
  ∀(f i:Nat) (a:List D) b,I i a b->q.length - i<f->i<=q.length->a.length+q.length<=100000+i->∃e ax,tP true s ζ 0 B v4 f i a b=.ok e ax/\I q.length e ax:=by
 intro f
 induction f with
 |zero=>simp
 |succ f l=>
  intro i a b h m n o;simp only[tP,g i _ b h]
  by_cases c:i<q.length
  .rw[(List.getElem?_eq_getElem c)]
   have j:oN 0 q[i]=some _:=rfl;have p:gQ true s ([some q[i]]++B) b=.ok _ b:=rfl;simp only[j];rw[if_pos (aT (by omega))]
   grind
  grind
theorem kA(I:Nat->List D->aJ->Prop)(k:A1 B a=.ok v4 η)(f:I 0 [] η)(g:∀i b a,I i b a->eh v4 a=some q)(h:∀i d b a,q[i]?=some d->I i b a->∃y η,s ([some d]++dn J B) a=.ok y η/\I (i+1) (b++[y]) η)(l:q.length<=90000):
  ∃e c,bC s true ζ A1 0 J B a=.ok (.ref c.length) (c++[.lst e])/\I q.length e c:=by
 obtain⟨e,c,m,j⟩:=FI (s:=ζ) I g h fuel 0 [] _ f (by unfold fuel;omega) (Nat.zero_le _) (by simp;omega)
 refine⟨e,_,?_,j⟩;unfold bC
 simp_all
def QZ(b:aJ)(j:Nat)(a:List Str):Prop:=b[j]?=some (.lst (a.map .str))
def jy(a:aJ)(b:List Nat)(rs:List (List Str)):Prop:=aG (QZ a) b rs
structure Rw(Ω:aJ)(k:Nat)(js:List Nat)(rs:List (List Str)):Prop where
 ce:Ω[k]?=some (.lst (js.map .ref))
 al:jy Ω js rs
theorem jy.keep{b ax:aJ}:∀{a:List Nat}{rs:List (List Str)},jy b a rs->∀{fp:List Nat},af fp b ax->(∀j∈a,j∉fp)->jy ax a rs
 |_,_,.nil,_,_,_=>.nil
 |_,_,.cons r t,fp,K,h=>.cons (K.get _ _ r (h _ (by simp))) (jy.keep t K λj c=>h j (by simp[c]))
theorem Rw.keep{a ax:aJ}{k:Nat}{b:List Nat}{rs:List (List Str)}(R:Rw a k b rs)(K:af [] a ax):Rw ax k b rs:=⟨K.get _ _ R.ce (by simp),R.al.keep K (by simp)⟩
theorem Rw.ud(R:Rw a b J S)(K:af B7 a η)(c:b∉B7)(d:∀j∈J,j∉B7):Rw η b J S:=⟨K.get _ _ R.ce c,R.al.keep K d⟩
theorem jy.len(h:jy a J S):S.length=J.length:=aG.length h
theorem Rw.len{b:aJ}{k:Nat}{a:List Nat}{rs:List (List Str)}(R:Rw b k a rs):rs.length=a.length:=R.al.len
theorem jy.at(h:jy a J S)(c:S[b]?=some g):∃j,J[b]?=some j/\a[j]?=some (.lst (g.map .str)):=aG.Fl (R:=QZ a) h c
theorem jy.at'(h:jy a J S)(d:J[b]?=some t):∃c,S[b]?=some c/\a[t]?=some (.lst (c.map .str)):=aG.get h d
theorem jy.lt(h:jy a J S):∀j∈J,j<a.length:=λj b=>by
 obtain⟨i,c⟩:=List.mem_iff_getElem?.mp b;obtain⟨d,_,e⟩:=h.at' c;exact bc e
theorem jz(h:(J.map D.ref)[b]?=some m):∃j,J[b]?=some j/\m=.ref j:=by
 rw[List.getElem?_map]at h;obtain⟨x,a,c⟩:=Option.map_eq_some_iff.mp h;exact⟨x,a,c.symm⟩
def LQ:SM:=(ak (dR (m2 (aH .In) (aa 1) (dG (aa 3) false (ai (.int 1)) true (ai .non))) (ak (bS (aa 2)) ao) ao) ao)
def sr:SM:=(ak (dw (dS [2,3]) (jV (aa 0)) LQ) (ak (bS (ai .non)) ao))
theorem su(h:a[b]?=some (.lst (g.map .str))):k9 (.ref b) (some 1) none a=.ok (.ref a.length) (a++[.lst (g.tail.map .str)]):=by
 have e:dk (g.map D.str) (some 1) none=g.tail.map .str:=by
  simp
 simp only[k9,aA h,oX,e]
variable{υ:Nat}
theorem FJ(h:a[t]?=some (.lst (g.map .str))):∃ax,af [] a ax/\LQ [some (.ref b),some (.str d),some (.int υ),some (.ref t)] a=if d∈g.tail then .rt (.int υ) ax else .nx [some (.ref b),some (.str d),some (.int υ),some (.ref t)] ax:=by
 have e:=su h;have i:(a++[Cell.lst (g.tail.map .str)])[a.length]?=some _:=aq;have j:af [] a (a++[Cell.lst (g.tail.map .str)]):=af.app;generalize a++[Cell.lst _]=k at *;have f:=ic (d:=d) i;refine⟨_,j,?_⟩
 by_cases c:d∈g.tail
 .rw[if_pos c,decide_eq_true c]at *
  simp[LQ,e,f,-oZ]
 .rw[if_neg c,decide_eq_false c]at *
  simp[LQ,e,f,-oZ]
theorem FK(R:Rw a b J S)(E:S.length<=1000):∃c ax,bT 4 2 sr [.ref b,.str d] a=.ok c ax/\af [] a ax/\((c=.non/\∀r∈S,d∉r.tail)\/∃i:Nat,c=.int i/\∃r,S[i]?=some r/\d∈r.tail):=by
 rw[bj (by rfl)]
 have z:a7 4 [D.ref b,.str d]=[some (.ref b),some (.str d),none,none]:=rfl;rw[z];have A:=R.len
 have p:jV (aa 0) [some (.ref b),some (.str d),none,none] a=.ok (.IY (.ref b)) a:=by
  unfold jV;simp[aA R.ce]
 unfold sr;rw[ag,cR,p,cM]
 refine bX (R:=λr=>∃c ax,gR (sq r _)=.ok c ax/\af [] a ax/\((c=.non/\∀r∈S,d∉r.tail)\/∃i:Nat,c=.int i/\∃r,S[i]?=some r/\d∈r.tail)) (q:=dq 0 (J.map .ref))
  (λi m f=>∃s t,m=[some (.ref b),some (.str d),s,t]/\(∀r∈S.take i,d∉r.tail)/\af [] a f) ?_ ?_ ?_ fuel 0 _ _ (by rw[fy];unfold fuel;simp;omega) (Nat.zero_le _) ⟨none,none,rfl,by simp,af.refl⟩
 .rintro i m f ⟨_,_,_,_,K⟩
  show(gg f (.ref b)).map (dq 0)=_
  rw[aI,aA (R.keep K).ce];rfl
 .rintro i c m f B ⟨s,t,rfl,n,K⟩
  obtain⟨F,u,rfl⟩:=iD _ 0 i c B;obtain⟨j,C,rfl⟩:=jz u;obtain⟨k,x,l⟩:=(R.keep K).al.at' C;rw[Nat.zero_add];refine⟨[some (.ref b),some (.str d),some (.int i),some (.ref j)],rfl,?_⟩;obtain⟨w,y,e⟩:=FJ (b:=b) (d:=d) (υ:=i) l;rw[e]
  by_cases o:d∈k.tail
  .rw[if_pos o]
   exact⟨.int i,w,rfl,K.trans y,.inr ⟨i,rfl,k,x,o⟩⟩
  .rw[if_neg o]
   refine⟨_,_,rfl,λr g=>?_,K.trans y⟩
   rw[List.take_succ,x]at g;simp at g;rcases g with h|rfl
   .exact n r h
   .exact o
 .rintro m f ⟨s,t,rfl,n,K⟩
  rw[fy,List.length_map,←A,List.take_length]at n;exact⟨.non,f,rfl,K,.inl ⟨rfl,n⟩⟩
def Jx(a:a_):SM:=(ak (dR (iN (aa 1) (m2 (aH .Is) (mN (aX a) (ae (aa 0) (ae (m2 aM (aa 1) (ai (.int 0))) ah))) (ai .non))) (ak (bS (m2 aM (aa 1) (ai (.int 0)))) ao) ao) ao)
def zf(a:a_):SM:=(ak (dw (cV 1) (bf (aa 0)) (Jx a)) (ak (bS (ai .non)) ao))
theorem iW(h:a[b]?=some (.lst q)):iJ a (.ref b)=some (!q.isEmpty):=by simp only[iJ,h]
theorem FL(R:Rw a b J S)(o:S.length<=1000)(h:a[t]?=some (.lst (g.map .str))):∃ax,af [] a ax/\Jx (bT 4 2 sr) [some (.ref b),some (.ref t)] a=match freeOf S g with|some m=>.rt (.str m) ax|none=>.nx [some (.ref b),some (.ref t)] ax:=by
 cases g with
 |nil=>
  refine⟨a,af.refl,?_⟩;simp[Jx,freeOf,(iW h)]
 |cons m f=>
  have j:=iW h;have c:aM _ (.int 0) a=.ok _ a:=cq h (L2.cJ rfl);obtain⟨d,p,k,l,q⟩:=FK (d:=m) R o;have e:aM _ (.int 0) _=.ok _ _:=cq (l.get _ _ h (by simp)) (L2.cJ rfl)
  refine⟨_,l,?_⟩;rcases q with ⟨rfl,n⟩|⟨i,rfl,r,s,n⟩
  .rw[de (by grind)]
   simp[Jx,j,c,k,e]
  .rw[dc ⟨r,by grind,n⟩]
   simp[Jx,j,c,k]
theorem FN(R:Rw a b J S)(u:S.length<=1000):∃ax,bT 2 1 (zf (bT 4 2 sr)) [.ref b] a=.ok (Fi (free S)) ax/\af [] a ax:=by
 rw[bj (by rfl)]
 have w:a7 2 [D.ref b]=[some _,none]:=rfl;rw[w];have x:=R.len;have l:bf (aa 0) [some (.ref b),none] a=.ok (.seq (.ref b)) a:=by simp[aU (by rw[aI,aA R.ce])]
 unfold zf;rw[ag,cR,l,cM]
 refine bX (R:=λr=>∃ax,gR (sq r _)=.ok _ ax/\af [] a ax) (q:=J.map .ref)
  (λi h c=>∃n,h=[some _,n]/\(S.take i).findSome? (freeOf S)=none/\af [] a c) ?_ ?_ ?_ _ 0 _ _ (by unfold fuel;simp;omega) (Nat.zero_le _) ⟨_,rfl,rfl,af.refl⟩
 .rintro i h c ⟨_,_,_,K⟩
  rw[cg,aI,aA (R.keep K).ce]
 .rintro i d h c s ⟨n,rfl,o,K⟩
  obtain⟨j,y,rfl⟩:=jz s;have R2:=R.keep K;obtain⟨f,k,g⟩:=R2.al.at' y;refine⟨[some _,some _],rfl,?_⟩;obtain⟨z,t,e⟩:=FL R2 u g;rw[e];have A:S.take (i+1)=S.take i++[f]:=by rw[List.take_succ,k];rfl
  cases B:freeOf S _ with
  |some m=>
   refine⟨_,?_,K.trans t⟩
   have:free S=some m:=by
    unfold free
    have s:S=S.take i++(f::S.drop (i+1)):=by
     have p:=(List.getElem?_eq_some_iff.mp k).1;rw[List.getElem?_eq_getElem p]at k;cases k
     simp_all
    grind
   rw[this];rfl
  |none=>
   refine⟨_,rfl,?_,K.trans t⟩
   grind
 .rintro h c ⟨n,rfl,o,K⟩
  rw[List.length_map,←x,List.take_length]at o;refine⟨_,?_,K⟩;unfold free;rw[o];rfl
open PySem.Spec PyProof.Rows
theorem CI:dk q none (some (b:Int))=q.take b:=rX q b
theorem o_(h:a[b]?=some (.lst (g.map .str))):k9 (.ref b) none (some (t:Int)) a=.ok (.ref a.length) (a++[.lst ((g.take t).map .str)]):=by
 simp only[k9,aA h,oX,CI,List.map_take]
variable{u3:Ty}
@[simp] theorem LR:oK u3 (.str d) a=.ok (.bl (u3==.str)) a:=rfl
@[simp] theorem LS:oK u3 .non a=.ok (.bl false) a:=rfl
@[simp] theorem Jy:a8 .len [.tup q] a=.ok (.int q.length) a:=rfl
theorem FO(I:Nat->aJ->Prop)(l:∀i b,I i b->eh v4 b=some q)(m:∀i d b,q[i]?=some d->I i b->∃ax,gQ y s ([some d]++B) b=.ok (F7 d) ax/\I (i+1) ax/\(F7 d=true->ζ ([some d]++B) ax=.ok (E7 d) ax)):
  ∀(f i:Nat) (a:List D) (b:aJ),q.length - i<f->i<=q.length->a.length+q.length<=100000+i->I i b->∃ax,tP y s ζ 0 B v4 f i a b=.ok (a++((q.drop i).filter F7).map E7) ax/\I q.length ax:=by
 intro f
 induction f with
 |zero=>simp
 |succ f g=>
  intro i a b u w x h;simp only[tP,l i b h]
  by_cases c:i<q.length
  .have j:=List.getElem?_eq_getElem c
   rw[j];have n:oN 0 q[i]=some _:=rfl;simp only[n];obtain⟨o,p,k,z⟩:=m i _ b j h;rw[if_pos (aT (by omega)),p,List.drop_eq_getElem_cons c]
   cases A:F7 _ with
   |true=>
    obtain⟨e,r,t⟩:=g _ (a++[E7 q[i]]) _ (by omega) c (by grind) k
    grind
   |false=>
    obtain⟨e,r,t⟩:=g _ a _ (by omega) c (by omega) k
    grind
  grind
theorem CJ(I:Nat->aJ->Prop)(c:A1 B a=.ok v4 η)(f:∀i a,I i a->eh v4 a=some q)(g:∀i d a,q[i]?=some d->I i a->∃η,gQ y ζ ([some d]++dn J B) a=.ok (F7 d) η/\I (i+1) η/\(F7 d=true->s ([some d]++dn J B) η=.ok (E7 d) η))(k:q.length<=90000)(j:I 0 η):
  ∃b,bC s y ζ A1 0 J B a=.ok (.ref b.length) (b++[.lst ((q.filter F7).map E7)])/\I q.length b:=by
 unfold bC;rw[c];dsimp only;obtain⟨b,e,h⟩:=FO I f g fuel 0 [] _ (by unfold fuel;omega) (Nat.zero_le _) (by simp;omega) j
 refine⟨_,?_,h⟩;rw[e];rfl
variable{Y:List Str}
theorem pa(h:a[b]?=some (.lst (g.map .str)))(c:a[t]?=some (.lst (Y.map .str))):aH .Eq (.ref b) (.ref t) a=.ok (.bl (decide (g=Y))) a:=by
 rw[t_,kx,eA h,eA c]
 simp_all
theorem gH(h:a[b]?=some (.lst (g.map .str)))(c:a[t]?=some (.lst (Y.map .str))):aH .NotEq (.ref b) (.ref t) a=.ok (.bl (!decide (g=Y))) a:=by
 rw[CA,kx,eA h,eA c]
 simp_all
theorem FP(h:a[b]?=some (.lst (g.map .str))):k9 (.ref b) (some (t:Int)) none a=.ok (.ref a.length) (a++[.lst ((g.drop t).map .str)]):=by
 simp only[k9,aA h,oX,yo,List.map_drop]
theorem jy.snoc(h:jy a J S)(c:a[b]?=some (.lst (g.map .str))):jy a (J++[b]) (S++[g]):=aG.append h (.cons c .nil)
theorem cw(h:a[b]?=some (.lst q)):a8 .list [.ref b] a=.ok (.ref a.length) (a++[.lst q]):=by
 show i9 (jK [.ref b] a) (la [.ref b] a)=_
 simp only[jK,aI,aA h];rfl
theorem lH{f:List Str->List Str}{P:Nat->Prop}(w:A1 B a=.ok (.seq (.ref b)) a)(R:Rw a b J S)(F:S.length<=1000)(y:∀j l k,af [] a k->j∈J->l∈S->k[j]?=some (.lst (l.map .str))->∃n c,s ([some (.ref j)]++dn B7 B) k=.ok (.ref n) c/\af [] k c/\c[n]?=some (.lst ((f l).map .str))/\P n):
  ∃g c,bC s true ζ A1 0 B7 B a=.ok (.ref c.length) (c++[.lst (g.map .ref)])/\af [] a c/\jy c g (S.map f)/\∀j∈g,P j:=by
 have z:=R.len
 obtain⟨G,c,e,g,rfl,p,A,q⟩:=kA (λi m c=>∃g,m=g.map .ref/\jy c g ((S.take i).map f)/\af [] a c/\∀j∈g,P j) w ⟨[],rfl,.nil,af.refl,by simp⟩
  (λi m c h=>by
   obtain⟨_,_,_,K,_⟩:=h;rw[cg,aI,aA (R.keep K).ce])
  (λi d m k C h=>by
   obtain⟨g,rfl,p,K,q⟩:=h;obtain⟨j,r,rfl⟩:=jz C;obtain⟨l,t,o⟩:=(R.keep K).al.at' r;obtain⟨n,c,e,u,D,H⟩:=y j l k K (List.mem_of_getElem? r) (List.mem_of_getElem? t) o;refine⟨_,c,e,g++[n],by simp,?_,K.trans u,?_⟩
   .rw[List.take_succ,t,List.map_append]
    exact(p.keep u (by simp)).snoc D
   .intro x E
    rcases List.mem_append.mp E with h|h
    .simp_all
    simp_all) (by simp;omega)
 refine⟨g,c,e,A,?_,q⟩;rwa[List.length_map,←z,List.take_length]at p
def zg(i:Nat):EM:=bC (mN (a8 .list) (ae (aa 0) ah)) true (ai .non) (bf (aa i)) 0 []
theorem CK(l:B[t]?=some (some (.ref b)))(R:Rw a b J S)(m:S.length<=1000):∃c d ax,zg t B a=.ok (.ref d) ax/\af [] a ax/\Rw ax d c S/\(∀j∈c,a.length<=j)/\a.length<=d/\d∉c:=by
 have f:bf (aa t) B a=.ok (.seq (.ref b)) a:=by
  rw[cf,oW,l];exact aU (by rw[aI,aA R.ce])
 obtain⟨c,n,e,K,g,o⟩:=lH (s:=mN (a8 .list) (ae (aa 0) ah)) f R m (λj i k K _ _ h=>by
  refine⟨_,k++[.lst (i.map _)],?_,af.app,aq,K.len⟩;have:=cw h
  simp_all)
 rw[List.map_id']at g;refine⟨_,_,_,e,K.trans af.app,⟨aq,g.keep (fp:=[]) af.app (by simp)⟩,o,K.len,λh=>?_⟩
 have:=g.lt _ h;omega
def stC:EM:=(Bu (m2 (aH .Eq) (dG (aa 0) true (ai .non) false (ai (.int 1))) (mN bh (ae (aa 1) ah))) (dG (aa 0) false (ai (.int 1)) true (ai .non)) (aa 0))
theorem FQ(h:a[b]?=some (.lst (g.map .str))):k9 (.ref b) none (some 1) a=.ok (.ref a.length) (a++[.lst ((g.take 1).map .str)]):=o_ h
theorem FR(h:a[b]?=some (.lst (g.map .str))):∃e ax,stC [some (.ref b),some (.str d)] a=.ok (.ref e) ax/\af [] a ax/\ax[e]?=some (.lst ((cK d g).map .str))/\(e=b\/a.length<=e):=by
 have l:=FQ h;have m:(a++[Cell.lst ((g.take 1).map .str)])[a.length]?=some _:=aq;have k:af [] a (a++[Cell.lst ((g.take 1).map .str)]):=af.app;generalize a++[Cell.lst _]=c at *;have n:(c++[Cell.lst [.str d]])[c.length]?=some (.lst ([d].map _)):=aq;have f:af [] _ (c++[Cell.lst [.str d]]):=af.app;have o:=f.get _ _ (k.get _ _ h (by simp)) (by simp)
 have i:=pa (f.get _ _ m (by simp)) n
 have p:(m2 (aH .Eq) (dG (aa 0) true (ai .non) false (ai (.int 1))) (mN bh (ae (aa 1) ah))) [some (.ref b),some (.str d)] a=.ok (.bl (decide (g.take 1=[d]))) (c++[Cell.lst [.str d]]):=by
  simp[l,aT,i,-t_]
 generalize c++[Cell.lst _]=j at *;have K:=k.trans f;unfold stC;rw[sm,p,eN,dN,fD,aw]
 by_cases i:g.take 1=[d]
 .rw[if_pos (by simp_all)]
  refine⟨_,j++[.lst (g.tail.map .str)],?_,K.trans af.app,?_,.inr K.len⟩
  .simp[(su o)]
  .unfold cK;rw[if_pos i];exact aq
 .rw[if_neg (by simp_all)]
  refine⟨b,_,by simp,K,?_,.inl rfl⟩
  unfold cK;simp_all
def FnAt(d:a_):Prop:=∀b k e c,Rw b k e c->c.length<=1000->∃a,d [.ref k] b=.ok (Fi (free c)) a/\af [] b a
theorem Jz:FnAt (bT 2 1 (zf (bT 4 2 sr))):=λ_ _ _ _ R a=>FN R a
def tM:EM:=(mN (a8 .any) (ae (aa 1) ah))
def stM:EM:=(bC stC true (ai .non) (bf (aa 1)) 0 [3])
def bM(st:SM)(a:a_):SM:=(ak (aF 3 (mN (aX a) (ae (aa 1) ah)))
 (ak (dR (m2 (aH .Is) (aa 3) (ai .non))
 (ak st
 ao)
 ao)
 (ak (cF (dm lP c9 (aa 2) (ae (aa 3) ah)))
 (ak (aF 1 stM)
 ao))))
def CL(st:SM)(a:a_):SM:=
 (ak (aF 1 (zg 0))
 (ak (aF 2 (mN bh ah))
 (ak (jt tM (bM st a))
 (ak (bS (aa 2))
 ao))))
theorem ue(R:Rw a b J S):a8 .any [.ref b] a=.ok (.bl ((S.map λr=>!r.isEmpty).any id)) a:=by
 show oH _ _ a=_
 unfold oH;have:bN (fk a 8) [.ref b]=some [LL S]:=by simp[(lG (t:=6) R.ce R.al)]
 have:yy .any [LL S]=.ok (false,.bl ((S.map λr=>!r.isEmpty).any id)):=by simp[LL,any_rows,-List.any_map]
 simp_all
variable{Ψ:Option D}
theorem JA(H:FnAt L)(R:Rw a b J S)(D:S.length<=1000)(I:free S=some d)(M:a[t]?=some (.lst (g.map .str)))(o:t≠b)(n:t∉J)(hp:g.length<=900):
  ∃p i ax,bM Θ L [some m,some (.ref b),some (.ref t),Ψ] a=.nx [some m,some (.ref p),some (.ref t),some (.str d)] ax/\Rw ax p i (S.map (cK d))/\ax[t]?=some (.lst ((g++[d]).map .str))/\t≠p/\t∉i/\af [t] a ax:=by
 obtain⟨c,E,q⟩:=H a b J S R D;rw[I]at E;have r:=q.get _ _ M (by simp)
 have N:=R.keep q;have u:=ib (m:=.str d) r (by simp;omega)
 have O:=en r;have F:af [t] c (c.set t (.lst (g.map .str++[.str d]))):=af.set (by simp)
 have G:(c.set t (.lst (g.map .str++[.str d])))[t]?=some (.lst ((g++[d]).map .str)):=by rw[aK r];simp
 generalize c.set t (.lst (g.map .str++[.str d]))=k at *;have R2:Rw k b J S:=N.ud F (by simpa using Ne.symm o) (λj w h=>n (by rw[←List.mem_singleton.mp h];exact w))
 have x:bf (aa 1) [some m,some (.ref b),some (.ref t),some (.str d)] k=.ok (.seq (.ref b)) k:=by
  rw[cf];exact aU (by rw[aI,aA R2.ce])
 have ql:=bc G
 obtain⟨i,l,Q,y,T,A⟩:=lH (s:=stC) (ζ:=ai .non) (B7:=[3]) (f:=cK d) (P:=λj=>j≠t) x R2 D (λj U l K w _ h=>by
  obtain⟨V,B,e,X,A,h5⟩:=FR (d:=d) h;refine⟨V,B,e,X,A,?_⟩;rcases h5 with rfl|h5
  .exact λz=>n (z▸w)
  .have:=K.len
   omega)
 have Y:=y.len;refine⟨l.length,i,l++[.lst (i.map .ref)],?_,⟨aq,T.keep (fp:=[]) af.app (by simp)⟩,cS (y.get _ _ G (by simp)),by omega,λh=>A t h rfl,?_⟩
 .have C:stM _ k=.ok (.ref l.length) (l++[.lst (i.map .ref)]):=Q
  have Z:(aF 3 (mN (aX L) (ae (aa 1) ah))) [some m,some (.ref b),some (.ref t),Ψ] a=.nx [some m,some (.ref b),some (.ref t),some (.str d)] c:=by simp[E,Fi]
  have r2:(dR (m2 (aH .Is) (aa 3) (ai .non)) (ak Θ ao) ao) [some m,some (.ref b),some (.ref t),some (.str d)] c=.nx [some m,some (.ref b),some (.ref t),some (.str d)] c:=by simp
  have r3:(cF (dm lP c9 (aa 2) (ae (aa 3) ah))) [some m,some (.ref b),some (.ref t),some (.str d)] c=.nx [some m,some (.ref b),some (.ref t),some (.str d)] k:=by
   rw[bQ,dY (m:=.ref t) (η:=c) (by simp) O]
   simp[u]
  unfold bM;rw[ag,Z,aD,ag,r2,aD,ag,r3,aD,ag,cb,C];rfl
 .exact((dz.up q).trans F).trans (dz.up (y.trans af.app))
theorem zh(t:FnAt L)(M:Mg S g):
  ∀(b:aJ) (c:List Str) (q k:Nat) (i:List Nat) (d:Option D) (a:Nat),Rw b k i S->b[q]?=some (.lst (c.map .str))->q≠k->q∉i->S.length<=1000->c.length+g.length<=900->g.length<a ->
   ∃j f ax,ei tM (bM Θ L) a [some m,some (.ref k),some (.ref q),d] b=.nx [some m,j,some (.ref q),f] ax/\ax[q]?=some (.lst ((c++g).map .str))/\af [q] b ax:=by
 induction M with
 |@done S h=>
  intro b c q k i d a R r _ _ _ _ s;obtain⟨a,rfl⟩:∃k,a=k+1:=⟨a - 1,by grind⟩
  refine⟨some (.ref k),d,b,?_,by simp_all,af.refl⟩
  have e:=ue R;rw[any_false h]at e;have l:tM [some m,some (.ref k),some (.ref q),d] b=.ok (.bl false) b:=by simp[tM,e]
  simp only[ei,l];rfl
 |@step S n g h u _ w=>
  intro b c q k i d a R r o p x y s;obtain⟨a,rfl⟩:∃k,a=k+1:=⟨a - 1,by omega⟩
  rw[List.length_cons]at y s;obtain⟨z,A,B,K,C,E,F,G,H⟩:=JA (Θ:=Θ) t (m:=m) (Ψ:=d) R x u r o p (by omega)
  obtain⟨j,f,I,N,O,J⟩:=w _ _ q z _ (some (.str n)) a C E F G (by grind) (by simp;omega) (by omega)
  refine⟨j,f,_,?_,by grind,H.trans J⟩
  have e:=ue R;rw[any_true h]at e;have l:tM [some m,some (.ref k),some (.ref q),d] b=.ok (.bl true) b:=by simp[tM,e]
  simp only[ei,l]
  simp_all
def CM(d:a_):Prop:=∀(b:aJ) (k:Nat) (e:List Nat) (c:List (List Str)) (o:List Str),Rw b k e c->Mg c o->c.length<=1000->o.length<=900->∃q a,d [.ref k] b=.ok (.ref q) a/\a[q]?=some (.lst (o.map .str))/\b.length<=q/\af [] b a
theorem JB(g:FnAt L):CM (bT 4 1 (CL Θ L)):=by
 intro i k u w o R M e x;rw[bj (by rfl)]
 have j:a7 4 [D.ref k]=[some _,none,none,none]:=rfl;rw[j];obtain⟨l,b,a,y,c,d,z,A,C⟩:=CK (B:=[some _,none,none,none]) (t:=0) rfl R e;have m:(aF 1 (zg 0)) [some (.ref k),none,none,none] i=.nx [some (.ref k),some (.ref b),none,none] a:=by simp_all
 have f:af [] _ (a++[Cell.lst []]):=af.app;have n:(aF 2 (mN bh ah)) [some (.ref k),some (.ref b),none,none] a=.nx [some (.ref k),some (.ref b),some (.ref a.length),none] (a++[Cell.lst []]):=by rfl
 have E:=bc d.ce;have F:=d.al.lt;obtain⟨G,H,p,q,r,s⟩:=zh g M _ [] _ b _ _ fuel (d.keep f) aq (by omega) (λh=>by grind) e (by simp_all) (by unfold fuel;omega)
 refine⟨_,_,?_,r,c.len,af.new (c.trans f) s (by simpa using c.len)⟩
 unfold CL;rw[ag,m,aD,ag,n,aD,ag];unfold jt;rw[q];rfl
end Mir
namespace Mir
open PySem
open PySem.Spec PyProof.Rows L2
structure lJ(K:PySem.W.Frag)(x:Str)(st:Stmt)(f:Addr)(fd:FuncData):Prop where
 ns:PySem.W.nsIn K mainGlobals x=some (some (.ref f))
 fn:vU K x x st f fd
variable{D3 D5:Option Addr}{H M5 N5 Q0 x6 z5:Value}{d:Str}{h:Addr}{v5:Array (Option Value)}{x:PySem.W.Frag}{Δ:Stmt}
theorem qM(a:PySem.W.nsIn x mainGlobals d=some (some (.ref h)))(l:x.lookup h=some ⟨H,D3,.func (PySem.W.fnOf d d (bq Δ) (aV Δ) (aj Δ) .none Q0 z5 M5 D5 N5 x6),v5⟩)(c:PySem.W.codeIn x N5 d=true)(k:PySem.W.keepIn x (.ref h)=true):lJ x d Δ h (PySem.W.fnOf d d (bq Δ) (aV Δ) (aj Δ) .none Q0 z5 M5 D5 N5 x6):=⟨a,n_ l c k⟩
variable [jn]
structure vH(K:PySem.W.Frag)(x qual:Str)(st:Stmt)(dV:Value)(f:Addr)(fd:FuncData):Prop where
 ex:∃(oc:Value) (od:Option Addr) (kV doc pm:Value) (an:Option Addr) (cdv ct:Value) (osl:Array (Option Value)),
  fd=PySem.W.fnOf x qual (bq st) (aV st) (aj st) dV kV doc pm an cdv ct/\K.lookup f=some ⟨oc,od,.func fd,osl⟩/\PySem.W.codeIn K cdv qual=true
 kp:PySem.W.keepIn K (.ref f)=true
variable{A:World}{E4 Y g:List Str}{T:Str}{b:Nat}{w:Heap}{z:Program}{Θ:SM}{θ:Str->Option Value}{ς:FuncData}{χ:aQ}
theorem pb(W:aR z A x θ w χ b)(F:vH x d T Δ H h ς)(y:eZ g Y (aj Δ)=true)(B:tX χ E4 Δ g=some Θ):
    bx z A x θ w eB (b+1) h ς Y (cD (cE θ) (bT g.length Y.length Θ)):=by
  obtain⟨oc,X,kV,D,pm,an,I,ct,J,rfl,K,n⟩:=F.ex;have o:=iE y;refine wD K n o (λL e Q E c=>?_) λi outer s e L Q E M c=>?_
  · obtain⟨k,Z,l,N,S,r,a⟩:=c
    rw[r.length];unfold bT at a;split at a
    · omega
    · exact a.elim
  · obtain⟨k,Z,l,N,S,r,a⟩:=c
    have G:ez (cO eB z A x θ _ g _ _ h _ i outer s e E).jP _ χ b _ g:=
      { scope:=rfl,names:=rfl,calm:=rfl,room:=M,dy:=W.dy,own:=PassesOwn.never,Ll:=λ_ _ _=>.inl rfl,mU:=o.nd,kind:=o.kind,jP:=λ_ _ _ c=>c,fld:=W.fld,cst:=W.cst
        je:=λd F c=>⟨W.je d F c⟩,fn:=λd F c=>⟨W.fn d F c⟩,met:=λm C F c=>⟨W.met m C F c⟩,cls:=λC F c=>let ⟨j,O,P⟩:=W.cls C F c;⟨j,O,⟨P⟩⟩,clo:=W.clo }
    refine⟨Hg _ lQ k Z e Θ _ l,(gq (tW G 30 60) B k Z e _ l).jP,k,Z,hZ S r,?_⟩;unfold bT at a;split at a
    · cases q:Θ _ l with
      |rt p f=>rwa[q]at a
      |nx t f=>rw[q]at a;exact λσ R U V u=>a _ R _ V u.gr u.st (bb rfl)
      |bk t f=>rw[q]at a;exact a.elim
      |ct t f=>rw[q]at a;exact a.elim
      |exc d f=>rwa[q]at a
      |bad=>rwa[q]at a
    · exact a.elim
abbrev oR(k:Nat):Option D:=some (.ref k)
abbrev oI(i:Int):Option D:=some (.int i)
abbrev oS(x:Str):Option D:=some (.str x)
def cy(a:aJ)(e:Nat)(kvs:List (Key×D)):Prop:=a[e]?=some (.dK kvs)\/a[e]?=some (.dF kvs)
abbrev eP:=List (Str×List Str)
noncomputable def nms(E:eP):List Str:=E.map (·.1)
noncomputable def cB(E:eP)(n:Str):List Str:=(E.lookup n).getD []
def aE(P:Nat->Prop)(b:aJ)(kvs:List (Key×D))(E:eP):Prop:=aG (λa p=>a.1=.inr p.1/\∃j,a.2=.ref j/\P j/\b[j]?=some (.lst (p.2.map .str))) kvs E
variable{R:List (Key×D)}{a:aJ}
theorem cy.keep{ax:aJ}{fp:List Nat}(h:cy a b R)(K:af fp a ax)(c:b∉fp):cy ax b R:=h.imp (λz=>K.get _ _ z c) λz=>K.get _ _ z c
theorem cy.lt(h:cy a b R):b<a.length:=h.elim bc bc
theorem cy.nl(h:cy a b R):∀c,a[b]?≠some (.lst c):=λc z=>by rcases h with h|h<;>rw[h]at z<;>cases z
theorem cy.ni(h:cy a b R):∀C c,a[b]?≠some (.ins C c):=λC c z=>by rcases h with h|h<;>rw[h]at z<;>cases z
variable{t:Nat}
theorem Eg(h:cy a b R):fk a (t+1) (.ref b)=none:=by rcases h with h|h<;>simp only[fk,h]
theorem qN(h:cy a b R):dE a (.ref b)=none:=by rcases h with h|h<;>simp only[dE,h]
theorem zi(h:cy a b R):vh a (.ref b) (.str d)=some (b_ R (.inr d)):=by rcases h with h|h<;>simp only[vh,h,oC,Option.map_some]
theorem FT(h:cy a b R):aH .In (.str d) (.ref b) a=.ok (.bl (b_ R (.inr d)).isSome) a:=by
 rw[oZ,kx,Eg h];simp only[mm,zi h];rfl
theorem JC(h:cy a b R):aH .NotIn (.str d) (.ref b) a=.ok (.bl (!(b_ R (.inr d)).isSome)) a:=by
 rw[lF,kx,Eg h]
 show i9 _ _=_
 simp only[mm,zi h];rfl
variable{m:D}
theorem d4(h:cy a b R)(c:b_ R (.inr d)=some m):aM (.ref b) (.str d) a=.ok m a:=by
 unfold aM;rw[oY,ua,aI,qN h];rw[oY];simp only[Fp,zi h,c];rfl
theorem JD(h:cy a b R):a8 .len [.ref b] a=.ok (.int R.length) a:=by
 show i9 _ (i9 _ _)=_
 have c:vk [.ref b] a=.bad:=by simp only[vk,aI,qN h]
 have d:yx [.ref b] a=.ok (.int R.length) a:=by rcases h with h|h<;>simp only[yx,h]
 simp_all
theorem Eh(h:cy a b R):vl a (.ref b)=some R:=by rcases h with h|h<;>simp only[vl,h]
theorem FU(h:cy a b R):a8 .list [.ref b] a=.ok (.ref a.length) (a++[.lst (R.map λc=>jq c.1)]):=by
 show i9 _ _=_
 have d:jK [.ref b] a=.bad:=by simp only[jK,aI,qN h]
 have e:la [.ref b] a=.ok (.ref a.length) (a++[.lst (R.map λc=>jq c.1)]):=by simp only[la,Eh h];rfl
 simp_all
theorem zj(h:cy a b R):gZ [.ref b] a=.ok (.ref a.length) (a++[.dK R]):=by
 show i9 _ _=_
 have c:iQ [.ref b] a=.bad:=by simp only[iQ,qN h]
 have d:qk [.ref b] a=.ok (.ref a.length) (a++[.dK R]):=by simp only[qk,Eh h];rfl
 simp_all
variable{B3:Cell}
theorem set_same(h:a[b]?=some B3):a.set b B3=a:=by
 apply List.ext_getElem?;intro i;rw[List.getElem?_set];split
 .rename_i z;subst z;rw[if_pos (bc h),h]
 .rfl
theorem qO(h:cy a b R):srcOf a (.ref b)=.ok (.keys b) (a.set b (.dF R)):=by
 unfold srcOf;rw[aI,qN h];rcases h with h|h
 .grind
 .simp only[h,set_same h]
theorem JE(h:cy a b R):tL a (.ref b)=.ok (.items b) (a.set b (.dF R)):=by
 unfold tL;rcases h with h|h
 .grind
 .simp only[h,set_same h]
theorem zk(h:cy a b R):(a.set b (.dF R))[b]?=some (.dF R):=by rcases h with h|h<;>exact aK h
theorem lK(h:a[b]?=some (.dF R)):eh (.keys b) a=some (R.map λc=>jq c.1):=by simp only[eh,h]
theorem aE.imp{e:aJ}{kvs:List (Key×D)}{E:eP}{P P':Nat->Prop}(h:aE P e kvs E)(f:∀j,P j->P' j):aE P' e kvs E:=aG.imp (λ_ _ ⟨a,j,b,c,d⟩=>⟨a,j,b,f j c,d⟩) h
variable{Z:eP}{ξ:Nat->Prop}
theorem aE.keep{ax:aJ}{fp:List Nat}(h:aE ξ a R Z)(K:af fp a ax)(f:∀j∈fp,¬ ξ j):aE ξ ax R Z:=aG.imp (λ_ _ ⟨e,j,b,c,d⟩=>⟨e,j,b,c,K.get _ _ d λz=>f j z c⟩) h
variable{J:List Nat}{η:aJ}
theorem aE.bY(h:aE ξ a R Z)(K:af J a η)(f:∀j∈J,∀g,a[j]?≠some (.lst g)):aE ξ η R Z:=aG.imp (λ_ _ ⟨e,j,b,c,d⟩=>⟨e,j,b,c,K.get _ _ d λz=>f j z _ d⟩) h
theorem aE.lt(h:aE ξ a R Z):aE (λj=>ξ j/\j<a.length) a R Z:=aG.imp (λ_ _ ⟨e,j,b,c,d⟩=>⟨e,j,b,⟨c,bc d⟩,d⟩) h
theorem aE.len(h:aE ξ a R Z):Z.length=R.length:=aG.length h
theorem aE.keys(h:aE ξ a R Z):(R.map λc=>jq c.1)=(nms Z).map .str:=by
 induction h with
 |nil=>rfl
 |cons r _ b=>
  simp at b ⊢;rw[b,r.1];rfl
theorem aE.look(h:aE ξ a R Z)(n:Str):(∀r,Z.lookup n=some r->∃j,b_ R (.inr n)=oR j/\ξ j/\a[j]?=some (.lst (r.map .str)))/\(Z.lookup n=none->b_ R (.inr n)=none):=by
 induction h with
 |nil=>exact⟨by simp,λ_=>rfl⟩
 |@cons b p R Z c _ d=>
  rw[di]
  grind
theorem pd(h:Z.lookup d=some g):(d,g)∈Z:=by
 induction Z with
 |nil=>simp at h
 |cons p Z a=>
  grind
theorem lookup_some(h:d∈nms Z):∃r,Z.lookup d=some r:=by
 unfold nms at h
 induction Z with
 |nil=>simp at h
 |cons p Z a=>
  rw[List.lookup_cons];split
  .simp
  grind
theorem ie(h:d∈nms Z):Z.lookup d=some (cB Z d):=by
 obtain⟨r,a⟩:=lookup_some h;unfold cB;rw[a];rfl
theorem lookup_none(h:d∉nms Z):Z.lookup d=none:=by
 cases q:Z.lookup d with
 |none=>rfl
 |some r=>exact absurd (List.mem_map_of_mem (pd q)) h
theorem aE.at{n:Str}(h:aE ξ a R Z)(b:n∈nms Z):∃j,b_ R (.inr n)=oR j/\ξ j/\a[j]?=some (.lst ((cB Z n).map .str)):=(h.look n).1 _ (ie b)
theorem aE.is(h:aE ξ a R Z):(b_ R (.inr d)).isSome=decide (d∈nms Z):=by
 by_cases q:d∈nms Z
 .obtain⟨j,b,_⟩:=h.at q
  simp_all
 .rw[(h.look d).2 (lookup_none q),decide_eq_false q];rfl
variable{k6:Key}
theorem zl(h:b_ R k6=none):(R.any λa=>decide (a.1=k6))=false:=by rw[iV,h];rfl
theorem aE.put{j:Nat}{n:Str}{r:List Str}(h:aE ξ a R Z)(b:n∉nms Z)(c:ξ j)(d:a[j]?=some (.lst (r.map .str))):aE ξ a (cm R (.inr n) (.ref j)) (Z++[(n,r)]):=by
 have:=zl ((h.look n).2 (lookup_none b));unfold cm;rw[if_neg (by grind)]
 exact aG.append h (.cons ⟨rfl,j,rfl,c,d⟩ .nil)
def qP(E:eP)(a:List Str):List Str:=(nms E).filter λn=>!decide (n∈a)&&(cB E n).all λx=>decide (x∈a)
def Om:EM:=(bC (m2 (aH .In) (aa 0) (aa 1)) true (ai .non) (bf (m2 aM (aa 1) (aa 0))) 0 [2])
def JF:EM:=(iN (m2 (aH .NotIn) (aa 0) (aa 2)) (mN (a8 .all) (ae Om ah)))
def LU:SM:=(ak (bS (bC (aa 0) false JF (bf (aa 0)) 0 [0,1])) ao)
variable{v8:List Bool}
theorem uf(h:a[b]?=some (.lst (v8.map .bl))):a8 .all [.ref b] a=.ok (.bl (v8.all id)) a:=by
 show oH _ _ a=_
 unfold oH;rw[Cw];have d:bN (fk a 7) _=some (v8.map .bl):=jx (λ_=>FF) v8
 have:bN (fk a 8) [.ref b]=some [.lst (v8.map .bl)]:=by simp[ku h d]
 rw[this,Cv,za]
 have e:eV (v8.map D.bl)=some v8:=by
  clear h d this
  induction v8 with
  |nil=>rfl
  |cons c v8 f=>simp[eV,f]
 rw[e];rfl
variable{A1:IM}{B:bp}{s:EM}
theorem zm(f:a[b]?=some (.lst (g.map .str)))(h:A1 B a=.ok (.seq (.ref b)) a){p:Str->Bool}(i:∀x∈g,s ([oS x]++dn J B) a=.ok (.bl (p x)) a)(j:g.length<=90000):
  ∃ax,mN (a8 .all) (ae (bC s true (ai .non) A1 0 J) ah) B a=.ok (.bl (g.all p)) ax/\af [] a ax:=by
 have e:=cu (B:=B) (a:=a) (η:=a) (s:=s) (ζ:=ai .non) (y:=true) (A1:=A1) (J:=J) (v4:=.seq (.ref b)) (q:=g.map .str) (F7:=λ_=>true) (E7:=λd=>match d with|.str x=>.bl (p x)|d=>d) h (by rw[cg,aI,aA f]) (λd _=>rfl) (λd k _=>by
  obtain⟨x,c,rfl⟩:=List.mem_map.mp k;exact i x c) (by simpa using j)
 have l:((g.map D.str).filter λ_=>true).map (λd=>match d with|.str x=>D.bl (p x)|d=>d)=(g.map p).map .bl:=by
  rw[List.filter_eq_self.mpr (λ_ _=>rfl),List.map_map,List.map_map]
  rfl
 rw[l]at e;refine⟨a++[.lst ((g.map p).map .bl)],?_,af.app⟩;rw[dX,a6,e,aw,bG,aw,aw,uf aq];simp[List.all_map]
def CN(f:a_):Prop:=∀(c:aJ) (e q:Nat) (b:List (Key×D)) (E:eP) (d:List Str) (P:Nat->Prop),cy c e b->aE P c b E->c[q]?=some (.lst (d.map .str))->(∀n∈nms E,(cB E n).length<=1000)->E.length<=1000 ->
 ∃z a,f [.ref e,.ref q] c=.ok (.ref z) a/\a[z]?=some (.lst ((qP E d).map .str))/\af [e] c a/\a[e]?=some (.dF b)/\c.length<=z
theorem JG:CN (bT 2 2 LU):=by
 intro g e q c E a P k O Q m hl;rw[bj (by rfl)]
 have T:a7 2 [D.ref e,.ref q]=[oR e,oR q]:=rfl;rw[T];have o:q≠e:=λz=>k.nl _ (z▸Q)
 have r:af [e] g (g.set e (.dF c)):=af.set (by simp)
 have t:=zk k;have u:=O.bY r (λj l=>by rw[List.mem_singleton.mp l];exact k.nl)
 have w:=r.get _ _ Q (by simpa using o)
 have l0:(g.set e (.dF c)).length=g.length:=by simp
 have A:bf (aa 0) [oR e,oR q] g=.ok (.keys e) (g.set e (.dF c)):=by
  rw[cf];exact qO k
 generalize g.set e (.dF c)=C at *
 obtain⟨h,U,F⟩:=CJ (B:=[oR e,oR q]) (s:=aa 0) (ζ:=JF) (y:=false) (J:=[0,1]) (q:=(nms E).map .str) (F7:=λd=>match d with|.str n=>!decide (n∈a)&&(cB E n).all λx=>decide (x∈a)|_=>false) (E7:=λd=>d) (λ_ b=>af [] C b) A
  (λi b K=>by rw[lK (K.get _ _ t (by simp)),O.keys])
  (λi d b G K=>by
   obtain⟨n,V,rfl⟩:=fF G;have R:n∈nms E:=List.mem_of_getElem? V;have S:=K.get _ _ w (by simp)
   have X:=K.get _ _ t (by simp)
   have Y:=u.keep K (by simp)
   obtain⟨j,Z,_,l⟩:=Y.at R;have f:=kz (d:=n) S;have H:=d4 (d:=n) (.inr X) Z
   show ∃I,bZ (JF [oS n,oR e,oR q] b)=.ok (!decide (n∈a)&&(cB E n).all λx=>decide (x∈a)) I/\_
   by_cases L:n∈a
   .refine⟨b,?_,K,λ_=>rfl⟩
    rw[decide_eq_true L]at f ⊢;simp[JF,f,-lF]
   .rw[decide_eq_false L]at f
    obtain⟨M,N,K3⟩:=zm (B:=[oS n,oR e,oR q]) (s:=m2 (aH .In) (aa 0) (aa 1)) (A1:=bf (m2 aM (aa 1) (aa 0))) (J:=[2]) (p:=λx=>decide (x∈a)) l (by
     rw[cf]
     show(aM (.ref e) (.str n) b).bind _=_
     rw[H,aw];exact aU (by rw[aI,aA l])) (λx _=>by
     show aH .In (.str x) (.ref q) b=_
     exact ic S) (by have:=m n R;omega)
    refine⟨M,?_,K.trans K3,λ_=>rfl⟩
    have N:mN (a8 .all) (ae Om ah) [oS n,oR e,oR q] b=_:=N;unfold JF;rw[kr]
    show bZ ((aH .NotIn (.str n) (.ref q) b).bind _)=_
    rw[f,aw,dN]
    show bZ (mN (a8 .all) (ae Om ah) [oS n,oR e,oR q] b)=_
    rw[N,eN,dN,fD];simp[L]) (by simp[nms];omega) af.refl
 refine⟨h.length,h++[.lst ((qP E a).map .str)],?_,aq,?_,cS (F.get _ _ t (by simp)),by have:=F.len;omega⟩
 .unfold LU
  rw[ag,gF,U]
  have e4:(((nms E).map D.str).filter (λd=>match d with|.str n=>!decide (n∈a)&&(cB E n).all λx=>decide (x∈a)|_=>false)).map (λd=>d)=(qP E a).map .str:=by
   unfold qP;rw[List.map_id',List.filter_map];rfl
  rw[e4];rfl
 .exact(r.trans (dz.up F)).trans af.app
theorem gs{xs:List Str}:∀{o:List Str},o.Nodup->(∀x∈o,x∈xs)->o.length<=xs.length:=by
 intro o b d
 induction o generalizing xs with
 |nil=>simp
 |cons a o c=>
  have:=c (xs:=xs.erase a) (List.nodup_cons.mp b).2 (λx e=>by
   grind)
  grind
structure Ef(E:eP)(ord:List Str):Prop where
 nd:ord.Nodup
 sub:∀n∈ord,n∈nms E
 pre:∀(i:Nat) (n:Str),ord[i]?=some n->∀x∈cB E n,x∈ord.take i
structure Acy(E:eP):Prop where
 nd:(nms E).Nodup
 el:∀n∈nms E,∀x∈cB E n,x∈nms E
 rk:∃rk:Str->Nat,∀n∈nms E,∀x∈cB E n,rk x<rk n
theorem kB:d∈qP Z g↔d∈nms Z/\d∉g/\∀x∈cB Z d,x∈g:=by
 unfold qP
 simp_all
theorem Ef.step{E:eP}{c:List Str}(h:Ef E c)(g:(nms E).Nodup):Ef E (c++qP E c) where
 nd:=List.nodup_append.mpr ⟨h.nd,g.filter _,λa j b k z=>(kB.mp k).2.1 (z▸j)⟩
 sub:=λn l=>(List.mem_append.mp l).elim (h.sub n) λz=>(kB.mp z).1
 pre:=λi n d x e=>by
  by_cases f:i<c.length
  .rw[List.getElem?_append_left f]at d
   rw[List.take_append_of_le_length (Nat.le_of_lt f)];exact h.pre i n d x e
  .rw[List.getElem?_append_right (by omega)]at d
   have:=(kB.mp (List.mem_of_getElem? d)).2.2 x e;rw[List.take_append,List.take_of_length_le (by omega)]
   simp_all
theorem FV(A:Acy Z)(hz:qP Z g=[]):∀n∈nms Z,n∈g:=by
 obtain⟨c,f⟩:=A.rk
 have b:∀(k:Nat) n,c n<k->n∈nms Z->n∈g:=by
  intro k
  induction k with
  |zero=>simp
  |succ k d=>
   intro n h a
   by_cases q:n∈g
   .exact q
   .have:=kB.mpr ⟨a,q,λx e=>d x (by grind) (A.el n a x e)⟩
    grind
 exact λn a=>b _ n (Nat.lt_succ_self _) a
theorem sv(h:a[b]?=some (.lst (g.map .str)))(c:a[t]?=some (.lst (Y.map .str)))(d:g.length+Y.length<=10000):gz (.ref b) [.ref t] a=.ok .non (a.set b (.lst ((g++Y).map .str))):=by
 simp only[gz,fE h,fE c];rw[if_pos (aT (by simp;omega)),List.map_append]
def LV(a:a_):SM:=(ak (cF (dm lP gz (aa 1) (ae (aa 2) ah)))
 (ak (aF 2 (mN (aX a) (ae (aa 0) (ae (aa 1) ah))))
 ao))
def LW(a:a_):SM:=
 (ak (aF 1 (mN bh ah))
 (ak (aF 2 (mN (aX a) (ae (aa 0) (ae (aa 1) ah))))
 (ak (jt (aa 2)
 (LV a))
 (ak (bS (aa 1))
 ao))))
structure Gd(E:eP):Prop extends Acy E where
 few:E.length<=100
 short:∀n∈nms E,(cB E n).length<=100
variable{L:a_}
theorem zo(U:CN L)(G:Gd Z):
  ∀(m:Nat) (d:aJ) (a:List Str) (q z:Nat),d[b]?=some (.dF R)->aE ξ d R Z->Ef Z a->d[q]?=some (.lst (a.map .str))->d[z]?=some (.lst ((qP Z a).map .str))->q≠z->¬ ξ q->Z.length - a.length<m ->
   ∃f x ax,ei (aa 2) (LV L) m [oR b,oR q,oR z] d=.nx [oR b,oR q,x] ax/\ax[q]?=some (.lst (f.map .str))/\Ef Z f/\(∀n∈nms Z,n∈f)/\af [q] d ax:=by
 intro m
 induction m with
 |zero=>intro d a q z _ _ _ _ _ _ _ h;omega
 |succ m V=>
  intro d a q z O X F p P Y Q hm;have y:=iW P
  by_cases A:qP Z a=[]
  .refine⟨a,oR z,d,?_,p,F,FV G.toAcy A,af.refl⟩
   have B:aa 2 [oR b,oR q,oR z] d=.ok (.ref z) d:=rfl;rw[A]at y;simp only[ei,B,eN,y];rfl
  .have B:aa 2 [oR b,oR q,oR z] d=.ok (.ref z) d:=rfl
   have C:=F.step G.nd
   have g:(a++qP Z a).length<=Z.length:=by
    have:=gs C.nd C.sub;simpa[nms]using this
   have a0:=G.few;have hx:=sv p P (by rw[List.length_append]at g;omega)
   have hL:=en p;have D:af [q] d (d.set q (.lst ((a++qP Z a).map .str))):=af.set (by simp)
   have i:=aK (e:=.lst ((a++qP Z a).map .str)) p;have r:q≠b:=λz=>by rw[z,O]at p;cases p
   have l:=D.get _ _ O (by simpa using Ne.symm r)
   have s:=X.keep D (λj E=>by rw[List.mem_singleton.mp E];exact Q)
   generalize d.set q (.lst ((a++qP Z a).map .str))=t at *;obtain⟨S,o,e2,H,w,u,lz⟩:=U t b q R Z (a++qP Z a) ξ (.inr l) s i (λn T=>by have:=G.short n T;omega) (by omega)
   have I:af [q] t o:=⟨w.len,λk c J T=>by
    by_cases h:k=b
    .subst h;rw[l]at J;cases J;exact u
    .exact w.get k c J (by simpa using h)⟩
   have K:=s.bY w (λj E ds=>by rw[List.mem_singleton.mp E,l];simp)
   have M:=w.get _ _ i (by simpa using r)
   have lq:=bc i
   obtain⟨f,x,N,e3,h3,F3,h4,K3⟩:=V o (a++qP Z a) q S u K C M H (by omega) Q (by
    have:0<(qP Z a).length:=List.length_pos_iff.mpr A;rw[List.length_append]at g ⊢;omega)
   refine⟨f,x,N,?_,h3,F3,h4,(D.trans I).trans K3⟩
   have r1:LV L [oR b,oR q,oR z] d=.nx [oR b,oR q,oR S] o:=by
    unfold LV;rw[ag,bQ,dY (m:=.ref q) (η:=d) (by rfl) hL]
    simp_all
   simp only[ei,B,eN,y,fD]
   simp_all
def CO(f:a_):Prop:=∀(d:aJ) (e:Nat) (b:List (Key×D)) (E:eP) (P:Nat->Prop),cy d e b->aE P d b E->Gd E ->
 ∃c z a,f [.ref e] d=.ok (.ref z) a/\a[z]?=some (.lst (c.map .str))/\Ef E c/\(∀n∈nms E,n∈c)/\af [e] d a/\a[e]?=some (.dF b)/\d.length<=z
theorem JH(r:CN L):CO (bT 3 1 (LW L)):=by
 intro a e x E P s y G;rw[bj (by rfl)]
 have A:a7 3 [D.ref e]=[oR e,none,none]:=rfl;rw[A];have t:(a++[Cell.lst []])[a.length]?=some _:=aq;have g:af [] a (a++[Cell.lst []]):=af.app;have B:(aF 1 (mN bh ah)) [oR e,none,none] a=.nx [oR e,oR a.length,none] (a++[Cell.lst []]):=by rfl
 have b:=s.keep g (by simp)
 have d:=(y.lt.keep g (by simp))
 have S:=s.lt;have T:(a++[Cell.lst []]).length=a.length+1:=by simp
 generalize a++[Cell.lst []]=l at *;have C:=G.few;obtain⟨z,m,H,o,p,f,U⟩:=r _ e _ _ E [] _ b d t (λn q=>by have:=G.short n q;omega) (by omega)
 obtain⟨I,V,J,K,M,F,N,u⟩:=zo r G fuel _ [] _ z f (d.bY p (λj O Q=>by rw[List.mem_singleton.mp O];exact b.nl Q)) ⟨by simp,by simp,λi n h=>by simp at h⟩ (p.get _ _ t (by simp;omega)) o (by omega) (λh=>by omega) (by unfold fuel;omega)
 refine⟨_,_,_,?_,M,F,N,?_,u.get _ _ f (by simp;omega),Nat.le_refl _⟩
 .unfold LW
  rw[ag,B,aD,ag];have R:(aF 2 (mN (aX L) (ae (aa 0) (ae (aa 1) ah)))) [oR e,oR a.length,none] l=.nx [oR e,oR a.length,oR z] m:=by simp[H]
  rw[R,aD,ag];unfold jt;rw[K];rfl
 .refine⟨by grind,λk c w q=>u.get k c (p.get k c (g.get k c w (by simp)) q) ?_⟩
  have:=bc w;simp;omega
def Q8:EM:=(bC (aa 0) false (m2 (aH .NotIn) (aa 0) (aa 1)) (bf (aa 0)) 0 [1])
def Oo(a:a_)(rest:SM):SM:=
 (ak (aF 1 (mN (aX a) (ae (aa 0) ah)))
 (ak (aF 3 Q8)
 (ak (dR (iO (aa 3))
 (ak (bS (ai .non))
 ao)
 ao)
 rest)))
def FW(d:a_):Prop:=∀(c:aJ) (e:Nat) (a:List (Key×D)) (E:eP) (P:Nat->Prop),cy c e a->aE P c a E->Gd E ->
 ∃b,d [.ref e] c=.ok .non b/\af [e] c b/\b[e]?=some (.dF a)
theorem JI(k:CO L):FW (bT 5 1 (Oo L Θ)):=by
 intro l e m E P g j G;rw[bj (by rfl)]
 have w:a7 5 [D.ref e]=[oR e,none,none,none,none]:=rfl;obtain⟨o,z,b,x,p,F,f,q,c,A⟩:=k l e _ E P g j G;have r:=G.few
 have i:bf (aa 0) [oR e,oR z,none,none,none] b=.ok (.keys e) b:=by
  show srcOf _ _=_
  rw[qO (.inr c),set_same c]
 have t:=cu (s:=aa 0) (ζ:=m2 (aH .NotIn) (aa 0) (aa 1)) (y:=false) (J:=[1]) (F7:=λ_=>false) (E7:=λd=>d) i (by rw[lK c,j.keys]) (λd g=>by
  obtain⟨n,u,rfl⟩:=List.mem_map.mp g
  show bZ (aH .NotIn _ _ _)=_
  rw[kz p,decide_eq_true (f n u)];rfl) (λd _ h=>by cases h) (by simp[nms];omega)
 have B:Q8 [oR e,oR z,none,none,none] b=.ok (.ref b.length) (b++[.lst []]):=by
  have:(((nms E).map D.str).filter (λ_=>false)).map (λd=>d)=[]:=by simp
  rwa[this]at t
 refine⟨b++[.lst []],?_,q.trans af.app,cS c⟩;have C:=iW (a:=b++[Cell.lst []]) aq;unfold Oo
 simp_all
noncomputable def aP(a:List Str)(L:Str->List Str):eP:=a.map λn=>(n,L n)
def JJ(E:eP)(L:Str->List Str):Prop:=∀n∈nms E,∃o,Mg ((cB E n).map L++[cB E n]) o/\L n=n::o
variable{Q:Str->List Str}
theorem az:nms (aP g Q)=g:=by
 unfold nms aP;rw[List.map_map];exact(List.map_congr_left λx _=>rfl).trans (List.map_id _)
theorem aS(h:d∈g):cB (aP g Q) d=Q d:=by
 unfold cB aP
 induction g with
 |nil=>simp at h
 |cons a g b=>
  grind
variable{j4 q:List D}
theorem gI(h:a[b]?=some (.lst q))(c:a[t]?=some (.lst j4))(d:q.length+j4.length<=10000):aY .Add (.ref b) (.ref t) a=.ok (.ref a.length) (a++[.lst (q++j4)]):=by
 rw[zc,CC,aA h,aA c,CB,if_pos (aT (by omega))]
 rfl
def Q9:EM:=(bC (mN (a8 .list) (ae (m2 aM (aa 1) (aa 0)) ah)) true (ai .non) (bf (aa 1)) 0 [0])
def Oq:EM:=(mN bh (ae (mN (a8 .list) (ae (aa 1) ah)) ah))
def LX:SM:=(ak (bS (m2 (aY .Add) Q9 Oq)) ao)
def CP(h:a_):Prop:=∀(c:aJ) (l a:Nat) (e:List (Key×D)) (f:eP) (P:Nat->Prop) (b:List Str),cy c l e->aE P c e f->c[a]?=some (.lst (b.map .str))->(∀x∈b,x∈nms f)->b.length<=100 ->
 ∃g k d,h [.ref l,.ref a] c=.ok (.ref k) d/\Rw d k g (b.map (cB f)++[b])/\af [] c d/\c.length<=k/\(∀j∈g,c.length<=j)/\k∉g
theorem JK:CP (bT 2 2 LX):=by
 intro m l a N p P c O Q r R hl;rw[bj (by rfl)]
 have S:a7 2 [D.ref l,.ref a]=[oR l,oR a]:=rfl;rw[S]
 have t:bf (aa 1) [oR l,oR a] m=.ok (.seq (.ref a)) m:=by
  rw[cf];exact aU (by rw[aI,aA r])
 obtain⟨ys,e,T,f,rfl,n,I,u⟩:=kA (B:=[oR l,oR a]) (s:=mN (a8 .list) (ae (m2 aM (aa 1) (aa 0)) ah)) (ζ:=ai .non) (J:=[0]) (q:=c.map .str) (λi g b=>∃f,g=f.map .ref/\jy b f ((c.take i).map (cB p))/\af [] m b/\∀j∈f,m.length<=j) t ⟨[],rfl,.nil,af.refl,by simp⟩
  (λi g b h=>by
   obtain⟨_,_,_,K,_⟩:=h;rw[cg,aI,aA (K.get _ _ r (by simp))])
  (λi d g b w h=>by
   obtain⟨f,rfl,n,K,u⟩:=h;obtain⟨x,L,rfl⟩:=fF w;have z:=O.keep K (by simp)
   obtain⟨j,U,_,V⟩:=(Q.keep K (by simp)).at (R x (List.mem_of_getElem? L))
   have A:=d4 (d:=x) z U;have k:=cw V;refine⟨.ref b.length,b++[.lst ((cB p x).map .str)],?_,f++[b.length],by simp,?_,K.trans af.app,?_⟩
   .show((aM (.ref l) (.str x) b).bind _).bind _=_
    rw[A,aw]
    show a8 .list [.ref j] b=_
    exact k
   .rw[List.take_succ,L,List.map_append]
    exact(n.keep (fp:=[]) af.app (by simp)).snoc aq
   .intro y C
    rcases List.mem_append.mp C with h|h
    .exact u y h
    .rw[List.mem_singleton.mp h];exact K.len) (by simp;omega)
 rw[List.length_map,List.take_length]at n;have E:Q9 [oR l,oR a] m=.ok (.ref e.length) (e++[.lst (f.map .ref)]):=T;have X:(e++[Cell.lst (f.map .ref)])[e.length]?=some (.lst (f.map .ref)):=aq;have M:af [] m (e++[Cell.lst (f.map .ref)]):=I.trans af.app;have F:jy (e++[Cell.lst (f.map .ref)]) f (c.map (cB p)):=n.keep (fp:=[]) af.app (by simp)
 have l2:(e++[Cell.lst (f.map .ref)]).length=e.length+1:=by simp
 have Y:=n.lt;have kl:=I.len;have Z:=n.len;generalize e++[Cell.lst (f.map .ref)]=b at *;have k:=cw (M.get _ _ r (by simp))
 have e3:Oq [oR l,oR a] b=.ok (.ref (b.length+1)) ((b++[.lst (c.map .str)])++[.lst [.ref b.length]]):=by
  unfold Oq
  have:(mN (a8 .list) (ae (aa 1) ah)) [oR l,oR a] b=.ok (.ref b.length) (b++[.lst (c.map .str)]):=by
   show a8 .list [.ref a] b=_
   exact k
  rw[dX,a6,this,aw,bG,aw,aw,eO,if_pos (aT (by simp))]
  simp
 have G:af [] b ((b++[Cell.lst (c.map .str)])++[Cell.lst [.ref b.length]]):=af.app.trans af.app
 have gb:((b++[Cell.lst (c.map .str)])++[Cell.lst [.ref b.length]])[b.length+1]?=some (.lst [.ref b.length]):=by
  simp
 have gc:((b++[Cell.lst (c.map .str)])++[Cell.lst [.ref b.length]])[b.length]?=some (.lst (c.map .str)):=cS aq;have l3:((b++[Cell.lst (c.map .str)])++[Cell.lst [.ref b.length]]).length=b.length+2:=by simp
 generalize (b++[Cell.lst (c.map .str)])++[Cell.lst [.ref b.length]]=o at *;have g3:=G.get _ _ X (by simp)
 have H:=F.keep G (by simp)
 have hc:=gI g3 gb (by simp at Z ⊢;omega)
 refine⟨f++[b.length],o.length,o++[.lst (f.map .ref++[.ref b.length])],?_,⟨?_,?_⟩,(M.trans G).trans af.app,by omega,?_,?_⟩
 .unfold LX
  rw[ag,gF,dh,E,aw,e3,aw,hc];rfl
 .simp
 .exact(H.snoc gc).keep (fp:=[]) af.app (by simp)
 .intro y C
  rcases List.mem_append.mp C with h|h
  .exact u y h
  .rw[List.mem_singleton.mp h];omega
 .intro h
  rcases List.mem_append.mp h with h|h
  .have:=Y _ h;omega
  .have:=List.mem_singleton.mp h;omega
theorem CQ(h:k6∉R.map (·.1)):cm R k6 m=R++[(k6,m)]:=by
 unfold cm
 grind
theorem jA:∀(c b:List (Key×D)),((b++c).map (·.1)).Nodup->c.foldl (λa p=>cm a p.1 p.2) b=b++c
 |[],b,_=>by simp
 |p::c,b,h=>by
  rw[List.foldl_cons,CQ (by
   rw[List.map_append]at h;have:=(List.nodup_append.mp h).2.2;exact λz=>this _ z _ (by simp) rfl),jA c _ (by simp_all)]
  simp
theorem zp{f:Str->D}(h:∀n∈g,∃j,f n=.ref j/\ξ j/\a[j]?=some (.lst ((Q n).map .str))):aE ξ a (g.map λn=>(.inr n,f n)) (aP g Q):=by
 induction g with
 |nil=>exact .nil
 |cons b g c=>exact .cons ⟨rfl,h b (by simp)⟩ (c λn d=>h n (by simp[d]))
variable{v4:Src}
theorem sx{f:Str->D}(o:A1 B a=.ok v4 a)(r:eh v4 a=some (g.map .str))(t:∀n∈g,s ([oS n]++dn J B) a=.ok (.tup [.str n,f n]) a)(F:g.length<=1000)(u:g.Nodup):
  ∃q ax,mN gZ (ae (bC s true (ai .non) A1 0 J) ah) B a=.ok (.ref q) ax/\ax[q]?=some (.dK (g.map λn=>(.inr n,f n)))/\af [] a ax/\a.length<=q:=by
 have e:=cu (B:=B) (a:=a) (η:=a) (s:=s) (ζ:=ai .non) (y:=true) (A1:=A1) (J:=J) (v4:=v4) (q:=g.map .str) (F7:=λ_=>true) (E7:=λd=>match d with|.str n=>.tup [.str n,f n]|d=>d) o r (λd _=>rfl) (λd w _=>by
  obtain⟨x,i,rfl⟩:=List.mem_map.mp w;exact t x i) (by simp;omega)
 have A:((g.map D.str).filter λ_=>true).map (λd=>match d with|.str n=>D.tup [.str n,f n]|d=>d)=g.map λn=>.tup [.str n,f n]:=by
  rw[List.filter_eq_self.mpr (λ_ _=>rfl),List.map_map]
  rfl
 rw[A]at e;have C:(a++[Cell.lst (g.map λn=>.tup [.str n,f n])])[a.length]?=some (.lst (g.map λn=>.tup [.str n,f n])):=aq
 have l:af [] a (a++[Cell.lst (g.map λn=>.tup [.str n,f n])]):=af.app
 generalize a++[Cell.lst (g.map λn=>.tup [.str n,f n])]=c at *
 have E:bN m_ (g.map λn=>D.tup [.str n,f n])=some (g.map λn=>(.inr n,f n)):=jx (f:=m_) (g:=λn=>D.tup [.str n,f n]) (h:=λn=>(.inr n,f n)) (λn=>rfl) g
 have m:=jA (g.map λn=>((.inr n:Key),f n)) [] (by
  rw[List.nil_append,List.map_map];have:(g.map ((λp:Key×D=>p.1) ∘ λn=>((.inr n:Key),f n)))=g.map Sum.inr:=rfl
  rw[this];exact List.Pairwise.map _ (λj b k z=>k (by cases z;rfl)) u)
 rw[List.nil_append]at m;refine⟨c.length,c++[.dK (g.map λn=>(.inr n,f n))],?_,aq,l.trans af.app,l.len⟩
 rw[dX,a6,e,aw,bG,aw,aw]
 show i9 (iQ [.ref a.length] c) _=_
 simp only[iQ,aA C,E,m];rfl
def Q_:EM:=(mN (a8 .all) (ae (bC (m2 (aH .In) (aa 0) (aa 1)) true (ai .non) (bf (m2 aM (aa 0) (aa 4))) 0 [2]) ah))
def LY(a b:a_):EM:=(m2 (aY .Add) (mN bh (ae (aa 4) ah)) (mN (aX a) (ae (mN (aX b) (ae (aa 2) (ae (m2 aM (aa 0) (aa 4)) ah))) ah)))
def LZ(a b:a_):SM:=(ak (dR Q_
 (ak (ak (dW (aa 2) (aa 4) (LY a b))
 ao)
 ao)
 ao)
 ao)
def L3:SM:=(ak (dR (m2 (aH .In) (aa 4) (aa 3))
 (ak bO
 ao)
 ao)
 ao)
def Ra:EM:=(mN gZ (ae (bC (mN jU (ae (aa 0) (ae (m2 aM (aa 1) (aa 0)) ah))) true (ai .non) (bf (aa 0)) 0 [2]) ah))
def L9(a b c d:a_):SM:=
 (ak (aF 1 (mN (aX a) (ae (aa 0) ah)))
 (ak (dR (m2 (aH .IsNot) (aa 1) (ai .non))
 (ak bO
 ao)
 ao)
 (ak (aF 2 cX)
 (ak (aF 3 cX)
 (ak (dw (cV 4) (bf (mN (aX b) (ae (aa 0) ah)))
 (LZ c d))
 (ak (dw (cV 4) (bf (aa 0))
 L3)
 (ak (bS Ra)
 ao)))))))
theorem sy(h:a[b]?=some (.dK R))(c:R.length<=1000):ly (.ref b) (.str d) m a=some (a.set b (.dK (cm R (.inr d) m))):=by
 simp only[ly,h,oC];rw[if_pos (aT (by omega))]
variable{A0 u0 Ψ:Option D}{Q3:a_}{x8:List (Key×D)}
theorem FX{P':Nat->Prop}(hM:CM L)(hB:CP Q3)(he:a[b]?=some (.dF R))(hr:aE ξ a R Z)(G:a[t]?=some (.dK x8))(h:aE P' a x8 (aP g Q))(hn:d∈nms Z)(H:d∉g)(f:∀x∈cB Z d,x∈g)(I:Mg ((cB Z d).map Q++[cB Z d]) Y)(hL:Q d=d::Y)(z:(cB Z d).length<=100)(b0:g.length<=100)(ho:Y.length<=900)(K:∀j,a.length<=j->P' j):
  ∃l ax,LZ L Q3 [oR b,Ψ,oR t,u0,oS d,A0] a=.nx [oR b,Ψ,oR t,u0,oS d,A0] ax/\ax[t]?=some (.dK l)/\aE P' ax l (aP (g++[d]) Q)/\af [t] a ax:=by
 obtain⟨o,hv,_,u⟩:=hr.at hn;have M:=d4 (d:=d) (.inr he) hv
 obtain⟨e,F,K1⟩:=zm (B:=[oR b,Ψ,oR t,u0,oS d,A0]) (s:=m2 (aH .In) (aa 0) (aa 1)) (A1:=bf (m2 aM (aa 0) (aa 4))) (J:=[2]) (p:=λx=>true) u (by
  rw[cf]
  show(aM (.ref b) (.str d) a).bind _=_
  rw[M,aw];exact aU (by rw[aI,aA u])) (λx N=>by
  show aH .In (.str x) (.ref t) a=_
  rw[FT (.inl G),h.is,az,decide_eq_true (f x N)]) (by omega)
 have F:Q_ [oR b,Ψ,oR t,u0,oS d,A0] a=.ok (.bl true) e:=by
  have:((cB Z d).all λ_=>true)=true:=by simp
  rw[this]at F;exact F
 have g2:(e++[Cell.lst [.str d]])[e.length]?=some (.lst [.str d]):=aq;have y:af [] a (e++[Cell.lst [.str d]]):=K1.trans af.app
 have e0:(mN bh (ae (aa 4) ah)) [oR b,Ψ,oR t,u0,oS d,A0] e=.ok (.ref e.length) (e++[Cell.lst [.str d]]):=by
  show bh [.str d] e=_
  rw[eO,if_pos (aT (by simp))]
 generalize e++[Cell.lst [.str d]]=O at *;have P:=y.get _ _ G (by simp)
 have A:=h.keep y (by simp)
 have S:=y.get _ _ u (by simp)
 have c0:=d4 (d:=d) (.inr (y.get _ _ he (by simp))) hv
 obtain⟨js,k,T,e3,R3,U,h3,_,_⟩:=hB O t o x8 _ _ _ (.inl P) A S (by rw[az];exact f) z
 have C:(cB Z d).map (cB (aP g Q))=(cB Z d).map Q:=List.map_congr_left λx N=>aS (f x N)
 rw[C]at R3;obtain⟨q,c,e4,V,lq,X⟩:=hM T k js _ Y R3 I (by simp;omega) ho
 have d0:=gI (X.get _ _ (U.get _ _ g2 (by simp)) (by simp)) V (by simp;omega)
 have K5:af [] a (c++[Cell.lst ([.str d]++Y.map .str)]):=((y.trans U).trans X).trans af.app;have g5:(c++[Cell.lst ([.str d]++Y.map .str)])[c.length]?=some (.lst ((Q d).map .str)):=by rw[hL];exact aq
 have l4:a.length<=c.length:=((y.trans U).trans X).len
 have e5:LY L Q3 [oR b,Ψ,oR t,u0,oS d,A0] e=.ok (.ref c.length) (c++[Cell.lst ([.str d]++Y.map .str)]):=by
  unfold LY
  simp_all
 generalize c++[Cell.lst ([.str d]++Y.map .str)]=i at *;have w:=K5.get _ _ G (by simp)
 have D:=h.keep K5 (by simp)
 have E:=h.len;have a0:x8.length<=1000:=by rw[←E];simp[aP];omega
 have f0:=sy (d:=d) (m:=.ref c.length) w a0;have K6:af [t] i (i.set t (.dK (cm x8 (.inr d) (.ref c.length)))):=af.set (by simp)
 refine⟨cm x8 (.inr d) (.ref c.length),i.set t (.dK (cm x8 (.inr d) (.ref c.length))),?_,aK w,?_,(dz.up K5).trans K6⟩
 .unfold LZ
  rw[ag,bU,F,eN,dN,fD,cM,if_pos rfl,ag,ag]
  have:dW (aa 2) (aa 4) (LY L Q3) [oR b,Ψ,oR t,u0,oS d,A0] e=.nx [oR b,Ψ,oR t,u0,oS d,A0] (i.set t (.dK (cm x8 (.inr d) (.ref c.length)))):=by
   unfold dW
   simp_all
  rw[this];rfl
 .have:=D.put (n:=d) (r:=Q d) (by rw[az];exact H) (K _ l4) g5
  have h6:=this.bY K6 (λj hj ds=>by rw[List.mem_singleton.mp hj,w];simp)
  have:aP g Q++[(d,Q d)]=aP (g++[d]) Q:=by simp[aP]
  rw[this]at h6;exact h6
def JL(f:a_):Prop:=∀(c:aJ) (e:Nat) (b:List (Key×D)) (E:eP) (P:Nat->Prop) (L:Str->List Str),cy c e b->aE P c b E->Gd E->JJ E L->(∀n∈nms E,(L n).length<=900) ->
 ∃l d a,f [.ref e] c=.ok (.ref l) a/\a[l]?=some (.dK d)/\aE (λj=>c.length<=j) a d (aP (nms E) L)/\af [e] c a/\a[e]?=some (.dF b)/\c.length<=l
variable{L5 m6:a_}
theorem JM(hO:FW L)(hE:CO Q3)(hM:CM L5)(hB:CP m6):JL (bT 6 1 (L9 L Q3 L5 m6)):=by
 intro Ω e d0 E P u hd hr G hL t0;rw[bj (by rfl)]
 have e0:a7 6 [D.ref e]=[oR e,none,none,none,none,none]:=rfl;rw[e0];have V0:=G.few;have v0:(nms E).length=E.length:=by simp[nms]
 obtain⟨a,e1,K1,w0⟩:=hO Ω e d0 E P hd hr G;have x0:=hr.bY K1 (λj T ds=>by rw[List.mem_singleton.mp T];exact hd.nl ds)
 have le:=hd.lt;have K2:af [] a (a++[Cell.dK []]):=af.app;have g2:(a++[Cell.dK []])[a.length]?=some (.dK []):=aq;have l2:(a++[Cell.dK []]).length=a.length+1:=by simp
 have r2:aF 2 cX [oR e,some .non,none,none,none,none] a=.nx [oR e,some .non,oR a.length,none,none,none] (a++[Cell.dK []]):=rfl;generalize a++[Cell.dK []]=l at *;have K3:af [] l (l++[Cell.dK []]):=af.app;have g3:(l++[Cell.dK []])[l.length]?=some (.dK []):=aq;have l3:(l++[Cell.dK []]).length=l.length+1:=by simp
 have r3:aF 3 cX [oR e,some .non,oR a.length,none,none,none] l=.nx [oR e,some .non,oR a.length,oR l.length,none,none] (l++[Cell.dK []]):=rfl;generalize l++[Cell.dK []]=N at *;have H:=K2.trans K3;have U:=H.get _ _ w0 (by simp)
 have f0:=x0.keep H (by simp)
 have y0:=K3.get _ _ g2 (by simp)
 obtain⟨y,z,p,e4,g0,F,S,K4,V,lz⟩:=hE N e d0 E P (.inr U) f0 G;have X:a.length≠e:=by have:=K1.len;omega
 have h0:l.length≠e:=by have:=K1.len;omega
 have i0:=K4.get _ _ y0 (by simpa using X)
 have z0:=K4.get _ _ g3 (by simpa using h0)
 have C0:=f0.bY K4 (λj T ds=>by rw[List.mem_singleton.mp T,U];simp)
 have W0:y.length<=E.length:=by
  have:=gs F.nd F.sub;omega
 have S0:=K4.len;have T0:=K1.len
 have D0:af [] N p:=⟨K4.len,λk c hk _=>by
  by_cases h:k=e
  .subst h;rw[U]at hk;cases hk;exact V
  .exact K4.get k c hk (by simpa using h)⟩
 have j0:bf (mN (aX Q3) (ae (aa 0) ah)) [oR e,some .non,oR a.length,oR l.length,none,none] N=.ok (.seq (.ref z)) p:=by
  rw[cf];have:(mN (aX Q3) (ae (aa 0) ah)) [oR e,some .non,oR a.length,oR l.length,none,none] N=.ok (.ref z) p:=by simp[e4]
  rw[this,aw];exact aU (by rw[aI,aA g0])
 have l0:∃m A b,gm (cV 4) (.seq (.ref z)) (LZ L5 m6) fuel 0 [oR e,some .non,oR a.length,oR l.length,none,none] p=.nx [oR e,some .non,oR a.length,oR l.length,A,none] b/\b[a.length]?=some (.dK m)/\aE (λj=>p.length<=j) b m (aP y u)/\af [a.length] p b:=by
  have G0:∀I,af [a.length] p I->I[z]?=some (.lst (y.map .str)):=λI K=>K.get _ _ g0 (by simp;omega)
  refine bX (R:=λr=>∃m A b,r=.nx [oR e,some .non,oR a.length,oR l.length,A,none] b/\b[a.length]?=some (.dK m)/\aE (λj=>p.length<=j) b m (aP y u)/\af [a.length] p b) (q:=y.map .str)
   (λi O b=>∃m A,O=[oR e,some .non,oR a.length,oR l.length,A,none]/\b[a.length]?=some (.dK m)/\aE (λj=>p.length<=j) b m (aP (y.take i) u)/\af [a.length] p b) ?_ ?_ ?_ fuel 0 _ _ (by unfold fuel;simp;omega) (Nat.zero_le _) ⟨[],none,rfl,i0,.nil,af.refl⟩
  .rintro i O b ⟨_,_,_,_,_,K⟩
   rw[cg,aI,aA (G0 _ K)]
  .rintro i d O b Y ⟨m,A,rfl,M,Z,K⟩
   obtain⟨n,C,rfl⟩:=fF Y;refine⟨[oR e,some .non,oR a.length,oR l.length,oS n,none],rfl,?_⟩;have Q:=F.sub n (List.mem_of_getElem? C);obtain⟨o,I0,m0⟩:=hL n Q;have ho:o.length<=900:=by have:=t0 n Q;rw[m0]at this;simp at this;omega
   have w:=K.get _ _ V (by simpa using Ne.symm X)
   have a0:=C0.bY K (λj T ds=>by rw[List.mem_singleton.mp T,i0];simp)
   have J0:n∉y.take i:=by
    intro hm;obtain⟨i',b0⟩:=List.mem_iff_getElem?.mp hm;have K0:=(List.getElem?_eq_some_iff.mp b0).1;rw[List.length_take]at K0;rw[List.getElem?_take_of_lt (by omega)]at b0
    have:=(List.getElem?_inj (by omega) F.nd).mp (b0.trans C.symm)
    omega
   obtain⟨n0,x,e6,h6,h7,K6⟩:=FX (P':=λj=>p.length<=j) hM hB (d:=n) (Ψ:=some .non) (u0:=oR l.length) (A0:=none) w a0 M Z Q J0 (F.pre i n C) I0 m0 (G.short n Q) (by rw[List.length_take];omega) ho (λj T=>Nat.le_trans K.len T)
   rw[e6];refine⟨n0,oS n,rfl,h6,?_,K.trans K6⟩;rw[List.take_succ,C];exact h7
  .rintro O b ⟨m,A,rfl,M,Z,K⟩
   rw[List.length_map,List.take_length]at Z;exact⟨m,A,b,rfl,M,Z,K⟩
 obtain⟨m,A,b,e5,h5,a0,K5⟩:=l0;have w:=K5.get _ _ V (by simpa using Ne.symm X)
 have L0:=K5.get _ _ z0 (by simp;omega)
 have o0:bf (aa 0) [oR e,some .non,oR a.length,oR l.length,A,none] b=.ok (.keys e) b:=by
  rw[cf]
  show srcOf b (.ref e)=_
  rw[qO (.inr w),set_same w]
 have c0:∃t,gm (cV 4) (.keys e) L3 fuel 0 [oR e,some .non,oR a.length,oR l.length,A,none] b=.nx [oR e,some .non,oR a.length,oR l.length,t,none] b:=by
  refine bX (R:=λr=>∃t,r=.nx [oR e,some .non,oR a.length,oR l.length,t,none] b) (q:=(nms E).map .str)
   (λi O x=>x=b/\∃t,O=[oR e,some .non,oR a.length,oR l.length,t,none]) ?_ ?_ ?_ fuel 0 _ _ (by unfold fuel;simp;omega) (Nat.zero_le _) ⟨rfl,A,rfl⟩
  .rintro i O x ⟨rfl,_⟩
   rw[lK w,hr.keys]
  .rintro i d O x Y ⟨rfl,t,rfl⟩
   obtain⟨n,C,rfl⟩:=fF Y;refine⟨[oR e,some .non,oR a.length,oR l.length,oS n,none],rfl,?_⟩;have M0:=FT (d:=n) (.inl L0)
   have:L3 [oR e,some .non,oR a.length,oR l.length,oS n,none] x=.nx [oR e,some .non,oR a.length,oR l.length,oS n,none] x:=by
    unfold L3;rw[ag,bU]
    show sq (bu (bZ (aH .In (.str n) (.ref l.length) x)) _) _=_
    rw[M0];rfl
   rw[this];exact⟨rfl,_,rfl⟩
  .rintro O x ⟨rfl,t,rfl⟩
   exact⟨t,rfl⟩
 obtain⟨t,e6⟩:=c0
 have p0:∀n∈nms E,∃j,(b_ m (.inr n)).getD .non=.ref j/\p.length<=j/\b[j]?=some (.lst ((u n).map .str))/\b_ m (.inr n)=oR j:=λn C=>by
  obtain⟨j,M,Z,h3⟩:=a0.at (n:=n) (by rw[az];exact S n C)
  rw[aS (S n C)]at h3;exact⟨j,by rw[M];rfl,Z,h3,M⟩
 have q0:bf (aa 0) [oR e,some .non,oR a.length,oR l.length,t,none] b=.ok (.keys e) b:=by
  rw[cf]
  show srcOf b (.ref e)=_
  rw[qO (.inr w),set_same w]
 obtain⟨q,r0,e7,g7,K7,lq⟩:=sx (B:=[oR e,some .non,oR a.length,oR l.length,t,none]) (s:=mN jU (ae (aa 0) (ae (m2 aM (aa 1) (aa 0)) ah))) (J:=[2]) (g:=nms E) (f:=λn=>(b_ m (.inr n)).getD .non) q0 (by rw[lK w,hr.keys]) (λn C=>by
  obtain⟨j,M,_,_,h4⟩:=p0 n C;have P0:=d4 (d:=n) (.inl h5) h4
  show(((aM (.ref a.length) (.str n) b).bind _).bind _).bind _=_
  rw[P0]
  show jU [.str n,.ref j] b=_
  rw[o9,if_pos (aT (by simp)),M]) (by omega) G.nd
 have s0:af [] a b:=⟨by have:=H.len;have:=K5.len;omega,λk c hk _=>K5.get k c (D0.get k c (H.get k c hk (by simp)) (by simp)) (by have:=bc hk;simp;omega)⟩
 refine⟨q,_,r0,?_,g7,?_,K1.trans (dz.up (s0.trans K7)),K7.get _ _ w (by simp),by have:=s0.len;omega⟩
 .unfold L9
  have r1:(aF 1 (mN (aX L) (ae (aa 0) ah))) [oR e,none,none,none,none,none] Ω=.nx [oR e,some .non,none,none,none,none] a:=by simp[e1]
  have Q0:(dR (m2 (aH .IsNot) (aa 1) (ai .non)) (ak bO ao) ao) [oR e,some .non,none,none,none,none] a=.nx [oR e,some .non,none,none,none,none] a:=by simp
  rw[ag,r1,aD,ag,Q0,aD,ag,r2,aD,ag,r3,aD,ag,cR,j0,cM,e5,aD,ag,cR,o0,cM,e6,aD,ag,gF];have R0:Ra [oR e,some .non,oR a.length,oR l.length,t,none] b=.ok (.ref q) r0:=e7;rw[R0];rfl
 .refine zp λn C=>?_
  obtain⟨j,M,Z,h3,_⟩:=p0 n C;exact⟨j,M,by have:=H.len;omega,K7.get _ _ h3 (by simp)⟩
def vI(x:Str):Prop:=1<=x.length/\x.length<=8/\∀c∈x.cps.toList,97<=c/\c<=122
theorem FY:∀c,97<=c->c<=122->th (bz c) "abcdefghijklmnopqrstuvwxyz"=true:=by
 have:∀i,i<26->th (bz (97+i)) "abcdefghijklmnopqrstuvwxyz"=true:=by decide +kernel
 intro c a b;have:=this (c - 97) (by omega)
 grind
def inC:EM:=(bC (m2 (aH .In) (aa 0) (ai (.str "abcdefghijklmnopqrstuvwxyz"))) true (ai .non) (bf (aa 0)) 0 [])
def L_:SM:=
 (ak (dR (iO (m1 (oK .str) (aa 0)))
 (ak (bS (ai (.bl false)))
 ao)
 ao)
 (ak (bS (iN (k_ .LtE .LtE (ai (.int 1)) (mN (a8 .len) (ae (aa 0) ah)) (ai (.int 8))) (mN (a8 .all) (ae inC ah))))
 ao))
def FZ(c:a_):Prop:=∀(b:aJ) (x:Str),vI x->∃a,c [.str x] b=.ok (.bl true) a/\af [] b a
theorem JN:FZ (bT 1 1 L_):=by
 intro e x i;obtain⟨o,p,f⟩:=i;rw[bj (by rfl)]
 have j:a7 1 [D.str x]=[oS x]:=rfl;rw[j]
 have g:=cu (B:=[oS x]) (s:=m2 (aH .In) (aa 0) (ai (.str "abcdefghijklmnopqrstuvwxyz"))) (ζ:=ai .non) (y:=true) (A1:=bf (aa 0)) (J:=[]) (E7:=λd=>.bl true) rfl rfl (λd _=>rfl) (λd k _=>by
  obtain⟨c,h,rfl⟩:=List.mem_map.mp k;have:=FY c (f c h).1 (f c h).2
  show aH .In (.str (bz c)) (.str _) e=_
  simp[d_,inD,this]) (by
  have:x.cps.toList.length=x.length:=by rfl
  grind)
 have q:((x.cps.toList.map λc=>D.str (bz c)).filter λ_=>true).map (λ_=>D.bl true)=(x.cps.toList.map λ_=>true).map .bl:=by
  rw[List.filter_eq_self.mpr (λ_ _=>rfl),List.map_map,List.map_map]
  rfl
 have g:inC [oS x] e=.ok _ _:=g;have r:=uf (a:=e++[.lst ((x.cps.toList.map λ_=>true).map .bl)]) aq
 refine⟨e++[.lst ((x.cps.toList.map λ_=>true).map .bl)],?_,af.app⟩
 have l:(mN (a8 .all) (ae inC ah)) [oS x] e=.ok (.bl true) (e++[.lst ((x.cps.toList.map λ_=>true).map .bl)]):=by
  simp_all
 have m:(k_ .LtE .LtE (ai (.int 1)) (mN (a8 .len) (ae (aa 0) ah)) (ai (.int 8))) [oS x] e=.ok (.bl true) e:=by
  have t:a8 .len [.str x] e=.ok (.int x.length) e:=by
   show oH .len [.str x] e=_
   unfold oH;simp[aT (b:=x.length) (by omega)]
  have u:eg .LtE (.int 1) (.int x.length) e=.ok (.bl true) e:=by
   have:decide ((1:Int)<=x.length)=true:=by simp;omega
   simp_all
  have w:eg .LtE (.int x.length) (.int 8) e=.ok (.bl true) e:=by
   have:decide ((x.length:Int)<=8)=true:=by simp;omega
   simp_all
  unfold k_
  simp_all
 have n:(dR (iO (m1 (oK .str) (aa 0))) (ak (bS (ai (.bl false))) ao) ao) [oS x] e=.nx [oS x] e:=by rfl
 unfold L_;rw[ag,n,aD,ag,gF,kr,m,aw,dN,Ec,l];rfl
def eT(P:Nat->Prop)(a:aJ)(h e l:Nat)(E:eP)(L:Str->List Str):Prop:=
 ∃b c,a[h]?=some (.ins "House" [("elders",.ref e),("lines",.ref l)])/\a[e]?=some (.dK b)/\aE P a b E/\a[l]?=some (.dK c)/\aE P a c (aP (nms E) L)
def cC(P:Nat->Prop)(a:aJ)(h:Nat)(E:eP)(L:Str->List Str):Prop:=∃e l,eT P a h e l E L
variable{υ:Nat}
theorem eT.at(H:eT ξ a t b υ Z Q):cC ξ a t Z Q:=⟨b,υ,H⟩
theorem eT.keep{g ax:aJ}{e h:Nat}{E:eP}{P:Nat->Prop}{L:Str->List Str}{l:Nat}{fp:List Nat}(H:eT P g h e l E L)(K:af fp g ax)(k:h∉fp)(m:e∉fp)(n:l∉fp)(i:∀j∈fp,¬ P j):eT P ax h e l E L:=by
 obtain⟨o,p,a,b,c,d,f⟩:=H;exact⟨_,_,K.get _ _ a k,K.get _ _ b m,c.keep K i,K.get _ _ d n,f.keep K i⟩
theorem eT.imp{a:aJ}{e h:Nat}{E:eP}{P P':Nat->Prop}{L:Str->List Str}{l:Nat}(H:eT P a h e l E L)(b:∀j,P j->P' j):eT P' a h e l E L:=by
 obtain⟨c,d,f,g,i,k,m⟩:=H;exact⟨_,_,f,g,i.imp b,k,m.imp b⟩
theorem eT.Ma(H:eT ξ a t b υ Z Q):∀j c,a[j]?=some (.lst c)->t≠j/\b≠j/\υ≠j:=λj c z=>by
 obtain⟨d,e,f,g,h,i,k⟩:=H;exact⟨by grind,by grind,by grind⟩
theorem cC.or(H:cC ξ a b Z Q):∃e l c d,a[b]?=some (.ins "House" [("elders",.ref e),("lines",.ref l)])/\cy a e c/\aE ξ a c Z/\cy a l d/\aE ξ a d (aP (nms Z) Q):=by
 obtain⟨e,l,c,d,f,g,h,i,j⟩:=H;exact⟨e,l,_,_,f,.inl g,h,.inl i,j⟩
theorem cC.keep{a ax:aJ}{h:Nat}{E:eP}{P:Nat->Prop}{L:Str->List Str}(H:cC P a h E L)(K:af [] a ax):cC P ax h E L:=by
 obtain⟨e,l,b,c,d,f,g,i,j⟩:=H;exact⟨e,l,_,_,K.get _ _ d (by simp),K.get _ _ f (by simp),g.keep K (by simp),K.get _ _ i (by simp),j.keep K (by simp)⟩
theorem cC.imp{a:aJ}{h:Nat}{E:eP}{P P':Nat->Prop}{L:Str->List Str}(H:cC P a h E L)(b:∀j,P j->P' j):cC P' a h E L:=by
 obtain⟨e,l,c,d,f,g,i,k,m⟩:=H;exact⟨e,l,_,_,f,g,i.imp b,k,m.imp b⟩
theorem cC.lt{a:aJ}{h:Nat}{E:eP}{P:Nat->Prop}{L:Str->List Str}(H:cC P a h E L):cC (λj=>P j/\j<a.length) a h E L:=by
 obtain⟨e,l,b,c,d,f,g,i,k⟩:=H;exact⟨e,l,_,_,d,f,g.lt,i,k.lt⟩
theorem cC.JO(H:cC ξ a t Z Q)(K:af [b] a η)(c:a[b]?=some (.lst q))(o:¬ ξ b):cC ξ η t Z Q:=by
 obtain⟨e,l,i,k,d,f,m,g,n⟩:=H;have h:∀j∈[b],¬ ξ j:=λj p=>by simp_all
 exact⟨e,l,_,_,K.get _ _ d (by simpa using (λz=>by rw[z,c]at d;cases d)),K.get _ _ f (by simpa using (λz=>by rw[z,c]at f;cases f)),m.keep K h,K.get _ _ g (by simpa using (λz=>by rw[z,c]at g;cases g)),n.keep K h⟩
theorem zq(H:aE ξ a R (aP (nms Z) Q)):R.length=Z.length:=by
 have:=H.len;simp[aP,nms]at this;omega
def fe:EM:=(m1 (dH ["House"] "elders") (aa 0))
def Hn:EM:=(m1 (dH ["House"] "lines") (aa 0))
theorem iX(c:a[t]?=some (.ins "House" [("elders",.ref b),("lines",.ref υ)])):dH ["House"] "elders" (.ref t) a=.ok (.ref b) a:=ub c rfl rfl
theorem ug(c:a[t]?=some (.ins "House" [("elders",.ref b),("lines",.ref υ)])):dH ["House"] "lines" (.ref t) a=.ok (.ref υ) a:=ub c rfl rfl
def Mb:SM:=(ak (bS (mN (a8 .list) (ae fe ah))) ao)
def qQ(c:a_):Prop:=∀(b:aJ) (h:Nat) (E:eP) (L:Str->List Str) (P:Nat->Prop),cC P b h E L->∃k a,c [.ref h] b=.ok (.ref k) a/\a[k]?=some (.lst ((nms E).map .str))/\af [] b a/\b.length<=k
theorem JP:qQ (bT 1 1 Mb):=by
 intro a h E L P H;obtain⟨e,l,c,d,f,g,i,j,k⟩:=H.or;rw[bj (by rfl)]
 have m:a7 1 [D.ref h]=[oR h]:=rfl;have b:=FU g;rw[i.keys]at b;refine⟨_,a++[.lst _],?_,aq,af.app,Nat.le_refl _⟩
 have:(mN (a8 .list) (ae fe ah)) [oR h] a=.ok (.ref a.length) (a++[.lst ((nms E).map .str)]):=by
  show(((dH _ _ _ a).bind _).bind _)=_
  rwa[iX f]
 unfold Mb
 simp_all
variable{d0:AM}
theorem b9(H:cC ξ a b Z Q)(i:B[t]?=some (oR b))(j:([("elders",D.ref 0),("lines",D.ref 0)]:List (Str×D)).lookup d=none):aZ "House" d L (aa t) d0 B a=(d0 B a).bind λxs c=>nr (L (.ref b::xs) c):=by
 obtain⟨e,l,f,g,h,k,m,n,o⟩:=H;refine CG (by simp_all) h ?_
 simp_all
def Mc(a:a_):SM:=
 (ak (dR (m2 (aH .NotIn) (aa 1) (aZ "House" "kinds" a (aa 0) ah))
 (ak bO
 ao)
 ao)
 ao)
def qR(c:a_):Prop:=∀(b:aJ) (h:Nat) (E:eP) (L:Str->List Str) (P:Nat->Prop) (n:Str),cC P b h E L->n∈nms E->∃a,c [.ref h,.str n] b=.ok .non a/\af [] b a
theorem JQ(e:qQ L):qR (bT 2 2 (Mc L)):=by
 intro c h E a P n H j;rw[bj (by rfl)]
 have l:a7 2 [D.ref h,.str n]=[oR h,oS n]:=rfl;obtain⟨k,b,f,g,m,_⟩:=e c h E a P H
 have o:aZ "House" "kinds" L (aa 0) ah [oR h,oS n] c=.ok (.ref k) b:=by
  rw[b9 H rfl (by decide),bG,aw,f,FG]
 have i:=kz (d:=n) g;unfold Mc
 simp_all
def Ot(a:a_):SM:=(ak (cF (aZ "House" "check_kind" a (aa 0) (ae (aa 3) ah)))
 (ak (dR (m2 (aH .In) (aa 3) (dG (aa 1) true (ai .non) false (aa 2)))
 (ak bO
 ao)
 ao)
 ao))
def Md(a:a_):SM:=
 (ak (dR (m2 (aH .Gt) (mN (a8 .len) (ae (aa 1) ah)) (ai (.int 5)))
 (ak bO
 ao)
 ao)
 (ak (dw (dS [2,3]) (jV (aa 1))
 (Ot a))
 ao))
def F9(CE:a_):Prop:=∀(c:aJ) (h a:Nat) (E:eP) (L:Str->List Str) (P:Nat->Prop) (r:List Str),cC P c h E L->c[a]?=some (.lst (r.map .str))->r.Nodup->r.length<=5->(∀x∈r,x∈nms E)->∃b,CE [.ref h,.ref a] c=.ok .non b/\af [] c b
theorem F_(i:qR L)(H:cC ξ a b Z Q)(j:a[t]?=some (.lst (g.map .str)))(k:g[υ]?=some d)(l:g.Nodup)(m:d∈nms Z):
  ∃ax,Ot L [oR b,oR t,oI υ,oS d] a=.nx [oR b,oR t,oI υ,oS d] ax/\af [] a ax:=by
 obtain⟨c,u,h⟩:=i a b Z Q ξ d H m
 have w:aZ "House" "check_kind" L (aa 0) (ae (aa 3) ah) [oR b,oR t,oI υ,oS d] a=.ok .non c:=by
  rw[b9 H rfl (by decide)]
  simp_all
 have n:=o_ (t:=υ) (h.get _ _ j (by simp))
 have o:(c++[Cell.lst ((g.take υ).map .str)])[c.length]?=some _:=aq;have x:af [] a (c++[Cell.lst ((g.take υ).map .str)]):=h.trans af.app;generalize c++[Cell.lst _]=p at *;have q:=ic (d:=d) o
 have r:d∉g.take υ:=by
  intro s;obtain⟨y,e⟩:=List.mem_iff_getElem?.mp s;have f:=(List.getElem?_eq_some_iff.mp e).1;rw[List.length_take]at f;rw[List.getElem?_take_of_lt (by omega)]at e
  have:=(List.getElem?_inj (by omega) l).mp (e.trans k.symm)
  omega
 unfold Ot
 simp_all
theorem JR(s:qR L):F9 (bT 4 2 (Md L)):=by
 intro b h a E j P r H g t F u;rw[bj (by rfl)]
 have w:a7 4 [D.ref h,.ref a]=[oR h,oR a,none,none]:=rfl;rw[w]
 have y:(dR (m2 (aH .Gt) (mN (a8 .len) (ae (aa 1) ah)) (ai (.int 5))) (ak bO ao) ao) [oR h,oR a,none,none] b=.nx [oR h,oR a,none,none] b:=by
  have e:=gG g;rw[List.length_map]at e;rw[bU,dh];have:(mN (a8 .len) (ae (aa 1) ah)) [oR h,oR a,none,none] b=.ok _ b:=e;rw[this,aw,t5,aw]
  have:aH .Gt (.int r.length) (.int 5) b=.ok (.bl false) b:=by
   simp[d_];omega
  rw[this];rfl
 have k:jV (aa 1) [oR h,oR a,none,none] b=.ok (.IY (.ref a)) b:=by
  unfold jV;simp[aA g]
 unfold Md;rw[ag,y,aD,ag,cR,k]
 refine bX (R:=λr=>∃f,gR (sq r _)=.ok _ f/\af [] b f) (q:=dq 0 (r.map .str))
  (λi l c=>∃n o,l=[oR h,oR a,n,o]/\af [] b c) ?_ ?_ ?_ _ 0 _ _ (by rw[fy];unfold fuel;simp;omega) (Nat.zero_le _) ⟨_,_,rfl,af.refl⟩
 .rintro i l c ⟨_,_,_,K⟩
  show(gg _ (.ref a)).map _=_
  rw[aI,aA (K.get _ _ g (by simp))];rfl
 .rintro i d l c z ⟨n,o,rfl,K⟩
  obtain⟨G,m,rfl⟩:=iD _ 0 i d z;obtain⟨x,p,rfl⟩:=fF m;rw[Nat.zero_add];refine⟨[oR h,oR a,oI i,oS x],rfl,?_⟩;obtain⟨A,B,C⟩:=F_ s (H.keep K) (K.get _ _ g (by simp)) p t (u x (List.mem_of_getElem? p))
  rw[B];exact⟨_,_,rfl,K.trans C⟩
 .simp
def Me(a:a_):SM:=
 (ak (cF (aZ "House" "check_kind" a (aa 0) (ae (aa 1) ah)))
 (ak (bS (mN (a8 .list) (ae (m2 aM Hn (aa 1)) ah)))
 ao))
def Ga(c:a_):Prop:=∀(b:aJ) (h:Nat) (E:eP) (L:Str->List Str) (P:Nat->Prop) (n:Str),cC P b h E L->n∈nms E->∃k a,c [.ref h,.str n] b=.ok (.ref k) a/\a[k]?=some (.lst ((L n).map .str))/\af [] b a/\b.length<=k
theorem JS(i:qR L):Ga (bT 2 2 (Me L)):=by
 intro d h E a P n H f;rw[bj (by rfl)]
 have s:a7 2 [D.ref h,.str n]=[oR h,oS n]:=rfl;obtain⟨b,t,c⟩:=i d h E a P n H f
 have u:aZ "House" "check_kind" L (aa 0) (ae (aa 1) ah) [oR h,oS n] d=.ok .non b:=by
  rw[b9 H rfl (by decide)]
  simp_all
 obtain⟨e,l,k,m,o,w,x,p,q⟩:=(H.keep c).or;obtain⟨j,r,_,g⟩:=q.at (by rwa[az])
 rw[aS f]at g;refine⟨_,b++[.lst _],?_,aq,c.trans af.app,c.len⟩
 have:(mN (a8 .list) (ae (m2 aM Hn (aa 1)) ah)) [oR h,oS n] b=.ok (.ref b.length) (b++[.lst ((a n).map .str)]):=by
  show((((dH _ _ _ _).bind _).bind _).bind _)=_
  rw[ug o]
  show(((aM _ _ _).bind _).bind _)=_
  rw[d4 p r];exact(cw g)
 unfold Me
 simp_all
variable{F5:List (Str×D)}{ζ:EM}
theorem gJ(c:ζ B a=.ok m η)(e:s B η=.ok (.ref b) η)(f:η[b]?=some (.ins "House" F5))(g:F5.length<1000):dU ["House"] d s ζ B a=.nx B (η.set b (.ins "House" (qw d m F5))):=by
 unfold dU;rw[c,cM,e,cM,ky f]
 simp_all
def JT:SM:=
 (ak (dU ["House"] "elders" (aa 0) cX)
 (ak (dU ["House"] "lines" (aa 0) cX)
 ao))
def JU(c:a_):Prop:=∀(b:aJ) (L:Str->List Str) (P:Nat->Prop),∃a,lu "House" c [] b=.ok (.ref b.length) a/\cC P a b.length [] L/\af [] b a
def JV(c:a_):Prop:=∀(b:aJ) (L:Str->List Str) (P:Nat->Prop),∃e l a,lu "House" c [] b=.ok (.ref b.length) a/\eT P a b.length e l [] L/\af [] b a/\b.length<e/\e<l
theorem JV.at{d:a_}(h:JV d):JU d:=λf L P=>let ⟨e,l,g,a,b,c,_⟩:=h f L P;⟨_,a,b.at,c⟩
theorem JW:JV (bT 1 1 JT):=by
 intro c L P;have i:(c++[Cell.ins "House" []])[c.length]?=some _:=aq;have j:af [] c (c++[Cell.ins "House" []]):=af.app;have q:(c++[Cell.ins "House" []]).length=c.length+1:=by simp
 unfold lu;generalize c++[Cell.ins _ []]=a at *;rw[bj (by rfl)]
 have k:a7 1 [D.ref _]=[oR c.length]:=rfl;rw[k];have f:(a++[Cell.dK []])[c.length]?=some _:=cS i;have r:dU _ _ (aa 0) cX _ _=.nx [oR _] ((a++[Cell.dK []]).set _ (.ins _ [("elders",.ref _)])):=gJ rfl rfl f (by simp)
 have l:=aK (e:=.ins "House" [("elders",.ref a.length)]) f;have m:af [c.length] _ ((a++[Cell.dK []]).set c.length (.ins "House" [("elders",.ref a.length)])):=af.app.trans (af.set (by simp))
 have n:((a++[Cell.dK []]).set c.length (.ins "House" [("elders",.ref a.length)]))[a.length]?=some _:=dg aq (by omega)
 have s:((a++[Cell.dK []]).set c.length (.ins "House" [("elders",.ref a.length)])).length=a.length+1:=by simp
 generalize (a++[Cell.dK []]).set _ _=b at *;have g:(b++[Cell.dK []])[c.length]?=some _:=cS l;have t:dU _ "lines" (aa 0) cX _ _=.nx [oR _] ((b++[Cell.dK []]).set _ (.ins _ [("elders",.ref _),("lines",.ref _)])):=gJ rfl rfl g (by simp)
 have o:=aK (e:=.ins "House" [("elders",.ref a.length),("lines",.ref b.length)]) g;have h:af [c.length] _ ((b++[Cell.dK []]).set c.length (.ins "House" [("elders",.ref a.length),("lines",.ref b.length)])):=af.app.trans (af.set (by simp))
 have p:((b++[Cell.dK []]).set c.length (.ins "House" [("elders",.ref a.length),("lines",.ref b.length)]))[b.length]?=some _:=dg aq (by omega)
 generalize (b++[Cell.dK []]).set _ _=d at *;refine⟨_,_,_,?_,⟨[],[],o,h.get _ _ n (by simp;omega),.nil,p,.nil⟩,af.new j (m.trans h) (by simp),by omega,by omega⟩
 have:gR (JT [oR c.length] a)=.ok .non d:=by
  unfold JT
  simp_all
 rw[this]
theorem zr(h:a.length<=b):(cp a η)[b]?=η[b]?:=by
 unfold cp;rw[List.getElem?_mapIdx,List.getElem?_eq_none h];cases η[b]? with
 |none=>rfl
 |some c=>cases c<;>rfl
theorem qS(h:η[b]?=some (.lst q)):(cp a η)[b]?=some (.lst q):=by
 unfold cp;rw[List.getElem?_mapIdx,h];rfl
theorem nE(e:a.length<=η.length)(d:∀(k:Nat) (c:Cell),a[k]?=some c->η[k]?=some c\/∃kvs,c=Cell.dK kvs/\η[k]?=some (.dF kvs)):af [] a (cp a η):=⟨by unfold cp;simp_all,λk c h _=>by
 unfold cp;rw[List.getElem?_mapIdx,h];rcases d k c h with b|⟨kvs,rfl,b⟩
 .rw[b];cases c<;>rfl
 .rw[b];rfl⟩
theorem vJ(e:aE ξ η R Z):aE ξ (cp a η) R Z:=aG.imp (λ_ _ ⟨f,j,b,c,d⟩=>⟨f,j,b,c,qS d⟩) e
def Ou(f:a_):Prop:=∀(b:aJ) (e:Nat) (c:List (Key×D)) (E:eP) (P:Nat->Prop) (L:Str->List Str),b[e]?=some (.dK c)->aE P b c E->Gd E->JJ E L->(∀n∈nms E,(L n).length<=900) ->
 ∃l d a,f [.ref e] b=.ok (.ref l) a/\a[l]?=some (.dK d)/\aE (λj=>b.length<=j) a d (aP (nms E) L)/\af [] b a/\b.length<=l
theorem CS(h:JL L):Ou (fL L):=by
 intro f e g E P a i j G m n;obtain⟨l,o,p,q,s,b,K,t,d⟩:=h f e _ E P a (.inl i) j G m n;refine⟨l,_,_,by unfold fL;rw[q],by rwa[zr d],vJ b,nE K.len λk c r=>?_,d⟩
 by_cases z:k=e
 .simp_all
 .exact .inl (K.get _ _ r (by simp_all))
def Mf(a:a_):SM:=
 (ak (aF 2 (mN (aX a) (ae (aa 1) ah)))
 (ak (dU ["House"] "elders" (aa 0) (aa 1))
 (ak (dU ["House"] "lines" (aa 0) (aa 2))
 ao)))
def zt(d:a_):Prop:=∀(a:aJ) (h e f g:Nat) (c:List (Key×D)) (E:eP) (P:Nat->Prop) (L:Str->List Str),a[h]?=some (.ins "House" [("elders",.ref f),("lines",.ref g)])->a[e]?=some (.dK c)->aE P a c E->Gd E->JJ E L->(∀n∈nms E,(L n).length<=900)->(∀j,a.length<=j->P j) ->
 ∃l b,d [.ref h,.ref e] a=.ok .non b/\eT P b h e l E L/\af [h] a b/\a.length<=l
theorem JX(w:Ou L):zt (bT 3 2 (Mf L)):=by
 intro x h e y g A E P c i k r G B m C;rw[bj (by rfl)]
 have N:a7 3 [D.ref h,.ref e]=[oR h,oR e,none]:=rfl;obtain⟨l,F,b,O,n,o,f,H⟩:=w x e _ E P c k r G B m;have p:=f.get _ _ i (by simp)
 have q:=r.keep f (by simp)
 have Q:dU _ "elders" (aa 0) (aa 1) _ _=.nx [oR h,oR e,oR l] (b.set h (.ins _ [("elders",.ref e),("lines",.ref g)])):=gJ rfl rfl p (by simp)
 have s:=aK (e:=.ins "House" [("elders",.ref e),("lines",.ref g)]) p;have I:af [h] _ (b.set h (.ins "House" [("elders",.ref e),("lines",.ref g)])):=af.set (by simp)
 generalize b.set h _=d at *;have R:dU _ "lines" (aa 0) (aa 2) [oR h,oR e,oR l] _=.nx _ (d.set h (.ins _ [("elders",.ref e),("lines",.ref l)])):=gJ rfl rfl s (by simp)
 have J:=aK (e:=.ins "House" [("elders",.ref e),("lines",.ref l)]) s;have K:af [h] _ (d.set h (.ins "House" [("elders",.ref e),("lines",.ref l)])):=af.set (by simp)
 generalize d.set h _=M at *;have a:=I.trans K;have t:∀j∈[h],∀u,b[j]?≠some (.lst u):=λj S u=>by simp_all
 refine⟨l,_,?_,⟨_,_,J,a.get _ _ (f.get _ _ k (by simp)) (by simpa using Ne.symm (λz=>by rw[z,k]at i;cases i)),q.bY a t,a.get _ _ n (by simpa using (λz=>by rw[z,p]at n;cases n)),(o.imp C).bY a t⟩,(f.sub (by simp)).trans (a.sub (by simp)),H⟩
 unfold Mf
 simp_all
def JY:EM:=(mN jU (ae (aa 0) (ae (Bu (m2 (aH .Eq) (aa 0) (aa 2)) (mN (a8 .list) (ae (aa 1) ah)) (m2 aM (m1 (dH ["House"] "elders") (aa 3)) (aa 0))) ah)))
def Ov:EM:=(mN gZ (ae (bC JY true (ai .non) (bf (aa 4)) 0 [2,1,0]) ah))
def Ow:EM:=(dm lP cQ (aa 4) (ae (Bu (m2 (aH .Is) (aa 3) (ai .non)) (mN (a8 .len) (ae (aa 4) ah)) (aa 3)) (ae (aa 1) ah)))
def Mh(a CE b c:a_):SM:=
 (ak (dR (iO (mN (aX a) (ae (aa 1) ah)))
 (ak bO
 ao)
 ao)
 (ak (dR (m2 (aH .In) (aa 1) fe)
 (ak bO
 ao)
 ao)
 (ak (dR (m2 (aH .GtE) (mN (a8 .len) (ae fe ah)) (ai (.int 12)))
 (ak bO
 ao)
 ao)
 (ak (cF (aZ "House" "check_elders" CE (aa 0) (ae (aa 2) ah)))
 (ak (aF 4 (aZ "House" "kinds" b (aa 0) ah))
 (ak (cF Ow)
 (ak (cF (aZ "House" "settle" c (aa 0) (ae Ov ah)))
 ao)))))))
noncomputable def gS(E:eP)(p:Nat)(x:Str×List Str):eP:=E.take p++x::E.drop p
variable{Y6:Str×List Str}
theorem uh:nms (gS Z b Y6)=(nms Z).take b++Y6.1::(nms Z).drop b:=by simp[nms,gS]
theorem ui{a:Type}{xs:List a}{x:a}(c:b<=xs.length):om xs b x=xs.take b++x::xs.drop b:=by
 unfold om;rw[HT.iu,Nat.min_eq_left c]
theorem uj(c:(nms Z).Nodup)(h:Z[b]?=some Y6):cB Z Y6.1=Y6.2:=by
 obtain⟨d,a⟩:=List.mem_iff_getElem?.mp (pd (ie (List.mem_map.mpr ⟨Y6,List.mem_of_getElem? h,rfl⟩)));have e:(nms Z)[d]?=some Y6.1:=by simp[nms,a]
 have f:(nms Z)[b]?=some Y6.1:=by simp[nms,h]
 have:=(List.getElem?_inj (by simp[nms];exact((List.getElem?_eq_some_iff.mp a).1)) c).mp (e.trans f.symm)
 grind
theorem Gb{m:eP}(H:cC ξ a b Z Q)(ha:a[t]?=some (.lst (g.map .str)))(hk:a[υ]?=some (.lst ((nms m).map .str)))(hE:∀p∈m,(p.1=d/\p.2=g)\/(p.1≠d/\p.1∈nms Z/\p.2=cB Z p.1))(T:(nms m).Nodup)(hl:m.length<=200)(hP:∀j,a.length<=j->ξ j):
  ∃q A ax,Ov [oR b,oS d,oR t,Ψ,oR υ] a=.ok (.ref q) ax/\ax[q]?=some (.dK A)/\aE ξ ax A m/\af [] a ax/\a.length<=q:=by
 have U:bf (aa 4) [oR b,oS d,oR t,Ψ,oR υ] a=.ok (.seq (.ref υ)) a:=by
  rw[cf];exact aU (by rw[aI,aA hk])
 obtain⟨ys,n,e1,k,rfl,L,K1⟩:=kA (B:=[oR b,oS d,oR t,Ψ,oR υ]) (s:=JY) (ζ:=ai .non) (J:=[2,1,0]) (q:=(nms m).map .str) (λi C c=>∃k:List (Str×D),C=k.map (λp=>.tup [.str p.1,p.2])/\aE ξ c (k.map λp=>(.inr p.1,p.2)) (m.take i)/\af [] a c) U ⟨[],rfl,.nil,af.refl⟩
  (λi C c b=>by
   obtain⟨_,_,_,K⟩:=b;rw[cg,aI,aA (K.get _ _ hk (by simp))])
  (λi V C c X hI=>by
   obtain⟨k,rfl,L,K⟩:=hI;obtain⟨x,Y,rfl⟩:=fF X
   obtain⟨p,hp,E⟩:∃p,m[i]?=some p/\p.1=x:=by
    unfold nms at Y;rw[List.getElem?_map]at Y;exact Option.map_eq_some_iff.mp Y
   obtain⟨e,l,A,f0,q1,q2,q3,q4,q5⟩:=(H.keep K).or;have a0:=K.get _ _ ha (by simp)
   show ∃y ax,JY [oS x,oR t,oS d,oR b] c=.ok y ax/\_
   have M:∀(j:Nat) (r:aJ),ξ j->r[j]?=some (.lst (p.2.map .str))->af [] c r->∃o:List (Str×D),(k.map (λp=>D.tup [.str p.1,p.2])++[.tup [.str x,.ref j]])=o.map (λp=>.tup [.str p.1,p.2])/\aE ξ r (o.map λp=>(.inr p.1,p.2)) (m.take (i+1))/\af [] a r:=by
    intro j r F P K3;refine⟨k++[(x,.ref j)],by simp,?_,K.trans K3⟩
    rw[List.take_succ,hp,List.map_append];exact aG.append (L.keep K3 (by simp)) (.cons ⟨by rw[E],j,rfl,F,P⟩ .nil)
   have R:(m2 (aH .Eq) (aa 0) (aa 2)) [oS x,oR t,oS d,oR b] c=.ok (.bl (decide (x=d))) c:=by
    rfl
   rcases hE p (List.mem_of_getElem? hp)with ⟨u,w⟩|⟨u,w,N⟩
   .have b0:x=d:=E.symm.trans u
    rw[decide_eq_true b0]at R;have c0:=cw a0;obtain⟨o,z1,z2,z3⟩:=M c.length (c++[.lst (g.map .str)]) (hP _ K.len) (by rw[w];exact aq) af.app
    refine⟨.tup [.str x,.ref c.length],c++[.lst (g.map .str)],?_,o,z1,z2,z3⟩;have G:(mN (a8 .list) (ae (aa 1) ah)) [oS x,oR t,oS d,oR b] c=.ok (.ref c.length) (c++[.lst (g.map .str)]):=c0;unfold JY;rw[dX,a6];have:aa 0 [oS x,oR t,oS d,oR b] c=.ok (.str x) c:=rfl;rw[this,aw,a6,sm,R,eN,dN,fD,aw,if_pos rfl,G,aw,bG,aw,aw,aw,o9,if_pos (aT (by simp))]
   .rw[E]at u w N
    rw[decide_eq_false u]at R;obtain⟨j,hv,F,P⟩:=q3.at w;rw[←N]at P;obtain⟨o,z1,z2,z3⟩:=M j c F P af.refl;refine⟨.tup [.str x,.ref j],c,?_,o,z1,z2,z3⟩
    have G:(m2 aM (m1 (dH ["House"] "elders") (aa 3)) (aa 0)) [oS x,oR t,oS d,oR b] c=.ok (.ref j) c:=by
     show((dH ["House"] "elders" (.ref b) c).bind _)=_
     rw[iX q1,aw];exact d4 q2 hv
    unfold JY;rw[dX,a6];have:aa 0 [oS x,oR t,oS d,oR b] c=.ok (.str x) c:=rfl;rw[this,aw,a6,sm,R,eN,dN,fD,aw,if_neg (by simp),G,aw,bG,aw,aw,aw,o9,if_pos (aT (by simp))]) (by simp[nms];omega)
 have O:((nms m).map D.str).length=m.length:=by simp[nms]
 rw[O,List.take_length]at L
 have d0:k.map (·.1)=nms m:=by
  have:=L.keys;rw[List.map_map]at this
  have S:(k.map (D.str ∘ (·.1)))=(nms m).map D.str:=by
   rw[←this];rfl
  rw[←List.map_map]at S;exact(List.map_inj_right (λt I z=>by cases z;rfl)).mp S
 have g2:(n++[Cell.lst (k.map λp=>.tup [.str p.1,p.2])])[n.length]?=some (.lst (k.map λp=>.tup [.str p.1,p.2])):=aq
 have K2:af [] a (n++[Cell.lst (k.map λp=>.tup [.str p.1,p.2])]):=K1.trans af.app
 have S:aE ξ (n++[Cell.lst (k.map λp=>.tup [.str p.1,p.2])]) (k.map λp=>(.inr p.1,p.2)) m:=L.keep (fp:=[]) af.app (by simp)
 generalize n++[Cell.lst (k.map λp=>.tup [.str p.1,p.2])]=c at *
 have hf:=jA (k.map λp=>((.inr p.1:Key),p.2)) [] (by
  rw[List.nil_append,List.map_map];have:(k.map ((λp:Key×D=>p.1) ∘ λp=>((.inr p.1:Key),p.2)))=(k.map (·.1)).map Sum.inr:=by rw[List.map_map];rfl
  rw[this,d0];exact List.Pairwise.map _ (λt I e0 z=>e0 (by cases z;rfl)) T)
 rw[List.nil_append]at hf;refine⟨c.length,_,c++[.dK (k.map λp=>(.inr p.1,p.2))],?_,aq,S.keep (fp:=[]) af.app (by simp),K2.trans af.app,K2.len⟩
 unfold Ov;rw[dX,a6,e1,aw,bG,aw,aw]
 show i9 (iQ [.ref n.length] c) _=_
 simp only[iQ,aA g2,(jx (f:=m_) (g:=λp:Str×D=>D.tup [.str p.1,p.2]) (h:=λp=>(.inr p.1,p.2)) (λd=>rfl) k),hf]
 rfl
def Mi(g:a_):Prop:=∀(c:aJ) (h a:Nat) (E:eP) (L f:Str->List Str) (P:Nat->Prop) (n:Str) (r:List Str) (p:Nat) (d:D),cC P c h E L->c[a]?=some (.lst (r.map .str))->vI n->n∉nms E->E.length<12->r.Nodup->r.length<=5->(∀x∈r,x∈nms E)->p<=E.length->(d=.int p\/d=.non/\p=E.length) ->
 Gd (gS E p (n,r))->JJ (gS E p (n,r)) f->(∀m∈nms (gS E p (n,r)),(f m).length<=900)->(∀j,c.length<=j->P j)->∃e l b,g [.ref h,.str n,.ref a,d] c=.ok .non b/\eT P b h e l (gS E p (n,r)) f/\af [h] c b/\c.length<=e/\e<l
theorem JZ(hI:FZ L)(hC:F9 Q3)(hK:qQ L5)(hS:zt m6):Mi (bT 5 4 (Mh L Q3 L5 m6)):=by
 intro S h a E f L' P n r p d H T hv U hl V X Y hp Z G hL a0 hP;rw[bj (by rfl)]
 have e0:a7 5 [D.ref h,.str n,.ref a,d]=[oR h,oS n,oR a,some d,none]:=rfl;rw[e0];have o:=G.nd
 have u:(nms E).Nodup:=by
  rw[uh]at o;have h3:=List.nodup_append.mp o;have:=List.take_append_drop p (nms E);rw[←this];refine List.nodup_append.mpr ⟨h3.1,(List.nodup_cons.mp h3.2.1).2,λx hx y hy=>h3.2.2 x hx y (List.mem_cons_of_mem _ hy)⟩
 obtain⟨b,e1,C⟩:=hI S n hv;have r1:(dR (iO (mN (aX L) (ae (aa 1) ah))) (ak bO ao) ao) [oR h,oS n,oR a,some d,none] S=.nx [oR h,oS n,oR a,some d,none] b:=by simp[e1]
 have F:=H.keep C
 have r2:(dR (m2 (aH .In) (aa 1) fe) (ak bO ao) ao) [oR h,oS n,oR a,some d,none] b=.nx [oR h,oS n,oR a,some d,none] b:=by
  obtain⟨e,l,s,b0,I,O,Q,q4,q5⟩:=F.or;have J:=FT (d:=n) O;rw[Q.is,decide_eq_false U]at J;rw[bU,dh]
  show bu (bZ ((dH ["House"] "elders" (.ref h) b).bind _)) _=_
  rw[iX I,aw,J];rfl
 have r3:(dR (m2 (aH .GtE) (mN (a8 .len) (ae fe ah)) (ai (.int 12))) (ak bO ao) ao) [oR h,oS n,oR a,some d,none] b=.nx [oR h,oS n,oR a,some d,none] b:=by
  obtain⟨e,l,s,b0,I,O,Q,q4,q5⟩:=F.or;have K:=JD O;have p0:=Q.len
  have c0:(mN (a8 .len) (ae fe ah)) [oR h,oS n,oR a,some d,none] b=.ok (.int s.length) b:=by
   show(((dH ["House"] "elders" (.ref h) b).bind _).bind _)=_
   rw[iX I,aw];exact K
  have hc:aH .GtE (.int s.length) (.int 12) b=.ok (.bl false) b:=by
   simp[d_];omega
  rw[bU,dh,c0,aw,t5,aw,hc];rfl
 obtain⟨w,e2,R⟩:=hC b h a E f P r F (C.get _ _ T (by simp)) V X Y
 have r4:(cF (aZ "House" "check_elders" Q3 (aa 0) (ae (aa 2) ah))) [oR h,oS n,oR a,some d,none] b=.nx [oR h,oS n,oR a,some d,none] w:=by
  rw[bQ,b9 F rfl (by decide)]
  show bu (nr (Q3 [.ref h,.ref a] b)) _=_
  rw[e2];rfl
 have H2:=F.keep R;obtain⟨k,c,e3,B,K3,l3⟩:=hK w h E f P H2
 have r5:(aF 4 (aZ "House" "kinds" L5 (aa 0) ah)) [oR h,oS n,oR a,some d,none] w=.nx [oR h,oS n,oR a,some d,oR k] c:=by
  rw[cb,b9 H2 rfl (by decide),bG,aw,e3]
  rfl
 have H3:cC (λj=>P j/\j≠k) c h E f:=(H2.lt.keep K3).imp λj t=>⟨t.1,by omega⟩
 have M:=(C.trans R).trans K3;have d0:=M.get _ _ T (by simp)
 have f0:a≠k:=by have:=bc (R.get _ _ (C.get _ _ T (by simp)) (by simp));omega
 have q0:(nms E).length=E.length:=by simp[nms]
 have r6:(cF Ow) [oR h,oS n,oR a,some d,oR k] c=.nx [oR h,oS n,oR a,some d,oR k] (c.set k (.lst ((nms (gS E p (n,r))).map .str))):=by
  have hL:=en B;have K:=gG B
  have g0:cQ (.ref k) [.int p,.str n] c=.ok .non (c.set k (.lst ((nms (gS E p (n,r))).map .str))):=by
   simp only[cQ,fE B];rw[if_pos,ui (by simp[nms];omega),uh]
   .simp
   .rw[aT (by simp[nms];omega),ed (by omega) (by omega)];rfl
  unfold Ow;rw[bQ,dY (m:=.ref k) (η:=c) rfl hL]
  have h0:(ae (Bu (m2 (aH .Is) (aa 3) (ai .non)) (mN (a8 .len) (ae (aa 4) ah)) (aa 3)) (ae (aa 1) ah):AM) [oR h,oS n,oR a,some d,oR k] c=.ok [.int p,.str n] c:=by
   rcases Z with rfl|⟨rfl,rfl⟩
   .rfl
   simp_all
  rw[h0,aw,g0];rfl
 have K4:af [k] c (c.set k (.lst ((nms (gS E p (n,r))).map .str))):=af.set (by simp)
 have g4:=aK (e:=.lst ((nms (gS E p (n,r))).map .str)) B;have H4:=(H3.JO K4 B (by simp)).imp λj t=>t.1
 have i0:=K4.get _ _ d0 (by simpa using f0)
 have lk:=bc B;generalize c.set k (.lst ((nms (gS E p (n,r))).map .str))=j0 at *
 have A:af [] S j0:=af.new M K4 (λj t=>by
  rw[List.mem_singleton.mp t];have:=(C.trans R).len;omega)
 obtain⟨q,s,l0,e5,g5,h5,K5,l5⟩:=Gb (Ψ:=some d) (d:=n) (g:=r) H4 i0 g4 (λx hx=>by
  unfold gS at hx;rcases List.mem_append.mp hx with hx|hx
  .have hx:=List.mem_of_mem_take hx
   obtain⟨i,hi⟩:=List.mem_iff_getElem?.mp hx;exact .inr ⟨λz=>U (z▸List.mem_map.mpr ⟨x,hx,rfl⟩),List.mem_map.mpr ⟨x,hx,rfl⟩,(uj u hi).symm⟩
  .rcases List.mem_cons.mp hx with rfl|hx
   .exact .inl ⟨rfl,rfl⟩
   .have hx:=List.mem_of_mem_drop hx
    obtain⟨i,hi⟩:=List.mem_iff_getElem?.mp hx;exact .inr ⟨λz=>U (z▸List.mem_map.mpr ⟨x,hx,rfl⟩),List.mem_map.mpr ⟨x,hx,rfl⟩,(uj u hi).symm⟩) o (by unfold gS;simp;omega) (λj t=>hP j (Nat.le_trans A.len t))
 obtain⟨e,l,n0,o0,I,O,Q,q4,q5⟩:=H4.keep K5;have N:=A.trans K5;obtain⟨l',m0,e6,H6,K6,l6⟩:=hS l0 h q e l s (gS E p (n,r)) P L' I g5 h5 G hL a0 (λj t=>hP j (Nat.le_trans N.len t))
 refine⟨q,l',m0,?_,H6,(N.sub (by simp)).trans K6,Nat.le_trans A.len l5,by have:=bc g5;omega⟩
 unfold Mh;rw[ag,r1,aD,ag,r2,aD,ag,r3,aD,ag,r4,aD,ag,r5,aD,ag,r6,aD,ag,bQ,b9 H4 rfl (by decide),a6,e5,aw,bG,aw,aw,e6]
 rfl
def Mj(a:a_):SM:=
 (ak (aF 1 (mN (lu "House" a) ah))
 (ak (dU ["House"] "elders" (aa 1) (mN gZ (ae fe ah)))
 (ak (dU ["House"] "lines" (aa 1) (mN gZ (ae Hn ah)))
 (ak (bS (aa 1))
 ao))))
def CT(c:a_):Prop:=∀(b:aJ) (h:Nat) (E:eP) (L:Str->List Str) (P:Nat->Prop),cC P b h E L->∃k a,c [.ref h] b=.ok (.ref k) a/\cC P a k E L/\af [] b a/\b.length<=k
def Rb(c:a_):Prop:=∀(b:aJ) (h:Nat) (E:eP) (L:Str->List Str) (P:Nat->Prop),cC P b h E L->∃k e l a,c [.ref h] b=.ok (.ref k) a/\eT P a k e l E L/\af [] b a/\b.length<=k/\b.length<=e/\e<l
theorem J6(F:JU L):Rb (bT 2 1 (Mj L)):=by
 intro c h E g P H;rw[bj (by rfl)]
 have S:a7 2 [D.ref h]=[oR h,none]:=rfl;obtain⟨a,T,G,r⟩:=F c g P;obtain⟨e,l,d,f,A,I,J,B,K⟩:=(H.keep r).or;obtain⟨U,i,_,_,p,_,_,_,_⟩:=G
 have V:h<c.length:=by
  obtain⟨_,_,_,_,z,_⟩:=H;exact bc z
 have s:af [] a (a++[Cell.dK d]):=af.app
 have X:dU ["House"] "elders" (aa 1) (mN gZ (ae fe ah)) [oR h,oR c.length] a=.nx [oR h,oR c.length] ((a++[Cell.dK d]).set c.length (.ins "House" [("elders",.ref a.length),("lines",.ref i)])):=by
  refine gJ ?_ rfl (s.get _ _ p (by simp)) (by simp)
  show(((dH ["House"] "elders" (.ref h) a).bind _).bind _)=_
  rw[iX A,aw];exact(zj I)
 have k:af [c.length] a ((a++[Cell.dK d]).set c.length (.ins "House" [("elders",.ref a.length),("lines",.ref i)])):=(dz.up s).trans (af.set (by simp))
 have C:=aK (e:=.ins "House" [("elders",.ref a.length),("lines",.ref i)]) (s.get _ _ p (by simp))
 have M:=bc p;have N:((a++[Cell.dK d]).set c.length (.ins "House" [("elders",.ref a.length),("lines",.ref i)]))[a.length]?=some (.dK d):=dg aq (by omega)
 have Y:((a++[Cell.dK d]).set c.length (.ins "House" [("elders",.ref a.length),("lines",.ref i)])).length=a.length+1:=by simp
 generalize (a++[Cell.dK d]).set c.length _=b at *;have m:∀j∈[c.length],∀n,a[j]?≠some (.lst n):=λj O n=>by simp_all
 have t:=B.keep k (by simpa using (λz=>B.ni _ _ (z▸p)))
 have u:=J.bY k m;have w:=K.bY k m;have x:af [] b (b++[Cell.dK f]):=af.app
 have Z:dU ["House"] "lines" (aa 1) (mN gZ (ae Hn ah)) [oR h,oR c.length] b=.nx [oR h,oR c.length] ((b++[Cell.dK f]).set c.length (.ins "House" [("elders",.ref a.length),("lines",.ref b.length)])):=by
  refine gJ ?_ rfl (x.get _ _ C (by simp)) (by simp)
  show(((dH ["House"] "lines" (.ref h) b).bind _).bind _)=_
  rw[ug (k.get _ _ A (by simp;omega)),aw]
  exact(zj t)
 have q:af [c.length] b ((b++[Cell.dK f]).set c.length (.ins "House" [("elders",.ref a.length),("lines",.ref b.length)])):=(dz.up x).trans (af.set (by simp))
 have Q:=aK (e:=.ins "House" [("elders",.ref a.length),("lines",.ref b.length)]) (x.get _ _ C (by simp))
 have R:((b++[Cell.dK f]).set c.length (.ins "House" [("elders",.ref a.length),("lines",.ref b.length)]))[b.length]?=some (.dK f):=dg aq (by omega)
 generalize (b++[Cell.dK f]).set c.length _=y at *;have o:∀j∈[c.length],∀n,b[j]?≠some (.lst n):=λj O n=>by simp_all
 refine⟨c.length,a.length,b.length,y,?_,⟨d,f,Q,q.get _ _ N (by simp;omega),u.bY q o,R,w.bY q o⟩,af.new r (k.trans q) (by simp),Nat.le_refl _,r.len,by omega⟩
 unfold Mj
 simp_all
noncomputable def ne(rs:List (List Str)):List (List Str):=rs.filter λr=>decide (r≠[])
variable{S:List (List Str)}
theorem ig:g∈ne S↔g∈S/\g≠[]:=by unfold ne;simp
theorem vK:freeOf (ne S) g=freeOf S g:=by
 cases g with
 |nil=>rfl
 |cons m t=>
  by_cases h:∃r∈S,m∈r.tail
  .obtain⟨r,a,b⟩:=h
   rw[dc ⟨r,a,b⟩,dc ⟨r,ig.mpr ⟨a,λz=>by simp_all⟩,b⟩]
  .rw[de h,de]
   rintro⟨r,a,b⟩;exact h ⟨r,(ig.mp a).1,b⟩
theorem CU:free (ne S)=free S:=by
 have:∀b,(ne b).findSome? (freeOf (ne S))=b.findSome? (freeOf S):=by
  intro b
  induction b with
  |nil=>rfl
  |cons a b c=>
   by_cases d:a=[]
   .subst d
    have:ne ([]::b)=ne b:=by simp[ne]
    rw[this,c];rfl
   .have:ne (a::b)=a::ne b:=by simp[ne,d]
    rw[this,List.findSome?_cons,List.findSome?_cons,c,vK]
 exact this S
theorem qT(h:d∉g.tail):g.filter (λx=>decide (x≠d))=cK d g:=by
 unfold cK;cases g with
 |nil=>simp
 |cons a t=>
  have c:t.filter (λx=>decide (x≠d))=t:=List.filter_eq_self.mpr λx b=>decide_eq_true λz=>h (z▸b)
  grind
theorem CV:ne ((ne S).map (cK d))=ne (S.map (cK d)):=by
 unfold ne
 induction S with
 |nil=>rfl
 |cons a S b=>
  by_cases c:a=[]
  .subst c
   exact b
  .simp only[List.filter_cons,c,ne_eq,not_false_eq_true,decide_true,if_true,List.map_cons]
   rw[b]
theorem vL(h:free S=some d):∀r∈S,d∉r.tail:=by
 obtain⟨b,e,a⟩:=List.exists_of_findSome?_eq_some h;cases b with
 |nil=>cases a
 |cons m t=>
  by_cases c:∃r∈S,m∈r.tail
  .rw[dc c]at a;cases a
  .rw[de c]at a
   grind
theorem gM(h:free S=some d):∃t,(d::t)∈S:=by
 obtain⟨b,e,a⟩:=List.exists_of_findSome?_eq_some h;cases b with
 |nil=>cases a
 |cons m t=>
  by_cases c:∃r∈S,m∈r.tail
  .rw[dc c]at a;cases a
  .rw[de c]at a
   grind
noncomputable def tl(rs:List (List Str)):Nat:=(rs.map List.length).sum
theorem uk(h:∃t,(d::t)∈S):tl (S.map (cK d))<tl S:=by
 obtain⟨t,e⟩:=h
 have g:∀r,(cK d r).length<=r.length:=λr=>by
  unfold cK;split
  .simp
  .simp
 have f:∀b,tl (b.map (cK d))<=tl b:=by
  intro b
  induction b with
  |nil=>simp
  |cons a b c=>
   unfold tl at c ⊢
   grind
 induction S with
 |nil=>simp at e
 |cons a S c=>
  unfold tl at f c ⊢;simp only[List.map_cons,List.sum_cons];rcases List.mem_cons.mp e with z|z
  .subst z
   have i:=f S;have:(cK d (d::t)).length<(d::t).length:=by unfold cK;simp
   omega
  grind
variable{y:Bool}
theorem Ge(I:Nat->List D->aJ->Prop)(j:∀i a b,I i a b->eh v4 b=some q)(n:∀i d a b,q[i]?=some d->I i a b->(∃ax,gQ y s ([some d]++B) b=.ok false ax/\I (i+1) a ax)\/∃e c ax,gQ y s ([some d]++B) b=.ok true e/\ζ ([some d]++B) e=.ok c ax/\I (i+1) (a++[c]) ax):
  ∀(f i:Nat) (a:List D) b,I i a b->q.length - i<f->i<=q.length->a.length+q.length<=100000+i->∃h ax,tP y s ζ 0 B v4 f i a b=.ok h ax/\I q.length h ax:=by
 intro f
 induction f with
 |zero=>simp
 |succ f o=>
  intro i a b k p r t;simp only[tP,j i _ b k]
  by_cases g:i<q.length
  .have l:=List.getElem?_eq_getElem g
   rw[l];have m:oN 0 q[i]=some _:=rfl;simp only[m];rw[if_pos (aT (by omega))]
   grind
  grind
theorem um(I:Nat->List D->aJ->Prop)(m:A1 B a=.ok v4 η)(h:I 0 [] η)(j:∀i b a,I i b a->eh v4 a=some q)(k:∀i d b a,q[i]?=some d->I i b a->(∃η,gQ y ζ ([some d]++dn J B) a=.ok false η/\I (i+1) b η)\/∃f c η,gQ y ζ ([some d]++dn J B) a=.ok true f/\s ([some d]++dn J B) f=.ok c η/\I (i+1) (b++[c]) η)(n:q.length<=90000):
  ∃g e,bC s y ζ A1 0 J B a=.ok (.ref e.length) (e++[.lst g])/\I q.length g e:=by
 obtain⟨g,e,o,l⟩:=Ge I j k fuel 0 [] _ h (by unfold fuel;omega) (Nat.zero_le _) (by simp;omega)
 refine⟨g,_,?_,l⟩;unfold bC
 simp_all
variable{B7:List Nat}
theorem jB{f:List Str->List Str}{p:List Str->Bool}{P:Nat->Prop}(E:A1 B a=.ok (.seq (.ref b)) a)(R:Rw a b J S)(O:S.length<=1000)(F:∀j k l,af [] a l->j∈J->k∈S->l[j]?=some (.lst (k.map .str))->∃c,gQ y ζ ([oR j]++dn B7 B) l=.ok (p k) c/\af [] l c)(G:∀j k l,af [] a l->j∈J->k∈S->l[j]?=some (.lst (k.map .str))->∃q c,s ([oR j]++dn B7 B) l=.ok (.ref q) c/\af [] l c/\c[q]?=some (.lst ((f k).map .str))/\P q):
  ∃g c,bC s y ζ A1 0 B7 B a=.ok (.ref c.length) (c++[.lst (g.map .ref)])/\af [] a c/\jy c g ((S.filter p).map f)/\∀j∈g,P j:=by
 have H:=R.len
 obtain⟨Q,c,e,g,rfl,r,I,w⟩:=um (λi n c=>∃g,n=g.map .ref/\jy c g (((S.take i).filter p).map f)/\af [] a c/\∀j∈g,P j) E ⟨[],rfl,.nil,af.refl,by simp⟩
  (λi n c h=>by
   obtain⟨_,_,_,K,_⟩:=h;rw[cg,aI,aA (R.keep K).ce])
  (λi d n l L h=>by
   obtain⟨g,rfl,r,K,w⟩:=h;obtain⟨j,z,rfl⟩:=jz L;obtain⟨k,t,m⟩:=(R.keep K).al.at' z;obtain⟨c,C,o⟩:=F j k l K (List.mem_of_getElem? z) (List.mem_of_getElem? t) m;cases u:p k with
   |false=>
    refine .inl ⟨c,by rw[C,u],g,rfl,?_,K.trans o,w⟩
    rw[List.take_succ,t];simp[u];exact r.keep o (by simp)
   |true=>
    obtain⟨q,A,e,D,M,T⟩:=G j k c (K.trans o) (List.mem_of_getElem? z) (List.mem_of_getElem? t) (o.get _ _ m (by simp))
    refine .inr ⟨c,_,A,by rw[C,u],e,g++[q],by simp,?_,(K.trans o).trans D,?_⟩
    .rw[List.take_succ,t,List.filter_append,List.map_append]
     simp only[Option.toList_some,List.filter_cons,u,List.filter_nil,if_true,List.map_cons,List.map_nil];exact((r.keep o (by simp)).keep D (by simp)).snoc M
    .intro x N
     rcases List.mem_append.mp N with h|h
     .simp_all
     simp_all) (by simp;omega)
 refine⟨g,c,e,I,?_,w⟩;rwa[List.length_map,←H,List.take_length]at r
theorem ne_nil(d:B[t]?=some (oR b))(h:a[b]?=some (.lst (g.map .str))):∃ax,m2 (aH .NotEq) (aa t) (mN bh ah) B a=.ok (.bl (decide (g≠[]))) ax/\af [] a ax:=by
 refine⟨a++[.lst []],?_,af.app⟩;have e:(mN bh ah) B a=.ok (.ref a.length) (a++[.lst []]):=by rfl
 have c:(a++[Cell.lst []])[a.length]?=some (.lst (([]).map .str)):=aq;rw[dh,oW,d,t4,aw,e,aw,gH (cS h) c]
 grind
theorem uo(d:B[t]?=some (oR b))(R:Rw a b J S):∃ax,m2 (aH .NotEq) (aa t) (mN bh ah) B a=.ok (.bl (decide (S≠[]))) ax/\af [] a ax:=by
 refine⟨a++[.lst []],?_,af.app⟩;have e:(mN bh ah) B a=.ok (.ref a.length) (a++[.lst []]):=by rfl
 have g:(a++[Cell.lst []])[a.length]?=some _:=aq;have c:=R.keep (ax:=a++[Cell.lst []]) af.app;have f:=lG (t:=6) c.ce c.al;have h:=lG (t:=6) g .nil
 simp_all
def Ml:SM:=(ak (dw (cV 5) (bf (dG (aa 1) false (ai (.int 1)) true (ai .non)))
 (ak (dW (aa 4) (aa 5) (ai (.bl true)))
 ao))
 ao)
def Ox:EM:=(bC (m2 aM (aa 0) (ai (.int 0))) false (m2 (aH .NotIn) (m2 aM (aa 0) (ai (.int 0))) (aa 1)) (bf (aa 2)) 0 [4])
def Oy:EM:=(bC (bC (aa 0) false (m2 (aH .NotEq) (aa 0) (m2 aM (aa 1) (ai (.int 0)))) (bf (aa 0)) 0 [1]) true (ai .non) (bf (aa 2)) 0 [6])
def Rc:EM:=(bC (aa 0) false (m2 (aH .NotEq) (aa 0) (mN bh ah)) (bf (aa 2)) 0 [])
def vM:EM:=(m2 (aH .NotEq) (aa 2) (mN bh ah))
def qU:SM:=
 (ak (aF 4 cX)
 (ak (dw (cV 1) (bf (aa 2))
 Ml)
 (ak (aF 6 Ox)
 (ak (dR (m2 (aH .Eq) (aa 6) (mN bh ah))
 (ak (bS (ai .non))
 ao)
 ao)
 (ak (cF (dm lP c9 (aa 3) (ae (m2 aM (aa 6) (ai (.int 0))) ah)))
 (ak (aF 2 Oy)
 (ak (aF 2 Rc)
 ao)))))))
def Ei:SM:=
 (ak (aF 2 (bC (mN (a8 .list) (ae (aa 0) ah)) false (m2 (aH .NotEq) (aa 0) (mN bh ah)) (bf (aa 0)) 0 []))
 (ak (aF 3 (mN bh ah))
 (ak (jt vM
 qU)
 (ak (bS (aa 3))
 ao))))
def pj(b:aJ)(d m:Nat)(S:Str->Prop):Prop:=∃a,b[d]?=some (.dK a)/\a.length<=m/\∀n,(b_ a (.inr n)).isSome=true↔S n
variable{f7:Str->Prop}
theorem pj.keep{ax:aJ}{fp:List Nat}(h:pj a b t f7)(K:af fp a ax)(c:b∉fp):pj ax b t f7:=let ⟨_,d,e,f⟩:=h;⟨_,K.get _ _ d c,e,f⟩
theorem pj.imp{c:Str->Prop}(h:pj a b t f7)(d:∀n,f7 n↔c n):pj a b t c:=let ⟨_,e,f,g⟩:=h;⟨_,e,f,λn=>(g n).trans (d n)⟩
theorem pj.put{n:Str}(h:pj a b t f7)(d:t<=1000):∃ax,ly (.ref b) (.str n) (.bl true) a=some ax/\pj ax b (t+1) (λx=>f7 x\/x=n)/\af [b] a ax:=by
 obtain⟨kvs,c,e,f⟩:=h;refine⟨_,sy c (by omega),⟨_,aK c,by have:=ze (kvs:=kvs) (k:=.inr n) (v:=D.bl true);omega,λx=>?_⟩,af.set (by simp)⟩
 rw[vG]
 by_cases z:x=n
 .simp_all
 simp_all
theorem CW(h:a[b]?=some (.lst (g.map .str)))(c:B[t]?=some (oR b)):dG (aa t) false (ai (.int 1)) true (ai .non) B a=.ok (.ref a.length) (a++[.lst (g.tail.map .str)]):=by
 have:=su h
 simp_all
variable{E1 S0:Option D}
theorem Gf(h:a[υ]?=some (.lst (g.map .str)))(s:pj a b t f7)(J:t+g.length<=900):
  ∃c ax,Ml [Ψ,oR υ,u0,A0,oR b,S0,E1] a=.nx [Ψ,oR υ,u0,A0,oR b,c,E1] ax/\pj ax b (t+g.length) (λx=>f7 x\/x∈g.tail)/\af [b] a ax:=by
 have A:=CW (B:=[Ψ,oR υ,u0,A0,oR b,S0,E1]) h (t:=1) rfl;have u:(a++[Cell.lst (g.tail.map .str)])[a.length]?=some _:=aq;have C:af [b] a (a++[Cell.lst (g.tail.map .str)]):=af.app;have k:pj (a++[Cell.lst (g.tail.map .str)]) b t f7:=s.keep (fp:=[]) af.app (by simp)
 have L:=let ⟨_,z,_⟩:=s;bc z
 generalize a++[Cell.lst _]=l at *
 have m:bf (dG (aa 1) false (ai (.int 1)) true (ai .non)) [Ψ,oR υ,u0,A0,oR b,S0,E1] a=.ok (.seq (.ref a.length)) l:=by
  rw[cf,A];exact aU (by rw[aI,aA u])
 unfold Ml;rw[ag,cR,m,cM];have D:g.tail.length<=g.length:=by simp
 refine bX (R:=λr=>∃c ax,sq r _=.nx [Ψ,oR υ,u0,A0,oR b,c,E1] ax/\pj ax b _ _/\af _ a ax) (q:=g.tail.map .str)
  (λi j d=>∃c,j=[Ψ,oR υ,u0,A0,oR b,c,E1]/\pj d b (t+i) (λx=>f7 x\/x∈g.tail.take i)/\af [b] _ d) ?_ ?_ ?_ _ 0 _ _ (by unfold fuel;simp;omega) (Nat.zero_le _) ⟨S0,rfl,k.imp (by simp),af.refl⟩
 .rintro i j d ⟨_,_,_,K⟩
  rw[cg,aI,aA (K.get _ _ u (by simp;omega))]
 .rintro i e j d E ⟨c,rfl,f,K⟩
  obtain⟨x,w,rfl⟩:=fF E;have M:=(List.getElem?_eq_some_iff.mp w).1;refine⟨[Ψ,oR υ,u0,A0,oR b,oS x,E1],rfl,?_⟩;obtain⟨o,N,p,F⟩:=f.put (n:=x) (by omega)
  have:(ak (dW (aa 4) (aa 5) (ai (.bl true))) ao) [Ψ,oR υ,u0,A0,oR b,oS x,E1] d=.nx [Ψ,oR υ,u0,A0,oR b,oS x,E1] o:=by
   show sq (match ly _ _ _ _ with|some _=>ff.nx _ _|none=>.bad) _=_
   simp_all
  rw[this];refine⟨_,rfl,p.imp λy=>?_,K.trans F⟩
  rw[List.take_succ,w];simp[or_assoc]
 .rintro j d ⟨c,rfl,f,K⟩
  rw[List.length_map,List.take_length]at f;obtain⟨G,H,O,I⟩:=f;exact⟨_,_,rfl,⟨_,H,by omega,I⟩,C.trans K⟩
theorem CY(a:S[b]?=some g):tl (S.take b)+g.length=tl (S.take (b+1)):=by
 unfold tl;rw[List.take_succ,a];simp
theorem J9:tl (S.take b)<=tl S:=by
 have:tl S=tl (S.take b)+tl (S.drop b):=by
  unfold tl;rw[←List.sum_append,←List.map_append,List.take_append_drop]
 omega
theorem Gg(R:Rw a b J S)(u:a[t]?=some (.dK []))(O:S.length<=1000)(P:tl S<=800):
  ∃f c ax,dw (cV 1) (bf (aa 2)) Ml [Ψ,u0,oR b,A0,oR t,S0,E1] a=.nx [Ψ,f,oR b,A0,oR t,c,E1] ax/\pj ax t 900 (λx=>∃r∈S,x∈r.tail)/\af [t] a ax:=by
 have A:=R.len
 have m:∀j∈J,j∉[t]:=λj o z=>by
  obtain⟨i,B⟩:=List.mem_iff_getElem?.mp o;obtain⟨p,_,C⟩:=R.al.at' B
  simp_all
 have w:∀d,af _ a d->Rw _ b J S:=λd K=>R.ud K (by simpa using (λz=>by have:=R.ce;rw[z,u]at this;cases this)) m
 have s:bf (aa 2) [Ψ,u0,oR b,A0,oR t,S0,E1] a=.ok (.seq (.ref b)) a:=by
  exact aU (by rw[aI,aA R.ce])
 rw[cR,s,cM]
 refine bX (R:=λr=>∃f c ax,r=.nx [Ψ,f,oR b,A0,oR t,c,E1] ax/\pj ax t _ _/\af _ a ax) (q:=J.map .ref)
  (λi l d=>∃f c,l=[Ψ,f,oR b,A0,oR t,c,E1]/\pj d t (tl (S.take i)) (λx=>∃r∈S.take i,x∈r.tail)/\af [t] a d) ?_ ?_ ?_ _ 0 _ _ (by unfold fuel;simp;omega) (Nat.zero_le _) ⟨u0,S0,rfl,⟨[],u,by simp[tl],λn=>by simp[b_]⟩,af.refl⟩
 .rintro i l d ⟨_,_,_,_,K⟩
  rw[cg,aI,aA (w _ K).ce]
 .rintro i e l d D ⟨f,c,rfl,g,K⟩
  obtain⟨j,o,rfl⟩:=jz D;obtain⟨p,E,h⟩:=(w _ K).al.at' o;refine⟨[Ψ,oR j,oR b,A0,oR t,c,E1],rfl,?_⟩;have F:=CY E;have C:=J9 (S:=S) (b:=i+1);obtain⟨y,G,H,k,I⟩:=Gf h g (by omega)
  rw[H];refine⟨_,_,rfl,?_,K.trans I⟩;rw[F]at k;refine k.imp λx=>?_
  rw[List.take_succ]
  simp_all
 .rintro l d ⟨f,c,rfl,g,K⟩
  rw[List.length_map,←A,List.take_length]at g;obtain⟨L,M,Q,N⟩:=g;exact⟨_,_,_,rfl,⟨_,M,by omega,N⟩,K⟩
theorem Gh(R:Rw a b J S)(C:pj a t 900 (λx=>∃r∈S,x∈r.tail))(o:∀r∈S,r≠[])(H:S.length<=1000):
  Ox [Ψ,u0,oR b,A0,oR t,S0,E1] a=.ok (.ref a.length) (a++[.lst ((S.filterMap (freeOf S)).map .str)]):=by
 have D:=R.len;obtain⟨f,E,I,B⟩:=C
 have p:bf (aa 2) [Ψ,u0,oR b,A0,oR t,S0,E1] a=.ok (.seq (.ref b)) a:=by
  exact aU (by rw[aI,aA R.ce])
 obtain⟨K,g,e,rfl,rfl⟩:=um (y:=false) (s:=m2 aM (aa 0) (ai (.int 0))) (ζ:=m2 (aH .NotIn) (m2 aM (aa 0) (ai (.int 0))) (aa 1)) (J:=[4]) (q:=J.map .ref) (λi k g=>k=((S.take i).filterMap (freeOf S)).map .str/\g=a) p ⟨rfl,rfl⟩
  (λi k g h=>by
   obtain⟨_,rfl⟩:=h;rw[cg,aI,aA R.ce])
  (λi e k c F h=>by
   obtain⟨rfl,rfl⟩:=h;obtain⟨j,G,rfl⟩:=jz F;obtain⟨u,w,l⟩:=R.al.at' G;cases u with
   |nil=>exact absurd rfl (o [] (List.mem_of_getElem? w))
   |cons x z=>
    have A:aM (.ref j) (.int 0) c=.ok _ c:=cq l (L2.cJ rfl)
    have m:gQ false (m2 (aH .NotIn) (m2 aM (aa 0) (ai (.int 0))) (aa 1)) ([oR j]++dn [4] [Ψ,u0,oR b,A0,oR t,S0,E1]) c=.ok (!(b_ f (.inr x)).isSome) c:=by
     show bZ ((aM _ (.int 0) c).bind _)=_
     rw[A,aw]
     show bZ (aH .NotIn (.str x) (.ref t) c)=_
     rw[(JC (d:=x) (.inl E))];rfl
    by_cases n:∃r∈S,x∈r.tail
    .rw[(B x).mpr n]at m
     refine .inl ⟨c,m,?_,rfl⟩;rw[List.take_succ,w];simp[dc n]
    .have:(b_ f (.inr x)).isSome=false:=by
      cases q:(b_ f (.inr x)).isSome with
      |true=>exact absurd ((B x).mp q) n
      |false=>rfl
     rw[this]at m;refine .inr ⟨c,.str x,c,m,?_,?_,rfl⟩
     .simp_all
     .rw[List.take_succ,w]
      simp[de n]) (by simp;omega)
 rwa[List.length_map,←D,List.take_length]at e
theorem Gi(R:Rw a b J S)(n:a[t]?=some (.lst ((d::g).map .str)))(o:S.length<=1000)(p:∀r∈S,r.length<=1000):
  ∃i f,Oy [Ψ,u0,oR b,A0,E1,S0,oR t] a=.ok (.ref f.length) (f++[.lst (i.map .ref)])/\af [] a f/\jy f i (S.map λr=>r.filter λx=>decide (x≠d))/\∀j∈i,a.length<=j:=by
 refine lH (by
  rw[cf];exact aU (by rw[aI,aA R.ce])) R o (λj k q K A l h=>?_)
 have m:aM _ (.int 0) _=.ok _ _:=cq (K.get _ _ n (by simp)) (L2.cJ rfl)
 have e:=cu (B:=[oR j,oR t]) (s:=aa 0) (ζ:=m2 (aH .NotEq) (aa 0) (m2 aM (aa 1) (ai _))) (y:=false) (A1:=bf (aa 0)) (J:=[1]) (F7:=λc=>match c with|.str x=>decide (x≠d)|_=>false) (by
   exact aU (by rw[aI,aA h])) (by rw[cg,aI,aA h]) (λc u=>by
   obtain⟨x,C,rfl⟩:=List.mem_map.mp u
   show bZ ((aM _ _ _).bind _)=_
   rw[m,aw]
   by_cases z:x=d<;>simp[z]) (λc _ _=>rfl) (by have:=p _ l;simp;omega)
 have w:((k.map D.str).filter (λc=>match c with|.str x=>decide (x≠d)|_=>false)).map (λc=>c)=(k.filter λx=>decide (x≠d)).map .str:=by
  rw[List.map_id',List.filter_map];rfl
 rw[w]at e;exact⟨_,_,e,af.app,aq,K.len⟩
variable{C5:Option D}
theorem Gj(R:Rw a b J S)(n:S.length<=1000):
  ∃f c,Rc [Ψ,u0,oR b,A0,S0,E1,C5] a=.ok (.ref c.length) (c++[.lst (f.map .ref)])/\af [] a c/\jy c f (ne S)/\∀j∈f,j∈J:=by
 have g:bf (aa 2) [Ψ,u0,oR b,A0,S0,E1,C5] a=.ok (.seq (.ref b)) a:=by
  exact aU (by rw[aI,aA R.ce])
 obtain⟨f,c,e,K,l,o⟩:=jB (y:=false) (s:=aa 0) (B7:=[]) g R n (λj h i K m k d=>by
  obtain⟨c,e,p⟩:=ne_nil (B:=[oR j]) (t:=0) rfl d;refine⟨_,?_,p⟩
  show bZ (m2 (aH .NotEq) (aa 0) (mN bh ah) [oR j] _)=_
  rw[e];rfl) (λj h i K m k d=>⟨j,_,rfl,af.refl,d,m⟩)
 rw[List.map_id']at l;exact⟨_,_,e,K,l,o⟩
theorem J_:(ne S).length<=S.length:=List.length_filter_le _ _
theorem Ka:tl (ne S)=tl S:=by
 unfold tl ne
 induction S with
 |nil=>rfl
 |cons a S b=>
  grind
theorem Gk(h:g∈S):g.length<=tl S:=by
 unfold tl
 induction S with
 |nil=>simp at h
 |cons a S b=>
  grind
theorem zu(R:Rw a b J (ne S))(E:a[t]?=some (.lst (g.map .str)))(F:t≠b)(G:t∉J)(hl:S.length<=900)(ht:tl S<=800)(hp:g.length<=900):
  (free S=none/\∃ax,qU [Ψ,u0,oR b,oR t,A0,S0,E1] a=.rt .non ax/\af [] a ax) \/
  ∃n d H f I K w ax,free S=some n/\qU [Ψ,u0,oR b,oR t,A0,S0,E1] a=.nx [Ψ,d,oR K,oR t,H,f,I] ax/\Rw ax K w (ne (S.map (cK n)))/\ax[t]?=some (.lst ((g++[n]).map .str))/\t≠K/\t∉w/\af [t] a ax:=by
 have a0:=J_ (S:=S);have b0:=Ka (S:=S);have lq:=bc E;have lk:=bc R.ce;have lj:=R.al.lt;have g1:(a++[Cell.dK []])[a.length]?=some (.dK []):=aq;have V:af [] a (a++[Cell.dK []]):=af.app;have X:aF 4 cX [Ψ,u0,oR b,oR t,A0,S0,E1] a=.nx [Ψ,u0,oR b,oR t,oR a.length,S0,E1] (a++[Cell.dK []]):=rfl;have l1:(a++[Cell.dK []]).length=a.length+1:=by simp
 generalize a++[Cell.dK []]=c0 at *;obtain⟨d,f,c,Y,L,K2⟩:=Gg (Ψ:=Ψ) (u0:=u0) (A0:=oR t) (S0:=S0) (E1:=E1) (R.keep V) g1 (by omega) (by omega)
 have q:af [] a c:=af.new V K2 (by simp)
 have R2:=R.keep q;have d0:=q.get _ _ E (by simp)
 have D:=Gh (Ψ:=Ψ) (u0:=d) (A0:=oR t) (S0:=f) (E1:=E1) R2 L (λr x=>(ig.mp x).2) (by omega)
 have Z:(c++[Cell.lst (((ne S).filterMap (freeOf (ne S))).map .str)])[c.length]?=some (.lst (((ne S).filterMap (freeOf (ne S))).map .str)):=aq;have K3:af [] c (c++[Cell.lst (((ne S).filterMap (freeOf (ne S))).map .str)]):=af.app
 have hh:((ne S).filterMap (freeOf (ne S))).head?=free S:=by
  rw[List.head?_filterMap,←CU];rfl
 generalize (ne S).filterMap (freeOf (ne S))=fl at *
 have D:aF 6 Ox [Ψ,d,oR b,oR t,oR a.length,f,E1] c=.nx [Ψ,d,oR b,oR t,oR a.length,f,oR c.length] (c++[Cell.lst (fl.map .str)]):=by
  rw[cb,D];rfl
 generalize c++[Cell.lst (fl.map .str)]=i at *;have M:=q.trans K3;have g4:(i++[Cell.lst []])[i.length]?=some (.lst (([]:List Str).map .str)):=aq;have N:af [] i (i++[Cell.lst []]):=af.app
 have e4:(m2 (aH .Eq) (aa 6) (mN bh ah)) [Ψ,d,oR b,oR t,oR a.length,f,oR c.length] i=.ok (.bl (decide (fl=[]))) (i++[Cell.lst []]):=by
  have e:(mN bh ah) [Ψ,d,oR b,oR t,oR a.length,f,oR c.length] i=.ok (.ref i.length) (i++[.lst []]):=by rw[dX,bG,aw,eO,if_pos (aT (by simp))]
  have:aa 6 [Ψ,d,oR b,oR t,oR a.length,f,oR c.length] i=.ok (.ref c.length) i:=rfl;rw[dh,this,aw,e,aw,pa (N.get _ _ Z (by simp)) g4]
 have l4:(i++[Cell.lst []]).length=i.length+1:=by simp
 generalize i++[Cell.lst []]=k at *;have p:=M.trans N;cases fl with
 |nil=>
  refine .inl ⟨by rw[←hh];rfl,k,?_,p⟩
  unfold qU;rw[ag,X,aD,ag,Y,aD,ag,D,aD,ag,bU,e4];rfl
 |cons n O=>
  have y:free S=some n:=by rw[←hh];rfl
  refine .inr ⟨n,?_⟩;have R4:=R.keep p;have s:=p.get _ _ E (by simp)
  have A:=N.get _ _ Z (by simp)
  have r4:(dR (m2 (aH .Eq) (aa 6) (mN bh ah)) (ak (bS (ai .non)) ao) ao) [Ψ,d,oR b,oR t,oR a.length,f,oR c.length] i=.nx [Ψ,d,oR b,oR t,oR a.length,f,oR c.length] k:=by
   rw[bU,e4];rfl
  have e0:aM (.ref c.length) (.int 0) k=.ok (.str n) k:=cq A (L2.cJ (b:=0) rfl);have f0:=ib (m:=.str n) s (by simp;omega)
  have r5:(cF (dm lP c9 (aa 3) (ae (m2 aM (aa 6) (ai (.int 0))) ah))) [Ψ,d,oR b,oR t,oR a.length,f,oR c.length] k=.nx [Ψ,d,oR b,oR t,oR a.length,f,oR c.length] (k.set t (.lst (g.map .str++[.str n]))):=by
   rw[bQ,dY (m:=.ref t) (η:=k) rfl (en s)]
   simp_all
  have P:af [t] k (k.set t (.lst (g.map .str++[.str n]))):=af.set (by simp)
  have Q:(k.set t (.lst (g.map .str++[.str n])))[t]?=some (.lst ((g++[n]).map .str)):=by rw[aK s];simp
  have l5:(k.set t (.lst (g.map .str++[.str n]))).length=k.length:=by simp
  generalize k.set t (.lst (g.map .str++[.str n]))=u at *;have R5:Rw u b J (ne S):=R4.ud P (by simpa using Ne.symm F) (λj hj h=>G (by rw[←List.mem_singleton.mp h];exact hj))
  have T:=P.get _ _ A (by have:=q.len;simp;omega)
  obtain⟨o,l,e6,K6,h6,j6⟩:=Gi (Ψ:=Ψ) (u0:=d) (A0:=oR t) (E1:=oR a.length) (S0:=f) R5 T (by omega) (λr x=>by have:=Gk x;omega)
  rw[(List.map_congr_left λr x=>qT (vL y r (ig.mp x).1))]at h6
  have R7:Rw (l++[.lst (o.map .ref)]) l.length o ((ne S).map (cK n)):=⟨aq,h6.keep (fp:=[]) af.app (by simp)⟩
  have K7:af [] u (l++[Cell.lst (o.map .ref)]):=K6.trans af.app
  have r6:aF 2 Oy [Ψ,d,oR b,oR t,oR a.length,f,oR c.length] u=.nx [Ψ,d,oR l.length,oR t,oR a.length,f,oR c.length] (l++[.lst (o.map .ref)]):=by
   rw[cb,e6];rfl
  have l6:=K6.len;have l7:(l++[Cell.lst (o.map .ref)]).length=l.length+1:=by simp
  generalize l++[Cell.lst (o.map .ref)]=g0 at *;obtain⟨B,C,e8,U,h8,j8⟩:=Gj (Ψ:=Ψ) (u0:=d) (A0:=oR t) (S0:=oR a.length) (E1:=f) (C5:=oR c.length) R7 (by simp;omega)
  rw[CV]at h8;have h0:=p.len;have l8:=U.len;refine⟨d,oR a.length,f,oR c.length,C.length,B,C++[.lst (B.map .ref)],y,?_,⟨aq,h8.keep (fp:=[]) af.app (by simp)⟩,cS (U.get _ _ (K7.get _ _ Q (by simp)) (by simp)),by omega,λz=>?_,((dz.up p).trans P).trans (dz.up ((K7.trans U).trans af.app))⟩
  .unfold qU
   rw[ag,X,aD,ag,Y,aD,ag,D,aD,ag,r4,aD,ag,r5,aD,ag,r6,aD,ag,cb,e8];rfl
  .have:=j6 t (j8 t z)
   omega
theorem zv(h:ne S=[]):Mg S []:=.done λr a=>by
 by_cases z:r=[]
 .exact z
 .have:=ig.mpr ⟨a,z⟩
  simp_all
theorem zw:∀(m:Nat) (c:aJ) (rs:List (List Str)) (a:List Str) (q k:Nat) (y:List Nat) (d e f g:Option D),tl rs<m->Rw c k y (ne rs)->c[q]?=some (.lst (a.map .str))->q≠k->q∉y->rs.length<=900->a.length+tl rs<=800 ->
  (∃ax,ei vM qU m [Ψ,d,oR k,oR q,e,f,g] c=.rt .non ax/\af [q] c ax) \/
  ∃o i C j l p ax,ei vM qU m [Ψ,d,oR k,oR q,e,f,g] c=.nx [Ψ,i,C,oR q,j,l,p] ax/\Mg rs o/\ax[q]?=some (.lst ((a++o).map .str))/\af [q] c ax:=by
 intro m
 induction m with
 |zero=>intro c rs a q k y d e f g h;omega
 |succ m P=>
  intro c rs a q k y d e f g V R M E F N O;obtain⟨s,x,u⟩:=uo (B:=[Ψ,d,oR k,oR q,e,f,g]) (t:=2) rfl R;have x:vM [Ψ,d,oR k,oR q,e,f,g] c=.ok (.bl (decide (ne rs≠[]))) s:=x
  by_cases G:ne rs=[]
  .rw[decide_eq_false (by simpa using G)]at x
   refine .inr ⟨[],d,oR k,e,f,g,s,?_,zv G,by rw[List.append_nil];exact u.get _ _ M (by simp),dz.up u⟩
   simp only[ei,x];rfl
  .rw[decide_eq_true (by simpa using G)]at x
   have step:ei vM qU (m+1) [Ψ,d,oR k,oR q,e,f,g] c=(match qU [Ψ,d,oR k,oR q,e,f,g] s with|.nx b ax=>ei vM qU m b ax|.ct b ax=>ei vM qU m b ax|.bk b ax=>.nx b ax|r=>r):=by
    simp only[ei,x];rfl
   have H:=u.get _ _ M (by simp)
   rcases zu (Ψ:=Ψ) (u0:=d) (A0:=e) (S0:=f) (E1:=g) (R.keep u) H E F N (by omega) (by omega)with ⟨_,w,z,A⟩|⟨n,i,j,l,p,Q,I,w,J,z,R2,K,S,T,A⟩
   .refine .inl ⟨w,?_,dz.up (u.trans A)⟩
    rw[step,z]
   .have U:=uk (gM J)
    have L:∃r∈rs,r≠[]:=by
     obtain⟨t,O⟩:=gM J;exact⟨_,O,by simp⟩
    rcases P w (rs.map (cK n)) (a++[n]) q Q I i j l p (by omega) R2 K S T (by simpa using N) (by simp;omega)with ⟨Oz,e3,K3⟩|⟨o,b1,b2,b4,b5,b6,Oz,e3,M3,RS,K3⟩
    .refine .inl ⟨Oz,?_,((dz.up u).trans A).trans K3⟩
     rw[step,z];exact e3
    .refine .inr ⟨n::o,b1,b2,b4,b5,b6,Oz,?_,.step L J M3,by rw[RS];simp,((dz.up u).trans A).trans K3⟩
     rw[step,z];exact e3
def CZ(e:a_):Prop:=∀(b:aJ) (k:Nat) (f:List Nat) (c:List (List Str)),Rw b k f c->c.length<=900->tl c<=800->∃d a,e [.ref k] b=.ok d a/\af [] b a/\(d=.non\/∃o q,d=.ref q/\a[q]?=some (.lst (o.map .str))/\Mg c o/\b.length<=q)
theorem Kb:CZ (bT 7 1 Ei):=by
 intro h k F q R w x;rw[bj (by rfl)]
 have A:a7 7 [D.ref k]=[oR k,none,none,none,none,none,none]:=rfl;rw[A]
 have i:bf (aa 0) [oR k,none,none,none,none,none,none] h=.ok (.seq (.ref k)) h:=by
  exact aU (by rw[aI,aA R.ce])
 obtain⟨c,a,G,C,l,H⟩:=jB (y:=false) (s:=mN (a8 .list) (ae (aa 0) ah)) (B7:=[]) i R (by omega) (λj m a K E n d=>by
  obtain⟨b,e,g⟩:=ne_nil (B:=[oR j]) (t:=0) rfl d;refine⟨b,?_,g⟩
  show bZ (m2 (aH .NotEq) (aa 0) (mN bh ah) [oR j] a)=_
  rw[e];rfl) (λj m a K E n d=>by
  refine⟨_,a++[.lst _],?_,af.app,aq,K.len⟩;exact cw d)
 rw[List.map_id']at l;have R2:Rw (a++[.lst _]) _ c (ne q):=⟨aq,l.keep (fp:=[]) af.app (by simp)⟩
 have g:af [] h (a++[Cell.lst (c.map .ref)]):=C.trans af.app;have I:(a++[Cell.lst (c.map .ref)]).length=a.length+1:=by simp
 have J:=l.lt
 have r:aF 2 (bC (mN (a8 .list) (ae (aa 0) ah)) false (m2 (aH .NotEq) (aa 0) (mN bh ah)) (bf (aa 0)) 0 []) [oR k,none,none,none,none,none,none] h=.nx [oR k,none,oR a.length,none,none,none,none] (a++[Cell.lst (c.map .ref)]):=by
  simp_all
 generalize a++[Cell.lst _]=b at *;have p:af [] b (b++[Cell.lst []]):=af.app;have u:(aF 3 (mN bh ah)) [oR k,none,oR a.length,none,none,none,none] b=.nx [oR k,none,oR a.length,oR b.length,none,none,none] (b++[Cell.lst []]):=by rfl
 have f:=g.len;rcases zw fuel _ q [] _ _ c none none none none (by unfold fuel;omega) (R2.keep p) aq (by omega) (λz=>by grind) w (by simpa using x)with ⟨Gm,e4,K4⟩|⟨o,b1,b2,b4,b5,b6,Gm,e4,M4,OA,K4⟩
 .refine⟨.non,Gm,?_,af.new (g.trans p) K4 (by simpa using f),.inl rfl⟩
  unfold Ei;rw[ag,r,aD,ag,u,aD,ag];unfold jt;rw[e4];rfl
 .refine⟨_,Gm,?_,af.new (g.trans p) K4 (by simpa using f),.inr ⟨o,_,rfl,by simpa using OA,M4,f⟩⟩
  unfold Ei;rw[ag,r,aD,ag,u,aD,ag];unfold jt;rw[e4];rfl
structure qV(E:eP)(L:Str->List Str):Prop where
 nd:(nms E).Nodup
 el:∀(i:Nat) (p:Str×List Str),E[i]?=some p->p.2.Nodup/\p.2.length<=5/\∀x∈p.2,x∈(nms E).take i
 ln:∀(i:Nat) (p:Str×List Str),E[i]?=some p->∃o,Mg (p.2.map L++[p.2]) o/\L p.1=p.1::o
 len:E.length<=12
theorem kC(h:Z[b]?=some Y6):(nms Z)[b]?=some Y6.1:=by simp[nms,h]
theorem uq(h:(nms Z)[b]?=some d):∃r,Z[b]?=some (d,r):=by
 simp only[nms,List.getElem?_map,Option.map_eq_some_iff]at h
 grind
theorem Gn(e:(nms Z).Nodup)(h:Z[b]?=some Y6):cB Z Y6.1=Y6.2:=by
 have c:=kC h;obtain⟨f,a⟩:=List.mem_iff_getElem?.mp (pd (ie (List.mem_of_getElem? c)));have d:=kC a;have:=(List.getElem?_inj ((List.getElem?_eq_some_iff.mp d).1) e).mp (d.trans c.symm)
 grind
theorem gu(h:d∈g.take b):∃j,j<b/\g[j]?=some d:=by
 obtain⟨j,a⟩:=List.mem_iff_getElem?.mp h;have c:=(List.getElem?_eq_some_iff.mp a).1
 grind
namespace qV
variable{Q:Str->List Str}
theorem nil:qV [] Q:=⟨by simp[nms],λi p h=>by simp at h,λi p h=>by simp at h,by simp⟩
variable{Z:eP}
theorem mem(G:qV Z Q):∀(k i:Nat) (n:Str),i<k->(nms Z)[i]?=some n->∀x∈Q n,x∈nms Z:=by
 intro k
 induction k with
 |zero=>simp
 |succ k q=>
  intro i n s b x c;obtain⟨r,d⟩:=uq b;obtain⟨o,M,f⟩:=G.ln i _ d;rw[f]at c;rcases List.mem_cons.mp c with z|z
  .rw[z];exact List.mem_of_getElem? b
  .obtain⟨g,l,e⟩:=oB M x z
   have a:=(G.el i _ d).2.2;rcases List.mem_append.mp l with h|h
   .obtain⟨y,m,rfl⟩:=List.mem_map.mp h
    obtain⟨j,t,p⟩:=gu (a y m)
    grind
   .rw[List.mem_singleton.mp h]at e
    exact List.mem_of_mem_take (a x e)
variable{d:Str}
theorem short(G:qV Z Q)(b:d∈nms Z):(Q d).length<=13:=by
 obtain⟨i,a⟩:=List.mem_iff_getElem?.mp b;obtain⟨r,c⟩:=uq a;obtain⟨o,M,e⟩:=G.ln i _ c;have f:=gs (qh M) (λx g=>(G.mem (i+1) i d (by omega) a) x (by simp_all))
 have h:(nms Z).length=Z.length:=by simp[nms]
 have:=G.len;rw[e];simp;omega
variable{g:List Str}
theorem zx(G:qV Z Q)(b:∀x∈g,x∈nms Z)(f:g.length<=5):tl (g.map Q++[g])<=70:=by
 unfold tl;rw[List.map_append,List.sum_append]
 have c:∀g:List _,(∀x∈g,x∈nms Z)->((g.map Q).map List.length).sum<=13*g.length:=by
  intro g b
  induction g with
  |nil=>simp
  |cons a g d=>
   have h:=d λx e=>b x (by simp[e])
   have i:=G.short (b a (by simp))
   grind
 grind
variable{Y:List Str}
theorem snoc(G:qV Z Q)(k:d∉nms Z)(w:Z.length<12)(l:g.Nodup)(m:g.length<=5)(n:∀x∈g,x∈nms Z)(M:Mg (g.map Q++[g]) Y):qV (Z++[(d,g)]) (λx=>if x=d then d::Y else Q x)/\∀x∈nms Z,(if x=d then d::Y else Q x)=Q x:=by
 have b:∀x∈nms Z,(if x=d then d::Y else Q x)=Q x:=λx c=>if_neg λ(z:x=d)=>k (z▸c)
 have e:nms (Z++[(d,g)])=nms Z++[d]:=by simp[nms]
 have j:(nms Z).length=Z.length:=by simp[nms]
 have a:∀(i:Nat) (p:Str×List Str),(Z++[(d,g)])[i]?=some p->(i<Z.length/\Z[i]?=some p)\/(i=Z.length/\p=(d,g)):=by
  intro i p h
  by_cases q:i<Z.length
  .rw[List.getElem?_append_left q]at h
   exact .inl ⟨q,h⟩
  .rw[List.getElem?_append_right (by omega)]at h
   have y:=(List.getElem?_eq_some_iff.mp h).1
   grind
 refine⟨⟨?_,?_,?_,by simp;omega⟩,b⟩
 .rw[e]
  exact List.nodup_append.mpr ⟨G.nd,by simp,by grind⟩
 .intro i p h
  rcases a i p h with ⟨q,h⟩|⟨rfl,rfl⟩
  .obtain⟨o,r,f⟩:=G.el i p h
   refine⟨o,r,λx c=>?_⟩
   rw[e,List.take_append_of_le_length (by omega)]
   exact f x c
  simp_all
 .intro i p h
  rcases a i p h with ⟨q,h⟩|⟨rfl,rfl⟩
  .obtain⟨s,t,u⟩:=G.ln i p h
   have f:=(G.el i p h).2.2;refine⟨s,?_,?_⟩
   .have:=List.map_congr_left λx c=>b x (List.mem_of_mem_take (f x c))
    rw[this];exact t
   .rw[b p.1 (List.mem_of_getElem? (kC h))]
    exact u
  .refine⟨Y,?_,by simp⟩
   have:=List.map_congr_left λx c=>b x (n x c)
   grind
end qV
def Rf:EM:=(bC (m2 aM (aa 1) (aa 0)) true (ai .non) (bf (aa 5)) 0 [3])
def OB(a:a_):EM:=(mN (aX a) (ae (m2 (aY .Add) Rf (mN bh (ae (aa 5) ah))) ah))
def OC:SM:=(dR (m2 (aH .Is) (aa 6) (ai .non))
 (ak (aF 5 (mN bh ah))
 (ak (aF 6 (mN bh ah))
 ao))
 ao)
def Mm:EM:=(m2 (aY .Add) (mN bh (ae (m2 aM (aa 0) (aa 4)) ah)) (aa 6))
def OD(a:a_):SM:=
 (ak (aF 5 (mN (a8 .list) (ae (m2 aM (aa 1) (aa 4)) ah)))
 (ak (aF 6 (OB a))
 (ak OC
 (ak (dW (aa 2) (m2 aM (aa 0) (aa 4)) (aa 5))
 (ak (dW (aa 3) (m2 aM (aa 0) (aa 4)) Mm)
 ao)))))
def Mn(a:a_):SM:=
 (ak (aF 2 cX)
 (ak (aF 3 cX)
 (ak (dw (cV 4) (cU (ae (mN (a8 .len) (ae (aa 0) ah)) ah))
 (OD a))
 (ak (bS (mN jU (ae (aa 2) (ae (aa 3) ah))))
 ao))))
def Tr(_:Nat):Prop:=True
theorem qW(o:A1 B a=.ok (.seq (.ref b)) a)(p:a[b]?=some (.lst (g.map .str)))(r:∀x∈g,∃j,s ([oS x]++dn J B) a=.ok (.ref j) a/\a[j]?=some (.lst ((Q x).map .str)))(y:g.length<=100):
  ∃c,bC s true (ai .non) A1 0 J B a=.ok (.ref a.length) (a++[.lst (c.map .ref)])/\jy a c (g.map Q):=by
 obtain⟨z,t,u,c,rfl,l,rfl⟩:=kA (s:=s) (ζ:=ai .non) (J:=J) (q:=g.map .str) (λi k f=>∃c,k=c.map .ref/\jy f c ((g.take i).map Q)/\f=a) o ⟨[],rfl,.nil,rfl⟩
  (λi k f h=>by
   obtain⟨_,_,_,rfl⟩:=h;rw[cg,aI,aA p])
  (λi d k f m h=>by
   obtain⟨c,rfl,l,rfl⟩:=h;obtain⟨x,n,rfl⟩:=fF m;obtain⟨j,e,w⟩:=r x (List.mem_of_getElem? n);refine⟨_,_,e,c++[j],by simp,?_,rfl⟩
   rw[List.take_succ,n,List.map_append];exact l.snoc w) (by simp;omega)
 rw[List.length_map,List.take_length]at l;exact⟨c,u,l⟩
theorem nF(h:a[b]?=some (.lst (J.map .ref)))(c:jy a J S)(i:a[υ]?=some (.lst [.ref t]))(j:a[t]?=some (.lst (g.map .str)))(k:S.length<=100):
  aY .Add (.ref b) (.ref υ) a=.ok (.ref a.length) (a++[.lst ((J++[t]).map .ref)])/\Rw (a++[.lst ((J++[t]).map .ref)]) a.length (J++[t]) (S++[g]):=by
 have d:=c.len;have f:=gI h i (by simp;omega)
 have e:J.map D.ref++[.ref t]=(J++[t]).map .ref:=by simp
 rw[e]at f;exact⟨f,aq,(c.snoc j).keep (fp:=[]) af.app (by simp)⟩
variable{u4:EM}
theorem pe(c:u4 B a=.ok (.ref t) η)(e:s B η=.ok (.ref b) η)(f:ζ B η=.ok (.str d) η)(g:η[b]?=some (.dK R))(h:R.length<=1000):dW s ζ u4 B a=.nx B (η.set b (.dK (cm R (.inr d) (.ref t)))):=by
 unfold dW;rw[c,cM,e,cM,f,cM,sy g h]
variable{E3 W1:Nat}
theorem Gp(hM:CZ L)(hx:a[b]?=some (.lst (Y.map .str)))(C:Rw a t J S)(G:qV Z Q)(hE:nms Z=Y.take E3)(d0:Y[E3]?=some d)(t0:Y.Nodup)(W0:Y.length<=12)(v0:S[E3]?=some g)(w0:g.Nodup)(h0:g.length<=5)(E:∀y∈g,y∈Y.take E3)(he:a[υ]?=some (.dK x8))(i0:aE Tr a x8 Z)(hl:a[W1]?=some (.dK R))(F:aE Tr a R (aP (nms Z) Q))(l0:υ≠W1):
  ∃x o x0 y0 b0 c0 ax,OD L [oR b,oR t,oR υ,oR W1,oI E3,Ψ,u0] a=.nx [oR b,oR t,oR υ,oR W1,oI E3,x0,y0] ax/\af [υ,W1] a ax /\
   ax[υ]?=some (.dK b0)/\aE Tr ax b0 (Z++[(d,x)])/\ax[W1]?=some (.dK c0)/\aE Tr ax c0 (aP (nms (Z++[(d,x)])) (λb=>if b=d then d::o else Q b))/\qV (Z++[(d,x)]) (λb=>if b=d then d::o else Q b):=by
 have X0:=(List.getElem?_eq_some_iff.mp d0).1
 have Y0:Z.length=E3:=by
  have:(nms Z).length=Z.length:=by simp[nms]
  rw[hE,List.length_take]at this;omega
 have e0:d∉nms Z:=by
  rw[hE];intro hm;obtain⟨j,H,h⟩:=gu hm;have:=(List.getElem?_inj (by omega) t0).mp (h.trans d0.symm)
  omega
 rw[←hE]at E;obtain⟨j0,z0,m0⟩:=C.al.at v0;have A0:aM (.ref t) (.int E3) a=.ok (.ref j0) a:=cq C.ce (L2.cJ (b:=E3) (by simp[z0]))
 have r1:(aF 5 (mN (a8 .list) (ae (m2 aM (aa 1) (aa 4)) ah))) [oR b,oR t,oR υ,oR W1,oI E3,Ψ,u0] a=.nx [oR b,oR t,oR υ,oR W1,oI E3,oR a.length,u0] (a++[.lst (g.map .str)]):=by
  rw[cb]
  have:(mN (a8 .list) (ae (m2 aM (aa 1) (aa 4)) ah)) [oR b,oR t,oR υ,oR W1,oI E3,Ψ,u0] a=.ok (.ref a.length) (a++[.lst (g.map .str)]):=by
   show(((aM (.ref t) (.int E3) a).bind _).bind _)=_
   rw[A0];exact cw m0
  rw[this];rfl
 have g1:(a++[Cell.lst (g.map .str)])[a.length]?=some (.lst (g.map .str)):=aq;have K1:af [] a (a++[Cell.lst (g.map .str)]):=af.app;generalize a++[Cell.lst (g.map .str)]=p at *;have C0:=K1.get _ _ hl (by simp)
 have n0:=F.keep K1 (by simp)
 have D0:bf (aa 5) [oR b,oR t,oR υ,oR W1,oI E3,oR a.length,u0] p=.ok (.seq (.ref a.length)) p:=by
  rw[cf];exact aU (by rw[aI,aA g1])
 obtain⟨w,e2,h2⟩:=qW (Q:=Q) (s:=m2 aM (aa 1) (aa 0)) (J:=[3]) D0 g1 (λy hy=>by
  obtain⟨j,hv,_,H⟩:=n0.at (n:=y) (by rw[az];exact E y hy)
  rw[aS (E y hy)]at H;exact⟨j,d4 (.inl C0) hv,H⟩) (by omega)
 have g2:(p++[Cell.lst (w.map .ref)])[p.length]?=some (.lst (w.map .ref)):=aq;have K2:af [] p (p++[Cell.lst (w.map .ref)]):=af.app;have e2:Rf [oR b,oR t,oR υ,oR W1,oI E3,oR a.length,u0] p=.ok (.ref p.length) (p++[.lst (w.map .ref)]):=e2;generalize p++[Cell.lst (w.map .ref)]=k at *;have g3:(k++[Cell.lst [.ref a.length]])[k.length]?=some (.lst [.ref a.length]):=aq;have K3:af [] k (k++[Cell.lst [.ref a.length]]):=af.app
 have e3:(mN bh (ae (aa 5) ah)) [oR b,oR t,oR υ,oR W1,oI E3,oR a.length,u0] k=.ok (.ref k.length) (k++[.lst [.ref a.length]]):=by
  show bh [.ref a.length] k=_
  rw[eO,if_pos (aT (by simp))]
 generalize k++[Cell.lst [.ref a.length]]=U at *;have V:=K2.trans K3;obtain⟨e4,R4⟩:=nF (K3.get _ _ g2 (by simp)) (h2.keep V (by simp)) g3 (V.get _ _ g1 (by simp)) (by simp;omega)
 have K4:af [] U (U++[Cell.lst ((w++[a.length]).map .ref)]):=af.app;generalize U++[Cell.lst ((w++[a.length]).map .ref)]=G0 at *;obtain⟨I,i,e5,K5,hd⟩:=hM G0 U.length (w++[a.length]) _ R4 (by simp;omega) (by have:=G.zx E h0;omega)
 have r2:aF 6 (OB L) [oR b,oR t,oR υ,oR W1,oI E3,oR a.length,u0] p=.nx [oR b,oR t,oR υ,oR W1,oI E3,oR a.length,some I] i:=by
  rw[cb];unfold OB;rw[dX,a6,dh,e2,aw,e3,aw,e4,aw,bG,aw,aw,zb,e5];rfl
 have I0:af [] a i:=((K1.trans V).trans K4).trans K5;have J0:=((V.trans K4).trans K5).get _ _ g1 (by simp)
 have hI:∃x o c f l,OC [oR b,oR t,oR υ,oR W1,oI E3,oR a.length,some I] i=.nx [oR b,oR t,oR υ,oR W1,oI E3,oR c,oR f] l/\af [] i l/\l[c]?=some (.lst (x.map .str))/\l[f]?=some (.lst (o.map .str))/\x.Nodup/\x.length<=5/\(∀y∈x,y∈nms Z)/\Mg (x.map Q++[x]) o:=by
  rcases hd with rfl|⟨o,q,rfl,hq,M,_⟩
  .refine⟨[],[],i.length,i.length+1,(i++[.lst []])++[.lst []],?_,af.app.trans af.app,cS aq,?_,by simp,by simp,by simp,.done (by simp)⟩
   .have a1:(mN bh ah) [oR b,oR t,oR υ,oR W1,oI E3,oR a.length,some .non] i=.ok (.ref i.length) (i++[.lst []]):=by rw[dX,bG,aw,eO,if_pos (aT (by simp))]
    have a2:(mN bh ah) [oR b,oR t,oR υ,oR W1,oI E3,oR i.length,some .non] (i++[.lst []])=.ok (.ref (i.length+1)) ((i++[.lst []])++[.lst []]):=by
     rw[dX,bG,aw,eO,if_pos (aT (by simp))]
     simp
    unfold OC
    simp_all
   .have:=aq (a:=i++[Cell.lst []]) (B3:=.lst []) (η:=[])
    simpa using this
  .exact⟨g,o,a.length,q,i,rfl,af.refl,J0,hq,w0,h0,E,M⟩
 obtain⟨x,o,c,f,l,r3,K6,ha,hb,q1,q2,q3,M⟩:=hI;have A:=I0.trans K6;obtain⟨G',K0⟩:=G.snoc e0 (by omega) q1 q2 q3 M
 have N:∀(k:aJ) (b5 b6:Option D),af [υ,W1] a k->(m2 aM (aa 0) (aa 4)) [oR b,oR t,oR υ,oR W1,oI E3,b5,b6] k=.ok (.str d) k:=λk b5 b6 K=>by
  have n1:b≠υ:=λz=>by
   rw[z,he]at hx;cases hx
  have n2:b≠W1:=λz=>by
   rw[z,hl]at hx;cases hx
  have L0:=K.get _ _ hx (by simp[n1,n2])
  show aM (.ref b) (.int E3) k=_
  exact cq L0 (L2.cJ (b:=E3) (by simp[d0]))
 have O:=A.get _ _ he (by simp)
 have M0:=A.get _ _ hl (by simp)
 have o0:=i0.keep A (by simp)
 have p0:=F.keep A (by simp)
 have P0:x8.length<=1000:=by have:=i0.len;omega
 have Q0:R.length<=1000:=by have:=zq F;omega
 have r4:=pe (B:=[oR b,oR t,oR υ,oR W1,oI E3,oR c,oR f]) (s:=aa 2) (ζ:=m2 aM (aa 0) (aa 4)) (u4:=aa 5) (a:=l) (η:=l) (t:=c) rfl rfl (N l _ _ (A.sub (by simp))) O P0
 have K7:af [υ] l (l.set υ (.dK (cm x8 (.inr d) (.ref c)))):=af.set (by simp)
 have R0:=aK (e:=.dK (cm x8 (.inr d) (.ref c))) O;have q0:=(o0.put e0 (j:=c) (r:=x) trivial ha).bY K7 (λj H ds=>by rw[List.mem_singleton.mp H,O];simp)
 have r0:=p0.bY K7 (λj H ds=>by rw[List.mem_singleton.mp H,O];simp)
 have S0:=K7.get _ _ M0 (by simpa using Ne.symm l0)
 have T0:=K7.get _ _ hb (by
  simp;exact λz=>by rw[z,O]at hb;cases hb)
 have f0:af [υ,W1] a (l.set υ (.dK (cm x8 (.inr d) (.ref c)))):=(A.sub (by simp)).trans (K7.sub (by simp))
 generalize l.set υ (.dK (cm x8 (.inr d) (.ref c)))=m at *;have g8:(m++[Cell.lst [.str d]])[m.length]?=some (.lst [.str d]):=aq;have K8:af [] m (m++[Cell.lst [.str d]]):=af.app
 have e8:(mN bh (ae (m2 aM (aa 0) (aa 4)) ah)) [oR b,oR t,oR υ,oR W1,oI E3,oR c,oR f] m=.ok (.ref m.length) (m++[.lst [.str d]]):=by
  rw[dX,a6,N m _ _ f0,aw,bG,aw,aw,eO,if_pos (aT (by simp))]
 generalize m++[Cell.lst [.str d]]=u at *
 have b1:o.length<=13:=by
  have:=G'.short (d:=d) (by simp[nms])
  simp at this;omega
 have e9:=gI g8 (K8.get _ _ T0 (by simp)) (by simp;omega)
 have ev:Mm [oR b,oR t,oR υ,oR W1,oI E3,oR c,oR f] m=.ok (.ref u.length) (u++[.lst ([.str d]++o.map .str)]):=by
  unfold Mm;have:aa 6 [oR b,oR t,oR υ,oR W1,oI E3,oR c,oR f] u=.ok (.ref f) u:=rfl;rw[dh,e8,aw,this,aw,e9]
 have g9:(u++[Cell.lst ([.str d]++o.map .str)])[u.length]?=some (.lst ((d::o).map .str)):=aq;have K9:af [] m (u++[Cell.lst ([.str d]++o.map .str)]):=K8.trans af.app;generalize u++[Cell.lst ([.str d]++o.map .str)]=P at *;have X:=K9.get _ _ S0 (by simp)
 have r5:=pe (B:=[oR b,oR t,oR υ,oR W1,oI E3,oR c,oR f]) (s:=aa 3) (ζ:=m2 aM (aa 0) (aa 4)) (u4:=Mm) (a:=m) (η:=P) (t:=u.length) ev rfl (N P _ _ (f0.trans (K9.sub (by simp)))) X Q0
 have a0:af [W1] P (P.set W1 (.dK (cm R (.inr d) (.ref u.length)))):=af.set (by simp)
 have g0:nms (Z++[(d,x)])=nms Z++[d]:=by simp[nms]
 have s0:aP (nms Z) Q++[(d,d::o)]=aP (nms (Z++[(d,x)])) (λb=>if b=d then d::o else Q b):=by
  rw[g0];unfold aP;rw[List.map_append]
  congr 1
  .refine List.map_congr_left λy hy=>?_
   show(y,Q y)=(y,if y=d then d::o else Q y)
   rw[K0 y hy]
  .simp
 have T:=((r0.keep K9 (by simp)).put (n:=d) (by rw[az];exact e0) (j:=u.length) (r:=d::o) trivial g9).bY a0 (λj H ds=>by rw[List.mem_singleton.mp H,X];simp)
 rw[s0]at T;have V0:∀j∈[W1],∀ds,P[j]?≠some (.lst ds):=λj H ds=>by rw[List.mem_singleton.mp H,X];simp
 refine⟨x,o,oR c,oR f,_,_,_,?_,(f0.trans (K9.sub (by simp))).trans (a0.sub (by simp)),a0.get _ _ (K9.get _ _ R0 (by simp)) (by simpa using l0),(q0.keep K9 (by simp)).bY a0 V0,aK X,T,G'⟩
 unfold OD;rw[ag,r1,aD,ag,r2,aD,ag,r3,aD,ag,r4,aD,ag,r5];rfl
def Gq(h:a_):Prop:=∀(f:aJ) (x k:Nat) (j:List Nat) (b:List Str) (g:List (List Str)),f[x]?=some (.lst (b.map .str))->Rw f k j g->g.length=b.length->b.Nodup->b.length<=12->(∀i r,g[i]?=some r->r.Nodup/\r.length<=5/\∀y∈r,y∈b.take i) ->
 ∃E L e l c d a,h [.ref x,.ref k] f=.ok (.tup [.ref e,.ref l]) a/\af [] f a/\nms E=b/\qV E L/\a[e]?=some (.dK c)/\aE Tr a c E/\a[l]?=some (.dK d)/\aE Tr a d (aP b L)/\e≠l
theorem Kc(V:CZ L):Gq (bT 7 2 (Mn L)):=by
 intro f x k js F X Q R Y I J Z;rw[bj (by rfl)]
 have e0:a7 7 [D.ref x,.ref k]=[oR x,oR k,none,none,none,none,none]:=rfl;rw[e0];have K1:af [] f (f++[Cell.dK []]):=af.app;have g1:(f++[Cell.dK []])[f.length]?=some _:=aq;have l1:(f++[Cell.dK []]).length=f.length+1:=by simp
 have r1:aF 2 cX [oR x,oR k,none,none,none,none,none] f=.nx [oR x,oR k,oR _,none,none,none,none] _:=rfl;generalize f++[Cell.dK []]=b at *;have S:af [] b (b++[Cell.dK []]):=af.app;have g2:(b++[Cell.dK []])[b.length]?=some (.dK []):=aq;have r2:aF 3 cX [oR x,oR k,oR _,none,none,none,none] b=.nx [oR x,oR k,oR f.length,oR _,none,none,none] _:=rfl;generalize b++[Cell.dK []]=n at *;have q:=K1.trans S;have u:=q.get _ _ Q (by simp)
 have R2:=R.keep q;have lx:=bc Q;have lk:=bc R.ce;have lj:=R.al.lt;have w:f.length≠b.length:=by omega
 have y:=gG u;rw[List.length_map]at y
 have M:cU (ae (mN (a8 .len) (ae (aa 0) ah)) ah) [oR x,oR k,oR f.length,oR b.length,none,none,none] n=.ok (.ints 0 F.length) n:=by
  have:(mN (a8 .len) (ae (aa 0) ah)) [oR x,oR k,oR f.length,oR b.length,none,none,none] n=.ok _ n:=y;rw[qI,a6,this,aw,bG,aw,aw,uc,if_pos (ed (by omega) (by omega)),Int.toNat_natCast]
 unfold Mn;rw[ag,r1,aD,ag,r2,aD,ag,cR,M,cM]
 refine bX (R:=λr=>∃E a e l g h m,gR (sq r _)=.ok (.tup [.ref e,.ref l]) m/\af [] f m/\nms E=F/\qV E a/\m[e]?=some (.dK g)/\aE Tr m g E/\m[l]?=some (.dK h)/\aE Tr m h (aP F a)/\e≠l)
  (λi N c=>∃E a g h H z A,N=[oR x,oR k,oR _,oR _,H,z,A]/\af [f.length,b.length] n c/\nms E=F.take i/\qV E a/\c[f.length]?=some (.dK g)/\aE Tr c g E/\c[b.length]?=some (.dK h)/\aE Tr c h (aP (nms E) a)) (λ_ _ _ _=>rfl) ?_ ?_ fuel 0 _ _ (by rw[du];unfold fuel;omega) (Nat.zero_le _) ⟨[],λ_=>[],[],[],none,none,none,rfl,af.refl,rfl,qV.nil,(S.get _ _ g1 (by simp)),.nil,g2,.nil⟩
 .rintro i d N c hd ⟨E,a,g,h,H,z,A,rfl,K,t,G,O,s,P,p⟩
  obtain⟨rfl,hi⟩:=eM hd;have B:=List.getElem?_eq_getElem hi;have C:X[i]?=some _:=List.getElem?_eq_getElem (by omega)
  obtain⟨p1,p2,p3⟩:=Z i _ C;refine⟨[oR x,oR k,oR _,oR _,some _,z,A],rfl,?_⟩;rw[Int.zero_add];obtain⟨r',o,b5,b6,T,U,a0,e4,K4,q1,q2,q3,q4,G4⟩:=Gp V (K.get _ _ u (by simp;omega)) (R2.ud K (by simp;omega) (λj hj=>by have:=lj j hj;simp;omega)) G t B I J C p1 p2 p3 O s P p w
  rw[e4];refine⟨_,_,_,_,_,_,_,rfl,K.trans K4,?_,G4,q1,q2,q3,q4⟩;rw[List.take_succ,B,←t];simp[nms]
 .rintro N c ⟨E,a,g,h,H,z,A,rfl,K,t,G,O,s,P,p⟩
  rw[du,List.take_length]at t;rw[t]at p;refine⟨E,a,_,_,g,h,c,?_,af.new q K (by simp;omega),t,G,O,s,P,p,w⟩
  rw[aD,ag]
  have:(mN jU (ae (aa 2) (ae (aa 3) ah))) [oR x,oR k,oR f.length,oR b.length,H,z,A] c=.ok (.tup [.ref f.length,.ref b.length]) c:=by
   rfl
  rfl
theorem cC.hlt(H:cC ξ a b Z Q):b<a.length:=by
 obtain⟨_,_,_,_,z,_⟩:=H;exact bc z
def Mo(a:Key×D):D:=.tup [jq a.1,a.2]
theorem C9(h:a[b]?=some (.dF R)):eh (.items b) a=some (R.map Mo):=by simp only[eh,h];rfl
theorem C_:∃e,et e (pureOf (bT 8 3 nB)):=by
 have h:∀c t m:Int,∃r,0<=t->t<100000->0<m->0<=r/\r<m/\pureOf _ _=.ok _:=λc t m=>by
  by_cases d:0<=t/\t<100000/\0<m
  .obtain⟨r,f,g,i⟩:=CH (P:=c) d.1 d.2.1 d.2.2
   exact⟨r,λ_ _ _=>⟨f,g,i⟩⟩
  .exact⟨0,λa b c=>absurd ⟨a,b,c⟩ d⟩
 exact⟨_,λc t m=>(h c t m).choose_spec⟩
def lL:SM:=
 (ak (dR (m2 (aH .Lt) (aa 1) (mN (a8 .len) (ae (aa 0) ah)))
 (ak (bS (m2 aM (aa 0) (aa 1)))
 ao)
 ao)
 (ak (bS (ai (.int 0)))
 ao))
theorem Kd(a:List Int):Hh (SC a)=true:=by
 show(a.map _).all _=true
 rw[List.all_eq_true];intro d b;obtain⟨i,_,rfl⟩:=List.mem_map.mp b;rfl
theorem zy:eS (λb k=>b.getD k 0) (pureOf (bT 2 2 lL)):=by
 intro b k;have f:a7 2 [SC b,D.int k]=[some _,some _]:=rfl
 have c:a8 .len [SC b] []=.ok (.int b.length) []:=by
  show ay.ok _ []=_
  simp_all
 refine nz (a:=[]) (by
  simp only[List.all_cons,Kd,List.all_nil];rfl) ?_ rfl
 rw[bj (by rfl),f]
 by_cases h:k<b.length
 .have d:=by omega
  have e:L2.kf (b.map D.int) (k)=some (.int (b.getD k 0)):=L2.cJ (by simp[h])
  have g:aM (SC b) (.int k) []=.ok (.int (b.getD k 0)) []:=by
   show i9 (ixs [] (some _) (.int k)) _=_
   rw[zd e];rfl
  simp[lL,c,d,g,-List.getD_eq_getElem?_getD]
 .have d:=by omega
  have e:b.getD k 0=0:=by grind
  show _=ay.ok (D.int (b.getD k 0)) []
  rw[e];simp[lL,c,d]
def SJ(F:List D->Out Rs):EM:=(bC (mN (bF F) (ae (aa 1) (ae (aa 0) (ae (ai (.int 26)) ah)))) true (ai .non) (cU (ae (ai (.int 8)) ah)) 0 [0])
def Dc(i j:Nat):EM:=(m2 (aY .Add) (dG (aa i) false (aa j) true (ai .non)) (dG (aa i) true (ai .non) false (aa j)))
theorem zz(l:B[b]?=some (oR υ))(m:B[t]?=some (oI W1))(h:a[υ]?=some (.lst (g.map .str)))(n:g.length<=1000):∃k ax,Dc b t B a=.ok (.ref k) ax/\ax[k]?=some (.lst ((g.drop W1++g.take W1).map .str))/\af [] a ax/\a.length<=k:=by
 have o:=FP (t:=W1) h;have i:(a++[Cell.lst ((g.drop W1).map .str)])[a.length]?=some _:=aq;have d:af [] a (a++[Cell.lst ((g.drop W1).map .str)]):=af.app;generalize a++[Cell.lst _]=c at *;have p:=o_ (t:=W1) (d.get _ _ h (by simp))
 have j:(c++[Cell.lst ((g.take W1).map .str)])[c.length]?=some _:=aq;have e:af [] _ (c++[Cell.lst ((g.take W1).map .str)]):=af.app;generalize c++[Cell.lst _]=f at *;have q:=gI (e.get _ _ i (by simp)) j (by simp;omega)
 refine⟨_,f++[.lst _],?_,by exact aq,(d.trans e).trans af.app,(d.trans e).len⟩
 unfold Dc
 simp_all
theorem qX(a:List Str):(a.drop t++a.take t).Perm a:=by
 have:=(List.perm_append_comm (l₁:=a.drop t) (l₂:=a.take t))
 simp_all
def sD(S:Str):Prop:=S.cps.toList.length=8/\∀x∈S.cps.toList,97<=x/\x<=122
theorem Gr(a b c d e f g h:Nat):E9 .join (.str "") (.tup [.lst [.str (bz a),.str (bz b),.str (bz c),.str (bz d),.str (bz e),.str (bz f),.str (bz g),.str (bz h)]])=.ok (false,.str ⟨#[a,b,c,d,e,f,g,h]⟩):=rfl
def Rg(F:List D->Out Rs):EM:=(bC (m2 aM (aa 2) (mN (bF F) (ae (aa 1) (ae (aa 0) (ae (ai (.int 26)) ah))))) true (ai .non) (cU (ae (ai (.int 8)) ah)) 0 [0,2])
def Mp(F:List D->Out Rs):EM:=(dm Fz qq (ai (.str "")) (ae (Rg F) ah))
variable{E6:Option D}{P:Int}{y1:List D->Out Rs}{y3:Int->Int->Int->Int}
theorem Gs(b:et y3 y1){a9 a10:Option D}:∃S ax,Mp y1 [oI P,Ψ,oS abc,u0,A0,S0,E1,C5,E6,a9,a10] a=.ok (.str S) ax/\sD S/\af [] a ax:=by
 have c:l9 8=true:=ed (by omega) (by omega)
 have h:=cu (a:=a) (η:=a) (B:=[oI P,Ψ,oS abc,u0,A0,S0,E1,C5,E6,a9,a10]) (s:=m2 aM (aa 2) (mN (bF y1) (ae (aa 1) (ae (aa 0) (ae (ai (.int 26)) ah))))) (y:=true) (ζ:=ai .non) (A1:=cU (ae (ai (.int 8)) ah)) (J:=[0,2]) (v4:=.ints 0 8)
  (E7:=λd=>match d with|.int j=>.str (bz (97+(y3 P j 26).toNat))|_=>.non) (by simp[c]) rfl (λd e=>rfl) (λd e _=>by
   obtain⟨i,l⟩:=List.mem_iff_getElem?.mp e;obtain⟨rfl,m⟩:=eM l;obtain⟨f,g,q⟩:=b P (0+(i)) 26 (by omega) (by omega) (by omega)
   generalize (0)+(i:Int)=j at *;simp[dn,q,(tD f g)]) (by rw[du];omega)
 rw[List.filter_eq_self.mpr (by simp)]at h
 have n:∀j,0<=j->j<100000->97<=97+(y3 P j 26).toNat/\97+(y3 P j 26).toNat<=122:=λj o p=>by
  obtain⟨f,g,_⟩:=b P j 26 o p (by omega)
  omega
 refine⟨⟨#[97+(y3 P (0+0) 26).toNat,97+(y3 P (0+1) 26).toNat,97+(y3 P (0+2) 26).toNat,97+(y3 P (0+3) 26).toNat,97+(y3 P (0+4) 26).toNat,97+(y3 P (0+5) 26).toNat,97+(y3 P (0+6) 26).toNat,97+(y3 P (0+7) 26).toNat]⟩,_,?_,?_,af.app (η:=[.lst ((intsFrom 0 8).map λd=>match d with|.int j=>.str (bz (97+(y3 P j 26).toNat))|_=>.non)])⟩
 .unfold Mp
  rw[dY rfl rfl]
  have r:fk (a++[.lst ((intsFrom 0 8).map λd=>match d with|.int j=>.str (bz (97+(y3 P j 26).toNat))|_=>.non)]) 8 _=some (.lst [.str (bz (97+(y3 P (0+0) 26).toNat)),.str _,.str (bz (97+(y3 P (0+2) 26).toNat)),.str (bz (97+(y3 P (0+3) 26).toNat)),.str (bz (97+(y3 P (0+4) 26).toNat)),.str (bz (97+(y3 P (0+5) 26).toNat)),.str (bz (97+(y3 P (0+6) 26).toNat)),.str (bz (97+(y3 P (0+7) 26).toNat))]):=
   ku aq rfl
  unfold Rg;rw[a6,h];simp only[aw,bG,qq,Cz,t7,r,Cy,Gr,Cu]
 .refine⟨rfl,λx k=>?_⟩
  simp only[List.mem_cons,List.not_mem_nil,or_false]at k;rcases k with rfl|rfl|rfl|rfl|rfl|rfl|rfl|rfl<;>exact n _ (by omega) (by omega)
noncomputable def jC(S:Str)(i:Nat):Str:=⟨(S.cps.toList.take (i+1)).toArray⟩
theorem Ke(h:sD d){i:Nat}(a:i<8):vI (jC d i):=by
 have b:(jC d i).length=i+1:=by
  show(d.cps.toList.take _).toArray.size=_
  have:=h.1
  grind
 refine⟨by omega,by omega,λx c=>h.2 x (List.mem_of_mem_take (i:=i+1) ?_)⟩
 have:(jC d i).cps.toList=d.cps.toList.take _:=rfl
 simp_all
theorem Gu(h:sD d)(k:b<=8):((List.range b).map (jC d)).Nodup:=by
 refine List.pairwise_map.mpr (List.Pairwise.imp_of_mem (λ{a c} f g e i=>e ?_) (List.nodup_range))
 have l:=List.mem_range.mp f;have m:=List.mem_range.mp g;have n:=h.1;have j:=congrArg (λz=>z.cps.toList.length) i
 simp only[jC,List.length_take]at j;omega
def OE:EM:=(bC (dG (aa 1) true (ai .non) false (m2 (aY .Add) (aa 0) (ai (.int 1)))) true (ai .non) (cU (ae (aa 1) ah)) 0 [3])
theorem Gv(h:sD d)(p:b<=12){a9 a10:Option D}:OE [Ψ,oI b,u0,oS d,A0,S0,E1,C5,E6,a9,a10] a=.ok (.ref a.length) (a++[.lst (((List.range b).map (jC d)).map .str)]):=by
 have f:l9 (b)=true:=ed (by omega) (by omega)
 have m:d.length=8:=by simpa[Str.length]using h.1
 have g:small d.length=true:=aT (by omega)
 have k:=cu (a:=a) (η:=a) (B:=[Ψ,oI b,u0,oS d,A0,S0,E1,C5,E6,a9,a10]) (s:=dG (aa 1) true (ai .non) false (m2 (aY .Add) (aa 0) (ai (.int 1)))) (y:=true) (ζ:=ai .non) (A1:=cU (ae (aa 1) ah)) (J:=[3]) (v4:=.ints 0 b)
  (E7:=λc=>match c with|.int j=>.str ⟨(dk d.cps.toList none (some (j+1))).toArray⟩|_=>.non) (by simp[f]) rfl (λc l=>rfl) (λc l _=>by
   obtain⟨i,n⟩:=List.mem_iff_getElem?.mp l;obtain⟨rfl,o⟩:=eM n;simp[dn,g]) (by rw[du];omega)
 rw[List.filter_eq_self.mpr (by simp),jm,List.map_map]at k
 have e:((List.range b).map ((λc=>match c with|.int j=>D.str ⟨(dk d.cps.toList none (some (j+1))).toArray⟩|_=>.non) ∘ λ(i:Nat)=>D.int i))=((List.range b).map (jC d)).map .str:=by
  rw[List.map_map];refine List.map_congr_left λi _=>?_
  show D.str ⟨_⟩=.str _
  rw[show(i)+1=((i+1:Nat):Int)by omega,rX]
  rfl
 rwa[e]at k
def sgn(f st:Int)(i:Nat):Nat:=97+((f+st*(i:Int))%26).toNat
def OF:EM:=(bC (m2 aM (aa 2) (m2 (aY .Mod) (m2 (aY .Add) (aa 1) (m2 (aY .Mult) (aa 3) (aa 0))) (ai (.int 26)))) true (ai .non) (cU (ae (aa 1) ah)) 0 [8,2,9])
variable{M0:Int}
theorem Gw(h:1<=M0)(o:M0<26)(p:b<=12):OF [Ψ,oI b,oS abc,u0,A0,S0,E1,C5,oI P,oI M0,E6] a=.ok (.ref a.length) (a++[.lst (((List.range b).map λi=>bz (sgn P M0 i)).map .str)]):=by
 have c:l9 (b)=true:=ed (by omega) (by omega)
 have k:kP M0=true:=iF (by omega) (by omega)
 have f:=cu (a:=a) (η:=a) (B:=[Ψ,oI b,oS abc,u0,A0,S0,E1,C5,oI P,oI M0,E6]) (s:=m2 aM (aa 2) (m2 (aY .Mod) (m2 (aY .Add) (aa 1) (m2 (aY .Mult) (aa 3) (aa 0))) (ai (.int 26)))) (y:=true) (ζ:=ai .non) (A1:=cU (ae (aa 1) ah)) (J:=[8,2,9]) (v4:=.ints 0 b)
  (E7:=λd=>match d with|.int j=>.str (bz (97+((P+M0*j)%26).toNat))|_=>.non) (by simp[c]) rfl (λd g=>rfl) (λd g _=>by
   obtain⟨i,l⟩:=List.mem_iff_getElem?.mp g;obtain⟨rfl,m⟩:=eM l;generalize q:(0)+(i:Int)=j;have n:kP j=true:=iF (by omega) (by omega)
   simp[dn,k,n,(tD (P:=(P+M0*j)%26) (by omega) (by omega))]) (by rw[du];omega)
 rw[List.filter_eq_self.mpr (by simp),jm,List.map_map]at f
 have e:((List.range b).map ((λd=>match d with|.int j=>D.str (bz (97+((P+M0*j)%26).toNat))|_=>.non) ∘ λ(i:Nat)=>D.int i))=((List.range b).map λi=>bz (sgn P M0 i)).map .str:=by
  rw[List.map_map];exact List.map_congr_left λi _=>rfl
 rwa[e]at f
noncomputable def sE(S:Str)(a pl:Nat)(z:Str):Str:=((⟨(S.cps.toList.take pl).toArray⟩:Str)++z)++(⟨((S.cps.toList.drop (pl+1)).take (a - (pl+1))).toArray⟩:Str)
theorem sF:(sE d b t (bz υ)).cps.toList=(d.cps.toList.take t++[υ])++(d.cps.toList.drop (t+1)).take (b - (t+1)):=by
 unfold sE;rw[Str.cps_append,Str.cps_append];simp[bz]
theorem OG(h:sD d)(hz:b<=8)(c:t<b)(a:97<=υ/\υ<=122):vI (sE d b t (bz υ)):=by
 have e:=h.1
 have f:(sE d b t (bz υ)).length=b:=by
  have:(sE d b t (bz υ)).length=(sE d b t (bz υ)).cps.toList.length:=by rfl
  rw[this,sF]
  grind
 refine⟨by omega,by omega,λx hx=>?_⟩
 rw[sF]at hx;simp only[List.mem_append,List.mem_singleton]at hx;rcases hx with (hx|rfl)|hx
 .exact h.2 x (List.mem_of_mem_take hx)
 .exact a
 .exact h.2 x (List.mem_of_mem_drop (List.mem_of_mem_take hx))
theorem Kf(h:sD d)(o:b<=12)(g:M0=1\/M0=3\/M0=5\/M0=7):((List.range b).map λi=>sE d t υ (bz (sgn P M0 i))).Nodup:=by
 refine List.pairwise_map.mpr (List.Pairwise.imp_of_mem (λ{a c} j k e l=>e ?_) (List.nodup_range))
 have p:=List.mem_range.mp j;have q:=List.mem_range.mp k;have f:=congrArg (λz=>z.cps.toList) l
 simp only[sF]at f;have m:=List.append_cancel_right f;have n:=by simpa using (List.append_cancel_left m)
 unfold sgn at n;rcases g with rfl|rfl|rfl|rfl<;>omega
def Rh:EM:=(bC (m2 (aY .Add) (m2 (aY .Add) (dG (aa 3) true (ai .non) false (aa 2)) (aa 0)) (dG (aa 3) false (m2 (aY .Add) (aa 2) (ai (.int 1))) false (aa 1))) true (ai .non) (bf (aa 10)) 0 [6,7,3])
theorem Gx(h:sD d)(hz:b<=8)(q:t<b)(l:a[υ]?=some (.lst ((J.map bz).map .str)))(r:J.length<=1000):Rh [Ψ,u0,A0,oS d,S0,E1,oI b,oI t,C5,E6,oR υ] a=.ok (.ref a.length) (a++[.lst ((J.map λc=>sE d b t (bz c)).map .str)]):=by
 have o:d.length=8:=by simpa[Str.length]using h.1
 have g:small d.length=true:=aT (by omega)
 have m:=cu (B:=[Ψ,u0,A0,oS d,S0,E1,oI b,oI t,C5,E6,oR υ]) (s:=m2 (aY .Add) (m2 (aY .Add) (dG (aa 3) true (ai .non) false (aa 2)) (aa 0)) (dG (aa 3) false (m2 (aY .Add) (aa 2) (ai (.int 1))) false (aa 1))) (y:=true) (ζ:=ai .non) (A1:=bf (aa 10)) (J:=[6,7,3])
  (E7:=λf=>match f with|.str z=>.str (sE d b t z)|_=>.non) (by
   exact aU (by rw[aI,aA l])) (by rw[cg,aI,aA l]) (λf n=>rfl) (λf n _=>by
   obtain⟨z,i,rfl⟩:=List.mem_map.mp n;obtain⟨c,_,rfl⟩:=List.mem_map.mp i
   have p:dk d.cps.toList (some ((t)+1)) (some (b))=(d.cps.toList.drop (t+1)).take (b - (t+1)):=by
    rw[show(t:Int)+1=((t+1:Nat))by omega,yp]
   have one:(bz c).length=1:=rfl
   have u:(⟨(d.cps.toList.take t).toArray⟩:Str).length<=8:=by
    show(d.cps.toList.take t).toArray.size<=8
    grind
   have w:(⟨((d.cps.toList.drop (t+1)).take (b - (t+1))).toArray⟩:Str).length<=8:=by
    show((d.cps.toList.drop _).take _).toArray.size<=8
    grind
   have j:small ((⟨(d.cps.toList.take t).toArray⟩:Str).length+(bz c).length)=true:=aT (by omega)
   have k:small (((⟨(d.cps.toList.take t).toArray⟩)++bz c).length+(⟨((d.cps.toList.drop (t+1)).take (b - (t+1))).toArray⟩:Str).length)=true:=aT (by rw[Str.length_append];omega)
   simp[dn,g,(rX _ _),p,j,k,sE]) (by simp;omega)
 rw[List.filter_eq_self.mpr (by simp),List.map_map,List.map_map]at m
 have e:(J.map (((λf=>match f with|.str z=>D.str (sE d b t z)|_=>.non) ∘ D.str) ∘ bz))=(J.map λc=>sE d b t (bz c)).map .str:=by
  simp
 rwa[e]at m
def Ho(F:List D->Out Rs):SM:=(dR (iN (m2 (aH .LtE) (aa 1) (ai (.int 8))) (m2 (aH .Eq) (mN (bF F) (ae (aa 0) (ae (ai (.int 9)) (ae (ai (.int 4)) ah)))) (ai (.int 1))))
 (ak (aF 5 OE)
 (ak (bS (Dc 5 4))
 ao))
 ao)
def Mq(F:List D->Out Rs):SM:=
 (ak (aF 2 (ai (.str "abcdefghijklmnopqrstuvwxyz")))
 (ak (aF 3 (Mp F))
 (ak (aF 4 (mN (bF F) (ae (aa 0) (ae (ai (.int 8)) (ae (aa 1) ah)))))
 (ak (Ho F)
 (ak (aF 6 (m2 (aY .Add) (ai (.int 1)) (mN (bF F) (ae (aa 0) (ae (ai (.int 10)) (ae (ai (.int 8)) ah))))))
 (ak (aF 7 (mN (bF F) (ae (aa 0) (ae (ai (.int 11)) (ae (aa 6) ah)))))
 (ak (aF 8 (mN (bF F) (ae (aa 0) (ae (ai (.int 12)) (ae (ai (.int 26)) ah)))))
 (ak (aF 9 (m2 aM (mN bh (ae (ai (.int 1)) (ae (ai (.int 3)) (ae (ai (.int 5)) (ae (ai (.int 7)) ah))))) (mN (bF F) (ae (aa 0) (ae (ai (.int 13)) (ae (ai (.int 4)) ah))))))
 (ak (aF 10 OF)
 (ak (bS Rh)
 ao))))))))))
def Gy(N:a_):Prop:=∀(d:aJ) (c:Int) (m:Nat),1<=m->m<=12->∃(b:List Str) (q:Nat) (a:aJ),b.Nodup/\(∀x∈b,vI x)/\b.length=m/\N [.int c,.int m] d=.ok (.ref q) a/\a[q]?=some (.lst (b.map .str))/\af [] d a
theorem Kg(n:et y3 y1):Gy (bT 11 2 (Mq y1)):=by
 intro G c m a0 J;rw[bj (by rfl)]
 have e0:a7 11 [D.int c,.int m]=[oI c,oI m,none,none,none,none,none,none,none,none,none]:=rfl;rw[e0];obtain⟨t0,t1,ht⟩:=n c 8 (m:Int) (by omega) (by omega) (by omega)
 obtain⟨w0,w1,H⟩:=n c 9 4 (by omega) (by omega) (by omega)
 obtain⟨z0,z1,hz⟩:=n c 10 8 (by omega) (by omega) (by omega)
 generalize y3 c 8 (m:Int)=t at *;generalize y3 c 9 4=w at *;generalize y3 c 10 8=z at *;obtain⟨p0,p1,Z⟩:=n c 11 (1+z) (by omega) (by omega) (by omega)
 obtain⟨f0,f1,hf⟩:=n c 12 26 (by omega) (by omega) (by omega)
 obtain⟨s0,s1,hs⟩:=n c 13 4 (by omega) (by omega) (by omega)
 generalize y3 c 11 (1+z)=p at *;generalize y3 c 12 26=f at *;generalize y3 c 13 4=s at *;obtain⟨e,rfl⟩:∃e:Nat,(e:Int)=t:=⟨t.toNat,by omega⟩
 obtain⟨o,rfl⟩:∃o:Nat,(o:Int)=p:=⟨p.toNat,by omega⟩
 obtain⟨j,F⟩:∃j:Nat,(j:Int)=1+z:=⟨(1+z).toNat,by omega⟩
 rw[←F]at Z;obtain⟨S,d,e1,E,K1⟩:=Gs (a:=G) (P:=c) n (Ψ:=oI m) (u0:=none) (A0:=none) (S0:=none) (E1:=none) (C5:=none) (E6:=none) (a9:=none) (a10:=none);have r1:(aF 2 (ai (.str "abcdefghijklmnopqrstuvwxyz"))) [oI c,oI m,none,none,none,none,none,none,none,none,none] G=.nx [oI c,oI m,oS abc,none,none,none,none,none,none,none,none] G:=rfl
 have r2:(aF 3 (Mp y1)) [oI c,oI m,oS abc,none,none,none,none,none,none,none,none] G=.nx [oI c,oI m,oS abc,oS S,none,none,none,none,none,none,none] d:=by
  rw[cb,e1];rfl
 have r3:(aF 4 (mN (bF y1) (ae (aa 0) (ae (ai (.int 8)) (ae (aa 1) ah))))) [oI c,oI m,oS abc,oS S,none,none,none,none,none,none,none] d=.nx [oI c,oI m,oS abc,oS S,oI e,none,none,none,none,none,none] d:=by simp[ht]
 unfold Mq;rw[ag,r1,aD,ag,r2,aD,ag,r3,aD,ag]
 by_cases hc:m<=8/\w=1
 .obtain⟨K,rfl⟩:=hc
  have e2:=Gv (a:=d) E J (Ψ:=oI c) (u0:=oS abc) (A0:=oI e) (S0:=none) (E1:=none) (C5:=none) (E6:=none) (a9:=none) (a10:=none);have L:(d++[Cell.lst (((List.range m).map (jC S)).map .str)])[d.length]?=some (.lst (((List.range m).map (jC S)).map .str)):=aq;have M:af [] d (d++[Cell.lst (((List.range m).map (jC S)).map .str)]):=af.app
  have hv:∀x∈(List.range m).map (jC S),vI x:=λx u=>by
   obtain⟨i,hi,rfl⟩:=List.mem_map.mp u;exact Ke E (by have:=List.mem_range.mp hi;omega)
  have hn:=Gu (b:=m) E K;have N:((List.range m).map (jC S)).length=m:=by simp
  generalize (List.range m).map (jC S)=I at *;generalize d++[Cell.lst (I.map .str)]=g at *;obtain⟨k,r,O,Q,R,_⟩:=zz (B:=[oI c,oI m,oS abc,oS S,oI e,oR d.length,none,none,none,none,none]) (b:=5) (t:=4) rfl rfl L (by omega)
  have T:=qX (t:=e) I;refine⟨I.drop e++I.take e,k,r,T.nodup_iff.mpr hn,λx u=>hv x (T.mem_iff.mp u),by rw[T.length_eq];exact N,?_,Q,(K1.trans M).trans R⟩
  have q:((m:Int)<=8):=by omega
  have rt:(iN (m2 (aH .LtE) (aa 1) (ai (.int 8))) (m2 (aH .Eq) (mN (bF y1) (ae (aa 0) (ae (ai (.int 9)) (ae (ai (.int 4)) ah)))) (ai (.int 1)))) [oI c,oI m,oS abc,oS S,oI e,none,none,none,none,none,none] d=.ok (.bl true) d:=by
   simp[H,q]
  have ra:aF 5 OE [oI c,oI m,oS abc,oS S,oI e,none,none,none,none,none,none] d=.nx [oI c,oI m,oS abc,oS S,oI e,oR d.length,none,none,none,none,none] g:=by
   rw[cb,e2];rfl
  unfold Ho
  simp_all
 .have r4:Ho y1 [oI c,oI m,oS abc,oS S,oI e,none,none,none,none,none,none] d=.nx [oI c,oI m,oS abc,oS S,oI e,none,none,none,none,none,none] d:=by
   by_cases U:w=1
   .have q:¬ ((m:Int)<=8):=λh=>hc ⟨by omega,U⟩
    simp[Ho,H,q]
   .by_cases q:(m:Int)<=8
    .simp[Ho,H,q,U]
    .simp[Ho,H,q]
  have r5:(aF 6 (m2 (aY .Add) (ai (.int 1)) (mN (bF y1) (ae (aa 0) (ae (ai (.int 10)) (ae (ai (.int 8)) ah)))))) [oI c,oI m,oS abc,oS S,oI e,none,none,none,none,none,none] d=.nx [oI c,oI m,oS abc,oS S,oI e,none,oI j,none,none,none,none] d:=by
   rw[F];simp[hz]
  have r6:(aF 7 (mN (bF y1) (ae (aa 0) (ae (ai (.int 11)) (ae (aa 6) ah))))) [oI c,oI m,oS abc,oS S,oI e,none,oI j,none,none,none,none] d=.nx [oI c,oI m,oS abc,oS S,oI e,none,oI j,oI o,none,none,none] d:=by simp[Z]
  have r7:(aF 8 (mN (bF y1) (ae (aa 0) (ae (ai (.int 12)) (ae (ai (.int 26)) ah))))) [oI c,oI m,oS abc,oS S,oI e,none,oI j,oI o,none,none,none] d=.nx [oI c,oI m,oS abc,oS S,oI e,none,oI j,oI o,oI f,none,none] d:=by simp[hf]
  have M:af [] d (d++[Cell.lst [.int 1,.int 3,.int 5,.int 7]]):=af.app;have L:(d++[Cell.lst [.int 1,.int 3,.int 5,.int 7]])[d.length]?=some (.lst [.int 1,.int 3,.int 5,.int 7]):=aq
  have A:∃l:Int,(l=1\/l=3\/l=5\/l=7)/\L2.kf [D.int 1,.int 3,.int 5,.int 7] s=oI l:=by
   have:s=0\/s=1\/s=2\/s=3:=by omega
   rcases this with rfl|rfl|rfl|rfl
   .exact⟨1,.inl rfl,rfl⟩
   .exact⟨3,.inr (.inl rfl),rfl⟩
   .exact⟨5,.inr (.inr (.inl rfl)),rfl⟩
   .exact⟨7,.inr (.inr (.inr rfl)),rfl⟩
  obtain⟨l,A,V⟩:=A;have b0:=cq L V
  have r8:(aF 9 (m2 aM (mN bh (ae (ai (.int 1)) (ae (ai (.int 3)) (ae (ai (.int 5)) (ae (ai (.int 7)) ah))))) (mN (bF y1) (ae (aa 0) (ae (ai (.int 13)) (ae (ai (.int 4)) ah)))))) [oI c,oI m,oS abc,oS S,oI e,none,oI j,oI o,oI f,none,none] d=.nx [oI c,oI m,oS abc,oS S,oI e,none,oI j,oI o,oI f,oI l,none] (d++[Cell.lst [.int 1,.int 3,.int 5,.int 7]]):=by
   have U:(mN bh (ae (ai (.int 1)) (ae (ai (.int 3)) (ae (ai (.int 5)) (ae (ai (.int 7)) ah))))) [oI c,oI m,oS abc,oS S,oI e,none,oI j,oI o,oI f,none,none] d=.ok (.ref d.length) (d++[Cell.lst [.int 1,.int 3,.int 5,.int 7]]):=by
    rfl
   simp_all
  generalize d++[Cell.lst [.int 1,.int 3,.int 5,.int 7]]=g at *;have O:=Gw (a:=g) (P:=f) (M0:=l) (by omega) (by omega) J (Ψ:=oI c) (u0:=oS S) (A0:=oI e) (S0:=none) (E1:=oI j) (C5:=oI o) (E6:=none)
  have em:(List.range m).map (λi=>bz (sgn f l i))=((List.range m).map (sgn f l)).map bz:=by rw[List.map_map];rfl
  rw[em]at O
  have X:∀x∈(List.range m).map (sgn f l),97<=x/\x<=122:=λx u=>by
   obtain⟨i,_,rfl⟩:=List.mem_map.mp u;unfold sgn;omega
  have Y:(((List.range m).map (sgn f l)).map λx=>sE S j o (bz x)).Nodup:=by
   rw[List.map_map];exact Kf E J A
  have N:((List.range m).map (sgn f l)).length=m:=by simp
  generalize (List.range m).map (sgn f l)=C at *;have Q:(g++[Cell.lst ((C.map bz).map .str)])[g.length]?=some (.lst ((C.map bz).map .str)):=aq;have R:af [] g (g++[Cell.lst ((C.map bz).map .str)]):=af.app
  have r9:aF 10 OF [oI c,oI m,oS abc,oS S,oI e,none,oI j,oI o,oI f,oI l,none] g=.nx [oI c,oI m,oS abc,oS S,oI e,none,oI j,oI o,oI f,oI l,oR g.length] (g++[Cell.lst ((C.map bz).map .str)]):=by
   rw[cb,O];rfl
  generalize g++[Cell.lst ((C.map bz).map .str)]=r at *;have e4:=Gx E (show j<=8 by omega) (show o<j by omega) Q (by omega) (Ψ:=oI c) (u0:=oI m) (A0:=oS abc) (S0:=oI e) (E1:=none) (C5:=oI f) (E6:=oI l)
  refine⟨C.map λx=>sE S j o (bz x),r.length,r++[.lst ((C.map λx=>sE S j o (bz x)).map .str)],Y,λx u=>?_,by simpa using N,?_,aq,((K1.trans M).trans R).trans af.app⟩
  .obtain⟨y,hy,rfl⟩:=List.mem_map.mp u
   exact OG E (by omega) (by omega) (X y hy)
  .rw[r4,aD,ag,r5,aD,ag,r6,aD,ag,r7,aD,ag,r8,aD,ag,r9,aD,ag,gF,e4]
   rfl
def qY(xs:List Str)(a i:Nat)(r:List Str):Prop:=r.Nodup/\r.length<=a/\∀y∈r,y∈xs.take i
def OH(F:List D->Out Rs):EM:=(bC (m2 aM (aa 2) (aa 0)) false (m2 (aH .Eq) (mN (bF F) (ae (aa 1) (ae (aa 0) (ae (ai (.int 3)) ah)))) (ai (.int 0))) (cU (ae (aa 5) ah)) 0 [6,2])
theorem sG:∀{i:Nat},i<=g.length->(List.range i).map (λj=>g.getD j "")=g.take i:=by
 intro i a;apply List.ext_getElem?;intro j;rw[List.getElem?_map,List.getElem?_take]
 grind
theorem Gz(c:et y3 y1)(m:a[b]?=some (.lst (g.map .str)))(n:t<=g.length)(p:g.length<=100):∃r:List Str,r.Sublist (g.take t)/\OH y1 [Ψ,u0,oR b,A0,S0,oI t,oI P,E1,C5] a=.ok (.ref a.length) (a++[.lst (r.map .str)]):=by
 have f:l9 (t)=true:=ed (by omega) (by omega)
 have l:=cu (a:=a) (η:=a) (B:=[Ψ,u0,oR b,A0,S0,oI t,oI P,E1,C5]) (s:=m2 aM (aa 2) (aa 0)) (y:=false) (A1:=cU (ae (aa 5) ah)) (J:=[6,2]) (v4:=.ints 0 t) (F7:=λd=>match d with|.int j=>(y3 P j 3==0)|_=>false)
  (E7:=λd=>match d with|.int j=>.str (g.getD j.toNat "")|_=>.non) (by simp[f]) rfl (λd h=>by
   obtain⟨j,i⟩:=List.mem_iff_getElem?.mp h;obtain⟨rfl,k⟩:=eM i;obtain⟨u,w,q⟩:=c P (0+(j)) 3 (by omega) (by omega) (by omega)
   generalize (0)+(j:Int)=o at *
   show bZ ((m2 (aH .Eq) (mN (bF y1) (ae (aa 1) (ae (aa 0) (ae (ai (.int 3)) ah)))) (ai (.int 0))) [oI o,oI P,oR b] a)=_
   simp[q]) (λd h _=>by
   obtain⟨j,i⟩:=List.mem_iff_getElem?.mp h;obtain⟨rfl,k⟩:=eM i;refine cq m (L2.cJ ?_);simp[show j<g.length by omega]) (by rw[du];omega)
 have e:(((intsFrom 0 t).filter λd=>match d with|.int j=>(y3 P j 3==0)|_=>false).map λd=>match d with|.int j=>D.str (g.getD j.toNat "")|_=>.non)=(((List.range t).filter λj:Nat=>(y3 P j 3==0)).map λj=>g.getD j "").map .str:=by
  rw[jm,List.filter_map,List.map_map,List.map_map];rfl
 rw[e]at l;refine⟨_,?_,l⟩;rw[←sG n];exact(List.filter_sublist).map _
def OI(F:List D->Out Rs):EM:=(iN (m2 (aH .NotEq) (aa 7) (mN bh ah)) (m2 (aH .Eq) (mN (bF F) (ae (aa 6) (ae (ai (.int 13)) (ae (ai (.int 3)) ah)))) (ai (.int 1))))
def Mr(F:List D->Out Rs):SM:=(dR (OI F)
 (ak (aF 8 (mN (bF F) (ae (aa 6) (ae (ai (.int 14)) (ae (mN (a8 .len) (ae (aa 7) ah)) ah)))))
 (ak (aF 7 (Dc 7 8))
 ao))
 ao)
def OJ(F C:List D->Out Rs):SM:=
 (ak (aF 6 (mN (bF C) (ae (aa 0) (ae (m2 (aY .Add) (aa 1) (aa 5)) ah))))
 (ak (aF 7 (OH F))
 (ak (aF 7 (dG (aa 7) true (ai .non) false (aa 3)))
 (ak (cF (dm lP ew (aa 7) ah))
 (ak (Mr F)
 (ak (cF (dm lP c9 (aa 4) (ae (aa 7) ah)))
 ao))))))
def Ms(F C:List D->Out Rs):SM:=
 (ak (aF 4 (mN bh ah))
 (ak (dw (cV 5) (cU (ae (mN (a8 .len) (ae (aa 2) ah)) ah))
 (OJ F C))
 (ak (bS (aa 4))
 ao)))
abbrev RV(a:List Int)(st x b q:Nat)(c d e f:Option D):bp:=[some (SC a),oI st,oR x,oI b,oR q,c,d,e,f]
theorem GA(e:et y3 y1)(n:a[b]?=some (.lst (g.map .str)))(F:g.length<=100):∃(o:List Str) (f:Nat) (i:Option D) (ax:aJ),o.Perm g/\Mr y1 [Ψ,u0,A0,S0,E1,C5,oI P,oR b,E6] a=.nx [Ψ,u0,A0,S0,E1,C5,oI P,oR f,i] ax/\ax[f]?=some (.lst (o.map .str))/\(f=b\/a.length<=f)/\af [] a ax:=by
 obtain⟨c,s,h⟩:=ne_nil (B:=[Ψ,u0,A0,S0,E1,C5,oI P,oR b,E6]) (t:=7) rfl n;obtain⟨G,H,u⟩:=e P 13 3 (by omega) (by omega) (by omega)
 have d:=h.get _ _ n (by simp)
 have w:(m2 (aH .Eq) (mN (bF y1) (ae (aa 6) (ae (ai (.int 13)) (ae (ai (.int 3)) ah)))) (ai (.int 1))) [Ψ,u0,A0,S0,E1,C5,oI P,oR b,E6] c=.ok (.bl (y3 P 13 3==1)) c:=by simp[u]
 have p:OI y1 [Ψ,u0,A0,S0,E1,C5,oI P,oR b,E6] a=.ok (.bl (decide (g≠[])&&(y3 P 13 3==1))) c:=by
  unfold OI;rw[kr,s,aw,dN]
  by_cases q:g=[]
  .subst q;rfl
  .rw[decide_eq_true q,Ec,w,Bool.true_and]
 by_cases x:g≠[]/\y3 P 13 3=1
 .have I:=List.length_pos_iff.mpr x.1
  obtain⟨J,K,r⟩:=e P 14 (g.length) (by omega) (by omega) (by omega)
  obtain⟨t,y⟩:∃t:Nat,(t)=y3 P 14 (g.length):=⟨(y3 P 14 (g.length)).toNat,by omega⟩
  rw[←y]at r;have j:=gG d
  have z:(aF 8 (mN (bF y1) (ae (aa 6) (ae (ai (.int 14)) (ae (mN (a8 .len) (ae (aa 7) ah)) ah))))) [Ψ,u0,A0,S0,E1,C5,oI P,oR b,E6] c=.nx [Ψ,u0,A0,S0,E1,C5,oI P,oR b,oI t] c:=by
   simp[j,r]
  obtain⟨k,l,A,C,E,L⟩:=zz (B:=[Ψ,u0,A0,S0,E1,C5,oI P,oR b,oI t]) (b:=7) (t:=8) rfl rfl d (by omega)
  refine⟨_,k,oI t,l,qX g,?_,C,.inr (by have:=h.len;omega),h.trans E⟩
  have m:(decide (g≠[])&&(y3 P 13 3==1))=true:=by simp_all
  unfold Mr;rw[bU,p,m,eN,dN,fD,cM,ag,z,aD,ag,cb,A];rfl
 .refine⟨g,b,E6,c,by simp,?_,d,.inl rfl,h⟩
  have m:(decide (g≠[])&&(y3 P 13 3==1))=false:=by
   grind
  unfold Mr;rw[bU,p,m];rfl
variable{E5:List D->Out Rs}{N2:List Int}{W4:List Int->Nat->Int}
theorem GB(n:et y3 y1)(x:eS W4 E5)(N:a[b]?=some (.lst (g.map .str)))(A:g.Nodup)(O:t<=g.length)(Q:g.length<=100)(R:Rw a E3 J S)(T:E3∉J)(U:S.length<=100):
  ∃r j B C e ax,qY g W1 t r/\OJ y1 E5 (RV N2 υ b W1 E3 (oI t) Ψ u0 A0) a=.nx (RV N2 υ b W1 E3 (oI t) B C e) ax/\Rw ax E3 (J++[j]) (S++[r])/\E3∉J++[j]/\af [E3] a ax:=by
 have E:E5 [SC N2,.int ((υ:Int)+(t:Int))]=.ok (false,.int (W4 N2 (υ+t))):=by
  exact x N2 (υ+t)
 have V:(aF 6 (mN (bF E5) (ae (aa 0) (ae (m2 (aY .Add) (aa 1) (aa 5)) ah)))) (RV N2 υ b W1 E3 (oI t) Ψ u0 A0) a=.nx (RV N2 υ b W1 E3 (oI t) (some (.int (W4 N2 (υ+t)))) u0 A0) a:=by
  simp[RV,E]
 generalize W4 N2 (υ+t)=c at *;obtain⟨r,k,X⟩:=Gz (P:=c) n (Ψ:=some (SC N2)) (u0:=oI υ) (A0:=oI W1) (S0:=oR E3) (E1:=u0) (C5:=A0) N O Q;have F:r.length<=100:=by have:=k.length_le;rw[List.length_take]at this;omega
 have Y:aF 7 (OH y1) (RV N2 υ b W1 E3 (oI t) (oI c) u0 A0) a=.nx (RV N2 υ b W1 E3 (oI t) (oI c) (oR a.length) A0) (a++[.lst (r.map .str)]):=by
  rw[cb,X];rfl
 have Z:(a++[Cell.lst (r.map .str)])[a.length]?=some (.lst (r.map .str)):=aq;have K:af [] a (a++[Cell.lst (r.map .str)]):=af.app;generalize a++[Cell.lst (r.map .str)]=d at *;have s3:=o_ (t:=W1) Z
 have r3:aF 7 (dG (aa 7) true (ai .non) false (aa 3)) (RV N2 υ b W1 E3 (oI t) (oI c) (oR a.length) A0) d=.nx (RV N2 υ b W1 E3 (oI t) (oI c) (oR d.length) A0) (d++[.lst ((r.take W1).map .str)]):=by
  simp_all
 have G:(d++[Cell.lst ((r.take W1).map .str)])[d.length]?=some (.lst ((r.take W1).map .str)):=aq;have K3:af [] d (d++[Cell.lst ((r.take W1).map .str)]):=af.app;generalize d++[Cell.lst ((r.take W1).map .str)]=f at *;have H:=qJ G
 have r4:(cF (dm lP ew (aa 7) ah)) (RV N2 υ b W1 E3 (oI t) (oI c) (oR d.length) A0) f=.nx (RV N2 υ b W1 E3 (oI t) (oI c) (oR d.length) A0) (f.set d.length (.lst ((r.take W1).map D.str).reverse)):=by
  rw[bQ,dY (m:=.ref d.length) (η:=f) rfl (en G),bG,aw,H];rfl
 have g4:(f.set d.length (.lst ((r.take W1).map D.str).reverse))[d.length]?=some (.lst ((r.take W1).reverse.map .str)):=by rw[List.map_reverse];exact aK G
 have K4:af [] a (f.set d.length (.lst ((r.take W1).map D.str).reverse)):=af.new (K.trans K3) (af.set (fp:=[d.length]) (by simp)) (by simpa using K.len)
 obtain⟨L,w,e,i,l,r5,g5,hw,K5⟩:=GA (P:=c) n (Ψ:=some (SC N2)) (u0:=oI υ) (A0:=oR b) (S0:=oI W1) (E1:=oR E3) (C5:=oI t) (E6:=A0) g4 (by rw[List.length_reverse,List.length_take];omega)
 have a0:a.length<=w:=by
  grind
 have o:=K4.trans K5;have u:=R.keep o;have hL:=R.len;have b0:=ib (m:=.ref w) u.ce (by simp;omega)
 have r6:(cF (dm lP c9 (aa 4) (ae (aa 7) ah))) (RV N2 υ b W1 E3 (oI t) (oI c) (oR w) e) i=.nx (RV N2 υ b W1 E3 (oI t) (oI c) (oR w) e) (i.set E3 (.lst (J.map .ref++[.ref w]))):=by
  rw[bQ,dY (m:=.ref E3) (η:=i) rfl (en u.ce)]
  simp_all
 have lq:=bc R.ce;have M:af [E3] i (i.set E3 (.lst (J.map .ref++[.ref w]))):=af.set (by simp)
 have p:E3∉J++[w]:=λz=>by
  rcases List.mem_append.mp z with z|z
  .exact T z
  .have:=List.mem_singleton.mp z;omega
 have q:qY g W1 t L:=by
  have s:(r.take W1).Sublist (g.take t):=(List.take_sublist _ _).trans k;have I:(r.take W1).Nodup:=(A.sublist (List.take_sublist _ _)).sublist s;refine⟨l.nodup_iff.mpr (List.pairwise_reverse.mpr (List.Pairwise.imp (λh=>Ne.symm h) I)),?_,λy hy=>?_⟩
  .rw[l.length_eq,List.length_reverse,List.length_take];omega
  .exact s.subset (List.mem_reverse.mp (l.mem_iff.mp hy))
 refine⟨L,w,oI c,oR w,e,_,q,?_,⟨?_,?_⟩,p,(dz.up o).trans M⟩
 .unfold OJ
  rw[ag,V,aD,ag,Y,aD,ag,r3,aD,ag,r4,aD,ag]
  simp_all
 .rw[aK u.ce];simp
 .exact(u.al.snoc g5).keep M (λj hj z=>p (by rw[←List.mem_singleton.mp z];exact hj))
def GC(f:a_):Prop:=∀(c:aJ) (g:List Int) (h x e:Nat) (b:List Str),c[x]?=some (.lst (b.map .str))->b.Nodup->b.length<=12 ->
 ∃k j d a,f [SC g,.int h,.ref x,.int e] c=.ok (.ref k) a/\Rw a k j d/\d.length=b.length/\(∀(i:Nat) (r:List Str),d[i]?=some r->qY b e i r)/\af [] c a
theorem Kh(A:et y3 y1)(B:eS W4 E5):GC (bT 9 4 (Ms y1 E5)):=by
 intro a l g x c u L C O;rw[bj (by rfl)]
 have P:a7 9 [SC l,.int g,.ref x,.int c]=[some _,oI g,oR x,oI c,none,none,none,none,none]:=rfl;rw[P];have Q:(a++[Cell.lst []])[a.length]?=some _:=aq;have M:af [] a (a++[Cell.lst []]):=af.app;have S:(aF 4 (mN bh ah)) [some (SC l),oI g,oR x,oI c,none,none,none,none,none] a=.nx (RV l g x c a.length none none none none) (a++[Cell.lst []]):=by rfl
 have lx:=bc L;generalize a++[Cell.lst []]=p at *;have q:=M.get _ _ L (by simp)
 have s:=gG q;rw[List.length_map]at s
 have D:cU (ae (mN (a8 .len) (ae (aa 2) ah)) ah) (RV l g x c a.length none none none none) p=.ok (.ints 0 u.length) p:=by
  have:(mN (a8 .len) (ae (aa 2) ah)) (RV l g x c a.length none none none none) _=.ok _ _:=s;rw[qI,a6,this,aw,bG,aw,aw,uc,if_pos (ed (by omega) (by omega)),Int.toNat_natCast]
 unfold Ms;rw[ag,S,aD,ag,cR,D,cM]
 refine bX (R:=λr=>∃k m b n,gR (sq r _)=.ok (.ref k) n/\Rw n k m b/\b.length=u.length/\(∀(i:Nat) (r:List _),b[i]?=some r->qY u c i r)/\af [] a n)
  (λi E e=>∃m b F w y z,E=RV l g x c _ F w y z/\Rw e _ m b/\b.length=i/\(∀(i:Nat) (r:List _),b[i]?=some r->qY u c i r)/\a.length∉m/\af [a.length] _ e) (λ_ _ _ _=>rfl) ?_ ?_ _ 0 _ _ (by rw[du];unfold fuel;omega) (Nat.zero_le _) ⟨[],[],_,_,_,_,rfl,⟨Q,.nil⟩,rfl,by simp,by simp,af.refl⟩
 .rintro i d E e T ⟨m,b,F,w,y,z,rfl,R,f,o,N,K⟩
  obtain⟨rfl,hi⟩:=eM T;rw[Int.zero_add];refine⟨RV l g x c _ (oI i) w y z,rfl,?_⟩;obtain⟨r,j,b6,b7,b8,U,V,X,Y,G,Z⟩:=GB (t:=i) A B (K.get _ _ q (by simp;omega)) C (by omega) (by omega) R N (by omega)
  rw[X];refine⟨_,_,_,_,_,_,rfl,Y,by simp[f],λH r' h=>?_,G,K.trans Z⟩
  by_cases I:H<b.length
  .rw[List.getElem?_append_left I]at h
   exact o H r' h
  .rw[List.getElem?_append_right (by omega)]at h
   have h0:=by
    have:=(List.getElem?_eq_some_iff.mp h).1;simp at this;omega
   rw[h0]at h;have J:=by simpa using h
   subst J;obtain rfl:H=i:=by omega
   exact V
 .rintro E e ⟨m,b,F,w,y,z,rfl,R,f,o,N,K⟩
  rw[du]at f;exact⟨_,m,b,_,rfl,R,f,o,af.new M K (by simp)⟩
structure sH(Ω ax:aJ):Prop where
 len:Ω.length<=ax.length
 get:∀(k:Nat) (c:Cell),Ω[k]?=some c->ax[k]?=some c\/∃kvs,c=Cell.dK kvs/\ax[k]?=some (.dF kvs)
theorem af.kpf(K:af [] a η):sH a η:=⟨K.len,λk c h=>.inl (K.get k c h (by simp))⟩
variable{A6:aJ}
theorem sH.trans(d:sH a A6)(b:sH A6 η):sH a η:=⟨Nat.le_trans d.len b.len,λk c h=>by
 rcases d.get k c h with e|⟨f,rfl,e⟩
 .exact b.get k c e
 .rcases b.get k _ e with g|⟨_,z,_⟩
  .exact .inr ⟨_,rfl,g⟩
  .cases z⟩
theorem De(h:cy a b R):sH a (a.set b (.dF R)):=⟨by simp,λk c d=>by
 by_cases z:k=b
 .subst z
  rcases h with h|h
  .rw[h]at d;cases d;exact .inr ⟨_,rfl,aK h⟩
  .rw[h]at d;cases d;exact .inl (aK h)
 .exact .inl (dg d z)⟩
theorem sH.lst{a ax:aJ}{k:Nat}{b:List D}(K:sH a ax)(h:a[k]?=some (.lst b)):ax[k]?=some (.lst b):=(K.get _ _ h).elim id (by simp)
theorem sH.dct(K:sH a η)(h:cy a b R):cy η b R:=by
 rcases h with h|h
 .rcases K.get _ _ h with c|⟨d,z,c⟩
  .exact .inl c
  .cases z;exact .inr c
 .rcases K.get _ _ h with c|⟨d,z,c⟩
  .exact .inr c
  .cases z
theorem sH.rows(K:sH a η)(h:aE ξ a R Z):aE ξ η R Z:=aG.imp (λ_ _ ⟨e,j,b,c,d⟩=>⟨e,j,b,c,K.lst d⟩) h
theorem sH.rw(K:sH a η)(R:Rw a b J S):Rw η b J S:=⟨K.lst R.ce,aG.imp (λ_ _ d=>K.lst d) R.al⟩
def Mt(a:a_):SM:=
 (ak (cF (aZ "House" "check_kind" a (aa 0) (ae (aa 1) ah)))
 (ak (bS (mN (a8 .list) (ae (m2 aM fe (aa 1)) ah)))
 ao))
def GD(c:a_):Prop:=∀(b:aJ) (h:Nat) (E:eP) (L:Str->List Str) (P:Nat->Prop) (n:Str),cC P b h E L->n∈nms E->∃k a,c [.ref h,.str n] b=.ok (.ref k) a/\a[k]?=some (.lst ((cB E n).map .str))/\af [] b a/\b.length<=k
theorem Ki(g:qR L):GD (bT 2 2 (Mt L)):=by
 intro d h E b P n H f;rw[bj (by rfl)]
 have s:a7 2 [D.ref h,.str n]=[oR h,oS n]:=rfl;obtain⟨a,t,c⟩:=g d h E b P n H f
 have u:aZ "House" "check_kind" L (aa 0) (ae (aa 1) ah) [oR h,oS n] d=.ok .non a:=by
  rw[b9 H rfl (by decide)]
  simp_all
 obtain⟨e,l,i,k,m,o,p,w,x⟩:=(H.keep c).or;obtain⟨j,q,_,r⟩:=p.at f;refine⟨_,a++[.lst _],?_,aq,c.trans af.app,c.len⟩
 have:(mN (a8 .list) (ae (m2 aM fe (aa 1)) ah)) [oR h,oS n] a=.ok (.ref a.length) (a++[.lst ((cB E n).map .str)]):=by
  show((((dH _ _ _ _).bind _).bind _).bind _)=_
  rw[iX m]
  show(((aM _ _ _).bind _).bind _)=_
  rw[d4 o q];exact(cw r)
 unfold Mt
 simp_all
def Ri:EM:=(bC (aa 0) false (m2 (aH .In) (aa 1) (m2 aM (m1 (dH ["House"] "lines") (aa 2)) (aa 0))) (bf fe) 0 [1,0])
def Mu(a:a_):SM:=
 (ak (cF (aZ "House" "check_kind" a (aa 0) (ae (aa 1) ah)))
 (ak (bS Ri)
 ao))
def Kj(c:a_):Prop:=∀(b:aJ) (h:Nat) (E:eP) (L:Str->List Str) (P:Nat->Prop) (n:Str),cC P b h E L->n∈nms E->E.length<=1000->∃k a,c [.ref h,.str n] b=.ok (.ref k) a/\a[k]?=some (.lst (((nms E).filter λm=>decide (n∈L m)).map .str))/\sH b a/\b.length<=k
theorem Kk(w:qR L):Kj (bT 2 2 (Mu L)):=by
 intro q h E a P n H x T;rw[bj (by rfl)]
 have A:a7 2 [D.ref h,.str n]=[oR h,oS n]:=rfl;rw[A];obtain⟨b,B,k⟩:=w q h E a P n H x
 have C:aZ "House" "check_kind" L (aa 0) (ae (aa 1) ah) [oR h,oS n] q=.ok .non b:=by
  rw[b9 H rfl (by decide)]
  show nr _=_
  rw[B];rfl
 obtain⟨e,l,f,F,o,g,G,I,K⟩:=(H.keep k).or
 have p:bf fe [oR h,oS n] b=.ok (.keys e) (b.set e (.dF f)):=by
  show((dH ["House"] "elders" (.ref h) b).bind _)=_
  rw[iX o,aw];exact qO g
 have i:=De g;have M:=zk g;have N:(b.set e (.dF f))[h]?=some _:=dg o (λz=>g.ni _ _ (z▸o))
 have O:=i.rows K;generalize b.set e (.dF f)=c at *
 have r:=cu (s:=aa 0) (ζ:=m2 (aH .In) (aa 1) (m2 aM (m1 (dH ["House"] "lines") (aa 2)) (aa 0))) (y:=false) (J:=[1,0]) (F7:=λd=>match d with|.str m=>decide (n∈a m)|_=>false) p (by rw[lK M,G.keys]) (λd Q=>by
  obtain⟨m,t,rfl⟩:=List.mem_map.mp Q;obtain⟨j,R,_,u⟩:=O.at (n:=m) (by rw[az];exact t)
  rw[aS t]at u
  show bZ (((dH ["House"] "lines" (.ref h) c).bind _).bind _)=_
  rw[ug N,aw]
  show bZ ((aM (.ref l) (.str m) c).bind _)=_
  rw[d4 (i.dct I) R,aw];rw[ic u];rfl) (λd _ _=>rfl) (by simp[nms];omega)
 have S:(((nms E).map D.str).filter (λd=>match d with|.str m=>decide (n∈a m)|_=>false)).map (λd:D=>d)=((nms E).filter λm=>decide (n∈a m)).map .str:=by
  rw[List.map_id',List.filter_map];rfl
 rw[S]at r;refine⟨c.length,c++[.lst _],?_,aq,(k.kpf.trans i).trans (af.kpf af.app),Nat.le_trans k.len i.len⟩;unfold Mu;rw[ag,bQ,C,cM,aD,ag,gF];rw[show Ri _ b=_ from r]
 rfl
namespace qV
end qV
theorem zA(e:g.Nodup)(c:g[b]?=some d):d∉g.take b:=λf=>by
 obtain⟨k,h,a⟩:=gu f;have i:=(List.getElem?_eq_some_iff.mp c).1;have:=(List.getElem?_inj (by omega) e).mp (a.trans c.symm)
 omega
theorem zB(b:(nms Z).Nodup):aP (nms Z) (cB Z)=Z:=by
 apply List.ext_getElem?;intro i;unfold aP;rw[List.getElem?_map];cases a:Z[i]? with
 |none=>simp[nms,a]
 |some p=>
  rw[kC a,Option.map_some,Gn b a]
theorem aE.upd(H:aE ξ a R (aP Y Q))(c:d∈Y)(l:ξ b)(n:a[b]?=some (.lst (g.map .str))):aE ξ a (cm R (.inr d) (.ref b)) (aP Y λm=>if m=d then g else Q m):=by
 have e:(R.any λf=>decide (f.1=Sum.inr d))=true:=by
  rw[iV,H.is,az,decide_eq_true c]
 unfold cm;rw[if_pos e];clear e c
 induction Y generalizing R with
 |nil=>cases H;exact .nil
 |cons m Y i=>
  cases H with
  |@cons f _ h _ j k=>
   refine .cons ?_ (i k);obtain⟨o,p,q,r,s⟩:=j
   by_cases z:m=d
   .simp_all
   simp_all
structure ij(ys:List Str)(R L:Str->List Str):Prop where
 gd:Gd (aP ys R)
 Dg:JJ (aP ys R) L
 sh:∀n∈ys,(L n).length<=900
noncomputable def sI(R:Str->List Str)(m:Str)(r:List Str):Str->List Str:=λn=>if n=m then r else R n
noncomputable def dI(a:List Str)(p:Nat)(m:Str):List Str:=a.take p++m::a.drop p
theorem up_eq:sI Q d g d=g:=if_pos rfl
theorem iY(h:T≠d):sI Q d g T=Q T:=if_neg h
theorem fG:T∈dI g b d↔T=d\/T∈g:=by
 unfold dI;have:=List.take_append_drop b g
 grind
theorem lM:(dI g b d).Perm (d::g):=by
 unfold dI;have:=List.perm_middle (a:=d) (l₁:=g.take b) (l₂:=g.drop b)
 simp_all
variable{y0:Str->List Str}
theorem vO(h:∀n∈g,Q n=y0 n):aP g Q=aP g y0:=List.map_congr_left λn a=>by rw[h n a]
theorem Dh(a:d∉g):gS (aP g Q) b (d,Y)=aP (dI g b d) (sI Q d Y):=by
 rw[(vO λn c=>(iY (λz:n=d=>a (z▸c))).symm)]
 unfold gS dI aP;rw[List.map_append,List.map_cons,List.map_take,List.map_drop,up_eq]
theorem lN:((aP g Q).filter λq=>decide (q.1≠d))=aP (g.filter λn=>decide (n≠d)) Q:=by
 unfold aP;rw[List.filter_map];rfl
theorem ij.mem(G:ij g Q y0)(a:d∈g):∀x∈Q d,x∈g:=λx b=>by
 have:=G.gd.el d (by rwa[az]) x (by rwa[aS a])
 rwa[az]at this
theorem ij.nd{a:List Str}{R L:Str->List Str}(G:ij a R L):a.Nodup:=by have:=G.gd.nd;rwa[az]at this
theorem ij.bare(a:g.Nodup)(c:g.length<=100):ij g (λ_=>[]) (λn=>[n]) where
  gd:=
    { nd:=by rwa[az]
      el:=λn a x b=>by rw[az]at a;rw[aS a]at b;cases b
      rk:=⟨λ_=>0,λn a x b=>by rw[az]at a;rw[aS a]at b;cases b⟩
      few:=by simp only[aP,List.length_map];exact c
      short:=λn a=>by rw[az]at a;rw[aS a];simp }
  Dg:=λn a=>by
    rw[az]at a;rw[aS a];exact⟨[],.done (by simp),rfl⟩
  sh:=λn _=>by simp
theorem zC{a:Nat}:∀{l:List Nat},a∈l->a<=l.sum
 |b::l,h=>by
  rw[List.sum_cons];rcases List.mem_cons.mp h with rfl|h
  .omega
  .have:=zC h;omega
theorem ij.more(G:ij g Q y0)(i:d∉g)(k:∀x∈Y,x∈g)(o:g.length<100)(l:Y.length<=100)(M:Mg (Y.map y0++[Y]) E4)(p:E4.length<900):ij (dI g b d) (sI Q d Y) (sI y0 d (d::E4)) where
  gd:=
    { nd:=by rw[az];exact lM.nodup_iff.mpr (List.nodup_cons.mpr ⟨i,G.nd⟩)
      el:=λn c x e=>by
        rw[az]at c ⊢;rw[aS c]at e;refine fG.mpr (.inr ?_)
        by_cases z:n=d
        · subst z;rw[up_eq]at e;exact k x e
        · rw[iY z]at e;exact G.mem ((fG.mp c).resolve_left z) x e
      rk:=by
        obtain⟨rk,m⟩:=G.gd.rk;refine⟨λn=>if n=d then (Y.map rk).sum+1 else rk n,λn c x e=>?_⟩
        rw[az]at c;rw[aS c]at e
        by_cases z:n=d
        · subst z
          rw[up_eq]at e;have f:x≠n:=λq=>i (q▸k x e)
          simp only[if_neg f,if_true];have:rk x<=(Y.map rk).sum:=zC (List.mem_map.mpr ⟨x,e,rfl⟩);omega
        · rw[iY z]at e
          have a:=(fG.mp c).resolve_left z;have f:x≠d:=λq=>i (q▸G.mem a x e)
          simp only[if_neg f,if_neg z];exact m n (by rw[az];exact a) x (by rw[aS a];exact e)
      few:=by
        simp only[aP,List.length_map];rw[lM.length_eq,List.length_cons];omega
      short:=λn c=>by
        rw[az]at c;rw[aS c]
        by_cases z:n=d
        · subst z;rw[up_eq];exact l
        · rw[iY z]
          have a:=(fG.mp c).resolve_left z;have:=G.gd.short n (by rw[az];exact a)
          rwa[aS a]at this }
  Dg:=λn c=>by
    rw[az]at c;rw[aS c];have same:∀j:List Str,(∀x∈j,x∈g)->j.map (sI y0 d (d::E4))=j.map y0:=λj h=>List.map_congr_left λx e=>iY λz=>i (z▸h x e)
    by_cases z:n=d
    · subst z
      rw[up_eq,same Y k,up_eq];exact⟨E4,M,rfl⟩
    · have a:=(fG.mp c).resolve_left z
      rw[iY z,same _ (G.mem a),iY z];have:=G.Dg n (by rw[az];exact a)
      rwa[aS a]at this
  sh:=λn c=>by
    by_cases z:n=d
    · subst z;rw[up_eq,List.length_cons];omega
    · rw[iY z];exact G.sh n ((fG.mp c).resolve_left z)
theorem ij.less(G:ij g Q y0)(e:∀n∈g,d∉Q n):ij (g.filter λn=>decide (n≠d)) Q y0:=by
  have b:∀n,n∈g.filter (λn=>decide (n≠d))->n∈g/\n≠d:=λn a=>by simpa using a
  exact {
    gd:=
    { nd:=by rw[az];exact G.nd.sublist List.filter_sublist
      el:=λn a x c=>by
        rw[az]at a ⊢;rw[aS a]at c;have:=b n a;simpa using ⟨G.mem this.1 x c,λz=>e n this.1 (z▸c)⟩
      rk:=by
        obtain⟨rk,f⟩:=G.gd.rk;refine⟨rk,λn a x c=>?_⟩
        rw[az]at a;rw[aS a]at c;have:=(b n a).1;exact f n (by rwa[az]) x (by rwa[aS this])
      few:=by
        have:=G.gd.few;simp only[aP,List.length_map]at this ⊢;exact Nat.le_trans (List.length_filter_le _ _) this
      short:=λn a=>by
        rw[az]at a;rw[aS a];have q:=(b n a).1;have:=G.gd.short n (by rwa[az])
        rwa[aS q]at this }
    Dg:=λn a=>by
      rw[az]at a;rw[aS a];have q:=(b n a).1;have:=G.Dg n (by rwa[az])
      rwa[aS q]at this
    sh:=λn a=>G.sh n (b n a).1 }
theorem zD(h:a[b]?=some (.dK R)):cp a (a.set b (.dF R))=a:=by
 apply List.ext_getElem?;intro k;unfold cp;rw[List.getElem?_mapIdx]
 by_cases z:k=b
 .subst z;rw[aK h,h];rfl
 .rw[List.getElem?_set_ne (Ne.symm z)]
  cases q:a[k]? with
  |none=>rfl
  |some c=>cases c<;>rfl
theorem aE.drop{n:Str}(h:aE ξ a R Z):aE ξ a (dZ R (.inr n)) (Z.filter λq=>decide (q.1≠n)):=by
 induction h with
 |nil=>exact .nil
 |@cons c p d e r t b=>
  unfold dZ at b ⊢;rw[List.filter_cons,List.filter_cons];have:decide (c.1≠.inr n)=decide (p.1≠n):=by simp_all
  rw[this];split
  .exact .cons r b
  .exact b
theorem sJ:nms (Z.filter λq=>decide (q.1≠d))=(nms Z).filter λm=>decide (m≠d):=by
 unfold nms;rw[List.filter_map];rfl
theorem Ej(h:a[b]?=some (.dK R))(c:b_ R (.inr d)=some m):gp (.ref b) [.str d] a=.ok m (a.set b (.dK (dZ R (.inr d)))):=by
 simp only[gp,h,oC,c]
theorem zE(h:a[b]?=some (.dK R)):oO a (.ref b)=true:=by simp only[oO,h]
theorem eT.kp(H:eT ξ a t b υ Z Q)(K:af [] a η):eT ξ η t b υ Z Q:=H.keep K (by simp) (by simp) (by simp) (by simp)
theorem eT.kd(H:eT ξ a t b υ Z Q)(K:af [W1,E3] a η)(m:a[W1]?=some (.dK R))(n:a[E3]?=some (.dK x8))(o:b≠W1)(p:b≠E3)(q:υ≠W1)(r:υ≠E3):eT ξ η t b υ Z Q:=by
 obtain⟨e,f,g,h,i,k,l⟩:=H
 have c:∀j∈[W1,E3],∀d,a[j]?≠some (.lst d):=λj hj d=>by
  rcases List.mem_cons.mp hj with rfl|hj
  .simp_all
  simp_all
 refine⟨_,_,K.get _ _ g ?_,K.get _ _ h (by simp_all),i.bY K c,K.get _ _ k (by simp_all),l.bY K c⟩
 simp;exact⟨λz=>(by simp_all),λz=>(by simp_all)⟩
def OK(c:a_):Prop:=∀(b:aJ) (h:Nat) (E:eP) (L:Str->List Str) (P:Nat->Prop) (n:Str),cC P b h E L->n∈nms E->E.length<=1000->∃k a,c [.ref h,.str n] b=.ok (.ref k) a/\a[k]?=some (.lst (((nms E).filter λm=>decide (n∈L m)).map .str))/\af [] b a/\b.length<=k
theorem Di(b:Kj L):OK (fL L):=by
 intro c h E a P n H d e;obtain⟨k,f,i,g,K,j⟩:=b c h E a P n H d e;exact⟨k,_,by unfold fL;rw[i],qS g,nE K.len K.get,j⟩
theorem OL(c:B[b]?=some (oS d)):mN bh (ae (aa b) ah) B a=.ok (.ref a.length) (a++[.lst (([d]:List Str).map .str)]):=by
 rw[dX,a6,oW,c,t4,aw,bG,aw,aw];rfl
noncomputable def jY(C:Str)(a:List (Str×D)):D:=.tup (.str C::a.map λp=>.tup [.str p.1,p.2])
theorem zF{a:List (Str×D)}(h:jY d F5=jY T a):d=T/\F5=a:=by
 simp only[jY,Mir.D.tup.injEq,List.cons.injEq,Mir.D.str.injEq]at h;refine⟨h.1,(List.map_inj_right λx y e=>?_).mp h.2⟩
 grind
def zG(a:List Addr)(Z:Addr->Prop)(H:Hp)(b:List (Str×D))(c:List (Str×V)):Prop:=aG (λp q=>p.1=q.1/\au a Z H p.2 q.2) b c
def jZ(f:Str->Addr->Prop)(E:XK):gX:=λx _ b Z H=>∃C c,x=jY C c/\∀d a e,f C d->H a=some (.xd e)->zG b Z H c e->a∉b->¬ Z a->E (.ref d) (some a) H
def ur(a:Str->Addr->Prop)(F:a_):Sp:=λe H Q E=>∃b Z c d,br a b Z c H/\aG (au b Z H) d e/\bE a (jZ a E) b Z H (F d c) Q
def uu(R:List Stmt->Option SM)(T:aQ)(f:List Str)(k:Nat)(d:Scope)(N:List Str)(st:Stmt):Option SM:=match st with
 |.If c a b _=>o2 (cx T k d N c) (o2 (R a) (R b) Prod.mk) λx y=>dR x y.1 y.2
 |.While c b [] _=>o2 (cx T k d N c) (R b) jt
 |.For (.Name x _) e b [] _=>if isSet e then none else o2 (iT T d N x) (o2 (fM (cx T k d N) d e) (R b) Prod.mk) λi y=>dw (cV i) y.1 y.2
 |.For (.Tuple g _ _) e b [] _=>if isSet e then none else match dr g with
   |some nms=>o2 (ia T d N nms) (o2 (jw (cx T k d N) d e) (R b) Prod.mk) λh y=>ny (Ci e) (dS h) y.1 y.2
   |none=>none
 |_=>iU T f k d N 1 st
def mu(a:Stmt->Option SM)(T:aQ)(b:List Str)(k:Nat)(d:Scope)(N:List Str):Nat->Stmt->Option SM
 |0,_=>none
 |n+1,e=>match a e with
  |some c=>some c
  |none=>uu (cW (mu a T b k d N n)) T b k d N e
variable{c:Cx}{i:Str->Addr->Prop}{p:gX}{π:Scope}
theorem Dj{o:Stmt->Option SM}(G:ez c i χ b π g)(M:∀st d,o st=some d->i_ c i p st d):∀(n k:Nat) (st:Stmt) (d:SM),mu o χ Y k π g n st=some d->i_ c i p st d:=by
 intro n k;have E:=λe m q=>h_ k c π g e m G.toGoodO q
 induction n with
 |zero=>intro st d h;cases h
 |succ n O=>
  intro st d h;have B:∀C d,cW (mu o χ Y k π g n) C=some d->jW c i p C d:=λC d q=>gq O q
  have P:c.N.Nodup:=by rw[G.names];exact G.mU
  cases F:o st with
  |some Z=>
   replace h:(match o st with|some d=>some d|none=>uu (cW (mu o χ Y k π g n)) χ Y k π g st)=some d:=h
   rw[F]at h;cases h;exact M _ _ F
  |none=>
   have D:iU χ Y k π g 1 st=some d->i_ c i p st d:=λq=>tW G 1 k st d q
   replace h:(match o st with|some d=>some d|none=>uu (cW (mu o χ Y k π g n)) χ Y k π g st)=some d:=h
   rw[F]at h;replace h:uu (cW (mu o χ Y k π g n)) χ Y k π g st=some d:=h;cases st with
   |If H a f u=>
    obtain⟨m,y,r,s,rfl⟩:=bg h;obtain⟨Q,t,w,z,rfl⟩:=bg s;exact yG ((E H m r).2.1 p) (B a Q w) (B f t z)
   |While H f e u=>
    cases e with
    |nil=>
     obtain⟨m,t,r,s,rfl⟩:=bg h;exact nq G.own ((E H m r).2.1 p) (B f t s)
    |cons _ _=>exact D h
   |For L A f e u=>
    cases e with
    |nil=>
     cases L with
     |Name x px=>
      replace h:(if isSet A=true then none else o2 (iT χ π g x) (o2 (fM (cx χ k π g) π A) (cW (mu o χ Y k π g n) f) Prod.mk) λl y=>dw (cV l) y.1 y.2)=some d:=h
      split at h
      .cases h
      .rename_i I
       obtain⟨l,y,r,s,rfl⟩:=bg h;obtain⟨R,t,w,z,rfl⟩:=bg s;obtain⟨S,T,U⟩:=gE G r;exact kk G.own G.calm (jv G.toGoodO E w p _) (ka P S T U) (yJ l) (B f t z) (fZ (by simpa using I))
     |Tuple V j J=>
      replace h:(if isSet A=true then none else match dr V with
   |some nms=>o2 (ia χ π g nms) (o2 (jw (cx χ k π g) π A) (cW (mu o χ Y k π g n) f) Prod.mk) λK y=>ny (Ci A) (dS K) y.1 y.2
   |none=>none)=some d:=h
      split at h
      .cases h
      .rename_i I
       split at h
       .rename_i nms X
        obtain⟨K,y,r,s,rfl⟩:=bg h;obtain⟨R,t,w,z,rfl⟩:=bg s;exact qF (kk G.own G.calm (tU G.toGoodO E w p) (lE G X r) (r_ K) (B f t z) (fZ (by simpa using I)))
       .cases h
     |_=>exact D h
    |cons _ _=>cases L<;>exact D h
   |_=>exact D h
theorem aR.toXt{T:aQ}(W:aR z A x θ w T b):aR z A x θ w {T with xt:=true} b:=⟨W.dy,W.je,W.fn,W.cst,W.met,W.cls,W.fld,W.clo⟩
theorem Dk(W:aR z A x θ w χ b)(K:χ.xt=true)(F:vH x d T Δ H h ς){y:Stmt->Option SM}(L:eZ g Y (aj Δ)=true)(M:cW (mu y χ E4 60 (aj Δ) g 30) (aV Δ)=some Θ)(N:∀(i:Value) (f:Around) (outer:List Env) (s:Shared) (e:Hp) (E:XK),bA (b+2) (f.deeper (envOfC T (aj Δ) s.heap.objs.size h i))->GoodO (cO (pR z A) z A x θ w g T (aj Δ) h i f outer s e E) (cE θ) χ b (aj Δ) g ->
      ∀l B,y l=some B->i_ (cO (pR z A) z A x θ w g T (aj Δ) h i f outer s e E) (cE θ) (jZ (cE θ) E) l B):
    bx z A x θ w (pR z A) (b+3) h ς Y (ur (cE θ) (bT g.length Y.length Θ)):=by
  obtain⟨oc,od,kV,O,pm,an,i,ct,P,rfl,R,n⟩:=F.ex;have o:=iE L;refine wD R n o (λU e Q E c=>?_) λf outer s e U Q E D c=>?_
  · obtain⟨p,Z,t,V,S,r,a⟩:=c
    rw[r.length];unfold bT at a;split at a
    · omega
    · exact a.elim
  · obtain⟨p,Z,t,V,S,r,a⟩:=c
    have G:GoodO (cO (pR z A) z A x θ _ g _ _ h _ f outer s e E) _ χ b _ g:=
      { scope:=rfl,names:=rfl,calm:=rfl,room:=D.mono (by omega),dy:=W.dy,fld:=W.fld,cst:=W.cst
        je:=λd F c=>⟨W.je d F c⟩,fn:=λd F c=>⟨W.fn d F c⟩,met:=λm C F c=>⟨W.met m C F c⟩,cls:=λC F c=>let ⟨j,X,h2⟩:=W.cls C F c;⟨j,X,⟨h2⟩⟩,clo:=W.clo }
    refine⟨_,gq (Dj ({toGoodO:=G,own:=PassesOwn.leaving,Ll:=λ_ _ _=>.inl rfl,mU:=o.nd,kind:=o.kind,jP:=λq=>by grind}) (N _ f _ s e E D G) 30 60) M p Z e _ t,p,Z,hZ S r,?_⟩
    unfold bT at a;split at a
    · cases q:Θ _ t with
      |rt u k=>rwa[q]at a
      |nx I k=>rw[q]at a;exact λσ H' a0 Z' J=>a _ H' _ Z' J.gr J.st (bb rfl)
      |bk I k=>rw[q]at a;exact a.elim
      |ct I k=>rw[q]at a;exact a.elim
      |exc d k=>rwa[q]at a
      |bad=>rwa[q]at a
    · exact a.elim
def fN(C:Str):List (Str×EM)->List (Str×D)->bp->aJ->ay D
 |[],a,_,Ω=>.exc (jY C a) Ω
 | (f,m)::r,a,c,Ω=>match m c Ω with
  |.ok d b=>fN C r (a++[(f,d)]) c b
  |_=>.bad
def iZ(C:Str)(n:Nat)(ms:List (Str×EM))(d:AM):SM:=λe f=>bu (d e f) λc a=>if c.length=n then (match fN C ms [] (none::c.map some) a with
 |.exc x b=>.exc x b
 |_=>.bad)else .bad
variable{e:Hp}{n:Addr->Prop}{o0:HO}{r:List Addr}
theorem chX(S:br i r n a e)(s:h∉r)(x:¬ n h)(y:∀o0 u,e h≠some (.dj o0 u))(F:e h≠none):br i r n a (upd e h o0)/\∀d v,au r n e d v->au r n (upd e h o0) d v:=by
 have o:∀d v,au r n e d v->au r n (upd e h o0) d v:=λd v g=>g.mono (λ_ _ q=>q) (λf G z q=>by rwa[av (λw=>x (by simp_all))]) λ_ z=>z
 refine⟨⟨S.mU,?_,S.sep,λf k=>?_⟩,o⟩
 .have m:∀{l:List _}{j:List _},(∀f∈j,f≠h)->aG (λc f=>fA i (au r n e) e f c) l j->aG (λc f=>fA i (au r n (upd e h o0)) (upd e h o0) f c) l j:=by
   intro l j p A
   induction A with
   |nil=>exact .nil
   |@cons H B l j g t C=>
    refine .cons (g.imp o (λu q=>?_) λb D E q=>?_) (C λf k=>p f (List.mem_cons_of_mem _ k))
    .rwa[av (p B (by simp))]
    .rwa[av (λw=>y D E (by simp_all))]
  exact m (λf k w=>s (by simp_all)) S.vW
 .by_cases q:f=h
  .grind
  .rw[av q];exact S.dom f k
variable{P0:Addr->Prop}{i0:List Addr}{ο:Hp}
theorem chG(g:bW r n e i0 P0 ο)(i:e h=Option.none)(d:h∉i0):bW r n e i0 P0 (upd ο h o0):=
 ⟨g.pre,g.sub,g.new,g.zY,λa u q c=>by rw[av (λw=>by grind)];exact g.frm a u q c,λa c=>by
  have:a≠h:=λw=>by
   obtain⟨b,f⟩:=List.mem_iff_getElem?.mp c;exact d (by rw[←w];exact List.mem_of_getElem? (g.pre b a f))
  rw[av this];exact g.has a c,λa o0 u q=>by rw[av (λw=>by grind)];exact g.dj a o0 u q⟩
theorem zG.imp{c:List Addr}{Z:Addr->Prop}{H:Hp}{b:List Addr}{e:Addr->Prop}{f:Hp}(h:∀d v,au c Z H d v->au b e f d v):∀{g:List (Str×D)}{i:List (Str×V)},zG c Z H g i->zG b e f g i
 |_,_,.nil=>.nil
 |_,_,.cons a t=>.cons ⟨a.1,h _ _ a.2⟩ (zG.imp h t)
structure Rj(κ:Str->Addr->Prop)(α:List Addr)(Z:Addr->Prop)(H:Hp)(od:Option Addr)(as:List (Str×D))(fs:List (Str×V))(α2:List Addr)(Z2:Addr->Prop)(Ω:aJ)(H2:Hp):Prop where
 st:br κ α2 Z2 Ω H2
 gr:bW α Z H α2 Z2 H2
 fl:zG α2 Z2 H2 as fs
 Rk:od=none->as=[]/\fs=[]
 OM:∀dd,od=some dd->H2 dd=some (.xd fs)/\dd∉α2/\¬ Z2 dd/\H dd=none
theorem zH{p:Str->Addr->Prop}{Φ:gX}{h:List Addr}{Z:Addr->Prop}{ax:aJ}{H:Hp}{e:Addr}{C:Str}{Y:Addr}{s:bp}{G:L2.St}{Q:VK}(L:br p h Z ax H)(y:G.length=s.length)(M:∀(i:Nat) (d:D),s[i]?=some (some d)->∃v,G[i]?=some (some v)/\au h Z H d v){fP:Option Addr->List (Str×V)->Hp->Prop}{Nm:List Str}(N:∀od c t b j a k,c.map (·.1)=Nm->Rj p h Z H od c t b j a k->bE p Φ h Z H (.exc (jY C c) a) Q->fP od t k):
  ∀(rs:List (Str×EM)) (od:Option Addr) (c:List (Str×D)) (t:List (Str×V)) (b:List Addr) (j:Addr->Prop) (a:aJ) (k:Hp),c.map (·.1)++rs.map (·.1)=Nm->Rj p h Z H od c t b j a k->bE p Φ h Z H (fN C rs c s a) Q ->
   kN e Y (rs.map λr=>(r.1,λG H' Q'=>∃A,tO p lQ h Z H r.2 s A G H' Q')) od t G k fP
 |[],od,c,t,b,j,a,k,hn,x,g=>N od c t b j a k (by simp_all) x g
 | (f,m)::rs,od,c,t,b,j,a,k,hn,x,g=>by
  have J:cj p h Z H b j _ s G k:=⟨x.st,x.gr,y,λi d hi=>let ⟨v,h1,h2⟩:=M i d hi;⟨v,h1,L.cA x.gr h2⟩⟩
  replace g:bE p Φ h Z H (match m s a with|.ok d A=>fN C rs _ s A|_=>.bad) Q:=g
  cases q:m s a with
  |bad=>rw[q]at g;exact g.elim
  |exc z B=>rw[q]at g;exact g.elim
  |ok d B=>
   rw[q]at g;cases od with
   |none=>
    obtain⟨ea,ef⟩:=x.Rk rfl;subst ea ef;refine⟨a,b,j,J,?_⟩;dsimp only;rw[q];intro v H3 l K w I O E n a0 b0;obtain⟨P,S⟩:=I.mV n False
    exact zH L y M N rs _ _ _ l K B _ (by grind) ⟨P,(x.gr.trans w).trans S,.cons ⟨rfl,I.cA S O⟩ .nil,by simp,λd' z=>by
     cases z;exact⟨aL,λF=>I.has _ F n,λF=>I.dom _ F n,(x.gr.trans w).none n⟩⟩ g
   |some E=>
    obtain⟨o1,o2,o3,T⟩:=x.OM E rfl;refine⟨a,b,j,J,?_⟩;dsimp only;rw[q];intro v H3 l K w I O;have h3:=w.frm E _ o1 o2
    have R:E∉l:=λF=>by
     rcases w.zY E F with z|z
     .exact o2 z
     grind
    have U:¬ K E:=λF=>by
     rcases w.new E F with z|z
     .exact o3 z
     grind
    obtain⟨P,X⟩:=chX I R U (λo u z=>by grind) (by grind)
    refine⟨h3,zH L y M N rs _ _ _ l K B _ (by grind) ⟨P,chG (x.gr.trans w) T R,aG.append (zG.imp X (zG.imp (λd v r=>x.st.cA w r) x.fl)) (.cons ⟨rfl,X _ _ O⟩ .nil),by simp,λd' z=>?_⟩ g⟩
    cases z;exact⟨aL,R,U,T⟩
theorem jM{A B:Type}{f:iA->A}{g:B->TE}:∀{rs:List iA}{ms:List B},((rs.zip (ms.map g)).map λr=>(r.1.fld,r.2))=((rs.map (·.fld)).zip ms).map λr=>(r.1,g r.2)
 |[],_=>rfl
 |_::_,[]=>rfl
 |r::rs,m::ms=>by
  have:=jM (f:=f) (g:=g) (rs:=rs) (ms:=ms)
  simp_all
theorem jN{A B T:Type}{g:B->T}{p:A×T}:∀{rs:List A}{ms:List B},p∈rs.zip (ms.map g)->∃m,(p.1,m)∈rs.zip ms/\p.2=g m
 |[],_,h=>by cases h
 |_::_,[],h=>by cases h
 |r::rs,m::ms,h=>by
  simp at h ⊢;rcases h with h|h
  .simp_all
  .obtain⟨a,b,c⟩:=jN h
   exact⟨a,.inr b,c⟩
variable{I:List V}
theorem vP(a:aG (au r n e) q I)(f:g.length=q.length+1):(start g (.ref h::I)).length=(none::q.map some:bp).length/\∀(i:Nat) (d:D),(none::q.map some:bp)[i]?=some (some d)->∃v,(start g (.ref h::I))[i]?=some (some v)/\au r n e d v:=by
 have j:=a.length;refine⟨by simp[L2.start];omega,λi d b=>?_⟩
 cases i with
 |zero=>cases b
 |succ i=>
  rw[List.getElem?_cons_succ,List.getElem?_map]at b;obtain⟨k,c,l⟩:=Option.map_eq_some_iff.mp b;obtain⟨v,m,o⟩:=a.get c;unfold L2.start
  simp_all
variable{B5 v3:Str}{C D1 l:Pos}{E:List Expr}{F4:List Env}{G j3 v0 Ξ:Addr}{G1:XK}{G6:List iA}{O:Around}{j:Expr}{o:Shared}
theorem sL{ms:List EM}(D:mL x θ G Ξ v0 j3 ς Δ T v3 Y G6)(hr:bA (b+2) (O.deeper (envOfC d π o.heap.objs.size h H)))(hg:Gl (cO (pR z A) z A x θ w g d π h H O F4 o e G1) B5)(hm:θ B5=some (.ref G))(s0:i B5 G)(c0:mY (cO (pR z A) z A x θ w g d π h H O F4 o e G1) i (jZ i G1) (j::E) d0)(hl:ms.length=G6.length)(t0:G6≠[])(e0:∀(A':Around) (ot:List Env) (s':Shared) (J:Addr) (K:Hp) (E':XK),bA b (A'.deeper (envOfC T (aj Δ) s'.heap.objs.size v0 (.ref j3)))->∀p∈G6.zip ms,bo ((cO eB z A x θ w (v3::Y) T (aj Δ) v0 (.ref j3) A' ot s' K E').jP.mk1 J) i lQ p.1.ve p.2)(f0:starEach (j::E) (envOfC d π o.heap.objs.size h H)=(false,eval j (envOfC d π o.heap.objs.size h H))::starEach E (envOfC d π o.heap.objs.size h H))(g0:(backTo C (starEach E (envOfC d π o.heap.objs.size h H))).any (·.1)=false)(h0:(B5==("__debug__":Str))=false):
  i_ (cO (pR z A) z A x θ w g d π h H O F4 o e G1) i (jZ i G1) (.Raise (some (.Call (.Name B5 l) (j::E) [] C)) none D1) (iZ B5 Y.length ((G6.map (·.fld)).zip ms) d0):=by
 intro U Z0 X ρ Ω pins s σ a0 Dn I N;obtain⟨α,Z,S,N⟩:=N
 refine u9
  (z7:=λvs K=>∃ds q u P y c,bW U Z0 X u P K/\br i u P q K/\aG (au u P K) ds vs/\ds.length=Y.length/\fN B5 ((G6.map (·.fld)).zip ms) [] (none::ds.map some) q=.exc c y/\∀L k B,bW U Z0 X k B L->br i k B y L->jZ i G1 c y k B L)
  (fP:=λvs K od fs L=>(∃R,od=some R)/\∃y k B F,br i k B y L/\zG k B L F fs/\(∀R,od=some R->R∉k/\¬ B R)/\jZ i G1 (jY B5 F) y k B L) D hr hg hm (c0 U Z0 X ρ Ω) (λvs K fs H' hz=>by obtain⟨⟨R,n⟩,_⟩:=hz;cases n) (λvs K hA A' ot s' J E' i0 he=>?_) f0 g0 h0 _ s σ a0 Dn I ⟨α,Z,S,?_⟩
 .obtain⟨ds,q,u,P,y,c,g1,s1,j0,l0,e1,h1⟩:=hA
  refine⟨ms.map λm m0 H' Q'=>∃q,tO i lQ u P K m (none::ds.map some) q m0 H' Q',by simp[hl],λp hp=>?_,?_⟩
  .obtain⟨m,n0,e2⟩:=jN hp
   rw[e2];exact PE.ex λq=>e0 A' ot s' J K E' i0 _ n0 u P K _ q
  .rw[jM (f:=iA.fld)]
   obtain⟨l1,l2⟩:=vP (g:=v3::Y) j0 (by simp[l0])
   refine zH (Φ:=jZ i G1) (C:=B5) (Q:=λ_ _=>False) (Nm:=G6.map (·.fld)) s1 l1 l2 (λod F fs k B r0 L hn c M=>?_) _ _ [] [] u P q K ?_ ⟨s1,bW.refl s1.has,.nil,by simp,λ_ n=>(nomatch n)⟩ ?_
   .refine⟨(by
     rw[←hn]
     have o0:∀{F:List (Str×Mir.D)}{fs:List (Str×V)},zG k B L F fs->fs.map (·.1)=F.map (·.1):=by
      intro a p0 b0
      induction b0 with
      |nil=>rfl
      |cons r t ih=>rw[List.map_cons,List.map_cons,ih,r.1]
     exact o0 c.fl),?_,_,k,B,F,c.st,c.fl,λR n=>⟨(c.OM R n).2.1,(c.OM R n).2.2.1⟩,M L k B c.gr c.st⟩
    cases od with
    |none=>
     rw[(c.Rk rfl).1]at hn
     simp_all
    |some R=>simp
   .exact List.map_fst_zip (by simp[hl])
   .rw[e1]
    exact λL k B g2 s2=>h1 L k B (g1.trans g2) s2
 .unfold iZ at N
  cases hq:d0 ρ Ω with
  |bad=>rwa[hq]at N
  |exc c q=>rw[hq]at N;exact λK u P M s=>N K u P (S.gr.trans M) s
  |ok xs q=>
   rw[hq]at N;replace N:dQ i _ U Z0 X Dn (if xs.length=Y.length then (match fN B5 _ [] _ q with|.exc c y=>.exc c y|_=>.bad)else .bad):=N
   intro vs K u P g1 s1 r1;split at N
   rotate_left
   .exact N.elim
   rename_i q0;split at N
   rotate_left
   .exact N.elim
   rename_i c y hu;refine⟨by rwa[r1.length],⟨xs,q,u,P,y,c,S.gr.trans g1,s1,r1,q0,hu,λL k B g2 s2=>N L k B g2 s2⟩,?_⟩
   rintro fs L R ⟨_,u0,k,B,F,s2,fl,hz,C',w0,n,hh⟩ x0;obtain⟨rfl,rfl⟩:=zF n
   grind
def Rl(X:Cx)(d:Str->Addr->Prop)(Φ:gX)(a:L2.St)(e:Expr)(m:EM):Prop:=∀b f g h i,PE X e (λc H Q=>c=a/\tO d Φ b f g m h i c H Q)
def Rm(X:Cx)(f:Str->Addr->Prop)(Φ:gX)(a:L2.St)(b:List Stmt)(c:SM):Prop:=∀d g h i j,gU X b (λD e H=>e=a/\Hg f Φ d g h c i j D e H)
def lO(C m:Str)(F:a_)(d:EM)(e:AM):EM:=λc f=>(d c f).bind λx a=>match mr a x with
 |some (_,g,h)=>if g=C/\h.lookup m=none then (e c a).bind λi b=>F (x::i) b else .bad
 |none=>.bad
def Hq(C f g:Str)(x:D):Option (D×D):=match x with
 |.tup [.str c,.tup [.str a,d],.tup [.str b,e]]=>if c=C/\a=f/\b=g then some (d,e)else none
 |_=>none
variable{P6 X:D}
theorem Dl(h:Hq d T v3 m=some (X,P6)):m=jY d [(T,X),(v3,P6)]:=by
 unfold Hq at h;split at h
 .split at h
  .rename_i a;cases h;rw[a.1,a.2.1,a.2.2];rfl
  .cases h
 .cases h
theorem GF:Hq d T v3 (jY d [(T,m),(v3,X)])=some (m,X):=by simp[Hq,jY]
def jO(h:SM)(j f g:Str)(k:D->D->SM)(i:Nat):SM:=λe l=>match h e l with
 |.exc x a=>(match Hq j f g x with
  |some (d,m)=>(match k d m (e.set i none) a with
   |.nx b c=>.nx (b.set i none) c
   |_=>.bad)
  |none=>.bad)
 |r=>r
variable{J0:L2.St}
theorem Dm(k:c.N.Nodup)(m:c.N[b]?=some d)(n:Loc c.env.scope d)(o:c.fn d=true\/c.env.scope.names.lookup d=some .local)(q:swapsWith j (some (.Name d C)) l.line c.env=pure false)(h:Rl c i p J0 j s):
  Rm c i p J0 [.Assign [.Name d C] j l] (aF b s):=by
 intro a t u w x;refine gU.imp (nM (nN k m n (h a t u w x) q o)) ?_;rintro E I H ⟨rfl,y,Z,S,f⟩;exact⟨rfl,y,Z,S,dQ.use S f λe z v A B D _ g F r G=>G _ A _ D (F.set r b)⟩
variable{M:Expr}
theorem vQ(B:∀a,i d a->a=h)(e:ke c.K h)(D:Meth c.K h T G)(F:bx c.prog c.w c.K c.mg c.base (pR c.prog c.w) b G ς g (ur i L))(I:bA b c.A)(J:Binds c.K ς g [])(N:kg c J0 G1)(O:bo c i (jZ i G1) M s)(P:mY c i (jZ i G1) (j::E) d0){pl:Sem Bool}(R:starEach (j::E) c.env=(false,eval j c.env)::starEach E c.env)(p:(backTo l (starEach E c.env)).any (·.1)=false)(U:eval (.Call (.Attribute M T C) (j::E) [] l) c.env=(do
   let r ←eval M c.env
   standAt C.atName
   let (G,first) ←holding [r] (getMethod r T pl)
   callWith l G first (backTo l (starEach (j::E) c.env)) (backToKw l (keywordEach [] c.env)))):
  Rl c i (jZ i G1) J0 (.Call (.Attribute M T C) (j::E) [] l) (lO d T L s d0):=by
 intro k t u y V;refine PE.imp (xH (O k t u y V) e D F I J N (PA.ex λm=>P k t u y m) R p U) ?_
 rintro σ H Q ⟨rfl,X,Z,S,f⟩;refine⟨rfl,X,Z,S,bE.use f λx m _ v H1 Y Z1 g1 q z o=>?_⟩
 split at o
 .rename_i n C' fs hk
  split at o
  .rename_i hc
   obtain⟨rfl,hl⟩:=hc;obtain⟨a,a0,dx,b0,rfl,rfl,_,q1,q2,q3⟩:=fg q z hk;obtain rfl:=B _ q1;exact⟨a,dx,_,rfl,q2,(ey q3).2 hl,_,_,Z1,S.grow g1 q,mX.use o λxs c0 _ vs H2 e0 Z2 g2 s2 r2 k2=>⟨_,Z2,_,_,s2,.cons (q.cA g2 z) r2,k2⟩⟩
  .exact o.elim
 .exact o.elim
variable{W5:Option V}
theorem cj.Kl(S:cj i r n e i0 P0 a B J0 ο):cj i r n e i0 P0 a (B.set b none) (J0.set b W5) ο:=
 ⟨S.st,S.gr,by rw[List.length_set,List.length_set];exact S.len,λj d h=>by
  by_cases c:b=j
  .rw[List.getElem?_set]at h
   grind
  .rw[List.getElem?_set_ne c]at h ⊢
   exact S.val j d h⟩
variable{A7 G2:List Stmt}{Q7:Str}
theorem zI{hs:D->D->SM}(a0:c.stack=c.env::c.outer)(b0:c.env.frame=some c.env.locals)(hg:Gl c d)(c0:c.mg d=some (.ref h))(d0:PySem.W.exmOne c.K (.ref G) (.ref h)=some true)(hN:c.N.Nodup)(hi:c.N[b]?=some Q7)(hn:c.env.scope.names.lookup Q7=some .local)(e0:∀X,i T X->X=G)(Tx:kM c.K G Ξ v0)(is:KG c.K G)(hb:∀(pl:List (Addr×Obj)) (P:Value->Shared->Prop) (Q:L2.St) (E:XK),kg ((c.rN pl).wish P) Q E->Rm ((c.rN pl).wish P) i (jZ i E) Q G2 Θ)(f0:∀(pl:List (Addr×Obj)) (e g:Addr) (R:Obj),Hb (((c.rN pl).rb e).xy e R) e G R g Ξ v0->∀(w:List Addr) (Y:Addr->Prop) (H0:Hp) (y:bp) (L:aJ) (t u:D) (v1 v2:V),
   gU (((c.rN pl).rb e).xy e R) (Δ::A7) (λD M H=>H g=some (.xd [(v3,v1),(B5,v2)])/\M[b]?=some (some (.ref e))/\∃z Z,cj i w Y H0 z Z L y M H/\au z Z H t v1/\au z Z H u v2/\dQ i lQ w Y H0 D (hs t u y L)))(g0:(d==("__debug__":Str))=false):
  i_ c i p (.Try G2 [.ExceptHandler (some (.Name d C)) (some Q7) (Δ::A7) D1] [] [] l) (jO Θ T v3 B5 hs b):=by
 intro w Y H0 y L pins s M H D I A;obtain⟨z,Z,S,f⟩:=A;refine Io (W:=λg fs B=>∃a k j t u,Θ y L=.exc (jY T [(v3,t),(B5,u)]) j/\bW z Z H a k B/\br i a k j B/\zG a k B [(v3,t),(B5,u)] fs) I a0 b0 hg c0 d0 hN (λ_ e=>by cases e;exact hi) (λ_ e=>by cases e;exact hn) (λP h0=>?_) (λe g fs R q s4 F hW c1 c2 c3 J=>?_) g0
 .refine hb pins P M _ h0 z Z H y L [] s M H D (I.rN.wish P) ⟨rfl,z,Z,⟨S.st,bW.refl S.st.has,S.len,S.val⟩,?_⟩
  unfold jO at f;cases m:Θ y L with
  |nx U j=>rw[m]at f;exact λo q a k n=>f o q a k ⟨n.st,S.gr.trans n.gr,n.len,n.val⟩
  |bk U j=>rw[m]at f;exact λo q a k n=>f o q a k ⟨n.st,S.gr.trans n.gr,n.len,n.val⟩
  |ct U j=>rw[m]at f;exact λo q a k n=>f o q a k ⟨n.st,S.gr.trans n.gr,n.len,n.val⟩
  |rt g j=>rw[m]at f;exact λv q a k g' s' r'=>f v q a k (S.gr.trans g') s' r'
  |bad=>rw[m]at f;exact f
  |exc x j=>
   rw[m]at f;dsimp only at f;cases hx:Hq T v3 B5 x with
   |none=>rw[hx]at f;exact f.elim
   |some dd=>
    obtain⟨t,u⟩:=dd;obtain rfl:=Dl hx;intro q a k g1 s1;refine⟨T,_,rfl,λX dd vs hk F fl n1 n2=>?_⟩
    cases e0 X hk;exact⟨rfl,dd,vs,rfl,F,a,k,j,t,u,rfl,g1,s1,fl⟩
 .obtain⟨a,k,j,t,u,m,g1,s1,fl⟩:=hW
  obtain⟨v1,v2,rfl,r1,r2⟩:∃v1 v2,fs=[(v3,v1),(B5,v2)]/\au a k q t v1/\au a k q u v2:=by
   obtain⟨⟨a1,w1⟩,t1,rfl,q1,fl⟩:=aG.cons_inv fl;obtain⟨⟨a2,w2⟩,t2,rfl,q2,fl⟩:=aG.cons_inv fl;rw[aG.nil_inv fl];obtain⟨rfl,q1⟩:=q1;obtain⟨rfl,q2⟩:=q2;exact⟨w1,w2,rfl,q1,q2⟩
  unfold jO at f;rw[m]at f;dsimp only at f;rw[GF]at f;dsimp only at f;refine f0 pins e g R ⟨by simp[Cx.xy],c1,c2,c3,Tx,is⟩ w Y H0 (y.set b none) j t u v1 v2 [] s4 _ _ _ J ⟨F,?_,a,k,((S.grow g1 s1).Kl),r1,r2,?_⟩
  .have l0:b<M.length:=by
    rw[I.len]
    grind
   grind
  .cases O:hs t u (y.set b none) j with
   |nx m0 i0=>
    rw[O]at f;intro o q j0 Z2 n;exact f (o.set b none) q j0 Z2 n.Kl
   |rt r i0=>rw[O]at f;exact f.elim
   |bk _ _=>rw[O]at f;exact f.elim
   |ct _ _=>rw[O]at f;exact f.elim
   |exc _ _=>rw[O]at f;exact f.elim
   |bad=>rw[O]at f;exact f.elim
variable{o7:Pos}{ω:Obj}
theorem Dp{r:Str}{n:Str}{p5 p6 p7 p8 p9 z A B E F I J L M O Y r2:Pos}(e:Hb c h Ξ ω G v0 j3)(P:cz c.K Ξ Q7)(Q:cz c.K Ξ r)(hN:c.N.Nodup)(s:c.N[b]?=some d)(u:sO c.env.scope d)(g:(d==("__debug__":Str))=false)(j:(d==("__classdict__":Str))=false)(hj:c.N[t]?=some T)(w:c.env.scope.names.lookup T=some .local)(R:b≠t)(U:(r==Q7)=false)(hg:Gl c "isinstance")(hm:c.mg "isinstance"=none)(n1:oi c (v3,Y) H)(k1:PySem.W.kitOne c.K (.ref Ξ) H=some true)(n2:oi c (B5,r2) Q0)(k2:PySem.W.kitOne c.K (.ref Ξ) Q0=some false)(o:List Addr)(Z0:Addr->Prop)(H0:Hp)(ρ:bp)(x:aJ)(d1 d2:D)(v1 v2:V):
  gU c [.Assign [.Name T l] (.Constant (.str n) υ C) D1,.If (.BoolOp .And [.Call (.Name "isinstance" o7) [.Name d p5,.Name v3 Y] [] p6,.UnaryOp .Not (.Call (.Name "isinstance" p7) [.Name d p8,.Name B5 r2] [] p9) z] A) [.Assign [.Name T B] (.Tuple [.Attribute (.Name d E) Q7 F,.Attribute (.Name d I) r J] W1 L) M] [] O]
   (λD y a=>a G=some (.xd [(Q7,v1),(r,v2)])/\y[b]?=some (some (.ref h))/\∃q Z,cj i o Z0 H0 q Z x ρ y a/\au q Z a d1 v1/\au q Z a d2 v2/\dQ i lQ o Z0 H0 D (aF t (λ_ x=>.ok (.tup [d1,d2]) x) ρ x)):=by
 refine gU.imp (pz (nN hN hj (.inl w) wa rfl (.inr w)) (nM (DC (pw_and (wb (xB e s u hg hm n1 k1 g j) λ_=>rfl) (pw_and1 (wc (wb (xB e s u hg hm n2 k2 g j) λ_=>rfl)))).pt (nM (nN hN hj (.inl w) (wz (eI (DR e P s u g j) (eI (DR e Q s u g j) nT))) rfl (.inr w))) sR))) ?_
 rintro D y a ⟨k,a0,q,Z,S,q1,q2,f⟩;have m:(y.set t (some (V.str n)))[b]?=some (some (.ref h)):=by rwa[List.getElem?_set_ne (Ne.symm R)]
 refine⟨m,⟨_,k⟩,_,rfl,?_⟩;refine⟨m,⟨_,k⟩,_,rfl,?_⟩;refine⟨m,_,v1,k,by simp,m,_,v2,k,by simp[List.lookup,U],by simp[sizeLine_eq],λp hp=>?_⟩
 obtain⟨s3,X⟩:=S.st.mV hp True
 show D.nx _ _
 rw[List.set_set];refine f _ _ q _ (cj.set (S.grow X s3) ?_ t);exact⟨p,_,rfl,.inr rfl,aL,bV.mpr (.cons (S.st.cA X q1) (.one (S.st.cA X q2)))⟩
noncomputable def zJ:Stmt->Option (Str×Expr×List Expr)
 |.Raise (some (.Call (.Name x _) (a::b) [] _)) none _=>some (x,a,b)
 |_=>none
theorem sM(q:zJ Δ=some (d,j,E)):∃p a b,Δ=.Raise (some (.Call (.Name d p) (j::E) [] a)) none b:=by
 cases Δ<;>try cases q
 rename_i e c p;cases e<;>try cases q
 rename_i e;cases e<;>try cases q
 rename_i f r g p;cases f<;>try cases q
 cases r<;>try cases q
 cases g<;>try cases q
 cases c<;>cases q
 exact⟨_,_,_,rfl⟩
theorem uv{A B:Type}{x:Option A}{f:A->Option B}{b:B}(h:x.bind f=some b):∃a,x=some a/\f a=some b:=Option.bind_eq_some_iff.mp h
def Ek(T:aQ)(b:Scope)(N:List Str)(a:Str)(n:Nat)(ms:List (Str×EM))(st:Stmt):Option SM:=
 (zJ st).bind λc=>(cL (cx T 60 b N) (c.2.1::c.2.2)).bind λd=>if c.1==a&&Bc b a&&!(a==("__debug__":Str))then some (iZ a n ms d)else none
theorem zK{ms:List EM}(D:mL x θ G Ξ v0 j3 ς Δ T v3 Y G6)(B:bA (b+2) (O.deeper (envOfC d π o.heap.objs.size h H)))(r:θ B5=some (.ref G))(f:GoodO (cO (pR z A) z A x θ w g d π h H O F4 o e G1) (cE θ) χ b π g)(C:ms.length=G6.length)(k:G6≠[])(n:∀(s:Around) (E:List Env) (t:Shared) (c:Addr) (F:Hp) (I:XK),bA b (s.deeper (envOfC T (aj Δ) t.heap.objs.size v0 (.ref j3)))->∀p∈G6.zip ms,bo ((cO eB z A x θ w (v3::Y) T (aj Δ) v0 (.ref j3) s E t F I).jP.mk1 c) (cE θ) lQ p.1.ve p.2)(st:Stmt)(u:SM)(a:Ek χ π g B5 Y.length ((G6.map (·.fld)).zip ms) st=some u):i_ (cO (pR z A) z A x θ w g d π h H O F4 o e G1) (cE θ) (jZ (cE θ) G1) st u:=by
 obtain⟨⟨l,J,K⟩,v1,a⟩:=uv a;obtain⟨S,L,a⟩:=uv a;split at a
 rotate_left
 .cases a
 rename_i y;cases a;simp only[Bool.and_eq_true,Bool.not_eq_true',beq_iff_eq]at y;obtain⟨⟨M,N⟩,P⟩:=y;subst M;obtain⟨U,V,X,rfl⟩:=sM v1;obtain⟨Q,j⟩:=bJ (λc m q=>h_ 60 _ _ g c m f q) L
 exact sL D B (f.gl N) r r (Q _) C k n (bK (j J (by simp))) (bL λi R=>j i (by simp[R])) P
theorem Dq(W:aR z A x θ w χ b)(F:vU x d T Δ h ς)(o:eZ g Y (aj Δ)=true)(y:∀(i:Value) (e:Around) (outer:List Env) (s:Shared) (H:Hp) (E:XK),ez (cO eB z A x θ w g T (aj Δ) h i e outer s H E).jP (cE θ) χ b (aj Δ) g->jW (cO eB z A x θ w g T (aj Δ) h i e outer s H E).jP (cE θ) lQ (aV Δ) Θ):
    bx z A x θ w eB (b+1) h ς Y (cD (cE θ) (bT g.length Y.length Θ)):=by
  refine F.ok (iE o) (λB H Q E c=>?_) λi e outer s H B Q E D c=>?_
  · obtain⟨k,Z,l,I,S,r,a⟩:=c
    rw[r.length];unfold bT at a;split at a
    · omega
    · exact a.elim
  · obtain⟨k,Z,l,I,S,r,a⟩:=c
    have p:=iE o
    have G:ez (cO eB z A x θ _ g _ (aj Δ) h _ e outer s H E).jP _ χ b _ g:=
      { scope:=rfl,names:=rfl,calm:=rfl,room:=D,dy:=W.dy,own:=PassesOwn.never,Ll:=λ_ _ _=>.inl rfl,mU:=p.nd,kind:=p.kind,jP:=λ_ _ _ c=>c,fld:=W.fld,cst:=W.cst
        je:=λd F c=>⟨W.je d F c⟩,fn:=λd F c=>⟨W.fn d F c⟩,met:=λm C F c=>⟨W.met m C F c⟩,cls:=λC F c=>let ⟨j,J,K⟩:=W.cls C F c;⟨j,J,⟨K⟩⟩,clo:=W.clo }
    refine⟨_,y _ e _ s H E G k Z H _ l,k,Z,hZ S r,?_⟩;unfold bT at a;split at a
    · cases q:Θ _ l with
      |rt n f=>rwa[q]at a
      |nx t f=>rw[q]at a;exact λO L M N u=>a _ L _ N u.gr u.st (bb rfl)
      |bk t f=>rw[q]at a;exact a.elim
      |ct t f=>rw[q]at a;exact a.elim
      |exc d f=>rwa[q]at a
      |bad=>rwa[q]at a
    · exact a.elim
def Mv(a m:Str)(G:a_)(b c e:Str):SM:=ak (aF 2 (ai .non)) (ak (jO (aF 2 (lO a m G (aa 0) (ae (aa 1) ah))) b c e (λd f=>aF 2 (λ_ g=>.ok (.tup [d,f]) g)) 3) (ak (bS (aa 2)) ao))
variable{Q6:Addr}
theorem Dr(W:aR z A x θ w χ b)(F:vU x d T Δ h ς){k r O m P u y I J Q:Str}(hs:eZ [v3,B5,Q7,k] [v3,B5] (aj Δ)=true){B0:Addr}{B:FuncData}(t0:θ O=some (.ref G))(cl:ke x G)(M:Meth x G m Ξ)(Ft:bx z A x θ w (pR z A) b Ξ B g (ur (cE θ) L))(R:Binds x B g []){b2 b3 b4 b5 b6 hp D pos p1 p2 p3 p4 p5 p6 p7 p8 p9 S U V X Y Z a0 b0 c0 d0 r1 r2 q1 q2:Pos}(hbd:aV Δ=[.Assign [.Name Q7 l] (.Constant .none t C) D1,.Try [.Assign [.Name Q7 o7] (.Call (.Attribute (.Name v3 b2) m b3) [.Name B5 b4] [] b5) b6] [.ExceptHandler (some (.Name r hp)) (some k)
   [.Assign [.Name Q7 p1] (.Constant (.str Q) υ p2) p3,.If (.BoolOp .And [.Call (.Name "isinstance" p4) [.Name k p5,.Name u r1] [] p6,.UnaryOp .Not (.Call (.Name "isinstance" p7) [.Name k p8,.Name y r2] [] p9) S] U) [.Assign [.Name Q7 V] (.Tuple [.Attribute (.Name k X) I Y,.Attribute (.Name k Z) J a0] W1 b0) c0] [] d0] D] [] [] pos,.Return (some (.Name Q7 q1)) q2])(q:(b3.endLine==b5.line)=true)(e0:θ r=some (.ref B0))(f0:PySem.W.exmOne x (.ref v0) (.ref B0)=some true)(u0:θ P=some (.ref v0))(Tx:kM x v0 j3 Q6)(is:KG x v0)(g0:cz x v0 I)(h0:cz x v0 J)(i0:(J==I)=false)(j0:θ u=some H)(k1:PySem.W.kitOne x (.ref v0) H=some true)(l0:θ y=some Q0)(k2:PySem.W.kitOne x (.ref v0) Q0=some false)(sh:(aj Δ).names.lookup v3=some .local)(sn:(aj Δ).names.lookup B5=some .local)(i:(aj Δ).names.lookup Q7=some .local)(se:(aj Δ).names.lookup k=some .local)(sb:(aj Δ).names.lookup r=some .globalImplicit)(si:(aj Δ).names.lookup ("isinstance":Str)=some .globalImplicit)(s1:(aj Δ).names.lookup u=some .globalImplicit)(s2:(aj Δ).names.lookup y=some .globalImplicit)(m0:([v3,B5,Q7,k,r,u,y].all λc=>!(c==("__debug__":Str))&&!(c==("__classdict__":Str)))=true):
  bx z A x θ w eB (b+1) h ς [v3,B5] (cD (cE θ) (bT 4 2 (Mv O m L P I J))):=by
 have o:∀c∈[v3,B5,Q7,k,r,u,y],(c==("__debug__":Str))=false/\(c==("__classdict__":Str))=false:=λc hz=>by
  have:=List.all_eq_true.mp m0 c hz;simpa using this
 refine Dq W F hs λw0 n0 outer s o0 E n=>?_
 have K:=n.mU;rw[hbd];have vr:∀{X':Cx}{Φ:gX}{j:Nat}{c:Str}{p:Pos},X'.N=[v3,B5,Q7,k]->X'.env.scope=aj Δ->[v3,B5,Q7,k][j]?=some c->(aj Δ).names.lookup c=some .local->(c==("__debug__":Str))=false/\(c==("__classdict__":Str))=false->bo X' (cE θ) Φ (.Name c p) (aa j):=λe1 e2 h1 h2 h3=>tH (by rw[e1];exact h1) (by rw[e2];exact .inl h2) h3.1 h3.2
 refine iS (tS (b:=2) K rfl (.inl i) (.inr i) rfl (gw v_ rfl)) (iS ?_ (iS (tR (vr (j:=2) rfl rfl rfl i (o _ (by simp)))) tQ))
 refine zI (b:=3) rfl rfl sb e0 f0 K rfl se (λa f=>by have f:θ P=some (.ref a):=f;grind) Tx is (λpl xe x0 E' p0=>?_) (λpl e q0 oe r0 s0 Z0 H0 ρ Ω d1 d2 v1 v2=>?_) (o r (by simp)).1
 .exact Dm (b:=2) K rfl (.inl i) (.inr i) rfl (vQ (λa f=>by have f:θ O=some (.ref a):=f;grind) cl M Ft n.room R p0 (vr (j:=0) rfl rfl rfl sh (o _ (by simp))) (iL (vr (j:=1) rfl rfl rfl sn (o _ (by simp))) kj rfl) rfl rfl (oV rfl (by simp;rfl) (by simp) q))
 .exact Dp (b:=3) (t:=2) r0 g0 h0 K rfl (.inl se) (o _ (by simp)).1 (o _ (by simp)).2 rfl i (by decide) i0 si (W.dy _ (by decide)) (kO s1 j0 (o u (by simp)).1) k1 (kO s2 l0 (o y (by simp)).1) k2 s0 Z0 H0 ρ Ω d1 d2 v1 v2
def zL:SM:=
 (ak (dR (m2 (aH .Eq) (aa 1) (ai (.int 8)))
 (ak (bS (aa 0))
 ao)
 ao)
 (ak (dR (m1 (oK .list) (aa 0))
 (ak bO
 ao)
 ao)
 (ak (dR (m1 (oK .tuple) (aa 0))
 (ak bO
 ao)
 ao)
 (ak (dR (m1 (oK .dict) (aa 0))
 (ak bO
 ao)
 ao)
 (ak (bS (aa 0))
 ao)))))
theorem El:bT 2 2 zL [.str d,.int 0] a=.ok (.str d) a:=by
 rfl
def Km(ms:List (Str×EM)):SM:=(ak (dR (m2 (aH .In) (aa 1) (aa 3)) (ak (iZ "Heired" 2 ms (ae (aa 1) (ae (aa 2) ah))) ao) ao) ao)
def Kn(a:a_)(ms:List (Str×EM)):SM:=
 (ak (cF (aZ "House" "check_kind" a (aa 0) (ae (aa 1) ah)))
 (ak (nv (dS [2,3]) (hY fe) (Km ms))
 (ak (cF (dm oO gp fe (ae (aa 1) ah)))
 (ak (cF (dm oO gp Hn (ae (aa 1) ah)))
 ao))))
def hrd(a b:Str):D:=jY "Heired" [("name",.str a),("heir",.str b)]
def ON(ms:List (Str×EM)):Prop:=∀(c:aJ) (a b:Str),fN "Heired" ms [] [none,some (.str a),some (.str b)] c=.exc (hrd a b) c
def OO(f:a_):Prop:=∀(c:aJ) (h e l:Nat) (E:eP) (L:Str->List Str) (P:Nat->Prop) (n:Str),eT P c h e l E L->n∈nms E->E.length<=1000->(∀q∈E,q.2.length<=1000)->e≠l ->
 ((∀q∈E,n∉q.2)->∃a,f [.ref h,.str n] c=.ok .non a/\eT P a h e l (E.filter λq=>decide (q.1≠n)) L/\af [e,l] c a) /\
 (∀q,E.find? (λq=>decide (n∈q.2))=some q->∃d b,af [] c b/\b[e]?=some (.dK d)/\f [.ref h,.str n] c=.exc (hrd n q.1) (b.set e (.dF d)))
theorem GG{ms:List (Str×EM)}(e:ON ms)(c:a[t]?=some (.lst (g.map .str))):Km ms [oR b,oS d,oS T,oR t] a=if d∈g then .exc (hrd d T) a else .nx [oR b,oS d,oS T,oR t] a:=by
 show sq (bu (bZ (aH .In _ _ a)) _) _=_
 rw[(ic (d:=d) c)]
 by_cases f:d∈g
 .have:iZ "Heired" 2 ms (ae (aa 1) (ae (aa 2) ah)) [oR b,oS d,oS T,oR t] a=.exc (hrd d T) a:=by
   show(match fN _ ms [] [none,some _,some _] a with|.exc x _=>ff.exc x _|_=>.bad)=_
   rw[e]
  simp_all
 simp_all
theorem Ko{ms:List (Str×EM)}(hC:qR L)(hm:ON ms):OO (bT 4 2 (Kn L ms)):=by
 intro Ω h e l E A P n H hn hl hE I;rw[bj (by rfl)]
 have e0:a7 4 [D.ref h,.str n]=[oR h,oS n,none,none]:=rfl;rw[e0];obtain⟨b,e1,K1⟩:=hC Ω h E A P n H.at hn
 have em:aZ "House" "check_kind" L (aa 0) (ae (aa 1) ah) [oR h,oS n,none,none] Ω=.ok .non b:=by
  rw[b9 H.at rfl (by decide)]
  show nr (L [.ref h,.str n] Ω)=_
  rw[e1];rfl
 obtain⟨c,o,B,u,J,h4,h5⟩:=H.kp K1
 have a0:hY fe [oR h,oS n,none,none] b=.ok (.items e) (b.set e (.dF c)):=by
  show((dH ["House"] "elders" (.ref h) b).bind _)=_
  rw[iX B,aw];exact JE (.inl u)
 have f2:=zk (a:=b) (.inl u);have x:af [e] b (b.set e (.dF c)):=af.set (by simp)
 have s:=J.bY x (λj C G=>by rw[List.mem_singleton.mp C,u];simp)
 have K:=J.len
 have y:∃g k,dw (dS [2,3]) (hY fe) (Km ms) [oR h,oS n,none,none] b=match E.find? (λq=>decide (n∈q.2))with
   |none=>.nx [oR h,oS n,g,k] (b.set e (.dF c))
   |some q=>.exc (hrd n q.1) (b.set e (.dF c)):=by
  rw[cR,a0,cM];generalize b.set e (.dF c)=f at *;refine bX (R:=λr=>∃g k,r=match E.find? (λq=>decide (n∈q.2))with|none=>.nx [oR h,oS n,g,k] f|some q=>.exc (hrd n q.1) f) (q:=c.map Mo) (λi X t=>(∀q∈E.take i,n∉q.2)/\∃g k,X=[oR h,oS n,g,k]/\t=f) (λi X t ⟨_,_,_,_,z⟩=>by rw[z];exact C9 f2) ?_ (λX t ⟨Y,g,k,z1,z2⟩=>⟨g,k,?_⟩) fuel 0 _ _ (by rw[List.length_map,←K];unfold fuel;omega) (Nat.zero_le _) ⟨by simp,_,_,rfl,rfl⟩
  .rintro i d X t M ⟨Y,g,k,rfl,rfl⟩
   rw[List.getElem?_map]at M;obtain⟨Z,b0,rfl⟩:=Option.map_eq_some_iff.mp M;obtain⟨⟨m,r⟩,hi,hk,j,C,_,N⟩:=aG.get (R:=λ(Z:Key×D) (p:Str×List Str)=>Z.1=.inr p.1/\∃j,Z.2=.ref j/\P j/\t[j]?=some (.lst (p.2.map .str))) s b0
   have O:Mo Z=.tup [.str m,.ref j]:=by
    unfold Mo;rw[hk,C];rfl
   rw[O];refine⟨[oR h,oS n,oS m,oR j],rfl,?_⟩;rw[GG hm N];have tk:E.take (i+1)=E.take i++[(m,r)]:=by rw[List.take_add_one,hi];rfl
   by_cases hr:n∈r
   .rw[if_pos hr]
    refine⟨g,k,?_⟩
    have:E.find? (λq=>decide (n∈q.2))=some (m,r):=by
     have c0:E=E.take i++(m,r)::E.drop (i+1):=by
      obtain⟨h0,hg⟩:=List.getElem?_eq_some_iff.mp hi;rw[←hg,List.getElem_cons_drop,List.take_append_drop]
     rw[c0,List.find?_append,List.find?_eq_none.mpr (λq hq=>by simpa using Y q hq)]
     simp[hr]
    rw[this]
   .rw[if_neg hr]
    refine⟨λq hq=>?_,_,_,rfl,rfl⟩
    rw[tk]at hq;rcases List.mem_append.mp hq with hq|hq
    .exact Y q hq
    .rw[List.mem_singleton.mp hq];exact hr
  .have:E.find? (λq=>decide (n∈q.2))=none:=by
    rw[List.find?_eq_none];intro q hq;have:=Y q (by rw[List.length_map,←K,List.take_length];exact hq)
    simpa using this
   rw[this,z1,z2]
 obtain⟨g,k,y⟩:=y;refine⟨λd0=>?_,λq hq=>⟨c,b,K1,u,?_⟩⟩
 .have hf:E.find? (λq=>decide (n∈q.2))=none:=List.find?_eq_none.mpr λq hq=>by simpa using d0 q hq
  rw[hf]at y
  have y:nv (dS [2,3]) (hY fe) (Km ms) [oR h,oS n,none,none] b=.nx [oR h,oS n,g,k] b:=by
   unfold nv;rw[y]
   show ff.nx _ (cp b (b.set e (.dF c)))=_
   rw[zD u]
  obtain⟨j1,v1,_,_⟩:=J.at hn;have p1:=Ej u v1;have f0:h≠e:=λz=>by rw[z,u]at B;cases B
  have g0:h≠l:=λz=>by rw[z,h4]at B;cases B
  have r1:(cF (dm oO gp fe (ae (aa 1) ah))) [oR h,oS n,g,k] b=.nx [oR h,oS n,g,k] (b.set e (.dK (dZ c (.inr n)))):=by
   rw[bQ,dY (m:=.ref e) (η:=b) (by show((dH ["House"] "elders" (.ref h) b))=_;exact iX B) (zE u)]
   show bu (gp (.ref e) [.str n] b) _=_
   rw[p1];rfl
  have x:af [e] b (b.set e (.dK (dZ c (.inr n)))):=af.set (by simp)
  have g2:(b.set e (.dK (dZ c (.inr n))))[e]?=some (.dK (dZ c (.inr n))):=aK u;have F:∀j∈[e],∀G,b[j]?≠some (.lst G):=λj C G=>by rw[List.mem_singleton.mp C,u];simp
  have Q:=x.get _ _ B (by simpa using f0)
  have w:=x.get _ _ h4 (by simpa using Ne.symm I)
  have s:=(J.drop (n:=n)).bY x F;have S:=h5.bY x F;clear s f2;have s:=(J.drop (n:=n)).bY x F;generalize b.set e (.dK (dZ c (.inr n)))=f at *;obtain⟨j2,v2,_,_⟩:=S.at (n:=n) (by rw[az];exact hn)
  have p2:=Ej w v2
  have r2:(cF (dm oO gp Hn (ae (aa 1) ah))) [oR h,oS n,g,k] f=.nx [oR h,oS n,g,k] (f.set l (.dK (dZ o (.inr n)))):=by
   rw[bQ,dY (m:=.ref l) (η:=f) (by show((dH ["House"] "lines" (.ref h) f))=_;exact ug Q) (zE w)]
   show bu (gp (.ref l) [.str n] f) _=_
   rw[p2];rfl
  have T:af [l] f (f.set l (.dK (dZ o (.inr n)))):=af.set (by simp)
  have g3:(f.set l (.dK (dZ o (.inr n))))[l]?=some (.dK (dZ o (.inr n))):=aK w;have U:∀j∈[l],∀G,f[j]?≠some (.lst G):=λj C G=>by rw[List.mem_singleton.mp C,w];simp
  have V:=(S.drop (n:=n)).bY T U;rw[lN,←sJ]at V;refine⟨f.set l (.dK (dZ o (.inr n))),?_,⟨_,_,T.get _ _ Q (by simpa using g0),T.get _ _ g2 (by simpa using I),s.bY T U,g3,V⟩,(K1.sub (by simp)).trans ((x.sub (by simp)).trans (T.sub (by simp)))⟩
  unfold Kn;rw[ag,bQ,em,cM,aD,ag,y,aD,ag,r1,aD,ag,r2];rfl
 .rw[hq]at y
  unfold Kn;rw[ag,bQ,em,cM,aD,ag]
  have:nv (dS [2,3]) (hY fe) (Km ms) [oR h,oS n,none,none] b=.exc (hrd n q.1) (b.set e (.dF c)):=by
   unfold nv;rw[y];rfl
  rw[this];rfl
theorem kD(h:η[b]?=some B3)(c:∀kvs,B3≠.dF kvs):(cp a η)[b]?=some B3:=by
 unfold cp;rw[List.getElem?_mapIdx,h];cases B3<;>first|rfl|simp_all
theorem zM(K:af J a η):af J a (cp a η):=⟨by unfold cp;rw[List.length_mapIdx];exact K.len,λk c b d=>by
 unfold cp;rw[List.getElem?_mapIdx,K.get k c b d,b];cases c<;>rfl⟩
theorem aE.Mw(h:aE ξ η R Z):aE ξ (cp a η) R Z:=aG.imp (λ_ _ ⟨e,j,b,c,d⟩=>⟨e,j,b,c,kD d (λ_ z=>nomatch z)⟩) h
theorem eT.Mw{a ax:aJ}{h e l:Nat}{E:eP}{L:Str->List Str}{P:Nat->Prop}(H:eT P ax h e l E L):eT P (cp a ax) h e l E L:=by
 obtain⟨b,c,d,f,g,i,j⟩:=H;exact⟨_,_,kD d (λ_ z=>nomatch z),kD f (λ_ z=>nomatch z),g.Mw,kD i (λ_ z=>nomatch z),j.Mw⟩
def vR(c:a_):Prop:=∀(b:aJ) (h e l:Nat) (E:eP) (L:Str->List Str) (P:Nat->Prop) (n:Str),eT P b h e l E L->n∈nms E->E.length<=1000->(∀q∈E,q.2.length<=1000)->e≠l ->
 ((∀q∈E,n∉q.2)->∃a,c [.ref h,.str n] b=.ok .non a/\eT P a h e l (E.filter λq=>decide (q.1≠n)) L/\af [e,l] b a) /\
 (∀q,E.find? (λq=>decide (n∈q.2))=some q->∃a,c [.ref h,.str n] b=.ok (.tup [.str n,.str q.1]) a/\af [] b a)
theorem Kp(C:OO L):vR (fL (bT 4 2 (Mv "House" "drop" L "Heired" "name" "heir"))):=by
 intro b h e l E i P n H F G I p;obtain⟨J,K⟩:=C b h e l E i P n H F G I p;obtain⟨s,M,N,t,Z,h4,h5⟩:=H
 have em:∀f:bp,f[0]?=some (oR h)->f[1]?=some (oS n)->lO "House" "drop" L (aa 0) (ae (aa 1) ah) f b=L [.ref h,.str n] b:=λf O e2=>by
  have Q:aa 0 f b=.ok (.ref h) b:=by simp only[aa,O]
  have R:(ae (aa 1) ah) f b=.ok [.str n] b:=by
   simp_all
  unfold lO;rw[Q]
  show(match mr b (.ref h)with|some (_,S,T)=>if S=("House":Str)/\T.lookup ("drop":Str)=none then ((ae (aa 1) ah) f b).bind λU u=>L (.ref h::U) u else .bad|none=>.bad)=_
  rw[ky N]
  show(if ("House":Str)="House"/\_ then _ else _)=_
  rw[if_pos ⟨rfl,rfl⟩,R];rfl
 have A:∀{r:ay D},L [.ref h,.str n] b=r->bT 4 2 (Mv "House" "drop" L "Heired" "name" "heir") [.ref h,.str n] b=gR (sq (jO (λf _=>bu r λd a=>.nx (f.set 2 (some d)) a) "Heired" "name" "heir" _ 3 [oR h,oS n,some .non,none] b) (ak (bS (aa 2)) ao)):=λ{r} hr=>by
  rw[bj (by rfl)]
  show gR (sq (jO _ "Heired" "name" "heir" _ 3 [oR h,oS n,some .non,none] b) (ak (bS (aa 2)) ao))=_
  have:aF 2 (lO "House" "drop" L (aa 0) (ae (aa 1) ah)) [oR h,oS n,some .non,none] b=bu r λd a=>.nx (([oR h,oS n,some .non,none]:bp).set 2 (some d)) a:=by
   simp_all
  unfold jO;rw[this]
 refine⟨λw=>?_,λq V=>?_⟩
 .obtain⟨x,X,m,y⟩:=J w
  refine⟨cp b x,?_,m.Mw,zM y⟩;unfold fL;rw[A X];rfl
 .obtain⟨g,a,z,m,y⟩:=K q V
  refine⟨cp b (a.set e (.dF g)),?_,?_⟩
  .unfold fL
   rw[A y]
   have:jO (λf _=>bu (ay.exc (hrd n q.1) (a.set e (.dF g))) λd a=>.nx (f.set 2 (some d)) a) "Heired" "name" "heir" (λd Y=>aF 2 (λ_ b=>.ok (.tup [d,Y]) b)) 3 [oR h,oS n,some .non,none] b=.nx [oR h,oS n,some (.tup [.str n,.str q.1]),none] (a.set e (.dF g)):=by
    rfl
   rw[this];rfl
  .have B:a[e]?=some (.dK s):=z.get _ _ t (by simp)
   rw[B]at m;cases m;refine⟨by unfold cp;rw[List.length_mapIdx,List.length_set];exact z.len,λk c o _=>?_⟩
   unfold cp;rw[List.getElem?_mapIdx]
   by_cases j:k=e
   .subst j
    rw[o]at t;cases t;rw[List.getElem?_set_self (List.getElem?_eq_some_iff.mp B).1,Option.map_some,o];rfl
   .rw[List.getElem?_set_ne (Ne.symm j),z.get k c o (by simp),Option.map_some,o]
    cases c<;>rfl
def Ds:EM:=(m2 (aH .In) (aa 2) (m2 aM (aa 1) (aa 0)))
theorem zN(k:A1 B a=.ok (.seq (.ref b)) a)(c:dn J B=[oR t,oS d])(l:a[b]?=some (.lst (Y.map .str)))(n:cy a t R)(o:aE ξ a R (aP g Q))(f:∀y∈Y,y∈g)(q:Y.length<=1000):
  bC (aa 0) false Ds A1 0 J B a=.ok (.ref a.length) (a++[.lst ((Y.filter λy=>decide (d∈Q y)).map .str)]):=by
 have r:=cu (s:=aa 0) (ζ:=Ds) (y:=false) (F7:=λt=>match t with|.str m=>decide (d∈Q m)|_=>false) k (by rw[cg,aI,aA l]) (λu e=>by
  obtain⟨m,h,rfl⟩:=List.mem_map.mp e;obtain⟨j,p,_,i⟩:=o.at (by rw[az];exact f m h)
  rw[aS (f m h)]at i;rw[c]
  show bZ ((aM _ _ a).bind _)=_
  rw[d4 n p,aw];rw[ic i];rfl) (λt _ _=>rfl) (by simp;omega)
 have w:((Y.map D.str).filter (λt=>match t with|.str m=>decide (d∈Q m)|_=>false)).map (λt=>t)=(Y.filter λm=>decide (d∈Q m)).map .str:=by
  rw[List.map_id',List.filter_map];rfl
 grind
def Mx:SM:=
 (ak (aF 3 (bC (aa 0) false Ds (bf (aa 0)) 0 [1,2]))
 (ak (dR (m2 (aH .Eq) (aa 3) (mN bh ah))
 (ak (bS (ai .non))
 ao)
 ao)
 (ak (bS (mN jU (ae (aa 2) (ae (m2 aM (aa 3) (ai (.int 0))) ah))))
 ao)))
noncomputable def j9(a:List Str)(R:Str->List Str)(n:Str):D:=match a.find? (λy=>decide (n∈R y))with
 |none=>.non
 |some y=>.tup [.str n,.str y]
def vS(g:a_):Prop:=∀(a:aJ) (o d:Nat) (b:List (Key×D)) (f e:List Str) (R:Str->List Str) (n:Str),a[o]?=some (.lst (e.map .str))->cy a d b->aE Tr a b (aP f R)->(∀y∈e,y∈f)->e.length<=1000->∃c,g [.ref o,.ref d,.str n] a=.ok (j9 e R n) c/\af [] a c
theorem Kq:vS (bT 4 3 Mx):=by
 intro b o d h A c R n f i j l m;rw[bj (by rfl)]
 have p:a7 4 [D.ref o,.ref d,.str n]=[oR o,oR d,oS n,none]:=rfl;rw[p];have q:=zN (B:=[oR o,oR d,oS n,none]) (J:=[1,2]) (A1:=bf (aa 0)) (by exact aU (by rw[aI,aA f])) rfl f i j l m
 have e:(b++[Cell.lst ((c.filter λy=>decide (n∈R y)).map .str)])[b.length]?=some _:=aq
 have g:af [] b (b++[Cell.lst ((c.filter λy=>decide (n∈R y)).map .str)]):=af.app
 generalize C:b.length=k at *;generalize b++[Cell.lst _]=a at *;have s:(a++[Cell.lst (([]).map .str)])[a.length]?=some _:=aq;have t:=pa (cS e) s;have u:(m2 (aH .Eq) (aa 3) (mN bh ah)) [oR o,oR d,oS n,oR k] _=.ok _ _:=t;unfold Mx;rw[ag,cb,q]
 show ∃w,gR (sq (.nx [oR o,oR d,oS n,oR k] _) _)=_/\_
 rw[aD,ag,bU,u];unfold j9;rw[((List.head?_filter ..).symm)];cases x:c.filter _ with
 |nil=>exact⟨_,rfl,g.trans af.app⟩
 |cons y r=>
  rw[x]at e;refine⟨a++[Cell.lst (([]).map .str)],?_,g.trans af.app⟩
  have z:(m2 aM (aa 3) (ai (.int 0))) [oR o,oR d,oS n,oR k] (a++[Cell.lst (([]).map .str)])=.ok (.str y) (a++[Cell.lst (([]).map .str)]):=by
   have:=cq (P:=((0))) (cS (η:=[Cell.lst (([]).map .str)]) e) (L2.cJ rfl);exact this
  show gR (sq (bu (mN _ _ _ _) _) _)=_
  show gR (sq (bu (((((ae _ _) _ _)).bind _).bind _) _) _)=_
  rw[a6,z];rfl
abbrev rF:SM:=(ak (bS (ai (.bl false))) ao)
def OP(a:a_):EM:=(m2 (aH .NotEq) (aZ "House" "heirs" a (aa 0) (ae (aa 4) ah)) (bC (aa 0) false Ds (bf (aa 1)) 0 [3,4]))
def OQ(a b:a_):EM:=(Fq (m2 (aH .NotEq) (aZ "House" "line" a (aa 0) (ae (aa 4) ah)) (m2 aM (aa 3) (aa 4))) (m2 (aH .NotEq) (aZ "House" "elders_of" b (aa 0) (ae (aa 4) ah)) (m2 aM (aa 2) (aa 4))))
def My(a b c d:a_):SM:=
 (ak (dR (m2 (aH .NotEq) (aZ "House" "kinds" a (aa 0) ah) (aa 1)) rF ao)
 (ak (dw (cV 4) (bf (aa 1)) (ak (dR (OP b) rF ao) ao))
 (ak (dw (cV 4) (bf (aa 1)) (ak (dR (OQ c d) rF ao) ao))
 (ak (bS (ai (.bl true)))
 ao))))
theorem zO(l:a[t]?=some (.lst (g.map .str)))(w:g.length<=1000)(o:∀n∈g,∀h,af [] a h->∃c,s [oR b,oR t,oR υ,oR W1,oS n] h=.ok (.bl false) c/\af [] h c)(d:Option D):
  ∃f c,dw (cV 4) (bf (aa 1)) (ak (dR s rF ao) ao) [oR b,oR t,oR υ,oR W1,d] a=.nx [oR b,oR t,oR υ,oR W1,f] c/\af [] a c:=by
 have k:bf (aa 1) [oR b,oR t,oR υ,oR W1,d] a=.ok (.seq (.ref t)) a:=by exact aU (by rw[aI,aA l])
 rw[cR,k,cM];refine bX (R:=λr=>∃f c,r=.nx [oR b,oR t,oR υ,oR W1,f] c/\af [] a c) (λi j e=>∃f,j=[oR b,oR t,oR υ,oR W1,f]/\af [] a e) (λi j e ⟨_,_,K⟩=>by rw[cg,aI,aA (K.get _ _ l (by simp))]) ?_ (λj e ⟨f,z,K⟩=>⟨f,_,by rw[z],K⟩) _ 0 _ _ (by rw[List.length_map];unfold fuel;omega) (Nat.zero_le _) ⟨d,rfl,af.refl⟩
 rintro i x j e m ⟨f,rfl,K⟩;rw[List.getElem?_map]at m;obtain⟨n,y,rfl⟩:=Option.map_eq_some_iff.mp m;refine⟨[oR b,oR t,oR υ,oR W1,oS n],rfl,?_⟩;obtain⟨p,q,u⟩:=o n (by grind) _ K
 rw[ag,bU,q];exact⟨_,rfl,K.trans u⟩
def sN(i:a_):Prop:=∀(a:aJ) (h o d l:Nat) (b c:List (Key×D)) (g f:List Str) (R L:Str->List Str),cC Tr a h (aP f R) L->a[o]?=some (.lst (f.map .str))->cy a d b->aE Tr a b (aP g R)->cy a l c->aE Tr a c (aP g L)->(∀y∈f,y∈g)->f.length<=1000 ->
 ∃e,i [.ref h,.ref o,.ref d,.ref l] a=.ok (.bl true) e/\af [] a e
theorem Kr(hK:qQ L)(hH:OK Q3)(hN:Ga L5)(hO:GD m6):sN (bT 5 4 (My L Q3 L5 m6)):=by
 intro K h o d l a0 b0 xs S R a H F hd hr q r t M;rw[bj (by rfl)]
 have e0:a7 5 [D.ref h,.ref o,.ref d,.ref l]=[oR h,oR o,oR d,oR l,none]:=rfl;rw[e0];obtain⟨k,u,e1,T,G,_⟩:=hK K h _ a Tr H;rw[az]at T
 have m1:aZ "House" "kinds" L (aa 0) ah [oR h,oR o,oR d,oR l,none] K=.ok (.ref k) u:=by
  rw[b9 H rfl (by decide)]
  simp_all
 have U:=gH T (G.get _ _ F (by simp))
 rw[decide_eq_true rfl]at U
 have t1:(m2 (aH .NotEq) (aZ "House" "kinds" L (aa 0) ah) (aa 1)) [oR h,oR o,oR d,oR l,none] K=.ok (.bl false) u:=by
  rw[dh,m1,aw];exact U
 obtain⟨N,c0,r2,K2⟩:=zO (s:=OP Q3) (b:=h) (υ:=d) (W1:=l) (G.get _ _ F (by simp)) M (λn m f w=>by
  have g:=G.trans w;obtain⟨O,c,e4,I,x,_⟩:=hH f h _ a Tr n (H.keep g) (by rw[az];exact m) (by simp[aP];omega)
  rw[az]at I;have e:=g.trans x
  have P:aZ "House" "heirs" Q3 (aa 0) (ae (aa 4) ah) [oR h,oR o,oR d,oR l,oS n] f=.ok (.ref O) c:=by
   rw[b9 (H.keep g) rfl (by decide)]
   simp_all
  have z:=e.get _ _ F (by simp)
  have f4:=zN (B:=[oR h,oR o,oR d,oR l,oS n]) (J:=[3,4]) (A1:=bf (aa 1)) (d:=n) (by rw[cf];exact aU (by rw[aI,aA z])) rfl z (q.keep e (by simp)) (r.keep e (by simp)) t M
  have A:=gH (cS (η:=[Cell.lst ((S.filter λy=>decide (n∈a y)).map .str)]) I) aq
  rw[decide_eq_true rfl]at A;refine⟨c++[Cell.lst ((S.filter λy=>decide (n∈a y)).map .str)],?_,x.trans af.app⟩
  unfold OP;rw[dh,P,aw,f4,aw];exact A) none
 have p:=G.trans K2
 obtain⟨a3,f,r3,w⟩:=zO (s:=OQ L5 m6) (b:=h) (υ:=d) (W1:=l) (p.get _ _ F (by simp)) M (λn m f w=>by
  have g:=p.trans w;have V:=H.keep g;obtain⟨O,c,e4,I,x,_⟩:=hN f h _ a Tr n V (by rw[az];exact m)
  have e:=g.trans x;obtain⟨j,hv,_,X⟩:=(r.keep e (by simp)).at (n:=n) (by rw[az];exact t n m)
  rw[aS (t n m)]at X
  have P:aZ "House" "line" L5 (aa 0) (ae (aa 4) ah) [oR h,oR o,oR d,oR l,oS n] f=.ok (.ref O) c:=by
   rw[b9 V rfl (by decide)]
   simp_all
  have i4:(m2 aM (aa 3) (aa 4)) [oR h,oR o,oR d,oR l,oS n] c=.ok (.ref j) c:=d4 (q.keep e (by simp)) hv
  have A:=gH I X;rw[decide_eq_true rfl]at A;obtain⟨k5,i,e5,Y,Z,_⟩:=hO c h _ a Tr n (H.keep e) (by rw[az];exact m)
  rw[aS m]at Y;have C:=e.trans Z
  have m5:aZ "House" "elders_of" m6 (aa 0) (ae (aa 4) ah) [oR h,oR o,oR d,oR l,oS n] c=.ok (.ref k5) i:=by
   rw[b9 (H.keep e) rfl (by decide)]
   simp_all
  obtain⟨j5,Q,_,E⟩:=(hr.keep C (by simp)).at (n:=n) (by rw[az];exact t n m)
  rw[aS (t n m)]at E;have i5:(m2 aM (aa 2) (aa 4)) [oR h,oR o,oR d,oR l,oS n] i=.ok (.ref j5) i:=d4 (hd.keep C (by simp)) Q
  have c5:=gH Y E;rw[decide_eq_true rfl]at c5;refine⟨i,?_,x.trans Z⟩
  have a1:(m2 (aH .NotEq) (aZ "House" "line" L5 (aa 0) (ae (aa 4) ah)) (m2 aM (aa 3) (aa 4))) [oR h,oR o,oR d,oR l,oS n] f=.ok (.bl false) c:=by
   rw[dh,P,aw,i4,aw,A];rfl
  have N:(m2 (aH .NotEq) (aZ "House" "elders_of" m6 (aa 0) (ae (aa 4) ah)) (m2 aM (aa 2) (aa 4))) [oR h,oR o,oR d,oR l,oS n] c=.ok (.bl false) i:=by
   rw[dh,m5,aw,i5,aw,c5];rfl
  unfold OQ;rw[FE,a1,aw,dN,Ji,N]) N
 refine⟨f,?_,p.trans w⟩;unfold My;rw[ag,bU,t1]
 simp_all
theorem qZ(c:a[b]?=some (.lst (g.map .str)))(e:t<=g.length)(f:g.length<=1000):cQ (.ref b) [.int t,.str d] a=.ok .non (a.set b (.lst ((dI g t d).map .str))):=by
 simp only[cQ,fE c];rw[if_pos,ui (by simp_all)]
 .simp[dI]
 .rw[aT (by simp;omega),ed (by omega) (by omega)];rfl
theorem Dt:Mg (([]:List Str).map Q++[[]]) []:=.done (by simp)
theorem eT.ix(H:eT ξ a t b υ Z Q):∃c,a[t]?=some (.ins "House" c):=by
 obtain⟨_,_,q,_⟩:=H;exact⟨_,q⟩
theorem eT.dl(H:eT ξ a t b υ Z Q):(∃e,a[b]?=some (.dK e))/\(∃f,a[υ]?=some (.dK f))/\b<a.length/\υ<a.length/\t<a.length:=by
 obtain⟨_,_,g,c,_,d,_⟩:=H;exact⟨⟨_,c⟩,⟨_,d⟩,bc c,bc d,bc g⟩
def Mz(C:List D->Out Rs):EM:=(m2 aM (mN bh (ae (ai (.int 4)) (ae (ai (.int 5)) (ae (ai (.int 6)) (ae (ai (.int 7)) (ae (ai (.int 4)) (ae (ai (.int 5)) (ae (ai (.int 6)) (ae (ai (.int 7)) (ae (ai (.int 1)) (ae (ai (.int 2)) (ae (ai (.int 3)) (ae (ai (.int 7)) ah))))))))))))) (m2 (aY .Mod) (mN (bF C) (ae (aa 0) (ae (ai (.int 0)) ah))) (ai (.int 12))))
theorem GH(c:eS W4 y1)(l:B[0]?=some (some (SC N2))):∃(m:Nat) (ax:aJ),1<=m/\m<=7/\Mz y1 B a=.ok (.int m) ax:=by
 have o:y1 [SC N2,.int 0]=.ok _:=c N2 0;have g:∀b,(m2 (aY .Mod) (mN (bF y1) (ae (aa 0) (ae (ai (.int 0)) ah))) (ai (.int 12))) B b=.ok (.int (W4 N2 0%12)) b:=λb=>by simp_all
 obtain⟨s,h⟩:∃s:Nat,W4 N2 0%12=s:=⟨(W4 N2 0%12).toNat,by omega⟩
 obtain⟨m,d,e,i⟩:∃m:Nat,1<=m/\m<=7/\([4,5,6,7,4,5,6,7,1,2,3,7])[s]?=some m:=by
  have j:s<([4,5,6,7,4,5,6,7,1,2,3,7]).length:=by simp;omega
  have f:∀m∈([4,5,6,7,4,5,6,7,1,2,3,7]),1<=m/\m<=7:=by decide
  have:=f _ (List.getElem_mem j);exact⟨_,this.1,this.2,by simp⟩
 refine⟨m,a++[.lst (([4,5,6,7,4,5,6,7,1,2,3,7]).map λn:Nat=>.int n)],d,e,?_⟩
 unfold Mz;have k:(mN bh (ae (ai (.int 4)) (ae (ai (.int 5)) (ae (ai (.int 6)) (ae (ai (.int 7)) (ae (ai (.int 4)) (ae (ai (.int 5)) (ae (ai (.int 6)) (ae (ai (.int 7)) (ae (ai (.int 1)) (ae (ai (.int 2)) (ae (ai (.int 3)) (ae (ai (.int 7)) ah))))))))))))) B a=.ok _ (a++[.lst (([4,5,6,7,4,5,6,7,1,2,3,7]).map λn:Nat=>.int n)]):=rfl
 rw[dh,k,aw,g,h];exact cq aq (L2.cJ (by rw[List.getElem?_map,i];rfl))
theorem uw(h:Q d=g):sI Q d g=Q:=by
 funext y
 unfold sI
 simp_all
theorem zP(n:Mi L)(H:cC ξ a t (aP E4 y0) Q)(G:ij E4 y0 Q)(o:a[b]?=some (.lst (g.map .str)))(p:vI d)(i:d∉E4)(u:E4.length<12)(q:g.Nodup)(f:g.length<=5)(h:∀x∈g,x∈E4)(M:Mg (g.map Q++[g]) Y)(r:Y.length<900)(w:υ<=E4.length)(y:m=.int υ\/m=.non/\υ=E4.length)(s:∀j,a.length<=j->ξ j):
  ij (dI E4 υ d) (sI y0 d g) (sI Q d (d::Y))/\∃e l ax,L [.ref t,.str d,.ref b,m] a=.ok .non ax/\eT ξ ax t e l (aP (dI E4 υ d) (sI y0 d g)) (sI Q d (d::Y))/\af [t] a ax/\a.length<=e/\e<l:=by
 have c:ij (dI E4 υ d) _ _:=G.more i h (by omega) (by omega) M r
 have k:(aP E4 y0).length=E4.length:=by simp[aP]
 refine⟨c,?_⟩;have:=n a t b _ Q (sI Q d (d::Y)) ξ d g υ m H o p (by rwa[az]) (by omega) q f (by rwa[az]) (by omega) (by simp_all)
 rw[Dh i]at this;exact this c.gd c.Dg (by rw[az];exact c.sh) s
def Du(d:a_):Prop:=Mi d/\∀a b c e,d [a,b,c] e=.bad
def Em(a:a_)(h:Nat)(b:AM):EM:=mj (aZ "House" "add" a (aa h) b) (aZ "House" "add" (λc=>a (c++[.non])) (aa h) b)
theorem Dv(f:Du L)(H:cC ξ a t (aP g y0) Q)(e:B[υ]?=some (oR t))(h:d0 B a=.ok [.str d,.ref b] η)(c:L [.ref t,.str d,.ref b,.non] η=.ok .non A6):Em L υ d0 B a=.ok .non A6:=by
 unfold Em;rw[t6,b9 H e (by decide),b9 H e (by decide),h,aw]
 show i9 _ (nr (L [.ref t,.str d,.ref b,.non] _))=_
 rw[f.2,c];rfl
theorem nG(H:cC ξ a t (aP g y0) Q)(e:B[υ]?=some (oR t))(f:d0 B a=.ok [.str d,.ref b,m] η)(c:L [.ref t,.str d,.ref b,m] η=.ok .non A6):Em L υ d0 B a=.ok .non A6:=by
 unfold Em;rw[t6,b9 H e (by decide),b9 H e (by decide),f,aw]
 simp_all
abbrev AE(a:List Int)(x d h o:Nat)(b c e f:Option D):bp:=[some (SC a),oR x,oR d,oR h,oR o,b,c,e,f]
def En:EM:=(mN (a8 .list) (ae (m2 aM (aa 2) (aa 6)) ah))
def OR(F:List D->Out Rs)(a:a_):SM:=
 (dR (m2 (aH .Eq) (mN (bF F) (ae (aa 7) (ae (ai (.int 1)) (ae (ai (.int 3)) ah)))) (ai (.int 0)))
 (ak (cF (Em a 3 (ae (aa 6) (ae En ah))))
 (ak (aF 8 (aa 5))
 ao))
 (ak (dR (m2 (aH .Eq) (mN (bF F) (ae (aa 7) (ae (ai (.int 1)) (ae (ai (.int 3)) ah)))) (ai (.int 1)))
 (ak (cF (Em a 3 (ae (aa 6) (ae En (ae (aa 8) ah)))))
 ao)
 (ak (cF (aZ "House" "add" a (aa 3) (nu (ae (aa 6) (ae En ah)) (aa 8))))
 ao))
 ao))
def Dw(F C:List D->Out Rs)(a b:a_):SM:=
 (ak (aF 7 (mN (bF C) (ae (aa 0) (ae (m2 (aY .Add) (ai (.int 20)) (aa 5)) ah))))
 (ak (aF 8 (mN (bF F) (ae (aa 7) (ae (ai (.int 0)) (ae (m2 (aY .Add) (aa 5) (ai (.int 1))) ah)))))
 (ak (OR F a)
 (ak (cF (dm lP cQ (aa 4) (ae (aa 8) (ae (aa 6) ah))))
 (ak (dR (m2 (aH .NotEq) (aZ "House" "kinds" b (aa 3) ah) (aa 4))
 (ak (bS (ai .non))
 ao)
 ao)
 ao)))))
variable{D4:Nat}
theorem GI{Ks:Nat}{P':Nat->Prop}(r:et y3 y1)(A:Du L)(H:cC ξ a b (aP E4 y0) Q)(G:ij E4 y0 Q)(O:cy a υ R)(S:aE P' a R (aP Y y0))(B:d∈Y)(T:d∉E4)(U:vI d)(V:E4.length=W1)(hi:W1<12)(s:(y0 d).Nodup)(u:(y0 d).length<=5)(w:∀D4∈y0 d,D4∈E4)(M:Mg ((y0 d).map Q++[y0 d]) g)(X:Q d=d::g)(x:g.length<900)(C:E3<=W1)(Z:∀j,a.length<=j->ξ j):
  ∃c e l ax,c<=W1/\OR y1 L (AE N2 D4 υ b t (oI W1) (oS d) (some (.int P)) (oI E3)) a=.nx (AE N2 D4 υ b t (oI W1) (oS d) (some (.int P)) (oI c)) ax/\ij (dI E4 c d) y0 Q/\eT ξ ax b e l (aP (dI E4 c d) y0) Q/\af [b] a ax/\a.length<=e/\e<l:=by
 obtain⟨j,y,_,z⟩:=S.at (n:=d) (by rw[az];exact B)
 rw[aS B]at z
 have eR:En (AE N2 D4 υ b t (oI W1) (oS d) (some (.int P)) (oI E3)) a=.ok (.ref a.length) (a++[.lst ((y0 d).map .str)]):=by
  unfold En;rw[dX,a6]
  show((((aM (.ref υ) (.str d) a).bind _)).bind _)=_
  rw[d4 O y,aw];exact cw z
 have g1:(a++[Cell.lst ((y0 d).map .str)])[a.length]?=some (.lst ((y0 d).map .str)):=aq;have E:af [] a (a++[Cell.lst ((y0 d).map .str)]):=af.app;have l1:(a++[Cell.lst ((y0 d).map .str)]).length=a.length+1:=by simp
 generalize a++[Cell.lst ((y0 d).map .str)]=i at *
 have m:∀(c:Nat) (v:D),c<=W1->(v=.int c\/v=.non/\c=E4.length)->∃e l ax,L _ i=.ok .non ax/\ij (dI E4 c d) y0 Q/\eT ξ ax b e l (aP (dI E4 c d) y0) Q/\af [b] a ax/\a.length<=e/\e<l:=λc v h1 h2=>by
  obtain⟨f,e,l,ax,o,h,K2,q,p⟩:=zP (υ:=c) (Y:=g) A.1 (H.keep E) G g1 U T (by omega) s u w M x (by omega) h2 (λj z=>Z j (by omega))
  rw[uw rfl,uw X]at h f;exact⟨e,l,ax,o,f,h,(E.sub (by simp)).trans K2,by omega,p⟩
 obtain⟨t0,t1,ht⟩:=r P 1 3 (by omega) (by omega) (by omega)
 have F:∀k:Int,(m2 (aH .Eq) (mN (bF y1) (ae (aa 7) (ae (ai (.int 1)) (ae (ai (.int 3)) ah)))) (ai (.int k))) (AE N2 D4 υ b t (oI W1) (oS d) (some (.int P)) (oI E3)) a=.ok (.bl (decide (y3 P 1 3=k))) a:=λk=>by
  simp[AE,ht]
  grind
 have I:(ae (aa 6) (ae En ah)) (AE N2 D4 υ b t (oI W1) (oS d) (some (.int P)) (oI E3)) a=.ok [.str d,.ref a.length] i:=by
  simp_all
 unfold OR;rw[bU,F 0]
 by_cases J:y3 P 1 3=0
 .obtain⟨e,l,ax,o,f,h,K,q,p⟩:=m W1 .non (Nat.le_refl _) (.inr ⟨rfl,V.symm⟩)
  refine⟨W1,e,l,ax,Nat.le_refl _,?_,f,h,K,q,p⟩;rw[decide_eq_true J]
  show(ak _ (ak (aF 8 (aa 5)) ao)) _ a=_
  rw[ag,bQ,Dv A H rfl I o];rfl
 .obtain⟨e,l,ax,o,f,h,K,q,p⟩:=m E3 (.int E3) C (.inl rfl)
  refine⟨E3,e,l,ax,C,?_,f,h,K,q,p⟩;rw[decide_eq_false J]
  show(ak _ ao) _ a=_
  rw[ag,bU,F 1]
  by_cases N:y3 P 1 3=1
  .rw[decide_eq_true N]
   show sq ((ak _ ao) _ a) _=_
   rw[ag,bQ,nG H rfl (by
  rw[a6]
  show(((ae En (ae (aa 8) ah)) (AE N2 D4 υ b t (oI W1) (oS d) (some (.int P)) (oI E3)) a).bind _)=_
  rw[a6,eR]
  rfl) o]
   rfl
  .rw[decide_eq_false N]
   have m3:aZ "House" "add" L (aa 3) (nu (ae (aa 6) (ae En ah)) (aa 8)) (AE N2 D4 υ b t (oI W1) (oS d) (some (.int P)) (oI E3)) a=.ok .non ax:=by
    rw[b9 H rfl (by decide)]
    unfold nu;rw[I]
    simp_all
   simp_all
variable{u7:Nat}
theorem GJ(i:et y3 y1)(q:eS W4 E5)(K:Du L)(N:qQ Q3)(H:eT (λj=>j≠t) a b D4 u7 (aP E4 y0) Q)(G:ij E4 y0 Q)(B:a[t]?=some (.lst (E4.map .str)))(O:cy a υ R)(P:aE ξ a R (aP Y y0))(S:d∈Y)(T:d∉E4)(U:vI d)(V:E4.length=W1)(X:W1<12)(r:(y0 d).Nodup)(s:(y0 d).length<=5)(u:∀E3∈y0 d,E3∈E4)(M:Mg ((y0 d).map Q++[y0 d]) g)(Z:Q d=d::g)(w:g.length<900)(x:b≠t):
  ∃c e l y z ax,c<=W1/\Dw y1 E5 L Q3 (AE N2 E3 υ b t (oI W1) (oS d) Ψ u0) a=.nx (AE N2 E3 υ b t (oI W1) (oS d) y z) ax/\ij (dI E4 c d) y0 Q/\eT (λj=>j≠t) ax b e l (aP (dI E4 c d) y0) Q/\ax[t]?=some (.lst ((dI E4 c d).map .str))/\af [b,t] a ax/\a.length<=e/\e<l:=by
 have lo:=bc B;obtain⟨t0,t1,C⟩:=i (W4 N2 (20+W1)) 0 ((W1:Int)+1) (by omega) (by omega) (by omega)
 obtain⟨p,ep⟩:∃p:Nat,(p:Int)=y3 (W4 N2 (20+W1)) 0 ((W1:Int)+1):=⟨(y3 (W4 N2 (20+W1)) 0 ((W1:Int)+1)).toNat,by omega⟩
 rw[←ep]at C
 have r1:aF 7 (mN (bF E5) (ae (aa 0) (ae (m2 (aY .Add) (ai (.int 20)) (aa 5)) ah))) (AE N2 E3 υ b t (oI W1) (oS d) Ψ u0) a=.nx (AE N2 E3 υ b t (oI W1) (oS d) (some (.int (W4 N2 (20+W1)))) u0) a:=by
  simp[AE,(by
  have:=q N2 (20+W1);rwa[show((20+W1:Nat):Int)=20+(W1:Int)by omega]at this)]
 have r2:aF 8 (mN (bF y1) (ae (aa 7) (ae (ai (.int 0)) (ae (m2 (aY .Add) (aa 5) (ai (.int 1))) ah)))) (AE N2 E3 υ b t (oI W1) (oS d) (some (.int (W4 N2 (20+W1)))) u0) a=.nx (AE N2 E3 υ b t (oI W1) (oS d) (some (.int (W4 N2 (20+W1)))) (oI p)) a:=by simp[AE,C]
 obtain⟨c,e,l,f,h1,r3,G',D,E,f1,o1⟩:=GI (E3:=p) (Ks:=0) i K H.at G O P S T U V X r s u M Z w (by omega) (λj hj=>by omega)
 have h:=E.get _ _ B (by simpa using Ne.symm x)
 have m4:(dm lP cQ (aa 4) (ae (aa 8) (ae (aa 6) ah))) (AE N2 E3 υ b t (oI W1) (oS d) (some (.int (W4 N2 (20+W1)))) (oI c)) f=.ok .non (f.set t (.lst ((dI E4 c d).map .str))):=by
  rw[dY rfl (en h)];exact(qZ (d:=d) h (t:=c) (by omega) (by omega))
 have F:af [t] f (f.set t (.lst ((dI E4 c d).map .str))):=af.set (by simp)
 have nn:=D.Ma _ _ h;have A:=D.keep F (by simpa using nn.1) (by simp_all) (by simp_all) (by simp)
 have I:(f.set t (.lst ((dI E4 c d).map .str)))[t]?=some _:=aK h;generalize f.set t _=m at *;obtain⟨k,n,e3,J,o,_⟩:=N m b _ Q _ A.at;rw[az]at J;have c3:=gH J (o.get _ _ I (by simp))
 rw[decide_eq_true rfl]at c3
 have m5:(m2 (aH .NotEq) (aZ "House" "kinds" Q3 (aa 3) ah) (aa 4)) (AE N2 E3 υ b t (oI W1) (oS d) (some (.int (W4 N2 (20+W1)))) (oI c)) m=.ok (.bl false) n:=by
  rw[dh,b9 A.at rfl (by decide)]
  show(((nr _)).bind _)=_
  rwa[e3]
 refine⟨c,e,l,some (.int (W4 N2 (20+W1))),oI c,n,h1,?_,G',A.kp o,o.get _ _ I (by simp),(E.sub (by simp)).trans ((F.sub (by simp)).trans (o.sub (by simp))),f1,o1⟩
 unfold Dw;rw[ag,r1,aD,ag,r2,aD,ag,r3,aD,ag,bQ,m4,cM,aD,ag,bU,m5];rfl
def Dx(F C:List D->Out Rs)(a b c:a_):SM:=
 (ak (aF 3 (mN (lu "House" a) ah))
 (ak (aF 4 (mN bh ah))
 (ak (dw (dS [5,6]) (jV (aa 1)) (Dw F C b c))
 (ak (bS (aa 3))
 ao))))
theorem GK:ij [] y0 Q where
 gd:=(ij.bare (g:=[]) (by simp) (by simp)).gd
 Dg:=λn a=>by cases a
 sh:=λn a=>by cases a
def OS(i:a_):Prop:=∀(a:aJ) (j:List Int) (x d:Nat) (f:List (Key×D)) (c:List Str) (R L:Str->List Str),a[x]?=some (.lst (c.map .str))->cy a d f->aE Tr a f (aP c R)->qV (aP c R) L->c.length<=11->(∀n∈c,vI n) ->
 ∃h e l g b,i [SC j,.ref x,.ref d] a=.ok (.ref h) b/\eT Tr b h e l (aP g R) L/\ij g R L/\g.Perm c/\af [] a b/\a.length<=h/\a.length<=e/\e<l
theorem zQ(U:et y3 y1)(V:eS W4 E5)(hN:JV L)(hA:Du Q3)(hK:qQ L5):OS (bT 9 3 (Dx y1 E5 L Q3 L5)):=by
 intro b s x d f0 E R a hx hd hr G g0 hv;rw[bj (by rfl)]
 have e0:a7 9 [SC s,D.ref x,.ref d]=[some (SC s),oR x,oR d,none,none,none,none,none,none]:=rfl;rw[e0];have X:E.Nodup:=by have:=G.nd;rwa[az]at this
 obtain⟨el,ll,f,e1,H0,K1,f1,o1⟩:=hN b a (λ_=>False)
 have hh:=H0.at.hlt;have K2:af [] f (f++[Cell.lst (([]:List Str).map .str)]):=af.app;have g2:(f++[Cell.lst (([]:List Str).map .str)])[f.length]?=some _:=aq;have r2:aF 4 (mN bh ah) [some (SC s),oR x,oR d,oR b.length,none,none,none,none,none] f=.nx (AE s x d b.length f.length none none none none) (f++[Cell.lst (([]:List Str).map .str)]):=rfl;have t:=K1.trans K2;have Y:=(hr.lt.imp λj hj=>hj.2).keep t (by simp)
 have Z:=hd.keep t (by simp)
 have H:=t.get _ _ hx (by simp)
 have l1:=K1.len;have h0:x<b.length:=bc hx;have i0:d<b.length:=hd.lt;generalize hO:f.length=o at *;generalize f++[Cell.lst (([]:List Str).map .str)]=m at *
 have a0:jV (aa 1) (AE s x d b.length o none none none none) m=.ok (.IY (.ref x)) m:=by
  unfold jV;have:aa 1 (AE s x d b.length o none none none none) m=.ok (.ref x) m:=rfl;rw[this];simp[aA H]
 have lp:∃g e l A B u w p,dw (dS [5,6]) (jV (aa 1)) (Dw y1 E5 Q3 L5) (AE s x d b.length o none none none none) m=.nx (AE s x d b.length o A B u w) p/\g.Perm E/\ij g R a/\eT (λj=>j≠o) p b.length e l (aP g R) a/\af [b.length,o] m p/\b.length<=e/\e<l:=by
  rw[cR,a0,cM]
  refine bX (R:=λr=>∃g e l A B u w p,r=.nx (AE s x d b.length o A B u w) p/\g.Perm E/\ij g R a/\eT (λj=>j≠o) p b.length e l (aP g R) a/\af [b.length,o] m p/\b.length<=e/\e<l) (q:=dq 0 (E.map .str))
   (λi P h=>∃g e l A B u w,P=AE s x d b.length o A B u w/\g.Perm (E.take i)/\ij g R a/\eT (λj=>j≠o) h b.length e l (aP g R) a/\h[o]?=some (.lst (g.map .str))/\af [b.length,o] m h/\b.length<=e/\e<l) ?_ ?_ ?_ fuel 0 _ _ (by rw[fy];unfold fuel;simp;omega) (Nat.zero_le _) ⟨[],el,ll,none,none,none,none,rfl,by simp,GK,((H0.kp K2).imp λ_ z=>z.elim),g2,af.refl,by omega,o1⟩
  .rintro i P h ⟨_,_,_,_,_,_,_,_,_,_,_,_,K,_⟩
   have gk:=K.get _ _ H (by simp;omega)
   simp[eh,aA gk]
  .rintro i d' P h b0 ⟨g,e,l,A,B,u,w,rfl,C,I,J,N,K,Q,S⟩
   obtain⟨y,hy,rfl⟩:=iD _ _ _ _ b0;obtain⟨n,T,rfl⟩:=fF hy;have j0:=(List.getElem?_eq_some_iff.mp T).1;refine⟨AE s x d b.length o (oI (0+i:Nat)) (oS n) u w,rfl,?_⟩;rw[Nat.zero_add];have c0:g.length=i:=by rw[C.length_eq,List.length_take];omega
   have hE:(aP E R)[i]?=some (n,R n):=by unfold aP;grind
   obtain⟨p1,p2,p3⟩:=G.el i _ hE;obtain⟨q,M,hq⟩:=G.ln i _ hE;have F:=List.mem_of_getElem? T;have O:=G.short (d:=n) (by rw[az];exact F)
   obtain⟨p',e4,l4,l0,m0,n0,o0,c4,G4,H4,d0,K4,f4,o4⟩:=GJ (N2:=s) (E3:=x) (Ψ:=u) (u0:=w) U V hA hK J I N (Z.keep K (by simp;omega)) (Y.keep K (by
    simp_all)) F (λz=>zA X T (C.mem_iff.mp z)) (hv n F) c0 (by omega) p1 p2 (λz hz=>C.mem_iff.mpr (by have:=p3 z hz;rwa[az]at this)) M hq (by rw[hq]at O;simp at O;omega) (by omega)
   rw[c4];refine⟨dI g p' n,e4,l4,_,_,_,_,rfl,?_,G4,H4,d0,K.trans K4,by grind,o4⟩
   rw[List.take_succ,T];exact lM.trans ((List.Perm.cons n C).trans (by simpa using (List.perm_append_singleton n (E.take i)).symm))
  .rintro P h ⟨g,e,l,A,B,u,w,rfl,C,I,J,N,K,Q,S⟩
   rw[fy,List.length_map,List.take_length]at C;exact⟨g,e,l,A,B,u,w,h,rfl,C,I,J,K,Q,S⟩
 obtain⟨g,e,l,A,B,u,w,h,r3,C,I,J,K3,Q,S⟩:=lp;refine⟨b.length,e,l,g,h,?_,J.imp λ_ _=>trivial,I,C,⟨by have:=t.len;have:=K3.len;omega,λk c hk _=>K3.get k c (t.get k c hk (by simp)) (by have:=bc hk;simp;omega)⟩,Nat.le_refl _,Q,S⟩
 have r1:aF 3 (mN (lu "House" L) ah) [some (SC s),oR x,oR d,none,none,none,none,none,none] b=.nx [some (SC s),oR x,oR d,oR b.length,none,none,none,none,none] f:=by
  simp_all
 unfold Dx;rw[ag,r1,aD,ag,r2,aD,ag,r3,aD];rfl
theorem zR(h:∀r∈S,r=[]):ne S=[]:=List.eq_nil_iff_forall_not_mem.mpr λr a=>(ig.mp a).2 (h r (ig.mp a).1)
theorem vT:∀(m:Nat) (c:aJ) (rs:List (List Str)) (a:List Str) (q k:Nat) (E:List Nat) (d e g i:Option D),tl rs<m->Rw c k E (ne rs)->c[q]?=some (.lst (a.map .str))->q≠k->q∉E->rs.length<=900->a.length+tl rs<=800 ->
  (∃ax,ei vM qU m [Ψ,d,oR k,oR q,e,g,i] c=.rt .non ax/\af [q] c ax/\∀o,¬ Mg rs o) \/
  ∃o j H l p s ax,ei vM qU m [Ψ,d,oR k,oR q,e,g,i] c=.nx [Ψ,j,H,oR q,l,p,s] ax/\Mg rs o/\ax[q]?=some (.lst ((a++o).map .str))/\af [q] c ax:=by
 intro m
 induction m with
 |zero=>intro c rs a q k E d e g i h;omega
 |succ m X=>
  intro c rs a q k E d e g i hm R T I J U V;obtain⟨u,z,w⟩:=uo (B:=[Ψ,d,oR k,oR q,e,g,i]) (t:=2) rfl R;have z:vM [Ψ,d,oR k,oR q,e,g,i] c=.ok (.bl (decide (ne rs≠[]))) u:=z
  by_cases C:ne rs=[]
  .rw[decide_eq_false (by simpa using C)]at z
   refine .inr ⟨[],d,oR k,e,g,i,u,?_,zv C,by rw[List.append_nil];exact w.get _ _ T (by simp),dz.up w⟩
   simp only[ei,z];rfl
  .rw[decide_eq_true (by simpa using C)]at z
   have step:ei vM qU (m+1) [Ψ,d,oR k,oR q,e,g,i] c=(match qU [Ψ,d,oR k,oR q,e,g,i] u with|.nx b ax=>ei vM qU m b ax|.ct b ax=>ei vM qU m b ax|.bk b ax=>.nx b ax|r=>r):=by
    simp only[ei,z];rfl
   have K:=w.get _ _ T (by simp)
   rcases zu (Ψ:=Ψ) (u0:=d) (A0:=e) (S0:=g) (E1:=i) (R.keep w) K I J U (by omega) (by omega)with ⟨A,x,F,G⟩|⟨n,j,l,p,s,Y,L,x,A,F,R2,N,Z,n2,G⟩
   .refine .inl ⟨x,?_,dz.up (w.trans G),λo M=>?_⟩
    .rw[step,F]
    .cases M with
     |done h=>exact C (zR h)
     |step _ f _=>rw[A]at f;cases f
   .have a0:=uk (gM A)
    have O:∃r∈rs,r≠[]:=by
     obtain⟨t,V⟩:=gM A;exact⟨_,V,by simp⟩
    rcases X x (rs.map (cK n)) (a++[n]) q Y L j l p s (by omega) R2 N Z n2 (by simpa using U) (by simp;omega)with ⟨y,P,Q,N3⟩|⟨o,b1,b2,b4,b5,b6,y,P,M3,S,Q⟩
    .refine .inl ⟨y,?_,((dz.up w).trans G).trans Q,λo M=>?_⟩
     .rw[step,F]
      exact P
     .cases M with
      |done h=>exact C (zR h)
      |step _ f M=>rw[A]at f;cases f;exact N3 _ M
    .refine .inr ⟨n::o,b1,b2,b4,b5,b6,y,?_,.step O A M3,by rw[S];simp,((dz.up w).trans G).trans Q⟩
     rw[step,F];exact P
def Eo(e:a_):Prop:=∀(c:aJ) (k:Nat) (f:List Nat) (b:List (List Str)),Rw c k f b->b.length<=900->tl b<=800->∃d a,e [.ref k] c=.ok d a/\af [] c a/\(d=.non/\(∀o,¬ Mg b o)\/∃o q,d=.ref q/\a[q]?=some (.lst (o.map .str))/\Mg b o/\c.length<=q)
theorem GL:Eo (bT 7 1 Ei):=by
 intro h k E u R w F;rw[bj (by rfl)]
 have x:a7 7 [D.ref k]=[oR k,none,none,none,none,none,none]:=rfl;rw[x]
 have i:bf (aa 0) [oR k,none,none,none,none,none,none] h=.ok (.seq (.ref k)) h:=by
  exact aU (by rw[aI,aA R.ce])
 obtain⟨c,a,G,A,l,H⟩:=jB (y:=false) (s:=mN (a8 .list) (ae (aa 0) ah)) (B7:=[]) i R (by omega) (λj m a K C n d=>by
  obtain⟨b,e,g⟩:=ne_nil (B:=[oR j]) (t:=0) rfl d;refine⟨b,?_,g⟩
  show bZ (m2 (aH .NotEq) (aa 0) (mN bh ah) [oR j] a)=_
  rw[e];rfl) (λj m a K C n d=>by
  refine⟨_,a++[.lst _],?_,af.app,aq,K.len⟩;exact cw d)
 rw[List.map_id']at l;have R2:Rw (a++[.lst _]) _ c _:=⟨aq,l.keep (fp:=[]) af.app (by simp)⟩
 have g:af [] h (a++[Cell.lst (c.map .ref)]):=A.trans af.app;have I:(a++[Cell.lst (c.map .ref)]).length=a.length+1:=by simp
 have J:=l.lt
 have q:aF 2 (bC (mN (a8 .list) (ae (aa 0) ah)) false (m2 (aH .NotEq) (aa 0) (mN bh ah)) (bf (aa 0)) 0 []) [oR k,none,none,none,none,none,none] h=.nx [oR k,none,oR a.length,none,none,none,none] (a++[Cell.lst (c.map .ref)]):=by
  simp_all
 generalize a++[Cell.lst _]=b at *;have p:af [] b (b++[Cell.lst []]):=af.app;have r:(aF 3 (mN bh ah)) [oR k,none,oR a.length,none,none,none,none] b=.nx [oR k,none,oR a.length,oR b.length,none,none,none] (b++[Cell.lst []]):=by rfl
 have f:=g.len;rcases vT fuel _ u [] _ _ c none _ none none (by unfold fuel;omega) (R2.keep p) aq (by omega) (λz=>by grind) w (by simp_all)with ⟨Gm,e4,K4,N4⟩|⟨o,b1,b2,b4,b5,b6,Gm,e4,M4,OA,K4⟩
 .refine⟨.non,Gm,?_,af.new (g.trans p) K4 (by simpa using f),.inl ⟨rfl,N4⟩⟩
  unfold Ei;rw[ag,q,aD,ag,r,aD,ag];unfold jt;rw[e4];rfl
 .refine⟨_,Gm,?_,af.new (g.trans p) K4 (by simpa using f),.inr ⟨o,_,rfl,by simpa using OA,M4,f⟩⟩
  unfold Ei;rw[ag,q,aD,ag,r,aD,ag];unfold jt;rw[e4];rfl
def Kt(a:a_):EM:=(mN (aX a) (ae (m2 (aY .Add) (bC (m2 aM (aa 1) (aa 0)) true (ai .non) (bf (aa 11)) 0 [4]) (mN bh (ae (aa 11) ah))) ah))
theorem Ep{k:Nat}:∀{rs:List (List Str)},(∀r∈rs,r.length<=k)->tl rs<=rs.length*k
 |[],_=>by simp[tl]
 |r::rs,h=>by
  have b:=h r (by simp)
  have c:=Ep (rs:=rs) λz a=>h z (by simp[a])
  have:tl (r::rs)=r.length+tl rs:=by simp[tl]
  rw[List.length_cons,Nat.succ_mul];omega
theorem zS(C:Eo L)(o:B[11]?=some (oR b))(D:B[4]?=some (oR t))(p:a[b]?=some (.lst (g.map .str)))(E:cy a t R)(F:aE ξ a R (aP Y Q))(w:∀y∈g,y∈Y)(G:g.length<=5)(H:∀y∈g,(Q y).length<=100):
  ∃v ax,Kt L B a=.ok v ax/\af [] a ax/\(v=.non/\(∀q,¬ Mg (g.map Q++[g]) q)\/∃q k,v=.ref k/\ax[k]?=some (.lst (q.map .str))/\Mg (g.map Q++[g]) q/\a.length<=k):=by
 have f:∀a,aa 11 B a=.ok (.ref b) a:=λa=>by simp only[aa,o]
 have r:bf (aa 11) B a=.ok (.seq (.ref b)) a:=by
  rw[cf,f,aw];exact aU (by rw[aI,aA p])
 have h:dn [4] B=[oR t]:=by simp[dn,D]
 obtain⟨d,I,K⟩:=qW (Q:=Q) (s:=m2 aM (aa 1) (aa 0)) (J:=[4]) r p (λy m=>by
  obtain⟨j,M,_,x⟩:=F.at (n:=y) (by rw[az];exact w y m)
  rw[aS (w y m)]at x;rw[h];exact⟨j,d4 E M,x⟩) (by omega)
 have N:(a++[Cell.lst (d.map .ref)])[a.length]?=some _:=aq;have O:af [] a (a++[Cell.lst (d.map .ref)]):=af.app;generalize a++[Cell.lst (d.map .ref)]=c at *;have P:(c++[Cell.lst [.ref b]])[c.length]?=some _:=aq;have A:af [] c (c++[Cell.lst [.ref b]]):=af.app
 have S:(mN bh (ae (aa 11) ah)) B c=.ok (.ref c.length) (c++[.lst [.ref b]]):=by
  rw[dX,a6,f]
  show bh [.ref b] c=_
  rw[eO,if_pos (aT (by simp))]
 generalize c++[Cell.lst [.ref b]]=i at *;have e:=O.trans A;obtain⟨T,U⟩:=nF (A.get _ _ N (by simp)) (K.keep e (by simp)) P (e.get _ _ p (by simp)) (by simp;omega)
 obtain⟨v,u,e5,V,l⟩:=C _ _ _ _ U (by simp;omega) (by
  have:=Ep (k:=100) (rs:=g.map Q++[g]) (λz hz=>by
   rcases List.mem_append.mp hz with hz|hz
   .obtain⟨y,m,rfl⟩:=List.mem_map.mp hz;exact H y m
   .rw[List.mem_singleton.mp hz];omega)
  simp at this ⊢;omega)
 have l3:=e.len;have l4:(i++[Cell.lst ((d++[b]).map .ref)]).length=i.length+1:=by simp
 refine⟨v,u,?_,(e.trans af.app).trans V,?_⟩
 .unfold Kt
  rw[dX,a6,dh,I,aw,S,aw,T,aw]
  simp_all
 .rcases l with l|⟨q,k,l,X,Z,c8⟩
  .exact .inl l
  .exact .inr ⟨q,k,l,X,Z,by omega⟩
abbrev LE(c:List Int)(e:Int)(x d l h o:Nat)(f g a9 a10 a b:Option D):bp:=[some (SC c),some (.int e),oR x,oR d,oR l,oR h,oR o,f,g,a9,a10,a,b]
structure Lv(Ω:aJ)(x d l h o B:Nat)(xs ys:List Str)(R L:Str->List Str):Prop where
 hs:∃e l',eT (λj=>j≠o) Ω h e l' (aP ys R) L/\B<=e/\e<l'
 gl:ij ys R L
 od:Ω[o]?=some (.lst (ys.map .str))
 el:∃Rn,Ω[d]?=some (.dK Rn)/\aE (λj=>j≠o) Ω Rn (aP xs R)
 li:∃Ro,Ω[l]?=some (.dK Ro)/\aE (λj=>j≠o) Ω Ro (aP xs L)
 nm:Ω[x]?=some (.lst (xs.map .str))
 sb:∀y∈ys,y∈xs
 rw:∀y∈xs,(R y).Nodup/\(R y).length<=5
 xn:xs.Nodup
 xl:xs.length<=7
 dB:d<B
 lB:l<B
 dl:d≠l
 xo:x≠o
theorem zT:(aP g Q).find? (λq=>decide (d∈q.2))=(g.find? λy=>decide (d∈Q y)).map λy=>(y,Q y):=by
 unfold aP;rw[List.find?_map];rfl
theorem Dy:(d.cps.toList==T.cps.toList)=decide (d=T):=by
 rw[Bool.eq_iff_iff,beq_iff_eq,decide_eq_true_eq];refine⟨λh=>?_,λh=>by rw[h]⟩
 obtain⟨d⟩:=d
 simp_all
theorem nH{n:Str}:∀{a:List Str},a.Nodup->n∈a->∃j,a.findIdx? (λz=>z.cps.toList==n.cps.toList)=some j/\a.eraseIdx j=a.filter λy=>decide (y≠n)
 |[],_,h=>by cases h
 |y::a,b,h=>by
  rw[List.nodup_cons]at b;rw[List.findIdx?_cons,Dy]
  by_cases e:y=n
  .subst e
   refine⟨0,by simp,?_⟩
   rw[List.filter_cons_of_neg (by simp),List.filter_eq_self.mpr (by grind)]
   rfl
  .obtain⟨j,c,d⟩:=nH b.2 ((List.mem_cons.mp h).resolve_left (Ne.symm e))
   simp_all
theorem GN(c:a[b]?=some (.lst (g.map .str)))(e:g.Nodup)(f:d∈g):fC (.ref b) [.str d] a=.ok .non (a.set b (.lst ((g.filter λy=>decide (y≠d)).map .str))):=by
 obtain⟨j,h,i⟩:=nH e f
 have k:iC (g.map .str)=some g:=by
  clear c e f h i
  induction g with
  |nil=>rfl
  |cons y g l=>simp only[List.map_cons,iC,l];rfl
 simp only[fC,fE c,k,h,i]
def Ku(a b:a_):SM:=
 (ak (aF 12 (mN (aX a) (ae (aa 6) (ae (aa 3) (ae (aa 9) ah)))))
 (ak (dR (m2 (aH .NotEq) (mN (aX b) (ae (aa 5) (ae (aa 9) ah))) (aa 12)) rF ao)
 (ak (dR (m2 (aH .Is) (aa 12) (ai .non)) (ak (cF (dm lP fC (aa 6) (ae (aa 9) ah))) ao) ao)
 ao)))
theorem GO(hH:vS L)(hT:vR Q3)(V:Lv a E3 υ W1 b t D4 g Y y0 Q)(hn:d∈Y):
  ∃T u ax,Ku L Q3 (LE N2 P E3 υ W1 b t Ψ u0 (oS d) A0 S0 E1) a=.nx (LE N2 P E3 υ W1 b t Ψ u0 (oS d) A0 S0 u) ax/\Lv ax E3 υ W1 b t D4 g T y0 Q/\a.length<=ax.length:=by
 obtain⟨e,I,H,b1,b2⟩:=V.hs;obtain⟨n,x,o⟩:=V.el;obtain⟨A,k,B⟩:=V.li;have d0:Y.length<=7:=Nat.le_trans (gs V.gl.nd V.sb) V.xl;obtain⟨i,e1,J⟩:=hH a t υ n g Y y0 d V.od (.inl x) (o.imp λ_ _=>trivial) V.sb (by omega)
 have r1:aF 12 (mN (aX L) (ae (aa 6) (ae (aa 3) (ae (aa 9) ah)))) (LE N2 P E3 υ W1 b t Ψ u0 (oS d) A0 S0 E1) a=.nx (LE N2 P E3 υ W1 b t Ψ u0 (oS d) A0 S0 (some (j9 Y y0 d))) i:=by
  show bu (nr (L [.ref t,.ref υ,.str d] a)) _=_
  rw[e1];rfl
 have sh:∀q∈aP Y y0,q.2.length<=1000:=λq U=>by
  obtain⟨y,r,rfl⟩:=List.mem_map.mp U;have:=(V.rw y (V.sb y r)).2
  show(y0 y).length<=1000
  omega
 obtain⟨t1,t2⟩:=hT i b e I (aP Y y0) Q _ d (H.kp J) (by rw[az];exact hn) (by simp[aP];omega) sh (by omega)
 cases X:Y.find? λy=>decide (d∈y0 y)with
 |some y=>
  obtain⟨h,Z,M⟩:=t2 (y,y0 y) (by rw[zT,X];rfl)
  have K:=J.trans M;have N:j9 Y y0 d=.tup [.str d,.str y]:=by unfold j9;rw[X]
  refine⟨Y,some (j9 Y y0 d),h,?_,⟨⟨e,I,H.kp K,b1,b2⟩,V.gl,K.get _ _ V.od (by simp),⟨n,K.get _ _ x (by simp),o.keep K (by simp)⟩,⟨A,K.get _ _ k (by simp),B.keep K (by simp)⟩,K.get _ _ V.nm (by simp),V.sb,V.rw,V.xn,V.xl,V.dB,V.lB,V.dl,V.xo⟩,K.len⟩
  have c2:(m2 (aH .NotEq) (mN (aX Q3) (ae (aa 5) (ae (aa 9) ah))) (aa 12)) (LE N2 P E3 υ W1 b t Ψ u0 (oS d) A0 S0 (some (j9 Y y0 d))) i=.ok (.bl false) h:=by
   rw[dh]
   show((nr (Q3 [.ref b,.str d] i)).bind λE3 h=>(aa 12 _ h).bind _)=_
   rw[Z,N]
   show aH .NotEq (.tup [.str d,.str y]) (.tup [.str d,.str y]) h=_
   have hr:fk h 8 (.tup [.str d,.str y])=some (.tup [.str d,.str y]):=by rfl
   simp_all
  unfold Ku;rw[ag,r1,aD,ag,bU,c2,N];rfl
 |none=>
  have C:∀y∈Y,d∉y0 y:=λy r E=>by
   simp_all
  obtain⟨h,Z,H2,M⟩:=t1 (λq U=>by
   obtain⟨y,r,rfl⟩:=List.mem_map.mp U;exact C y r)
  rw[lN]at H2;have N:j9 Y y0 d=.non:=by unfold j9;rw[X]
  have a0:∀{z:Nat}{c:Cell},a[z]?=some c->z<D4\/(∃O,c=.lst O)->z∉[e,I]:=λ{z c} E R=>by
   rcases R with R|⟨O,rfl⟩
   .simp;omega
   .have:=H.Ma _ _ E
    simp;exact⟨λw=>this.2.1 w.symm,λw=>this.2.2 w.symm⟩
  have F:∀{z:Nat}{c:Cell},a[z]?=some c->z<D4\/(∃O,c=.lst O)->h[z]?=some c:=λ{z c} E R=>M.get _ _ (J.get _ _ E (by simp)) (a0 E R)
  have l:=F V.od (.inr ⟨_,rfl⟩)
  have c2:(m2 (aH .NotEq) (mN (aX Q3) (ae (aa 5) (ae (aa 9) ah))) (aa 12)) (LE N2 P E3 υ W1 b t Ψ u0 (oS d) A0 S0 (some (j9 Y y0 d))) i=.ok (.bl false) h:=by
   rw[dh]
   show((nr (Q3 [.ref b,.str d] i)).bind λE3 h=>(aa 12 _ h).bind _)=_
   rw[Z,N];rfl
  have m3:(dm lP fC (aa 6) (ae (aa 9) ah)) (LE N2 P E3 υ W1 b t Ψ u0 (oS d) A0 S0 (some (j9 Y y0 d))) h=.ok .non (h.set t (.lst ((Y.filter λy=>decide (y≠d)).map .str))):=by
   rw[dY (m:=.ref t) (η:=h) rfl (en l)];exact GN l V.gl.nd hn
  have s:af [t] h (h.set t (.lst ((Y.filter λy=>decide (y≠d)).map .str))):=af.set (by simp)
  have nn:=H2.Ma _ _ l
  have G:∀{S:List (Key×D)}{f:Str->List Str},aE (λj=>j≠t) a S (aP g f)->aE (λj=>j≠t) _ S (aP g f):=λ{S f} q=>by
   have q2:aE (λj=>j≠t) h S (aP g f):=aG.imp (λ_ _ ⟨p,j,Kv,c,υ⟩=>⟨p,j,Kv,c,F υ (.inr ⟨_,rfl⟩)⟩) q
   exact q2.keep s (by simp)
  have b0:υ≠t:=λz=>by rw[z,V.od]at x;cases x
  have c0:W1≠t:=λz=>by rw[z,V.od]at k;cases k
  refine⟨Y.filter λy=>decide (y≠d),some (j9 Y y0 d),h.set t (.lst ((Y.filter λy=>decide (y≠d)).map .str)),?_,⟨⟨e,I,H2.keep s (by simpa using nn.1) (by simpa using nn.2.1) (by simpa using nn.2.2) (by simp),b1,b2⟩,V.gl.less C,(aK l),⟨n,s.get _ _ (F x (.inl V.dB)) (by simpa using b0),G o⟩,⟨A,s.get _ _ (F k (.inl V.lB)) (by simpa using c0),G B⟩,s.get _ _ (F V.nm (.inr ⟨_,rfl⟩)) (by simpa using V.xo),λy r=>V.sb y (List.mem_filter.mp r).1,V.rw,V.xn,V.xl,V.dB,V.lB,V.dl,V.xo⟩,by have:=J.len;have:=M.len;have:=s.len;omega⟩
  unfold Ku;rw[ag,r1,aD,ag,bU,c2]
  simp_all
theorem GP(M:Mg S g)(d:Mg S Y):g=Y:=by
 induction M generalizing Y with
 |done h=>
  cases d with
  |done _=>rfl
  |step a _ _=>obtain⟨r,b,c⟩:=a;exact absurd (h r b) c
 |step a f _ i=>
  cases d with
  |done h=>obtain⟨r,b,c⟩:=a;exact absurd (h r b) c
  |step _ e M2=>
   grind
theorem Kw(G:ij g y0 Q):∀y∈g,∀z∈Q y,z∈g:=by
 obtain⟨f,c⟩:=G.gd.rk;rw[az]at *
 have d:∀(m:Nat) (y:Str),f y<m->y∈g->∀z∈Q y,z∈g:=by
  intro m
  induction m with
  |zero=>simp
  |succ m h=>
   intro y j a z hz;obtain⟨o,M,e⟩:=G.Dg y (by rwa[az])
   rw[aS a]at M;rw[e]at hz;rcases List.mem_cons.mp hz with rfl|hz
   .exact a
   .obtain⟨r,hr,b⟩:=oB M z hz
    rcases List.mem_append.mp hr with hr|hr
    .obtain⟨w,i,rfl⟩:=List.mem_map.mp hr
     have k:=c y a w (by rwa[aS a])
     exact h w (by omega) (G.mem a w i) z b
    .rw[List.mem_singleton.mp hr]at b
     exact G.mem a z b
 exact λy a=>d (f y+1) y (by omega) a
theorem Kx(G:ij E4 y0 Q)(b:∀y∈Y,y∈E4)(M:Mg (Y.map Q++[Y]) g):g.length<=E4.length:=gs (qh M) λz c=>by
 obtain⟨w,hw,a⟩:=oB M z c;rcases List.mem_append.mp hw with hw|hw
 .obtain⟨y,d,rfl⟩:=List.mem_map.mp hw
  exact Kw G y (b y d) z a
 simp_all
theorem zU(G:ij g y0 Q)(a:d∈g):(Q d).length<=g.length+1:=by
 obtain⟨o,M,e⟩:=G.Dg d (by rwa[az])
 rw[aS a]at M;have:=Kx G (G.mem a) M
 simp_all
def MA:EM:=(bC (aa 0) false (m2 (aH .In) (aa 0) (aa 1)) (bf (m2 aM (aa 3) (aa 9))) 0 [6])
def MB(a:a_):SM:=(dR (m2 (aH .Is) (Kt a) (ai .non)) (ak (aF 11 (mN bh ah)) ao) ao)
theorem GQ(N:Eo L)(V:Lv a E3 υ W1 b t D4 g Y y0 Q)(i:d∈g):
  ∃r q c ax,(ak (aF 11 MA) (ak (MB L) ao)) (LE N2 P E3 υ W1 b t Ψ u0 (oS d) A0 S0 E1) a=.nx (LE N2 P E3 υ W1 b t Ψ u0 (oS d) A0 (oR c) E1) ax/\af [] a ax/\ax[c]?=some (.lst (r.map .str))/\a.length<=c/\r.Nodup/\r.length<=5/\(∀y∈r,y∈Y)/\Mg (r.map Q++[r]) q:=by
 obtain⟨O,R,l⟩:=V.el;obtain⟨S,o,p⟩:=V.li;have T:Y.length<=7:=Nat.le_trans (gs V.gl.nd V.sb) V.xl;obtain⟨j,U,_,u⟩:=l.at (n:=d) (by rw[az];exact i)
 rw[aS i]at u;obtain⟨X,Z⟩:=V.rw d i;have w:(m2 aM (aa 3) (aa 9)) (LE N2 P E3 υ W1 b t Ψ u0 (oS d) A0 S0 E1) a=.ok (.ref j) a:=d4 (.inl R) U
 have E:=cu (a:=a) (η:=a) (s:=aa 0) (ζ:=m2 (aH .In) (aa 0) (aa 1)) (y:=false) (A1:=bf (m2 aM (aa 3) (aa 9))) (J:=[6]) (v4:=.seq (.ref j)) (q:=(y0 d).map .str) (F7:=λυ=>match υ with|.str m=>decide (m∈Y)|_=>false) (E7:=λυ=>υ) (by
  rw[cf,w,aw];exact aU (by rw[aI,aA u])) (by rw[cg,aI,aA u]) (λd' x=>by
  obtain⟨m,hm,rfl⟩:=List.mem_map.mp x
  show bZ (aH .In (.str m) (.ref t) a)=_
  rw[ic V.od];rfl) (λυ _ _=>rfl) (by simp;omega)
 have e2:(((y0 d).map D.str).filter (λυ=>match υ with|.str m=>decide (m∈Y)|_=>false)).map (λυ:D=>υ)=((y0 d).filter λm=>decide (m∈Y)).map .str:=by
  rw[List.map_id',List.filter_map];rfl
 rw[e2]at E
 have F:aF 11 MA (LE N2 P E3 υ W1 b t Ψ u0 (oS d) A0 S0 E1) a=.nx (LE N2 P E3 υ W1 b t Ψ u0 (oS d) A0 (oR a.length) E1) (a++[.lst (((y0 d).filter λm=>decide (m∈Y)).map .str)]):=by
  rw[cb];unfold MA;rw[E];rfl
 have G:(a++[Cell.lst (((y0 d).filter λm=>decide (m∈Y)).map .str)])[a.length]?=some _:=aq
 have z:af [] a (a++[Cell.lst (((y0 d).filter λm=>decide (m∈Y)).map .str)]):=af.app
 have H:((y0 d).filter λm=>decide (m∈Y)).length<=5:=Nat.le_trans (List.length_filter_le _ _) Z
 have A:∀y∈(y0 d).filter λm=>decide (m∈Y),y∈Y:=λy h=>by grind
 have f3:((y0 d).filter λm=>decide (m∈Y)).Nodup:=X.filter _
 generalize ((y0 d).filter _)=r at *;obtain⟨v,e,I,K,C⟩:=zS (B:=LE N2 P E3 υ W1 b t Ψ u0 (oS d) A0 (oR a.length) E1) N rfl rfl G (.inl (z.get _ _ o (by simp))) (p.keep z (by simp)) (λy h=>V.sb y (A y h)) H (λy h=>by have:=zU V.gl (A y h);omega)
 have f:=z.trans K;rcases C with ⟨rfl,_⟩|⟨q,k,rfl,hk,M,_⟩
 .refine⟨[],[],e.length,e++[.lst (([]:List Str).map .str)],?_,f.trans af.app,aq,f.len,by simp,by simp,by simp,Dt⟩
  rw[ag,F,aD,ag];unfold MB;rw[bU,dh,I];rfl
 .refine⟨r,q,a.length,e,?_,f,K.get _ _ G (by simp),Nat.le_refl _,f3,H,A,M⟩
  rw[ag,F,aD,ag];unfold MB;rw[bU,dh,I];rfl
variable{B6:SM}
theorem Dz{C:SM}{b:bp}(h:(ak Θ (ak B6 ao)) B a=.nx b η):(ak Θ (ak B6 C)) B a=C b η:=by
 rw[ag]at h ⊢;cases e:Θ B a with
 |nx c d=>
  rw[e,aD]at h;cases i:B6 c d with
  |nx f g=>
   simp_all
  |_=>simp_all
 |_=>simp_all
def MC(F:List D->Out Rs)(a b:a_):SM:=
 (ak (aF 10 (mN (bF F) (ae (aa 8) (ae (ai (.int 1)) (ae (m2 (aY .Add) (mN (a8 .len) (ae (aa 6) ah)) (ai (.int 1))) ah)))))
 (ak (aF 11 MA)
 (ak (MB a)
 (ak (cF (Em b 5 (ae (aa 9) (ae (mN (a8 .list) (ae (aa 11) ah)) (ae (aa 10) ah)))))
 (ak (dW (aa 3) (aa 9) (aa 11))
 (ak (dW (aa 4) (aa 9) (m2 (aY .Add) (mN bh (ae (aa 9) ah)) (Kt a)))
 (ak (cF (dm lP cQ (aa 6) (ae (aa 10) (ae (aa 9) ah))))
 ao)))))))
theorem GR(x0:et y3 y1)(hM:Eo L)(hA:Du Q3)(V:Lv a E3 υ W1 b t D4 g Y y0 Q)(hn:d∈g)(hy:d∉Y)(hv:vI d):
  ∃z0 R' L' g0 h0 ax,MC y1 L Q3 (LE N2 P E3 υ W1 b t Ψ (some (.int M0)) (oS d) u0 A0 S0) a=.nx (LE N2 P E3 υ W1 b t Ψ (some (.int M0)) (oS d) g0 h0 S0) ax/\Lv ax E3 υ W1 b t D4 g z0 R' L'/\a.length<=ax.length:=by
 have f1:Y.length<=7:=Nat.le_trans (gs V.gl.nd V.sb) V.xl;obtain⟨t0,t1,ht⟩:=x0 M0 1 ((Y.length:Int)+1) (by omega) (by omega) (by omega)
 obtain⟨p,ep⟩:∃p:Nat,(p:Int)=y3 M0 1 ((Y.length:Int)+1):=⟨(y3 M0 1 ((Y.length:Int)+1)).toNat,by omega⟩
 rw[←ep]at ht
 have c1:=by
  have:=gG V.od;rw[List.length_map]at this;exact this
 have r1:aF 10 (mN (bF y1) (ae (aa 8) (ae (ai (.int 1)) (ae (m2 (aY .Add) (mN (a8 .len) (ae (aa 6) ah)) (ai (.int 1))) ah)))) (LE N2 P E3 υ W1 b t Ψ (some (.int M0)) (oS d) u0 A0 S0) a=.nx (LE N2 P E3 υ W1 b t Ψ (some (.int M0)) (oS d) (oI p) A0 S0) a:=by
  simp_all
 obtain⟨r,q,c,l,e2,K1,ha,C0,i0,a0,S,M⟩:=GQ (N2:=N2) (P:=P) (Ψ:=Ψ) (u0:=some (.int M0)) (A0:=oI p) (S0:=A0) (E1:=S0) hM V hn;obtain⟨e,l',H,b1,b2⟩:=V.hs;obtain⟨u,he,j0⟩:=V.el;obtain⟨x,b0,U⟩:=V.li;have lo:=bc V.od;have l1:=K1.len;have g3:(l++[Cell.lst (r.map .str)])[l.length]?=some (.lst (r.map .str)):=aq;have K3:af [] l (l++[Cell.lst (r.map .str)]):=af.app;have l3:(l++[Cell.lst (r.map .str)]).length=l.length+1:=by simp
 have a3:(ae (aa 9) (ae (mN (a8 .list) (ae (aa 11) ah)) (ae (aa 10) ah))) (LE N2 P E3 υ W1 b t Ψ (some (.int M0)) (oS d) (oI p) (oR c) S0) l=.ok [.str d,.ref l.length,.int p] (l++[.lst (r.map .str)]):=by
  rw[a6]
  show(((ae (mN (a8 .list) (ae (aa 11) ah)) (ae (aa 10) ah)) _ l).bind _)=_
  rw[a6,dX]
  show((((a8 .list [.ref c] l)).bind _).bind _)=_
  rw[cw ha];rfl
 generalize l++[Cell.lst (r.map .str)]=g1 at *;have l0:=K1.trans K3;have h1:=Kx V.gl S M;have hp:p<=Y.length:=by omega
 obtain⟨G',e5,l5,i,c5,H5,K5,f5,o5⟩:=zP (υ:=p) (m:=.int p) (Y:=q) hA.1 (H.kp l0).at V.gl g3 hv hy (by omega) i0 a0 S M (by omega) hp (.inl rfl) (λj hj=>by omega)
 have r4:cF (Em Q3 5 (ae (aa 9) (ae (mN (a8 .list) (ae (aa 11) ah)) (ae (aa 10) ah)))) (LE N2 P E3 υ W1 b t Ψ (some (.int M0)) (oS d) (oI p) (oR c) S0) l=.nx (LE N2 P E3 υ W1 b t Ψ (some (.int M0)) (oS d) (oI p) (oR c) S0) i:=by
  rw[bQ,nG (H.kp K1).at rfl a3 c5];rfl
 obtain⟨fs,D0⟩:=H.ix
 have G0:∀{z:Nat}{M0:Cell},a[z]?=some M0->(∀C f,M0≠.ins C f)->z∉[b]:=λ{z M0} I hc w=>by
  rw[List.mem_singleton.mp w,D0]at I;cases I;exact hc _ _ rfl
 have k5:∀{z:Nat}{M0:Cell},a[z]?=some M0->(∀C f,M0≠.ins C f)->i[z]?=some M0:=λ{z M0} I hc=>K5.get _ _ (l0.get _ _ I (by simp)) (G0 I hc)
 have X:∀{kv:List (Key×D)}{f:Str->List Str},aE (λj=>j≠t) a kv (aP g f)->aE (λj=>j≠t) i kv (aP g f):=λ{kv f} w=>aG.imp (λ_ _ ⟨c,j,Ky,M0,υ⟩=>⟨c,j,Ky,M0,k5 υ λ_ _ z=>nomatch z⟩) w
 have J:=k5 he (λ_ _ z=>nomatch z)
 have I0:=k5 b0 (λ_ _ z=>nomatch z)
 have J0:=k5 V.od (λ_ _ z=>nomatch z)
 have K0:=k5 V.nm (λ_ _ z=>nomatch z)
 have L0:c∉[b]:=λw=>by
  have:=H.at.hlt;rw[List.mem_singleton.mp w]at C0;omega
 have m0:=K5.get _ _ (K3.get _ _ ha (by simp)) L0
 have P0:c≠t:=by omega
 have ek:u.length<=1000:=by have:=j0.len;simp[aP]at this;have:=V.xl;omega
 have lk:x.length<=1000:=by have:=U.len;simp[aP]at this;have:=V.xl;omega
 have r5:dW (aa 3) (aa 9) (aa 11) (LE N2 P E3 υ W1 b t Ψ (some (.int M0)) (oS d) (oI p) (oR c) S0) i=.nx (LE N2 P E3 υ W1 b t Ψ (some (.int M0)) (oS d) (oI p) (oR c) S0) (i.set υ (.dK (cm u (.inr d) (.ref c)))):=pe rfl rfl rfl J ek;have K6:af [υ] i (i.set υ (.dK (cm u (.inr d) (.ref c)))):=af.set (by simp)
 have g6:(i.set υ (.dK (cm u (.inr d) (.ref c))))[υ]?=some (.dK (cm u (.inr d) (.ref c))):=aK J;have u6:=(X j0).upd hn P0 m0;have c0:∀j∈[υ],∀E,i[j]?≠some (.lst E):=λj hj E=>by rw[List.mem_singleton.mp hj,J];simp
 have n0:=u6.bY K6 c0;have Z:=(X U).bY K6 c0;have o0:=K6.get _ _ I0 (by simpa using Ne.symm V.dl)
 have K:∀{z:Nat}{E:List D},i[z]?=some (.lst E)->(i.set υ (.dK (cm u (.inr d) (.ref c))))[z]?=some (.lst E):=λ{z E} I=>K6.get _ _ I (λw=>c0 _ (List.mem_singleton.mpr rfl) E (by rw[←List.mem_singleton.mp w];exact I))
 have Q0:=K m0;have p0:=K J0;have R0:=K K0;have i1:=K5.len;have l6:(i.set υ (.dK (cm u (.inr d) (.ref c)))).length=i.length:=by simp
 have H6:=by
  have lB:=V.dB;have le:e<a.length:=H.dl.2.2.1;exact H5.kd (W1:=υ) (E3:=υ) (K6.sub (by simp)) J J (by omega) (by omega) (by omega) (by omega)
 generalize i.set υ (.dK (cm u (.inr d) (.ref c)))=n at *;have e7:(mN bh (ae (aa 9) ah)) (LE N2 P E3 υ W1 b t Ψ (some (.int M0)) (oS d) (oI p) (oR c) S0) n=.ok (.ref n.length) (n++[.lst (([d]:List Str).map .str)]):=OL (b:=9) rfl;have K7:af [] n (n++[Cell.lst (([d]:List Str).map .str)]):=af.app;have g7:(n++[Cell.lst (([d]:List Str).map .str)])[n.length]?=some (.lst (([d]:List Str).map .str)):=aq;generalize n++[Cell.lst (([d]:List Str).map .str)]=j1 at *;obtain⟨v,h,e8,K8,T0⟩:=zS (B:=LE N2 P E3 υ W1 b t Ψ (some (.int M0)) (oS d) (oI p) (oR c) S0) hM rfl rfl (K7.get _ _ Q0 (by simp)) (.inl (K7.get _ _ o0 (by simp))) (Z.keep K7 (by simp)) (λy hy=>V.sb y (S y hy)) a0 (λy hy=>by have:=zU V.gl (S y hy);omega)
 rcases T0 with ⟨_,no⟩|⟨q',k,rfl,V0,M',_⟩
 .exact absurd M (no q)
 obtain rfl:=GP M M';have q0:=K7.trans K8;have T:=gI (K8.get _ _ g7 (by simp)) V0 (by simp;omega)
 rw[←List.map_append]at T;have T:aY .Add (.ref n.length) (.ref k) h=.ok (.ref h.length) (h++[.lst ((d::q).map .str)]):=T;have g9:(h++[Cell.lst ((d::q).map .str)])[h.length]?=some (.lst ((d::q).map .str)):=aq;have K9:af [] h (h++[Cell.lst ((d::q).map .str)]):=af.app;generalize e1:h++[Cell.lst ((d::q).map .str)]=s at *;have A:=q0.trans K9;have N:=A.get _ _ o0 (by simp)
 have r6:dW (aa 4) (aa 9) (m2 (aY .Add) (mN bh (ae (aa 9) ah)) (Kt L)) (LE N2 P E3 υ W1 b t Ψ (some (.int M0)) (oS d) (oI p) (oR c) S0) n=.nx (LE N2 P E3 υ W1 b t Ψ (some (.int M0)) (oS d) (oI p) (oR c) S0) (s.set W1 (.dK (cm x (.inr d) (.ref h.length)))):=pe (by
  rw[dh,e7,aw,e8,aw];exact T) rfl rfl N lk
 have O:af [W1] s (s.set W1 (.dK (cm x (.inr d) (.ref h.length)))):=af.set (by simp)
 have W0:(s.set W1 (.dK (cm x (.inr d) (.ref h.length))))[W1]?=some (.dK (cm x (.inr d) (.ref h.length))):=aK N;have n1:=A.len;have o1:=q0.len;have d0:∀j∈[W1],∀E,s[j]?≠some (.lst E):=λj hj E=>by rw[List.mem_singleton.mp hj,N];simp
 have e0:=((Z.keep A (by simp)).upd hn (show h.length≠t by have:=bc p0;omega) g9).bY O d0
 have f0:=(n0.keep A (by simp)).bY O d0
 have r0:=O.get _ _ (A.get _ _ g6 (by simp)) (by simpa using V.dl)
 have R:∀{z:Nat}{E:List D},n[z]?=some (.lst E)->(s.set W1 (.dK (cm x (.inr d) (.ref h.length))))[z]?=some (.lst E):=λ{z E} I=>O.get _ _ (A.get _ _ I (by simp)) (λw=>d0 _ (List.mem_singleton.mpr rfl) E (by rw[←List.mem_singleton.mp w];exact A.get _ _ I (by simp)))
 have F:=R p0;have s0:=R R0;have le:e<a.length:=H.dl.2.2.1;have v0:=(H6.kp A).kd (W1:=W1) (E3:=W1) (O.sub (by simp)) N N (by have:=V.lB;omega) (by have:=V.lB;omega) (by have:=V.lB;omega) (by have:=V.lB;omega)
 have q1:(s.set W1 (.dK (cm x (.inr d) (.ref h.length)))).length=s.length:=by simp
 generalize s.set W1 (.dK (cm x (.inr d) (.ref h.length)))=o at *;have w0:=qZ (d:=d) F (t:=p) hp (by omega)
 have r7:cF (dm lP cQ (aa 6) (ae (aa 10) (ae (aa 9) ah))) (LE N2 P E3 υ W1 b t Ψ (some (.int M0)) (oS d) (oI p) (oR c) S0) o=.nx (LE N2 P E3 υ W1 b t Ψ (some (.int M0)) (oS d) (oI p) (oR c) S0) (o.set t (.lst ((dI Y p d).map .str))):=by
  rw[bQ,dY (m:=.ref t) (η:=o) rfl (en F)]
  show bu (cQ (.ref t) [.int p,.str d] o) _=_
  rw[w0];rfl
 have G:af [t] o (o.set t (.lst ((dI Y p d).map .str))):=af.set (by simp)
 have nn:=v0.Ma _ _ F;have X0:υ≠t:=λz=>by rw[z,V.od]at he;cases he
 have Y0:W1≠t:=λz=>by rw[z,V.od]at b0;cases b0
 refine⟨dI Y p d,sI y0 d r,sI Q d (d::q),oI p,oR c,o.set t (.lst ((dI Y p d).map .str)),?_,⟨⟨e5,l5,v0.keep G (by simpa using nn.1) (by simpa using nn.2.1) (by simpa using nn.2.2) (by simp),by omega,o5⟩,G',aK F,⟨_,G.get _ _ r0 (by simpa using X0),f0.keep G (by simp)⟩,⟨_,G.get _ _ W0 (by simpa using Y0),e0.keep G (by simp)⟩,G.get _ _ s0 (by simpa using V.xo),λy hy=>?_,λy hy=>?_,V.xn,V.xl,V.dB,V.lB,V.dl,V.xo⟩,by simp;omega⟩
 .unfold MC
  rw[ag,r1,aD,Dz e2,ag,r4,aD,ag,r5,aD,ag,r6,aD,ag,r7];rfl
 .rcases fG.mp hy with rfl|hy
  .exact hn
  .exact V.sb y hy
 .by_cases z:y=d
  .rw[z,up_eq];exact⟨i0,a0⟩
  .rw[iY z];exact V.rw y hy
theorem Lv.keep{f ax:aJ}{h o d l x B:Nat}{L R:Str->List Str}{xs g:List Str}(V:Lv f x d l h o B xs g R L)(K:af [] f ax):Lv ax x d l h o B xs g R L:=by
 obtain⟨e,i,H,j,k⟩:=V.hs;obtain⟨m,n,a⟩:=V.el;obtain⟨p,b,c⟩:=V.li;exact⟨⟨e,i,H.kp K,j,k⟩,V.gl,K.get _ _ V.od (by simp),⟨_,K.get _ _ n (by simp),a.keep K (by simp)⟩,⟨_,K.get _ _ b (by simp),c.keep K (by simp)⟩,K.get _ _ V.nm (by simp),V.sb,V.rw,V.xn,V.xl,V.dB,V.lB,V.dl,V.xo⟩
theorem Lv.same(f:sN L)(V:Lv a E3 υ W1 b t D4 g Y y0 Q)(H:cC Tr a u7 (aP Y y0) Q):∃ax,L [.ref u7,.ref t,.ref υ,.ref W1] a=.ok (.bl true) ax/\af [] a ax:=by
 obtain⟨h,i,c⟩:=V.el;obtain⟨j,d,e⟩:=V.li;have k:=Nat.le_trans (gs V.gl.nd V.sb) V.xl;exact f a u7 t υ W1 _ _ g Y y0 Q H V.od (.inl i) (c.imp λ_ _=>trivial) (.inl d) (e.imp λ_ _=>trivial) V.sb (by omega)
def OT(a b:a_):SM:=
 (ak (dR (iO (mN (aX a) (ae (aa 5) (ae (aa 6) (ae (aa 3) (ae (aa 4) ah)))))) rF ao)
 (ak (dR (iN (m2 (aH .Eq) (m2 (aY .Mod) (aa 7) (ai (.int 4))) (ai (.int 1))) (iO (mN (aX a) (ae (aZ "House" "copied" b (aa 5) ah) (ae (aa 6) (ae (aa 3) (ae (aa 4) ah))))))) rF ao)
 ao))
theorem GS(k:sN L)(p:CT Q3)(V:Lv a E3 υ W1 b t D4 g Y y0 Q):
  ∃ax,OT L Q3 (LE N2 P E3 υ W1 b t (oI u7) Ψ u0 A0 S0 E1) a=.nx (LE N2 P E3 υ W1 b t (oI u7) Ψ u0 A0 S0 E1) ax/\af [] a ax:=by
 obtain⟨e,D,H,E,F⟩:=V.hs;have l:=(H.imp λ_ _=>trivial).at
 obtain⟨c,r,i⟩:=V.same k l
 have s:(iO (mN (aX L) (ae (aa 5) (ae (aa 6) (ae (aa 3) (ae (aa 4) ah)))))) (LE N2 P E3 υ W1 b t (oI u7) Ψ u0 A0 S0 E1) a=.ok (.bl false) c:=by
  show((bZ (nr _)).bind _)=_
  rw[r];rfl
 have u:=V.keep i;have n:=l.keep i;obtain⟨d,h,w,x,o,_⟩:=p _ b _ Q Tr n;obtain⟨y,A,B⟩:=(u.keep o).same k x
 have j:∃f,(iN (m2 (aH .Eq) (m2 (aY .Mod) (aa 7) (ai (.int 4))) (ai (.int 1))) (iO (mN (aX L) (ae (aZ "House" "copied" Q3 (aa 5) ah) (ae (aa 6) (ae (aa 3) (ae (aa 4) ah))))))) (LE N2 P E3 υ W1 b t (oI u7) Ψ u0 A0 S0 E1) c=.ok (.bl false) f/\af [] c f:=by
  have q:(m2 (aH .Eq) (m2 (aY .Mod) (aa 7) (ai (.int 4))) (ai (.int 1))) (LE N2 P E3 υ W1 b t (oI u7) Ψ u0 A0 S0 E1) c=.ok (.bl (decide ((u7:Int)%4=1))) c:=by
   rfl
  rw[kr,q,aw]
  by_cases z:(u7:Int)%4=1
  .rw[decide_eq_true z]
   exact⟨_,(by
  have m:aZ "House" "copied" Q3 (aa 5) ah (LE N2 P E3 υ W1 b t (oI u7) Ψ u0 A0 S0 E1) c=.ok (.ref d) h:=by
   rw[b9 n rfl (by decide)]
   show nr (Q3 [.ref b] c)=_
   rw[w];rfl
  rw[Co,dX,a6,m]
  show((bZ (nr (L [.ref d,.ref t,.ref υ,.ref W1] h))).bind _)=_
  rw[A];rfl),o.trans B⟩
  .rw[decide_eq_false z]
   exact⟨_,rfl,af.refl⟩
 obtain⟨f,j,C⟩:=j;refine⟨_,?_,i.trans C⟩;unfold OT;rw[ag,bU,s]
 show sq (.nx _ _) _=_
 rw[aD,ag,bU,j];rfl
def MD(F C:List D->Out Rs)(a b c d e f:a_):SM:=
 (ak (aF 8 (mN (bF C) (ae (aa 0) (ae (m2 (aY .Add) (ai (.int 34)) (aa 7)) ah))))
 (ak (aF 9 (m2 aM (aa 2) (mN (bF F) (ae (aa 8) (ae (ai (.int 0)) (ae (aa 1) ah))))))
 (ak (dR (m2 (aH .NotIn) (aa 9) (aa 6)) (MC F a b) (Ku c d))
 (OT e f))))
variable{y8 z8:a_}
theorem GU(o:et y3 y1)(s:eS W4 E5)(C:Eo L)(D:Du Q3)(E:vS L5)(F:vR m6)(G:sN y8)(H:CT z8)(V:Lv a E3 υ W1 b t D4 g Y y0 Q)(T:P=g.length)(U:1<=g.length)(I:∀n∈g,vI n):
  ∃h j k u w d e f ax,MD y1 E5 L Q3 L5 m6 y8 z8 (LE N2 P E3 υ W1 b t (oI u7) Ψ u0 A0 S0 E1) a=.nx (LE N2 P E3 υ W1 b t (oI u7) u w d e f) ax/\Lv ax E3 υ W1 b t D4 g h j k:=by
 obtain⟨X,Z,B⟩:=o (W4 N2 (34+u7)) 0 P (by omega) (by omega) (by omega)
 obtain⟨p,J⟩:∃p:Nat,(p:Int)=y3 (W4 N2 (34+u7)) 0 P:=⟨(y3 (W4 N2 (34+u7)) 0 P).toNat,by omega⟩
 rw[←J]at B;have x:p<g.length:=by omega
 have K:aF 8 (mN (bF E5) (ae (aa 0) (ae (m2 (aY .Add) (ai (.int 34)) (aa 7)) ah))) (LE N2 P E3 υ W1 b t (oI u7) Ψ u0 A0 S0 E1) a=.nx (LE N2 P E3 υ W1 b t (oI u7) (some (.int (W4 N2 (34+u7)))) u0 A0 S0 E1) a:=by simp[LE,(by
  have:=s N2 (34+u7);rwa[show((34+u7:Nat):Int)=34+(u7:Int)by omega]at this)]
 generalize W4 N2 (34+u7)=c at *
 have M:aF 9 (m2 aM (aa 2) (mN (bF y1) (ae (aa 8) (ae (ai (.int 0)) (ae (aa 1) ah))))) (LE N2 P E3 υ W1 b t (oI u7) (some (.int c)) u0 A0 S0 E1) a=.nx (LE N2 P E3 υ W1 b t (oI u7) (some (.int c)) (oS g[p]) A0 S0 E1) a:=by
  have:(mN (bF y1) (ae (aa 8) (ae (ai (.int 0)) (ae (aa 1) ah)))) (LE N2 P E3 υ W1 b t (oI u7) (some (.int c)) u0 A0 S0 E1) a=.ok (.int p) a:=by simp[LE,B]
  show bu (((mN (bF y1) _) _ a).bind _) _=_
  rw[this,aw];have N:=cq (P:=(p:Int)) (m:=.str g[p]) V.nm (L2.cJ (by simp))
  rw[N];rfl
 have q:=List.getElem_mem x;generalize g[p]=n at *;have y:(m2 (aH .NotIn) (aa 9) (aa 6)) (LE N2 P E3 υ W1 b t (oI u7) (some (.int c)) (oS n) A0 S0 E1) a=.ok _ a:=kz V.od
 have O:∃h j k d e f i,(dR (m2 (aH .NotIn) (aa 9) (aa 6)) (MC y1 L Q3) (Ku L5 m6)) (LE N2 P E3 υ W1 b t (oI u7) (some (.int c)) (oS n) A0 S0 E1) a=.nx (LE N2 P E3 υ W1 b t (oI u7) (some (.int c)) (oS n) d e f) i/\Lv i E3 υ W1 b t D4 g h j k:=by
  rw[bU,y]
  by_cases z:n∈Y
  .obtain⟨h,f,i,r,l,_⟩:=GO E F V z
   rw[decide_eq_true z];exact⟨h,y0,Q,A0,S0,f,i,r,l⟩
  .obtain⟨h,j,k,d,e,i,r,l,_⟩:=GR o C D V q z (I n q)
   rw[decide_eq_false z];exact⟨h,j,k,d,e,E1,i,r,l⟩
 obtain⟨h,j,k,d,e,f,i,r,l⟩:=O;obtain⟨A,R,S⟩:=GS G H l;refine⟨h,j,k,some (.int c),oS n,d,e,f,A,?_,l.keep S⟩;unfold MD;rw[ag,K,aD,ag,M,aD,ag,r,aD,R]
theorem OU(f:et y3 y1)(h:eS W4 E5)(m:Eo L)(o:Du Q3)(p:vS L5)(q:vR m6)(s:sN y8)(u:CT z8)(V:Lv a E3 υ W1 b t D4 g Y y0 Q)(w:P=g.length)(x:1<=g.length)(y:∀n∈g,vI n):
  ∃d ax,dw (cV 7) (cU (ae (ai (.int 10)) ah)) (MD y1 E5 L Q3 L5 m6 y8 z8) (LE N2 P E3 υ W1 b t none Ψ u0 A0 S0 E1) a=.nx d ax:=by
 have k:cU (ae (ai (.int 10)) ah) (LE N2 P E3 υ W1 b t none Ψ u0 A0 S0 E1) a=.ok (.ints 0 10) a:=by rfl
 rw[cR,k,cM];refine bX (R:=λr=>∃d ax,r=.nx d ax) (λi e c=>∃Y y0 Q l Ψ u0 A0 S0 E1,e=LE N2 P E3 υ W1 b t l Ψ u0 A0 S0 E1/\Lv c E3 υ W1 b t D4 g Y y0 Q) (λi e c _=>rfl) ?_ (λe c _=>⟨e,_,rfl⟩) _ 0 _ _ (by unfold fuel;simp[intsFrom]) (Nat.zero_le _) ⟨Y,y0,Q,_,Ψ,u0,_,_,_,rfl,V⟩
 rintro i z e c A ⟨Y,y0,Q,l,Ψ,u0,A0,S0,E1,rfl,V⟩
 obtain⟨j,rfl⟩:∃j:Nat,z=.int j:=by
  have:=List.mem_of_getElem? A;simp[intsFrom]at this;rcases this with rfl|rfl|rfl|rfl|rfl|rfl|rfl|rfl|rfl|rfl
  .exact⟨0,rfl⟩
  .exact⟨1,rfl⟩
  .exact⟨2,rfl⟩
  .exact⟨3,rfl⟩
  .exact⟨4,rfl⟩
  .exact⟨5,rfl⟩
  .exact⟨6,rfl⟩
  .exact⟨7,rfl⟩
  .exact⟨8,rfl⟩
  .exact⟨9,rfl⟩
 obtain⟨B,C,D,E,F,G,H,I,J,K,M⟩:=GU f h m o p q s u V w x y;refine⟨LE N2 P E3 υ W1 b t _ Ψ u0 _ _ _,rfl,?_⟩;rw[K];exact⟨_,C,D,_,E,F,_,_,_,rfl,M⟩
def DA(F C:List D->Out Rs)(a b c d e f g h i j k:a_):SM:=
 (ak (aF 1 (Mz C))
 (ak (aF 2 (mN (aX a) (ae (mN (bF C) (ae (aa 0) (ae (ai (.int 1)) ah))) (ae (aa 1) ah))))
 (ak (yE [3,4] (mN (aX b) (ae (aa 2) (ae (mN (aX c) (ae (aa 0) (ae (ai (.int 2)) (ae (aa 2) (ae (ai (.int 3)) ah))))) ah))))
 (ak (aF 5 (mN (aX d) (ae (aa 0) (ae (aa 2) (ae (aa 3) ah)))))
 (ak (dR (m2 (aH .Is) (aa 5) (ai .non)) rF ao)
 (ak (aF 6 (aZ "House" "kinds" e (aa 5) ah))
 (ak (dw (cV 7) (cU (ae (ai (.int 10)) ah)) (MD F C f g h i j k))
 (ak (bS (ai (.bl true)))
 ao))))))))
theorem zV{T U X Y Z:a_}(C:et y3 y1)(p:eS W4 E5)(hN:Gy L)(hC:Gq Q3)(hR:GC L5)(hL:OS m6)(hK:qQ y8)(hM:Eo z8)(hA:Du T)(hH:vS U)(hT:vR X)(hS:sN Y)(hP:CT Z):
  ∃ax,bT 13 1 (DA y1 E5 L Q3 L5 m6 y8 z8 T U X Y Z) [SC N2] []=.ok (.bl true) ax:=by
 rw[bj (by rfl)]
 have e0:a7 13 [SC N2]=[some (SC N2),none,none,none,none,none,none,none,none,none,none,none,none]:=rfl;rw[e0];obtain⟨m,q,m1,m7,em⟩:=GH (B:=[some (SC N2),none,none,none,none,none,none,none,none,none,none,none,none]) (a:=[]) p rfl;have r1:aF 1 (Mz E5) [some (SC N2),none,none,none,none,none,none,none,none,none,none,none,none] []=.nx [some (SC N2),oI m,none,none,none,none,none,none,none,none,none,none,none] q:=by rw[cb,em];rfl
 have k1:E5 [SC N2,.int 1]=.ok (false,.int (W4 N2 1)):=p N2 1;obtain⟨D,x,e,F,x2,x3,x4,H,K1⟩:=hN q (W4 N2 1) m (by omega) (by omega)
 have r2:aF 2 (mN (aX L) (ae (mN (bF E5) (ae (aa 0) (ae (ai (.int 1)) ah))) (ae (aa 1) ah))) [some (SC N2),oI m,none,none,none,none,none,none,none,none,none,none,none] q=.nx [some (SC N2),oI m,oR x,none,none,none,none,none,none,none,none,none,none] e:=by simp[k1,x4]
 obtain⟨k,js,rs,u,c5,R5,l5,r5,K5⟩:=hR e N2 2 x 3 _ H F (by omega)
 obtain⟨E,c,d,l,w,I,f,c6,K6,c2,G,J,K,z,M,c7⟩:=hC u x k js _ rs (K5.get _ _ H (by simp)) R5 l5 F (by omega) (λi r h=>by
  obtain⟨q1,q2,q3⟩:=r5 i r h;exact⟨q1,by omega,q3⟩)
 have e1:(mN (aX L5) (ae (aa 0) (ae (ai (.int 2)) (ae (aa 2) (ae (ai (.int 3)) ah))))) [some (SC N2),oI m,oR x,none,none,none,none,none,none,none,none,none,none] e=.ok (.ref k) u:=by
  simp_all
 have v2:aa 2 [some (SC N2),oI m,oR x,none,none,none,none,none,none,none,none,none,none] e=.ok (.ref x) e:=rfl
 have r3:yE [3,4] (mN (aX Q3) (ae (aa 2) (ae (mN (aX L5) (ae (aa 0) (ae (ai (.int 2)) (ae (aa 2) (ae (ai (.int 3)) ah))))) ah))) [some (SC N2),oI m,oR x,none,none,none,none,none,none,none,none,none,none] e=.nx [some (SC N2),oI m,oR x,oR d,oR l,none,none,none,none,none,none,none,none] f:=by
  simp_all
 have s:=(K5.trans K6).get _ _ H (by simp)
 have hE:aP D (cB E)=E:=by rw[←c2];exact zB G.nd
 rw[←hE]at K G;obtain⟨h,e',l',ys,n,e5,N,G5,hp,K7,lh,le,ll⟩:=hL f N2 x d w D (cB E) c s (.inl J) K G (by omega) x2
 have r4:aF 5 (mN (aX m6) (ae (aa 0) (ae (aa 2) (ae (aa 3) ah)))) [some (SC N2),oI m,oR x,oR d,oR l,none,none,none,none,none,none,none,none] f=.nx [some (SC N2),oI m,oR x,oR d,oR l,oR h,none,none,none,none,none,none,none] n:=by
  show bu (nr (m6 [SC N2,.ref x,.ref d] f)) _=_
  rw[e5];rfl
 obtain⟨o,A,e6,g6,t,lo⟩:=hK n h _ c Tr N.at;rw[az]at g6
 have r6:aF 6 (aZ "House" "kinds" y8 (aa 5) ah) [some (SC N2),oI m,oR x,oR d,oR l,oR h,none,none,none,none,none,none,none] n=.nx (LE N2 m x d l h o none none none none none none) A:=by
  rw[cb,b9 N.at rfl (by decide)]
  simp_all
 have g:=K7.trans t;have l4:=K7.len;have dx:=bc s;have dd:=bc J;have dl:=bc z
 have V:Lv A x d l h o f.length D ys (cB E) c:=by
  refine⟨⟨e',l',?_,le,ll⟩,G5,g6,⟨w,g.get _ _ J (by simp),(K.lt.imp λj O=>by omega).keep g (by simp)⟩,⟨I,g.get _ _ z (by simp),(M.lt.imp λj O=>by omega).keep g (by simp)⟩,g.get _ _ s (by simp),λy Q=>hp.mem_iff.mp Q,λy Q=>?_,F,by omega,dd,dl,c7,by omega⟩
  .obtain⟨a,b,h1,h2,h3,h4,h5⟩:=N
   exact⟨a,b,t.get _ _ h1 (by simp),t.get _ _ h2 (by simp),(h3.lt.imp λj O=>by omega).keep t (by simp),t.get _ _ h4 (by simp),(h5.lt.imp λj O=>by omega).keep t (by simp)⟩
  .obtain⟨i,hi,R⟩:=List.mem_iff_getElem.mp Q
   have:=G.el i (y,cB E y) (by unfold aP;rw[List.getElem?_map,List.getElem?_eq_getElem hi,R];rfl)
   exact⟨this.1,this.2.1⟩
 obtain⟨a0,S,r7⟩:=OU (N2:=N2) (P:=(m:Int)) (Ψ:=none) (u0:=none) (A0:=none) (S0:=none) (E1:=none) C p hM hA hH hT hS hP V (by omega) (by omega) x2
 refine⟨S,?_⟩;unfold DA;rw[ag,r1,aD,ag,r2,aD,ag,r3,aD,ag,r4,aD,ag]
 show gR (sq (.nx _ n) _)=_
 simp_all
end Mir
namespace Mir
open PySem PySem.Spec PyProof.Rows L2
structure nI(K:PySem.W.Frag)(C:Addr)(x qual:Str)(st:Stmt)(f:Addr)(fd:FuncData):Prop where
 me:Meth K C x f
 fn:vU K x qual st f fd
variable{D3 D5:Option Addr}{G h:Addr}{H M5 N5 Q0 x6 z5:Value}{T d:Str}{v5:Array (Option Value)}{x:PySem.W.Frag}{Δ:Stmt}
theorem q7(a:PySem.W.findIn x (.ref h) d=some (some (.ref G)))(l:x.lookup G=some ⟨H,D3,.func (PySem.W.fnOf d T (bq Δ) (aV Δ) (aj Δ) .none Q0 z5 M5 D5 N5 x6),v5⟩)(c:PySem.W.codeIn x N5 T=true)(k:PySem.W.keepIn x (.ref G)=true)(i:PySem.W.isFn x (.ref G)=true):nI x h d T Δ G (PySem.W.fnOf d T (bq Δ) (aV Δ) (aj Δ) .none Q0 z5 M5 D5 N5 x6):=⟨⟨a,i,k⟩,n_ l c k⟩
variable [jn]
variable{ς:FuncData}
theorem i3(F:vU x d T Δ h ς):vH x d T Δ .none h ς:=⟨F.ex,F.kp⟩
variable{A:World}{A3 w:Heap}{E4 Y g:List Str}{b:Nat}{z:Program}{Θ:SM}{θ:Str->Option Value}{χ:aQ}
theorem aR.OV(W:aR z A x θ w χ b)(X:x.In A3)(G:A3.Ns mainGlobals θ)(a:lJ x d Δ h ς)(i:eZ g Y (aj Δ)=true)(j:tX χ E4 Δ g=some Θ)(k:∀(kV c l:Value) (m:Option Addr) (e ct:Value) (f:List Value),f.length=Y.length->bindArgs (PySem.W.fnOf d d (bq Δ) (aV Δ) (aj Δ) .none kV c l m e ct) ⟨f,[]⟩=pure (Y.zip f)):
  aR z A x θ w (χ.ej d (bT g.length Y.length Θ)) (b+1):=W.ej (PySem.W.mg_of X G a.ns) a.fn.kp (a.fn.binds k) (pb W (i3 a.fn) i j)
variable{v3:Str}
theorem aR.OW(W:aR z A x θ w χ b)(i:θ v3=some (.ref h))(j:ke x h)(a:nI x h d T Δ G ς)(k:eZ g Y (aj Δ)=true)(l:tX χ E4 Δ g=some Θ)(m:∀(kV c n:Value) (o:Option Addr) (e ct:Value) (f:List Value),f.length=Y.length->bindArgs (PySem.W.fnOf d T (bq Δ) (aV Δ) (aj Δ) .none kV c n o e ct) ⟨f,[]⟩=pure (Y.zip f)):
  aR z A x θ w (χ.fh v3 d (bT g.length Y.length Θ)) (b+1):=W.fh i j a.me (a.fn.binds m) (pb W (i3 a.fn) k l)
abbrev q_(K:PySem.W.Frag)(C:Addr)(x qual:Str)(st:Stmt):Prop:=∃f a,nI K C x qual st f a
abbrev gT(K:PySem.W.Frag)(x:Str)(st:Stmt):Prop:=∃f a,lJ K x st f a
structure OX(K:PySem.W.Frag)(C:Str)(a:Addr):Prop where
 ns:PySem.W.nsIn K mainGlobals C=some (some (.ref a))
 pg:PySem.W.plainGet K a Str.empty=true
 hd:PySem.W.hasDictIn K a=true
 po:PySem.W.plainOver K a=true
 sa:PySem.W.findIn K (.ref a) "__setattr__"=some (some (.builtin "object.__setattr__"))
 ma:PySem.W.makesIn K a=true
 kc:PySem.W.keepIn K (.ref a)=true
theorem OX.cl(c:OX x d h):ke x h:=⟨c.pg,c.hd,c.po,c.sa⟩
variable{R6:Value->Value->Value->Option Addr->Value->Value->List Value->Prop}
theorem zZ(h:∀a b c d e f x,R6 a b c d e f [x]):∀a b c d e f g,g.length=1->R6 a b c d e f g:=λ_ _ _ _ _ _ g i=>match g,i with|[_],_=>h ..
theorem ux(h:∀a b c d e f x y,R6 a b c d e f [x,y]):∀a b c d e f g,g.length=2->R6 a b c d e f g:=λ_ _ _ _ _ _ g i=>match g,i with|[_,_],_=>h ..
theorem ME(h:∀a b c d e f x y z,R6 a b c d e f [x,y,z]):∀a b c d e f g,g.length=3->R6 a b c d e f g:=λ_ _ _ _ _ _ g i=>match g,i with|[_,_,_],_=>h ..
theorem Rp(h:∀a b c d e f x y z w,R6 a b c d e f [x,y,z,w]):∀a b c d e f g,g.length=4->R6 a b c d e f g:=λ_ _ _ _ _ _ g i=>match g,i with|[_,_,_,_],_=>h ..
structure Df(T:aQ)(st:Stmt)(N:List Str)(n:Nat)(c:SM):Prop where
 s:(eZ N (N.take n) (aj st)&&(N.take n).length==n)=true
 k:tX T [] st N=some c
theorem Df.sc(d:Df χ Δ g b Θ):eZ g (g.take b) (aj Δ)=true:=(Bool.and_eq_true_iff.mp d.s).1
theorem Df.ln(d:Df χ Δ g b Θ):(g.take b).length=b:=eq_of_beq (Bool.and_eq_true_iff.mp d.s).2
variable{t:Nat}
theorem aR.dF(W:aR z A x θ w χ b)(X:x.In A3)(G:A3.Ns mainGlobals θ)(a:gT x d Δ)(c:Df χ Δ g t Θ)(m:∀(kV j n:Value) (o:Option Addr) (l ct:Value) (i:List Value),i.length=t->bindArgs (PySem.W.fnOf d d (bq Δ) (aV Δ) (aj Δ) .none kV j n o l ct) ⟨i,[]⟩=pure ((g.take t).zip i)):
  aR z A x θ w (χ.ej d (bT g.length t Θ)) (b+1):=by
 obtain⟨_,_,a⟩:=a;have:=W.OV X G a c.sc c.k λa h Θ p e f i A3=>m a h Θ p e f i (A3.trans c.ln)
 rwa[c.ln]at this
theorem aR.dM(W:aR z A x θ w χ b)(o:θ v3=some (.ref h))(p:ke x h)(a:q_ x h d T Δ)(c:Df χ Δ g t Θ)(q:∀(kV m r:Value) (s:Option Addr) (n ct:Value) (l:List Value),l.length=t->bindArgs (PySem.W.fnOf d T (bq Δ) (aV Δ) (aj Δ) .none kV m r s n ct) ⟨l,[]⟩=pure ((g.take t).zip l)):
  aR z A x θ w (χ.fh v3 d (bT g.length t Θ)) (b+1):=by
 obtain⟨_,_,a⟩:=a;have:=W.OW o p a c.sc c.k λa i Θ u e f l j=>q a i Θ u e f l (j.trans c.ln)
 rwa[c.ln]at this
theorem Df.ok(a:Df χ Δ g t Θ)(W:aR z A x θ w χ b)(F:vH x d T Δ H h ς):bx z A x θ w eB (b+1) h ς (g.take t) (cD (cE θ) (bT g.length t Θ)):=by
 have:=pb W F a.sc a.k;rwa[a.ln]at this
variable{C l:Pos}{E:List Expr}{I:List V}{L:a_}{c:Cx}{d0:AM}{i:Str->Addr->Prop}{j:Expr}{p:gX}{q:List D}{ψ:List Value}
theorem nJ(F1:bx c.prog c.w c.K c.mg c.base eB b h ς g (cD i L))(s:bA b c.A)(t:Gl c d)(u:c.mg d=some (.ref h))(x:PySem.W.keepIn c.K (.ref h)=true)(y:Binds c.K ς g ψ)(z:Vals I ψ)(B:∀e Z H,aG (au e Z H) q I)(f:(d==("__debug__":Str))=false)(D:starEach (j::E) c.env=(false,eval j c.env)::starEach E c.env)(k:(backTo C (starEach E c.env)).any (·.1)=false)(F:mY c i p (j::E) d0):
  bo c i p (.Call (.Name d l) (j::E) [] C) (mN (λxs m=>aX L (xs++q) m) d0):=by
 intro n G J M m;refine PE.imp (nV F1 s t u x y z iy (F n G J M m) f D k) ?_;rintro T H Q ⟨e,Z,S,a⟩;refine⟨e,Z,S,mX.use a λxs o _ U V r N X O P R=>⟨r,N,o,xs++q,O,P.append (B _ _ _),bE.ok0 R⟩⟩
def rowOf(st:Stmt)(i:Nat)(f:Str):iA:=match (aV st).getD i (.Pass ⟨0,0,0,0⟩)with
 |.Assign [.Attribute (.Name _ a) _ b] v c=>⟨f,v,a,b,c⟩
 |_=>⟨f,.Constant .none 0 ⟨0,0,0,0⟩,⟨0,0,0,0⟩,⟨0,0,0,0⟩,⟨0,0,0,0⟩⟩
structure Rq(K:PySem.W.Frag)(x qual:Str)(st:Stmt)(C N f c:Addr)(fd:FuncData):Prop where
 a:PySem.W.nsIn K mainGlobals x=some (some (.ref C))
 cl:kM K C N f
 fn:vU K "__init__" qual st f fd
 cv:fd.code=.ref c
 is:KG K C
variable{B5:Str}{G7:ClassData}{P5 Q5 S5 T3 T5:Option Value}{W3 d6:List Value}{Y5:Option Bool}{v0 Ξ:Addr}{y:Bool}
theorem GV(b:PySem.W.nsIn x mainGlobals d=some (some (.ref h)))(c:x.lookup h=some (excClassObj v3 B5 h G ψ W3 true g d6 y Y5 D3 T3 P5 Q5 S5 T5 "ValueError.__new__"))(nC:PySem.W.nsIn x G "__init__"=some (some (.ref Ξ)))(tC:pS x W3=true)(e:PySem.W.clsIn x h=some G7)(f:eQ G7.mro=true)(i:G7.hasDict=true)(j:PySem.W.findIn x (.ref h) "__setattr__"=some (some (.builtin "object.__setattr__")))(k:PySem.W.findIn x (.ref h) "__getattribute__"=some (some (.builtin "BaseException.__getattribute__")))(l:PySem.W.findIn x (.ref h) "__getattr__"=some none)(m:PySem.W.mroIn x h (.type "BaseException")=some true)(n:PySem.W.hasDictIn x h=true)(o:KH x G "__init__"=some (some (.ref Ξ)))(p:PySem.W.keepIn x (.ref h)=true)(q:PySem.W.typeIn x (.ref Ξ)=some (.type "function")){a:Option Addr}(r:x.lookup Ξ=some ⟨H,D5,.func (PySem.W.fnOf "__init__" T (bq Δ) (aV Δ) (aj Δ) .none Q0 z5 M5 a (.ref v0) N5),v5⟩)(s:PySem.W.codeIn x (.ref v0) T=true)(t:PySem.W.keepIn x (.ref Ξ)=true)(u:PySem.W.findIn x (.ref h) "__class__"=some (some (.builtin "object.__class__")))(w:PySem.W.specialIn x (.builtin "object.__class__") "__get__"=some (some (.builtin "getset_descriptor.__get__")))(z:PySem.W.takesIn x (.builtin "object.__class__")=some true)(A:PySem.W.mroIn x h (.type "object")=some true):Rq x d T Δ h G Ξ v0 (PySem.W.fnOf "__init__" T (bq Δ) (aV Δ) (aj Δ) .none Q0 z5 M5 a (.ref v0) N5):=
 ⟨b,⟨⟨_,_,_,_,_,_,_,_,_,_,_,_,_,_,c,tf tC⟩,⟨_,e,f,i⟩,j,⟨k,l,m⟩,n,DS o,p,q⟩,n_ r s t,rfl,⟨u,w,z,A⟩⟩
end Mir
namespace OY
open PySem PySem.Spec PyProof.Rows L2 Mir
noncomputable def top(i:Nat):Stmt:=PySem.Challenge.pw_taglook_k29_dropped_and_placed.main.body.getD i (.Pass ⟨0,0,0,0⟩)
instance clos:jn:=⟨λ_=>⟨"","",bq (top 0),[],aj (top 0),[],[]⟩,λ_=>0⟩
def OZ:aQ:=(((((((({}:aQ).jX "MOST_ELDERS" (.int 5)).jX "MOST_KINDS" (.int 12)).jX "MOST_LETTERS" (.int 8)).jX "LETTERS" (.str "abcdefghijklmnopqrstuvwxyz")).jX "DEEPEST" (.int 8)).vE "elders" ["House"]).vE "lines" ["House"])
def RT:a_:=bT 2 2 lL
def F0:List Mir.D->Out Rs:=pureOf RT
def O_:aQ:=OZ.vD "_law_cell" F0
theorem RU:Df OZ (top 34) ["_law_script","_law_k"] 2 lL:=⟨by decide +kernel,rfl⟩
def RW:a_:=bT 8 3 nB
def F1:List Mir.D->Out Rs:=pureOf RW
def Rr:aQ:=O_.vD "_law_mix" F1
theorem RX:Df O_ (top 35) ["_law_cell_here","_law_turn","_law_many","_law_rest","_law_k","_law_turns","_law_one","_law_two"] 3 nB:=⟨by decide +kernel,rfl⟩
def U0:aQ:=Rr
def O0:a_:=bT 2 2 zL
theorem RY:Df U0 (top 3) ["thing","depth"] 2 zL:=⟨by decide +kernel,rfl⟩
def O1:a_:=bT 1 1 L_
def U2:aQ:=U0.ej "is_name" O1
theorem RZ:Df U0 (top 20) ["thing"] 1 L_:=⟨by decide +kernel,rfl⟩
def O2:a_:=bT 4 2 sr
def U3:aQ:=U2.ej "place_behind" O2
theorem R8:Df U2 (top 24) ["left","name","place","row"] 2 sr:=⟨by decide +kernel,rfl⟩
def O3:a_:=bT 2 1 (zf O2)
def U4:aQ:=U3.ej "free_name" O3
theorem R9:Df U3 (top 23) ["left","row"] 1 (zf O2):=⟨by decide +kernel,rfl⟩
def O4:a_:=bT 4 1 (CL bO O3)
def U5:aQ:=U4.ej "merged" O4
theorem R_:Df U4 (top 22) ["rows","left","order","name"] 1 (CL bO O3):=⟨by decide +kernel,rfl⟩
def O5:a_:=bT 2 2 LU
def U6:aQ:=U5.ej "ready_kinds" O5
theorem Sa:Df U5 (top 15) ["elders","order"] 2 LU:=⟨by decide +kernel,rfl⟩
def O6:a_:=bT 3 1 (LW O5)
def U7:aQ:=U6.ej "elders_first" O6
theorem Sb:Df U6 (top 14) ["elders","order","ready"] 1 (LW O5):=⟨by decide +kernel,rfl⟩
def d7:SM:=Oo O6
 (ak (aF 4 (mN bh ah))
 (ak (aF 2 (m2 aM (aa 3) (ai (.int 0))))
 (ak (jt (m2 (aH .NotIn) (aa 2) (aa 4))
 (ak (cF (dm lP c9 (aa 4) (ae (aa 2) ah)))
 (ak (aF 2 (m2 aM (bC (aa 0) false (m2 (aH .In) (aa 0) (aa 1)) (bf (m2 aM (aa 0) (aa 2))) 0 [3]) (ai (.int 0))))
 ao)))
 (ak bO
 ao))))
def O7:a_:=bT 5 1 d7
def U8:aQ:=U7.ej "loop_of" O7
theorem Sd:Df U7 (top 16) ["elders","order","name","left","met"] 1 d7:=⟨by decide +kernel,rfl⟩
def O8:a_:=bT 2 2 LX
def U9:aQ:=U8.ej "rows_by" O8
theorem Se:Df U8 (top 28) ["lines","own_elders"] 2 LX:=⟨by decide +kernel,rfl⟩
def O9:a_:=fL (bT 6 1 (L9 O7 O6 O4 O8))
def Pa:aQ:=U9.ej "lines_of" O9
theorem Sf:Df U9 (top 27) ["elders","ring","lines","tangles","name","refusal"] 1 (L9 O7 O6 O4 O8):=⟨by decide +kernel,rfl⟩
def GW:a_:=bT 1 1 JT
def Rt:aQ:=Pa.fh "House" "__init__" GW
theorem Pb:Df Pa (inClass (top 32) 0) ["self"] 1 JT:=⟨by decide +kernel,rfl⟩
def Pc:aQ:=Rt.Cn "House" GW
def vY:a_:=bT 1 1 Mb
def Pd:aQ:=Pc.fh "House" "kinds" vY
theorem Pe:Df Pc (inClass (top 32) 5) ["self"] 1 Mb:=⟨by decide +kernel,rfl⟩
def vZ:a_:=bT 2 2 (Mc vY)
def Pf:aQ:=Pd.fh "House" "check_kind" vZ
theorem Pg:Df Pd (inClass (top 32) 11) ["self","name"] 2 (Mc vY):=⟨by decide +kernel,rfl⟩
def MF:a_:=bT 4 2 (Md vZ)
def Ph:aQ:=Pf.fh "House" "check_elders" MF
theorem Pj:Df Pf (inClass (top 32) 12) ["self","elders","place","elder"] 2 (Md vZ):=⟨by decide +kernel,rfl⟩
def MG:a_:=bT 3 2 (Mf O9)
def Pk:aQ:=Ph.fh "House" "settle" MG
theorem Pl:Df Ph (inClass (top 32) 13) ["self","elders","lines"] 2 (Mf O9):=⟨by decide +kernel,rfl⟩
def DB:a_:=bT 5 4 (Mh O1 MF vY MG)
def Ru:aQ:=Pk.fh "House" "add" (λa=>DB (a++[.non]))
theorem Pm:Df Pk (inClass (top 32) 1) ["self","name","elders","at","order"] 4 (Mh O1 MF vY MG):=⟨by decide +kernel,rfl⟩
def Rv:aQ:={Ru with I_:=[(("add","at"),"House",DB)]}
def MH:aQ:=Rv.fh "House" "add" DB
noncomputable def Pn:List Str:=["self","name","kind","elders"]
noncomputable def Rx:List Str:=["self","name"]
def ms:List EM:=[mN (λa b=>aX O0 (a++[.int 0]) b) (ae (aa 1) ah),mN (λa b=>aX O0 (a++[.int 0]) b) (ae (aa 2) ah)]
def fm:List (Str×EM):=([("name":Str),"heir"]).zip ms
def Po:aQ:={MH with xt:=true}
def GX:a_:=bT 4 2 (Kn vZ fm)
theorem Pp:eZ Pn Rx (aj (inClass (top 32) 2))=true:=by decide +kernel
theorem Kz:cW (mu (Ek Po (aj (inClass (top 32) 2)) Pn "Heired" 2 fm) Po [] 60 (aj (inClass (top 32) 2)) Pn 30) (aV (inClass (top 32) 2))=some (Kn vZ fm):=rfl
def MI:a_:=bT 2 2 (Mt vZ)
def Pq:aQ:=MH.fh "House" "elders_of" MI
theorem Pr:Df MH (inClass (top 32) 6) ["self","name"] 2 (Mt vZ):=⟨by decide +kernel,rfl⟩
def MJ:a_:=bT 2 2 (Me vZ)
def Pt:aQ:=Pq.fh "House" "line" MJ
theorem Pu:Df Pq (inClass (top 32) 7) ["self","name"] 2 (Me vZ):=⟨by decide +kernel,rfl⟩
def MK:a_:=fL (bT 2 2 (Mu vZ))
def Pw:aQ:=Pt.fh "House" "heirs" MK
theorem Px:Df Pt (inClass (top 32) 9) ["self","name"] 2 (Mu vZ):=⟨by decide +kernel,rfl⟩
def ML:a_:=bT 2 1 (Mj GW)
def Py:aQ:=Pw.fh "House" "copied" ML
theorem Pz:Df Pw (inClass (top 32) 10) ["self","twin"] 1 (Mj GW):=⟨by decide +kernel,rfl⟩
def MM:a_:=bT 11 2 (Mq F1)
def PB:aQ:=Py.ej "_law_names" MM
theorem PC:Df Py (top 36) ["_law_cell_here","_law_many","_law_letters","_law_stem","_law_turn","_law_names_here","_law_size","_law_spot","_law_first","_law_step","_law_signs"] 2 (Mq F1):=⟨by decide +kernel,rfl⟩
def MN:a_:=bT 9 4 (Ms F1 F0)
def PD:aQ:=PB.ej "_law_rows" MN
theorem PF:Df PB (top 37) ["_law_script","_law_start","_law_names_here","_law_most","_law_rows_here","_law_k","_law_cell_here","_law_row","_law_spot"] 4 (Ms F1 F0):=⟨by decide +kernel,rfl⟩
def GY:a_:=bT 7 1 Ei
def PH:aQ:=PD.ej "_law_merge" GY
theorem PJ:Df PD (top 38) ["_law_rows_here","_law_row","_law_left","_law_told_here","_law_behind","_law_name","_law_free"] 1 Ei:=⟨by decide +kernel,rfl⟩
def MO:a_:=bT 7 2 (Mn GY)
def PL:aQ:=PH.ej "_law_clean" MO
theorem PM:Df PH (top 39) ["_law_names_here","_law_rows_here","_law_elders","_law_lines","_law_k","_law_row","_law_behind"] 2 (Mn GY):=⟨by decide +kernel,rfl⟩
def MP:a_:=bT 9 3 (Dx F1 F0 GW DB vY)
def Ry:aQ:=PL.ej "_law_added" MP
theorem PN:Df PL (top 40) ["_law_script","_law_names_here","_law_rows_here","_law_house","_law_order","_law_k","_law_name","_law_cell_here","_law_spot"] 3 (Dx F1 F0 GW DB vY):=⟨by decide +kernel,rfl⟩
def Sg:SM:=Mv "House" "drop" GX "Heired" "name" "heir"
def MQ:a_:=fL (bT 4 2 Sg)
def PQ:aQ:=Ry.ej "_law_told" MQ
theorem PR:eZ ["_law_house","_law_name","_law_told_here","e"] ["_law_house","_law_name"] (aj (top 41))=true:=by decide +kernel
def MR:a_:=bT 4 3 Mx
def PU:aQ:=PQ.ej "_law_heir" MR
theorem PV:Df PQ (top 42) ["_law_order","_law_elders","_law_name","_law_some"] 3 Mx:=⟨by decide +kernel,rfl⟩
def MS:a_:=bT 5 4 (My vY MK MJ MI)
def Rz:aQ:=PU.ej "_law_same" MS
theorem PX:Df PU (top 43) ["_law_house","_law_order","_law_elders","_law_lines","_law_name"] 4 (My vY MK MJ MI):=⟨by decide +kernel,rfl⟩
def MT:a_:=bT 13 1 (DA F1 F0 MM MO MN MP vY GY DB MR MQ MS ML)
theorem PY:Df Rz (top 44) ["_law_script","_law_many","_law_names_here","_law_elders","_law_lines","_law_house","_law_order","_law_k","_law_cell_here","_law_name","_law_spot","_law_row","_law_due"] 1 (DA F1 F0 MM MO MN MP vY GY DB MR MQ MS ML):=⟨by decide +kernel,rfl⟩
theorem Sh:ON fm:=λc a b=>by
 have e:(mN (λd c=>aX O0 (d++[.int 0]) c) (ae (aa 1) ah)) [none,some (.str a),some (.str b)] c=.ok (.str a) c:=by
  show nr (bT 2 2 zL [.str a,.int 0] c)=_
  rw[El];rfl
 have f:(mN (λd c=>aX O0 (d++[.int 0]) c) (ae (aa 2) ah)) [none,some (.str a),some (.str b)] c=.ok (.str b) c:=by
  show nr (bT 2 2 zL [.str b,.int 0] c)=_
  rw[El];rfl
 show fN "Heired" [("name",mN (λd c=>aX O0 (d++[.int 0]) c) (ae (aa 1) ah)),("heir",mN (λd c=>aX O0 (d++[.int 0]) c) (ae (aa 2) ah))] [] _ c=_
 rw[fN,e]
 show fN "Heired" [("heir",mN (λd c=>aX O0 (d++[.int 0]) c) (ae (aa 2) ah))] [("name",.str a)] _ c=_
 rw[fN,f];rfl
theorem zW(p:List Int)(Y:p.length<=63):∃ax,MT [.lst (p.map .int)] []=.ok (.bl true) ax:=by
 obtain⟨S,i⟩:∃S,et S F1:=C_;obtain⟨T,j⟩:∃T,eS T F0:=⟨_,zy⟩;have U:FnAt O3:=Jz;have V:CM O4:=JB U;have q:CN O5:=JG;have m:CO O6:=JH q;have r:FW O7:=JI m;have s:CP O8:=JK;have t:Ou O9:=CS (JM r m V s);have n:JV GW:=JW;have f:qQ vY:=JP;have g:qR vZ:=JQ f;have u:F9 MF:=JR g;have w:zt MG:=JX t;have x:FZ O1:=JN;have y:Mi DB:=JZ x u f w;have o:Du DB:=⟨y,λ_ _ _ _=>rfl⟩
 have z:OO GX:=Ko g Sh;have A:vR MQ:=Kp z;have B:GD MI:=Ki g;have C:Ga MJ:=JS g;have D:OK MK:=Di (Kk g);have F:Rb ML:=J6 n.at;have G:Gy MM:=Kg i;have I:GC MN:=Kh i j;have J:CZ GY:=Kb;have K:Eo GY:=GL;have M:Gq MO:=Kc J;have N:OS MP:=zQ i j n o f;have O:vS MR:=Kq;have Q:sN MS:=Kr f D C B;exact zV (N2:=p) i j G M I N f K o O A Q λX h E L P H=>let ⟨k,e,l,R,a,b,c,d,_⟩:=F X h E L P H;⟨k,R,a,b.at,c,d⟩
def stH:Stmt:=inClass (top 9) 0
def PZ:iA:=rowOf stH 0 "name"
def P8:iA:=rowOf stH 1 "heir"
theorem Si:eZ ["self","name","heir"] ["self","name","heir"] (aj stH)=true:=by decide +kernel
variable{A:World}{G h Ξ:Addr}{T6:Tok}{b:Nat}{w:Heap}{x:PySem.W.Frag}{z:Program}{θ:Str->Option Value}{ς:FuncData}{χ:aQ}
theorem Sj(W:aR z A x θ w χ b)(F:bx z A x θ w eB b h ς ["thing","depth"] (cD (cE θ) O0))(r:Binds x ς ["thing","depth"] [.int 0 T6])(s:θ "own_copy"=some (.ref h))(t:PySem.W.keepIn x (.ref h)=true):
    ∀(g:Around) (k:List Env) (i:Shared) (e:Addr) (l:Hp) (n:XK),bA b (g.deeper (envOfC "Heired.__init__" (aj stH) i.heap.objs.size G (.ref Ξ)))->∀p∈[PZ,P8].zip ms,bo ((cO eB z A x θ w ("self"::["name","heir"]) "Heired.__init__" (aj stH) G (.ref Ξ) g k i l n).jP.mk1 e) (cE θ) lQ p.1.ve p.2:=by
  intro g k i e l n o p hp;have f:aR z A x θ w ({}:aQ) b:=(aR.start W.dy).mono (Nat.zero_le b)
  have d:GoodO ((cO eB z A x θ w ["self","name","heir"] "Heired.__init__" (aj stH) G (.ref Ξ) g k i l n).jP.mk1 e) (cE θ) {} b (aj stH) ["self","name","heir"]:=
    { scope:=rfl,names:=rfl,calm:=rfl,room:=o,dy:=f.dy,fld:=f.fld,cst:=f.cst
      je:=λc F a=>⟨f.je c F a⟩,fn:=λc F a=>⟨f.fn c F a⟩,met:=λm C F a=>⟨f.met m C F a⟩,cls:=λC F a=>let ⟨j,u,y⟩:=f.cls C F a;⟨j,u,⟨y⟩⟩,clo:=f.clo }
  rcases List.mem_cons.mp (show p∈[(PZ,_),(P8,_)]from hp)with rfl|hp
  · exact nJ (q:=[.int 0]) (I:=[.int 0]) F o rfl s t r (.cons ⟨T6,rfl⟩ .nil) (λ_ _ _=>.one (by simp only[au])) rfl rfl rfl (iL ((h_ 60 _ (aj stH) ["self","name","heir"] _ (aa 1) d rfl).1 _) kj rfl)
  · rw[List.mem_singleton.mp hp]
    exact nJ (q:=[.int 0]) (I:=[.int 0]) F o rfl s t r (.cons ⟨T6,rfl⟩ .nil) (λ_ _ _=>.one (by simp only[au])) rfl rfl rfl (iL ((h_ 60 _ (aj stH) ["self","name","heir"] _ (aa 2) d rfl).1 _) kj rfl)
set_option maxHeartbeats 0 in
variable{D3 D5:Option Addr}{F6 ω:Obj}{H M5 N5 Q0 x6 z5:Value}{Q6 j3 v0:Addr}{t:Nat}{v5:Array (Option Value)}
theorem all_mk(X:x.In w)(c:w.Ns mainGlobals θ)(D1:θ "law"=some (.ref h))(nb:tA x=true)(z0:PySem.W.nsIn x mainGlobals "DEEPEST"=some (some (.int 8 T6))){q1:Tok}(z1:PySem.W.nsIn x mainGlobals "LETTERS"=some (some (.str "abcdefghijklmnopqrstuvwxyz" q1))){q2:Tok}(z2:PySem.W.nsIn x mainGlobals "MOST_LETTERS"=some (some (.int 8 q2))){q3:Tok}(z3:PySem.W.nsIn x mainGlobals "MOST_KINDS"=some (some (.int 12 q3))){q4:Tok}(z4:PySem.W.nsIn x mainGlobals "MOST_ELDERS"=some (some (.int 5 q4)))(a0:lJ x "_law_cell" (top 34) G ς){E1:FuncData}(a1:lJ x "_law_mix" (top 35) Ξ E1)(S:OX x "House" v0)(G1:PySem.W.findIn x (.ref v0) "elders"=some none)(H1:PySem.W.findIn x (.ref v0) "lines"=some none){p0:Tok}(I1:PySem.W.nsIn x mainGlobals "own_copy"=some (some (.ref Q6)))(J1:x.lookup Q6=some ⟨H,D3,.func (PySem.W.fnOf "own_copy" "own_copy" (bq (top 3)) (aV (top 3)) (aj (top 3)) (.ref j3) Q0 z5 M5 D5 N5 x6),v5⟩)(K1:PySem.W.codeIn x N5 "own_copy"=true)(q0:PySem.W.keepIn x (.ref Q6)=true)(M1:x.lookup j3=some ω)(N1:ω.data=.seq #[.int 0 p0] b)(P1:gT x "is_name" (top 20))(Q1:gT x "place_behind" (top 24))(R1:gT x "free_name" (top 23))(S1:gT x "merged" (top 22))(T1:gT x "ready_kinds" (top 15))(U1:gT x "elders_first" (top 14))(W1:gT x "loop_of" (top 16))(Z1:gT x "rows_by" (top 28)){b2:Addr}{s0:FuncData}(T:lJ x "lines_of" (top 27) b2 s0)(t0:gT x "_law_names" (top 36))(u0:gT x "_law_rows" (top 37))(w0:gT x "_law_merge" (top 38))(x0:gT x "_law_clean" (top 39))(y0:gT x "_law_added" (top 40)){A0:Addr}{Z:FuncData}(B:lJ x "_law_told" (top 41) A0 Z)(C0:gT x "_law_heir" (top 42))(D0:gT x "_law_same" (top 43)){G0:Addr}{c0:FuncData}(q:nI x v0 "__init__" "House.__init__" (inClass (top 32) 0) G0 c0)(I0:q_ x v0 "kinds" "House.kinds" (inClass (top 32) 5))(J0:q_ x v0 "check_kind" "House.check_kind" (inClass (top 32) 11))(K0:q_ x v0 "check_elders" "House.check_elders" (inClass (top 32) 12))(L0:q_ x v0 "settle" "House.settle" (inClass (top 32) 13)){M0:Addr}{d0:FuncData}(F:nI x v0 "drop" "House.drop" (inClass (top 32) 2) M0 d0)(P0:q_ x v0 "elders_of" "House.elders_of" (inClass (top 32) 6))(R0:q_ x v0 "line" "House.line" (inClass (top 32) 7)){S0:Addr}{e0:FuncData}(I:nI x v0 "heirs" "House.heirs" (inClass (top 32) 9) S0 e0)(T0:q_ x v0 "copied" "House.copied" (inClass (top 32) 10)){D:Addr}{u:Addr}{f0 l:Option Addr}{g0:Array (Option Value)}{h0 m n o k p:Value}(J:PySem.W.findIn x (.ref v0) "add"=some (some (.ref u)))(W0:x.lookup u=some ⟨h0,f0,.func (PySem.W.fnOf "add" "House.add" (bq (inClass (top 32) 1)) (aV (inClass (top 32) 1)) (aj (inClass (top 32) 1)) (.ref D) m n o l k p),g0⟩)(c1:PySem.W.codeIn x k "House.add"=true)(C:PySem.W.keepIn x (.ref u)=true)(K:x.lookup D=some F6)(L:F6.data=.seq #[.none] t)(i0:PySem.W.isFn x (.ref u)=true){M:Addr}{j0 N:Option Addr}{l0:Array (Option Value)}{m0 O P Q y R:Value}(e1:PySem.W.nsIn x mainGlobals "law"=some (some (.ref M)))(f1:x.lookup M=some ⟨m0,j0,.func (PySem.W.fnOf "law" "law" (bq (top 44)) (aV (top 44)) (aj (top 44)) .none O P Q N y R),l0⟩)(g1:PySem.W.codeIn x y "law"=true)(h1:PySem.W.keepIn x (.ref M)=true){V NH fH cH:Addr}{c2:FuncData}(U:Rq x "Heired" "Heired.__init__" stH V NH fH cH c2)(i1:PySem.W.findIn x (.ref V) "name"=some none)(j1:PySem.W.findIn x (.ref V) "heir"=some none){B0:Addr}(aB:PySem.W.nsIn x mainGlobals "LookError"=some (some (.ref B0)))(gB:PySem.W.specialIn x (.ref B0) "__getattribute__"=some (some (.builtin "type.__getattribute__")))(rB:PySem.W.readsIn x B0 (.type "type")=true)(iB:PySem.W.findCls x (.ref B0) (.type "type") "__init__"=some (.val (.builtin "ValueError.__init__"))){cN:Addr}(aN:PySem.W.nsIn x mainGlobals "NoKind"=some (some (.ref cN)))(e2:PySem.W.exmOne x (.ref V) (.ref B0)=some true)(k1:PySem.W.kitOne x (.ref V) (.ref V)=some true)(k2:PySem.W.kitOne x (.ref V) (.ref cN)=some false): ∃fd:FuncData,(∀(s:Shared) (v:Value),BindsTo s fd ⟨[v],[]⟩ [("_law_script",v)])/\∀base:Heap,x.In base->base.Ns mainGlobals θ->bx z A x θ base eB 33 h fd ["_law_script"] (cD (cE θ) MT):=by
 have e:=D1.symm.trans (PySem.W.mg_of X c e1);cases e;have b0:=a0.fn.binds (g:=["_law_script","_law_k"]) (ux (by intros;rfl))
 have b1:=a1.fn.binds (g:=["_law_cell_here","_law_turn","_law_many"]) (ME (by intros;rfl))
 have f2:vH x "own_copy" "own_copy" (top 3) (.ref j3) Q6 _:=⟨⟨_,_,_,_,_,_,_,_,_,rfl,J1,K1⟩,q0⟩
 have g2:Binds x (PySem.W.fnOf "own_copy" "own_copy" (bq (top 3)) (aV (top 3)) (aj (top 3)) (.ref j3) Q0 z5 M5 D5 N5 x6) ["thing","depth"] [.int 0 p0]:=λs us X hl=>by
  match us,hl with
  |[],w=>simp at w
  |[_],_=>exact PySem.W.binds_K X rfl M1 N1 rfl rfl
  |_::_::_,w=>simp at w
 have h2:=T.fn.binds (g:=["elders"]) (zZ (by intros;rfl))
 have Y:=q.fn.binds (g:=["self"]) (zZ (by intros;rfl))
 have l1:vH x "add" "House.add" (inClass (top 32) 1) (.ref D) u _:=⟨⟨_,_,_,_,_,_,_,_,_,rfl,W0,c1⟩,C⟩
 have n1:Binds x (PySem.W.fnOf "add" "House.add" (bq (inClass (top 32) 1)) (aV (inClass (top 32) 1)) (aj (inClass (top 32) 1)) (.ref D) m n o l k p) ["self","name","elders","at"] [.none]:=λs us hi hl=>by
  match us,hl with
  |[],w=>simp at w
  |[_],w=>simp at w
  |[_,_],w=>simp at w
  |[_,_,_],_=>exact PySem.W.binds_K hi rfl K L rfl rfl
  |_::_::_::_::_,w=>simp at w
 have o1:Binds x (PySem.W.fnOf "add" "House.add" (bq (inClass (top 32) 1)) (aV (inClass (top 32) 1)) (aj (inClass (top 32) 1)) (.ref D) m n o l k p) ["self","name","elders","at"] []:=λs us hi hl=>by
  match us,hl with
  |[],w=>simp at w
  |[_],w=>simp at w
  |[_,_],w=>simp at w
  |[_,_,_],w=>simp at w
  |[_,_,_,_],_=>exact PySem.W.binds_K hi rfl K L rfl rfl
  |_::_::_::_::_::_,w=>simp at w
 have r1:jh x (PySem.W.fnOf "add" "House.add" (bq (inClass (top 32) 1)) (aV (inClass (top 32) 1)) (aj (inClass (top 32) 1)) (.ref D) m n o l k p) ["self","name","elders","at"] ["at"] gK gK:=pQ (by decide) λs us A hi hl=>by
  match us,hl with
  |[],w=>simp at w
  |[_],w=>simp at w
  |[_,_],w=>simp at w
  |[_,_,_],_=>exact PySem.W.binds_K hi rfl K L rfl rfl
  |_::_::_::_::_,w=>simp at w
 have t1:=F.fn.binds (g:=["self","name"]) (ux (by intros;rfl))
 have u1:=I.fn.binds (g:=["self","name"]) (ux (by intros;rfl))
 have w1:=B.fn.binds (g:=["_law_house","_law_name"]) (ux (by intros;rfl))
 have x1:=n_ (Δ:=(top 44)) f1 g1 h1;have XB:XBase x θ "LookError" B0:=⟨PySem.W.mg_of X c aB,gB,rB,iB⟩;have bH:=U.fn.binds (g:=["self","name","heir"]) (ME (by intros;rfl))
 have XH:mL x θ V NH fH cH _ stH "Heired.__init__" "self" ["name","heir"] [PZ,P8]:=⟨⟨_,U.fn⟩,U.cv,iE Si,U.cl,bH,λr hr=>by
  rcases List.mem_cons.mp hr with rfl|hr
  .exact i1
  .rw[List.mem_singleton.mp hr];exact j1,by decide +kernel,rfl,rfl,rfl,by decide,by decide,"LookError",B0,[("name",_,_),("heir",_,_)],_,_,_,_,_,_,XB,rfl,rfl,rfl,rfl,λr hr Q2=>by
  rcases List.mem_cons.mp hr with rfl|hr
  .rfl
  .rw[List.mem_singleton.mp hr];rfl,λ_=>rfl⟩
 refine⟨PySem.W.fnOf "law" "law" (bq (top 44)) (aV (top 44)) (aj (top 44)) .none O P Q N y R,λs v=>.of_eq rfl,λbase _ _=>?_⟩
 have i:=PySem.W.mg_of X c S.ns;have j:=S.cl;have V0:aR z A x θ base ({}:aQ) 0:=aR.start (yk X c nb);have V1:=V0.jX (x:="MOST_ELDERS") (d:=.int 5) (v:=.int 5) (PySem.W.mg_of X c z4) ⟨_,rfl⟩ rfl;have V2:=V1.jX (x:="MOST_KINDS") (d:=.int 12) (v:=.int 12) (PySem.W.mg_of X c z3) ⟨_,rfl⟩ rfl;have V3:=V2.jX (x:="MOST_LETTERS") (d:=.int 8) (v:=.int 8) (PySem.W.mg_of X c z2) ⟨_,rfl⟩ rfl;have V4:=V3.jX (x:="LETTERS") (d:=.str "abcdefghijklmnopqrstuvwxyz") (v:=.str "abcdefghijklmnopqrstuvwxyz") (PySem.W.mg_of X c z1) ⟨_,rfl⟩ rfl;have V5:=V4.jX (x:="DEEPEST") (d:=.int 8) (v:=.int 8) (PySem.W.mg_of X c z0) ⟨_,rfl⟩ rfl;have V6:=V5.vE (f:="elders") (Cs:=["House"]) (plain1 i j G1);have V7:=V6.vE (f:="lines") (Cs:=["House"]) (plain1 i j H1);have Y0:aR z A x θ base OZ 0:=V7;have Y1:aR z A x θ base O_ 1:=(Y0.mono (Nat.le_succ 0)).vD (x:="_law_cell") (PySem.W.mg_of X c a0.ns) a0.fn.kp b0 (tZ (RU.ok Y0 (i3 a0.fn))) (Nat.le_refl _);have Y2:aR z A x θ base Rr 2:=(Y1.mono (Nat.le_succ 1)).vD (x:="_law_mix") (PySem.W.mg_of X c a1.ns) a1.fn.kp b1 (tZ (RX.ok Y1 (i3 a1.fn))) (Nat.le_refl _);have X0:aR z A x θ base U0 2:=Y2;have r0:=RY.ok X0 f2;have X1:aR z A x θ base U2 3:=X0.dF X c P1 RZ (zZ (by intros;rfl))
 have X2:aR z A x θ base U3 4:=X1.dF X c Q1 R8 (ux (by intros;rfl))
 have X3:aR z A x θ base U4 5:=X2.dF X c R1 R9 (zZ (by intros;rfl))
 have X4:aR z A x θ base U5 6:=X3.dF X c S1 R_ (zZ (by intros;rfl))
 have X5:aR z A x θ base U6 7:=X4.dF X c T1 Sa (ux (by intros;rfl))
 have X6:aR z A x θ base U7 8:=X5.dF X c U1 Sb (zZ (by intros;rfl))
 have X7:aR z A x θ base U8 9:=X6.dF X c W1 Sd (zZ (by intros;rfl))
 have X8:aR z A x θ base U9 10:=X7.dF X c Z1 Se (ux (by intros;rfl))
 have X9:aR z A x θ base Pa 11:=X8.ej (PySem.W.mg_of X c T.ns) T.fn.kp h2 (oP (Sf.ok X8 (i3 T.fn)));have y1:=Pb.ok X9 (i3 q.fn);have i2:aR z A x θ base Rt 12:=X9.fh i j q.me Y y1;have j2:aR z A x θ base Pc 13:=i2.Cn i ⟨S.ma,q.me.at_,q.me.fn,S.kc⟩ Y y1 (by decide)
 have l2:aR z A x θ base Pd 14:=j2.dM i j I0 Pe (zZ (by intros;rfl))
 have n2:aR z A x θ base Pf 15:=l2.dM i j J0 Pg (ux (by intros;rfl))
 have r2:aR z A x θ base Ph 16:=n2.dM i j K0 Pj (ux (by intros;rfl))
 have A1:aR z A x θ base Pk 17:=r2.dM i j L0 Pl (ux (by intros;rfl))
 have n0:=Pm.ok A1 l1;have t2:aR z A x θ base Ru 18:=A1.Jd (j4:=[.non]) i j ⟨J,i0,C⟩ n1 (.cons (show RelV .non Value.none from rfl) .nil) (λ_ _ _=>.one (by simp only[au])) n0
 have u2:aR z A x θ base Rv 19:=(t2.mono (Nat.le_succ _)).Jc i j ⟨J,i0,C⟩ r1 (n0.mono (by decide))
 have o0:aR z A x θ base MH 20:=u2.fh i j ⟨J,i0,C⟩ o1 (n0.mono (by decide))
 have Xt:aR z A x θ base Po 20:=o0.toXt;have w2:bx z A x θ base (pR z A) 23 _ _ Rx (ur (cE θ) GX):=Dk Xt rfl (i3 F.fn) Pp Kz (λS2 x2 outer s y2 E hr G' A2 c' w=>zK (ms:=ms) XH hr (PySem.W.mg_of X c U.a) G' rfl (by simp) (Sj (o0.mono (by decide)) (r0.mono (by decide)) g2 (PySem.W.mg_of X c I1) q0) A2 c' w)
 have B2:aR z A x θ base Pq 21:=o0.dM i j P0 Pr (ux (by intros;rfl))
 have B1:aR z A x θ base Pt 22:=B2.dM i j R0 Pu (ux (by intros;rfl))
 have C2:aR z A x θ base Pw 23:=B1.fh i j I.me u1 (oP (Px.ok B1 (i3 I.fn)));have D2:aR z A x θ base Py 24:=C2.dM i j T0 Pz (zZ (by intros;rfl))
 have E2:aR z A x θ base PB 25:=D2.dF X c t0 PC (ux (by intros;rfl))
 have F2:aR z A x θ base PD 26:=E2.dF X c u0 PF (Rp (by intros;rfl))
 have G2:aR z A x θ base PH 27:=F2.dF X c w0 PJ (zZ (by intros;rfl))
 have I2:aR z A x θ base PL 28:=G2.dF X c x0 PM (ux (by intros;rfl))
 have C1:aR z A x θ base Ry 29:=I2.dF X c y0 PN (ME (by intros;rfl))
 have J2:=Dr C1 B.fn PR i j F.me (w2.mono (by decide:23<=29)) t1 (hbd:=rfl) rfl (PySem.W.mg_of X c aB) e2 (PySem.W.mg_of X c U.a) U.cl U.is i1 j1 rfl (PySem.W.mg_of X c U.a) k1 (PySem.W.mg_of X c aN) k2 rfl rfl rfl rfl rfl rfl rfl rfl (by decide)
 have K2:aR z A x θ base PQ 30:=C1.ej (PySem.W.mg_of X c B.ns) B.fn.kp w1 (oP J2);have N2:aR z A x θ base PU 31:=K2.dF X c C0 PV (ME (by intros;rfl))
 have P2:aR z A x θ base Rz 32:=N2.dF X c D0 PX (Rp (by intros;rfl))
 exact PY.ok P2 (i3 x1)
variable{C8:DefRec}{L7:World->Heap->Prop}{M8:(Str->Option Value)->Heap->Prop}{g:List Str}
theorem walk{l:PySem.W.OpenLaw}{K:Params->PySem.W.Frag}(p:l.most=some 63)(n:C8.params.defaults=[])(q:∀(w:World) (h:Heap),L7 w h->(K w.params).In h)(r:∀x,qa (K x)=true)(F:∀(w:World) (j:Str->Option Value) (k:Addr) (h:Heap),(K w.params).In h->h.Ns mainGlobals j->j C8.name=some (.ref k) ->
   ∃m:FuncData,(∀(s:Shared) (u:Value),BindsTo s m ⟨[u],[]⟩ [("_law_script",u)])/\∀base:Heap,(K w.params).In base->base.Ns mainGlobals j->bx l.prog w (K w.params) j base eB 33 k m ["_law_script"] (cD (cE j) MT)):
  PySem.W.WalkO z g M8 L7 l.row.toRowW C8 [] (λf o=>PySem.call f o):=
 L2.AB (b:=63) (t:=33) (d:="_law_script") (CX:=λ_=>eB) (sp:=λw=>Je MT) p (by decide) n ⟨rfl,by decide,by decide⟩ q (λw j k h a b c=>let ⟨m,y,A⟩:=F w j k h a b c;⟨m,y,λbase C8 e=>(A base C8 e).imp λo H Q E i=>i (cE j)⟩) (λw H a B C _ D G=>Cm (IG (r w.params) D) (zW B C).choose_spec) λ_ _ _ _ _ i=>i
end OY
def PySem.W.Fast.tw13126228791165619748:PySem.Program:=PySem.Challenge.pw_taglook_k29_dropped_and_placed
theorem PySem.W.Fast.te13126228791165619748:PySem.Challenge.pw_taglook_k29_dropped_and_placed=PySem.W.Fast.tw13126228791165619748:=rfl
structure PySem.W.Fast:Prop where(tw3429462839612914615 tw12079626780722486833 tw8756281839402759242 tw9635443538001153852 tw3236332828989231180 tw13558662729927595625 tw10832688980787655541 tw10427440554321497114 tw6955286996126497306 tw10623826189233344130 tw16379288964914614043 tw10367872496713866766 tw3453569278567187286 tw12804603744871347804 tw12205794015882215482 tw720110028895687055 tw16710354461760191731 tw2552730704201359443 tw16148545983176500099 tw12949897587439270861 tw14682474983845056330 tw5036966351863405569 tw6366042039937551851 tw17879024769488728918 tw8873032720238813717 tw4269873285714454295 tw8512788004887482449 tw5952550528353979934 tw15950833313942443412 tw12547325653553102967 tw11860988020559041416 tw975593637216033088 tw14776961576513087425 tw16089416239725055904 tw295509305188396948 tw16106503182046513319 tw15549350615978538312 tw13244893588867432797 tw14467793349408948296 tw17808498156368958571 tw15025081417201941683 tw14420860016299298148 tw1096992802755422194 tw14991945920626460363 tw2100593593108282609 tw5067991452850938406 tw14108725154004400283 tw13310303709790090753 tw6086785011484773477 tw783478805411823139 tw12616809383569071941 tw10008591028344760930 tw2642817688457983204 tw4283993016620558094 tw17223734783881290157 tw1685468107318715031 tw10657667330554420360 tw7453678647195942748 tw13158998680398280495 tw17210203786782824971 tw3717035966837576913 tw11200717474656483056 tw16079730690037098038 tw768483324205563314 tw11313552652878483758 tw17782399093681379324 tw13858918975003046706 tw11247175151151987889 tw1252283775610330401 tw17784009815103437211 tw8283692575871632208 tw16914492912744058669 tw3123714542168261006 tw7603919937086388715 tw16807518994930182007 tw3569052163951405240 tw15720015032642583311 tw568936106671883487 tw8613673142525414061 tw18268381458399313123 tw9321382511644096335 tw15297136600540631843 tw1029103688117409581 tw16273248519797985537 tw16069739564499446137 tw17145244626829371039 tw10220836263302316741 tw6808939111120627356 tw11043050747205710035 tw5124795986460467147 tw12891354364619754086 tw12691524764364856874 tw18316546885917787451 tw16755738375463883110 tw1398187953968493894 tw1880624845228348072 tw6446786697856255540 tw1752905331385923676 tw12196864783608759212 tw11972445599966152732 tw6818859555357306024 tw17676823936444895350 tw899632951914362297 tw15361553728383620683 tw1485029784338262737 tw11142878633903515229 tw8759423398623542343 tw5151998652293166436 tw5816596513457416317 tw978179017016197985 tw6478364758236628139 tw8054956097343188292 tw142596340107978308 tw6832114699666311537 tw17857896561794178357 tw904740475986607069 tw11458743794339662312 tw13771083123592938361 tw17517206874846318661 tw6320845392432196448 tw3457787734364973519 tw14606884971384090341 tw16720224741180756139 tw12219742886178310501 tw13772338060729301234 tw10793165582168391649 tw4225303021307659424 tw17803751362534676725 tw5867204526870333917 tw15701560880694066294 tw12492197098578721440 tw194452818541654558 tw17040237906258100470 tw15853388649931952556 tw5825960239551930012 tw13173705647602708685 tw17126686409573023054 tw9641065061037659693 tw3599673911235406209 tw4910157896454916497 tw3289253103816479341 tw6160519419643586822 tw3300566632576186961 tw13477477327598963453 tw18424747301970754181 tw7900553776017214466 tw13356990087697506403 tw12522088833126426887 tw661347733188569042 tw16468197249540767075 tw1204491130522270919 tw2918771660343881234 tw9197939589128757993 tw15737520172706034238 tw9294150976181910338 tw10265502980092903411 tw9499648234871012844 tw5597533131484043091 tw5030697857109861031 tw2934587600699304642 tw17824391525012507094 tw1728891130815801080 tw16892548369917218431 tw12800344819409106891 tw10488439390200717813 tw17639944064448564860 tw14664839241926935942 tw13843276263314060418 tw1226919530070161114 tw3008222810954501570 tw18103217403907939367 tw8960441156445710964 tw2058553179177400581 tw16776760781344040918 tw18058789228570079121 tw14954913987191883090 tw10570753014722804490 tw9156173919079723873 tw2152285990685819154 tw15227630967021590543 tw17837237381630290335 tw6877776052137503698 tw3380033635199329044 tw5312522031856573954 tw1970282771792070344 tw1333769609036867616 tw8632688784078931913 tw873424824841977075 tw6827564127655364782 tw4605902766734287647 tw1760222515236669700 tw16345522452937975016 tw2322796908952439885 tw611730135315031410 tw5748383809152167622 tw8349896464125078942 tw13095588441005678032 tw6134036358713936949 tw6117791438159056520 tw14512368362672975705 tw10355771567866938943 tw12591738055886716988 tw16913845241758956710 tw14916654579209055938 tw2506467374055255535 tw16491091086151834881 tw12593771979662371111 tw6296927042116775895 tw3850890102285270869 tw16662064557409460365 tw184657373970283811 tw7062205130735760597 tw3484749103899176049 tw1605068790391378515 tw13796624504892558208 tw11437056609759044349 tw11411572816531768680 tw10078891185665888595 tw3084446566493617484 tw10490330056519849443 tw306595940357436129 tw14386409000311701908 tw13919824703699769038 tw13328809399422548104 tw4738902534429420463 tw13343020239891346076 tw6284374981646956860 tw7384278951025171515 tw2740329408200699208 tw740174678123292987 tw6030870471051341834 tw1032302508743685844 tw17960215617432796560 tw1088424962885219886 tw7258332877264822029 tw450174193652806207 tw9955866138267405794 tw6989963461276665254 tw11008610237963913628 tw13548327005570289536 tw14141708051990110011 tw14040147981153726507 tw15487573388748638293 tw15238040043960751955 tw15146308499516508853 tw1312910747732437803 tw9385274047201340494 tw2919641815433227912 tw10669768270871309891 tw15838447281585213104 tw9628605144367705550 tw7781414460380171247 tw15395599533221111886 tw4314708661188255548 tw9284176768836555463 tw15797535678994763881 tw3879794776120159308 tw8049545030482913818 tw15722690427510417767 tw15211711804258305641 tw9590561212222159256 tw11746851341722935909 tw4646932625153696458 tw7578110852667507702 tw7359662118334375108 tw10111783827924658633 tw1647427992341220705 tw12119497161767761916 tw74775847606014110 tw15737815999642995755 tw1248898805720130073 tw4731344337649266615 tw725647884525306224 tw945724462819817681 tw7443529945006626197 tw6645366102080714989 tw4659323695307030110 tw2322864591006654071 tw14373500141922193550 tw12822380062604273893 tw9303704916859833788 tw870132512070586578 tw6716587328711751638 tw6199988861599554695 tw5173073436159756993 tw2021250153023693097 tw17440061092468343308 tw16181669324668347066 tw15806418923244274300 tw14607830877020592645 tw13848866699961962083 tw4415594676610333085 tw11405505164612153241 tw1968482355745074076 tw6018940126595193877 tw18364486755869468388 tw9118991013265997226 tw7412540641105578306 tw6970471051386494973 tw6881611464613713017 tw5962316040769988544 tw4953644154681035671 tw444325198262262266 tw4215219825706325134 tw16386450393774025567 tw15347383422292914407 tw13960727908513790087 tw13354380140471864643 tw15397680796022208395 tw11349358796227251565 tw3585269411863220273 tw2939978900877644411 tw13488647041442451592 tw9048918600075162398 tw8497218453305408723 tw7630397316791848675 tw5572028739228593806 tw5028575516473143884 tw4775307982291556724 tw2054862519417433602 tw17156649061011241151 tw10447473698195817321 tw18395674289587703645 tw10354497814764629183 tw8982583640031985462 tw6065422575387880889 tw2262773279614645274 tw2228802419724331193 tw18287981948197265836 tw16606442077742659248 tw15879388956259366270 tw15787404066515871982 tw15384784363525570864 tw14771011461256848700 tw12288988088991213383 tw9387224875837058332 tw7898340284852628507 tw746078457230069493 tw7067789723362873263 tw5601668357031600992 tw3992035709841461897 tw253332544374395626 tw1794756849306595197 tw14933436733450700641 tw13402217969968204952 tw1758462553420524930 tw13446242412343949233 tw5876917021580502768 tw4373589591158251888 tw3476438831933669318 tw1576828378370453060 tw15070231168135381781 tw14173668683592803839 tw1160065512838494953 tw10336201592555445237 tw9531804009694760068 tw9271000445431871305 tw608787079191946774 tw321763683503967937 tw17625213637877939479 tw16531735384597475301 tw16175733373471751252 tw14948827277996920578 tw12056461556525485543 tw11128224080530032741 tw5812785297902380131 tw2367029138051372952 tw980590430436225411 tw9692246145519826122 tw9378423907804115607 tw9192930329360109818 tw9135480553363738292 tw9112122760120177404 tw8613544055350990500 tw8578793157404875028 tw8069073132030804510 tw8024646061051580010 tw8006808095211415230 tw7734406296318217149 tw7713868148519340149 tw7448125922596858020 tw711772909344541056 tw6959565854547698671 tw6750192961871844781 tw6506334232012650155 tw6373568421158181175 tw6296951159063612810 tw6204572521107703358 tw6071527001305694658 tw5911060640973173972 tw5871218623150441057 tw5863578884309266521 tw5759370549203372398 tw5693207752228616625 tw5659236398591113411 tw5465617108174910644 tw5326088136174829105 tw5139121068883141033 tw5113396899030989576 tw4960797352923837586 tw4896800412073873547 tw4881176029144968637 tw422610834924204423 tw414044889824467667 tw4064718159900069236 tw3795409088747186144 tw3751195905715110114 tw3602686709962718522 tw3412904927252512945 tw2963224322023987133 tw2941496048869570829 tw2604049733208077565 tw2601746552815431272 tw2378770561313518834 tw2219304179450274200 tw2073130554160266776 tw18374088259270657613 tw18363678931668469585 tw18004180580956595433 tw17902351682446492682 tw17840056019217217308 tw1755861159218327549 tw1747969943813250629 tw17209039165768420010 tw17201415283876365501 tw16981589896502199373 tw16763589353678721655 tw16680453657235425434 tw16505715183068300340 tw16350307439919188477 tw16187437488737227471 tw16129989625455160060 tw16126283079602353284 tw16023294160689110700 tw15991807066513089123 tw15777835703997532043 tw15747034645814375324 tw15367099830933928743 tw15316092333697729881 tw15111376999968827909 tw15037109353240751929 tw15037090652592019215 tw14898327839580838895 tw14736401544525962180 tw14598084422089991269 tw1458003358720173914 tw14343169094356213378 tw14295441512464845282 tw14043722841983730640 tw13794701326473506124 tw13783020398532175786 tw13307686010365245683 tw13064179294306043765 tw13061090772809361394 tw12932803934475493716 tw12904649233638176153 tw12876610191407244820 tw12812624983834387352 tw12556020276986913316 tw12525781182473974338 tw12103698838159881415 tw1207740245095364602 tw11974297893782881460 tw11666891434907626948 tw11647021342268455589 tw11440102334146117506 tw11056157163303707687 tw11012911857862004488 tw10807478816756400053 tw10637402662897264250 tw10499191468435229416 tw10497504733415839303 tw10379788855529926582 tw10201786164603876194 tw10127005649197961964 tw10116480793381901978:True)
open PySem PySem.W PyProof.Rows
set_option maxRecDepth 100000 in
set_option maxHeartbeats 0 in
theorem PySem.Challenge.cw_taglook_k29_dropped_and_placed_holds : PySem.Challenge.rw_taglook_k29_dropped_and_placed.Holds := by
 w_on;o_law;k_head;(case hw=>w_witness2)
 k_fill
 refine OY.walk (l:=PySem.Challenge.rw_taglook_k29_dropped_and_placed) rfl rfl (λw h Y=>PySem.W.kIn_of Y) ?hK ?F
 case hK=>intro pm;exact(Eq.refl true)
 case F=>
  intro w mg fa h KX G hmg;refine' OY.all_mk KX G hmg ?nb ?z0 ?z1 ?z2 ?z3 ?z4 ?a0 ?a1 ?Sk ?Sl ?Sm ?Sn ?So ?Sq ?Sr ?Ss ?Su ?Sv ?Sw ?Sx ?Sy ?Sz ?SA ?SD ?SE ?SF ?P9 ?P_ ?Qa ?Qb ?Qc ?Qd ?Qe ?Qf ?Qg ?Qh ?Qi ?Qj ?Qk ?Ql ?Qm ?Qn ?Qo ?Qp ?Qq ?Qr ?Qs ?Qt ?Qu ?Qv ?SG ?Qw ?Qx ?Qy ?Qz ?QH ?SH ?SI ?aB ?gB ?rB ?iB ?aN ?hex ?k1 ?k2
  (case nb=>exact(Eq.refl true))
  (case Sk=>refine' ⟨?a,?b,?c,?d,?e,?f,?g⟩;(case a=>k_is);(case b=>k_is);(case c=>k_is);(case d=>k_is);(case e=>k_is);(case f=>k_is);(case g=>k_is))
  (case QH=>refine' Mir.GV ?aC ?lC ?nC ?tC ?xa ?xb ?xc ?xd ?xe ?xf ?xg ?xh ?xi ?xj ?xk ?lI ?yI ?wI ?ja ?jb ?jc ?jd;(case aC=>k_is);(case lC=>k_is);(case nC=>k_is);(case tC=>exact(Eq.refl true));(case xa=>k_is);(case xb=>exact rfl);(case xc=>exact rfl);(case xd=>k_is);(case xe=>k_is);(case xf=>k_is);(case xg=>k_is);(case xh=>k_is);(case xi=>exact rfl);(case xj=>k_is);(case xk=>k_is);(case lI=>k_is);(case yI=>k_is);(case wI=>k_is);(case ja=>k_is);(case jb=>k_is);(case jc=>k_is);(case jd=>k_is))
  (case Sv |Sw |Sx |Sy |Sz |SA |SD |SE |P9 |P_ |Qa |Qb |Qc |Qe |Qf=>refine' ⟨_,_,Mir.qM ?a ?l ?c ?k⟩;(case a=>k_is);(case l=>k_is);(case c=>k_is);(case k=>k_is))
  (case a0 |a1 |SF |Qd=>refine' Mir.qM ?a ?l ?c ?k;(case a=>k_is);(case l=>k_is);(case c=>k_is);(case k=>k_is))
  (case Qh |Qi |Qj |Qk |Qm |Qn |Qp=>refine' ⟨_,_,Mir.q7 ?a ?l ?c ?k ?i⟩;(case a=>k_is);(case l=>k_is);(case c=>k_is);(case k=>k_is);(case i=>k_is))
  (case Qg |Ql |Qo=>refine' Mir.q7 ?a ?l ?c ?k ?i;(case a=>k_is);(case l=>k_is);(case c=>k_is);(case k=>k_is);(case i=>k_is))
  (case z0 |z1 |z2 |z3 |z4 |Sl |Sm |Sn |So |Sq |Sr |Ss |Qq |Qr |Qs |Qt |Qu |SG |Qw |Qx |Qy |Qz |SH |SI |aB |gB |rB |iB |aN=>k_is)
  (case Su |Qv=>rfl)
  (case hex=>exact(Eq.refl (some true)))
  (case k1=>exact(Eq.refl (some true)))
  (case k2=>exact(Eq.refl (some false)))
