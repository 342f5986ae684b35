import PyProof.Rows.All
import Wide.All
import OpenK.AllK
import Wide.FinOn
import Lean
import PyProof.EqAt
import PyProof.EqKinds
import PyProof.TupleCall
import PyProof.NeKinds
import PyProof.ExcInit
import PyProof.StationsW
import PyProof.ExcBaseAll.ValueError
import PyProof.ExcArgs
import KE.KIsAll
import PyProof.ReprRoads
import PyProof.CallFns
import PyProof.ExcClass3
import PyProof.StrBlock2
import PyProof.FitsInt
import PyProof.StrLawsRepr
import KE.KTryMore
import PyProof.RulesAs
import KE.KIntText
import PyProof.StrLawsChain
import PyProof.StrCalls2
import PyProof.ZipIter
import PyProof.Conv_bool
import PyProof.CallStr
import PyProof.TupleIter
import KE.KEqDict
import PyProof.AutoListH
import PyProof.FactsAll.range_2
import KE.IntTextLaws
import PyProof.StrCalls
import PySem.Challenge.RW_slideroom_k48_rules_by_words
-- CHANGE: your row's module here, as the last of these rows
set_option compiler.extract_closed false
set_option bootstrap.genMatcherCode false
set_option Elab.async false
set_option linter.all false
set_option maxRecDepth 100000
section
open PySem PySem.Spec PyProof.Rows PySem.SeqAt
abbrev xA:=Unit->Shared->Prop
abbrev xB:=Value->Shared->Prop
abbrev xC:=Str->Option Value
abbrev xD:=List (Nat×Nat)
abbrev xE:=List Value
abbrev xF:=List Bool
abbrev xI:=Array Value
abbrev xL:=Option Addr
def zC:=@List.mem_cons_self
def zD:=@List.mem_cons_of_mem
def zI:=@wpAny_bind
def zS:=@if_pos
def yA:=@if_neg
def yB:=@List.length_append
def yT:=@List.mem_of_getElem?
def yY:=@List.getElem?_append_left
def wE:=@List.length_map
def wP:=@List.mem_append
def wS:=@List.getElem?_map
def wT:=@List.not_mem_nil
def vE:=@Bool.false_ne_true
def vF:=@List.append_assoc
def vS:=@List.mem_cons
def vT:=@List.mem_map
def jI:=@List.getElem?_eq_some_iff
def jS:=@List.getElem?_eq_getElem
def qA:=@Nat.lt_of_lt_of_le
def qB:=@Nat.ne_of_lt
def qE:=@Nat.lt_irrefl
def qS:=@List.take_succ
def qV:=@congrArg
def gE:=@absurd
def gI:=@eq_of_beq
def gL:=@decide_eq_false
def gN:=@decide_eq_true
def gS:=@Heap.lt_size
def gX:=@Heap.get?_push_of_some
def uA:=@Nat.le_refl
def uB:=@List.mem_singleton
def uC:=@List.mem_append_right
def uS:=@wpAny_pure
def rS:=@Nat.le_trans
def rV:=@Heap.get?_push_size
def rX:=@List.getD_eq_getElem?_getD
def oB:=@List.length_take
def oC:=@List.map_cons
def oP:=@List.getElem?_append_right
def oQ:=@Option.some.inj
def oS:=@Nat.lt_succ_of_lt
def nB:=@List.size_toArray
def nE:=@Heap.get?_update_other
def nI:=@List.take_of_length_le
def nK:=@wpAny_holding
def nS:=@wpAny_mono
def nV:=@List.mem_append_left
def nX:=@List.append_nil
def mB:=@List.pairwise_append
def mE:=@List.length_replicate
def mI:=@List.pairwise_cons
def mM:=@List.getElem?_eq_none
def mN:=@List.length_cons
def mP:=@Nat.le_of_lt
def mS:=@Heap.get?_push_ne
def mT:=@List.length_drop
end
namespace L2
open PySem PySem.Spec PyProof.Rows
abbrev Key:=Sum Int Str
def Xu:Key->Value->Bool
 | .inl k,v=>Value.isInt k v
 | .inr x,v=>Value.isStrOf x v
def ad6(w:World):Key->Int
 | .inl k=>hashInt k
 | .inr x=>hashStr w x
theorem cJ:∀{k:Key} {v:Value},Xu k v=true->(∃i t,k=Sum.inl i/\v=Value.int i t)\/(∃x t,k=Sum.inr x/\v=Value.str x t)
 | .inl i,v,h=>by
  obtain⟨t,e⟩:=Value.isInt_shape (k:=i) (v:=v) h;exact .inl ⟨i,t,rfl,e⟩
 | .inr x,v,h=>by
  obtain⟨t,e⟩:=Value.isStrOf_shape (x:=x) (v:=v) h;exact .inr ⟨x,t,rfl,e⟩
theorem Yc(a b:Int):decide ((Sum.inl a:Key)=Sum.inl b)=(a==b):=by
 by_cases e:a=b
 ·subst e;simp
 ·have h:¬ (Sum.inl a:Key)=Sum.inl b:=λq=>e (Sum.inl.inj q)
  rw[gL h];exact(beq_eq_false_iff_ne.mpr e).symm
theorem Yd(a b:Str):decide ((Sum.inr a:Key)=Sum.inr b)=decide (a=b):=by
 by_cases e:a=b
 ·subst e;simp
 ·have h:¬ (Sum.inr a:Key)=Sum.inr b:=λq=>e (Sum.inr.inj q)
  rw[gL h,gL e]
theorem Ye(a:Int)(b:Str):decide ((Sum.inl a:Key)=Sum.inr b)=false:=gL (λq=>nomatch q)
theorem Yg(a:Str)(b:Int):decide ((Sum.inr a:Key)=Sum.inl b)=false:=gL (λq=>nomatch q)
def rG(prog:Program)(w:World):PySem.KeyKind prog w Key where
 is:=Xu
 hash:=ad6 w
 inj:=λv a b ha hb=>by
  rcases cJ ha with⟨i,t,rfl,rfl⟩|⟨x,t,rfl,rfl⟩
  ·rcases cJ hb with⟨j,u,rfl,e⟩|⟨y,u,rfl,e⟩
   ·injection e with e1 _;rw[e1]
   ·exact nomatch e
  ·rcases cJ hb with⟨j,u,rfl,e⟩|⟨y,u,rfl,e⟩
   ·exact nomatch e
   ·injection e with e1 _;rw[e1]
 byValue:=λk v h=>by
  rcases cJ h with⟨i,t,rfl,rfl⟩|⟨x,t,rfl,rfl⟩ <;> rfl
 pyHash:=λhv h=>by
  rcases cJ hv with⟨i,t,rfl,rfl⟩|⟨x,t,rfl,rfl⟩
  ·exact wpAny_pyHash_int h
  ·exact wpAny_pyHash_str h
 eqBool:=λhu hv h=>by
  rcases cJ hu with⟨i,t,rfl,rfl⟩|⟨x,t,rfl,rfl⟩
  ·rcases cJ hv with⟨j,u,rfl,rfl⟩|⟨y,u,rfl,rfl⟩
   ·rw[Yc] at h;exact wpAny_eqBool_int h
   ·rw[Ye] at h;exact SeqAt.EqAt.int_str i t y u _ _ _ _ h
  ·rcases cJ hv with⟨j,u,rfl,rfl⟩|⟨y,u,rfl,rfl⟩
   ·rw[Yg] at h;exact SeqAt.EqAt.str_int x t j u _ _ _ _ h
   ·rw[Yd] at h;exact wpAny_eqBool_str h
 «strs»:=λk x t v h=>by
  rcases cJ h with⟨i,u,rfl,e⟩|⟨y,u,rfl,e⟩
  ·exact nomatch e
  ·injection e with e1 _
   subst e1;cases v <;> rfl
inductive V where
 | non|bl (b:Bool)|int (i:Int)|str (x:Str)|byt (b:Array UInt8)|flt (b:UInt64)|ref (a:Addr)|ty (n:String)
 deriving DecidableEq
def RelV:V->Value->Prop
 | .non,u=>u=Value.none
 | .bl b,u=>u=Value.bool b
 | .int i,u=>∃t,u=Value.int i t
 | .str x,u=>∃t,u=Value.str x t
 | .byt b,u=>∃t,u=Value.bytes b t
 | .flt b,u=>∃t,u=Value.float b t
 | .ref a,u=>u=Value.ref a
 | .ty n,u=>u=Value.type n
abbrev Vals:List V->List Value->Prop:=Paired RelV
theorem Vals.length{xs:List V}{us:xE}(r:Vals xs us):xs.length=us.length:=Paired.length r
theorem Vals.get:∀{xs:List V} {us:xE} {i:Nat} {x:V},Vals xs us->xs[i]?=some x->∃u,us[i]?=some u/\RelV x u
 | _,_,_,_,.nil,e=>by simp at e
 | _,_,0,_,.cons r _,e=>by simp at e;subst e;exact⟨_,rfl,r⟩
 | _,_,i+1,x,.cons _ t,e=>by
  obtain⟨u,h1,h2⟩:=Vals.get (i:=i) (x:=x) t (by simpa using e);exact⟨u,by simpa using h1,h2⟩
theorem Vals.set{x:V}{u:Value}(r:RelV x u):∀{xs:List V} {us:xE} (i:Nat),Vals xs us->Vals (xs.set i x) (us.set i u)
 | _,_,_,.nil=>.nil
 | _,_,0,.cons _ t=>.cons r t
 | _,_,i+1,.cons q t=>.cons q (Vals.set r i t)
theorem Vals.append:∀{xs ys:List V} {us ws:xE},Vals xs us->Vals ys ws->Vals (xs++ys) (us++ws)
 | _,_,_,_,.nil,s=>s
 | _,_,_,_,.cons r t,s=>.cons r (Vals.append t s)
theorem Vals.take:∀{xs:List V} {us:xE} (n:Nat),Vals xs us->Vals (xs.take n) (us.take n)
 | _,_,0,_=>.nil
 | _,_,_+1,.nil=>.nil
 | _,_,n+1,.cons r t=>.cons r (Vals.take n t)
theorem Vals.drop:∀{xs:List V} {us:xE} (n:Nat),Vals xs us->Vals (xs.drop n) (us.drop n)
 | _,_,0,r=>r
 | _,_,_+1,.nil=>.nil
 | _,_,n+1,.cons _ t=>Vals.drop n t
def jD:Option V->Option Value->Prop
 | some v,some u=>RelV v u
 | none,none=>True
 | _,_=>False
def KV{κ:Type}:List (κ×V)->List (κ×Value)->Prop:=Paired λ(p:κ×V) (q:κ×Value)=>p.1=q.1/\RelV p.2 q.2
def kV:Key->V
 | .inl i=>.int i
 | .inr x=>.str x
inductive HO where
 /-- a list -/
 | lst (xs:List V)
 /-- a tuple (never changes) -/
 | tup (xs:List V)
 /-- a dict whose keys are ints and texts; one whose keys are tuples of ints and texts (the empty one is both) -/
 | dK (kvs:List (Key×V))|dT (kvs:List (List Key×V))
 /-- a set of ints: its members, its size -/
 | set (S:Int->Bool) (n:Nat)
 /-- an instance of the class at C, its dict at dx, its attributes -/
 | ins (C dx:Addr) (fs:List (Str×V))
 /-- the dict of the instance at x -/
 | own (x:Addr)
 /-- the dict of an exception -/
 | xd (fs:List (Str×V))
 /-- a bound method, f of x -/
 | met (f x:Addr)
 /-- a range object lo, lo + 1, .. below hi -/
 | rng (lo hi:Int)
 /-- a thing that is known to the object (the script; a dict while a loop walks it): read, never written while it is so -/
 | frz (o:Obj) (u:HO)
 /-- a code object's table -/
 | tbl (ps:xI)
 /-- any other thing, by what is true of its one object (a def of one's own: agB a S n := HO.ext fun h => ..) -/
 | ext (φ:Heap->Prop)
abbrev Hp:=Addr->Option HO
def upd(H:Hp)(a:Addr)(o:HO):Hp:=λb=>if b=a then some o else H b
theorem bx{H:Hp}{a:Addr}{o:HO}:upd H a o a=some o:=by unfold upd;rw[if_pos rfl]
theorem aX{H:Hp}{a b:Addr}{o:HO}(h:b≠a):upd H a o b=H b:=by unfold upd;rw[if_neg h]
theorem aQ{H:Hp}{a b:Addr}{o:HO}(h:H a=some o)(h':H b=none):a≠b:=by
 intro e;subst e;rw[h] at h';cases h'
section
variable(P:Program)(w:World)
def bT(H:Hp)(h:Heap)(a:Addr):HO->Prop
 | .lst xs=>xs.length<=sizeLine/\∃(its:xE)(n:Nat),Vals xs its/\h.get? a=some { cls:=.type "list", data:=.seq its.toArray n }
 | .tup xs=>xs.length<=sizeLine/\∃its:List Value,Vals xs its/\IsTup h a its.toArray
 | .dK kvs=>kvs.length<=sizeLine/\(a==sysModules)=false/\∃vs,KV kvs vs/\h.DictOf (rG P w) a vs
 | .dT kvs=>kvs.length<=sizeLine/\(a==sysModules)=false/\∃xs:List (List Key×Addr×Value),
   Paired (λ(p:List Key×V) (q:List Key×Addr×Value)=>p.1=q.1/\H q.2.1=some (.tup (p.1.map kV))/\RelV p.2 q.2.2) kvs xs /\
   ∃o es ep,h.get? a=some o/\o.ExactDict/\o.data=.dict es ep/\es.toList=xs.map (entryOfKey (tupleKind (rG P w)))/\(xs.map (·.1)).Nodup
 | .set S n=>h.SetOf (intKind P w) a S n
 | .ins C dx fs=>H dx=some (.own a)/\fs.length<=1000/\dx≠a/\h.get? a=some (W.instObj C dx) /\
   ∃mA,h.Ns1 dx mA/\(∀f,jD (fs.lookup f) (mA f))/\PySem.Within mA (fs.map (·.1))
 | .own _=>∃o,h.get? a=some o
 | .xd fs=>∃mA,h.Ns1 a mA/\∀f,jD (fs.lookup f) (mA f)
 | .rng lo hi=>∃t u v,h.get? a=some { cls:=.type "range", data:=.fields #[.int lo t,.int hi u,.int 1 v] }
 | .frz o u=>h.get? a=some o/\bT H h a u
 | .tbl ps=>h.get? a=some { cls:=.none,data:=.fields ps }
 | .met f x=>h.get? a=some (W.methodObj (.ref f) (.ref x))
 | .ext φ=>φ h/\(∃o,h.get? a=some o)/\∀h1 h2:Heap,φ h1->(∀o,h1.get? a=some o->h2.get? a=some o)->φ h2
def HOk(H:Hp)(h:Heap):Prop:=∀a o,H a=some o->bT P w H h a o
end
section
variable{P:Program}{w:World}{H H':Hp}{h h':Heap}{a:Addr}{o:HO}
theorem bT.lt(x:bT P w H h a o):a<h.objs.size:=by
 cases o with
 | lst xs=>obtain⟨_,_,_,_,e⟩:=x;exact gS e
 | tup xs=>obtain⟨_,_,_,p⟩:=x;exact p.lt
 | dK kvs=>obtain⟨_,_,_,_,o,_,_,e,_⟩:=x;exact gS e
 | dT kvs=>obtain⟨_,_,_,_,o,_,_,e,_⟩:=x;exact gS e
 | set S n=>obtain⟨o,_,_,_,e,_⟩:=x;exact gS e
 | ins C dx fs=>obtain⟨_,_,_,e,_⟩:=x;exact gS e
 | own y=>obtain⟨_,e⟩:=x;exact gS e
 | xd fs=>obtain⟨_,⟨_,_,_,e,_⟩,_⟩:=x;exact gS e
 | rng lo hi=>obtain⟨_,_,_,e⟩:=x;exact gS e
 | frz ob u=>obtain⟨e,_⟩:=x;exact gS e
 | tbl ps=>exact gS (show h.get? a=some _ from x)
 | met f y=>exact gS (show h.get? a=some _ from x)
 | ext φ=>obtain⟨_,⟨_,e⟩,_⟩:=x;exact gS e
theorem Paired.aa_{α β:Type}{F G:α->β->Prop}:∀{l₁:List α} {l₂:List β},Paired F l₁ l₂->(∀a b,F a b->G a b)->Paired G l₁ l₂
 | _,_,.nil,_=>.nil
 | _,_,.cons r t,f=>.cons (f _ _ r) (Paired.aa_ t f)
theorem bT.stay(x:bT P w H h a o)(k:∀b u,(b=a\/H b=some (.own a))->h.get? b=some u->h'.get? b=some u)
  (ho:∀b,H b=some (.own a)->H' b=some (.own a)) (ht:∀b xs,H b=some (.tup xs)->H' b=some (.tup xs)):bT P w H' h' a o:=by
 induction o with
 | lst xs=>obtain⟨z,its,n,r,e⟩:=x;exact⟨z,its,n,r,k _ _ (.inl rfl) e⟩
 | tup xs=>obtain⟨z,its,r,ob,e,c⟩:=x;exact⟨z,its,r,ob,k _ _ (.inl rfl) e,c⟩
 | dK kvs=>obtain⟨z,y,vs,r,ob,es,ep,e,c⟩:=x;exact⟨z,y,vs,r,ob,es,ep,k _ _ (.inl rfl) e,c⟩
 | dT kvs =>
  obtain⟨z,y,xs,r,ob,es,ep,e,c⟩:=x;exact⟨z,y,xs,Paired.aa_ r λp q z=>⟨z.1,ht _ _ z.2.1,z.2.2⟩,ob,es,ep,k _ _ (.inl rfl) e,c⟩
 | set S n=>obtain⟨ob,es,ep,t,e,c⟩:=x;exact⟨ob,es,ep,t,k _ _ (.inl rfl) e,c⟩
 | ins C dx fs =>
  obtain⟨d,z,ne,e,mA,⟨od,es,ep,e2,c⟩,r⟩:=x;exact⟨ho _ d,z,ne,k _ _ (.inl rfl) e,mA,⟨od,es,ep,k _ _ (.inr d) e2,c⟩,r⟩
 | own y=>obtain⟨ob,e⟩:=x;exact⟨ob,k _ _ (.inl rfl) e⟩
 | xd fs=>obtain⟨mA,⟨od,es,ep,e,c⟩,r⟩:=x;exact⟨mA,⟨od,es,ep,k _ _ (.inl rfl) e,c⟩,r⟩
 | rng lo hi=>obtain⟨t,u,v,e⟩:=x;exact⟨t,u,v,k _ _ (.inl rfl) e⟩
 | frz ob u ih=>obtain⟨e,q⟩:=x;exact⟨k _ _ (.inl rfl) e,ih q⟩
 | tbl ps =>
  have e:h.get? a=some { cls:=.none,data:=.fields ps }:=x;show h'.get? a=some { cls:=.none,data:=.fields ps };exact k a _ (.inl rfl) e
 | met f y =>
  have e:h.get? a=some (W.methodObj (.ref f) (.ref y)):=x;show h'.get? a=some (W.methodObj (.ref f) (.ref y));exact k a _ (.inl rfl) e
 | ext φ=>obtain⟨p,⟨o,e⟩,st⟩:=x;exact⟨st _ _ p λo q=>k _ _ (.inl rfl) q,⟨o,k _ _ (.inl rfl) e⟩,st⟩
theorem HOk.lt(x:HOk P w H h)(e:H a=some o):a<h.objs.size:=(x a o e).lt
theorem HOk.fresh(x:HOk P w H h)(e:h.objs.size<=a):H a=none:=by
 cases q:H a with
 | none=>rfl
 | some u=>exact gE (qA (x.lt q) e) (qE _)
theorem HOk.kept(x:HOk P w H h)(k:∀b u,h.get? b=some u->h'.get? b=some u):HOk P w H h':=λa o e =>
 (x a o e).stay (λb u _ q=>k b u q) (λ_ q=>q) λ_ _ q=>q
theorem HOk.laid(x:HOk P w H h)(k:∀b u,h.get? b=some u->h'.get? b=some u)(hp:h.objs.size<=a)(new:bT P w (upd H a o) h' a o):HOk P w (upd H a o) h':=λb u e=>by
 have hn:=x.fresh hp;by_cases hb:b=a
 ·subst hb;rw[bx] at e;cases e;exact new
 ·rw[aX hb] at e;exact(x b u e).stay (λc v _ q=>k c v q) (λc q=>by rw[aX (aQ q hn)];exact q) λc xs q=>by rw[aX (aQ q hn)];exact q
end
def Rd(H:Hp)(a:Addr)(u:HO):Prop:=H a=some u\/∃o,H a=some (.frz o u)
theorem Rd.ok{P:Program}{w:World}{H:Hp}{h:Heap}{a:Addr}{u:HO}(r:Rd H a u)(x:HOk P w H h):bT P w H h a u:=by
 rcases r with r|⟨o,r⟩
 ·exact x a u r
 ·obtain⟨_,q⟩:=x a _ r;exact q
def Mut:Option HO->Prop
 | some (.lst _)=>True
 | some (.dK _)=>True
 | some (.dT _)=>True
 | some (.set _ _)=>True
 | some (.ins _ _ _)=>True
 | some (.ext _)=>True
 | _=>False
section
variable{P:Program}{w:World}{H:Hp}{h h':Heap}{x e:Addr}{o':HO}
theorem HOk.write(ok:HOk P w H h)(mu:Mut (H x))(he:e=x\/H e=some (.own x))(k:∀b u,b≠e->h.get? b=some u->h'.get? b=some u)(heo:∃u,h'.get? e=some u)
  (new:bT P w (upd H x o') h' x o'):HOk P w (upd H x o') h':=λb u q=>by
 have abb:∀c y,H c=some (.own y)->c≠x:=λc y r z=>by subst z;rw[r] at mu;exact mu
 have ad7:∀c xs,H c=some (.tup xs)->c≠x:=λc xs r z=>by subst z;rw[r] at mu;exact mu
 by_cases hb:b=x
 ·subst hb;rw[bx] at q;cases q;exact new
 ·rw[aX hb] at q;by_cases hbe:b=e
  ·have q':H b=some (.own x):=by
    rcases he with z|z
    ·exact gE (hbe.trans z) hb
    ·rw[hbe];exact z
   rw[q] at q';cases q';obtain⟨v,hv⟩:=heo;exact⟨v,by rw[hbe];exact hv⟩
  ·refine(ok b u q).stay (λc v hc r=>k c v ?_ r) (λc r=>by rw[aX (abb c b r)];exact r) λc xs r=>by rw[aX (ad7 c xs r)];exact r
   rcases hc with rfl|hc
   ·exact hbe
   ·rintro rfl;rcases he with z|z
    ·exact abb c b hc z
    ·rw[hc] at z;cases z;exact hb rfl
end
structure Un(fs ex:List Addr)(H H':Hp)(h h':Heap):Prop where
 keep:∀b o,h.get? b=some o->H b=none->b ∉ fs->b ∉ ex->h'.get? b=some o
 slot:∀b o,h.get? b=some o->H b=none->b∈fs->b ∉ ex->∃sl,h'.get? b=some { o with slots:=sl }
 free:∀b o,h.get? b=some o->H b=none->b ∉ ex->H' b=none
 there:∀b o,h.get? b=some o->b ∉ ex->∃o',h'.get? b=some o'
 tups:∀b xs,H b=some (.tup xs)->H' b=some (.tup xs)
 jE:∀b o u,H b=some (.frz o u)->H' b=some (.frz o u)
 jF:∀b ps,H b=some (.tbl ps)->∃more,H' b=some (.tbl (ps++more))
section
variable{fs ex:List Addr}{H H1 H2:Hp}{h h1 h2 h':Heap}{a x e:Addr}{o:HO}
theorem Un.any(u:Un fs ex H H1 h h1){b:Addr}{ob:Obj}(q:h.get? b=some ob)(n:H b=none)(hx:b ∉ ex):∃sl,h1.get? b=some { ob with slots:=sl }:=by
 by_cases hb:b∈fs
 ·exact u.slot b ob q n hb hx
 ·exact⟨ob.slots,u.keep b ob q n hb hx⟩
theorem Un.trans(a:Un fs ex H H1 h h1)(b:Un fs ex H1 H2 h1 h2):Un fs ex H H2 h h2 where
 keep:=λc ob q n hc hx=>b.keep c ob (a.keep c ob q n hc hx) (a.free c ob q n hx) hc hx
 slot:=λc ob q n hc hx=>by
  obtain⟨sl,e1⟩:=a.slot c ob q n hc hx;obtain⟨sl',e2⟩:=b.slot c _ e1 (a.free c ob q n hx) hc hx;exact⟨sl',e2⟩
 free:=λc ob q n hx=>by
  obtain⟨o',e1⟩:=a.there c ob q hx;exact b.free c o' e1 (a.free c ob q n hx) hx
 there:=λc ob q hx=>by
  obtain⟨o',e1⟩:=a.there c ob q hx;exact b.there c o' e1 hx
 tups:=λc xs q=>b.tups c xs (a.tups c xs q)
 jE:=λc ob xs q=>b.jE c ob xs (a.jE c ob xs q)
 jF:=λc ps q=>by
  obtain⟨m1,e1⟩:=a.jF c ps q;obtain⟨m2,e2⟩:=b.jF c _ e1;exact⟨m1++m2,by rw[e2,Array.append_assoc]⟩
theorem Un.kept(k:∀b u,h.get? b=some u->h'.get? b=some u):Un fs ex H H h h' :=
 ⟨λb ob q _ _ _=>k b ob q,λb ob q _ _ _=>⟨ob.slots,k b ob q⟩,λ_ _ _ n _=>n,λb ob q _=>⟨ob,k b ob q⟩,λ_ _ q=>q,λ_ _ _ q=>q,λ_ ps q=>⟨#[],by rw[q];simp⟩⟩
theorem Un.refl:Un fs ex H H h h:=Un.kept λ_ _ q=>q
theorem Un.laid(k:∀b u,h.get? b=some u->h'.get? b=some u)(hp:h.objs.size<=a)(hn:H a=none):Un fs ex H (upd H a o) h h' where
 keep:=λb u q _ _ _=>k b u q
 slot:=λb u q _ _ _=>⟨u.slots,k b u q⟩
 free:=λb u q n _=>by rw[aX (qB (qA (gS q) hp))];exact n
 there:=λb u q _=>⟨u,k b u q⟩
 tups:=λb xs q=>by rw[aX (aQ q hn)];exact q
 jE:=λb u xs q=>by rw[aX (aQ q hn)];exact q
 jF:=λb ps q=>⟨#[],by rw[aX (aQ q hn),q];simp⟩
theorem Un.write(mu:Mut (H x))(he:e=x\/H e=some (.own x))(k:∀b u,b≠e->h.get? b=some u->h'.get? b=some u)(heo:∃u,h'.get? e=some u):Un fs ex H (upd H x o) h h':=by
 have hx:∀b,H b=none->b≠x:=λb n z=>by subst z;rw[n] at mu;exact mu
 have hb:∀b,H b=none->b≠e:=λb n z=>by
  subst z;rcases he with r|r
  ·exact hx b n r
  ·rw[n] at r;cases r
 have hm:∀b u,H b=some u->¬ Mut (some u)->b≠x:=λb u q nm z=>by subst z;rw[q] at mu;exact nm mu
 refine⟨λb u q n _ _=>k b u (hb b n) q,λb u q n _ _=>⟨u.slots,k b u (hb b n) q⟩,λb u q n _=>by rw[aX (hx b n)];exact n,λb u q _=>?_,
  λb xs q=>by rw[aX (hm b _ q λz=>z)];exact q,λb u xs q=>by rw[aX (hm b _ q λz=>z)];exact q,λb ps q=>⟨#[],by rw[aX (hm b _ q λz=>z),q];simp⟩⟩
 by_cases hbe:b=e
 ·subst hbe;exact heo
 ·exact⟨u,k b u hbe q⟩
end
def trk(h:Heap)(H:Hp):List Addr:=(List.range h.objs.size).filter λa=>(H a).isSome
def vZ(h:Heap)(H:Hp):Heap:=W.hideAll h (trk h H)
theorem Mx(h:Heap)(H:Hp):(vZ h H).objs.size=h.objs.size:=W.hideAll_size _ _
theorem Cy{h:Heap}{H:Hp}{b:Addr}{o:Obj}(e:h.get? b=some o)(n:H b=none):(vZ h H).get? b=some o :=
 W.hideAll_get _ e λhm=>by
  have q:(H b).isSome=true:=(List.mem_filter.mp hm).2;rw[n] at q;simp at q
theorem Vh{h:Heap}{H:Hp}{b:Addr}{o:Obj}(e:(vZ h H).get? b=some o):h.get? b=some o/\H b=none:=by
 have e':h.get? b=some o:=W.of_hideAll (trk h H) e;refine⟨e',?_⟩;cases q:H b with
 | none=>rfl
 | some x =>
  have hm:b∈trk h H:=List.mem_filter.mpr ⟨List.mem_range.mpr (Heap.lt_size e'),by simp[q]⟩;have z:(vZ h H).get? b=none:=W.hideAll_none (trk h H) hm;rw[z] at e;cases e
structure Mod(K:W.Frag)(mg:xC)(base:Heap):Prop where
 kin:K.In base
 glob:base.Ns mainGlobals mg
 blt:∃mb,base.Ns builtinsNs mb/\∀x:Str,x ≠ "__name__" -> mb x=bootBuiltins x
 nolimit:base.NoLimit
/-- the context: a def's body (or a comprehension's block) running. base: fixed through the whole law; s₀, H₀: the entry; outer: the frames whose slots others may change (a def's callers); stack: all frames that run;
   ex: iterators that were made ahead of the entry and are walked here (a comprehension's);fn: the names whose cells were made at the entry (a def: all;a comprehension's block: its own);calm: not within an except suite;pn: pins that every state bears;xe: what is wanted of an exception that leaves the code -/
structure Cx where
 prog:Program
 w:World
 K:W.Frag
 mg:Str->Option Value
 base:Heap
 A:Around
 N:List Str
 s₀:Shared
 H₀:Hp
 env:Env
 outer:List Env
 stack:List Env
 ex:List Addr
 fn:Str->Bool
 calm:Bool
 pn:List (Addr×Obj)
 xe:Value->Shared->Prop
def frs(l:List Env):List Addr:=l.filterMap (·.frame)
abbrev Cx.fs(X:Cx):List Addr:=frs X.outer
def Vis(sc:Scope)(x:Str):Prop:=sc.names.lookup x=some .local\/sc.names.lookup x=some .cell\/sc.names.lookup x=some .free
def Loc(sc:Scope)(x:Str):Prop:=sc.names.lookup x=some .local\/sc.names.lookup x=some .cell
def Look(env:Env)(h:Heap)(m:xC)(x:Str)(u:Value):Prop :=
 (env.kindOf x=some .local/\m x=some u)\/((env.kindOf x=some .cell\/env.kindOf x=some .free)/\∃c,env.cells.lookup x=some c/\h.IsCell c (some u))
structure Cx.Ok(X:Cx):Prop where
 mod:Mod X.K X.mg X.base
 kind:X.env.scope.kind=.function
 glob:X.env.globals=mainGlobals
 blt:X.env.builtins=builtinsNs
 above:X.s₀.heap.objs.size<=X.env.locals
 inj:∀x y c,X.env.cells.lookup x=some c->X.env.cells.lookup y=some c->x=y
 has:∀x,(X.env.kindOf x=some .cell\/X.env.kindOf x=some .free)->∃c,X.env.cells.lookup x=some c
 cab:∀x c,X.fn x=true->X.env.cells.lookup x=some c->X.s₀.heap.objs.size<=c
 hd:X.calm=true->X.A.handled=none
 frames:X.A.frames=some X.stack
 stk:X.stack=X.outer\/(X.stack=X.env::X.outer/\X.env.frame=some X.env.locals)
 exf:∀b∈X.ex,b≠X.env.locals/\∀x c,X.env.cells.lookup x=some c->c≠b
 bs:∀b o,X.base.get? b=some o->X.s₀.heap.get? b=some o/\X.H₀ b=none
 bsz:X.base.objs.size<=X.s₀.heap.objs.size
 v7:∀b o,X.base.get? b=some o->b ∉ X.ex
 zA:∀b∈X.ex,b ∉ X.fs
 jA:X.s₀.heap.FunFrames X.base X.outer
 frf:∀b∈X.fs,X.H₀ b=none
structure Inv(X:Cx)(pins:List (Addr×Obj))(σ:List (Option V))(H:Hp)(s:Shared):Prop where
 ok:X.Ok
 os:s.os=X.s₀.os
 bare:AllBare s.gens
 base:Un X.fs X.ex X.H₀ H X.s₀.heap s.heap
 loc:∃m,s.heap.Ns X.env.locals m/\∀(i:Nat)(x:Str)(v:V),X.N[i]?=some x->σ[i]?=some (some v)->Vis X.env.scope x->∃u,RelV v u/\Look X.env s.heap m x u
 cell:∀x c,X.env.cells.lookup x=some c->∃v,s.heap.IsCell c v
 free:H X.env.locals=none
 fG:∀x c,X.env.cells.lookup x=some c->H c=none
 pin:∀p∈X.pn++pins,s.heap.get? p.1=some p.2/\H p.1=none/\p.1≠X.env.locals/\p.1 ∉ X.fs/\∀v,p.2.data≠.cell v
 hok:HOk X.prog X.w H s.heap
 len:σ.length=X.N.length
section
variable{X:Cx}{pins:List (Addr×Obj)}{σ:List (Option V)}{H H':Hp}{s:Shared}{h':Heap}
theorem Cx.Ok.ad8(ok:X.Ok){b:Addr}{o:Obj}(e:X.base.get? b=some o):b ∉ X.fs:=λhb=>by
 have:=(ok.jA.mem hb).1;rw[e] at this;cases this
theorem Inv.bs(I:Inv X pins σ H s):∀b o,X.base.get? b=some o->s.heap.get? b=some o/\H b=none:=λb o e =>
 ⟨I.base.keep b o (I.ok.bs b o e).1 (I.ok.bs b o e).2 (I.ok.ad8 e) (I.ok.v7 b o e),I.base.free b o (I.ok.bs b o e).1 (I.ok.bs b o e).2 (I.ok.v7 b o e)⟩
theorem Inv.bk(I:Inv X pins σ H s):∀b o,X.base.get? b=some o->s.heap.get? b=some o:=λb o e=>(I.bs b o e).1
theorem Inv.mod(I:Inv X pins σ H s):Mod X.K X.mg X.base:=I.ok.mod
theorem Inv.kIn(I:Inv X pins σ H s):X.K.In s.heap:=I.ok.mod.kin.keeps I.bk
theorem Inv.lt(I:Inv X pins σ H s):X.env.locals<s.heap.objs.size:=let ⟨_,hn,_⟩:=I.loc;hn.lt
theorem Inv.sz(I:Inv X pins σ H s):X.s₀.heap.objs.size<=s.heap.objs.size:=rS I.ok.above (mP I.lt)
theorem Inv.ad9(I:Inv X pins σ H s){a:Addr}(h:s.heap.objs.size<=a):a ∉ X.fs:=λhb=>by
 obtain⟨_,o,ho,_⟩:=I.ok.jA.mem hb;exact gE (qA (gS ho) (rS I.sz h)) (qE _)
theorem Inv.cne(I:Inv X pins σ H s):∀x c,X.env.cells.lookup x=some c->c≠X.env.locals:=λx c e z=>by
 obtain⟨v,o,ho,hd⟩:=I.cell x c e;obtain⟨m,⟨o',es,ep,ho',hd',_⟩,_⟩:=I.loc;rw[z,ho'] at ho;cases ho;rw[hd'] at hd;cases hd
theorem Inv.jA(I:Inv X pins σ H s):s.heap.FunFrames X.base X.outer:=by
 have all:∀(l:List Env),(∀b∈frs l,b∈X.fs)->X.s₀.heap.FunFrames X.base l->s.heap.FunFrames X.base l:=by
  intro l
  induction l with
  | nil=>intro _ _;trivial
  | cons env r ih =>
   intro hs hl;obtain⟨hk,⟨L,o,hf,hn,ho,hd⟩,hr⟩:=hl;have hL:L∈X.fs:=hs L (by unfold frs;rw[List.filterMap_cons,hf];exact List.mem_cons_self);obtain⟨sl,e⟩:=I.base.slot L o ho (I.ok.frf L hL) hL λz=>I.ok.zA L z hL
   exact⟨hk,⟨L,_,hf,hn,e,hd⟩,ih (λb hb=>hs b (by unfold frs;rw[List.filterMap_cons,hf];exact List.mem_cons_of_mem _ hb)) hr⟩
 exact all X.outer (λ_ hb=>hb) I.ok.jA
theorem Inv.stack(I:Inv X pins σ H s):s.heap.FunFrames X.base X.stack:=by
 rcases I.ok.stk with e|⟨e,hf⟩
 ·rw[e];exact I.jA
 ·rw[e];obtain⟨m,hn,_⟩:=I.loc;refine .cons (by rw[I.ok.kind];decide) hf hn ?_ I.jA;exact Heap.get?_none_of_le (rS I.ok.bsz I.ok.above)
theorem Inv.sJ(I:Inv X pins σ H s):∀b∈frs X.stack,b∈X.env.locals::X.fs:=λb hb=>by
 rcases I.ok.stk with e|⟨e,hf⟩
 ·rw[e] at hb;exact zD _ hb
 ·rw[e] at hb;unfold frs at hb;rw[List.filterMap_cons,hf] at hb;exact hb
theorem Inv.mU(I:Inv X pins σ H s):∀b∈frs X.stack,H b=none:=λb hb=>by
 rcases vS.mp (I.sJ b hb) with e|hb
 ·rw[e];exact I.free
 ·obtain⟨_,o,ho,_⟩:=I.ok.jA.mem hb;exact I.base.free b o ho (I.ok.frf b hb) λz=>I.ok.zA b z hb
theorem Inv.step{g':Array GenState}{t':Nat}{d':Drawn}{ch:List Addr}(I:Inv X pins σ H s)
  (hch:∀b∈ch,(b∈X.ex\/X.s₀.heap.objs.size<=b)/\b≠X.env.locals/\(∀x c,X.env.cells.lookup x=some c->c≠b)/\∀p∈X.pn++pins,p.1≠b)
  (keep:∀b o,b≠X.env.locals->b ∉ X.fs->b ∉ ch->s.heap.get? b=some o->H b=none->h'.get? b=some o)
  (slot:∀b o,b≠X.env.locals->b∈X.fs->b ∉ ch->s.heap.get? b=some o->H b=none->∃sl,h'.get? b=some { o with slots:=sl }) (free:∀b o,b ∉ ch->s.heap.get? b=some o->H b=none->H' b=none)
  (there:∀b o,b ∉ ch->s.heap.get? b=some o->∃o',h'.get? b=some o')
  (tups:∀b xs,H b=some (.tup xs)->H' b=some (.tup xs)) (jE:∀b o u,H b=some (.frz o u)->H' b=some (.frz o u)) (jF:∀b ps,H b=some (.tbl ps)->∃more,H' b=some (.tbl (ps++more)))
  (ns:∀m,s.heap.Ns X.env.locals m->h'.Ns X.env.locals m) (hok:HOk X.prog X.w H' h') (hg:AllBare g') :
  Inv X pins σ H' { s with heap:=h',gens:=g',drawn:=d',toks:=t' }:=by
 have neL:∀b o,X.s₀.heap.get? b=some o->b≠X.env.locals:=λb o e=>qB (qA (gS e) I.ok.above)
 have neC:∀b o,X.s₀.heap.get? b=some o->b ∉ X.ex->b ∉ ch:=λb o e hx hb=>by
  rcases(hch b hb).1 with z|z
  ·exact hx z
  ·exact gE (qA (gS e) z) (qE _)
 have cellK:∀x c,X.env.cells.lookup x=some c->∀v,s.heap.IsCell c v->h'.IsCell c v:=λx c e v ⟨o,ho,hd⟩=>by
  have nch:c ∉ ch:=λz=>(hch c z).2.2.1 x c e rfl
  by_cases hc:c∈X.fs
  ·obtain⟨sl,q⟩:=slot c o (I.cne x c e) hc nch ho (I.fG x c e);exact⟨_,q,hd⟩
  ·exact⟨o,keep c o (I.cne x c e) hc nch ho (I.fG x c e),hd⟩
 refine⟨I.ok,I.os,hg,⟨λb o e n hb hx=>?_,λb o e n hb hx=>?_,λb o e n hx=>?_,λb o e hx=>?_,λb xs e=>tups b xs (I.base.tups b xs e),λb o xs e=>jE b o xs (I.base.jE b o xs e),λb ps e=>?_⟩,?_,λx c e=>?_,?_,λx c e=>?_,λp hp=>?_,hok,I.len⟩
 ·exact keep b o (neL b o e) hb (neC b o e hx) (I.base.keep b o e n hb hx) (I.base.free b o e n hx)
 ·obtain⟨sl,e1⟩:=I.base.slot b o e n hb hx;obtain⟨sl',e2⟩:=slot b _ (neL b o e) hb (neC b o e hx) e1 (I.base.free b o e n hx);exact⟨sl',e2⟩
 ·obtain⟨o',e1⟩:=I.base.there b o e hx;exact free b o' (neC b o e hx) e1 (I.base.free b o e n hx)
 ·obtain⟨o',e1⟩:=I.base.there b o e hx;exact there b o' (neC b o e hx) e1
 ·obtain⟨m1,e1⟩:=I.base.jF b ps e;obtain⟨m2,e2⟩:=jF b _ e1;exact⟨m1++m2,by rw[e2,Array.append_assoc]⟩
 ·obtain⟨m,hn,hl⟩:=I.loc;refine⟨m,ns m hn,λi x v e1 e2 e3=>?_⟩;obtain⟨u,r,l⟩:=hl i x v e1 e2 e3;refine⟨u,r,?_⟩;rcases l with l|⟨k,c,e,z⟩
  ·exact .inl l
  ·exact .inr ⟨k,c,e,cellK x c e _ z⟩
 ·obtain⟨v,z⟩:=I.cell x c e;exact⟨v,cellK x c e v z⟩
 ·obtain⟨m,⟨o,_,_,ho,_⟩,_⟩:=I.loc;exact free _ o (λz=>(hch _ z).2.1 rfl) ho I.free
 ·obtain⟨v,o,ho,hd⟩:=I.cell x c e;exact free c o (λz=>(hch c z).2.2.1 x c e rfl) ho (I.fG x c e)
 ·obtain⟨e,n,ne,nf,d⟩:=I.pin p hp;have nch:p.1 ∉ ch:=λz=>(hch p.1 z).2.2.2 p hp rfl
  exact⟨keep p.1 p.2 ne nf nch e n,free p.1 p.2 nch e n,ne,nf,d⟩
theorem Inv.un{t':Nat}(I:Inv X pins σ H s)(u:Un X.fs [] H H' s.heap h')(hok:HOk X.prog X.w H' h'):Inv X pins σ H' { s with heap:=h',toks:=t' }:=by
 obtain⟨m,⟨o,es,ep,ho,r⟩,_⟩:=id I.loc;obtain⟨sl,hL⟩:=u.any ho I.free (by simp);exact I.step (g':=s.gens) (d':=s.drawn) (ch:=[]) (λ_ z=>nomatch z) (λb o _ hb _ e n=>u.keep b o e n hb (by simp)) (λb o _ hb _ e n=>u.slot b o e n hb (by simp)) (λb o _ e n=>u.free b o e n (by simp)) (λb o _ e=>u.there b o e (by simp)) u.tups u.jE u.jF (λm' hm=>by
  obtain⟨o',es',ep',ho',r'⟩:=hm;rw[ho] at ho';cases ho';exact⟨_,es',ep',hL,r'⟩) hok I.bare
theorem Inv.call{g':Array GenState}{t':Nat}{d':Drawn}{ch:List Addr}(I:Inv X pins σ H s)(u:Un (frs X.stack) ch H H' s.heap h')(hok:HOk X.prog X.w H' h')(hg:AllBare g')
  (hch:∀b∈ch,(b∈X.ex\/X.s₀.heap.objs.size<=b)/\b≠X.env.locals/\(∀x c,X.env.cells.lookup x=some c->c≠b)/\∀p∈X.pn++pins,p.1≠b) :
  Inv X pins σ H' { s with heap:=h',gens:=g',drawn:=d',toks:=t' }:=by
 obtain⟨m,⟨o,es,ep,ho,r⟩,_⟩:=id I.loc;obtain⟨sl,hL⟩:=u.any ho I.free λz=>(hch _ z).2.1 rfl
 exact I.step (ch:=ch) hch (λb o hL hb hc e n=>u.keep b o e n (λz=>(vS.mp (I.sJ b z)).elim hL hb) hc) (λb o _ _ hc e n=>u.any e n hc) (λb o hc e n=>u.free b o e n hc) (λb o hc e=>u.there b o e hc) u.tups u.jE u.jF (λm' hm=>by
  obtain⟨o',es',ep',ho',r'⟩:=hm;rw[ho] at ho';cases ho';exact⟨_,es',ep',hL,r'⟩) hok hg
theorem Inv.turned{t':Nat}{it:Addr}(I:Inv X pins σ H s)(k:∀b o,b≠it->s.heap.get? b=some o->h'.get? b=some o)(hn:H it=none)(hL:it≠X.env.locals)
  (h1:it∈X.ex\/X.s₀.heap.objs.size<=it) (h2:∀x c,X.env.cells.lookup x=some c->c≠it) (h3:∀p∈X.pn++pins,p.1≠it):Inv X pins σ H { s with heap:=h',toks:=t' }:=by
 have nit:∀b u,H b=some u->b≠it:=λb u e z=>by rw[z,hn] at e;cases e
 refine I.step (g':=s.gens) (d':=s.drawn) (ch:=[it]) (λb hb=>?_) (λb o _ _ hc e _=>k b o (λz=>hc (by simp[z])) e) (λb o _ _ hc e _=>⟨o.slots,k b o (λz=>hc (by simp[z])) e⟩) (λ_ _ _ _ n=>n)
  (λb o hc e=>⟨o,k b o (λz=>hc (by simp[z])) e⟩) (λ_ _ e=>e) (λ_ _ _ e=>e) (λb ps e=>⟨#[],by rw[e];simp⟩) (λm hm=>?_) (λb u e=>?_) I.bare
 ·have e:b=it:=by simpa using hb
  subst e;exact⟨h1,hL,h2,h3⟩
 ·obtain⟨o,es,ep,ho,r⟩:=hm;exact⟨o,es,ep,k _ o (Ne.symm hL) ho,r⟩
 ·refine(I.hok b u e).stay (λc v hc q=>k c v ?_ q) (λ_ q=>q) λ_ _ q=>q
  rcases hc with z|z
  ·rw[z];exact nit b u e
  ·exact nit c _ z
theorem Inv.tok(I:Inv X pins σ H s)(t:Nat):Inv X pins σ H { s with toks:=t }:=I.un (h':=s.heap) (t':=t) Un.refl I.hok
theorem Inv.kept{t':Nat}(I:Inv X pins σ H s)(k:∀b u,s.heap.get? b=some u->h'.get? b=some u):Inv X pins σ H { s with heap:=h',toks:=t' }:=I.un (Un.kept k) (I.hok.kept k)
theorem Inv.laid{a:Addr}{o:HO}{t':Nat}(I:Inv X pins σ H s)(k:∀b u,s.heap.get? b=some u->h'.get? b=some u)(hp:s.heap.objs.size<=a)(new:bT X.prog X.w (upd H a o) h' a o) :
  Inv X pins σ (upd H a o) { s with heap:=h',toks:=t' }:=I.un (Un.laid k hp (I.hok.fresh hp)) (I.hok.laid k hp new)
theorem Inv.write{x e:Addr}{o:HO}{t':Nat}(I:Inv X pins σ H s)(mu:Mut (H x))(he:e=x\/H e=some (.own x))(k:∀b u,b≠e->s.heap.get? b=some u->h'.get? b=some u)(heo:∃u,h'.get? e=some u)
  (new:bT X.prog X.w (upd H x o) h' x o):Inv X pins σ (upd H x o) { s with heap:=h',toks:=t' }:=I.un (Un.write mu he k heo) (I.hok.write mu he k heo new)
theorem Inv.Jx{gw:List (Addr×Obj)}(I:Inv X pins σ H s)(h:∀p∈gw,s.heap.get? p.1=some p.2/\H p.1=none/\p.1≠X.env.locals/\p.1 ∉ X.fs/\∀v,p.2.data≠.cell v):Inv X gw σ H s :=
 ⟨I.ok,I.os,I.bare,I.base,I.loc,I.cell,I.free,I.fG,λp hp=>(wP.mp hp).elim (λz=>I.pin p (nV _ z)) (h p),I.hok,I.len⟩
theorem sO{N:List Str}(hN:N.Nodup){i j:Nat}{x:Str}(a:N[i]?=some x)(b:N[j]?=some x):i=j:=by
 obtain⟨h1,e1⟩:=jI.mp a;obtain⟨h2,e2⟩:=jI.mp b;exact(List.getElem_inj hN).mp (e1.trans e2.symm)
theorem wA{M:Model}{A:Around}{E:xB}{i:Nat}{x:Str}{v:V}{u:Value}{Q:xA}(I:Inv X pins σ H s)(hN:X.N.Nodup)(hi:X.N[i]?=some x)(hx:Loc X.env.scope x)(r:RelV v u)
  (h:∀s',Inv X pins (σ.set i (some v)) H s'->(∃a,Heap.SameBut a s.heap s'.heap/\(a=X.env.locals\/X.env.cells.lookup x=some a))->Q () s') (hf:X.fn x=true\/X.env.scope.names.lookup x=some .local:=by first|exact .inl rfl|exact .inr rfl|assumption):wpAny M A (storeName X.env x u) Q E s:=by
 obtain⟨m,hn,hl⟩:=id I.loc;have hcls:(X.env.scope.kind==.class || (X.env.scope.kind==.module && X.env.locals != X.env.globals))=false:=by rw[I.ok.kind];rfl
 have hiσ:i<σ.length:=by rw[I.len];exact(jI.mp hi).1
 have cne:=I.cne;have tracked:∀{a:Addr} {h':Heap},(∃o,s.heap.get? a=some o/\H a=none)->Heap.SameBut a s.heap h'->HOk X.prog X.w H h':=λ{a h'} ha hs b ob e=>by
  obtain⟨_,_,hfree⟩:=ha;refine(I.hok b ob e).stay (λc w' hc q=>(hs.2 c ?_).trans q) (λ_ q=>q) λ_ _ q=>q
  rintro rfl;rcases hc with rfl|hc
  ·rw[hfree] at e;cases e
  ·rw[hfree] at hc;cases hc
 rcases hx with hk|hk
 ·refine wpAny_storeName_local hk hn (λh' hn' hs=>?_) hcls;obtain⟨oL,_,_,hoL,_⟩:=id hn;refine h _ ⟨I.ok,I.os,I.bare,⟨λb o e n hb hx=>?_,λb o e n hb hx=>?_,I.base.free,λb o e hx=>?_,I.base.tups,I.base.jE,I.base.jF⟩,⟨_,hn',λj y v' e1 e2 e3=>?_⟩,λy c e=>?_,I.free,I.fG,λp hp=>?_,tracked ⟨oL,hoL,I.free⟩ hs,by simpa using I.len⟩ ⟨_,hs,.inl rfl⟩
  ·exact(hs.2 b (qB (qA (gS e) I.ok.above))).trans (I.base.keep b o e n hb hx)
  ·obtain⟨sl,e1⟩:=I.base.slot b o e n hb hx;exact⟨sl,(hs.2 b (qB (qA (gS e) I.ok.above))).trans e1⟩
  ·obtain⟨o',e1⟩:=I.base.there b o e hx;exact⟨o',(hs.2 b (qB (qA (gS e) I.ok.above))).trans e1⟩
  ·by_cases hj:j=i
   ·subst hj;rw[hi] at e1;cases e1;rw[List.getElem?_set_self hiσ] at e2;cases e2;exact⟨u,r,.inl ⟨hk,by simp⟩⟩
   ·rw[List.getElem?_set_ne (Ne.symm hj)] at e2;obtain⟨u',r',q⟩:=hl j y v' e1 e2 e3;refine⟨u',r',?_⟩;rcases q with⟨k,e⟩|⟨k,c,e,z⟩
    ·refine .inl ⟨k,?_⟩;have:y≠x:=λe=>hj (sO hN e1 (e▸hi))
     simp[this,e]
    ·exact .inr ⟨k,c,e,z.sameBut hs (cne y c e)⟩
  ·obtain⟨w',z⟩:=I.cell y c e;exact⟨w',z.sameBut hs (cne y c e)⟩
  ·obtain⟨e,n,ne,nf,d⟩:=I.pin p hp;exact⟨(hs.2 p.1 ne).trans e,n,ne,nf,d⟩
 ·have hfn:X.fn x=true:=by
   rcases hf with z|z
   ·exact z
   ·rw[z] at hk;cases hk
  obtain⟨c,hc⟩:=I.ok.has x (.inl hk);obtain⟨w',z⟩:=I.cell x c hc;refine wpAny_storeName_cell I.ok.kind hk hc z (λh' hc' hs=>?_);obtain⟨oc,hoc,ad_⟩:=id z;refine h { s with heap:=h' } ⟨I.ok,I.os,I.bare,⟨λb o e n hb hx=>?_,λb o e n hb hx=>?_,I.base.free,λb o e hx=>?_,I.base.tups,I.base.jE,I.base.jF⟩,⟨m,hn.sameBut hs (Ne.symm (cne x c hc)),λj y v' e1 e2 e3=>?_⟩,λy c' e=>?_,I.free,I.fG,λp hp=>?_,tracked ⟨oc,hoc,I.fG x c hc⟩ hs,by simpa using I.len⟩ ⟨c,hs,.inr hc⟩
  ·exact(hs.2 b (qB (qA (gS e) (I.ok.cab x c hfn hc)))).trans (I.base.keep b o e n hb hx)
  ·obtain⟨sl,e1⟩:=I.base.slot b o e n hb hx;exact⟨sl,(hs.2 b (qB (qA (gS e) (I.ok.cab x c hfn hc)))).trans e1⟩
  ·obtain⟨o',e1⟩:=I.base.there b o e hx;exact⟨o',(hs.2 b (qB (qA (gS e) (I.ok.cab x c hfn hc)))).trans e1⟩
  ·by_cases hj:j=i
   ·subst hj;rw[hi] at e1;cases e1;rw[List.getElem?_set_self hiσ] at e2;cases e2;exact⟨u,r,.inr ⟨.inl hk,c,hc,hc'⟩⟩
   ·rw[List.getElem?_set_ne (Ne.symm hj)] at e2;obtain⟨u',r',q⟩:=hl j y v' e1 e2 e3;refine⟨u',r',?_⟩;rcases q with q|⟨k,c',e,z'⟩
    ·exact .inl q
    ·refine .inr ⟨k,c',e,z'.sameBut hs ?_⟩;rintro rfl;exact hj (sO hN e1 (I.ok.inj _ _ _ e hc▸hi))
  ·by_cases hcc:c'=c
   ·subst hcc;exact⟨_,hc'⟩
   ·obtain⟨w2,z2⟩:=I.cell y c' e;exact⟨w2,z2.sameBut hs hcc⟩
  ·obtain⟨e,n,ne,nf,d⟩:=I.pin p hp;refine⟨(hs.2 p.1 ?_).trans e,n,ne,nf,d⟩;intro q;rw[q,hoc] at e;have q':oc=p.2:=oQ e;exact d w' (by rw[<- q'];exact ad_)
theorem jG{M:Model}{A:Around}{E:xB}{i:Nat}{x:Str}{v:V}{u:Value}{Q:xA}(I:Inv X pins σ H s)(hN:X.N.Nodup)(hi:X.N[i]?=some x)(hx:Loc X.env.scope x)(r:RelV v u)
  (h:∀s',Inv X pins (σ.set i (some v)) H s'->Q () s') (hf:X.fn x=true\/X.env.scope.names.lookup x=some .local:=by first|exact .inl rfl|exact .inr rfl|assumption):wpAny M A (storeName X.env x u) Q E s :=
 wA I hN hi hx r (λs' I' _=>h s' I') hf
theorem Inv.call'{s':Shared}{ch:List Addr}(I:Inv X pins σ H s)(ho:s'.os=s.os)(u:Un (frs X.stack) ch H H' s.heap s'.heap)(hok:HOk X.prog X.w H' s'.heap)(hg:AllBare s'.gens)
  (hch:∀b∈ch,(b∈X.ex\/X.s₀.heap.objs.size<=b)/\b≠X.env.locals/\(∀x c,X.env.cells.lookup x=some c->c≠b)/\∀p∈X.pn++pins,p.1≠b):Inv X pins σ H' s':=by
 obtain⟨h',g',d',t',o'⟩:=s';have e:o'=s.os:=ho;subst e;exact I.call (g':=g') (t':=t') (d':=d') u hok hg hch
end
abbrev XK:=Value->Option Addr->Hp->Prop
abbrev St:=List (Option V)
abbrev VK:=V->Hp->Prop
abbrev TE:=St->Hp->VK->Prop
abbrev TT:=St->Hp->(Bool->Hp->Prop)->Prop
abbrev TA:=St->Hp->(List V->Hp->Prop)->Prop
structure Ends where
 nx:St->Hp->Prop
 rt:VK
 bk:St->Hp->Prop:=λ_ _=>False
 ct:St->Hp->Prop:=λ_ _=>False
abbrev TS:=Ends->St->Hp->Prop
def EP(X:Cx)(pins:List (Addr×Obj))(σ:St)(Q:VK)(u:Value)(s':Shared):Prop:=∃v H',Inv X pins σ H' s'/\RelV v u/\Q v H'
def TP(X:Cx)(pins:List (Addr×Obj))(σ:St)(Q:Bool->Hp->Prop)(b:Bool)(s':Shared):Prop:=∃H',Inv X pins σ H' s'/\Q b H'
def AP(X:Cx)(pins:List (Addr×Obj))(σ:St)(Q:List V->Hp->Prop)(us:xE)(s':Shared):Prop:=∃vs H',Inv X pins σ H' s'/\Vals vs us/\Q vs H'
def SP(X:Cx)(pins:List (Addr×Obj))(D:Ends)(f:Flow)(s':Shared):Prop :=
 match f with
 | .next=>∃σ' H',Inv X pins σ' H' s'/\D.nx σ' H'
 | .brk=>∃σ' H',Inv X pins σ' H' s'/\D.bk σ' H'
 | .cont=>∃σ' H',Inv X pins σ' H' s'/\D.ct σ' H'
 | .ret u=>∃v σ' H',Inv X pins σ' H' s'/\RelV v u/\D.rt v H'
def PE(X:Cx)(e:Expr)(t:TE):Prop :=
 ∀(pins:List (Addr×Obj)) (s:Shared) (σ:St) (H:Hp) (Q:VK),Inv X pins σ H s->t σ H Q->wpAny (model X.prog X.w) X.A (eval e X.env) (EP X pins σ Q) X.xe s
def PT(X:Cx)(e:Expr)(t:TT):Prop :=
 ∀(pins:List (Addr×Obj)) (s:Shared) (σ:St) (H:Hp) (Q:Bool->Hp->Prop),Inv X pins σ H s->t σ H Q->wpAny (model X.prog X.w) X.A (isTrue e X.env (eval e X.env)) (TP X pins σ Q) X.xe s
def PW(X:Cx)(e:Expr)(t:TT):Prop :=
 ∀(whole:Sem Value) (pins:List (Addr×Obj)) (s:Shared) (σ:St) (H:Hp) (Q:Bool->Hp->Prop),Inv X pins σ H s->t σ H Q->wpAny (model X.prog X.w) X.A (isTrue e X.env whole) (TP X pins σ Q) X.xe s
theorem PW.pt{X:Cx}{e:Expr}{t:TT}(h:PW X e t):PT X e t:=h _
def PA(X:Cx)(es:List Expr)(t:TA):Prop :=
 ∀(pos:Pos) (pins:List (Addr×Obj)) (s:Shared) (σ:St) (H:Hp) (Q:List V->Hp->Prop),Inv X pins σ H s->t σ H Q->wpAny (model X.prog X.w) X.A (spliced (backTo pos (starEach es X.env))) (AP X pins σ Q) X.xe s
def PS(X:Cx)(st:Stmt)(t:TS):Prop :=
 ∀(pins:List (Addr×Obj)) (s:Shared) (σ:St) (H:Hp) (D:Ends),Inv X pins σ H s->t D σ H->wpAny (model X.prog X.w) X.A (exec st X.env) (SP X pins D) X.xe s
def PSs(X:Cx)(st:List Stmt)(t:TS):Prop :=
 ∀(pins:List (Addr×Obj)) (s:Shared) (σ:St) (H:Hp) (D:Ends),Inv X pins σ H s->t D σ H->wpAny (model X.prog X.w) X.A (execs st X.env) (SP X pins D) X.xe s
theorem thn{α:Type}{t:Sem α}{Q Q':α->Shared->Prop}{M:Model}{A:Around}{E:xB}{s:Shared}(h:wpAny M A t Q E s)(hQ:∀a s,Q a s->Q' a s):wpAny M A t Q' E s:=nS h hQ λ_ _ x=>x
section
variable{X:Cx}
def dI(i:Nat):TE:=λσ H Q=>∃v,σ[i]?=some (some v)/\Q v H
def tC(v:V):TE:=λ_ H Q=>Q v H
theorem Yh{i:Nat}{x:Str}{pos:Pos}(hN:X.N[i]?=some x)(hv:Vis X.env.scope x)(hd:(x==("__debug__" : Str))=false:=by decide)(hcd:(x==("__classdict__" : Str))=false:=by decide):PE X (.Name x pos) (dI i):=by
 intro pins s σ H Q I h;obtain⟨v,e,h⟩:=h;obtain⟨m,hn,hl⟩:=I.loc;obtain⟨u,r,l⟩:=hl i x v hN e hv;have fin:EP X pins σ Q u s:=⟨v,H,I,r,h⟩;rcases l with⟨hk,hm⟩|⟨hk,c,hc,hcell⟩
 ·exact wpAny_Name (wpAny_loadName_local I.ok.kind hk hn hm fin) hd
 ·rcases hk with hk|hk
  ·exact wpAny_Name (wpAny_loadName_cell I.ok.kind hk hc hcell fin) hd
  ·exact wpAny_Name (wpAny_loadName_free I.ok.kind hk hc hcell fin hcd) hd
theorem aq{i j pos}:PE X (.Constant (.int i) j pos) (tC (.int i)):=λ_ _ _ H _ I h=>wpAny_Constant_int ⟨.int i,H,I.tok _,⟨_,rfl⟩,h⟩
theorem cZ{b j pos}:PE X (.Constant (.bool b) j pos) (tC (.bl b)):=λ_ _ _ H _ I h=>Constant_bool ⟨.bl b,H,I,rfl,h⟩
theorem zB{j pos}:PE X (.Constant .none j pos) (tC .non):=λ_ _ _ H _ I h=>Constant_none ⟨.non,H,I,rfl,h⟩
theorem bL{x j pos}:PE X (.Constant (.str x) j pos) (tC (.str x)):=λ_ _ _ H _ I h=>Calls.Constant_str ⟨.str x,H,I.tok _,⟨_,rfl⟩,h⟩
def Gl(X:Cx)(x:Str):Prop:=X.env.kindOf x=some .globalImplicit
theorem jd{E:xB}{pins:List (Addr×Obj)}{s:Shared}{σ:St}{H:Hp}{x:Str}{u:Value}{pos:Pos}{Q:xB}(I:Inv X pins σ H s)(hg:Gl X x)(hm:X.mg x=some u)(h:Q u s)
  (hd:(x==("__debug__" : Str))=false:=by decide):wpAny (model X.prog X.w) X.A (eval (.Name x pos) X.env) Q E s :=
 Calls.Name_function_global I.ok.kind hg (Calls.loadGlobal_global (by rw[I.ok.glob];exact I.mod.glob.keeps I.bk) hm h) hd
theorem lM{E:xB}{pins:List (Addr×Obj)}{s:Shared}{σ:St}{H:Hp}{x:Str}{u:Value}{pos:Pos}{Q:xB}(I:Inv X pins σ H s)(hg:Gl X x)(hm:X.mg x=none)(hv:bootBuiltins x=some u)(h:Q u s)
  (hn:x ≠ "__name__":=by decide) (hd:(x==("__debug__" : Str))=false:=by decide):wpAny (model X.prog X.w) X.A (eval (.Name x pos) X.env) Q E s:=by
 obtain⟨mb,h1,h2⟩:=I.mod.blt;exact Calls.Name_function_global I.ok.kind hg (Calls.loadGlobal_builtin (by rw[I.ok.glob];exact I.mod.glob.keeps I.bk) hm (by rw[I.ok.blt];exact h1.keeps I.bk) ((h2 x hn).trans hv) h) hd
theorem Vi{x:Str}{v:V}{u:Value}{pos:Pos}(hg:Gl X x)(hm:X.mg x=some u)(r:RelV v u)(hd:(x==("__debug__" : Str))=false:=by decide):PE X (.Name x pos) (tC v) :=
 λ_ _ _ H _ I h=>jd I hg hm ⟨v,H,I,r,h⟩ hd
theorem Vj{x:Str}{v:V}{u:Value}{pos:Pos}(hg:Gl X x)(hm:X.mg x=none)(hv:bootBuiltins x=some u)(r:RelV v u)(hn:x ≠ "__name__":=by decide)(hd:(x==("__debug__" : Str))=false:=by decide):PE X (.Name x pos) (tC v) :=
 λ_ _ _ H _ I h=>lM I hg hm hv ⟨v,H,I,r,h⟩ hn hd
variable{a b:Expr}{ta tb:TE}{pos:Pos}
def tB(t:TE):TT:=λσ H Q=>t σ H λx H1=>∃c,x=.bl c/\Q c H1
theorem bN{e:Expr}{t:TE}(h:PE X e t)(he:∀whole,isTrue e X.env whole=(do let v <- whole;standAt e.pos;holding [v] (truthy v)):=by intro _;rfl):PT X e (tB t):=by
 intro pins s σ H Q I hw;refine isTrue_plain (thn (h pins s σ H _ I hw) λv s1 ⟨x,H1,I1,r1,q1⟩=>?_) (he _);obtain⟨d,rfl,q⟩:=q1;cases r1;exact wpAny_truthy_bool ⟨H1,I1,q⟩
variable{tA tB':TT}{rest:List Expr}
def Yi(t u:TT):TT:=λσ H Q=>t σ H λc H1=>if c=true then u σ H1 Q else Q false H1
def tOr(t u:TT):TT:=λσ H Q=>t σ H λc H1=>if c=true then Q true H1 else u σ H1 Q
def Yj(t:TT):TT:=λσ H Q=>t σ H λc H1=>Q (!c) H1
theorem g8(ha:PT X a tA):PW X (.BoolOp .And [a] pos) tA:=by
 intro wh pins s σ H Q I h;refine isTrue_and (thn (ha pins s σ H Q I h) λc s1 e=>?_);cases c with
 | true=>exact isTrue_and_nil e
 | false=>exact e
theorem fJ(ha:PT X a tA):PW X (.BoolOp .Or [a] pos) tA:=by
 intro wh pins s σ H Q I h;refine isTrue_or (thn (ha pins s σ H Q I h) λc s1 e=>?_);cases c with
 | false=>exact isTrue_or_nil e
 | true=>exact e
theorem je(ha:PT X a tA)(hb:PW X (.BoolOp .And (b::rest) pos) tB'):PW X (.BoolOp .And (a::b::rest) pos) (Yi tA tB'):=by
 intro wh pins s σ H Q I h;refine isTrue_and (thn (ha pins s σ H _ I h) λc s1 ⟨H1,I1,q1⟩=>?_);cases c with
 | true=>exact hb wh pins s1 σ H1 Q I1 q1
 | false=>exact⟨H1,I1,q1⟩
theorem dH(ha:PT X a tA)(hb:PW X (.BoolOp .Or (b::rest) pos) tB'):PW X (.BoolOp .Or (a::b::rest) pos) (tOr tA tB'):=by
 intro wh pins s σ H Q I h;refine isTrue_or (thn (ha pins s σ H _ I h) λc s1 ⟨H1,I1,q1⟩=>?_);cases c with
 | true=>exact⟨H1,I1,q1⟩
 | false=>exact hb wh pins s1 σ H1 Q I1 q1
theorem cD(ha:PT X a tA):PT X (.UnaryOp .Not a pos) (Yj tA):=by
 intro pins s σ H Q I h;exact isTrue_not (ha pins s σ H (λc H1=>Q (!c) H1) I h)
def Pb(ta tb:TE):TE:=λσ H Q=>ta σ H λx H1=>∃c,x=.bl c/\if c=true then tb σ H1 Q else Q (.bl false) H1
def Pg(ta:TE):TE:=λσ H Q=>ta σ H λx H1=>∃c,x=.bl c/\Q (.bl (!c)) H1
theorem fK{op}{t:TE}(h:PE X a t):PE X (.BoolOp op [a] pos) t:=λpins s σ H Q I hw=>BoolOp_one (h pins s σ H Q I hw)
theorem fL(ha:PE X a ta)(hb:PE X (.BoolOp .And (b::rest) pos) tb):PE X (.BoolOp .And (a::b::rest) pos) (Pb ta tb):=by
 intro pins s σ H Q I h;refine BoolOp_and (thn (ha pins s σ H _ I h) λv s1 ⟨x,H1,I1,r1,q1⟩=>?_);obtain⟨c,rfl,q1⟩:=q1;cases r1;refine wpAny_truthy_bool ?_;cases c with
 | true=>exact hb pins s1 σ H1 Q I1 q1
 | false=>exact⟨.bl false,H1,I1,rfl,q1⟩
theorem GX(ha:PE X a ta):PE X (.UnaryOp .Not a pos) (Pg ta):=by
 intro pins s σ H Q I h;refine UnaryOp_ (thn (ha pins s σ H _ I h) λv s1 ⟨x,H1,I1,r1,q1⟩=>?_);obtain⟨c,rfl,q1⟩:=q1;cases r1;exact not_of (wpAny_truthy_bool ⟨.bl (!c),H1,I1,rfl,q1⟩)
end
def SqL(K:W.Frag)(H:Hp)(a:Addr)(xs:List V):Prop :=
 Rd H a (.lst xs) \/
  ∃(o:Obj)(its:xI)(n:Nat),K.lookup a=some o/\o.cls=.type "list" /\ o.dict=none/\o.data=.seq its n/\its.size<=sizeLine/\Vals xs its.toList
def SqT(K:W.Frag)(H:Hp)(a:Addr)(xs:List V):Prop :=
 Rd H a (.tup xs) \/
  ∃(o:Obj)(its:xI)(n:Nat),K.lookup a=some o/\o.cls=.type "tuple" /\ o.data=.seq its n/\its.size<=sizeLine/\Vals xs its.toList
def aea:Value->Option V
 | .none=>some .non
 | .bool b=>some (.bl b)
 | .int i _=>some (.int i)
 | .str x _=>some (.str x)
 | .bytes b _=>some (.byt b)
 | .float b _=>some (.flt b)
 | .ref a=>some (.ref a)
 | .type n=>some (.ty n)
 | _=>none
theorem RelV.abs{x:V}{u:Value}(r:RelV x u):aea u=some x:=by
 cases x with
 | non=>cases r;rfl
 | bl _=>cases r;rfl
 | int _=>obtain⟨t,rfl⟩:=r;rfl
 | str _=>obtain⟨t,rfl⟩:=r;rfl
 | byt _=>obtain⟨t,rfl⟩:=r;rfl
 | flt _=>obtain⟨t,rfl⟩:=r;rfl
 | ref _=>cases r;rfl
 | ty _=>cases r;rfl
theorem RelV.inj{x y:V}{u:Value}(r:RelV x u)(q:RelV y u):x=y:=oQ (r.abs.symm.trans q.abs)
theorem Vals.inj:∀{xs ys:List V} {us:xE},Vals xs us->Vals ys us->xs=ys
 | _,_,_,.nil,.nil=>rfl
 | _,_,_,.cons r t,.cons r' t'=>by rw[r.inj r',Vals.inj t t']
section
variable{X:Cx}{pins:List (Addr×Obj)}{σ:St}{H:Hp}{s:Shared}{a:Addr}{xs ys:List V}
theorem SqL.of{K:W.Frag}(h:H a=some (.lst xs)):SqL K H a xs:=.inl (.inl h)
theorem SqT.of{K:W.Frag}(h:H a=some (.tup xs)):SqT K H a xs:=.inl (.inl h)
theorem Inv.list(I:Inv X pins σ H s)(h:SqL X.K H a xs):∃its:List Value,Vals xs its/\PlainL s.heap a its.toArray/\xs.length<=sizeLine:=by
 rcases h with h|⟨o,its,n,hk,hc,hd,hs,hz,r⟩
 ·obtain⟨z,its,n,r,e⟩:=h.ok I.hok;exact⟨its,r,⟨_,n,e,rfl,rfl,rfl⟩,z⟩
 ·refine⟨its.toList,r,⟨o,n,I.kIn a o hk,hc,hd,by simpa using hs⟩,?_⟩;have e:=r.length;simp only[Array.length_toList] at e
  lia
theorem Inv.tuple(I:Inv X pins σ H s)(h:SqT X.K H a xs):∃its:List Value,Vals xs its/\IsTup s.heap a its.toArray/\xs.length<=sizeLine:=by
 rcases h with h|⟨o,its,n,hk,hc,hs,hz,r⟩
 ·obtain⟨z,its,r,p⟩:=h.ok I.hok;exact⟨its,r,p,z⟩
 ·refine⟨its.toList,r,⟨o,I.kIn a o hk,hc,n,by simpa using hs⟩,?_⟩;have e:=r.length;simp only[Array.length_toList] at e
  lia
theorem Inv.sS(I:Inv X pins σ H s)(h:SqL X.K H a xs)(h':SqL X.K H a ys):xs=ys:=by
 obtain⟨its,r,⟨o,n,e,_,_,d⟩,_⟩:=I.list h;obtain⟨its',r',⟨o',n',e',_,_,d'⟩,_⟩:=I.list h';rw[e] at e';cases e';rw[d] at d';injection d' with d1 _
 have:its=its':=by simpa using congrArg Array.toList d1
 subst this;exact r.inj r'
theorem Inv.wB(I:Inv X pins σ H s)(h:SqT X.K H a xs)(h':SqT X.K H a ys):xs=ys:=by
 obtain⟨its,r,⟨o,e,_,n,d⟩,_⟩:=I.tuple h;obtain⟨its',r',⟨o',e',_,n',d'⟩,_⟩:=I.tuple h';rw[e] at e';cases e';rw[d] at d';injection d' with d1 _
 have:its=its':=by simpa using congrArg Array.toList d1
 subst this;exact r.inj r'
end
abbrev Cx.wish(X:Cx)(E:xB):Cx:={ X with xe:=E }
abbrev Cx.nox(X:Cx):Cx:=X.wish λ_ _=>False
theorem Cx.Ok.wish{X:Cx}(ok:X.Ok)(E:xB):(X.wish E).Ok :=
 ⟨ok.mod,ok.kind,ok.glob,ok.blt,ok.above,ok.inj,ok.has,ok.cab,ok.hd,ok.frames,ok.stk,ok.exf,ok.bs,ok.bsz,ok.v7,ok.zA,ok.jA,ok.frf⟩
theorem Cx.Ok.fM{X:Cx}{E:xB}(ok:(X.wish E).Ok):X.Ok :=
 ⟨ok.mod,ok.kind,ok.glob,ok.blt,ok.above,ok.inj,ok.has,ok.cab,ok.hd,ok.frames,ok.stk,ok.exf,ok.bs,ok.bsz,ok.v7,ok.zA,ok.jA,ok.frf⟩
section
variable{X:Cx}{pins:List (Addr×Obj)}{σ:St}{H:Hp}{s:Shared}{E:xB}
theorem Inv.wish(I:Inv X pins σ H s)(E:xB):Inv (X.wish E) pins σ H s:=⟨I.ok.wish E,I.os,I.bare,I.base,I.loc,I.cell,I.free,I.fG,I.pin,I.hok,I.len⟩
theorem Inv.fM(I:Inv (X.wish E) pins σ H s):Inv X pins σ H s:=⟨I.ok.fM,I.os,I.bare,I.base,I.loc,I.cell,I.free,I.fG,I.pin,I.hok,I.len⟩
theorem SP.fM{D:Ends}{f:Flow}{s':Shared}(h:SP (X.wish E) pins D f s'):SP X pins D f s':=by
 cases f with
 | next=>obtain⟨σ',H',I,q⟩:=h;exact⟨σ',H',I.fM,q⟩
 | brk=>obtain⟨σ',H',I,q⟩:=h;exact⟨σ',H',I.fM,q⟩
 | cont=>obtain⟨σ',H',I,q⟩:=h;exact⟨σ',H',I.fM,q⟩
 | ret u=>obtain⟨v,σ',H',I,r,q⟩:=h;exact⟨v,σ',H',I.fM,r,q⟩
theorem PSs.nox{st:List Stmt}{t:TS}(h:PSs X.nox st t):PSs X st t:=λpins s σ H D I hw =>
 nS (h pins s σ H D (I.wish _) hw) (λ_ _ q=>q.fM) λ_ _ z=>False.elim z
end
section
variable{X:Cx}{st:Stmt}{rest:List Stmt}{t u:TS}{e:Expr}{te:TE}{pos:Pos}
def Ph:TS:=λD σ H=>D.nx σ H
def Yk(t u:TS):TS:=λD σ H=>t { D with nx:=u D } σ H
theorem aR:PSs X [] Ph:=λ_ _ σ H _ I h=>wpAny_execs_nil ⟨σ,H,I,h⟩
theorem aA(h1:PS X st t)(h2:PSs X rest u):PSs X (st::rest) (Yk t u):=by
 intro pins s σ H D I h;refine wpAny_execs_cons (thn (h1 pins s σ H { D with nx:=u D } I h) λf s1 q=>?_)
 cases f with
 | next =>
  obtain⟨σ',H',I',q⟩:=q;exact h2 pins s1 σ' H' D I' q
 | ret v=>exact q
 | brk=>exact q
 | cont=>exact q
theorem aC(h1:PS X st t):PSs X [st] t:=by
 intro pins s σ H D I h;refine wpAny_execs_cons (thn (h1 pins s σ H D I h) λf s1 q=>?_);cases f with
 | next=>exact wpAny_execs_nil q
 | ret v=>exact q
 | brk=>exact q
 | cont=>exact q
theorem Inv.quiet{pins:List (Addr×Obj)}{σ:St}{H:Hp}{s:Shared}(I:Inv X pins σ H s):interactive X.env=false:=by simp[interactive,I.ok.kind]
def Pj(te:TE):TS:=λD σ H=>te σ H λ_ H1=>D.nx σ H1
theorem bK(he:PE X e te)(hs:swapsWith e none pos.line X.env=pure false:=by rfl):PS X (.Expr e pos) (Pj te):=by
 intro pins s σ H D I h;exact wpAny_Expr_any (thn (he pins s σ H _ I h) λv s1 ⟨x,H1,I1,r1,q1⟩=>⟨σ,H1,I1,q1⟩) I.quiet hs
def Vk(te:TE):TS:=λD σ H=>te σ H D.rt
theorem aL(he:PE X e te):PS X (.Return (some e) pos) (Vk te):=by
 intro pins s σ H D I h;exact wpAny_Return_some (thn (he pins s σ H _ I h) λv s1 ⟨x,H1,I1,r1,q1⟩=>⟨x,σ,H1,I1,r1,q1⟩)
def q_(c:TT)(t u:TS):TS:=λD σ H=>c σ H λb H1=>if b=true then t D σ H1 else u D σ H1
theorem bB{c:Expr}{a b:List Stmt}{tc:TT}(hc:PT X c tc)(ha:PSs X a t)(hb:PSs X b u):PS X (.If c a b pos) (q_ tc t u):=by
 intro pins s σ H D I h;refine wpAny_If (thn (hc pins s σ H _ I h) λd s1 ⟨H1,I1,q1⟩=>?_);cases d with
 | true=>exact ha pins s1 σ H1 D I1 q1
 | false=>exact hb pins s1 σ H1 D I1 q1
def Yl:TS:=λ_ _ _=>False
theorem kI{sts:List Stmt}:PSs X sts Yl:=λ_ _ _ _ _ _ h=>h.elim
end
abbrev TG:=V->St->Hp->(St->Hp->Prop)->Prop
abbrev TGs:=List V->St->Hp->(St->Hp->Prop)->Prop
def PG(X:Cx)(target:Expr)(t:TG):Prop :=
 ∀(pins:List (Addr×Obj)) (s:Shared) (σ:St) (H:Hp) (v:V) (u:Value) (Q:St->Hp->Prop),Inv X pins σ H s->RelV v u->t v σ H Q ->
  wpAny (model X.prog X.w) X.A (assign target X.env u) (λ_ s'=>∃σ' H',Inv X pins σ' H' s'/\Q σ' H') X.xe s
def PGs(X:Cx)(ts:List Expr)(t:TGs):Prop :=
 ∀(pins:List (Addr×Obj)) (s:Shared) (σ:St) (H:Hp) (vs:List V) (us:xE) (Q:St->Hp->Prop),Inv X pins σ H s->Vals vs us->t vs σ H Q ->
  wpAny (model X.prog X.w) X.A (assignInOrder ((assignEach ts X.env).map (·.2)) us) (λ_ s'=>∃σ' H',Inv X pins σ' H' s'/\Q σ' H') X.xe s
abbrev Pn:=V->V->V->Hp->(Hp->Prop)->Prop
def Ym(X:Cx)(t:Pn):Prop :=
 ∀(pins:List (Addr×Obj)) (s:Shared) (σ:St) (H:Hp) (o i v:V) (ov iv u:Value) (Q:Hp->Prop),Inv X pins σ H s->RelV o ov->RelV i iv->RelV v u->t o i v H Q ->
  wpAny (model X.prog X.w) X.A (setItem ov iv u) (λ_ s'=>∃H',Inv X pins σ H' s'/\Q H') X.xe s
abbrev TIp:=V->V->Hp->VK->Prop
def PIp(X:Cx)(op:Operator)(t:TIp):Prop :=
 ∀(pins:List (Addr×Obj)) (s:Shared) (σ:St) (H:Hp) (x y:V) (v u:Value) (Q:VK),Inv X pins σ H s->RelV x v->RelV y u->t x y H Q ->
  wpAny (model X.prog X.w) X.A (inplaceOp op v u) (EP X pins σ Q) X.xe s
section
variable{X:Cx}{pos:Pos}
def bR(i:Nat):TG:=λv σ H Q=>Q (σ.set i (some v)) H
theorem cN{i:Nat}{x:Str}(hN:X.N.Nodup)(hi:X.N[i]?=some x)(hx:Loc X.env.scope x)(hf:X.fn x=true\/X.env.scope.names.lookup x=some .local:=by first|exact .inl rfl|exact .inr rfl|assumption):PG X (.Name x pos) (bR i):=by
 intro pins s σ H v u Q I r h;exact wpAny_assign_Name (jG I hN hi hx r (λs' I'=>⟨_,H,I',h⟩) hf)
def Vl:TGs:=λvs σ H Q=>vs=[]/\Q σ H
def sU(t:TG)(u:TGs):TGs:=λvs σ H Q=>∃v r,vs=v::r/\t v σ H λσ' H'=>u r σ' H' Q
theorem jf:PGs X [] Vl:=by
 intro pins s σ H vs us Q I r h;obtain⟨e,h⟩:=h;subst e;cases r;exact assignInOrder_nil ⟨σ,H,I,h⟩
theorem cL{e:Expr}{es:List Expr}{t:TG}{u:TGs}(h1:PG X e t)(h2:PGs X es u)
  (hs:(assignEach (e::es) X.env).map (·.2)=assign e X.env::(assignEach es X.env).map (·.2):=by rfl):PGs X (e::es) (sU t u):=by
 intro pins s σ H vs us Q I r h;obtain⟨v,vr,e1,h⟩:=h;subst e1;cases r with
 | cons r rr =>
  rw[hs];refine assignInOrder_cons (thn (h1 pins s σ H _ _ _ I r h) λ_ s1 ⟨σ1,H1,I1,q1⟩=>?_);exact h2 pins s1 σ1 H1 _ _ Q I1 rr q1
def Vm(K:W.Frag)(n:Nat)(t:TGs):TG:=λv σ H Q=>∃a xs,v=.ref a/\SqT K H a xs/\xs.length=n/\t xs σ H Q
theorem lO{es:List Expr}{k:Nat}{t:TGs}{n:Nat}(hc:X.calm=true)(h:PGs X es t)
  (hn:(assignEach es X.env).length=n:=by rfl) (hst:(assignEach es X.env).findIdx? (·.1)=none:=by rfl):PG X (.Tuple es k pos) (Vm X.K n t):=by
 intro pins s σ H v u Q I r hw;obtain⟨a,xs,e1,hq,hl,hw⟩:=hw;subst e1;cases r;obtain⟨its,rv,ht,hz⟩:=I.tuple hq;refine assign_Tuple_tuple (I.ok.hd hc) ht (by simp[hn,<- hl,rv.length]) hst λh' hx=>?_
 have I1:Inv X pins σ H { s with heap:=h' }:=I.kept (t':=s.toks) λb o e=>hx b o (qB (gS e)) e
 exact h pins _ σ H xs _ Q I1 (by simpa using rv) hw
def Yn(to ti:TE)(t:Pn):TG:=λv σ H Q=>to σ H λo H1=>ti σ H1 λi H2=>t o i v H2 λH3=>Q σ H3
theorem zE{o i:Expr}{to ti:TE}{t:Pn}(ho:PE X o to)(hi:PE X i ti)(hs:Ym X t)
  (ha:∀v,assign (.Subscript o i pos) X.env v=(do
   let ov <- holding [v] (eval o X.env)
   let iv <- holding [v,ov] (eval i X.env)
   standAt pos
   holding [v,ov,iv] (setItem ov iv v)
   release [v,ov,iv] []):=by intro _;rfl):PG X (.Subscript o i pos) (Yn to ti t):=by
 intro pins s σ H v u Q I r h;rw[ha];refine zI (nK (thn (ho pins s σ H _ I h) λov s1 ⟨x,H1,I1,r1,q1⟩=>?_));refine zI (nK (thn (hi pins s1 σ H1 _ I1 q1) λiv s2 ⟨y,H2,I2,r2,q2⟩=>?_));refine zI (wpAny_standAt (zI (nK (thn (hs pins s2 σ H2 x y v ov iv u _ I2 r1 r2 r q2) λ_ s3 ⟨H3,I3,q3⟩=>?_))));exact wpAny_release ⟨σ,H3,I3,q3⟩
def GZ(te:TE)(g:TG):TS:=λD σ H=>te σ H λx H1=>g x σ H1 D.nx
theorem sV{tg e:Expr}{te:TE}{g:TG}(he:PE X e te)(hg:PG X tg g)(hs:swapsWithSole [tg] e pos.line X.env=pure false:=by rfl)(hw:swappedStores [tg] e X.env=pure none:=by rfl)
  (h1:(assignEach [tg] X.env).map (·.2)=[assign tg X.env]:=by rfl):PS X (.Assign [tg] e pos) (GZ te g):=by
 intro pins s σ H D I h;refine wpAny_Assign_stores (thn (he pins s σ H _ I h) λv s1 ⟨x,H1,I1,r1,q1⟩=>?_) hs hw;rw[h1];exact thn (hg pins s1 σ H1 x v _ I1 r1 q1) λ_ s2 q=>q
theorem Pq{i:Nat}{x:Str}{e:Expr}{te:TE}{pos':Pos}(hN:X.N.Nodup)(hi:X.N[i]?=some x)(hx:Loc X.env.scope x)(he:PE X e te)(hs:swapsWith e (some (.Name x pos')) pos.line X.env=pure false:=by rfl)(hf:X.fn x=true\/X.env.scope.names.lookup x=some .local:=by first|exact .inl rfl|exact .inr rfl|assumption) :
  PS X (.Assign [.Name x pos'] e pos) (GZ te (bR i)):=by
 intro pins s σ H D I h;refine wpAny_Assign_Name (thn (he pins s σ H _ I h) λv s1 ⟨y,H1,I1,r1,q1⟩=>?_) hs;exact jG I1 hN hi hx r1 (λs2 I2=>⟨_,H1,I2,q1⟩) hf
def Yo(i:Nat)(te:TE)(ti:TIp):TS:=λD σ H=>∃x,σ[i]?=some (some x)/\te σ H λy H1=>ti x y H1 λz H2=>D.nx (σ.set i (some z)) H2
theorem Yp{i:Nat}{x:Str}{e:Expr}{te:TE}{op:Operator}{ti:TIp}{pos':Pos}(hN:X.N.Nodup)(hi:X.N[i]?=some x)(hx:Loc X.env.scope x)(he:PE X e te)(ho:PIp X op ti)(hf:X.fn x=true\/X.env.scope.names.lookup x=some .local:=by first|exact .inl rfl|exact .inr rfl|assumption) :
  PS X (.AugAssign (.Name x pos') op e pos) (Yo i te ti):=by
 intro pins s σ H D I h;obtain⟨v,e1,h⟩:=h;obtain⟨m,hn,hl⟩:=I.loc;have vis:Vis X.env.scope x:=by rcases hx with k|k;exact .inl k;exact .inr (.inl k)
 obtain⟨u,r,l⟩:=hl i x v hi e1 vis;refine wpAny_AugAssign_Name ?_;have go:wpAny (model X.prog X.w) X.A (eval e X.env) (λw s₂=>wpAny (model X.prog X.w) X.A (inplaceOp op u w) (λr s₃=>wpAny (model X.prog X.w) X.A (storeName X.env x r) (λ_=>SP X pins D .next) X.xe s₃) X.xe s₂) X.xe s:=by
  refine thn (he pins s σ H _ I h) λw s1 ⟨y,H1,I1,r1,q1⟩=>?_
  refine thn (ho pins s1 σ H1 v y u w _ I1 r r1 q1) λz s2 ⟨zv,H2,I2,r2,q2⟩=>?_
  exact jG I2 hN hi hx r2 (λs3 I3=>⟨_,H2,I3,q2⟩) hf
 rcases l with⟨hk,hm⟩|⟨hk,c,hc,hcell⟩
 ·exact wpAny_loadName_local I.ok.kind hk hn hm go
 ·rcases hk with hk|hk
  ·exact wpAny_loadName_cell I.ok.kind hk hc hcell go
  ·rcases hx with k|k
   ·have:X.env.scope.names.lookup x=some .free:=hk;rw[k] at this;cases this
   ·have:X.env.scope.names.lookup x=some .free:=hk;rw[k] at this;cases this
end
section
variable{X:Cx}{pos:Pos}
def Pr(c:TT)(tb:TS):TS:=λD σ H=>∃W:Nat->St->Hp->Prop,(∃m,W m σ H)/\∀m σ H,W m σ H ->
 c σ H λb H1=>if b=true then ∃N:St->Hp->Prop,(∀σ' H',N σ' H'->∃m',m'<m/\W m' σ' H')/\tb { D with nx:=N,ct:=N,bk:=D.nx } σ H1 else D.nx σ H1
theorem jH{c:Expr}{body:List Stmt}{tc:TT}{tb:TS}(hp:PassesOwn (model X.prog X.w) X.A X.env X.xe)(hc:PT X c tc)(hb:PSs X body tb):PS X (.While c body [] pos) (Pr tc tb):=by
 intro pins s σ H D I h;obtain⟨W,⟨m0,w0⟩,turn⟩:=h;refine wpAny_While (codeAny_whileLoop (λn s'=>∃σ' H',Inv X pins σ' H' s'/\W n σ' H') ?_ m0 ⟨σ,H,I,w0⟩);rintro n s1 ⟨σ1,H1,I1,w1⟩;refine wpAny_passesOwn hp (thn (hc pins s1 σ1 H1 _ I1 (turn n σ1 H1 w1)) λb s2 ⟨H2,I2,q2⟩=>?_);cases b with
 | true =>
  obtain⟨N,hN,q2⟩:=q2;rw[zS rfl];refine wpAny_passesOwn hp (thn (hb pins s2 σ1 H2 _ I2 q2) λf s3 q3=>?_);cases f with
  | next =>
   obtain⟨σ3,H3,I3,n3⟩:=q3;obtain⟨m',hm,w3⟩:=hN σ3 H3 n3;exact⟨m',hm,σ3,H3,I3,w3⟩
  | cont =>
   obtain⟨σ3,H3,I3,n3⟩:=q3;obtain⟨m',hm,w3⟩:=hN σ3 H3 n3;exact⟨m',hm,σ3,H3,I3,w3⟩
  | brk=>exact q3
  | ret v=>exact q3
 | false =>
  rw[yA vE];exact wpAny_execs_nil ⟨σ1,H2,I2,q2⟩
end
structure It where
 go:Nat->Hp->Prop
 yld:Nat->Hp->V->Hp->Prop
 stop:Nat->Hp->Prop
def jJ(X:Cx)(pins:List (Addr×Obj))(H:Hp)(b:Addr):Prop :=
 H b=none/\b≠X.env.locals/\b ∉ X.fs/\(b∈X.ex\/X.s₀.heap.objs.size<=b)/\(∀x c,X.env.cells.lookup x=some c->c≠b)/\∀p∈X.pn++pins,p.1≠b
theorem Inv.Pu{X:Cx}{pins:List (Addr×Obj)}{σ:St}{H H':Hp}{s:Shared}{b:Addr}(I:Inv X pins σ H s)(hb:s.heap.objs.size<=b)(hn:H' b=none):jJ X pins H' b:=by
 refine⟨hn,Nat.ne_of_gt (qA I.lt hb),I.ad9 hb,.inr (rS I.sz hb),λx c e z=>?_,λp hp z=>?_⟩
 ·obtain⟨v,q⟩:=I.cell x c e;exact gE (qA q.lt (by rw[z];exact hb)) (qE _)
 ·exact gE (qA (gS (I.pin p hp).1) (by rw[z];exact hb)) (qE _)
structure Turn(P:Program)(w:World)(K:W.Frag)(tg:Expr)(J:It)(fp:List Addr)(it:Addr)(tn:Nat->Heap->Prop):Prop where
 mem:it∈fp
 obj:∀i h,tn i h->∀b∈fp,∃o,h.get? b=some o/\∀v,o.data≠.cell v
 keep:∀i h h',tn i h->(∀b∈fp,∀o,h.get? b=some o->h'.get? b=some o)->tn i h'
 item:∀(X:Cx),X.prog=P->X.w=w->X.K=K->X.calm=true->∀(i:Nat) (pins:List (Addr×Obj)) (s:Shared) (σ:St) (H:Hp) (E:xB),Inv X pins σ H s->(∀b∈fp,jJ X pins H b)->tn i s.heap->J.go i H ->
  wpAny (model P w) X.A (pyNext (.ref it)) (λr s1=>∃u,r=some u /\
   wpAny (model P w) X.A (letOwnedTupleGo tg (.ref it) u) (λ_ s2=>∃x H',Inv X pins σ H' s2/\RelV x u/\J.yld i H x H'/\tn (i+1) s2.heap/\∀b∈fp,H' b=none) E s1) E s
 done:∀(X:Cx),X.prog=P->X.w=w->X.K=K->X.calm=true->∀(i:Nat) (pins:List (Addr×Obj)) (s:Shared) (σ:St) (H:Hp) (E:xB),Inv X pins σ H s->(∀b∈fp,jJ X pins H b)->tn i s.heap->J.stop i H ->
  wpAny (model P w) X.A (pyNext (.ref it)) (λr s1=>r=none/\Inv X pins σ H s1) E s
 self:∀(A:Around)(i:Nat)(s:Shared)(Q:xB)(E:xB),tn i s.heap->Q (.ref it) s->wpAny (model P w) A (pyIter (.ref it)) Q E s
abbrev TI:=St->Hp->(It->Hp->Prop)->Prop
def PIE(X:Cx)(pins:List (Addr×Obj))(σ:St)(tg:Expr)(R:It->Hp->Prop)(itv:Value)(s2:Shared):Prop :=
 ∃(it:Addr)(fp:List Addr)(tn:Nat->Heap->Prop)(J:It)(H':Hp),itv=.ref it/\Inv X pins σ H' s2/\Turn X.prog X.w X.K tg J fp it tn/\tn 0 s2.heap/\(∀b∈fp,jJ X pins H' b)/\R J H'
def PI(X:Cx)(tg iter:Expr)(wi:TI):Prop :=
 ∀(pins:List (Addr×Obj)) (s:Shared) (σ:St) (H:Hp) (R:It->Hp->Prop),Inv X pins σ H s->wi σ H R ->
  wpAny (model X.prog X.w) X.A (eval iter X.env) (λv s1=>wpAny (model X.prog X.w) X.A (pyIter v) (PIE X pins σ tg R) X.xe s1) X.xe s
theorem Px{M:Model}{A:Around}{E:xB}{s:Shared}{tg:Expr}{it:Addr}{u:Value}{o:Obj}{n:String}{vs:xI}{Q:xA}(ho:s.heap.get? it=some o)(hc:o.cls=.type n)(hd:o.data=.fields vs)
  (hn:["enumerate","zip","dict_itemiterator","dict_reverseitemiterator","odict_iterator","itertools.zip_longest","itertools.pairwise"].contains n=false) (hQ:Q () s):wpAny M A (letOwnedTupleGo tg (.ref it) u) Q E s:=by
 unfold letOwnedTupleGo;cases tg <;> first
  | exact wpAny_pure hQ
  | (cases u <;> first
    | exact uS hQ
    | (refine zI (wpAny_load ho ?_)
       rw[hc,hd];show wpAny M A (if (["enumerate","zip","dict_itemiterator","dict_reverseitemiterator","odict_iterator","itertools.zip_longest","itertools.pairwise"].contains n && vs[0]? == some (rawInt _))=true then _ else _) Q E s;rw[yA (by intro h;rw[hn,Bool.false_and] at h;cases h)];exact uS hQ))
def Itl(K:W.Frag)(a:Addr):It :=
 ⟨λi H=>∃xs x,SqL K H a xs/\xs[i]?=some x,λi H x H'=>H'=H/\∀xs,SqL K H a xs->xs[i]?=some x,λi H=>∃xs,SqL K H a xs/\xs.length<=i⟩
def Itr(lo:Int)(n:Nat):It:=⟨λi _=>i<n,λi H x H'=>H'=H/\x=.int (lo+i),λi _=>n<=i⟩
theorem Mz{P:Program}{w:World}{K:W.Frag}{tg:Expr}(a it:Addr):Turn P w K tg (Itl K a) [it] it (λi h=>h.IsListIter it a i) where
 mem:=by simp
 obj:=λi h st b hb=>by
  have e:b=it:=by simpa using hb
  subst e;obtain⟨o,e,c,d⟩:=st;exact⟨o,e,λv z=>by rw[d] at z;cases z⟩
 keep:=λi h h' st k=>st.at λo e=>k it (by simp) o e
 item:=by
  intro X hP hw hK hc i pins s σ H E I hf st hg;subst hP hw hK;obtain⟨xs,x,hq,hx⟩:=hg;obtain⟨its,rv,p,hz⟩:=I.list hq;obtain⟨u,hu,ru⟩:=rv.get hx;obtain⟨f0,f1,f2,f3,f4,f5⟩:=hf it (by simp);refine wpAny_pyNext_list_item st p.isList (x:=u) (by simpa using hu) λh' st' sb=>?_
  have I1:Inv X pins σ H { s with heap:=h' }:=I.turned (t':=s.toks) (λb o hb e=>(sb.2 b hb).trans e) f0 f1 f3 f4 f5
  obtain⟨o,e,c,d⟩:=id st';exact⟨u,rfl,Px (s:={ s with heap:=h' }) e c d (by decide) ⟨x,H,I1,ru,⟨rfl,λys hy=>by rw[I.sS hy hq];exact hx⟩,st',λb hb=>(hf b hb).1⟩⟩
 done:=by
  intro X hP hw hK hc i pins s σ H E I hf st hg;subst hP hw hK;obtain⟨xs,hq,hx⟩:=hg;obtain⟨its,rv,p,hz⟩:=I.list hq;obtain⟨f0,f1,f2,f3,f4,f5⟩:=hf it (by simp);have hl:=rv.length;exact wpAny_pyNext_list_end (I.ok.hd hc) st p.isList (by simp;lia) λh' eb=>⟨rfl,I.turned (t':=s.toks) (λb o hb e=>eb b o hb e) f0 f1 f3 f4 f5⟩
 self:=λ_ _ _ _ _ st h=>wpAny_pyIter_listiter st h
theorem G3{P:Program}{w:World}{K:PySem.W.Frag}{tg:Expr}(it:Addr)(lo:Int)(n:Nat):Turn P w K tg (Itr lo n) [it] it (λi h=>IsRangeIter h it (lo+(i:Nat)*1) ((n:Int)-(i:Nat)) 1) where
 mem:=by simp
 obj:=λi h st b hb=>by
  have e:b=it:=by simpa using hb
  subst e;exact⟨_,st,λv z=>by
   have z':Data.fields _=Data.cell v:=z;cases z'⟩
 keep:=λi h h' st k=>k it (by simp) _ st
 item:=by
  intro X hP hw hK hc i pins s σ H E I hf st hg;subst hP hw hK;obtain⟨f0,f1,f2,f3,f4,f5⟩:=hf it (by simp);have W:=Walks.range (prog:=X.prog) (w:=X.w) (I.ok.hd hc) it lo 1 n;refine W.item i s _ _ hg st λv h' tk hv st' kk=>?_
  obtain⟨t,rfl⟩:=hv;have I1:Inv X pins σ H { s with heap:=h',toks:=tk }:=I.turned (λb o hb e=>kk b o (by simpa using hb) e) f0 f1 f3 f4 f5
  refine⟨_,rfl,Px (s:={ s with heap:=h',toks:=tk }) (n := "range_iterator") st' rfl rfl (by decide) ⟨.int (lo+i),H,I1,⟨t,?_⟩,⟨rfl,rfl⟩,st',λb hb=>(hf b hb).1⟩⟩
  rw[Int.mul_one]
 done:=by
  intro X hP hw hK hc i pins s σ H E I hf st hg;subst hP hw hK;obtain⟨f0,f1,f2,f3,f4,f5⟩:=hf it (by simp);exact wpAny_pyNext_range_end (I.ok.hd hc) st (by have:n<=i:=hg;lia) λh' eb=>⟨rfl,I.turned (t':=s.toks) (λb o hb e=>eb b o hb e) f0 f1 f3 f4 f5⟩
 self:=λ_ _ _ _ _ st h=>wpAny_pyIter_rangeiter st h
section
variable{X:Cx}{tg:Expr}
def Cz(K:W.Frag)(tl:TE):TI:=λσ H R=>tl σ H λx H1=>∃a,x=.ref a/\(∃xs,SqL K H1 a xs)/\R (Itl K a) H1
theorem cj{l:Expr}{tl:TE}(hl:PE X l tl):PI X tg l (Cz X.K tl):=by
 intro pins s σ H R I h;refine thn (hl pins s σ H _ I h) λv s1 ⟨x,H1,I1,r1,q1⟩=>?_
 obtain⟨a,e,⟨xs,hq⟩,q⟩:=q1;subst e;cases r1;obtain⟨its,rv,p,hz⟩:=I1.list hq;refine wpAny_pyIter_list p.isList ?_;refine⟨s1.heap.objs.size,[s1.heap.objs.size],_,_,H1,rfl,I1.kept (t':=s1.toks) λb o e=>gX _ e,Mz a _,⟨_,rV _ rfl,rfl,rfl⟩,λb hb=>?_,q⟩;have e:b=s1.heap.objs.size:=by simpa using hb
 subst e;exact I1.Pu (uA _) (I1.hok.fresh (uA _))
theorem CG{pins:List (Addr×Obj)}{σ:St}{H:Hp}{s:Shared}{R:It->Hp->Prop}{E:xB}{lo hi:Int}{t u v:Tok}{tk:Nat}(I:Inv X pins σ H s)(h1:-(2 ^ 62)<=lo)(h2:lo<2 ^ 62)(h3:-(2 ^ 62)<=hi)(h4:hi<2 ^ 62)
  (q:R (Itr lo (hi-lo).toNat) H):wpAny (model X.prog X.w) X.A (pyIter (.ref s.heap.objs.size)) (PIE X pins σ tg R) E { s with heap:=s.heap.push { cls:=.type "range", data:=.fields #[.int lo t,.int hi u,.int 1 v] },toks:=tk }:=by
 refine wpAny_pyIter_range (IsRange.new ..) (small_one h1 h2 h3 h4) ?_;have I1:Inv X pins σ H { s with heap:=s.heap.push { cls:=.type "range", data:=.fields #[.int lo t,.int hi u,.int 1 v] },toks:=tk }:=I.kept λb o e=>gX _ e
 refine⟨(s.heap.push { cls:=.type "range", data:=.fields #[.int lo t,.int hi u,.int 1 v] }).objs.size,[(s.heap.push { cls:=.type "range", data:=.fields #[.int lo t,.int hi u,.int 1 v] }).objs.size],_,_,H,rfl,
  I1.kept (t':=tk) λb o e=>gX _ e,G3 _ lo (hi-lo).toNat,?_,λb hb=>?_,q⟩
 ·have e1:lo+((0:Nat):Int)*1=lo:=by simp
  have e2:(((hi-lo).toNat:Nat):Int)-((0:Nat):Int)=Builtin.Range.rangeSize lo hi 1:=by rw[rangeSize_one];split <;> lia
  show IsRangeIter _ _ (lo+((0:Nat):Int)*1) ((((hi-lo).toNat:Nat):Int)-((0:Nat):Int)) 1;rw[e1,e2];exact rV _ rfl
 ·have e:b=(s.heap.push { cls:=.type "range", data:=.fields #[.int lo t,.int hi u,.int 1 v] }).objs.size:=by simpa using hb
  subst e;exact I1.Pu (uA _) (I1.hok.fresh (uA _))
def Py(ta:TA):TI:=λσ H R=>ta σ H λvs H1=>∃j:Int,vs=[.int j]/\-(2 ^ 62)<=j/\j<2 ^ 62/\R (Itr 0 j.toNat) H1
def Xv(ta:TA):TI:=λσ H R=>ta σ H λvs H1=>∃i j:Int,vs=[.int i,.int j]/\(-(2 ^ 62)<=i/\i<2 ^ 62/\-(2 ^ 62)<=j/\j<2 ^ 62)/\R (Itr i (j-i).toNat) H1
theorem MF{a:Expr}{ta:TA}{p pos:Pos}(hg:Gl X "range")(hm:X.mg "range" = none)(ha:PA X [a] ta)(hs:starEach [a] X.env=[(false,eval a X.env)]:=by rfl):PI X tg (.Call (.Name "range" p) [a] [] pos) (Py ta):=by
 intro pins s σ H R I h;refine Call_ (lM I hg hm boot_range (PyProof.Rows.callWith_type1 (thn (ha pos pins s σ H _ I h) λus s1 ⟨vs,H1,I1,r1,q1⟩=>?_) hs rfl));obtain⟨j,e,q1,q2,q⟩:=q1;subst e;cases r1 with
 | cons r rr =>
  cases rr;obtain⟨t,rfl⟩:=r;exact call_range_1 (CG I1 (by lia) (by lia) q1 q2 (by simpa using q))
theorem MJ{a b:Expr}{ta:TA}{p pos:Pos}(hg:Gl X "range")(hm:X.mg "range" = none)(ha:PA X [a,b] ta)(hs:starEach [a,b] X.env=[(false,eval a X.env),(false,eval b X.env)]:=by rfl)(hs2:starEach [b] X.env=[(false,eval b X.env)]:=by rfl) :
  PI X tg (.Call (.Name "range" p) [a,b] [] pos) (Xv ta):=by
 intro pins s σ H R I h;refine Call_ (lM I hg hm boot_range (PyProof.Rows.callWith_type1 (thn (ha pos pins s σ H _ I h) λus s1 ⟨vs,H1,I1,r1,q1⟩=>?_) (by rw[hs,hs2]) (by rw[hs2];rfl)));obtain⟨i,j,e,⟨q1,q2,q3,q4⟩,q⟩:=q1;subst e;cases r1 with
 | cons r rr =>
  cases rr with
  | cons r' rr =>
   cases rr;obtain⟨t,rfl⟩:=r;obtain⟨t',rfl⟩:=r';exact call_range_2 (CG I1 q1 q2 q3 q4 q)
def CJ(wi:TI)(g:TG)(tb:TS):TS:=λD σ H=>wi σ H λJ H1=>∃W:Nat->Nat->St->Hp->Prop,(∃m,W 0 m σ H1)/\∀i m σ H,W i m σ H ->
 (J.stop i H/\D.nx σ H)\/(J.go i H/\∃N:St->Hp->Prop,(∀σ' H',N σ' H'->∃m',m'<m/\W (i+1) m' σ' H')/\∀x H',J.yld i H x H'->g x σ H' λσ2 H2=>tb { D with nx:=N,ct:=N,bk:=D.nx } σ2 H2)
def oO(fp:List Addr)(h:Heap):List (Addr×Obj):=fp.filterMap λb=>(h.get? b).map λo=>(b,o)
theorem gJ{fp:List Addr}{h:Heap}{b:Addr}{o:Obj}(hb:b∈fp)(e:h.get? b=some o):(b,o)∈oO fp h:=List.mem_filterMap.mpr ⟨b,hb,by rw[e];rfl⟩
theorem MK{fp:List Addr}{h:Heap}{p:Addr×Obj}(hp:p∈oO fp h):p.1∈fp/\h.get? p.1=some p.2:=by
 obtain⟨b,hb,e⟩:=List.mem_filterMap.mp hp;cases q:h.get? b with
 | none=>rw[q] at e;cases e
 | some o =>
  rw[q] at e;have e':(b,o)=p:=oQ e;subst e';exact⟨hb,q⟩
theorem Inv.pinned{pins:List (Addr×Obj)}{σ:St}{H:Hp}{s:Shared}{fp:List Addr}(I:Inv X pins σ H s)(hf:∀b∈fp,jJ X pins H b)(ho:∀b∈fp,∃o,s.heap.get? b=some o/\∀v,o.data≠.cell v):Inv X (pins++oO fp s.heap) σ H s :=
 I.Jx λp hp=>(wP.mp hp).elim (λz=>I.pin p (uC _ z)) λz=>by
  obtain⟨hb,e⟩:=MK z;obtain⟨f0,f1,f2,_⟩:=hf p.1 hb;obtain⟨o,e',d⟩:=ho p.1 hb;rw[e] at e';cases e';exact⟨e,f0,f1,f2,d⟩
theorem Inv.f9{pins pl:List (Addr×Obj)}{σ:St}{H:Hp}{s:Shared}(I:Inv X (pins++pl) σ H s):Inv X pins σ H s:=I.Jx λp hp=>I.pin p (uC _ (nV _ hp))
theorem gK{iter:Expr}{body:List Stmt}{wi:TI}{g:TG}{tb:TS}{pos:Pos}(hp:PassesOwn (model X.prog X.w) X.A X.env X.xe)(hc:X.calm=true)(hi:PI X tg iter wi)(hg:PG X tg g)(hb:PSs X body tb)
  (hs:∀x,foldedSetIterable iter X.env x=pure x:=by intro _;rfl):PS X (.For tg iter body [] pos) (CJ wi g tb):=by
 intro pins s σ H D I h;refine wpAny_For (thn (hi pins s σ H _ I h) λv s1 h1=>thn h1 λitv s2 h2=>?_) hs;obtain⟨it,fp,tn,J,H2,e,I2,T,st2,f2,W,⟨m0,w0⟩,turn⟩:=h2;subst e
 -- what stays true of the iterator's objects through the loop
 have stat:∀{H':Hp},(∀b∈fp,H' b=none)->∀b∈fp,jJ X pins H' b:=λhn b hb=>⟨hn b hb,(f2 b hb).2⟩
 refine codeAny_forLoop_any (λn s'=>∃i σ' H',Inv X pins σ' H' s'/\tn i s'.heap/\(∀b∈fp,H' b=none)/\W i n σ' H') ?_ m0 ⟨0,σ,H2,I2,st2,λb hb=>(f2 b hb).1,w0⟩;rintro n s3 ⟨i,σ3,H3,I3,st3,fr3,w3⟩;rcases turn i n σ3 H3 w3 with⟨stop,qn⟩|⟨go,N,hN,step⟩
 ·refine wpAny_passesOwn hp (thn (T.done X rfl rfl rfl hc i pins s3 σ3 H3 X.xe I3 (stat fr3) st3 stop) λr s4 ⟨hr,I4⟩=>?_);subst hr;exact wpAny_execs_nil ⟨σ3,H3,I4,qn⟩
 ·refine wpAny_passesOwn hp (thn (T.item X rfl rfl rfl hc i pins s3 σ3 H3 X.xe I3 (stat fr3) st3 go) λr s4 ⟨u,hr,h4⟩=>?_);subst hr;refine wpAny_passesOwn hp (thn h4 λ_ s5 ⟨x,H5,I5,r5,y5,st5,fr5⟩=>?_);have I5':=I5.pinned (stat fr5) (T.obj _ _ st5);refine wpAny_passesOwn hp (thn (hg _ s5 σ3 H5 x u _ I5' r5 (step x H5 y5)) λ_ s6 ⟨σ6,H6,I6,q6⟩=>?_);refine wpAny_passesOwn hp (thn (hb _ s6 σ6 H6 _ I6 q6) λf s7 q7=>?_);have again:∀{σ7:St} {H7:Hp},Inv X (pins++oO fp s5.heap) σ7 H7 s7->N σ7 H7->∃m,m<n/\∃i σ' H',Inv X pins σ' H' s7/\tn i s7.heap/\(∀b∈fp,H' b=none)/\W i m σ' H':=λ{σ7 H7} I7 n7=>by
   obtain⟨m',hm,w7⟩:=hN σ7 H7 n7;refine⟨m',hm,i+1,σ7,H7,I7.f9,T.keep _ _ _ st5 λb hb o e=>(I7.pin (b,o) (uC _ (uC _ (gJ hb e)))).1,λb hb=>?_,w7⟩;obtain⟨o,e,d⟩:=T.obj _ _ st5 b hb;exact(I7.pin (b,o) (uC _ (uC _ (gJ hb e)))).2.1
  cases f with
  | next=>obtain⟨σ7,H7,I7,n7⟩:=q7;exact again I7 n7
  | cont=>obtain⟨σ7,H7,I7,n7⟩:=q7;exact again I7 n7
  | brk=>obtain⟨σ7,H7,I7,q7⟩:=q7;exact⟨σ7,H7,I7.f9,q7⟩
  | ret v=>obtain⟨x7,σ7,H7,I7,r7,q7⟩:=q7;exact⟨x7,σ7,H7,I7.f9,r7,q7⟩
end
theorem Pz{K:PySem.W.Frag}{a:Addr}{xs:List V}{g:TG}{tb:TS}{D:Ends}{σ:St}{H:Hp}(Pv:Nat->St->Hp->Prop)(h0:Pv 0 σ H)(hl:∀i σ H,i<=xs.length->Pv i σ H->SqL K H a xs)
  (hs:∀i x σ H,xs[i]?=some x->Pv i σ H->g x σ H λσ2 H2=>tb { D with nx:=Pv (i+1),ct:=Pv (i+1),bk:=D.nx } σ2 H2) (hd:∀σ H,Pv xs.length σ H->D.nx σ H) :
  ∃W:Nat->Nat->St->Hp->Prop,(∃m,W 0 m σ H)/\∀i m σ H,W i m σ H ->
   ((Itl K a).stop i H/\D.nx σ H)\/((Itl K a).go i H/\∃N:St->Hp->Prop,(∀σ' H',N σ' H'->∃m',m'<m/\W (i+1) m' σ' H')/\∀x H',(Itl K a).yld i H x H'->g x σ H' λσ2 H2=>tb { D with nx:=N,ct:=N,bk:=D.nx } σ2 H2):=by
 refine⟨λi m σ H=>m=xs.length-i/\i<=xs.length/\Pv i σ H,⟨xs.length,by simp,Nat.zero_le _,h0⟩,?_⟩;rintro i m σ H ⟨rfl,hi,p⟩;have q:=hl i σ H hi p;by_cases hlt:i<xs.length
 ·refine .inr ⟨⟨xs,xs[i],q,by simp[hlt]⟩,Pv (i+1),λσ' H' p'=>⟨xs.length-(i+1),by lia,rfl,hlt,p'⟩,λx H' y=>?_⟩;obtain⟨e,y⟩:=y;subst e;exact hs i x σ _ (y xs q) p
 ·have e:i=xs.length:=by lia
  subst e;exact .inl ⟨⟨xs,q,uA _⟩,hd σ H p⟩
theorem wC{lo:Int}{n:Nat}{g:TG}{tb:TS}{D:Ends}{σ:St}{H:Hp}(Pv:Nat->St->Hp->Prop)(h0:Pv 0 σ H)
  (hs:∀i σ H,i<n->Pv i σ H->g (.int (lo+i)) σ H λσ2 H2=>tb { D with nx:=Pv (i+1),ct:=Pv (i+1),bk:=D.nx } σ2 H2) (hd:∀σ H,Pv n σ H->D.nx σ H) :
  ∃W:Nat->Nat->St->Hp->Prop,(∃m,W 0 m σ H)/\∀i m σ H,W i m σ H ->
   ((Itr lo n).stop i H/\D.nx σ H)\/((Itr lo n).go i H/\∃N:St->Hp->Prop,(∀σ' H',N σ' H'->∃m',m'<m/\W (i+1) m' σ' H')/\∀x H',(Itr lo n).yld i H x H'->g x σ H' λσ2 H2=>tb { D with nx:=N,ct:=N,bk:=D.nx } σ2 H2):=by
 refine⟨λi m σ H=>m=n-i/\i<=n/\Pv i σ H,⟨n,by simp,Nat.zero_le _,h0⟩,?_⟩;rintro i m σ H ⟨rfl,hi,p⟩;by_cases hlt:i<n
 ·refine .inr ⟨hlt,Pv (i+1),λσ' H' p'=>⟨n-(i+1),by lia,rfl,hlt,p'⟩,λx H' y=>?_⟩;obtain⟨e,y⟩:=y;subst e y;exact hs i σ _ hlt p
 ·have e:i=n:=by lia
  subst e;exact .inl ⟨uA _,hd σ H p⟩
abbrev R2:=V->V->Hp->VK->Prop
def OpR(X:Cx)(f:Value->Value->Sem Value)(r:R2):Prop :=
 ∀(pins:List (Addr×Obj)) (s:Shared) (σ:St) (H:Hp) (x y:V) (v u:Value) (Q:VK),Inv X pins σ H s->RelV x v->RelV y u->r x y H Q ->
  wpAny (model X.prog X.w) X.A (f v u) (EP X pins σ Q) X.xe s
def UnR(X:Cx)(f:Value->Sem Value)(r:V->Hp->VK->Prop):Prop :=
 ∀(pins:List (Addr×Obj)) (s:Shared) (σ:St) (H:Hp) (x:V) (v:Value) (Q:VK),Inv X pins σ H s->RelV x v->r x H Q ->
  wpAny (model X.prog X.w) X.A (f v) (EP X pins σ Q) X.xe s
def g_(X:Cx)(f:Value)(r:List V->Hp->VK->Prop):Prop :=
 ∀(pins:List (Addr×Obj)) (s:Shared) (σ:St) (H:Hp) (xs:List V) (us:xE) (Q:VK),Inv X pins σ H s->Vals xs us->r xs H Q ->
  wpAny (model X.prog X.w) X.A (call f us) (EP X pins σ Q) X.xe s
def tOp(r:R2)(ta tb:TE):TE:=λσ H Q=>ta σ H λx H1=>tb σ H1 λy H2=>r x y H2 Q
def tUn(r:V->Hp->VK->Prop)(ta:TE):TE:=λσ H Q=>ta σ H λx H1=>r x H1 Q
def rI(C:Int->Int->Prop)(g:Int->Int->V):R2:=λx y H Q=>∃i j,x=.int i/\y=.int j/\C i j/\Q (g i j) H
def rI0(g:Int->Int->V):R2:=λx y H Q=>∃i j,x=.int i/\y=.int j/\Q (g i j) H
def rU(g:Int->V):V->Hp->VK->Prop:=λx H Q=>∃i,x=.int i/\Q (g i) H
section
variable{X:Cx}{a b:Expr}{ta tb:TE}{pos:Pos}
theorem Yq(ha:PE X a ta)(hb:PE X b tb){pins:List (Addr×Obj)}{s:Shared}{σ:St}{H:Hp}{R:V->V->Hp->Prop}(I:Inv X pins σ H s)
  (h:ta σ H λx H1=>tb σ H1 λy H2=>R x y H2) {Q:xB} {f:Value->Value->Sem Value}
  (hf:∀v u s2 x y H2,Inv X pins σ H2 s2->RelV x v->RelV y u->R x y H2->wpAny (model X.prog X.w) X.A (f v u) Q X.xe s2) :
  wpAny (model X.prog X.w) X.A (eval a X.env) (λv s₁=>wpAny (model X.prog X.w) X.A (eval b X.env) (λu s₂=>wpAny (model X.prog X.w) X.A (f v u) Q X.xe s₂) X.xe s₁) X.xe s:=by
 refine thn (ha pins s σ H _ I h) λv s1 ⟨x,H1,I1,r1,q1⟩=>?_
 refine thn (hb pins s1 σ H1 _ I1 q1) λu s2 ⟨y,H2,I2,r2,q2⟩=>?_
 exact hf v u s2 x y H2 I2 r1 r2 q2
theorem aM{op:Operator}{r:R2}(ho:OpR X (binaryOp op) r)(ha:PE X a ta)(hb:PE X b tb):PE X (.BinOp a op b pos) (tOp r ta tb):=by
 intro pins s σ H Q I h;exact wpAny_BinOp (Yq ha hb I h λv u s2 x y H2 I2 rx ry q=>ho pins s2 σ H2 x y v u Q I2 rx ry q)
theorem PB{op:UnaryOp}{r:V->Hp->VK->Prop}(ho:UnR X (unaryOp op) r)(ha:PE X a ta):PE X (.UnaryOp op a pos) (tUn r ta):=by
 intro pins s σ H Q I h;exact UnaryOp_ (thn (ha pins s σ H _ I h) λv s1 ⟨x,H1,I1,r1,q1⟩=>ho pins s1 σ H1 x v Q I1 r1 q1)
theorem opI{f:Value->Value->Sem Value}{C:Int->Int->Prop}{g:Int->Int->Int}
  (rule:∀(i j:Int)(t u:Tok)(s:Shared)(Q:xB)(E:xB),C i j->Q (.int (g i j) s.toks) { s with toks:=s.toks+1 }->wpAny (model X.prog X.w) X.A (f (.int i t) (.int j u)) Q E s) :
  OpR X f (rI C λi j=>.int (g i j)):=by
 intro pins s σ H x y v u Q I rx ry h;obtain⟨i,j,rfl,rfl,hc,q⟩:=h;obtain⟨t,rfl⟩:=rx;obtain⟨t',rfl⟩:=ry;exact rule i j t t' s _ _ hc ⟨.int (g i j),H,I.tok _,⟨_,rfl⟩,q⟩
theorem Yr{f:Value->Value->Sem Value}{g:Int->Int->Int}
  (rule:∀(i j:Int)(t u:Tok)(s:Shared)(Q:xB)(E:xB),Q (.int (g i j) s.toks) { s with toks:=s.toks+1 }->wpAny (model X.prog X.w) X.A (f (.int i t) (.int j u)) Q E s) :
  OpR X f (rI0 λi j=>.int (g i j)):=by
 intro pins s σ H x y v u Q I rx ry h;obtain⟨i,j,rfl,rfl,q⟩:=h;obtain⟨t,rfl⟩:=rx;obtain⟨t',rfl⟩:=ry;exact rule i j t t' s _ _ ⟨.int (g i j),H,I.tok _,⟨_,rfl⟩,q⟩
theorem Vn{f:Value->Value->Sem Value}{g:Int->Int->Bool}
  (rule:∀(i j:Int)(t u:Tok)(s:Shared)(Q:xB)(E:xB),Q (.bool (g i j)) s->wpAny (model X.prog X.w) X.A (f (.int i t) (.int j u)) Q E s) :
  OpR X f (rI0 λi j=>.bl (g i j)):=by
 intro pins s σ H x y v u Q I rx ry h;obtain⟨i,j,rfl,rfl,q⟩:=h;obtain⟨t,rfl⟩:=rx;obtain⟨t',rfl⟩:=ry;exact rule i j t t' s _ _ ⟨.bl (g i j),H,I,rfl,q⟩
def Ys(i j:Int):Prop:=0<j/\j<1073741824
def Yt(i j:Int):Prop:=0<=j/\j<=1000000/\i.natAbs<2 ^ 64
def MN(i j:Int):Prop:=(-(2 ^ 64)<i/\i<2 ^ 64)\/(-(2 ^ 64)<j/\j<2 ^ 64)
theorem MN.ok{i j:Int}(h:MN i j):IntMulOk i j:=by
 rcases h with⟨h1,h2⟩|⟨h1,h2⟩
 ·exact .of_left (intBits_le_64 h1 h2)
 ·exact .of_right (intBits_le_64 h1 h2)
theorem bU:OpR X (binaryOp .Add) (rI0 λi j=>.int (i+j)):=Yr λ_ _ _ _ _ _ _ q=>add_int q
theorem oR:OpR X (binaryOp .Sub) (rI0 λi j=>.int (i-j)):=Yr λ_ _ _ _ _ _ _ q=>sub_int q
theorem dg:OpR X (binaryOp .Mult) (rI MN λi j=>.int (i*j)):=opI λ_ _ _ _ _ _ _ hc q=>mul_int q hc.ok
theorem cu:OpR X (binaryOp .FloorDiv) (rI Ys λi j=>.int (i / j)):=opI λi j _ _ _ _ _ hc q=>by
 have h1:(0:Int)<j:=hc.1;have h2:j<1073741824:=hc.2;exact floordiv_int (by lia) (by rw[Int.fdiv_eq_ediv_of_nonneg i (by lia)];exact q) (.inl (PyProof.noPylong_small (by lia)))
theorem bV:OpR X (binaryOp .Mod) (rI (λ_ j=>0<j) λi j=>.int (i % j)):=opI λi j _ _ _ _ _ hc q=>by
 have h1:(0:Int)<j:=hc;exact mod_int' (by lia) (by rw[Int.fmod_eq_emod_of_nonneg i (by lia)];exact q)
theorem zF:OpR X (binaryOp .Pow) (rI Yt λi j=>.int (i ^ j.toNat)):=opI λ_ _ _ _ _ _ _ hc q=>pow_int_small hc.1 hc.2.1 hc.2.2 q
theorem Vo:OpR X (inplaceOp .Add) (rI0 λi j=>.int (i+j)):=Yr λ_ _ _ _ _ _ _ q=>iadd_int q
theorem unI{f:Value->Sem Value}{g:Int->Int}
  (rule:∀(i:Int)(t:Tok)(s:Shared)(Q:xB)(E:xB),Q (.int (g i) s.toks) { s with toks:=s.toks+1 }->wpAny (model X.prog X.w) X.A (f (.int i t)) Q E s) :
  UnR X f (rU λi=>.int (g i)):=by
 intro pins s σ H x v Q I rx h;obtain⟨i,rfl,q⟩:=h;obtain⟨t,rfl⟩:=rx;exact rule i t s _ _ ⟨.int (g i),H,I.tok _,⟨_,rfl⟩,q⟩
theorem G4:UnR X (unaryOp .USub) (rU λi=>.int (-i)):=unI λ_ _ _ _ _ q=>neg_int q
end
def Yu:V->V->Bool
 | .non,.non=>true|.non,.int _=>true|.int _,.non=>true|.non,.bl _=>true|.bl _,.non=>true|.non,.str _=>true|.str _,.non=>true
 | .int _,.int _=>true|.bl _,.bl _=>true|.str _,.str _=>true|.byt _,.byt _=>true
 | .int _,.str _=>true|.str _,.int _=>true|.bl _,.str _=>true|.str _,.bl _=>true
 | _,_=>false
def rEq:R2:=λx y H Q=>Yu x y=true/\Q (.bl (decide (x=y))) H
def rNe:R2:=λx y H Q=>Yu x y=true/\Q (.bl (!decide (x=y))) H
theorem Jy{i j:Int}:decide (V.int i=V.int j)=(i==j):=by
 rw[Bool.eq_iff_iff];simp
theorem PJ{i j:Bool}:decide (V.bl i=V.bl j)=(i==j):=by
 rw[Bool.eq_iff_iff];simp
theorem Jz{i j:Str}:decide (V.str i=V.str j)=(i==j):=by
 rw[Bool.eq_iff_iff];simp
theorem JB{i j:Array UInt8}:decide (V.byt i=V.byt j)=(i.toList==j.toList):=by
 rw[Bool.eq_iff_iff];cases i;cases j;simp
section
variable{X:Cx}{a b c:Expr}{ta tb tc:TE}{pos:Pos}
theorem bY{pins:List (Addr×Obj)}{σ:St}{H:Hp}{s:Shared}{Q:VK}{k k':Bool}(I:Inv X pins σ H s)(q:Q (.bl k) H)(e:k=k'):EP X pins σ Q (.bool k') s:=by
 subst e;exact⟨.bl k,H,I,rfl,q⟩
theorem gh:OpR X (compareOp .Eq) rEq:=by
 intro pins s σ H x y v u Q I rx ry h;obtain⟨hs,q⟩:=h;cases x with
 | non =>
  cases rx;cases y with
  | non=>cases ry;exact PySem.EqNone.eq_none_none (bY I q (by simp))
  | bl j=>cases ry;exact PySem.EqNone.eq_none_bool (bY I q (by simp))
  | int j=>obtain⟨t',rfl⟩:=ry;exact PySem.EqNone.eq_none_int (bY I q (by simp))
  | str j=>obtain⟨t',rfl⟩:=ry;exact PySem.EqNone.eq_none_str (bY I q (by simp))
  | _=>exact gE (show false=true from hs) vE
 | bl i =>
  cases rx;cases y with
  | non=>cases ry;exact PySem.EqNone.eq_bool_none (bY I q (by simp))
  | bl j=>cases ry;exact eq_bool (bY I q PJ)
  | str j=>obtain⟨t',rfl⟩:=ry;exact PySem.EqMixed.eq_bool_str (bY I q (by simp))
  | _=>exact gE (show false=true from hs) vE
 | int i =>
  obtain⟨t,rfl⟩:=rx;cases y with
  | non=>cases ry;exact PySem.EqNone.eq_int_none (bY I q (by simp))
  | int j=>obtain⟨t',rfl⟩:=ry;exact eq_int (bY I q Jy)
  | str j=>obtain⟨t',rfl⟩:=ry;exact PySem.EqMixed.eq_int_str (bY I q (by simp))
  | _=>exact gE (show false=true from hs) vE
 | str i =>
  obtain⟨t,rfl⟩:=rx;cases y with
  | non=>cases ry;exact PySem.EqNone.eq_str_none (bY I q (by simp))
  | bl j=>cases ry;exact PySem.EqMixed.eq_str_bool (bY I q (by simp))
  | int j=>obtain⟨t',rfl⟩:=ry;exact PySem.EqMixed.eq_str_int (bY I q (by simp))
  | str j=>obtain⟨t',rfl⟩:=ry;exact eq_str (bY I q Jz)
  | _=>exact gE (show false=true from hs) vE
 | byt i =>
  obtain⟨t,rfl⟩:=rx;cases y with
  | byt j=>obtain⟨t',rfl⟩:=ry;exact W.eq_bytes (bY I q JB)
  | _=>exact gE (show false=true from hs) vE
 | _=>cases y <;> exact gE (show false=true from hs) vE
theorem mV:OpR X (compareOp .NotEq) rNe:=by
 intro pins s σ H x y v u Q I rx ry h;obtain⟨hs,q⟩:=h;cases x with
 | non =>
  cases rx;cases y with
  | non=>cases ry;exact PySem.EqNone.ne_none_none (bY I q (by simp))
  | bl j=>cases ry;exact PySem.EqNone.ne_none_bool (bY I q (by simp))
  | int j=>obtain⟨t',rfl⟩:=ry;exact PySem.EqNone.ne_none_int (bY I q (by simp))
  | str j=>obtain⟨t',rfl⟩:=ry;exact PySem.EqNone.ne_none_str (bY I q (by simp))
  | _=>exact gE (show false=true from hs) vE
 | bl i =>
  cases rx;cases y with
  | non=>cases ry;exact PySem.EqNone.ne_bool_none (bY I q (by simp))
  | bl j=>cases ry;exact ne_bool (bY I q (qV not PJ))
  | str j=>obtain⟨t',rfl⟩:=ry;exact PySem.EqMixed.ne_bool_str (bY I q (by simp))
  | _=>exact gE (show false=true from hs) vE
 | int i =>
  obtain⟨t,rfl⟩:=rx;cases y with
  | non=>cases ry;exact PySem.EqNone.ne_int_none (bY I q (by simp))
  | int j=>obtain⟨t',rfl⟩:=ry;exact ne_int (bY I q (qV not Jy))
  | str j=>obtain⟨t',rfl⟩:=ry;exact PySem.EqMixed.ne_int_str (bY I q (by simp))
  | _=>exact gE (show false=true from hs) vE
 | str i =>
  obtain⟨t,rfl⟩:=rx;cases y with
  | non=>cases ry;exact PySem.EqNone.ne_str_none (bY I q (by simp))
  | bl j=>cases ry;exact PySem.EqMixed.ne_str_bool (bY I q (by simp))
  | int j=>obtain⟨t',rfl⟩:=ry;exact PySem.EqMixed.ne_str_int (bY I q (by simp))
  | str j=>obtain⟨t',rfl⟩:=ry;exact ne_str (bY I q (qV not Jz))
  | _=>exact gE (show false=true from hs) vE
 | byt i =>
  obtain⟨t,rfl⟩:=rx;cases y with
  | byt j=>obtain⟨t',rfl⟩:=ry;exact W.ne_bytes (bY I q (qV not JB))
  | _=>exact gE (show false=true from hs) vE
 | _=>cases y <;> exact gE (show false=true from hs) vE
theorem mW:OpR X (compareOp .Lt) (rI0 λi j=>.bl (decide (i<j))):=Vn λ_ _ _ _ _ _ _ q=>lt_int q
theorem h_:OpR X (compareOp .LtE) (rI0 λi j=>.bl (decide (i<=j))):=Vn λ_ _ _ _ _ _ _ q=>le_int q
theorem JC:OpR X (compareOp .Gt) (rI0 λi j=>.bl (decide (j<i))):=Vn λ_ _ _ _ _ _ _ q=>gt_int q
theorem PK:OpR X (compareOp .GtE) (rI0 λi j=>.bl (decide (j<=i))):=Vn λ_ _ _ _ _ _ _ q=>ge_int q
theorem aO(b:Expr){op:CmpOp}(h:op≠.In:=by decide)(h2:op≠.NotIn:=by decide):behindInMarks op b=false:=by
 have e1:(op==CmpOp.In)=false:=by cases op <;> first|rfl|exact gE rfl h
 have e2:(op==CmpOp.NotIn)=false:=by cases op <;> first|rfl|exact gE rfl h2
 cases b <;> simp[behindInMarks,e1,e2]
theorem cM{op:CmpOp}{r:R2}(ho:OpR X (compareOp op) r)(ha:PE X a ta)(hb:PE X b tb)(hm:behindInMarks op b=false):PE X (.Compare a [op] [b] pos) (tOp r ta tb):=by
 intro pins s σ H Q I h;exact wpAny_Compare1 (Yq ha hb I h λv u s2 x y H2 I2 rx ry q=>ho pins s2 σ H2 x y v u Q I2 rx ry q) hm
def JD(t:TE):TT:=λσ H Q=>t σ H λx H'=>∃k,x=.bl k/\Q k H'
theorem aN{op:CmpOp}{r:R2}(ho:OpR X (compareOp op) r)(ha:PE X a ta)(hb:PE X b tb)(hm:behindInMarks op b=false):PT X (.Compare a [op] [b] pos) (JD (tOp r ta tb)):=by
 intro pins s σ H Q I h;refine wpAny_isTrue_Compare1 (thn (ha pins s σ H _ I h) λv s1 ⟨x,H1,I1,r1,q1⟩=>thn (hb pins s1 σ H1 _ I1 q1) λu s2 ⟨y,H2,I2,r2,q2⟩ =>
  thn (ho pins s2 σ H2 x y v u _ I2 r1 r2 q2) λc s3 ⟨z,H3,I3,r3,k,e,q3⟩=>?_) hm
 subst e;cases r3;exact wpAny_truthy_bool ⟨H3,I3,q3⟩
def PL(r r':R2)(ta tb tc:TE):TE:=λσ H Q=>ta σ H λx H1=>tb σ H1 λy H2=>r x y H2 λz H3=>∃k,z=.bl k /\
 (if k=true then tc σ H3 λw' H4=>r' y w' H4 Q else Q (.bl false) H3)
theorem PN{op op':CmpOp}{r r':R2}(ho:OpR X (compareOp op) r)(ho':OpR X (compareOp op') r')(ha:PE X a ta)(hb:PE X b tb)(hc:PE X c tc)
  (hm:lastMarks [op,op'] [b,c]=false:=by with_unfolding_all rfl):PE X (.Compare a [op,op'] [b,c] pos) (PL r r' ta tb tc):=by
 intro pins s σ H Q I h;refine Compare_chain (thn (ha pins s σ H _ I h) λv s1 ⟨x,H1,I1,r1,q1⟩=>chain_link (thn (hb pins s1 σ H1 _ I1 q1) λu s2 ⟨y,H2,I2,r2,q2⟩ =>
  thn (ho pins s2 σ H2 x y v u _ I2 r1 r2 q2) λd s3 ⟨z,H3,I3,r3,k,e,q3⟩=>?_)) hm
 subst e;cases r3;refine wpAny_truthy_bool ?_;cases k with
 | false=>exact ite_ff ⟨.bl false,H3,I3,rfl,q3⟩
 | true=>exact ite_tt (chain_last (thn (hc pins s3 σ H3 _ I3 q3) λw' s4 ⟨z',H4,I4,r4,q4⟩=>ho' pins s4 σ H4 y z' u w' Q I4 r2 r4 q4))
theorem zG:(sizeLine:Nat)<2 ^ 63:=by rw[sizeLine_eq];decide
theorem vals1{x:V}{us:xE}(r:Vals [x] us):∃u,us=[u]/\RelV x u:=by
 cases r with
 | cons r1 r2=>cases r2;exact⟨_,rfl,r1⟩
theorem vals2{x y:V}{us:xE}(r:Vals [x,y] us):∃u w',us=[u,w']/\RelV x u/\RelV y w':=by
 cases r with
 | cons r1 r2 =>
  cases r2 with
  | cons r3 r4=>cases r4;exact⟨_,_,rfl,r1,r3⟩
def abd(K:W.Frag)(x:V)(H:Hp)(n:Nat):Prop :=
 match x with
 | .str y=>y.length<=sizeLine/\n=y.length
 | .byt y=>y.size<=sizeLine/\n=y.size
 | .ref p=>(∃xs,SqL K H p xs/\n=xs.length)\/∃xs,SqT K H p xs/\n=xs.length
 | _=>False
theorem PX:g_ X (.builtin "len") (λxs H Q=>∃x n,xs=[x]/\abd X.K x H n/\Q (.int n) H):=by
 intro pins s σ H xs us Q I r h;obtain⟨x,n,rfl,e,q⟩:=h;obtain⟨u,rfl,rx⟩:=vals1 r;have hl:=zG;have hs:sizeLine=16777216:=sizeLine_eq;cases x with
 | str y =>
  obtain⟨t,rfl⟩:=rx;obtain⟨hy,e'⟩:y.length<=sizeLine/\n=y.length:=e;subst e';exact len_str (by lia) ⟨.int _,H,I.tok _,⟨_,rfl⟩,q⟩
 | byt y =>
  obtain⟨t,rfl⟩:=rx;obtain⟨hy,e'⟩:y.size<=sizeLine/\n=y.size:=e;subst e';exact W.len_bytes (by lia) ⟨.int _,H,I.tok _,⟨_,rfl⟩,q⟩
 | ref p =>
  cases rx;have e':(∃xs,SqL X.K H p xs/\n=xs.length)\/∃xs,SqT X.K H p xs/\n=xs.length:=e;rcases e' with⟨xs,hx,e'⟩|⟨xs,hx,e'⟩
  ·subst e';obtain⟨its,r',pl,hz⟩:=I.list hx;have hlen:=r'.length;exact Calls.call_len_list pl.isList (by simp only[List.size_toArray];lia) ⟨.int xs.length,H,I.tok _,⟨_,by simp only[List.size_toArray];rw[hlen]⟩,q⟩
  ·subst e';obtain⟨its,r',pl,hz⟩:=I.tuple hx;have hlen:=r'.length;exact len_tuple pl (by simp only[List.size_toArray];lia) ⟨.int xs.length,H,I.tok _,⟨_,by simp only[List.size_toArray];rw[hlen]⟩,q⟩
 | _=>exact(show False from e).elim
end
structure G5(h:Heap)(x dx C:Addr)(mA:xC):Prop where
 obj:h.get? x=some (W.instObj C dx)
 ns:h.Ns1 dx mA
 ne:dx≠x
theorem kJ{h:Heap}{dx:Addr}{mA:xC}(n:h.Ns1 dx mA):∃od,h.get? dx=some od/\∀name,W.lookIn name od=some (mA name):=by
 obtain⟨o,es,ep,ho,hd,hk,_,hm⟩:=n;refine⟨o,ho,λname=>?_⟩;have e:=hm name;unfold nsFind findBy at e;rw[<- Array.find?_toList] at e;unfold W.lookIn;rw[hd];dsimp only;split
 ·rename_i y q;rw[q] at e;exact qV some e
 ·rename_i q;rw[q] at e;have a:es.toList.any (·.refKey)=false:=by
   rw[List.any_eq_false];intro y hy;obtain⟨z,t,hkey⟩:=hk y (Array.mem_toList_iff.mp hy);simp[DictEntry.refKey,hkey]
  have a':¬ es.toList.any (·.refKey)=true:=by rw[a];exact vE
  rw[yA a'];exact qV some e
theorem G5.look{h:Heap}{x dx C:Addr}{mA:xC}(I:G5 h x dx C mA):∃od,W.InstAt h x (W.instObj C dx) C (some od)/\∀name,W.lookIn name od=some (mA name) :=
 let ⟨od,ho,hl⟩:=kJ I.ns
 ⟨od,⟨I.obj,rfl,rfl,ho⟩,hl⟩
section
variable{prog:Program}{w:World}{A:Around}{E:xB}{s:Shared}{K:W.Frag}{x dx C f:Addr}{mA:xC}{name:Str}{v:Value}
theorem get_map{expr:Bool}{Q:xB}(X:K.In s.heap)(I:G5 s.heap x dx C mA)(hg:W.plainGet K C name=true)(hh:W.hasDictIn K C=true)
  (ha:W.findIn K (.ref C) name=some none) (hv:mA name=some v) (hv':W.handedIn v=true) (h:Q v { s with toks:=s.toks+1 }) :
  wpAny (model prog w) A (getAttr (.ref x) name expr) Q E s:=by
 obtain⟨od,J,hl⟩:=I.look;exact W.get_value X J (W.plainGet_of hg).1 (W.findObj_own hh ha rfl (by rw[hl,hv])) hv' h
theorem P0{pl:Sem Bool}{Q:Value×List Value->Shared->Prop}(X:K.In s.heap)(I:G5 s.heap x dx C mA)(hg:W.plainGet K C name=true)
  (hf:W.findIn K (.ref C) name=some (some (.ref f))) (ht:W.isFn K (.ref f)=true) (hv:mA name=none) (h:Q (.ref f,[.ref x]) s) :
  wpAny (model prog w) A (getMethod (.ref x) name pl) Q E s:=by
 obtain⟨od,J,hl⟩:=I.look;exact W.method_fn X J (W.plainGet_of hg).1 (W.plainGet_of hg).2 hf (beq_iff_eq.mp ht) (by show (W.lookIn name od).map (·.isSome)=some false;rw[hl,hv];rfl) h
theorem Vp{ns:List Str}{Q:xA}(X:K.In s.heap)(I:G5 s.heap x dx C mA)
  (hs:W.findIn K (.ref C) "__setattr__" = some (some (.builtin "object.__setattr__"))) (hp:W.plainOver K C=true) (ht:W.takerIn K C name=some none) (hh:W.hasDictIn K C=true)
  (hw:PySem.Within mA ns) (hsz:ns.length<=sizeLine)
  (h:∀h',G5 h' x dx C (λy=>if y=name then some v else mA y)->Heap.SameBut dx s.heap h'->Q () { s with heap:=h',toks:=s.toks+2 }) :
  wpAny (model prog w) A (setAttr (.ref x) name v) Q E s:=by
 obtain⟨od,J,hl⟩:=I.look;refine W.set_plain X J hs (W.osa_open (s:={ s with toks:=s.toks+1 }) (r:=none) X J hp ht λb=>?_)
 obtain⟨cd,hc,hd'⟩:=W.any_some hh;have hx:s.heap.get? x=some ⟨.ref C,some dx,.plain,#[]⟩:=I.obj;refine zI (uS (zI (zI (wpAny_loadPart hx (zI (W.Looks.here (s:={ s with toks:=s.toks+1 }) (W.looks_clsIn X hc) ?_))))))
 rw[hd'];refine uS (a:=some dx) (zI (uS (zI ?_)));refine wpAny_nsSet1 (s:={ s with toks:=s.toks+1 }) I.ns λh' hn2 hs2=>?_
 obtain⟨oD,esD,epD,hoD,hdD,hcD⟩:=hn2.count (PySem.Within.cons name v hw);refine zI (wpAny_lookBehind hoD (by rw[hdD];exact pastItsLine_dict (rS hcD (by rw[mN];lia))) ?_);exact uS (h _ ⟨(hs2.2 _ (Ne.symm I.ne)).trans I.obj,hn2,I.ne⟩ hs2)
theorem P_{R:Result->Shared->Prop}{vs:xE}{kw:List (Str×Value)}(X:K.In s.heap)(hm:W.makesIn K C=true)
  (hi:W.findIn K (.ref C) "__init__" = some (some (.ref f))) (hf:W.typeIn K (.ref f)=some (.type "function"))
  (h:codeAny (model prog w) (A.under (.builtin "type.__call__" ⟨.ref C::vs,kw⟩)) (.call (.ref f) ⟨.ref (s.heap.objs.size+1)::vs,kw⟩) (W.InitBack (s.heap.objs.size+1) R)
   { s with heap:=(s.heap.push W.emptyDict).push (W.instObj C s.heap.objs.size) }) :
  codeAny (model prog w) A (.call (.ref C) ⟨vs,kw⟩) R s:=by
 obtain⟨hh,g,d,t,os⟩:=s;exact W.make_core (W.makes_of X hm) (W.looks_findIn X hi) (λself=>W.bind_fn X self hf) (.inl rfl) h
end
def d7(f:Str)(v:V):List (Str×V)->List (Str×V)
 | []=>[(f,v)]
 | (g,x)::r=>if g=f then (g,v)::r else (g,x)::d7 f v r
theorem bD(f g:Str)(v:V):∀fs:List (Str×V),(d7 f v fs).lookup g=if g=f then some v else fs.lookup g
 | []=>by
  show List.lookup g [(f,v)]=_;by_cases h:g=f
  ·have hb:(g==f)=true:=beq_iff_eq.mpr h;simp only[List.lookup,hb,if_pos h]
  ·have hb:(g==f)=false:=beq_eq_false_iff_ne.mpr h;simp only[List.lookup,hb,if_neg h]
 | (k,x)::r=>by
  have ih:=bD f g v r;rw[show d7 f v ((k,x)::r)=(if k=f then (k,v)::r else (k,x)::d7 f v r) from rfl];by_cases hk:k=f
  ·rw[zS hk];by_cases h:g=k
   ·have hb:(g==k)=true:=beq_iff_eq.mpr h;simp only[List.lookup,hb,if_pos (h.trans hk)]
   ·have hb:(g==k)=false:=beq_eq_false_iff_ne.mpr h;simp only[List.lookup,hb,if_neg (λe:g=f=>h (e.trans hk.symm))]
  ·rw[yA hk];by_cases h:g=k
   ·have hb:(g==k)=true:=beq_iff_eq.mpr h;simp only[List.lookup,hb,if_neg (λe:g=f=>hk (h.symm.trans e))]
   ·have hb:(g==k)=false:=beq_eq_false_iff_ne.mpr h;simp only[List.lookup,hb];exact ih
theorem iJ(f:Str)(v:V):∀fs:List (Str×V),f∈(d7 f v fs).map (·.1)/\∀g,g∈fs.map (·.1)->g∈(d7 f v fs).map (·.1)
 | []=>⟨by simp[d7],λg h=>by simp at h⟩
 | (k,x)::r=>by
  obtain⟨i1,i2⟩:=iJ f v r;rw[show d7 f v ((k,x)::r)=(if k=f then (k,v)::r else (k,x)::d7 f v r) from rfl];by_cases hk:k=f
  ·rw[zS hk];subst hk;exact⟨by simp,λg h=>by simpa using h⟩
  ·rw[yA hk];refine⟨?_,λg h=>?_⟩
   ·rw[oC];exact zD _ i1
   ·rw[oC] at h ⊢;rcases vS.mp h with e|e
    ·exact vS.mpr (.inl e)
    ·exact zD _ (i2 g e)
theorem jK(f:Str)(v:V):∀fs:List (Str×V),(d7 f v fs).length<=fs.length+1
 | []=>by simp[d7]
 | (k,x)::r=>by
  have ih:=jK f v r;rw[show d7 f v ((k,x)::r)=(if k=f then (k,v)::r else (k,x)::d7 f v r) from rfl];by_cases hk:k=f
  ·rw[zS hk,mN,mN];lia
  ·rw[yA hk,mN,mN];lia
theorem jD.some_of{v:V}{o:Option Value}(r:jD (some v) o):∃u,o=some u/\RelV v u:=by
 cases o with
 | none=>exact(show False from r).elim
 | some u=>exact⟨u,rfl,r⟩
theorem jD.none_of{o:Option Value}(r:jD none o):o=none:=by
 cases o with
 | none=>rfl
 | some u=>exact(show False from r).elim
theorem wD{v:V}{u:Value}(r:RelV v u):W.handedIn u=true:=by
 cases v with
 | non=>cases (show u=Value.none from r);rfl
 | bl b=>cases (show u=Value.bool b from r);rfl
 | int i=>obtain⟨t,e⟩:=(show ∃t,u=Value.int i t from r);cases e;rfl
 | str x=>obtain⟨t,e⟩:=(show ∃t,u=Value.str x t from r);cases e;rfl
 | byt b=>obtain⟨t,e⟩:=(show ∃t,u=Value.bytes b t from r);cases e;rfl
 | flt b=>obtain⟨t,e⟩:=(show ∃t,u=Value.float b t from r);cases e;rfl
 | ref a=>cases (show u=Value.ref a from r);rfl
 | ty n=>cases (show u=Value.type n from r);rfl
section
variable{P:Program}{w:World}{H:Hp}{h:Heap}{a C dx:Addr}{fs:List (Str×V)}
theorem rH(hok:HOk P w H h)(e:H a=some (.ins C dx fs)):∃mA,G5 h a dx C mA/\(∀f,jD (fs.lookup f) (mA f))/\PySem.Within mA (fs.map (·.1))/\fs.length<=1000/\H dx=some (.own a):=by
 obtain⟨d,z,ne,ob,mA,n,r,q⟩:=(show bT P w H h a (.ins C dx fs) from hok a _ e);exact⟨mA,⟨ob,n,ne⟩,r,q,z,d⟩
end
structure Cls(K:W.Frag)(C:Addr):Prop where
 pg:W.plainGet K C Str.empty=true
 hd:W.hasDictIn K C=true
 po:W.plainOver K C=true
 sa:W.findIn K (.ref C) "__setattr__" = some (some (.builtin "object.__setattr__"))
theorem Cls.get{K:W.Frag}{C:Addr}(c:Cls K C)(f:Str):W.plainGet K C f=true:=c.pg
def bZ(K:W.Frag)(C:Addr)(f:Str):Prop:=W.findIn K (.ref C) f=some none
theorem bZ.taker{K:W.Frag}{C:Addr}{f:Str}(n:bZ K C f):W.takerIn K C f=some none:=by
 unfold W.takerIn;rw[show W.findIn K (.ref C) f=some none from n]
 rfl
structure Con(K:W.Frag)(C:Addr)(f:Str)(v:V)(u:Value):Prop where
 at_:W.findIn K (.ref C) f=some (some u)
 rel:RelV v u
 get:W.specialIn K u "__get__" = some none
 cp:W.copiedNames.contains f=false
structure Meth(K:W.Frag)(C:Addr)(m:Str)(f:Addr):Prop where
 at_:W.findIn K (.ref C) m=some (some (.ref f))
 fn:W.isFn K (.ref f)=true
 kp:W.keepIn K (.ref f)=true
section
variable{X:Cx}{pins:List (Addr×Obj)}{σ:St}{H:Hp}{s:Shared}{a C dx:Addr}{fs:List (Str×V)}{f:Str}{v:V}{A:Around}{E:xB}
theorem G6{b:Bool}{Q:xB}(I:Inv X pins σ H s)(e:H a=some (.ins C dx fs))(c:Cls X.K C)(n:bZ X.K C f)(l:fs.lookup f=some v)
  (h:∀u s',Inv X pins σ H s'->RelV v u->Q u s'):wpAny (model X.prog X.w) A (getAttr (.ref a) f b) Q E s:=by
 obtain⟨mA,O,r,_,_,_⟩:=rH I.hok e;obtain⟨u,hu,ru⟩:=jD.some_of (v:=v) (o:=mA f) (by rw[<- l];exact r f);exact get_map I.kIn O (c.get f) c.hd n hu (wD ru) (h u _ (I.tok _) ru)
theorem sW{m:Str}{g:Addr}{pl:Sem Bool}{Q:Value×List Value->Shared->Prop}(I:Inv X pins σ H s)(e:H a=some (.ins C dx fs))(c:Cls X.K C)(k:Meth X.K C m g)(l:fs.lookup m=none)
  (h:Q (.ref g,[.ref a]) s):wpAny (model X.prog X.w) A (getMethod (.ref a) m pl) Q E s:=by
 obtain⟨mA,O,r,_,_,_⟩:=rH I.hok e;have hn:mA m=none:=jD.none_of (by rw[<- l];exact r m);exact P0 I.kIn O (c.get m) k.at_ k.fn hn h
theorem G7{y:V}{u:Value}{Q:xA}(I:Inv X pins σ H s)(e:H a=some (.ins C dx fs))(c:Cls X.K C)(n:bZ X.K C f)(hl:fs.length<1000)(ry:RelV y u)
  (h:∀s',Inv X pins σ (upd H a (.ins C dx (d7 f y fs))) s'->Q () s'):wpAny (model X.prog X.w) A (setAttr (.ref a) f u) Q E s:=by
 obtain⟨mA,O,r,wi,_,ho⟩:=rH I.hok e;have hz:(fs.map (·.1)).length<=sizeLine:=by rw[wE,sizeLine_eq];lia
 refine Vp I.kIn O c.sa c.po n.taker c.hd wi hz λh' O' sb=>h _ ?_
 have hd:∃o,h'.get? dx=some o:=let ⟨o,_,_,e',_⟩:=O'.ns;⟨o,e'⟩
 refine I.write (x:=a) (e:=dx) (by rw[e];exact True.intro) (.inr ho) (λb q hb z=>(sb.2 b hb).trans z) hd ?_;refine⟨by rw[aX O.ne];exact ho,?_,O.ne,O'.obj,_,O'.ns,λg=>?_,λg hg=>?_⟩
 ·have:=jK f y fs;lia
 ·show jD ((d7 f y fs).lookup g) (if g=f then some u else mA g);rw[bD];by_cases q:g=f
  ·rw[zS q,zS q];exact ry
  ·rw[yA q,yA q];exact r g
 ·by_cases q:g=f
  ·rw[q];exact(iJ f y fs).1
  ·refine(iJ f y fs).2 g (wi g λz=>hg ?_);show (if g=f then some u else mA g)=none;rw[yA q];exact z
theorem Inv.made(I:Inv X pins σ H s):Inv X pins σ (upd (upd H s.heap.objs.size (.own (s.heap.objs.size+1))) (s.heap.objs.size+1) (.ins C s.heap.objs.size []))
  { s with heap:=(s.heap.push W.emptyDict).push (W.instObj C s.heap.objs.size) }:=by
 have e1:(s.heap.push W.emptyDict).get? s.heap.objs.size=some W.emptyDict:=rV s.heap rfl;have e2:((s.heap.push W.emptyDict).push (W.instObj C s.heap.objs.size)).get? (s.heap.objs.size+1)=some (W.instObj C s.heap.objs.size):=by
  have:=rV (s.heap.push W.emptyDict) (o:=W.instObj C s.heap.objs.size) rfl
  rwa [Heap.size_push] at this
 have e3:(s.heap.push W.emptyDict).Ns s.heap.objs.size (λ_=>none):=⟨W.emptyDict,#[],_,e1,rfl,(λe he=>absurd he (by simp)),λ_=>rfl⟩;have I1:=I.laid (a:=s.heap.objs.size) (o:=.own (s.heap.objs.size+1)) (h':=s.heap.push W.emptyDict) (t':=s.toks) (λb u q=>gX _ q) (uA _) ⟨_,e1⟩;refine I1.laid (a:=s.heap.objs.size+1) (o:=.ins C s.heap.objs.size []) (t':=s.toks) (λb u q=>gX _ q) (Nat.le_of_eq (Heap.size_push _ _)) ?_;have ne:s.heap.objs.size≠s.heap.objs.size+1:=qB (Nat.lt_succ_self _);refine⟨by rw[aX ne,bx],Nat.zero_le _,ne,e2,λ_=>none,(Heap.Ns1.of_empty e3).at λo q=>gX _ q,λ_=>True.intro,λy hy=>gE rfl hy⟩
theorem JF{prog:Program}{w:World}{env:Env}{e:Expr}{f:Str}{pos:Pos}{s:Shared}{Q:xB}(hb:attributeBase e f env (eval e env)=eval e env)
  (h:wpAny (model prog w) A (eval e env) (λo s₁=>wpAny (model prog w) A (getAttr o f true) Q E s₁) E s):wpAny (model prog w) A (eval (.Attribute e f pos) env) Q E s :=
 Attribute_any_ h (by rw[arm_eval_Attribute,hb])
end
def Yv(K:W.Frag)(ta:TE)(f:Str):TE:=λσ H Q=>ta σ H λx H1=>∃a C dx fs v,x=.ref a/\H1 a=some (.ins C dx fs)/\Cls K C/\bZ K C f/\fs.lookup f=some v/\Q v H1
def Yw(K:W.Frag)(ta tv:TE)(f:Str):TS:=λD σ H=>tv σ H λy H1=>ta σ H1 λx H2=>∃a C dx fs,x=.ref a/\H2 a=some (.ins C dx fs)/\Cls K C/\bZ K C f/\fs.length<1000 /\
 D.nx σ (upd H2 a (.ins C dx (d7 f y fs)))
section
variable{X:Cx}{o e value:Expr}{f:Str}{pos pos':Pos}{ta tv:TE}
theorem cX(he:PE X e ta)(hb:attributeBase e f X.env (eval e X.env)=eval e X.env):PE X (.Attribute e f pos) (Yv X.K ta f):=by
 intro pins s σ H Q I h;refine JF hb (thn (he pins s σ H _ I h) λu s1 ⟨x,H1,I1,rx,a,C,dx,fs,v,ex,ea,c,n,l,q⟩=>?_);subst ex;obtain rfl:u=Value.ref a:=rx;exact G6 I1 ea c n l λu' s2 I2 ru=>⟨v,H1,I2,ru,q⟩
theorem jg(ha:PE X o ta)(hv:PE X value tv)(hs:swapsWith value (some (.Attribute o f pos')) pos.line X.env=pure false):PS X (.Assign [.Attribute o f pos'] value pos) (Yw X.K ta tv f):=by
 intro pins s σ H D I h;refine plainObj_wpAny_Assign_Attribute (thn (hv pins s σ H _ I h) λu s1 ⟨y,H1,I1,ry,q⟩=>thn (ha pins s1 σ H1 _ I1 q) λov s2 ⟨x,H2,I2,rx,a,C,dx,fs,ex,ea,c,n,l,q2⟩=>?_) hs;subst ex;obtain rfl:ov=Value.ref a:=rx;exact G7 I2 ea c n l ry λs3 I3=>⟨σ,_,I3,q2⟩
end
section
variable{X:Cx}{pins:List (Addr×Obj)}{σ:St}{H:Hp}{s:Shared}{A:Around}{E:xB}{Q:xB}{c:Value}{b:Bool}
inductive b_(K:W.Frag)(H:Hp):V->Value->Prop where
 | non:b_ K H .non (.type "NoneType")
 | bl (x:Bool):b_ K H (.bl x) (.type "bool")
 | int (i:Int):b_ K H (.int i) (.type "int")
 | str (x:Str):b_ K H (.str x) (.type "str")
 | flt (x:UInt64):b_ K H (.flt x) (.type "float")
 | lst {a:Addr} {xs:List V} (e:H a=some (.lst xs)):b_ K H (.ref a) (.type "list")
 | frz {a:Addr} {o:Obj} {xs:List V} (e:H a=some (.frz o (.lst xs))):b_ K H (.ref a) (.type "list")
 | tup {a:Addr} {xs:List V} (e:H a=some (.tup xs)):b_ K H (.ref a) (.type "tuple")
 | dK {a:Addr} {kvs:List (Key×V)} (e:H a=some (.dK kvs)):b_ K H (.ref a) (.type "dict")
 | dT {a:Addr} {kvs:List (List Key×V)} (e:H a=some (.dT kvs)):b_ K H (.ref a) (.type "dict")
 | ins {a C dx:Addr} {fs:List (Str×V)} (e:H a=some (.ins C dx fs)) (cl:Cls K C) (ha:W.findIn K (.ref C) "__class__" = some (some (.builtin "object.__class__")))
   (hn:W.specialIn K (.builtin "object.__class__") "__get__" = some (some (.builtin "getset_descriptor.__get__"))) (htk:W.takesIn K (.builtin "object.__class__")=some true)
   (hm:W.mroIn K C (.type "object")=some true):b_ K H (.ref a) (.ref C)
theorem wF{x:V}{u t:Value}(I:Inv X pins σ H s)(rx:RelV x u)(ty:b_ X.K H x t)(e:W.kitOne X.K t c=some b)(h:∀tk,Q (.bool b) { s with toks:=tk }) :
  wpAny (model X.prog X.w) A (call (.builtin "isinstance") [u,c]) Q E s:=by
 cases ty with
 | non=>cases (show u=Value.none from rx);exact W.kia_one W.kitx_none I.kIn True.intro e (λz=>nomatch z) h
 | bl y=>cases (show u=Value.bool y from rx);exact W.kia_one W.kitx_bool I.kIn True.intro e (λz=>nomatch z) h
 | int i=>obtain⟨t,q⟩:=(show ∃t,u=Value.int i t from rx);cases q;exact W.kia_one W.kitx_int I.kIn True.intro e (λz=>nomatch z) h
 | str y=>obtain⟨t,q⟩:=(show ∃t,u=Value.str y t from rx);cases q;exact W.kia_one W.kitx_str I.kIn True.intro e (λz=>nomatch z) h
 | flt y=>obtain⟨t,q⟩:=(show ∃t,u=Value.float y t from rx);cases q;exact W.kia_one W.kitx_float I.kIn True.intro e (λz=>nomatch z) h
 | @lst a xs ea =>
  cases (show u=Value.ref a from rx);obtain⟨_,_,n,_,h1⟩:=(show bT X.prog X.w H s.heap a (.lst xs) from I.hok a _ ea);exact W.kia_one W.kitx_list I.kIn ⟨_,h1,rfl⟩ e (λz=>nomatch z) h
 | @frz a ob xs ea =>
  cases (show u=Value.ref a from rx);obtain⟨_,_,_,n,_,h1⟩:=(show bT X.prog X.w H s.heap a (.frz ob (.lst xs)) from I.hok a _ ea);exact W.kia_one W.kitx_list I.kIn ⟨_,h1,rfl⟩ e (λz=>nomatch z) h
 | @tup a xs ea =>
  cases (show u=Value.ref a from rx);obtain⟨_,_,_,p⟩:=(show bT X.prog X.w H s.heap a (.tup xs) from I.hok a _ ea);obtain⟨o,h1,h2,_⟩:=p;exact W.kia_one W.kitx_tuple I.kIn ⟨o,h1,h2⟩ e (λz=>nomatch z) h
 | @dK a kvs ea =>
  cases (show u=Value.ref a from rx);obtain⟨_,_,vs,_,p⟩:=(show bT X.prog X.w H s.heap a (.dK kvs) from I.hok a _ ea);obtain⟨o,es,ep,h1,h2,_⟩:=p;exact W.kia_one W.kitx_dict I.kIn ⟨o,h1,h2.1⟩ e (λz=>nomatch z) h
 | @dT a kvs ea =>
  cases (show u=Value.ref a from rx);obtain⟨_,_,xs,_,o,es,ep,h1,h2,_⟩:=(show bT X.prog X.w H s.heap a (.dT kvs) from I.hok a _ ea);exact W.kia_one W.kitx_dict I.kIn ⟨o,h1,h2.1⟩ e (λz=>nomatch z) h
 | @ins a C dx fs ea cl ha hn htk hm =>
  cases (show u=Value.ref a from rx);obtain⟨mA,O,_⟩:=rH I.hok ea;obtain⟨od,J,_⟩:=O.look;exact W.kia_one (W.kitx_own (cl.get _) cl.hd ha hn htk hm) I.kIn J e (λz=>nomatch z) h
end
structure Room(k:Nat)(A:Around):Prop where
 hd:A.handled=none
 dp:A.depth+3*k+5<recursionLimit
 un:A.units+16*k+200<cLine
 gd:A.guards=some []
theorem Room.mono{j k:Nat}{A:Around}(r:Room k A)(h:j<=k):Room j A:=⟨r.hd,by have:=r.dp;lia,by have:=r.un;lia,r.gd⟩
theorem Room.deeper{k:Nat}{A:Around}(r:Room (k+1) A)(env:Env):Room k (A.deeper env) :=
 ⟨r.hd,by have:=r.dp;show A.depth+1+3*k+5<_;lia,by have:=r.un;show A.units+3+16*k+200<_;lia,r.gd⟩
theorem G8{A:Around}{C:Addr}{us:xE}{kw:List (Str×Value)}:(A.under (.builtin "type.__call__" ⟨.ref C::us,kw⟩)).depth=A.depth+1:=by
 first|rfl|simp[Around.under,Code.weight,Code.isCreation,Code.isGuard,Code.isCaller,Code.frames,Code.isFrame,guardIds]
theorem G9{A:Around}{C:Addr}{us:xE}{kw:List (Str×Value)}:(A.under (.builtin "type.__call__" ⟨.ref C::us,kw⟩)).units=A.units+1:=by
 first|rfl|simp[Around.under,Code.cUnits,Code.frames,Code.isFrame]
theorem Room.make{k:Nat}{A:Around}(r:Room (k+1) A)(C:Addr)(us:xE)(kw:List (Str×Value)):Room k (A.under (.builtin "type.__call__" ⟨.ref C::us,kw⟩)) :=
 ⟨r.hd,by have:=r.dp;rw[G8];lia,by have:=r.un;rw[G9];lia,by first|exact r.gd|(simp[Around.under,Code.guards,Code.isGuard,guardIds,pushGuards];exact r.gd)⟩
theorem Room.depth{k:Nat}{A:Around}(r:Room k A):A.depth<recursionLimit:=by have:=r.dp;lia
def CK:TA:=λ_ H Q=>Q [] H
def wG(ta:TE)(tr:TA):TA:=λσ H Q=>ta σ H λx H1=>tr σ H1 λxs H2=>Q (x::xs) H2
section
variable{X:Cx}{e:Expr}{es:List Expr}{te:TE}{t:TA}{pos:Pos}
theorem ao:PA X [] CK:=λ_ _ _ _ H Q I h=>Calls.spliced_nil ⟨[],H,I,.nil,h⟩
theorem aj(ha:PE X e te)(hr:PA X es t)(hs:starEach (e::es) X.env=(false,eval e X.env)::starEach es X.env:=by rfl):PA X (e::es) (wG te t):=by
 intro pos pins s σ H Q I h;rw[hs];show wpAny _ _ (spliced ((false,eval e X.env)::backTo pos (starEach es X.env))) _ _ s;refine Calls.spliced_cons (thn (ha pins s σ H _ I h) λu s1 ⟨x,H1,I1,r1,q1⟩=>?_);exact thn (hr pos pins s1 σ H1 _ I1 q1) λus s2 ⟨xs,H2,I2,r2,q2⟩=>⟨x::xs,H2,I2,.cons r1 r2,q2⟩
end
abbrev Sp:=List V->Hp->VK->XK->Prop
abbrev CXT:=List Env->Hp->Shared->XK->Value->Shared->Prop
structure zH(P:Program)(w:World)(K:W.Frag)(mg:xC)(base:Heap)(A:Around)(outer:List Env)(s:Shared)(H:Hp):Prop where
 frames:A.frames=some outer
 mod:Mod K mg base
 bs:∀b o,base.get? b=some o->s.heap.get? b=some o/\H b=none
 bsz:base.objs.size<=s.heap.objs.size
 jA:s.heap.FunFrames base outer
 frf:∀b∈frs outer,H b=none
 hok:HOk P w H s.heap
 bare:AllBare s.gens
def CE(outer:List Env)(P:Program)(w:World)(H:Hp)(s:Shared)(Q:VK)(u:Value)(s':Shared):Prop :=
 ∃v H',s'.os=s.os/\AllBare s'.gens/\Un (frs outer) [] H H' s.heap s'.heap/\HOk P w H' s'.heap/\RelV v u/\Q v H'
def CR(CX:CXT)(outer:List Env)(P:Program)(w:World)(H:Hp)(s:Shared)(Q:VK)(E:XK)(r:Result)(s':Shared):Prop :=
 match r with
 | .ok (.ret u)=>CE outer P w H s Q u s'
 | .ok _=>False
 | .error e=>CX outer H s E e s'
structure gM(P:Program)(w:World)(K:W.Frag)(mg:xC)(base:Heap)(CX:CXT)(k:Nat)(f:Addr)(fd:FuncData)(ps:List Str)(sp:Sp):Prop where
 len:∀vs H Q E,sp vs H Q E->vs.length=ps.length
 run:∀(A:Around)(outer:List Env)(s:Shared)(H:Hp)(args:Args)(us:xE)(vs:List V)(Q:VK)(E:XK),Room k A->zH P w K mg base A outer s H->BindsTo s fd args (ps.zip us)->Vals vs us->sp vs H Q E ->
  codeAny (model P w) A (.call (.ref f) args) (CR CX outer P w H s Q E) s
theorem zH.make{P:Program}{w:World}{K:W.Frag}{mg:xC}{base:Heap}{A:Around}{outer:List Env}{s:Shared}{H:Hp}(e:zH P w K mg base A outer s H)(C:Addr)(us:xE)(kw:List (Str×Value)) :
  zH P w K mg base (A.under (.builtin "type.__call__" ⟨.ref C::us,kw⟩)) outer s H:=⟨by first|exact e.frames|(simpa[Around.under,Code.envs,Code.isFrame,pushEnvs] using e.frames),e.mod,e.bs,e.bsz,e.jA,e.frf,e.hok,e.bare⟩
section
variable{X:Cx}{pins:List (Addr×Obj)}{σ:St}{H:Hp}{s s':Shared}
theorem Inv.env0(I:Inv X pins σ H s):zH X.prog X.w X.K X.mg X.base X.A X.stack s H :=
 ⟨I.ok.frames,I.ok.mod,I.bs,rS I.ok.bsz I.sz,I.stack,I.mU,I.hok,I.bare⟩
theorem Inv.after{Q:VK}{u:Value}(I:Inv X pins σ H s)(h:CE X.stack X.prog X.w H s Q u s'):EP X pins σ Q u s':=by
 obtain⟨v,H',os,bare,un,hok,r,q⟩:=h;obtain⟨hh,g,d,t,os'⟩:=s';obtain rfl:os'=s.os:=os;exact⟨v,H',I.call (h':=hh) (g':=g) (d':=d) (t':=t) (ch:=[]) un hok bare (λb z=>absurd z (by simp)),r,q⟩
end
def mX(sp:Sp)(dvs:List V)(E:XK)(t:TA):TE:=λσ H Q=>t σ H λvs H1=>sp (vs++dvs) H1 Q E
def wH(C:Addr)(m:Str)(sp:Sp)(dvs:List V)(E:XK)(ta:TE)(t:TA):TE:=λσ H Q=>ta σ H λx H1=>∃a dx fs,x=.ref a/\H1 a=some (.ins C dx fs)/\fs.lookup m=none /\
 t σ H1 λvs H2=>sp (x::(vs++dvs)) H2 Q E
def Binds(K:W.Frag)(fd:FuncData)(ps:List Str)(ds:xE):Prop :=
 ∀(s:Shared)(us:xE),K.In s.heap->(us++ds).length=ps.length->BindsTo s fd ⟨us,[]⟩ (ps.zip (us++ds))
theorem Binds.all{K:W.Frag}{fd:FuncData}{ps:List Str}(h:∀us:List Value,us.length=ps.length->bindArgs fd ⟨us,[]⟩=pure (ps.zip us)):Binds K fd ps []:=λs us _ hl=>by
 rw[nX] at hl ⊢;exact .of_eq (h us hl)
def Passes(CX:CXT)(X:Cx)(E:XK):Prop:=∀(pins:List (Addr×Obj)) (σ:St) (H:Hp) (s:Shared) (e:Value) (s':Shared),Inv X pins σ H s->CX X.stack H s E e s'->X.xe e s'
section
variable{X:Cx}{CX:CXT}{k:Nat}{f C:Addr}{fd:FuncData}{ps:List Str}{sp:Sp}{dvs:List V}{ds:xE}{E:XK}{x m:Str}{p pos apos:Pos}{e o:Expr}{es:List Expr}{ta:TE}{t:TA}
theorem zJ{pins:List (Addr×Obj)}{σ:St}{H:Hp}{s:Shared}{Q:VK}{us:xE}{vs:List V}(F:gM X.prog X.w X.K X.mg X.base CX k f fd ps sp)(hr:Room k X.A)(hb:Binds X.K fd ps ds)(hd:Vals dvs ds)(hx:Passes CX X E)
  (I:Inv X pins σ H s) (r:Vals vs us) (h:sp (vs++dvs) H Q E):wpAny (model X.prog X.w) X.A (call (.ref f) us) (EP X pins σ Q) X.xe s:=by
 have r2:Vals (vs++dvs) (us++ds):=r.append hd;have hl:(us++ds).length=ps.length:=by rw[<- r2.length];exact F.len _ _ _ _ h
 refine wpAny_call (codeAny_mono (F.run X.A X.stack s H ⟨us,[]⟩ (us++ds) (vs++dvs) Q E hr I.env0 (hb s us I.kIn hl) r2 h) λr s' hq=>?_);cases r with
 | error e=>exact hx pins σ H s e s' I hq
 | ok fl =>
  cases fl with
  | ret u=>exact I.after hq
  | next=>exact False.elim hq
  | brk=>exact False.elim hq
  | cont=>exact False.elim hq
theorem JG(F:gM X.prog X.w X.K X.mg X.base CX k f fd ps sp)(hr:Room k X.A)(hg:Gl X x)(hm:X.mg x=some (.ref f))(hk:W.keepIn X.K (.ref f)=true)(hb:Binds X.K fd ps ds)(hd:Vals dvs ds)(hx:Passes CX X E)
  (ha:PA X (e::es) t) (hdb:(x==("__debug__" : Str))=false:=by decide) (he:starEach (e::es) X.env=(false,eval e X.env)::starEach es X.env:=by rfl) (hpl:(backTo pos (starEach es X.env)).any (·.1)=false:=by rfl) :
  PE X (.Call (.Name x p) (e::es) [] pos) (mX sp dvs E t):=by
 intro pins s σ H Q I h;refine wpAny_Call_Name_kw (jd I hg hm ?_ hdb);refine W.callWith_K (h₀:=X.base) I.ok.mod.kin hk (thn (ha pos pins s σ H _ I h) λus s1 ⟨vs,H1,I1,r,q⟩=>⟨I1.kIn,?_⟩) he hpl;exact zJ F hr hb hd hx I1 r q
theorem Vq{pl:Sem Bool}(he:PE X o ta)(c:Cls X.K C)(hm:Meth X.K C m f)(F:gM X.prog X.w X.K X.mg X.base CX k f fd ps sp)(hr:Room k X.A)(hb:Binds X.K fd ps ds)(hd:Vals dvs ds)(hx:Passes CX X E)(ha:PA X (e::es) t)
  (hst:starEach (e::es) X.env=(false,eval e X.env)::starEach es X.env:=by rfl) (hpl:(backTo pos (starEach es X.env)).any (·.1)=false:=by rfl)
  (ht:eval (.Call (.Attribute o m apos) (e::es) [] pos) X.env=(do
   let ov <- eval o X.env
   standAt apos.atName
   let (f,first) <- holding [ov] (getMethod ov m pl)
   callWith pos f first (backTo pos (starEach (e::es) X.env)) (backToKw pos (keywordEach [] X.env))):=by rfl) :
  PE X (.Call (.Attribute o m apos) (e::es) [] pos) (wH C m sp dvs E ta t):=by
 intro pins s σ H Q I h;refine W.methodCall_KW (pl:=pl) (thn (he pins s σ H _ I h) λu s1 ⟨x,H1,I1,rx,a,dx,fs,ex,ea,l,q⟩=>?_) ht;subst ex;obtain rfl:u=Value.ref a:=rx;refine sW I1 ea c hm l ?_;refine W.callWith_K (first:=[.ref a]) (h₀:=X.base) I.ok.mod.kin hm.kp (thn (ha pos pins s1 σ H1 _ I1 q) λus s2 ⟨vs,H2,I2,r,q2⟩=>⟨I2.kIn,?_⟩) hst hpl;exact zJ (us:=.ref a::us) (vs:=.ref a::vs) F hr hb hd hx I2 (.cons rfl r) q2
theorem Qa{pl:Sem Bool}(he:PE X o ta)(c:Cls X.K C)(hm:Meth X.K C m f)(F:gM X.prog X.w X.K X.mg X.base CX k f fd ps sp)(hr:Room k X.A)(hb:Binds X.K fd ps ds)(hd:Vals dvs ds)(hx:Passes CX X E)
  (ht:eval (.Call (.Attribute o m apos) [] [] pos) X.env=(do
   let ov <- eval o X.env
   standAt apos.atName
   let (f,first) <- holding [ov] (getMethod ov m pl)
   callWith pos f first (backTo pos (starEach [] X.env)) (backToKw pos (keywordEach [] X.env))):=by rfl) :
  PE X (.Call (.Attribute o m apos) [] [] pos) (wH C m sp dvs E ta CK):=by
 intro pins s σ H Q I h;refine W.methodCall_KW (pl:=pl) (thn (he pins s σ H _ I h) λu s1 ⟨x,H1,I1,rx,a,dx,fs,ex,ea,l,q⟩=>?_) ht;subst ex;obtain rfl:u=Value.ref a:=rx;refine sW I1 ea c hm l ?_;exact W.callWith_K0 (first:=[.ref a]) I1.kIn hm.kp (zJ (us:=[.ref a]) (vs:=[.ref a]) F hr hb hd hx I1 (.cons rfl .nil) q)
structure Mk(K:W.Frag)(C f:Addr):Prop where
 makes:W.makesIn K C=true
 init:W.findIn K (.ref C) "__init__" = some (some (.ref f))
 fn:W.isFn K (.ref f)=true
 kp:W.keepIn K (.ref C)=true
theorem Qc{pins:List (Addr×Obj)}{σ:St}{H:Hp}{s:Shared}{Q:VK}{us:xE}{vs:List V}(M:Mk X.K C f)(F:gM X.prog X.w X.K X.mg X.base CX k f fd ps sp)(hr:Room (k+1) X.A)(hb:Binds X.K fd ps ds)(hd:Vals dvs ds)
  (hx:Passes CX X E) (I:Inv X pins σ H s) (r:Vals vs us)
  (h:∀x dx,H x=none->H dx=none->dx≠x->sp (.ref x::(vs++dvs)) (upd (upd H dx (.own x)) x (.ins C dx [])) (λv H2=>v=.non/\Q (.ref x) H2) E) :
  wpAny (model X.prog X.w) X.A (call (.ref C) us) (EP X pins σ Q) X.xe s:=by
 have hq:=h (s.heap.objs.size+1) s.heap.objs.size (I.hok.fresh (Nat.le_succ _)) (I.hok.fresh (uA _)) (qB (Nat.lt_succ_self _));have I2:=Inv.made (C:=C) I;have r2:Vals (V.ref (s.heap.objs.size+1)::(vs++dvs)) (Value.ref (s.heap.objs.size+1)::(us++ds)):=.cons rfl (r.append hd);have hl:(Value.ref (s.heap.objs.size+1)::us++ds).length=ps.length:=by
  have e:=r2.length;rw[F.len _ _ _ _ hq] at e;exact e.symm
 refine wpAny_call (P_ (f:=f) I.kIn M.makes M.init (beq_iff_eq.mp M.fn) (codeAny_mono (F.run _ X.stack _ _ ⟨Value.ref (s.heap.objs.size+1)::us,[]⟩ (Value.ref (s.heap.objs.size+1)::(us++ds)) _ _ E (hr.make C us [])
  (I2.env0.make C us []) (hb _ (Value.ref (s.heap.objs.size+1)::us) I2.kIn hl) r2 hq) λr s' hq'=>?_))
 cases r with
 | error e=>exact hx pins σ _ _ e s' I2 hq'
 | ok fl =>
  cases fl with
  | ret u =>
   obtain⟨v,H',I3,rv,ev,q3⟩:=I2.after hq';subst ev;exact⟨rv,⟨V.ref (s.heap.objs.size+1),H',I3,rfl,q3⟩⟩
  | next=>exact False.elim hq'
  | brk=>exact False.elim hq'
  | cont=>exact False.elim hq'
end
section
variable{fd:FuncData}{ps ks:List Str}
structure Yx(K:W.Frag)(fd:FuncData)(ps ks:List Str)(g:List Value->List Value->List Value)(gV:List V->List V->List V):Prop where
 to:∀(s:Shared)(us ws:xE),K.In s.heap->(g us ws).length=ps.length->BindsTo s fd ⟨us,ks.zip ws⟩ (ps.zip (g us ws))
 rel:∀{vs:List V} {us:xE} {zs:List V} {ws:xE},Vals vs us->Vals zs ws->Vals (gV vs zs) (g us ws)
end
structure aJ(N P:List Str)(sc:Scope):Prop where
 kind:sc.kind=.function
 co:sc.isCoroutine=false
 gen:sc.isGenerator=false
 nd:N.Nodup
 pre:N.take P.length=P
 par:∀x∈P,sc.names.lookup x=some .local\/sc.names.lookup x=some .cell
 Yy:∀y∈sc.names,y.2≠.free
theorem wI{kindOf:Str->Option NameKind}{x:Str}:∀{binds:List (Str×Value)} {m:xC},(∀v,(x,v) ∉ binds)->bindL kindOf binds m x=m x
 | [],_,_=>rfl
 | (n,v)::r,m,h=>by
  unfold bindL;rw[wI λw hw=>h w (zD _ hw)];split
  ·have:x≠n:=by rintro rfl;exact h v zC
   simp[this]
  ·rfl
theorem wJ{kindOf:Str->Option NameKind}{x:Str}:∀{binds:List (Str×Value)} {m:xC},(∀v,(x,v) ∉ binds)->bindC kindOf binds m x=m x
 | [],_,_=>rfl
 | (n,v)::r,m,h=>by
  unfold bindC;rw[wJ λw hw=>h w (zD _ hw)];split
  ·rfl
  ·have:x≠n:=by rintro rfl;exact h v zC
   simp[this]
theorem wK{kindOf:Str->Option NameKind}{x:Str}{v:Value}:∀{P:List Str} {vs:xE} {i:Nat} {m:xC},P.Nodup->P[i]?=some x->vs[i]?=some v->kindOf x=some .local ->
  bindL kindOf (P.zip vs) m x=some v
 | [],_,_,_,_,h,_,_=>by simp at h
 | _::_,[],_,_,_,_,h,_=>by simp at h
 | p::P,w::vs,0,m,nd,h1,h2,hk=>by
  simp at h1 h2;subst h1;subst h2;show bindL kindOf ((p,w)::P.zip vs) m p=_;unfold bindL;rw[wI λv hv=>(List.nodup_cons.mp nd).1 (List.of_mem_zip hv).1,zS hk];simp
 | p::P,w::vs,i+1,m,nd,h1,h2,hk=>by
  show bindL kindOf ((p,w)::P.zip vs) m x=_;unfold bindL;exact wK (i:=i) (List.nodup_cons.mp nd).2 (by simpa using h1) (by simpa using h2) hk
theorem wL{kindOf:Str->Option NameKind}{x:Str}{v:Value}:∀{P:List Str} {vs:xE} {i:Nat} {m:xC},P.Nodup->P[i]?=some x->vs[i]?=some v->kindOf x≠some .local ->
  bindC kindOf (P.zip vs) m x=some v
 | [],_,_,_,_,h,_,_=>by simp at h
 | _::_,[],_,_,_,_,h,_=>by simp at h
 | p::P,w::vs,0,m,nd,h1,h2,hk=>by
  simp at h1 h2;subst h1;subst h2;show bindC kindOf ((p,w)::P.zip vs) m p=_;unfold bindC;rw[wJ λv hv=>(List.nodup_cons.mp nd).1 (List.of_mem_zip hv).1,yA hk];simp
 | p::P,w::vs,i+1,m,nd,h1,h2,hk=>by
  show bindC kindOf ((p,w)::P.zip vs) m x=_;unfold bindC;exact wL (i:=i) (List.nodup_cons.mp nd).2 (by simpa using h1) (by simpa using h2) hk
def start(N:List Str)(vs:List V):St:=vs.map some++List.replicate (N.length-vs.length) none
def fu(CX:CXT)(P:Program)(w:World)(K:W.Frag)(mg:xC)(base:Heap)(N:List Str)(qual:Str)(scope:Scope)(f:Addr)(cd:Value)(A:Around)(outer:List Env)(s:Shared)(H:Hp)(E:XK):Cx where
 prog:=P
 w:=w
 K:=K
 mg:=mg
 base:=base
 A:=A.deeper (envOfC qual scope s.heap.objs.size f cd)
 N:=N
 s₀:=s
 H₀:=H
 env:=envOfC qual scope s.heap.objs.size f cd
 outer:=outer
 stack:=envOfC qual scope s.heap.objs.size f cd::outer
 ex:=[]
 calm:=true
 fn:=λ_=>true
 pn:=[]
 xe:=λe s'=>wpAny (model P w) (A.deeper (envOfC qual scope s.heap.objs.size f cd)) (leaving (envOfC qual scope s.heap.objs.size f cd) e) (λ_ s''=>CX outer H s E e s'') (λe' s''=>CX outer H s E e' s'') s'
theorem CQ{sc:Scope}{n:Nat}{x:Str}(h:sc.names.lookup x=some .cell):∃c,(cellsFrom n sc.names []).lookup x=some c:=by
 have q:=W.cellsFrom_some sc.names n [] (.inl h);exact Option.isSome_iff_exists.mp q
theorem wM{CX:CXT}{P:Program}{w:World}{K:W.Frag}{mg:xC}{base:Heap}{N ps:List Str}{qual:Str}{scope:Scope}{f:Addr}{cd:Value}{A:Around}{outer:List Env}{s s1:Shared}{H:Hp}{E:XK}{us:xE}{vs:List V}
  (S:aJ N ps scope) (hd:A.handled=none) (e0:zH P w K mg base A outer s H) (hl:vs.length=ps.length) (r:Vals vs us)
  (x:InCallC s s.heap.objs.size (bindL (envOfC qual scope s.heap.objs.size f cd).kindOf (ps.zip us) λ_=>none) (cellsFrom (s.heap.objs.size+1) scope.names []) (bindC (envOfC qual scope s.heap.objs.size f cd).kindOf (ps.zip us) λ_=>none) s1) :
  Inv (fu CX P w K mg base N qual scope f cd A outer s H E) [] (start N vs) H s1:=by
 have hpl:ps.length<=N.length:=by have:=qV List.length S.pre;rw[oB] at this;lia
 obtain⟨h1,tk,rfl,hk⟩:=x.done;have noA:∀b:Addr,b ∉ (fu CX P w K mg base N qual scope f cd A outer s H E).ex:=λb z=>absurd (show b∈([]:List Addr) from z) (by simp)
 refine⟨⟨e0.mod,S.kind,rfl,rfl,uA _,λy z c h1 h2=>?_,λy hy=>?_,λy c _ h=>?_,λ_=>hd,Around.frames_deeper e0.frames,.inr ⟨rfl,rfl⟩,λb z=>gE z (noA b),e0.bs,e0.bsz,λb _ _=>noA b,λb z=>gE z (noA b),e0.jA,e0.frf⟩,
  rfl,e0.bare,Un.kept hk,⟨_,x.toInCall.ns,λi y v h1 h2 h3=>?_⟩,λy c h=>⟨_,x.cell y c h⟩,e0.hok.fresh (Nat.le_refl _),λy c h=>?_,λp hp=>absurd (show p∈([]:List (Addr×Obj)) from hp) (by simp),e0.hok.kept hk,?_⟩
 ·exact name_of_addr x.apart (PySem.mem_of_lookup h1) (PySem.mem_of_lookup h2)
 ·have hy:scope.names.lookup y=some .cell\/scope.names.lookup y=some .free:=hy;rcases hy with hy|hy
  ·exact CQ hy
  ·exact gE rfl (S.Yy _ (PySem.mem_of_lookup hy))
 ·exact mP (x.above y c (PySem.mem_of_lookup h))
 ·have hi:i<vs.length:=by
   unfold start at h2;by_cases hi:i<vs.length
   ·exact hi
   ·rw[List.getElem?_append_right (by simpa using hi)] at h2;rw[List.getElem?_replicate] at h2;split at h2 <;> cases h2
  have ha:vs[i]?=some v:=by
   unfold start at h2;rw[List.getElem?_append_left (by simpa using hi),List.getElem?_map] at h2;cases e:vs[i]? with
   | none=>rw[e] at h2;cases h2
   | some a=>rw[e] at h2;cases h2;rfl
  obtain⟨u,hu,rv⟩:=r.get ha;have hp:ps[i]?=some y:=by
   rw[<- S.pre,List.getElem?_take_of_lt (by lia)];exact h1
  have ndP:ps.Nodup:=by rw[<- S.pre];exact S.nd.sublist (List.take_sublist _ _)
  refine⟨u,rv,?_⟩;rcases S.par y (yT hp) with k|k
  ·exact .inl ⟨k,wK ndP hp hu k⟩
  ·obtain⟨c,e⟩:=CQ (n:=s.heap.objs.size+1) k;refine .inr ⟨.inl k,c,e,?_⟩;have q:=x.cell y c e;rw[wL ndP hp hu (by show scope.names.lookup y≠_;rw[k];decide)] at q;exact q
 ·exact e0.hok.fresh (mP (x.above y c (PySem.mem_of_lookup h)))
 ·unfold start;show _=N.length;rw[yB,wE,mE]
  lia
theorem mY{CX:CXT}{P:Program}{w:World}{K:W.Frag}{mg:xC}{base:Heap}{k:Nat}{f:Addr}{name qual:Str}{params:Arguments}{body:List Stmt}{scope:Scope}{dV kV doc pm cdv ct oc:Value}{an od:xL}
  {osl:Array (Option Value)} {N ps:List Str} {sp:Sp} (lk:K.lookup f=some ⟨oc,od,.func (W.fnOf name qual params body scope dV kV doc pm an cdv ct),osl⟩) (hcd:W.codeIn K cdv qual=true) (S:aJ N ps scope)
  (len:∀vs H Q E,sp vs H Q E->vs.length=ps.length)
  (hbody:∀(A:Around)(outer:List Env)(s:Shared)(H:Hp)(vs:List V)(Q:VK)(E:XK),Room k (A.deeper (envOfC qual scope s.heap.objs.size f cdv))->sp vs H Q E ->
   ∃t,PSs (fu CX P w K mg base N qual scope f cdv A outer s H E) body t/\t { nx:=λ_ H'=>Q .non H',rt:=Q } (start N vs) H) :
  gM P w K mg base CX (k+1) f (W.fnOf name qual params body scope dV kV doc pm an cdv ct) ps sp:=by
 refine⟨len,λA outer s H args us vs Q E hr e0 hb r hsp=>?_⟩;have hl:=len _ _ _ _ hsp;have KX:K.In s.heap:=e0.mod.kin.keeps λb o e=>(e0.bs b o e).1
 have lim:s.heap.NoLimit:=e0.mod.nolimit.keeps λb o e=>(e0.bs b o e).1
 have hkind:∀y∈ps.zip us,scope.names.lookup y.1=some .local\/(scope.names.lookup y.1=some .cell/\((cellsFrom (s.heap.objs.size+1) scope.names []).lookup y.1).isSome=true):=λ⟨n,v⟩ hy=>by
  rcases S.par n (List.of_mem_zip hy).1 with q|q
  ·exact .inl q
  ·exact .inr ⟨q,W.cellsFrom_some _ _ _ (.inl q)⟩
 refine codeAny_call_function hr.depth (KX _ _ lk) rfl S.co S.gen rfl (W.codeRec_of KX hcd) (hb _ _ _ _ ?_);refine wpAny_newFunctionEnv_cells S.kind hkind λenv he s1 x=>?_
 subst he;refine⟨lim.keeps x.toInCall.keep,codeAny_func ?_⟩;obtain⟨t,ht,hq⟩:=hbody A outer s H vs Q E (hr.deeper _) hsp;have I:Inv (fu CX P w K mg base N qual scope f cdv A outer s H E) [] (start N vs) H s1:=wM S hr.hd e0 hl r x;refine nS (ht [] s1 (start N vs) H _ I hq) (λfl s' hs=>?_) λe s' hs=>hs
 have fin:∀{σ':St} {H':Hp} {v:V} {u:Value},Inv (fu CX P w K mg base N qual scope f cdv A outer s H E) [] σ' H' s'->RelV v u->Q v H'->CE outer P w H s Q u s' :=
  λ{σ' H' v u} J rv q=>⟨v,H',J.os,J.bare,J.base,J.hok,rv,q⟩
 cases fl with
 | ret u =>
  obtain⟨v,σ',H',J,rv,q⟩:=hs;exact fin J rv q
 | next =>
  obtain⟨σ',H',J,q⟩:=hs;exact fin (v:=V.non) (u:=Value.none) J rfl q
 | brk =>
  obtain⟨_,_,_,q⟩:=hs;exact False.elim q
 | cont =>
  obtain⟨_,_,_,q⟩:=hs;exact False.elim q
section
variable{X:Cx}{x:Str}{p pos:Pos}{e:Expr}{es:List Expr}{t:TA}{id:String}{r:List V->Hp->VK->Prop}
def tCB(r:List V->Hp->VK->Prop)(t:TA):TE:=λσ H Q=>t σ H λvs H1=>r vs H1 Q
theorem bH(hc:g_ X (.builtin id) r)(hg:Gl X x)(hm:X.mg x=none)(hv:bootBuiltins x=some (.builtin id))(ha:PA X (e::es) t)(hn:x ≠ "__name__":=by decide)(hdb:(x==("__debug__" : Str))=false:=by decide)
  (he:starEach (e::es) X.env=(false,eval e X.env)::starEach es X.env:=by rfl) (hpl:(backTo pos (starEach es X.env)).any (·.1)=false:=by rfl):PE X (.Call (.Name x p) (e::es) [] pos) (tCB r t):=by
 intro pins s σ H Q I h;refine wpAny_Call_Name_kw (lM I hg hm hv ?_ hn hdb);exact PyProof.Rows.callWith_builtin1 (thn (ha pos pins s σ H _ I h) λus s1 ⟨vs,H1,I1,r1,q1⟩=>hc pins s1 σ H1 vs us Q I1 r1 q1) he hpl
end
end L2
namespace HT
open PySem PyProof.Rows
section
open PySem.SeqAt
open PySem.AutoSeq1 (wpAny_loadPart')
open PySem.MeetsSeq PySem.MeetsSeq2 PySem.MeetsSeq3
end
section
def sIx(n d:Nat):Option Int->Nat
 | none=>d
 | some v=>if v<0 then (v+(n:Int)).toNat else min v.toNat n
theorem rJ(n d k:Nat):sIx n d (some (k:Int))=min k n:=by
 show (if (k:Int)<0 then ((k:Int)+(n:Int)).toNat else min (k:Int).toNat n)=min k n;rw[yA (by lia),Int.toNat_natCast]
end
end HT
namespace L2
open PySem PySem.Spec PyProof.Rows
abbrev TO:=St->Hp->(Option Int->Hp->Prop)->Prop
def PO(X:Cx)(e:Option Expr)(t:TO):Prop :=
 ∀(pins:List (Addr×Obj)) (s:Shared) (σ:St) (H:Hp) (Q:Option Int->Hp->Prop),Inv X pins σ H s->t σ H Q ->
  wpAny (model X.prog X.w) X.A (evalPart e X.env) (λu s'=>∃o H',Inv X pins σ H' s'/\IsPart u o/\Q o H') X.xe s
def zK:TO:=λ_ H Q=>Q none H
def Qd(t:TE):TO:=λσ H Q=>t σ H λx H1=>∃i,x=.int i/\Q (some i) H1
section
variable{X:Cx}{e:Expr}{te:TE}{lo hi:Option Expr}{tl th:TO}{pos p2:Pos}
theorem Vr:PO X none zK:=by
 intro pins s σ H Q I h;rw[evalPart_none];exact uS ⟨none,H,I,.none,h⟩
theorem mZ(h:PE X e te):PO X (some e) (Qd te):=by
 intro pins s σ H Q I hw;rw[evalPart_some];refine thn (h pins s σ H _ I hw) λu s1 ⟨x,H1,I1,r1,q1⟩=>?_
 obtain⟨i,rfl,q⟩:=q1;obtain⟨t,rfl⟩:=r1;exact⟨some i,H1,I1,.int i t,q⟩
def SlR(X:Cx)(r:V->Option Int->Option Int->Hp->VK->Prop):Prop :=
 ∀(pins:List (Addr×Obj)) (s:Shared) (σ:St) (H:Hp) (x:V) (v vl vu:Value) (lo hi:Option Int) (sl:Addr) (Q:VK),Inv X pins σ H s->RelV x v->s.heap.IsSliceOf sl vl vu .none->IsPart vl lo->IsPart vu hi->r x lo hi H Q ->
  ∃T id,typeLookup (.type T) "__getitem__" = pure (some (.builtin id))/\s.TypeIs v T/\wpAny (model X.prog X.w) X.A (getItem v (.ref sl)) (EP X pins σ Q) X.xe s
def tSl(r:V->Option Int->Option Int->Hp->VK->Prop)(te:TE)(tl th:TO):TE:=λσ H Q=>te σ H λx H1=>tl σ H1 λl H2=>th σ H2 λu H3=>r x l u H3 Q
theorem sX{r:V->Option Int->Option Int->Hp->VK->Prop}(hr:SlR X r)(he:PE X e te)(hl:PO X lo tl)(hu:PO X hi th):PE X (.Subscript e (.Slice lo hi none p2) pos) (tSl r te tl th):=by
 intro pins s σ H Q I h;refine Subscript_ (thn (he pins s σ H _ I h) λv s1 ⟨x,H1,I1,r1,q1⟩=>?_);refine wpAny_Slice (thn (hl pins s1 σ H1 _ I1 q1) λvl s2 ⟨l,H2,I2,pl,q2⟩=>thn (hu pins s2 σ H2 _ I2 q2) λvu s3 ⟨u,H3,I3,pu,q3⟩=>?_);rw[evalPart_none];refine uS ?_;have I4:Inv X pins σ H3 { s3 with heap:=s3.heap.push { cls:=.type "slice", data:=.fields #[vl,vu,.none] } }:=I3.kept (t':=s3.toks) λb ob q=>gX _ q
 obtain⟨T,id,hT,ht,hg⟩:=hr pins { s3 with heap:=s3.heap.push { cls:=.type "slice", data:=.fields #[vl,vu,.none] } } σ H3 x v vl vu l u s3.heap.objs.size Q I4 r1 (Heap.IsSliceOf.new ..) pl pu q3
 show wpAny (model X.prog X.w) X.A (subscriptTail e (.Slice lo hi none p2) v (.ref s3.heap.objs.size)) (EP X pins σ Q) X.xe { s3 with heap:=s3.heap.push { cls:=.type "slice", data:=.fields #[vl,vu,.none] } }
 exact tail_any (ops:=[.ref s3.heap.objs.size,v]) ht hT hg (by with_unfolding_all rfl)
def m5(xs:List V)(lo hi:Option Int):List V:=(xs.drop (HT.sIx xs.length 0 lo)).take (HT.sIx xs.length xs.length hi-HT.sIx xs.length 0 lo)
theorem CW(xs:List V)(lo hi:Option Int):(m5 xs lo hi).length<=xs.length:=by
 unfold m5;rw[oB,mT]
 lia
end
def ixN(n:Nat)(i:Int):Option Nat:=if 0<=i then (if i<n then some i.toNat else none) else if -(n:Int)<=i then some (i+n).toNat else none
def atI{α:Type}(xs:List α)(i:Int):Option α:=(ixN xs.length i).bind λj=>xs[j]?
theorem JH{n:Nat}{i:Int}{j:Nat}(h:ixN n i=some j):seqIndex? i n=some j/\j<n/\-(n:Int)<=i/\i<n:=by
 unfold ixN at h;by_cases h0:0<=i
 ·rw[zS h0] at h;by_cases h1:i<n
  ·rw[zS h1] at h;have e:i.toNat=j:=oQ h;exact⟨by rw[seqIndex_of h0 h1,e],by lia,by lia,h1⟩
  ·rw[yA h1] at h;cases h
 ·rw[yA h0] at h;by_cases h1:-(n:Int)<=i
  ·rw[zS h1] at h;have e:(i+n).toNat=j:=oQ h;exact⟨by rw[seqIndex_neg (by lia) h1,e],by lia,h1,by lia⟩
  ·rw[yA h1] at h;cases h
theorem JK{α:Type}{xs:List α}{i:Int}{v:α}(h:atI xs i=some v):∃j,seqIndex? i xs.length=some j/\xs[j]?=some v/\j<xs.length/\-(xs.length:Int)<=i/\i<xs.length:=by
 unfold atI at h;cases e:ixN xs.length i with
 | none=>rw[e] at h;cases h
 | some j =>
  rw[e] at h;obtain⟨h1,h2,h3,h4⟩:=JH e;exact⟨j,h1,h,h2,h3,h4⟩
theorem fW{α:Type}{xs:List α}{j:Nat}{v:α}(h:xs[j]?=some v):atI xs (j:Int)=some v:=by
 have hj:j<xs.length:=(jI.mp h).1;have e:ixN xs.length (j:Int)=some j:=by
  unfold ixN;rw[if_pos (by lia),if_pos (by lia)];simp
 unfold atI;rw[e];exact h
def Vs(b:Expr):Prop:=∀o i,subscripted b false o i=operate [o,i] (getItem o i)
def IxR(X:Cx)(r:R2):Prop :=
 ∀(value slice:Expr) (pins:List (Addr×Obj)) (s:Shared) (σ:St) (H:Hp) (x y:V) (v u:Value) (Q:VK),Inv X pins σ H s->RelV x v->RelV y u->r x y H Q ->
  subscripted slice false v u=operate [v,u] (getItem v u)->wpAny (model X.prog X.w) X.A (subscriptTail value slice v u) (EP X pins σ Q) X.xe s
def MtR(X:Cx)(id:String)(r:V->List V->Hp->VK->Prop):Prop :=
 ∀(pins:List (Addr×Obj)) (s:Shared) (σ:St) (H:Hp) (x:V) (xs:List V) (v:Value) (us:xE) (Q:VK),Inv X pins σ H s->RelV x v->Vals xs us->r x xs H Q ->
  wpAny (model X.prog X.w) X.A (call (.builtin id) (v::us)) (EP X pins σ Q) X.xe s
section
variable{X:Cx}{a b:Expr}{ta tb:TE}{pos:Pos}
theorem aW{r:R2}(hr:IxR X r)(ha:PE X a ta)(hb:PE X b tb)(hs:Vs b):PE X (.Subscript a b pos) (tOp r ta tb):=by
 intro pins s σ H Q I h;exact Subscript_ (Yq ha hb I h λv u s2 x y H2 I2 rx ry q=>hr a b pins s2 σ H2 x y v u Q I2 rx ry q (hs _ _))
def Qe(K:W.Frag):R2:=λx y H Q=>∃p xs i v,x=.ref p/\y=.int i/\SqL K H p xs/\atI xs i=some v/\Q v H
def Vt(K:W.Frag):R2:=λx y H Q=>∃p xs i v,x=.ref p/\y=.int i/\SqT K H p xs/\atI xs i=some v/\Q v H
theorem aZ:IxR X (Qe X.K):=by
 intro value slice pins s σ H x y v u Q I rx ry h hs;obtain⟨p,xs,i,z,rfl,rfl,hq,he,q⟩:=h;cases rx;obtain⟨t,rfl⟩:=ry;obtain⟨its,r,pl,hz⟩:=I.list hq;obtain⟨j,h1,h2,h3,h4,h5⟩:=JK he;obtain⟨w,ew,rw'⟩:=r.get h2;have hl:=r.length;have hn:=zG;have fin:EP X pins σ Q w s:=⟨z,H,I,rw',q⟩;by_cases h0:0<=i
 ·have hj:i.toNat=j:=by
   rw[seqIndex_of h0 h5] at h1;exact oQ h1
  exact item_listR pl.isList h0 (by lia) (by rw[hj];simpa using ew) fin hs
 ·have hj:(i+(its.toArray.size:Int)).toNat=j:=by
   rw[seqIndex_neg (by lia) h4] at h1;rw[nB,<- hl];exact oQ h1
  exact subscriptTail_builtinR (x:=w) pl.isList.typeIs slot_list_getitem.lookup
   (wpAny_getItem_list_neg (Q:=λr s'=>r=w/\EP X pins σ Q r s') pl.isList (by lia) (by rw[List.size_toArray] <;> lia) (by lia) (by rw[hj];simpa using ew) ⟨rfl,fin⟩) hs
theorem bA:IxR X (Vt X.K):=by
 intro value slice pins s σ H x y v u Q I rx ry h hs;obtain⟨p,xs,i,z,rfl,rfl,hq,he,q⟩:=h;cases rx;obtain⟨t,rfl⟩:=ry;obtain⟨its,r,pl,hz⟩:=I.tuple hq;obtain⟨j,h1,h2,h3,h4,h5⟩:=JK he;obtain⟨w,ew,rw'⟩:=r.get h2;have hl:=r.length;have hn:=zG;have fin:EP X pins σ Q w s:=⟨z,H,I,rw',q⟩;exact subscriptTail_builtinR (x:=w) pl.typeIs slot_tuple_getitem.lookup
  (getItem_tuple (j:=j) (Q:=λr s'=>r=w/\EP X pins σ Q r s') pl (by lia) (by lia) (by rw[List.size_toArray,<- hl];exact h1) (by simpa using ew) ⟨rfl,fin⟩) hs
theorem G_(its:xE)(n j:Nat)(u:Value):Obj.mapSeq (·.setIfInBounds j u) { cls:=.type "list", data:=.seq its.toArray n }={ cls:=.type "list", data:=.seq (its.set j u).toArray n }:=by
 simp[Obj.mapSeq]
theorem Inv.lst{pins:List (Addr×Obj)}{σ:St}{H:Hp}{s:Shared}{p:Addr}{xs:List V}(I:Inv X pins σ H s)(h:H p=some (.lst xs)) :
  ∃(its:xE)(n:Nat),Vals xs its/\s.heap.get? p=some { cls:=.type "list", data:=.seq its.toArray n }/\xs.length<=sizeLine:=by
 obtain⟨z,its,n,r,e⟩:=I.hok p _ h;exact⟨its,n,r,e,z⟩
theorem Inv.Yz{pins:List (Addr×Obj)}{σ:St}{H:Hp}{s:Shared}{p:Addr}{xs ys:List V}{its its':xE}{n n':Nat}{f:Obj->Obj}(I:Inv X pins σ H s)(h:H p=some (.lst xs))
  (ho:s.heap.get? p=some { cls:=.type "list", data:=.seq its.toArray n }) (hf:f { cls:=.type "list", data:=.seq its.toArray n }={ cls:=.type "list", data:=.seq its'.toArray n' }) (r:Vals ys its') (hz:ys.length<=sizeLine) (t:Nat) :
  Inv X pins σ (upd H p (.lst ys)) { s with heap:=s.heap.update p f,toks:=t }:=by
 have e:(s.heap.update p f).get? p=some { cls:=.type "list", data:=.seq its'.toArray n' }:=by
  rw[Heap.get?_update_self f ho (by rw[hf] <;> rfl),hf]
 refine I.write (x:=p) (e:=p) (by rw[h];trivial) (.inl rfl) (λb u hb q=>(nE _ _ (Ne.symm hb)).trans q) ⟨_,e⟩ ?_;exact⟨hz,its',n',r,e⟩
def abe:V->V->V->Hp->(Hp->Prop)->Prop:=λo i v H Q=>∃p xs k j,o=.ref p/\i=.int k/\H p=some (.lst xs)/\ixN xs.length k=some j/\Q (upd H p (.lst (xs.set j v)))
theorem set_list:Ym X abe:=by
 intro pins s σ H o i v ov iv u Q I ro ri rv h;obtain⟨p,xs,k,j,rfl,rfl,hp,hj,q⟩:=h;cases ro;obtain⟨t,rfl⟩:=ri;obtain⟨its,n,r,ho,hz⟩:=I.lst hp;obtain⟨h1,h2,h3,h4⟩:=JH hj;have hl:=r.length;have hn:=zG;have I':Inv X pins σ (upd H p (.lst (xs.set j v))) { s with heap:=s.heap.update p (Obj.mapSeq (·.setIfInBounds j u)) } :=
  I.Yz hp ho (G_ its n j u) (r.set rv j) (by rw[List.length_set];exact hz) s.toks
 by_cases h0:0<=k
 ·have hk:k.toNat=j:=by
   rw[seqIndex_of h0 h4] at h1;exact oQ h1
  exact W.ki_setAt ho h0 (by lia) (by rw[nB,<- hl];exact h4) (by rw[hk];exact⟨_,I',q⟩)
 ·have hk:(k+(its.toArray.size:Int)).toNat=j:=by
   rw[seqIndex_neg (by lia) h3] at h1;rw[nB,<- hl];exact oQ h1
  exact W.ki_setBack ho (by lia) (by rw[nB,<- hl];exact h3) (by lia) (by rw[hk];exact⟨_,I',q⟩)
theorem zL(lo hi:Option Int)(n:Nat):(sliceBounds lo hi none n).1=((HT.sIx n 0 lo:Nat):Int)/\(sliceBounds lo hi none n).2.1=((HT.sIx n n hi:Nat):Int)/\(sliceBounds lo hi none n).2.2=1:=by
 refine⟨?_,?_,rfl⟩
 ·cases lo with
  | none=>simp[sliceBounds,HT.sIx]
  | some i =>
   simp only[sliceBounds,HT.sIx,Option.getD_none,show (1:Int) > 0 by decide,if_true];by_cases h:i<0
   ·simp only[h,if_true] <;> lia
   ·simp only[h,if_false] <;> lia
 ·cases hi with
  | none=>simp[sliceBounds,HT.sIx]
  | some i =>
   simp only[sliceBounds,HT.sIx,Option.getD_none,show (1:Int) > 0 by decide,if_true];by_cases h:i<0
   ·simp only[h,if_true] <;> lia
   ·simp only[h,if_false] <;> lia
theorem v8(its:xE)(lo hi:Option Int):slicePick its.toArray lo hi none=((its.drop (HT.sIx its.length 0 lo)).take (HT.sIx its.length its.length hi-HT.sIx its.length 0 lo)).toArray:=by
 obtain⟨h1,h2,h3⟩:=zL lo hi its.toArray.size;unfold slicePick;rw[h1,h2,h3];simp only[sliceRange_one,pick_run,List.size_toArray] <;> rfl
def aeb(K:W.Frag):V->Option Int->Option Int->Hp->VK->Prop:=λx lo hi H Q=>∃a xs,x=.ref a/\SqL K H a xs/\∀p,H p=none->Q (.ref p) (upd H p (.lst (m5 xs lo hi)))
theorem Vu:SlR X (aeb X.K):=by
 intro pins s σ H x v vl vu lo hi sl Q I rx hs pl pu h;obtain⟨a,xs,rfl,hx,q⟩:=h;cases rx;obtain⟨its,r,ht,hz⟩:=I.list hx;have hlen:=r.length;refine⟨"list", _,slot_list_getitem.lookup,ht.isList.typeIs,?_⟩;refine wpAny_getItem_list_slice ht.isList hs pl pu .none (by simp) ?_ (by rw[List.size_toArray] <;> lia);rw[v8,<- hlen];refine⟨.ref s.heap.objs.size,_,I.laid (t':=s.toks) (o:=.lst (m5 xs lo hi)) (λb ob q=>gX _ q) (uA _) ?_,rfl,q _ (I.hok.fresh (uA _))⟩;exact⟨rS (CW xs lo hi) hz,_,0,(r.drop (HT.sIx xs.length 0 lo)).take (HT.sIx xs.length xs.length hi-HT.sIx xs.length 0 lo),rV _ rfl⟩
def eqV:V->V->Bool
 | .non,.non=>true
 | .bl a,.bl b=>a==b
 | .bl a,.int b=>(if a then 1 else 0)==b
 | .int a,.bl b=>a==(if b then 1 else 0)
 | .int a,.int b=>a==b
 | .str a,.str b=>a==b
 | _,_=>false
def tyV(K:W.Frag)(T:String)(x:V)(H:Hp):Prop:=match x with
 | .str _=>T = "str"
 | .int _=>T = "int"
 | .ref p=>(T = "list" /\ ∃xs,SqL K H p xs)\/(T = "tuple" /\ ∃o,K.lookup p=some o/\o.cls=.type "tuple" /\ o.dict=none) \/
   (T = "dict" /\ ((∃kvs,H p=some (.dK kvs))\/∃kvs,H p=some (.dT kvs)))\/(T = "set" /\ ∃S n,H p=some (.set S n))
 | _=>False
theorem YB{pins:List (Addr×Obj)}{σ:St}{H:Hp}{s:Shared}{T:String}{x:V}{v:Value}(I:Inv X pins σ H s)(r:RelV x v)(ty:tyV X.K T x H) :
  s.TypeIs v T/\∀a,v=.ref a->∃ob,s.heap.get? a=some ob/\ob.dict=none:=by
 cases x with
 | str z =>
  obtain⟨t,rfl⟩:=r;cases (show T = "str" from ty);exact⟨typeIs_str s z t,λ_ e=>nomatch e⟩
 | int i =>
  obtain⟨t,rfl⟩:=r;cases (show T = "int" from ty);exact⟨typeIs_int s i t,λ_ e=>nomatch e⟩
 | ref p =>
  cases r;rcases ty with⟨rfl,xs,hq⟩|⟨rfl,o,hk,hc,hd⟩|⟨rfl,hk⟩|⟨rfl,S,n,hk⟩
  ·obtain⟨its,_,pl,_⟩:=I.list hq;refine⟨pl.isList.typeIs,λa e=>?_⟩;cases e;obtain⟨o,n,e,c,hd,_⟩:=pl;exact⟨o,e,hd⟩
  ·refine⟨⟨o,I.kIn p o hk,hc⟩,λa e=>?_⟩;cases e;exact⟨o,I.kIn _ o hk,hd⟩
  ·have z:∃o,s.heap.get? p=some o/\o.ExactDict:=by
    rcases hk with⟨kvs,hk⟩|⟨kvs,hk⟩
    ·obtain⟨_,_,_,_,o,_,_,e,ex,_⟩:=I.hok p _ hk;exact⟨o,e,ex⟩
    ·obtain⟨_,_,_,_,o,_,_,e,ex,_⟩:=I.hok p _ hk;exact⟨o,e,ex⟩
   obtain⟨o,e,ex⟩:=z;refine⟨⟨o,e,ex.1⟩,λa e2=>?_⟩;cases e2;exact⟨o,e,ex.2.1⟩
  ·obtain⟨o,_,_,_,e,ex,_⟩:=I.hok p _ hk;refine⟨⟨o,e,ex.1⟩,λa e2=>?_⟩;cases e2;exact⟨o,e,ex.2.1⟩
 | _=>exact False.elim ty
def tBM(K:W.Frag)(T:String)(r:V->List V->Hp->VK->Prop)(to:TE)(t:TA):TE:=λσ H Q=>to σ H λx H1=>tyV K T x H1/\t σ H1 λxs H2=>r x xs H2 Q
variable{o e:Expr}{es:List Expr}{to:TE}{t:TA}{name:Str}{apos cpos:Pos}{T id:String}{r:V->List V->Hp->VK->Prop}
theorem Xw(pa:PlainAttrs T)(slot:Slot T name id)(hty:typeOf (.builtin id)=pure (.type "method_descriptor"))(hm:MtR X id r)(ho:PE X o to)(ha:PA X (e::es) t)
  (hbase:attributeBase o name X.env (eval o X.env)=eval o X.env:=by rfl)
  (hfew:((backTo cpos (starEach (e::es) X.env)).all (λx=>!x.1) && (backToKw cpos (keywordEach [] X.env)).all (λx=>x.1.isSome)
   && decide ((e::es).length+([]:List Keyword).length+(if ([]:List Keyword).isEmpty then 0 else 1)<30))=true:=by rfl)
  (hline:(apos.endLine==cpos.line)=true:=by rfl) (hs:starEach (e::es) X.env=(false,eval e X.env)::starEach es X.env:=by rfl) (hplain:(backTo cpos (starEach es X.env)).any (·.1)=false:=by rfl) :
  PE X (.Call (.Attribute o name apos) (e::es) [] cpos) (tBM X.K T r to t):=by
 intro pins s σ H Q I h;refine wpAny_Call_method_late hbase hfew hline rfl (thn (ho pins s σ H _ I h) λv s1 ⟨x,H1,I1,r1,ty,q1⟩=>?_);obtain⟨h1,h2⟩:=YB I1 r1 ty;refine⟨T,id,pa,slot,hty,h1,h2,?_⟩;have hA:=ha cpos pins s1 σ H1 _ I1 q1;rw[hs] at hA ⊢;refine Calls.callWith_builtin (by show (false || (backTo cpos (starEach es X.env)).any (·.1))=false;rw[hplain] <;> rfl) (Calls.evalArgs_plain ?_);exact thn hA λus s2 ⟨vs,H2,I2,r2,q2⟩=>hm pins s2 σ H2 x vs v us Q I2 r1 r2 q2
end
def MtM(X:Cx)(id:String)(r:V->List V->Hp->VK->Prop):Prop :=
 ∀(pins:List (Addr×Obj)) (s:Shared) (σ:St) (H:Hp) (x:V) (xs:List V) (v:Value) (us:xE) (Q:VK),Inv X pins σ H s->RelV x v->Vals xs us->r x xs H Q ->
  wpAny (model X.prog X.w) X.A (call (.builtin id) (v::us)) (EP X pins σ Q) X.xe s
theorem Vals.one:∀{x:V} {us:xE},Vals [x] us->∃u,us=[u]/\RelV x u
 | _,_,.cons r .nil=>⟨_,rfl,r⟩
theorem Vals.rep{xs:List V}{us:xE}(h:Vals xs us):∀k:Nat,Vals (List.replicate k xs).flatten (List.replicate k us).flatten
 | 0=>.nil
 | k+1=>by
  rw[List.replicate_succ,List.replicate_succ,List.flatten_cons,List.flatten_cons];exact Vals.append h (Vals.rep h k)
theorem foldl_rep(its:xE):∀(k:Nat)(acc:xE),
  List.foldl (λx1 x2=>x1++x2) acc.toArray (List.replicate k its.toArray)=(acc++(List.replicate k its).flatten).toArray
 | 0,acc=>by simp
 | k+1,acc=>by
  have e:acc.toArray++its.toArray=(acc++its).toArray:=by simp
  have e2:(acc++its)++(List.replicate k its).flatten=acc++(List.replicate (k+1) its).flatten:=by
   rw[List.replicate_succ,List.flatten_cons,vF]
  rw[<- e2,<- foldl_rep its k (acc++its),<- e,List.replicate_succ,List.foldl_cons]
section
variable{X:Cx}{pins:List (Addr×Obj)}{σ:St}{H:Hp}{s:Shared}{l:Addr}{xs ys:List V}
theorem Inv.YC{its its':xE}{n:Nat}{f:Array Value->Array Value}{t':Nat}(I:Inv X pins σ H s)(hH:H l=some (.lst xs))
  (e:s.heap.get? l=some { cls:=.type "list", data:=.seq its.toArray n }) (hf:f its.toArray=its'.toArray) (hv:Vals ys its') (hz:ys.length<=sizeLine) :
  Inv X pins σ (upd H l (.lst ys)) { s with heap:=s.heap.update l (Obj.mapSeq f),toks:=t' }:=by
 have q:=PySem.IsL.update e f;rw[hf] at q;refine I.write (x:=l) (e:=l) (by rw[hH];exact trivial) (.inl rfl) (λb' u hb hu=>(nE s.heap (Obj.mapSeq f) (Ne.symm hb)).trans hu) ⟨_,q⟩ ?_;exact⟨hz,its',_,hv,q⟩
theorem Inv.abf{its:xE}{t':Nat}(I:Inv X pins σ H s)(hv:Vals ys its)(hz:ys.length<=sizeLine) :
  Inv X pins σ (upd H s.heap.objs.size (.lst ys)) { s with heap:=s.heap.push { cls:=.type "list", data:=.seq its.toArray },toks:=t' } :=
 I.laid (λ_ _ q=>gX _ q) (uA _) ⟨hz,its,0,hv,rV _ rfl⟩
theorem Inv.fresh(I:Inv X pins σ H s):H s.heap.objs.size=none:=I.hok.fresh (uA _)
theorem Inv.CZ(I:Inv X pins σ H s)(hH:H l=some (.lst xs)):xs.length<=sizeLine/\∃(its:xE)(n:Nat),Vals xs its/\xs.length=its.length/\s.heap.get? l=some { cls:=.type "list", data:=.seq its.toArray n }:=by
 obtain⟨z,its,n,r,e⟩:=I.hok l _ hH;exact⟨z,its,n,r,r.length,e⟩
theorem m6{n:Nat}(h:n<=sizeLine):Builtin.List.listTooLong n=false:=by
 unfold Builtin.List.listTooLong;exact gL (by lia)
end
section
variable{X:Cx}
def Vv:V->List V->Hp->VK->Prop:=λx vs H Q=>∃l xs y,x=.ref l/\vs=[y]/\H l=some (.lst xs)/\xs.length<sizeLine/\Q .non (upd H l (.lst (xs++[y])))
theorem wN:MtM X "list.append" Vv:=by
 intro pins s σ H x vs v us Q I rx rv h;obtain⟨l,xs,y,rfl,rfl,hH,hz,q⟩:=h;cases rx;obtain⟨u,rfl,ru⟩:=rv.one;obtain⟨z,its,n,r,hl,e⟩:=I.CZ hH;refine call_meets F.slot_list_append ⟨_,e,rfl⟩ F.entry_list_append (F.args_list_append_2 _ _) (PySem.list_append l its.toArray n u (by rw[nB];lia)) ⟨e,?_⟩;refine⟨.non,_,I.YC (its':=its++[u]) hH e (by simp) (r.append (.cons ru .nil)) ?_,rfl,q⟩;rw[yB,List.length_singleton]
 lia
def Vw:V->List V->Hp->VK->Prop:=λx vs H Q=>∃l b xs zs,x=.ref l/\vs=[.ref b]/\H l=some (.lst xs)/\H b=some (.lst zs)/\xs.length+zs.length<=sizeLine/\Q .non (upd H l (.lst (xs++zs)))
theorem MP:MtM X "list.extend" Vw:=by
 intro pins s σ H x vs v us Q I rx rv h;obtain⟨l,b,xs,zs,rfl,rfl,hH,hB,hz,q⟩:=h;cases rx;obtain⟨u,rfl,ru⟩:=rv.one;cases ru;obtain⟨z,its,n,r,hl,e⟩:=I.CZ hH;obtain⟨z2,its2,n2,r2,hl2,e2⟩:=I.CZ hB;have hsz:its.toArray.size+its2.toArray.size<=sizeLine:=by rw[nB,nB];lia
 have Qf:¬ (!its.toArray.isEmpty && Builtin.List.listTooLong (its.toArray.size+its2.toArray.size))=true:=by
  rw[m6 hsz,Bool.and_false];exact vE
 refine call_meets F.slot_list_extend ⟨_,e,rfl⟩ F.entry_list_extend (F.args_list_extend_2 _ _)
  (AutoSeq1.list_extend_list_list_0 l its.toArray n b its2.toArray n2 Qf (by rw[nB];lia) (by lia)) ⟨e,e2,?_⟩
 refine⟨.non,_,I.YC (its':=its++its2) hH e (by simp) (r.append r2) ?_,rfl,q⟩;rw[yB]
 lia
def aec:R2:=λx y H Q=>∃l b xs zs,x=.ref l/\y=.ref b/\H l=some (.lst xs)/\H b=some (.lst zs)/\xs.length+zs.length<=sizeLine/\∀p,H p=none->Q (.ref p) (upd H p (.lst (xs++zs)))
theorem YD:OpR X (binaryOp .Add) aec:=by
 intro pins s σ H x y v u Q I rx ry h;obtain⟨l,b,xs,zs,rfl,rfl,hH,hB,hz,q⟩:=h;cases rx;cases ry;obtain⟨z,its,n,r,hl,e⟩:=I.CZ hH;obtain⟨z2,its2,n2,r2,hl2,e2⟩:=I.CZ hB;refine PySem.P.add_list e e2 ?_ (by rw[nB,nB];lia);have ea:its.toArray++its2.toArray=(its++its2).toArray:=by simp
 rw[ea];exact⟨.ref _,_,I.abf (t':=s.toks) (r.append r2) (by rw[yB];lia),rfl,q _ I.fresh⟩
def aed:R2:=λx y H Q=>∃l k xs,x=.ref l/\y=.int k/\H l=some (.lst xs)/\-(2 ^ 63)<=k/\k<2 ^ 63/\xs.length*k.toNat<=sizeLine /\
 ∀p,H p=none->Q (.ref p) (upd H p (.lst (List.replicate k.toNat xs).flatten))
theorem len_rep{α:Type}(xs:List α)(k:Nat):(List.replicate k xs).flatten.length=k*xs.length:=by
 induction k with
 | zero=>simp
 | succ k ih=>rw[List.replicate_succ,List.flatten_cons,yB,ih,Nat.succ_mul,Nat.add_comm]
theorem YF:OpR X (binaryOp .Mult) aed:=by
 intro pins s σ H x y v u Q I rx ry h;obtain⟨l,k,xs,rfl,rfl,hH,h1,h2,hz,q⟩:=h;cases rx;obtain⟨t,rfl⟩:=ry;obtain⟨z,its,n,r,hl,e⟩:=I.CZ hH;have hlen:its.toArray.size*k.toNat<=sizeLine:=by rw[nB,<- hl];exact hz
 have hcap:¬ its.toArray.size*k.toNat > (2 ^ 63-1) / 8:=by
  have:(sizeLine:Nat)<=(2 ^ 63-1) / 8:=by decide
  lia
 have hfit:¬ (!Builtin.List.listFitsIndex k)=true:=by
  rw[fitsIndex_both h1 h2];exact vE
 have Qf:¬ Builtin.List.listTooLong (its.toArray.size*k.toNat)=true:=by
  rw[m6 hlen];exact vE
 have hnew:List.foldl (λx1 x2=>x1++x2) #[] (List.replicate (if its.toArray.isEmpty=true then 0 else k.toNat) its.toArray)=(List.replicate k.toNat its).flatten.toArray:=by
  have f0:∀m:Nat,List.foldl (λx1 x2=>x1++x2) #[] (List.replicate m its.toArray)=(List.replicate m its).flatten.toArray:=λm=>by
   have:=foldl_rep its m [];rw[List.nil_append] at this;exact this
  rw[f0];cases its with
  | nil=>simp
  | cons a r'=>rw[if_neg (by simp)]
 refine wpAny_binaryOp_repeat_ref (T := "list") (U := "int") (by decide) ⟨_,e,rfl⟩ (λs'=>typeIs_int s' k t) noFill_list_mul F.fills_int_mul F.slot_int_rmul repeat_list F.slot_int_index.lookup
  (call_meets F.slot_int_rmul (typeIs_int s k t) F.entry_int_rmul (F.args_int_rmul_2 _ _) (int___rmul___int_list k t l its.toArray n)
   ⟨e,rfl,⟨_,e,rfl⟩,call_meets F.slot_list_mul ⟨_,e,rfl⟩ F.entry_list_mul (F.args_list_mul_2 _ _) (AutoListH.list___mul___list_int_3 l its.toArray n k t hfit hcap Qf) ⟨e,?_⟩⟩)
 rw[hnew];exact⟨.ref _,_,I.abf (t':=s.toks) (r.rep k.toNat) (by rw[len_rep,Nat.mul_comm];exact hz),rfl,q _ I.fresh⟩
end
section
variable{prog:Program}{w:World}{A:Around}{E:xB}{s:Shared}
theorem M4(its its2:xE)(a c:Nat):its.toArray.extract 0 a++its2.toArray++its.toArray.extract c its.toArray.size=(its.take a++its2++its.drop c).toArray:=by
 apply Array.toList_inj.mp
 first
  | (simp
     exact List.take_of_length_le (by simp))
  | simp[List.take_of_length_le]
  | simp
theorem Hf{a c n:Nat}(hac:a<=c)(hc:c<=n):sliceBounds (some (a:Int)) (some (c:Int)) none n=((a:Int),(c:Int),1):=by
 simp only[sliceBounds,Option.getD_none];have h1:¬ ((a:Int)<0):=by lia
 have h2:¬ ((c:Int)<0):=by lia
 simp only[h1,h2,if_false,show (1:Int) > 0 by decide,if_true]
 congr 1
 ·lia
 ·congr 1;lia
set_option maxRecDepth 100000 in
theorem v9{l b sl:Addr}{items new:xI}{n n2:Nat}{vl vu:Value}{a c:Nat}{Q:xA}
  (e:s.heap.get? l=some { cls:=.type "list", data:=.seq items n }) (e2:s.heap.get? b=some { cls:=.type "list", data:=.seq new n2 }) (hne:l≠b)
  (hs:s.heap.IsSliceOf sl vl vu .none) (pl:IsPart vl (some (a:Int))) (pu:IsPart vu (some (c:Int))) (hac:a<=c) (hc:c<=items.size)
  (hsz:items.size+new.size<=sizeLine) (h:Q () { s with heap:=s.heap.update l (Obj.mapSeq λxs=>xs.extract 0 a++new++xs.extract c xs.size) }) :
  wpAny (model prog w) A (setItem (.ref l) (.ref sl) (.ref b)) Q E s:=by
 have hl:s.heap.IsList l items:=PySem.IsL.isList e;have hb:s.heap.IsList b new:=PySem.IsL.isList e2;obtain⟨os,hos,hcs,hds⟩:=id hs;have hTs:s.TypeIs (.ref sl) "slice":=⟨os,hos,hcs⟩;have hstep:¬ ((rawPart none==rawInt 0)=true):=vE;have hsame:Builtin.List.listSameRef (.ref l) (.ref b)=false:=by
  unfold Builtin.List.listSameRef;exact beq_eq_false_iff_ne.mpr hne
 have aee:(max (a:Int) (c:Int)).toNat=c:=by lia
 have hz':((λxs:Array Value=>xs.extract 0 a++new++xs.extract c xs.size) items).size<=sizeLine+1:=by
  simp only[Array.size_append,Array.size_extract]
  lia
 unfold setItem
 try with_reducible refine nK ?_
 first|refine zI (uS ?_)|skip
 refine zI (wpAny_sequenceKey hl.typeIs (by decide) ?_);refine zI (wpAny_callSpecial?_slot (name:=Str.ofString "__setitem__") hl.typeIs slot_list_setitem
  (wpAny_call_entry slot_list_setitem hl.typeIs entry_list_setitem ?_ (args_list_setitem _ _ _)))
 show wpAny _ _ (Builtin.List.listSubscript? (.ref sl) >>= _) _ _ s;refine zI ?_;unfold Builtin.List.listSubscript?;refine zI (wpAny_specialOf hTs slice_no_index ?_);simp only[Option.isNone_none,if_true];refine uS ?_;show wpAny _ _ (typeOf (.ref sl) >>= _) _ _ s;refine zI (wpAny_typeOf hTs ?_)
 first
  | rw[if_neg (by decide)]
  | refine W.KFB.if_not (by decide) ?_
 rw[listSliceParts_eq];refine zI (zI (wpAny_field hos hds (x:=.none) rfl (zI (wpAny_listPart .none ?_))));rw[yA hstep];refine zI (wpAny_field hos hds (x:=vl) rfl (zI (wpAny_listPart pl ?_)));refine zI (wpAny_field hos hds (x:=vu) rfl (zI (wpAny_listPart pu (uS ?_))))
 first
  | simp only[hsame,Bool.false_eq_true,if_false]
  | refine W.KFB.if_not hsame ?_
  | (dsimp only
     rw[yA (by rw[hsame];exact vE)])
 refine zI (m:=Builtin.List.listAllItems (.ref b) "must assign iterable to extended slice") ?_;unfold Builtin.List.listAllItems;refine zI (wpAny_typeOf hb.typeIs ?_)
 first
  | refine W.KFB.if_so (by decide) ?_
  | rw[if_pos (by decide)]
  | simp only[beq_self_eq_true,Bool.true_or,if_true]
 unfold Builtin.List.listItems;refine zI (wpAny_seqItems e2 rfl (uS ?_));refine zI (zI (wpAny_seqItems e rfl (uS ?_)));refine wpAny_bind (wpAny_of_eq ((sliceIndices_raw (some (a:Int)) (some (c:Int)) none items.size (by simp)).trans (congrArg (pure:Int×Int×Int->Sem (Int×Int×Int)) (Hf hac hc))) ?_);show wpAny _ _ (if ((1:Int)==1)=true then _ else _) _ _ s;rw[zS (by decide)];refine zI (wpAny_rule ?_)
 first
  | simp only[m6 hsz,Bool.false_eq_true,if_false]
  | refine W.KFB.if_not (m6 hsz) ?_
 first|refine zI (uS ?_)|skip
 show wpAny _ _ (updateSeq l (λxs=>xs.extract 0 ((a:Int)).toNat++new++xs.extract (max (a:Int) (c:Int)).toNat xs.size) >>= _) _ _ s;rw[aee,Int.toNat_natCast];refine zI (wpAny_updateSeq (hz:=rS (Nat.le_add_right _ _) hsz) (_hz':=hz') e rfl ?_);refine zI (wpAny_letGo ?_)
 first
  | exact wpAny_bind (wpAny_pure (wpAny_pure ⟨.none,rfl,wpAny_pure h⟩))
  | exact wpAny_pure ⟨.none,rfl,wpAny_pure h⟩
end
section
variable{X:Cx}
theorem M5{pins:List (Addr×Obj)}{s:Shared}{σ:St}{H:Hp}{l b sl:Addr}{xs ys:List V}{a c:Int}{vl vu:Value}{Q:xA}(I:Inv X pins σ H s)
  (hH:H l=some (.lst xs)) (hB:H b=some (.lst ys)) (hne:l≠b) (hs:s.heap.IsSliceOf sl vl vu .none) (ra:RelV (.int a) vl) (rc:RelV (.int c) vu) (h0:0<=a) (hac:a<=c) (hc:c<=xs.length)
  (hz:xs.length+ys.length<=sizeLine) (h:∀s',Inv X pins σ (upd H l (.lst (xs.take a.toNat++ys++xs.drop c.toNat))) s'->Q () s') :
  wpAny (model X.prog X.w) X.A (setItem (.ref l) (.ref sl) (.ref b)) Q X.xe s:=by
 obtain⟨ta,rfl⟩:=ra;obtain⟨tc,rfl⟩:=rc;obtain⟨z,its,n,r,hl,e⟩:=I.CZ hH;obtain⟨z2,its2,n2,r2,hl2,e2⟩:=I.CZ hB;obtain⟨a',rfl⟩:=Int.eq_ofNat_of_zero_le h0;obtain⟨c',rfl⟩:=Int.eq_ofNat_of_zero_le (Int.le_trans h0 hac);simp only[Int.toNat_natCast] at h;refine v9 (a:=a') (c:=c') e e2 hne hs (.int _ _) (.int _ _) (by lia) (by rw[nB];lia) (by rw[nB,nB];lia) (h _ ?_);refine I.YC (its':=its.take a'++its2++its.drop c') (t':=s.toks) hH e ?_ (Vals.append (Vals.append (r.take _) r2) (r.drop _)) ?_
 ·exact M4 its its2 a' c'
 ·rw[yB,yB,oB,mT]
  lia
end
end L2
namespace Att
open PySem PySem.W PySem.Calls PyProof.Rows
theorem rm{P:Params}{h:Heap}:∀(ns:List Int)(vs:xE),WellAll P h vs (ns.map WData.int)->IntsAre vs ns:=by
 intro ns
 induction ns with
 | nil =>
  intro vs w;rw[List.map_nil] at w;cases w;exact .nil
 | cons n ns ih =>
  intro vs w;rw[oC] at w;cases w with
  | cons a b =>
   cases a;exact .cons _ _ (ih _ b)
theorem M6{l:OpenLaw}{n:Nat}(hn:l.most=some n){P:Params}{h:Heap}{args:List WData}{vals:xE}
  (hpre:l.row.toRowW.claim.pre args=true) (hwl:WellAll P h vals args) :
  ∃a vs ns,vals=[Value.ref a]/\args=[WData.list (ns.map WData.int)]/\h.get? a=some { cls:=.type "list", data:=.seq vs.toArray }/\IntsAre vs ns/\ns.length<=n:=by
 have hsh:WShape.hasAll [] args [.list .int]=true:=(pre_splitW hpre).1;have hc:l.pre.holds [] { args:=args }=true:=(pre_splitW hpre).2;obtain⟨d,r,rfl,h1,h2⟩:=hasAllW_cons hsh;obtain rfl:=hasAllW_nil h2;obtain⟨xs,rfl,h3⟩:=hasW_list h1;obtain⟨ns,rfl⟩:=items_int h3;have hlen:ns.length<=n:=by
  unfold OpenLaw.pre at hc;have h4:(WTm.not (.lt (.lit (.int (n:Int))) (.len (.arg 0)))).holds [] { args:=[.list (ns.map .int)] }=true:=by
   have h4:=(holds_andW hc).1;rw[hn] at h4;exact h4
  have h5:=condW_of h4 (w_not (w_lt w_lit (w_len_list (w_arg rfl))));rw[wE] at h5;refine Nat.le_of_not_lt λq=>?_
  have q':(n:Int)<((ns.length:Nat):Int):=by lia
  first
   | (rw[gN q'] at h5;exact gE h5 (by decide))
   | (simp at h5;lia)
 cases hwl with
 | cons w1 w2 =>
  cases w2;cases w1 with
  | list ho hall=>exact⟨_,_,ns,rfl,rfl,ho,rm ns _ hall,hlen⟩
theorem M7(l:OpenLaw)(args:List WData):l.row.toRowW.claim.post args (.bool true) args=true :=
 postW_of (r:=l.row.toRowW) (X:=(true==true))
  (show WShape.has [] (.bool true) .bool=true by first|rfl|decide|simp[WShape.has,WShape.arms,WShape.armsAll])
  (show (WTm.eq .res (.lit (.bool true))).value [] { args:=args,res:=some (.bool true),after:=args }=some (.bool (true==true)) from w_eq_bool (w_res rfl) w_lit) rfl
theorem C_{l:OpenLaw}{n:Nat}{q:Program}{loose:List Str}{XP:(Str->Option Value)->Heap->Prop}{YP:World->Heap->Prop}{d:DefRec}
  (hn:l.most=some n) (hdf:d.params.defaults=[])
  (call:∀(w:World)(s₀ s₁:Shared)(mg mb:xC)(fa:Addr)(o:Obj)(pm cd doc:Value)(a:Addr)(vs:xE)(ns:List Int),
   Ground q loose [] XP w s₀ mg mb s₁.heap->YP w s₁.heap ->
   s₁.heap.get? fa=some o->o.data=.func (docDef d.name d.params d.body d.scope pm cd doc)->s₁.heap.CodeRec cd d.name->mg d.name=some (.ref fa) ->
   s₁.heap.get? a=some { cls:=.type "list", data:=.seq vs.toArray }->IntsAre vs ns->ns.length<=n->s₁.gens=#[] ->
   codeAny (model l.prog w) callerA (.call (.ref fa) ⟨[.ref a],[]⟩) (λr s'=>r=.ok (.ret (.bool true))/\OldK s₁.heap s'.heap/\s'.os=s₁.os/\AllBare s'.gens) s₁) :
  WalkO q loose XP YP l.row.toRowW d [] (λf vs=>PySem.call f vs):=by
 intro w s₀ s₁ mg mb G Y fa o pm cd doc dV kV ho hd hcd hD hmg hg args vals as hpre hlay hrd hwl hlo;obtain rfl:dV=.none:=Dflts.none hD hdf;obtain rfl:kV=.none:=Dflts.noKw hD;obtain⟨a,vs,ns,rfl,rfl,hobj,hints,hlen⟩:=M6 hn hpre hwl;refine enter_call (codeAny_mono (call w s₀ s₁ mg mb fa o pm cd doc a vs ns G Y ho (fd_plain hd) hcd hmg hobj hints hlen hg) λr s' hq=>?_);obtain⟨rfl,h2,h3,h4⟩:=hq;exact⟨.inl ⟨.bool true,.bool true,[],rfl,λ_=>rfl,.bool true,M7 l _,λ_=>⟨List.Pairwise.nil,λ_ hm=>(nomatch hm)⟩⟩,h2,h3,h4⟩
end Att
namespace L2
open PySem PySem.Spec PyProof.Rows
theorem wO:∀{vs:xE} {ns:List Int},IntsAre vs ns->Vals (ns.map V.int) vs
 | _,_,.nil=>.nil
 | _,_,.cons n t h=>.cons ⟨t,rfl⟩ (wO h)
abbrev KOf{K:W.Frag}{h:Heap}(_:K.In h):W.Frag:=K
def inClass(s:Stmt)(j:Nat):Stmt:=match s with
 | .ClassDef _ _ _ body _ _ _ _ _ _ _=>body.getD j (.Pass ⟨0,0,0,0⟩)
 | _=>.Pass ⟨0,0,0,0⟩
def bF(s:Stmt):Arguments:=match s with
 | .FunctionDef _ a _ _ _ _ _ _ _ _=>a
 | _=>{ posonlyargs:=[],args:=[],vararg:=none,kwonlyargs:=[],kw_defaults:=[],kwarg:=none,defaults:=[] }
def bf(s:Stmt):List Stmt:=match s with
 | .FunctionDef _ _ b _ _ _ _ _ _ _=>b
 | _=>[]
def au(s:Stmt):Scope:=match s with
 | .FunctionDef _ _ _ _ _ _ sc _ _ _=>sc
 | _=>{ kind:=.function,names:=[],isGenerator:=false,isCoroutine:=false }
abbrev CX0:CXT:=λ_ _ _ _ _ _=>False
abbrev E0:XK:=λ_ _ _=>False
theorem qp{X:Cx}:Passes CX0 X E0:=λ_ _ _ _ _ _ _ h=>h.elim
structure Fun(K:W.Frag)(x qual:Str)(st:Stmt)(f:Addr)(fd:FuncData):Prop where
 ex:∃(oc:Value) (od:xL) (kV doc pm:Value) (an:xL) (cdv ct:Value) (osl:Array (Option Value)),
  fd=W.fnOf x qual (bF st) (bf st) (au st) .none kV doc pm an cdv ct/\K.lookup f=some ⟨oc,od,.func fd,osl⟩/\W.codeIn K cdv qual=true
 kp:W.keepIn K (.ref f)=true
section
variable{P:Program}{w:World}{K:W.Frag}{mg:xC}{base:Heap}
theorem Fun.ok{x qual:Str}{st:Stmt}{f:Addr}{fd:FuncData}{N ps:List Str}{k:Nat}{sp:Sp}(F:Fun K x qual st f fd)(S:aJ N ps (au st))(len:∀vs H Q E,sp vs H Q E->vs.length=ps.length)
  (hbody:∀(cdv:Value)(A:Around)(outer:List Env)(s:Shared)(H:Hp)(vs:List V)(Q:VK)(E:XK),Room k (A.deeper (envOfC qual (au st) s.heap.objs.size f cdv))->sp vs H Q E ->
   ∃t,PSs (fu CX0 P w K mg base N qual (au st) f cdv A outer s H E).nox (bf st) t/\t { nx:=λ_ H'=>Q .non H',rt:=Q } (start N vs) H):gM P w K mg base CX0 (k+1) f fd ps sp:=by
 obtain⟨oc,od,kV,doc,pm,an,cdv,ct,osl,rfl,lk,hcd⟩:=F.ex;refine mY lk hcd S len λA outer s H vs Q E hr hsp=>?_
 obtain⟨t,h,q⟩:=hbody cdv A outer s H vs Q E hr hsp;exact⟨t,h.nox,q⟩
theorem Fun.binds{x qual:Str}{st:Stmt}{f:Addr}{fd:FuncData}{ps:List Str}(F:Fun K x qual st f fd)
  (h:∀(kV doc pm:Value)(an:xL)(cdv ct:Value)(us:xE),us.length=ps.length->bindArgs (W.fnOf x qual (bF st) (bf st) (au st) .none kV doc pm an cdv ct) ⟨us,[]⟩=pure (ps.zip us)):Binds K fd ps []:=by
 obtain⟨oc,od,kV,doc,pm,an,cdv,ct,osl,rfl,lk,hcd⟩:=F.ex;exact .all (h kV doc pm an cdv ct)
theorem lQ{x qual:Str}{st:Stmt}{f:Addr}{oc:Value}{od an:xL}{osl:Array (Option Value)}{kV doc pm cdv ct:Value}(l:K.lookup f=some ⟨oc,od,.func (W.fnOf x qual (bF st) (bf st) (au st) .none kV doc pm an cdv ct),osl⟩)
  (c:W.codeIn K cdv qual=true) (k:W.keepIn K (.ref f)=true):Fun K x qual st f (W.fnOf x qual (bF st) (bf st) (au st) .none kV doc pm an cdv ct):=⟨⟨oc,od,kV,doc,pm,an,cdv,ct,osl,rfl,l,c⟩,k⟩
end
section
variable{X:Cx}
theorem pv(i:Nat){x:Str}{pos:Pos}(hN:X.N[i]?=some x:=by rfl)(hv:Vis X.env.scope x:=by first|exact Or.inl rfl|exact Or.inr (Or.inl rfl)|exact Or.inr (Or.inr rfl))(hd:(x==("__debug__" : Str))=false:=by decide)
  (hcd:(x==("__classdict__" : Str))=false:=by decide):PE X (.Name x pos) (dI i):=Yh hN hv hd hcd
end
theorem abg{A B:Prop}(h:B):if false=true then A else B:=by
 rw[yA vE];exact h
theorem abh{A B:Prop}(h:A):if true=true then A else B:=by
 rw[zS rfl];exact h
def Same(H H':Hp):Prop:=∀b o,H b=some o->H' b=some o
theorem Same.refl(H:Hp):Same H H:=λ_ _ h=>h
theorem Same.trans{H H1 H2:Hp}(a:Same H H1)(b:Same H1 H2):Same H H2:=λc o h=>b c o (a c o h)
theorem Same.free{H H':Hp}(e:Same H H'){l:Addr}(h:H' l=Option.none):H l=Option.none:=by
 cases q:H l with
 | none=>rfl
 | some o =>
  rw[e l o q] at h;cases h
theorem Same.seq{K:W.Frag}{H H':Hp}{a:Addr}{xs:List V}(e:Same H H')(h:SqL K H a xs):SqL K H' a xs:=by
 rcases h with(h|⟨o,h⟩)|h
 ·exact .inl (.inl (e _ _ h))
 ·exact .inl (.inr ⟨o,e _ _ h⟩)
 ·exact .inr h
section
variable{κ:Type}[DecidableEq κ]
def abj(kvs:List (κ×V))(k:κ):Option V:=(kvs.find? λkv=>decide (kv.1=k)).map (·.2)
theorem abk{p:κ×V}{r:List (κ×V)}{k:κ}(e:p.1=k):abj (p::r) k=some p.2:=by simp[abj,List.find?_cons,e]
end
section
variable{P:Program}{w:World}{H:Hp}{h:Heap}{a:Addr}
theorem abl{u:HO}(ok:HOk P w H h)(e:Rd H a u):bT P w H h a u:=e.ok ok
theorem abm{kvs:List (Key×V)}(ok:HOk P w H h)(e:Rd H a (.dK kvs)):kvs.length<=sizeLine/\(a==sysModules)=false/\∃vs,KV kvs vs/\h.DictOf (rG P w) a vs :=
 show bT P w H h a (.dK kvs) from abl ok e
theorem Xx{kvs:List (Key×V)}(ok:HOk P w H h)(e:H a=some (.dK kvs)):kvs.length<=sizeLine/\(a==sysModules)=false/\∃vs,KV kvs vs/\h.DictOf (rG P w) a vs:=abm ok (.inl e)
end
section
variable{X:Cx}{pins:List (Addr×Obj)}{σ:St}{H:Hp}{s:Shared}
theorem Inv.big(I:Inv X pins σ H s):sysModules<s.heap.objs.size:=by
 have h:mainGlobals<s.heap.objs.size:=(I.mod.glob.keeps I.bk).lt;exact Nat.lt_trans (by decide) h
end
theorem Qg{P:Program}{w:World}{H:Hp}(h:Heap)(hb:sysModules<h.objs.size):bT P w H (h.push { cls:=.type "dict", data:=.dict #[] }) h.objs.size (.dK []) :=
 ⟨Nat.zero_le _,beq_eq_false_iff_ne.mpr (Ne.symm (qB hb)),[],.nil,Heap.DictOf.new h⟩
def Hg:TE:=λ_ H Q=>∀p,H p=none->Q (.ref p) (upd H p (.dK []))
section
variable{X:Cx}{pos:Pos}
theorem sY:PE X (.Dict [] [] pos) Hg:=λpins s σ H Q I h =>
 wpAny_Dict_empty ⟨.ref s.heap.objs.size,_,I.laid (a:=s.heap.objs.size) (o:=.dK []) (t':=s.toks) (λ_ _ q=>gX _ q) (uA _) (Qg s.heap I.big),rfl,h _ (I.hok.fresh (uA _))⟩
end
end L2
set_option maxHeartbeats 4000000
namespace L2
open PySem PySem.Spec PyProof.Rows
section
variable{P:Program}{w:World}{K:W.Frag}{mg:xC}{base:Heap}{CX:CXT}{x:Str}{ps:List Str}{sp:Sp}{k:Nat}
structure Def(P:Program)(w:World)(K:W.Frag)(mg:xC)(base:Heap)(CX:CXT)(k:Nat)(x:Str)(ps:List Str)(sp:Sp):Prop where
 ex:∃(f:Addr)(fd:FuncData),gM P w K mg base CX k f fd ps sp/\mg x=some (.ref f)/\W.keepIn K (.ref f)=true/\Binds K fd ps []
def HasDef(K:W.Frag)(mg:xC)(x:Str)(st:Stmt):Prop:=∃(f:Addr)(fd:FuncData),Fun K x x st f fd/\mg x=some (.ref f)
theorem HasDef.mk{st:Stmt}{f:Addr}{oc:Value}{od an:xL}{osl:Array (Option Value)}{kV doc pm cdv ct:Value}(m:mg x=some (.ref f))
  (l:K.lookup f=some ⟨oc,od,.func (W.fnOf x x (bF st) (bf st) (au st) .none kV doc pm an cdv ct),osl⟩)
  (c:W.codeIn K cdv x=true) (k:W.keepIn K (.ref f)=true):HasDef K mg x st:=⟨f,_,lQ l c k,m⟩
theorem Qh{st:Stmt}{N:List Str}(h:HasDef K mg x st)(S:aJ N ps (au st))(len:∀vs H Q E,sp vs H Q E->vs.length=ps.length)
  (hb:∀(kV doc pm:Value)(an:xL)(cdv ct:Value)(us:xE),us.length=ps.length->bindArgs (W.fnOf x x (bF st) (bf st) (au st) .none kV doc pm an cdv ct) ⟨us,[]⟩=pure (ps.zip us))
  (hbody:∀(f:Addr)(cdv:Value)(A:Around)(outer:List Env)(s:Shared)(H:Hp)(vs:List V)(Q:VK)(E:XK),Room k (A.deeper (envOfC x (au st) s.heap.objs.size f cdv))->sp vs H Q E ->
   ∃t,PSs (fu CX P w K mg base N x (au st) f cdv A outer s H E).nox (bf st) t/\t { nx:=λ_ H'=>Q .non H',rt:=Q } (start N vs) H):Def P w K mg base CX (k+1) x ps sp:=by
 obtain⟨f,fd,F,m⟩:=h;refine⟨f,fd,?_,m,F.kp,F.binds hb⟩;obtain⟨oc,od,kV,doc,pm,an,cdv,ct,osl,rfl,lk,hcd⟩:=F.ex;refine mY lk hcd S len λA outer s H vs Q E hr hsp=>?_
 obtain⟨t,h,q⟩:=hbody f cdv A outer s H vs Q E hr hsp;exact⟨t,h.nox,q⟩
end
section
variable{X:Cx}{CX:CXT}{k m:Nat}{x:Str}{ps:List Str}{sp:Sp}{E:XK}{p pos:Pos}{e:Expr}{es:List Expr}{t:TA}
theorem aK(D:Def X.prog X.w X.K X.mg X.base CX k x ps sp)(hr:Room m X.A)(ha:PA X (e::es) t)(hk:k<=m:=by decide)(hx:Passes CX X E:=by exact qp)(hg:Gl X x:=by rfl)
  (hdb:(x==("__debug__" : Str))=false:=by decide) (he:starEach (e::es) X.env=(false,eval e X.env)::starEach es X.env:=by rfl) (hpl:(backTo pos (starEach es X.env)).any (·.1)=false:=by rfl) :
  PE X (.Call (.Name x p) (e::es) [] pos) (mX sp [] E t):=by
 obtain⟨f,fd,F,hm,kp,b⟩:=D.ex;exact JG F (hr.mono hk) hg hm kp b .nil hx ha hdb he hpl
end
def Hh(mg:xC)(x:Str)(v:V):Prop:=∃u,mg x=some u/\RelV v u
theorem jy{X:Cx}{x:Str}{v:V}{pos:Pos}(h:Hh X.mg x v)(hg:Gl X x:=by rfl)(hd:(x==("__debug__" : Str))=false:=by decide):PE X (.Name x pos) (tC v) :=
 let ⟨_,e,r⟩:=h
 Vi hg e r hd
section
variable{X:Cx}{T:String}{pos:Pos}
theorem wQ{x:Str}(hg:Gl X x)(hm:X.mg x=none)(hv:bootBuiltins x=some (.type T))(hn:x ≠ "__name__":=by decide)(hd:(x==("__debug__" : Str))=false:=by decide):PE X (.Name x pos) (tC (.ty T)) :=
 Vj hg hm hv rfl hn hd
def qt(K:W.Frag)(t:Value):V->Option Bool
 | .ty T=>W.kitOne K t (.type T)
 | .ref C=>W.kitOne K t (.ref C)
 | _=>none
theorem call_isinstance:g_ X (.builtin "isinstance") (λxs H Q=>∃x c t b,xs=[x,c]/\b_ X.K H x t/\qt X.K t c=some b/\Q (.bl b) H):=by
 intro pins s σ H xs us Q I r h;obtain⟨x,c,t,b,rfl,ty,e,q⟩:=h;obtain⟨u,v,rfl,ru,rv⟩:=vals2 r;cases c with
 | ty T =>
  obtain rfl:v=Value.type T:=rv;exact wF I ru ty e λtk=>⟨.bl b,H,I.tok _,rfl,q⟩
 | ref C =>
  obtain rfl:v=Value.ref C:=rv;exact wF I ru ty e λtk=>⟨.bl b,H,I.tok _,rfl,q⟩
 | _=>cases e
end
section
variable{X:Cx}
theorem lR:∀{bs:xF} {us:xE},Vals (bs.map V.bl) us->LSm.BoolsAre us bs
 | [],_,.nil=>.nil
 | b::bs,_,.cons r t=>by
  cases (show _=Value.bool b from r);exact .cons b (lR t)
theorem Qi(hc:X.calm=true):g_ X (.builtin "all") (λxs H Q=>∃(p:Addr)(bs:xF),xs=[.ref p]/\SqL X.K H p (bs.map V.bl)/\Q (.bl (bs.all id)) H):=by
 intro pins s σ H xs us Q I r h;obtain⟨p,bs,rfl,hq,q⟩:=h;obtain⟨u,rfl,rx⟩:=vals1 r;cases rx;obtain⟨its,rv,pl,hz⟩:=I.list hq;have hb:=lR rv;have hl:=pl.isList;have hlt:p<s.heap.objs.size:=by obtain⟨_,e,_⟩:=hl;exact gS e
 refine call_all_walk (wpAny_pyIter_list hl ?_);refine⟨s.heap.objs.size,[s.heap.objs.size,p],[s.heap.objs.size],its.toArray.size,_,_,λi=>(bs[i]?).getD true,rfl,Walks.list (A:=X.A.in1) (I.ok.hd hc) _ p (qB hlt) its.toArray,
  ⟨⟨_,rV _ rfl,rfl,rfl⟩,hl.push _⟩,λi v s' Q' E' hP hQ=>?_,λh' tk hk=>?_⟩
 ·obtain⟨b,e,rfl⟩:=hb.get i v (by simpa using hP);simp only[e,Option.getD_some] at hQ;exact wpAny_truthy_bool hQ
 ·have e:((List.range its.toArray.size).all λi=>(bs[i]?).getD true)=bs.all id:=by
   rw[nB,hb.length];exact LSm.range_all bs
  rw[e];exact⟨.bl _,H,I.kept (LSm.kept_iter hk),rfl,q⟩
theorem Dc(hc:X.calm=true):g_ X (.builtin "any") (λxs H Q=>∃(p:Addr)(bs:xF),xs=[.ref p]/\SqL X.K H p (bs.map V.bl)/\Q (.bl (bs.any id)) H):=by
 intro pins s σ H xs us Q I r h;obtain⟨p,bs,rfl,hq,q⟩:=h;obtain⟨u,rfl,rx⟩:=vals1 r;cases rx;obtain⟨its,rv,pl,hz⟩:=I.list hq;have hb:=lR rv;have hl:=pl.isList;have hlt:p<s.heap.objs.size:=by obtain⟨_,e,_⟩:=hl;exact gS e
 refine call_any_walk (wpAny_pyIter_list hl ?_);refine⟨s.heap.objs.size,[s.heap.objs.size,p],[s.heap.objs.size],its.toArray.size,_,_,λi=>(bs[i]?).getD false,rfl,Walks.list (A:=X.A.in1) (I.ok.hd hc) _ p (qB hlt) its.toArray,
  ⟨⟨_,rV _ rfl,rfl,rfl⟩,hl.push _⟩,λi v s' Q' E' hP hQ=>?_,λh' tk hk=>?_⟩
 ·obtain⟨b,e,rfl⟩:=hb.get i v (by simpa using hP);simp only[e,Option.getD_some] at hQ;exact wpAny_truthy_bool hQ
 ·have e:((List.range its.toArray.size).any λi=>(bs[i]?).getD false)=bs.any id:=by
   rw[nB,hb.length];exact LSm.range_any bs
  rw[e];exact⟨.bl _,H,I.kept (LSm.kept_iter hk),rfl,q⟩
end
def cY(env:Env):List (Str×NameKind)->Option (List (Str×Addr))
 | []=>some []
 | (n,k)::r=>if k=.free then (env.cells.lookup n).bind λc=>(cY env r).map λcl=>cl++[(n,c)] else cY env r
theorem iC{env:Env}:∀{names:List (Str×NameKind)} {cl:List (Str×Addr)},cY env names=some cl->∀x c,cl.lookup x=some c->env.cells.lookup x=some c
 | [],cl,h,x,c,e=>by
  cases (oQ h);cases e
 | (n,k)::r,cl,h,x,c,e=>by
  unfold cY at h;by_cases hk:k=.free
  ·rw[zS hk] at h;cases hc:env.cells.lookup n with
   | none=>rw[hc] at h;cases h
   | some c' =>
    rw[hc] at h;have h:(cY env r).map (λcl=>cl++[(n,c')])=some cl:=h;cases hr:cY env r with
    | none=>rw[hr] at h;cases h
    | some cl' =>
     rw[hr] at h;have h:cl'++[(n,c')]=cl:=oQ h;subst h;rw[List.lookup_append] at e;cases h2:cl'.lookup x with
     | some c2 =>
      rw[h2] at e;have e:c2=c:=by simpa using e
      subst e;exact iC hr x c2 h2
     | none =>
      rw[h2] at e;have e:List.lookup x [(n,c')]=some c:=by simpa using e
      by_cases hx:x=n
      ·subst hx;have:c'=c:=by simpa using e
       subst this;exact hc
      ·have hb:(x==n)=false:=by simpa using hx
       simp[List.lookup_cons,hb] at e
  ·rw[yA hk] at h;exact iC h x c e
theorem iD{env:Env}:∀(names:List (Str×NameKind)) (acc cl:List (Str×Addr)),cY env names=some cl ->
  (forIn (m:=Sem) names acc λx c=>if x.2==NameKind.free then (do let a <- cellOf env x.1;pure (ForInStep.yield ((x.1,a)::c))) else pure (ForInStep.yield c))=pure (cl++acc)
 | [],acc,cl,h=>by
  cases (oQ h)
  rfl
 | (n,k)::r,acc,cl,h=>by
  unfold cY at h;rw[List.forIn_cons];by_cases hk:k=.free
  ·rw[zS hk] at h;cases hc:env.cells.lookup n with
   | none=>rw[hc] at h;cases h
   | some c' =>
    rw[hc] at h;have h:(cY env r).map (λcl=>cl++[(n,c')])=some cl:=h;cases hr:cY env r with
    | none=>rw[hr] at h;cases h
    | some cl' =>
     rw[hr] at h;have h:cl'++[(n,c')]=cl:=oQ h;subst h;have hb:(k==NameKind.free)=true:=by simpa using hk
     have:=iD r ((n,c')::acc) cl' hr;have ec:cellOf env n=pure c':=by unfold cellOf;rw[hc]
     simp only[hb,if_true,ec,pure_bind,bind_assoc];rw[this];simp
  ·rw[yA hk] at h;have hb:(k==NameKind.free)=false:=by simpa using hk
   have:=iD r acc cl h;simp only[hb,Bool.false_eq_true,if_false,pure_bind];exact this
theorem lH{env:Env}{scope:Scope}{cl:List (Str×Addr)}(h:cY env scope.names=some cl):closureFor scope env=pure cl:=by
 have:=iD scope.names [] cl h;rw[nX] at this;have key:closureFor scope env=(forIn (m:=Sem) scope.names ([]:List (Str×Addr)) λx c=>if x.2==NameKind.free then (do let a <- cellOf env x.1;pure (ForInStep.yield ((x.1,a)::c))) else pure (ForInStep.yield c)) >>= λcs=>pure cs:=by
  unfold closureFor
  rfl
 rw[key,this]
 rfl
theorem M8{prog:Program}{w:World}{A:Around}{R:Result->Shared->Prop}{s:Shared}{elt target iter:Expr}{ifs:List Expr}{scope:Scope}{pos:Pos}{it acc:Value}{env:Env}(I:Nat->Shared->Prop)
  (turn:∀n s,I n s->wpAny (model prog w) A (pyNext it) (λr s₁=>match r with
   | none=>R (.ok .next) s₁
   | some v=>wpAny (model prog w) A (letOwnedTupleGo target it v) (λ_ s₀=>wpAny (model prog w) A (assign target env v) (λ_ s₂ =>
     wpAny (model prog w) A (forIn ifs true λc r=>if r=true then do let ok <- isTrue c env (eval c env);pure (ForInStep.yield ok) else pure (ForInStep.yield r)) (λok s₃ =>
      if ok=true then wpAny (model prog w) A (eval elt env) (λx s₄ =>
       wpAny (model prog w) A (call (.builtin "list.append") [acc,x]) (λ_ s₅=>∃m,m<n/\I m s₅) (λ_ _=>False) s₄) (λ_ _=>False) s₃
      else ∃m,m<n/\I m s₃) (λ_ _=>False) s₂) (λ_ _=>False) s₀) (λ_ _=>False) s₁) (λ_ _=>False) s)
  (n:Nat) (h:I n s) :
  codeAny (model prog w) A (.compLoop (.ListComp elt [⟨target,iter,ifs,0⟩] scope pos) 0 it acc env) R s:=by
 refine codeAny_loop rfl I (λn s hI=>?_) n h;show wpAny _ A ((compTurn (.ListComp elt [⟨target,iter,ifs,0⟩] scope pos) 0 it acc env).onRaise (λx=>do noteFrame x env;theTreesLotGoes x)) _ _ s;refine wpAny_noted ?_;rw[compTurn_list];refine zI (wpAny_standAt (zI (nS (turn n s hI) (λr s₁ h₁=>?_) λ_ _ h'=>h'.elim)));cases r with
 | none=>exact uS h₁
 | some v =>
  refine zI (nS h₁ (λ_ s₀ h₀=>?_) λ_ _ h'=>h'.elim);refine zI (nS h₀ (λ_ s₂ h₂=>zI (nS h₂ (λok s₃ h₃=>?_) λ_ _ h'=>h'.elim)) λ_ _ h'=>h'.elim);cases ok with
  | false=>exact uS ⟨rfl,h₃⟩
  | true =>
   exact zI (zI (nS h₃ (λx s₄ h₄=>zI (nS h₄ (λ_ s₅ h₅=>uS (uS ⟨rfl,h₅⟩)) λ_ _ h'=>h'.elim)) λ_ _ h'=>h'.elim))
def cO(X:Cx)(N:List Str)(scope:Scope)(cl:List (Str×Addr))(pins:List (Addr×Obj))(s:Shared)(H:Hp)(fp:List Addr):Cx where
 prog:=X.prog
 w:=X.w
 K:=X.K
 mg:=X.mg
 base:=X.base
 A:=X.A
 N:=N
 s₀:=s
 H₀:=H
 env:=compEnvC scope cl s.heap.objs.size X.env
 outer:=X.stack
 stack:=X.stack
 ex:=fp
 fn:=λ_=>false
 calm:=X.calm
 pn:=X.pn++pins
 xe:=λ_ _=>False
def d8(nt:Nat)(fr:List Nat)(σ:St):St:=List.replicate nt none++fr.map λi=>(σ[i]?).getD none
structure eH(X:Cx)(N:List Str)(nt:Nat)(fr:List Nat)(scope:Scope)(cl:List (Str×Addr)):Prop where
 len:N.length=nt+fr.length
 free:∀(j:Nat)(i:Nat)(x:Str),fr[j]?=some i->N[nt+j]?=some x->X.N[i]?=some x/\(∃c,cl.lookup x=some c)/\(X.env.kindOf x=some .cell\/X.env.kindOf x=some .free) /\
  ((relabel scope X.env).names.lookup x=some .cell\/(relabel scope X.env).names.lookup x=some .free)
 cells:∀x c,cl.lookup x=some c->X.env.cells.lookup x=some c
 has:∀x,((relabel scope X.env).names.lookup x=some .cell\/(relabel scope X.env).names.lookup x=some .free)->∃c,cl.lookup x=some c
 kind:scope.kind=.function
theorem Dd{X:Cx}{x:Str}(h:X.env.kindOf x=some .cell\/X.env.kindOf x=some .free):Vis X.env.scope x:=by
 rcases h with h|h
 ·exact .inr (.inl h)
 ·exact .inr (.inr h)
section
variable{X:Cx}{N:List Str}{nt:Nat}{fr:List Nat}{scope:Scope}{cl:List (Str×Addr)}{pins:List (Addr×Obj)}{σ:St}{H:Hp}{s:Shared}{fp:List Addr}
theorem Vx(I:Inv X pins σ H s)(cn:eH X N nt fr scope cl)(hf:∀b∈fp,jJ X pins H b)(ho:∀b∈fp,b<s.heap.objs.size):(cO X N scope cl pins s H fp).Ok where
 mod:=I.mod
 kind:=cn.kind
 glob:=I.ok.glob
 blt:=I.ok.blt
 above:=uA _
 inj:=λx y c h1 h2=>I.ok.inj x y c (cn.cells x c h1) (cn.cells y c h2)
 has:=λx hx=>cn.has x hx
 cab:=λx c h _=>by cases (show false=true from h)
 hd:=I.ok.hd
 frames:=I.ok.frames
 stk:=.inl rfl
 exf:=λb hb=>⟨qB (ho b hb),λx c e=>(hf b hb).2.2.2.2.1 x c (cn.cells x c e)⟩
 bs:=I.bs
 bsz:=rS I.ok.bsz I.sz
 v7:=λb o e hb=>by
  rcases(hf b hb).2.2.2.1 with z|z
  ·exact I.ok.v7 b o e z
  ·exact gE (qA (gS e) (rS I.ok.bsz z)) (qE _)
 zA:=λb hb z=>(vS.mp (I.sJ b z)).elim (λe=>(hf b hb).2.1 e) λe=>(hf b hb).2.2.1 e
 jA:=I.stack
 frf:=I.mU
theorem Qj{h4:Heap}{t':Nat}(I:Inv X pins σ H s)(cn:eH X N nt fr scope cl)(hf:∀b∈fp,jJ X pins H b)(ho:∀b∈fp,b<s.heap.objs.size)
  (k:∀b o,s.heap.get? b=some o->h4.get? b=some o) (hns:∃m,h4.Ns s.heap.objs.size m):Inv (cO X N scope cl pins s H fp) [] (d8 nt fr σ) H { s with heap:=h4,toks:=t' }:=by
 have ck:∀{c:Addr} {v:Option Value},s.heap.IsCell c v->h4.IsCell c v:=λ⟨o,e,d⟩=>⟨o,k _ o e,d⟩
 refine⟨Vx I cn hf ho,rfl,I.bare,Un.kept k,?_,λx c e=>?_,?_,λx c e=>?_,λp hp=>?_,I.hok.kept k,?_⟩
 ·obtain⟨m,hm⟩:=hns;refine⟨m,hm,λi x v e1 e2 _=>?_⟩;have e2:(d8 nt fr σ)[i]?=some (some v):=e2;have e1:N[i]?=some x:=e1;unfold d8 at e2;by_cases hi:i<nt
  ·rw[List.getElem?_append_left (by simpa using hi),List.getElem?_replicate,if_pos hi] at e2;cases e2
  ·obtain⟨j,rfl⟩:∃j,i=nt+j:=⟨i-nt,by lia⟩;rw[List.getElem?_append_right (by simp),List.length_replicate,Nat.add_sub_cancel_left,List.getElem?_map] at e2;cases hj:fr[j]? with
   | none=>rw[hj] at e2;cases e2
   | some i' =>
    rw[hj] at e2;have e2:(σ[i']?).getD none=some v:=oQ e2;have e3:σ[i']?=some (some v):=by
     cases q:σ[i']? with
     | none=>rw[q] at e2;cases e2
     | some o=>rw[q] at e2;rw[show o=some v from e2]
    obtain⟨hN,⟨c,hc⟩,hk,hk'⟩:=cn.free j i' x hj e1;obtain⟨m0,_,hl⟩:=I.loc;obtain⟨u,r,l⟩:=hl i' x v hN e3 (Dd hk);refine⟨u,r,.inr ⟨hk',c,hc,?_⟩⟩;rcases l with⟨hl',_⟩|⟨_,c',hc',hcell⟩
    ·rcases hk with z|z <;> (rw[hl'] at z;cases z)
    ·have hcc:=cn.cells x c hc;rw[hc'] at hcc;cases hcc;exact ck hcell
 ·obtain⟨v,hv⟩:=I.cell x c (cn.cells x c e);exact⟨v,ck hv⟩
 ·exact I.hok.fresh (uA _)
 ·exact I.fG x c (cn.cells x c e)
 ·have hp:p∈(X.pn++pins)++[]:=hp;rw[nX] at hp;obtain⟨e,n,ne,nf,d⟩:=I.pin p hp;exact⟨k p.1 p.2 e,n,qB (gS e),λz=>(vS.mp (I.sJ p.1 z)).elim ne nf,d⟩
 ·show (d8 nt fr σ).length=N.length;unfold d8;rw[cn.len,yB,mE,wE]
theorem comp_back{H':Hp}{s1 s':Shared}{h':Heap}{σ':St}(I:Inv X pins σ H s)(hsz:s.heap.objs.size<=s1.heap.objs.size)(hos:s1.os=s.os){H1:Hp}(hH:Un (frs X.stack) fp H H1 s.heap s1.heap)
  (hf:∀b∈fp,jJ X pins H b)
  (J:Inv (cO X N scope cl pins s1 H1 fp) [] σ' H' s') (sb:Heap.SameBut s1.heap.objs.size s'.heap h'):Inv X pins σ H' { s' with heap:=h' }:=by
 have u:Un (frs X.stack) fp H H' s.heap s'.heap:=hH.trans J.base;have lt:∀b o,s.heap.get? b=some o->b≠s1.heap.objs.size:=λb o e=>qB (qA (gS e) hsz)
 have kk:∀b o,b≠s1.heap.objs.size->s'.heap.get? b=some o->h'.get? b=some o:=λb o hb e=>sb.extBut b o hb e
 have u':Un (frs X.stack) fp H H' s.heap h':=⟨λb o e n hb hx=>kk b o (lt b o e) (u.keep b o e n hb hx),λb o e n hb hx=>let ⟨sl,z⟩:=u.slot b o e n hb hx;⟨sl,kk b _ (lt b o e) z⟩,u.free,
  λb o e hx=>let ⟨o',z⟩:=u.there b o e hx;⟨o',kk b o' (lt b o e) z⟩,u.tups,u.jE,u.jF⟩
 have nC:H' s1.heap.objs.size=none:=J.free;refine I.call' (s':={ s' with heap:=h' }) (ch:=fp) (J.os.trans hos) u' (λa o e=>?_) J.bare λb hb=>⟨(hf b hb).2.2.2.1,(hf b hb).2.1,(hf b hb).2.2.2.2.1,(hf b hb).2.2.2.2.2⟩
 refine(J.hok a o e).stay (λb v hb q=>kk b v ?_ q) (λ_ q=>q) λ_ _ q=>q
 rcases hb with z|z
 ·rintro rfl;rw[<- z,nC] at e;cases e
 ·rintro rfl;rw[nC] at z;cases z
end
def wR(X:Cx)(N:List Str)(nt:Nat)(scope:Scope):List Nat->Nat->Bool
 | [],_=>true
 | i::r,j=>(match N[nt+j]? with
  | some x=>decide (X.N[i]?=some x) && decide (scope.names.lookup x=some .free) && (decide (X.env.kindOf x=some .cell) || decide (X.env.kindOf x=some .free))
  | none=>false) && wR X N nt scope r (j+1)
theorem Df{X:Cx}{N:List Str}{nt:Nat}{scope:Scope}:∀{fr:List Nat} {k:Nat},wR X N nt scope fr k=true->∀(j i:Nat)(x:Str),fr[j]?=some i->N[nt+(k+j)]?=some x ->
  X.N[i]?=some x/\scope.names.lookup x=some .free/\(X.env.kindOf x=some .cell\/X.env.kindOf x=some .free)
 | [],_,_,j,i,x,e,_=>by simp at e
 | i0::r,k,h,j,i,x,e1,e2=>by
  unfold wR at h;rw[Bool.and_eq_true] at h;obtain⟨h1,h2⟩:=h;cases j with
  | zero =>
   have e1:i0=i:=by simpa using e1
   subst e1;rw[Nat.add_zero] at e2;rw[e2] at h1;simp only[Bool.and_eq_true,Bool.or_eq_true,decide_eq_true_eq] at h1;exact⟨h1.1.1,h1.1.2,h1.2⟩
  | succ j =>
   exact Df h2 j i x (by simpa using e1) (by rw[show nt+(k+1+j)=nt+(k+(j+1)) by lia];exact e2)
theorem gO{env:Env}:∀{names:List (Str×NameKind)} {x:Str} {k':NameKind},
  (names.map λ(n,k)=>if (k==NameKind.free && env.scope.kind==.function && env.kindOf n==some .cell) then (n,NameKind.cell) else (n,k)).lookup x=some k' ->
  ∃k,names.lookup x=some k/\(k=k'\/(k=.free/\k'=.cell))
 | [],_,_,h=>by simp at h
 | (n,k)::r,x,k',h=>by
  have h:List.lookup x ((if (k==NameKind.free && env.scope.kind==.function && env.kindOf n==some .cell)=true then (n,NameKind.cell) else (n,k))::r.map _)=some k':=h;cases hx:x==n with
  | true =>
   by_cases hc:(k==NameKind.free && env.scope.kind==.function && env.kindOf n==some .cell)=true
   ·rw[zS hc] at h;simp only[List.lookup_cons,hx] at h;have hk:k=.free:=by
     simp only[Bool.and_eq_true,beq_iff_eq] at hc;exact hc.1.1
    exact⟨k,by simp[List.lookup_cons,hx],.inr ⟨hk,(Option.some.inj h).symm⟩⟩
   ·rw[yA hc] at h;simp only[List.lookup_cons,hx] at h;exact⟨k,by simp[List.lookup_cons,hx],.inl (Option.some.inj h)⟩
  | false =>
   have h2:List.lookup x (r.map λ(n,k)=>if (k==NameKind.free && env.scope.kind==.function && env.kindOf n==some .cell) then (n,NameKind.cell) else (n,k))=some k':=by
    by_cases hc:(k==NameKind.free && env.scope.kind==.function && env.kindOf n==some .cell)=true
    ·rw[if_pos hc] at h;simpa only[List.lookup_cons,hx] using h
    ·rw[if_neg hc] at h;simpa only[List.lookup_cons,hx] using h
   obtain⟨k2,e2,o2⟩:=gO h2;exact⟨k2,by simp only[List.lookup_cons,hx];exact e2,o2⟩
theorem m7{env:Env}:∀{names:List (Str×NameKind)} {x:Str},names.lookup x=some .free ->
  (names.map λ(n,k)=>if (k==NameKind.free && env.scope.kind==.function && env.kindOf n==some .cell) then (n,NameKind.cell) else (n,k)).lookup x=some .cell \/
  (names.map λ(n,k)=>if (k==NameKind.free && env.scope.kind==.function && env.kindOf n==some .cell) then (n,NameKind.cell) else (n,k)).lookup x=some .free
 | [],_,h=>by simp at h
 | (n,k)::r,x,h=>by
  show List.lookup x ((if (k==NameKind.free && env.scope.kind==.function && env.kindOf n==some .cell)=true then (n,NameKind.cell) else (n,k))::r.map _)=some .cell\/List.lookup x ((if (k==NameKind.free && env.scope.kind==.function && env.kindOf n==some .cell)=true then (n,NameKind.cell) else (n,k))::r.map _)=some .free;cases hx:x==n with
  | true =>
   simp only[List.lookup_cons,hx] at h;cases h;by_cases hc:(NameKind.free==NameKind.free && env.scope.kind==.function && env.kindOf n==some .cell)=true
   ·rw[if_pos hc];left;simp[List.lookup_cons,hx]
   ·rw[if_neg hc];right;simp[List.lookup_cons,hx]
  | false =>
   simp only[List.lookup_cons,hx] at h;have ih:=m7 (env:=env) h;by_cases hc:(k==NameKind.free && env.scope.kind==.function && env.kindOf n==some .cell)=true
   ·rw[if_pos hc];simpa only[List.lookup_cons,hx] using ih
   ·rw[if_neg hc];simpa only[List.lookup_cons,hx] using ih
theorem jh{env:Env}:∀{names:List (Str×NameKind)} {cl:List (Str×Addr)},cY env names=some cl->∀x,names.lookup x=some .free->∃c,cl.lookup x=some c
 | [],_,_,x,e=>by simp at e
 | (n,k)::r,cl,h,x,e=>by
  unfold cY at h;by_cases hk:k=.free
  ·rw[zS hk] at h;cases hc:env.cells.lookup n with
   | none=>rw[hc] at h;cases h
   | some c' =>
    rw[hc] at h;have h:(cY env r).map (λcl=>cl++[(n,c')])=some cl:=h;cases hr:cY env r with
    | none=>rw[hr] at h;cases h
    | some cl' =>
     rw[hr] at h;have h:cl'++[(n,c')]=cl:=oQ h;subst h;rw[List.lookup_append];cases h2:cl'.lookup x with
     | some c2=>exact⟨c2,by simp⟩
     | none =>
      cases hx:x==n with
      | true=>exact⟨c',by simp[List.lookup_cons,hx]⟩
      | false =>
       simp only[List.lookup_cons,hx] at e;obtain⟨c3,e3⟩:=jh hr x e;rw[h2] at e3;cases e3
  ·rw[yA hk] at h;cases hx:x==n with
   | true =>
    simp only[List.lookup_cons,hx] at e;exact gE (oQ e) hk
   | false =>
    simp only[List.lookup_cons,hx] at e;exact jh h x e
theorem eH.of{X:Cx}{N:List Str}{nt:Nat}{fr:List Nat}{scope:Scope}{cl:List (Str×Addr)}(hcl:cY X.env scope.names=some cl)(hlen:N.length=nt+fr.length)(hB:wR X N nt scope fr 0=true)
  (hcell:∀y∈scope.names,y.2≠.cell) (hkind:scope.kind=.function):eH X N nt fr scope cl where
 len:=hlen
 free:=λj i x e1 e2=>by
  obtain⟨h1,h2,h3⟩:=Df hB j i x e1 (by rw[Nat.zero_add];exact e2);exact⟨h1,jh hcl x h2,h3,m7 h2⟩
 cells:=iC hcl
 has:=λx hx=>by
  have:scope.names.lookup x=some .free:=by
   rcases hx with hx|hx
   ·obtain⟨k,e,o⟩:=gO (names:=scope.names) (env:=X.env) hx;rcases o with rfl|⟨rfl,_⟩
    ·exact gE rfl (hcell _ (PySem.mem_of_lookup e))
    ·exact e
   ·obtain⟨k,e,o⟩:=gO (names:=scope.names) (env:=X.env) hx;rcases o with rfl|⟨rfl,_⟩
    ·exact e
    ·exact e
  exact jh hcl x this
 kind:=hkind
def PIf(X:Cx)(ifs:List Expr)(t:TT):Prop :=
 ∀(pins:List (Addr×Obj)) (s:Shared) (σ:St) (H:Hp) (Q:Bool->Hp->Prop),Inv X pins σ H s->t σ H Q ->
  wpAny (model X.prog X.w) X.A (forIn ifs true λc r=>if r=true then do let ok <- isTrue c X.env (eval c X.env);pure (ForInStep.yield ok) else pure (ForInStep.yield r)) (TP X pins σ Q) X.xe s
def JL:TT:=λ_ H Q=>Q true H
theorem zM{X:Cx}:PIf X [] JL:=λ_ _ _ H _ I h=>uS ⟨H,I,h⟩
theorem dW{X:Cx}{c:Expr}{t:TT}(h:PT X c t):PIf X [c] t:=by
 intro pins s σ H Q I hw;rw[List.forIn_cons];simp only[if_true];refine zI (zI (thn (h pins s σ H Q I hw) λb s1 q=>uS ?_));exact uS q
def m9(J:It)(nt:Nat)(fr:List Nat)(g:TG)(c:TT)(te:TE)(σ:St)(H1:Hp)(Q:VK)(acc:Addr):Prop :=
 ∃W:Nat->Nat->St->List V->Hp->Prop,(∃m,W 0 m (d8 nt fr σ) [] (upd H1 acc (.lst [])))/\∀i m σ' ys H',W i m σ' ys H'->H' acc=some (.lst ys) /\
  ((J.stop i H'/\Q (.ref acc) H')\/(J.go i H'/\∀x H2,J.yld i H' x H2->g x σ' H2 λσ2 H3=>c σ2 H3 λb H4=>if b=true then
   te σ2 H4 λy H5=>ys.length<sizeLine/\H5 acc=some (.lst ys)/\∃m',m'<m/\W (i+1) m' σ2 (ys++[y]) (upd H5 acc (.lst (ys++[y])))
   else ∃m',m'<m/\W (i+1) m' σ2 ys H4))
def Dg(wi:TI)(nt:Nat)(fr:List Nat)(g:TG)(c:TT)(te:TE):TE:=λσ H Q=>wi σ H λJ H1=>∀acc,H1 acc=none->m9 J nt fr g c te σ H1 Q acc
section
variable{X:Cx}{target iter elt:Expr}{ifs:List Expr}{scope:Scope}{pos:Pos}{N:List Str}{nt:Nat}{fr:List Nat}{cl:List (Str×Addr)}{wi:TI}{g:TG}{c:TT}{te:TE}
theorem Vy{pins:List (Addr×Obj)}{σ:St}{H H1:Hp}{s:Shared}{fp:List Addr}(I:Inv X pins σ H s)(cn:eH X N nt fr scope cl)(hf:∀b∈fp,jJ X pins H b)(ho:∀b∈fp,b<s.heap.objs.size){H':Hp}(hn:∀b∈fp,H' b=none) :
  ∀b∈fp,jJ (cO X N scope cl pins s H1 fp) [] H' b:=λb hb =>
 ⟨hn b hb,qB (ho b hb),λz=>(vS.mp (I.sJ b z)).elim (hf b hb).2.1 (hf b hb).2.2.1,.inl hb,λx c e=>(hf b hb).2.2.2.2.1 x c (cn.cells x c e),λp hp=>(hf b hb).2.2.2.2.2 p (by
  have hp:p∈(X.pn++pins)++[]:=hp;rw[nX] at hp;exact hp)⟩
theorem sZ{pins:List (Addr×Obj)}{σ:St}{s:Shared}{Q:VK}{itv:Value}{RR:Value->Addr->Result->Shared->Prop}{E:xB}
  (hc:X.calm=true) (cn:eH X N nt fr scope cl) (hcell:∀y∈scope.names,y.2≠.cell)
  (hg:∀pins s H fp,PG (cO X N scope cl pins s H fp) target g) (hif:∀pins s H fp,PIf (cO X N scope cl pins s H fp) ifs c) (he:∀pins s H fp,PE (cO X N scope cl pins s H fp) elt te)
  (h:PIE X pins σ target (λJ H1=>∀acc,H1 acc=none->m9 J nt fr g c te σ H1 Q acc) itv s)
  (hRR:∀(acc C:Addr)(s':Shared)(H':Hp),(∃m,s'.heap.Ns C m)->Inv X pins σ H' s'->jJ X pins H' C->Q (.ref acc) H'->RR (.ref acc) C (.ok .next) s') :
  wpAny (model X.prog X.w) X.A (newList []) (λacc s₃=>wpAny (model X.prog X.w) X.A (newFunctionEnv scope X.env.globals cl [] X.env.qual none .none (some X.env)) (λcenv s₄ =>
   codeAny (model X.prog X.w) X.A (.compStart (.ListComp elt [⟨target,iter,ifs,0⟩] scope pos) 0 itv acc { cenv with scope:=relabel scope X.env }) (RR acc cenv.locals) s₄) E s₃) E s:=by
 obtain⟨it,fp,tn,J,H2,e,I2,T,st2,f2,R⟩:=h;subst e;have fo:∀b∈fp,b<s.heap.objs.size:=λb hb=>let ⟨o,e,_⟩:=T.obj 0 _ st2 b hb;gS e
 refine wpAny_newObj_type (wpAny_newFunctionEnv hcell (by intro y hy;simp at hy) (λh₁ hns₁ hsb₁=>?_) cn.kind);dsimp only at hns₁ hsb₁ ⊢;have ha:H2 s.heap.objs.size=none:=I2.hok.fresh (uA _);have I3:Inv X pins σ (upd H2 s.heap.objs.size (.lst [])) { s with heap:=s.heap.push { cls:=.type "list", data:=.seq ([]:xE).toArray } } :=
  I2.laid (t':=s.toks) (λb u e=>gX _ e) (uA _) ⟨Nat.zero_le _,[],0,.nil,rV _ rfl⟩
 generalize hs3:({ s with heap:=s.heap.push { cls:=.type "list", data:=.seq ([]:xE).toArray } }:Shared)=s3 at I3
 have hh3:s3.heap=s.heap.push { cls:=.type "list", data:=.seq ([]:xE).toArray }:=by rw[<- hs3]
 have hsz:s3.heap.objs.size=s.heap.objs.size+1:=by rw[hh3,Heap.size_push]
 have fne:∀b∈fp,b≠s.heap.objs.size:=λb hb=>qB (fo b hb)
 have f3:∀b∈fp,jJ X pins (upd H2 s.heap.objs.size (.lst [])) b:=λb hb=>⟨by rw[aX (fne b hb)];exact(f2 b hb).1,(f2 b hb).2⟩
 have fo3:∀b∈fp,b<s3.heap.objs.size:=λb hb=>by rw[hsz];exact oS (fo b hb)
 have k3:∀b o,s3.heap.get? b=some o->h₁.get? b=some o:=λb o e=>hsb₁.extBut b o (by rw[<- hh3];exact qB (gS e)) (by rw[<- hh3];exact gX _ e)
 have hns:∃m,h₁.Ns s3.heap.objs.size m:=⟨_,by rw[hh3];exact hns₁⟩;have I4:Inv (cO X N scope cl pins s3 (upd H2 s.heap.objs.size (.lst [])) fp) [] (d8 nt fr σ) (upd H2 s.heap.objs.size (.lst [])) { s3 with heap:=h₁,toks:=s3.toks+([]:List (Str×Value)).length }:=Qj I3 cn f3 fo3 k3 hns
 have st4:tn 0 h₁:=T.keep 0 _ _ st2 λb hb o e=>k3 b o (by rw[hh3];exact gX _ e)
 obtain⟨W,⟨m0,w0⟩,turn⟩:=R s.heap.objs.size ha;have stat:∀{H':Hp},(∀b∈fp,H' b=none)->∀b∈fp,jJ (cO X N scope cl pins s3 (upd H2 s.heap.objs.size (.lst [])) fp) [] H' b:=λhn=>Vy I3 cn f3 fo3 hn
 have hH:Un (frs X.stack) fp H2 (upd H2 s.heap.objs.size (.lst [])) s.heap s3.heap:=by
  rw[hh3];exact Un.laid (λb u e=>gX _ e) (uA _) ha
 have back:∀{σ':St} {H':Hp} {s':Shared} {h':Heap},Inv (cO X N scope cl pins s3 (upd H2 s.heap.objs.size (.lst [])) fp) [] σ' H' s'->Heap.SameBut s3.heap.objs.size s'.heap h'->Inv X pins σ H' { s' with heap:=h' }:=λJ' sb =>
  comp_back I2 (by rw[hsz];exact Nat.le_succ _) (by rw[<- hs3]) hH f2 J' sb
 have loop:codeAny (model X.prog X.w) X.A (.compLoop (.ListComp elt [⟨target,iter,ifs,0⟩] scope pos) 0 (.ref it) (.ref s.heap.objs.size) (compEnvC scope cl s3.heap.objs.size X.env)) (RR (.ref s.heap.objs.size) s3.heap.objs.size)
   { s3 with heap:=h₁,toks:=s3.toks+([]:List (Str×Value)).length }:=by
  refine M8 (λn s'=>∃i σ' ys H',Inv (cO X N scope cl pins s3 (upd H2 s.heap.objs.size (.lst [])) fp) [] σ' H' s'/\tn i s'.heap/\(∀b∈fp,H' b=none)/\W i n σ' ys H') ?_ m0
   ⟨0,_,[],_,I4,st4,λb hb=>(f3 b hb).1,w0⟩
  rintro n s5 ⟨i,σ5,ys,H5,I5,st5,fr5,w5⟩;obtain⟨hacc,step⟩:=turn i n σ5 ys H5 w5;rcases step with⟨stop,q⟩|⟨go,step⟩
  ·refine thn (T.done (cO X N scope cl pins s3 (upd H2 s.heap.objs.size (.lst [])) fp) rfl rfl rfl hc i [] s5 σ5 H5 (λ_ _=>False) I5 (stat fr5) st5 stop) λr s6 ⟨hr,I6⟩=>?_
   subst hr;obtain⟨m,hm,_⟩:=I6.loc;exact hRR _ _ s6 H5 ⟨m,hm⟩ (back I6 (Heap.SameBut.refl _ _)) (I2.Pu (by rw[hsz];exact Nat.le_succ _) I6.free) q
  ·refine thn (T.item (cO X N scope cl pins s3 (upd H2 s.heap.objs.size (.lst [])) fp) rfl rfl rfl hc i [] s5 σ5 H5 (λ_ _=>False) I5 (stat fr5) st5 go) λr s6 ⟨u,hr,h6⟩=>?_
   subst hr;refine thn h6 λ_ s7 ⟨x,H7,I7,r7,y7,st7,fr7⟩=>?_
   have I7':=I7.pinned (stat fr7) (T.obj _ _ st7);refine thn (hg pins s3 _ fp _ s7 σ5 H7 x u _ I7' r7 (step x H7 y7)) λ_ s8 ⟨σ8,H8,I8,q8⟩=>?_
   have JM:∀{σ':St} {H':Hp} {s':Shared},Inv (cO X N scope cl pins s3 (upd H2 s.heap.objs.size (.lst [])) fp) ([]++oO fp s7.heap) σ' H' s'->tn (i+1) s'.heap/\∀b∈fp,H' b=none:=λ{σ' H' s'} I' =>
    ⟨T.keep _ _ _ st7 λb hb o e=>(I'.pin (b,o) (uC _ (uC _ (gJ hb e)))).1,λb hb=>by
     obtain⟨o,e,d⟩:=T.obj _ _ st7 b hb;exact(I'.pin (b,o) (uC _ (uC _ (gJ hb e)))).2.1⟩
   refine thn (hif pins s3 _ fp _ s8 σ8 H8 _ I8 q8) λok s9 ⟨H9,I9,q9⟩=>?_
   cases ok with
   | false =>
    have q9:∃m',m'<n/\W (i+1) m' σ8 ys H9:=q9;obtain⟨m',hm,w9⟩:=q9;exact⟨m',hm,i+1,σ8,ys,H9,I9.f9,(JM I9).1,(JM I9).2,w9⟩
   | true =>
    rw[zS rfl];refine thn (he pins s3 _ fp _ s9 σ8 H9 _ I9 q9) λz s10 ⟨y,H10,I10,r10,hz,aef,m',hm,w10⟩=>?_
    refine thn (wN _ s10 σ8 H10 (.ref s.heap.objs.size) [y] (.ref s.heap.objs.size) [z] (λv H'=>v=.non/\H'=upd H10 s.heap.objs.size (.lst (ys++[y]))) I10 rfl (.cons r10 .nil) ⟨_,ys,y,rfl,rfl,aef,hz,rfl,rfl⟩) λv s11 ⟨_,H11,I11,_,_,e11⟩=>?_
    subst e11;exact⟨m',hm,i+1,σ8,ys++[y],_,I11.f9,(JM I11).1,(JM I11).2,w10⟩
 have fin:codeAny (model X.prog X.w) X.A (.compStart (.ListComp elt [⟨target,iter,ifs,0⟩] scope pos) 0 (.ref it) (.ref s.heap.objs.size) (compEnvC scope cl s3.heap.objs.size X.env)) (RR (.ref s.heap.objs.size) s3.heap.objs.size)
   { s3 with heap:=h₁,toks:=s3.toks+([]:List (Str×Value)).length } :=
  codeAny_compStart_list loop (T.self _ 0 _ _ _ st4 loop)
 rw[<- hs3] at fin;exact fin
theorem ji(hi:PI X target iter wi)(hg:∀pins s H fp,PG (cO X N scope cl pins s H fp) target g)(hif:∀pins s H fp,PIf (cO X N scope cl pins s H fp) ifs c)(he:∀pins s H fp,PE (cO X N scope cl pins s H fp) elt te)
  (hc:X.calm=true:=by rfl) (hcl:cY X.env scope.names=some cl:=by rfl) (hlen:N.length=nt+fr.length:=by rfl) (hB:wR X N nt scope fr 0=true:=by rfl)
  (hcell:∀y∈scope.names,y.2≠.cell:=by decide +kernel) (hkind:scope.kind=.function:=by rfl) (hnames:∀y∈scope.names,y.2=.local->scope.names.lookup y.1=some .local:=by decide +kernel)
  (hs:∀x,foldedSetIterable iter X.env x=pure x:=by intro _;rfl):PE X (.ListComp elt [⟨target,iter,ifs,0⟩] scope pos) (Dg wi nt fr g c te):=by
 intro pins s σ H Q I h;rw[eval_ListComp];refine wpAny_comprehension_free (use:=none) rfl hs (lH hcl) hkind hnames (thn (hi pins s σ H _ I h) λxv s1 h1=>thn h1 λitv s2 h2=>?_);exact sZ hc (eH.of hcl hlen hB hcell hkind) hcell hg hif he h2 λacc C s' H' ⟨m,hm⟩ hI hF hq=>⟨m,hm,λh' sb=>⟨.ref acc,H',hI.turned (t':=s'.toks) (λb o hb e=>sb.extBut b o hb e) hF.1 hF.2.1 hF.2.2.2.1 hF.2.2.2.2.1 hF.2.2.2.2.2,rfl,hq⟩⟩
theorem iu{i:Nat}{y:Str}{py spos:Pos}(hN:X.N.Nodup)(hyi:X.N[i]?=some y)(hy:Loc X.env.scope y)(hi:PI X target iter wi)(hg:∀pins s H fp,PG (cO X N scope cl pins s H fp) target g)(hif:∀pins s H fp,PIf (cO X N scope cl pins s H fp) ifs c)(he:∀pins s H fp,PE (cO X N scope cl pins s H fp) elt te)
  (hsw:swapsWith (.ListComp elt [⟨target,iter,ifs,0⟩] scope pos) (some (.Name y py)) spos.line X.env=pure true:=by rfl)
  (hc:X.calm=true:=by rfl) (hcl:cY X.env scope.names=some cl:=by rfl) (hlen:N.length=nt+fr.length:=by rfl) (hB:wR X N nt scope fr 0=true:=by rfl)
  (hcell:∀y∈scope.names,y.2≠.cell:=by decide +kernel) (hkind:scope.kind=.function:=by rfl) (hnames:∀y∈scope.names,y.2=.local->scope.names.lookup y.1=some .local:=by decide +kernel)
  (hs:∀x,foldedSetIterable iter X.env x=pure x:=by intro _;rfl) (hf:X.fn y=true\/X.env.scope.names.lookup y=some .local:=by first|exact .inl rfl|exact .inr rfl|assumption) :
  PS X (.Assign [.Name y py] (.ListComp elt [⟨target,iter,ifs,0⟩] scope pos) spos) (GZ (Dg wi nt fr g c te) (bR i)):=by
 intro pins s σ H D I h;rw[exec_Assign_Name_used _ _ _ _ hsw];refine zI (wpAny_standAt (zI ?_));show wpAny _ X.A (do let _ <- comprehension (.ListComp elt [⟨target,iter,ifs,0⟩] scope pos) scope X.env _ (newList []) false (eval iter X.env) (some (assign (.Name y py) X.env))) _ _ s;refine zI (nS (wpAny_comprehension_free (use:=some (assign (.Name y py) X.env)) (Q:=λ_ s'=>SP X pins D .next s') rfl hs (lH hcl) hkind hnames (thn (hi pins s σ H _ I h) λxv s1 h1=>thn h1 λitv s2 h2=>?_)) (λ_ s' hq=>uS (uS hq)) λ_ _ e=>e);refine sZ (Q:=λx H1=>bR i x σ H1 D.nx) (RR:=λacc C=>compPost (model X.prog X.w) X.A X.xe (some (assign (.Name y py) X.env)) (λ_ s'=>SP X pins D .next s') acc C) hc (eH.of hcl hlen hB hcell hkind) hcell hg hif he h2 λacc C s' H' ⟨m,hm⟩ hI hF hq=>?_
 show wpAny _ X.A (assign (.Name y py) X.env (.ref acc)) _ _ _;refine wpAny_assign_Name (wA hI hN hyi hy (v:=.ref acc) rfl (λs3 I3 ⟨a,sb,ha⟩=>?_) hf);have hne:C≠a:=by
  rcases ha with rfl|ha
  ·exact hF.2.1
  ·exact λz=>hF.2.2.2.2.1 y a ha z.symm
 refine⟨m,hm.sameBut sb hne,λh' sb'=>⟨_,H',I3.turned (t':=s3.toks) (λb o hb e=>sb'.extBut b o hb e) hF.1 hF.2.1 hF.2.2.2.1 hF.2.2.2.2.1 hF.2.2.2.2.2,hq⟩⟩
end
structure ItemsOf(J:It)(xs:List V)(L:Hp->Prop):Prop where
 go:∀i H,L H->i<xs.length->J.go i H
 yld:∀i H x H',L H->i<xs.length->J.yld i H x H'->H'=H/\xs[i]?=some x
 stop:∀H,L H->J.stop xs.length H
theorem d9{K:W.Frag}{a:Addr}{xs:List V}:ItemsOf (Itl K a) xs (λH=>SqL K H a xs) :=
 ⟨λi H h hi=>⟨xs,xs[i],h,by simp[hi]⟩,λi H x H' h hi y=>⟨y.1,y.2 xs h⟩,λH h=>⟨xs,h,Nat.le_refl _⟩⟩
def aeg(lo:Int)(n:Nat):List V:=(List.range n).map λi:Nat=>V.int (lo+(i:Int))
def aeh(z:Str):List V:=z.cps.toList.map λc=>V.str ⟨#[c]⟩
def lJ(xs:List V)(nt:Nat)(fvs:St)(Pv:Nat->List V->Hp->Prop):Nat->Nat->St->List V->Hp->Prop:=λi m σ' ys H' =>
 m=xs.length-i/\i<=xs.length/\Pv i ys H'/\∃tv:List (Option V),tv.length=nt/\σ'=tv++fvs
theorem lJ.next{xs:List V}{nt:Nat}{fvs:St}{Pv:Nat->List V->Hp->Prop}{i:Nat}{tv:List (Option V)}{ys:List V}{H:Hp}(hi:i<xs.length)(p:Pv (i+1) ys H)(ht:tv.length=nt) :
  ∃m',m'<xs.length-i/\lJ xs nt fvs Pv (i+1) m' (tv++fvs) ys H:=⟨xs.length-(i+1),by lia,rfl,hi,p,tv,ht,rfl⟩
theorem zN{J:It}{xs:List V}{L:Hp->Prop}{σ:St}{H1:Hp}{nt:Nat}{fr:List Nat}{g:TG}{c:TT}{te:TE}{Q:VK}{acc:Addr}(it:ItemsOf J xs L)(Pv:Nat->List V->Hp->Prop)
  (h0:Pv 0 [] (upd H1 acc (.lst []))) (hL:∀i ys H',i<=xs.length->Pv i ys H'->L H'/\H' acc=some (.lst ys))
  (turn:∀i x tv ys H',xs[i]?=some x->i<xs.length->Pv i ys H'->tv.length=nt->g x (tv++fr.map λi=>(σ[i]?).getD none) H' λσ2 H3 =>
   c σ2 H3 λb H4=>if b=true then te σ2 H4 λy H5=>ys.length<sizeLine/\H5 acc=some (.lst ys)/\∃m',m'<xs.length-i/\lJ xs nt (fr.map λi=>(σ[i]?).getD none) Pv (i+1) m' σ2 (ys++[y]) (upd H5 acc (.lst (ys++[y])))
    else ∃m',m'<xs.length-i/\lJ xs nt (fr.map λi=>(σ[i]?).getD none) Pv (i+1) m' σ2 ys H4)
  (hd:∀ys H',Pv xs.length ys H'->Q (.ref acc) H'):m9 J nt fr g c te σ H1 Q acc:=by
 refine⟨lJ xs nt (fr.map λi=>(σ[i]?).getD none) Pv,⟨xs.length,by simp,Nat.zero_le _,h0,List.replicate nt none,by simp,rfl⟩,?_⟩;rintro i m σ' ys H' ⟨rfl,hi,p,tv,htv,rfl⟩;obtain⟨l,ha⟩:=hL i ys H' hi p;refine⟨ha,?_⟩;by_cases hlt:i<xs.length
 ·refine .inr ⟨it.go i H' l hlt,λx H2 y=>?_⟩;obtain⟨rfl,hx⟩:=it.yld i H' x H2 l hlt y;exact turn i x tv ys H2 hx hlt p htv
 ·have e:i=xs.length:=by lia
  subst e;exact .inl ⟨it.stop H' l,hd ys H' p⟩
end L2
namespace L2
open PySem PySem.Spec PyProof.Rows PySem.SeqAt
inductive Dt where
 | non|bl (b:Bool)|int (i:Int)|str (x:Str)|lst (xs:List Dt)|tup (xs:List Dt)
mutual
def Rep(K:W.Frag)(H:Hp):Dt->V->Prop
 | .non,v=>v=.non
 | .bl b,v=>v=.bl b
 | .int i,v=>v=.int i
 | .str x,v=>v=.str x
 | .lst ds,v=>∃p xs,v=.ref p/\SqL K H p xs/\cG K H ds xs
 | .tup ds,v=>∃p xs,v=.ref p/\SqT K H p xs/\cG K H ds xs
def cG(K:W.Frag)(H:Hp):List Dt->List V->Prop
 | [],xs=>xs=[]
 | d::ds,xs=>∃x r,xs=x::r/\Rep K H d x/\cG K H ds r
end
mutual
def fB:Dt->Dt->Bool
 | .non,.non=>true
 | .bl a,.bl b=>a==b
 | .bl a,.int b=>(if a then 1 else 0)==b
 | .int a,.bl b=>a==(if b then 1 else 0)
 | .int a,.int b=>a==b
 | .str a,.str b=>a==b
 | .lst xs,.lst ys=>eN xs ys
 | .tup xs,.tup ys=>eN xs ys
 | _,_=>false
def eN:List Dt->List Dt->Bool
 | [],[]=>true
 | x::xs,y::ys=>fB x y && eN xs ys
 | _,_=>false
end
mutual
def gA:Dt->Nat
 | .lst xs=>eO xs+1
 | .tup xs=>eO xs+1
 | _=>0
def eO:List Dt->Nat
 | []=>0
 | x::xs=>max (gA x) (eO xs)
end
theorem cG.length{K:W.Frag}{H:Hp}:∀{ds:List Dt} {xs:List V},cG K H ds xs->ds.length=xs.length
 | [],xs,h=>by rw[show xs=[] from by simpa[cG] using h];rfl
 | d::ds,xs,h=>by
  obtain⟨x,r,rfl,_,h2⟩:∃x r,xs=x::r/\Rep K H d x/\cG K H ds r:=by simpa[cG] using h
  simp[cG.length h2]
theorem cG.get{K:W.Frag}{H:Hp}:∀{ds:List Dt} {xs:List V} {j:Nat} {d:Dt},cG K H ds xs->ds[j]?=some d->∃x,xs[j]?=some x/\Rep K H d x
 | [],_,_,_,_,e=>by simp at e
 | d0::ds,xs,j,d,h,e=>by
  obtain⟨x,r,rfl,h1,h2⟩:∃x r,xs=x::r/\Rep K H d0 x/\cG K H ds r:=by simpa[cG] using h
  cases j with
  | zero =>
   have e:d0=d:=by simpa using e
   subst e;exact⟨x,rfl,h1⟩
  | succ j =>
   obtain⟨y,e1,e2⟩:=cG.get (j:=j) h2 (by simpa using e);exact⟨y,by simpa using e1,e2⟩
theorem wU:∀{ds:List Dt} {j:Nat} {d:Dt},ds[j]?=some d->gA d<=eO ds
 | [],_,_,e=>by simp at e
 | d0::ds,j,d,e=>by
  cases j with
  | zero =>
   have e:d0=d:=by simpa using e
   subst e;simp only[eO];lia
  | succ j =>
   have:=wU (ds:=ds) (j:=j) (d:=d) (by simpa using e);simp only[eO];lia
theorem oU:∀(ds es:List Dt),ds.length=es.length->((List.range ds.length).all λj=>fB (ds.getD j .non) (es.getD j .non))=eN ds es
 | [],[],_=>rfl
 | [],_::_,h=>by simp at h
 | _::_,[],h=>by simp at h
 | d::ds,e::es,h=>by
  have h:ds.length=es.length:=by simpa using h
  rw[mN,List.range_succ_eq_map,List.all_cons,List.all_map];have:=oU ds es h;simp only[eN];rw[<- this]
  rfl
theorem jj:∀(ds es:List Dt),ds.length≠es.length->eN ds es=false
 | [],[],h=>by simp at h
 | [],_::_,_=>rfl
 | _::_,[],_=>rfl
 | d::ds,e::es,h=>by
  have h:ds.length≠es.length:=λz=>h (by simp[z])
  simp only[eN,jj ds es h,Bool.and_false]
mutual
theorem kO:∀d:Dt,fB d d=true
 | .non=>rfl
 | .bl b=>by simp[fB]
 | .int i=>by simp[fB]
 | .str x=>by simp[fB]
 | .lst xs=>by simp only[fB];exact gP xs
 | .tup xs=>by simp only[fB];exact gP xs
theorem gP:∀ds:List Dt,eN ds ds=true
 | []=>rfl
 | d::ds=>by simp only[eN,kO d,gP ds,Bool.and_true]
end
section
variable{X:Cx}{pins:List (Addr×Obj)}{σ:St}{H:Hp}{s:Shared}
theorem qw{a:Addr}{xs ys:List V}(I:Inv X pins σ H s)(h:SqL X.K H a xs)(h':SqT X.K H a ys):False:=by
 obtain⟨its,_,pl,_⟩:=I.list h;obtain⟨its',_,pt,_⟩:=I.tuple h';obtain⟨o,n,e,c,_,_⟩:=pl;obtain⟨o',e',c',_⟩:=pt;rw[e] at e';cases e';rw[c] at c';exact gE c' (by decide)
mutual
theorem Vz(I:Inv X pins σ H s):∀(d d':Dt)(v:V),Rep X.K H d v->Rep X.K H d' v->d=d'
 | .non,d',v,h,h'=>by
  have h:v=.non:=by simpa[Rep] using h
  subst h;cases d' <;> simp[Rep] at h' <;> rfl
 | .bl b,d',v,h,h'=>by
  have h:v=.bl b:=by simpa[Rep] using h
  subst h;cases d' <;> simp[Rep] at h'
  rw[h']
 | .int b,d',v,h,h'=>by
  have h:v=.int b:=by simpa[Rep] using h
  subst h;cases d' <;> simp[Rep] at h'
  rw[h']
 | .str b,d',v,h,h'=>by
  have h:v=.str b:=by simpa[Rep] using h
  subst h;cases d' <;> simp[Rep] at h'
  rw[h']
 | .lst ds,d',v,h,h'=>by
  obtain⟨p,xs,rfl,hq,hr⟩:∃p xs,v=.ref p/\SqL X.K H p xs/\cG X.K H ds xs:=by simpa only[Rep] using h
  cases d' with
  | lst es =>
   obtain⟨p',ys,e,hq',hr'⟩:∃p' ys,V.ref p=.ref p'/\SqL X.K H p' ys/\cG X.K H es ys:=by simpa only[Rep] using h'
   cases e;rw[I.sS hq' hq] at hr';rw[jL I ds es xs hr hr']
  | tup es =>
   obtain⟨p',ys,e,hq',hr'⟩:∃p' ys,V.ref p=.ref p'/\SqT X.K H p' ys/\cG X.K H es ys:=by simpa only[Rep] using h'
   cases e;exact(qw I hq hq').elim
  | _=>simp[Rep] at h'
 | .tup ds,d',v,h,h'=>by
  obtain⟨p,xs,rfl,hq,hr⟩:∃p xs,v=.ref p/\SqT X.K H p xs/\cG X.K H ds xs:=by simpa only[Rep] using h
  cases d' with
  | tup es =>
   obtain⟨p',ys,e,hq',hr'⟩:∃p' ys,V.ref p=.ref p'/\SqT X.K H p' ys/\cG X.K H es ys:=by simpa only[Rep] using h'
   cases e;rw[I.wB hq' hq] at hr';rw[jL I ds es xs hr hr']
  | lst es =>
   obtain⟨p',ys,e,hq',hr'⟩:∃p' ys,V.ref p=.ref p'/\SqL X.K H p' ys/\cG X.K H es ys:=by simpa only[Rep] using h'
   cases e;exact(qw I hq' hq).elim
  | _=>simp[Rep] at h'
theorem jL(I:Inv X pins σ H s):∀(ds es:List Dt)(xs:List V),cG X.K H ds xs->cG X.K H es xs->ds=es
 | [],es,xs,h,h'=>by
  have h:xs=[]:=by simpa[cG] using h
  subst h;cases es with
  | nil=>rfl
  | cons e es=>simp[cG] at h'
 | d::ds,es,xs,h,h'=>by
  obtain⟨x,r,rfl,h1,h2⟩:∃x r,xs=x::r/\Rep X.K H d x/\cG X.K H ds r:=by simpa only[cG] using h
  cases es with
  | nil=>simp[cG] at h'
  | cons e es =>
   obtain⟨x',r',e',h1',h2'⟩:∃x' r',x::r=x'::r'/\Rep X.K H e x'/\cG X.K H es r':=by simpa only[cG] using h'
   cases e';rw[Vz I d e x h1 h1',jL I ds es r h2 h2']
end
structure Eq3(A:Around)(s:Shared)(u v:Value)(b:Bool):Prop where
 eq:EqAt A s u v b
 rc:RcAt A s u v b
 ne:RcNeAt A s u v (!b)
theorem m_(I:Inv X pins σ H s){n:Nat}{A:Around}(ih:∀(d d':Dt)(x y:V)(u v:Value),gA d<=n->Rep X.K H d x->Rep X.K H d' y->RelV x u->RelV y v->Eq3 A.in1 s u v (fB d d'))
  {ds es:List Dt} {xs ys:List V} {us vs:xE} (hd:eO ds<=n) (hx:cG X.K H ds xs) (hy:cG X.K H es ys) (ru:Vals xs us) (rv:Vals ys vs) :
  ∀j (h1:j<us.toArray.size) (h2:j<vs.toArray.size),EqAt A.in1 s us.toArray[j] vs.toArray[j] (fB (ds.getD j .non) (es.getD j .non)):=by
 intro j h1 h2;have l1:j<ds.length:=by rw[hx.length,ru.length];simpa using h1
 have l2:j<es.length:=by rw[hy.length,rv.length];simpa using h2
 have e1:ds[j]?=some ds[j]:=by simp[l1]
 have e2:es[j]?=some es[j]:=by simp[l2]
 obtain⟨x,ex,rx⟩:=hx.get e1;obtain⟨y,ey,ry⟩:=hy.get e2;obtain⟨u,eu,qu⟩:=ru.get ex;obtain⟨v,ev,qv⟩:=rv.get ey;have h1':j<us.length:=by simpa using h1
 have h2':j<vs.length:=by simpa using h2
 have z1:us.toArray[j]=u:=by
  have:us[j]?=some us[j]:=by simp[h1']
  rw[this] at eu;simpa using eu
 have z2:vs.toArray[j]=v:=by
  have:vs[j]?=some vs[j]:=by simp[h2']
  rw[this] at ev;simpa using ev
 rw[z1,z2];have g1:ds.getD j .non=ds[j]:=by simp[List.getD,l1]
 have g2:es.getD j .non=es[j]:=by simp[List.getD,l2]
 rw[g1,g2];exact(ih _ _ x y u v (rS (wU e1) hd) rx ry qu qv).eq
theorem M9(I:Inv X pins σ H s){n:Nat}{A:Around}(hu:A.units<cLine)(ih:∀(d d':Dt)(x y:V)(u v:Value),gA d<=n->Rep X.K H d x->Rep X.K H d' y->RelV x u->RelV y v->Eq3 A.in1 s u v (fB d d'))
  {ds es:List Dt} {p q:Addr} (hd:eO ds<=n) (hp:Rep X.K H (.lst ds) (.ref p)) (hq:Rep X.K H (.lst es) (.ref q)):Eq3 A s (.ref p) (.ref q) (eN ds es):=by
 obtain⟨p',xs,e,lx,hx⟩:∃p' xs,V.ref p=.ref p'/\SqL X.K H p' xs/\cG X.K H ds xs:=by simpa only[Rep] using hp
 cases e;obtain⟨q',ys,e,ly,hy⟩:∃q' ys,V.ref q=.ref q'/\SqL X.K H q' ys/\cG X.K H es ys:=by simpa only[Rep] using hq
 cases e;obtain⟨us,ru,pu,_⟩:=I.list lx;obtain⟨vs,rv,pv',_⟩:=I.list ly;have both:RcAt A s (.ref p) (.ref q) (eN ds es)/\RcNeAt A s (.ref p) (.ref q) (!eN ds es):=by
  by_cases hl:ds.length=es.length
  ·have hsz:us.toArray.size=vs.toArray.size:=by simp[<- ru.length,<- rv.length,<- hx.length,<- hy.length,hl]
   have hz:us.toArray.size=ds.length:=by simp[<- ru.length,<- hx.length]
   have a:=RcAt.lists pu.isList pv'.isList hsz hu (m_ I ih hd hx hy ru rv);have b:=RcNeAt.lists pu.isList pv'.isList hsz hu (m_ I ih hd hx hy ru rv);rw[hz,oU ds es hl] at a b;exact⟨a,b⟩
  ·have hsz:(us.toArray.size != vs.toArray.size)=true:=by simp[<- ru.length,<- rv.length,<- hx.length,<- hy.length,hl]
   rw[jj ds es hl];exact⟨RcAt.lists_lengths pu.isList pv'.isList hsz hu,RcNeAt.lists_lengths pu.isList pv'.isList hsz hu⟩
 refine⟨?_,both.1,both.2⟩;by_cases hpq:p=q
 ·subst hpq;have:ds=es:=by
   rw[I.sS ly lx] at hy;exact jL I ds es xs hx hy
  subst this;rw[gP];exact EqAt.same _
 ·exact EqAt.of_refs hpq both.1
theorem Qk(I:Inv X pins σ H s){n:Nat}{A:Around}(hu:A.units<cLine)(ih:∀(d d':Dt)(x y:V)(u v:Value),gA d<=n->Rep X.K H d x->Rep X.K H d' y->RelV x u->RelV y v->Eq3 A.in1 s u v (fB d d'))
  {ds es:List Dt} {p q:Addr} (hd:eO ds<=n) (hp:Rep X.K H (.tup ds) (.ref p)) (hq:Rep X.K H (.tup es) (.ref q)):Eq3 A s (.ref p) (.ref q) (eN ds es):=by
 obtain⟨p',xs,e,lx,hx⟩:∃p' xs,V.ref p=.ref p'/\SqT X.K H p' xs/\cG X.K H ds xs:=by simpa only[Rep] using hp
 cases e;obtain⟨q',ys,e,ly,hy⟩:∃q' ys,V.ref q=.ref q'/\SqT X.K H q' ys/\cG X.K H es ys:=by simpa only[Rep] using hq
 cases e;obtain⟨us,ru,pu,_⟩:=I.tuple lx;obtain⟨vs,rv,pv',_⟩:=I.tuple ly;have hz:us.toArray.size=ds.length:=by simp[<- ru.length,<- hx.length]
 have hz':vs.toArray.size=es.length:=by simp[<- rv.length,<- hy.length]
 have key:((List.range (min us.toArray.size vs.toArray.size)).all (λj=>fB (ds.getD j .non) (es.getD j .non)) && us.toArray.size==vs.toArray.size)=eN ds es:=by
  rw[hz,hz'];by_cases hl:ds.length=es.length
  ·rw[<- hl,Nat.min_self,oU ds es hl];simp
  ·rw[jj ds es hl];simp[hl]
 have a:=RcAt.tuples pu pv' hu (m_ I ih hd hx hy ru rv);have b:=RcNeAt.tuples pu pv' hu (m_ I ih hd hx hy ru rv);rw[key] at a b;refine⟨?_,a,b⟩;by_cases hpq:p=q
 ·subst hpq;have:ds=es:=by
   rw[I.wB ly lx] at hy;exact jL I ds es xs hx hy
  subst this;rw[gP];exact EqAt.same _
 ·exact EqAt.of_refs hpq a
end
section
variable{X:Cx}{pins:List (Addr×Obj)}{σ:St}{H:Hp}{s:Shared}
theorem fO{ds:List Dt}{x:V}(h:Rep X.K H (.lst ds) x):∃p xs,x=.ref p/\SqL X.K H p xs:=by
 obtain⟨p,xs,e,l,_⟩:∃p xs,x=.ref p/\SqL X.K H p xs/\cG X.K H ds xs:=by simpa only[Rep] using h
 exact⟨p,xs,e,l⟩
theorem fP{ds:List Dt}{x:V}(h:Rep X.K H (.tup ds) x):∃p xs,x=.ref p/\SqT X.K H p xs:=by
 obtain⟨p,xs,e,l,_⟩:∃p xs,x=.ref p/\SqT X.K H p xs/\cG X.K H ds xs:=by simpa only[Rep] using h
 exact⟨p,xs,e,l⟩
theorem Dh(I:Inv X pins σ H s){n:Nat}{A:Around}(ih:∀(d d':Dt)(x y:V)(u v:Value),gA d<n->Rep X.K H d x->Rep X.K H d' y->RelV x u->RelV y v->Eq3 A.in1 s u v (fB d d'))
  {d d':Dt} {x y:V} {u v:Value} (hu:A.units+n<cLine) (hd:gA d<=n) (hx:Rep X.K H d x) (hy:Rep X.K H d' y) (rx:RelV x u) (ry:RelV y v):Eq3 A s u v (fB d d'):=by
 have hu0:A.units<cLine:=by lia
 cases d with
 | non =>
  have e:x=V.non:=by simpa[Rep] using hx
  subst e;cases rx;cases d' with
  | non =>
   have e:y=V.non:=by simpa[Rep] using hy
   subst e;cases ry;exact⟨(EqAt.same _),RcAt.none_none , RcNeAt.none_none ⟩
  | bl b =>
   have e:y=V.bl b:=by simpa[Rep] using hy
   subst e;cases ry;exact⟨(EqAt.none_bool b),RcAt.none_bool b,RcNeAt.none_bool b⟩
  | int b =>
   have e:y=V.int b:=by simpa[Rep] using hy
   subst e;obtain⟨u,rfl⟩:=ry;exact⟨(EqAt.none_int b u),RcAt.none_int b u,RcNeAt.none_int b u⟩
  | str b =>
   have e:y=V.str b:=by simpa[Rep] using hy
   subst e;obtain⟨u,rfl⟩:=ry;exact⟨(EqAt.none_str b u),RcAt.none_str b u,RcNeAt.none_str b u⟩
  | lst b =>
   obtain⟨pW,xsW,rfl,lW⟩:=fO hy;cases ry;obtain⟨itW,_,plW,_⟩:=I.list lW;exact⟨EqAt.none_list  plW.isList hu0,RcAt.none_list  plW.isList hu0,RcNeAt.none_list  plW.isList hu0⟩
  | tup b =>
   obtain⟨pW,xsW,rfl,lW⟩:=fP hy;cases ry;obtain⟨itW,_,plW,_⟩:=I.tuple lW;exact⟨EqAt.none_tuple  plW hu0,RcAt.none_tuple  plW hu0,RcNeAt.none_tuple  plW hu0⟩
 | bl a =>
  have e:x=V.bl a:=by simpa[Rep] using hx
  subst e;cases rx;cases d' with
  | non =>
   have e:y=V.non:=by simpa[Rep] using hy
   subst e;cases ry;exact⟨(EqAt.bool_none a),RcAt.bool_none a,RcNeAt.bool_none a⟩
  | bl b =>
   have e:y=V.bl b:=by simpa[Rep] using hy
   subst e;cases ry;exact⟨(EqAt.bool_bool a b),RcAt.bool_bool a b,RcNeAt.bool_bool a b⟩
  | int b =>
   have e:y=V.int b:=by simpa[Rep] using hy
   subst e;obtain⟨u,rfl⟩:=ry;exact⟨(EqAt.bool_int a b u),RcAt.bool_int a b u,RcNeAt.bool_int a b u⟩
  | str b =>
   have e:y=V.str b:=by simpa[Rep] using hy
   subst e;obtain⟨u,rfl⟩:=ry;exact⟨(EqAt.bool_str a b u),RcAt.bool_str a b u,RcNeAt.bool_str a b u⟩
  | lst b =>
   obtain⟨pW,xsW,rfl,lW⟩:=fO hy;cases ry;obtain⟨itW,_,plW,_⟩:=I.list lW;exact⟨EqAt.bool_list a plW.isList hu0,RcAt.bool_list a plW.isList hu0,RcNeAt.bool_list a plW.isList hu0⟩
  | tup b =>
   obtain⟨pW,xsW,rfl,lW⟩:=fP hy;cases ry;obtain⟨itW,_,plW,_⟩:=I.tuple lW;exact⟨EqAt.bool_tuple a plW hu0,RcAt.bool_tuple a plW hu0,RcNeAt.bool_tuple a plW hu0⟩
 | int a =>
  have e:x=V.int a:=by simpa[Rep] using hx
  subst e;obtain⟨t,rfl⟩:=rx;cases d' with
  | non =>
   have e:y=V.non:=by simpa[Rep] using hy
   subst e;cases ry;exact⟨(EqAt.int_none a t),RcAt.int_none a t,RcNeAt.int_none a t⟩
  | bl b =>
   have e:y=V.bl b:=by simpa[Rep] using hy
   subst e;cases ry;exact⟨(EqAt.int_bool a t b),RcAt.int_bool a t b,RcNeAt.int_bool a t b⟩
  | int b =>
   have e:y=V.int b:=by simpa[Rep] using hy
   subst e;obtain⟨u,rfl⟩:=ry;exact⟨(EqAt.int_int a t b u),RcAt.int_int a t b u,RcNeAt.int_int a t b u⟩
  | str b =>
   have e:y=V.str b:=by simpa[Rep] using hy
   subst e;obtain⟨u,rfl⟩:=ry;exact⟨(EqAt.int_str a t b u),RcAt.int_str a t b u,RcNeAt.int_str a t b u⟩
  | lst b =>
   obtain⟨pW,xsW,rfl,lW⟩:=fO hy;cases ry;obtain⟨itW,_,plW,_⟩:=I.list lW;exact⟨EqAt.int_list a t plW.isList hu0,RcAt.int_list a t plW.isList hu0,RcNeAt.int_list a t plW.isList hu0⟩
  | tup b =>
   obtain⟨pW,xsW,rfl,lW⟩:=fP hy;cases ry;obtain⟨itW,_,plW,_⟩:=I.tuple lW;exact⟨EqAt.int_tuple a t plW hu0,RcAt.int_tuple a t plW hu0,RcNeAt.int_tuple a t plW hu0⟩
 | str a =>
  have e:x=V.str a:=by simpa[Rep] using hx
  subst e;obtain⟨t,rfl⟩:=rx;cases d' with
  | non =>
   have e:y=V.non:=by simpa[Rep] using hy
   subst e;cases ry;exact⟨(EqAt.str_none a t),RcAt.str_none a t,RcNeAt.str_none a t⟩
  | bl b =>
   have e:y=V.bl b:=by simpa[Rep] using hy
   subst e;cases ry;exact⟨(EqAt.str_bool a t b),RcAt.str_bool a t b,RcNeAt.str_bool a t b⟩
  | int b =>
   have e:y=V.int b:=by simpa[Rep] using hy
   subst e;obtain⟨u,rfl⟩:=ry;exact⟨(EqAt.str_int a t b u),RcAt.str_int a t b u,RcNeAt.str_int a t b u⟩
  | str b =>
   have e:y=V.str b:=by simpa[Rep] using hy
   subst e;obtain⟨u,rfl⟩:=ry;exact⟨(EqAt.str_str a t b u),RcAt.str_str a t b u,RcNeAt.str_str a t b u⟩
  | lst b =>
   obtain⟨pW,xsW,rfl,lW⟩:=fO hy;cases ry;obtain⟨itW,_,plW,_⟩:=I.list lW;exact⟨EqAt.str_list a t plW.isList hu0,RcAt.str_list a t plW.isList hu0,RcNeAt.str_list a t plW.isList hu0⟩
  | tup b =>
   obtain⟨pW,xsW,rfl,lW⟩:=fP hy;cases ry;obtain⟨itW,_,plW,_⟩:=I.tuple lW;exact⟨EqAt.str_tuple a t plW hu0,RcAt.str_tuple a t plW hu0,RcNeAt.str_tuple a t plW hu0⟩
 | lst a =>
  obtain⟨pU,xsU,rfl,lU⟩:=fO hx;cases rx;obtain⟨itU,_,plU,_⟩:=I.list lU;cases d' with
  | non =>
   have e:y=V.non:=by simpa[Rep] using hy
   subst e;cases ry;exact⟨EqAt.list_none  plU.isList hu0,RcAt.list_none  plU.isList hu0,RcNeAt.list_none  plU.isList hu0⟩
  | bl b =>
   have e:y=V.bl b:=by simpa[Rep] using hy
   subst e;cases ry;exact⟨EqAt.list_bool b plU.isList hu0,RcAt.list_bool b plU.isList hu0,RcNeAt.list_bool b plU.isList hu0⟩
  | int b =>
   have e:y=V.int b:=by simpa[Rep] using hy
   subst e;obtain⟨u,rfl⟩:=ry;exact⟨EqAt.list_int b u plU.isList hu0,RcAt.list_int b u plU.isList hu0,RcNeAt.list_int b u plU.isList hu0⟩
  | str b =>
   have e:y=V.str b:=by simpa[Rep] using hy
   subst e;obtain⟨u,rfl⟩:=ry;exact⟨EqAt.list_str b u plU.isList hu0,RcAt.list_str b u plU.isList hu0,RcNeAt.list_str b u plU.isList hu0⟩
  | lst b =>
   obtain⟨pW,xsW,rfl,lW⟩:=fO hy;cases ry;obtain⟨itW,_,plW,_⟩:=I.list lW;have hd:eO a+1<=n:=by simpa only[gA] using hd
   exact M9 I (n:=n-1) hu0 (λd d' x y u v h=>ih d d' x y u v (by lia)) (by lia) hx hy
  | tup b =>
   obtain⟨pW,xsW,rfl,lW⟩:=fP hy;cases ry;obtain⟨itW,_,plW,_⟩:=I.tuple lW;exact⟨EqAt.list_tuple plU.isList plW hu0,RcAt.list_tuple plU.isList plW hu0,RcNeAt.list_tuple plU.isList plW hu0⟩
 | tup a =>
  obtain⟨pU,xsU,rfl,lU⟩:=fP hx;cases rx;obtain⟨itU,_,plU,_⟩:=I.tuple lU;cases d' with
  | non =>
   have e:y=V.non:=by simpa[Rep] using hy
   subst e;cases ry;exact⟨EqAt.tuple_none  plU hu0,RcAt.tuple_none  plU hu0,RcNeAt.tuple_none  plU hu0⟩
  | bl b =>
   have e:y=V.bl b:=by simpa[Rep] using hy
   subst e;cases ry;exact⟨EqAt.tuple_bool b plU hu0,RcAt.tuple_bool b plU hu0,RcNeAt.tuple_bool b plU hu0⟩
  | int b =>
   have e:y=V.int b:=by simpa[Rep] using hy
   subst e;obtain⟨u,rfl⟩:=ry;exact⟨EqAt.tuple_int b u plU hu0,RcAt.tuple_int b u plU hu0,RcNeAt.tuple_int b u plU hu0⟩
  | str b =>
   have e:y=V.str b:=by simpa[Rep] using hy
   subst e;obtain⟨u,rfl⟩:=ry;exact⟨EqAt.tuple_str b u plU hu0,RcAt.tuple_str b u plU hu0,RcNeAt.tuple_str b u plU hu0⟩
  | lst b =>
   obtain⟨pW,xsW,rfl,lW⟩:=fO hy;cases ry;obtain⟨itW,_,plW,_⟩:=I.list lW;exact⟨EqAt.tuple_list plU plW.isList hu0,RcAt.tuple_list plU plW.isList hu0,RcNeAt.tuple_list plU plW.isList hu0⟩
  | tup b =>
   obtain⟨pW,xsW,rfl,lW⟩:=fP hy;cases ry;obtain⟨itW,_,plW,_⟩:=I.tuple lW;have hd:eO a+1<=n:=by simpa only[gA] using hd
   exact Qk I (n:=n-1) hu0 (λd d' x y u v h=>ih d d' x y u v (by lia)) (by lia) hx hy
end
section
variable{X:Cx}{pins:List (Addr×Obj)}{σ:St}{H:Hp}{s:Shared}
theorem eq3(I:Inv X pins σ H s):∀(n:Nat)(A:Around)(d d':Dt)(x y:V)(u v:Value),A.units+n<cLine->gA d<=n->Rep X.K H d x->Rep X.K H d' y->RelV x u->RelV y v->Eq3 A s u v (fB d d'):=by
 intro n
 induction n with
 | zero=>exact λA d d' x y u v hu hd hx hy rx ry=>Dh I (n:=0) (λ_ _ _ _ _ _ h=>gE h (Nat.not_lt_zero _)) hu hd hx hy rx ry
 | succ n ih=>exact λA d d' x y u v hu hd hx hy rx ry=>Dh I (n:=n+1) (λd d' x y u v h hx hy rx ry=>ih A.in1 d d' x y u v (by show A.units+1+n<cLine;lia) (Nat.le_of_lt_succ h) hx hy rx ry) hu hd hx hy rx ry
end
section
variable{X:Cx}
theorem VB{k:Nat}(hr:Room k X.A):OpR X (compareOp .Eq) (λx y H Q=>∃d d',Rep X.K H d x/\Rep X.K H d' y/\gA d<=100/\Q (.bl (fB d d')) H):=by
 intro pins s σ H x y v u Q I rx ry h;obtain⟨d,d',h1,h2,hd,q⟩:=h;exact(eq3 I 100 X.A d d' x y v u (by have:=hr.un;lia) hd h1 h2 rx ry).rc X.prog X.w X.xe _ ⟨.bl _,H,I,rfl,q⟩
end
end L2
namespace L2
open PySem PySem.Spec PyProof.Rows
def isW:V->Bool
 | .int _=>true
 | _=>false
def M_:V->Bool
 | .int _=>true
 | .bl _=>true
 | _=>false
def isB:V->Bool
 | .bl _=>true
 | _=>false
theorem YG(x:V):isW x=(M_ x && !isB x):=by cases x <;> rfl
section
variable{K:W.Frag}{H H':Hp}{x:V}{n:String}
theorem Ql(h:b_ K H x (.type n)):qt K (.type n) (.ty "int")=some (M_ x):=by cases h <;> rfl
theorem zO(h:b_ K H x (.type n)):qt K (.type n) (.ty "bool")=some (isB x):=by cases h <;> rfl
theorem JN(h:b_ K H x (.type n)):qt K (.type n) (.ty "list")=some (n == "list"):=by cases h <;> rfl
theorem Qm(h:b_ K H x (.type n)):qt K (.type n) (.ty "tuple")=some (n == "tuple"):=by cases h <;> rfl
theorem b_.same{t:Value}(e:Same H H')(h:b_ K H x t):b_ K H' x t:=by
 cases h with
 | non=>exact .non
 | bl b=>exact .bl b
 | int i=>exact .int i
 | str y=>exact .str y
 | flt y=>exact .flt y
 | lst q=>exact .lst (e _ _ q)
 | frz q=>exact .frz (e _ _ q)
 | tup q=>exact .tup (e _ _ q)
 | dK q=>exact .dK (e _ _ q)
 | dT q=>exact .dT (e _ _ q)
 | ins q c a b d m=>exact .ins (e _ _ q) c a b d m
end
theorem Qn{α:Type}{c:α}{cs:List α}:atI (c::cs) (0:Int)=some c:=fW (j:=0) rfl
theorem YH{α:Type}{xs:List α}{i:Int}(h0:0<=i)(h1:i<xs.length):∃v,atI xs i=some v/\v∈xs:=by
 obtain⟨j,rfl⟩:∃j:Nat,i=(j:Int):=⟨i.toNat,by lia⟩;have hj:j<xs.length:=by lia
 exact⟨xs[j],fW (by simp[hj]),List.getElem_mem hj⟩
theorem Same.new{H:Hp}{p:Addr}{o:HO}(h:H p=none):Same H (upd H p o):=λb u e=>by
 rw[aX (aQ e h)];exact e
def Off(p:Addr)(H H':Hp):Prop:=∀b,b≠p->H' b=H b
theorem Off.upd{p:Addr}{H:Hp}{o:HO}:Off p H (upd H p o):=λ_ h=>aX h
theorem cH{n:Nat}(h:n<=1000000):n<=sizeLine:=rS h (by decide)
theorem VD{P:Program}{w:World}{K:W.Frag}{mg:xC}{base:Heap}{CX:CXT}{x:Str}{ps:List Str}{sp:Sp}{k:Nat}{st:Stmt}{N:List Str}{f:Addr}{fd:FuncData}
  (F:Fun K x x st f fd) (S:aJ N ps (au st)) (len:∀vs H Q E,sp vs H Q E->vs.length=ps.length)
  (hbody:∀(cdv:Value)(A:Around)(outer:List Env)(s:Shared)(H:Hp)(vs:List V)(Q:VK)(E:XK),Room k (A.deeper (envOfC x (au st) s.heap.objs.size f cdv))->sp vs H Q E ->
   ∃t,PSs (fu CX P w K mg base N x (au st) f cdv A outer s H E).nox (bf st) t/\t { nx:=λ_ H'=>Q .non H',rt:=Q } (start N vs) H):gM P w K mg base CX (k+1) f fd ps sp:=by
 obtain⟨oc,od,kV,doc,pm,an,cdv,ct,osl,rfl,lk,hcd⟩:=F.ex;refine mY lk hcd S len λA outer s H vs Q E hr hsp=>?_
 obtain⟨t,h,q⟩:=hbody cdv A outer s H vs Q E hr hsp;exact⟨t,h.nox,q⟩
structure tD(B newId initId:String)(bm:xE):Prop where
 call:ExcCallFacts B newId initId
 split:splitId newId=some (B, "__new__")
 kind:builtinKind newId=some .builtinFn
 row:Manifest.signature? newId=some ⟨.any,B,B,.cls,[⟨"args", .varPos,false⟩,⟨"kwargs", .varKw,false⟩]⟩
 hasB:bm.contains (.type B)=true
 abn:bm.contains (.type "BaseException")=true
 noA:bm.contains (.type "AttributeError")=false
 noN:bm.contains (.type "NameError")=false
 canon:Manifest.canonical newId=Manifest.canonical "BaseException.__new__"
theorem rA:tD "ValueError" "ValueError.__new__" "ValueError.__init__" [.type "ValueError", .type "Exception", .type "BaseException", .type "object"] :=
 ⟨PySem.F.excBase_ValueError.toExcCallFacts,PySem.F.excBase_ValueError.newSplit,PySem.F.excBase_ValueError.newKind,PySem.F.excBase_ValueError.newRow,PySem.F.excBase_ValueError.hasB,PySem.F.excBase_ValueError.hasBase,PySem.F.excBase_ValueError.noAttr,PySem.F.excBase_ValueError.noName,PySem.F.excBase_ValueError.canon⟩
theorem tD.under{B newId initId:String}{bm:xE}(F:tD B newId initId bm)(R:Addr):tD B newId initId (.ref R::bm) :=
 ⟨F.call,F.split,F.kind,F.row,by rw[List.contains_cons,F.hasB,Bool.or_true],by rw[List.contains_cons,F.abn,Bool.or_true],by rw[List.contains_cons,F.noA];rfl,by rw[List.contains_cons,F.noN];rfl,F.canon⟩
section
variable{prog:Program}{w:World}{M:Model}{A:Around}{E:xB}{R:Result->Shared->Prop}{h:Heap}{g:Array GenState}{d:Drawn}{t:Nat}{os:OsState}
variable{nm q:Str}{C N:Addr}{bs bm:xE}{hdct:Bool}{sn:List Str}{sub:xE}{ab:Bool}{col:Option Bool}{dd:xL}{k0 k1 k2 k3 k5:Option Value}{B newId initId:String}
theorem tD.has(F:tD B newId initId bm):(Value.ref C::bm).contains (.type B)=true:=by rw[List.contains_cons,F.hasB,Bool.or_true]
theorem wg(F:tD B newId initId bm){rest:xE}{Q:xA}(hC:h.get? C=some (excClassObj nm q C N bs bm hdct sn sub ab col dd k0 k1 k2 k3 k5 newId))(hq:Q () ⟨h,g,d,t,os⟩) :
  wpAny M A (checkBuiltinCall newId ⟨.ref C::rest,[]⟩) Q E ⟨h,g,d,t,os⟩:=by
 have e1:(Value.ref C::bm).contains (.type B)=true:=F.has;have e2:=F.call.noStar;simp only[checkBuiltinCall,F.kind,F.split,F.row]
 repeat (first|refine wpAny_loadPart_at hC ?_|(refine wpAny_isSubtype_exc hC ?_;rw[e1])|refine wpAny_staticBase_exc hC ?_|refine wpAny_madeBy_exc hC ?_|simp only[bne_self_eq_false,Bool.false_eq_true,if_false]|wp_step)
 exact hq
theorem VF(F:tD B newId initId bm){rest:xE}(hC:h.get? C=some (excClassObj nm q C N bs bm hdct sn sub ab col dd k0 k1 k2 k3 k5 newId))
  (hq:R (.ok (.ret (.ref (h.objs.size+1)))) ⟨(h.push { cls:=.type "tuple", data:=.seq rest.toArray }).push { cls:=.ref C,data:=.fields #[.ref h.objs.size,.none,.none,.none,.bool false,.none] },g,d,t,os⟩) (hz:rest.length<=sizeLine) :
  codeAny (model prog w) A (.builtin newId ⟨.ref C::rest,[]⟩) R ⟨h,g,d,t,os⟩:=by
 have e0:=F.call.ends;have e1:(Value.ref C::bm).contains (.type B)=true:=F.has;have e2:(Value.ref C::bm).contains (.type "AttributeError")=false:=by rw[List.contains_cons,F.noA];rfl
 have e3:(Value.ref C::bm).contains (.type "NameError")=false:=by rw[List.contains_cons,F.noN];rfl
 refine codeAny_builtinAt F.call.entry ?_;unfold Builtin.«BaseException.__new__»;refine PySem.wpAt_bind ?_;show PySem.wpAt _ _ _ (stack >>= _) _ _ _;refine PySem.wpAt_bind (PySem.wpAt_stack λp below=>PySem.wpAt_of_wpAny ?_)
 wp_walk;refine PySem.wpAt_of_wpAny ?_
 rw[F.call.owner]
 repeat (first|with_reducible refine wpAny_madeHere_exc F.canon hC ?_|with_reducible refine wpAny_loadPart_at hC ?_|(with_reducible refine wpAny_isSubtype_exc hC ?_;first|rw[e1]|rw[e2]|rw[e3])|wp_step)
 show R _ _;rw[Heap.size_push];exact hq
theorem Qo(F:tD B newId initId bm){rest:xE}{fI:Addr}{oI:Obj}{Q:xB}(hC:h.get? C=some (excClassObj nm q C N bs bm hdct sn sub ab col dd k0 k1 k2 k3 k5 newId))
  (hi:W.Looks (model prog w) h (typeLookup (.ref C) "__init__") (some (.ref fI))) (hfI:h.get? fI=some oI) (hfc:oI.cls=.type "function")
  (hq:∀h',(∀b o,h.get? b=some o->h'.get? b=some o)->h'.get? (h.objs.size+1)=some { cls:=.ref C,data:=.fields #[.ref h.objs.size,.none,.none,.none,.bool false,.none] }->wpAny (model prog w) (A.under (.builtin "type.__call__" ⟨.ref C::rest,[]⟩)) (PySem.call (.ref fI) (.ref (h.objs.size+1)::rest)) (λr s'=>r=.none/\Q (.ref (h.objs.size+1)) s') E ⟨h',g,d,t,os⟩) (hz:rest.length<=sizeLine) :
  wpAny (model prog w) A (PySem.call (.ref C) rest) Q E ⟨h,g,d,t,os⟩:=by
 have f1:=tc_lookup;have f2:=tc_bind (.ref C);have hT:(⟨h,g,d,t,os⟩:Shared).TypeIs (.ref C) "type":=⟨_,hC,rfl⟩;refine wpAny_call (codeAny_of_tree ?_);show wpAny _ _ (callAny (.ref C) _) _ _ _
 repeat (any_goals (first|assumption|with_reducible refine wpAny_loadPart_at hC ?_|wp_step))
 refine⟨rfl,codeAny_call_builtin_at (Code.quiet_builtin _ (by decide +kernel)) entry_typeCall (wpAny_check_type_call_sub hC ?_)⟩
 repeat (first|with_reducible refine wpAny_loadPart_at hC ?_|with_reducible refine wpAny_madeBy_exc hC ?_|wp_step)
 refine codeAny_call_builtin_code (Code.quiet_builtin _ F.call.quiet) (wg F hC (VF F hC ?_ hz));show wpAny _ _ _ _ _ (⟨(h.push { cls:=.type "tuple", data:=.seq rest.toArray }).push { cls:=.ref C,data:=.fields #[.ref h.objs.size,.none,.none,.none,.bool false,.none] },g,d,t,os⟩:Shared)
 generalize hh2:(h.push { cls:=.type "tuple", data:=.seq rest.toArray }).push { cls:=.ref C,data:=.fields #[.ref h.objs.size,.none,.none,.none,.bool false,.none] }=h2
 have kp:∀b o,h.get? b=some o->h2.get? b=some o:=λb o e=>by rw[<- hh2];exact gX _ (gX _ e)
 have hget:h2.get? (h.objs.size+1)=some { cls:=.ref C,data:=.fields #[.ref h.objs.size,.none,.none,.none,.bool false,.none] }:=by rw[<- hh2];heap_get
 have htup:h2.get? h.objs.size=some { cls:=.type "tuple", data:=.seq rest.toArray }:=by rw[<- hh2];exact gX _ (Heap.get?_push_at rfl rfl)
 have hcC:(Value.ref C::bm).contains (.ref C)=true:=by simp
 unfold isInstance
 repeat (first|with_reducible refine wpAny_loadPart_at hget ?_|(with_reducible refine wpAny_isSubtype_exc (kp _ _ hC) ?_;rw[hcC])|wp_step)
 show wpAny _ _ (typeLookup (.ref C) _) _ _ _;refine hi _ _ _ _ kp ?_;refine nK (zI ?_);unfold bindSpecial;refine wpAny_bind (wpAny_typeOf (T := "function") ⟨_,kp _ _ hfI,hfc⟩ ?_);rw[zS (by decide)];refine uS (zI (nS (hq h2 kp hget) (λr s' hr=>?_) λ_ _ x=>x));obtain⟨rfl,hQ⟩:=hr
 wp_walk
 exact hQ
end
section
variable{prog:Program}{w:World}{A:Around}{E:xB}{s:Shared}{K:W.Frag}{e C:Addr}{oe:Obj}{vs:xI}{name:Str}{v:Value}
theorem gQ(hf:oe.data=.fields vs):W.notCls oe=true:=by
 unfold W.notCls;rw[hf]
def zP:List Value->Bool
 | .ref _::r=>zP r
 | l=>l==[.type "ValueError", .type "Exception", .type "BaseException", .type "object"]
theorem Nb(self:Value):refuseLoop self "__setattr__" [.type "ValueError", .type "Exception", .type "BaseException", .type "object"]=pure ():=by kernel_rfl
theorem wV(self:Value):∀{l:xE},zP l=true->refuseLoop self "__setattr__" l=pure ()
 | .ref c::r,h=>by
  rw[refuseLoop_ref];exact wV self h
 | [],h=>by cases h
 | .type n::r,h=>by
  have z:(Value.type n::r)=[.type "ValueError", .type "Exception", .type "BaseException", .type "object"]:=gI h;rw[z];exact Nb self
 | .none::r,h=>by cases (gI h:(Value.none::r)=_)
 | .bool _::r,h=>by cases (gI h:(_::r)=_)
 | .int _ _::r,h=>by cases (gI h:(_::r)=_)
 | .str _ _::r,h=>by cases (gI h:(_::r)=_)
 | .bytes _ _::r,h=>by cases (gI h:(_::r)=_)
 | .float _ _::r,h=>by cases (gI h:(_::r)=_)
 | .builtin _::r,h=>by cases (gI h:(_::r)=_)
 | .ellipsis::r,h=>by cases (gI h:(_::r)=_)
 | .notImplemented::r,h=>by cases (gI h:(_::r)=_)
theorem tE:∀{l:xE},zP l=true->l.contains (.type "object")=true/\l.isEmpty=false
 | .ref c::r,h=>⟨by rw[List.contains_cons,(tE (l:=r) h).1,Bool.or_true],rfl⟩
 | [],h=>by cases h
 | .type n::r,h=>by
  have z:(Value.type n::r)=[.type "ValueError", .type "Exception", .type "BaseException", .type "object"]:=gI h;rw[z];exact⟨by decide,rfl⟩
 | .none::r,h=>by cases (gI h:(Value.none::r)=_)
 | .bool _::r,h=>by cases (gI h:(_::r)=_)
 | .int _ _::r,h=>by cases (gI h:(_::r)=_)
 | .str _ _::r,h=>by cases (gI h:(_::r)=_)
 | .bytes _ _::r,h=>by cases (gI h:(_::r)=_)
 | .float _ _::r,h=>by cases (gI h:(_::r)=_)
 | .builtin _::r,h=>by cases (gI h:(_::r)=_)
 | .ellipsis::r,h=>by cases (gI h:(_::r)=_)
 | .notImplemented::r,h=>by cases (gI h:(_::r)=_)
def ni(K:W.Frag)(C:Addr):Bool:=(W.clsIn K C).any λcd=>zP cd.mro
theorem JQ{ox:Obj}{od:Option Obj}{tk:Tok}{R:Result->Shared->Prop}(X:K.In s.heap)(I:W.InstAt s.heap e ox C od)(hp:ni K C=true)(ht:W.takerIn K C name=some none)
  (h:∀b,wpAny (model prog w) A.in1 (Builtin.ObjectAttr.storeInOwnDict (.ref e) (.ref C) (.str name tk) name v b)
   (λfin s'=>match fin with|.done f=>R (.ok f) s'|.again c'=>c'.quiet=true/\codeAny (model prog w) A c' R s') (λx s'=>R (.error x) s') s) :
  codeAny (model prog w) A (.call (.builtin "object.__setattr__") ⟨[.ref e,.str name tk,v],[]⟩) R s:=by
 have SF:=PySem.F.store_object;obtain⟨cd,hc,ho⟩:=W.any_some hp;obtain⟨aei,ne⟩:=tE ho;have sub:W.Looks (model prog w) s.heap (isInstance (.ref e) (.type "object")) true:=I.type.andThen (W.looks_mroIn X (by unfold W.mroIn;rw[hc,Option.bind_some,if_neg (by rw[ne];decide),aei]));refine codeAny_call_builtin SF.slot.plain SF.entry (@W.check_slot (model prog w) _ _ s "object.__setattr__" "object" "__setattr__" (.ref e) [.str name tk,v] [] _ SF.kind SF.split sub (SF.args (.ref e) (.str name tk) v) ?_);obtain⟨attr,ha,hr⟩:=Option.bind_eq_some_iff.mp ht;have hm:W.Looks (model prog w) s.heap (mroOf (.ref C)) cd.mro:=(W.looks_clsIn X hc).andThen .now;have L3:W.Looks (model prog w) s.heap (Builtin.ObjectAttr.storeTaker? attr) none:=by
  cases attr with
  | none=>exact .now
  | some a =>
   obtain⟨b,hb,q⟩:=Option.map_eq_some_iff.mp hr;refine(W.looks_takesIn X hb).andThen ?_;cases b with
   | true=>cases q
   | false=>exact .now
 rw[W.osa_eq,refuse_eq];refine zI (zI (I.type.here (zI (hm.here ?_))));rw[wV _ ho];refine uS (zI (I.type.here (zI ((W.looks_findIn X ha).here (zI (L3.here ?_))))));exact h _
theorem Qp{Q:xA}(X:K.In s.heap)(he:s.heap.get? e=some oe)(hc:oe.cls=.ref C)(hd:oe.dict=none)(hf:oe.data=.fields vs)
  (hs:W.findIn K (.ref C) "__setattr__" = some (some (.builtin "object.__setattr__"))) (hp:ni K C=true) (ht:W.takerIn K C name=some none) (hh:W.hasDictIn K C=true)
  (h:∀h',(∀b o,b≠e->s.heap.get? b=some o->h'.get? b=some o)->h'.get? e=some { oe with dict:=some s.heap.objs.size }->h'.Ns1 s.heap.objs.size (λy=>if y=name then some v else none)->Q () { s with heap:=h',toks:=s.toks+2 }) :
  wpAny (model prog w) A (setAttr (.ref e) name v) Q E s:=by
 have J:W.InstAt s.heap e oe C none:=⟨he,hc,gQ hf,by rw[hd];trivial⟩;refine W.set_plain X J hs (JQ (s:={ s with toks:=s.toks+1 }) X J hp ht λb=>?_)
 obtain⟨cd,hcd,hdd⟩:=W.any_some hh;obtain⟨oc,od,odt,osl⟩:=oe;simp only at hc hd hf;subst hc hd hf;refine zI (uS (zI (zI (wpAny_loadPart he (zI (W.Looks.here (s:={ s with toks:=s.toks+1 }) (W.looks_clsIn X hcd) ?_))))))
 rw[hdd];show wpAny (model prog w) A.in1 (alloc { cls:=.type "dict", data:=.dict #[] } >>= λd=>(update e λo=>{ o with dict:=some d }) >>= λ_=>dictMade (.ref C) e d) _ _ _
 have hlt:e<s.heap.objs.size:=gS he;have hne:e≠s.heap.objs.size:=qB hlt;refine zI (wpAny_alloc (zI (wpAny_update (gX _ he) ?_)));show wpAny (model prog w) A.in1 (pure (some s.heap.objs.size)) _ _ _;refine uS (zI (uS (zI ?_)));have e0:((s.heap.push { cls:=.type "dict", data:=.dict #[] }).update e λo=>{ o with dict:=some s.heap.objs.size }).get? s.heap.objs.size=some { cls:=.type "dict", data:=.dict #[] } :=
  (nE _ _ hne).trans (rV s.heap rfl)
 have e1:((s.heap.push { cls:=.type "dict", data:=.dict #[] }).update e λo=>{ o with dict:=some s.heap.objs.size }).get? e=some { cls:=.ref C,dict:=some s.heap.objs.size,data:=.fields vs,slots:=osl } :=
  Heap.get?_update_self _ (gX _ he) rfl
 have n0:((s.heap.push { cls:=.type "dict", data:=.dict #[] }).update e λo=>{ o with dict:=some s.heap.objs.size }).Ns s.heap.objs.size (λ_=>none) :=
  ⟨_,#[],_,e0,rfl,(λy hy=>absurd hy (by simp)),λ_=>rfl⟩
 refine wpAny_nsSet1 (Heap.Ns1.of_empty n0) λh' hn2 hs2=>?_
 obtain⟨oD,esD,epD,hoD,hdD,hcD⟩:=hn2.count (PySem.Within.cons (ns:=[]) name v (λy hy=>gE rfl hy));refine zI (wpAny_lookBehind hoD (by rw[hdD];exact pastItsLine_dict (rS hcD (by show 1<=_;decide))) ?_);refine uS (h h' (λb o hb q=>?_) ((hs2.2 _ hne).trans e1) hn2);rw[hs2.2 b (qB (gS q))];exact(nE _ _ (Ne.symm hb)).trans (gX _ q)
theorem Qq{dx:Addr}{mA:xC}{ns:List Str}{Q:xA}(X:K.In s.heap)(he:s.heap.get? e=some oe)(hc:oe.cls=.ref C)(hd:oe.dict=some dx)(hf:oe.data=.fields vs)(hn:s.heap.Ns1 dx mA)(hne:dx≠e)
  (hs:W.findIn K (.ref C) "__setattr__" = some (some (.builtin "object.__setattr__"))) (hp:ni K C=true) (ht:W.takerIn K C name=some none) (hh:W.hasDictIn K C=true) (hw:PySem.Within mA ns) (hsz:ns.length<=1000)
  (h:∀h',Heap.SameBut dx s.heap h'->h'.Ns1 dx (λy=>if y=name then some v else mA y)->Q () { s with heap:=h',toks:=s.toks+2 }) :
  wpAny (model prog w) A (setAttr (.ref e) name v) Q E s:=by
 obtain⟨od,ho,_⟩:=kJ hn;have J:W.InstAt s.heap e oe C (some od):=⟨he,hc,gQ hf,by rw[hd];exact ho⟩;refine W.set_plain X J hs (JQ (s:={ s with toks:=s.toks+1 }) X J hp ht λb=>?_)
 obtain⟨cd,hcd,hdd⟩:=W.any_some hh;obtain⟨oc,od',odt,osl⟩:=oe;simp only at hc hd hf;subst hc hd hf;refine zI (uS (zI (zI (wpAny_loadPart he (zI (W.Looks.here (s:={ s with toks:=s.toks+1 }) (W.looks_clsIn X hcd) ?_))))))
 rw[hdd];refine uS (a:=some dx) (zI (uS (zI (wpAny_nsSet1 (s:={ s with toks:=s.toks+1 }) hn λh' hn2 hs2=>?_))))
 obtain⟨oD,esD,epD,hoD,hdD,hcD⟩:=hn2.count (PySem.Within.cons name v hw);refine zI (wpAny_lookBehind hoD (by rw[hdD];exact pastItsLine_dict (rS hcD (by rw[mN];have:=sizeLine_eq;lia))) ?_);exact uS (h h' hs2 hn2)
theorem VG{dx:Addr}{mA:xC}{expr:Bool}{Q:xB}(X:K.In s.heap)(he:s.heap.get? e=some oe)(hc:oe.cls=.ref C)(hd:oe.dict=some dx)(hf:oe.data=.fields vs)(hn:s.heap.Ns1 dx mA)
  (hga:W.findIn K (.ref C) "__getattribute__" = some (some (.builtin "BaseException.__getattribute__"))) (hgb:W.findIn K (.ref C) "__getattr__" = some none) (hmb:W.mroIn K C (.type "BaseException")=some true)
  (hh:W.hasDictIn K C=true) (ha:W.findIn K (.ref C) name=some none) (hv:mA name=some v) (hv':W.handedIn v=true) (h:Q v { s with toks:=s.toks+1 }) :
  wpAny (model prog w) A (getAttr (.ref e) name expr) Q E s:=by
 obtain⟨od,ho,hl⟩:=kJ hn;have J:W.InstAt s.heap e oe C (some od):=⟨he,hc,gQ hf,by rw[hd];exact ho⟩;have hfo:W.findObj K C (some od) name=some (.value v):=W.findObj_own hh ha rfl (by rw[hl,hv]);obtain⟨hp,g,d,t,os⟩:=s;have L0:=J.type (M:=model prog w);have L1:=W.looks_findIn (M:=model prog w) X hga;have L2:=W.looks_find (M:=model prog w) X J hfo;have L3:=W.looks_findIn (M:=model prog w) X hgb;have hx0:(expr && onTheHeap (Value.builtin "BaseException.__getattribute__"))=false:=by cases expr <;> rfl
 have sub:W.Looks (model prog w) hp (isInstance (.ref e) (.type "BaseException")) true:=J.type.andThen (W.looks_mroIn X hmb);unfold getAttr getAttrBy;refine zI (wpAny_mkText (nK (zI (L0.at (zI (L1.at ?_))))));show wpAny _ _ (getAttrByItsOwn (.ref e) (.str name t) (.ref C) (.builtin "BaseException.__getattribute__") true expr) _ _ _;unfold getAttrByItsOwn;refine zI (show wpAny _ _ (typeLookup (.ref C) "__getattr__") _ _ _ from L3.at ?_);refine zI (wpAny_attempt (nK ?_));unfold callGetattribute;rw[hx0,yA vE];unfold boundAndCalled;rw[PySem.F.excAttr_ValueError.ga.bind (.ref e)];refine zI (uS (wpAny_call (codeAny_call_builtin PySem.F.excAttr_ValueError.ga.plain PySem.F.entry_bexc_ga (@W.check_slot (model prog w) _ _ _ "BaseException.__getattribute__" "BaseException" "__getattribute__" (.ref e) [.str name t] [] _ (by decide +kernel) (by decide +kernel) sub (PySem.F.args_bexc_ga _ _) ?_))));refine zI (uS (zI (uS (zI (L0.at (zI (L2.at (uS ?_))))))));show wpAny _ _ (handedOut v) _ _ _;rw[W.handedOut_of hv'];exact uS h
end
def jB(e C:Addr)(dx:xL):HO:=.ext λh=>∃t sl,h.get? e=some { cls:=.ref C,dict:=dx,data:=.fields #[.ref t,.none,.none,.none,.bool false,.none],slots:=sl }
def dJ(dx:Addr)(fs:List (Str×V)):HO:=.ext λh=>∃mA,h.Ns1 dx mA/\(∀f,jD (fs.lookup f) (mA f))/\PySem.Within mA (fs.map (·.1))/\fs.length<=100
section
variable{P:Program}{w:World}{H:Hp}{h:Heap}{e C dx:Addr}
theorem JR{do':xL}{t:Addr}{sl:Array (Option Value)}(q:h.get? e=some { cls:=.ref C,dict:=do',data:=.fields #[.ref t,.none,.none,.none,.bool false,.none],slots:=sl }):bT P w H h e (jB e C do') :=
 ⟨⟨t,sl,q⟩,⟨_,q⟩,λh1 h2 ⟨t,sl,z⟩ k=>⟨t,sl,k _ z⟩⟩
theorem JT{fs:List (Str×V)}{mA:xC}(n:h.Ns1 dx mA)(r:∀f,jD (fs.lookup f) (mA f))(wi:PySem.Within mA (fs.map (·.1)))(hl:fs.length<=100):bT P w H h dx (dJ dx fs):=by
 refine⟨⟨mA,n,r,wi,hl⟩,?_,λh1 h2 ⟨mA,n,r,wi,hl⟩ k=>⟨mA,n.at k,r,wi,hl⟩⟩;obtain⟨o,_,_,q,_⟩:=n;exact⟨o,q⟩
end
structure abo(K:W.Frag)(C f:Addr)(bm:xE):Prop where
 obj:∃nm q N bs hdct sn sub ab col dd k0 k1 k2 k3 k5,K.lookup C=some (excClassObj nm q C N bs bm hdct sn sub ab col dd k0 k1 k2 k3 k5 "ValueError.__new__")
 JV:tD "ValueError" "ValueError.__new__" "ValueError.__init__" bm
 init:W.findIn K (.ref C) "__init__" = some (some (.ref f))
 fn:∃o,K.lookup f=some o/\o.cls=.type "function"
 kp:W.keepIn K (.ref C)=true
structure Hi(K:W.Frag)(C:Addr):Prop where
 sa:W.findIn K (.ref C) "__setattr__" = some (some (.builtin "object.__setattr__"))
 po:ni K C=true
 hd:W.hasDictIn K C=true
section
variable{X:Cx}{f C:Addr}{ps:List Str}{x:Str}{pos:Pos}{e:Expr}{t:TA}
def aej(K:W.Frag)(ta tv:TE)(f:Str):TS:=λD σ H=>tv σ H λy H1=>ta σ H1 λx H2=>∃a C,x=.ref a/\Hi K C/\W.takerIn K C f=some none /\
 ((H2 a=some (jB a C none)/\∀dx,H2 dx=none->D.nx σ (upd (upd H2 dx (dJ dx [(f,y)])) a (jB a C (some dx)))) \/
  ∃dx fs,H2 a=some (jB a C (some dx))/\H2 dx=some (dJ dx fs)/\dx≠a/\fs.length<100/\D.nx σ (upd H2 dx (dJ dx (d7 f y fs))))
theorem Hj{o value:Expr}{f:Str}{ta tv:TE}{pos':Pos}(ha:PE X o ta)(hv:PE X value tv)(hs:swapsWith value (some (.Attribute o f pos')) pos.line X.env=pure false:=by rfl):PS X (.Assign [.Attribute o f pos'] value pos) (aej X.K ta tv f):=by
 intro pins s σ H D I h;refine plainObj_wpAny_Assign_Attribute (thn (hv pins s σ H _ I h) λu s1 ⟨y,H1,I1,ry,q⟩=>thn (ha pins s1 σ H1 _ I1 q) λov s2 ⟨x,H2,I2,rx,a,C,ex,S,tk,q2⟩=>?_) hs;subst ex;obtain rfl:ov=Value.ref a:=rx;rcases q2 with⟨ho,q3⟩|⟨dx,fs,ho,hd,hne,hl,q3⟩
 ·obtain⟨⟨t,sl,ge⟩,_,_⟩:bT X.prog X.w H2 s2.heap a (jB a C none):=I2.hok a _ ho;refine Qp I2.kIn ge rfl rfl rfl S.sa S.po tk S.hd λh' kp ge' n'=>?_
  have hfr:H2 s2.heap.objs.size=none:=I2.hok.fresh (uA _);have nas:a≠s2.heap.objs.size:=aQ ho hfr;have other:∀b,b≠a->b≠s2.heap.objs.size->(upd (upd H2 s2.heap.objs.size (dJ s2.heap.objs.size [(f,y)])) a (jB a C (some s2.heap.objs.size))) b=H2 b:=λb h1 h2=>by rw[aX h1,aX h2]
  have nlt:∀b o,s2.heap.get? b=some o->b≠s2.heap.objs.size:=λb o z=>qB (gS z)
  have na:∀b,H2 b=none->b≠a:=λb z q=>by rw[q,ho] at z;cases z
  have oV:∀b u,H2 b=some u->u≠jB a C none->b≠a:=λb u z d q=>by
   rw[q,ho] at z;exact d (oQ z).symm
  refine⟨σ,_,I2.un ⟨λb o z n _ _=>kp b o (na b n) z,λb o z n _ _=>⟨o.slots,kp b o (na b n) z⟩,λb o z n _=>by rw[other b (na b n) (nlt b o z)];exact n,λb o z _=>?_,λb xs z=>?_,λb o u z=>?_,λb ps z=>⟨#[],?_⟩⟩ (λb u z=>?_),q3 _ hfr⟩
  ·by_cases hb:b=a
   ·exact⟨_,by rw[hb];exact ge'⟩
   ·exact⟨o,kp b o hb z⟩
  ·rw[other b (oV b _ z (by intro q;cases q)) (aQ z hfr)];exact z
  ·rw[other b (oV b _ z (by intro q;cases q)) (aQ z hfr)];exact z
  ·rw[other b (oV b _ z (by intro q;cases q)) (aQ z hfr),z];simp
  ·by_cases hb:b=a
   ·subst hb;rw[bx] at z;cases z;exact JR ge'
   ·by_cases hb2:b=s2.heap.objs.size
    ·subst hb2;rw[aX hb,bx] at z;cases z;refine JT n' (λg=>?_) (λg hg=>?_) (by simp)
     ·show jD ([(f,y)].lookup g) (if g=f then some u else none);by_cases zz:g=f
      ·rw[if_pos zz,zz];simpa[List.lookup_cons,jD] using ry
      ·have:(g==f)=false:=by simpa using zz
       rw[yA zz];simp[List.lookup_cons,this,jD]
     ·by_cases zz:g=f
      ·simp[zz]
      ·exact gE (show (if g=f then some u else none)=none by rw[yA zz]) hg
    ·rw[other b hb hb2] at z;refine(I2.hok b u z).stay (λc v hc q=>kp c v ?_ q) (λc q=>?_) λc xs q=>?_
     ·rcases hc with rfl|hc
      ·exact hb
      ·exact oV c _ hc (by intro q;cases q)
     ·rw[other c (oV c _ q (by intro q;cases q)) (aQ q hfr)];exact q
     ·rw[other c (oV c _ q (by intro q;cases q)) (aQ q hfr)];exact q
 ·obtain⟨⟨t,sl,ge⟩,_,_⟩:bT X.prog X.w H2 s2.heap a (jB a C (some dx)):=I2.hok a _ ho;obtain⟨⟨mA,n,r,wi,hl'⟩,_,_⟩:bT X.prog X.w H2 s2.heap dx (dJ dx fs):=I2.hok dx _ hd;refine Qq I2.kIn ge rfl rfl rfl n hne S.sa S.po tk S.hd wi (by rw[wE];lia) λh' sb n'=>?_
  refine⟨σ,_,I2.write (x:=dx) (e:=dx) (by rw[hd];trivial) (.inl rfl) (λb o hb z=>(sb.2 b hb).trans z) (let ⟨o,_,_,z,_⟩:=n';⟨o,z⟩) (JT n' (λg=>?_) (λg hg=>?_) ?_),q3⟩
  ·show jD ((d7 f y fs).lookup g) (if g=f then some u else mA g);rw[bD];by_cases z:g=f
   ·rw[zS z,zS z];exact ry
   ·rw[yA z,yA z];exact r g
  ·by_cases z:g=f
   ·rw[z];exact(iJ f y fs).1
   ·refine(iJ f y fs).2 g (wi g λz2=>hg ?_);show (if g=f then some u else mA g)=none;rw[yA z];exact z2
  ·have:=jK f y fs;lia
structure abp(K:W.Frag)(C:Addr):Prop where
 ga:W.findIn K (.ref C) "__getattribute__" = some (some (.builtin "BaseException.__getattribute__"))
 gb:W.findIn K (.ref C) "__getattr__" = some none
 mb:W.mroIn K C (.type "BaseException")=some true
 hd:W.hasDictIn K C=true
end
section
variable{M:Model}{A:Around}{E:xB}{s:Shared}{base:Heap}{env:Env}{outer:List Env}{L e:Addr}{oe:Obj}{vs:xI}
structure Left(fr:List Addr)(h h':Heap)(e:Addr)(oe:Obj)(vs:xI)(T:Addr):Prop where
 keep:∀b o,b≠e->b ∉ fr->h.get? b=some o->(∀z,vs[1]?=some (.ref z)->b≠z)->h'.get? b=some o
 slot:∀b o,b∈fr->h.get? b=some o->∃sl,h'.get? b=some { o with slots:=sl }
 new:h.objs.size<=T
 ent:∃oT ts,h'.get? T=some oT/\oT.data=.fields ts/\ts[3]?=some .none
 obj:h'.get? e=some { oe with data:=.fields (vs.setIfInBounds 1 (.ref T)) }
theorem VH(hl:s.heap.FunFrames base (env::outer))(he:s.heap.get? e=some oe)(hd:oe.data=.fields vs):e ∉ frs (env::outer):=λhm=>by
 obtain⟨_,o,ho,hn⟩:=hl.mem hm;rw[he] at ho;cases ho;exact hn vs hd
theorem lV{head:Value}{hadNext:Bool}{Q:xA}(hfr:A.frames=some (env::outer))(hl:s.heap.FunFrames base (env::outer))(hf:env.frame=some L)(he:s.heap.get? e=some oe)(hd:oe.data=.fields vs)(hsz:1<vs.size)
  (h:∀h' T,Left (frs (env::outer)) s.heap h' e oe vs T->Q () { s with heap:=h' }) :
  wpAny M A (do let a <- frameOf env;let pl <- entryPlaceOf L hadNext;let b <- EntryCells.newEntry head a .none (rawInt L) .none pl;setField (.ref e) 1 b) (λ_ s'=>wpAny M A (setFlight (.ref e) none) Q E s') E s:=by
 have hne:=VH hl he hd;refine zI (wpAny_frameOf_fun hfr hl hf λg hg=>zI (wpAny_entryPlaceOf λpl hpl=>?_));unfold EntryCells.newEntry newFields;refine zI (wpAny_newObj_type ?_ (hpl.sizeOk5 _ _ _ _ _));have he1:g.get? e=some oe:=(hg.2.1 e hne).trans he;have gsz:s.heap.objs.size<=g.objs.size:=by
  have:=hg.1
  lia
 generalize hT:({ cls:=.type "traceback", data:=.fields ([head,.ref L,.none,rawInt L,.none]++(if pl.isEmpty then List.replicate 6 Value.none else pl)).toArray }:Obj)=oT
 obtain⟨ts,hts,h4⟩:∃ts:Array Value,oT.data=.fields ts/\3<ts.size:=by
  rw[<- hT];exact⟨_,rfl,by simp only[List.size_toArray,List.length_append,List.length_cons,List.length_nil];lia⟩
 have fresh:∀b o,g.get? b=some o->g.objs.size≠b:=λb o z=>Nat.ne_of_gt (gS z)
 have he2:(g.push oT).get? e=some oe:=gX _ he1;have hTe:g.objs.size≠e:=fresh e oe he1;refine wpAny_setField he2 hd hsz ?_;have hd3:=Obj.data_mapFields hd (·.setIfInBounds 1 (Value.ref g.objs.size));have he3:=Heap.get?_update_self (Obj.mapFields (·.setIfInBounds 1 (Value.ref g.objs.size))) he2 (Obj.isFreed_of_fields hd3);have hfr':oT.isFreed=false:=Obj.isFreed_of_fields hts;have hT3:((g.push oT).update e (Obj.mapFields (·.setIfInBounds 1 (Value.ref g.objs.size)))).get? g.objs.size=some oT:=(nE _ _ (Ne.symm hTe)).trans (rV g hfr');unfold setFlight;refine wpAny_bind (wpAny_field he3 hd3 (x:=.ref g.objs.size) (by simp[hsz]) ?_);rw[if_pos (show (Value.ref g.objs.size != Value.none)=true from by simp)];have JW:∀b o,b≠e->g.get? b=some o->(((g.push oT).update e (Obj.mapFields (·.setIfInBounds 1 (Value.ref g.objs.size)))).update g.objs.size (Obj.mapFields (·.setIfInBounds 3 ((none:xL).elim Value.none λf=>rawInt f)))).get? b=some o:=λb o hb z=>by
  rw[nE _ _ (fresh b o z),nE _ _ (Ne.symm hb)];exact gX _ z
 refine wpAny_setField hT3 hts h4 (h _ g.objs.size ⟨λb o hb hn z _=>JW b o hb ((hg.2.1 b hn).trans z),λb o hb z=>?_,gsz,?_,?_⟩)
 ·obtain⟨sl,z2⟩:=hg.2.2 b o z;exact⟨sl,JW b _ (λq=>hne (by rw[<- q];exact hb)) z2⟩
 ·exact⟨_,_,Heap.get?_update_self _ hT3 (Obj.isFreed_of_fields (Obj.data_mapFields hts _)),Obj.data_mapFields hts _,by simp[h4]⟩
 ·rw[nE _ _ hTe,he3];obtain⟨c1,d1,t1,s1⟩:=oe;simp only at hd;subst hd
  rfl
theorem Di{Q:xA}(hfr:A.frames=some (env::outer))(hl:s.heap.FunFrames base (env::outer))(hf:env.frame=some L)(he:s.heap.get? e=some oe)(hd:oe.data=.fields vs)(h1:vs[1]?=some .none)
  (h:∀h' T,Left (frs (env::outer)) s.heap h' e oe vs T->Q () { s with heap:=h' }):wpAny M A (leaving env (.ref e)) Q E s:=by
 unfold leaving noteFrame;simp only[hf];refine zI (zI (wpAny_field he hd h1 ?_));rw[yA (by decide)];exact lV hfr hl hf he hd (Array.getElem?_eq_some_iff.mp h1).1 h
theorem Hl{Q:xA}{T0:Addr}{o0:Obj}{ts0:xI}(hfr:A.frames=some (env::outer))(hl:s.heap.FunFrames base (env::outer))(hf:env.frame=some L)(he:s.heap.get? e=some oe)(hd:oe.data=.fields vs)(h1:vs[1]?=some (.ref T0))
  (hT:s.heap.get? T0=some o0) (hdT:o0.data=.fields ts0) (h3:ts0[3]?=some .none) (hTe:T0≠e)
  (h:∀h' T,Left (frs (env::outer)) s.heap h' e oe vs T->Q () { s with heap:=h' }):wpAny M A (leaving env (.ref e)) Q E s:=by
 unfold leaving noteFrame;simp only[hf];refine zI (zI (wpAny_field he hd h1 ?_));rw[if_pos (show (Value.ref T0 != Value.none)=true from by simp)];refine zI (wpAny_field hT hdT h3 ?_);rw[if_neg (show ¬ ((Value.none==rawInt L)=true) from by simp[rawInt])];refine zI (wpAny_setField hT hdT (Array.getElem?_eq_some_iff.mp h3).1 ?_);have hoth:∀b,b≠T0->(s.heap.update T0 (Obj.mapFields (·.setIfInBounds 3 Value.none))).get? b=s.heap.get? b:=λb hb=>nE _ _ (Ne.symm hb)
 have hno:∀b o,s.heap.get? b=some o->(∀z,o.data≠.fields z)->b≠T0:=λb o z hn q=>by
  rw[q,hT] at z;cases z;exact hn ts0 hdT
 have hl2:(s.heap.update T0 (Obj.mapFields (·.setIfInBounds 3 Value.none))).FunFrames base (env::outer):=hl.of_keeps λb o z hn=>⟨o,(hoth b (hno b o z hn)).trans z,rfl⟩
 refine lV (s:={ s with heap:=s.heap.update T0 (Obj.mapFields (·.setIfInBounds 3 Value.none)) }) hfr hl2 hf ((hoth e (Ne.symm hTe)).trans he) hd (Array.getElem?_eq_some_iff.mp h1).1 λh' T lf=>h h' T ⟨λb o hb hn z hz=>lf.keep b o hb hn ((hoth b (hz T0 h1)).trans z) hz,λb o hb z=>?_,?_,lf.ent,lf.obj⟩
 ·obtain⟨_,o',ho',hn'⟩:=hl.mem hb;rw[z] at ho';cases ho';exact lf.slot b o hb ((hoth b (hno b o z hn')).trans z)
 ·have:=lf.new;rw[Heap.size_update] at this;exact this
end
def abq(n:Nat)(h:Heap)(a C:Addr)(dx:xL)(H:Hp):Prop :=
 ∃oe vs T oT ts,h.get? a=some oe/\oe.cls=.ref C/\oe.dict=dx/\oe.data=.fields vs/\vs[1]?=some (.ref T)/\T≠a/\h.get? T=some oT/\oT.data=.fields ts/\ts[3]?=some .none/\H a=none/\H T=none/\n<=a/\n<=T/\vs[2]?=some .none
def CX1(P:Program)(w:World):CXT:=λouter H s E ev s' =>
 ∃a C dx H',ev=.ref a/\s'.os=s.os/\AllBare s'.gens/\Un (frs outer) [] H H' s.heap s'.heap/\HOk P w H' s'.heap/\abq s.heap.objs.size s'.heap a C dx H'/\E (.ref C) dx H'
theorem jM{P:Program}{w:World}{X:Cx}:Passes (CX1 P w) X E0:=λ_ _ _ _ _ _ _ ⟨_,_,_,_,_,_,_,_,_,_,z⟩=>z.elim
theorem tG{P:Program}{w:World}{H:Hp}{h h':Heap}{fr:List Addr}{e T:Addr}{oe:Obj}{vs:xI}(ok:HOk P w H h)(lf:Left fr h h' e oe vs T)(he:H e=none)(hT:∀z,vs[1]?=some (.ref z)->H z=none)(hfr:∀b∈fr,H b=none):HOk P w H h':=λb u z=>by
 refine(ok b u z).stay (λc v hc q=>?_) (λ_ q=>q) λ_ _ q=>q
 have hcs:∃x,H c=some x:=by
  rcases hc with rfl|hc
  ·exact⟨_,z⟩
  ·exact⟨_,hc⟩
 obtain⟨x,hx⟩:=hcs;exact lf.keep c v (aQ hx he) (λm=>by rw[hfr c m] at hx;cases hx) q λy hy=>aQ hx (hT y hy)
theorem JX{H0 H:Hp}{h0 h h':Heap}{fs fr:List Addr}{e T:Addr}{oe:Obj}{vs:xI}(u:Un fs [] H0 H h0 h)(lf:Left fr h h' e oe vs T)(hfs:∀b,b∈fs->b∈fr)(hfr:∀b o,h0.get? b=some o->b∈fr->b∈fs)
  (he:h0.objs.size<=e) (hT:∀z,vs[1]?=some (.ref z)->h0.objs.size<=z):Un fs [] H0 H h0 h':=by
 have ne:∀b o,h0.get? b=some o->b≠e/\∀z,vs[1]?=some (.ref z)->b≠z:=λb o q =>
  ⟨qB (qA (gS q) he),λz hz=>qB (qA (gS q) (hT z hz))⟩
 refine⟨λb o q n hb hx=>lf.keep b o (ne b o q).1 (λm=>hb (hfr b o q m)) (u.keep b o q n hb hx) (ne b o q).2,λb o q n hb hx=>?_,u.free,λb o q hx=>?_,u.tups,u.jE,u.jF⟩
 ·obtain⟨sl,z⟩:=u.slot b o q n hb hx;obtain⟨sl2,z2⟩:=lf.slot b _ (hfs b hb) z;exact⟨sl2,z2⟩
 ·obtain⟨o2,z⟩:=u.there b o q hx;by_cases m:b∈fr
  ·obtain⟨sl,z2⟩:=lf.slot b o2 m z;exact⟨_,z2⟩
  ·exact⟨o2,lf.keep b o2 (ne b o q).1 m z (ne b o q).2⟩
section
variable{P:Program}{w:World}{K:W.Frag}{mg:xC}{base:Heap}{N:List Str}{qual:Str}{scope:Scope}{f:Addr}{cd:Value}{A:Around}{outer:List Env}{s:Shared}{H:Hp}{E:XK}
theorem nj:Passes (CX1 P w) (fu (CX1 P w) P w K mg base N qual scope f cd A outer s H E) E:=by
 intro pins σ H1 s1 ev s2 I hc;obtain⟨a,C,dx,H',rfl,hos,hb,un,hok,⟨oe,vs,T,oT,ts,ga,gc,gd,gf,g1,gne,gT,gt,g3,ha,hT,na,nT,g2⟩,q⟩:=hc;have I2:Inv (fu (CX1 P w) P w K mg base N qual scope f cd A outer s H E) pins σ H' s2:=I.call' (ch:=[]) hos un hok hb (λb z=>absurd z (by simp));show wpAny (model P w) (A.deeper (envOfC qual scope s.heap.objs.size f cd)) (leaving (envOfC qual scope s.heap.objs.size f cd) (.ref a)) _ _ s2;refine Hl (base:=base) I.ok.frames I2.stack rfl ga gf g1 gT gt g3 gne λh' T' lf=>?_
 have hz:∀z,vs[1]?=some (.ref z)->z=T:=λz hz=>by rw[g1] at hz;cases hz;rfl
 have s0:s.heap.objs.size<=s1.heap.objs.size:=I.sz;have Qs:∀b∈frs (envOfC qual scope s.heap.objs.size f cd::outer),H' b=none:=I2.mU;obtain⟨oT',ts',gT',gt',g3'⟩:=lf.ent;refine⟨a,C,dx,H',rfl,I2.os,I2.bare,JX I2.base lf (λb hb=>?_) (λb o q m=>?_) (rS s0 na) (λz h=>by rw[hz z h];exact rS s0 nT),tG I2.hok lf ha (λz h=>by rw[hz z h];exact hT) Qs,?_,q⟩
 ·show b∈frs (envOfC qual scope s.heap.objs.size f cd::outer);unfold frs;rw[List.filterMap_cons];exact zD _ hb
 ·have m:b∈frs (envOfC qual scope s.heap.objs.size f cd::outer):=m;unfold frs at m;rw[List.filterMap_cons] at m;rcases vS.mp m with z|z
  ·exact gE (gS q) (by rw[z];exact qE _)
  ·exact z
 ·have hsz2:s.heap.objs.size<=s2.heap.objs.size:=I2.sz;have nTa:T'≠a:=λz=>gE (gS ga) (by rw[<- z];exact Nat.not_lt.mpr lf.new)
  refine⟨_,_,T',oT',ts',lf.obj,gc,gd,rfl,?_,nTa,gT',gt',g3',ha,I2.hok.fresh lf.new,rS s0 na,rS hsz2 lf.new,(Array.getElem?_setIfInBounds_ne (by decide)).trans g2⟩;have:1<vs.size:=(Array.getElem?_eq_some_iff.mp g1).1;simp[this]
end
mutual
def pyD:Dt->PyData
 | .non=>.none
 | .bl b=>.bool b
 | .int i=>.int i
 | .str x=>.str x
 | .lst xs=>.list (zQ xs)
 | .tup xs=>.tuple (zQ xs)
def zQ:List Dt->List PyData
 | []=>[]
 | x::xs=>pyD x::zQ xs
end
section
variable{X:Cx}{pins:List (Addr×Obj)}{σ:St}{H:Hp}{s:Shared}
mutual
theorem Dj(I:Inv X pins σ H s):∀(d:Dt)(v:V)(u:Value),Rep X.K H d v->RelV v u->∃as,Reads s.heap u (pyD d) as
 | .non,v,u,h,r=>by
  obtain rfl:v=.non:=by simpa[Rep] using h
  cases (show u=Value.none from r);exact⟨_,.none⟩
 | .bl b,v,u,h,r=>by
  obtain rfl:v=.bl b:=by simpa[Rep] using h
  cases (show u=Value.bool b from r);exact⟨_,.bool b⟩
 | .int i,v,u,h,r=>by
  obtain rfl:v=.int i:=by simpa[Rep] using h
  obtain⟨t,rfl⟩:=(show ∃t,u=Value.int i t from r);exact⟨_,.int i t⟩
 | .str x,v,u,h,r=>by
  obtain rfl:v=.str x:=by simpa[Rep] using h
  obtain⟨t,rfl⟩:=(show ∃t,u=Value.str x t from r);exact⟨_,.str x t⟩
 | .lst ds,v,u,h,r=>by
  obtain⟨p,xs,rfl,hq,hr⟩:∃p xs,v=.ref p/\SqL X.K H p xs/\cG X.K H ds xs:=by simpa[Rep] using h
  cases (show u=Value.ref p from r);obtain⟨its,rv,⟨o,n,e,c,_,dd⟩,_⟩:=I.list hq;obtain⟨as,ra⟩:=jN I ds xs its hr rv;exact⟨_,.list e c dd (by simpa using ra)⟩
 | .tup ds,v,u,h,r=>by
  obtain⟨p,xs,rfl,hq,hr⟩:∃p xs,v=.ref p/\SqT X.K H p xs/\cG X.K H ds xs:=by simpa[Rep] using h
  cases (show u=Value.ref p from r);obtain⟨its,rv,⟨o,e,c,n,dd⟩,_⟩:=I.tuple hq;obtain⟨as,ra⟩:=jN I ds xs its hr rv;exact⟨_,.tuple e c dd (by simpa using ra)⟩
theorem jN(I:Inv X pins σ H s):∀(ds:List Dt)(xs:List V)(us:xE),cG X.K H ds xs->Vals xs us->∃as,ReadsAll s.heap us (zQ ds) as
 | [],xs,us,h,r=>by
  obtain rfl:xs=[]:=by simpa[cG] using h
  cases r;exact⟨_,.nil⟩
 | d::ds,xs,us,h,r=>by
  obtain⟨x,q,rfl,h1,h2⟩:∃x r,xs=x::r/\Rep X.K H d x/\cG X.K H ds r:=by simpa[cG] using h
  cases r with
  | cons r1 r2 =>
   obtain⟨as,a⟩:=Dj I d x _ h1 r1;obtain⟨bs,b⟩:=jN I ds q _ h2 r2;exact⟨_,.cons a b⟩
end
mutual
theorem tH:∀d:Dt,(pyD d).hasDict=false
 | .non=>by simp[pyD,PyData.hasDict]
 | .bl _=>by simp[pyD,PyData.hasDict]
 | .int _=>by simp[pyD,PyData.hasDict]
 | .str _=>by simp[pyD,PyData.hasDict]
 | .lst xs=>by simp only[pyD,PyData.hasDict];exact jO xs
 | .tup xs=>by simp only[pyD,PyData.hasDict];exact jO xs
theorem jO:∀ds:List Dt,PyData.hasDictAll (zQ ds)=false
 | []=>by simp[zQ,PyData.hasDictAll]
 | d::ds=>by simp only[zQ,PyData.hasDictAll,tH d,jO ds,Bool.or_false]
end
end
def Shows(X:Cx)(H:Hp)(x:V)(d:PyData):Prop:=∀(pins:List (Addr×Obj)) (σ:St) (s:Shared) (u:Value),Inv X pins σ H s->RelV x u->∃as,Reads s.heap u d as/\(d.hasDict=true->sysModules ∉ as)
theorem oW{X:Cx}{H:Hp}{x:V}{d:Dt}(h:Rep X.K H d x):Shows X H x (pyD d):=λpins σ s u I r=>by
 obtain⟨as,a⟩:=Dj I d x u h r;exact⟨as,a,PyData.noDict_hsm (tH d)⟩
theorem Nf{X:Cx}{k:Nat}(hr:Room k X.A):g_ X (.builtin "repr") (λxs H Q=>∃x d,xs=[x]/\Shows X H x d/\d.showable=true/\d.depth<=100/\d.shown.length<=sizeLine/\Q (.str d.shown) H):=by
 intro pins s σ H xs us Q I r h;obtain⟨x,d,rfl,sh,hs,hd,hz,q⟩:=h;obtain⟨u,rfl,rx⟩:=vals1 r;obtain⟨as,ra,hsm⟩:=sh pins σ s u I rx;have hu:=hr.un;cases u with
 | ref a=>exact repr_of_reads' ra hs hsm hr.gd (by lia) (λ_ _ e=>e) (λh' u tk hk=>⟨.str _,H,I.kept hk,⟨u,rfl⟩,q⟩) hz
 | none=>cases ra;simp only[PyData.shown] at q;exact P.repr_of_none ⟨.str _,H,I.tok _,⟨_,rfl⟩,q⟩
 | bool b=>cases ra;simp only[PyData.shown] at q;exact P.repr_of_bool ⟨.str _,H,I.tok _,⟨_,rfl⟩,q⟩
 | int i t=>cases ra;simp only[PyData.shown] at q;exact P.repr_of_int (by simpa[PyData.showable] using hs) ⟨.str _,H,I.tok _,⟨_,rfl⟩,q⟩
 | str y t=>cases ra;simp only[PyData.shown] at q hz;exact P.repr_of_str ⟨.str _,H,I.tok _,⟨_,rfl⟩,q⟩ hz
 | _=>cases ra
structure tK(K:W.Frag)(C R:Addr):Prop where
 g:abp K C
 mro:(W.clsIn K C).map (·.mro)=some [.ref C,.ref R,.type "ValueError", .type "Exception", .type "BaseException", .type "object"]
 ty:W.typeIn K (.ref C)=some (.type "type")
 ha:W.findIn K (.ref C) "__class__" = some (some (.builtin "object.__class__"))
 hn:W.specialIn K (.builtin "object.__class__") "__get__" = some (some (.builtin "getset_descriptor.__get__"))
 tk:W.takesIn K (.builtin "object.__class__")=some true
section
variable{prog:Program}{w:World}{A:Around}{E:xB}{s:Shared}{K:W.Frag}{e C R:Addr}{oe:Obj}{odo:Option Obj}
theorem tK.in(G:tK K C R)(b:Value):W.mroIn K C b=some ([Value.ref C,.ref R,.type "ValueError", .type "Exception", .type "BaseException", .type "object"].contains b):=by
 obtain⟨cd,hc,hm⟩:=Option.map_eq_some_iff.mp G.mro;unfold W.mroIn;rw[hc,Option.bind_some,hm]
 rfl
theorem Ng{Q:Option Value->Shared->Prop}(G:tK K C R)(X:K.In s.heap)(J:W.InstAt s.heap e oe C odo)(h:Q (some (.ref C)) { s with toks:=s.toks+1 }):wpAny (model prog w) A (getAttr? (.ref e) "__class__") Q E s:=by
 have hfo:W.findObj K C odo "__class__" = some (.bind (.builtin "getset_descriptor.__get__") (.builtin "object.__class__")):=by
  obtain⟨cd,hc,hm⟩:=Option.map_eq_some_iff.mp G.mro;unfold W.findObj;rw[hc,Option.bind_some,G.ha,Option.bind_some];simp[G.hn,G.tk]
 obtain⟨hp,g,d,t,os⟩:=s;have L0:=J.type (M:=model prog w);have L1:=W.looks_findIn (M:=model prog w) X G.g.ga;have L2:=W.looks_find (M:=model prog w) X J hfo;have L3:=W.looks_findIn (M:=model prog w) X G.g.gb;have hx0:(false && onTheHeap (Value.builtin "BaseException.__getattribute__"))=false:=rfl;have sub:W.Looks (model prog w) hp (isInstance (.ref e) (.type "BaseException")) true:=J.type.andThen (W.looks_mroIn X G.g.mb);unfold getAttr? getAttrBy? getAttrBy;refine zI (wpAny_mkText (zI (wpAny_attempt (nK (zI (L0.at (zI (L1.at ?_))))))));show wpAny _ _ (getAttrByItsOwn (.ref e) (.str "__class__" t) (.ref C) (.builtin "BaseException.__getattribute__") false false) _ _ _;unfold getAttrByItsOwn;refine zI (show wpAny _ _ (typeLookup (.ref C) "__getattr__") _ _ _ from L3.at ?_);refine zI (wpAny_attempt (nK ?_));unfold callGetattribute;rw[hx0,yA vE];unfold boundAndCalled;rw[PySem.F.excAttr_ValueError.ga.bind (.ref e)];refine zI (uS (wpAny_call (codeAny_call_builtin PySem.F.excAttr_ValueError.ga.plain PySem.F.entry_bexc_ga (@W.check_slot (model prog w) _ _ _ "BaseException.__getattribute__" "BaseException" "__getattribute__" (.ref e) [.str "__class__" t] [] _ (by decide +kernel) (by decide +kernel) sub (PySem.F.args_bexc_ga _ _) ?_))));refine zI (uS (zI (uS (zI (L0.at (zI (L2.at ?_)))))));have hm:W.mroIn K C (.type "object")=some true:=G.in _;refine zI (nK (wpAny_call (W.class_get (s:=⟨hp,g,d,t+1,os⟩) (ox:=oe) (od:=odo) X J hm (uS ?_))));exact W.handed_on rfl (uS h)
theorem Dk(G:tK K C R):W.KitX K (.ref e) (.ref C) (λh=>∃oe odo,W.InstAt h e oe C odo) where
 ty:=λ_ _ _ ⟨_,_,J⟩=>J.type
 it:=λ_ _ X _=>by
  obtain⟨cd,hc,_⟩:=Option.map_eq_some_iff.mp G.mro;unfold W.clsIn at hc;split at hc
  ·rename_i c' d' cd' sl' ho;intro A' Q' E' s' k q;unfold isType loadHead;exact zI (wpAny_loadPart (k _ _ (X _ _ ho)) (uS q))
  ·cases hc
 ne:=λh tp dd its n sl X htp=>by
  obtain⟨cd,hc,_⟩:=Option.map_eq_some_iff.mp G.mro;refine Bool.eq_false_iff.mpr λq=>?_
  have e:C=tp:=Value.ref.inj (beq_iff_eq.mp q);subst e;unfold W.clsIn at hc;split at hc
  ·rename_i c' d' cd' sl' ho;have z:=(X _ _ ho).symm.trans htp;cases z
  ·cases hc
 ca:=λX ⟨_,_,J⟩ k=>Ng G X J k
theorem tL(G:tK K C R)(hR:(W.clsIn K R).isSome=true)(tR:W.typeIn K (.ref R)=some (.type "type")):W.kitOne K (.ref C) (.ref R)=some true:=by
 unfold W.kitOne;by_cases q:C=R
 ·subst q;rw[if_pos (by simp)]
 ·rw[if_neg (by simpa using q)];unfold W.kitCls;simp only;rw[zS (by rw[hR,tR];rfl)];show W.mroIn K C (.ref R)=_;rw[G.in];simp[List.contains_cons]
end
def ExcAt(H:Hp)(x C:Addr)(fs:List (Str×V)):Prop:=(fs=[]/\H x=some (jB x C none))\/∃dx,H x=some (jB x C (some dx))/\H dx=some (dJ dx fs)/\dx≠x
def VJ(C:Addr)(f:Str):Sp:=λvs H Q _=>∃x v,vs=[.ref x,v]/\H x=some (jB x C none)/\∀dx,H dx=none->Q .non (upd (upd H dx (dJ dx [(f,v)])) x (jB x C (some dx)))
structure jk(K:W.Frag)(mg:xC)(x qual:Str)(st:Stmt)(C R:Addr):Prop where
 ex:∃f fd,abo K C f [.ref R,.type "ValueError", .type "Exception", .type "BaseException", .type "object"]/\Fun K "__init__" qual st f fd
 gl:mg x=some (.ref C)
 S:Hi K C
 I:tK K C R
theorem JV(R:Addr):tD "ValueError" "ValueError.__new__" "ValueError.__init__" [.ref R,.type "ValueError", .type "Exception", .type "BaseException", .type "object"]:=rA.under R
section
variable{P:Program}{w:World}{K:W.Frag}{mg:xC}{base:Heap}{CX:CXT}{qual f:Str}{st:Stmt}
def zR(P:Program)(w:World)(K:W.Frag)(mg:xC)(base:Heap)(CX:CXT)(qual:Str)(st:Stmt)(ps:List Str)(sp:Sp):Prop:=∀f fd,Fun K "__init__" qual st f fd->gM P w K mg base CX 1 f fd ps sp/\Binds K fd ps []
end
section
variable{K:W.Frag}{mg:xC}{x qual:Str}{st:Stmt}{C R f:Addr}{nm q:Str}{N:Addr}{bs:xE}{sn:List Str}{sub:xE}{ab:Bool}{col:Option Bool}{dd:xL}{k0 k1 k2 k3 k5:Option Value}{od an:xL}{osl:Array (Option Value)}{kV doc pm cdv ct:Value}
theorem zT(l:K.lookup C=some (excClassObj nm q C N bs [.ref R,.type "ValueError", .type "Exception", .type "BaseException", .type "object"] true sn sub ab col dd k0 k1 k2 k3 k5 "ValueError.__new__"))
  (sa:W.findIn K (.ref C) "__setattr__" = some (some (.builtin "object.__setattr__"))):Hi K C:=by
 have hc:∃cd,W.clsIn K C=some cd/\cd.mro=[.ref C,.ref R,.type "ValueError", .type "Exception", .type "BaseException", .type "object"]/\cd.hasDict=true:=by
  unfold W.clsIn;rw[l];exact⟨_,rfl,rfl,rfl⟩
 obtain⟨cd,h1,h2,h3⟩:=hc;refine⟨sa,?_,?_⟩
 ·unfold ni;rw[h1,Option.any_some,h2]
  rfl
 ·unfold W.hasDictIn;rw[h1,Option.any_some,h3]
theorem zU(l:K.lookup C=some (excClassObj nm q C N bs [.ref R,.type "ValueError", .type "Exception", .type "BaseException", .type "object"] true sn sub ab col dd k0 k1 k2 k3 k5 "ValueError.__new__"))
  (ga:W.findIn K (.ref C) "__getattribute__" = some (some (.builtin "BaseException.__getattribute__"))) (gb:W.findIn K (.ref C) "__getattr__" = some none)
  (ha:W.findIn K (.ref C) "__class__" = some (some (.builtin "object.__class__"))) (hn:W.specialIn K (.builtin "object.__class__") "__get__" = some (some (.builtin "getset_descriptor.__get__"))) (tk:W.takesIn K (.builtin "object.__class__")=some true):tK K C R:=by
 have hc:∃cd,W.clsIn K C=some cd/\cd.mro=[.ref C,.ref R,.type "ValueError", .type "Exception", .type "BaseException", .type "object"]/\cd.hasDict=true:=by
  unfold W.clsIn;rw[l];exact⟨_,rfl,rfl,rfl⟩
 obtain⟨cd,h1,h2,h3⟩:=hc;refine⟨⟨ga,gb,?_,?_⟩,?_,?_,ha,hn,tk⟩
 ·unfold W.mroIn;rw[h1,Option.bind_some,h2]
  rfl
 ·unfold W.hasDictIn;rw[h1,Option.any_some,h3]
 ·rw[h1,Option.map_some,h2]
 ·show (List.lookup C K).map (·.cls)=_;rw[l]
  rfl
theorem jk.mk1(m:mg x=some (.ref C))(l:K.lookup C=some (excClassObj nm q C N bs [.ref R,.type "ValueError", .type "Exception", .type "BaseException", .type "object"] true sn sub ab col dd k0 k1 k2 k3 k5 "ValueError.__new__"))
  (i:W.findIn K (.ref C) "__init__" = some (some (.ref f))) (lf:K.lookup f=some ⟨.type "function", od,.func (W.fnOf "__init__" qual (bF st) (bf st) (au st) .none kV doc pm an cdv ct),osl⟩)
  (c:W.codeIn K cdv qual=true) (kf:W.keepIn K (.ref f)=true) (kc:W.keepIn K (.ref C)=true) (S:Hi K C) (I:tK K C R):jk K mg x qual st C R :=
 ⟨⟨f,_,⟨⟨nm,q,N,bs,true,sn,sub,ab,col,dd,k0,k1,k2,k3,k5,l⟩,JV R,i,⟨_,lf,rfl⟩,kc⟩,lQ lf c kf⟩,m,S,I⟩
end
theorem Dl:∀ts:List Str,(listText ts).length<=piled ts+2
 | []=>by decide
 | t::r=>by
  have h:=textFrom_length_pos r 1 (("[" : Str)++(if (0:Nat) > 0 then ", " else "" : String)++t) (Nat.succ_pos 0);have e:((("[" : Str)++(if (0:Nat) > 0 then ", " else "" : String)++t)).length=1+t.length:=by
   rw[strLen_append,strLen_append];rfl
  have hX:(listText (t::r)).length=(textFrom 0 "[" (t::r)).length+1:=by
   show (textFrom 0 "[" (t::r) ++ "]").length=_;rw[strLen_append];rfl
  have hY:(textFrom 0 "[" (t::r)).length=(textFrom 1 (("[" : Str)++(if (0:Nat) > 0 then ", " else "" : String)++t) r).length:=rfl;rw[hX,hY,h,e,piled_cons];lia
theorem zV(ts:List Str):(tupleText ts).length<=piled ts+3:=by
 unfold tupleText;rw[strLen_append,strLen_append];have h1:(Str.ofString (if ts.length==1 then ",)" else ")" : String)).length<=2:=by split <;> decide
 have h2:(("(" : Str)).length=1:=rfl;have h3:(Str.join ", " ts).length<=piled ts:=by
  cases ts with
  | nil=>decide
  | cons a b=>have:=join_length_add (a::b) (by simp);lia
 rw[h2]
 lia
structure Shm(m d:Nat)(x:PyData):Prop where
 sh:x.showable=true
 ln:x.shown.length<=m
 dp:x.depth<=d
theorem zW{m d:Nat}:∀{xs:List PyData},(∀x∈xs,Shm m d x)->PyData.showableAll xs=true/\piled (PyData.shownAll xs)<=xs.length*(m+2)/\PyData.depthAll xs<=d
 | [],_=>⟨by simp[PyData.showableAll],by simp[PyData.shownAll,piled],by simp[PyData.depthAll]⟩
 | x::xs,h=>by
  obtain⟨a,b,c⟩:=zW (xs:=xs) λy hy=>h y (zD _ hy)
  have hx:=h x (zC ..);refine⟨by simp[PyData.showableAll,hx.sh,a],?_,?_⟩
  ·rw[PyData.shownAll,piled_cons,mN,Nat.succ_mul];have:=hx.ln
   lia
  ·rw[PyData.depthAll];exact Nat.max_le.mpr ⟨hx.dp,c⟩
theorem Dm{m d:Nat}{xs:List PyData}(h:∀x∈xs,Shm m d x):Shm (xs.length*(m+2)+2) (d+1) (.list xs):=by
 obtain⟨a,b,c⟩:=zW h;refine⟨by simpa[PyData.showable] using a,?_,by rw[PyData.depth];lia⟩;rw[PyData.shown];have:=Dl (PyData.shownAll xs)
 lia
theorem VL{m d:Nat}{xs:List PyData}(h:∀x∈xs,Shm m d x):Shm (xs.length*(m+2)+3) (d+1) (.tuple xs):=by
 obtain⟨a,b,c⟩:=zW h;refine⟨by simpa[PyData.showable] using a,?_,by rw[PyData.depth];lia⟩;rw[PyData.shown];have:=zV (PyData.shownAll xs)
 lia
theorem Shm.mono{m m' d d':Nat}{x:PyData}(h:Shm m d x)(a:m<=m')(b:d<=d'):Shm m' d' x:=⟨h.sh,rS h.ln a,rS h.dp b⟩
theorem JZ{i:Int}{k:Nat}(hk:0<k)(h:i.natAbs<10 ^ k)(h2:k<=200):Shm (k+1) 0 (.int i):=by
 refine⟨?_,?_,by rw[PyData.depth];exact uA _⟩
 ·simp only[PyData.showable,decide_eq_true_eq];by_cases hz:i.natAbs=0
  ·rw[hz];decide
  ·have h3:10 ^ k<=10 ^ 200:=Nat.pow_le_pow_right (by decide) h2;have h4:i.natAbs<2 ^ 1920:=qA (qA h h3) (by decide +kernel);exact(Nat.log2_lt hz).mpr h4
 ·rw[PyData.shown];rw[PySem.ofString_length];exact int_text_length_le10 hk h
theorem VN{x:Str}(h:∀c∈x.cps.toList,c<16 ^ 8):Shm (10*x.length+2) 0 (.str x):=by
 refine⟨by simp[PyData.showable],?_,by rw[PyData.depth];exact Nat.le_refl _⟩;rw[PyData.shown];exact StrLaws.reprText_len x h
theorem VP:Shm 4 0 .none:=⟨by simp[PyData.showable],by rw[PyData.shown];decide,by rw[PyData.depth];exact Nat.le_refl _⟩
theorem YJ(b:Bool):Shm 5 0 (.bool b):=⟨by simp[PyData.showable],by rw[PyData.shown];cases b <;> decide,by rw[PyData.depth];exact Nat.le_refl _⟩
structure New(H H':Hp)(p:Addr)(o:HO):Prop where
 s:Same H H'
 e:H' p=some o
 n:∀a u,H a=some u->a≠p
theorem New.mk'{H:Hp}{p:Addr}{o:HO}(h:H p=none):New H (upd H p o) p o:=⟨Same.new h,bx,λa u q=>aQ q h⟩
section
variable{X:Cx}{es:List Expr}{t:TA}{pos:Pos}
def Qt(t:TA):TE:=λσ H Q=>t σ H λxs H1=>xs.length<=sizeLine/\∀p H',New H1 H' p (.tup xs)->Q (.ref p) H'
def Qu(t:TA):TE:=λσ H Q=>t σ H λxs H1=>xs.length<=sizeLine/\∀p H',New H1 H' p (.lst xs)->Q (.ref p) H'
theorem bw{x1}(h:PA X es t):PE X (.Tuple es x1 pos) (Qt t):=by
 intro pins s σ H Q I hq;refine wpAny_Tuple_spliced (thn (h pos pins s σ H _ I hq) λus s1 ⟨xs,H1,I1,r,z,q⟩=>⟨by rw[<- r.length];exact z,?_⟩);have hf:H1 s1.heap.objs.size=none:=I1.hok.fresh (uA _);refine⟨.ref s1.heap.objs.size,upd H1 s1.heap.objs.size (.tup xs),I1.laid (t':=s1.toks) (λb u e=>gX _ e) (uA _) ?_,rfl,q _ _ (.mk' hf)⟩;exact⟨z,us,r,⟨_,rV _ rfl,rfl,_,rfl⟩⟩
theorem aU(h:PA X es t):PE X (.List es pos) (Qu t):=by
 intro pins s σ H Q I hq;refine wpAny_List_spliced (thn (h pos pins s σ H _ I hq) λus s1 ⟨xs,H1,I1,r,z,q⟩=>⟨by rw[<- r.length];exact z,?_⟩);have hf:H1 s1.heap.objs.size=none:=I1.hok.fresh (uA _);refine⟨.ref s1.heap.objs.size,upd H1 s1.heap.objs.size (.lst xs),I1.laid (t':=s1.toks) (λb u e=>gX _ e) (uA _) ?_,rfl,q _ _ (.mk' hf)⟩;exact⟨z,us,0,r,rV _ rfl⟩
def Qv:R2:=λx y H Q=>∃l b xs zs,x=.ref l/\y=.ref b/\H l=some (.lst xs)/\H b=some (.lst zs)/\xs.length+zs.length<=sizeLine/\∀p H',New H H' p (.lst (xs++zs))->Q (.ref p) H'
theorem dY:OpR X (binaryOp .Add) Qv:=by
 intro pins s σ H x y v u Q I rx ry h;obtain⟨l,b,xs,zs,e1,e2,hH,hB,hz,q⟩:=h;exact YD pins s σ H x y v u Q I rx ry ⟨l,b,xs,zs,e1,e2,hH,hB,hz,λp hp=>q p _ (.mk' hp)⟩
def J0:R2:=λx y H Q=>∃l k xs,x=.ref l/\y=.int k/\H l=some (.lst xs)/\-(2 ^ 63)<=k/\k<2 ^ 63/\xs.length*k.toNat<=sizeLine/\∀p H',New H H' p (.lst (List.replicate k.toNat xs).flatten)->Q (.ref p) H'
theorem zX:OpR X (binaryOp .Mult) J0:=by
 intro pins s σ H x y v u Q I rx ry h;obtain⟨l,k,xs,e1,e2,hH,h1,h2,hz,q⟩:=h;exact YF pins s σ H x y v u Q I rx ry ⟨l,k,xs,e1,e2,hH,h1,h2,hz,λp hp=>q p _ (.mk' hp)⟩
def J1:V->List V->Hp->VK->Prop:=λx vs H Q=>∃l xs y,x=.ref l/\vs=[y]/\H l=some (.lst xs)/\xs.length<sizeLine/\∀H',Off l H H'->H' l=some (.lst (xs++[y]))->Q .non H'
theorem Ho:MtM X "list.append" J1:=by
 intro pins s σ H x vs v us Q I rx rv h;obtain⟨l,xs,y,e1,e2,hH,hz,q⟩:=h;exact wN pins s σ H x vs v us Q I rx rv ⟨l,xs,y,e1,e2,hH,hz,q _ Off.upd bx⟩
theorem cA{o e:Expr}{to te:TE}{apos cpos:Pos}(ho:PE X o to)(he:PE X e te)(hbase:attributeBase o "append" X.env (eval o X.env)=eval o X.env:=by rfl)
  (hfew:((backTo cpos (starEach [e] X.env)).all (λx=>!x.1) && (backToKw cpos (keywordEach [] X.env)).all (λx=>x.1.isSome)
   && decide (([e]:List Expr).length+([]:List Keyword).length+(if ([]:List Keyword).isEmpty then 0 else 1)<30))=true:=by rfl)
  (hline:(apos.endLine==cpos.line)=true:=by rfl) (hs:starEach [e] X.env=(false,eval e X.env)::starEach [] X.env:=by rfl) :
  PE X (.Call (.Attribute o "append" apos) [e] [] cpos) (tBM X.K "list" J1 to (wG te CK)) :=
 Xw PySem.F.plainAttrs_list PySem.F.slot_list_append PySem.F.type_list_append Ho ho (aj he ao hs) hbase hfew hline hs (by rfl)
end
section
variable{σ:St}{H:Hp}{x y:V}{vs:List V}{t ta tb:TE}{tr:TA}{Q:VK}{D:Ends}{s u:TS}{tg:TG}{c:TT}
theorem zY{Q:List V->Hp->Prop}(h:t σ H λx H1=>tr σ H1 λxs H2=>Q (x::xs) H2):wG t tr σ H Q:=h
theorem Hq{Q:List V->Hp->Prop}(h:Q [] H):CK σ H Q:=h
theorem Hr(h:s { D with nx:=u D } σ H):Yk s u D σ H:=h
theorem Qw{nx bk ct:St->Hp->Prop}{rt:VK}(h:nx σ H):(Ends.mk nx rt bk ct).nx σ H:=h
theorem zZ(h:D.nx σ H):Ph D σ H:=h
theorem Ht(h:t σ H λx H1=>tg x σ H1 D.nx):GZ t tg D σ H:=h
theorem z6(h:tr σ H λxs H1=>xs.length<=sizeLine/\∀p H',New H1 H' p (.tup xs)->Q (.ref p) H'):Qt tr σ H Q:=h
theorem z7(h:tr σ H λxs H1=>xs.length<=sizeLine/\∀p H',New H1 H' p (.lst xs)->Q (.ref p) H'):Qu tr σ H Q:=h
theorem Qx{r:R2}(h:ta σ H λx H1=>tb σ H1 λy H2=>r x y H2 Q):tOp r ta tb σ H Q:=h
theorem Hu(h:t σ H D.rt):Vk t D σ H:=h
theorem z8(h:t σ H λ_ H1=>D.nx σ H1):Pj t D σ H:=h
theorem Qy(h:c σ H λb H1=>if b=true then s D σ H1 else u D σ H1):q_ c s u D σ H:=h
theorem z9{Q:Bool->Hp->Prop}(h:t σ H λx H'=>∃k,x=.bl k/\Q k H'):JD t σ H Q:=h
theorem YK{Q:Bool->Hp->Prop}(h:t σ H λx H'=>∃k,x=.bl k/\Q k H'):tB t σ H Q:=h
theorem Qz{r:List V->Hp->VK->Prop}(h:tr σ H λvs H1=>r vs H1 Q):tCB r tr σ H Q:=h
end
def del(H:Hp)(a:Addr):Hp:=λb=>if b=a then none else H b
section
variable{P:Program}{w:World}{H:Hp}{h:Heap}{a b:Addr}{φ:Heap->Prop}{o:HO}
theorem tM:del H a a=none:=by unfold del;rw[if_pos rfl]
theorem jP(h:b≠a):del H a b=H b:=by unfold del;rw[if_neg h]
theorem nq(h:H b=none):del H a b=none:=by
 unfold del;split
 ·rfl
 ·exact h
theorem HOk.del(ok:HOk P w H h)(ha:H a=some (.ext φ)):HOk P w (del H a) h:=λb u z=>by
 by_cases hb:b=a
 ·rw[hb,tM] at z;cases z
 ·rw[jP hb] at z;refine(ok b u z).stay (λ_ _ _ q=>q) (λc q=>?_) λc xs q=>?_
  ·rw[jP λe=>by rw[e,ha] at q;cases q];exact q
  ·rw[jP λe=>by rw[e,ha] at q;cases q];exact q
theorem HOk.track(ok:HOk P w H h)(ha:H a=none)(new:bT P w (upd H a o) h a o):HOk P w (upd H a o) h:=λb u z=>by
 by_cases hb:b=a
 ·subst hb;rw[bx] at z;cases z;exact new
 ·rw[aX hb] at z;refine(ok b u z).stay (λ_ _ _ q=>q) (λc q=>?_) λc xs q=>?_
  ·rw[aX (aQ q ha)];exact q
  ·rw[aX (aQ q ha)];exact q
end
section
variable{X:Cx}{pins:List (Addr×Obj)}{σ:St}{H H1:Hp}{s s1:Shared}{a:Addr}{φ:Heap->Prop}{o:HO}
theorem Inv.del(I:Inv X pins σ H s)(ha:H a=some (.ext φ))(h0:X.H₀ a=none):Inv X pins σ (del H a) s:=by
 have ne:∀{b:Addr} {u:HO},X.H₀ b=some u->b≠a:=λ{b u} z=>aQ z h0
 refine⟨I.ok,I.os,I.bare,⟨I.base.keep,I.base.slot,λb o e n hx=>nq (I.base.free b o e n hx),I.base.there,λb xs e=>?_,λb o u e=>?_,λb ps e=>?_⟩,I.loc,I.cell,nq I.free,λx c e=>nq (I.fG x c e),λp hp=>?_,I.hok.del ha,I.len⟩
 ·rw[jP (ne e)];exact I.base.tups b xs e
 ·rw[jP (ne e)];exact I.base.jE b o u e
 ·rw[jP (ne e)];exact I.base.jF b ps e
 ·obtain⟨q1,q2,q3,q4,q5⟩:=I.pin p hp;exact⟨q1,nq q2,q3,q4,q5⟩
theorem Inv.track(I:Inv X pins σ H s)(I0:Inv X pins σ H1 s1)(na:s1.heap.objs.size<=a)(ha:H a=none)(new:bT X.prog X.w (upd H a o) s.heap a o):Inv X pins σ (upd H a o) s:=by
 have s0:X.s₀.heap.objs.size<=s1.heap.objs.size:=I0.sz;have ne:∀b ob,s1.heap.get? b=some ob->b≠a:=λb ob q=>qB (qA (gS q) na)
 refine⟨I.ok,I.os,I.bare,⟨I.base.keep,I.base.slot,λb o e n hx=>?_,I.base.there,λb xs e=>?_,λb o u e=>?_,λb ps e=>?_⟩,I.loc,I.cell,?_,λx c e=>?_,λp hp=>?_,I.hok.track ha new,I.len⟩
 ·rw[aX (qB (qA (gS e) (rS s0 na)))];exact I.base.free b o e n hx
 ·have z:=I.base.tups b xs e;rw[aX (aQ z ha)];exact z
 ·have z:=I.base.jE b o u e;rw[aX (aQ z ha)];exact z
 ·obtain⟨m,z⟩:=I.base.jF b ps e;exact⟨m,by rw[aX (aQ z ha)];exact z⟩
 ·rw[aX (qB (qA I0.lt na))];exact I.free
 ·obtain⟨v,ob,ho,_⟩:=I0.cell x c e;rw[aX (ne c ob ho)];exact I.fG x c e
 ·obtain⟨q1,q2,q3,q4,q5⟩:=I.pin p hp;obtain⟨r1,_⟩:=I0.pin p hp;exact⟨q1,by rw[aX (ne _ _ r1)];exact q2,q3,q4,q5⟩
end
section
variable{M:Model}{A:Around}{E:xB}{env:Env}
variable{nm q:Str}{C N:Addr}{bs bm:xE}{hdct:Bool}{sn:List Str}{sub:xE}{ab:Bool}{col:Option Bool}{dd:xL}{k0 k1 k2 k3 k5:Option Value}{newId:String}
theorem Nh{s:Shared}{x:Sem Value}{Q:Flow->Shared->Prop}(hbase:bm.contains (.type "BaseException")=true)(hh:A.handled=none)
  (h:wpAny M A x (λv s₁=>∃e t dx sl,v=.ref e/\s₁.heap.get? C=some (excClassObj nm q C N bs bm hdct sn sub ab col dd k0 k1 k2 k3 k5 newId) /\
   s₁.heap.get? e=some { cls:=.ref C,dict:=dx,data:=.fields #[.ref t,.none,.none,.none,.bool false,.none],slots:=sl }/\E (.ref e) s₁) E s) :
  wpAny M A (raiseStmt env (some x) none) Q E s:=by
 have hcB:(Value.ref C::bm).contains (.type "BaseException")=true:=by rw[List.contains_cons,hbase,Bool.or_true]
 unfold raiseStmt;refine zI (nS h (λv s₁ h₁=>?_) λ_ _ x=>x);obtain⟨e,t,dx,sl,rfl,hC,he,hE⟩:=h₁;obtain⟨hp,g,d,tk,os⟩:=s₁
 repeat (first|with_reducible refine wpAny_loadPart_at he ?_|with_reducible refine wpAny_loadPart_at hC ?_|(with_reducible refine wpAny_isSubtype_exc hC ?_;rw[hcB])|wp_step)
 exact wpAny_raiseNew_none hh hE
end
def VR(K:W.Frag)(C R:Addr):Prop:=∃nm q N bs hdct sn sub ab col dd k0 k1 k2 k3 k5,K.lookup C=some (excClassObj nm q C N bs [.ref R,.type "ValueError", .type "Exception", .type "BaseException", .type "object"] hdct sn sub ab col dd k0 k1 k2 k3 k5 "ValueError.__new__")
def QB(C:Addr)(H0:Hp)(n:Nat)(E:XK)(te:TE):TS:=λD σ H=>te σ H λx H1=>∃a dx,x=.ref a/\n<=a/\H0 a=none/\H1 a=some (jB a C dx)/\E (.ref C) dx (del H1 a)
section
variable{P:Program}{w:World}{K:W.Frag}{mg:xC}{base:Heap}{N:List Str}{qual:Str}{scope:Scope}{f:Addr}{cd:Value}{A:Around}{outer:List Env}{s:Shared}{H:Hp}{E:XK}
theorem jQ{C R:Addr}{e:Expr}{te:TE}{pos:Pos}(hC:VR K C R)(he:PE (fu (CX1 P w) P w K mg base N qual scope f cd A outer s H E) e te) :
  PS (fu (CX1 P w) P w K mg base N qual scope f cd A outer s H E) (.Raise (some e) none pos) (QB C H s.heap.objs.size E te):=by
 intro pins s1 σ H1 D I h;obtain⟨nm,q,N',bs,hdct,sn,sub,ab,col,dd,k0,k1,k2,k3,k5,ho⟩:=hC;rw[arm_exec_Raise];show wpAny (model P w) (A.deeper (envOfC qual scope s.heap.objs.size f cd)) (do standAt pos;raiseStmt (envOfC qual scope s.heap.objs.size f cd) (some (do let v <- eval e (envOfC qual scope s.heap.objs.size f cd);standAt pos;pure v)) none) _ _ s1;refine zI (wpAny_standAt (Nh (C:=C) (nm:=nm) (q:=q) (N:=N') (bs:=bs) (bm:=[.ref R,.type "ValueError", .type "Exception", .type "BaseException", .type "object"]) (hdct:=hdct) (sn:=sn) (sub:=sub) (ab:=ab) (col:=col) (dd:=dd) (k0:=k0) (k1:=k1) (k2:=k2) (k3:=k3) (k5:=k5) (newId := "ValueError.__new__") (JV R).abn (I.ok.hd rfl) (zI (thn (he pins s1 σ H1 _ I h) λv s2 ⟨x,H2,I2,rx,a,dx,ex,na,h0,ha,q2⟩=>zI (wpAny_standAt (uS ?_))))));subst ex;obtain rfl:v=Value.ref a:=rx;obtain⟨⟨t,sl,ge⟩,_,_⟩:bT P w H2 s2.heap a (jB a C dx):=I2.hok a _ ha;refine⟨a,t,dx,sl,rfl,I2.kIn C _ ho,ge,?_⟩;have I3:Inv (fu (CX1 P w) P w K mg base N qual scope f cd A outer s H E) pins σ (del H2 a) s2:=I2.del ha h0;show wpAny (model P w) (A.deeper (envOfC qual scope s.heap.objs.size f cd)) (leaving (envOfC qual scope s.heap.objs.size f cd) (.ref a)) _ _ s2;refine Di (base:=base) I.ok.frames I3.stack rfl ge rfl rfl λh' T' lf=>?_
 have hz:∀z,(#[Value.ref t,.none,.none,.none,.bool false,.none]:xI)[1]?=some (.ref z)->False:=λz q=>by
  simp at q
 have Qs:∀b∈frs (envOfC qual scope s.heap.objs.size f cd::outer),del H2 a b=none:=I3.mU;obtain⟨oT',ts',gT',gt',g3'⟩:=lf.ent;refine⟨a,C,dx,del H2 a,rfl,I3.os,I3.bare,JX I3.base lf (λb hb=>?_) (λb o q m=>?_) na (λz q=>(hz z q).elim),tG I3.hok lf tM (λz q=>(hz z q).elim) Qs,?_,q2⟩
 ·show b∈frs (envOfC qual scope s.heap.objs.size f cd::outer);unfold frs;rw[List.filterMap_cons];exact zD _ hb
 ·have m:b∈frs (envOfC qual scope s.heap.objs.size f cd::outer):=m;unfold frs at m;rw[List.filterMap_cons] at m;rcases vS.mp m with z|z
  ·exact gE (gS q) (by rw[z];exact qE _)
  ·exact z
 ·have hsz2:s.heap.objs.size<=s2.heap.objs.size:=I2.sz;have nTa:T'≠a:=λz=>gE (gS ge) (by rw[<- z];exact Nat.not_lt.mpr lf.new)
  exact⟨_,_,T',oT',ts',lf.obj,rfl,rfl,rfl,by simp,nTa,gT',gt',g3',tM,I3.hok.fresh lf.new,na,Nat.le_trans hsz2 lf.new,rfl⟩
end
section
variable{X:Cx}{CX:CXT}{k:Nat}{f C:Addr}{fd:FuncData}{ps:List Str}{sp:Sp}{E:XK}{e:Expr}{t:TA}{bm:xE}
theorem QC{pins:List (Addr×Obj)}{σ:St}{H:Hp}{s:Shared}{Q:VK}{us:xE}{vs:List V}(M:abo X.K C f bm)(F:gM X.prog X.w X.K X.mg X.base CX k f fd ps sp)(hr:Room (k+1) X.A)(hb:Binds X.K fd ps [])
  (hx:Passes CX X E) (I:Inv X pins σ H s) (r:Vals vs us) (hz:vs.length<=sizeLine)
  (h:∀x,H x=none->s.heap.objs.size<=x->sp (.ref x::vs) (upd H x (jB x C none)) (λv H2=>v=.non/\Q (.ref x) H2) E) :
  wpAny (model X.prog X.w) X.A (call (.ref C) us) (EP X pins σ Q) X.xe s:=by
 obtain⟨nm,q,N,bs,hdct,sn,sub,ab,col,dd,k0,k1,k2,k3,k5,ho⟩:=M.obj;obtain⟨oI,hoI,hcI⟩:=M.fn;have hsz:us.length<=sizeLine:=by rw[<- r.length];exact hz
 refine Qo (h:=s.heap) (g:=s.gens) (d:=s.drawn) (t:=s.toks) (os:=s.os) M.JV (I.kIn C _ ho) (W.looks_findIn I.kIn M.init) (I.kIn f _ hoI) hcI (λh' kp hget=>?_) hsz;have hfr:H (s.heap.objs.size+1)=none:=I.hok.fresh (Nat.le_succ _);have hq:=h (s.heap.objs.size+1) hfr (Nat.le_succ _);have I2:Inv X pins σ (upd H (s.heap.objs.size+1) (jB (s.heap.objs.size+1) C none)) { s with heap:=h' }:=I.laid (t':=s.toks) kp (Nat.le_succ _) (JR hget)
 have r2:Vals (V.ref (s.heap.objs.size+1)::vs) (Value.ref (s.heap.objs.size+1)::us):=.cons rfl r;have hl:(Value.ref (s.heap.objs.size+1)::us++[]).length=ps.length:=by
  rw[nX,<- r2.length];exact F.len _ _ _ _ hq
 refine wpAny_call (codeAny_mono (F.run _ X.stack _ _ ⟨Value.ref (s.heap.objs.size+1)::us,[]⟩ (Value.ref (s.heap.objs.size+1)::us) _ _ E (hr.make C us []) (I2.env0.make C us []) (by
  have:=hb { s with heap:=h' } (Value.ref (s.heap.objs.size+1)::us) I2.kIn hl
  rwa [nX] at this) r2 hq) λr s' hq'=>?_)
 cases r with
 | error e=>exact hx pins σ _ _ e s' I2 hq'
 | ok fl =>
  cases fl with
  | ret u =>
   obtain⟨v,H',I3,rv,ev,q3⟩:=I2.after hq';subst ev;exact⟨rv,⟨V.ref (s.heap.objs.size+1),H',I3,rfl,q3⟩⟩
  | next=>exact False.elim hq'
  | brk=>exact False.elim hq'
  | cont=>exact False.elim hq'
end
def Xy(n:Nat)(C:Addr)(f:Str)(t:TA):TE:=λσ H Q=>t σ H λvs H1=>∃v,vs=[v]/\∀z H',n<=z->H1 z=none->Same H1 H'->ExcAt H' z C [(f,v)]->Q (.ref z) H'
section
variable{CX:CXT}{X:Cx}{m:Nat}{C R:Addr}{E:XK}{x qual f:Str}{st:Stmt}{p pos:Pos}{e:Expr}{es:List Expr}{t:TA}
theorem nu(M:jk X.K X.mg x qual st C R)(F:zR X.prog X.w X.K X.mg X.base CX qual st ["self", f] (VJ C f))(hr:Room m X.A)(ha:PA X (e::es) t)(hk:2<=m:=by decide)(hx:Passes CX X E:=by exact qp)(hg:Gl X x:=by rfl)
  (hdb:(x==("__debug__" : Str))=false:=by decide) (he:starEach (e::es) X.env=(false,eval e X.env)::starEach es X.env:=by rfl) (hpl:(backTo pos (starEach es X.env)).any (·.1)=false:=by rfl) :
  PE X (.Call (.Name x p) (e::es) [] pos) (Xy X.s₀.heap.objs.size C f t):=by
 intro pins s σ H Q I h;obtain⟨fa,fd,C1,Fn⟩:=M.ex;obtain⟨ok,hb⟩:=F fa fd Fn;refine wpAny_Call_Name_kw (jd I hg M.gl ?_ hdb);refine W.callWith_K (h₀:=X.base) I.ok.mod.kin C1.kp (thn (ha pos pins s σ H _ I h) λus s1 ⟨vs,H1,I1,r,v,ev,q⟩=>⟨I1.kIn,?_⟩) he hpl;subst ev;refine QC C1 ok (hr.mono hk) hb hx I1 r (cH (show (_:Nat)<=_ by simp only[List.length_cons,List.length_nil];decide)) λz hz hn=>⟨z,v,rfl,bx,λdx hd=>⟨rfl,q z _ (Nat.le_trans I1.sz hn) hz (λb u eb=>?_) ?_⟩⟩
 ·have hzx:dx≠z:=λq=>by rw[q,bx] at hd;cases hd
  rw[aX hzx] at hd;rw[aX (aQ eb hz),aX (aQ eb hd),aX (aQ eb hz)];exact eb
 ·have hzx:dx≠z:=λq=>by rw[q,bx] at hd;cases hd
  exact .inr ⟨dx,bx,by rw[aX hzx,bx],hzx⟩
end
theorem Dn{n:Nat}{H0 H1 H':Hp}{E:XK}{C z:Addr}{fs:List (Str×V)}(hfs:fs≠[])(hn:n<=z)(hz:H1 z=none)(h0:H0 z=none)(s:Same H1 H')(e:ExcAt H' z C fs)(k:∀dx H2,Same H1 H2->H2 dx=some (dJ dx fs)->E (.ref C) (some dx) H2) :
  ∃a dx,V.ref z=.ref a/\n<=a/\H0 a=none/\H' a=some (jB a C dx)/\E (.ref C) dx (del H' a):=by
 rcases e with⟨w,_⟩|⟨dx,a,b,c⟩
 ·exact gE w hfs
 ·exact⟨z,some dx,rfl,hn,h0,a,k dx _ (λb u q=>by rw[jP (aQ q hz)];exact s b u q) (by rw[jP c];exact b)⟩
section
variable{P:Program}{w:World}{K:W.Frag}{mg:xC}{base:Heap}{k:Nat}{x:Str}{ps:List Str}{sp:Sp}
theorem V0{st:Stmt}{N:List Str}(h:HasDef K mg x st)(S:aJ N ps (au st))(len:∀vs H Q E,sp vs H Q E->vs.length=ps.length)
  (hb:∀(kV doc pm:Value)(an:xL)(cdv ct:Value)(us:xE),us.length=ps.length->bindArgs (W.fnOf x x (bF st) (bf st) (au st) .none kV doc pm an cdv ct) ⟨us,[]⟩=pure (ps.zip us))
  (hbody:∀(f:Addr)(cdv:Value)(A:Around)(outer:List Env)(s:Shared)(H:Hp)(vs:List V)(Q:VK)(E:XK),Room k (A.deeper (envOfC x (au st) s.heap.objs.size f cdv))->sp vs H Q E ->
   ∃t,PSs (fu (CX1 P w) P w K mg base N x (au st) f cdv A outer s H E) (bf st) t/\t { nx:=λ_ H'=>Q .non H',rt:=Q } (start N vs) H):Def P w K mg base (CX1 P w) (k+1) x ps sp:=by
 obtain⟨f,fd,F,m⟩:=h;refine⟨f,fd,?_,m,F.kp,F.binds hb⟩;obtain⟨oc,od,kV,doc,pm,an,cdv,ct,osl,rfl,lk,hcd⟩:=F.ex;exact mY lk hcd S len λA outer s H vs Q E hr hsp=>hbody f cdv A outer s H vs Q E hr hsp
end
theorem Dp{es:Array DictEntry}{name x:Str}{i:Nat}(h:x≠name)(hi:es.findIdx? (·.key.isStr name)=some i):nsFind (es.eraseIdxIfInBounds i) x=nsFind es x:=by
 obtain⟨l⟩:=es;have h1:=find?_drop (·.key.isStr x) (·.key.isStr name) (isStr_other h) l;rw[List.findIdx?_toArray] at hi;simp only[hi] at h1;have e1:(l.toArray.eraseIdxIfInBounds i).find? (·.key.isStr x)=l.toArray.find? (·.key.isStr x):=by simpa using h1
 unfold nsFind findBy;rw[e1]
section
variable{M:Model}{A:Around}{E:xB}{s:Shared}
theorem Aa{a:Addr}{m}{name:Str}{Q:Bool->Shared->Prop}(hn:s.heap.Ns a m)
  (hQ:∀h' m',h'.Ns a m'->(∀x,x≠name->m' x=m x)->Heap.SameBut a s.heap h'->Q (m name).isSome { s with heap:=h' }):wpAny M A (nsDel a name) Q E s:=by
 obtain⟨o,es,ep,ho,hd,hk,hm⟩:=id hn;have hany:es.any (·.refKey)=false:=by
  rw[Array.any_eq_false'];intro e he;obtain⟨n,t,h⟩:=hk e he;simp[DictEntry.refKey,h]
 have hsome:(m name).isSome=es.any (·.key.isStr name):=by
  rw[<- hm name];simp only[nsFind,findBy,Option.isSome_map];rw[Bool.eq_iff_iff];simp only[Array.find?_isSome,Array.any_eq_true]
  constructor
  ·rintro ⟨x,hx,hp⟩;obtain⟨i,hi,rfl⟩:=Array.mem_iff_getElem.mp hx;exact⟨i,hi,hp⟩
  ·rintro ⟨i,hi,hp⟩;exact⟨_,Array.getElem_mem hi,hp⟩
 have hhas:nsHas name o=pure (es.any (·.key.isStr name)):=by
  rw[nsHas_eq];unfold nsHasByArray;rw[hd];show (if (es.any λx=>x.key.isStr name)=true then _ else _)=_
  generalize (es.any λx=>x.key.isStr name)=b
  cases b <;> simp[hany]
 unfold nsDel;refine zI (wpAny_loadPart ho ?_);rw[hhas];refine zI (uS ?_);rw[<- hsome];cases hmn:(m name).isSome
 ·have:=hQ s.heap m hn (λ_ _=>rfl) (.refl ..);rw[hmn] at this;exact uS this
 ·refine zI (wpAny_updatePart ho (uS ?_));have key:∃m',(s.heap.update a (Obj.dropName name)).Ns a m'/\∀x,x≠name->m' x=m x:=by
   obtain⟨cl,d,dt,sl⟩:=o;subst hd;cases hi:es.findIdx? (·.key.isStr name) with
   | some i=>exact⟨_,⟨_,_,ep+1,Heap.get?_update_self _ ho (by simp only[Obj.dropName_eq,Obj.dropNameByArray,hi] <;> rfl),(by simp only[Obj.dropName_eq,Obj.dropNameByArray,hi] <;> rfl),hk.erase i,λ_=>rfl⟩,λx hx=>(Dp hx hi).trans (hm x)⟩
   | none=>exact⟨_,⟨_,_,ep,Heap.get?_update_self _ ho (by simp only[Obj.dropName_eq,Obj.dropNameByArray,hi] <;> rfl),(by simp only[Obj.dropName_eq,Obj.dropNameByArray,hi] <;> rfl),hk,λ_=>rfl⟩,λx hx=>hm x⟩
  obtain⟨m',hm',hx'⟩:=key;have:=hQ _ m' hm' hx' (Heap.SameBut.update ..);rw[hmn] at this;exact this
end
section
variable{X:Cx}{pins:List (Addr×Obj)}{σ:St}{H:Hp}{s:Shared}
theorem name_goes{M:Model}{A:Around}{E:xB}{i:Nat}{n:Str}{pos:Pos}{Q:xA}(I:Inv X pins σ H s)(hN:X.N.Nodup)(hi:X.N[i]?=some n)(hl:X.env.scope.names.lookup n=some .local)
  (h:∀s',Inv X pins (σ.set i none) H s'->Q () s'):wpAny M A (do bindName X.env n .none;unbindBehindTheSuite X.env n pos) Q E s:=by
 have hp:(X.env.scope.kind==.class || (X.env.scope.kind==.module && X.env.locals != X.env.globals))=false:=by rw[I.ok.kind];rfl
 have hl':X.env.kindOf n=some .local:=hl;have hiσ:i<σ.length:=by rw[I.len];exact(jI.mp hi).1
 refine zI (wpAny_bindName (jG (v:=V.non) (u:=Value.none) I hN hi (.inl hl) rfl (λs1 I1=>?_) (.inr hl)));unfold unbindBehindTheSuite;refine wpAny_onRaise ?_;unfold unbindName;refine zI (wpAny_point (zI ?_));unfold deleteName;simp only[hl',hp];rw[yA (by decide)];obtain⟨m,hn,hm⟩:=id I1.loc;have hmn:(m n).isSome=true:=by
  obtain⟨u,_,q⟩:=hm i n .non hi (by rw[List.getElem?_set_self hiσ]) (.inl hl);rcases q with⟨_,e⟩|⟨k,_⟩
  ·rw[e];rfl
  ·rw[hl'] at k;rcases k with k|k <;> cases k
 have cne:=I1.cne;refine zI (Aa hn λh₂ m₂ hn₂ hk hs=>?_);rw[hmn];simp only[if_true,Bool.not_true,Bool.false_eq_true,if_false];refine uS (wpAny_point (h _ ?_));obtain⟨oL,_,_,hoL,_⟩:=id hn;refine⟨I1.ok,I1.os,I1.bare,⟨λb o e n hb hx=>?_,λb o e n hb hx=>?_,I1.base.free,λb o e hx=>?_,I1.base.tups,I1.base.jE,I1.base.jF⟩,⟨_,hn₂,λj y v' e1 e2 e3=>?_⟩,λy c e=>?_,I1.free,I1.fG,λp hp=>?_,λb ob e=>?_,by rw[List.length_set];exact I.len⟩
 ·exact(hs.2 b (qB (qA (gS e) I1.ok.above))).trans (I1.base.keep b o e n hb hx)
 ·obtain⟨sl,e1⟩:=I1.base.slot b o e n hb hx;exact⟨sl,(hs.2 b (qB (qA (gS e) I1.ok.above))).trans e1⟩
 ·obtain⟨o',e1⟩:=I1.base.there b o e hx;exact⟨o',(hs.2 b (qB (qA (gS e) I1.ok.above))).trans e1⟩
 ·by_cases hj:j=i
  ·subst hj;rw[List.getElem?_set_self hiσ] at e2;cases e2
  ·rw[List.getElem?_set_ne (Ne.symm hj)] at e2;obtain⟨u',r',q⟩:=hm j y v' e1 (by rw[List.getElem?_set_ne (Ne.symm hj)];exact e2) e3;refine⟨u',r',?_⟩;rcases q with⟨k,e⟩|⟨k,c,e,z⟩
   ·refine .inl ⟨k,?_⟩;have:y≠n:=λe=>hj (sO hN e1 (e▸hi))
    rw[hk y this];exact e
   ·exact .inr ⟨k,c,e,z.sameBut hs (cne y c e)⟩
 ·obtain⟨w',z⟩:=I1.cell y c e;exact⟨w',z.sameBut hs (cne y c e)⟩
 ·obtain⟨e,n,ne,nf,d⟩:=I1.pin p hp;exact⟨(hs.2 p.1 ne).trans e,n,ne,nf,d⟩
 ·refine(I1.hok b ob e).stay (λc w' hc q=>(hs.2 c ?_).trans q) (λ_ q=>q) λ_ _ q=>q
  rintro rfl;rcases hc with rfl|hc
  ·rw[I1.free] at e;cases e
  ·rw[I1.free] at hc;cases hc
end
section
variable{M:Model}{A:Around}{E:xB}{s:Shared}{base:Heap}{env:Env}{outer:List Env}{L e:Addr}{oe:Obj}{vs:xI}
theorem Ni{Q:xA}{T0:Addr}{o0:Obj}{ts0:xI}(hfr:A.frames=some (env::outer))(hl:s.heap.FunFrames base (env::outer))(hf:env.frame=some L)(he:s.heap.get? e=some oe)(hd:oe.data=.fields vs)(h1:vs[1]?=some (.ref T0))
  (hT:s.heap.get? T0=some o0) (hdT:o0.data=.fields ts0) (h3:ts0[3]?=some .none) (hTe:T0≠e)
  (h:∀h' T,Left (frs (env::outer)) s.heap h' e oe vs T->Q () { s with heap:=h' }):wpAny M A (noteFrame (.ref e) env) (λ_ s'=>wpAny M A (setFlight (.ref e) none) Q E s') E s:=by
 unfold noteFrame;simp only[hf];refine zI (wpAny_field he hd h1 ?_);rw[if_pos (show (Value.ref T0 != Value.none)=true from by simp)];refine zI (wpAny_field hT hdT h3 ?_);rw[if_neg (show ¬ ((Value.none==rawInt L)=true) from by simp[rawInt])];refine zI (wpAny_setField hT hdT (Array.getElem?_eq_some_iff.mp h3).1 ?_);have hoth:∀b,b≠T0->(s.heap.update T0 (Obj.mapFields (·.setIfInBounds 3 Value.none))).get? b=s.heap.get? b:=λb hb=>nE _ _ (Ne.symm hb)
 have hno:∀b o,s.heap.get? b=some o->(∀z,o.data≠.fields z)->b≠T0:=λb o z hn q=>by
  rw[q,hT] at z;cases z;exact hn ts0 hdT
 have hl2:(s.heap.update T0 (Obj.mapFields (·.setIfInBounds 3 Value.none))).FunFrames base (env::outer):=hl.of_keeps λb o z hn=>⟨o,(hoth b (hno b o z hn)).trans z,rfl⟩
 refine lV (s:={ s with heap:=s.heap.update T0 (Obj.mapFields (·.setIfInBounds 3 Value.none)) }) hfr hl2 hf ((hoth e (Ne.symm hTe)).trans he) hd (Array.getElem?_eq_some_iff.mp h1).1 λh' T lf=>h h' T ⟨λb o hb hn z hz=>lf.keep b o hb hn ((hoth b (hz T0 h1)).trans z) hz,λb o hb z=>?_,?_,lf.ent,lf.obj⟩
 ·obtain⟨_,o',ho',hn'⟩:=hl.mem hb;rw[z] at ho';cases ho';exact lf.slot b o hb ((hoth b (hno b o z hn')).trans z)
 ·have:=lf.new;rw[Heap.size_update] at this;exact this
end
abbrev Cx.pinned(X:Cx)(pins:List (Addr×Obj)):Cx:={ X with pn:=X.pn++pins }
section
variable{X:Cx}{pins gw:List (Addr×Obj)}{σ:St}{H:Hp}{s:Shared}{a:Addr}
theorem Inv.aek(I:Inv X pins σ H s):Inv (X.pinned pins) [] σ H s :=
 ⟨⟨I.ok.mod,I.ok.kind,I.ok.glob,I.ok.blt,I.ok.above,I.ok.inj,I.ok.has,I.ok.cab,I.ok.hd,I.ok.frames,I.ok.stk,I.ok.exf,I.ok.bs,I.ok.bsz,I.ok.v7,I.ok.zA,I.ok.jA,I.ok.frf⟩,I.os,I.bare,I.base,I.loc,I.cell,I.free,I.fG,λp hp=>I.pin p (by
  have hp:p∈(X.pn++pins)++[]:=hp;rw[nX] at hp;exact hp),I.hok,I.len⟩
theorem Inv.tO(I:Inv (X.pinned pins) gw σ H s):Inv X pins σ H s :=
 ⟨⟨I.ok.mod,I.ok.kind,I.ok.glob,I.ok.blt,I.ok.above,I.ok.inj,I.ok.has,I.ok.cab,I.ok.hd,I.ok.frames,I.ok.stk,I.ok.exf,I.ok.bs,I.ok.bsz,I.ok.v7,I.ok.zA,I.ok.jA,I.ok.frf⟩,I.os,I.bare,I.base,I.loc,I.cell,I.free,I.fG,λp hp=>I.pin p (nV _ hp),I.hok,I.len⟩
abbrev Cx.hand(X:Cx)(a:Addr):Cx:={ X with A:=X.A.mark (some (.ref a)),calm:=false,xe:=λ_ _=>False }
theorem Inv.hand(I:Inv X pins σ H s):Inv (X.hand a) pins σ H s :=
 ⟨⟨I.ok.mod,I.ok.kind,I.ok.glob,I.ok.blt,I.ok.above,I.ok.inj,I.ok.has,I.ok.cab,(λh=>by cases h),I.ok.frames,I.ok.stk,I.ok.exf,I.ok.bs,I.ok.bsz,I.ok.v7,I.ok.zA,I.ok.jA,I.ok.frf⟩,I.os,I.bare,I.base,I.loc,I.cell,I.free,I.fG,I.pin,I.hok,I.len⟩
theorem Inv.Ab(ok:X.Ok)(I:Inv (X.hand a) pins σ H s):Inv X pins σ H s :=
 ⟨ok,I.os,I.bare,I.base,I.loc,I.cell,I.free,I.fG,I.pin,I.hok,I.len⟩
end
abbrev Cx.tr(X:Cx)(pins:List (Addr×Obj))(EX:St->XK):Cx:=(X.pinned pins).wish λev s'=>∃gw σ' H1 s1,Inv (X.pinned pins) gw σ' H1 s1/\CX1 X.prog X.w X.stack H1 s1 (EX σ') ev s'
def QD(EX:St->XK)(sp:Sp)(t:TA):TE:=λσ H Q=>t σ H λvs H1=>sp vs H1 Q (EX σ)
section
variable{X:Cx}{pins:List (Addr×Obj)}{EX:St->XK}{k m:Nat}{x:Str}{ps:List Str}{sp:Sp}{p pos:Pos}{e:Expr}{es:List Expr}{t:TA}
theorem V1(D:Def X.prog X.w X.K X.mg X.base (CX1 X.prog X.w) k x ps sp)(hr:Room m X.A)(ha:PA (X.tr pins EX) (e::es) t)(hk:k<=m:=by decide)(hg:Gl (X.tr pins EX) x:=by rfl)
  (hdb:(x==("__debug__" : Str))=false:=by decide) (he:starEach (e::es) X.env=(false,eval e X.env)::starEach es X.env:=by rfl) (hpl:(backTo pos (starEach es X.env)).any (·.1)=false:=by rfl) :
  PE (X.tr pins EX) (.Call (.Name x p) (e::es) [] pos) (QD EX sp t):=by
 intro gw s σ H Q I h;obtain⟨f,fd,F,hm,kp,hb⟩:=D.ex;refine wpAny_Call_Name_kw (jd I hg hm ?_ hdb);refine W.callWith_K (h₀:=X.base) I.ok.mod.kin kp (thn (ha pos gw s σ H _ I h) λus s1 ⟨vs,H1,I1,r,q⟩=>⟨I1.kIn,?_⟩) he hpl;have hl:(us++[]).length=ps.length:=by rw[nX,<- r.length];exact F.len _ _ _ _ q
 refine wpAny_call (codeAny_mono (F.run X.A X.stack s1 H1 ⟨us,[]⟩ us vs Q (EX σ) (hr.mono hk) I1.env0 (by
  have:=hb s1 us I1.kIn hl
  rwa [nX] at this) r q) λr s' hq=>?_)
 cases r with
 | error e=>exact⟨gw,σ,H1,s1,I1.fM,hq⟩
 | ok fl =>
  cases fl with
  | ret u=>exact I1.after hq
  | next=>exact False.elim hq
  | brk=>exact False.elim hq
  | cont=>exact False.elim hq
end
def nA(a C:Addr)(dx:xL):HO:=.ext λh=>∃oe vs,h.get? a=some oe/\oe.cls=.ref C/\oe.dict=dx/\oe.data=.fields vs/\vs[2]?=some .none
theorem V2{P:Program}{w:World}{H:Hp}{h:Heap}{a C:Addr}{dx:xL}{oe:Obj}{vs:xI}(q:h.get? a=some oe)(hc:oe.cls=.ref C)(hd:oe.dict=dx)(hf:oe.data=.fields vs)(h2:vs[2]?=some .none):bT P w H h a (nA a C dx) :=
 ⟨⟨oe,vs,q,hc,hd,hf,h2⟩,⟨_,q⟩,λh1 h2 ⟨oe,vs,z,r⟩ k=>⟨oe,vs,k _ z,r⟩⟩
def iG(H:Hp)(x C:Addr)(fs:List (Str×V)):Prop:=(fs=[]/\H x=some (nA x C none))\/∃dx,H x=some (nA x C (some dx))/\H dx=some (dJ dx fs)/\dx≠x
theorem iG.same{H H':Hp}{x C:Addr}{fs:List (Str×V)}(e:Same H H')(h:iG H x C fs):iG H' x C fs:=by
 rcases h with⟨a,b⟩|⟨dx,a,b,c⟩
 ·exact .inl ⟨a,e _ _ b⟩
 ·exact .inr ⟨dx,e _ _ a,e _ _ b,c⟩
theorem iG.mk{H:Hp}{a C dx:Addr}{fs:List (Str×V)}(hd:H dx=some (dJ dx fs))(ha:H a=none):iG (upd H a (nA a C (some dx))) a C fs :=
 .inr ⟨dx,bx,by rw[aX (aQ hd ha)];exact hd,aQ hd ha⟩
structure tQ(X:Cx)(pins:List (Addr×Obj))(σ:St)(H:Hp)(s:Shared)(a C:Addr)(dx:xL):Prop where
 I:Inv X pins σ H s
 ha:H a=some (nA a C dx)
 tb:∃T oe vs oT ts,s.heap.get? a=some oe/\oe.data=.fields vs/\vs[1]?=some (.ref T)/\s.heap.get? T=some oT/\oT.data=.fields ts/\3<ts.size/\H T=none/\T≠X.env.locals/\(T∈X.ex\/X.s₀.heap.objs.size<=T)/\(∀x c,X.env.cells.lookup x=some c->c≠T)/\∀p∈X.pn++pins,p.1≠T
abbrev THd:=Ends->Addr->Addr->Option Addr->St->Hp->Prop
def PH(X:Cx)(hs:List ExceptHandler)(t:THd):Prop :=
 ∀(pins:List (Addr×Obj)) (s:Shared) (σ:St) (H:Hp) (C a:Addr) (dx:xL) (D:Ends),tQ X pins σ H s a C dx->t D C a dx σ H->wpAny (model X.prog X.w) X.A (handleBy (.ref a) X.env hs) (SP X pins D) X.xe s
def Ends.forget(D:Ends)(i:Nat):Ends:=⟨λσ H=>D.nx (σ.set i none) H,D.rt,λσ H=>D.bk (σ.set i none) H,λσ H=>D.ct (σ.set i none) H⟩
def ael:THd:=λ_ _ _ _ _ _=>False
def hAs(K:W.Frag)(d:Addr)(i:Nat)(th:Addr->TS)(tr:THd):THd:=λD C a dx σ H=>∃b,W.exmOne K (.ref C) (.ref d)=some b/\if b=true then th a (D.forget i) (σ.set i (some (.ref a))) H else tr D C a dx σ H
section
variable{X:Cx}{x n:Str}{d:Addr}{i:Nat}{b₀:Stmt}{suite:List Stmt}{rest:List ExceptHandler}{th:Addr->TS}{tr:THd}{p pos:Pos}
theorem YL:PH X [] ael:=λ_ _ _ _ _ _ _ _ _ h=>h.elim
theorem tQ.lit{pins:List (Addr×Obj)}{σ:St}{H:Hp}{s:Shared}{a C:Addr}{dx:xL}{A:Around}{E:xB}{Q:xA}(c:tQ X pins σ H s a C dx)(h:∀s',Inv X pins σ H s'->Q () s'):wpAny (model X.prog X.w) A (setFlight (.ref a) none) Q E s:=by
 obtain⟨T,oe,vs,oT,ts,ga,gf,g1,gT,gt,g3,hT,n1,n2,n3,n4⟩:=c.tb;exact wpAny_setFlight_none ga gf g1 gT gt g3 (h _ (c.I.turned (t':=s.toks) (λb o hb e=>(nE _ _ (Ne.symm hb)).trans e) hT n1 n2 n3 n4))
theorem wW{pins:List (Addr×Obj)}{σ:St}{H:Hp}{s:Shared}{a C:Addr}{fs:List (Str×V)}(I:Inv X pins σ H s)(h:iG H a C fs):∃oe odo,W.InstAt s.heap a oe C odo:=by
 rcases h with⟨_,b⟩|⟨dx,a',b,_⟩
 ·obtain⟨⟨oe,vs,ge,gc,gd,gf,_⟩,_,_⟩:bT X.prog X.w H s.heap a (nA a C none):=I.hok a _ b;exact⟨oe,none,ge,gc,gQ gf,by rw[gd];trivial⟩
 ·obtain⟨⟨oe,vs,ge,gc,gd,gf,_⟩,_,_⟩:bT X.prog X.w H s.heap a (nA a C (some dx)):=I.hok a _ a';obtain⟨⟨mA,nn,_⟩,_,_⟩:bT X.prog X.w H s.heap dx (dJ dx fs):=I.hok dx _ b;obtain⟨od,ho,_⟩:=kJ nn;exact⟨oe,some od,ge,gc,gQ gf,by rw[gd];exact ho⟩
theorem tQ.type{pins:List (Addr×Obj)}{σ:St}{H:Hp}{s:Shared}{a C:Addr}{dx:xL}(c:tQ X pins σ H s a C dx):W.Looks (model X.prog X.w) s.heap (typeOf (.ref a)) (.ref C):=by
 obtain⟨⟨oe,vs,ge,gc,gd,gf,_⟩,_,_⟩:bT X.prog X.w H s.heap a (nA a C dx):=c.I.hok a _ c.ha;exact gc▸(W.Looks.ld ge).andThen .now
theorem QF(hm:X.mg x=some (.ref d))(hs:∀a,PSs (X.hand a) (b₀::suite) (th a))(hrest:PH X rest tr)(hN:X.N.Nodup)(hi:X.N[i]?=some n)(hl:X.env.scope.names.lookup n=some .local)(hg:Gl X x:=by rfl)
  (hdb:(x==("__debug__" : Str))=false:=by decide):PH X (.ExceptHandler (some (.Name x p)) (some n) (b₀::suite) pos::rest) (hAs X.K d i th tr):=by
 intro pins s σ H C a dx D c h;obtain⟨b,hb,h⟩:=h;refine wpAny_handleBy_cons (codeAny_handlers_test (jd (X:=X.hand a) c.I.hand hg hm ?_ hdb)) (by intro q;cases q);refine(W.exm_one (M:=model X.prog X.w) c.I.kIn c.type hb).here ?_;cases b with
 | false =>
  rw[yA vE] at h;exact hrest pins s σ H C a dx D c h
 | true =>
  rw[zS rfl] at h;show codeAny _ _ _ _ _;refine codeAny_handlers_suite_as (c.lit λs1 I1=>jG I1 hN hi (.inl hl) (v:=V.ref a) rfl (λs2 I2=>?_) (.inr hl));refine nS (hs a pins s2 (σ.set i (some (.ref a))) H (D.forget i) I2.hand h) (λf s3 q=>?_) λ_ _ z=>z.elim
  show wpAny (model X.prog X.w) X.A (do bindName X.env n .none;unbindBehindTheSuite X.env n pos) _ _ s3;cases f with
  | next =>
   obtain⟨σ',H',I',q⟩:=q;exact name_goes (I'.Ab c.I.ok) hN hi hl λs4 I4=>⟨_,H',I4,q⟩
  | brk =>
   obtain⟨σ',H',I',q⟩:=q;exact name_goes (I'.Ab c.I.ok) hN hi hl λs4 I4=>⟨_,H',I4,q⟩
  | cont =>
   obtain⟨σ',H',I',q⟩:=q;exact name_goes (I'.Ab c.I.ok) hN hi hl λs4 I4=>⟨_,H',I4,q⟩
  | ret u =>
   obtain⟨v,σ',H',I',r,q⟩:=q;exact name_goes (I'.Ab c.I.ok) hN hi hl λs4 I4=>⟨v,_,H',I4,r,q⟩
end
def abr(tb:List (Addr×Obj)->(St->XK)->TS)(th:THd):TS:=λD σ H=>∀pins,tb pins (λσ' cv dx H'=>∃C,cv=.ref C/\∀a,H' a=none->th D C a dx σ' (upd H' a (nA a C dx))) D σ H
section
variable{X:Cx}{body:List Stmt}{h₀:ExceptHandler}{hs:List ExceptHandler}{tb:List (Addr×Obj)->(St->XK)->TS}{th:THd}{pos:Pos}
theorem YM(hb:∀pins EX,PSs (X.tr pins EX) body (tb pins EX))(hh:PH X (h₀::hs) th)(hst:X.stack=X.env::X.outer:=by rfl)(hf:X.env.frame=some X.env.locals:=by rfl):PS X (.Try body (h₀::hs) [] [] pos) (abr tb th):=by
 intro pins s σ H D I h;refine wpAny_Try_except (nS (hb pins _ [] s σ H D (I.aek.wish _) (h pins)) (λf s1 q=>?_) λev s1 q=>?_)
 ·cases f with
  | next =>
   obtain⟨σ',H',I',q⟩:=q;exact wpAny_execs_nil ⟨σ',H',I'.fM.tO,q⟩
  | brk =>
   obtain⟨σ',H',I',q⟩:=q;exact⟨σ',H',I'.fM.tO,q⟩
  | cont =>
   obtain⟨σ',H',I',q⟩:=q;exact⟨σ',H',I'.fM.tO,q⟩
  | ret u =>
   obtain⟨v,σ',H',I',r,q⟩:=q;exact⟨v,σ',H',I'.fM.tO,r,q⟩
 ·obtain⟨gw,σ',H1,s2,I1,a,C,dx,H',rfl,hos,hbr,un,hok,⟨oe,vs,T,oT,ts,ga,gc,gd,gf,g1,gne,gT,gt,g3,ha,hT,na,nT,g2⟩,C',eC,q⟩:=q;cases eC;have I1:Inv X pins σ' H1 s2:=I1.tO;have I2:Inv X pins σ' H' s1:=I1.call' (ch:=[]) hos un hok hbr (λb z=>absurd z (by simp));refine Ni (base:=X.base) (by rw[I.ok.frames,hst]) (by rw[<- hst];exact I2.stack) hf ga gf g1 gT gt g3 gne λh' T' lf=>?_
  have hz:∀z,vs[1]?=some (.ref z)->z=T:=λz hz=>by rw[g1] at hz;cases hz;rfl
  have Qs:∀b∈frs (X.env::X.outer),H' b=none:=by rw[<- hst];exact I2.mU
  have hok':HOk X.prog X.w H' h':=tG hok lf ha (λz h=>by rw[hz z h];exact hT) Qs;have lo:∀b o,s2.heap.get? b=some o->∀c,s2.heap.objs.size<=c->b≠c:=λb o z c hc=>qB (qA (gS z) hc)
  have far:∀c,s2.heap.objs.size<=c->(c∈X.ex\/X.s₀.heap.objs.size<=c)/\c≠X.env.locals/\(∀x d,X.env.cells.lookup x=some d->d≠c)/\∀p∈X.pn++pins,p.1≠c:=λc hc =>
   ⟨.inr (rS I1.sz hc),Ne.symm (qB (qA I1.lt hc)),λx d hd=>by
    obtain⟨v,ob,ho,_⟩:=I1.cell x d hd;exact lo d ob ho c hc,λp hp=>lo _ _ (I1.pin p hp).1 c hc⟩
  have u3:Un (frs X.stack) [a,T] H' H' s1.heap h':=by
   rw[hst];refine⟨λb o q n hb hx=>?_,λb o q n hb hx=>lf.slot b o hb q,λb o q n hx=>n,λb o q hx=>?_,λ_ _ e=>e,λ_ _ _ e=>e,λb ps e=>⟨#[],by rw[e];simp⟩⟩
   ·exact lf.keep b o (λz=>hx (by simp[z])) hb q λz hz' z2=>hx (by rw[z2,hz z hz'];simp)
   ·by_cases m:b∈frs (X.env::X.outer)
    ·obtain⟨sl,z⟩:=lf.slot b o m q;exact⟨_,z⟩
    ·exact⟨o,lf.keep b o (λz=>hx (by simp[z])) m q λz hz' z2=>hx (by rw[z2,hz z hz'];simp)⟩
  have I3:Inv X pins σ' H' { s1 with heap:=h' }:=I2.call (g':=s1.gens) (d':=s1.drawn) (t':=s1.toks) u3 hok' hbr λb hb=>by
   rcases vS.mp hb with rfl|hb
   ·exact far _ na
   ·rw[uB.mp hb];exact far _ nT
  have new:s2.heap.objs.size<=T':=by
   refine rS ?_ lf.new;exact rS na (mP (gS ga))
  have hT':H' T'=none:=I2.hok.fresh lf.new;have nTa:T'≠a:=λz=>gE (gS ga) (by rw[<- z];exact Nat.not_lt.mpr lf.new)
  have I4:Inv X pins σ' (upd H' a (nA a C dx)) { s1 with heap:=h' }:=I3.track I1 na ha (V2 lf.obj gc gd rfl ((Array.getElem?_setIfInBounds_ne (by decide)).trans g2))
  obtain⟨oT',ts',gT',gt',g3'⟩:=lf.ent;obtain⟨f1,f2,f3,f4⟩:=far T' new;refine hh pins _ σ' _ C a dx D ⟨I4,bx,T',_,_,oT',ts',lf.obj,rfl,?_,gT',gt',(Array.getElem?_eq_some_iff.mp g3').1,by rw[aX nTa];exact hT',f2,f1,f3,f4⟩ (q a ha);have:1<vs.size:=(Array.getElem?_eq_some_iff.mp g1).1;simp[this]
end
def Xz(C:Addr)(ta:TE)(f:Str):TE:=λσ H Q=>ta σ H λx H1=>∃a fs v,x=.ref a/\iG H1 a C fs/\fs.lookup f=some v/\Q v H1
def abt(K:W.Frag):List V->Hp->VK->Prop:=λxs H Q=>∃x c C R fs b,xs=[.ref x,c]/\iG H x C fs/\tK K C R/\qt K (.ref C) c=some b/\Q (.bl b) H
section
variable{X:Cx}
theorem Ac{C:Addr}{o:Expr}{f:Str}{ta:TE}{pos:Pos}(G:abp X.K C)(n:bZ X.K C f)(he:PE X o ta)(hb:attributeBase o f X.env (eval o X.env)=eval o X.env:=by rfl):PE X (.Attribute o f pos) (Xz C ta f):=by
 intro pins s σ H Q I h;refine JF hb (thn (he pins s σ H _ I h) λu s1 ⟨x,H1,I1,rx,a,fs,v,ex,ea,l,q⟩=>?_);subst ex;obtain rfl:u=Value.ref a:=rx;rcases ea with⟨rfl,_⟩|⟨dx,ea,ed,_⟩
 ·cases l
 ·obtain⟨⟨oe,vs,ge,gc,gd,gf,_⟩,_,_⟩:bT X.prog X.w H1 s1.heap a (nA a C (some dx)):=I1.hok a _ ea;obtain⟨⟨mA,nn,r,wi,hl⟩,_,_⟩:bT X.prog X.w H1 s1.heap dx (dJ dx fs):=I1.hok dx _ ed;obtain⟨u',hu,ru⟩:=jD.some_of (v:=v) (o:=mA f) (by rw[<- l];exact r f);exact VG I1.kIn ge gc gd gf nn G.ga G.gb G.mb G.hd n hu (wD ru) ⟨v,H1,I1.tok _,ru,q⟩
theorem oX:g_ X (.builtin "isinstance") (abt X.K):=by
 intro pins s σ H xs us Q I r h;obtain⟨x,c,C,R,fs,b,rfl,ex,G,e,q⟩:=h;obtain⟨u,v,rfl,ru,rv⟩:=vals2 r;obtain rfl:u=Value.ref x:=ru;cases c with
 | ty T =>
  obtain rfl:v=Value.type T:=rv;exact W.kia_one (Dk G) I.kIn (wW I ex) e (λz=>nomatch z) λtk=>⟨.bl b,H,I.tok _,rfl,q⟩
 | ref D =>
  obtain rfl:v=Value.ref D:=rv;exact W.kia_one (Dk G) I.kIn (wW I ex) e (λz=>nomatch z) λtk=>⟨.bl b,H,I.tok _,rfl,q⟩
 | _=>cases e
end
theorem tU{K:W.Frag}{C R:Addr}(G:tK K C R):W.exmOne K (.ref C) (.ref C)=some true:=by
 have hb:W.subIn K (.ref C) (.type "BaseException")=some true:=G.g.mb;unfold W.exmOne;rw[hb,zS (by rfl)];obtain⟨cd,hc,_⟩:=Option.map_eq_some_iff.mp G.mro;unfold W.kitCls;simp only;rw[zS (by rw[hc,G.ty];rfl)];show W.mroIn K C (.ref C)=_;rw[G.in];simp[List.contains_cons]
theorem Hw{K:W.Frag}{C R:Addr}(G:tK K C R)(hR:(W.clsIn K R).isSome=true)(tR:W.typeIn K (.ref R)=some (.type "type"))(mR:W.mroIn K R (.type "BaseException")=some true):W.exmOne K (.ref C) (.ref R)=some true:=by
 have hb:W.subIn K (.ref R) (.type "BaseException")=some true:=mR;unfold W.exmOne;rw[hb,zS (by rfl)];unfold W.kitCls;simp only;rw[zS (by rw[hR,tR];rfl)];show W.mroIn K C (.ref R)=_;rw[G.in];simp[List.contains_cons]
section
variable{σ:St}{H:Hp}{D:Ends}
theorem Nj{K:W.Frag}{d C a:Addr}{dx:xL}{i:Nat}{tha:Addr->TS}{rest:THd}(e:W.exmOne K (.ref C) (.ref d)=some true)(h:tha a (D.forget i) (σ.set i (some (.ref a))) H):hAs K d i tha rest D C a dx σ H:=⟨true,e,by rw[zS rfl];exact h⟩
end
def rB(K:W.Frag):List V->Hp->VK->Prop:=λxs H Q=>∃x d t b,xs=[x,d]/\b_ K H x t/\qt K t d=some b/\Q (.bl b) H
theorem dh{X:Cx}:g_ X (.builtin "isinstance") (rB X.K):=call_isinstance
section
variable{X:Cx}{pins:List (Addr×Obj)}{σ:St}{H:Hp}{s:Shared}{h':Heap}{t':Nat}{ch:List Addr}
theorem Inv.J2(I:Inv X pins σ H s)(hf:∀b∈ch,jJ X pins H b)(k:∀b o,b ∉ ch->s.heap.get? b=some o->h'.get? b=some o):Inv X pins σ H { s with heap:=h',toks:=t' }:=by
 have off:∀b u,H b=some u->b ∉ ch:=λb u e z=>by
  rw[(hf b z).1] at e;cases e
 refine I.step (g':=s.gens) (d':=s.drawn) (ch:=ch) (λb hb=>?_) (λb o _ _ hc e _=>k b o hc e) (λb o _ _ hc e _=>⟨o.slots,k b o hc e⟩) (λ_ _ _ _ n=>n)
  (λb o hc e=>⟨o,k b o hc e⟩) (λ_ _ e=>e) (λ_ _ _ e=>e) (λb ps e=>⟨#[],by rw[e];simp⟩) (λm hm=>?_) (λb u e=>?_) I.bare
 ·obtain⟨_,f1,_,f3,f4,f5⟩:=hf b hb;exact⟨f3,f1,f4,f5⟩
 ·obtain⟨o,es,ep,ho,r⟩:=hm;exact⟨o,es,ep,k _ o (λz=>(hf _ z).2.1 rfl) ho,r⟩
 ·refine(I.hok b u e).stay (λc v hc q=>k c v ?_ q) (λ_ q=>q) λ_ _ q=>q
  rcases hc with z|z
  ·rw[z];exact off b u e
  ·exact off c _ z
theorem Inv.Hx{a:Addr}{o:HO}(I:Inv X pins σ H s)(hf:∀b∈ch,jJ X pins H b)(k:∀b o,b ∉ ch->s.heap.get? b=some o->h'.get? b=some o)(ha:s.heap.objs.size<=a)
  (new:bT X.prog X.w (upd H a o) h' a o):Inv X pins σ (upd H a o) { s with heap:=h',toks:=t' }:=by
 have I1:Inv X pins σ H { s with heap:=h',toks:=t' }:=I.J2 hf k
 have hn:H a=none:=I.hok.fresh ha;refine I.step (g':=s.gens) (d':=s.drawn) (ch:=ch) (λb hb=>?_) (λb u _ _ hc e _=>k b u hc e) (λb u _ _ hc e _=>⟨u.slots,k b u hc e⟩)
  (λb u _ e n=>by rw[aX (qB (qA (gS e) ha))];exact n)
  (λb u hc e=>⟨u,k b u hc e⟩) (λb xs e=>by rw[aX (aQ e hn)];exact e) (λb u x e=>by rw[aX (aQ e hn)];exact e)
  (λb ps e=>⟨#[],by rw[aX (aQ e hn),e];simp⟩) (λm hm=>?_) (λb u e=>?_) I.bare
 ·obtain⟨_,f1,_,f3,f4,f5⟩:=hf b hb;exact⟨f3,f1,f4,f5⟩
 ·obtain⟨u,es,ep,ho,r⟩:=hm;exact⟨u,es,ep,k _ u (λz=>(hf _ z).2.1 rfl) ho,r⟩
 ·by_cases hb:b=a
  ·subst hb;rw[bx] at e;cases e;exact new
  ·rw[aX hb] at e;exact(I1.hok b u e).stay (λ_ _ _ q=>q) (λc q=>by rw[aX (aQ q hn)];exact q) λc xs q=>by rw[aX (aQ q hn)];exact q
end
def Ite(K:W.Frag)(a:Addr)(xs:List V):It :=
 ⟨λi H=>SqL K H a xs/\i<xs.length,λi H x H'=>∃T v,x=.ref T/\xs[i]?=some v/\New H H' T (.tup [.int i,v]),λi H=>SqL K H a xs/\xs.length<=i⟩
theorem Nk{P:Program}{w:World}{K:W.Frag}{elts:List Expr}{x1}{pos:Pos}(a e it:Addr)(xs:List V)(hei:e≠it) :
  Turn P w K (.Tuple elts x1 pos) (Ite K a xs) [e,it] e (λi h=>(∃old,IsEnum h e it i old)/\h.IsListIter it a i) where
 mem:=by simp
 obj:=λi h st b hb=>by
  obtain⟨⟨old,he⟩,o,hi,hc,hd⟩:=st;rcases vS.mp hb with rfl|hb
  ·exact⟨_,he,λv z=>by
    have z':Data.fields _=Data.cell v:=z;cases z'⟩
  ·rw[uB.mp hb];exact⟨o,hi,λv z=>by rw[hd] at z;cases z⟩
 keep:=λi h h' st k=>by
  obtain⟨⟨old,he⟩,hi⟩:=st;exact⟨⟨old,k e (by simp) _ he⟩,hi.at λo q=>k it (by simp) o q⟩
 item:=by
  intro X hP hw hK hc i pins s σ H E I hf st hg;subst hP hw hK;obtain⟨⟨old,he⟩,hi⟩:=st;obtain⟨hq,hlt⟩:=hg;obtain⟨its,rv,p,hz⟩:=I.list hq;have hx:xs[i]?=some xs[i]:=by simp[hlt]
  generalize xs[i]=x at hx
  obtain⟨u,hu,ru⟩:=rv.get hx;refine wpAny_pyNext_enum_item he hi p.isList (x:=u) (by simpa using hu) hei λh1 ho hi1 hT hsz hk=>?_
  refine⟨_,rfl,wpAny_letOwnedTupleGo_enum ho λh2 he2 hs2=>?_⟩;have neT:s.heap.objs.size≠e:=Nat.ne_of_gt (gS he);have hT2:=(hs2.2 _ neT).trans hT;have k2:∀b o,b ∉ [e,it]->s.heap.get? b=some o->h2.get? b=some o:=λb o hb q=>by
   simp only[List.mem_cons,List.not_mem_nil,or_false,not_or] at hb;exact(hs2.2 b hb.1).trans (hk b o hb.1 hb.2 q)
  have new:bT X.prog X.w (upd H s.heap.objs.size (.tup [.int i,x])) h2 s.heap.objs.size (.tup [.int i,x]) :=
   ⟨by show 2<=sizeLine;decide,[.int i s.toks,u],.cons ⟨_,rfl⟩ (.cons ru .nil),⟨_,hT2,rfl,_,rfl⟩⟩
  refine⟨.ref s.heap.objs.size,_,I.Hx (t':=s.toks+1) hf k2 (Nat.le_refl _) new,rfl,⟨_,x,rfl,hx,.mk' (I.hok.fresh (Nat.le_refl _))⟩,⟨⟨u,by simpa using he2⟩,hi1.at λo q=>(hs2.2 it hei.symm).trans q⟩,λb hb=>?_⟩;have hbn:=(hf b hb).1;have hb':b<s.heap.objs.size:=by
   rcases vS.mp hb with rfl|hb
   ·exact gS he
   ·rw[uB.mp hb];obtain⟨o,q,_⟩:=hi;exact gS q
  rw[aX (qB hb')];exact hbn
 done:=by
  intro X hP hw hK hc i pins s σ H E I hf st hg;subst hP hw hK;obtain⟨⟨old,he⟩,hi⟩:=st;obtain⟨hq,hle⟩:=hg;obtain⟨its,rv,p,hz⟩:=I.list hq;have hl:=rv.length;refine wpAny_pyNext_enum_end (I.ok.hd hc) he hi p.isList (by simp;lia) λh' eb=>⟨rfl,I.J2 (t':=s.toks) (ch:=[e,it]) hf λb o hb q=>eb b o (λz=>hb (by simp[z])) q⟩
 self:=λ_ _ _ _ _ st h=>by
  obtain⟨⟨old,he⟩,_⟩:=st;exact wpAny_pyIter_enum he h
theorem Nm:bootBuiltins "enumerate" = some (.type "enumerate"):=by decide +kernel
def QG(K:W.Frag)(ta:TA):TI:=λσ H R=>ta σ H λvs H1=>∃a xs,vs=[.ref a]/\SqL K H1 a xs/\R (Ite K a xs) H1
theorem V3{X:Cx}{elts:List Expr}{x1}{tpos:Pos}{a:Expr}{ta:TA}{p pos:Pos}(hg:Gl X "enumerate")(hm:X.mg "enumerate" = none)(ha:PA X [a] ta)(hs:starEach [a] X.env=[(false,eval a X.env)]:=by rfl) :
  PI X (.Tuple elts x1 tpos) (.Call (.Name "enumerate" p) [a] [] pos) (QG X.K ta):=by
 intro pins s σ H R I h;refine Call_ (lM I hg hm Nm (PyProof.Rows.callWith_type1 (thn (ha pos pins s σ H _ I h) λus s1 ⟨vs,H1,I1,r1,q1⟩=>?_) hs rfl));obtain⟨l,xs,e,hq,q⟩:=q1;subst e;obtain⟨u,rfl,r⟩:=vals1 r1;cases r;obtain⟨its,rv,pl,hz⟩:=I1.list hq;refine call_enumerate_list pl.isList λh' he hi hsz hk=>?_
 have I2:Inv X pins σ H1 { s1 with heap:=h' }:=I1.kept (t':=s1.toks) hk
 refine wpAny_pyIter_enum he ?_;refine⟨s1.heap.objs.size+1,[s1.heap.objs.size+1,s1.heap.objs.size],_,Ite X.K l xs,H1,rfl,I2,Nk l _ _ xs (Nat.succ_ne_self _),⟨⟨.none,he⟩,hi⟩,λb hb=>?_,q⟩;have hb':s1.heap.objs.size<=b:=by
  rcases vS.mp hb with rfl|hb
  ·exact Nat.le_succ _
  ·rw[uB.mp hb];exact uA _
 exact I1.Pu hb' (I1.hok.fresh hb')
theorem QJ{K:PySem.W.Frag}{a:Addr}{xs:List V}{g:TG}{tb:TS}{D:Ends}{σ:St}{H:Hp}(Pv:Nat->St->Hp->Prop)(h0:Pv 0 σ H)(hl:∀i σ H,i<=xs.length->Pv i σ H->SqL K H a xs)
  (hs:∀i x T σ H H',xs[i]?=some x->Pv i σ H->New H H' T (.tup [.int i,x])->g (.ref T) σ H' λσ2 H2=>tb { D with nx:=Pv (i+1),ct:=Pv (i+1),bk:=D.nx } σ2 H2) (hd:∀σ H,Pv xs.length σ H->D.nx σ H) :
  ∃W:Nat->Nat->St->Hp->Prop,(∃m,W 0 m σ H)/\∀i m σ H,W i m σ H ->
   ((Ite K a xs).stop i H/\D.nx σ H)\/((Ite K a xs).go i H/\∃N:St->Hp->Prop,(∀σ' H',N σ' H'->∃m',m'<m/\W (i+1) m' σ' H')/\∀x H',(Ite K a xs).yld i H x H'->g x σ H' λσ2 H2=>tb { D with nx:=N,ct:=N,bk:=D.nx } σ2 H2):=by
 refine⟨λi m σ H=>m=xs.length-i/\i<=xs.length/\Pv i σ H,⟨xs.length,by simp,Nat.zero_le _,h0⟩,?_⟩;rintro i m σ H ⟨rfl,hi,p⟩;have q:=hl i σ H hi p;by_cases hlt:i<xs.length
 ·refine .inr ⟨⟨q,hlt⟩,Pv (i+1),λσ' H' p'=>⟨xs.length-(i+1),by lia,rfl,hlt,p'⟩,λx H' y=>?_⟩;obtain⟨T,v,rfl,hv,n⟩:=y;exact hs i v T σ H H' hv p n
 ·have e:i=xs.length:=by lia
  subst e;exact .inl ⟨⟨q,uA _⟩,hd σ H p⟩
section
variable{X:Cx}
def QK:V->V->V->Hp->(Hp->Prop)->Prop:=λo i v H Q=>∃p xs k j,o=.ref p/\i=.int k/\H p=some (.lst xs)/\ixN xs.length k=some j/\∀H',Off p H H'->H' p=some (.lst (xs.set j v))->Q H'
theorem kW:Ym X QK:=by
 intro pins s σ H o i v ov iv u Q I ro ri rv h;obtain⟨p,xs,k,j,e1,e2,hp,hj,q⟩:=h;exact set_list pins s σ H o i v ov iv u Q I ro ri rv ⟨p,xs,k,j,e1,e2,hp,hj,q _ Off.upd bx⟩
def YQ(K:W.Frag):V->Option Int->Option Int->Hp->VK->Prop:=λx lo hi H Q=>∃a xs,x=.ref a/\SqL K H a xs/\∀p H',New H H' p (.lst (m5 xs lo hi))->Q (.ref p) H'
theorem tV:SlR X (YQ X.K):=by
 intro pins s σ H x v vl vu lo hi sl Q I rx hs pl pu h;obtain⟨a,xs,e,hx,q⟩:=h;exact Vu pins s σ H x v vl vu lo hi sl Q I rx hs pl pu ⟨a,xs,e,hx,λp hp=>q p _ (.mk' hp)⟩
end
section
variable{σ:St}{H:Hp}{Q:VK}{v x y:V}{i j:Int}{K:W.Frag}{t ta tb tc:TE}{tr:TA}{u:TS}{c d:TT}
theorem wv0{r:St}(h:Q v H):dI 0 (some v::r) H Q:=⟨v,rfl,h⟩
theorem wn0{o:Option V}{r:St}{R:St->Hp->Prop}(h:R (some v::r) H):bR 0 v (o::r) H R:=h
theorem wv1{o0:Option V}{r:St}(h:Q v H):dI 1 (o0::some v::r) H Q:=⟨v,rfl,h⟩
theorem wn1{o0:Option V}{o:Option V}{r:St}{R:St->Hp->Prop}(h:R (o0::some v::r) H):bR 1 v (o0::o::r) H R:=h
theorem wv2{o0 o1:Option V}{r:St}(h:Q v H):dI 2 (o0::o1::some v::r) H Q:=⟨v,rfl,h⟩
theorem wn2{o0 o1:Option V}{o:Option V}{r:St}{R:St->Hp->Prop}(h:R (o0::o1::some v::r) H):bR 2 v (o0::o1::o::r) H R:=h
theorem wv3{o0 o1 o2:Option V}{r:St}(h:Q v H):dI 3 (o0::o1::o2::some v::r) H Q:=⟨v,rfl,h⟩
theorem wn3{o0 o1 o2:Option V}{o:Option V}{r:St}{R:St->Hp->Prop}(h:R (o0::o1::o2::some v::r) H):bR 3 v (o0::o1::o2::o::r) H R:=h
theorem wv4{o0 o1 o2 o3:Option V}{r:St}(h:Q v H):dI 4 (o0::o1::o2::o3::some v::r) H Q:=⟨v,rfl,h⟩
theorem wn4{o0 o1 o2 o3:Option V}{o:Option V}{r:St}{R:St->Hp->Prop}(h:R (o0::o1::o2::o3::some v::r) H):bR 4 v (o0::o1::o2::o3::o::r) H R:=h
theorem wv5{o0 o1 o2 o3 o4:Option V}{r:St}(h:Q v H):dI 5 (o0::o1::o2::o3::o4::some v::r) H Q:=⟨v,rfl,h⟩
theorem wn5{o0 o1 o2 o3 o4:Option V}{o:Option V}{r:St}{R:St->Hp->Prop}(h:R (o0::o1::o2::o3::o4::some v::r) H):bR 5 v (o0::o1::o2::o3::o4::o::r) H R:=h
theorem wv6{o0 o1 o2 o3 o4 o5:Option V}{r:St}(h:Q v H):dI 6 (o0::o1::o2::o3::o4::o5::some v::r) H Q:=⟨v,rfl,h⟩
theorem wn6{o0 o1 o2 o3 o4 o5:Option V}{o:Option V}{r:St}{R:St->Hp->Prop}(h:R (o0::o1::o2::o3::o4::o5::some v::r) H):bR 6 v (o0::o1::o2::o3::o4::o5::o::r) H R:=h
theorem wv7{o0 o1 o2 o3 o4 o5 o6:Option V}{r:St}(h:Q v H):dI 7 (o0::o1::o2::o3::o4::o5::o6::some v::r) H Q:=⟨v,rfl,h⟩
theorem wn7{o0 o1 o2 o3 o4 o5 o6:Option V}{o:Option V}{r:St}{R:St->Hp->Prop}(h:R (o0::o1::o2::o3::o4::o5::o6::some v::r) H):bR 7 v (o0::o1::o2::o3::o4::o5::o6::o::r) H R:=h
theorem wv8{o0 o1 o2 o3 o4 o5 o6 o7:Option V}{r:St}(h:Q v H):dI 8 (o0::o1::o2::o3::o4::o5::o6::o7::some v::r) H Q:=⟨v,rfl,h⟩
theorem wn8{o0 o1 o2 o3 o4 o5 o6 o7:Option V}{o:Option V}{r:St}{R:St->Hp->Prop}(h:R (o0::o1::o2::o3::o4::o5::o6::o7::some v::r) H):bR 8 v (o0::o1::o2::o3::o4::o5::o6::o7::o::r) H R:=h
theorem wv9{o0 o1 o2 o3 o4 o5 o6 o7 o8:Option V}{r:St}(h:Q v H):dI 9 (o0::o1::o2::o3::o4::o5::o6::o7::o8::some v::r) H Q:=⟨v,rfl,h⟩
theorem wn9{o0 o1 o2 o3 o4 o5 o6 o7 o8:Option V}{o:Option V}{r:St}{R:St->Hp->Prop}(h:R (o0::o1::o2::o3::o4::o5::o6::o7::o8::some v::r) H):bR 9 v (o0::o1::o2::o3::o4::o5::o6::o7::o8::o::r) H R:=h
theorem w_c(h:Q v H):tC v σ H Q:=h
theorem V4{f:Int->Int->V}(h:Q (f i j) H):rI0 f (.int i) (.int j) H Q:=⟨i,j,rfl,rfl,h⟩
theorem w_mod{f:Int->Int->V}(hj:0<j)(h:Q (f i j) H):rI (λ_ j=>0<j) f (.int i) (.int j) H Q:=⟨i,j,rfl,rfl,hj,h⟩
theorem w_div{f:Int->Int->V}(h0:0<j)(h1:j<1073741824)(h:Q (f i j) H):rI Ys f (.int i) (.int j) H Q:=⟨i,j,rfl,rfl,⟨h0,h1⟩,h⟩
theorem w_pow{f:Int->Int->V}(h0:0<=j)(h1:j<=1000000)(h2:i.natAbs<2 ^ 64)(h:Q (f i j) H):rI Yt f (.int i) (.int j) H Q:=⟨i,j,rfl,rfl,⟨h0,h1,h2⟩,h⟩
theorem Hy{f:Int->Int->V}(h0:-(2 ^ 64)<i)(h1:i<2 ^ 64)(h:Q (f i j) H):rI MN f (.int i) (.int j) H Q:=⟨i,j,rfl,rfl,.inl ⟨h0,h1⟩,h⟩
theorem Hz{f:Int->Int->V}(h0:-(2 ^ 64)<j)(h1:j<2 ^ 64)(h:Q (f i j) H):rI MN f (.int i) (.int j) H Q:=⟨i,j,rfl,rfl,.inr ⟨h0,h1⟩,h⟩
theorem w_u{g:Int->V}(h:Q (g i) H):rU g (.int i) H Q:=⟨i,rfl,h⟩
theorem J3(h:Q (.bl (decide (i=j))) H):rEq (.int i) (.int j) H Q:=⟨rfl,by rw[show decide (V.int i=V.int j)=decide (i=j) from decide_eq_decide.mpr ⟨λe=>by cases e;rfl,λe=>by rw[e]⟩];exact h⟩
theorem QL(h:Q (.bl (!decide (i=j))) H):rNe (.int i) (.int j) H Q:=⟨rfl,by rw[show decide (V.int i=V.int j)=decide (i=j) from decide_eq_decide.mpr ⟨λe=>by cases e;rfl,λe=>by rw[e]⟩];exact h⟩
theorem QM{a b:Str}(h:Q (.bl (!decide (a=b))) H):rNe (.str a) (.str b) H Q:=⟨rfl,by rw[show decide (V.str a=V.str b)=decide (a=b) from decide_eq_decide.mpr ⟨λe=>by cases e;rfl,λe=>by rw[e]⟩];exact h⟩
theorem YS{k:Bool}{R:Bool->Prop}(h:R k):∃c,V.bl k=.bl c/\R c:=⟨k,rfl,h⟩
theorem w_not{R:Bool->Hp->Prop}(h:c σ H λb H1=>R (!b) H1):Yj c σ H R:=h
theorem w_and{R:Bool->Hp->Prop}(h:c σ H λb H1=>if b=true then d σ H1 R else R false H1):Yi c d σ H R:=h
theorem w_or{R:Bool->Hp->Prop}(h:c σ H λb H1=>if b=true then R true H1 else d σ H1 R):tOr c d σ H R:=h
theorem HB(h:ta σ H λx H1=>∃c,x=.bl c/\Q (.bl (!c)) H1):Pg ta σ H Q:=h
theorem HD(h:ta σ H λx H1=>∃c,x=.bl c/\if c=true then tb σ H1 Q else Q (.bl false) H1):Pb ta tb σ H Q:=h
theorem J4{r r':R2}(h:ta σ H λx H1=>tb σ H1 λy H2=>r x y H2 λz H3=>∃k,z=.bl k/\if k=true then tc σ H3 λw H4=>r' y w H4 Q else Q (.bl false) H3):PL r r' ta tb tc σ H Q:=h
theorem YT{nx bk ct:St->Hp->Prop}{rt:VK}(h:rt v H):(Ends.mk nx rt bk ct).rt v H:=h
theorem w_call{sp:Sp}{E:XK}(h:tr σ H λvs H1=>sp vs H1 Q E):mX sp [] E tr σ H Q:=by
 have e:(λvs H1=>sp (vs++[]) H1 Q E)=λvs H1=>sp vs H1 Q E:=by
  funext vs H1
  rw[nX]
 show tr σ H λvs H1=>sp (vs++[]) H1 Q E
 rw[e];exact h
theorem YW{T:String}{r:V->List V->Hp->VK->Prop}{to:TE}(h:to σ H λx H1=>tyV K T x H1/\tr σ H1 λxs H2=>r x xs H2 Q):tBM K T r to tr σ H Q:=h
theorem w_sub{to ti:TE}{ts:Pn}{R:St->Hp->Prop}(h:to σ H λo H1=>ti σ H1 λi H2=>ts o i v H2 λH3=>R σ H3):Yn to ti ts v σ H R:=h
theorem Ad{r:V->Option Int->Option Int->Hp->VK->Prop}{tl th:TO}(h:t σ H λx H1=>tl σ H1 λl H2=>th σ H2 λu H3=>r x l u H3 Q):tSl r t tl th σ H Q:=h
theorem tW{R:Option Int->Hp->Prop}(h:R none H):zK σ H R:=h
theorem HF{R:Option Int->Hp->Prop}(h:t σ H λx H1=>∃i,x=.int i/\R (some i) H1):Qd t σ H R:=h
theorem QS{R:Int->Prop}(h:R i):∃k,V.int i=.int k/\R k:=⟨i,rfl,h⟩
theorem Dq{p:Addr}{xs:List V}(h:SqL K H p xs)(e:atI xs i=some v)(k:Q v H):Qe K (.ref p) (.int i) H Q:=⟨p,xs,i,v,rfl,rfl,h,e,k⟩
theorem QT{p:Addr}{xs:List V}(h:SqT K H p xs)(e:atI xs i=some v)(k:Q v H):Vt K (.ref p) (.int i) H Q:=⟨p,xs,i,v,rfl,rfl,h,e,k⟩
def YX(K:W.Frag):List V->Hp->VK->Prop:=λxs H Q=>∃x n,xs=[x]/\abd K x H n/\Q (.int n) H
theorem QV{p:Addr}{xs:List V}(h:SqL K H p xs)(k:Q (.int xs.length) H):YX K [.ref p] H Q:=⟨_,xs.length,rfl,.inl ⟨xs,h,rfl⟩,k⟩
theorem QW{p:Addr}{xs:List V}(h:SqT K H p xs)(k:Q (.int xs.length) H):YX K [.ref p] H Q:=⟨_,xs.length,rfl,.inr ⟨xs,h,rfl⟩,k⟩
theorem w_is{x d:V}{tv:Value}{b:Bool}(ty:b_ K H x tv)(e:qt K tv d=some b)(h:Q (.bl b) H):rB K [x,d] H Q:=⟨x,d,tv,b,rfl,ty,e,h⟩
end
section
variable{X:Cx}
theorem wX:g_ X (.builtin "len") (YX X.K):=PX
end
section
variable{A B p:Prop}[Decidable p]{b:Bool}
theorem cC(h1:p->A)(h2:¬ p->B):if decide p=true then A else B:=by
 by_cases h:p
 ·rw[zS (gN h)];exact h1 h
 ·rw[if_neg (by simpa using h)];exact h2 h
theorem i_b(h1:b=true->A)(h2:b=false->B):if b=true then A else B:=by
 cases b with
 | true=>exact abh (h1 rfl)
 | false=>exact abg (h2 rfl)
theorem i_T(h:b=true)(k:A):if b=true then A else B:=by rw[zS h];exact k
theorem i_F(h:b=false)(k:B):if b=true then A else B:=by rw[yA (by rw[h];exact vE)];exact k
theorem aem(h:b=true)(k:B):if (!b)=true then A else B:=by rw[yA (by rw[h];exact vE)];exact k
theorem J5(h:p)(k:A):if decide p=true then A else B:=by rw[zS (gN h)];exact k
theorem J6(h:¬ p)(k:B):if decide p=true then A else B:=by rw[if_neg (by simpa using h)];exact k
theorem Ae(h:p)(k:B):if (!decide p)=true then A else B:=by rw[if_neg (by simpa using h)];exact k
end
section
variable{H H':Hp}{q a:Addr}{ys:List V}
def aB(H:Hp)(ys:List V)(rows:List (List V)):Prop:=ys.length=rows.length/\∀(j:Nat)(r:List V),rows[j]?=some r->∃q,ys[j]?=some (.ref q)/\H q=some (.tup r)
theorem aB.same{rows:List (List V)}(s:Same H H')(h:aB H ys rows):aB H' ys rows:=⟨h.1,λj r e=>let ⟨q,a,b⟩:=h.2 j r e;⟨q,a,s _ _ b⟩⟩
theorem aB.nil:aB H [] []:=⟨rfl,λj r e=>by simp at e⟩
end
section
variable{σ:St}{H:Hp}{K:W.Frag}{a b:V}{p:Addr}
theorem YZ{i0 i1:Nat}{R:St->Hp->Prop}(hp:SqT K H p [a,b])(h:bR i0 a σ H λσ1 H1=>bR i1 b σ1 H1 R):Vm K 2 (sU (bR i0) (sU (bR i1) Vl)) (.ref p) σ H R :=
 ⟨p,_,rfl,hp,rfl,_,_,rfl,_,_,rfl,rfl,h⟩
end
def QX(K:W.Frag):R2:=λx y H Q=>∃d d',Rep K H d x/\Rep K H d' y/\gA d<=100/\Q (.bl (fB d d')) H
theorem dM{X:Cx}{k:Nat}(hr:Room k X.A):OpR X (compareOp .Eq) (QX X.K):=VB hr
theorem HJ:∀ns:List Int,eO (ns.map Dt.int)=0
 | []=>rfl
 | n::ns=>by simp[eO,gA,HJ ns]
end L2
namespace L2
open PySem PySem.Spec PyProof.Rows PySem.SeqAt
section
def idV:V->Bool
 | .non=>true
 | .bl _=>true
 | .int _=>true
 | .str _=>true
 | .ref _=>true
 | _=>false
theorem Np{A:Around}{s:Shared}{x:V}{u v:Value}(f:idV x=true)(ru:RelV x u)(rv:RelV x v):EqAt A s u v true:=by
 cases x with
 | non=>cases ru;cases rv;exact EqAt.same _
 | bl b=>cases ru;cases rv;exact EqAt.same _
 | ref b=>cases ru;cases rv;exact EqAt.same _
 | int i =>
  obtain⟨t,rfl⟩:=ru;obtain⟨t',rfl⟩:=rv;have:=EqAt.int_int (A:=A) (s:=s) i t i t'
  rwa [beq_self_eq_true] at this
 | str z =>
  obtain⟨t,rfl⟩:=ru;obtain⟨t',rfl⟩:=rv;have:=EqAt.str_str (A:=A) (s:=s) z t z t'
  rwa [beq_self_eq_true] at this
 | _=>exact gE (show false=true from f) vE
end
theorem Nq{σ:St}{H:Hp}{wi:TI}{J:It}{xs:List V}{Lk:Hp->Prop}{c:TT}{Q:VK}{fr:List Nat}{fvs:St}{p:V->Bool}(hz:xs.length<=1000000)(hf:(fr.map λi=>(σ[i]?).getD none)=fvs)
  (it:L2.ItemsOf J xs Lk) (hw:∀R:It->Hp->Prop,R J H->wi σ H R) (hL:∀H',Same H H'->Lk H')
  (turn:∀(i:Nat)(v:V)(H':Hp)(R:Bool->Hp->Prop),xs[i]?=some v->Same H H'->(∀H2,Same H' H2->R (p v) H2)->c (some v::fvs) H' R)
  (k:∀l H',New H H' l (.lst (xs.filter p))->Q (.ref l) H'):Dg wi 1 fr (bR 0) c (dI 0) σ H Q:=by
 refine hw _ λacc hacc=>?_
 subst hf;have Dr:∀b u,H b=some u->b≠acc:=λb u e=>aQ e hacc
 refine zN it (λi ys H'=>H' acc=some (.lst ys)/\Same H H'/\ys=(xs.take i).filter p) ⟨bx,Same.new hacc,by simp⟩ (λi ys H' _ h=>⟨hL H' h.2.1,h.1⟩) ?_ ?_
 ·rintro i x tv ys H' hx hi ⟨ha,hs,rfl⟩ htv;obtain⟨tv0,rfl⟩:∃a,tv=[a]:=List.length_eq_one_iff.mp htv;have tk:xs.take (i+1)=xs.take i++[x]:=by
   rw[qS,hx]
   rfl
  unfold bR;refine turn i x H' _ hx hs λH2 s2=>?_
  cases hp:p x with
  | true =>
   refine abh ⟨x,rfl,?_,s2 _ _ ha,lJ.next (tv:=[some x]) hi ⟨bx,λb u e=>?_,?_⟩ rfl⟩
   ·refine Nat.lt_of_le_of_lt (List.length_filter_le _ _) (qA ?_ (cH hz));rw[oB]
    lia
   ·rw[aX (Dr b u e)];exact s2 _ _ (hs _ _ e)
   ·rw[tk,List.filter_append];simp[hp]
  | false =>
   refine abg (lJ.next (tv:=[some x]) hi ⟨s2 _ _ ha,hs.trans s2,?_⟩ rfl);rw[tk,List.filter_append];simp[hp]
 ·rintro ys H' ⟨ha,hs,rfl⟩;rw[List.take_length] at ha;exact k acc H' ⟨hs,ha,Dr⟩
section
variable{σ:St}{H:Hp}{Q:VK}{p:Addr}
theorem Y0(h:∀p H',New H H' p (.dK [])->Q (.ref p) H'):Hg σ H Q:=λp hp=>h p _ (.mk' hp)
end
def Kp(b:Addr)(H H':Hp):Prop:=∀x u,x≠b->H x=some u->H' x=some u
section
variable{b:Addr}{H H1:Hp}
theorem Off.kp(f:Off b H H1):Kp b H H1:=λx u n h=>by rw[f x n];exact h
end
section
variable{X:Cx}{K:W.Frag}
theorem rK(h:X.K=K):IxR X (Vt K):=h▸bA
end
def HN(K:PySem.W.Frag)(a:Addr)(g:TG)(tb:TS)(D:Ends)(σ:St)(H:Hp):Prop:=∃W:Nat->Nat->St->Hp->Prop,(∃m,W 0 m σ H)/\∀i m σ H,W i m σ H ->
 ((Itl K a).stop i H/\D.nx σ H)\/((Itl K a).go i H/\∃N:St->Hp->Prop,(∀σ' H',N σ' H'->∃m',m'<m/\W (i+1) m' σ' H')/\∀x H',(Itl K a).yld i H x H'->g x σ H' λσ2 H2=>tb { D with nx:=N,ct:=N,bk:=D.nx } σ2 H2)
theorem HS{K:W.Frag}{te:TE}{g:TG}{tb:TS}{D:Ends}{σ:St}{H:Hp}(h:te σ H λx H1=>∃a,x=.ref a/\(∃xs,SqL K H1 a xs)/\HN K a g tb D σ H1):CJ (Cz K te) g tb D σ H:=h
theorem iw{K:W.Frag}{a:Addr}{xs:List V}{g:TG}{tb:TS}{D:Ends}{σ:St}{H:Hp}(Pv:Nat->St->Hp->Prop)(h0:Pv 0 σ H)(hl:∀i σ H,i<=xs.length->Pv i σ H->SqL K H a xs)
  (hs:∀i x σ H,xs[i]?=some x->Pv i σ H->g x σ H λσ2 H2=>tb { D with nx:=Pv (i+1),ct:=Pv (i+1),bk:=D.nx } σ2 H2) (hd:∀σ H,Pv xs.length σ H->D.nx σ H):HN K a g tb D σ H:=Pz Pv h0 hl hs hd
def eZ(J:It)(nt:Nat)(fr:List Nat)(g:TG)(c:TT)(te:TE)(σ:St)(H1:Hp)(Q:VK):Prop:=∀acc,H1 acc=none->m9 J nt fr g c te σ H1 Q acc
theorem Af{K:W.Frag}{t0 te:TE}{nt:Nat}{fr:List Nat}{g:TG}{c:TT}{σ:St}{H:Hp}{Q:VK}(h:t0 σ H λx H1=>∃a,x=.ref a/\(∃xs,SqL K H1 a xs)/\eZ (Itl K a) nt fr g c te σ H1 Q):Dg (Cz K t0) nt fr g c te σ H Q:=h
theorem comp_map{J:It}{xs:List V}{Lk:Hp->Prop}{te:TE}{σ:St}{H:Hp}{Q:VK}{fr:List Nat}{fvs:St}{P:Nat->V->Prop}(it:L2.ItemsOf J xs Lk)(hz:xs.length<=1000000)(hf:(fr.map λi=>(σ[i]?).getD none)=fvs)(hL:∀H',Same H H'->Lk H')
  (turn:∀(i:Nat)(v:V)(H':Hp)(R:VK),xs[i]?=some v->Same H H'->(∀y H2,Same H' H2->P i y->R y H2)->te (some v::fvs) H' R)
  (k:∀l H' ys,New H H' l (.lst ys)->ys.length=xs.length->(∀(i:Nat)(y:V),ys[i]?=some y->P i y)->Q (.ref l) H'):eZ J 1 fr (bR 0) JL te σ H Q:=by
 intro acc hacc;subst hf;have Dr:∀b u,H b=some u->b≠acc:=λb u e=>aQ e hacc
 refine zN it (λi ys H'=>H' acc=some (.lst ys)/\Same H H'/\ys.length=i/\∀(j:Nat)(y:V),ys[j]?=some y->P j y) ⟨bx,Same.new hacc,rfl,λj y e=>by simp at e⟩ (λi ys H' _ h=>⟨hL H' h.2.1,h.1⟩) ?_ ?_
 ·rintro i x tv ys H' hx hi ⟨ha,hs,hl,hp⟩ htv;obtain⟨tv0,rfl⟩:∃a,tv=[a]:=List.length_eq_one_iff.mp htv;unfold bR JL;dsimp only;rw[zS rfl];refine turn i x H' _ hx hs λy H2 s2 py=>⟨?_,s2 _ _ ha,lJ.next (tv:=[some x]) hi ⟨bx,λb u e=>?_,by rw[yB,hl];rfl,λj z e=>?_⟩ rfl⟩
  ·rw[hl];exact qA hi (cH hz)
  ·rw[aX (Dr b u e)];exact s2 _ _ (hs _ _ e)
  ·by_cases hj:j<ys.length
   ·rw[yY hj] at e;exact hp j z e
   ·rw[oP (by lia)] at e;have hj2:j-ys.length=0:=by
     by_cases h0:j-ys.length=0
     ·exact h0
     ·rw[List.getElem?_eq_none (by simp;lia)] at e;cases e
    rw[hj2] at e;cases e;have:j=i:=by lia
    rw[this];exact py
 ·rintro ys H' ⟨ha,hs,hl,hp⟩;exact k acc H' ys ⟨hs,ha,Dr⟩ hl hp
section
variable{X:Cx}{k m:Nat}{x:Str}{ps:List Str}{sp:Sp}{p pos apos:Pos}{e:Expr}{es:List Expr}{t:TA}{f C:Addr}{fd:FuncData}{nm:Str}
structure nF(K:W.Frag)(C:Addr)(m:Str)(f:Addr):Prop where
 ga:W.specialIn K (.ref C) "__getattribute__" = some (some (.builtin "type.__getattribute__"))
 rd:W.readsIn K C (.type "type")=true
 at_:W.findCls K (.ref C) (.type "type") m=some (.val (.ref f))
 hi:W.handedIn (.ref f)=true
 kp:W.keepIn K (.ref f)=true
theorem Nr{gw:List (Addr×Obj)}{σ:St}{H:Hp}{s:Shared}{A:Around}{E:xB}{pl:Sem Bool}{Q:Value×List Value->Shared->Prop}(I:Inv X gw σ H s)(c:nF X.K C nm f)(h:∀s',Inv X gw σ H s'->Q (.ref f,[]) s') :
  wpAny (model X.prog X.w) A (getMethod (.ref C) nm pl) Q E s:=W.method_cls I.kIn c.ga (W.cls_value I.kIn c.rd c.at_ c.hi (h _ (I.tok _)))
theorem QZ{CX:CXT}{E:XK}{pl:Sem Bool}(hC:X.mg x=some (.ref C))(c:nF X.K C nm f)(F:gM X.prog X.w X.K X.mg X.base CX k f fd ps sp)(hr:Room k X.A)(hb:Binds X.K fd ps [])(hx:Passes CX X E)(ha:PA X (e::es) t)(hg:Gl X x:=by rfl)(hdb:(x==("__debug__" : Str))=false:=by decide)
  (hst:starEach (e::es) X.env=(false,eval e X.env)::starEach es X.env:=by rfl) (hpl:(backTo pos (starEach es X.env)).any (·.1)=false:=by rfl)
  (ht:eval (.Call (.Attribute (.Name x p) nm apos) (e::es) [] pos) X.env=(do
   let ov <- eval (.Name x p) X.env
   standAt apos.atName
   let (f,first) <- holding [ov] (getMethod ov nm pl)
   callWith pos f first (backTo pos (starEach (e::es) X.env)) (backToKw pos (keywordEach [] X.env))):=by rfl) :
  PE X (.Call (.Attribute (.Name x p) nm apos) (e::es) [] pos) (mX sp [] E t):=by
 intro gw s σ H Q I h;have hn:PE X (.Name x p) (tC (.ref C)):=jy (v:=.ref C) ⟨_,hC,rfl⟩ hg hdb;refine W.methodCall_KW (pl:=pl) (thn (hn gw s σ H (λv H1=>v=.ref C/\H1=H) I ⟨rfl,rfl⟩) ?_) ht;rintro u s1 ⟨y,H1,I1,ry,rfl,rfl⟩;obtain rfl:u=Value.ref C:=ry;refine Nr I1 c λs2 I2=>W.callWith_K (first:=[]) (h₀:=X.base) I.ok.mod.kin c.kp (thn (ha pos gw s2 σ _ _ I2 h) ?_) hst hpl
 rintro us s3 ⟨vs,H3,I3,r,q⟩;exact⟨I3.kIn,zJ F hr hb .nil hx I3 r q⟩
end
section
variable{P:Program}{w:World}{K:W.Frag}{mg:xC}{base:Heap}{CX:CXT}{k:Nat}{x nm qual:Str}{ps:List Str}{sp:Sp}{C:Addr}
structure Met(P:Program)(w:World)(K:W.Frag)(mg:xC)(base:Heap)(CX:CXT)(k:Nat)(C:Addr)(nm:Str)(ps:List Str)(sp:Sp):Prop where
 ex:∃(f:Addr)(fd:FuncData),gM P w K mg base CX k f fd ps sp/\Meth K C nm f/\Binds K fd ps []
structure Mak(P:Program)(w:World)(K:W.Frag)(mg:xC)(base:Heap)(CX:CXT)(k:Nat)(x:Str)(C:Addr)(ps:List Str)(sp:Sp):Prop where
 ex:∃(f:Addr)(fd:FuncData),gM P w K mg base CX k f fd ps sp/\Mk K C f/\mg x=some (.ref C)/\Binds K fd ps []
structure Cdf(P:Program)(w:World)(K:W.Frag)(mg:xC)(base:Heap)(CX:CXT)(k:Nat)(x:Str)(C:Addr)(nm:Str)(ps:List Str)(sp:Sp):Prop where
 ex:∃(f:Addr)(fd:FuncData),gM P w K mg base CX k f fd ps sp/\nF K C nm f/\mg x=some (.ref C)/\Binds K fd ps []
def FnAt(K:W.Frag)(nm qual:Str)(st:Stmt)(f:Addr):Prop:=∃fd:FuncData,Fun K nm qual st f fd
structure fY(P:Program)(w:World)(K:W.Frag)(mg:xC)(base:Heap)(CX:CXT)(k:Nat)(f:Addr)(ps:List Str)(sp:Sp):Prop where
 ex:∃fd:FuncData,gM P w K mg base CX k f fd ps sp/\Binds K fd ps []
theorem fY.met{f:Addr}(t:fY P w K mg base CX k f ps sp)(m:Meth K C nm f):Met P w K mg base CX k C nm ps sp:=let ⟨fd,F,b⟩:=t.ex;⟨f,fd,F,m,b⟩
theorem fY.mak{f:Addr}(t:fY P w K mg base CX k f ps sp)(m:Mk K C f)(g:mg x=some (.ref C)):Mak P w K mg base CX k x C ps sp:=let ⟨fd,F,b⟩:=t.ex;⟨f,fd,F,m,g,b⟩
theorem fY.cdf{f:Addr}(t:fY P w K mg base CX k f ps sp)(m:nF K C nm f)(g:mg x=some (.ref C)):Cdf P w K mg base CX k x C nm ps sp:=let ⟨fd,F,b⟩:=t.ex;⟨f,fd,F,m,g,b⟩
variable{st:Stmt}{N:List Str}{f:Addr}
theorem Q0(h:FnAt K nm qual st f)(S:aJ N ps (au st))(len:∀vs H Q E,sp vs H Q E->vs.length=ps.length)
  (hb:∀(kV doc pm:Value)(an:xL)(cdv ct:Value)(us:xE),us.length=ps.length->bindArgs (W.fnOf nm qual (bF st) (bf st) (au st) .none kV doc pm an cdv ct) ⟨us,[]⟩=pure (ps.zip us))
  (hbody:∀(f:Addr)(cdv:Value)(A:Around)(outer:List Env)(s:Shared)(H:Hp)(vs:List V)(Q:VK)(E:XK),Room k (A.deeper (envOfC qual (au st) s.heap.objs.size f cdv))->sp vs H Q E ->
   ∃t,PSs (fu CX P w K mg base N qual (au st) f cdv A outer s H E).nox (bf st) t/\t { nx:=λ_ H'=>Q .non H',rt:=Q } (start N vs) H):fY P w K mg base CX (k+1) f ps sp:=by
 obtain⟨fd,F⟩:=h;refine⟨fd,?_,F.binds hb⟩;obtain⟨oc,od,kV,doc,pm,an,cdv,ct,osl,rfl,lk,hcd⟩:=F.ex;refine mY lk hcd S len λA outer s H vs Q E hr hsp=>?_
 obtain⟨t,h,q⟩:=hbody f cdv A outer s H vs Q E hr hsp;exact⟨t,h.nox,q⟩
theorem Nt(h:FnAt K nm qual st f)(S:aJ N ps (au st))(len:∀vs H Q E,sp vs H Q E->vs.length=ps.length)
  (hb:∀(kV doc pm:Value)(an:xL)(cdv ct:Value)(us:xE),us.length=ps.length->bindArgs (W.fnOf nm qual (bF st) (bf st) (au st) .none kV doc pm an cdv ct) ⟨us,[]⟩=pure (ps.zip us))
  (hbody:∀(f:Addr)(cdv:Value)(A:Around)(outer:List Env)(s:Shared)(H:Hp)(vs:List V)(Q:VK)(E:XK),Room k (A.deeper (envOfC qual (au st) s.heap.objs.size f cdv))->sp vs H Q E ->
   ∃t,PSs (fu (CX1 P w) P w K mg base N qual (au st) f cdv A outer s H E) (bf st) t/\t { nx:=λ_ H'=>Q .non H',rt:=Q } (start N vs) H):fY P w K mg base (CX1 P w) (k+1) f ps sp:=by
 obtain⟨fd,F⟩:=h;refine⟨fd,?_,F.binds hb⟩;obtain⟨oc,od,kV,doc,pm,an,cdv,ct,osl,rfl,lk,hcd⟩:=F.ex;exact mY lk hcd S len λA outer s H vs Q E hr hsp=>hbody f cdv A outer s H vs Q E hr hsp
end
section
variable{X:Cx}{CX:CXT}{k m:Nat}{x nm:Str}{ps:List Str}{sp:Sp}{E:XK}{p pos apos:Pos}{e o:Expr}{es:List Expr}{t:TA}{ta:TE}{C:Addr}
theorem jm{pl:Sem Bool}(he:PE X o ta)(c:Cls X.K C)(D:Met X.prog X.w X.K X.mg X.base CX k C nm ps sp)(hr:Room m X.A)(ha:PA X (e::es) t)(hk:k<=m:=by decide)(hx:Passes CX X E:=by exact qp)
  (hst:starEach (e::es) X.env=(false,eval e X.env)::starEach es X.env:=by rfl) (hpl:(backTo pos (starEach es X.env)).any (·.1)=false:=by rfl)
  (ht:eval (.Call (.Attribute o nm apos) (e::es) [] pos) X.env=(do
   let ov <- eval o X.env
   standAt apos.atName
   let (f,first) <- holding [ov] (getMethod ov nm pl)
   callWith pos f first (backTo pos (starEach (e::es) X.env)) (backToKw pos (keywordEach [] X.env))):=by rfl) :
  PE X (.Call (.Attribute o nm apos) (e::es) [] pos) (wH C nm sp [] E ta t):=by
 obtain⟨f,fd,F,mt,b⟩:=D.ex;exact Vq (pl:=pl) he c mt F (hr.mono hk) b .nil hx ha hst hpl ht
theorem bM{pl:Sem Bool}(he:PE X o ta)(c:Cls X.K C)(D:Met X.prog X.w X.K X.mg X.base CX k C nm ps sp)(hr:Room m X.A)(hk:k<=m:=by decide)(hx:Passes CX X E:=by exact qp)
  (ht:eval (.Call (.Attribute o nm apos) [] [] pos) X.env=(do
   let ov <- eval o X.env
   standAt apos.atName
   let (f,first) <- holding [ov] (getMethod ov nm pl)
   callWith pos f first (backTo pos (starEach [] X.env)) (backToKw pos (keywordEach [] X.env))):=by rfl) :
  PE X (.Call (.Attribute o nm apos) [] [] pos) (wH C nm sp [] E ta CK):=by
 obtain⟨f,fd,F,mt,b⟩:=D.ex;exact Qa (pl:=pl) he c mt F (hr.mono hk) b .nil hx ht
theorem Ag{pl:Sem Bool}(D:Cdf X.prog X.w X.K X.mg X.base CX k x C nm ps sp)(hr:Room m X.A)(ha:PA X (e::es) t)(hk:k<=m:=by decide)(hx:Passes CX X E:=by exact qp)(hg:Gl X x:=by rfl)(hdb:(x==("__debug__" : Str))=false:=by decide)
  (hst:starEach (e::es) X.env=(false,eval e X.env)::starEach es X.env:=by rfl) (hpl:(backTo pos (starEach es X.env)).any (·.1)=false:=by rfl)
  (ht:eval (.Call (.Attribute (.Name x p) nm apos) (e::es) [] pos) X.env=(do
   let ov <- eval (.Name x p) X.env
   standAt apos.atName
   let (f,first) <- holding [ov] (getMethod ov nm pl)
   callWith pos f first (backTo pos (starEach (e::es) X.env)) (backToKw pos (keywordEach [] X.env))):=by rfl) :
  PE X (.Call (.Attribute (.Name x p) nm apos) (e::es) [] pos) (mX sp [] E t):=by
 obtain⟨f,fd,F,c,g,b⟩:=D.ex;exact QZ (pl:=pl) g c F (hr.mono hk) b hx ha hg hdb hst hpl ht
end
end L2
namespace L2
open PySem PySem.Spec PyProof.Rows
def eE:V->Dt
 | .int i=>.int i
 | .str x=>.str x
 | .bl b=>.bl b
 | _=>.non
def cP:V->Bool
 | .int _=>true
 | .str _=>true
 | .bl _=>true
 | .non=>true
 | _=>false
section
variable{K:W.Frag}{H:Hp}
theorem Ds{v:V}(h:cP v=true):Rep K H (eE v) v:=by
 cases v <;> simp_all [cP,eE,Rep]
theorem gF:∀{vs:List V},(∀v∈vs,cP v=true)->cG K H (vs.map eE) vs
 | [],_=>by simp[cG]
 | v::vs,h=>by
  simp only[List.map_cons,cG];exact⟨_,_,rfl,Ds (h v (zC ..)),gF λx hx=>h x (zD _ hx)⟩
theorem Du:∀vs:List V,eO (vs.map eE)=0
 | []=>rfl
 | v::vs=>by
  have:gA (eE v)=0:=by cases v <;> rfl
  simp[eO,this,Du vs]
abbrev Dv(r:List V):Dt:=.tup (r.map eE)
theorem wY:∀{rows:List (List V)} {ys:List V},aB H ys rows->(∀r∈rows,∀v∈r,cP v=true)->cG K H (rows.map Dv) ys
 | [],ys,h,_=>by
  have:ys=[]:=List.eq_nil_of_length_eq_zero h.1;subst this;simp[cG]
 | r::rows,[],h,_=>by simp[aB] at h
 | r::rows,y::ys,h,hf=>by
  obtain⟨q,e,hq⟩:=h.2 0 r rfl;cases e;simp only[List.map_cons,cG];refine⟨_,_,rfl,?_,wY (rows:=rows) (ys:=ys) ⟨by simpa using h.1,λj r' e=>h.2 (j+1) r' e⟩ λx hx=>hf x (List.mem_cons_of_mem _ hx)⟩;simp only[Rep];exact⟨q,r,rfl,SqT.of hq,gF (hf r (zC ..))⟩
theorem Dw:∀rows:List (List V),eO (rows.map Dv)<=1
 | []=>by decide
 | r::rows=>by
  have h1:gA (Dv r)=1:=by simp only[gA,Du]
  have h2:=Dw rows;simp only[List.map_cons,eO,h1]
  lia
theorem dN{p:Addr}{rows:List (List V)}{ys:List V}(hp:SqL K H p ys)(h:aB H ys rows)(hf:∀r∈rows,∀v∈r,cP v=true):Rep K H (.lst (rows.map Dv)) (.ref p):=by
 simp only[Rep];exact⟨p,ys,rfl,hp,wY h hf⟩
theorem iK(rows:List (List V)):gA (.lst (rows.map Dv))<=2:=by
 have:=Dw rows;simp only[gA]
 lia
theorem jR{d:Dt}{x y:V}{Q:VK}(hx:Rep K H d x)(hy:Rep K H d y)(hd:gA d<=100)(k:Q (.bl true) H):QX K x y H Q :=
 ⟨d,d,hx,hy,hd,by rw[kO];exact k⟩
end
section
variable{K:W.Frag}{σ:St}{H:Hp}{Q:VK}{ta:TE}{f:Str}{C:Addr}
theorem HW(h:ta σ H λx H1=>∃a C dx fs v,x=.ref a/\H1 a=some (.ins C dx fs)/\Cls K C/\bZ K C f/\fs.lookup f=some v/\Q v H1):Yv K ta f σ H Q:=h
theorem w_fld{a dx:Addr}{fs:List (Str×V)}{v:V}{R:V->Prop}(ho:H a=some (.ins C dx fs))(c:Cls K C)(n:bZ K C f)(l:fs.lookup f=some v)(k:R v) :
  ∃a' C' dx' fs' v',V.ref a=.ref a'/\H a'=some (.ins C' dx' fs')/\Cls K C'/\bZ K C' f/\fs'.lookup f=some v'/\R v':=⟨a,C,dx,fs,v,rfl,ho,c,n,l,k⟩
end
theorem Nu{H:Hp}{x dx C:Addr}(hx:H x=none)(hd:H dx=none):Same H (upd (upd H dx (.own x)) x (.ins C dx [])):=λb u e=>by
 rw[aX (aQ e hx),aX (aQ e hd)];exact e
def J7:V->List V->Hp->VK->Prop:=λx vs H Q=>∃l b xs zs,x=.ref l/\vs=[.ref b]/\H l=some (.lst xs)/\H b=some (.lst zs)/\xs.length+zs.length<=sizeLine/\∀H',Off l H H'->H' l=some (.lst (xs++zs))->Q .non H'
section
variable{X:Cx}
theorem V5:MtM X "list.extend" J7:=by
 intro pins s σ H x vs v us Q I rx rv h;obtain⟨l,b,xs,zs,e1,e2,hH,hB,hz,q⟩:=h;exact MP pins s σ H x vs v us Q I rx rv ⟨l,b,xs,zs,e1,e2,hH,hB,hz,q _ Off.upd bx⟩
theorem V6{o e:Expr}{to te:TE}{apos cpos:Pos}(ho:PE X o to)(he:PE X e te)(hbase:attributeBase o "extend" X.env (eval o X.env)=eval o X.env:=by rfl)
  (hfew:((backTo cpos (starEach [e] X.env)).all (λx=>!x.1) && (backToKw cpos (keywordEach [] X.env)).all (λx=>x.1.isSome)
   && decide (([e]:List Expr).length+([]:List Keyword).length+(if ([]:List Keyword).isEmpty then 0 else 1)<30))=true:=by rfl)
  (hline:(apos.endLine==cpos.line)=true:=by rfl) (hs:starEach [e] X.env=(false,eval e X.env)::starEach [] X.env:=by rfl) :
  PE X (.Call (.Attribute o "extend" apos) [e] [] cpos) (tBM X.K "list" J7 to (wG te CK)) :=
 Xw PySem.F.plainAttrs_list PySem.F.slot_list_extend PySem.F.type_list_extend V5 ho (aj he ao hs) hbase hfew hline hs (by rfl)
end
theorem Dy{X:Cx}{H:Hp}{p:Addr}(h:H p=some (.dK [])):Shows X H (.ref p) (.dict []):=λpins σ s u I r=>by
 cases (show u=Value.ref p from r);obtain⟨_,hs,vs,kv,o,es,ep,ho,hx,hd,hk,hp,hnd⟩:=Xx I.hok h;clear hnd;cases kv
 generalize hl:es.toList=l at hp
 cases hp;refine⟨[p]++[]++[],.dict ho hx.1 hd (as:=[]) (bs:=[]) ?_ ?_,λ_=>?_⟩
 ·rw[hl];exact .nil
 ·rw[hl];exact .nil
 ·intro m;have e:sysModules=p:=by simpa using m
  rw[<- e] at hs;simp at hs
end L2
namespace L2
open PySem PySem.Spec PyProof.Rows PySem.SeqAt
section
variable{H H':Hp}{p a l:Addr}{o u:HO}
theorem New.at(n:New H H' p o)(h:H a=some u):H' a=some u:=n.s a u h
theorem Same.at(s:Same H H')(h:H a=some u):H' a=some u:=s a u h
theorem Off.at(f:Off l H H')(ne:a≠l)(h:H a=some u):H' a=some u:=by rw[f a ne];exact h
theorem Kp.at(k:Kp l H H')(ne:a≠l)(h:H a=some u):H' a=some u:=k a u ne h
theorem abu{C d:Addr}{f:List (Str×V)}{y:List V}(h1:H a=some (.ins C d f))(h2:H l=some (.lst y)):a≠l:=λz=>by rw[z,h2] at h1;cases h1
end
section
variable{X:Cx}{id:String}{x nm:Str}{e v:Expr}{es:List Expr}{t:TA}{tv:TE}{p kp pos:Pos}
def XC(X:Cx)(id:String)(nm:Str)(r:List V->V->Hp->VK->Prop):Prop:=∀(pins:List (Addr×Obj)) (s:Shared) (σ:St) (H:Hp) (xs:List V) (us:xE) (y:V) (u:Value) (Q:VK),Inv X pins σ H s->Vals xs us->RelV y u->r xs y H Q ->
 wpAny (model X.prog X.w) X.A (call (.builtin id) us [(nm,u)]) (EP X pins σ Q) X.xe s
def tCK(r:List V->V->Hp->VK->Prop)(t:TA)(tv:TE):TE:=λσ H Q=>t σ H λxs H1=>tv σ H1 λy H2=>r xs y H2 Q
theorem Q5{r:List V->V->Hp->VK->Prop}{σ:St}{H:Hp}{Q:VK}(h:t σ H λxs H1=>tv σ H1 λy H2=>r xs y H2 Q):tCK r t tv σ H Q:=h
theorem Y4{r:List V->V->Hp->VK->Prop}(hc:XC X id nm r)(hg:Gl X x)(hm:X.mg x=none)(hv:bootBuiltins x=some (.builtin id))(ha:PA X (e::es) t)(hw:PE X v tv)(hn:x ≠ "__name__":=by decide)(hdb:(x==("__debug__" : Str))=false:=by decide)
  (he:backTo pos (starEach (e::es) X.env)=(false,eval e X.env)::backTo pos (starEach es X.env):=by rfl) (hpl:(backTo pos (starEach (e::es) X.env)).any (·.1)=false:=by rfl):PE X (.Call (.Name x p) (e::es) [⟨some nm,v,kp⟩] pos) (tCK r t tv):=by
 intro pins s σ H Q I h;refine wpAny_Call_Name_kw (lM I hg hm hv ?_ hn hdb);refine callWith_kw (thn (ha pos pins s σ H _ I h) λus s1 ⟨vs,H1,I1,r1,q1⟩=>?_) he hpl;refine kws_cons (thn (hw pins s1 σ H1 _ I1 q1) λz s2 ⟨y,H2,I2,r2,q2⟩=>kws_nil ?_);have hv2:Vals vs us:=r1;exact hc pins s2 σ H2 vs us y z Q I2 hv2 r2 q2
end
theorem Dz:∀{ns:List Int} {us:xE},Vals (ns.map V.int) us->IntsAre us ns
 | [],_,.nil=>.nil
 | n::ns,_,.cons r t=>by
  obtain⟨k,rfl⟩:=r;exact .cons n k (Dz t)
theorem qx:∀{us:xE} {ns:List Int} {i:Nat} {v:Value},IntsAre us ns->us[i]?=some v->∃t,v=.int (ns.getD i 0) t
 | _,_,_,_,.nil,e=>by simp at e
 | _,_,0,_,.cons n t h,e=>by
  simp at e;exact⟨t,e.symm⟩
 | _,_,i+1,_,.cons n t h,e=>by
  obtain⟨t',e'⟩:=qx (i:=i) h (by simpa using e);exact⟨t',by rw[e'];simp⟩
theorem jT(ns:List Int):∀n,n<=ns.length->preSum (λi=>ns.getD i 0) n=(ns.take n).sum
 | 0,_=>by simp[preSum]
 | n+1,h=>by
  rw[preSum,jT ns n (by lia),qS,List.sum_append];have:ns[n]?=some ns[n]:=by simp
  rw[rX,this];simp
theorem HX{ns:List Int}(h:∀n∈ns,0<=n/\n<=1000000):0<=ns.sum/\ns.sum<=1000000*(ns.length:Int):=by
 induction ns with
 | nil=>simp
 | cons a t ih =>
  have h1:=h a zC;have h2:=ih λn hn=>h n (zD _ hn)
  rw[List.sum_cons,mN]
  lia
def agC(d:Int)(ns:List Int):Int:=ns.foldl max d
section
variable{X:Cx}
def abv(K:W.Frag):List V->Hp->VK->Prop:=λxs H Q=>∃(p:Addr)(ns:List Int),xs=[.ref p]/\SqL K H p (ns.map V.int)/\(∀n∈ns,0<=n/\n<=1000000)/\ns.length<=1000000/\Q (.int ns.sum) H
theorem Nv(hc:X.calm=true):g_ X (.builtin "sum") (abv X.K):=by
 intro pins s σ H xs us Q I r h;obtain⟨p,ns,rfl,hq,hb,hz,q⟩:=h;obtain⟨u,rfl,rx⟩:=vals1 r;cases rx;obtain⟨its,rv,pl,_⟩:=I.list hq;have hi:=Dz rv;have hn:its.length=ns.length:=by have:=rv.length;simpa using this.symm
 have hl:=pl.isList;have hlt:p<s.heap.objs.size:=let ⟨_,e,_⟩:=hl;gS e
 have part:∀j,j<=ns.length->0<=(ns.take j).sum/\(ns.take j).sum<=1000000*1000000:=λj hj=>by
  have b:=HX (ns:=ns.take j) λn hn=>hb n (List.mem_of_mem_take hn)
  have:(ns.take j).length<=1000000:=by rw[oB];lia
  lia
 refine call_sum_walk (wpAny_pyIter_list hl ?_);refine⟨s.heap.objs.size,[s.heap.objs.size,p],[s.heap.objs.size],its.toArray.size,_,_,λi=>ns.getD i 0,rfl,Walks.list (A:=X.A.in1) (I.ok.hd hc) _ p (qB hlt) its.toArray,
  ⟨⟨_,Heap.get?_push_size _ rfl,rfl,rfl⟩,hl.push _⟩,λb hb'=>?_,λi v hP=>qx hi (by simpa using hP),λj hj=>?_,λh' tk t' hk=>?_⟩
 ·rcases vS.mp hb' with rfl|hb'
  ·show _<(s.heap.push _).objs.size;rw[size_push'];exact Nat.lt_succ_self _
  ·rw[uB.mp hb'];show _<(s.heap.push _).objs.size;rw[size_push'];exact oS hlt
 ·have hj':j<ns.length:=by rw[<- hn];simpa using hj
  rw[jT ns (j+1) hj'];have b1:=part (j+1) hj';have b2:=hb (ns.getD j 0) (by rw[rX,jS hj'];exact List.getElem_mem hj');exact⟨⟨by show _<=ns.getD j 0;lia,by show ns.getD j 0<_;lia⟩,by lia,by lia⟩
 ·rw[nB,hn,jT ns _ (uA _),List.take_length];exact⟨.int _,H,I.kept (LSm.kept_iter hk),⟨_,rfl⟩,q⟩
end
theorem bI{CX:CXT}{P:Program}{w:World}{K:W.Frag}{mg:xC}{base:Heap}{N:List Str}{q:Str}{sc:Scope}{f:Addr}{cdv:Value}{A:Around}{outer:List Env}{s:Shared}{H:Hp}{E:XK}:(fu CX P w K mg base N q sc f cdv A outer s H E).nox.K=K:=rfl
theorem aY{CX:CXT}{P:Program}{w:World}{K:W.Frag}{mg:xC}{base:Heap}{N:List Str}{q:Str}{sc:Scope}{f:Addr}{cdv:Value}{A:Around}{outer:List Env}{s:Shared}{H:Hp}{E:XK}:(fu CX P w K mg base N q sc f cdv A outer s H E).K=K:=rfl
section
variable{o:Expr}{to tl th:TE}
def Y5(to tl th:TE):TG:=λv σ H Q=>to σ H λo H1=>tl σ H1 λa H2=>th σ H2 λc H3=>∃(l b:Addr)(xs ys:List V)(i j:Int),o=.ref l/\v=.ref b/\a=.int i/\c=.int j/\H3 l=some (.lst xs)/\H3 b=some (.lst ys)/\l≠b /\
 0<=i/\i<=j/\j<=xs.length/\xs.length+ys.length<=sizeLine/\∀H',Off l H3 H'->H' l=some (.lst (xs.take i.toNat++ys++xs.drop j.toNat))->Q σ H'
theorem HY{v:V}{σ:St}{H:Hp}{Q:St->Hp->Prop}(h:to σ H λo H1=>tl σ H1 λa H2=>th σ H2 λc H3=>∃(l b:Addr)(xs ys:List V)(i j:Int),o=.ref l/\v=.ref b/\a=.int i/\c=.int j/\H3 l=some (.lst xs)/\H3 b=some (.lst ys)/\l≠b /\
 0<=i/\i<=j/\j<=xs.length/\xs.length+ys.length<=sizeLine/\∀H',Off l H3 H'->H' l=some (.lst (xs.take i.toNat++ys++xs.drop j.toNat))->Q σ H'):Y5 to tl th v σ H Q:=h
theorem abw{l b:Addr}{xs ys:List V}{i j:Int}{H:Hp}{R:Hp->Prop}(e1:H l=some (.lst xs))(e2:H b=some (.lst ys))(ne:l≠b)(h0:0<=i)(h1:i<=j)(h2:j<=xs.length)(hz:xs.length+ys.length<=sizeLine)
  (k:∀H',Off l H H'->H' l=some (.lst (xs.take i.toNat++ys++xs.drop j.toNat))->R H'):∃(l' b':Addr)(xs' ys':List V)(i' j':Int),V.ref l=.ref l'/\V.ref b=.ref b'/\V.int i=.int i'/\V.int j=.int j'/\H l'=some (.lst xs')/\H b'=some (.lst ys')/\l'≠b' /\
 0<=i'/\i'<=j'/\j'<=xs'.length/\xs'.length+ys'.length<=sizeLine/\∀H',Off l' H H'->H' l'=some (.lst (xs'.take i'.toNat++ys'++xs'.drop j'.toNat))->R H':=⟨l,b,xs,ys,i,j,rfl,rfl,rfl,rfl,e1,e2,ne,h0,h1,h2,hz,k⟩
end
def Hs(H:Hp)(a:Addr):Prop:=∃u,H a=some u
section
variable{H H':Hp}{p:Addr}{o:HO}
theorem New.hs(n:New H H' p o):Hs H' p:=⟨o,n.e⟩
end
section
variable{H:Hp}{Q:VK}{K:W.Frag}{l b:Addr}{xs ys:List V}{y:V}{σ:St}{D:Ends}
theorem J8{o:HO}{n:Nat}{Z:Addr->Hp->Prop}(z:n<=sizeLine)(k:∀p H',New H H' p o->Z p H'):n<=sizeLine/\∀p H',New H H' p o->Z p H':=⟨z,k⟩
theorem Q6{R:Prop}(h:SqL K H l xs)(k:R):tyV K "list" (.ref l) H/\R:=⟨.inl ⟨rfl,_,h⟩,k⟩
theorem Q8(h:H l=some (.lst xs))(z:xs.length<sizeLine)(k:∀H',Off l H H'->H' l=some (.lst (xs++[y]))->Q .non H'):J1 (.ref l) [y] H Q:=⟨l,xs,y,rfl,rfl,h,z,k⟩
theorem abx(h:H l=some (.lst xs))(e:H b=some (.lst ys))(z:xs.length+ys.length<=sizeLine)(k:∀H',Off l H H'->H' l=some (.lst (xs++ys))->Q .non H'):J7 (.ref l) [.ref b] H Q:=⟨l,b,xs,ys,rfl,rfl,h,e,z,k⟩
theorem Q9{i:Int}{j:Nat}{v:V}{R:Hp->Prop}(h:H l=some (.lst xs))(e:ixN xs.length i=some j)(k:∀H',Off l H H'->H' l=some (.lst (xs.set j v))->R H'):QK (.ref l) (.int i) v H R:=⟨l,xs,i,j,rfl,rfl,h,e,k⟩
theorem Q_{lo hi:Option Int}(h:SqL K H l xs)(k:∀p H',New H H' p (.lst (m5 xs lo hi))->Q (.ref p) H'):YQ K (.ref l) lo hi H Q:=⟨l,xs,rfl,h,k⟩
theorem Ia(h:H l=some (.lst xs))(e:H b=some (.lst ys))(z:xs.length+ys.length<=sizeLine)(k:∀p H',New H H' p (.lst (xs++ys))->Q (.ref p) H'):Qv (.ref l) (.ref b) H Q:=⟨l,b,xs,ys,rfl,rfl,h,e,z,k⟩
theorem Ah{n:Nat}(h:H l=some (.lst [y]))(z:n<=1000000)(k:∀p H',New H H' p (.lst (List.replicate n y))->Q (.ref p) H'):J0 (.ref l) (.int (n:Int)) H Q :=
 ⟨l,n,[y],rfl,rfl,h,by lia,by lia,by simp only[List.length_singleton,Int.toNat_natCast,Nat.one_mul];exact cH z,λp H' q=>k p H' (by
  have e:(List.replicate ((n:Int).toNat) [y]).flatten=List.replicate n y:=by
   rw[Int.toNat_natCast];clear z q k h
   induction n with
   | zero=>rfl
   | succ n ih=>rw[List.replicate_succ,List.flatten_cons,ih];rfl
  rw[<- e];exact q)⟩
theorem Ib{C dx:Addr}{fs:List (Str×V)}{m:Str}{R:Prop}(h:H l=some (.ins C dx fs))(e:fs.lookup m=none)(k:R):∃a' dx' fs',V.ref l=.ref a'/\H a'=some (.ins C dx' fs')/\fs'.lookup m=none/\R:=⟨l,dx,fs,rfl,h,e,k⟩
theorem Ie{i:Nat}{te:TE}{ti:TIp}{v:V}(e:σ[i]?=some (some v))(h:te σ H λy H1=>ti v y H1 λz H2=>D.nx (σ.set i (some z)) H2):Yo i te ti D σ H:=⟨v,e,h⟩
theorem XD{n:Nat}{i:Int}(h0:0<=i)(h1:i<n):ixN n i=some i.toNat:=by unfold ixN;rw[if_pos h0,if_pos h1]
theorem Y6{x y:V}{r:List V}:atI (x::y::r) 1=some y:=fW (j:=1) rfl
theorem Y7{x y z:V}{r:List V}:atI (x::y::z::r) 2=some z:=fW (j:=2) rfl
theorem Y8{x y z w:V}{r:List V}:atI (x::y::z::w::r) 3=some w:=fW (j:=3) rfl
theorem Y9{A B:Prop}(k:A):if (true:Bool)=true then A else B:=by rw[zS rfl];exact k
theorem Y_{A B:Prop}(k:B):if (false:Bool)=true then A else B:=by rw[yA (by decide)];exact k
theorem Ra{A B:Prop}(k:B):if (!true:Bool)=true then A else B:=by rw[yA (by decide)];exact k
theorem Rb{A B:Prop}(k:A):if (!false:Bool)=true then A else B:=by rw[zS (by decide)];exact k
theorem Rf(h:H l=some (.tup xs))(k:Q (.bl true) H):rB K [.ref l,.ty "tuple"] H Q:=w_is (.tup h) (Qm (.tup h)) k
theorem Ig(h:H l=some (.lst xs))(k:Q (.bl true) H):rB K [.ref l,.ty "list"] H Q:=w_is (.lst h) (JN (.lst h)) k
theorem Ih{i:Int}(k:Q (.bl false) H):rB K [.int i,.ty "bool"] H Q:=w_is (b_.int (K:=K) (H:=H) i) (zO (b_.int (K:=K) (H:=H) i)) k
theorem Ii{b:Bool}(k:Q (.bl true) H):rB K [.bl b,.ty "bool"] H Q:=w_is (b_.bl (K:=K) (H:=H) b) (zO (b_.bl (K:=K) (H:=H) b)) k
theorem nH{n:Nat}(h:n<1000000):n<sizeLine:=qA h (cH (uA _))
theorem Ij{n i0 i1:Nat}{a b:V}{R:St->Hp->Prop}(hn:n=2)(hp:SqT K H l [a,b])(h:bR i0 a σ H λσ1 H1=>bR i1 b σ1 H1 R):Vm K n (sU (bR i0) (sU (bR i1) Vl)) (.ref l) σ H R:=by
 subst hn;exact YZ hp h
theorem wZ{i:Int}(h:SqL K H l xs)(h0:0<=i)(h1:i<xs.length)(k:∀v∈xs,Q v H):Qe K (.ref l) (.int i) H Q:=let ⟨v,e,m⟩:=YH h0 h1;Dq h e (k v m)
theorem dD{rows:List (List V)}{i:Nat}{v:V}(h:aB H xs rows)(e:xs[i]?=some v):∃r q,rows[i]?=some r/\v=.ref q/\H q=some (.tup r):=by
 have hi:i<rows.length:=by rw[<- h.1];exact(jI.mp e).1
 obtain⟨q,e1,e2⟩:=h.2 i rows[i] (by simp);rw[e] at e1;exact⟨rows[i],q,by simp,Option.some.inj e1,e2⟩
end
section
variable{K:W.Frag}{g:TG}{tb:TS}{D:Ends}{σ:St}{H:Hp}{tr:TA}
def Ai(lo:Int)(n:Nat)(g:TG)(tb:TS)(D:Ends)(σ:St)(H:Hp):Prop:=∃W:Nat->Nat->St->Hp->Prop,(∃m,W 0 m σ H)/\∀i m σ H,W i m σ H ->
 ((Itr lo n).stop i H/\D.nx σ H)\/((Itr lo n).go i H/\∃N:St->Hp->Prop,(∀σ' H',N σ' H'->∃m',m'<m/\W (i+1) m' σ' H')/\∀x H',(Itr lo n).yld i H x H'->g x σ H' λσ2 H2=>tb { D with nx:=N,ct:=N,bk:=D.nx } σ2 H2)
theorem V7{lo:Int}{n:Nat}(Pv:Nat->St->Hp->Prop)(h0:Pv 0 σ H)(hs:∀i σ H,i<n->Pv i σ H->g (.int (lo+i)) σ H λσ2 H2=>tb { D with nx:=Pv (i+1),ct:=Pv (i+1),bk:=D.nx } σ2 H2)(hd:∀σ H,Pv n σ H->D.nx σ H):Ai lo n g tb D σ H:=wC Pv h0 hs hd
theorem Aj(h:tr σ H λvs H1=>∃j:Int,vs=[.int j]/\-(2 ^ 62)<=j/\j<2 ^ 62/\Ai 0 j.toNat g tb D σ H1):CJ (Py tr) g tb D σ H:=h
theorem J9(h:tr σ H λvs H1=>∃i j:Int,vs=[.int i,.int j]/\(-(2 ^ 62)<=i/\i<2 ^ 62/\-(2 ^ 62)<=j/\j<2 ^ 62)/\Ai i (j-i).toNat g tb D σ H1):CJ (Xv tr) g tb D σ H:=h
theorem aby{a b:Int}{m:Nat}(hn:(b-a).toNat=m)(h:-(2 ^ 62)<=a/\a<2 ^ 62/\-(2 ^ 62)<=b/\b<2 ^ 62)(k:Ai a m g tb D σ H):∃i j:Int,[V.int a,V.int b]=[.int i,.int j]/\(-(2 ^ 62)<=i/\i<2 ^ 62/\-(2 ^ 62)<=j/\j<2 ^ 62)/\Ai i (j-i).toNat g tb D σ H:=⟨a,b,rfl,h,by rw[hn];exact k⟩
def Ik(K:PySem.W.Frag)(a:Addr)(xs:List V)(g:TG)(tb:TS)(D:Ends)(σ:St)(H:Hp):Prop:=∃W:Nat->Nat->St->Hp->Prop,(∃m,W 0 m σ H)/\∀i m σ H,W i m σ H ->
      ((Ite K a xs).stop i H/\D.nx σ H)\/((Ite K a xs).go i H/\∃N:St->Hp->Prop,(∀σ' H',N σ' H'->∃m',m'<m/\W (i+1) m' σ' H')/\∀x H',(Ite K a xs).yld i H x H'->g x σ H' λσ2 H2=>tb { D with nx:=N,ct:=N,bk:=D.nx } σ2 H2)
theorem Il(h:tr σ H λvs H1=>∃a xs,vs=[.ref a]/\SqL K H1 a xs/\Ik K a xs g tb D σ H1):CJ (QG K tr) g tb D σ H:=h
theorem aen{a:Addr}{xs:List V}(h:SqL K H a xs)(k:Ik K a xs g tb D σ H):∃a' xs',[V.ref a]=[.ref a']/\SqL K H a' xs'/\Ik K a' xs' g tb D σ H:=⟨a,xs,rfl,h,k⟩
theorem V8{a:Addr}{xs:List V}(Pv:Nat->St->Hp->Prop)(h0:Pv 0 σ H)(hl:∀i σ H,i<=xs.length->Pv i σ H->SqL K H a xs)
  (hs:∀i x T σ H H',xs[i]?=some x->Pv i σ H->New H H' T (.tup [.int i,x])->g (.ref T) σ H' λσ2 H2=>tb { D with nx:=Pv (i+1),ct:=Pv (i+1),bk:=D.nx } σ2 H2) (hd:∀σ H,Pv xs.length σ H->D.nx σ H):Ik K a xs g tb D σ H:=QJ Pv h0 hl hs hd
theorem aeo{a:Addr}{xs:List V}(h:SqL K H a xs)(k:HN K a g tb D σ H):∃a',V.ref a=.ref a'/\(∃xs,SqL K H a' xs)/\HN K a' g tb D σ H:=⟨a,rfl,⟨xs,h⟩,k⟩
theorem aep{a:Addr}{xs:List V}{nt:Nat}{fr:List Nat}{c:TT}{te:TE}{Q:VK}(h:SqL K H a xs)(k:eZ (Itl K a) nt fr g c te σ H Q):∃a',V.ref a=.ref a'/\(∃xs,SqL K H a' xs)/\eZ (Itl K a') nt fr g c te σ H Q:=⟨a,rfl,⟨xs,h⟩,k⟩
end
section
variable{K:W.Frag}{σ:St}{H:Hp}{Q:VK}{ta tv:TE}{t:TA}{f m:Str}{C:Addr}{sp:Sp}{E:XK}{D:Ends}
def V9(K:W.Frag)(f:Str)(y x:V)(H:Hp)(R:Hp->Prop):Prop:=∃a C dx fs,x=.ref a/\H a=some (.ins C dx fs)/\Cls K C/\bZ K C f/\fs.length<1000/\R (upd H a (.ins C dx (d7 f y fs)))
theorem tX(h:tv σ H λy H1=>ta σ H1 λx H2=>V9 K f y x H2 λH3=>D.nx σ H3):Yw K ta tv f D σ H:=h
theorem Za{l dx:Addr}{fs:List (Str×V)}{y:V}{R:Hp->Prop}(ho:H l=some (.ins C dx fs))(c:Cls K C)(n:bZ K C f)(z:fs.length<1000)(k:∀H',Off l H H'->H' l=some (.ins C dx (d7 f y fs))->R H'):V9 K f y (.ref l) H R :=
 ⟨l,C,dx,fs,rfl,ho,c,n,z,k _ Off.upd bx⟩
def Ak(C:Addr)(sp:Sp)(E:XK)(t:TA):TE:=λσ H Q=>t σ H λvs H1=>∀x dx H2,New H1 H2 x (.ins C dx [])->sp (.ref x::vs) H2 (λv H3=>v=.non/\Q (.ref x) H3) E
theorem tY(h:t σ H λvs H1=>∀x dx H2,New H1 H2 x (.ins C dx [])->sp (.ref x::vs) H2 (λv H3=>v=.non/\Q (.ref x) H3) E):Ak C sp E t σ H Q:=h
theorem tZ(h:ta σ H λx H1=>∃a dx fs,x=.ref a/\H1 a=some (.ins C dx fs)/\fs.lookup m=none/\t σ H1 λvs H2=>sp (x::vs) H2 Q E):wH C m sp [] E ta t σ H Q:=by
 have e:(λ(x:V) (H1:Hp)=>∃a dx fs,x=.ref a/\H1 a=some (.ins C dx fs)/\fs.lookup m=none/\t σ H1 λvs H2=>sp (x::(vs++[])) H2 Q E)=λx H1=>∃a dx fs,x=.ref a/\H1 a=some (.ins C dx fs)/\fs.lookup m=none/\t σ H1 λvs H2=>sp (x::vs) H2 Q E:=by
  simp only[List.append_nil]
 show ta σ H λx H1=>∃a dx fs,x=.ref a/\H1 a=some (.ins C dx fs)/\fs.lookup m=none/\t σ H1 λvs H2=>sp (x::(vs++[])) H2 Q E
 rw[e];exact h
end
section
variable{X:Cx}{CX:CXT}{k m:Nat}{x:Str}{ps:List Str}{sp:Sp}{E:XK}{p pos:Pos}{e:Expr}{es:List Expr}{t:TA}{C:Addr}
theorem iy(D:Mak X.prog X.w X.K X.mg X.base CX k x C ps sp)(hr:Room m X.A)(ha:PA X (e::es) t)(hk:k+1<=m:=by decide)(hx:Passes CX X E:=by exact qp)(hg:Gl X x:=by rfl)
  (hdb:(x==("__debug__" : Str))=false:=by decide) (he:starEach (e::es) X.env=(false,eval e X.env)::starEach es X.env:=by rfl) (hpl:(backTo pos (starEach es X.env)).any (·.1)=false:=by rfl) :
  PE X (.Call (.Name x p) (e::es) [] pos) (Ak C sp E t):=by
 obtain⟨f,fd,F,M,g,b⟩:=D.ex;intro pins s σ H Q I h;refine wpAny_Call_Name_kw (jd I hg g ?_ hdb);refine W.callWith_K (h₀:=X.base) I.ok.mod.kin M.kp (thn (ha pos pins s σ H _ I h) λus s1 ⟨vs,H1,I1,r,q⟩=>⟨I1.kIn,?_⟩) he hpl;refine Qc M F (hr.mono hk) b .nil hx I1 r λy dy h1 h2 h3=>?_
 rw[nX];exact q y dy _ ⟨Nu h1 h2,bx,λa u z=>aQ z h1⟩
end
def rC:V->Int->Bool
 | .int i,lo=>decide (lo<=i)
 | _,_=>false
def inB:V->Int->Int->Bool
 | .int i,lo,hi=>decide (lo<=i) && decide (i<=hi)
 | _,_,_=>false
section
variable{K:W.Frag}{H:Hp}{Q:VK}{E:XK}{x:V}{n:String}{q:Addr}{a b lo hi:Int}
def nJ(K:W.Frag):Sp:=λvs H Q _=>∃x n,vs=[x]/\b_ K H x (.type n)/\Q (.bl (isW x)) H
theorem Am(ty:b_ K H x (.type n))(k:Q (.bl (isW x)) H):nJ K [x] H Q E:=⟨x,n,rfl,ty,k⟩
def gR(K:W.Frag):Sp:=λvs H Q _=>∃x n lo,vs=[x,.int lo]/\b_ K H x (.type n)/\Q (.bl (rC x lo)) H
theorem Zb(ty:b_ K H x (.type n))(k:Q (.bl (rC x lo)) H):gR K [x,.int lo] H Q E:=⟨x,n,lo,rfl,ty,k⟩
theorem Ao(k:Q (.bl (decide (lo<=a))) H):gR K [.int a,.int lo] H Q E:=⟨_,_,lo,rfl,.int _,k⟩
def gB(K:W.Frag):Sp:=λvs H Q _=>∃x n lo hi,vs=[x,.int lo,.int hi]/\b_ K H x (.type n)/\Q (.bl (inB x lo hi)) H
theorem DG(ty:b_ K H x (.type n))(k:Q (.bl (inB x lo hi)) H):gB K [x,.int lo,.int hi] H Q E:=⟨x,n,lo,hi,rfl,ty,k⟩
def jo(K:W.Frag):Sp:=λvs H Q _=>∃x n,vs=[x]/\b_ K H x (.type n)/\Q (.bl (inB x 16 240)) H
theorem Zc(ty:b_ K H x (.type n))(k:Q (.bl (inB x 16 240)) H):jo K [x] H Q E:=⟨x,n,rfl,ty,k⟩
def oY:Sp:=λvs H Q _=>∃(q:Addr)(a b:Int),vs=[.ref q]/\H q=some (.tup [.int a,.int b])/\Q (.int (a+b)) H
theorem Rg(h:H q=some (.tup [.int a,.int b]))(k:Q (.int (a+b)) H):oY [.ref q] H Q E:=⟨q,a,b,rfl,h,k⟩
def qy:Sp:=λvs H Q _=>∃(q:Addr)(a b:Int),vs=[.ref q]/\H q=some (.tup [.int a,.int b])/\Q (.bl (decide (0<=a) && decide (1<=b))) H
theorem t_(h:H q=some (.tup [.int a,.int b]))(k:Q (.bl (decide (0<=a) && decide (1<=b))) H):qy [.ref q] H Q E:=⟨q,a,b,rfl,h,k⟩
def aF(ws:xD):List (List V):=ws.map λw=>[V.int (w.1:Nat),V.int (w.2:Nat)]
theorem aG(ws:xD):(aF ws).length=ws.length:=wE ..
end
section
variable{g:TG}{tb:TS}{D:Ends}{σ:St}{H:Hp}{q:Addr}{ys:List V}{rows:List (List V)}
theorem Rh{n:Nat}(Pv:Nat->St->Hp->Prop)(h0:Pv 0 σ H)(hs:∀i σ H,i<n->Pv i σ H->g (.int i) σ H λσ2 H2=>tb { D with nx:=Pv (i+1),ct:=Pv (i+1),bk:=D.nx } σ2 H2)(hd:∀σ H,Pv n σ H->D.nx σ H):Ai 0 n g tb D σ H :=
 wC Pv h0 (λi σ H hi h=>by rw[Int.zero_add];exact hs i σ H hi h) hd
theorem aB.snoc{r:List V}(h:aB H ys rows)(hq:H q=some (.tup r)):aB H (ys++[.ref q]) (rows++[r]):=by
 refine⟨by rw[yB,yB,h.1];rfl,λj s z=>?_⟩;by_cases hj:j<rows.length
 ·rw[yY hj] at z;obtain⟨x,e1,e2⟩:=h.2 j s z;exact⟨x,by rw[yY (by rw[h.1];exact hj)];exact e1,e2⟩
 ·have hj2:j=rows.length:=by
   have:=(jI.mp z).1;rw[yB,List.length_singleton] at this
   lia
  subst hj2;rw[oP (uA _),Nat.sub_self] at z;cases z;exact⟨q,by rw[<- h.1,oP (uA _),Nat.sub_self];rfl,hq⟩
theorem iH(ws:xD):∀r∈aF ws,∀v∈r,cP v=true:=by
 intro r hr v hv;obtain⟨x,_,rfl⟩:=vT.mp hr;simp only[List.mem_cons,List.not_mem_nil,or_false] at hv;rcases hv with rfl|rfl <;> rfl
def aer:Option (Nat×Nat)->Dt
 | none=>.non
 | some w=>.tup [.int (w.1:Nat),.int (w.2:Nat)]
end
theorem DK{K:W.Frag}{l:Addr}{σ:St}{H:Hp}{xs:List V}{c:TT}{Q:VK}{fr:List Nat}{fvs:St}{p:V->Bool}(hq:SqL K H l xs)(hz:xs.length<=1000000)(hf:(fr.map λi=>(σ[i]?).getD none)=fvs)
  (turn:∀(v:V)(H':Hp)(R:Bool->Hp->Prop),v∈xs->Same H H'->(∀H2,Same H' H2->R (p v) H2)->c (some v::fvs) H' R)
  (k:∀l H',New H H' l (.lst (xs.filter p))->Q (.ref l) H'):eZ (Itl K l) 1 fr (bR 0) c (dI 0) σ H Q:=by
 have:=Nq (σ:=σ) (H:=H) (wi:=λ_ H R=>R (Itl K l) H) (J:=Itl K l) (c:=c) (Q:=Q) (fr:=fr) (fvs:=fvs) (p:=p) hz hf (d9 (K:=K) (a:=l) (xs:=xs)) (λR h=>h) (λH' s=>s.seq hq) (λi v H' R hv s kk=>turn v H' R (yT hv) s kk) k;exact this
def isTup:HO->Bool
 | .tup _=>true
 | .frz _ _=>true
 | _=>false
def Tst(H H':Hp):Prop:=∀q u,isTup u=true->H q=some u->H' q=some u
inductive Im where
 | tup (q:Addr) (r:List V)
 | tps (ys:List V) (rs:List (List V))
 | fct (φ:Hp->Prop) (st:∀H H',Tst H H'->φ H->φ H')
def Im.holds(H:Hp):Im->Prop
 | .tup q r=>H q=some (.tup r)
 | .tps ys rs=>aB H ys rs
 | .fct φ _=>φ H
theorem Im.stay{H H':Hp}(t:Tst H H'):∀{f:Im},f.holds H->f.holds H'
 | .tup q r,h=>t q _ rfl h
 | .tps ys rs,h=>⟨h.1,λj r e=>let ⟨q,a,b⟩:=h.2 j r e;⟨q,a,t q _ rfl b⟩⟩
 | .fct φ st,h=>st H H' t h
class SH(H0:outParam Hp)(M:outParam (List Addr))(H:Hp)(L:outParam (List (Addr×HO)))(I:outParam (List Im)):Prop where
 fr:∀b u,b ∉ M->H0 b=some u->H b=some u
 im:∀f∈I,f.holds H
 at':∀c∈L,H c.1=some c.2
 nd:(L.map (·.1)).Nodup
 mu:∀c∈L,isTup c.2=false
 ch:∀c∈L,c.1∈M\/∀b u,H0 b=some u->b≠c.1
inductive Up(l:Addr)(o':HO):List (Addr×HO)->List (Addr×HO)->Prop
 | head {o:HO} {L:List (Addr×HO)}:Up l o' ((l,o)::L) ((l,o')::L)
 | tail {c:Addr×HO} {L L':List (Addr×HO)} (h:Up l o' L L'):Up l o' (c::L) (c::L')
theorem Up.keys{l:Addr}{o':HO}{L L':List (Addr×HO)}(h:Up l o' L L'):L'.map (·.1)=L.map (·.1):=by
 induction h with
 | head=>rfl
 | tail h ih=>rw[oC,oC,ih]
theorem Up.mem{l:Addr}{o':HO}{L L':List (Addr×HO)}(h:Up l o' L L'):l∈L.map (·.1):=by
 induction h with
 | head=>exact zC
 | tail h ih=>exact zD _ ih
theorem Up.each{l:Addr}{o':HO}{L L':List (Addr×HO)}(h:Up l o' L L')(nd:(L.map (·.1)).Nodup):∀c∈L',c=(l,o')\/(c∈L/\c.1≠l):=by
 induction h with
 | @head o L =>
  intro c hc;rcases vS.mp hc with rfl|hc
  ·exact .inl rfl
  ·refine .inr ⟨zD _ hc,λz=>?_⟩;rw[oC] at nd;exact(List.nodup_cons.mp nd).1 (by show l∈_;rw[<- z];exact List.mem_map_of_mem (f:=(·.1)) hc)
 | @tail d L L' h ih =>
  intro c hc;rw[oC] at nd;have nd':=List.nodup_cons.mp nd;rcases vS.mp hc with rfl|hc
  ·exact .inr ⟨zC,λz=>nd'.1 (z▸h.mem)⟩
  ·rcases ih nd'.2 c hc with e|⟨e1,e2⟩
   ·exact .inl e
   ·exact .inr ⟨zD _ e1,e2⟩
theorem Up.src{l:Addr}{o':HO}{L L':List (Addr×HO)}(h:Up l o' L L'):∃o,(l,o)∈L:=by
 induction h with
 | head=>exact⟨_,zC⟩
 | tail h ih=>obtain⟨o,ho⟩:=ih;exact⟨o,zD _ ho⟩
inductive Pk(c:Addr×HO):List (Addr×HO)->List (Addr×HO)->Prop
 | head {L:List (Addr×HO)}:Pk c (c::L) L
 | tail {d:Addr×HO} {L R:List (Addr×HO)} (h:Pk c L R):Pk c (d::L) (d::R)
inductive Sb:List (Addr×HO)->List (Addr×HO)->Prop
 | nil {L:List (Addr×HO)}:Sb [] L
 | cons {c:Addr×HO} {L' L R:List (Addr×HO)} (h:Pk c L R) (t:Sb L' R):Sb (c::L') L
theorem Pk.mem{c:Addr×HO}{L R:List (Addr×HO)}(h:Pk c L R):c∈L/\∀d∈R,d∈L:=by
 induction h with
 | head=>exact⟨zC,λd hd=>zD _ hd⟩
 | tail h ih =>
  refine⟨zD _ ih.1,λd hd=>?_⟩;rcases vS.mp hd with rfl|hd
  ·exact zC
  ·exact zD _ (ih.2 d hd)
theorem Pk.nd{c:Addr×HO}{L R:List (Addr×HO)}(h:Pk c L R)(nd:(L.map (·.1)).Nodup):(R.map (·.1)).Nodup/\∀d∈R,d.1≠c.1:=by
 induction h with
 | head =>
  rw[oC] at nd;have:=List.nodup_cons.mp nd;exact⟨this.2,λd hd z=>this.1 (z▸List.mem_map_of_mem hd)⟩
 | @tail d L R h ih =>
  rw[oC] at nd;have nd':=List.nodup_cons.mp nd;obtain⟨i1,i2⟩:=ih nd'.2;refine⟨by
   rw[oC,List.nodup_cons];refine⟨λz=>?_,i1⟩;obtain⟨x,hx,ex⟩:=vT.mp z;exact nd'.1 (ex▸List.mem_map_of_mem (h.mem.2 x hx)),λx hx=>?_⟩
  rcases vS.mp hx with rfl|hx
  ·exact λz=>nd'.1 (z▸List.mem_map_of_mem h.mem.1)
  ·exact i2 x hx
theorem Sb.mem{L' L:List (Addr×HO)}(h:Sb L' L):∀c∈L',c∈L:=by
 induction h with
 | nil=>intro c hc;cases hc
 | cons h t ih =>
  intro c hc;rcases vS.mp hc with rfl|hc
  ·exact h.mem.1
  ·exact h.mem.2 c (ih c hc)
theorem Sb.nd{L' L:List (Addr×HO)}(h:Sb L' L):(L.map (·.1)).Nodup->(L'.map (·.1)).Nodup:=by
 induction h with
 | nil=>intro _;exact List.nodup_nil
 | cons h t ih =>
  intro nd;obtain⟨n1,n2⟩:=h.nd nd;rw[oC,List.nodup_cons];refine⟨λz=>?_,ih n1⟩;obtain⟨x,hx,ex⟩:=vT.mp z;exact n2 x (t.mem x hx) ex
section
variable{H0 H H':Hp}{M:List Addr}{L L':List (Addr×HO)}{I I':List Im}{p q l a:Addr}{o o' u:HO}{xs ys r:List V}{rs:List (List V)}{K:W.Frag}
theorem SH.nil:SH H M H [] []:=⟨λ_ _ _ h=>h,(λ_ h=>by cases h),(λ_ h=>by cases h),List.nodup_nil,(λ_ h=>by cases h),(λ_ h=>by cases h)⟩
theorem SH.fQ(F:SH H0 M H0 L I)(hm:p∈M)(h:H0 p=some o)(ht:isTup o=false)(ne:∀c∈L,c.1≠p):SH H0 M H0 ((p,o)::L) I:=by
 refine⟨F.fr,F.im,?_,?_,?_,?_⟩
 ·intro c hc;rcases vS.mp hc with rfl|hc
  ·exact h
  ·exact F.at' c hc
 ·rw[oC,List.nodup_cons];refine⟨λz=>?_,F.nd⟩;obtain⟨x,hx,ex⟩:=vT.mp z;exact ne x hx ex
 ·intro c hc;rcases vS.mp hc with rfl|hc
  ·exact ht
  ·exact F.mu c hc
 ·intro c hc;rcases vS.mp hc with rfl|hc
  ·exact .inl hm
  ·exact F.ch c hc
theorem SH.Aq(F:SH H0 M H L I)(h:H q=some (.tup r)):SH H0 M H L (.tup q r::I):=⟨F.fr,λf hf=>by
 rcases vS.mp hf with rfl|hf
 ·exact h
 ·exact F.im f hf,F.at',F.nd,F.mu,F.ch⟩
theorem SH.bQ(F:SH H0 M H L I)(h:aB H ys rs):SH H0 M H L (.tps ys rs::I):=⟨F.fr,λf hf=>by
 rcases vS.mp hf with rfl|hf
 ·exact h
 ·exact F.im f hf,F.at',F.nd,F.mu,F.ch⟩
theorem SH.rD{φ:Hp->Prop}{st:∀H H',Tst H H'->φ H->φ H'}(F:SH H0 M H L I)(h:φ H):SH H0 M H L (.fct φ st::I):=⟨F.fr,λf hf=>by
 rcases vS.mp hf with rfl|hf
 ·exact h
 ·exact F.im f hf,F.at',F.nd,F.mu,F.ch⟩
theorem SH.same(F:SH H0 M H L I)(s:Same H H'):SH H0 M H' L I:=⟨λb u n e=>s b u (F.fr b u n e),λf hf=>Im.stay (λq u _ e=>s q u e) (F.im f hf),λc hc=>s _ _ (F.at' c hc),F.nd,F.mu,F.ch⟩
theorem SH.newT(F:SH H0 M H L I)(n:New H H' q (.tup r)):SH H0 M H' L (.tup q r::I):=(F.same n.s).Aq n.e
theorem SH.Zd(F:SH H0 M H L I)(n:New H H' p o)(ht:isTup o=false):SH H0 M H' ((p,o)::L) I:=by
 have F':=F.same n.s;refine⟨F'.fr,F'.im,?_,?_,?_,?_⟩
 ·intro c hc;rcases vS.mp hc with rfl|hc
  ·exact n.e
  ·exact F'.at' c hc
 ·rw[oC,List.nodup_cons];refine⟨λz=>?_,F.nd⟩;obtain⟨x,hx,ex⟩:=vT.mp z;exact n.n _ _ (F.at' x hx) ex
 ·intro c hc;rcases vS.mp hc with rfl|hc
  ·exact ht
  ·exact F.mu c hc
 ·intro c hc;rcases vS.mp hc with rfl|hc
  ·by_cases hm:p∈M
   ·exact .inl hm
   ·exact .inr λb u e z=>by
     by_cases hb:b∈M
     ·exact hm (by have z':b=p:=z;rw[<- z'];exact hb)
     ·exact n.n b u (F.fr b u hb e) z
  ·exact F.ch c hc
theorem SH.newL(F:SH H0 M H L I)(n:New H H' p (.lst xs)):SH H0 M H' ((p,.lst xs)::L) I:=F.Zd n rfl
theorem SH.abA{C dx:Addr}{fs:List (Str×V)}(F:SH H0 M H L I)(n:New H H' p (.ins C dx fs)):SH H0 M H' ((p,.ins C dx fs)::L) I:=F.Zd n rfl
theorem SH.newR(F:SH H0 M H L I)(n:New H H' p (.lst ys))(t:aB H' ys rs):SH H0 M H' ((p,.lst ys)::L) (.tps ys rs::I):=(F.newL n).bQ t
theorem SH.kp(F:SH H0 M H L I)(k:Kp l H H')(e:H' l=some o')(u:Up l o' L L')(ht:isTup o'=false:=by rfl):SH H0 M H' L' I:=by
 obtain⟨o,ho⟩:=u.src;have hl:=F.at' _ ho;have hu:=F.mu _ ho;refine⟨λb w nb e0=>k b w (λz=>?_) (F.fr b w nb e0),λf hf=>Im.stay (λq v hv e1=>k q _ (λz=>?_) e1) (F.im f hf),λc hc=>?_,by rw[u.keys];exact F.nd,λc hc=>?_,λc hc=>?_⟩
 ·rcases F.ch _ ho with h|h
  ·exact nb (by rw[z];exact h)
  ·exact h b w e0 z
 ·rw[z,hl] at e1;cases e1;rw[hu] at hv;cases hv
 ·rcases u.each F.nd c hc with rfl|⟨h1,h2⟩
  ·exact e
  ·exact k _ _ h2 (F.at' c h1)
 ·rcases u.each F.nd c hc with rfl|⟨h1,h2⟩
  ·exact ht
  ·exact F.mu c h1
 ·rcases u.each F.nd c hc with rfl|⟨h1,h2⟩
  ·exact F.ch (l,o) ho
  ·exact F.ch c h1
theorem SH.aes(F:SH H0 M H L I)(f:Off l H H')(e:H' l=some (.lst xs))(u:Up l (.lst xs) L L'):SH H0 M H' L' I:=F.kp f.kp e u rfl
theorem SH.kpL(F:SH H0 M H L I)(f:Kp l H H')(e:H' l=some (.lst xs))(u:Up l (.lst xs) L L'):SH H0 M H' L' I:=F.kp f e u rfl
theorem SH.aeu{C dx:Addr}{fs:List (Str×V)}(F:SH H0 M H L I)(f:Off l H H')(e:H' l=some (.ins C dx fs))(u:Up l (.ins C dx fs) L L'):SH H0 M H' L' I:=F.kp f.kp e u rfl
theorem SH.raw(F:SH H0 M H L I)(m:(a,o)∈L):H a=some o:=F.at' _ m
theorem SH.tup(F:SH H0 M H L I)(m:.tup q r∈I):H q=some (.tup r):=F.im _ m
theorem SH.tps(F:SH H0 M H L I)(m:.tps ys rs∈I):aB H ys rs:=F.im _ m
theorem SH.sq(F:SH H0 M H L I)(h:SqL K H0 a xs)(n:a ∉ M):SqL K H a xs:=by
 rcases h with(h|⟨o,h⟩)|h
 ·exact .inl (.inl (F.fr a _ n h))
 ·exact .inl (.inr ⟨o,F.fr a _ n h⟩)
 ·exact .inr h
theorem SH.sub(F:SH H0 M H L I)(s:Sb L' L)(t:∀f∈I',f∈I):SH H0 M H L' I':=⟨F.fr,λf hf=>F.im f (t f hf),λc hc=>F.at' c (s.mem c hc),s.nd F.nd,λc hc=>F.mu c (s.mem c hc),λc hc=>F.ch c (s.mem c hc)⟩
theorem SH.sm(F:SH H0 [] H L I):Same H0 H:=λb u e=>F.fr b u wT e
theorem SH.kpo(F:SH H0 [p] H L I):Kp p H0 H:=λb u n e=>F.fr b u (λz=>n (uB.mp z)) e
theorem SH.nw(F:SH H0 [] H L I)(m:(q,o)∈L):New H0 H q o:=⟨F.sm,F.at' _ m,λb u e=>by
 rcases F.ch _ m with h|h
 ·exact gE h wT
 ·exact h b u e⟩
theorem SH.fresh(F:SH H0 M H L I)(m:(q,o)∈L)(n:q ∉ M):∀b u,H0 b=some u->b≠q:=λb u e=>by
 rcases F.ch _ m with h|h
 ·exact gE h n
 ·exact h b u e
theorem nm0:a ∉ ([]:List Addr):=wT
theorem nm1(h:a≠p):a ∉ [p]:=λz=>h (uB.mp z)
end
class Go(G:Prop)(G':outParam Prop):Prop where
 go:G'->G
theorem go1{G G':Prop}[h:Go G G'](k:G'):G:=h.go k
class LkL(L:List (Addr×HO))(a:Addr)(o:outParam HO):Prop where
 m:(a,o)∈L
class LkI(I:List Im)(a:Addr)(r:outParam (List V)):Prop where
 m:.tup a r∈I
class LkP(I:List Im)(ys:List V)(rs:outParam (List (List V))):Prop where
 m:.tps ys rs∈I
class LkU(L:List (Addr×HO))(l:Addr)(o:HO)(L':outParam (List (Addr×HO))):Prop where
 u:Up l o L L'
class Old(H0:Hp)(M:List Addr)(a:Addr)(o:outParam HO):Prop where
 e:H0 a=some o
 n:a ∉ M
class abB(K:W.Frag)(H0:Hp)(M:List Addr)(a:Addr)(xs:outParam (List V)):Prop where
 e:SqL K H0 a xs
 n:a ∉ M
class jC(H0:Hp)(ys:List V)(rs:outParam (List (List V))):Prop where
 e:aB H0 ys rs
class Hat(H:Hp)(a:Addr)(o:outParam HO):Prop where
 e:H a=some o
class SqA(K:W.Frag)(H:Hp)(a:Addr)(xs:outParam (List V)):Prop where
 e:SqL K H a xs
class SqB(K:W.Frag)(H:Hp)(a:Addr)(xs:outParam (List V)):Prop where
 e:SqT K H a xs
class TpA(H:Hp)(ys:List V)(rs:outParam (List (List V))):Prop where
 e:aB H ys rs
class AtI(xs:List V)(i:Int)(v:outParam V):Prop where
 e:atI xs i=some v
section
variable{H0 H H':Hp}{M:List Addr}{L L':List (Addr×HO)}{I:List Im}{a p l:Addr}{o o':HO}{c:Addr×HO}{f:Im}{r xs ys:List V}{rs:List (List V)}{K:W.Frag}{v v0 v1 v2:V}
instance agD[h:LkL L a o]:LkL (c::L) a o:=⟨zD _ h.m⟩
instance agE:LkL ((a,o)::L) a o:=⟨zC⟩
instance agF[h:LkI I a r]:LkI (f::I) a r:=⟨zD _ h.m⟩
instance agG:LkI (.tup a r::I) a r:=⟨zC⟩
instance agH[h:LkP I ys rs]:LkP (f::I) ys rs:=⟨zD _ h.m⟩
instance agI:LkP (.tps ys rs::I) ys rs:=⟨zC⟩
instance agJ[h:LkU L l o L']:LkU (c::L) l o (c::L'):=⟨.tail h.u⟩
instance agK:LkU ((l,o')::L) l o ((l,o)::L):=⟨.head⟩
instance ac3[F:SH H0 M H L I][h:Old H0 M a o]:Hat H a o:=⟨F.fr a o h.n h.e⟩
instance ac4[F:SH H0 M H L I][h:LkI I a r]:Hat H a (.tup r):=⟨F.tup h.m⟩
instance ac5[F:SH H0 M H L I][h:LkL L a o]:Hat H a o:=⟨F.raw h.m⟩
instance ac6[F:SH H0 M H L I][h:abB K H0 M a xs]:SqA K H a xs:=⟨F.sq h.e h.n⟩
instance ac7[h:Hat H a (.lst xs)]:SqA K H a xs:=⟨.of h.e⟩
instance ac8[h:Hat H a (.tup xs)]:SqB K H a xs:=⟨.of h.e⟩
instance ac9{H0:Hp}{L:List (Addr×HO)}{I:List Im}[F:SH H0 [] H L I][h:jC H0 ys rs]:TpA H ys rs:=⟨h.e.same F.sm⟩
instance ac_[F:SH H0 M H L I][h:LkP I ys rs]:TpA H ys rs:=⟨F.tps h.m⟩
instance at0:AtI (v::r) 0 v:=⟨Qn⟩
instance at1:AtI (v0::v::r) 1 v:=⟨Y6⟩
instance at2:AtI (v0::v1::v::r) 2 v:=⟨Y7⟩
instance at3:AtI (v0::v1::v2::v::r) 3 v:=⟨Y8⟩
variable{Z:Addr->Hp->Prop}{R:Hp->Prop}{C dx:Addr}{fs:List (Str×V)}
instance aev[F:SH H0 M H L I]:Go (∀p H',New H H' p (.tup xs)->Z p H') (∀H' p,SH H0 M H' L (.tup p xs::I)->Z p H'):=⟨λk p H' n=>k H' p (F.newT n)⟩
instance aew[F:SH H0 M H L I]:Go (∀p H',New H H' p (.lst xs)->Z p H') (∀H' p,SH H0 M H' ((p,.lst xs)::L) I->Z p H'):=⟨λk p H' n=>k H' p (F.newL n)⟩
instance aex[F:SH H0 M H L I][u:LkU L l (.lst xs) L']:Go (∀H',Off l H H'->H' l=some (.lst xs)->R H') (∀H',SH H0 M H' L' I->R H'):=⟨λk H' f e=>k H' (F.aes f e u.u)⟩
instance ada[F:SH H0 M H L I][u:LkU L l (.ins C dx fs) L']:Go (∀H',Off l H H'->H' l=some (.ins C dx fs)->R H') (∀H',SH H0 M H' L' I->R H'):=⟨λk H' f e=>k H' (F.aeu f e u.u)⟩
instance af2[F:SH H0 M H L I][u:LkU L l (.lst xs) L']:Go (∀H',Kp l H H'->H' l=some (.lst xs)->R H') (∀H',SH H0 M H' L' I->R H'):=⟨λk H' f e=>k H' (F.kpL f e u.u)⟩
instance adb[F:SH H0 M H L I]:Go (∀H',Same H H'->R H') (∀H',SH H0 M H' L I->R H'):=⟨λk H' s=>k H' (F.same s)⟩
def Sd(A B:Prop):Prop:=A/\B
theorem sd{A B:Prop}(a:A)(b:B):Sd A B:=⟨a,b⟩
class jU(K:W.Frag)(C:Addr)(f:Str):Prop where
 c:Cls K C
 n:bZ K C f
class FLk(fs:List (Str×V))(f:Str)(v:outParam V):Prop where
 e:fs.lookup f=some v
class FNo(fs:List (Str×V))(f:Str):Prop where
 e:fs.lookup f=none
theorem SH.nwC{H0:Hp}{L:List (Addr×HO)}{I:List Im}[F:SH H0 [] H L I][h:LkL L p o]:New H0 H p o:=F.nw h.m
theorem aH[h:Hat H a o]:H a=some o:=h.e
variable{Q:VK}{R':Prop}{σ:St}{i j:Int}{f m:Str}{y:V}{b:Addr}{lo hi:Option Int}
instance ade{n:Nat}:Go (n<=sizeLine/\∀p H',New H H' p o->Z p H') (Sd (n<=sizeLine) (∀p H',New H H' p o->Z p H')):=⟨id⟩
instance adf[h:Hat H l (.lst xs)]:Go (rB K [.ref l,.ty "list"] H Q) (Q (.bl true) H):=⟨Ig h.e⟩
instance aey[h:SqA K H l xs][e:AtI xs i v]:Go (Qe K (.ref l) (.int i) H Q) (Q v H):=⟨Dq h.e e.e⟩
instance aez[h:SqA K H l xs]:Go (tyV K "list" (.ref l) H/\R') R':=⟨Q6 h.e⟩
instance aeA[h:Hat H l (.lst xs)]:Go (J1 (.ref l) [y] H Q) (Sd (xs.length<sizeLine) (∀H',Off l H H'->H' l=some (.lst (xs++[y]))->Q .non H')):=⟨λs=>Q8 h.e s.1 s.2⟩
instance aeB[h:Hat H l (.lst xs)][h2:Hat H b (.lst ys)]:Go (J7 (.ref l) [.ref b] H Q) (Sd (xs.length+ys.length<=sizeLine) (∀H',Off l H H'->H' l=some (.lst (xs++ys))->Q .non H')):=⟨λs=>abx h.e h2.e s.1 s.2⟩
instance aeC[h:SqA K H l xs]:Go (YQ K (.ref l) lo hi H Q) (∀p H',New H H' p (.lst (m5 xs lo hi))->Q (.ref p) H'):=⟨Q_ h.e⟩
instance adg[h:Hat H l (.lst xs)][h2:Hat H b (.lst ys)]:Go (Qv (.ref l) (.ref b) H Q) (Sd (xs.length+ys.length<=sizeLine) (∀p H',New H H' p (.lst (xs++ys))->Q (.ref p) H')):=⟨λs=>Ia h.e h2.e s.1 s.2⟩
instance adh{n:Nat}[h:Hat H l (.lst [y])]:Go (J0 (.ref l) (.int (n:Int)) H Q) (Sd (n<=1000000) (∀p H',New H H' p (.lst (List.replicate n y))->Q (.ref p) H')):=⟨λs=>Ah h.e s.1 s.2⟩
instance adi{n i0 i1:Nat}{a b:V}{R:St->Hp->Prop}[h:SqB K H l [a,b]]:Go (Vm K n (sU (bR i0) (sU (bR i1) Vl)) (.ref l) σ H R) (Sd (n=2) (bR i0 a σ H λσ1 H1=>bR i1 b σ1 H1 R)):=⟨λs=>Ij s.1 h.e s.2⟩
instance aeD{f:Int->Int->V}:Go (rI (λ_ j=>0<j) f (.int i) (.int j) H Q) (Sd (0<j) (Q (f i j) H)):=⟨λs=>w_mod s.1 s.2⟩
instance aeE{f:Int->Int->V}:Go (rI Ys f (.int i) (.int j) H Q) (Sd (0<j/\j<1073741824) (Q (f i j) H)):=⟨λs=>w_div s.1.1 s.1.2 s.2⟩
instance aeF{f:Int->Int->V}:Go (rI Yt f (.int i) (.int j) H Q) (Sd (0<=j/\j<=1000000/\i.natAbs<2 ^ 64) (Q (f i j) H)):=⟨λs=>w_pow s.1.1 s.1.2.1 s.1.2.2 s.2⟩
instance aeG{f:Int->Int->V}:Go (rI MN f (.int i) (.int j) H Q) (Sd ((-(2 ^ 64)<i/\i<2 ^ 64)\/(-(2 ^ 64)<j/\j<2 ^ 64)) (Q (f i j) H)):=⟨λs=>s.1.elim (λh=>Hy h.1 h.2 s.2) (λh=>Hz h.1 h.2 s.2)⟩
instance abC[h:Hat H a (.ins C dx fs)][k:jU K C f][e:FLk fs f v]{R:V->Prop}:Go (∃a' C' dx' fs' v',V.ref a=.ref a'/\H a'=some (.ins C' dx' fs')/\Cls K C'/\bZ K C' f/\fs'.lookup f=some v'/\R v') (R v):=⟨w_fld h.e k.c k.n e.e⟩
instance aas[h:Hat H l (.ins C dx fs)][e:FNo fs m]:Go (∃a' dx' fs',V.ref l=.ref a'/\H a'=some (.ins C dx' fs')/\fs'.lookup m=none/\R') R':=⟨Ib h.e e.e⟩
instance adk[h:Hat H l (.ins C dx fs)][k:jU K C f]:Go (V9 K f y (.ref l) H R) (Sd (fs.length<1000) (∀H',Off l H H'->H' l=some (.ins C dx (d7 f y fs))->R H')):=⟨λs=>Za h.e k.c k.n s.1 s.2⟩
instance adl{o0 o1:Option V}{r:St}{te:TE}{ti:TIp}{D:Ends}:Go (Yo 2 te ti D (o0::o1::some v::r) H) (te (o0::o1::some v::r) H λy H1=>ti v y H1 λz H2=>D.nx (o0::o1::some z::r) H2):=⟨λh=>Ie (v:=v) rfl h⟩
end
instance aat{σ:L2.St}{H:Hp}{D:Ends}{s u:TS}:Go (Yk s u D σ H) (s (Ends.mk (u D) (Ends.rt D) (Ends.bk D) (Ends.ct D)) σ H):=⟨Hr⟩
instance aau{σ:L2.St}{H:Hp}{t:TE}{D:Ends}{tg:TG}:Go (GZ t tg D σ H) ((t σ H λ(x:V) (H1:Hp) => tg x σ H1 (Ends.nx D))):=⟨Ht⟩
instance aav{σ:L2.St}{H:Hp}{t:TE}{D:Ends}:Go (Vk t D σ H) (t σ H (Ends.rt D)):=⟨Hu⟩
instance abD{σ:L2.St}{H:Hp}{D:Ends}{s u:TS}{c:TT}:Go (q_ c s u D σ H) ((c σ H λ(b:Bool) (H1:Hp) => if b=true then s D σ H1 else u D σ H1)):=⟨Qy⟩
instance Ze{σ:L2.St}{H:Hp}{t:TE}{D:Ends}:Go (Pj t D σ H) ((t σ H λ(x:V) (H1:Hp) => Ends.nx D σ H1)):=⟨z8⟩
instance Zf{σ:L2.St}{H:Hp}{D:Ends}:Go (Ph D σ H) (Ends.nx D σ H):=⟨zZ⟩
instance abE{σ:L2.St}{H:Hp}{nx bk ct:L2.St->Hp->Prop}{rt:VK}:Go (Ends.nx (Ends.mk nx rt bk ct) σ H) (nx σ H):=⟨Qw⟩
instance adn{H:Hp}{v:V}{nx bk ct:L2.St->Hp->Prop}{rt:VK}:Go (Ends.rt (Ends.mk nx rt bk ct) v H) (rt v H):=⟨YT⟩
instance Zg{σ:L2.St}{H:Hp}{t:TE}{Q:Bool->Hp->Prop}:Go (JD t σ H Q) ((t σ H λ(x:V) (H':Hp) => ∃(k:Bool),x=V.bl k/\Q k H')):=⟨z9⟩
instance ado{σ:L2.St}{H:Hp}{t:TE}{Q:Bool->Hp->Prop}:Go (tB t σ H Q) ((t σ H λ(x:V) (H':Hp) => ∃(k:Bool),x=V.bl k/\Q k H')):=⟨YK⟩
instance abF{σ:L2.St}{H:Hp}{ta tb:TE}{Q:VK}{r:R2}:Go (tOp r ta tb σ H Q) ((ta σ H λ(x:V) (H1:Hp) => tb σ H1 λ(y:V) (H2:Hp) => r x y H2 Q)):=⟨Qx⟩
instance abG{σ:L2.St}{H:Hp}{tr:TA}{Q:VK}{r:List V->Hp->VK->Prop}:Go (tCB r tr σ H Q) ((tr σ H λ(vs:List V) (H1:Hp) => r vs H1 Q)):=⟨Qz⟩
instance Zh{σ:L2.St}{H:Hp}{t:TE}{tr:TA}{Q:List V->Hp->Prop}:Go (wG t tr σ H Q) ((t σ H λ(x:V) (H1:Hp) => tr σ H1 λ(xs:List V) (H2:Hp) => Q (x::xs) H2)):=⟨zY⟩
instance aaw{σ:L2.St}{H:Hp}{Q:List V->Hp->Prop}:Go (CK σ H Q) (Q [] H):=⟨Hq⟩
instance aax{σ:L2.St}{H:Hp}{Q:VK}{tr:TA}{sp:Sp}{E:XK}:Go (mX sp [] E tr σ H Q) ((tr σ H λ(vs:List V) (H1:Hp) => sp vs H1 Q E)):=⟨w_call⟩
instance aeH{σ:L2.St}{H:Hp}{Q:VK}{v:V}:Go (tC v σ H Q) (Q v H):=⟨w_c⟩
instance aeI{H:Hp}{Q:VK}{v:V}{r:L2.St}:Go (dI 0 (some v::r) H Q) (Q v H):=⟨wv0⟩
instance aeJ{H:Hp}{Q:VK}{v:V}{o0:Option V}{r:L2.St}:Go (dI 1 (o0::some v::r) H Q) (Q v H):=⟨wv1⟩
instance aeK{H:Hp}{Q:VK}{v:V}{o0 o1:Option V}{r:L2.St}:Go (dI 2 (o0::o1::some v::r) H Q) (Q v H):=⟨wv2⟩
instance aeL{H:Hp}{Q:VK}{v:V}{o0 o1 o2:Option V}{r:L2.St}:Go (dI 3 (o0::o1::o2::some v::r) H Q) (Q v H):=⟨wv3⟩
instance aeM{H:Hp}{Q:VK}{v:V}{o0 o1 o2 o3:Option V}{r:L2.St}:Go (dI 4 (o0::o1::o2::o3::some v::r) H Q) (Q v H):=⟨wv4⟩
instance aeN{H:Hp}{Q:VK}{v:V}{o0 o1 o2 o3 o4:Option V}{r:L2.St}:Go (dI 5 (o0::o1::o2::o3::o4::some v::r) H Q) (Q v H):=⟨wv5⟩
instance aeO{H:Hp}{Q:VK}{v:V}{o0 o1 o2 o3 o4 o5:Option V}{r:L2.St}:Go (dI 6 (o0::o1::o2::o3::o4::o5::some v::r) H Q) (Q v H):=⟨wv6⟩
instance aeP{H:Hp}{Q:VK}{v:V}{o0 o1 o2 o3 o4 o5 o6:Option V}{r:L2.St}:Go (dI 7 (o0::o1::o2::o3::o4::o5::o6::some v::r) H Q) (Q v H):=⟨wv7⟩
instance aeQ{H:Hp}{Q:VK}{v:V}{o0 o1 o2 o3 o4 o5 o6 o7:Option V}{r:L2.St}:Go (dI 8 (o0::o1::o2::o3::o4::o5::o6::o7::some v::r) H Q) (Q v H):=⟨wv8⟩
instance aeR{H:Hp}{Q:VK}{v:V}{o0 o1 o2 o3 o4 o5 o6 o7 o8:Option V}{r:L2.St}:Go (dI 9 (o0::o1::o2::o3::o4::o5::o6::o7::o8::some v::r) H Q) (Q v H):=⟨wv9⟩
instance aeS{H:Hp}{v:V}{o0 o:Option V}{r:L2.St}{R:L2.St->Hp->Prop}:Go (bR 1 v (o0::o::r) H R) (R (o0::some v::r) H):=⟨wn1⟩
instance aeT{H:Hp}{v:V}{o0 o1 o:Option V}{r:L2.St}{R:L2.St->Hp->Prop}:Go (bR 2 v (o0::o1::o::r) H R) (R (o0::o1::some v::r) H):=⟨wn2⟩
instance aeU{H:Hp}{v:V}{o0 o1 o2 o:Option V}{r:L2.St}{R:L2.St->Hp->Prop}:Go (bR 3 v (o0::o1::o2::o::r) H R) (R (o0::o1::o2::some v::r) H):=⟨wn3⟩
instance aeV{H:Hp}{v:V}{o0 o1 o2 o3 o:Option V}{r:L2.St}{R:L2.St->Hp->Prop}:Go (bR 4 v (o0::o1::o2::o3::o::r) H R) (R (o0::o1::o2::o3::some v::r) H):=⟨wn4⟩
instance aeW{H:Hp}{v:V}{o0 o1 o2 o3 o4 o:Option V}{r:L2.St}{R:L2.St->Hp->Prop}:Go (bR 5 v (o0::o1::o2::o3::o4::o::r) H R) (R (o0::o1::o2::o3::o4::some v::r) H):=⟨wn5⟩
instance aeX{H:Hp}{v:V}{o0 o1 o2 o3 o4 o5 o:Option V}{r:L2.St}{R:L2.St->Hp->Prop}:Go (bR 6 v (o0::o1::o2::o3::o4::o5::o::r) H R) (R (o0::o1::o2::o3::o4::o5::some v::r) H):=⟨wn6⟩
instance aeY{H:Hp}{v:V}{o0 o1 o2 o3 o4 o5 o6 o:Option V}{r:L2.St}{R:L2.St->Hp->Prop}:Go (bR 7 v (o0::o1::o2::o3::o4::o5::o6::o::r) H R) (R (o0::o1::o2::o3::o4::o5::o6::some v::r) H):=⟨wn7⟩
instance aeZ{H:Hp}{v:V}{o0 o1 o2 o3 o4 o5 o6 o7 o:Option V}{r:L2.St}{R:L2.St->Hp->Prop}:Go (bR 8 v (o0::o1::o2::o3::o4::o5::o6::o7::o::r) H R) (R (o0::o1::o2::o3::o4::o5::o6::o7::some v::r) H):=⟨wn8⟩
instance ae0{H:Hp}{v:V}{o0 o1 o2 o3 o4 o5 o6 o7 o8 o:Option V}{r:L2.St}{R:L2.St->Hp->Prop}:Go (bR 9 v (o0::o1::o2::o3::o4::o5::o6::o7::o8::o::r) H R) (R (o0::o1::o2::o3::o4::o5::o6::o7::o8::some v::r) H):=⟨wn9⟩
instance adp{H:Hp}{Q:VK}{i j:Int}{f:Int->Int->V}:Go (rI0 f (V.int i) (V.int j) H Q) (Q (f i j) H):=⟨V4⟩
instance abH{H:Hp}{Q:VK}{i j:Int}:Go (rEq (V.int i) (V.int j) H Q) (Q (V.bl (decide (i=j))) H):=⟨J3⟩
instance abI{H:Hp}{Q:VK}{i j:Int}:Go (rNe (V.int i) (V.int j) H Q) (Q (V.bl !decide (i=j)) H):=⟨QL⟩
instance abJ{H:Hp}{Q:VK}{a b:Str}:Go (rNe (V.str a) (V.str b) H Q) (Q (V.bl !decide (a=b)) H):=⟨QM⟩
instance adq{k:Bool}{R:Bool->Prop}:Go (∃(c:Bool),V.bl k=V.bl c/\R c) (R k):=⟨YS⟩
instance abK{σ:L2.St}{H:Hp}{c:TT}{R:Bool->Hp->Prop}:Go (Yj c σ H R) ((c σ H λ(b:Bool) (H1:Hp) => R (!b) H1)):=⟨w_not⟩
instance abL{σ:L2.St}{H:Hp}{c d:TT}{R:Bool->Hp->Prop}:Go (Yi c d σ H R) ((c σ H λ(b:Bool) (H1:Hp) => if b=true then d σ H1 R else R false H1)):=⟨w_and⟩
instance adt{σ:L2.St}{H:Hp}{c d:TT}{R:Bool->Hp->Prop}:Go (tOr c d σ H R) ((c σ H λ(b:Bool) (H1:Hp) => if b=true then R true H1 else d σ H1 R)):=⟨w_or⟩
instance aay{σ:L2.St}{H:Hp}{Q:VK}{ta:TE}:Go (Pg ta σ H Q) ((ta σ H λ(x:V) (H1:Hp) => ∃(c:Bool),x=V.bl c/\Q (V.bl !c) H1)):=⟨HB⟩
instance aaz{σ:L2.St}{H:Hp}{Q:VK}{ta tb:TE}:Go (Pb ta tb σ H Q) ((ta σ H λ(x:V) (H1:Hp) => ∃(c:Bool),x=V.bl c/\if c=true then tb σ H1 Q else Q (V.bl false) H1)):=⟨HD⟩
instance adu{σ:L2.St}{H:Hp}{Q:VK}{K:W.Frag}{tr:TA}{T:String}{r:V->List V->Hp->VK->Prop}{to:TE}:Go (tBM K T r to tr σ H Q) ((to σ H λ(x:V) (H1:Hp) => tyV K T x H1/\tr σ H1 λ(xs:List V) (H2:Hp) => r x xs H2 Q)):=⟨YW⟩
instance abM{σ:L2.St}{H:Hp}{v:V}{to ti:TE}{ts:Pn}{R:L2.St->Hp->Prop}:Go (Yn to ti ts v σ H R) ((to σ H λ(o:V) (H1:Hp) => ti σ H1 λ(i:V) (H2:Hp) => ts o i v H2 λ(H3:Hp) => R σ H3)):=⟨w_sub⟩
instance Zi{σ:L2.St}{H:Hp}{Q:VK}{t:TE}{r:V->Option Int->Option Int->Hp->VK->Prop}{tl th:TO}:Go (tSl r t tl th σ H Q) ((t σ H λ(x:V) (H1:Hp) => tl σ H1 λ(l:Option Int) (H2:Hp) => th σ H2 λ(u:Option Int) (H3:Hp) => r x l u H3 Q)):=⟨Ad⟩
instance XF{σ:L2.St}{H:Hp}{R:Option Int->Hp->Prop}:Go (zK σ H R) (R none H):=⟨tW⟩
instance aaA{σ:L2.St}{H:Hp}{t:TE}{R:Option Int->Hp->Prop}:Go (Qd t σ H R) ((t σ H λ(x:V) (H1:Hp) => ∃(i:Int),x=V.int i/\R (some i) H1)):=⟨HF⟩
instance abN{i:Int}{R:Int->Prop}:Go (∃(k:Int),V.int i=V.int k/\R k) (R i):=⟨QS⟩
instance Zj{σ:L2.St}{H:Hp}{tr:TA}{Q:VK}:Go (Qt tr σ H Q) ((tr σ H λ(xs:List V) (H1:Hp) => List.length xs<=sizeLine/\∀(p:Addr)(H':Hp),New H1 H' p (HO.tup xs)->Q (V.ref p) H')):=⟨z6⟩
instance Zk{σ:L2.St}{H:Hp}{tr:TA}{Q:VK}:Go (Qu tr σ H Q) ((tr σ H λ(xs:List V) (H1:Hp) => List.length xs<=sizeLine/\∀(p:Addr)(H':Hp),New H1 H' p (HO.lst xs)->Q (V.ref p) H')):=⟨z7⟩
instance aaB{K:W.Frag}{σ:L2.St}{H:Hp}{Q:VK}{ta:TE}{f:Str}:Go (Yv K ta f σ H Q) ((ta σ H λ(x:V) (H1:Hp) => ∃(a:Addr),∃(C:Addr),∃(dx:Addr),∃(fs:List (Str×V)),∃(v:V),x=V.ref a/\H1 a=some (HO.ins C dx fs)/\Cls K C/\bZ K C f/\List.lookup f fs=some v/\Q v H1)):=⟨HW⟩
instance XH{σ:L2.St}{H:Hp}{Q:VK}{ta:TE}{t:TA}{m:Str}{C:Addr}{sp:Sp}{E:XK}:Go (wH C m sp [] E ta t σ H Q) ((ta σ H λ(x:V) (H1:Hp) => ∃(a:Addr),∃(dx:Addr),∃(fs:List (Str×V)),x=V.ref a/\H1 a=some (HO.ins C dx fs)/\List.lookup m fs=none/\t σ H1 λ(vs:List V) (H2:Hp) => sp (x::vs) H2 Q E)):=⟨tZ⟩
instance XJ{σ:L2.St}{H:Hp}{Q:VK}{t:TA}{C:Addr}{sp:Sp}{E:XK}:Go (Ak C sp E t σ H Q) ((t σ H λ(vs:List V) (H1:Hp) => ∀(x dx:Addr)(H2:Hp),New H1 H2 x (HO.ins C dx [])->sp (V.ref x::vs) H2 (λ(v:V) (H3:Hp) => v=V.non/\Q (V.ref x) H3) E)):=⟨tY⟩
instance XM{K:W.Frag}{σ:L2.St}{H:Hp}{ta tv:TE}{f:Str}{D:Ends}:Go (Yw K ta tv f D σ H) ((tv σ H λ(y:V) (H1:Hp) => ta σ H1 λ(x:V) (H2:Hp) => V9 K f y x H2 λ(H3:Hp) => Ends.nx D σ H3)):=⟨tX⟩
instance aaC{H:Hp}{Q:VK}{K:W.Frag}{i:Int}:Go (rB K [V.int i,V.ty "bool"] H Q) (Q (V.bl false) H):=⟨Ih⟩
instance aaD{H:Hp}{Q:VK}{K:W.Frag}{b:Bool}:Go (rB K [V.bl b,V.ty "bool"] H Q) (Q (V.bl true) H):=⟨Ii⟩
instance adv{A B:Prop}:Go (if true=true then A else B) (A):=⟨Y9⟩
instance adw{A B:Prop}:Go (if false=true then A else B) (B):=⟨Y_⟩
instance abO{A B:Prop}:Go (if (!true)=true then A else B) (B):=⟨Ra⟩
instance abP{A B:Prop}:Go (if (!false)=true then A else B) (A):=⟨Rb⟩
instance abQ{t:TA}{tv:TE}{r:List V->V->Hp->VK->Prop}{σ:L2.St}{H:Hp}{Q:VK}:Go (tCK r t tv σ H Q) ((t σ H λ(xs:List V) (H1:Hp) => tv σ H1 λ(y:V) (H2:Hp) => r xs y H2 Q)):=⟨Q5⟩
instance aaE{to tl th:TE}{v:V}{σ:L2.St}{H:Hp}{Q:L2.St->Hp->Prop}:Go (Y5 to tl th v σ H Q) ((to σ H λ(o:V) (H1:Hp) => tl σ H1 λ(a:V) (H2:Hp) => th σ H2 λ(c:V) (H3:Hp) => ∃(l:Addr),∃(b:Addr),∃(xs:List V),∃(ys:List V),∃(i:Int),∃(j:Int),o=V.ref l/\v=V.ref b/\a=V.int i/\c=V.int j/\H3 l=some (HO.lst xs)/\H3 b=some (HO.lst ys)/\l≠b/\0<=i/\i<=j/\j<=(↑(List.length xs):Int)/\List.length xs+List.length ys<=sizeLine/\∀(H':Hp),L2.Off l H3 H'->H' l=some (HO.lst (List.take (Int.toNat i) xs++ys++List.drop (Int.toNat j) xs))->Q σ H')):=⟨HY⟩
instance aaF{K:W.Frag}{g:TG}{tb:TS}{D:Ends}{σ:L2.St}{H:Hp}{tr:TA}:Go (CJ (QG K tr) g tb D σ H) ((tr σ H λ(vs:List V) (H1:Hp) => ∃(a:Addr),∃(xs:List V),vs=[V.ref a]/\SqL K H1 a xs/\Ik K a xs g tb D σ H1)):=⟨Il⟩
instance Zm{g:TG}{tb:TS}{D:Ends}{σ:L2.St}{H:Hp}{tr:TA}:Go (CJ (Py tr) g tb D σ H) ((tr σ H λ(vs:List V) (H1:Hp) => ∃(j:Int),vs=[V.int j]/\-2 ^ 62<=j/\j<2 ^ 62/\Ai 0 (Int.toNat j) g tb D σ H1)):=⟨Aj⟩
instance aaG{K:W.Frag}{te:TE}{g:TG}{tb:TS}{D:Ends}{σ:L2.St}{H:Hp}:Go (CJ (Cz K te) g tb D σ H) ((te σ H λ(x:V) (H1:Hp) => ∃(a:Addr),x=V.ref a/\(∃(xs:List V),SqL K H1 a xs)/\HN K a g tb D σ H1)):=⟨HS⟩
instance Zn{K:W.Frag}{t0 te:TE}{nt:Nat}{fr:List Nat}{g:TG}{c:TT}{σ:L2.St}{H:Hp}{Q:VK}:Go (Dg (Cz K t0) nt fr g c te σ H Q) ((t0 σ H λ(x:V) (H1:Hp) => ∃(a:Addr),x=V.ref a/\(∃(xs:List V),SqL K H1 a xs)/\eZ (Itl K a) nt fr g c te σ H1 Q)):=⟨Af⟩
section
variable{K:W.Frag}{H:Hp}{Q:VK}{E:XK}{q:Addr}{a b lo hi:Int}
instance abS:Go (gR K [.int a,.int lo] H Q E) (Q (.bl (decide (lo<=a))) H):=⟨Ao⟩
instance Zo:Go (gB K [.int a,.int lo,.int hi] H Q E) (Q (.bl (decide (lo<=a) && decide (a<=hi))) H):=⟨λk=>⟨_,_,lo,hi,rfl,.int _,k⟩⟩
instance abT:Go (jo K [.int a] H Q E) (Q (.bl (decide (16<=a) && decide (a<=240))) H):=⟨λk=>⟨_,_,rfl,.int _,k⟩⟩
instance abU[h:Hat H q (.tup [.int a,.int b])]:Go (oY [.ref q] H Q E) (Q (.int (a+b)) H):=⟨Rg h.e⟩
end
end L2
namespace L2
open PySem PySem.Spec PyProof.Rows
section
variable{g:TG}{tb:TS}{D:Ends}{σ:St}{H:Hp}
variable{K:W.Frag}{a:Addr}{xs:List V}{nt:Nat}{fr:List Nat}{c:TT}{te:TE}{Q:VK}
instance ae1[h:SqA K H a xs]:Go (∃a',V.ref a=.ref a'/\(∃xs,SqL K H a' xs)/\eZ (Itl K a') nt fr g c te σ H Q) (eZ (Itl K a) nt fr g c te σ H Q):=⟨aep h.e⟩
instance ae2[h:SqA K H a xs]:Go (∃a',V.ref a=.ref a'/\(∃xs,SqL K H a' xs)/\HN K a' g tb D σ H) (HN K a g tb D σ H):=⟨aeo h.e⟩
instance ae3[h:SqA K H a xs]:Go (∃a' xs',[V.ref a]=[.ref a']/\SqL K H a' xs'/\Ik K a' xs' g tb D σ H) (Ik K a xs g tb D σ H):=⟨aen h.e⟩
end
instance abV{H0 H:Hp}{M:List Addr}{L:List (Addr×HO)}{I:List Im}{Z:Addr->Hp->Prop}{ws:xD}[F:SH H0 M H L I]:Go (∀p ys H',New H H' p (.lst ys)->aB H' ys (aF ws)->Z p H') (∀H' p ys,ys.length=ws.length->SH H0 M H' ((p,.lst ys)::L) (.tps ys (aF ws)::I)->Z p H'):=⟨λk p ys H' n t=>k H' p ys (by rw[t.1,aG]) (F.newR n t)⟩
class Nx(L:List (Addr×HO))(a b:Addr):Prop where
 ne:(L.map (·.1)).Nodup->a≠b
section
variable{L R L':List (Addr×HO)}{a b:Addr}{o:HO}{c:Addr×HO}{H0 H:Hp}{M:List Addr}{I:List Im}
instance af3[h:Nx L a b]:Nx (c::L) a b:=⟨λnd=>h.ne (by rw[oC] at nd;exact(List.nodup_cons.mp nd).2)⟩
instance af4{o':HO}[h:LkL L a o]:Nx ((b,o')::L) a b:=⟨λnd z=>by
 rw[oC] at nd;exact(List.nodup_cons.mp nd).1 (by show b∈_;rw[<- z];exact List.mem_map_of_mem (f:=(·.1)) h.m)⟩
instance af5{o':HO}[h:LkL L b o]:Nx ((a,o')::L) a b:=⟨λnd z=>by
 rw[oC] at nd;exact(List.nodup_cons.mp nd).1 (by show a∈_;rw[z];exact List.mem_map_of_mem (f:=(·.1)) h.m)⟩
theorem SH.neC[F:SH H0 M H L I][h:Nx L a b]:a≠b:=h.ne F.nd
class PkC(c:Addr×HO)(L:List (Addr×HO))(R:outParam (List (Addr×HO))):Prop where
 p:Pk c L R
class SbC(L' L:List (Addr×HO)):Prop where
 s:Sb L' L
instance agL{d:Addr×HO}[h:PkC c L R]:PkC c (d::L) (d::R):=⟨.tail h.p⟩
instance agM:PkC c (c::L) L:=⟨.head⟩
instance agN:SbC [] L:=⟨.nil⟩
instance agO[h:PkC c L R][t:SbC L' R]:SbC (c::L') L:=⟨.cons h.p t.s⟩
end
end L2
namespace L2
open PySem PySem.Spec PyProof.Rows PySem.SeqAt
section
variable{X:Cx}{o lo hi:Expr}{to tl th:TE}{pos p2:Pos}
theorem V_(ho:PE X o to)(hl:PE X lo tl)(hh:PE X hi th)
  (ha:∀v,assign (.Subscript o (.Slice (some lo) (some hi) none p2) pos) X.env v=(do
   let ov <- holding [v] (eval o X.env)
   let iv <- holding [v,ov] (eval (.Slice (some lo) (some hi) none p2) X.env)
   standAt pos
   holding [v,ov,iv] (setItem ov iv v)
   release [iv,v,ov] []):=by intro _;rfl):PG X (.Subscript o (.Slice (some lo) (some hi) none p2) pos) (Y5 to tl th):=by
 intro pins s σ H v u Q I r h;rw[ha];refine zI (nK (thn (ho pins s σ H _ I h) λov s1 ⟨x,H1,I1,r1,q1⟩=>?_));refine zI (nK (wpAny_Slice (wpAny_evalPart_some (thn (hl pins s1 σ H1 _ I1 q1) λa s2 ⟨y,H2,I2,r2,q2⟩=>wpAny_evalPart_some (thn (hh pins s2 σ H2 _ I2 q2) λc s3 ⟨z,H3,I3,r3,q3⟩=>wpAny_evalPart_none ?_)))));obtain⟨l,b,xs,ys,i,j,rfl,rfl,rfl,rfl,e1,e2,ne,h0,h1,h2,hz,q⟩:=q3;cases r1;cases r;have I4:Inv X pins σ H3 { s3 with heap:=s3.heap.push { cls:=.type "slice", data:=.fields #[a,c,.none] } }:=I3.kept (t':=s3.toks) λb ob z=>gX _ z
 refine zI (wpAny_standAt (zI (nK (M5 I4 e1 e2 ne (Heap.IsSliceOf.new ..) r2 r3 h0 h1 h2 hz λs5 I5=>?_))));exact wpAny_release ⟨σ,_,I5,q _ Off.upd bx⟩
end
section
variable{H0 H:Hp}{M:List Addr}{L:List (Addr×HO)}{I:List Im}{l b p:Addr}{xs ys:List V}{v:V}{Q:VK}{R:Hp->Prop}{R':Prop}{σ:St}{i j:Int}
instance aaH:Go (V.non=V.non/\R') R':=⟨λk=>⟨rfl,k⟩⟩
instance adx[h:Hat H l (.lst xs)][h2:Hat H b (.lst ys)][F:SH H0 M H L I][n:Nx L l b]:Go (∃(l' b':Addr)(xs' ys':List V)(i' j':Int),V.ref l=.ref l'/\V.ref b=.ref b'/\V.int i=.int i'/\V.int j=.int j'/\H l'=some (.lst xs')/\H b'=some (.lst ys')/\l'≠b' /\
  0<=i'/\i'<=j'/\j'<=xs'.length/\xs'.length+ys'.length<=sizeLine/\∀H',Off l' H H'->H' l'=some (.lst (xs'.take i'.toNat++ys'++xs'.drop j'.toNat))->R H')
  (Sd (0<=i/\i<=j/\j<=xs.length/\xs.length+ys.length<=1000000) (∀H',Off l H H'->H' l=some (.lst (xs.take i.toNat++ys++xs.drop j.toNat))->R H')) :=
 ⟨λs=>abw h.e h2.e (n.ne F.nd) s.1.1 s.1.2.1 s.1.2.2.1 (cH s.1.2.2.2) s.2⟩
instance ady[h:Hat H l (.lst xs)]:Go (QK (.ref l) (.int i) v H R) (Sd (0<=i/\i<xs.length) (∀H',Off l H H'->H' l=some (.lst (xs.set i.toNat v))->R H')):=⟨λs=>Q9 h.e (XD s.1.1 s.1.2) s.2⟩
instance abW{n:Nat}{c:Bool}[h:Hat H l (.lst [.bl c])]:Go (J0 (.ref l) (.int (n:Int)) H Q) (Sd (n<=1000000) (∀p H',New H H' p (.lst ((List.replicate n c).map V.bl))->Q (.ref p) H')):=⟨λs=>Ah h.e s.1 (by have:=s.2;rw[List.map_replicate] at this;exact this)⟩
instance abX{g:TG}{tb:TS}{D:Ends}:Go (∃j:Int,[V.int i]=[.int j]/\-(2 ^ 62)<=j/\j<2 ^ 62/\Ai 0 j.toNat g tb D σ H) (Sd (-(2 ^ 62)<=i/\i<2 ^ 62) (Ai 0 i.toNat g tb D σ H)):=⟨λs=>⟨i,rfl,s.1.1,s.1.2,s.2⟩⟩
end
end L2
namespace L2
open PySem PySem.Spec PyProof.Rows
structure iM(x:Str)(scope:Scope):Prop where
 kind:scope.kind=.function
 co:scope.isCoroutine=false
 gen:scope.isGenerator=false
 loc:scope.names.lookup x=some .local
 Ri:∀y∈scope.names,y.2≠.cell
 J_:(x==("__debug__" : Str))=false
theorem bT.is{P:Program}{w:World}{H:Hp}{h:Heap}{a:Addr}{o:HO}(x:bT P w H h a o):∃ob,h.get? a=some ob:=by
 cases o with
 | lst xs=>obtain⟨_,_,_,_,e⟩:=x;exact⟨_,e⟩
 | tup xs=>obtain⟨_,_,_,ob,e,_⟩:=x;exact⟨_,e⟩
 | dK kvs=>obtain⟨_,_,_,_,ob,_,_,e,_⟩:=x;exact⟨_,e⟩
 | dT kvs=>obtain⟨_,_,_,_,ob,_,_,e,_⟩:=x;exact⟨_,e⟩
 | set S n=>obtain⟨ob,_,_,_,e,_⟩:=x;exact⟨_,e⟩
 | ins C dx fs=>obtain⟨_,_,_,e,_⟩:=x;exact⟨_,e⟩
 | own y=>exact x
 | xd fs=>obtain⟨_,⟨ob,_,_,e,_⟩,_⟩:=x;exact⟨_,e⟩
 | rng lo hi=>obtain⟨_,_,_,e⟩:=x;exact⟨_,e⟩
 | frz ob u=>exact⟨_,x.1⟩
 | tbl ps=>exact⟨_,x⟩
 | met f y=>exact⟨_,x⟩
 | ext φ=>exact x.2.1
def gk(h:Heap)(L:Addr):List (Addr×Obj):=(List.range h.objs.size).filterMap λb=>if b=L then none else (h.get? b).map λo=>(b,o)
theorem cF{h:Heap}{L b:Addr}{o:Obj}(e:h.get? b=some o)(n:b≠L):(b,o)∈gk h L:=by
 unfold gk;refine List.mem_filterMap.mpr ⟨b,List.mem_range.mpr (gS e),?_⟩;rw[yA n,e]
 rfl
theorem eU{h:Heap}{L:Addr}{p:Addr×Obj}(m:p∈gk h L):h.get? p.1=some p.2/\p.1≠L:=by
 unfold gk at m;obtain⟨b,_,e⟩:=List.mem_filterMap.mp m;split at e
 ·cases e
 ·rename_i n;cases q:h.get? b with
  | none=>rw[q] at e;cases e
  | some o =>
   rw[q] at e;cases e;exact⟨q,n⟩
theorem Zq{h:Heap}{a:Addr}{m m':xC}(x:h.Ns a m)(y:h.Ns a m'):m=m':=by
 obtain⟨o,es,ep,e,d,_,f⟩:=x;obtain⟨o',es',ep',e',d',_,f'⟩:=y;rw[e] at e';cases e';rw[d] at d';cases d'
 funext k
 rw[<- f k,<- f' k]
theorem Inv.Ka{X:Cx}{pins:List (Addr×Obj)}{σ:St}{H:Hp}{s:Shared}{h':Heap}{t':Nat}{D:Addr}{o:HO}{m:xC}(I:Inv X pins σ H s)(k:∀b u,b≠X.env.locals->s.heap.get? b=some u->h'.get? b=some u)
  (hm:s.heap.Ns X.env.locals m) (hm':h'.Ns X.env.locals m) (hn:s.heap.get? D=none) (new:bT X.prog X.w (upd H D o) h' D o):Inv X pins σ (upd H D o) { s with heap:=h',toks:=t' }:=by
 have hD:H D=none:=by
  cases q:H D with
  | none=>rfl
  | some u =>
   obtain⟨ob,e⟩:=(I.hok D u q).is;rw[hn] at e;cases e
 have nL:∀b u,H b=some u->b≠X.env.locals:=λb u e z=>by rw[z,I.free] at e;cases e
 have nD:∀{b:Addr} {u:HO},H b=some u->upd H D o b=some u:=λ{b u} e=>by rw[aX (λz=>by rw[z,hD] at e;cases e)];exact e
 refine I.step (g':=s.gens) (d':=s.drawn) (ch:=[]) (λ_ z=>nomatch z) (λb u n _ _ e _=>k b u n e) (λb u n _ _ e _=>⟨u.slots,k b u n e⟩) (λb u _ e q=>?_) (λb u _ e=>?_) (λb xs e=>nD e) (λb u v e=>nD e) (λb ps e=>⟨#[],by rw[nD e];simp⟩) (λm2 hm2=>?_) (λb u e=>?_) I.bare
 ·rw[aX (λz=>by rw[z,hn] at e;cases e)];exact q
 ·by_cases n:b=X.env.locals
  ·obtain⟨ob,_,_,e2,_⟩:=hm';exact⟨ob,by rw[n];exact e2⟩
  ·exact⟨u,k b u n e⟩
 ·rw[Zq hm2 hm];exact hm'
 ·by_cases hb:b=D
  ·rw[hb,bx] at e;cases e;rw[hb];exact new
  ·rw[aX hb] at e;refine(I.hok b u e).stay (λc v hc q=>k c v ?_ q) (λc q=>nD q) λc xs q=>nD q
   rcases hc with z|z
   ·rw[z];exact nL b u e
   ·exact nL c _ z
def dO:Value->V
 | .ref a=>.ref a
 | _=>.non
theorem iQ:∀{xs:List V} {us:xE},Vals xs us->(∀v∈xs,∃q,v=.ref q)->xs=us.map dO/\∀u∈us,∃q,u=.ref q
 | _,_,.nil,_=>⟨rfl,λ_ h=>by cases h⟩
 | _,_,.cons r t,h=>by
  obtain⟨e1,e2⟩:=iQ t λv hv=>h v (zD _ hv)
  obtain⟨q,rfl⟩:=h _ zC;cases r;refine⟨by rw[oC,<- e1];rfl,λu hu=>?_⟩;rcases vS.mp hu with rfl|hu
  ·exact⟨q,rfl⟩
  ·exact e2 u hu
theorem kY:∀{us:xE},(∀u∈us,∃q,u=.ref q)->Vals (us.map dO) us
 | [],_=>.nil
 | u::us,h=>by
  obtain⟨q,rfl⟩:=h u zC;exact .cons rfl (kY λv hv=>h v (zD _ hv))
theorem Inv.grow{X:Cx}{pins:List (Addr×Obj)}{σ:St}{H H':Hp}{s:Shared}{h':Heap}{t':Nat}(I:Inv X pins σ H s)(k:∀b u,H b=none->s.heap.get? b=some u->h'.get? b=some u/\H' b=none)
  (kt:∀b u,H b=some u->(H' b=some u/\∀o,s.heap.get? b=some o->h'.get? b=some o)\/∃ps more,u=.tbl ps/\H' b=some (.tbl (ps++more))/\h'.get? b=some { cls:=.none,data:=.fields (ps++more) })
  (new:∀b u,H b=none->H' b=some u->bT X.prog X.w H' h' b u):Inv X pins σ H' { s with heap:=h',toks:=t' }:=by
 have same:∀{b:Addr} {u:HO},H b=some u->(∀ps,u≠.tbl ps)->H' b=some u/\∀o,s.heap.get? b=some o->h'.get? b=some o:=λ{b u} e n=>by
  rcases kt b u e with z|⟨ps,_,z,_⟩
  ·exact z
  ·exact gE z (n ps)
 obtain⟨m0,⟨oL,esL,epL,eL,rL⟩,_⟩:=id I.loc;have kL:=(k _ _ I.free eL).1;refine I.step (g':=s.gens) (d':=s.drawn) (ch:=[]) (λ_ z=>nomatch z) (λb u n _ _ e q=>(k b u q e).1) (λb u n _ _ e q=>⟨u.slots,(k b u q e).1⟩) (λb u _ e q=>(k b u q e).2) (λb u _ e=>?_) (λb xs e=>(same e (by intro _ z;cases z)).1) (λb u v e=>(same e (by intro _ z;cases z)).1) (λb ps e=>?_) (λm2 hm2=>?_) (λb u e=>?_) I.bare
 ·cases q:H b with
  | none=>exact⟨u,(k b u q e).1⟩
  | some v =>
   rcases kt b v q with z|⟨ps,more,_,_,z⟩
   ·exact⟨u,z.2 u e⟩
   ·exact⟨_,z⟩
 ·rcases kt b _ e with z|⟨ps',more,z,z2,_⟩
  ·exact⟨#[],by rw[z.1];simp⟩
  ·cases z;exact⟨more,z2⟩
 ·obtain⟨o,es,ep,e,r⟩:=hm2;rw[eL] at e;cases e;exact⟨_,es,ep,kL,r⟩
 ·cases q:H b with
  | none=>exact new b u q e
  | some v =>
   rcases kt b v q with z|⟨ps,more,rfl,z2,z3⟩
   ·rw[z.1] at e;cases e;refine(I.hok b _ q).stay (λc o hc e2=>?_) (λc e2=>(same e2 (by intro _ z;cases z)).1) λc xs e2=>(same e2 (by intro _ z;cases z)).1
    rcases hc with rfl|hc
    ·exact z.2 o e2
    ·exact(same hc (by intro _ z;cases z)).2 o e2
   ·rw[z2] at e;cases e;exact z3
def TabOk(pos:Pos)(qual:Str)(ps:xI)(H:Hp):Prop:=ps=#[]\/∃(c':Addr)(oc:Obj)(vs:xI)(t:Tok),ps=#[rawInt pos.line,rawInt pos.col,.ref c']/\H c'=some (.frz oc (.own c'))/\oc.data=.fields vs/\vs[1]?=some (.str qual t)
def Bm(mg:xC)(base:Heap):Prop:=∃bm ob,mg "__builtins__" = some (.ref bm)/\bm≠builtinsNs/\base.get? bm=some ob/\ob.cls=.type "module" /\ ob.dict=some builtinsNs/\ob.data=.plain
def Rj(ts:List Addr)(H:Hp):Prop:=(∀p∈ts,H p=some (.tbl #[]))/\∀b,b ∉ ts->H b=none\/∃o xs,H b=some (.frz o (.lst xs))
theorem Ny{P:Program}{w:World}{K:W.Frag}{mg mb:xC}{CX:CXT}{k:Nat}{fa a:Addr}{fd:FuncData}{x:Str}{sp:Sp}{s₁:Shared}{vs:xE}{ns:List Int}{ts:List Addr}
  (KX:K.In s₁.heap) (hns:s₁.heap.Ns mainGlobals mg) (hb:s₁.heap.Ns builtinsNs mb) (hbb:∀x:Str,x ≠ "__name__" -> mb x=bootBuiltins x) (hlim:s₁.heap.NoLimit) (hg:s₁.gens=#[]) (hB:Bm mg s₁.heap)
  (hts:∀p∈ts,s₁.heap.get? p=some (W.tabObj #[])) (hct:∀p∈ts,isCodeTable s₁.heap p) (hKt:∀p∈ts,K.lookup p=none)
  (ha:s₁.heap.get? a=some { cls:=.type "list", data:=.seq vs.toArray }) (hi:IntsAre vs ns) (hl:ns.length<=sizeLine) (hr:Room k callerA)
  (F:∀base:Heap,K.In base->base.Ns mainGlobals mg->Bm mg base->gM P w K mg base CX k fa fd [x] sp) (hbind:∀(s:Shared)(u:Value),BindsTo s fd ⟨[u],[]⟩ [(x,u)])
  (hsp:∀H:Hp,Rj ts H->a ∉ ts->SqL K H a (ns.map V.int)->sp [.ref a] H (λv _=>v=.bl true) λ_ _ _=>False)
  (hCX:∀H e s',CX [] H s₁ (λ_ _ _=>False) e s'->False) :
  codeAny (model P w) callerA (.call (.ref fa) ⟨[.ref a],[]⟩) (λr s'=>r=.ok (.ret (.bool true))/\OldK s₁.heap s'.heap/\s'.os=s₁.os/\AllBare s'.gens) s₁:=by
 have rv:=wO hi;have lenV:=hi.length;have nat:a ∉ ts:=λz=>by
  have:=hts a z;rw[ha] at this;cases this
 have core:∀H:Hp,Rj ts H->SqL K H a (ns.map V.int)->HOk P w H s₁.heap->(∀b,b ∉ ts->H b≠none->b=a)->(H a≠none->K.lookup a=none) ->
   codeAny (model P w) callerA (.call (.ref fa) ⟨[.ref a],[]⟩) (λr s'=>r=.ok (.ret (.bool true))/\OldK s₁.heap s'.heap/\s'.os=s₁.os/\AllBare s'.gens) s₁:=by
  intro H hO hS hok hA hK;have kindOf:∀{b:Addr} {o:Obj},s₁.heap.get? b=some o->H b≠none->o=W.tabObj #[]\/o={ cls:=.type "list", data:=.seq vs.toArray }:=λ{b o} e n=>by
   by_cases hb:b∈ts
   ·left
    have:=hts b hb;rw[e] at this;exact oQ this
   ·right
    have:=hA b hb n;rw[this,ha] at e;exact(oQ e).symm
  have keep:∀{b:Addr} {o:Obj},s₁.heap.get? b=some o->o≠W.tabObj #[]->o≠{ cls:=.type "list", data:=.seq vs.toArray }->(vZ s₁.heap H).get? b=some o:=λ{b o} e n1 n2=>Cy e (by
   cases q:H b with
   | none=>rfl
   | some u =>
    rcases kindOf e (by rw[q];simp) with z|z
    ·exact gE z n1
    ·exact gE z n2)
  have nsK:∀{b:Addr} {m:xC},s₁.heap.Ns b m->(vZ s₁.heap H).Ns b m:=λ{b m} ⟨o,es,ep,e,d,r⟩=>⟨o,es,ep,keep e (λz=>by rw[z] at d;cases d) (λz=>by rw[z] at d;cases d),d,r⟩
  have hKb:K.In (vZ s₁.heap H):=λb o e=>Cy (KX b o e) (by
   cases q:H b with
   | none=>rfl
   | some u =>
    by_cases hb:b∈ts
    ·rw[hKt b hb] at e;cases e
    ·have z:=hA b hb (by rw[q];simp);rw[z] at e q;rw[hK (by rw[q];simp)] at e;cases e)
  have hBb:Bm mg (vZ s₁.heap H):=by
   obtain⟨bm,ob,b1,b2,b3,b4,b5,b6⟩:=hB;exact⟨bm,ob,b1,b2,keep b3 (λz=>by rw[z] at b4;cases b4) (λz=>by rw[z] at b6;cases b6),b4,b5,b6⟩
  have hM:Mod K mg (vZ s₁.heap H):=⟨hKb,nsK hns,⟨mb,nsK hb,hbb⟩,let ⟨mc,h1,h2⟩:=hlim;⟨mc,nsK h1,h2⟩⟩;have e0:zH P w K mg (vZ s₁.heap H) callerA [] s₁ H:=⟨rfl,hM,λb o e=>Vh e,Nat.le_of_eq (Mx _ _),trivial,λb hb=>absurd (show b∈([]:List Addr) from hb) (by simp),hok,.of_eq hg⟩;refine codeAny_mono ((F _ hKb (nsK hns) hBb).run callerA [] s₁ H ⟨[.ref a],[]⟩ [.ref a] [.ref a] _ _ hr e0 (hbind s₁ (.ref a)) (.cons rfl .nil) (hsp H hO nat hS)) λr s' h=>?_
  rcases r with e|fl
  ·exact(hCX H e s' h).elim
  ·rcases fl with _|_|_|u
   ·exact False.elim h
   ·exact False.elim h
   ·exact False.elim h
   ·obtain⟨v,H',os,bare,un,hok',r',q⟩:=h;obtain rfl:v=.bl true:=q;obtain rfl:u=Value.bool true:=r';refine⟨rfl,?_,os,bare⟩;have each:∀b o,s₁.heap.get? b=some o->s'.heap.get? b=some o\/(b∈ts/\o=W.tabObj #[]/\∃more,s'.heap.get? b=some (W.tabObj (#[]++more))):=λb o e=>by
     cases q:H b with
     | none=>exact .inl (un.keep b o e q (λz=>absurd (show b∈([]:List Addr) from z) (by simp)) (by simp))
     | some u =>
      by_cases hb:b∈ts
      ·right
       have e1:=hts b hb;rw[e] at e1;obtain⟨more,e2⟩:=un.jF b #[] (hO.1 b hb);exact⟨hb,oQ e1,more,hok' b _ e2⟩
      ·left
       rcases hO.2 b hb with z|⟨ob,xs,z⟩
       ·rw[q] at z;cases z
       ·have e1:=(hok b _ z).1;rw[e] at e1;cases e1;exact(hok' b _ (un.jE b _ _ z)).1
    refine⟨λb o e=>?_,λb o e=>?_⟩
    ·rcases each b o e with z|⟨hb,rfl,more,z⟩
     ·exact .inl z
     ·exact .inr (.inl ⟨hct b hb,rfl,#[],more,rfl,z⟩)
    ·rcases each b o e with z|⟨_,_,more,z⟩
     ·exact⟨_,z⟩
     ·exact⟨_,z⟩
 cases hk:K.lookup a with
 | some o =>
  have e:=KX a o hk;rw[ha] at e;cases e;refine core (λb=>if b∈ts then some (.tbl #[]) else none) ⟨λp hp=>if_pos hp,λb hb=>.inl (if_neg hb)⟩ (.inr ⟨_,vs.toArray,_,hk,rfl,rfl,rfl,by rw[List.size_toArray,lenV];exact hl,by simpa using rv⟩) (λb u z=>?_) (λb hb z=>absurd (if_neg hb) z) λz=>absurd (if_neg nat) z
  by_cases hb:b∈ts
  ·have z':=(zS hb).symm.trans z;cases z';exact hts b hb
  ·have z':=(yA hb).symm.trans z;cases z'
 | none =>
  refine core (λb=>if b∈ts then some (.tbl #[]) else if b=a then some (.frz { cls:=.type "list", data:=.seq vs.toArray } (.lst (ns.map V.int))) else none) ⟨λp hp=>zS hp,λb hb=>?_⟩ (.inl (.inr ⟨{ cls:=.type "list", data:=.seq vs.toArray },?_⟩)) (λb u z=>?_) (λb hb z=>?_) λ_=>hk
  ·by_cases h:b=a
   ·exact .inr ⟨_,_,(yA hb).trans (zS h)⟩
   ·exact .inl ((yA hb).trans (yA h))
  ·exact(yA nat).trans (zS rfl)
  ·by_cases hb:b∈ts
   ·have z':=(zS hb).symm.trans z;cases z';exact hts b hb
   ·by_cases h:b=a
    ·have z':=((yA hb).trans (zS h)).symm.trans z;cases z';rw[h];exact⟨ha,by rw[wE];exact hl,vs,_,rv,ha⟩
    ·have z':=((yA hb).trans (yA h)).symm.trans z;cases z'
  ·by_cases h:b=a
   ·exact h
   ·exact gE ((yA hb).trans (yA h)) z
theorem Rk{l:W.OpenLaw}{n k:Nat}{q:Program}{loose:List Str}{XP:(Str->Option Value)->Heap->Prop}{YP:World->Heap->Prop}{d:DefRec}{K:Params->W.Frag}{CX:World->CXT}{sp:World->Sp}{x:Str}{ts:List Addr}
  (hn:l.most=some n) (hn2:n<=sizeLine) (hdf:d.params.defaults=[]) (hr:Room k callerA)
  (hY:∀(w:World)(h:Heap),YP w h->(K w.params).In h/\∀p∈ts,h.get? p=some (W.tabObj #[]))
  (F:∀(w:World)(mg:xC)(fa:Addr)(h:Heap),(K w.params).In h->h.Ns mainGlobals mg->mg d.name=some (.ref fa)->(∀p∈ts,(K w.params).lookup p=none/\∃c,W.codeHdIn (K w.params) c p=true) /\
   ∃fd:FuncData,(∀(s:Shared)(u:Value),BindsTo s fd ⟨[u],[]⟩ [(x,u)]) /\
    ∀base:Heap,(K w.params).In base->base.Ns mainGlobals mg->Bm mg base->gM l.prog w (K w.params) mg base (CX w) k fa fd [x] (sp w))
  (hsp:∀(w:World)(H:Hp)(a:Addr)(ns:List Int),ns.length<=n->Rj ts H->a ∉ ts->SqL (K w.params) H a (ns.map V.int)->sp w [.ref a] H (λv _=>v=.bl true) λ_ _ _=>False)
  (hCX:∀(w:World)(H:Hp)(s:Shared)(e:Value)(s':Shared),CX w [] H s (λ_ _ _=>False) e s'->False) :
  W.WalkO q loose XP YP l.row.toRowW d [] (λf vs=>PySem.call f vs):=by
 refine Att.C_ hn hdf λw s₀ s₁ mg mb fa o pm cd doc a vs ns G Y ho hd hcd hmg hobj hints hlen hg=>?_
 obtain⟨KX,hts⟩:=hY w _ Y;obtain⟨hT,fd,hb,hF⟩:=F w mg fa _ KX G.T.g hmg;refine Ny KX G.T.g G.T.b G.T.builtins G.T.nolimit hg G.T.bmain hts (λp hp=>?_) (λp hp=>(hT p hp).1) hobj hints (rS hlen hn2) hr hF hb (λH hO hn hS=>hsp w H a ns hlen hO hn hS) λH e s'=>hCX w H s₁ e s'
 obtain⟨c,hc⟩:=(hT p hp).2;obtain⟨o,vs,_,_,_,_,_,_,_,e1,e2,e3,e4,_⟩:=W.codeHd_of_K KX hc;exact⟨c,o,vs,e1,e2,e3,e4⟩
end L2
namespace L2
open PySem PySem.Spec PyProof.Rows PySem.SeqAt
def tx(cs:List Nat):Str:=⟨cs.toArray⟩
section
variable{H0 H:Hp}{M:List Addr}{L L':List (Addr×HO)}{I:List Im}{P f:Addr}{R:Hp->Prop}{pos:Pos}{qual:Str}{ps:xI}
theorem TabOk.st:∀H H',Tst H H'->TabOk pos qual ps H->TabOk pos qual ps H':=λH H' t h=>by
 rcases h with h|⟨c',oc,vs,t',e,e1,e2⟩
 ·exact .inl h
 ·exact .inr ⟨c',oc,vs,t',e,t _ _ rfl e1,e2⟩
abbrev eF(pos:Pos)(qual:Str)(ps:xI):Im:=.fct (TabOk pos qual ps) TabOk.st
class DN(I:List Im)(pos:Pos)(qual:Str)(ps:xI):Prop where
 m:eF pos qual ps∈I
instance af6{g:Im}[h:DN I pos qual ps]:DN (g::I) pos qual ps:=⟨zD _ h.m⟩
instance af7:DN (eF pos qual ps::I) pos qual ps:=⟨zC⟩
theorem SH.tab[F:SH H0 M H L I][h:DN I pos qual ps]:TabOk pos qual ps H:=F.im _ h.m
instance ae4[F:SH H0 M H L I][u:LkU L P (.tbl ps) L']:Go (∀H',Kp P H H'->H' P=some (.tbl ps)->TabOk pos qual ps H'->R H') (∀H',SH H0 M H' L' (eF pos qual ps::I)->R H'):=⟨λk H' f e t=>k H' ((F.kp f e u.u rfl).rD t)⟩
end
def XQ(c:Nat):Bool:=decide (97<=c) && decide (c<=122)
def abY(c:Nat):Bool:=decide (48<=c) && decide (c<=57)
structure Zr(cs:List Nat):Prop where
 lo:1<=cs.length
 hi:cs.length<=8
 hd:∀c,cs[0]?=some c->XQ c=true
 all:∀c∈cs,(XQ c || abY c)=true
structure Rw where
 nm:List Nat
 st:Nat
 sz:Nat
 pn:Nat
abbrev ae5(r:Rw):List V:=[.str (tx r.nm),.int (r.st:Nat),.int (r.sz:Nat),.int (r.pn:Nat)]
def af8(rs:List Rw):List (List V):=rs.map ae5
structure GoodR(n:Nat)(r:Rw):Prop where
 nm:Zr r.nm
 sz:1<=r.sz
 le:r.st+r.sz<=n
end L2
namespace L2
open PySem PySem.Spec PyProof.Rows
end L2
namespace L2
open PySem PySem.W PySem.Spec PyProof.Rows
section
variable{n:Nat}{rk:Nat->Int}{α β:Type}
def Kr(n:Nat)(rk:Nat->Int):KasT α->(α->Prop)->Prop
 | .ret a,P=>P a
 | .ask i j k,P=>i<n/\j<n/\i≠j/\Kr n rk (k (decide (rk i<rk j))) P
theorem kZ{f:α->KasT β}{P:β->Prop}:∀(t:KasT α),Kr n rk t (λa=>Kr n rk (f a) P)->Kr n rk (t.bind f) P
 | .ret _,h=>h
 | .ask i j k,h=>⟨h.1,h.2.1,h.2.2.1,kZ (k _) h.2.2.2⟩
theorem Kc{cmp:Nat->Nat->(Bool->Shared->Prop)->Shared->Prop}{s:Shared}{P:α->Prop}{Q:α->Shared->Prop}(hc:∀i j C,i<n->j<n->i≠j->C (decide (rk i<rk j)) s->cmp i j C s)(hq:∀a,P a->Q a s):∀(t:KasT α),Kr n rk t P->t.kasWp cmp Q s
 | .ret a,h=>hq a h
 | .ask i j k,h=>hc i j _ h.1 h.2.1 h.2.2.1 (Kc hc hq (k _) h.2.2.2)
abbrev Kk(rk:Nat->Int)(p:Array Nat)(k:Nat):Int:=rk (p.getD k 0)
def UpK(rk:Nat->Int)(p:Array Nat)(m:Nat):Prop:=∀i j,i<=j->j<m->Kk rk p i<=Kk rk p j
def nM(rk:Nat->Int)(p:Array Nat)(m:Nat):Prop:=∀i j,i<=j->j<m->Kk rk p j<=Kk rk p i
def Pp(n:Nat)(p:Array Nat):Prop:=p.Perm (List.range n).toArray
theorem Pp.size{p:Array Nat}(h:Pp n p):p.size=n:=by
 have:=h.size_eq;simpa using this
theorem Pp.lt{p:Array Nat}(h:Pp n p){k:Nat}(hk:k<n):p.getD k 0<n:=by
 have hs:=h.size;have e:p.getD k 0=p[k]'(by lia):=by rw[Array.getD_eq_getD_getElem?,Array.getElem?_eq_getElem (by lia)];rfl
 rw[e];have:=(Array.perm_iff_toList_perm.mp h).mem_iff.mp (show p[k]'(by lia)∈p.toList by simp);simpa using this
theorem Pp.ne{p:Array Nat}(h:Pp n p){a b:Nat}(ha:a<n)(hb:b<n)(hab:a≠b):p.getD a 0≠p.getD b 0:=by
 have hs:=h.size;have e:∀k (hk:k<n),p.getD k 0=p.toList[k]'(by simpa[hs] using hk):=λk hk=>by
  rw[Array.getD_eq_getD_getElem?,Array.getElem?_eq_getElem (by lia)]
  rfl
 have nd:p.toList.Nodup:=(Array.perm_iff_toList_perm.mp h).nodup_iff.mpr (by simpa using List.nodup_range);rw[e a ha,e b hb];intro z;exact hab ((List.getElem_inj nd).mp z)
theorem Ar{p:Array Nat}{i j:Nat}(hj:j<=p.size)(k:Nat):Kk rk (kas_rev p i j) k=if i<=k/\k<j then Kk rk p (i+j-1-k) else Kk rk p k:=by
 unfold Kk kas_rev;rw[Array.getD_eq_getD_getElem?,getElem?_mirror_all hj,apply_ite (λo:Option Nat=>o.getD 0),apply_ite rk,Array.getD_eq_getD_getElem?,Array.getD_eq_getD_getElem?]
theorem Rm{p:Array Nat}{src d:Nat}(hs:src<p.size)(hd:d<=src)(k:Nat):Kk rk (bubble p src d) k=if k=src-d then Kk rk p src else if src-d<k/\k<=src then Kk rk p (k-1) else Kk rk p k:=by
 have g:∀(q:Array Nat)(j:Nat),q.getD j 0=(q[j]?).getD 0:=λq j=>Array.getD_eq_getD_getElem? ..
 simp only[Kk,g];rw[getElem?_bubble hs d hd]
 repeat' split
 all_goals rfl
theorem Pp.rev{p:Array Nat}(h:Pp n p){i j:Nat}:Pp n (kas_rev p i j):=(mirror_perm _ _ _ _).trans h
theorem Pp.bub{p:Array Nat}(h:Pp n p){i j:Nat}:Pp n (bubble p i j):=(bubble_perm _ _ _).trans h
theorem Io{p:Array Nat}(hp:Pp n p){P:Nat->Prop}:∀(f m:Nat),1<=m->m+f<=n->UpK rk p m->(∀m',m<=m'->m'<=m+f->UpK rk p m'->(m'=m+f\/Kk rk p m'<Kk rk p (m'-1))->P m')->Kr n rk (kas_asc p f m) P
 | 0,m,_,_,u,k=>k m (uA _) (uA _) u (.inl rfl)
 | f+1,m,h1,h2,u,k=>by
  refine⟨hp.lt (by lia),hp.lt (by lia),hp.ne (by lia) (by lia) (by lia),?_⟩;by_cases hc:rk (p.getD m 0)<rk (p.getD (m-1) 0)
  ·rw[gN hc]
   try dsimp only
   rw[zS rfl];exact k m (uA _) (by lia) u (.inr hc)
  ·rw[gL hc]
   try dsimp only
   rw[yA (by decide)];refine Io hp f (m+1) (by lia) (by lia) (λi j hij hj=>?_) λm' a b c d=>k m' (by lia) (by lia) c (by rcases d with d|d;exact .inl (by lia);exact .inr d)
   by_cases e:j=m
   ·subst e;by_cases e2:i=j
    ·subst e2;exact Int.le_refl _
    ·have:=u i (j-1) (by lia) (by lia);show Kk rk p i<=Kk rk p j;have:¬ Kk rk p j<Kk rk p (j-1):=hc
     lia
   ·exact u i j hij (by lia)
def Tie(rk:Nat->Int)(p:Array Nat)(m q:Nat):Prop:=q+1<=m/\∀k,m-(q+1)<=k->k<m->Kk rk p k=Kk rk p (m-1)
theorem Kd{p:Array Nat}{m q:Nat}(hm:m<=p.size)(t:Tie rk p m q)(k:Nat):Kk rk (kas_rev p (m-(q+1)) m) k=Kk rk p k:=by
 rw[Ar hm];split
 ·rename_i h;rw[t.2 _ (by lia) (by lia),t.2 k h.1 h.2]
 ·rfl
theorem Av{p p':Array Nat}{m:Nat}(e:∀k,Kk rk p' k=Kk rk p k)(d:nM rk p m):nM rk p' m:=λi j a b=>by rw[e,e];exact d i j a b
theorem k_{p:Array Nat}{m:Nat}(h1:1<=m)(d:nM rk p m)(h:Kk rk p m<=Kk rk p (m-1)):nM rk p (m+1):=λi j hij hj=>by
 by_cases e:j=m
 ·subst e;by_cases e2:i=j
  ·subst e2;exact Int.le_refl _
  ·have:=d i (j-1) (by lia) (by lia)
   lia
 ·exact d i j hij (by lia)
theorem rM{P:Array Nat×Nat×Nat->Prop}:∀(f:Nat)(p:Array Nat)(m q:Nat),Pp n p->1<=m->m+f<=n->nM rk p m->Tie rk p m q->(∀p' m' q',Pp n p'->1<=m'->m'<=n->nM rk p' m'->Tie rk p' m' q'->P (p',m',q'))->Kr n rk (kas_desc f p m q) P
 | 0,p,m,q,hp,h1,h2,d,t,k=>k p m q hp h1 (by lia) d t
 | f+1,p,m,q,hp,h1,h2,d,t,k=>by
  refine⟨hp.lt (by lia),hp.lt (by lia),hp.ne (by lia) (by lia) (by lia),?_⟩;have hs:=hp.size;by_cases hc:rk (p.getD m 0)<rk (p.getD (m-1) 0)
  ·rw[gN hc]
   try dsimp only
   rw[zS rfl];have hc:Kk rk p m<Kk rk p (m-1):=hc;have d2:nM rk p (m+1):=k_ h1 d (by lia);by_cases hq:q > 0
   ·rw[zS hq];refine rM f _ (m+1) 0 hp.rev (by lia) (by lia) (Av (Kd (by lia) t) d2) ⟨by lia,λj a b=>?_⟩ k;rw[show j=m+1-1 by lia]
   ·rw[yA hq];refine rM f _ (m+1) 0 hp (by lia) (by lia) d2 ⟨by lia,λj a b=>?_⟩ k;rw[show j=m+1-1 by lia]
  ·rw[gL hc]
   try dsimp only
   rw[yA (by decide)];have hc:¬ Kk rk p m<Kk rk p (m-1):=hc;refine⟨hp.lt (by lia),hp.lt (by lia),hp.ne (by lia) (by lia) (by lia),?_⟩;by_cases hd:rk (p.getD (m-1) 0)<rk (p.getD m 0)
   ·rw[gN hd]
    try dsimp only
    rw[zS rfl];exact k p m q hp h1 (by lia) d t
   ·rw[gL hd]
    try dsimp only
    rw[yA (by decide)];have hd:¬ Kk rk p (m-1)<Kk rk p m:=hd;have e:Kk rk p m=Kk rk p (m-1):=by lia
    refine rM f p (m+1) (q+1) hp (by lia) (by lia) (k_ h1 d (by lia)) ⟨by have:=t.1;lia,λj a b=>?_⟩ k;rw[Nat.add_sub_cancel];by_cases ej:j=m
    ·rw[ej]
    ·rw[t.2 j (by lia) (by lia),e]
theorem Ke{p:Array Nat}{m:Nat}{P:Nat×Array Nat->Prop}(hp:Pp n p)(h1:1<=m)(h2:m<=n)(d:nM rk p m)(k:∀m' p',Pp n p'->1<=m'->m'<=n->UpK rk p' m'->P (m',p')):Kr n rk (kas_tail3 m n p) P:=by
 unfold kas_tail3;refine kZ _ (Io hp.rev _ m h1 (by lia) (λi j hij hj=>?_) λm' a b u _=>k m' _ hp.rev (by lia) (by lia) u);have hs:=hp.size;rw[Ar (by lia),Ar (by lia),zS (by lia),zS (by lia)];exact d _ _ (by lia) (by lia)
theorem Kf{p:Array Nat}{m:Nat}{P:Nat×Array Nat->Prop}(hp:Pp n p)(h1:1<=m)(h2:m<n)(d:nM rk p (m+1))(k:∀m' p',Pp n p'->1<=m'->m'<=n->UpK rk p' m'->P (m',p')):Kr n rk (kas_descPart m n p) P:=by
 unfold kas_descPart;refine kZ _ (rM _ p (m+1) 0 hp (by lia) (by lia) d ⟨by lia,λj a b=>by rw[show j=m+1-1 by lia]⟩ λp' m' q' hp' a b d' t'=>?_);have hs:=hp'.size;show Kr n rk (if q' > 0 then kas_tail3 m' n (kas_rev p' (m'-(q'+1)) m') else kas_tail3 m' n p') P;split
 ·exact Ke hp'.rev a b (Av (Kd (by lia) t') d') k
 ·exact Ke hp' a b d' k
theorem Rn{p:Array Nat}{P:Nat×Array Nat->Prop}(hp:Pp n p)(hn:1<=n)(k:∀m' p',Pp n p'->1<=m'->m'<=n->UpK rk p' m'->P (m',p')):Kr n rk (kas_count n p) P:=by
 unfold kas_count;refine kZ _ (Io hp _ 1 (uA _) (by lia) (λi j a b=>by rw[show i=0 by lia,show j=0 by lia];exact Int.le_refl _) λm a b u st=>?_);have hs:=hp.size;by_cases e:m=n
 ·rw[if_pos (by simpa using e)];exact k m p hp a (by lia) u
 ·rw[if_neg (by simpa using e)];have st:Kk rk p m<Kk rk p (m-1):=by
   rcases st with st|st
   ·lia
   ·exact st
  by_cases h1:m > 1
  ·rw[zS h1];refine⟨hp.lt (by lia),hp.lt (by lia),hp.ne (by lia) (by lia) (by lia),?_⟩;by_cases hc:rk (p.getD 0 0)<rk (p.getD (m-1) 0)
   ·rw[gN hc]
    try dsimp only
    rw[zS rfl];exact k m p hp a (by lia) u
   ·rw[gL hc]
    try dsimp only
    rw[yA (by decide)];have hc:¬ Kk rk p 0<Kk rk p (m-1):=hc;have al:∀j,j<m->Kk rk p j=Kk rk p (m-1):=λj hj=>by
     have:=u 0 j (by lia) hj;have:=u j (m-1) (by lia) (by lia)
     lia
    have er:∀j,Kk rk (kas_rev p 0 m) j=Kk rk p j:=λj=>by
     rw[Ar (by lia)];split
     ·rw[al _ (by lia),al j (by lia)]
     ·rfl
    refine Kf hp.rev a (by lia) (Av er (k_ a (λi j a b=>by rw[al i (by lia),al j b];exact Int.le_refl _) (by lia))) k
  ·rw[yA h1];have e1:m=1:=by lia
   subst e1;exact Kf hp a (by lia) (k_ a (λi j a b=>by rw[show i=0 by lia,show j=0 by lia];exact Int.le_refl _) (by lia)) k
theorem uc{p:Array Nat}{k:Nat}{P:Nat->Prop}(hp:Pp n p)(hk:k<n)(u:UpK rk p k):∀(f l r:Nat),l<=r->r<=k->r-l<=f->(∀i,i<l->Kk rk p i<=Kk rk p k)->(∀i,r<=i->i<k->Kk rk p k<Kk rk p i)->(∀l',l'<=k->(∀i,i<l'->Kk rk p i<=Kk rk p k)->(∀i,l'<=i->i<k->Kk rk p k<Kk rk p i)->P l')->Kr n rk (kas_place p k f l r) P
 | 0,l,r,h1,h2,h3,a,b,kk=>kk l (by lia) a λi h h'=>b i (by lia) h'
 | f+1,l,r,h1,h2,h3,a,b,kk=>by
  unfold kas_place;by_cases hl:l ≥ r
  ·rw[zS hl];exact kk l (by lia) a λi h h'=>b i (by lia) h'
  ·rw[yA hl];refine⟨hp.lt (by lia),hp.lt (by lia),hp.ne (by lia) (by lia) (by lia),?_⟩;by_cases hc:rk (p.getD k 0)<rk (p.getD ((l+r) / 2) 0)
   ·rw[gN hc]
    try dsimp only
    rw[zS rfl];have hc:Kk rk p k<Kk rk p ((l+r) / 2):=hc;refine uc hp hk u f l ((l+r) / 2) (by lia) (by lia) (by lia) a (λi h h'=>?_) kk;have:=u ((l+r) / 2) i h h'
    lia
   ·rw[gL hc]
    try dsimp only
    rw[yA (by decide)];have hc:¬ Kk rk p k<Kk rk p ((l+r) / 2):=hc;refine uc hp hk u f ((l+r) / 2+1) r (by lia) (by lia) (by lia) (λi h=>?_) b kk;have:=u i ((l+r) / 2) (by lia) (by lia)
    lia
theorem Ro{P:Array Nat->Prop}:∀(f:Nat)(p:Array Nat)(k:Nat),Pp n p->k+f=n->UpK rk p k->(∀p',Pp n p'->UpK rk p' n->P p')->Kr n rk (kas_bin f p k) P
 | 0,p,k,hp,e,u,kk=>kk p hp (by rw[<- e];exact u)
 | f+1,p,k,hp,e,u,kk=>by
  unfold kas_bin;have hs:=hp.size;refine kZ _ (uc hp (by lia) u k 0 k (Nat.zero_le _) (uA _) (by lia) (λi h=>gE h (Nat.not_lt_zero _)) (λi h h'=>gE h' (by lia)) λl hl a b=>?_);refine Ro f _ (k+1) hp.bub (by lia) (λi j hij hj=>?_) kk;rw[Rm (by lia) (by lia),Rm (by lia) (by lia),show k-(k-l)=l by lia];by_cases e1:j=l
  ·rw[zS e1];by_cases e2:i=l
   ·rw[zS e2];exact Int.le_refl _
   ·rw[yA e2,yA (by lia)];exact a i (by lia)
  ·rw[yA e1];by_cases e2:i=l
   ·rw[zS e2,zS (by lia)];have:=b (j-1) (by lia) (by lia)
    lia
   ·rw[yA e2];by_cases e3:l<j/\j<=k
    ·rw[zS e3];by_cases e4:l<i/\i<=k
     ·rw[zS e4];exact u _ _ (by lia) (by lia)
     ·rw[yA e4];exact u _ _ (by lia) (by lia)
    ·rw[yA e3,yA (by lia)];exact u _ _ hij (by lia)
theorem Aw{P:Array Nat->Prop}(hn:1<=n)(k:∀p,Pp n p->UpK rk p n->P p):Kr n rk (kas_sort n) P:=by
 unfold kas_sort;refine kZ _ (Rn (Array.Perm.refl _) hn λm p hp a b u=>?_);show Kr n rk (if m<n then kas_bin (n-max m 1) p (max m 1) else .ret p) P;split
 ·rw[show max m 1=m by lia];exact Ro _ p m hp (by lia) u k
 ·exact k p hp (by rw[show n=m by lia];exact u)
end
end L2
namespace L2
open PySem PySem.W PySem.Calls PySem.Spec PyProof.Rows
section
variable{prog:Program}{w:World}{A:Around}{E:xB}{s:Shared}{h₀:Heap}{L:Addr}{m:xC}{news:List (Addr×Obj)}{vs:xE}
theorem Wa:(vs.toArray.zip vs.toArray).map (·.2)=vs.toArray:=by
 apply Array.toList_inj.mp
 rw[Array.toList_map,Array.toList_zip];exact List.map_snd_zip (uA _)
theorem Rp{a:Addr}{n:Nat}{P:PySem.Fin->Shared->Prop}(F:Fr h₀ L s.heap m)(N:News h₀ L s.heap news)(ho:s.heap.get? a=some (seqObj "list" vs.toArray n))(haL:a≠L)(ha0:h₀.get? a=none)(hna:∀p∈news,p.1≠a)(h2:vs.length<2)
  (k:∀h' c,Fr h₀ L h' m->News h₀ L h' ((a,seqObj "list" vs.toArray c)::news)->P (.done (.ret .none)) { s with heap:=h' }):wpAny (model prog w) A (Builtin.«list.sort» ⟨[.ref a],[]⟩) P E s:=by
 have s1:=Heap.SameBut.update s.heap a (Obj.mapSeq λ_=>(#[]:xI));obtain⟨e1,ho1⟩:∃e1,(s.heap.update a (Obj.mapSeq λ_=>(#[]:xI))).get? a=some (seqObj "list" #[] e1):=⟨_,get?_update_seq ho λ_=>#[]⟩;rw[list_sort_plain];refine zI (listItems_at ho rfl (zI (listUpdate_at ho rfl ?_ (by rw[nB,sizeLine_eq];lia) (Nat.zero_le _))));refine zI (seqEpoch_at ho1 rfl (zI (wpAny_newTuple ?_ (by show vs.length<=_;rw[sizeLine_eq];lia))));refine zI (wpAny_newList (nK ?_) (Nat.zero_le _))
 generalize eh:((s.heap.update a (Obj.mapSeq λ_=>(#[]:xI))).push (seqObj "tuple" vs.toArray 0)).push (seqObj "list" #[] 0)=hp
 have up:∀b o,(s.heap.update a (Obj.mapSeq λ_=>(#[]:xI))).get? b=some o->hp.get? b=some o:=λb o e=>by rw[<- eh];exact gX _ (gX _ e)
 have F3:Fr h₀ L hp m:=by rw[<- eh];exact((kas_fr F s1 haL ha0).push _).push _
 have N3:News h₀ L hp news:=(kas_news N s1 hna).grown up;have ho3:hp.get? a=some (seqObj "list" #[] e1):=up _ _ ho1;show wpAny (model prog w) A _ P E { s with heap:=hp }
 dsimp only;have hn2:vs.toArray.size<2:=by rw[nB];lia
 rw[zS hn2,zS hn2];refine zI (uS (zI ?_));rw[StateT.run_pure];refine uS ?_;dsimp only;show wpAny (model prog w) A (seqEpoch a >>= λe=>Builtin.List.listUpdate (.ref a) (λ_=>(vs.toArray.zip vs.toArray).map (·.2)) >>= λ_=>_) P E { s with heap:=hp }
 rw[Wa];have s2:=Heap.SameBut.update hp a (Obj.mapSeq λ_=>vs.toArray);obtain⟨c2,hc2⟩:∃c2,(hp.update a (Obj.mapSeq λ_=>vs.toArray)).get? a=some (seqObj "list" vs.toArray c2):=⟨_,get?_update_seq ho3 λ_=>vs.toArray⟩;refine zI (seqEpoch_at ho3 rfl (zI (listUpdate_at ho3 rfl ?_ (Nat.zero_le _) (by show vs.length<=_;rw[sizeLine_eq];lia))));show wpAny (model prog w) A (if (e1 != e1)=true then _ else _) P E _;simp only[bne_self_eq_false,Bool.false_eq_true,if_false];refine uS (k _ c2 (kas_fr F3 s2 haL ha0) λp hp'=>?_);rcases vS.mp hp' with rfl|hp'
 ·exact⟨hc2,haL,ha0⟩
 ·exact kas_news N3 s2 hna p hp'
inductive F2{α β:Type}(R:α->β->Prop):List α->List β->Prop
 | nil:F2 R [] []
 | cons {a b l m}:R a b->F2 R l m->F2 R (a::l) (b::m)
theorem F2.length_eq{α β:Type}{R:α->β->Prop}:∀{l:List α} {m:List β},F2 R l m->l.length=m.length
 | _,_,.nil=>rfl
 | _,_,.cons _ h=>qV (· + 1) h.length_eq
theorem ud{l:Addr}{Q:xB}(F:Fr h₀ L s.heap m)(N:News h₀ L s.heap news)(hl:s.heap.IsList l vs.toArray)(h2:vs.length<2)
  (k:∀D c h',Fr h₀ L h' m->News h₀ L h' ((D,seqObj "list" vs.toArray c)::news)->(∀q∈news,q.1<D)->Q (.ref D) { s with heap:=h' }):wpAny (model prog w) A (call (.builtin "sorted") [.ref l]) Q E s:=by
 refine Calls.call_function_entry kind_sorted plain_sorted entry_sorted (args_sorted1 _) ?_;unfold Builtin.«sorted»;refine zI (m:=checkCount "sorted" 1 1 _) (uS (zI (collect_list hl ?_ (by rw[sizeLine_eq];lia))));refine zI (wpAny_newList ?_ (by rw[sizeLine_eq];lia))
 generalize eh:((s.heap.push (seqObj "list" #[] 0)).update s.heap.objs.size (Obj.mapSeq (·++vs.toArray)))=hp
 have hsz:hp.objs.size=s.heap.objs.size+1:=by rw[<- eh,Heap.size_update,size_push']
 have keep:∀b o,s.heap.get? b=some o->(hp.push (seqObj "list" vs.toArray 0)).get? b=some o:=λb o q=>by
  have hlt:b<s.heap.objs.size:=gS q;rw[mS _ _ _ (by rw[hsz];exact qB (oS hlt)),<- eh,Heap.get?_update_ne _ _ _ _ (qB hlt),mS _ _ _ (qB hlt)];exact q
 have hoL:(hp.push (seqObj "list" vs.toArray 0)).get? hp.objs.size=some (seqObj "list" vs.toArray 0):=rV _ rfl;have up1:∀{b:Addr},b<s.heap.objs.size->b<hp.objs.size:=λh=>by rw[hsz];exact oS h
 have hL:L<hp.objs.size:=up1 F.ns.lt;show wpAny _ _ _ _ _ { s with heap:=hp.push (seqObj "list" vs.toArray 0) }
 refine zI (nK (wpAny_call_entry slot_list_sort ⟨_,hoL,rfl⟩ entry_list_sort ?body (args_list_sort _)))
 case body =>
  refine Rp (s:={ s with heap:=hp.push (seqObj "list" vs.toArray 0) }) (F.kept keep) (N.grown keep) hoL (Nat.ne_of_gt hL) (Heap.get?_none_of_le (rS F.above (mP hL))) (λp hp'=>qB (up1 (gS (N p hp').1))) h2 λh' c F' N'=>?_
  exact⟨_,rfl,uS ⟨_,rfl,k _ c h' F' N' λq hq=>up1 (gS (N q hq).1)⟩⟩
end
theorem DP{α β:Type}{R:α->β->Prop}:∀{l:List α} {m:List β},l.length=m.length->(∀(i:Nat) a b,l[i]?=some a->m[i]?=some b->R a b)->F2 R l m
 | [],[],_,_=>.nil
 | [],_::_,h,_=>nomatch h
 | _::_,[],h,_=>nomatch h
 | a::l,b::m,h,f=>.cons (f 0 a b rfl rfl) (DP (Nat.succ.inj h) λi x y e1 e2=>f (i+1) x y (by simpa using e1) (by simpa using e2))
end L2
namespace L2
open PySem PySem.Spec PyProof.Rows PySem.SeqAt
end L2
namespace L2
open PySem PySem.W PySem.Spec PyProof.Rows
section
variable{CX:CXT}{P:Program}{w:World}{K:W.Frag}{mg:xC}{base:Heap}{k:Nat}{x:Str}{ps:List Str}{sp:Sp}{ds:xE}
def Kg(K:W.Frag)(mg:xC)(x:Str)(st:Stmt)(ds:xE):Prop :=
 ∃(f d:Addr) (oc:Value) (od:xL) (kV doc pm:Value) (an:xL) (cdv ct:Value) (osl:Array (Option Value)) (o:Obj) (n:Nat),
  K.lookup f=some ⟨oc,od,.func (W.fnOf x x (bF st) (bf st) (au st) (.ref d) kV doc pm an cdv ct),osl⟩/\W.codeIn K cdv x=true/\W.keepIn K (.ref f)=true/\mg x=some (.ref f)/\K.lookup d=some o/\o.data=.seq ds.toArray n
structure Rq(P:Program)(w:World)(K:W.Frag)(mg:xC)(base:Heap)(CX:CXT)(k:Nat)(x:Str)(ps:List Str)(sp:Sp)(ds:xE):Prop where
 ex:∃(f:Addr)(fd:FuncData),gM P w K mg base CX k f fd ps sp/\mg x=some (.ref f)/\W.keepIn K (.ref f)=true/\Binds K fd ps []/\Binds K fd ps ds
theorem Rq.all(D:Rq P w K mg base CX k x ps sp ds):Def P w K mg base CX k x ps sp :=
 let ⟨f,fd,F,a,b,c,_⟩:=D.ex
 ⟨f,fd,F,a,b,c⟩
end
section
variable{X:Cx}{CX:CXT}{k m:Nat}{x:Str}{ps:List Str}{sp:Sp}{ds:xE}{dvs:List V}{e:Expr}{es:List Expr}{t:TA}{E:XK}{p pos:Pos}
theorem rN(D:Rq X.prog X.w X.K X.mg X.base CX k x ps sp ds)(hr:Room m X.A)(hv:Vals dvs ds)(ha:PA X (e::es) t)(hk:k<=m:=by decide)(hx:Passes CX X E:=by exact qp)(hg:Gl X x:=by rfl)
  (hdb:(x==("__debug__" : Str))=false:=by decide) (he:starEach (e::es) X.env=(false,eval e X.env)::starEach es X.env:=by rfl) (hpl:(backTo pos (starEach es X.env)).any (·.1)=false:=by rfl) :
  PE X (.Call (.Name x p) (e::es) [] pos) (mX sp dvs E t):=by
 obtain⟨f,fd,F,hm,kp,_,b⟩:=D.ex;exact JG F (hr.mono hk) hg hm kp b hv hx ha hdb he hpl
end
def abZ(c:Nat):List (List Nat)->List Nat
 | []=>[]
 | [p]=>p
 | p::q::r=>p++c::abZ c (q::r)
def Ip(c:Nat):List Nat->List (List Nat)
 | []=>[[]]
 | x::r=>if x=c then []::Ip c r else match Ip c r with
  | []=>[[x]]
  | p::ps=>(x::p)::ps
end L2
namespace L2
open PySem PySem.Spec PyProof.Rows PySem.SeqAt
class agP(c:Nat)(cs:List Nat)(vs:outParam (List V)):Prop where
 e:(Ip c cs).map (λd=>V.str (tx d))=vs
class agQ(xs:List V)(lo hi:Option Int)(ys:outParam (List V)):Prop where
 e:m5 xs lo hi=ys
class TxL(xs:List V)(ps:outParam (List (List Nat))):Prop where
 e:xs=ps.map λd=>V.str (tx d)
section
variable{r:List V}{v v0 v1 v2 v3 v4:V}
instance at4:AtI (v0::v1::v2::v3::v::r) 4 v:=⟨fW (j:=4) rfl⟩
instance at5:AtI (v0::v1::v2::v3::v4::v::r) 5 v:=⟨fW (j:=5) rfl⟩
end
end L2
namespace L2
open PySem PySem.W PySem.Calls PySem.Spec PyProof.Rows
def DQ(news:List (Addr×Obj))(v:Value)(c:Int):Prop:=∃(a:Addr)(o:Obj)(xs:xI)(n:Nat)(t:Tok)(r:xE),v=.ref a/\(a,o)∈news/\o.cls=.type "tuple" /\ o.data=.seq xs n/\xs.toList=.int c t::r
theorem Kh{news:List (Addr×Obj)}{h:Heap}(hh:∀p∈news,h.get? p.1=some p.2):∀{vs:xE} {ks:List Int},F2 (DQ news) vs ks->∃fs:List Value,KatTups h vs fs/\fs.length=vs.length/\∀v∈fs,∃z t,v=.int z t
 | [],[],_=>⟨[],trivial,rfl,λv hv=>nomatch hv⟩
 | v::vs,c::ks,.cons hv ht=>by
  obtain⟨a,o,xs,n,t,r,rfl,hm,hc,hd,hx⟩:=hv;obtain⟨fs,k,hl,hs⟩:=Kh hh ht;have e0:xs[0]?=some (.int c t):=by
   rw[<- Array.getElem?_toList,hx]
   rfl
  refine⟨.int c t::fs,KatTups.cons (hh _ hm) hc hd e0 k,by simp[hl],λv hv=>?_⟩;rcases vS.mp hv with rfl|hv
  ·exact⟨c,t,rfl⟩
  ·exact hs v hv
theorem Rr{news:List (Addr×Obj)}:∀{vs:xE} {ks:List Int},F2 (DQ news) vs ks->∀{i:Nat},i<vs.length->DQ news (vs.getD i .none) (ks.getD i 0)
 | _::_,_::_,.cons hv _,0,_=>hv
 | _::vs,_::ks,.cons _ ht,i+1,h=>by
  have:=Rr ht (i:=i) (by simpa using h);simpa using this
theorem Ir{p:List Nat}{n:Nat}(pp:p.Perm (List.range n))(up:p.Pairwise (· < ·)):p=List.range n:=by
 have key:∀{a b:List Nat},a.Perm b->a.Pairwise (· < ·)->b.Pairwise (· < ·)->a=b:=λh ha hb=>h.eq_of_pairwise (λx y _ _ h1 h2=>gE h1 (Nat.lt_asymm h2)) ha hb
 exact key pp up List.pairwise_lt_range
section
variable{prog:Program}{w:World}{A:Around}{E:xB}{s:Shared}{h₀:Heap}{L:Addr}{m:xC}{news:List (Addr×Obj)}{vs:xE}
theorem DR{l:Addr}{ks:List Int}{Q:xB}(F:Fr h₀ L s.heap m)(N:News h₀ L s.heap news)(hl:s.heap.IsList l vs.toArray)(h64:vs.length<64)(tp:F2 (DQ news) vs ks)(up:ks.Pairwise (· < ·))
  (k:∀D c h',Fr h₀ L h' m->News h₀ L h' ((D,seqObj "list" vs.toArray c)::news)->(∀q∈news,q.1<D)->Q (.ref D) { s with heap:=h' }) :
  wpAny (model prog w) A (call (.builtin "sorted") [.ref l]) Q E s:=by
 by_cases h2:vs.length<2
 ·exact ud F N hl h2 k
 have h2:2<=vs.length:=by lia
 have hlen:ks.length=vs.length:=tp.length_eq.symm;have kd:∀q,q<ks.length->ks.getD q 0=ks.getD q 0:=λ_ _=>rfl
 have Rt:∀{i j:Nat},i<j->j<vs.length->ks.getD i 0<ks.getD j 0:=λ{i j} hij hj=>by
  have g:∀q (hq:q<ks.length),ks.getD q 0=ks[q]:=λq hq=>by rw[rX,jS hq];rfl
  rw[g i (by lia),g j (by lia)];exact List.pairwise_iff_getElem.mp up i j (by lia) (by lia) hij
 refine kat_sorted F N hl h2 h64 λD e1 h' F' N' lt=>?_
 have hh:∀p∈news,h'.get? p.1=some p.2:=λp hp=>(N' p (zD _ hp)).1
 obtain⟨fs,kt,fl,Rv⟩:=Kh hh tp;refine kat_kind (s:={ s with heap:=h' }) (T:=.type "int") kt (by lia) (λv hv=>?_) rfl ?_
 ·obtain⟨z,t,rfl⟩:=Rv v hv;exact Looks.of_pure rfl
 ·refine Kc (n:=vs.length) (rk:=λi=>ks.getD i 0) (P:=λp=>Pp vs.length p/\UpK (λi=>ks.getD i 0) p vs.length) (λi j C hi hj hij hC=>?_) (λp hp=>?_) _ (Aw (by lia) λp a b=>⟨a,b⟩)
  ·unfold kas_ask;obtain⟨a,o,xs,n,t,r,ev,hm,hc,hd,hx⟩:=Rr tp hi;obtain⟨a',o',xs',n',t',r',ev',hm',hc',hd',hx'⟩:=Rr tp hj;rw[ev,ev'];refine kat_lt (s:={ s with heap:=h' }) (hh _ hm) hd (hh _ hm') hd' ?_
   rw[hx,hx'];refine kat_cons (wpAny_eqBool_int ?_);have hne:(ks.getD i 0==ks.getD j 0)=false:=by
    rw[beq_eq_false_iff_ne];intro e;rcases Nat.lt_or_gt_of_ne hij with q|q
    ·have:=Rt q hj
     lia
    ·have:=Rt q hi
     lia
   rw[hne];exact kat_no (oneLt_int hC)
  ·have hs:=hp.1.size;have g:∀q (hq:q<p.toList.length),p.toList[q]=p.getD q 0:=λq hq=>by
    rw[Array.getD_eq_getD_getElem?,Array.getElem?_eq_getElem (by simpa using hq)]
    rfl
   have pw:p.toList.Pairwise (· < ·):=by
    rw[List.pairwise_iff_getElem];intro i j hi hj hij;have hi':i<vs.length:=by simpa[hs] using hi
    have hj':j<vs.length:=by simpa[hs] using hj
    have u:ks.getD (p.getD i 0) 0<=ks.getD (p.getD j 0) 0:=hp.2 i j (by lia) hj';rw[g i hi,g j hj];have li:=hp.1.lt hi';have lj:=hp.1.lt hj';rcases Nat.lt_trichotomy (p.getD i 0) (p.getD j 0) with z|z|z
    ·exact z
    ·have nd:p.toList.Nodup:=(Array.perm_iff_toList_perm.mp hp.1).nodup_iff.mpr (by simpa using List.nodup_range);rw[<- g i hi,<- g j hj] at z;have:=(List.getElem_inj nd).mp z
     lia
    ·have:=Rt z li
     lia
   have er:p.toList=List.range vs.length:=Ir (by simpa using Array.perm_iff_toList_perm.mp hp.1) pw;refine KasFin.intro (s:={ s with heap:=h' }) F' N' (UpdF.head λq hq=>qB (lt q hq)) λh2 c F2 N2=>?_
   have eo:p.toList.map (λi=>vs.getD i Value.none)=vs:=by
    rw[er]
    apply List.ext_getElem?
    intro i;rw[wS];by_cases hi:i<vs.length
    ·rw[List.getElem?_range hi,Option.map_some,rX,jS hi]
     rfl
    ·rw[List.getElem?_eq_none (show vs.length<=i by lia),List.getElem?_eq_none (by simp;lia)]
     rfl
   rw[eo] at N2;exact k D c h2 F2 N2 lt
end
def Rx(K:W.Frag):List V->Hp->VK->Prop:=λvs H Q=>∃(l:Addr)(xs:List V)(ws:xD),vs=[.ref l]/\SqL K H l xs/\xs.length<64/\aB H xs (aF ws)/\ws.Pairwise (λa b=>a.1<b.1)/\∀D H',New H H' D (.lst xs)->Q (.ref D) H'
theorem Iu{X:Cx}:g_ X (.builtin "sorted") (Rx X.K):=by
 intro pins s σ H vs us Q I rv h;obtain⟨l,xs,ws,rfl,hq,h64,tp,up,q⟩:=h;obtain⟨u,rfl,r⟩:=vals1 rv;cases r;obtain⟨its,rv,p,hz⟩:=I.list hq;obtain⟨m,hm,_⟩:=id I.loc;have hlen:its.length=xs.length:=rv.length.symm;have hw:xs.length=ws.length:=by rw[tp.1,aG]
 have nL:∀{b:Addr} {u:HO},H b=some u->b≠X.env.locals:=λ{b u} e z=>by rw[z,I.free] at e;cases e
 have refs:∀v∈xs,∃q,v=V.ref q:=λv hv=>by
  obtain⟨i,hi,e⟩:=List.getElem_of_mem hv;obtain⟨r,q,_,e2,_⟩:=dD tp (i:=i) (v:=v) (by rw[<- e];simp);exact⟨q,e2⟩
 obtain⟨xb,ub⟩:=iQ rv refs;have F0:Fr { objs:=#[] } X.env.locals s.heap m:=⟨hm,λb o e=>by
  have e:Heap.get? { objs:=#[] } b=some o:=e;simp[Heap.get?] at e,Nat.zero_le _⟩
 have N0:News { objs:=#[] } X.env.locals s.heap (gk s.heap X.env.locals):=λp hp=>⟨(eU hp).1,(eU hp).2,rfl⟩
 have f2:F2 (DQ (gk s.heap X.env.locals)) its (ws.map λw=>(w.1:Int)):=DP (by rw[wE];lia) λi v c hv hc=>by
  have hx:xs[i]?=some (dO v):=by rw[xb,wS,hv];rfl
  obtain⟨r,q,e1,e2,e3⟩:=dD tp hx;obtain⟨q',rfl⟩:=ub v (yT hv);cases e2;unfold aF at e1;rw[wS] at e1 hc;cases e0:ws[i]? with
  | none=>rw[e0] at e1;cases e1
  | some w0 =>
   rw[e0] at e1 hc;cases e1;cases hc;obtain⟨_,its2,rv2,ob,et,ec,n2,ed⟩:=I.hok _ _ e3;rcases rv2 with _|⟨⟨tk,rfl⟩,rt⟩;exact⟨_,ob,_,n2,tk,_,rfl,cF et (nL e3),ec,ed,rfl⟩
 refine DR F0 N0 p.isList (by lia) f2 (List.pairwise_map.mpr (up.imp λh=>by lia)) λD c h' F N hD=>?_
 have hn:s.heap.get? D=none:=by
  cases e:s.heap.get? D with
  | none=>rfl
  | some o =>
   have:=hD (D,o) (cF e (N (D,seqObj "list" its.toArray c) zC).2.1);exact gE this (qE _)
 refine⟨.ref D,upd H D (.lst xs),I.Ka (t':=s.toks) (λb u n e=>(N (b,u) (zD _ (cF e n))).1) hm F.ns hn ?_,rfl,q D _ (New.mk' ?_)⟩
 ·exact⟨hz,its,c,rv,(N (D,seqObj "list" its.toArray c) zC).1⟩
 ·cases e:H D with
  | none=>rfl
  | some u =>
   obtain⟨ob,e2⟩:=(I.hok D u e).is;rw[hn] at e2;cases e2
instance ab3{K:W.Frag}{H:Hp}{Q:VK}{l:Addr}{xs:List V}{ws:xD}[h:SqA K H l xs][t:TpA H xs (aF ws)]:Go (Rx K [.ref l] H Q) (Sd (xs.length<64/\ws.Pairwise (λa b=>a.1<b.1)) (∀D H',New H H' D (.lst xs)->Q (.ref D) H')):=⟨λs=>⟨l,xs,ws,rfl,h.e,s.1.1,t.e,s.1.2,s.2⟩⟩
end L2
namespace L2
open PySem PySem.Spec PyProof.Rows PySem.SeqAt
theorem qz{CX:CXT}{P:Program}{w:World}{K:W.Frag}{mg:xC}{base:Heap}{N:List Str}{qual:Str}{scope:Scope}{f:Addr}{cd:Value}{A:Around}{outer:List Env}{s:Shared}{H:Hp}{E:XK}:(fu CX P w K mg base N qual scope f cd A outer s H E).s₀=s:=rfl
def tEX(th:THd)(D:Ends):St->XK:=λσ cv dx H=>∃C,cv=.ref C/\∀a,H a=none->th D C a dx σ (upd H a (nA a C dx))
class ExA(H:Hp)(a:Addr)(C:outParam Addr)(fs:outParam (List (Str×V))):Prop where
 e:iG H a C fs
class ExM(K:W.Frag)(C d:Addr)(b:outParam Bool):Prop where
 e:W.exmOne K (.ref C) (.ref d)=some b
def Ax(n:Nat)(C:Addr)(H0:Hp)(E:XK)(f:Str)(vs:List V)(H1:Hp):Prop:=∃v,vs=[v]/\∀z H',n<=z->H1 z=none->Same H1 H'->ExcAt H' z C [(f,v)]->∃a dx,V.ref z=.ref a/\n<=a/\H0 a=none/\H' a=some (jB a C dx)/\E (.ref C) dx (del H' a)
section
variable{K:W.Frag}{H H0:Hp}{M:List Addr}{L:List (Addr×HO)}{I:List Im}{Q:VK}{σ:St}{D:Ends}{th rest:THd}{tbE:(St->XK)->TS}{t:TA}{ta:TE}{sp:Sp}{EX:St->XK}{E:XK}{C d a:Addr}{dx:xL}{fs:List (Str×V)}{f g:Str}{v:V}{n:Nat}{ts:Addr->TS}
instance adz:Go (abr (λ_ EX=>tbE EX) th D σ H) (tbE (tEX th D) D σ H):=⟨λh _=>h⟩
instance aaI[F:SH H0 M H L I]:Go (∀dx H',Same H H'->H' dx=some (dJ dx fs)->tEX th D σ (.ref C) (some dx) H') (∀(H':Hp)(a dx:Addr),SH H0 M H' L I->iG H' a C fs->th D C a (some dx) σ H'):=⟨λk dx H' s e=>⟨C,rfl,λa ha=>k _ a dx ((F.same s).same (Same.new ha)) (iG.mk e ha)⟩⟩
instance aaJ:Go (QD EX sp t σ H Q) (t σ H λvs H1=>sp vs H1 Q (EX σ)):=⟨id⟩
instance Zt:Go (QB C H0 n E (Xy n C f t) D σ H) (t σ H λvs H1=>Ax n C H0 E f vs H1):=⟨λh=>h⟩
instance ae6[F:SH H0 [] H L I]:Go (Ax n C H0 E f [v] H) (∀dx H2,Same H H2->H2 dx=some (dJ dx [(f,v)])->E (.ref C) (some dx) H2):=⟨λk=>⟨v,rfl,λz H' hn hz s e=>Dn (by simp) hn hz (F.sm.free hz) s e k⟩⟩
instance adA:Go (Xz C ta f σ H Q) (ta σ H λx H1=>∃a fs v,x=.ref a/\iG H1 a C fs/\fs.lookup f=some v/\Q v H1):=⟨id⟩
instance adB[h:ExA H a C fs][e:FLk fs f v]{R:V->Prop}:Go (∃a' fs' v',V.ref a=.ref a'/\iG H a' C fs'/\fs'.lookup f=some v'/\R v') (R v):=⟨λk=>⟨a,fs,v,rfl,h.e,e.e,k⟩⟩
instance agR{r:List (Str×V)}:FLk ((f,v)::r) f v:=⟨by simp[List.lookup]⟩
class NeS(f g:Str):Prop where
 e:f≠g
instance ae7{i:Nat}[e:ExM K C d false]:Go (hAs K d i ts rest D C a dx σ H) (rest D C a dx σ H):=⟨λh=>⟨false,e.e,by rw[yA (by decide)];exact h⟩⟩
instance adC{i:Nat}:Go (Ends.rt (Ends.forget D i) v H) (Ends.rt D v H):=⟨λh=>h⟩
instance adD{o0 o1 o2 o:Option V}{r:St}[e:ExM K C d true]:Go (hAs K d 3 ts rest D C a dx (o0::o1::o2::o::r) H) (ts a (D.forget 3) (o0::o1::o2::some (.ref a)::r) H):=⟨λh=>Nj e.e h⟩
end
end L2
namespace L2
open PySem PySem.W PySem.Spec PyProof.Rows
theorem len2{α:Type}:∀{l:List α},l.length=2->∃a b,l=[a,b]
 | [a,b],_=>⟨a,b,rfl⟩
def XR(K:W.Frag)(nm qual:Str)(st:Stmt)(ds:xE)(f:Addr):Prop :=
 ∃(d:Addr) (oc:Value) (od:xL) (kV doc pm:Value) (an:xL) (cdv ct:Value) (osl:Array (Option Value)) (o:Obj) (n:Nat),
  K.lookup f=some ⟨oc,od,.func (W.fnOf nm qual (bF st) (bf st) (au st) (.ref d) kV doc pm an cdv ct),osl⟩/\W.codeIn K cdv qual=true/\K.lookup d=some o/\o.data=.seq ds.toArray n
def w6(us ws:xE):List Value:=if ws.length=2 then us++[ws.getD 1 .none,ws.getD 0 .none] else []
def Ry(vs zs:List V):List V:=if zs.length=2 then vs++[zs.getD 1 .non,zs.getD 0 .non] else []
structure Zu(P:Program)(w:World)(K:W.Frag)(mg:xC)(base:Heap)(CX:CXT)(k:Nat)(x:Str)(C:Addr)(ps:List Str)(sp:Sp)(ds:xE)(ks:List Str):Prop where
 ex:∃(f:Addr)(fd:FuncData),gM P w K mg base CX k f fd ps sp/\Mk K C f/\mg x=some (.ref C)/\Binds K fd ps []/\Binds K fd ps ds/\Yx K fd ps ks w6 Ry
section
variable{X:Cx}{CX:CXT}{k m:Nat}{x:Str}{ps ks:List Str}{sp:Sp}{E:XK}{p pos:Pos}{e:Expr}{es:List Expr}{t:TA}{C:Addr}{dv:Value}
theorem Wb(D:Zu X.prog X.w X.K X.mg X.base CX k x C ps sp [dv] ks)(hr:Room m X.A)(ha:PA X (e::es) t)(hk:k+1<=m:=by decide)(hx:Passes CX X E:=by exact qp)(hg:Gl X x:=by rfl)
  (hdb:(x==("__debug__" : Str))=false:=by decide) (h1:starEach (e::es) X.env=(false,eval e X.env)::starEach es X.env:=by rfl) (h2:(backTo pos (starEach es X.env)).any (·.1)=false:=by rfl) :
  PE X (.Call (.Name x p) (e::es) [] pos) (Ak C sp E t):=by
 obtain⟨f,fd,F,M,g,b,_,_⟩:=D.ex;exact iy ⟨f,fd,F,M,g,b⟩ hr ha hk hx hg hdb h1 h2
end
end L2
namespace L2
open PySem PySem.Spec PyProof.Rows
def agS(d:Int)(ns:List Int):Int:=ns.foldl min d
end L2
namespace L2
open PySem PySem.W PySem.Calls PySem.Spec PyProof.Rows
def qC(news:List (Addr×Obj))(v:Value)(w:Nat×Nat):Prop:=∃(a:Addr)(o:Obj)(xs:xI)(n:Nat)(t u:Tok),v=.ref a/\(a,o)∈news/\o.cls=.type "tuple" /\ o.data=.seq xs n/\xs.toList=[.int (w.1:Nat) t,.int (w.2:Nat) u]
theorem Ay{news:List (Addr×Obj)}{h:Heap}(hh:∀p∈news,h.get? p.1=some p.2):∀{vs:xE} {ks:xD},F2 (qC news) vs ks->∃fs:List Value,KatTups h vs fs/\fs.length=vs.length/\∀v∈fs,∃z t,v=.int z t
 | [],[],_=>⟨[],trivial,rfl,λv hv=>nomatch hv⟩
 | v::vs,c::ks,.cons hv ht=>by
  obtain⟨a,o,xs,n,t,u,rfl,hm,hc,hd,hx⟩:=hv;obtain⟨fs,k,hl,hs⟩:=Ay hh ht;have e0:xs[0]?=some (.int (c.1:Nat) t):=by
   rw[<- Array.getElem?_toList,hx]
   rfl
  refine⟨.int (c.1:Nat) t::fs,KatTups.cons (hh _ hm) hc hd e0 k,by simp[hl],λv hv=>?_⟩;rcases vS.mp hv with rfl|hv
  ·exact⟨_,t,rfl⟩
  ·exact hs v hv
theorem DW{news:List (Addr×Obj)}:∀{vs:xE} {ks:xD},F2 (qC news) vs ks->∀{i:Nat},i<vs.length->qC news (vs.getD i .none) (ks.getD i (0,0))
 | _::_,_::_,.cons hv _,0,_=>hv
 | _::vs,_::ks,.cons _ ht,i+1,h=>by
  have:=DW ht (i:=i) (by simpa using h);simpa using this
def rkP(w:Nat×Nat):Int:=(w.1:Int)*1000000+(w.2:Int)
theorem Rz{a b:Nat×Nat}(ha:a.2<1000000)(hb:b.2<1000000):rkP a<rkP b ↔ a.1<b.1\/(a.1=b.1/\a.2<b.2):=by
 unfold rkP
 constructor
 ·intro h;by_cases h1:a.1<b.1
  ·exact .inl h1
  ·right
   lia
 ·rintro (h|⟨h,h2⟩) <;> lia
theorem Kl{a b:Nat×Nat}(ha:a.2<1000000)(hb:b.2<1000000)(h:rkP a=rkP b):a=b:=by
 unfold rkP at h;have h1:a.1=b.1:=by lia
 exact Prod.ext h1 (by lia)
theorem getD_mem{α:Type}{l:List α}{i:Nat}{d:α}(h:i<l.length):l.getD i d∈l:=by
 rw[rX,jS h];exact List.getElem_mem h
theorem getD_get{α:Type}{l:List α}{i:Nat}{d:α}(h:i<l.length):l.getD i d=l[i]:=by
 rw[rX,jS h]
 rfl
theorem dj{α:Type}{l:List α}{d:α}:(List.range l.length).map (λi=>l.getD i d)=l:=by
 apply List.ext_getElem?
 intro i;rw[wS];by_cases hi:i<l.length
 ·rw[List.getElem?_range hi,Option.map_some,rX,jS hi]
  rfl
 ·rw[List.getElem?_eq_none (show l.length<=i by lia),List.getElem?_eq_none (by simp;lia)]
  rfl
section
variable{prog:Program}{w:World}{A:Around}{E:xB}{s:Shared}{h₀:Heap}{L:Addr}{m:xC}{news:List (Addr×Obj)}{vs:xE}
theorem Az{l:Addr}{ks:xD}{Q:xB}(F:Fr h₀ L s.heap m)(N:News h₀ L s.heap news)(hl:s.heap.IsList l vs.toArray)(h64:vs.length<64)(tp:F2 (qC news) vs ks)(nd:ks.Nodup)(sm:∀w∈ks,w.2<1000000)
  (k:∀D (p:List Nat) c h',Fr h₀ L h' m->News h₀ L h' ((D,seqObj "list" (p.map (λi=>vs.getD i Value.none)).toArray c)::news)->(∀q∈news,q.1<D)->p.Perm (List.range vs.length)->(p.Pairwise λi j=>rkP (ks.getD i (0,0))<rkP (ks.getD j (0,0)))->Q (.ref D) { s with heap:=h' }) :
  wpAny (model prog w) A (call (.builtin "sorted") [.ref l]) Q E s:=by
 have hlen:ks.length=vs.length:=tp.length_eq.symm;by_cases h2:vs.length<2
 ·refine ud F N hl h2 λD c h' F' N' lt=>k D (List.range vs.length) c h' F' (by rw[dj];exact N') lt (List.Perm.refl _) ?_
  rw[List.pairwise_iff_getElem];intro i j hi hj hij;rw[List.length_range] at hi hj
  lia
 have h2:2<=vs.length:=by lia
 refine kat_sorted F N hl h2 h64 λD e1 h' F' N' lt=>?_
 have hh:∀p∈news,h'.get? p.1=some p.2:=λp hp=>(N' p (zD _ hp)).1
 obtain⟨fs,kt,fl,Rv⟩:=Ay hh tp;refine kat_kind (s:={ s with heap:=h' }) (T:=.type "int") kt (by lia) (λv hv=>?_) rfl ?_
 ·obtain⟨z,t,rfl⟩:=Rv v hv;exact Looks.of_pure rfl
 ·refine Kc (n:=vs.length) (rk:=λi=>rkP (ks.getD i (0,0))) (P:=λp=>Pp vs.length p/\UpK (λi=>rkP (ks.getD i (0,0))) p vs.length) (λi j C hi hj hij hC=>?_) (λp hp=>?_) _ (Aw (by lia) λp a b=>⟨a,b⟩)
  ·unfold kas_ask;obtain⟨a,o,xs,n,t,u,ev,hm,hc,hd,hx⟩:=DW tp hi;obtain⟨a',o',xs',n',t',u',ev',hm',hc',hd',hx'⟩:=DW tp hj;have mi:ks.getD i (0,0)∈ks:=getD_mem (by lia);have mj:ks.getD j (0,0)∈ks:=getD_mem (by lia);have ne:ks.getD i (0,0)≠ks.getD j (0,0):=λz=>by
    rw[getD_get (show i<ks.length by lia),getD_get (show j<ks.length by lia)] at z;exact hij ((List.getElem_inj nd).mp z)
   have hr:=Rz (sm _ mi) (sm _ mj);rw[ev,ev'];refine kat_lt (s:={ s with heap:=h' }) (hh _ hm) hd (hh _ hm') hd' ?_
   rw[hx,hx'];refine kat_cons (wpAny_eqBool_int ?_);by_cases e1:(ks.getD i (0,0)).1=(ks.getD j (0,0)).1
   ·have e2:(ks.getD i (0,0)).2≠(ks.getD j (0,0)).2:=λz=>ne (Prod.ext e1 z)
    rw[show ((((ks.getD i (0,0)).1:Nat):Int)==(((ks.getD j (0,0)).1:Nat):Int))=true by rw[e1];simp];refine kat_yes (kat_cons (wpAny_eqBool_int ?_));rw[show ((((ks.getD i (0,0)).2:Nat):Int)==(((ks.getD j (0,0)).2:Nat):Int))=false by rw[beq_eq_false_iff_ne];lia];refine kat_no (kat_one _ _ (lt_int ?_));show C _ _;rw[show decide ((((ks.getD i (0,0)).2:Nat):Int)<(((ks.getD j (0,0)).2:Nat):Int))=decide (rkP (ks.getD i (0,0))<rkP (ks.getD j (0,0))) from decide_eq_decide.mpr (by rw[hr];lia)];exact hC
   ·rw[show ((((ks.getD i (0,0)).1:Nat):Int)==(((ks.getD j (0,0)).1:Nat):Int))=false by rw[beq_eq_false_iff_ne];lia];refine kat_no (oneLt_int ?_);rw[show decide ((((ks.getD i (0,0)).1:Nat):Int)<(((ks.getD j (0,0)).1:Nat):Int))=decide (rkP (ks.getD i (0,0))<rkP (ks.getD j (0,0))) from decide_eq_decide.mpr (by rw[hr];lia)];exact hC
  ·refine KasFin.intro (s:={ s with heap:=h' }) F' N' (UpdF.head λq hq=>qB (lt q hq)) λh2 c F2 N2=>?_
   have pp:p.toList.Perm (List.range vs.length):=by simpa using Array.perm_iff_toList_perm.mp hp.1
   refine k D p.toList c h2 F2 N2 lt pp ?_;have hs:=hp.1.size;have g:∀q (hq:q<p.toList.length),p.toList[q]=p.getD q 0:=λq hq=>by
    rw[Array.getD_eq_getD_getElem?,Array.getElem?_eq_getElem (by simpa using hq)]
    rfl
   rw[List.pairwise_iff_getElem];intro i j hi hj hij;have hi':i<vs.length:=by simpa[hs] using hi
   have hj':j<vs.length:=by simpa[hs] using hj
   have u:rkP (ks.getD (p.getD i 0) (0,0))<=rkP (ks.getD (p.getD j 0) (0,0)):=hp.2 i j (by lia) hj';have li:=hp.1.lt hi';have lj:=hp.1.lt hj';have ndp:p.toList.Nodup:=pp.nodup_iff.mpr List.nodup_range;rw[g i hi,g j hj];have ne:ks.getD (p.getD i 0) (0,0)≠ks.getD (p.getD j 0) (0,0):=λz=>by
    rw[getD_get (show p.getD i 0<ks.length by lia),getD_get (show p.getD j 0<ks.length by lia)] at z;have z:=(List.getElem_inj nd).mp z;rw[<- g i hi,<- g j hj] at z;have:=(List.getElem_inj ndp).mp z
    lia
   have ne2:rkP (ks.getD (p.getD i 0) (0,0))≠rkP (ks.getD (p.getD j 0) (0,0)):=λz=>ne (Kl (sm _ (getD_mem (by lia))) (sm _ (getD_mem (by lia))) z)
   lia
end
def RB(ws:xD):Prop:=ws.Pairwise λa b=>rkP a<rkP b
def RD(K:W.Frag):List V->Hp->VK->Prop:=λvs H Q=>∃(l:Addr)(xs:List V)(ws:xD),vs=[.ref l]/\SqL K H l xs/\aB H xs (aF ws)/\(ws.length<64/\ws.Nodup/\∀w∈ws,w.2<1000000)/\∀qs:List (Nat×Nat),qs.Perm ws/\RB qs->∀D zs H',New H H' D (.lst zs)->aB H' zs (aF qs)->Q (.ref D) H'
theorem Iv{X:Cx}:g_ X (.builtin "sorted") (RD X.K):=by
 intro pins s σ H vs us Q I rv h;obtain⟨l,xs,ws,rfl,hq,tp,⟨h64,nd,sm⟩,q⟩:=h;obtain⟨u,rfl,r⟩:=vals1 rv;cases r;obtain⟨its,rv,p,hz⟩:=I.list hq;obtain⟨m,hm,_⟩:=id I.loc;have hlen:its.length=xs.length:=rv.length.symm;have hw:xs.length=ws.length:=by rw[tp.1,aG]
 have nL:∀{b:Addr} {u:HO},H b=some u->b≠X.env.locals:=λ{b u} e z=>by rw[z,I.free] at e;cases e
 have refs:∀v∈xs,∃q,v=V.ref q:=λv hv=>by
  obtain⟨i,hi,e⟩:=List.getElem_of_mem hv;obtain⟨r,q,_,e2,_⟩:=dD tp (i:=i) (v:=v) (by rw[<- e];simp);exact⟨q,e2⟩
 obtain⟨xb,ub⟩:=iQ rv refs;have F0:Fr { objs:=#[] } X.env.locals s.heap m:=⟨hm,λb o e=>by
  have e:Heap.get? { objs:=#[] } b=some o:=e;simp[Heap.get?] at e,Nat.zero_le _⟩
 have N0:News { objs:=#[] } X.env.locals s.heap (gk s.heap X.env.locals):=λp hp=>⟨(eU hp).1,(eU hp).2,rfl⟩
 have f2:F2 (qC (gk s.heap X.env.locals)) its ws:=DP (by lia) λi v c hv hc=>by
  have hx:xs[i]?=some (dO v):=by rw[xb,wS,hv];rfl
  obtain⟨r,q,e1,e2,e3⟩:=dD tp hx;obtain⟨q',rfl⟩:=ub v (yT hv);cases e2;unfold aF at e1;rw[wS,hc] at e1;cases e1;obtain⟨_,its2,rv2,ob,et,ec,n2,ed⟩:=I.hok _ _ e3;rcases rv2 with _|⟨⟨tk,rfl⟩,_|⟨⟨tk2,rfl⟩,_|_⟩⟩;exact⟨_,ob,_,n2,tk,tk2,rfl,cF et (nL e3),ec,ed,rfl⟩
 refine Az F0 N0 p.isList (by lia) f2 nd sm λD ps c h' F N hD pp up=>?_
 have hn:s.heap.get? D=none:=by
  cases e:s.heap.get? D with
  | none=>rfl
  | some o =>
   have:=hD (D,o) (cF e (N (D,seqObj "list" _ c) zC).2.1);exact gE this (qE _)
 have hn2:H D=none:=by
  cases e:H D with
  | none=>rfl
  | some u =>
   obtain⟨ob,e2⟩:=(I.hok D u e).is;rw[hn] at e2;cases e2
 have plt:∀i∈ps,i<its.length:=λi hi=>by simpa using pp.mem_iff.mp hi
 have hin:∀u∈ps.map (λi=>its.getD i Value.none),∃q,u=Value.ref q:=λu hu=>by
  obtain⟨i,hi,rfl⟩:=vT.mp hu;exact ub _ (getD_mem (plt i hi))
 have eb:(ps.map λi=>its.getD i Value.none).map dO=ps.map λi=>xs.getD i .non:=by
  rw[List.map_map];refine List.map_congr_left λi hi=>?_
  have:=plt i hi;show dO (its.getD i .none)=xs.getD i .non;rw[xb,rX,rX,wS,jS this]
  rfl
 have lo:ps.length=xs.length:=by rw[pp.length_eq,List.length_range,hlen]
 have nw:New H (upd H D (.lst ((ps.map λi=>its.getD i Value.none).map dO))) D (.lst ((ps.map λi=>its.getD i Value.none).map dO)):=New.mk' hn2;refine⟨.ref D,upd H D (.lst ((ps.map λi=>its.getD i Value.none).map dO)),I.Ka (t':=s.toks) (λb u n e=>(N (b,u) (zD _ (cF e n))).1) hm F.ns hn ?_,rfl,q (ps.map λi=>ws.getD i (0,0)) ⟨?_,List.pairwise_map.mpr up⟩ D _ _ nw ?_⟩
 ·refine⟨by rw[wE,wE,lo];exact hz,_,c,kY hin,?_⟩;exact(N (D,seqObj "list" _ c) zC).1
 ·have:=pp.map λi=>ws.getD i (0,0)
  rw[show its.length=ws.length by lia,dj] at this;exact this
 ·rw[eb];refine⟨by rw[wE,aG,wE],λj r e=>?_⟩;unfold aF at e;rw[List.map_map,wS] at e;cases e0:ps[j]? with
  | none=>rw[e0] at e;cases e
  | some i =>
   rw[e0] at e;have hi:=plt i (yT e0);have hx:xs[i]?=some (xs.getD i .non):=by rw[getD_get (show i<xs.length by lia)];simp
   obtain⟨r2,q2,g1,g2,g3⟩:=dD tp hx;unfold aF at g1;rw[wS,jS (show i<ws.length by lia)] at g1;refine⟨q2,by rw[wS,e0,Option.map_some,g2],?_⟩;have g4:=nw.s _ _ g3;rw[eb] at g4;rw[g4];have e:[V.int ((ws.getD i (0,0)).1:Nat),V.int ((ws.getD i (0,0)).2:Nat)]=r:=by simpa using e
   rw[<- e,getD_get (show i<ws.length by lia)];cases g1
   rfl
section
variable{K:W.Frag}{H:Hp}{Q:VK}{l:Addr}{ys:List V}{ws:xD}
instance ab4[h:SqA K H l ys][t:TpA H ys (aF ws)]:Go (RD K [.ref l] H Q) (Sd (ws.length<64/\ws.Nodup/\∀w∈ws,w.2<1000000) (∀qs:List (Nat×Nat),qs.Perm ws/\RB qs->∀D zs H',New H H' D (.lst zs)->aB H' zs (aF qs)->Q (.ref D) H')):=⟨λs=>⟨l,ys,ws,rfl,h.e,t.e,s.1,s.2⟩⟩
end
end L2
namespace L2
open PySem PySem.Spec PyProof.Rows PySem.SeqAt
class TyA(K:W.Frag)(H:Hp)(v:V)(n:outParam String):Prop where
 e:b_ K H v (.type n)
class gU(K:W.Frag)(H0:Hp)(M:List Addr)(v:V)(n:outParam String):Prop where
 e:b_ K H0 v (.type n)
 n:∀a,v=.ref a->a ∉ M
theorem b_.kept{K:W.Frag}{H H':Hp}{v:V}{t:Value}(h:b_ K H v t)(k:∀a u,v=.ref a->H a=some u->H' a=some u):b_ K H' v t:=by
 cases h with
 | non=>exact .non
 | bl b=>exact .bl b
 | int i=>exact .int i
 | str x=>exact .str x
 | flt x=>exact .flt x
 | lst e=>exact .lst (k _ _ rfl e)
 | frz e=>exact .frz (k _ _ rfl e)
 | tup e=>exact .tup (k _ _ rfl e)
 | dK e=>exact .dK (k _ _ rfl e)
 | dT e=>exact .dT (k _ _ rfl e)
 | ins e a b c d f=>exact .ins (k _ _ rfl e) a b c d f
section
variable{K:W.Frag}{H0 H:Hp}{M:List Addr}{L:List (Addr×HO)}{I:List Im}{v:V}{n:String}{a:Addr}{xs:List V}{b:Bool}{i lo hi:Int}{z:Str}{kvs:List (Key×V)}{Q:VK}{E:XK}
instance ae8:TyA K H .non "NoneType":=⟨.non⟩
instance af9:TyA K H (.bl b) "bool":=⟨.bl b⟩
instance ty_int:TyA K H (.int i) "int":=⟨.int i⟩
instance ty_str:TyA K H (.str z) "str":=⟨.str z⟩
instance ae9[h:Hat H a (.tup xs)]:TyA K H (.ref a) "tuple":=⟨.tup h.e⟩
instance af_[h:Hat H a (.dK kvs)]:TyA K H (.ref a) "dict":=⟨.dK h.e⟩
instance (priority:=low) ae_ [F:SH H0 M H L I] [h:gU K H0 M v n]:TyA K H v n:=⟨h.e.kept λa u e hu=>F.fr a u (h.n a e) hu⟩
instance (priority:=low) afa [t:TyA K H v n]:Go (rB K [v,.ty "int"] H Q) (Q (.bl (M_ v)) H):=⟨λk=>w_is t.e (Ql t.e) k⟩
instance (priority:=low) afb [t:TyA K H v n]:Go (rB K [v,.ty "list"] H Q) (Q (.bl (n == "list")) H):=⟨λk=>w_is t.e (JN t.e) k⟩
instance (priority:=low) aaK [t:TyA K H v n]:Go (nJ K [v] H Q E) (Q (.bl (isW v)) H):=⟨Am t.e⟩
instance (priority:=low) ab5 [t:TyA K H v n]:Go (gR K [v,.int lo] H Q E) (Q (.bl (rC v lo)) H):=⟨Zb t.e⟩
instance (priority:=low) Zv [t:TyA K H v n]:Go (gB K [v,.int lo,.int hi] H Q E) (Q (.bl (inB v lo hi)) H):=⟨DG t.e⟩
end
class IdV(v:V):Prop where
 e:idV v=true
class IdL(xs:List V):Prop where
 e:xs.all idV=true
def Zw(x y:V)(b:Bool):Prop:=(x=y/\idV x=true/\b=true)\/∃s t,x=.str s/\y=.str t/\b=(s==t)
theorem Zw.at{A:Around}{s:Shared}{x y:V}{u v:Value}{b:Bool}(h:Zw x y b)(ru:RelV x u)(rv:RelV y v):EqAt A s u v b:=by
 rcases h with⟨rfl,hi,rfl⟩|⟨p,q,rfl,rfl,rfl⟩
 ·exact Np hi ru rv
 ·obtain⟨t,rfl⟩:=ru;obtain⟨t',rfl⟩:=rv;exact EqAt.str_str (A:=A) (s:=s) p t q t'
section
variable{X:Cx}
theorem Zx{A:Around}{s:Shared}{xs ys:List V}{us vs:xE}{e:Nat->Bool}(ru:Vals xs us)(rv:Vals ys vs)(h:∀j a b,xs[j]?=some a->ys[j]?=some b->Zw a b (e j))(j:Nat)(h1:j<us.toArray.size)(h2:j<vs.toArray.size):EqAt A s us.toArray[j] vs.toArray[j] (e j):=by
 have l1:j<us.length:=by simpa using h1
 have l2:j<vs.length:=by simpa using h2
 have l3:j<xs.length:=by rw[ru.length];exact l1
 have l4:j<ys.length:=by rw[rv.length];exact l2
 obtain⟨u,eu,qu⟩:=ru.get (show xs[j]?=some xs[j] by simp);obtain⟨v,ev,qv⟩:=rv.get (show ys[j]?=some ys[j] by simp);have z1:us.toArray[j]=u:=by
  have:us[j]?=some us[j]:=by simp[l1]
  rw[this] at eu;simpa using eu
 have z2:vs.toArray[j]=v:=by
  have:vs[j]?=some vs[j]:=by simp[l2]
  rw[this] at ev;simpa using ev
 rw[z1,z2];exact(h j _ _ (by simp) (by simp)).at qu qv
def afc(K:W.Frag):R2:=λx y H Q=>∃p q xs,x=.ref p/\y=.ref q/\SqL K H p xs/\SqL K H q xs/\xs.all idV=true/\Q (.bl true) H
theorem Zy{k:Nat}(hr:Room k X.A):OpR X (compareOp .Eq) (afc X.K):=by
 intro pins s σ H x y v u Q I rx ry h;obtain⟨p,q,xs,rfl,rfl,hp,hq,hf,qq⟩:=h;cases rx;cases ry;obtain⟨us,ru,pu,_⟩:=I.list hp;obtain⟨vs,rv,pw,_⟩:=I.list hq;have hsz:us.toArray.size=vs.toArray.size:=by simp[<- ru.length,<- rv.length]
 have b:=RcAt.lists (A:=X.A) (s:=s) (e:=λ_=>true) pu.isList pw.isList hsz (by have:=hr.un;lia) (λj h1 h2=>Zx ru rv (e:=λ_=>true) (λj a b ha hb=>by
  rw[ha] at hb;cases hb;exact .inl ⟨rfl,List.all_eq_true.mp hf _ (yT ha),rfl⟩) j h1 h2)
 rw[show ((List.range us.toArray.size).all λ_=>true)=true by simp] at b;exact b X.prog X.w X.xe _ ⟨.bl _,H,I,rfl,qq⟩
end
end L2
namespace L2
open PySem PySem.W PySem.Spec PyProof.Rows PySem.SeqAt
section
variable{X:Cx}
def ab6(K:W.Frag):R2:=λx y H Q=>∃p q xs,x=.ref p/\y=.ref q/\SqL K H p xs/\SqL K H q []/\Q (.bl (decide (xs=[]))) H
theorem jV{k:Nat}(hr:Room k X.A):OpR X (compareOp .Eq) (ab6 X.K):=by
 intro pins s σ H x y v u Q I rx ry h;obtain⟨p,q,xs,rfl,rfl,hp,hq,qq⟩:=h;cases xs with
 | nil=>exact Zy hr pins s σ H _ _ v u Q I rx ry ⟨p,q,[],rfl,rfl,hp,hq,rfl,qq⟩
 | cons a t =>
  cases rx;cases ry;obtain⟨us,ru,pu,_⟩:=I.list hp;obtain⟨vs,rv,pw,_⟩:=I.list hq;have h1:=ru.length;have h2:=rv.length;have b:=RcAt.lists_lengths (A:=X.A) (s:=s) pu.isList pw.isList (by simp[<- h1,<- h2]) (by have:=hr.un;lia);exact b X.prog X.w X.xe _ ⟨.bl _,H,I,rfl,qq⟩
end
section
variable{K:W.Frag}{H:Hp}{Q:VK}{p q:Addr}{xs:List V}
instance adE[h:SqA K H p xs][h2:Hat H q (.lst [])]:Go (ab6 K (.ref p) (.ref q) H Q) (Q (.bl (decide (xs=[]))) H):=⟨λk=>⟨p,q,xs,rfl,rfl,h.e,SqL.of h2.e,k⟩⟩
end
theorem SH.over{H0 H H':Hp}{M M2:List Addr}{A R L2:List (Addr×HO)}{I I2:List Im}(F:SH H0 M H (A++R) I)(G:SH H M2 H' L2 I2)(e:A.map (·.1)=M2):SH H0 M H' (L2++R) (I2++I):=by
 have nd:=F.nd;rw[List.map_append,e] at nd;obtain⟨nd1,nd2,nd3⟩:=List.nodup_append.mp nd;have inA:∀{b},b∈M2->∃c∈A,c.1=b:=λh=>by rw[<- e] at h;exact vT.mp h
 have st:Tst H H':=λq u tu hq=>by
  refine G.fr q u (λhm=>?_) hq;obtain⟨c,hc,rfl⟩:=inA hm;have h1:=F.at' c (nV _ hc);have h2:=F.mu c (nV _ hc);rw[hq] at h1;cases h1;rw[h2] at tu;cases tu
 have rn:∀{c},c∈R->c.1 ∉ M2:=λhc hm=>nd3 _ hm _ (vT.mpr ⟨_,hc,rfl⟩) rfl
 refine⟨λb u nb e0=>?_,λf hf=>?_,λc hc=>?_,?_,λc hc=>?_,λc hc=>?_⟩
 ·refine G.fr b u (λhm=>?_) (F.fr b u nb e0);obtain⟨c,hc,rfl⟩:=inA hm;rcases F.ch c (nV _ hc) with h|h
  ·exact nb h
  ·exact h _ u e0 rfl
 ·rcases wP.mp hf with hf|hf
  ·exact G.im f hf
  ·exact Im.stay st (F.im f hf)
 ·rcases wP.mp hc with hc|hc
  ·exact G.at' c hc
  ·exact G.fr _ _ (rn hc) (F.at' c (uC _ hc))
 ·rw[List.map_append];refine List.nodup_append.mpr ⟨G.nd,nd2,λa ha b hb=>?_⟩;obtain⟨c,hc,rfl⟩:=vT.mp ha;obtain⟨d,hd,rfl⟩:=vT.mp hb;rcases G.ch c hc with h|h
  ·exact λz=>rn hd (z▸h)
  ·exact λz=>h d.1 _ (F.at' d (uC _ hd)) z.symm
 ·rcases wP.mp hc with hc|hc
  ·exact G.mu c hc
  ·exact F.mu c (uC _ hc)
 ·rcases wP.mp hc with hc|hc
  ·rcases G.ch c hc with h|h
   ·obtain⟨d,hd,ed⟩:=inA h;rw[<- ed];exact F.ch d (nV _ hd)
   ·by_cases hm:c.1∈M
    ·exact .inl hm
    ·exact .inr λb u e0 z=>h b u (F.fr b u (by rw[z];exact hm) e0) z
  ·exact F.ch c (uC _ hc)
section
variable{H:Hp}{Q:VK}
instance adF{σ:L2.St}:Go (Hg σ H Q) (∀p H',New H H' p (.dK [])->Q (.ref p) H'):=⟨Y0⟩
instance adG{H0:Hp}{M:List Addr}{L:List (Addr×HO)}{I:List Im}{Z:Addr->Hp->Prop}[F:SH H0 M H L I]:Go (∀p H',New H H' p (.dK [])->Z p H') (∀H' p,SH H0 M H' ((p,.dK [])::L) I->Z p H'):=⟨λk p H' n=>k H' p (F.Zd n rfl)⟩
end
inductive Nz(H:Hp):V->Prop
 | flt {v:V} (h:v=.non\/(∃b,v=.bl b)\/(∃i,v=.int i)\/∃z,v=.str z):Nz H v
 | lst {q:Addr} {xs:List V} (e:H q=some (.lst xs)):Nz H (.ref q)
 | tup {q:Addr} {xs:List V} (e:H q=some (.tup xs)):Nz H (.ref q)
theorem Nz.id{H:Hp}{v:V}(h:Nz H v):idV v=true:=by
 cases h with
 | flt h=>rcases h with rfl|⟨b,rfl⟩|⟨i,rfl⟩|⟨z,rfl⟩ <;> rfl
 | lst e=>rfl
 | tup e=>rfl
class agT(H:Hp)(v:V):Prop where
 e:Nz H v
end L2
namespace L2
open PySem PySem.W PySem.Calls PySem.Spec PyProof.Rows
abbrev swBody(x:Str)(p1 p2 p3 p4 p5 p6 p7:Pos)(j j2 j3:Nat):Expr:=.Tuple [.Subscript (.Name x p1) (.Constant (.int 1) j p2) p3,.Subscript (.Name x p4) (.Constant (.int 0) j2 p5) p6] j3 p7
theorem Zz{prog:Program}{w:World}{A:Around}{s:Shared}{f q c':Addr}{x qual:Str}{params:Arguments}{scope:Scope}{pm ctv u u0:Value}{p1 p2 p3 p4 p5 p6 p7:Pos}{j j2 j3:Nat}{its:xE}{Q:xB}{E:xB}
  (hroom:A.depth<recursionLimit) (ho:s.heap.get? f=some (W.kla_obj "<lambda>" qual params (swBody x p1 p2 p3 p4 p5 p6 p7 j j2 j3) scope [] pm c' ctv)) (hcd:s.heap.CodeRec (.ref c') qual) (hlim:s.heap.NoLimit) (S:iM x scope)
  (hbind:bindArgs (W.kla_fn "<lambda>" qual params (swBody x p1 p2 p3 p4 p5 p6 p7 j j2 j3) scope [] pm (.ref c') ctv) ⟨[.ref q],[]⟩=pure [(x,.ref q)])
  (ht:IsTup s.heap q its.toArray) (hi:its[1]?=some u) (hi0:its[0]?=some u0) (h:∀h' tk a,(∀b o,s.heap.get? b=some o->h'.get? b=some o)->s.heap.get? a=none->h'.get? a=some (seqObj "tuple" #[u,u0] 0)->Q (.ref a) { s with heap:=h',toks:=tk }):wpAny (model prog w) A (call (.ref f) [.ref q]) Q E s:=by
 refine wpAny_call ?_;refine W.kla_callFunE hroom ho rfl S.co S.gen rfl hcd ?_;rw[hbind];refine uS ?_;refine wpAny_newFunctionEnv S.Ri (λy hy=>?_) (λh1 hns hsb=>?_) S.kind
 ·rw[uB.mp hy];exact S.loc
 ·have hk1:∀b o,s.heap.get? b=some o->h1.get? b=some o:=λb o e=>hsb.extBut b o (qB (gS e)) (gX _ e)
  have ht1:IsTup h1 q its.toArray:=by
   obtain⟨o,e,r⟩:=ht;exact⟨o,hk1 _ _ e,r⟩
  have hlen:1<its.length:=(jI.mp hi).1;have hsz:s.heap.objs.size<=h1.objs.size:=by
   rw[hsb.1];rw[size_push']
   lia
  refine⟨hlim.keeps hk1,W.kla_codeExpr ?_⟩;refine Tuple_ (spliced_more ?_);refine Subscript_ (wpAny_Name (wpAny_loadName_local S.kind S.loc hns (v:=.ref q) (by simp) ?_) S.J_);refine wpAny_Constant_int ?_;refine subscriptTail_builtinR (x:=u) (IsTup.typeIs ht1) slot_tuple_getitem.lookup (getItem_tuple (j:=1) ht1 (by decide) (by decide) ?_ (by simpa using hi) ⟨rfl,?_⟩) ?_
  ·rw[nB];unfold seqIndex?;simp
   lia
  ·refine spliced_more ?_;refine Subscript_ (wpAny_Name (wpAny_loadName_local S.kind S.loc hns (v:=.ref q) (by simp) ?_) S.J_);refine wpAny_Constant_int ?_;refine subscriptTail_builtinR (x:=u0) (IsTup.typeIs ht1) slot_tuple_getitem.lookup (getItem_tuple (j:=0) ht1 (by decide) (by decide) ?_ (by simpa using hi0) ⟨rfl,?_⟩) ?_
   ·have l0:(0:Int)<(its.length:Int):=by lia
    rw[nB];unfold seqIndex?;simp;intro z;rw[z] at hlen;simp at hlen
   ·refine spliced_none (wpAny_newTuple ?_ (by show 2<=sizeLine;decide));exact h _ _ _ (λb o e=>gX _ (hk1 b o e)) (Heap.get?_none_of_le hsz) (rV _ rfl)
   ·rfl
  ·rfl
def jq(H:Hp)(f:Addr):Prop:=∃(qual x:Str)(params:Arguments)(p1 p2 p3 p4 p5 p6 p7:Pos)(j j2 j3:Nat)(scope:Scope)(pm ctv:Value)(c':Addr)(oc:Obj)(vs:xI)(t:Tok),
 H f=some (.frz (W.kla_obj "<lambda>" qual params (swBody x p1 p2 p3 p4 p5 p6 p7 j j2 j3) scope [] pm c' ctv) (.own f))/\H c'=some (.frz oc (.own c'))/\oc.data=.fields vs/\vs[1]?=some (.str qual t)/\iM x scope /\
 ∀q:Addr,bindArgs (W.kla_fn "<lambda>" qual params (swBody x p1 p2 p3 p4 p5 p6 p7 j j2 j3) scope [] pm (.ref c') ctv) ⟨[.ref q],[]⟩=pure [(x,.ref q)]
section
variable{prog:Program}{w:World}{A:Around}{s:Shared}{h₀:Heap}{L l D kS:Addr}{m:xC}{news:List (Addr×Obj)}{f:Value}
def nO(prog:Program)(w:World)(A:Around)(news:List (Addr×Obj))(f:Value)(v:Value)(k:Nat×Nat)(s:Shared):Prop :=
 ∀(h:Heap)(tk:Nat),(∀p∈news,h.get? p.1=some p.2)->wpAny (model prog w) A (call f [v]) (λu s'=>∃(a:Addr)(h':Heap)(tk':Nat)(t1 t2:Tok),u=.ref a/\s'={ s with heap:=h',toks:=tk' }/\(∀b o,h.get? b=some o->h'.get? b=some o)/\h.get? a=none/\h'.get? a=some (seqObj "tuple" #[.int (k.1:Nat) t1,.int (k.2:Nat) t2] 0)) (λ_ _=>False) { s with heap:=h,toks:=tk }
theorem Km{α β:Type}{R:α->β->Prop}{b:β}{a:α}:∀{l:List α} {m:List β},F2 R l m->R a b->F2 R (l++[a]) (m++[b])
 | _,_,.nil,h=>.cons h .nil
 | _,_,.cons r t,h=>.cons r (Km t h)
theorem Ko{α β:Type}{R R':α->β->Prop}(g:∀a b,R a b->R' a b):∀{l:List α} {m:List β},F2 R l m->F2 R' l m
 | _,_,.nil=>.nil
 | _,_,.cons r t=>.cons (g _ _ r) (Ko g t)
theorem A_{KS:xD}{e1:Nat}{Fin:List Value->Nat->Shared->Prop}(nD:D≠kS)(nN:∀p∈news,p.1≠kS)
  (fin:∀(own:List (Addr×Obj)) (us:xE) (ks:xD) (e:Nat) (h:Heap) (tk:Nat),Fr h₀ L h m->News h₀ L h ((kS,seqObj "list" us.toArray e)::(D,seqObj "list" #[] e1)::(own++news))->(∀p∈own,p.1≠kS)->(∀p∈own,p.1≠D)->F2 (qC own) us ks->ks=KS->Fin us e { s with heap:=h,toks:=tk }) :
  ∀(r:xE) (kr:xD) (own:List (Addr×Obj)) (us:xE) (kd:xD) (e:Nat) (h:Heap) (tk:Nat),F2 (λv k=>nO prog w A news f v k s) r kr->kd++kr=KS->Fr h₀ L h m->News h₀ L h ((kS,seqObj "list" us.toArray e)::(D,seqObj "list" #[] e1)::(own++news))->(∀p∈own,p.1≠kS)->(∀p∈own,p.1≠D)->F2 (qC own) us kd ->
   KatKeys prog w A h₀ L m kS f Fin r us e { s with heap:=h,toks:=tk }
 | [],kr,own,us,kd,e,h,tk,t,ek,F,N,n1,n2,g=>by
  cases t;exact KatKeys.nil (fin own us kd e h tk F N n1 n2 g (by simpa using ek))
 | v::r,kr,own,us,kd,e,h,tk,t,ek,F,N,n1,n2,g=>by
  rcases t with _|⟨tv,tr⟩;rename_i k kr;have hh:∀p∈news,h.get? p.1=some p.2:=λp hp=>(N p (zD _ (zD _ (uC _ hp)))).1
  refine KatKeys.cons (nS (tv h tk hh) (λu s' hu=>?_) λ_ _ x=>x);obtain⟨a,h',tk',t1,t2,rfl,rfl,kp,ha,ho⟩:=hu;have F':Fr h₀ L h' m:=⟨F.ns.keeps kp,λb o e=>kp b o (F.keep b o e),F.above⟩;have old:∀{b:Addr} {o:Obj},h.get? b=some o->a≠b:=λ{b o} e z=>by rw[<- z,ha] at e;cases e
  have naS:a≠kS:=old (N _ zC).1;have naD:a≠D:=old (N _ (zD _ zC)).1;have naL:a≠L:=by
   obtain⟨o,_,_,e,_⟩:=F.ns;exact old e
  have na0:h₀.get? a=none:=by
   cases z:h₀.get? a with
   | none=>rfl
   | some o =>
    have:=F.keep a o z;rw[ha] at this;cases this
  have N':News h₀ L h' ((kS,seqObj "list" us.toArray e)::(D,seqObj "list" #[] e1)::(((a,seqObj "tuple" #[.int (k.1:Nat) t1,.int (k.2:Nat) t2] 0)::own)++news)):=λp hp=>by
   rcases vS.mp hp with rfl|hp
   ·exact⟨kp _ _ (N _ zC).1,(N _ zC).2⟩
   ·rcases vS.mp hp with rfl|hp
    ·exact⟨kp _ _ (N _ (zD _ zC)).1,(N _ (zD _ zC)).2⟩
    ·rcases vS.mp hp with rfl|hp
     ·exact⟨ho,naL,na0⟩
     ·have:=N p (zD _ (zD _ hp));exact⟨kp _ _ this.1,this.2⟩
  have n1':∀p∈(a,seqObj "tuple" #[.int (k.1:Nat) t1,.int (k.2:Nat) t2] 0)::own,p.1≠kS:=λp hp=>by
   rcases vS.mp hp with rfl|hp
   ·exact naS
   ·exact n1 p hp
  have n2':∀p∈(a,seqObj "tuple" #[.int (k.1:Nat) t1,.int (k.2:Nat) t2] 0)::own,p.1≠D:=λp hp=>by
   rcases vS.mp hp with rfl|hp
   ·exact naD
   ·exact n2 p hp
  refine KatBack.intro (s:={ s with heap:=h',toks:=tk' }) F' N' (UpdF.head λp hp=>?_) λh2 c F2 N2=>?_
  ·rcases vS.mp hp with rfl|hp
   ·exact nD
   ·rcases wP.mp hp with hp|hp
    ·exact n1' p hp
    ·exact nN p hp
  ·refine A_ nD nN fin r kr _ (us++[.ref a]) (kd++[k]) c h2 tk' tr (by rw[vF];exact ek) F2 N2 n1' n2' (Km (Ko (λv k ⟨a,o,xs,n,t,u,g1,g2,g3⟩=>⟨a,o,xs,n,t,u,g1,zD _ g2,g3⟩) g) ?_);exact⟨a,_,_,0,t1,t2,rfl,zC,rfl,rfl,rfl⟩
end
def XS(P:Addr)(pos:Pos)(qual:Str):TE:=λ_ H Q=>∃ps,H P=some (.tbl ps)/\TabOk pos qual ps H/\∀f ps' H',Kp P H H'->H' P=some (.tbl ps')->TabOk pos qual ps' H'->jq H' f->Q (.ref f) H'
theorem Wc{X:Cx}{c P:Addr}{qual x:Str}{params:Arguments}{scope:Scope}{p1 p2 p3 p4 p5 p6 p7 pos:Pos}{j j2 j3:Nat}(B:Bm X.mg X.base)(hc:X.env.code=.ref c)(hK:W.codeHdIn X.K c P=true)(hq:X.env.qual++("<lambda>" : Str)=qual)(S:iM x scope)
  (hdef:defaultsOf params X.env=([],[]):=by rfl) (hcl:closureFor scope X.env=pure []:=by rfl)
  (hb:∀(pm ctv:Value)(c' q:Addr),bindArgs (W.kla_fn "<lambda>" qual params (swBody x p1 p2 p3 p4 p5 p6 p7 j j2 j3) scope [] pm (.ref c') ctv) ⟨[.ref q],[]⟩=pure [(x,.ref q)]:=by intros;rfl) :
  PE X (.Lambda params (swBody x p1 p2 p3 p4 p5 p6 p7 j j2 j3) scope pos) (XS P pos qual):=by
 intro pins s σ H Q I h;obtain⟨ps,eP,tk,q⟩:=h;have hP:s.heap.get? P=some (W.tabObj ps):=I.hok P _ eP;obtain⟨bm,ob,b1,b2,b3,b4,b5,b6⟩:=B;have hg:s.heap.Ns mainGlobals X.mg:=I.ok.mod.glob.keeps I.bk;have nob:∀{b:Addr} {o:Obj},X.base.get? b=some o->b≠P:=λ{b o} e z=>by
  have:=(I.bs b o e).2;rw[z,eP] at this;cases this
 have nG:mainGlobals≠P:=by
  obtain⟨o,_,_,e,_⟩:=I.ok.mod.glob;exact nob e
 have nbG:bm≠mainGlobals:=λz=>by
  obtain⟨o,es,ep,e,hd,_⟩:=I.ok.mod.glob;rw[z,e] at b3;cases b3;rw[hd] at b6;cases b6
 have BA:s.heap.BuiltinsAt X.mg P:=⟨bm,ob,b1,b2,nbG,nob b3,I.bk _ _ b3,b4,b5,b6⟩;have CH:=W.codeHd_of_K I.kIn hK;refine W.kla_eval hdef ?_;rw[hq];have nP:∀{b:Addr},H b=none->b≠P:=λ{b} e z=>by rw[z,eP] at e;cases e
 rcases tk with rfl|⟨c',oc,vs,t,rfl,e1,e2,e3⟩
 ·refine W.kla_makeFunction hcl I.ok.glob hg hc CH hP trivial rfl nG BA λc' ctv h' tk' hx hge hlt hrec hP'=>?_
  obtain⟨c2,oc,vs,t,z,hoc,hd,hv⟩:=hrec;cases z;have fc:H c'=none:=I.hok.fresh hge;have hsz:s.heap.objs.size<=h'.objs.size:=rS hge (mP hlt);have ff:H h'.objs.size=none:=I.hok.fresh hsz;have ncf:c'≠h'.objs.size:=qB hlt;have ncP:c'≠P:=nP fc;have nfP:h'.objs.size≠P:=nP ff
  generalize hf:h'.objs.size=f at *
  generalize hob:W.kla_obj "<lambda>" qual params (swBody x p1 p2 p3 p4 p5 p6 p7 j j2 j3) scope [] ((X.mg "__name__").getD .none) c' ctv=fo
  let H':Hp:=upd (upd (upd H P (.tbl (#[]++#[rawInt pos.line,rawInt pos.col,.ref c']))) c' (.frz oc (.own c'))) f (.frz fo (.own f))
  have hP2:H' P=some (.tbl #[rawInt pos.line,rawInt pos.col,.ref c']):=by
   show upd _ _ _ _=_;rw[aX (Ne.symm nfP),aX (Ne.symm ncP),bx];simp
  have hc2:H' c'=some (.frz oc (.own c')):=by
   show upd _ _ _ _=_;rw[aX ncf,bx]
  have hf2:H' f=some (.frz fo (.own f)):=bx;have old:∀{b:Addr},b≠P->b≠c'->b≠f->H' b=H b:=λ{b} n1 n2 n3=>by
   show upd _ _ _ _=_;rw[aX n3,aX n2,aX n1]
  have push:∀{b:Addr} {o:Obj},h'.get? b=some o->(h'.push fo).get? b=some o:=λe=>gX _ e
  have I':Inv X pins σ H' { s with heap:=h'.push fo,toks:=tk' }:=by
   refine I.grow (λb u n e=>?_) (λb u e=>?_) λb u n e=>?_
   ·have lt:=gS e;have n2:b≠c':=qB (qA lt hge);have n3:b≠f:=qB (qA lt hsz);exact⟨push (hx b u (nP n) e),by rw[old (nP n) n2 n3];exact n⟩
   ·by_cases hbP:b=P
    ·right
     rw[hbP,eP] at e;cases e;exact⟨#[],#[rawInt pos.line,rawInt pos.col,.ref c'],rfl,by rw[hbP,hP2];simp,by rw[hbP];exact push hP'⟩
    ·left
     have n2:b≠c':=λz=>by rw[z,fc] at e;cases e
     have n3:b≠f:=λz=>by rw[z,ff] at e;cases e
     exact⟨by rw[old hbP n2 n3];exact e,λo e4=>push (hx b o hbP e4)⟩
   ·by_cases hbf:b=f
    ·rw[hbf,hf2] at e;cases e;have e5:(h'.push fo).get? f=some fo:=by
      rw[<- hf];exact rV _ (by rw[<- hob];rfl)
     rw[hbf];exact⟨e5,_,e5⟩
    ·by_cases hbc:b=c'
     ·rw[hbc,hc2] at e;cases e;rw[hbc];exact⟨push hoc,_,push hoc⟩
     ·have hbP:b≠P:=nP n;rw[old hbP hbc hbf,n] at e;cases e
  refine⟨.ref f,H',I',rfl,q f _ H' (λb u n e=>?_) hP2 (.inr ⟨c',oc,vs,t,rfl,hc2,hd,hv⟩) ⟨qual,x,params,p1,p2,p3,p4,p5,p6,p7,j,j2,j3,scope,_,ctv,c',oc,vs,t,by rw[hf2,<- hob],hc2,hd,hv,S,hb _ _ _⟩⟩;have n2:b≠c':=λz=>by rw[z,fc] at e;cases e
  have n3:b≠f:=λz=>by rw[z,ff] at e;cases e
  rw[old n n2 n3];exact e
 ·have hcode:codeAmong pos (#[rawInt pos.line,rawInt pos.col,Value.ref c']).toList=some (.ref c'):=by
   show (if ((pos.line:Int)==(pos.line:Int) && (pos.col:Int)==(pos.col:Int))=true then some (Value.ref c') else _)=_;simp
  refine W.kla_makeFunctionHit hcl I.ok.glob hg hc CH hP trivial hcode BA λctv h' tk' hx hsz=>?_
  have ff:H h'.objs.size=none:=I.hok.fresh hsz
  generalize hob:({ cls:=Value.type "function", data:=Data.func (W.kla_fn "<lambda>" qual params (swBody x p1 p2 p3 p4 p5 p6 p7 j j2 j3) scope [] ((X.mg "__name__").getD .none) (.ref c') ctv) }:Obj)=fo
  have e5:(h'.push fo).get? h'.objs.size=some fo:=rV _ (by rw[<- hob];rfl);have k2:∀{b:Addr} {u:HO},H b=some u->upd H h'.objs.size (.frz fo (.own h'.objs.size)) b=some u:=λ{b u} e=>by
   rw[aX (λz=>by rw[z,ff] at e;cases e)];exact e
  refine⟨.ref h'.objs.size,upd H h'.objs.size (.frz fo (.own h'.objs.size)),I.laid (t':=tk') (λb u e=>gX _ (hx b u e)) hsz ⟨e5,_,e5⟩,rfl,q _ _ _ (λb u n e=>k2 e) (k2 eP) (.inr ⟨c',oc,vs,t,rfl,k2 e1,e2,e3⟩) ⟨qual,x,params,p1,p2,p3,p4,p5,p6,p7,j,j2,j3,scope,_,ctv,c',oc,vs,t,by rw[bx,<- hob],k2 e1,e2,e3,S,hb _ _ _⟩⟩
section
variable{prog:Program}{w:World}{A:Around}{E:xB}{s:Shared}{h₀:Heap}{L l a D kS:Addr}{m:xC}{news:List (Addr×Obj)}{vs us:xE}{f:Value}
theorem RG(h:us.length=vs.length):(us.toArray.zip vs.toArray).map (·.2)=vs.toArray:=by
 apply Array.toList_inj.mp
 rw[Array.toList_map,Array.toList_zip];exact List.map_snd_zip (by simp[h])
theorem Wd{e e1:Nat}{P:PySem.Fin->Shared->Prop}(hl:us.length=vs.length)(h2:vs.length<2)(h:KatFin h₀ L m kS a us e e1 vs (λs'=>P (.done (.ret .none)) s') s) :
  wpAny (model prog w) A (ksk_end a false vs.toArray e1 (.ref kS) us.toArray) P E s:=by
 have hn:vs.toArray.size<2:=by rw[nB];lia
 unfold ksk_end;dsimp only;simp only[Bool.false_eq_true,if_false];rw[zS hn,zS hn];refine zI (uS (zI ?_));rw[StateT.run_pure];refine uS ?_;dsimp only;exact kat_tail (b:=false) (out:=vs) (RG hl) (by lia) (by lia) rfl h
theorem RJ{e1:Nat}{P:PySem.Fin->Shared->Prop}(hk:s.heap.get? kS=some (seqObj "list" #[] 0))(h2:vs.length<2)
  (h:KatKeys prog w A h₀ L m kS f (λus e s'=>KatFin h₀ L m kS a us e e1 vs (λs4=>P (.done (.ret .none)) s4) s') vs [] 0 s):wpAny (model prog w) A (ksk_rest a f false vs.toArray e1 (.ref kS)) P E s:=by
 unfold ksk_rest;refine zI (wpAny_rule ?_);rw[List.forIn_toArray];refine wpAny_bind (wpAny_mono (kat_fold (n:=vs.length) (by lia) (λx ks e s' C hz hx=>?_) vs [] 0 s (by simp) hk h) (λ_ s' hd=>?_) λ_ _ x=>x)
 ·refine zI (wpAny_attempt (nS hx (λk s'' hk=>?_) λ_ _ hF=>hF.elim));obtain⟨news',g,F',N',U,c⟩:=hk;obtain⟨pre,post,e0,hg,x1,x2⟩:=U.split;subst e0;have nk:=N' (kS,seqObj "list" ks.toArray e) (uC _ zC);have sb:=Heap.SameBut.update s''.heap kS (Obj.mapSeq (·.push k));have ea:ks.toArray.push k=(ks++[k]).toArray:=by simp
  obtain⟨c2,hc2⟩:∃c2,(s''.heap.update kS (Obj.mapSeq (·.push k))).get? kS=some (seqObj "list" (ks++[k]).toArray c2):=⟨_,by rw[<- ea];exact get?_update_seq nk.1 (·.push k)⟩;have z1:ks.toArray.size<=sizeLine:=by rw[nB,sizeLine_eq];lia
  have z2:(ks.toArray.push k).size<=sizeLine:=by rw[Array.size_push,nB,sizeLine_eq];lia
  dsimp only;refine zI (listUpdate_at nk.1 rfl ?_ z1 (Nat.le_succ_of_le z2));exact uS ⟨rfl,k,c2,hc2,c _ c2 (kas_fr F' sb nk.2.1 nk.2.2) (by rw[hg];exact news_set N' x1 x2 sb hc2)⟩
 ·obtain⟨ks,e,hk',hl,fin⟩:=hd;exact zI (listItems_at hk' rfl (Wd hl h2 fin))
theorem RK{n:Nat}{P:PySem.Fin->Shared->Prop}(F:Fr h₀ L s.heap m)(N:News h₀ L s.heap news)(ho:s.heap.get? a=some (seqObj "list" vs.toArray n))(haL:a≠L)(ha0:h₀.get? a=none)(hna:∀p∈news,p.1≠a)(h2:vs.length<2)
  (h:∀kS e1 h',Fr h₀ L h' m->News h₀ L h' ((kS,seqObj "list" #[] 0)::(a,seqObj "list" #[] e1)::news)->a<kS->(∀q∈news,q.1<kS)->KatKeys prog w A h₀ L m kS f (λus e s'=>KatFin h₀ L m kS a us e e1 vs (λs4=>P (.done (.ret .none)) s4) s') vs [] 0 { s with heap:=h' }) :
  wpAny (model prog w) A (ksk_tree a f false) P E s:=by
 have s1:=Heap.SameBut.update s.heap a (Obj.mapSeq λ_=>(#[]:xI));obtain⟨e1,ho1⟩:∃e1,(s.heap.update a (Obj.mapSeq λ_=>(#[]:xI))).get? a=some (seqObj "list" #[] e1):=⟨_,get?_update_seq ho λ_=>#[]⟩;have F1:=kas_fr F s1 haL ha0;have N1:=kas_news N s1 hna;unfold ksk_tree;refine zI (listItems_at ho rfl (zI (listUpdate_at ho rfl ?_ (by rw[nB,sizeLine_eq];lia) (Nat.zero_le _))))
 generalize hg:s.heap.update a (Obj.mapSeq λ_=>(#[]:xI))=g at *
 refine zI (seqEpoch_at ho1 rfl (zI (wpAny_newTuple (zI (wpAny_newList (nK ?_) (Nat.zero_le _))) (by show vs.length<=_;rw[sizeLine_eq];lia))))
 generalize hp:g.push (seqObj "tuple" vs.toArray 0)=g2
 have sz2:g2.objs.size=g.objs.size+1:=by rw[<- hp,size_push']
 have up:∀b o,g.get? b=some o->(g2.push (seqObj "list" #[] 0)).get? b=some o:=λb o e=>gX _ (by rw[<- hp];exact gX _ e)
 have la:a<g2.objs.size:=by rw[sz2];exact oS (gS ho1)
 have lN:∀q∈news,q.1<g2.objs.size:=λq hq=>by rw[sz2];exact oS (gS (N1 q hq).1)
 have lL:L<g2.objs.size:=by rw[sz2];exact oS F1.ns.lt
 have F3:Fr h₀ L (g2.push (seqObj "list" #[] 0)) m:=by rw[<- hp];exact(F1.push _).push _
 have hk:(g2.push (seqObj "list" #[] 0)).get? g2.objs.size=some (seqObj "list" #[] 0):=rV _ rfl;show wpAny (model prog w) A _ P E { s with heap:=g2.push (seqObj "list" #[] 0) }
 refine RJ (s:={ s with heap:=g2.push (seqObj "list" #[] 0) }) (kS:=g2.objs.size) hk h2 (h _ e1 _ F3 (λp hp'=>?_) la lN)
 rcases vS.mp hp' with rfl|hp'
 ·exact⟨hk,Nat.ne_of_gt lL,Heap.get?_none_of_le (rS F.above (mP lL))⟩
 ·rcases vS.mp hp' with rfl|hp'
  ·exact⟨up _ _ ho1,haL,ha0⟩
  ·exact⟨up _ _ (N1 p hp').1,(N1 p hp').2⟩
theorem DX{q:Addr}{Q:xB}(F:Fr h₀ L s.heap m)(N:News h₀ L s.heap news)(hl:s.heap.IsList l vs.toArray)(h2:vs.length<2)
  (h:∀D kS e1 h',Fr h₀ L h' m->News h₀ L h' ((kS,seqObj "list" #[] 0)::(D,seqObj "list" #[] e1)::news)->D<kS->(∀q∈news,q.1<D)->KatKeys prog w A.in1.in1 h₀ L m kS (.ref q) (λus e s'=>KatFin h₀ L m kS D us e e1 vs (λs4=>Q (.ref D) s4) s') vs [] 0 { s with heap:=h' }) :
  wpAny (model prog w) A (call (.builtin "sorted") [.ref l] [(Str.ofString "key", .ref q)]) Q E s:=by
 refine call_function_entry_kw kind_sorted plain_sorted entry_sorted (ksk_s1 _ _) ?_;unfold Builtin.«sorted»;refine zI (m:=checkCount "sorted" 1 1 _) (uS (zI (collect_list hl ?_ (by rw[sizeLine_eq];lia))));refine zI (wpAny_newList ?_ (by rw[sizeLine_eq];lia))
 generalize eh:((s.heap.push (seqObj "list" #[] 0)).update s.heap.objs.size (Obj.mapSeq (·++vs.toArray)))=hp
 have hsz:hp.objs.size=s.heap.objs.size+1:=by rw[<- eh,Heap.size_update,size_push']
 have keep:∀b o,s.heap.get? b=some o->(hp.push (seqObj "list" vs.toArray 0)).get? b=some o:=λb o q=>by
  have hlt:b<s.heap.objs.size:=gS q;rw[mS _ _ _ (by rw[hsz];exact qB (oS hlt)),<- eh,Heap.get?_update_ne _ _ _ _ (qB hlt),mS _ _ _ (qB hlt)];exact q
 have hoL:(hp.push (seqObj "list" vs.toArray 0)).get? hp.objs.size=some (seqObj "list" vs.toArray 0):=rV _ rfl;have up1:∀{b:Addr},b<s.heap.objs.size->b<hp.objs.size:=λh=>by rw[hsz];exact oS h
 have hL:L<hp.objs.size:=up1 F.ns.lt;show wpAny _ _ _ _ _ { s with heap:=hp.push (seqObj "list" vs.toArray 0) }
 refine zI (nK (wpAny_call_entry_kw slot_list_sort ⟨_,hoL,rfl⟩ entry_list_sort ?body (ksk_l1 _ _)))
 case body =>
  show wpAny (model prog w) A.in1.in1 (Builtin.«list.sort» ⟨[.ref hp.objs.size],[(Str.ofString "key", .ref q)]⟩) _ _ _;rw[ksk_t1];refine RK (s:={ s with heap:=hp.push (seqObj "list" vs.toArray 0) }) (F.kept keep) (N.grown keep) hoL (Nat.ne_of_gt hL) (Heap.get?_none_of_le (rS F.above (mP hL))) (λp hp'=>qB (up1 (gS (N p hp').1))) h2 λkS e1 h' F' N' l0 l1=>?_
  exact kat_keys_mono (h _ kS e1 h' F' N' l0 λq hq=>up1 (gS (N q hq).1)) λus e s' hl' hd=>hd.mono λs4 hq=>⟨_,rfl,uS ⟨_,rfl,hq⟩⟩
theorem NK{own:List (Addr×Obj)}{ks:xD}{C:Bool->Shared->Prop}{i j:Nat}(hh:∀p∈own,s.heap.get? p.1=some p.2)(tp:F2 (qC own) us ks)(nd:ks.Nodup)(sm:∀w∈ks,w.2<1000000)(hi:i<us.length)(hj:j<us.length)(hij:i≠j)(hC:C (decide (rkP (ks.getD i (0,0))<rkP (ks.getD j (0,0)))) s) :
  kas_ask prog w A (tuples' true) us i j C s:=by
 have hlen:ks.length=us.length:=tp.length_eq.symm;unfold kas_ask;obtain⟨a,o,xs,n,t,u,ev,hm,hc,hd,hx⟩:=DW tp hi;obtain⟨a',o',xs',n',t',u',ev',hm',hc',hd',hx'⟩:=DW tp hj;have mi:ks.getD i (0,0)∈ks:=getD_mem (by lia);have mj:ks.getD j (0,0)∈ks:=getD_mem (by lia);have ne:ks.getD i (0,0)≠ks.getD j (0,0):=λz=>by
  rw[getD_get (show i<ks.length by lia),getD_get (show j<ks.length by lia)] at z;exact hij ((List.getElem_inj nd).mp z)
 have hr:=Rz (sm _ mi) (sm _ mj);rw[ev,ev'];refine kat_lt (hh _ hm) hd (hh _ hm') hd' ?_;rw[hx,hx'];refine kat_cons (wpAny_eqBool_int ?_);by_cases e1:(ks.getD i (0,0)).1=(ks.getD j (0,0)).1
 ·have e2:(ks.getD i (0,0)).2≠(ks.getD j (0,0)).2:=λz=>ne (Prod.ext e1 z)
  rw[show ((((ks.getD i (0,0)).1:Nat):Int)==(((ks.getD j (0,0)).1:Nat):Int))=true by rw[e1];simp];refine kat_yes (kat_cons (wpAny_eqBool_int ?_));rw[show ((((ks.getD i (0,0)).2:Nat):Int)==(((ks.getD j (0,0)).2:Nat):Int))=false by rw[beq_eq_false_iff_ne];lia];refine kat_no (kat_one _ _ (lt_int ?_));show C _ _;rw[show decide ((((ks.getD i (0,0)).2:Nat):Int)<(((ks.getD j (0,0)).2:Nat):Int))=decide (rkP (ks.getD i (0,0))<rkP (ks.getD j (0,0))) from decide_eq_decide.mpr (by rw[hr];lia)];exact hC
 ·rw[show ((((ks.getD i (0,0)).1:Nat):Int)==(((ks.getD j (0,0)).1:Nat):Int))=false by rw[beq_eq_false_iff_ne];lia];refine kat_no (oneLt_int ?_);rw[show decide ((((ks.getD i (0,0)).1:Nat):Int)<(((ks.getD j (0,0)).1:Nat):Int))=decide (rkP (ks.getD i (0,0))<rkP (ks.getD j (0,0))) from decide_eq_decide.mpr (by rw[hr];lia)];exact hC
theorem Wf{ks:xD}{n:Nat}{p:Array Nat}(hlen:ks.length=n)(nd:ks.Nodup)(sm:∀w∈ks,w.2<1000000)(hp:Pp n p)(up:UpK (λi=>rkP (ks.getD i (0,0))) p n):p.toList.Perm (List.range n)/\p.toList.Pairwise λi j=>rkP (ks.getD i (0,0))<rkP (ks.getD j (0,0)):=by
 have pp:p.toList.Perm (List.range n):=by simpa using Array.perm_iff_toList_perm.mp hp
 refine⟨pp,?_⟩;have hs:=hp.size;have g:∀q (hq:q<p.toList.length),p.toList[q]=p.getD q 0:=λq hq=>by
  rw[Array.getD_eq_getD_getElem?,Array.getElem?_eq_getElem (by simpa using hq)]
  rfl
 rw[List.pairwise_iff_getElem];intro i j hi hj hij;have hi':i<n:=by simpa[hs] using hi
 have hj':j<n:=by simpa[hs] using hj
 have u:rkP (ks.getD (p.getD i 0) (0,0))<=rkP (ks.getD (p.getD j 0) (0,0)):=up i j (by lia) hj';have li:=hp.lt hi';have lj:=hp.lt hj';have ndp:p.toList.Nodup:=pp.nodup_iff.mpr List.nodup_range;rw[g i hi,g j hj];have ne:ks.getD (p.getD i 0) (0,0)≠ks.getD (p.getD j 0) (0,0):=λz=>by
  rw[getD_get (show p.getD i 0<ks.length by lia),getD_get (show p.getD j 0<ks.length by lia)] at z;have z:=(List.getElem_inj nd).mp z;rw[<- g i hi,<- g j hj] at z;have:=(List.getElem_inj ndp).mp z
  lia
 have ne2:rkP (ks.getD (p.getD i 0) (0,0))≠rkP (ks.getD (p.getD j 0) (0,0)):=λz=>ne (Kl (sm _ (getD_mem (by lia))) (sm _ (getD_mem (by lia))) z)
 lia
theorem nQ{q:Addr}{ks:xD}{Q:xB}(F:Fr h₀ L s.heap m)(N:News h₀ L s.heap news)(hl:s.heap.IsList l vs.toArray)(h64:vs.length<64)(tt:F2 (λv k=>nO prog w A.in1.in1 news (.ref q) v k s) vs ks)(nd:ks.Nodup)(sm:∀w∈ks,w.2<1000000)
  (k:∀D (p:List Nat) c h' tk,Fr h₀ L h' m->News h₀ L h' ((D,seqObj "list" (p.map (λi=>vs.getD i Value.none)).toArray c)::news)->(∀q∈news,q.1<D)->p.Perm (List.range vs.length)->(p.Pairwise λi j=>rkP (ks.getD i (0,0))<rkP (ks.getD j (0,0)))->Q (.ref D) { s with heap:=h',toks:=tk }) :
  wpAny (model prog w) A (call (.builtin "sorted") [.ref l] [(Str.ofString "key", .ref q)]) Q E s:=by
 have hlen:ks.length=vs.length:=tt.length_eq.symm;by_cases h2:vs.length<2
 ·refine DX F N hl h2 λD kS e1 h' F' N' l0 l1=>?_
  have nN:∀p∈news,p.1≠kS:=λp hp=>qB (Nat.lt_trans (l1 p hp) l0)
  refine A_ (KS:=ks) (s:=s) (qB l0) nN (λown us kd e h tk F2 N2 n1 n2 g ek=>?_) vs ks [] [] [] 0 h' s.toks tt rfl F' N' (λ_ hp=>nomatch hp) (λ_ hp=>nomatch hp) .nil;refine KatFin.intro (s:={ s with heap:=h,toks:=tk }) F2 N2 (UpdF.head λp hp=>?_) λh3 c F3 N3=>?_
  ·rcases vS.mp hp with rfl|hp
   ·exact qB l0
   ·exact(wP.mp hp).elim (n1 p) (nN p)
  ·refine KasFin.intro (s:={ s with heap:=h3,toks:=tk }) F3 N3 (UpdF.tail (Nat.ne_of_gt l0) (UpdF.head λp hp=>(wP.mp hp).elim (n2 p) λz=>qB (l1 p z))) λh4 c4 F4 N4=>?_
   refine k D (List.range vs.length) c4 h4 tk F4 (λp hp=>?_) l1 (List.Perm.refl _) ?_
   ·rw[dj] at hp;rcases vS.mp hp with rfl|hp
    ·exact N4 _ (zD _ zC)
    ·exact N4 p (zD _ (zD _ (uC _ hp)))
   ·rw[List.pairwise_iff_getElem];intro i j hi hj hij;rw[List.length_range] at hi hj
    lia
 ·have h2:2<=vs.length:=by lia
  refine kat_sortedK (b:=false) (f:=.ref q) F N hl h2 h64 (ksk_s1 _ _) (λx=>ksk_l1 _ _) (λx=>ksk_t1 q x) λD kS e1 h' F' N' l0 l1=>?_
  have nN:∀p∈news,p.1≠kS:=λp hp=>qB (Nat.lt_trans (l1 p hp) l0)
  refine A_ (KS:=ks) (s:=s) (qB l0) nN (λown us kd e h tk F2 N2 n1 n2 g ek=>?_) vs ks [] [] [] 0 h' s.toks tt rfl F' N' (λ_ hp=>nomatch hp) (λ_ hp=>nomatch hp) .nil;subst ek;have ul:us.length=vs.length:=by rw[g.length_eq,hlen]
  have hh:∀p∈own,h.get? p.1=some p.2:=λp hp=>(N2 p (zD _ (zD _ (nV _ hp)))).1
  obtain⟨fs,kt,fl,Rv⟩:=Ay hh g;refine kat_kind (s:={ s with heap:=h,toks:=tk }) (T:=.type "int") kt (by lia) (λv hv=>?_) rfl ?_
  ·obtain⟨z,t,rfl⟩:=Rv v hv;exact Looks.of_pure rfl
  ·refine Kc (n:=vs.length) (rk:=λi=>rkP (kd.getD i (0,0))) (P:=λp=>Pp vs.length p/\UpK (λi=>rkP (kd.getD i (0,0))) p vs.length) (λi j C hi hj hij hC=>?_) (λp hp=>?_) _ (Aw (by lia) λp a b=>⟨a,b⟩)
   ·exact NK (us:=us) (s:={ s with heap:=h,toks:=tk }) hh g nd sm (by rw[ul];exact hi) (by rw[ul];exact hj) hij hC
   ·obtain⟨pp,pw⟩:=Wf hlen nd sm hp.1 hp.2;refine KatFin.intro (s:={ s with heap:=h,toks:=tk }) F2 N2 (UpdF.head λp hp=>?_) λh3 c F3 N3=>?_
    ·rcases vS.mp hp with rfl|hp
     ·exact qB l0
     ·exact(wP.mp hp).elim (n1 p) (nN p)
    ·refine KasFin.intro (s:={ s with heap:=h3,toks:=tk }) F3 N3 (UpdF.tail (Nat.ne_of_gt l0) (UpdF.head λp hp=>(wP.mp hp).elim (n2 p) λz=>qB (l1 p z))) λh4 c4 F4 N4=>?_
     refine k D p.toList c4 h4 tk F4 (λp hp=>?_) l1 pp pw;rcases vS.mp hp with rfl|hp
     ·exact N4 _ (zD _ zC)
     ·exact N4 p (zD _ (zD _ (uC _ hp)))
end
def swP(w:Nat×Nat):Nat×Nat:=(w.2,w.1)
theorem Kq{a b:Nat×Nat}(h:swP a=swP b):a=b:=by
 unfold swP at h;exact Prod.ext (qV Prod.snd h) (qV Prod.fst h)
def jW(ws:xD):Prop:=ws.Pairwise λa b=>rkP (swP a)<rkP (swP b)
def RL(K:W.Frag):List V->V->Hp->VK->Prop:=λvs y H Q=>∃(l f:Addr)(xs:List V)(ws:xD),vs=[.ref l]/\y=.ref f/\jq H f/\SqL K H l xs/\aB H xs (aF ws)/\(ws.length<64/\ws.Nodup/\∀w∈ws,w.1<1000000)/\∀qs:List (Nat×Nat),qs.Perm ws/\jW qs->∀D zs H',New H H' D (.lst zs)->aB H' zs (aF qs)->Q (.ref D) H'
theorem xg{α β:Type}{g:α->β}(hg:∀a b,g a=g b->a=b){l:List α}(h:l.Nodup):(l.map g).Nodup:=List.pairwise_map.mpr (h.imp λn e=>n (hg _ _ e))
theorem Iw{X:Cx}{K:W.Frag}{k:Nat}(hK:X.K=K)(hr:Room k X.A):XC X "sorted" "key" (RL K):=by
 intro pins s σ H vs us y u Q I rv ry h;subst hK;obtain⟨l,f,xs,ws,rfl,rfl,lam,hq,tp,⟨h64,nd,sm⟩,q⟩:=h;cases ry;rcases rv with _|⟨r,_|_⟩;cases r;obtain⟨qual,x,params,p1,p2,p3,p4,p5,p6,p7,j,j2,j3,scope,pm,ctv,c',oc,cv,t,ef,ec,ed,e1,S,hb⟩:=lam;obtain⟨its,rv,p,hz⟩:=I.list hq;obtain⟨m,hm,_⟩:=id I.loc;have hlen:its.length=xs.length:=rv.length.symm;have hw:xs.length=ws.length:=by rw[tp.1,aG]
 have nL:∀{b:Addr} {u:HO},H b=some u->b≠X.env.locals:=λ{b u} e z=>by rw[z,I.free] at e;cases e
 have refs:∀v∈xs,∃q,v=V.ref q:=λv hv=>by
  obtain⟨i,hi,e⟩:=List.getElem_of_mem hv;obtain⟨r,q,_,e2,_⟩:=dD tp (i:=i) (v:=v) (by rw[<- e];simp);exact⟨q,e2⟩
 obtain⟨xb,ub⟩:=iQ rv refs;have F0:Fr { objs:=#[] } X.env.locals s.heap m:=⟨hm,λb o e=>by
  have e:Heap.get? { objs:=#[] } b=some o:=e;simp[Heap.get?] at e,Nat.zero_le _⟩
 have N0:News { objs:=#[] } X.env.locals s.heap (gk s.heap X.env.locals):=λp hp=>⟨(eU hp).1,(eU hp).2,rfl⟩
 have f2:F2 (λv k=>nO X.prog X.w X.A.in1.in1 (gk s.heap X.env.locals) (.ref f) v k s) its (ws.map swP):=DP (by rw[wE];lia) λi v c hv hc h tk hh=>by
  have hx:xs[i]?=some (dO v):=by rw[xb,wS,hv];rfl
  obtain⟨r,q,e1',e2,e3⟩:=dD tp hx;obtain⟨q',rfl⟩:=ub v (yT hv);cases e2;unfold aF at e1';rw[wS] at e1' hc;cases ew:ws[i]? with
  | none=>rw[ew] at hc;cases hc
  | some w =>
   rw[ew] at e1' hc;cases e1';cases hc;have kp:∀b o,b≠X.env.locals->s.heap.get? b=some o->h.get? b=some o:=λb o n e=>hh (b,o) (cF e n)
   obtain⟨_,its2,rv2,ob,et,ec2,n2,ed2⟩:=I.hok _ _ e3;rcases rv2 with _|⟨⟨tk1,rfl⟩,_|⟨⟨tk2,rfl⟩,_|_⟩⟩;have lim:h.NoLimit:=I.ok.mod.nolimit.keeps λb o e=>kp b o (qB (qA (gS e) (rS I.ok.bsz I.ok.above))) (I.bk b o e)
   refine Zz (A:=X.A.in1.in1) (s:={ s with heap:=h,toks:=tk }) (show X.A.depth<_ from hr.depth) (kp _ _ (nL ef) (I.hok f _ ef).1) ⟨c',oc,cv,t,rfl,kp _ _ (nL ec) (I.hok c' _ ec).1,ed,e1⟩ lim S (hb _) (its:=[.int (w.1:Nat) tk1,.int (w.2:Nat) tk2]) ⟨ob,kp _ _ (nL e3) et,ec2,n2,ed2⟩ rfl rfl λh' tk' a k2 ha ho=>?_
   exact⟨a,h',tk',tk2,tk1,rfl,rfl,k2,ha,ho⟩
 refine nQ F0 N0 p.isList (by lia) f2 (xg (λa b=>Kq) nd) (λw hw=>by obtain⟨v,hv,rfl⟩:=vT.mp hw;exact sm v hv) λD ps c h' tk' F N hD pp up=>?_
 have hn:s.heap.get? D=none:=by
  cases e:s.heap.get? D with
  | none=>rfl
  | some o =>
   have:=hD (D,o) (cF e (N (D,seqObj "list" _ c) zC).2.1);exact gE this (qE _)
 have hn2:H D=none:=by
  cases e:H D with
  | none=>rfl
  | some u =>
   obtain⟨ob,e2⟩:=(I.hok D u e).is;rw[hn] at e2;cases e2
 have plt:∀i∈ps,i<its.length:=λi hi=>by simpa using pp.mem_iff.mp hi
 have hin:∀u∈ps.map (λi=>its.getD i Value.none),∃q,u=Value.ref q:=λu hu=>by
  obtain⟨i,hi,rfl⟩:=vT.mp hu;exact ub _ (getD_mem (plt i hi))
 have eb:(ps.map λi=>its.getD i Value.none).map dO=ps.map λi=>xs.getD i .non:=by
  rw[List.map_map];refine List.map_congr_left λi hi=>?_
  have:=plt i hi;show dO (its.getD i .none)=xs.getD i .non;rw[xb,rX,rX,wS,jS this]
  rfl
 have lo:ps.length=xs.length:=by rw[pp.length_eq,List.length_range,hlen]
 have nw:New H (upd H D (.lst ((ps.map λi=>its.getD i Value.none).map dO))) D (.lst ((ps.map λi=>its.getD i Value.none).map dO)):=New.mk' hn2;refine⟨.ref D,upd H D (.lst ((ps.map λi=>its.getD i Value.none).map dO)),I.Ka (t':=tk') (λb u n e=>(N (b,u) (zD _ (cF e n))).1) hm F.ns hn ?_,rfl,q (ps.map λi=>ws.getD i (0,0)) ⟨?_,List.pairwise_map.mpr (up.imp_of_mem λ{i j} hi hj z=>?_)⟩ D _ _ nw ?_⟩
 ·refine⟨by rw[wE,wE,lo];exact hz,_,c,kY hin,?_⟩;exact(N (D,seqObj "list" _ c) zC).1
 ·have:=pp.map λi=>ws.getD i (0,0)
  rw[show its.length=ws.length by lia,dj] at this;exact this
 ·have g:∀i∈ps,(ws.map swP).getD i (0,0)=swP (ws.getD i (0,0)):=λi hi=>by
   have:=plt i hi;rw[rX,rX,wS,jS (show i<ws.length by lia)]
   rfl
  rw[<- g i hi,<- g j hj];exact z
 ·rw[eb];refine⟨by rw[wE,aG,wE],λj r e=>?_⟩;unfold aF at e;rw[List.map_map,wS] at e;cases e0:ps[j]? with
  | none=>rw[e0] at e;cases e
  | some i =>
   rw[e0] at e;have hi:=plt i (yT e0);have hx:xs[i]?=some (xs.getD i .non):=by rw[getD_get (show i<xs.length by lia)];simp
   obtain⟨r2,q2,g1,g2,g3⟩:=dD tp hx;unfold aF at g1;rw[wS,jS (show i<ws.length by lia)] at g1;refine⟨q2,by rw[wS,e0,Option.map_some,g2],?_⟩;have g4:=nw.s _ _ g3;rw[eb] at g4;rw[g4];have e:[V.int ((ws.getD i (0,0)).1:Nat),V.int ((ws.getD i (0,0)).2:Nat)]=r:=by simpa using e
   rw[<- e,getD_get (show i<ws.length by lia)];cases g1
   rfl
section
variable{K:W.Frag}{H0 H:Hp}{M:List Addr}{L L':List (Addr×HO)}{I:List Im}{Q:VK}{l f P:Addr}{ys:List V}{ws:xD}{pos:Pos}{qual:Str}{ps:xI}{σ:St}{R:Hp->Prop}
theorem jq.st:∀H H',Tst H H'->jq H f->jq H' f:=λH H' t h=>by
 obtain⟨a1,a2,a3,a4,a5,a6,a7,a8,a9,a10,a11,a12,a13,a14,a15,a16,a17,a18,a19,a20,e1,e2,r⟩:=h;exact⟨a1,a2,a3,a4,a5,a6,a7,a8,a9,a10,a11,a12,a13,a14,a15,a16,a17,a18,a19,a20,t _ _ rfl e1,t _ _ rfl e2,r⟩
abbrev ZC(f:Addr):Im:=.fct (λH=>jq H f) jq.st
class ab7(I:List Im)(f:Addr):Prop where
 m:ZC f∈I
instance aga:ab7 (ZC f::I) f:=⟨zC⟩
instance adH[F:SH H0 M H L I][e:LkL L P (.tbl ps)][t:DN I pos qual ps]:Go (XS P pos qual σ H Q) (∀(f:Addr)(ps':xI)(H':Hp),Kp P H H'->H' P=some (.tbl ps')->TabOk pos qual ps' H'->jq H' f->Q (.ref f) H'):=⟨λk=>⟨ps,F.raw e.m,F.im _ t.m,k⟩⟩
instance adI[F:SH H0 M H L I][u:LkU L P (.tbl ps) L']:Go (∀H',Kp P H H'->H' P=some (.tbl ps)->TabOk pos qual ps H'->jq H' f->R H') (∀H',SH H0 M H' L' (ZC f::eF pos qual ps::I)->R H'):=⟨λk H' f e t g=>k H' (((F.kp f e u.u rfl).rD t).rD g)⟩
instance ab8[F:SH H0 M H L I][b:ab7 I f][h:SqA K H l ys][t:TpA H ys (aF ws)]:Go (RL K [.ref l] (.ref f) H Q) (Sd (ws.length<64/\ws.Nodup/\∀w∈ws,w.1<1000000) (∀qs:List (Nat×Nat),qs.Perm ws/\jW qs->∀D zs H',New H H' D (.lst zs)->aB H' zs (aF qs)->Q (.ref D) H')):=⟨λs=>⟨l,f,ys,ws,rfl,rfl,F.im _ b.m,h.e,t.e,s.1,s.2⟩⟩
end
section
variable{P:Program}{w:World}{K:W.Frag}{mg:xC}{base:Heap}{CX:CXT}{k:Nat}{x:Str}{st:Stmt}{c:Addr}{N ps:List Str}{sp:Sp}
def Ks(K:W.Frag)(mg:xC)(x:Str)(st:Stmt)(c:Addr):Prop:=∃(f:Addr)(fd:FuncData),Fun K x x st f fd/\fd.code=.ref c/\mg x=some (.ref f)
theorem Wg(h:Ks K mg x st c)(S:aJ N ps (au st))(len:∀vs H Q E,sp vs H Q E->vs.length=ps.length)
  (hb:∀(kV doc pm:Value)(an:xL)(cdv ct:Value)(us:xE),us.length=ps.length->bindArgs (W.fnOf x x (bF st) (bf st) (au st) .none kV doc pm an cdv ct) ⟨us,[]⟩=pure (ps.zip us))
  (hbody:∀(f:Addr)(A:Around)(outer:List Env)(s:Shared)(H:Hp)(vs:List V)(Q:VK)(E:XK),Room k (A.deeper (envOfC x (au st) s.heap.objs.size f (.ref c)))->sp vs H Q E ->
   ∃t,PSs (fu CX P w K mg base N x (au st) f (.ref c) A outer s H E).nox (bf st) t/\t { nx:=λ_ H'=>Q .non H',rt:=Q } (start N vs) H):Def P w K mg base CX (k+1) x ps sp:=by
 obtain⟨f,fd,F,hc,m⟩:=h;refine⟨f,fd,?_,m,F.kp,F.binds hb⟩;obtain⟨oc,od,kV,doc,pm,an,cdv,ct,osl,rfl,lk,hcd⟩:=F.ex;obtain rfl:cdv=.ref c:=hc;refine mY lk hcd S len λA outer s H vs Q E hr hsp=>?_
 obtain⟨t,h,q⟩:=hbody f A outer s H vs Q E hr hsp;exact⟨t,h.nox,q⟩
end
end L2
namespace L2
open PySem PySem.W PySem.Spec PyProof.Rows
section
variable{P:Program}{w:World}{K:W.Frag}{mg:xC}{base:Heap}{k:Nat}{x nm qual:Str}{ps ks:List Str}{sp:Sp}{ds:xE}{C:Addr}
theorem Iz{st:Stmt}{N:List Str}{f:Addr}(h:XR K nm qual st ds f)(S:aJ N ps (au st))(hm:Mk K C f)(hg:mg x=some (.ref C))(len:∀vs H Q E,sp vs H Q E->vs.length=ps.length)
  (hb:∀(d:Addr)(kV doc pm:Value)(an:xL)(cdv ct:Value)(us:xE),us.length=ps.length->∃c:Option (Array Value)->Sem (List (Str×Value)),bindArgs (W.fnOf nm qual (bF st) (bf st) (au st) (.ref d) kV doc pm an cdv ct) ⟨us,[]⟩=seqItems? (.ref d) >>= c/\c (some ds.toArray)=pure (ps.zip us))
  (hd:∀(d:Addr)(kV doc pm:Value)(an:xL)(cdv ct:Value)(us:xE),(us++ds).length=ps.length->∃c:Option (Array Value)->Sem (List (Str×Value)),bindArgs (W.fnOf nm qual (bF st) (bf st) (au st) (.ref d) kV doc pm an cdv ct) ⟨us,[]⟩=seqItems? (.ref d) >>= c/\c (some ds.toArray)=pure (ps.zip (us++ds)))
  (hk:∀(d:Addr)(kV doc pm:Value)(an:xL)(cdv ct:Value)(us ws:xE),(w6 us ws).length=ps.length->∃c:Option (Array Value)->Sem (List (Str×Value)),bindArgs (W.fnOf nm qual (bF st) (bf st) (au st) (.ref d) kV doc pm an cdv ct) ⟨us,ks.zip ws⟩=seqItems? (.ref d) >>= c/\c (some ds.toArray)=pure (ps.zip (w6 us ws)))
  (hbody:∀(f:Addr)(cdv:Value)(A:Around)(outer:List Env)(s:Shared)(H:Hp)(vs:List V)(Q:VK)(E:XK),Room k (A.deeper (envOfC qual (au st) s.heap.objs.size f cdv))->sp vs H Q E ->
   ∃t,PSs (fu (CX1 P w) P w K mg base N qual (au st) f cdv A outer s H E) (bf st) t/\t { nx:=λ_ H'=>Q .non H',rt:=Q } (start N vs) H):Zu P w K mg base (CX1 P w) (k+1) x C ps sp ds ks:=by
 obtain⟨d,oc,od,kV,doc,pm,an,cdv,ct,osl,o,n,lk,hcd,ld,hdt⟩:=h;refine⟨f,W.fnOf nm qual (bF st) (bf st) (au st) (.ref d) kV doc pm an cdv ct,?_,hm,hg,λs us kin hl=>?_,λs us kin hl=>?_,⟨λs us ws kin hl=>?_,λ{vs us zs ws} r rz=>?_⟩⟩
 ·refine mY lk hcd S len λA outer s H vs Q E hr hsp=>?_
  exact hbody f cdv A outer s H vs Q E hr hsp
 ·rw[nX] at hl ⊢;obtain⟨c,h1,h2⟩:=hb d kV doc pm an cdv ct us hl;exact BindsTo.of_defaults rfl (kin _ _ ld) hdt h1 h2
 ·obtain⟨c,h1,h2⟩:=hd d kV doc pm an cdv ct us hl;exact BindsTo.of_defaults rfl (kin _ _ ld) hdt h1 h2
 ·obtain⟨c,h1,h2⟩:=hk d kV doc pm an cdv ct us ws hl;exact BindsTo.of_defaults rfl (kin _ _ ld) hdt h1 h2
 ·unfold w6 Ry;rw[rz.length];rcases rz with _|⟨r1,_|⟨r2,_|⟨r3,r4⟩⟩⟩
  ·exact .nil
  ·exact .nil
  ·exact r.append (.cons r2 (.cons r1 .nil))
  ·rename_i l1 l2;have e:¬ (l2.length+1+1+1=2):=by lia
   simp only[List.length_cons];rw[yA e,yA e];exact .nil
end
end L2
namespace L2
open PySem PySem.Spec PyProof.Rows PySem.SeqAt
def RM(K:W.Frag):List V->Hp->VK->Prop:=λxs H Q=>∃x d,xs=[x]/\(∀X:Cx,X.K=K->Shows X H x d)/\d.showable=true/\d.depth<=100/\d.shown.length<=sizeLine/\Q (.str d.shown) H
theorem NP{X:Cx}{K:W.Frag}{k:Nat}(hK:X.K=K)(hr:Room k X.A):g_ X (.builtin "repr") (RM K):=by
 intro pins s σ H xs us Q I r h;obtain⟨x,d,rfl,sh,h1,h2,h3,q⟩:=h;exact Nf hr pins s σ H _ us Q I r ⟨x,d,rfl,sh X hK,h1,h2,h3,q⟩
abbrev flD(v:V):PyData:=pyD (eE v)
theorem oZ:∀vs:List V,zQ (vs.map eE)=vs.map flD
 | []=>rfl
 | v::vs=>by simp[zQ,oZ vs]
inductive ThD(H:Hp):V->PyData->Prop
 | flat {v:V} (h:cP v=true) (z:Shm 500 1 (flD v)):ThD H v (flD v)
 | lst {p:Addr} {vs:List V} (e:H p=some (.lst vs)) (h:∀v∈vs,cP v=true) (z:Shm 500 1 (.list (vs.map flD))):ThD H (.ref p) (.list (vs.map flD))
 | tup {p:Addr} {vs:List V} (e:H p=some (.tup vs)) (h:∀v∈vs,cP v=true) (z:Shm 500 1 (.tuple (vs.map flD))):ThD H (.ref p) (.tuple (vs.map flD))
 | dct {p:Addr} (e:H p=some (.dK [])):ThD H (.ref p) (.dict [])
theorem NQ:Shm 500 1 (.dict []):=⟨by decide +kernel,by decide +kernel,by decide +kernel⟩
section
variable{H H':Hp}{v:V}{d:PyData}
theorem ThD.shm(h:ThD H v d):Shm 500 1 d:=by
 cases h with
 | flat _ z=>exact z
 | lst _ _ z=>exact z
 | tup _ _ z=>exact z
 | dct _=>exact NQ
theorem ThD.kept(h:ThD H v d)(k:∀a u,v=.ref a->H a=some u->H' a=some u):ThD H' v d:=by
 cases h with
 | flat h z=>exact .flat h z
 | lst e h z=>exact .lst (k _ _ rfl e) h z
 | tup e h z=>exact .tup (k _ _ rfl e) h z
 | dct e=>exact .dct (k _ _ rfl e)
theorem ThD.shows{X:Cx}(h:ThD H v d):Shows X H v d:=by
 cases h with
 | flat h z=>exact oW (Ds h)
 | lst e h z =>
  have:=oW (X:=X) (H:=H) (d:=.lst (_)) (by simp only[Rep];exact⟨_,_,rfl,SqL.of e,gF h⟩);rw[pyD,oZ] at this;exact this
 | tup e h z =>
  have:=oW (X:=X) (H:=H) (d:=.tup (_)) (by simp only[Rep];exact⟨_,_,rfl,SqT.of e,gF h⟩);rw[pyD,oZ] at this;exact this
 | dct e=>exact Dy e
end
class FlA(v:V)(d:outParam PyData):Prop where
 f:cP v=true
 e:d=flD v
 z:Shm 500 1 d
class FlL(xs:List V)(ds:outParam (List PyData)):Prop where
 e:∀(h:Heap)(us:xE),Vals xs us->ReadsAll h us ds []
 z:∀d∈ds,Shm 500 1 d
 l:ds.length=xs.length
 nd:PyData.hasDictAll ds=false
class ThA(H:Hp)(v:V)(d:outParam PyData):Prop where
 e:ThD H v d
class ZD(H0:Hp)(M:List Addr)(v:V)(d:outParam PyData):Prop where
 e:ThD H0 v d
 n:∀a,v=.ref a->a ∉ M
class ShL(H:Hp)(xs:List V)(ds:outParam (List PyData)):Prop where
 e:∀(X:Cx) (pins:List (Addr×Obj)) (σ:St) (s:Shared) (us:xE),Inv X pins σ H s->Vals xs us->∃as,ReadsAll s.heap us ds as/\(PyData.hasDictAll ds=true->sysModules ∉ as)
 z:∀d∈ds,Shm 500 1 d
 l:ds.length=xs.length
class TxA(x:Str):Prop where
 z:Shm 500 1 (.str x)
class NmA(i:Int):Prop where
 z:i.natAbs<10 ^ 40
section
variable{H H0:Hp}{M:List Addr}{L:List (Addr×HO)}{I:List Im}{v:V}{d:PyData}{x:Str}{i:Int}{b:Bool}
theorem qD{x:Str}(h:(x.cps.toList.all λc=>decide (c<16 ^ 8))=true)(l:x.length<=40):TxA x:=⟨(VN λc hc=>by simpa using List.all_eq_true.mp h c hc).mono (by lia) (by decide)⟩
instance afd[t:TxA x]:FlA (.str x) (.str x):=⟨rfl,rfl,t.z⟩
instance ZF[t:NmA i]:FlA (.int i) (.int i):=⟨rfl,rfl,(JZ (k:=40) (by decide) t.z (by decide)).mono (by decide) (by decide)⟩
instance agb:FlA (.bl b) (.bool b):=⟨rfl,rfl,(YJ b).mono (by decide) (by decide)⟩
instance afe:FlA .non .none:=⟨rfl,rfl,VP.mono (by decide) (by decide)⟩
instance Wh[f:FlA v d]:ThA H v d:=⟨by rw[f.e];exact .flat f.f (f.e▸f.z)⟩
instance afg[F:SH H0 M H L I][h:ZD H0 M v d]:ThA H v d:=⟨h.e.kept λa u e hu=>F.fr a u (h.n a e) hu⟩
end
theorem Wi{l:Addr}{es:Array DictEntry}{n:Nat}{dd:xL}{sl:Array (Option Value)}{b:Str}{u:Tok} :
  Meets (Builtin.«dict.__eq__» ⟨[.ref l,.str b u],[]⟩)
   (λ_ R s=>s.heap.get? l=some ⟨.type "dict", dd,.dict es n,sl⟩/\R (.ok (.ret .notImplemented)) s):=by
 refine .of_wp λprog w A R s h=>?_
 obtain⟨hp,g,d,tk,os⟩:=s;obtain⟨hl,h⟩:=h;have f1:=F.sub_str_dict
 wp_walk using wpAny_loadPart' hl
 exact⟨_,rfl,h⟩
theorem ZG{l:Addr}{es:Array DictEntry}{n:Nat}{dd:xL}{sl:Array (Option Value)}{b:Str}{u:Tok} :
  Meets (Builtin.«str.__eq__» ⟨[.str b u,.ref l],[]⟩)
   (λ_ R s=>s.heap.get? l=some ⟨.type "dict", dd,.dict es n,sl⟩/\R (.ok (.ret .notImplemented)) s):=by
 refine .of_wp λprog w A R s h=>?_
 obtain⟨hp,g,d,tk,os⟩:=s;obtain⟨hl,h⟩:=h
 wp_walk using wpAny_loadPart' hl,wpAny_load hl
 exact⟨_,rfl,h⟩
def ZJ(K:W.Frag):R2:=λx y H Q=>∃s,y=.str s/\((Yu x y=true/\Q (.bl (decide (x=y))) H)\/∃p,x=.ref p/\((∃xs,SqL K H p xs\/SqT K H p xs)\/H p=some (.dK []))/\Q (.bl false) H)
theorem fU{X:Cx}{K:W.Frag}{k:Nat}(hK:X.K=K)(hr:Room k X.A):OpR X (compareOp .Eq) (ZJ K):=by
 subst hK;intro pins s σ H x y v u Q I rx ry h;obtain⟨z,rfl,h⟩:=h;rcases h with⟨h1,h2⟩|⟨p,rfl,hp,q⟩
 ·exact gh pins s σ H x _ v u Q I rx ry ⟨h1,h2⟩
 ·cases rx;obtain⟨t,rfl⟩:=ry;have hu:X.A.units<cLine:=by have:=hr.un;lia
  rcases hp with⟨xs,hp|hp⟩|hp
  ·obtain⟨us,ru,pu,_⟩:=I.list hp;exact RcAt.list_str (A:=X.A) (s:=s) z t pu.isList hu X.prog X.w X.xe _ ⟨.bl _,H,I,rfl,q⟩
  ·obtain⟨us,ru,pu,_⟩:=I.tuple hp;exact RcAt.tuple_str (A:=X.A) (s:=s) z t pu hu X.prog X.w X.xe _ ⟨.bl _,H,I,rfl,q⟩
  ·obtain⟨_,hs,vs,kv,o,es,ep,ho,hx,hd,hk,hp',hnd⟩:=Xx I.hok hp;obtain⟨cls,dd,data,sl⟩:=o;obtain rfl:cls=.type "dict":=hx.1;obtain rfl:data=.dict es ep:=hd;exact rc_eq_decline_or (k:=false) ⟨_,ho,rfl⟩ (typeIs_str s z t) (by decide) F.sub_str_dict F.slot_dict_eq F.slot_str_eq_refl
    (λ_ hq=>call_meets F.slot_dict_eq ⟨_,ho,rfl⟩ F.entry_dict_eq (F.args_dict_eq_2 _ _) Wi ⟨ho,hq⟩)
    (λ_ hq=>call_meets F.slot_str_eq_refl (typeIs_str s z t) F.entry_str_eq (F.args_str_eq_2 _ _) ZG ⟨ho,hq⟩)
    (λ_ hq=>wpAny_of_eq (rfl:isSame (.ref p) (.str z t)=pure false) hq) (.inr hu) ⟨.bl _,H,I,rfl,q⟩
theorem ZK{K:W.Frag}{H:Hp}{v:V}{d:PyData}{s:Str}{Q:VK}(h:ThD H v d)(k:Q (.bl (decide (v=.str s))) H):ZJ K v (.str s) H Q:=by
 cases h with
 | flat h z =>
  refine⟨s,rfl,.inl ⟨?_,k⟩⟩;cases v with
  | non=>rfl
  | bl b=>rfl
  | int i=>rfl
  | str x=>rfl
  | _=>simp[cP] at h
 | lst e h z=>exact⟨s,rfl,.inr ⟨_,rfl,.inl ⟨_,.inl (SqL.of e)⟩,by simpa using k⟩⟩
 | tup e h z=>exact⟨s,rfl,.inr ⟨_,rfl,.inl ⟨_,.inr (SqT.of e)⟩,by simpa using k⟩⟩
 | dct e=>exact⟨s,rfl,.inr ⟨_,rfl,.inr e,by simpa using k⟩⟩
instance afh{K:W.Frag}{H:Hp}{v:V}{d:PyData}{s:Str}{Q:VK}[h:ThA H v d]:Go (ZJ K v (.str s) H Q) (Q (.bl (decide (v=.str s))) H):=⟨λk=>ZK h.e k⟩
structure Zp5(z TI TO i1 i2:Addr):Prop where
 a:TI≠z/\TO≠z/\i1≠z/\i2≠z
 b:TI≠TO/\TI≠i1/\TI≠i2
 c:TO≠i1/\TO≠i2/\i1≠i2
end L2
set_option maxHeartbeats 400000
namespace L2
open PySem PySem.Spec PyProof.Rows PySem.SeqAt
end L2
set_option maxHeartbeats 1000000
namespace L2
open PySem PySem.Spec PyProof.Rows PySem.SeqAt
mutual
def TrH(H:Hp):Dt->V->Prop
 | .non,v=>v=.non
 | .bl b,v=>v=.bl b
 | .int i,v=>v=.int i
 | .str x,v=>v=.str x
 | .lst ds,v=>∃p xs,v=.ref p/\H p=some (.lst xs)/\ZL H ds xs
 | .tup ds,v=>∃p xs,v=.ref p/\H p=some (.tup xs)/\ZL H ds xs
def ZL(H:Hp):List Dt->List V->Prop
 | [],xs=>xs=[]
 | d::ds,xs=>∃x r,xs=x::r/\TrH H d x/\ZL H ds r
end
mutual
def rE:Dt->Bool
 | .bl _=>true
 | .lst ds=>nR ds
 | .tup ds=>nR ds
 | _=>false
def nR:List Dt->Bool
 | []=>false
 | d::ds=>rE d || nR ds
end
mutual
def afi:Dt->Prop
 | .lst ds=>ds.length<=1000/\RN ds
 | .tup ds=>ds.length<=1000/\RN ds
 | _=>True
def RN:List Dt->Prop
 | []=>True
 | d::ds=>afi d/\RN ds
end
mutual
def lX:Dt->Dt->Bool
 | .lst xs,.lst ys=>jr xs ys
 | .tup xs,.tup ys=>jr xs ys
 | _,.lst _=>false
 | _,.tup _=>false
 | .bl a,.bl b=>a==b
 | .bl _,_=>false
 | _,.bl _=>false
 | x,y=>fB x y
def jr:List Dt->List Dt->Bool
 | [],[]=>true
 | x::xs,y::ys=>lX x y && jr xs ys
 | _,_=>false
end
mutual
theorem RP:∀(y x:Dt),rE y=false->lX x y=(fB x y && !rE x)
 | .non,x,_=>by cases x <;> simp[lX,fB,rE]
 | .bl b,x,h=>by simp[rE] at h
 | .int i,x,_=>by cases x <;> simp[lX,fB,rE]
 | .str s,x,_=>by cases x <;> simp[lX,fB,rE]
 | .lst ys,x,h=>by
  simp only[rE] at h;cases x <;> simp[lX,fB,rE]
  exact o_ ys _ h
 | .tup ys,x,h=>by
  simp only[rE] at h;cases x <;> simp[lX,fB,rE]
  exact o_ ys _ h
theorem o_:∀(ys xs:List Dt),nR ys=false->jr xs ys=(eN xs ys && !nR xs)
 | [],xs,_=>by cases xs <;> simp[jr,eN,nR]
 | y::ys,xs,h=>by
  simp only[nR,Bool.or_eq_false_iff] at h;cases xs with
  | nil=>simp[jr,eN]
  | cons x xs =>
   simp only[jr,eN,nR,RP y x h.1,o_ ys xs h.2];cases fB x y <;> cases eN xs ys <;> cases rE x <;> cases nR xs <;> rfl
end
def hides(B:List Addr)(H:Hp):Hp:=λa=>if a∈B then none else H a
def Al(H:Hp)(B:List Addr):Prop:=∀b∈B,∃xs,H b=some (.lst xs)
theorem Wj(v:V):gA (eE v)=0:=by cases v <;> simp[eE,gA]
theorem Wk:∀xs:List V,eO (xs.map eE)=0
 | []=>rfl
 | x::xs=>by simp only[List.map_cons,eO,Wj,Wk xs];rfl
end L2
set_option maxHeartbeats 4000000
namespace L2
open PySem PySem.Spec PyProof.Rows PySem.SeqAt
section
def ztH(h:Heap)(a b:Addr):Heap:=((((h.push { cls:=.type "tuple_iterator", data:=.fields #[.ref a,.int 0 0] }).push { cls:=.type "tuple_iterator", data:=.fields #[.ref b,.int 0 0] }).push { cls:=.type "tuple", data:=.seq #[.ref h.objs.size,.ref (h.objs.size+1)] }).push { cls:=.type "tuple", data:=.seq #[.none,.none] }).push { cls:=.type "zip", data:=.fields #[.none,.bool false,.bool false,.ref (h.objs.size+2),.ref (h.objs.size+3)] }
end
def tEi(t u:TE):TE:=λσ H Q=>t σ H Q\/u σ H Q
theorem uf{X:Cx}{e:Expr}{t u:TE}(h1:PE X e t)(h2:PE X e u):PE X e (tEi t u):=λpins s σ H Q I h=>h.elim (h1 pins s σ H Q I) (h2 pins s σ H Q I)
theorem IK{t u:TE}{σ:St}{H:Hp}{Q:VK}(h:t σ H Q):tEi t u σ H Q:=.inl h
theorem fC{t u:TE}{σ:St}{H:Hp}{Q:VK}(h:u σ H Q):tEi t u σ H Q:=.inr h
end L2
namespace L2
open PySem PySem.W PySem.Spec PyProof.Rows
def afj(lo st:Int)(n:Nat):List V:=(List.range n).map λi=>V.int (lo+(i:Nat)*st)
end L2
namespace L2
open PySem PySem.Spec PyProof.Rows PySem.SeqAt
section
variable{nms:List (List Nat)}{cs:List Nat}
class agU(nms:List (List Nat))(cs:List Nat)(j:outParam Nat):Prop where
 a:nms[j]?=some cs
 n:nms.Nodup
end
end L2
namespace L2
open PySem PySem.Spec PyProof.Rows
end L2
set_option maxHeartbeats 1000000
namespace L2
open PySem PyProof.Rows
namespace TS
end TS
end L2
namespace L2
open PySem PyProof.Rows
namespace TS
section
variable{lt:Keyed->Keyed->Bool}
def le(lt:Keyed->Keyed->Bool)(x y:Keyed):Prop:=lt y x=false
abbrev Up(lt:Keyed->Keyed->Bool)(l:List Keyed):Prop:=l.Pairwise (le lt)
structure MI(lt:Keyed->Keyed->Bool)(la lb out:List Keyed)(i j:Nat):Prop where
 il:i<=la.length
 jl:j<=lb.length
 pm:out.Perm (la.take i++lb.take j)
 so:Up lt out
 ab:∀x∈out,∀y,y∈la.drop i\/y∈lb.drop j->le lt x y
end
end TS
end L2
namespace L2
open PySem PyProof.Rows
namespace TS
section
variable{M:Keyed->Prop}{lt:Keyed->Keyed->Bool}
structure SG(st st':SortSt):Prop where
 k:kindOf st'=kindOf st
 a:arrOf st'=arrOf st
 p:pendingOf st'=pendingOf st
 f:failedOf st'=failedOf st
structure Pre(M:Keyed->Prop)(lt:Keyed->Keyed->Bool)(la lb:List Keyed):Prop where
 Ma:∀x∈la,M x
 Mb:∀x∈lb,M x
 ua:Up lt la
 ub:Up lt lb
 na:la≠[]
 nb:lb≠[]
 lo:∀y,lb[0]?=some y->∀x∈la,le lt y x
 hi:∀y∈lb,∀x,la[la.length-1]?=some x->le lt y x
end
end TS
end L2
namespace L2
open PySem PyProof.Rows
namespace TS
section
variable{lt:Keyed->Keyed->Bool}{la lb rv:List Keyed}{i j:Nat}
structure MH(lt:Keyed->Keyed->Bool)(la lb rv:List Keyed)(i j:Nat):Prop where
 il:i<=la.length
 jl:j<=lb.length
 pm:rv.Perm (la.drop i++lb.drop j)
 so:Up lt rv
 ab:∀x,x∈la.take i\/x∈lb.take j->∀y∈rv,le lt x y
end
end TS
end L2
namespace L2
open PySem PyProof.Rows
namespace TS
end TS
end L2
namespace L2
open PySem PyProof.Rows
namespace TS
end TS
end L2
namespace L2
open PySem PyProof.Rows
namespace TS
end TS
end L2
namespace L2
open PySem PyProof.Rows
namespace TS
end TS
end L2
set_option maxHeartbeats 4000000
namespace L2
open PySem PySem.W PySem.Calls PySem.Spec PyProof.Rows
namespace TS
end TS
end L2
namespace L2
open PySem PySem.W PySem.Calls PySem.Spec PyProof.Rows
end L2
namespace L2
open PySem PySem.W PySem.Calls PySem.Spec PyProof.Rows PySem.SeqAt
end L2
set_option maxHeartbeats 1000000
namespace L2
open PySem PySem.Spec PyProof.Rows
section
variable{P:List Value->Prop}
theorem elS{n:Nat}(h:∀(a:Value)(us:xE),us.length=n->P (a::us))(us:xE)(hl:us.length=n+1):P us:=by
 cases us with
 | nil=>cases hl
 | cons a t=>exact h a t (Nat.succ.inj hl)
end
theorem el0{P:List Value->Prop}(h:P [])(us:xE)(hl:us.length=0):P us:=by
 rw[List.length_eq_zero_iff.mp hl];exact h
section
variable{P:List Value->Prop}
theorem el1(h:∀a,P [a])(us:xE)(hl:us.length=1):P us:=elS (λa=>el0 (h a)) us hl
theorem el2(h:∀a b,P [a,b])(us:xE)(hl:us.length=2):P us:=elS (λa=>el1 (P:=λt=>P (a::t)) (h a)) us hl
theorem el3(h:∀a b c,P [a,b,c])(us:xE)(hl:us.length=3):P us:=elS (λa=>el2 (P:=λt=>P (a::t)) (h a)) us hl
theorem el4(h:∀a b c d,P [a,b,c,d])(us:xE)(hl:us.length=4):P us:=elS (λa=>el3 (P:=λt=>P (a::t)) (h a)) us hl
end
class ImI(f:Im)(I:List Im):Prop where
 m:f∈I
class SbI(I' I:List Im):Prop where
 s:∀f∈I',f∈I
section
variable{f g:Im}{I I':List Im}
instance agV[h:ImI f I]:ImI f (g::I):=⟨zD _ h.m⟩
instance agW:ImI f (f::I):=⟨zC⟩
instance agX:SbI [] I:=⟨λ_ h=>gE h wT⟩
instance agY[h:ImI f I][t:SbI I' I]:SbI (f::I') I:=⟨λg hg=>(vS.mp hg).elim (λe=>e▸h.m) (t.s g)⟩
end
end L2
set_option maxHeartbeats 4000000
namespace L2
open PySem PySem.W PySem.Calls PySem.Spec PyProof.Rows PySem.SeqAt
end L2
namespace L2
open PySem PySem.Spec PyProof.Rows PySem.SeqAt
open AutoSeq1 (wpAny_loadPart')
open MeetsSeq
end L2
namespace L2
open PySem PySem.Spec PyProof.Rows
section
variable{P:Program}{w:World}{K:W.Frag}{mg:xC}{base:Heap}{x:Str}
abbrev cxH(P:Program)(w:World)(K:W.Frag)(mg:xC)(base:Heap)(N:List Str)(x:Str)(sc:Scope)(f:Addr)(cdv:Value)(A:Around)(outer:List Env)(s:Shared)(H:Hp):Cx:={ fu CX0 P w K mg base N x sc f cdv A outer s H E0 with calm:=false,xe:=λ_ _=>False }
end
section
variable{prog:Program}{w:World}{A:Around}{E:xB}{s:Shared}
theorem wk:entryFor table "proto.unchain" = some Builtin.«proto.unchain»:=entryFor_of_fast (by kernel_rfl)
theorem IV{α:Type}{a h:Addr}{o oh:Obj}{vs vh:xI}{Q:α->Shared->Prop}(hh:A.handled=some (.ref h))(ne:h≠a)(ha:s.heap.get? a=some o)(hd:o.data=.fields vs)(sz:2<vs.size)(hg:s.heap.get? h=some oh)(hv:oh.data=.fields vh)(h2:vh[2]?=some .none)
  (q:E (.ref a) { s with heap:=s.heap.update a (Obj.mapFields (·.setIfInBounds 2 (.ref h))) }):wpAny (model prog w) A (raiseNew (.ref a):Sem α) Q E s:=by
 unfold raiseNew;refine zI (wpAny_handled ?_);rw[hh];show wpAny _ _ (if (Value.ref h != Value.ref a)=true then _ else _) _ _ s;rw[if_pos (by simp[ne])];refine zI (nK (wpAny_runValue (codeAny_builtin wk ?_)));show wpAny _ _ (field (.ref h) 2 >>= _) _ _ s;refine zI (wpAny_field hg hv h2 ?_);refine uS ?_;show wpAny (model prog w) A (setField (.ref a) 2 (.ref h) >>= λ_=>throw (Value.ref a)) _ _ s;exact zI (wpAny_setField ha hd sz (wpAny_throw q))
theorem wu{it l h:Addr}{i:Nat}{items}{oh:Obj}{vh:xI}{Q:Option Value->Shared->Prop}(hh:A.handled=some (.ref h))(hg:s.heap.get? h=some oh)(hv:oh.data=.fields vh)(h2:vh[2]?=some .none)(hi:h≠it)
  (hit:s.heap.IsListIter it l i) (hl:s.heap.IsList l items) (hx:items[i]?=none)
  (hQ:∀h',Heap.ExtBut it s.heap h'->Q none { s with heap:=h' }):wpAny (model prog w) A (pyNext (.ref it)) Q E s:=by
 obtain⟨o,ho,hc,hd⟩:=id hit;obtain⟨ol,hol,_,nl,hdl⟩:=hl;unfold pyNext;refine zI (wpAny_attempt (wpAny_callSpecial?_slot (name:=Str.ofString "__next__") hit.typeIs slot_listiter_next
  (wpAny_call_entry slot_listiter_next hit.typeIs entry_listiter_next ?_ (args_listiter_next _))))
 show wpAny _ _ (field (.ref it) 0 >>= _) _ _ s;refine zI (wpAny_field ho hd (x:=.ref l) rfl ?_);show wpAny _ _ (if (Value.ref l==Value.none)=true then _ else _) _ _ s;rw[yA (show ¬ ((Value.ref l==Value.none)=true) from vE)];show wpAny _ _ (field (.ref it) 1 >>= _) _ _ s;refine zI (wpAny_field ho hd (x:=.int i 0) rfl ?_);show wpAny _ _ (seqItems? (.ref l) >>= _) _ _ s;refine zI (wpAny_seqItems hol hdl ?_);simp only[Int.toNat_natCast,hx];refine wpAny_bind (wpAny_rule (wpAny_bind (wpAny_setField ho hd (by simp) ?_)));show wpAny _ _ (newExc (.type "StopIteration") [] >>= _) _ _ _;refine zI ?_;simp only[newExc,newTuple];refine zI (wpAny_newObj_type ?_ (by size_fits));refine wpAny_bind (m:=firstArgMember _ _) (wpAny_of_eq (a:=Value.none) (by first|rfl|(simp only[firstArgMember];rfl)) ?_);refine wpAny_newObj_type ?_ (by size_fits);have k:∀b o,b≠it->s.heap.get? b=some o->b≠(((s.heap.update it (Obj.mapFields λx=>x.setIfInBounds 0 Value.none)).push { cls:=.type "tuple", data:=.seq [].toArray }).objs.size):=λb o hb e z=>by
  have e2:=gX ({ cls:=.type "tuple", data:=.seq [].toArray }:Obj) (((Heap.SameBut.update s.heap it (Obj.mapFields λx=>x.setIfInBounds 0 Value.none)).2 b hb).trans e);exact gE (gS e2) (by rw[z];exact qE _)
 refine IV (h:=h) (vh:=vh) (oh:=oh) hh (k h oh hi hg) (Heap.get?_push_size _ rfl) rfl (by simp;lia) ?_ hv h2 ?_
 ·exact gX _ (gX _ (((Heap.SameBut.update ..).2 h hi).trans hg))
 refine zI (wpAny_isInstance (T := "StopIteration") (b:=true) ⟨_,Heap.get?_update_self _ (rV _ rfl) rfl,rfl⟩ isSubtype_stop ?_);refine uS (hQ _ λb o hb e=>?_);rw[nE _ _ (Ne.symm (k b o hb e))];exact gX _ (gX _ (((Heap.SameBut.update ..).2 b hb).trans e))
end
def lK(A:Around)(H:Hp):Prop:=∃h C dx,A.handled=some (.ref h)/\H h=some (nA h C dx)
theorem lK.same{A:Around}{H H':Hp}(t:lK A H)(k:∀b φ,H b=some (.ext φ)->H' b=some (.ext φ)):lK A H':=by
 obtain⟨h,C,dx,a,b⟩:=t;exact⟨h,C,dx,a,k _ _ b⟩
def X3(A:Around)(K:PySem.W.Frag)(te:TE)(g:TG)(tb:TS):TS:=λD σ H=>te σ H λv H1=>∃a xs,v=.ref a/\∃W:Nat->St->Hp->Prop,W 0 σ H1/\∀i σ H,W i σ H->SqL K H a xs/\lK A H/\(xs.length<=i->D.nx σ H)/\∀x,xs[i]?=some x->g x σ H λσ2 H2=>tb { D with nx:=W (i+1),ct:=W (i+1),bk:=D.nx } σ2 H2
section
variable{X:Cx}
theorem Wl{tg iter:Expr}{body:List Stmt}{te:TE}{g:TG}{tb:TS}{pos:Pos}(hp:PassesOwn (model X.prog X.w) X.A X.env X.xe)(he:PE X iter te)(hg:PG X tg g)(hb:PSs X body tb)
  (hs:∀x,foldedSetIterable iter X.env x=pure x:=by intro _;rfl):PS X (.For tg iter body [] pos) (X3 X.A X.K te g tb):=by
 intro pins s σ H D I h;refine wpAny_For (thn (he pins s σ H _ I h) λv s1 ⟨x,H1,I1,r1,a,xs,ex,W,w0,turn⟩=>?_) hs;subst ex;cases r1;obtain⟨its,rv,p,hz⟩:=I1.list (turn 0 σ H1 w0).1;refine wpAny_pyIter_list p.isList ?_;have f2:=I1.Pu (b:=s1.heap.objs.size) (H':=H1) (uA _) (I1.hok.fresh (uA _));have stat:∀{H':Hp},H' s1.heap.objs.size=none->∀b∈[s1.heap.objs.size],jJ X pins H' b:=λhn b hb=>by
  rw[uB.mp hb];exact⟨hn,f2.2⟩
 refine codeAny_forLoop_any (λn s'=>∃i σ' H',Inv X pins σ' H' s'/\s'.heap.IsListIter s1.heap.objs.size a i/\H' s1.heap.objs.size=none/\n=xs.length-i/\W i σ' H') ?_ (xs.length-0) ⟨0,σ,H1,I1.kept (t':=s1.toks) λb o e=>gX _ e,⟨_,rV _ rfl,rfl,rfl⟩,f2.1,rfl,w0⟩;rintro n s3 ⟨i,σ3,H3,I3,st3,fr3,rfl,w3⟩;obtain⟨sq,⟨hd,C,dx,eh,et⟩,nx,step⟩:=turn i σ3 H3 w3;obtain⟨its,rv,p,hz⟩:=I3.list sq;obtain⟨f0,f1,f3,f4,f5,f6⟩:=stat fr3 _ (uB.mpr rfl);have hl:=rv.length;by_cases hi:xs.length<=i
 ·obtain⟨⟨oe,vs,ge,_,_,gf,g2⟩,_,_⟩:bT X.prog X.w H3 s3.heap hd (nA hd C dx):=I3.hok hd _ et;exact wpAny_passesOwn hp (wu eh ge gf g2 (λz=>by rw[z,fr3] at et;cases et) st3 p.isList (by simp;lia) λh' eb=>wpAny_execs_nil ⟨σ3,H3,I3.turned (t':=s3.toks) (λb o hb e=>eb b o hb e) f0 f1 f4 f5 f6,nx hi⟩)
 ·have hlt:i<xs.length:=Nat.lt_of_not_le hi;have hx:xs[i]?=some xs[i]:=by simp[hlt]
  obtain⟨u,hu,ru⟩:=rv.get hx;refine wpAny_passesOwn hp (wpAny_pyNext_list_item st3 p.isList (x:=u) (by simpa using hu) λh' st' sb=>?_);have I4:Inv X pins σ3 H3 { s3 with heap:=h' }:=I3.turned (t':=s3.toks) (λb o hb e=>(sb.2 b hb).trans e) f0 f1 f4 f5 f6
  obtain⟨o,e,c,d⟩:=id st';have ob:∀b∈[s1.heap.objs.size],∃o,h'.get? b=some o/\∀v,o.data≠.cell v:=λb hb=>by
   rw[uB.mp hb];exact⟨o,e,λv z=>by rw[d] at z;cases z⟩
  refine wpAny_passesOwn hp (Px (s:={ s3 with heap:=h' }) e c d (by decide) ?_)
  have I5':=I4.pinned (stat fr3) ob;refine wpAny_passesOwn hp (thn (hg _ _ σ3 H3 xs[i] u _ I5' ru (step _ hx)) λ_ s6 ⟨σ6,H6,I6,q6⟩=>?_);refine wpAny_passesOwn hp (thn (hb _ s6 σ6 H6 _ I6 q6) λf s7 q7=>?_);have again:∀{σ7:St} {H7:Hp},Inv X (pins++oO [s1.heap.objs.size] h') σ7 H7 s7->W (i+1) σ7 H7->∃m,m<xs.length-i/\∃i σ' H',Inv X pins σ' H' s7/\s7.heap.IsListIter s1.heap.objs.size a i/\H' s1.heap.objs.size=none/\m=xs.length-i/\W i σ' H':=λ{σ7 H7} I7 n7=>by
   obtain⟨k1,k2,_⟩:=I7.pin (s1.heap.objs.size,o) (uC _ (uC _ (gJ (uB.mpr rfl) e)));exact⟨_,by lia,i+1,σ7,H7,I7.f9,⟨o,k1,c,d⟩,k2,rfl,n7⟩
  cases f with
  | next=>obtain⟨σ7,H7,I7,n7⟩:=q7;exact again I7 n7
  | cont=>obtain⟨σ7,H7,I7,n7⟩:=q7;exact again I7 n7
  | brk=>obtain⟨σ7,H7,I7,q7⟩:=q7;exact⟨σ7,H7,I7.f9,q7⟩
  | ret v=>obtain⟨x7,σ7,H7,I7,r7,q7⟩:=q7;exact⟨x7,σ7,H7,I7.f9,r7,q7⟩
end
section
variable{P:Program}{w:World}{K:W.Frag}{mg:xC}{base:Heap}{x:Str}{ps:List Str}{sp:Sp}
structure ZM(P:Program)(w:World)(K:W.Frag)(mg:xC)(base:Heap)(x:Str)(ps:List Str)(sp:Sp):Prop where
 ex:∃(f:Addr)(fd:FuncData),(∀vs H Q E,sp vs H Q E->vs.length=ps.length)/\(∀(A:Around)(outer:List Env)(s:Shared)(H:Hp)(us:xE)(vs:List V)(Q:VK),A.depth<recursionLimit->zH P w K mg base A outer s H->lK A H->BindsTo s fd ⟨us,[]⟩ (ps.zip us)->Vals vs us->sp vs H Q E0 ->
  codeAny (model P w) A (.call (.ref f) ⟨us,[]⟩) (CR CX0 outer P w H s Q E0) s)/\mg x=some (.ref f)/\W.keepIn K (.ref f)=true/\Binds K fd ps []
theorem Wm{st:Stmt}{N:List Str}(h:HasDef K mg x st)(S:aJ N ps (au st))(len:∀vs H Q E,sp vs H Q E->vs.length=ps.length)
  (hb:∀(kV doc pm:Value)(an:xL)(cdv ct:Value)(us:xE),us.length=ps.length->bindArgs (W.fnOf x x (bF st) (bf st) (au st) .none kV doc pm an cdv ct) ⟨us,[]⟩=pure (ps.zip us))
  (hbody:∀(f:Addr)(cdv:Value)(A:Around)(outer:List Env)(s:Shared)(H:Hp)(vs:List V)(Q:VK),lK A H->sp vs H Q E0 ->
   ∃t,PSs (cxH P w K mg base N x (au st) f cdv A outer s H) (bf st) t/\t { nx:=λ_ H'=>Q .non H',rt:=Q } (start N vs) H):ZM P w K mg base x ps sp:=by
 obtain⟨f,fd,F,m⟩:=h;refine⟨f,fd,len,?_,m,F.kp,F.binds hb⟩;obtain⟨oc,od,kV,doc,pm,an,cdv,ct,osl,rfl,lk,hcd⟩:=F.ex;intro A outer s H us vs Q room e0 hT bd r hsp;have hl:=len _ _ _ _ hsp;have KX:K.In s.heap:=e0.mod.kin.keeps λb o e=>(e0.bs b o e).1
 have lim:s.heap.NoLimit:=e0.mod.nolimit.keeps λb o e=>(e0.bs b o e).1
 have kinds:∀y∈ps.zip us,(au st).names.lookup y.1=some .local\/((au st).names.lookup y.1=some .cell/\((cellsFrom (s.heap.objs.size+1) (au st).names []).lookup y.1).isSome=true):=λ⟨n,v⟩ hy=>by
  rcases S.par n (List.of_mem_zip hy).1 with q|q
  ·exact .inl q
  ·exact .inr ⟨q,W.cellsFrom_some _ _ _ (.inl q)⟩
 refine codeAny_call_function room (KX _ _ lk) rfl S.co S.gen rfl (W.codeRec_of KX hcd) (bd _ _ _ _ ?_);refine wpAny_newFunctionEnv_cells S.kind kinds λenv he s1 y=>?_
 subst he;refine⟨lim.keeps y.toInCall.keep,codeAny_func ?_⟩;obtain⟨t,ht,hq⟩:=hbody f cdv A outer s H vs Q hT hsp;have e1:zH P w K mg base ({ A with handled:=none }) outer s H:=⟨e0.frames,e0.mod,e0.bs,e0.bsz,e0.jA,e0.frf,e0.hok,e0.bare⟩
 have I0:Inv (fu CX0 P w K mg base N x (au st) f cdv ({ A with handled:=none }) outer s H E0) [] (start N vs) H s1:=wM S rfl e1 hl r y
 have I:Inv (cxH P w K mg base N x (au st) f cdv A outer s H) [] (start N vs) H s1 :=
  ⟨⟨I0.ok.mod,I0.ok.kind,I0.ok.glob,I0.ok.blt,I0.ok.above,I0.ok.inj,I0.ok.has,I0.ok.cab,(λh=>by cases h),I0.ok.frames,I0.ok.stk,I0.ok.exf,I0.ok.bs,I0.ok.bsz,I0.ok.v7,I0.ok.zA,I0.ok.jA,I0.ok.frf⟩,I0.os,I0.bare,I0.base,I0.loc,I0.cell,I0.free,I0.fG,I0.pin,I0.hok,I0.len⟩
 refine nS (ht [] s1 (start N vs) H _ I hq) (λfl s' hs=>?_) λe s' hs=>False.elim hs
 have fin:∀{σ':St} {H':Hp} {v:V} {u:Value},Inv (cxH P w K mg base N x (au st) f cdv A outer s H) [] σ' H' s'->RelV v u->Q v H'->CE outer P w H s Q u s' :=
  λ{σ' H' v u} J rv q=>⟨v,H',J.os,J.bare,J.base,J.hok,rv,q⟩
 cases fl with
 | ret u =>
  obtain⟨v,σ',H',J,rv,q⟩:=hs;exact fin J rv q
 | next =>
  obtain⟨σ',H',J,q⟩:=hs;exact fin (v:=V.non) (u:=Value.none) J rfl q
 | brk =>
  obtain⟨_,_,_,q⟩:=hs;exact False.elim q
 | cont =>
  obtain⟨_,_,_,q⟩:=hs;exact False.elim q
end
def RQ(A:Around)(sp:Sp)(t:TA):TE:=λσ H Q=>t σ H λvs H1=>lK A H1/\sp vs H1 Q E0
theorem Ba{X:Cx}{A:Around}{k:Nat}{x:Str}{ps:List Str}{sp:Sp}{p pos:Pos}{e:Expr}{es:List Expr}{t:TA}(D:ZM X.prog X.w X.K X.mg X.base x ps sp)(hr:Room k A)(eA:X.A.depth=A.depth)(ha:PA X (e::es) t)(hg:Gl X x:=by rfl)
  (hdb:(x==("__debug__" : Str))=false:=by decide) (he:starEach (e::es) X.env=(false,eval e X.env)::starEach es X.env:=by rfl) (hpl:(backTo pos (starEach es X.env)).any (·.1)=false:=by rfl) :
  PE X (.Call (.Name x p) (e::es) [] pos) (RQ X.A sp t):=by
 obtain⟨f,fd,len,run,hm,hk,hb⟩:=D.ex;intro pins s σ H Q I h;refine wpAny_Call_Name_kw (jd I hg hm ?_ hdb);refine W.callWith_K (h₀:=X.base) I.ok.mod.kin hk (thn (ha pos pins s σ H _ I h) λus s1 ⟨vs,H1,I1,r,hT,q⟩=>⟨I1.kIn,?_⟩) he hpl;have hl:us.length=ps.length:=by rw[<- r.length];exact len _ _ _ _ q
 have bd:=hb s1 us I1.kIn (by simpa using hl);rw[nX] at bd;show wpAny (model X.prog X.w) X.A (call (Value.ref f) us) (EP X pins σ Q) X.xe s1;refine wpAny_call (codeAny_mono (run X.A X.stack s1 H1 us vs Q (by rw[eA];exact hr.depth) I1.env0 hT bd r q) λr s' hq=>?_);cases r with
 | error e=>exact False.elim hq
 | ok fl =>
  cases fl with
  | ret u=>exact I1.after hq
  | next=>exact False.elim hq
  | brk=>exact False.elim hq
  | cont=>exact False.elim hq
end L2
set_option maxHeartbeats 1000000
namespace L2
open PySem PySem.W PySem.Spec PyProof.Rows
section
variable{P:Program}{w:World}{K:W.Frag}{mg:xC}{base:Heap}{CX:CXT}{x nm qual:Str}{ps:List Str}{sp:Sp}{k:Nat}{st:Stmt}{N:List Str}{f:Addr}{X:Cx}{i:Nat}{e:Expr}{te:TE}{pos pos':Pos}
abbrev Ku(sp:Sp)(ps:List Str):Prop:=∀vs H Q E,sp vs H Q E->vs.length=ps.length
abbrev Kv(nm qual:Str)(st:Stmt)(ps:List Str):Prop:=∀(kV doc pm:Value)(an:xL)(cdv ct:Value)(us:xE),us.length=ps.length->bindArgs (W.fnOf nm qual (bF st) (bf st) (au st) .none kV doc pm an cdv ct) ⟨us,[]⟩=pure (ps.zip us)
theorem dA(h:HasDef K mg x st)(S:aJ N ps (au st))
  (hbody:∀(f:Addr)(cdv:Value)(A:Around)(outer:List Env)(s:Shared)(H:Hp)(vs:List V)(Q:VK)(E:XK),Room k (A.deeper (envOfC x (au st) s.heap.objs.size f cdv))->sp vs H Q E ->
   ∃t,PSs (fu CX P w K mg base N x (au st) f cdv A outer s H E).nox (bf st) t/\t { nx:=λ_ H'=>Q .non H',rt:=Q } (start N vs) H)
  (len:Ku sp ps:=by intro _ _ _ _ h;repeat (first|(obtain⟨rfl,_⟩:=h;rfl)|(cases h;rename_i h)))
  (hb:Kv x x st ps:=by intro _ _ _ _ _ _;first|exact el1 λ_=>rfl|exact el2 λ_ _=>rfl|exact el3 λ_ _ _=>rfl|exact el4 λ_ _ _ _=>rfl|exact el5 λ_ _ _ _ _=>rfl):Def P w K mg base CX (k+1) x ps sp:=Qh h S len hb hbody
theorem dX(h:HasDef K mg x st)(S:aJ N ps (au st))
  (hbody:∀(f:Addr)(cdv:Value)(A:Around)(outer:List Env)(s:Shared)(H:Hp)(vs:List V)(Q:VK)(E:XK),Room k (A.deeper (envOfC x (au st) s.heap.objs.size f cdv))->sp vs H Q E ->
   ∃t,PSs (fu (CX1 P w) P w K mg base N x (au st) f cdv A outer s H E) (bf st) t/\t { nx:=λ_ H'=>Q .non H',rt:=Q } (start N vs) H)
  (len:Ku sp ps:=by intro _ _ _ _ h;repeat (first|(obtain⟨rfl,_⟩:=h;rfl)|(cases h;rename_i h)))
  (hb:Kv x x st ps:=by intro _ _ _ _ _ _;first|exact el1 λ_=>rfl|exact el2 λ_ _=>rfl|exact el3 λ_ _ _=>rfl|exact el4 λ_ _ _ _=>rfl|exact el5 λ_ _ _ _ _=>rfl):Def P w K mg base (CX1 P w) (k+1) x ps sp:=V0 h S len hb hbody
theorem fA(h:FnAt K nm qual st f)(S:aJ N ps (au st))
  (hbody:∀(f:Addr)(cdv:Value)(A:Around)(outer:List Env)(s:Shared)(H:Hp)(vs:List V)(Q:VK)(E:XK),Room k (A.deeper (envOfC qual (au st) s.heap.objs.size f cdv))->sp vs H Q E ->
   ∃t,PSs (fu CX P w K mg base N qual (au st) f cdv A outer s H E).nox (bf st) t/\t { nx:=λ_ H'=>Q .non H',rt:=Q } (start N vs) H)
  (len:Ku sp ps:=by intro _ _ _ _ h;repeat (first|(obtain⟨rfl,_⟩:=h;rfl)|(cases h;rename_i h)))
  (hb:Kv nm qual st ps:=by intro _ _ _ _ _ _;first|exact el1 λ_=>rfl|exact el2 λ_ _=>rfl|exact el3 λ_ _ _=>rfl|exact el4 λ_ _ _ _=>rfl|exact el5 λ_ _ _ _ _=>rfl):fY P w K mg base CX (k+1) f ps sp:=Q0 h S len hb hbody
theorem fX(h:FnAt K nm qual st f)(S:aJ N ps (au st))
  (hbody:∀(f:Addr)(cdv:Value)(A:Around)(outer:List Env)(s:Shared)(H:Hp)(vs:List V)(Q:VK)(E:XK),Room k (A.deeper (envOfC qual (au st) s.heap.objs.size f cdv))->sp vs H Q E ->
   ∃t,PSs (fu (CX1 P w) P w K mg base N qual (au st) f cdv A outer s H E) (bf st) t/\t { nx:=λ_ H'=>Q .non H',rt:=Q } (start N vs) H)
  (len:Ku sp ps:=by intro _ _ _ _ h;repeat (first|(obtain⟨rfl,_⟩:=h;rfl)|(cases h;rename_i h)))
  (hb:Kv nm qual st ps:=by intro _ _ _ _ _ _;first|exact el1 λ_=>rfl|exact el2 λ_ _=>rfl|exact el3 λ_ _ _=>rfl|exact el4 λ_ _ _ _=>rfl|exact el5 λ_ _ _ _ _=>rfl):fY P w K mg base (CX1 P w) (k+1) f ps sp:=Nt h S len hb hbody
theorem scz{N P:List Str}{sc:Scope}(a:sc.kind=.function:=by rfl)(b:sc.isCoroutine=false:=by rfl)(c:sc.isGenerator=false:=by rfl)(d:N.Nodup:=by decide +kernel)(e:N.take P.length=P:=by rfl)(f:∀x∈P,sc.names.lookup x=some .local\/sc.names.lookup x=some .cell:=by decide +kernel)(g:∀y∈sc.names,y.2≠.free:=by decide +kernel):aJ N P sc:=⟨a,b,c,d,e,f,g⟩
theorem psz(i:Nat)(hN:X.N.Nodup)(he:PE X e te)(hi:X.N[i]?=some x:=by rfl)(hx:Loc X.env.scope x:=by first|exact Or.inl rfl|exact Or.inr rfl)(hs:swapsWith e (some (.Name x pos')) pos.line X.env=pure false:=by rfl)(hf:X.fn x=true\/X.env.scope.names.lookup x=some .local:=by first|exact .inl rfl|exact .inr rfl|assumption) :
  PS X (.Assign [.Name x pos'] e pos) (GZ te (bR i)):=Pq hN hi hx he hs hf
theorem pgz(i:Nat)(hN:X.N.Nodup)(hi:X.N[i]?=some x:=by rfl)(hx:Loc X.env.scope x:=by first|exact Or.inl rfl|exact Or.inr rfl)(hf:X.fn x=true\/X.env.scope.names.lookup x=some .local:=by first|exact .inl rfl|exact .inr rfl|assumption):PG X (.Name x pos) (bR i):=cN hN hi hx hf
end
class StC(N:List Str)(vs:List V)(σ:outParam St):Prop where
 e:start N vs=σ
instance afk:StC [] [] []:=⟨rfl⟩
instance adJ{x:Str}{N:List Str}{σ:St}[h:StC N [] σ]:StC (x::N) [] (none::σ):=⟨by rw[<- h.e];rfl⟩
instance adK{x:Str}{N:List Str}{v:V}{vs:List V}{σ:St}[h:StC N vs σ]:StC (x::N) (v::vs) (some v::σ):=⟨by
 rw[<- h.e];unfold start;rw[mN,mN,Nat.add_sub_add_right]
 rfl⟩
theorem stE{N:List Str}{vs:List V}{σ:St}[h:StC N vs σ]:start N vs=σ:=h.e
theorem om{H0:Hp}{a:Addr}{o:HO}(h:H0 a=some o):Old H0 [] a o:=Old.mk h nm0
theorem SH.n0(H:Hp):SH H [] H [] []:=SH.nil
theorem nU{t:TS}{D:Ends}{σ:L2.St}{H:Hp}(I:L2.St->Hp->Prop)(hr:∀σ H,I σ H->D.nx σ H)(ht:∀(n:L2.St->Hp->Prop)(r:VK)(b c:L2.St->Hp->Prop),(∀σ H,I σ H->n σ H)->(∀v H,D.rt v H->r v H)->t ⟨n,r,b,c⟩ σ H):t D σ H:=by
 rcases D with⟨n,r,b,c⟩;exact ht n r b c hr λ_ _ h=>h
inductive Ex3{A B C:Type}(p:A->B->C->Prop):Prop
 | mk:∀a b c,p a b c->Ex3 p
inductive Ex4{A B C D:Type}(p:A->B->C->D->Prop):Prop
 | mk:∀a b c d,p a b c d->Ex4 p
inductive Ex5{A B C D E:Type}(p:A->B->C->D->E->Prop):Prop
 | mk:∀a b c d e,p a b c d e->Ex5 p
inductive Ex6{A B C D E F:Type}(p:A->B->C->D->E->F->Prop):Prop
 | mk:∀a b c d e f,p a b c d e f->Ex6 p
inductive Ex7{A B C D E F G:Type}(p:A->B->C->D->E->F->G->Prop):Prop
 | mk:∀a b c d e f g,p a b c d e f g->Ex7 p
inductive Ex8{A B C D E F G H:Type}(p:A->B->C->D->E->F->G->H->Prop):Prop
 | mk:∀a b c d e f g h,p a b c d e f g h->Ex8 p
inductive Ex9{A B C D E F G H I:Type}(p:A->B->C->D->E->F->G->H->I->Prop):Prop
 | mk:∀a b c d e f g h i,p a b c d e f g h i->Ex9 p
inductive NT{A B C D E F G H I J:Type}(p:A->B->C->D->E->F->G->H->I->J->Prop):Prop
 | mk:∀a b c d e f g h i j,p a b c d e f g h i j->NT p
inductive ZP{A B C D E F G H I J K:Type}(p:A->B->C->D->E->F->G->H->I->J->K->Prop):Prop
 | mk:∀a b c d e f g h i j k,p a b c d e f g h i j k->ZP p
inductive An3(A B C:Prop):Prop
 | mk:A->B->C->An3 A B C
inductive An4(A B C D:Prop):Prop
 | mk:A->B->C->D->An4 A B C D
inductive An5(A B C D E:Prop):Prop
 | mk:A->B->C->D->E->An5 A B C D E
inductive An6(A B C D E F:Prop):Prop
 | mk:A->B->C->D->E->F->An6 A B C D E F
inductive An7(A B C D E F G:Prop):Prop
 | mk:A->B->C->D->E->F->G->An7 A B C D E F G
inductive An8(A B C D E F G H:Prop):Prop
 | mk:A->B->C->D->E->F->G->H->An8 A B C D E F G H
inductive An9(A B C D E F G H I:Prop):Prop
 | mk:A->B->C->D->E->F->G->H->I->An9 A B C D E F G H I
end L2
set_option maxHeartbeats 4000000
namespace L2
open PySem PySem.Spec PyProof.Rows
class Ev(t:TE)(σ:L2.St)(H:Hp)(v:outParam V):Prop where
 e:∀Q:VK,Q v H->t σ H Q
class EvL(t:TA)(σ:L2.St)(H:Hp)(vs:outParam (List V)):Prop where
 e:∀Q:List V->Hp->Prop,Q vs H->t σ H Q
section
variable{K:W.Frag}{a b t:TE}{ta:TA}{σ r:L2.St}{H:Hp}{Q:VK}{v:V}{vs xs:List V}{i j:Int}{p:Addr}{k:Bool}{f:Int->Int->V}{g:Int->V}{D:Ends}{sp:Sp}{E:XK}{tg:TG}
 {o0 o1 o2 o3 o4 o5 o6 o7 o8 o9 o10 o11 o12:Option V}
instance agZ:Ev (tC v) σ H v:=⟨λ_ h=>h⟩
instance agc:Ev (dI 0) (some v::r) H v:=⟨λ_=>wv0⟩
instance agd:Ev (dI 1) (o0::some v::r) H v:=⟨λ_=>wv1⟩
instance agf:Ev (dI 2) (o0::o1::some v::r) H v:=⟨λ_=>wv2⟩
instance agg:Ev (dI 3) (o0::o1::o2::some v::r) H v:=⟨λ_=>wv3⟩
instance agh:Ev (dI 4) (o0::o1::o2::o3::some v::r) H v:=⟨λ_=>wv4⟩
instance agi:Ev (dI 5) (o0::o1::o2::o3::o4::some v::r) H v:=⟨λ_=>wv5⟩
instance agj:Ev (dI 6) (o0::o1::o2::o3::o4::o5::some v::r) H v:=⟨λ_=>wv6⟩
instance agk:Ev (dI 9) (o0::o1::o2::o3::o4::o5::o6::o7::o8::some v::r) H v:=⟨λ_=>wv9⟩
instance agl[A:Ev a σ H (.int i)][B:Ev b σ H (.int j)]:Ev (tOp (rI0 f) a b) σ H (f i j):=⟨λ_ h=>A.e _ (B.e _ (V4 h))⟩
instance afl[A:Ev a σ H (.int i)][B:Ev b σ H (.int j)]:Ev (tOp rEq a b) σ H (.bl (decide (i=j))):=⟨λ_ h=>A.e _ (B.e _ (J3 h))⟩
instance ag0[A:Ev a σ H (.int i)]:Ev (tUn (rU g) a) σ H (g i):=⟨λ_ h=>A.e _ (w_u h)⟩
instance afm[A:Ev a σ H (.ref p)][B:Ev b σ H (.int i)][h:SqA K H p xs][e:AtI xs i v]:Ev (tOp (Qe K) a b) σ H v:=⟨λ_ q=>A.e _ (B.e _ (Dq h.e e.e q))⟩
instance afn[A:Ev a σ H (.ref p)][B:Ev b σ H (.int i)][h:SqB K H p xs][e:AtI xs i v]:Ev (tOp (Vt K) a b) σ H v:=⟨λ_ q=>A.e _ (B.e _ (QT h.e e.e q))⟩
instance afo:EvL CK σ H []:=⟨λ_ h=>h⟩
instance adL[A:Ev a σ H v][B:EvL ta σ H vs]:EvL (wG a ta) σ H (v::vs):=⟨λ_ h=>A.e _ (B.e _ h)⟩
instance (priority:=high) agm {q:R2} [A:Ev (tOp q a b) σ H v]:Go (tOp q a b σ H Q) (Q v H):=⟨A.e Q⟩
instance (priority:=high) agn {q:V->Hp->VK->Prop} [A:Ev (tUn q a) σ H v]:Go (tUn q a σ H Q) (Q v H):=⟨A.e Q⟩
instance (priority:=high+1) ago {q:List V->Hp->VK->Prop} [A:Ev (tCB q ta) σ H v]:Go (tCB q ta σ H Q) (Q v H):=⟨A.e Q⟩
instance (priority:=high) afp {q:List V->Hp->VK->Prop} [A:EvL ta σ H vs]:Go (tCB q ta σ H Q) (q vs H Q):=⟨λh=>A.e (λws H1=>q ws H1 Q) h⟩
instance (priority:=high) adM [A:EvL ta σ H vs]:Go (mX sp [] E ta σ H Q) (sp vs H Q E):=⟨λh=>w_call (A.e _ h)⟩
instance (priority:=high) adN {R:Bool->Hp->Prop} [A:Ev t σ H (.bl k)]:Go (JD t σ H R) (R k H):=⟨λh=>A.e _ ⟨k,rfl,h⟩⟩
instance (priority:=high) afq [A:Ev t σ H v]:Go (GZ t tg D σ H) (tg v σ H D.nx):=⟨λh=>A.e _ h⟩
instance (priority:=high) afr [A:Ev t σ H v]:Go (Vk t D σ H) (D.rt v H):=⟨λh=>A.e _ h⟩
end
end L2
namespace L2
open PySem PySem.W PySem.Calls PySem.Spec PyProof.Rows PySem.SeqAt
theorem NZ{X:Cx}{pins:List (Addr×Obj)}{s:Shared}{σ:St}{H:Hp}{Q:VK}{l f:Addr}{xs:List V}{ws:xD}(I:Inv X pins σ H s)(hq:SqL X.K H l xs)(tp:aB H xs (aF ws))(X4:ws.length<64)(nd:ws.Nodup)(sm:∀w∈ws,w.1<1000000)
  (kt:∀(s1:Shared) (q:Addr) (u u0:Value) {R:xB},(∀b v o,H b=some v->s.heap.get? b=some o->s1.heap.get? b=some o)->(∀b o,X.base.get? b=some o->s1.heap.get? b=some o)->IsTup s1.heap q [u0,u].toArray ->
   (∀h' tk a,(∀b o,s1.heap.get? b=some o->h'.get? b=some o)->s1.heap.get? a=none->h'.get? a=some (seqObj "tuple" #[u,u0] 0)->R (.ref a) { s1 with heap:=h',toks:=tk })->wpAny (model X.prog X.w) X.A.in1.in1 (call (.ref f) [.ref q]) R (λ_ _=>False) s1)
  (q:∀qs:List (Nat×Nat),qs.Perm ws/\jW qs->∀D zs H',New H H' D (.lst zs)->aB H' zs (aF qs)->Q (.ref D) H') :
  wpAny (model X.prog X.w) X.A (call (.builtin "sorted") [.ref l] [(Str.ofString "key", .ref f)]) (EP X pins σ Q) X.xe s:=by
 obtain⟨its,rv,p,hz⟩:=I.list hq;obtain⟨m,hm,_⟩:=id I.loc;have hlen:its.length=xs.length:=rv.length.symm;have hw:xs.length=ws.length:=by rw[tp.1,aG]
 have nL:∀{b:Addr} {u:HO},H b=some u->b≠X.env.locals:=λ{b u} e z=>by rw[z,I.free] at e;cases e
 have refs:∀v∈xs,∃q,v=V.ref q:=λv hv=>by
  obtain⟨i,hi,e⟩:=List.getElem_of_mem hv;obtain⟨r,q,_,e2,_⟩:=dD tp (i:=i) (v:=v) (by rw[<- e];simp);exact⟨q,e2⟩
 obtain⟨xb,ub⟩:=iQ rv refs;have F0:Fr { objs:=#[] } X.env.locals s.heap m:=⟨hm,λb o e=>by
  have e:Heap.get? { objs:=#[] } b=some o:=e;simp[Heap.get?] at e,Nat.zero_le _⟩
 have N0:News { objs:=#[] } X.env.locals s.heap (gk s.heap X.env.locals):=λp hp=>⟨(eU hp).1,(eU hp).2,rfl⟩
 have f2:F2 (λv k=>nO X.prog X.w X.A.in1.in1 (gk s.heap X.env.locals) (.ref f) v k s) its (ws.map swP):=DP (by rw[wE];lia) λi v c hv hc h tk hh=>by
  have hx:xs[i]?=some (dO v):=by rw[xb,wS,hv];rfl
  obtain⟨r,q,e1',e2,e3⟩:=dD tp hx;obtain⟨q',rfl⟩:=ub v (yT hv);cases e2;unfold aF at e1';rw[wS] at e1' hc;cases ew:ws[i]? with
  | none=>rw[ew] at hc;cases hc
  | some w =>
   rw[ew] at e1' hc;cases e1';cases hc;have kp:∀b o,b≠X.env.locals->s.heap.get? b=some o->h.get? b=some o:=λb o n e=>hh (b,o) (cF e n)
   have lb:∀b o,X.base.get? b=some o->h.get? b=some o:=λb o e=>kp b o (qB (qA (gS e) (rS I.ok.bsz I.ok.above))) (I.bk b o e)
   obtain⟨_,its2,rv2,ob,et,ec2,n2,ed2⟩:=I.hok _ _ e3;rcases rv2 with _|⟨⟨tk1,rfl⟩,_|⟨⟨tk2,rfl⟩,_|_⟩⟩;exact kt { s with heap:=h,toks:=tk } q _ _ (λb u o e1 e2=>kp _ _ (nL e1) e2) lb ⟨ob,kp _ _ (nL e3) et,ec2,n2,ed2⟩ λh' tk' a k2 ha ho=>⟨a,h',tk',tk2,tk1,rfl,rfl,k2,ha,ho⟩
 refine nQ F0 N0 p.isList (by lia) f2 (xg (λa b=>Kq) nd) (λw hw=>by obtain⟨v,hv,rfl⟩:=vT.mp hw;exact sm v hv) λD ps c h' tk' F N hD pp up=>?_
 have hn:s.heap.get? D=none:=by
  cases e:s.heap.get? D with
  | none=>rfl
  | some o =>
   have:=hD (D,o) (cF e (N (D,seqObj "list" _ c) zC).2.1);exact gE this (qE _)
 have hn2:H D=none:=by
  cases e:H D with
  | none=>rfl
  | some u =>
   obtain⟨ob,e2⟩:=(I.hok D u e).is;rw[hn] at e2;cases e2
 have plt:∀i∈ps,i<its.length:=λi hi=>by simpa using pp.mem_iff.mp hi
 have hin:∀u∈ps.map (λi=>its.getD i Value.none),∃q,u=Value.ref q:=λu hu=>by
  obtain⟨i,hi,rfl⟩:=vT.mp hu;exact ub _ (getD_mem (plt i hi))
 have eb:(ps.map λi=>its.getD i Value.none).map dO=ps.map λi=>xs.getD i .non:=by
  rw[List.map_map];refine List.map_congr_left λi hi=>?_
  have:=plt i hi;show dO (its.getD i .none)=xs.getD i .non;rw[xb,rX,rX,wS,jS this]
  rfl
 have lo:ps.length=xs.length:=by rw[pp.length_eq,List.length_range,hlen]
 have nw:New H (upd H D (.lst ((ps.map λi=>its.getD i Value.none).map dO))) D (.lst ((ps.map λi=>its.getD i Value.none).map dO)):=New.mk' hn2;refine⟨.ref D,upd H D (.lst ((ps.map λi=>its.getD i Value.none).map dO)),I.Ka (t':=tk') (λb u n e=>(N (b,u) (zD _ (cF e n))).1) hm F.ns hn ?_,rfl,q (ps.map λi=>ws.getD i (0,0)) ⟨?_,List.pairwise_map.mpr (up.imp_of_mem λ{i j} hi hj z=>?_)⟩ D _ _ nw ?_⟩
 ·refine⟨by rw[wE,wE,lo];exact hz,_,c,kY hin,?_⟩;exact(N (D,seqObj "list" _ c) zC).1
 ·have:=pp.map λi=>ws.getD i (0,0)
  rw[show its.length=ws.length by lia,dj] at this;exact this
 ·have g:∀i∈ps,(ws.map swP).getD i (0,0)=swP (ws.getD i (0,0)):=λi hi=>by
   have:=plt i hi;rw[rX,rX,wS,jS (show i<ws.length by lia)]
   rfl
  rw[<- g i hi,<- g j hj];exact z
 ·rw[eb];refine⟨by rw[wE,aG,wE],λj r e=>?_⟩;unfold aF at e;rw[List.map_map,wS] at e;cases e0:ps[j]? with
  | none=>rw[e0] at e;cases e
  | some i =>
   rw[e0] at e;have hi:=plt i (yT e0);have hx:xs[i]?=some (xs.getD i .non):=by rw[getD_get (show i<xs.length by lia)];simp
   obtain⟨r2,q2,g1,g2,g3⟩:=dD tp hx;unfold aF at g1;rw[wS,jS (show i<ws.length by lia)] at g1;refine⟨q2,by rw[wS,e0,Option.map_some,g2],?_⟩;have g4:=nw.s _ _ g3;rw[eb] at g4;rw[g4];have e:[V.int ((ws.getD i (0,0)).1:Nat),V.int ((ws.getD i (0,0)).2:Nat)]=r:=by simpa using e
   rw[<- e,getD_get (show i<ws.length by lia)];cases g1
   rfl
theorem Wn{prog:Program}{w:World}{A:Around}{s:Shared}{f q:Addr}{o:Obj}{fd:FuncData}{x:Str}{u u0:Value}{p1 p2 p3 p4 p5 p6 p7 p8:Pos}{j j2 j3:Nat}{its:xE}{Q:xB}{E:xB}
  (hroom:A.depth<recursionLimit) (ho:s.heap.get? f=some o) (hd:o.data=.func fd) (hlim:s.heap.NoLimit) (hcd:s.heap.CodeRec fd.code fd.qualname) (hbody:fd.body=.stmts [.Return (some (swBody x p1 p2 p3 p4 p5 p6 p7 j j2 j3)) p8]) (S:iM x fd.scope)
  (hbind:bindArgs fd ⟨[.ref q],[]⟩=pure [(x,.ref q)])
  (ht:IsTup s.heap q its.toArray) (hi:its[1]?=some u) (hi0:its[0]?=some u0) (h:∀h' tk a,(∀b o,s.heap.get? b=some o->h'.get? b=some o)->s.heap.get? a=none->h'.get? a=some (seqObj "tuple" #[u,u0] 0)->Q (.ref a) { s with heap:=h',toks:=tk }):wpAny (model prog w) A (call (.ref f) [.ref q]) Q E s:=by
 refine wpAny_call ?_;refine codeAny_call_plain hroom ho hd hlim hcd hbody hbind S.Ri (λy hy=>?_) (λh1 hns hk1=>?_) S.co S.gen S.kind
 ·rw[uB.mp hy];exact S.loc
 ·have ht1:IsTup h1 q its.toArray:=by
   obtain⟨o,e,r⟩:=ht;exact⟨o,hk1 _ _ e,r⟩
  have hlen:1<its.length:=(jI.mp hi).1;have hns':h1.Ns s.heap.objs.size (λy=>[(x,Value.ref q)].reverse.lookup y):=hns;refine wpAny_execs_cons (wpAny_Return_some ?_);refine Tuple_ (spliced_more ?_);refine Subscript_ (wpAny_Name (wpAny_loadName_local S.kind S.loc hns' (v:=.ref q) (by simp) ?_) S.J_);refine wpAny_Constant_int ?_;refine subscriptTail_builtinR (x:=u) (IsTup.typeIs ht1) slot_tuple_getitem.lookup (getItem_tuple (j:=1) ht1 (by decide) (by decide) ?_ (by simpa using hi) ⟨rfl,?_⟩) ?_
  ·rw[nB];unfold seqIndex?;simp
   lia
  ·refine spliced_more ?_;refine Subscript_ (wpAny_Name (wpAny_loadName_local S.kind S.loc hns' (v:=.ref q) (by simp) ?_) S.J_);refine wpAny_Constant_int ?_;refine subscriptTail_builtinR (x:=u0) (IsTup.typeIs ht1) slot_tuple_getitem.lookup (getItem_tuple (j:=0) ht1 (by decide) (by decide) ?_ (by simpa using hi0) ⟨rfl,?_⟩) ?_
   ·have l0:(0:Int)<(its.length:Int):=by lia
    rw[nB];unfold seqIndex?;simp;intro z;rw[z] at hlen;simp at hlen
   ·refine spliced_none (wpAny_newTuple ?_ (by show 2<=sizeLine;decide));exact h _ _ _ (λb o e=>gX _ (hk1 b o e)) (Heap.get?_none_of_le (mP hns.lt)) (rV _ rfl)
   ·rfl
  ·rfl
def IW(K:W.Frag)(mg:xC)(y:Str):Prop:=∃(f:Addr) (fd:FuncData) (oc:Value) (od:xL) (osl:Array (Option Value)) (x:Str) (p1 p2 p3 p4 p5 p6 p7 p8:Pos) (j j2 j3:Nat),mg y=some (.ref f)/\K.lookup f=some ⟨oc,od,.func fd,osl⟩/\W.codeIn K fd.code fd.qualname=true /\
 fd.body=.stmts [.Return (some (swBody x p1 p2 p3 p4 p5 p6 p7 j j2 j3)) p8]/\iM x fd.scope/\∀q:Addr,bindArgs fd ⟨[.ref q],[]⟩=pure [(x,.ref q)]
theorem HasDef.sw8{K:W.Frag}{mg:xC}{y x:Str}{st:Stmt}{p1 p2 p3 p4 p5 p6 p7 p8:Pos}{j j2 j3:Nat}(h:HasDef K mg y st)(hb:bf st=[.Return (some (swBody x p1 p2 p3 p4 p5 p6 p7 j j2 j3)) p8])(S:iM x (au st))
  (bd:∀(kV doc pm:Value)(an:xL)(cdv ct:Value)(us:xE),us.length=1->bindArgs (W.fnOf y y (bF st) (bf st) (au st) .none kV doc pm an cdv ct) ⟨us,[]⟩=pure ([x].zip us)):IW K mg y:=by
 obtain⟨f,fd,F,m⟩:=h;obtain⟨oc,od,kV,doc,pm,an,cdv,ct,osl,rfl,lk,hcd⟩:=F.ex;exact⟨f,_,oc,od,osl,x,p1,p2,p3,p4,p5,p6,p7,p8,j,j2,j3,m,lk,hcd,qV _ hb,S,λq=>bd kV doc pm an cdv ct [.ref q] rfl⟩
def Kw(K:W.Frag):List V->Hp->VK->Prop:=λvs H Q=>∃(l:Addr)(xs:List V)(ws:xD),vs=[.ref l]/\SqL K H l xs/\aB H xs (aF ws)/\(ws.length<64/\ws.Nodup/\∀w∈ws,w.1<1000000)/\∀qs:List (Nat×Nat),qs.Perm ws/\jW qs->∀D zs H',New H H' D (.lst zs)->aB H' zs (aF qs)->Q (.ref D) H'
theorem N5{X:Cx}{K:W.Frag}{k:Nat}{y:Str}{p p2 pos kp:Pos}{e:Expr}{t:TA}(hw:IW X.K X.mg y)(hK:X.K=K)(hr:Room k X.A)(hg:Gl X "sorted")(hm:X.mg "sorted" = none)(ha:PA X [e] t)(hx:Gl X y:=by rfl)(hdb:(y==("__debug__" : Str))=false:=by decide)
  (he:backTo pos (starEach [e] X.env)=(false,eval e X.env)::backTo pos (starEach [] X.env):=by rfl) (hpl:(backTo pos (starEach [e] X.env)).any (·.1)=false:=by rfl):PE X (.Call (.Name "sorted" p) [e] [⟨some "key", .Name y p2,kp⟩] pos) (tCB (Kw K) t):=by
 subst hK;obtain⟨f,fd,oc,od,osl,x,p1,p2',p3,p4,p5,p6,p7,p8,j,j2,j3,my,lk,hcd,hb,S,bd⟩:=hw;have nm:PE X (.Name y p2) (tC (.ref f)):=jy ⟨_,my,rfl⟩ hx hdb;intro pins s σ H Q I h;refine wpAny_Call_Name_kw (lM I hg hm boot_sorted ?_ (by decide) (by decide));refine callWith_kw (thn (ha pos pins s σ H _ I h) λus s1 ⟨vs,H1,I1,rv,q1⟩=>?_) he hpl;refine kws_cons (thn (nm pins s1 σ H1 (λy H2=>y=.ref f/\H2=H1) I1 ⟨rfl,rfl⟩) λz s2 ⟨y,H2,I2,r2,e1,e2⟩=>kws_nil ?_);subst e1 e2;obtain rfl:z=Value.ref f:=r2;obtain⟨l,xs,ws,rfl,hq,tp,⟨X4,nd,sm⟩,q⟩:=q1;rcases rv with _|⟨r,_|_⟩;cases r;refine NZ I2 hq tp X4 nd sm (λs1 q u u0 R kp lb it hR=>?_) q;have KX:X.K.In s1.heap:=I2.ok.mod.kin.keeps lb;exact Wn (A:=X.A.in1.in1) (s:=s1) (show X.A.depth<_ from hr.depth) (KX _ _ lk) rfl (I2.ok.mod.nolimit.keeps lb) (W.codeRec_of KX hcd) hb S (bd _) (its:=[u0,u]) it rfl rfl hR
section
variable{K:W.Frag}{H:Hp}{Q:VK}{l:Addr}{ys:List V}{ws:xD}
instance aaL[h:SqA K H l ys][t:TpA H ys (aF ws)]:Go (Kw K [.ref l] H Q) (Sd (ws.length<64/\ws.Nodup/\∀w∈ws,w.1<1000000) (∀qs:List (Nat×Nat),qs.Perm ws/\jW qs->∀D zs H',New H H' D (.lst zs)->aB H' zs (aF qs)->Q (.ref D) H')):=⟨λs=>⟨l,ys,ws,rfl,h.e,t.e,s.1,s.2⟩⟩
end
end L2
namespace M22
abbrev Sc:=List (Nat×Nat)×Nat×Nat
def stp(st:Sc)(b:Bool):Sc:=if b then (st.1,st.2.1+1,st.2.2+1) else if 0<st.2.1 then (st.1++[(st.2.2-st.2.1,st.2.1)],0,st.2.2+1) else (st.1,0,st.2.2+1)
def scan(fs:xF):Sc:=fs.foldl stp ([],0,0)
def aP(fs:xF):List (Nat×Nat):=if 0<(scan fs).2.1 then (scan fs).1++[((scan fs).2.2-(scan fs).2.1,(scan fs).2.1)] else (scan fs).1
theorem scan_snoc(fs:xF)(b:Bool):scan (fs++[b])=stp (scan fs) b:=by unfold scan;rw[List.foldl_append];rfl
theorem snoc_ind{P:List Bool->Prop}(h0:P [])(h1:∀fs b,P fs->P (fs++[b]))(fs:xF):P fs:=by
 have:∀r:List Bool,P r.reverse:=by
  intro r
  induction r with
  | nil=>exact h0
  | cons a t ih=>rw[List.reverse_cons];exact h1 _ _ ih
 have:=this fs.reverse
 rwa [List.reverse_reverse] at this
theorem scan_len(fs:xF):(scan fs).2.2=fs.length:=by
 refine snoc_ind (P:=λfs=>(scan fs).2.2=fs.length) rfl (λfs b ih=>?_) fs;rw[scan_snoc,yB,List.length_singleton,<- ih];unfold stp;split
 ·rfl
 ·split <;> rfl
theorem ug(fs:xF):(scan (fs++[false])).1=aP fs/\(scan (fs++[false])).2.1=0:=by
 rw[scan_snoc];unfold stp aP;simp only[Bool.false_eq_true,if_false];split <;> exact⟨rfl,rfl⟩
structure Ok(fs:xF)(st:Sc):Prop where
 le:st.2.1<=fs.length
 tail:∀j,fs.length-st.2.1<=j->j<fs.length->fs[j]?=some true
 edge:st.2.1=0->fs=[]\/fs[fs.length-1]?=some false
 hs:∀x∈st.1,1<=x.2/\x.1+x.2<=fs.length/\∀j,x.1<=j->j<x.1+x.2->fs[j]?=some true
 sm:(st.1.map (·.2)).sum+st.2.1=fs.count true
theorem nW(fs:xF):Ok fs (scan fs):=by
 refine snoc_ind (P:=λfs=>Ok fs (scan fs)) ⟨by decide,λj _ h=>gE h (Nat.not_lt_zero _),λ_=>.inl rfl,(λx hx=>by cases hx),rfl⟩ (λfs b ih=>?_) fs;obtain⟨h1,h2,h3,h4,h5⟩:=ih;have up:∀j,j<fs.length->(fs++[b])[j]?=fs[j]?:=λj hj=>yY hj
 have at_:(fs++[b])[fs.length]?=some b:=by rw[oP (uA _),Nat.sub_self];rfl
 have hl:(fs++[b]).length=fs.length+1:=by simp
 have sl:=scan_len fs;have old:∀x∈(scan fs).1,1<=x.2/\x.1+x.2<=(fs++[b]).length/\∀j,x.1<=j->j<x.1+x.2->(fs++[b])[j]?=some true:=λx hx=>by
  obtain⟨a1,a2,a3⟩:=h4 x hx;exact⟨a1,by lia,λj p q=>by rw[up j (by lia)];exact a3 j p q⟩
 have hc:(fs++[b]).count true=fs.count true+(if b then 1 else 0):=by rw[List.count_append];cases b <;> rfl
 rw[scan_snoc];unfold stp;cases b with
 | true =>
  rw[zS rfl];refine⟨by show _+1<=_;lia,λj p q=>?_,λh=>gE h (Nat.succ_ne_zero _),old,?_⟩
  ·by_cases hj:j<fs.length
   ·rw[up j hj];have p':(fs++[true]).length-((scan fs).2.1+1)<=j:=p;exact h2 j (by lia) hj
   ·rw[show j=fs.length by lia];exact at_
  ·show _+(_+1)=_;rw[hc,<- h5];simp only[if_true]
   lia
 | false =>
  simp only[Bool.false_eq_true,if_false] at hc ⊢;by_cases hz:0<(scan fs).2.1
  ·rw[zS hz];refine⟨Nat.zero_le _,λj p q=>?_,λ_=>.inr (by rw[hl];exact at_),λx hx=>?_,?_⟩
   ·have p':(fs++[false]).length-0<=j:=p
    lia
   ·rcases wP.mp hx with hx|hx
    ·exact old x hx
    ·rw[uB.mp hx];refine⟨hz,by show _-_+_<=_;lia,λj p q=>?_⟩;have p':(scan fs).2.2-(scan fs).2.1<=j:=p;have q':j<(scan fs).2.2-(scan fs).2.1+(scan fs).2.1:=q;rw[up j (by lia)];exact h2 j (by lia) (by lia)
   ·rw[hc,<- h5,List.map_append,List.sum_append];simp
  ·rw[yA hz];refine⟨Nat.zero_le _,λj p q=>?_,λ_=>.inr (by rw[hl];exact at_),old,by show ((scan fs).1.map (·.2)).sum+0=_;rw[hc,<- h5];lia⟩;have p':(fs++[false]).length-0<=j:=p
   lia
theorem lg{fs:xF}{x:Nat×Nat}(h:x∈aP fs):1<=x.2/\x.1+x.2<=fs.length/\∀j,x.1<=j->j<x.1+x.2->fs[j]?=some true:=by
 obtain⟨h1,h2,h3,h4,h5⟩:=nW fs;have sl:=scan_len fs;unfold aP at h;by_cases hz:0<(scan fs).2.1
 ·rw[zS hz] at h;rcases wP.mp h with h|h
  ·exact h4 x h
  ·rw[uB.mp h];refine⟨hz,by show _-_+_<=_;lia,λj p q=>?_⟩;have p':(scan fs).2.2-(scan fs).2.1<=j:=p;have q':j<(scan fs).2.2-(scan fs).2.1+(scan fs).2.1:=q;exact h2 j (by lia) (by lia)
 ·rw[yA hz] at h;exact h4 x h
theorem uh(fs:xF):aP (fs++[false])=aP fs:=by
 obtain⟨h1,h2⟩:=ug fs;have:aP (fs++[false])=(scan (fs++[false])).1:=by unfold aP;rw[h2];rfl
 rw[this,h1]
theorem uo{fs:xF}(h:fs=[]\/fs[fs.length-1]?=some false):aP (fs++[true])=aP fs++[(fs.length,1)]:=by
 have ok:=nW fs;have sl:=scan_len fs;have hz:(scan fs).2.1=0:=by
  rcases h with h|h
  ·have:=ok.le;rw[h] at this ⊢;simpa using this
  ·by_cases hz:(scan fs).2.1=0
   ·exact hz
   ·have hn:fs.length≠0:=λe=>by have:=ok.le;lia
    rw[ok.tail (fs.length-1) (by lia) (by lia)] at h;cases h
 have e1:aP fs=(scan fs).1:=by unfold aP;rw[hz];rfl
 rw[e1];unfold aP;rw[scan_snoc];unfold stp;simp only[if_true,hz,sl];rw[zS (by lia)];simp
theorem xq{fs:xF}(h:fs≠[])(h2:fs[fs.length-1]?=some true):∃hs s z,aP fs=hs++[(s,z)]/\aP (fs++[true])=hs++[(s,z+1)]:=by
 have ok:=nW fs;have sl:=scan_len fs;have hz:0<(scan fs).2.1:=by
  by_cases hz:(scan fs).2.1=0
  ·rcases ok.edge hz with e|e
   ·exact gE e h
   ·rw[h2] at e;cases e
  ·lia
 refine⟨(scan fs).1,(scan fs).2.2-(scan fs).2.1,(scan fs).2.1,by unfold aP;rw[if_pos hz],?_⟩;unfold aP;rw[scan_snoc];unfold stp;simp only[if_true];rw[zS (by lia)];have:=ok.le
 congr 3
 lia
def cT{α:Type}(fs:List α)(a i:Nat)(b:α):List α:=fs.take a++List.replicate i b++fs.drop (a+i)
theorem nY{α:Type}{fs:List α}{a i:Nat}{b:α}(h:a+i<=fs.length):(cT fs a i b).length=fs.length:=by
 unfold cT;rw[yB,yB,oB,mE,mT]
 lia
theorem N6{α:Type}{fs:List α}{a:Nat}{b:α}:cT fs a 0 b=fs:=by unfold cT;simp
theorem RT{α:Type}{fs:List α}{a i:Nat}{b:α}(h:a+i<fs.length):(cT fs a i b).set (a+i) b=cT fs a (i+1) b:=by
 unfold cT;have hd:fs.drop (a+i)=fs[a+i]::fs.drop (a+(i+1)):=by rw[List.drop_eq_getElem_cons h];rfl
 rw[hd,List.set_append_right _ _ (by rw[yB,oB,mE];lia)];have:a+i-(fs.take a++List.replicate i b).length=0:=by rw[yB,oB,mE];lia
 rw[this,List.set_cons_zero,List.replicate_succ'];simp
theorem DY{α β:Type}{f:α->β}{fs:List α}{a i:Nat}{b:α}:(cT fs a i b).map f=cT (fs.map f) a i (f b):=by unfold cT;simp
theorem Wo{fs:xF}{a b:Nat}(h:a+b<=fs.length)(v:Bool):((fs.drop a).take b).all (· == v)=true ↔ ∀j,a<=j->j<a+b->fs[j]?=some v:=by
 rw[List.all_eq_true]
 constructor
 ·intro h1 j p q;have hj:j<fs.length:=by lia
  have:=h1 fs[j] (by
   rw[List.mem_iff_getElem?];refine⟨j-a,?_⟩;rw[List.getElem?_take,zS (by lia),List.getElem?_drop,show a+(j-a)=j by lia];simp)
  rw[jS hj];simpa using this
 ·intro h1 x hx;obtain⟨k,hk⟩:=List.mem_iff_getElem?.mp hx;rw[List.getElem?_take] at hk;by_cases hb:k<b
  ·rw[zS hb,List.getElem?_drop,h1 (a+k) (by lia) (by lia)] at hk;simpa using (Option.some.inj hk).symm
  ·rw[yA hb] at hk;cases hk
end M22
namespace M22
theorem iz{α:Type}{fs:List α}{a i:Nat}{b:α}(h:a+i<=fs.length)(j:Nat):(cT fs a i b)[j]?=if a<=j/\j<a+i then some b else fs[j]?:=by
 unfold cT;have l1:(fs.take a).length=a:=by rw[oB];lia
 rw[vF];by_cases h1:j<a
 ·rw[yY (by lia),List.getElem?_take,zS h1,yA (by lia)]
 ·rw[oP (by lia),l1];by_cases h2:j<a+i
  ·rw[yY (by rw[mE];lia),List.getElem?_replicate,zS (by lia),zS (by lia)]
  ·rw[oP (by rw[mE];lia),mE,List.getElem?_drop,yA (by lia),show a+i+(j-a-i)=j by lia]
theorem N7{α:Type}{fs:List α}{a b:Nat}{u v:α}(h:a+b<=fs.length)(hv:∀j,a<=j->j<a+b->fs[j]?=some v):cT (cT fs a b u) a b v=fs:=by
 apply List.ext_getElem?
 intro j;rw[iz (by rw[nY h];exact h)];split
 ·rename_i hj;exact(hv j hj.1 hj.2).symm
 ·rename_i hj;rw[iz h,yA hj]
def cells(n:Nat)(c:Nat->Bool):List Bool:=(List.range n).map λj=>!c j
theorem cV{n:Nat}{c:Nat->Bool}:(cells n c).length=n:=by unfold cells;rw[List.length_map,List.length_range]
theorem uq{n j:Nat}{c:Nat->Bool}(h:j<n):(cells n c)[j]?=some (!c j):=by unfold cells;rw[List.getElem?_map,List.getElem?_range h];rfl
theorem N8{n a b:Nat}{v:Bool}{c d:Nat->Bool}(h:a+b<=n)(hd:∀j,j<n->d j=if a<=j/\j<a+b then !v else c j):cT (cells n c) a b v=cells n d:=by
 apply List.ext_getElem?
 intro j;rw[iz (by rw[cV];exact h)];by_cases hj:j<n
 ·rw[uq hj,uq hj,hd j hj];split
  ·rw[Bool.not_not]
  ·rfl
 ·rw[yA (by lia),mM (by rw[cV];lia),mM (by rw[cV];lia)]
theorem xr{n:Nat}:cells n (λ_=>false)=List.replicate n true:=by
 unfold cells;rw[List.map_const',List.length_range]
 rfl
def inW(w:Nat×Nat)(j:Nat):Bool:=decide (w.1<=j) && decide (j<w.1+w.2)
theorem rO{w:Nat×Nat}{j:Nat}:inW w j=true ↔ w.1<=j/\j<w.1+w.2:=by unfold inW;simp
def cov(ws:xD)(j:Nat):Bool:=ws.any λw=>inW w j
theorem Wq{ws:xD}{j:Nat}:cov ws j=true ↔ ∃w∈ws,w.1<=j/\j<w.1+w.2:=by
 unfold cov;rw[List.any_eq_true]
 constructor
 ·rintro ⟨w,h1,h2⟩;exact⟨w,h1,rO.mp h2⟩
 ·rintro ⟨w,h1,h2⟩;exact⟨w,h1,rO.mpr h2⟩
theorem RV{ws:xD}{w:Nat×Nat}{j:Nat}:cov (ws++[w]) j=(cov ws j || inW w j):=by unfold cov;rw[List.any_append];simp
def Dis(a b:Nat×Nat):Prop:=a.1+a.2<=b.1\/b.1+b.2<=a.1
theorem D_{ws vs:xD}(h:ws.Perm vs)(d:ws.Pairwise Dis):vs.Pairwise Dis:=h.pairwise d λh=>Or.symm h
theorem ur{n:Nat}{ws:xD}{w:Nat×Nat}(h:w.1+w.2<=n):cT (cells n (cov ws)) w.1 w.2 false=cells n (cov (ws++[w])):=by
 refine N8 h λj _=>?_
 rw[RV];split
 ·rename_i hj;rw[rO.mpr hj,Bool.or_true]
  rfl
 ·rename_i hj;have:inW w j=false:=by
   cases e:inW w j with
   | false=>rfl
   | true=>exact gE (rO.mp e) hj
  rw[this,Bool.or_false]
theorem Ky{n:Nat}{ws:xD}{w:Nat×Nat}(h:w.1+w.2<=n)(d:∀v∈ws,Dis v w):∀j,w.1<=j->j<w.1+w.2->(cells n (cov ws))[j]?=some true:=λj h1 h2=>by
 rw[uq (by lia)];cases e:cov ws j with
 | false=>rfl
 | true =>
  obtain⟨v,hv,a,b⟩:=Wq.mp e;have:=d v hv;unfold Dis at this
  lia
theorem I_{n:Nat}{ws:xD}(h:∀w∈ws,w.1+w.2<=n):ws.foldl (λfs w=>cT fs w.1 w.2 false) (List.replicate n true)=cells n (cov ws):=by
 have:∀(vs us:xD),(∀w∈vs,w.1+w.2<=n)->vs.foldl (λfs w=>cT fs w.1 w.2 false) (cells n (cov us))=cells n (cov (us++vs)):=by
  intro vs
  induction vs with
  | nil=>intro us _;rw[nX];rfl
  | cons w t ih =>
   intro us hv;rw[List.foldl_cons,ur (hv w zC),ih (us++[w]) λv h=>hv v (zD _ h),vF]
   rfl
 have:=this ws [] h;rw[<- xr];exact this
theorem xu{fs:xF}{a b:Nat}(h:a+b<=fs.length)(ht:∀j,a<=j->j<a+b->fs[j]?=some true):(cT fs a b false).count true+b=fs.count true:=by
 have e:fs=cT (cT fs a b false) a b true:=(N7 h ht).symm;have e2:cT (cT fs a b false) a b true=fs.take a++List.replicate b true++fs.drop (a+b):=by
  unfold cT;have l1:(fs.take a).length=a:=by rw[oB];lia
  congr 1
  ·congr 1
   rw[vF,List.take_append_of_le_length (by lia),List.take_take,Nat.min_self]
  ·rw[List.drop_append];have:(fs.take a++List.replicate b false).length=a+b:=by rw[yB,l1,mE]
   rw[List.drop_of_length_le (by lia),this,Nat.sub_self]
   rfl
 rw[e2] at e;have e3:fs.count true=(fs.take a).count true+b+(fs.drop (a+b)).count true:=by
  conv=>lhs;rw[e]
  rw[List.count_append,List.count_append,List.count_replicate_self]
 have e4:(cT fs a b false).count true=(fs.take a).count true+(fs.drop (a+b)).count true:=by
  unfold cT;rw[List.count_append,List.count_append,List.count_replicate];simp
 lia
theorem Ja{n:Nat}{ws:xD}(h:∀w∈ws,w.1+w.2<=n)(d:ws.Pairwise Dis):(cells n (cov ws)).count true+(ws.map (·.2)).sum=n:=by
 rw[<- I_ h];have:∀(vs:xD)(fs:xF),fs.length=n->(∀w∈vs,w.1+w.2<=n)->vs.Pairwise Dis->(∀w∈vs,∀j,w.1<=j->j<w.1+w.2->fs[j]?=some true)->(vs.foldl (λfs w=>cT fs w.1 w.2 false) fs).count true+(vs.map (·.2)).sum=fs.count true:=by
  intro vs
  induction vs with
  | nil=>intro fs _ _ _ _;rfl
  | cons w t ih =>
   intro fs hl hv hd hf;have hw:=hv w zC;have hd':=mI.mp hd;rw[List.foldl_cons,oC,List.sum_cons];have:=ih (cT fs w.1 w.2 false) (by rw[nY (by lia)];exact hl) (λv h=>hv v (zD _ h)) hd'.2 λv hm j h1 h2=>by
    have:=hd'.1 v hm;unfold Dis at this;rw[iz (by lia),yA (by lia)];exact hf v (zD _ hm) j h1 h2
   have:=xu (fs:=fs) (a:=w.1) (b:=w.2) (by lia) (hf w zC)
   lia
 have:=this ws (List.replicate n true) (by simp) h d λw hw j h1 h2=>by
  have:=h w hw;rw[List.getElem?_replicate,zS (by lia)]
 rw[this];simp
theorem RW(fs:xF):(scan fs).1.Pairwise (λa b=>a.1+a.2<b.1)/\∀x∈(scan fs).1,x.1+x.2+(scan fs).2.1+1<=(scan fs).2.2:=by
 refine snoc_ind (P:=λfs=>(scan fs).1.Pairwise (λa b=>a.1+a.2<b.1)/\∀x∈(scan fs).1,x.1+x.2+(scan fs).2.1+1<=(scan fs).2.2) ⟨List.Pairwise.nil,λx hx=>by cases hx⟩ (λfs b ih=>?_) fs;obtain⟨h1,h2⟩:=ih;have ok:=(nW fs).le;have sl:=scan_len fs;rw[scan_snoc];unfold stp;split
 ·refine⟨h1,λx hx=>?_⟩;have:=h2 x hx;show x.1+x.2+((scan fs).2.1+1)+1<=(scan fs).2.2+1
  lia
 ·split
  ·rename_i hz;refine⟨?_,λx hx=>?_⟩
   ·show ((scan fs).1++_).Pairwise _;rw[mB];refine⟨h1,List.pairwise_singleton _ _,λx hx y hy=>?_⟩;rw[uB.mp hy];have:=h2 x hx;show x.1+x.2<(scan fs).2.2-(scan fs).2.1
    lia
   ·show x.1+x.2+0+1<=(scan fs).2.2+1;rcases wP.mp hx with hx|hx
    ·have:=h2 x hx
     lia
    ·rw[uB.mp hx];show (scan fs).2.2-(scan fs).2.1+(scan fs).2.1+0+1<=_
     lia
  ·refine⟨h1,λx hx=>?_⟩;have:=h2 x hx;show x.1+x.2+0+1<=(scan fs).2.2+1
   lia
theorem iR(fs:xF):(aP fs).Pairwise (λa b=>a.1+a.2<b.1):=by
 obtain⟨h1,h2⟩:=RW fs;unfold aP;split
 ·rw[mB];refine⟨h1,List.pairwise_singleton _ _,λx hx y hy=>?_⟩;rw[uB.mp hy];have:=h2 x hx;show x.1+x.2<(scan fs).2.2-(scan fs).2.1
  lia
 ·exact h1
theorem RX(n:Nat):scan (List.replicate n true)=([],n,n):=by
 induction n with
 | zero=>rfl
 | succ n ih=>rw[List.replicate_succ',scan_snoc,ih];rfl
theorem N_{n:Nat}(h:1<=n):aP (List.replicate n true)=[(0,n)]:=by
 unfold aP;rw[RX,zS (by show 0<n;lia)];show []++[(n-n,n)]=_;rw[Nat.sub_self]
 rfl
end M22
namespace M22
set_option linter.all false
def St(fs:xF)(a:Nat):Prop:=fs[a]?=some true/\(a=0\/fs[a-1]?=some false)
theorem dR{α:Type}{fs:List α}{b:α}{j:Nat}:(fs++[b])[j]?=if j<fs.length then fs[j]? else if j=fs.length then some b else none:=by
 by_cases h:j<fs.length
 ·rw[zS h,yY h]
 ·rw[yA h,oP (by lia)];by_cases e:j=fs.length
  ·rw[zS e,e,Nat.sub_self]
   rfl
  ·rw[yA e];exact List.getElem?_eq_none (by simp;lia)
theorem lY{α:Type}{fs:List α}{j:Nat}{b:α}(h:fs[j]?=some b):j<fs.length:=(jI.mp h).1
theorem Wr{fs:xF}{b:Bool}{a:Nat}:St (fs++[b]) a ↔ St fs a\/(a=fs.length/\b=true/\(fs=[]\/fs[fs.length-1]?=some false)):=by
 unfold St
 constructor
 ·rintro ⟨h1,h2⟩;rw[dR] at h1;by_cases ha:a<fs.length
  ·rw[zS ha] at h1;refine .inl ⟨h1,?_⟩;rcases h2 with h2|h2
   ·exact .inl h2
   ·rw[dR,zS (by lia)] at h2;exact .inr h2
  ·rw[yA ha] at h1;by_cases e:a=fs.length
   ·rw[zS e] at h1;refine .inr ⟨e,by simpa using h1,?_⟩;rcases h2 with h2|h2
    ·exact .inl (List.length_eq_zero_iff.mp (by lia))
    ·by_cases h0:a=0
     ·exact .inl (List.length_eq_zero_iff.mp (by lia))
     ·rw[dR,zS (by lia),e] at h2;exact .inr h2
   ·rw[yA e] at h1;cases h1
 ·rintro (⟨h1,h2⟩|⟨e,rfl,h2⟩)
  ·have ha:=lY h1;refine⟨by rw[dR,zS ha];exact h1,?_⟩;rcases h2 with h2|h2
   ·exact .inl h2
   ·exact .inr (by rw[dR,zS (by lia)];exact h2)
  ·refine⟨by rw[dR,yA (by lia),zS e],?_⟩;rcases h2 with h2|h2
   ·exact .inl (by rw[e,h2];rfl)
   ·by_cases h0:a=0
    ·exact .inl h0
    ·exact .inr (by rw[dR,zS (by lia),e];exact h2)
theorem Bc(fs:xF):∀a,a∈(aP fs).map (·.1) ↔ St fs a:=by
 refine snoc_ind (P:=λfs=>∀a,a∈(aP fs).map (·.1) ↔ St fs a) (λa=>⟨λh=>by simp[aP,scan] at h,λh=>by simp[St] at h⟩) (λfs b ih a=>?_) fs;rw[Wr];cases b with
 | false =>
  rw[uh,ih a];exact⟨.inl,λh=>h.elim id λh=>by simp at h⟩
 | true =>
  by_cases h:fs=[]\/fs[fs.length-1]?=some false
  ·rw[uo h,List.map_append,wP,ih a];refine or_congr Iff.rfl ⟨λe=>⟨by simpa using e,rfl,h⟩,λe=>by simp[e.1]⟩
  ·have hn:fs≠[]:=λe=>h (.inl e)
   have hp:0<fs.length:=List.length_pos_iff.mpr hn;have hl:fs[fs.length-1]?=some true:=by
    cases e:fs[fs.length-1]? with
    | none=>rw[List.getElem?_eq_none_iff] at e;lia
    | some b=>cases b with
     | true=>rfl
     | false=>exact gE (.inr e) h
   obtain⟨hs,s,z,e1,e2⟩:=xq hn hl;rw[e2,<- ih a,e1,List.map_append,List.map_append];exact⟨.inl,λk=>k.elim id λk=>gE k.2.2 h⟩
theorem RZ(fs:xF):∀w∈aP fs,w.1+w.2=fs.length\/fs[w.1+w.2]?=some false:=by
 refine snoc_ind (P:=λfs=>∀w∈aP fs,w.1+w.2=fs.length\/fs[w.1+w.2]?=some false) (λw h=>by simp[aP,scan] at h) (λfs b ih w hw=>?_) fs;have up:∀{w:Nat×Nat},fs[w.1+w.2]?=some false->(fs++[b])[w.1+w.2]?=some false:=λh=>by rw[dR,zS (lY h)];exact h
 cases b with
 | false =>
  rw[uh] at hw;rcases ih w hw with h|h
  ·exact .inr (by rw[dR,yA (by lia),zS h])
  ·exact .inr (up h)
 | true =>
  by_cases h:fs=[]\/fs[fs.length-1]?=some false
  ·rw[uo h] at hw;rcases wP.mp hw with hw|hw
   ·rcases ih w hw with e|e
    ·exfalso
     obtain⟨a1,a2,a3⟩:=lg hw;rcases h with h|h
     ·rw[h] at a2;simp at a2;lia
     ·have:=a3 (fs.length-1) (by lia) (by lia);rw[h] at this;cases this
    ·exact .inr (up e)
   ·rw[uB.mp hw];exact .inl (by simp)
  ·have hn:fs≠[]:=λe=>h (.inl e)
   have hp:0<fs.length:=List.length_pos_iff.mpr hn;have hl:fs[fs.length-1]?=some true:=by
    cases e:fs[fs.length-1]? with
    | none=>rw[List.getElem?_eq_none_iff] at e;lia
    | some b=>cases b with
     | true=>rfl
     | false=>exact gE (.inr e) h
   obtain⟨hs,s,z,e1,e2⟩:=xq hn hl;have m1:(s,z)∈aP fs:=by rw[e1];simp
   have m2:(s,z+1)∈aP (fs++[true]):=by rw[e2];simp
   obtain⟨a1,a2,a3⟩:=lg m2;rw[e2] at hw;rcases wP.mp hw with hw|hw
   ·have as:=iR fs;rw[e1] at as;have lt:=(List.pairwise_append.mp as).2.2 w hw (s,z) (by simp);have b2:=(lg m1).2.1;simp only at lt b2;rcases ih w (by rw[e1];simp[hw]) with e|e
    ·lia
    ·exact .inr (up e)
   ·rw[uB.mp hw];simp only at a1 a2 a3 ⊢;rcases ih (s,z) m1 with e|e
    ·simp only at e;exact .inl (by simp;lia)
    ·simp only at e;have lt:=lY e;have:=a3 (s+z) (by lia) (by lia);rw[dR,zS lt,e] at this;cases this
theorem Ea{α:Type}[DecidableEq α]:∀{l m:List α},l.Nodup->(∀x∈l,x∈m)->l.length<=m.length
 | [],_,_,_=>Nat.zero_le _
 | a::t,m,nd,h=>by
  have ha:=h a zC;have nd':=List.nodup_cons.mp nd;have:=Ea (l:=t) (m:=m.erase a) nd'.2 λx hx=>by
   refine(List.mem_erase_of_ne (λe:x=a=>nd'.1 (by rw[<- e];exact hx))).mpr (h x (zD _ hx))
  rw[List.length_erase_of_mem ha] at this;have:=List.length_pos_of_mem ha;rw[mN]
  lia
theorem R0{fs:xF}{a b:Nat}{v:Bool}(h:a+b<=fs.length)(h1:1<=b):(aP (cT fs a b v)).length<=(aP fs).length+1:=by
 have nd:((aP (cT fs a b v)).map (·.1)).Nodup:=by
  rw[List.nodup_iff_pairwise_ne,List.pairwise_map];exact(iR _).imp λh=>by lia
 have:=Ea (m:=(if v then a else a+b)::(aP fs).map (·.1)) nd λx hx=>by
  have hs:=(Bc _ x).mp hx;obtain⟨s1,s2⟩:=hs;rw[iz h] at s1;rw[iz h] at s2;by_cases hc:x=(if v then a else a+b)
  ·rw[hc];exact zC
  ·refine zD _ ((Bc fs x).mpr ?_);by_cases hi:a<=x/\x<a+b
   ·rw[zS hi] at s1;have hv:v=true:=by simpa using s1
    rw[zS hv] at hc;rw[hv] at s2
    exfalso
    rcases s2 with s2|s2
    ·lia
    ·rw[zS (by lia)] at s2;cases s2
   ·rw[yA hi] at s1;refine⟨s1,?_⟩;rcases s2 with s2|s2
    ·exact .inl s2
    ·by_cases hj:a<=x-1/\x-1<a+b
     ·rw[zS hj] at s2;have hv:v=false:=by simpa using s2
      rw[hv] at hc;by_cases h0:x=0
      ·exact .inl h0
      ·exfalso
       apply hc
       rw[yA (by decide)]
       lia
     ·rw[yA hj] at s2;exact .inr s2
 simpa using this
end M22
namespace M22
theorem cover:∀(ws:xD)(fs:xF),ws.Pairwise Dis->(∀w∈ws,w.1+w.2<=fs.length/\∀j,w.1<=j->j<w.1+w.2->fs[j]?=some true)->(ws.map (·.2)).sum=fs.count true->∀j,fs[j]?=some true->∃w∈ws,w.1<=j/\j<w.1+w.2
 | [],fs,_,_,hs,j,hj=>by
  have h:0<fs.count true:=List.count_pos_iff.mpr (yT hj);simp at hs
  lia
 | w::t,fs,hd,hf,hs,j,hj=>by
  have hd':=mI.mp hd;obtain⟨h1,h2⟩:=hf w zC;have hp:=xu h1 h2;by_cases hw:w.1<=j/\j<w.1+w.2
  ·exact⟨w,zC,hw⟩
  have hl:(cT fs w.1 w.2 false).length=fs.length:=nY h1;obtain⟨v,hv,hj2⟩:=cover t (cT fs w.1 w.2 false) hd'.2 (λv hv=>by
   obtain⟨h3,h4⟩:=hf v (zD _ hv);refine⟨by rw[hl];exact h3,λi i1 i2=>?_⟩;have hdv:=hd'.1 v hv;unfold Dis at hdv;rw[iz h1,yA (by lia)];exact h4 i i1 i2) (by rw[oC,List.sum_cons] at hs;lia) j (by rw[iz h1,yA hw];exact hj)
  exact⟨v,zD _ hv,hj2⟩
theorem Eb{ws:xD}(h:ws.Pairwise λa b=>a.1+a.2<b.1):∀a∈ws,∀b∈ws,a≠b->a.1+a.2<b.1\/b.1+b.2<a.1:=by
 induction ws with
 | nil=>intro a ha;cases ha
 | cons c t ih =>
  intro a ha b hb ne;have hc:=mI.mp h;rcases vS.mp ha with rfl|ha
  ·rcases vS.mp hb with rfl|hb
   ·exact gE rfl ne
   ·exact .inl (hc.1 b hb)
  ·rcases vS.mp hb with rfl|hb
   ·exact .inr (hc.1 a (by assumption))
   ·exact ih hc.2 a ha b hb ne
theorem Oa{fs:xF}{ws:xD}(asc:ws.Pairwise λa b=>a.1+a.2<b.1)(ok:∀w∈ws,1<=w.2/\w.1+w.2<=fs.length/\∀j,w.1<=j->j<w.1+w.2->fs[j]?=some true)(hs:(ws.map (·.2)).sum=fs.count true):ws=aP fs:=by
 have cov:=cover ws fs (asc.imp λh=>.inl (mP h)) (λw hw=>(ok w hw).2) hs;have ap:=Eb asc;have sub:∀w∈ws,w∈aP fs:=λw hw=>by
  obtain⟨w1,w2,w3⟩:=ok w hw;have st:St fs w.1:=by
   refine⟨w3 w.1 (uA _) (by lia),?_⟩;by_cases h0:w.1=0
   ·exact .inl h0
   ·have hl:w.1-1<fs.length:=by lia
    cases hb:fs[w.1-1] with
    | false=>exact .inr (by rw[jS hl,hb])
    | true =>
     obtain⟨v,hv,v1,v2⟩:=cov (w.1-1) (by rw[jS hl,hb]);have ne:v≠w:=λe=>by subst e;lia
     have:=ap v hv w hw ne
     lia
  obtain⟨h,hh,e⟩:=vT.mp ((Bc fs w.1).mpr st);have e:h.1=w.1:=e;obtain⟨h1,h2,h3⟩:=lg hh;have e2:h.2=w.2:=by
   rcases Nat.lt_trichotomy h.2 w.2 with hlt|heq|hgt
   ·rcases RZ fs h hh with q|q
    ·lia
    ·rw[w3 (h.1+h.2) (by lia) (by lia)] at q;cases q
   ·exact heq
   ·obtain⟨v,hv,v1,v2⟩:=cov (w.1+w.2) (h3 _ (by lia) (by lia));have ne:v≠w:=λe=>by subst e;lia
    have:=ap v hv w hw ne
    lia
  rw[show w=h from Prod.ext e.symm e2.symm];exact hh
 have sup:∀h∈aP fs,h∈ws:=λh hh=>by
  obtain⟨h1,h2,h3⟩:=lg hh;obtain⟨w,hw,w1,w2⟩:=cov h.1 (h3 h.1 (uA _) (by lia));by_cases e:w=h
  ·rw[<- e];exact hw
  ·have:=Eb (iR fs) w (sub w hw) h hh e
   lia
 have nd:∀{l:xD},l.Pairwise (λa b=>a.1+a.2<b.1)->l.Nodup:=λh=>h.imp λ{a b} hab e=>by subst e;lia
 refine List.Perm.eq_of_pairwise (λa b _ _ h1 h2=>?_) asc (iR fs) ((List.perm_ext_iff_of_nodup (nd asc) (nd (iR fs))).mpr λw=>⟨sub w,sup w⟩)
 lia
end M22
namespace M44
def aV(s z:Nat)(t:Nat×Nat):Bool:=decide (s<t.1+t.2) && decide (t.1<s+z)
theorem dF{s z:Nat}{t:Nat×Nat}:aV s z t=true ↔ s<t.1+t.2/\t.1<s+z:=by
 unfold aV;simp
def fwF:Nat->Nat->List (Nat×Nat)->List (Nat×Nat)
 | 0,s,ts=>if ts.filter (aV s (2 ^ 0))=[] then [(s,2 ^ 0)] else []
 | k+1,s,ts=>if ts.filter (aV s (2 ^ (k+1)))=[] then [(s,2 ^ (k+1))] else if (s,2 ^ (k+1))∈ts.filter (aV s (2 ^ (k+1))) then [] else
   fwF k s (ts.filter (aV s (2 ^ (k+1))))++fwF k (s+2 ^ k) (ts.filter (aV s (2 ^ (k+1))))
def C(tk:Nat->Bool)(n p k:Nat):Prop:=p % 2 ^ k=0/\p+2 ^ k<=n/\∀c,p<=c->c<p+2 ^ k->tk c=false
theorem pos2(k:Nat):0<2 ^ k:=Nat.pow_pos (by decide)
theorem fH(k:Nat):2 ^ (k+1)=2 ^ k+2 ^ k:=by rw[Nat.pow_succ];lia
theorem C.down{tk:Nat->Bool}{n p k:Nat}(h:C tk n p (k+1)):C tk n p k:=by
 obtain⟨h1,h2,h3⟩:=h;have hp:=pos2 k;have e:=fH k;refine⟨?_,by lia,λc a b=>h3 c a (by lia)⟩;obtain⟨q,hq⟩:=Nat.dvd_of_mod_eq_zero h1;exact Nat.mod_eq_zero_of_dvd ⟨2*q,by rw[hq,e,Nat.add_mul];rw[<- Nat.mul_assoc,Nat.mul_comm (2 ^ k) 2,Nat.mul_assoc];lia⟩
theorem C.le{tk:Nat->Bool}{n p k j:Nat}(hj:j<=k)(h:C tk n p k):C tk n p j:=by
 induction k with
 | zero=>rw[Nat.le_zero.mp hj];exact h
 | succ k ih =>
  rcases Nat.lt_or_ge k j with c|c
  ·rw[show j=k+1 by lia];exact h
  ·exact ih c h.down
theorem C.uniq{tk:Nat->Bool}{n p k j:Nat}(h1:C tk n p k)(h2:¬ C tk n p (k+1))(h3:C tk n p j)(h4:¬ C tk n p (j+1)):k=j:=by
 rcases Nat.lt_trichotomy k j with c|c|c
 ·exact gE (h3.le c) h2
 ·exact c
 ·exact gE (h1.le c) h4
inductive Gr(tk:Nat->Bool)(n:Nat):Nat->List (Nat×Nat)->Prop where
 | done {p:Nat}:n<=p->Gr tk n p []
 | skip {p:Nat} {l:xD}:p<n->tk p=true->Gr tk n (p+1) l->Gr tk n p l
 | out {p k:Nat} {l:xD}:p<n->C tk n p k->¬ C tk n p (k+1)->Gr tk n (p+2 ^ k) l->Gr tk n p ((p,2 ^ k)::l)
theorem Ec{tk:Nat->Bool}{n:Nat}{l:xD}:∀(z p:Nat),p+z<=n->(∀c,p<=c->c<p+z->tk c=true)->Gr tk n (p+z) l->Gr tk n p l
 | 0,p,_,_,h=>h
 | z+1,p,hn,ht,h=>by
  refine .skip (by lia) (ht p (uA _) (by lia)) (Ec z (p+1) (by lia) (λc a b=>ht c (by lia) (by lia)) ?_);rw[show p+1+z=p+(z+1) by lia];exact h
structure Ok(tk:Nat->Bool)(s k:Nat)(ts:xD):Prop where
 ag:∀c,s<=c->c<s+2 ^ k->(tk c=true ↔ ∃t∈ts,t.1<=c/\c<t.1+t.2)
 nest:∀t∈ts,s<t.1+t.2->t.1<s+2 ^ k->s<=t.1/\t.1+t.2<=s+2 ^ k/\∃j,t.2=2 ^ j/\(t.1-s) % 2 ^ j=0
theorem Ws{a k j:Nat}(h1:a % 2 ^ j=0)(h2:a+2 ^ j<=2 ^ (k+1))(h3:¬ (a=0/\j=k+1)):a+2 ^ j<=2 ^ k\/2 ^ k<=a:=by
 have hj:=pos2 j;have hk:=pos2 k;have e:=fH k;have hjk:j<=k:=by
  rcases Nat.lt_or_ge k j with c|c
  ·exfalso
   have h4:2 ^ (k+1)<=2 ^ j:=Nat.pow_le_pow_right (by decide) c;have h5:a=0:=by lia
   have h6:2 ^ j=2 ^ (k+1):=by lia
   have h7:j=k+1:=by
    rcases Nat.lt_or_ge (k+1) j with z|z
    ·have:2 ^ (k+1+1)<=2 ^ j:=Nat.pow_le_pow_right (by decide) z;have:=fH (k+1);have:=pos2 (k+1)
     lia
    ·lia
   exact h3 ⟨h5,h7⟩
  ·exact c
 rcases Nat.lt_or_ge a (2 ^ k) with c|c
 ·left
  obtain⟨q,hq⟩:=Nat.dvd_of_mod_eq_zero h1;obtain⟨m,hm⟩:∃m,2 ^ k=2 ^ j*m:=⟨2 ^ (k-j),by rw[<- Nat.pow_add];congr 1;lia⟩;rw[hq,hm] at c ⊢;have:q<m:=Nat.lt_of_mul_lt_mul_left c
  calc 2 ^ j*q+2 ^ j=2 ^ j*(q+1):=by rw[Nat.mul_add,Nat.mul_one]
   _<=2 ^ j*m:=Nat.mul_le_mul_left _ this
 ·exact .inr c
theorem R3{a k j:Nat}(h1:a % 2 ^ j=0)(h2:2 ^ k<=a)(hj:j<=k):(a-2 ^ k) % 2 ^ j=0:=by
 obtain⟨q,hq⟩:=Nat.dvd_of_mod_eq_zero h1;obtain⟨m,hm⟩:∃m,2 ^ k=2 ^ j*m:=⟨2 ^ (k-j),by rw[<- Nat.pow_add];congr 1;lia⟩;rw[hq,hm,<- Nat.mul_sub];exact Nat.mul_mod_right _ _
theorem Ok.Ed{tk:Nat->Bool}{s k:Nat}{ts:xD}(h:Ok tk s k ts):Ok tk s k (ts.filter (aV s (2 ^ k))) where
 ag c a b:=by
  rw[h.ag c a b]
  constructor
  ·rintro ⟨t,ht,h1,h2⟩;exact⟨t,List.mem_filter.mpr ⟨ht,dF.mpr ⟨by lia,by lia⟩⟩,h1,h2⟩
  ·rintro ⟨t,ht,h1,h2⟩;exact⟨t,(List.mem_filter.mp ht).1,h1,h2⟩
 nest t ht:=h.nest t (List.mem_filter.mp ht).1
theorem Ok.halves{tk:Nat->Bool}{s k:Nat}{ts:xD}(h:Ok tk s (k+1) ts)(hn:(s,2 ^ (k+1)) ∉ ts):Ok tk s k ts/\Ok tk (s+2 ^ k) k ts:=by
 have e:=fH k;have hk:=pos2 k;have key:∀t∈ts,s<t.1+t.2->t.1<s+2 ^ (k+1)->∃j,t.2=2 ^ j/\s<=t.1/\(t.1-s) % 2 ^ j=0/\t.1+t.2<=s+2 ^ (k+1)/\(t.1+t.2<=s+2 ^ k\/(s+2 ^ k<=t.1/\j<=k)):=by
  intro t ht a b;obtain⟨h1,h2,j,h3,h4⟩:=h.nest t ht a b;refine⟨j,h3,h1,h4,h2,?_⟩;have hj:=pos2 j;rcases Ws (a:=t.1-s) (k:=k) (j:=j) h4 (by lia) (λ⟨z1,z2⟩=>hn (by
   have:t=(s,2 ^ (k+1)):=by
    apply Prod.ext
    ·show t.1=s
     lia
    ·show t.2=2 ^ (k+1);rw[h3,z2]
   rw[<- this];exact ht)) with c|c
  ·left;lia
  ·right
   refine⟨by lia,?_⟩;rcases Nat.lt_or_ge k j with z|z
   ·have:2 ^ (k+1)<=2 ^ j:=Nat.pow_le_pow_right (by decide) z
    lia
   ·exact z
 refine⟨⟨λc a b=>h.ag c a (by lia),λt ht a b=>?_⟩,⟨λc a b=>h.ag c (by lia) (by lia),λt ht a b=>?_⟩⟩
 ·obtain⟨j,h1,h2,h3,h4,h5⟩:=key t ht a (by lia);refine⟨h2,?_,j,h1,h3⟩;rcases h5 with h5|⟨h5,_⟩
  ·exact h5
  ·lia
 ·obtain⟨j,h1,h2,h3,h4,h5⟩:=key t ht (by lia) (by lia);rcases h5 with h5|⟨h5,h6⟩
  ·lia
  ·refine⟨h5,by lia,j,h1,?_⟩;have:=R3 (a:=t.1-s) (k:=k) (j:=j) h3 (by lia) h6;rw[show t.1-(s+2 ^ k)=t.1-s-2 ^ k by lia];exact this
theorem R4{s k:Nat}(h:s % 2 ^ (k+1)=0):(s+2 ^ k) % 2 ^ (k+1)≠0:=by
 have hk:=pos2 k;have e:=fH k;rw[Nat.add_mod,h,Nat.zero_add,Nat.mod_mod,Nat.mod_eq_of_lt (by lia)]
 lia
theorem Wt{s k:Nat}(h:s % 2 ^ (k+1)=0):s % 2 ^ k=0/\(s+2 ^ k) % 2 ^ k=0:=by
 have e:=fH k;have h0:s % 2 ^ k=0:=by
  obtain⟨q,hq⟩:=Nat.dvd_of_mod_eq_zero h;rw[hq,e,Nat.add_mul,<- Nat.mul_add];exact Nat.mul_mod_right _ _
 exact⟨h0,by rw[Nat.add_mod,h0,Nat.mod_self];rfl⟩
theorem R5{tk:Nat->Bool}{n:Nat}:∀(k s:Nat)(ts l:xD),Ok tk s k ts->s % 2 ^ k=0->s+2 ^ k<=n->¬ C tk n s (k+1)->Gr tk n (s+2 ^ k) l->Gr tk n s (fwF k s ts++l):=by
 intro k;have free:∀(k s:Nat)(ts:xD),Ok tk s k ts->ts.filter (aV s (2 ^ k))=[]->∀c,s<=c->c<s+2 ^ k->tk c=false:=by
  intro k s ts ok he c a b;cases ht:tk c with
  | false=>rfl
  | true =>
   obtain⟨t,h1,h2,h3⟩:=(ok.ag c a b).mp ht;have:t∈ts.filter (aV s (2 ^ k)):=List.mem_filter.mpr ⟨h1,dF.mpr ⟨by lia,by lia⟩⟩;rw[he] at this;cases this
 have full:∀(k s:Nat)(ts l:xD),Ok tk s k ts->(s,2 ^ k)∈ts->s+2 ^ k<=n->Gr tk n (s+2 ^ k) l->Gr tk n s l:=by
  intro k s ts l ok hm hn hg;exact Ec (2 ^ k) s hn (λc a b=>(ok.ag c a b).mpr ⟨_,hm,a,b⟩) hg
 induction k with
 | zero =>
  intro s ts l ok al hn hc hg;unfold fwF;split
  ·rename_i he;exact .out (by have:=pos2 0;lia) ⟨al,hn,free 0 s ts ok he⟩ hc hg
  ·rename_i he;obtain⟨t,ht⟩:=List.exists_mem_of_ne_nil _ he;obtain⟨h1,h2⟩:=List.mem_filter.mp ht;obtain⟨h3,h4⟩:=dF.mp h2;obtain⟨h5,h6,j,h7,h8⟩:=ok.nest t h1 h3 h4;have hj:=pos2 j;have:t=(s,2 ^ 0):=by
    apply Prod.ext
    ·show t.1=s;simp only[Nat.pow_zero] at h4 h6
     lia
    ·show t.2=2 ^ 0;simp only[Nat.pow_zero] at h4 h6 ⊢
     lia
   rw[this] at h1;exact full 0 s ts l ok h1 hn hg
 | succ k ih =>
  intro s ts l ok al hn hc hg;have e:=fH k;have hk:=pos2 k;unfold fwF;split
  ·rename_i he;exact .out (by lia) ⟨al,hn,free (k+1) s ts ok he⟩ hc hg
  ·rename_i he;split
   ·rename_i hm;exact full (k+1) s ts l ok (List.mem_filter.mp hm).1 hn hg
   ·rename_i hm;obtain⟨o1,o2⟩:=ok.Ed.halves hm;obtain⟨a1,a2⟩:=Wt al;rw[vF];have nc:¬ C tk n s (k+1):=by
     intro ⟨_,_,hf⟩;obtain⟨t,ht⟩:=List.exists_mem_of_ne_nil _ he;obtain⟨h1,h2⟩:=List.mem_filter.mp ht;obtain⟨h3,h4⟩:=dF.mp h2;obtain⟨h5,h6,j,h7,h8⟩:=ok.nest t h1 h3 h4;have hj:=pos2 j;have:=(ok.ag t.1 h5 (by lia)).mpr ⟨t,h1,uA _,by lia⟩;rw[hf t.1 h5 (by lia)] at this;cases this
    refine ih s _ _ o1 a1 (by lia) nc ?_;refine ih (s+2 ^ k) _ _ o2 a2 (by lia) (λz=>R4 al z.1) ?_;rw[Nat.add_assoc,<- e];exact hg
end M44
namespace M44
def whF:Nat->Nat->Nat->List (Nat×Nat)
 | 0,_,_=>[]
 | f+1,s,n=>if s<n then (s,2 ^ Nat.log2 (n-s))::whF f (s+2 ^ Nat.log2 (n-s)) n else []
def Pc(n a b:Nat):Prop:=∃k,b=2 ^ k/\a % 2 ^ k=0/\a+2 ^ k<=n
inductive Ch(n:Nat):Nat->List (Nat×Nat)->Prop where
 | nil {s:Nat}:n<=s->Ch n s []
 | cons {s e:Nat} {l:xD}:s<n->s % 2 ^ (e+1)=0->s+2 ^ e<=n->n<s+2 ^ (e+1)->Ch n (s+2 ^ e) l->Ch n s ((s,2 ^ e)::l)
theorem mod_le{a j k:Nat}(h:a % 2 ^ k=0)(hj:j<=k):a % 2 ^ j=0 :=
 Nat.mod_eq_zero_of_dvd (Nat.dvd_trans (Nat.pow_dvd_pow 2 hj) (Nat.dvd_of_mod_eq_zero h))
theorem xG{j k:Nat}(h:2 ^ j<=2 ^ k):j<=k:=(Nat.pow_le_pow_iff_right (by decide)).mp h
theorem iT{j k:Nat}(h:2 ^ j<2 ^ k):j<k:=(Nat.pow_lt_pow_iff_right (by decide)).mp h
theorem R6{n:Nat}:∀(f s g:Nat),n-s<=f->s % 2 ^ g=0->n<s+2 ^ g->Ch n s (whF f s n)
 | 0,s,g,h,_,_=>.nil (by lia)
 | f+1,s,g,h,h1,h2=>by
  unfold whF;split
  ·rename_i hs;have a:2 ^ Nat.log2 (n-s)<=n-s:=Nat.log2_self_le (by lia);have b:n-s<2 ^ (Nat.log2 (n-s)+1):=Nat.lt_log2_self;have c:Nat.log2 (n-s)<g:=iT (by lia);have d:=pos2 (Nat.log2 (n-s));have m:=mod_le h1 (show Nat.log2 (n-s)+1<=g from c);have e:=fH (Nat.log2 (n-s));refine .cons hs m (by lia) (by lia) (R6 f _ (Nat.log2 (n-s)) (by lia) ?_ (by lia));rw[Nat.add_mod,mod_le m (Nat.le_succ _),Nat.mod_self]
   rfl
  ·exact .nil (by lia)
theorem pA{a b k:Nat}(ha:a % 2 ^ k=0)(hb:b % 2 ^ k=0)(h:a<b):a+2 ^ k<=b:=by
 obtain⟨p,rfl⟩:=Nat.dvd_of_mod_eq_zero ha;obtain⟨q,rfl⟩:=Nat.dvd_of_mod_eq_zero hb;have h3:=pos2 k;have:p<q:=Nat.lt_of_mul_lt_mul_left h
 calc 2 ^ k*p+2 ^ k=2 ^ k*(p+1):=by rw[Nat.mul_add,Nat.mul_one]
  _<=2 ^ k*q:=Nat.mul_le_mul_left _ this
theorem Wu{a b k:Nat}(ha:a % 2 ^ k=0)(hb:b % 2 ^ k=0):(a-b) % 2 ^ k=0:=by
 obtain⟨p,rfl⟩:=Nat.dvd_of_mod_eq_zero ha;obtain⟨q,rfl⟩:=Nat.dvd_of_mod_eq_zero hb;rw[<- Nat.mul_sub];exact Nat.mul_mod_right _ _
theorem uw{a b k:Nat}(ha:a % 2 ^ k=0)(hb:b % 2 ^ k=0):(a+b) % 2 ^ k=0:=by
 rw[Nat.add_mod,ha,hb];exact Nat.zero_mod _
theorem Ef{n s e a k:Nat}(h1:s % 2 ^ (e+1)=0)(h2:s+2 ^ e<=n)(h3:n<s+2 ^ (e+1))(ha:a % 2 ^ k=0)(hn:a+2 ^ k<=n)(m1:s<a+2 ^ k)(m2:a<s+2 ^ e):s<=a/\a+2 ^ k<=s+2 ^ e/\(a-s) % 2 ^ k=0:=by
 have ee:=fH e;have pk:=pos2 k;have pe:=pos2 e;rcases Nat.lt_or_ge e k with c|c
 ·exfalso
  have ha':=mod_le ha (show e+1<=k from c);have hk':(a+2 ^ k) % 2 ^ (e+1)=0:=uw ha' (mod_le (Nat.mod_self _) c);have:=pA h1 hk' m1
  lia
 ·have hs:=mod_le h1 (show k<=e+1 by lia);have he:(s+2 ^ e) % 2 ^ k=0:=uw hs (mod_le (Nat.mod_self _) c);refine⟨?_,pA ha he m2,Wu ha hs⟩;rcases Nat.lt_or_ge a s with d|d
  ·have:=pA ha hs d
   lia
  ·exact d
theorem ab9{n a b:Nat}:∀{s:Nat} {ws:xD},Ch n s ws->s<=a->Pc n a b->∃w∈ws,w.1<=a/\a+b<=w.1+w.2/\(a-w.1) % b=0:=by
 intro s ws h
 induction h with
 | @nil s h =>
  rintro hs ⟨k,rfl,_,h2⟩;have:=pos2 k
  lia
 | @cons s e l h1 h2 h3 h4 _ ih =>
  rintro hs ⟨k,rfl,ha,hn⟩;rcases Nat.lt_or_ge a (s+2 ^ e) with c|c
  ·have pk:=pos2 k;obtain⟨_,x,y⟩:=Ef h2 h3 h4 ha hn (by lia) c;exact⟨_,zC,hs,x,y⟩
  ·obtain⟨w,hw,r⟩:=ih c ⟨k,rfl,ha,hn⟩;exact⟨w,zD _ hw,r⟩
theorem R7{n:Nat}:∀{s:Nat} {ws:xD},Ch n s ws->∀w∈ws,∃e,w.2=2 ^ e/\w.1 % 2 ^ (e+1)=0/\w.1+2 ^ e<=n/\n<w.1+2 ^ (e+1):=by
 intro s ws h
 induction h with
 | nil _=>intro w hw;cases hw
 | @cons s e l h1 h2 h3 h4 _ ih =>
  intro w hw;rcases vS.mp hw with rfl|hw
  ·exact⟨e,rfl,h2,h3,h4⟩
  ·exact ih w hw
theorem R8{n a b:Nat}{ws:xD}(h:Ch n 0 ws)(hb:∃k,b=2 ^ k):(∃w∈ws,w.1<=a/\a+b<=w.1+w.2/\(a-w.1) % b=0) ↔ Pc n a b:=by
 constructor
 ·rintro ⟨w,hw,h1,h2,h3⟩;obtain⟨k,rfl⟩:=hb;obtain⟨e,he,m,x,y⟩:=R7 h w hw;rw[he] at h2;have ke:k<=e:=xG (by lia);refine⟨k,rfl,?_,by lia⟩;have:=uw (mod_le m (show k<=e+1 by lia)) h3
  rwa [show w.1+(a-w.1)=a by lia] at this
 ·exact λp=>ab9 h (Nat.zero_le _) p
def frF(ws ts:xD):List (Nat×Nat):=ws.flatMap λw=>fwF (Nat.log2 w.2) w.1 ts
def tkF(ts:xD)(c:Nat):Bool:=ts.any λt=>decide (t.1<=c) && decide (c<t.1+t.2)
theorem rP{ts:xD}{c:Nat}:tkF ts c=true ↔ ∃t∈ts,t.1<=c/\c<t.1+t.2:=by
 unfold tkF;simp
theorem X5{n s e:Nat}{ts:xD}(h2:s % 2 ^ (e+1)=0)(h3:s+2 ^ e<=n)(h4:n<s+2 ^ (e+1))(hp:∀t∈ts,Pc n t.1 t.2):Ok (tkF ts) s e ts where
 ag:=λc _ _=>rP
 nest:=λt ht m1 m2=>by
  obtain⟨k,e1,e2,e3⟩:=hp t ht;rw[e1] at m1 ⊢;obtain⟨x,y,z⟩:=Ef h2 h3 h4 e2 e3 m1 m2;exact⟨x,y,k,rfl,z⟩
theorem X6{n:Nat}{ts:xD}(hp:∀t∈ts,Pc n t.1 t.2):∀{s:Nat} {ws:xD},Ch n s ws->Gr (tkF ts) n s (frF ws ts):=by
 intro s ws h
 induction h with
 | nil h=>exact .done h
 | @cons s e l h1 h2 h3 h4 _ ih =>
  unfold frF;rw[List.flatMap_cons];show Gr _ _ _ (fwF (Nat.log2 (2 ^ e)) s ts++_);rw[Nat.log2_two_pow];exact R5 e s ts _ (X5 h2 h3 h4 hp) (mod_le h2 (Nat.le_succ _)) h3 (λc=>by have:=c.2.1;lia) ih
theorem Wv{tk:Nat->Bool}{n p:Nat}{l l':xD}(h:Gr tk n p l):Gr tk n p l'->l=l':=by
 induction h generalizing l' with
 | done h =>
  intro h2;cases h2 with
  | done _=>rfl
  | skip h3 _ _=>lia
  | out h3 _ _ _=>lia
 | skip h1 h2 _ ih =>
  intro h3;cases h3 with
  | done h4=>lia
  | skip _ _ h5=>exact ih h5
  | @out _ k _ _ c _ _=>have:=c.2.2 _ (uA _) (by have:=pos2 k;lia);rw[h2] at this;cases this
 | @out p k l h1 h2 h3 _ ih =>
  intro h4;cases h4 with
  | done h5=>lia
  | skip _ h6 _=>have:=h2.2.2 _ (uA _) (by have:=pos2 k;lia);rw[h6] at this;cases this
  | out _ h6 h7 h8 =>
   obtain rfl:=C.uniq h2 h3 h6 h7;rw[ih h8]
theorem Ww{n:Nat}{ts l ws:xD}(hp:∀t∈ts,Pc n t.1 t.2)(hc:Ch n 0 ws)(hg:Gr (tkF ts) n 0 l):l=frF ws ts:=Wv hg (X6 hp hc)
end M44
namespace M44
def frP(n:Nat)(ts:xD):List (Nat×Nat):=frF (whF n 0 n) ts
structure Gd(n:Nat)(ts:xD):Prop where
 pc:∀t∈ts,Pc n t.1 t.2
 ap:ts.Pairwise λt w=>aV w.1 w.2 t=false
theorem Gd.sub{n:Nat}{ts us:xD}(h:Gd n ts)(s:us.Sublist ts):Gd n us:=⟨λt ht=>h.pc t (s.mem ht),h.ap.sublist s⟩
theorem Pc.pos{n a b:Nat}(h:Pc n a b):1<=b/\a+b<=n:=by
 obtain⟨k,rfl,_,h⟩:=h;have:=pos2 k
 lia
theorem gr_mem{tk:Nat->Bool}{n p:Nat}{l:xD}(h:Gr tk n p l):∀w∈l,p<=w.1/\∃k,w.2=2 ^ k/\C tk n w.1 k:=by
 induction h with
 | done _=>exact λ_ h=>gE h wT
 | skip _ _ _ ih=>exact λw hw=>⟨by have:=(ih w hw).1;lia,(ih w hw).2⟩
 | @out p k l h1 h2 h3 _ ih =>
  intro w hw;have:=pos2 k;rcases vS.mp hw with rfl|hw
  ·exact⟨uA _,k,rfl,h2⟩
  ·exact⟨by have:=(ih w hw).1;lia,(ih w hw).2⟩
theorem Bd{tk:Nat->Bool}{n p:Nat}{l:xD}(h:Gr tk n p l):l.Pairwise (λa b=>a.1<b.1)/\l.length<=n-p:=by
 induction h with
 | done _=>exact⟨List.Pairwise.nil,by simp⟩
 | skip _ _ _ ih=>exact⟨ih.1,by lia⟩
 | @out p k l h1 h2 h3 h4 ih =>
  have:=pos2 k;have:=h2.2.1;refine⟨mI.mpr ⟨λw hw=>?_,ih.1⟩,by rw[mN];lia⟩;have:=(gr_mem h4 w hw).1;show p<w.1
  lia
section
variable{n:Nat}{ts:xD}{w:Nat×Nat}
theorem Bf(h:n<=240)(g:Gd n ts):Gr (tkF ts) n 0 (frP n ts):=X6 g.pc (R6 n 0 8 (by lia) (by rfl) (by lia))
theorem R9(h:n<=240)(g:Gd n ts):(frP n ts).Pairwise (λa b=>a.1<b.1):=(Bd (Bf h g)).1
theorem Kz(h:n<=240)(g:Gd n ts):(frP n ts).length<=240:=by have:=(Bd (Bf h g)).2;lia
theorem xH(h:n<=240)(g:Gd n ts):(frP n ts).Nodup:=(R9 h g).imp λh z=>by rw[z] at h;lia
theorem Wx(h:n<=240)(g:Gd n ts)(m:w∈frP n ts):Pc n w.1 w.2/\∀t∈ts,aV w.1 w.2 t=false:=by
 obtain⟨_,k,e,c1,c2,c3⟩:=gr_mem (Bf h g) w m;rw[e];refine⟨⟨k,rfl,c1,c2⟩,λt ht=>?_⟩;rw[Bool.eq_false_iff];intro z;obtain⟨z1,z2⟩:=dF.mp z;have tp:=(g.pc t ht).pos;have:=c3 (max w.1 t.1) (by lia) (by lia);rw[Bool.eq_false_iff] at this;exact this (rP.mpr ⟨t,ht,by lia,by lia⟩)
theorem xJ(h:n<=240)(g:Gd n ts)(m:w∈frP n ts):w.1+w.2<=240/\1<=w.2:=by
 have:=(Wx h g m).1.pos
 lia
end
end M44
namespace M48
open M22 M44
def gq(n:Nat):Nat->List (Nat×Nat)->List (Nat×Nat)
 | e,[]=>if e<n then [(e,n-e)] else []
 | e,q::t=>(if e<q.1 then [(e,q.1-e)] else [])++gq n (q.1+q.2) t
theorem Wy{n e:Nat}:gq n e []=if e<n then [(e,n-e)] else []:=rfl
theorem R_{n e:Nat}{q:Nat×Nat}{t:xD}:gq n e (q::t)=(if e<q.1 then [(e,q.1-e)] else [])++gq n (q.1+q.2) t:=rfl
structure UpF(n e:Nat)(qs:xD):Prop where
 ok:∀q∈qs,1<=q.2/\e<=q.1/\q.1+q.2<=n
 up:qs.Pairwise λa b=>a.1+a.2<=b.1
theorem UpF.tail{n e:Nat}{q:Nat×Nat}{t:xD}(h:UpF n e (q::t)):UpF n (q.1+q.2) t :=
 ⟨λa ha=>⟨(h.ok a (zD _ ha)).1,(mI.mp h.up).1 a ha,(h.ok a (zD _ ha)).2.2⟩,(mI.mp h.up).2⟩
theorem Bg{n:Nat}:∀{qs:xD} {e:Nat},UpF n e qs->∀w∈gq n e qs,e<=w.1/\1<=w.2/\w.1+w.2<=n/\∀q∈qs,q.1+q.2<=w.1\/w.1+w.2<=q.1
 | [],e,_,w,hw=>by
  unfold gq at hw;split at hw
  ·rw[uB.mp hw];exact⟨uA _,by show 1<=n-e;lia,by show e+(n-e)<=n;lia,λq hq=>by cases hq⟩
  ·cases hw
 | q::t,e,h,w,hw=>by
  have hq:=h.ok q zC;unfold gq at hw;rcases wP.mp hw with hw|hw
  ·split at hw
   ·rw[uB.mp hw];refine⟨uA _,by show 1<=q.1-e;lia,by show e+(q.1-e)<=n;lia,λp hp=>.inr ?_⟩;show e+(q.1-e)<=p.1;rcases vS.mp hp with rfl|hp
    ·lia
    ·have:=(mI.mp h.up).1 p hp
     lia
   ·cases hw
  ·obtain⟨a,b,c,d⟩:=Bg h.tail w hw;refine⟨by lia,b,c,λp hp=>?_⟩;rcases vS.mp hp with rfl|hp
   ·exact .inl a
   ·exact d p hp
theorem KC{n:Nat}:∀{qs:xD} {e:Nat},UpF n e qs->(gq n e qs).Pairwise λa b=>a.1+a.2<b.1
 | [],e,_=>by
  unfold gq;split
  ·exact List.pairwise_singleton _ _
  ·exact List.Pairwise.nil
 | q::t,e,h=>by
  have hq:=h.ok q zC;unfold gq;refine mB.mpr ⟨?_,KC h.tail,λa ha b hb=>?_⟩
  ·split
   ·exact List.pairwise_singleton _ _
   ·exact List.Pairwise.nil
  ·split at ha
   ·rw[uB.mp ha];have:=(Bg h.tail b hb).1;show e+(q.1-e)<b.1
    lia
   ·cases ha
theorem KD{n:Nat}:∀{qs:xD} {e:Nat},UpF n e qs->e<=n->((gq n e qs).map (·.2)).sum+(qs.map (·.2)).sum+e=n
 | [],e,_,he=>by
  unfold gq;split
  ·simp;lia
  ·simp;lia
 | q::t,e,h,he=>by
  have hq:=h.ok q zC;have ih:=KD h.tail hq.2.2;unfold gq;rw[List.map_append,List.sum_append,oC,List.sum_cons];split
  ·rw[oC,List.map_nil,List.sum_cons,List.sum_nil];show q.1-e+0+_+_+e=n
   lia
  ·rw[List.map_nil,List.sum_nil]
   lia
theorem Ob{n:Nat}{ts qs:xD}(h:UpF n 0 qs)(p:qs.Perm ts):gq n 0 qs=aP (cells n (cov ts)):=by
 have up:qs.Pairwise Dis:=h.up.imp λh=>.inl h
 have hd:ts.Pairwise Dis:=D_ p up;have hb:∀w∈ts,w.1+w.2<=n:=λw hw=>(h.ok w (p.mem_iff.mpr hw)).2.2
 have c:=Ja (n:=n) hb hd;have s:=KD h (Nat.zero_le n);have e:=(p.map (·.2)).sum_nat;refine Oa (KC h) (λw hw=>?_) ?_
 ·obtain⟨a,b,c,d⟩:=Bg h w hw;refine⟨b,by rw[cV];exact c,λj h1 h2=>Ky c (λv hv=>?_) j h1 h2⟩;exact d v (p.mem_iff.mpr hv)
 ·lia
end M48
namespace K48
open PySem L2 PyProof.Rows
def top(i:Nat):Stmt:=PySem.Challenge.pw_slideroom_k48_rules_by_words.main.body.getD i (.Pass ⟨0,0,0,0⟩)
abbrev lZ:Stmt:=top 17
theorem qF:aJ ["thing"] ["thing"] (au lZ):=scz
abbrev pB:Stmt:=top 18
theorem ux:aJ ["thing","low"] ["thing","low"] (au pB):=scz
abbrev jX:Stmt:=top 19
theorem nZ:aJ ["thing","low","high"] ["thing","low","high"] (au jX):=scz
abbrev pC:Stmt:=top 20
theorem uz:aJ ["thing"] ["thing"] (au pC):=scz
abbrev uD:Stmt:=top 23
theorem xK:aJ ["stretch"] ["stretch"] (au uD):=scz
abbrev pD:Stmt:=top 22
theorem uE:aJ ["thing"] ["thing"] (au pD):=scz
abbrev Bh:Stmt:=top 27
theorem Eh:aJ ["free","holes","size","cell","is_free"] ["free"] (au Bh):=scz
abbrev pG:Stmt:=top 28
theorem uF:aJ ["free","stretch"] ["free","stretch"] (au pG):=scz
abbrev pH:Stmt:=top 10
theorem uG:aJ ["holes"] ["holes"] (au pH):=scz
abbrev jY:Stmt:=top 11
theorem xM:aJ ["holes"] ["holes"] (au jY):=scz
abbrev mq:Stmt:=top 12
theorem qG:aJ ["holes","mark","rising"] ["holes","mark"] (au mq):=scz
abbrev Bj:Stmt:=top 24
theorem Ei:aJ ["one","other"] ["one","other"] (au Bj):=scz
abbrev pI:Stmt:=top 36
theorem uH:aJ ["size","power"] ["size"] (au pI):=scz
abbrev Jb:Stmt:=top 37
theorem KH:aJ ["most","power"] ["most"] (au Jb):=scz
abbrev uI:Stmt:=top 38
theorem xO:aJ ["many","wholes","start","whole"] ["many"] (au uI):=scz
abbrev Sg:Stmt:=top 39
theorem Sh:aJ ["whole","piece"] ["whole","piece"] (au Sg):=scz
abbrev Bl:Stmt:=top 40
theorem Ej:aJ ["many","start","size"] ["many","start","size"] (au Bl):=scz
abbrev uJ:Stmt:=top 41
theorem xP:aJ ["many","start","size","taken"] ["many","start","size","taken"] (au uJ):=scz
abbrev pJ:Stmt:=top 42
theorem bO:aJ ["piece","taken","sharing","half"] ["piece","taken"] (au pJ):=scz
abbrev pK:Stmt:=top 43
theorem uK:aJ ["many","taken","told","whole"] ["many","taken"] (au pK):=scz
abbrev Jc:Stmt:=top 47
theorem KJ:aJ ["word","many"] ["word","many"] (au Jc):=scz
abbrev jZ:Stmt:=top 48
theorem xQ:aJ ["word","many","mark","rule"] ["word","many","mark"] (au jZ):=scz
abbrev uL:Stmt:=top 50
theorem xR:aJ ["_law_cell","_law_many","_law_found","_law_number","_law_k"] ["_law_cell","_law_many"] (au uL):=scz
abbrev uM:Stmt:=top 51
theorem xT:aJ ["_law_thing"] ["_law_thing"] (au uM):=scz
abbrev Bo:Stmt:=top 52
theorem Ek:aJ ["_law_many","_law_taken","_law_cells","_law_start","_law_size","_law_found","_law_place"] ["_law_many","_law_taken"] (au Bo):=scz
abbrev Bp:Stmt:=top 53
theorem El:aJ ["_law_many","_law_taken","_law_found","_law_end","_law_start","_law_size"] ["_law_many","_law_taken"] (au Bp):=scz
abbrev xU:Stmt:=top 54
abbrev uN:Stmt:=top 55
theorem xV:aJ ["_law_word","_law_mark","_law_holes"] ["_law_word","_law_mark","_law_holes"] (au uN):=scz
abbrev uO:Stmt:=top 56
theorem xW:aJ ["_law_word","_law_rule","_law_kinds"] ["_law_word","_law_rule"] (au uO):=scz
abbrev Bq:Stmt:=top 57
theorem j4:aJ ["_law_word","_law_many","_law_mark","_law_draws_here","_law_rule","_law_taken","_law_second","_law_start","_law_size","_law_holes"] ["_law_word","_law_many","_law_mark","_law_draws_here"] (au Bq):=scz
abbrev Jd:Stmt:=top 58
theorem KN:aJ ["_law_cell"] ["_law_cell"] (au Jd):=scz
abbrev mz:Stmt:=top 59
theorem qH:aJ ["_law_word","_law_many","_law_draws_here","_law_far"] ["_law_word","_law_many","_law_draws_here"] (au mz):=scz
abbrev mC:Stmt:=top 60
theorem qI:aJ ["_law_things","_law_thing"] ["_law_things"] (au mC):=scz
abbrev uP:Stmt:=top 61
theorem xX:aJ ["_law_word","_law_many","_law_mark","e"] ["_law_word","_law_many","_law_mark"] (au uP):=scz
abbrev mD:Stmt:=top 62
theorem qJ:aJ ["_law_word","_law_many","_law_draws_here","_law_things","_law_first","_law_handed"] ["_law_word","_law_many","_law_draws_here"] (au mD):=scz
abbrev n6:Stmt:=top 63
theorem Sq:aJ ["_law_script","_law_cell","_law_draws_here","_law_word","_law_many","_law_mark"] ["_law_script"] (au n6):=scz
abbrev Br:Stmt:=inClass (top 29) 0
theorem Em:aJ ["self","many"] ["self","many"] (au Br):=scz
abbrev Bs:Stmt:=inClass (top 29) 1
theorem En:aJ ["self"] ["self"] (au Bs):=scz
abbrev Je:Stmt:=inClass (top 29) 4
theorem KQ:aJ ["self","start","size"] ["self","start","size"] (au Je):=scz
abbrev Bt:Stmt:=inClass (top 29) 7
theorem Eo:aJ ["self","start","size","cell"] ["self","start","size"] (au Bt):=scz
abbrev Bu:Stmt:=inClass (top 44) 0
theorem Ep:aJ ["self","many"] ["self","many"] (au Bu):=scz
abbrev Bv:Stmt:=inClass (top 44) 1
theorem Er:aJ ["self"] ["self"] (au Bv):=scz
abbrev Bw:Stmt:=inClass (top 44) 3
theorem Es:aJ ["self","start","size"] ["self","start","size"] (au Bw):=scz
abbrev uQ:Stmt:=inClass (top 31) 0
theorem xY:aJ ["self","book"] ["self","book"] (au uQ):=scz
abbrev uR:Stmt:=inClass (top 31) 0
theorem xZ:aJ ["self","book"] ["self","book"] (au uR):=scz
abbrev uT:Stmt:=inClass (top 31) 0
theorem yc:aJ ["self","book"] ["self","book"] (au uT):=scz
abbrev uU:Stmt:=inClass (top 31) 0
theorem yd:aJ ["self","book"] ["self","book"] (au uU):=scz
abbrev pL:Stmt:=inClass (top 31) 3
theorem uV:aJ ["self"] ["self"] (au pL):=scz
abbrev Bx:Stmt:=inClass (top 31) 9
theorem Et:aJ ["self","start","size"] ["self","start","size"] (au Bx):=scz
abbrev pN:Stmt:=inClass (top 31) 3
theorem uW:aJ ["self"] ["self"] (au pN):=scz
abbrev BJ:Stmt:=inClass (top 31) 9
theorem Eu:aJ ["self","start","size"] ["self","start","size"] (au BJ):=scz
abbrev pO:Stmt:=inClass (top 31) 3
theorem uX:aJ ["self"] ["self"] (au pO):=scz
abbrev BK:Stmt:=inClass (top 31) 9
theorem Ew:aJ ["self","start","size"] ["self","start","size"] (au BK):=scz
abbrev pP:Stmt:=inClass (top 31) 3
theorem uY:aJ ["self"] ["self"] (au pP):=scz
abbrev BL:Stmt:=inClass (top 31) 9
theorem Ey:aJ ["self","start","size"] ["self","start","size"] (au BL):=scz
abbrev uZ:Stmt:=inClass (top 31) 1
theorem yg:aJ ["self"] ["self"] (au uZ):=scz
abbrev u5:Stmt:=inClass (top 31) 1
theorem yh:aJ ["self"] ["self"] (au u5):=scz
abbrev u6:Stmt:=inClass (top 31) 1
theorem yj:aJ ["self"] ["self"] (au u6):=scz
abbrev BP:Stmt:=inClass (top 32) 0
theorem Ez:aJ ["self","many"] ["self","many"] (au BP):=scz
abbrev u9:Stmt:=inClass (top 32) 2
theorem yp:aJ ["self"] ["self"] (au u9):=scz
abbrev BR:Stmt:=inClass (top 32) 1
theorem EY:aJ ["self"] ["self"] (au BR):=scz
abbrev BW:Stmt:=inClass (top 33) 0
theorem E_:aJ ["self","many"] ["self","many"] (au BW):=scz
abbrev u_:Stmt:=inClass (top 33) 2
theorem yq:aJ ["self"] ["self"] (au u_):=scz
abbrev BX:Stmt:=inClass (top 33) 1
theorem Fb:aJ ["self"] ["self"] (au BX):=scz
abbrev n8:Stmt:=inClass (top 34) 0
theorem Fd:aJ ["self","many","mark"] ["self","many","mark"] (au n8):=scz
abbrev vd:Stmt:=inClass (top 34) 4
theorem yr:aJ ["self"] ["self"] (au vd):=scz
abbrev BZ:Stmt:=inClass (top 34) 1
theorem Fe:aJ ["self"] ["self"] (au BZ):=scz
abbrev B_:Stmt:=inClass (top 45) 0
theorem Fg:aJ ["self","many"] ["self","many"] (au B_):=scz
abbrev vf:Stmt:=inClass (top 45) 2
theorem yt:aJ ["self"] ["self"] (au vf):=scz
abbrev Ca:Stmt:=inClass (top 45) 1
theorem Fi:aJ ["self"] ["self"] (au Ca):=scz
abbrev Cd:Stmt:=inClass (top 34) 2
theorem Fj:aJ ["self"] ["self"] (au Cd):=scz
abbrev iU:Stmt:=inClass (top 3) 0
theorem Oc:aJ ["self","many"] ["self","many"] (au iU):=scz
theorem Fl{P:Program}{w:World}{K:W.Frag}{mg:xC}{base:Heap}{C:Addr}(S:Hi K C)(n0:bZ K C "many"):zR P w K mg base CX0 "NoMany.__init__" iU ["self","many"] (VJ C "many"):=λf fd F=>by
 refine⟨F.ok Oc (λvs H Q E h=>?_) (λcdv A outer s H vs Q E hr h=>?_),F.binds (λ_ _ _ _ _ _=>el2 λ_ _=>rfl)⟩
 ·obtain⟨x,v,rfl,_⟩:=h
  rfl
 ·obtain⟨x,v,rfl,ho,k⟩:=h;refine⟨_,aC (Hj (pv 0) (pv 1)),?_⟩;exact⟨_,rfl,_,rfl,x,C,rfl,S,n0.taker,.inl ⟨ho,k⟩⟩
abbrev gG:Stmt:=inClass (top 5) 0
theorem Jf:aJ ["self","at"] ["self","at"] (au gG):=scz
theorem yu{P:Program}{w:World}{K:W.Frag}{mg:xC}{base:Heap}{C:Addr}(S:Hi K C)(n0:bZ K C "at"):zR P w K mg base CX0 "NoPlace.__init__" gG ["self","at"] (VJ C "at"):=λf fd F=>by
 refine⟨F.ok Jf (λvs H Q E h=>?_) (λcdv A outer s H vs Q E hr h=>?_),F.binds (λ_ _ _ _ _ _=>el2 λ_ _=>rfl)⟩
 ·obtain⟨x,v,rfl,_⟩:=h
  rfl
 ·obtain⟨x,v,rfl,ho,k⟩:=h;refine⟨_,aC (Hj (pv 0) (pv 1)),?_⟩;exact⟨_,rfl,_,rfl,x,C,rfl,S,n0.taker,.inl ⟨ho,k⟩⟩
abbrev iV:Stmt:=inClass (top 8) 0
theorem Od:aJ ["self","word"] ["self","word"] (au iV):=scz
theorem Ss{P:Program}{w:World}{K:W.Frag}{mg:xC}{base:Heap}{C:Addr}(S:Hi K C)(n0:bZ K C "word"):zR P w K mg base CX0 "NoRule.__init__" iV ["self","word"] (VJ C "word"):=λf fd F=>by
 refine⟨F.ok Od (λvs H Q E h=>?_) (λcdv A outer s H vs Q E hr h=>?_),F.binds (λ_ _ _ _ _ _=>el2 λ_ _=>rfl)⟩
 ·obtain⟨x,v,rfl,_⟩:=h
  rfl
 ·obtain⟨x,v,rfl,ho,k⟩:=h;refine⟨_,aC (Hj (pv 0) (pv 1)),?_⟩;exact⟨_,rfl,_,rfl,x,C,rfl,S,n0.taker,.inl ⟨ho,k⟩⟩
class Txt(K:W.Frag)(mg:xC)(c:Nat->Addr)(R CH CP CF CT CN CV CB aD ak:Addr):Prop where
 dw:jk K mg "NoMany" "NoMany.__init__" iU (c 0) R
 vg:VR K (c 0) R
 fZ:bZ K (c 0) "many"
 cQ:jk K mg "NoPlace" "NoPlace.__init__" gG (c 1) R
 pQ:VR K (c 1) R
 gC:bZ K (c 1) "at"
 fj:jk K mg "NoRule" "NoRule.__init__" iV (c 2) R
 Fo:VR K (c 2) R
 iI:bZ K (c 2) "word"
 vm:HasDef K mg "is_whole" lZ
 yw:HasDef K mg "is_from" pB
 qK:HasDef K mg "is_within" jX
 yx:HasDef K mg "is_many" pC
 Fp:HasDef K mg "end_of" uD
 yC:HasDef K mg "is_stretch" pD
 KR:HasDef K mg "holes_among" Bh
 yD:HasDef K mg "is_all_free" pG
 yE:HasDef K mg "by_start" pH
 vo:W.codeHdIn K aD ak=true
 Fq:Ks K mg "by_size" jY aD
 vp:HasDef K mg "from_mark" mq
 KY:HasDef K mg "share_cells" Bj
 yF:HasDef K mg "rounded" pI
 Sv:HasDef K mg "greatest_power" Jb
 Ft:HasDef K mg "wholes_of" uI
 X7:HasDef K mg "is_cut_from" Sg
 KZ:HasDef K mg "is_piece" Bl
 Fv:HasDef K mg "is_free_piece" uJ
 cW:HasDef K mg "free_within" pJ
 yG:HasDef K mg "free_pieces" pK
 Sw:HasDef K mg "rule_without_mark" Jc
 Fw:∃tk0:Tok,Kg K mg "rule_of" jZ [.int 0 tk0]
 Fx:HasDef K mg "_law_draws" uL
 Fy:HasDef K mg "_law_whole" uM
 K1:HasDef K mg "_law_free" Bo
 K3:HasDef K mg "_law_runs" Bp
 yH:HasDef K mg "_law_by_size" xU
 Fz:HasDef K mg "_law_order" uN
 FJ:HasDef K mg "_law_class" uO
 K5:HasDef K mg "_law_good" Bq
 Sx:HasDef K mg "_law_odd" Jd
 vq:HasDef K mg "_law_bad_mark" mz
 vA:HasDef K mg "_law_changed" mC
 FN:HasDef K mg "_law_tried" uP
 vB:HasDef K mg "_law_refused" mD
 bJ:mg "isinstance" = none
 Sy:mg "int" = none
 Jg:mg "bool" = none
 SJ:mg "list" = none
 K6:mg "tuple" = none
 SM:mg "len" = none
 X8:mg "all" = none
 SN:mg "any" = none
 Ce:mg "range" = none
 j5:mg "sorted" = none
 qL:mg "enumerate" = none
 X_:mg "sum" = none
 vC:mg "repr" = none
 Cg:mg "ValueError" = none
 j6:Hh mg "FEWEST_CELLS" (.int 16)
 n_:Hh mg "MOST_CELLS" (.int 240)
 jz:W.exmOne K (.ref (c 0)) (.ref (c 2))=some false
 iW:W.exmOne K (.ref (c 1)) (.ref (c 2))=some false
 iY:W.exmOne K (.ref (c 1)) (.ref (c 0))=some false
 g_R:mg "RoomError" = some (.ref R)
 c_R:(W.clsIn K R).isSome=true
 t_R:W.typeIn K (.ref R)=some (.type "type")
 m_R:W.mroIn K R (.type "BaseException")=some true
 clH:Cls K CH
 FP:mg "Holes" = some (.ref CH)
 rQ:bZ K CH "many"
 rR:bZ K CH "free"
 clP:Cls K CP
 yI:mg "Pieces" = some (.ref CP)
 K7:bZ K CP "many"
 yJ:bZ K CP "pieces"
 clF:Cls K CF
 vD:mg "First" = some (.ref CF)
 K8:bZ K CF "book"
 clT:Cls K CT
 j7:mg "Tightest" = some (.ref CT)
 K9:bZ K CT "book"
 clN:Cls K CN
 Ci:mg "Next" = some (.ref CN)
 K_:bZ K CN "book"
 yK:bZ K CN "turned"
 clV:Cls K CV
 pR:mg "Halves" = some (.ref CV)
 La:bZ K CV "book"
 clB:Cls K CB
 lu:mg "Rule" = some (.ref CB)
 Lb:∃f,FnAt K "__init__" "Holes.__init__" Br f/\Mk K CH f
 Ld:∃f,FnAt K "told" "Holes.told" Bs f/\Meth K CH "told" f
 SQ:∃f,FnAt K "has" "Holes.has" Je f/\Meth K CH "has" f
 Le:∃f,FnAt K "take" "Holes.take" Bt f/\Meth K CH "take" f
 Lf:∃f,FnAt K "__init__" "Pieces.__init__" Bu f/\Mk K CP f
 Lg:∃f,FnAt K "told" "Pieces.told" Bv f/\Meth K CP "told" f
 Lh:∃f,FnAt K "take" "Pieces.take" Bw f/\Meth K CP "take" f
 FQ:∃f,FnAt K "__init__" "Rule.__init__" uQ f/\nF K CB "__init__" f
 FT:∃f,FnAt K "__init__" "Rule.__init__" uR f/\nF K CB "__init__" f
 FW:∃f,FnAt K "__init__" "Rule.__init__" uT f/\nF K CB "__init__" f
 FZ:∃f,FnAt K "__init__" "Rule.__init__" uU f/\nF K CB "__init__" f
 yL:∃f,FnAt K "holes" "Rule.holes" pL f/\Meth K CF "holes" f
 Li:∃f,FnAt K "put" "Rule.put" Bx f/\Meth K CF "put" f
 yM:∃f,FnAt K "holes" "Rule.holes" pN f/\Meth K CT "holes" f
 Lj:∃f,FnAt K "put" "Rule.put" BJ f/\Meth K CT "put" f
 yN:∃f,FnAt K "holes" "Rule.holes" pO f/\Meth K CN "holes" f
 Ln:∃f,FnAt K "put" "Rule.put" BK f/\Meth K CN "put" f
 yO:∃f,FnAt K "holes" "Rule.holes" pP f/\Meth K CV "holes" f
 Lp:∃f,FnAt K "put" "Rule.put" BL f/\Meth K CV "put" f
 Ga:∃f,FnAt K "mark" "Rule.mark" uZ f/\Meth K CF "mark" f
 Gb:∃f,FnAt K "mark" "Rule.mark" u5 f/\Meth K CT "mark" f
 Ge:∃f,FnAt K "mark" "Rule.mark" u6 f/\Meth K CV "mark" f
 Lq:∃f,FnAt K "__init__" "First.__init__" BP f/\Mk K CF f
 Gf:∃f,FnAt K "order" "First.order" u9 f/\Meth K CF "order" f
 Lr:∃f,FnAt K "rule_word" "First.rule_word" BR f/\Meth K CF "rule_word" f
 Ls:∃f,FnAt K "__init__" "Tightest.__init__" BW f/\Mk K CT f
 Gg:∃f,FnAt K "order" "Tightest.order" u_ f/\Meth K CT "order" f
 Lw:∃f,FnAt K "rule_word" "Tightest.rule_word" BX f/\Meth K CT "rule_word" f
 Lx:∃(tk:Tok)(f:Addr),XR K "__init__" "Next.__init__" n8 [.int 0 tk] f/\Mk K CN f
 Gh:∃f,FnAt K "order" "Next.order" vd f/\Meth K CN "order" f
 Ly:∃f,FnAt K "rule_word" "Next.rule_word" BZ f/\Meth K CN "rule_word" f
 Lz:∃f,FnAt K "__init__" "Halves.__init__" B_ f/\Mk K CV f
 Gi:∃f,FnAt K "order" "Halves.order" vf f/\Meth K CV "order" f
 LC:∃f,FnAt K "rule_word" "Halves.rule_word" Ca f/\Meth K CV "rule_word" f
 LK:∃f,FnAt K "mark" "Next.mark" Cd f/\Meth K CN "mark" f
 gW:W.specialIn K (.builtin "object.__class__") "__get__" = some (some (.builtin "getset_descriptor.__get__"))
 gY:W.takesIn K (.builtin "object.__class__")=some true
 qM:W.findIn K (.ref CF) "__class__" = some (some (.builtin "object.__class__"))
 qN:W.mroIn K CF (.type "object")=some true
 ccF_k:W.kitOne K (.ref CF) (.ref CB)=some true
 qO:W.findIn K (.ref CT) "__class__" = some (some (.builtin "object.__class__"))
 qP:W.mroIn K CT (.type "object")=some true
 ccT_k:W.kitOne K (.ref CT) (.ref CB)=some true
 qQ:W.findIn K (.ref CN) "__class__" = some (some (.builtin "object.__class__"))
 qT:W.mroIn K CN (.type "object")=some true
 ccN_k:W.kitOne K (.ref CN) (.ref CB)=some true
 qU:W.findIn K (.ref CV) "__class__" = some (some (.builtin "object.__class__"))
 qW:W.mroIn K CV (.type "object")=some true
 ccV_k:W.kitOne K (.ref CV) (.ref CB)=some true
 ccFF:W.kitOne K (.ref CF) (.ref CF)=some true
 ccFT:W.kitOne K (.ref CF) (.ref CT)=some false
 ccFN:W.kitOne K (.ref CF) (.ref CN)=some false
 ccFV:W.kitOne K (.ref CF) (.ref CV)=some false
 ccTF:W.kitOne K (.ref CT) (.ref CF)=some false
 ccTT:W.kitOne K (.ref CT) (.ref CT)=some true
 ccTN:W.kitOne K (.ref CT) (.ref CN)=some false
 ccTV:W.kitOne K (.ref CT) (.ref CV)=some false
 ccNF:W.kitOne K (.ref CN) (.ref CF)=some false
 ccNT:W.kitOne K (.ref CN) (.ref CT)=some false
 ccNN:W.kitOne K (.ref CN) (.ref CN)=some true
 ccNV:W.kitOne K (.ref CN) (.ref CV)=some false
 ccVF:W.kitOne K (.ref CV) (.ref CF)=some false
 ccVT:W.kitOne K (.ref CV) (.ref CT)=some false
 ccVN:W.kitOne K (.ref CV) (.ref CN)=some false
 ccVV:W.kitOne K (.ref CV) (.ref CV)=some true
section
set_option synthInstance.checkSynthOrder false
variable{K:W.Frag}{mg:xC}{c:Nat->Addr}{R CH CP CF CT CN CV CB aD ak:Addr}[T:Txt K mg c R CH CP CF CT CN CV CB aD ak]
instance:jU K CH "many":=⟨T.clH,T.rQ⟩
instance:jU K CH "free":=⟨T.clH,T.rR⟩
instance:jU K CP "many":=⟨T.clP,T.K7⟩
instance:jU K CP "pieces":=⟨T.clP,T.yJ⟩
instance:jU K CF "book":=⟨T.clF,T.K8⟩
instance:jU K CT "book":=⟨T.clT,T.K9⟩
instance:jU K CN "book":=⟨T.clN,T.K_⟩
instance:jU K CN "turned":=⟨T.clN,T.yK⟩
instance:jU K CV "book":=⟨T.clV,T.La⟩
end
local macro_rules|`(tactic| k_tabat)=>`(tactic| first
 | with_reducible assumption
 | (with_reducible exact New.e (by with_reducible assumption))
 | (with_reducible refine New.at (by with_reducible assumption) ?_;k_tabat)
 | (with_reducible refine Off.at (by with_reducible assumption) (by k_ne) ?_;k_tabat)
 | (with_reducible refine Kp.at (by with_reducible assumption) (by k_ne) ?_;k_tabat)
 | (with_reducible refine Same.at (by with_reducible assumption) ?_;k_tabat))
local macro_rules|`(tactic| k_ne)=>`(tactic| first
 | with_reducible assumption
 | (with_reducible exact Ne.symm (by with_reducible assumption))
 | (with_reducible exact New.neA (by with_reducible assumption) (by k_in))
 | (with_reducible exact New.neB (by with_reducible assumption) (by k_in)))
local macro_rules|`(tactic| k_in)=>`(tactic| first
 | (with_reducible exact Hs.of (by with_reducible assumption))
 | (with_reducible exact New.hs (by with_reducible assumption))
 | (with_reducible refine New.Jh (by with_reducible assumption) ?_;k_in)
 | (with_reducible refine Off.Jh (by with_reducible assumption) (by k_ne) ?_;k_in)
 | (with_reducible refine Kp.Jh (by with_reducible assumption) (by k_ne) ?_;k_in)
 | (with_reducible refine Same.Jh (by with_reducible assumption) ?_;k_in))
local macro_rules|`(tactic| k_flat)=>`(tactic| first
 | with_reducible assumption
 | (with_reducible exact SqL.of (by k_tabat))
 | (with_reducible exact SqT.of (by k_tabat))
 | (with_reducible refine Same.seq (by with_reducible assumption) ?_;k_flat)
 | (with_reducible refine Same.seq (New.s (by with_reducible assumption)) ?_;k_flat)
 | (with_reducible refine Off.seq (by with_reducible assumption) (by k_ne) ?_;k_flat))
local macro_rules|`(tactic| k_keys)=>`(tactic| first
 | with_reducible assumption
 | (with_reducible exact Qn)
 | (with_reducible exact Y6)
 | (with_reducible exact Y7)
 | (with_reducible exact Y8)
 | with_unfolding_all rfl)
local macro_rules|`(tactic| k_room)=>`(tactic| first
 | with_reducible assumption
 | decide
 | lia
 | (simp only[List.length_cons,List.length_nil,List.length_map,List.length_append,List.length_replicate];lia))
local macro_rules|`(tactic| k_inst)=>`(tactic| first
 | (with_reducible refine cH ?_;first|lia|(simp only[List.length_cons,List.length_nil,List.length_map,List.length_append,List.length_replicate,aG];lia))
 | (with_reducible refine nH ?_;first|lia|(simp only[List.length_cons,List.length_nil,List.length_map,List.length_append,List.length_replicate,aG];lia))
 | with_unfolding_all exact Nat.le_of_ble_eq_true rfl
 | lia)
local macro_rules|`(tactic| k_upd)=>`(tactic| first
 | with_reducible assumption
 | (intro b u e;k_tabat))
local macro_rules|`(tactic| k_updF)=>`(tactic| first
 | with_reducible assumption
 | (intro b u nb e;k_tabat))
local macro_rules|`(tactic| k_all)=>`(tactic| first
 | with_reducible assumption
 | (refine⟨?_,?_,?_⟩;(focus (intro b u e;k_tabat));(focus k_tabat);(focus (intro b u e;k_ne))))
local macro_rules|`(tactic| k_mem)=>`(tactic| with_reducible (first
 | refine Hr ?_|refine Ht ?_|refine Hu ?_|refine Qy ?_|refine z8 ?_|refine zZ ?_|refine Qw ?_|refine YT ?_
 | refine z9 ?_|refine YK ?_|refine Qx ?_|refine Qz ?_|refine zY ?_|refine Hq ?_|refine w_call ?_|refine w_c ?_
 | refine wv0 ?_|refine wv1 ?_|refine wv2 ?_|refine wv3 ?_|refine wv4 ?_|refine wv5 ?_|refine wv6 ?_|refine wv7 ?_|refine wv8 ?_|refine wv9 ?_|refine afs ?_|refine aft ?_|refine afu ?_|refine afv ?_
 | refine wn0 ?_|refine wn1 ?_|refine wn2 ?_|refine wn3 ?_|refine wn4 ?_|refine wn5 ?_|refine wn6 ?_|refine wn7 ?_|refine wn8 ?_|refine wn9 ?_|refine afw ?_|refine afx ?_|refine afy ?_|refine afz ?_
 | refine V4 ?_|refine w_u ?_|refine afA ?_|refine J3 ?_|refine QL ?_|refine ab_ ?_|refine QM ?_|refine acd ?_|refine ace ?_|refine YS ?_|refine w_not ?_|refine w_and ?_|refine w_or ?_|refine HB ?_|refine HD ?_|refine acf ?_
 | refine acg ?_|refine J4 ?_|refine YW ?_|refine ach ?_|refine w_sub ?_|refine Ad ?_|refine tW ?_|refine HF ?_|refine QS ?_|refine aci ?_|refine acj ?_|refine ZQ ?_|refine ZR ?_
 | refine w_mod (by decide) ?_|refine w_div (by decide) (by decide) ?_|refine w_pow (by decide) (by decide) (by decide) ?_|refine Hy (by decide) (by decide) ?_|refine Hz (by decide) (by decide) ?_|refine z6 ?_|refine z7 ?_|refine ZS ?_|refine acn ?_|refine ZV ?_|refine Wz ?_|refine aco ?_|refine ZW ?_|refine acp ?_|refine ZX ?_|refine HW ?_|refine tZ ?_|refine tY ?_|refine tX ?_))
set_option hygiene false in
local macro_rules|`(tactic| k_meth)=>`(tactic| first
 | k_mem
 | with_reducible (refine Rf (by k_tabat) ?_)
 | with_reducible (refine Ig (by k_tabat) ?_)
 | with_reducible (refine Z0 (by k_tabat) ?_)
 | with_reducible (refine Z1 (by k_tabat) ?_)
 | with_reducible refine Z2 ?_
 | with_reducible refine Ih ?_
 | with_reducible refine Ii ?_
 | with_reducible refine Z4 ?_
 | with_reducible (refine Dq (by k_flat) (by k_keys) ?_)
 | with_reducible (refine QT (by k_flat) (by k_keys) ?_)
 | with_reducible (refine QV (by k_flat) ?_)
 | with_reducible (refine QW (by k_flat) ?_)
 | with_reducible (refine J8 (by k_inst) ?_;intro _ _ _)
 | with_reducible (refine Q6 (by k_flat) ?_)
 | with_reducible (refine Q8 (by k_tabat) (by k_inst) ?_;intro _ _ _)
 | with_reducible (refine acq (by k_tabat) ?_;intro _ _ _)
 | with_reducible (refine Q_ (by k_flat) ?_;intro _ _ _)
 | with_reducible (refine Ia (by k_tabat) (by k_tabat) (by k_inst) ?_;intro _ _ _)
 | with_reducible (refine Z5 (by k_flat) ?_;intro _ _ _)
 | with_reducible (refine Ah (by k_tabat) (by lia) ?_;intro _ _ _)
 | with_reducible (refine J5 (by k_room) ?_)
 | with_reducible (refine J6 (by k_room) ?_)
 | with_reducible (refine Ae (by k_room) ?_)
 | with_reducible (refine Ji (by k_room) ?_)
 | with_reducible (refine Y9 ?_)
 | with_reducible (refine Y_ ?_)
 | with_reducible (refine Ra ?_)
 | with_reducible (refine Rb ?_)
 | with_reducible (refine Ij (by with_unfolding_all rfl) (by k_flat) ?_)
 | with_reducible (refine Ie rfl ?_)
 | with_reducible refine Z6 ?_
 | with_reducible refine Q5 ?_
 | with_reducible refine HY ?_
 | with_reducible (refine w_mod (by lia) ?_)
 | with_reducible (refine Z7 ?_)
 | with_reducible refine Il ?_
 | with_reducible refine Aj ?_
 | with_reducible refine J9 ?_
 | with_reducible refine HS ?_
 | with_reducible refine Af ?_
 | with_reducible (refine w_fld (by k_tabat) T.clH T.rR LQ ?_)
 | with_reducible (refine w_fld (by k_tabat) T.clH T.rQ WD ?_)
 | with_reducible (refine Ib (by k_tabat) (rT (by decide) (by decide)) ?_)
 | with_reducible (refine Rg (by k_tabat) ?_)
 | with_reducible (refine Ao ?_)
 | with_reducible (refine WK (by k_tabat) (by k_room) (by k_room) ?_;intro _ _ _ _ _ _ _ _ _)
 | with_reducible (refine t_ (by k_tabat) ?_))
open M22
def SX:Sp:=λvs H Q _=>∃(p:Addr)(fs:xF),An4 (vs=[.ref p]) (H p=some (.lst (fs.map V.bl))) (fs.length<=240) (∀(q:Addr)(ys:List V)(H':Hp),New H H' q (.lst ys)->aB H' ys (aF (aP fs))->Q (.ref q) H')
theorem Jj{fs:xF}{i:Nat}{b:Bool}(h:fs[i]?=some b):fs.take (i+1)=fs.take i++[b]:=by rw[qS,h];rfl
theorem S5{fs:xF}{i:Nat}{x:V}(h:(fs.map V.bl)[i]?=some x):∃b,fs[i]?=some b/\x=.bl b:=by
 rw[wS] at h;cases e:fs[i]? with
 | none=>rw[e] at h;cases h
 | some b=>rw[e] at h;exact⟨b,rfl,(oQ h).symm⟩
section
variable{P:Program}{w:World}{K:W.Frag}{mg:xC}{base:Heap}{c:Nat->Addr}{aD ak R CH CP CF CT CN CV CB:Addr}
theorem vG(T:Txt K mg c R CH CP CF CT CN CV CB aD ak):Def P w K mg base CX0 1 "is_whole" ["thing"] (nJ K):=by
 refine dA T.vm qF λf cdv A outer s H vs Q E hr h=>?_
 obtain⟨x,n,rfl,ty,k⟩:=h;have nd:=qF.nd;refine⟨_,(aC (aL (fL (bH dh rfl T.bJ boot_isinstance (aj (pv 0) (aj (wQ (T := "int") rfl T.Sy boot_int) ao))) (fK (GX (bH dh rfl T.bJ boot_isinstance (aj (pv 0) (aj (wQ (T := "bool") rfl T.Jg boot_bool) ao)))))))),?_⟩;clear nd ;rw[stE]
 try dsimp only[bI,aY]
 rw[YG] at k
 repeat k_mem
 refine w_is ty (Ql ty) ?_
 repeat k_mem
 refine i_b (λh=>?_) (λh=>?_)
 ·repeat k_mem
  refine w_is ty (zO ty) ?_
  repeat k_mem
  rw[h] at k;exact k
 ·rw[h] at k;exact k
theorem gH(T:Txt K mg c R CH CP CF CT CN CV CB aD ak):Def P w K mg base CX0 2 "is_from" ["thing","low"] (gR K):=by
 refine dA T.yw ux λf cdv A outer s H vs Q E hr h=>?_
 obtain⟨x,n,lo,rfl,ty,k⟩:=h;have nd:=ux.nd;refine⟨_,(aC (aL (fL (aK (vG T) hr (aj (pv 0) ao)) (fK (cM h_ (pv 1) (pv 0) (aO _)))))),?_⟩;clear nd;rw[stE]
 try dsimp only[bI,aY]
 repeat k_mem
 refine Am ty ?_
 repeat k_mem
 cases x with
 | int i =>
  refine i_T rfl ?_
  repeat k_mem
  exact k
 | _=>exact i_F rfl k
theorem j8(T:Txt K mg c R CH CP CF CT CN CV CB aD ak):Def P w K mg base CX0 2 "is_within" ["thing","low","high"] (gB K):=by
 refine dA T.qK nZ λf cdv A outer s H vs Q E hr h=>?_
 obtain⟨x,n,lo,hi,rfl,ty,k⟩:=h;have nd:=nZ.nd;refine⟨_,(aC (aL (fL (aK (vG T) hr (aj (pv 0) ao)) (fK (PN h_ h_ (pv 1) (pv 0) (pv 2)))))),?_⟩;clear nd;rw[stE]
 try dsimp only[bI,aY]
 repeat k_mem
 refine Am ty ?_
 repeat k_mem
 cases x with
 | int i =>
  refine i_T rfl ?_
  repeat k_mem
  have k:Q (.bl (decide (lo<=i) && decide (i<=hi))) H:=k;refine cC (λh=>?_) (λh=>?_)
  ·repeat k_mem
   rw[gN h,Bool.true_and] at k;exact k
  ·rw[gL h,Bool.false_and] at k;exact k
 | _=>exact i_F rfl k
theorem lA(T:Txt K mg c R CH CP CF CT CN CV CB aD ak):Def P w K mg base CX0 3 "is_many" ["thing"] (jo K):=by
 refine dA T.yx uz λf cdv A outer s H vs Q E hr h=>?_
 obtain⟨x,n,rfl,ty,k⟩:=h;have nd:=uz.nd;refine⟨_,(aC (aL (aK (j8 T) hr (aj (pv 0) (aj (jy T.j6) (aj (jy T.n_) ao)))))),?_⟩;clear nd;rw[stE]
 try dsimp only[bI,aY]
 repeat k_mem
 exact DG ty k
theorem gZ(T:Txt K mg c R CH CP CF CT CN CV CB aD ak):Def P w K mg base CX0 1 "end_of" ["stretch"] oY:=by
 refine dA T.Fp xK λf cdv A outer s H vs Q E hr h=>?_
 obtain⟨q,a,b,rfl,h,k⟩:=h;have nd:=xK.nd;refine⟨_,(aC (aL (aM bU (aW bA (pv 0) aq (λ_ _=>rfl)) (aW bA (pv 0) aq (λ_ _=>rfl))))),?_⟩;clear nd ;rw[stE]
 try dsimp only[bI,aY]
 repeat k_meth
 exact k
theorem Oe(T:Txt K mg c R CH CP CF CT CN CV CB aD ak):Def P w K mg base CX0 3 "is_stretch" ["thing"] qy:=by
 refine dA T.yC uE λf cdv A outer s H vs Q E hr h=>?_
 obtain⟨q,a,b,rfl,h,k⟩:=h;have nd:=uE.nd;refine⟨_,(aA (bB (PW.pt (dH (cD (bN (bH dh rfl T.bJ boot_isinstance (aj (pv 0) (aj (wQ (T := "tuple") rfl T.K6 boot_tuple) ao))))) (fJ (aN mV (bH wX rfl T.SM boot_len (aj (pv 0) ao)) aq (aO _))))) (aC (aL cZ)) aR)
  (aC (aL (fL (aK (gH T) hr (aj (aW bA (pv 0) aq (λ_ _=>rfl)) (aj aq ao))) (fK (aK (gH T) hr (aj (aW bA (pv 0) aq (λ_ _=>rfl)) (aj aq ao)))))))),?_⟩
 clear nd;rw[stE]
 try dsimp only[bI,aY]
 repeat k_meth
 refine cC (λh0=>?_) (λh0=>?_)
 ·repeat k_meth
  rw[gN h0,Bool.true_and] at k;exact k
 ·rw[gL h0,Bool.false_and] at k;exact k
end
end K48
namespace K48
open PySem L2 PyProof.Rows
local macro_rules|`(tactic| k_room)=>`(tactic| first
 | with_reducible assumption
 | with_unfolding_all exact rfl
 | with_unfolding_all exact Nat.le_of_ble_eq_true rfl
 | lia
 | (with_reducible refine cH ?_;first|lia|(simp only[List.length_cons,List.length_nil,List.length_map,List.length_append,List.length_replicate,aG,List.length_take,List.length_drop,List.length_set];lia))
 | (with_reducible refine nH ?_;first|lia|(simp only[List.length_cons,List.length_nil,List.length_map,List.length_append,List.length_replicate,aG,List.length_take,List.length_drop,List.length_set];lia))
 | (simp only[List.length_cons,List.length_nil,List.length_map,List.length_append,List.length_replicate,aG,List.length_take,List.length_drop,List.length_set];lia)
 | decide)
local macro_rules|`(tactic| k_mem)=>`(tactic| first
 | with_reducible assumption
 | decide
 | lia
 | (simp only[List.length_cons,List.length_nil,List.length_map,List.length_append,List.length_replicate,aG,List.length_take,List.length_drop,List.length_set];lia))
set_option hygiene false in
local macro_rules|`(tactic| k_meth)=>`(tactic| first
 | with_reducible refine go1 ?_
 | (clear F;intro H_ a_ dx_ (F:SH _ _ _ _ _) (ex_:iG _ _ _ _);have exA_:=ExA.mk ex_)
 | (clear F;intro H_ (F:SH _ _ _ _ _))
 | (clear F;intro H_ p_ (F:SH _ _ _ _ _))
 | (clear F;intro H_ x_ dx_ (F:SH _ _ _ _ _))
 | (clear F;intro H_ p_ ys_ l_ (F:SH _ _ _ _ _))
 | with_reducible refine sd (by k_room) ?_
 | (intro (r_:Int) (x_:Int) (y_:Int) (z_:Int) lo_ hi_)
 | (intro (x_:Int) (y_:Int))
 | (intro (c_:Int))
 | with_reducible refine J5 (by k_mem) ?_
 | with_reducible refine J6 (by k_mem) ?_
 | with_reducible refine Ae (by k_mem) ?_
 | with_reducible refine Ji (by k_mem) ?_)
open M22
section
variable{P:Program}{w:World}{K:W.Frag}{mg:xC}{base:Heap}{c:Nat->Addr}{aD ak R CH CP CF CT CN CV CB:Addr}
theorem WL(T:Txt K mg c R CH CP CF CT CN CV CB aD ak):Def P w K mg base CX0 1 "holes_among" ["free"] SX:=by
 refine dA T.KR Eh λf cdv A outer s H vs Q E hr h=>?_
 obtain⟨p,fs,rfl,hp,hz,k⟩:=h;have nd:=Eh.nd;refine⟨_,(aA (psz 1 nd (aU ao))
  (aA (psz 2 nd aq)
  (aA (gK PassesOwn.never rfl (V3 rfl T.qL (aj (aM dY (pv 0) (aU (aj cZ ao))) ao)) (lO rfl (cL (pgz 3 nd) (cL (pgz 4 nd) jf))) (aC (bB (bN (pv 4)) (aC (Yp (i:=2) nd rfl (Or.inl rfl) aq Vo)) (aC (bB (aN JC (pv 2) aq (aO _)) (aA (bK (cA (pv 1) (bw (aj (aM oR (pv 3) (pv 2)) (aj (pv 2) ao)))))
        (aC (psz 2 nd aq))) aR)))))
  (aC (aL (pv 1)))))),?_⟩
 clear nd ;rw[stE]
 try dsimp only[bI,aY]
 have Gj:=om hp;have F:=SH.n0 H
 repeat k_meth
 obtain⟨r,e⟩:∃z,z=p_:=⟨_,rfl⟩;subst e;rename_i q _;rw[show fs.map V.bl++[V.bl false]=(fs++[false]).map V.bl by rw[List.map_append];rfl] at F ⊢;refine V8 (xs:=(fs++[false]).map V.bl) (λi σ' H'=>Ex4 λ(st:Sc) (o3 o4:Option V) (ys:List V)=>An4 (st=scan ((fs++[false]).take i)) (σ'=[some (.ref p),some (.ref q),some (.int (st.2.1:Nat)),o3,o4]) (ys.length<=i) (SH H [] H' [(r,.lst ((fs++[false]).map V.bl)),(q,.lst ys)] [.tps ys (aF st.1)])) ⟨([],0,0),none,none,[],rfl,rfl,uA _,(F.bQ (ys:=[]) (rs:=aF []) aB.nil).sub SbC.s SbI.s⟩ ?_ ?_ ?_
 ·clear F;rintro i σ' H' _ ⟨st,_,_,ys,_,rfl,_,F⟩;exact SqA.e
 ·clear F;rintro i v T σ' H' H3 hv ⟨st,_,_,ys,hst,rfl,hy,F⟩ nw;obtain⟨bv,hb,rfl⟩:=S5 hv;have hi:=(jI.mp hb).1;rw[yB,List.length_singleton] at hi;have tk:=Jj hb;have sl:=scan_len ((fs++[false]).take i);have ok:=(nW ((fs++[false]).take i)).le;rw[oB,yB,List.length_singleton] at sl ok;rw[<- hst] at sl ok;replace F:=(F.same nw.s).Aq nw.e;have fin:∀st2,st2=stp st bv->st2=scan ((fs++[false]).take (i+1)):=λst2 h=>by rw[tk,scan_snoc,<- hst,h]
  cases bv with
  | true =>
   repeat k_meth
   have e7:stp st true=(st.1,st.2.1+1,st.2.2+1):=by
    unfold stp;rw[zS rfl]
   exact⟨(st.1,st.2.1+1,st.2.2+1),_,_,ys,fin _ e7.symm,rfl,by lia,F.sub SbC.s SbI.s⟩
  | false =>
   repeat k_meth
   refine cC (λh=>?_) (λh=>?_)
   ·have h:0<st.2.1:=by lia
    repeat k_meth
    have e7:stp st false=(st.1++[(st.2.2-st.2.1,st.2.1)],0,st.2.2+1):=by
     unfold stp;rw[yA (by decide),zS h]
    have t2:aB H_ (ys++[.ref p_]) (aF (st.1++[(st.2.2-st.2.1,st.2.1)])):=by
     rw[show aF (st.1++[(st.2.2-st.2.1,st.2.1)])=aF st.1++[[V.int ((st.2.2-st.2.1:Nat):Int),V.int (st.2.1:Nat)]] by unfold aF;rw[List.map_append];rfl];refine aB.snoc TpA.e ?_;show H_ p_=some (.tup [V.int ((st.2.2-st.2.1:Nat):Int),_]);rw[show ((st.2.2-st.2.1:Nat):Int)=(i-(st.2.1:Nat):Int) by lia];exact aH
    exact⟨(st.1++[(st.2.2-st.2.1,st.2.1)],0,st.2.2+1),_,_,ys++[.ref p_],fin _ e7.symm,rfl,by simp;lia,(F.bQ t2).sub SbC.s SbI.s⟩
   ·have h:¬ 0<st.2.1:=by lia
    repeat k_meth
    have e7:stp st false=(st.1,0,st.2.2+1):=by
     unfold stp;rw[yA (by decide),yA h]
    have e0:st.2.1=0:=by lia
    rw[e0];exact⟨(st.1,0,st.2.2+1),_,_,ys,fin _ e7.symm,rfl,by lia,F.sub SbC.s SbI.s⟩
 ·clear F;rintro σ' H' ⟨st,_,_,ys,hst,rfl,hy,F⟩;have e9:st.1=aP fs:=by rw[hst,show (fs++[false]).take ((fs++[false]).map V.bl).length=fs++[false] by rw[wE,List.take_length],(ug fs).1]
  rw[e9] at F
  repeat k_meth
  exact k _ _ _ SH.nwC TpA.e
end
end K48
namespace K48
open PySem L2 PyProof.Rows
local macro_rules|`(tactic| k_tabat)=>`(tactic| first
 | with_reducible assumption
 | (with_reducible exact New.e (by with_reducible assumption))
 | (with_reducible refine New.at (by with_reducible assumption) ?_;k_tabat)
 | (with_reducible refine Off.at (by with_reducible assumption) (by k_ne) ?_;k_tabat)
 | (with_reducible refine Kp.at (by with_reducible assumption) (by k_ne) ?_;k_tabat)
 | (with_reducible refine Same.at (by with_reducible assumption) ?_;k_tabat))
local macro_rules|`(tactic| k_ne)=>`(tactic| first
 | with_reducible assumption
 | (with_reducible exact Ne.symm (by with_reducible assumption))
 | (with_reducible exact New.neA (by with_reducible assumption) (by k_in))
 | (with_reducible exact New.neB (by with_reducible assumption) (by k_in)))
local macro_rules|`(tactic| k_in)=>`(tactic| first
 | (with_reducible exact Hs.of (by with_reducible assumption))
 | (with_reducible exact New.hs (by with_reducible assumption))
 | (with_reducible refine New.Jh (by with_reducible assumption) ?_;k_in)
 | (with_reducible refine Off.Jh (by with_reducible assumption) (by k_ne) ?_;k_in)
 | (with_reducible refine Kp.Jh (by with_reducible assumption) (by k_ne) ?_;k_in)
 | (with_reducible refine Same.Jh (by with_reducible assumption) ?_;k_in))
local macro_rules|`(tactic| k_flat)=>`(tactic| first
 | with_reducible assumption
 | (with_reducible exact SqL.of (by k_tabat))
 | (with_reducible exact SqT.of (by k_tabat))
 | (with_reducible refine Same.seq (by with_reducible assumption) ?_;k_flat)
 | (with_reducible refine Same.seq (New.s (by with_reducible assumption)) ?_;k_flat)
 | (with_reducible refine Off.seq (by with_reducible assumption) (by k_ne) ?_;k_flat))
local macro_rules|`(tactic| k_keys)=>`(tactic| first
 | with_reducible assumption
 | (with_reducible exact Qn)
 | (with_reducible exact Y6)
 | (with_reducible exact Y7)
 | (with_reducible exact Y8)
 | with_unfolding_all rfl)
local macro_rules|`(tactic| k_room)=>`(tactic| first
 | with_reducible assumption
 | decide
 | lia
 | (simp only[List.length_cons,List.length_nil,List.length_map,List.length_append,List.length_replicate];lia))
local macro_rules|`(tactic| k_inst)=>`(tactic| first
 | (with_reducible refine cH ?_;first|lia|(simp only[List.length_cons,List.length_nil,List.length_map,List.length_append,List.length_replicate,aG];lia))
 | (with_reducible refine nH ?_;first|lia|(simp only[List.length_cons,List.length_nil,List.length_map,List.length_append,List.length_replicate,aG];lia))
 | with_unfolding_all exact Nat.le_of_ble_eq_true rfl
 | lia)
local macro_rules|`(tactic| k_upd)=>`(tactic| first
 | with_reducible assumption
 | (intro b u e;k_tabat))
local macro_rules|`(tactic| k_updF)=>`(tactic| first
 | with_reducible assumption
 | (intro b u nb e;k_tabat))
local macro_rules|`(tactic| k_all)=>`(tactic| first
 | with_reducible assumption
 | (refine⟨?_,?_,?_⟩;(focus (intro b u e;k_tabat));(focus k_tabat);(focus (intro b u e;k_ne))))
local macro_rules|`(tactic| k_mem)=>`(tactic| with_reducible (first
 | refine Hr ?_|refine Ht ?_|refine Hu ?_|refine Qy ?_|refine z8 ?_|refine zZ ?_|refine Qw ?_|refine YT ?_
 | refine z9 ?_|refine YK ?_|refine Qx ?_|refine Qz ?_|refine zY ?_|refine Hq ?_|refine w_call ?_|refine w_c ?_
 | refine wv0 ?_|refine wv1 ?_|refine wv2 ?_|refine wv3 ?_|refine wv4 ?_|refine wv5 ?_|refine wv6 ?_|refine wv7 ?_|refine wv8 ?_|refine wv9 ?_|refine afs ?_|refine aft ?_|refine afu ?_|refine afv ?_
 | refine wn0 ?_|refine wn1 ?_|refine wn2 ?_|refine wn3 ?_|refine wn4 ?_|refine wn5 ?_|refine wn6 ?_|refine wn7 ?_|refine wn8 ?_|refine wn9 ?_|refine afw ?_|refine afx ?_|refine afy ?_|refine afz ?_
 | refine V4 ?_|refine w_u ?_|refine afA ?_|refine J3 ?_|refine QL ?_|refine ab_ ?_|refine QM ?_|refine acd ?_|refine ace ?_|refine YS ?_|refine w_not ?_|refine w_and ?_|refine w_or ?_|refine HB ?_|refine HD ?_|refine acf ?_
 | refine acg ?_|refine J4 ?_|refine YW ?_|refine ach ?_|refine w_sub ?_|refine Ad ?_|refine tW ?_|refine HF ?_|refine QS ?_|refine aci ?_|refine acj ?_|refine ZQ ?_|refine ZR ?_
 | refine w_mod (by decide) ?_|refine w_div (by decide) (by decide) ?_|refine w_pow (by decide) (by decide) (by decide) ?_|refine Hy (by decide) (by decide) ?_|refine Hz (by decide) (by decide) ?_|refine z6 ?_|refine z7 ?_|refine ZS ?_|refine acn ?_|refine ZV ?_|refine Wz ?_|refine aco ?_|refine ZW ?_|refine acp ?_|refine ZX ?_|refine HW ?_|refine tZ ?_|refine tY ?_|refine tX ?_))
set_option hygiene false in
local macro_rules|`(tactic| k_meth)=>`(tactic| first
 | k_mem
 | with_reducible (refine Rf (by k_tabat) ?_)
 | with_reducible (refine Ig (by k_tabat) ?_)
 | with_reducible (refine Z0 (by k_tabat) ?_)
 | with_reducible (refine Z1 (by k_tabat) ?_)
 | with_reducible refine Z2 ?_
 | with_reducible refine Ih ?_
 | with_reducible refine Ii ?_
 | with_reducible refine Z4 ?_
 | with_reducible (refine Dq (by k_flat) (by k_keys) ?_)
 | with_reducible (refine QT (by k_flat) (by k_keys) ?_)
 | with_reducible (refine QV (by k_flat) ?_)
 | with_reducible (refine QW (by k_flat) ?_)
 | with_reducible (refine J8 (by k_inst) ?_;intro _ _ _)
 | with_reducible (refine Q6 (by k_flat) ?_)
 | with_reducible (refine Q8 (by k_tabat) (by k_inst) ?_;intro _ _ _)
 | with_reducible (refine acq (by k_tabat) ?_;intro _ _ _)
 | with_reducible (refine Q_ (by k_flat) ?_;intro _ _ _)
 | with_reducible (refine Ia (by k_tabat) (by k_tabat) (by k_inst) ?_;intro _ _ _)
 | with_reducible (refine Z5 (by k_flat) ?_;intro _ _ _)
 | with_reducible (refine Ah (by k_tabat) (by lia) ?_;intro _ _ _)
 | with_reducible (refine J5 (by k_room) ?_)
 | with_reducible (refine J6 (by k_room) ?_)
 | with_reducible (refine Ae (by k_room) ?_)
 | with_reducible (refine Ji (by k_room) ?_)
 | with_reducible (refine Y9 ?_)
 | with_reducible (refine Y_ ?_)
 | with_reducible (refine Ra ?_)
 | with_reducible (refine Rb ?_)
 | with_reducible (refine Ij (by with_unfolding_all rfl) (by k_flat) ?_)
 | with_reducible (refine Ie rfl ?_)
 | with_reducible refine Z6 ?_
 | with_reducible refine Q5 ?_
 | with_reducible refine HY ?_
 | with_reducible (refine w_mod (by lia) ?_)
 | with_reducible (refine Z7 ?_)
 | with_reducible refine Il ?_
 | with_reducible refine Aj ?_
 | with_reducible refine J9 ?_
 | with_reducible refine HS ?_
 | with_reducible refine Af ?_
 | with_reducible (refine w_fld (by k_tabat) T.clH T.rR LQ ?_)
 | with_reducible (refine w_fld (by k_tabat) T.clH T.rQ WD ?_)
 | with_reducible (refine Ib (by k_tabat) (rT (by decide) (by decide)) ?_)
 | with_reducible (refine Rg (by k_tabat) ?_)
 | with_reducible (refine Ao ?_)
 | with_reducible (refine WK (by k_tabat) (by k_room) (by k_room) ?_;intro _ _ _ _ _ _ _ _ _)
 | with_reducible (refine t_ (by k_tabat) ?_))
open M22
def hF(n:Int)(p:Addr):List (Str×V):=d7 "free" (.ref p) (d7 "many" (.int n) [])
theorem LQ{n:Int}{p:Addr}:(hF n p).lookup ("free" : Str)=some (.ref p):=by unfold hF;rw[bD,if_pos rfl]
theorem rT{n:Int}{p:Addr}{m:Str}(h1:m ≠ "free")(h2:m ≠ "many"):(hF n p).lookup m=none:=by unfold hF;rw[bD,if_neg h1,bD,if_neg h2];rfl
open M22
def hasB(fs:xF)(a b:Nat):Bool:=decide (1<=b) && (decide (a+b<=fs.length) && ((fs.drop a).take b).all id)
def acr(fs:xF)(a b:Nat):Bool:=decide (1<=b) && (decide (a+b<=fs.length) && !((fs.drop a).take b).any id)
def Jk:Sp:=λvs H Q _=>Ex5 λ(p q:Addr) (fs:xF) (a b:Nat)=>An5 (vs=[.ref p,.ref q]) (H p=some (.lst (fs.map V.bl))) (fs.length<=240) (H q=some (.tup [.int (a:Nat),.int (b:Nat)])) (∀H',Same H H'->Q (.bl (decide (a+b<=fs.length) && ((fs.drop a).take b).all id)) H')
def Bk(CH:Addr)(H:Hp)(x p dx:Addr)(fs:xF):Prop:=H x=some (.ins CH dx (hF fs.length p))/\H p=some (.lst (fs.map V.bl))/\16<=fs.length/\fs.length<=240
def Gk(CH:Addr):Sp:=λvs H Q _=>Ex4 λ(x p dx:Addr) (fs:xF)=>An3 (vs=[.ref x]) (Bk CH H x p dx fs) (∀(q:Addr)(ys:List V)(H':Hp),New H H' q (.lst ys)->aB H' ys (aF (aP fs))->Q (.ref q) H')
def LR(CH:Addr):Sp:=λvs H Q _=>Ex6 λ(x p dx:Addr) (fs:xF) (a b:Nat)=>An3 (vs=[.ref x,.int a,.int b]) (Bk CH H x p dx fs) (∀H',Same H H'->Q (.bl (hasB fs a b)) H')
def Gm(CH:Addr):Sp:=λvs H Q _=>Ex6 λ(x p dx:Addr) (fs:xF) (a b:Nat)=>An4 (vs=[.ref x,.int a,.int b]) (Bk CH H x p dx fs) (hasB fs a b=true) (∀H',Kp p H H'->H' p=some (.lst ((cT fs a b false).map V.bl))->Q .non H')
theorem Z8{fs:xF}{a b:Nat}:m5 (fs.map V.bl) (some (a:Int)) (some ((a:Int)+(b:Int)))=((fs.drop a).take b).map V.bl:=by
 unfold m5;rw[show (a:Int)+(b:Int)=((a+b:Nat):Int) by lia,HT.rJ,HT.rJ,wE,List.map_take,List.map_drop];by_cases h:a<=fs.length
 ·rw[show min a fs.length=a by lia];by_cases h2:a+b<=fs.length
  ·rw[show min (a+b) fs.length-a=b by lia]
  ·rw[nI (by rw[mT,wE];lia),nI (by rw[mT,wE];lia)]
 ·rw[List.drop_of_length_le (by rw[wE];lia),List.drop_of_length_le (by rw[wE];lia)];simp
section
variable{P:Program}{w:World}{K:W.Frag}{mg:xC}{base:Heap}{c:Nat->Addr}{aD ak R CH CP CF CT CN CV CB:Addr}
theorem Og(T:Txt K mg c R CH CP CF CT CN CV CB aD ak):Def P w K mg base CX0 2 "is_all_free" ["free","stretch"] Jk:=by
 refine dA T.yD uF λf cdv A outer s H vs Q E hr h=>?_
 obtain⟨p,q,fs,a,b,rfl,hp,hz,hq,k⟩:=h;have nd:=uF.nd;refine⟨_,(aC (aL (fL (cM h_ (aK (gZ T) hr (aj (pv 1) ao)) (bH wX rfl T.SM boot_len (aj (pv 0) ao)) (aO _)) (fK (bH (Qi rfl) rfl T.X8 boot_all (aj (sX tV (pv 0) (mZ (aW bA (pv 1) aq (λ_ _=>rfl))) (mZ (aK (gZ T) hr (aj (pv 1) ao)))) ao)))))),?_⟩;clear nd;rw[stE]
 try dsimp only[bI,aY]
 repeat k_meth
 refine cC (λh=>?_) (λh=>?_)
 ·rw[wE] at h;rw[gN (show a+b<=fs.length by lia),Bool.true_and] at k
  repeat k_meth
  rename_i r H1 n1;rw[Z8] at n1;exact⟨r,_,rfl,SqL.of n1.e,k _ n1.s⟩
 ·rw[wE] at h;rw[gL (show ¬ a+b<=fs.length by lia),Bool.false_and] at k;exact k _ (Same.refl _)
end
section
variable{CH x p dx:Addr}{fs:xF}{H:Hp}{Q:VK}{E:XK}{a b:Nat}
theorem acs(bk:Bk CH H x p dx fs)(k:∀H',Same H H'->Q (.bl (hasB fs a b)) H'):LR CH [.ref x,.int a,.int b] H Q E:=⟨x,p,dx,fs,a,b,rfl,bk,k⟩
end
section
variable{P:Program}{w:World}{K:W.Frag}{mg:xC}{base:Heap}{c:Nat->Addr}{aD ak R CH CP CF CT CN CV CB:Addr}
theorem vH(T:Txt K mg c R CH CP CF CT CN CV CB aD ak):Met P w K mg base CX0 2 CH "told" ["self"] (Gk CH):=by
 obtain⟨f,hf,hm⟩:=T.Ld;refine(fA (k:=1) hf En λf cdv A outer s H vs Q E hr h=>?_).met hm;obtain⟨x,p,dx,fs,rfl,bk,k⟩:=h;have nd:=En.nd;refine⟨_,(aC (aL (aK (WL T) hr (aj (cX (pv 0) rfl) ao)))),?_⟩;clear nd;rw[stE]
 try dsimp only[bI,aY]
 obtain⟨hx,hp,h16,fD⟩:=id bk
 repeat k_meth
 exact⟨p,fs,rfl,hp,fD,k⟩
theorem WM(T:Txt K mg c R CH CP CF CT CN CV CB aD ak):Met P w K mg base CX0 4 CH "has" ["self","start","size"] (LR CH):=by
 obtain⟨f,hf,hm⟩:=T.SQ;refine(fA (k:=3) hf KQ λf cdv A outer s H vs Q E hr h=>?_).met hm;obtain⟨x,p,dx,fs,a,b,rfl,bk,k⟩:=h;have nd:=KQ.nd;refine⟨_,(aC (aL (fL (aK (Oe T) hr (aj (bw (aj (pv 1) (aj (pv 2) ao))) ao)) (fK (aK (Og T) hr (aj (cX (pv 0) rfl) (aj (bw (aj (pv 1) (aj (pv 2) ao))) ao))))))),?_⟩;clear nd;rw[stE]
 try dsimp only[bI,aY]
 obtain⟨hx,hp,h16,fD⟩:=id bk
 repeat k_meth
 have k:∀H',Same H H'->Q (.bl (decide (1<=b) && (decide (a+b<=fs.length) && ((fs.drop a).take b).all id))) H':=k;rw[gN (show (0:Int)<=(a:Int) by lia),Bool.true_and];rename_i t H1 n1;refine cC (λh=>?_) (λh=>?_)
 ·repeat k_meth
  rename_i t2 H2 n2;refine⟨p,t2,fs,a,b,rfl,by k_tabat,fD,n2.e,λH3 s3=>?_⟩;rw[gN (show 1<=b by lia),Bool.true_and] at k;exact k H3 (by k_upd)
 ·rw[gL (show ¬ 1<=b by lia),Bool.false_and] at k;exact k H1 n1.s
end
open M22
section
variable{P:Program}{w:World}{K:W.Frag}{mg:xC}{base:Heap}{c:Nat->Addr}{aD ak R CH CP CF CT CN CV CB:Addr}
theorem vI(T:Txt K mg c R CH CP CF CT CN CV CB aD ak):Met P w K mg base CX0 5 CH "take" ["self","start","size"] (Gm CH):=by
 obtain⟨f,hf,hm⟩:=T.Le;refine(fA (k:=4) hf Eo λf cdv A outer s H vs Q E hr h=>?_).met hm;obtain⟨x,p,dx,fs,a,b,rfl,bk,hh,k⟩:=h;have nd:=Eo.nd;refine⟨_,(aA (bB (cD (bN (jm (pv 0) T.clH (WM T) hr (aj (pv 1) (aj (pv 2) ao))))) kI aR)
  (aC (gK PassesOwn.never rfl (MJ rfl T.Ce (aj (pv 1) (aj (aM bU (pv 1) (pv 2)) ao))) (pgz 3 nd) (aC (sV cZ (zE (cX (pv 0) rfl) (pv 3) kW)))))),?_⟩
 clear nd;rw[stE]
 try dsimp only[bI,aY]
 obtain⟨hx,hp,h16,fD⟩:=id bk;have hb:1<=b/\a+b<=fs.length:=by
  have:=hh;simp only[hasB,acr,Bool.and_eq_true,decide_eq_true_eq] at this;exact⟨this.1,this.2.1⟩
 repeat k_meth
 refine acs bk λH1 s1=>?_
 repeat k_meth
 refine aem hh ?_
 repeat k_meth
 refine aby (m:=b) (by lia) ⟨by lia,by lia,by lia,by lia⟩ (V7 (λi σ' H'=>∃o3:Option V,An3 (σ'=[some (.ref x),some (.int a),some (.int b),o3]) (Kp p H H') (H' p=some (.lst ((cT fs a i false).map V.bl)))) ⟨none,rfl,by k_updF,by rw[N6];k_tabat⟩ ?_ ?_)
 ·rintro i σ' H2 hi ⟨_,rfl,kp,e2⟩;have hx2:H2 x=some (.ins CH dx (hF fs.length p)):=kp _ _ (abu hx hp) hx
  repeat k_meth
  refine Q9 e2 (XD (by lia) (by rw[wE,nY (by lia)];lia)) λH3 f3 e3=>?_
  repeat k_meth
  refine⟨_,rfl,by k_updF,?_⟩;rw[e3];have:((a:Int)+(i:Int)).toNat=a+i:=by lia
  rw[this,DY,RT (by rw[wE];lia),<- DY]
 ·rintro σ' H2 ⟨_,rfl,kp,e2⟩
  repeat k_meth
  exact k H2 kp e2
end
end K48
namespace K48
open PySem L2 PyProof.Rows
local macro_rules|`(tactic| k_room)=>`(tactic| first
 | with_reducible assumption
 | with_unfolding_all exact rfl
 | with_unfolding_all exact Nat.le_of_ble_eq_true rfl
 | lia
 | (with_reducible refine cH ?_;first|lia|(simp only[List.length_cons,List.length_nil,List.length_map,List.length_append,List.length_replicate,aG,List.length_take,List.length_drop,List.length_set];lia))
 | (with_reducible refine nH ?_;first|lia|(simp only[List.length_cons,List.length_nil,List.length_map,List.length_append,List.length_replicate,aG,List.length_take,List.length_drop,List.length_set];lia))
 | (simp only[List.length_cons,List.length_nil,List.length_map,List.length_append,List.length_replicate,aG,List.length_take,List.length_drop,List.length_set];lia)
 | decide)
local macro_rules|`(tactic| k_mem)=>`(tactic| first
 | with_reducible assumption
 | decide
 | lia
 | (simp only[List.length_cons,List.length_nil,List.length_map,List.length_append,List.length_replicate,aG,List.length_take,List.length_drop,List.length_set];lia))
set_option hygiene false in
local macro_rules|`(tactic| k_meth)=>`(tactic| first
 | with_reducible refine go1 ?_
 | (clear F;intro H_ a_ dx_ (F:SH _ _ _ _ _) (ex_:iG _ _ _ _);have exA_:=ExA.mk ex_)
 | (clear F;intro H_ (F:SH _ _ _ _ _))
 | (clear F;intro H_ p_ (F:SH _ _ _ _ _))
 | (clear F;intro H_ x_ dx_ (F:SH _ _ _ _ _))
 | (clear F;intro H_ p_ ys_ l_ (F:SH _ _ _ _ _))
 | with_reducible refine sd (by k_room) ?_
 | (intro (r_:Int) (x_:Int) (y_:Int) (z_:Int) lo_ hi_)
 | (intro (x_:Int) (y_:Int))
 | (intro (c_:Int))
 | with_reducible refine J5 (by k_mem) ?_
 | with_reducible refine J6 (by k_mem) ?_
 | with_reducible refine Ae (by k_mem) ?_
 | with_reducible refine Ji (by k_mem) ?_)
open M22
class Gn(fs:xF)(a b:Nat):Prop where
 e:hasB fs a b=true
class ag1(fs:xF)(a b:Nat):Prop where
 e:acr fs a b=true
class BkA(CH:Addr)(H:Hp)(x:Addr)(p dx:outParam Addr)(fs:outParam (List Bool)):Prop where
 e:Bk CH H x p dx fs
class Bks(fs:xF)(n:Nat):Prop where
 e:fs.length=n
 lo:16<=n
 hi:n<=240
def rF(b:Addr):Option Int->List (Str×V)
 | none=>d7 "book" (.ref b) []
 | some t=>d7 "turned" (.int t) (d7 "book" (.ref b) [])
theorem WQ{b:Addr}{o:Option Int}:(rF b o).lookup ("book" : Str)=some (.ref b):=by
 cases o with
 | none=>unfold rF;rw[bD,if_pos rfl]
 | some t=>unfold rF;rw[bD,if_neg (by decide),bD,if_pos rfl]
theorem Oh{b:Addr}{t:Int}:(rF b (some t)).lookup ("turned" : Str)=some (.int t):=by unfold rF;rw[bD,if_pos rfl]
theorem ou{b:Addr}{o:Option Int}{m:Str}(h1:m ≠ "turned")(h2:m ≠ "book"):(rF b o).lookup m=none:=by
 cases o with
 | none=>unfold rF;rw[bD,if_neg h2];rfl
 | some t=>unfold rF;rw[bD,if_neg h1,bD,if_neg h2];rfl
theorem Z9{b:Addr}{t:Int}:d7 "turned" (.int t) (rF b none)=rF b (some t):=rfl
theorem Cj{b:Addr}:d7 "book" (.ref b) []=rF b none:=rfl
def Ru(C CH:Addr)(H:Hp)(y dy x p dx:Addr)(fs:xF)(o:Option Int):Prop:=H y=some (.ins C dy (rF x o))/\Bk CH H x p dx fs
class RuA(C CH:Addr)(H:Hp)(y:Addr)(dy x p dx:outParam Addr)(fs:outParam (List Bool))(o:outParam (Option Int)):Prop where
 e:Ru C CH H y dy x p dx fs o
def rW(C CH:Addr):Sp:=λvs H Q _=>Ex9 λ(y dy x p dx:Addr) (fs:xF) (o:Option Int) (a b:Nat)=>An4 (vs=[.ref y,.int a,.int b]) (Ru C CH H y dy x p dx fs o) (hasB fs a b=true) (∀H',Kp p H H'->H' p=some (.lst ((cT fs a b false).map V.bl))->Q .non H')
def lB(C CH:Addr):Sp:=λvs H Q _=>Ex7 λ(y dy x p dx:Addr) (fs:xF) (o:Option Int)=>An3 (vs=[.ref y]) (Ru C CH H y dy x p dx fs o) (∀(q:Addr)(ys:List V)(H':Hp),New H H' q (.lst ys)->aB H' ys (aF (aP fs))->Q (.ref q) H')
def vJ:Sp:=λvs H Q _=>∃(y:Addr),vs=[.ref y]/\Q (.int 0) H
def Gp(C CH:Addr):Sp:=λvs H Q _=>Ex7 λ(y dy x p dx:Addr) (fs:xF) (t:Int)=>An3 (vs=[.ref y]) (Ru C CH H y dy x p dx fs (some t)) (Q (.int t) H)
def rY(z:Str):Sp:=λvs H Q _=>∃(y:Addr),vs=[.ref y]/\Q (.str z) H
section
variable{C CH y dy x p dx q:Addr}{fs:xF}{t u n s:Int}{o:Option Int}{H:Hp}{Q:VK}{E:XK}{a b:Nat}{ys:List V}
instance adO:FNo (hF n p) "told":=⟨rT (by decide) (by decide)⟩
instance adP:FNo (hF n p) "take":=⟨rT (by decide) (by decide)⟩
instance acu:FNo (rF x o) "holes":=⟨ou (by decide) (by decide)⟩
instance afB:FNo (rF x o) "put":=⟨ou (by decide) (by decide)⟩
instance adQ:FNo (rF x o) "mark":=⟨ou (by decide) (by decide)⟩
instance acv:FNo (rF x o) "order":=⟨ou (by decide) (by decide)⟩
instance WR:FNo (rF x o) "rule_word":=⟨ou (by decide) (by decide)⟩
instance adR:FLk (rF x o) "book" (.ref x):=⟨WQ⟩
instance aaM:FLk (rF x (some t)) "turned" (.int t):=⟨Oh⟩
instance afC{H0:Hp}{M:List Addr}{L L':List (Addr×HO)}{I:List Im}{l C dz:Addr}{gs:List (Str×V)}{R:Hp->Prop}[F:SH H0 M H L I][u:LkU L l (.ins C dz gs) L']:Go (∀H',Kp l H H'->H' l=some (.ins C dz gs)->R H') (∀H',SH H0 M H' L' I->R H'):=⟨λk H' f e=>k H' (F.kp f e u.u rfl)⟩
instance bkA{n:Nat}[h:Hat H x (.ins CH dx (hF n p))][h2:Hat H p (.lst (fs.map V.bl))][s:Bks fs n]:BkA CH H x p dx fs:=⟨by rw[s.e];exact h.e,h2.e,by rw[s.e];exact s.lo,by rw[s.e];exact s.hi⟩
instance ruA[h:Hat H y (.ins C dy (rF x o))][h2:BkA CH H x p dx fs]:RuA C CH H y dy x p dx fs o:=⟨h.e,h2.e⟩
instance adS[h:BkA CH H x p dx fs]:Go (Gk CH [.ref x] H Q E) (∀(q:Addr)(ys:List V)(H':Hp),New H H' q (.lst ys)->aB H' ys (aF (aP fs))->Q (.ref q) H'):=⟨λk=>⟨x,p,dx,fs,rfl,h.e,k⟩⟩
instance adT[h:BkA CH H x p dx fs][c:Gn fs a b]:Go (Gm CH [.ref x,.int (a:Nat),.int (b:Nat)] H Q E) (∀H',Kp p H H'->H' p=some (.lst ((cT fs a b false).map V.bl))->Q .non H'):=⟨λk=>⟨x,p,dx,fs,a,b,rfl,h.e,c.e,k⟩⟩
instance acw[h:RuA C CH H y dy x p dx fs o][c:Gn fs a b]:Go (rW C CH [.ref y,.int (a:Nat),.int (b:Nat)] H Q E) (∀H',Kp p H H'->H' p=some (.lst ((cT fs a b false).map V.bl))->Q .non H'):=⟨λk=>⟨y,dy,x,p,dx,fs,o,a,b,rfl,h.e,c.e,k⟩⟩
instance aaN[h:RuA C CH H y dy x p dx fs o]:Go (lB C CH [.ref y] H Q E) (∀(q:Addr)(ys:List V)(H':Hp),New H H' q (.lst ys)->aB H' ys (aF (aP fs))->Q (.ref q) H'):=⟨λk=>⟨y,dy,x,p,dx,fs,o,rfl,h.e,k⟩⟩
instance acy:Go (vJ [.ref y] H Q E) (Q (.int 0) H):=⟨λk=>⟨y,rfl,k⟩⟩
instance adU{z:Str}:Go (rY z [.ref y] H Q E) (Q (.str z) H):=⟨λk=>⟨y,rfl,k⟩⟩
instance acz[h:RuA C CH H y dy x p dx fs (some t)]:Go (Gp C CH [.ref y] H Q E) (Q (.int t) H):=⟨λk=>⟨y,dy,x,p,dx,fs,t,rfl,h.e,k⟩⟩
end
section
variable{P:Program}{w:World}{K:W.Frag}{mg:xC}{base:Heap}{c:Nat->Addr}{aD ak R CH CP CF CT CN CV CB:Addr}
theorem S6(T:Txt K mg c R CH CP CF CT CN CV CB aD ak):Met P w K mg base CX0 6 CF "put" ["self","start","size"] (rW CF CH):=by
 obtain⟨f,hf,hm⟩:=T.Li;refine(fA (k:=5) hf Et λf cdv A outer s H vs Q E hr h=>?_).met hm;obtain⟨y,dy,x,p,dx,fs,o,a,b,rfl,nx,hb,k⟩:=h;have nd:=Et.nd;refine⟨_,(aC (bK (jm (cX (pv 0) rfl) T.clH (vI T) hr (aj (pv 1) (aj (pv 2) ao))))),?_⟩;clear nd;rw[stE]
 try dsimp only[bI,aY]
 obtain⟨hy,bk⟩:=nx;obtain⟨hx,hp,h16,fD⟩:=id bk;have bks:Bks fs fs.length:=⟨rfl,h16,fD⟩;have nxp:x≠p:=λz=>by rw[z,hp] at hx;cases hx
 have nyp:y≠p:=λz=>by rw[z,hp] at hy;cases hy
 have F:SH H [p] H [(p,.lst (fs.map V.bl))] []:=SH.nil.fQ List.mem_cons_self hp rfl (by simp);have lG:=Old.mk (M:=[p]) hx (nm1 nxp);have iZ:=Old.mk (M:=[p]) hy (nm1 nyp);have ht:Gn fs a b:=⟨hb⟩
 repeat k_meth
 exact k _ F.kpo aH
theorem vK(T:Txt K mg c R CH CP CF CT CN CV CB aD ak):Met P w K mg base CX0 3 CF "holes" ["self"] (lB CF CH):=by
 obtain⟨f,hf,hm⟩:=T.yL;refine(fA (k:=2) hf uV λf cdv A outer s H vs Q E hr h=>?_).met hm;obtain⟨y,dy,x,p,dx,fs,o,rfl,nx,k⟩:=h;have nd:=uV.nd;refine⟨_,(aC (aL (bM (cX (pv 0) rfl) T.clH (vH T) hr))),?_⟩;clear nd;rw[stE]
 try dsimp only[bI,aY]
 obtain⟨hy,bk⟩:=nx;obtain⟨hx,hp,h16,fD⟩:=id bk;have bks:Bks fs fs.length:=⟨rfl,h16,fD⟩;have lG:=om hx;have Gj:=om hp;have iZ:=om hy;have F:=SH.n0 H
 repeat k_meth
 exact k _ _ _ SH.nwC TpA.e
theorem yP(T:Txt K mg c R CH CP CF CT CN CV CB aD ak):Met P w K mg base CX0 1 CF "mark" ["self"] vJ:=by
 obtain⟨f,hf,hm⟩:=T.Ga;refine(fA (k:=0) hf yg λf cdv A outer s H vs Q E hr h=>?_).met hm;obtain⟨y,rfl,k⟩:=h;have nd:=yg.nd;refine⟨_,(aC (aL aq)),?_⟩;clear nd ;rw[stE]
 try dsimp only[bI,aY]
 have F:=SH.n0 H
 repeat k_meth
 exact k
theorem S7(T:Txt K mg c R CH CP CF CT CN CV CB aD ak):Met P w K mg base CX0 1 CF "rule_word" ["self"] (rY "first"):=by
 obtain⟨f,hf,hm⟩:=T.Lr;refine(fA (k:=0) hf EY λf cdv A outer s H vs Q E hr h=>?_).met hm;obtain⟨y,rfl,k⟩:=h;have nd:=EY.nd;refine⟨_,(aC (aL bL)),?_⟩;clear nd ;rw[stE]
 try dsimp only[bI,aY]
 have F:=SH.n0 H
 repeat k_meth
 exact k
theorem S8(T:Txt K mg c R CH CP CF CT CN CV CB aD ak):Met P w K mg base CX0 6 CT "put" ["self","start","size"] (rW CT CH):=by
 obtain⟨f,hf,hm⟩:=T.Lj;refine(fA (k:=5) hf Eu λf cdv A outer s H vs Q E hr h=>?_).met hm;obtain⟨y,dy,x,p,dx,fs,o,a,b,rfl,nx,hb,k⟩:=h;have nd:=Eu.nd;refine⟨_,(aC (bK (jm (cX (pv 0) rfl) T.clH (vI T) hr (aj (pv 1) (aj (pv 2) ao))))),?_⟩;clear nd;rw[stE]
 try dsimp only[bI,aY]
 obtain⟨hy,bk⟩:=nx;obtain⟨hx,hp,h16,fD⟩:=id bk;have bks:Bks fs fs.length:=⟨rfl,h16,fD⟩;have nxp:x≠p:=λz=>by rw[z,hp] at hx;cases hx
 have nyp:y≠p:=λz=>by rw[z,hp] at hy;cases hy
 have F:SH H [p] H [(p,.lst (fs.map V.bl))] []:=SH.nil.fQ List.mem_cons_self hp rfl (by simp);have lG:=Old.mk (M:=[p]) hx (nm1 nxp);have iZ:=Old.mk (M:=[p]) hy (nm1 nyp);have ht:Gn fs a b:=⟨hb⟩
 repeat k_meth
 exact k _ F.kpo aH
theorem vL(T:Txt K mg c R CH CP CF CT CN CV CB aD ak):Met P w K mg base CX0 3 CT "holes" ["self"] (lB CT CH):=by
 obtain⟨f,hf,hm⟩:=T.yM;refine(fA (k:=2) hf uW λf cdv A outer s H vs Q E hr h=>?_).met hm;obtain⟨y,dy,x,p,dx,fs,o,rfl,nx,k⟩:=h;have nd:=uW.nd;refine⟨_,(aC (aL (bM (cX (pv 0) rfl) T.clH (vH T) hr))),?_⟩;clear nd;rw[stE]
 try dsimp only[bI,aY]
 obtain⟨hy,bk⟩:=nx;obtain⟨hx,hp,h16,fD⟩:=id bk;have bks:Bks fs fs.length:=⟨rfl,h16,fD⟩;have lG:=om hx;have Gj:=om hp;have iZ:=om hy;have F:=SH.n0 H
 repeat k_meth
 exact k _ _ _ SH.nwC TpA.e
theorem yQ(T:Txt K mg c R CH CP CF CT CN CV CB aD ak):Met P w K mg base CX0 1 CT "mark" ["self"] vJ:=by
 obtain⟨f,hf,hm⟩:=T.Gb;refine(fA (k:=0) hf yh λf cdv A outer s H vs Q E hr h=>?_).met hm;obtain⟨y,rfl,k⟩:=h;have nd:=yh.nd;refine⟨_,(aC (aL aq)),?_⟩;clear nd ;rw[stE]
 try dsimp only[bI,aY]
 have F:=SH.n0 H
 repeat k_meth
 exact k
theorem S9(T:Txt K mg c R CH CP CF CT CN CV CB aD ak):Met P w K mg base CX0 1 CT "rule_word" ["self"] (rY "tightest"):=by
 obtain⟨f,hf,hm⟩:=T.Lw;refine(fA (k:=0) hf Fb λf cdv A outer s H vs Q E hr h=>?_).met hm;obtain⟨y,rfl,k⟩:=h;have nd:=Fb.nd;refine⟨_,(aC (aL bL)),?_⟩;clear nd ;rw[stE]
 try dsimp only[bI,aY]
 have F:=SH.n0 H
 repeat k_meth
 exact k
theorem S_(T:Txt K mg c R CH CP CF CT CN CV CB aD ak):Met P w K mg base CX0 6 CN "put" ["self","start","size"] (rW CN CH):=by
 obtain⟨f,hf,hm⟩:=T.Ln;refine(fA (k:=5) hf Ew λf cdv A outer s H vs Q E hr h=>?_).met hm;obtain⟨y,dy,x,p,dx,fs,o,a,b,rfl,nx,hb,k⟩:=h;have nd:=Ew.nd;refine⟨_,(aC (bK (jm (cX (pv 0) rfl) T.clH (vI T) hr (aj (pv 1) (aj (pv 2) ao))))),?_⟩;clear nd;rw[stE]
 try dsimp only[bI,aY]
 obtain⟨hy,bk⟩:=nx;obtain⟨hx,hp,h16,fD⟩:=id bk;have bks:Bks fs fs.length:=⟨rfl,h16,fD⟩;have nxp:x≠p:=λz=>by rw[z,hp] at hx;cases hx
 have nyp:y≠p:=λz=>by rw[z,hp] at hy;cases hy
 have F:SH H [p] H [(p,.lst (fs.map V.bl))] []:=SH.nil.fQ List.mem_cons_self hp rfl (by simp);have lG:=Old.mk (M:=[p]) hx (nm1 nxp);have iZ:=Old.mk (M:=[p]) hy (nm1 nyp);have ht:Gn fs a b:=⟨hb⟩
 repeat k_meth
 exact k _ F.kpo aH
theorem vM(T:Txt K mg c R CH CP CF CT CN CV CB aD ak):Met P w K mg base CX0 3 CN "holes" ["self"] (lB CN CH):=by
 obtain⟨f,hf,hm⟩:=T.yN;refine(fA (k:=2) hf uX λf cdv A outer s H vs Q E hr h=>?_).met hm;obtain⟨y,dy,x,p,dx,fs,o,rfl,nx,k⟩:=h;have nd:=uX.nd;refine⟨_,(aC (aL (bM (cX (pv 0) rfl) T.clH (vH T) hr))),?_⟩;clear nd;rw[stE]
 try dsimp only[bI,aY]
 obtain⟨hy,bk⟩:=nx;obtain⟨hx,hp,h16,fD⟩:=id bk;have bks:Bks fs fs.length:=⟨rfl,h16,fD⟩;have lG:=om hx;have Gj:=om hp;have iZ:=om hy;have F:=SH.n0 H
 repeat k_meth
 exact k _ _ _ SH.nwC TpA.e
theorem Tc(T:Txt K mg c R CH CP CF CT CN CV CB aD ak):Met P w K mg base CX0 1 CN "rule_word" ["self"] (rY "next"):=by
 obtain⟨f,hf,hm⟩:=T.Ly;refine(fA (k:=0) hf Fe λf cdv A outer s H vs Q E hr h=>?_).met hm;obtain⟨y,rfl,k⟩:=h;have nd:=Fe.nd;refine⟨_,(aC (aL bL)),?_⟩;clear nd ;rw[stE]
 try dsimp only[bI,aY]
 have F:=SH.n0 H
 repeat k_meth
 exact k
theorem Gq(T:Txt K mg c R CH CP CF CT CN CV CB aD ak):Met P w K mg base CX0 1 CN "mark" ["self"] (Gp CN CH):=by
 obtain⟨f,hf,hm⟩:=T.LK;refine(fA (k:=0) hf Fj λf cdv A outer s H vs Q E hr h=>?_).met hm;obtain⟨y,dy,x,p,dx,fs,t,rfl,nx,k⟩:=h;have nd:=Fj.nd;refine⟨_,(aC (aL (cX (pv 0) rfl))),?_⟩;clear nd ;rw[stE]
 try dsimp only[bI,aY]
 obtain⟨hy,bk⟩:=nx;obtain⟨hx,hp,h16,fD⟩:=id bk;have bks:Bks fs fs.length:=⟨rfl,h16,fD⟩;have lG:=om hx;have Gj:=om hp;have iZ:=om hy;have F:=SH.n0 H
 repeat k_meth
 exact k
end
open M22
theorem Ck{K:W.Frag}{l:Addr}{xs:List V}{rows:List (List V)}{σ fvs:L2.St}{fr:List Nat}{c:TT}{te:TE}{H:Hp}{Q:VK}{P:List V->Bool}(hq:H l=some (.lst xs))(tp:aB H xs rows)(hz:xs.length<=1000000)(hf:(fr.map λi=>(σ[i]?).getD none)=fvs)
  (G:Nat->List V->Hp->Prop) (st:∀i ys H1 H2,(∀q u,H1 q=some (.tup u)->H2 q=some (.tup u))->G i ys H1->G i ys H2) (g0:G 0 [] H)
  (acA:∀(i:Nat) (q:Addr) r (H':Hp) (R:Bool->Hp->Prop),rows[i]?=some r->Same H H'->H' q=some (.tup r)->(∀H2,Same H' H2->R (P r) H2)->c (some (.ref q)::fvs) H' R)
  (acB:∀(i:Nat) (q:Addr) r ys (H':Hp) (R:VK),rows[i]?=some r->P r=true->Same H H'->H' q=some (.tup r)->G i ys H'->(∀y H2,Same H' H2->G (i+1) (ys++[y]) H2->R y H2)->te (some (.ref q)::fvs) H' R)
  (skip:∀(i:Nat) r ys (H':Hp),rows[i]?=some r->P r=false->G i ys H'->G (i+1) ys H')
  (k:∀p ys H',New H H' p (.lst ys)->G xs.length ys H'->Q (.ref p) H'):eZ (Itl K l) 1 fr (bR 0) c te σ H Q:=by
 intro acc hacc;subst hf;have Dr:∀b u,H b=some u->b≠acc:=λb u e=>aQ e hacc
 have n0:New H (upd H acc (.lst [])) acc (.lst []):=.mk' hacc;refine zN (d9 (xs:=xs)) (λi ys H'=>H' acc=some (.lst ys)/\Same H H'/\ys.length<=i/\G i ys H') ⟨n0.e,n0.s,uA _,st _ _ _ _ (λq u e=>n0.s _ _ e) g0⟩ (λi ys H' _ h=>⟨h.2.1.seq (SqL.of hq),h.1⟩) ?_ ?_
 ·rintro i x tv ys H' hx hi ⟨ha,hs,hl,hg⟩ htv;obtain⟨t0,rfl⟩:∃a,tv=[a]:=List.length_eq_one_iff.mp htv;obtain⟨r,q,e1,rfl,e2⟩:=dD tp hx;refine wn0 ?_;refine acA i q r H' _ e1 hs (hs _ _ e2) λH2 s2=>?_
  have g2:=st _ _ _ _ (λq u e=>s2 _ _ e) hg;have ha2:H2 acc=some (.lst ys):=s2 _ _ ha;by_cases hp:P r=true
  ·rw[hp,zS rfl];refine acB i q r ys H2 _ e1 hp (hs.trans s2) (s2 _ _ (hs _ _ e2)) g2 λy H3 s3 g3=>⟨Nat.lt_of_le_of_lt hl (qA hi (cH hz)),s3 _ _ ha2,lJ.next (tv:=[some (.ref q)]) hi ⟨bx,λb u e=>?_,by rw[yB,List.length_singleton];lia,st _ _ _ _ (λq' u e=>?_) g3⟩ rfl⟩
   ·rw[aX (Dr b u e)];exact s3 _ _ (s2 _ _ (hs _ _ e))
   ·have e3:H3 acc=some (.lst ys):=s3 _ _ ha2;rw[aX (λz=>by rw[z,e3] at e;cases e)];exact e
  ·have hp:P r=false:=by simpa using hp
   rw[hp,yA (by decide)];exact lJ.next (tv:=[some (.ref q)]) hi ⟨ha2,hs.trans s2,by lia,skip i r ys H2 e1 hp g2⟩ rfl
 ·rintro ys H' ⟨ha,hs,_,hg⟩;exact k acc ys H' ⟨hs,ha,Dr⟩ hg
theorem eV{rows:List (List V)}{i:Nat}{r:List V}(h:rows[i]?=some r):rows.take (i+1)=rows.take i++[r]:=by rw[qS,h];rfl
theorem rZ{H1 H2:Hp}{ys:List V}{rows:List (List V)}(s:∀q u,H1 q=some (.tup u)->H2 q=some (.tup u))(t:aB H1 ys rows):aB H2 ys rows:=⟨t.1,λj r e=>let ⟨q,a,b⟩:=t.2 j r e;⟨q,a,s _ _ b⟩⟩
def geV(t:Int)(r:List V):Bool:=match r with
 | [.int s,_]=>decide (t<=s)
 | _=>false
def ltV(t:Int)(r:List V):Bool:=match r with
 | [.int s,_]=>decide (s<t)
 | _=>false
def j9(ws:xD)(t:Int):List (Nat×Nat):=ws.filter (λw=>decide (t<=(w.1:Int)))++ws.filter (λw=>decide ((w.1:Int)<t))
theorem L_(ws:xD)(t:Int):(aF ws).filter (geV t)=aF (ws.filter λw=>decide (t<=(w.1:Int))):=by
 unfold aF;rw[List.filter_map]
 rfl
theorem Mf(ws:xD)(t:Int):(aF ws).filter (ltV t)=aF (ws.filter λw=>decide ((w.1:Int)<t)):=by
 unfold aF;rw[List.filter_map]
 rfl
theorem Gs{H:Hp}{xs ys:List V}{a b:List (List V)}(h:aB H xs a)(g:aB H ys b):aB H (xs++ys) (a++b):=by
 refine⟨by rw[yB,yB,h.1,g.1],λj r e=>?_⟩;by_cases hj:j<a.length
 ·rw[yY hj] at e;obtain⟨q,e1,e2⟩:=h.2 j r e;exact⟨q,by rw[yY (by rw[h.1];exact hj)];exact e1,e2⟩
 ·rw[oP (by lia)] at e;obtain⟨q,e1,e2⟩:=g.2 _ r e;exact⟨q,by rw[oP (by rw[h.1];lia),h.1];exact e1,e2⟩
theorem yR(a b:xD):aF (a++b)=aF a++aF b:=by unfold aF;rw[List.map_append]
def Jl(ws:xD):Prop:=ws.Pairwise λa b=>a.1<b.1
class ag2(ws:xD)(s:Int)(w:outParam (Nat×Nat)):Prop where
 e:ws.find? (λw=>decide (s<=(w.2:Int)))=some w
class ag3(ws:xD)(s:Int):Prop where
 e:ws.find? (λw=>decide (s<=(w.2:Int)))=none
def vN:Sp:=λvs H Q _=>Ex3 λ(l:Addr) (ys:List V) (ws:xD)=>An5 (vs=[.ref l]) (H l=some (.lst ys)) (aB H ys (aF ws)) ((ws.length<64/\Jl ws)) (∀q H',New H H' q (.lst ys)->Q (.ref q) H')
def qX:Sp:=λvs H Q _=>Ex4 λ(l:Addr) (t:Int) (ys:List V) (ws:xD)=>An5 (vs=[.ref l,.int t]) (H l=some (.lst ys)) (aB H ys (aF ws)) ((ws.length<64/\Jl ws)) (∀q zs H',New H H' q (.lst zs)->aB H' zs (aF (j9 ws t))->Q (.ref q) H')
section
variable{q l:Addr}{t:Int}{H:Hp}{Q:VK}{E:XK}{ys:List V}{ws:xD}
instance Z_[h:Hat H l (.lst ys)][t:TpA H ys (aF ws)]:Go (vN [.ref l] H Q E) (Sd (ws.length<64/\Jl ws) (∀q H',New H H' q (.lst ys)->Q (.ref q) H')):=⟨λk=>⟨l,ys,ws,rfl,h.e,t.e,k.1,k.2⟩⟩
instance Yb[h:Hat H l (.lst ys)][tt:TpA H ys (aF ws)]:Go (qX [.ref l,.int t] H Q E) (Sd (ws.length<64/\Jl ws) (∀q zs H',New H H' q (.lst zs)->aB H' zs (aF (j9 ws t))->Q (.ref q) H')):=⟨λk=>⟨l,t,ys,ws,rfl,h.e,tt.e,k.1,k.2⟩⟩
end
theorem pX(fs:xF):Jl (aP fs):=(iR fs).imp λh=>by lia
abbrev bW:Pos:=⟨37,29,37,60⟩
abbrev bG:Str := "by_size.<locals>.<lambda>"
def yS(P:Addr)(pos:Pos)(qual:Str):Sp:=λvs H Q _=>Ex4 λ(l:Addr) (ys:List V) (ws:xD) (ps:xI)=>An7 (vs=[.ref l]) (H l=some (.lst ys)) (aB H ys (aF ws)) ((ws.length<64/\ws.Nodup/\∀w∈ws,w.1<1000000)) (H P=some (.tbl ps)) (TabOk pos qual ps H) (∀qs:List (Nat×Nat),qs.Perm ws/\jW qs->∀ps' H1,Kp P H H1->H1 P=some (.tbl ps')->TabOk pos qual ps' H1->∀D zs H2,New H1 H2 D (.lst zs)->aB H2 zs (aF qs)->Q (.ref D) H2)
theorem two_tab{H H':Hp}{P D:Addr}{pos:Pos}{qual:Str}{ps ps':xI}{zs:List V}{R:Hp->Prop}(hP:H P=some (.tbl ps))(fr:∀b u,b≠P->H b=some u->H' b=some u)(eP:H' P=some (.tbl ps'))(tk:TabOk pos qual ps' H')(eD:H' D=some (.lst zs))(fd:∀b u,H b=some u->b≠D)(k:∀H1,Kp P H H1->H1 P=some (.tbl ps')->TabOk pos qual ps' H1->∀H2,New H1 H2 D (.lst zs)->H2=H'->R H2):R H':=by
 let H1:Hp:=λb=>if b=D then none else H' b
 have h1D:H1 D=none:=zS rfl;have h1n:∀{b:Addr},b≠D->H1 b=H' b:=λn=>yA n
 refine k H1 (λb u nb e=>?_) (by rw[h1n (fd P _ hP)];exact eP) ?_ H' ⟨λb u e=>?_,eD,λb u e z=>?_⟩ rfl
 ·rw[h1n (fd b u e)];exact fr b u nb e
 ·rcases tk with h|⟨c',oc,vs,t,e,e1,e2⟩
  ·exact .inl h
  ·refine .inr ⟨c',oc,vs,t,e,?_,e2⟩;rw[h1n (λz=>by rw[z,eD] at e1;cases e1)];exact e1
 ·by_cases hb:b=D
  ·rw[hb,h1D] at e;cases e
  ·rw[h1n hb] at e;exact e
 ·rw[z,h1D] at e;cases e
theorem jt(fs:xF):(aP fs).Nodup:=(pX fs).imp λh z=>by
 rw[z] at h
 lia
theorem ju{fs:xF}(h:fs.length<=240):∀w∈aP fs,w.1<1000000:=λw hw=>by
 obtain⟨a,b,c⟩:=lg hw
 lia
def yU(C CH:Addr):Sp:=λvs H Q _=>Ex7 λ(y dy x p dx:Addr) (fs:xF) (o:Option Int)=>An4 (vs=[.ref y]) (Ru C CH H y dy x p dx fs o) ((aP fs).length<64) (∀q zs H',New H H' q (.lst zs)->aB H' zs (aF (aP fs))->Q (.ref q) H')
def yV(C CH:Addr):Sp:=λvs H Q _=>Ex7 λ(y dy x p dx:Addr) (fs:xF) (t:Int)=>An4 (vs=[.ref y]) (Ru C CH H y dy x p dx fs (some t)) ((aP fs).length<64) (∀q zs H',New H H' q (.lst zs)->aB H' zs (aF (j9 (aP fs) t))->Q (.ref q) H')
def yW(C CH P:Addr)(pos:Pos)(qual:Str):Sp:=λvs H Q _=>Ex8 λ(y dy x p dx:Addr) (fs:xF) (o:Option Int) (ps:xI)=>An6 (vs=[.ref y]) (Ru C CH H y dy x p dx fs o) ((aP fs).length<64) (H P=some (.tbl ps)) (TabOk pos qual ps H) (∀qs:List (Nat×Nat),qs.Perm (aP fs)/\jW qs->∀ps' H1,Kp P H H1->H1 P=some (.tbl ps')->TabOk pos qual ps' H1->∀D zs H2,New H1 H2 D (.lst zs)->aB H2 zs (aF qs)->Q (.ref D) H2)
section
variable{C CH y dy x p dx q l P:Addr}{fs:xF}{t:Int}{o:Option Int}{H:Hp}{Q:VK}{E:XK}{ys:List V}{ws:xD}{pos:Pos}{qual:Str}{ps:xI}{H0:Hp}{M:List Addr}{L:List (Addr×HO)}{I:List Im}
instance aaO[F:SH H0 M H L I][e:LkL L P (.tbl ps)][tb:DN I pos qual ps][h:Hat H l (.lst ys)][tt:TpA H ys (aF ws)]:Go (yS P pos qual [.ref l] H Q E) (Sd (ws.length<64/\ws.Nodup/\∀w∈ws,w.1<1000000) (∀qs:List (Nat×Nat),qs.Perm ws/\jW qs->∀ps' H1,Kp P H H1->H1 P=some (.tbl ps')->TabOk pos qual ps' H1->∀D zs H2,New H1 H2 D (.lst zs)->aB H2 zs (aF qs)->Q (.ref D) H2)):=⟨λs=>⟨l,ys,ws,ps,rfl,h.e,tt.e,s.1,F.raw e.m,F.im _ tb.m,s.2⟩⟩
instance aaP[h:RuA C CH H y dy x p dx fs o]:Go (yU C CH [.ref y] H Q E) (Sd ((aP fs).length<64) (∀q zs H',New H H' q (.lst zs)->aB H' zs (aF (aP fs))->Q (.ref q) H')):=⟨λk=>⟨y,dy,x,p,dx,fs,o,rfl,h.e,k.1,k.2⟩⟩
instance aaQ[h:RuA C CH H y dy x p dx fs (some t)]:Go (yV C CH [.ref y] H Q E) (Sd ((aP fs).length<64) (∀q zs H',New H H' q (.lst zs)->aB H' zs (aF (j9 (aP fs) t))->Q (.ref q) H')):=⟨λk=>⟨y,dy,x,p,dx,fs,t,rfl,h.e,k.1,k.2⟩⟩
instance aaR[F:SH H0 M H L I][e:LkL L P (.tbl ps)][tb:DN I pos qual ps][h:RuA C CH H y dy x p dx fs o]:Go (yW C CH P pos qual [.ref y] H Q E) (Sd ((aP fs).length<64) (∀qs:List (Nat×Nat),qs.Perm (aP fs)/\jW qs->∀ps' H1,Kp P H H1->H1 P=some (.tbl ps')->TabOk pos qual ps' H1->∀D zs H2,New H1 H2 D (.lst zs)->aB H2 zs (aF qs)->Q (.ref D) H2)):=⟨λk=>⟨y,dy,x,p,dx,fs,o,ps,rfl,h.e,k.1,F.raw e.m,F.im _ tb.m,k.2⟩⟩
end
section
variable{P:Program}{w:World}{K:W.Frag}{mg:xC}{base:Heap}{c:Nat->Addr}{aD ak R CH CP CF CT CN CV CB:Addr}
theorem yX(T:Txt K mg c R CH CP CF CT CN CV CB aD ak):Def P w K mg base CX0 1 "by_start" ["holes"] vN:=by
 refine dA T.yE uG λf cdv A outer s H vs Q E hr h=>?_
 obtain⟨l,ys,ws,rfl,hl,tp,side,k⟩:=h;have nd:=uG.nd;refine⟨_,(aC (aL (bH Iu rfl T.j5 boot_sorted (aj (pv 0) ao)))),?_⟩;clear nd ;rw[stE]
 try dsimp only[bI,aY]
 have dB:=om hl;have jw:=jC.mk tp;have F:=SH.n0 H;have yl:ys.length=ws.length:=by rw[tp.1,aG]
 have sd1:ys.length<64/\ws.Pairwise (λa b=>a.1<b.1):=⟨by lia,side.2⟩
 repeat k_meth
 exact k _ _ SH.nwC
theorem Jm(T:Txt K mg c R CH CP CF CT CN CV CB aD ak):Def P w K mg base CX0 2 "from_mark" ["holes","mark"] qX:=by
 refine dA T.vp qG λf cdv A outer s H vs Q E hr h=>?_
 obtain⟨l,t,ys,ws,rfl,hl,tp,side,k⟩:=h;have nd:=qG.nd;refine⟨_,(aA (psz 2 nd (aK (yX T) hr (aj (pv 0) ao)))
  (aC (aL (aM dY (ji (N:=["hole","mark"]) (nt:=1) (fr:=[1]) (cj (pv 2)) (λ_ _ _ _=>(cN (i:=0) (show (["hole","mark"]:List Str).Nodup from by decide +kernel) rfl (Or.inl rfl))) (λ_ _ _ _=>dW (aN PK (aW (rK (K:=K) rfl) (pv 0) aq (λ_ _=>rfl)) (pv 1) (aO _))) (λ_ _ _ _=>(pv 0))) (ji (N:=["hole","mark"]) (nt:=1) (fr:=[1]) (cj (pv 2)) (λ_ _ _ _=>(cN (i:=0) (show (["hole","mark"]:List Str).Nodup from by decide +kernel) rfl (Or.inl rfl))) (λ_ _ _ _=>dW (aN mW (aW (rK (K:=K) rfl) (pv 0) aq (λ_ _=>rfl)) (pv 1) (aO _))) (λ_ _ _ _=>(pv 0))))))),?_⟩
 clear nd;rw[stE]
 try dsimp only[bI,aY]
 have dB:=om hl;have jw:=jC.mk tp;have F:=SH.n0 H;have yl:ys.length=ws.length:=by rw[tp.1,aG]
 have s1:=side.1;have f1:=List.length_filter_le (λw:Nat×Nat=>decide (t<=(w.1:Int))) ws;have f2:=List.length_filter_le (λw:Nat×Nat=>decide ((w.1:Int)<t)) ws
 repeat k_meth
 refine Ck (P:=geV t) (fvs:=[some (.int t)]) aH (TpA.e (rs:=aF ws)) (by lia) rfl (λi ys H'=>aB H' ys (((aF ws).take i).filter (geV t))) (λi ys H1 H2 s t=>rZ s t) aB.nil (λi q1 r H' R e1 s1 e2 kk=>?_) (λi q1 r ys H' R e1 hp s1 e2 g kk=>?_) (λi r ys H' e1 hp g=>by rw[eV e1,List.filter_append,List.filter_cons_of_neg (by simp[hp]),List.filter_nil,List.append_nil];exact g) λqa ya Ha na ga=>?_
 ·clear F;have F:SH H' [] H' [] []:=SH.nil;obtain⟨w0,_,rfl⟩:=vT.mp (yT e1);have aac:=om e2
  repeat k_meth
  exact kk _ (Same.refl _)
 ·repeat k_meth
  refine kk _ _ (Same.refl _) ?_;rw[eV e1,List.filter_append,List.filter_cons_of_pos hp,List.filter_nil];exact aB.snoc g e2
 ·rw[nI (by rw[aG];lia),L_] at ga;replace F:=F.newR na ga;have la:ya.length<=64:=by rw[ga.1,aG];lia
  clear na ga
  repeat k_meth
  refine Ck (P:=ltV t) (fvs:=[some (.int t)]) aH (TpA.e (rs:=aF ws)) (by lia) rfl (λi ys H'=>aB H' ys (((aF ws).take i).filter (ltV t))) (λi ys H1 H2 s t=>rZ s t) aB.nil (λi q1 r H' R e1 s1 e2 kk=>?_) (λi q1 r ys H' R e1 hp s1 e2 g kk=>?_) (λi r ys H' e1 hp g=>by rw[eV e1,List.filter_append,List.filter_cons_of_neg (by simp[hp]),List.filter_nil,List.append_nil];exact g) λqb yb Hb nb gb=>?_
  ·clear F;have F:SH H' [] H' [] []:=SH.nil;obtain⟨w0,_,rfl⟩:=vT.mp (yT e1);have aac:=om e2
   repeat k_meth
   exact kk _ (Same.refl _)
  ·repeat k_meth
   refine kk _ _ (Same.refl _) ?_;rw[eV e1,List.filter_append,List.filter_cons_of_pos hp,List.filter_nil];exact aB.snoc g e2
  ·rw[nI (by rw[aG];lia),Mf] at gb;replace F:=F.newR nb gb;have lb:yb.length<=64:=by rw[gb.1,aG];lia
   clear nb gb
   repeat k_meth
   refine k _ _ _ SH.nwC ?_;unfold j9;rw[yR];exact Gs TpA.e TpA.e
theorem Gu(T:Txt K mg c R CH CP CF CT CN CV CB aD ak)(B:Bm mg base):Def P w K mg base CX0 1 "by_size" ["holes"] (yS ak bW bG):=by
 refine Wg T.Fq xM (λvs H Q E h=>?_) (λ_ _ _ _ _ _=>el1 λ_=>rfl) (λf A outer s H vs Q E hr h=>?_)
 ·obtain⟨l,ys,ws,ps,rfl,_⟩:=h
  rfl
 ·obtain⟨l,ys,ws,ps,rfl,hl,tp,side,hP,tk,k⟩:=h;have nd:=xM.nd;refine⟨_,(aC (aL (Y4 (Iw rfl hr) rfl T.j5 boot_sorted (aj (pv 0) ao) (Wc (qual:=bG) B rfl T.vo (by with_unfolding_all rfl) ⟨rfl,rfl,rfl,by with_unfolding_all rfl,by decide +kernel,by decide⟩)))),?_⟩;clear nd ;rw[stE]
  try dsimp only[bI,aY]
  have nlP:l≠ak:=λz=>by rw[z,hP] at hl;cases hl
  have F:SH H [ak] H [(ak,.tbl ps)] [.tps ys (aF ws),eF bW bG ps]:=((SH.nil.fQ List.mem_cons_self hP rfl (by simp)).rD tk).bQ tp;have dB:=Old.mk (M:=[ak]) hl (nm1 nlP);have yl:ys.length=ws.length:=by rw[tp.1,aG]
  repeat k_meth
  intro f_ ps_
  repeat k_meth
  intro qs hq
  repeat k_meth
  have fd:∀b u,H b=some u->b≠p_:=F.fresh (LkL.m (o:=.lst ys_)) (nm1 (SH.neC (F:=F)));exact two_tab (R:=λH2=>Q _ H2) hP (λb u n e=>F.fr b u (nm1 n) e) aH SH.tab aH fd λH1 a1 a2 a3 H2 a4 e=>k qs hq _ H1 a1 a2 a3 _ _ H2 a4 (by rw[e];exact TpA.e)
theorem Oi(T:Txt K mg c R CH CP CF CT CN CV CB aD ak):Met P w K mg base CX0 4 CF "order" ["self"] (yU CF CH):=by
 obtain⟨f,hf,hm⟩:=T.Gf;refine(fA (k:=3) hf yp λf cdv A outer s H vs Q E hr h=>?_).met hm;obtain⟨y,dy,x,p,dx,fs,o,rfl,nx,h64,k⟩:=h;have nd:=yp.nd;refine⟨_,(aC (aL (aK (yX T) hr (aj (bM (pv 0) T.clF (vK T) hr) ao)))),?_⟩;clear nd;rw[stE]
 try dsimp only[bI,aY]
 obtain⟨hy,bk⟩:=nx;obtain⟨hx,hp,h16,fD⟩:=id bk;have bks:Bks fs fs.length:=⟨rfl,h16,fD⟩;have lG:=om hx;have Gj:=om hp;have iZ:=om hy;have F:=SH.n0 H;have sd1:(aP fs).length<64/\Jl (aP fs):=⟨h64,pX fs⟩
 repeat k_meth
 exact k _ _ _ SH.nwC TpA.e
theorem Oj(T:Txt K mg c R CH CP CF CT CN CV CB aD ak):Met P w K mg base CX0 4 CN "order" ["self"] (yV CN CH):=by
 obtain⟨f,hf,hm⟩:=T.Gh;refine(fA (k:=3) hf yr λf cdv A outer s H vs Q E hr h=>?_).met hm;obtain⟨y,dy,x,p,dx,fs,t,rfl,nx,h64,k⟩:=h;have nd:=yr.nd;refine⟨_,(aC (aL (aK (Jm T) hr (aj (bM (pv 0) T.clN (vM T) hr) (aj (cX (pv 0) rfl) ao))))),?_⟩;clear nd;rw[stE]
 try dsimp only[bI,aY]
 obtain⟨hy,bk⟩:=nx;obtain⟨hx,hp,h16,fD⟩:=id bk;have bks:Bks fs fs.length:=⟨rfl,h16,fD⟩;have lG:=om hx;have Gj:=om hp;have iZ:=om hy;have F:=SH.n0 H;have sd1:(aP fs).length<64/\Jl (aP fs):=⟨h64,pX fs⟩
 repeat k_meth
 exact k _ _ _ SH.nwC TpA.e
theorem Ol(T:Txt K mg c R CH CP CF CT CN CV CB aD ak)(B:Bm mg base):Met P w K mg base CX0 4 CT "order" ["self"] (yW CT CH ak bW bG):=by
 obtain⟨f,hf,hm⟩:=T.Gg;refine(fA (k:=3) hf yq λf cdv A outer s H vs Q E hr h=>?_).met hm;obtain⟨y,dy,x,p,dx,fs,o,ps,rfl,nx,h64,hP,tk,k⟩:=h;have nd:=yq.nd;refine⟨_,(aC (aL (aK (Gu T B) hr (aj (bM (pv 0) T.clT (vL T) hr) ao)))),?_⟩;clear nd;rw[stE]
 try dsimp only[bI,aY]
 obtain⟨hy,bk⟩:=nx;obtain⟨hx,hp,h16,fD⟩:=id bk;have bks:Bks fs fs.length:=⟨rfl,h16,fD⟩;have nxP:x≠ak:=λz=>by rw[z,hP] at hx;cases hx
 have nyP:y≠ak:=λz=>by rw[z,hP] at hy;cases hy
 have npP:p≠ak:=λz=>by rw[z,hP] at hp;cases hp
 have F:SH H [ak] H [(ak,.tbl ps)] [eF bW bG ps]:=(SH.nil.fQ List.mem_cons_self hP rfl (by simp)).rD tk;have lG:=Old.mk (M:=[ak]) hx (nm1 nxP);have iZ:=Old.mk (M:=[ak]) hy (nm1 nyP);have Gj:=Old.mk (M:=[ak]) hp (nm1 npP);have sd1:(aP fs).length<64/\(aP fs).Nodup/\∀w∈aP fs,w.1<1000000:=⟨h64,jt fs,ju fD⟩
 repeat k_meth
 intro qs hq ps_
 repeat k_meth
 have fd:∀b u,H b=some u->b≠p_:=F.fresh (LkL.m (o:=.lst ys_)) (nm1 (SH.neC (F:=F)));exact two_tab (R:=λH2=>Q _ H2) hP (λb u n e=>F.fr b u (nm1 n) e) aH SH.tab aH fd λH1 a1 a2 a3 H2 a4 e=>k qs hq _ H1 a1 a2 a3 _ _ H2 a4 (by rw[e];exact TpA.e)
end
open M22
section
variable{H0 H:Hp}{P:Addr}{L:List (Addr×HO)}{I:List Im}
theorem acC{z:Addr}{o:HO}(F:SH H0 [P] H L I)(m:(P,o)∈L)(hz:H z=none):H0 z=none:=by
 cases e:H0 z with
 | none=>rfl
 | some u =>
  by_cases h:z=P
  ·have:=F.raw m;rw[<- h,hz] at this;cases this
  ·have:=F.fr z u (nm1 h) e;rw[hz] at this;cases this
end
def pY(K:W.Frag)(CH CF:Addr):Sp:=λvs H Q E=>Ex4 λ(x dx:Addr) (v:V) (n1:String)=>An4 (vs=[.ref x,v]) (H x=some (.ins CH dx [])) (b_ K H v (.type n1)) (((∃n:Nat,v=.int (n:Nat)/\16<=n/\n<=240/\∀(p:Addr)(H':Hp),Kp x H H'->H' x=some (.ins CH dx (hF n p))->H' p=some (.lst ((List.replicate n true).map V.bl))->(∀a u,H a=some u->a≠p)->Q .non H')\/(inB v 16 240=false/\∀d H',Same H H'->H' d=some (dJ d [("many", v)])->E (.ref CF) (some d) H')))
section
variable{K:W.Frag}{v:V}{n1:String}{H:Hp}{Q:VK}{E:XK}
instance (priority:=low) acD [t:TyA K H v n1]:Go (jo K [v] H Q E) (Q (.bl (inB v 16 240)) H):=⟨Zc t.e⟩
end
def oA(CN:Addr):Sp:=λvs H Q _=>Ex3 λ(y dy x:Addr)=>An3 (vs=[.ref y,.ref x]) (H y=some (.ins CN dy [])) (∀H',Kp y H H'->H' y=some (.ins CN dy (rF x none))->Q .non H')
def lC(K:W.Frag)(CN CH CM:Addr):Sp:=λvs H Q E=>Ex4 λ(y dy:Addr) (v:V) (n1:String)=>An4 (vs=[.ref y,v]) (H y=some (.ins CN dy [])) (b_ K H v (.type n1)) (((∃n:Nat,v=.int (n:Nat)/\(16<=n/\n<=240)/\∀(x dx p:Addr)(H':Hp),Kp y H H'->H' y=some (.ins CN dy (rF x none))->H' x=some (.ins CH dx (hF n p))->H' p=some (.lst ((List.replicate n true).map V.bl))->(∀a u,H a=some u->a≠p)->(∀a u,H a=some u->a≠x)->Q .non H')\/(inB v 16 240=false/\∀d H',Same H H'->H' d=some (dJ d [("many", v)])->E (.ref CM) (some d) H')))
def lD(K:W.Frag)(CN CH CM CP:Addr):Sp:=λvs H Q E=>Ex6 λ(y dy:Addr) (v w:V) (n1 n2:String)=>An5 (vs=[.ref y,v,w]) (H y=some (.ins CN dy [])) (b_ K H v (.type n1)) (b_ K H w (.type n2)) (((∃n t:Nat,v=.int (n:Nat)/\w=.int (t:Nat)/\(16<=n/\n<=240/\t<=n)/\∀(x dx p:Addr)(H':Hp),Kp y H H'->H' y=some (.ins CN dy (rF x (some t)))->H' x=some (.ins CH dx (hF n p))->H' p=some (.lst ((List.replicate n true).map V.bl))->(∀a u,H a=some u->a≠p)->(∀a u,H a=some u->a≠x)->Q .non H')\/(inB v 16 240=false/\∀d H',Same H H'->H' d=some (dJ d [("many", v)])->E (.ref CM) (some d) H')\/(∃n:Nat,v=.int (n:Nat)/\(16<=n/\n<=240)/\inB w 0 (n:Nat)=false/\∀x d H',Kp y H H'->H' y=some (.ins CN dy (rF x none))->H' d=some (dJ d [("at", w)])->E (.ref CP) (some d) H')))
class vO(v:V):Prop where
 e:inB v 16 240=false
class acE(w:V)(n:Nat):Prop where
 e:inB w 0 (n:Nat)=false
theorem aad{K:W.Frag}{H:Hp}{v:V}{n:String}{y C dy:Addr}{gs:List (Str×V)}(h:b_ K H v (.type n))(hy:H y=some (.ins C dy gs)):∀a,v=.ref a->a ∉ [y]:=by
 intro a e;refine nm1 λz=>?_
 subst z;cases h with
 | lst h=>cases e;rw[hy] at h;cases h
 | frz h=>cases e;rw[hy] at h;cases h
 | tup h=>cases e;rw[hy] at h;cases h
 | dK h=>cases e;rw[hy] at h;cases h
 | dT h=>cases e;rw[hy] at h;cases h
 | _=>cases e
section
variable{K:W.Frag}{v w:V}{n1 n2:String}{CM CP CN CH CF y dy x p dx:Addr}{t u s:Int}{H:Hp}{Q:VK}{E:XK}{b m n tt:Nat}
instance acF[h:Hat H y (.ins CN dy [])]:Go (oA CN [.ref y,.ref x] H Q E) (∀H',Kp y H H'->H' y=some (.ins CN dy (rF x none))->Q .non H'):=⟨λk=>⟨y,dy,x,rfl,h.e,k⟩⟩
instance aaS[h:Hat H x (.ins CH dx [])]:Go (pY K CH CF [.ref x,.int (n:Nat)] H Q E) (Sd (16<=n/\n<=240) (∀(p:Addr)(H1:Hp),New H H1 p (.lst ((List.replicate n true).map V.bl))->∀H2,Off x H1 H2->H2 x=some (.ins CH dx (hF n p))->Q .non H2)):=by
 refine⟨λs=>⟨x,dx,_, "int", rfl,h.e,.int _,.inl ⟨n,rfl,s.1.1,s.1.2,λp H' kp ex ep fr=>?_⟩⟩⟩;have hx:=h.e;have nxp:x≠p:=fr x _ hx
 let H1:Hp:=λb=>if b=x then H x else H' b
 have h1x:H1 x=H x:=zS rfl;have h1n:∀{b:Addr},b≠x->H1 b=H' b:=λn=>yA n
 refine s.2 p H1 ⟨λb u eb=>?_,?_,λb u eb=>fr b u eb⟩ H' (λb nb=>(h1n nb).symm) ex
 ·by_cases hb:b=x
  ·rw[hb,h1x,<- hb];exact eb
  ·rw[h1n hb];exact kp b u hb eb
 ·rw[h1n (Ne.symm nxp)];exact ep
instance acG[h:Hat H y (.ins CN dy [])]:Go (lD K CN CH CM CP [.ref y,.int (n:Nat),.int (tt:Nat)] H Q E) (Sd (16<=n/\n<=240/\tt<=n) (∀(p:Addr)(H1:Hp),New H H1 p (.lst ((List.replicate n true).map V.bl))->∀(x dx:Addr)(H2:Hp),New H1 H2 x (.ins CH dx (hF n p))->∀H3,Off y H2 H3->H3 y=some (.ins CN dy (rF x (some tt)))->Q .non H3)):=by
 refine⟨λs=>⟨y,dy,_,_,_,_,rfl,h.e,.int _,.int _,.inl ⟨n,tt,rfl,rfl,s.1,λx dx p H' kp ey ex ep fp fx=>?_⟩⟩⟩;have hy:=h.e;have nyp:y≠p:=fp y _ hy;have nyx:y≠x:=fx y _ hy;have npx:p≠x:=λz=>by rw[z,ex] at ep;cases ep
 let H2:Hp:=λb=>if b=y then H y else H' b
 let H1:Hp:=λb=>if b=x then none else H2 b
 have h2y:H2 y=H y:=zS rfl;have h2n:∀{b:Addr},b≠y->H2 b=H' b:=λn=>yA n
 have h1n:∀{b:Addr},b≠x->H1 b=H2 b:=λn=>yA n
 refine s.2 p H1 ⟨λb u eb=>?_,?_,λb u eb=>fp b u eb⟩ x dx H2 ⟨λb u eb=>?_,?_,λb u eb z=>?_⟩ H' (λb nb=>(h2n nb).symm) ey
 ·rw[h1n (fx b u eb)];by_cases hb:b=y
  ·rw[hb,h2y,<- hb];exact eb
  ·rw[h2n hb];exact kp b u hb eb
 ·rw[h1n npx,h2n (Ne.symm nyp)];exact ep
 ·by_cases hb:b=x
  ·have:H1 b=none:=zS hb;rw[this] at eb;cases eb
  ·rw[h1n hb] at eb;exact eb
 ·rw[h2n (Ne.symm nyx)];exact ex
 ·have:H1 b=none:=zS z;rw[this] at eb;cases eb
instance acH[h:Hat H y (.ins CN dy [])]:Go (lC K CN CH CM [.ref y,.int (n:Nat)] H Q E) (Sd (16<=n/\n<=240) (∀(p:Addr)(H1:Hp),New H H1 p (.lst ((List.replicate n true).map V.bl))->∀(x dx:Addr)(H2:Hp),New H1 H2 x (.ins CH dx (hF n p))->∀H3,Off y H2 H3->H3 y=some (.ins CN dy (rF x none))->Q .non H3)):=by
 refine⟨λs=>⟨y,dy,_,_,rfl,h.e,.int _,.inl ⟨n,rfl,s.1,λx dx p H' kp ey ex ep fp fx=>?_⟩⟩⟩;have hy:=h.e;have nyp:y≠p:=fp y _ hy;have nyx:y≠x:=fx y _ hy;have npx:p≠x:=λz=>by rw[z,ex] at ep;cases ep
 let H2:Hp:=λb=>if b=y then H y else H' b
 let H1:Hp:=λb=>if b=x then none else H2 b
 have h2y:H2 y=H y:=zS rfl;have h2n:∀{b:Addr},b≠y->H2 b=H' b:=λn=>yA n
 have h1n:∀{b:Addr},b≠x->H1 b=H2 b:=λn=>yA n
 refine s.2 p H1 ⟨λb u eb=>?_,?_,λb u eb=>fp b u eb⟩ x dx H2 ⟨λb u eb=>?_,?_,λb u eb z=>?_⟩ H' (λb nb=>(h2n nb).symm) ey
 ·rw[h1n (fx b u eb)];by_cases hb:b=y
  ·rw[hb,h2y,<- hb];exact eb
  ·rw[h2n hb];exact kp b u hb eb
 ·rw[h1n npx,h2n (Ne.symm nyp)];exact ep
 ·by_cases hb:b=x
  ·have:H1 b=none:=zS hb;rw[this] at eb;cases eb
  ·rw[h1n hb] at eb;exact eb
 ·rw[h2n (Ne.symm nyx)];exact ex
 ·have:H1 b=none:=zS z;rw[this] at eb;cases eb
instance adV{H0:Hp}{M:List Addr}{L:List (Addr×HO)}{I:List Im}{Z:Addr->Addr->Hp->Prop}{gs:List (Str×V)}[F:SH H0 M H L I]:Go (∀x dx H',New H H' x (.ins CH dx gs)->Z x dx H') (∀H' x dx,SH H0 M H' ((x,.ins CH dx gs)::L) I->Z x dx H'):=⟨λk p dx H' n=>k H' p dx (F.abA n)⟩
instance adW{H0:Hp}{L:List (Addr×HO)}{I:List Im}{m:Nat}{f:Str}{C P:Addr}{o:HO}[F:SH H0 [P] H L I][e:LkL L P o]:Go (Ax m C H0 E f [v] H) (∀dx H2,Same H H2->H2 dx=some (dJ dx [(f,v)])->E (.ref C) (some dx) H2):=⟨λk=>⟨v,rfl,λz H' hn hz s e'=>Dn (by simp) hn hz (acC F e.m hz) s e' k⟩⟩
instance aaT[h:Hat H x (.ins CH dx [])][t:TyA K H v n1][c:vO v]:Go (pY K CH CF [.ref x,v] H Q E) (∀d H',Same H H'->H' d=some (dJ d [("many", v)])->E (.ref CF) (some d) H'):=⟨λk=>⟨x,dx,v,n1,rfl,h.e,t.e,.inr ⟨c.e,k⟩⟩⟩
instance aaU[h:Hat H y (.ins CN dy [])][t:TyA K H v n1][c:vO v]:Go (lC K CN CH CM [.ref y,v] H Q E) (∀d H',Same H H'->H' d=some (dJ d [("many", v)])->E (.ref CM) (some d) H'):=⟨λk=>⟨y,dy,v,n1,rfl,h.e,t.e,.inr ⟨c.e,k⟩⟩⟩
instance aaV[h:Hat H y (.ins CN dy [])][t:TyA K H v n1][t2:TyA K H w n2][c:vO v]:Go (lD K CN CH CM CP [.ref y,v,w] H Q E) (∀d H',Same H H'->H' d=some (dJ d [("many", v)])->E (.ref CM) (some d) H'):=⟨λk=>⟨y,dy,v,w,n1,n2,rfl,h.e,t.e,t2.e,.inr (.inl ⟨c.e,k⟩)⟩⟩
instance aaW[h:Hat H y (.ins CN dy [])][t2:TyA K H w n2][c:acE w n]:Go (lD K CN CH CM CP [.ref y,.int (n:Nat),w] H Q E) (Sd (16<=n/\n<=240) (∀x d H',Kp y H H'->H' y=some (.ins CN dy (rF x none))->H' d=some (dJ d [("at", w)])->E (.ref CP) (some d) H')):=⟨λk=>⟨y,dy,_,w,_,n2,rfl,h.e,.int _,t2.e,.inr (.inr ⟨n,rfl,k.1,c.e,k.2⟩)⟩⟩
end
section
variable{P:Program}{w:World}{K:W.Frag}{mg:xC}{base:Heap}{c:Nat->Addr}{aD ak R CH CP CF CT CN CV CB:Addr}
theorem vP(T:Txt K mg c R CH CP CF CT CN CV CB aD ak):Mak P w K mg base (CX1 P w) 4 "Holes" CH ["self","many"] (pY K CH (c 0)):=by
 obtain⟨f,hf,hm⟩:=T.Lb;refine(fX (k:=3) hf Em λf cdv A outer s H vs Q E hr h=>?_).mak hm T.FP;obtain⟨x,dx,v,n1,rfl,hx,ty,kk⟩:=h;have nd:=Em.nd;refine⟨_,(aA (bB (cD (bN (aK (lA T) hr (aj (pv 1) ao)))) (aC (jQ T.vg (nu T.dw (Fl T.dw.S T.fZ) hr (aj (pv 1) ao)))) aR)
  (PSs.nox (aA (jg (pv 0) (pv 1) rfl)
  (aC (jg (pv 0) (aM zX (aU (aj cZ ao)) (pv 1)) rfl))))),?_⟩
 clear nd;rw[stE]
 try dsimp only[bI,aY,qz]
 rcases kk with⟨n,rfl,h16,fD,k⟩|⟨hb,k⟩
 ·have F:SH H [x] H [(x,.ins CH dx [])] []:=SH.nil.fQ List.mem_cons_self hx rfl (by simp)
  repeat k_meth
  rw[gN (show (16:Int)<=(n:Int) by lia),gN (show (n:Int)<=240 by lia),show (true && true)=true from rfl]
  repeat k_meth
  have hh:H_ x=some (.ins CH dx _):=aH;exact k p_ _ F.kpo hh aH (F.fresh (LkL.m (o:=.lst _)) (nm1 (SH.neC (F:=F))))
 ·have F:=SH.n0 H;have lG:=om hx;have o_v:gU K H [] v n1:=⟨ty,λ_ _ z=>by cases z⟩
  repeat k_meth
  rw[hb]
  repeat k_meth
  exact λd H' s e=>k d H' (F.sm.trans s) e
theorem Om(T:Txt K mg c R CH CP CF CT CN CV CB aD ak):Cdf P w K mg base CX0 1 "Rule" CB "__init__" ["self","book"] (oA CF):=by
 obtain⟨f,hf,hm⟩:=T.FQ;refine(fA (k:=0) hf xY λf cdv A outer s H vs Q E hr h=>?_).cdf hm T.lu;obtain⟨y,dy,x,rfl,hy,k⟩:=h;have nd:=xY.nd;refine⟨_,(aC (jg (pv 0) (pv 1) rfl)),?_⟩;clear nd ;rw[stE]
 try dsimp only[bI,aY]
 have F:SH H [y] H [(y,.ins CF dy [])] []:=SH.nil.fQ List.mem_cons_self hy rfl (by simp)
 repeat k_meth
 rw[Cj] at F;exact k _ F.kpo aH
theorem Td(T:Txt K mg c R CH CP CF CT CN CV CB aD ak):Mak P w K mg base (CX1 P w) 6 "First" CF ["self","many"] (lC K CF CH (c 0)):=by
 obtain⟨f,hf,hm⟩:=T.Lq;refine(fX (k:=5) hf Ez λf cdv A outer s H vs Q E hr h=>?_).mak hm T.vD;obtain⟨y,dy,v,n1,rfl,hy,ty,kk⟩:=h;have nd:=Ez.nd;refine⟨_,(aC (bK (Ag (Om T) hr (aj (pv 0) (aj (iy (vP T) hr (aj (pv 1) ao) (hx:=nj)) ao))))),?_⟩;clear nd;rw[stE]
 try dsimp only[bI,aY,qz]
 rcases kk with⟨n,rfl,side,k⟩|⟨hb,k⟩
 ·have F:SH H [y] H [(y,.ins CF dy [])] []:=SH.nil.fQ List.mem_cons_self hy rfl (by simp)
  repeat k_meth
  exact k x_ dx_ p_ _ F.kpo aH aH aH (F.fresh (LkL.m (o:=.lst _)) (nm1 (SH.neC (F:=F)))) (F.fresh (LkL.m (o:=.ins CH dx_ _)) (nm1 (SH.neC (F:=F))))
 ·have F:=SH.n0 H;have iZ:=om hy;have o_v:gU K H [] v n1:=⟨ty,λ_ _ z=>by cases z⟩;have hm:vO v:=⟨hb⟩
  repeat k_meth
  exact λd H' s e=>k d H' (F.sm.trans s) e
theorem Oo(T:Txt K mg c R CH CP CF CT CN CV CB aD ak):Cdf P w K mg base CX0 1 "Rule" CB "__init__" ["self","book"] (oA CT):=by
 obtain⟨f,hf,hm⟩:=T.FT;refine(fA (k:=0) hf xZ λf cdv A outer s H vs Q E hr h=>?_).cdf hm T.lu;obtain⟨y,dy,x,rfl,hy,k⟩:=h;have nd:=xZ.nd;refine⟨_,(aC (jg (pv 0) (pv 1) rfl)),?_⟩;clear nd ;rw[stE]
 try dsimp only[bI,aY]
 have F:SH H [y] H [(y,.ins CT dy [])] []:=SH.nil.fQ List.mem_cons_self hy rfl (by simp)
 repeat k_meth
 rw[Cj] at F;exact k _ F.kpo aH
theorem Te(T:Txt K mg c R CH CP CF CT CN CV CB aD ak):Mak P w K mg base (CX1 P w) 6 "Tightest" CT ["self","many"] (lC K CT CH (c 0)):=by
 obtain⟨f,hf,hm⟩:=T.Ls;refine(fX (k:=5) hf E_ λf cdv A outer s H vs Q E hr h=>?_).mak hm T.j7;obtain⟨y,dy,v,n1,rfl,hy,ty,kk⟩:=h;have nd:=E_.nd;refine⟨_,(aC (bK (Ag (Oo T) hr (aj (pv 0) (aj (iy (vP T) hr (aj (pv 1) ao) (hx:=nj)) ao))))),?_⟩;clear nd;rw[stE]
 try dsimp only[bI,aY,qz]
 rcases kk with⟨n,rfl,side,k⟩|⟨hb,k⟩
 ·have F:SH H [y] H [(y,.ins CT dy [])] []:=SH.nil.fQ List.mem_cons_self hy rfl (by simp)
  repeat k_meth
  exact k x_ dx_ p_ _ F.kpo aH aH aH (F.fresh (LkL.m (o:=.lst _)) (nm1 (SH.neC (F:=F)))) (F.fresh (LkL.m (o:=.ins CH dx_ _)) (nm1 (SH.neC (F:=F))))
 ·have F:=SH.n0 H;have iZ:=om hy;have o_v:gU K H [] v n1:=⟨ty,λ_ _ z=>by cases z⟩;have hm:vO v:=⟨hb⟩
  repeat k_meth
  exact λd H' s e=>k d H' (F.sm.trans s) e
theorem Oq(T:Txt K mg c R CH CP CF CT CN CV CB aD ak):Cdf P w K mg base CX0 1 "Rule" CB "__init__" ["self","book"] (oA CN):=by
 obtain⟨f,hf,hm⟩:=T.FW;refine(fA (k:=0) hf yc λf cdv A outer s H vs Q E hr h=>?_).cdf hm T.lu;obtain⟨y,dy,x,rfl,hy,k⟩:=h;have nd:=yc.nd;refine⟨_,(aC (jg (pv 0) (pv 1) rfl)),?_⟩;clear nd ;rw[stE]
 try dsimp only[bI,aY]
 have F:SH H [y] H [(y,.ins CN dy [])] []:=SH.nil.fQ List.mem_cons_self hy rfl (by simp)
 repeat k_meth
 rw[Cj] at F;exact k _ F.kpo aH
theorem vQ(T:Txt K mg c R CH CP CF CT CN CV CB aD ak):∃tk:Tok,Zu P w K mg base (CX1 P w) 6 "Next" CN ["self","many","mark"] (lD K CN CH (c 0) (c 1)) [.int 0 tk] ["mark","many"]:=by
 obtain⟨tk,f,hf,hm⟩:=T.Lx;refine⟨tk,Iz (ks:=["mark","many"]) hf Fd hm T.Ci (λvs H Q E h=>?_) (λ_ _ _ _ _ _ _=>el3 λ_ _ _=>⟨_,rfl,rfl⟩) (λ_ _ _ _ _ _ _ us hl=>by obtain⟨a,b,rfl⟩:∃a b,us=[a,b]:=len2 (by simpa using hl);exact⟨_,rfl,rfl⟩) (λ_ _ _ _ _ _ _ us ws hl=>by
   have h2:ws.length=2:=by
    unfold w6 at hl;split at hl
    ·assumption
    ·simp at hl
   obtain⟨y,z,rfl⟩:=len2 h2;obtain⟨a,rfl⟩:∃a,us=[a]:=List.length_eq_one_iff.mp (by simpa[w6] using hl);exact⟨_,rfl,rfl⟩) (λf cdv A outer s H vs Q E hr h=>?_)⟩
 ·obtain⟨y,dy,v,w,n1,n2,rfl,_⟩:=h
  rfl
 ·obtain⟨y,dy,v,w,n1,n2,rfl,hy,ty,uy,kk⟩:=h;have nd:=Fd.nd;refine⟨_,(aA (bK (Ag (Oq T) hr (aj (pv 0) (aj (iy (vP T) hr (aj (pv 1) ao) (hx:=nj)) ao))))
   (aA (bB (cD (bN (aK (j8 T) hr (aj (pv 2) (aj aq (aj (pv 1) ao)))))) (aC (jQ T.pQ (nu T.cQ (yu T.cQ.S T.gC) hr (aj (pv 2) ao)))) aR)
   (PSs.nox (aC (jg (pv 0) (pv 2) rfl))))),?_⟩
  clear nd;rw[stE]
  try dsimp only[bI,aY,qz]
  rcases kk with⟨n,t,rfl,rfl,side,k⟩|⟨hb,k⟩|⟨n,rfl,side,hb,k⟩
  ·obtain⟨h16,fD,htn⟩:=side;have F:SH H [y] H [(y,.ins CN dy [])] []:=SH.nil.fQ List.mem_cons_self hy rfl (by simp)
   repeat k_meth
   rw[gN (show (0:Int)<=(t:Int) by lia),gN (show (t:Int)<=(n:Int) by lia)];have nl:(rF x_ none).length<=2:=by unfold rF;simp[d7]
   rw[show (true && true)=true from rfl]
   repeat k_meth
   rw[Z9] at F
   repeat k_meth
   exact k x_ dx_ p_ _ F.kpo aH aH aH (F.fresh (LkL.m (o:=.lst _)) (nm1 (SH.neC (F:=F)))) (F.fresh (LkL.m (o:=.ins CH dx_ _)) (nm1 (SH.neC (F:=F))))
  ·have F:=SH.n0 H;have iZ:=om hy;have o_v:gU K H [] v n1:=⟨ty,λ_ _ z=>by cases z⟩;have o_w:gU K H [] w n2:=⟨uy,λ_ _ z=>by cases z⟩;have hm:vO v:=⟨hb⟩
   repeat k_meth
   exact λd H' s e=>k d H' (F.sm.trans s) e
  ·have F:SH H [y] H [(y,.ins CN dy [])] []:=SH.nil.fQ List.mem_cons_self hy rfl (by simp);have o_w:gU K H [y] w n2:=⟨uy,aad uy hy⟩
   repeat k_meth
   rw[hb]
   repeat k_meth
   exact λd H' s e=>k _ d H' (λb u n e=>s _ _ (F.kpo b u n e)) (s _ _ aH) e
end
theorem oE{c:TT}{tb:TS}{D:Ends}{σ:L2.St}{H:Hp}(Pv:Nat->L2.St->Hp->Prop)(h0:∃m,Pv m σ H)
  (hs:∀m σ H,Pv m σ H->c σ H λb H1=>if b=true then ∃N:L2.St->Hp->Prop,(∀σ' H',N σ' H'->∃m',m'<m/\Pv m' σ' H')/\tb { D with nx:=N,ct:=N,bk:=D.nx } σ H1 else D.nx σ H1):Pr c tb D σ H:=⟨Pv,h0,hs⟩
open M44
def IsR(i:Nat)(r:Nat):Prop:=∃k,r=2 ^ k/\i<=2 ^ k/\(k=0\/2 ^ (k-1)<i)
theorem Tf{i r:Nat}(h1:1<=i)(h:IsR i r):r=i ↔ ∃k,i=2 ^ k:=by
 obtain⟨k,rfl,h2,h3⟩:=h
 constructor
 ·exact λe=>⟨k,e.symm⟩
 ·rintro ⟨j,rfl⟩;have a:=xG h2;rcases h3 with rfl|h3
  ·rw[show j=0 by lia]
  ·have b:=iT h3;rw[show k=j by lia]
theorem Mg{m k:Nat}(h1:2 ^ k<=m)(h2:m<2 ^ (k+1)):2 ^ k=2 ^ Nat.log2 m:=by
 have m0:m≠0:=by have:=pos2 k;lia
 have a:2 ^ Nat.log2 m<=m:=Nat.log2_self_le m0;have b:m<2 ^ (Nat.log2 m+1):=Nat.lt_log2_self;have c:=iT (j:=k) (k:=Nat.log2 m+1) (by lia);have d:=iT (j:=Nat.log2 m) (k:=k+1) (by lia);rw[show k=Nat.log2 m by lia]
theorem eG(ws:xD)(w:Nat×Nat):aF (ws++[w])=aF ws++[[V.int (w.1:Nat),V.int (w.2:Nat)]]:=by unfold aF;rw[List.map_append];rfl
theorem dU{H:Hp}{ws:xD}{ys:List V}{i:Nat}{v:V}(h:aB H ys (aF ws))(e:ys[i]?=some v):∃w q,ws[i]?=some w/\v=.ref q/\H q=some (.tup [.int (w.1:Nat),.int (w.2:Nat)]):=by
 obtain⟨r,q,e1,e2,e3⟩:=dD h e;unfold aF at e1;rw[wS] at e1;cases e4:ws[i]? with
 | none=>rw[e4] at e1;cases e1
 | some w =>
  rw[e4] at e1;cases e1;exact⟨w,q,rfl,e2,e3⟩
theorem aG{H:Hp}{ws:xD}{ys:List V}(h:aB H ys (aF ws)):ys.length=ws.length:=by rw[h.1];unfold aF;rw[List.length_map]
theorem Gv{K:W.Frag}{l:Addr}{ys:List V}{ws:xD}{G:Nat×Nat->V}{te:TE}{σ fvs:L2.St}{fr:List Nat}{H:Hp}{Q:VK}(hq:SqL K H l ys)(tp:aB H ys (aF ws))(hz:ys.length<=1000000)(hf:(fr.map λi=>(σ[i]?).getD none)=fvs)
  (turn:∀(w:Nat×Nat)(q:Addr)(H':Hp)(R:VK),w∈ws->Same H H'->H' q=some (.tup [.int (w.1:Nat),.int (w.2:Nat)])->(∀H2,Same H' H2->R (G w) H2)->te (some (.ref q)::fvs) H' R)
  (k:∀p H',New H H' p (.lst (ws.map G))->Q (.ref p) H'):eZ (Itl K l) 1 fr (bR 0) JL te σ H Q:=by
 refine comp_map (P:=λi y=>∃w,ws[i]?=some w/\y=G w) (d9 (xs:=ys)) hz hf (λH' s=>s.seq hq) (λi v H' R hv s kk=>?_) λp H' zs n hl hP=>k p H' ?_
 ·obtain⟨w,q,e1,rfl,e2⟩:=dU tp hv;exact turn w q H' R (yT e1) s (s _ _ e2) λH2 s2=>kk _ _ s2 ⟨w,e1,rfl⟩
 ·have e:zs=ws.map G:=by
   apply List.ext_getElem?
   intro i;rw[wS];by_cases hi:i<zs.length
   ·obtain⟨v,e1,e2⟩:=hP i zs[i] (by simp);rw[e1,jS hi,e2]
    rfl
   ·rw[mM (by lia),mM (by rw[<- aG tp];lia)]
    rfl
  rw[e] at n;exact n
noncomputable def tr (p:Prop):Bool:=@decide p (Classical.propDecidable p)
theorem Tg{p:Prop}(h:p):tr p=true:=@decide_eq_true p (Classical.propDecidable p) h
theorem Cm{p:Prop}(h:¬ p):tr p=false:=@decide_eq_false p (Classical.propDecidable p) h
theorem vR{p:Prop}:tr p=true ↔ p:=⟨λh=>Classical.byContradiction (λn=>by rw[Cm n] at h;exact gE h (by decide)),Tg⟩
def Jo(w0 w1 a b:Nat):Prop:=w0<=a/\a+b<=w0+w1/\(∃k,b=2 ^ k)/\(a-w0) % b=0
def PcV(n:Nat)(v u:V):Prop:=∃a b:Nat,v=.int (a:Nat)/\u=.int (b:Nat)/\Pc n a b
def FpV(n:Nat)(v u:V)(ts:xD):Prop:=∃a b:Nat,v=.int (a:Nat)/\u=.int (b:Nat)/\Pc n a b/\∀t∈ts,aV a b t=false
theorem Mh{n a b:Nat}{ts:xD}:FpV n (.int (a:Nat)) (.int (b:Nat)) ts ↔ Pc n a b/\∀t∈ts,aV a b t=false:=⟨λ⟨c,d,e1,e2,h⟩=>by
 rw[show a=c by have:=V.int.inj e1;lia,show b=d by have:=V.int.inj e2;lia];exact h,λh=>⟨a,b,rfl,rfl,h⟩⟩
theorem dG{a b:Nat}{w:Nat×Nat}:(decide ((a:Int)<(w.1:Int)+(w.2:Int)) && decide ((w.1:Int)<(a:Int)+(b:Int)))=aV a b w:=by
 rw[Bool.eq_iff_iff,dF,Bool.and_eq_true,decide_eq_true_iff,decide_eq_true_iff]
 lia
def yZ(K:W.Frag):Sp:=λvs H Q _=>Ex8 λ(n:Nat) (v u:V) (t1 t2:String) (l:Addr) (ys:List V) (ts:xD)=>An9 (vs=[.int (n:Nat),v,u,.ref l]) (16<=n) (n<=240) (b_ K H v (.type t1)) (b_ K H u (.type t2)) (H l=some (.lst ys)) (aB H ys (aF ts)) (ts.length<=1000) (∀H',Same H H'->Q (.bl (tr (FpV n v u ts))) H')
instance aae{K:W.Frag}{H:Hp}{Q:VK}{E:XK}{n:Nat}{v u:V}{t1 t2:String}{l:Addr}{ys:List V}{ts:xD}[h:TyA K H v t1][h2:TyA K H u t2][h3:Hat H l (.lst ys)][t:TpA H ys (aF ts)]:Go (yZ K [.int (n:Nat),v,u,.ref l] H Q E) (Sd ((16<=n/\n<=240)/\ts.length<=1000) (∀H',Same H H'->Q (.bl (tr (FpV n v u ts))) H')):=⟨λk=>⟨n,v,u,t1,t2,l,ys,ts,rfl,k.1.1.1,k.1.1.2,h.e,h2.e,h3.e,t.e,k.1.2,k.2⟩⟩
def Ti:Sp:=λvs H Q _=>Ex6 λ(q r:Addr) (w0 w1 a b:Nat)=>An6 (vs=[.ref q,.ref r]) (H q=some (.tup [.int (w0:Nat),.int (w1:Nat)])) (H r=some (.tup [.int (a:Nat),.int (b:Nat)])) (1<=b) (w0+w1<=240) (Q (.bl (tr (Jo w0 w1 a b))) H)
def Gw(K:W.Frag):Sp:=λvs H Q _=>Ex5 λ(n:Nat) (v u:V) (t1 t2:String)=>An6 (vs=[.int (n:Nat),v,u]) (16<=n) (n<=240) (b_ K H v (.type t1)) (b_ K H u (.type t2)) (∀H',Same H H'->Q (.bl (tr (PcV n v u))) H')
theorem Tj{v:V}{lo:Int}(h:rC v lo=true):∃i:Int,v=.int i/\lo<=i:=by
 cases v with
 | int i=>exact⟨i,rfl,by simpa[rC] using h⟩
 | _=>simp[rC] at h
theorem Tn{n:Nat}{v u:V}(h:PcV n v u):rC v 0=true/\rC u 1=true:=by
 obtain⟨a,b,rfl,rfl,k,rfl,_,_⟩:=h;have:=pos2 k;show decide ((0:Int)<=(a:Int))=true/\decide ((1:Int)<=((2 ^ k:Nat):Int))=true;exact⟨gN (by lia),gN (by lia)⟩
theorem WT{n a b:Nat}:PcV n (.int (a:Nat)) (.int (b:Nat)) ↔ Pc n a b:=⟨λ⟨c,d,e1,e2,h⟩=>by
 rw[show a=c by have:=V.int.inj e1;lia,show b=d by have:=V.int.inj e2;lia];exact h,λh=>⟨a,b,rfl,rfl,h⟩⟩
theorem lE{n:Nat}(h:n<=240):Ch n 0 (whF n 0 n):=R6 n 0 8 (by lia) (by rfl) (by lia)
theorem Tp{n:Nat}:∀{s:Nat} {ws:xD},Ch n s ws->ws.length<=n-s:=by
 intro s ws h
 induction h with
 | nil _=>simp
 | @cons s e l h1 h2 h3 h4 _ ih=>have:=pos2 e;simp only[List.length_cons];lia
theorem aaf{n a b:Nat}(h:n<=240):((whF n 0 n).map λw=>tr (Jo w.1 w.2 a b)).any id=tr (PcV n (.int (a:Nat)) (.int (b:Nat))):=by
 rw[Bool.eq_iff_iff,vR,WT];simp only[List.any_eq_true,List.mem_map,id]
 constructor
 ·rintro ⟨_,⟨w,hw,rfl⟩,h2⟩;obtain⟨c1,c2,c3,c4⟩:=vR.mp h2;exact(R8 (lE h) c3).mp ⟨w,hw,c1,c2,c4⟩
 ·intro hp;obtain⟨k,hk,_⟩:=id hp;obtain⟨w,hw,c1,c2,c3⟩:=(R8 (lE h) ⟨k,hk⟩).mpr hp;exact⟨true,⟨w,hw,Tg ⟨c1,c2,⟨k,hk⟩,c3⟩⟩,rfl⟩
instance afD{H:Hp}{Q:VK}{E:XK}{q r:Addr}{w0 w1 a b:Nat}[h:Hat H q (.tup [.int (w0:Nat),.int (w1:Nat)])][h2:Hat H r (.tup [.int (a:Nat),.int (b:Nat)])]:Go (Ti [.ref q,.ref r] H Q E) (Sd (1<=b/\w0+w1<=240) (Q (.bl (tr (Jo w0 w1 a b))) H)):=⟨λk=>⟨q,r,w0,w1,a,b,rfl,h.e,h2.e,k.1.1,k.1.2,k.2⟩⟩
instance aaX{K:W.Frag}{H:Hp}{Q:VK}{E:XK}{n:Nat}{v u:V}{t1 t2:String}[h:TyA K H v t1][h2:TyA K H u t2]:Go (Gw K [.int (n:Nat),v,u] H Q E) (Sd (16<=n/\n<=240) (∀H',Same H H'->Q (.bl (tr (PcV n v u))) H')):=⟨λk=>⟨n,v,u,t1,t2,rfl,k.1.1,k.1.2,h.e,h2.e,k.2⟩⟩
def vU:Sp:=λvs H Q _=>∃i:Nat,An4 (vs=[.int (i:Nat)]) (1<=i) (i<=1000000000000000000000000000000000) (∀r,IsR i r->Q (.int (r:Nat)) H)
def Mi:Sp:=λvs H Q _=>∃m:Nat,An4 (vs=[.int (m:Nat)]) (1<=m) (m<=1000) (Q (.int ((2 ^ Nat.log2 m:Nat):Int)) H)
def za:Sp:=λvs H Q _=>∃n:Nat,An4 (vs=[.int (n:Nat)]) (16<=n) (n<=240) (∀(p:Addr)(ys:List V)(H':Hp),New H H' p (.lst ys)->aB H' ys (aF (whF n 0 n))->Q (.ref p) H')
instance aag{H:Hp}{Q:VK}{E:XK}{i:Nat}:Go (vU [.int (i:Nat)] H Q E) (Sd (1<=i/\i<=1000000000000000000000000000000000) (∀r,IsR i r->Q (.int (r:Nat)) H)):=⟨λk=>⟨i,rfl,k.1.1,k.1.2,k.2⟩⟩
instance adX{H:Hp}{Q:VK}{E:XK}{m:Nat}:Go (Mi [.int (m:Nat)] H Q E) (Sd (1<=m/\m<=1000) (Q (.int ((2 ^ Nat.log2 m:Nat):Int)) H)):=⟨λk=>⟨m,rfl,k.1.1,k.1.2,k.2⟩⟩
instance aaY{H:Hp}{Q:VK}{E:XK}{n:Nat}:Go (za [.int (n:Nat)] H Q E) (Sd (16<=n/\n<=240) (∀(p:Addr)(ys:List V)(H':Hp),New H H' p (.lst ys)->aB H' ys (aF (whF n 0 n))->Q (.ref p) H')):=⟨λk=>⟨n,rfl,k.1.1,k.1.2,k.2⟩⟩
def Gx:Sp:=λvs H Q _=>Ex6 λ(p q:Addr) (a b c d:Int)=>An4 (vs=[.ref p,.ref q]) (H p=some (.tup [.int a,.int b])) (H q=some (.tup [.int c,.int d])) (Q (.bl (decide (a<c+d) && decide (c<a+b))) H)
section
variable{p q:Addr}{a b c d:Int}{H:Hp}{Q:VK}{E:XK}
instance acI[h:Hat H p (.tup [.int a,.int b])][h2:Hat H q (.tup [.int c,.int d])]:Go (Gx [.ref p,.ref q] H Q E) (Q (.bl (decide (a<c+d) && decide (c<a+b))) H):=⟨λk=>⟨p,q,a,b,c,d,rfl,h.e,h2.e,k⟩⟩
end
section
variable{P:Program}{w:World}{K:W.Frag}{mg:xC}{base:Heap}{c:Nat->Addr}{aD ak R CH CP CF CT CN CV CB:Addr}
theorem gD(T:Txt K mg c R CH CP CF CT CN CV CB aD ak):Def P w K mg base CX0 2 "share_cells" ["one","other"] Gx:=by
 refine dA T.KY Ei λf cdv A outer s H vs Q E hr h=>?_
 obtain⟨p,q,a,b,c,d,rfl,hp,hq,k⟩:=h;have nd:=Ei.nd;refine⟨_,(aC (aL (fL (cM mW (aW bA (pv 0) aq (λ_ _=>rfl)) (aK (gZ T) hr (aj (pv 1) ao)) (aO _)) (fK (cM mW (aW bA (pv 1) aq (λ_ _=>rfl)) (aK (gZ T) hr (aj (pv 0) ao)) (aO _)))))),?_⟩;clear nd;rw[stE]
 try dsimp only[bI,aY]
 have Gj:=om hp;have Cp:=om hq;have F:=SH.n0 H
 repeat k_meth
 refine cC (λh=>?_) (λh=>?_)
 ·repeat k_meth
  rw[gN h,Bool.true_and] at k;exact k
 ·rw[gL h,Bool.false_and] at k;exact k
theorem pZ(T:Txt K mg c R CH CP CF CT CN CV CB aD ak):Def P w K mg base CX0 3 "rounded" ["size"] vU:=by
 refine dA T.yF uH λf cdv A outer s H vs Q E hr h=>?_
 obtain⟨i,rfl,i1,i2,k⟩:=h;have nd:=uH.nd;refine⟨_,(aA (bB (cD (bN (aK (gH T) hr (aj (pv 0) (aj aq ao))))) kI aR)
  (aA (psz 1 nd aq)
  (aA (jH PassesOwn.never (aN mW (pv 1) (pv 0) (aO _)) (aC (psz 1 nd (aM dg (pv 1) aq))))
  (aC (aL (pv 1)))))),?_⟩
 clear nd;rw[stE]
 try dsimp only[bI,aY]
 have F:=SH.n0 H
 repeat k_meth
 refine oE (λm σ' H'=>∃j:Nat,An4 (σ'=[some (.int (i:Nat)),some (.int ((2 ^ j:Nat):Int))]) (m=2*i-2 ^ j) ((j=0\/2 ^ (j-1)<i)) (H=H')) ⟨_,0,rfl,rfl,.inl rfl,rfl⟩ ?_;clear F;rintro m σ' _ ⟨j,rfl,rfl,hj,rfl⟩;have F:=SH.n0 H;have pj:=pos2 j;have jle:2 ^ j<=2*i:=by
  rcases hj with rfl|hj
  ·lia
  ·cases j with
   | zero=>lia
   | succ j=>have:=fH j;simp only[Nat.add_sub_cancel] at hj;lia
 have dbl:((2 ^ j:Nat):Int)*2=((2 ^ (j+1):Nat):Int):=by have:=fH j;lia
 have d2:=fH j
 generalize hw:(2 ^ j:Nat)=wj at *
 repeat k_meth
 refine cC (λh=>?_) (λh=>?_)
 ·refine⟨λσ' H'=>∃m',m'<_/\_,λσ' H' h=>h,?_⟩
  repeat k_meth
  rw[dbl];exact⟨2*i-2 ^ (j+1),by lia,j+1,rfl,rfl,.inr (by simp only[Nat.add_sub_cancel];lia),rfl⟩
 ·repeat k_meth
  exact k _ ⟨j,hw.symm,by lia,by rcases hj with hj|hj;exact .inl hj;exact .inr hj⟩
theorem aah(T:Txt K mg c R CH CP CF CT CN CV CB aD ak):Def P w K mg base CX0 1 "greatest_power" ["most"] Mi:=by
 refine dA T.Sv KH λf cdv A outer s H vs Q E hr h=>?_
 obtain⟨m,rfl,m1,m2,k⟩:=h;have nd:=KH.nd;refine⟨_,(aA (psz 1 nd aq)
  (aA (jH PassesOwn.never (aN h_ (aM dg (pv 1) aq) (pv 0) (aO _)) (aC (psz 1 nd (aM dg (pv 1) aq))))
  (aC (aL (pv 1))))),?_⟩
 clear nd ;rw[stE]
 try dsimp only[bI,aY]
 have F:=SH.n0 H
 repeat k_meth
 refine oE (λl σ' H'=>∃j:Nat,An4 (σ'=[some (.int (m:Nat)),some (.int ((2 ^ j:Nat):Int))]) (l=m-2 ^ j) (2 ^ j<=m) (H=H')) ⟨_,0,rfl,rfl,by simpa using m1,rfl⟩ ?_;clear F;rintro l σ' _ ⟨j,rfl,rfl,hj,rfl⟩;have F:=SH.n0 H;have pj:=pos2 j;have dbl:((2 ^ j:Nat):Int)*2=((2 ^ (j+1):Nat):Int):=by have:=fH j;lia
 have d2:=fH j;have fin:¬ (2 ^ (j+1)<=m)->2 ^ j=2 ^ Nat.log2 m:=λh=>Mg hj (by lia)
 generalize hw:(2 ^ j:Nat)=wj at *
 repeat k_meth
 refine cC (λh=>?_) (λh=>?_)
 ·refine⟨λσ' H'=>∃m',m'<_/\_,λσ' H' h=>h,?_⟩
  repeat k_meth
  rw[dbl];exact⟨m-2 ^ (j+1),by lia,j+1,rfl,rfl,by lia,rfl⟩
 ·repeat k_meth
  rw[fin (by lia)];exact k
theorem Gy(T:Txt K mg c R CH CP CF CT CN CV CB aD ak):Def P w K mg base CX0 4 "wholes_of" ["many"] za:=by
 refine dA T.Ft xO λf cdv A outer s H vs Q E hr h=>?_
 obtain⟨n,rfl,n1,n2,k⟩:=h;have nd:=xO.nd;refine⟨_,(aA (bB (cD (bN (aK (lA T) hr (aj (pv 0) ao)))) kI aR)
  (aA (psz 1 nd (aU ao))
  (aA (psz 2 nd aq)
  (aA (jH PassesOwn.never (aN mW (pv 2) (pv 0) (aO _)) (aA (psz 3 nd (bw (aj (pv 2) (aj (aK (aah T) hr (aj (aM oR (pv 0) (pv 2)) ao)) ao))))
   (aA (bK (cA (pv 1) (pv 3)))
   (aC (psz 2 nd (aK (gZ T) hr (aj (pv 3) ao)))))))
  (aC (aL (pv 1))))))),?_⟩
 clear nd;rw[stE]
 try dsimp only[bI,aY]
 have F:=SH.n0 H
 repeat k_meth
 rw[gN (show (16:Int)<=(n:Int) by lia),gN (show (n:Int)<=240 by lia),show (true && true)=true from rfl]
 repeat k_meth
 obtain⟨pw,e_⟩:∃q,q=p_:=⟨_,rfl⟩;subst e_;refine oE (λl σ' H'=>Ex5 λ(st:Nat) (f:Nat) (ws:xD) (ys:List V) (o3:Option V)=>An8 (σ'=[some (.int (n:Nat)),some (.ref pw),some (.int (st:Nat)),o3]) (l=n-st) (n-st<=f) (st+ws.length<=2*st) (st<=n) (whF n 0 n=ws++whF f st n) (ys.length=ws.length) (SH H [] H' [(pw,.lst ys)] [.tps ys (aF ws)])) ⟨_,0,n,[],[],none,rfl,rfl,by lia,by simp,by lia,rfl,rfl,(F.bQ (ys:=[]) (rs:=aF []) aB.nil).sub SbC.s SbI.s⟩ ?_;clear F;rintro l σ' H' ⟨st,f,ws,ys,_,rfl,rfl,hf,hl,hn,ew,yl,F⟩
 repeat k_meth
 refine cC (λh=>?_) (λh=>?_)
 ·have hlt:st<n:=by lia
  obtain⟨f,rfl⟩:∃g,f=g+1:=⟨f-1,by lia⟩;rw[whF,zS hlt] at ew;have a1:2 ^ Nat.log2 (n-st)<=n-st:=Nat.log2_self_le (by lia);have a2:=pos2 (Nat.log2 (n-st));refine⟨λσ' H'=>∃m',m'<_/\_,λσ' H' h=>h,?_⟩
  repeat k_meth
  rw[show (n:Int)-(st:Int)=((n-st:Nat):Int) by lia]
  generalize hw:2 ^ Nat.log2 (n-st)=wz at *
  repeat k_meth
  rw[hw] at F ⊢;rw[show (st:Int)+(wz:Int)=((st+wz:Nat):Int) by lia];have tt:aB H_ (ys++[.ref p_]) (aF (ws++[(st,wz)])):=by
   rw[eG];exact aB.snoc TpA.e aH
  exact⟨n-(st+wz),by lia,st+wz,f,ws++[(st,wz)],ys++[.ref p_],_,rfl,rfl,by lia,by rw[List.length_append];simp only[List.length_cons,List.length_nil];lia,by lia,by rw[ew,List.append_assoc];rfl,by rw[List.length_append,List.length_append,yl];rfl,(F.bQ tt).sub SbC.s SbI.s⟩
 ·have e0:whF f st n=[]:=by
   cases f with
   | zero=>rfl
   | succ f=>rw[whF,yA (by lia)]
  rw[e0,nX] at ew
  repeat k_meth
  rw[ew] at k;exact k _ ys _ SH.nwC TpA.e
theorem acJ(T:Txt K mg c R CH CP CF CT CN CV CB aD ak):Def P w K mg base CX0 4 "is_cut_from" ["whole","piece"] Ti:=by
 refine dA T.X7 Sh λf cdv A outer s H vs Q E hr h=>?_
 obtain⟨q,r,w0,w1,a,b,rfl,hq,hr_,b1,w2,k⟩:=h;have nd:=Sh.nd;refine⟨_,(aA (bB (PW.pt (dH (aN mW (aW bA (pv 1) aq (λ_ _=>rfl)) (aW bA (pv 0) aq (λ_ _=>rfl)) (aO _)) (fJ (aN JC (aK (gZ T) hr (aj (pv 1) ao)) (aK (gZ T) hr (aj (pv 0) ao)) (aO _))))) (aC (aL cZ)) aR)
  (aC (aL (fL (cM gh (aK (pZ T) hr (aj (aW bA (pv 1) aq (λ_ _=>rfl)) ao)) (aW bA (pv 1) aq (λ_ _=>rfl)) (aO _)) (fK (cM gh (aM bV (aM oR (aW bA (pv 1) aq (λ_ _=>rfl)) (aW bA (pv 0) aq (λ_ _=>rfl))) (aW bA (pv 1) aq (λ_ _=>rfl))) aq (aO _))))))),?_⟩
 clear nd;rw[stE]
 try dsimp only[bI,aY]
 have Cp:=om hq;have o_hr_:=om hr_;have F:=SH.n0 H
 repeat k_meth
 refine cC (λh=>?_) (λh=>?_)
 ·repeat k_meth
  rw[Cm (λz=>by have:=z.1;lia)] at k;exact k
 repeat k_meth
 refine cC (λh2=>?_) (λh2=>?_)
 ·repeat k_meth
  rw[Cm (λz=>by have:=z.2.1;lia)] at k;exact k
 repeat k_meth
 intro r2 hr2;have rs:=Tf b1 hr2
 repeat k_meth
 refine cC (λh3=>?_) (λh3=>?_)
 ·have e1:∃k,b=2 ^ k:=rs.mp (by lia)
  repeat k_meth
  have e2:((a:Int)-(w0:Int)) % (b:Int)=(((a-w0) % b:Nat):Int):=by rw[show (a:Int)-(w0:Int)=((a-w0:Nat):Int) by lia];rfl
  rw[e2];rw[show tr (Jo w0 w1 a b)=decide ((((a-w0) % b:Nat):Int)=0) by
   rw[Bool.eq_iff_iff,vR,decide_eq_true_iff];exact⟨λz=>by have:=z.2.2.2;lia,λz=>⟨by lia,by lia,e1,by lia⟩⟩] at k
  exact k
 ·repeat k_meth
  rw[Cm (λz=>h3 (by have:=rs.mpr z.2.2.1;lia))] at k;exact k
theorem WW(T:Txt K mg c R CH CP CF CT CN CV CB aD ak):Def P w K mg base CX0 5 "is_piece" ["many","start","size"] (Gw K):=by
 refine dA T.KZ Ej λf cdv A outer s H vs Q E hr h=>?_
 obtain⟨n,v,u,t1,t2,rfl,n1,n2,ty,uy,k⟩:=h;have nd:=Ej.nd;refine⟨_,(aA (bB (PW.pt (dH (cD (bN (aK (lA T) hr (aj (pv 0) ao)))) (dH (cD (bN (aK (gH T) hr (aj (pv 1) (aj aq ao))))) (fJ (cD (bN (aK (gH T) hr (aj (pv 2) (aj aq ao))))))))) (aC (aL cZ)) aR)
  (aC (aL (bH (Dc rfl) rfl T.SN boot_any (aj (ji (N:=["whole","start","size"]) (nt:=1) (fr:=[1,2]) (cj (aK (Gy T) hr (aj (pv 0) ao))) (λ_ _ _ _=>(cN (i:=0) (show (["whole","start","size"]:List Str).Nodup from by decide +kernel) rfl (Or.inl rfl))) (λ_ _ _ _=>zM) (λ_ _ _ _=>(aK (acJ T) hr (aj (pv 0) (aj (bw (aj (pv 1) (aj (pv 2) ao))) ao))))) ao))))),?_⟩
 clear nd;rw[stE]
 try dsimp only[bI,aY]
 have F:=SH.n0 H;have o_v:gU K H [] v t1:=⟨ty,λ_ _ z=>by cases z⟩;have o_u:gU K H [] u t2:=⟨uy,λ_ _ z=>by cases z⟩
 repeat k_meth
 rw[gN (show (16:Int)<=(n:Int) by lia),gN (show (n:Int)<=240 by lia),show (true && true)=true from rfl]
 repeat k_meth
 by_cases e1:rC v 0=true
 ·rw[e1]
  repeat k_meth
  by_cases e2:rC u 1=true
  ·rw[e2];obtain⟨i,rfl,hi⟩:=Tj e1;obtain⟨j,rfl,hj⟩:=Tj e2;obtain⟨a,rfl⟩:∃a:Nat,i=(a:Int):=⟨i.toNat,by lia⟩;obtain⟨b,rfl⟩:∃b:Nat,j=(b:Int):=⟨j.toNat,by lia⟩
   repeat k_meth
   refine Gv (ws:=whF n 0 n) (G:=λw=>.bl (tr (Jo w.1 w.2 a b))) (fvs:=[some (.int (a:Nat)),some (.int (b:Nat))]) SqA.e TpA.e (by have:=Tp (lE n2);lia) rfl (λw q H' R hw s hq kk=>?_) λz H2 nw=>?_
   ·obtain⟨e,he,_,hle,_⟩:=R7 (lE n2) w hw;have lew:w.1+w.2<=240:=by rw[he];lia
    clear F;have F:SH H' [] H' [] []:=SH.nil;have o_q:=om hq
    repeat k_meth
    exact kk _ F.sm
   ·rw[show (whF n 0 n).map (λw=>V.bl (tr (Jo w.1 w.2 a b)))=((whF n 0 n).map λw=>tr (Jo w.1 w.2 a b)).map V.bl by rw[List.map_map];rfl] at nw;replace F:=F.newL nw
    repeat k_meth
    refine⟨z,_,rfl,SqA.e,?_⟩;rw[aaf n2];exact k _ F.sm
  ·have e2:rC u 1=false:=by simpa using e2
   rw[e2];rw[Cm (λz=>by rw[(Tn z).2] at e2;cases e2)] at k
   repeat k_meth
   exact k _ F.sm
 ·have e1:rC v 0=false:=by simpa using e1
  rw[e1];rw[Cm (λz=>by rw[(Tn z).1] at e1;cases e1)] at k
  repeat k_meth
  exact k _ F.sm
theorem Tq(T:Txt K mg c R CH CP CF CT CN CV CB aD ak):Def P w K mg base CX0 6 "is_free_piece" ["many","start","size","taken"] (yZ K):=by
 refine dA T.Fv xP λf cdv A outer s H vs Q E hr h=>?_
 obtain⟨n,v,u,t1,t2,l,ys,ts,rfl,n1,n2,ty,uy,hl,tp,fw,k⟩:=h;have nd:=xP.nd;refine⟨_,(aA (bB (cD (bN (aK (WW T) hr (aj (pv 0) (aj (pv 1) (aj (pv 2) ao)))))) (aC (aL cZ)) aR)
  (aC (aL (GX (bH (Dc rfl) rfl T.SN boot_any (aj (ji (N:=["piece","start","size"]) (nt:=1) (fr:=[1,2]) (cj (pv 3)) (λ_ _ _ _=>(cN (i:=0) (show (["piece","start","size"]:List Str).Nodup from by decide +kernel) rfl (Or.inl rfl))) (λ_ _ _ _=>zM) (λ_ _ _ _=>(aK (gD T) hr (aj (bw (aj (pv 1) (aj (pv 2) ao))) (aj (pv 0) ao))))) ao)))))),?_⟩
 clear nd;rw[stE]
 try dsimp only[bI,aY]
 have dB:=om hl;have jw:=jC.mk tp;have F:=SH.n0 H;have o_v:gU K H [] v t1:=⟨ty,λ_ _ z=>by cases z⟩;have o_u:gU K H [] u t2:=⟨uy,λ_ _ z=>by cases z⟩;have yl:=aG tp
 repeat k_meth
 by_cases e:PcV n v u
 ·rw[Tg e];obtain⟨a,b,rfl,rfl,pc⟩:=id e
  repeat k_meth
  refine Gv (ws:=ts) (G:=λw=>.bl (aV a b w)) (fvs:=[some (.int (a:Nat)),some (.int (b:Nat))]) SqA.e TpA.e (by lia) rfl (λw q H' R hw s hq kk=>?_) λz H2 nw=>?_
  ·clear F;have F:SH H' [] H' [] []:=SH.nil;have o_q:=om hq
   repeat k_meth
   rw[dG];exact kk _ F.sm
  ·rw[show ts.map (λw=>V.bl (aV a b w))=(ts.map λw=>aV a b w).map V.bl by rw[List.map_map];rfl] at nw;replace F:=F.newL nw
   repeat k_meth
   refine⟨z,_,rfl,SqA.e,?_⟩
   repeat k_meth
   rw[show tr (FpV n (.int (a:Nat)) (.int (b:Nat)) ts)=!((ts.map λw=>aV a b w).any id) by
    rw[Bool.eq_iff_iff,vR,Mh];simp only[Bool.not_eq_true',List.any_eq_false,List.mem_map,id];exact⟨λh x ⟨w,hw,e⟩=>by rw[<- e,h.2 w hw];decide,λh=>⟨pc,λw hw=>by have:=h _ ⟨w,hw,rfl⟩;simpa using this⟩⟩] at k
   exact k _ F.sm
 ·rw[Cm e];rw[Cm (λ⟨a,b,e1,e2,h,_⟩=>e ⟨a,b,e1,e2,h⟩)] at k
  repeat k_meth
  exact k _ F.sm
end
open PySem.Spec PySem.SeqAt M44
theorem Gz{a b c d:Nat}(h:([.int (a:Nat),.int (b:Nat)]:List V)=[.int (c:Nat),.int (d:Nat)]):(a,b)=(c,d):=by
 simp only[List.cons.injEq,V.int.injEq,and_true] at h;exact Prod.ext (show a=c by lia) (show b=d by lia)
def afE(K:W.Frag):R2:=λx y H Q=>∃(q l:Addr)(ys:List V)(a b:Nat)(ts:xD),x=.ref q/\y=.ref l/\H q=some (.tup [.int (a:Nat),.int (b:Nat)])/\SqL K H l ys/\aB H ys (aF ts)/\Q (.bl (decide ((a,b)∈ts))) H
theorem j_{X:Cx}{K:W.Frag}{k:Nat}(hK:X.K=K)(hr:Room k X.A):OpR X (compareOp .In) (afE K):=by
 subst hK;intro pins s σ H x y v u Q I rx ry h;obtain⟨q,l,ys,a,b,ts,rfl,rfl,hq,hl,tp,h⟩:=h;cases rx;cases ry;obtain⟨its,rv,pl,hz⟩:=I.list hl;have hi:∀i z,its[i]?=some z->∃(w:Nat×Nat)(q':Addr),ts[i]?=some w/\z=Value.ref q'/\H q'=some (.tup [.int (w.1:Nat),.int (w.2:Nat)]):=λi z e=>by
  have hlen:=rv.length;have hi:i<ys.length:=by rw[hlen];exact(jI.mp e).1
  obtain⟨w,q',e1,e2,e3⟩:=dU tp (i:=i) (v:=ys[i]) (jS hi);obtain⟨u,hu,ru⟩:=rv.get (i:=i) (x:=ys[i]) (by simp);rw[e] at hu;cases hu;rw[e2] at ru;exact⟨w,q',e1,ru,e3⟩
 let e:Value->Bool:=λz=>tr (∃q',z=Value.ref q'/\H q'=some (.tup [.int (a:Nat),.int (b:Nat)]))
 have he:∀(q':Addr)(w:Nat×Nat),H q'=some (.tup [.int (w.1:Nat),.int (w.2:Nat)])->e (Value.ref q')=decide (w=(a,b)):=λq' w hw=>by
  show tr _=_;rw[Bool.eq_iff_iff,vR,decide_eq_true_iff]
  constructor
  ·rintro ⟨q2,e1,e2⟩;cases e1;rw[hw] at e2;exact Gz (HO.tup.inj (oQ e2))
  ·rintro rfl;exact⟨q',rfl,hw⟩
 have rp:∀(q':Addr)(c d:Nat),H q'=some (.tup [.int (c:Nat),.int (d:Nat)])->Rep X.K H (.tup [.int (c:Nat),.int (d:Nat)]) (.ref q'):=λq' c d hw=>by
  simp only[Rep];exact⟨q',_,rfl,SqT.of hw,by simp[cG,Rep]⟩
 refine in_listAt e pl.isList (λz hz=>?_) ⟨.bl _,H,I,rfl,?_⟩
 ·obtain⟨i,hi2,ez⟩:=List.getElem_of_mem (show z∈its by simpa using hz);obtain⟨w,q',e1,rfl,e3⟩:=hi i z (by rw[<- ez];simp);have hE:=(eq3 I 50 X.A.in1 _ _ _ _ (.ref q') (.ref q) (by have:=hr.un;show X.A.units+1+50<_;lia) (by simp[gA,eO]) (rp q' _ _ e3) (rp q _ _ hq) rfl rfl);rw[he q' w e3];have e4:fB (.tup [.int (w.1:Nat),.int (w.2:Nat)]) (.tup [.int (a:Nat),.int (b:Nat)])=decide (w=(a,b)):=by
   simp only[fB,eN,Bool.and_true];rw[Bool.eq_iff_iff,decide_eq_true_iff,Bool.and_eq_true]
   constructor
   ·rintro ⟨h1,h2⟩;have h1:(w.1:Int)=(a:Int):=by simpa using h1
    have h2:(w.2:Int)=(b:Int):=by simpa using h2
    exact Prod.ext (show w.1=a by lia) (show w.2=b by lia)
   ·rintro rfl;simp
  rw[<- e4];exact hE.eq
 ·have e5:its.toArray.any e=decide ((a,b)∈ts):=by
   rw[Bool.eq_iff_iff,decide_eq_true_iff];simp only[List.any_toArray,List.any_eq_true]
   constructor
   ·rintro ⟨z,hz,ez⟩;obtain⟨i,hi2,ez2⟩:=List.getElem_of_mem hz;obtain⟨w,q',e1,rfl,e3⟩:=hi i z (by rw[<- ez2];simp);rw[he q' w e3,decide_eq_true_iff] at ez;rw[<- ez];exact yT e1
   ·intro hm;obtain⟨i,hi2,ew⟩:=List.getElem_of_mem hm;have hl2:i<its.length:=by rw[<- rv.length,aG tp];exact hi2
    obtain⟨w,q',e1,e2,e3⟩:=hi i its[i] (by simp);refine⟨its[i],List.getElem_mem hl2,?_⟩;rw[e2,he q' w e3,decide_eq_true_iff];rw[jS hi2,ew] at e1;exact(oQ e1).symm
  rw[e5];exact h
theorem vV{H H':Hp}(s:Same H H'){p:V->Bool}{pr:Nat×Nat->Bool}(hp:∀(q:Addr)(w:Nat×Nat),H q=some (.tup [.int (w.1:Nat),.int (w.2:Nat)])->p (.ref q)=pr w):∀{xs:List V} {ws:xD},aB H xs (aF ws)->aB H' (xs.filter p) (aF (ws.filter pr))
 | [],[],h=>⟨rfl,λj r e=>by simp[aF] at e⟩
 | [],w::ws,h=>absurd h.1 (by simp[aF])
 | x::xs,[],h=>absurd h.1 (by simp[aF])
 | x::xs,w::ws,h=>by
  obtain⟨q,e1,e2⟩:=h.2 0 [.int (w.1:Nat),.int (w.2:Nat)] rfl;have ht:aB H xs (aF ws):=⟨by simpa[aF] using h.1,λj r e=>h.2 (j+1) r (by simpa[aF] using e)⟩;cases e1;have ih:=vV s hp ht;rw[List.filter_cons,List.filter_cons,hp q w e2];cases pr w with
  | false=>exact ih
  | true =>
   refine⟨by have:=ih.1;simpa[aF] using this,λj r e=>?_⟩;cases j with
   | zero =>
    cases e;exact⟨q,rfl,s _ _ e2⟩
   | succ j=>exact ih.2 j r (by simpa[aF] using e)
theorem eX{K:W.Frag}{l:Addr}{xs:List V}{ws:xD}{pr:Nat×Nat->Bool}{c:TT}{σ fvs:L2.St}{fr:List Nat}{H:Hp}{Q:VK}(hq:SqL K H l xs)(tp:aB H xs (aF ws))(hz:xs.length<=1000000)(hf:(fr.map λi=>(σ[i]?).getD none)=fvs)
  (turn:∀(q:Addr)(w:Nat×Nat)(H':Hp)(R:Bool->Hp->Prop),w∈ws->Same H H'->H' q=some (.tup [.int (w.1:Nat),.int (w.2:Nat)])->(∀H2,Same H' H2->R (pr w) H2)->c (some (.ref q)::fvs) H' R)
  (k:∀l' ys H',New H H' l' (.lst ys)->aB H' ys (aF (ws.filter pr))->Q (.ref l') H'):eZ (Itl K l) 1 fr (bR 0) c (dI 0) σ H Q:=by
 let p:V->Bool:=λv=>match v with|.ref q=>tr (∃w:Nat×Nat,H q=some (.tup [.int (w.1:Nat),.int (w.2:Nat)])/\pr w=true)|_=>false
 have hp:∀(q:Addr)(w:Nat×Nat),H q=some (.tup [.int (w.1:Nat),.int (w.2:Nat)])->p (.ref q)=pr w:=λq w e=>by
  show tr _=pr w;cases h:pr w with
  | true=>exact Tg ⟨w,e,h⟩
  | false =>
   refine Cm λ⟨s,e2,h2⟩=>?_
   rw[e] at e2;have:=Gz (HO.tup.inj (oQ e2));rw[show s=w from this.symm,h] at h2;cases h2
 refine DK (p:=p) hq hz hf (λv H' R hv s kk=>?_) λl' H' n=>k l' _ H' n (vV n.s hp tp)
 obtain⟨i,hi,e⟩:=List.getElem_of_mem hv;obtain⟨w,q,e1,rfl,e2⟩:=dU tp (i:=i) (v:=v) (by rw[<- e];simp);exact turn q w H' R (yT e1) s (s _ _ e2) λH2 s2=>by rw[<- hp q w e2];exact kk H2 s2
theorem cB{H:Hp}{xs ys:List V}{a b:xD}(h:aB H xs (aF a))(h2:aB H ys (aF b)):aB H (xs++ys) (aF (a++b)):=by
 have e:aF (a++b)=aF a++aF b:=by unfold aF;rw[List.map_append]
 rw[e];refine⟨by rw[yB,yB,h.1,h2.1],λj r er=>?_⟩;rcases Nat.lt_or_ge j (aF a).length with hj|hj
 ·rw[yY hj] at er;obtain⟨q,e1,e2⟩:=h.2 j r er;exact⟨q,by rw[yY (by rw[h.1];exact hj)];exact e1,e2⟩
 ·rw[oP hj] at er;obtain⟨q,e1,e2⟩:=h2.2 _ r er;exact⟨q,by rw[oP (by rw[h.1];exact hj),h.1];exact e1,e2⟩
theorem cI:∀(k s:Nat)(ts:xD),(fwF k s ts).length<=2 ^ k
 | 0,s,ts=>by unfold fwF;split <;> simp
 | k+1,s,ts=>by
  have e:=fH k;have p:=pos2 k;unfold fwF;split
  ·simp only[List.length_cons,List.length_nil];lia
  ·split
   ·simp
   ·rw[yB];have a:=cI k s (ts.filter (aV s (2 ^ (k+1))));have b:=cI k (s+2 ^ k) (ts.filter (aV s (2 ^ (k+1))))
    lia
theorem WX{tk:Nat->Bool}{s:Nat}{ts:xD}(ok:Ok tk s 0 ts)(he:ts.filter (aV s (2 ^ 0))≠[]):(s,2 ^ 0)∈ts.filter (aV s (2 ^ 0)):=by
 obtain⟨t,ht⟩:=List.exists_mem_of_ne_nil _ he;obtain⟨h1,h2⟩:=List.mem_filter.mp ht;obtain⟨h3,h4⟩:=dF.mp h2;obtain⟨h5,h6,j,h7,h8⟩:=ok.nest t h1 h3 h4;have hj:=pos2 j;have:t=(s,2 ^ 0):=by
  apply Prod.ext
  ·show t.1=s;simp only[Nat.pow_zero] at h4 h6
   lia
  ·show t.2=2 ^ 0;simp only[Nat.pow_zero] at h4 h6 ⊢
   lia
 rw[this] at ht;exact ht
theorem jx{k s:Nat}{ts:xD}(e1:ts.filter (aV s (2 ^ (k+1)))≠[])(hm:(s,2 ^ (k+1)) ∉ ts.filter (aV s (2 ^ (k+1)))):fwF (k+1) s ts=fwF k s (ts.filter (aV s (2 ^ (k+1))))++fwF k (s+2 ^ k) (ts.filter (aV s (2 ^ (k+1)))):=by rw[fwF,yA e1,yA hm]
def acK:Sp:=λ_ _ _ _=>False
def qY(k:Nat):Sp:=λvs H Q _=>Ex5 λ(q l:Addr) (ys:List V) (ts:xD) (s:Nat)=>An8 (vs=[.ref q,.ref l]) (H q=some (.tup [.int (s:Nat),.int ((2 ^ k:Nat):Int)])) (H l=some (.lst ys)) (aB H ys (aF ts)) (ts.length<=1000) (s+2 ^ k<=1000) ((∃tk,Ok tk s k ts)) (∀p zs H',New H H' p (.lst zs)->aB H' zs (aF (fwF k s ts))->Q (.ref p) H')
section
variable{P:Program}{w:World}{K:W.Frag}{mg:xC}{base:Heap}{c:Nat->Addr}{aD ak R CH CP CF CT CN CV CB:Addr}
theorem vW(T:Txt K mg c R CH CP CF CT CN CV CB aD ak):Def P w K mg base CX0 5 "free_within" ["piece","taken"] acK:=by
 refine Qh T.cW bO (λvs H Q E h=>h.elim) (λ_ _ _ _ _ _=>el2 λ_ _=>rfl) (λf cdv A outer s H vs Q E hr h=>h.elim)
theorem mF(T:Txt K mg c R CH CP CF CT CN CV CB aD ak):Def P w K mg base CX0 6 "free_within" ["piece","taken"] (qY 0):=by
 refine dA T.cW bO λf cdv A outer s H vs Q E hr h=>?_
 obtain⟨q,l,ys,ts,s,rfl,hq,hl,tp,fw,s1,ok,k⟩:=h;have nd:=bO.nd;refine⟨_,(aA (iu (i:=2) nd rfl (Or.inl rfl) (N:=["one","piece"]) (nt:=1) (fr:=[0]) (cj (pv 1)) (λ_ _ _ _=>(cN (i:=0) (show (["one","piece"]:List Str).Nodup from by decide +kernel) rfl (Or.inl rfl))) (λ_ _ _ _=>dW (bN (aK (gD T) hr (aj (pv 1) (aj (pv 0) ao))))) (λ_ _ _ _=>(pv 0)))
  (aA (bB (aN (jV hr) (pv 2) (aU ao) (aO _)) (aC (aL (aU (aj (pv 0) ao)))) aR)
  (aA (bB (aN (j_ (K:=K) rfl hr) (pv 0) (pv 2) (by with_unfolding_all rfl)) (aC (aL (aU ao))) aR)
  (aA (psz 3 nd (aM cu (aW bA (pv 0) aq (λ_ _=>rfl)) aq))
  (aC (aL (aM dY (aK (vW (P:=P) (w:=w) (base:=base) T) hr (aj (bw (aj (aW bA (pv 0) aq (λ_ _=>rfl)) (aj (pv 3) ao))) (aj (pv 2) ao))) (aK (vW (P:=P) (w:=w) (base:=base) T) hr (aj (bw (aj (aM bU (aW bA (pv 0) aq (λ_ _=>rfl)) (pv 3)) (aj (pv 3) ao))) (aj (pv 2) ao)))))))))),?_⟩
 clear nd;rw[stE]
 try dsimp only[bI,aY]
 have Cp:=om hq;have dB:=om hl;have jw:=jC.mk tp;have F:=SH.n0 H;have yl:=aG tp
 repeat k_meth
 refine eX (ws:=ts) (pr:=aV s (2 ^ 0)) (fvs:=[some (.ref q)]) SqA.e TpA.e (by lia) rfl (λq2 w H' R hw s2 hq2 kk=>?_) λpl ys2 H2 nw tp2=>?_
 ·have hq3:H' q=some (.tup [.int (s:Nat),.int ((2 ^ 0:Nat):Int)]):=s2 _ _ aH;clear F;have F:SH H' [] H' [] []:=SH.nil;have o_q:=om hq3;have Jp:=om hq2
  repeat k_meth
  rw[dG];exact kk _ F.sm
 replace F:=(F.newL nw).bQ tp2;have yl2:=aG tp2;have fl2:=List.length_filter_le (aV s (2 ^ 0)) ts;obtain⟨tk,ok⟩:=ok
 repeat k_meth
 by_cases e0:ys2=[]
 ·have e1:ts.filter (aV s (2 ^ 0))=[]:=by
   rw[e0] at yl2;exact List.eq_nil_of_length_eq_zero yl2.symm
  have e2:fwF 0 s ts=[(s,2 ^ 0)]:=by rw[fwF,zS e1]
  rw[e2] at k;rw[gN e0]
  repeat k_meth
  exact k _ _ _ SH.nwC ⟨rfl,λj r e=>by
   cases j with
   | zero=>cases e;exact⟨q,rfl,aH⟩
   | succ j=>simp[aF] at e⟩
 have e1:ts.filter (aV s (2 ^ 0))≠[]:=λz=>e0 (by rw[z] at yl2;exact List.eq_nil_of_length_eq_zero yl2)
 rw[gL e0]
 repeat k_meth
 refine⟨q,pl,ys2,s,2 ^ 0,_,rfl,rfl,aH,SqA.e,TpA.e,?_⟩;rw[gN (WX ok e1)];have e2:fwF 0 s ts=[]:=by rw[fwF,yA e1]
 rw[e2] at k
 repeat k_meth
 exact k _ _ _ SH.nwC aB.nil
theorem mG(T:Txt K mg c R CH CP CF CT CN CV CB aD ak):Def P w K mg base CX0 7 "free_within" ["piece","taken"] (qY 1):=by
 refine dA T.cW bO λf cdv A outer s H vs Q E hr h=>?_
 obtain⟨q,l,ys,ts,s,rfl,hq,hl,tp,fw,s1,ok,k⟩:=h;have nd:=bO.nd;refine⟨_,(aA (iu (i:=2) nd rfl (Or.inl rfl) (N:=["one","piece"]) (nt:=1) (fr:=[0]) (cj (pv 1)) (λ_ _ _ _=>(cN (i:=0) (show (["one","piece"]:List Str).Nodup from by decide +kernel) rfl (Or.inl rfl))) (λ_ _ _ _=>dW (bN (aK (gD T) hr (aj (pv 1) (aj (pv 0) ao))))) (λ_ _ _ _=>(pv 0)))
  (aA (bB (aN (jV hr) (pv 2) (aU ao) (aO _)) (aC (aL (aU (aj (pv 0) ao)))) aR)
  (aA (bB (aN (j_ (K:=K) rfl hr) (pv 0) (pv 2) (by with_unfolding_all rfl)) (aC (aL (aU ao))) aR)
  (aA (psz 3 nd (aM cu (aW bA (pv 0) aq (λ_ _=>rfl)) aq))
  (aC (aL (aM dY (aK (mF (P:=P) (w:=w) (base:=base) T) hr (aj (bw (aj (aW bA (pv 0) aq (λ_ _=>rfl)) (aj (pv 3) ao))) (aj (pv 2) ao))) (aK (mF (P:=P) (w:=w) (base:=base) T) hr (aj (bw (aj (aM bU (aW bA (pv 0) aq (λ_ _=>rfl)) (pv 3)) (aj (pv 3) ao))) (aj (pv 2) ao)))))))))),?_⟩
 clear nd;rw[stE]
 try dsimp only[bI,aY]
 have Cp:=om hq;have dB:=om hl;have jw:=jC.mk tp;have F:=SH.n0 H;have yl:=aG tp
 repeat k_meth
 refine eX (ws:=ts) (pr:=aV s (2 ^ 1)) (fvs:=[some (.ref q)]) SqA.e TpA.e (by lia) rfl (λq2 w H' R hw s2 hq2 kk=>?_) λpl ys2 H2 nw tp2=>?_
 ·have hq3:H' q=some (.tup [.int (s:Nat),.int ((2 ^ 1:Nat):Int)]):=s2 _ _ aH;clear F;have F:SH H' [] H' [] []:=SH.nil;have o_q:=om hq3;have Jp:=om hq2
  repeat k_meth
  rw[dG];exact kk _ F.sm
 replace F:=(F.newL nw).bQ tp2;have yl2:=aG tp2;have fl2:=List.length_filter_le (aV s (2 ^ 1)) ts;obtain⟨tk,ok⟩:=ok
 repeat k_meth
 by_cases e0:ys2=[]
 ·have e1:ts.filter (aV s (2 ^ 1))=[]:=by
   rw[e0] at yl2;exact List.eq_nil_of_length_eq_zero yl2.symm
  have e2:fwF 1 s ts=[(s,2 ^ 1)]:=by rw[fwF,zS e1]
  rw[e2] at k;rw[gN e0]
  repeat k_meth
  exact k _ _ _ SH.nwC ⟨rfl,λj r e=>by
   cases j with
   | zero=>cases e;exact⟨q,rfl,aH⟩
   | succ j=>simp[aF] at e⟩
 have e1:ts.filter (aV s (2 ^ 1))≠[]:=λz=>e0 (by rw[z] at yl2;exact List.eq_nil_of_length_eq_zero yl2)
 rw[gL e0]
 repeat k_meth
 refine⟨q,pl,ys2,s,2 ^ 1,_,rfl,rfl,aH,SqA.e,TpA.e,?_⟩;by_cases hm:(s,2 ^ 1)∈ts.filter (aV s (2 ^ 1))
 ·rw[gN hm];have e2:fwF 1 s ts=[]:=by rw[fwF,yA e1,zS hm]
  rw[e2] at k
  repeat k_meth
  exact k _ _ _ SH.nwC aB.nil
 rw[gL hm];have e2:fwF 1 s ts=fwF 0 s (ts.filter (aV s (2 ^ 1)))++fwF 0 (s+2 ^ 0) (ts.filter (aV s (2 ^ 1))):=jx (k:=0) e1 hm;rw[e2] at k;obtain⟨ok1,ok2⟩:=ok.Ed.halves hm
 repeat k_meth
 rw[show ((2 ^ 1:Nat):Int) / 2=((2 ^ 0:Nat):Int) by decide]
 repeat k_meth
 refine⟨p_,pl,ys2,_,s,rfl,aH,aH,TpA.e,by lia,by lia,⟨tk,ok1⟩,λp1 zs1 H3 n3 t3=>?_⟩;replace F:=(F.newL n3).bQ t3
 repeat k_meth
 rw[show (s:Int)+((2 ^ 0:Nat):Int)=((s+2 ^ 0:Nat):Int) by lia] at F;refine⟨p_,pl,ys2,_,s+2 ^ 0,rfl,aH,aH,TpA.e,by lia,by lia,⟨tk,ok2⟩,λp2 zs2 H4 n4 t4=>?_⟩;replace F:=(F.newL n4).bQ t4;have z1:=aG t3;have z2:=aG t4;have w1:=cI 0 s (ts.filter (aV s (2 ^ 1)));have w2:=cI 0 (s+2 ^ 0) (ts.filter (aV s (2 ^ 1)));have z3:zs1.length+zs2.length<=sizeLine:=by rw[sizeLine_eq];lia
 repeat k_meth
 exact k _ _ _ SH.nwC (cB TpA.e TpA.e)
theorem mH(T:Txt K mg c R CH CP CF CT CN CV CB aD ak):Def P w K mg base CX0 8 "free_within" ["piece","taken"] (qY 2):=by
 refine dA T.cW bO λf cdv A outer s H vs Q E hr h=>?_
 obtain⟨q,l,ys,ts,s,rfl,hq,hl,tp,fw,s1,ok,k⟩:=h;have nd:=bO.nd;refine⟨_,(aA (iu (i:=2) nd rfl (Or.inl rfl) (N:=["one","piece"]) (nt:=1) (fr:=[0]) (cj (pv 1)) (λ_ _ _ _=>(cN (i:=0) (show (["one","piece"]:List Str).Nodup from by decide +kernel) rfl (Or.inl rfl))) (λ_ _ _ _=>dW (bN (aK (gD T) hr (aj (pv 1) (aj (pv 0) ao))))) (λ_ _ _ _=>(pv 0)))
  (aA (bB (aN (jV hr) (pv 2) (aU ao) (aO _)) (aC (aL (aU (aj (pv 0) ao)))) aR)
  (aA (bB (aN (j_ (K:=K) rfl hr) (pv 0) (pv 2) (by with_unfolding_all rfl)) (aC (aL (aU ao))) aR)
  (aA (psz 3 nd (aM cu (aW bA (pv 0) aq (λ_ _=>rfl)) aq))
  (aC (aL (aM dY (aK (mG (P:=P) (w:=w) (base:=base) T) hr (aj (bw (aj (aW bA (pv 0) aq (λ_ _=>rfl)) (aj (pv 3) ao))) (aj (pv 2) ao))) (aK (mG (P:=P) (w:=w) (base:=base) T) hr (aj (bw (aj (aM bU (aW bA (pv 0) aq (λ_ _=>rfl)) (pv 3)) (aj (pv 3) ao))) (aj (pv 2) ao)))))))))),?_⟩
 clear nd;rw[stE]
 try dsimp only[bI,aY]
 have Cp:=om hq;have dB:=om hl;have jw:=jC.mk tp;have F:=SH.n0 H;have yl:=aG tp
 repeat k_meth
 refine eX (ws:=ts) (pr:=aV s (2 ^ 2)) (fvs:=[some (.ref q)]) SqA.e TpA.e (by lia) rfl (λq2 w H' R hw s2 hq2 kk=>?_) λpl ys2 H2 nw tp2=>?_
 ·have hq3:H' q=some (.tup [.int (s:Nat),.int ((2 ^ 2:Nat):Int)]):=s2 _ _ aH;clear F;have F:SH H' [] H' [] []:=SH.nil;have o_q:=om hq3;have Jp:=om hq2
  repeat k_meth
  rw[dG];exact kk _ F.sm
 replace F:=(F.newL nw).bQ tp2;have yl2:=aG tp2;have fl2:=List.length_filter_le (aV s (2 ^ 2)) ts;obtain⟨tk,ok⟩:=ok
 repeat k_meth
 by_cases e0:ys2=[]
 ·have e1:ts.filter (aV s (2 ^ 2))=[]:=by
   rw[e0] at yl2;exact List.eq_nil_of_length_eq_zero yl2.symm
  have e2:fwF 2 s ts=[(s,2 ^ 2)]:=by rw[fwF,zS e1]
  rw[e2] at k;rw[gN e0]
  repeat k_meth
  exact k _ _ _ SH.nwC ⟨rfl,λj r e=>by
   cases j with
   | zero=>cases e;exact⟨q,rfl,aH⟩
   | succ j=>simp[aF] at e⟩
 have e1:ts.filter (aV s (2 ^ 2))≠[]:=λz=>e0 (by rw[z] at yl2;exact List.eq_nil_of_length_eq_zero yl2)
 rw[gL e0]
 repeat k_meth
 refine⟨q,pl,ys2,s,2 ^ 2,_,rfl,rfl,aH,SqA.e,TpA.e,?_⟩;by_cases hm:(s,2 ^ 2)∈ts.filter (aV s (2 ^ 2))
 ·rw[gN hm];have e2:fwF 2 s ts=[]:=by rw[fwF,yA e1,zS hm]
  rw[e2] at k
  repeat k_meth
  exact k _ _ _ SH.nwC aB.nil
 rw[gL hm];have e2:fwF 2 s ts=fwF 1 s (ts.filter (aV s (2 ^ 2)))++fwF 1 (s+2 ^ 1) (ts.filter (aV s (2 ^ 2))):=jx (k:=1) e1 hm;rw[e2] at k;obtain⟨ok1,ok2⟩:=ok.Ed.halves hm
 repeat k_meth
 rw[show ((2 ^ 2:Nat):Int) / 2=((2 ^ 1:Nat):Int) by decide]
 repeat k_meth
 refine⟨p_,pl,ys2,_,s,rfl,aH,aH,TpA.e,by lia,by lia,⟨tk,ok1⟩,λp1 zs1 H3 n3 t3=>?_⟩;replace F:=(F.newL n3).bQ t3
 repeat k_meth
 rw[show (s:Int)+((2 ^ 1:Nat):Int)=((s+2 ^ 1:Nat):Int) by lia] at F;refine⟨p_,pl,ys2,_,s+2 ^ 1,rfl,aH,aH,TpA.e,by lia,by lia,⟨tk,ok2⟩,λp2 zs2 H4 n4 t4=>?_⟩;replace F:=(F.newL n4).bQ t4;have z1:=aG t3;have z2:=aG t4;have w1:=cI 1 s (ts.filter (aV s (2 ^ 2)));have w2:=cI 1 (s+2 ^ 1) (ts.filter (aV s (2 ^ 2)));have z3:zs1.length+zs2.length<=sizeLine:=by rw[sizeLine_eq];lia
 repeat k_meth
 exact k _ _ _ SH.nwC (cB TpA.e TpA.e)
theorem mJ(T:Txt K mg c R CH CP CF CT CN CV CB aD ak):Def P w K mg base CX0 9 "free_within" ["piece","taken"] (qY 3):=by
 refine dA T.cW bO λf cdv A outer s H vs Q E hr h=>?_
 obtain⟨q,l,ys,ts,s,rfl,hq,hl,tp,fw,s1,ok,k⟩:=h;have nd:=bO.nd;refine⟨_,(aA (iu (i:=2) nd rfl (Or.inl rfl) (N:=["one","piece"]) (nt:=1) (fr:=[0]) (cj (pv 1)) (λ_ _ _ _=>(cN (i:=0) (show (["one","piece"]:List Str).Nodup from by decide +kernel) rfl (Or.inl rfl))) (λ_ _ _ _=>dW (bN (aK (gD T) hr (aj (pv 1) (aj (pv 0) ao))))) (λ_ _ _ _=>(pv 0)))
  (aA (bB (aN (jV hr) (pv 2) (aU ao) (aO _)) (aC (aL (aU (aj (pv 0) ao)))) aR)
  (aA (bB (aN (j_ (K:=K) rfl hr) (pv 0) (pv 2) (by with_unfolding_all rfl)) (aC (aL (aU ao))) aR)
  (aA (psz 3 nd (aM cu (aW bA (pv 0) aq (λ_ _=>rfl)) aq))
  (aC (aL (aM dY (aK (mH (P:=P) (w:=w) (base:=base) T) hr (aj (bw (aj (aW bA (pv 0) aq (λ_ _=>rfl)) (aj (pv 3) ao))) (aj (pv 2) ao))) (aK (mH (P:=P) (w:=w) (base:=base) T) hr (aj (bw (aj (aM bU (aW bA (pv 0) aq (λ_ _=>rfl)) (pv 3)) (aj (pv 3) ao))) (aj (pv 2) ao)))))))))),?_⟩
 clear nd;rw[stE]
 try dsimp only[bI,aY]
 have Cp:=om hq;have dB:=om hl;have jw:=jC.mk tp;have F:=SH.n0 H;have yl:=aG tp
 repeat k_meth
 refine eX (ws:=ts) (pr:=aV s (2 ^ 3)) (fvs:=[some (.ref q)]) SqA.e TpA.e (by lia) rfl (λq2 w H' R hw s2 hq2 kk=>?_) λpl ys2 H2 nw tp2=>?_
 ·have hq3:H' q=some (.tup [.int (s:Nat),.int ((2 ^ 3:Nat):Int)]):=s2 _ _ aH;clear F;have F:SH H' [] H' [] []:=SH.nil;have o_q:=om hq3;have Jp:=om hq2
  repeat k_meth
  rw[dG];exact kk _ F.sm
 replace F:=(F.newL nw).bQ tp2;have yl2:=aG tp2;have fl2:=List.length_filter_le (aV s (2 ^ 3)) ts;obtain⟨tk,ok⟩:=ok
 repeat k_meth
 by_cases e0:ys2=[]
 ·have e1:ts.filter (aV s (2 ^ 3))=[]:=by
   rw[e0] at yl2;exact List.eq_nil_of_length_eq_zero yl2.symm
  have e2:fwF 3 s ts=[(s,2 ^ 3)]:=by rw[fwF,zS e1]
  rw[e2] at k;rw[gN e0]
  repeat k_meth
  exact k _ _ _ SH.nwC ⟨rfl,λj r e=>by
   cases j with
   | zero=>cases e;exact⟨q,rfl,aH⟩
   | succ j=>simp[aF] at e⟩
 have e1:ts.filter (aV s (2 ^ 3))≠[]:=λz=>e0 (by rw[z] at yl2;exact List.eq_nil_of_length_eq_zero yl2)
 rw[gL e0]
 repeat k_meth
 refine⟨q,pl,ys2,s,2 ^ 3,_,rfl,rfl,aH,SqA.e,TpA.e,?_⟩;by_cases hm:(s,2 ^ 3)∈ts.filter (aV s (2 ^ 3))
 ·rw[gN hm];have e2:fwF 3 s ts=[]:=by rw[fwF,yA e1,zS hm]
  rw[e2] at k
  repeat k_meth
  exact k _ _ _ SH.nwC aB.nil
 rw[gL hm];have e2:fwF 3 s ts=fwF 2 s (ts.filter (aV s (2 ^ 3)))++fwF 2 (s+2 ^ 2) (ts.filter (aV s (2 ^ 3))):=jx (k:=2) e1 hm;rw[e2] at k;obtain⟨ok1,ok2⟩:=ok.Ed.halves hm
 repeat k_meth
 rw[show ((2 ^ 3:Nat):Int) / 2=((2 ^ 2:Nat):Int) by decide]
 repeat k_meth
 refine⟨p_,pl,ys2,_,s,rfl,aH,aH,TpA.e,by lia,by lia,⟨tk,ok1⟩,λp1 zs1 H3 n3 t3=>?_⟩;replace F:=(F.newL n3).bQ t3
 repeat k_meth
 rw[show (s:Int)+((2 ^ 2:Nat):Int)=((s+2 ^ 2:Nat):Int) by lia] at F;refine⟨p_,pl,ys2,_,s+2 ^ 2,rfl,aH,aH,TpA.e,by lia,by lia,⟨tk,ok2⟩,λp2 zs2 H4 n4 t4=>?_⟩;replace F:=(F.newL n4).bQ t4;have z1:=aG t3;have z2:=aG t4;have w1:=cI 2 s (ts.filter (aV s (2 ^ 3)));have w2:=cI 2 (s+2 ^ 2) (ts.filter (aV s (2 ^ 3)));have z3:zs1.length+zs2.length<=sizeLine:=by rw[sizeLine_eq];lia
 repeat k_meth
 exact k _ _ _ SH.nwC (cB TpA.e TpA.e)
theorem mK(T:Txt K mg c R CH CP CF CT CN CV CB aD ak):Def P w K mg base CX0 10 "free_within" ["piece","taken"] (qY 4):=by
 refine dA T.cW bO λf cdv A outer s H vs Q E hr h=>?_
 obtain⟨q,l,ys,ts,s,rfl,hq,hl,tp,fw,s1,ok,k⟩:=h;have nd:=bO.nd;refine⟨_,(aA (iu (i:=2) nd rfl (Or.inl rfl) (N:=["one","piece"]) (nt:=1) (fr:=[0]) (cj (pv 1)) (λ_ _ _ _=>(cN (i:=0) (show (["one","piece"]:List Str).Nodup from by decide +kernel) rfl (Or.inl rfl))) (λ_ _ _ _=>dW (bN (aK (gD T) hr (aj (pv 1) (aj (pv 0) ao))))) (λ_ _ _ _=>(pv 0)))
  (aA (bB (aN (jV hr) (pv 2) (aU ao) (aO _)) (aC (aL (aU (aj (pv 0) ao)))) aR)
  (aA (bB (aN (j_ (K:=K) rfl hr) (pv 0) (pv 2) (by with_unfolding_all rfl)) (aC (aL (aU ao))) aR)
  (aA (psz 3 nd (aM cu (aW bA (pv 0) aq (λ_ _=>rfl)) aq))
  (aC (aL (aM dY (aK (mJ (P:=P) (w:=w) (base:=base) T) hr (aj (bw (aj (aW bA (pv 0) aq (λ_ _=>rfl)) (aj (pv 3) ao))) (aj (pv 2) ao))) (aK (mJ (P:=P) (w:=w) (base:=base) T) hr (aj (bw (aj (aM bU (aW bA (pv 0) aq (λ_ _=>rfl)) (pv 3)) (aj (pv 3) ao))) (aj (pv 2) ao)))))))))),?_⟩
 clear nd;rw[stE]
 try dsimp only[bI,aY]
 have Cp:=om hq;have dB:=om hl;have jw:=jC.mk tp;have F:=SH.n0 H;have yl:=aG tp
 repeat k_meth
 refine eX (ws:=ts) (pr:=aV s (2 ^ 4)) (fvs:=[some (.ref q)]) SqA.e TpA.e (by lia) rfl (λq2 w H' R hw s2 hq2 kk=>?_) λpl ys2 H2 nw tp2=>?_
 ·have hq3:H' q=some (.tup [.int (s:Nat),.int ((2 ^ 4:Nat):Int)]):=s2 _ _ aH;clear F;have F:SH H' [] H' [] []:=SH.nil;have o_q:=om hq3;have Jp:=om hq2
  repeat k_meth
  rw[dG];exact kk _ F.sm
 replace F:=(F.newL nw).bQ tp2;have yl2:=aG tp2;have fl2:=List.length_filter_le (aV s (2 ^ 4)) ts;obtain⟨tk,ok⟩:=ok
 repeat k_meth
 by_cases e0:ys2=[]
 ·have e1:ts.filter (aV s (2 ^ 4))=[]:=by
   rw[e0] at yl2;exact List.eq_nil_of_length_eq_zero yl2.symm
  have e2:fwF 4 s ts=[(s,2 ^ 4)]:=by rw[fwF,zS e1]
  rw[e2] at k;rw[gN e0]
  repeat k_meth
  exact k _ _ _ SH.nwC ⟨rfl,λj r e=>by
   cases j with
   | zero=>cases e;exact⟨q,rfl,aH⟩
   | succ j=>simp[aF] at e⟩
 have e1:ts.filter (aV s (2 ^ 4))≠[]:=λz=>e0 (by rw[z] at yl2;exact List.eq_nil_of_length_eq_zero yl2)
 rw[gL e0]
 repeat k_meth
 refine⟨q,pl,ys2,s,2 ^ 4,_,rfl,rfl,aH,SqA.e,TpA.e,?_⟩;by_cases hm:(s,2 ^ 4)∈ts.filter (aV s (2 ^ 4))
 ·rw[gN hm];have e2:fwF 4 s ts=[]:=by rw[fwF,yA e1,zS hm]
  rw[e2] at k
  repeat k_meth
  exact k _ _ _ SH.nwC aB.nil
 rw[gL hm];have e2:fwF 4 s ts=fwF 3 s (ts.filter (aV s (2 ^ 4)))++fwF 3 (s+2 ^ 3) (ts.filter (aV s (2 ^ 4))):=jx (k:=3) e1 hm;rw[e2] at k;obtain⟨ok1,ok2⟩:=ok.Ed.halves hm
 repeat k_meth
 rw[show ((2 ^ 4:Nat):Int) / 2=((2 ^ 3:Nat):Int) by decide]
 repeat k_meth
 refine⟨p_,pl,ys2,_,s,rfl,aH,aH,TpA.e,by lia,by lia,⟨tk,ok1⟩,λp1 zs1 H3 n3 t3=>?_⟩;replace F:=(F.newL n3).bQ t3
 repeat k_meth
 rw[show (s:Int)+((2 ^ 3:Nat):Int)=((s+2 ^ 3:Nat):Int) by lia] at F;refine⟨p_,pl,ys2,_,s+2 ^ 3,rfl,aH,aH,TpA.e,by lia,by lia,⟨tk,ok2⟩,λp2 zs2 H4 n4 t4=>?_⟩;replace F:=(F.newL n4).bQ t4;have z1:=aG t3;have z2:=aG t4;have w1:=cI 3 s (ts.filter (aV s (2 ^ 4)));have w2:=cI 3 (s+2 ^ 3) (ts.filter (aV s (2 ^ 4)));have z3:zs1.length+zs2.length<=sizeLine:=by rw[sizeLine_eq];lia
 repeat k_meth
 exact k _ _ _ SH.nwC (cB TpA.e TpA.e)
theorem mL(T:Txt K mg c R CH CP CF CT CN CV CB aD ak):Def P w K mg base CX0 11 "free_within" ["piece","taken"] (qY 5):=by
 refine dA T.cW bO λf cdv A outer s H vs Q E hr h=>?_
 obtain⟨q,l,ys,ts,s,rfl,hq,hl,tp,fw,s1,ok,k⟩:=h;have nd:=bO.nd;refine⟨_,(aA (iu (i:=2) nd rfl (Or.inl rfl) (N:=["one","piece"]) (nt:=1) (fr:=[0]) (cj (pv 1)) (λ_ _ _ _=>(cN (i:=0) (show (["one","piece"]:List Str).Nodup from by decide +kernel) rfl (Or.inl rfl))) (λ_ _ _ _=>dW (bN (aK (gD T) hr (aj (pv 1) (aj (pv 0) ao))))) (λ_ _ _ _=>(pv 0)))
  (aA (bB (aN (jV hr) (pv 2) (aU ao) (aO _)) (aC (aL (aU (aj (pv 0) ao)))) aR)
  (aA (bB (aN (j_ (K:=K) rfl hr) (pv 0) (pv 2) (by with_unfolding_all rfl)) (aC (aL (aU ao))) aR)
  (aA (psz 3 nd (aM cu (aW bA (pv 0) aq (λ_ _=>rfl)) aq))
  (aC (aL (aM dY (aK (mK (P:=P) (w:=w) (base:=base) T) hr (aj (bw (aj (aW bA (pv 0) aq (λ_ _=>rfl)) (aj (pv 3) ao))) (aj (pv 2) ao))) (aK (mK (P:=P) (w:=w) (base:=base) T) hr (aj (bw (aj (aM bU (aW bA (pv 0) aq (λ_ _=>rfl)) (pv 3)) (aj (pv 3) ao))) (aj (pv 2) ao)))))))))),?_⟩
 clear nd;rw[stE]
 try dsimp only[bI,aY]
 have Cp:=om hq;have dB:=om hl;have jw:=jC.mk tp;have F:=SH.n0 H;have yl:=aG tp
 repeat k_meth
 refine eX (ws:=ts) (pr:=aV s (2 ^ 5)) (fvs:=[some (.ref q)]) SqA.e TpA.e (by lia) rfl (λq2 w H' R hw s2 hq2 kk=>?_) λpl ys2 H2 nw tp2=>?_
 ·have hq3:H' q=some (.tup [.int (s:Nat),.int ((2 ^ 5:Nat):Int)]):=s2 _ _ aH;clear F;have F:SH H' [] H' [] []:=SH.nil;have o_q:=om hq3;have Jp:=om hq2
  repeat k_meth
  rw[dG];exact kk _ F.sm
 replace F:=(F.newL nw).bQ tp2;have yl2:=aG tp2;have fl2:=List.length_filter_le (aV s (2 ^ 5)) ts;obtain⟨tk,ok⟩:=ok
 repeat k_meth
 by_cases e0:ys2=[]
 ·have e1:ts.filter (aV s (2 ^ 5))=[]:=by
   rw[e0] at yl2;exact List.eq_nil_of_length_eq_zero yl2.symm
  have e2:fwF 5 s ts=[(s,2 ^ 5)]:=by rw[fwF,zS e1]
  rw[e2] at k;rw[gN e0]
  repeat k_meth
  exact k _ _ _ SH.nwC ⟨rfl,λj r e=>by
   cases j with
   | zero=>cases e;exact⟨q,rfl,aH⟩
   | succ j=>simp[aF] at e⟩
 have e1:ts.filter (aV s (2 ^ 5))≠[]:=λz=>e0 (by rw[z] at yl2;exact List.eq_nil_of_length_eq_zero yl2)
 rw[gL e0]
 repeat k_meth
 refine⟨q,pl,ys2,s,2 ^ 5,_,rfl,rfl,aH,SqA.e,TpA.e,?_⟩;by_cases hm:(s,2 ^ 5)∈ts.filter (aV s (2 ^ 5))
 ·rw[gN hm];have e2:fwF 5 s ts=[]:=by rw[fwF,yA e1,zS hm]
  rw[e2] at k
  repeat k_meth
  exact k _ _ _ SH.nwC aB.nil
 rw[gL hm];have e2:fwF 5 s ts=fwF 4 s (ts.filter (aV s (2 ^ 5)))++fwF 4 (s+2 ^ 4) (ts.filter (aV s (2 ^ 5))):=jx (k:=4) e1 hm;rw[e2] at k;obtain⟨ok1,ok2⟩:=ok.Ed.halves hm
 repeat k_meth
 rw[show ((2 ^ 5:Nat):Int) / 2=((2 ^ 4:Nat):Int) by decide]
 repeat k_meth
 refine⟨p_,pl,ys2,_,s,rfl,aH,aH,TpA.e,by lia,by lia,⟨tk,ok1⟩,λp1 zs1 H3 n3 t3=>?_⟩;replace F:=(F.newL n3).bQ t3
 repeat k_meth
 rw[show (s:Int)+((2 ^ 4:Nat):Int)=((s+2 ^ 4:Nat):Int) by lia] at F;refine⟨p_,pl,ys2,_,s+2 ^ 4,rfl,aH,aH,TpA.e,by lia,by lia,⟨tk,ok2⟩,λp2 zs2 H4 n4 t4=>?_⟩;replace F:=(F.newL n4).bQ t4;have z1:=aG t3;have z2:=aG t4;have w1:=cI 4 s (ts.filter (aV s (2 ^ 5)));have w2:=cI 4 (s+2 ^ 4) (ts.filter (aV s (2 ^ 5)));have z3:zs1.length+zs2.length<=sizeLine:=by rw[sizeLine_eq];lia
 repeat k_meth
 exact k _ _ _ SH.nwC (cB TpA.e TpA.e)
theorem mO(T:Txt K mg c R CH CP CF CT CN CV CB aD ak):Def P w K mg base CX0 12 "free_within" ["piece","taken"] (qY 6):=by
 refine dA T.cW bO λf cdv A outer s H vs Q E hr h=>?_
 obtain⟨q,l,ys,ts,s,rfl,hq,hl,tp,fw,s1,ok,k⟩:=h;have nd:=bO.nd;refine⟨_,(aA (iu (i:=2) nd rfl (Or.inl rfl) (N:=["one","piece"]) (nt:=1) (fr:=[0]) (cj (pv 1)) (λ_ _ _ _=>(cN (i:=0) (show (["one","piece"]:List Str).Nodup from by decide +kernel) rfl (Or.inl rfl))) (λ_ _ _ _=>dW (bN (aK (gD T) hr (aj (pv 1) (aj (pv 0) ao))))) (λ_ _ _ _=>(pv 0)))
  (aA (bB (aN (jV hr) (pv 2) (aU ao) (aO _)) (aC (aL (aU (aj (pv 0) ao)))) aR)
  (aA (bB (aN (j_ (K:=K) rfl hr) (pv 0) (pv 2) (by with_unfolding_all rfl)) (aC (aL (aU ao))) aR)
  (aA (psz 3 nd (aM cu (aW bA (pv 0) aq (λ_ _=>rfl)) aq))
  (aC (aL (aM dY (aK (mL (P:=P) (w:=w) (base:=base) T) hr (aj (bw (aj (aW bA (pv 0) aq (λ_ _=>rfl)) (aj (pv 3) ao))) (aj (pv 2) ao))) (aK (mL (P:=P) (w:=w) (base:=base) T) hr (aj (bw (aj (aM bU (aW bA (pv 0) aq (λ_ _=>rfl)) (pv 3)) (aj (pv 3) ao))) (aj (pv 2) ao)))))))))),?_⟩
 clear nd;rw[stE]
 try dsimp only[bI,aY]
 have Cp:=om hq;have dB:=om hl;have jw:=jC.mk tp;have F:=SH.n0 H;have yl:=aG tp
 repeat k_meth
 refine eX (ws:=ts) (pr:=aV s (2 ^ 6)) (fvs:=[some (.ref q)]) SqA.e TpA.e (by lia) rfl (λq2 w H' R hw s2 hq2 kk=>?_) λpl ys2 H2 nw tp2=>?_
 ·have hq3:H' q=some (.tup [.int (s:Nat),.int ((2 ^ 6:Nat):Int)]):=s2 _ _ aH;clear F;have F:SH H' [] H' [] []:=SH.nil;have o_q:=om hq3;have Jp:=om hq2
  repeat k_meth
  rw[dG];exact kk _ F.sm
 replace F:=(F.newL nw).bQ tp2;have yl2:=aG tp2;have fl2:=List.length_filter_le (aV s (2 ^ 6)) ts;obtain⟨tk,ok⟩:=ok
 repeat k_meth
 by_cases e0:ys2=[]
 ·have e1:ts.filter (aV s (2 ^ 6))=[]:=by
   rw[e0] at yl2;exact List.eq_nil_of_length_eq_zero yl2.symm
  have e2:fwF 6 s ts=[(s,2 ^ 6)]:=by rw[fwF,zS e1]
  rw[e2] at k;rw[gN e0]
  repeat k_meth
  exact k _ _ _ SH.nwC ⟨rfl,λj r e=>by
   cases j with
   | zero=>cases e;exact⟨q,rfl,aH⟩
   | succ j=>simp[aF] at e⟩
 have e1:ts.filter (aV s (2 ^ 6))≠[]:=λz=>e0 (by rw[z] at yl2;exact List.eq_nil_of_length_eq_zero yl2)
 rw[gL e0]
 repeat k_meth
 refine⟨q,pl,ys2,s,2 ^ 6,_,rfl,rfl,aH,SqA.e,TpA.e,?_⟩;by_cases hm:(s,2 ^ 6)∈ts.filter (aV s (2 ^ 6))
 ·rw[gN hm];have e2:fwF 6 s ts=[]:=by rw[fwF,yA e1,zS hm]
  rw[e2] at k
  repeat k_meth
  exact k _ _ _ SH.nwC aB.nil
 rw[gL hm];have e2:fwF 6 s ts=fwF 5 s (ts.filter (aV s (2 ^ 6)))++fwF 5 (s+2 ^ 5) (ts.filter (aV s (2 ^ 6))):=jx (k:=5) e1 hm;rw[e2] at k;obtain⟨ok1,ok2⟩:=ok.Ed.halves hm
 repeat k_meth
 rw[show ((2 ^ 6:Nat):Int) / 2=((2 ^ 5:Nat):Int) by decide]
 repeat k_meth
 refine⟨p_,pl,ys2,_,s,rfl,aH,aH,TpA.e,by lia,by lia,⟨tk,ok1⟩,λp1 zs1 H3 n3 t3=>?_⟩;replace F:=(F.newL n3).bQ t3
 repeat k_meth
 rw[show (s:Int)+((2 ^ 5:Nat):Int)=((s+2 ^ 5:Nat):Int) by lia] at F;refine⟨p_,pl,ys2,_,s+2 ^ 5,rfl,aH,aH,TpA.e,by lia,by lia,⟨tk,ok2⟩,λp2 zs2 H4 n4 t4=>?_⟩;replace F:=(F.newL n4).bQ t4;have z1:=aG t3;have z2:=aG t4;have w1:=cI 5 s (ts.filter (aV s (2 ^ 6)));have w2:=cI 5 (s+2 ^ 5) (ts.filter (aV s (2 ^ 6)));have z3:zs1.length+zs2.length<=sizeLine:=by rw[sizeLine_eq];lia
 repeat k_meth
 exact k _ _ _ SH.nwC (cB TpA.e TpA.e)
theorem Jq(T:Txt K mg c R CH CP CF CT CN CV CB aD ak):Def P w K mg base CX0 13 "free_within" ["piece","taken"] (qY 7):=by
 refine dA T.cW bO λf cdv A outer s H vs Q E hr h=>?_
 obtain⟨q,l,ys,ts,s,rfl,hq,hl,tp,fw,s1,ok,k⟩:=h;have nd:=bO.nd;refine⟨_,(aA (iu (i:=2) nd rfl (Or.inl rfl) (N:=["one","piece"]) (nt:=1) (fr:=[0]) (cj (pv 1)) (λ_ _ _ _=>(cN (i:=0) (show (["one","piece"]:List Str).Nodup from by decide +kernel) rfl (Or.inl rfl))) (λ_ _ _ _=>dW (bN (aK (gD T) hr (aj (pv 1) (aj (pv 0) ao))))) (λ_ _ _ _=>(pv 0)))
  (aA (bB (aN (jV hr) (pv 2) (aU ao) (aO _)) (aC (aL (aU (aj (pv 0) ao)))) aR)
  (aA (bB (aN (j_ (K:=K) rfl hr) (pv 0) (pv 2) (by with_unfolding_all rfl)) (aC (aL (aU ao))) aR)
  (aA (psz 3 nd (aM cu (aW bA (pv 0) aq (λ_ _=>rfl)) aq))
  (aC (aL (aM dY (aK (mO (P:=P) (w:=w) (base:=base) T) hr (aj (bw (aj (aW bA (pv 0) aq (λ_ _=>rfl)) (aj (pv 3) ao))) (aj (pv 2) ao))) (aK (mO (P:=P) (w:=w) (base:=base) T) hr (aj (bw (aj (aM bU (aW bA (pv 0) aq (λ_ _=>rfl)) (pv 3)) (aj (pv 3) ao))) (aj (pv 2) ao)))))))))),?_⟩
 clear nd;rw[stE]
 try dsimp only[bI,aY]
 have Cp:=om hq;have dB:=om hl;have jw:=jC.mk tp;have F:=SH.n0 H;have yl:=aG tp
 repeat k_meth
 refine eX (ws:=ts) (pr:=aV s (2 ^ 7)) (fvs:=[some (.ref q)]) SqA.e TpA.e (by lia) rfl (λq2 w H' R hw s2 hq2 kk=>?_) λpl ys2 H2 nw tp2=>?_
 ·have hq3:H' q=some (.tup [.int (s:Nat),.int ((2 ^ 7:Nat):Int)]):=s2 _ _ aH;clear F;have F:SH H' [] H' [] []:=SH.nil;have o_q:=om hq3;have Jp:=om hq2
  repeat k_meth
  rw[dG];exact kk _ F.sm
 replace F:=(F.newL nw).bQ tp2;have yl2:=aG tp2;have fl2:=List.length_filter_le (aV s (2 ^ 7)) ts;obtain⟨tk,ok⟩:=ok
 repeat k_meth
 by_cases e0:ys2=[]
 ·have e1:ts.filter (aV s (2 ^ 7))=[]:=by
   rw[e0] at yl2;exact List.eq_nil_of_length_eq_zero yl2.symm
  have e2:fwF 7 s ts=[(s,2 ^ 7)]:=by rw[fwF,zS e1]
  rw[e2] at k;rw[gN e0]
  repeat k_meth
  exact k _ _ _ SH.nwC ⟨rfl,λj r e=>by
   cases j with
   | zero=>cases e;exact⟨q,rfl,aH⟩
   | succ j=>simp[aF] at e⟩
 have e1:ts.filter (aV s (2 ^ 7))≠[]:=λz=>e0 (by rw[z] at yl2;exact List.eq_nil_of_length_eq_zero yl2)
 rw[gL e0]
 repeat k_meth
 refine⟨q,pl,ys2,s,2 ^ 7,_,rfl,rfl,aH,SqA.e,TpA.e,?_⟩;by_cases hm:(s,2 ^ 7)∈ts.filter (aV s (2 ^ 7))
 ·rw[gN hm];have e2:fwF 7 s ts=[]:=by rw[fwF,yA e1,zS hm]
  rw[e2] at k
  repeat k_meth
  exact k _ _ _ SH.nwC aB.nil
 rw[gL hm];have e2:fwF 7 s ts=fwF 6 s (ts.filter (aV s (2 ^ 7)))++fwF 6 (s+2 ^ 6) (ts.filter (aV s (2 ^ 7))):=jx (k:=6) e1 hm;rw[e2] at k;obtain⟨ok1,ok2⟩:=ok.Ed.halves hm
 repeat k_meth
 rw[show ((2 ^ 7:Nat):Int) / 2=((2 ^ 6:Nat):Int) by decide]
 repeat k_meth
 refine⟨p_,pl,ys2,_,s,rfl,aH,aH,TpA.e,by lia,by lia,⟨tk,ok1⟩,λp1 zs1 H3 n3 t3=>?_⟩;replace F:=(F.newL n3).bQ t3
 repeat k_meth
 rw[show (s:Int)+((2 ^ 6:Nat):Int)=((s+2 ^ 6:Nat):Int) by lia] at F;refine⟨p_,pl,ys2,_,s+2 ^ 6,rfl,aH,aH,TpA.e,by lia,by lia,⟨tk,ok2⟩,λp2 zs2 H4 n4 t4=>?_⟩;replace F:=(F.newL n4).bQ t4;have z1:=aG t3;have z2:=aG t4;have w1:=cI 6 s (ts.filter (aV s (2 ^ 7)));have w2:=cI 6 (s+2 ^ 6) (ts.filter (aV s (2 ^ 7)));have z3:zs1.length+zs2.length<=sizeLine:=by rw[sizeLine_eq];lia
 repeat k_meth
 exact k _ _ _ SH.nwC (cB TpA.e TpA.e)
end
open M44
theorem Tr(ws ts:xD)(w:Nat×Nat):frF (ws++[w]) ts=frF ws ts++fwF (Nat.log2 w.2) w.1 ts:=by unfold frF;simp
theorem aai{n:Nat}{ts:xD}:∀{s:Nat} {ws:xD},Ch n s ws->(frF ws ts).length<=n-s:=by
 intro s ws h
 induction h with
 | nil _=>simp[frF]
 | @cons s e l h1 h2 h3 h4 _ ih =>
  have a:=cI e s ts;unfold frF at ih ⊢;rw[List.flatMap_cons,yB];show (fwF (Nat.log2 (2 ^ e)) s ts).length+_<=_;rw[Nat.log2_two_pow]
  lia
theorem WY(ws ts:xD)(i:Nat):(frF (ws.take i) ts).length<=(frF ws ts).length:=by
 have:frF ws ts=frF (ws.take i) ts++frF (ws.drop i) ts:=by unfold frF;rw[<- List.flatMap_append,List.take_append_drop]
 rw[this,yB]
 lia
def Tt:Sp:=λvs H Q _=>Ex4 λ(n:Nat) (l:Addr) (ys:List V) (ts:xD)=>An8 (vs=[.int (n:Nat),.ref l]) (16<=n) (n<=240) (H l=some (.lst ys)) (aB H ys (aF ts)) ((∀t∈ts,Pc n t.1 t.2)) (ts.length<=1000) (∀p zs H',New H H' p (.lst zs)->aB H' zs (aF (frF (whF n 0 n) ts))->Q (.ref p) H')
instance afF{H:Hp}{Q:VK}{E:XK}{n:Nat}{l:Addr}{ys:List V}{ts:xD}[h:Hat H l (.lst ys)][t:TpA H ys (aF ts)]:Go (Tt [.int (n:Nat),.ref l] H Q E) (Sd ((16<=n/\n<=240)/\ts.length<=1000) ((∀t∈ts,Pc n t.1 t.2)/\∀p zs H',New H H' p (.lst zs)->aB H' zs (aF (frF (whF n 0 n) ts))->Q (.ref p) H')):=⟨λk=>⟨n,l,ys,ts,rfl,k.1.1.1,k.1.1.2,h.e,t.e,k.2.1,k.1.2,k.2.2⟩⟩
section
variable{P:Program}{w:World}{K:W.Frag}{mg:xC}{base:Heap}{c:Nat->Addr}{aD ak R CH CP CF CT CN CV CB:Addr}
theorem Ot(T:Txt K mg c R CH CP CF CT CN CV CB aD ak):Def P w K mg base CX0 15 "free_pieces" ["many","taken"] Tt:=by
 refine dA T.yG uK λf cdv A outer s H vs Q E hr h=>?_
 obtain⟨n,l,ys,ts,rfl,n1,n2,hl,tp,hp,fw,k⟩:=h;have nd:=uK.nd;refine⟨_,(aA (psz 2 nd (aU ao))
  (aA (gK PassesOwn.never rfl (cj (aK (Gy T) hr (aj (pv 0) ao))) (pgz 3 nd) (aC (bK (V6 (pv 2) (uf (aK (mF (P:=P) (w:=w) (base:=base) T) hr (aj (pv 3) (aj (pv 1) ao))) (uf (aK (mG (P:=P) (w:=w) (base:=base) T) hr (aj (pv 3) (aj (pv 1) ao))) (uf (aK (mH (P:=P) (w:=w) (base:=base) T) hr (aj (pv 3) (aj (pv 1) ao))) (uf (aK (mJ (P:=P) (w:=w) (base:=base) T) hr (aj (pv 3) (aj (pv 1) ao))) (uf (aK (mK (P:=P) (w:=w) (base:=base) T) hr (aj (pv 3) (aj (pv 1) ao))) (uf (aK (mL (P:=P) (w:=w) (base:=base) T) hr (aj (pv 3) (aj (pv 1) ao))) (uf (aK (mO (P:=P) (w:=w) (base:=base) T) hr (aj (pv 3) (aj (pv 1) ao))) (aK (Jq (P:=P) (w:=w) (base:=base) T) hr (aj (pv 3) (aj (pv 1) ao))))))))))))))
  (aC (aL (pv 2))))),?_⟩
 clear nd;rw[stE]
 try dsimp only[bI,aY]
 have dB:=om hl;have jw:=jC.mk tp;have F:=SH.n0 H
 repeat k_meth
 rename_i td;obtain⟨wl,e_⟩:∃q,q=p_:=⟨_,rfl⟩;subst e_;have cf:=lE n2;have wsl:=Tp cf;have frl:=aai (ts:=ts) cf;have yl:=aG tp;refine iw (xs:=ys_) (λi σ' H'=>∃(o3:Option V)(zs:List V),An3 (σ'=[some (.int (n:Nat)),some (.ref l),some (.ref td),o3]) (zs.length=(frF ((whF n 0 n).take i) ts).length) (SH H [] H' [(td,.lst zs),(wl,.lst ys_)] [.tps zs (aF (frF ((whF n 0 n).take i) ts)),.tps ys_ (aF (whF n 0 n))])) ⟨_,[],rfl,by simp[frF],(F.bQ (ys:=[]) (rs:=aF (frF ((whF n 0 n).take 0) ts)) (by simp only[List.take_zero,frF,List.flatMap_nil];exact aB.nil)).sub SbC.s SbI.s⟩ ?_ ?_ ?_
 ·clear F;rintro i σ' H' hi ⟨_,zs,rfl,zl,F⟩;exact SqA.e
 ·clear F;rintro i v σ' H' hv ⟨_,zs,rfl,zl,F⟩;obtain⟨⟨s,z⟩,q,e1,rfl,e2⟩:=dU (H:=H') (ws:=whF n 0 n) TpA.e hv;obtain⟨e,he,m1,m2,m3⟩:=R7 cf _ (yT e1);simp only at he m1 m2 m3 e2;subst he;have e7:e<8:=iT (by lia);have ok:=X5 m1 m2 m3 hp;have ft:=WY (whF n 0 n) ts i;have es:frF ((whF n 0 n).take (i+1)) ts=frF ((whF n 0 n).take i) ts++fwF e s ts:=by
   rw[List.take_add_one,e1,Option.toList,Tr];show _++fwF (Nat.log2 (2 ^ e)) s ts=_;rw[Nat.log2_two_pow]
  have fl:=cI e s ts;replace F:=F.Aq e2
  repeat k_meth
  obtain rfl|rfl|rfl|rfl|rfl|rfl|rfl|rfl:e=0\/e=1\/e=2\/e=3\/e=4\/e=5\/e=6\/e=7:=by lia
  ·refine IK ?_
   repeat k_meth
   refine⟨q,l,ys,ts,s,rfl,aH,aH,TpA.e,fw,by lia,⟨_,ok⟩,λp1 zs1 H3 n3 t3=>?_⟩;have z1:=aG t3;replace F:=(F.newL n3).bQ t3;have z3:zs.length+zs1.length<=sizeLine:=by rw[sizeLine_eq];lia
   repeat k_meth
   refine⟨_,zs++zs1,rfl,by rw[es,yB,yB,zl,z1],?_⟩;have tt:aB H_ (zs++zs1) (aF (frF ((whF n 0 n).take (i+1)) ts)):=by rw[es];exact cB TpA.e TpA.e
   exact(F.bQ tt).sub SbC.s SbI.s
  ·refine fC (IK ?_)
   repeat k_meth
   refine⟨q,l,ys,ts,s,rfl,aH,aH,TpA.e,fw,by lia,⟨_,ok⟩,λp1 zs1 H3 n3 t3=>?_⟩;have z1:=aG t3;replace F:=(F.newL n3).bQ t3;have z3:zs.length+zs1.length<=sizeLine:=by rw[sizeLine_eq];lia
   repeat k_meth
   refine⟨_,zs++zs1,rfl,by rw[es,yB,yB,zl,z1],?_⟩;have tt:aB H_ (zs++zs1) (aF (frF ((whF n 0 n).take (i+1)) ts)):=by rw[es];exact cB TpA.e TpA.e
   exact(F.bQ tt).sub SbC.s SbI.s
  ·refine fC (fC (IK ?_))
   repeat k_meth
   refine⟨q,l,ys,ts,s,rfl,aH,aH,TpA.e,fw,by lia,⟨_,ok⟩,λp1 zs1 H3 n3 t3=>?_⟩;have z1:=aG t3;replace F:=(F.newL n3).bQ t3;have z3:zs.length+zs1.length<=sizeLine:=by rw[sizeLine_eq];lia
   repeat k_meth
   refine⟨_,zs++zs1,rfl,by rw[es,yB,yB,zl,z1],?_⟩;have tt:aB H_ (zs++zs1) (aF (frF ((whF n 0 n).take (i+1)) ts)):=by rw[es];exact cB TpA.e TpA.e
   exact(F.bQ tt).sub SbC.s SbI.s
  ·refine fC (fC (fC (IK ?_)))
   repeat k_meth
   refine⟨q,l,ys,ts,s,rfl,aH,aH,TpA.e,fw,by lia,⟨_,ok⟩,λp1 zs1 H3 n3 t3=>?_⟩;have z1:=aG t3;replace F:=(F.newL n3).bQ t3;have z3:zs.length+zs1.length<=sizeLine:=by rw[sizeLine_eq];lia
   repeat k_meth
   refine⟨_,zs++zs1,rfl,by rw[es,yB,yB,zl,z1],?_⟩;have tt:aB H_ (zs++zs1) (aF (frF ((whF n 0 n).take (i+1)) ts)):=by rw[es];exact cB TpA.e TpA.e
   exact(F.bQ tt).sub SbC.s SbI.s
  ·refine fC (fC (fC (fC (IK ?_))))
   repeat k_meth
   refine⟨q,l,ys,ts,s,rfl,aH,aH,TpA.e,fw,by lia,⟨_,ok⟩,λp1 zs1 H3 n3 t3=>?_⟩;have z1:=aG t3;replace F:=(F.newL n3).bQ t3;have z3:zs.length+zs1.length<=sizeLine:=by rw[sizeLine_eq];lia
   repeat k_meth
   refine⟨_,zs++zs1,rfl,by rw[es,yB,yB,zl,z1],?_⟩;have tt:aB H_ (zs++zs1) (aF (frF ((whF n 0 n).take (i+1)) ts)):=by rw[es];exact cB TpA.e TpA.e
   exact(F.bQ tt).sub SbC.s SbI.s
  ·refine fC (fC (fC (fC (fC (IK ?_)))))
   repeat k_meth
   refine⟨q,l,ys,ts,s,rfl,aH,aH,TpA.e,fw,by lia,⟨_,ok⟩,λp1 zs1 H3 n3 t3=>?_⟩;have z1:=aG t3;replace F:=(F.newL n3).bQ t3;have z3:zs.length+zs1.length<=sizeLine:=by rw[sizeLine_eq];lia
   repeat k_meth
   refine⟨_,zs++zs1,rfl,by rw[es,yB,yB,zl,z1],?_⟩;have tt:aB H_ (zs++zs1) (aF (frF ((whF n 0 n).take (i+1)) ts)):=by rw[es];exact cB TpA.e TpA.e
   exact(F.bQ tt).sub SbC.s SbI.s
  ·refine fC (fC (fC (fC (fC (fC (IK ?_))))))
   repeat k_meth
   refine⟨q,l,ys,ts,s,rfl,aH,aH,TpA.e,fw,by lia,⟨_,ok⟩,λp1 zs1 H3 n3 t3=>?_⟩;have z1:=aG t3;replace F:=(F.newL n3).bQ t3;have z3:zs.length+zs1.length<=sizeLine:=by rw[sizeLine_eq];lia
   repeat k_meth
   refine⟨_,zs++zs1,rfl,by rw[es,yB,yB,zl,z1],?_⟩;have tt:aB H_ (zs++zs1) (aF (frF ((whF n 0 n).take (i+1)) ts)):=by rw[es];exact cB TpA.e TpA.e
   exact(F.bQ tt).sub SbC.s SbI.s
  ·refine fC (fC (fC (fC (fC (fC (fC ?_))))))
   repeat k_meth
   refine⟨q,l,ys,ts,s,rfl,aH,aH,TpA.e,fw,by lia,⟨_,ok⟩,λp1 zs1 H3 n3 t3=>?_⟩;have z1:=aG t3;replace F:=(F.newL n3).bQ t3;have z3:zs.length+zs1.length<=sizeLine:=by rw[sizeLine_eq];lia
   repeat k_meth
   refine⟨_,zs++zs1,rfl,by rw[es,yB,yB,zl,z1],?_⟩;have tt:aB H_ (zs++zs1) (aF (frF ((whF n 0 n).take (i+1)) ts)):=by rw[es];exact cB TpA.e TpA.e
   exact(F.bQ tt).sub SbC.s SbI.s
 ·clear F;rintro σ' H' ⟨_,zs,rfl,zl,F⟩
  repeat k_meth
  have t9:aB H' zs (aF (frF ((whF n 0 n).take ys_.length) ts)):=TpA.e;rw[l_,List.take_length] at t9;exact k _ zs _ SH.nwC t9
end
open M22 M44
def GC(i:Nat):Nat:=2 ^ Nat.log2 (2*i-1)
theorem Tv{i r:Nat}(h1:1<=i)(h:IsR i r):r=GC i:=by
 obtain⟨k,rfl,h2,h3⟩:=h;have:=fH k;refine Mg ?_ (by lia);rcases h3 with rfl|h3
 ·simp only[Nat.pow_zero]
  lia
 ·cases k with
  | zero=>simp only[Nat.pow_zero];lia
  | succ k=>have:=fH k;simp only[Nat.add_sub_cancel] at h3;lia
def pF(n:Int)(p:Addr):List (Str×V):=d7 "pieces" (.ref p) (d7 "many" (.int n) [])
theorem Mj{n:Int}{p:Addr}{m:Str}(h1:m ≠ "pieces")(h2:m ≠ "many"):(pF n p).lookup m=none:=by unfold pF;rw[bD,if_neg h1,bD,if_neg h2];rfl
class GtA(n:Nat)(ts:xD):Prop where
 lo:16<=n
 hi:n<=240
 gd:Gd n ts
 len:ts.length<=200
def Pk(CP:Addr)(H:Hp)(x l dx:Addr)(n:Nat)(ys:List V)(ts:xD):Prop:=H x=some (.ins CP dx (pF n l))/\H l=some (.lst ys)/\aB H ys (aF ts)/\GtA n ts
class PkA(CP:Addr)(H:Hp)(x:Addr)(l dx:outParam Addr)(n:outParam Nat)(ys:outParam (List V))(ts:outParam (List (Nat×Nat))):Prop where
 e:Pk CP H x l dx n ys ts
def Hv(CV CP:Addr)(H:Hp)(y dy x l dx:Addr)(n:Nat)(ys:List V)(ts:xD):Prop:=H y=some (.ins CV dy (rF x none))/\Pk CP H x l dx n ys ts
class HvA(CV CP:Addr)(H:Hp)(y:Addr)(dy x l dx:outParam Addr)(n:outParam Nat)(ys:outParam (List V))(ts:outParam (List (Nat×Nat))):Prop where
 e:Hv CV CP H y dy x l dx n ys ts
class FrA(n a z:Nat)(ts:xD):Prop where
 z1:1<=z
 z2:z<=1000000000000000000000000000000000
 pc:Pc n a (GC z)
 ap:∀t∈ts,aV a (GC z) t=false
def leS(a b:Nat×Nat):Bool:=decide (rkP (swP a)<=rkP (swP b))
def kh(ws:xD):List (Nat×Nat):=ws.mergeSort leS
theorem mQ(ws:xD):(kh ws).Perm ws:=List.mergeSort_perm ws leS
theorem aaj{α:Type}{f:α->Int}{qs:List α}(r:qs.Pairwise λa b=>f a<f b):∀a∈qs,∀b∈qs,f a=f b->a=b:=by
 induction qs with
 | nil=>intro a ha;cases ha
 | cons c t ih =>
  intro a ha b hb e;have h:=mI.mp r;rcases vS.mp ha with rfl|ha
  ·rcases vS.mp hb with rfl|hb
   ·rfl
   ·have:=h.1 b hb
    lia
  ·rcases vS.mp hb with rfl|hb
   ·have:=h.1 a (by assumption)
    lia
   ·exact ih h.2 a ha b hb e
theorem Tw{qs:xD}(r:jW qs):∀a∈qs,∀b∈qs,rkP (swP a)=rkP (swP b)->a=b:=aaj (f:=λa=>rkP (swP a)) r
theorem oF{ws qs:xD}(p:qs.Perm ws)(r:jW qs):kh ws=qs:=by
 have pw:(kh ws).Pairwise (λa b=>leS a b=true):=List.pairwise_mergeSort (λa b c h1 h2=>by unfold leS at *;simp at *;lia) (λa b=>by unfold leS;simp;lia) ws;have pq:qs.Pairwise (λa b=>leS a b=true):=r.imp λh=>by unfold leS;simp;lia
 refine List.Perm.eq_of_pairwise (λa b ha hb h1 h2=>?_) pw pq ((mQ ws).trans p.symm);unfold leS at h1 h2;simp at h1 h2;exact Tw r a (p.mem_iff.mpr ((mQ ws).mem_iff.mp ha)) b hb (by lia)
def GD(CP:Addr):Sp:=λvs H Q _=>Ex6 λ(x l dx:Addr) (n:Nat) (ys:List V) (ts:xD)=>An3 (vs=[.ref x]) (Pk CP H x l dx n ys ts) (∀q zs H',New H H' q (.lst zs)->aB H' zs (aF (frP n ts))->Q (.ref q) H')
def GF(CP:Addr):Sp:=λvs H Q _=>Ex8 λ(x l dx:Addr) (n a z:Nat) (ys:List V) (ts:xD)=>An4 (vs=[.ref x,.int (a:Nat),.int (z:Nat)]) (Pk CP H x l dx n ys ts) (FrA n a z ts) (∀ys' H',Kp l H H'->H' l=some (.lst ys')->aB H' ys' (aF (ts++[(a,GC z)]))->Q .non H')
def zf(CV:Addr):Sp:=λvs H Q _=>Ex3 λ(y dy x:Addr)=>An3 (vs=[.ref y,.ref x]) (H y=some (.ins CV dy [])) (∀H',Kp y H H'->H' y=some (.ins CV dy (rF x none))->Q .non H')
def zj(CV CP:Addr):Sp:=λvs H Q _=>Ex8 λ(y dy x l dx:Addr) (n:Nat) (ys:List V) (ts:xD)=>An3 (vs=[.ref y]) (Hv CV CP H y dy x l dx n ys ts) (∀q zs H',New H H' q (.lst zs)->aB H' zs (aF (frP n ts))->Q (.ref q) H')
def Ml(CV CP:Addr):Sp:=λvs H Q _=>NT λ(y dy x l dx:Addr) (n a z:Nat) (ys:List V) (ts:xD)=>An4 (vs=[.ref y,.int (a:Nat),.int (z:Nat)]) (Hv CV CP H y dy x l dx n ys ts) (FrA n a z ts) (∀ys' H',Kp l H H'->H' l=some (.lst ys')->aB H' ys' (aF (ts++[(a,GC z)]))->Q .non H')
def GJ:Sp:=λvs H Q _=>∃(y:Addr),vs=[.ref y]/\Q (.int 0) H
def GK:Sp:=λvs H Q _=>∃(y:Addr),vs=[.ref y]/\Q (.str "halves") H
def qd(K:W.Frag)(CP CF:Addr):Sp:=λvs H Q E=>Ex4 λ(x dx:Addr) (v:V) (n1:String)=>An4 (vs=[.ref x,v]) (H x=some (.ins CP dx [])) (b_ K H v (.type n1)) (((∃n:Nat,v=.int (n:Nat)/\16<=n/\n<=240/\∀(p:Addr)(H':Hp),Kp x H H'->H' x=some (.ins CP dx (pF n p))->H' p=some (.lst [])->(∀a u,H a=some u->a≠p)->Q .non H')\/(inB v 16 240=false/\∀d H',Same H H'->H' d=some (dJ d [("many", v)])->E (.ref CF) (some d) H')))
def qe(K:W.Frag)(CN CP CM:Addr):Sp:=λvs H Q E=>Ex4 λ(y dy:Addr) (v:V) (n1:String)=>An4 (vs=[.ref y,v]) (H y=some (.ins CN dy [])) (b_ K H v (.type n1)) (((∃n:Nat,v=.int (n:Nat)/\(16<=n/\n<=240)/\∀(x dx p:Addr)(H':Hp),Kp y H H'->H' y=some (.ins CN dy (rF x none))->H' x=some (.ins CP dx (pF n p))->H' p=some (.lst [])->(∀a u,H a=some u->a≠p)->(∀a u,H a=some u->a≠x)->Q .non H')\/(inB v 16 240=false/\∀d H',Same H H'->H' d=some (dJ d [("many", v)])->E (.ref CM) (some d) H')))
section
variable{K:W.Frag}{v:V}{n1:String}{CM CN CV CP CF y dy x p dx l q:Addr}{n a z:Nat}{ys zs:List V}{ts:xD}{H:Hp}{Q:VK}{E:XK}{H0:Hp}{M:List Addr}{L L':List (Addr×HO)}{I:List Im}{R:Hp->Prop}{rs:List (List V)}{m:Int}{u:V}
instance acL:FLk (pF m p) "many" (.int m):=⟨by unfold pF;rw[bD,if_neg (by decide),bD,if_pos rfl]⟩
instance aaZ:FLk (pF m p) "pieces" (.ref p):=⟨by unfold pF;rw[bD,if_pos rfl]⟩
instance adY:FNo (pF m p) "told":=⟨Mj (by decide) (by decide)⟩
instance adZ:FNo (pF m p) "take":=⟨Mj (by decide) (by decide)⟩
instance pkA[h:Hat H x (.ins CP dx (pF n l))][h2:Hat H l (.lst ys)][t:TpA H ys (aF ts)][g:GtA n ts]:PkA CP H x l dx n ys ts:=⟨h.e,h2.e,t.e,g⟩
instance hvA[h:Hat H y (.ins CV dy (rF x none))][h2:PkA CP H x l dx n ys ts]:HvA CV CP H y dy x l dx n ys ts:=⟨h.e,h2.e⟩
instance afG[F:SH H0 M H L I][u:LkU L l (.lst ys) L']:Go (∀H',Kp l H H'->H' l=some (.lst ys)->aB H' ys rs->R H') (∀H',SH H0 M H' L' (.tps ys rs::I)->R H'):=⟨λk H' f e t=>k H' ((F.kpL f e u.u).bQ t)⟩
instance ad0{Z:Addr->Addr->Hp->Prop}{gs:List (Str×V)}[F:SH H0 M H L I]:Go (∀x dx H',New H H' x (.ins CP dx gs)->Z x dx H') (∀H' x dx,SH H0 M H' ((x,.ins CP dx gs)::L) I->Z x dx H'):=⟨λk p dx H' n=>k H' p dx (F.abA n)⟩
instance acM[h:PkA CP H x l dx n ys ts]:Go (GD CP [.ref x] H Q E) (∀q zs H',New H H' q (.lst zs)->aB H' zs (aF (frP n ts))->Q (.ref q) H'):=⟨λk=>⟨x,l,dx,n,ys,ts,rfl,h.e,k⟩⟩
instance acN[h:PkA CP H x l dx n ys ts][c:FrA n a z ts]:Go (GF CP [.ref x,.int (a:Nat),.int (z:Nat)] H Q E) (∀ys' H',Kp l H H'->H' l=some (.lst ys')->aB H' ys' (aF (ts++[(a,GC z)]))->Q .non H'):=⟨λk=>⟨x,l,dx,n,a,z,ys,ts,rfl,h.e,c,k⟩⟩
instance aa0[h:Hat H y (.ins CV dy [])]:Go (zf CV [.ref y,.ref x] H Q E) (∀H',Kp y H H'->H' y=some (.ins CV dy (rF x none))->Q .non H'):=⟨λk=>⟨y,dy,x,rfl,h.e,k⟩⟩
instance aa1[h:Hat H x (.ins CP dx [])]:Go (qd K CP CF [.ref x,.int (n:Nat)] H Q E) (Sd (16<=n/\n<=240) (∀(p:Addr)(H1:Hp),New H H1 p (.lst [])->∀H2,L2.Off x H1 H2->H2 x=some (.ins CP dx (pF n p))->Q .non H2)):=by
 refine⟨λs=>⟨x,dx,_, "int", rfl,h.e,.int _,.inl ⟨n,rfl,s.1.1,s.1.2,λp H' kp ex ep fr=>?_⟩⟩⟩;have hx:=h.e;have nxp:x≠p:=fr x _ hx
 let H1:Hp:=λb=>if b=x then H x else H' b
 have h1x:H1 x=H x:=zS rfl;have h1n:∀{b:Addr},b≠x->H1 b=H' b:=λn=>yA n
 refine s.2 p H1 ⟨λb u eb=>?_,?_,λb u eb=>fr b u eb⟩ H' (λb nb=>(h1n nb).symm) ex
 ·by_cases hb:b=x
  ·rw[hb,h1x,<- hb];exact eb
  ·rw[h1n hb];exact kp b u hb eb
 ·rw[h1n (Ne.symm nxp)];exact ep
instance acO[h:Hat H y (.ins CN dy [])]:Go (qe K CN CP CM [.ref y,.int (n:Nat)] H Q E) (Sd (16<=n/\n<=240) (∀(p:Addr)(H1:Hp),New H H1 p (.lst [])->∀(x dx:Addr)(H2:Hp),New H1 H2 x (.ins CP dx (pF n p))->∀H3,Off y H2 H3->H3 y=some (.ins CN dy (rF x none))->Q .non H3)):=by
 refine⟨λs=>⟨y,dy,_,_,rfl,h.e,.int _,.inl ⟨n,rfl,s.1,λx dx p H' kp ey ex ep fp fx=>?_⟩⟩⟩;have hy:=h.e;have nyp:y≠p:=fp y _ hy;have nyx:y≠x:=fx y _ hy;have npx:p≠x:=λz=>by rw[z,ex] at ep;cases ep
 let H2:Hp:=λb=>if b=y then H y else H' b
 let H1:Hp:=λb=>if b=x then none else H2 b
 have h2y:H2 y=H y:=zS rfl;have h2n:∀{b:Addr},b≠y->H2 b=H' b:=λn=>yA n
 have h1n:∀{b:Addr},b≠x->H1 b=H2 b:=λn=>yA n
 refine s.2 p H1 ⟨λb u eb=>?_,?_,λb u eb=>fp b u eb⟩ x dx H2 ⟨λb u eb=>?_,?_,λb u eb z=>?_⟩ H' (λb nb=>(h2n nb).symm) ey
 ·rw[h1n (fx b u eb)];by_cases hb:b=y
  ·rw[hb,h2y,<- hb];exact eb
  ·rw[h2n hb];exact kp b u hb eb
 ·rw[h1n npx,h2n (Ne.symm nyp)];exact ep
 ·by_cases hb:b=x
  ·have:H1 b=none:=zS hb;rw[this] at eb;cases eb
  ·rw[h1n hb] at eb;exact eb
 ·rw[h2n (Ne.symm nyx)];exact ex
 ·have:H1 b=none:=zS z;rw[this] at eb;cases eb
instance aa2[h:Hat H x (.ins CP dx [])][t:TyA K H v n1][c:vO v]:Go (qd K CP CF [.ref x,v] H Q E) (∀d H',Same H H'->H' d=some (dJ d [("many", v)])->E (.ref CF) (some d) H'):=⟨λk=>⟨x,dx,v,n1,rfl,h.e,t.e,.inr ⟨c.e,k⟩⟩⟩
instance aa3[h:Hat H y (.ins CN dy [])][t:TyA K H v n1][c:vO v]:Go (qe K CN CP CM [.ref y,v] H Q E) (∀d H',Same H H'->H' d=some (dJ d [("many", v)])->E (.ref CM) (some d) H'):=⟨λk=>⟨y,dy,v,n1,rfl,h.e,t.e,.inr ⟨c.e,k⟩⟩⟩
instance aa4[h:HvA CV CP H y dy x l dx n ys ts]:Go (zj CV CP [.ref y] H Q E) (∀q zs H',New H H' q (.lst zs)->aB H' zs (aF (frP n ts))->Q (.ref q) H'):=⟨λk=>⟨y,dy,x,l,dx,n,ys,ts,rfl,h.e,k⟩⟩
instance ad1[h:HvA CV CP H y dy x l dx n ys ts][c:FrA n a z ts]:Go (Ml CV CP [.ref y,.int (a:Nat),.int (z:Nat)] H Q E) (∀ys' H',Kp l H H'->H' l=some (.lst ys')->aB H' ys' (aF (ts++[(a,GC z)]))->Q .non H'):=⟨λk=>⟨y,dy,x,l,dx,n,a,z,ys,ts,rfl,h.e,c,k⟩⟩
instance acP:Go (GJ [.ref y] H Q E) (Q (.int 0) H):=⟨λk=>⟨y,rfl,k⟩⟩
instance acQ:Go (GK [.ref y] H Q E) (Q (.str "halves") H):=⟨λk=>⟨y,rfl,k⟩⟩
end
section
variable{P:Program}{w:World}{K:W.Frag}{mg:xC}{base:Heap}{c:Nat->Addr}{aD ak R CH CP CF CT CN CV CB:Addr}
theorem Tz(T:Txt K mg c R CH CP CF CT CN CV CB aD ak):Mak P w K mg base (CX1 P w) 4 "Pieces" CP ["self","many"] (qd K CP (c 0)):=by
 obtain⟨f,hf,hm⟩:=T.Lf;refine(fX (k:=3) hf Ep λf cdv A outer s H vs Q E hr h=>?_).mak hm T.yI;obtain⟨x,dx,v,n1,rfl,hx,ty,kk⟩:=h;have nd:=Ep.nd;refine⟨_,(aA (bB (cD (bN (aK (lA T) hr (aj (pv 1) ao)))) (aC (jQ T.vg (nu T.dw (Fl T.dw.S T.fZ) hr (aj (pv 1) ao)))) aR)
  (PSs.nox (aA (jg (pv 0) (pv 1) rfl)
  (aC (jg (pv 0) (aU ao) rfl))))),?_⟩
 clear nd;rw[stE]
 try dsimp only[bI,aY,qz]
 rcases kk with⟨n,rfl,h16,fD,k⟩|⟨hb,k⟩
 ·have F:SH H [x] H [(x,.ins CP dx [])] []:=SH.nil.fQ List.mem_cons_self hx rfl (by simp)
  repeat k_meth
  rw[gN (show (16:Int)<=(n:Int) by lia),gN (show (n:Int)<=240 by lia),show (true && true)=true from rfl]
  repeat k_meth
  have hh:H_ x=some (.ins CP dx _):=aH;exact k p_ _ F.kpo hh aH (F.fresh (LkL.m (o:=.lst _)) (nm1 (SH.neC (F:=F))))
 ·have F:=SH.n0 H;have lG:=om hx;have o_v:gU K H [] v n1:=⟨ty,λ_ _ z=>by cases z⟩
  repeat k_meth
  rw[hb]
  repeat k_meth
  exact λd H' s e=>k d H' (F.sm.trans s) e
theorem TF(T:Txt K mg c R CH CP CF CT CN CV CB aD ak):Met P w K mg base CX0 16 CP "told" ["self"] (GD CP):=by
 obtain⟨f,hf,hm⟩:=T.Lg;refine(fA (k:=15) hf Er λf cdv A outer s H vs Q E hr h=>?_).met hm;obtain⟨x,l,dx,n,ys,ts,rfl,pk,k⟩:=h;have nd:=Er.nd;refine⟨_,(aC (aL (aK (Ot T) hr (aj (cX (pv 0) rfl) (aj (cX (pv 0) rfl) ao))))),?_⟩;clear nd;rw[stE]
 try dsimp only[bI,aY]
 obtain⟨hx,hl,tp,gt⟩:=id pk;obtain⟨n1,n2,gd,tl⟩:=id gt;have yl:=aG tp;have lG:=om hx;have dB:=om hl;have jw:=jC.mk tp;have F:=SH.n0 H
 repeat k_meth
 refine⟨gd.pc,λq zs H' nw t=>?_⟩
 repeat k_meth
 exact k q zs H' nw t
theorem TJ(T:Txt K mg c R CH CP CF CT CN CV CB aD ak):Met P w K mg base CX0 7 CP "take" ["self","start","size"] (GF CP):=by
 obtain⟨f,hf,hm⟩:=T.Lh;refine(fA (k:=6) hf Es λf cdv A outer s H vs Q E hr h=>?_).met hm;obtain⟨x,l,dx,n,a,z,ys,ts,rfl,pk,fa,k⟩:=h;have nd:=Es.nd;refine⟨_,(aA (bB (PW.pt (dH (cD (bN (aK (gH T) hr (aj (pv 2) (aj aq ao))))) (fJ (cD (bN (aK (Tq T) hr (aj (cX (pv 0) rfl) (aj (pv 1) (aj (aK (pZ T) hr (aj (pv 2) ao)) (aj (cX (pv 0) rfl) ao)))))))))) kI aR)
  (aC (bK (cA (cX (pv 0) rfl) (bw (aj (pv 1) (aj (aK (pZ T) hr (aj (pv 2) ao)) ao))))))),?_⟩
 clear nd;rw[stE]
 try dsimp only[bI,aY]
 obtain⟨hx,hl,tp,gt⟩:=id pk;obtain⟨n1,n2,gd,tl⟩:=id gt;have yl:=aG tp;have nxl:x≠l:=λe=>by rw[e,hl] at hx;cases hx
 have F:SH H [l] H [(l,.lst ys)] [.tps ys (aF ts)]:=(SH.nil.fQ List.mem_cons_self hl rfl (by simp)).bQ tp;have lG:=Old.mk (M:=[l]) hx (nm1 nxl);obtain⟨z1,z2,pc,ap⟩:=fa
 repeat k_meth
 intro r hr1;have er:=Tv z1 hr1;subst er
 repeat k_meth
 rw[Tg (Mh.mpr ⟨pc,ap⟩)]
 repeat k_meth
 intro r hr2;have er:=Tv z1 hr2;subst er
 repeat k_meth
 exact k _ _ F.kpo aH (by rw[eG];exact aB.snoc TpA.e aH)
theorem Ou(T:Txt K mg c R CH CP CF CT CN CV CB aD ak):Cdf P w K mg base CX0 1 "Rule" CB "__init__" ["self","book"] (zf CV):=by
 obtain⟨f,hf,hm⟩:=T.FZ;refine(fA (k:=0) hf yd λf cdv A outer s H vs Q E hr h=>?_).cdf hm T.lu;obtain⟨y,dy,x,rfl,hy,k⟩:=h;have nd:=yd.nd;refine⟨_,(aC (jg (pv 0) (pv 1) rfl)),?_⟩;clear nd ;rw[stE]
 try dsimp only[bI,aY]
 have F:SH H [y] H [(y,.ins CV dy [])] []:=SH.nil.fQ List.mem_cons_self hy rfl (by simp)
 repeat k_meth
 exact k _ F.kpo aH
theorem TQ(T:Txt K mg c R CH CP CF CT CN CV CB aD ak):Mak P w K mg base (CX1 P w) 6 "Halves" CV ["self","many"] (qe K CV CP (c 0)):=by
 obtain⟨f,hf,hm⟩:=T.Lz;refine(fX (k:=5) hf Fg λf cdv A outer s H vs Q E hr h=>?_).mak hm T.pR;obtain⟨y,dy,v,n1,rfl,hy,ty,kk⟩:=h;have nd:=Fg.nd;refine⟨_,(aC (bK (Ag (Ou T) hr (aj (pv 0) (aj (iy (Tz T) hr (aj (pv 1) ao) (hx:=nj)) ao))))),?_⟩;clear nd;rw[stE]
 try dsimp only[bI,aY,qz]
 rcases kk with⟨n,rfl,side,k⟩|⟨hb,k⟩
 ·have F:SH H [y] H [(y,.ins CV dy [])] []:=SH.nil.fQ List.mem_cons_self hy rfl (by simp)
  repeat k_meth
  exact k x_ dx_ p_ _ F.kpo aH aH aH (F.fresh (LkL.m (o:=.lst _)) (nm1 (SH.neC (F:=F)))) (F.fresh (LkL.m (o:=.ins CP dx_ _)) (nm1 (SH.neC (F:=F))))
 ·have F:=SH.n0 H;have iZ:=om hy;have o_v:gU K H [] v n1:=⟨ty,λ_ _ z=>by cases z⟩;have hm:vO v:=⟨hb⟩
  repeat k_meth
  exact λd H' s e=>k d H' (F.sm.trans s) e
theorem vX(T:Txt K mg c R CH CP CF CT CN CV CB aD ak):Met P w K mg base CX0 17 CV "holes" ["self"] (zj CV CP):=by
 obtain⟨f,hf,hm⟩:=T.yO;refine(fA (k:=16) hf uY λf cdv A outer s H vs Q E hr h=>?_).met hm;obtain⟨y,dy,x,l,dx,n,ys,ts,rfl,nx,k⟩:=h;have nd:=uY.nd;refine⟨_,(aC (aL (bM (cX (pv 0) rfl) T.clP (TF T) hr))),?_⟩;clear nd;rw[stE]
 try dsimp only[bI,aY]
 obtain⟨hy,pk⟩:=nx;obtain⟨hx,hl,tp,gt⟩:=id pk;obtain⟨n1,n2,gd,tl⟩:=id gt;have yl:=aG tp;have iZ:=om hy;have lG:=om hx;have dB:=om hl;have jw:=jC.mk tp;have F:=SH.n0 H
 repeat k_meth
 exact k _ _ _ SH.nwC TpA.e
theorem zu(T:Txt K mg c R CH CP CF CT CN CV CB aD ak):Met P w K mg base CX0 1 CV "mark" ["self"] GJ:=by
 obtain⟨f,hf,hm⟩:=T.Ge;refine(fA (k:=0) hf yj λf cdv A outer s H vs Q E hr h=>?_).met hm;obtain⟨y,rfl,k⟩:=h;have nd:=yj.nd;refine⟨_,(aC (aL aq)),?_⟩;clear nd ;rw[stE]
 try dsimp only[bI,aY]
 have F:=SH.n0 H
 repeat k_meth
 exact k
theorem TV(T:Txt K mg c R CH CP CF CT CN CV CB aD ak):Met P w K mg base CX0 1 CV "rule_word" ["self"] GK:=by
 obtain⟨f,hf,hm⟩:=T.LC;refine(fA (k:=0) hf Fi λf cdv A outer s H vs Q E hr h=>?_).met hm;obtain⟨y,rfl,k⟩:=h;have nd:=Fi.nd;refine⟨_,(aC (aL bL)),?_⟩;clear nd ;rw[stE]
 try dsimp only[bI,aY]
 have F:=SH.n0 H
 repeat k_meth
 exact k
theorem TX(T:Txt K mg c R CH CP CF CT CN CV CB aD ak):Met P w K mg base CX0 8 CV "put" ["self","start","size"] (Ml CV CP):=by
 obtain⟨f,hf,hm⟩:=T.Lp;refine(fA (k:=7) hf Ey λf cdv A outer s H vs Q E hr h=>?_).met hm;obtain⟨y,dy,x,l,dx,n,a,z,ys,ts,rfl,nx,fa,k⟩:=h;have nd:=Ey.nd;refine⟨_,(aC (bK (jm (cX (pv 0) rfl) T.clP (TJ T) hr (aj (pv 1) (aj (pv 2) ao))))),?_⟩;clear nd;rw[stE]
 try dsimp only[bI,aY]
 obtain⟨hy,pk⟩:=nx;obtain⟨hx,hl,tp,gt⟩:=id pk;obtain⟨n1,n2,gd,tl⟩:=id gt;have yl:=aG tp;have nxl:x≠l:=λe=>by rw[e,hl] at hx;cases hx
 have nyl:y≠l:=λe=>by rw[e,hl] at hy;cases hy
 have F:SH H [l] H [(l,.lst ys)] [.tps ys (aF ts)]:=(SH.nil.fQ List.mem_cons_self hl rfl (by simp)).bQ tp;have lG:=Old.mk (M:=[l]) hx (nm1 nxl);have iZ:=Old.mk (M:=[l]) hy (nm1 nyl)
 repeat k_meth
 intro ys'
 repeat k_meth
 exact k _ _ F.kpo aH TpA.e
end
open M22 M44
theorem Ov(ws:xD):(kh ws).length=ws.length:=(mQ ws).length_eq
def zx(CV CP P:Addr)(pos:Pos)(qual:Str):Sp:=λvs H Q _=>Ex9 λ(y dy x l dx:Addr) (n:Nat) (ys:List V) (ts:xD) (ps:xI)=>An6 (vs=[.ref y]) (Hv CV CP H y dy x l dx n ys ts) ((frP n ts).length<64) (H P=some (.tbl ps)) (TabOk pos qual ps H) (∀ps' H1,Kp P H H1->H1 P=some (.tbl ps')->TabOk pos qual ps' H1->∀D zs H2,New H1 H2 D (.lst zs)->aB H2 zs (aF (kh (frP n ts)))->Q (.ref D) H2)
section
variable{P:Program}{w:World}{K:W.Frag}{mg:xC}{base:Heap}{c:Nat->Addr}{aD ak R CH CP CF CT CN CV CB:Addr}
theorem Ow(T:Txt K mg c R CH CP CF CT CN CV CB aD ak)(B:Bm mg base):Met P w K mg base CX0 18 CV "order" ["self"] (zx CV CP ak bW bG):=by
 obtain⟨f,hf,hm⟩:=T.Gi;refine(fA (k:=17) hf yt λf cdv A outer s H vs Q E hr h=>?_).met hm;obtain⟨y,dy,x,l,dx,n,ys,ts,ps,rfl,nx,f64,hP,tk,k⟩:=h;have nd:=yt.nd;refine⟨_,(aC (aL (aK (Gu T B) hr (aj (bM (pv 0) T.clV (vX T) hr) ao)))),?_⟩;clear nd;rw[stE]
 try dsimp only[bI,aY]
 obtain⟨hy,pk⟩:=nx;obtain⟨hx,hl,tp,gt⟩:=id pk;obtain⟨n1,n2,gd,tl⟩:=id gt;have yl:=aG tp;have fl:=Kz n2 gd;have tln:=Ov (frP n ts);have nxP:x≠ak:=λe=>by rw[e,hP] at hx;cases hx
 have nyP:y≠ak:=λe=>by rw[e,hP] at hy;cases hy
 have nlP:l≠ak:=λe=>by rw[e,hP] at hl;cases hl
 have F:SH H [ak] H [(ak,.tbl ps)] [.tps ys (aF ts),eF bW bG ps]:=((SH.nil.fQ List.mem_cons_self hP rfl (by simp)).rD tk).bQ tp;have lG:=Old.mk (M:=[ak]) hx (nm1 nxP);have iZ:=Old.mk (M:=[ak]) hy (nm1 nyP);have dB:=Old.mk (M:=[ak]) hl (nm1 nlP);have sd1:(frP n ts).length<=1000/\(frP n ts).Nodup/\∀w∈frP n ts,w.1<1000000:=⟨by have:=Kz n2 gd;lia,xH n2 gd,λw hw=>by have:=xJ n2 gd hw;lia⟩
 repeat k_meth
 intro qs hq ps_;have eq:=oF hq.1 hq.2;subst eq
 repeat k_meth
 have fd:∀b u,H b=some u->b≠p_:=F.fresh (LkL.m (o:=.lst ys_)) (nm1 (SH.neC (F:=F)));exact two_tab (R:=λH2=>Q _ H2) hP (λb u n e=>F.fr b u (nm1 n) e) aH SH.tab aH fd λH1 a1 a2 a3 H2 a4 e=>k _ H1 a1 a2 a3 _ _ H2 a4 (by rw[e];exact TpA.e)
end
open M22 M44
theorem TY{P:Program}{w:World}{K:W.Frag}{mg:xC}{base:Heap}{k:Nat}{x:Str}{ps:List Str}{sp:Sp}{ds:xE}{st:Stmt}{N:List Str}(h:Kg K mg x st ds)(S:aJ N ps (au st))(len:∀vs H Q E,sp vs H Q E->vs.length=ps.length)
  (hb:∀(d:Addr)(kV doc pm:Value)(an:xL)(cdv ct:Value)(us:xE),us.length=ps.length->∃c:Option (Array Value)->Sem (List (Str×Value)),bindArgs (W.fnOf x x (bF st) (bf st) (au st) (.ref d) kV doc pm an cdv ct) ⟨us,[]⟩=seqItems? (.ref d) >>= c/\c (some ds.toArray)=pure (ps.zip us))
  (hd:∀(d:Addr)(kV doc pm:Value)(an:xL)(cdv ct:Value)(us:xE),(us++ds).length=ps.length->∃c:Option (Array Value)->Sem (List (Str×Value)),bindArgs (W.fnOf x x (bF st) (bf st) (au st) (.ref d) kV doc pm an cdv ct) ⟨us,[]⟩=seqItems? (.ref d) >>= c/\c (some ds.toArray)=pure (ps.zip (us++ds)))
  (hbody:∀(f:Addr)(cdv:Value)(A:Around)(outer:List Env)(s:Shared)(H:Hp)(vs:List V)(Q:VK)(E:XK),Room k (A.deeper (envOfC x (au st) s.heap.objs.size f cdv))->sp vs H Q E ->
   ∃t,PSs (fu (CX1 P w) P w K mg base N x (au st) f cdv A outer s H E) (bf st) t/\t { nx:=λ_ H'=>Q .non H',rt:=Q } (start N vs) H):Rq P w K mg base (CX1 P w) (k+1) x ps sp ds:=by
 obtain⟨f,d,oc,od,kV,doc,pm,an,cdv,ct,osl,o,n,lk,hcd,kp,hm,ld,hdt⟩:=h;refine⟨f,W.fnOf x x (bF st) (bf st) (au st) (.ref d) kV doc pm an cdv ct,?_,hm,kp,λs us kin hl=>?_,λs us kin hl=>?_⟩
 ·exact mY lk hcd S len λA outer s H vs Q E hr hsp=>hbody f cdv A outer s H vs Q E hr hsp
 ·rw[nX] at hl ⊢;obtain⟨c,h1,h2⟩:=hb d kV doc pm an cdv ct us hl;exact BindsTo.of_defaults rfl (kin _ _ ld) hdt h1 h2
 ·obtain⟨c,h1,h2⟩:=hd d kV doc pm an cdv ct us hl;exact BindsTo.of_defaults rfl (kin _ _ ld) hdt h1 h2
inductive K4 where
 | f|t|n|h
 deriving DecidableEq
def bC:K4->Str
 | .f => "first"
 | .t => "tightest"
 | .n => "next"
 | .h => "halves"
def hiK(n:Nat):K4->Int
 | .n=>(n:Nat)
 | _=>0
def acR(CF CT CN CV CH CP:Addr)(n:Nat)(t:Int)(y dy x p dx:Addr):K4->List (Addr×HO)
 | .f=>[(y,.ins CF dy (rF x none)),(x,.ins CH dx (hF (n:Nat) p)),(p,.lst ((List.replicate n true).map V.bl))]
 | .t=>[(y,.ins CT dy (rF x none)),(x,.ins CH dx (hF (n:Nat) p)),(p,.lst ((List.replicate n true).map V.bl))]
 | .n=>[(y,.ins CN dy (rF x (some t))),(x,.ins CH dx (hF (n:Nat) p)),(p,.lst ((List.replicate n true).map V.bl))]
 | .h=>[(y,.ins CV dy (rF x none)),(x,.ins CP dx (pF (n:Nat) p)),(p,.lst [])]
def W0(K:W.Frag)(CF CT CN CV CH CP CM CR:Addr):Sp:=λvs H Q E=>Ex5 λ(v u:V) (n1 n2:String) (d1:PyData)=>An5 (vs=[v,u]) (ThD H v d1) (b_ K H v (.type n1)) (b_ K H u (.type n2)) (((∃(k:K4)(n:Nat),k≠.n/\v=.str (bC k)/\u=.int (n:Nat)/\(16<=n/\n<=240)/\∀y dy x p dx H',SH H [] H' (acR CF CT CN CV CH CP n 0 y dy x p dx k) []->Q (.ref y) H') \/
   ((∀k:K4,v≠.str (bC k))/\∀d H',Same H H'->H' d=some (dJ d [("word", v)])->E (.ref CR) (some d) H') \/
   ((∃k:K4,k≠.n/\v=.str (bC k))/\inB u 16 240=false/\∀d H',Same H H'->H' d=some (dJ d [("many", u)])->E (.ref CM) (some d) H')))
def Ox(K:W.Frag)(CF CT CN CV CH CP CM CL CR:Addr):Sp:=λvs H Q E=>Ex7 λ(v u w:V) (n1 n2 n3:String) (d1:PyData)=>An6 (vs=[v,u,w]) (ThD H v d1) (b_ K H v (.type n1)) (b_ K H u (.type n2)) (b_ K H w (.type n3)) (((∃(k:K4)(n t:Nat),v=.str (bC k)/\u=.int (n:Nat)/\w=.int (t:Nat)/\(16<=n/\n<=240)/\(t:Int)<=hiK n k/\∀y dy x p dx H',SH H [] H' (acR CF CT CN CV CH CP n t y dy x p dx k) []->Q (.ref y) H') \/
   ((∀k:K4,v≠.str (bC k))/\∀d H',Same H H'->H' d=some (dJ d [("word", v)])->E (.ref CR) (some d) H') \/
   ((∃k:K4,v=.str (bC k))/\inB u 16 240=false/\∀d H',Same H H'->H' d=some (dJ d [("many", u)])->E (.ref CM) (some d) H') \/
   (∃(k:K4)(n:Nat),v=.str (bC k)/\u=.int (n:Nat)/\(16<=n/\n<=240)/\inB w 0 (hiK n k)=false/\∀d H',Same H H'->H' d=some (dJ d [("at", w)])->E (.ref CL) (some d) H')))
class IsW(z:Str)(k:outParam K4):Prop where
 e:z=bC k
instance agp:IsW "first" .f:=⟨rfl⟩
instance agq:IsW "tightest" .t:=⟨rfl⟩
instance agr:IsW "next" .n:=⟨rfl⟩
instance ags:IsW "halves" .h:=⟨rfl⟩
class NoW(v:V):Prop where
 e:∀k:K4,v≠.str (bC k)
theorem T3{k j:K4}(h:bC k=bC j):k=j:=by revert h;cases k <;> cases j <;> decide +kernel
section
variable{A B:Prop}{v:V}{z:Str}{k j:K4}
instance afH[h:NoW v][w:IsW z k]:Go (if decide (v=V.str z)=true then A else B) B:=⟨λb=>by rw[gL (λe=>h.e k (by rw[e,w.e]))];exact b⟩
instance (priority:=high) ad2 [w:IsW z k]:Go (if decide (V.str (bC k)=V.str z)=true then A else B) A:=⟨λa=>by rw[gN (by rw[w.e])];exact a⟩
instance afI[w:IsW z j]:Go (if decide (V.str (bC k)=V.str z)=true then A else B) (Sd (k≠j) B):=⟨λb=>by rw[gL (λe=>b.1 (T3 (by rw[<- w.e];injection e)))];exact b.2⟩
end
section
variable{P:Program}{w:World}{K:W.Frag}{mg:xC}{base:Heap}{c:Nat->Addr}{aD ak R CH CP CF CT CN CV CB:Addr}
theorem aak(T:Txt K mg c R CH CP CF CT CN CV CB aD ak):Def P w K mg base (CX1 P w) 8 "rule_without_mark" ["word","many"] (W0 K CF CT CN CV CH CP (c 0) (c 2)):=by
 refine dX T.Sw KJ λf cdv A outer s H vs Q E hr h=>?_
 obtain⟨v,u,n1,n2,d1,rfl,td,ty,uy,kk⟩:=h;have nd:=KJ.nd;refine⟨_,(aA (bB (aN (fU (K:=K) rfl hr) (pv 0) bL (aO _)) (aC (aL (iy (Td T) hr (aj (pv 1) ao) (hx:=nj)))) aR)
  (aA (bB (aN (fU (K:=K) rfl hr) (pv 0) bL (aO _)) (aC (aL (iy (Te T) hr (aj (pv 1) ao) (hx:=nj)))) aR)
  (aA (bB (aN (fU (K:=K) rfl hr) (pv 0) bL (aO _)) (aC (aL (iy (TQ T) hr (aj (pv 1) ao) (hx:=nj)))) aR)
  (aC (jQ T.Fo (nu T.fj (Ss T.fj.S T.iI) hr (aj (pv 0) ao))))))),?_⟩
 clear nd;rw[stE]
 try dsimp only[bI,aY,qz]
 have F:=SH.n0 H;have o_d:ZD H [] v d1:=⟨td,λ_ _ z=>by cases z⟩;have o_v:gU K H [] v n1:=⟨ty,λ_ _ z=>by cases z⟩;have o_u:gU K H [] u n2:=⟨uy,λ_ _ z=>by cases z⟩;rcases kk with⟨k0,n,kn,rfl,rfl,side,k⟩|⟨hv,k⟩|⟨⟨k0,kn,rfl⟩,hb,k⟩
 ·cases k0 with
  | n=>exact gE rfl kn
  | f =>
   repeat k_meth
   rename_i yy dyy _ _;have F2:SH H [] _ [(yy,.ins CF dyy (rF x_ none)),(x_,.ins CH dx_ (hF (n:Nat) p_)),(p_,.lst ((List.replicate n true).map V.bl))] []:=F.sub SbC.s SbI.s;exact k yy dyy x_ p_ dx_ _ F2
  | t =>
   repeat k_meth
   rename_i yy dyy _ _;have F2:SH H [] _ [(yy,.ins CT dyy (rF x_ none)),(x_,.ins CH dx_ (hF (n:Nat) p_)),(p_,.lst ((List.replicate n true).map V.bl))] []:=F.sub SbC.s SbI.s;exact k yy dyy x_ p_ dx_ _ F2
  | h =>
   repeat k_meth
   rename_i yy dyy _ _;have F2:SH H [] _ [(yy,.ins CV dyy (rF x_ none)),(x_,.ins CP dx_ (pF (n:Nat) p_)),(p_,.lst [])] []:=F.sub SbC.s SbI.s;exact k yy dyy x_ p_ dx_ _ F2
 ·have nw:NoW v:=⟨hv⟩
  repeat k_meth
  exact k
 ·have hm:vO u:=⟨hb⟩;cases k0 with
  | n=>exact gE rfl kn
  | f =>
   repeat k_meth
   exact λd H' s e=>k d H' (F.sm.trans s) e
  | t =>
   repeat k_meth
   exact λd H' s e=>k d H' (F.sm.trans s) e
  | h =>
   repeat k_meth
   exact λd H' s e=>k d H' (F.sm.trans s) e
theorem cR(T:Txt K mg c R CH CP CF CT CN CV CB aD ak):∃tk0:Tok,Rq P w K mg base (CX1 P w) 9 "rule_of" ["word","many","mark"] (Ox K CF CT CN CV CH CP (c 0) (c 1) (c 2)) [.int 0 tk0]:=by
 obtain⟨_,vQ⟩:=vQ (P:=P) (w:=w) (base:=base) T;obtain⟨tk0,afJ⟩:=T.Fw;refine⟨tk0,TY afJ xQ (λvs H Q E h=>?_) (λ_ _ _ _ _ _ _=>el3 λ_ _ _=>⟨_,rfl,rfl⟩) (λ_ _ _ _ _ _ _ us hl=>by rcases us with _|⟨a,_|⟨b,_|⟨c,us⟩⟩⟩ <;> first|exact⟨_,rfl,rfl⟩|(exfalso;simp at hl)) (λf cdv A outer s H vs Q E hr h=>?_)⟩
 ·obtain⟨v,u,w,n1,n2,n3,d1,rfl,_⟩:=h
  rfl
 ·obtain⟨v,u,w,n1,n2,n3,d1,rfl,td,ty,uy,wy,kk⟩:=h;have nd:=xQ.nd;refine⟨_,(aA (bB (aN (fU (K:=K) rfl hr) (pv 0) bL (aO _)) (aC (aL (Wb vQ hr (aj (pv 1) (aj (pv 2) ao)) (hx:=nj)))) aR)
   (aA (psz 3 nd (aK (aak T) hr (aj (pv 0) (aj (pv 1) ao)) (hx:=nj)))
   (aA (bB (cD (bN (aK (j8 T) hr (aj (pv 2) (aj aq (aj aq ao)))))) (aC (jQ T.pQ (nu T.cQ (yu T.cQ.S T.gC) hr (aj (pv 2) ao)))) aR)
   (PSs.nox (aC (aL (pv 3))))))),?_⟩
  clear nd;rw[stE]
  try dsimp only[bI,aY,qz]
  have F:=SH.n0 H;have o_d:ZD H [] v d1:=⟨td,λ_ _ z=>by cases z⟩;have o_v:gU K H [] v n1:=⟨ty,λ_ _ z=>by cases z⟩;have o_u:gU K H [] u n2:=⟨uy,λ_ _ z=>by cases z⟩;have o_w:gU K H [] w n3:=⟨wy,λ_ _ z=>by cases z⟩;rcases kk with⟨k0,n,t,rfl,rfl,rfl,side,ht,k⟩|⟨hv,k⟩|⟨⟨k0,rfl⟩,hb,k⟩|⟨k0,n,rfl,rfl,side,hb,k⟩
  ·by_cases hn:k0=.n
   ·subst hn;have side3:16<=n/\n<=240/\t<=n:=⟨side.1,side.2,by have:(t:Int)<=(n:Int):=ht;lia⟩
    repeat k_meth
    rename_i yy dyy _ _;have F2:SH H [] _ [(yy,.ins CN dyy (rF x_ (some t))),(x_,.ins CH dx_ (hF (n:Nat) p_)),(p_,.lst ((List.replicate n true).map V.bl))] []:=F.sub SbC.s SbI.s;exact k yy dyy x_ p_ dx_ _ F2
   ·have ht1:(t:Int)<=0:=by cases k0 <;> first|exact ht|exact gE rfl hn
    have ht0:t=0:=by lia
    clear ht1;subst ht0
    repeat k_meth
    refine⟨_,_,_,_,_,rfl,td,ty,uy,.inl ⟨k0,n,hn,rfl,rfl,side,λy dy x p dx H2 F2=>?_⟩⟩;clear F;have F:=F2
    repeat k_meth
    rw[show (!(decide ((0:Int)<=((0:Nat):Int)) && decide (((0:Nat):Int)<=0)))=false from rfl]
    repeat k_meth
    exact k y dy x p dx _ F
  ·have nw:NoW v:=⟨hv⟩
   repeat k_meth
   exact⟨_,_,_,_,_,rfl,td,ty,uy,.inr (.inl ⟨hv,k⟩)⟩
  ·have hm:vO u:=⟨hb⟩;by_cases hn:k0=.n
   ·subst hn
    repeat k_meth
    exact λd H' s e=>k d H' (F.sm.trans s) e
   ·repeat k_meth
    exact⟨_,_,_,_,_,rfl,td,ty,uy,.inr (.inr ⟨⟨k0,hn,rfl⟩,hb,k⟩)⟩
  ·by_cases hn:k0=.n
   ·subst hn;have hp:acE w n:=⟨hb⟩
    repeat k_meth
    exact λx d H' kp ey e=>k d H' (λb u eb=>kp b u (F.fresh (LkL.m (o:=.ins CN dx_ [])) nm0 b u eb) (F.sm b u eb)) e
   ·have hb0:inB w 0 0=false:=by
     have:hiK n k0=0:=by cases k0 <;> first|rfl|exact gE rfl hn
     rw[this] at hb;exact hb
    repeat k_meth
    refine⟨_,_,_,_,_,rfl,td,ty,uy,.inl ⟨k0,n,hn,rfl,rfl,side,λy dy x p dx H2 F2=>?_⟩⟩;clear F;have F:=F2
    repeat k_meth
    rw[hb0]
    repeat k_meth
    exact λd H' s e=>k d H' (F.sm.trans s) e
end
open M22 M44
open M44
def Oz:Sp:=λvs H Q _=>∃(cl:Int)(m:Nat),An3 (vs=[.int cl,.int (m:Nat)]) (m<=100) (∀(ds:List Int)(p:Addr)(H':Hp),ds.length=m->(∀d∈ds,0<=d/\d<10 ^ 6)->New H H' p (.lst (ds.map V.int))->Q (.ref p) H')
theorem Mp{ds:List Int}{d:Int}(h:∀d∈ds,0<=d/\d<10 ^ 6)(hd:0<=d/\d<10 ^ 6):∀e∈ds++[d],0<=e/\e<10 ^ 6:=by
 intro e he;rcases wP.mp he with h1|h1
 ·exact h e h1
 ·rw[uB.mp h1];exact hd
theorem acS(x:Int):0<=x % 10 ^ 6/\x % 10 ^ 6<10 ^ 6:=⟨Int.emod_nonneg _ (by decide),Int.emod_lt_of_pos _ (by decide)⟩
theorem ints_snoc(ds:List Int)(z:Int):ds.map V.int++[V.int z]=(ds++[z]).map V.int:=by rw[List.map_append];rfl
theorem T4{α:Type}(f:α->Bool)(l:List α)(i:Nat)(w:α)(e:l[i]?=some w):(l.take (i+1)).any f=((l.take i).any f || f w):=by
 rw[List.take_add_one,e,Option.toList,List.any_append];simp
open M44
def clF(tk:Nat->Bool)(n:Nat):List Int:=(List.range n).map λc=>if tk c=true then 1 else 0
theorem su(tk:Nat->Bool)(n:Nat):(clF tk n).length=n:=by simp[clF]
theorem kj{tk:Nat->Bool}{n c:Nat}(h:c<n):(clF tk n)[c]?=some (if tk c=true then 1 else 0):=by
 unfold clF;rw[wS,List.getElem?_range h]
 rfl
theorem T5(n:Nat):(clF (λ_=>false) n).map V.int=List.replicate n (V.int 0):=by
 unfold clF;rw[List.map_map]
 apply List.ext_getElem
 ·simp
 ·intro i h1 h2;simp
theorem W2{tk:Nat->Bool}{n a b:Nat}(h:a+b<=n):((clF tk n).map V.int).take a++List.replicate b (V.int 1)++((clF tk n).map V.int).drop (a+b)=(clF (λc=>tk c || (decide (a<=c) && decide (c<a+b))) n).map V.int:=by
 apply List.ext_getElem?
 intro c;have ll:=su tk n;by_cases hc:c<n
 ·rw[wS,kj hc,Option.map_some];by_cases h1:c<a
  ·rw[vF,yY (by rw[oB,wE,ll];lia),List.getElem?_take,zS h1,wS,kj hc,Option.map_some,gL (by lia),Bool.false_and,Bool.or_false]
  ·by_cases h2:c<a+b
   ·rw[vF,oP (by rw[oB,wE,ll];lia),oB,wE,ll,yY (by rw[mE];lia),List.getElem?_replicate,zS (by lia),gN (by lia),gN h2,Bool.true_and,Bool.or_true,zS rfl]
   ·rw[oP (by rw[yB,oB,mE,wE,ll];lia),yB,oB,mE,wE,ll,List.getElem?_drop,wS,show a+b+(c-(min a n+b))=c by lia,kj hc,Option.map_some,gL (p:=c<a+b) h2,Bool.and_false,Bool.or_false]
 ·rw[mM (by rw[yB,yB,oB,mE,mT,wE,ll];lia),mM (by rw[wE,su];lia)]
theorem T6:∀(xs:List Int),(∀x∈xs,0<=x)->0<=xs.sum/\(xs.sum=0 ↔ ∀x∈xs,x=0)
 | [],_=>by simp
 | x::xs,h=>by
  obtain⟨a,b⟩:=T6 xs λy hy=>h y (zD _ hy)
  have c:=h x zC;rw[List.sum_cons];refine⟨by lia,λe y hy=>?_,λe=>?_⟩
  ·rcases vS.mp hy with rfl|hy
   ·lia
   ·exact b.mp (by lia) y hy
  ·have:=e x zC;have:=b.mpr λy hy=>e y (zD _ hy)
   lia
theorem T7{tk:Nat->Bool}{n p z:Nat}:∀x∈((clF tk n).drop p).take z,0<=x/\x<=1:=λx hx=>by
 have hx:=List.mem_of_mem_drop (List.mem_of_mem_take hx);unfold clF at hx;obtain⟨c,_,rfl⟩:=vT.mp hx;split <;> decide
theorem W3{tk:Nat->Bool}{n p z:Nat}(h:p+z<=n):(((clF tk n).drop p).take z).sum=0 ↔ ∀c,p<=c->c<p+z->tk c=false:=by
 rw[(T6 _ λx hx=>(T7 x hx).1).2]
 constructor
 ·intro hx c h1 h2;have e:(((clF tk n).drop p).take z)[c-p]?=some (if tk c=true then 1 else 0):=by
   rw[List.getElem?_take,zS (by lia),List.getElem?_drop,show p+(c-p)=c by lia,kj (by lia)]
  have:=hx _ (yT e);cases ht:tk c with
  | false=>rfl
  | true=>rw[ht,zS rfl] at this;cases this
 ·intro hc x hx;obtain⟨i,hi,e⟩:=List.getElem_of_mem hx;have hl:i<z:=by rw[oB] at hi;lia
  have e2:(((clF tk n).drop p).take z)[i]?=some x:=by rw[<- e];exact jS hi
  rw[List.getElem?_take,zS hl,List.getElem?_drop,kj (by lia),hc (p+i) (by lia) (by lia)] at e2;simpa using e2.symm
theorem W4{xs:List V}{a b:Nat}(h:a<=b)(hb:b<=xs.length):m5 xs (some (a:Int)) (some (b:Int))=(xs.drop a).take (b-a):=by
 unfold m5;rw[HT.rJ,HT.rJ,show min a xs.length=a by lia,show min b xs.length=b by lia]
theorem W5{ts:xD}{i:Nat}{w:Nat×Nat}(e:ts[i]?=some w):(λc=>tkF (ts.take i) c || (decide (w.1<=c) && decide (c<w.1+w.2)))=tkF (ts.take (i+1)):=by
 funext c
 unfold tkF;exact(T4 _ ts i w e).symm
def T8:Sp:=λvs H Q _=>Ex4 λ(n:Nat) (l:Addr) (ys:List V) (ts:xD)=>An7 (vs=[.int (n:Nat),.ref l]) (16<=n) (n<=240) (H l=some (.lst ys)) (aB H ys (aF ts)) ((∀t∈ts,Pc n t.1 t.2)) (∀p zs H',New H H' p (.lst zs)->aB H' zs (aF (frF (whF n 0 n) ts))->Q (.ref p) H')
def T9:Sp:=λvs H Q _=>Ex4 λ(n:Nat) (l:Addr) (ys:List V) (ts:xD)=>An6 (vs=[.int (n:Nat),.ref l]) (H l=some (.lst ys)) (aB H ys (aF ts)) ((16<=n/\n<=240)) ((ts.length<=40/\(∀w∈ts,1<=w.2/\w.1+w.2<=n)/\ts.Pairwise Dis)) (∀q zs H',New H H' q (.lst zs)->aB H' zs (aF (aP (cells n (cov ts))))->Q (.ref q) H')
theorem OD{ts:xD}(h:ts.Pairwise Dis)(p:∀w∈ts,1<=w.2):ts.Nodup:=h.imp_of_mem λ{a b} ha hb d z=>by
 subst z;have:=p a ha;unfold Dis at d
 lia
theorem W6{n:Nat}{ts qs:xD}(h1:∀w∈ts,1<=w.2/\w.1+w.2<=n)(h2:n<=240)(d:ts.Pairwise Dis)(p:qs.Perm ts)(r:RB qs):M48.UpF n 0 qs:=by
 have d2:qs.Pairwise Dis:=D_ p.symm d;refine⟨λq hq=>⟨(h1 q (p.mem_iff.mp hq)).1,Nat.zero_le _,(h1 q (p.mem_iff.mp hq)).2⟩,?_⟩;refine(d2.and r).imp_of_mem λ{a b} ha hb h=>?_
 have:=(h1 a (p.mem_iff.mp ha));have:=(h1 b (p.mem_iff.mp hb));rcases h.1 with h'|h'
 ·exact h'
 ·have:=h.2;unfold rkP at this
  lia
section
variable{P:Program}{w:World}{K:W.Frag}{mg:xC}{base:Heap}{c:Nat->Addr}{aD ak R CH CP CF CT CN CV CB:Addr}
theorem T_(T:Txt K mg c R CH CP CF CT CN CV CB aD ak):Def P w K mg base CX0 1 "_law_draws" ["_law_cell","_law_many"] Oz:=by
 refine dA T.Fx xR λf cdv A outer s H vs Q E hr h=>?_
 obtain⟨cl,m,rfl,hm,k⟩:=h;have nd:=xR.nd;refine⟨_,(aA (psz 2 nd (aU ao))
  (aA (psz 3 nd (pv 0))
  (aA (gK PassesOwn.never rfl (MF rfl T.Ce (aj (pv 1) ao)) (pgz 4 nd) (aC (bB (aN PK (pv 0) (aM zF aq aq) (aO _)) (aA (bK (cA (pv 2) (aM bV (pv 3) (aM zF aq aq))))
    (aC (psz 3 nd (aM cu (pv 3) (aM zF aq aq))))) (aA (psz 3 nd (aM bV (aM bU (aM bU (aM dg (pv 3) aq) aq) (pv 4)) aq))
    (aC (bK (cA (pv 2) (aM bV (aM cu (aM bV (aM dg (pv 3) aq) aq) aq) (aM zF aq aq)))))))))
  (aC (aL (pv 2)))))),?_⟩
 clear nd ;rw[stE]
 try dsimp only[bI,aY]
 have F:=SH.n0 H
 repeat k_meth
 obtain⟨fd,e_⟩:∃q,q=p_:=⟨_,rfl⟩;subst e_;rw[show ((m:Nat):Int).toNat=m by lia];refine Rh (λi σ' H'=>Ex3 λ(num:Int) (ds:List Int) (o4:Option V)=>An4 (σ'=[some (.int cl),some (.int (m:Nat)),some (.ref fd),some (.int num),o4]) (ds.length=i) ((∀d∈ds,0<=d/\d<10 ^ 6)) (SH H [] H' [(fd,.lst (ds.map V.int))] [])) ⟨cl,[],_,rfl,rfl,(λd h=>by cases h),F⟩ ?_ ?_
 ·clear F;rintro i σ' H' hi ⟨num,ds,_,rfl,hl,hd,F⟩;have hlen:(ds.map V.int).length<sizeLine:=by rw[wE,hl,sizeLine_eq];lia
  repeat k_meth
  refine cC (λh=>?_) (λh=>?_)
  ·repeat k_meth
   rw[show Int.toNat 6=6 from rfl,ints_snoc] at F;exact⟨_,_,_,rfl,by rw[yB,hl];rfl,Mp hd (acS _),F⟩
  ·repeat k_meth
   rw[show Int.toNat 6=6 from rfl,ints_snoc] at F;exact⟨_,_,_,rfl,by rw[yB,hl];rfl,Mp hd (acS _),F⟩
 ·clear F;rintro σ' H' ⟨num,ds,_,rfl,hl,hd,F⟩
  repeat k_meth
  exact k ds _ _ hl hd SH.nwC
theorem oG(T:Txt K mg c R CH CP CF CT CN CV CB aD ak):Def P w K mg base CX0 1 "_law_whole" ["_law_thing"] (nJ K):=by
 refine dA T.Fy xT λf cdv A outer s H vs Q E hr h=>?_
 obtain⟨x,n,rfl,ty,k⟩:=h;have nd:=xT.nd;refine⟨_,(aC (aL (fL (bH dh rfl T.bJ boot_isinstance (aj (pv 0) (aj (wQ (T := "int") rfl T.Sy boot_int) ao))) (fK (GX (bH dh rfl T.bJ boot_isinstance (aj (pv 0) (aj (wQ (T := "bool") rfl T.Jg boot_bool) ao)))))))),?_⟩;clear nd ;rw[stE]
 try dsimp only[bI,aY]
 have F:=SH.n0 H;have o_x:gU K H [] x n:=⟨ty,λ_ _ z=>by cases z⟩
 repeat k_meth
 cases x with
 | int i =>
  rw[show M_ (.int i)=true from rfl]
  repeat k_meth
  exact k
 | bl b =>
  rw[show M_ (.bl b)=true from rfl]
  repeat k_meth
  exact k
 | _ =>
  first|rw[show M_ _=false from rfl]|skip
  repeat k_meth
  exact k
theorem sy(T:Txt K mg c R CH CP CF CT CN CV CB aD ak):Def P w K mg base CX0 1 "_law_free" ["_law_many","_law_taken"] T8:=by
 refine dA T.K1 Ek λf cdv A outer s H vs Q E hr h=>?_
 obtain⟨n,l,ys,ts,rfl,n1,n2,hl,tp,hp,k⟩:=h;have nd:=Ek.nd;refine⟨_,(aA (psz 2 nd (aM zX (aU (aj aq ao)) (pv 0)))
  (aA (gK PassesOwn.never rfl (cj (pv 1)) (lO rfl (cL (pgz 3 nd) (cL (pgz 4 nd) jf))) (aC (sV (aM zX (aU (aj aq ao)) (pv 4)) (V_ (pv 2) (pv 3) (aM bU (pv 3) (pv 4))))))
  (aA (psz 5 nd (aU ao))
  (aA (psz 6 nd aq)
  (aA (jH PassesOwn.never (aN mW (pv 6) (pv 0) (aO _)) (aA (psz 4 nd aq)
   (aA (jH PassesOwn.never (PW.pt (je (aN gh (aM bV (pv 6) (aM dg aq (pv 4))) aq (aO _)) (je (aN h_ (aM bU (pv 6) (aM dg aq (pv 4))) (pv 0) (aO _)) (g8 (aN gh (bH (Nv rfl) rfl T.X_ boot_sum (aj (sX tV (pv 2) (mZ (pv 6)) (mZ (aM bU (pv 6) (aM dg aq (pv 4))))) ao)) aq (aO _)))))) (aC (psz 4 nd (aM dg aq (pv 4)))))
   (aA (bB (aN gh (aW aZ (pv 2) (pv 6) (λ_ _=>rfl)) aq (aO _)) (aC (bK (cA (pv 5) (bw (aj (pv 6) (aj (pv 4) ao)))))) aR)
   (aC (psz 6 nd (aM bU (pv 6) (pv 4))))))))
  (aC (aL (pv 5)))))))),?_⟩
 clear nd ;rw[stE]
 try dsimp only[bI,aY]
 have dB:=om hl;have jw:=jC.mk tp;have F:=SH.n0 H;have yl:=aG tp
 repeat k_meth
 obtain⟨cp,e_⟩:∃q,q=p_:=⟨_,rfl⟩;subst e_;rw[<- T5,show (λ_:Nat=>false)=tkF (ts.take 0) from rfl] at F;refine iw (xs:=ys) (λi σ' H'=>∃o3 o4:Option V,σ'=[some (.int (n:Nat)),some (.ref l),some (.ref cp),o3,o4,none,none]/\SH H [] H' [(cp,.lst ((clF (tkF (ts.take i)) n).map V.int))] [.tps ys (aF ts)]) ⟨_,_,rfl,(F.bQ (tp.same F.sm)).sub SbC.s SbI.s⟩ ?_ ?_ ?_
 ·clear F;rintro i σ' H' hi ⟨_,_,rfl,F⟩;exact SqA.e
 ·clear F;rintro i v σ' H' hv ⟨_,_,rfl,F⟩;obtain⟨w,q,e1,rfl,e2⟩:=dU (H:=H') (ws:=ts) TpA.e hv;obtain⟨kk,y1,y2,y3⟩:=hp w (yT e1);have le1:w.1+w.2<=n:=by rw[y1];exact y3
  have ll:((clF (tkF (ts.take i)) n).map V.int).length=n:=by rw[wE,su]
  have lr:(List.replicate w.2 (V.int 1)).length=w.2:=mE;replace F:=F.Aq e2
  repeat k_meth
  rw[Int.toNat_natCast,show ((w.1:Int)+(w.2:Int)).toNat=w.1+w.2 by lia,W2 le1,W5 e1] at F;exact⟨_,_,rfl,F.sub SbC.s SbI.s⟩
 ·clear F;rintro σ' H' ⟨_,_,rfl,F⟩;rw[yl,List.take_length] at F
  repeat k_meth
  obtain⟨fd,e_⟩:∃q,q=p_:=⟨_,rfl⟩;subst e_;refine oE (λm σ' H'=>Ex5 λ(o3 o4:Option V) (pl:Nat) (L:xD) (zs:List V)=>An7 (σ'=[some (.int (n:Nat)),some (.ref l),some (.ref cp),o3,o4,some (.ref fd),some (.int (pl:Nat))]) (n-pl=m) (pl<=n) (L.length<=pl) (zs.length=L.length) ((∀l',Gr (tkF ts) n pl l'->Gr (tkF ts) n 0 (L++l'))) (SH H [] H' [(fd,.lst zs),(cp,.lst ((clF (tkF ts) n).map V.int))] [.tps zs (aF L)])) ⟨n,_,_,0,[],[],rfl,rfl,by lia,by simp,rfl,λl' h=>h,(F.bQ (ys:=[]) (rs:=aF []) aB.nil).sub SbC.s SbI.s⟩ ?_;clear F;rintro m σ' H' ⟨_,_,pl,L,zs,rfl,rfl,g1,g2,g3,g4,F⟩
  repeat k_meth
  refine cC (λh=>?_) (λh=>?_)
  ·refine⟨λσ' H'=>∃m',m'<_/\_,λσ' H' h=>h,?_⟩
   repeat k_meth
   rename_i o3_ _;refine oE (λm σ' H'=>∃(k2:Nat),An5 (σ'=[some (.int (n:Nat)),some (.ref l),some (.ref cp),o3_,some (.int ((2 ^ k2:Nat):Int)),some (.ref fd),some (.int (pl:Nat))]) (n-2 ^ k2=m) (2 ^ k2<=n) ((k2=0\/C (tkF ts) n pl k2)) (SH H [] H' [(fd,.lst zs),(cp,.lst ((clF (tkF ts) n).map V.int))] [.tps zs (aF L)])) ⟨_,0,rfl,rfl,by simp only[Nat.pow_zero];lia,.inl rfl,F⟩ ?_;clear F;rintro m2 σ' H' ⟨k2,rfl,rfl,hk1,hk,F⟩;have pk:=pos2 k2;have sk:=fH k2;have ll:((clF (tkF ts) n).map V.int).length=n:=by rw[wE,su]
   repeat k_meth
   refine cC (λh1=>?_) (λh1=>?_)
   ·repeat k_meth
    refine cC (λh2=>?_) (λh2=>?_)
    ·repeat k_meth
     rw[show (pl:Int)+2*((2 ^ k2:Nat):Int)=((pl+2 ^ (k2+1):Nat):Int) by lia,W4 (by lia) (by rw[ll];lia),show pl+2 ^ (k2+1)-pl=2 ^ (k2+1) by lia,<- List.map_drop,<- List.map_take] at F;refine⟨p_,((clF (tkF ts) n).drop pl).take (2 ^ (k2+1)),rfl,SqA.e,λx hx=>by have:=T7 x hx;lia,by rw[oB];lia,?_⟩
     repeat k_meth
     have sz:=W3 (tk:=tkF ts) (n:=n) (p:=pl) (z:=2 ^ (k2+1)) (by lia);refine cC (λh3=>?_) (λh3=>?_)
     ·refine⟨λσ' H'=>∃m',m'<_/\_,λσ' H' h=>h,?_⟩
      repeat k_meth
      rw[show 2*((2 ^ k2:Nat):Int)=((2 ^ (k2+1):Nat):Int) by lia];exact⟨n-2 ^ (k2+1),by lia,k2+1,rfl,rfl,by lia,.inr ⟨by rw[show 2*((2 ^ k2:Nat):Int)=((2 ^ (k2+1):Nat):Int) by lia] at h1;lia,by lia,sz.mp h3⟩,F.sub SbC.s SbI.s⟩
     ·have nC:¬ C (tkF ts) n pl (k2+1):=λz=>h3 (sz.mpr z.2.2)
      repeat k_meth
      have a1:AtI ((clF (tkF ts) n).map V.int) (pl:Int) (.int (if tkF ts pl=true then 1 else 0)):=⟨fW (by rw[wS,kj (by lia)];rfl)⟩;cases ht:tkF ts pl with
      | true =>
       rw[ht,zS rfl] at a1;have k0:k2=0:=by
        rcases hk with h9|h9
        ·exact h9
        ·have:=h9.2.2 pl (uA _) (by lia);rw[ht] at this;cases this
       subst k0
       repeat k_meth
       rw[show (pl:Int)+((2 ^ 0:Nat):Int)=((pl+1:Nat):Int) by simp];exact⟨n-(pl+1),by lia,_,_,pl+1,L,zs,rfl,rfl,by lia,by lia,g3,λl' h'=>g4 l' (.skip (by lia) ht h'),F.sub SbC.s SbI.s⟩
      | false =>
       rw[ht,yA (by decide)] at a1;have hC:C (tkF ts) n pl k2:=by
        rcases hk with rfl|h9
        ·exact⟨Nat.mod_one _,by simp only[Nat.pow_zero];lia,λc c1 c2=>by rw[show c=pl by simp only[Nat.pow_zero] at c2;lia];exact ht⟩
        ·exact h9
       have le2:=hC.2.1;have zl2:zs.length<sizeLine:=by rw[sizeLine_eq];lia
       repeat k_meth
       rw[show (pl:Int)+((2 ^ k2:Nat):Int)=((pl+2 ^ k2:Nat):Int) by lia];have tt:aB H_ (zs++[.ref p_]) (aF (L++[(pl,2 ^ k2)])):=by
        rw[eG];exact aB.snoc TpA.e aH
       exact⟨n-(pl+2 ^ k2),by lia,_,_,pl+2 ^ k2,L++[(pl,2 ^ k2)],zs++[.ref p_],rfl,rfl,by lia,by rw[List.length_append];simp only[List.length_cons,List.length_nil];lia,by rw[List.length_append,List.length_append,g3];rfl,λl' h'=>by rw[List.append_assoc];exact g4 _ (.out (by lia) hC nC h'),(F.bQ tt).sub SbC.s SbI.s⟩
    ·have nC:¬ C (tkF ts) n pl (k2+1):=λz=>by have:=z.2.1;lia
     repeat k_meth
     have a1:AtI ((clF (tkF ts) n).map V.int) (pl:Int) (.int (if tkF ts pl=true then 1 else 0)):=⟨fW (by rw[wS,kj (by lia)];rfl)⟩;cases ht:tkF ts pl with
     | true =>
      rw[ht,zS rfl] at a1;have k0:k2=0:=by
       rcases hk with h9|h9
       ·exact h9
       ·have:=h9.2.2 pl (uA _) (by lia);rw[ht] at this;cases this
      subst k0
      repeat k_meth
      rw[show (pl:Int)+((2 ^ 0:Nat):Int)=((pl+1:Nat):Int) by simp];exact⟨n-(pl+1),by lia,_,_,pl+1,L,zs,rfl,rfl,by lia,by lia,g3,λl' h'=>g4 l' (.skip (by lia) ht h'),F.sub SbC.s SbI.s⟩
     | false =>
      rw[ht,yA (by decide)] at a1;have hC:C (tkF ts) n pl k2:=by
       rcases hk with rfl|h9
       ·exact⟨Nat.mod_one _,by simp only[Nat.pow_zero];lia,λc c1 c2=>by rw[show c=pl by simp only[Nat.pow_zero] at c2;lia];exact ht⟩
       ·exact h9
      have le2:=hC.2.1;have zl2:zs.length<sizeLine:=by rw[sizeLine_eq];lia
      repeat k_meth
      rw[show (pl:Int)+((2 ^ k2:Nat):Int)=((pl+2 ^ k2:Nat):Int) by lia];have tt:aB H_ (zs++[.ref p_]) (aF (L++[(pl,2 ^ k2)])):=by
       rw[eG];exact aB.snoc TpA.e aH
      exact⟨n-(pl+2 ^ k2),by lia,_,_,pl+2 ^ k2,L++[(pl,2 ^ k2)],zs++[.ref p_],rfl,rfl,by lia,by rw[List.length_append];simp only[List.length_cons,List.length_nil];lia,by rw[List.length_append,List.length_append,g3];rfl,λl' h'=>by rw[List.append_assoc];exact g4 _ (.out (by lia) hC nC h'),(F.bQ tt).sub SbC.s SbI.s⟩
   ·have nC:¬ C (tkF ts) n pl (k2+1):=λz=>h1 (by
     have:=z.1;rw[show 2*((2 ^ k2:Nat):Int)=((2 ^ (k2+1):Nat):Int) by lia]
     lia)
    repeat k_meth
    have a1:AtI ((clF (tkF ts) n).map V.int) (pl:Int) (.int (if tkF ts pl=true then 1 else 0)):=⟨fW (by rw[wS,kj (by lia)];rfl)⟩;cases ht:tkF ts pl with
    | true =>
     rw[ht,zS rfl] at a1;have k0:k2=0:=by
      rcases hk with h9|h9
      ·exact h9
      ·have:=h9.2.2 pl (uA _) (by lia);rw[ht] at this;cases this
     subst k0
     repeat k_meth
     rw[show (pl:Int)+((2 ^ 0:Nat):Int)=((pl+1:Nat):Int) by simp];exact⟨n-(pl+1),by lia,_,_,pl+1,L,zs,rfl,rfl,by lia,by lia,g3,λl' h'=>g4 l' (.skip (by lia) ht h'),F.sub SbC.s SbI.s⟩
    | false =>
     rw[ht,yA (by decide)] at a1;have hC:C (tkF ts) n pl k2:=by
      rcases hk with rfl|h9
      ·exact⟨Nat.mod_one _,by simp only[Nat.pow_zero];lia,λc c1 c2=>by rw[show c=pl by simp only[Nat.pow_zero] at c2;lia];exact ht⟩
      ·exact h9
     have le2:=hC.2.1;have zl2:zs.length<sizeLine:=by rw[sizeLine_eq];lia
     repeat k_meth
     rw[show (pl:Int)+((2 ^ k2:Nat):Int)=((pl+2 ^ k2:Nat):Int) by lia];have tt:aB H_ (zs++[.ref p_]) (aF (L++[(pl,2 ^ k2)])):=by
      rw[eG];exact aB.snoc TpA.e aH
     exact⟨n-(pl+2 ^ k2),by lia,_,_,pl+2 ^ k2,L++[(pl,2 ^ k2)],zs++[.ref p_],rfl,rfl,by lia,by rw[List.length_append];simp only[List.length_cons,List.length_nil];lia,by rw[List.length_append,List.length_append,g3];rfl,λl' h'=>by rw[List.append_assoc];exact g4 _ (.out (by lia) hC nC h'),(F.bQ tt).sub SbC.s SbI.s⟩
  ·have ge:=g4 [] (.done (by lia));rw[nX] at ge;have ef:=Ww hp (lE n2) ge
   repeat k_meth
   have t9:aB H' zs (aF L):=TpA.e;rw[ef] at t9;exact k _ zs _ SH.nwC t9
theorem sE(T:Txt K mg c R CH CP CF CT CN CV CB aD ak):Def P w K mg base CX0 1 "_law_runs" ["_law_many","_law_taken"] T9:=by
 refine dA T.K3 El λf cdv A outer s H vs Q E hr h=>?_
 obtain⟨n,l,ys,ts,rfl,hl,tp,nn,side,k⟩:=h;have nd:=El.nd;refine⟨_,(aA (psz 2 nd (aU ao))
  (aA (psz 3 nd aq)
  (aA (gK PassesOwn.never rfl (cj (aM dY (bH Iv rfl T.j5 boot_sorted (aj (pv 1) ao)) (aU (aj (bw (aj (pv 0) (aj aq ao))) ao)))) (lO rfl (cL (pgz 4 nd) (cL (pgz 5 nd) jf))) (aA (bB (aN JC (pv 4) (pv 3) (aO _)) (aC (bK (cA (pv 2) (bw (aj (pv 3) (aj (aM oR (pv 4) (pv 3)) ao)))))) aR)
   (aC (psz 3 nd (aM bU (pv 4) (pv 5))))))
  (aC (aL (pv 2)))))),?_⟩
 clear nd ;rw[stE]
 try dsimp only[bI,aY]
 have dB:=om hl;have jw:=jC.mk tp;have F:=SH.n0 H;obtain⟨n1,n2⟩:=nn;obtain⟨t40,tok,dis⟩:=side;have yl:=aG tp
 repeat k_meth
 obtain⟨fd,e⟩:∃z,z=p_:=⟨_,rfl⟩;subst e;have sd1:ts.length<64/\ts.Nodup/\∀w∈ts,w.2<1000000:=⟨by lia,OD dis λw hw=>(tok w hw).1,λw hw=>by have:=tok w hw;lia⟩
 repeat k_meth
 intro qs hq
 repeat k_meth
 rename_i _ sl _ q0;have up:=W6 tok n2 dis hq.1 hq.2;have ql:qs.length<=40:=by rw[hq.1.length_eq];exact t40
 have sd2:ys_.length + [V.ref q0].length<=sizeLine:=by rw[sizeLine_eq,l_];simp;lia
 repeat k_meth
 obtain⟨al,e⟩:∃z,z=p_:=⟨_,rfl⟩;subst e;have t2:aB H_ (ys_++[V.ref q0]) (aF (qs++[(n,0)])):=by
  rw[eG];exact aB.snoc TpA.e aH
 replace F:=F.bQ t2
 generalize hzs:ys_++[V.ref q0]=as at F t2
 have al1:as.length=qs.length+1:=by rw[<- hzs];simp[l_]
 refine iw (xs:=as) (λi σ' H'=>Ex5 λ(o4 o5:Option V) (L:xD) (e:Nat) (zs:List V)=>An5 (σ'=[some (.int (n:Nat)),some (.ref l),some (.ref fd),some (.int (e:Nat)),o4,o5]) (zs.length=L.length) (L.length<=i) (((i<=qs.length/\L++M48.gq n e (qs.drop i)=M48.gq n 0 qs/\e<=n)\/(i=qs.length+1/\L=M48.gq n 0 qs))) (SH H [] H' [(fd,.lst zs),(al,.lst as)] [.tps zs (aF L),.tps as (aF (qs++[(n,0)]))])) ⟨_,_,[],0,[],rfl,rfl,uA _,.inl ⟨Nat.zero_le _,rfl,Nat.zero_le _⟩,(F.bQ (ys:=[]) (rs:=aF []) aB.nil).sub SbC.s SbI.s⟩ ?_ ?_ ?_
 ·clear F;rintro i σ' H' _ ⟨_,_,L,e,zs,rfl,_,_,_,F⟩;exact SqA.e
 ·clear F;rintro i v σ' H' hv ⟨_,_,L,e,zs,rfl,zl,li,inv,F⟩;have hi:=(jI.mp hv).1;obtain⟨w,q,e1,rfl,e2⟩:=dU (H:=H') (ws:=qs++[(n,0)]) TpA.e hv;replace F:=F.Aq e2;obtain⟨i1,i2,i3⟩:i<=qs.length/\L++M48.gq n e (qs.drop i)=M48.gq n 0 qs/\e<=n:=by
   rcases inv with h|h
   ·exact h
   ·lia
  have nx:((e<w.1/\((i+1<=qs.length/\L++[(e,w.1-e)]++M48.gq n (w.1+w.2) (qs.drop (i+1))=M48.gq n 0 qs/\w.1+w.2<=n)\/(i+1=qs.length+1/\L++[(e,w.1-e)]=M48.gq n 0 qs)))\/(¬ e<w.1/\((i+1<=qs.length/\L++M48.gq n (w.1+w.2) (qs.drop (i+1))=M48.gq n 0 qs/\w.1+w.2<=n)\/(i+1=qs.length+1/\L=M48.gq n 0 qs)))):=by
   by_cases hl:i<qs.length
   ·rw[yY hl] at e1;have hd:qs.drop i=w::qs.drop (i+1):=by
     rw[List.drop_eq_getElem_cons hl]
     congr 1
     rw[jS hl] at e1;exact oQ e1
    have wb:=(up.ok w (yT e1)).2.2;rw[hd,M48.R_] at i2;by_cases he:e<w.1
    ·rw[zS he,<- vF] at i2;exact .inl ⟨he,.inl ⟨by lia,i2,wb⟩⟩
    ·rw[yA he,List.nil_append] at i2;exact .inr ⟨he,.inl ⟨by lia,i2,wb⟩⟩
   ·have hq':i=qs.length:=by lia
    subst hq';rw[oP (uA _),Nat.sub_self] at e1;obtain rfl:w=(n,0):=(oQ e1).symm;rw[List.drop_length,M48.Wy] at i2;by_cases he:e<n
    ·rw[zS he] at i2;exact .inl ⟨he,.inr ⟨rfl,i2⟩⟩
    ·rw[yA he,nX] at i2;exact .inr ⟨he,.inr ⟨rfl,i2⟩⟩
  repeat k_meth
  refine cC (λh=>?_) (λh=>?_)
  ·have h:e<w.1:=by lia
   have nx2:=(nx.resolve_right λz=>z.1 h).2;have zl2:zs.length<sizeLine:=by rw[sizeLine_eq,zl];lia
   repeat k_meth
   rw[show (w.1:Int)+(w.2:Int)=((w.1+w.2:Nat):Int) by lia];have t3:aB H_ (zs++[.ref p_]) (aF (L++[(e,w.1-e)])):=by
    rw[eG];refine aB.snoc TpA.e ?_;show H_ p_=some (.tup [.int (e:Nat),.int ((w.1-e:Nat):Int)]);rw[show ((w.1-e:Nat):Int)=(w.1:Int)-(e:Int) by lia];exact aH
   exact⟨_,_,L++[(e,w.1-e)],w.1+w.2,zs++[.ref p_],rfl,by simp[zl],by simp;lia,nx2,(F.bQ t3).sub SbC.s SbI.s⟩
  ·have h:¬ e<w.1:=by lia
   have nx2:=(nx.resolve_left λz=>h z.1).2
   repeat k_meth
   rw[show (w.1:Int)+(w.2:Int)=((w.1+w.2:Nat):Int) by lia];exact⟨_,_,L,w.1+w.2,zs,rfl,zl,by lia,nx2,F.sub SbC.s SbI.s⟩
 ·clear F;rintro σ' H' ⟨_,_,L,e,zs,rfl,zl,li,inv,F⟩;rcases inv with h|⟨_,h⟩
  ·lia
  rw[h,M48.Ob up hq.1] at F
  repeat k_meth
  exact k _ _ _ SH.nwC TpA.e
end
open M22 M44
def afK(ws:xD)(t:Int):K4->List (Nat×Nat)
 | .f=>ws
 | .t=>kh ws
 | .n=>j9 ws t
 | .h=>kh ws
instance ad3{k:K4}:TxA (bC k):=by cases k <;> exact qD (by decide) (by decide)
def OJ:Sp:=λvs H Q _=>Ex5 λ(k:K4) (t:Int) (l:Addr) (ys:List V) (ws:xD)=>An5 (vs=[.str (bC k),.int t,.ref l]) (H l=some (.lst ys)) (aB H ys (aF ws)) ((ws.length<64/\ws.Nodup/\∀w∈ws,w.1<1000000)) (∀q zs H',Same H H'->H' q=some (.lst zs)->aB H' zs (aF (afK ws t k))->Q (.ref q) H')
def afL(CF CT CN CV:Addr):K4->Addr
 | .f=>CF
 | .t=>CT
 | .n=>CN
 | .h=>CV
def O1(CF CT CN CV:Addr):Sp:=λvs H Q _=>Ex4 λ(k:K4) (y dy:Addr) (fs:List (Str×V))=>An3 (vs=[.str (bC k),.ref y]) (H y=some (.ins (afL CF CT CN CV k) dy fs)) (∀H',Same H H'->Q (.bl true) H')
def k4s:List K4:=[.f,.t,.n,.h]
def w4s:List V:=[V.str (Str.ofString "first"),V.str (Str.ofString "tightest"),V.str (Str.ofString "next"),V.str (Str.ofString "halves")]
theorem Mq{i:Nat}{v:V}(h:w4s[i]?=some v):∃k',k4s[i]?=some k'/\v=V.str (bC k'):=by
 match i,h with
 | 0,h=>exact⟨_,rfl,(oQ h).symm⟩
 | 1,h=>exact⟨_,rfl,(oQ h).symm⟩
 | 2,h=>exact⟨_,rfl,(oQ h).symm⟩
 | 3,h=>exact⟨_,rfl,(oQ h).symm⟩
theorem Mr{k:K4}{ys:List V}(hB:∀(i:Nat)(y:V),ys[i]?=some y->∃k',k4s[i]?=some k'/\y=V.bl (decide (V.str (bC k)=V.str (bC k'))))(yl:ys.length=4):ys=k4s.map λk'=>V.bl (decide (V.str (bC k)=V.str (bC k'))):=by
 refine List.ext_getElem? λi=>?_
 rw[wS];cases h:ys[i]? with
 | none =>
  rw[List.getElem?_eq_none_iff] at h;rw[List.getElem?_eq_none_iff.mpr (show 4<=i by lia)]
  rfl
 | some y =>
  obtain⟨e,e1,rfl⟩:=hB i y h;rw[e1]
  rfl
theorem oH{K:W.Frag}{H:Hp}{Q:VK}{p q:Addr}{vs:List V}(h:H p=some (.lst vs))(g:H q=some (.lst vs))(f:vs.all cP=true)(d:gA (.lst (vs.map eE))<=100)(k:Q (.bl true) H):QX K (.ref p) (.ref q) H Q:=by
 have r:∀{x:Addr},H x=some (.lst vs)->Rep K H (.lst (vs.map eE)) (.ref x):=λ{x} h=>by
  simp only[Rep];exact⟨_,_,rfl,SqL.of h,gF (by simpa using f)⟩
 exact⟨_,_,r h,r g,d,by rw[kO];exact k⟩
theorem isK{K:W.Frag}{H:Hp}{Q:VK}{y C D dy:Addr}{fs:List (Str×V)}{b:Bool}(h:H y=some (.ins C dy fs))(cl:Cls K C)(ha:W.findIn K (.ref C) "__class__" = some (some (.builtin "object.__class__")))(hn:W.specialIn K (.builtin "object.__class__") "__get__" = some (some (.builtin "getset_descriptor.__get__")))(ht:W.takesIn K (.builtin "object.__class__")=some true)(hm:W.mroIn K C (.type "object")=some true)(e:W.kitOne K (.ref C) (.ref D)=some b)(k:Q (.bl b) H):rB K [.ref y,.ref D] H Q:=⟨.ref y,_,_,b,rfl,.ins h cl ha hn ht hm,e,k⟩
section
variable{P:Program}{w:World}{K:W.Frag}{mg:xC}{base:Heap}{c:Nat->Addr}{aD ak R CH CP CF CT CN CV CB:Addr}
theorem Jr(T:Txt K mg c R CH CP CF CT CN CV CB aD ak):IW K mg "_law_by_size":=HasDef.sw8 T.yH rfl ⟨rfl,rfl,rfl,by decide +kernel,by decide +kernel,by decide⟩ (λ_ _ _ _ _ _=>el1 λ_=>rfl)
theorem oJ(T:Txt K mg c R CH CP CF CT CN CV CB aD ak):Def P w K mg base CX0 1 "_law_order" ["_law_word","_law_mark","_law_holes"] OJ:=by
 refine dA T.Fz xV λf cdv A outer s H vs Q E hr h=>?_
 obtain⟨k0,t,l,ys,ws,rfl,hl,tp,side,k⟩:=h;have nd:=xV.nd;refine⟨_,(aA (bB (aN (fU (K:=K) rfl hr) (pv 0) bL (aO _)) (aC (aL (pv 2))) aR)
  (aA (bB (aN (fU (K:=K) rfl hr) (pv 0) bL (aO _)) (aC (aL (aM dY (ji (N:=["_law_hole","_law_mark"]) (nt:=1) (fr:=[1]) (cj (pv 2)) (λ_ _ _ _=>(cN (i:=0) (show (["_law_hole","_law_mark"]:List Str).Nodup from by decide +kernel) rfl (Or.inl rfl))) (λ_ _ _ _=>dW (aN PK (aW (rK (K:=K) rfl) (pv 0) aq (λ_ _=>rfl)) (pv 1) (aO _))) (λ_ _ _ _=>(pv 0))) (ji (N:=["_law_hole","_law_mark"]) (nt:=1) (fr:=[1]) (cj (pv 2)) (λ_ _ _ _=>(cN (i:=0) (show (["_law_hole","_law_mark"]:List Str).Nodup from by decide +kernel) rfl (Or.inl rfl))) (λ_ _ _ _=>dW (aN mW (aW (rK (K:=K) rfl) (pv 0) aq (λ_ _=>rfl)) (pv 1) (aO _))) (λ_ _ _ _=>(pv 0)))))) aR)
  (aC (aL (N5 (Jr T) rfl hr rfl T.j5 (aj (pv 2) ao)))))),?_⟩
 clear nd ;rw[stE]
 try dsimp only[bI,aY]
 have dB:=om hl;have jw:=jC.mk tp;have F:=SH.n0 H;obtain⟨ag4,nd,sm⟩:=side;have yl:=aG tp;have sd1:ws.length<64/\ws.Nodup/\∀w∈ws,w.1<1000000:=⟨by lia,nd,sm⟩;cases k0 with
 | f =>
  repeat k_meth
  exact k _ _ _ F.sm aH TpA.e
 | t =>
  repeat k_meth
  intro qs hq;have eq:=oF hq.1 hq.2;subst eq
  repeat k_meth
  exact k _ _ _ F.sm aH TpA.e
 | h =>
  repeat k_meth
  intro qs hq;have eq:=oF hq.1 hq.2;subst eq
  repeat k_meth
  exact k _ _ _ F.sm aH TpA.e
 | n =>
  repeat k_meth
  refine Ck (P:=geV t) (fvs:=[some (.int t)]) aH (TpA.e (rs:=aF ws)) (by lia) rfl (λi ys H'=>aB H' ys (((aF ws).take i).filter (geV t))) (λi ys H1 H2 s t=>rZ s t) aB.nil (λi q1 r H' R e1 s1 e2 kk=>?_) (λi q1 r ys H' R e1 hp s1 e2 g kk=>?_) (λi r ys H' e1 hp g=>by rw[eV e1,List.filter_append,List.filter_cons_of_neg (by simp[hp]),List.filter_nil,List.append_nil];exact g) λqa ya Ha na ga=>?_
  ·clear F;have F:SH H' [] H' [] []:=SH.nil;obtain⟨w0,_,rfl⟩:=vT.mp (yT e1);have aac:=om e2
   repeat k_meth
   exact kk _ (Same.refl _)
  ·repeat k_meth
   refine kk _ _ (Same.refl _) ?_;rw[eV e1,List.filter_append,List.filter_cons_of_pos hp,List.filter_nil];exact aB.snoc g e2
  ·rw[nI (by rw[L2.aG];lia),L_] at ga;replace F:=F.newR na ga;have f1:=List.length_filter_le (λw:Nat×Nat=>decide (t<=(w.1:Int))) ws;have f2:=List.length_filter_le (λw:Nat×Nat=>decide ((w.1:Int)<t)) ws;have la:ya.length<=1000:=by rw[ga.1,L2.aG];lia
   clear na ga
   repeat k_meth
   refine Ck (P:=ltV t) (fvs:=[some (.int t)]) aH (TpA.e (rs:=aF ws)) (by lia) rfl (λi ys H'=>aB H' ys (((aF ws).take i).filter (ltV t))) (λi ys H1 H2 s t=>rZ s t) aB.nil (λi q1 r H' R e1 s1 e2 kk=>?_) (λi q1 r ys H' R e1 hp s1 e2 g kk=>?_) (λi r ys H' e1 hp g=>by rw[eV e1,List.filter_append,List.filter_cons_of_neg (by simp[hp]),List.filter_nil,List.append_nil];exact g) λqb yb Hb nb gb=>?_
   ·clear F;have F:SH H' [] H' [] []:=SH.nil;obtain⟨w0,_,rfl⟩:=vT.mp (yT e1);have aac:=om e2
    repeat k_meth
    exact kk _ (Same.refl _)
   ·repeat k_meth
    refine kk _ _ (Same.refl _) ?_;rw[eV e1,List.filter_append,List.filter_cons_of_pos hp,List.filter_nil];exact aB.snoc g e2
   ·rw[nI (by rw[L2.aG];lia),Mf] at gb;replace F:=F.newR nb gb;have lb:yb.length<=1000:=by rw[gb.1,L2.aG];lia
    clear nb gb
    repeat k_meth
    refine k _ _ _ F.sm aH ?_;show aB _ _ (aF (j9 ws t));unfold j9;rw[yR];exact Gs TpA.e TpA.e
theorem oK(T:Txt K mg c R CH CP CF CT CN CV CB aD ak):Def P w K mg base CX0 1 "_law_class" ["_law_word","_law_rule"] (O1 CF CT CN CV):=by
 refine dA T.FJ xW λf cdv A outer s H vs Q E hr h=>?_
 obtain⟨k0,y,dy,fs,rfl,hy,k⟩:=h;have nd:=xW.nd;refine⟨_,(aA (bB (cD (bN (bH dh rfl T.bJ boot_isinstance (aj (pv 1) (aj (jy (v:=.ref CB) ⟨_,T.lu,rfl⟩) ao))))) (aC (aL cZ)) aR)
  (aA (psz 2 nd (aU (aj (bH dh rfl T.bJ boot_isinstance (aj (pv 1) (aj (jy (v:=.ref CF) ⟨_,T.vD,rfl⟩) ao))) (aj (bH dh rfl T.bJ boot_isinstance (aj (pv 1) (aj (jy (v:=.ref CT) ⟨_,T.j7,rfl⟩) ao))) (aj (bH dh rfl T.bJ boot_isinstance (aj (pv 1) (aj (jy (v:=.ref CN) ⟨_,T.Ci,rfl⟩) ao))) (aj (bH dh rfl T.bJ boot_isinstance (aj (pv 1) (aj (jy (v:=.ref CV) ⟨_,T.pR,rfl⟩) ao))) ao))))))
  (aC (aL (cM (dM hr) (pv 2) (ji (N:=["_law_other","_law_word"]) (nt:=1) (fr:=[0]) (cj (aU (aj bL (aj bL (aj bL (aj bL ao)))))) (λ_ _ _ _=>(cN (i:=0) (show (["_law_other","_law_word"]:List Str).Nodup from by decide +kernel) rfl (Or.inl rfl))) (λ_ _ _ _=>zM) (λ_ _ _ _=>(cM (fU (K:=K) rfl hr) (pv 1) (pv 0) (aO _)))) (aO _)))))),?_⟩
 clear nd ;rw[stE]
 try dsimp only[bI,aY]
 have F:=SH.n0 H;cases k0 with
 | f =>
  have hy:H y=some (.ins CF dy fs):=hy;have iZ:=om hy
  repeat k_meth
  refine isK aH T.clF T.qM T.gW T.gY T.qN T.ccF_k ?_
  repeat k_meth
  refine isK aH T.clF T.qM T.gW T.gY T.qN T.ccFF ?_
  repeat k_meth
  refine isK aH T.clF T.qM T.gW T.gY T.qN T.ccFT ?_
  repeat k_meth
  refine isK aH T.clF T.qM T.gW T.gY T.qN T.ccFN ?_
  repeat k_meth
  refine isK aH T.clF T.qM T.gW T.gY T.qN T.ccFV ?_
  repeat k_meth
  refine comp_map (fvs:=[some (.str (bC K4.f))]) (P:=λi y=>∃k',k4s[i]?=some k'/\y=V.bl (decide (V.str (bC K4.f)=V.str (bC k')))) (d9 (xs:=w4s)) (by decide) rfl (λH' s=>s.seq SqA.e) (λi v H1 R hv s1 kk=>?_) λlq H1 ys nw yl hB=>?_
  ·obtain⟨k',e1,rfl⟩:=Mq hv;clear F;have F:=SH.n0 H1
   repeat k_meth
   exact kk _ _ (Same.refl _) ⟨_,e1,rfl⟩
  ·have ey:=Mr hB yl;replace F:=F.newL nw;rw[ey,show (k4s.map λk'=>V.bl (decide (V.str (bC K4.f)=V.str (bC k'))))=[.bl true,.bl false,.bl false,.bl false] by decide +kernel] at F
   repeat k_meth
   refine oH aH aH rfl (by decide +kernel) ?_
   repeat k_meth
   exact k _ F.sm
 | t =>
  have hy:H y=some (.ins CT dy fs):=hy;have iZ:=om hy
  repeat k_meth
  refine isK aH T.clT T.qO T.gW T.gY T.qP T.ccT_k ?_
  repeat k_meth
  refine isK aH T.clT T.qO T.gW T.gY T.qP T.ccTF ?_
  repeat k_meth
  refine isK aH T.clT T.qO T.gW T.gY T.qP T.ccTT ?_
  repeat k_meth
  refine isK aH T.clT T.qO T.gW T.gY T.qP T.ccTN ?_
  repeat k_meth
  refine isK aH T.clT T.qO T.gW T.gY T.qP T.ccTV ?_
  repeat k_meth
  refine comp_map (fvs:=[some (.str (bC K4.t))]) (P:=λi y=>∃k',k4s[i]?=some k'/\y=V.bl (decide (V.str (bC K4.t)=V.str (bC k')))) (d9 (xs:=w4s)) (by decide) rfl (λH' s=>s.seq SqA.e) (λi v H1 R hv s1 kk=>?_) λlq H1 ys nw yl hB=>?_
  ·obtain⟨k',e1,rfl⟩:=Mq hv;clear F;have F:=SH.n0 H1
   repeat k_meth
   exact kk _ _ (Same.refl _) ⟨_,e1,rfl⟩
  ·have ey:=Mr hB yl;replace F:=F.newL nw;rw[ey,show (k4s.map λk'=>V.bl (decide (V.str (bC K4.t)=V.str (bC k'))))=[.bl false,.bl true,.bl false,.bl false] by decide +kernel] at F
   repeat k_meth
   refine oH aH aH rfl (by decide +kernel) ?_
   repeat k_meth
   exact k _ F.sm
 | n =>
  have hy:H y=some (.ins CN dy fs):=hy;have iZ:=om hy
  repeat k_meth
  refine isK aH T.clN T.qQ T.gW T.gY T.qT T.ccN_k ?_
  repeat k_meth
  refine isK aH T.clN T.qQ T.gW T.gY T.qT T.ccNF ?_
  repeat k_meth
  refine isK aH T.clN T.qQ T.gW T.gY T.qT T.ccNT ?_
  repeat k_meth
  refine isK aH T.clN T.qQ T.gW T.gY T.qT T.ccNN ?_
  repeat k_meth
  refine isK aH T.clN T.qQ T.gW T.gY T.qT T.ccNV ?_
  repeat k_meth
  refine comp_map (fvs:=[some (.str (bC K4.n))]) (P:=λi y=>∃k',k4s[i]?=some k'/\y=V.bl (decide (V.str (bC K4.n)=V.str (bC k')))) (d9 (xs:=w4s)) (by decide) rfl (λH' s=>s.seq SqA.e) (λi v H1 R hv s1 kk=>?_) λlq H1 ys nw yl hB=>?_
  ·obtain⟨k',e1,rfl⟩:=Mq hv;clear F;have F:=SH.n0 H1
   repeat k_meth
   exact kk _ _ (Same.refl _) ⟨_,e1,rfl⟩
  ·have ey:=Mr hB yl;replace F:=F.newL nw;rw[ey,show (k4s.map λk'=>V.bl (decide (V.str (bC K4.n)=V.str (bC k'))))=[.bl false,.bl false,.bl true,.bl false] by decide +kernel] at F
   repeat k_meth
   refine oH aH aH rfl (by decide +kernel) ?_
   repeat k_meth
   exact k _ F.sm
 | h =>
  have hy:H y=some (.ins CV dy fs):=hy;have iZ:=om hy
  repeat k_meth
  refine isK aH T.clV T.qU T.gW T.gY T.qW T.ccV_k ?_
  repeat k_meth
  refine isK aH T.clV T.qU T.gW T.gY T.qW T.ccVF ?_
  repeat k_meth
  refine isK aH T.clV T.qU T.gW T.gY T.qW T.ccVT ?_
  repeat k_meth
  refine isK aH T.clV T.qU T.gW T.gY T.qW T.ccVN ?_
  repeat k_meth
  refine isK aH T.clV T.qU T.gW T.gY T.qW T.ccVV ?_
  repeat k_meth
  refine comp_map (fvs:=[some (.str (bC K4.h))]) (P:=λi y=>∃k',k4s[i]?=some k'/\y=V.bl (decide (V.str (bC K4.h)=V.str (bC k')))) (d9 (xs:=w4s)) (by decide) rfl (λH' s=>s.seq SqA.e) (λi v H1 R hv s1 kk=>?_) λlq H1 ys nw yl hB=>?_
  ·obtain⟨k',e1,rfl⟩:=Mq hv;clear F;have F:=SH.n0 H1
   repeat k_meth
   exact kk _ _ (Same.refl _) ⟨_,e1,rfl⟩
  ·have ey:=Mr hB yl;replace F:=F.newL nw;rw[ey,show (k4s.map λk'=>V.bl (decide (V.str (bC K4.h)=V.str (bC k'))))=[.bl false,.bl false,.bl false,.bl true] by decide +kernel] at F
   repeat k_meth
   refine oH aH aH rfl (by decide +kernel) ?_
   repeat k_meth
   exact k _ F.sm
end
open M22 M44
inductive Chg(K:W.Frag)(H:Hp):V->PyData->PyData->Prop
 | keep {v:V} {d:PyData} {n:String} (t:ThD H v d) (ty:b_ K H v (.type n)) (nl:(n == "list")=false):Chg K H v d d
 | lst {p:Addr} {vs:List V} (e:H p=some (.lst vs)) (n:vs.length<=5) (h:∀v∈vs,cP v=true) (z:Shm 500 1 (.list (vs.map flD))) (z2:Shm 500 1 (.list ((vs++[V.int 5]).map flD))):Chg K H (.ref p) (.list (vs.map flD)) (.list ((vs++[V.int 5]).map flD))
theorem Chg.th{K:W.Frag}{H:Hp}{v:V}{d d':PyData}(c:Chg K H v d d'):ThD H v d:=by
 cases c with
 | keep t _ _=>exact t
 | lst e _ h z _=>exact .lst e h z
theorem Chg.kept{K:W.Frag}{H H':Hp}{v:V}{d d':PyData}(c:Chg K H v d d')(s:Same H H'):Chg K H' v d d':=by
 cases c with
 | keep t ty nl=>exact .keep (t.kept λ_ _ _ e=>s _ _ e) (ty.same s) nl
 | lst e n h z z2=>exact .lst (s _ _ e) n h z z2
def i_(H H':Hp)(v:V):Prop:=∀a ws,v=.ref a->H' a=some (.lst ws)->∀b u,H b=some u->b≠a
theorem qg{i lo hi:Int}(h:¬ (lo<=i/\i<=hi)):inB (.int i) lo hi=false:=by
 show (decide (lo<=i) && decide (i<=hi))=false;rw[Bool.and_eq_false_iff,decide_eq_false_iff_not,decide_eq_false_iff_not]
 lia
theorem eY{H H':Hp}{v:V}(h:cP v=true):i_ H H' v:=λa ws e=>by rw[e] at h;cases h
theorem cU{H H':Hp}{p:Addr}{o:HO}(n:New H H' p o):i_ H H' (.ref p):=λa ws e _=>by
 cases e;exact n.n
theorem dZ{H H':Hp}{p:Addr}{o:HO}(e:H' p=some o)(h:(match o with|.lst _=>false|_=>true)=true):i_ H H' (.ref p):=λa ws z q=>by
 cases z;rw[e] at q;cases q;cases h
def Ms(v:V):Prop:=∀k:K4,v≠.str (bC k)
def noW:V->Bool
 | .str z=>decide (z ≠ "first") && decide (z ≠ "tightest") && decide (z ≠ "next") && decide (z ≠ "halves")
 | _=>true
theorem gj{v:V}(h:noW v=true):Ms v:=λk e=>by
 subst e;cases k <;> revert h <;> decide +kernel
def W7(K:W.Frag):Sp:=λvs H Q _=>∃c:Int,An3 (vs=[.int c]) ((0<=c/\c<1000000)) (∀v d d' H',Same H H'->Chg K H' v d d'->Ms v->i_ H H' v->Q v H')
def GP(K:W.Frag):Sp:=λvs H Q _=>Ex9 λ(k0:K4) (n:Nat) (l:Addr) (e0 e1 e2 e3 e4 e5:Int)=>An5 (vs=[.str (bC k0),.int (n:Nat),.ref l]) (H l=some (.lst [.int e0,.int e1,.int e2,.int e3,.int e4,.int e5])) ((16<=n/\n<=240)) ((0<=e2/\e2<1000000/\0<=e5/\e5<1000000)) (∀v d d' H',Same H H'->Chg K H' v d d'->inB v 0 (hiK n k0)=false->i_ H H' v->Q v H')
section
variable{K:W.Frag}{H:Hp}{z:Str}{t:Nat}{a:Addr}{i:Int}
theorem Cq{i:Int}(h:i.natAbs<10 ^ 40):ThD H (.int i) (.int i):=(Wh (f:=ZF (t:=⟨h⟩)):ThA H (.int i) (.int i)).e
theorem sG{i:Int}(h:i.natAbs<10 ^ 40):Shm 41 0 (.int i):=JZ (k:=40) (by decide) h (by decide)
instance agt[h:Hat H a (.tup [.int i])][m:NmA i]:ThA H (.ref a) (.tuple [.int i]):=⟨.tup (vs:=[.int i]) h.e (by simp[cP]) ((VL (m:=41) (d:=0) (λx hx=>by rw[show x=flD (.int i) by simpa using hx];exact sG m.z)).mono (by simp) (by decide))⟩
instance Mt[h:Hat H a (.dK [])]:ThA H (.ref a) (.dict []):=⟨.dct h.e⟩
instance agu:TxA "":=qD (by decide) (by decide)
instance agv:TxA "First":=qD (by decide) (by decide)
instance agw:TxA "halve":=qD (by decide) (by decide)
instance agx:TxA "next ":=qD (by decide) (by decide)
instance agy:TxA "0":=qD (by decide) (by decide)
instance agz:TxA "halvess":=qD (by decide) (by decide)
instance agA:TxA "64":=qD (by decide) (by decide)
instance ag5:NmA 0:=⟨by decide⟩
theorem lF(h:H a=some (.tup [.str "first"])):Chg K H (.ref a) (.tuple ([V.str "first"].map flD)) (.tuple ([V.str "first"].map flD)):=.keep (.tup (vs:=[.str "first"]) h (by simp[cP]) ⟨by decide +kernel,by decide +kernel,by decide +kernel⟩) (.tup h) rfl
theorem oM(h:H a=some (.lst [.str "next"])):Chg K H (.ref a) (.list ([V.str "next"].map flD)) (.list (([V.str "next"]++[V.int 5]).map flD)):=.lst (vs:=[.str "next"]) h (by decide) (by simp[cP]) ⟨by decide +kernel,by decide +kernel,by decide +kernel⟩ ⟨by decide +kernel,by decide +kernel,by decide +kernel⟩
theorem Cr(h:H a=some (.lst [])):Chg K H (.ref a) (.list ([].map flD)) (.list (([]++[V.int 5]).map flD)):=.lst (vs:=[]) h (by decide) (by simp) ⟨by decide +kernel,by decide +kernel,by decide +kernel⟩ ⟨by decide +kernel,by decide +kernel,by decide +kernel⟩
theorem Cu(h:H a=some (.lst [.int i]))[m:NmA i]:Chg K H (.ref a) (.list ([V.int i].map flD)) (.list (([V.int i]++[V.int 5]).map flD)):=.lst (vs:=[.int i]) h (by simp) (by simp[cP])
 ((Dm (m:=41) (d:=0) (λx hx=>by rw[show x=flD (.int i) by simpa using hx];exact sG m.z)).mono (by simp) (by decide))
 ((Dm (m:=41) (d:=0) (λx hx=>by
  rcases(show x=flD (.int i)\/x=flD (.int 5) by simpa using hx) with rfl|rfl
  ·exact sG m.z
  ·exact sG (by decide))).mono (by simp) (by decide))
end
section
variable{P:Program}{w:World}{K:W.Frag}{mg:xC}{base:Heap}{c:Nat->Addr}{aD ak R CH CP CF CT CN CV CB:Addr}
theorem aal(T:Txt K mg c R CH CP CF CT CN CV CB aD ak):Def P w K mg base CX0 1 "_law_odd" ["_law_cell"] (W7 K):=by
 refine dA T.Sx KN λf cdv A outer s H vs Q E hr h=>?_
 obtain⟨c0,rfl,sd0,k⟩:=h;have nd:=KN.nd
 refine' ⟨_,?bd0,?main⟩
 case bd0 =>
  refine' aC ?s1
  case s1 =>
   refine' aL ?e2
   case e2 =>
    refine' aW ?w3 ?x3 ?y3 ?z3
    case w3=>exact aZ
    case z3=>exact(λ_ _=>rfl)
    case y3=>exact(aM bV (pv 0) aq)
    case x3 =>
     refine' aU ?p4
     case p4 =>
      refine' aj ?a5 ?b5 ?c5
      case a5=>exact zB
      case c5=>first|with_reducible rfl|rfl
      case b5 =>
       refine' aj ?a6 ?b6 ?c6
       case a6=>exact cZ
       case c6=>first|with_reducible rfl|rfl
       case b6 =>
        refine' aj ?a7 ?b7 ?c7
        case a7=>exact cZ
        case c7=>first|with_reducible rfl|rfl
        case b7 =>
         refine' aj ?a8 ?b8 ?c8
         case a8=>exact bL
         case c8=>first|with_reducible rfl|rfl
         case b8 =>
          refine' aj ?a9 ?b9 ?c9
          case a9=>exact bL
          case c9=>first|with_reducible rfl|rfl
          case b9 =>
           refine' aj ?a10 ?b10 ?c10
           case a10=>exact bL
           case c10=>first|with_reducible rfl|rfl
           case b10 =>
            refine' aj ?a11 ?b11 ?c11
            case a11=>exact bL
            case c11=>first|with_reducible rfl|rfl
            case b11 =>
             refine' aj ?a12 ?b12 ?c12
             case a12=>exact(aU ao)
             case c12=>first|with_reducible rfl|rfl
             case b12 =>
              refine' aj ?a13 ?b13 ?c13
              case a13=>exact(aU (aj bL ao))
              case c13=>first|with_reducible rfl|rfl
              case b13 =>
               refine' aj ?a14 ?b14 ?c14
               case a14=>exact(bw (aj bL ao))
               case c14=>first|with_reducible rfl|rfl
               case b14 =>
                refine' aj ?a15 ?b15 ?c15
                case a15=>exact sY
                case c15=>first|with_reducible rfl|rfl
                case b15 =>
                 refine' aj ?a16 ?b16 ?c16
                 case a16=>exact bL
                 case c16=>first|with_reducible rfl|rfl
                 case b16 =>
                  refine' aj ?a17 ?b17 ?c17
                  case a17=>exact bL
                  case c17=>first|with_reducible rfl|rfl
                  case b17 =>
                   exact ao
 clear nd ;rw[stE]
 try dsimp only[bI,aY]
 have F:=SH.n0 H;obtain⟨sd1,sd2⟩:=id sd0
 repeat k_meth
 refine wZ SqA.e (by lia) (by show c0 % 13<13;lia) λv hv=>?_
 obtain⟨d,d',cg,nw,nl⟩:∃d d',Chg K H_ v d d'/\Ms v/\i_ H H_ v:=by
  simp only[List.mem_cons,List.not_mem_nil,or_false] at hv;rcases hv with rfl|rfl|rfl|rfl|rfl|rfl|rfl|rfl|rfl|rfl|rfl|rfl|rfl
  all_goals first
   | exact⟨_,_,.keep ThA.e TyA.e rfl,gj (by decide +kernel),eY rfl⟩
   | exact⟨_,_,.keep (Cq (by lia)) TyA.e rfl,gj (by decide +kernel),eY rfl⟩
   | exact⟨_,_,.keep (n := "dict") Mt.e TyA.e rfl,gj rfl,dZ aH rfl⟩
   | exact⟨_,_,.keep (n := "tuple") ThA.e TyA.e rfl,gj rfl,dZ aH rfl⟩
   | exact⟨_,_,Cr aH,gj rfl,cU SH.nwC⟩
   | exact⟨_,_,Cu aH,gj rfl,cU SH.nwC⟩
   | exact⟨_,_,oM aH,gj rfl,cU SH.nwC⟩
   | exact⟨_,_,lF aH,gj rfl,dZ aH rfl⟩
 exact k _ _ _ _ F.sm cg nw nl
theorem Js(T:Txt K mg c R CH CP CF CT CN CV CB aD ak):Def P w K mg base CX0 1 "_law_bad_mark" ["_law_word","_law_many","_law_draws_here"] (GP K):=by
 refine dA T.vq qH λf cdv A outer s H vs Q E hr h=>?_
 obtain⟨k0,n,l,e0,e1,e2,e3,e4,e5,rfl,hl,nn,side,k⟩:=h;have nd:=qH.nd
 refine' ⟨_,?bd0,?main⟩
 case bd0 =>
  refine' aA ?s19 ?r19
  case r19 =>
   refine' aA ?s20 ?r20
   case r20 =>
    refine' aC ?s21
    case s21 =>
     refine' aL ?e22
     case e22 =>
      refine' aW ?w23 ?x23 ?y23 ?z23
      case w23=>exact aZ
      case z23=>exact(λ_ _=>rfl)
      case y23=>exact(aM bV (aW aZ (pv 2) aq (λ_ _=>rfl)) aq)
      case x23 =>
       refine' aU ?p24
       case p24 =>
        refine' aj ?a25 ?b25 ?c25
        case a25=>exact(aM oR (PB G4 aq) (pv 3))
        case c25=>first|with_reducible rfl|rfl
        case b25 =>
         refine' aj ?a26 ?b26 ?c26
         case a26=>exact(aM bU aq (pv 3))
         case c26=>first|with_reducible rfl|rfl
         case b26 =>
          refine' aj ?a27 ?b27 ?c27
          case a27=>exact cZ
          case c27=>first|with_reducible rfl|rfl
          case b27 =>
           refine' aj ?a28 ?b28 ?c28
           case a28=>exact cZ
           case c28=>first|with_reducible rfl|rfl
           case b28 =>
            refine' aj ?a29 ?b29 ?c29
            case a29=>exact zB
            case c29=>first|with_reducible rfl|rfl
            case b29 =>
             refine' aj ?a30 ?b30 ?c30
             case a30=>exact bL
             case c30=>first|with_reducible rfl|rfl
             case b30 =>
              refine' aj ?a31 ?b31 ?c31
              case a31=>exact(pv 1)
              case c31=>first|with_reducible rfl|rfl
              case b31 =>
               refine' aj ?a32 ?b32 ?c32
               case a32=>exact(aU ao)
               case c32=>first|with_reducible rfl|rfl
               case b32 =>
                refine' aj ?a33 ?b33 ?c33
                case a33=>exact sY
                case c33=>first|with_reducible rfl|rfl
                case b33 =>
                 refine' aj ?a34 ?b34 ?c34
                 case a34=>exact(bw (aj aq ao))
                 case c34=>first|with_reducible rfl|rfl
                 case b34 =>
                  refine' aj ?a35 ?b35 ?c35
                  case a35=>exact(aU (aj aq ao))
                  case c35=>first|with_reducible rfl|rfl
                  case b35 =>
                   exact ao
   case s20 =>
    refine' bB ?t37 ?x37 ?y37
    case t37=>exact(aN (fU (K:=K) rfl hr) (pv 0) bL (aO _))
    case y37 =>
     exact aR
    case x37 =>
     refine' aC ?s39
     case s39 =>
      refine' aL ?e40
      case e40 =>
       refine' aW ?w41 ?x41 ?y41 ?z41
       case w41=>exact aZ
       case z41=>exact(λ_ _=>rfl)
       case y41=>exact(aM bV (aW aZ (pv 2) aq (λ_ _=>rfl)) aq)
       case x41 =>
        refine' aU ?p42
        case p42 =>
         refine' aj ?a43 ?b43 ?c43
         case a43=>exact(aM oR (PB G4 aq) (pv 3))
         case c43=>first|with_reducible rfl|rfl
         case b43 =>
          refine' aj ?a44 ?b44 ?c44
          case a44=>exact(aM bU (aM bU (pv 1) aq) (pv 3))
          case c44=>first|with_reducible rfl|rfl
          case b44 =>
           refine' aj ?a45 ?b45 ?c45
           case a45=>exact cZ
           case c45=>first|with_reducible rfl|rfl
           case b45 =>
            refine' aj ?a46 ?b46 ?c46
            case a46=>exact cZ
            case c46=>first|with_reducible rfl|rfl
            case b46 =>
             refine' aj ?a47 ?b47 ?c47
             case a47=>exact zB
             case c47=>first|with_reducible rfl|rfl
             case b47 =>
              refine' aj ?a48 ?b48 ?c48
              case a48=>exact bL
              case c48=>first|with_reducible rfl|rfl
              case b48 =>
               refine' aj ?a49 ?b49 ?c49
               case a49=>exact(aU ao)
               case c49=>first|with_reducible rfl|rfl
               case b49 =>
                refine' aj ?a50 ?b50 ?c50
                case a50=>exact sY
                case c50=>first|with_reducible rfl|rfl
                case b50 =>
                 refine' aj ?a51 ?b51 ?c51
                 case a51=>exact(bw (aj aq ao))
                 case c51=>first|with_reducible rfl|rfl
                 case b51 =>
                  refine' aj ?a52 ?b52 ?c52
                  case a52=>exact(aU (aj aq ao))
                  case c52=>first|with_reducible rfl|rfl
                  case b52 =>
                   exact ao
  case s19 =>
   exact(psz 3 nd (aM bV (aW aZ (pv 2) aq (λ_ _=>rfl)) aq))
 clear nd ;rw[stE]
 try dsimp only[bI,aY]
 have dB:=om hl;have F:=SH.n0 H;obtain⟨n1,n2⟩:=nn;obtain⟨a1,a2,b1,b2⟩:=side;by_cases hk:k0=.n
 ·subst hk
  repeat k_meth
  refine wZ SqA.e (by lia) (by show e2 % 10<10;lia) λv hv=>?_
  obtain⟨d,d',cg,nw,nl⟩:∃d d',Chg K H_ v d d'/\inB v 0 (n:Int)=false/\i_ H H_ v:=by
   simp only[List.mem_cons,List.not_mem_nil,or_false] at hv;rcases hv with rfl|rfl|rfl|rfl|rfl|rfl|rfl|rfl|rfl|rfl
   all_goals first
    | exact⟨_,_,.keep ThA.e TyA.e rfl,by first|rfl|exact qg (by lia),eY rfl⟩
    | exact⟨_,_,.keep (Cq (by lia)) TyA.e rfl,by first|rfl|exact qg (by lia),eY rfl⟩
    | exact⟨_,_,.keep (n := "dict") Mt.e TyA.e rfl,rfl,dZ aH rfl⟩
    | exact⟨_,_,.keep (n := "tuple") ThA.e TyA.e rfl,rfl,dZ aH rfl⟩
    | exact⟨_,_,Cr aH,rfl,cU SH.nwC⟩
    | exact⟨_,_,Cu aH,rfl,cU SH.nwC⟩
    | exact⟨_,_,oM aH,rfl,cU SH.nwC⟩
    | exact⟨_,_,lF aH,rfl,dZ aH rfl⟩
  exact k _ _ _ _ F.sm cg nw nl
 ·have hi:hiK n k0=0:=by cases k0 <;> first|rfl|exact gE rfl hk
  rw[hi] at k;have nm2:NmA (n:Int):=⟨by lia⟩
  repeat k_meth
  refine wZ SqA.e (by lia) (by show e2 % 11<11;lia) λv hv=>?_
  obtain⟨d,d',cg,nw,nl⟩:∃d d',Chg K H_ v d d'/\inB v 0 0=false/\i_ H H_ v:=by
   simp only[List.mem_cons,List.not_mem_nil,or_false] at hv;rcases hv with rfl|rfl|rfl|rfl|rfl|rfl|rfl|rfl|rfl|rfl|rfl
   all_goals first
    | exact⟨_,_,.keep ThA.e TyA.e rfl,by first|rfl|exact qg (by lia),eY rfl⟩
    | exact⟨_,_,.keep (Cq (by lia)) TyA.e rfl,by first|rfl|exact qg (by lia),eY rfl⟩
    | exact⟨_,_,.keep (n := "dict") Mt.e TyA.e rfl,rfl,dZ aH rfl⟩
    | exact⟨_,_,.keep (n := "tuple") ThA.e TyA.e rfl,rfl,dZ aH rfl⟩
    | exact⟨_,_,Cr aH,rfl,cU SH.nwC⟩
    | exact⟨_,_,Cu aH,rfl,cU SH.nwC⟩
    | exact⟨_,_,oM aH,rfl,cU SH.nwC⟩
    | exact⟨_,_,lF aH,rfl,dZ aH rfl⟩
  exact k _ _ _ _ F.sm cg nw nl
end
open M22 M44
def qZ(K:W.Frag):Sp:=λvs H Q _=>∃(l:Addr)(x:V),An3 (vs=[.ref l]) (H l=some (.lst [x])) (((∃n:String,b_ K H x (.type n)/\(n == "list")=false/\∀H',Same H H'->Q .non H')\/(∃(p:Addr)(ws:List V),x=.ref p/\H p=some (.lst ws)/\ws.length<=5/\l≠p/\∀H',SH H [p] H' [(p,.lst (ws++[.int 5]))] []->Q .non H')))
section
variable{P:Program}{w:World}{K:W.Frag}{mg:xC}{base:Heap}{c:Nat->Addr}{aD ak R CH CP CF CT CN CV CB:Addr}
theorem kE(T:Txt K mg c R CH CP CF CT CN CV CB aD ak):ZM P w K mg base "_law_changed" ["_law_things"] (qZ K):=by
 refine Wm T.vA qI (λvs H Q E h=>?_) (λ_ _ _ _ _ _=>el1 λ_=>rfl) (λf cdv A outer s H vs Q hT h=>?_)
 ·obtain⟨l,x,rfl,_⟩:=h
  rfl
 ·obtain⟨l,x,rfl,hl,kk⟩:=h;have nd:=qI.nd;refine⟨_,(aC (Wl PassesOwn.never (pv 0) (pgz 1 nd) (aC (bB (bN (bH dh rfl T.bJ boot_isinstance (aj (pv 1) (aj (wQ (T := "list") rfl T.SJ boot_list) ao)))) (aC (bK (cA (pv 1) aq))) aR)))),?_⟩;clear nd ;rw[stE]
  try dsimp only[bI,aY]
  have F:=SH.n0 H;unfold X3;rcases kk with⟨n,ty,nn,k⟩|⟨p,ws,rfl,hp,w5,nlp,k⟩
  ·have o_x:gU K H [] x n:=⟨ty,λ_ _ z=>by cases z⟩
   repeat k_meth
   refine⟨l,[x],rfl,λi σ' H'=>∃o1:Option V,σ'=[some (.ref l),o1]/\SH H [] H' [] [],⟨_,rfl,F⟩,?_⟩;clear F;rintro i σ' H' ⟨_,rfl,F⟩;refine⟨SqL.of (F.sm _ _ hl),hT.same λ_ _ e=>F.sm _ _ e,λ_=>?_,λy e=>?_⟩
   ·repeat k_meth
    exact k _ F.sm
   ·have e:=uB.mp (yT e);subst e
    repeat k_meth
    rw[nn]
    repeat k_meth
    exact⟨_,rfl,F⟩
  ·have F:SH H [p] H [(p,.lst ws)] []:=SH.nil.fQ List.mem_cons_self hp rfl (by simp);have hT1:∀{H':Hp} {L:List (Addr×HO)},SH H [p] H' L []->lK A H':=λF=>hT.same λb φ e=>F.fr b _ (nm1 λz=>by rw[z,hp] at e;cases e) e
   repeat k_meth
   refine⟨l,[.ref p],rfl,λi σ' H'=>∃o1:Option V,σ'=[some (.ref l),o1]/\((i=0/\SH H [p] H' [(p,.lst ws)] [])\/(i=1/\SH H [p] H' [(p,.lst (ws++[.int 5]))] [])),⟨_,rfl,.inl ⟨rfl,F⟩⟩,?_⟩;clear F;rintro i σ' H' ⟨_,rfl,⟨rfl,F⟩|⟨rfl,F⟩⟩
   ·refine⟨SqL.of (F.fr _ _ (nm1 nlp) hl),hT1 F,λz=>absurd z (by simp),λy e=>?_⟩;obtain rfl:V.ref p=y:=oQ e;have wl:ws.length<sizeLine:=by rw[sizeLine_eq];lia
    repeat k_meth
    exact⟨_,rfl,.inr ⟨rfl,F⟩⟩
   ·refine⟨SqL.of (F.fr _ _ (nm1 nlp) hl),hT1 F,λ_=>?_,λy e=>by cases e⟩
    repeat k_meth
    exact k _ F
end
open M22 M44
@[irreducible] def shD (d:PyData):Str:=d.shown
def KpX(x:V)(H H':Hp):Prop:=∀b u,(x=.ref b->∀ws,u≠.lst ws)->H b=some u->H' b=some u
theorem KpX.exc{x:V}{H H':Hp}{a C:Addr}{fs:List (Str×V)}(k:KpX x H H')(h:iG H a C fs):iG H' a C fs:=by
 rcases h with⟨z,b⟩|⟨dx,b1,b2,b3⟩
 ·exact .inl ⟨z,k _ _ (λ_ _ e=>by cases e) b⟩
 ·exact .inr ⟨dx,k _ _ (λ_ _ e=>by cases e) b1,k _ _ (λ_ _ e=>by cases e) b2,b3⟩
theorem KpX.pre{x:V}{H H1 H':Hp}(s:Same H H1)(k:KpX x H1 H'):KpX x H H':=λb u h e=>k b u h (s _ _ e)
theorem KpX.post{x:V}{H H1 H':Hp}(k:KpX x H H1)(s:Same H1 H'):KpX x H H':=λb u h e=>s _ _ (k b u h e)
section
variable{K:W.Frag}{H:Hp}{Q:VK}{E:XK}{x v:V}{d d':PyData}{l:Addr}
instance (priority:=low) ad4 [h:ThA H v d]:Go (RM K [v] H Q) (Q (.str (shD d)) H):=⟨λk=>by
 unfold shD at k;have z:=h.e.shm;exact⟨v,d,rfl,λX _=>h.e.shows,z.sh,rS z.dp (by decide),rS z.ln (by rw[sizeLine_eq];decide),k⟩⟩
theorem Cv{A:Around}{C a:Addr}{fs:List (Str×V)}(h:iG H a C fs)(e:A.handled=some (.ref a)):lK A H:=by
 rcases h with⟨_,b⟩|⟨dx,b,_⟩
 ·exact⟨a,_,_,e,b⟩
 ·exact⟨a,_,_,e,b⟩
instance acT{A:Around}{sp:Sp}{t:TA}{σ:L2.St}:Go (RQ A sp t σ H Q) (t σ H λvs H1=>lK A H1/\sp vs H1 Q E0):=⟨id⟩
theorem Jt(c:Chg K H x d d')(hl:H l=some (.lst [x]))(k:∀H',KpX x H H'->ThD H' x d'->Q .non H'):qZ K [.ref l] H Q E:=by
 cases c with
 | keep t ty nn=>exact⟨l,x,rfl,hl,.inl ⟨_,ty,nn,λH' s=>k H' (λb u _ e=>s _ _ e) (t.kept λ_ _ _ e=>s _ _ e)⟩⟩
 | lst e n h z z2=>exact⟨l,_,rfl,hl,.inr ⟨_,_,rfl,e,n,(λz=>by
   subst z;rw[hl] at e;cases e;have:=h _ zC;cases this),λH' F=>k H' (λb u hb eb=>F.fr b u (nm1 λq=>by
   subst q;rw[e] at eb;exact hb rfl _ (oQ eb).symm) eb) (.lst aH (λv hv=>(wP.mp hv).elim (h v) λq=>by rw[uB.mp q];rfl) z2)⟩⟩
end
def O2(K:W.Frag):Sp:=λvs H Q _=>ZP λ(v u w x:V) (n1 n2 n3:String) (d1 d d':PyData) (code:Int)=>An8 (vs=[v,u,w]) (ThD H v d1) (b_ K H v (.type n1)) (b_ K H u (.type n2)) (b_ K H w (.type n3)) (Chg K H x d d') (((code=1/\x=v/\Ms v)\/(code=2/\x=u/\(∃k:K4,v=.str (bC k))/\inB u 16 240=false)\/(code=3/\x=w/\∃(k:K4)(n:Nat),v=.str (bC k)/\u=.int (n:Nat)/\(16<=n/\n<=240)/\inB w 0 (hiK n k)=false))) (∀t H',KpX x H H'->ThD H' x d'->H' t=some (.tup [.int code,.str (shD d'),.bl true])->Q (.ref t) H')
section
variable{P:Program}{w:World}{K:W.Frag}{mg:xC}{base:Heap}{c:Nat->Addr}{aD ak R CH CP CF CT CN CV CB:Addr}
theorem qj{X:Cx}{K:W.Frag}{k:Nat}{A:Around}(hK:X.K=K)(hr:Room k A)(eu:X.A.units=A.units)(eg:X.A.guards=A.guards):g_ X (.builtin "repr") (RM K):=by
 intro pins s σ H xs us Q I r h;obtain⟨x,d,rfl,sh,hs,hd,hz,q⟩:=h;obtain⟨u,rfl,rx⟩:=vals1 r;obtain⟨as,ra,hsm⟩:=sh X hK pins σ s u I rx;have hu:=hr.un;have hg:=hr.gd;rw[<- eu] at hu;rw[<- eg] at hg;cases u with
 | ref a=>exact repr_of_reads' ra hs hsm hg (by lia) (λ_ _ e=>e) (λh' u tk hk=>⟨.str _,H,I.kept hk,⟨u,rfl⟩,q⟩) hz
 | none=>cases ra;simp only[PyData.shown] at q;exact PySem.P.repr_of_none ⟨.str _,H,I.tok _,⟨_,rfl⟩,q⟩
 | bool b=>cases ra;simp only[PyData.shown] at q;exact PySem.P.repr_of_bool ⟨.str _,H,I.tok _,⟨_,rfl⟩,q⟩
 | int i t=>cases ra;simp only[PyData.shown] at q;exact PySem.P.repr_of_int (by simpa[PyData.showable] using hs) ⟨.str _,H,I.tok _,⟨_,rfl⟩,q⟩
 | str y t=>cases ra;simp only[PyData.shown] at q hz;exact PySem.P.repr_of_str ⟨.str _,H,I.tok _,⟨_,rfl⟩,q⟩ hz
 | _=>cases ra
theorem Ua(T:Txt K mg c R CH CP CF CT CN CV CB aD ak):Def P w K mg base CX0 10 "_law_tried" ["_law_word","_law_many","_law_mark"] (O2 K):=by
 obtain⟨_,cR⟩:=cR (P:=P) (w:=w) (base:=base) T;refine dA T.FN xX λf cdv A outer s H vs Q E hr h=>?_
 obtain⟨v,u,w,x,n1,n2,n3,d1,d,d2,code,rfl,td,ty,uy,wy,cg,kk,k⟩:=h;have nd:=xX.nd;refine⟨_,(aA (YM (λpins EX=>(aC (bK (V1 cR.all hr (aj (pv 0) (aj (pv 1) (aj (pv 2) ao))))))) (QF (i:=3) T.fj.gl (λa=>(aA (bK (Ba (kE T) hr rfl (aj (aU (aj (pv 0) ao)) ao)))
   (aC (aL (bw (aj aq (aj (bH (qj rfl hr rfl rfl) rfl T.vC boot_repr (aj (Ac T.fj.I.g T.iI (pv 3)) ao)) (aj (bH oX rfl T.bJ boot_isinstance (aj (pv 3) (aj (jy (v:=.ref R) ⟨_,T.g_R,rfl⟩) ao))) ao)))))))) (QF (i:=3) T.dw.gl (λa=>(aA (bK (Ba (kE T) hr rfl (aj (aU (aj (pv 1) ao)) ao)))
   (aC (aL (bw (aj aq (aj (bH (qj rfl hr rfl rfl) rfl T.vC boot_repr (aj (Ac T.dw.I.g T.fZ (pv 3)) ao)) (aj (bH oX rfl T.bJ boot_isinstance (aj (pv 3) (aj (jy (v:=.ref R) ⟨_,T.g_R,rfl⟩) ao))) ao)))))))) (QF (i:=3) T.cQ.gl (λa=>(aA (bK (Ba (kE T) hr rfl (aj (aU (aj (pv 2) ao)) ao)))
   (aC (aL (bw (aj aq (aj (bH (qj rfl hr rfl rfl) rfl T.vC boot_repr (aj (Ac T.cQ.I.g T.gC (pv 3)) ao)) (aj (bH oX rfl T.bJ boot_isinstance (aj (pv 3) (aj (jy (v:=.ref R) ⟨_,T.g_R,rfl⟩) ao))) ao)))))))) YL nd rfl rfl) nd rfl rfl) nd rfl rfl))
  (aC (aL (bw (aj aq (aj bL (aj cZ ao))))))),?_⟩
 clear nd;rw[stE]
 try dsimp only[bI,aY]
 have aa5:ExM K (c 0) (c 0) true:=⟨tU T.dw.I⟩;have aa6:ExM K (c 0) R true:=⟨Hw T.dw.I T.c_R T.t_R T.m_R⟩;have O3:ExM K (c 0) (c 2) false:=⟨T.jz⟩;have aam:ExM K (c 1) (c 1) true:=⟨tU T.cQ.I⟩;have aan:ExM K (c 1) R true:=⟨Hw T.cQ.I T.c_R T.t_R T.m_R⟩;have Mu:ExM K (c 1) (c 2) false:=⟨T.iW⟩;have Mv:ExM K (c 1) (c 0) false:=⟨T.iY⟩;have aa7:ExM K (c 2) (c 2) true:=⟨tU T.fj.I⟩;have aa8:ExM K (c 2) R true:=⟨Hw T.fj.I T.c_R T.t_R T.m_R⟩;have F:=SH.n0 H;have o_v:gU K H [] v n1:=⟨ty,λ_ _ z=>by cases z⟩;have o_u:gU K H [] u n2:=⟨uy,λ_ _ z=>by cases z⟩;have o_w:gU K H [] w n3:=⟨wy,λ_ _ z=>by cases z⟩
 repeat k_meth
 rcases kk with⟨rfl,rfl,no⟩|⟨rfl,rfl,wd,hb⟩|⟨rfl,rfl,k0,n,rfl,rfl,side,hb⟩
 ·refine⟨_,_,_,_,_,_,_,rfl,td,ty,uy,wy,.inr (.inl ⟨no,?_⟩)⟩
  with_reducible refine go1 ?_
  clear F;intro H_ a_ dx_ (F:SH _ _ _ _ _) (ex_:iG _ _ _ _);have s1:=F.sm;clear F;have F:=SH.n0 H_;have exA_:=ExA.mk ex_
  repeat k_meth
  have s0:=s1.trans F.sm;have e0:=exA_.e.same F.sm;refine⟨Cv e0 rfl,Jt (cg.kept s0) aH λH2 kp th=>?_⟩;clear F exA_;have F:=SH.n0 H2;have exA_:ExA H2 a_ _ _:=⟨kp.exc e0⟩;have thA_:ThA H2 _ d2:=⟨th⟩
  repeat k_meth
  refine⟨a_,_,_,R,_,true,rfl,exA_.e.same F.sm,T.fj.I,tL T.fj.I T.c_R T.t_R,?_⟩
  repeat k_meth
  exact k _ _ ((kp.pre s0).post F.sm) (th.kept λ_ _ _ q=>F.sm _ _ q) aH
 ·refine⟨_,_,_,_,_,_,_,rfl,td,ty,uy,wy,.inr (.inr (.inl ⟨wd,hb,?_⟩))⟩
  with_reducible refine go1 ?_
  clear F;intro H_ a_ dx_ (F:SH _ _ _ _ _) (ex_:iG _ _ _ _);have s1:=F.sm;clear F;have F:=SH.n0 H_;have exA_:=ExA.mk ex_
  repeat k_meth
  have s0:=s1.trans F.sm;have e0:=exA_.e.same F.sm;refine⟨Cv e0 rfl,Jt (cg.kept s0) aH λH2 kp th=>?_⟩;clear F exA_;have F:=SH.n0 H2;have exA_:ExA H2 a_ _ _:=⟨kp.exc e0⟩;have thA_:ThA H2 _ d2:=⟨th⟩
  repeat k_meth
  refine⟨a_,_,_,R,_,true,rfl,exA_.e.same F.sm,T.dw.I,tL T.dw.I T.c_R T.t_R,?_⟩
  repeat k_meth
  exact k _ _ ((kp.pre s0).post F.sm) (th.kept λ_ _ _ q=>F.sm _ _ q) aH
 ·refine⟨_,_,_,_,_,_,_,rfl,td,ty,uy,wy,.inr (.inr (.inr ⟨_,_,rfl,rfl,side,hb,?_⟩))⟩
  with_reducible refine go1 ?_
  clear F;intro H_ a_ dx_ (F:SH _ _ _ _ _) (ex_:iG _ _ _ _);have s1:=F.sm;clear F;have F:=SH.n0 H_;have exA_:=ExA.mk ex_
  repeat k_meth
  have s0:=s1.trans F.sm;have e0:=exA_.e.same F.sm;refine⟨Cv e0 rfl,Jt (cg.kept s0) aH λH2 kp th=>?_⟩;clear F exA_;have F:=SH.n0 H2;have exA_:ExA H2 a_ _ _:=⟨kp.exc e0⟩;have thA_:ThA H2 _ d2:=⟨th⟩
  repeat k_meth
  refine⟨a_,_,_,R,_,true,rfl,exA_.e.same F.sm,T.cQ.I,tL T.cQ.I T.c_R T.t_R,?_⟩
  repeat k_meth
  exact k _ _ ((kp.pre s0).post F.sm) (th.kept λ_ _ _ q=>F.sm _ _ q) aH
end
open M22 M44
theorem KpX.lst{K:W.Frag}{x:V}{d d':PyData}{H H':Hp}{T:Addr}{ws:List V}(k:KpX x H H')(c:Chg K H x d d')(e:H T=some (.lst ws))(m:x∈ws):H' T=some (.lst ws):=k _ _ (λz us eu=>by
 subst z;cases c with
 | keep t ty nl =>
  cases ty with
  | lst _=>cases nl
  | _=>simp_all
 | lst e2 _ h _ _ =>
  rw[e] at e2;cases e2;have:=h _ m;cases this) e
theorem KpX.sm{x:V}{H H1 H':Hp}(k:KpX x H1 H')(s:Same H H1)(n:i_ H H1 x):Same H H':=λb u e=>k b u (λz ws eu=>by
 subst eu;exact n _ _ z (s _ _ e) _ _ e rfl) (s _ _ e)
theorem Chg.st{K:W.Frag}{H:Hp}{p:Addr}{d d':PyData}(c:Chg K H (.ref p) d d'):∃u,H p=some u/\∀ws,u=.lst ws->d=.list (ws.map flD)/\∀v∈ws,cP v=true:=by
 cases c with
 | keep t ty nl =>
  cases ty with
  | lst _=>cases nl
  | _=>exact⟨_,by assumption,by simp⟩
 | lst e _ h _ _=>exact⟨_,e,λws z=>by cases z;exact⟨rfl,h⟩⟩
theorem Ub{K:W.Frag}{H:Hp}{p:Addr}{x:V}{d d':PyData}(c:Chg K H x d d')(n:∀b u,H b=some u->b≠p):x≠.ref p:=λz=>by
 subst z;obtain⟨u,e,_⟩:=c.st;exact n _ _ e rfl
theorem W8{K:W.Frag}{H H':Hp}{p:Addr}{x:V}{d d':PyData}{ws:List V}(c:Chg K H' x d d')(n:i_ H H' x)(e:H p=some (.lst ws))(s:Same H H'):x≠.ref p:=λz=>n _ _ z (s _ _ e) _ _ e rfl
theorem i_.off{K:W.Frag}{H H1 H2:Hp}{p:Addr}{x:V}{d d':PyData}(n:i_ H H1 x)(c:Chg K H1 x d d')(k:∀b u,b≠p->H1 b=some u->H2 b=some u)(ne:x≠.ref p):i_ H H2 x:=λa ws e e2=>by
 subst e;obtain⟨u,eu,_⟩:=c.st;have:=k a u (λq=>ne (by rw[q])) eu;rw[e2] at this;cases this;exact n a ws rfl eu
theorem i_.kept{K:W.Frag}{H H1 H2:Hp}{x:V}{d d':PyData}(n:i_ H H1 x)(c:Chg K H1 x d d')(k:Same H1 H2):i_ H H2 x:=λa ws e e2=>by
 subst e;obtain⟨u,eu,_⟩:=c.st;have:=k a u eu;rw[e2] at this;cases this;exact n a ws rfl eu
theorem i_.pre{H H1 H2:Hp}{x:V}(s:Same H H1)(n:i_ H1 H2 x):i_ H H2 x:=λa ws e e2 b u eb=>n a ws e e2 b u (s _ _ eb)
theorem Chg.off{K:W.Frag}{H H':Hp}{p:Addr}{x:V}{d d':PyData}(c:Chg K H x d d')(k:∀b u,b≠p->H b=some u->H' b=some u)(n:x≠.ref p):Chg K H' x d d':=by
 cases c with
 | keep t ty nl=>exact .keep (t.kept λa u z e=>k a u (λq=>n (by rw[z,q])) e) (ty.kept λa u z e=>k a u (λq=>n (by rw[z,q])) e) nl
 | lst e m h z z2=>exact .lst (k _ _ (λq=>n (by rw[q])) e) m h z z2
theorem Chg.ty{K:W.Frag}{H:Hp}{v:V}{d d':PyData}(c:Chg K H v d d'):∃n,b_ K H v (.type n):=by
 cases c with
 | keep t ty _=>exact⟨_,ty⟩
 | lst e _ _ _ _=>exact⟨_,.lst e⟩
theorem qm{K:W.Frag}{H:Hp}{Q:VK}{p q:Addr}{vs:List V}(h:H p=some (.tup vs))(g:H q=some (.tup vs))(f:vs.all cP=true)(d:gA (.tup (vs.map eE))<=100)(k:Q (.bl true) H):QX K (.ref p) (.ref q) H Q:=by
 have r:∀{x:Addr},H x=some (.tup vs)->Rep K H (.tup (vs.map eE)) (.ref x):=λ{x} h=>by
  simp only[Rep];exact⟨_,_,rfl,SqT.of h,gF (by simpa using f)⟩
 exact⟨_,_,r h,r g,d,by rw[kO];exact k⟩
def GQ:Sp:=λvs H Q _=>Ex9 λ(k0:K4) (n:Nat) (l:Addr) (e0 e1 e2 e3 e4 e5:Int)=>An5 (vs=[.str (bC k0),.int (n:Nat),.ref l]) (H l=some (.lst [.int e0,.int e1,.int e2,.int e3,.int e4,.int e5])) ((16<=n/\n<=240)) ((∀e∈[e0,e1,e2,e3,e4,e5],0<=e/\e<1000000)) (∀H',Same H H'->Q (.bl true) H')
section
variable{P:Program}{w:World}{K:W.Frag}{mg:xC}{base:Heap}{c:Nat->Addr}{aD ak R CH CP CF CT CN CV CB:Addr}
theorem Ju(T:Txt K mg c R CH CP CF CT CN CV CB aD ak):Def P w K mg base CX0 11 "_law_refused" ["_law_word","_law_many","_law_draws_here"] GQ:=by
 refine dA T.vB qJ λf cdv A outer s H vs Q E hr h=>?_
 obtain⟨k0,n,l,e0,e1,e2,e3,e4,e5,rfl,hl,nn,ae,k⟩:=h;have nd:=qJ.nd
 refine' ⟨_,?bd0,?main⟩
 case bd0 =>
  refine' aA ?s1 ?r1
  case r1 =>
   refine' aA ?s2 ?r2
   case r2 =>
    refine' aA ?s3 ?r3
    case r3 =>
     refine' aA ?s4 ?r4
     case r4 =>
      refine' aA ?s5 ?r5
      case r5 =>
       refine' aA ?s6 ?r6
       case r6 =>
        refine' aA ?s7 ?r7
        case r7 =>
         refine' aC ?s8
         case s8 =>
          refine' aL ?e9
          case e9 =>
           exact(cM (dM hr) (aK (Ua T) hr (aj (aW aZ (pv 5) aq (λ_ _=>rfl)) (aj (aW aZ (pv 5) aq (λ_ _=>rfl)) (aj (aW aZ (pv 5) aq (λ_ _=>rfl)) ao)))) (bw (aj (aM bU (pv 4) aq) (aj (bH (NP rfl hr) rfl T.vC boot_repr (aj (aW aZ (pv 3) (pv 4) (λ_ _=>rfl)) ao)) (aj cZ ao)))) (aO _))
        case s7 =>
         exact(bB (PW.pt (je (aN gh (pv 4) aq (aO _)) (g8 (aN gh (aM bV (aM cu (aW aZ (pv 2) aq (λ_ _=>rfl)) aq) aq) aq (aO _))))) (aC (sV (aW aZ (pv 3) aq (λ_ _=>rfl)) (zE (pv 5) aq kW))) aR)
       case s6 =>
        exact(bB (PW.pt (je (aN mW (pv 4) aq (aO _)) (g8 (aN gh (aM bV (aM cu (aW aZ (pv 2) aq (λ_ _=>rfl)) aq) aq) aq (aO _))))) (aC (sV (aW aZ (pv 3) aq (λ_ _=>rfl)) (zE (pv 5) aq kW))) aR)
      case s5 =>
       exact(sV (aW aZ (pv 3) (pv 4) (λ_ _=>rfl)) (zE (pv 5) (pv 4) kW))
     case s4 =>
      exact(psz 5 nd (aU (aj (pv 0) (aj (pv 1) (aj aq ao)))))
    case s3 =>
     exact(psz 4 nd (aM bV (aM cu (aW aZ (pv 2) aq (λ_ _=>rfl)) aq) aq))
   case s2 =>
    exact(bK (cA (pv 3) (aK (Js T) hr (aj (pv 0) (aj (pv 1) (aj (pv 2) ao))))))
  case s1 =>
   refine' Pq (i:=3) ?n17 ?h17 ?o17 ?e17
   case n17=>exact nd
   case h17=>exact rfl
   case o17=>exact(Or.inl rfl)
   case e17 =>
    refine' aU ?p18
    case p18 =>
     refine' aj ?a19 ?b19 ?c19
     case a19=>exact(aK (aal T) hr (aj (aW aZ (pv 2) aq (λ_ _=>rfl)) ao))
     case c19=>first|with_reducible rfl|rfl
     case b19 =>
      refine' aj ?a20 ?b20 ?c20
      case a20=>exact(aW aZ (aU (aj aq (aj aq (aj (PB G4 (pv 1)) (aj bL (aj zB (aj cZ (aj (aU (aj (pv 1) ao)) ao)))))))) (aM bV (aW aZ (pv 2) aq (λ_ _=>rfl)) aq) (λ_ _=>rfl))
      case c20=>first|with_reducible rfl|rfl
      case b20 =>
       exact ao
 clear nd;rw[stE]
 try dsimp only[bI,aY]
 have dB:=om hl;have F:=SH.n0 H;obtain⟨n1,n2⟩:=nn;have b0:=ae e0 (by simp);have b2:=ae e2 (by simp);have b3:=ae e3 (by simp);have b4:=ae e4 (by simp);have b5:=ae e5 (by simp)
 repeat k_meth
 refine⟨e3,rfl,b3,λx0 d0 q0 Ha sa c0 w0 l0=>?_⟩;have hla:=sa _ _ hl;clear F dB;have F:=SH.n0 Ha;have dB:=om hla;have nm2:NmA (n:Int):=⟨by lia⟩
 repeat k_meth
 refine wZ SqA.e (by lia) (by show e4 % 7<7;lia) λv hv=>?_
 obtain⟨d,d',cg,nw,nl⟩:∃d d',Chg K H_ v d d'/\inB v 16 240=false/\i_ Ha H_ v:=by
  simp only[List.mem_cons,List.not_mem_nil,or_false] at hv;rcases hv with rfl|rfl|rfl|rfl|rfl|rfl|rfl
  all_goals first
   | exact⟨_,_,.keep ThA.e TyA.e rfl,by first|rfl|exact qg (by lia),eY rfl⟩
   | exact⟨_,_,.keep (Cq (by lia)) TyA.e rfl,by first|rfl|exact qg (by lia),eY rfl⟩
   | exact⟨_,_,.keep (n := "dict") Mt.e TyA.e rfl,rfl,dZ aH rfl⟩
   | exact⟨_,_,.keep (n := "tuple") ThA.e TyA.e rfl,rfl,dZ aH rfl⟩
   | exact⟨_,_,Cr aH,rfl,cU SH.nwC⟩
   | exact⟨_,_,Cu aH,rfl,cU SH.nwC⟩
   | exact⟨_,_,oM aH,rfl,cU SH.nwC⟩
   | exact⟨_,_,lF aH,rfl,dZ aH rfl⟩
 obtain⟨Hb,e⟩:∃z,z=H_:=⟨_,rfl⟩;subst e;obtain⟨x1,e⟩:∃z,z=v:=⟨_,rfl⟩;subst e;have hlb:=F.sm _ _ hla;have sb:=sa.trans F.sm;have l1:=nl.pre sa;replace l0:=l0.kept c0 F.sm;replace c0:=c0.kept F.sm;clear F hv dB nl;have F:=SH.n0 Hb;have dB:=om hlb
 repeat k_meth
 rename Addr=>tp
 have fp:∀b u,Hb b=some u->b≠tp:=F.fresh (LkL.m (o:=.lst [x0,x1])) nm0;have ne0:=Ub c0 fp;have ne1:=Ub cg fp;have hlc:=F.sm _ _ hlb;have nlt:l≠tp:=fp _ _ hlb;have ht:H_ tp=some (.lst [x0,x1]):=aH;have sc:=F.sm;replace l0:=l0.kept c0 sc;replace c0:=c0.kept sc;replace l1:=l1.kept cg sc;have c1:=cg.kept sc;clear F dB cg;have F:SH H_ [tp] H_ [(tp,.lst [x0,x1])] []:=SH.nil.fQ List.mem_cons_self ht rfl (by simp);have dB:=Old.mk (M:=[tp]) hlc (nm1 nlt);refine⟨k0,n,l,e0,e1,e2,e3,e4,e5,rfl,hlc,⟨n1,n2⟩,⟨b2.1,b2.2,b5.1,b5.2⟩,λx2 d2 q2 Hc s3 c2 i2 l2=>?_⟩;have ne2:=W8 c2 l2 ht s3;replace l0:=l0.kept c0 s3;replace c0:=c0.kept s3;replace l1:=l1.kept c1 s3;replace c1:=c1.kept s3;replace l2:=l2.pre (sb.trans sc);have sC:=(sb.trans sc).trans s3;have htc:=s3 _ _ ht;have hld:=s3 _ _ hlc;clear F dB;have F:SH Hc [tp] Hc [(tp,.lst [x0,x1])] []:=SH.nil.fQ List.mem_cons_self htc rfl (by simp);have dB:=Old.mk (M:=[tp]) hld (nm1 nlt)
 repeat k_meth
 rw[show [x0,x1]++[x2]=[x0,x1,x2] from rfl] at F;rcases(show e0 / 4 % 3=0\/e0 / 4 % 3=1\/e0 / 4 % 3=2 by lia) with e|e|e
 ·rw[e]
  repeat k_meth
  try (simp only[Int.reduceToNat,List.set_cons_zero,List.set_cons_succ] at F;have F:=F)
  refine cC (λ_=>?_) (λ_=>?_) <;> (
   repeat k_meth
   try (simp only[Int.reduceToNat,List.set_cons_zero,List.set_cons_succ] at F;have F:=F)
   refine cC (λ_=>?_) (λ_=>?_) <;> (
    repeat k_meth
    try (simp only[Int.reduceToNat,List.set_cons_zero,List.set_cons_succ] at F;have F:=F)
    repeat k_meth
    have kk:∀b u,b≠tp->Hc b=some u->H_ b=some u:=λb u n e=>F.fr b u (nm1 n) e
    obtain⟨_,y0⟩:=(c0.off kk ne0).ty;obtain⟨_,y1⟩:=(c1.off kk ne1).ty;obtain⟨_,y2⟩:=(c2.off kk ne2).ty;have cx:=c0.off kk ne0;have lx:=l0.off c0 kk ne0;have sH:Same H H_:=λb u e=>F.fr b u (nm1 (fp b u (sb b u e))) (sC b u e)
    have ht2:H_ tp=some (.lst [x0,x1,x2]):=aH;refine⟨_,_,_,_,_,_,_,_,_,_,_,rfl,cx.th,by first|assumption|exact .str _,by first|assumption|exact .int _,by first|assumption|exact .int _,cx,.inl ⟨rfl,rfl,w0⟩,λt H2 kp th h2=>?_⟩;have ht3:=kp.lst cx ht2 (by simp);have s9:=kp.sm sH lx;clear F dB;have F:=SH.n0 H2;have o_t:=om h2;have jw:=om ht3;have thA_:ThA H2 x0 _:=⟨th⟩
    repeat k_meth
    refine qm aH aH rfl (Nat.le_of_ble_eq_true rfl) ?_
    repeat k_meth
    exact k _ (s9.trans F.sm)))
 ·rw[e]
  repeat k_meth
  try (simp only[Int.reduceToNat,List.set_cons_zero,List.set_cons_succ] at F;have F:=F)
  refine cC (λ_=>?_) (λ_=>?_) <;> (
   repeat k_meth
   try (simp only[Int.reduceToNat,List.set_cons_zero,List.set_cons_succ] at F;have F:=F)
   repeat k_meth
   have kk:∀b u,b≠tp->Hc b=some u->H_ b=some u:=λb u n e=>F.fr b u (nm1 n) e
   obtain⟨_,y0⟩:=(c0.off kk ne0).ty;obtain⟨_,y1⟩:=(c1.off kk ne1).ty;obtain⟨_,y2⟩:=(c2.off kk ne2).ty;have cx:=c1.off kk ne1;have lx:=l1.off c1 kk ne1;have sH:Same H H_:=λb u e=>F.fr b u (nm1 (fp b u (sb b u e))) (sC b u e)
   have ht2:H_ tp=some (.lst [x0,x1,x2]):=aH;refine⟨_,_,_,_,_,_,_,_,_,_,_,rfl,ThA.e,by first|assumption|exact .str _,by first|assumption|exact .int _,by first|assumption|exact .int _,cx,.inr (.inl ⟨rfl,rfl,⟨k0,rfl⟩,nw⟩),λt H2 kp th h2=>?_⟩;have ht3:=kp.lst cx ht2 (by simp);have s9:=kp.sm sH lx;clear F dB;have F:=SH.n0 H2;have o_t:=om h2;have jw:=om ht3;have thA_:ThA H2 x1 _:=⟨th⟩
   repeat k_meth
   refine qm aH aH rfl (Nat.le_of_ble_eq_true rfl) ?_
   repeat k_meth
   exact k _ (s9.trans F.sm))
 ·rw[e]
  repeat k_meth
  try (simp only[Int.reduceToNat,List.set_cons_zero,List.set_cons_succ] at F;have F:=F)
  repeat k_meth
  have kk:∀b u,b≠tp->Hc b=some u->H_ b=some u:=λb u n e=>F.fr b u (nm1 n) e
  obtain⟨_,y0⟩:=(c0.off kk ne0).ty;obtain⟨_,y1⟩:=(c1.off kk ne1).ty;obtain⟨_,y2⟩:=(c2.off kk ne2).ty;have cx:=c2.off kk ne2;have lx:=l2.off c2 kk ne2;have sH:Same H H_:=λb u e=>F.fr b u (nm1 (fp b u (sb b u e))) (sC b u e)
  have ht2:H_ tp=some (.lst [x0,x1,x2]):=aH;refine⟨_,_,_,_,_,_,_,_,_,_,_,rfl,ThA.e,by first|assumption|exact .str _,by first|assumption|exact .int _,by first|assumption|exact .int _,cx,.inr (.inr ⟨rfl,rfl,k0,n,rfl,rfl,⟨n1,n2⟩,i2⟩),λt H2 kp th h2=>?_⟩;have ht3:=kp.lst cx ht2 (by simp);have s9:=kp.sm sH lx;clear F dB;have F:=SH.n0 H2;have o_t:=om h2;have jw:=om ht3;have thA_:ThA H2 x2 _:=⟨th⟩
  repeat k_meth
  refine qm aH aH rfl (Nat.le_of_ble_eq_true rfl) ?_
  repeat k_meth
  exact k _ (s9.trans F.sm)
end
open M22 M44
def Uc(P:Addr)(pos:Pos)(qual:Str):Sp:=λvs H Q _=>ZP λ(k0:K4) (n t:Nat) (l:Addr) (e0 e1 e2 e3 e4 e5:Int) (ps:xI)=>An8 (vs=[.str (bC k0),.int (n:Nat),.int (t:Nat),.ref l]) (H l=some (.lst [.int e0,.int e1,.int e2,.int e3,.int e4,.int e5])) ((16<=n/\n<=240)) ((∀e∈[e0,e1,e2,e3,e4,e5],0<=e/\e<1000000)) ((t:Int)<=hiK n k0) (H P=some (.tbl ps)) (TabOk pos qual ps H) (∀ps' H',Kp P H H'->H' P=some (.tbl ps')->TabOk pos qual ps' H'->Q (.bl true) H')
theorem aao{fs:xF}{st sz:Nat}(h1:1<=sz)(h2:st+sz<=fs.length)(h:∀j,st<=j->j<st+sz->fs[j]?=some true):hasB fs st sz=true:=by
 unfold hasB;rw[gN h1,gN h2];have:=(Wo h2 true).mpr h;simpa using this
theorem sI(n:Nat):cells n (cov [])=List.replicate n true:=by rw[<- xr];rfl
theorem fV{n:Nat}{c:Nat->Bool}(h1:16<=n)(h2:n<=240):Bks (cells n c) n:=⟨cV,h1,h2⟩
theorem O4{n:Nat}{ws:xD}(h1:1<=n)(h:∀w∈ws,1<=w.2/\w.1+w.2<=n):(aP (cells n (cov ws))).length<=ws.length+1:=by
 obtain⟨l,rfl⟩:∃l:List (Nat×Nat),ws=l.reverse:=⟨ws.reverse,by simp⟩
 induction l with
 | nil =>
  rw[List.reverse_nil,sI,N_ h1];exact uA _
 | cons a l ih =>
  rw[List.reverse_cons] at h ⊢;have ha:=h a (by simp);have hp:=R0 (v:=false) (fs:=cells n (cov l.reverse)) (a:=a.1) (b:=a.2) (by rw[cV];exact ha.2) ha.1;rw[ur ha.2] at hp;have:=ih λw hw=>h w (nV _ hw)
  rw[yB,List.length_singleton]
  lia
structure jc(n:Nat)(ts:xD):Prop where
 few:ts.length<=2
 ok:∀w∈ts,(w.2=4\/w.2=8)/\w.1 % w.2=0/\w.1+w.2<=n
 dis:ts.Pairwise Dis
theorem jc.one{n A:Nat}(h:A % 4=0)(h2:A+4<=n):jc n [(A,4)]:=⟨by simp,λw hw=>by rw[List.mem_singleton.mp hw];exact⟨.inl rfl,h,h2⟩,List.pairwise_singleton _ _⟩
theorem jc.two{n A B:Nat}(h:A % 4=0)(h2:A+4<=n)(g:B % 8=0)(g2:B+8<=n)(d:B+8<=A\/A+4<=B):jc n [(A,4),(B,8)]:=⟨by simp,λw hw=>by
 rcases vS.mp hw with rfl|hw
 ·exact⟨.inl rfl,h,h2⟩
 ·rw[uB.mp hw];exact⟨.inr rfl,g,g2⟩,mI.mpr ⟨λw hw=>by rw[uB.mp hw];exact d.symm,List.pairwise_singleton _ _⟩⟩
theorem aap{tk:Nat->Bool}{n:Nat}(U:∀c d,c / 4=d / 4->tk c=tk d):∀{p:Nat} {l:xD},Gr tk n p l->(p % 4=0\/4*(n / 4)<=p\/tk p=true)->4*l.length<=(n-p)+12:=by
 intro p l h
 induction h with
 | done _=>intro _;simp
 | @skip p l h1 h2 h3 ih =>
  intro _;have:=ih (by
   by_cases e:(p+1) % 4=0
   ·exact .inl e
   ·exact .inr (.inr (by rw[U (p+1) p (by lia)];exact h2)))
  lia
 | @out p k l h1 h2 h3 h4 ih =>
  intro c;have tp:tk p=false:=h2.2.2 p (uA _) (by have:=pos2 k;lia);have hp:=pos2 k;have h20:=h2.2.1;have rl:=(Bd h4).2;rw[mN];by_cases e:4*(n / 4)<=p
  ·lia
  ·have p4:p % 4=0:=by
    rcases c with c|c|c
    ·exact c
    ·exact gE c e
    ·rw[tp] at c;cases c
   have c2:C tk n p 2:=⟨p4,by show p+4<=n;lia,λd a b=>by
    have b:d<p+4:=b;rw[U d p (by lia)];exact tp⟩
   have k2:2<=k:=Nat.le_of_not_lt λz=>h3 (c2.le (by lia))
   obtain⟨j,rfl⟩:∃j,k=j+2:=⟨k-2,by lia⟩;have e4:2 ^ (j+2)=2 ^ j*4:=Nat.pow_add ..;have:=ih (.inl (by rw[e4];lia));have:=pos2 j;rw[e4] at *
   lia
theorem jc.free{n:Nat}{ts:xD}(h:jc n ts)(h2:n<=240)(g:Gd n ts):(frP n ts).length<64:=by
 have:=aap (λc d e=>by
  rw[Bool.eq_iff_iff,rP,rP]
  constructor
  all_goals
   rintro ⟨t,m,a,b⟩;obtain⟨k1,k2,_⟩:=h.ok t m;rcases k1 with k1|k1 <;> rw[k1] at k2 <;> exact⟨t,m,by lia,by lia⟩) (Bf h2 g) (.inl rfl)
 lia
theorem jc.holes{n:Nat}{ts:xD}(h:jc n ts)(h1:16<=n):(aP (cells n (cov ts))).length<64:=by
 have:=O4 (n:=n) (ws:=ts) (by lia) λw m=>⟨by have:=(h.ok w m).1;lia,(h.ok w m).2.2⟩
 have:=h.few
 lia
theorem jc.put{n i:Nat}{ts:xD}{w:Nat×Nat}(h:jc n ts)(e:ts[i]?=some w):hasB (cells n (cov (ts.take i))) w.1 w.2=true/\cT (cells n (cov (ts.take i))) w.1 w.2 false=cells n (cov (ts.take (i+1))):=by
 obtain⟨k1,_,k2⟩:=h.ok w (yT e);have es:ts.take (i+1)=ts.take i++[w]:=by rw[qS,e];rfl
 have d:=h.dis;rw[<- List.take_append_drop (i+1) ts,es,vF,mB] at d;refine⟨aao (by lia) (by rw[cV];exact k2) (Ky k2 λv hv=>d.2.2 v hv w (by simp)),by rw[ur k2,es]⟩
theorem jc.pc{n:Nat}{ts:xD}{w:Nat×Nat}(h:jc n ts)(m:w∈ts):Pc n w.1 w.2/\GC w.2=w.2:=by
 obtain⟨k1,k2,k3⟩:=h.ok w m;rcases k1 with e|e <;> rw[e] at k2 k3 ⊢
 ·exact⟨⟨2,rfl,k2,k3⟩,by decide⟩
 ·exact⟨⟨3,rfl,k2,k3⟩,by decide⟩
theorem jc.gd{n:Nat}{ts:xD}(h:jc n ts):Gd n ts:=⟨λw m=>(h.pc m).1,h.dis.imp λ{a b} d=>by
 have d:a.1+a.2<=b.1\/b.1+b.2<=a.1:=d;cases e:aV _ _ _ with
 | false=>rfl
 | true =>
  have:=dF.mp e
  lia⟩
theorem jc.ap{n i:Nat}{ts:xD}{w:Nat×Nat}(h:jc n ts)(e:ts[i]?=some w):∀t∈ts.take i,aV w.1 w.2 t=false:=λt ht=>by
 have es:ts.take (i+1)=ts.take i++[w]:=by rw[qS,e];rfl
 have d:=h.dis;rw[<- List.take_append_drop (i+1) ts,es,vF,mB] at d;have d:t.1+t.2<=w.1\/w.1+w.2<=t.1:=d.2.2 t ht w (by simp);cases e:aV _ _ _ with
 | false=>rfl
 | true =>
  have:=dF.mp e
  lia
instance (priority:=low) acU {σ:L2.St} {H:Hp} {Q:VK} {tr:TA} {sp:Sp} {E:XK} {dvs:List V}:Go (mX sp dvs E tr σ H Q) (tr σ H λvs H1=>sp (vs++dvs) H1 Q E):=⟨id⟩
instance ad5{K:W.Frag}{H:Hp}{Q:VK}{p q:Addr}{xs ys:List V}{ts:xD}[h:Hat H p (.lst xs)][h2:Hat H q (.lst ys)][t:TpA H xs (aF ts)][t2:TpA H ys (aF ts)]:Go (QX K (.ref p) (.ref q) H Q) (Q (.bl true) H):=⟨jR (dN (SqL.of h.e) t.e (iH _)) (dN (SqL.of h2.e) t2.e (iH _)) (rS (iK _) (by decide))⟩
section
variable{CV CP y dy x l dx P:Addr}{n:Nat}{ys:List V}{ts:xD}{H0 H:Hp}{Q:VK}{E:XK}{M:List Addr}{L:List (Addr×HO)}{I:List Im}{pos:Pos}{qual:Str}{ps:xI}
instance aa9[F:SH H0 M H L I][e:LkL L P (.tbl ps)][tb:DN I pos qual ps][h:HvA CV CP H y dy x l dx n ys ts]:Go (zx CV CP P pos qual [.ref y] H Q E) (Sd ((frP n ts).length<64) (∀ps' H1,Kp P H H1->H1 P=some (.tbl ps')->TabOk pos qual ps' H1->∀D zs H2,New H1 H2 D (.lst zs)->aB H2 zs (aF (kh (frP n ts)))->Q (.ref D) H2)):=⟨λk=>⟨y,dy,x,l,dx,n,ys,ts,ps,rfl,h.e,k.1,F.raw e.m,F.im _ tb.m,k.2⟩⟩
end
theorem iB{e:Int}{n k:Nat}(hk:0<k)(h:0<=e)(hn:k<=n):∃A:Nat,e % ((n:Int) / (k:Nat))*(k:Nat)=(A:Nat)/\A % k=0/\A+k<=n:=by
 have p:0<n / k:=Nat.div_pos hn hk;obtain⟨m,rfl⟩:∃m:Nat,e=(m:Int):=⟨e.toNat,by lia⟩;refine⟨m % (n / k)*k,by norm_cast,Nat.mul_mod_left _ _,?_⟩;have h1:m % (n / k)<n / k:=Nat.mod_lt _ p
 calc m % (n / k)*k+k=(m % (n / k)+1)*k:=(Nat.succ_mul _ _).symm
  _<=n / k*k:=Nat.mul_le_mul_right _ h1
  _<=n:=Nat.div_mul_le_self n k
section
variable{P:Program}{w:World}{K:W.Frag}{mg:xC}{base:Heap}{c:Nat->Addr}{aD ak R CH CP CF CT CN CV CB:Addr}
theorem W9(T:Txt K mg c R CH CP CF CT CN CV CB aD ak)(B:Bm mg base):Def P w K mg base CX0 20 "_law_good" ["_law_word","_law_many","_law_mark","_law_draws_here"] (Uc ak bW bG):=by
 obtain⟨_,cR⟩:=cR (P:=P) (w:=w) (base:=base) T;refine dA T.K5 j4 λf cdv A outer s H vs Q E hr h=>?_
 obtain⟨k0,n,t,l,e0,e1,e2,e3,e4,e5,ps,rfl,hl,nn,ae,ht,hP,tk,k⟩:=h;rcases k0 with _|_|_|_
 ·have nd:=j4.nd;refine⟨_,(aA (psz 4 nd (aK cR.all hr (aj (pv 0) (aj (pv 1) (aj (pv 2) ao))) (hx:=jM)))
   (aA (bB (PW.pt (je (aN gh (pv 2) aq (aO _)) (g8 (aN gh (aM bV (aW aZ (pv 3) aq (λ_ _=>rfl)) aq) aq (aO _))))) (aC (psz 4 nd (rN (dvs:=[.int 0]) cR hr (.cons ⟨_,rfl⟩ .nil) (aj (pv 0) (aj (pv 1) ao)) (hx:=jM)))) aR)
   (aA (psz 5 nd (aU (aj (bw (aj (aM dg (aM bV (aW aZ (pv 3) aq (λ_ _=>rfl)) (aM cu (pv 1) aq)) aq) (aj aq ao))) ao)))
   (aA (psz 6 nd (aM dg (aM bV (aW aZ (pv 3) aq (λ_ _=>rfl)) (aM cu (pv 1) aq)) aq))
   (aA (bB (PW.pt (dH (aN h_ (aM bU (pv 6) aq) (aW bA (aW aZ (pv 5) aq (λ_ _=>rfl)) aq (λ_ _=>rfl)) (aO _)) (fJ (aN h_ (aM bU (aW bA (aW aZ (pv 5) aq (λ_ _=>rfl)) aq (λ_ _=>rfl)) aq) (pv 6) (aO _))))) (aC (bK (cA (pv 5) (bw (aj (pv 6) (aj aq ao)))))) aR)
   (aA (gK PassesOwn.never rfl (cj (pv 5)) (lO rfl (cL (pgz 7 nd) (cL (pgz 8 nd) jf))) (aC (bK (jm (pv 4) T.clF (S6 T) hr (aj (pv 7) (aj (pv 8) ao))))))
   (aA (psz 9 nd (aK (sE T) hr (aj (pv 1) (aj (pv 5) ao))))
   (aA (bB (aN (fU (K:=K) rfl hr) (pv 0) bL (aO _)) (aC (psz 9 nd (aK (sy T) hr (aj (pv 1) (aj (pv 5) ao))))) aR)
   (aA (bB (PW.pt (dH (cD (bN (aK (oK T) hr (aj (pv 0) (aj (pv 4) ao))))) (dH (aN mV (bM (pv 4) T.clF (S7 T) hr) (pv 0) (aO _)) (dH (cD (bN (aK (oG T) hr (aj (bM (pv 4) T.clF (yP T) hr) ao)))) (fJ (aN mV (bM (pv 4) T.clF (yP T) hr) (pv 2) (aO _))))))) (aC (aL cZ)) aR)
   (aC (aL (fL (cM (dM hr) (bM (pv 4) T.clF (vK T) hr) (pv 9) (aO _)) (fK (cM (dM hr) (bM (pv 4) T.clF (Oi T) hr) (aK (oJ T) hr (aj (pv 0) (aj (pv 2) (aj (pv 9) ao)))) (aO _))))))))))))))),?_⟩
  clear nd;rw[stE]
  try dsimp only[bI,aY]
  obtain⟨n1,n2⟩:=nn;obtain rfl:t=0:=by have:(t:Int)<=0:=ht;lia
  have nlP:l≠ak:=λe=>by rw[e,hP] at hl;cases hl
  have F:SH H [ak] H [(ak,.tbl ps)] [eF bW bG ps]:=(SH.nil.fQ List.mem_cons_self hP rfl (by simp)).rD tk;have dB:=Old.mk (M:=[ak]) hl (nm1 nlP);have b2:=ae e2 (by simp);have b3:=ae e3 (by simp);have b4:=ae e4 (by simp);obtain⟨A,hA,hA4,hAn⟩:=iB (e:=e3) (n:=n) (k:=4) (by decide) b3.1 (by lia);obtain⟨B,hB,hB8,hBn⟩:=iB (e:=e4) (n:=n) (k:=8) (by decide) b4.1 (by lia);have m4:0<=e3 % ((n:Int) / 4)/\e3 % ((n:Int) / 4)<(n:Int) / 4:=⟨Int.emod_nonneg _ (by lia),Int.emod_lt_of_pos _ (by lia)⟩;have m8:0<=e4 % ((n:Int) / 8)/\e4 % ((n:Int) / 8)<(n:Int) / 8:=⟨Int.emod_nonneg _ (by lia),Int.emod_lt_of_pos _ (by lia)⟩
  repeat k_meth
  refine⟨_,_,_,_,_,_,_,rfl,ThA.e,.str _,.int _,.int _,.inl ⟨.f,n,0,rfl,rfl,rfl,⟨n1,n2⟩,ht,λy dy x p dx H2 F2=>?_⟩⟩;have F3:SH H [ak] H2 ([(y,.ins CF dy (rF x none)),(x,.ins CH dx (hF (n:Nat) p)),(p,.lst ((List.replicate n true).map V.bl))]++[(ak,.tbl ps)]) ([]++[eF bW bG ps]):=SH.over (A:=[]) F F2 rfl;clear F F2;have F:=F3;clear F3;dsimp only[List.nil_append] at F;dsimp only[List.cons_append,List.nil_append] at F
  repeat ((fail_if_success with_reducible show q_ _ _ _ _ _ _);k_meth)
  refine nU (λσ' H'=>NT λ(o5 o6 o7 o8 o9:Option V) (y dy x p dx:Addr)=>σ'=[some (.str (bC .f)),some (.int (n:Nat)),some (.int (0:Nat)),some (.ref l),some (.ref y),o5,o6,o7,o8,o9]/\SH H [ak] H' [(y,.ins CF dy (rF x none)),(x,.ins CH dx (hF (n:Nat) p)),(p,.lst ((List.replicate n true).map V.bl)),(ak,.tbl ps)] [eF bW bG ps]) ?_ λ_ _ _ _ hR _=>?_
  ·clear F;rintro σ' H' ⟨_,_,_,_,_,y,dy,x,p,dx,rfl,F⟩
   repeat ((fail_if_success with_reducible show q_ _ _ _ _ _ _);k_meth)
   obtain⟨tk,e_⟩:∃z,z=p_:=⟨_,rfl⟩;subst e_;obtain⟨tq,e_⟩:∃z,z=p_:=⟨_,rfl⟩;subst e_;have hA':e3 % ((n:Int) / 4)*4=(A:Int):=hA;have hB':e4 % ((n:Int) / 8)*8=(B:Int):=hB;rw[hA'] at F;rw[hB'];have hq:H_ tq=some (.tup [.int (A:Nat),.int (4:Nat)]):=aH;have t1:aB H_ [.ref tq] (aF [(A,4)]):=aB.snoc (ys:=[]) (rows:=[]) aB.nil hq;refine nU (λσ' H'=>Ex5 λ(o7 o8 o9:Option V) (ts:xD) (zs:List V)=>An3 (jc n ts) (σ'=[some (.str (bC .f)),some (.int (n:Nat)),some (.int (0:Nat)),some (.ref l),some (.ref y),some (.ref tk),some (.int (B:Nat)),o7,o8,o9]) (SH H [ak] H' [(tk,.lst zs),(y,.ins CF dy (rF x none)),(x,.ins CH dx (hF (n:Nat) p)),(p,.lst ((List.replicate n true).map V.bl)),(ak,.tbl ps)] [.tps zs (aF ts),eF bW bG ps])) ?_ λ_ _ _ _ hR _=>?_
   ·clear F hq t1;rintro σ' H' ⟨_,_,_,ts,zs,tko,rfl,F⟩;have zl:zs.length=ts.length:=aG (TpA.e:aB H' zs (aF ts))
    repeat k_meth
    refine iw (xs:=zs) (λi σ' H'=>Ex3 λ(o7 o8 o9:Option V)=>σ'=[some (.str (bC .f)),some (.int (n:Nat)),some (.int (0:Nat)),some (.ref l),some (.ref y),some (.ref tk),some (.int (B:Nat)),o7,o8,o9]/\SH H [ak] H' [(y,.ins CF dy (rF x none)),(x,.ins CH dx (hF (n:Nat) p)),(p,.lst ((cells n (cov (ts.take i))).map V.bl)),(tk,.lst zs),(ak,.tbl ps)] [.tps zs (aF ts),eF bW bG ps]) ⟨_,_,_,rfl,by rw[show cells n (cov (ts.take 0))=List.replicate n true from sI n];exact F.sub SbC.s SbI.s⟩ ?_ ?_ ?_
    ·clear F;rintro i σ' H' _ ⟨_,_,_,rfl,F⟩;exact SqA.e
    ·clear F;rintro i v σ' H' hv ⟨_,_,_,rfl,F⟩;obtain⟨w,q,e1,rfl,e2⟩:=dU (H:=H') (ws:=ts) TpA.e hv;replace F:=F.Aq e2;have pn:=tko.put e1;have ht:Gn (cells n (cov (ts.take i))) w.1 w.2:=⟨pn.1⟩;have bks:=fV (c:=cov (ts.take i)) n1 n2
     repeat k_meth
     rw[pn.2] at F;exact⟨_,_,_,rfl,F.sub SbC.s SbI.s⟩
    ·clear F;rintro σ' H' ⟨_,_,_,rfl,F⟩;rw[zl,List.take_length] at F;have bks:=fV (c:=cov ts) n1 n2;have gta:GtA n ts:=⟨n1,n2,tko.gd,by have:=tko.few;lia⟩
     repeat k_meth
     refine⟨n,tk,zs,ts,rfl,aH,TpA.e,⟨n1,n2⟩,⟨by have:=tko.few;lia,λw hw=>⟨by have:=(tko.ok w hw).1;lia,(tko.ok w hw).2.2⟩,tko.dis⟩,λq2 z2 H2 nw g=>?_⟩;replace F:=F.newR nw g;have hl1:(aP (cells n (cov ts))).length<64:=tko.holes n1;have hl2:(aP (cells n (cov ts))).length<64/\(aP (cells n (cov ts))).Nodup/\∀w∈aP (cells n (cov ts)),w.1<1000000:=⟨by lia,jt _,ju (by rw[cV];exact n2)⟩
     repeat k_meth
     refine⟨.f,y,dy,_,rfl,aH,?_⟩
     repeat k_meth
     rw[show isW (V.int 0)=true from rfl]
     repeat k_meth
     refine⟨.f,0,q2,z2,aP (cells n (cov ts)),rfl,aH,TpA.e,⟨by lia,hl2.2⟩,λq3 z3 H3 s3 e3 t3=>?_⟩;replace F:=F.same s3;refine jR (dN (SqL.of aH) TpA.e (iH _)) (dN (SqL.of e3) t3 (iH _)) (rS (iK _) (by decide)) ?_
     repeat k_meth
     exact k ps _ F.kpo aH SH.tab
   ·repeat k_meth
    refine cC (λh1=>?_) (λh1=>?_)
    ·repeat k_meth
     rw[show [V.ref tq]++[V.ref p_]=[V.ref tq,V.ref p_] from rfl] at F;have hq1:H_ tq=some (.tup [.int (A:Nat),.int (4:Nat)]):=aH;have hq2:H_ p_=some (.tup [.int (B:Nat),.int (8:Nat)]):=aH;have t2:aB H_ [.ref tq,.ref p_] (aF [(A,4),(B,8)]):=aB.snoc (ys:=[.ref tq]) (rows:=aF [(A,4)]) (aB.snoc (ys:=[]) (rows:=[]) aB.nil hq1) hq2;exact hR _ _ ⟨_,_,_,[(A,4),(B,8)],[.ref tq,.ref p_],.two hA4 hAn hB8 hBn (by lia),rfl,(F.bQ t2).sub SbC.s SbI.s⟩
    ·repeat k_meth
     refine cC (λh2=>?_) (λh2=>?_)
     ·repeat k_meth
      rw[show [V.ref tq]++[V.ref p_]=[V.ref tq,V.ref p_] from rfl] at F;have hq1:H_ tq=some (.tup [.int (A:Nat),.int (4:Nat)]):=aH;have hq2:H_ p_=some (.tup [.int (B:Nat),.int (8:Nat)]):=aH;have t2:aB H_ [.ref tq,.ref p_] (aF [(A,4),(B,8)]):=aB.snoc (ys:=[.ref tq]) (rows:=aF [(A,4)]) (aB.snoc (ys:=[]) (rows:=[]) aB.nil hq1) hq2;exact hR _ _ ⟨_,_,_,[(A,4),(B,8)],[.ref tq,.ref p_],.two hA4 hAn hB8 hBn (by lia),rfl,(F.bQ t2).sub SbC.s SbI.s⟩
     ·repeat k_meth
      have hq1:H_ tq=some (.tup [.int (A:Nat),.int (4:Nat)]):=aH;have t2:aB H_ [.ref tq] (aF [(A,4)]):=aB.snoc (ys:=[]) (rows:=[]) aB.nil hq1;exact hR _ _ ⟨_,_,_,[(A,4)],[.ref tq],.one hA4 hAn,rfl,(F.bQ t2).sub SbC.s SbI.s⟩
  ·repeat k_meth
   refine cC (λh0=>?_) (λh0=>?_)
   ·repeat k_meth
    refine⟨_,_,_,_,_,_,_,rfl,ThA.e,.str _,.int _,.int _,.inl ⟨.f,n,0,rfl,rfl,rfl,⟨n1,n2⟩,by exact Int.le_refl 0,λy2 dy2 x2 p2 dx2 H2 F2=>?_⟩⟩;have F2:SH _ [] H2 [(y2,.ins CF dy2 (rF x2 none)),(x2,.ins CH dx2 (hF (n:Nat) p2)),(p2,.lst ((List.replicate n true).map V.bl))] []:=F2;have F3:=SH.over (A:=[]) F F2 rfl;clear F F2;have F:=F3;clear F3;dsimp only[List.cons_append,List.nil_append] at F
    repeat k_meth
    exact hR _ _ ⟨_,_,_,_,_,y2,dy2,x2,p2,dx2,rfl,F.sub SbC.s SbI.s⟩
   ·repeat k_meth
    exact hR _ _ ⟨_,_,_,_,_,y,dy,x,p,dx,rfl,F⟩
 ·have nd:=j4.nd;refine⟨_,(aA (psz 4 nd (aK cR.all hr (aj (pv 0) (aj (pv 1) (aj (pv 2) ao))) (hx:=jM)))
   (aA (bB (PW.pt (je (aN gh (pv 2) aq (aO _)) (g8 (aN gh (aM bV (aW aZ (pv 3) aq (λ_ _=>rfl)) aq) aq (aO _))))) (aC (psz 4 nd (rN (dvs:=[.int 0]) cR hr (.cons ⟨_,rfl⟩ .nil) (aj (pv 0) (aj (pv 1) ao)) (hx:=jM)))) aR)
   (aA (psz 5 nd (aU (aj (bw (aj (aM dg (aM bV (aW aZ (pv 3) aq (λ_ _=>rfl)) (aM cu (pv 1) aq)) aq) (aj aq ao))) ao)))
   (aA (psz 6 nd (aM dg (aM bV (aW aZ (pv 3) aq (λ_ _=>rfl)) (aM cu (pv 1) aq)) aq))
   (aA (bB (PW.pt (dH (aN h_ (aM bU (pv 6) aq) (aW bA (aW aZ (pv 5) aq (λ_ _=>rfl)) aq (λ_ _=>rfl)) (aO _)) (fJ (aN h_ (aM bU (aW bA (aW aZ (pv 5) aq (λ_ _=>rfl)) aq (λ_ _=>rfl)) aq) (pv 6) (aO _))))) (aC (bK (cA (pv 5) (bw (aj (pv 6) (aj aq ao)))))) aR)
   (aA (gK PassesOwn.never rfl (cj (pv 5)) (lO rfl (cL (pgz 7 nd) (cL (pgz 8 nd) jf))) (aC (bK (jm (pv 4) T.clT (S8 T) hr (aj (pv 7) (aj (pv 8) ao))))))
   (aA (psz 9 nd (aK (sE T) hr (aj (pv 1) (aj (pv 5) ao))))
   (aA (bB (aN (fU (K:=K) rfl hr) (pv 0) bL (aO _)) (aC (psz 9 nd (aK (sy T) hr (aj (pv 1) (aj (pv 5) ao))))) aR)
   (aA (bB (PW.pt (dH (cD (bN (aK (oK T) hr (aj (pv 0) (aj (pv 4) ao))))) (dH (aN mV (bM (pv 4) T.clT (S9 T) hr) (pv 0) (aO _)) (dH (cD (bN (aK (oG T) hr (aj (bM (pv 4) T.clT (yQ T) hr) ao)))) (fJ (aN mV (bM (pv 4) T.clT (yQ T) hr) (pv 2) (aO _))))))) (aC (aL cZ)) aR)
   (aC (aL (fL (cM (dM hr) (bM (pv 4) T.clT (vL T) hr) (pv 9) (aO _)) (fK (cM (dM hr) (bM (pv 4) T.clT (Ol T B) hr) (aK (oJ T) hr (aj (pv 0) (aj (pv 2) (aj (pv 9) ao)))) (aO _))))))))))))))),?_⟩
  clear nd;rw[stE]
  try dsimp only[bI,aY]
  obtain⟨n1,n2⟩:=nn;obtain rfl:t=0:=by have:(t:Int)<=0:=ht;lia
  have nlP:l≠ak:=λe=>by rw[e,hP] at hl;cases hl
  have F:SH H [ak] H [(ak,.tbl ps)] [eF bW bG ps]:=(SH.nil.fQ List.mem_cons_self hP rfl (by simp)).rD tk;have dB:=Old.mk (M:=[ak]) hl (nm1 nlP);have b2:=ae e2 (by simp);have b3:=ae e3 (by simp);have b4:=ae e4 (by simp);obtain⟨A,hA,hA4,hAn⟩:=iB (e:=e3) (n:=n) (k:=4) (by decide) b3.1 (by lia);obtain⟨B,hB,hB8,hBn⟩:=iB (e:=e4) (n:=n) (k:=8) (by decide) b4.1 (by lia);have m4:0<=e3 % ((n:Int) / 4)/\e3 % ((n:Int) / 4)<(n:Int) / 4:=⟨Int.emod_nonneg _ (by lia),Int.emod_lt_of_pos _ (by lia)⟩;have m8:0<=e4 % ((n:Int) / 8)/\e4 % ((n:Int) / 8)<(n:Int) / 8:=⟨Int.emod_nonneg _ (by lia),Int.emod_lt_of_pos _ (by lia)⟩
  repeat k_meth
  refine⟨_,_,_,_,_,_,_,rfl,ThA.e,.str _,.int _,.int _,.inl ⟨.t,n,0,rfl,rfl,rfl,⟨n1,n2⟩,ht,λy dy x p dx H2 F2=>?_⟩⟩;have F3:SH H [ak] H2 ([(y,.ins CT dy (rF x none)),(x,.ins CH dx (hF (n:Nat) p)),(p,.lst ((List.replicate n true).map V.bl))]++[(ak,.tbl ps)]) ([]++[eF bW bG ps]):=SH.over (A:=[]) F F2 rfl;clear F F2;have F:=F3;clear F3;dsimp only[List.nil_append] at F;dsimp only[List.cons_append,List.nil_append] at F
  repeat ((fail_if_success with_reducible show q_ _ _ _ _ _ _);k_meth)
  refine nU (λσ' H'=>NT λ(o5 o6 o7 o8 o9:Option V) (y dy x p dx:Addr)=>σ'=[some (.str (bC .t)),some (.int (n:Nat)),some (.int (0:Nat)),some (.ref l),some (.ref y),o5,o6,o7,o8,o9]/\SH H [ak] H' [(y,.ins CT dy (rF x none)),(x,.ins CH dx (hF (n:Nat) p)),(p,.lst ((List.replicate n true).map V.bl)),(ak,.tbl ps)] [eF bW bG ps]) ?_ λ_ _ _ _ hR _=>?_
  ·clear F;rintro σ' H' ⟨_,_,_,_,_,y,dy,x,p,dx,rfl,F⟩
   repeat ((fail_if_success with_reducible show q_ _ _ _ _ _ _);k_meth)
   obtain⟨tk,e_⟩:∃z,z=p_:=⟨_,rfl⟩;subst e_;obtain⟨tq,e_⟩:∃z,z=p_:=⟨_,rfl⟩;subst e_;have hA':e3 % ((n:Int) / 4)*4=(A:Int):=hA;have hB':e4 % ((n:Int) / 8)*8=(B:Int):=hB;rw[hA'] at F;rw[hB'];have hq:H_ tq=some (.tup [.int (A:Nat),.int (4:Nat)]):=aH;have t1:aB H_ [.ref tq] (aF [(A,4)]):=aB.snoc (ys:=[]) (rows:=[]) aB.nil hq;refine nU (λσ' H'=>Ex5 λ(o7 o8 o9:Option V) (ts:xD) (zs:List V)=>An3 (jc n ts) (σ'=[some (.str (bC .t)),some (.int (n:Nat)),some (.int (0:Nat)),some (.ref l),some (.ref y),some (.ref tk),some (.int (B:Nat)),o7,o8,o9]) (SH H [ak] H' [(tk,.lst zs),(y,.ins CT dy (rF x none)),(x,.ins CH dx (hF (n:Nat) p)),(p,.lst ((List.replicate n true).map V.bl)),(ak,.tbl ps)] [.tps zs (aF ts),eF bW bG ps])) ?_ λ_ _ _ _ hR _=>?_
   ·clear F hq t1;rintro σ' H' ⟨_,_,_,ts,zs,tko,rfl,F⟩;have zl:zs.length=ts.length:=aG (TpA.e:aB H' zs (aF ts))
    repeat k_meth
    refine iw (xs:=zs) (λi σ' H'=>Ex3 λ(o7 o8 o9:Option V)=>σ'=[some (.str (bC .t)),some (.int (n:Nat)),some (.int (0:Nat)),some (.ref l),some (.ref y),some (.ref tk),some (.int (B:Nat)),o7,o8,o9]/\SH H [ak] H' [(y,.ins CT dy (rF x none)),(x,.ins CH dx (hF (n:Nat) p)),(p,.lst ((cells n (cov (ts.take i))).map V.bl)),(tk,.lst zs),(ak,.tbl ps)] [.tps zs (aF ts),eF bW bG ps]) ⟨_,_,_,rfl,by rw[show cells n (cov (ts.take 0))=List.replicate n true from sI n];exact F.sub SbC.s SbI.s⟩ ?_ ?_ ?_
    ·clear F;rintro i σ' H' _ ⟨_,_,_,rfl,F⟩;exact SqA.e
    ·clear F;rintro i v σ' H' hv ⟨_,_,_,rfl,F⟩;obtain⟨w,q,e1,rfl,e2⟩:=dU (H:=H') (ws:=ts) TpA.e hv;replace F:=F.Aq e2;have pn:=tko.put e1;have ht:Gn (cells n (cov (ts.take i))) w.1 w.2:=⟨pn.1⟩;have bks:=fV (c:=cov (ts.take i)) n1 n2
     repeat k_meth
     rw[pn.2] at F;exact⟨_,_,_,rfl,F.sub SbC.s SbI.s⟩
    ·clear F;rintro σ' H' ⟨_,_,_,rfl,F⟩;rw[zl,List.take_length] at F;have bks:=fV (c:=cov ts) n1 n2;have gta:GtA n ts:=⟨n1,n2,tko.gd,by have:=tko.few;lia⟩
     repeat k_meth
     refine⟨n,tk,zs,ts,rfl,aH,TpA.e,⟨n1,n2⟩,⟨by have:=tko.few;lia,λw hw=>⟨by have:=(tko.ok w hw).1;lia,(tko.ok w hw).2.2⟩,tko.dis⟩,λq2 z2 H2 nw g=>?_⟩;replace F:=F.newR nw g;have hl1:(aP (cells n (cov ts))).length<64:=tko.holes n1;have hl2:(aP (cells n (cov ts))).length<64/\(aP (cells n (cov ts))).Nodup/\∀w∈aP (cells n (cov ts)),w.1<1000000:=⟨by lia,jt _,ju (by rw[cV];exact n2)⟩
     repeat k_meth
     refine⟨.t,y,dy,_,rfl,aH,?_⟩
     repeat k_meth
     rw[show isW (V.int 0)=true from rfl]
     repeat k_meth
     intro qs hq;have eq:=oF hq.1 hq.2;subst eq
     repeat k_meth
     intro ps2
     repeat k_meth
     refine⟨.t,0,q2,z2,aP (cells n (cov ts)),rfl,aH,TpA.e,⟨by lia,hl2.2⟩,λq3 z3 H3 s3 e3 t3=>?_⟩;replace F:=F.same s3;refine jR (dN (SqL.of aH) TpA.e (iH _)) (dN (SqL.of e3) t3 (iH _)) (rS (iK _) (by decide)) ?_
     repeat k_meth
     exact k ps2 _ F.kpo aH SH.tab
   ·repeat k_meth
    refine cC (λh1=>?_) (λh1=>?_)
    ·repeat k_meth
     rw[show [V.ref tq]++[V.ref p_]=[V.ref tq,V.ref p_] from rfl] at F;have hq1:H_ tq=some (.tup [.int (A:Nat),.int (4:Nat)]):=aH;have hq2:H_ p_=some (.tup [.int (B:Nat),.int (8:Nat)]):=aH;have t2:aB H_ [.ref tq,.ref p_] (aF [(A,4),(B,8)]):=aB.snoc (ys:=[.ref tq]) (rows:=aF [(A,4)]) (aB.snoc (ys:=[]) (rows:=[]) aB.nil hq1) hq2;exact hR _ _ ⟨_,_,_,[(A,4),(B,8)],[.ref tq,.ref p_],.two hA4 hAn hB8 hBn (by lia),rfl,(F.bQ t2).sub SbC.s SbI.s⟩
    ·repeat k_meth
     refine cC (λh2=>?_) (λh2=>?_)
     ·repeat k_meth
      rw[show [V.ref tq]++[V.ref p_]=[V.ref tq,V.ref p_] from rfl] at F;have hq1:H_ tq=some (.tup [.int (A:Nat),.int (4:Nat)]):=aH;have hq2:H_ p_=some (.tup [.int (B:Nat),.int (8:Nat)]):=aH;have t2:aB H_ [.ref tq,.ref p_] (aF [(A,4),(B,8)]):=aB.snoc (ys:=[.ref tq]) (rows:=aF [(A,4)]) (aB.snoc (ys:=[]) (rows:=[]) aB.nil hq1) hq2;exact hR _ _ ⟨_,_,_,[(A,4),(B,8)],[.ref tq,.ref p_],.two hA4 hAn hB8 hBn (by lia),rfl,(F.bQ t2).sub SbC.s SbI.s⟩
     ·repeat k_meth
      have hq1:H_ tq=some (.tup [.int (A:Nat),.int (4:Nat)]):=aH;have t2:aB H_ [.ref tq] (aF [(A,4)]):=aB.snoc (ys:=[]) (rows:=[]) aB.nil hq1;exact hR _ _ ⟨_,_,_,[(A,4)],[.ref tq],.one hA4 hAn,rfl,(F.bQ t2).sub SbC.s SbI.s⟩
  ·repeat k_meth
   refine cC (λh0=>?_) (λh0=>?_)
   ·repeat k_meth
    refine⟨_,_,_,_,_,_,_,rfl,ThA.e,.str _,.int _,.int _,.inl ⟨.t,n,0,rfl,rfl,rfl,⟨n1,n2⟩,by exact Int.le_refl 0,λy2 dy2 x2 p2 dx2 H2 F2=>?_⟩⟩;have F2:SH _ [] H2 [(y2,.ins CT dy2 (rF x2 none)),(x2,.ins CH dx2 (hF (n:Nat) p2)),(p2,.lst ((List.replicate n true).map V.bl))] []:=F2;have F3:=SH.over (A:=[]) F F2 rfl;clear F F2;have F:=F3;clear F3;dsimp only[List.cons_append,List.nil_append] at F
    repeat k_meth
    exact hR _ _ ⟨_,_,_,_,_,y2,dy2,x2,p2,dx2,rfl,F.sub SbC.s SbI.s⟩
   ·repeat k_meth
    exact hR _ _ ⟨_,_,_,_,_,y,dy,x,p,dx,rfl,F⟩
 ·have nd:=j4.nd;refine⟨_,(aA (psz 4 nd (aK cR.all hr (aj (pv 0) (aj (pv 1) (aj (pv 2) ao))) (hx:=jM)))
   (aA (bB (PW.pt (je (aN gh (pv 2) aq (aO _)) (g8 (aN gh (aM bV (aW aZ (pv 3) aq (λ_ _=>rfl)) aq) aq (aO _))))) (aC (psz 4 nd (rN (dvs:=[.int 0]) cR hr (.cons ⟨_,rfl⟩ .nil) (aj (pv 0) (aj (pv 1) ao)) (hx:=jM)))) aR)
   (aA (psz 5 nd (aU (aj (bw (aj (aM dg (aM bV (aW aZ (pv 3) aq (λ_ _=>rfl)) (aM cu (pv 1) aq)) aq) (aj aq ao))) ao)))
   (aA (psz 6 nd (aM dg (aM bV (aW aZ (pv 3) aq (λ_ _=>rfl)) (aM cu (pv 1) aq)) aq))
   (aA (bB (PW.pt (dH (aN h_ (aM bU (pv 6) aq) (aW bA (aW aZ (pv 5) aq (λ_ _=>rfl)) aq (λ_ _=>rfl)) (aO _)) (fJ (aN h_ (aM bU (aW bA (aW aZ (pv 5) aq (λ_ _=>rfl)) aq (λ_ _=>rfl)) aq) (pv 6) (aO _))))) (aC (bK (cA (pv 5) (bw (aj (pv 6) (aj aq ao)))))) aR)
   (aA (gK PassesOwn.never rfl (cj (pv 5)) (lO rfl (cL (pgz 7 nd) (cL (pgz 8 nd) jf))) (aC (bK (jm (pv 4) T.clN (S_ T) hr (aj (pv 7) (aj (pv 8) ao))))))
   (aA (psz 9 nd (aK (sE T) hr (aj (pv 1) (aj (pv 5) ao))))
   (aA (bB (aN (fU (K:=K) rfl hr) (pv 0) bL (aO _)) (aC (psz 9 nd (aK (sy T) hr (aj (pv 1) (aj (pv 5) ao))))) aR)
   (aA (bB (PW.pt (dH (cD (bN (aK (oK T) hr (aj (pv 0) (aj (pv 4) ao))))) (dH (aN mV (bM (pv 4) T.clN (Tc T) hr) (pv 0) (aO _)) (dH (cD (bN (aK (oG T) hr (aj (bM (pv 4) T.clN (Gq T) hr) ao)))) (fJ (aN mV (bM (pv 4) T.clN (Gq T) hr) (pv 2) (aO _))))))) (aC (aL cZ)) aR)
   (aC (aL (fL (cM (dM hr) (bM (pv 4) T.clN (vM T) hr) (pv 9) (aO _)) (fK (cM (dM hr) (bM (pv 4) T.clN (Oj T) hr) (aK (oJ T) hr (aj (pv 0) (aj (pv 2) (aj (pv 9) ao)))) (aO _))))))))))))))),?_⟩
  clear nd;rw[stE]
  try dsimp only[bI,aY]
  obtain⟨n1,n2⟩:=nn;have nlP:l≠ak:=λe=>by rw[e,hP] at hl;cases hl
  have F:SH H [ak] H [(ak,.tbl ps)] [eF bW bG ps]:=(SH.nil.fQ List.mem_cons_self hP rfl (by simp)).rD tk;have dB:=Old.mk (M:=[ak]) hl (nm1 nlP);have b2:=ae e2 (by simp);have b3:=ae e3 (by simp);have b4:=ae e4 (by simp);obtain⟨A,hA,hA4,hAn⟩:=iB (e:=e3) (n:=n) (k:=4) (by decide) b3.1 (by lia);obtain⟨B,hB,hB8,hBn⟩:=iB (e:=e4) (n:=n) (k:=8) (by decide) b4.1 (by lia);have m4:0<=e3 % ((n:Int) / 4)/\e3 % ((n:Int) / 4)<(n:Int) / 4:=⟨Int.emod_nonneg _ (by lia),Int.emod_lt_of_pos _ (by lia)⟩;have m8:0<=e4 % ((n:Int) / 8)/\e4 % ((n:Int) / 8)<(n:Int) / 8:=⟨Int.emod_nonneg _ (by lia),Int.emod_lt_of_pos _ (by lia)⟩
  repeat k_meth
  refine⟨_,_,_,_,_,_,_,rfl,ThA.e,.str _,.int _,.int _,.inl ⟨.n,n,t,rfl,rfl,rfl,⟨n1,n2⟩,ht,λy dy x p dx H2 F2=>?_⟩⟩;have F3:SH H [ak] H2 ([(y,.ins CN dy (rF x (some (t:Nat)))),(x,.ins CH dx (hF (n:Nat) p)),(p,.lst ((List.replicate n true).map V.bl))]++[(ak,.tbl ps)]) ([]++[eF bW bG ps]):=SH.over (A:=[]) F F2 rfl;clear F F2;have F:=F3;clear F3;dsimp only[List.nil_append] at F;dsimp only[List.cons_append,List.nil_append] at F
  repeat ((fail_if_success with_reducible show q_ _ _ _ _ _ _);k_meth)
  refine nU (λσ' H'=>NT λ(o5 o6 o7 o8 o9:Option V) (y dy x p dx:Addr)=>σ'=[some (.str (bC .n)),some (.int (n:Nat)),some (.int (t:Nat)),some (.ref l),some (.ref y),o5,o6,o7,o8,o9]/\SH H [ak] H' [(y,.ins CN dy (rF x (some (t:Nat)))),(x,.ins CH dx (hF (n:Nat) p)),(p,.lst ((List.replicate n true).map V.bl)),(ak,.tbl ps)] [eF bW bG ps]) ?_ λ_ _ _ _ hR _=>?_
  ·clear F;rintro σ' H' ⟨_,_,_,_,_,y,dy,x,p,dx,rfl,F⟩
   repeat ((fail_if_success with_reducible show q_ _ _ _ _ _ _);k_meth)
   obtain⟨tk,e_⟩:∃z,z=p_:=⟨_,rfl⟩;subst e_;obtain⟨tq,e_⟩:∃z,z=p_:=⟨_,rfl⟩;subst e_;have hA':e3 % ((n:Int) / 4)*4=(A:Int):=hA;have hB':e4 % ((n:Int) / 8)*8=(B:Int):=hB;rw[hA'] at F;rw[hB'];have hq:H_ tq=some (.tup [.int (A:Nat),.int (4:Nat)]):=aH;have t1:aB H_ [.ref tq] (aF [(A,4)]):=aB.snoc (ys:=[]) (rows:=[]) aB.nil hq;refine nU (λσ' H'=>Ex5 λ(o7 o8 o9:Option V) (ts:xD) (zs:List V)=>An3 (jc n ts) (σ'=[some (.str (bC .n)),some (.int (n:Nat)),some (.int (t:Nat)),some (.ref l),some (.ref y),some (.ref tk),some (.int (B:Nat)),o7,o8,o9]) (SH H [ak] H' [(tk,.lst zs),(y,.ins CN dy (rF x (some (t:Nat)))),(x,.ins CH dx (hF (n:Nat) p)),(p,.lst ((List.replicate n true).map V.bl)),(ak,.tbl ps)] [.tps zs (aF ts),eF bW bG ps])) ?_ λ_ _ _ _ hR _=>?_
   ·clear F hq t1;rintro σ' H' ⟨_,_,_,ts,zs,tko,rfl,F⟩;have zl:zs.length=ts.length:=aG (TpA.e:aB H' zs (aF ts))
    repeat k_meth
    refine iw (xs:=zs) (λi σ' H'=>Ex3 λ(o7 o8 o9:Option V)=>σ'=[some (.str (bC .n)),some (.int (n:Nat)),some (.int (t:Nat)),some (.ref l),some (.ref y),some (.ref tk),some (.int (B:Nat)),o7,o8,o9]/\SH H [ak] H' [(y,.ins CN dy (rF x (some (t:Nat)))),(x,.ins CH dx (hF (n:Nat) p)),(p,.lst ((cells n (cov (ts.take i))).map V.bl)),(tk,.lst zs),(ak,.tbl ps)] [.tps zs (aF ts),eF bW bG ps]) ⟨_,_,_,rfl,by rw[show cells n (cov (ts.take 0))=List.replicate n true from sI n];exact F.sub SbC.s SbI.s⟩ ?_ ?_ ?_
    ·clear F;rintro i σ' H' _ ⟨_,_,_,rfl,F⟩;exact SqA.e
    ·clear F;rintro i v σ' H' hv ⟨_,_,_,rfl,F⟩;obtain⟨w,q,e1,rfl,e2⟩:=dU (H:=H') (ws:=ts) TpA.e hv;replace F:=F.Aq e2;have pn:=tko.put e1;have ht:Gn (cells n (cov (ts.take i))) w.1 w.2:=⟨pn.1⟩;have bks:=fV (c:=cov (ts.take i)) n1 n2
     repeat k_meth
     rw[pn.2] at F;exact⟨_,_,_,rfl,F.sub SbC.s SbI.s⟩
    ·clear F;rintro σ' H' ⟨_,_,_,rfl,F⟩;rw[zl,List.take_length] at F;have bks:=fV (c:=cov ts) n1 n2;have gta:GtA n ts:=⟨n1,n2,tko.gd,by have:=tko.few;lia⟩
     repeat k_meth
     refine⟨n,tk,zs,ts,rfl,aH,TpA.e,⟨n1,n2⟩,⟨by have:=tko.few;lia,λw hw=>⟨by have:=(tko.ok w hw).1;lia,(tko.ok w hw).2.2⟩,tko.dis⟩,λq2 z2 H2 nw g=>?_⟩;replace F:=F.newR nw g;have hl1:(aP (cells n (cov ts))).length<64:=tko.holes n1;have hl2:(aP (cells n (cov ts))).length<64/\(aP (cells n (cov ts))).Nodup/\∀w∈aP (cells n (cov ts)),w.1<1000000:=⟨by lia,jt _,ju (by rw[cV];exact n2)⟩
     repeat k_meth
     refine⟨.n,y,dy,_,rfl,aH,?_⟩
     repeat k_meth
     rw[show isW (V.int (t:Nat))=true from rfl]
     repeat k_meth
     refine⟨.n,(t:Nat),q2,z2,aP (cells n (cov ts)),rfl,aH,TpA.e,⟨by lia,hl2.2⟩,λq3 z3 H3 s3 e3 t3=>?_⟩;replace F:=F.same s3;refine jR (dN (SqL.of aH) TpA.e (iH _)) (dN (SqL.of e3) t3 (iH _)) (rS (iK _) (by decide)) ?_
     repeat k_meth
     exact k ps _ F.kpo aH SH.tab
   ·repeat k_meth
    refine cC (λh1=>?_) (λh1=>?_)
    ·repeat k_meth
     rw[show [V.ref tq]++[V.ref p_]=[V.ref tq,V.ref p_] from rfl] at F;have hq1:H_ tq=some (.tup [.int (A:Nat),.int (4:Nat)]):=aH;have hq2:H_ p_=some (.tup [.int (B:Nat),.int (8:Nat)]):=aH;have t2:aB H_ [.ref tq,.ref p_] (aF [(A,4),(B,8)]):=aB.snoc (ys:=[.ref tq]) (rows:=aF [(A,4)]) (aB.snoc (ys:=[]) (rows:=[]) aB.nil hq1) hq2;exact hR _ _ ⟨_,_,_,[(A,4),(B,8)],[.ref tq,.ref p_],.two hA4 hAn hB8 hBn (by lia),rfl,(F.bQ t2).sub SbC.s SbI.s⟩
    ·repeat k_meth
     refine cC (λh2=>?_) (λh2=>?_)
     ·repeat k_meth
      rw[show [V.ref tq]++[V.ref p_]=[V.ref tq,V.ref p_] from rfl] at F;have hq1:H_ tq=some (.tup [.int (A:Nat),.int (4:Nat)]):=aH;have hq2:H_ p_=some (.tup [.int (B:Nat),.int (8:Nat)]):=aH;have t2:aB H_ [.ref tq,.ref p_] (aF [(A,4),(B,8)]):=aB.snoc (ys:=[.ref tq]) (rows:=aF [(A,4)]) (aB.snoc (ys:=[]) (rows:=[]) aB.nil hq1) hq2;exact hR _ _ ⟨_,_,_,[(A,4),(B,8)],[.ref tq,.ref p_],.two hA4 hAn hB8 hBn (by lia),rfl,(F.bQ t2).sub SbC.s SbI.s⟩
     ·repeat k_meth
      have hq1:H_ tq=some (.tup [.int (A:Nat),.int (4:Nat)]):=aH;have t2:aB H_ [.ref tq] (aF [(A,4)]):=aB.snoc (ys:=[]) (rows:=[]) aB.nil hq1;exact hR _ _ ⟨_,_,_,[(A,4)],[.ref tq],.one hA4 hAn,rfl,(F.bQ t2).sub SbC.s SbI.s⟩
  ·repeat k_meth
   refine cC (λh9=>?_) (λh9=>?_)
   ·obtain rfl:t=0:=by lia
    repeat k_meth
    refine cC (λh0=>?_) (λh0=>?_)
    ·repeat k_meth
     refine⟨_,_,_,_,_,_,_,rfl,ThA.e,.str _,.int _,.int _,.inl ⟨.n,n,0,rfl,rfl,rfl,⟨n1,n2⟩,by exact Int.natCast_nonneg n,λy2 dy2 x2 p2 dx2 H2 F2=>?_⟩⟩;have F2:SH _ [] H2 [(y2,.ins CN dy2 (rF x2 (some ((0:Nat):Int)))),(x2,.ins CH dx2 (hF (n:Nat) p2)),(p2,.lst ((List.replicate n true).map V.bl))] []:=F2;have F3:=SH.over (A:=[]) F F2 rfl;clear F F2;have F:=F3;clear F3;dsimp only[List.cons_append,List.nil_append] at F
     repeat k_meth
     exact hR _ _ ⟨_,_,_,_,_,y2,dy2,x2,p2,dx2,rfl,F.sub SbC.s SbI.s⟩
    ·repeat k_meth
     exact hR _ _ ⟨_,_,_,_,_,y,dy,x,p,dx,rfl,F⟩
   ·repeat k_meth
    exact hR _ _ ⟨_,_,_,_,_,y,dy,x,p,dx,rfl,F⟩
 ·have nd:=j4.nd;refine⟨_,(aA (psz 4 nd (aK cR.all hr (aj (pv 0) (aj (pv 1) (aj (pv 2) ao))) (hx:=jM)))
   (aA (bB (PW.pt (je (aN gh (pv 2) aq (aO _)) (g8 (aN gh (aM bV (aW aZ (pv 3) aq (λ_ _=>rfl)) aq) aq (aO _))))) (aC (psz 4 nd (rN (dvs:=[.int 0]) cR hr (.cons ⟨_,rfl⟩ .nil) (aj (pv 0) (aj (pv 1) ao)) (hx:=jM)))) aR)
   (aA (psz 5 nd (aU (aj (bw (aj (aM dg (aM bV (aW aZ (pv 3) aq (λ_ _=>rfl)) (aM cu (pv 1) aq)) aq) (aj aq ao))) ao)))
   (aA (psz 6 nd (aM dg (aM bV (aW aZ (pv 3) aq (λ_ _=>rfl)) (aM cu (pv 1) aq)) aq))
   (aA (bB (PW.pt (dH (aN h_ (aM bU (pv 6) aq) (aW bA (aW aZ (pv 5) aq (λ_ _=>rfl)) aq (λ_ _=>rfl)) (aO _)) (fJ (aN h_ (aM bU (aW bA (aW aZ (pv 5) aq (λ_ _=>rfl)) aq (λ_ _=>rfl)) aq) (pv 6) (aO _))))) (aC (bK (cA (pv 5) (bw (aj (pv 6) (aj aq ao)))))) aR)
   (aA (gK PassesOwn.never rfl (cj (pv 5)) (lO rfl (cL (pgz 7 nd) (cL (pgz 8 nd) jf))) (aC (bK (jm (pv 4) T.clV (TX T) hr (aj (pv 7) (aj (pv 8) ao))))))
   (aA (psz 9 nd (aK (sE T) hr (aj (pv 1) (aj (pv 5) ao))))
   (aA (bB (aN (fU (K:=K) rfl hr) (pv 0) bL (aO _)) (aC (psz 9 nd (aK (sy T) hr (aj (pv 1) (aj (pv 5) ao))))) aR)
   (aA (bB (PW.pt (dH (cD (bN (aK (oK T) hr (aj (pv 0) (aj (pv 4) ao))))) (dH (aN mV (bM (pv 4) T.clV (TV T) hr) (pv 0) (aO _)) (dH (cD (bN (aK (oG T) hr (aj (bM (pv 4) T.clV (zu T) hr) ao)))) (fJ (aN mV (bM (pv 4) T.clV (zu T) hr) (pv 2) (aO _))))))) (aC (aL cZ)) aR)
   (aC (aL (fL (cM (dM hr) (bM (pv 4) T.clV (vX T) hr) (pv 9) (aO _)) (fK (cM (dM hr) (bM (pv 4) T.clV (Ow T B) hr) (aK (oJ T) hr (aj (pv 0) (aj (pv 2) (aj (pv 9) ao)))) (aO _))))))))))))))),?_⟩
  clear nd;rw[stE]
  try dsimp only[bI,aY]
  obtain⟨n1,n2⟩:=nn;obtain rfl:t=0:=by have:(t:Int)<=0:=ht;lia
  have nlP:l≠ak:=λe=>by rw[e,hP] at hl;cases hl
  have F:SH H [ak] H [(ak,.tbl ps)] [eF bW bG ps]:=(SH.nil.fQ List.mem_cons_self hP rfl (by simp)).rD tk;have dB:=Old.mk (M:=[ak]) hl (nm1 nlP);have b2:=ae e2 (by simp);have b3:=ae e3 (by simp);have b4:=ae e4 (by simp);obtain⟨A,hA,hA4,hAn⟩:=iB (e:=e3) (n:=n) (k:=4) (by decide) b3.1 (by lia);obtain⟨B,hB,hB8,hBn⟩:=iB (e:=e4) (n:=n) (k:=8) (by decide) b4.1 (by lia);have m4:0<=e3 % ((n:Int) / 4)/\e3 % ((n:Int) / 4)<(n:Int) / 4:=⟨Int.emod_nonneg _ (by lia),Int.emod_lt_of_pos _ (by lia)⟩;have m8:0<=e4 % ((n:Int) / 8)/\e4 % ((n:Int) / 8)<(n:Int) / 8:=⟨Int.emod_nonneg _ (by lia),Int.emod_lt_of_pos _ (by lia)⟩
  repeat k_meth
  refine⟨_,_,_,_,_,_,_,rfl,ThA.e,.str _,.int _,.int _,.inl ⟨.h,n,0,rfl,rfl,rfl,⟨n1,n2⟩,ht,λy dy x p dx H2 F2=>?_⟩⟩;have F3:SH H [ak] H2 ([(y,.ins CV dy (rF x none)),(x,.ins CP dx (pF (n:Nat) p)),(p,.lst [])]++[(ak,.tbl ps)]) ([]++[eF bW bG ps]):=SH.over (A:=[]) F F2 rfl;clear F F2;have F:=F3;clear F3;dsimp only[List.nil_append] at F;dsimp only[List.cons_append,List.nil_append] at F
  repeat ((fail_if_success with_reducible show q_ _ _ _ _ _ _);k_meth)
  refine nU (λσ' H'=>NT λ(o5 o6 o7 o8 o9:Option V) (y dy x p dx:Addr)=>σ'=[some (.str (bC .h)),some (.int (n:Nat)),some (.int (0:Nat)),some (.ref l),some (.ref y),o5,o6,o7,o8,o9]/\SH H [ak] H' [(y,.ins CV dy (rF x none)),(x,.ins CP dx (pF (n:Nat) p)),(p,.lst []),(ak,.tbl ps)] [eF bW bG ps]) ?_ λ_ _ _ _ hR _=>?_
  ·clear F;rintro σ' H' ⟨_,_,_,_,_,y,dy,x,p,dx,rfl,F⟩
   repeat ((fail_if_success with_reducible show q_ _ _ _ _ _ _);k_meth)
   obtain⟨tk,e_⟩:∃z,z=p_:=⟨_,rfl⟩;subst e_;obtain⟨tq,e_⟩:∃z,z=p_:=⟨_,rfl⟩;subst e_;have hA':e3 % ((n:Int) / 4)*4=(A:Int):=hA;have hB':e4 % ((n:Int) / 8)*8=(B:Int):=hB;rw[hA'] at F;rw[hB'];have hq:H_ tq=some (.tup [.int (A:Nat),.int (4:Nat)]):=aH;have t1:aB H_ [.ref tq] (aF [(A,4)]):=aB.snoc (ys:=[]) (rows:=[]) aB.nil hq;refine nU (λσ' H'=>Ex5 λ(o7 o8 o9:Option V) (ts:xD) (zs:List V)=>An3 (jc n ts) (σ'=[some (.str (bC .h)),some (.int (n:Nat)),some (.int (0:Nat)),some (.ref l),some (.ref y),some (.ref tk),some (.int (B:Nat)),o7,o8,o9]) (SH H [ak] H' [(tk,.lst zs),(y,.ins CV dy (rF x none)),(x,.ins CP dx (pF (n:Nat) p)),(p,.lst []),(ak,.tbl ps)] [.tps zs (aF ts),eF bW bG ps])) ?_ λ_ _ _ _ hR _=>?_
   ·clear F hq t1;rintro σ' H' ⟨_,_,_,ts,zs,tko,rfl,F⟩;have zl:zs.length=ts.length:=aG (TpA.e:aB H' zs (aF ts))
    repeat k_meth
    refine iw (xs:=zs) (λi σ' H'=>Ex4 λ(o7 o8 o9:Option V) (zp:List V)=>σ'=[some (.str (bC .h)),some (.int (n:Nat)),some (.int (0:Nat)),some (.ref l),some (.ref y),some (.ref tk),some (.int (B:Nat)),o7,o8,o9]/\SH H [ak] H' [(y,.ins CV dy (rF x none)),(x,.ins CP dx (pF (n:Nat) p)),(p,.lst zp),(tk,.lst zs),(ak,.tbl ps)] [.tps zp (aF (ts.take i)),.tps zs (aF ts),eF bW bG ps]) ⟨_,_,_,[],rfl,(F.bQ (ys:=[]) (rs:=aF (ts.take 0)) aB.nil).sub SbC.s SbI.s⟩ ?_ ?_ ?_
    ·clear F;rintro i σ' H' _ ⟨_,_,_,zp,rfl,F⟩;exact SqA.e
    ·clear F;rintro i v σ' H' hv ⟨_,_,_,zp,rfl,F⟩;obtain⟨w,q,e1,rfl,e2⟩:=dU (H:=H') (ws:=ts) TpA.e hv;replace F:=F.Aq e2;have hm:=yT e1;have gta:GtA n (ts.take i):=⟨n1,n2,(tko.gd).sub (List.take_sublist _ _),by rw[oB];have:=tko.few;lia⟩;have fra:FrA n w.1 w.2 (ts.take i):=⟨by have:=(tko.ok w hm).1;lia,by have:=(tko.ok w hm).1;lia,by rw[(tko.pc hm).2];exact(tko.pc hm).1,by rw[(tko.pc hm).2];exact tko.ap e1⟩
     repeat k_meth
     intro zq;rw[(tko.pc hm).2,show ts.take i++[(w.1,w.2)]=ts.take (i+1) by rw[qS,e1];rfl]
     repeat k_meth
     exact⟨_,_,_,zq,rfl,F.sub SbC.s SbI.s⟩
    ·clear F;rintro σ' H' ⟨_,_,_,zp,rfl,F⟩;rw[zl,List.take_length] at F;have bks:=fV (c:=cov ts) n1 n2;have gta:GtA n ts:=⟨n1,n2,tko.gd,by have:=tko.few;lia⟩
     repeat k_meth
     refine⟨n,tk,zs,ts,rfl,aH,TpA.e,⟨n1,n2⟩,⟨by have:=tko.few;lia,λw hw=>⟨by have:=(tko.ok w hw).1;lia,(tko.ok w hw).2.2⟩,tko.dis⟩,λq2 z2 H2 nw g=>?_⟩;replace F:=F.newR nw g;have hl1:(frP n ts).length<64:=tko.free n2 tko.gd;have hl2:(frP n ts).length<64/\(frP n ts).Nodup/\∀w∈frP n ts,w.1<1000000:=⟨by lia,xH n2 tko.gd,λw hw=>by have:=xJ n2 tko.gd hw;lia⟩
     repeat k_meth
     refine⟨n,tk,zs,ts,rfl,n1,n2,aH,TpA.e,λw hw=>(tko.pc hw).1,λq2 z2 H2 nw g=>?_⟩;replace g:aB H2 z2 (aF (frP n ts)):=g;replace F:=F.newR nw g
     repeat k_meth
     refine⟨.h,y,dy,_,rfl,aH,?_⟩
     repeat k_meth
     rw[show isW (V.int 0)=true from rfl]
     repeat k_meth
     intro ps2
     repeat k_meth
     refine⟨.h,0,q2,z2,frP n ts,rfl,aH,TpA.e,⟨by lia,hl2.2⟩,λq3 z3 H3 s3 e3 t3=>?_⟩;replace F:=F.same s3;refine jR (dN (SqL.of aH) TpA.e (iH _)) (dN (SqL.of e3) t3 (iH _)) (rS (iK _) (by decide)) ?_
     repeat k_meth
     exact k ps2 _ F.kpo aH SH.tab
   ·repeat k_meth
    refine cC (λh1=>?_) (λh1=>?_)
    ·repeat k_meth
     rw[show [V.ref tq]++[V.ref p_]=[V.ref tq,V.ref p_] from rfl] at F;have hq1:H_ tq=some (.tup [.int (A:Nat),.int (4:Nat)]):=aH;have hq2:H_ p_=some (.tup [.int (B:Nat),.int (8:Nat)]):=aH;have t2:aB H_ [.ref tq,.ref p_] (aF [(A,4),(B,8)]):=aB.snoc (ys:=[.ref tq]) (rows:=aF [(A,4)]) (aB.snoc (ys:=[]) (rows:=[]) aB.nil hq1) hq2;exact hR _ _ ⟨_,_,_,[(A,4),(B,8)],[.ref tq,.ref p_],.two hA4 hAn hB8 hBn (by lia),rfl,(F.bQ t2).sub SbC.s SbI.s⟩
    ·repeat k_meth
     refine cC (λh2=>?_) (λh2=>?_)
     ·repeat k_meth
      rw[show [V.ref tq]++[V.ref p_]=[V.ref tq,V.ref p_] from rfl] at F;have hq1:H_ tq=some (.tup [.int (A:Nat),.int (4:Nat)]):=aH;have hq2:H_ p_=some (.tup [.int (B:Nat),.int (8:Nat)]):=aH;have t2:aB H_ [.ref tq,.ref p_] (aF [(A,4),(B,8)]):=aB.snoc (ys:=[.ref tq]) (rows:=aF [(A,4)]) (aB.snoc (ys:=[]) (rows:=[]) aB.nil hq1) hq2;exact hR _ _ ⟨_,_,_,[(A,4),(B,8)],[.ref tq,.ref p_],.two hA4 hAn hB8 hBn (by lia),rfl,(F.bQ t2).sub SbC.s SbI.s⟩
     ·repeat k_meth
      have hq1:H_ tq=some (.tup [.int (A:Nat),.int (4:Nat)]):=aH;have t2:aB H_ [.ref tq] (aF [(A,4)]):=aB.snoc (ys:=[]) (rows:=[]) aB.nil hq1;exact hR _ _ ⟨_,_,_,[(A,4)],[.ref tq],.one hA4 hAn,rfl,(F.bQ t2).sub SbC.s SbI.s⟩
  ·repeat k_meth
   refine cC (λh0=>?_) (λh0=>?_)
   ·repeat k_meth
    refine⟨_,_,_,_,_,_,_,rfl,ThA.e,.str _,.int _,.int _,.inl ⟨.h,n,0,rfl,rfl,rfl,⟨n1,n2⟩,by exact Int.le_refl 0,λy2 dy2 x2 p2 dx2 H2 F2=>?_⟩⟩;have F2:SH _ [] H2 [(y2,.ins CV dy2 (rF x2 none)),(x2,.ins CP dx2 (pF (n:Nat) p2)),(p2,.lst [])] []:=F2;have F3:=SH.over (A:=[]) F F2 rfl;clear F F2;have F:=F3;clear F3;dsimp only[List.cons_append,List.nil_append] at F
    repeat k_meth
    exact hR _ _ ⟨_,_,_,_,_,y2,dy2,x2,p2,dx2,rfl,F.sub SbC.s SbI.s⟩
   ·repeat k_meth
    exact hR _ _ ⟨_,_,_,_,_,y,dy,x,p,dx,rfl,F⟩
end
open M22 M44
def Cw(P:Addr)(K:W.Frag):Sp:=λvs H Q _=>∃(a:Addr)(ns:List Int),An6 (vs=[.ref a]) (SqL K H a (ns.map V.int)) (ns.length<=63) (H P=some (.tbl #[])) (a≠P) (∀H',Q (.bl true) H')
theorem O5{v:V}{n:Nat}{e:Int}(he:0<=e)(hn:16<=n)(hv:v∈[V.int (e % ((n:Int)+1)),V.int (n:Nat),V.int 1]):∃t:Nat,v=.int (t:Nat)/\t<=n:=by
 have m:0<=e % ((n:Int)+1)/\e % ((n:Int)+1)<(n:Int)+1:=⟨Int.emod_nonneg _ (by lia),Int.emod_lt_of_pos _ (by lia)⟩;simp only[List.mem_cons,List.not_mem_nil,or_false] at hv;rcases hv with rfl|rfl|rfl
 ·exact⟨(e % ((n:Int)+1)).toNat,by rw[Int.toNat_of_nonneg m.1],by lia⟩
 ·exact⟨n,rfl,uA _⟩
 ·exact⟨1,rfl,by lia⟩
theorem el6{ds:List Int}(h:ds.length=6):∃a b c d e f,ds=[a,b,c,d,e,f]:=match ds,h with|[a,b,c,d,e,f],_=>⟨a,b,c,d,e,f,rfl⟩
theorem O6{v:V}(hv:v∈[V.str "first", V.str "tightest", V.str "next", V.str "halves"]):∃k:K4,v=.str (bC k):=by
 simp only[List.mem_cons,List.not_mem_nil,or_false] at hv;rcases hv with rfl|rfl|rfl|rfl
 ·exact⟨.f,rfl⟩
 ·exact⟨.t,rfl⟩
 ·exact⟨.n,rfl⟩
 ·exact⟨.h,rfl⟩
section
variable{P:Program}{w:World}{K:W.Frag}{mg:xC}{base:Heap}{c:Nat->Addr}{aD ak R CH CP CF CT CN CV CB:Addr}
theorem aaq(T:Txt K mg c R CH CP CF CT CN CV CB aD ak)(B:Bm mg base){f:Addr}{fd:FuncData}(F:Fun K "law" "law" n6 f fd):gM P w K mg base CX0 21 f fd ["_law_script"] (Cw ak K):=by
 refine VD F Sq (λvs H Q E h=>?_) (λcdv A outer s H vs Q E hr h=>?_)
 ·obtain⟨a,ns,rfl,_⟩:=h
  rfl
 ·obtain⟨a,ns,rfl,hs,hn,hP,nP,k⟩:=h;have nd:=Sq.nd;refine⟨_,(aA (gK PassesOwn.never rfl (cj (sX tV (pv 0) Vr (mZ aq))) (pgz 1 nd) (aA (psz 2 nd (aK (T_ T) hr (aj (pv 1) (aj aq ao))))
    (aA (psz 3 nd (aW aZ (aU (aj bL (aj bL (aj bL (aj bL ao))))) (aM bV (aW aZ (pv 2) aq (λ_ _=>rfl)) aq) (λ_ _=>rfl)))
    (aA (psz 4 nd (aM bU aq (aM bV (aW aZ (pv 2) aq (λ_ _=>rfl)) aq)))
    (aA (psz 5 nd aq)
    (aA (bB (PW.pt (je (aN (fU (K:=K) rfl hr) (pv 3) bL (aO _)) (g8 (aN JC (aM bV (aW aZ (pv 2) aq (λ_ _=>rfl)) aq) aq (aO _))))) (aC (psz 5 nd (aW aZ (aU (aj (aM bV (aW aZ (pv 2) aq (λ_ _=>rfl)) (aM bU (pv 4) aq)) (aj (pv 4) (aj aq ao)))) (aM bV (aM cu (aW aZ (pv 2) aq (λ_ _=>rfl)) aq) aq) (λ_ _=>rfl)))) aR)
    (aC (bB (PW.pt (dH (cD (bN (aK (W9 T B) hr (aj (pv 3) (aj (pv 4) (aj (pv 5) (aj (pv 2) ao))))))) (fJ (cD (bN (aK (Ju T) hr (aj (pv 3) (aj (pv 4) (aj (pv 2) ao))))))))) (aC (aL cZ)) aR))))))))
   (aC (aL cZ))),?_⟩
  clear nd;rw[stE]
  try dsimp only[bI,aY]
  have F:SH H [ak] H [(ak,.tbl #[])] [eF bW bG #[]]:=(SH.nil.fQ List.mem_cons_self hP rfl (by simp)).rD (.inl rfl);have ag6:=abB.mk (M:=[ak]) hs (nm1 nP);have nl:(ns.map V.int).length=ns.length:=wE ..
  repeat k_meth
  obtain⟨sl,e⟩:∃z,z=p_:=⟨_,rfl⟩;subst e;have ci:∀v∈m5 (ns.map V.int) none (some 63),∃z:Int,v=.int z:=λv hv=>by
   obtain⟨z,_,rfl⟩:=vT.mp (List.mem_of_mem_drop (List.mem_of_mem_take hv));exact⟨z,rfl⟩
  generalize m5 (ns.map V.int) none (some 63)=xs at *
  refine iw (xs:=xs) (λi σ' H'=>Ex6 λ(w1 w2 w3 w4 w5:Option V) (ps:xI)=>σ'=[some (.ref a),w1,w2,w3,w4,w5]/\SH H [ak] H' [(sl,.lst xs),(ak,.tbl ps)] [eF bW bG ps]) ⟨_,_,_,_,_,#[],rfl,F.sub SbC.s SbI.s⟩ ?_ ?_ ?_
  ·clear F;rintro i σ' H' hi ⟨_,_,_,_,_,ps,rfl,F⟩;exact SqA.e
  ·clear F;rintro i v σ' H' hv ⟨_,_,_,_,_,ps,rfl,F⟩;obtain⟨cl_,rfl⟩:=ci v (yT hv)
   repeat k_meth
   refine⟨cl_,6,rfl,by decide,λds dA H2 hl hd nw=>?_⟩;obtain⟨d0,d1,d2,d3,d4,d5,rfl⟩:=el6 hl;replace nw:New _ H2 dA (.lst [.int d0,.int d1,.int d2,.int d3,.int d4,.int d5]):=nw;replace F:=F.newL nw;have hd2:∀e∈[d0,d1,d2,d3,d4,d5],0<=e/\e<1000000:=λe m=>by have:=hd e m;lia
   have b0:=hd2 d0 (by simp);have b1:=hd2 d1 (by simp);have b2:=hd2 d2 (by simp);have b5:=hd2 d5 (by simp)
   repeat k_meth
   refine wZ SqA.e (by lia) (by show d0 % 4<4;lia) λv hv=>?_
   obtain⟨k0,rfl⟩:=O6 hv;clear hv
   repeat ((fail_if_success with_reducible show q_ _ _ _ _ _ _);k_meth)
   obtain⟨n,hn0,n1,n2⟩:∃n:Nat,16+d1 % 225=(n:Int)/\16<=n/\n<=240:=⟨(16+d1 % 225).toNat,by lia,by lia,by lia⟩;rw[hn0];refine nU (λσ' H'=>∃(t:Nat),An3 ((t:Int)<=hiK n k0) (σ'=[some (.ref a),some (.int cl_),some (.ref dA),some (.str (bC k0)),some (.int (n:Nat)),some (.int (t:Nat))]) (SH H [ak] H' [(dA,.lst [.int d0,.int d1,.int d2,.int d3,.int d4,.int d5]),(sl,.lst xs),(ak,.tbl ps)] [eF bW bG ps])) ?_ λ_ _ _ _ hR _=>?_
   ·clear F;rintro σ' H' ⟨t,ht,rfl,F⟩
    repeat k_meth
    refine⟨k0,n,t,dA,d0,d1,d2,d3,d4,d5,ps,rfl,aH,⟨n1,n2⟩,hd2,ht,aH,SH.tab,λps2 H3 kp e tb=>?_⟩;have F2:SH H [ak] H3 _ (eF bW bG ps2::_):=(F.kp kp e LkU.u rfl).rD tb;clear F kp e tb;have F:=F2;clear F2
    repeat k_meth
    refine⟨k0,n,dA,d0,d1,d2,d3,d4,d5,rfl,aH,⟨n1,n2⟩,hd2,λH4 s4=>?_⟩;replace F:=F.same s4
    repeat k_meth
    exact⟨_,_,_,_,_,ps2,rfl,F.sub SbC.s SbI.s⟩
   ·by_cases hk:k0=.n
    ·subst hk
     repeat k_meth
     refine cC (λh1=>?_) (λh1=>?_)
     ·repeat k_meth
      refine wZ SqA.e (by lia) (by show d2 / 3 % 3<3;lia) λv hv=>?_
      obtain⟨t,rfl,ht⟩:=O5 b5.1 n1 hv
      repeat k_meth
      exact hR _ _ ⟨t,by show (t:Int)<=(n:Int);lia,rfl,F.sub SbC.s SbI.s⟩
     ·repeat k_meth
      exact hR _ _ ⟨0,by show (0:Int)<=(n:Int);lia,rfl,F.sub SbC.s SbI.s⟩
    ·repeat k_meth
     exact hR _ _ ⟨0,by cases k0 <;> first|exact Int.le_refl 0|exact gE rfl hk,rfl,F.sub SbC.s SbI.s⟩
  ·clear F;rintro σ' H' ⟨_,_,_,_,_,ps,rfl,F⟩
   repeat k_meth
   exact k _
end
end K48
namespace K48
open PySem L2 PyProof.Rows
abbrev LkH(K:W.Frag)(g:Addr)(m q:Str)(st:Stmt)(xd xn:xL)(xs:Array (Option Value))(xo xk xe xp xc xt:Value):Prop:=K.lookup g=some ⟨xo,xd,.func (W.fnOf m q (bF st) (bf st) (au st) .none xk xe xp xn xc xt),xs⟩/\W.codeIn K xc q=true/\W.keepIn K (.ref g)=true
abbrev DfH(K:W.Frag)(m:Str)(st:Stmt):Prop:=∃g xd xn xs xo xk xe xp xc xt,W.nsIn K mainGlobals m=some (some (.ref g))/\LkH K g m m st xd xn xs xo xk xe xp xc xt
abbrev MeH(K:W.Frag)(C:Addr)(m q:Str)(st:Stmt):Prop:=∃g xd xn xs xo xk xe xp xc xt,W.findIn K (.ref C) m=some (some (.ref g))/\W.isFn K (.ref g)=true/\LkH K g m q st xd xn xs xo xk xe xp xc xt
abbrev CdH(K:W.Frag)(C:Addr)(m q:Str)(st:Stmt):Prop:=∃g xd xn xs xo xk xe xp xc xt,W.specialIn K (.ref C) "__getattribute__" = some (some (.builtin "type.__getattribute__"))/\W.readsIn K C (.type "type")=true/\W.findCls K (.ref C) (.type "type") m=some (.val (.ref g))/\LkH K g m q st xd xn xs xo xk xe xp xc xt
abbrev ClH(K:W.Frag)(C:Addr):Prop:=W.plainGet K C Str.empty=true/\W.hasDictIn K C=true/\W.plainOver K C=true/\W.findIn K (.ref C) "__setattr__" = some (some (.builtin "object.__setattr__"))/\W.makesIn K C=true/\W.keepIn K (.ref C)=true
section
variable{K:W.Frag}{h:Heap}{mg:xC}{C:Addr}{m q:Str}{st:Stmt}
theorem DfH.has(d:DfH K m st)(X:K.In h)(G:h.Ns mainGlobals mg):HasDef K mg m st:=by obtain⟨_,_,_,_,_,_,_,_,_,_,a,l,c,k⟩:=d;exact HasDef.mk (W.mg_of X G a) l c k
theorem MeH.me(d:MeH K C m q st):∃f,FnAt K m q st f/\Meth K C m f:=by obtain⟨g,_,_,_,_,_,_,_,_,_,a,f,l,c,k⟩:=d;exact⟨g,⟨_,lQ (st:=st) l c k⟩,⟨a,f,k⟩⟩
theorem MeH.mk(d:MeH K C "__init__" q st)(c:ClH K C):∃f,FnAt K "__init__" q st f/\Mk K C f:=by obtain⟨g,_,_,_,_,_,_,_,_,_,a,f,l,cd,k⟩:=d;exact⟨g,⟨_,lQ (st:=st) l cd k⟩,⟨c.2.2.2.2.1,a,f,c.2.2.2.2.2⟩⟩
theorem CdH.cd(d:CdH K C m q st):∃f,FnAt K m q st f/\nF K C m f:=by obtain⟨g,_,_,_,_,_,_,_,_,_,a,r,f,l,c,k⟩:=d;exact⟨g,⟨_,lQ (st:=st) l c k⟩,⟨a,r,f,by rfl,k⟩⟩
end
theorem all_mk{aD ak:Addr}{l:W.OpenLaw}{w:World}{K:W.Frag}{h:Heap}{mg:xC}{fa g9_ g21_ g35_:Addr}(X:K.In h)(G:h.Ns mainGlobals mg)(hfa:mg "law" = some (.ref fa))
  {R:Addr}
  (eR:W.nsIn K mainGlobals "RoomError" = some (some (.ref R)))
  (eh:W.specialIn K (.builtin "object.__class__") "__get__" = some (some (.builtin "getset_descriptor.__get__")))
  (et:W.takesIn K (.builtin "object.__class__")=some true)
  {C0 N0 x0:Addr} {nm0 q0:Str} {bs0:xE} {sn0:List Str} {afM:xE} {ab0:Bool} {afN:Option Bool} {dd0:xL} {k00_ k10_ k20_ k30_ k50_:Option Value}
  (ea0:W.nsIn K mainGlobals "NoMany" = some (some (.ref C0)))
  (el0:K.lookup C0=some (excClassObj nm0 q0 C0 N0 bs0 [.ref R,.type "ValueError", .type "Exception", .type "BaseException", .type "object"] true sn0 afM ab0 afN dd0 k00_ k10_ k20_ k30_ k50_ "ValueError.__new__"))
  {xd0 xn0:xL} {xs0:Array (Option Value)} {xk0 xo0 xp0 xc0 xt0:Value}
  (ei0:W.findIn K (.ref C0) "__init__" = some (some (.ref x0)))
  (ef0:K.lookup x0=some ⟨.type "function", xd0,.func (W.fnOf "__init__" "NoMany.__init__" (bF iU) (bf iU) (au iU) .none xk0 xo0 xp0 xn0 xc0 xt0),xs0⟩)
  (ec0:W.codeIn K xc0 "NoMany.__init__" = true) (ek0:W.keepIn K (.ref x0)=true) (es0:W.findIn K (.ref C0) "__setattr__" = some (some (.builtin "object.__setattr__")))
  (em0:W.keepIn K (.ref C0)=true) (eg0:W.findIn K (.ref C0) "__getattribute__" = some (some (.builtin "BaseException.__getattribute__"))) (eb0:W.findIn K (.ref C0) "__getattr__" = some none) (ej0:W.findIn K (.ref C0) "__class__" = some (some (.builtin "object.__class__")))
  (acV:W.findIn K (.ref C0) "many" = some none)
  {C1 N1 x1:Addr} {nm1 q1:Str} {bs1:xE} {sn1:List Str} {afO:xE} {ab1:Bool} {afP:Option Bool} {dd1:xL} {k01_ k11_ k21_ k31_ k51_:Option Value}
  (ea1:W.nsIn K mainGlobals "NoPlace" = some (some (.ref C1)))
  (el1:K.lookup C1=some (excClassObj nm1 q1 C1 N1 bs1 [.ref R,.type "ValueError", .type "Exception", .type "BaseException", .type "object"] true sn1 afO ab1 afP dd1 k01_ k11_ k21_ k31_ k51_ "ValueError.__new__"))
  {xd1 xn1:xL} {xs1:Array (Option Value)} {xk1 xo1 xp1 xc1 xt1:Value}
  (ei1:W.findIn K (.ref C1) "__init__" = some (some (.ref x1)))
  (ef1:K.lookup x1=some ⟨.type "function", xd1,.func (W.fnOf "__init__" "NoPlace.__init__" (bF gG) (bf gG) (au gG) .none xk1 xo1 xp1 xn1 xc1 xt1),xs1⟩)
  (ec1:W.codeIn K xc1 "NoPlace.__init__" = true) (ek1:W.keepIn K (.ref x1)=true) (es1:W.findIn K (.ref C1) "__setattr__" = some (some (.builtin "object.__setattr__")))
  (em1:W.keepIn K (.ref C1)=true) (eg1:W.findIn K (.ref C1) "__getattribute__" = some (some (.builtin "BaseException.__getattribute__"))) (eb1:W.findIn K (.ref C1) "__getattr__" = some none) (ej1:W.findIn K (.ref C1) "__class__" = some (some (.builtin "object.__class__")))
  (acW:W.findIn K (.ref C1) "at" = some none)
  {C2 N2 x2:Addr} {nm2 q2:Str} {bs2:xE} {sn2:List Str} {afQ:xE} {ab2:Bool} {afR:Option Bool} {dd2:xL} {k02_ k12_ k22_ k32_ k52_:Option Value}
  (ea2:W.nsIn K mainGlobals "NoRule" = some (some (.ref C2)))
  (el2:K.lookup C2=some (excClassObj nm2 q2 C2 N2 bs2 [.ref R,.type "ValueError", .type "Exception", .type "BaseException", .type "object"] true sn2 afQ ab2 afR dd2 k02_ k12_ k22_ k32_ k52_ "ValueError.__new__"))
  {xd2 xn2:xL} {xs2:Array (Option Value)} {xk2 xo2 xp2 xc2 xt2:Value}
  (ei2:W.findIn K (.ref C2) "__init__" = some (some (.ref x2)))
  (ef2:K.lookup x2=some ⟨.type "function", xd2,.func (W.fnOf "__init__" "NoRule.__init__" (bF iV) (bf iV) (au iV) .none xk2 xo2 xp2 xn2 xc2 xt2),xs2⟩)
  (ec2:W.codeIn K xc2 "NoRule.__init__" = true) (ek2:W.keepIn K (.ref x2)=true) (es2:W.findIn K (.ref C2) "__setattr__" = some (some (.builtin "object.__setattr__")))
  (em2:W.keepIn K (.ref C2)=true) (eg2:W.findIn K (.ref C2) "__getattribute__" = some (some (.builtin "BaseException.__getattribute__"))) (eb2:W.findIn K (.ref C2) "__getattr__" = some none) (ej2:W.findIn K (.ref C2) "__class__" = some (some (.builtin "object.__class__")))
  (acX:W.findIn K (.ref C2) "word" = some none)
  {od9_ an9_:xL} {sl9_:Array (Option Value)} {oc9_ kV9_ dc9_ pm9_ ct9_:Value}
  {od21_ an21_:xL} {sl21_:Array (Option Value)} {oc21_ kV21_ dc21_ pm21_ cd21_ ct21_:Value}
  {od35_ an35_:xL} {sl35_:Array (Option Value)} {oc35_ kV35_ dc35_ pm35_ cd35_ ct35_:Value}
  (d0_:DfH K "is_whole" lZ)
  (d1_:DfH K "is_from" pB)
  (d2_:DfH K "is_within" jX)
  (d3_:DfH K "is_many" pC)
  (d4_:DfH K "end_of" uD)
  (d5_:DfH K "is_stretch" pD)
  (d6_:DfH K "holes_among" Bh)
  (d7_:DfH K "is_all_free" pG)
  (d8_:DfH K "by_start" pH)
  (a9_:W.nsIn K mainGlobals "by_size" = some (some (.ref g9_))) (l9_:K.lookup g9_=some ⟨oc9_,od9_,.func (W.fnOf "by_size" "by_size" (bF jY) (bf jY) (au jY) .none kV9_ dc9_ pm9_ an9_ (.ref aD) ct9_),sl9_⟩) (c9_:W.codeIn K (.ref aD) "by_size" = true) (k9_:W.keepIn K (.ref g9_)=true) (tb_bysize:W.codeHdIn K aD ak=true) (tn_bysize:K.lookup ak=none)
  (d10_:DfH K "from_mark" mq)
  (d11_:DfH K "share_cells" Bj)
  (d12_:DfH K "rounded" pI)
  (d13_:DfH K "greatest_power" Jb)
  (d14_:DfH K "wholes_of" uI)
  (d15_:DfH K "is_cut_from" Sg)
  (d16_:DfH K "is_piece" Bl)
  (d17_:DfH K "is_free_piece" uJ)
  (d18_:DfH K "free_within" pJ)
  (d19_:DfH K "free_pieces" pK)
  (d20_:DfH K "rule_without_mark" Jc)
  {acY:Addr}
  (a21_:W.nsIn K mainGlobals "rule_of" = some (some (.ref g21_))) (l21_:K.lookup g21_=some ⟨oc21_,od21_,.func (W.fnOf "rule_of" "rule_of" (bF jZ) (bf jZ) (au jZ) (.ref acY) kV21_ dc21_ pm21_ an21_ cd21_ ct21_),sl21_⟩) (c21_:W.codeIn K cd21_ "rule_of" = true) (k21_:W.keepIn K (.ref g21_)=true) {acZ:Value} {ac0:xL} {ac1:Array (Option Value)} {afS:Nat} {Mw:Tok} (ld21_:K.lookup acY=some ⟨acZ,ac0,.seq #[.int 0 Mw] afS,ac1⟩)
  (d22_:DfH K "_law_draws" uL)
  (d23_:DfH K "_law_whole" uM)
  (d24_:DfH K "_law_free" Bo)
  (d25_:DfH K "_law_runs" Bp)
  (d26_:DfH K "_law_by_size" xU)
  (d27_:DfH K "_law_order" uN)
  (d28_:DfH K "_law_class" uO)
  (d29_:DfH K "_law_good" Bq)
  (d30_:DfH K "_law_odd" Jd)
  (d31_:DfH K "_law_bad_mark" mz)
  (d32_:DfH K "_law_changed" mC)
  (d33_:DfH K "_law_tried" uP)
  (d34_:DfH K "_law_refused" mD)
  (a35_:W.nsIn K mainGlobals "law" = some (some (.ref g35_))) (l35_:K.lookup g35_=some ⟨oc35_,od35_,.func (W.fnOf "law" "law" (bF n6) (bf n6) (au n6) .none kV35_ dc35_ pm35_ an35_ cd35_ ct35_),sl35_⟩) (c35_:W.codeIn K cd35_ "law" = true) (k35_:W.keepIn K (.ref g35_)=true)
  (nb0:W.nsIn K mainGlobals "isinstance" = some none)
  (nb1:W.nsIn K mainGlobals "int" = some none)
  (nb2:W.nsIn K mainGlobals "bool" = some none)
  (nb3:W.nsIn K mainGlobals "list" = some none)
  (nb4:W.nsIn K mainGlobals "tuple" = some none)
  (nb5:W.nsIn K mainGlobals "len" = some none)
  (nb6:W.nsIn K mainGlobals "all" = some none)
  (nb7:W.nsIn K mainGlobals "any" = some none)
  (nb8:W.nsIn K mainGlobals "range" = some none)
  (nb9:W.nsIn K mainGlobals "sorted" = some none)
  (afT:W.nsIn K mainGlobals "enumerate" = some none)
  (afU:W.nsIn K mainGlobals "sum" = some none)
  (afV:W.nsIn K mainGlobals "repr" = some none)
  (afW:W.nsIn K mainGlobals "ValueError" = some none)
  {tk0:Tok} (afX:W.nsIn K mainGlobals "FEWEST_CELLS" = some (some (.int 16 tk0)))
  {tk1:Tok} (afY:W.nsIn K mainGlobals "MOST_CELLS" = some (some (.int 240 tk1)))
  (xx_NoMany_NoRule:W.exmOne K (.ref C0) (.ref C2)=some false)
  (xx_NoPlace_NoRule:W.exmOne K (.ref C1) (.ref C2)=some false)
  (xx_NoPlace_NoMany:W.exmOne K (.ref C1) (.ref C0)=some false)
  {nmR qR:Str} {NR:Addr} {bsR bmR:xE} {hdR:Bool} {snR:List Str} {afZ:xE} {abR:Bool} {af0:Option Bool} {ddR:xL} {k0R k1R k2R k3R k5R:Option Value} {newR:String}
  (zc:K.lookup R=some (excClassObj nmR qR R NR bsR bmR hdR snR afZ abR af0 ddR k0R k1R k2R k3R k5R newR)) (zt:W.typeIn K (.ref R)=some (.type "type")) (zm:W.mroIn K R (.type "BaseException")=some true)
  {CH CP CF CT CN CV CB oN:Addr}
  (aCH:W.nsIn K mainGlobals "Holes" = some (some (.ref CH)))
  (Ud:ClH K CH)
  (Ue:W.findIn K (.ref CH) "many" = some none)
  (Ug:W.findIn K (.ref CH) "free" = some none)
  (aCP:W.nsIn K mainGlobals "Pieces" = some (some (.ref CP)))
  (Uh:ClH K CP)
  (Ui:W.findIn K (.ref CP) "many" = some none)
  (Jv:W.findIn K (.ref CP) "pieces" = some none)
  (aCF:W.nsIn K mainGlobals "First" = some (some (.ref CF)))
  (Uj:ClH K CF)
  (Uk:W.findIn K (.ref CF) "book" = some none)
  (aCT:W.nsIn K mainGlobals "Tightest" = some (some (.ref CT)))
  (Ul:ClH K CT)
  (Um:W.findIn K (.ref CT) "book" = some none)
  (aCN:W.nsIn K mainGlobals "Next" = some (some (.ref CN)))
  (O7:ClH K CN)
  (Uo:W.findIn K (.ref CN) "book" = some none)
  (Jw:W.findIn K (.ref CN) "turned" = some none)
  (aCV:W.nsIn K mainGlobals "Halves" = some (some (.ref CV)))
  (Uq:ClH K CV)
  (Ur:W.findIn K (.ref CV) "book" = some none)
  (aCB:W.nsIn K mainGlobals "Rule" = some (some (.ref CB)))
  (W_:ClH K CB)
  (Xa:MeH K CH "__init__" "Holes.__init__" Br)
  (Xb:MeH K CH "told" "Holes.told" Bs)
  (aar:MeH K CH "has" "Holes.has" Je)
  (Xc:MeH K CH "take" "Holes.take" Bt)
  (Xd:MeH K CP "__init__" "Pieces.__init__" Bu)
  (Xe:MeH K CP "told" "Pieces.told" Bv)
  (Xf:MeH K CP "take" "Pieces.take" Bw)
  (Us:CdH K CB "__init__" "Rule.__init__" uQ)
  (Ut:CdH K CB "__init__" "Rule.__init__" uR)
  (Uu:CdH K CB "__init__" "Rule.__init__" uT)
  (Uv:CdH K CB "__init__" "Rule.__init__" uU)
  (O8:MeH K CF "holes" "Rule.holes" pL)
  (Xg:MeH K CF "put" "Rule.put" Bx)
  (O9:MeH K CT "holes" "Rule.holes" pN)
  (Xh:MeH K CT "put" "Rule.put" BJ)
  (O_:MeH K CN "holes" "Rule.holes" pO)
  (Xi:MeH K CN "put" "Rule.put" BK)
  (Pa:MeH K CV "holes" "Rule.holes" pP)
  (Xj:MeH K CV "put" "Rule.put" BL)
  (Uw:MeH K CF "mark" "Rule.mark" uZ)
  (Ux:MeH K CT "mark" "Rule.mark" u5)
  (Uy:MeH K CV "mark" "Rule.mark" u6)
  (Xk:MeH K CF "__init__" "First.__init__" BP)
  (Uz:MeH K CF "order" "First.order" u9)
  (Xl:MeH K CF "rule_word" "First.rule_word" BR)
  (Xm:MeH K CT "__init__" "Tightest.__init__" BW)
  (UG:MeH K CT "order" "Tightest.order" u_)
  (Xn:MeH K CT "rule_word" "Tightest.rule_word" BX)
  {vY:Addr} {UJ:Value} {UL:xL} {UW:Array (Option Value)} {U0:Nat} {zy:Tok}
  {U3 U4:xL} {U5:Array (Option Value)} {U6 U7 U8 U9 GR U_:Value}
  (Va:W.findIn K (.ref CN) "__init__" = some (some (.ref oN))) (Vb:W.isFn K (.ref oN)=true)
  (Vc:K.lookup oN=some ⟨U6,U3,.func (W.fnOf "__init__" "Next.__init__" (bF n8) (bf n8) (au n8) (.ref vY) U7 U8 U9 U4 GR U_),U5⟩) (Vd:W.codeIn K GR "Next.__init__" = true) (ac2:W.keepIn K (.ref oN)=true) (Ve:K.lookup vY=some ⟨UJ,UL,.seq #[.int 0 zy] U0,UW⟩)
  (Vf:MeH K CN "order" "Next.order" vd)
  (Xo:MeH K CN "rule_word" "Next.rule_word" BZ)
  (Xp:MeH K CV "__init__" "Halves.__init__" B_)
  (Vg:MeH K CV "order" "Halves.order" vf)
  (Xq:MeH K CV "rule_word" "Halves.rule_word" Ca)
  (Xr:MeH K CN "mark" "Next.mark" Cd)
  (gW:W.specialIn K (.builtin "object.__class__") "__get__" = some (some (.builtin "getset_descriptor.__get__")))
  (gY:W.takesIn K (.builtin "object.__class__")=some true)
  (qM:W.findIn K (.ref CF) "__class__" = some (some (.builtin "object.__class__")))
  (qN:W.mroIn K CF (.type "object")=some true)
  (ccF_k:W.kitOne K (.ref CF) (.ref CB)=some true)
  (qO:W.findIn K (.ref CT) "__class__" = some (some (.builtin "object.__class__")))
  (qP:W.mroIn K CT (.type "object")=some true)
  (ccT_k:W.kitOne K (.ref CT) (.ref CB)=some true)
  (qQ:W.findIn K (.ref CN) "__class__" = some (some (.builtin "object.__class__")))
  (qT:W.mroIn K CN (.type "object")=some true)
  (ccN_k:W.kitOne K (.ref CN) (.ref CB)=some true)
  (qU:W.findIn K (.ref CV) "__class__" = some (some (.builtin "object.__class__")))
  (qW:W.mroIn K CV (.type "object")=some true)
  (ccV_k:W.kitOne K (.ref CV) (.ref CB)=some true)
  (ccFF:W.kitOne K (.ref CF) (.ref CF)=some true)
  (ccFT:W.kitOne K (.ref CF) (.ref CT)=some false)
  (ccFN:W.kitOne K (.ref CF) (.ref CN)=some false)
  (ccFV:W.kitOne K (.ref CF) (.ref CV)=some false)
  (ccTF:W.kitOne K (.ref CT) (.ref CF)=some false)
  (ccTT:W.kitOne K (.ref CT) (.ref CT)=some true)
  (ccTN:W.kitOne K (.ref CT) (.ref CN)=some false)
  (ccTV:W.kitOne K (.ref CT) (.ref CV)=some false)
  (ccNF:W.kitOne K (.ref CN) (.ref CF)=some false)
  (ccNT:W.kitOne K (.ref CN) (.ref CT)=some false)
  (ccNN:W.kitOne K (.ref CN) (.ref CN)=some true)
  (ccNV:W.kitOne K (.ref CN) (.ref CV)=some false)
  (ccVF:W.kitOne K (.ref CV) (.ref CF)=some false)
  (ccVT:W.kitOne K (.ref CV) (.ref CT)=some false)
  (ccVN:W.kitOne K (.ref CV) (.ref CN)=some false)
  (ccVV:W.kitOne K (.ref CV) (.ref CV)=some true)
  : (∀p∈[ak],K.lookup p=none/\∃c,W.codeHdIn K c p=true)/\∃fd:FuncData,(∀(s:Shared)(v:Value),BindsTo s fd ⟨[v],[]⟩ [("_law_script", v)])/\∀base:Heap,K.In base->base.Ns mainGlobals mg->Bm mg base->gM l.prog w K mg base CX0 21 fa fd ["_law_script"] (Cw ak K):=by
 have e:=hfa.symm.trans (W.mg_of X G a35_);cases e;have T:Txt K mg (λi=>([C0,C1,C2]:List Addr).getD i 0) R CH CP CF CT CN CV CB aD ak:={
  dw:=jk.mk1 (W.mg_of X G ea0) el0 ei0 ef0 ec0 ek0 em0 (zT el0 es0) (zU el0 eg0 eb0 ej0 eh et)
  vg:=⟨_,_,_,_,_,_,_,_,_,_,_,_,_,_,_,el0⟩
  fZ:=acV
  cQ:=jk.mk1 (W.mg_of X G ea1) el1 ei1 ef1 ec1 ek1 em1 (zT el1 es1) (zU el1 eg1 eb1 ej1 eh et)
  pQ:=⟨_,_,_,_,_,_,_,_,_,_,_,_,_,_,_,el1⟩
  gC:=acW
  fj:=jk.mk1 (W.mg_of X G ea2) el2 ei2 ef2 ec2 ek2 em2 (zT el2 es2) (zU el2 eg2 eb2 ej2 eh et)
  Fo:=⟨_,_,_,_,_,_,_,_,_,_,_,_,_,_,_,el2⟩
  iI:=acX
  vm:=d0_.has X G
  yw:=d1_.has X G
  qK:=d2_.has X G
  yx:=d3_.has X G
  Fp:=d4_.has X G
  yC:=d5_.has X G
  KR:=d6_.has X G
  yD:=d7_.has X G
  yE:=d8_.has X G
  vo:=tb_bysize
  Fq:=⟨_,_,lQ l9_ c9_ k9_,rfl,W.mg_of X G a9_⟩
  vp:=d10_.has X G
  KY:=d11_.has X G
  yF:=d12_.has X G
  Sv:=d13_.has X G
  Ft:=d14_.has X G
  X7:=d15_.has X G
  KZ:=d16_.has X G
  Fv:=d17_.has X G
  cW:=d18_.has X G
  yG:=d19_.has X G
  Sw:=d20_.has X G
  Fw:=⟨Mw,_,_,_,_,_,_,_,_,_,_,_,_,_,l21_,c21_,k21_,W.mg_of X G a21_,ld21_,rfl⟩
  Fx:=d22_.has X G
  Fy:=d23_.has X G
  K1:=d24_.has X G
  K3:=d25_.has X G
  yH:=d26_.has X G
  Fz:=d27_.has X G
  FJ:=d28_.has X G
  K5:=d29_.has X G
  Sx:=d30_.has X G
  vq:=d31_.has X G
  vA:=d32_.has X G
  FN:=d33_.has X G
  vB:=d34_.has X G
  bJ:=W.mg_none_of X G nb0
  Sy:=W.mg_none_of X G nb1
  Jg:=W.mg_none_of X G nb2
  SJ:=W.mg_none_of X G nb3
  K6:=W.mg_none_of X G nb4
  SM:=W.mg_none_of X G nb5
  X8:=W.mg_none_of X G nb6
  SN:=W.mg_none_of X G nb7
  Ce:=W.mg_none_of X G nb8
  j5:=W.mg_none_of X G nb9
  qL:=W.mg_none_of X G afT
  X_:=W.mg_none_of X G afU
  vC:=W.mg_none_of X G afV
  Cg:=W.mg_none_of X G afW
  j6:=⟨_,W.mg_of X G afX,⟨_,rfl⟩⟩
  n_:=⟨_,W.mg_of X G afY,⟨_,rfl⟩⟩
  jz:=xx_NoMany_NoRule
  iW:=xx_NoPlace_NoRule
  iY:=xx_NoPlace_NoMany
  g_R:=W.mg_of X G eR
  c_R:=by unfold W.clsIn;rw[zc];rfl
  t_R:=zt
  m_R:=zm
  clH:=⟨Ud.1,Ud.2.1,Ud.2.2.1,Ud.2.2.2.1⟩
  FP:=W.mg_of X G aCH
  rQ:=Ue
  rR:=Ug
  clP:=⟨Uh.1,Uh.2.1,Uh.2.2.1,Uh.2.2.2.1⟩
  yI:=W.mg_of X G aCP
  K7:=Ui
  yJ:=Jv
  clF:=⟨Uj.1,Uj.2.1,Uj.2.2.1,Uj.2.2.2.1⟩
  vD:=W.mg_of X G aCF
  K8:=Uk
  clT:=⟨Ul.1,Ul.2.1,Ul.2.2.1,Ul.2.2.2.1⟩
  j7:=W.mg_of X G aCT
  K9:=Um
  clN:=⟨O7.1,O7.2.1,O7.2.2.1,O7.2.2.2.1⟩
  Ci:=W.mg_of X G aCN
  K_:=Uo
  yK:=Jw
  clV:=⟨Uq.1,Uq.2.1,Uq.2.2.1,Uq.2.2.2.1⟩
  pR:=W.mg_of X G aCV
  La:=Ur
  clB:=⟨W_.1,W_.2.1,W_.2.2.1,W_.2.2.2.1⟩
  lu:=W.mg_of X G aCB
  Lb:=Xa.mk Ud
  Ld:=Xb.me
  SQ:=aar.me
  Le:=Xc.me
  Lf:=Xd.mk Uh
  Lg:=Xe.me
  Lh:=Xf.me
  FQ:=Us.cd
  FT:=Ut.cd
  FW:=Uu.cd
  FZ:=Uv.cd
  yL:=O8.me
  Li:=Xg.me
  yM:=O9.me
  Lj:=Xh.me
  yN:=O_.me
  Ln:=Xi.me
  yO:=Pa.me
  Lp:=Xj.me
  Ga:=Uw.me
  Gb:=Ux.me
  Ge:=Uy.me
  Lq:=Xk.mk Uj
  Gf:=Uz.me
  Lr:=Xl.me
  Ls:=Xm.mk Ul
  Gg:=UG.me
  Lw:=Xn.me
  Lx:=⟨zy,oN,⟨vY,_,_,_,_,_,_,_,_,_,_,_,Vc,Vd,Ve,rfl⟩,⟨O7.2.2.2.2.1,Va,Vb,O7.2.2.2.2.2⟩⟩
  Gh:=Vf.me
  Ly:=Xo.me
  Lz:=Xp.mk Uq
  Gi:=Vg.me
  LC:=Xq.me
  LK:=Xr.me
  gW:=gW
  gY:=gY
  qM:=qM
  qN:=qN
  ccF_k:=ccF_k
  qO:=qO
  qP:=qP
  ccT_k:=ccT_k
  qQ:=qQ
  qT:=qT
  ccN_k:=ccN_k
  qU:=qU
  qW:=qW
  ccV_k:=ccV_k
  ccFF:=ccFF
  ccFT:=ccFT
  ccFN:=ccFN
  ccFV:=ccFV
  ccTF:=ccTF
  ccTT:=ccTT
  ccTN:=ccTN
  ccTV:=ccTV
  ccNF:=ccNF
  ccNT:=ccNT
  ccNN:=ccNN
  ccNV:=ccNV
  ccVF:=ccVF
  ccVT:=ccVT
  ccVN:=ccVN
  ccVV:=ccVV }
 refine⟨λp hp=>?_,W.fnOf "law" "law" (bF n6) (bf n6) (au n6) .none kV35_ dc35_ pm35_ an35_ cd35_ ct35_,λs v=>.of_eq rfl,λbase _ _ Bb=>?_⟩
 ·simp only[List.mem_cons,List.not_mem_nil,or_false] at hp;rcases hp with rfl
  ·exact⟨tn_bysize,_,tb_bysize⟩
 exact aaq T Bb (lQ (st:=n6) l35_ c35_ k35_)
theorem walk{l:W.OpenLaw}{q:Program}{loose:List Str}{XP:(Str->Option Value)->Heap->Prop}{YP:World->Heap->Prop}{d:DefRec}{K:Params->W.Frag}{ak:Addr}(hn:l.most=some 63)(hdf:d.params.defaults=[])
  (hY:∀(w:World)(h:Heap),YP w h->(K w.params).In h/\∀p∈[ak],h.get? p=some (W.tabObj #[]))
  (F:∀(w:World)(mg:xC)(fa:Addr)(h:Heap),(K w.params).In h->h.Ns mainGlobals mg->mg d.name=some (.ref fa)->(∀p∈[ak],(K w.params).lookup p=none/\∃c,W.codeHdIn (K w.params) c p=true) /\ 
   ∃fd:FuncData,(∀(s:Shared)(u:Value),BindsTo s fd ⟨[u],[]⟩ [("_law_script", u)])/\∀base:Heap,(K w.params).In base->base.Ns mainGlobals mg->Bm mg base->gM l.prog w (K w.params) mg base CX0 21 fa fd ["_law_script"] (Cw ak (K w.params))) :
  W.WalkO q loose XP YP l.row.toRowW d [] (λf vs=>PySem.call f vs) :=
 L2.Rk (ts:=[ak]) (n:=63) (k:=21) (x := "_law_script") (CX:=λ_=>CX0) (sp:=λw=>Cw ak (K w.params)) hn (by decide) hdf ⟨rfl,by decide,by decide,rfl⟩ hY F (λ_ _ a ns hl hO hn hS=>⟨a,ns,rfl,hS,hl,hO.1 ak (by simp),(λz=>hn (by simp[z])),λ_=>rfl⟩) λ_ _ _ _ _ z=>z
end K48
namespace PySem.W.Fast
def tw7563599618680005367:=Nat
def tw7375257949519813212:=Nat
def tw18023648089604103901:=Nat
def tw8235653346119308554:=Nat
def tw17011375746687064468:=Nat
def tw642872411372198100:=Nat
def tw6947972855066526551:=Nat
def tw13101059632913641868:=Nat
def tw17981095491689730426:=Nat
def tw13009425625081153220:=Nat
def tw8733273869761489059:=Nat
def tw2189555567515689993:=Nat
def tw6710619706829099768:=Nat
def tw6065548650659595801:=Nat
def tw15423832540958677333:=Nat
def tw10337986778720868280:=Nat
def tw9032915767197964198:=Nat
def tw14509044936967434407:=Nat
def tw402735188604322002:=Nat
def tw7545052613929444539:=Nat
def tw4719242245742079816:=Nat
def tw5055051042577283645:=Nat
def tw17683158382349107677:=Nat
def tw3746324463441706938:=Nat
def tw952653650266573821:=Nat
def tw14423206446305610618:=Nat
def tw16574188321324380485:=Nat
def tw231705920474338868:=Nat
def tw4856262107748609511:=Nat
def tw3363884624747144737:=Nat
def tw5585298779109211587:=Nat
def tw15387039306897814549:=Nat
def tw741458908671624142:=Nat
def tw10273724311203965728:=Nat
def tw8908196637831793269:=Nat
def tw17675435897495455212:=Nat
def tw3379201686620236756:=Nat
def tw1427168711390352621:=Nat
def tw1418854788278288304:=Nat
def tw5297791143599675300:=Nat
def tw8488440961687507517:=Nat
def tw7376609127860287942:=Nat
def tw10229834096188013705:=Nat
def tw4014630910573773380:=Nat
def tw9160017470935511141:=Nat
def tw10797737263862471367:=Nat
def tw3809368643507972654:=Nat
def tw10586607457378233737:=Nat
def tw11318177318445857680:=Nat
def tw5918374194011364050:=Nat
def tw4890086491094800021:=Nat
def tw7204495621008314358:=Nat
def tw2495149343452870810:=Nat
def tw8770195281262026932:=Nat
def tw10792360765873983846:=Nat
def tw10669204560252821860:=Nat
def tw1289532600932385805:=Nat
def tw13937968705293664112:=Nat
def tw12021014460749770799:=Nat
def tw18244972686153830412:=Nat
def tw5103160380049414892:=Nat
def tw9022654716489634335:=Nat
def tw2138719722744813511:=Nat
def tw16707110874388659055:=Nat
def tw3902194773931648165:=Nat
def tw16127615984212189452:=Nat
def tw3049416358847764791:=Nat
def tw1676577040950368206:=Nat
def tw3510252272654977824:=Nat
def tw12689204745825758591:=Nat
def tw17509498368927848398:=Nat
def tw9383196115277792681:=Nat
def tw13609745078152962682:=Nat
def tw1927848440787986803:=Nat
def tw18265949389609875969:=Nat
def tw17988780657271008838:=Nat
def tw6563122444493127392:=Nat
def tw10212168426576803629:=Nat
def tw4181418034570180629:=Nat
def tw2574321588118455594:=Nat
def tw15559420531280568352:=Nat
def tw12076474047799837739:=Nat
def tw8532918562173018761:=Nat
def tw16260416127638581484:=Nat
def tw12557473440559856644:=Nat
def tw9460574825027206929:=Nat
def tw3151669193088149297:=Nat
def tw13805363231340654965:=Nat
def tw604275600594833007:=Nat
def tw925899086347408366:=Nat
def tw900123689385310850:=Nat
def tw14617349883740770960:=Nat
def tw6056763230447785877:=Nat
def tw7974912489646516340:=Nat
def tw6797674688461323936:=Nat
def tw10200705287775634776:=Nat
def tw6163113770418198980:=Nat
def tw16236516406765848599:=Nat
def tw10892503733788120159:=Nat
def tw1878288304099485207:=Nat
def tw15083153204610521646:=Nat
def tw16817714438007592597:=Nat
def tw1934481631333610868:=Nat
def tw2766073227813750727:=Nat
def tw2596577601685591339:=Nat
def tw15339317279731475763:=Nat
def tw10473565923501564982:=Nat
def tw15871859449642730537:=Nat
def tw8552854864031944284:=Nat
def tw16651855044328737478:=Nat
def tw10702567939970484240:=Nat
def tw10001663479967869047:=Nat
def tw4274532567192265593:=Nat
def tw7902744362223275839:=Nat
def tw13892553442467846375:=Nat
def tw4343287212596746394:=Nat
def tw9327331989190653894:=Nat
def tw5772728276392189558:=Nat
def tw11242423486605754750:=Nat
def tw15979636172555033176:=Nat
def tw16728807465779154550:=Nat
def tw1689631603966421003:=Nat
def tw5295975251905396816:=Nat
def tw12428125534009790089:=Nat
def tw6734242736040339729:=Nat
def tw3979792242175475385:=Nat
def tw15409950556548003374:=Nat
def tw2558415358375855089:=Nat
def tw18113025386712753886:=Nat
def tw6844440795264328881:=Nat
def tw11185476529982068572:=Nat
def tw7465350607148787149:=Nat
def tw10705788111453364782:=Nat
def tw640220621027311893:=Nat
def tw2457904236453937938:=Nat
def tw9956468109425178295:=Nat
def tw2452910284268129178:=Nat
def tw10694500152282229300:=Nat
def tw13887806272093245834:=Nat
def tw42488483286028752:=Nat
def tw5341117621941970435:=Nat
def tw3169947271548736418:=Nat
def tw7072273630706915081:=Nat
def tw6745611115161671574:=Nat
def tw9323516634310504287:=Nat
def tw16910610229040309797:=Nat
def tw17369695619556735601:=Nat
def tw5296081421087033584:=Nat
def tw13833535446321527626:=Nat
def tw7393266645362119249:=Nat
def tw16744901008290699943:=Nat
def tw1650031784201649882:=Nat
def tw9472720848995649573:=Nat
def tw13005811026299054336:=Nat
def tw6135174144636977540:=Nat
def tw8904746752363089535:=Nat
def tw11993926436080806341:=Nat
def tw3525916934831773103:=Nat
def tw8799874202444223823:=Nat
def tw11337729761184894761:=Nat
def tw15849893276558140433:=Nat
def tw3908065058265308639:=Nat
def tw16016610988655398382:=Nat
def tw17022578762068568528:=Nat
def tw10509001191269746853:=Nat
def tw14355235508866186238:=Nat
def tw16057243850935538810:=Nat
def tw7856450442613059964:=Nat
def tw2561438280496054239:=Nat
def tw16759219128802089071:=Nat
def tw14135097513604030261:=Nat
def tw1342953498656852505:=Nat
def tw6212684425286418199:=Nat
def tw1645469065965376131:=Nat
def tw2574767599399067936:=Nat
def tw17510299462618551343:=Nat
def tw1533724569833556783:=Nat
def tw3574877484365349161:=Nat
def tw7074192648809335465:=Nat
def tw7821262479624001232:=Nat
def tw13660472296135558930:=Nat
def tw16845632978697185470:=Nat
def tw1737789189708524619:=Nat
def tw2284666389121706487:=Nat
def tw16338838554865174729:=Nat
def tw3444257113018168243:=Nat
def tw8981906002699940456:=Nat
def tw16841898065323697118:=Nat
def tw17954103538104814135:=Nat
def tw3840930125334719929:=Nat
def tw9999672749222350273:=Nat
def tw1906197630709646961:=Nat
def tw5412847273273748841:=Nat
def tw9724725442592871872:=Nat
def tw3970789491397813185:=Nat
def tw3942099095845075040:=Nat
def tw13356726596924889332:=Nat
def tw17782981648843668757:=Nat
def tw16309901005116554153:=Nat
def tw7812720516871473689:=Nat
def tw11304976462326720537:=Nat
def tw15089436756167057233:=Nat
def tw15092056215226683708:=Nat
def tw11673677826201005333:=Nat
def tw14527676157652252223:=Nat
def tw1571863396493743021:=Nat
def tw11032021191005311009:=Nat
def tw7437432969886776715:=Nat
def tw3369931279997889419:=Nat
def tw8310189271128754023:=Nat
def tw971075143229321512:=Nat
def tw272215189614306520:=Nat
def tw14644959924193532093:=Nat
def tw5341830903396638806:=Nat
def tw7829094379848762541:=Nat
def tw16736276279360451403:=Nat
def tw8161376969218088724:=Nat
def tw4857037958750519733:=Nat
def tw14442401950884693920:=Nat
def tw7242187720458624149:=Nat
def tw5167133784337380037:=Nat
def tw13917103424961376012:=Nat
def tw15288243229564935461:=Nat
def tw17028342159218807643:=Nat
def tw2104196049195157246:=Nat
def tw4114395067860901143:=Nat
def tw4873832398446500161:=Nat
def tw13565195851413001979:=Nat
def tw4865346961879510011:=Nat
def tw6704898798755005133:=Nat
def tw7318494541211898837:=Nat
def tw15602019156686034151:=Nat
def tw12383785767059449727:=Nat
def tw443824497512272297:=Nat
def tw18170584093785722036:=Nat
def tw3913106805775307420:=Nat
def tw2329826209215846285:=Nat
def tw8938250500716934959:=Nat
def tw3603609870086601065:=Nat
def tw8956107218374683752:=Nat
def tw9268423273549120244:=Nat
def tw14838191284700414890:=Nat
def tw10359590949139111000:=Nat
def tw5842745913143391726:=Nat
def tw11628152673807688131:=Nat
def tw2641142773998116901:=Nat
def tw3785762106605870352:=Nat
def tw13847607415251252482:=Nat
def tw7492185575284010136:=Nat
def tw7270822592214114751:=Nat
def tw348869341969224575:=Nat
def tw12064269555198193156:=Nat
def tw15107810956666253263:=Nat
def tw239560112882048490:=Nat
def tw2638429717137123314:=Nat
def tw275082104543183514:=Nat
def tw5088129409376682514:=Nat
def tw9181835262522428537:=Nat
def tw9629408477627756952:=Nat
def tw13393190997466799995:=Nat
def tw5476315427195806240:=Nat
def tw13653296205809219453:=Nat
def tw9381988807725499221:=Nat
def tw9321812576500820696:=Nat
def tw14746884116652180556:=Nat
def tw7444788669223723328:=Nat
def tw4389045091480618453:=Nat
def tw14965106837264852832:=Nat
def tw4383912805748862198:=Nat
def tw17768497700038968610:=Nat
def tw2915390561625802025:=Nat
def tw7127423617346052824:=Nat
def tw6463089208142815867:=Nat
def tw7259396963064942550:=Nat
def tw16777327903867842088:=Nat
def tw4680886344868874003:=Nat
def tw13845781224740078172:=Nat
def tw5214985560520541894:=Nat
def tw11511885911212306726:=Nat
def tw5709920304400133375:=Nat
def tw7490860445365202976:=Nat
def tw8827070466606037327:=Nat
def tw10103408462087081572:=Nat
def tw11829502463830541576:=Nat
def tw1428284487771133939:=Nat
def tw13109349977998612618:=Nat
def tw14787558276266822432:=Nat
def tw6482758486612053584:=Nat
def tw4294801394230901176:=Nat
def tw12953167315503851105:=Nat
def tw3262516190182648796:=Nat
def tw4783335670445394054:=Nat
def tw8375954937217807627:=Nat
def tw10450568709816679767:=Nat
def tw14558470730631112782:=Nat
def tw552027950159989895:=Nat
def tw12799903611574404779:=Nat
def tw16545187519162976429:=Nat
def tw3572687686648023366:=Nat
def tw5717398269216902792:=Nat
def tw11092952319728568406:=Nat
def tw14875122396562767317:=Nat
def tw17855406008404741190:=Nat
def tw6493958236788677645:=Nat
def tw15451849080942854759:=Nat
def tw2830113778822058170:=Nat
def tw9055445055539944379:=Nat
def tw3901786329944348035:=Nat
def tw9009401235101535417:=Nat
def tw11387838813364161899:=Nat
def tw13729452798621875683:=Nat
def tw7940252087993651460:=Nat
def tw4659046497438380086:=Nat
def tw9825028098133670259:=Nat
def tw6692195893950422524:=Nat
def tw8360854493763899145:=Nat
def tw9193895520848158388:=Nat
def tw5045411659671941121:=Nat
def tw13205324291568875808:=Nat
def tw7573036447553862618:=Nat
def tw4452423398866160245:=Nat
def tw6765528995572605474:=Nat
def tw5968019245137729715:=Nat
def tw10030064411496003935:=Nat
def tw9473813824351983208:=Nat
def tw3691422173005829246:=Nat
def tw8900056814443112631:=Nat
def tw10506989269445201766:=Nat
def tw3911019045417384532:=Nat
def tw13508976919015422785:=Nat
def tw15935677293516358350:=Nat
def tw907160417100897991:=Nat
def tw14544866580661257973:=Nat
def tw3753270557626338570:=Nat
def tw5551058243241453967:=Nat
def tw5545727885198938399:=Nat
def tw10928169571263548469:=Nat
def tw13293389021917682188:=Nat
def tw13388783492128422637:=Nat
def tw14697694796163036114:=Nat
def tw16187335854421434895:=Nat
def tw16986947587964972127:=Nat
def tw17028917278838300125:=Nat
def tw17410711714577390926:=Nat
def tw4415184050787757060:=Nat
def tw6778506515804526690:=Nat
def tw1003657144662783561:=Nat
def tw1585860989835333216:=Nat
def tw7135445090128149732:=Nat
def tw5134848198693596577:=Nat
def tw6235770268509299818:=Nat
def tw12705459096270719720:=Nat
def tw1349134461035137680:=Nat
def tw14429587720515184802:=Nat
def tw10425391523878943018:=Nat
def tw15843547901157572151:=Nat
def tw6120679599976602809:=Nat
def tw9685139279964423729:=Nat
def tw15150616275578126998:=Nat
def tw11555523350172694569:=Nat
def tw18133923684202002324:=Nat
def tw7161612283578482567:=Nat
def tw10415274087998078758:=Nat
def tw13088938230732794316:=Nat
def tw13798311454754987692:=Nat
def tw9602612860530189896:=Nat
def tw16556326397019771058:=Nat
def tw11549100500972667520:=Nat
def tw14157075836907389048:=Nat
def tw14975002817598026346:=Nat
def tw15232494931659762897:=Nat
def tw16552760425027180503:=Nat
def tw16684565906589914510:=Nat
def tw17773822074317698118:=Nat
def tw17810908754507742912:=Nat
def tw360582697529004513:=Nat
def tw6156900844931122977:=Nat
def tw6706051651898571724:=Nat
def tw6957025224575969538:=Nat
def tw7076822677662227615:=Nat
def tw751086712919659082:=Nat
def tw9015747085948092023:=Nat
def tw9712025654034391733:=Nat
def tw996536760247013014:=Nat
def tw13705289179588198558:=Nat
def tw15478012599830988628:=Nat
def tw10397097953746155386:=Nat
def tw12246707944570604543:=Nat
def tw13682910730896746680:=Nat
def tw15907705058365769093:=Nat
def tw17620077465376830399:=Nat
def tw3482345902361578058:=Nat
def tw4759577588157435519:=Nat
def tw8715367849239874085:=Nat
def tw552064797160632521:=Nat
def tw1930008516145355180:=Nat
def tw14642594261896790628:=Nat
def tw3135714890530949523:=Nat
def tw2261665636238690359:=Nat
def tw13999233763700079618:=Nat
def tw16435992809096594749:=Nat
def tw7736262267455428619:=Nat
def tw1772242558821037330:=Nat
def tw14376472888806848960:=Nat
def tw5903242422137565879:=Nat
def tw9132200186234448344:=Nat
def tw3001396554942220822:=Nat
def tw1622850280490536182:=Nat
def tw10078097012838091117:=Nat
def tw10314639167880744515:=Nat
def tw11101925981829679232:=Nat
def tw11772489517048795062:=Nat
def tw1256781015622501543:=Nat
def tw12856475388098367785:=Nat
def tw13786614088580176600:=Nat
def tw14910567204395864375:=Nat
def tw14999296662837655229:=Nat
def tw15209338943223904619:=Nat
def tw15677799405829687446:=Nat
def tw16529171331640274169:=Nat
def tw2519002658876623892:=Nat
def tw4858120805049795663:=Nat
def tw6022441536658446794:=Nat
def tw7009004353922613829:=Nat
def tw8879433636124394431:=Nat
def tw919150651645290323:=Nat
def tw9402170000874551267:=Nat
def tw10741404135468839510:=Nat
def tw14553459752425912969:=Nat
def tw13838957537150808068:=Nat
def tw17600438207471000347:=Nat
def tw3496295270436239719:=Nat
def tw4780199361280163194:=Nat
def tw5022967278410314729:=Nat
def tw12447046592669803409:=Nat
def tw799944280591138866:=Nat
def tw7089731560204078377:=Nat
def tw8043225899641213517:=Nat
def tw2388149784985862611:=Nat
def tw8160860963693962411:=Nat
end PySem.W.Fast
open PySem PySem.W PyProof.Rows
set_option maxRecDepth 100000 in
set_option maxHeartbeats 0 in
theorem PySem.Challenge.cw_slideroom_k48_rules_by_words_holds : PySem.Challenge.rw_slideroom_k48_rules_by_words.Holds := by
 w_on;o_law;k_head;(case hw=>w_witness2)
 k_fill
 refine K48.walk (l:=PySem.Challenge.rw_slideroom_k48_rules_by_words) rfl rfl (fun w h Y=>⟨PySem.W.km_in_of Y,PySem.W.km_tabs_of Y⟩) ?F
 case F =>
  intro w mg fa h KX G hmg
  refine' K48.all_mk KX G hmg ?_ ?_ ?_ ?_ ?_ ?_ ?_ ?_ ?_ ?_ ?_ ?_ ?_ ?_ ?_ ?_ ?_ ?_ ?_ ?_ ?_ ?_ ?_ ?_ ?_ ?_ ?_ ?_ ?_ ?_ ?_ ?_ ?_ ?_ ?_ ?_ ?_ ?_ ?_ ?_ ?_ ?_ ?_ ?_ ?_ ?_ ?_ ?_ ?_ ?_ ?_ ?_ ?tb_bysize ?tn_bysize ?_ ?_ ?_ ?_ ?_ ?_ ?_ ?_ ?_ ?_ ?_ ?_ ?_ ?_ ?_ ?_ ?_ ?_ ?_ ?_ ?_ ?_ ?_ ?_ ?_ ?_ ?_ ?_ ?_ ?_ ?_ ?_ ?_ ?_ ?_ ?_ ?_ ?_ ?_ ?_ ?_ ?_ ?_ ?_ ?_ ?_ ?_ ?_ ?_ ?xx_NoMany_NoRule ?xx_NoPlace_NoRule ?xx_NoPlace_NoMany ?_ ?_ ?_ ?_ ?_ ?_ ?_ ?_ ?_ ?_ ?_ ?_ ?_ ?_ ?_ ?_ ?_ ?_ ?_ ?_ ?_ ?_ ?_ ?_ ?_ ?_ ?_ ?_ ?_ ?_ ?_ ?_ ?_ ?_ ?_ ?_ ?_ ?_ ?_ ?_ ?_ ?_ ?_ ?_ ?_ ?_ ?_ ?_ ?_ ?_ ?_ ?_ ?_ ?_ ?_ ?_ ?_ ?_ ?_ ?_ ?_ ?_ ?_ ?_ ?_ ?_ ?_ ?_ ?_ ?_ ?ccF_k ?_ ?_ ?ccT_k ?_ ?_ ?ccN_k ?_ ?_ ?ccV_k ?ccFF ?ccFT ?ccFN ?ccFV ?ccTF ?ccTT ?ccTN ?ccTV ?ccNF ?ccNT ?ccNN ?ccNV ?ccVF ?ccVT ?ccVN ?ccVV
  all_goals try first
   | k_is
   | exact ⟨_,_,_,_,_,_,_,_,_,_,by k_is,by k_is,by k_is,by k_is⟩
   | exact ⟨_,_,_,_,_,_,_,_,_,_,by k_is,by k_is,by k_is,by k_is,by k_is⟩
   | exact ⟨_,_,_,_,_,_,_,_,_,_,by k_is,by k_is,by k_is,by k_is,by k_is,by k_is⟩
   | exact ⟨by k_is,by k_is,by k_is,by k_is,by k_is,by k_is⟩
  (case xx_NoMany_NoRule=>kts_exm)
  (case xx_NoPlace_NoRule=>kts_exm)
  (case xx_NoPlace_NoMany=>kts_exm)
  (case ccF_k=>kit_is)
  (case ccT_k=>kit_is)
  (case ccN_k=>kit_is)
  (case ccV_k=>kit_is)
  (case ccFF=>kit_is)
  (case ccFT=>kit_is)
  (case ccFN=>kit_is)
  (case ccFV=>kit_is)
  (case ccTF=>kit_is)
  (case ccTT=>kit_is)
  (case ccTN=>kit_is)
  (case ccTV=>kit_is)
  (case ccNF=>kit_is)
  (case ccNT=>kit_is)
  (case ccNN=>kit_is)
  (case ccNV=>kit_is)
  (case ccVF=>kit_is)
  (case ccVT=>kit_is)
  (case ccVN=>kit_is)
  (case ccVV=>kit_is)
  (case tb_bysize=>kernel_rfl)
  (case tn_bysize=>kernel_rfl)
