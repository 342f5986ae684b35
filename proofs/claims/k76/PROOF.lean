import PyProof.Rows.All
import Wide.All
import OpenK.AllK
import Wide.FinOn
import Lean
import PyProof.EqAt
import PyProof.EqKinds
import PyProof.TupleCall
import PyProof.NeKinds
import PyProof.ExcInit
import PyProof.StationsW
import PyProof.ExcBaseAll.ValueError
import PyProof.ExcArgs
import KE.KIsAll
import PyProof.ReprRoads
import PyProof.CallFns
import PyProof.ExcClass3
import PyProof.StrBlock2
import PyProof.FitsInt
import PyProof.StrLawsRepr
import KE.KTryMore
import PyProof.RulesAs
import KE.KIntText
import PyProof.StrLawsChain
import PyProof.StrCalls2
import PyProof.ZipIter
import PyProof.Conv_bool
import PyProof.CallStr
import PyProof.TupleIter
import KE.KEqDict
import PyProof.AutoListH
import PyProof.FactsAll.range_2
import KE.IntTextLaws
import PyProof.StrCalls
import PySem.Challenge.RW_slideroom_k76_whole_no_slides_cheaper
-- CHANGE: your row's module here, as the last of these rows
set_option compiler.extract_closed false
set_option bootstrap.genMatcherCode false
set_option Elab.async false
set_option linter.all false
set_option maxRecDepth 100000
section
open PySem PySem.Spec PyProof.Rows PySem.SeqAt
abbrev xA:=Unit->Shared->Prop
abbrev xB:=Value->Shared->Prop
abbrev xC:=Str->Option Value
abbrev xD:=List (Nat×Nat)
abbrev xE:=List Value
abbrev xF:=List Bool
abbrev xI:=Array Value
abbrev xL:=Option Addr
def zC:=@List.mem_cons_self
def zD:=@List.mem_cons_of_mem
def zI:=@wpAny_bind
def zS:=@if_pos
def yB:=@if_neg
def yT:=@List.length_append
def yY:=@List.mem_of_getElem?
def wE:=@List.getElem?_append_left
def wP:=@List.length_map
def wS:=@List.mem_append
def wT:=@List.getElem?_map
def vE:=@List.not_mem_nil
def vF:=@Bool.false_ne_true
def vS:=@List.append_assoc
def vT:=@List.mem_cons
def jI:=@List.mem_map
def jS:=@List.take_append_drop
def qA:=@List.getElem?_eq_some_iff
def qB:=@List.getElem?_eq_getElem
def qE:=@Nat.lt_of_lt_of_le
def qS:=@Nat.ne_of_lt
def qV:=@Nat.lt_irrefl
def gE:=@List.take_succ
def gI:=@congrArg
def gL:=@absurd
def gN:=@eq_of_beq
def gS:=@decide_eq_false
def gX:=@decide_eq_true
def uA:=@Heap.lt_size
def uB:=@Heap.get?_push_of_some
def uC:=@Nat.le_refl
def uS:=@List.mem_singleton
def rS:=@List.mem_append_right
def rV:=@wpAny_pure
def rX:=@Nat.le_trans
def oB:=@List.mem_of_mem_take
def oC:=@Heap.get?_push_size
def oP:=@List.getD_eq_getElem?_getD
def oQ:=@List.length_take
def oS:=@List.map_cons
def nE:=@List.getElem?_append_right
def nI:=@Option.some.inj
def nK:=@Nat.lt_succ_of_lt
def nN:=@List.size_toArray
def nS:=@Heap.get?_update_other
def nV:=@List.take_of_length_le
def nX:=@wpAny_holding
def mB:=@wpAny_mono
def mE:=@List.mem_append_left
def mI:=@List.append_nil
def mM:=@List.length_replicate
def mN:=@List.pairwise_cons
def mP:=@List.getElem?_eq_none
def mS:=@List.length_cons
def mT:=@List.length_drop
end
namespace L2
open PySem PySem.Spec PyProof.Rows
abbrev Key:=Sum Int Str
def Y5:Key->Value->Bool
 | .inl k,v=>Value.isInt k v
 | .inr x,v=>Value.isStrOf x v
def agI(w:World):Key->Int
 | .inl k=>hashInt k
 | .inr x=>hashStr w x
theorem cM:∀{k:Key} {v:Value},Y5 k v=true->(∃i t,k=Sum.inl i/\v=Value.int i t)\/(∃x t,k=Sum.inr x/\v=Value.str x t)
 | .inl i,v,h=>by
  obtain⟨t,e⟩:=Value.isInt_shape (k:=i) (v:=v) h;exact .inl ⟨i,t,rfl,e⟩
 | .inr x,v,h=>by
  obtain⟨t,e⟩:=Value.isStrOf_shape (x:=x) (v:=v) h;exact .inr ⟨x,t,rfl,e⟩
theorem Zw(a b:Int):decide ((Sum.inl a:Key)=Sum.inl b)=(a==b):=by
 by_cases e:a=b
 ·subst e;simp
 ·have h:¬ (Sum.inl a:Key)=Sum.inl b:=λq=>e (Sum.inl.inj q)
  rw[gS h];exact(beq_eq_false_iff_ne.mpr e).symm
theorem Zx(a b:Str):decide ((Sum.inr a:Key)=Sum.inr b)=decide (a=b):=by
 by_cases e:a=b
 ·subst e;simp
 ·have h:¬ (Sum.inr a:Key)=Sum.inr b:=λq=>e (Sum.inr.inj q)
  rw[gS h,gS e]
theorem Zy(a:Int)(b:Str):decide ((Sum.inl a:Key)=Sum.inr b)=false:=gS (λq=>nomatch q)
theorem Zz(a:Str)(b:Int):decide ((Sum.inr a:Key)=Sum.inl b)=false:=gS (λq=>nomatch q)
def Ky(prog:Program)(w:World):PySem.KeyKind prog w Key where
 is:=Y5
 hash:=agI w
 inj:=λv a b ha hb=>by
  rcases cM ha with⟨i,t,rfl,rfl⟩|⟨x,t,rfl,rfl⟩
  ·rcases cM hb with⟨j,u,rfl,e⟩|⟨y,u,rfl,e⟩
   ·injection e with e1 _;rw[e1]
   ·exact nomatch e
  ·rcases cM hb with⟨j,u,rfl,e⟩|⟨y,u,rfl,e⟩
   ·exact nomatch e
   ·injection e with e1 _;rw[e1]
 byValue:=λk v h=>by
  rcases cM h with⟨i,t,rfl,rfl⟩|⟨x,t,rfl,rfl⟩ <;> rfl
 pyHash:=λhv h=>by
  rcases cM hv with⟨i,t,rfl,rfl⟩|⟨x,t,rfl,rfl⟩
  ·exact wpAny_pyHash_int h
  ·exact wpAny_pyHash_str h
 eqBool:=λhu hv h=>by
  rcases cM hu with⟨i,t,rfl,rfl⟩|⟨x,t,rfl,rfl⟩
  ·rcases cM hv with⟨j,u,rfl,rfl⟩|⟨y,u,rfl,rfl⟩
   ·rw[Zw] at h;exact wpAny_eqBool_int h
   ·rw[Zy] at h;exact SeqAt.EqAt.int_str i t y u _ _ _ _ h
  ·rcases cM hv with⟨j,u,rfl,rfl⟩|⟨y,u,rfl,rfl⟩
   ·rw[Zz] at h;exact SeqAt.EqAt.str_int x t j u _ _ _ _ h
   ·rw[Zx] at h;exact wpAny_eqBool_str h
 «strs»:=λk x t v h=>by
  rcases cM h with⟨i,u,rfl,e⟩|⟨y,u,rfl,e⟩
  ·exact nomatch e
  ·injection e with e1 _
   subst e1;cases v <;> rfl
inductive V where
 | non|bl (b:Bool)|int (i:Int)|str (x:Str)|byt (b:Array UInt8)|flt (b:UInt64)|ref (a:Addr)|ty (n:String)
 deriving DecidableEq
def RelV:V->Value->Prop
 | .non,u=>u=Value.none
 | .bl b,u=>u=Value.bool b
 | .int i,u=>∃t,u=Value.int i t
 | .str x,u=>∃t,u=Value.str x t
 | .byt b,u=>∃t,u=Value.bytes b t
 | .flt b,u=>∃t,u=Value.float b t
 | .ref a,u=>u=Value.ref a
 | .ty n,u=>u=Value.type n
abbrev Vals:List V->List Value->Prop:=Paired RelV
theorem Vals.length{xs:List V}{us:xE}(r:Vals xs us):xs.length=us.length:=Paired.length r
theorem Vals.get:∀{xs:List V} {us:xE} {i:Nat} {x:V},Vals xs us->xs[i]?=some x->∃u,us[i]?=some u/\RelV x u
 | _,_,_,_,.nil,e=>by simp at e
 | _,_,0,_,.cons r _,e=>by simp at e;subst e;exact⟨_,rfl,r⟩
 | _,_,i+1,x,.cons _ t,e=>by
  obtain⟨u,h1,h2⟩:=Vals.get (i:=i) (x:=x) t (by simpa using e);exact⟨u,by simpa using h1,h2⟩
theorem Vals.set{x:V}{u:Value}(r:RelV x u):∀{xs:List V} {us:xE} (i:Nat),Vals xs us->Vals (xs.set i x) (us.set i u)
 | _,_,_,.nil=>.nil
 | _,_,0,.cons _ t=>.cons r t
 | _,_,i+1,.cons q t=>.cons q (Vals.set r i t)
theorem Vals.append:∀{xs ys:List V} {us ws:xE},Vals xs us->Vals ys ws->Vals (xs++ys) (us++ws)
 | _,_,_,_,.nil,s=>s
 | _,_,_,_,.cons r t,s=>.cons r (Vals.append t s)
theorem Vals.take:∀{xs:List V} {us:xE} (n:Nat),Vals xs us->Vals (xs.take n) (us.take n)
 | _,_,0,_=>.nil
 | _,_,_+1,.nil=>.nil
 | _,_,n+1,.cons r t=>.cons r (Vals.take n t)
theorem Vals.drop:∀{xs:List V} {us:xE} (n:Nat),Vals xs us->Vals (xs.drop n) (us.drop n)
 | _,_,0,r=>r
 | _,_,_+1,.nil=>.nil
 | _,_,n+1,.cons _ t=>Vals.drop n t
def lZ:Option V->Option Value->Prop
 | some v,some u=>RelV v u
 | none,none=>True
 | _,_=>False
def KV{κ:Type}:List (κ×V)->List (κ×Value)->Prop:=Paired λ(p:κ×V) (q:κ×Value)=>p.1=q.1/\RelV p.2 q.2
def kV:Key->V
 | .inl i=>.int i
 | .inr x=>.str x
inductive HO where
 /-- a list -/
 | lst (xs:List V)
 /-- a tuple (never changes) -/
 | tup (xs:List V)
 /-- a dict whose keys are ints and texts; one whose keys are tuples of ints and texts (the empty one is both) -/
 | dK (kvs:List (Key×V))|dT (kvs:List (List Key×V))
 /-- a set of ints: its members, its size -/
 | set (S:Int->Bool) (n:Nat)
 /-- an instance of the class at C, its dict at dx, its attributes -/
 | ins (C dx:Addr) (fs:List (Str×V))
 /-- the dict of the instance at x -/
 | own (x:Addr)
 /-- the dict of an exception -/
 | xd (fs:List (Str×V))
 /-- a bound method, f of x -/
 | met (f x:Addr)
 /-- a range object lo, lo + 1, .. below hi -/
 | rng (lo hi:Int)
 /-- a thing that is known to the object (the script; a dict while a loop walks it): read, never written while it is so -/
 | frz (o:Obj) (u:HO)
 /-- a code object's table -/
 | tbl (ps:xI)
 /-- any other thing, by what is true of its one object (a def of one's own: ajs a S n := HO.ext fun h => ..) -/
 | ext (φ:Heap->Prop)
abbrev Hp:=Addr->Option HO
def upd(H:Hp)(a:Addr)(o:HO):Hp:=λb=>if b=a then some o else H b
theorem aV{H:Hp}{a:Addr}{o:HO}:upd H a o a=some o:=by unfold upd;rw[if_pos rfl]
theorem aQ{H:Hp}{a b:Addr}{o:HO}(h:b≠a):upd H a o b=H b:=by unfold upd;rw[if_neg h]
theorem Wv{H:Hp}{a:Addr}{o u:HO}:upd (upd H a o) a u=upd H a u:=by
 funext b;unfold upd;split <;> rfl
theorem aK{H:Hp}{a b:Addr}{o:HO}(h:H a=some o)(h':H b=none):a≠b:=by
 intro e;subst e;rw[h] at h';cases h'
section
variable(P:Program)(w:World)
def cA(H:Hp)(h:Heap)(a:Addr):HO->Prop
 | .lst xs=>xs.length<=sizeLine/\∃(its:xE)(n:Nat),Vals xs its/\h.get? a=some { cls:=.type "list", data:=.seq its.toArray n }
 | .tup xs=>xs.length<=sizeLine/\∃its:List Value,Vals xs its/\IsTup h a its.toArray
 | .dK kvs=>kvs.length<=sizeLine/\(a==sysModules)=false/\∃vs,KV kvs vs/\h.DictOf (Ky P w) a vs
 | .dT kvs=>kvs.length<=sizeLine/\(a==sysModules)=false/\∃xs:List (List Key×Addr×Value),
   Paired (λ(p:List Key×V) (q:List Key×Addr×Value)=>p.1=q.1/\H q.2.1=some (.tup (p.1.map kV))/\RelV p.2 q.2.2) kvs xs /\
   ∃o es ep,h.get? a=some o/\o.ExactDict/\o.data=.dict es ep/\es.toList=xs.map (entryOfKey (tupleKind (Ky P w)))/\(xs.map (·.1)).Nodup
 | .set S n=>h.SetOf (intKind P w) a S n
 | .ins C dx fs=>H dx=some (.own a)/\fs.length<=1000/\dx≠a/\h.get? a=some (W.instObj C dx) /\
   ∃mA,h.Ns1 dx mA/\(∀f,lZ (fs.lookup f) (mA f))/\PySem.Within mA (fs.map (·.1))
 | .own _=>∃o,h.get? a=some o
 | .xd fs=>∃mA,h.Ns1 a mA/\∀f,lZ (fs.lookup f) (mA f)
 | .rng lo hi=>∃t u v,h.get? a=some { cls:=.type "range", data:=.fields #[.int lo t,.int hi u,.int 1 v] }
 | .frz o u=>h.get? a=some o/\cA H h a u
 | .tbl ps=>h.get? a=some { cls:=.none,data:=.fields ps }
 | .met f x=>h.get? a=some (W.methodObj (.ref f) (.ref x))
 | .ext φ=>φ h/\(∃o,h.get? a=some o)/\∀h1 h2:Heap,φ h1->(∀o,h1.get? a=some o->h2.get? a=some o)->φ h2
def HOk(H:Hp)(h:Heap):Prop:=∀a o,H a=some o->cA P w H h a o
end
section
variable{P:Program}{w:World}{H H':Hp}{h h':Heap}{a:Addr}{o:HO}
theorem cA.lt(x:cA P w H h a o):a<h.objs.size:=by
 cases o with
 | lst xs=>obtain⟨_,_,_,_,e⟩:=x;exact uA e
 | tup xs=>obtain⟨_,_,_,p⟩:=x;exact p.lt
 | dK kvs=>obtain⟨_,_,_,_,o,_,_,e,_⟩:=x;exact uA e
 | dT kvs=>obtain⟨_,_,_,_,o,_,_,e,_⟩:=x;exact uA e
 | set S n=>obtain⟨o,_,_,_,e,_⟩:=x;exact uA e
 | ins C dx fs=>obtain⟨_,_,_,e,_⟩:=x;exact uA e
 | own y=>obtain⟨_,e⟩:=x;exact uA e
 | xd fs=>obtain⟨_,⟨_,_,_,e,_⟩,_⟩:=x;exact uA e
 | rng lo hi=>obtain⟨_,_,_,e⟩:=x;exact uA e
 | frz ob u=>obtain⟨e,_⟩:=x;exact uA e
 | tbl ps=>exact uA (show h.get? a=some _ from x)
 | met f y=>exact uA (show h.get? a=some _ from x)
 | ext φ=>obtain⟨_,⟨_,e⟩,_⟩:=x;exact uA e
theorem Paired.ac6{α β:Type}{F G:α->β->Prop}:∀{l₁:List α} {l₂:List β},Paired F l₁ l₂->(∀a b,F a b->G a b)->Paired G l₁ l₂
 | _,_,.nil,_=>.nil
 | _,_,.cons r t,f=>.cons (f _ _ r) (Paired.ac6 t f)
theorem cA.stay(x:cA P w H h a o)(k:∀b u,(b=a\/H b=some (.own a))->h.get? b=some u->h'.get? b=some u)
  (ho:∀b,H b=some (.own a)->H' b=some (.own a)) (ht:∀b xs,H b=some (.tup xs)->H' b=some (.tup xs)):cA P w H' h' a o:=by
 induction o with
 | lst xs=>obtain⟨z,its,n,r,e⟩:=x;exact⟨z,its,n,r,k _ _ (.inl rfl) e⟩
 | tup xs=>obtain⟨z,its,r,ob,e,c⟩:=x;exact⟨z,its,r,ob,k _ _ (.inl rfl) e,c⟩
 | dK kvs=>obtain⟨z,y,vs,r,ob,es,ep,e,c⟩:=x;exact⟨z,y,vs,r,ob,es,ep,k _ _ (.inl rfl) e,c⟩
 | dT kvs =>
  obtain⟨z,y,xs,r,ob,es,ep,e,c⟩:=x;exact⟨z,y,xs,Paired.ac6 r λp q z=>⟨z.1,ht _ _ z.2.1,z.2.2⟩,ob,es,ep,k _ _ (.inl rfl) e,c⟩
 | set S n=>obtain⟨ob,es,ep,t,e,c⟩:=x;exact⟨ob,es,ep,t,k _ _ (.inl rfl) e,c⟩
 | ins C dx fs =>
  obtain⟨d,z,ne,e,mA,⟨od,es,ep,e2,c⟩,r⟩:=x;exact⟨ho _ d,z,ne,k _ _ (.inl rfl) e,mA,⟨od,es,ep,k _ _ (.inr d) e2,c⟩,r⟩
 | own y=>obtain⟨ob,e⟩:=x;exact⟨ob,k _ _ (.inl rfl) e⟩
 | xd fs=>obtain⟨mA,⟨od,es,ep,e,c⟩,r⟩:=x;exact⟨mA,⟨od,es,ep,k _ _ (.inl rfl) e,c⟩,r⟩
 | rng lo hi=>obtain⟨t,u,v,e⟩:=x;exact⟨t,u,v,k _ _ (.inl rfl) e⟩
 | frz ob u ih=>obtain⟨e,q⟩:=x;exact⟨k _ _ (.inl rfl) e,ih q⟩
 | tbl ps =>
  have e:h.get? a=some { cls:=.none,data:=.fields ps }:=x;show h'.get? a=some { cls:=.none,data:=.fields ps };exact k a _ (.inl rfl) e
 | met f y =>
  have e:h.get? a=some (W.methodObj (.ref f) (.ref y)):=x;show h'.get? a=some (W.methodObj (.ref f) (.ref y));exact k a _ (.inl rfl) e
 | ext φ=>obtain⟨p,⟨o,e⟩,st⟩:=x;exact⟨st _ _ p λo q=>k _ _ (.inl rfl) q,⟨o,k _ _ (.inl rfl) e⟩,st⟩
theorem HOk.lt(x:HOk P w H h)(e:H a=some o):a<h.objs.size:=(x a o e).lt
theorem HOk.fresh(x:HOk P w H h)(e:h.objs.size<=a):H a=none:=by
 cases q:H a with
 | none=>rfl
 | some u=>exact gL (qE (x.lt q) e) (qV _)
theorem HOk.kept(x:HOk P w H h)(k:∀b u,h.get? b=some u->h'.get? b=some u):HOk P w H h':=λa o e =>
 (x a o e).stay (λb u _ q=>k b u q) (λ_ q=>q) λ_ _ q=>q
theorem HOk.laid(x:HOk P w H h)(k:∀b u,h.get? b=some u->h'.get? b=some u)(hp:h.objs.size<=a)(new:cA P w (upd H a o) h' a o):HOk P w (upd H a o) h':=λb u e=>by
 have hn:=x.fresh hp;by_cases hb:b=a
 ·subst hb;rw[aV] at e;cases e;exact new
 ·rw[aQ hb] at e;exact(x b u e).stay (λc v _ q=>k c v q) (λc q=>by rw[aQ (aK q hn)];exact q) λc xs q=>by rw[aQ (aK q hn)];exact q
end
def Rd(H:Hp)(a:Addr)(u:HO):Prop:=H a=some u\/∃o,H a=some (.frz o u)
theorem Rd.ok{P:Program}{w:World}{H:Hp}{h:Heap}{a:Addr}{u:HO}(r:Rd H a u)(x:HOk P w H h):cA P w H h a u:=by
 rcases r with r|⟨o,r⟩
 ·exact x a u r
 ·obtain⟨_,q⟩:=x a _ r;exact q
def Mut:Option HO->Prop
 | some (.lst _)=>True
 | some (.dK _)=>True
 | some (.dT _)=>True
 | some (.set _ _)=>True
 | some (.ins _ _ _)=>True
 | some (.ext _)=>True
 | _=>False
section
variable{P:Program}{w:World}{H:Hp}{h h':Heap}{x e:Addr}{o':HO}
theorem HOk.write(ok:HOk P w H h)(mu:Mut (H x))(he:e=x\/H e=some (.own x))(k:∀b u,b≠e->h.get? b=some u->h'.get? b=some u)(heo:∃u,h'.get? e=some u)
  (new:cA P w (upd H x o') h' x o'):HOk P w (upd H x o') h':=λb u q=>by
 have ac7:∀c y,H c=some (.own y)->c≠x:=λc y r z=>by subst z;rw[r] at mu;exact mu
 have agJ:∀c xs,H c=some (.tup xs)->c≠x:=λc xs r z=>by subst z;rw[r] at mu;exact mu
 by_cases hb:b=x
 ·subst hb;rw[aV] at q;cases q;exact new
 ·rw[aQ hb] at q;by_cases hbe:b=e
  ·have q':H b=some (.own x):=by
    rcases he with z|z
    ·exact gL (hbe.trans z) hb
    ·rw[hbe];exact z
   rw[q] at q';cases q';obtain⟨v,hv⟩:=heo;exact⟨v,by rw[hbe];exact hv⟩
  ·refine(ok b u q).stay (λc v hc r=>k c v ?_ r) (λc r=>by rw[aQ (ac7 c b r)];exact r) λc xs r=>by rw[aQ (agJ c xs r)];exact r
   rcases hc with rfl|hc
   ·exact hbe
   ·rintro rfl;rcases he with z|z
    ·exact ac7 c b hc z
    ·rw[hc] at z;cases z;exact hb rfl
end
structure Un(fs ex:List Addr)(H H':Hp)(h h':Heap):Prop where
 keep:∀b o,h.get? b=some o->H b=none->b ∉ fs->b ∉ ex->h'.get? b=some o
 slot:∀b o,h.get? b=some o->H b=none->b∈fs->b ∉ ex->∃sl,h'.get? b=some { o with slots:=sl }
 free:∀b o,h.get? b=some o->H b=none->b ∉ ex->H' b=none
 there:∀b o,h.get? b=some o->b ∉ ex->∃o',h'.get? b=some o'
 tups:∀b xs,H b=some (.tup xs)->H' b=some (.tup xs)
 mj:∀b o u,H b=some (.frz o u)->H' b=some (.frz o u)
 mq:∀b ps,H b=some (.tbl ps)->∃more,H' b=some (.tbl (ps++more))
section
variable{fs ex:List Addr}{H H1 H2:Hp}{h h1 h2 h':Heap}{a x e:Addr}{o:HO}
theorem Un.any(u:Un fs ex H H1 h h1){b:Addr}{ob:Obj}(q:h.get? b=some ob)(n:H b=none)(hx:b ∉ ex):∃sl,h1.get? b=some { ob with slots:=sl }:=by
 by_cases hb:b∈fs
 ·exact u.slot b ob q n hb hx
 ·exact⟨ob.slots,u.keep b ob q n hb hx⟩
theorem Un.trans(a:Un fs ex H H1 h h1)(b:Un fs ex H1 H2 h1 h2):Un fs ex H H2 h h2 where
 keep:=λc ob q n hc hx=>b.keep c ob (a.keep c ob q n hc hx) (a.free c ob q n hx) hc hx
 slot:=λc ob q n hc hx=>by
  obtain⟨sl,e1⟩:=a.slot c ob q n hc hx;obtain⟨sl',e2⟩:=b.slot c _ e1 (a.free c ob q n hx) hc hx;exact⟨sl',e2⟩
 free:=λc ob q n hx=>by
  obtain⟨o',e1⟩:=a.there c ob q hx;exact b.free c o' e1 (a.free c ob q n hx) hx
 there:=λc ob q hx=>by
  obtain⟨o',e1⟩:=a.there c ob q hx;exact b.there c o' e1 hx
 tups:=λc xs q=>b.tups c xs (a.tups c xs q)
 mj:=λc ob xs q=>b.mj c ob xs (a.mj c ob xs q)
 mq:=λc ps q=>by
  obtain⟨m1,e1⟩:=a.mq c ps q;obtain⟨m2,e2⟩:=b.mq c _ e1;exact⟨m1++m2,by rw[e2,Array.append_assoc]⟩
theorem Un.kept(k:∀b u,h.get? b=some u->h'.get? b=some u):Un fs ex H H h h' :=
 ⟨λb ob q _ _ _=>k b ob q,λb ob q _ _ _=>⟨ob.slots,k b ob q⟩,λ_ _ _ n _=>n,λb ob q _=>⟨ob,k b ob q⟩,λ_ _ q=>q,λ_ _ _ q=>q,λ_ ps q=>⟨#[],by rw[q];simp⟩⟩
theorem Un.refl:Un fs ex H H h h:=Un.kept λ_ _ q=>q
theorem Un.laid(k:∀b u,h.get? b=some u->h'.get? b=some u)(hp:h.objs.size<=a)(hn:H a=none):Un fs ex H (upd H a o) h h' where
 keep:=λb u q _ _ _=>k b u q
 slot:=λb u q _ _ _=>⟨u.slots,k b u q⟩
 free:=λb u q n _=>by rw[aQ (qS (qE (uA q) hp))];exact n
 there:=λb u q _=>⟨u,k b u q⟩
 tups:=λb xs q=>by rw[aQ (aK q hn)];exact q
 mj:=λb u xs q=>by rw[aQ (aK q hn)];exact q
 mq:=λb ps q=>⟨#[],by rw[aQ (aK q hn),q];simp⟩
theorem Un.write(mu:Mut (H x))(he:e=x\/H e=some (.own x))(k:∀b u,b≠e->h.get? b=some u->h'.get? b=some u)(heo:∃u,h'.get? e=some u):Un fs ex H (upd H x o) h h':=by
 have hx:∀b,H b=none->b≠x:=λb n z=>by subst z;rw[n] at mu;exact mu
 have hb:∀b,H b=none->b≠e:=λb n z=>by
  subst z;rcases he with r|r
  ·exact hx b n r
  ·rw[n] at r;cases r
 have hm:∀b u,H b=some u->¬ Mut (some u)->b≠x:=λb u q nm z=>by subst z;rw[q] at mu;exact nm mu
 refine⟨λb u q n _ _=>k b u (hb b n) q,λb u q n _ _=>⟨u.slots,k b u (hb b n) q⟩,λb u q n _=>by rw[aQ (hx b n)];exact n,λb u q _=>?_,
  λb xs q=>by rw[aQ (hm b _ q λz=>z)];exact q,λb u xs q=>by rw[aQ (hm b _ q λz=>z)];exact q,λb ps q=>⟨#[],by rw[aQ (hm b _ q λz=>z),q];simp⟩⟩
 by_cases hbe:b=e
 ·subst hbe;exact heo
 ·exact⟨u,k b u hbe q⟩
end
def trk(h:Heap)(H:Hp):List Addr:=(List.range h.objs.size).filter λa=>(H a).isSome
def xQ(h:Heap)(H:Hp):Heap:=W.hideAll h (trk h H)
theorem Og(h:Heap)(H:Hp):(xQ h H).objs.size=h.objs.size:=W.hideAll_size _ _
theorem Dy{h:Heap}{H:Hp}{b:Addr}{o:Obj}(e:h.get? b=some o)(n:H b=none):(xQ h H).get? b=some o :=
 W.hideAll_get _ e λhm=>by
  have q:(H b).isSome=true:=(List.mem_filter.mp hm).2;rw[n] at q;simp at q
theorem Ww{h:Heap}{H:Hp}{b:Addr}{o:Obj}(e:(xQ h H).get? b=some o):h.get? b=some o/\H b=none:=by
 have e':h.get? b=some o:=W.of_hideAll (trk h H) e;refine⟨e',?_⟩;cases q:H b with
 | none=>rfl
 | some x =>
  have hm:b∈trk h H:=List.mem_filter.mpr ⟨List.mem_range.mpr (Heap.lt_size e'),by simp[q]⟩;have z:(xQ h H).get? b=none:=W.hideAll_none (trk h H) hm;rw[z] at e;cases e
structure Mod(K:W.Frag)(mg:xC)(base:Heap):Prop where
 kin:K.In base
 glob:base.Ns mainGlobals mg
 blt:∃mb,base.Ns builtinsNs mb/\∀x:Str,x ≠ "__name__" -> mb x=bootBuiltins x
 nolimit:base.NoLimit
/-- the context: a def's body (or a comprehension's block) running. base: fixed through the whole law; s₀, H₀: the entry; outer: the frames whose slots others may change (a def's callers); stack: all frames that run;
   ex: iterators that were made ahead of the entry and are walked here (a comprehension's);fn: the names whose cells were made at the entry (a def: all;a comprehension's block: its own);calm: not within an except suite;pn: pins that every state bears;xe: what is wanted of an exception that leaves the code -/
structure Cx where
 prog:Program
 w:World
 K:W.Frag
 mg:Str->Option Value
 base:Heap
 A:Around
 N:List Str
 s₀:Shared
 H₀:Hp
 env:Env
 outer:List Env
 stack:List Env
 ex:List Addr
 fn:Str->Bool
 calm:Bool
 pn:List (Addr×Obj)
 xe:Value->Shared->Prop
def frs(l:List Env):List Addr:=l.filterMap (·.frame)
abbrev Cx.fs(X:Cx):List Addr:=frs X.outer
def Vis(sc:Scope)(x:Str):Prop:=sc.names.lookup x=some .local\/sc.names.lookup x=some .cell\/sc.names.lookup x=some .free
def Loc(sc:Scope)(x:Str):Prop:=sc.names.lookup x=some .local\/sc.names.lookup x=some .cell
def Look(env:Env)(h:Heap)(m:xC)(x:Str)(u:Value):Prop :=
 (env.kindOf x=some .local/\m x=some u)\/((env.kindOf x=some .cell\/env.kindOf x=some .free)/\∃c,env.cells.lookup x=some c/\h.IsCell c (some u))
structure Cx.Ok(X:Cx):Prop where
 mod:Mod X.K X.mg X.base
 kind:X.env.scope.kind=.function
 glob:X.env.globals=mainGlobals
 blt:X.env.builtins=builtinsNs
 above:X.s₀.heap.objs.size<=X.env.locals
 inj:∀x y c,X.env.cells.lookup x=some c->X.env.cells.lookup y=some c->x=y
 has:∀x,(X.env.kindOf x=some .cell\/X.env.kindOf x=some .free)->∃c,X.env.cells.lookup x=some c
 cab:∀x c,X.fn x=true->X.env.cells.lookup x=some c->X.s₀.heap.objs.size<=c
 hd:X.calm=true->X.A.handled=none
 frames:X.A.frames=some X.stack
 stk:X.stack=X.outer\/(X.stack=X.env::X.outer/\X.env.frame=some X.env.locals)
 exf:∀b∈X.ex,b≠X.env.locals/\∀x c,X.env.cells.lookup x=some c->c≠b
 bs:∀b o,X.base.get? b=some o->X.s₀.heap.get? b=some o/\X.H₀ b=none
 bsz:X.base.objs.size<=X.s₀.heap.objs.size
 BK:∀b o,X.base.get? b=some o->b ∉ X.ex
 Dz:∀b∈X.ex,b ∉ X.fs
 mz:X.s₀.heap.FunFrames X.base X.outer
 frf:∀b∈X.fs,X.H₀ b=none
structure Inv(X:Cx)(pins:List (Addr×Obj))(σ:List (Option V))(H:Hp)(s:Shared):Prop where
 ok:X.Ok
 os:s.os=X.s₀.os
 bare:AllBare s.gens
 base:Un X.fs X.ex X.H₀ H X.s₀.heap s.heap
 loc:∃m,s.heap.Ns X.env.locals m/\∀(i:Nat)(x:Str)(v:V),X.N[i]?=some x->σ[i]?=some (some v)->Vis X.env.scope x->∃u,RelV v u/\Look X.env s.heap m x u
 cell:∀x c,X.env.cells.lookup x=some c->∃v,s.heap.IsCell c v
 free:H X.env.locals=none
 gP:∀x c,X.env.cells.lookup x=some c->H c=none
 pin:∀p∈X.pn++pins,s.heap.get? p.1=some p.2/\H p.1=none/\p.1≠X.env.locals/\p.1 ∉ X.fs/\∀v,p.2.data≠.cell v
 hok:HOk X.prog X.w H s.heap
 len:σ.length=X.N.length
section
variable{X:Cx}{pins:List (Addr×Obj)}{σ:List (Option V)}{H H':Hp}{s:Shared}{h':Heap}
theorem Cx.Ok.agK(ok:X.Ok){b:Addr}{o:Obj}(e:X.base.get? b=some o):b ∉ X.fs:=λhb=>by
 have:=(ok.mz.mem hb).1;rw[e] at this;cases this
theorem Inv.bs(I:Inv X pins σ H s):∀b o,X.base.get? b=some o->s.heap.get? b=some o/\H b=none:=λb o e =>
 ⟨I.base.keep b o (I.ok.bs b o e).1 (I.ok.bs b o e).2 (I.ok.agK e) (I.ok.BK b o e),I.base.free b o (I.ok.bs b o e).1 (I.ok.bs b o e).2 (I.ok.BK b o e)⟩
theorem Inv.bk(I:Inv X pins σ H s):∀b o,X.base.get? b=some o->s.heap.get? b=some o:=λb o e=>(I.bs b o e).1
theorem Inv.mod(I:Inv X pins σ H s):Mod X.K X.mg X.base:=I.ok.mod
theorem Inv.kIn(I:Inv X pins σ H s):X.K.In s.heap:=I.ok.mod.kin.keeps I.bk
theorem Inv.lt(I:Inv X pins σ H s):X.env.locals<s.heap.objs.size:=let ⟨_,hn,_⟩:=I.loc;hn.lt
theorem Inv.sz(I:Inv X pins σ H s):X.s₀.heap.objs.size<=s.heap.objs.size:=rX I.ok.above (Nat.le_of_lt I.lt)
theorem Inv.agL(I:Inv X pins σ H s){a:Addr}(h:s.heap.objs.size<=a):a ∉ X.fs:=λhb=>by
 obtain⟨_,o,ho,_⟩:=I.ok.mz.mem hb;exact gL (qE (uA ho) (rX I.sz h)) (qV _)
theorem Inv.cne(I:Inv X pins σ H s):∀x c,X.env.cells.lookup x=some c->c≠X.env.locals:=λx c e z=>by
 obtain⟨v,o,ho,hd⟩:=I.cell x c e;obtain⟨m,⟨o',es,ep,ho',hd',_⟩,_⟩:=I.loc;rw[z,ho'] at ho;cases ho;rw[hd'] at hd;cases hd
theorem Inv.mz(I:Inv X pins σ H s):s.heap.FunFrames X.base X.outer:=by
 have all:∀(l:List Env),(∀b∈frs l,b∈X.fs)->X.s₀.heap.FunFrames X.base l->s.heap.FunFrames X.base l:=by
  intro l
  induction l with
  | nil=>intro _ _;trivial
  | cons env r ih =>
   intro hs hl;obtain⟨hk,⟨L,o,hf,hn,ho,hd⟩,hr⟩:=hl;have hL:L∈X.fs:=hs L (by unfold frs;rw[List.filterMap_cons,hf];exact List.mem_cons_self);obtain⟨sl,e⟩:=I.base.slot L o ho (I.ok.frf L hL) hL λz=>I.ok.Dz L z hL
   exact⟨hk,⟨L,_,hf,hn,e,hd⟩,ih (λb hb=>hs b (by unfold frs;rw[List.filterMap_cons,hf];exact List.mem_cons_of_mem _ hb)) hr⟩
 exact all X.outer (λ_ hb=>hb) I.ok.mz
theorem Inv.stack(I:Inv X pins σ H s):s.heap.FunFrames X.base X.stack:=by
 rcases I.ok.stk with e|⟨e,hf⟩
 ·rw[e];exact I.mz
 ·rw[e];obtain⟨m,hn,_⟩:=I.loc;refine .cons (by rw[I.ok.kind];decide) hf hn ?_ I.mz;exact Heap.get?_none_of_le (rX I.ok.bsz I.ok.above)
theorem Inv.tL(I:Inv X pins σ H s):∀b∈frs X.stack,b∈X.env.locals::X.fs:=λb hb=>by
 rcases I.ok.stk with e|⟨e,hf⟩
 ·rw[e] at hb;exact zD _ hb
 ·rw[e] at hb;unfold frs at hb;rw[List.filterMap_cons,hf] at hb;exact hb
theorem Inv.nW(I:Inv X pins σ H s):∀b∈frs X.stack,H b=none:=λb hb=>by
 rcases vT.mp (I.tL b hb) with e|hb
 ·rw[e];exact I.free
 ·obtain⟨_,o,ho,_⟩:=I.ok.mz.mem hb;exact I.base.free b o ho (I.ok.frf b hb) λz=>I.ok.Dz b z hb
theorem Inv.step{g':Array GenState}{t':Nat}{d':Drawn}{ch:List Addr}(I:Inv X pins σ H s)
  (hch:∀b∈ch,(b∈X.ex\/X.s₀.heap.objs.size<=b)/\b≠X.env.locals/\(∀x c,X.env.cells.lookup x=some c->c≠b)/\∀p∈X.pn++pins,p.1≠b)
  (keep:∀b o,b≠X.env.locals->b ∉ X.fs->b ∉ ch->s.heap.get? b=some o->H b=none->h'.get? b=some o)
  (slot:∀b o,b≠X.env.locals->b∈X.fs->b ∉ ch->s.heap.get? b=some o->H b=none->∃sl,h'.get? b=some { o with slots:=sl }) (free:∀b o,b ∉ ch->s.heap.get? b=some o->H b=none->H' b=none)
  (there:∀b o,b ∉ ch->s.heap.get? b=some o->∃o',h'.get? b=some o')
  (tups:∀b xs,H b=some (.tup xs)->H' b=some (.tup xs)) (mj:∀b o u,H b=some (.frz o u)->H' b=some (.frz o u)) (mq:∀b ps,H b=some (.tbl ps)->∃more,H' b=some (.tbl (ps++more)))
  (ns:∀m,s.heap.Ns X.env.locals m->h'.Ns X.env.locals m) (hok:HOk X.prog X.w H' h') (hg:AllBare g') :
  Inv X pins σ H' { s with heap:=h',gens:=g',drawn:=d',toks:=t' }:=by
 have neL:∀b o,X.s₀.heap.get? b=some o->b≠X.env.locals:=λb o e=>qS (qE (uA e) I.ok.above)
 have neC:∀b o,X.s₀.heap.get? b=some o->b ∉ X.ex->b ∉ ch:=λb o e hx hb=>by
  rcases(hch b hb).1 with z|z
  ·exact hx z
  ·exact gL (qE (uA e) z) (qV _)
 have cellK:∀x c,X.env.cells.lookup x=some c->∀v,s.heap.IsCell c v->h'.IsCell c v:=λx c e v ⟨o,ho,hd⟩=>by
  have nch:c ∉ ch:=λz=>(hch c z).2.2.1 x c e rfl
  by_cases hc:c∈X.fs
  ·obtain⟨sl,q⟩:=slot c o (I.cne x c e) hc nch ho (I.gP x c e);exact⟨_,q,hd⟩
  ·exact⟨o,keep c o (I.cne x c e) hc nch ho (I.gP x c e),hd⟩
 refine⟨I.ok,I.os,hg,⟨λb o e n hb hx=>?_,λb o e n hb hx=>?_,λb o e n hx=>?_,λb o e hx=>?_,λb xs e=>tups b xs (I.base.tups b xs e),λb o xs e=>mj b o xs (I.base.mj b o xs e),λb ps e=>?_⟩,?_,λx c e=>?_,?_,λx c e=>?_,λp hp=>?_,hok,I.len⟩
 ·exact keep b o (neL b o e) hb (neC b o e hx) (I.base.keep b o e n hb hx) (I.base.free b o e n hx)
 ·obtain⟨sl,e1⟩:=I.base.slot b o e n hb hx;obtain⟨sl',e2⟩:=slot b _ (neL b o e) hb (neC b o e hx) e1 (I.base.free b o e n hx);exact⟨sl',e2⟩
 ·obtain⟨o',e1⟩:=I.base.there b o e hx;exact free b o' (neC b o e hx) e1 (I.base.free b o e n hx)
 ·obtain⟨o',e1⟩:=I.base.there b o e hx;exact there b o' (neC b o e hx) e1
 ·obtain⟨m1,e1⟩:=I.base.mq b ps e;obtain⟨m2,e2⟩:=mq b _ e1;exact⟨m1++m2,by rw[e2,Array.append_assoc]⟩
 ·obtain⟨m,hn,hl⟩:=I.loc;refine⟨m,ns m hn,λi x v e1 e2 e3=>?_⟩;obtain⟨u,r,l⟩:=hl i x v e1 e2 e3;refine⟨u,r,?_⟩;rcases l with l|⟨k,c,e,z⟩
  ·exact .inl l
  ·exact .inr ⟨k,c,e,cellK x c e _ z⟩
 ·obtain⟨v,z⟩:=I.cell x c e;exact⟨v,cellK x c e v z⟩
 ·obtain⟨m,⟨o,_,_,ho,_⟩,_⟩:=I.loc;exact free _ o (λz=>(hch _ z).2.1 rfl) ho I.free
 ·obtain⟨v,o,ho,hd⟩:=I.cell x c e;exact free c o (λz=>(hch c z).2.2.1 x c e rfl) ho (I.gP x c e)
 ·obtain⟨e,n,ne,nf,d⟩:=I.pin p hp;have nch:p.1 ∉ ch:=λz=>(hch p.1 z).2.2.2 p hp rfl
  exact⟨keep p.1 p.2 ne nf nch e n,free p.1 p.2 nch e n,ne,nf,d⟩
theorem Inv.un{t':Nat}(I:Inv X pins σ H s)(u:Un X.fs [] H H' s.heap h')(hok:HOk X.prog X.w H' h'):Inv X pins σ H' { s with heap:=h',toks:=t' }:=by
 obtain⟨m,⟨o,es,ep,ho,r⟩,_⟩:=id I.loc;obtain⟨sl,hL⟩:=u.any ho I.free (by simp);exact I.step (g':=s.gens) (d':=s.drawn) (ch:=[]) (λ_ z=>nomatch z) (λb o _ hb _ e n=>u.keep b o e n hb (by simp)) (λb o _ hb _ e n=>u.slot b o e n hb (by simp)) (λb o _ e n=>u.free b o e n (by simp)) (λb o _ e=>u.there b o e (by simp)) u.tups u.mj u.mq (λm' hm=>by
  obtain⟨o',es',ep',ho',r'⟩:=hm;rw[ho] at ho';cases ho';exact⟨_,es',ep',hL,r'⟩) hok I.bare
theorem Inv.call{g':Array GenState}{t':Nat}{d':Drawn}{ch:List Addr}(I:Inv X pins σ H s)(u:Un (frs X.stack) ch H H' s.heap h')(hok:HOk X.prog X.w H' h')(hg:AllBare g')
  (hch:∀b∈ch,(b∈X.ex\/X.s₀.heap.objs.size<=b)/\b≠X.env.locals/\(∀x c,X.env.cells.lookup x=some c->c≠b)/\∀p∈X.pn++pins,p.1≠b) :
  Inv X pins σ H' { s with heap:=h',gens:=g',drawn:=d',toks:=t' }:=by
 obtain⟨m,⟨o,es,ep,ho,r⟩,_⟩:=id I.loc;obtain⟨sl,hL⟩:=u.any ho I.free λz=>(hch _ z).2.1 rfl
 exact I.step (ch:=ch) hch (λb o hL hb hc e n=>u.keep b o e n (λz=>(vT.mp (I.tL b z)).elim hL hb) hc) (λb o _ _ hc e n=>u.any e n hc) (λb o hc e n=>u.free b o e n hc) (λb o hc e=>u.there b o e hc) u.tups u.mj u.mq (λm' hm=>by
  obtain⟨o',es',ep',ho',r'⟩:=hm;rw[ho] at ho';cases ho';exact⟨_,es',ep',hL,r'⟩) hok hg
theorem Inv.turned{t':Nat}{it:Addr}(I:Inv X pins σ H s)(k:∀b o,b≠it->s.heap.get? b=some o->h'.get? b=some o)(hn:H it=none)(hL:it≠X.env.locals)
  (h1:it∈X.ex\/X.s₀.heap.objs.size<=it) (h2:∀x c,X.env.cells.lookup x=some c->c≠it) (h3:∀p∈X.pn++pins,p.1≠it):Inv X pins σ H { s with heap:=h',toks:=t' }:=by
 have nit:∀b u,H b=some u->b≠it:=λb u e z=>by rw[z,hn] at e;cases e
 refine I.step (g':=s.gens) (d':=s.drawn) (ch:=[it]) (λb hb=>?_) (λb o _ _ hc e _=>k b o (λz=>hc (by simp[z])) e) (λb o _ _ hc e _=>⟨o.slots,k b o (λz=>hc (by simp[z])) e⟩) (λ_ _ _ _ n=>n)
  (λb o hc e=>⟨o,k b o (λz=>hc (by simp[z])) e⟩) (λ_ _ e=>e) (λ_ _ _ e=>e) (λb ps e=>⟨#[],by rw[e];simp⟩) (λm hm=>?_) (λb u e=>?_) I.bare
 ·have e:b=it:=by simpa using hb
  subst e;exact⟨h1,hL,h2,h3⟩
 ·obtain⟨o,es,ep,ho,r⟩:=hm;exact⟨o,es,ep,k _ o (Ne.symm hL) ho,r⟩
 ·refine(I.hok b u e).stay (λc v hc q=>k c v ?_ q) (λ_ q=>q) λ_ _ q=>q
  rcases hc with z|z
  ·rw[z];exact nit b u e
  ·exact nit c _ z
theorem Inv.tok(I:Inv X pins σ H s)(t:Nat):Inv X pins σ H { s with toks:=t }:=I.un (h':=s.heap) (t':=t) Un.refl I.hok
theorem Inv.kept{t':Nat}(I:Inv X pins σ H s)(k:∀b u,s.heap.get? b=some u->h'.get? b=some u):Inv X pins σ H { s with heap:=h',toks:=t' }:=I.un (Un.kept k) (I.hok.kept k)
theorem Inv.laid{a:Addr}{o:HO}{t':Nat}(I:Inv X pins σ H s)(k:∀b u,s.heap.get? b=some u->h'.get? b=some u)(hp:s.heap.objs.size<=a)(new:cA X.prog X.w (upd H a o) h' a o) :
  Inv X pins σ (upd H a o) { s with heap:=h',toks:=t' }:=I.un (Un.laid k hp (I.hok.fresh hp)) (I.hok.laid k hp new)
theorem Inv.write{x e:Addr}{o:HO}{t':Nat}(I:Inv X pins σ H s)(mu:Mut (H x))(he:e=x\/H e=some (.own x))(k:∀b u,b≠e->s.heap.get? b=some u->h'.get? b=some u)(heo:∃u,h'.get? e=some u)
  (new:cA X.prog X.w (upd H x o) h' x o):Inv X pins σ (upd H x o) { s with heap:=h',toks:=t' }:=I.un (Un.write mu he k heo) (I.hok.write mu he k heo new)
theorem Inv.Kz{mD:List (Addr×Obj)}(I:Inv X pins σ H s)(h:∀p∈mD,s.heap.get? p.1=some p.2/\H p.1=none/\p.1≠X.env.locals/\p.1 ∉ X.fs/\∀v,p.2.data≠.cell v):Inv X mD σ H s :=
 ⟨I.ok,I.os,I.bare,I.base,I.loc,I.cell,I.free,I.gP,λp hp=>(wS.mp hp).elim (λz=>I.pin p (mE _ z)) (h p),I.hok,I.len⟩
theorem DG{N:List Str}(hN:N.Nodup){i j:Nat}{x:Str}(a:N[i]?=some x)(b:N[j]?=some x):i=j:=by
 obtain⟨h1,e1⟩:=qA.mp a;obtain⟨h2,e2⟩:=qA.mp b;exact(List.getElem_inj hN).mp (e1.trans e2.symm)
theorem yh{M:Model}{A:Around}{E:xB}{i:Nat}{x:Str}{v:V}{u:Value}{Q:xA}(I:Inv X pins σ H s)(hN:X.N.Nodup)(hi:X.N[i]?=some x)(hx:Loc X.env.scope x)(r:RelV v u)
  (h:∀s',Inv X pins (σ.set i (some v)) H s'->(∃a,Heap.SameBut a s.heap s'.heap/\(a=X.env.locals\/X.env.cells.lookup x=some a))->Q () s') (hf:X.fn x=true\/X.env.scope.names.lookup x=some .local:=by first|exact .inl rfl|exact .inr rfl|assumption):wpAny M A (storeName X.env x u) Q E s:=by
 obtain⟨m,hn,hl⟩:=id I.loc;have hcls:(X.env.scope.kind==.class || (X.env.scope.kind==.module && X.env.locals != X.env.globals))=false:=by rw[I.ok.kind];rfl
 have hiσ:i<σ.length:=by rw[I.len];exact(qA.mp hi).1
 have cne:=I.cne;have tracked:∀{a:Addr} {h':Heap},(∃o,s.heap.get? a=some o/\H a=none)->Heap.SameBut a s.heap h'->HOk X.prog X.w H h':=λ{a h'} ha hs b ob e=>by
  obtain⟨_,_,hfree⟩:=ha;refine(I.hok b ob e).stay (λc w' hc q=>(hs.2 c ?_).trans q) (λ_ q=>q) λ_ _ q=>q
  rintro rfl;rcases hc with rfl|hc
  ·rw[hfree] at e;cases e
  ·rw[hfree] at hc;cases hc
 rcases hx with hk|hk
 ·refine wpAny_storeName_local hk hn (λh' hn' hs=>?_) hcls;obtain⟨oL,_,_,hoL,_⟩:=id hn;refine h _ ⟨I.ok,I.os,I.bare,⟨λb o e n hb hx=>?_,λb o e n hb hx=>?_,I.base.free,λb o e hx=>?_,I.base.tups,I.base.mj,I.base.mq⟩,⟨_,hn',λj y v' e1 e2 e3=>?_⟩,λy c e=>?_,I.free,I.gP,λp hp=>?_,tracked ⟨oL,hoL,I.free⟩ hs,by simpa using I.len⟩ ⟨_,hs,.inl rfl⟩
  ·exact(hs.2 b (qS (qE (uA e) I.ok.above))).trans (I.base.keep b o e n hb hx)
  ·obtain⟨sl,e1⟩:=I.base.slot b o e n hb hx;exact⟨sl,(hs.2 b (qS (qE (uA e) I.ok.above))).trans e1⟩
  ·obtain⟨o',e1⟩:=I.base.there b o e hx;exact⟨o',(hs.2 b (qS (qE (uA e) I.ok.above))).trans e1⟩
  ·by_cases hj:j=i
   ·subst hj;rw[hi] at e1;cases e1;rw[List.getElem?_set_self hiσ] at e2;cases e2;exact⟨u,r,.inl ⟨hk,by simp⟩⟩
   ·rw[List.getElem?_set_ne (Ne.symm hj)] at e2;obtain⟨u',r',q⟩:=hl j y v' e1 e2 e3;refine⟨u',r',?_⟩;rcases q with⟨k,e⟩|⟨k,c,e,z⟩
    ·refine .inl ⟨k,?_⟩;have:y≠x:=λe=>hj (DG hN e1 (e▸hi))
     simp[this,e]
    ·exact .inr ⟨k,c,e,z.sameBut hs (cne y c e)⟩
  ·obtain⟨w',z⟩:=I.cell y c e;exact⟨w',z.sameBut hs (cne y c e)⟩
  ·obtain⟨e,n,ne,nf,d⟩:=I.pin p hp;exact⟨(hs.2 p.1 ne).trans e,n,ne,nf,d⟩
 ·have hfn:X.fn x=true:=by
   rcases hf with z|z
   ·exact z
   ·rw[z] at hk;cases hk
  obtain⟨c,hc⟩:=I.ok.has x (.inl hk);obtain⟨w',z⟩:=I.cell x c hc;refine wpAny_storeName_cell I.ok.kind hk hc z (λh' hc' hs=>?_);obtain⟨oc,hoc,agM⟩:=id z;refine h { s with heap:=h' } ⟨I.ok,I.os,I.bare,⟨λb o e n hb hx=>?_,λb o e n hb hx=>?_,I.base.free,λb o e hx=>?_,I.base.tups,I.base.mj,I.base.mq⟩,⟨m,hn.sameBut hs (Ne.symm (cne x c hc)),λj y v' e1 e2 e3=>?_⟩,λy c' e=>?_,I.free,I.gP,λp hp=>?_,tracked ⟨oc,hoc,I.gP x c hc⟩ hs,by simpa using I.len⟩ ⟨c,hs,.inr hc⟩
  ·exact(hs.2 b (qS (qE (uA e) (I.ok.cab x c hfn hc)))).trans (I.base.keep b o e n hb hx)
  ·obtain⟨sl,e1⟩:=I.base.slot b o e n hb hx;exact⟨sl,(hs.2 b (qS (qE (uA e) (I.ok.cab x c hfn hc)))).trans e1⟩
  ·obtain⟨o',e1⟩:=I.base.there b o e hx;exact⟨o',(hs.2 b (qS (qE (uA e) (I.ok.cab x c hfn hc)))).trans e1⟩
  ·by_cases hj:j=i
   ·subst hj;rw[hi] at e1;cases e1;rw[List.getElem?_set_self hiσ] at e2;cases e2;exact⟨u,r,.inr ⟨.inl hk,c,hc,hc'⟩⟩
   ·rw[List.getElem?_set_ne (Ne.symm hj)] at e2;obtain⟨u',r',q⟩:=hl j y v' e1 e2 e3;refine⟨u',r',?_⟩;rcases q with q|⟨k,c',e,z'⟩
    ·exact .inl q
    ·refine .inr ⟨k,c',e,z'.sameBut hs ?_⟩;rintro rfl;exact hj (DG hN e1 (I.ok.inj _ _ _ e hc▸hi))
  ·by_cases hcc:c'=c
   ·subst hcc;exact⟨_,hc'⟩
   ·obtain⟨w2,z2⟩:=I.cell y c' e;exact⟨w2,z2.sameBut hs hcc⟩
  ·obtain⟨e,n,ne,nf,d⟩:=I.pin p hp;refine⟨(hs.2 p.1 ?_).trans e,n,ne,nf,d⟩;intro q;rw[q,hoc] at e;have q':oc=p.2:=nI e;exact d w' (by rw[<- q'];exact agM)
theorem tM{M:Model}{A:Around}{E:xB}{i:Nat}{x:Str}{v:V}{u:Value}{Q:xA}(I:Inv X pins σ H s)(hN:X.N.Nodup)(hi:X.N[i]?=some x)(hx:Loc X.env.scope x)(r:RelV v u)
  (h:∀s',Inv X pins (σ.set i (some v)) H s'->Q () s') (hf:X.fn x=true\/X.env.scope.names.lookup x=some .local:=by first|exact .inl rfl|exact .inr rfl|assumption):wpAny M A (storeName X.env x u) Q E s :=
 yh I hN hi hx r (λs' I' _=>h s' I') hf
theorem Inv.call'{s':Shared}{ch:List Addr}(I:Inv X pins σ H s)(ho:s'.os=s.os)(u:Un (frs X.stack) ch H H' s.heap s'.heap)(hok:HOk X.prog X.w H' s'.heap)(hg:AllBare s'.gens)
  (hch:∀b∈ch,(b∈X.ex\/X.s₀.heap.objs.size<=b)/\b≠X.env.locals/\(∀x c,X.env.cells.lookup x=some c->c≠b)/\∀p∈X.pn++pins,p.1≠b):Inv X pins σ H' s':=by
 obtain⟨h',g',d',t',o'⟩:=s';have e:o'=s.os:=ho;subst e;exact I.call (g':=g') (t':=t') (d':=d') u hok hg hch
end
abbrev XK:=Value->Option Addr->Hp->Prop
abbrev St:=List (Option V)
abbrev VK:=V->Hp->Prop
abbrev TE:=St->Hp->VK->Prop
abbrev TT:=St->Hp->(Bool->Hp->Prop)->Prop
abbrev TA:=St->Hp->(List V->Hp->Prop)->Prop
structure Ends where
 nx:St->Hp->Prop
 rt:VK
 bk:St->Hp->Prop:=λ_ _=>False
 ct:St->Hp->Prop:=λ_ _=>False
abbrev TS:=Ends->St->Hp->Prop
def EP(X:Cx)(pins:List (Addr×Obj))(σ:St)(Q:VK)(u:Value)(s':Shared):Prop:=∃v H',Inv X pins σ H' s'/\RelV v u/\Q v H'
def TP(X:Cx)(pins:List (Addr×Obj))(σ:St)(Q:Bool->Hp->Prop)(b:Bool)(s':Shared):Prop:=∃H',Inv X pins σ H' s'/\Q b H'
def AP(X:Cx)(pins:List (Addr×Obj))(σ:St)(Q:List V->Hp->Prop)(us:xE)(s':Shared):Prop:=∃vs H',Inv X pins σ H' s'/\Vals vs us/\Q vs H'
def SP(X:Cx)(pins:List (Addr×Obj))(D:Ends)(f:Flow)(s':Shared):Prop :=
 match f with
 | .next=>∃σ' H',Inv X pins σ' H' s'/\D.nx σ' H'
 | .brk=>∃σ' H',Inv X pins σ' H' s'/\D.bk σ' H'
 | .cont=>∃σ' H',Inv X pins σ' H' s'/\D.ct σ' H'
 | .ret u=>∃v σ' H',Inv X pins σ' H' s'/\RelV v u/\D.rt v H'
def PE(X:Cx)(e:Expr)(t:TE):Prop :=
 ∀(pins:List (Addr×Obj)) (s:Shared) (σ:St) (H:Hp) (Q:VK),Inv X pins σ H s->t σ H Q->wpAny (model X.prog X.w) X.A (eval e X.env) (EP X pins σ Q) X.xe s
def PT(X:Cx)(e:Expr)(t:TT):Prop :=
 ∀(pins:List (Addr×Obj)) (s:Shared) (σ:St) (H:Hp) (Q:Bool->Hp->Prop),Inv X pins σ H s->t σ H Q->wpAny (model X.prog X.w) X.A (isTrue e X.env (eval e X.env)) (TP X pins σ Q) X.xe s
def PW(X:Cx)(e:Expr)(t:TT):Prop :=
 ∀(whole:Sem Value) (pins:List (Addr×Obj)) (s:Shared) (σ:St) (H:Hp) (Q:Bool->Hp->Prop),Inv X pins σ H s->t σ H Q->wpAny (model X.prog X.w) X.A (isTrue e X.env whole) (TP X pins σ Q) X.xe s
theorem PW.pt{X:Cx}{e:Expr}{t:TT}(h:PW X e t):PT X e t:=h _
def PA(X:Cx)(es:List Expr)(t:TA):Prop :=
 ∀(pos:Pos) (pins:List (Addr×Obj)) (s:Shared) (σ:St) (H:Hp) (Q:List V->Hp->Prop),Inv X pins σ H s->t σ H Q->wpAny (model X.prog X.w) X.A (spliced (backTo pos (starEach es X.env))) (AP X pins σ Q) X.xe s
def PS(X:Cx)(st:Stmt)(t:TS):Prop :=
 ∀(pins:List (Addr×Obj)) (s:Shared) (σ:St) (H:Hp) (D:Ends),Inv X pins σ H s->t D σ H->wpAny (model X.prog X.w) X.A (exec st X.env) (SP X pins D) X.xe s
def PSs(X:Cx)(st:List Stmt)(t:TS):Prop :=
 ∀(pins:List (Addr×Obj)) (s:Shared) (σ:St) (H:Hp) (D:Ends),Inv X pins σ H s->t D σ H->wpAny (model X.prog X.w) X.A (execs st X.env) (SP X pins D) X.xe s
theorem thn{α:Type}{t:Sem α}{Q Q':α->Shared->Prop}{M:Model}{A:Around}{E:xB}{s:Shared}(h:wpAny M A t Q E s)(hQ:∀a s,Q a s->Q' a s):wpAny M A t Q' E s:=mB h hQ λ_ _ x=>x
section
variable{X:Cx}
def dM(i:Nat):TE:=λσ H Q=>∃v,σ[i]?=some (some v)/\Q v H
def tC(v:V):TE:=λ_ H Q=>Q v H
theorem ZC{i:Nat}{x:Str}{pos:Pos}(hN:X.N[i]?=some x)(hv:Vis X.env.scope x)(hd:(x==("__debug__" : Str))=false:=by decide)(hcd:(x==("__classdict__" : Str))=false:=by decide):PE X (.Name x pos) (dM i):=by
 intro pins s σ H Q I h;obtain⟨v,e,h⟩:=h;obtain⟨m,hn,hl⟩:=I.loc;obtain⟨u,r,l⟩:=hl i x v hN e hv;have fin:EP X pins σ Q u s:=⟨v,H,I,r,h⟩;rcases l with⟨hk,hm⟩|⟨hk,c,hc,hcell⟩
 ·exact wpAny_Name (wpAny_loadName_local I.ok.kind hk hn hm fin) hd
 ·rcases hk with hk|hk
  ·exact wpAny_Name (wpAny_loadName_cell I.ok.kind hk hc hcell fin) hd
  ·exact wpAny_Name (wpAny_loadName_free I.ok.kind hk hc hcell fin hcd) hd
theorem au{i j pos}:PE X (.Constant (.int i) j pos) (tC (.int i)):=λ_ _ _ H _ I h=>wpAny_Constant_int ⟨.int i,H,I.tok _,⟨_,rfl⟩,h⟩
theorem fV{b j pos}:PE X (.Constant (.bool b) j pos) (tC (.bl b)):=λ_ _ _ H _ I h=>Constant_bool ⟨.bl b,H,I,rfl,h⟩
theorem cZ{j pos}:PE X (.Constant .none j pos) (tC .non):=λ_ _ _ H _ I h=>Constant_none ⟨.non,H,I,rfl,h⟩
theorem jz{x j pos}:PE X (.Constant (.str x) j pos) (tC (.str x)):=λ_ _ _ H _ I h=>Calls.Constant_str ⟨.str x,H,I.tok _,⟨_,rfl⟩,h⟩
def Gl(X:Cx)(x:Str):Prop:=X.env.kindOf x=some .globalImplicit
theorem jA{E:xB}{pins:List (Addr×Obj)}{s:Shared}{σ:St}{H:Hp}{x:Str}{u:Value}{pos:Pos}{Q:xB}(I:Inv X pins σ H s)(hg:Gl X x)(hm:X.mg x=some u)(h:Q u s)
  (hd:(x==("__debug__" : Str))=false:=by decide):wpAny (model X.prog X.w) X.A (eval (.Name x pos) X.env) Q E s :=
 Calls.Name_function_global I.ok.kind hg (Calls.loadGlobal_global (by rw[I.ok.glob];exact I.mod.glob.keeps I.bk) hm h) hd
theorem iy{E:xB}{pins:List (Addr×Obj)}{s:Shared}{σ:St}{H:Hp}{x:Str}{u:Value}{pos:Pos}{Q:xB}(I:Inv X pins σ H s)(hg:Gl X x)(hm:X.mg x=none)(hv:bootBuiltins x=some u)(h:Q u s)
  (hn:x ≠ "__name__":=by decide) (hd:(x==("__debug__" : Str))=false:=by decide):wpAny (model X.prog X.w) X.A (eval (.Name x pos) X.env) Q E s:=by
 obtain⟨mb,h1,h2⟩:=I.mod.blt;exact Calls.Name_function_global I.ok.kind hg (Calls.loadGlobal_builtin (by rw[I.ok.glob];exact I.mod.glob.keeps I.bk) hm (by rw[I.ok.blt];exact h1.keeps I.bk) ((h2 x hn).trans hv) h) hd
theorem Wx{x:Str}{v:V}{u:Value}{pos:Pos}(hg:Gl X x)(hm:X.mg x=some u)(r:RelV v u)(hd:(x==("__debug__" : Str))=false:=by decide):PE X (.Name x pos) (tC v) :=
 λ_ _ _ H _ I h=>jA I hg hm ⟨v,H,I,r,h⟩ hd
theorem Wy{x:Str}{v:V}{u:Value}{pos:Pos}(hg:Gl X x)(hm:X.mg x=none)(hv:bootBuiltins x=some u)(r:RelV v u)(hn:x ≠ "__name__":=by decide)(hd:(x==("__debug__" : Str))=false:=by decide):PE X (.Name x pos) (tC v) :=
 λ_ _ _ H _ I h=>iy I hg hm hv ⟨v,H,I,r,h⟩ hn hd
variable{a b:Expr}{ta tb:TE}{pos:Pos}
def tB(t:TE):TT:=λσ H Q=>t σ H λx H1=>∃c,x=.bl c/\Q c H1
theorem cQ{e:Expr}{t:TE}(h:PE X e t)(he:∀whole,isTrue e X.env whole=(do let v <- whole;standAt e.pos;holding [v] (truthy v)):=by intro _;rfl):PT X e (tB t):=by
 intro pins s σ H Q I hw;refine isTrue_plain (thn (h pins s σ H _ I hw) λv s1 ⟨x,H1,I1,r1,q1⟩=>?_) (he _);obtain⟨d,rfl,q⟩:=q1;cases r1;exact wpAny_truthy_bool ⟨H1,I1,q⟩
variable{tA tB':TT}{rest:List Expr}
def ZD(t u:TT):TT:=λσ H Q=>t σ H λc H1=>if c=true then u σ H1 Q else Q false H1
def tOr(t u:TT):TT:=λσ H Q=>t σ H λc H1=>if c=true then Q true H1 else u σ H1 Q
def ZF(t:TT):TT:=λσ H Q=>t σ H λc H1=>Q (!c) H1
theorem sO(ha:PT X a tA):PW X (.BoolOp .And [a] pos) tA:=by
 intro wh pins s σ H Q I h;refine isTrue_and (thn (ha pins s σ H Q I h) λc s1 e=>?_);cases c with
 | true=>exact isTrue_and_nil e
 | false=>exact e
theorem iU(ha:PT X a tA):PW X (.BoolOp .Or [a] pos) tA:=by
 intro wh pins s σ H Q I h;refine isTrue_or (thn (ha pins s σ H Q I h) λc s1 e=>?_);cases c with
 | false=>exact isTrue_or_nil e
 | true=>exact e
theorem tO(ha:PT X a tA)(hb:PW X (.BoolOp .And (b::rest) pos) tB'):PW X (.BoolOp .And (a::b::rest) pos) (ZD tA tB'):=by
 intro wh pins s σ H Q I h;refine isTrue_and (thn (ha pins s σ H _ I h) λc s1 ⟨H1,I1,q1⟩=>?_);cases c with
 | true=>exact hb wh pins s1 σ H1 Q I1 q1
 | false=>exact⟨H1,I1,q1⟩
theorem jR(ha:PT X a tA)(hb:PW X (.BoolOp .Or (b::rest) pos) tB'):PW X (.BoolOp .Or (a::b::rest) pos) (tOr tA tB'):=by
 intro wh pins s σ H Q I h;refine isTrue_or (thn (ha pins s σ H _ I h) λc s1 ⟨H1,I1,q1⟩=>?_);cases c with
 | true=>exact⟨H1,I1,q1⟩
 | false=>exact hb wh pins s1 σ H1 Q I1 q1
theorem c7(ha:PT X a tA):PT X (.UnaryOp .Not a pos) (ZF tA):=by
 intro pins s σ H Q I h;exact isTrue_not (ha pins s σ H (λc H1=>Q (!c) H1) I h)
def Rf(ta tb:TE):TE:=λσ H Q=>ta σ H λx H1=>∃c,x=.bl c/\if c=true then tb σ H1 Q else Q (.bl false) H1
def ZG(ta tb:TE):TE:=λσ H Q=>ta σ H λx H1=>∃c,x=.bl c/\if c=true then Q (.bl true) H1 else tb σ H1 Q
def Rg(ta:TE):TE:=λσ H Q=>ta σ H λx H1=>∃c,x=.bl c/\Q (.bl (!c)) H1
theorem iV{op}{t:TE}(h:PE X a t):PE X (.BoolOp op [a] pos) t:=λpins s σ H Q I hw=>BoolOp_one (h pins s σ H Q I hw)
theorem iz(ha:PE X a ta)(hb:PE X (.BoolOp .And (b::rest) pos) tb):PE X (.BoolOp .And (a::b::rest) pos) (Rf ta tb):=by
 intro pins s σ H Q I h;refine BoolOp_and (thn (ha pins s σ H _ I h) λv s1 ⟨x,H1,I1,r1,q1⟩=>?_);obtain⟨c,rfl,q1⟩:=q1;cases r1;refine wpAny_truthy_bool ?_;cases c with
 | true=>exact hb pins s1 σ H1 Q I1 q1
 | false=>exact⟨.bl false,H1,I1,rfl,q1⟩
theorem KC(ha:PE X a ta)(hb:PE X (.BoolOp .Or (b::rest) pos) tb):PE X (.BoolOp .Or (a::b::rest) pos) (ZG ta tb):=by
 intro pins s σ H Q I h;refine BoolOp_or (thn (ha pins s σ H _ I h) λv s1 ⟨x,H1,I1,r1,q1⟩=>?_);obtain⟨c,rfl,q1⟩:=q1;cases r1;refine wpAny_truthy_bool ?_;cases c with
 | false=>exact hb pins s1 σ H1 Q I1 q1
 | true=>exact⟨.bl true,H1,I1,rfl,q1⟩
theorem Rh(ha:PE X a ta):PE X (.UnaryOp .Not a pos) (Rg ta):=by
 intro pins s σ H Q I h;refine UnaryOp_ (thn (ha pins s σ H _ I h) λv s1 ⟨x,H1,I1,r1,q1⟩=>?_);obtain⟨c,rfl,q1⟩:=q1;cases r1;exact not_of (wpAny_truthy_bool ⟨.bl (!c),H1,I1,rfl,q1⟩)
def tIf(t:TT)(ta tb:TE):TE:=λσ H Q=>t σ H λc H1=>if c=true then ta σ H1 Q else tb σ H1 Q
theorem tQ{c:Expr}(hc:PT X c tA)(ha:PE X a ta)(hb:PE X b tb):PE X (.IfExp c a b pos) (tIf tA ta tb):=by
 intro pins s σ H Q I h;refine wpAny_IfExp (thn (hc pins s σ H _ I h) λd s1 ⟨H1,I1,q1⟩=>?_);cases d with
 | true=>exact ha pins s1 σ H1 Q I1 q1
 | false=>exact hb pins s1 σ H1 Q I1 q1
end
def SqL(K:W.Frag)(H:Hp)(a:Addr)(xs:List V):Prop :=
 Rd H a (.lst xs) \/
  ∃(o:Obj)(its:xI)(n:Nat),K.lookup a=some o/\o.cls=.type "list" /\ o.dict=none/\o.data=.seq its n/\its.size<=sizeLine/\Vals xs its.toList
def SqT(K:W.Frag)(H:Hp)(a:Addr)(xs:List V):Prop :=
 Rd H a (.tup xs) \/
  ∃(o:Obj)(its:xI)(n:Nat),K.lookup a=some o/\o.cls=.type "tuple" /\ o.data=.seq its n/\its.size<=sizeLine/\Vals xs its.toList
def agN:Value->Option V
 | .none=>some .non
 | .bool b=>some (.bl b)
 | .int i _=>some (.int i)
 | .str x _=>some (.str x)
 | .bytes b _=>some (.byt b)
 | .float b _=>some (.flt b)
 | .ref a=>some (.ref a)
 | .type n=>some (.ty n)
 | _=>none
theorem RelV.abs{x:V}{u:Value}(r:RelV x u):agN u=some x:=by
 cases x with
 | non=>cases r;rfl
 | bl _=>cases r;rfl
 | int _=>obtain⟨t,rfl⟩:=r;rfl
 | str _=>obtain⟨t,rfl⟩:=r;rfl
 | byt _=>obtain⟨t,rfl⟩:=r;rfl
 | flt _=>obtain⟨t,rfl⟩:=r;rfl
 | ref _=>cases r;rfl
 | ty _=>cases r;rfl
theorem RelV.inj{x y:V}{u:Value}(r:RelV x u)(q:RelV y u):x=y:=nI (r.abs.symm.trans q.abs)
theorem Vals.inj:∀{xs ys:List V} {us:xE},Vals xs us->Vals ys us->xs=ys
 | _,_,_,.nil,.nil=>rfl
 | _,_,_,.cons r t,.cons r' t'=>by rw[r.inj r',Vals.inj t t']
section
variable{X:Cx}{pins:List (Addr×Obj)}{σ:St}{H:Hp}{s:Shared}{a:Addr}{xs ys:List V}
theorem SqL.of{K:W.Frag}(h:H a=some (.lst xs)):SqL K H a xs:=.inl (.inl h)
theorem SqT.of{K:W.Frag}(h:H a=some (.tup xs)):SqT K H a xs:=.inl (.inl h)
theorem Inv.list(I:Inv X pins σ H s)(h:SqL X.K H a xs):∃its:List Value,Vals xs its/\PlainL s.heap a its.toArray/\xs.length<=sizeLine:=by
 rcases h with h|⟨o,its,n,hk,hc,hd,hs,hz,r⟩
 ·obtain⟨z,its,n,r,e⟩:=h.ok I.hok;exact⟨its,r,⟨_,n,e,rfl,rfl,rfl⟩,z⟩
 ·refine⟨its.toList,r,⟨o,n,I.kIn a o hk,hc,hd,by simpa using hs⟩,?_⟩;have e:=r.length;simp only[Array.length_toList] at e
  lia
theorem Inv.tuple(I:Inv X pins σ H s)(h:SqT X.K H a xs):∃its:List Value,Vals xs its/\IsTup s.heap a its.toArray/\xs.length<=sizeLine:=by
 rcases h with h|⟨o,its,n,hk,hc,hs,hz,r⟩
 ·obtain⟨z,its,r,p⟩:=h.ok I.hok;exact⟨its,r,p,z⟩
 ·refine⟨its.toList,r,⟨o,I.kIn a o hk,hc,n,by simpa using hs⟩,?_⟩;have e:=r.length;simp only[Array.length_toList] at e
  lia
theorem Inv.tU(I:Inv X pins σ H s)(h:SqL X.K H a xs)(h':SqL X.K H a ys):xs=ys:=by
 obtain⟨its,r,⟨o,n,e,_,_,d⟩,_⟩:=I.list h;obtain⟨its',r',⟨o',n',e',_,_,d'⟩,_⟩:=I.list h';rw[e] at e';cases e';rw[d] at d';injection d' with d1 _
 have:its=its':=by simpa using congrArg Array.toList d1
 subst this;exact r.inj r'
theorem Inv.yj(I:Inv X pins σ H s)(h:SqT X.K H a xs)(h':SqT X.K H a ys):xs=ys:=by
 obtain⟨its,r,⟨o,e,_,n,d⟩,_⟩:=I.tuple h;obtain⟨its',r',⟨o',e',_,n',d'⟩,_⟩:=I.tuple h';rw[e] at e';cases e';rw[d] at d';injection d' with d1 _
 have:its=its':=by simpa using congrArg Array.toList d1
 subst this;exact r.inj r'
end
abbrev Cx.wish(X:Cx)(E:xB):Cx:={ X with xe:=E }
abbrev Cx.nox(X:Cx):Cx:=X.wish λ_ _=>False
theorem Cx.Ok.wish{X:Cx}(ok:X.Ok)(E:xB):(X.wish E).Ok :=
 ⟨ok.mod,ok.kind,ok.glob,ok.blt,ok.above,ok.inj,ok.has,ok.cab,ok.hd,ok.frames,ok.stk,ok.exf,ok.bs,ok.bsz,ok.BK,ok.Dz,ok.mz,ok.frf⟩
theorem Cx.Ok.f9{X:Cx}{E:xB}(ok:(X.wish E).Ok):X.Ok :=
 ⟨ok.mod,ok.kind,ok.glob,ok.blt,ok.above,ok.inj,ok.has,ok.cab,ok.hd,ok.frames,ok.stk,ok.exf,ok.bs,ok.bsz,ok.BK,ok.Dz,ok.mz,ok.frf⟩
section
variable{X:Cx}{pins:List (Addr×Obj)}{σ:St}{H:Hp}{s:Shared}{E:xB}
theorem Inv.wish(I:Inv X pins σ H s)(E:xB):Inv (X.wish E) pins σ H s:=⟨I.ok.wish E,I.os,I.bare,I.base,I.loc,I.cell,I.free,I.gP,I.pin,I.hok,I.len⟩
theorem Inv.f9(I:Inv (X.wish E) pins σ H s):Inv X pins σ H s:=⟨I.ok.f9,I.os,I.bare,I.base,I.loc,I.cell,I.free,I.gP,I.pin,I.hok,I.len⟩
theorem SP.f9{D:Ends}{f:Flow}{s':Shared}(h:SP (X.wish E) pins D f s'):SP X pins D f s':=by
 cases f with
 | next=>obtain⟨σ',H',I,q⟩:=h;exact⟨σ',H',I.f9,q⟩
 | brk=>obtain⟨σ',H',I,q⟩:=h;exact⟨σ',H',I.f9,q⟩
 | cont=>obtain⟨σ',H',I,q⟩:=h;exact⟨σ',H',I.f9,q⟩
 | ret u=>obtain⟨v,σ',H',I,r,q⟩:=h;exact⟨v,σ',H',I.f9,r,q⟩
theorem PSs.nox{st:List Stmt}{t:TS}(h:PSs X.nox st t):PSs X st t:=λpins s σ H D I hw =>
 mB (h pins s σ H D (I.wish _) hw) (λ_ _ q=>q.f9) λ_ _ z=>False.elim z
end
section
variable{X:Cx}{st:Stmt}{rest:List Stmt}{t u:TS}{e:Expr}{te:TE}{pos:Pos}
def Ri:TS:=λD σ H=>D.nx σ H
def ZJ(t u:TS):TS:=λD σ H=>t { D with nx:=u D } σ H
theorem bf:PSs X [] Ri:=λ_ _ σ H _ I h=>wpAny_execs_nil ⟨σ,H,I,h⟩
theorem aq(h1:PS X st t)(h2:PSs X rest u):PSs X (st::rest) (ZJ t u):=by
 intro pins s σ H D I h;refine wpAny_execs_cons (thn (h1 pins s σ H { D with nx:=u D } I h) λf s1 q=>?_)
 cases f with
 | next =>
  obtain⟨σ',H',I',q⟩:=q;exact h2 pins s1 σ' H' D I' q
 | ret v=>exact q
 | brk=>exact q
 | cont=>exact q
theorem aB(h1:PS X st t):PSs X [st] t:=by
 intro pins s σ H D I h;refine wpAny_execs_cons (thn (h1 pins s σ H D I h) λf s1 q=>?_);cases f with
 | next=>exact wpAny_execs_nil q
 | ret v=>exact q
 | brk=>exact q
 | cont=>exact q
theorem Inv.quiet{pins:List (Addr×Obj)}{σ:St}{H:Hp}{s:Shared}(I:Inv X pins σ H s):interactive X.env=false:=by simp[interactive,I.ok.kind]
def Rj(te:TE):TS:=λD σ H=>te σ H λ_ H1=>D.nx σ H1
theorem cg(he:PE X e te)(hs:swapsWith e none pos.line X.env=pure false:=by rfl):PS X (.Expr e pos) (Rj te):=by
 intro pins s σ H D I h;exact wpAny_Expr_any (thn (he pins s σ H _ I h) λv s1 ⟨x,H1,I1,r1,q1⟩=>⟨σ,H1,I1,q1⟩) I.quiet hs
def ZK(te:TE):TS:=λD σ H=>te σ H D.rt
theorem aL(he:PE X e te):PS X (.Return (some e) pos) (ZK te):=by
 intro pins s σ H D I h;exact wpAny_Return_some (thn (he pins s σ H _ I h) λv s1 ⟨x,H1,I1,r1,q1⟩=>⟨x,σ,H1,I1,r1,q1⟩)
def Rk(c:TT)(t u:TS):TS:=λD σ H=>c σ H λb H1=>if b=true then t D σ H1 else u D σ H1
theorem bK{c:Expr}{a b:List Stmt}{tc:TT}(hc:PT X c tc)(ha:PSs X a t)(hb:PSs X b u):PS X (.If c a b pos) (Rk tc t u):=by
 intro pins s σ H D I h;refine wpAny_If (thn (hc pins s σ H _ I h) λd s1 ⟨H1,I1,q1⟩=>?_);cases d with
 | true=>exact ha pins s1 σ H1 D I1 q1
 | false=>exact hb pins s1 σ H1 D I1 q1
def ZL:TS:=λ_ _ _=>False
theorem dw{sts:List Stmt}:PSs X sts ZL:=λ_ _ _ _ _ _ h=>h.elim
end
abbrev TG:=V->St->Hp->(St->Hp->Prop)->Prop
abbrev TGs:=List V->St->Hp->(St->Hp->Prop)->Prop
def PG(X:Cx)(target:Expr)(t:TG):Prop :=
 ∀(pins:List (Addr×Obj)) (s:Shared) (σ:St) (H:Hp) (v:V) (u:Value) (Q:St->Hp->Prop),Inv X pins σ H s->RelV v u->t v σ H Q ->
  wpAny (model X.prog X.w) X.A (assign target X.env u) (λ_ s'=>∃σ' H',Inv X pins σ' H' s'/\Q σ' H') X.xe s
def PGs(X:Cx)(ts:List Expr)(t:TGs):Prop :=
 ∀(pins:List (Addr×Obj)) (s:Shared) (σ:St) (H:Hp) (vs:List V) (us:xE) (Q:St->Hp->Prop),Inv X pins σ H s->Vals vs us->t vs σ H Q ->
  wpAny (model X.prog X.w) X.A (assignInOrder ((assignEach ts X.env).map (·.2)) us) (λ_ s'=>∃σ' H',Inv X pins σ' H' s'/\Q σ' H') X.xe s
abbrev Rm:=V->V->V->Hp->(Hp->Prop)->Prop
def ZM(X:Cx)(t:Rm):Prop :=
 ∀(pins:List (Addr×Obj)) (s:Shared) (σ:St) (H:Hp) (o i v:V) (ov iv u:Value) (Q:Hp->Prop),Inv X pins σ H s->RelV o ov->RelV i iv->RelV v u->t o i v H Q ->
  wpAny (model X.prog X.w) X.A (setItem ov iv u) (λ_ s'=>∃H',Inv X pins σ H' s'/\Q H') X.xe s
abbrev TIp:=V->V->Hp->VK->Prop
def PIp(X:Cx)(op:Operator)(t:TIp):Prop :=
 ∀(pins:List (Addr×Obj)) (s:Shared) (σ:St) (H:Hp) (x y:V) (v u:Value) (Q:VK),Inv X pins σ H s->RelV x v->RelV y u->t x y H Q ->
  wpAny (model X.prog X.w) X.A (inplaceOp op v u) (EP X pins σ Q) X.xe s
section
variable{X:Cx}{pos:Pos}
def bw(i:Nat):TG:=λv σ H Q=>Q (σ.set i (some v)) H
theorem cj{i:Nat}{x:Str}(hN:X.N.Nodup)(hi:X.N[i]?=some x)(hx:Loc X.env.scope x)(hf:X.fn x=true\/X.env.scope.names.lookup x=some .local:=by first|exact .inl rfl|exact .inr rfl|assumption):PG X (.Name x pos) (bw i):=by
 intro pins s σ H v u Q I r h;exact wpAny_assign_Name (tM I hN hi hx r (λs' I'=>⟨_,H,I',h⟩) hf)
def Il:TGs:=λvs σ H Q=>vs=[]/\Q σ H
def gF(t:TG)(u:TGs):TGs:=λvs σ H Q=>∃v r,vs=v::r/\t v σ H λσ' H'=>u r σ' H' Q
theorem fu:PGs X [] Il:=by
 intro pins s σ H vs us Q I r h;obtain⟨e,h⟩:=h;subst e;cases r;exact assignInOrder_nil ⟨σ,H,I,h⟩
theorem bL{e:Expr}{es:List Expr}{t:TG}{u:TGs}(h1:PG X e t)(h2:PGs X es u)
  (hs:(assignEach (e::es) X.env).map (·.2)=assign e X.env::(assignEach es X.env).map (·.2):=by rfl):PGs X (e::es) (gF t u):=by
 intro pins s σ H vs us Q I r h;obtain⟨v,vr,e1,h⟩:=h;subst e1;cases r with
 | cons r rr =>
  rw[hs];refine assignInOrder_cons (thn (h1 pins s σ H _ _ _ I r h) λ_ s1 ⟨σ1,H1,I1,q1⟩=>?_);exact h2 pins s1 σ1 H1 _ _ Q I1 rr q1
def DK(K:W.Frag)(n:Nat)(t:TGs):TG:=λv σ H Q=>∃a xs,v=.ref a/\SqT K H a xs/\xs.length=n/\t xs σ H Q
theorem iW{es:List Expr}{k:Nat}{t:TGs}{n:Nat}(hc:X.calm=true)(h:PGs X es t)
  (hn:(assignEach es X.env).length=n:=by rfl) (hst:(assignEach es X.env).findIdx? (·.1)=none:=by rfl):PG X (.Tuple es k pos) (DK X.K n t):=by
 intro pins s σ H v u Q I r hw;obtain⟨a,xs,e1,hq,hl,hw⟩:=hw;subst e1;cases r;obtain⟨its,rv,ht,hz⟩:=I.tuple hq;refine assign_Tuple_tuple (I.ok.hd hc) ht (by simp[hn,<- hl,rv.length]) hst λh' hx=>?_
 have I1:Inv X pins σ H { s with heap:=h' }:=I.kept (t':=s.toks) λb o e=>hx b o (qS (uA e)) e
 exact h pins _ σ H xs _ Q I1 (by simpa using rv) hw
def ZP(to ti:TE)(t:Rm):TG:=λv σ H Q=>to σ H λo H1=>ti σ H1 λi H2=>t o i v H2 λH3=>Q σ H3
theorem qj{o i:Expr}{to ti:TE}{t:Rm}(ho:PE X o to)(hi:PE X i ti)(hs:ZM X t)
  (ha:∀v,assign (.Subscript o i pos) X.env v=(do
   let ov <- holding [v] (eval o X.env)
   let iv <- holding [v,ov] (eval i X.env)
   standAt pos
   holding [v,ov,iv] (setItem ov iv v)
   release [v,ov,iv] []):=by intro _;rfl):PG X (.Subscript o i pos) (ZP to ti t):=by
 intro pins s σ H v u Q I r h;rw[ha];refine zI (nX (thn (ho pins s σ H _ I h) λov s1 ⟨x,H1,I1,r1,q1⟩=>?_));refine zI (nX (thn (hi pins s1 σ H1 _ I1 q1) λiv s2 ⟨y,H2,I2,r2,q2⟩=>?_));refine zI (wpAny_standAt (zI (nX (thn (hs pins s2 σ H2 x y v ov iv u _ I2 r1 r2 r q2) λ_ s3 ⟨H3,I3,q3⟩=>?_))));exact wpAny_release ⟨σ,H3,I3,q3⟩
def Oh(te:TE)(g:TG):TS:=λD σ H=>te σ H λx H1=>g x σ H1 D.nx
theorem jB{tg e:Expr}{te:TE}{g:TG}(he:PE X e te)(hg:PG X tg g)(hs:swapsWithSole [tg] e pos.line X.env=pure false:=by rfl)(hw:swappedStores [tg] e X.env=pure none:=by rfl)
  (h1:(assignEach [tg] X.env).map (·.2)=[assign tg X.env]:=by rfl):PS X (.Assign [tg] e pos) (Oh te g):=by
 intro pins s σ H D I h;refine wpAny_Assign_stores (thn (he pins s σ H _ I h) λv s1 ⟨x,H1,I1,r1,q1⟩=>?_) hs hw;rw[h1];exact thn (hg pins s1 σ H1 x v _ I1 r1 q1) λ_ s2 q=>q
theorem Rn{i:Nat}{x:Str}{e:Expr}{te:TE}{pos':Pos}(hN:X.N.Nodup)(hi:X.N[i]?=some x)(hx:Loc X.env.scope x)(he:PE X e te)(hs:swapsWith e (some (.Name x pos')) pos.line X.env=pure false:=by rfl)(hf:X.fn x=true\/X.env.scope.names.lookup x=some .local:=by first|exact .inl rfl|exact .inr rfl|assumption) :
  PS X (.Assign [.Name x pos'] e pos) (Oh te (bw i)):=by
 intro pins s σ H D I h;refine wpAny_Assign_Name (thn (he pins s σ H _ I h) λv s1 ⟨y,H1,I1,r1,q1⟩=>?_) hs;exact tM I1 hN hi hx r1 (λs2 I2=>⟨_,H1,I2,q1⟩) hf
def ZQ(i:Nat)(te:TE)(ti:TIp):TS:=λD σ H=>∃x,σ[i]?=some (some x)/\te σ H λy H1=>ti x y H1 λz H2=>D.nx (σ.set i (some z)) H2
theorem ZR{i:Nat}{x:Str}{e:Expr}{te:TE}{op:Operator}{ti:TIp}{pos':Pos}(hN:X.N.Nodup)(hi:X.N[i]?=some x)(hx:Loc X.env.scope x)(he:PE X e te)(ho:PIp X op ti)(hf:X.fn x=true\/X.env.scope.names.lookup x=some .local:=by first|exact .inl rfl|exact .inr rfl|assumption) :
  PS X (.AugAssign (.Name x pos') op e pos) (ZQ i te ti):=by
 intro pins s σ H D I h;obtain⟨v,e1,h⟩:=h;obtain⟨m,hn,hl⟩:=I.loc;have vis:Vis X.env.scope x:=by rcases hx with k|k;exact .inl k;exact .inr (.inl k)
 obtain⟨u,r,l⟩:=hl i x v hi e1 vis;refine wpAny_AugAssign_Name ?_;have go:wpAny (model X.prog X.w) X.A (eval e X.env) (λw s₂=>wpAny (model X.prog X.w) X.A (inplaceOp op u w) (λr s₃=>wpAny (model X.prog X.w) X.A (storeName X.env x r) (λ_=>SP X pins D .next) X.xe s₃) X.xe s₂) X.xe s:=by
  refine thn (he pins s σ H _ I h) λw s1 ⟨y,H1,I1,r1,q1⟩=>?_
  refine thn (ho pins s1 σ H1 v y u w _ I1 r r1 q1) λz s2 ⟨zv,H2,I2,r2,q2⟩=>?_
  exact tM I2 hN hi hx r2 (λs3 I3=>⟨_,H2,I3,q2⟩) hf
 rcases l with⟨hk,hm⟩|⟨hk,c,hc,hcell⟩
 ·exact wpAny_loadName_local I.ok.kind hk hn hm go
 ·rcases hk with hk|hk
  ·exact wpAny_loadName_cell I.ok.kind hk hc hcell go
  ·rcases hx with k|k
   ·have:X.env.scope.names.lookup x=some .free:=hk;rw[k] at this;cases this
   ·have:X.env.scope.names.lookup x=some .free:=hk;rw[k] at this;cases this
end
section
variable{X:Cx}{pos:Pos}
def Ro(c:TT)(tb:TS):TS:=λD σ H=>∃W:Nat->St->Hp->Prop,(∃m,W m σ H)/\∀m σ H,W m σ H ->
 c σ H λb H1=>if b=true then ∃N:St->Hp->Prop,(∀σ' H',N σ' H'->∃m',m'<m/\W m' σ' H')/\tb { D with nx:=N,ct:=N,bk:=D.nx } σ H1 else D.nx σ H1
theorem nY{c:Expr}{body:List Stmt}{tc:TT}{tb:TS}(hp:PassesOwn (model X.prog X.w) X.A X.env X.xe)(hc:PT X c tc)(hb:PSs X body tb):PS X (.While c body [] pos) (Ro tc tb):=by
 intro pins s σ H D I h;obtain⟨W,⟨m0,w0⟩,turn⟩:=h;refine wpAny_While (codeAny_whileLoop (λn s'=>∃σ' H',Inv X pins σ' H' s'/\W n σ' H') ?_ m0 ⟨σ,H,I,w0⟩);rintro n s1 ⟨σ1,H1,I1,w1⟩;refine wpAny_passesOwn hp (thn (hc pins s1 σ1 H1 _ I1 (turn n σ1 H1 w1)) λb s2 ⟨H2,I2,q2⟩=>?_);cases b with
 | true =>
  obtain⟨N,hN,q2⟩:=q2;rw[zS rfl];refine wpAny_passesOwn hp (thn (hb pins s2 σ1 H2 _ I2 q2) λf s3 q3=>?_);cases f with
  | next =>
   obtain⟨σ3,H3,I3,n3⟩:=q3;obtain⟨m',hm,w3⟩:=hN σ3 H3 n3;exact⟨m',hm,σ3,H3,I3,w3⟩
  | cont =>
   obtain⟨σ3,H3,I3,n3⟩:=q3;obtain⟨m',hm,w3⟩:=hN σ3 H3 n3;exact⟨m',hm,σ3,H3,I3,w3⟩
  | brk=>exact q3
  | ret v=>exact q3
 | false =>
  rw[yB vF];exact wpAny_execs_nil ⟨σ1,H2,I2,q2⟩
end
structure It where
 go:Nat->Hp->Prop
 yld:Nat->Hp->V->Hp->Prop
 stop:Nat->Hp->Prop
def jX(X:Cx)(pins:List (Addr×Obj))(H:Hp)(b:Addr):Prop :=
 H b=none/\b≠X.env.locals/\b ∉ X.fs/\(b∈X.ex\/X.s₀.heap.objs.size<=b)/\(∀x c,X.env.cells.lookup x=some c->c≠b)/\∀p∈X.pn++pins,p.1≠b
theorem Inv.Io{X:Cx}{pins:List (Addr×Obj)}{σ:St}{H H':Hp}{s:Shared}{b:Addr}(I:Inv X pins σ H s)(hb:s.heap.objs.size<=b)(hn:H' b=none):jX X pins H' b:=by
 refine⟨hn,Nat.ne_of_gt (qE I.lt hb),I.agL hb,.inr (rX I.sz hb),λx c e z=>?_,λp hp z=>?_⟩
 ·obtain⟨v,q⟩:=I.cell x c e;exact gL (qE q.lt (by rw[z];exact hb)) (qV _)
 ·exact gL (qE (uA (I.pin p hp).1) (by rw[z];exact hb)) (qV _)
structure Turn(P:Program)(w:World)(K:W.Frag)(tg:Expr)(J:It)(fp:List Addr)(it:Addr)(tn:Nat->Heap->Prop):Prop where
 mem:it∈fp
 obj:∀i h,tn i h->∀b∈fp,∃o,h.get? b=some o/\∀v,o.data≠.cell v
 keep:∀i h h',tn i h->(∀b∈fp,∀o,h.get? b=some o->h'.get? b=some o)->tn i h'
 item:∀(X:Cx),X.prog=P->X.w=w->X.K=K->X.calm=true->∀(i:Nat) (pins:List (Addr×Obj)) (s:Shared) (σ:St) (H:Hp) (E:xB),Inv X pins σ H s->(∀b∈fp,jX X pins H b)->tn i s.heap->J.go i H ->
  wpAny (model P w) X.A (pyNext (.ref it)) (λr s1=>∃u,r=some u /\
   wpAny (model P w) X.A (letOwnedTupleGo tg (.ref it) u) (λ_ s2=>∃x H',Inv X pins σ H' s2/\RelV x u/\J.yld i H x H'/\tn (i+1) s2.heap/\∀b∈fp,H' b=none) E s1) E s
 done:∀(X:Cx),X.prog=P->X.w=w->X.K=K->X.calm=true->∀(i:Nat) (pins:List (Addr×Obj)) (s:Shared) (σ:St) (H:Hp) (E:xB),Inv X pins σ H s->(∀b∈fp,jX X pins H b)->tn i s.heap->J.stop i H ->
  wpAny (model P w) X.A (pyNext (.ref it)) (λr s1=>r=none/\Inv X pins σ H s1) E s
 self:∀(A:Around)(i:Nat)(s:Shared)(Q:xB)(E:xB),tn i s.heap->Q (.ref it) s->wpAny (model P w) A (pyIter (.ref it)) Q E s
abbrev TI:=St->Hp->(It->Hp->Prop)->Prop
def PIE(X:Cx)(pins:List (Addr×Obj))(σ:St)(tg:Expr)(R:It->Hp->Prop)(itv:Value)(s2:Shared):Prop :=
 ∃(it:Addr)(fp:List Addr)(tn:Nat->Heap->Prop)(J:It)(H':Hp),itv=.ref it/\Inv X pins σ H' s2/\Turn X.prog X.w X.K tg J fp it tn/\tn 0 s2.heap/\(∀b∈fp,jX X pins H' b)/\R J H'
def PI(X:Cx)(tg iter:Expr)(wi:TI):Prop :=
 ∀(pins:List (Addr×Obj)) (s:Shared) (σ:St) (H:Hp) (R:It->Hp->Prop),Inv X pins σ H s->wi σ H R ->
  wpAny (model X.prog X.w) X.A (eval iter X.env) (λv s1=>wpAny (model X.prog X.w) X.A (pyIter v) (PIE X pins σ tg R) X.xe s1) X.xe s
theorem DN{M:Model}{A:Around}{E:xB}{s:Shared}{tg:Expr}{it:Addr}{u:Value}{o:Obj}{n:String}{vs:xI}{Q:xA}(ho:s.heap.get? it=some o)(hc:o.cls=.type n)(hd:o.data=.fields vs)
  (hn:["enumerate","zip","dict_itemiterator","dict_reverseitemiterator","odict_iterator","itertools.zip_longest","itertools.pairwise"].contains n=false) (hQ:Q () s):wpAny M A (letOwnedTupleGo tg (.ref it) u) Q E s:=by
 unfold letOwnedTupleGo;cases tg <;> first
  | exact wpAny_pure hQ
  | (cases u <;> first
    | exact rV hQ
    | (refine zI (wpAny_load ho ?_)
       rw[hc,hd];show wpAny M A (if (["enumerate","zip","dict_itemiterator","dict_reverseitemiterator","odict_iterator","itertools.zip_longest","itertools.pairwise"].contains n && vs[0]? == some (rawInt _))=true then _ else _) Q E s;rw[yB (by intro h;rw[hn,Bool.false_and] at h;cases h)];exact rV hQ))
def Itl(K:W.Frag)(a:Addr):It :=
 ⟨λi H=>∃xs x,SqL K H a xs/\xs[i]?=some x,λi H x H'=>H'=H/\∀xs,SqL K H a xs->xs[i]?=some x,λi H=>∃xs,SqL K H a xs/\xs.length<=i⟩
def Itr(lo:Int)(n:Nat):It:=⟨λi _=>i<n,λi H x H'=>H'=H/\x=.int (lo+i),λi _=>n<=i⟩
theorem Oi{P:Program}{w:World}{K:W.Frag}{tg:Expr}(a it:Addr):Turn P w K tg (Itl K a) [it] it (λi h=>h.IsListIter it a i) where
 mem:=by simp
 obj:=λi h st b hb=>by
  have e:b=it:=by simpa using hb
  subst e;obtain⟨o,e,c,d⟩:=st;exact⟨o,e,λv z=>by rw[d] at z;cases z⟩
 keep:=λi h h' st k=>st.at λo e=>k it (by simp) o e
 item:=by
  intro X hP hw hK hc i pins s σ H E I hf st hg;subst hP hw hK;obtain⟨xs,x,hq,hx⟩:=hg;obtain⟨its,rv,p,hz⟩:=I.list hq;obtain⟨u,hu,ru⟩:=rv.get hx;obtain⟨f0,f1,f2,f3,f4,f5⟩:=hf it (by simp);refine wpAny_pyNext_list_item st p.isList (x:=u) (by simpa using hu) λh' st' sb=>?_
  have I1:Inv X pins σ H { s with heap:=h' }:=I.turned (t':=s.toks) (λb o hb e=>(sb.2 b hb).trans e) f0 f1 f3 f4 f5
  obtain⟨o,e,c,d⟩:=id st';exact⟨u,rfl,DN (s:={ s with heap:=h' }) e c d (by decide) ⟨x,H,I1,ru,⟨rfl,λys hy=>by rw[I.tU hy hq];exact hx⟩,st',λb hb=>(hf b hb).1⟩⟩
 done:=by
  intro X hP hw hK hc i pins s σ H E I hf st hg;subst hP hw hK;obtain⟨xs,hq,hx⟩:=hg;obtain⟨its,rv,p,hz⟩:=I.list hq;obtain⟨f0,f1,f2,f3,f4,f5⟩:=hf it (by simp);have hl:=rv.length;exact wpAny_pyNext_list_end (I.ok.hd hc) st p.isList (by simp;lia) λh' eb=>⟨rfl,I.turned (t':=s.toks) (λb o hb e=>eb b o hb e) f0 f1 f3 f4 f5⟩
 self:=λ_ _ _ _ _ st h=>wpAny_pyIter_listiter st h
theorem Ip{P:Program}{w:World}{K:PySem.W.Frag}{tg:Expr}(it:Addr)(lo:Int)(n:Nat):Turn P w K tg (Itr lo n) [it] it (λi h=>IsRangeIter h it (lo+(i:Nat)*1) ((n:Int)-(i:Nat)) 1) where
 mem:=by simp
 obj:=λi h st b hb=>by
  have e:b=it:=by simpa using hb
  subst e;exact⟨_,st,λv z=>by
   have z':Data.fields _=Data.cell v:=z;cases z'⟩
 keep:=λi h h' st k=>k it (by simp) _ st
 item:=by
  intro X hP hw hK hc i pins s σ H E I hf st hg;subst hP hw hK;obtain⟨f0,f1,f2,f3,f4,f5⟩:=hf it (by simp);have W:=Walks.range (prog:=X.prog) (w:=X.w) (I.ok.hd hc) it lo 1 n;refine W.item i s _ _ hg st λv h' tk hv st' kk=>?_
  obtain⟨t,rfl⟩:=hv;have I1:Inv X pins σ H { s with heap:=h',toks:=tk }:=I.turned (λb o hb e=>kk b o (by simpa using hb) e) f0 f1 f3 f4 f5
  refine⟨_,rfl,DN (s:={ s with heap:=h',toks:=tk }) (n := "range_iterator") st' rfl rfl (by decide) ⟨.int (lo+i),H,I1,⟨t,?_⟩,⟨rfl,rfl⟩,st',λb hb=>(hf b hb).1⟩⟩
  rw[Int.mul_one]
 done:=by
  intro X hP hw hK hc i pins s σ H E I hf st hg;subst hP hw hK;obtain⟨f0,f1,f2,f3,f4,f5⟩:=hf it (by simp);exact wpAny_pyNext_range_end (I.ok.hd hc) st (by have:n<=i:=hg;lia) λh' eb=>⟨rfl,I.turned (t':=s.toks) (λb o hb e=>eb b o hb e) f0 f1 f3 f4 f5⟩
 self:=λ_ _ _ _ _ st h=>wpAny_pyIter_rangeiter st h
section
variable{X:Cx}{tg:Expr}
def DP(K:W.Frag)(tl:TE):TI:=λσ H R=>tl σ H λx H1=>∃a,x=.ref a/\(∃xs,SqL K H1 a xs)/\R (Itl K a) H1
theorem cC{l:Expr}{tl:TE}(hl:PE X l tl):PI X tg l (DP X.K tl):=by
 intro pins s σ H R I h;refine thn (hl pins s σ H _ I h) λv s1 ⟨x,H1,I1,r1,q1⟩=>?_
 obtain⟨a,e,⟨xs,hq⟩,q⟩:=q1;subst e;cases r1;obtain⟨its,rv,p,hz⟩:=I1.list hq;refine wpAny_pyIter_list p.isList ?_;refine⟨s1.heap.objs.size,[s1.heap.objs.size],_,_,H1,rfl,I1.kept (t':=s1.toks) λb o e=>uB _ e,Oi a _,⟨_,oC _ rfl,rfl,rfl⟩,λb hb=>?_,q⟩;have e:b=s1.heap.objs.size:=by simpa using hb
 subst e;exact I1.Io (uC _) (I1.hok.fresh (uC _))
theorem DQ{pins:List (Addr×Obj)}{σ:St}{H:Hp}{s:Shared}{R:It->Hp->Prop}{E:xB}{lo hi:Int}{t u v:Tok}{tk:Nat}(I:Inv X pins σ H s)(h1:-(2 ^ 62)<=lo)(h2:lo<2 ^ 62)(h3:-(2 ^ 62)<=hi)(h4:hi<2 ^ 62)
  (q:R (Itr lo (hi-lo).toNat) H):wpAny (model X.prog X.w) X.A (pyIter (.ref s.heap.objs.size)) (PIE X pins σ tg R) E { s with heap:=s.heap.push { cls:=.type "range", data:=.fields #[.int lo t,.int hi u,.int 1 v] },toks:=tk }:=by
 refine wpAny_pyIter_range (IsRange.new ..) (small_one h1 h2 h3 h4) ?_;have I1:Inv X pins σ H { s with heap:=s.heap.push { cls:=.type "range", data:=.fields #[.int lo t,.int hi u,.int 1 v] },toks:=tk }:=I.kept λb o e=>uB _ e
 refine⟨(s.heap.push { cls:=.type "range", data:=.fields #[.int lo t,.int hi u,.int 1 v] }).objs.size,[(s.heap.push { cls:=.type "range", data:=.fields #[.int lo t,.int hi u,.int 1 v] }).objs.size],_,_,H,rfl,
  I1.kept (t':=tk) λb o e=>uB _ e,Ip _ lo (hi-lo).toNat,?_,λb hb=>?_,q⟩
 ·have e1:lo+((0:Nat):Int)*1=lo:=by simp
  have e2:(((hi-lo).toNat:Nat):Int)-((0:Nat):Int)=Builtin.Range.rangeSize lo hi 1:=by rw[rangeSize_one];split <;> lia
  show IsRangeIter _ _ (lo+((0:Nat):Int)*1) ((((hi-lo).toNat:Nat):Int)-((0:Nat):Int)) 1;rw[e1,e2];exact oC _ rfl
 ·have e:b=(s.heap.push { cls:=.type "range", data:=.fields #[.int lo t,.int hi u,.int 1 v] }).objs.size:=by simpa using hb
  subst e;exact I1.Io (uC _) (I1.hok.fresh (uC _))
def yp(ta:TA):TI:=λσ H R=>ta σ H λvs H1=>∃j:Int,vs=[.int j]/\-(2 ^ 62)<=j/\j<2 ^ 62/\R (Itr 0 j.toNat) H1
def Rp(ta:TA):TI:=λσ H R=>ta σ H λvs H1=>∃i j:Int,vs=[.int i,.int j]/\(-(2 ^ 62)<=i/\i<2 ^ 62/\-(2 ^ 62)<=j/\j<2 ^ 62)/\R (Itr i (j-i).toNat) H1
theorem cL{a:Expr}{ta:TA}{p pos:Pos}(hg:Gl X "range")(hm:X.mg "range" = none)(ha:PA X [a] ta)(hs:starEach [a] X.env=[(false,eval a X.env)]:=by rfl):PI X tg (.Call (.Name "range" p) [a] [] pos) (yp ta):=by
 intro pins s σ H R I h;refine Call_ (iy I hg hm boot_range (PyProof.Rows.callWith_type1 (thn (ha pos pins s σ H _ I h) λus s1 ⟨vs,H1,I1,r1,q1⟩=>?_) hs rfl));obtain⟨j,e,q1,q2,q⟩:=q1;subst e;cases r1 with
 | cons r rr =>
  cases rr;obtain⟨t,rfl⟩:=r;exact call_range_1 (DQ I1 (by lia) (by lia) q1 q2 (by simpa using q))
theorem yq{a b:Expr}{ta:TA}{p pos:Pos}(hg:Gl X "range")(hm:X.mg "range" = none)(ha:PA X [a,b] ta)(hs:starEach [a,b] X.env=[(false,eval a X.env),(false,eval b X.env)]:=by rfl)(hs2:starEach [b] X.env=[(false,eval b X.env)]:=by rfl) :
  PI X tg (.Call (.Name "range" p) [a,b] [] pos) (Rp ta):=by
 intro pins s σ H R I h;refine Call_ (iy I hg hm boot_range (PyProof.Rows.callWith_type1 (thn (ha pos pins s σ H _ I h) λus s1 ⟨vs,H1,I1,r1,q1⟩=>?_) (by rw[hs,hs2]) (by rw[hs2];rfl)));obtain⟨i,j,e,⟨q1,q2,q3,q4⟩,q⟩:=q1;subst e;cases r1 with
 | cons r rr =>
  cases rr with
  | cons r' rr =>
   cases rr;obtain⟨t,rfl⟩:=r;obtain⟨t',rfl⟩:=r';exact call_range_2 (DQ I1 q1 q2 q3 q4 q)
def xR(wi:TI)(g:TG)(tb:TS):TS:=λD σ H=>wi σ H λJ H1=>∃W:Nat->Nat->St->Hp->Prop,(∃m,W 0 m σ H1)/\∀i m σ H,W i m σ H ->
 (J.stop i H/\D.nx σ H)\/(J.go i H/\∃N:St->Hp->Prop,(∀σ' H',N σ' H'->∃m',m'<m/\W (i+1) m' σ' H')/\∀x H',J.yld i H x H'->g x σ H' λσ2 H2=>tb { D with nx:=N,ct:=N,bk:=D.nx } σ2 H2)
def tV(fp:List Addr)(h:Heap):List (Addr×Obj):=fp.filterMap λb=>(h.get? b).map λo=>(b,o)
theorem jC{fp:List Addr}{h:Heap}{b:Addr}{o:Obj}(hb:b∈fp)(e:h.get? b=some o):(b,o)∈tV fp h:=List.mem_filterMap.mpr ⟨b,hb,by rw[e];rfl⟩
theorem Oj{fp:List Addr}{h:Heap}{p:Addr×Obj}(hp:p∈tV fp h):p.1∈fp/\h.get? p.1=some p.2:=by
 obtain⟨b,hb,e⟩:=List.mem_filterMap.mp hp;cases q:h.get? b with
 | none=>rw[q] at e;cases e
 | some o =>
  rw[q] at e;have e':(b,o)=p:=nI e;subst e';exact⟨hb,q⟩
theorem Inv.pinned{pins:List (Addr×Obj)}{σ:St}{H:Hp}{s:Shared}{fp:List Addr}(I:Inv X pins σ H s)(hf:∀b∈fp,jX X pins H b)(ho:∀b∈fp,∃o,s.heap.get? b=some o/\∀v,o.data≠.cell v):Inv X (pins++tV fp s.heap) σ H s :=
 I.Kz λp hp=>(wS.mp hp).elim (λz=>I.pin p (rS _ z)) λz=>by
  obtain⟨hb,e⟩:=Oj z;obtain⟨f0,f1,f2,_⟩:=hf p.1 hb;obtain⟨o,e',d⟩:=ho p.1 hb;rw[e] at e';cases e';exact⟨e,f0,f1,f2,d⟩
theorem Inv.jY{pins pl:List (Addr×Obj)}{σ:St}{H:Hp}{s:Shared}(I:Inv X (pins++pl) σ H s):Inv X pins σ H s:=I.Kz λp hp=>I.pin p (rS _ (mE _ hp))
theorem cH{iter:Expr}{body:List Stmt}{wi:TI}{g:TG}{tb:TS}{pos:Pos}(hp:PassesOwn (model X.prog X.w) X.A X.env X.xe)(hc:X.calm=true)(hi:PI X tg iter wi)(hg:PG X tg g)(hb:PSs X body tb)
  (hs:∀x,foldedSetIterable iter X.env x=pure x:=by intro _;rfl):PS X (.For tg iter body [] pos) (xR wi g tb):=by
 intro pins s σ H D I h;refine wpAny_For (thn (hi pins s σ H _ I h) λv s1 h1=>thn h1 λitv s2 h2=>?_) hs;obtain⟨it,fp,tn,J,H2,e,I2,T,st2,f2,W,⟨m0,w0⟩,turn⟩:=h2;subst e
 -- what stays true of the iterator's objects through the loop
 have stat:∀{H':Hp},(∀b∈fp,H' b=none)->∀b∈fp,jX X pins H' b:=λhn b hb=>⟨hn b hb,(f2 b hb).2⟩
 refine codeAny_forLoop_any (λn s'=>∃i σ' H',Inv X pins σ' H' s'/\tn i s'.heap/\(∀b∈fp,H' b=none)/\W i n σ' H') ?_ m0 ⟨0,σ,H2,I2,st2,λb hb=>(f2 b hb).1,w0⟩;rintro n s3 ⟨i,σ3,H3,I3,st3,fr3,w3⟩;rcases turn i n σ3 H3 w3 with⟨stop,qn⟩|⟨go,N,hN,step⟩
 ·refine wpAny_passesOwn hp (thn (T.done X rfl rfl rfl hc i pins s3 σ3 H3 X.xe I3 (stat fr3) st3 stop) λr s4 ⟨hr,I4⟩=>?_);subst hr;exact wpAny_execs_nil ⟨σ3,H3,I4,qn⟩
 ·refine wpAny_passesOwn hp (thn (T.item X rfl rfl rfl hc i pins s3 σ3 H3 X.xe I3 (stat fr3) st3 go) λr s4 ⟨u,hr,h4⟩=>?_);subst hr;refine wpAny_passesOwn hp (thn h4 λ_ s5 ⟨x,H5,I5,r5,y5,st5,fr5⟩=>?_);have I5':=I5.pinned (stat fr5) (T.obj _ _ st5);refine wpAny_passesOwn hp (thn (hg _ s5 σ3 H5 x u _ I5' r5 (step x H5 y5)) λ_ s6 ⟨σ6,H6,I6,q6⟩=>?_);refine wpAny_passesOwn hp (thn (hb _ s6 σ6 H6 _ I6 q6) λf s7 q7=>?_);have again:∀{σ7:St} {H7:Hp},Inv X (pins++tV fp s5.heap) σ7 H7 s7->N σ7 H7->∃m,m<n/\∃i σ' H',Inv X pins σ' H' s7/\tn i s7.heap/\(∀b∈fp,H' b=none)/\W i m σ' H':=λ{σ7 H7} I7 n7=>by
   obtain⟨m',hm,w7⟩:=hN σ7 H7 n7;refine⟨m',hm,i+1,σ7,H7,I7.jY,T.keep _ _ _ st5 λb hb o e=>(I7.pin (b,o) (rS _ (rS _ (jC hb e)))).1,λb hb=>?_,w7⟩;obtain⟨o,e,d⟩:=T.obj _ _ st5 b hb;exact(I7.pin (b,o) (rS _ (rS _ (jC hb e)))).2.1
  cases f with
  | next=>obtain⟨σ7,H7,I7,n7⟩:=q7;exact again I7 n7
  | cont=>obtain⟨σ7,H7,I7,n7⟩:=q7;exact again I7 n7
  | brk=>obtain⟨σ7,H7,I7,q7⟩:=q7;exact⟨σ7,H7,I7.jY,q7⟩
  | ret v=>obtain⟨x7,σ7,H7,I7,r7,q7⟩:=q7;exact⟨x7,σ7,H7,I7.jY,r7,q7⟩
end
theorem Rq{K:PySem.W.Frag}{a:Addr}{xs:List V}{g:TG}{tb:TS}{D:Ends}{σ:St}{H:Hp}(Pv:Nat->St->Hp->Prop)(h0:Pv 0 σ H)(hl:∀i σ H,i<=xs.length->Pv i σ H->SqL K H a xs)
  (hs:∀i x σ H,xs[i]?=some x->Pv i σ H->g x σ H λσ2 H2=>tb { D with nx:=Pv (i+1),ct:=Pv (i+1),bk:=D.nx } σ2 H2) (hd:∀σ H,Pv xs.length σ H->D.nx σ H) :
  ∃W:Nat->Nat->St->Hp->Prop,(∃m,W 0 m σ H)/\∀i m σ H,W i m σ H ->
   ((Itl K a).stop i H/\D.nx σ H)\/((Itl K a).go i H/\∃N:St->Hp->Prop,(∀σ' H',N σ' H'->∃m',m'<m/\W (i+1) m' σ' H')/\∀x H',(Itl K a).yld i H x H'->g x σ H' λσ2 H2=>tb { D with nx:=N,ct:=N,bk:=D.nx } σ2 H2):=by
 refine⟨λi m σ H=>m=xs.length-i/\i<=xs.length/\Pv i σ H,⟨xs.length,by simp,Nat.zero_le _,h0⟩,?_⟩;rintro i m σ H ⟨rfl,hi,p⟩;have q:=hl i σ H hi p;by_cases hlt:i<xs.length
 ·refine .inr ⟨⟨xs,xs[i],q,by simp[hlt]⟩,Pv (i+1),λσ' H' p'=>⟨xs.length-(i+1),by lia,rfl,hlt,p'⟩,λx H' y=>?_⟩;obtain⟨e,y⟩:=y;subst e;exact hs i x σ _ (y xs q) p
 ·have e:i=xs.length:=by lia
  subst e;exact .inl ⟨⟨xs,q,uC _⟩,hd σ H p⟩
theorem yr{lo:Int}{n:Nat}{g:TG}{tb:TS}{D:Ends}{σ:St}{H:Hp}(Pv:Nat->St->Hp->Prop)(h0:Pv 0 σ H)
  (hs:∀i σ H,i<n->Pv i σ H->g (.int (lo+i)) σ H λσ2 H2=>tb { D with nx:=Pv (i+1),ct:=Pv (i+1),bk:=D.nx } σ2 H2) (hd:∀σ H,Pv n σ H->D.nx σ H) :
  ∃W:Nat->Nat->St->Hp->Prop,(∃m,W 0 m σ H)/\∀i m σ H,W i m σ H ->
   ((Itr lo n).stop i H/\D.nx σ H)\/((Itr lo n).go i H/\∃N:St->Hp->Prop,(∀σ' H',N σ' H'->∃m',m'<m/\W (i+1) m' σ' H')/\∀x H',(Itr lo n).yld i H x H'->g x σ H' λσ2 H2=>tb { D with nx:=N,ct:=N,bk:=D.nx } σ2 H2):=by
 refine⟨λi m σ H=>m=n-i/\i<=n/\Pv i σ H,⟨n,by simp,Nat.zero_le _,h0⟩,?_⟩;rintro i m σ H ⟨rfl,hi,p⟩;by_cases hlt:i<n
 ·refine .inr ⟨hlt,Pv (i+1),λσ' H' p'=>⟨n-(i+1),by lia,rfl,hlt,p'⟩,λx H' y=>?_⟩;obtain⟨e,y⟩:=y;subst e y;exact hs i σ _ hlt p
 ·have e:i=n:=by lia
  subst e;exact .inl ⟨uC _,hd σ H p⟩
abbrev R2:=V->V->Hp->VK->Prop
def OpR(X:Cx)(f:Value->Value->Sem Value)(r:R2):Prop :=
 ∀(pins:List (Addr×Obj)) (s:Shared) (σ:St) (H:Hp) (x y:V) (v u:Value) (Q:VK),Inv X pins σ H s->RelV x v->RelV y u->r x y H Q ->
  wpAny (model X.prog X.w) X.A (f v u) (EP X pins σ Q) X.xe s
def UnR(X:Cx)(f:Value->Sem Value)(r:V->Hp->VK->Prop):Prop :=
 ∀(pins:List (Addr×Obj)) (s:Shared) (σ:St) (H:Hp) (x:V) (v:Value) (Q:VK),Inv X pins σ H s->RelV x v->r x H Q ->
  wpAny (model X.prog X.w) X.A (f v) (EP X pins σ Q) X.xe s
def fW(X:Cx)(f:Value)(r:List V->Hp->VK->Prop):Prop :=
 ∀(pins:List (Addr×Obj)) (s:Shared) (σ:St) (H:Hp) (xs:List V) (us:xE) (Q:VK),Inv X pins σ H s->Vals xs us->r xs H Q ->
  wpAny (model X.prog X.w) X.A (call f us) (EP X pins σ Q) X.xe s
def tOp(r:R2)(ta tb:TE):TE:=λσ H Q=>ta σ H λx H1=>tb σ H1 λy H2=>r x y H2 Q
def tUn(r:V->Hp->VK->Prop)(ta:TE):TE:=λσ H Q=>ta σ H λx H1=>r x H1 Q
def rI(C:Int->Int->Prop)(g:Int->Int->V):R2:=λx y H Q=>∃i j,x=.int i/\y=.int j/\C i j/\Q (g i j) H
def rI0(g:Int->Int->V):R2:=λx y H Q=>∃i j,x=.int i/\y=.int j/\Q (g i j) H
def rU(g:Int->V):V->Hp->VK->Prop:=λx H Q=>∃i,x=.int i/\Q (g i) H
section
variable{X:Cx}{a b:Expr}{ta tb:TE}{pos:Pos}
theorem ZS(ha:PE X a ta)(hb:PE X b tb){pins:List (Addr×Obj)}{s:Shared}{σ:St}{H:Hp}{R:V->V->Hp->Prop}(I:Inv X pins σ H s)
  (h:ta σ H λx H1=>tb σ H1 λy H2=>R x y H2) {Q:xB} {f:Value->Value->Sem Value}
  (hf:∀v u s2 x y H2,Inv X pins σ H2 s2->RelV x v->RelV y u->R x y H2->wpAny (model X.prog X.w) X.A (f v u) Q X.xe s2) :
  wpAny (model X.prog X.w) X.A (eval a X.env) (λv s₁=>wpAny (model X.prog X.w) X.A (eval b X.env) (λu s₂=>wpAny (model X.prog X.w) X.A (f v u) Q X.xe s₂) X.xe s₁) X.xe s:=by
 refine thn (ha pins s σ H _ I h) λv s1 ⟨x,H1,I1,r1,q1⟩=>?_
 refine thn (hb pins s1 σ H1 _ I1 q1) λu s2 ⟨y,H2,I2,r2,q2⟩=>?_
 exact hf v u s2 x y H2 I2 r1 r2 q2
theorem aN{op:Operator}{r:R2}(ho:OpR X (binaryOp op) r)(ha:PE X a ta)(hb:PE X b tb):PE X (.BinOp a op b pos) (tOp r ta tb):=by
 intro pins s σ H Q I h;exact wpAny_BinOp (ZS ha hb I h λv u s2 x y H2 I2 rx ry q=>ho pins s2 σ H2 x y v u Q I2 rx ry q)
theorem Rr{op:UnaryOp}{r:V->Hp->VK->Prop}(ho:UnR X (unaryOp op) r)(ha:PE X a ta):PE X (.UnaryOp op a pos) (tUn r ta):=by
 intro pins s σ H Q I h;exact UnaryOp_ (thn (ha pins s σ H _ I h) λv s1 ⟨x,H1,I1,r1,q1⟩=>ho pins s1 σ H1 x v Q I1 r1 q1)
theorem opI{f:Value->Value->Sem Value}{C:Int->Int->Prop}{g:Int->Int->Int}
  (rule:∀(i j:Int)(t u:Tok)(s:Shared)(Q:xB)(E:xB),C i j->Q (.int (g i j) s.toks) { s with toks:=s.toks+1 }->wpAny (model X.prog X.w) X.A (f (.int i t) (.int j u)) Q E s) :
  OpR X f (rI C λi j=>.int (g i j)):=by
 intro pins s σ H x y v u Q I rx ry h;obtain⟨i,j,rfl,rfl,hc,q⟩:=h;obtain⟨t,rfl⟩:=rx;obtain⟨t',rfl⟩:=ry;exact rule i j t t' s _ _ hc ⟨.int (g i j),H,I.tok _,⟨_,rfl⟩,q⟩
theorem ZV{f:Value->Value->Sem Value}{g:Int->Int->Int}
  (rule:∀(i j:Int)(t u:Tok)(s:Shared)(Q:xB)(E:xB),Q (.int (g i j) s.toks) { s with toks:=s.toks+1 }->wpAny (model X.prog X.w) X.A (f (.int i t) (.int j u)) Q E s) :
  OpR X f (rI0 λi j=>.int (g i j)):=by
 intro pins s σ H x y v u Q I rx ry h;obtain⟨i,j,rfl,rfl,q⟩:=h;obtain⟨t,rfl⟩:=rx;obtain⟨t',rfl⟩:=ry;exact rule i j t t' s _ _ ⟨.int (g i j),H,I.tok _,⟨_,rfl⟩,q⟩
theorem Wz{f:Value->Value->Sem Value}{g:Int->Int->Bool}
  (rule:∀(i j:Int)(t u:Tok)(s:Shared)(Q:xB)(E:xB),Q (.bool (g i j)) s->wpAny (model X.prog X.w) X.A (f (.int i t) (.int j u)) Q E s) :
  OpR X f (rI0 λi j=>.bl (g i j)):=by
 intro pins s σ H x y v u Q I rx ry h;obtain⟨i,j,rfl,rfl,q⟩:=h;obtain⟨t,rfl⟩:=rx;obtain⟨t',rfl⟩:=ry;exact rule i j t t' s _ _ ⟨.bl (g i j),H,I,rfl,q⟩
def ZW(i j:Int):Prop:=0<j/\j<1073741824
def ZX(i j:Int):Prop:=0<=j/\j<=1000000/\i.natAbs<2 ^ 64
def Ol(i j:Int):Prop:=(-(2 ^ 64)<i/\i<2 ^ 64)\/(-(2 ^ 64)<j/\j<2 ^ 64)
theorem Ol.ok{i j:Int}(h:Ol i j):IntMulOk i j:=by
 rcases h with⟨h1,h2⟩|⟨h1,h2⟩
 ·exact .of_left (intBits_le_64 h1 h2)
 ·exact .of_right (intBits_le_64 h1 h2)
theorem bI:OpR X (binaryOp .Add) (rI0 λi j=>.int (i+j)):=ZV λ_ _ _ _ _ _ _ q=>add_int q
theorem b_:OpR X (binaryOp .Sub) (rI0 λi j=>.int (i-j)):=ZV λ_ _ _ _ _ _ _ q=>sub_int q
theorem jZ:OpR X (binaryOp .Mult) (rI Ol λi j=>.int (i*j)):=opI λ_ _ _ _ _ _ _ hc q=>mul_int q hc.ok
theorem sS:OpR X (binaryOp .FloorDiv) (rI ZW λi j=>.int (i / j)):=opI λi j _ _ _ _ _ hc q=>by
 have h1:(0:Int)<j:=hc.1;have h2:j<1073741824:=hc.2;exact floordiv_int (by lia) (by rw[Int.fdiv_eq_ediv_of_nonneg i (by lia)];exact q) (.inl (PyProof.noPylong_small (by lia)))
theorem jD:OpR X (binaryOp .Mod) (rI (λ_ j=>0<j) λi j=>.int (i % j)):=opI λi j _ _ _ _ _ hc q=>by
 have h1:(0:Int)<j:=hc;exact mod_int' (by lia) (by rw[Int.fmod_eq_emod_of_nonneg i (by lia)];exact q)
theorem Z0:OpR X (binaryOp .Pow) (rI ZX λi j=>.int (i ^ j.toNat)):=opI λ_ _ _ _ _ _ _ hc q=>pow_int_small hc.1 hc.2.1 hc.2.2 q
theorem WD:OpR X (inplaceOp .Add) (rI0 λi j=>.int (i+j)):=ZV λ_ _ _ _ _ _ _ q=>iadd_int q
theorem unI{f:Value->Sem Value}{g:Int->Int}
  (rule:∀(i:Int)(t:Tok)(s:Shared)(Q:xB)(E:xB),Q (.int (g i) s.toks) { s with toks:=s.toks+1 }->wpAny (model X.prog X.w) X.A (f (.int i t)) Q E s) :
  UnR X f (rU λi=>.int (g i)):=by
 intro pins s σ H x v Q I rx h;obtain⟨i,rfl,q⟩:=h;obtain⟨t,rfl⟩:=rx;exact rule i t s _ _ ⟨.int (g i),H,I.tok _,⟨_,rfl⟩,q⟩
theorem Ir:UnR X (unaryOp .USub) (rU λi=>.int (-i)):=unI λ_ _ _ _ _ q=>neg_int q
end
def ac8:V->V->Bool
 | .non,.non=>true|.non,.int _=>true|.int _,.non=>true|.non,.bl _=>true|.bl _,.non=>true|.non,.str _=>true|.str _,.non=>true
 | .int _,.int _=>true|.bl _,.bl _=>true|.str _,.str _=>true|.byt _,.byt _=>true
 | .int _,.str _=>true|.str _,.int _=>true|.bl _,.str _=>true|.str _,.bl _=>true
 | _,_=>false
def rEq:R2:=λx y H Q=>ac8 x y=true/\Q (.bl (decide (x=y))) H
def rNe:R2:=λx y H Q=>ac8 x y=true/\Q (.bl (!decide (x=y))) H
theorem KD{i j:Int}:decide (V.int i=V.int j)=(i==j):=by
 rw[Bool.eq_iff_iff];simp
theorem Rt{i j:Bool}:decide (V.bl i=V.bl j)=(i==j):=by
 rw[Bool.eq_iff_iff];simp
theorem KH{i j:Str}:decide (V.str i=V.str j)=(i==j):=by
 rw[Bool.eq_iff_iff];simp
theorem KJ{i j:Array UInt8}:decide (V.byt i=V.byt j)=(i.toList==j.toList):=by
 rw[Bool.eq_iff_iff];cases i;cases j;simp
section
variable{X:Cx}{a b c:Expr}{ta tb tc:TE}{pos:Pos}
theorem bU{pins:List (Addr×Obj)}{σ:St}{H:Hp}{s:Shared}{Q:VK}{k k':Bool}(I:Inv X pins σ H s)(q:Q (.bl k) H)(e:k=k'):EP X pins σ Q (.bool k') s:=by
 subst e;exact⟨.bl k,H,I,rfl,q⟩
theorem jf:OpR X (compareOp .Eq) rEq:=by
 intro pins s σ H x y v u Q I rx ry h;obtain⟨hs,q⟩:=h;cases x with
 | non =>
  cases rx;cases y with
  | non=>cases ry;exact PySem.EqNone.eq_none_none (bU I q (by simp))
  | bl j=>cases ry;exact PySem.EqNone.eq_none_bool (bU I q (by simp))
  | int j=>obtain⟨t',rfl⟩:=ry;exact PySem.EqNone.eq_none_int (bU I q (by simp))
  | str j=>obtain⟨t',rfl⟩:=ry;exact PySem.EqNone.eq_none_str (bU I q (by simp))
  | _=>exact gL (show false=true from hs) vF
 | bl i =>
  cases rx;cases y with
  | non=>cases ry;exact PySem.EqNone.eq_bool_none (bU I q (by simp))
  | bl j=>cases ry;exact eq_bool (bU I q Rt)
  | str j=>obtain⟨t',rfl⟩:=ry;exact PySem.EqMixed.eq_bool_str (bU I q (by simp))
  | _=>exact gL (show false=true from hs) vF
 | int i =>
  obtain⟨t,rfl⟩:=rx;cases y with
  | non=>cases ry;exact PySem.EqNone.eq_int_none (bU I q (by simp))
  | int j=>obtain⟨t',rfl⟩:=ry;exact eq_int (bU I q KD)
  | str j=>obtain⟨t',rfl⟩:=ry;exact PySem.EqMixed.eq_int_str (bU I q (by simp))
  | _=>exact gL (show false=true from hs) vF
 | str i =>
  obtain⟨t,rfl⟩:=rx;cases y with
  | non=>cases ry;exact PySem.EqNone.eq_str_none (bU I q (by simp))
  | bl j=>cases ry;exact PySem.EqMixed.eq_str_bool (bU I q (by simp))
  | int j=>obtain⟨t',rfl⟩:=ry;exact PySem.EqMixed.eq_str_int (bU I q (by simp))
  | str j=>obtain⟨t',rfl⟩:=ry;exact eq_str (bU I q KH)
  | _=>exact gL (show false=true from hs) vF
 | byt i =>
  obtain⟨t,rfl⟩:=rx;cases y with
  | byt j=>obtain⟨t',rfl⟩:=ry;exact W.eq_bytes (bU I q KJ)
  | _=>exact gL (show false=true from hs) vF
 | _=>cases y <;> exact gL (show false=true from hs) vF
theorem DR:OpR X (compareOp .NotEq) rNe:=by
 intro pins s σ H x y v u Q I rx ry h;obtain⟨hs,q⟩:=h;cases x with
 | non =>
  cases rx;cases y with
  | non=>cases ry;exact PySem.EqNone.ne_none_none (bU I q (by simp))
  | bl j=>cases ry;exact PySem.EqNone.ne_none_bool (bU I q (by simp))
  | int j=>obtain⟨t',rfl⟩:=ry;exact PySem.EqNone.ne_none_int (bU I q (by simp))
  | str j=>obtain⟨t',rfl⟩:=ry;exact PySem.EqNone.ne_none_str (bU I q (by simp))
  | _=>exact gL (show false=true from hs) vF
 | bl i =>
  cases rx;cases y with
  | non=>cases ry;exact PySem.EqNone.ne_bool_none (bU I q (by simp))
  | bl j=>cases ry;exact ne_bool (bU I q (gI not Rt))
  | str j=>obtain⟨t',rfl⟩:=ry;exact PySem.EqMixed.ne_bool_str (bU I q (by simp))
  | _=>exact gL (show false=true from hs) vF
 | int i =>
  obtain⟨t,rfl⟩:=rx;cases y with
  | non=>cases ry;exact PySem.EqNone.ne_int_none (bU I q (by simp))
  | int j=>obtain⟨t',rfl⟩:=ry;exact ne_int (bU I q (gI not KD))
  | str j=>obtain⟨t',rfl⟩:=ry;exact PySem.EqMixed.ne_int_str (bU I q (by simp))
  | _=>exact gL (show false=true from hs) vF
 | str i =>
  obtain⟨t,rfl⟩:=rx;cases y with
  | non=>cases ry;exact PySem.EqNone.ne_str_none (bU I q (by simp))
  | bl j=>cases ry;exact PySem.EqMixed.ne_str_bool (bU I q (by simp))
  | int j=>obtain⟨t',rfl⟩:=ry;exact PySem.EqMixed.ne_str_int (bU I q (by simp))
  | str j=>obtain⟨t',rfl⟩:=ry;exact ne_str (bU I q (gI not KH))
  | _=>exact gL (show false=true from hs) vF
 | byt i =>
  obtain⟨t,rfl⟩:=rx;cases y with
  | byt j=>obtain⟨t',rfl⟩:=ry;exact W.ne_bytes (bU I q (gI not KJ))
  | _=>exact gL (show false=true from hs) vF
 | _=>cases y <;> exact gL (show false=true from hs) vF
theorem nZ:OpR X (compareOp .Lt) (rI0 λi j=>.bl (decide (i<j))):=Wz λ_ _ _ _ _ _ _ q=>lt_int q
theorem rG:OpR X (compareOp .LtE) (rI0 λi j=>.bl (decide (i<=j))):=Wz λ_ _ _ _ _ _ _ q=>le_int q
theorem fY:OpR X (compareOp .Gt) (rI0 λi j=>.bl (decide (j<i))):=Wz λ_ _ _ _ _ _ _ q=>gt_int q
theorem ac9:OpR X (compareOp .GtE) (rI0 λi j=>.bl (decide (j<=i))):=Wz λ_ _ _ _ _ _ _ q=>ge_int q
theorem Z1:OpR X (compareOp .Is) (λx y H Q=>y=.non/\Q (.bl (decide (x=.non))) H):=by
 intro pins s σ H x y v u Q I rx ry h;obtain⟨rfl,q⟩:=h;cases ry;refine is_none_gen (bU I q ?_);cases x <;> first
  | (cases rx;rfl)
  | (obtain⟨t,rfl⟩:=rx;rfl)
theorem WK:OpR X (compareOp .IsNot) (λx y H Q=>y=.non/\Q (.bl (!decide (x=.non))) H):=by
 intro pins s σ H x y v u Q I rx ry h;obtain⟨rfl,q⟩:=h;cases ry;refine isnot_none_gen (bU I q ?_);cases x <;> first
  | (cases rx;rfl)
  | (obtain⟨t,rfl⟩:=rx;rfl)
theorem aY(b:Expr){op:CmpOp}(h:op≠.In:=by decide)(h2:op≠.NotIn:=by decide):behindInMarks op b=false:=by
 have e1:(op==CmpOp.In)=false:=by cases op <;> first|rfl|exact gL rfl h
 have e2:(op==CmpOp.NotIn)=false:=by cases op <;> first|rfl|exact gL rfl h2
 cases b <;> simp[behindInMarks,e1,e2]
theorem fB{op:CmpOp}{r:R2}(ho:OpR X (compareOp op) r)(ha:PE X a ta)(hb:PE X b tb)(hm:behindInMarks op b=false):PE X (.Compare a [op] [b] pos) (tOp r ta tb):=by
 intro pins s σ H Q I h;exact wpAny_Compare1 (ZS ha hb I h λv u s2 x y H2 I2 rx ry q=>ho pins s2 σ H2 x y v u Q I2 rx ry q) hm
def KN(t:TE):TT:=λσ H Q=>t σ H λx H'=>∃k,x=.bl k/\Q k H'
theorem aU{op:CmpOp}{r:R2}(ho:OpR X (compareOp op) r)(ha:PE X a ta)(hb:PE X b tb)(hm:behindInMarks op b=false):PT X (.Compare a [op] [b] pos) (KN (tOp r ta tb)):=by
 intro pins s σ H Q I h;refine wpAny_isTrue_Compare1 (thn (ha pins s σ H _ I h) λv s1 ⟨x,H1,I1,r1,q1⟩=>thn (hb pins s1 σ H1 _ I1 q1) λu s2 ⟨y,H2,I2,r2,q2⟩ =>
  thn (ho pins s2 σ H2 x y v u _ I2 r1 r2 q2) λc s3 ⟨z,H3,I3,r3,k,e,q3⟩=>?_) hm
 subst e;cases r3;exact wpAny_truthy_bool ⟨H3,I3,q3⟩
def BL(r r':R2)(ta tb tc:TE):TE:=λσ H Q=>ta σ H λx H1=>tb σ H1 λy H2=>r x y H2 λz H3=>∃k,z=.bl k /\
 (if k=true then tc σ H3 λw' H4=>r' y w' H4 Q else Q (.bl false) H3)
theorem Ru{op op':CmpOp}{r r':R2}(ho:OpR X (compareOp op) r)(ho':OpR X (compareOp op') r')(ha:PE X a ta)(hb:PE X b tb)(hc:PE X c tc)
  (hm:lastMarks [op,op'] [b,c]=false:=by with_unfolding_all rfl):PE X (.Compare a [op,op'] [b,c] pos) (BL r r' ta tb tc):=by
 intro pins s σ H Q I h;refine Compare_chain (thn (ha pins s σ H _ I h) λv s1 ⟨x,H1,I1,r1,q1⟩=>chain_link (thn (hb pins s1 σ H1 _ I1 q1) λu s2 ⟨y,H2,I2,r2,q2⟩ =>
  thn (ho pins s2 σ H2 x y v u _ I2 r1 r2 q2) λd s3 ⟨z,H3,I3,r3,k,e,q3⟩=>?_)) hm
 subst e;cases r3;refine wpAny_truthy_bool ?_;cases k with
 | false=>exact ite_ff ⟨.bl false,H3,I3,rfl,q3⟩
 | true=>exact ite_tt (chain_last (thn (hc pins s3 σ H3 _ I3 q3) λw' s4 ⟨z',H4,I4,r4,q4⟩=>ho' pins s4 σ H4 y z' u w' Q I4 r2 r4 q4))
theorem tW{op op':CmpOp}{r r':R2}(ho:OpR X (compareOp op) r)(ho':OpR X (compareOp op') r')(ha:PE X a ta)(hb:PE X b tb)(hc:PE X c tc)
  (hm:lastMarks [op,op'] [b,c]=false:=by with_unfolding_all rfl):PT X (.Compare a [op,op'] [b,c] pos) (KN (BL r r' ta tb tc)):=by
 intro pins s σ H Q I h;refine isTrue_chain (thn (ha pins s σ H _ I h) λv s1 ⟨x,H1,I1,r1,q1⟩=>test_link (thn (hb pins s1 σ H1 _ I1 q1) λu s2 ⟨y,H2,I2,r2,q2⟩ =>
  thn (ho pins s2 σ H2 x y v u _ I2 r1 r2 q2) λd s3 ⟨z,H3,I3,r3,k,e,q3⟩=>?_)) hm
 subst e;cases r3;refine wpAny_truthy_bool ?_;cases k with
 | false =>
  obtain⟨k',e',q'⟩:=q3;cases e';exact ite_ff ⟨H3,I3,q'⟩
 | true =>
  refine ite_tt (test_last (thn (hc pins s3 σ H3 _ I3 q3) λw' s4 ⟨z',H4,I4,r4,q4⟩=>thn (ho' pins s4 σ H4 y z' u w' _ I4 r2 r4 q4) λd' s5 ⟨z2,H5,I5,r5,k2,e2,q5⟩=>?_));subst e2;cases r5;exact wpAny_truthy_bool ⟨H5,I5,q5⟩
theorem tX:(sizeLine:Nat)<2 ^ 63:=by rw[sizeLine_eq];decide
theorem Iu:OpR X (binaryOp .Add) (λx y H Q=>∃i j,x=.str i/\y=.str j/\i.length+j.length<=sizeLine/\Q (.str (i++j)) H):=by
 intro pins s σ H x y v u Q I rx ry h;obtain⟨i,j,rfl,rfl,hz,q⟩:=h;obtain⟨t,rfl⟩:=rx;obtain⟨t',rfl⟩:=ry;exact add_str (λt' tk=>⟨.str (i++j),H,I.tok _,⟨_,rfl⟩,q⟩) hz
theorem vals1{x:V}{us:xE}(r:Vals [x] us):∃u,us=[u]/\RelV x u:=by
 cases r with
 | cons r1 r2=>cases r2;exact⟨_,rfl,r1⟩
theorem vals2{x y:V}{us:xE}(r:Vals [x,y] us):∃u w',us=[u,w']/\RelV x u/\RelV y w':=by
 cases r with
 | cons r1 r2 =>
  cases r2 with
  | cons r3 r4=>cases r4;exact⟨_,_,rfl,r1,r3⟩
theorem Om(hc:X.calm=true):fW X (.builtin "max") (λxs H Q=>∃i j,xs=[.int i,.int j]/\Q (.int (if j > i then j else i)) H):=by
 intro pins s σ H xs us Q I r h;obtain⟨i,j,rfl,q⟩:=h;obtain⟨u,w',rfl,⟨t,rfl⟩,⟨t',rfl⟩⟩:=vals2 r;refine max_two_ints (I.ok.hd hc) λh' tk k=>⟨_,H,I.kept k,?_,q⟩
 by_cases hj:j > i
 ·rw[zS hj,zS hj];exact⟨_,rfl⟩
 ·rw[yB hj,yB hj];exact⟨_,rfl⟩
theorem Oo(hc:X.calm=true):fW X (.builtin "min") (λxs H Q=>∃i j,xs=[.int i,.int j]/\Q (.int (if j<i then j else i)) H):=by
 intro pins s σ H xs us Q I r h;obtain⟨i,j,rfl,q⟩:=h;obtain⟨u,w',rfl,⟨t,rfl⟩,⟨t',rfl⟩⟩:=vals2 r;refine min_two_ints (I.ok.hd hc) λh' tk k=>⟨_,H,I.kept k,?_,q⟩
 by_cases hj:j<i
 ·rw[zS hj,zS hj];exact⟨_,rfl⟩
 ·rw[yB hj,yB hj];exact⟨_,rfl⟩
theorem Oq:fW X (.type "int") (λxs H Q=>(∃i,xs=[.int i]/\Q (.int i) H)\/∃k,xs=[.bl k]/\Q (.int (if k then 1 else 0)) H):=by
 intro pins s σ H xs us Q I r h;rcases h with⟨i,rfl,q⟩|⟨k,rfl,q⟩
 ·obtain⟨u,rfl,t,rfl⟩:=vals1 r;exact call_int_int ⟨.int i,H,I,⟨_,rfl⟩,q⟩
 ·obtain⟨u,rfl,r1⟩:=vals1 r;cases r1;exact call_int_bool ⟨.int (if k then 1 else 0),H,I.tok _,⟨_,rfl⟩,q⟩
def ac_(K:W.Frag)(x:V)(H:Hp)(n:Nat):Prop :=
 match x with
 | .str y=>y.length<=sizeLine/\n=y.length
 | .byt y=>y.size<=sizeLine/\n=y.size
 | .ref p=>(∃xs,SqL K H p xs/\n=xs.length)\/∃xs,SqT K H p xs/\n=xs.length
 | _=>False
theorem Rv:fW X (.builtin "len") (λxs H Q=>∃x n,xs=[x]/\ac_ X.K x H n/\Q (.int n) H):=by
 intro pins s σ H xs us Q I r h;obtain⟨x,n,rfl,e,q⟩:=h;obtain⟨u,rfl,rx⟩:=vals1 r;have hl:=tX;have hs:sizeLine=16777216:=sizeLine_eq;cases x with
 | str y =>
  obtain⟨t,rfl⟩:=rx;obtain⟨hy,e'⟩:y.length<=sizeLine/\n=y.length:=e;subst e';exact len_str (by lia) ⟨.int _,H,I.tok _,⟨_,rfl⟩,q⟩
 | byt y =>
  obtain⟨t,rfl⟩:=rx;obtain⟨hy,e'⟩:y.size<=sizeLine/\n=y.size:=e;subst e';exact W.len_bytes (by lia) ⟨.int _,H,I.tok _,⟨_,rfl⟩,q⟩
 | ref p =>
  cases rx;have e':(∃xs,SqL X.K H p xs/\n=xs.length)\/∃xs,SqT X.K H p xs/\n=xs.length:=e;rcases e' with⟨xs,hx,e'⟩|⟨xs,hx,e'⟩
  ·subst e';obtain⟨its,r',pl,hz⟩:=I.list hx;have hlen:=r'.length;exact Calls.call_len_list pl.isList (by simp only[List.size_toArray];lia) ⟨.int xs.length,H,I.tok _,⟨_,by simp only[List.size_toArray];rw[hlen]⟩,q⟩
  ·subst e';obtain⟨its,r',pl,hz⟩:=I.tuple hx;have hlen:=r'.length;exact len_tuple pl (by simp only[List.size_toArray];lia) ⟨.int xs.length,H,I.tok _,⟨_,by simp only[List.size_toArray];rw[hlen]⟩,q⟩
 | _=>exact(show False from e).elim
end
structure Iw(h:Heap)(x dx C:Addr)(mA:xC):Prop where
 obj:h.get? x=some (W.instObj C dx)
 ns:h.Ns1 dx mA
 ne:dx≠x
theorem yt{h:Heap}{dx:Addr}{mA:xC}(n:h.Ns1 dx mA):∃od,h.get? dx=some od/\∀name,W.lookIn name od=some (mA name):=by
 obtain⟨o,es,ep,ho,hd,hk,_,hm⟩:=n;refine⟨o,ho,λname=>?_⟩;have e:=hm name;unfold nsFind findBy at e;rw[<- Array.find?_toList] at e;unfold W.lookIn;rw[hd];dsimp only;split
 ·rename_i y q;rw[q] at e;exact gI some e
 ·rename_i q;rw[q] at e;have a:es.toList.any (·.refKey)=false:=by
   rw[List.any_eq_false];intro y hy;obtain⟨z,t,hkey⟩:=hk y (Array.mem_toList_iff.mp hy);simp[DictEntry.refKey,hkey]
  have a':¬ es.toList.any (·.refKey)=true:=by rw[a];exact vF
  rw[yB a'];exact gI some e
theorem Iw.look{h:Heap}{x dx C:Addr}{mA:xC}(I:Iw h x dx C mA):∃od,W.InstAt h x (W.instObj C dx) C (some od)/\∀name,W.lookIn name od=some (mA name) :=
 let ⟨od,ho,hl⟩:=yt I.ns
 ⟨od,⟨I.obj,rfl,rfl,ho⟩,hl⟩
section
variable{prog:Program}{w:World}{A:Around}{E:xB}{s:Shared}{K:W.Frag}{x dx C f:Addr}{mA:xC}{name:Str}{v:Value}
theorem get_map{expr:Bool}{Q:xB}(X:K.In s.heap)(I:Iw s.heap x dx C mA)(hg:W.plainGet K C name=true)(hh:W.hasDictIn K C=true)
  (ha:W.findIn K (.ref C) name=some none) (hv:mA name=some v) (hv':W.handedIn v=true) (h:Q v { s with toks:=s.toks+1 }) :
  wpAny (model prog w) A (getAttr (.ref x) name expr) Q E s:=by
 obtain⟨od,J,hl⟩:=I.look;exact W.get_value X J (W.plainGet_of hg).1 (W.findObj_own hh ha rfl (by rw[hl,hv])) hv' h
theorem Rx{pl:Sem Bool}{Q:Value×List Value->Shared->Prop}(X:K.In s.heap)(I:Iw s.heap x dx C mA)(hg:W.plainGet K C name=true)
  (hf:W.findIn K (.ref C) name=some (some (.ref f))) (ht:W.isFn K (.ref f)=true) (hv:mA name=none) (h:Q (.ref f,[.ref x]) s) :
  wpAny (model prog w) A (getMethod (.ref x) name pl) Q E s:=by
 obtain⟨od,J,hl⟩:=I.look;exact W.method_fn X J (W.plainGet_of hg).1 (W.plainGet_of hg).2 hf (beq_iff_eq.mp ht) (by show (W.lookIn name od).map (·.isSome)=some false;rw[hl,hv];rfl) h
theorem WL{ns:List Str}{Q:xA}(X:K.In s.heap)(I:Iw s.heap x dx C mA)
  (hs:W.findIn K (.ref C) "__setattr__" = some (some (.builtin "object.__setattr__"))) (hp:W.plainOver K C=true) (ht:W.takerIn K C name=some none) (hh:W.hasDictIn K C=true)
  (hw:PySem.Within mA ns) (hsz:ns.length<=sizeLine)
  (h:∀h',Iw h' x dx C (λy=>if y=name then some v else mA y)->Heap.SameBut dx s.heap h'->Q () { s with heap:=h',toks:=s.toks+2 }) :
  wpAny (model prog w) A (setAttr (.ref x) name v) Q E s:=by
 obtain⟨od,J,hl⟩:=I.look;refine W.set_plain X J hs (W.osa_open (s:={ s with toks:=s.toks+1 }) (r:=none) X J hp ht λb=>?_)
 obtain⟨cd,hc,hd'⟩:=W.any_some hh;have hx:s.heap.get? x=some ⟨.ref C,some dx,.plain,#[]⟩:=I.obj;refine zI (rV (zI (zI (wpAny_loadPart hx (zI (W.Looks.here (s:={ s with toks:=s.toks+1 }) (W.looks_clsIn X hc) ?_))))))
 rw[hd'];refine rV (a:=some dx) (zI (rV (zI ?_)));refine wpAny_nsSet1 (s:={ s with toks:=s.toks+1 }) I.ns λh' hn2 hs2=>?_
 obtain⟨oD,esD,epD,hoD,hdD,hcD⟩:=hn2.count (PySem.Within.cons name v hw);refine zI (wpAny_lookBehind hoD (by rw[hdD];exact pastItsLine_dict (rX hcD (by rw[mS];lia))) ?_);exact rV (h _ ⟨(hs2.2 _ (Ne.symm I.ne)).trans I.obj,hn2,I.ne⟩ hs2)
theorem Ry{R:Result->Shared->Prop}{vs:xE}{kw:List (Str×Value)}(X:K.In s.heap)(hm:W.makesIn K C=true)
  (hi:W.findIn K (.ref C) "__init__" = some (some (.ref f))) (hf:W.typeIn K (.ref f)=some (.type "function"))
  (h:codeAny (model prog w) (A.under (.builtin "type.__call__" ⟨.ref C::vs,kw⟩)) (.call (.ref f) ⟨.ref (s.heap.objs.size+1)::vs,kw⟩) (W.InitBack (s.heap.objs.size+1) R)
   { s with heap:=(s.heap.push W.emptyDict).push (W.instObj C s.heap.objs.size) }) :
  codeAny (model prog w) A (.call (.ref C) ⟨vs,kw⟩) R s:=by
 obtain⟨hh,g,d,t,os⟩:=s;exact W.make_core (W.makes_of X hm) (W.looks_findIn X hi) (λself=>W.bind_fn X self hf) (.inl rfl) h
end
def dZ(f:Str)(v:V):List (Str×V)->List (Str×V)
 | []=>[(f,v)]
 | (g,x)::r=>if g=f then (g,v)::r else (g,x)::dZ f v r
theorem bW(f g:Str)(v:V):∀fs:List (Str×V),(dZ f v fs).lookup g=if g=f then some v else fs.lookup g
 | []=>by
  show List.lookup g [(f,v)]=_;by_cases h:g=f
  ·have hb:(g==f)=true:=beq_iff_eq.mpr h;simp only[List.lookup,hb,if_pos h]
  ·have hb:(g==f)=false:=beq_eq_false_iff_ne.mpr h;simp only[List.lookup,hb,if_neg h]
 | (k,x)::r=>by
  have ih:=bW f g v r;rw[show dZ f v ((k,x)::r)=(if k=f then (k,v)::r else (k,x)::dZ f v r) from rfl];by_cases hk:k=f
  ·rw[zS hk];by_cases h:g=k
   ·have hb:(g==k)=true:=beq_iff_eq.mpr h;simp only[List.lookup,hb,if_pos (h.trans hk)]
   ·have hb:(g==k)=false:=beq_eq_false_iff_ne.mpr h;simp only[List.lookup,hb,if_neg (λe:g=f=>h (e.trans hk.symm))]
  ·rw[yB hk];by_cases h:g=k
   ·have hb:(g==k)=true:=beq_iff_eq.mpr h;simp only[List.lookup,hb,if_neg (λe:g=f=>hk (h.symm.trans e))]
   ·have hb:(g==k)=false:=beq_eq_false_iff_ne.mpr h;simp only[List.lookup,hb];exact ih
theorem jg(f:Str)(v:V):∀fs:List (Str×V),f∈(dZ f v fs).map (·.1)/\∀g,g∈fs.map (·.1)->g∈(dZ f v fs).map (·.1)
 | []=>⟨by simp[dZ],λg h=>by simp at h⟩
 | (k,x)::r=>by
  obtain⟨i1,i2⟩:=jg f v r;rw[show dZ f v ((k,x)::r)=(if k=f then (k,v)::r else (k,x)::dZ f v r) from rfl];by_cases hk:k=f
  ·rw[zS hk];subst hk;exact⟨by simp,λg h=>by simpa using h⟩
  ·rw[yB hk];refine⟨?_,λg h=>?_⟩
   ·rw[oS];exact zD _ i1
   ·rw[oS] at h ⊢;rcases vT.mp h with e|e
    ·exact vT.mpr (.inl e)
    ·exact zD _ (i2 g e)
theorem j4(f:Str)(v:V):∀fs:List (Str×V),(dZ f v fs).length<=fs.length+1
 | []=>by simp[dZ]
 | (k,x)::r=>by
  have ih:=j4 f v r;rw[show dZ f v ((k,x)::r)=(if k=f then (k,v)::r else (k,x)::dZ f v r) from rfl];by_cases hk:k=f
  ·rw[zS hk,mS,mS];lia
  ·rw[yB hk,mS,mS];lia
theorem lZ.some_of{v:V}{o:Option Value}(r:lZ (some v) o):∃u,o=some u/\RelV v u:=by
 cases o with
 | none=>exact(show False from r).elim
 | some u=>exact⟨u,rfl,r⟩
theorem lZ.none_of{o:Option Value}(r:lZ none o):o=none:=by
 cases o with
 | none=>rfl
 | some u=>exact(show False from r).elim
theorem Ot{v:V}{u:Value}(r:RelV v u):W.handedIn u=true:=by
 cases v with
 | non=>cases (show u=Value.none from r);rfl
 | bl b=>cases (show u=Value.bool b from r);rfl
 | int i=>obtain⟨t,e⟩:=(show ∃t,u=Value.int i t from r);cases e;rfl
 | str x=>obtain⟨t,e⟩:=(show ∃t,u=Value.str x t from r);cases e;rfl
 | byt b=>obtain⟨t,e⟩:=(show ∃t,u=Value.bytes b t from r);cases e;rfl
 | flt b=>obtain⟨t,e⟩:=(show ∃t,u=Value.float b t from r);cases e;rfl
 | ref a=>cases (show u=Value.ref a from r);rfl
 | ty n=>cases (show u=Value.type n from r);rfl
section
variable{P:Program}{w:World}{H:Hp}{h:Heap}{a C dx:Addr}{fs:List (Str×V)}
theorem sU(hok:HOk P w H h)(e:H a=some (.ins C dx fs)):∃mA,Iw h a dx C mA/\(∀f,lZ (fs.lookup f) (mA f))/\PySem.Within mA (fs.map (·.1))/\fs.length<=1000/\H dx=some (.own a):=by
 obtain⟨d,z,ne,ob,mA,n,r,q⟩:=(show cA P w H h a (.ins C dx fs) from hok a _ e);exact⟨mA,⟨ob,n,ne⟩,r,q,z,d⟩
end
structure Cls(K:W.Frag)(C:Addr):Prop where
 pg:W.plainGet K C Str.empty=true
 hd:W.hasDictIn K C=true
 po:W.plainOver K C=true
 sa:W.findIn K (.ref C) "__setattr__" = some (some (.builtin "object.__setattr__"))
theorem Cls.get{K:W.Frag}{C:Addr}(c:Cls K C)(f:Str):W.plainGet K C f=true:=c.pg
def bO(K:W.Frag)(C:Addr)(f:Str):Prop:=W.findIn K (.ref C) f=some none
theorem bO.taker{K:W.Frag}{C:Addr}{f:Str}(n:bO K C f):W.takerIn K C f=some none:=by
 unfold W.takerIn;rw[show W.findIn K (.ref C) f=some none from n]
 rfl
structure Con(K:W.Frag)(C:Addr)(f:Str)(v:V)(u:Value):Prop where
 at_:W.findIn K (.ref C) f=some (some u)
 rel:RelV v u
 get:W.specialIn K u "__get__" = some none
 cp:W.copiedNames.contains f=false
structure Meth(K:W.Frag)(C:Addr)(m:Str)(f:Addr):Prop where
 at_:W.findIn K (.ref C) m=some (some (.ref f))
 fn:W.isFn K (.ref f)=true
 kp:W.keepIn K (.ref f)=true
section
variable{X:Cx}{pins:List (Addr×Obj)}{σ:St}{H:Hp}{s:Shared}{a C dx:Addr}{fs:List (Str×V)}{f:Str}{v:V}{A:Around}{E:xB}
theorem Iz{b:Bool}{Q:xB}(I:Inv X pins σ H s)(e:H a=some (.ins C dx fs))(c:Cls X.K C)(n:bO X.K C f)(l:fs.lookup f=some v)
  (h:∀u s',Inv X pins σ H s'->RelV v u->Q u s'):wpAny (model X.prog X.w) A (getAttr (.ref a) f b) Q E s:=by
 obtain⟨mA,O,r,_,_,_⟩:=sU I.hok e;obtain⟨u,hu,ru⟩:=lZ.some_of (v:=v) (o:=mA f) (by rw[<- l];exact r f);exact get_map I.kIn O (c.get f) c.hd n hu (Ot ru) (h u _ (I.tok _) ru)
theorem tY{m:Str}{g:Addr}{pl:Sem Bool}{Q:Value×List Value->Shared->Prop}(I:Inv X pins σ H s)(e:H a=some (.ins C dx fs))(c:Cls X.K C)(k:Meth X.K C m g)(l:fs.lookup m=none)
  (h:Q (.ref g,[.ref a]) s):wpAny (model X.prog X.w) A (getMethod (.ref a) m pl) Q E s:=by
 obtain⟨mA,O,r,_,_,_⟩:=sU I.hok e;have hn:mA m=none:=lZ.none_of (by rw[<- l];exact r m);exact Rx I.kIn O (c.get m) k.at_ k.fn hn h
theorem IK{y:V}{u:Value}{Q:xA}(I:Inv X pins σ H s)(e:H a=some (.ins C dx fs))(c:Cls X.K C)(n:bO X.K C f)(hl:fs.length<1000)(ry:RelV y u)
  (h:∀s',Inv X pins σ (upd H a (.ins C dx (dZ f y fs))) s'->Q () s'):wpAny (model X.prog X.w) A (setAttr (.ref a) f u) Q E s:=by
 obtain⟨mA,O,r,wi,_,ho⟩:=sU I.hok e;have hz:(fs.map (·.1)).length<=sizeLine:=by rw[wP,sizeLine_eq];lia
 refine WL I.kIn O c.sa c.po n.taker c.hd wi hz λh' O' sb=>h _ ?_
 have hd:∃o,h'.get? dx=some o:=let ⟨o,_,_,e',_⟩:=O'.ns;⟨o,e'⟩
 refine I.write (x:=a) (e:=dx) (by rw[e];exact True.intro) (.inr ho) (λb q hb z=>(sb.2 b hb).trans z) hd ?_;refine⟨by rw[aQ O.ne];exact ho,?_,O.ne,O'.obj,_,O'.ns,λg=>?_,λg hg=>?_⟩
 ·have:=j4 f y fs;lia
 ·show lZ ((dZ f y fs).lookup g) (if g=f then some u else mA g);rw[bW];by_cases q:g=f
  ·rw[zS q,zS q];exact ry
  ·rw[yB q,yB q];exact r g
 ·by_cases q:g=f
  ·rw[q];exact(jg f y fs).1
  ·refine(jg f y fs).2 g (wi g λz=>hg ?_);show (if g=f then some u else mA g)=none;rw[yB q];exact z
theorem Inv.made(I:Inv X pins σ H s):Inv X pins σ (upd (upd H s.heap.objs.size (.own (s.heap.objs.size+1))) (s.heap.objs.size+1) (.ins C s.heap.objs.size []))
  { s with heap:=(s.heap.push W.emptyDict).push (W.instObj C s.heap.objs.size) }:=by
 have e1:(s.heap.push W.emptyDict).get? s.heap.objs.size=some W.emptyDict:=oC s.heap rfl;have e2:((s.heap.push W.emptyDict).push (W.instObj C s.heap.objs.size)).get? (s.heap.objs.size+1)=some (W.instObj C s.heap.objs.size):=by
  have:=oC (s.heap.push W.emptyDict) (o:=W.instObj C s.heap.objs.size) rfl
  rwa [Heap.size_push] at this
 have e3:(s.heap.push W.emptyDict).Ns s.heap.objs.size (λ_=>none):=⟨W.emptyDict,#[],_,e1,rfl,(λe he=>absurd he (by simp)),λ_=>rfl⟩;have I1:=I.laid (a:=s.heap.objs.size) (o:=.own (s.heap.objs.size+1)) (h':=s.heap.push W.emptyDict) (t':=s.toks) (λb u q=>uB _ q) (uC _) ⟨_,e1⟩;refine I1.laid (a:=s.heap.objs.size+1) (o:=.ins C s.heap.objs.size []) (t':=s.toks) (λb u q=>uB _ q) (Nat.le_of_eq (Heap.size_push _ _)) ?_;have ne:s.heap.objs.size≠s.heap.objs.size+1:=qS (Nat.lt_succ_self _);refine⟨by rw[aQ ne,aV],Nat.zero_le _,ne,e2,λ_=>none,(Heap.Ns1.of_empty e3).at λo q=>uB _ q,λ_=>True.intro,λy hy=>gL rfl hy⟩
theorem WM{prog:Program}{w:World}{env:Env}{e:Expr}{f:Str}{pos:Pos}{s:Shared}{Q:xB}(hb:attributeBase e f env (eval e env)=eval e env)
  (h:wpAny (model prog w) A (eval e env) (λo s₁=>wpAny (model prog w) A (getAttr o f true) Q E s₁) E s):wpAny (model prog w) A (eval (.Attribute e f pos) env) Q E s :=
 Attribute_any_ h (by rw[arm_eval_Attribute,hb])
end
def Z2(K:W.Frag)(ta:TE)(f:Str):TE:=λσ H Q=>ta σ H λx H1=>∃a C dx fs v,x=.ref a/\H1 a=some (.ins C dx fs)/\Cls K C/\bO K C f/\fs.lookup f=some v/\Q v H1
def Z4(K:W.Frag)(ta tv:TE)(f:Str):TS:=λD σ H=>tv σ H λy H1=>ta σ H1 λx H2=>∃a C dx fs,x=.ref a/\H2 a=some (.ins C dx fs)/\Cls K C/\bO K C f/\fs.length<1000 /\
 D.nx σ (upd H2 a (.ins C dx (dZ f y fs)))
section
variable{X:Cx}{o e value:Expr}{f:Str}{pos pos':Pos}{ta tv:TE}
theorem gh(he:PE X e ta)(hb:attributeBase e f X.env (eval e X.env)=eval e X.env):PE X (.Attribute e f pos) (Z2 X.K ta f):=by
 intro pins s σ H Q I h;refine WM hb (thn (he pins s σ H _ I h) λu s1 ⟨x,H1,I1,rx,a,C,dx,fs,v,ex,ea,c,n,l,q⟩=>?_);subst ex;obtain rfl:u=Value.ref a:=rx;exact Iz I1 ea c n l λu' s2 I2 ru=>⟨v,H1,I2,ru,q⟩
theorem mV(ha:PE X o ta)(hv:PE X value tv)(hs:swapsWith value (some (.Attribute o f pos')) pos.line X.env=pure false):PS X (.Assign [.Attribute o f pos'] value pos) (Z4 X.K ta tv f):=by
 intro pins s σ H D I h;refine plainObj_wpAny_Assign_Attribute (thn (hv pins s σ H _ I h) λu s1 ⟨y,H1,I1,ry,q⟩=>thn (ha pins s1 σ H1 _ I1 q) λov s2 ⟨x,H2,I2,rx,a,C,dx,fs,ex,ea,c,n,l,q2⟩=>?_) hs;subst ex;obtain rfl:ov=Value.ref a:=rx;exact IK I2 ea c n l ry λs3 I3=>⟨σ,_,I3,q2⟩
end
section
variable{X:Cx}{pins:List (Addr×Obj)}{σ:St}{H:Hp}{s:Shared}{A:Around}{E:xB}{Q:xB}{c:Value}{b:Bool}
inductive cO(K:W.Frag)(H:Hp):V->Value->Prop where
 | non:cO K H .non (.type "NoneType")
 | bl (x:Bool):cO K H (.bl x) (.type "bool")
 | int (i:Int):cO K H (.int i) (.type "int")
 | str (x:Str):cO K H (.str x) (.type "str")
 | flt (x:UInt64):cO K H (.flt x) (.type "float")
 | lst {a:Addr} {xs:List V} (e:H a=some (.lst xs)):cO K H (.ref a) (.type "list")
 | frz {a:Addr} {o:Obj} {xs:List V} (e:H a=some (.frz o (.lst xs))):cO K H (.ref a) (.type "list")
 | tup {a:Addr} {xs:List V} (e:H a=some (.tup xs)):cO K H (.ref a) (.type "tuple")
 | dK {a:Addr} {kvs:List (Key×V)} (e:H a=some (.dK kvs)):cO K H (.ref a) (.type "dict")
 | dT {a:Addr} {kvs:List (List Key×V)} (e:H a=some (.dT kvs)):cO K H (.ref a) (.type "dict")
 | ins {a C dx:Addr} {fs:List (Str×V)} (e:H a=some (.ins C dx fs)) (cl:Cls K C) (ha:W.findIn K (.ref C) "__class__" = some (some (.builtin "object.__class__")))
   (hn:W.specialIn K (.builtin "object.__class__") "__get__" = some (some (.builtin "getset_descriptor.__get__"))) (htk:W.takesIn K (.builtin "object.__class__")=some true)
   (hm:W.mroIn K C (.type "object")=some true):cO K H (.ref a) (.ref C)
theorem yu{x:V}{u t:Value}(I:Inv X pins σ H s)(rx:RelV x u)(ty:cO X.K H x t)(e:W.kitOne X.K t c=some b)(h:∀tk,Q (.bool b) { s with toks:=tk }) :
  wpAny (model X.prog X.w) A (call (.builtin "isinstance") [u,c]) Q E s:=by
 cases ty with
 | non=>cases (show u=Value.none from rx);exact W.kia_one W.kitx_none I.kIn True.intro e (λz=>nomatch z) h
 | bl y=>cases (show u=Value.bool y from rx);exact W.kia_one W.kitx_bool I.kIn True.intro e (λz=>nomatch z) h
 | int i=>obtain⟨t,q⟩:=(show ∃t,u=Value.int i t from rx);cases q;exact W.kia_one W.kitx_int I.kIn True.intro e (λz=>nomatch z) h
 | str y=>obtain⟨t,q⟩:=(show ∃t,u=Value.str y t from rx);cases q;exact W.kia_one W.kitx_str I.kIn True.intro e (λz=>nomatch z) h
 | flt y=>obtain⟨t,q⟩:=(show ∃t,u=Value.float y t from rx);cases q;exact W.kia_one W.kitx_float I.kIn True.intro e (λz=>nomatch z) h
 | @lst a xs ea =>
  cases (show u=Value.ref a from rx);obtain⟨_,_,n,_,h1⟩:=(show cA X.prog X.w H s.heap a (.lst xs) from I.hok a _ ea);exact W.kia_one W.kitx_list I.kIn ⟨_,h1,rfl⟩ e (λz=>nomatch z) h
 | @frz a ob xs ea =>
  cases (show u=Value.ref a from rx);obtain⟨_,_,_,n,_,h1⟩:=(show cA X.prog X.w H s.heap a (.frz ob (.lst xs)) from I.hok a _ ea);exact W.kia_one W.kitx_list I.kIn ⟨_,h1,rfl⟩ e (λz=>nomatch z) h
 | @tup a xs ea =>
  cases (show u=Value.ref a from rx);obtain⟨_,_,_,p⟩:=(show cA X.prog X.w H s.heap a (.tup xs) from I.hok a _ ea);obtain⟨o,h1,h2,_⟩:=p;exact W.kia_one W.kitx_tuple I.kIn ⟨o,h1,h2⟩ e (λz=>nomatch z) h
 | @dK a kvs ea =>
  cases (show u=Value.ref a from rx);obtain⟨_,_,vs,_,p⟩:=(show cA X.prog X.w H s.heap a (.dK kvs) from I.hok a _ ea);obtain⟨o,es,ep,h1,h2,_⟩:=p;exact W.kia_one W.kitx_dict I.kIn ⟨o,h1,h2.1⟩ e (λz=>nomatch z) h
 | @dT a kvs ea =>
  cases (show u=Value.ref a from rx);obtain⟨_,_,xs,_,o,es,ep,h1,h2,_⟩:=(show cA X.prog X.w H s.heap a (.dT kvs) from I.hok a _ ea);exact W.kia_one W.kitx_dict I.kIn ⟨o,h1,h2.1⟩ e (λz=>nomatch z) h
 | @ins a C dx fs ea cl ha hn htk hm =>
  cases (show u=Value.ref a from rx);obtain⟨mA,O,_⟩:=sU I.hok ea;obtain⟨od,J,_⟩:=O.look;exact W.kia_one (W.kitx_own (cl.get _) cl.hd ha hn htk hm) I.kIn J e (λz=>nomatch z) h
end
structure Room(k:Nat)(A:Around):Prop where
 hd:A.handled=none
 dp:A.depth+3*k+5<recursionLimit
 un:A.units+16*k+200<cLine
 gd:A.guards=some []
theorem Room.mono{j k:Nat}{A:Around}(r:Room k A)(h:j<=k):Room j A:=⟨r.hd,by have:=r.dp;lia,by have:=r.un;lia,r.gd⟩
theorem Room.deeper{k:Nat}{A:Around}(r:Room (k+1) A)(env:Env):Room k (A.deeper env) :=
 ⟨r.hd,by have:=r.dp;show A.depth+1+3*k+5<_;lia,by have:=r.un;show A.units+3+16*k+200<_;lia,r.gd⟩
theorem IV{A:Around}{C:Addr}{us:xE}{kw:List (Str×Value)}:(A.under (.builtin "type.__call__" ⟨.ref C::us,kw⟩)).depth=A.depth+1:=by
 first|rfl|simp[Around.under,Code.weight,Code.isCreation,Code.isGuard,Code.isCaller,Code.frames,Code.isFrame,guardIds]
theorem IW{A:Around}{C:Addr}{us:xE}{kw:List (Str×Value)}:(A.under (.builtin "type.__call__" ⟨.ref C::us,kw⟩)).units=A.units+1:=by
 first|rfl|simp[Around.under,Code.cUnits,Code.frames,Code.isFrame]
theorem Room.make{k:Nat}{A:Around}(r:Room (k+1) A)(C:Addr)(us:xE)(kw:List (Str×Value)):Room k (A.under (.builtin "type.__call__" ⟨.ref C::us,kw⟩)) :=
 ⟨r.hd,by have:=r.dp;rw[IV];lia,by have:=r.un;rw[IW];lia,by first|exact r.gd|(simp[Around.under,Code.guards,Code.isGuard,guardIds,pushGuards];exact r.gd)⟩
theorem Room.depth{k:Nat}{A:Around}(r:Room k A):A.depth<recursionLimit:=by have:=r.dp;lia
def tZ:TA:=λ_ H Q=>Q [] H
def n6(ta:TE)(tr:TA):TA:=λσ H Q=>ta σ H λx H1=>tr σ H1 λxs H2=>Q (x::xs) H2
section
variable{X:Cx}{e:Expr}{es:List Expr}{te:TE}{t:TA}{pos:Pos}
theorem ak:PA X [] tZ:=λ_ _ _ _ H Q I h=>Calls.spliced_nil ⟨[],H,I,.nil,h⟩
theorem aj(ha:PE X e te)(hr:PA X es t)(hs:starEach (e::es) X.env=(false,eval e X.env)::starEach es X.env:=by rfl):PA X (e::es) (n6 te t):=by
 intro pos pins s σ H Q I h;rw[hs];show wpAny _ _ (spliced ((false,eval e X.env)::backTo pos (starEach es X.env))) _ _ s;refine Calls.spliced_cons (thn (ha pins s σ H _ I h) λu s1 ⟨x,H1,I1,r1,q1⟩=>?_);exact thn (hr pos pins s1 σ H1 _ I1 q1) λus s2 ⟨xs,H2,I2,r2,q2⟩=>⟨x::xs,H2,I2,.cons r1 r2,q2⟩
end
abbrev Sp:=List V->Hp->VK->XK->Prop
abbrev CXT:=List Env->Hp->Shared->XK->Value->Shared->Prop
structure I_(P:Program)(w:World)(K:W.Frag)(mg:xC)(base:Heap)(A:Around)(outer:List Env)(s:Shared)(H:Hp):Prop where
 frames:A.frames=some outer
 mod:Mod K mg base
 bs:∀b o,base.get? b=some o->s.heap.get? b=some o/\H b=none
 bsz:base.objs.size<=s.heap.objs.size
 mz:s.heap.FunFrames base outer
 frf:∀b∈frs outer,H b=none
 hok:HOk P w H s.heap
 bare:AllBare s.gens
def CE(outer:List Env)(P:Program)(w:World)(H:Hp)(s:Shared)(Q:VK)(u:Value)(s':Shared):Prop :=
 ∃v H',s'.os=s.os/\AllBare s'.gens/\Un (frs outer) [] H H' s.heap s'.heap/\HOk P w H' s'.heap/\RelV v u/\Q v H'
def CR(CX:CXT)(outer:List Env)(P:Program)(w:World)(H:Hp)(s:Shared)(Q:VK)(E:XK)(r:Result)(s':Shared):Prop :=
 match r with
 | .ok (.ret u)=>CE outer P w H s Q u s'
 | .ok _=>False
 | .error e=>CX outer H s E e s'
structure jE(P:Program)(w:World)(K:W.Frag)(mg:xC)(base:Heap)(CX:CXT)(k:Nat)(f:Addr)(fd:FuncData)(ps:List Str)(sp:Sp):Prop where
 len:∀vs H Q E,sp vs H Q E->vs.length=ps.length
 run:∀(A:Around)(outer:List Env)(s:Shared)(H:Hp)(args:Args)(us:xE)(vs:List V)(Q:VK)(E:XK),Room k A->I_ P w K mg base A outer s H->BindsTo s fd args (ps.zip us)->Vals vs us->sp vs H Q E ->
  codeAny (model P w) A (.call (.ref f) args) (CR CX outer P w H s Q E) s
theorem I_.make{P:Program}{w:World}{K:W.Frag}{mg:xC}{base:Heap}{A:Around}{outer:List Env}{s:Shared}{H:Hp}(e:I_ P w K mg base A outer s H)(C:Addr)(us:xE)(kw:List (Str×Value)) :
  I_ P w K mg base (A.under (.builtin "type.__call__" ⟨.ref C::us,kw⟩)) outer s H:=⟨by first|exact e.frames|(simpa[Around.under,Code.envs,Code.isFrame,pushEnvs] using e.frames),e.mod,e.bs,e.bsz,e.mz,e.frf,e.hok,e.bare⟩
section
variable{X:Cx}{pins:List (Addr×Obj)}{σ:St}{H:Hp}{s s':Shared}
theorem Inv.env0(I:Inv X pins σ H s):I_ X.prog X.w X.K X.mg X.base X.A X.stack s H :=
 ⟨I.ok.frames,I.ok.mod,I.bs,rX I.ok.bsz I.sz,I.stack,I.nW,I.hok,I.bare⟩
theorem Inv.after{Q:VK}{u:Value}(I:Inv X pins σ H s)(h:CE X.stack X.prog X.w H s Q u s'):EP X pins σ Q u s':=by
 obtain⟨v,H',os,bare,un,hok,r,q⟩:=h;obtain⟨hh,g,d,t,os'⟩:=s';obtain rfl:os'=s.os:=os;exact⟨v,H',I.call (h':=hh) (g':=g) (d':=d) (t':=t) (ch:=[]) un hok bare (λb z=>absurd z (by simp)),r,q⟩
end
def KQ(sp:Sp)(dvs:List V)(E:XK)(t:TA):TE:=λσ H Q=>t σ H λvs H1=>sp (vs++dvs) H1 Q E
def yw(C:Addr)(m:Str)(sp:Sp)(dvs:List V)(E:XK)(ta:TE)(t:TA):TE:=λσ H Q=>ta σ H λx H1=>∃a dx fs,x=.ref a/\H1 a=some (.ins C dx fs)/\fs.lookup m=none /\
 t σ H1 λvs H2=>sp (x::(vs++dvs)) H2 Q E
def Binds(K:W.Frag)(fd:FuncData)(ps:List Str)(ds:xE):Prop :=
 ∀(s:Shared)(us:xE),K.In s.heap->(us++ds).length=ps.length->BindsTo s fd ⟨us,[]⟩ (ps.zip (us++ds))
theorem Binds.all{K:W.Frag}{fd:FuncData}{ps:List Str}(h:∀us:List Value,us.length=ps.length->bindArgs fd ⟨us,[]⟩=pure (ps.zip us)):Binds K fd ps []:=λs us _ hl=>by
 rw[mI] at hl ⊢;exact .of_eq (h us hl)
def Passes(CX:CXT)(X:Cx)(E:XK):Prop:=∀(pins:List (Addr×Obj)) (σ:St) (H:Hp) (s:Shared) (e:Value) (s':Shared),Inv X pins σ H s->CX X.stack H s E e s'->X.xe e s'
section
variable{X:Cx}{CX:CXT}{k:Nat}{f C:Addr}{fd:FuncData}{ps:List Str}{sp:Sp}{dvs:List V}{ds:xE}{E:XK}{x m:Str}{p pos apos:Pos}{e o:Expr}{es:List Expr}{ta:TE}{t:TA}
theorem Ja{pins:List (Addr×Obj)}{σ:St}{H:Hp}{s:Shared}{Q:VK}{us:xE}{vs:List V}(F:jE X.prog X.w X.K X.mg X.base CX k f fd ps sp)(hr:Room k X.A)(hb:Binds X.K fd ps ds)(hd:Vals dvs ds)(hx:Passes CX X E)
  (I:Inv X pins σ H s) (r:Vals vs us) (h:sp (vs++dvs) H Q E):wpAny (model X.prog X.w) X.A (call (.ref f) us) (EP X pins σ Q) X.xe s:=by
 have r2:Vals (vs++dvs) (us++ds):=r.append hd;have hl:(us++ds).length=ps.length:=by rw[<- r2.length];exact F.len _ _ _ _ h
 refine wpAny_call (codeAny_mono (F.run X.A X.stack s H ⟨us,[]⟩ (us++ds) (vs++dvs) Q E hr I.env0 (hb s us I.kIn hl) r2 h) λr s' hq=>?_);cases r with
 | error e=>exact hx pins σ H s e s' I hq
 | ok fl =>
  cases fl with
  | ret u=>exact I.after hq
  | next=>exact False.elim hq
  | brk=>exact False.elim hq
  | cont=>exact False.elim hq
theorem WQ(F:jE X.prog X.w X.K X.mg X.base CX k f fd ps sp)(hr:Room k X.A)(hg:Gl X x)(hm:X.mg x=some (.ref f))(hk:W.keepIn X.K (.ref f)=true)(hb:Binds X.K fd ps ds)(hd:Vals dvs ds)(hx:Passes CX X E)
  (ha:PA X (e::es) t) (hdb:(x==("__debug__" : Str))=false:=by decide) (he:starEach (e::es) X.env=(false,eval e X.env)::starEach es X.env:=by rfl) (hpl:(backTo pos (starEach es X.env)).any (·.1)=false:=by rfl) :
  PE X (.Call (.Name x p) (e::es) [] pos) (KQ sp dvs E t):=by
 intro pins s σ H Q I h;refine wpAny_Call_Name_kw (jA I hg hm ?_ hdb);refine W.callWith_K (h₀:=X.base) I.ok.mod.kin hk (thn (ha pos pins s σ H _ I h) λus s1 ⟨vs,H1,I1,r,q⟩=>⟨I1.kIn,?_⟩) he hpl;exact Ja F hr hb hd hx I1 r q
theorem WR{pl:Sem Bool}(he:PE X o ta)(c:Cls X.K C)(hm:Meth X.K C m f)(F:jE X.prog X.w X.K X.mg X.base CX k f fd ps sp)(hr:Room k X.A)(hb:Binds X.K fd ps ds)(hd:Vals dvs ds)(hx:Passes CX X E)(ha:PA X (e::es) t)
  (hst:starEach (e::es) X.env=(false,eval e X.env)::starEach es X.env:=by rfl) (hpl:(backTo pos (starEach es X.env)).any (·.1)=false:=by rfl)
  (ht:eval (.Call (.Attribute o m apos) (e::es) [] pos) X.env=(do
   let ov <- eval o X.env
   standAt apos.atName
   let (f,first) <- holding [ov] (getMethod ov m pl)
   callWith pos f first (backTo pos (starEach (e::es) X.env)) (backToKw pos (keywordEach [] X.env))):=by rfl) :
  PE X (.Call (.Attribute o m apos) (e::es) [] pos) (yw C m sp dvs E ta t):=by
 intro pins s σ H Q I h;refine W.methodCall_KW (pl:=pl) (thn (he pins s σ H _ I h) λu s1 ⟨x,H1,I1,rx,a,dx,fs,ex,ea,l,q⟩=>?_) ht;subst ex;obtain rfl:u=Value.ref a:=rx;refine tY I1 ea c hm l ?_;refine W.callWith_K (first:=[.ref a]) (h₀:=X.base) I.ok.mod.kin hm.kp (thn (ha pos pins s1 σ H1 _ I1 q) λus s2 ⟨vs,H2,I2,r,q2⟩=>⟨I2.kIn,?_⟩) hst hpl;exact Ja (us:=.ref a::us) (vs:=.ref a::vs) F hr hb hd hx I2 (.cons rfl r) q2
theorem Rz{pl:Sem Bool}(he:PE X o ta)(c:Cls X.K C)(hm:Meth X.K C m f)(F:jE X.prog X.w X.K X.mg X.base CX k f fd ps sp)(hr:Room k X.A)(hb:Binds X.K fd ps ds)(hd:Vals dvs ds)(hx:Passes CX X E)
  (ht:eval (.Call (.Attribute o m apos) [] [] pos) X.env=(do
   let ov <- eval o X.env
   standAt apos.atName
   let (f,first) <- holding [ov] (getMethod ov m pl)
   callWith pos f first (backTo pos (starEach [] X.env)) (backToKw pos (keywordEach [] X.env))):=by rfl) :
  PE X (.Call (.Attribute o m apos) [] [] pos) (yw C m sp dvs E ta tZ):=by
 intro pins s σ H Q I h;refine W.methodCall_KW (pl:=pl) (thn (he pins s σ H _ I h) λu s1 ⟨x,H1,I1,rx,a,dx,fs,ex,ea,l,q⟩=>?_) ht;subst ex;obtain rfl:u=Value.ref a:=rx;refine tY I1 ea c hm l ?_;exact W.callWith_K0 (first:=[.ref a]) I1.kIn hm.kp (Ja (us:=[.ref a]) (vs:=[.ref a]) F hr hb hd hx I1 (.cons rfl .nil) q)
structure Mk(K:W.Frag)(C f:Addr):Prop where
 makes:W.makesIn K C=true
 init:W.findIn K (.ref C) "__init__" = some (some (.ref f))
 fn:W.isFn K (.ref f)=true
 kp:W.keepIn K (.ref C)=true
theorem RB{pins:List (Addr×Obj)}{σ:St}{H:Hp}{s:Shared}{Q:VK}{us:xE}{vs:List V}(M:Mk X.K C f)(F:jE X.prog X.w X.K X.mg X.base CX k f fd ps sp)(hr:Room (k+1) X.A)(hb:Binds X.K fd ps ds)(hd:Vals dvs ds)
  (hx:Passes CX X E) (I:Inv X pins σ H s) (r:Vals vs us)
  (h:∀x dx,H x=none->H dx=none->dx≠x->sp (.ref x::(vs++dvs)) (upd (upd H dx (.own x)) x (.ins C dx [])) (λv H2=>v=.non/\Q (.ref x) H2) E) :
  wpAny (model X.prog X.w) X.A (call (.ref C) us) (EP X pins σ Q) X.xe s:=by
 have hq:=h (s.heap.objs.size+1) s.heap.objs.size (I.hok.fresh (Nat.le_succ _)) (I.hok.fresh (uC _)) (qS (Nat.lt_succ_self _));have I2:=Inv.made (C:=C) I;have r2:Vals (V.ref (s.heap.objs.size+1)::(vs++dvs)) (Value.ref (s.heap.objs.size+1)::(us++ds)):=.cons rfl (r.append hd);have hl:(Value.ref (s.heap.objs.size+1)::us++ds).length=ps.length:=by
  have e:=r2.length;rw[F.len _ _ _ _ hq] at e;exact e.symm
 refine wpAny_call (Ry (f:=f) I.kIn M.makes M.init (beq_iff_eq.mp M.fn) (codeAny_mono (F.run _ X.stack _ _ ⟨Value.ref (s.heap.objs.size+1)::us,[]⟩ (Value.ref (s.heap.objs.size+1)::(us++ds)) _ _ E (hr.make C us [])
  (I2.env0.make C us []) (hb _ (Value.ref (s.heap.objs.size+1)::us) I2.kIn hl) r2 hq) λr s' hq'=>?_))
 cases r with
 | error e=>exact hx pins σ _ _ e s' I2 hq'
 | ok fl =>
  cases fl with
  | ret u =>
   obtain⟨v,H',I3,rv,ev,q3⟩:=I2.after hq';subst ev;exact⟨rv,⟨V.ref (s.heap.objs.size+1),H',I3,rfl,q3⟩⟩
  | next=>exact False.elim hq'
  | brk=>exact False.elim hq'
  | cont=>exact False.elim hq'
end
structure aJ(N P:List Str)(sc:Scope):Prop where
 kind:sc.kind=.function
 co:sc.isCoroutine=false
 gen:sc.isGenerator=false
 nd:N.Nodup
 pre:N.take P.length=P
 par:∀x∈P,sc.names.lookup x=some .local\/sc.names.lookup x=some .cell
 Z5:∀y∈sc.names,y.2≠.free
theorem yx{kindOf:Str->Option NameKind}{x:Str}:∀{binds:List (Str×Value)} {m:xC},(∀v,(x,v) ∉ binds)->bindL kindOf binds m x=m x
 | [],_,_=>rfl
 | (n,v)::r,m,h=>by
  unfold bindL;rw[yx λw hw=>h w (zD _ hw)];split
  ·have:x≠n:=by rintro rfl;exact h v zC
   simp[this]
  ·rfl
theorem yC{kindOf:Str->Option NameKind}{x:Str}:∀{binds:List (Str×Value)} {m:xC},(∀v,(x,v) ∉ binds)->bindC kindOf binds m x=m x
 | [],_,_=>rfl
 | (n,v)::r,m,h=>by
  unfold bindC;rw[yC λw hw=>h w (zD _ hw)];split
  ·rfl
  ·have:x≠n:=by rintro rfl;exact h v zC
   simp[this]
theorem yD{kindOf:Str->Option NameKind}{x:Str}{v:Value}:∀{P:List Str} {vs:xE} {i:Nat} {m:xC},P.Nodup->P[i]?=some x->vs[i]?=some v->kindOf x=some .local ->
  bindL kindOf (P.zip vs) m x=some v
 | [],_,_,_,_,h,_,_=>by simp at h
 | _::_,[],_,_,_,_,h,_=>by simp at h
 | p::P,w::vs,0,m,nd,h1,h2,hk=>by
  simp at h1 h2;subst h1;subst h2;show bindL kindOf ((p,w)::P.zip vs) m p=_;unfold bindL;rw[yx λv hv=>(List.nodup_cons.mp nd).1 (List.of_mem_zip hv).1,zS hk];simp
 | p::P,w::vs,i+1,m,nd,h1,h2,hk=>by
  show bindL kindOf ((p,w)::P.zip vs) m x=_;unfold bindL;exact yD (i:=i) (List.nodup_cons.mp nd).2 (by simpa using h1) (by simpa using h2) hk
theorem yE{kindOf:Str->Option NameKind}{x:Str}{v:Value}:∀{P:List Str} {vs:xE} {i:Nat} {m:xC},P.Nodup->P[i]?=some x->vs[i]?=some v->kindOf x≠some .local ->
  bindC kindOf (P.zip vs) m x=some v
 | [],_,_,_,_,h,_,_=>by simp at h
 | _::_,[],_,_,_,_,h,_=>by simp at h
 | p::P,w::vs,0,m,nd,h1,h2,hk=>by
  simp at h1 h2;subst h1;subst h2;show bindC kindOf ((p,w)::P.zip vs) m p=_;unfold bindC;rw[yC λv hv=>(List.nodup_cons.mp nd).1 (List.of_mem_zip hv).1,yB hk];simp
 | p::P,w::vs,i+1,m,nd,h1,h2,hk=>by
  show bindC kindOf ((p,w)::P.zip vs) m x=_;unfold bindC;exact yE (i:=i) (List.nodup_cons.mp nd).2 (by simpa using h1) (by simpa using h2) hk
def start(N:List Str)(vs:List V):St:=vs.map some++List.replicate (N.length-vs.length) none
def gQ(CX:CXT)(P:Program)(w:World)(K:W.Frag)(mg:xC)(base:Heap)(N:List Str)(qual:Str)(scope:Scope)(f:Addr)(cd:Value)(A:Around)(outer:List Env)(s:Shared)(H:Hp)(E:XK):Cx where
 prog:=P
 w:=w
 K:=K
 mg:=mg
 base:=base
 A:=A.deeper (envOfC qual scope s.heap.objs.size f cd)
 N:=N
 s₀:=s
 H₀:=H
 env:=envOfC qual scope s.heap.objs.size f cd
 outer:=outer
 stack:=envOfC qual scope s.heap.objs.size f cd::outer
 ex:=[]
 calm:=true
 fn:=λ_=>true
 pn:=[]
 xe:=λe s'=>wpAny (model P w) (A.deeper (envOfC qual scope s.heap.objs.size f cd)) (leaving (envOfC qual scope s.heap.objs.size f cd) e) (λ_ s''=>CX outer H s E e s'') (λe' s''=>CX outer H s E e' s'') s'
theorem DW{sc:Scope}{n:Nat}{x:Str}(h:sc.names.lookup x=some .cell):∃c,(cellsFrom n sc.names []).lookup x=some c:=by
 have q:=W.cellsFrom_some sc.names n [] (.inl h);exact Option.isSome_iff_exists.mp q
theorem Ou{CX:CXT}{P:Program}{w:World}{K:W.Frag}{mg:xC}{base:Heap}{N ps:List Str}{qual:Str}{scope:Scope}{f:Addr}{cd:Value}{A:Around}{outer:List Env}{s s1:Shared}{H:Hp}{E:XK}{us:xE}{vs:List V}
  (S:aJ N ps scope) (hd:A.handled=none) (e0:I_ P w K mg base A outer s H) (hl:vs.length=ps.length) (r:Vals vs us)
  (x:InCallC s s.heap.objs.size (bindL (envOfC qual scope s.heap.objs.size f cd).kindOf (ps.zip us) λ_=>none) (cellsFrom (s.heap.objs.size+1) scope.names []) (bindC (envOfC qual scope s.heap.objs.size f cd).kindOf (ps.zip us) λ_=>none) s1) :
  Inv (gQ CX P w K mg base N qual scope f cd A outer s H E) [] (start N vs) H s1:=by
 have hpl:ps.length<=N.length:=by have:=gI List.length S.pre;rw[oQ] at this;lia
 obtain⟨h1,tk,rfl,hk⟩:=x.done;have noA:∀b:Addr,b ∉ (gQ CX P w K mg base N qual scope f cd A outer s H E).ex:=λb z=>absurd (show b∈([]:List Addr) from z) (by simp)
 refine⟨⟨e0.mod,S.kind,rfl,rfl,uC _,λy z c h1 h2=>?_,λy hy=>?_,λy c _ h=>?_,λ_=>hd,Around.frames_deeper e0.frames,.inr ⟨rfl,rfl⟩,λb z=>gL z (noA b),e0.bs,e0.bsz,λb _ _=>noA b,λb z=>gL z (noA b),e0.mz,e0.frf⟩,
  rfl,e0.bare,Un.kept hk,⟨_,x.toInCall.ns,λi y v h1 h2 h3=>?_⟩,λy c h=>⟨_,x.cell y c h⟩,e0.hok.fresh (Nat.le_refl _),λy c h=>?_,λp hp=>absurd (show p∈([]:List (Addr×Obj)) from hp) (by simp),e0.hok.kept hk,?_⟩
 ·exact name_of_addr x.apart (PySem.mem_of_lookup h1) (PySem.mem_of_lookup h2)
 ·have hy:scope.names.lookup y=some .cell\/scope.names.lookup y=some .free:=hy;rcases hy with hy|hy
  ·exact DW hy
  ·exact gL rfl (S.Z5 _ (PySem.mem_of_lookup hy))
 ·exact Nat.le_of_lt (x.above y c (PySem.mem_of_lookup h))
 ·have hi:i<vs.length:=by
   unfold start at h2;by_cases hi:i<vs.length
   ·exact hi
   ·rw[List.getElem?_append_right (by simpa using hi)] at h2;rw[List.getElem?_replicate] at h2;split at h2 <;> cases h2
  have ha:vs[i]?=some v:=by
   unfold start at h2;rw[List.getElem?_append_left (by simpa using hi),List.getElem?_map] at h2;cases e:vs[i]? with
   | none=>rw[e] at h2;cases h2
   | some a=>rw[e] at h2;cases h2;rfl
  obtain⟨u,hu,rv⟩:=r.get ha;have hp:ps[i]?=some y:=by
   rw[<- S.pre,List.getElem?_take_of_lt (by lia)];exact h1
  have ndP:ps.Nodup:=by rw[<- S.pre];exact S.nd.sublist (List.take_sublist _ _)
  refine⟨u,rv,?_⟩;rcases S.par y (yY hp) with k|k
  ·exact .inl ⟨k,yD ndP hp hu k⟩
  ·obtain⟨c,e⟩:=DW (n:=s.heap.objs.size+1) k;refine .inr ⟨.inl k,c,e,?_⟩;have q:=x.cell y c e;rw[yE ndP hp hu (by show scope.names.lookup y≠_;rw[k];decide)] at q;exact q
 ·exact e0.hok.fresh (Nat.le_of_lt (x.above y c (PySem.mem_of_lookup h)))
 ·unfold start;show _=N.length;rw[yT,wP,mM]
  lia
theorem t_{CX:CXT}{P:Program}{w:World}{K:W.Frag}{mg:xC}{base:Heap}{k:Nat}{f:Addr}{name qual:Str}{params:Arguments}{body:List Stmt}{scope:Scope}{dV kV doc pm cdv ct oc:Value}{an od:xL}
  {osl:Array (Option Value)} {N ps:List Str} {sp:Sp} (lk:K.lookup f=some ⟨oc,od,.func (W.fnOf name qual params body scope dV kV doc pm an cdv ct),osl⟩) (hcd:W.codeIn K cdv qual=true) (S:aJ N ps scope)
  (len:∀vs H Q E,sp vs H Q E->vs.length=ps.length)
  (hbody:∀(A:Around)(outer:List Env)(s:Shared)(H:Hp)(vs:List V)(Q:VK)(E:XK),Room k (A.deeper (envOfC qual scope s.heap.objs.size f cdv))->sp vs H Q E ->
   ∃t,PSs (gQ CX P w K mg base N qual scope f cdv A outer s H E) body t/\t { nx:=λ_ H'=>Q .non H',rt:=Q } (start N vs) H) :
  jE P w K mg base CX (k+1) f (W.fnOf name qual params body scope dV kV doc pm an cdv ct) ps sp:=by
 refine⟨len,λA outer s H args us vs Q E hr e0 hb r hsp=>?_⟩;have hl:=len _ _ _ _ hsp;have KX:K.In s.heap:=e0.mod.kin.keeps λb o e=>(e0.bs b o e).1
 have lim:s.heap.NoLimit:=e0.mod.nolimit.keeps λb o e=>(e0.bs b o e).1
 have hkind:∀y∈ps.zip us,scope.names.lookup y.1=some .local\/(scope.names.lookup y.1=some .cell/\((cellsFrom (s.heap.objs.size+1) scope.names []).lookup y.1).isSome=true):=λ⟨n,v⟩ hy=>by
  rcases S.par n (List.of_mem_zip hy).1 with q|q
  ·exact .inl q
  ·exact .inr ⟨q,W.cellsFrom_some _ _ _ (.inl q)⟩
 refine codeAny_call_function hr.depth (KX _ _ lk) rfl S.co S.gen rfl (W.codeRec_of KX hcd) (hb _ _ _ _ ?_);refine wpAny_newFunctionEnv_cells S.kind hkind λenv he s1 x=>?_
 subst he;refine⟨lim.keeps x.toInCall.keep,codeAny_func ?_⟩;obtain⟨t,ht,hq⟩:=hbody A outer s H vs Q E (hr.deeper _) hsp;have I:Inv (gQ CX P w K mg base N qual scope f cdv A outer s H E) [] (start N vs) H s1:=Ou S hr.hd e0 hl r x;refine mB (ht [] s1 (start N vs) H _ I hq) (λfl s' hs=>?_) λe s' hs=>hs
 have fin:∀{σ':St} {H':Hp} {v:V} {u:Value},Inv (gQ CX P w K mg base N qual scope f cdv A outer s H E) [] σ' H' s'->RelV v u->Q v H'->CE outer P w H s Q u s' :=
  λ{σ' H' v u} J rv q=>⟨v,H',J.os,J.bare,J.base,J.hok,rv,q⟩
 cases fl with
 | ret u =>
  obtain⟨v,σ',H',J,rv,q⟩:=hs;exact fin J rv q
 | next =>
  obtain⟨σ',H',J,q⟩:=hs;exact fin (v:=V.non) (u:=Value.none) J rfl q
 | brk =>
  obtain⟨_,_,_,q⟩:=hs;exact False.elim q
 | cont =>
  obtain⟨_,_,_,q⟩:=hs;exact False.elim q
section
variable{X:Cx}{x:Str}{p pos:Pos}{e:Expr}{es:List Expr}{t:TA}{id T:String}{r:List V->Hp->VK->Prop}
def tCB(r:List V->Hp->VK->Prop)(t:TA):TE:=λσ H Q=>t σ H λvs H1=>r vs H1 Q
theorem aR(hc:fW X (.builtin id) r)(hg:Gl X x)(hm:X.mg x=none)(hv:bootBuiltins x=some (.builtin id))(ha:PA X (e::es) t)(hn:x ≠ "__name__":=by decide)(hdb:(x==("__debug__" : Str))=false:=by decide)
  (he:starEach (e::es) X.env=(false,eval e X.env)::starEach es X.env:=by rfl) (hpl:(backTo pos (starEach es X.env)).any (·.1)=false:=by rfl):PE X (.Call (.Name x p) (e::es) [] pos) (tCB r t):=by
 intro pins s σ H Q I h;refine wpAny_Call_Name_kw (iy I hg hm hv ?_ hn hdb);exact PyProof.Rows.callWith_builtin1 (thn (ha pos pins s σ H _ I h) λus s1 ⟨vs,H1,I1,r1,q1⟩=>hc pins s1 σ H1 vs us Q I1 r1 q1) he hpl
theorem dz(hc:fW X (.type T) r)(hg:Gl X x)(hm:X.mg x=none)(hv:bootBuiltins x=some (.type T))(ha:PA X (e::es) t)(hn:x ≠ "__name__":=by decide)(hdb:(x==("__debug__" : Str))=false:=by decide)
  (he:starEach (e::es) X.env=(false,eval e X.env)::starEach es X.env:=by rfl) (hpl:(backTo pos (starEach es X.env)).any (·.1)=false:=by rfl):PE X (.Call (.Name x p) (e::es) [] pos) (tCB r t):=by
 intro pins s σ H Q I h;refine wpAny_Call_Name_kw (iy I hg hm hv ?_ hn hdb);exact PyProof.Rows.callWith_type1 (thn (ha pos pins s σ H _ I h) λus s1 ⟨vs,H1,I1,r1,q1⟩=>hc pins s1 σ H1 vs us Q I1 r1 q1) he hpl
end
end L2
namespace HT
open PySem PyProof.Rows
def lexLt:List Int->List Int->Bool
 | [],[]=>false
 | [],_::_=>true
 | _::_,[]=>false
 | x::xs,y::ys=>if x=y then lexLt xs ys else decide (x<y)
theorem Jb(x y:Int)(xs ys:List Int):lexLt (x::xs) (y::ys)=if x=y then lexLt xs ys else decide (x<y):=rfl
theorem xT:lexLt [] []=false:=rfl
theorem uc(y:Int)(ys:List Int):lexLt [] (y::ys)=true:=rfl
theorem ud(x:Int)(xs:List Int):lexLt (x::xs) []=false:=rfl
theorem RD(A:Around)(s:Shared)(a:Int)(t:Tok)(c:Int)(u:Tok):∃e,SeqAt.EqAt A s (.int a t) (.int c u) e/\(e=true ↔ a=c) :=
 ⟨(a==c),SeqAt.EqAt.int_int a t c u,by simp⟩
theorem RG(A:Around)(s:Shared)(a:Int)(t:Tok)(c:Int)(u:Tok)(prog:Program)(w:World)(E:xB)(Q:xB)(h:Q (.bool (decide (a<c))) s) :
  wpAny (model prog w) A (richCompare .Lt (.int a t) (.int c u)) Q E s :=
 (PyProof.Rows.lt_int h:wpAny (model prog w) A (compareOp .Lt (.int a t) (.int c u)) Q E s)
section
open PySem.SeqAt
open PySem.AutoSeq1 (wpAny_loadPart')
open PySem.MeetsSeq PySem.MeetsSeq2 PySem.MeetsSeq3
theorem xU(l b:Addr)(items items2:xI)(n n2:Nat)(dd dd2:xL)(sl sl2:Array (Option Value))(ns ms:List Int)(hi:IntsAre items.toList ns)(hj:IntsAre items2.toList ms) :
  Meets (Builtin.«tuple.__lt__» ⟨[.ref l,.ref b],[]⟩)
   (λ_ R s=>s.heap.get? l=some { cls:=.type "tuple", dict:=dd,data:=.seq items n,slots:=sl }/\s.heap.get? b=some { cls:=.type "tuple", dict:=dd2,data:=.seq items2 n2,slots:=sl2 } /\
    R (.ok (.ret (.bool (lexLt ns ms)))) s) :=
 .of_wp λprog w A R s h=>by
  obtain⟨hp,g,d,tk,os⟩:=s;obtain⟨hl,hb,h⟩:=h;have f2:=AutoSeq1.sub_tuple_tuple;have z1:items.size=ns.length:=by rw[<- hi.length];simp
  have z2:items2.size=ms.length:=by rw[<- hj.length];simp
  wp_walk using wpAny_loadPart' hl,wpAny_loadPart' hb,wpAny_forIn_list _ (λrest b s'=>b.1=none/\s'=⟨hp,g,d,tk,os⟩/\∃(vs ws:xE)(ns' ms':List Int),rest=vs.zip ws /\
   IntsAre vs ns'/\IntsAre ws ms'/\ns'.length+items2.size=ms'.length+items.size/\R (.ok (.ret (.bool (lexLt ns' ms')))) ⟨hp,g,d,tk,os⟩) _
  case turn =>
   rintro ⟨y,x⟩ rest b s' ⟨hb',rfl,vs,ws,ns',ms',hz,hvi,hwi,hlen,hR⟩;cases hvi with
   | nil=>rw[List.zip_nil_left] at hz;cases hz
   | cons a t agO =>
    cases hwi with
    | nil=>rw[List.zip_nil_right] at hz;cases hz
    | cons c u agP =>
     rw[List.zip_cons_cons] at hz;injection hz with hyx hrest
     injection hyx with hy hx
     subst hy hx;rw[Jb] at hR;simp only[List.length_cons] at hlen;obtain⟨e,he,hiff⟩:=RD A.in1 ⟨hp,g,d,tk,os⟩ a t c u;refine zI (he prog w _ _ ?_);cases e with
     | true =>
      rw[zS (hiff.mp rfl)] at hR
      wp_walk
      exact⟨rfl,rfl,_,_,_,_,hrest,agO,agP,by lia,hR⟩
     | false =>
      rw[yB (λq=>gL (hiff.mpr q) vF)] at hR;have hri:=RG A.in1 ⟨hp,g,d,tk,os⟩ a t c u prog w
      wp_walk using hri
      exact⟨_,rfl,by simpa using hR⟩
  case fin =>
   rintro ⟨b1,b2⟩ s' ⟨hb',rfl,vs,ws,ns',ms',hz,hvi,hwi,hlen,hR⟩;simp only at hb';subst hb';have hv:lexLt ns' ms'=decide (items.size<items2.size):=by
    cases hvi with
    | nil =>
     cases hwi with
     | nil =>
      simp only[List.length_nil] at hlen;rw[xT];exact(gS (by lia)).symm
     | cons c u hw =>
      simp only[List.length_nil,List.length_cons] at hlen;rw[uc];exact(gX (by lia)).symm
    | cons a t hv =>
     cases hwi with
     | nil =>
      simp only[List.length_nil,List.length_cons] at hlen;rw[ud];exact(gS (by lia)).symm
     | cons c u hw =>
      rw[List.zip_cons_cons] at hz;cases hz
   rw[hv] at hR
   wp_walk
   exact⟨_,rfl,by simpa[Builtin.Tuple.tupleCompareSizes] using hR⟩
  case h =>
   exact⟨rfl,rfl,items.toList,items2.toList,ns,ms,rfl,hi,hj,by lia,h⟩
end
section
variable{prog:Program}{w:World}{A:Around}{E:xB}{s:Shared}
theorem Jc{l b:Addr}{items items2:xI}{ns ms:List Int}{Q:xB}(hl:IsTup s.heap l items)(hb:IsTup s.heap b items2)(hi:IntsAre items.toList ns)(hj:IntsAre items2.toList ms)
  (hu:A.units<cLine) (h:Q (.bool (lexLt ns ms)) s):wpAny (model prog w) A (compareOp .Lt (.ref l) (.ref b)) Q E s:=by
 obtain⟨⟨cls,dd,data,sl⟩,ho,hc,n,hd⟩:=id hl;obtain⟨⟨cls2,dd2,data2,sl2⟩,ho2,hc2,n2,hd2⟩:=id hb;simp only at hc hd hc2 hd2;subst hc hd hc2 hd2;exact richCompare_meets_room (op:=.Lt) ⟨_,ho,rfl⟩ ⟨_,ho2,rfl⟩ PySem.F.slot_tuple_lt PySem.F.entry_tuple_lt (PySem.F.args_tuple_lt_2 _ _) (xU l b items items2 n n2 dd dd2 sl sl2 ns ms hi hj)
  ⟨ho,ho2,show Value.bool (lexLt ns ms)≠Value.notImplemented/\Q (.bool (lexLt ns ms)) s from⟨(λx=>nomatch x),h⟩⟩ hu
def sIx(n d:Nat):Option Int->Nat
 | none=>d
 | some v=>if v<0 then (v+(n:Int)).toNat else min v.toNat n
theorem WT(n d k:Nat):sIx n d (some (k:Int))=min k n:=by
 show (if (k:Int)<0 then ((k:Int)+(n:Int)).toNat else min (k:Int).toNat n)=min k n;rw[yB (by lia),Int.toNat_natCast]
end
end HT
namespace L2
open PySem PySem.Spec PyProof.Rows
abbrev TO:=St->Hp->(Option Int->Hp->Prop)->Prop
def PO(X:Cx)(e:Option Expr)(t:TO):Prop :=
 ∀(pins:List (Addr×Obj)) (s:Shared) (σ:St) (H:Hp) (Q:Option Int->Hp->Prop),Inv X pins σ H s->t σ H Q ->
  wpAny (model X.prog X.w) X.A (evalPart e X.env) (λu s'=>∃o H',Inv X pins σ H' s'/\IsPart u o/\Q o H') X.xe s
def BP:TO:=λ_ H Q=>Q none H
def RJ(t:TE):TO:=λσ H Q=>t σ H λx H1=>∃i,x=.int i/\Q (some i) H1
theorem intsAre_of{ns:List Int}:∀{us:xE},Vals (ns.map V.int) us->IntsAre us ns:=by
 induction ns with
 | nil=>intro us r;rw[List.map_nil] at r;cases r;exact .nil
 | cons n ns ih =>
  intro us r;rw[oS] at r;cases r with
  | cons r1 r2 =>
   obtain⟨t,e⟩:=r1;subst e;exact .cons n t (ih r2)
section
variable{X:Cx}{e:Expr}{te:TE}{lo hi:Option Expr}{tl th:TO}{pos p2:Pos}
theorem WW:PO X none BP:=by
 intro pins s σ H Q I h;rw[evalPart_none];exact rV ⟨none,H,I,.none,h⟩
theorem WX(h:PE X e te):PO X (some e) (RJ te):=by
 intro pins s σ H Q I hw;rw[evalPart_some];refine thn (h pins s σ H _ I hw) λu s1 ⟨x,H1,I1,r1,q1⟩=>?_
 obtain⟨i,rfl,q⟩:=q1;obtain⟨t,rfl⟩:=r1;exact⟨some i,H1,I1,.int i t,q⟩
def SlR(X:Cx)(r:V->Option Int->Option Int->Hp->VK->Prop):Prop :=
 ∀(pins:List (Addr×Obj)) (s:Shared) (σ:St) (H:Hp) (x:V) (v vl vu:Value) (lo hi:Option Int) (sl:Addr) (Q:VK),Inv X pins σ H s->RelV x v->s.heap.IsSliceOf sl vl vu .none->IsPart vl lo->IsPart vu hi->r x lo hi H Q ->
  ∃T id,typeLookup (.type T) "__getitem__" = pure (some (.builtin id))/\s.TypeIs v T/\wpAny (model X.prog X.w) X.A (getItem v (.ref sl)) (EP X pins σ Q) X.xe s
def tSl(r:V->Option Int->Option Int->Hp->VK->Prop)(te:TE)(tl th:TO):TE:=λσ H Q=>te σ H λx H1=>tl σ H1 λl H2=>th σ H2 λu H3=>r x l u H3 Q
theorem RK{r:V->Option Int->Option Int->Hp->VK->Prop}(hr:SlR X r)(he:PE X e te)(hl:PO X lo tl)(hu:PO X hi th):PE X (.Subscript e (.Slice lo hi none p2) pos) (tSl r te tl th):=by
 intro pins s σ H Q I h;refine Subscript_ (thn (he pins s σ H _ I h) λv s1 ⟨x,H1,I1,r1,q1⟩=>?_);refine wpAny_Slice (thn (hl pins s1 σ H1 _ I1 q1) λvl s2 ⟨l,H2,I2,pl,q2⟩=>thn (hu pins s2 σ H2 _ I2 q2) λvu s3 ⟨u,H3,I3,pu,q3⟩=>?_);rw[evalPart_none];refine rV ?_;have I4:Inv X pins σ H3 { s3 with heap:=s3.heap.push { cls:=.type "slice", data:=.fields #[vl,vu,.none] } }:=I3.kept (t':=s3.toks) λb ob q=>uB _ q
 obtain⟨T,id,hT,ht,hg⟩:=hr pins { s3 with heap:=s3.heap.push { cls:=.type "slice", data:=.fields #[vl,vu,.none] } } σ H3 x v vl vu l u s3.heap.objs.size Q I4 r1 (Heap.IsSliceOf.new ..) pl pu q3
 show wpAny (model X.prog X.w) X.A (subscriptTail e (.Slice lo hi none p2) v (.ref s3.heap.objs.size)) (EP X pins σ Q) X.xe { s3 with heap:=s3.heap.push { cls:=.type "slice", data:=.fields #[vl,vu,.none] } }
 exact tail_any (ops:=[.ref s3.heap.objs.size,v]) ht hT hg (by with_unfolding_all rfl)
def xV(xs:List V)(lo hi:Option Int):List V:=(xs.drop (HT.sIx xs.length 0 lo)).take (HT.sIx xs.length xs.length hi-HT.sIx xs.length 0 lo)
theorem DX(xs:List V)(lo hi:Option Int):(xV xs lo hi).length<=xs.length:=by
 unfold xV;rw[oQ,mT]
 lia
end
def ixN(n:Nat)(i:Int):Option Nat:=if 0<=i then (if i<n then some i.toNat else none) else if -(n:Int)<=i then some (i+n).toNat else none
def atI{α:Type}(xs:List α)(i:Int):Option α:=(ixN xs.length i).bind λj=>xs[j]?
theorem KR{n:Nat}{i:Int}{j:Nat}(h:ixN n i=some j):seqIndex? i n=some j/\j<n/\-(n:Int)<=i/\i<n:=by
 unfold ixN at h;by_cases h0:0<=i
 ·rw[zS h0] at h;by_cases h1:i<n
  ·rw[zS h1] at h;have e:i.toNat=j:=nI h;exact⟨by rw[seqIndex_of h0 h1,e],by lia,by lia,h1⟩
  ·rw[yB h1] at h;cases h
 ·rw[yB h0] at h;by_cases h1:-(n:Int)<=i
  ·rw[zS h1] at h;have e:(i+n).toNat=j:=nI h;exact⟨by rw[seqIndex_neg (by lia) h1,e],by lia,h1,by lia⟩
  ·rw[yB h1] at h;cases h
theorem BR{α:Type}{xs:List α}{i:Int}{v:α}(h:atI xs i=some v):∃j,seqIndex? i xs.length=some j/\xs[j]?=some v/\j<xs.length/\-(xs.length:Int)<=i/\i<xs.length:=by
 unfold atI at h;cases e:ixN xs.length i with
 | none=>rw[e] at h;cases h
 | some j =>
  rw[e] at h;obtain⟨h1,h2,h3,h4⟩:=KR e;exact⟨j,h1,h,h2,h3,h4⟩
theorem bB{α:Type}{xs:List α}{j:Nat}{v:α}(h:xs[j]?=some v):atI xs (j:Int)=some v:=by
 have hj:j<xs.length:=(qA.mp h).1;have e:ixN xs.length (j:Int)=some j:=by
  unfold ixN;rw[if_pos (by lia),if_pos (by lia)];simp
 unfold atI;rw[e];exact h
def WY(b:Expr):Prop:=∀o i,subscripted b false o i=operate [o,i] (getItem o i)
def IxR(X:Cx)(r:R2):Prop :=
 ∀(value slice:Expr) (pins:List (Addr×Obj)) (s:Shared) (σ:St) (H:Hp) (x y:V) (v u:Value) (Q:VK),Inv X pins σ H s->RelV x v->RelV y u->r x y H Q ->
  subscripted slice false v u=operate [v,u] (getItem v u)->wpAny (model X.prog X.w) X.A (subscriptTail value slice v u) (EP X pins σ Q) X.xe s
def MtR(X:Cx)(id:String)(r:V->List V->Hp->VK->Prop):Prop :=
 ∀(pins:List (Addr×Obj)) (s:Shared) (σ:St) (H:Hp) (x:V) (xs:List V) (v:Value) (us:xE) (Q:VK),Inv X pins σ H s->RelV x v->Vals xs us->r x xs H Q ->
  wpAny (model X.prog X.w) X.A (call (.builtin id) (v::us)) (EP X pins σ Q) X.xe s
section
variable{X:Cx}{a b:Expr}{ta tb:TE}{pos:Pos}
theorem aH{r:R2}(hr:IxR X r)(ha:PE X a ta)(hb:PE X b tb)(hs:WY b):PE X (.Subscript a b pos) (tOp r ta tb):=by
 intro pins s σ H Q I h;exact Subscript_ (ZS ha hb I h λv u s2 x y H2 I2 rx ry q=>hr a b pins s2 σ H2 x y v u Q I2 rx ry q (hs _ _))
def RL(K:W.Frag):R2:=λx y H Q=>∃p xs i v,x=.ref p/\y=.int i/\SqL K H p xs/\atI xs i=some v/\Q v H
def W0(K:W.Frag):R2:=λx y H Q=>∃p xs i v,x=.ref p/\y=.int i/\SqT K H p xs/\atI xs i=some v/\Q v H
def ada:R2:=λx y H Q=>∃z i c,x=.str z/\y=.int i/\z.length<=sizeLine/\atI z.cps.toList i=some c/\Q (.str ⟨#[c]⟩) H
theorem aO:IxR X (RL X.K):=by
 intro value slice pins s σ H x y v u Q I rx ry h hs;obtain⟨p,xs,i,z,rfl,rfl,hq,he,q⟩:=h;cases rx;obtain⟨t,rfl⟩:=ry;obtain⟨its,r,pl,hz⟩:=I.list hq;obtain⟨j,h1,h2,h3,h4,h5⟩:=BR he;obtain⟨w,ew,rw'⟩:=r.get h2;have hl:=r.length;have hn:=tX;have fin:EP X pins σ Q w s:=⟨z,H,I,rw',q⟩;by_cases h0:0<=i
 ·have hj:i.toNat=j:=by
   rw[seqIndex_of h0 h5] at h1;exact nI h1
  exact item_listR pl.isList h0 (by lia) (by rw[hj];simpa using ew) fin hs
 ·have hj:(i+(its.toArray.size:Int)).toNat=j:=by
   rw[seqIndex_neg (by lia) h4] at h1;rw[nN,<- hl];exact nI h1
  exact subscriptTail_builtinR (x:=w) pl.isList.typeIs slot_list_getitem.lookup
   (wpAny_getItem_list_neg (Q:=λr s'=>r=w/\EP X pins σ Q r s') pl.isList (by lia) (by rw[List.size_toArray] <;> lia) (by lia) (by rw[hj];simpa using ew) ⟨rfl,fin⟩) hs
theorem aZ:IxR X (W0 X.K):=by
 intro value slice pins s σ H x y v u Q I rx ry h hs;obtain⟨p,xs,i,z,rfl,rfl,hq,he,q⟩:=h;cases rx;obtain⟨t,rfl⟩:=ry;obtain⟨its,r,pl,hz⟩:=I.tuple hq;obtain⟨j,h1,h2,h3,h4,h5⟩:=BR he;obtain⟨w,ew,rw'⟩:=r.get h2;have hl:=r.length;have hn:=tX;have fin:EP X pins σ Q w s:=⟨z,H,I,rw',q⟩;exact subscriptTail_builtinR (x:=w) pl.typeIs slot_tuple_getitem.lookup
  (getItem_tuple (j:=j) (Q:=λr s'=>r=w/\EP X pins σ Q r s') pl (by lia) (by lia) (by rw[List.size_toArray,<- hl];exact h1) (by simpa using ew) ⟨rfl,fin⟩) hs
theorem uf:IxR X ada:=by
 intro value slice pins s σ H x y v u Q I rx ry h hs;obtain⟨z,i,c,rfl,rfl,hz,he,q⟩:=h;obtain⟨t,rfl⟩:=rx;obtain⟨t',rfl⟩:=ry;obtain⟨j,h1,h2,h3,h4,h5⟩:=BR he;have hl:z.cps.toList.length=z.length:=by simp[Str.length]
 rw[hl] at h1 h4 h5;have hn:=tX;exact tail_any (typeIs_str s z t) slot_str_getitem.lookup (getItem_str (c:=c) (by
  have e1:decide (i < -(2 ^ 63:Int))=false:=gS (by lia);have e2:decide (i ≥ 2 ^ 63)=false:=gS (by lia);rw[e1,e2,Bool.or_false]) (by rw[h1];simpa using h2) ⟨.str ⟨#[c]⟩,H,I.tok _,⟨_,rfl⟩,q⟩) hs
theorem Jd(its:xE)(n j:Nat)(u:Value):Obj.mapSeq (·.setIfInBounds j u) { cls:=.type "list", data:=.seq its.toArray n }={ cls:=.type "list", data:=.seq (its.set j u).toArray n }:=by
 simp[Obj.mapSeq]
theorem Inv.lst{pins:List (Addr×Obj)}{σ:St}{H:Hp}{s:Shared}{p:Addr}{xs:List V}(I:Inv X pins σ H s)(h:H p=some (.lst xs)) :
  ∃(its:xE)(n:Nat),Vals xs its/\s.heap.get? p=some { cls:=.type "list", data:=.seq its.toArray n }/\xs.length<=sizeLine:=by
 obtain⟨z,its,n,r,e⟩:=I.hok p _ h;exact⟨its,n,r,e,z⟩
theorem Inv.Z6{pins:List (Addr×Obj)}{σ:St}{H:Hp}{s:Shared}{p:Addr}{xs ys:List V}{its its':xE}{n n':Nat}{f:Obj->Obj}(I:Inv X pins σ H s)(h:H p=some (.lst xs))
  (ho:s.heap.get? p=some { cls:=.type "list", data:=.seq its.toArray n }) (hf:f { cls:=.type "list", data:=.seq its.toArray n }={ cls:=.type "list", data:=.seq its'.toArray n' }) (r:Vals ys its') (hz:ys.length<=sizeLine) (t:Nat) :
  Inv X pins σ (upd H p (.lst ys)) { s with heap:=s.heap.update p f,toks:=t }:=by
 have e:(s.heap.update p f).get? p=some { cls:=.type "list", data:=.seq its'.toArray n' }:=by
  rw[Heap.get?_update_self f ho (by rw[hf] <;> rfl),hf]
 refine I.write (x:=p) (e:=p) (by rw[h];trivial) (.inl rfl) (λb u hb q=>(nS _ _ (Ne.symm hb)).trans q) ⟨_,e⟩ ?_;exact⟨hz,its',n',r,e⟩
def adb:V->V->V->Hp->(Hp->Prop)->Prop:=λo i v H Q=>∃p xs k j,o=.ref p/\i=.int k/\H p=some (.lst xs)/\ixN xs.length k=some j/\Q (upd H p (.lst (xs.set j v)))
theorem set_list:ZM X adb:=by
 intro pins s σ H o i v ov iv u Q I ro ri rv h;obtain⟨p,xs,k,j,rfl,rfl,hp,hj,q⟩:=h;cases ro;obtain⟨t,rfl⟩:=ri;obtain⟨its,n,r,ho,hz⟩:=I.lst hp;obtain⟨h1,h2,h3,h4⟩:=KR hj;have hl:=r.length;have hn:=tX;have I':Inv X pins σ (upd H p (.lst (xs.set j v))) { s with heap:=s.heap.update p (Obj.mapSeq (·.setIfInBounds j u)) } :=
  I.Z6 hp ho (Jd its n j u) (r.set rv j) (by rw[List.length_set];exact hz) s.toks
 by_cases h0:0<=k
 ·have hk:k.toNat=j:=by
   rw[seqIndex_of h0 h4] at h1;exact nI h1
  exact W.ki_setAt ho h0 (by lia) (by rw[nN,<- hl];exact h4) (by rw[hk];exact⟨_,I',q⟩)
 ·have hk:(k+(its.toArray.size:Int)).toNat=j:=by
   rw[seqIndex_neg (by lia) h3] at h1;rw[nN,<- hl];exact nI h1
  exact W.ki_setBack ho (by lia) (by rw[nN,<- hl];exact h3) (by lia) (by rw[hk];exact⟨_,I',q⟩)
theorem BW(lo hi:Option Int)(n:Nat):(sliceBounds lo hi none n).1=((HT.sIx n 0 lo:Nat):Int)/\(sliceBounds lo hi none n).2.1=((HT.sIx n n hi:Nat):Int)/\(sliceBounds lo hi none n).2.2=1:=by
 refine⟨?_,?_,rfl⟩
 ·cases lo with
  | none=>simp[sliceBounds,HT.sIx]
  | some i =>
   simp only[sliceBounds,HT.sIx,Option.getD_none,show (1:Int) > 0 by decide,if_true];by_cases h:i<0
   ·simp only[h,if_true] <;> lia
   ·simp only[h,if_false] <;> lia
 ·cases hi with
  | none=>simp[sliceBounds,HT.sIx]
  | some i =>
   simp only[sliceBounds,HT.sIx,Option.getD_none,show (1:Int) > 0 by decide,if_true];by_cases h:i<0
   ·simp only[h,if_true] <;> lia
   ·simp only[h,if_false] <;> lia
theorem xW(its:xE)(lo hi:Option Int):slicePick its.toArray lo hi none=((its.drop (HT.sIx its.length 0 lo)).take (HT.sIx its.length its.length hi-HT.sIx its.length 0 lo)).toArray:=by
 obtain⟨h1,h2,h3⟩:=BW lo hi its.toArray.size;unfold slicePick;rw[h1,h2,h3];simp only[sliceRange_one,pick_run,List.size_toArray] <;> rfl
def agQ(K:W.Frag):V->Option Int->Option Int->Hp->VK->Prop:=λx lo hi H Q=>∃a xs,x=.ref a/\SqL K H a xs/\∀p,H p=none->Q (.ref p) (upd H p (.lst (xV xs lo hi)))
theorem W2:SlR X (agQ X.K):=by
 intro pins s σ H x v vl vu lo hi sl Q I rx hs pl pu h;obtain⟨a,xs,rfl,hx,q⟩:=h;cases rx;obtain⟨its,r,ht,hz⟩:=I.list hx;have hlen:=r.length;refine⟨"list", _,slot_list_getitem.lookup,ht.isList.typeIs,?_⟩;refine wpAny_getItem_list_slice ht.isList hs pl pu .none (by simp) ?_ (by rw[List.size_toArray] <;> lia);rw[xW,<- hlen];refine⟨.ref s.heap.objs.size,_,I.laid (t':=s.toks) (o:=.lst (xV xs lo hi)) (λb ob q=>uB _ q) (uC _) ?_,rfl,q _ (I.hok.fresh (uC _))⟩;exact⟨rX (DX xs lo hi) hz,_,0,(r.drop (HT.sIx xs.length 0 lo)).take (HT.sIx xs.length xs.length hi-HT.sIx xs.length 0 lo),oC _ rfl⟩
def mF:V->Bool
 | .non=>true
 | .bl _=>true
 | .int _=>true
 | .str _=>true
 | _=>false
def eqV:V->V->Bool
 | .non,.non=>true
 | .bl a,.bl b=>a==b
 | .bl a,.int b=>(if a then 1 else 0)==b
 | .int a,.bl b=>a==(if b then 1 else 0)
 | .int a,.int b=>a==b
 | .str a,.str b=>a==b
 | _,_=>false
theorem Z7{A:Around}{s:Shared}{y x:V}{u v:Value}(ry:RelV y u)(rx:RelV x v)(fy:mF y=true)(fx:mF x=true):SeqAt.EqAt A s u v (eqV y x):=by
 cases y with
 | non =>
  cases ry;cases x with
  | non=>cases rx;exact SeqAt.EqAt.same _
  | bl b=>cases rx;exact SeqAt.EqAt.none_bool b
  | int b=>obtain⟨t,rfl⟩:=rx;exact SeqAt.EqAt.none_int b t
  | str b=>obtain⟨t,rfl⟩:=rx;exact SeqAt.EqAt.none_str b t
  | _=>exact gL (show false=true from fx) vF
 | bl a =>
  cases ry;cases x with
  | non=>cases rx;exact SeqAt.EqAt.bool_none a
  | bl b=>cases rx;exact SeqAt.EqAt.bool_bool a b
  | int b=>obtain⟨t,rfl⟩:=rx;exact SeqAt.EqAt.bool_int a b t
  | str b=>obtain⟨t,rfl⟩:=rx;exact SeqAt.EqAt.bool_str a b t
  | _=>exact gL (show false=true from fx) vF
 | int a =>
  obtain⟨t',rfl⟩:=ry;cases x with
  | non=>cases rx;exact SeqAt.EqAt.int_none a t'
  | bl b=>cases rx;exact SeqAt.EqAt.int_bool a t' b
  | int b=>obtain⟨t,rfl⟩:=rx;exact SeqAt.EqAt.int_int a t' b t
  | str b=>obtain⟨t,rfl⟩:=rx;exact SeqAt.EqAt.int_str a t' b t
  | _=>exact gL (show false=true from fx) vF
 | str a =>
  obtain⟨t',rfl⟩:=ry;cases x with
  | non=>cases rx;exact SeqAt.EqAt.str_none a t'
  | bl b=>cases rx;exact SeqAt.EqAt.str_bool a t' b
  | int b=>obtain⟨t,rfl⟩:=rx;exact SeqAt.EqAt.str_int a t' b t
  | str b=>obtain⟨t,rfl⟩:=rx;exact SeqAt.EqAt.str_str a t' b t
  | _=>exact gL (show false=true from fx) vF
 | _=>exact gL (show false=true from fy) vF
def eqU(x:V)(u:Value):Bool:=match u with
 | .none=>eqV .non x
 | .bool b=>eqV (.bl b) x
 | .int i _=>eqV (.int i) x
 | .str z _=>eqV (.str z) x
 | _=>false
theorem Je{x y:V}{u:Value}(r:RelV y u)(f:mF y=true):eqU x u=eqV y x:=by
 cases y with
 | non=>cases r;rfl
 | bl b=>cases r;rfl
 | int i=>obtain⟨t,rfl⟩:=r;rfl
 | str z=>obtain⟨t,rfl⟩:=r;rfl
 | _=>exact gL (show false=true from f) vF
theorem BX{x:V}:∀{xs:List V} {us:xE},Vals xs us->xs.all mF=true->us.any (eqU x)=xs.any λy=>eqV y x
 | _,_,.nil,_=>rfl
 | y::xs,u::us,.cons r t,f=>by
  rw[List.all_cons,Bool.and_eq_true] at f;rw[List.any_cons,List.any_cons,Je r f.1,BX t f.2]
theorem n_{A:Around}{s:Shared}{x:V}{v:Value}(rx:RelV x v)(fx:mF x=true):∀{xs:List V} {us:xE},Vals xs us->xs.all mF=true->∀u∈us,SeqAt.EqAt A s u v (eqU x u)
 | _,_,.nil,_=>λu hu=>by cases hu
 | y::xs,u::us,.cons r t,f=>λu' hu=>by
  rw[List.all_cons,Bool.and_eq_true] at f;rcases vT.mp hu with rfl|hu
  ·rw[Je r f.1];exact Z7 r rx f.1 fx
  ·exact n_ rx fx t f.2 u' hu
def inV(x:V)(xs:List V):Bool:=xs.any λy=>eqV y x
def rIn(K:W.Frag)(neg:Bool):R2:=λx y H Q=>∃p xs,y=.ref p/\(SqL K H p xs\/SqT K H p xs)/\mF x=true/\xs.all mF=true/\Q (.bl (if neg then !inV x xs else inV x xs)) H
theorem yF:OpR X (compareOp .In) (rIn X.K false):=by
 intro pins s σ H x y v u Q I rx ry h;obtain⟨p,xs,rfl,hq,fx,fs,q⟩:=h;cases ry;rcases hq with hq|hq
 ·obtain⟨its,r,pl,hz⟩:=I.list hq;refine SeqAt.in_listAt (eqU x) pl.isList (λw hw=>n_ rx fx r fs w (by simpa using hw)) ⟨.bl _,H,I,rfl,?_⟩;rw[show its.toArray.any (eqU x)=its.any (eqU x) by simp,BX r fs];exact q
 ·obtain⟨its,r,pl,hz⟩:=I.tuple hq;refine SeqAt.in_tupleAt (eqU x) pl (λw hw=>n_ rx fx r fs w (by simpa using hw)) ⟨.bl _,H,I,rfl,?_⟩;rw[show its.toArray.any (eqU x)=its.any (eqU x) by simp,BX r fs];exact q
theorem BZ:fW X (.type "list") (λxs H Q=>∃p ys,xs=[.ref p]/\(SqL X.K H p ys\/SqT X.K H p ys)/\∀l,H l=none->Q (.ref l) (upd H l (.lst ys))):=by
 intro pins s σ H xs us Q I r h;obtain⟨p,ys,rfl,hq,q⟩:=h;obtain⟨u,rfl,rx⟩:=vals1 r;cases rx;have fin:∀(its:xE),Vals ys its->ys.length<=sizeLine->∀(h':Heap)(c':Nat),(∀b o',s.heap.get? b=some o'->h'.get? b=some o') ->
   h'.get? s.heap.objs.size=some { cls:=.type "list", dict:=none,data:=.seq its.toArray c',slots:=#[] }->EP X pins σ Q (.ref s.heap.objs.size) { s with heap:=h' }:=λits r' hz h' c' kp e =>
  ⟨.ref s.heap.objs.size,_,I.laid (t':=s.toks) kp (uC _) (show cA X.prog X.w _ h' _ (.lst ys) from⟨hz,its,c',r',e⟩),rfl,q _ (I.hok.fresh (uC _))⟩
 rcases hq with hq|hq
 ·obtain⟨its,r',pl,hz⟩:=I.list hq;have hlen:=r'.length;obtain⟨o,ho,hc,n,hd⟩:=pl.isList;exact call_list_seq p (.inl rfl) ho hc hd (λh' c' kp e=>fin its r' hz h' c' kp e) (by simp only[List.size_toArray] <;> lia)
 ·obtain⟨its,r',pl,hz⟩:=I.tuple hq;have hlen:=r'.length;obtain⟨o,ho,hc,n,hd⟩:=pl;exact call_list_seq p (.inr rfl) ho hc hd (λh' c' kp e=>fin its r' hz h' c' kp e) (by simp only[List.size_toArray] <;> lia)
def tyV(K:W.Frag)(T:String)(x:V)(H:Hp):Prop:=match x with
 | .str _=>T = "str"
 | .int _=>T = "int"
 | .ref p=>(T = "list" /\ ∃xs,SqL K H p xs)\/(T = "tuple" /\ ∃o,K.lookup p=some o/\o.cls=.type "tuple" /\ o.dict=none) \/
   (T = "dict" /\ ((∃kvs,H p=some (.dK kvs))\/∃kvs,H p=some (.dT kvs)))\/(T = "set" /\ ∃S n,H p=some (.set S n))
 | _=>False
theorem Z8{pins:List (Addr×Obj)}{σ:St}{H:Hp}{s:Shared}{T:String}{x:V}{v:Value}(I:Inv X pins σ H s)(r:RelV x v)(ty:tyV X.K T x H) :
  s.TypeIs v T/\∀a,v=.ref a->∃ob,s.heap.get? a=some ob/\ob.dict=none:=by
 cases x with
 | str z =>
  obtain⟨t,rfl⟩:=r;cases (show T = "str" from ty);exact⟨typeIs_str s z t,λ_ e=>nomatch e⟩
 | int i =>
  obtain⟨t,rfl⟩:=r;cases (show T = "int" from ty);exact⟨typeIs_int s i t,λ_ e=>nomatch e⟩
 | ref p =>
  cases r;rcases ty with⟨rfl,xs,hq⟩|⟨rfl,o,hk,hc,hd⟩|⟨rfl,hk⟩|⟨rfl,S,n,hk⟩
  ·obtain⟨its,_,pl,_⟩:=I.list hq;refine⟨pl.isList.typeIs,λa e=>?_⟩;cases e;obtain⟨o,n,e,c,hd,_⟩:=pl;exact⟨o,e,hd⟩
  ·refine⟨⟨o,I.kIn p o hk,hc⟩,λa e=>?_⟩;cases e;exact⟨o,I.kIn _ o hk,hd⟩
  ·have z:∃o,s.heap.get? p=some o/\o.ExactDict:=by
    rcases hk with⟨kvs,hk⟩|⟨kvs,hk⟩
    ·obtain⟨_,_,_,_,o,_,_,e,ex,_⟩:=I.hok p _ hk;exact⟨o,e,ex⟩
    ·obtain⟨_,_,_,_,o,_,_,e,ex,_⟩:=I.hok p _ hk;exact⟨o,e,ex⟩
   obtain⟨o,e,ex⟩:=z;refine⟨⟨o,e,ex.1⟩,λa e2=>?_⟩;cases e2;exact⟨o,e,ex.2.1⟩
  ·obtain⟨o,_,_,_,e,ex,_⟩:=I.hok p _ hk;refine⟨⟨o,e,ex.1⟩,λa e2=>?_⟩;cases e2;exact⟨o,e,ex.2.1⟩
 | _=>exact False.elim ty
def tBM(K:W.Frag)(T:String)(r:V->List V->Hp->VK->Prop)(to:TE)(t:TA):TE:=λσ H Q=>to σ H λx H1=>tyV K T x H1/\t σ H1 λxs H2=>r x xs H2 Q
variable{o e:Expr}{es:List Expr}{to:TE}{t:TA}{name:Str}{apos cpos:Pos}{T id:String}{r:V->List V->Hp->VK->Prop}
theorem DY(pa:PlainAttrs T)(slot:Slot T name id)(hty:typeOf (.builtin id)=pure (.type "method_descriptor"))(hm:MtR X id r)(ho:PE X o to)(ha:PA X (e::es) t)
  (hbase:attributeBase o name X.env (eval o X.env)=eval o X.env:=by rfl)
  (hfew:((backTo cpos (starEach (e::es) X.env)).all (λx=>!x.1) && (backToKw cpos (keywordEach [] X.env)).all (λx=>x.1.isSome)
   && decide ((e::es).length+([]:List Keyword).length+(if ([]:List Keyword).isEmpty then 0 else 1)<30))=true:=by rfl)
  (hline:(apos.endLine==cpos.line)=true:=by rfl) (hs:starEach (e::es) X.env=(false,eval e X.env)::starEach es X.env:=by rfl) (hplain:(backTo cpos (starEach es X.env)).any (·.1)=false:=by rfl) :
  PE X (.Call (.Attribute o name apos) (e::es) [] cpos) (tBM X.K T r to t):=by
 intro pins s σ H Q I h;refine wpAny_Call_method_late hbase hfew hline rfl (thn (ho pins s σ H _ I h) λv s1 ⟨x,H1,I1,r1,ty,q1⟩=>?_);obtain⟨h1,h2⟩:=Z8 I1 r1 ty;refine⟨T,id,pa,slot,hty,h1,h2,?_⟩;have hA:=ha cpos pins s1 σ H1 _ I1 q1;rw[hs] at hA ⊢;refine Calls.callWith_builtin (by show (false || (backTo cpos (starEach es X.env)).any (·.1))=false;rw[hplain] <;> rfl) (Calls.evalArgs_plain ?_);exact thn hA λus s2 ⟨vs,H2,I2,r2,q2⟩=>hm pins s2 σ H2 x vs v us Q I2 r1 r2 q2
end
def MtM(X:Cx)(id:String)(r:V->List V->Hp->VK->Prop):Prop :=
 ∀(pins:List (Addr×Obj)) (s:Shared) (σ:St) (H:Hp) (x:V) (xs:List V) (v:Value) (us:xE) (Q:VK),Inv X pins σ H s->RelV x v->Vals xs us->r x xs H Q ->
  wpAny (model X.prog X.w) X.A (call (.builtin id) (v::us)) (EP X pins σ Q) X.xe s
theorem Vals.one:∀{x:V} {us:xE},Vals [x] us->∃u,us=[u]/\RelV x u
 | _,_,.cons r .nil=>⟨_,rfl,r⟩
theorem Vals.eraseIdx:∀{xs:List V} {us:xE} (i:Nat),Vals xs us->Vals (xs.eraseIdx i) (us.eraseIdx i)
 | _,_,_,.nil=>.nil
 | _,_,0,.cons _ t=>t
 | _,_,i+1,.cons r t=>.cons r (Vals.eraseIdx i t)
theorem Vals.rep{xs:List V}{us:xE}(h:Vals xs us):∀k:Nat,Vals (List.replicate k xs).flatten (List.replicate k us).flatten
 | 0=>.nil
 | k+1=>by
  rw[List.replicate_succ,List.replicate_succ,List.flatten_cons,List.flatten_cons];exact Vals.append h (Vals.rep h k)
theorem yG{α:Type}:∀(l:List α)(i:Nat),(l.eraseIdx i).length<=l.length
 | [],_=>uC _
 | _::_,0=>Nat.le_succ _
 | _::r,i+1=>Nat.succ_le_succ (yG r i)
theorem foldl_rep(its:xE):∀(k:Nat)(acc:xE),
  List.foldl (λx1 x2=>x1++x2) acc.toArray (List.replicate k its.toArray)=(acc++(List.replicate k its).flatten).toArray
 | 0,acc=>by simp
 | k+1,acc=>by
  have e:acc.toArray++its.toArray=(acc++its).toArray:=by simp
  have e2:(acc++its)++(List.replicate k its).flatten=acc++(List.replicate (k+1) its).flatten:=by
   rw[List.replicate_succ,List.flatten_cons,vS]
  rw[<- e2,<- foldl_rep its k (acc++its),<- e,List.replicate_succ,List.foldl_cons]
section
variable{X:Cx}{pins:List (Addr×Obj)}{σ:St}{H:Hp}{s:Shared}{l:Addr}{xs ys:List V}
theorem Inv.Z9{its its':xE}{n:Nat}{f:Array Value->Array Value}{t':Nat}(I:Inv X pins σ H s)(hH:H l=some (.lst xs))
  (e:s.heap.get? l=some { cls:=.type "list", data:=.seq its.toArray n }) (hf:f its.toArray=its'.toArray) (hv:Vals ys its') (hz:ys.length<=sizeLine) :
  Inv X pins σ (upd H l (.lst ys)) { s with heap:=s.heap.update l (Obj.mapSeq f),toks:=t' }:=by
 have q:=PySem.IsL.update e f;rw[hf] at q;refine I.write (x:=l) (e:=l) (by rw[hH];exact trivial) (.inl rfl) (λb' u hb hu=>(nS s.heap (Obj.mapSeq f) (Ne.symm hb)).trans hu) ⟨_,q⟩ ?_;exact⟨hz,its',_,hv,q⟩
theorem Inv.ade{its:xE}{t':Nat}(I:Inv X pins σ H s)(hv:Vals ys its)(hz:ys.length<=sizeLine) :
  Inv X pins σ (upd H s.heap.objs.size (.lst ys)) { s with heap:=s.heap.push { cls:=.type "list", data:=.seq its.toArray },toks:=t' } :=
 I.laid (λ_ _ q=>uB _ q) (uC _) ⟨hz,its,0,hv,oC _ rfl⟩
theorem Inv.fresh(I:Inv X pins σ H s):H s.heap.objs.size=none:=I.hok.fresh (uC _)
theorem Inv.D_(I:Inv X pins σ H s)(hH:H l=some (.lst xs)):xs.length<=sizeLine/\∃(its:xE)(n:Nat),Vals xs its/\xs.length=its.length/\s.heap.get? l=some { cls:=.type "list", data:=.seq its.toArray n }:=by
 obtain⟨z,its,n,r,e⟩:=I.hok l _ hH;exact⟨z,its,n,r,r.length,e⟩
theorem Ea{n:Nat}(h:n<=sizeLine):Builtin.List.listTooLong n=false:=by
 unfold Builtin.List.listTooLong;exact gS (by lia)
end
section
variable{X:Cx}
def W4:V->List V->Hp->VK->Prop:=λx vs H Q=>∃l xs y,x=.ref l/\vs=[y]/\H l=some (.lst xs)/\xs.length<sizeLine/\Q .non (upd H l (.lst (xs++[y])))
theorem yH:MtM X "list.append" W4:=by
 intro pins s σ H x vs v us Q I rx rv h;obtain⟨l,xs,y,rfl,rfl,hH,hz,q⟩:=h;cases rx;obtain⟨u,rfl,ru⟩:=rv.one;obtain⟨z,its,n,r,hl,e⟩:=I.D_ hH;refine call_meets F.slot_list_append ⟨_,e,rfl⟩ F.entry_list_append (F.args_list_append_2 _ _) (PySem.list_append l its.toArray n u (by rw[nN];lia)) ⟨e,?_⟩;refine⟨.non,_,I.Z9 (its':=its++[u]) hH e (by simp) (r.append (.cons ru .nil)) ?_,rfl,q⟩;rw[yT,List.length_singleton]
 lia
def W5:V->List V->Hp->VK->Prop:=λx vs H Q=>∃l b xs zs,x=.ref l/\vs=[.ref b]/\H l=some (.lst xs)/\H b=some (.lst zs)/\xs.length+zs.length<=sizeLine/\Q .non (upd H l (.lst (xs++zs)))
theorem Ov:MtM X "list.extend" W5:=by
 intro pins s σ H x vs v us Q I rx rv h;obtain⟨l,b,xs,zs,rfl,rfl,hH,hB,hz,q⟩:=h;cases rx;obtain⟨u,rfl,ru⟩:=rv.one;cases ru;obtain⟨z,its,n,r,hl,e⟩:=I.D_ hH;obtain⟨z2,its2,n2,r2,hl2,e2⟩:=I.D_ hB;have hsz:its.toArray.size+its2.toArray.size<=sizeLine:=by rw[nN,nN];lia
 have RM:¬ (!its.toArray.isEmpty && Builtin.List.listTooLong (its.toArray.size+its2.toArray.size))=true:=by
  rw[Ea hsz,Bool.and_false];exact vF
 refine call_meets F.slot_list_extend ⟨_,e,rfl⟩ F.entry_list_extend (F.args_list_extend_2 _ _)
  (AutoSeq1.list_extend_list_list_0 l its.toArray n b its2.toArray n2 RM (by rw[nN];lia) (by lia)) ⟨e,e2,?_⟩
 refine⟨.non,_,I.Z9 (its':=its++its2) hH e (by simp) (r.append r2) ?_,rfl,q⟩;rw[yT]
 lia
def Z_:V->List V->Hp->VK->Prop:=λx vs H Q=>∃l xs i k y,x=.ref l/\vs=[.int i]/\H l=some (.lst xs)/\-(2 ^ 63)<=i/\i<2 ^ 63/\seqIndex? i xs.length=some k/\xs[k]?=some y/\Q y (upd H l (.lst (xs.eraseIdx k)))
theorem RN:MtM X "list.pop" Z_:=by
 intro pins s σ H x vs v us Q I rx rv h;obtain⟨l,xs,i,k,y,rfl,rfl,hH,h1,h2,hk,hy,q⟩:=h;cases rx;obtain⟨u,rfl,ru⟩:=rv.one;obtain⟨t,rfl⟩:=ru;obtain⟨z,its,n,r,hl,e⟩:=I.D_ hH;obtain⟨w,hw,rw'⟩:=r.get hy;refine call_meets F.slot_list_pop ⟨_,e,rfl⟩ F.entry_list_pop (F.args_list_pop_2 _ _)
  (MeetsSeq.list_pop_at l its.toArray n i t k w (fitsIndex_both h1 h2) (by rw[nN,<- hl];exact hk) (by rw[<- Array.getElem?_toList];exact hw) (by rw[nN];lia)) ⟨e,?_⟩
 refine⟨y,_,I.Z9 (its':=its.eraseIdx k) hH e ?_ (r.eraseIdx k) ?_,rw',q⟩
 ·show its.toArray.eraseIdxIfInBounds k=(its.eraseIdx k).toArray;rw[List.eraseIdxIfInBounds_toArray]
 ·have:=yG xs k
  lia
def agR:R2:=λx y H Q=>∃l b xs zs,x=.ref l/\y=.ref b/\H l=some (.lst xs)/\H b=some (.lst zs)/\xs.length+zs.length<=sizeLine/\∀p,H p=none->Q (.ref p) (upd H p (.lst (xs++zs)))
theorem aac:OpR X (binaryOp .Add) agR:=by
 intro pins s σ H x y v u Q I rx ry h;obtain⟨l,b,xs,zs,rfl,rfl,hH,hB,hz,q⟩:=h;cases rx;cases ry;obtain⟨z,its,n,r,hl,e⟩:=I.D_ hH;obtain⟨z2,its2,n2,r2,hl2,e2⟩:=I.D_ hB;refine PySem.P.add_list e e2 ?_ (by rw[nN,nN];lia);have ea:its.toArray++its2.toArray=(its++its2).toArray:=by simp
 rw[ea];exact⟨.ref _,_,I.ade (t':=s.toks) (r.append r2) (by rw[yT];lia),rfl,q _ I.fresh⟩
def agS:R2:=λx y H Q=>∃l k xs,x=.ref l/\y=.int k/\H l=some (.lst xs)/\-(2 ^ 63)<=k/\k<2 ^ 63/\xs.length*k.toNat<=sizeLine /\
 ∀p,H p=none->Q (.ref p) (upd H p (.lst (List.replicate k.toNat xs).flatten))
theorem len_rep{α:Type}(xs:List α)(k:Nat):(List.replicate k xs).flatten.length=k*xs.length:=by
 induction k with
 | zero=>simp
 | succ k ih=>rw[List.replicate_succ,List.flatten_cons,yT,ih,Nat.succ_mul,Nat.add_comm]
theorem aad:OpR X (binaryOp .Mult) agS:=by
 intro pins s σ H x y v u Q I rx ry h;obtain⟨l,k,xs,rfl,rfl,hH,h1,h2,hz,q⟩:=h;cases rx;obtain⟨t,rfl⟩:=ry;obtain⟨z,its,n,r,hl,e⟩:=I.D_ hH;have hlen:its.toArray.size*k.toNat<=sizeLine:=by rw[nN,<- hl];exact hz
 have hcap:¬ its.toArray.size*k.toNat > (2 ^ 63-1) / 8:=by
  have:(sizeLine:Nat)<=(2 ^ 63-1) / 8:=by decide
  lia
 have hfit:¬ (!Builtin.List.listFitsIndex k)=true:=by
  rw[fitsIndex_both h1 h2];exact vF
 have RM:¬ Builtin.List.listTooLong (its.toArray.size*k.toNat)=true:=by
  rw[Ea hlen];exact vF
 have hnew:List.foldl (λx1 x2=>x1++x2) #[] (List.replicate (if its.toArray.isEmpty=true then 0 else k.toNat) its.toArray)=(List.replicate k.toNat its).flatten.toArray:=by
  have f0:∀m:Nat,List.foldl (λx1 x2=>x1++x2) #[] (List.replicate m its.toArray)=(List.replicate m its).flatten.toArray:=λm=>by
   have:=foldl_rep its m [];rw[List.nil_append] at this;exact this
  rw[f0];cases its with
  | nil=>simp
  | cons a r'=>rw[if_neg (by simp)]
 refine wpAny_binaryOp_repeat_ref (T := "list") (U := "int") (by decide) ⟨_,e,rfl⟩ (λs'=>typeIs_int s' k t) noFill_list_mul F.fills_int_mul F.slot_int_rmul repeat_list F.slot_int_index.lookup
  (call_meets F.slot_int_rmul (typeIs_int s k t) F.entry_int_rmul (F.args_int_rmul_2 _ _) (int___rmul___int_list k t l its.toArray n)
   ⟨e,rfl,⟨_,e,rfl⟩,call_meets F.slot_list_mul ⟨_,e,rfl⟩ F.entry_list_mul (F.args_list_mul_2 _ _) (AutoListH.list___mul___list_int_3 l its.toArray n k t hfit hcap RM) ⟨e,?_⟩⟩)
 rw[hnew];exact⟨.ref _,_,I.ade (t':=s.toks) (r.rep k.toNat) (by rw[len_rep,Nat.mul_comm];exact hz),rfl,q _ I.fresh⟩
end
end L2
namespace Att
open PySem PySem.W PySem.Calls PyProof.Rows
theorem sG{P:Params}{h:Heap}:∀(ns:List Int)(vs:xE),WellAll P h vs (ns.map WData.int)->IntsAre vs ns:=by
 intro ns
 induction ns with
 | nil =>
  intro vs w;rw[List.map_nil] at w;cases w;exact .nil
 | cons n ns ih =>
  intro vs w;rw[oS] at w;cases w with
  | cons a b =>
   cases a;exact .cons _ _ (ih _ b)
theorem Ow{l:OpenLaw}{n:Nat}(hn:l.most=some n){P:Params}{h:Heap}{args:List WData}{vals:xE}
  (hpre:l.row.toRowW.claim.pre args=true) (hwl:WellAll P h vals args) :
  ∃a vs ns,vals=[Value.ref a]/\args=[WData.list (ns.map WData.int)]/\h.get? a=some { cls:=.type "list", data:=.seq vs.toArray }/\IntsAre vs ns/\ns.length<=n:=by
 have hsh:WShape.hasAll [] args [.list .int]=true:=(pre_splitW hpre).1;have hc:l.pre.holds [] { args:=args }=true:=(pre_splitW hpre).2;obtain⟨d,r,rfl,h1,h2⟩:=hasAllW_cons hsh;obtain rfl:=hasAllW_nil h2;obtain⟨xs,rfl,h3⟩:=hasW_list h1;obtain⟨ns,rfl⟩:=items_int h3;have hlen:ns.length<=n:=by
  unfold OpenLaw.pre at hc;have h4:(WTm.not (.lt (.lit (.int (n:Int))) (.len (.arg 0)))).holds [] { args:=[.list (ns.map .int)] }=true:=by
   have h4:=(holds_andW hc).1;rw[hn] at h4;exact h4
  have h5:=condW_of h4 (w_not (w_lt w_lit (w_len_list (w_arg rfl))));rw[wP] at h5;refine Nat.le_of_not_lt λq=>?_
  have q':(n:Int)<((ns.length:Nat):Int):=by lia
  first
   | (rw[gX q'] at h5;exact gL h5 (by decide))
   | (simp at h5;lia)
 cases hwl with
 | cons w1 w2 =>
  cases w2;cases w1 with
  | list ho hall=>exact⟨_,_,ns,rfl,rfl,ho,sG ns _ hall,hlen⟩
theorem Ox(l:OpenLaw)(args:List WData):l.row.toRowW.claim.post args (.bool true) args=true :=
 postW_of (r:=l.row.toRowW) (X:=(true==true))
  (show WShape.has [] (.bool true) .bool=true by first|rfl|decide|simp[WShape.has,WShape.arms,WShape.armsAll])
  (show (WTm.eq .res (.lit (.bool true))).value [] { args:=args,res:=some (.bool true),after:=args }=some (.bool (true==true)) from w_eq_bool (w_res rfl) w_lit) rfl
theorem Eb{l:OpenLaw}{n:Nat}{q:Program}{loose:List Str}{XP:(Str->Option Value)->Heap->Prop}{YP:World->Heap->Prop}{d:DefRec}
  (hn:l.most=some n) (hdf:d.params.defaults=[])
  (call:∀(w:World)(s₀ s₁:Shared)(mg mb:xC)(fa:Addr)(o:Obj)(pm cd doc:Value)(a:Addr)(vs:xE)(ns:List Int),
   Ground q loose [] XP w s₀ mg mb s₁.heap->YP w s₁.heap ->
   s₁.heap.get? fa=some o->o.data=.func (docDef d.name d.params d.body d.scope pm cd doc)->s₁.heap.CodeRec cd d.name->mg d.name=some (.ref fa) ->
   s₁.heap.get? a=some { cls:=.type "list", data:=.seq vs.toArray }->IntsAre vs ns->ns.length<=n->s₁.gens=#[] ->
   codeAny (model l.prog w) callerA (.call (.ref fa) ⟨[.ref a],[]⟩) (λr s'=>r=.ok (.ret (.bool true))/\OldK s₁.heap s'.heap/\s'.os=s₁.os/\AllBare s'.gens) s₁) :
  WalkO q loose XP YP l.row.toRowW d [] (λf vs=>PySem.call f vs):=by
 intro w s₀ s₁ mg mb G Y fa o pm cd doc dV kV ho hd hcd hD hmg hg args vals as hpre hlay hrd hwl hlo;obtain rfl:dV=.none:=Dflts.none hD hdf;obtain rfl:kV=.none:=Dflts.noKw hD;obtain⟨a,vs,ns,rfl,rfl,hobj,hints,hlen⟩:=Ow hn hpre hwl;refine enter_call (codeAny_mono (call w s₀ s₁ mg mb fa o pm cd doc a vs ns G Y ho (fd_plain hd) hcd hmg hobj hints hlen hg) λr s' hq=>?_);obtain⟨rfl,h2,h3,h4⟩:=hq;exact⟨.inl ⟨.bool true,.bool true,[],rfl,λ_=>rfl,.bool true,Ox l _,λ_=>⟨List.Pairwise.nil,λ_ hm=>(nomatch hm)⟩⟩,h2,h3,h4⟩
end Att
namespace L2
open PySem PySem.Spec PyProof.Rows
theorem yI:∀{vs:xE} {ns:List Int},IntsAre vs ns->Vals (ns.map V.int) vs
 | _,_,.nil=>.nil
 | _,_,.cons n t h=>.cons ⟨t,rfl⟩ (yI h)
abbrev KOf{K:W.Frag}{h:Heap}(_:K.In h):W.Frag:=K
def inClass(s:Stmt)(j:Nat):Stmt:=match s with
 | .ClassDef _ _ _ body _ _ _ _ _ _ _=>body.getD j (.Pass ⟨0,0,0,0⟩)
 | _=>.Pass ⟨0,0,0,0⟩
def cD(s:Stmt):Arguments:=match s with
 | .FunctionDef _ a _ _ _ _ _ _ _ _=>a
 | _=>{ posonlyargs:=[],args:=[],vararg:=none,kwonlyargs:=[],kw_defaults:=[],kwarg:=none,defaults:=[] }
def bH(s:Stmt):List Stmt:=match s with
 | .FunctionDef _ _ b _ _ _ _ _ _ _=>b
 | _=>[]
def aA(s:Stmt):Scope:=match s with
 | .FunctionDef _ _ _ _ _ _ sc _ _ _=>sc
 | _=>{ kind:=.function,names:=[],isGenerator:=false,isCoroutine:=false }
abbrev CX0:CXT:=λ_ _ _ _ _ _=>False
abbrev E0:XK:=λ_ _ _=>False
theorem yJ{X:Cx}:Passes CX0 X E0:=λ_ _ _ _ _ _ _ h=>h.elim
structure Fun(K:W.Frag)(x qual:Str)(st:Stmt)(f:Addr)(fd:FuncData):Prop where
 ex:∃(oc:Value) (od:xL) (kV doc pm:Value) (an:xL) (cdv ct:Value) (osl:Array (Option Value)),
  fd=W.fnOf x qual (cD st) (bH st) (aA st) .none kV doc pm an cdv ct/\K.lookup f=some ⟨oc,od,.func fd,osl⟩/\W.codeIn K cdv qual=true
 kp:W.keepIn K (.ref f)=true
section
variable{P:Program}{w:World}{K:W.Frag}{mg:xC}{base:Heap}
theorem Fun.ok{x qual:Str}{st:Stmt}{f:Addr}{fd:FuncData}{N ps:List Str}{k:Nat}{sp:Sp}(F:Fun K x qual st f fd)(S:aJ N ps (aA st))(len:∀vs H Q E,sp vs H Q E->vs.length=ps.length)
  (hbody:∀(cdv:Value)(A:Around)(outer:List Env)(s:Shared)(H:Hp)(vs:List V)(Q:VK)(E:XK),Room k (A.deeper (envOfC qual (aA st) s.heap.objs.size f cdv))->sp vs H Q E ->
   ∃t,PSs (gQ CX0 P w K mg base N qual (aA st) f cdv A outer s H E).nox (bH st) t/\t { nx:=λ_ H'=>Q .non H',rt:=Q } (start N vs) H):jE P w K mg base CX0 (k+1) f fd ps sp:=by
 obtain⟨oc,od,kV,doc,pm,an,cdv,ct,osl,rfl,lk,hcd⟩:=F.ex;refine t_ lk hcd S len λA outer s H vs Q E hr hsp=>?_
 obtain⟨t,h,q⟩:=hbody cdv A outer s H vs Q E hr hsp;exact⟨t,h.nox,q⟩
theorem Fun.binds{x qual:Str}{st:Stmt}{f:Addr}{fd:FuncData}{ps:List Str}(F:Fun K x qual st f fd)
  (h:∀(kV doc pm:Value)(an:xL)(cdv ct:Value)(us:xE),us.length=ps.length->bindArgs (W.fnOf x qual (cD st) (bH st) (aA st) .none kV doc pm an cdv ct) ⟨us,[]⟩=pure (ps.zip us)):Binds K fd ps []:=by
 obtain⟨oc,od,kV,doc,pm,an,cdv,ct,osl,rfl,lk,hcd⟩:=F.ex;exact .all (h kV doc pm an cdv ct)
theorem qm{x qual:Str}{st:Stmt}{f:Addr}{oc:Value}{od an:xL}{osl:Array (Option Value)}{kV doc pm cdv ct:Value}(l:K.lookup f=some ⟨oc,od,.func (W.fnOf x qual (cD st) (bH st) (aA st) .none kV doc pm an cdv ct),osl⟩)
  (c:W.codeIn K cdv qual=true) (k:W.keepIn K (.ref f)=true):Fun K x qual st f (W.fnOf x qual (cD st) (bH st) (aA st) .none kV doc pm an cdv ct):=⟨⟨oc,od,kV,doc,pm,an,cdv,ct,osl,rfl,l,c⟩,k⟩
end
section
variable{X:Cx}
theorem pv(i:Nat){x:Str}{pos:Pos}(hN:X.N[i]?=some x:=by rfl)(hv:Vis X.env.scope x:=by first|exact Or.inl rfl|exact Or.inr (Or.inl rfl)|exact Or.inr (Or.inr rfl))(hd:(x==("__debug__" : Str))=false:=by decide)
  (hcd:(x==("__classdict__" : Str))=false:=by decide):PE X (.Name x pos) (dM i):=ZC hN hv hd hcd
end
theorem adf{A B:Prop}(h:B):if false=true then A else B:=by
 rw[yB vF];exact h
theorem adg{A B:Prop}(h:A):if true=true then A else B:=by
 rw[zS rfl];exact h
def Same(H H':Hp):Prop:=∀b o,H b=some o->H' b=some o
theorem Same.refl(H:Hp):Same H H:=λ_ _ h=>h
theorem Same.trans{H H1 H2:Hp}(a:Same H H1)(b:Same H1 H2):Same H H2:=λc o h=>b c o (a c o h)
theorem Same.free{H H':Hp}(e:Same H H'){l:Addr}(h:H' l=Option.none):H l=Option.none:=by
 cases q:H l with
 | none=>rfl
 | some o =>
  rw[e l o q] at h;cases h
theorem Same.seq{K:W.Frag}{H H':Hp}{a:Addr}{xs:List V}(e:Same H H')(h:SqL K H a xs):SqL K H' a xs:=by
 rcases h with(h|⟨o,h⟩)|h
 ·exact .inl (.inl (e _ _ h))
 ·exact .inl (.inr ⟨o,e _ _ h⟩)
 ·exact .inr h
section
variable{κ:Type}[DecidableEq κ]
def adh(kvs:List (κ×V))(k:κ):Option V:=(kvs.find? λkv=>decide (kv.1=k)).map (·.2)
theorem adi{p:κ×V}{r:List (κ×V)}{k:κ}(e:p.1=k):adh (p::r) k=some p.2:=by simp[adh,List.find?_cons,e]
end
section
variable{X:Cx}{pins:List (Addr×Obj)}{σ:St}{H:Hp}{s:Shared}
theorem Inv.big(I:Inv X pins σ H s):sysModules<s.heap.objs.size:=by
 have h:mainGlobals<s.heap.objs.size:=(I.mod.glob.keeps I.bk).lt;exact Nat.lt_trans (by decide) h
end
theorem RP{P:Program}{w:World}{H:Hp}(h:Heap)(hb:sysModules<h.objs.size):cA P w H (h.push { cls:=.type "dict", data:=.dict #[] }) h.objs.size (.dK []) :=
 ⟨Nat.zero_le _,beq_eq_false_iff_ne.mpr (Ne.symm (qS hb)),[],.nil,Heap.DictOf.new h⟩
def Jf:TE:=λ_ H Q=>∀p,H p=none->Q (.ref p) (upd H p (.dK []))
section
variable{X:Cx}{pos:Pos}
theorem RQ:PE X (.Dict [] [] pos) Jf:=λpins s σ H Q I h =>
 wpAny_Dict_empty ⟨.ref s.heap.objs.size,_,I.laid (a:=s.heap.objs.size) (o:=.dK []) (t':=s.toks) (λ_ _ q=>uB _ q) (uC _) (RP s.heap I.big),rfl,h _ (I.hok.fresh (uC _))⟩
end
end L2
set_option maxHeartbeats 4000000
namespace L2
open PySem PySem.Spec PyProof.Rows
section
variable{P:Program}{w:World}{K:W.Frag}{mg:xC}{base:Heap}{CX:CXT}{x:Str}{ps:List Str}{sp:Sp}{k:Nat}
structure Def(P:Program)(w:World)(K:W.Frag)(mg:xC)(base:Heap)(CX:CXT)(k:Nat)(x:Str)(ps:List Str)(sp:Sp):Prop where
 ex:∃(f:Addr)(fd:FuncData),jE P w K mg base CX k f fd ps sp/\mg x=some (.ref f)/\W.keepIn K (.ref f)=true/\Binds K fd ps []
def HasDef(K:W.Frag)(mg:xC)(x:Str)(st:Stmt):Prop:=∃(f:Addr)(fd:FuncData),Fun K x x st f fd/\mg x=some (.ref f)
theorem HasDef.mk{st:Stmt}{f:Addr}{oc:Value}{od an:xL}{osl:Array (Option Value)}{kV doc pm cdv ct:Value}(m:mg x=some (.ref f))
  (l:K.lookup f=some ⟨oc,od,.func (W.fnOf x x (cD st) (bH st) (aA st) .none kV doc pm an cdv ct),osl⟩)
  (c:W.codeIn K cdv x=true) (k:W.keepIn K (.ref f)=true):HasDef K mg x st:=⟨f,_,qm l c k,m⟩
theorem aae{st:Stmt}{N:List Str}(h:HasDef K mg x st)(S:aJ N ps (aA st))(len:∀vs H Q E,sp vs H Q E->vs.length=ps.length)
  (hb:∀(kV doc pm:Value)(an:xL)(cdv ct:Value)(us:xE),us.length=ps.length->bindArgs (W.fnOf x x (cD st) (bH st) (aA st) .none kV doc pm an cdv ct) ⟨us,[]⟩=pure (ps.zip us))
  (hbody:∀(f:Addr)(cdv:Value)(A:Around)(outer:List Env)(s:Shared)(H:Hp)(vs:List V)(Q:VK)(E:XK),Room k (A.deeper (envOfC x (aA st) s.heap.objs.size f cdv))->sp vs H Q E ->
   ∃t,PSs (gQ CX P w K mg base N x (aA st) f cdv A outer s H E).nox (bH st) t/\t { nx:=λ_ H'=>Q .non H',rt:=Q } (start N vs) H):Def P w K mg base CX (k+1) x ps sp:=by
 obtain⟨f,fd,F,m⟩:=h;refine⟨f,fd,?_,m,F.kp,F.binds hb⟩;obtain⟨oc,od,kV,doc,pm,an,cdv,ct,osl,rfl,lk,hcd⟩:=F.ex;refine t_ lk hcd S len λA outer s H vs Q E hr hsp=>?_
 obtain⟨t,h,q⟩:=hbody f cdv A outer s H vs Q E hr hsp;exact⟨t,h.nox,q⟩
end
section
variable{X:Cx}{CX:CXT}{k m:Nat}{x:Str}{ps:List Str}{sp:Sp}{E:XK}{p pos:Pos}{e:Expr}{es:List Expr}{t:TA}
theorem aG(D:Def X.prog X.w X.K X.mg X.base CX k x ps sp)(hr:Room m X.A)(ha:PA X (e::es) t)(hk:k<=m:=by decide)(hx:Passes CX X E:=by exact yJ)(hg:Gl X x:=by rfl)
  (hdb:(x==("__debug__" : Str))=false:=by decide) (he:starEach (e::es) X.env=(false,eval e X.env)::starEach es X.env:=by rfl) (hpl:(backTo pos (starEach es X.env)).any (·.1)=false:=by rfl) :
  PE X (.Call (.Name x p) (e::es) [] pos) (KQ sp [] E t):=by
 obtain⟨f,fd,F,hm,kp,b⟩:=D.ex;exact WQ F (hr.mono hk) hg hm kp b .nil hx ha hdb he hpl
end
def mW(mg:xC)(x:Str)(v:V):Prop:=∃u,mg x=some u/\RelV v u
theorem ug{X:Cx}{x:Str}{v:V}{pos:Pos}(h:mW X.mg x v)(hg:Gl X x:=by rfl)(hd:(x==("__debug__" : Str))=false:=by decide):PE X (.Name x pos) (tC v) :=
 let ⟨_,e,r⟩:=h
 Wx hg e r hd
section
variable{X:Cx}{T:String}{pos:Pos}
theorem j5{x:Str}(hg:Gl X x)(hm:X.mg x=none)(hv:bootBuiltins x=some (.type T))(hn:x ≠ "__name__":=by decide)(hd:(x==("__debug__" : Str))=false:=by decide):PE X (.Name x pos) (tC (.ty T)) :=
 Wy hg hm hv rfl hn hd
def rH(K:W.Frag)(t:Value):V->Option Bool
 | .ty T=>W.kitOne K t (.type T)
 | .ref C=>W.kitOne K t (.ref C)
 | _=>none
theorem call_isinstance:fW X (.builtin "isinstance") (λxs H Q=>∃x c t b,xs=[x,c]/\cO X.K H x t/\rH X.K t c=some b/\Q (.bl b) H):=by
 intro pins s σ H xs us Q I r h;obtain⟨x,c,t,b,rfl,ty,e,q⟩:=h;obtain⟨u,v,rfl,ru,rv⟩:=vals2 r;cases c with
 | ty T =>
  obtain rfl:v=Value.type T:=rv;exact yu I ru ty e λtk=>⟨.bl b,H,I.tok _,rfl,q⟩
 | ref C =>
  obtain rfl:v=Value.ref C:=rv;exact yu I ru ty e λtk=>⟨.bl b,H,I.tok _,rfl,q⟩
 | _=>cases e
end
section
variable{X:Cx}
theorem uh:∀{bs:xF} {us:xE},Vals (bs.map V.bl) us->LSm.BoolsAre us bs
 | [],_,.nil=>.nil
 | b::bs,_,.cons r t=>by
  cases (show _=Value.bool b from r);exact .cons b (uh t)
theorem Ec(hc:X.calm=true):fW X (.builtin "all") (λxs H Q=>∃(p:Addr)(bs:xF),xs=[.ref p]/\SqL X.K H p (bs.map V.bl)/\Q (.bl (bs.all id)) H):=by
 intro pins s σ H xs us Q I r h;obtain⟨p,bs,rfl,hq,q⟩:=h;obtain⟨u,rfl,rx⟩:=vals1 r;cases rx;obtain⟨its,rv,pl,hz⟩:=I.list hq;have hb:=uh rv;have hl:=pl.isList;have hlt:p<s.heap.objs.size:=by obtain⟨_,e,_⟩:=hl;exact uA e
 refine call_all_walk (wpAny_pyIter_list hl ?_);refine⟨s.heap.objs.size,[s.heap.objs.size,p],[s.heap.objs.size],its.toArray.size,_,_,λi=>(bs[i]?).getD true,rfl,Walks.list (A:=X.A.in1) (I.ok.hd hc) _ p (qS hlt) its.toArray,
  ⟨⟨_,oC _ rfl,rfl,rfl⟩,hl.push _⟩,λi v s' Q' E' hP hQ=>?_,λh' tk hk=>?_⟩
 ·obtain⟨b,e,rfl⟩:=hb.get i v (by simpa using hP);simp only[e,Option.getD_some] at hQ;exact wpAny_truthy_bool hQ
 ·have e:((List.range its.toArray.size).all λi=>(bs[i]?).getD true)=bs.all id:=by
   rw[nN,hb.length];exact LSm.range_all bs
  rw[e];exact⟨.bl _,H,I.kept (LSm.kept_iter hk),rfl,q⟩
end
section
variable{X:Cx}
theorem Jg:OpR X (compareOp .In) (λx y H Q=>∃c j,x=.str ⟨#[c]⟩/\y=.str j/\Q (.bl (decide (c∈j.cps.toList))) H):=by
 intro pins s σ H x y v u Q I rx ry h;obtain⟨c,j,rfl,rfl,q⟩:=h;obtain⟨t,rfl⟩:=rx;obtain⟨t',rfl⟩:=ry;exact in_str (bU I q (PySem.StrLaws.found_one j c).symm)
def Its(z:Str):It:=⟨λi _=>i<z.cps.size,λi H x H'=>H'=H/\∃c,z.cps[i]?=some c/\x=.str ⟨#[c]⟩,λi _=>z.cps.size<=i⟩
section
variable{P:Program}{w:World}{K:W.Frag}{tg:Expr}
theorem Oz(it:Addr)(z:Str)(t:Tok):Turn P w K tg (Its z) [it] it (λi h=>h.IsStrIter it "str_ascii_iterator" z t i) where
 mem:=by simp
 obj:=λi h st b hb=>by
  have e:b=it:=by simpa using hb
  subst e;obtain⟨o,e,c,d⟩:=st;exact⟨o,e,λv z=>by rw[d] at z;cases z⟩
 keep:=λi h h' st k=>let ⟨o,e,r⟩:=st;⟨o,k it (by simp) o e,r⟩
 item:=by
  intro X hP hw hK hc i pins s σ H E I hf st hg;subst hP hw hK;obtain⟨f0,f1,f2,f3,f4,f5⟩:=hf it (by simp);have hi:i<z.cps.size:=hg;refine wpAny_pyNext_ascii_item st (c:=z.cps[i]) (by simp[hi]) λh' st' sb=>?_
  have I1:Inv X pins σ H { s with heap:=h',toks:=s.toks+1 }:=I.turned (λb o hb e=>sb.extBut b o hb e) f0 f1 f3 f4 f5
  obtain⟨o,e,c,d⟩:=id st';exact⟨_,rfl,DN (s:={ s with heap:=h',toks:=s.toks+1 }) e c d (by decide) ⟨.str ⟨#[z.cps[i]]⟩,H,I1,⟨_,rfl⟩,⟨rfl,z.cps[i],by simp[hi],rfl⟩,st',λb hb=>(hf b hb).1⟩⟩
 done:=by
  intro X hP hw hK hc i pins s σ H E I hf st hg;subst hP hw hK;obtain⟨f0,f1,f2,f3,f4,f5⟩:=hf it (by simp);have hi:z.cps.size<=i:=hg;exact wpAny_pyNext_ascii_end (I.ok.hd hc) st (by simp[hi]) λh' eb=>⟨rfl,I.turned (t':=s.toks) (λb o hb e=>eb b o hb e) f0 f1 f3 f4 f5⟩
 self:=λ_ _ _ _ _ st h=>wpAny_pyIter_striter_ascii st h
theorem OD(it:Addr)(z:Str)(t:Tok):Turn P w K tg (Its z) [it] it (λi h=>h.IsStrIter it "str_iterator" z t i) where
 mem:=by simp
 obj:=λi h st b hb=>by
  have e:b=it:=by simpa using hb
  subst e;obtain⟨o,e,c,d⟩:=st;exact⟨o,e,λv z=>by rw[d] at z;cases z⟩
 keep:=λi h h' st k=>let ⟨o,e,r⟩:=st;⟨o,k it (by simp) o e,r⟩
 item:=by
  intro X hP hw hK hc i pins s σ H E I hf st hg;subst hP hw hK;obtain⟨f0,f1,f2,f3,f4,f5⟩:=hf it (by simp);have hi:i<z.cps.size:=hg;refine wpAny_pyNext_wide_item st (c:=z.cps[i]) (by simp[hi]) λh' st' sb=>?_
  have I1:Inv X pins σ H { s with heap:=h',toks:=s.toks+1 }:=I.turned (λb o hb e=>sb.extBut b o hb e) f0 f1 f3 f4 f5
  obtain⟨o,e,c,d⟩:=id st';exact⟨_,rfl,DN (s:={ s with heap:=h',toks:=s.toks+1 }) e c d (by decide) ⟨.str ⟨#[z.cps[i]]⟩,H,I1,⟨_,rfl⟩,⟨rfl,z.cps[i],by simp[hi],rfl⟩,st',λb hb=>(hf b hb).1⟩⟩
 done:=by
  intro X hP hw hK hc i pins s σ H E I hf st hg;subst hP hw hK;obtain⟨f0,f1,f2,f3,f4,f5⟩:=hf it (by simp);have hi:z.cps.size<=i:=hg;exact wpAny_pyNext_wide_end (I.ok.hd hc) st (by simp[hi]) λh' eb=>⟨rfl,I.turned (t':=s.toks) (λb o hb e=>eb b o hb e) f0 f1 f3 f4 f5⟩
 self:=λ_ _ _ _ _ st h=>wpAny_pyIter_striter_wide st h
end
def adk(tl:TE):TI:=λσ H R=>tl σ H λx H1=>∃z,x=.str z/\R (Its z) H1
theorem aaf{tg l:Expr}{tl:TE}(hl:PE X l tl):PI X tg l (adk tl):=by
 intro pins s σ H R I h;refine thn (hl pins s σ H _ I h) λv s1 ⟨x,H1,I1,r1,q1⟩=>?_
 obtain⟨z,e,q⟩:=q1;subst e;obtain⟨t,rfl⟩:=r1;have fp:∀(b:Addr),b∈[s1.heap.objs.size]->jX X pins H1 b:=λb hb=>by
  have e:b=s1.heap.objs.size:=by simpa using hb
  subst e;exact I1.Io (uC _) (I1.hok.fresh (uC _))
 cases ha:z.cps.all (· < 128)
 ·exact wpAny_pyIter_wide ha ⟨s1.heap.objs.size,[s1.heap.objs.size],_,_,H1,rfl,I1.kept (t':=s1.toks) λb o e=>uB _ e,OD _ z t,⟨_,oC _ rfl,rfl,rfl⟩,fp,q⟩
 ·exact wpAny_pyIter_ascii ha ⟨s1.heap.objs.size,[s1.heap.objs.size],_,_,H1,rfl,I1.kept (t':=s1.toks) λb o e=>uB _ e,Oz _ z t,⟨_,oC _ rfl,rfl,rfl⟩,fp,q⟩
end
def dF(env:Env):List (Str×NameKind)->Option (List (Str×Addr))
 | []=>some []
 | (n,k)::r=>if k=.free then (env.cells.lookup n).bind λc=>(dF env r).map λcl=>cl++[(n,c)] else dF env r
theorem iY{env:Env}:∀{names:List (Str×NameKind)} {cl:List (Str×Addr)},dF env names=some cl->∀x c,cl.lookup x=some c->env.cells.lookup x=some c
 | [],cl,h,x,c,e=>by
  cases (nI h);cases e
 | (n,k)::r,cl,h,x,c,e=>by
  unfold dF at h;by_cases hk:k=.free
  ·rw[zS hk] at h;cases hc:env.cells.lookup n with
   | none=>rw[hc] at h;cases h
   | some c' =>
    rw[hc] at h;have h:(dF env r).map (λcl=>cl++[(n,c')])=some cl:=h;cases hr:dF env r with
    | none=>rw[hr] at h;cases h
    | some cl' =>
     rw[hr] at h;have h:cl'++[(n,c')]=cl:=nI h;subst h;rw[List.lookup_append] at e;cases h2:cl'.lookup x with
     | some c2 =>
      rw[h2] at e;have e:c2=c:=by simpa using e
      subst e;exact iY hr x c2 h2
     | none =>
      rw[h2] at e;have e:List.lookup x [(n,c')]=some c:=by simpa using e
      by_cases hx:x=n
      ·subst hx;have:c'=c:=by simpa using e
       subst this;exact hc
      ·have hb:(x==n)=false:=by simpa using hx
       simp[List.lookup_cons,hb] at e
  ·rw[yB hk] at h;exact iY h x c e
theorem iZ{env:Env}:∀(names:List (Str×NameKind)) (acc cl:List (Str×Addr)),dF env names=some cl ->
  (forIn (m:=Sem) names acc λx c=>if x.2==NameKind.free then (do let a <- cellOf env x.1;pure (ForInStep.yield ((x.1,a)::c))) else pure (ForInStep.yield c))=pure (cl++acc)
 | [],acc,cl,h=>by
  cases (nI h)
  rfl
 | (n,k)::r,acc,cl,h=>by
  unfold dF at h;rw[List.forIn_cons];by_cases hk:k=.free
  ·rw[zS hk] at h;cases hc:env.cells.lookup n with
   | none=>rw[hc] at h;cases h
   | some c' =>
    rw[hc] at h;have h:(dF env r).map (λcl=>cl++[(n,c')])=some cl:=h;cases hr:dF env r with
    | none=>rw[hr] at h;cases h
    | some cl' =>
     rw[hr] at h;have h:cl'++[(n,c')]=cl:=nI h;subst h;have hb:(k==NameKind.free)=true:=by simpa using hk
     have:=iZ r ((n,c')::acc) cl' hr;have ec:cellOf env n=pure c':=by unfold cellOf;rw[hc]
     simp only[hb,if_true,ec,pure_bind,bind_assoc];rw[this];simp
  ·rw[yB hk] at h;have hb:(k==NameKind.free)=false:=by simpa using hk
   have:=iZ r acc cl h;simp only[hb,Bool.false_eq_true,if_false,pure_bind];exact this
theorem mG{env:Env}{scope:Scope}{cl:List (Str×Addr)}(h:dF env scope.names=some cl):closureFor scope env=pure cl:=by
 have:=iZ scope.names [] cl h;rw[mI] at this;have key:closureFor scope env=(forIn (m:=Sem) scope.names ([]:List (Str×Addr)) λx c=>if x.2==NameKind.free then (do let a <- cellOf env x.1;pure (ForInStep.yield ((x.1,a)::c))) else pure (ForInStep.yield c)) >>= λcs=>pure cs:=by
  unfold closureFor
  rfl
 rw[key,this]
 rfl
theorem OJ{prog:Program}{w:World}{A:Around}{R:Result->Shared->Prop}{s:Shared}{elt target iter:Expr}{ifs:List Expr}{scope:Scope}{pos:Pos}{it acc:Value}{env:Env}(I:Nat->Shared->Prop)
  (turn:∀n s,I n s->wpAny (model prog w) A (pyNext it) (λr s₁=>match r with
   | none=>R (.ok .next) s₁
   | some v=>wpAny (model prog w) A (letOwnedTupleGo target it v) (λ_ s₀=>wpAny (model prog w) A (assign target env v) (λ_ s₂ =>
     wpAny (model prog w) A (forIn ifs true λc r=>if r=true then do let ok <- isTrue c env (eval c env);pure (ForInStep.yield ok) else pure (ForInStep.yield r)) (λok s₃ =>
      if ok=true then wpAny (model prog w) A (eval elt env) (λx s₄ =>
       wpAny (model prog w) A (call (.builtin "list.append") [acc,x]) (λ_ s₅=>∃m,m<n/\I m s₅) (λ_ _=>False) s₄) (λ_ _=>False) s₃
      else ∃m,m<n/\I m s₃) (λ_ _=>False) s₂) (λ_ _=>False) s₀) (λ_ _=>False) s₁) (λ_ _=>False) s)
  (n:Nat) (h:I n s) :
  codeAny (model prog w) A (.compLoop (.ListComp elt [⟨target,iter,ifs,0⟩] scope pos) 0 it acc env) R s:=by
 refine codeAny_loop rfl I (λn s hI=>?_) n h;show wpAny _ A ((compTurn (.ListComp elt [⟨target,iter,ifs,0⟩] scope pos) 0 it acc env).onRaise (λx=>do noteFrame x env;theTreesLotGoes x)) _ _ s;refine wpAny_noted ?_;rw[compTurn_list];refine zI (wpAny_standAt (zI (mB (turn n s hI) (λr s₁ h₁=>?_) λ_ _ h'=>h'.elim)));cases r with
 | none=>exact rV h₁
 | some v =>
  refine zI (mB h₁ (λ_ s₀ h₀=>?_) λ_ _ h'=>h'.elim);refine zI (mB h₀ (λ_ s₂ h₂=>zI (mB h₂ (λok s₃ h₃=>?_) λ_ _ h'=>h'.elim)) λ_ _ h'=>h'.elim);cases ok with
  | false=>exact rV ⟨rfl,h₃⟩
  | true =>
   exact zI (zI (mB h₃ (λx s₄ h₄=>zI (mB h₄ (λ_ s₅ h₅=>rV (rV ⟨rfl,h₅⟩)) λ_ _ h'=>h'.elim)) λ_ _ h'=>h'.elim))
def dg(X:Cx)(N:List Str)(scope:Scope)(cl:List (Str×Addr))(pins:List (Addr×Obj))(s:Shared)(H:Hp)(fp:List Addr):Cx where
 prog:=X.prog
 w:=X.w
 K:=X.K
 mg:=X.mg
 base:=X.base
 A:=X.A
 N:=N
 s₀:=s
 H₀:=H
 env:=compEnvC scope cl s.heap.objs.size X.env
 outer:=X.stack
 stack:=X.stack
 ex:=fp
 fn:=λ_=>false
 calm:=X.calm
 pn:=X.pn++pins
 xe:=λ_ _=>False
def eN(nt:Nat)(fr:List Nat)(σ:St):St:=List.replicate nt none++fr.map λi=>(σ[i]?).getD none
structure eY(X:Cx)(N:List Str)(nt:Nat)(fr:List Nat)(scope:Scope)(cl:List (Str×Addr)):Prop where
 len:N.length=nt+fr.length
 free:∀(j:Nat)(i:Nat)(x:Str),fr[j]?=some i->N[nt+j]?=some x->X.N[i]?=some x/\(∃c,cl.lookup x=some c)/\(X.env.kindOf x=some .cell\/X.env.kindOf x=some .free) /\
  ((relabel scope X.env).names.lookup x=some .cell\/(relabel scope X.env).names.lookup x=some .free)
 cells:∀x c,cl.lookup x=some c->X.env.cells.lookup x=some c
 has:∀x,((relabel scope X.env).names.lookup x=some .cell\/(relabel scope X.env).names.lookup x=some .free)->∃c,cl.lookup x=some c
 kind:scope.kind=.function
theorem Ed{X:Cx}{x:Str}(h:X.env.kindOf x=some .cell\/X.env.kindOf x=some .free):Vis X.env.scope x:=by
 rcases h with h|h
 ·exact .inr (.inl h)
 ·exact .inr (.inr h)
section
variable{X:Cx}{N:List Str}{nt:Nat}{fr:List Nat}{scope:Scope}{cl:List (Str×Addr)}{pins:List (Addr×Obj)}{σ:St}{H:Hp}{s:Shared}{fp:List Addr}
theorem W6(I:Inv X pins σ H s)(cn:eY X N nt fr scope cl)(hf:∀b∈fp,jX X pins H b)(ho:∀b∈fp,b<s.heap.objs.size):(dg X N scope cl pins s H fp).Ok where
 mod:=I.mod
 kind:=cn.kind
 glob:=I.ok.glob
 blt:=I.ok.blt
 above:=uC _
 inj:=λx y c h1 h2=>I.ok.inj x y c (cn.cells x c h1) (cn.cells y c h2)
 has:=λx hx=>cn.has x hx
 cab:=λx c h _=>by cases (show false=true from h)
 hd:=I.ok.hd
 frames:=I.ok.frames
 stk:=.inl rfl
 exf:=λb hb=>⟨qS (ho b hb),λx c e=>(hf b hb).2.2.2.2.1 x c (cn.cells x c e)⟩
 bs:=I.bs
 bsz:=rX I.ok.bsz I.sz
 BK:=λb o e hb=>by
  rcases(hf b hb).2.2.2.1 with z|z
  ·exact I.ok.BK b o e z
  ·exact gL (qE (uA e) (rX I.ok.bsz z)) (qV _)
 Dz:=λb hb z=>(vT.mp (I.tL b z)).elim (λe=>(hf b hb).2.1 e) λe=>(hf b hb).2.2.1 e
 mz:=I.stack
 frf:=I.nW
theorem RT{h4:Heap}{t':Nat}(I:Inv X pins σ H s)(cn:eY X N nt fr scope cl)(hf:∀b∈fp,jX X pins H b)(ho:∀b∈fp,b<s.heap.objs.size)
  (k:∀b o,s.heap.get? b=some o->h4.get? b=some o) (hns:∃m,h4.Ns s.heap.objs.size m):Inv (dg X N scope cl pins s H fp) [] (eN nt fr σ) H { s with heap:=h4,toks:=t' }:=by
 have ck:∀{c:Addr} {v:Option Value},s.heap.IsCell c v->h4.IsCell c v:=λ⟨o,e,d⟩=>⟨o,k _ o e,d⟩
 refine⟨W6 I cn hf ho,rfl,I.bare,Un.kept k,?_,λx c e=>?_,?_,λx c e=>?_,λp hp=>?_,I.hok.kept k,?_⟩
 ·obtain⟨m,hm⟩:=hns;refine⟨m,hm,λi x v e1 e2 _=>?_⟩;have e2:(eN nt fr σ)[i]?=some (some v):=e2;have e1:N[i]?=some x:=e1;unfold eN at e2;by_cases hi:i<nt
  ·rw[List.getElem?_append_left (by simpa using hi),List.getElem?_replicate,if_pos hi] at e2;cases e2
  ·obtain⟨j,rfl⟩:∃j,i=nt+j:=⟨i-nt,by lia⟩;rw[List.getElem?_append_right (by simp),List.length_replicate,Nat.add_sub_cancel_left,List.getElem?_map] at e2;cases hj:fr[j]? with
   | none=>rw[hj] at e2;cases e2
   | some i' =>
    rw[hj] at e2;have e2:(σ[i']?).getD none=some v:=nI e2;have e3:σ[i']?=some (some v):=by
     cases q:σ[i']? with
     | none=>rw[q] at e2;cases e2
     | some o=>rw[q] at e2;rw[show o=some v from e2]
    obtain⟨hN,⟨c,hc⟩,hk,hk'⟩:=cn.free j i' x hj e1;obtain⟨m0,_,hl⟩:=I.loc;obtain⟨u,r,l⟩:=hl i' x v hN e3 (Ed hk);refine⟨u,r,.inr ⟨hk',c,hc,?_⟩⟩;rcases l with⟨hl',_⟩|⟨_,c',hc',hcell⟩
    ·rcases hk with z|z <;> (rw[hl'] at z;cases z)
    ·have hcc:=cn.cells x c hc;rw[hc'] at hcc;cases hcc;exact ck hcell
 ·obtain⟨v,hv⟩:=I.cell x c (cn.cells x c e);exact⟨v,ck hv⟩
 ·exact I.hok.fresh (uC _)
 ·exact I.gP x c (cn.cells x c e)
 ·have hp:p∈(X.pn++pins)++[]:=hp;rw[mI] at hp;obtain⟨e,n,ne,nf,d⟩:=I.pin p hp;exact⟨k p.1 p.2 e,n,qS (uA e),λz=>(vT.mp (I.tL p.1 z)).elim ne nf,d⟩
 ·show (eN nt fr σ).length=N.length;unfold eN;rw[cn.len,yT,mM,wP]
theorem comp_back{H':Hp}{s1 s':Shared}{h':Heap}{σ':St}(I:Inv X pins σ H s)(hsz:s.heap.objs.size<=s1.heap.objs.size)(hos:s1.os=s.os){H1:Hp}(hH:Un (frs X.stack) fp H H1 s.heap s1.heap)
  (hf:∀b∈fp,jX X pins H b)
  (J:Inv (dg X N scope cl pins s1 H1 fp) [] σ' H' s') (sb:Heap.SameBut s1.heap.objs.size s'.heap h'):Inv X pins σ H' { s' with heap:=h' }:=by
 have u:Un (frs X.stack) fp H H' s.heap s'.heap:=hH.trans J.base;have lt:∀b o,s.heap.get? b=some o->b≠s1.heap.objs.size:=λb o e=>qS (qE (uA e) hsz)
 have kk:∀b o,b≠s1.heap.objs.size->s'.heap.get? b=some o->h'.get? b=some o:=λb o hb e=>sb.extBut b o hb e
 have u':Un (frs X.stack) fp H H' s.heap h':=⟨λb o e n hb hx=>kk b o (lt b o e) (u.keep b o e n hb hx),λb o e n hb hx=>let ⟨sl,z⟩:=u.slot b o e n hb hx;⟨sl,kk b _ (lt b o e) z⟩,u.free,
  λb o e hx=>let ⟨o',z⟩:=u.there b o e hx;⟨o',kk b o' (lt b o e) z⟩,u.tups,u.mj,u.mq⟩
 have nC:H' s1.heap.objs.size=none:=J.free;refine I.call' (s':={ s' with heap:=h' }) (ch:=fp) (J.os.trans hos) u' (λa o e=>?_) J.bare λb hb=>⟨(hf b hb).2.2.2.1,(hf b hb).2.1,(hf b hb).2.2.2.2.1,(hf b hb).2.2.2.2.2⟩
 refine(J.hok a o e).stay (λb v hb q=>kk b v ?_ q) (λ_ q=>q) λ_ _ q=>q
 rcases hb with z|z
 ·rintro rfl;rw[<- z,nC] at e;cases e
 ·rintro rfl;rw[nC] at z;cases z
end
def iM(X:Cx)(N:List Str)(nt:Nat)(scope:Scope):List Nat->Nat->Bool
 | [],_=>true
 | i::r,j=>(match N[nt+j]? with
  | some x=>decide (X.N[i]?=some x) && decide (scope.names.lookup x=some .free) && (decide (X.env.kindOf x=some .cell) || decide (X.env.kindOf x=some .free))
  | none=>false) && iM X N nt scope r (j+1)
theorem Ef{X:Cx}{N:List Str}{nt:Nat}{scope:Scope}:∀{fr:List Nat} {k:Nat},iM X N nt scope fr k=true->∀(j i:Nat)(x:Str),fr[j]?=some i->N[nt+(k+j)]?=some x ->
  X.N[i]?=some x/\scope.names.lookup x=some .free/\(X.env.kindOf x=some .cell\/X.env.kindOf x=some .free)
 | [],_,_,j,i,x,e,_=>by simp at e
 | i0::r,k,h,j,i,x,e1,e2=>by
  unfold iM at h;rw[Bool.and_eq_true] at h;obtain⟨h1,h2⟩:=h;cases j with
  | zero =>
   have e1:i0=i:=by simpa using e1
   subst e1;rw[Nat.add_zero] at e2;rw[e2] at h1;simp only[Bool.and_eq_true,Bool.or_eq_true,decide_eq_true_eq] at h1;exact⟨h1.1.1,h1.1.2,h1.2⟩
  | succ j =>
   exact Ef h2 j i x (by simpa using e1) (by rw[show nt+(k+1+j)=nt+(k+(j+1)) by lia];exact e2)
theorem iB{env:Env}:∀{names:List (Str×NameKind)} {x:Str} {k':NameKind},
  (names.map λ(n,k)=>if (k==NameKind.free && env.scope.kind==.function && env.kindOf n==some .cell) then (n,NameKind.cell) else (n,k)).lookup x=some k' ->
  ∃k,names.lookup x=some k/\(k=k'\/(k=.free/\k'=.cell))
 | [],_,_,h=>by simp at h
 | (n,k)::r,x,k',h=>by
  have h:List.lookup x ((if (k==NameKind.free && env.scope.kind==.function && env.kindOf n==some .cell)=true then (n,NameKind.cell) else (n,k))::r.map _)=some k':=h;cases hx:x==n with
  | true =>
   by_cases hc:(k==NameKind.free && env.scope.kind==.function && env.kindOf n==some .cell)=true
   ·rw[zS hc] at h;simp only[List.lookup_cons,hx] at h;have hk:k=.free:=by
     simp only[Bool.and_eq_true,beq_iff_eq] at hc;exact hc.1.1
    exact⟨k,by simp[List.lookup_cons,hx],.inr ⟨hk,(Option.some.inj h).symm⟩⟩
   ·rw[yB hc] at h;simp only[List.lookup_cons,hx] at h;exact⟨k,by simp[List.lookup_cons,hx],.inl (Option.some.inj h)⟩
  | false =>
   have h2:List.lookup x (r.map λ(n,k)=>if (k==NameKind.free && env.scope.kind==.function && env.kindOf n==some .cell) then (n,NameKind.cell) else (n,k))=some k':=by
    by_cases hc:(k==NameKind.free && env.scope.kind==.function && env.kindOf n==some .cell)=true
    ·rw[if_pos hc] at h;simpa only[List.lookup_cons,hx] using h
    ·rw[if_neg hc] at h;simpa only[List.lookup_cons,hx] using h
   obtain⟨k2,e2,o2⟩:=iB h2;exact⟨k2,by simp only[List.lookup_cons,hx];exact e2,o2⟩
theorem oh{env:Env}:∀{names:List (Str×NameKind)} {x:Str},names.lookup x=some .free ->
  (names.map λ(n,k)=>if (k==NameKind.free && env.scope.kind==.function && env.kindOf n==some .cell) then (n,NameKind.cell) else (n,k)).lookup x=some .cell \/
  (names.map λ(n,k)=>if (k==NameKind.free && env.scope.kind==.function && env.kindOf n==some .cell) then (n,NameKind.cell) else (n,k)).lookup x=some .free
 | [],_,h=>by simp at h
 | (n,k)::r,x,h=>by
  show List.lookup x ((if (k==NameKind.free && env.scope.kind==.function && env.kindOf n==some .cell)=true then (n,NameKind.cell) else (n,k))::r.map _)=some .cell\/List.lookup x ((if (k==NameKind.free && env.scope.kind==.function && env.kindOf n==some .cell)=true then (n,NameKind.cell) else (n,k))::r.map _)=some .free;cases hx:x==n with
  | true =>
   simp only[List.lookup_cons,hx] at h;cases h;by_cases hc:(NameKind.free==NameKind.free && env.scope.kind==.function && env.kindOf n==some .cell)=true
   ·rw[if_pos hc];left;simp[List.lookup_cons,hx]
   ·rw[if_neg hc];right;simp[List.lookup_cons,hx]
  | false =>
   simp only[List.lookup_cons,hx] at h;have ih:=oh (env:=env) h;by_cases hc:(k==NameKind.free && env.scope.kind==.function && env.kindOf n==some .cell)=true
   ·rw[if_pos hc];simpa only[List.lookup_cons,hx] using ih
   ·rw[if_neg hc];simpa only[List.lookup_cons,hx] using ih
theorem jF{env:Env}:∀{names:List (Str×NameKind)} {cl:List (Str×Addr)},dF env names=some cl->∀x,names.lookup x=some .free->∃c,cl.lookup x=some c
 | [],_,_,x,e=>by simp at e
 | (n,k)::r,cl,h,x,e=>by
  unfold dF at h;by_cases hk:k=.free
  ·rw[zS hk] at h;cases hc:env.cells.lookup n with
   | none=>rw[hc] at h;cases h
   | some c' =>
    rw[hc] at h;have h:(dF env r).map (λcl=>cl++[(n,c')])=some cl:=h;cases hr:dF env r with
    | none=>rw[hr] at h;cases h
    | some cl' =>
     rw[hr] at h;have h:cl'++[(n,c')]=cl:=nI h;subst h;rw[List.lookup_append];cases h2:cl'.lookup x with
     | some c2=>exact⟨c2,by simp⟩
     | none =>
      cases hx:x==n with
      | true=>exact⟨c',by simp[List.lookup_cons,hx]⟩
      | false =>
       simp only[List.lookup_cons,hx] at e;obtain⟨c3,e3⟩:=jF hr x e;rw[h2] at e3;cases e3
  ·rw[yB hk] at h;cases hx:x==n with
   | true =>
    simp only[List.lookup_cons,hx] at e;exact gL (nI e) hk
   | false =>
    simp only[List.lookup_cons,hx] at e;exact jF h x e
theorem eY.of{X:Cx}{N:List Str}{nt:Nat}{fr:List Nat}{scope:Scope}{cl:List (Str×Addr)}(hcl:dF X.env scope.names=some cl)(hlen:N.length=nt+fr.length)(hB:iM X N nt scope fr 0=true)
  (hcell:∀y∈scope.names,y.2≠.cell) (hkind:scope.kind=.function):eY X N nt fr scope cl where
 len:=hlen
 free:=λj i x e1 e2=>by
  obtain⟨h1,h2,h3⟩:=Ef hB j i x e1 (by rw[Nat.zero_add];exact e2);exact⟨h1,jF hcl x h2,h3,oh h2⟩
 cells:=iY hcl
 has:=λx hx=>by
  have:scope.names.lookup x=some .free:=by
   rcases hx with hx|hx
   ·obtain⟨k,e,o⟩:=iB (names:=scope.names) (env:=X.env) hx;rcases o with rfl|⟨rfl,_⟩
    ·exact gL rfl (hcell _ (PySem.mem_of_lookup e))
    ·exact e
   ·obtain⟨k,e,o⟩:=iB (names:=scope.names) (env:=X.env) hx;rcases o with rfl|⟨rfl,_⟩
    ·exact e
    ·exact e
  exact jF hcl x this
 kind:=hkind
def PIf(X:Cx)(ifs:List Expr)(t:TT):Prop :=
 ∀(pins:List (Addr×Obj)) (s:Shared) (σ:St) (H:Hp) (Q:Bool->Hp->Prop),Inv X pins σ H s->t σ H Q ->
  wpAny (model X.prog X.w) X.A (forIn ifs true λc r=>if r=true then do let ok <- isTrue c X.env (eval c X.env);pure (ForInStep.yield ok) else pure (ForInStep.yield r)) (TP X pins σ Q) X.xe s
def mH:TT:=λ_ H Q=>Q true H
theorem dU{X:Cx}:PIf X [] mH:=λ_ _ _ H _ I h=>rV ⟨H,I,h⟩
theorem lO{X:Cx}{c:Expr}{t:TT}(h:PT X c t):PIf X [c] t:=by
 intro pins s σ H Q I hw;rw[List.forIn_cons];simp only[if_true];refine zI (zI (thn (h pins s σ H Q I hw) λb s1 q=>rV ?_));exact rV q
def ou(J:It)(nt:Nat)(fr:List Nat)(g:TG)(c:TT)(te:TE)(σ:St)(H1:Hp)(Q:VK)(acc:Addr):Prop :=
 ∃W:Nat->Nat->St->List V->Hp->Prop,(∃m,W 0 m (eN nt fr σ) [] (upd H1 acc (.lst [])))/\∀i m σ' ys H',W i m σ' ys H'->H' acc=some (.lst ys) /\
  ((J.stop i H'/\Q (.ref acc) H')\/(J.go i H'/\∀x H2,J.yld i H' x H2->g x σ' H2 λσ2 H3=>c σ2 H3 λb H4=>if b=true then
   te σ2 H4 λy H5=>ys.length<sizeLine/\H5 acc=some (.lst ys)/\∃m',m'<m/\W (i+1) m' σ2 (ys++[y]) (upd H5 acc (.lst (ys++[y])))
   else ∃m',m'<m/\W (i+1) m' σ2 ys H4))
def mJ(wi:TI)(nt:Nat)(fr:List Nat)(g:TG)(c:TT)(te:TE):TE:=λσ H Q=>wi σ H λJ H1=>∀acc,H1 acc=none->ou J nt fr g c te σ H1 Q acc
section
variable{X:Cx}{target iter elt:Expr}{ifs:List Expr}{scope:Scope}{pos:Pos}{N:List Str}{nt:Nat}{fr:List Nat}{cl:List (Str×Addr)}{wi:TI}{g:TG}{c:TT}{te:TE}
theorem W7{pins:List (Addr×Obj)}{σ:St}{H H1:Hp}{s:Shared}{fp:List Addr}(I:Inv X pins σ H s)(cn:eY X N nt fr scope cl)(hf:∀b∈fp,jX X pins H b)(ho:∀b∈fp,b<s.heap.objs.size){H':Hp}(hn:∀b∈fp,H' b=none) :
  ∀b∈fp,jX (dg X N scope cl pins s H1 fp) [] H' b:=λb hb =>
 ⟨hn b hb,qS (ho b hb),λz=>(vT.mp (I.tL b z)).elim (hf b hb).2.1 (hf b hb).2.2.1,.inl hb,λx c e=>(hf b hb).2.2.2.2.1 x c (cn.cells x c e),λp hp=>(hf b hb).2.2.2.2.2 p (by
  have hp:p∈(X.pn++pins)++[]:=hp;rw[mI] at hp;exact hp)⟩
theorem uo{pins:List (Addr×Obj)}{σ:St}{s:Shared}{Q:VK}{itv:Value}{RR:Value->Addr->Result->Shared->Prop}{E:xB}
  (hc:X.calm=true) (cn:eY X N nt fr scope cl) (hcell:∀y∈scope.names,y.2≠.cell)
  (hg:∀pins s H fp,PG (dg X N scope cl pins s H fp) target g) (hif:∀pins s H fp,PIf (dg X N scope cl pins s H fp) ifs c) (he:∀pins s H fp,PE (dg X N scope cl pins s H fp) elt te)
  (h:PIE X pins σ target (λJ H1=>∀acc,H1 acc=none->ou J nt fr g c te σ H1 Q acc) itv s)
  (hRR:∀(acc C:Addr)(s':Shared)(H':Hp),(∃m,s'.heap.Ns C m)->Inv X pins σ H' s'->jX X pins H' C->Q (.ref acc) H'->RR (.ref acc) C (.ok .next) s') :
  wpAny (model X.prog X.w) X.A (newList []) (λacc s₃=>wpAny (model X.prog X.w) X.A (newFunctionEnv scope X.env.globals cl [] X.env.qual none .none (some X.env)) (λcenv s₄ =>
   codeAny (model X.prog X.w) X.A (.compStart (.ListComp elt [⟨target,iter,ifs,0⟩] scope pos) 0 itv acc { cenv with scope:=relabel scope X.env }) (RR acc cenv.locals) s₄) E s₃) E s:=by
 obtain⟨it,fp,tn,J,H2,e,I2,T,st2,f2,R⟩:=h;subst e;have fo:∀b∈fp,b<s.heap.objs.size:=λb hb=>let ⟨o,e,_⟩:=T.obj 0 _ st2 b hb;uA e
 refine wpAny_newObj_type (wpAny_newFunctionEnv hcell (by intro y hy;simp at hy) (λh₁ hns₁ hsb₁=>?_) cn.kind);dsimp only at hns₁ hsb₁ ⊢;have ha:H2 s.heap.objs.size=none:=I2.hok.fresh (uC _);have I3:Inv X pins σ (upd H2 s.heap.objs.size (.lst [])) { s with heap:=s.heap.push { cls:=.type "list", data:=.seq ([]:xE).toArray } } :=
  I2.laid (t':=s.toks) (λb u e=>uB _ e) (uC _) ⟨Nat.zero_le _,[],0,.nil,oC _ rfl⟩
 generalize hs3:({ s with heap:=s.heap.push { cls:=.type "list", data:=.seq ([]:xE).toArray } }:Shared)=s3 at I3
 have hh3:s3.heap=s.heap.push { cls:=.type "list", data:=.seq ([]:xE).toArray }:=by rw[<- hs3]
 have hsz:s3.heap.objs.size=s.heap.objs.size+1:=by rw[hh3,Heap.size_push]
 have fne:∀b∈fp,b≠s.heap.objs.size:=λb hb=>qS (fo b hb)
 have f3:∀b∈fp,jX X pins (upd H2 s.heap.objs.size (.lst [])) b:=λb hb=>⟨by rw[aQ (fne b hb)];exact(f2 b hb).1,(f2 b hb).2⟩
 have fo3:∀b∈fp,b<s3.heap.objs.size:=λb hb=>by rw[hsz];exact nK (fo b hb)
 have k3:∀b o,s3.heap.get? b=some o->h₁.get? b=some o:=λb o e=>hsb₁.extBut b o (by rw[<- hh3];exact qS (uA e)) (by rw[<- hh3];exact uB _ e)
 have hns:∃m,h₁.Ns s3.heap.objs.size m:=⟨_,by rw[hh3];exact hns₁⟩;have I4:Inv (dg X N scope cl pins s3 (upd H2 s.heap.objs.size (.lst [])) fp) [] (eN nt fr σ) (upd H2 s.heap.objs.size (.lst [])) { s3 with heap:=h₁,toks:=s3.toks+([]:List (Str×Value)).length }:=RT I3 cn f3 fo3 k3 hns
 have st4:tn 0 h₁:=T.keep 0 _ _ st2 λb hb o e=>k3 b o (by rw[hh3];exact uB _ e)
 obtain⟨W,⟨m0,w0⟩,turn⟩:=R s.heap.objs.size ha;have stat:∀{H':Hp},(∀b∈fp,H' b=none)->∀b∈fp,jX (dg X N scope cl pins s3 (upd H2 s.heap.objs.size (.lst [])) fp) [] H' b:=λhn=>W7 I3 cn f3 fo3 hn
 have hH:Un (frs X.stack) fp H2 (upd H2 s.heap.objs.size (.lst [])) s.heap s3.heap:=by
  rw[hh3];exact Un.laid (λb u e=>uB _ e) (uC _) ha
 have back:∀{σ':St} {H':Hp} {s':Shared} {h':Heap},Inv (dg X N scope cl pins s3 (upd H2 s.heap.objs.size (.lst [])) fp) [] σ' H' s'->Heap.SameBut s3.heap.objs.size s'.heap h'->Inv X pins σ H' { s' with heap:=h' }:=λJ' sb =>
  comp_back I2 (by rw[hsz];exact Nat.le_succ _) (by rw[<- hs3]) hH f2 J' sb
 have loop:codeAny (model X.prog X.w) X.A (.compLoop (.ListComp elt [⟨target,iter,ifs,0⟩] scope pos) 0 (.ref it) (.ref s.heap.objs.size) (compEnvC scope cl s3.heap.objs.size X.env)) (RR (.ref s.heap.objs.size) s3.heap.objs.size)
   { s3 with heap:=h₁,toks:=s3.toks+([]:List (Str×Value)).length }:=by
  refine OJ (λn s'=>∃i σ' ys H',Inv (dg X N scope cl pins s3 (upd H2 s.heap.objs.size (.lst [])) fp) [] σ' H' s'/\tn i s'.heap/\(∀b∈fp,H' b=none)/\W i n σ' ys H') ?_ m0
   ⟨0,_,[],_,I4,st4,λb hb=>(f3 b hb).1,w0⟩
  rintro n s5 ⟨i,σ5,ys,H5,I5,st5,fr5,w5⟩;obtain⟨hacc,step⟩:=turn i n σ5 ys H5 w5;rcases step with⟨stop,q⟩|⟨go,step⟩
  ·refine thn (T.done (dg X N scope cl pins s3 (upd H2 s.heap.objs.size (.lst [])) fp) rfl rfl rfl hc i [] s5 σ5 H5 (λ_ _=>False) I5 (stat fr5) st5 stop) λr s6 ⟨hr,I6⟩=>?_
   subst hr;obtain⟨m,hm,_⟩:=I6.loc;exact hRR _ _ s6 H5 ⟨m,hm⟩ (back I6 (Heap.SameBut.refl _ _)) (I2.Io (by rw[hsz];exact Nat.le_succ _) I6.free) q
  ·refine thn (T.item (dg X N scope cl pins s3 (upd H2 s.heap.objs.size (.lst [])) fp) rfl rfl rfl hc i [] s5 σ5 H5 (λ_ _=>False) I5 (stat fr5) st5 go) λr s6 ⟨u,hr,h6⟩=>?_
   subst hr;refine thn h6 λ_ s7 ⟨x,H7,I7,r7,y7,st7,fr7⟩=>?_
   have I7':=I7.pinned (stat fr7) (T.obj _ _ st7);refine thn (hg pins s3 _ fp _ s7 σ5 H7 x u _ I7' r7 (step x H7 y7)) λ_ s8 ⟨σ8,H8,I8,q8⟩=>?_
   have KY:∀{σ':St} {H':Hp} {s':Shared},Inv (dg X N scope cl pins s3 (upd H2 s.heap.objs.size (.lst [])) fp) ([]++tV fp s7.heap) σ' H' s'->tn (i+1) s'.heap/\∀b∈fp,H' b=none:=λ{σ' H' s'} I' =>
    ⟨T.keep _ _ _ st7 λb hb o e=>(I'.pin (b,o) (rS _ (rS _ (jC hb e)))).1,λb hb=>by
     obtain⟨o,e,d⟩:=T.obj _ _ st7 b hb;exact(I'.pin (b,o) (rS _ (rS _ (jC hb e)))).2.1⟩
   refine thn (hif pins s3 _ fp _ s8 σ8 H8 _ I8 q8) λok s9 ⟨H9,I9,q9⟩=>?_
   cases ok with
   | false =>
    have q9:∃m',m'<n/\W (i+1) m' σ8 ys H9:=q9;obtain⟨m',hm,w9⟩:=q9;exact⟨m',hm,i+1,σ8,ys,H9,I9.jY,(KY I9).1,(KY I9).2,w9⟩
   | true =>
    rw[zS rfl];refine thn (he pins s3 _ fp _ s9 σ8 H9 _ I9 q9) λz s10 ⟨y,H10,I10,r10,hz,agT,m',hm,w10⟩=>?_
    refine thn (yH _ s10 σ8 H10 (.ref s.heap.objs.size) [y] (.ref s.heap.objs.size) [z] (λv H'=>v=.non/\H'=upd H10 s.heap.objs.size (.lst (ys++[y]))) I10 rfl (.cons r10 .nil) ⟨_,ys,y,rfl,rfl,agT,hz,rfl,rfl⟩) λv s11 ⟨_,H11,I11,_,_,e11⟩=>?_
    subst e11;exact⟨m',hm,i+1,σ8,ys++[y],_,I11.jY,(KY I11).1,(KY I11).2,w10⟩
 have fin:codeAny (model X.prog X.w) X.A (.compStart (.ListComp elt [⟨target,iter,ifs,0⟩] scope pos) 0 (.ref it) (.ref s.heap.objs.size) (compEnvC scope cl s3.heap.objs.size X.env)) (RR (.ref s.heap.objs.size) s3.heap.objs.size)
   { s3 with heap:=h₁,toks:=s3.toks+([]:List (Str×Value)).length } :=
  codeAny_compStart_list loop (T.self _ 0 _ _ _ st4 loop)
 rw[<- hs3] at fin;exact fin
theorem dI(hi:PI X target iter wi)(hg:∀pins s H fp,PG (dg X N scope cl pins s H fp) target g)(hif:∀pins s H fp,PIf (dg X N scope cl pins s H fp) ifs c)(he:∀pins s H fp,PE (dg X N scope cl pins s H fp) elt te)
  (hc:X.calm=true:=by rfl) (hcl:dF X.env scope.names=some cl:=by rfl) (hlen:N.length=nt+fr.length:=by rfl) (hB:iM X N nt scope fr 0=true:=by rfl)
  (hcell:∀y∈scope.names,y.2≠.cell:=by decide +kernel) (hkind:scope.kind=.function:=by rfl) (hnames:∀y∈scope.names,y.2=.local->scope.names.lookup y.1=some .local:=by decide +kernel)
  (hs:∀x,foldedSetIterable iter X.env x=pure x:=by intro _;rfl):PE X (.ListComp elt [⟨target,iter,ifs,0⟩] scope pos) (mJ wi nt fr g c te):=by
 intro pins s σ H Q I h;rw[eval_ListComp];refine wpAny_comprehension_free (use:=none) rfl hs (mG hcl) hkind hnames (thn (hi pins s σ H _ I h) λxv s1 h1=>thn h1 λitv s2 h2=>?_);exact uo hc (eY.of hcl hlen hB hcell hkind) hcell hg hif he h2 λacc C s' H' ⟨m,hm⟩ hI hF hq=>⟨m,hm,λh' sb=>⟨.ref acc,H',hI.turned (t':=s'.toks) (λb o hb e=>sb.extBut b o hb e) hF.1 hF.2.1 hF.2.2.2.1 hF.2.2.2.2.1 hF.2.2.2.2.2,rfl,hq⟩⟩
theorem oA{i:Nat}{y:Str}{py spos:Pos}(hN:X.N.Nodup)(hyi:X.N[i]?=some y)(hy:Loc X.env.scope y)(hi:PI X target iter wi)(hg:∀pins s H fp,PG (dg X N scope cl pins s H fp) target g)(hif:∀pins s H fp,PIf (dg X N scope cl pins s H fp) ifs c)(he:∀pins s H fp,PE (dg X N scope cl pins s H fp) elt te)
  (hsw:swapsWith (.ListComp elt [⟨target,iter,ifs,0⟩] scope pos) (some (.Name y py)) spos.line X.env=pure true:=by rfl)
  (hc:X.calm=true:=by rfl) (hcl:dF X.env scope.names=some cl:=by rfl) (hlen:N.length=nt+fr.length:=by rfl) (hB:iM X N nt scope fr 0=true:=by rfl)
  (hcell:∀y∈scope.names,y.2≠.cell:=by decide +kernel) (hkind:scope.kind=.function:=by rfl) (hnames:∀y∈scope.names,y.2=.local->scope.names.lookup y.1=some .local:=by decide +kernel)
  (hs:∀x,foldedSetIterable iter X.env x=pure x:=by intro _;rfl) (hf:X.fn y=true\/X.env.scope.names.lookup y=some .local:=by first|exact .inl rfl|exact .inr rfl|assumption) :
  PS X (.Assign [.Name y py] (.ListComp elt [⟨target,iter,ifs,0⟩] scope pos) spos) (Oh (mJ wi nt fr g c te) (bw i)):=by
 intro pins s σ H D I h;rw[exec_Assign_Name_used _ _ _ _ hsw];refine zI (wpAny_standAt (zI ?_));show wpAny _ X.A (do let _ <- comprehension (.ListComp elt [⟨target,iter,ifs,0⟩] scope pos) scope X.env _ (newList []) false (eval iter X.env) (some (assign (.Name y py) X.env))) _ _ s;refine zI (mB (wpAny_comprehension_free (use:=some (assign (.Name y py) X.env)) (Q:=λ_ s'=>SP X pins D .next s') rfl hs (mG hcl) hkind hnames (thn (hi pins s σ H _ I h) λxv s1 h1=>thn h1 λitv s2 h2=>?_)) (λ_ s' hq=>rV (rV hq)) λ_ _ e=>e);refine uo (Q:=λx H1=>bw i x σ H1 D.nx) (RR:=λacc C=>compPost (model X.prog X.w) X.A X.xe (some (assign (.Name y py) X.env)) (λ_ s'=>SP X pins D .next s') acc C) hc (eY.of hcl hlen hB hcell hkind) hcell hg hif he h2 λacc C s' H' ⟨m,hm⟩ hI hF hq=>?_
 show wpAny _ X.A (assign (.Name y py) X.env (.ref acc)) _ _ _;refine wpAny_assign_Name (yh hI hN hyi hy (v:=.ref acc) rfl (λs3 I3 ⟨a,sb,ha⟩=>?_) hf);have hne:C≠a:=by
  rcases ha with rfl|ha
  ·exact hF.2.1
  ·exact λz=>hF.2.2.2.2.1 y a ha z.symm
 refine⟨m,hm.sameBut sb hne,λh' sb'=>⟨_,H',I3.turned (t':=s3.toks) (λb o hb e=>sb'.extBut b o hb e) hF.1 hF.2.1 hF.2.2.2.1 hF.2.2.2.2.1 hF.2.2.2.2.2,hq⟩⟩
end
structure ItemsOf(J:It)(xs:List V)(L:Hp->Prop):Prop where
 go:∀i H,L H->i<xs.length->J.go i H
 yld:∀i H x H',L H->i<xs.length->J.yld i H x H'->H'=H/\xs[i]?=some x
 stop:∀H,L H->J.stop xs.length H
theorem iC{K:W.Frag}{a:Addr}{xs:List V}:ItemsOf (Itl K a) xs (λH=>SqL K H a xs) :=
 ⟨λi H h hi=>⟨xs,xs[i],h,by simp[hi]⟩,λi H x H' h hi y=>⟨y.1,y.2 xs h⟩,λH h=>⟨xs,h,Nat.le_refl _⟩⟩
def cR(lo:Int)(n:Nat):List V:=(List.range n).map λi:Nat=>V.int (lo+(i:Int))
theorem iQ{lo:Int}{n:Nat}:ItemsOf (Itr lo n) (cR lo n) (λ_=>True) :=
 ⟨λi H _ hi=>by show i<n;simpa[cR] using hi,λi H x H' _ hi y=>⟨y.1,by
  have hi:i<n:=by simpa[cR] using hi
  rw[y.2];simp[cR,hi]⟩,λH _=>by show n<=_;simp[cR]⟩
def mX(z:Str):List V:=z.cps.toList.map λc=>V.str ⟨#[c]⟩
theorem items_str{z:Str}:ItemsOf (Its z) (mX z) (λ_=>True) :=
 ⟨λi H _ hi=>by show i<z.cps.size;simpa[mX] using hi,λi H x H' _ hi y=>⟨y.1,by
  obtain⟨_,c,e,rfl⟩:=y;have hi:i<z.cps.size:=by simpa[mX] using hi
  have e:z.cps[i]=c:=by simpa[hi] using e
  simp[mX,hi,e]⟩,λH _=>by show z.cps.size<=_;simp[mX]⟩
def jT(xs:List V)(nt:Nat)(fvs:St)(Pv:Nat->List V->Hp->Prop):Nat->Nat->St->List V->Hp->Prop:=λi m σ' ys H' =>
 m=xs.length-i/\i<=xs.length/\Pv i ys H'/\∃tv:List (Option V),tv.length=nt/\σ'=tv++fvs
theorem jT.next{xs:List V}{nt:Nat}{fvs:St}{Pv:Nat->List V->Hp->Prop}{i:Nat}{tv:List (Option V)}{ys:List V}{H:Hp}(hi:i<xs.length)(p:Pv (i+1) ys H)(ht:tv.length=nt) :
  ∃m',m'<xs.length-i/\jT xs nt fvs Pv (i+1) m' (tv++fvs) ys H:=⟨xs.length-(i+1),by lia,rfl,hi,p,tv,ht,rfl⟩
theorem oE{J:It}{xs:List V}{L:Hp->Prop}{σ:St}{H1:Hp}{nt:Nat}{fr:List Nat}{g:TG}{c:TT}{te:TE}{Q:VK}{acc:Addr}(it:ItemsOf J xs L)(Pv:Nat->List V->Hp->Prop)
  (h0:Pv 0 [] (upd H1 acc (.lst []))) (hL:∀i ys H',i<=xs.length->Pv i ys H'->L H'/\H' acc=some (.lst ys))
  (turn:∀i x tv ys H',xs[i]?=some x->i<xs.length->Pv i ys H'->tv.length=nt->g x (tv++fr.map λi=>(σ[i]?).getD none) H' λσ2 H3 =>
   c σ2 H3 λb H4=>if b=true then te σ2 H4 λy H5=>ys.length<sizeLine/\H5 acc=some (.lst ys)/\∃m',m'<xs.length-i/\jT xs nt (fr.map λi=>(σ[i]?).getD none) Pv (i+1) m' σ2 (ys++[y]) (upd H5 acc (.lst (ys++[y])))
    else ∃m',m'<xs.length-i/\jT xs nt (fr.map λi=>(σ[i]?).getD none) Pv (i+1) m' σ2 ys H4)
  (hd:∀ys H',Pv xs.length ys H'->Q (.ref acc) H'):ou J nt fr g c te σ H1 Q acc:=by
 refine⟨jT xs nt (fr.map λi=>(σ[i]?).getD none) Pv,⟨xs.length,by simp,Nat.zero_le _,h0,List.replicate nt none,by simp,rfl⟩,?_⟩;rintro i m σ' ys H' ⟨rfl,hi,p,tv,htv,rfl⟩;obtain⟨l,ha⟩:=hL i ys H' hi p;refine⟨ha,?_⟩;by_cases hlt:i<xs.length
 ·refine .inr ⟨it.go i H' l hlt,λx H2 y=>?_⟩;obtain⟨rfl,hx⟩:=it.yld i H' x H2 l hlt y;exact turn i x tv ys H2 hx hlt p htv
 ·have e:i=xs.length:=by lia
  subst e;exact .inl ⟨it.stop H' l,hd ys H' p⟩
end L2
namespace L2
open PySem PySem.Spec PyProof.Rows PySem.SeqAt
inductive Dt where
 | non|bl (b:Bool)|int (i:Int)|str (x:Str)|lst (xs:List Dt)|tup (xs:List Dt)
mutual
def Rep(K:W.Frag)(H:Hp):Dt->V->Prop
 | .non,v=>v=.non
 | .bl b,v=>v=.bl b
 | .int i,v=>v=.int i
 | .str x,v=>v=.str x
 | .lst ds,v=>∃p xs,v=.ref p/\SqL K H p xs/\cI K H ds xs
 | .tup ds,v=>∃p xs,v=.ref p/\SqT K H p xs/\cI K H ds xs
def cI(K:W.Frag)(H:Hp):List Dt->List V->Prop
 | [],xs=>xs=[]
 | d::ds,xs=>∃x r,xs=x::r/\Rep K H d x/\cI K H ds r
end
mutual
def dW:Dt->Dt->Bool
 | .non,.non=>true
 | .bl a,.bl b=>a==b
 | .bl a,.int b=>(if a then 1 else 0)==b
 | .int a,.bl b=>a==(if b then 1 else 0)
 | .int a,.int b=>a==b
 | .str a,.str b=>a==b
 | .lst xs,.lst ys=>dN xs ys
 | .tup xs,.tup ys=>dN xs ys
 | _,_=>false
def dN:List Dt->List Dt->Bool
 | [],[]=>true
 | x::xs,y::ys=>dW x y && dN xs ys
 | _,_=>false
end
mutual
def fC:Dt->Nat
 | .lst xs=>fD xs+1
 | .tup xs=>fD xs+1
 | _=>0
def fD:List Dt->Nat
 | []=>0
 | x::xs=>max (fC x) (fD xs)
end
theorem cI.length{K:W.Frag}{H:Hp}:∀{ds:List Dt} {xs:List V},cI K H ds xs->ds.length=xs.length
 | [],xs,h=>by rw[show xs=[] from by simpa[cI] using h];rfl
 | d::ds,xs,h=>by
  obtain⟨x,r,rfl,_,h2⟩:∃x r,xs=x::r/\Rep K H d x/\cI K H ds r:=by simpa[cI] using h
  simp[cI.length h2]
theorem cI.get{K:W.Frag}{H:Hp}:∀{ds:List Dt} {xs:List V} {j:Nat} {d:Dt},cI K H ds xs->ds[j]?=some d->∃x,xs[j]?=some x/\Rep K H d x
 | [],_,_,_,_,e=>by simp at e
 | d0::ds,xs,j,d,h,e=>by
  obtain⟨x,r,rfl,h1,h2⟩:∃x r,xs=x::r/\Rep K H d0 x/\cI K H ds r:=by simpa[cI] using h
  cases j with
  | zero =>
   have e:d0=d:=by simpa using e
   subst e;exact⟨x,rfl,h1⟩
  | succ j =>
   obtain⟨y,e1,e2⟩:=cI.get (j:=j) h2 (by simpa using e);exact⟨y,by simpa using e1,e2⟩
theorem yK:∀{ds:List Dt} {j:Nat} {d:Dt},ds[j]?=some d->fC d<=fD ds
 | [],_,_,e=>by simp at e
 | d0::ds,j,d,e=>by
  cases j with
  | zero =>
   have e:d0=d:=by simpa using e
   subst e;simp only[fD];lia
  | succ j =>
   have:=yK (ds:=ds) (j:=j) (d:=d) (by simpa using e);simp only[fD];lia
theorem qp:∀(ds es:List Dt),ds.length=es.length->((List.range ds.length).all λj=>dW (ds.getD j .non) (es.getD j .non))=dN ds es
 | [],[],_=>rfl
 | [],_::_,h=>by simp at h
 | _::_,[],h=>by simp at h
 | d::ds,e::es,h=>by
  have h:ds.length=es.length:=by simpa using h
  rw[mS,List.range_succ_eq_map,List.all_cons,List.all_map];have:=qp ds es h;simp only[dN];rw[<- this]
  rfl
theorem jG:∀(ds es:List Dt),ds.length≠es.length->dN ds es=false
 | [],[],h=>by simp at h
 | [],_::_,_=>rfl
 | _::_,[],_=>rfl
 | d::ds,e::es,h=>by
  have h:ds.length≠es.length:=λz=>h (by simp[z])
  simp only[dN,jG ds es h,Bool.and_false]
mutual
theorem yL:∀d:Dt,dW d d=true
 | .non=>rfl
 | .bl b=>by simp[dW]
 | .int i=>by simp[dW]
 | .str x=>by simp[dW]
 | .lst xs=>by simp only[dW];exact iD xs
 | .tup xs=>by simp only[dW];exact iD xs
theorem iD:∀ds:List Dt,dN ds ds=true
 | []=>rfl
 | d::ds=>by simp only[dN,yL d,iD ds,Bool.and_true]
end
section
variable{X:Cx}{pins:List (Addr×Obj)}{σ:St}{H:Hp}{s:Shared}
theorem rJ{a:Addr}{xs ys:List V}(I:Inv X pins σ H s)(h:SqL X.K H a xs)(h':SqT X.K H a ys):False:=by
 obtain⟨its,_,pl,_⟩:=I.list h;obtain⟨its',_,pt,_⟩:=I.tuple h';obtain⟨o,n,e,c,_,_⟩:=pl;obtain⟨o',e',c',_⟩:=pt;rw[e] at e';cases e';rw[c] at c';exact gL c' (by decide)
mutual
theorem W8(I:Inv X pins σ H s):∀(d d':Dt)(v:V),Rep X.K H d v->Rep X.K H d' v->d=d'
 | .non,d',v,h,h'=>by
  have h:v=.non:=by simpa[Rep] using h
  subst h;cases d' <;> simp[Rep] at h' <;> rfl
 | .bl b,d',v,h,h'=>by
  have h:v=.bl b:=by simpa[Rep] using h
  subst h;cases d' <;> simp[Rep] at h'
  rw[h']
 | .int b,d',v,h,h'=>by
  have h:v=.int b:=by simpa[Rep] using h
  subst h;cases d' <;> simp[Rep] at h'
  rw[h']
 | .str b,d',v,h,h'=>by
  have h:v=.str b:=by simpa[Rep] using h
  subst h;cases d' <;> simp[Rep] at h'
  rw[h']
 | .lst ds,d',v,h,h'=>by
  obtain⟨p,xs,rfl,hq,hr⟩:∃p xs,v=.ref p/\SqL X.K H p xs/\cI X.K H ds xs:=by simpa only[Rep] using h
  cases d' with
  | lst es =>
   obtain⟨p',ys,e,hq',hr'⟩:∃p' ys,V.ref p=.ref p'/\SqL X.K H p' ys/\cI X.K H es ys:=by simpa only[Rep] using h'
   cases e;rw[I.tU hq' hq] at hr';rw[j6 I ds es xs hr hr']
  | tup es =>
   obtain⟨p',ys,e,hq',hr'⟩:∃p' ys,V.ref p=.ref p'/\SqT X.K H p' ys/\cI X.K H es ys:=by simpa only[Rep] using h'
   cases e;exact(rJ I hq hq').elim
  | _=>simp[Rep] at h'
 | .tup ds,d',v,h,h'=>by
  obtain⟨p,xs,rfl,hq,hr⟩:∃p xs,v=.ref p/\SqT X.K H p xs/\cI X.K H ds xs:=by simpa only[Rep] using h
  cases d' with
  | tup es =>
   obtain⟨p',ys,e,hq',hr'⟩:∃p' ys,V.ref p=.ref p'/\SqT X.K H p' ys/\cI X.K H es ys:=by simpa only[Rep] using h'
   cases e;rw[I.yj hq' hq] at hr';rw[j6 I ds es xs hr hr']
  | lst es =>
   obtain⟨p',ys,e,hq',hr'⟩:∃p' ys,V.ref p=.ref p'/\SqL X.K H p' ys/\cI X.K H es ys:=by simpa only[Rep] using h'
   cases e;exact(rJ I hq' hq).elim
  | _=>simp[Rep] at h'
theorem j6(I:Inv X pins σ H s):∀(ds es:List Dt)(xs:List V),cI X.K H ds xs->cI X.K H es xs->ds=es
 | [],es,xs,h,h'=>by
  have h:xs=[]:=by simpa[cI] using h
  subst h;cases es with
  | nil=>rfl
  | cons e es=>simp[cI] at h'
 | d::ds,es,xs,h,h'=>by
  obtain⟨x,r,rfl,h1,h2⟩:∃x r,xs=x::r/\Rep X.K H d x/\cI X.K H ds r:=by simpa only[cI] using h
  cases es with
  | nil=>simp[cI] at h'
  | cons e es =>
   obtain⟨x',r',e',h1',h2'⟩:∃x' r',x::r=x'::r'/\Rep X.K H e x'/\cI X.K H es r':=by simpa only[cI] using h'
   cases e';rw[W8 I d e x h1 h1',j6 I ds es r h2 h2']
end
structure Eq3(A:Around)(s:Shared)(u v:Value)(b:Bool):Prop where
 eq:EqAt A s u v b
 rc:RcAt A s u v b
 ne:RcNeAt A s u v (!b)
theorem oF(I:Inv X pins σ H s){n:Nat}{A:Around}(ih:∀(d d':Dt)(x y:V)(u v:Value),fC d<=n->Rep X.K H d x->Rep X.K H d' y->RelV x u->RelV y v->Eq3 A.in1 s u v (dW d d'))
  {ds es:List Dt} {xs ys:List V} {us vs:xE} (hd:fD ds<=n) (hx:cI X.K H ds xs) (hy:cI X.K H es ys) (ru:Vals xs us) (rv:Vals ys vs) :
  ∀j (h1:j<us.toArray.size) (h2:j<vs.toArray.size),EqAt A.in1 s us.toArray[j] vs.toArray[j] (dW (ds.getD j .non) (es.getD j .non)):=by
 intro j h1 h2;have l1:j<ds.length:=by rw[hx.length,ru.length];simpa using h1
 have l2:j<es.length:=by rw[hy.length,rv.length];simpa using h2
 have e1:ds[j]?=some ds[j]:=by simp[l1]
 have e2:es[j]?=some es[j]:=by simp[l2]
 obtain⟨x,ex,rx⟩:=hx.get e1;obtain⟨y,ey,ry⟩:=hy.get e2;obtain⟨u,eu,qu⟩:=ru.get ex;obtain⟨v,ev,qv⟩:=rv.get ey;have h1':j<us.length:=by simpa using h1
 have h2':j<vs.length:=by simpa using h2
 have z1:us.toArray[j]=u:=by
  have:us[j]?=some us[j]:=by simp[h1']
  rw[this] at eu;simpa using eu
 have z2:vs.toArray[j]=v:=by
  have:vs[j]?=some vs[j]:=by simp[h2']
  rw[this] at ev;simpa using ev
 rw[z1,z2];have g1:ds.getD j .non=ds[j]:=by simp[List.getD,l1]
 have g2:es.getD j .non=es[j]:=by simp[List.getD,l2]
 rw[g1,g2];exact(ih _ _ x y u v (rX (yK e1) hd) rx ry qu qv).eq
theorem O1(I:Inv X pins σ H s){n:Nat}{A:Around}(hu:A.units<cLine)(ih:∀(d d':Dt)(x y:V)(u v:Value),fC d<=n->Rep X.K H d x->Rep X.K H d' y->RelV x u->RelV y v->Eq3 A.in1 s u v (dW d d'))
  {ds es:List Dt} {p q:Addr} (hd:fD ds<=n) (hp:Rep X.K H (.lst ds) (.ref p)) (hq:Rep X.K H (.lst es) (.ref q)):Eq3 A s (.ref p) (.ref q) (dN ds es):=by
 obtain⟨p',xs,e,lx,hx⟩:∃p' xs,V.ref p=.ref p'/\SqL X.K H p' xs/\cI X.K H ds xs:=by simpa only[Rep] using hp
 cases e;obtain⟨q',ys,e,ly,hy⟩:∃q' ys,V.ref q=.ref q'/\SqL X.K H q' ys/\cI X.K H es ys:=by simpa only[Rep] using hq
 cases e;obtain⟨us,ru,pu,_⟩:=I.list lx;obtain⟨vs,rv,pv',_⟩:=I.list ly;have both:RcAt A s (.ref p) (.ref q) (dN ds es)/\RcNeAt A s (.ref p) (.ref q) (!dN ds es):=by
  by_cases hl:ds.length=es.length
  ·have hsz:us.toArray.size=vs.toArray.size:=by simp[<- ru.length,<- rv.length,<- hx.length,<- hy.length,hl]
   have hz:us.toArray.size=ds.length:=by simp[<- ru.length,<- hx.length]
   have a:=RcAt.lists pu.isList pv'.isList hsz hu (oF I ih hd hx hy ru rv);have b:=RcNeAt.lists pu.isList pv'.isList hsz hu (oF I ih hd hx hy ru rv);rw[hz,qp ds es hl] at a b;exact⟨a,b⟩
  ·have hsz:(us.toArray.size != vs.toArray.size)=true:=by simp[<- ru.length,<- rv.length,<- hx.length,<- hy.length,hl]
   rw[jG ds es hl];exact⟨RcAt.lists_lengths pu.isList pv'.isList hsz hu,RcNeAt.lists_lengths pu.isList pv'.isList hsz hu⟩
 refine⟨?_,both.1,both.2⟩;by_cases hpq:p=q
 ·subst hpq;have:ds=es:=by
   rw[I.tU ly lx] at hy;exact j6 I ds es xs hx hy
  subst this;rw[iD];exact EqAt.same _
 ·exact EqAt.of_refs hpq both.1
theorem RV(I:Inv X pins σ H s){n:Nat}{A:Around}(hu:A.units<cLine)(ih:∀(d d':Dt)(x y:V)(u v:Value),fC d<=n->Rep X.K H d x->Rep X.K H d' y->RelV x u->RelV y v->Eq3 A.in1 s u v (dW d d'))
  {ds es:List Dt} {p q:Addr} (hd:fD ds<=n) (hp:Rep X.K H (.tup ds) (.ref p)) (hq:Rep X.K H (.tup es) (.ref q)):Eq3 A s (.ref p) (.ref q) (dN ds es):=by
 obtain⟨p',xs,e,lx,hx⟩:∃p' xs,V.ref p=.ref p'/\SqT X.K H p' xs/\cI X.K H ds xs:=by simpa only[Rep] using hp
 cases e;obtain⟨q',ys,e,ly,hy⟩:∃q' ys,V.ref q=.ref q'/\SqT X.K H q' ys/\cI X.K H es ys:=by simpa only[Rep] using hq
 cases e;obtain⟨us,ru,pu,_⟩:=I.tuple lx;obtain⟨vs,rv,pv',_⟩:=I.tuple ly;have hz:us.toArray.size=ds.length:=by simp[<- ru.length,<- hx.length]
 have hz':vs.toArray.size=es.length:=by simp[<- rv.length,<- hy.length]
 have key:((List.range (min us.toArray.size vs.toArray.size)).all (λj=>dW (ds.getD j .non) (es.getD j .non)) && us.toArray.size==vs.toArray.size)=dN ds es:=by
  rw[hz,hz'];by_cases hl:ds.length=es.length
  ·rw[<- hl,Nat.min_self,qp ds es hl];simp
  ·rw[jG ds es hl];simp[hl]
 have a:=RcAt.tuples pu pv' hu (oF I ih hd hx hy ru rv);have b:=RcNeAt.tuples pu pv' hu (oF I ih hd hx hy ru rv);rw[key] at a b;refine⟨?_,a,b⟩;by_cases hpq:p=q
 ·subst hpq;have:ds=es:=by
   rw[I.yj ly lx] at hy;exact j6 I ds es xs hx hy
  subst this;rw[iD];exact EqAt.same _
 ·exact EqAt.of_refs hpq a
end
section
variable{X:Cx}{pins:List (Addr×Obj)}{σ:St}{H:Hp}{s:Shared}
theorem gj{ds:List Dt}{x:V}(h:Rep X.K H (.lst ds) x):∃p xs,x=.ref p/\SqL X.K H p xs:=by
 obtain⟨p,xs,e,l,_⟩:∃p xs,x=.ref p/\SqL X.K H p xs/\cI X.K H ds xs:=by simpa only[Rep] using h
 exact⟨p,xs,e,l⟩
theorem gk{ds:List Dt}{x:V}(h:Rep X.K H (.tup ds) x):∃p xs,x=.ref p/\SqT X.K H p xs:=by
 obtain⟨p,xs,e,l,_⟩:∃p xs,x=.ref p/\SqT X.K H p xs/\cI X.K H ds xs:=by simpa only[Rep] using h
 exact⟨p,xs,e,l⟩
theorem Eh(I:Inv X pins σ H s){n:Nat}{A:Around}(ih:∀(d d':Dt)(x y:V)(u v:Value),fC d<n->Rep X.K H d x->Rep X.K H d' y->RelV x u->RelV y v->Eq3 A.in1 s u v (dW d d'))
  {d d':Dt} {x y:V} {u v:Value} (hu:A.units+n<cLine) (hd:fC d<=n) (hx:Rep X.K H d x) (hy:Rep X.K H d' y) (rx:RelV x u) (ry:RelV y v):Eq3 A s u v (dW d d'):=by
 have hu0:A.units<cLine:=by lia
 cases d with
 | non =>
  have e:x=V.non:=by simpa[Rep] using hx
  subst e;cases rx;cases d' with
  | non =>
   have e:y=V.non:=by simpa[Rep] using hy
   subst e;cases ry;exact⟨(EqAt.same _),RcAt.none_none , RcNeAt.none_none ⟩
  | bl b =>
   have e:y=V.bl b:=by simpa[Rep] using hy
   subst e;cases ry;exact⟨(EqAt.none_bool b),RcAt.none_bool b,RcNeAt.none_bool b⟩
  | int b =>
   have e:y=V.int b:=by simpa[Rep] using hy
   subst e;obtain⟨u,rfl⟩:=ry;exact⟨(EqAt.none_int b u),RcAt.none_int b u,RcNeAt.none_int b u⟩
  | str b =>
   have e:y=V.str b:=by simpa[Rep] using hy
   subst e;obtain⟨u,rfl⟩:=ry;exact⟨(EqAt.none_str b u),RcAt.none_str b u,RcNeAt.none_str b u⟩
  | lst b =>
   obtain⟨pW,xsW,rfl,lW⟩:=gj hy;cases ry;obtain⟨itW,_,plW,_⟩:=I.list lW;exact⟨EqAt.none_list  plW.isList hu0,RcAt.none_list  plW.isList hu0,RcNeAt.none_list  plW.isList hu0⟩
  | tup b =>
   obtain⟨pW,xsW,rfl,lW⟩:=gk hy;cases ry;obtain⟨itW,_,plW,_⟩:=I.tuple lW;exact⟨EqAt.none_tuple  plW hu0,RcAt.none_tuple  plW hu0,RcNeAt.none_tuple  plW hu0⟩
 | bl a =>
  have e:x=V.bl a:=by simpa[Rep] using hx
  subst e;cases rx;cases d' with
  | non =>
   have e:y=V.non:=by simpa[Rep] using hy
   subst e;cases ry;exact⟨(EqAt.bool_none a),RcAt.bool_none a,RcNeAt.bool_none a⟩
  | bl b =>
   have e:y=V.bl b:=by simpa[Rep] using hy
   subst e;cases ry;exact⟨(EqAt.bool_bool a b),RcAt.bool_bool a b,RcNeAt.bool_bool a b⟩
  | int b =>
   have e:y=V.int b:=by simpa[Rep] using hy
   subst e;obtain⟨u,rfl⟩:=ry;exact⟨(EqAt.bool_int a b u),RcAt.bool_int a b u,RcNeAt.bool_int a b u⟩
  | str b =>
   have e:y=V.str b:=by simpa[Rep] using hy
   subst e;obtain⟨u,rfl⟩:=ry;exact⟨(EqAt.bool_str a b u),RcAt.bool_str a b u,RcNeAt.bool_str a b u⟩
  | lst b =>
   obtain⟨pW,xsW,rfl,lW⟩:=gj hy;cases ry;obtain⟨itW,_,plW,_⟩:=I.list lW;exact⟨EqAt.bool_list a plW.isList hu0,RcAt.bool_list a plW.isList hu0,RcNeAt.bool_list a plW.isList hu0⟩
  | tup b =>
   obtain⟨pW,xsW,rfl,lW⟩:=gk hy;cases ry;obtain⟨itW,_,plW,_⟩:=I.tuple lW;exact⟨EqAt.bool_tuple a plW hu0,RcAt.bool_tuple a plW hu0,RcNeAt.bool_tuple a plW hu0⟩
 | int a =>
  have e:x=V.int a:=by simpa[Rep] using hx
  subst e;obtain⟨t,rfl⟩:=rx;cases d' with
  | non =>
   have e:y=V.non:=by simpa[Rep] using hy
   subst e;cases ry;exact⟨(EqAt.int_none a t),RcAt.int_none a t,RcNeAt.int_none a t⟩
  | bl b =>
   have e:y=V.bl b:=by simpa[Rep] using hy
   subst e;cases ry;exact⟨(EqAt.int_bool a t b),RcAt.int_bool a t b,RcNeAt.int_bool a t b⟩
  | int b =>
   have e:y=V.int b:=by simpa[Rep] using hy
   subst e;obtain⟨u,rfl⟩:=ry;exact⟨(EqAt.int_int a t b u),RcAt.int_int a t b u,RcNeAt.int_int a t b u⟩
  | str b =>
   have e:y=V.str b:=by simpa[Rep] using hy
   subst e;obtain⟨u,rfl⟩:=ry;exact⟨(EqAt.int_str a t b u),RcAt.int_str a t b u,RcNeAt.int_str a t b u⟩
  | lst b =>
   obtain⟨pW,xsW,rfl,lW⟩:=gj hy;cases ry;obtain⟨itW,_,plW,_⟩:=I.list lW;exact⟨EqAt.int_list a t plW.isList hu0,RcAt.int_list a t plW.isList hu0,RcNeAt.int_list a t plW.isList hu0⟩
  | tup b =>
   obtain⟨pW,xsW,rfl,lW⟩:=gk hy;cases ry;obtain⟨itW,_,plW,_⟩:=I.tuple lW;exact⟨EqAt.int_tuple a t plW hu0,RcAt.int_tuple a t plW hu0,RcNeAt.int_tuple a t plW hu0⟩
 | str a =>
  have e:x=V.str a:=by simpa[Rep] using hx
  subst e;obtain⟨t,rfl⟩:=rx;cases d' with
  | non =>
   have e:y=V.non:=by simpa[Rep] using hy
   subst e;cases ry;exact⟨(EqAt.str_none a t),RcAt.str_none a t,RcNeAt.str_none a t⟩
  | bl b =>
   have e:y=V.bl b:=by simpa[Rep] using hy
   subst e;cases ry;exact⟨(EqAt.str_bool a t b),RcAt.str_bool a t b,RcNeAt.str_bool a t b⟩
  | int b =>
   have e:y=V.int b:=by simpa[Rep] using hy
   subst e;obtain⟨u,rfl⟩:=ry;exact⟨(EqAt.str_int a t b u),RcAt.str_int a t b u,RcNeAt.str_int a t b u⟩
  | str b =>
   have e:y=V.str b:=by simpa[Rep] using hy
   subst e;obtain⟨u,rfl⟩:=ry;exact⟨(EqAt.str_str a t b u),RcAt.str_str a t b u,RcNeAt.str_str a t b u⟩
  | lst b =>
   obtain⟨pW,xsW,rfl,lW⟩:=gj hy;cases ry;obtain⟨itW,_,plW,_⟩:=I.list lW;exact⟨EqAt.str_list a t plW.isList hu0,RcAt.str_list a t plW.isList hu0,RcNeAt.str_list a t plW.isList hu0⟩
  | tup b =>
   obtain⟨pW,xsW,rfl,lW⟩:=gk hy;cases ry;obtain⟨itW,_,plW,_⟩:=I.tuple lW;exact⟨EqAt.str_tuple a t plW hu0,RcAt.str_tuple a t plW hu0,RcNeAt.str_tuple a t plW hu0⟩
 | lst a =>
  obtain⟨pU,xsU,rfl,lU⟩:=gj hx;cases rx;obtain⟨itU,_,plU,_⟩:=I.list lU;cases d' with
  | non =>
   have e:y=V.non:=by simpa[Rep] using hy
   subst e;cases ry;exact⟨EqAt.list_none  plU.isList hu0,RcAt.list_none  plU.isList hu0,RcNeAt.list_none  plU.isList hu0⟩
  | bl b =>
   have e:y=V.bl b:=by simpa[Rep] using hy
   subst e;cases ry;exact⟨EqAt.list_bool b plU.isList hu0,RcAt.list_bool b plU.isList hu0,RcNeAt.list_bool b plU.isList hu0⟩
  | int b =>
   have e:y=V.int b:=by simpa[Rep] using hy
   subst e;obtain⟨u,rfl⟩:=ry;exact⟨EqAt.list_int b u plU.isList hu0,RcAt.list_int b u plU.isList hu0,RcNeAt.list_int b u plU.isList hu0⟩
  | str b =>
   have e:y=V.str b:=by simpa[Rep] using hy
   subst e;obtain⟨u,rfl⟩:=ry;exact⟨EqAt.list_str b u plU.isList hu0,RcAt.list_str b u plU.isList hu0,RcNeAt.list_str b u plU.isList hu0⟩
  | lst b =>
   obtain⟨pW,xsW,rfl,lW⟩:=gj hy;cases ry;obtain⟨itW,_,plW,_⟩:=I.list lW;have hd:fD a+1<=n:=by simpa only[fC] using hd
   exact O1 I (n:=n-1) hu0 (λd d' x y u v h=>ih d d' x y u v (by lia)) (by lia) hx hy
  | tup b =>
   obtain⟨pW,xsW,rfl,lW⟩:=gk hy;cases ry;obtain⟨itW,_,plW,_⟩:=I.tuple lW;exact⟨EqAt.list_tuple plU.isList plW hu0,RcAt.list_tuple plU.isList plW hu0,RcNeAt.list_tuple plU.isList plW hu0⟩
 | tup a =>
  obtain⟨pU,xsU,rfl,lU⟩:=gk hx;cases rx;obtain⟨itU,_,plU,_⟩:=I.tuple lU;cases d' with
  | non =>
   have e:y=V.non:=by simpa[Rep] using hy
   subst e;cases ry;exact⟨EqAt.tuple_none  plU hu0,RcAt.tuple_none  plU hu0,RcNeAt.tuple_none  plU hu0⟩
  | bl b =>
   have e:y=V.bl b:=by simpa[Rep] using hy
   subst e;cases ry;exact⟨EqAt.tuple_bool b plU hu0,RcAt.tuple_bool b plU hu0,RcNeAt.tuple_bool b plU hu0⟩
  | int b =>
   have e:y=V.int b:=by simpa[Rep] using hy
   subst e;obtain⟨u,rfl⟩:=ry;exact⟨EqAt.tuple_int b u plU hu0,RcAt.tuple_int b u plU hu0,RcNeAt.tuple_int b u plU hu0⟩
  | str b =>
   have e:y=V.str b:=by simpa[Rep] using hy
   subst e;obtain⟨u,rfl⟩:=ry;exact⟨EqAt.tuple_str b u plU hu0,RcAt.tuple_str b u plU hu0,RcNeAt.tuple_str b u plU hu0⟩
  | lst b =>
   obtain⟨pW,xsW,rfl,lW⟩:=gj hy;cases ry;obtain⟨itW,_,plW,_⟩:=I.list lW;exact⟨EqAt.tuple_list plU plW.isList hu0,RcAt.tuple_list plU plW.isList hu0,RcNeAt.tuple_list plU plW.isList hu0⟩
  | tup b =>
   obtain⟨pW,xsW,rfl,lW⟩:=gk hy;cases ry;obtain⟨itW,_,plW,_⟩:=I.tuple lW;have hd:fD a+1<=n:=by simpa only[fC] using hd
   exact RV I (n:=n-1) hu0 (λd d' x y u v h=>ih d d' x y u v (by lia)) (by lia) hx hy
end
section
variable{X:Cx}{pins:List (Addr×Obj)}{σ:St}{H:Hp}{s:Shared}
theorem eq3(I:Inv X pins σ H s):∀(n:Nat)(A:Around)(d d':Dt)(x y:V)(u v:Value),A.units+n<cLine->fC d<=n->Rep X.K H d x->Rep X.K H d' y->RelV x u->RelV y v->Eq3 A s u v (dW d d'):=by
 intro n
 induction n with
 | zero=>exact λA d d' x y u v hu hd hx hy rx ry=>Eh I (n:=0) (λ_ _ _ _ _ _ h=>gL h (Nat.not_lt_zero _)) hu hd hx hy rx ry
 | succ n ih=>exact λA d d' x y u v hu hd hx hy rx ry=>Eh I (n:=n+1) (λd d' x y u v h hx hy rx ry=>ih A.in1 d d' x y u v (by show A.units+1+n<cLine;lia) (Nat.le_of_lt_succ h) hx hy rx ry) hu hd hx hy rx ry
end
section
variable{X:Cx}
theorem W9{k:Nat}(hr:Room k X.A):OpR X (compareOp .Eq) (λx y H Q=>∃d d',Rep X.K H d x/\Rep X.K H d' y/\fC d<=100/\Q (.bl (dW d d')) H):=by
 intro pins s σ H x y v u Q I rx ry h;obtain⟨d,d',h1,h2,hd,q⟩:=h;exact(eq3 I 100 X.A d d' x y v u (by have:=hr.un;lia) hd h1 h2 rx ry).rc X.prog X.w X.xe _ ⟨.bl _,H,I,rfl,q⟩
theorem W_{k:Nat}(hr:Room k X.A):OpR X (compareOp .NotEq) (λx y H Q=>∃d d',Rep X.K H d x/\Rep X.K H d' y/\fC d<=100/\Q (.bl (!dW d d')) H):=by
 intro pins s σ H x y v u Q I rx ry h;obtain⟨d,d',h1,h2,hd,q⟩:=h;exact(eq3 I 100 X.A d d' x y v u (by have:=hr.un;lia) hd h1 h2 rx ry).ne X.prog X.w X.xe _ ⟨.bl _,H,I,rfl,q⟩
end
end L2
namespace L2
open PySem PySem.Spec PyProof.Rows
def isW:V->Bool
 | .int _=>true
 | _=>false
def Xa:V->Bool
 | .int _=>true
 | .bl _=>true
 | _=>false
def isB:V->Bool
 | .bl _=>true
 | _=>false
def isS:V->Bool
 | .str _=>true
 | _=>false
theorem aag(x:V):isW x=(Xa x && !isB x):=by cases x <;> rfl
section
variable{K:W.Frag}{H:Hp}{x:V}{n:String}
theorem B_(h:cO K H x (.type n)):rH K (.type n) (.ty "int")=some (Xa x):=by cases h <;> rfl
theorem Ca(h:cO K H x (.type n)):rH K (.type n) (.ty "bool")=some (isB x):=by cases h <;> rfl
theorem aah(h:cO K H x (.type n)):rH K (.type n) (.ty "str")=some (isS x):=by cases h <;> rfl
theorem KZ(h:cO K H x (.type n)):rH K (.type n) (.ty "list")=some (n == "list"):=by cases h <;> rfl
theorem Ei(h:cO K H x (.type n)):rH K (.type n) (.ty "tuple")=some (n == "tuple"):=by cases h <;> rfl
end
theorem adl{α:Type}{c:α}{cs:List α}:atI (c::cs) (0:Int)=some c:=bB (j:=0) rfl
theorem RW{α:Type}{xs:List α}{i:Int}(h0:0<=i)(h1:i<xs.length):∃v,atI xs i=some v/\v∈xs:=by
 obtain⟨j,rfl⟩:∃j:Nat,i=(j:Int):=⟨i.toNat,by lia⟩;have hj:j<xs.length:=by lia
 exact⟨xs[j],bB (by simp[hj]),List.getElem_mem hj⟩
theorem Same.new{H:Hp}{p:Addr}{o:HO}(h:H p=none):Same H (upd H p o):=λb u e=>by
 rw[aQ (aK e h)];exact e
def Off(p:Addr)(H H':Hp):Prop:=∀b,b≠p->H' b=H b
theorem Off.upd{p:Addr}{H:Hp}{o:HO}:Off p H (upd H p o):=λ_ h=>aQ h
theorem bQ{n:Nat}(h:n<=1000000):n<=sizeLine:=rX h (by decide)
theorem Xb{P:Program}{w:World}{K:W.Frag}{mg:xC}{base:Heap}{CX:CXT}{x:Str}{ps:List Str}{sp:Sp}{k:Nat}{st:Stmt}{N:List Str}{f:Addr}{fd:FuncData}
  (F:Fun K x x st f fd) (S:aJ N ps (aA st)) (len:∀vs H Q E,sp vs H Q E->vs.length=ps.length)
  (hbody:∀(cdv:Value)(A:Around)(outer:List Env)(s:Shared)(H:Hp)(vs:List V)(Q:VK)(E:XK),Room k (A.deeper (envOfC x (aA st) s.heap.objs.size f cdv))->sp vs H Q E ->
   ∃t,PSs (gQ CX P w K mg base N x (aA st) f cdv A outer s H E).nox (bH st) t/\t { nx:=λ_ H'=>Q .non H',rt:=Q } (start N vs) H):jE P w K mg base CX (k+1) f fd ps sp:=by
 obtain⟨oc,od,kV,doc,pm,an,cdv,ct,osl,rfl,lk,hcd⟩:=F.ex;refine t_ lk hcd S len λA outer s H vs Q E hr hsp=>?_
 obtain⟨t,h,q⟩:=hbody cdv A outer s H vs Q E hr hsp;exact⟨t,h.nox,q⟩
structure uq(B newId initId:String)(bm:xE):Prop where
 call:ExcCallFacts B newId initId
 split:splitId newId=some (B, "__new__")
 kind:builtinKind newId=some .builtinFn
 row:Manifest.signature? newId=some ⟨.any,B,B,.cls,[⟨"args", .varPos,false⟩,⟨"kwargs", .varKw,false⟩]⟩
 hasB:bm.contains (.type B)=true
 adn:bm.contains (.type "BaseException")=true
 noA:bm.contains (.type "AttributeError")=false
 noN:bm.contains (.type "NameError")=false
 canon:Manifest.canonical newId=Manifest.canonical "BaseException.__new__"
theorem sH:uq "ValueError" "ValueError.__new__" "ValueError.__init__" [.type "ValueError", .type "Exception", .type "BaseException", .type "object"] :=
 ⟨PySem.F.excBase_ValueError.toExcCallFacts,PySem.F.excBase_ValueError.newSplit,PySem.F.excBase_ValueError.newKind,PySem.F.excBase_ValueError.newRow,PySem.F.excBase_ValueError.hasB,PySem.F.excBase_ValueError.hasBase,PySem.F.excBase_ValueError.noAttr,PySem.F.excBase_ValueError.noName,PySem.F.excBase_ValueError.canon⟩
theorem uq.under{B newId initId:String}{bm:xE}(F:uq B newId initId bm)(R:Addr):uq B newId initId (.ref R::bm) :=
 ⟨F.call,F.split,F.kind,F.row,by rw[List.contains_cons,F.hasB,Bool.or_true],by rw[List.contains_cons,F.adn,Bool.or_true],by rw[List.contains_cons,F.noA];rfl,by rw[List.contains_cons,F.noN];rfl,F.canon⟩
section
variable{prog:Program}{w:World}{M:Model}{A:Around}{E:xB}{R:Result->Shared->Prop}{h:Heap}{g:Array GenState}{d:Drawn}{t:Nat}{os:OsState}
variable{nm q:Str}{C N:Addr}{bs bm:xE}{hdct:Bool}{sn:List Str}{sub:xE}{ab:Bool}{col:Option Bool}{dd:xL}{k0 k1 k2 k3 k5:Option Value}{B newId initId:String}
theorem uq.has(F:uq B newId initId bm):(Value.ref C::bm).contains (.type B)=true:=by rw[List.contains_cons,F.hasB,Bool.or_true]
theorem xX(F:uq B newId initId bm){rest:xE}{Q:xA}(hC:h.get? C=some (excClassObj nm q C N bs bm hdct sn sub ab col dd k0 k1 k2 k3 k5 newId))(hq:Q () ⟨h,g,d,t,os⟩) :
  wpAny M A (checkBuiltinCall newId ⟨.ref C::rest,[]⟩) Q E ⟨h,g,d,t,os⟩:=by
 have e1:(Value.ref C::bm).contains (.type B)=true:=F.has;have e2:=F.call.noStar;simp only[checkBuiltinCall,F.kind,F.split,F.row]
 repeat (first|refine wpAny_loadPart_at hC ?_|(refine wpAny_isSubtype_exc hC ?_;rw[e1])|refine wpAny_staticBase_exc hC ?_|refine wpAny_madeBy_exc hC ?_|simp only[bne_self_eq_false,Bool.false_eq_true,if_false]|wp_step)
 exact hq
theorem Xc(F:uq B newId initId bm){rest:xE}(hC:h.get? C=some (excClassObj nm q C N bs bm hdct sn sub ab col dd k0 k1 k2 k3 k5 newId))
  (hq:R (.ok (.ret (.ref (h.objs.size+1)))) ⟨(h.push { cls:=.type "tuple", data:=.seq rest.toArray }).push { cls:=.ref C,data:=.fields #[.ref h.objs.size,.none,.none,.none,.bool false,.none] },g,d,t,os⟩) (hz:rest.length<=sizeLine) :
  codeAny (model prog w) A (.builtin newId ⟨.ref C::rest,[]⟩) R ⟨h,g,d,t,os⟩:=by
 have e0:=F.call.ends;have e1:(Value.ref C::bm).contains (.type B)=true:=F.has;have e2:(Value.ref C::bm).contains (.type "AttributeError")=false:=by rw[List.contains_cons,F.noA];rfl
 have e3:(Value.ref C::bm).contains (.type "NameError")=false:=by rw[List.contains_cons,F.noN];rfl
 refine codeAny_builtinAt F.call.entry ?_;unfold Builtin.«BaseException.__new__»;refine PySem.wpAt_bind ?_;show PySem.wpAt _ _ _ (stack >>= _) _ _ _;refine PySem.wpAt_bind (PySem.wpAt_stack λp below=>PySem.wpAt_of_wpAny ?_)
 wp_walk;refine PySem.wpAt_of_wpAny ?_
 rw[F.call.owner]
 repeat (first|with_reducible refine wpAny_madeHere_exc F.canon hC ?_|with_reducible refine wpAny_loadPart_at hC ?_|(with_reducible refine wpAny_isSubtype_exc hC ?_;first|rw[e1]|rw[e2]|rw[e3])|wp_step)
 show R _ _;rw[Heap.size_push];exact hq
theorem RX(F:uq B newId initId bm){rest:xE}{fI:Addr}{oI:Obj}{Q:xB}(hC:h.get? C=some (excClassObj nm q C N bs bm hdct sn sub ab col dd k0 k1 k2 k3 k5 newId))
  (hi:W.Looks (model prog w) h (typeLookup (.ref C) "__init__") (some (.ref fI))) (hfI:h.get? fI=some oI) (hfc:oI.cls=.type "function")
  (hq:∀h',(∀b o,h.get? b=some o->h'.get? b=some o)->h'.get? (h.objs.size+1)=some { cls:=.ref C,data:=.fields #[.ref h.objs.size,.none,.none,.none,.bool false,.none] }->wpAny (model prog w) (A.under (.builtin "type.__call__" ⟨.ref C::rest,[]⟩)) (PySem.call (.ref fI) (.ref (h.objs.size+1)::rest)) (λr s'=>r=.none/\Q (.ref (h.objs.size+1)) s') E ⟨h',g,d,t,os⟩) (hz:rest.length<=sizeLine) :
  wpAny (model prog w) A (PySem.call (.ref C) rest) Q E ⟨h,g,d,t,os⟩:=by
 have f1:=tc_lookup;have f2:=tc_bind (.ref C);have hT:(⟨h,g,d,t,os⟩:Shared).TypeIs (.ref C) "type":=⟨_,hC,rfl⟩;refine wpAny_call (codeAny_of_tree ?_);show wpAny _ _ (callAny (.ref C) _) _ _ _
 repeat (any_goals (first|assumption|with_reducible refine wpAny_loadPart_at hC ?_|wp_step))
 refine⟨rfl,codeAny_call_builtin_at (Code.quiet_builtin _ (by decide +kernel)) entry_typeCall (wpAny_check_type_call_sub hC ?_)⟩
 repeat (first|with_reducible refine wpAny_loadPart_at hC ?_|with_reducible refine wpAny_madeBy_exc hC ?_|wp_step)
 refine codeAny_call_builtin_code (Code.quiet_builtin _ F.call.quiet) (xX F hC (Xc F hC ?_ hz));show wpAny _ _ _ _ _ (⟨(h.push { cls:=.type "tuple", data:=.seq rest.toArray }).push { cls:=.ref C,data:=.fields #[.ref h.objs.size,.none,.none,.none,.bool false,.none] },g,d,t,os⟩:Shared)
 generalize hh2:(h.push { cls:=.type "tuple", data:=.seq rest.toArray }).push { cls:=.ref C,data:=.fields #[.ref h.objs.size,.none,.none,.none,.bool false,.none] }=h2
 have kp:∀b o,h.get? b=some o->h2.get? b=some o:=λb o e=>by rw[<- hh2];exact uB _ (uB _ e)
 have hget:h2.get? (h.objs.size+1)=some { cls:=.ref C,data:=.fields #[.ref h.objs.size,.none,.none,.none,.bool false,.none] }:=by rw[<- hh2];heap_get
 have htup:h2.get? h.objs.size=some { cls:=.type "tuple", data:=.seq rest.toArray }:=by rw[<- hh2];exact uB _ (Heap.get?_push_at rfl rfl)
 have hcC:(Value.ref C::bm).contains (.ref C)=true:=by simp
 unfold isInstance
 repeat (first|with_reducible refine wpAny_loadPart_at hget ?_|(with_reducible refine wpAny_isSubtype_exc (kp _ _ hC) ?_;rw[hcC])|wp_step)
 show wpAny _ _ (typeLookup (.ref C) _) _ _ _;refine hi _ _ _ _ kp ?_;refine nX (zI ?_);unfold bindSpecial;refine wpAny_bind (wpAny_typeOf (T := "function") ⟨_,kp _ _ hfI,hfc⟩ ?_);rw[zS (by decide)];refine rV (zI (mB (hq h2 kp hget) (λr s' hr=>?_) λ_ _ x=>x));obtain⟨rfl,hQ⟩:=hr
 wp_walk
 exact hQ
end
section
variable{prog:Program}{w:World}{A:Around}{E:xB}{s:Shared}{K:W.Frag}{e C:Addr}{oe:Obj}{vs:xI}{name:Str}{v:Value}
theorem ur(hf:oe.data=.fields vs):W.notCls oe=true:=by
 unfold W.notCls;rw[hf]
def Cd:List Value->Bool
 | .ref _::r=>Cd r
 | l=>l==[.type "ValueError", .type "Exception", .type "BaseException", .type "object"]
theorem O2(self:Value):refuseLoop self "__setattr__" [.type "ValueError", .type "Exception", .type "BaseException", .type "object"]=pure ():=by kernel_rfl
theorem yM(self:Value):∀{l:xE},Cd l=true->refuseLoop self "__setattr__" l=pure ()
 | .ref c::r,h=>by
  rw[refuseLoop_ref];exact yM self h
 | [],h=>by cases h
 | .type n::r,h=>by
  have z:(Value.type n::r)=[.type "ValueError", .type "Exception", .type "BaseException", .type "object"]:=gN h;rw[z];exact O2 self
 | .none::r,h=>by cases (gN h:(Value.none::r)=_)
 | .bool _::r,h=>by cases (gN h:(_::r)=_)
 | .int _ _::r,h=>by cases (gN h:(_::r)=_)
 | .str _ _::r,h=>by cases (gN h:(_::r)=_)
 | .bytes _ _::r,h=>by cases (gN h:(_::r)=_)
 | .float _ _::r,h=>by cases (gN h:(_::r)=_)
 | .builtin _::r,h=>by cases (gN h:(_::r)=_)
 | .ellipsis::r,h=>by cases (gN h:(_::r)=_)
 | .notImplemented::r,h=>by cases (gN h:(_::r)=_)
theorem uw:∀{l:xE},Cd l=true->l.contains (.type "object")=true/\l.isEmpty=false
 | .ref c::r,h=>⟨by rw[List.contains_cons,(uw (l:=r) h).1,Bool.or_true],rfl⟩
 | [],h=>by cases h
 | .type n::r,h=>by
  have z:(Value.type n::r)=[.type "ValueError", .type "Exception", .type "BaseException", .type "object"]:=gN h;rw[z];exact⟨by decide,rfl⟩
 | .none::r,h=>by cases (gN h:(Value.none::r)=_)
 | .bool _::r,h=>by cases (gN h:(_::r)=_)
 | .int _ _::r,h=>by cases (gN h:(_::r)=_)
 | .str _ _::r,h=>by cases (gN h:(_::r)=_)
 | .bytes _ _::r,h=>by cases (gN h:(_::r)=_)
 | .float _ _::r,h=>by cases (gN h:(_::r)=_)
 | .builtin _::r,h=>by cases (gN h:(_::r)=_)
 | .ellipsis::r,h=>by cases (gN h:(_::r)=_)
 | .notImplemented::r,h=>by cases (gN h:(_::r)=_)
def oG(K:W.Frag)(C:Addr):Bool:=(W.clsIn K C).any λcd=>Cd cd.mro
theorem K1{ox:Obj}{od:Option Obj}{tk:Tok}{R:Result->Shared->Prop}(X:K.In s.heap)(I:W.InstAt s.heap e ox C od)(hp:oG K C=true)(ht:W.takerIn K C name=some none)
  (h:∀b,wpAny (model prog w) A.in1 (Builtin.ObjectAttr.storeInOwnDict (.ref e) (.ref C) (.str name tk) name v b)
   (λfin s'=>match fin with|.done f=>R (.ok f) s'|.again c'=>c'.quiet=true/\codeAny (model prog w) A c' R s') (λx s'=>R (.error x) s') s) :
  codeAny (model prog w) A (.call (.builtin "object.__setattr__") ⟨[.ref e,.str name tk,v],[]⟩) R s:=by
 have SF:=PySem.F.store_object;obtain⟨cd,hc,ho⟩:=W.any_some hp;obtain⟨agU,ne⟩:=uw ho;have sub:W.Looks (model prog w) s.heap (isInstance (.ref e) (.type "object")) true:=I.type.andThen (W.looks_mroIn X (by unfold W.mroIn;rw[hc,Option.bind_some,if_neg (by rw[ne];decide),agU]));refine codeAny_call_builtin SF.slot.plain SF.entry (@W.check_slot (model prog w) _ _ s "object.__setattr__" "object" "__setattr__" (.ref e) [.str name tk,v] [] _ SF.kind SF.split sub (SF.args (.ref e) (.str name tk) v) ?_);obtain⟨attr,ha,hr⟩:=Option.bind_eq_some_iff.mp ht;have hm:W.Looks (model prog w) s.heap (mroOf (.ref C)) cd.mro:=(W.looks_clsIn X hc).andThen .now;have L3:W.Looks (model prog w) s.heap (Builtin.ObjectAttr.storeTaker? attr) none:=by
  cases attr with
  | none=>exact .now
  | some a =>
   obtain⟨b,hb,q⟩:=Option.map_eq_some_iff.mp hr;refine(W.looks_takesIn X hb).andThen ?_;cases b with
   | true=>cases q
   | false=>exact .now
 rw[W.osa_eq,refuse_eq];refine zI (zI (I.type.here (zI (hm.here ?_))));rw[yM _ ho];refine rV (zI (I.type.here (zI ((W.looks_findIn X ha).here (zI (L3.here ?_))))));exact h _
theorem RZ{Q:xA}(X:K.In s.heap)(he:s.heap.get? e=some oe)(hc:oe.cls=.ref C)(hd:oe.dict=none)(hf:oe.data=.fields vs)
  (hs:W.findIn K (.ref C) "__setattr__" = some (some (.builtin "object.__setattr__"))) (hp:oG K C=true) (ht:W.takerIn K C name=some none) (hh:W.hasDictIn K C=true)
  (h:∀h',(∀b o,b≠e->s.heap.get? b=some o->h'.get? b=some o)->h'.get? e=some { oe with dict:=some s.heap.objs.size }->h'.Ns1 s.heap.objs.size (λy=>if y=name then some v else none)->Q () { s with heap:=h',toks:=s.toks+2 }) :
  wpAny (model prog w) A (setAttr (.ref e) name v) Q E s:=by
 have J:W.InstAt s.heap e oe C none:=⟨he,hc,ur hf,by rw[hd];trivial⟩;refine W.set_plain X J hs (K1 (s:={ s with toks:=s.toks+1 }) X J hp ht λb=>?_)
 obtain⟨cd,hcd,hdd⟩:=W.any_some hh;obtain⟨oc,od,odt,osl⟩:=oe;simp only at hc hd hf;subst hc hd hf;refine zI (rV (zI (zI (wpAny_loadPart he (zI (W.Looks.here (s:={ s with toks:=s.toks+1 }) (W.looks_clsIn X hcd) ?_))))))
 rw[hdd];show wpAny (model prog w) A.in1 (alloc { cls:=.type "dict", data:=.dict #[] } >>= λd=>(update e λo=>{ o with dict:=some d }) >>= λ_=>dictMade (.ref C) e d) _ _ _
 have hlt:e<s.heap.objs.size:=uA he;have hne:e≠s.heap.objs.size:=qS hlt;refine zI (wpAny_alloc (zI (wpAny_update (uB _ he) ?_)));show wpAny (model prog w) A.in1 (pure (some s.heap.objs.size)) _ _ _;refine rV (zI (rV (zI ?_)));have e0:((s.heap.push { cls:=.type "dict", data:=.dict #[] }).update e λo=>{ o with dict:=some s.heap.objs.size }).get? s.heap.objs.size=some { cls:=.type "dict", data:=.dict #[] } :=
  (nS _ _ hne).trans (oC s.heap rfl)
 have e1:((s.heap.push { cls:=.type "dict", data:=.dict #[] }).update e λo=>{ o with dict:=some s.heap.objs.size }).get? e=some { cls:=.ref C,dict:=some s.heap.objs.size,data:=.fields vs,slots:=osl } :=
  Heap.get?_update_self _ (uB _ he) rfl
 have n0:((s.heap.push { cls:=.type "dict", data:=.dict #[] }).update e λo=>{ o with dict:=some s.heap.objs.size }).Ns s.heap.objs.size (λ_=>none) :=
  ⟨_,#[],_,e0,rfl,(λy hy=>absurd hy (by simp)),λ_=>rfl⟩
 refine wpAny_nsSet1 (Heap.Ns1.of_empty n0) λh' hn2 hs2=>?_
 obtain⟨oD,esD,epD,hoD,hdD,hcD⟩:=hn2.count (PySem.Within.cons (ns:=[]) name v (λy hy=>gL rfl hy));refine zI (wpAny_lookBehind hoD (by rw[hdD];exact pastItsLine_dict (rX hcD (by show 1<=_;decide))) ?_);refine rV (h h' (λb o hb q=>?_) ((hs2.2 _ hne).trans e1) hn2);rw[hs2.2 b (qS (uA q))];exact(nS _ _ (Ne.symm hb)).trans (uB _ q)
theorem R0{dx:Addr}{mA:xC}{ns:List Str}{Q:xA}(X:K.In s.heap)(he:s.heap.get? e=some oe)(hc:oe.cls=.ref C)(hd:oe.dict=some dx)(hf:oe.data=.fields vs)(hn:s.heap.Ns1 dx mA)(hne:dx≠e)
  (hs:W.findIn K (.ref C) "__setattr__" = some (some (.builtin "object.__setattr__"))) (hp:oG K C=true) (ht:W.takerIn K C name=some none) (hh:W.hasDictIn K C=true) (hw:PySem.Within mA ns) (hsz:ns.length<=1000)
  (h:∀h',Heap.SameBut dx s.heap h'->h'.Ns1 dx (λy=>if y=name then some v else mA y)->Q () { s with heap:=h',toks:=s.toks+2 }) :
  wpAny (model prog w) A (setAttr (.ref e) name v) Q E s:=by
 obtain⟨od,ho,_⟩:=yt hn;have J:W.InstAt s.heap e oe C (some od):=⟨he,hc,ur hf,by rw[hd];exact ho⟩;refine W.set_plain X J hs (K1 (s:={ s with toks:=s.toks+1 }) X J hp ht λb=>?_)
 obtain⟨cd,hcd,hdd⟩:=W.any_some hh;obtain⟨oc,od',odt,osl⟩:=oe;simp only at hc hd hf;subst hc hd hf;refine zI (rV (zI (zI (wpAny_loadPart he (zI (W.Looks.here (s:={ s with toks:=s.toks+1 }) (W.looks_clsIn X hcd) ?_))))))
 rw[hdd];refine rV (a:=some dx) (zI (rV (zI (wpAny_nsSet1 (s:={ s with toks:=s.toks+1 }) hn λh' hn2 hs2=>?_))))
 obtain⟨oD,esD,epD,hoD,hdD,hcD⟩:=hn2.count (PySem.Within.cons name v hw);refine zI (wpAny_lookBehind hoD (by rw[hdD];exact pastItsLine_dict (rX hcD (by rw[mS];have:=sizeLine_eq;lia))) ?_);exact rV (h h' hs2 hn2)
end
def i_(e C:Addr)(dx:xL):HO:=.ext λh=>∃t sl,h.get? e=some { cls:=.ref C,dict:=dx,data:=.fields #[.ref t,.none,.none,.none,.bool false,.none],slots:=sl }
def jh(dx:Addr)(fs:List (Str×V)):HO:=.ext λh=>∃mA,h.Ns1 dx mA/\(∀f,lZ (fs.lookup f) (mA f))/\PySem.Within mA (fs.map (·.1))/\fs.length<=100
section
variable{P:Program}{w:World}{H:Hp}{h:Heap}{e C dx:Addr}
theorem K3{do':xL}{t:Addr}{sl:Array (Option Value)}(q:h.get? e=some { cls:=.ref C,dict:=do',data:=.fields #[.ref t,.none,.none,.none,.bool false,.none],slots:=sl }):cA P w H h e (i_ e C do') :=
 ⟨⟨t,sl,q⟩,⟨_,q⟩,λh1 h2 ⟨t,sl,z⟩ k=>⟨t,sl,k _ z⟩⟩
theorem K4{fs:List (Str×V)}{mA:xC}(n:h.Ns1 dx mA)(r:∀f,lZ (fs.lookup f) (mA f))(wi:PySem.Within mA (fs.map (·.1)))(hl:fs.length<=100):cA P w H h dx (jh dx fs):=by
 refine⟨⟨mA,n,r,wi,hl⟩,?_,λh1 h2 ⟨mA,n,r,wi,hl⟩ k=>⟨mA,n.at k,r,wi,hl⟩⟩;obtain⟨o,_,_,q,_⟩:=n;exact⟨o,q⟩
end
structure ado(K:W.Frag)(C f:Addr)(bm:xE):Prop where
 obj:∃nm q N bs hdct sn sub ab col dd k0 k1 k2 k3 k5,K.lookup C=some (excClassObj nm q C N bs bm hdct sn sub ab col dd k0 k1 k2 k3 k5 "ValueError.__new__")
 K5:uq "ValueError" "ValueError.__new__" "ValueError.__init__" bm
 init:W.findIn K (.ref C) "__init__" = some (some (.ref f))
 fn:∃o,K.lookup f=some o/\o.cls=.type "function"
 kp:W.keepIn K (.ref C)=true
structure Ce(K:W.Frag)(C:Addr):Prop where
 sa:W.findIn K (.ref C) "__setattr__" = some (some (.builtin "object.__setattr__"))
 po:oG K C=true
 hd:W.hasDictIn K C=true
section
variable{X:Cx}{f C:Addr}{ps:List Str}{x:Str}{pos:Pos}{e:Expr}{t:TA}
def agV(K:W.Frag)(ta tv:TE)(f:Str):TS:=λD σ H=>tv σ H λy H1=>ta σ H1 λx H2=>∃a C,x=.ref a/\Ce K C/\W.takerIn K C f=some none /\
 ((H2 a=some (i_ a C none)/\∀dx,H2 dx=none->D.nx σ (upd (upd H2 dx (jh dx [(f,y)])) a (i_ a C (some dx)))) \/
  ∃dx fs,H2 a=some (i_ a C (some dx))/\H2 dx=some (jh dx fs)/\dx≠a/\fs.length<100/\D.nx σ (upd H2 dx (jh dx (dZ f y fs))))
theorem mY{o value:Expr}{f:Str}{ta tv:TE}{pos':Pos}(ha:PE X o ta)(hv:PE X value tv)(hs:swapsWith value (some (.Attribute o f pos')) pos.line X.env=pure false:=by rfl):PS X (.Assign [.Attribute o f pos'] value pos) (agV X.K ta tv f):=by
 intro pins s σ H D I h;refine plainObj_wpAny_Assign_Attribute (thn (hv pins s σ H _ I h) λu s1 ⟨y,H1,I1,ry,q⟩=>thn (ha pins s1 σ H1 _ I1 q) λov s2 ⟨x,H2,I2,rx,a,C,ex,S,tk,q2⟩=>?_) hs;subst ex;obtain rfl:ov=Value.ref a:=rx;rcases q2 with⟨ho,q3⟩|⟨dx,fs,ho,hd,hne,hl,q3⟩
 ·obtain⟨⟨t,sl,ge⟩,_,_⟩:cA X.prog X.w H2 s2.heap a (i_ a C none):=I2.hok a _ ho;refine RZ I2.kIn ge rfl rfl rfl S.sa S.po tk S.hd λh' kp ge' n'=>?_
  have hfr:H2 s2.heap.objs.size=none:=I2.hok.fresh (uC _);have nas:a≠s2.heap.objs.size:=aK ho hfr;have other:∀b,b≠a->b≠s2.heap.objs.size->(upd (upd H2 s2.heap.objs.size (jh s2.heap.objs.size [(f,y)])) a (i_ a C (some s2.heap.objs.size))) b=H2 b:=λb h1 h2=>by rw[aQ h1,aQ h2]
  have nlt:∀b o,s2.heap.get? b=some o->b≠s2.heap.objs.size:=λb o z=>qS (uA z)
  have na:∀b,H2 b=none->b≠a:=λb z q=>by rw[q,ho] at z;cases z
  have qt:∀b u,H2 b=some u->u≠i_ a C none->b≠a:=λb u z d q=>by
   rw[q,ho] at z;exact d (nI z).symm
  refine⟨σ,_,I2.un ⟨λb o z n _ _=>kp b o (na b n) z,λb o z n _ _=>⟨o.slots,kp b o (na b n) z⟩,λb o z n _=>by rw[other b (na b n) (nlt b o z)];exact n,λb o z _=>?_,λb xs z=>?_,λb o u z=>?_,λb ps z=>⟨#[],?_⟩⟩ (λb u z=>?_),q3 _ hfr⟩
  ·by_cases hb:b=a
   ·exact⟨_,by rw[hb];exact ge'⟩
   ·exact⟨o,kp b o hb z⟩
  ·rw[other b (qt b _ z (by intro q;cases q)) (aK z hfr)];exact z
  ·rw[other b (qt b _ z (by intro q;cases q)) (aK z hfr)];exact z
  ·rw[other b (qt b _ z (by intro q;cases q)) (aK z hfr),z];simp
  ·by_cases hb:b=a
   ·subst hb;rw[aV] at z;cases z;exact K3 ge'
   ·by_cases hb2:b=s2.heap.objs.size
    ·subst hb2;rw[aQ hb,aV] at z;cases z;refine K4 n' (λg=>?_) (λg hg=>?_) (by simp)
     ·show lZ ([(f,y)].lookup g) (if g=f then some u else none);by_cases zz:g=f
      ·rw[if_pos zz,zz];simpa[List.lookup_cons,lZ] using ry
      ·have:(g==f)=false:=by simpa using zz
       rw[yB zz];simp[List.lookup_cons,this,lZ]
     ·by_cases zz:g=f
      ·simp[zz]
      ·exact gL (show (if g=f then some u else none)=none by rw[yB zz]) hg
    ·rw[other b hb hb2] at z;refine(I2.hok b u z).stay (λc v hc q=>kp c v ?_ q) (λc q=>?_) λc xs q=>?_
     ·rcases hc with rfl|hc
      ·exact hb
      ·exact qt c _ hc (by intro q;cases q)
     ·rw[other c (qt c _ q (by intro q;cases q)) (aK q hfr)];exact q
     ·rw[other c (qt c _ q (by intro q;cases q)) (aK q hfr)];exact q
 ·obtain⟨⟨t,sl,ge⟩,_,_⟩:cA X.prog X.w H2 s2.heap a (i_ a C (some dx)):=I2.hok a _ ho;obtain⟨⟨mA,n,r,wi,hl'⟩,_,_⟩:cA X.prog X.w H2 s2.heap dx (jh dx fs):=I2.hok dx _ hd;refine R0 I2.kIn ge rfl rfl rfl n hne S.sa S.po tk S.hd wi (by rw[wP];lia) λh' sb n'=>?_
  refine⟨σ,_,I2.write (x:=dx) (e:=dx) (by rw[hd];trivial) (.inl rfl) (λb o hb z=>(sb.2 b hb).trans z) (let ⟨o,_,_,z,_⟩:=n';⟨o,z⟩) (K4 n' (λg=>?_) (λg hg=>?_) ?_),q3⟩
  ·show lZ ((dZ f y fs).lookup g) (if g=f then some u else mA g);rw[bW];by_cases z:g=f
   ·rw[zS z,zS z];exact ry
   ·rw[yB z,yB z];exact r g
  ·by_cases z:g=f
   ·rw[z];exact(jg f y fs).1
   ·refine(jg f y fs).2 g (wi g λz2=>hg ?_);show (if g=f then some u else mA g)=none;rw[yB z];exact z2
  ·have:=j4 f y fs;lia
structure agW(K:W.Frag)(C:Addr):Prop where
 ga:W.findIn K (.ref C) "__getattribute__" = some (some (.builtin "BaseException.__getattribute__"))
 gb:W.findIn K (.ref C) "__getattr__" = some none
 mb:W.mroIn K C (.type "BaseException")=some true
 hd:W.hasDictIn K C=true
end
section
variable{M:Model}{A:Around}{E:xB}{s:Shared}{base:Heap}{env:Env}{outer:List Env}{L e:Addr}{oe:Obj}{vs:xI}
structure Left(fr:List Addr)(h h':Heap)(e:Addr)(oe:Obj)(vs:xI)(T:Addr):Prop where
 keep:∀b o,b≠e->b ∉ fr->h.get? b=some o->(∀z,vs[1]?=some (.ref z)->b≠z)->h'.get? b=some o
 slot:∀b o,b∈fr->h.get? b=some o->∃sl,h'.get? b=some { o with slots:=sl }
 new:h.objs.size<=T
 ent:∃oT ts,h'.get? T=some oT/\oT.data=.fields ts/\ts[3]?=some .none
 obj:h'.get? e=some { oe with data:=.fields (vs.setIfInBounds 1 (.ref T)) }
theorem Xd(hl:s.heap.FunFrames base (env::outer))(he:s.heap.get? e=some oe)(hd:oe.data=.fields vs):e ∉ frs (env::outer):=λhm=>by
 obtain⟨_,o,ho,hn⟩:=hl.mem hm;rw[he] at ho;cases ho;exact hn vs hd
theorem mZ{head:Value}{hadNext:Bool}{Q:xA}(hfr:A.frames=some (env::outer))(hl:s.heap.FunFrames base (env::outer))(hf:env.frame=some L)(he:s.heap.get? e=some oe)(hd:oe.data=.fields vs)(hsz:1<vs.size)
  (h:∀h' T,Left (frs (env::outer)) s.heap h' e oe vs T->Q () { s with heap:=h' }) :
  wpAny M A (do let a <- frameOf env;let pl <- entryPlaceOf L hadNext;let b <- EntryCells.newEntry head a .none (rawInt L) .none pl;setField (.ref e) 1 b) (λ_ s'=>wpAny M A (setFlight (.ref e) none) Q E s') E s:=by
 have hne:=Xd hl he hd;refine zI (wpAny_frameOf_fun hfr hl hf λg hg=>zI (wpAny_entryPlaceOf λpl hpl=>?_));unfold EntryCells.newEntry newFields;refine zI (wpAny_newObj_type ?_ (hpl.sizeOk5 _ _ _ _ _));have he1:g.get? e=some oe:=(hg.2.1 e hne).trans he;have gsz:s.heap.objs.size<=g.objs.size:=by
  have:=hg.1
  lia
 generalize hT:({ cls:=.type "traceback", data:=.fields ([head,.ref L,.none,rawInt L,.none]++(if pl.isEmpty then List.replicate 6 Value.none else pl)).toArray }:Obj)=oT
 obtain⟨ts,hts,h4⟩:∃ts:Array Value,oT.data=.fields ts/\3<ts.size:=by
  rw[<- hT];exact⟨_,rfl,by simp only[List.size_toArray,List.length_append,List.length_cons,List.length_nil];lia⟩
 have fresh:∀b o,g.get? b=some o->g.objs.size≠b:=λb o z=>Nat.ne_of_gt (uA z)
 have he2:(g.push oT).get? e=some oe:=uB _ he1;have hTe:g.objs.size≠e:=fresh e oe he1;refine wpAny_setField he2 hd hsz ?_;have hd3:=Obj.data_mapFields hd (·.setIfInBounds 1 (Value.ref g.objs.size));have he3:=Heap.get?_update_self (Obj.mapFields (·.setIfInBounds 1 (Value.ref g.objs.size))) he2 (Obj.isFreed_of_fields hd3);have hfr':oT.isFreed=false:=Obj.isFreed_of_fields hts;have hT3:((g.push oT).update e (Obj.mapFields (·.setIfInBounds 1 (Value.ref g.objs.size)))).get? g.objs.size=some oT:=(nS _ _ (Ne.symm hTe)).trans (oC g hfr');unfold setFlight;refine wpAny_bind (wpAny_field he3 hd3 (x:=.ref g.objs.size) (by simp[hsz]) ?_);rw[if_pos (show (Value.ref g.objs.size != Value.none)=true from by simp)];have K6:∀b o,b≠e->g.get? b=some o->(((g.push oT).update e (Obj.mapFields (·.setIfInBounds 1 (Value.ref g.objs.size)))).update g.objs.size (Obj.mapFields (·.setIfInBounds 3 ((none:xL).elim Value.none λf=>rawInt f)))).get? b=some o:=λb o hb z=>by
  rw[nS _ _ (fresh b o z),nS _ _ (Ne.symm hb)];exact uB _ z
 refine wpAny_setField hT3 hts h4 (h _ g.objs.size ⟨λb o hb hn z _=>K6 b o hb ((hg.2.1 b hn).trans z),λb o hb z=>?_,gsz,?_,?_⟩)
 ·obtain⟨sl,z2⟩:=hg.2.2 b o z;exact⟨sl,K6 b _ (λq=>hne (by rw[<- q];exact hb)) z2⟩
 ·exact⟨_,_,Heap.get?_update_self _ hT3 (Obj.isFreed_of_fields (Obj.data_mapFields hts _)),Obj.data_mapFields hts _,by simp[h4]⟩
 ·rw[nS _ _ hTe,he3];obtain⟨c1,d1,t1,s1⟩:=oe;simp only at hd;subst hd
  rfl
theorem Ej{Q:xA}(hfr:A.frames=some (env::outer))(hl:s.heap.FunFrames base (env::outer))(hf:env.frame=some L)(he:s.heap.get? e=some oe)(hd:oe.data=.fields vs)(h1:vs[1]?=some .none)
  (h:∀h' T,Left (frs (env::outer)) s.heap h' e oe vs T->Q () { s with heap:=h' }):wpAny M A (leaving env (.ref e)) Q E s:=by
 unfold leaving noteFrame;simp only[hf];refine zI (zI (wpAny_field he hd h1 ?_));rw[yB (by decide)];exact mZ hfr hl hf he hd (Array.getElem?_eq_some_iff.mp h1).1 h
theorem Jh{Q:xA}{T0:Addr}{o0:Obj}{ts0:xI}(hfr:A.frames=some (env::outer))(hl:s.heap.FunFrames base (env::outer))(hf:env.frame=some L)(he:s.heap.get? e=some oe)(hd:oe.data=.fields vs)(h1:vs[1]?=some (.ref T0))
  (hT:s.heap.get? T0=some o0) (hdT:o0.data=.fields ts0) (h3:ts0[3]?=some .none) (hTe:T0≠e)
  (h:∀h' T,Left (frs (env::outer)) s.heap h' e oe vs T->Q () { s with heap:=h' }):wpAny M A (leaving env (.ref e)) Q E s:=by
 unfold leaving noteFrame;simp only[hf];refine zI (zI (wpAny_field he hd h1 ?_));rw[if_pos (show (Value.ref T0 != Value.none)=true from by simp)];refine zI (wpAny_field hT hdT h3 ?_);rw[if_neg (show ¬ ((Value.none==rawInt L)=true) from by simp[rawInt])];refine zI (wpAny_setField hT hdT (Array.getElem?_eq_some_iff.mp h3).1 ?_);have hoth:∀b,b≠T0->(s.heap.update T0 (Obj.mapFields (·.setIfInBounds 3 Value.none))).get? b=s.heap.get? b:=λb hb=>nS _ _ (Ne.symm hb)
 have hno:∀b o,s.heap.get? b=some o->(∀z,o.data≠.fields z)->b≠T0:=λb o z hn q=>by
  rw[q,hT] at z;cases z;exact hn ts0 hdT
 have hl2:(s.heap.update T0 (Obj.mapFields (·.setIfInBounds 3 Value.none))).FunFrames base (env::outer):=hl.of_keeps λb o z hn=>⟨o,(hoth b (hno b o z hn)).trans z,rfl⟩
 refine mZ (s:={ s with heap:=s.heap.update T0 (Obj.mapFields (·.setIfInBounds 3 Value.none)) }) hfr hl2 hf ((hoth e (Ne.symm hTe)).trans he) hd (Array.getElem?_eq_some_iff.mp h1).1 λh' T lf=>h h' T ⟨λb o hb hn z hz=>lf.keep b o hb hn ((hoth b (hz T0 h1)).trans z) hz,λb o hb z=>?_,?_,lf.ent,lf.obj⟩
 ·obtain⟨_,o',ho',hn'⟩:=hl.mem hb;rw[z] at ho';cases ho';exact lf.slot b o hb ((hoth b (hno b o z hn')).trans z)
 ·have:=lf.new;rw[Heap.size_update] at this;exact this
end
def adp(n:Nat)(h:Heap)(a C:Addr)(dx:xL)(H:Hp):Prop :=
 ∃oe vs T oT ts,h.get? a=some oe/\oe.cls=.ref C/\oe.dict=dx/\oe.data=.fields vs/\vs[1]?=some (.ref T)/\T≠a/\h.get? T=some oT/\oT.data=.fields ts/\ts[3]?=some .none/\H a=none/\H T=none/\n<=a/\n<=T
def CX1(P:Program)(w:World):CXT:=λouter H s E ev s' =>
 ∃a C dx H',ev=.ref a/\s'.os=s.os/\AllBare s'.gens/\Un (frs outer) [] H H' s.heap s'.heap/\HOk P w H' s'.heap/\adp s.heap.objs.size s'.heap a C dx H'/\E (.ref C) dx H'
theorem R3{P:Program}{w:World}{X:Cx}:Passes (CX1 P w) X E0:=λ_ _ _ _ _ _ _ ⟨_,_,_,_,_,_,_,_,_,_,z⟩=>z.elim
theorem ux{P:Program}{w:World}{H:Hp}{h h':Heap}{fr:List Addr}{e T:Addr}{oe:Obj}{vs:xI}(ok:HOk P w H h)(lf:Left fr h h' e oe vs T)(he:H e=none)(hT:∀z,vs[1]?=some (.ref z)->H z=none)(hfr:∀b∈fr,H b=none):HOk P w H h':=λb u z=>by
 refine(ok b u z).stay (λc v hc q=>?_) (λ_ q=>q) λ_ _ q=>q
 have hcs:∃x,H c=some x:=by
  rcases hc with rfl|hc
  ·exact⟨_,z⟩
  ·exact⟨_,hc⟩
 obtain⟨x,hx⟩:=hcs;exact lf.keep c v (aK hx he) (λm=>by rw[hfr c m] at hx;cases hx) q λy hy=>aK hx (hT y hy)
theorem K7{H0 H:Hp}{h0 h h':Heap}{fs fr:List Addr}{e T:Addr}{oe:Obj}{vs:xI}(u:Un fs [] H0 H h0 h)(lf:Left fr h h' e oe vs T)(hfs:∀b,b∈fs->b∈fr)(hfr:∀b o,h0.get? b=some o->b∈fr->b∈fs)
  (he:h0.objs.size<=e) (hT:∀z,vs[1]?=some (.ref z)->h0.objs.size<=z):Un fs [] H0 H h0 h':=by
 have ne:∀b o,h0.get? b=some o->b≠e/\∀z,vs[1]?=some (.ref z)->b≠z:=λb o q =>
  ⟨qS (qE (uA q) he),λz hz=>qS (qE (uA q) (hT z hz))⟩
 refine⟨λb o q n hb hx=>lf.keep b o (ne b o q).1 (λm=>hb (hfr b o q m)) (u.keep b o q n hb hx) (ne b o q).2,λb o q n hb hx=>?_,u.free,λb o q hx=>?_,u.tups,u.mj,u.mq⟩
 ·obtain⟨sl,z⟩:=u.slot b o q n hb hx;obtain⟨sl2,z2⟩:=lf.slot b _ (hfs b hb) z;exact⟨sl2,z2⟩
 ·obtain⟨o2,z⟩:=u.there b o q hx;by_cases m:b∈fr
  ·obtain⟨sl,z2⟩:=lf.slot b o2 m z;exact⟨_,z2⟩
  ·exact⟨o2,lf.keep b o2 (ne b o q).1 m z (ne b o q).2⟩
section
variable{P:Program}{w:World}{K:W.Frag}{mg:xC}{base:Heap}{N:List Str}{qual:Str}{scope:Scope}{f:Addr}{cd:Value}{A:Around}{outer:List Env}{s:Shared}{H:Hp}{E:XK}
theorem Y6:Passes (CX1 P w) (gQ (CX1 P w) P w K mg base N qual scope f cd A outer s H E) E:=by
 intro pins σ H1 s1 ev s2 I hc;obtain⟨a,C,dx,H',rfl,hos,hb,un,hok,⟨oe,vs,T,oT,ts,ga,gc,gd,gf,g1,gne,gT,gt,g3,ha,hT,na,nT⟩,q⟩:=hc;have I2:Inv (gQ (CX1 P w) P w K mg base N qual scope f cd A outer s H E) pins σ H' s2:=I.call' (ch:=[]) hos un hok hb (λb z=>absurd z (by simp));show wpAny (model P w) (A.deeper (envOfC qual scope s.heap.objs.size f cd)) (leaving (envOfC qual scope s.heap.objs.size f cd) (.ref a)) _ _ s2;refine Jh (base:=base) I.ok.frames I2.stack rfl ga gf g1 gT gt g3 gne λh' T' lf=>?_
 have hz:∀z,vs[1]?=some (.ref z)->z=T:=λz hz=>by rw[g1] at hz;cases hz;rfl
 have s0:s.heap.objs.size<=s1.heap.objs.size:=I.sz;have R4:∀b∈frs (envOfC qual scope s.heap.objs.size f cd::outer),H' b=none:=I2.nW;obtain⟨oT',ts',gT',gt',g3'⟩:=lf.ent;refine⟨a,C,dx,H',rfl,I2.os,I2.bare,K7 I2.base lf (λb hb=>?_) (λb o q m=>?_) (rX s0 na) (λz h=>by rw[hz z h];exact rX s0 nT),ux I2.hok lf ha (λz h=>by rw[hz z h];exact hT) R4,?_,q⟩
 ·show b∈frs (envOfC qual scope s.heap.objs.size f cd::outer);unfold frs;rw[List.filterMap_cons];exact zD _ hb
 ·have m:b∈frs (envOfC qual scope s.heap.objs.size f cd::outer):=m;unfold frs at m;rw[List.filterMap_cons] at m;rcases vT.mp m with z|z
  ·exact gL (uA q) (by rw[z];exact qV _)
  ·exact z
 ·have hsz2:s.heap.objs.size<=s2.heap.objs.size:=I2.sz;have nTa:T'≠a:=λz=>gL (uA ga) (by rw[<- z];exact Nat.not_lt.mpr lf.new)
  refine⟨_,_,T',oT',ts',lf.obj,gc,gd,rfl,?_,nTa,gT',gt',g3',ha,I2.hok.fresh lf.new,rX s0 na,rX hsz2 lf.new⟩;have:1<vs.size:=(Array.getElem?_eq_some_iff.mp g1).1;simp[this]
end
mutual
def pyD:Dt->PyData
 | .non=>.none
 | .bl b=>.bool b
 | .int i=>.int i
 | .str x=>.str x
 | .lst xs=>.list (Ek xs)
 | .tup xs=>.tuple (Ek xs)
def Ek:List Dt->List PyData
 | []=>[]
 | x::xs=>pyD x::Ek xs
end
section
mutual
theorem Ji:∀d:Dt,(pyD d).hasDict=false
 | .non=>by simp[pyD,PyData.hasDict]
 | .bl _=>by simp[pyD,PyData.hasDict]
 | .int _=>by simp[pyD,PyData.hasDict]
 | .str _=>by simp[pyD,PyData.hasDict]
 | .lst xs=>by simp only[pyD,PyData.hasDict];exact j7 xs
 | .tup xs=>by simp only[pyD,PyData.hasDict];exact j7 xs
theorem j7:∀ds:List Dt,PyData.hasDictAll (Ek ds)=false
 | []=>by simp[Ek,PyData.hasDictAll]
 | d::ds=>by simp only[Ek,PyData.hasDictAll,Ji d,j7 ds,Bool.or_false]
end
end
structure Jj(K:W.Frag)(C R:Addr):Prop where
 g:agW K C
 mro:(W.clsIn K C).map (·.mro)=some [.ref C,.ref R,.type "ValueError", .type "Exception", .type "BaseException", .type "object"]
 ty:W.typeIn K (.ref C)=some (.type "type")
 ha:W.findIn K (.ref C) "__class__" = some (some (.builtin "object.__class__"))
 hn:W.specialIn K (.builtin "object.__class__") "__get__" = some (some (.builtin "getset_descriptor.__get__"))
 tk:W.takesIn K (.builtin "object.__class__")=some true
section
variable{K:W.Frag}{C R:Addr}
theorem Jj.in(G:Jj K C R)(b:Value):W.mroIn K C b=some ([Value.ref C,.ref R,.type "ValueError", .type "Exception", .type "BaseException", .type "object"].contains b):=by
 obtain⟨cd,hc,hm⟩:=Option.map_eq_some_iff.mp G.mro;unfold W.mroIn;rw[hc,Option.bind_some,hm]
 rfl
end
def ExcAt(H:Hp)(x C:Addr)(fs:List (Str×V)):Prop:=(fs=[]/\H x=some (i_ x C none))\/∃dx,H x=some (i_ x C (some dx))/\H dx=some (jh dx fs)/\dx≠x
def Xe(C:Addr)(f:Str):Sp:=λvs H Q _=>∃x v,vs=[.ref x,v]/\H x=some (i_ x C none)/\∀dx,H dx=none->Q .non (upd (upd H dx (jh dx [(f,v)])) x (i_ x C (some dx)))
def aai(C:Addr)(f g:Str):Sp:=λvs H Q _=>∃x v y,vs=[.ref x,v,y]/\H x=some (i_ x C none)/\∀dx,H dx=none->Q .non (upd (upd (upd H dx (jh dx [(f,v)])) x (i_ x C (some dx))) dx (jh dx (dZ g y [(f,v)])))
structure fG(K:W.Frag)(mg:xC)(x qual:Str)(st:Stmt)(C R:Addr):Prop where
 ex:∃f fd,ado K C f [.ref R,.type "ValueError", .type "Exception", .type "BaseException", .type "object"]/\Fun K "__init__" qual st f fd
 gl:mg x=some (.ref C)
 S:Ce K C
 I:Jj K C R
theorem K5(R:Addr):uq "ValueError" "ValueError.__new__" "ValueError.__init__" [.ref R,.type "ValueError", .type "Exception", .type "BaseException", .type "object"]:=sH.under R
section
variable{P:Program}{w:World}{K:W.Frag}{mg:xC}{base:Heap}{CX:CXT}{qual f:Str}{st:Stmt}
def m5(P:Program)(w:World)(K:W.Frag)(mg:xC)(base:Heap)(CX:CXT)(qual:Str)(st:Stmt)(ps:List Str)(sp:Sp):Prop:=∀f fd,Fun K "__init__" qual st f fd->jE P w K mg base CX 1 f fd ps sp/\Binds K fd ps []
end
section
variable{K:W.Frag}{mg:xC}{x qual:Str}{st:Stmt}{C R f:Addr}{nm q:Str}{N:Addr}{bs:xE}{sn:List Str}{sub:xE}{ab:Bool}{col:Option Bool}{dd:xL}{k0 k1 k2 k3 k5:Option Value}{od an:xL}{osl:Array (Option Value)}{kV doc pm cdv ct:Value}
theorem oH(l:K.lookup C=some (excClassObj nm q C N bs [.ref R,.type "ValueError", .type "Exception", .type "BaseException", .type "object"] true sn sub ab col dd k0 k1 k2 k3 k5 "ValueError.__new__"))
  (sa:W.findIn K (.ref C) "__setattr__" = some (some (.builtin "object.__setattr__"))):Ce K C:=by
 have hc:∃cd,W.clsIn K C=some cd/\cd.mro=[.ref C,.ref R,.type "ValueError", .type "Exception", .type "BaseException", .type "object"]/\cd.hasDict=true:=by
  unfold W.clsIn;rw[l];exact⟨_,rfl,rfl,rfl⟩
 obtain⟨cd,h1,h2,h3⟩:=hc;refine⟨sa,?_,?_⟩
 ·unfold oG;rw[h1,Option.any_some,h2]
  rfl
 ·unfold W.hasDictIn;rw[h1,Option.any_some,h3]
theorem oJ(l:K.lookup C=some (excClassObj nm q C N bs [.ref R,.type "ValueError", .type "Exception", .type "BaseException", .type "object"] true sn sub ab col dd k0 k1 k2 k3 k5 "ValueError.__new__"))
  (ga:W.findIn K (.ref C) "__getattribute__" = some (some (.builtin "BaseException.__getattribute__"))) (gb:W.findIn K (.ref C) "__getattr__" = some none)
  (ha:W.findIn K (.ref C) "__class__" = some (some (.builtin "object.__class__"))) (hn:W.specialIn K (.builtin "object.__class__") "__get__" = some (some (.builtin "getset_descriptor.__get__"))) (tk:W.takesIn K (.builtin "object.__class__")=some true):Jj K C R:=by
 have hc:∃cd,W.clsIn K C=some cd/\cd.mro=[.ref C,.ref R,.type "ValueError", .type "Exception", .type "BaseException", .type "object"]/\cd.hasDict=true:=by
  unfold W.clsIn;rw[l];exact⟨_,rfl,rfl,rfl⟩
 obtain⟨cd,h1,h2,h3⟩:=hc;refine⟨⟨ga,gb,?_,?_⟩,?_,?_,ha,hn,tk⟩
 ·unfold W.mroIn;rw[h1,Option.bind_some,h2]
  rfl
 ·unfold W.hasDictIn;rw[h1,Option.any_some,h3]
 ·rw[h1,Option.map_some,h2]
 ·show (List.lookup C K).map (·.cls)=_;rw[l]
  rfl
theorem fG.mk1(m:mg x=some (.ref C))(l:K.lookup C=some (excClassObj nm q C N bs [.ref R,.type "ValueError", .type "Exception", .type "BaseException", .type "object"] true sn sub ab col dd k0 k1 k2 k3 k5 "ValueError.__new__"))
  (i:W.findIn K (.ref C) "__init__" = some (some (.ref f))) (lf:K.lookup f=some ⟨.type "function", od,.func (W.fnOf "__init__" qual (cD st) (bH st) (aA st) .none kV doc pm an cdv ct),osl⟩)
  (c:W.codeIn K cdv qual=true) (kf:W.keepIn K (.ref f)=true) (kc:W.keepIn K (.ref C)=true) (S:Ce K C) (I:Jj K C R):fG K mg x qual st C R :=
 ⟨⟨f,_,⟨⟨nm,q,N,bs,true,sn,sub,ab,col,dd,k0,k1,k2,k3,k5,l⟩,K5 R,i,⟨_,lf,rfl⟩,kc⟩,qm lf c kf⟩,m,S,I⟩
end
section
variable{X:Cx}
theorem Jk:OpR X (binaryOp .Mult) (λx y H Q=>∃z n,x=.str z/\y=.int n/\MulOk z n/\Q (.str (Txt.mul z n)) H):=by
 intro pins s σ H x y v u Q I rx ry h;obtain⟨z,n,rfl,rfl,ok,q⟩:=h;obtain⟨t,rfl⟩:=rx;obtain⟨t',rfl⟩:=ry;exact SB.mul ok λt'' k=>⟨.str _,H,I.tok _,⟨_,rfl⟩,q⟩
end
structure Shm(m d:Nat)(x:PyData):Prop where
 sh:x.showable=true
 ln:x.shown.length<=m
 dp:x.depth<=d
structure New(H H':Hp)(p:Addr)(o:HO):Prop where
 s:Same H H'
 e:H' p=some o
 n:∀a u,H a=some u->a≠p
theorem New.mk'{H:Hp}{p:Addr}{o:HO}(h:H p=none):New H (upd H p o) p o:=⟨Same.new h,aV,λa u q=>aK q h⟩
section
variable{X:Cx}{es:List Expr}{t:TA}{pos:Pos}
def R5(t:TA):TE:=λσ H Q=>t σ H λxs H1=>xs.length<=sizeLine/\∀p H',New H1 H' p (.tup xs)->Q (.ref p) H'
def R6(t:TA):TE:=λσ H Q=>t σ H λxs H1=>xs.length<=sizeLine/\∀p H',New H1 H' p (.lst xs)->Q (.ref p) H'
theorem bM{x1}(h:PA X es t):PE X (.Tuple es x1 pos) (R5 t):=by
 intro pins s σ H Q I hq;refine wpAny_Tuple_spliced (thn (h pos pins s σ H _ I hq) λus s1 ⟨xs,H1,I1,r,z,q⟩=>⟨by rw[<- r.length];exact z,?_⟩);have hf:H1 s1.heap.objs.size=none:=I1.hok.fresh (uC _);refine⟨.ref s1.heap.objs.size,upd H1 s1.heap.objs.size (.tup xs),I1.laid (t':=s1.toks) (λb u e=>uB _ e) (uC _) ?_,rfl,q _ _ (.mk' hf)⟩;exact⟨z,us,r,⟨_,oC _ rfl,rfl,_,rfl⟩⟩
theorem aX(h:PA X es t):PE X (.List es pos) (R6 t):=by
 intro pins s σ H Q I hq;refine wpAny_List_spliced (thn (h pos pins s σ H _ I hq) λus s1 ⟨xs,H1,I1,r,z,q⟩=>⟨by rw[<- r.length];exact z,?_⟩);have hf:H1 s1.heap.objs.size=none:=I1.hok.fresh (uC _);refine⟨.ref s1.heap.objs.size,upd H1 s1.heap.objs.size (.lst xs),I1.laid (t':=s1.toks) (λb u e=>uB _ e) (uC _) ?_,rfl,q _ _ (.mk' hf)⟩;exact⟨z,us,0,r,oC _ rfl⟩
def R7:R2:=λx y H Q=>∃l b xs zs,x=.ref l/\y=.ref b/\H l=some (.lst xs)/\H b=some (.lst zs)/\xs.length+zs.length<=sizeLine/\∀p H',New H H' p (.lst (xs++zs))->Q (.ref p) H'
theorem gR:OpR X (binaryOp .Add) R7:=by
 intro pins s σ H x y v u Q I rx ry h;obtain⟨l,b,xs,zs,e1,e2,hH,hB,hz,q⟩:=h;exact aac pins s σ H x y v u Q I rx ry ⟨l,b,xs,zs,e1,e2,hH,hB,hz,λp hp=>q p _ (.mk' hp)⟩
def K8:R2:=λx y H Q=>∃l k xs,x=.ref l/\y=.int k/\H l=some (.lst xs)/\-(2 ^ 63)<=k/\k<2 ^ 63/\xs.length*k.toNat<=sizeLine/\∀p H',New H H' p (.lst (List.replicate k.toNat xs).flatten)->Q (.ref p) H'
theorem K9:OpR X (binaryOp .Mult) K8:=by
 intro pins s σ H x y v u Q I rx ry h;obtain⟨l,k,xs,e1,e2,hH,h1,h2,hz,q⟩:=h;exact aad pins s σ H x y v u Q I rx ry ⟨l,k,xs,e1,e2,hH,h1,h2,hz,λp hp=>q p _ (.mk' hp)⟩
def K_:V->List V->Hp->VK->Prop:=λx vs H Q=>∃l xs y,x=.ref l/\vs=[y]/\H l=some (.lst xs)/\xs.length<sizeLine/\∀H',Off l H H'->H' l=some (.lst (xs++[y]))->Q .non H'
theorem Jl:MtM X "list.append" K_:=by
 intro pins s σ H x vs v us Q I rx rv h;obtain⟨l,xs,y,e1,e2,hH,hz,q⟩:=h;exact yH pins s σ H x vs v us Q I rx rv ⟨l,xs,y,e1,e2,hH,hz,q _ Off.upd aV⟩
theorem bR{o e:Expr}{to te:TE}{apos cpos:Pos}(ho:PE X o to)(he:PE X e te)(hbase:attributeBase o "append" X.env (eval o X.env)=eval o X.env:=by rfl)
  (hfew:((backTo cpos (starEach [e] X.env)).all (λx=>!x.1) && (backToKw cpos (keywordEach [] X.env)).all (λx=>x.1.isSome)
   && decide (([e]:List Expr).length+([]:List Keyword).length+(if ([]:List Keyword).isEmpty then 0 else 1)<30))=true:=by rfl)
  (hline:(apos.endLine==cpos.line)=true:=by rfl) (hs:starEach [e] X.env=(false,eval e X.env)::starEach [] X.env:=by rfl) :
  PE X (.Call (.Attribute o "append" apos) [e] [] cpos) (tBM X.K "list" K_ to (n6 te tZ)) :=
 DY PySem.F.plainAttrs_list PySem.F.slot_list_append PySem.F.type_list_append Jl ho (aj he ak hs) hbase hfew hline hs (by rfl)
end
def Tel(t:TE)(σ:St)(H:Hp)(v:V):Prop:=∀Q:VK,Q v H->t σ H Q
def R8(t:TA)(σ:St)(H:Hp)(vs:List V):Prop:=∀Q:List V->Hp->Prop,Q vs H->t σ H Q
section
variable{σ:St}{H:Hp}{v x y:V}{vs:List V}{t ta tb:TE}{tr:TA}{i:Nat}{Q:VK}{D:Ends}{s u:TS}{tg:TG}{c:TT}
theorem aaj(h:σ[i]?=some (some v)):Tel (dM i) σ H v:=λQ q=>⟨v,h,q⟩
theorem agX:Tel (tC v) σ H v:=λQ q=>q
theorem La:R8 tZ σ H []:=λQ q=>q
theorem El(h:Tel t σ H v)(k:R8 tr σ H vs):R8 (n6 t tr) σ H (v::vs):=λQ q=>h _ (k _ q)
theorem Xf{Q:List V->Hp->Prop}(h:t σ H λx H1=>tr σ H1 λxs H2=>Q (x::xs) H2):n6 t tr σ H Q:=h
theorem aak{Q:List V->Hp->Prop}(h:Q [] H):tZ σ H Q:=h
theorem aal(h:s { D with nx:=u D } σ H):ZJ s u D σ H:=h
theorem adq{nx bk ct:St->Hp->Prop}{rt:VK}(h:nx σ H):(Ends.mk nx rt bk ct).nx σ H:=h
theorem Xg(h:D.nx σ H):Ri D σ H:=h
theorem aam(h:t σ H λx H1=>tg x σ H1 D.nx):Oh t tg D σ H:=h
theorem Xh(h:tr σ H λxs H1=>xs.length<=sizeLine/\∀p H',New H1 H' p (.tup xs)->Q (.ref p) H'):R5 tr σ H Q:=h
theorem Xi(h:tr σ H λxs H1=>xs.length<=sizeLine/\∀p H',New H1 H' p (.lst xs)->Q (.ref p) H'):R6 tr σ H Q:=h
theorem adt{r:R2}(h:ta σ H λx H1=>tb σ H1 λy H2=>r x y H2 Q):tOp r ta tb σ H Q:=h
theorem aan(h:t σ H D.rt):ZK t D σ H:=h
theorem Xj(h:t σ H λ_ H1=>D.nx σ H1):Rj t D σ H:=h
theorem adu(h:c σ H λb H1=>if b=true then s D σ H1 else u D σ H1):Rk c s u D σ H:=h
theorem Xk{Q:Bool->Hp->Prop}(h:t σ H λx H'=>∃k,x=.bl k/\Q k H'):KN t σ H Q:=h
theorem agY{Q:Bool->Hp->Prop}(h:t σ H λx H'=>∃k,x=.bl k/\Q k H'):tB t σ H Q:=h
theorem adv{r:List V->Hp->VK->Prop}(h:tr σ H λvs H1=>r vs H1 Q):tCB r tr σ H Q:=h
end
section
variable{σ:St}{H:Hp}{te:TE}{tr:TA}{Q:VK}{fr:List Nat}{fvs:St}{n:Nat}
theorem uy{i:Nat}{x:V}(h:(cR 0 n)[i]?=some x)(hi:i<n):x=.int i:=by
 have:(cR 0 n)[i]?=some (V.int (0+(i:Int))):=by simp[cR,hi]
 rw[this] at h;have:=nI h;rw[<- this,Int.zero_add]
theorem Cg{F:Nat->V}(hr:R8 tr σ H [.int (n:Int)])(hn:n<2 ^ 62)(hz:n<=1000000)(hf:(fr.map λi=>(σ[i]?).getD none)=fvs)
  (turn:∀i H',i<n->Same H H'->Tel te (some (.int i)::fvs) H' (F i)) (k:∀p H',New H H' p (.lst ((List.range n).map F))->Q (.ref p) H'):mJ (yp tr) 1 fr (bw 0) mH te σ H Q:=by
 refine hr _ ⟨n,rfl,by lia,by lia,λacc hacc=>?_⟩;subst hf;rw[Int.toNat_natCast];refine oE iQ (λi ys H'=>H'=upd H acc (.lst ys)/\ys=(List.range i).map F) ⟨rfl,rfl⟩ (λi ys H' _ h=>⟨trivial,by rw[h.1];exact aV⟩) ?_ ?_
 ·rintro i x tv ys H' hx hi ⟨rfl,rfl⟩ htv;obtain⟨tv0,rfl⟩:∃a,tv=[a]:=List.length_eq_one_iff.mp htv;have hi':i<n:=by simpa[cR] using hi
  obtain rfl:=uy hx hi';unfold bw mH;dsimp only;rw[zS rfl];refine turn i _ hi' (Same.new hacc) _ ⟨?_,aV,?_⟩
  ·rw[wP,List.length_range];exact qE hi' (bQ hz)
  ·exact jT.next (tv:=[some (V.int i)]) hi ⟨Wv,by rw[List.range_succ,List.map_append];rfl⟩ rfl
 ·rintro ys H' ⟨rfl,rfl⟩;rw[show (cR 0 n).length=n by simp[cR]];exact k acc _ (.mk' hacc)
end
def del(H:Hp)(a:Addr):Hp:=λb=>if b=a then none else H b
section
variable{P:Program}{w:World}{H:Hp}{h:Heap}{a b:Addr}{φ:Heap->Prop}{o:HO}
theorem uz:del H a a=none:=by unfold del;rw[if_pos rfl]
theorem j8(h:b≠a):del H a b=H b:=by unfold del;rw[if_neg h]
theorem oK(h:H b=none):del H a b=none:=by
 unfold del;split
 ·rfl
 ·exact h
theorem HOk.del(ok:HOk P w H h)(ha:H a=some (.ext φ)):HOk P w (del H a) h:=λb u z=>by
 by_cases hb:b=a
 ·rw[hb,uz] at z;cases z
 ·rw[j8 hb] at z;refine(ok b u z).stay (λ_ _ _ q=>q) (λc q=>?_) λc xs q=>?_
  ·rw[j8 λe=>by rw[e,ha] at q;cases q];exact q
  ·rw[j8 λe=>by rw[e,ha] at q;cases q];exact q
theorem HOk.track(ok:HOk P w H h)(ha:H a=none)(new:cA P w (upd H a o) h a o):HOk P w (upd H a o) h:=λb u z=>by
 by_cases hb:b=a
 ·subst hb;rw[aV] at z;cases z;exact new
 ·rw[aQ hb] at z;refine(ok b u z).stay (λ_ _ _ q=>q) (λc q=>?_) λc xs q=>?_
  ·rw[aQ (aK q ha)];exact q
  ·rw[aQ (aK q ha)];exact q
end
section
variable{X:Cx}{pins:List (Addr×Obj)}{σ:St}{H H1:Hp}{s s1:Shared}{a:Addr}{φ:Heap->Prop}{o:HO}
theorem Inv.del(I:Inv X pins σ H s)(ha:H a=some (.ext φ))(h0:X.H₀ a=none):Inv X pins σ (del H a) s:=by
 have ne:∀{b:Addr} {u:HO},X.H₀ b=some u->b≠a:=λ{b u} z=>aK z h0
 refine⟨I.ok,I.os,I.bare,⟨I.base.keep,I.base.slot,λb o e n hx=>oK (I.base.free b o e n hx),I.base.there,λb xs e=>?_,λb o u e=>?_,λb ps e=>?_⟩,I.loc,I.cell,oK I.free,λx c e=>oK (I.gP x c e),λp hp=>?_,I.hok.del ha,I.len⟩
 ·rw[j8 (ne e)];exact I.base.tups b xs e
 ·rw[j8 (ne e)];exact I.base.mj b o u e
 ·rw[j8 (ne e)];exact I.base.mq b ps e
 ·obtain⟨q1,q2,q3,q4,q5⟩:=I.pin p hp;exact⟨q1,oK q2,q3,q4,q5⟩
theorem Inv.track(I:Inv X pins σ H s)(I0:Inv X pins σ H1 s1)(na:s1.heap.objs.size<=a)(ha:H a=none)(new:cA X.prog X.w (upd H a o) s.heap a o):Inv X pins σ (upd H a o) s:=by
 have s0:X.s₀.heap.objs.size<=s1.heap.objs.size:=I0.sz;have ne:∀b ob,s1.heap.get? b=some ob->b≠a:=λb ob q=>qS (qE (uA q) na)
 refine⟨I.ok,I.os,I.bare,⟨I.base.keep,I.base.slot,λb o e n hx=>?_,I.base.there,λb xs e=>?_,λb o u e=>?_,λb ps e=>?_⟩,I.loc,I.cell,?_,λx c e=>?_,λp hp=>?_,I.hok.track ha new,I.len⟩
 ·rw[aQ (qS (qE (uA e) (rX s0 na)))];exact I.base.free b o e n hx
 ·have z:=I.base.tups b xs e;rw[aQ (aK z ha)];exact z
 ·have z:=I.base.mj b o u e;rw[aQ (aK z ha)];exact z
 ·obtain⟨m,z⟩:=I.base.mq b ps e;exact⟨m,by rw[aQ (aK z ha)];exact z⟩
 ·rw[aQ (qS (qE I0.lt na))];exact I.free
 ·obtain⟨v,ob,ho,_⟩:=I0.cell x c e;rw[aQ (ne c ob ho)];exact I.gP x c e
 ·obtain⟨q1,q2,q3,q4,q5⟩:=I.pin p hp;obtain⟨r1,_⟩:=I0.pin p hp;exact⟨q1,by rw[aQ (ne _ _ r1)];exact q2,q3,q4,q5⟩
end
section
variable{M:Model}{A:Around}{E:xB}{env:Env}
variable{nm q:Str}{C N:Addr}{bs bm:xE}{hdct:Bool}{sn:List Str}{sub:xE}{ab:Bool}{col:Option Bool}{dd:xL}{k0 k1 k2 k3 k5:Option Value}{newId:String}
theorem O3{s:Shared}{x:Sem Value}{Q:Flow->Shared->Prop}(hbase:bm.contains (.type "BaseException")=true)(hh:A.handled=none)
  (h:wpAny M A x (λv s₁=>∃e t dx sl,v=.ref e/\s₁.heap.get? C=some (excClassObj nm q C N bs bm hdct sn sub ab col dd k0 k1 k2 k3 k5 newId) /\
   s₁.heap.get? e=some { cls:=.ref C,dict:=dx,data:=.fields #[.ref t,.none,.none,.none,.bool false,.none],slots:=sl }/\E (.ref e) s₁) E s) :
  wpAny M A (raiseStmt env (some x) none) Q E s:=by
 have hcB:(Value.ref C::bm).contains (.type "BaseException")=true:=by rw[List.contains_cons,hbase,Bool.or_true]
 unfold raiseStmt;refine zI (mB h (λv s₁ h₁=>?_) λ_ _ x=>x);obtain⟨e,t,dx,sl,rfl,hC,he,hE⟩:=h₁;obtain⟨hp,g,d,tk,os⟩:=s₁
 repeat (first|with_reducible refine wpAny_loadPart_at he ?_|with_reducible refine wpAny_loadPart_at hC ?_|(with_reducible refine wpAny_isSubtype_exc hC ?_;rw[hcB])|wp_step)
 exact wpAny_raiseNew_none hh hE
end
def O4(K:W.Frag)(C R:Addr):Prop:=∃nm q N bs hdct sn sub ab col dd k0 k1 k2 k3 k5,K.lookup C=some (excClassObj nm q C N bs [.ref R,.type "ValueError", .type "Exception", .type "BaseException", .type "object"] hdct sn sub ab col dd k0 k1 k2 k3 k5 "ValueError.__new__")
def Jm(C:Addr)(H0:Hp)(n:Nat)(E:XK)(te:TE):TS:=λD σ H=>te σ H λx H1=>∃a dx,x=.ref a/\n<=a/\H0 a=none/\H1 a=some (i_ a C dx)/\E (.ref C) dx (del H1 a)
section
variable{P:Program}{w:World}{K:W.Frag}{mg:xC}{base:Heap}{N:List Str}{qual:Str}{scope:Scope}{f:Addr}{cd:Value}{A:Around}{outer:List Env}{s:Shared}{H:Hp}{E:XK}
theorem j9{C R:Addr}{e:Expr}{te:TE}{pos:Pos}(hC:O4 K C R)(he:PE (gQ (CX1 P w) P w K mg base N qual scope f cd A outer s H E) e te) :
  PS (gQ (CX1 P w) P w K mg base N qual scope f cd A outer s H E) (.Raise (some e) none pos) (Jm C H s.heap.objs.size E te):=by
 intro pins s1 σ H1 D I h;obtain⟨nm,q,N',bs,hdct,sn,sub,ab,col,dd,k0,k1,k2,k3,k5,ho⟩:=hC;rw[arm_exec_Raise];show wpAny (model P w) (A.deeper (envOfC qual scope s.heap.objs.size f cd)) (do standAt pos;raiseStmt (envOfC qual scope s.heap.objs.size f cd) (some (do let v <- eval e (envOfC qual scope s.heap.objs.size f cd);standAt pos;pure v)) none) _ _ s1;refine zI (wpAny_standAt (O3 (C:=C) (nm:=nm) (q:=q) (N:=N') (bs:=bs) (bm:=[.ref R,.type "ValueError", .type "Exception", .type "BaseException", .type "object"]) (hdct:=hdct) (sn:=sn) (sub:=sub) (ab:=ab) (col:=col) (dd:=dd) (k0:=k0) (k1:=k1) (k2:=k2) (k3:=k3) (k5:=k5) (newId := "ValueError.__new__") (K5 R).adn (I.ok.hd rfl) (zI (thn (he pins s1 σ H1 _ I h) λv s2 ⟨x,H2,I2,rx,a,dx,ex,na,h0,ha,q2⟩=>zI (wpAny_standAt (rV ?_))))));subst ex;obtain rfl:v=Value.ref a:=rx;obtain⟨⟨t,sl,ge⟩,_,_⟩:cA P w H2 s2.heap a (i_ a C dx):=I2.hok a _ ha;refine⟨a,t,dx,sl,rfl,I2.kIn C _ ho,ge,?_⟩;have I3:Inv (gQ (CX1 P w) P w K mg base N qual scope f cd A outer s H E) pins σ (del H2 a) s2:=I2.del ha h0;show wpAny (model P w) (A.deeper (envOfC qual scope s.heap.objs.size f cd)) (leaving (envOfC qual scope s.heap.objs.size f cd) (.ref a)) _ _ s2;refine Ej (base:=base) I.ok.frames I3.stack rfl ge rfl rfl λh' T' lf=>?_
 have hz:∀z,(#[Value.ref t,.none,.none,.none,.bool false,.none]:xI)[1]?=some (.ref z)->False:=λz q=>by
  simp at q
 have R4:∀b∈frs (envOfC qual scope s.heap.objs.size f cd::outer),del H2 a b=none:=I3.nW;obtain⟨oT',ts',gT',gt',g3'⟩:=lf.ent;refine⟨a,C,dx,del H2 a,rfl,I3.os,I3.bare,K7 I3.base lf (λb hb=>?_) (λb o q m=>?_) na (λz q=>(hz z q).elim),ux I3.hok lf uz (λz q=>(hz z q).elim) R4,?_,q2⟩
 ·show b∈frs (envOfC qual scope s.heap.objs.size f cd::outer);unfold frs;rw[List.filterMap_cons];exact zD _ hb
 ·have m:b∈frs (envOfC qual scope s.heap.objs.size f cd::outer):=m;unfold frs at m;rw[List.filterMap_cons] at m;rcases vT.mp m with z|z
  ·exact gL (uA q) (by rw[z];exact qV _)
  ·exact z
 ·have hsz2:s.heap.objs.size<=s2.heap.objs.size:=I2.sz;have nTa:T'≠a:=λz=>gL (uA ge) (by rw[<- z];exact Nat.not_lt.mpr lf.new)
  exact⟨_,_,T',oT',ts',lf.obj,rfl,rfl,rfl,by simp,nTa,gT',gt',g3',uz,I3.hok.fresh lf.new,na,Nat.le_trans hsz2 lf.new⟩
end
section
variable{X:Cx}{CX:CXT}{k:Nat}{f C:Addr}{fd:FuncData}{ps:List Str}{sp:Sp}{E:XK}{e:Expr}{t:TA}{bm:xE}
theorem Em{pins:List (Addr×Obj)}{σ:St}{H:Hp}{s:Shared}{Q:VK}{us:xE}{vs:List V}(M:ado X.K C f bm)(F:jE X.prog X.w X.K X.mg X.base CX k f fd ps sp)(hr:Room (k+1) X.A)(hb:Binds X.K fd ps [])
  (hx:Passes CX X E) (I:Inv X pins σ H s) (r:Vals vs us) (hz:vs.length<=sizeLine)
  (h:∀x,H x=none->s.heap.objs.size<=x->sp (.ref x::vs) (upd H x (i_ x C none)) (λv H2=>v=.non/\Q (.ref x) H2) E) :
  wpAny (model X.prog X.w) X.A (call (.ref C) us) (EP X pins σ Q) X.xe s:=by
 obtain⟨nm,q,N,bs,hdct,sn,sub,ab,col,dd,k0,k1,k2,k3,k5,ho⟩:=M.obj;obtain⟨oI,hoI,hcI⟩:=M.fn;have hsz:us.length<=sizeLine:=by rw[<- r.length];exact hz
 refine RX (h:=s.heap) (g:=s.gens) (d:=s.drawn) (t:=s.toks) (os:=s.os) M.K5 (I.kIn C _ ho) (W.looks_findIn I.kIn M.init) (I.kIn f _ hoI) hcI (λh' kp hget=>?_) hsz;have hfr:H (s.heap.objs.size+1)=none:=I.hok.fresh (Nat.le_succ _);have hq:=h (s.heap.objs.size+1) hfr (Nat.le_succ _);have I2:Inv X pins σ (upd H (s.heap.objs.size+1) (i_ (s.heap.objs.size+1) C none)) { s with heap:=h' }:=I.laid (t':=s.toks) kp (Nat.le_succ _) (K3 hget)
 have r2:Vals (V.ref (s.heap.objs.size+1)::vs) (Value.ref (s.heap.objs.size+1)::us):=.cons rfl r;have hl:(Value.ref (s.heap.objs.size+1)::us++[]).length=ps.length:=by
  rw[mI,<- r2.length];exact F.len _ _ _ _ hq
 refine wpAny_call (codeAny_mono (F.run _ X.stack _ _ ⟨Value.ref (s.heap.objs.size+1)::us,[]⟩ (Value.ref (s.heap.objs.size+1)::us) _ _ E (hr.make C us []) (I2.env0.make C us []) (by
  have:=hb { s with heap:=h' } (Value.ref (s.heap.objs.size+1)::us) I2.kIn hl
  rwa [mI] at this) r2 hq) λr s' hq'=>?_)
 cases r with
 | error e=>exact hx pins σ _ _ e s' I2 hq'
 | ok fl =>
  cases fl with
  | ret u =>
   obtain⟨v,H',I3,rv,ev,q3⟩:=I2.after hq';subst ev;exact⟨rv,⟨V.ref (s.heap.objs.size+1),H',I3,rfl,q3⟩⟩
  | next=>exact False.elim hq'
  | brk=>exact False.elim hq'
  | cont=>exact False.elim hq'
end
def Y7(n:Nat)(C:Addr)(f:Str)(t:TA):TE:=λσ H Q=>t σ H λvs H1=>∃v,vs=[v]/\∀z H',n<=z->H1 z=none->Same H1 H'->ExcAt H' z C [(f,v)]->Q (.ref z) H'
def Y8(n:Nat)(C:Addr)(f g:Str)(t:TA):TE:=λσ H Q=>t σ H λvs H1=>∃v y,vs=[v,y]/\∀z H',n<=z->H1 z=none->Same H1 H'->ExcAt H' z C (dZ g y [(f,v)])->Q (.ref z) H'
section
variable{CX:CXT}{X:Cx}{m:Nat}{C R:Addr}{E:XK}{x qual f g:Str}{st:Stmt}{p pos:Pos}{e:Expr}{es:List Expr}{t:TA}
theorem Ci(M:fG X.K X.mg x qual st C R)(F:m5 X.prog X.w X.K X.mg X.base CX qual st ["self", f] (Xe C f))(hr:Room m X.A)(ha:PA X (e::es) t)(hk:2<=m:=by decide)(hx:Passes CX X E:=by exact yJ)(hg:Gl X x:=by rfl)
  (hdb:(x==("__debug__" : Str))=false:=by decide) (he:starEach (e::es) X.env=(false,eval e X.env)::starEach es X.env:=by rfl) (hpl:(backTo pos (starEach es X.env)).any (·.1)=false:=by rfl) :
  PE X (.Call (.Name x p) (e::es) [] pos) (Y7 X.s₀.heap.objs.size C f t):=by
 intro pins s σ H Q I h;obtain⟨fa,fd,C1,Fn⟩:=M.ex;obtain⟨ok,hb⟩:=F fa fd Fn;refine wpAny_Call_Name_kw (jA I hg M.gl ?_ hdb);refine W.callWith_K (h₀:=X.base) I.ok.mod.kin C1.kp (thn (ha pos pins s σ H _ I h) λus s1 ⟨vs,H1,I1,r,v,ev,q⟩=>⟨I1.kIn,?_⟩) he hpl;subst ev;refine Em C1 ok (hr.mono hk) hb hx I1 r (bQ (show (_:Nat)<=_ by simp only[List.length_cons,List.length_nil];decide)) λz hz hn=>⟨z,v,rfl,aV,λdx hd=>⟨rfl,q z _ (Nat.le_trans I1.sz hn) hz (λb u eb=>?_) ?_⟩⟩
 ·have hzx:dx≠z:=λq=>by rw[q,aV] at hd;cases hd
  rw[aQ hzx] at hd;rw[aQ (aK eb hz),aQ (aK eb hd),aQ (aK eb hz)];exact eb
 ·have hzx:dx≠z:=λq=>by rw[q,aV] at hd;cases hd
  exact .inr ⟨dx,aV,by rw[aQ hzx,aV],hzx⟩
theorem Lb(M:fG X.K X.mg x qual st C R)(F:m5 X.prog X.w X.K X.mg X.base CX qual st ["self", f,g] (aai C f g))(hr:Room m X.A)(ha:PA X (e::es) t)(hk:2<=m:=by decide)(hx:Passes CX X E:=by exact yJ)(hg:Gl X x:=by rfl)
  (hdb:(x==("__debug__" : Str))=false:=by decide) (he:starEach (e::es) X.env=(false,eval e X.env)::starEach es X.env:=by rfl) (hpl:(backTo pos (starEach es X.env)).any (·.1)=false:=by rfl) :
  PE X (.Call (.Name x p) (e::es) [] pos) (Y8 X.s₀.heap.objs.size C f g t):=by
 intro pins s σ H Q I h;obtain⟨fa,fd,C1,Fn⟩:=M.ex;obtain⟨ok,hb⟩:=F fa fd Fn;refine wpAny_Call_Name_kw (jA I hg M.gl ?_ hdb);refine W.callWith_K (h₀:=X.base) I.ok.mod.kin C1.kp (thn (ha pos pins s σ H _ I h) λus s1 ⟨vs,H1,I1,r,v,y,ev,q⟩=>⟨I1.kIn,?_⟩) he hpl;subst ev;refine Em C1 ok (hr.mono hk) hb hx I1 r (bQ (show (_:Nat)<=_ by simp only[List.length_cons,List.length_nil];decide)) λz hz hn=>⟨z,v,y,rfl,aV,λdx hd=>⟨rfl,q z _ (Nat.le_trans I1.sz hn) hz (λb u eb=>?_) ?_⟩⟩
 ·have hzx:dx≠z:=λq=>by rw[q,aV] at hd;cases hd
  rw[aQ hzx] at hd;rw[aQ (aK eb hd),aQ (aK eb hz),aQ (aK eb hd),aQ (aK eb hz)];exact eb
 ·have hzx:dx≠z:=λq=>by rw[q,aV] at hd;cases hd
  exact .inr ⟨dx,by rw[aQ (Ne.symm hzx),aV],aV,hzx⟩
end
theorem En{n:Nat}{H0 H1 H':Hp}{E:XK}{C z:Addr}{fs:List (Str×V)}(hfs:fs≠[])(hn:n<=z)(hz:H1 z=none)(h0:H0 z=none)(s:Same H1 H')(e:ExcAt H' z C fs)(k:∀dx H2,Same H1 H2->H2 dx=some (jh dx fs)->E (.ref C) (some dx) H2) :
  ∃a dx,V.ref z=.ref a/\n<=a/\H0 a=none/\H' a=some (i_ a C dx)/\E (.ref C) dx (del H' a):=by
 rcases e with⟨w,_⟩|⟨dx,a,b,c⟩
 ·exact gL w hfs
 ·exact⟨z,some dx,rfl,hn,h0,a,k dx _ (λb u q=>by rw[j8 (aK q hz)];exact s b u q) (by rw[j8 c];exact b)⟩
section
variable{P:Program}{w:World}{K:W.Frag}{mg:xC}{base:Heap}{k:Nat}{x:Str}{ps:List Str}{sp:Sp}
theorem Xl{st:Stmt}{N:List Str}(h:HasDef K mg x st)(S:aJ N ps (aA st))(len:∀vs H Q E,sp vs H Q E->vs.length=ps.length)
  (hb:∀(kV doc pm:Value)(an:xL)(cdv ct:Value)(us:xE),us.length=ps.length->bindArgs (W.fnOf x x (cD st) (bH st) (aA st) .none kV doc pm an cdv ct) ⟨us,[]⟩=pure (ps.zip us))
  (hbody:∀(f:Addr)(cdv:Value)(A:Around)(outer:List Env)(s:Shared)(H:Hp)(vs:List V)(Q:VK)(E:XK),Room k (A.deeper (envOfC x (aA st) s.heap.objs.size f cdv))->sp vs H Q E ->
   ∃t,PSs (gQ (CX1 P w) P w K mg base N x (aA st) f cdv A outer s H E) (bH st) t/\t { nx:=λ_ H'=>Q .non H',rt:=Q } (start N vs) H):Def P w K mg base (CX1 P w) (k+1) x ps sp:=by
 obtain⟨f,fd,F,m⟩:=h;refine⟨f,fd,?_,m,F.kp,F.binds hb⟩;obtain⟨oc,od,kV,doc,pm,an,cdv,ct,osl,rfl,lk,hcd⟩:=F.ex;exact t_ lk hcd S len λA outer s H vs Q E hr hsp=>hbody f cdv A outer s H vs Q E hr hsp
end
section
variable{M:Model}{A:Around}{E:xB}{s:Shared}{base:Heap}{env:Env}{outer:List Env}{L e:Addr}{oe:Obj}{vs:xI}
theorem O5{Q:xA}{T0:Addr}{o0:Obj}{ts0:xI}(hfr:A.frames=some (env::outer))(hl:s.heap.FunFrames base (env::outer))(hf:env.frame=some L)(he:s.heap.get? e=some oe)(hd:oe.data=.fields vs)(h1:vs[1]?=some (.ref T0))
  (hT:s.heap.get? T0=some o0) (hdT:o0.data=.fields ts0) (h3:ts0[3]?=some .none) (hTe:T0≠e)
  (h:∀h' T,Left (frs (env::outer)) s.heap h' e oe vs T->Q () { s with heap:=h' }):wpAny M A (noteFrame (.ref e) env) (λ_ s'=>wpAny M A (setFlight (.ref e) none) Q E s') E s:=by
 unfold noteFrame;simp only[hf];refine zI (wpAny_field he hd h1 ?_);rw[if_pos (show (Value.ref T0 != Value.none)=true from by simp)];refine zI (wpAny_field hT hdT h3 ?_);rw[if_neg (show ¬ ((Value.none==rawInt L)=true) from by simp[rawInt])];refine zI (wpAny_setField hT hdT (Array.getElem?_eq_some_iff.mp h3).1 ?_);have hoth:∀b,b≠T0->(s.heap.update T0 (Obj.mapFields (·.setIfInBounds 3 Value.none))).get? b=s.heap.get? b:=λb hb=>nS _ _ (Ne.symm hb)
 have hno:∀b o,s.heap.get? b=some o->(∀z,o.data≠.fields z)->b≠T0:=λb o z hn q=>by
  rw[q,hT] at z;cases z;exact hn ts0 hdT
 have hl2:(s.heap.update T0 (Obj.mapFields (·.setIfInBounds 3 Value.none))).FunFrames base (env::outer):=hl.of_keeps λb o z hn=>⟨o,(hoth b (hno b o z hn)).trans z,rfl⟩
 refine mZ (s:={ s with heap:=s.heap.update T0 (Obj.mapFields (·.setIfInBounds 3 Value.none)) }) hfr hl2 hf ((hoth e (Ne.symm hTe)).trans he) hd (Array.getElem?_eq_some_iff.mp h1).1 λh' T lf=>h h' T ⟨λb o hb hn z hz=>lf.keep b o hb hn ((hoth b (hz T0 h1)).trans z) hz,λb o hb z=>?_,?_,lf.ent,lf.obj⟩
 ·obtain⟨_,o',ho',hn'⟩:=hl.mem hb;rw[z] at ho';cases ho';exact lf.slot b o hb ((hoth b (hno b o z hn')).trans z)
 ·have:=lf.new;rw[Heap.size_update] at this;exact this
end
abbrev Cx.pinned(X:Cx)(pins:List (Addr×Obj)):Cx:={ X with pn:=X.pn++pins }
section
variable{X:Cx}{pins mD:List (Addr×Obj)}{σ:St}{H:Hp}{s:Shared}{a:Addr}
theorem Inv.agZ(I:Inv X pins σ H s):Inv (X.pinned pins) [] σ H s :=
 ⟨⟨I.ok.mod,I.ok.kind,I.ok.glob,I.ok.blt,I.ok.above,I.ok.inj,I.ok.has,I.ok.cab,I.ok.hd,I.ok.frames,I.ok.stk,I.ok.exf,I.ok.bs,I.ok.bsz,I.ok.BK,I.ok.Dz,I.ok.mz,I.ok.frf⟩,I.os,I.bare,I.base,I.loc,I.cell,I.free,I.gP,λp hp=>I.pin p (by
  have hp:p∈(X.pn++pins)++[]:=hp;rw[mI] at hp;exact hp),I.hok,I.len⟩
theorem Inv.uD(I:Inv (X.pinned pins) mD σ H s):Inv X pins σ H s :=
 ⟨⟨I.ok.mod,I.ok.kind,I.ok.glob,I.ok.blt,I.ok.above,I.ok.inj,I.ok.has,I.ok.cab,I.ok.hd,I.ok.frames,I.ok.stk,I.ok.exf,I.ok.bs,I.ok.bsz,I.ok.BK,I.ok.Dz,I.ok.mz,I.ok.frf⟩,I.os,I.bare,I.base,I.loc,I.cell,I.free,I.gP,λp hp=>I.pin p (mE _ hp),I.hok,I.len⟩
abbrev Cx.hand(X:Cx)(a:Addr):Cx:={ X with A:=X.A.mark (some (.ref a)),calm:=false,xe:=λ_ _=>False }
theorem Inv.hand(I:Inv X pins σ H s):Inv (X.hand a) pins σ H s :=
 ⟨⟨I.ok.mod,I.ok.kind,I.ok.glob,I.ok.blt,I.ok.above,I.ok.inj,I.ok.has,I.ok.cab,(λh=>by cases h),I.ok.frames,I.ok.stk,I.ok.exf,I.ok.bs,I.ok.bsz,I.ok.BK,I.ok.Dz,I.ok.mz,I.ok.frf⟩,I.os,I.bare,I.base,I.loc,I.cell,I.free,I.gP,I.pin,I.hok,I.len⟩
theorem Inv.Cj(ok:X.Ok)(I:Inv (X.hand a) pins σ H s):Inv X pins σ H s :=
 ⟨ok,I.os,I.bare,I.base,I.loc,I.cell,I.free,I.gP,I.pin,I.hok,I.len⟩
end
abbrev Cx.tr(X:Cx)(pins:List (Addr×Obj))(EX:St->XK):Cx:=(X.pinned pins).wish λev s'=>∃mD σ' H1 s1,Inv (X.pinned pins) mD σ' H1 s1/\CX1 X.prog X.w X.stack H1 s1 (EX σ') ev s'
def R9(EX:St->XK)(sp:Sp)(t:TA):TE:=λσ H Q=>t σ H λvs H1=>sp vs H1 Q (EX σ)
section
variable{X:Cx}{pins:List (Addr×Obj)}{EX:St->XK}{k m:Nat}{x:Str}{ps:List Str}{sp:Sp}{p pos:Pos}{e:Expr}{es:List Expr}{t:TA}
theorem Xm(D:Def X.prog X.w X.K X.mg X.base (CX1 X.prog X.w) k x ps sp)(hr:Room m X.A)(ha:PA (X.tr pins EX) (e::es) t)(hk:k<=m:=by decide)(hg:Gl (X.tr pins EX) x:=by rfl)
  (hdb:(x==("__debug__" : Str))=false:=by decide) (he:starEach (e::es) X.env=(false,eval e X.env)::starEach es X.env:=by rfl) (hpl:(backTo pos (starEach es X.env)).any (·.1)=false:=by rfl) :
  PE (X.tr pins EX) (.Call (.Name x p) (e::es) [] pos) (R9 EX sp t):=by
 intro mD s σ H Q I h;obtain⟨f,fd,F,hm,kp,hb⟩:=D.ex;refine wpAny_Call_Name_kw (jA I hg hm ?_ hdb);refine W.callWith_K (h₀:=X.base) I.ok.mod.kin kp (thn (ha pos mD s σ H _ I h) λus s1 ⟨vs,H1,I1,r,q⟩=>⟨I1.kIn,?_⟩) he hpl;have hl:(us++[]).length=ps.length:=by rw[mI,<- r.length];exact F.len _ _ _ _ q
 refine wpAny_call (codeAny_mono (F.run X.A X.stack s1 H1 ⟨us,[]⟩ us vs Q (EX σ) (hr.mono hk) I1.env0 (by
  have:=hb s1 us I1.kIn hl
  rwa [mI] at this) r q) λr s' hq=>?_)
 cases r with
 | error e=>exact⟨mD,σ,H1,s1,I1.f9,hq⟩
 | ok fl =>
  cases fl with
  | ret u=>exact I1.after hq
  | next=>exact False.elim hq
  | brk=>exact False.elim hq
  | cont=>exact False.elim hq
end
def Ck(a C:Addr)(dx:xL):HO:=.ext λh=>∃oe vs,h.get? a=some oe/\oe.cls=.ref C/\oe.dict=dx/\oe.data=.fields vs
theorem Xn{P:Program}{w:World}{H:Hp}{h:Heap}{a C:Addr}{dx:xL}{oe:Obj}{vs:xI}(q:h.get? a=some oe)(hc:oe.cls=.ref C)(hd:oe.dict=dx)(hf:oe.data=.fields vs):cA P w H h a (Ck a C dx) :=
 ⟨⟨oe,vs,q,hc,hd,hf⟩,⟨_,q⟩,λh1 h2 ⟨oe,vs,z,r⟩ k=>⟨oe,vs,k _ z,r⟩⟩
def Jo(H:Hp)(x C:Addr)(fs:List (Str×V)):Prop:=(fs=[]/\H x=some (Ck x C none))\/∃dx,H x=some (Ck x C (some dx))/\H dx=some (jh dx fs)/\dx≠x
theorem Jo.mk{H:Hp}{a C dx:Addr}{fs:List (Str×V)}(hd:H dx=some (jh dx fs))(ha:H a=none):Jo (upd H a (Ck a C (some dx))) a C fs :=
 .inr ⟨dx,aV,by rw[aQ (aK hd ha)];exact hd,aK hd ha⟩
structure uE(X:Cx)(pins:List (Addr×Obj))(σ:St)(H:Hp)(s:Shared)(a C:Addr)(dx:xL):Prop where
 I:Inv X pins σ H s
 ha:H a=some (Ck a C dx)
 tb:∃T oe vs oT ts,s.heap.get? a=some oe/\oe.data=.fields vs/\vs[1]?=some (.ref T)/\s.heap.get? T=some oT/\oT.data=.fields ts/\3<ts.size/\H T=none/\T≠X.env.locals/\(T∈X.ex\/X.s₀.heap.objs.size<=T)/\(∀x c,X.env.cells.lookup x=some c->c≠T)/\∀p∈X.pn++pins,p.1≠T
abbrev THd:=Ends->Addr->Addr->Option Addr->St->Hp->Prop
def PH(X:Cx)(hs:List ExceptHandler)(t:THd):Prop :=
 ∀(pins:List (Addr×Obj)) (s:Shared) (σ:St) (H:Hp) (C a:Addr) (dx:xL) (D:Ends),uE X pins σ H s a C dx->t D C a dx σ H->wpAny (model X.prog X.w) X.A (handleBy (.ref a) X.env hs) (SP X pins D) X.xe s
def ag0:THd:=λ_ _ _ _ _ _=>False
def hPl(K:W.Frag)(d:Addr)(th:Addr->TS)(tr:THd):THd:=λD C a dx σ H=>∃b,W.exmOne K (.ref C) (.ref d)=some b/\if b=true then th a D σ H else tr D C a dx σ H
section
variable{X:Cx}{x:Str}{d:Addr}{b₀:Stmt}{suite:List Stmt}{rest:List ExceptHandler}{th:Addr->TS}{tr:THd}{p pos:Pos}
theorem aao:PH X [] ag0:=λ_ _ _ _ _ _ _ _ _ h=>h.elim
theorem uE.lit{pins:List (Addr×Obj)}{σ:St}{H:Hp}{s:Shared}{a C:Addr}{dx:xL}{A:Around}{E:xB}{Q:xA}(c:uE X pins σ H s a C dx)(h:∀s',Inv X pins σ H s'->Q () s'):wpAny (model X.prog X.w) A (setFlight (.ref a) none) Q E s:=by
 obtain⟨T,oe,vs,oT,ts,ga,gf,g1,gT,gt,g3,hT,n1,n2,n3,n4⟩:=c.tb;exact wpAny_setFlight_none ga gf g1 gT gt g3 (h _ (c.I.turned (t':=s.toks) (λb o hb e=>(nS _ _ (Ne.symm hb)).trans e) hT n1 n2 n3 n4))
theorem uE.type{pins:List (Addr×Obj)}{σ:St}{H:Hp}{s:Shared}{a C:Addr}{dx:xL}(c:uE X pins σ H s a C dx):W.Looks (model X.prog X.w) s.heap (typeOf (.ref a)) (.ref C):=by
 obtain⟨⟨oe,vs,ge,gc,gd,gf⟩,_,_⟩:cA X.prog X.w H s.heap a (Ck a C dx):=c.I.hok a _ c.ha;exact gc▸(W.Looks.ld ge).andThen .now
theorem adw(hm:X.mg x=some (.ref d))(hs:∀a,PSs (X.hand a) (b₀::suite) (th a))(hrest:PH X rest tr)(hg:Gl X x:=by rfl)
  (hdb:(x==("__debug__" : Str))=false:=by decide):PH X (.ExceptHandler (some (.Name x p)) none (b₀::suite) pos::rest) (hPl X.K d th tr):=by
 intro pins s σ H C a dx D c h;obtain⟨b,hb,h⟩:=h;refine wpAny_handleBy_cons (codeAny_handlers_test (jA (X:=X.hand a) c.I.hand hg hm ?_ hdb)) (by intro q;cases q);refine(W.exm_one (M:=model X.prog X.w) c.I.kIn c.type hb).here ?_;cases b with
 | false =>
  rw[yB vF] at h;exact hrest pins s σ H C a dx D c h
 | true =>
  rw[zS rfl] at h;show codeAny _ _ _ _ _;refine codeAny_handlers_suite (c.lit λs1 I1=>?_);refine mB (hs a pins s1 σ H D I1.hand h) (λf s3 q=>?_) λ_ _ z=>z.elim
  show SP X pins D f s3;cases f with
  | next =>
   obtain⟨σ',H',I',q⟩:=q;exact⟨_,H',I'.Cj c.I.ok,q⟩
  | brk =>
   obtain⟨σ',H',I',q⟩:=q;exact⟨_,H',I'.Cj c.I.ok,q⟩
  | cont =>
   obtain⟨σ',H',I',q⟩:=q;exact⟨_,H',I'.Cj c.I.ok,q⟩
  | ret u =>
   obtain⟨v,σ',H',I',r,q⟩:=q;exact⟨v,_,H',I'.Cj c.I.ok,r,q⟩
end
def adx(tb:List (Addr×Obj)->(St->XK)->TS)(th:THd):TS:=λD σ H=>∀pins,tb pins (λσ' cv dx H'=>∃C,cv=.ref C/\∀a,H' a=none->th D C a dx σ' (upd H' a (Ck a C dx))) D σ H
section
variable{X:Cx}{body:List Stmt}{h₀:ExceptHandler}{hs:List ExceptHandler}{tb:List (Addr×Obj)->(St->XK)->TS}{th:THd}{pos:Pos}
theorem aap(hb:∀pins EX,PSs (X.tr pins EX) body (tb pins EX))(hh:PH X (h₀::hs) th)(hst:X.stack=X.env::X.outer:=by rfl)(hf:X.env.frame=some X.env.locals:=by rfl):PS X (.Try body (h₀::hs) [] [] pos) (adx tb th):=by
 intro pins s σ H D I h;refine wpAny_Try_except (mB (hb pins _ [] s σ H D (I.agZ.wish _) (h pins)) (λf s1 q=>?_) λev s1 q=>?_)
 ·cases f with
  | next =>
   obtain⟨σ',H',I',q⟩:=q;exact wpAny_execs_nil ⟨σ',H',I'.f9.uD,q⟩
  | brk =>
   obtain⟨σ',H',I',q⟩:=q;exact⟨σ',H',I'.f9.uD,q⟩
  | cont =>
   obtain⟨σ',H',I',q⟩:=q;exact⟨σ',H',I'.f9.uD,q⟩
  | ret u =>
   obtain⟨v,σ',H',I',r,q⟩:=q;exact⟨v,σ',H',I'.f9.uD,r,q⟩
 ·obtain⟨mD,σ',H1,s2,I1,a,C,dx,H',rfl,hos,hbr,un,hok,⟨oe,vs,T,oT,ts,ga,gc,gd,gf,g1,gne,gT,gt,g3,ha,hT,na,nT⟩,C',eC,q⟩:=q;cases eC;have I1:Inv X pins σ' H1 s2:=I1.uD;have I2:Inv X pins σ' H' s1:=I1.call' (ch:=[]) hos un hok hbr (λb z=>absurd z (by simp));refine O5 (base:=X.base) (by rw[I.ok.frames,hst]) (by rw[<- hst];exact I2.stack) hf ga gf g1 gT gt g3 gne λh' T' lf=>?_
  have hz:∀z,vs[1]?=some (.ref z)->z=T:=λz hz=>by rw[g1] at hz;cases hz;rfl
  have R4:∀b∈frs (X.env::X.outer),H' b=none:=by rw[<- hst];exact I2.nW
  have hok':HOk X.prog X.w H' h':=ux hok lf ha (λz h=>by rw[hz z h];exact hT) R4;have lo:∀b o,s2.heap.get? b=some o->∀c,s2.heap.objs.size<=c->b≠c:=λb o z c hc=>qS (qE (uA z) hc)
  have far:∀c,s2.heap.objs.size<=c->(c∈X.ex\/X.s₀.heap.objs.size<=c)/\c≠X.env.locals/\(∀x d,X.env.cells.lookup x=some d->d≠c)/\∀p∈X.pn++pins,p.1≠c:=λc hc =>
   ⟨.inr (rX I1.sz hc),Ne.symm (qS (qE I1.lt hc)),λx d hd=>by
    obtain⟨v,ob,ho,_⟩:=I1.cell x d hd;exact lo d ob ho c hc,λp hp=>lo _ _ (I1.pin p hp).1 c hc⟩
  have u3:Un (frs X.stack) [a,T] H' H' s1.heap h':=by
   rw[hst];refine⟨λb o q n hb hx=>?_,λb o q n hb hx=>lf.slot b o hb q,λb o q n hx=>n,λb o q hx=>?_,λ_ _ e=>e,λ_ _ _ e=>e,λb ps e=>⟨#[],by rw[e];simp⟩⟩
   ·exact lf.keep b o (λz=>hx (by simp[z])) hb q λz hz' z2=>hx (by rw[z2,hz z hz'];simp)
   ·by_cases m:b∈frs (X.env::X.outer)
    ·obtain⟨sl,z⟩:=lf.slot b o m q;exact⟨_,z⟩
    ·exact⟨o,lf.keep b o (λz=>hx (by simp[z])) m q λz hz' z2=>hx (by rw[z2,hz z hz'];simp)⟩
  have I3:Inv X pins σ' H' { s1 with heap:=h' }:=I2.call (g':=s1.gens) (d':=s1.drawn) (t':=s1.toks) u3 hok' hbr λb hb=>by
   rcases vT.mp hb with rfl|hb
   ·exact far _ na
   ·rw[uS.mp hb];exact far _ nT
  have new:s2.heap.objs.size<=T':=by
   refine rX ?_ lf.new;exact rX na (Nat.le_of_lt (uA ga))
  have hT':H' T'=none:=I2.hok.fresh lf.new;have nTa:T'≠a:=λz=>gL (uA ga) (by rw[<- z];exact Nat.not_lt.mpr lf.new)
  have I4:Inv X pins σ' (upd H' a (Ck a C dx)) { s1 with heap:=h' }:=I3.track I1 na ha (Xn lf.obj gc gd rfl)
  obtain⟨oT',ts',gT',gt',g3'⟩:=lf.ent;obtain⟨f1,f2,f3,f4⟩:=far T' new;refine hh pins _ σ' _ C a dx D ⟨I4,aV,T',_,_,oT',ts',lf.obj,rfl,?_,gT',gt',(Array.getElem?_eq_some_iff.mp g3').1,by rw[aQ nTa];exact hT',f2,f1,f3,f4⟩ (q a ha);have:1<vs.size:=(Array.getElem?_eq_some_iff.mp g1).1;simp[this]
end
theorem j_{K:W.Frag}{C R:Addr}(G:Jj K C R):W.exmOne K (.ref C) (.ref C)=some true:=by
 have hb:W.subIn K (.ref C) (.type "BaseException")=some true:=G.g.mb;unfold W.exmOne;rw[hb,zS (by rfl)];obtain⟨cd,hc,_⟩:=Option.map_eq_some_iff.mp G.mro;unfold W.kitCls;simp only;rw[zS (by rw[hc,G.ty];rfl)];show W.mroIn K C (.ref C)=_;rw[G.in];simp[List.contains_cons]
theorem uF{K:W.Frag}{C R:Addr}(G:Jj K C R)(hR:(W.clsIn K R).isSome=true)(tR:W.typeIn K (.ref R)=some (.type "type"))(mR:W.mroIn K R (.type "BaseException")=some true):W.exmOne K (.ref C) (.ref R)=some true:=by
 have hb:W.subIn K (.ref R) (.type "BaseException")=some true:=mR;unfold W.exmOne;rw[hb,zS (by rfl)];unfold W.kitCls;simp only;rw[zS (by rw[hR,tR];rfl)];show W.mroIn K C (.ref R)=_;rw[G.in];simp[List.contains_cons]
def kh(K:W.Frag):List V->Hp->VK->Prop:=λxs H Q=>∃x d t b,xs=[x,d]/\cO K H x t/\rH K t d=some b/\Q (.bl b) H
theorem dO{X:Cx}:fW X (.builtin "isinstance") (kh X.K):=call_isinstance
theorem Ld:∀{xs:List V} {us:xE},xs.length=us.length->(∀(j:Nat)(x:V)(u:Value),xs[j]?=some x->us[j]?=some u->RelV x u)->Vals xs us
 | [],[],_,_=>.nil
 | [],_::_,h,_=>nomatch h
 | _::_,[],h,_=>nomatch h
 | x::xs,u::us,h,f=>.cons (f 0 x u rfl rfl) (Ld (Nat.succ.inj h) λj y z e1 e2=>f (j+1) y z (by simpa using e1) (by simpa using e2))
section
variable{X:Cx}{pins:List (Addr×Obj)}{σ:St}{H:Hp}{s:Shared}{h':Heap}{t':Nat}{ch:List Addr}
theorem Inv.Cm(I:Inv X pins σ H s)(hf:∀b∈ch,jX X pins H b)(k:∀b o,b ∉ ch->s.heap.get? b=some o->h'.get? b=some o):Inv X pins σ H { s with heap:=h',toks:=t' }:=by
 have off:∀b u,H b=some u->b ∉ ch:=λb u e z=>by
  rw[(hf b z).1] at e;cases e
 refine I.step (g':=s.gens) (d':=s.drawn) (ch:=ch) (λb hb=>?_) (λb o _ _ hc e _=>k b o hc e) (λb o _ _ hc e _=>⟨o.slots,k b o hc e⟩) (λ_ _ _ _ n=>n)
  (λb o hc e=>⟨o,k b o hc e⟩) (λ_ _ e=>e) (λ_ _ _ e=>e) (λb ps e=>⟨#[],by rw[e];simp⟩) (λm hm=>?_) (λb u e=>?_) I.bare
 ·obtain⟨_,f1,_,f3,f4,f5⟩:=hf b hb;exact⟨f3,f1,f4,f5⟩
 ·obtain⟨o,es,ep,ho,r⟩:=hm;exact⟨o,es,ep,k _ o (λz=>(hf _ z).2.1 rfl) ho,r⟩
 ·refine(I.hok b u e).stay (λc v hc q=>k c v ?_ q) (λ_ q=>q) λ_ _ q=>q
  rcases hc with z|z
  ·rw[z];exact off b u e
  ·exact off c _ z
theorem Inv.uG{a:Addr}{o:HO}(I:Inv X pins σ H s)(hf:∀b∈ch,jX X pins H b)(k:∀b o,b ∉ ch->s.heap.get? b=some o->h'.get? b=some o)(ha:s.heap.objs.size<=a)
  (new:cA X.prog X.w (upd H a o) h' a o):Inv X pins σ (upd H a o) { s with heap:=h',toks:=t' }:=by
 have I1:Inv X pins σ H { s with heap:=h',toks:=t' }:=I.Cm hf k
 have hn:H a=none:=I.hok.fresh ha;refine I.step (g':=s.gens) (d':=s.drawn) (ch:=ch) (λb hb=>?_) (λb u _ _ hc e _=>k b u hc e) (λb u _ _ hc e _=>⟨u.slots,k b u hc e⟩)
  (λb u _ e n=>by rw[aQ (qS (qE (uA e) ha))];exact n)
  (λb u hc e=>⟨u,k b u hc e⟩) (λb xs e=>by rw[aQ (aK e hn)];exact e) (λb u x e=>by rw[aQ (aK e hn)];exact e)
  (λb ps e=>⟨#[],by rw[aQ (aK e hn),e];simp⟩) (λm hm=>?_) (λb u e=>?_) I.bare
 ·obtain⟨_,f1,_,f3,f4,f5⟩:=hf b hb;exact⟨f3,f1,f4,f5⟩
 ·obtain⟨u,es,ep,ho,r⟩:=hm;exact⟨u,es,ep,k _ u (λz=>(hf _ z).2.1 rfl) ho,r⟩
 ·by_cases hb:b=a
  ·subst hb;rw[aV] at e;cases e;exact new
  ·rw[aQ hb] at e;exact(I1.hok b u e).stay (λ_ _ _ q=>q) (λc q=>by rw[aQ (aK q hn)];exact q) λc xs q=>by rw[aQ (aK q hn)];exact q
end
def Ite(K:W.Frag)(a:Addr)(xs:List V):It :=
 ⟨λi H=>SqL K H a xs/\i<xs.length,λi H x H'=>∃T v,x=.ref T/\xs[i]?=some v/\New H H' T (.tup [.int i,v]),λi H=>SqL K H a xs/\xs.length<=i⟩
theorem O6{P:Program}{w:World}{K:W.Frag}{elts:List Expr}{x1}{pos:Pos}(a e it:Addr)(xs:List V)(hei:e≠it) :
  Turn P w K (.Tuple elts x1 pos) (Ite K a xs) [e,it] e (λi h=>(∃old,IsEnum h e it i old)/\h.IsListIter it a i) where
 mem:=by simp
 obj:=λi h st b hb=>by
  obtain⟨⟨old,he⟩,o,hi,hc,hd⟩:=st;rcases vT.mp hb with rfl|hb
  ·exact⟨_,he,λv z=>by
    have z':Data.fields _=Data.cell v:=z;cases z'⟩
  ·rw[uS.mp hb];exact⟨o,hi,λv z=>by rw[hd] at z;cases z⟩
 keep:=λi h h' st k=>by
  obtain⟨⟨old,he⟩,hi⟩:=st;exact⟨⟨old,k e (by simp) _ he⟩,hi.at λo q=>k it (by simp) o q⟩
 item:=by
  intro X hP hw hK hc i pins s σ H E I hf st hg;subst hP hw hK;obtain⟨⟨old,he⟩,hi⟩:=st;obtain⟨hq,hlt⟩:=hg;obtain⟨its,rv,p,hz⟩:=I.list hq;have hx:xs[i]?=some xs[i]:=by simp[hlt]
  generalize xs[i]=x at hx
  obtain⟨u,hu,ru⟩:=rv.get hx;refine wpAny_pyNext_enum_item he hi p.isList (x:=u) (by simpa using hu) hei λh1 ho hi1 hT hsz hk=>?_
  refine⟨_,rfl,wpAny_letOwnedTupleGo_enum ho λh2 he2 hs2=>?_⟩;have neT:s.heap.objs.size≠e:=Nat.ne_of_gt (uA he);have hT2:=(hs2.2 _ neT).trans hT;have k2:∀b o,b ∉ [e,it]->s.heap.get? b=some o->h2.get? b=some o:=λb o hb q=>by
   simp only[List.mem_cons,List.not_mem_nil,or_false,not_or] at hb;exact(hs2.2 b hb.1).trans (hk b o hb.1 hb.2 q)
  have new:cA X.prog X.w (upd H s.heap.objs.size (.tup [.int i,x])) h2 s.heap.objs.size (.tup [.int i,x]) :=
   ⟨by show 2<=sizeLine;decide,[.int i s.toks,u],.cons ⟨_,rfl⟩ (.cons ru .nil),⟨_,hT2,rfl,_,rfl⟩⟩
  refine⟨.ref s.heap.objs.size,_,I.uG (t':=s.toks+1) hf k2 (Nat.le_refl _) new,rfl,⟨_,x,rfl,hx,.mk' (I.hok.fresh (Nat.le_refl _))⟩,⟨⟨u,by simpa using he2⟩,hi1.at λo q=>(hs2.2 it hei.symm).trans q⟩,λb hb=>?_⟩;have hbn:=(hf b hb).1;have hb':b<s.heap.objs.size:=by
   rcases vT.mp hb with rfl|hb
   ·exact uA he
   ·rw[uS.mp hb];obtain⟨o,q,_⟩:=hi;exact uA q
  rw[aQ (qS hb')];exact hbn
 done:=by
  intro X hP hw hK hc i pins s σ H E I hf st hg;subst hP hw hK;obtain⟨⟨old,he⟩,hi⟩:=st;obtain⟨hq,hle⟩:=hg;obtain⟨its,rv,p,hz⟩:=I.list hq;have hl:=rv.length;refine wpAny_pyNext_enum_end (I.ok.hd hc) he hi p.isList (by simp;lia) λh' eb=>⟨rfl,I.Cm (t':=s.toks) (ch:=[e,it]) hf λb o hb q=>eb b o (λz=>hb (by simp[z])) q⟩
 self:=λ_ _ _ _ _ st h=>by
  obtain⟨⟨old,he⟩,_⟩:=st;exact wpAny_pyIter_enum he h
theorem O7:bootBuiltins "enumerate" = some (.type "enumerate"):=by decide +kernel
def R_(K:W.Frag)(ta:TA):TI:=λσ H R=>ta σ H λvs H1=>∃a xs,vs=[.ref a]/\SqL K H1 a xs/\R (Ite K a xs) H1
theorem Cp{X:Cx}{elts:List Expr}{x1}{tpos:Pos}{a:Expr}{ta:TA}{p pos:Pos}(hg:Gl X "enumerate")(hm:X.mg "enumerate" = none)(ha:PA X [a] ta)(hs:starEach [a] X.env=[(false,eval a X.env)]:=by rfl) :
  PI X (.Tuple elts x1 tpos) (.Call (.Name "enumerate" p) [a] [] pos) (R_ X.K ta):=by
 intro pins s σ H R I h;refine Call_ (iy I hg hm O7 (PyProof.Rows.callWith_type1 (thn (ha pos pins s σ H _ I h) λus s1 ⟨vs,H1,I1,r1,q1⟩=>?_) hs rfl));obtain⟨l,xs,e,hq,q⟩:=q1;subst e;obtain⟨u,rfl,r⟩:=vals1 r1;cases r;obtain⟨its,rv,pl,hz⟩:=I1.list hq;refine call_enumerate_list pl.isList λh' he hi hsz hk=>?_
 have I2:Inv X pins σ H1 { s1 with heap:=h' }:=I1.kept (t':=s1.toks) hk
 refine wpAny_pyIter_enum he ?_;refine⟨s1.heap.objs.size+1,[s1.heap.objs.size+1,s1.heap.objs.size],_,Ite X.K l xs,H1,rfl,I2,O6 l _ _ xs (Nat.succ_ne_self _),⟨⟨.none,he⟩,hi⟩,λb hb=>?_,q⟩;have hb':s1.heap.objs.size<=b:=by
  rcases vT.mp hb with rfl|hb
  ·exact Nat.le_succ _
  ·rw[uS.mp hb];exact uC _
 exact I1.Io hb' (I1.hok.fresh hb')
theorem Sg{K:PySem.W.Frag}{a:Addr}{xs:List V}{g:TG}{tb:TS}{D:Ends}{σ:St}{H:Hp}(Pv:Nat->St->Hp->Prop)(h0:Pv 0 σ H)(hl:∀i σ H,i<=xs.length->Pv i σ H->SqL K H a xs)
  (hs:∀i x T σ H H',xs[i]?=some x->Pv i σ H->New H H' T (.tup [.int i,x])->g (.ref T) σ H' λσ2 H2=>tb { D with nx:=Pv (i+1),ct:=Pv (i+1),bk:=D.nx } σ2 H2) (hd:∀σ H,Pv xs.length σ H->D.nx σ H) :
  ∃W:Nat->Nat->St->Hp->Prop,(∃m,W 0 m σ H)/\∀i m σ H,W i m σ H ->
   ((Ite K a xs).stop i H/\D.nx σ H)\/((Ite K a xs).go i H/\∃N:St->Hp->Prop,(∀σ' H',N σ' H'->∃m',m'<m/\W (i+1) m' σ' H')/\∀x H',(Ite K a xs).yld i H x H'->g x σ H' λσ2 H2=>tb { D with nx:=N,ct:=N,bk:=D.nx } σ2 H2):=by
 refine⟨λi m σ H=>m=xs.length-i/\i<=xs.length/\Pv i σ H,⟨xs.length,by simp,Nat.zero_le _,h0⟩,?_⟩;rintro i m σ H ⟨rfl,hi,p⟩;have q:=hl i σ H hi p;by_cases hlt:i<xs.length
 ·refine .inr ⟨⟨q,hlt⟩,Pv (i+1),λσ' H' p'=>⟨xs.length-(i+1),by lia,rfl,hlt,p'⟩,λx H' y=>?_⟩;obtain⟨T,v,rfl,hv,n⟩:=y;exact hs i v T σ H H' hv p n
 ·have e:i=xs.length:=by lia
  subst e;exact .inl ⟨⟨q,uC _⟩,hd σ H p⟩
theorem boot_reversed:bootBuiltins "reversed" = some (.type "reversed"):=by decide +kernel
theorem Jp:typeLookup (.type "list_reverseiterator") (Str.ofString "__len__")=pure none:=by rw[typeLookup_type,builtinLookup_eq_fast];kernel_rfl
theorem Sh:typeLookup (.type "list_reverseiterator") (Str.ofString "__length_hint__")=pure (some (.builtin "list_reverseiterator.__length_hint__")):=by rw[typeLookup_type,builtinLookup_eq_fast];kernel_rfl
theorem Sq{prog:Program}{w:World}{A:Around}{E:xB}{s:Shared}{r:Addr}{Q:Bool->Shared->Prop}(hT:s.TypeIs (.ref r) "list_reverseiterator")(h:Q false s) :
  wpAny (model prog w) A (Builtin.List.listLengthHint (.ref r)) Q E s:=by
 unfold Builtin.List.listLengthHint;refine zI (wpAny_specialOf hT Jp ?_);show wpAny _ _ (specialOf (Value.ref r) (Str.ofString "__length_hint__") >>= _) _ _ _;refine zI (wpAny_specialOf hT Sh ?_)
 generalize hid:("list_reverseiterator.__length_hint__" : String)=id0
 wp_delta
 rw[show splitId id0=some ("list_reverseiterator","__length_hint__") from by subst hid;decide +kernel];subst hid;refine zI (wpAny_isInstance (T := "list_reverseiterator") (b:=true) hT (by rw[isSubtype_type];kernel_rfl) ?_);refine wpAny_ite_split (λhab=>gL hab (by decide)) (λ_=>?_);refine wpAny_ite_split (λ_=>?_) (λhab=>gL (by decide +kernel) hab);refine wpAny_ite_split (λhab=>gL hab (by decide +kernel)) (λ_=>?_);exact rV h
section
variable{prog:Program}{w:World}{A:Around}{E:xB}{s:Shared}{I l S:Addr}{items:xI}
theorem Jq{R:Result->Shared->Prop}{c₀:Nat}{res:Value}(hh:A.handled=none)(hI:s.heap.IsRevIter I l ((items.size:Int)-1))(hl:s.heap.IsList l items)(hne:l≠I)(hSI:S≠I)(hSl:S≠l)
  (hS:s.heap.get? S=some { cls:=.type "list", data:=.seq #[] c₀ }) (hn:items.size<=sizeLine)
  (hR:∀h' tk acc' c',(∀b o,b≠S->b≠I->s.heap.get? b=some o->h'.get? b=some o)->h'.get? S=some { cls:=.type "list", dict:=none,data:=.seq acc' c',slots:=#[] }->PySem.ItemsOf (λi v=>items[items.size-1-i]?=some v) acc' items.size ->
   R (.ok (.ret res)) { s with heap:=h',toks:=tk }) :
  wpAny (model prog w) A.in1 (Builtin.List.listExtendWith (.ref S) (.ref I) res)
   (λfin s'=>match fin with|.done f=>R (.ok f) s'|.again c'=>c'.quiet=true/\codeAny (model prog w) A c' R s') (λe s'=>R (.error e) s') s:=by
 have W:=Walks.listRev (prog:=prog) (w:=w) (A:=A.in1) hh I l hne items;have hSf:S ∉ [I,l]:=by simp[hSI,hSl]
 have st:(0:Nat)<=items.size/\s.heap.IsRevIter I l ((items.size:Int)-1-((0:Nat):Int))/\s.heap.IsList l items:=⟨Nat.zero_le _,by simpa using hI,hl⟩;have fin:codeAny (model prog w) A (.builtin "list.extend.loop" ⟨[.ref S,.ref I,res],[]⟩) R s:=by
  refine codeAny_extend_loopS W.toS hn S hSf res items.size 0 _ #[] c₀ rfl (Nat.zero_le _) st hS (PySem.ItemsOf.nil _) λs' acc' c' hm hS' hacc=>?_
  rw[Moved.eq_with hm];exact hR s'.heap s'.toks acc' c' (λb o h1 h2 q=>hm.heap b o (by simp[h1,h2]) q) hS' hacc
 unfold Builtin.List.listExtendWith;refine zI (wpAny_typeOf (T := "list_reverseiterator") hI.typeIs ?_);have h1:Builtin.List.listSameRef (.ref S) (.ref I)=false:=by simp[Builtin.List.listSameRef,hSI]
 have h2:(Value.type "list_reverseiterator" == Value.type "list")=false:=by decide
 have h3:(Value.type "list_reverseiterator" == Value.type "tuple")=false:=by decide
 simp only[h1,h2,h3,Bool.or_false,Bool.false_eq_true,if_false];refine zI (wpAny_pyIter_revIter hI ?_);refine zI (nX (Sq hI.typeIs ?_));refine wpAny_ite_split (λhab=>gL hab (by first|decide|decide +kernel)) (λ_=>?_);exact rV ⟨plainId_quiet PySem.F.plain_extend_loop _,fin⟩
theorem Ss{R:Result->Shared->Prop}(hh:A.handled=none)(hI:s.heap.IsRevIter I l ((items.size:Int)-1))(hl:s.heap.IsList l items)(hne:l≠I)(hSI:S≠I)(hSl:S≠l)
  (hS:s.heap.get? S=some { cls:=.type "list", data:=.seq #[] }) (hn:items.size<=sizeLine)
  (hR:∀h' tk acc' c',(∀b o,b≠S->b≠I->s.heap.get? b=some o->h'.get? b=some o)->h'.get? S=some { cls:=.type "list", dict:=none,data:=.seq acc' c',slots:=#[] }->PySem.ItemsOf (λi v=>items[items.size-1-i]?=some v) acc' items.size ->
   R (.ok (.ret .none)) { s with heap:=h',toks:=tk }) :
  wpAny (model prog w) A.in1 (Builtin.«list.__init__» ⟨[.ref S,.ref I],[]⟩)
   (λfin s'=>match fin with|.done f=>R (.ok f) s'|.again c'=>c'.quiet=true/\codeAny (model prog w) A c' R s') (λe s'=>R (.error e) s') s:=by
 show wpAny _ _ (Builtin.List.listItems (.ref S) >>= λold=>Builtin.List.listUpdate (.ref S) (λ_=>#[]) >>= λ_=>letGo old.toList.reverse >>= λ_=>Builtin.List.listExtendWith (.ref S) (.ref I) .none) _ _ s;refine zI ?_;unfold Builtin.List.listItems;refine zI (wpAny_seqItems hS rfl (rV (zI ?_)));show wpAny _ _ (updateSeq S (λ_=>#[])) _ _ _;refine wpAny_updateSeq hS rfl (zI (wpAny_letGo ?_));have hS2:=Heap.get?_update_self (Obj.mapSeq (λ_=>(#[]:xI))) hS rfl;have oth:∀b o,b≠S->s.heap.get? b=some o->(s.heap.update S (Obj.mapSeq (λ_=>(#[]:xI)))).get? b=some o:=λb o hb q=>by
  rw[nS _ _ (Ne.symm hb)];exact q
 exact Jq (c₀:=_) hh (hI.at λo q=>oth I o (Ne.symm hSI) q) (hl.at λo q=>oth l o (Ne.symm hSl) q) hne hSI hSl hS2 hn λh' tk acc' c' hk hS' hacc=>hR h' tk acc' c' (λb o h1 h2 q=>hk b o h1 h2 (oth b o h1 q)) hS' hacc
theorem Sv{Q:xB}(hh:A.handled=none)(hI:s.heap.IsRevIter I l ((items.size:Int)-1))(hl:s.heap.IsList l items)(hne:l≠I)(hn:items.size<=sizeLine)
  (hQ:∀h' tk acc' c',(∀b o,b≠I->s.heap.get? b=some o->h'.get? b=some o)->h'.get? s.heap.objs.size=some { cls:=.type "list", dict:=none,data:=.seq acc' c',slots:=#[] } ->
   PySem.ItemsOf (λi v=>items[items.size-1-i]?=some v) acc' items.size->Q (.ref s.heap.objs.size) { s with heap:=h',toks:=tk }) :
  wpAny (model prog w) A (call (.type "list") [.ref I]) Q E s:=by
 have hS:(s.heap.push { cls:=.type "list", data:=.seq #[] }).get? s.heap.objs.size=some { cls:=.type "list", data:=.seq #[] }:=oC _ rfl;have up:∀b o,s.heap.get? b=some o->(s.heap.push { cls:=.type "list", data:=.seq #[] }).get? b=some o:=λb o q=>uB _ q
 have hIlt:I<s.heap.objs.size:=by
  obtain⟨o,q,_⟩:=hI;exact uA q
 have ag1:l<s.heap.objs.size:=by
  obtain⟨o,q,_⟩:=hl;exact uA q
 refine callType_codes PySem.F.called_list (PySem.F.typeCall_list_1 _) PySem.F.entry_list_init
  (Q₁:=λv z=>v=.ref s.heap.objs.size/\z={ s with heap:=s.heap.push { cls:=.type "list", data:=.seq #[] } }) (code_list_new _ ⟨rfl,rfl⟩) ?_
 rintro _ _ ⟨rfl,rfl⟩;refine⟨⟨_,hS,rfl⟩,PySem.F.args_list_init_2 _ _,?_⟩;refine Ss (A:=A.in1) (s:={ s with heap:=s.heap.push { cls:=.type "list", data:=.seq #[] } }) hh (hI.at λo q=>up I o q) (hl.at λo q=>up l o q) hne (Nat.ne_of_gt hIlt) (Nat.ne_of_gt ag1) hS hn λh' tk acc' c' hk hS' hacc=>?_
 exact⟨rfl,hQ h' tk acc' c' (λb o hb q=>hk b o (qS (uA q)) hb (up b o q)) hS' hacc⟩
end
def Y9(K:W.Frag)(ta:TA):TE:=λσ H Q=>ta σ H λvs H1=>∃a xs,vs=[.ref a]/\SqL K H1 a xs/\∀l H',New H1 H' l (.lst xs.reverse)->Q (.ref l) H'
theorem jH{X:Cx}{e:Expr}{ta:TA}{p1 p2 pos1 pos2:Pos}(hc:X.calm=true)(gl:Gl X "list")(ml:X.mg "list" = none)(gr:Gl X "reversed")(mr:X.mg "reversed" = none)(ha:PA X [e] ta)
  (h1:starEach [.Call (.Name "reversed" p2) [e] [] pos2] X.env=[(false,eval (.Call (.Name "reversed" p2) [e] [] pos2) X.env)]:=by rfl) (h2:starEach [e] X.env=[(false,eval e X.env)]:=by rfl) :
  PE X (.Call (.Name "list" p1) [.Call (.Name "reversed" p2) [e] [] pos2] [] pos1) (Y9 X.K ta):=by
 intro pins s σ H Q I h;refine wpAny_Call_Name_kw (iy I gl ml boot_list (PyProof.Rows.callWith_type1 ?_ h1 rfl));rw[h1];refine Calls.spliced_cons ?_;refine Call_ (iy I gr mr boot_reversed (PyProof.Rows.callWith_type1 (thn (ha pos2 pins s σ H _ I h) λus s1 ⟨vs,H1,I1,r1,q1⟩=>?_) h2 rfl));obtain⟨a,xs,rfl,hq,q⟩:=q1;obtain⟨u,rfl,rx⟩:=vals1 r1;cases rx;obtain⟨its,rv,pl,hz⟩:=I1.list hq;have hlen:=rv.length;refine call_reversed_list pl.isList (Calls.spliced_nil ?_);have hlt:a<s1.heap.objs.size:=by
  obtain⟨o,q,_⟩:=pl.isList;exact uA q
 have hrev:(s1.heap.push (revObj a ((its.toArray.size:Int)-1))).IsRevIter s1.heap.objs.size a ((its.toArray.size:Int)-1):=⟨_,oC _ rfl,rfl,rfl⟩;refine Sv (s:={ s1 with heap:=s1.heap.push (revObj a ((its.toArray.size:Int)-1)) }) (I1.ok.hd hc) hrev (pl.isList.at λo z=>uB _ z) (qS hlt) (by rw[nN,<- hlen];exact hz) λh' tk acc c hk hD hI=>?_
 have hk':∀b o,s1.heap.get? b=some o->h'.get? b=some o:=λb o z=>hk b o (qS (uA z)) (uB _ z)
 have hsz:(s1.heap.push (revObj a ((its.toArray.size:Int)-1))).objs.size=s1.heap.objs.size+1:=Heap.size_push ..;have hge:s1.heap.objs.size<=(s1.heap.push (revObj a ((its.toArray.size:Int)-1))).objs.size:=by rw[hsz];exact Nat.le_succ _
 refine⟨.ref (s1.heap.push (revObj a ((its.toArray.size:Int)-1))).objs.size,_,I1.laid (t':=tk) (o:=.lst xs.reverse) hk' hge ?_,rfl,q _ _ (.mk' (I1.hok.fresh hge))⟩;refine⟨by rw[List.length_reverse];exact hz,acc.toList,c,Ld (by
  have e:=hI.1;have e2:acc.toList.length=acc.size:=Array.length_toList;have e3:its.toArray.size=its.length:=nN ..;have e4:xs.reverse.length=xs.length:=List.length_reverse
  lia) λj x u e1 e2=>?_,by simpa using hD⟩
 have e3:=hI.2 j u (by rw[<- Array.getElem?_toList];exact e2);have hj:j<xs.length:=by
  have:=(qA.mp e1).1
  rwa [List.length_reverse] at this
 rw[List.getElem?_reverse hj] at e1;obtain⟨u',e4,r4⟩:=rv.get e1;have e5:its[xs.length-1-j]?=some u:=by
  rw[nN,<- hlen] at e3;simpa using e3
 rw[e5] at e4;cases e4;exact r4
section
variable{X:Cx}
def Eo:V->V->V->Hp->(Hp->Prop)->Prop:=λo i v H Q=>∃p xs k j,o=.ref p/\i=.int k/\H p=some (.lst xs)/\ixN xs.length k=some j/\∀H',Off p H H'->H' p=some (.lst (xs.set j v))->Q H'
theorem gY:ZM X Eo:=by
 intro pins s σ H o i v ov iv u Q I ro ri rv h;obtain⟨p,xs,k,j,e1,e2,hp,hj,q⟩:=h;exact set_list pins s σ H o i v ov iv u Q I ro ri rv ⟨p,xs,k,j,e1,e2,hp,hj,q _ Off.upd aV⟩
def aaq(K:W.Frag):V->Option Int->Option Int->Hp->VK->Prop:=λx lo hi H Q=>∃a xs,x=.ref a/\SqL K H a xs/\∀p H',New H H' p (.lst (xV xs lo hi))->Q (.ref p) H'
theorem Sw:SlR X (aaq X.K):=by
 intro pins s σ H x v vl vu lo hi sl Q I rx hs pl pu h;obtain⟨a,xs,e,hx,q⟩:=h;exact W2 pins s σ H x v vl vu lo hi sl Q I rx hs pl pu ⟨a,xs,e,hx,λp hp=>q p _ (.mk' hp)⟩
def Le(K:W.Frag):List V->Hp->VK->Prop:=λxs H Q=>∃p ys,xs=[.ref p]/\(SqL K H p ys\/SqT K H p ys)/\∀l H',New H H' l (.lst ys)->Q (.ref l) H'
theorem dB:fW X (.type "list") (Le X.K):=by
 intro pins s σ H xs us Q I r h;obtain⟨p,ys,e,hq,q⟩:=h;exact BZ pins s σ H xs us Q I r ⟨p,ys,e,hq,λl hl=>q l _ (.mk' hl)⟩
end
section
variable{σ:St}{H:Hp}{Q:VK}{v x y:V}{i j:Int}{K:W.Frag}{t ta tb tc:TE}{tr:TA}{u:TS}{c d:TT}
theorem wv0{r:St}(h:Q v H):dM 0 (some v::r) H Q:=⟨v,rfl,h⟩
theorem wn0{o:Option V}{r:St}{R:St->Hp->Prop}(h:R (some v::r) H):bw 0 v (o::r) H R:=h
theorem wv1{o0:Option V}{r:St}(h:Q v H):dM 1 (o0::some v::r) H Q:=⟨v,rfl,h⟩
theorem wn1{o0:Option V}{o:Option V}{r:St}{R:St->Hp->Prop}(h:R (o0::some v::r) H):bw 1 v (o0::o::r) H R:=h
theorem wv2{o0 o1:Option V}{r:St}(h:Q v H):dM 2 (o0::o1::some v::r) H Q:=⟨v,rfl,h⟩
theorem wn2{o0 o1:Option V}{o:Option V}{r:St}{R:St->Hp->Prop}(h:R (o0::o1::some v::r) H):bw 2 v (o0::o1::o::r) H R:=h
theorem wv3{o0 o1 o2:Option V}{r:St}(h:Q v H):dM 3 (o0::o1::o2::some v::r) H Q:=⟨v,rfl,h⟩
theorem wn3{o0 o1 o2:Option V}{o:Option V}{r:St}{R:St->Hp->Prop}(h:R (o0::o1::o2::some v::r) H):bw 3 v (o0::o1::o2::o::r) H R:=h
theorem wv4{o0 o1 o2 o3:Option V}{r:St}(h:Q v H):dM 4 (o0::o1::o2::o3::some v::r) H Q:=⟨v,rfl,h⟩
theorem wn4{o0 o1 o2 o3:Option V}{o:Option V}{r:St}{R:St->Hp->Prop}(h:R (o0::o1::o2::o3::some v::r) H):bw 4 v (o0::o1::o2::o3::o::r) H R:=h
theorem wv5{o0 o1 o2 o3 o4:Option V}{r:St}(h:Q v H):dM 5 (o0::o1::o2::o3::o4::some v::r) H Q:=⟨v,rfl,h⟩
theorem wn5{o0 o1 o2 o3 o4:Option V}{o:Option V}{r:St}{R:St->Hp->Prop}(h:R (o0::o1::o2::o3::o4::some v::r) H):bw 5 v (o0::o1::o2::o3::o4::o::r) H R:=h
theorem wv6{o0 o1 o2 o3 o4 o5:Option V}{r:St}(h:Q v H):dM 6 (o0::o1::o2::o3::o4::o5::some v::r) H Q:=⟨v,rfl,h⟩
theorem wn6{o0 o1 o2 o3 o4 o5:Option V}{o:Option V}{r:St}{R:St->Hp->Prop}(h:R (o0::o1::o2::o3::o4::o5::some v::r) H):bw 6 v (o0::o1::o2::o3::o4::o5::o::r) H R:=h
theorem wv7{o0 o1 o2 o3 o4 o5 o6:Option V}{r:St}(h:Q v H):dM 7 (o0::o1::o2::o3::o4::o5::o6::some v::r) H Q:=⟨v,rfl,h⟩
theorem wn7{o0 o1 o2 o3 o4 o5 o6:Option V}{o:Option V}{r:St}{R:St->Hp->Prop}(h:R (o0::o1::o2::o3::o4::o5::o6::some v::r) H):bw 7 v (o0::o1::o2::o3::o4::o5::o6::o::r) H R:=h
theorem wv8{o0 o1 o2 o3 o4 o5 o6 o7:Option V}{r:St}(h:Q v H):dM 8 (o0::o1::o2::o3::o4::o5::o6::o7::some v::r) H Q:=⟨v,rfl,h⟩
theorem wn8{o0 o1 o2 o3 o4 o5 o6 o7:Option V}{o:Option V}{r:St}{R:St->Hp->Prop}(h:R (o0::o1::o2::o3::o4::o5::o6::o7::some v::r) H):bw 8 v (o0::o1::o2::o3::o4::o5::o6::o7::o::r) H R:=h
theorem wv9{o0 o1 o2 o3 o4 o5 o6 o7 o8:Option V}{r:St}(h:Q v H):dM 9 (o0::o1::o2::o3::o4::o5::o6::o7::o8::some v::r) H Q:=⟨v,rfl,h⟩
theorem wn9{o0 o1 o2 o3 o4 o5 o6 o7 o8:Option V}{o:Option V}{r:St}{R:St->Hp->Prop}(h:R (o0::o1::o2::o3::o4::o5::o6::o7::o8::some v::r) H):bw 9 v (o0::o1::o2::o3::o4::o5::o6::o7::o8::o::r) H R:=h
theorem ag2{o0 o1 o2 o3 o4 o5 o6 o7 o8 o9:Option V}{r:St}(h:Q v H):dM 10 (o0::o1::o2::o3::o4::o5::o6::o7::o8::o9::some v::r) H Q:=⟨v,rfl,h⟩
theorem ag3{o0 o1 o2 o3 o4 o5 o6 o7 o8 o9:Option V}{o:Option V}{r:St}{R:St->Hp->Prop}(h:R (o0::o1::o2::o3::o4::o5::o6::o7::o8::o9::some v::r) H):bw 10 v (o0::o1::o2::o3::o4::o5::o6::o7::o8::o9::o::r) H R:=h
theorem ag4{o0 o1 o2 o3 o4 o5 o6 o7 o8 o9 o10:Option V}{r:St}(h:Q v H):dM 11 (o0::o1::o2::o3::o4::o5::o6::o7::o8::o9::o10::some v::r) H Q:=⟨v,rfl,h⟩
theorem ag5{o0 o1 o2 o3 o4 o5 o6 o7 o8 o9 o10:Option V}{o:Option V}{r:St}{R:St->Hp->Prop}(h:R (o0::o1::o2::o3::o4::o5::o6::o7::o8::o9::o10::some v::r) H):bw 11 v (o0::o1::o2::o3::o4::o5::o6::o7::o8::o9::o10::o::r) H R:=h
theorem ag6{o0 o1 o2 o3 o4 o5 o6 o7 o8 o9 o10 o11:Option V}{r:St}(h:Q v H):dM 12 (o0::o1::o2::o3::o4::o5::o6::o7::o8::o9::o10::o11::some v::r) H Q:=⟨v,rfl,h⟩
theorem ag7{o0 o1 o2 o3 o4 o5 o6 o7 o8 o9 o10 o11:Option V}{o:Option V}{r:St}{R:St->Hp->Prop}(h:R (o0::o1::o2::o3::o4::o5::o6::o7::o8::o9::o10::o11::some v::r) H):bw 12 v (o0::o1::o2::o3::o4::o5::o6::o7::o8::o9::o10::o11::o::r) H R:=h
theorem ag8{o0 o1 o2 o3 o4 o5 o6 o7 o8 o9 o10 o11 o12:Option V}{r:St}(h:Q v H):dM 13 (o0::o1::o2::o3::o4::o5::o6::o7::o8::o9::o10::o11::o12::some v::r) H Q:=⟨v,rfl,h⟩
theorem ag9{o0 o1 o2 o3 o4 o5 o6 o7 o8 o9 o10 o11 o12:Option V}{o:Option V}{r:St}{R:St->Hp->Prop}(h:R (o0::o1::o2::o3::o4::o5::o6::o7::o8::o9::o10::o11::o12::some v::r) H):bw 13 v (o0::o1::o2::o3::o4::o5::o6::o7::o8::o9::o10::o11::o12::o::r) H R:=h
theorem w_c(h:Q v H):tC v σ H Q:=h
theorem aha{f:Int->Int->V}(h:Q (f i j) H):rI0 f (.int i) (.int j) H Q:=⟨i,j,rfl,rfl,h⟩
theorem w_mod{f:Int->Int->V}(hj:0<j)(h:Q (f i j) H):rI (λ_ j=>0<j) f (.int i) (.int j) H Q:=⟨i,j,rfl,rfl,hj,h⟩
theorem w_div{f:Int->Int->V}(h0:0<j)(h1:j<1073741824)(h:Q (f i j) H):rI ZW f (.int i) (.int j) H Q:=⟨i,j,rfl,rfl,⟨h0,h1⟩,h⟩
theorem w_pow{f:Int->Int->V}(h0:0<=j)(h1:j<=1000000)(h2:i.natAbs<2 ^ 64)(h:Q (f i j) H):rI ZX f (.int i) (.int j) H Q:=⟨i,j,rfl,rfl,⟨h0,h1,h2⟩,h⟩
theorem aar{f:Int->Int->V}(h0:-(2 ^ 64)<i)(h1:i<2 ^ 64)(h:Q (f i j) H):rI Ol f (.int i) (.int j) H Q:=⟨i,j,rfl,rfl,.inl ⟨h0,h1⟩,h⟩
theorem aas{f:Int->Int->V}(h0:-(2 ^ 64)<j)(h1:j<2 ^ 64)(h:Q (f i j) H):rI Ol f (.int i) (.int j) H Q:=⟨i,j,rfl,rfl,.inr ⟨h0,h1⟩,h⟩
theorem w_u{g:Int->V}(h:Q (g i) H):rU g (.int i) H Q:=⟨i,rfl,h⟩
theorem ahb{r:V->Hp->VK->Prop}(h:ta σ H λx H1=>r x H1 Q):tUn r ta σ H Q:=h
theorem ady(h:Q (.bl (decide (i=j))) H):rEq (.int i) (.int j) H Q:=⟨rfl,by rw[show decide (V.int i=V.int j)=decide (i=j) from decide_eq_decide.mpr ⟨λe=>by cases e;rfl,λe=>by rw[e]⟩];exact h⟩
theorem adz(h:Q (.bl (!decide (i=j))) H):rNe (.int i) (.int j) H Q:=⟨rfl,by rw[show decide (V.int i=V.int j)=decide (i=j) from decide_eq_decide.mpr ⟨λe=>by cases e;rfl,λe=>by rw[e]⟩];exact h⟩
theorem adA{a b:Str}(h:Q (.bl (decide (a=b))) H):rEq (.str a) (.str b) H Q:=⟨rfl,by rw[show decide (V.str a=V.str b)=decide (a=b) from decide_eq_decide.mpr ⟨λe=>by cases e;rfl,λe=>by rw[e]⟩];exact h⟩
theorem adB{a b:Str}(h:Q (.bl (!decide (a=b))) H):rNe (.str a) (.str b) H Q:=⟨rfl,by rw[show decide (V.str a=V.str b)=decide (a=b) from decide_eq_decide.mpr ⟨λe=>by cases e;rfl,λe=>by rw[e]⟩];exact h⟩
theorem ahc{k:Bool}{R:Bool->Prop}(h:R k):∃c,V.bl k=.bl c/\R c:=⟨k,rfl,h⟩
theorem w_not{R:Bool->Hp->Prop}(h:c σ H λb H1=>R (!b) H1):ZF c σ H R:=h
theorem w_and{R:Bool->Hp->Prop}(h:c σ H λb H1=>if b=true then d σ H1 R else R false H1):ZD c d σ H R:=h
theorem w_or{R:Bool->Hp->Prop}(h:c σ H λb H1=>if b=true then R true H1 else d σ H1 R):tOr c d σ H R:=h
theorem aat(h:ta σ H λx H1=>∃c,x=.bl c/\Q (.bl (!c)) H1):Rg ta σ H Q:=h
theorem aau(h:ta σ H λx H1=>∃c,x=.bl c/\if c=true then tb σ H1 Q else Q (.bl false) H1):Rf ta tb σ H Q:=h
theorem adC(h:ta σ H λx H1=>∃c,x=.bl c/\if c=true then Q (.bl true) H1 else tb σ H1 Q):ZG ta tb σ H Q:=h
theorem adD(h:c σ H λb H1=>if b=true then ta σ H1 Q else tb σ H1 Q):tIf c ta tb σ H Q:=h
theorem Xo{r r':R2}(h:ta σ H λx H1=>tb σ H1 λy H2=>r x y H2 λz H3=>∃k,z=.bl k/\if k=true then tc σ H3 λw H4=>r' y w H4 Q else Q (.bl false) H3):BL r r' ta tb tc σ H Q:=h
theorem ahd{nx bk ct:St->Hp->Prop}{rt:VK}(h:rt v H):(Ends.mk nx rt bk ct).rt v H:=h
theorem w_call{sp:Sp}{E:XK}(h:tr σ H λvs H1=>sp vs H1 Q E):KQ sp [] E tr σ H Q:=by
 have e:(λvs H1=>sp (vs++[]) H1 Q E)=λvs H1=>sp vs H1 Q E:=by
  funext vs H1
  rw[mI]
 show tr σ H λvs H1=>sp (vs++[]) H1 Q E
 rw[e];exact h
theorem ahe{T:String}{r:V->List V->Hp->VK->Prop}{to:TE}(h:to σ H λx H1=>tyV K T x H1/\tr σ H1 λxs H2=>r x xs H2 Q):tBM K T r to tr σ H Q:=h
theorem w_sub{to ti:TE}{ts:Rm}{R:St->Hp->Prop}(h:to σ H λo H1=>ti σ H1 λi H2=>ts o i v H2 λH3=>R σ H3):ZP to ti ts v σ H R:=h
theorem Xp{r:V->Option Int->Option Int->Hp->VK->Prop}{tl th:TO}(h:t σ H λx H1=>tl σ H1 λl H2=>th σ H2 λu H3=>r x l u H3 Q):tSl r t tl th σ H Q:=h
theorem Sx{R:Option Int->Hp->Prop}(h:R none H):BP σ H R:=h
theorem aav{R:Option Int->Hp->Prop}(h:t σ H λx H1=>∃i,x=.int i/\R (some i) H1):RJ t σ H R:=h
theorem adE{R:Int->Prop}(h:R i):∃k,V.int i=.int k/\R k:=⟨i,rfl,h⟩
theorem Sy{p:Addr}{xs:List V}(h:SqL K H p xs)(e:atI xs i=some v)(k:Q v H):RL K (.ref p) (.int i) H Q:=⟨p,xs,i,v,rfl,rfl,h,e,k⟩
theorem adF{p:Addr}{xs:List V}(h:SqT K H p xs)(e:atI xs i=some v)(k:Q v H):W0 K (.ref p) (.int i) H Q:=⟨p,xs,i,v,rfl,rfl,h,e,k⟩
def Jr(K:W.Frag):List V->Hp->VK->Prop:=λxs H Q=>∃x n,xs=[x]/\ac_ K x H n/\Q (.int n) H
theorem aaw{p:Addr}{xs:List V}(h:SqL K H p xs)(k:Q (.int xs.length) H):Jr K [.ref p] H Q:=⟨_,xs.length,rfl,.inl ⟨xs,h,rfl⟩,k⟩
theorem aax{p:Addr}{xs:List V}(h:SqT K H p xs)(k:Q (.int xs.length) H):Jr K [.ref p] H Q:=⟨_,xs.length,rfl,.inr ⟨xs,h,rfl⟩,k⟩
theorem aay{z:Str}(h:z.length<=sizeLine)(k:Q (.int z.length) H):Jr K [.str z] H Q:=⟨_,z.length,rfl,⟨h,rfl⟩,k⟩
def SJ:List V->Hp->VK->Prop:=λxs H Q=>∃i j,xs=[.int i,.int j]/\Q (.int (if j > i then j else i)) H
def SM:List V->Hp->VK->Prop:=λxs H Q=>∃i j,xs=[.int i,.int j]/\Q (.int (if j<i then j else i)) H
theorem adG(h:Q (.int (max i j)) H):SJ [.int i,.int j] H Q:=⟨i,j,rfl,by
 rw[show (if j > i then j else i)=max i j by rw[Int.max_def];split <;> split <;> lia];exact h⟩
theorem adH(h:Q (.int (min i j)) H):SM [.int i,.int j] H Q:=⟨i,j,rfl,by
 rw[show (if j<i then j else i)=min i j by rw[Int.min_def];split <;> split <;> lia];exact h⟩
def SN:List V->Hp->VK->Prop:=λxs H Q=>(∃i,xs=[.int i]/\Q (.int i) H)\/∃k,xs=[.bl k]/\Q (.int (if k then 1 else 0)) H
theorem aaz{k:Bool}(h:Q (.int (if k then 1 else 0)) H):SN [.bl k] H Q:=.inr ⟨k,rfl,h⟩
theorem w_is{x d:V}{tv:Value}{b:Bool}(ty:cO K H x tv)(e:rH K tv d=some b)(h:Q (.bl b) H):kh K [x,d] H Q:=⟨x,d,tv,b,rfl,ty,e,h⟩
def Xq:R2:=λx y H Q=>y=.non/\Q (.bl (decide (x=.non))) H
def SQ:R2:=λx y H Q=>y=.non/\Q (.bl (!decide (x=.non))) H
end
section
variable{X:Cx}
theorem bN:fW X (.builtin "len") (Jr X.K):=Rv
theorem gZ(hc:X.calm=true):fW X (.builtin "max") SJ:=Om hc
theorem qw(hc:X.calm=true):fW X (.builtin "min") SM:=Oo hc
theorem qx:fW X (.type "int") SN:=Oq
theorem sV:OpR X (compareOp .Is) Xq:=Z1
theorem kj:OpR X (compareOp .IsNot) SQ:=WK
end
section
variable{A B p:Prop}[Decidable p]{b:Bool}
theorem d7(h1:p->A)(h2:¬ p->B):if decide p=true then A else B:=by
 by_cases h:p
 ·rw[zS (gX h)];exact h1 h
 ·rw[if_neg (by simpa using h)];exact h2 h
theorem i_b(h1:b=true->A)(h2:b=false->B):if b=true then A else B:=by
 cases b with
 | true=>exact adg (h1 rfl)
 | false=>exact adf (h2 rfl)
theorem i_T(h:b=true)(k:A):if b=true then A else B:=by rw[zS h];exact k
theorem i_F(h:b=false)(k:B):if b=true then A else B:=by rw[yB (by rw[h];exact vF)];exact k
theorem Y_(h:p)(k:A):if decide p=true then A else B:=by rw[zS (gX h)];exact k
theorem Za(h:¬ p)(k:B):if decide p=true then A else B:=by rw[if_neg (by simpa using h)];exact k
theorem SX(h:p)(k:B):if (!decide p)=true then A else B:=by rw[if_neg (by simpa using h)];exact k
theorem S5(h:¬ p)(k:A):if (!decide p)=true then A else B:=by rw[if_pos (by simpa using h)];exact k
end
section
variable{H H':Hp}{q a:Addr}{ys:List V}
def aD(H:Hp)(ys:List V)(rows:List (List V)):Prop:=ys.length=rows.length/\∀(j:Nat)(r:List V),rows[j]?=some r->∃q,ys[j]?=some (.ref q)/\H q=some (.tup r)
theorem aD.same{rows:List (List V)}(s:Same H H')(h:aD H ys rows):aD H' ys rows:=⟨h.1,λj r e=>let ⟨q,a,b⟩:=h.2 j r e;⟨q,a,s _ _ b⟩⟩
theorem aD.nil:aD H [] []:=⟨rfl,λj r e=>by simp at e⟩
end
section
variable{σ:St}{H:Hp}{K:W.Frag}{a b:V}{p:Addr}
theorem S6{i0 i1:Nat}{R:St->Hp->Prop}(hp:SqT K H p [a,b])(h:bw i0 a σ H λσ1 H1=>bw i1 b σ1 H1 R):DK K 2 (gF (bw i0) (gF (bw i1) Il)) (.ref p) σ H R :=
 ⟨p,_,rfl,hp,rfl,_,_,rfl,_,_,rfl,rfl,h⟩
end
def aaA(K:W.Frag):R2:=λx y H Q=>∃d d',Rep K H d x/\Rep K H d' y/\fC d<=100/\Q (.bl (dW d d')) H
def Js(K:W.Frag):R2:=λx y H Q=>∃d d',Rep K H d x/\Rep K H d' y/\fC d<=100/\Q (.bl (!dW d d')) H
theorem S7{X:Cx}{k:Nat}(hr:Room k X.A):OpR X (compareOp .Eq) (aaA X.K):=W9 hr
theorem ji{X:Cx}{k:Nat}(hr:Room k X.A):OpR X (compareOp .NotEq) (Js X.K):=W_ hr
theorem yN{K:W.Frag}{H:Hp}:∀ns:List Int,cI K H (ns.map Dt.int) (ns.map V.int)
 | []=>by simp[cI]
 | n::ns=>by
  simp only[List.map_cons,cI];exact⟨_,_,rfl,by simp[Rep],yN ns⟩
theorem uH:∀ns:List Int,fD (ns.map Dt.int)=0
 | []=>rfl
 | n::ns=>by simp[fD,fC,uH ns]
theorem oM{K:W.Frag}{H:Hp}{p:Addr}{ns:List Int}(h:SqL K H p (ns.map V.int)):Rep K H (.lst (ns.map Dt.int)) (.ref p):=by
 simp only[Rep];exact⟨p,_,rfl,h,yN ns⟩
theorem Ep(ns:List Int):fC (.lst (ns.map Dt.int))<=100:=by simp only[fC,uH];decide
theorem adI{K:W.Frag}{H:Hp}{Q:VK}{p q:Addr}{ns ms:List Int}(h1:SqL K H p (ns.map V.int))(h2:SqL K H q (ms.map V.int))(k:Q (.bl (dW (.lst (ns.map Dt.int)) (.lst (ms.map Dt.int)))) H):aaA K (.ref p) (.ref q) H Q :=
 ⟨_,_,oM h1,oM h2,Ep ns,k⟩
end L2
namespace L2
open PySem PySem.Spec PyProof.Rows PySem.SeqAt
section
def idV:V->Bool
 | .non=>true
 | .bl _=>true
 | .int _=>true
 | .str _=>true
 | .ref _=>true
 | _=>false
end
theorem yO{σ:St}{H:Hp}{wi:TI}{J:It}{xs:List V}{Lk:Hp->Prop}{c:TT}{Q:VK}{fr:List Nat}{fvs:St}{p:V->Bool}(hz:xs.length<=1000000)(hf:(fr.map λi=>(σ[i]?).getD none)=fvs)
  (it:L2.ItemsOf J xs Lk) (hw:∀R:It->Hp->Prop,R J H->wi σ H R) (hL:∀H',Same H H'->Lk H')
  (turn:∀(i:Nat)(v:V)(H':Hp)(R:Bool->Hp->Prop),xs[i]?=some v->Same H H'->(∀H2,Same H' H2->R (p v) H2)->c (some v::fvs) H' R)
  (k:∀l H',New H H' l (.lst (xs.filter p))->Q (.ref l) H'):mJ wi 1 fr (bw 0) c (dM 0) σ H Q:=by
 refine hw _ λacc hacc=>?_
 subst hf;have uI:∀b u,H b=some u->b≠acc:=λb u e=>aK e hacc
 refine oE it (λi ys H'=>H' acc=some (.lst ys)/\Same H H'/\ys=(xs.take i).filter p) ⟨aV,Same.new hacc,by simp⟩ (λi ys H' _ h=>⟨hL H' h.2.1,h.1⟩) ?_ ?_
 ·rintro i x tv ys H' hx hi ⟨ha,hs,rfl⟩ htv;obtain⟨tv0,rfl⟩:∃a,tv=[a]:=List.length_eq_one_iff.mp htv;have tk:xs.take (i+1)=xs.take i++[x]:=by
   rw[gE,hx]
   rfl
  unfold bw;refine turn i x H' _ hx hs λH2 s2=>?_
  cases hp:p x with
  | true =>
   refine adg ⟨x,rfl,?_,s2 _ _ ha,jT.next (tv:=[some x]) hi ⟨aV,λb u e=>?_,?_⟩ rfl⟩
   ·refine Nat.lt_of_le_of_lt (List.length_filter_le _ _) (qE ?_ (bQ hz));rw[oQ]
    lia
   ·rw[aQ (uI b u e)];exact s2 _ _ (hs _ _ e)
   ·rw[tk,List.filter_append];simp[hp]
  | false =>
   refine adf (jT.next (tv:=[some x]) hi ⟨s2 _ _ ha,hs.trans s2,?_⟩ rfl);rw[tk,List.filter_append];simp[hp]
 ·rintro ys H' ⟨ha,hs,rfl⟩;rw[List.take_length] at ha;exact k acc H' ⟨hs,ha,uI⟩
section
variable{σ:St}{H:Hp}{Q:VK}{p:Addr}
theorem aaB(h:∀p H',New H H' p (.dK [])->Q (.ref p) H'):Jf σ H Q:=λp hp=>h p _ (.mk' hp)
end
def Kp(b:Addr)(H H':Hp):Prop:=∀x u,x≠b->H x=some u->H' x=some u
section
variable{b:Addr}{H H1:Hp}
theorem Off.kp(f:Off b H H1):Kp b H H1:=λx u n h=>by rw[f x n];exact h
end
section
variable{X:Cx}{K:W.Frag}
theorem uJ(h:X.K=K):IxR X (RL K):=h▸aO
theorem cX(h:X.K=K):IxR X (W0 K):=h▸aZ
end
def Jt(K:PySem.W.Frag)(a:Addr)(g:TG)(tb:TS)(D:Ends)(σ:St)(H:Hp):Prop:=∃W:Nat->Nat->St->Hp->Prop,(∃m,W 0 m σ H)/\∀i m σ H,W i m σ H ->
 ((Itl K a).stop i H/\D.nx σ H)\/((Itl K a).go i H/\∃N:St->Hp->Prop,(∀σ' H',N σ' H'->∃m',m'<m/\W (i+1) m' σ' H')/\∀x H',(Itl K a).yld i H x H'->g x σ H' λσ2 H2=>tb { D with nx:=N,ct:=N,bk:=D.nx } σ2 H2)
theorem aaC{K:W.Frag}{te:TE}{g:TG}{tb:TS}{D:Ends}{σ:St}{H:Hp}(h:te σ H λx H1=>∃a,x=.ref a/\(∃xs,SqL K H1 a xs)/\Jt K a g tb D σ H1):xR (DP K te) g tb D σ H:=h
theorem fH{K:W.Frag}{a:Addr}{xs:List V}{g:TG}{tb:TS}{D:Ends}{σ:St}{H:Hp}(Pv:Nat->St->Hp->Prop)(h0:Pv 0 σ H)(hl:∀i σ H,i<=xs.length->Pv i σ H->SqL K H a xs)
  (hs:∀i x σ H,xs[i]?=some x->Pv i σ H->g x σ H λσ2 H2=>tb { D with nx:=Pv (i+1),ct:=Pv (i+1),bk:=D.nx } σ2 H2) (hd:∀σ H,Pv xs.length σ H->D.nx σ H):Jt K a g tb D σ H:=Rq Pv h0 hl hs hd
def cu(J:It)(nt:Nat)(fr:List Nat)(g:TG)(c:TT)(te:TE)(σ:St)(H1:Hp)(Q:VK):Prop:=∀acc,H1 acc=none->ou J nt fr g c te σ H1 Q acc
theorem Xr{K:W.Frag}{t0 te:TE}{nt:Nat}{fr:List Nat}{g:TG}{c:TT}{σ:St}{H:Hp}{Q:VK}(h:t0 σ H λx H1=>∃a,x=.ref a/\(∃xs,SqL K H1 a xs)/\cu (Itl K a) nt fr g c te σ H1 Q):mJ (DP K t0) nt fr g c te σ H Q:=h
theorem comp_map{J:It}{xs:List V}{Lk:Hp->Prop}{te:TE}{σ:St}{H:Hp}{Q:VK}{fr:List Nat}{fvs:St}{P:Nat->V->Prop}(it:L2.ItemsOf J xs Lk)(hz:xs.length<=1000000)(hf:(fr.map λi=>(σ[i]?).getD none)=fvs)(hL:∀H',Same H H'->Lk H')
  (turn:∀(i:Nat)(v:V)(H':Hp)(R:VK),xs[i]?=some v->Same H H'->(∀y H2,Same H' H2->P i y->R y H2)->te (some v::fvs) H' R)
  (k:∀l H' ys,New H H' l (.lst ys)->ys.length=xs.length->(∀(i:Nat)(y:V),ys[i]?=some y->P i y)->Q (.ref l) H'):cu J 1 fr (bw 0) mH te σ H Q:=by
 intro acc hacc;subst hf;have uI:∀b u,H b=some u->b≠acc:=λb u e=>aK e hacc
 refine oE it (λi ys H'=>H' acc=some (.lst ys)/\Same H H'/\ys.length=i/\∀(j:Nat)(y:V),ys[j]?=some y->P j y) ⟨aV,Same.new hacc,rfl,λj y e=>by simp at e⟩ (λi ys H' _ h=>⟨hL H' h.2.1,h.1⟩) ?_ ?_
 ·rintro i x tv ys H' hx hi ⟨ha,hs,hl,hp⟩ htv;obtain⟨tv0,rfl⟩:∃a,tv=[a]:=List.length_eq_one_iff.mp htv;unfold bw mH;dsimp only;rw[zS rfl];refine turn i x H' _ hx hs λy H2 s2 py=>⟨?_,s2 _ _ ha,jT.next (tv:=[some x]) hi ⟨aV,λb u e=>?_,by rw[yT,hl];rfl,λj z e=>?_⟩ rfl⟩
  ·rw[hl];exact qE hi (bQ hz)
  ·rw[aQ (uI b u e)];exact s2 _ _ (hs _ _ e)
  ·by_cases hj:j<ys.length
   ·rw[wE hj] at e;exact hp j z e
   ·rw[nE (by lia)] at e;have hj2:j-ys.length=0:=by
     by_cases h0:j-ys.length=0
     ·exact h0
     ·rw[List.getElem?_eq_none (by simp;lia)] at e;cases e
    rw[hj2] at e;cases e;have:j=i:=by lia
    rw[this];exact py
 ·rintro ys H' ⟨ha,hs,hl,hp⟩;exact k acc H' ys ⟨hs,ha,uI⟩ hl hp
section
variable{m:Nat}{f C:Addr}
structure aja(K:W.Frag)(C:Addr)(m:Str)(f:Addr):Prop where
 ga:W.specialIn K (.ref C) "__getattribute__" = some (some (.builtin "type.__getattribute__"))
 rd:W.readsIn K C (.type "type")=true
 at_:W.findCls K (.ref C) (.type "type") m=some (.val (.ref f))
 hi:W.handedIn (.ref f)=true
 kp:W.keepIn K (.ref f)=true
end
section
variable{P:Program}{w:World}{K:W.Frag}{mg:xC}{base:Heap}{CX:CXT}{k:Nat}{x nm qual:Str}{ps:List Str}{sp:Sp}{C:Addr}
structure Met(P:Program)(w:World)(K:W.Frag)(mg:xC)(base:Heap)(CX:CXT)(k:Nat)(C:Addr)(nm:Str)(ps:List Str)(sp:Sp):Prop where
 ex:∃(f:Addr)(fd:FuncData),jE P w K mg base CX k f fd ps sp/\Meth K C nm f/\Binds K fd ps []
structure Mak(P:Program)(w:World)(K:W.Frag)(mg:xC)(base:Heap)(CX:CXT)(k:Nat)(x:Str)(C:Addr)(ps:List Str)(sp:Sp):Prop where
 ex:∃(f:Addr)(fd:FuncData),jE P w K mg base CX k f fd ps sp/\Mk K C f/\mg x=some (.ref C)/\Binds K fd ps []
def FnAt(K:W.Frag)(nm qual:Str)(st:Stmt)(f:Addr):Prop:=∃fd:FuncData,Fun K nm qual st f fd
structure gU(P:Program)(w:World)(K:W.Frag)(mg:xC)(base:Heap)(CX:CXT)(k:Nat)(f:Addr)(ps:List Str)(sp:Sp):Prop where
 ex:∃fd:FuncData,jE P w K mg base CX k f fd ps sp/\Binds K fd ps []
theorem gU.met{f:Addr}(t:gU P w K mg base CX k f ps sp)(m:Meth K C nm f):Met P w K mg base CX k C nm ps sp:=let ⟨fd,F,b⟩:=t.ex;⟨f,fd,F,m,b⟩
theorem gU.mak{f:Addr}(t:gU P w K mg base CX k f ps sp)(m:Mk K C f)(g:mg x=some (.ref C)):Mak P w K mg base CX k x C ps sp:=let ⟨fd,F,b⟩:=t.ex;⟨f,fd,F,m,g,b⟩
variable{st:Stmt}{N:List Str}{f:Addr}
theorem S8(h:FnAt K nm qual st f)(S:aJ N ps (aA st))(len:∀vs H Q E,sp vs H Q E->vs.length=ps.length)
  (hb:∀(kV doc pm:Value)(an:xL)(cdv ct:Value)(us:xE),us.length=ps.length->bindArgs (W.fnOf nm qual (cD st) (bH st) (aA st) .none kV doc pm an cdv ct) ⟨us,[]⟩=pure (ps.zip us))
  (hbody:∀(f:Addr)(cdv:Value)(A:Around)(outer:List Env)(s:Shared)(H:Hp)(vs:List V)(Q:VK)(E:XK),Room k (A.deeper (envOfC qual (aA st) s.heap.objs.size f cdv))->sp vs H Q E ->
   ∃t,PSs (gQ CX P w K mg base N qual (aA st) f cdv A outer s H E).nox (bH st) t/\t { nx:=λ_ H'=>Q .non H',rt:=Q } (start N vs) H):gU P w K mg base CX (k+1) f ps sp:=by
 obtain⟨fd,F⟩:=h;refine⟨fd,?_,F.binds hb⟩;obtain⟨oc,od,kV,doc,pm,an,cdv,ct,osl,rfl,lk,hcd⟩:=F.ex;refine t_ lk hcd S len λA outer s H vs Q E hr hsp=>?_
 obtain⟨t,h,q⟩:=hbody f cdv A outer s H vs Q E hr hsp;exact⟨t,h.nox,q⟩
theorem O8(h:FnAt K nm qual st f)(S:aJ N ps (aA st))(len:∀vs H Q E,sp vs H Q E->vs.length=ps.length)
  (hb:∀(kV doc pm:Value)(an:xL)(cdv ct:Value)(us:xE),us.length=ps.length->bindArgs (W.fnOf nm qual (cD st) (bH st) (aA st) .none kV doc pm an cdv ct) ⟨us,[]⟩=pure (ps.zip us))
  (hbody:∀(f:Addr)(cdv:Value)(A:Around)(outer:List Env)(s:Shared)(H:Hp)(vs:List V)(Q:VK)(E:XK),Room k (A.deeper (envOfC qual (aA st) s.heap.objs.size f cdv))->sp vs H Q E ->
   ∃t,PSs (gQ (CX1 P w) P w K mg base N qual (aA st) f cdv A outer s H E) (bH st) t/\t { nx:=λ_ H'=>Q .non H',rt:=Q } (start N vs) H):gU P w K mg base (CX1 P w) (k+1) f ps sp:=by
 obtain⟨fd,F⟩:=h;refine⟨fd,?_,F.binds hb⟩;obtain⟨oc,od,kV,doc,pm,an,cdv,ct,osl,rfl,lk,hcd⟩:=F.ex;exact t_ lk hcd S len λA outer s H vs Q E hr hsp=>hbody f cdv A outer s H vs Q E hr hsp
end
section
variable{X:Cx}{CX:CXT}{k m:Nat}{nm:Str}{ps:List Str}{sp:Sp}{E:XK}{pos apos:Pos}{e o:Expr}{es:List Expr}{t:TA}{ta:TE}{C:Addr}
theorem Ju{pl:Sem Bool}(he:PE X o ta)(c:Cls X.K C)(D:Met X.prog X.w X.K X.mg X.base CX k C nm ps sp)(hr:Room m X.A)(ha:PA X (e::es) t)(hk:k<=m:=by decide)(hx:Passes CX X E:=by exact yJ)
  (hst:starEach (e::es) X.env=(false,eval e X.env)::starEach es X.env:=by rfl) (hpl:(backTo pos (starEach es X.env)).any (·.1)=false:=by rfl)
  (ht:eval (.Call (.Attribute o nm apos) (e::es) [] pos) X.env=(do
   let ov <- eval o X.env
   standAt apos.atName
   let (f,first) <- holding [ov] (getMethod ov nm pl)
   callWith pos f first (backTo pos (starEach (e::es) X.env)) (backToKw pos (keywordEach [] X.env))):=by rfl) :
  PE X (.Call (.Attribute o nm apos) (e::es) [] pos) (yw C nm sp [] E ta t):=by
 obtain⟨f,fd,F,mt,b⟩:=D.ex;exact WR (pl:=pl) he c mt F (hr.mono hk) b .nil hx ha hst hpl ht
theorem cG{pl:Sem Bool}(he:PE X o ta)(c:Cls X.K C)(D:Met X.prog X.w X.K X.mg X.base CX k C nm ps sp)(hr:Room m X.A)(hk:k<=m:=by decide)(hx:Passes CX X E:=by exact yJ)
  (ht:eval (.Call (.Attribute o nm apos) [] [] pos) X.env=(do
   let ov <- eval o X.env
   standAt apos.atName
   let (f,first) <- holding [ov] (getMethod ov nm pl)
   callWith pos f first (backTo pos (starEach [] X.env)) (backToKw pos (keywordEach [] X.env))):=by rfl) :
  PE X (.Call (.Attribute o nm apos) [] [] pos) (yw C nm sp [] E ta tZ):=by
 obtain⟨f,fd,F,mt,b⟩:=D.ex;exact Rz (pl:=pl) he c mt F (hr.mono hk) b .nil hx ht
end
end L2
namespace L2
open PySem PySem.Spec PyProof.Rows
theorem S9{σ:St}{H:Hp}{te:TE}{tr:TA}{Q:VK}{fr:List Nat}{fvs:St}{n:Nat}(Iv:Addr->Nat->List V->Hp->Prop)(hr:R8 tr σ H [.int (n:Int)])(hz:n<=1000000)(hf:(fr.map λi=>(σ[i]?).getD none)=fvs)
  (h0:∀acc H',New H H' acc (.lst [])->Iv acc 0 [] H') (ha:∀acc i ys H',Iv acc i ys H'->H' acc=some (.lst ys)/\ys.length=i)
  (turn:∀acc i ys H' (R:VK),i<n->Iv acc i ys H'->(∀y H2,H2 acc=some (.lst ys)->(∀H3,Off acc H2 H3->H3 acc=some (.lst (ys++[y]))->Iv acc (i+1) (ys++[y]) H3)->R y H2)->te (some (.int i)::fvs) H' R)
  (k:∀acc ys H',Iv acc n ys H'->Q (.ref acc) H'):mJ (yp tr) 1 fr (bw 0) mH te σ H Q:=by
 refine hr _ ⟨n,rfl,by lia,by lia,λacc hacc=>?_⟩;subst hf;rw[Int.toNat_natCast];refine oE iQ (λi ys H'=>Iv acc i ys H') (h0 acc _ (.mk' hacc)) (λi ys H' _ h=>⟨trivial,(ha acc i ys H' h).1⟩) ?_ ?_
 ·rintro i x tv ys H' hx hi h htv;obtain⟨tv0,rfl⟩:∃a,tv=[a]:=List.length_eq_one_iff.mp htv;have hi':i<n:=by simpa[cR] using hi
  obtain rfl:=uy hx hi';unfold bw mH;dsimp only;rw[zS rfl];refine turn acc i ys H' _ hi' h λy H2 h1 h2=>⟨?_,h1,jT.next (tv:=[some (V.int i)]) hi (h2 _ Off.upd aV) rfl⟩
  rw[(ha acc i ys H' h).2];exact qE hi' (bQ hz)
 ·rintro ys H' h;rw[show (cR 0 n).length=n by simp[cR]] at h;exact k acc ys H' h
def Zb:R2:=λx y H Q=>∃i j,x=.str i/\y=.str j/\i.length+j.length<=sizeLine/\Q (.str (i++j)) H
def rJoin(K:W.Frag):V->List V->Hp->VK->Prop:=λx xs H Q=>∃sep p ts,x=.str sep/\xs=[.ref p]/\SqL K H p (ts.map V.str)/\sep.length<=16/\(ts.map (λt=>t.length)).sum+ts.length<=1048576/\Q (.str (sep.join ts)) H
theorem uK:∀{ts:List Str} {us:xE},Vals (ts.map V.str) us->StrsAre us ts
 | [],_,.nil=>.nil
 | t::ts,_,.cons r h=>by
  obtain⟨k,rfl⟩:=r;exact .cons t k (uK h)
section
variable{X:Cx}
theorem sW:OpR X (binaryOp .Add) Zb:=Iu
theorem Xu:MtR X "str.join" (rJoin X.K):=by
 intro pins s σ H x xs v us Q I rx rs h;obtain⟨sep,p,ts,rfl,rfl,hq,h1,h2,q⟩:=h;obtain⟨t,rfl⟩:=rx;obtain⟨u,rfl,r1⟩:=vals1 rs;cases r1;obtain⟨its,r,pl,hz⟩:=I.list hq;refine join_listW (items:=its.toArray) (ys:=ts) pl.isList (uK r) h1 h2 λt' k=>⟨.str (sep.join ts),H,I.tok _,⟨t',?_⟩,q⟩
 show Value.str (Builtin.Str.glued sep ts) t'=_;rw[StrLaws.glued_eq_join]
theorem Xv{o e:Expr}{to te:TE}{apos cpos:Pos}(ho:PE X o to)(he:PE X e te)(hbase:attributeBase o "join" X.env (eval o X.env)=eval o X.env:=by rfl)
  (hfew:((backTo cpos (starEach [e] X.env)).all (λx=>!x.1) && (backToKw cpos (keywordEach [] X.env)).all (λx=>x.1.isSome)
   && decide (([e]:List Expr).length+([]:List Keyword).length+(if ([]:List Keyword).isEmpty then 0 else 1)<30))=true:=by rfl)
  (hline:(apos.endLine==cpos.line)=true:=by rfl) (hs:starEach [e] X.env=(false,eval e X.env)::starEach [] X.env:=by rfl) :
  PE X (.Call (.Attribute o "join" apos) [e] [] cpos) (tBM X.K "str" (rJoin X.K) to (n6 te tZ)) :=
 DY PySem.F.plainAttrs_str PySem.F.slot_str_join PySem.F.type_str_join Xu ho (aj he ak hs) hbase hfew hline hs (by rfl)
end
theorem Lf{X:Cx}{K:W.Frag}{pos:Pos}{es:List Expr}{k:Nat}{t:TGs}{n:Nat}(hK:X.K=K)(hc:X.calm=true)(h:PGs X es t)
  (hn:(assignEach es X.env).length=n:=by rfl) (hst:(assignEach es X.env).findIdx? (·.1)=none:=by rfl):PG X (.Tuple es k pos) (DK K n t):=by
 subst hK;exact iW hc h hn hst
def fJ:V->Dt
 | .int i=>.int i
 | .str x=>.str x
 | .bl b=>.bl b
 | _=>.non
def gq:V->Bool
 | .int _=>true
 | .str _=>true
 | .bl _=>true
 | .non=>true
 | _=>false
section
variable{K:W.Frag}{H:Hp}
theorem S_{v:V}(h:gq v=true):Rep K H (fJ v) v:=by
 cases v <;> simp_all [gq,fJ,Rep]
theorem yP:∀{vs:List V},(∀v∈vs,gq v=true)->cI K H (vs.map fJ) vs
 | [],_=>by simp[cI]
 | v::vs,h=>by
  simp only[List.map_cons,cI];exact⟨_,_,rfl,S_ (h v (zC ..)),yP λx hx=>h x (zD _ hx)⟩
theorem oN:∀vs:List V,fD (vs.map fJ)=0
 | []=>rfl
 | v::vs=>by
  have:fC (fJ v)=0:=by cases v <;> rfl
  simp[fD,this,oN vs]
abbrev yQ(r:List V):Dt:=.tup (r.map fJ)
theorem yR:∀{rows:List (List V)} {ys:List V},aD H ys rows->(∀r∈rows,∀v∈r,gq v=true)->cI K H (rows.map yQ) ys
 | [],ys,h,_=>by
  have:ys=[]:=List.eq_nil_of_length_eq_zero h.1;subst this;simp[cI]
 | r::rows,[],h,_=>by simp[aD] at h
 | r::rows,y::ys,h,hf=>by
  obtain⟨q,e,hq⟩:=h.2 0 r rfl;cases e;simp only[List.map_cons,cI];refine⟨_,_,rfl,?_,yR (rows:=rows) (ys:=ys) ⟨by simpa using h.1,λj r' e=>h.2 (j+1) r' e⟩ λx hx=>hf x (List.mem_cons_of_mem _ hx)⟩;simp only[Rep];exact⟨q,r,rfl,SqT.of hq,yP (hf r (zC ..))⟩
theorem Er:∀rows:List (List V),fD (rows.map yQ)<=1
 | []=>by decide
 | r::rows=>by
  have h1:fC (yQ r)=1:=by simp only[fC,oN]
  have h2:=Er rows;simp only[List.map_cons,fD,h1]
  lia
theorem uL{p:Addr}{rows:List (List V)}{ys:List V}(hp:SqL K H p ys)(h:aD H ys rows)(hf:∀r∈rows,∀v∈r,gq v=true):Rep K H (.lst (rows.map yQ)) (.ref p):=by
 simp only[Rep];exact⟨p,ys,rfl,hp,yR h hf⟩
theorem yS(rows:List (List V)):fC (.lst (rows.map yQ))<=2:=by
 have:=Er rows;simp only[fC]
 lia
theorem Tc{d:Dt}{x y:V}{Q:VK}(hx:Rep K H d x)(hy:Rep K H d y)(hd:fC d<=100)(k:Q (.bl false) H):Js K x y H Q :=
 ⟨d,d,hx,hy,hd,by rw[yL];exact k⟩
theorem Xw{p:Addr}(h:SqL K H p []):Rep K H (.lst []) (.ref p):=by
 simp only[Rep];exact⟨p,_,rfl,h,by simp[cI]⟩
end
section
variable{K:W.Frag}{σ:St}{H:Hp}{Q:VK}{ta:TE}{f:Str}{C:Addr}
theorem aaD(h:ta σ H λx H1=>∃a C dx fs v,x=.ref a/\H1 a=some (.ins C dx fs)/\Cls K C/\bO K C f/\fs.lookup f=some v/\Q v H1):Z2 K ta f σ H Q:=h
theorem w_fld{a dx:Addr}{fs:List (Str×V)}{v:V}{R:V->Prop}(ho:H a=some (.ins C dx fs))(c:Cls K C)(n:bO K C f)(l:fs.lookup f=some v)(k:R v) :
  ∃a' C' dx' fs' v',V.ref a=.ref a'/\H a'=some (.ins C' dx' fs')/\Cls K C'/\bO K C' f/\fs'.lookup f=some v'/\R v':=⟨a,C,dx,fs,v,rfl,ho,c,n,l,k⟩
end
theorem O9{H:Hp}{x dx C:Addr}(hx:H x=none)(hd:H dx=none):Same H (upd (upd H dx (.own x)) x (.ins C dx [])):=λb u e=>by
 rw[aQ (aK e hx),aQ (aK e hd)];exact e
def Lg:V->List V->Hp->VK->Prop:=λx vs H Q=>∃l b xs zs,x=.ref l/\vs=[.ref b]/\H l=some (.lst xs)/\H b=some (.lst zs)/\xs.length+zs.length<=sizeLine/\∀H',Off l H H'->H' l=some (.lst (xs++zs))->Q .non H'
section
variable{X:Cx}
theorem Xx:MtM X "list.extend" Lg:=by
 intro pins s σ H x vs v us Q I rx rv h;obtain⟨l,b,xs,zs,e1,e2,hH,hB,hz,q⟩:=h;exact Ov pins s σ H x vs v us Q I rx rv ⟨l,b,xs,zs,e1,e2,hH,hB,hz,q _ Off.upd aV⟩
theorem Lh{o e:Expr}{to te:TE}{apos cpos:Pos}(ho:PE X o to)(he:PE X e te)(hbase:attributeBase o "extend" X.env (eval o X.env)=eval o X.env:=by rfl)
  (hfew:((backTo cpos (starEach [e] X.env)).all (λx=>!x.1) && (backToKw cpos (keywordEach [] X.env)).all (λx=>x.1.isSome)
   && decide (([e]:List Expr).length+([]:List Keyword).length+(if ([]:List Keyword).isEmpty then 0 else 1)<30))=true:=by rfl)
  (hline:(apos.endLine==cpos.line)=true:=by rfl) (hs:starEach [e] X.env=(false,eval e X.env)::starEach [] X.env:=by rfl) :
  PE X (.Call (.Attribute o "extend" apos) [e] [] cpos) (tBM X.K "list" Lg to (n6 te tZ)) :=
 DY PySem.F.plainAttrs_list PySem.F.slot_list_extend PySem.F.type_list_extend Xx ho (aj he ak hs) hbase hfew hline hs (by rfl)
end
end L2
namespace L2
open PySem PySem.Spec PyProof.Rows PySem.SeqAt
section
variable{X:Cx}{id:String}{x nm:Str}{e v:Expr}{es:List Expr}{t:TA}{tv:TE}{p kp pos:Pos}
def Li(X:Cx)(id:String)(nm:Str)(r:List V->V->Hp->VK->Prop):Prop:=∀(pins:List (Addr×Obj)) (s:Shared) (σ:St) (H:Hp) (xs:List V) (us:xE) (y:V) (u:Value) (Q:VK),Inv X pins σ H s->Vals xs us->RelV y u->r xs y H Q ->
 wpAny (model X.prog X.w) X.A (call (.builtin id) us [(nm,u)]) (EP X pins σ Q) X.xe s
def tCK(r:List V->V->Hp->VK->Prop)(t:TA)(tv:TE):TE:=λσ H Q=>t σ H λxs H1=>tv σ H1 λy H2=>r xs y H2 Q
theorem adJ{r:List V->V->Hp->VK->Prop}{σ:St}{H:Hp}{Q:VK}(h:t σ H λxs H1=>tv σ H1 λy H2=>r xs y H2 Q):tCK r t tv σ H Q:=h
theorem Jv{r:List V->V->Hp->VK->Prop}(hc:Li X id nm r)(hg:Gl X x)(hm:X.mg x=none)(hv:bootBuiltins x=some (.builtin id))(ha:PA X (e::es) t)(hw:PE X v tv)(hn:x ≠ "__name__":=by decide)(hdb:(x==("__debug__" : Str))=false:=by decide)
  (he:backTo pos (starEach (e::es) X.env)=(false,eval e X.env)::backTo pos (starEach es X.env):=by rfl) (hpl:(backTo pos (starEach (e::es) X.env)).any (·.1)=false:=by rfl):PE X (.Call (.Name x p) (e::es) [⟨some nm,v,kp⟩] pos) (tCK r t tv):=by
 intro pins s σ H Q I h;refine wpAny_Call_Name_kw (iy I hg hm hv ?_ hn hdb);refine callWith_kw (thn (ha pos pins s σ H _ I h) λus s1 ⟨vs,H1,I1,r1,q1⟩=>?_) he hpl;refine kws_cons (thn (hw pins s1 σ H1 _ I1 q1) λz s2 ⟨y,H2,I2,r2,q2⟩=>kws_nil ?_);have hv2:Vals vs us:=r1;exact hc pins s2 σ H2 vs us y z Q I2 hv2 r2 q2
end
theorem oO:∀{ns:List Int} {us:xE},Vals (ns.map V.int) us->IntsAre us ns
 | [],_,.nil=>.nil
 | n::ns,_,.cons r t=>by
  obtain⟨k,rfl⟩:=r;exact .cons n k (oO t)
theorem iR:∀{us:xE} {ns:List Int} {i:Nat} {v:Value},IntsAre us ns->us[i]?=some v->∃t,v=.int (ns.getD i 0) t
 | _,_,_,_,.nil,e=>by simp at e
 | _,_,0,_,.cons n t h,e=>by
  simp at e;exact⟨t,e.symm⟩
 | _,_,i+1,_,.cons n t h,e=>by
  obtain⟨t',e'⟩:=iR (i:=i) h (by simpa using e);exact⟨t',by rw[e'];simp⟩
theorem kE(ns:List Int):∀n,n<=ns.length->preSum (λi=>ns.getD i 0) n=(ns.take n).sum
 | 0,_=>by simp[preSum]
 | n+1,h=>by
  rw[preSum,kE ns n (by lia),gE,List.sum_append];have:ns[n]?=some ns[n]:=by simp
  rw[oP,this];simp
theorem Jw{ns:List Int}(h:∀n∈ns,0<=n/\n<=1000000):0<=ns.sum/\ns.sum<=1000000*(ns.length:Int):=by
 induction ns with
 | nil=>simp
 | cons a t ih =>
  have h1:=h a zC;have h2:=ih λn hn=>h n (zD _ hn)
  rw[List.sum_cons,mS]
  lia
def gK(d:Int)(ns:List Int):Int:=ns.foldl max d
section
variable{X:Cx}
def Td(K:W.Frag):List V->Hp->VK->Prop:=λxs H Q=>∃(p:Addr)(ns:List Int),xs=[.ref p]/\SqL K H p (ns.map V.int)/\(∀n∈ns,0<=n/\n<=1000000)/\ns.length<=1000000/\Q (.int ns.sum) H
theorem qy(hc:X.calm=true):fW X (.builtin "sum") (Td X.K):=by
 intro pins s σ H xs us Q I r h;obtain⟨p,ns,rfl,hq,hb,hz,q⟩:=h;obtain⟨u,rfl,rx⟩:=vals1 r;cases rx;obtain⟨its,rv,pl,_⟩:=I.list hq;have hi:=oO rv;have hn:its.length=ns.length:=by have:=rv.length;simpa using this.symm
 have hl:=pl.isList;have hlt:p<s.heap.objs.size:=let ⟨_,e,_⟩:=hl;uA e
 have part:∀j,j<=ns.length->0<=(ns.take j).sum/\(ns.take j).sum<=1000000*1000000:=λj hj=>by
  have b:=Jw (ns:=ns.take j) λn hn=>hb n (oB hn)
  have:(ns.take j).length<=1000000:=by rw[oQ];lia
  lia
 refine call_sum_walk (wpAny_pyIter_list hl ?_);refine⟨s.heap.objs.size,[s.heap.objs.size,p],[s.heap.objs.size],its.toArray.size,_,_,λi=>ns.getD i 0,rfl,Walks.list (A:=X.A.in1) (I.ok.hd hc) _ p (qS hlt) its.toArray,
  ⟨⟨_,Heap.get?_push_size _ rfl,rfl,rfl⟩,hl.push _⟩,λb hb'=>?_,λi v hP=>iR hi (by simpa using hP),λj hj=>?_,λh' tk t' hk=>?_⟩
 ·rcases vT.mp hb' with rfl|hb'
  ·show _<(s.heap.push _).objs.size;rw[size_push'];exact Nat.lt_succ_self _
  ·rw[uS.mp hb'];show _<(s.heap.push _).objs.size;rw[size_push'];exact nK hlt
 ·have hj':j<ns.length:=by rw[<- hn];simpa using hj
  rw[kE ns (j+1) hj'];have b1:=part (j+1) hj';have b2:=hb (ns.getD j 0) (by rw[oP,qB hj'];exact List.getElem_mem hj');exact⟨⟨by show _<=ns.getD j 0;lia,by show ns.getD j 0<_;lia⟩,by lia,by lia⟩
 ·rw[nN,hn,kE ns _ (uC _),List.take_length];exact⟨.int _,H,I.kept (LSm.kept_iter hk),⟨_,rfl⟩,q⟩
theorem Xy{P:Program}{w:World}{A:Around}{E:xB}{s:Shared}{i j:Int}{t u:Tok}{Q:xB}(h:Q (.bool (decide (j<i))) s):wpAny (model P w) A (richCompare .Gt (.int i t) (.int j u)) Q E s:=gt_int h
section
variable{P:Program}{w:World}{A:Around}{R:Result->Shared->Prop}{it:Addr}{fp wr:List Addr}{ns:List Int}{V0:Nat->Value->Prop}{St0:Nat->Heap->Prop}{kw:List (Str×Value)}
abbrev sX(vs:xI)(c:Nat):Obj:={ cls:=.type "list", dict:=none,data:=.seq vs c,slots:=#[] }
theorem Te(W:Walks P w A.in1 it fp wr ns.length V0 St0)(hv:∀i v,V0 i v->∃t,v=.int (ns.getD i 0) t)(B:Addr)(hB:B ∉ fp)(left:Nat) :
  ∀(j:Nat)(s:Shared)(m:Int)(t:Tok)(c:Nat),j+left=ns.length->St0 j s.heap->m=gK (ns.getD 0 0) (ns.take j)->s.heap.get? B=some (sX #[.int m t,.int m t] c) ->
  (∀h' tk t',(∀b ob,b ∉ wr->b≠B->s.heap.get? b=some ob->h'.get? b=some ob)->R (.ok (.ret (.int (gK (ns.getD 0 0) ns) t'))) { s with heap:=h',toks:=tk }) ->
  codeAny (model P w) A (.builtin "max.loop" ⟨[.ref it,.none,.ref B],kw⟩) R s:=by
 have hBw:B ∉ wr:=λz=>hB (W.sub _ z)
 induction left with
 | zero =>
  intro j s m t c hj st hm hb k;have ej:j=ns.length:=by lia
  subst ej;refine codeAny_builtin F.entry_max_loop ?_;rw[Around.under_plainId F.plain_max_loop _];show wpAny _ _ (seqItems? (Value.ref B) >>= _) _ _ _;refine zI (wpAny_seqItems hb rfl ?_);show wpAny _ _ (tryCatch (pyNext (Value.ref it)) _ >>= _) _ _ _;refine zI (wpAny_tryCatch (W.done s _ _ st λh1 tk1 k1=>?_));have hb1:=k1 B _ hBw hb;show wpAny _ _ (updateSeq B _ >>= _) _ _ _;refine zI (wpAny_updateSeq hb1 rfl (zI (wpAny_letGo (rV ?_))));rw[List.take_length] at hm;rw[hm];exact k _ _ t λb ob n1 n2 q=>(nS _ _ (λz=>n2 z.symm)).trans (k1 b ob n1 q)
 | succ left ih =>
  intro j s m t c hj st hm hb k;have hlt:j<ns.length:=by lia
  refine codeAny_builtin F.entry_max_loop ?_;rw[Around.under_plainId F.plain_max_loop _];show wpAny _ _ (seqItems? (Value.ref B) >>= _) _ _ _;refine zI (wpAny_seqItems hb rfl ?_);show wpAny _ _ (tryCatch (pyNext (Value.ref it)) _ >>= _) _ _ _;refine zI (wpAny_tryCatch (W.item j s _ _ hlt st λv h1 tk1 pv st1 k1=>?_));obtain⟨t1,rfl⟩:=hv j v pv;have hb1:=k1 B _ hBw hb;have nx:gK (ns.getD 0 0) (ns.take (j+1))=max m (ns.getD j 0):=by
   have e:ns[j]?=some ns[j]:=by simp
   rw[gE,e,hm,oP (i:=j),e];show List.foldl max _ _=_;rw[List.foldl_append]
   rfl
  show wpAny _ _ (tryCatch (holding _ (richCompare .Gt _ _ >>= _)) _ >>= _) _ _ _;refine zI (wpAny_tryCatch (nX (zI (Xy ?_))));refine zI (nX (wpAny_truthy_bool ?_));refine zI (wpAny_letGo (rV ?_));have hs:(toString "max" ++ toString ".loop" : String) = "max.loop":=by decide
  by_cases hg:m<ns.getD j 0
  ·rw[gX hg];simp only[if_true];refine zI (wpAny_updateSeq hb1 rfl (zI (wpAny_letGo ?_)));rw[hs];refine rV ⟨plainId_quiet F.plain_max_loop _,ih (j+1) _ (ns.getD j 0) t1 _ (by lia) (W.frame _ _ _ st1 λb hbf ob q=>?_) (by rw[nx];lia) (Heap.get?_update_self _ hb1 rfl) λh2 tk2 t2 k2=>?_⟩
   ·exact(nS _ _ (λz=>hB (by rw[z];exact hbf))).trans q
   ·exact k h2 tk2 t2 λb ob n1 n2 q=>k2 b ob n1 n2 ((nS _ _ (λz=>n2 z.symm)).trans (k1 b ob n1 q))
  ·rw[gS hg];simp only[Bool.false_eq_true,if_false];refine zI (wpAny_letGo ?_);rw[hs];refine rV ⟨plainId_quiet F.plain_max_loop _,ih (j+1) _ m t c (by lia) st1 (by rw[nx];lia) hb1 λh2 tk2 t2 k2=>k h2 tk2 t2 λb ob n1 n2 q=>k2 b ob n1 n2 (k1 b ob n1 q)⟩
theorem Lj{d:Int}{td:Tok}(W:Walks P w A.in1 it fp wr ns.length V0 St0)(hv:∀i v,V0 i v->∃t,v=.int (ns.getD i 0) t)(B:Addr)(hB:B ∉ fp){s:Shared}{c:Nat}(st:St0 0 s.heap)
  (hkw:ns=[]->kw=[(("default" : Str),Value.int d td)]) (hb:s.heap.get? B=some (sX #[] c))
  (k:∀h' tk t',(∀b ob,b ∉ wr->b≠B->s.heap.get? b=some ob->h'.get? b=some ob)->R (.ok (.ret (.int (if ns=[] then d else gK (ns.getD 0 0) ns) t'))) { s with heap:=h',toks:=tk }) :
  codeAny (model P w) A (.builtin "max.loop" ⟨[.ref it,.none,.ref B],kw⟩) R s:=by
 have hBw:B ∉ wr:=λz=>hB (W.sub _ z)
 have hs:(toString "max" ++ toString ".loop" : String) = "max.loop":=by decide
 refine codeAny_builtin F.entry_max_loop ?_;rw[Around.under_plainId F.plain_max_loop _];show wpAny _ _ (seqItems? (Value.ref B) >>= _) _ _ _;refine zI (wpAny_seqItems hb rfl ?_);show wpAny _ _ (tryCatch (pyNext (Value.ref it)) _ >>= _) _ _ _;by_cases hn:ns=[]
 ·subst hn;rw[hkw rfl];refine zI (wpAny_tryCatch (W.done s _ _ st λh1 tk1 k1=>?_));refine zI (wpAny_rule ?_);exact rV (k h1 tk1 td λb ob n1 _ q=>k1 b ob n1 q)
 ·have hlt:0<ns.length:=List.length_pos_iff.mpr hn;refine zI (wpAny_tryCatch (W.item 0 s _ _ hlt st λv h1 tk1 pv st1 k1=>?_));obtain⟨t1,rfl⟩:=hv 0 v pv;have hb1:=k1 B _ hBw hb;show wpAny _ _ (updateSeq B _ >>= _) _ _ _;refine zI (wpAny_updateSeq hb1 rfl ?_);rw[hs];rw[yB hn] at k;refine rV ⟨plainId_quiet F.plain_max_loop _,Te W hv B hB (ns.length-1) 1 _ (ns.getD 0 0) t1 _ (by lia) (W.frame _ _ _ st1 λb hbf ob q=>?_) ?_ (Heap.get?_update_self _ hb1 rfl) λh2 tk2 t2 k2=>?_⟩
  ·exact(nS _ _ (λz=>hB (by rw[z];exact hbf))).trans q
  ·have e:ns[0]?=some ns[0]:=by simp
   rw[gE,e,oP,e];simp[gK]
  ·exact k h2 tk2 t2 λb ob n1 n2 q=>k2 b ob n1 n2 ((nS _ _ (λz=>n2 z.symm)).trans (k1 b ob n1 q))
end
theorem sY:∀(ns:List Int)(d:Int),d<=gK d ns/\∀n∈ns,n<=gK d ns
 | [],d=>⟨Int.le_refl _,by simp⟩
 | a::t,d=>by
  have h:=sY t (max d a);refine⟨Int.le_trans (by lia) h.1,λn hn=>?_⟩;rcases vT.mp hn with rfl|hn
  ·exact Int.le_trans (by lia) h.1
  ·exact h.2 n hn
theorem oU:∀(ns:List Int)(d:Int),gK d ns=d\/gK d ns∈ns
 | [],d=>.inl rfl
 | a::t,d=>by
  rcases oU t (max d a) with h|h
  ·have e:gK d (a::t)=max d a:=h;by_cases hd:a<=d
   ·exact .inl (by rw[e];lia)
   ·exact .inr (by rw[e,show max d a=a by lia];exact zC)
  ·exact .inr (zD _ h)
theorem yU{ns:List Int}{d:Int}(hd:∀n∈ns,d<=n)(hn:ns≠[]):gK (ns.getD 0 0) ns=gK d ns:=by
 cases ns with
 | nil=>exact gL rfl hn
 | cons a t =>
  have h:=hd a zC;show List.foldl max a (a::t)=List.foldl max d (a::t);simp only[List.foldl_cons];rw[show max a a=a by lia,show max d a=a by lia]
theorem jJ{P:Program}{w:World}{A:Around}{E:xB}{s:Shared}{id:String}{b:Builtin}{args:xE}{kw:List (Str×Value)}{Q:xB}(hk:builtinKind id=none)(hp:plainId id=true)
  (hb:entryFor table id=some b) (ha:argsOk id ⟨args,kw⟩)
  (hc:wpAny (model P w) A.in1 (b ⟨args,kw⟩) (λfin s1=>match fin with
   | .done f=>(match (Except.ok f:Result) with|.ok (.ret v)=>Q v s1|.ok _=>False|.error e=>E e s1)
   | .again c=>c.quiet=true/\codeAny (model P w) A c (λr s2=>match r with|.ok (.ret v)=>Q v s2|.ok _=>False|.error e=>E e s2) s1) E s):wpAny (model P w) A (call (.builtin id) args kw) Q E s:=by
 refine wpAny_call (codeAny_call_builtin hp hb ?_);simp only[checkBuiltinCall,hk];unfold argsOk at ha;cases hg:Manifest.signature? id with
 | none=>exact rV hc
 | some sg =>
  rw[hg] at ha;have ha2:Bind.checkArgs id sg ⟨args,kw⟩=pure ():=ha;simp only[ha2];exact rV hc
theorem O_(a d:Value):argsOk "max" ⟨[a],[(("default" : Str),d)]⟩:=by unfold argsOk;kernel_rfl
def Zc(K:W.Frag):List V->V->Hp->VK->Prop:=λxs y H Q=>∃(p:Addr)(ns:List Int)(d:Int),xs=[.ref p]/\y=.int d/\SqL K H p (ns.map V.int)/\(∀n∈ns,d<=n)/\Q (.int (gK d ns)) H
theorem Pa(hc:X.calm=true):Li X "max" "default" (Zc X.K):=by
 intro pins s σ H xs us y u Q I r ry h;obtain⟨p,ns,d,rfl,rfl,hq,hd,q⟩:=h;obtain⟨v,rfl,rx⟩:=vals1 r;cases rx;obtain⟨td,rfl⟩:=ry;obtain⟨its,rv,pl,_⟩:=I.list hq;have hi:=oO rv;have hn:its.length=ns.length:=by have:=rv.length;simpa using this.symm
 have hl:=pl.isList;have hlt:p<s.heap.objs.size:=let ⟨_,e,_⟩:=hl;uA e
 have hs:(toString "max" ++ toString ".loop" : String) = "max.loop":=by decide
 refine jJ F.kind_max F.plain_max F.entry_max (O_ _ _) ?_;show wpAny _ _ (Builtin.Builtins.bindParams "max" ["key","default"] 0 ⟨[],[(("default" : Str),Value.int d td)]⟩ >>= _) _ _ s;refine zI (wpAny_of_eq (show Builtin.Builtins.bindParams "max" ["key","default"] 0 ⟨[],[(("default" : Str),Value.int d td)]⟩=pure [none,some (.int d td)] from rfl) ?_);refine zI (rV ?_);refine zI (wpAny_pyIter_list hl ?_);refine zI (wpAny_newObj_type ?_);rw[hs];have W:=Walks.list (prog:=X.prog) (w:=X.w) (A:=X.A.in1) (I.ok.hd hc) s.heap.objs.size p (qS hlt) its.toArray;rw[show its.toArray.size=ns.length by rw[nN];exact hn] at W;refine wpAny_pure ⟨plainId_quiet F.plain_max_loop _,Lj (d:=d) (td:=td) W (λi v hP=>iR hi (by simpa using hP)) _ (λz=>?_) (W.frame _ _ _ ⟨⟨_,Heap.get?_push_size _ rfl,rfl,rfl⟩,hl.push _⟩ λb _ ob e=>Heap.get?_push_of_some _ e) (λ_=>rfl) (Heap.get?_push_size _ rfl) λh' tk t' hk=>?_⟩
 ·rcases vT.mp z with z|z
  ·exact gL z (by rw[size_push'];exact Nat.succ_ne_self _)
  ·exact gL (uS.mp z) (by rw[size_push'];exact Nat.ne_of_gt (nK hlt))
 ·have e:(if ns=[] then d else gK (ns.getD 0 0) ns)=gK d ns:=by
   by_cases h0:ns=[]
   ·rw[zS h0,h0];rfl
   ·rw[yB h0,yU hd h0]
  rw[e];refine⟨.int _,H,I.kept λb ob q=>?_,⟨_,rfl⟩,by assumption⟩;have hb:b<s.heap.objs.size:=uA q;exact hk b ob (λz=>gL (uS.mp z) (qS hb)) (by rw[size_push'];exact qS (nK hb)) (uB _ (uB _ q))
def adK(K:W.Frag):List V->Hp->VK->Prop:=λxs H Q=>∃(p:Addr)(ns:List Int),xs=[.ref p]/\SqL K H p (ns.map V.int)/\ns≠[]/\Q (.int (gK (ns.getD 0 0) ns)) H
theorem Pb(hc:X.calm=true):fW X (.builtin "max") (adK X.K):=by
 intro pins s σ H xs us Q I r h;obtain⟨p,ns,rfl,hq,h0,q⟩:=h;obtain⟨v,rfl,rx⟩:=vals1 r;cases rx;obtain⟨its,rv,pl,_⟩:=I.list hq;have hi:=oO rv;have hn:its.length=ns.length:=by have:=rv.length;simpa using this.symm
 have hl:=pl.isList;have hlt:p<s.heap.objs.size:=let ⟨_,e,_⟩:=hl;uA e
 have hs:(toString "max" ++ toString ".loop" : String) = "max.loop":=by decide
 refine jJ F.kind_max F.plain_max F.entry_max (F.args_max1 _) ?_;show wpAny _ _ (Builtin.Builtins.bindParams "max" ["key","default"] 0 ⟨[],[]⟩ >>= _) _ _ s;refine zI (wpAny_of_eq (show Builtin.Builtins.bindParams "max" ["key","default"] 0 ⟨[],[]⟩=pure [none,none] from rfl) ?_);refine zI (rV ?_);refine zI (wpAny_pyIter_list hl ?_);refine zI (wpAny_newObj_type ?_);rw[hs];have W:=Walks.list (prog:=X.prog) (w:=X.w) (A:=X.A.in1) (I.ok.hd hc) s.heap.objs.size p (qS hlt) its.toArray;rw[show its.toArray.size=ns.length by rw[nN];exact hn] at W;refine wpAny_pure ⟨plainId_quiet F.plain_max_loop _,Lj (d:=0) (td:=0) W (λi v hP=>iR hi (by simpa using hP)) _ (λz=>?_) (W.frame _ _ _ ⟨⟨_,Heap.get?_push_size _ rfl,rfl,rfl⟩,hl.push _⟩ λb _ ob e=>Heap.get?_push_of_some _ e) (λz=>absurd z h0) (Heap.get?_push_size _ rfl) λh' tk t' hk=>?_⟩
 ·rcases vT.mp z with z|z
  ·exact gL z (by rw[size_push'];exact Nat.succ_ne_self _)
  ·exact gL (uS.mp z) (by rw[size_push'];exact Nat.ne_of_gt (nK hlt))
 ·rw[yB h0];refine⟨.int _,H,I.kept λb ob q=>?_,⟨_,rfl⟩,by assumption⟩;have hb:b<s.heap.objs.size:=uA q;exact hk b ob (λz=>gL (uS.mp z) (qS hb)) (by rw[size_push'];exact qS (nK hb)) (uB _ (uB _ q))
end
theorem bT{CX:CXT}{P:Program}{w:World}{K:W.Frag}{mg:xC}{base:Heap}{N:List Str}{q:Str}{sc:Scope}{f:Addr}{cdv:Value}{A:Around}{outer:List Env}{s:Shared}{H:Hp}{E:XK}:(gQ CX P w K mg base N q sc f cdv A outer s H E).nox.K=K:=rfl
theorem bC{CX:CXT}{P:Program}{w:World}{K:W.Frag}{mg:xC}{base:Heap}{N:List Str}{q:Str}{sc:Scope}{f:Addr}{cdv:Value}{A:Around}{outer:List Env}{s:Shared}{H:Hp}{E:XK}:(gQ CX P w K mg base N q sc f cdv A outer s H E).K=K:=rfl
def Hs(H:Hp)(a:Addr):Prop:=∃u,H a=some u
section
variable{H H':Hp}{p:Addr}{o:HO}
theorem New.hs(n:New H H' p o):Hs H' p:=⟨o,n.e⟩
end
section
variable{H:Hp}{Q:VK}{K:W.Frag}{l b:Addr}{xs ys:List V}{y:V}{σ:St}{D:Ends}
theorem adL{R:Prop}(h:SqL K H l xs)(k:R):tyV K "list" (.ref l) H/\R:=⟨.inl ⟨rfl,_,h⟩,k⟩
theorem adM(h:H l=some (.lst xs))(z:xs.length<sizeLine)(k:∀H',Off l H H'->H' l=some (.lst (xs++[y]))->Q .non H'):K_ (.ref l) [y] H Q:=⟨l,xs,y,rfl,rfl,h,z,k⟩
theorem adN(h:H l=some (.lst xs))(e:H b=some (.lst ys))(z:xs.length+ys.length<=sizeLine)(k:∀H',Off l H H'->H' l=some (.lst (xs++ys))->Q .non H'):Lg (.ref l) [.ref b] H Q:=⟨l,b,xs,ys,rfl,rfl,h,e,z,k⟩
theorem Jx{i:Int}{j:Nat}{v:V}{R:Hp->Prop}(h:H l=some (.lst xs))(e:ixN xs.length i=some j)(k:∀H',Off l H H'->H' l=some (.lst (xs.set j v))->R H'):Eo (.ref l) (.int i) v H R:=⟨l,xs,i,j,rfl,rfl,h,e,k⟩
theorem adO{lo hi:Option Int}(h:SqL K H l xs)(k:∀p H',New H H' p (.lst (xV xs lo hi))->Q (.ref p) H'):aaq K (.ref l) lo hi H Q:=⟨l,xs,rfl,h,k⟩
theorem aaE(h:H l=some (.lst xs))(e:H b=some (.lst ys))(z:xs.length+ys.length<=sizeLine)(k:∀p H',New H H' p (.lst (xs++ys))->Q (.ref p) H'):R7 (.ref l) (.ref b) H Q:=⟨l,b,xs,ys,rfl,rfl,h,e,z,k⟩
theorem Tf{n:Nat}(h:H l=some (.lst [y]))(z:n<=1000000)(k:∀p H',New H H' p (.lst (List.replicate n y))->Q (.ref p) H'):K8 (.ref l) (.int (n:Int)) H Q :=
 ⟨l,n,[y],rfl,rfl,h,by lia,by lia,by simp only[List.length_singleton,Int.toNat_natCast,Nat.one_mul];exact bQ z,λp H' q=>k p H' (by
  have e:(List.replicate ((n:Int).toNat) [y]).flatten=List.replicate n y:=by
   rw[Int.toNat_natCast];clear z q k h
   induction n with
   | zero=>rfl
   | succ n ih=>rw[List.replicate_succ,List.flatten_cons,ih];rfl
  rw[<- e];exact q)⟩
theorem aaF(h:SqL K H l xs)(k:∀p H',New H H' p (.lst xs)->Q (.ref p) H'):Le K [.ref l] H Q:=⟨l,xs,rfl,.inl h,k⟩
theorem w_sumL{ns:List Int}(h:SqL K H l (ns.map V.int))(hb:∀n∈ns,0<=n/\n<=1000000)(hz:ns.length<=1000000)(k:Q (.int ns.sum) H):Td K [.ref l] H Q:=⟨l,ns,rfl,h,hb,hz,k⟩
theorem aaG{ns:List Int}{d:Int}(h:SqL K H l (ns.map V.int))(hd:∀n∈ns,d<=n)(k:Q (.int (gK d ns)) H):Zc K [.ref l] (.int d) H Q:=⟨l,ns,d,rfl,rfl,h,hd,k⟩
theorem aaH{C dx:Addr}{fs:List (Str×V)}{m:Str}{R:Prop}(h:H l=some (.ins C dx fs))(e:fs.lookup m=none)(k:R):∃a' dx' fs',V.ref l=.ref a'/\H a'=some (.ins C dx' fs')/\fs'.lookup m=none/\R:=⟨l,dx,fs,rfl,h,e,k⟩
theorem aaI{i:Nat}{te:TE}{ti:TIp}{v:V}(e:σ[i]?=some (some v))(h:te σ H λy H1=>ti v y H1 λz H2=>D.nx (σ.set i (some z)) H2):ZQ i te ti D σ H:=⟨v,e,h⟩
theorem adP{n:Nat}{i:Int}(h0:0<=i)(h1:i<n):ixN n i=some i.toNat:=by unfold ixN;rw[if_pos h0,if_pos h1]
theorem ahf{x y:V}{r:List V}:atI (x::y::r) 1=some y:=bB (j:=1) rfl
theorem ahg{x y z:V}{r:List V}:atI (x::y::z::r) 2=some z:=bB (j:=2) rfl
theorem ahh{x y z w:V}{r:List V}:atI (x::y::z::w::r) 3=some w:=bB (j:=3) rfl
theorem ahi{A B:Prop}(k:A):if (true:Bool)=true then A else B:=by rw[zS rfl];exact k
theorem ahj{A B:Prop}(k:B):if (false:Bool)=true then A else B:=by rw[yB (by decide)];exact k
theorem adQ{A B:Prop}(k:B):if (!true:Bool)=true then A else B:=by rw[yB (by decide)];exact k
theorem adR{A B:Prop}(k:A):if (!false:Bool)=true then A else B:=by rw[zS (by decide)];exact k
theorem aaJ(h:H l=some (.tup xs))(k:Q (.bl true) H):kh K [.ref l,.ty "tuple"] H Q:=w_is (.tup h) (Ei (.tup h)) k
theorem aaK(h:H l=some (.lst xs))(k:Q (.bl true) H):kh K [.ref l,.ty "list"] H Q:=w_is (.lst h) (KZ (.lst h)) k
theorem aaL{i:Int}(k:Q (.bl true) H):kh K [.int i,.ty "int"] H Q:=w_is (cO.int (K:=K) (H:=H) i) (B_ (cO.int (K:=K) (H:=H) i)) k
theorem aaM{i:Int}(k:Q (.bl false) H):kh K [.int i,.ty "bool"] H Q:=w_is (cO.int (K:=K) (H:=H) i) (Ca (cO.int (K:=K) (H:=H) i)) k
theorem aaN{b:Bool}(k:Q (.bl true) H):kh K [.bl b,.ty "bool"] H Q:=w_is (cO.bl (K:=K) (H:=H) b) (Ca (cO.bl (K:=K) (H:=H) b)) k
theorem aaO{b:Bool}(k:Q (.bl true) H):kh K [.bl b,.ty "int"] H Q:=w_is (cO.bl (K:=K) (H:=H) b) (B_ (cO.bl (K:=K) (H:=H) b)) k
theorem Es{n:Nat}(h:n<1000000):n<sizeLine:=qE h (bQ (uC _))
theorem aaP{n i0 i1:Nat}{a b:V}{R:St->Hp->Prop}(hn:n=2)(hp:SqT K H l [a,b])(h:bw i0 a σ H λσ1 H1=>bw i1 b σ1 H1 R):DK K n (gF (bw i0) (gF (bw i1) Il)) (.ref l) σ H R:=by
 subst hn;exact S6 hp h
theorem Ln{i:Int}(h:SqL K H l xs)(h0:0<=i)(h1:i<xs.length)(k:∀v∈xs,Q v H):RL K (.ref l) (.int i) H Q:=let ⟨v,e,m⟩:=RW h0 h1;Sy h e (k v m)
theorem oV{rows:List (List V)}{i:Nat}{v:V}(h:aD H xs rows)(e:xs[i]?=some v):∃r q,rows[i]?=some r/\v=.ref q/\H q=some (.tup r):=by
 have hi:i<rows.length:=by rw[<- h.1];exact(qA.mp e).1
 obtain⟨q,e1,e2⟩:=h.2 i rows[i] (by simp);rw[e] at e1;exact⟨rows[i],q,by simp,Option.some.inj e1,e2⟩
theorem gw{te:TE}{fr:List Nat}{fvs:St}{rows:List (List V)}{F:List V->V}(hq:H l=some (.lst xs))(tp:aD H xs rows)(hz:xs.length<=1000000)(hf:(fr.map λi=>(σ[i]?).getD none)=fvs)
  (turn:∀(q:Addr)(r:List V)(H':Hp)(R:VK),r∈rows->Same H H'->H' q=some (.tup r)->(∀H2,Same H' H2->R (F r) H2)->te (some (.ref q)::fvs) H' R)
  (k:∀p H',New H H' p (.lst (rows.map F))->Q (.ref p) H'):cu (Itl K l) 1 fr (bw 0) mH te σ H Q:=by
 refine comp_map (P:=λi y=>∃r,rows[i]?=some r/\y=F r) (iC (xs:=xs)) hz hf (λH' s=>s.seq (SqL.of hq)) (λi v H' R hv s kk=>?_) λp H' ys n hl hP=>k p H' ?_
 ·obtain⟨r,q,e1,rfl,e2⟩:=oV tp hv;exact turn q r H' R (yY e1) s (s _ _ e2) λH2 s2=>kk _ _ s2 ⟨r,e1,rfl⟩
 ·have e:ys=rows.map F:=by
   apply List.ext_getElem?
   intro i;rw[wT];by_cases hi:i<ys.length
   ·obtain⟨r,e1,e2⟩:=hP i ys[i] (by simp);rw[e1,qB hi,e2]
    rfl
   ·have:¬ i<rows.length:=by rw[<- tp.1];lia
    rw[mP (by lia),mP (by lia)]
    rfl
  rw[e] at n;exact n
end
section
variable{K:W.Frag}{g:TG}{tb:TS}{D:Ends}{σ:St}{H:Hp}{tr:TA}
def xY(lo:Int)(n:Nat)(g:TG)(tb:TS)(D:Ends)(σ:St)(H:Hp):Prop:=∃W:Nat->Nat->St->Hp->Prop,(∃m,W 0 m σ H)/\∀i m σ H,W i m σ H ->
 ((Itr lo n).stop i H/\D.nx σ H)\/((Itr lo n).go i H/\∃N:St->Hp->Prop,(∀σ' H',N σ' H'->∃m',m'<m/\W (i+1) m' σ' H')/\∀x H',(Itr lo n).yld i H x H'->g x σ H' λσ2 H2=>tb { D with nx:=N,ct:=N,bk:=D.nx } σ2 H2)
theorem Lp{lo:Int}{n:Nat}(Pv:Nat->St->Hp->Prop)(h0:Pv 0 σ H)(hs:∀i σ H,i<n->Pv i σ H->g (.int (lo+i)) σ H λσ2 H2=>tb { D with nx:=Pv (i+1),ct:=Pv (i+1),bk:=D.nx } σ2 H2)(hd:∀σ H,Pv n σ H->D.nx σ H):xY lo n g tb D σ H:=yr Pv h0 hs hd
theorem Xz(h:tr σ H λvs H1=>∃j:Int,vs=[.int j]/\-(2 ^ 62)<=j/\j<2 ^ 62/\xY 0 j.toNat g tb D σ H1):xR (yp tr) g tb D σ H:=h
theorem XC(h:tr σ H λvs H1=>∃i j:Int,vs=[.int i,.int j]/\(-(2 ^ 62)<=i/\i<2 ^ 62/\-(2 ^ 62)<=j/\j<2 ^ 62)/\xY i (j-i).toNat g tb D σ H1):xR (Rp tr) g tb D σ H:=h
def Jy(K:PySem.W.Frag)(a:Addr)(xs:List V)(g:TG)(tb:TS)(D:Ends)(σ:St)(H:Hp):Prop:=∃W:Nat->Nat->St->Hp->Prop,(∃m,W 0 m σ H)/\∀i m σ H,W i m σ H ->
      ((Ite K a xs).stop i H/\D.nx σ H)\/((Ite K a xs).go i H/\∃N:St->Hp->Prop,(∀σ' H',N σ' H'->∃m',m'<m/\W (i+1) m' σ' H')/\∀x H',(Ite K a xs).yld i H x H'->g x σ H' λσ2 H2=>tb { D with nx:=N,ct:=N,bk:=D.nx } σ2 H2)
theorem aaQ(h:tr σ H λvs H1=>∃a xs,vs=[.ref a]/\SqL K H1 a xs/\Jy K a xs g tb D σ H1):xR (R_ K tr) g tb D σ H:=h
theorem ahk{a:Addr}{xs:List V}(h:SqL K H a xs)(k:Jy K a xs g tb D σ H):∃a' xs',[V.ref a]=[.ref a']/\SqL K H a' xs'/\Jy K a' xs' g tb D σ H:=⟨a,xs,rfl,h,k⟩
theorem Cq{a:Addr}{xs:List V}(Pv:Nat->St->Hp->Prop)(h0:Pv 0 σ H)(hl:∀i σ H,i<=xs.length->Pv i σ H->SqL K H a xs)
  (hs:∀i x T σ H H',xs[i]?=some x->Pv i σ H->New H H' T (.tup [.int i,x])->g (.ref T) σ H' λσ2 H2=>tb { D with nx:=Pv (i+1),ct:=Pv (i+1),bk:=D.nx } σ2 H2) (hd:∀σ H,Pv xs.length σ H->D.nx σ H):Jy K a xs g tb D σ H:=Sg Pv h0 hl hs hd
theorem ahl{a:Addr}{xs:List V}(h:SqL K H a xs)(k:Jt K a g tb D σ H):∃a',V.ref a=.ref a'/\(∃xs,SqL K H a' xs)/\Jt K a' g tb D σ H:=⟨a,rfl,⟨xs,h⟩,k⟩
theorem ahm{a:Addr}{xs:List V}{nt:Nat}{fr:List Nat}{c:TT}{te:TE}{Q:VK}(h:SqL K H a xs)(k:cu (Itl K a) nt fr g c te σ H Q):∃a',V.ref a=.ref a'/\(∃xs,SqL K H a' xs)/\cu (Itl K a') nt fr g c te σ H Q:=⟨a,rfl,⟨xs,h⟩,k⟩
end
section
variable{K:W.Frag}{σ:St}{H:Hp}{Q:VK}{ta tv:TE}{t:TA}{f m:Str}{C:Addr}{sp:Sp}{E:XK}{D:Ends}
def XD(K:W.Frag)(f:Str)(y x:V)(H:Hp)(R:Hp->Prop):Prop:=∃a C dx fs,x=.ref a/\H a=some (.ins C dx fs)/\Cls K C/\bO K C f/\fs.length<1000/\R (upd H a (.ins C dx (dZ f y fs)))
theorem Tg(h:tv σ H λy H1=>ta σ H1 λx H2=>XD K f y x H2 λH3=>D.nx σ H3):Z4 K ta tv f D σ H:=h
theorem aaR{l dx:Addr}{fs:List (Str×V)}{y:V}{R:Hp->Prop}(ho:H l=some (.ins C dx fs))(c:Cls K C)(n:bO K C f)(z:fs.length<1000)(k:∀H',Off l H H'->H' l=some (.ins C dx (dZ f y fs))->R H'):XD K f y (.ref l) H R :=
 ⟨l,C,dx,fs,rfl,ho,c,n,z,k _ Off.upd aV⟩
def Jz(C:Addr)(sp:Sp)(E:XK)(t:TA):TE:=λσ H Q=>t σ H λvs H1=>∀x dx H2,New H1 H2 x (.ins C dx [])->sp (.ref x::vs) H2 (λv H3=>v=.non/\Q (.ref x) H3) E
theorem Ti(h:t σ H λvs H1=>∀x dx H2,New H1 H2 x (.ins C dx [])->sp (.ref x::vs) H2 (λv H3=>v=.non/\Q (.ref x) H3) E):Jz C sp E t σ H Q:=h
theorem Tj(h:ta σ H λx H1=>∃a dx fs,x=.ref a/\H1 a=some (.ins C dx fs)/\fs.lookup m=none/\t σ H1 λvs H2=>sp (x::vs) H2 Q E):yw C m sp [] E ta t σ H Q:=by
 have e:(λ(x:V) (H1:Hp)=>∃a dx fs,x=.ref a/\H1 a=some (.ins C dx fs)/\fs.lookup m=none/\t σ H1 λvs H2=>sp (x::(vs++[])) H2 Q E)=λx H1=>∃a dx fs,x=.ref a/\H1 a=some (.ins C dx fs)/\fs.lookup m=none/\t σ H1 λvs H2=>sp (x::vs) H2 Q E:=by
  simp only[List.append_nil]
 show ta σ H λx H1=>∃a dx fs,x=.ref a/\H1 a=some (.ins C dx fs)/\fs.lookup m=none/\t σ H1 λvs H2=>sp (x::(vs++[])) H2 Q E
 rw[e];exact h
end
section
variable{X:Cx}{CX:CXT}{k m:Nat}{x:Str}{ps:List Str}{sp:Sp}{E:XK}{p pos:Pos}{e:Expr}{es:List Expr}{t:TA}{C:Addr}
theorem sZ(D:Mak X.prog X.w X.K X.mg X.base CX k x C ps sp)(hr:Room m X.A)(ha:PA X (e::es) t)(hk:k+1<=m:=by decide)(hx:Passes CX X E:=by exact yJ)(hg:Gl X x:=by rfl)
  (hdb:(x==("__debug__" : Str))=false:=by decide) (he:starEach (e::es) X.env=(false,eval e X.env)::starEach es X.env:=by rfl) (hpl:(backTo pos (starEach es X.env)).any (·.1)=false:=by rfl) :
  PE X (.Call (.Name x p) (e::es) [] pos) (Jz C sp E t):=by
 obtain⟨f,fd,F,M,g,b⟩:=D.ex;intro pins s σ H Q I h;refine wpAny_Call_Name_kw (jA I hg g ?_ hdb);refine W.callWith_K (h₀:=X.base) I.ok.mod.kin M.kp (thn (ha pos pins s σ H _ I h) λus s1 ⟨vs,H1,I1,r,q⟩=>⟨I1.kIn,?_⟩) he hpl;refine RB M F (hr.mono hk) b .nil hx I1 r λy dy h1 h2 h3=>?_
 rw[mI];exact q y dy _ ⟨O9 h1 h2,aV,λa u z=>aK z h1⟩
end
def ahn:V->Int->Bool
 | .int i,lo=>decide (lo<=i)
 | _,_=>false
def inB:V->Int->Int->Bool
 | .int i,lo,hi=>decide (lo<=i) && decide (i<=hi)
 | _,_,_=>false
section
variable{K:W.Frag}{H:Hp}{Q:VK}{E:XK}{x:V}{n:String}{p q:Addr}{a b c lo hi:Int}
def Et(K:W.Frag):Sp:=λvs H Q _=>∃x n,vs=[x]/\cO K H x (.type n)/\Q (.bl (isW x)) H
theorem Lq(ty:cO K H x (.type n))(k:Q (.bl (isW x)) H):Et K [x] H Q E:=⟨x,n,rfl,ty,k⟩
def m6(K:W.Frag):Sp:=λvs H Q _=>∃x n lo,vs=[x,.int lo]/\cO K H x (.type n)/\Q (.bl (ahn x lo)) H
theorem XF(k:Q (.bl (decide (lo<=a))) H):m6 K [.int a,.int lo] H Q E:=⟨_,_,lo,rfl,.int _,k⟩
def gV(K:W.Frag):Sp:=λvs H Q _=>∃x n lo hi,vs=[x,.int lo,.int hi]/\cO K H x (.type n)/\Q (.bl (inB x lo hi)) H
theorem Eu(ty:cO K H x (.type n))(k:Q (.bl (inB x lo hi)) H):gV K [x,.int lo,.int hi] H Q E:=⟨x,n,lo,hi,rfl,ty,k⟩
def uM(K:W.Frag):Sp:=λvs H Q _=>∃x n,vs=[x]/\cO K H x (.type n)/\Q (.bl (inB x 16 240)) H
def qz:Sp:=λvs H Q _=>∃(q:Addr)(a b:Int),vs=[.ref q]/\H q=some (.tup [.int a,.int b])/\Q (.int (a+b)) H
theorem adS(h:H q=some (.tup [.int a,.int b]))(k:Q (.int (a+b)) H):qz [.ref q] H Q E:=⟨q,a,b,rfl,h,k⟩
def gG(ws:xD):List (List V):=ws.map λw=>[V.int (w.1:Nat),V.int (w.2:Nat)]
def dR(ws:xD):List Int:=ws.map λw=>((w.2:Nat):Int)
theorem dD(ws:xD):(gG ws).length=ws.length:=wP ..
def uN:Sp:=λvs H Q _=>∃(p:Addr)(ys:List V)(ws:xD),vs=[.ref p]/\H p=some (.lst ys)/\aD H ys (gG ws)/\ws.length<=1000/\∀H',Same H H'->Q (.int (gK 0 (dR ws))) H'
def uO(K:W.Frag):Sp:=λvs H Q _=>∃(a:Addr)(ns:List Int)(k:Int),vs=[.ref a,.int k]/\SqL K H a (ns.map V.int)/\0<=k/\∀c:Int,Q (.int c) H
theorem XH{ns:List Int}{m:Int}(h:SqL K H p (ns.map V.int))(h0:0<=m)(k:∀c:Int,Q (.int c) H):uO K [.ref p,.int m] H Q E:=⟨p,ns,m,rfl,h,h0,k⟩
def Cr:Sp:=λvs H Q _=>∃c:Int,vs=[.int c]/\∀(p:Addr)(a b:Int)(H':Hp),New H H' p (.lst [.int a,.int b,.int 0])->Q (.ref p) H'
theorem aaS(k:∀(p:Addr)(x y:Int)(H':Hp),New H H' p (.lst [.int x,.int y,.int 0])->Q (.ref p) H'):Cr [.int a] H Q E:=⟨a,rfl,k⟩
end
section
variable{K:W.Frag}{g:TG}{tb:TS}{D:Ends}{σ:St}{H:Hp}{Q:VK}{p q:Addr}{ys:List V}{rows:List (List V)}
theorem jj{n:Nat}(Pv:Nat->St->Hp->Prop)(h0:Pv 0 σ H)(hs:∀i σ H,i<n->Pv i σ H->g (.int i) σ H λσ2 H2=>tb { D with nx:=Pv (i+1),ct:=Pv (i+1),bk:=D.nx } σ2 H2)(hd:∀σ H,Pv n σ H->D.nx σ H):xY 0 n g tb D σ H :=
 yr Pv h0 (λi σ H hi h=>by rw[Int.zero_add];exact hs i σ H hi h) hd
theorem aD.snoc{r:List V}(h:aD H ys rows)(hq:H q=some (.tup r)):aD H (ys++[.ref q]) (rows++[r]):=by
 refine⟨by rw[yT,yT,h.1];rfl,λj s z=>?_⟩;by_cases hj:j<rows.length
 ·rw[wE hj] at z;obtain⟨x,e1,e2⟩:=h.2 j s z;exact⟨x,by rw[wE (by rw[h.1];exact hj)];exact e1,e2⟩
 ·have hj2:j=rows.length:=by
   have:=(qA.mp z).1;rw[yT,List.length_singleton] at this
   lia
  subst hj2;rw[nE (uC _),Nat.sub_self] at z;cases z;exact⟨q,by rw[<- h.1,nE (uC _),Nat.sub_self];rfl,hq⟩
theorem Ew{zs:List V}(hp:H p=some (.lst ys))(tp:aD H ys rows)(hf:∀r∈rows,∀v∈r,gq v=true)(hq:H q=some (.lst []))(k:Q (.bl (!decide (rows=[]))) H):Js K (.ref p) (.ref q) H Q :=
 ⟨_,_,uL (SqL.of hp) tp hf,Xw (SqL.of hq),rX (yS _) (by decide),by
  cases rows with
  | nil=>simpa[dW,dN] using k
  | cons a t=>simpa[dW,dN] using k⟩
def aho:Option (Nat×Nat)->Dt
 | none=>.non
 | some w=>.tup [.int (w.1:Nat),.int (w.2:Nat)]
end
theorem Ey{K:W.Frag}{l:Addr}{σ:St}{H:Hp}{xs:List V}{c:TT}{Q:VK}{fr:List Nat}{fvs:St}{p:V->Bool}(hq:SqL K H l xs)(hz:xs.length<=1000000)(hf:(fr.map λi=>(σ[i]?).getD none)=fvs)
  (turn:∀(v:V)(H':Hp)(R:Bool->Hp->Prop),v∈xs->Same H H'->(∀H2,Same H' H2->R (p v) H2)->c (some v::fvs) H' R)
  (k:∀l H',New H H' l (.lst (xs.filter p))->Q (.ref l) H'):cu (Itl K l) 1 fr (bw 0) c (dM 0) σ H Q:=by
 have:=yO (σ:=σ) (H:=H) (wi:=λ_ H R=>R (Itl K l) H) (J:=Itl K l) (c:=c) (Q:=Q) (fr:=fr) (fvs:=fvs) (p:=p) hz hf (iC (K:=K) (a:=l) (xs:=xs)) (λR h=>h) (λH' s=>s.seq hq) (λi v H' R hv s kk=>turn v H' R (yY hv) s kk) k;exact this
def isTup:HO->Bool
 | .tup _=>true
 | .frz _ _=>true
 | _=>false
def Tst(H H':Hp):Prop:=∀q u,isTup u=true->H q=some u->H' q=some u
inductive Im where
 | tup (q:Addr) (r:List V)
 | tps (ys:List V) (rs:List (List V))
 | fct (φ:Hp->Prop) (st:∀H H',Tst H H'->φ H->φ H')
def Im.holds(H:Hp):Im->Prop
 | .tup q r=>H q=some (.tup r)
 | .tps ys rs=>aD H ys rs
 | .fct φ _=>φ H
theorem Im.stay{H H':Hp}(t:Tst H H'):∀{f:Im},f.holds H->f.holds H'
 | .tup q r,h=>t q _ rfl h
 | .tps ys rs,h=>⟨h.1,λj r e=>let ⟨q,a,b⟩:=h.2 j r e;⟨q,a,t q _ rfl b⟩⟩
 | .fct φ st,h=>st H H' t h
class SH(H0:outParam Hp)(M:outParam (List Addr))(H:Hp)(L:outParam (List (Addr×HO)))(I:outParam (List Im)):Prop where
 fr:∀b u,b ∉ M->H0 b=some u->H b=some u
 im:∀f∈I,f.holds H
 at':∀c∈L,H c.1=some c.2
 nd:(L.map (·.1)).Nodup
 mu:∀c∈L,isTup c.2=false
 ch:∀c∈L,c.1∈M\/∀b u,H0 b=some u->b≠c.1
inductive Up(l:Addr)(o':HO):List (Addr×HO)->List (Addr×HO)->Prop
 | head {o:HO} {L:List (Addr×HO)}:Up l o' ((l,o)::L) ((l,o')::L)
 | tail {c:Addr×HO} {L L':List (Addr×HO)} (h:Up l o' L L'):Up l o' (c::L) (c::L')
theorem Up.keys{l:Addr}{o':HO}{L L':List (Addr×HO)}(h:Up l o' L L'):L'.map (·.1)=L.map (·.1):=by
 induction h with
 | head=>rfl
 | tail h ih=>rw[oS,oS,ih]
theorem Up.mem{l:Addr}{o':HO}{L L':List (Addr×HO)}(h:Up l o' L L'):l∈L.map (·.1):=by
 induction h with
 | head=>exact zC
 | tail h ih=>exact zD _ ih
theorem Up.each{l:Addr}{o':HO}{L L':List (Addr×HO)}(h:Up l o' L L')(nd:(L.map (·.1)).Nodup):∀c∈L',c=(l,o')\/(c∈L/\c.1≠l):=by
 induction h with
 | @head o L =>
  intro c hc;rcases vT.mp hc with rfl|hc
  ·exact .inl rfl
  ·refine .inr ⟨zD _ hc,λz=>?_⟩;rw[oS] at nd;exact(List.nodup_cons.mp nd).1 (by show l∈_;rw[<- z];exact List.mem_map_of_mem (f:=(·.1)) hc)
 | @tail d L L' h ih =>
  intro c hc;rw[oS] at nd;have nd':=List.nodup_cons.mp nd;rcases vT.mp hc with rfl|hc
  ·exact .inr ⟨zC,λz=>nd'.1 (z▸h.mem)⟩
  ·rcases ih nd'.2 c hc with e|⟨e1,e2⟩
   ·exact .inl e
   ·exact .inr ⟨zD _ e1,e2⟩
theorem Up.src{l:Addr}{o':HO}{L L':List (Addr×HO)}(h:Up l o' L L'):∃o,(l,o)∈L:=by
 induction h with
 | head=>exact⟨_,zC⟩
 | tail h ih=>obtain⟨o,ho⟩:=ih;exact⟨o,zD _ ho⟩
inductive Pk(c:Addr×HO):List (Addr×HO)->List (Addr×HO)->Prop
 | head {L:List (Addr×HO)}:Pk c (c::L) L
 | tail {d:Addr×HO} {L R:List (Addr×HO)} (h:Pk c L R):Pk c (d::L) (d::R)
inductive Sb:List (Addr×HO)->List (Addr×HO)->Prop
 | nil {L:List (Addr×HO)}:Sb [] L
 | cons {c:Addr×HO} {L' L R:List (Addr×HO)} (h:Pk c L R) (t:Sb L' R):Sb (c::L') L
theorem Pk.mem{c:Addr×HO}{L R:List (Addr×HO)}(h:Pk c L R):c∈L/\∀d∈R,d∈L:=by
 induction h with
 | head=>exact⟨zC,λd hd=>zD _ hd⟩
 | tail h ih =>
  refine⟨zD _ ih.1,λd hd=>?_⟩;rcases vT.mp hd with rfl|hd
  ·exact zC
  ·exact zD _ (ih.2 d hd)
theorem Pk.nd{c:Addr×HO}{L R:List (Addr×HO)}(h:Pk c L R)(nd:(L.map (·.1)).Nodup):(R.map (·.1)).Nodup/\∀d∈R,d.1≠c.1:=by
 induction h with
 | head =>
  rw[oS] at nd;have:=List.nodup_cons.mp nd;exact⟨this.2,λd hd z=>this.1 (z▸List.mem_map_of_mem hd)⟩
 | @tail d L R h ih =>
  rw[oS] at nd;have nd':=List.nodup_cons.mp nd;obtain⟨i1,i2⟩:=ih nd'.2;refine⟨by
   rw[oS,List.nodup_cons];refine⟨λz=>?_,i1⟩;obtain⟨x,hx,ex⟩:=jI.mp z;exact nd'.1 (ex▸List.mem_map_of_mem (h.mem.2 x hx)),λx hx=>?_⟩
  rcases vT.mp hx with rfl|hx
  ·exact λz=>nd'.1 (z▸List.mem_map_of_mem h.mem.1)
  ·exact i2 x hx
theorem Sb.mem{L' L:List (Addr×HO)}(h:Sb L' L):∀c∈L',c∈L:=by
 induction h with
 | nil=>intro c hc;cases hc
 | cons h t ih =>
  intro c hc;rcases vT.mp hc with rfl|hc
  ·exact h.mem.1
  ·exact h.mem.2 c (ih c hc)
theorem Sb.nd{L' L:List (Addr×HO)}(h:Sb L' L):(L.map (·.1)).Nodup->(L'.map (·.1)).Nodup:=by
 induction h with
 | nil=>intro _;exact List.nodup_nil
 | cons h t ih =>
  intro nd;obtain⟨n1,n2⟩:=h.nd nd;rw[oS,List.nodup_cons];refine⟨λz=>?_,ih n1⟩;obtain⟨x,hx,ex⟩:=jI.mp z;exact n2 x (t.mem x hx) ex
section
variable{H0 H H':Hp}{M:List Addr}{L L':List (Addr×HO)}{I I':List Im}{p q l a:Addr}{o o' u:HO}{xs ys r:List V}{rs:List (List V)}{K:W.Frag}
theorem SH.nil:SH H M H [] []:=⟨λ_ _ _ h=>h,(λ_ h=>by cases h),(λ_ h=>by cases h),List.nodup_nil,(λ_ h=>by cases h),(λ_ h=>by cases h)⟩
theorem SH.fP(F:SH H0 M H0 L I)(hm:p∈M)(h:H0 p=some o)(ht:isTup o=false)(ne:∀c∈L,c.1≠p):SH H0 M H0 ((p,o)::L) I:=by
 refine⟨F.fr,F.im,?_,?_,?_,?_⟩
 ·intro c hc;rcases vT.mp hc with rfl|hc
  ·exact h
  ·exact F.at' c hc
 ·rw[oS,List.nodup_cons];refine⟨λz=>?_,F.nd⟩;obtain⟨x,hx,ex⟩:=jI.mp z;exact ne x hx ex
 ·intro c hc;rcases vT.mp hc with rfl|hc
  ·exact ht
  ·exact F.mu c hc
 ·intro c hc;rcases vT.mp hc with rfl|hc
  ·exact .inl hm
  ·exact F.ch c hc
theorem SH.qC(F:SH H0 M H L I)(h:H q=some (.tup r)):SH H0 M H L (.tup q r::I):=⟨F.fr,λf hf=>by
 rcases vT.mp hf with rfl|hf
 ·exact h
 ·exact F.im f hf,F.at',F.nd,F.mu,F.ch⟩
theorem SH.cU(F:SH H0 M H L I)(h:aD H ys rs):SH H0 M H L (.tps ys rs::I):=⟨F.fr,λf hf=>by
 rcases vT.mp hf with rfl|hf
 ·exact h
 ·exact F.im f hf,F.at',F.nd,F.mu,F.ch⟩
theorem SH.jc{φ:Hp->Prop}{st:∀H H',Tst H H'->φ H->φ H'}(F:SH H0 M H L I)(h:φ H):SH H0 M H L (.fct φ st::I):=⟨F.fr,λf hf=>by
 rcases vT.mp hf with rfl|hf
 ·exact h
 ·exact F.im f hf,F.at',F.nd,F.mu,F.ch⟩
theorem SH.same(F:SH H0 M H L I)(s:Same H H'):SH H0 M H' L I:=⟨λb u n e=>s b u (F.fr b u n e),λf hf=>Im.stay (λq u _ e=>s q u e) (F.im f hf),λc hc=>s _ _ (F.at' c hc),F.nd,F.mu,F.ch⟩
theorem SH.newT(F:SH H0 M H L I)(n:New H H' q (.tup r)):SH H0 M H' L (.tup q r::I):=(F.same n.s).qC n.e
theorem SH.aaT(F:SH H0 M H L I)(n:New H H' p o)(ht:isTup o=false):SH H0 M H' ((p,o)::L) I:=by
 have F':=F.same n.s;refine⟨F'.fr,F'.im,?_,?_,?_,?_⟩
 ·intro c hc;rcases vT.mp hc with rfl|hc
  ·exact n.e
  ·exact F'.at' c hc
 ·rw[oS,List.nodup_cons];refine⟨λz=>?_,F.nd⟩;obtain⟨x,hx,ex⟩:=jI.mp z;exact n.n _ _ (F.at' x hx) ex
 ·intro c hc;rcases vT.mp hc with rfl|hc
  ·exact ht
  ·exact F.mu c hc
 ·intro c hc;rcases vT.mp hc with rfl|hc
  ·by_cases hm:p∈M
   ·exact .inl hm
   ·exact .inr λb u e z=>by
     by_cases hb:b∈M
     ·exact hm (by have z':b=p:=z;rw[<- z'];exact hb)
     ·exact n.n b u (F.fr b u hb e) z
  ·exact F.ch c hc
theorem SH.newL(F:SH H0 M H L I)(n:New H H' p (.lst xs)):SH H0 M H' ((p,.lst xs)::L) I:=F.aaT n rfl
theorem SH.ahp{C dx:Addr}{fs:List (Str×V)}(F:SH H0 M H L I)(n:New H H' p (.ins C dx fs)):SH H0 M H' ((p,.ins C dx fs)::L) I:=F.aaT n rfl
theorem SH.newR(F:SH H0 M H L I)(n:New H H' p (.lst ys))(t:aD H' ys rs):SH H0 M H' ((p,.lst ys)::L) (.tps ys rs::I):=(F.newL n).cU t
theorem SH.kp(F:SH H0 M H L I)(k:Kp l H H')(e:H' l=some o')(u:Up l o' L L')(ht:isTup o'=false:=by rfl):SH H0 M H' L' I:=by
 obtain⟨o,ho⟩:=u.src;have hl:=F.at' _ ho;have hu:=F.mu _ ho;refine⟨λb w nb e0=>k b w (λz=>?_) (F.fr b w nb e0),λf hf=>Im.stay (λq v hv e1=>k q _ (λz=>?_) e1) (F.im f hf),λc hc=>?_,by rw[u.keys];exact F.nd,λc hc=>?_,λc hc=>?_⟩
 ·rcases F.ch _ ho with h|h
  ·exact nb (by rw[z];exact h)
  ·exact h b w e0 z
 ·rw[z,hl] at e1;cases e1;rw[hu] at hv;cases hv
 ·rcases u.each F.nd c hc with rfl|⟨h1,h2⟩
  ·exact e
  ·exact k _ _ h2 (F.at' c h1)
 ·rcases u.each F.nd c hc with rfl|⟨h1,h2⟩
  ·exact ht
  ·exact F.mu c h1
 ·rcases u.each F.nd c hc with rfl|⟨h1,h2⟩
  ·exact F.ch (l,o) ho
  ·exact F.ch c h1
theorem SH.ahq(F:SH H0 M H L I)(f:Off l H H')(e:H' l=some (.lst xs))(u:Up l (.lst xs) L L'):SH H0 M H' L' I:=F.kp f.kp e u rfl
theorem SH.kpL(F:SH H0 M H L I)(f:Kp l H H')(e:H' l=some (.lst xs))(u:Up l (.lst xs) L L'):SH H0 M H' L' I:=F.kp f e u rfl
theorem SH.ahr{C dx:Addr}{fs:List (Str×V)}(F:SH H0 M H L I)(f:Off l H H')(e:H' l=some (.ins C dx fs))(u:Up l (.ins C dx fs) L L'):SH H0 M H' L' I:=F.kp f.kp e u rfl
theorem SH.raw(F:SH H0 M H L I)(m:(a,o)∈L):H a=some o:=F.at' _ m
theorem SH.tup(F:SH H0 M H L I)(m:.tup q r∈I):H q=some (.tup r):=F.im _ m
theorem SH.tps(F:SH H0 M H L I)(m:.tps ys rs∈I):aD H ys rs:=F.im _ m
theorem SH.sq(F:SH H0 M H L I)(h:SqL K H0 a xs)(n:a ∉ M):SqL K H a xs:=by
 rcases h with(h|⟨o,h⟩)|h
 ·exact .inl (.inl (F.fr a _ n h))
 ·exact .inl (.inr ⟨o,F.fr a _ n h⟩)
 ·exact .inr h
theorem SH.sub(F:SH H0 M H L I)(s:Sb L' L)(t:∀f∈I',f∈I):SH H0 M H L' I':=⟨F.fr,λf hf=>F.im f (t f hf),λc hc=>F.at' c (s.mem c hc),s.nd F.nd,λc hc=>F.mu c (s.mem c hc),λc hc=>F.ch c (s.mem c hc)⟩
theorem SH.sm(F:SH H0 [] H L I):Same H0 H:=λb u e=>F.fr b u vE e
theorem SH.kpo(F:SH H0 [p] H L I):Kp p H0 H:=λb u n e=>F.fr b u (λz=>n (uS.mp z)) e
theorem SH.nw(F:SH H0 [] H L I)(m:(q,o)∈L):New H0 H q o:=⟨F.sm,F.at' _ m,λb u e=>by
 rcases F.ch _ m with h|h
 ·exact gL h vE
 ·exact h b u e⟩
theorem SH.fresh(F:SH H0 M H L I)(m:(q,o)∈L)(n:q ∉ M):∀b u,H0 b=some u->b≠q:=λb u e=>by
 rcases F.ch _ m with h|h
 ·exact gL h n
 ·exact h b u e
theorem nm0:a ∉ ([]:List Addr):=vE
theorem nm1(h:a≠p):a ∉ [p]:=λz=>h (uS.mp z)
theorem SH.app(F:SH H0 M H L I)(m:.tps ys rs∈I)(m':.tup q r∈I):SH H0 M H L (.tps (ys++[.ref q]) (rs++[r])::I):=F.cU ((F.tps m).snoc (F.tup m'))
end
class Go(G:Prop)(G':outParam Prop):Prop where
 go:G'->G
theorem go1{G G':Prop}[h:Go G G'](k:G'):G:=h.go k
class LkL(L:List (Addr×HO))(a:Addr)(o:outParam HO):Prop where
 m:(a,o)∈L
class LkI(I:List Im)(a:Addr)(r:outParam (List V)):Prop where
 m:.tup a r∈I
class LkP(I:List Im)(ys:List V)(rs:outParam (List (List V))):Prop where
 m:.tps ys rs∈I
class LkU(L:List (Addr×HO))(l:Addr)(o:HO)(L':outParam (List (Addr×HO))):Prop where
 u:Up l o L L'
class Old(H0:Hp)(M:List Addr)(a:Addr)(o:outParam HO):Prop where
 e:H0 a=some o
 n:a ∉ M
class aaU(K:W.Frag)(H0:Hp)(M:List Addr)(a:Addr)(xs:outParam (List V)):Prop where
 e:SqL K H0 a xs
 n:a ∉ M
class eO(H0:Hp)(ys:List V)(rs:outParam (List (List V))):Prop where
 e:aD H0 ys rs
class Hat(H:Hp)(a:Addr)(o:outParam HO):Prop where
 e:H a=some o
class SqA(K:W.Frag)(H:Hp)(a:Addr)(xs:outParam (List V)):Prop where
 e:SqL K H a xs
class SqB(K:W.Frag)(H:Hp)(a:Addr)(xs:outParam (List V)):Prop where
 e:SqT K H a xs
class TpA(H:Hp)(ys:List V)(rs:outParam (List (List V))):Prop where
 e:aD H ys rs
class AtI(xs:List V)(i:Int)(v:outParam V):Prop where
 e:atI xs i=some v
section
variable{H0 H H':Hp}{M:List Addr}{L L':List (Addr×HO)}{I:List Im}{a p l:Addr}{o o':HO}{c:Addr×HO}{f:Im}{r xs ys:List V}{rs:List (List V)}{K:W.Frag}{v v0 v1 v2:V}
instance ajt[h:LkL L a o]:LkL (c::L) a o:=⟨zD _ h.m⟩
instance aju:LkL ((a,o)::L) a o:=⟨zC⟩
instance ajv[h:LkI I a r]:LkI (f::I) a r:=⟨zD _ h.m⟩
instance ajw:LkI (.tup a r::I) a r:=⟨zC⟩
instance ajx[h:LkP I ys rs]:LkP (f::I) ys rs:=⟨zD _ h.m⟩
instance ajy:LkP (.tps ys rs::I) ys rs:=⟨zC⟩
instance ajz[h:LkU L l o L']:LkU (c::L) l o (c::L'):=⟨.tail h.u⟩
instance ajA:LkU ((l,o')::L) l o ((l,o)::L):=⟨.head⟩
instance afz[F:SH H0 M H L I][h:Old H0 M a o]:Hat H a o:=⟨F.fr a o h.n h.e⟩
instance afA[F:SH H0 M H L I][h:LkI I a r]:Hat H a (.tup r):=⟨F.tup h.m⟩
instance afB[F:SH H0 M H L I][h:LkL L a o]:Hat H a o:=⟨F.raw h.m⟩
instance afC[F:SH H0 M H L I][h:aaU K H0 M a xs]:SqA K H a xs:=⟨F.sq h.e h.n⟩
instance afD[h:Hat H a (.lst xs)]:SqA K H a xs:=⟨.of h.e⟩
instance afE[h:Hat H a (.tup xs)]:SqB K H a xs:=⟨.of h.e⟩
instance afF{H0:Hp}{L:List (Addr×HO)}{I:List Im}[F:SH H0 [] H L I][h:eO H0 ys rs]:TpA H ys rs:=⟨h.e.same F.sm⟩
instance afG[F:SH H0 M H L I][h:LkP I ys rs]:TpA H ys rs:=⟨F.tps h.m⟩
instance at0:AtI (v::r) 0 v:=⟨adl⟩
instance at1:AtI (v0::v::r) 1 v:=⟨ahf⟩
instance at2:AtI (v0::v1::v::r) 2 v:=⟨ahg⟩
instance at3:AtI (v0::v1::v2::v::r) 3 v:=⟨ahh⟩
variable{Z:Addr->Hp->Prop}{R:Hp->Prop}{C dx:Addr}{fs:List (Str×V)}
instance ahs[F:SH H0 M H L I]:Go (∀p H',New H H' p (.tup xs)->Z p H') (∀H' p,SH H0 M H' L (.tup p xs::I)->Z p H'):=⟨λk p H' n=>k H' p (F.newT n)⟩
instance aht[F:SH H0 M H L I]:Go (∀p H',New H H' p (.lst xs)->Z p H') (∀H' p,SH H0 M H' ((p,.lst xs)::L) I->Z p H'):=⟨λk p H' n=>k H' p (F.newL n)⟩
instance ahu[F:SH H0 M H L I][u:LkU L l (.lst xs) L']:Go (∀H',Off l H H'->H' l=some (.lst xs)->R H') (∀H',SH H0 M H' L' I->R H'):=⟨λk H' f e=>k H' (F.ahq f e u.u)⟩
instance afH[F:SH H0 M H L I][u:LkU L l (.ins C dx fs) L']:Go (∀H',Off l H H'->H' l=some (.ins C dx fs)->R H') (∀H',SH H0 M H' L' I->R H'):=⟨λk H' f e=>k H' (F.ahr f e u.u)⟩
instance ajb[F:SH H0 M H L I][u:LkU L l (.lst xs) L']:Go (∀H',Kp l H H'->H' l=some (.lst xs)->R H') (∀H',SH H0 M H' L' I->R H'):=⟨λk H' f e=>k H' (F.kpL f e u.u)⟩
instance afI[F:SH H0 M H L I]:Go (∀H',Same H H'->R H') (∀H',SH H0 M H' L I->R H'):=⟨λk H' s=>k H' (F.same s)⟩
instance afJ[F:SH H0 M H L I]:Go (∀p ys H',New H H' p (.lst ys)->aD H' ys rs->Z p H') (∀H' p ys,ys.length=rs.length->SH H0 M H' ((p,.lst ys)::L) (.tps ys rs::I)->Z p H'):=⟨λk p ys H' n t=>k H' p ys t.1 (F.newR n t)⟩
def Sd(A B:Prop):Prop:=A/\B
theorem sd{A B:Prop}(a:A)(b:B):Sd A B:=⟨a,b⟩
class oW(K:W.Frag)(C:Addr)(f:Str):Prop where
 c:Cls K C
 n:bO K C f
class FLk(fs:List (Str×V))(f:Str)(v:outParam V):Prop where
 e:fs.lookup f=some v
class FNo(fs:List (Str×V))(f:Str):Prop where
 e:fs.lookup f=none
theorem SH.nwC{H0:Hp}{L:List (Addr×HO)}{I:List Im}[F:SH H0 [] H L I][h:LkL L p o]:New H0 H p o:=F.nw h.m
theorem aM[h:Hat H a o]:H a=some o:=h.e
variable{Q:VK}{R':Prop}{σ:St}{i j:Int}{f m:Str}{y:V}{b:Addr}{lo hi:Option Int}
instance ahv[F:SH H0 M H L I]{Z:Addr->Addr->Hp->Prop}:Go (∀x dx H',New H H' x (.ins C dx [])->Z x dx H') (∀H' x dx,SH H0 M H' ((x,.ins C dx [])::L) I->Z x dx H'):=⟨λk p dx H' n=>k H' p dx (F.ahp n)⟩
instance afK{n:Nat}:Go (n<=sizeLine/\∀p H',New H H' p o->Z p H') (Sd (n<=sizeLine) (∀p H',New H H' p o->Z p H')):=⟨id⟩
instance afL[h:Hat H l (.tup xs)]:Go (kh K [.ref l,.ty "tuple"] H Q) (Q (.bl true) H):=⟨aaJ h.e⟩
instance afM[h:Hat H l (.lst xs)]:Go (kh K [.ref l,.ty "list"] H Q) (Q (.bl true) H):=⟨aaK h.e⟩
instance afN[h:SqB K H l xs]:Go (Jr K [.ref l] H Q) (Q (.int xs.length) H):=⟨aax h.e⟩
instance afO[h:SqA K H l xs]:Go (Jr K [.ref l] H Q) (Q (.int xs.length) H):=⟨aaw h.e⟩
instance ahw[h:SqA K H l xs][e:AtI xs i v]:Go (RL K (.ref l) (.int i) H Q) (Q v H):=⟨Sy h.e e.e⟩
instance ahx[h:SqB K H l xs][e:AtI xs i v]:Go (W0 K (.ref l) (.int i) H Q) (Q v H):=⟨adF h.e e.e⟩
instance ahy[h:SqA K H l xs]:Go (tyV K "list" (.ref l) H/\R') R':=⟨adL h.e⟩
instance ahz[h:Hat H l (.lst xs)]:Go (K_ (.ref l) [y] H Q) (Sd (xs.length<sizeLine) (∀H',Off l H H'->H' l=some (.lst (xs++[y]))->Q .non H')):=⟨λs=>adM h.e s.1 s.2⟩
instance ahA[h:Hat H l (.lst xs)][h2:Hat H b (.lst ys)]:Go (Lg (.ref l) [.ref b] H Q) (Sd (xs.length+ys.length<=sizeLine) (∀H',Off l H H'->H' l=some (.lst (xs++ys))->Q .non H')):=⟨λs=>adN h.e h2.e s.1 s.2⟩
instance ahB[h:SqA K H l xs]:Go (aaq K (.ref l) lo hi H Q) (∀p H',New H H' p (.lst (xV xs lo hi))->Q (.ref p) H'):=⟨adO h.e⟩
instance afP[h:Hat H l (.lst xs)][h2:Hat H b (.lst ys)]:Go (R7 (.ref l) (.ref b) H Q) (Sd (xs.length+ys.length<=sizeLine) (∀p H',New H H' p (.lst (xs++ys))->Q (.ref p) H')):=⟨λs=>aaE h.e h2.e s.1 s.2⟩
instance afQ[h:SqA K H l xs]:Go (Le K [.ref l] H Q) (∀p H',New H H' p (.lst xs)->Q (.ref p) H'):=⟨aaF h.e⟩
instance afR{n:Nat}[h:Hat H l (.lst [y])]:Go (K8 (.ref l) (.int (n:Int)) H Q) (Sd (n<=1000000) (∀p H',New H H' p (.lst (List.replicate n y))->Q (.ref p) H')):=⟨λs=>Tf h.e s.1 s.2⟩
instance afS{n i0 i1:Nat}{a b:V}{R:St->Hp->Prop}[h:SqB K H l [a,b]]:Go (DK K n (gF (bw i0) (gF (bw i1) Il)) (.ref l) σ H R) (Sd (n=2) (bw i0 a σ H λσ1 H1=>bw i1 b σ1 H1 R)):=⟨λs=>aaP s.1 h.e s.2⟩
instance ahC{f:Int->Int->V}:Go (rI (λ_ j=>0<j) f (.int i) (.int j) H Q) (Sd (0<j) (Q (f i j) H)):=⟨λs=>w_mod s.1 s.2⟩
instance ahD{f:Int->Int->V}:Go (rI ZW f (.int i) (.int j) H Q) (Sd (0<j/\j<1073741824) (Q (f i j) H)):=⟨λs=>w_div s.1.1 s.1.2 s.2⟩
instance ahE{f:Int->Int->V}:Go (rI ZX f (.int i) (.int j) H Q) (Sd (0<=j/\j<=1000000/\i.natAbs<2 ^ 64) (Q (f i j) H)):=⟨λs=>w_pow s.1.1 s.1.2.1 s.1.2.2 s.2⟩
instance ahF{f:Int->Int->V}:Go (rI Ol f (.int i) (.int j) H Q) (Sd ((-(2 ^ 64)<i/\i<2 ^ 64)\/(-(2 ^ 64)<j/\j<2 ^ 64)) (Q (f i j) H)):=⟨λs=>s.1.elim (λh=>aar h.1 h.2 s.2) (λh=>aas h.1 h.2 s.2)⟩
instance adT[h:Hat H a (.ins C dx fs)][k:oW K C f][e:FLk fs f v]{R:V->Prop}:Go (∃a' C' dx' fs' v',V.ref a=.ref a'/\H a'=some (.ins C' dx' fs')/\Cls K C'/\bO K C' f/\fs'.lookup f=some v'/\R v') (R v):=⟨w_fld h.e k.c k.n e.e⟩
instance acj[h:Hat H l (.ins C dx fs)][e:FNo fs m]:Go (∃a' dx' fs',V.ref l=.ref a'/\H a'=some (.ins C dx' fs')/\fs'.lookup m=none/\R') R':=⟨aaH h.e e.e⟩
instance afT[h:Hat H l (.ins C dx fs)][k:oW K C f]:Go (XD K f y (.ref l) H R) (Sd (fs.length<1000) (∀H',Off l H H'->H' l=some (.ins C dx (dZ f y fs))->R H')):=⟨λs=>aaR h.e k.c k.n s.1 s.2⟩
instance afU{o0 o1:Option V}{r:St}{te:TE}{ti:TIp}{D:Ends}:Go (ZQ 2 te ti D (o0::o1::some v::r) H) (te (o0::o1::some v::r) H λy H1=>ti v y H1 λz H2=>D.nx (o0::o1::some z::r) H2):=⟨λh=>aaI (v:=v) rfl h⟩
end
instance acn{σ:L2.St}{H:Hp}{D:Ends}{s u:TS}:Go (ZJ s u D σ H) (s (Ends.mk (u D) (Ends.rt D) (Ends.bk D) (Ends.ct D)) σ H):=⟨aal⟩
instance aco{σ:L2.St}{H:Hp}{t:TE}{D:Ends}{tg:TG}:Go (Oh t tg D σ H) ((t σ H λ(x:V) (H1:Hp) => tg x σ H1 (Ends.nx D))):=⟨aam⟩
instance acp{σ:L2.St}{H:Hp}{t:TE}{D:Ends}:Go (ZK t D σ H) (t σ H (Ends.rt D)):=⟨aan⟩
instance adU{σ:L2.St}{H:Hp}{D:Ends}{s u:TS}{c:TT}:Go (Rk c s u D σ H) ((c σ H λ(b:Bool) (H1:Hp) => if b=true then s D σ H1 else u D σ H1)):=⟨adu⟩
instance aaV{σ:L2.St}{H:Hp}{t:TE}{D:Ends}:Go (Rj t D σ H) ((t σ H λ(x:V) (H1:Hp) => Ends.nx D σ H1)):=⟨Xj⟩
instance aaW{σ:L2.St}{H:Hp}{D:Ends}:Go (Ri D σ H) (Ends.nx D σ H):=⟨Xg⟩
instance adV{σ:L2.St}{H:Hp}{nx bk ct:L2.St->Hp->Prop}{rt:VK}:Go (Ends.nx (Ends.mk nx rt bk ct) σ H) (nx σ H):=⟨adq⟩
instance afV{H:Hp}{v:V}{nx bk ct:L2.St->Hp->Prop}{rt:VK}:Go (Ends.rt (Ends.mk nx rt bk ct) v H) (rt v H):=⟨ahd⟩
instance aaX{σ:L2.St}{H:Hp}{t:TE}{Q:Bool->Hp->Prop}:Go (KN t σ H Q) ((t σ H λ(x:V) (H':Hp) => ∃(k:Bool),x=V.bl k/\Q k H')):=⟨Xk⟩
instance afW{σ:L2.St}{H:Hp}{t:TE}{Q:Bool->Hp->Prop}:Go (tB t σ H Q) ((t σ H λ(x:V) (H':Hp) => ∃(k:Bool),x=V.bl k/\Q k H')):=⟨agY⟩
instance adW{σ:L2.St}{H:Hp}{ta tb:TE}{Q:VK}{r:R2}:Go (tOp r ta tb σ H Q) ((ta σ H λ(x:V) (H1:Hp) => tb σ H1 λ(y:V) (H2:Hp) => r x y H2 Q)):=⟨adt⟩
instance adX{σ:L2.St}{H:Hp}{tr:TA}{Q:VK}{r:List V->Hp->VK->Prop}:Go (tCB r tr σ H Q) ((tr σ H λ(vs:List V) (H1:Hp) => r vs H1 Q)):=⟨adv⟩
instance aaY{σ:L2.St}{H:Hp}{t:TE}{tr:TA}{Q:List V->Hp->Prop}:Go (n6 t tr σ H Q) ((t σ H λ(x:V) (H1:Hp) => tr σ H1 λ(xs:List V) (H2:Hp) => Q (x::xs) H2)):=⟨Xf⟩
instance acq{σ:L2.St}{H:Hp}{Q:List V->Hp->Prop}:Go (tZ σ H Q) (Q [] H):=⟨aak⟩
instance acr{σ:L2.St}{H:Hp}{Q:VK}{tr:TA}{sp:Sp}{E:XK}:Go (KQ sp [] E tr σ H Q) ((tr σ H λ(vs:List V) (H1:Hp) => sp vs H1 Q E)):=⟨w_call⟩
instance ahG{σ:L2.St}{H:Hp}{Q:VK}{v:V}:Go (tC v σ H Q) (Q v H):=⟨w_c⟩
instance ahH{H:Hp}{Q:VK}{v:V}{r:L2.St}:Go (dM 0 (some v::r) H Q) (Q v H):=⟨wv0⟩
instance ahI{H:Hp}{Q:VK}{v:V}{o0:Option V}{r:L2.St}:Go (dM 1 (o0::some v::r) H Q) (Q v H):=⟨wv1⟩
instance ahJ{H:Hp}{Q:VK}{v:V}{o0 o1:Option V}{r:L2.St}:Go (dM 2 (o0::o1::some v::r) H Q) (Q v H):=⟨wv2⟩
instance ahK{H:Hp}{Q:VK}{v:V}{o0 o1 o2:Option V}{r:L2.St}:Go (dM 3 (o0::o1::o2::some v::r) H Q) (Q v H):=⟨wv3⟩
instance ahL{H:Hp}{Q:VK}{v:V}{o0 o1 o2 o3:Option V}{r:L2.St}:Go (dM 4 (o0::o1::o2::o3::some v::r) H Q) (Q v H):=⟨wv4⟩
instance ahM{H:Hp}{Q:VK}{v:V}{o0 o1 o2 o3 o4:Option V}{r:L2.St}:Go (dM 5 (o0::o1::o2::o3::o4::some v::r) H Q) (Q v H):=⟨wv5⟩
instance ahN{H:Hp}{Q:VK}{v:V}{o0 o1 o2 o3 o4 o5:Option V}{r:L2.St}:Go (dM 6 (o0::o1::o2::o3::o4::o5::some v::r) H Q) (Q v H):=⟨wv6⟩
instance ahO{H:Hp}{Q:VK}{v:V}{o0 o1 o2 o3 o4 o5 o6:Option V}{r:L2.St}:Go (dM 7 (o0::o1::o2::o3::o4::o5::o6::some v::r) H Q) (Q v H):=⟨wv7⟩
instance ahP{H:Hp}{Q:VK}{v:V}{o0 o1 o2 o3 o4 o5 o6 o7:Option V}{r:L2.St}:Go (dM 8 (o0::o1::o2::o3::o4::o5::o6::o7::some v::r) H Q) (Q v H):=⟨wv8⟩
instance ahQ{H:Hp}{Q:VK}{v:V}{o0 o1 o2 o3 o4 o5 o6 o7 o8:Option V}{r:L2.St}:Go (dM 9 (o0::o1::o2::o3::o4::o5::o6::o7::o8::some v::r) H Q) (Q v H):=⟨wv9⟩
instance afX{H:Hp}{Q:VK}{v:V}{o0 o1 o2 o3 o4 o5 o6 o7 o8 o9:Option V}{r:L2.St}:Go (dM 10 (o0::o1::o2::o3::o4::o5::o6::o7::o8::o9::some v::r) H Q) (Q v H):=⟨ag2⟩
instance afY{H:Hp}{Q:VK}{v:V}{o0 o1 o2 o3 o4 o5 o6 o7 o8 o9 o10:Option V}{r:L2.St}:Go (dM 11 (o0::o1::o2::o3::o4::o5::o6::o7::o8::o9::o10::some v::r) H Q) (Q v H):=⟨ag4⟩
instance afZ{H:Hp}{Q:VK}{v:V}{o0 o1 o2 o3 o4 o5 o6 o7 o8 o9 o10 o11:Option V}{r:L2.St}:Go (dM 12 (o0::o1::o2::o3::o4::o5::o6::o7::o8::o9::o10::o11::some v::r) H Q) (Q v H):=⟨ag6⟩
instance af0{H:Hp}{Q:VK}{v:V}{o0 o1 o2 o3 o4 o5 o6 o7 o8 o9 o10 o11 o12:Option V}{r:L2.St}:Go (dM 13 (o0::o1::o2::o3::o4::o5::o6::o7::o8::o9::o10::o11::o12::some v::r) H Q) (Q v H):=⟨ag8⟩
instance ahR{H:Hp}{v:V}{o:Option V}{r:L2.St}{R:L2.St->Hp->Prop}:Go (bw 0 v (o::r) H R) (R (some v::r) H):=⟨wn0⟩
instance ahS{H:Hp}{v:V}{o0 o:Option V}{r:L2.St}{R:L2.St->Hp->Prop}:Go (bw 1 v (o0::o::r) H R) (R (o0::some v::r) H):=⟨wn1⟩
instance ahT{H:Hp}{v:V}{o0 o1 o:Option V}{r:L2.St}{R:L2.St->Hp->Prop}:Go (bw 2 v (o0::o1::o::r) H R) (R (o0::o1::some v::r) H):=⟨wn2⟩
instance ahU{H:Hp}{v:V}{o0 o1 o2 o:Option V}{r:L2.St}{R:L2.St->Hp->Prop}:Go (bw 3 v (o0::o1::o2::o::r) H R) (R (o0::o1::o2::some v::r) H):=⟨wn3⟩
instance ahV{H:Hp}{v:V}{o0 o1 o2 o3 o:Option V}{r:L2.St}{R:L2.St->Hp->Prop}:Go (bw 4 v (o0::o1::o2::o3::o::r) H R) (R (o0::o1::o2::o3::some v::r) H):=⟨wn4⟩
instance ahW{H:Hp}{v:V}{o0 o1 o2 o3 o4 o:Option V}{r:L2.St}{R:L2.St->Hp->Prop}:Go (bw 5 v (o0::o1::o2::o3::o4::o::r) H R) (R (o0::o1::o2::o3::o4::some v::r) H):=⟨wn5⟩
instance ahX{H:Hp}{v:V}{o0 o1 o2 o3 o4 o5 o:Option V}{r:L2.St}{R:L2.St->Hp->Prop}:Go (bw 6 v (o0::o1::o2::o3::o4::o5::o::r) H R) (R (o0::o1::o2::o3::o4::o5::some v::r) H):=⟨wn6⟩
instance ahY{H:Hp}{v:V}{o0 o1 o2 o3 o4 o5 o6 o:Option V}{r:L2.St}{R:L2.St->Hp->Prop}:Go (bw 7 v (o0::o1::o2::o3::o4::o5::o6::o::r) H R) (R (o0::o1::o2::o3::o4::o5::o6::some v::r) H):=⟨wn7⟩
instance ahZ{H:Hp}{v:V}{o0 o1 o2 o3 o4 o5 o6 o7 o:Option V}{r:L2.St}{R:L2.St->Hp->Prop}:Go (bw 8 v (o0::o1::o2::o3::o4::o5::o6::o7::o::r) H R) (R (o0::o1::o2::o3::o4::o5::o6::o7::some v::r) H):=⟨wn8⟩
instance ah0{H:Hp}{v:V}{o0 o1 o2 o3 o4 o5 o6 o7 o8 o:Option V}{r:L2.St}{R:L2.St->Hp->Prop}:Go (bw 9 v (o0::o1::o2::o3::o4::o5::o6::o7::o8::o::r) H R) (R (o0::o1::o2::o3::o4::o5::o6::o7::o8::some v::r) H):=⟨wn9⟩
instance af2{H:Hp}{v:V}{o0 o1 o2 o3 o4 o5 o6 o7 o8 o9 o:Option V}{r:L2.St}{R:L2.St->Hp->Prop}:Go (bw 10 v (o0::o1::o2::o3::o4::o5::o6::o7::o8::o9::o::r) H R) (R (o0::o1::o2::o3::o4::o5::o6::o7::o8::o9::some v::r) H):=⟨ag3⟩
instance af3{H:Hp}{v:V}{o0 o1 o2 o3 o4 o5 o6 o7 o8 o9 o10 o:Option V}{r:L2.St}{R:L2.St->Hp->Prop}:Go (bw 11 v (o0::o1::o2::o3::o4::o5::o6::o7::o8::o9::o10::o::r) H R) (R (o0::o1::o2::o3::o4::o5::o6::o7::o8::o9::o10::some v::r) H):=⟨ag5⟩
instance af4{H:Hp}{v:V}{o0 o1 o2 o3 o4 o5 o6 o7 o8 o9 o10 o11 o:Option V}{r:L2.St}{R:L2.St->Hp->Prop}:Go (bw 12 v (o0::o1::o2::o3::o4::o5::o6::o7::o8::o9::o10::o11::o::r) H R) (R (o0::o1::o2::o3::o4::o5::o6::o7::o8::o9::o10::o11::some v::r) H):=⟨ag7⟩
instance af5{H:Hp}{v:V}{o0 o1 o2 o3 o4 o5 o6 o7 o8 o9 o10 o11 o12 o:Option V}{r:L2.St}{R:L2.St->Hp->Prop}:Go (bw 13 v (o0::o1::o2::o3::o4::o5::o6::o7::o8::o9::o10::o11::o12::o::r) H R) (R (o0::o1::o2::o3::o4::o5::o6::o7::o8::o9::o10::o11::o12::some v::r) H):=⟨ag9⟩
instance af6{H:Hp}{Q:VK}{i j:Int}{f:Int->Int->V}:Go (rI0 f (V.int i) (V.int j) H Q) (Q (f i j) H):=⟨aha⟩
instance ah1{H:Hp}{Q:VK}{i:Int}{g:Int->V}:Go (rU g (V.int i) H Q) (Q (g i) H):=⟨w_u⟩
instance af7{σ:L2.St}{H:Hp}{Q:VK}{ta:TE}{r:V->Hp->VK->Prop}:Go (tUn r ta σ H Q) ((ta σ H λ(x:V) (H1:Hp) => r x H1 Q)):=⟨ahb⟩
instance adY{H:Hp}{Q:VK}{i j:Int}:Go (rEq (V.int i) (V.int j) H Q) (Q (V.bl (decide (i=j))) H):=⟨ady⟩
instance adZ{H:Hp}{Q:VK}{i j:Int}:Go (rNe (V.int i) (V.int j) H Q) (Q (V.bl !decide (i=j)) H):=⟨adz⟩
instance ad0{H:Hp}{Q:VK}{a b:Str}:Go (rEq (V.str a) (V.str b) H Q) (Q (V.bl (decide (a=b))) H):=⟨adA⟩
instance ad1{H:Hp}{Q:VK}{a b:Str}:Go (rNe (V.str a) (V.str b) H Q) (Q (V.bl !decide (a=b)) H):=⟨adB⟩
instance af8{k:Bool}{R:Bool->Prop}:Go (∃(c:Bool),V.bl k=V.bl c/\R c) (R k):=⟨ahc⟩
instance ad2{σ:L2.St}{H:Hp}{c:TT}{R:Bool->Hp->Prop}:Go (ZF c σ H R) ((c σ H λ(b:Bool) (H1:Hp) => R (!b) H1)):=⟨w_not⟩
instance ad3{σ:L2.St}{H:Hp}{c d:TT}{R:Bool->Hp->Prop}:Go (ZD c d σ H R) ((c σ H λ(b:Bool) (H1:Hp) => if b=true then d σ H1 R else R false H1)):=⟨w_and⟩
instance af9{σ:L2.St}{H:Hp}{c d:TT}{R:Bool->Hp->Prop}:Go (tOr c d σ H R) ((c σ H λ(b:Bool) (H1:Hp) => if b=true then R true H1 else d σ H1 R)):=⟨w_or⟩
instance acs{σ:L2.St}{H:Hp}{Q:VK}{ta:TE}:Go (Rg ta σ H Q) ((ta σ H λ(x:V) (H1:Hp) => ∃(c:Bool),x=V.bl c/\Q (V.bl !c) H1)):=⟨aat⟩
instance acu{σ:L2.St}{H:Hp}{Q:VK}{ta tb:TE}:Go (Rf ta tb σ H Q) ((ta σ H λ(x:V) (H1:Hp) => ∃(c:Bool),x=V.bl c/\if c=true then tb σ H1 Q else Q (V.bl false) H1)):=⟨aau⟩
instance ad4{σ:L2.St}{H:Hp}{Q:VK}{ta tb:TE}:Go (ZG ta tb σ H Q) ((ta σ H λ(x:V) (H1:Hp) => ∃(c:Bool),x=V.bl c/\if c=true then Q (V.bl true) H1 else tb σ H1 Q)):=⟨adC⟩
instance ad5{σ:L2.St}{H:Hp}{Q:VK}{ta tb:TE}{c:TT}:Go (tIf c ta tb σ H Q) ((c σ H λ(b:Bool) (H1:Hp) => if b=true then ta σ H1 Q else tb σ H1 Q)):=⟨adD⟩
instance aaZ{σ:L2.St}{H:Hp}{Q:VK}{ta tb tc:TE}{r r':R2}:Go (BL r r' ta tb tc σ H Q) ((ta σ H λ(x:V) (H1:Hp) => tb σ H1 λ(y:V) (H2:Hp) => r x y H2 λ(z:V) (H3:Hp) => ∃(k:Bool),z=V.bl k/\if k=true then tc σ H3 λ(w:V) (H4:Hp) => r' y w H4 Q else Q (V.bl false) H3)):=⟨Xo⟩
instance af_{σ:L2.St}{H:Hp}{Q:VK}{K:W.Frag}{tr:TA}{T:String}{r:V->List V->Hp->VK->Prop}{to:TE}:Go (tBM K T r to tr σ H Q) ((to σ H λ(x:V) (H1:Hp) => tyV K T x H1/\tr σ H1 λ(xs:List V) (H2:Hp) => r x xs H2 Q)):=⟨ahe⟩
instance ad6{σ:L2.St}{H:Hp}{v:V}{to ti:TE}{ts:Rm}{R:L2.St->Hp->Prop}:Go (ZP to ti ts v σ H R) ((to σ H λ(o:V) (H1:Hp) => ti σ H1 λ(i:V) (H2:Hp) => ts o i v H2 λ(H3:Hp) => R σ H3)):=⟨w_sub⟩
instance aa0{σ:L2.St}{H:Hp}{Q:VK}{t:TE}{r:V->Option Int->Option Int->Hp->VK->Prop}{tl th:TO}:Go (tSl r t tl th σ H Q) ((t σ H λ(x:V) (H1:Hp) => tl σ H1 λ(l:Option Int) (H2:Hp) => th σ H2 λ(u:Option Int) (H3:Hp) => r x l u H3 Q)):=⟨Xp⟩
instance Zd{σ:L2.St}{H:Hp}{R:Option Int->Hp->Prop}:Go (BP σ H R) (R none H):=⟨Sx⟩
instance acv{σ:L2.St}{H:Hp}{t:TE}{R:Option Int->Hp->Prop}:Go (RJ t σ H R) ((t σ H λ(x:V) (H1:Hp) => ∃(i:Int),x=V.int i/\R (some i) H1)):=⟨aav⟩
instance ad7{i:Int}{R:Int->Prop}:Go (∃(k:Int),V.int i=V.int k/\R k) (R i):=⟨adE⟩
instance ad8{H:Hp}{Q:VK}{i j:Int}:Go (SJ [V.int i,V.int j] H Q) (Q (V.int (max i j)) H):=⟨adG⟩
instance ad9{H:Hp}{Q:VK}{i j:Int}:Go (SM [V.int i,V.int j] H Q) (Q (V.int (min i j)) H):=⟨adH⟩
instance acw{H:Hp}{Q:VK}{k:Bool}:Go (SN [V.bl k] H Q) (Q (V.int (if k=true then 1 else 0)) H):=⟨aaz⟩
instance aa1{σ:L2.St}{H:Hp}{tr:TA}{Q:VK}:Go (R5 tr σ H Q) ((tr σ H λ(xs:List V) (H1:Hp) => List.length xs<=sizeLine/\∀(p:Addr)(H':Hp),New H1 H' p (HO.tup xs)->Q (V.ref p) H')):=⟨Xh⟩
instance aa2{σ:L2.St}{H:Hp}{tr:TA}{Q:VK}:Go (R6 tr σ H Q) ((tr σ H λ(xs:List V) (H1:Hp) => List.length xs<=sizeLine/\∀(p:Addr)(H':Hp),New H1 H' p (HO.lst xs)->Q (V.ref p) H')):=⟨Xi⟩
instance acy{K:W.Frag}{σ:L2.St}{H:Hp}{Q:VK}{ta:TE}{f:Str}:Go (Z2 K ta f σ H Q) ((ta σ H λ(x:V) (H1:Hp) => ∃(a:Addr),∃(C:Addr),∃(dx:Addr),∃(fs:List (Str×V)),∃(v:V),x=V.ref a/\H1 a=some (HO.ins C dx fs)/\Cls K C/\bO K C f/\List.lookup f fs=some v/\Q v H1)):=⟨aaD⟩
instance Ze{σ:L2.St}{H:Hp}{Q:VK}{ta:TE}{t:TA}{m:Str}{C:Addr}{sp:Sp}{E:XK}:Go (yw C m sp [] E ta t σ H Q) ((ta σ H λ(x:V) (H1:Hp) => ∃(a:Addr),∃(dx:Addr),∃(fs:List (Str×V)),x=V.ref a/\H1 a=some (HO.ins C dx fs)/\List.lookup m fs=none/\t σ H1 λ(vs:List V) (H2:Hp) => sp (x::vs) H2 Q E)):=⟨Tj⟩
instance Zf{σ:L2.St}{H:Hp}{Q:VK}{t:TA}{C:Addr}{sp:Sp}{E:XK}:Go (Jz C sp E t σ H Q) ((t σ H λ(vs:List V) (H1:Hp) => ∀(x dx:Addr)(H2:Hp),New H1 H2 x (HO.ins C dx [])->sp (V.ref x::vs) H2 (λ(v:V) (H3:Hp) => v=V.non/\Q (V.ref x) H3) E)):=⟨Ti⟩
instance Zg{K:W.Frag}{σ:L2.St}{H:Hp}{ta tv:TE}{f:Str}{D:Ends}:Go (Z4 K ta tv f D σ H) ((tv σ H λ(y:V) (H1:Hp) => ta σ H1 λ(x:V) (H2:Hp) => XD K f y x H2 λ(H3:Hp) => Ends.nx D σ H3)):=⟨Tg⟩
instance acz{H:Hp}{Q:VK}{K:W.Frag}{i:Int}:Go (kh K [V.int i,V.ty "int"] H Q) (Q (V.bl true) H):=⟨aaL⟩
instance acA{H:Hp}{Q:VK}{K:W.Frag}{i:Int}:Go (kh K [V.int i,V.ty "bool"] H Q) (Q (V.bl false) H):=⟨aaM⟩
instance acB{H:Hp}{Q:VK}{K:W.Frag}{b:Bool}:Go (kh K [V.bl b,V.ty "bool"] H Q) (Q (V.bl true) H):=⟨aaN⟩
instance acC{H:Hp}{Q:VK}{K:W.Frag}{b:Bool}:Go (kh K [V.bl b,V.ty "int"] H Q) (Q (V.bl true) H):=⟨aaO⟩
instance aga{A B:Prop}:Go (if true=true then A else B) (A):=⟨ahi⟩
instance agb{A B:Prop}:Go (if false=true then A else B) (B):=⟨ahj⟩
instance ad_{A B:Prop}:Go (if (!true)=true then A else B) (B):=⟨adQ⟩
instance aea{A B:Prop}:Go (if (!false)=true then A else B) (A):=⟨adR⟩
instance aeb{t:TA}{tv:TE}{r:List V->V->Hp->VK->Prop}{σ:L2.St}{H:Hp}{Q:VK}:Go (tCK r t tv σ H Q) ((t σ H λ(xs:List V) (H1:Hp) => tv σ H1 λ(y:V) (H2:Hp) => r xs y H2 Q)):=⟨adJ⟩
instance acD{K:W.Frag}{g:TG}{tb:TS}{D:Ends}{σ:L2.St}{H:Hp}{tr:TA}:Go (xR (R_ K tr) g tb D σ H) ((tr σ H λ(vs:List V) (H1:Hp) => ∃(a:Addr),∃(xs:List V),vs=[V.ref a]/\SqL K H1 a xs/\Jy K a xs g tb D σ H1)):=⟨aaQ⟩
instance aa3{g:TG}{tb:TS}{D:Ends}{σ:L2.St}{H:Hp}{tr:TA}:Go (xR (yp tr) g tb D σ H) ((tr σ H λ(vs:List V) (H1:Hp) => ∃(j:Int),vs=[V.int j]/\-2 ^ 62<=j/\j<2 ^ 62/\xY 0 (Int.toNat j) g tb D σ H1)):=⟨Xz⟩
instance aa4{g:TG}{tb:TS}{D:Ends}{σ:L2.St}{H:Hp}{tr:TA}:Go (xR (Rp tr) g tb D σ H) ((tr σ H λ(vs:List V) (H1:Hp) => ∃(i:Int),∃(j:Int),vs=[V.int i,V.int j]/\(-2 ^ 62<=i/\i<2 ^ 62/\-2 ^ 62<=j/\j<2 ^ 62)/\xY i (Int.toNat (j-i)) g tb D σ H1)):=⟨XC⟩
instance acE{K:W.Frag}{te:TE}{g:TG}{tb:TS}{D:Ends}{σ:L2.St}{H:Hp}:Go (xR (DP K te) g tb D σ H) ((te σ H λ(x:V) (H1:Hp) => ∃(a:Addr),x=V.ref a/\(∃(xs:List V),SqL K H1 a xs)/\Jt K a g tb D σ H1)):=⟨aaC⟩
instance aa5{K:W.Frag}{t0 te:TE}{nt:Nat}{fr:List Nat}{g:TG}{c:TT}{σ:L2.St}{H:Hp}{Q:VK}:Go (mJ (DP K t0) nt fr g c te σ H Q) ((t0 σ H λ(x:V) (H1:Hp) => ∃(a:Addr),x=V.ref a/\(∃(xs:List V),SqL K H1 a xs)/\cu (Itl K a) nt fr g c te σ H1 Q)):=⟨Xr⟩
section
variable{K:W.Frag}{H:Hp}{Q:VK}{E:XK}{x:V}{n:String}{p q:Addr}{a b c lo hi:Int}{ns:List Int}{m:Int}
instance aec:Go (m6 K [.int a,.int lo] H Q E) (Q (.bl (decide (lo<=a))) H):=⟨XF⟩
instance aa6:Go (gV K [.int a,.int lo,.int hi] H Q E) (Q (.bl (decide (lo<=a) && decide (a<=hi))) H):=⟨λk=>⟨_,_,lo,hi,rfl,.int _,k⟩⟩
instance aed:Go (uM K [.int a] H Q E) (Q (.bl (decide (16<=a) && decide (a<=240))) H):=⟨λk=>⟨_,_,rfl,.int _,k⟩⟩
instance aee[h:Hat H q (.tup [.int a,.int b])]:Go (qz [.ref q] H Q E) (Q (.int (a+b)) H):=⟨adS h.e⟩
instance aef[h:SqA K H p (ns.map V.int)]:Go (uO K [.ref p,.int m] H Q E) (Sd (0<=m) (∀c:Int,Q (.int c) H)):=⟨λs=>XH h.e s.1 s.2⟩
instance agc:Go (Cr [.int a] H Q E) (∀x y:Int,∀(p:Addr)(H':Hp),New H H' p (.lst [.int x,.int y,.int 0])->Q (.ref p) H'):=⟨λk=>aaS λp x y H' n=>k x y p H' n⟩
end
end L2
namespace L2
open PySem PySem.Spec PyProof.Rows
def Itq(lo st:Int)(n:Nat):It:={ go:=λi _=>i<n,yld:=λi H x H'=>H'=H/\x=.int (lo+i*st),stop:=λi _=>n<=i }
theorem JB{P:Program}{w:World}{K:W.Frag}{tg:Expr}(z:Addr)(lo st:Int)(n:Nat):Turn P w K tg (Itq lo st n) [z] z (λi h=>IsRangeIter h z (lo+(i:Nat)*st) ((n:Int)-(i:Nat)) st):=by
 refine⟨uS.mpr rfl,?_,?_,?_,?_,λ_ _ _ _ _ g h=>wpAny_pyIter_rangeiter g h⟩
 ·intro i h g b hb;rw[uS.mp hb];refine⟨_,g,λv y=>?_⟩;have y:Data.fields _=Data.cell v:=y;cases y
 ·exact λi h h' g k=>k z (uS.mpr rfl) _ g
 ·intro X e1 e2 e3 hc i pins s σ H E I hf g hg;subst e1;subst e2;subst e3;have fp:=hf z (uS.mpr rfl);refine(Walks.range (prog:=X.prog) (w:=X.w) (I.ok.hd hc) z lo st n).item i s _ _ hg g ?_;rintro v h' tk ⟨t,rfl⟩ g2 kk;have I1:Inv X pins σ H { s with heap:=h',toks:=tk }:=by
   refine I.turned (it:=z) (λb o hb e=>kk b o (λy=>hb (uS.mp y)) e) ?_ ?_ ?_ ?_ ?_
   ·exact fp.1
   ·exact fp.2.1
   ·exact fp.2.2.2.1
   ·exact fp.2.2.2.2.1
   ·exact fp.2.2.2.2.2
  exact⟨_,rfl,DN (s:={ s with heap:=h',toks:=tk }) (n := "range_iterator") g2 rfl rfl (by decide) ⟨.int (lo+i*st),H,I1,⟨t,rfl⟩,⟨rfl,rfl⟩,g2,λb hb=>(hf b hb).1⟩⟩
 ·intro X e1 e2 e3 hc i pins s σ H E I hf g hg;subst e1;subst e2;subst e3;have fp:=hf z (uS.mpr rfl);have hg:n<=i:=hg;refine wpAny_pyNext_range_end (I.ok.hd hc) g (by lia) λh' eb=>⟨rfl,?_⟩
  refine I.turned (it:=z) (t':=s.toks) (λb o hb e=>eb b o hb e) ?_ ?_ ?_ ?_ ?_
  ·exact fp.1
  ·exact fp.2.1
  ·exact fp.2.2.2.1
  ·exact fp.2.2.2.2.1
  ·exact fp.2.2.2.2.2
section
variable{g:TG}{tb:TS}{D:Ends}{σ:St}{H:Hp}
def XJ(lo st:Int)(n:Nat)(g:TG)(tb:TS)(D:Ends)(σ:St)(H:Hp):Prop:=∃W:Nat->Nat->St->Hp->Prop,(∃m,W 0 m σ H)/\∀i m σ H,W i m σ H ->
      ((Itq lo st n).stop i H/\D.nx σ H)\/((Itq lo st n).go i H/\∃N:St->Hp->Prop,(∀σ' H',N σ' H'->∃m',m'<m/\W (i+1) m' σ' H')/\∀x H',(Itq lo st n).yld i H x H'->g x σ H' λσ2 H2=>tb { D with nx:=N,ct:=N,bk:=D.nx } σ2 H2)
theorem XM{lo st:Int}{n:Nat}(Pv:Nat->St->Hp->Prop)(h0:Pv 0 σ H)(hs:∀i σ H,i<n->Pv i σ H->g (.int (lo+i*st)) σ H λσ2 H2=>tb { D with nx:=Pv (i+1),ct:=Pv (i+1),bk:=D.nx } σ2 H2)(hd:∀σ H,Pv n σ H->D.nx σ H):XJ lo st n g tb D σ H:=by
 refine⟨λi m σ H=>m=n-i/\i<=n/\Pv i σ H,⟨n,by simp,Nat.zero_le _,h0⟩,?_⟩;rintro i m σ H ⟨rfl,hi,p⟩;by_cases hl:i<n
 ·refine .inr ⟨hl,Pv (i+1),λσ' H' p'=>⟨n-(i+1),by lia,rfl,hl,p'⟩,?_⟩;rintro x H' ⟨rfl,rfl⟩;exact hs i σ H' hl p
 ·have e:i=n:=by lia
  subst e;exact .inl ⟨uC _,hd σ H p⟩
variable{K:W.Frag}{a:Addr}{xs:List V}{nt:Nat}{fr:List Nat}{c:TT}{te:TE}{Q:VK}
instance ah2[h:SqA K H a xs]:Go (∃a',V.ref a=.ref a'/\(∃xs,SqL K H a' xs)/\cu (Itl K a') nt fr g c te σ H Q) (cu (Itl K a) nt fr g c te σ H Q):=⟨ahm h.e⟩
instance ah3[h:SqA K H a xs]:Go (∃a',V.ref a=.ref a'/\(∃xs,SqL K H a' xs)/\Jt K a' g tb D σ H) (Jt K a g tb D σ H):=⟨ahl h.e⟩
instance ah4[h:SqA K H a xs]:Go (∃a' xs',[V.ref a]=[.ref a']/\SqL K H a' xs'/\Jy K a' xs' g tb D σ H) (Jy K a xs g tb D σ H):=⟨ahk h.e⟩
end
instance aeg{H0 H:Hp}{M:List Addr}{L:List (Addr×HO)}{I:List Im}{Z:Addr->Hp->Prop}{ws:xD}[F:SH H0 M H L I]:Go (∀p ys H',New H H' p (.lst ys)->aD H' ys (gG ws)->Z p H') (∀H' p ys,ys.length=ws.length->SH H0 M H' ((p,.lst ys)::L) (.tps ys (gG ws)::I)->Z p H'):=⟨λk p ys H' n t=>k H' p ys (by rw[t.1,dD]) (F.newR n t)⟩
class Pg(L:List (Addr×HO))(a b:Addr):Prop where
 ne:(L.map (·.1)).Nodup->a≠b
section
variable{L R L':List (Addr×HO)}{a b:Addr}{o:HO}{c:Addr×HO}{H0 H:Hp}{M:List Addr}{I:List Im}
instance ajc[h:Pg L a b]:Pg (c::L) a b:=⟨λnd=>h.ne (by rw[oS] at nd;exact(List.nodup_cons.mp nd).2)⟩
instance ajd{o':HO}[h:LkL L a o]:Pg ((b,o')::L) a b:=⟨λnd z=>by
 rw[oS] at nd;exact(List.nodup_cons.mp nd).1 (by show b∈_;rw[<- z];exact List.mem_map_of_mem (f:=(·.1)) h.m)⟩
instance aje{o':HO}[h:LkL L b o]:Pg ((a,o')::L) a b:=⟨λnd z=>by
 rw[oS] at nd;exact(List.nodup_cons.mp nd).1 (by show a∈_;rw[z];exact List.mem_map_of_mem (f:=(·.1)) h.m)⟩
theorem SH.neC[F:SH H0 M H L I][h:Pg L a b]:a≠b:=h.ne F.nd
class PkC(c:Addr×HO)(L:List (Addr×HO))(R:outParam (List (Addr×HO))):Prop where
 p:Pk c L R
class SbC(L' L:List (Addr×HO)):Prop where
 s:Sb L' L
instance ajB{d:Addr×HO}[h:PkC c L R]:PkC c (d::L) (d::R):=⟨.tail h.p⟩
instance ajC:PkC c (c::L) L:=⟨.head⟩
instance ajD:SbC [] L:=⟨.nil⟩
instance ajE[h:PkC c L R][t:SbC L' R]:SbC (c::L') L:=⟨.cons h.p t.s⟩
theorem SH.Cu(F:SH H0 M H L I)[h:SbC L' L]:SH H0 M H L' []:=F.sub h.s (λ_ h=>by cases h)
end
instance agd{H:Hp}{Q:VK}{v:V}{o0 o1 o2 o3 o4 o5 o6 o7 o8 o9 o10 o11 o12 o13:Option V}{r:St}:Go (dM 14 (o0::o1::o2::o3::o4::o5::o6::o7::o8::o9::o10::o11::o12::o13::some v::r) H Q) (Q v H):=⟨λh=>⟨v,rfl,h⟩⟩
instance agf{H:Hp}{v:V}{o0 o1 o2 o3 o4 o5 o6 o7 o8 o9 o10 o11 o12 o13 o:Option V}{r:St}{R:St->Hp->Prop}:Go (bw 14 v (o0::o1::o2::o3::o4::o5::o6::o7::o8::o9::o10::o11::o12::o13::o::r) H R) (R (o0::o1::o2::o3::o4::o5::o6::o7::o8::o9::o10::o11::o12::o13::some v::r) H):=⟨λh=>h⟩
end L2
namespace L2
open PySem PySem.Spec PyProof.Rows PySem.SeqAt
section
variable{H:Hp}{l p:Addr}{xs:List V}{v:V}{Q:VK}{R:Hp->Prop}{R':Prop}{σ:St}{i j:Int}
instance acF:Go (V.non=V.non/\R') R':=⟨λk=>⟨rfl,k⟩⟩
instance agg[h:Hat H l (.lst xs)]:Go (Eo (.ref l) (.int i) v H R) (Sd (0<=i/\i<xs.length) (∀H',Off l H H'->H' l=some (.lst (xs.set i.toNat v))->R H')):=⟨λs=>Jx h.e (adP s.1.1 s.1.2) s.2⟩
instance aeh{n:Nat}{c:Bool}[h:Hat H l (.lst [.bl c])]:Go (K8 (.ref l) (.int (n:Int)) H Q) (Sd (n<=1000000) (∀p H',New H H' p (.lst ((List.replicate n c).map V.bl))->Q (.ref p) H')):=⟨λs=>Tf h.e s.1 (by have:=s.2;rw[List.map_replicate] at this;exact this)⟩
instance aei{g:TG}{tb:TS}{D:Ends}:Go (∃j:Int,[V.int i]=[.int j]/\-(2 ^ 62)<=j/\j<2 ^ 62/\xY 0 j.toNat g tb D σ H) (Sd (-(2 ^ 62)<=i/\i<2 ^ 62) (xY 0 i.toNat g tb D σ H)):=⟨λs=>⟨i,rfl,s.1.1,s.1.2,s.2⟩⟩
instance aej{g:TG}{tb:TS}{D:Ends}:Go (∃i' j':Int,[V.int i,V.int j]=[.int i',.int j']/\(-(2 ^ 62)<=i'/\i'<2 ^ 62/\-(2 ^ 62)<=j'/\j'<2 ^ 62)/\xY i' (j'-i').toNat g tb D σ H) (Sd (-(2 ^ 62)<=i/\i<2 ^ 62/\-(2 ^ 62)<=j/\j<2 ^ 62) (xY i (j-i).toNat g tb D σ H)):=⟨λs=>⟨i,j,rfl,s.1,s.2⟩⟩
end
end L2
namespace L2
open PySem PySem.Spec PyProof.Rows
abbrev kI(x:Str)(p1 p2 p3:Pos)(j:Nat):Expr:=.Subscript (.Name x p1) (.Constant (.int 1) j p2) p3
structure uP(x:Str)(scope:Scope):Prop where
 kind:scope.kind=.function
 co:scope.isCoroutine=false
 gen:scope.isGenerator=false
 loc:scope.names.lookup x=some .local
 aa7:∀y∈scope.names,y.2≠.cell
 aek:(x==("__debug__" : Str))=false
theorem aa8{prog:Program}{w:World}{A:Around}{s:Shared}{f q c':Addr}{x qual:Str}{params:Arguments}{scope:Scope}{pm ctv u:Value}{p1 p2 p3:Pos}{j:Nat}{its:xE}{Q:xB}{E:xB}
  (hroom:A.depth<recursionLimit) (ho:s.heap.get? f=some (W.kla_obj "<lambda>" qual params (kI x p1 p2 p3 j) scope [] pm c' ctv)) (hcd:s.heap.CodeRec (.ref c') qual) (hlim:s.heap.NoLimit) (S:uP x scope)
  (hbind:bindArgs (W.kla_fn "<lambda>" qual params (kI x p1 p2 p3 j) scope [] pm (.ref c') ctv) ⟨[.ref q],[]⟩=pure [(x,.ref q)])
  (ht:IsTup s.heap q its.toArray) (hi:its[1]?=some u) (h:∀h' tk,(∀b o,s.heap.get? b=some o->h'.get? b=some o)->Q u { s with heap:=h',toks:=tk }):wpAny (model prog w) A (call (.ref f) [.ref q]) Q E s:=by
 refine wpAny_call ?_;refine W.kla_callFunE hroom ho rfl S.co S.gen rfl hcd ?_;rw[hbind];refine rV ?_;refine wpAny_newFunctionEnv S.aa7 (λy hy=>?_) (λh1 hns hsb=>?_) S.kind
 ·rw[uS.mp hy];exact S.loc
 ·have hk1:∀b o,s.heap.get? b=some o->h1.get? b=some o:=λb o e=>hsb.extBut b o (qS (uA e)) (uB _ e)
  refine⟨hlim.keeps hk1,W.kla_codeExpr ?_⟩;refine Subscript_ (wpAny_Name (wpAny_loadName_local S.kind S.loc hns (v:=.ref q) (by simp) ?_) S.aek);refine wpAny_Constant_int ?_;have ht1:IsTup h1 q its.toArray:=by
   obtain⟨o,e,r⟩:=ht;exact⟨o,hk1 _ _ e,r⟩
  have hlen:1<its.length:=(qA.mp hi).1;refine subscriptTail_builtinR (x:=u) (IsTup.typeIs ht1) slot_tuple_getitem.lookup (getItem_tuple (j:=1) ht1 (by decide) (by decide) ?_ (by simpa using hi) ⟨rfl,?_⟩) ?_
  ·rw[nN];unfold seqIndex?;simp
   lia
  ·exact h h1 _ hk1
  ·rfl
theorem cA.is{P:Program}{w:World}{H:Hp}{h:Heap}{a:Addr}{o:HO}(x:cA P w H h a o):∃ob,h.get? a=some ob:=by
 cases o with
 | lst xs=>obtain⟨_,_,_,_,e⟩:=x;exact⟨_,e⟩
 | tup xs=>obtain⟨_,_,_,ob,e,_⟩:=x;exact⟨_,e⟩
 | dK kvs=>obtain⟨_,_,_,_,ob,_,_,e,_⟩:=x;exact⟨_,e⟩
 | dT kvs=>obtain⟨_,_,_,_,ob,_,_,e,_⟩:=x;exact⟨_,e⟩
 | set S n=>obtain⟨ob,_,_,_,e,_⟩:=x;exact⟨_,e⟩
 | ins C dx fs=>obtain⟨_,_,_,e,_⟩:=x;exact⟨_,e⟩
 | own y=>exact x
 | xd fs=>obtain⟨_,⟨ob,_,_,e,_⟩,_⟩:=x;exact⟨_,e⟩
 | rng lo hi=>obtain⟨_,_,_,e⟩:=x;exact⟨_,e⟩
 | frz ob u=>exact⟨_,x.1⟩
 | tbl ps=>exact⟨_,x⟩
 | met f y=>exact⟨_,x⟩
 | ext φ=>exact x.2.1
def m7(h:Heap)(L:Addr):List (Addr×Obj):=(List.range h.objs.size).filterMap λb=>if b=L then none else (h.get? b).map λo=>(b,o)
theorem m8{h:Heap}{L b:Addr}{o:Obj}(e:h.get? b=some o)(n:b≠L):(b,o)∈m7 h L:=by
 unfold m7;refine List.mem_filterMap.mpr ⟨b,List.mem_range.mpr (uA e),?_⟩;rw[yB n,e]
 rfl
theorem yV{h:Heap}{L:Addr}{p:Addr×Obj}(m:p∈m7 h L):h.get? p.1=some p.2/\p.1≠L:=by
 unfold m7 at m;obtain⟨b,_,e⟩:=List.mem_filterMap.mp m;split at e
 ·cases e
 ·rename_i n;cases q:h.get? b with
  | none=>rw[q] at e;cases e
  | some o =>
   rw[q] at e;cases e;exact⟨q,n⟩
theorem aa9{h:Heap}{a:Addr}{m m':xC}(x:h.Ns a m)(y:h.Ns a m'):m=m':=by
 obtain⟨o,es,ep,e,d,_,f⟩:=x;obtain⟨o',es',ep',e',d',_,f'⟩:=y;rw[e] at e';cases e';rw[d] at d';cases d'
 funext k
 rw[<- f k,<- f' k]
theorem Inv.ael{X:Cx}{pins:List (Addr×Obj)}{σ:St}{H:Hp}{s:Shared}{h':Heap}{t':Nat}{D:Addr}{o:HO}{m:xC}(I:Inv X pins σ H s)(k:∀b u,b≠X.env.locals->s.heap.get? b=some u->h'.get? b=some u)
  (hm:s.heap.Ns X.env.locals m) (hm':h'.Ns X.env.locals m) (hn:s.heap.get? D=none) (new:cA X.prog X.w (upd H D o) h' D o):Inv X pins σ (upd H D o) { s with heap:=h',toks:=t' }:=by
 have hD:H D=none:=by
  cases q:H D with
  | none=>rfl
  | some u =>
   obtain⟨ob,e⟩:=(I.hok D u q).is;rw[hn] at e;cases e
 have nL:∀b u,H b=some u->b≠X.env.locals:=λb u e z=>by rw[z,I.free] at e;cases e
 have nD:∀{b:Addr} {u:HO},H b=some u->upd H D o b=some u:=λ{b u} e=>by rw[aQ (λz=>by rw[z,hD] at e;cases e)];exact e
 refine I.step (g':=s.gens) (d':=s.drawn) (ch:=[]) (λ_ z=>nomatch z) (λb u n _ _ e _=>k b u n e) (λb u n _ _ e _=>⟨u.slots,k b u n e⟩) (λb u _ e q=>?_) (λb u _ e=>?_) (λb xs e=>nD e) (λb u v e=>nD e) (λb ps e=>⟨#[],by rw[nD e];simp⟩) (λm2 hm2=>?_) (λb u e=>?_) I.bare
 ·rw[aQ (λz=>by rw[z,hn] at e;cases e)];exact q
 ·by_cases n:b=X.env.locals
  ·obtain⟨ob,_,_,e2,_⟩:=hm';exact⟨ob,by rw[n];exact e2⟩
  ·exact⟨u,k b u n e⟩
 ·rw[aa9 hm2 hm];exact hm'
 ·by_cases hb:b=D
  ·rw[hb,aV] at e;cases e;rw[hb];exact new
  ·rw[aQ hb] at e;refine(I.hok b u e).stay (λc v hc q=>k c v ?_ q) (λc q=>nD q) λc xs q=>nD q
   rcases hc with z|z
   ·rw[z];exact nL b u e
   ·exact nL c _ z
def oX(H:Hp)(f:Addr):Prop:=∃(qual x:Str)(params:Arguments)(p1 p2 p3:Pos)(j:Nat)(scope:Scope)(pm ctv:Value)(c':Addr)(oc:Obj)(vs:xI)(t:Tok),
 H f=some (.frz (W.kla_obj "<lambda>" qual params (kI x p1 p2 p3 j) scope [] pm c' ctv) (.own f))/\H c'=some (.frz oc (.own c'))/\oc.data=.fields vs/\vs[1]?=some (.str qual t)/\uP x scope /\
 ∀q:Addr,bindArgs (W.kla_fn "<lambda>" qual params (kI x p1 p2 p3 j) scope [] pm (.ref c') ctv) ⟨[.ref q],[]⟩=pure [(x,.ref q)]
def uQ(ks:List Int)(xs ys:List V):Prop:=∃ps:List (Int×V),ps.Perm (ks.zip xs)/\ys=ps.map Prod.snd/\ps.Pairwise λa b=>a.1<=b.1
def Tp(K:W.Frag):List V->V->Hp->VK->Prop:=λvs y H Q=>∃(l f:Addr)(xs:List V)(ks:List Int),vs=[.ref l]/\y=.ref f/\oX H f/\SqL K H l xs/\ks.length=xs.length/\xs.length<64 /\
 (∀(i:Nat) v k,xs[i]?=some v->ks[i]?=some k->∃q r,v=.ref q/\H q=some (.tup r)/\r[1]?=some (.int k))/\∀D ys H',New H H' D (.lst ys)->uQ ks xs ys->Q (.ref D) H'
def rK:Value->V
 | .ref a=>.ref a
 | _=>.non
theorem yW:∀{xs:List V} {us:xE},Vals xs us->(∀v∈xs,∃q,v=.ref q)->xs=us.map rK/\∀u∈us,∃q,u=.ref q
 | _,_,.nil,_=>⟨rfl,λ_ h=>by cases h⟩
 | _,_,.cons r t,h=>by
  obtain⟨e1,e2⟩:=yW t λv hv=>h v (zD _ hv)
  obtain⟨q,rfl⟩:=h _ zC;cases r;refine⟨by rw[oS,<- e1];rfl,λu hu=>?_⟩;rcases vT.mp hu with rfl|hu
  ·exact⟨q,rfl⟩
  ·exact e2 u hu
theorem yX:∀{us:xE},(∀u∈us,∃q,u=.ref q)->Vals (us.map rK) us
 | [],_=>.nil
 | u::us,h=>by
  obtain⟨q,rfl⟩:=h u zC;exact .cons rfl (yX λv hv=>h v (zD _ hv))
theorem JC{X:Cx}{K:W.Frag}{k:Nat}(hK:X.K=K)(hr:Room k X.A):Li X "sorted" "key" (Tp K):=by
 intro pins s σ H vs us y u Q I rv ry h;subst hK;obtain⟨l,f,xs,ks,rfl,rfl,lam,hq,hl,h64,hk,q⟩:=h;cases ry;rcases rv with _|⟨r,_|_⟩;cases r;obtain⟨its,rv,p,hz⟩:=I.list hq;obtain⟨m,hm,_⟩:=id I.loc;obtain⟨qual,x,params,p1,p2,p3,j,scope,pm,ctv,c',oc,cv,t,ef,ec,ed,e1,S,hb⟩:=lam;have hlen:its.length=xs.length:=rv.length.symm;have nL:∀{b:Addr} {u:HO},H b=some u->b≠X.env.locals:=λ{b u} e z=>by rw[z,I.free] at e;cases e
 have refs:∀v∈xs,∃q,v=V.ref q:=λv hv=>by
  obtain⟨i,hi,e⟩:=List.getElem_of_mem hv;obtain⟨q,r,e2,_⟩:=hk i v (ks[i]'(by lia)) (by rw[<- e];simp) (by simp);exact⟨q,e2⟩
 obtain⟨xb,ub⟩:=yW rv refs;have keep:∀{h:Heap} {own:List (Addr×Obj)},News { objs:=#[] } X.env.locals h (m7 s.heap X.env.locals++own)->∀b o,b≠X.env.locals->s.heap.get? b=some o->h.get? b=some o:=λN b o n e=>(N (b,o) (mE _ (m8 e n))).1
 refine ksk_sorted (h₀:={ objs:=#[] }) (L:=X.env.locals) (m:=m) (news:=m7 s.heap X.env.locals) (b:=false) (vs:=its) (kz:=ks) (f:=.ref f) ⟨hm,λb o e=>?_,Nat.zero_le _⟩ (λp hp=>⟨(yV hp).1,(yV hp).2,rfl⟩) p.isList (by lia) (by lia) (ksk_s1 _ _) (λx=>ksk_l1 _ _) (λx=>ksk_t1 f x) ?_ ?_
 ·have e:Heap.get? { objs:=#[] } b=some o:=e;simp[Heap.get?] at e
 ·intro i v k hv hki h tk own F N;have kp:=keep N;have hx:xs[i]?=some (rK v):=by rw[xb,wT,hv];rfl
  obtain⟨q,r,e2,e3,e4⟩:=hk i _ k hx hki;obtain⟨q',rfl⟩:=ub v (yY hv);cases e2;obtain⟨_,its2,rv2,ob,et,ec2⟩:=I.hok q _ e3;obtain⟨u2,eu,ru⟩:=rv2.get e4;obtain⟨t2,rfl⟩:=ru;have lim:h.NoLimit:=I.ok.mod.nolimit.keeps λb o e=>kp b o (qS (qE (uA e) (rX I.ok.bsz I.ok.above))) (I.bk b o e)
  refine aa8 (A:=X.A.in1.in1) (s:={ s with heap:=h,toks:=tk }) (show X.A.depth<_ from hr.depth) (kp _ _ (nL ef) (I.hok f _ ef).1) ⟨c',oc,cv,t,rfl,kp _ _ (nL ec) (I.hok c' _ ec).1,ed,e1⟩ lim S (hb q) (its:=its2) ⟨ob,kp _ _ (nL e3) et,ec2⟩ eu λh' tk' k2=>?_
  exact KskEnd.intro (s₁:={ s with heap:=h,toks:=tk }) (news':=m7 s.heap X.env.locals++own) ⟨F.ns.keeps k2,λb o e=>k2 b o (F.keep b o e),F.above⟩ (λp hp=>⟨k2 _ _ (N p hp).1,(N p hp).2⟩) λp hp=>hp
 ·intro D h' tk out c F N hD out';obtain⟨ps,pp,eo,pw⟩:=out';have hn:s.heap.get? D=none:=by
   cases e:s.heap.get? D with
   | none=>rfl
   | some o =>
    have:=hD (D,o) (m8 e (N (D,seqObj "list" out c) zC).2.1);exact gL this (qV _)
  have hin:∀u∈out.toList,∃q,u=Value.ref q:=λu hu=>by
   rw[eo] at hu;obtain⟨pr,h1,rfl⟩:=jI.mp hu;have:=pp.mem_iff.mp h1;exact ub _ (List.of_mem_zip (show (pr.1,pr.2)∈ks.zip its from this)).2
  have lo:out.toList.length=xs.length:=by
   rw[eo,wP,pp.length_eq,List.length_zip]
   lia
  refine⟨.ref D,upd H D (.lst (out.toList.map rK)),I.ael (t':=tk) (λb u n e=>(N (b,u) (zD _ (m8 e n))).1) hm F.ns hn ?_,rfl,q D _ _ (New.mk' ?_) ⟨ps.map λpr=>(pr.1,rK pr.2),?_,?_,?_⟩⟩
  ·refine⟨by rw[wP,lo];exact hz,out.toList,c,yX hin,?_⟩;exact(N (D,seqObj "list" out c) zC).1
  ·cases e:H D with
   | none=>rfl
   | some u =>
    obtain⟨ob,e2⟩:=(I.hok D u e).is;rw[hn] at e2;cases e2
  ·have:=pp.map λpr:Int×Value=>(pr.1,rK pr.2)
   rw[xb];have e3:(ks.zip its).map (λpr:Int×Value=>(pr.1,rK pr.2))=ks.zip (its.map rK):=by
    rw[List.zip_map_right]
    rfl
   rw[<- e3];exact this
  ·rw[eo,List.map_map,List.map_map]
   rfl
  ·exact List.pairwise_map.mpr (pw.imp λh=>by simpa using h)
theorem Inv.grow{X:Cx}{pins:List (Addr×Obj)}{σ:St}{H H':Hp}{s:Shared}{h':Heap}{t':Nat}(I:Inv X pins σ H s)(k:∀b u,H b=none->s.heap.get? b=some u->h'.get? b=some u/\H' b=none)
  (kt:∀b u,H b=some u->(H' b=some u/\∀o,s.heap.get? b=some o->h'.get? b=some o)\/∃ps more,u=.tbl ps/\H' b=some (.tbl (ps++more))/\h'.get? b=some { cls:=.none,data:=.fields (ps++more) })
  (new:∀b u,H b=none->H' b=some u->cA X.prog X.w H' h' b u):Inv X pins σ H' { s with heap:=h',toks:=t' }:=by
 have same:∀{b:Addr} {u:HO},H b=some u->(∀ps,u≠.tbl ps)->H' b=some u/\∀o,s.heap.get? b=some o->h'.get? b=some o:=λ{b u} e n=>by
  rcases kt b u e with z|⟨ps,_,z,_⟩
  ·exact z
  ·exact gL z (n ps)
 obtain⟨m0,⟨oL,esL,epL,eL,rL⟩,_⟩:=id I.loc;have kL:=(k _ _ I.free eL).1;refine I.step (g':=s.gens) (d':=s.drawn) (ch:=[]) (λ_ z=>nomatch z) (λb u n _ _ e q=>(k b u q e).1) (λb u n _ _ e q=>⟨u.slots,(k b u q e).1⟩) (λb u _ e q=>(k b u q e).2) (λb u _ e=>?_) (λb xs e=>(same e (by intro _ z;cases z)).1) (λb u v e=>(same e (by intro _ z;cases z)).1) (λb ps e=>?_) (λm2 hm2=>?_) (λb u e=>?_) I.bare
 ·cases q:H b with
  | none=>exact⟨u,(k b u q e).1⟩
  | some v =>
   rcases kt b v q with z|⟨ps,more,_,_,z⟩
   ·exact⟨u,z.2 u e⟩
   ·exact⟨_,z⟩
 ·rcases kt b _ e with z|⟨ps',more,z,z2,_⟩
  ·exact⟨#[],by rw[z.1];simp⟩
  ·cases z;exact⟨more,z2⟩
 ·obtain⟨o,es,ep,e,r⟩:=hm2;rw[eL] at e;cases e;exact⟨_,es,ep,kL,r⟩
 ·cases q:H b with
  | none=>exact new b u q e
  | some v =>
   rcases kt b v q with z|⟨ps,more,rfl,z2,z3⟩
   ·rw[z.1] at e;cases e;refine(I.hok b _ q).stay (λc o hc e2=>?_) (λc e2=>(same e2 (by intro _ z;cases z)).1) λc xs e2=>(same e2 (by intro _ z;cases z)).1
    rcases hc with rfl|hc
    ·exact z.2 o e2
    ·exact(same hc (by intro _ z;cases z)).2 o e2
   ·rw[z2] at e;cases e;exact z3
def TabOk(pos:Pos)(qual:Str)(ps:xI)(H:Hp):Prop:=ps=#[]\/∃(c':Addr)(oc:Obj)(vs:xI)(t:Tok),ps=#[rawInt pos.line,rawInt pos.col,.ref c']/\H c'=some (.frz oc (.own c'))/\oc.data=.fields vs/\vs[1]?=some (.str qual t)
def Bm(mg:xC)(base:Heap):Prop:=∃bm ob,mg "__builtins__" = some (.ref bm)/\bm≠builtinsNs/\base.get? bm=some ob/\ob.cls=.type "module" /\ ob.dict=some builtinsNs/\ob.data=.plain
def aem(P:Addr)(pos:Pos)(qual:Str):TE:=λ_ H Q=>∃ps,H P=some (.tbl ps)/\TabOk pos qual ps H/\∀f ps' H',Kp P H H'->H' P=some (.tbl ps')->TabOk pos qual ps' H'->oX H' f->Q (.ref f) H'
theorem aa_{X:Cx}{c P:Addr}{qual x:Str}{params:Arguments}{scope:Scope}{p1 p2 p3 pos:Pos}{j:Nat}(B:Bm X.mg X.base)(hc:X.env.code=.ref c)(hK:W.codeHdIn X.K c P=true)(hq:X.env.qual++("<lambda>" : Str)=qual)(S:uP x scope)
  (hdef:defaultsOf params X.env=([],[]):=by rfl) (hcl:closureFor scope X.env=pure []:=by rfl)
  (hb:∀(pm ctv:Value)(c' q:Addr),bindArgs (W.kla_fn "<lambda>" qual params (kI x p1 p2 p3 j) scope [] pm (.ref c') ctv) ⟨[.ref q],[]⟩=pure [(x,.ref q)]:=by intros;rfl) :
  PE X (.Lambda params (kI x p1 p2 p3 j) scope pos) (aem P pos qual):=by
 intro pins s σ H Q I h;obtain⟨ps,eP,tk,q⟩:=h;have hP:s.heap.get? P=some (W.tabObj ps):=I.hok P _ eP;obtain⟨bm,ob,b1,b2,b3,b4,b5,b6⟩:=B;have hg:s.heap.Ns mainGlobals X.mg:=I.ok.mod.glob.keeps I.bk;have nob:∀{b:Addr} {o:Obj},X.base.get? b=some o->b≠P:=λ{b o} e z=>by
  have:=(I.bs b o e).2;rw[z,eP] at this;cases this
 have nG:mainGlobals≠P:=by
  obtain⟨o,_,_,e,_⟩:=I.ok.mod.glob;exact nob e
 have nbG:bm≠mainGlobals:=λz=>by
  obtain⟨o,es,ep,e,hd,_⟩:=I.ok.mod.glob;rw[z,e] at b3;cases b3;rw[hd] at b6;cases b6
 have BA:s.heap.BuiltinsAt X.mg P:=⟨bm,ob,b1,b2,nbG,nob b3,I.bk _ _ b3,b4,b5,b6⟩;have CH:=W.codeHd_of_K I.kIn hK;refine W.kla_eval hdef ?_;rw[hq];have nP:∀{b:Addr},H b=none->b≠P:=λ{b} e z=>by rw[z,eP] at e;cases e
 rcases tk with rfl|⟨c',oc,vs,t,rfl,e1,e2,e3⟩
 ·refine W.kla_makeFunction hcl I.ok.glob hg hc CH hP trivial rfl nG BA λc' ctv h' tk' hx hge hlt hrec hP'=>?_
  obtain⟨c2,oc,vs,t,z,hoc,hd,hv⟩:=hrec;cases z;have fc:H c'=none:=I.hok.fresh hge;have hsz:s.heap.objs.size<=h'.objs.size:=rX hge (Nat.le_of_lt hlt);have ff:H h'.objs.size=none:=I.hok.fresh hsz;have ncf:c'≠h'.objs.size:=qS hlt;have ncP:c'≠P:=nP fc;have nfP:h'.objs.size≠P:=nP ff
  generalize hf:h'.objs.size=f at *
  generalize hob:W.kla_obj "<lambda>" qual params (kI x p1 p2 p3 j) scope [] ((X.mg "__name__").getD .none) c' ctv=fo
  let H':Hp:=upd (upd (upd H P (.tbl (#[]++#[rawInt pos.line,rawInt pos.col,.ref c']))) c' (.frz oc (.own c'))) f (.frz fo (.own f))
  have hP2:H' P=some (.tbl #[rawInt pos.line,rawInt pos.col,.ref c']):=by
   show upd _ _ _ _=_;rw[aQ (Ne.symm nfP),aQ (Ne.symm ncP),aV];simp
  have hc2:H' c'=some (.frz oc (.own c')):=by
   show upd _ _ _ _=_;rw[aQ ncf,aV]
  have hf2:H' f=some (.frz fo (.own f)):=aV;have old:∀{b:Addr},b≠P->b≠c'->b≠f->H' b=H b:=λ{b} n1 n2 n3=>by
   show upd _ _ _ _=_;rw[aQ n3,aQ n2,aQ n1]
  have push:∀{b:Addr} {o:Obj},h'.get? b=some o->(h'.push fo).get? b=some o:=λe=>uB _ e
  have I':Inv X pins σ H' { s with heap:=h'.push fo,toks:=tk' }:=by
   refine I.grow (λb u n e=>?_) (λb u e=>?_) λb u n e=>?_
   ·have lt:=uA e;have n2:b≠c':=qS (qE lt hge);have n3:b≠f:=qS (qE lt hsz);exact⟨push (hx b u (nP n) e),by rw[old (nP n) n2 n3];exact n⟩
   ·by_cases hbP:b=P
    ·right
     rw[hbP,eP] at e;cases e;exact⟨#[],#[rawInt pos.line,rawInt pos.col,.ref c'],rfl,by rw[hbP,hP2];simp,by rw[hbP];exact push hP'⟩
    ·left
     have n2:b≠c':=λz=>by rw[z,fc] at e;cases e
     have n3:b≠f:=λz=>by rw[z,ff] at e;cases e
     exact⟨by rw[old hbP n2 n3];exact e,λo e4=>push (hx b o hbP e4)⟩
   ·by_cases hbf:b=f
    ·rw[hbf,hf2] at e;cases e;have e5:(h'.push fo).get? f=some fo:=by
      rw[<- hf];exact oC _ (by rw[<- hob];rfl)
     rw[hbf];exact⟨e5,_,e5⟩
    ·by_cases hbc:b=c'
     ·rw[hbc,hc2] at e;cases e;rw[hbc];exact⟨push hoc,_,push hoc⟩
     ·have hbP:b≠P:=nP n;rw[old hbP hbc hbf,n] at e;cases e
  refine⟨.ref f,H',I',rfl,q f _ H' (λb u n e=>?_) hP2 (.inr ⟨c',oc,vs,t,rfl,hc2,hd,hv⟩) ⟨qual,x,params,p1,p2,p3,j,scope,_,ctv,c',oc,vs,t,by rw[hf2,<- hob],hc2,hd,hv,S,hb _ _ _⟩⟩;have n2:b≠c':=λz=>by rw[z,fc] at e;cases e
  have n3:b≠f:=λz=>by rw[z,ff] at e;cases e
  rw[old n n2 n3];exact e
 ·have hcode:codeAmong pos (#[rawInt pos.line,rawInt pos.col,Value.ref c']).toList=some (.ref c'):=by
   show (if ((pos.line:Int)==(pos.line:Int) && (pos.col:Int)==(pos.col:Int))=true then some (Value.ref c') else _)=_;simp
  refine W.kla_makeFunctionHit hcl I.ok.glob hg hc CH hP trivial hcode BA λctv h' tk' hx hsz=>?_
  have ff:H h'.objs.size=none:=I.hok.fresh hsz
  generalize hob:({ cls:=Value.type "function", data:=Data.func (W.kla_fn "<lambda>" qual params (kI x p1 p2 p3 j) scope [] ((X.mg "__name__").getD .none) (.ref c') ctv) }:Obj)=fo
  have e5:(h'.push fo).get? h'.objs.size=some fo:=oC _ (by rw[<- hob];rfl);have k2:∀{b:Addr} {u:HO},H b=some u->upd H h'.objs.size (.frz fo (.own h'.objs.size)) b=some u:=λ{b u} e=>by
   rw[aQ (λz=>by rw[z,ff] at e;cases e)];exact e
  refine⟨.ref h'.objs.size,upd H h'.objs.size (.frz fo (.own h'.objs.size)),I.laid (t':=tk') (λb u e=>uB _ (hx b u e)) hsz ⟨e5,_,e5⟩,rfl,q _ _ _ (λb u n e=>k2 e) (k2 eP) (.inr ⟨c',oc,vs,t,rfl,k2 e1,e2,e3⟩) ⟨qual,x,params,p1,p2,p3,j,scope,_,ctv,c',oc,vs,t,by rw[aV,<- hob],k2 e1,e2,e3,S,hb _ _ _⟩⟩
section
variable{P:Program}{w:World}{K:W.Frag}{mg:xC}{base:Heap}{CX:CXT}{k:Nat}{nm qual:Str}{st:Stmt}{f c:Addr}{N ps:List Str}{sp:Sp}
theorem Ph(h:∃fd,Fun K nm qual st f fd/\fd.code=.ref c)(S:aJ N ps (aA st))(len:∀vs H Q E,sp vs H Q E->vs.length=ps.length)
  (hb:∀(kV doc pm:Value)(an:xL)(cdv ct:Value)(us:xE),us.length=ps.length->bindArgs (W.fnOf nm qual (cD st) (bH st) (aA st) .none kV doc pm an cdv ct) ⟨us,[]⟩=pure (ps.zip us))
  (hbody:∀(f:Addr)(A:Around)(outer:List Env)(s:Shared)(H:Hp)(vs:List V)(Q:VK)(E:XK),Room k (A.deeper (envOfC qual (aA st) s.heap.objs.size f (.ref c)))->sp vs H Q E ->
   ∃t,PSs (gQ CX P w K mg base N qual (aA st) f (.ref c) A outer s H E).nox (bH st) t/\t { nx:=λ_ H'=>Q .non H',rt:=Q } (start N vs) H):gU P w K mg base CX (k+1) f ps sp:=by
 obtain⟨fd,F,hc⟩:=h;refine⟨fd,?_,F.binds hb⟩;obtain⟨oc,od,kV,doc,pm,an,cdv,ct,osl,rfl,lk,hcd⟩:=F.ex;obtain rfl:cdv=.ref c:=hc;refine t_ lk hcd S len λA outer s H vs Q E hr hsp=>?_
 obtain⟨t,h,q⟩:=hbody f A outer s H vs Q E hr hsp;exact⟨t,h.nox,q⟩
end
def Tq(ts:List Addr)(H:Hp):Prop:=(∀p∈ts,H p=some (.tbl #[]))/\∀b,b ∉ ts->H b=none\/∃o xs,H b=some (.frz o (.lst xs))
theorem Pj{P:Program}{w:World}{K:W.Frag}{mg mb:xC}{CX:CXT}{k:Nat}{fa a:Addr}{fd:FuncData}{x:Str}{sp:Sp}{s₁:Shared}{vs:xE}{ns:List Int}{ts:List Addr}
  (KX:K.In s₁.heap) (hns:s₁.heap.Ns mainGlobals mg) (hb:s₁.heap.Ns builtinsNs mb) (hbb:∀x:Str,x ≠ "__name__" -> mb x=bootBuiltins x) (hlim:s₁.heap.NoLimit) (hg:s₁.gens=#[]) (hB:Bm mg s₁.heap)
  (hts:∀p∈ts,s₁.heap.get? p=some (W.tabObj #[])) (hct:∀p∈ts,isCodeTable s₁.heap p) (hKt:∀p∈ts,K.lookup p=none)
  (ha:s₁.heap.get? a=some { cls:=.type "list", data:=.seq vs.toArray }) (hi:IntsAre vs ns) (hl:ns.length<=sizeLine) (hr:Room k callerA)
  (F:∀base:Heap,K.In base->base.Ns mainGlobals mg->Bm mg base->jE P w K mg base CX k fa fd [x] sp) (hbind:∀(s:Shared)(u:Value),BindsTo s fd ⟨[u],[]⟩ [(x,u)])
  (hsp:∀H:Hp,Tq ts H->a ∉ ts->SqL K H a (ns.map V.int)->sp [.ref a] H (λv _=>v=.bl true) λ_ _ _=>False)
  (hCX:∀H e s',CX [] H s₁ (λ_ _ _=>False) e s'->False) :
  codeAny (model P w) callerA (.call (.ref fa) ⟨[.ref a],[]⟩) (λr s'=>r=.ok (.ret (.bool true))/\OldK s₁.heap s'.heap/\s'.os=s₁.os/\AllBare s'.gens) s₁:=by
 have rv:=yI hi;have lenV:=hi.length;have nat:a ∉ ts:=λz=>by
  have:=hts a z;rw[ha] at this;cases this
 have core:∀H:Hp,Tq ts H->SqL K H a (ns.map V.int)->HOk P w H s₁.heap->(∀b,b ∉ ts->H b≠none->b=a)->(H a≠none->K.lookup a=none) ->
   codeAny (model P w) callerA (.call (.ref fa) ⟨[.ref a],[]⟩) (λr s'=>r=.ok (.ret (.bool true))/\OldK s₁.heap s'.heap/\s'.os=s₁.os/\AllBare s'.gens) s₁:=by
  intro H hO hS hok hA hK;have kindOf:∀{b:Addr} {o:Obj},s₁.heap.get? b=some o->H b≠none->o=W.tabObj #[]\/o={ cls:=.type "list", data:=.seq vs.toArray }:=λ{b o} e n=>by
   by_cases hb:b∈ts
   ·left
    have:=hts b hb;rw[e] at this;exact nI this
   ·right
    have:=hA b hb n;rw[this,ha] at e;exact(nI e).symm
  have keep:∀{b:Addr} {o:Obj},s₁.heap.get? b=some o->o≠W.tabObj #[]->o≠{ cls:=.type "list", data:=.seq vs.toArray }->(xQ s₁.heap H).get? b=some o:=λ{b o} e n1 n2=>Dy e (by
   cases q:H b with
   | none=>rfl
   | some u =>
    rcases kindOf e (by rw[q];simp) with z|z
    ·exact gL z n1
    ·exact gL z n2)
  have nsK:∀{b:Addr} {m:xC},s₁.heap.Ns b m->(xQ s₁.heap H).Ns b m:=λ{b m} ⟨o,es,ep,e,d,r⟩=>⟨o,es,ep,keep e (λz=>by rw[z] at d;cases d) (λz=>by rw[z] at d;cases d),d,r⟩
  have hKb:K.In (xQ s₁.heap H):=λb o e=>Dy (KX b o e) (by
   cases q:H b with
   | none=>rfl
   | some u =>
    by_cases hb:b∈ts
    ·rw[hKt b hb] at e;cases e
    ·have z:=hA b hb (by rw[q];simp);rw[z] at e q;rw[hK (by rw[q];simp)] at e;cases e)
  have hBb:Bm mg (xQ s₁.heap H):=by
   obtain⟨bm,ob,b1,b2,b3,b4,b5,b6⟩:=hB;exact⟨bm,ob,b1,b2,keep b3 (λz=>by rw[z] at b4;cases b4) (λz=>by rw[z] at b6;cases b6),b4,b5,b6⟩
  have hM:Mod K mg (xQ s₁.heap H):=⟨hKb,nsK hns,⟨mb,nsK hb,hbb⟩,let ⟨mc,h1,h2⟩:=hlim;⟨mc,nsK h1,h2⟩⟩;have e0:I_ P w K mg (xQ s₁.heap H) callerA [] s₁ H:=⟨rfl,hM,λb o e=>Ww e,Nat.le_of_eq (Og _ _),trivial,λb hb=>absurd (show b∈([]:List Addr) from hb) (by simp),hok,.of_eq hg⟩;refine codeAny_mono ((F _ hKb (nsK hns) hBb).run callerA [] s₁ H ⟨[.ref a],[]⟩ [.ref a] [.ref a] _ _ hr e0 (hbind s₁ (.ref a)) (.cons rfl .nil) (hsp H hO nat hS)) λr s' h=>?_
  rcases r with e|fl
  ·exact(hCX H e s' h).elim
  ·rcases fl with _|_|_|u
   ·exact False.elim h
   ·exact False.elim h
   ·exact False.elim h
   ·obtain⟨v,H',os,bare,un,hok',r',q⟩:=h;obtain rfl:v=.bl true:=q;obtain rfl:u=Value.bool true:=r';refine⟨rfl,?_,os,bare⟩;have each:∀b o,s₁.heap.get? b=some o->s'.heap.get? b=some o\/(b∈ts/\o=W.tabObj #[]/\∃more,s'.heap.get? b=some (W.tabObj (#[]++more))):=λb o e=>by
     cases q:H b with
     | none=>exact .inl (un.keep b o e q (λz=>absurd (show b∈([]:List Addr) from z) (by simp)) (by simp))
     | some u =>
      by_cases hb:b∈ts
      ·right
       have e1:=hts b hb;rw[e] at e1;obtain⟨more,e2⟩:=un.mq b #[] (hO.1 b hb);exact⟨hb,nI e1,more,hok' b _ e2⟩
      ·left
       rcases hO.2 b hb with z|⟨ob,xs,z⟩
       ·rw[q] at z;cases z
       ·have e1:=(hok b _ z).1;rw[e] at e1;cases e1;exact(hok' b _ (un.mj b _ _ z)).1
    refine⟨λb o e=>?_,λb o e=>?_⟩
    ·rcases each b o e with z|⟨hb,rfl,more,z⟩
     ·exact .inl z
     ·exact .inr (.inl ⟨hct b hb,rfl,#[],more,rfl,z⟩)
    ·rcases each b o e with z|⟨_,_,more,z⟩
     ·exact⟨_,z⟩
     ·exact⟨_,z⟩
 cases hk:K.lookup a with
 | some o =>
  have e:=KX a o hk;rw[ha] at e;cases e;refine core (λb=>if b∈ts then some (.tbl #[]) else none) ⟨λp hp=>if_pos hp,λb hb=>.inl (if_neg hb)⟩ (.inr ⟨_,vs.toArray,_,hk,rfl,rfl,rfl,by rw[List.size_toArray,lenV];exact hl,by simpa using rv⟩) (λb u z=>?_) (λb hb z=>absurd (if_neg hb) z) λz=>absurd (if_neg nat) z
  by_cases hb:b∈ts
  ·have z':=(zS hb).symm.trans z;cases z';exact hts b hb
  ·have z':=(yB hb).symm.trans z;cases z'
 | none =>
  refine core (λb=>if b∈ts then some (.tbl #[]) else if b=a then some (.frz { cls:=.type "list", data:=.seq vs.toArray } (.lst (ns.map V.int))) else none) ⟨λp hp=>zS hp,λb hb=>?_⟩ (.inl (.inr ⟨{ cls:=.type "list", data:=.seq vs.toArray },?_⟩)) (λb u z=>?_) (λb hb z=>?_) λ_=>hk
  ·by_cases h:b=a
   ·exact .inr ⟨_,_,(yB hb).trans (zS h)⟩
   ·exact .inl ((yB hb).trans (yB h))
  ·exact(yB nat).trans (zS rfl)
  ·by_cases hb:b∈ts
   ·have z':=(zS hb).symm.trans z;cases z';exact hts b hb
   ·by_cases h:b=a
    ·have z':=((yB hb).trans (zS h)).symm.trans z;cases z';rw[h];exact⟨ha,by rw[wP];exact hl,vs,_,rv,ha⟩
    ·have z':=((yB hb).trans (yB h)).symm.trans z;cases z'
  ·by_cases h:b=a
   ·exact h
   ·exact gL ((yB hb).trans (yB h)) z
theorem Tr{l:W.OpenLaw}{n k:Nat}{q:Program}{loose:List Str}{XP:(Str->Option Value)->Heap->Prop}{YP:World->Heap->Prop}{d:DefRec}{K:Params->W.Frag}{CX:World->CXT}{sp:World->Sp}{x:Str}{ts:List Addr}
  (hn:l.most=some n) (hn2:n<=sizeLine) (hdf:d.params.defaults=[]) (hr:Room k callerA)
  (hY:∀(w:World)(h:Heap),YP w h->(K w.params).In h/\∀p∈ts,h.get? p=some (W.tabObj #[]))
  (F:∀(w:World)(mg:xC)(fa:Addr)(h:Heap),(K w.params).In h->h.Ns mainGlobals mg->mg d.name=some (.ref fa)->(∀p∈ts,(K w.params).lookup p=none/\∃c,W.codeHdIn (K w.params) c p=true) /\
   ∃fd:FuncData,(∀(s:Shared)(u:Value),BindsTo s fd ⟨[u],[]⟩ [(x,u)]) /\
    ∀base:Heap,(K w.params).In base->base.Ns mainGlobals mg->Bm mg base->jE l.prog w (K w.params) mg base (CX w) k fa fd [x] (sp w))
  (hsp:∀(w:World)(H:Hp)(a:Addr)(ns:List Int),ns.length<=n->Tq ts H->a ∉ ts->SqL (K w.params) H a (ns.map V.int)->sp w [.ref a] H (λv _=>v=.bl true) λ_ _ _=>False)
  (hCX:∀(w:World)(H:Hp)(s:Shared)(e:Value)(s':Shared),CX w [] H s (λ_ _ _=>False) e s'->False) :
  W.WalkO q loose XP YP l.row.toRowW d [] (λf vs=>PySem.call f vs):=by
 refine Att.Eb hn hdf λw s₀ s₁ mg mb fa o pm cd doc a vs ns G Y ho hd hcd hmg hobj hints hlen hg=>?_
 obtain⟨KX,hts⟩:=hY w _ Y;obtain⟨hT,fd,hb,hF⟩:=F w mg fa _ KX G.T.g hmg;refine Pj KX G.T.g G.T.b G.T.builtins G.T.nolimit hg G.T.bmain hts (λp hp=>?_) (λp hp=>(hT p hp).1) hobj hints (rX hlen hn2) hr hF hb (λH hO hn hS=>hsp w H a ns hlen hO hn hS) λH e s'=>hCX w H s₁ e s'
 obtain⟨c,hc⟩:=(hT p hp).2;obtain⟨o,vs,_,_,_,_,_,_,_,e1,e2,e3,e4,_⟩:=W.codeHd_of_K KX hc;exact⟨c,o,vs,e1,e2,e3,e4⟩
end L2
namespace L2
open PySem PySem.Spec PyProof.Rows PySem.SeqAt
def tx(cs:List Nat):Str:=⟨cs.toArray⟩
theorem jd(cs:List Nat):(tx cs).length=cs.length:=by simp[tx,Str.length]
theorem Tt(cs:List Nat):(tx cs).cps.toList=cs:=by simp[tx]
theorem m9{a b:List Nat}(h:tx a=tx b):a=b:=by
 have:=gI (λz:Str=>z.cps.toList) h;simpa[tx] using this
def abb:R2:=λx y H Q=>∃z j,x=.str z/\y=.int j/\z.length<=sizeLine/\Q (.str (Txt.slice z none (some j))) H
def aen(te th:TE):TE:=λσ H Q=>te σ H λx H1=>th σ H1 λy H2=>abb x y H2 Q
section
variable{X:Cx}{e hi:Expr}{te th:TE}{p2 pos:Pos}
theorem Tv(he:PE X e te)(hu:PE X hi th):PE X (.Subscript e (.Slice none (some hi) none p2) pos) (aen te th):=by
 intro pins s σ H Q I h;refine Subscript_ (thn (he pins s σ H _ I h) λv s1 ⟨x,H1,I1,r1,q1⟩=>?_);refine wpAny_Slice (wpAny_evalPart_none (wpAny_evalPart_some (thn (hu pins s1 σ H1 _ I1 q1) λvu s3 ⟨y,H3,I3,pu,z,j,e1,e2,hz,q3⟩=>wpAny_evalPart_none ?_)));subst e1;subst e2;obtain⟨t,rfl⟩:=r1;obtain⟨t2,rfl⟩:=pu;obtain⟨Tn,id,h1,h2,h3⟩:=SBH.sliceItem_ns (prog:=X.prog) (w:=X.w) (A:=X.A) (E:=X.xe) (s:=s3) (P:=λh=>∀b o,s3.heap.get? b=some o->h.get? b=some o) (Q:=EP X pins σ Q) (x:=z) (t:=t) (j:=j) (uj:=t2) (λh ob k b o e4=>uB _ (k b o e4)) (λ_ _ e4=>e4) (λh' t' k kp=>⟨.str _,H3,I3.kept kp,⟨t',rfl⟩,q3⟩) hz;exact tail_any (ops:=[.ref s3.heap.objs.size,.str z t]) h2 h1 h3 (by with_unfolding_all rfl)
def Zh:R2:=λx y H Q=>∃z n,x=.str z/\y=.int n/\MulOk z n/\Q (.str (Txt.mul z n)) H
theorem XQ:OpR X (binaryOp .Mult) Zh:=Jk
def Tw:V->List V->Hp->VK->Prop:=λx vs H Q=>∃l xs i y,x=.ref l/\vs=[.int i]/\H l=some (.lst xs)/\0<=i/\i<xs.length/\xs.length<=1000000/\xs[i.toNat]?=some y/\∀H',Off l H H'->H' l=some (.lst (xs.eraseIdx i.toNat))->Q y H'
theorem XR:MtM X "list.pop" Tw:=by
 intro pins s σ H x vs v us Q I rx rv h;obtain⟨l,xs,i,y,e1,e2,hH,h0,h1,hz,hy,q⟩:=h;refine RN pins s σ H x vs v us Q I rx rv ⟨l,xs,i,i.toNat,y,e1,e2,hH,by lia,by lia,?_,hy,q _ Off.upd aV⟩;unfold seqIndex?;simp only[show ¬ i<0 from by lia,if_false,h0,h1,decide_true,Bool.and_self,if_true]
theorem Lr{o e:Expr}{to te:TE}{apos cpos:Pos}(ho:PE X o to)(he:PE X e te)(hbase:attributeBase o "pop" X.env (eval o X.env)=eval o X.env:=by rfl)
  (hfew:((backTo cpos (starEach [e] X.env)).all (λx=>!x.1) && (backToKw cpos (keywordEach [] X.env)).all (λx=>x.1.isSome)
   && decide (([e]:List Expr).length+([]:List Keyword).length+(if ([]:List Keyword).isEmpty then 0 else 1)<30))=true:=by rfl)
  (hline:(apos.endLine==cpos.line)=true:=by rfl) (hs:starEach [e] X.env=(false,eval e X.env)::starEach [] X.env:=by rfl) :
  PE X (.Call (.Attribute o "pop" apos) [e] [] cpos) (tBM X.K "list" Tw to (n6 te tZ)) :=
 DY PySem.F.plainAttrs_list PySem.F.slot_list_pop PySem.F.type_list_pop XR ho (aj he ak hs) hbase hfew hline hs (by rfl)
end
theorem Tz(cs:List Nat)(j:Nat):Txt.slice (tx cs) none (some (j:Int))=tx (cs.take j):=by
 have hn:¬ ((j:Int)<0):=by lia
 have hix:Builtin.Str.strSliceIndices none (some (j:Int)) 1 (tx cs).length=List.range (min j cs.length):=by
  unfold Builtin.Str.strSliceIndices sliceRange;dsimp only;rw[jd];simp only[show (1:Int) > 0 from by decide,if_true,hn,if_false];have e1:max (0:Int) (min (j:Int) (cs.length:Int))=((min j cs.length:Nat):Int):=by lia
  rw[e1];by_cases h:(0:Int)<((min j cs.length:Nat):Int)
  ·rw[zS h];have e2:((((min j cs.length:Nat):Int)-0+1-1) / 1).toNat=min j cs.length:=by
    rw[Int.ediv_one]
    lia
   rw[e2];have e3:(λk:Nat=>((0:Int)+1*(k:Int)).toNat)=id:=by
    funext k
    show ((0:Int)+1*(k:Int)).toNat=k
    lia
   rw[e3,List.map_id]
  ·rw[yB h];have:min j cs.length=0:=by lia
   rw[this]
   rfl
 unfold Txt.slice;rw[hix,List.length_range,jd];by_cases h:min j cs.length=cs.length
 ·rw[if_pos (by rw[h];simp)];rw[nV (by lia)]
 ·rw[if_neg (by simp[h])];unfold tx
  congr 2
  have hfm:∀(n:Nat),n<=cs.length->(List.range n).filterMap (λi=>cs.toArray[i]?)=cs.take n:=by
   intro n
   induction n with
   | zero=>intro _;rfl
   | succ n ih =>
    intro hn;rw[List.range_succ,List.filterMap_append,ih (by lia),gE,List.filterMap_cons,List.filterMap_nil];have:cs.toArray[n]?=cs[n]?:=by simp
    rw[this];cases cs[n]? <;> rfl
  have:=hfm (min j cs.length) (by lia);rw[this];by_cases hj:j<=cs.length
  ·rw[show min j cs.length=j by lia]
  ·exact gL (by lia) h
theorem abd(c:Nat)(n:Int):Txt.mul (tx [c]) n=tx (List.replicate n.toNat c):=by
 have h:=mul_one_list c n;have e:(tx [c])=⟨#[c]⟩:=rfl;rw[e];have:∀z:Str,z=tx z.cps.toList:=λz=>by cases z;simp[tx]
 rw[this (Txt.mul ⟨#[c]⟩ n),h]
theorem qD(a b:List Nat):tx a++tx b=tx (a++b):=by
 show Str.append _ _=_;unfold Str.append tx;simp
section
variable{K:W.Frag}{H0 H:Hp}{M:List Addr}{L L':List (Addr×HO)}{I:List Im}{l P f:Addr}{xs:List V}{y:V}{Q:VK}{R:Hp->Prop}{te th:TE}{σ:St}{i:Int}{cs ds:List Nat}{c:Nat}{pos:Pos}{qual:Str}{ps:xI}
instance ah5:Go (aen te th σ H Q) (te σ H λx H1=>th σ H1 λy H2=>abb x y H2 Q):=⟨id⟩
instance agh:Go (abb (.str (tx cs)) (.int i) H Q) (Sd (0<=i/\cs.length<=1000) (Q (.str (tx (cs.take i.toNat))) H)):=⟨λs=>⟨_,i,rfl,rfl,by rw[jd];exact bQ (by have:=s.1.2;lia),by
 have:=Tz cs i.toNat;rw[show ((i.toNat:Nat):Int)=i by have:=s.1.1;lia] at this;rw[this];exact s.2⟩⟩
instance agi:Go (ada (.str (tx cs)) (.int i) H Q) (Sd (0<=i/\i<cs.length/\cs.length<=1000) (∀c:Nat,cs[i.toNat]?=some c->Q (.str (tx [c])) H)):=⟨λs=>by
 obtain⟨⟨h0,h1,h2⟩,k⟩:=s;have hl:i.toNat<cs.length:=by lia
 refine⟨tx cs,i,cs[i.toNat],rfl,rfl,by rw[jd];exact bQ (by lia),?_,k _ (by simp)⟩;rw[Tt];obtain⟨n,rfl⟩:∃n:Nat,i=(n:Int):=⟨i.toNat,by lia⟩;exact bB (by simp)⟩
instance aeo:Go (Zb (.str (tx cs)) (.str (tx ds)) H Q) (Sd (cs.length+ds.length<=1000) (Q (.str (tx (cs++ds))) H)):=⟨λs=>⟨_,_,rfl,rfl,by rw[jd,jd];exact bQ (by have:=s.1;lia),by rw[qD];exact s.2⟩⟩
instance aep:Go (Zh (.str (tx [c])) (.int i) H Q) (Sd (0<=i/\i<=1000) (Q (.str (tx (List.replicate i.toNat c))) H)):=⟨λs=>by
 obtain⟨⟨h0,h1⟩,k⟩:=s;refine⟨_,i,rfl,rfl,⟨?_,λa b=>?_,λa b=>?_⟩,by rw[abd];exact k⟩
 ·rw[gS (by lia),gS (by lia)]
  rfl
 ·rw[jd];have:(1:Int)<=(2 ^ 63-1) / i:=by
   rw[Int.le_ediv_iff_mul_le (by lia)]
   lia
  simp only[List.length_cons,List.length_nil]
  lia
 ·unfold Builtin.Str.tooLong;rw[jd];refine gS ?_;have:=bQ (n:=1*i.toNat) (by lia);simp only[List.length_cons,List.length_nil]
  lia⟩
instance ah6[h:Hat H l (.lst xs)]:Go (Tw (.ref l) [.int i] H Q) (Sd (0<=i/\i<xs.length/\xs.length<=1000000) (∀y:V,xs[i.toNat]?=some y->∀H',Off l H H'->H' l=some (.lst (xs.eraseIdx i.toNat))->Q y H')):=⟨λs=>by
 obtain⟨⟨h0,h1,h2⟩,k⟩:=s;have hl:i.toNat<xs.length:=by lia
 exact⟨l,xs,i,xs[i.toNat],rfl,rfl,h.e,h0,h1,h2,by simp,k _ (by simp)⟩⟩
theorem abe{n i0 i1 i2 i3:Nat}{a b c d:V}{R:St->Hp->Prop}(hn:n=4)(hp:SqT K H l [a,b,c,d])(h:bw i0 a σ H λσ1 H1=>bw i1 b σ1 H1 λσ2 H2=>bw i2 c σ2 H2 λσ3 H3=>bw i3 d σ3 H3 R):DK K n (gF (bw i0) (gF (bw i1) (gF (bw i2) (gF (bw i3) Il)))) (.ref l) σ H R:=by
 subst hn;exact⟨l,_,rfl,hp,rfl,_,_,rfl,_,_,rfl,_,_,rfl,_,_,rfl,rfl,h⟩
instance agj{n i0 i1 i2 i3:Nat}{a b c d:V}{R:St->Hp->Prop}[h:SqB K H l [a,b,c,d]]:Go (DK K n (gF (bw i0) (gF (bw i1) (gF (bw i2) (gF (bw i3) Il)))) (.ref l) σ H R) (Sd (n=4) (bw i0 a σ H λσ1 H1=>bw i1 b σ1 H1 λσ2 H2=>bw i2 c σ2 H2 λσ3 H3=>bw i3 d σ3 H3 R)):=⟨λs=>abe s.1 h.e s.2⟩
theorem TabOk.st:∀H H',Tst H H'->TabOk pos qual ps H->TabOk pos qual ps H':=λH H' t h=>by
 rcases h with h|⟨c',oc,vs,t',e,e1,e2⟩
 ·exact .inl h
 ·exact .inr ⟨c',oc,vs,t',e,t _ _ rfl e1,e2⟩
theorem oX.st:∀H H',Tst H H'->oX H f->oX H' f:=λH H' t h=>by
 obtain⟨a1,a2,a3,a4,a5,a6,a7,a8,a9,a10,a11,a12,a13,a14,e1,e2,r⟩:=h;exact⟨a1,a2,a3,a4,a5,a6,a7,a8,a9,a10,a11,a12,a13,a14,t _ _ rfl e1,t _ _ rfl e2,r⟩
abbrev eZ(pos:Pos)(qual:Str)(ps:xI):Im:=.fct (TabOk pos qual ps) TabOk.st
abbrev abf(f:Addr):Im:=.fct (λH=>oX H f) oX.st
class Pn(I:List Im)(pos:Pos)(qual:Str)(ps:xI):Prop where
 m:eZ pos qual ps∈I
class aer(I:List Im)(f:Addr):Prop where
 m:abf f∈I
instance ajf{g:Im}[h:Pn I pos qual ps]:Pn (g::I) pos qual ps:=⟨zD _ h.m⟩
instance ajg:Pn (eZ pos qual ps::I) pos qual ps:=⟨zC⟩
instance ajh:aer (abf f::I) f:=⟨zC⟩
theorem SH.tab[F:SH H0 M H L I][h:Pn I pos qual ps]:TabOk pos qual ps H:=F.im _ h.m
instance ah7[F:SH H0 M H L I][e:LkL L P (.tbl ps)][t:Pn I pos qual ps]:Go (aem P pos qual σ H Q) (∀(f:Addr)(ps':xI)(H':Hp),Kp P H H'->H' P=some (.tbl ps')->TabOk pos qual ps' H'->oX H' f->Q (.ref f) H'):=⟨λk=>⟨ps,F.raw e.m,F.im _ t.m,k⟩⟩
instance ah8[F:SH H0 M H L I][u:LkU L P (.tbl ps) L']:Go (∀H',Kp P H H'->H' P=some (.tbl ps)->TabOk pos qual ps H'->R H') (∀H',SH H0 M H' L' (eZ pos qual ps::I)->R H'):=⟨λk H' f e t=>k H' ((F.kp f e u.u rfl).jc t)⟩
instance ah9[F:SH H0 M H L I][u:LkU L P (.tbl ps) L']:Go (∀H',Kp P H H'->H' P=some (.tbl ps)->TabOk pos qual ps H'->oX H' f->R H') (∀H',SH H0 M H' L' (abf f::eZ pos qual ps::I)->R H'):=⟨λk H' f e t g=>k H' (((F.kp f e u.u rfl).jc t).jc g)⟩
end
def oY(c:Nat):Bool:=decide (97<=c) && decide (c<=122)
def Ls(c:Nat):Bool:=decide (48<=c) && decide (c<=57)
def LET:Str := "abcdefghijklmnopqrstuvwxyz"
def SGN:Str := "abcdefghijklmnopqrstuvwxyz0123456789"
theorem XS(c:Nat):decide (c∈LET.cps.toList)=oY c:=by
 rw[show LET.cps.toList=List.range' 97 26 by decide +kernel];unfold oY;rw[Bool.eq_iff_iff];simp only[decide_eq_true_eq,List.mem_range'_1,Bool.and_eq_true]
 lia
theorem X3(c:Nat):decide (c∈SGN.cps.toList)=(oY c || Ls c):=by
 rw[show SGN.cps.toList=List.range' 97 26++List.range' 48 10 by decide +kernel];unfold oY Ls;rw[Bool.eq_iff_iff];simp only[decide_eq_true_eq,List.mem_append,List.mem_range'_1,Bool.and_eq_true,Bool.or_eq_true]
 lia
structure gM(cs:List Nat):Prop where
 lo:1<=cs.length
 hi:cs.length<=8
 hd:∀c,cs[0]?=some c->oY c=true
 all:∀c∈cs,(oY c || Ls c)=true
structure Rw where
 nm:List Nat
 st:Nat
 sz:Nat
 pn:Nat
abbrev cB(r:Rw):List V:=[.str (tx r.nm),.int (r.st:Nat),.int (r.sz:Nat),.int (r.pn:Nat)]
def aF(rs:List Rw):List (List V):=rs.map cB
theorem aW(rs:List Rw):(aF rs).length=rs.length:=wP ..
structure GoodR(n:Nat)(r:Rw):Prop where
 nm:gM r.nm
 sz:1<=r.sz
 le:r.st+r.sz<=n
def Apart(r s:Rw):Prop:=r.nm≠s.nm/\(r.st+r.sz<=s.st\/s.st+s.sz<=r.st)
theorem Apart.symm{r s:Rw}(h:Apart r s):Apart s r:=⟨λz=>h.1 z.symm,h.2.elim .inr .inl⟩
structure Lay(n:Nat)(rs:List Rw):Prop where
 good:∀r∈rs,GoodR n r
 ap:rs.Pairwise Apart
 few:rs.length<=40
def Asc(rs:List Rw):Prop:=rs.Pairwise λr s=>r.st+r.sz<=s.st
theorem Lay.perm{n:Nat}{rs qs:List Rw}(h:Lay n rs)(p:rs.Perm qs):Lay n qs:=⟨λr hr=>h.good r (p.mem_iff.mpr hr),(p.pairwise_iff (λ{a b}=>Apart.symm)).mp h.ap,by rw[<- p.length_eq];exact h.few⟩
theorem cF{H:Hp}{rs:List Rw}{ys:List V}{i:Nat}{v:V}(h:aD H ys (aF rs))(e:ys[i]?=some v):∃r q,rs[i]?=some r/\v=.ref q/\H q=some (.tup (cB r)):=by
 obtain⟨r,q,e1,e2,e3⟩:=oV h e;unfold aF at e1;rw[wT] at e1;cases e4:rs[i]? with
 | none=>rw[e4] at e1;cases e1
 | some w=>rw[e4] at e1;cases e1;exact⟨w,q,rfl,e2,e3⟩
theorem Ez{α β:Type}{f:α->β}{l:List β}{m:List α}(p:l.Perm (m.map f)):∃k:List α,k.Perm m/\l=k.map f:=by
 generalize hm:m.map f=m' at p
 induction p generalizing m with
 | nil=>exact⟨[],by rw[List.map_eq_nil_iff.mp hm],rfl⟩
 | cons x p ih =>
  cases m with
  | nil=>cases hm
  | cons a t =>
   rw[oS] at hm;injection hm with h1 h2
   obtain⟨k,pk,ek⟩:=ih h2;exact⟨a::k,pk.cons a,by rw[oS,h1,ek]⟩
 | swap x y l =>
  cases m with
  | nil=>cases hm
  | cons a t =>
   cases t with
   | nil=>rw[oS] at hm;injection hm with h1 h2;cases h2
   | cons b u =>
    rw[oS,oS] at hm;injection hm with h1 h2
    injection h2 with h2 h3
    exact⟨b::a::u,List.Perm.swap a b u,by rw[oS,oS,h1,h2,h3]⟩
 | trans p1 p2 ih1 ih2 =>
  obtain⟨k,pk,ek⟩:=ih2 hm;obtain⟨k2,pk2,ek2⟩:=ih1 ek.symm;exact⟨k2,pk2.trans pk,ek2⟩
theorem TF:∀{as bs:List Rw},as.Perm bs->as.Pairwise (λr s=>r.st<=s.st)->bs.Pairwise (λr s=>r.st<s.st)->as=bs:=by
 intro as
 induction as with
 | nil=>intro bs p _ _;exact(List.nil_perm.mp p).symm
 | cons a t ih =>
  intro bs p ha hb;cases bs with
  | nil=>exact absurd p.length_eq (by simp)
  | cons b u =>
   have e:a=b:=by
    rcases vT.mp (p.mem_iff.mp zC) with h|h
    ·exact h
    ·have h1:=(mN.mp hb).1 a h;rcases vT.mp (p.mem_iff.mpr (zC (a:=b) (l:=u))) with h2|h2
     ·exact h2.symm
     ·have h3:=(mN.mp ha).1 b h2
      lia
   subst e;rw[ih (List.perm_cons a |>.mp p) (mN.mp ha).2 (mN.mp hb).2]
theorem TJ{rs:List Rw}{ys:List V}:(rs.map λr=>((r.st:Nat):Int)).zip ys=(rs.zip ys).map λp=>(((p.1.st:Nat):Int),p.2):=by
 rw[List.zip_map_left]
 rfl
theorem Pq{H:Hp}{rs as:List Rw}{ys zs:List V}(t:aD H ys (aF rs))(p:rs.Perm as)(ha:as.Pairwise λr s=>r.st<s.st)(s:uQ (rs.map λr=>((r.st:Nat):Int)) ys zs):aD H zs (aF as):=by
 obtain⟨ps,pp,rfl,pw⟩:=s;rw[TJ] at pp;obtain⟨qs,pq,rfl⟩:=Ez pp;have hl:ys.length=rs.length:=by rw[t.1,aW]
 have e1:(rs.zip ys).map Prod.fst=rs:=List.map_fst_zip (by lia);have pf:(qs.map Prod.fst).Perm rs:=by
  have:=pq.map Prod.fst;rw[e1] at this;exact this
 have hq:qs.map Prod.fst=as:=by
  refine TF (pf.trans p) ?_ ha;rw[List.pairwise_map] at pw ⊢;exact pw.imp λh=>by lia
 have each:∀x∈qs,∃q,x.2=.ref q/\H q=some (.tup (cB x.1)):=λx hx=>by
  have hx:=pq.mem_iff.mp hx;obtain⟨i,hi,e⟩:=List.getElem_of_mem hx;rw[List.length_zip] at hi;rw[List.getElem_zip] at e;obtain⟨r,q,e2,e3,e4⟩:=cF t (v:=ys[i]'(by lia)) (i:=i) (by simp);rw[qB (by lia)] at e2;refine⟨q,by rw[<- e];exact e3,?_⟩;rw[<- e];show H q=some (.tup (cB rs[i]));rw[nI e2];exact e4
 refine⟨by rw[aW,<- hq,wP,wP,wP],λj r e=>?_⟩;unfold aF at e;rw[<- hq,List.map_map,wT] at e;cases e5:qs[j]? with
 | none=>rw[e5] at e;cases e
 | some x =>
  rw[e5] at e;cases e;obtain⟨q,e6,e7⟩:=each x (yY e5);exact⟨q,by rw[List.map_map,wT,e5];show some x.2=_;rw[e6],e7⟩
theorem Asc.lt{n:Nat}{rs:List Rw}(h:Asc rs)(g:∀r∈rs,GoodR n r):rs.Pairwise λr s=>r.st<s.st:=by
 refine List.Pairwise.imp_of_mem ?_ h;intro a b ha hb hab;have:=(g a ha).sz
 lia
def aes:R2:=λx y H Q=>∃c j,x=.str ⟨#[c]⟩/\y=.str j/\Q (.bl (decide (c∈j.cps.toList))) H
section
variable{X:Cx}{K:W.Frag}{H:Hp}{Q:VK}{z:Str}{cs:List Nat}{c:Nat}{t0 te:TE}{nt:Nat}{fr:List Nat}{g:TG}{cc:TT}{σ fvs:St}{p f l:Addr}{bs:xF}{ys:List V}{rs:List Rw}
theorem TQ:OpR X (compareOp .In) aes:=Jg
instance ah_:Go (aes (.str (tx [c])) (.str z) H Q) (Q (.bl (decide (c∈z.cps.toList))) H):=⟨λk=>⟨c,z,rfl,rfl,k⟩⟩
instance agk:Go (kh K [.str z,.ty "str"] H Q) (Q (.bl true) H):=⟨λk=>w_is (cO.str (K:=K) (H:=H) z) (aah (cO.str (K:=K) (H:=H) z)) k⟩
instance agl:Go (Jr K [.str (tx cs)] H Q) (Sd (cs.length<=1000) (Q (.int cs.length) H)):=⟨λs=>aay (by rw[jd];exact bQ (by have:=s.1;lia)) (by rw[jd];exact s.2)⟩
instance aeu:Go (mJ (adk t0) nt fr g cc te σ H Q) (t0 σ H λx H1=>∃z,x=.str z/\cu (Its z) nt fr g cc te σ H1 Q):=⟨id⟩
instance acG:Go (∃z',V.str z=.str z'/\cu (Its z') nt fr g cc te σ H Q) (cu (Its z) nt fr g cc te σ H Q):=⟨λk=>⟨z,rfl,k⟩⟩
theorem abg{F:Nat->V}(hz:cs.length<=1000)(hf:(fr.map λi=>(σ[i]?).getD none)=fvs)(turn:∀(c:Nat)(H':Hp)(R:VK),c∈cs->Same H H'->(∀H2,Same H' H2->R (F c) H2)->te (some (.str (tx [c]))::fvs) H' R)
  (k:∀p H',New H H' p (.lst (cs.map F))->Q (.ref p) H'):cu (Its (tx cs)) 1 fr (bw 0) mH te σ H Q:=by
 have e0:mX (tx cs)=cs.map λc=>V.str (tx [c]):=by
  unfold mX;rw[Tt]
  rfl
 refine comp_map (P:=λi y=>∃c,cs[i]?=some c/\y=F c) (items_str (z:=tx cs)) (by rw[e0,wP];lia) hf (λ_ _=>trivial) (λi v H' R hv s kk=>?_) λp H' ys n hl hP=>k p H' ?_
 ·rw[e0,wT] at hv;cases e:cs[i]? with
  | none=>rw[e] at hv;cases hv
  | some c =>
   rw[e] at hv;cases hv;exact turn c H' R (yY e) s λH2 s2=>kk _ _ s2 ⟨c,e,rfl⟩
 ·have e:ys=cs.map F:=by
   rw[e0,wP] at hl
   apply List.ext_getElem?
   intro i;rw[wT];by_cases hi:i<ys.length
   ·obtain⟨c,e1,e2⟩:=hP i ys[i] (by simp);rw[e1,qB hi,e2]
    rfl
   ·rw[mP (by lia),mP (by lia)]
    rfl
  rw[e] at n;exact n
instance aia[h:SqA K H p (bs.map V.bl)]:Go (∃(p':Addr)(bs':xF),[V.ref p]=[.ref p']/\SqL K H p' (bs'.map V.bl)/\Q (.bl (bs'.all id)) H) (Q (.bl (bs.all id)) H):=⟨λk=>⟨p,bs,rfl,h.e,k⟩⟩
instance aev{H0:Hp}{M:List Addr}{L:List (Addr×HO)}{I:List Im}[F:SH H0 M H L I][h:SqA K H l ys][t:TpA H ys (aF rs)][m:aer I f]:Go (Tp K [.ref l] (.ref f) H Q) (Sd (rs.length<64) (∀D zs H',New H H' D (.lst zs)->uQ (rs.map λr=>((r.st:Nat):Int)) ys zs->Q (.ref D) H')):=⟨λs=>by
 have hl:ys.length=rs.length:=by rw[t.e.1,aW]
 refine⟨l,f,ys,rs.map λr=>((r.st:Nat):Int),rfl,rfl,F.im _ m.m,h.e,by rw[wP,hl],by rw[hl];exact s.1,λi v k hv hk=>?_,s.2⟩;obtain⟨r,q,e1,e2,e3⟩:=cF t.e hv;rw[wT,e1] at hk;cases hk;exact⟨q,_,e2,e3,rfl⟩⟩
instance aew{H0:Hp}{M:List Addr}{L:List (Addr×HO)}{I:List Im}{Z:Addr->Hp->Prop}[F:SH H0 M H L I]:Go (∀p ys H',New H H' p (.lst ys)->aD H' ys (aF rs)->Z p H') (∀H' p ys,ys.length=rs.length->SH H0 M H' ((p,.lst ys)::L) (.tps ys (aF rs)::I)->Z p H'):=⟨λk p ys H' n t=>k H' p ys (by rw[t.1,aW]) (F.newR n t)⟩
end
end L2
namespace L2
open PySem PySem.Spec PyProof.Rows
end L2
namespace L2
open PySem PySem.W PySem.Spec PyProof.Rows
section
variable{n:Nat}{rk:Nat->Int}
abbrev Kk(rk:Nat->Int)(p:Array Nat)(k:Nat):Int:=rk (p.getD k 0)
def Pp(n:Nat)(p:Array Nat):Prop:=p.Perm (List.range n).toArray
theorem Pp.size{p:Array Nat}(h:Pp n p):p.size=n:=by
 have:=h.size_eq;simpa using this
theorem Pp.ne{p:Array Nat}(h:Pp n p){a b:Nat}(ha:a<n)(hb:b<n)(hab:a≠b):p.getD a 0≠p.getD b 0:=by
 have hs:=h.size;have e:∀k (hk:k<n),p.getD k 0=p.toList[k]'(by simpa[hs] using hk):=λk hk=>by
  rw[Array.getD_eq_getD_getElem?,Array.getElem?_eq_getElem (by lia)]
  rfl
 have nd:p.toList.Nodup:=(Array.perm_iff_toList_perm.mp h).nodup_iff.mpr (by simpa using List.nodup_range);rw[e a ha,e b hb];intro z;exact hab ((List.getElem_inj nd).mp z)
end
end L2
namespace L2
open PySem PySem.W PySem.Calls PySem.Spec PyProof.Rows
end L2
namespace L2
open PySem PySem.Spec PyProof.Rows PySem.SeqAt
section
variable{r:List V}
theorem X4:fC (yQ r)<=100:=by
 simp only[fC,oN]
 lia
end
end L2
namespace L2
open PySem PySem.W PySem.Spec PyProof.Rows
def aex(c:Nat):List (List Nat)->List Nat
 | []=>[]
 | [p]=>p
 | p::q::r=>p++c::aex c (q::r)
def JD(c:Nat):List Nat->List (List Nat)
 | []=>[[]]
 | x::r=>if x=c then []::JD c r else match JD c r with
  | []=>[[x]]
  | p::ps=>(x::p)::ps
end L2
namespace L2
open PySem PySem.Spec PyProof.Rows PySem.SeqAt
class ajF(c:Nat)(cs:List Nat)(vs:outParam (List V)):Prop where
 e:(JD c cs).map (λd=>V.str (tx d))=vs
class ajG(xs:List V)(lo hi:Option Int)(ys:outParam (List V)):Prop where
 e:xV xs lo hi=ys
class TxL(xs:List V)(ps:outParam (List (List Nat))):Prop where
 e:xs=ps.map λd=>V.str (tx d)
section
variable{H:Hp}{Q:VK}{p:Addr}{i:Int}
instance agm:Go (Xq (.int i) .non H Q) (Q (.bl false) H):=⟨λk=>⟨rfl,k⟩⟩
instance agn:Go (Xq (.ref p) .non H Q) (Q (.bl false) H):=⟨λk=>⟨rfl,k⟩⟩
instance ago:Go (Xq .non .non H Q) (Q (.bl true) H):=⟨λk=>⟨rfl,k⟩⟩
instance aey:Go (SQ (.int i) .non H Q) (Q (.bl true) H):=⟨λk=>⟨rfl,k⟩⟩
instance aez:Go (SQ .non .non H Q) (Q (.bl false) H):=⟨λk=>⟨rfl,k⟩⟩
end
end L2
namespace L2
open PySem PySem.W PySem.Calls PySem.Spec PyProof.Rows
end L2
namespace L2
open PySem PySem.Spec PyProof.Rows PySem.SeqAt
theorem TV{CX:CXT}{P:Program}{w:World}{K:W.Frag}{mg:xC}{base:Heap}{N:List Str}{qual:Str}{scope:Scope}{f:Addr}{cd:Value}{A:Around}{outer:List Env}{s:Shared}{H:Hp}{E:XK}:(gQ CX P w K mg base N qual scope f cd A outer s H E).s₀=s:=rfl
def tEX(th:THd)(D:Ends):St->XK:=λσ cv dx H=>∃C,cv=.ref C/\∀a,H a=none->th D C a dx σ (upd H a (Ck a C dx))
class ExA(H:Hp)(a:Addr)(C:outParam Addr)(fs:outParam (List (Str×V))):Prop where
 e:Jo H a C fs
class ExM(K:W.Frag)(C d:Addr)(b:outParam Bool):Prop where
 e:W.exmOne K (.ref C) (.ref d)=some b
def Lw(n:Nat)(C:Addr)(H0:Hp)(E:XK)(f:Str)(vs:List V)(H1:Hp):Prop:=∃v,vs=[v]/\∀z H',n<=z->H1 z=none->Same H1 H'->ExcAt H' z C [(f,v)]->∃a dx,V.ref z=.ref a/\n<=a/\H0 a=none/\H' a=some (i_ a C dx)/\E (.ref C) dx (del H' a)
def Lx(n:Nat)(C:Addr)(H0:Hp)(E:XK)(f g:Str)(vs:List V)(H1:Hp):Prop:=∃v y,vs=[v,y]/\∀z H',n<=z->H1 z=none->Same H1 H'->ExcAt H' z C (dZ g y [(f,v)])->∃a dx,V.ref z=.ref a/\n<=a/\H0 a=none/\H' a=some (i_ a C dx)/\E (.ref C) dx (del H' a)
section
variable{K:W.Frag}{H H0:Hp}{M:List Addr}{L:List (Addr×HO)}{I:List Im}{Q:VK}{σ:St}{D:Ends}{th rest:THd}{tbE:(St->XK)->TS}{t:TA}{sp:Sp}{EX:St->XK}{E:XK}{C d a:Addr}{dx:xL}{fs:List (Str×V)}{f g:Str}{v y:V}{n:Nat}{ts:Addr->TS}
instance agp:Go (adx (λ_ EX=>tbE EX) th D σ H) (tbE (tEX th D) D σ H):=⟨λh _=>h⟩
instance acH[F:SH H0 M H L I]:Go (∀dx H',Same H H'->H' dx=some (jh dx fs)->tEX th D σ (.ref C) (some dx) H') (∀(H':Hp)(a dx:Addr),SH H0 M H' L I->Jo H' a C fs->th D C a (some dx) σ H'):=⟨λk dx H' s e=>⟨C,rfl,λa ha=>k _ a dx ((F.same s).same (Same.new ha)) (Jo.mk e ha)⟩⟩
instance acI:Go (R9 EX sp t σ H Q) (t σ H λvs H1=>sp vs H1 Q (EX σ)):=⟨id⟩
instance abh:Go (Jm C H0 n E (Y7 n C f t) D σ H) (t σ H λvs H1=>Lw n C H0 E f vs H1):=⟨λh=>h⟩
instance abj:Go (Jm C H0 n E (Y8 n C f g t) D σ H) (t σ H λvs H1=>Lx n C H0 E f g vs H1):=⟨λh=>h⟩
instance aib[F:SH H0 [] H L I]:Go (Lw n C H0 E f [v] H) (∀dx H2,Same H H2->H2 dx=some (jh dx [(f,v)])->E (.ref C) (some dx) H2):=⟨λk=>⟨v,rfl,λz H' hn hz s e=>En (by simp) hn hz (F.sm.free hz) s e k⟩⟩
instance aic[F:SH H0 [] H L I]:Go (Lx n C H0 E f g [v,y] H) (Sd (f≠g) (∀dx H2,Same H H2->H2 dx=some (jh dx [(f,v),(g,y)])->E (.ref C) (some dx) H2)):=⟨λk=>⟨v,y,rfl,λz H' hn hz s e=>En (by simp) hn hz (F.sm.free hz) s (by
  have e2:dZ g y [(f,v)]=[(f,v),(g,y)]:=by simp[dZ,k.1]
  rw[<- e2];exact e) k.2⟩⟩
class NeS(f g:Str):Prop where
 e:f≠g
instance agq[e:ExM K C d true]:Go (hPl K d ts rest D C a dx σ H) (ts a D σ H):=⟨λh=>⟨true,e.e,by rw[zS rfl];exact h⟩⟩
end
end L2
namespace L2
open PySem PySem.W PySem.Spec PyProof.Rows
end L2
namespace L2
open PySem PySem.Spec PyProof.Rows
def ajH(d:Int)(ns:List Int):Int:=ns.foldl min d
section
theorem Pr(a d:Value):argsOk "min" ⟨[a],[(("default" : Str),d)]⟩:=by unfold argsOk;kernel_rfl
end
theorem small_down{a:Int}(h0:-1<=a)(h1:a<=1000000):Builtin.Range.small a (-1) (-1)=true/\Builtin.Range.rangeSize a (-1) (-1)=a+1:=by
 have hs:Builtin.Range.rangeSize a (-1) (-1)=a+1:=by
  unfold Builtin.Range.rangeSize;rw[yB (by decide)];split
  ·rw[show (-(-1):Int)=1 by decide,Int.ediv_one]
   lia
  ·lia
 have fit:∀x:Int,-2000000<=x->x<=2000000->Builtin.Range.rangeFitsLong x=true:=λx y1 y2=>by
  unfold Builtin.Range.rangeFitsLong;rw[gX (by lia),gX (by lia)]
  rfl
 refine⟨?_,hs⟩;unfold Builtin.Range.small;rw[hs,fit a (by lia) (by lia),fit (-1) (by decide) (by decide),fit _ (by lia) (by lia)]
 first
  | rfl
  | (rw[if_neg (by decide)];rw[fit _ (by lia) (by lia)];first|rfl|simp)
  | simp
theorem aeA{x:Int}:Builtin.divisionGoesByPylong x (-1)=false:=by
 unfold Builtin.divisionGoesByPylong;have e:(if ((-1:Int)==0)=true then 0 else (-1:Int).natAbs.log2 / 30+1)=1:=by decide
 simp only[Bool.and_eq_false_iff,decide_eq_false_iff_not]
 left
 rw[e]
 lia
section
variable{X:Cx}{tg:Expr}
def Zi(ta:TA):TI:=λσ H R=>ta σ H λvs H1=>∃i:Int,vs=[.int i,.int (-1),.int (-1)]/\(-1<=i/\i<=1000000)/\R (Itq i (-1) (i+1).toNat) H1
theorem TX{pins:List (Addr×Obj)}{σ:St}{H:Hp}{s:Shared}{R:It->Hp->Prop}{E:xB}{lo:Int}{t u v:Tok}{tk:Nat}(I:Inv X pins σ H s)(h0:-1<=lo)(h1:lo<=1000000)
  (q:R (Itq lo (-1) (lo+1).toNat) H):wpAny (model X.prog X.w) X.A (pyIter (.ref s.heap.objs.size)) (PIE X pins σ tg R) E { s with heap:=s.heap.push { cls:=.type "range", data:=.fields #[.int lo t,.int (-1) u,.int (-1) v] },toks:=tk }:=by
 obtain⟨sm,sz⟩:=small_down h0 h1;refine wpAny_pyIter_range (IsRange.new ..) sm ?_
 generalize hh:s.heap.push { cls:=.type "range", data:=.fields #[.int lo t,.int (-1) u,.int (-1) v] }=hp
 have I1:Inv X pins σ H { s with heap:=hp,toks:=tk }:=by
  rw[<- hh];exact I.kept λb o e=>uB _ e
 refine⟨hp.objs.size,[hp.objs.size],_,_,H,rfl,I1.kept (t':=tk) λb o e=>uB _ e,JB _ lo (-1) (lo+1).toNat,?_,λb hb=>?_,q⟩
 ·show IsRangeIter _ _ (lo+((0:Nat):Int)*(-1)) (((((lo+1).toNat:Nat):Int))-((0:Nat):Int)) (-1);rw[show lo+((0:Nat):Int)*(-1)=lo by simp,show (((lo+1).toNat:Nat):Int)-((0:Nat):Int)=Builtin.Range.rangeSize lo (-1) (-1) by rw[sz];lia];exact oC _ rfl
 ·rw[uS.mp hb];exact I1.Io (uC _) (I1.hok.fresh (uC _))
theorem Pu{a b c:Expr}{ta:TA}{p pos:Pos}(hg:Gl X "range")(hm:X.mg "range" = none)(ha:PA X [a,b,c] ta)(h1:starEach [a,b,c] X.env=(false,eval a X.env)::starEach [b,c] X.env:=by rfl)(h2:((backTo pos (starEach [b,c] X.env)).any λx=>x.fst)=false:=by rfl) :
  PI X tg (.Call (.Name "range" p) [a,b,c] [] pos) (Zi ta):=by
 intro pins s σ H R I h;refine Call_ (iy I hg hm boot_range (PyProof.Rows.callWith_type1 (thn (ha pos pins s σ H _ I h) λus s1 ⟨vs,H1,I1,r1,i,e,⟨q1,q2⟩,q⟩=>?_) h1 h2));subst e;rcases r1 with _|⟨⟨t,rfl⟩,_|⟨⟨t2,rfl⟩,_|⟨⟨t3,rfl⟩,_|_⟩⟩⟩;exact call_range_3 (by decide) (TX I1 q1 q2 q) (.inl aeA)
end
section
variable{K:W.Frag}{H:Hp}{Q:VK}{σ:St}{tr:TA}{g:TG}{tb:TS}{D:Ends}{i:Int}{p q:Addr}{ns:List Int}{a:V}
instance agr:Go (xR (Zi tr) g tb D σ H) (tr σ H λvs H1=>∃i:Int,vs=[.int i,.int (-1),.int (-1)]/\(-1<=i/\i<=1000000)/\XJ i (-1) (i+1).toNat g tb D σ H1):=⟨id⟩
instance aie:Go (∃i':Int,[V.int i,V.int (-1),V.int (-1)]=[.int i',.int (-1),.int (-1)]/\(-1<=i'/\i'<=1000000)/\XJ i' (-1) (i'+1).toNat g tb D σ H) (Sd (-1<=i/\i<=1000000) (XJ i (-1) (i+1).toNat g tb D σ H)):=⟨λs=>⟨i,rfl,s.1,s.2⟩⟩
theorem Ly(ns:List Int):dW (.lst (ns.map Dt.int)) (.lst ([].map Dt.int))=decide (ns=[]):=by
 cases ns with
 | nil=>simp[dW,dN]
 | cons a t=>simp[dW,dN]
instance acJ[h:SqA K H p (ns.map V.int)][h2:Hat H q (.lst [])]:Go (aaA K (.ref p) (.ref q) H Q) (Q (.bl (decide (ns=[]))) H):=⟨λk=>adI (ms:=[]) h.e (SqL.of h2.e) (by rw[Ly];exact k)⟩
instance acK[h:SqA K H p (ns.map V.int)][h2:Hat H q (.lst [])]:Go (Js K (.ref p) (.ref q) H Q) (Q (.bl (!decide (ns=[]))) H):=⟨λk=>⟨_,_,oM h.e,oM (ns:=[]) (SqL.of h2.e),Ep ns,by rw[Ly];exact k⟩⟩
end
end L2
namespace L2
open PySem PySem.W PySem.Calls PySem.Spec PyProof.Rows
end L2
namespace L2
open PySem PySem.Spec PyProof.Rows PySem.SeqAt
class TyA(K:W.Frag)(H:Hp)(v:V)(n:outParam String):Prop where
 e:cO K H v (.type n)
class aeB(K:W.Frag)(H0:Hp)(M:List Addr)(v:V)(n:outParam String):Prop where
 e:cO K H0 v (.type n)
 n:∀a,v=.ref a->a ∉ M
theorem cO.kept{K:W.Frag}{H H':Hp}{v:V}{t:Value}(h:cO K H v t)(k:∀a u,v=.ref a->H a=some u->H' a=some u):cO K H' v t:=by
 cases h with
 | non=>exact .non
 | bl b=>exact .bl b
 | int i=>exact .int i
 | str x=>exact .str x
 | flt x=>exact .flt x
 | lst e=>exact .lst (k _ _ rfl e)
 | frz e=>exact .frz (k _ _ rfl e)
 | tup e=>exact .tup (k _ _ rfl e)
 | dK e=>exact .dK (k _ _ rfl e)
 | dT e=>exact .dT (k _ _ rfl e)
 | ins e a b c d f=>exact .ins (k _ _ rfl e) a b c d f
section
variable{K:W.Frag}{H0 H:Hp}{M:List Addr}{L:List (Addr×HO)}{I:List Im}{v:V}{n:String}{a:Addr}{lo hi:Int}{Q:VK}{E:XK}
instance aif:TyA K H .non "NoneType":=⟨.non⟩
instance (priority:=low) aii [F:SH H0 M H L I] [h:aeB K H0 M v n]:TyA K H v n:=⟨h.e.kept λa u e hu=>F.fr a u (h.n a e) hu⟩
instance (priority:=low) aij [t:TyA K H v n]:Go (kh K [v,.ty "int"] H Q) (Q (.bl (Xa v)) H):=⟨λk=>w_is t.e (B_ t.e) k⟩
instance (priority:=low) aik [t:TyA K H v n]:Go (kh K [v,.ty "list"] H Q) (Q (.bl (n == "list")) H):=⟨λk=>w_is t.e (KZ t.e) k⟩
instance (priority:=low) abk [t:TyA K H v n]:Go (gV K [v,.int lo,.int hi] H Q E) (Q (.bl (inB v lo hi)) H):=⟨Eu t.e⟩
end
class IdV(v:V):Prop where
 e:idV v=true
class IdL(xs:List V):Prop where
 e:xs.all idV=true
end L2
namespace L2
open PySem PySem.W PySem.Spec PyProof.Rows PySem.SeqAt
section
variable{K:W.Frag}{H:Hp}{Q:VK}{p:Addr}{cs:List Nat}{nms:List (List Nat)}{b:Bool}{a:Nat}
theorem X5(a:List Nat)(nms:List (List Nat)):inV (.str (tx a)) (nms.map λcs=>V.str (tx cs))=decide (a∈nms):=by
 unfold inV
 induction nms with
 | nil=>simp
 | cons b t ih =>
  rw[oS,List.any_cons,ih];have e:eqV (.str (tx b)) (.str (tx a))=decide (a=b):=by
   by_cases h:a=b
   ·subst h;simp[eqV]
   ·rw[gS h];have:tx b≠tx a:=λz=>h (m9 z).symm
    simp[eqV,this]
  rw[e];by_cases h:a=b <;> simp[h]
instance aeC[h:SqA K H p (nms.map λcs=>V.str (tx cs))]:Go (rIn K false (.str (tx cs)) (.ref p) H Q) (Q (.bl (decide (cs∈nms))) H):=⟨λk=>⟨_,_,rfl,.inl h.e,rfl,List.all_eq_true.mpr (λz hz=>by obtain⟨b,_,rfl⟩:=jI.mp hz;rfl),by rw[yB (by decide),X5];exact k⟩⟩
end
theorem SH.over{H0 H H':Hp}{M M2:List Addr}{A R L2:List (Addr×HO)}{I I2:List Im}(F:SH H0 M H (A++R) I)(G:SH H M2 H' L2 I2)(e:A.map (·.1)=M2):SH H0 M H' (L2++R) (I2++I):=by
 have nd:=F.nd;rw[List.map_append,e] at nd;obtain⟨nd1,nd2,nd3⟩:=List.nodup_append.mp nd;have inA:∀{b},b∈M2->∃c∈A,c.1=b:=λh=>by rw[<- e] at h;exact jI.mp h
 have st:Tst H H':=λq u tu hq=>by
  refine G.fr q u (λhm=>?_) hq;obtain⟨c,hc,rfl⟩:=inA hm;have h1:=F.at' c (mE _ hc);have h2:=F.mu c (mE _ hc);rw[hq] at h1;cases h1;rw[h2] at tu;cases tu
 have rn:∀{c},c∈R->c.1 ∉ M2:=λhc hm=>nd3 _ hm _ (jI.mpr ⟨_,hc,rfl⟩) rfl
 refine⟨λb u nb e0=>?_,λf hf=>?_,λc hc=>?_,?_,λc hc=>?_,λc hc=>?_⟩
 ·refine G.fr b u (λhm=>?_) (F.fr b u nb e0);obtain⟨c,hc,rfl⟩:=inA hm;rcases F.ch c (mE _ hc) with h|h
  ·exact nb h
  ·exact h _ u e0 rfl
 ·rcases wS.mp hf with hf|hf
  ·exact G.im f hf
  ·exact Im.stay st (F.im f hf)
 ·rcases wS.mp hc with hc|hc
  ·exact G.at' c hc
  ·exact G.fr _ _ (rn hc) (F.at' c (rS _ hc))
 ·rw[List.map_append];refine List.nodup_append.mpr ⟨G.nd,nd2,λa ha b hb=>?_⟩;obtain⟨c,hc,rfl⟩:=jI.mp ha;obtain⟨d,hd,rfl⟩:=jI.mp hb;rcases G.ch c hc with h|h
  ·exact λz=>rn hd (z▸h)
  ·exact λz=>h d.1 _ (F.at' d (rS _ hd)) z.symm
 ·rcases wS.mp hc with hc|hc
  ·exact G.mu c hc
  ·exact F.mu c (rS _ hc)
 ·rcases wS.mp hc with hc|hc
  ·rcases G.ch c hc with h|h
   ·obtain⟨d,hd,ed⟩:=inA h;rw[<- ed];exact F.ch d (mE _ hd)
   ·by_cases hm:c.1∈M
    ·exact .inl hm
    ·exact .inr λb u e0 z=>h b u (F.fr b u (by rw[z];exact hm) e0) z
  ·exact F.ch c (rS _ hc)
section
variable{H:Hp}{Q:VK}
instance ags{σ:L2.St}:Go (Jf σ H Q) (∀p H',New H H' p (.dK [])->Q (.ref p) H'):=⟨aaB⟩
instance agt{H0:Hp}{M:List Addr}{L:List (Addr×HO)}{I:List Im}{Z:Addr->Hp->Prop}[F:SH H0 M H L I]:Go (∀p H',New H H' p (.dK [])->Z p H') (∀H' p,SH H0 M H' ((p,.dK [])::L) I->Z p H'):=⟨λk p H' n=>k H' p (F.aaT n rfl)⟩
end
theorem TY{r s:Rw}(h:cB r=cB s):r=s:=by
 have h:[V.str (tx r.nm),V.int (r.st:Nat),V.int (r.sz:Nat),V.int (r.pn:Nat)]=[V.str (tx s.nm),V.int (s.st:Nat),V.int (s.sz:Nat),V.int (s.pn:Nat)]:=h;simp only[List.cons.injEq,V.str.injEq,V.int.injEq,and_true] at h;obtain⟨h1,h2,h3,h4⟩:=h;have h1:=m9 h1;cases r;cases s;simp only[Rw.mk.injEq];exact⟨h1,Int.ofNat.inj h2,Int.ofNat.inj h3,Int.ofNat.inj h4⟩
section
variable{K:W.Frag}{H:Hp}{Q:VK}{σ:St}{l:Addr}{xs:List V}{rs:List Rw}{fr:List Nat}{fvs:St}{c:TT}
theorem yZ{H H':Hp}{p:V->Bool}{pr:Rw->Bool}(s:Same H H')(hp:∀q r,H q=some (.tup (cB r))->p (.ref q)=pr r):∀{xs:List V} {rs:List Rw},aD H xs (aF rs)->aD H' (xs.filter p) (aF (rs.filter pr))
 | [],[],_=>aD.nil
 | [],r::rs,h=>absurd h.1 (by simp[aF])
 | x::xs,[],h=>absurd h.1 (by simp[aF])
 | x::xs,r::rs,h=>by
  obtain⟨q,e1,e2⟩:=h.2 0 (cB r) rfl;have ht:aD H xs (aF rs):=⟨by simpa[aF] using h.1,λj w e=>h.2 (j+1) w (by simpa[aF] using e)⟩;cases e1;have ih:=yZ s hp ht;rw[List.filter_cons,List.filter_cons,hp q r e2];cases pr r with
  | false=>exact ih
  | true =>
   refine⟨by have:=ih.1;simpa[aF] using this,λj w e=>?_⟩;cases j with
   | zero =>
    cases e;exact⟨q,rfl,s _ _ e2⟩
   | succ j=>exact ih.2 j w (by simpa[aF] using e)
theorem xZ{pr:Rw->Bool}(hq:H l=some (.lst xs))(tp:aD H xs (aF rs))(hz:xs.length<=1000000)(hf:(fr.map λi=>(σ[i]?).getD none)=fvs)
  (turn:∀(q:Addr)(r:Rw)(H':Hp)(R:Bool->Hp->Prop),r∈rs->Same H H'->H' q=some (.tup (cB r))->(∀H2,Same H' H2->R (pr r) H2)->c (some (.ref q)::fvs) H' R)
  (k:∀l' ys H',New H H' l' (.lst ys)->aD H' ys (aF (rs.filter pr))->ys.length<=xs.length->Q (.ref l') H'):cu (Itl K l) 1 fr (bw 0) c (dM 0) σ H Q:=by
 classical
 let p:V->Bool:=λv=>match v with|.ref q=>decide (∃r,H q=some (.tup (cB r))/\pr r=true)|_=>false
 have hp:∀q r,H q=some (.tup (cB r))->p (.ref q)=pr r:=λq r e=>by
  show decide (∃s,H q=some (.tup (cB s))/\pr s=true)=pr r;cases h:pr r with
  | true=>exact gX ⟨r,e,h⟩
  | false =>
   refine gS λ⟨s,e2,h2⟩=>?_
   rw[e] at e2;have:=TY (HO.tup.inj (nI e2));rw[<- this,h] at h2;cases h2
 refine Ey (p:=p) (SqL.of hq) hz hf (λv H' R hv s kk=>?_) λl' H' n=>k l' _ H' n (yZ n.s hp tp) (List.length_filter_le _ _)
 obtain⟨i,hi,e⟩:=List.getElem_of_mem hv;obtain⟨r,q,e1,rfl,e2⟩:=cF tp (i:=i) (v:=v) (by rw[<- e];simp);exact turn q r H' R (yY e1) s (s _ _ e2) λH2 s2=>by rw[<- hp q r e2];exact kk H2 s2
end
inductive X6(H:Hp):V->Prop
 | flt {v:V} (h:v=.non\/(∃b,v=.bl b)\/(∃i,v=.int i)\/∃z,v=.str z):X6 H v
 | lst {q:Addr} {xs:List V} (e:H q=some (.lst xs)):X6 H (.ref q)
 | tup {q:Addr} {xs:List V} (e:H q=some (.tup xs)):X6 H (.ref q)
class ajI(H:Hp)(v:V):Prop where
 e:X6 H v
end L2
namespace L2
open PySem PySem.W PySem.Calls PySem.Spec PyProof.Rows
end L2
namespace L2
open PySem PySem.W PySem.Spec PyProof.Rows
end L2
namespace L2
open PySem PySem.Spec PyProof.Rows PySem.SeqAt
abbrev flD(v:V):PyData:=pyD (fJ v)
theorem Px:∀vs:List V,Ek (vs.map fJ)=vs.map flD
 | []=>rfl
 | v::vs=>by simp[Ek,Px vs]
inductive ThD(H:Hp):V->PyData->Prop
 | flat {v:V} (h:gq v=true) (z:Shm 500 1 (flD v)):ThD H v (flD v)
 | lst {p:Addr} {vs:List V} (e:H p=some (.lst vs)) (h:∀v∈vs,gq v=true) (z:Shm 500 1 (.list (vs.map flD))):ThD H (.ref p) (.list (vs.map flD))
 | tup {p:Addr} {vs:List V} (e:H p=some (.tup vs)) (h:∀v∈vs,gq v=true) (z:Shm 500 1 (.tuple (vs.map flD))):ThD H (.ref p) (.tuple (vs.map flD))
 | dct {p:Addr} (e:H p=some (.dK [])):ThD H (.ref p) (.dict [])
class FlA(v:V)(d:outParam PyData):Prop where
 f:gq v=true
 e:d=flD v
 z:Shm 500 1 d
class FlL(xs:List V)(ds:outParam (List PyData)):Prop where
 e:∀(h:Heap)(us:xE),Vals xs us->ReadsAll h us ds []
 z:∀d∈ds,Shm 500 1 d
 l:ds.length=xs.length
 nd:PyData.hasDictAll ds=false
class ThA(H:Hp)(v:V)(d:outParam PyData):Prop where
 e:ThD H v d
class ajJ(H0:Hp)(M:List Addr)(v:V)(d:outParam PyData):Prop where
 e:ThD H0 v d
 n:∀a,v=.ref a->a ∉ M
class ShL(H:Hp)(xs:List V)(ds:outParam (List PyData)):Prop where
 e:∀(X:Cx) (pins:List (Addr×Obj)) (σ:St) (s:Shared) (us:xE),Inv X pins σ H s->Vals xs us->∃as,ReadsAll s.heap us ds as/\(PyData.hasDictAll ds=true->sysModules ∉ as)
 z:∀d∈ds,Shm 500 1 d
 l:ds.length=xs.length
class TxA(x:Str):Prop where
 z:Shm 500 1 (.str x)
class NmA(i:Int):Prop where
 z:i.natAbs<10 ^ 40
section
variable{H:Hp}{x:Str}{Q:VK}
instance (priority:=high) acL:Go (rEq (.str x) (.str x) H Q) (Q (.bl true) H):=⟨λk=>⟨rfl,by simpa using k⟩⟩
end
structure Zp5(z TI TO i1 i2:Addr):Prop where
 a:TI≠z/\TO≠z/\i1≠z/\i2≠z
 b:TI≠TO/\TI≠i1/\TI≠i2
 c:TO≠i1/\TO≠i2/\i1≠i2
def Itz(K:W.Frag)(a b:Addr)(xs ys:List V):It :=
 ⟨λi H=>(SqL K H a xs/\SqL K H b ys)/\(i<xs.length/\i<ys.length),λi H x H'=>∃T u v,x=.ref T/\xs[i]?=some u/\ys[i]?=some v/\New H H' T (.tup [u,v]),λi H=>(SqL K H a xs/\SqL K H b ys)/\(xs.length<=i\/ys.length<=i)⟩
def aeD(z TI TO i1 i2 a b:Addr)(i:Nat)(h:Heap):Prop:=IsZip h z TI TO .none/\PySem.IsPair h TI (.ref i1) (.ref i2)/\(∃u v,PySem.IsPair h TO u v)/\h.IsListIter i1 a i/\h.IsListIter i2 b i
section
variable{h:Heap}{z TI TO i1 i2 a b:Addr}{i:Nat}
theorem EY(D:Zp5 z TI TO i1 i2)(st:aeD z TI TO i1 i2 a b i h){xs ys:xI}(la:h.IsList a xs)(lb:h.IsList b ys):ZipApart z TI TO i1 i2 a b:=by
 obtain⟨hz,_,⟨u,v,hTO⟩,⟨o1,g1,c1,_⟩,⟨o2,g2,c2,_⟩⟩:=st;have far:∀{l:Addr} {vs:xI} {c:Addr} {o:Obj} {n:String},h.IsList l vs->h.get? c=some o->o.cls=.type n->n ≠ "list" -> l≠c:=λ{l vs c o n} hl hc ho hn e=>by
  obtain⟨ol,gl,cl,_⟩:=hl;subst e;rw[gl] at hc;cases hc;rw[cl] at ho;exact hn (Value.type.inj ho).symm
 exact⟨D.a.1,D.a.2.1,D.a.2.2.1,D.a.2.2.2,D.b.1,D.b.2.1,D.b.2.2,D.c.1,D.c.2.1,D.c.2.2,
  far la hz rfl (by decide),far la hTO rfl (by decide),far la g1 c1 (by decide),far la g2 c2 (by decide),far lb hz rfl (by decide),far lb hTO rfl (by decide),far lb g1 c1 (by decide),far lb g2 c2 (by decide)⟩
end
theorem abl(n:Nat):Zp5 (n+4) (n+2) (n+3) n (n+1):=⟨⟨λe=>gL (show (n+2:Nat)=n+4 from e) (by lia),λe=>gL (show (n+3:Nat)=n+4 from e) (by lia),λe=>gL (show (n:Nat)=n+4 from e) (by lia),λe=>gL (show (n+1:Nat)=n+4 from e) (by lia)⟩,⟨λe=>gL (show (n+2:Nat)=n+3 from e) (by lia),λe=>gL (show (n+2:Nat)=n from e) (by lia),λe=>gL (show (n+2:Nat)=n+1 from e) (by lia)⟩,λe=>gL (show (n+3:Nat)=n from e) (by lia),λe=>gL (show (n+3:Nat)=n+1 from e) (by lia),λe=>gL (show (n:Nat)=n+1 from e) (by lia)⟩
theorem T3{P:Program}{w:World}{K:W.Frag}{elts:List Expr}{x1}{pos:Pos}(a b z TI TO i1 i2:Addr)(xs ys:List V)(D:Zp5 z TI TO i1 i2) :
  Turn P w K (.Tuple elts x1 pos) (Itz K a b xs ys) [z,TI,TO,i1,i2] z (aeD z TI TO i1 i2 a b) where
 mem:=by simp
 obj:=λi h st c hc=>by
  obtain⟨hz,hI,⟨u,v,hO⟩,⟨o1,g1,_,d1⟩,⟨o2,g2,_,d2⟩⟩:=st;simp only[List.mem_cons,List.not_mem_nil,or_false] at hc;rcases hc with rfl|rfl|rfl|rfl|rfl
  ·exact⟨_,hz,λv e=>by cases (show Data.fields _=Data.cell v from e)⟩
  ·exact⟨_,hI,λv e=>by cases (show Data.seq _ _=Data.cell v from e)⟩
  ·exact⟨_,hO,λv e=>by cases (show Data.seq _ _=Data.cell v from e)⟩
  ·exact⟨o1,g1,λv e=>by rw[d1] at e;cases e⟩
  ·exact⟨o2,g2,λv e=>by rw[d2] at e;cases e⟩
 keep:=λi h h' st k=>by
  obtain⟨hz,hI,⟨u,v,hO⟩,g1,g2⟩:=st;exact⟨k z (by simp) _ hz,k TI (by simp) _ hI,⟨u,v,k TO (by simp) _ hO⟩,g1.at λo q=>k i1 (by simp) o q,g2.at λo q=>k i2 (by simp) o q⟩
 item:=by
  intro X hP hw hK hc i pins s σ H E I hf st hg;subst hP hw hK;obtain⟨⟨qa,qb⟩,ha,hb⟩:=hg;obtain⟨us,ru,pu,_⟩:=I.list qa;obtain⟨vs,rv,pv,_⟩:=I.list qb;have DD:=EY D st pu.isList pv.isList;obtain⟨hz,hI,⟨c1,c2,hO⟩,g1,g2⟩:=id st;have hx:xs[i]?=some xs[i]:=by simp[ha]
  have hy:ys[i]?=some ys[i]:=by simp[hb]
  generalize xs[i]=x at hx
  generalize ys[i]=y at hy
  obtain⟨u,hu,rx⟩:=ru.get hx;obtain⟨v,hv,ry⟩:=rv.get hy;refine wpAny_pyNext_zip_item DD hz hI hO g1 g2 pu.isList pv.isList (x:=u) (y:=v) (by simpa using hu) (by simpa using hv) λh1 a1 a2 a3 a4 a5 a6 hk=>?_
  refine⟨_,rfl,wpAny_letOwnedTupleGo_zip a1 λh2 he2 hs2=>?_⟩;have neT:s.heap.objs.size≠z:=Nat.ne_of_gt (uA hz);have hT2:=(hs2.2 _ neT).trans a5;have k2:∀b o,b ∉ [z,TI,TO,i1,i2]->s.heap.get? b=some o->h2.get? b=some o:=λb o hb q=>by
   simp only[List.mem_cons,List.not_mem_nil,or_false,not_or] at hb;exact(hs2.2 b hb.1).trans (hk b o hb.1 hb.2.2.1 hb.2.2.2.1 hb.2.2.2.2 q)
  have new:cA X.prog X.w (upd H s.heap.objs.size (.tup [x,y])) h2 s.heap.objs.size (.tup [x,y]) :=
   ⟨by show 2<=sizeLine;decide,[u,v],.cons rx (.cons ry .nil),⟨_,hT2,rfl,_,rfl⟩⟩
  refine⟨.ref s.heap.objs.size,_,I.uG (t':=s.toks) hf k2 (uC _) new,rfl,⟨_,x,y,rfl,hx,hy,.mk' (I.hok.fresh (uC _))⟩,⟨he2,(hs2.2 TI DD.TIz).trans (hk TI _ DD.TIz DD.TITO DD.TIi1 DD.TIi2 hI),⟨u,v,(hs2.2 TO DD.TOz).trans a2⟩,a3.at λo q=>(hs2.2 i1 DD.i1z).trans q,a4.at λo q=>(hs2.2 i2 DD.i2z).trans q⟩,λb hb=>?_⟩;have hbn:=(hf b hb).1;have hb':b<s.heap.objs.size:=by
   obtain⟨o1,q1,_⟩:=g1;obtain⟨o2,q2,_⟩:=g2;simp only[List.mem_cons,List.not_mem_nil,or_false] at hb;rcases hb with rfl|rfl|rfl|rfl|rfl
   ·exact uA hz
   ·exact uA hI
   ·exact uA hO
   ·exact uA q1
   ·exact uA q2
  rw[aQ (qS hb')];exact hbn
 done:=by
  intro X hP hw hK hc i pins s σ H E I hf st hg;subst hP hw hK;obtain⟨⟨qa,qb⟩,hle⟩:=hg;obtain⟨us,ru,pu,_⟩:=I.list qa;obtain⟨vs,rv,pv,_⟩:=I.list qb;have DD:=EY D st pu.isList pv.isList;obtain⟨hz,hI,⟨c1,c2,hO⟩,g1,g2⟩:=id st;have l1:=ru.length;have l2:=rv.length;refine wpAny_pyNext_zip_end (I.ok.hd hc) DD hz hI hO g1 g2 pu.isList pv.isList (by simp;lia) λh' eb=>⟨rfl,I.Cm (t':=s.toks) (ch:=[z,TI,TO,i1,i2]) hf λb o hb q=>?_⟩
  simp only[List.mem_cons,List.not_mem_nil,or_false,not_or] at hb;exact eb b o hb.1 hb.2.2.1 hb.2.2.2.1 hb.2.2.2.2 q
 self:=λ_ _ _ _ _ st h=>wpAny_pyIter_zip st.1 h
theorem boot_zip:bootBuiltins "zip" = some (.type "zip"):=by decide +kernel
def aeE(K:W.Frag)(ta:TA):TI:=λσ H R=>ta σ H λvs H1=>∃a b xs ys,vs=[.ref a,.ref b]/\SqL K H1 a xs/\SqL K H1 b ys/\R (Itz K a b xs ys) H1
theorem T4{X:Cx}{elts:List Expr}{x1}{tpos:Pos}{a b:Expr}{ta:TA}{p pos:Pos}(hg:Gl X "zip")(hm:X.mg "zip" = none)(ha:PA X [a,b] ta)(hs:starEach [a,b] X.env=[(false,eval a X.env),(false,eval b X.env)]:=by rfl)(hs2:starEach [b] X.env=[(false,eval b X.env)]:=by rfl) :
  PI X (.Tuple elts x1 tpos) (.Call (.Name "zip" p) [a,b] [] pos) (aeE X.K ta):=by
 intro pins s σ H R I h;refine Call_ (iy I hg hm boot_zip (PyProof.Rows.callWith_type1 (thn (ha pos pins s σ H _ I h) λus s1 ⟨vs,H1,I1,r1,q1⟩=>?_) (by rw[hs,hs2]) (by rw[hs2];rfl)));obtain⟨l,m,xs,ys,e,hq,hq2,q⟩:=q1;subst e;obtain⟨u,v,rfl,r,r2⟩:=vals2 r1;cases r;cases r2;obtain⟨its,rv,pl,hz⟩:=I1.list hq;obtain⟨its2,rv2,pl2,hz2⟩:=I1.list hq2;refine call_zip_2 pl.isList pl2.isList λh' b1 b2 b3 b4 b5 hsz hk=>?_
 have I2:Inv X pins σ H1 { s1 with heap:=h' }:=I1.kept (t':=s1.toks) hk
 refine wpAny_pyIter_zip b1 ?_;refine⟨s1.heap.objs.size+4,[s1.heap.objs.size+4,s1.heap.objs.size+2,s1.heap.objs.size+3,s1.heap.objs.size,s1.heap.objs.size+1],_,Itz X.K l m xs ys,H1,rfl,I2,T3 l m (s1.heap.objs.size+4) (s1.heap.objs.size+2) (s1.heap.objs.size+3) s1.heap.objs.size (s1.heap.objs.size+1) xs ys (abl _),⟨b1,b2,⟨_,_,b3⟩,b4,b5⟩,λb hb=>?_,q⟩;have hb':s1.heap.objs.size<=b:=by
  simp only[List.mem_cons,List.not_mem_nil,or_false] at hb;rcases hb with rfl|rfl|rfl|rfl|rfl
  ·exact Nat.le_add_right _ _
  ·exact Nat.le_add_right _ _
  ·exact Nat.le_add_right _ _
  ·exact uC _
  ·exact Nat.le_add_right _ _
 exact I1.Io hb' (I1.hok.fresh hb')
end L2
set_option maxHeartbeats 400000
namespace L2
open PySem PySem.Spec PyProof.Rows PySem.SeqAt
end L2
set_option maxHeartbeats 1000000
namespace L2
open PySem PySem.Spec PyProof.Rows PySem.SeqAt
mutual
def TrH(H:Hp):Dt->V->Prop
 | .non,v=>v=.non
 | .bl b,v=>v=.bl b
 | .int i,v=>v=.int i
 | .str x,v=>v=.str x
 | .lst ds,v=>∃p xs,v=.ref p/\H p=some (.lst xs)/\abm H ds xs
 | .tup ds,v=>∃p xs,v=.ref p/\H p=some (.tup xs)/\abm H ds xs
def abm(H:Hp):List Dt->List V->Prop
 | [],xs=>xs=[]
 | d::ds,xs=>∃x r,xs=x::r/\TrH H d x/\abm H ds r
end
mutual
def sI:Dt->Bool
 | .bl _=>true
 | .lst ds=>oZ ds
 | .tup ds=>oZ ds
 | _=>false
def oZ:List Dt->Bool
 | []=>false
 | d::ds=>sI d || oZ ds
end
mutual
def ail:Dt->Prop
 | .lst ds=>ds.length<=1000/\T5 ds
 | .tup ds=>ds.length<=1000/\T5 ds
 | _=>True
def T5:List Dt->Prop
 | []=>True
 | d::ds=>ail d/\T5 ds
end
mutual
def m_:Dt->Dt->Bool
 | .lst xs,.lst ys=>jK xs ys
 | .tup xs,.tup ys=>jK xs ys
 | _,.lst _=>false
 | _,.tup _=>false
 | .bl a,.bl b=>a==b
 | .bl _,_=>false
 | _,.bl _=>false
 | x,y=>dW x y
def jK:List Dt->List Dt->Bool
 | [],[]=>true
 | x::xs,y::ys=>m_ x y && jK xs ys
 | _,_=>false
end
mutual
theorem T6:∀(y x:Dt),sI y=false->m_ x y=(dW x y && !sI x)
 | .non,x,_=>by cases x <;> simp[m_,dW,sI]
 | .bl b,x,h=>by simp[sI] at h
 | .int i,x,_=>by cases x <;> simp[m_,dW,sI]
 | .str s,x,_=>by cases x <;> simp[m_,dW,sI]
 | .lst ys,x,h=>by
  simp only[sI] at h;cases x <;> simp[m_,dW,sI]
  exact qF ys _ h
 | .tup ys,x,h=>by
  simp only[sI] at h;cases x <;> simp[m_,dW,sI]
  exact qF ys _ h
theorem qF:∀(ys xs:List Dt),oZ ys=false->jK xs ys=(dN xs ys && !oZ xs)
 | [],xs,_=>by cases xs <;> simp[jK,dN,oZ]
 | y::ys,xs,h=>by
  simp only[oZ,Bool.or_eq_false_iff] at h;cases xs with
  | nil=>simp[jK,dN]
  | cons x xs =>
   simp only[jK,dN,oZ,T6 y x h.1,qF ys xs h.2];cases dW x y <;> cases dN xs ys <;> cases sI x <;> cases oZ xs <;> rfl
end
def hides(B:List Addr)(H:Hp):Hp:=λa=>if a∈B then none else H a
def Al(H:Hp)(B:List Addr):Prop:=∀b∈B,∃xs,H b=some (.lst xs)
theorem kJ{B:List Addr}{H:Hp}{a:Addr}{u:HO}:hides B H a=some u ↔ a ∉ B/\H a=some u:=by
 unfold hides;by_cases h:a∈B
 ·rw[zS h]
  constructor
  ·intro z;cases z
  ·intro z;exact gL h z.1
 ·rw[yB h];exact⟨λz=>⟨h,z⟩,λz=>z.2⟩
theorem qG{B:List Addr}{H H':Hp}(o:∀a u,a ∉ B->H a=some u->H' a=some u):Same (hides B H) (hides B H'):=λa u e=>by
 rw[kJ] at e ⊢;exact⟨e.1,o a u e.1 e.2⟩
theorem JF{B:List Addr}{H H':Hp}(s:Same H H'):Same (hides B H) (hides B H'):=qG λa u _ e=>s a u e
theorem jk{B:List Addr}{H:Hp}:Same (hides B H) H:=λa u e=>(kJ.mp e).2
theorem X7(v:V):fC (fJ v)=0:=by cases v <;> simp[fJ,fC]
theorem X8:∀xs:List V,fD (xs.map fJ)=0
 | []=>rfl
 | x::xs=>by simp only[List.map_cons,fD,X7,X8 xs];rfl
end L2
set_option maxHeartbeats 4000000
namespace L2
open PySem PySem.Spec PyProof.Rows PySem.SeqAt
section
def ztH(h:Heap)(a b:Addr):Heap:=((((h.push { cls:=.type "tuple_iterator", data:=.fields #[.ref a,.int 0 0] }).push { cls:=.type "tuple_iterator", data:=.fields #[.ref b,.int 0 0] }).push { cls:=.type "tuple", data:=.seq #[.ref h.objs.size,.ref (h.objs.size+1)] }).push { cls:=.type "tuple", data:=.seq #[.none,.none] }).push { cls:=.type "zip", data:=.fields #[.none,.bool false,.bool false,.ref (h.objs.size+2),.ref (h.objs.size+3)] }
end
structure T7(J:It)(xs ys:List V)(L:Hp->Prop):Prop where
 go:∀i H,L H->i<xs.length->J.go i H
 yld:∀i H x H',L H->i<xs.length->J.yld i H x H'->∃T u v,x=.ref T/\xs[i]?=some u/\ys[i]?=some v/\New H H' T (.tup [u,v])
 stop:∀H,L H->J.stop xs.length H
theorem rM{K:W.Frag}{a b:Addr}{xs ys:List V}(hn:xs.length=ys.length):T7 (Itz K a b xs ys) xs ys (λH=>SqL K H a xs/\SqL K H b ys) :=
 ⟨λi H h hi=>⟨h,hi,by lia⟩,λi H x H' h hi y=>y,λH h=>⟨h,.inl (uC _)⟩⟩
section
variable{K:W.Frag}{te:TE}{g:TG}{c:TT}{σ:St}{H:Hp}{Q:VK}{tr:TA}{a b:Addr}{xs ys:List V}{nt:Nat}{fr:List Nat}
instance aeF:Go (mJ (aeE K tr) nt fr g c te σ H Q) (tr σ H λvs H1=>∃a b xs ys,vs=[.ref a,.ref b]/\SqL K H1 a xs/\SqL K H1 b ys/\cu (Itz K a b xs ys) nt fr g c te σ H1 Q):=⟨id⟩
instance agu[h:SqA K H a xs][h2:SqA K H b ys]:Go (∃a' b' xs' ys',[V.ref a,V.ref b]=[.ref a',.ref b']/\SqL K H a' xs'/\SqL K H b' ys'/\cu (Itz K a' b' xs' ys') nt fr g c te σ H Q) (cu (Itz K a b xs ys) nt fr g c te σ H Q):=⟨λk=>⟨a,b,xs,ys,rfl,h.e,h2.e,k⟩⟩
end
end L2
namespace L2
open PySem PySem.W PySem.Spec PyProof.Rows
def ain(lo st:Int)(n:Nat):List V:=(List.range n).map λi=>V.int (lo+(i:Nat)*st)
end L2
namespace L2
open PySem PySem.Spec PyProof.Rows PySem.SeqAt
section
variable{X:Cx}{K:W.Frag}{H:Hp}{Q:VK}{l:Addr}{nms:List (List Nat)}{cs:List Nat}
theorem Lz:∀{xs:List V} {us:xE} (r:Vals xs us) {i:Nat} (hi:i<us.length) (hj:i<xs.length),RelV xs[i] us[i]
 | _,_,.nil,_,hi,_=>by simp at hi
 | _::_,_::_,.cons r _,0,_,_=>r
 | _::_,_::_,.cons _ t,i+1,hi,hj=>by
  simp only[List.getElem_cons_succ];exact Lz t (by simpa using hi) (by simpa using hj)
def abn:V->List V->Hp->VK->Prop:=λx vs H Q=>∃(l:Addr)(xs:List V)(v:V)(j:Nat),x=.ref l/\vs=[v]/\H l=some (.lst xs)/\mF v=true/\xs.all mF=true/\(∃y,xs[j]?=some y/\eqV y v=true)/\(∀i y,i<j->xs[i]?=some y->eqV y v=false)/\Q (.int (j:Nat)) H
theorem abo:MtM X "list.index" abn:=by
 intro pins s σ H x vs v us Q I rx rv h;obtain⟨l,xs,y,j,rfl,rfl,hH,fy,fs,⟨w,hw,ew⟩,hno,q⟩:=h;cases rx;obtain⟨u,rfl,ry⟩:=vals1 rv;obtain⟨z,its,n,r,hl,e⟩:=I.D_ hH;have hlen:=r.length;obtain⟨hj,e2⟩:=qA.mp hw;rw[sizeLine_eq] at z;have one:∀i (hi:i<its.length) (hx:i<xs.length),eqU y its[i]=eqV xs[i] y:=λi hi hx=>Je (Lz r hi hx) (List.all_eq_true.mp fs _ (List.getElem_mem hx))
 refine call_meets PySem.F.slot_list_index ⟨_,e,rfl⟩ PySem.F.entry_list_index (PySem.F.args_list_index_2 _ _) (list_indexAt l its.toArray n _ _ u (eqU y) j (by rw[List.size_toArray];lia) (by lia) ?_ ?_) ⟨e,λa ha=>n_ ry fy r fs a (by simpa using ha),?_⟩
 ·show eqU y its[j]=true;rw[one j (by lia) hj,e2];exact ew
 ·intro m hm hlt;show eqU y its[m]=false;rw[nN] at hm;rw[one m hm (by lia)];exact hno m _ hlt (qB (by lia))
 ·exact⟨.int (j:Nat),H,I.tok _,⟨_,rfl⟩,q⟩
theorem abp{o e1:Expr}{to te1:TE}{apos cpos:Pos}(ho:PE X o to)(h1:PE X e1 te1)(hbase:attributeBase o "index" X.env (eval o X.env)=eval o X.env:=by rfl)
  (hfew:((backTo cpos (starEach [e1] X.env)).all (λx=>!x.1) && (backToKw cpos (keywordEach [] X.env)).all (λx=>x.1.isSome)
   && decide (([e1]:List Expr).length+([]:List Keyword).length+(if ([]:List Keyword).isEmpty then 0 else 1)<30))=true:=by rfl)
  (hline:(apos.endLine==cpos.line)=true:=by rfl) (hs:starEach [e1] X.env=(false,eval e1 X.env)::starEach [] X.env:=by rfl) (hp:(backTo cpos (starEach [] X.env)).any (·.1)=false:=by rfl) :
  PE X (.Call (.Attribute o "index" apos) [e1] [] cpos) (tBM X.K "list" abn to (n6 te1 tZ)) :=
 DY PySem.F.plainAttrs_list PySem.F.slot_list_index PySem.F.type_list_index abo ho (aj h1 ak hs) hbase hfew hline hs hp
theorem abq{a b:List Nat}:eqV (.str (tx b)) (.str (tx a))=decide (a=b):=by
 by_cases h:a=b
 ·subst h;simp[eqV]
 ·rw[gS h];have:tx b≠tx a:=λz=>h (m9 z).symm
  simp[eqV,this]
class aeG(nms:List (List Nat))(cs:List Nat)(j:outParam Nat):Prop where
 a:nms[j]?=some cs
 n:nms.Nodup
instance agv{j:Nat}[h:Hat H l (.lst (nms.map λcs=>V.str (tx cs)))][a:aeG nms cs j]:Go (abn (.ref l) [.str (tx cs)] H Q) (Q (.int (j:Nat)) H):=⟨λk=>⟨l,_,_,j,rfl,rfl,h.e,rfl,List.all_eq_true.mpr (λz hz=>by obtain⟨b,_,rfl⟩:=List.mem_map.mp hz;rfl),⟨.str (tx cs),by rw[List.getElem?_map,a.a];rfl,by simp[eqV]⟩,λi y hi hy=>by
 rw[wT] at hy;cases e:nms[i]? with
 | none=>rw[e] at hy;cases hy
 | some b =>
  rw[e] at hy;cases hy;show eqV (.str (tx b)) (.str (tx cs))=false;rw[abq,gS];intro z;subst z;obtain⟨h1,e1⟩:=qA.mp a.a;obtain⟨h2,e2⟩:=qA.mp e;exact List.pairwise_iff_getElem.mp a.n i j h2 h1 hi (e2.trans e1.symm),k⟩⟩
theorem mK{X:Cx}{K:W.Frag}(hK:X.K=K):fW X (.type "list") (Le K):=by
 subst hK;exact dB
end
end L2
namespace L2
open PySem PySem.Spec PyProof.Rows
theorem aD.rev{H:Hp}{ys:List V}{rows:List (List V)}(h:aD H ys rows):aD H ys.reverse rows.reverse:=by
 refine⟨by rw[List.length_reverse,List.length_reverse,h.1],λj r e=>?_⟩;have hj:j<rows.length:=by have:=(qA.mp e).1;rwa [List.length_reverse] at this
 rw[List.getElem?_reverse hj] at e;obtain⟨q,a,b⟩:=h.2 _ _ e;exact⟨q,by rw[List.getElem?_reverse (by rw[h.1];exact hj),h.1];exact a,b⟩
theorem aD.app{H:Hp}{ys zs:List V}{r1 r2:List (List V)}(h:aD H ys r1)(g:aD H zs r2):aD H (ys++zs) (r1++r2):=by
 refine⟨by rw[yT,yT,h.1,g.1],λj r e=>?_⟩;by_cases hj:j<r1.length
 ·rw[wE hj] at e;obtain⟨q,a,b⟩:=h.2 _ _ e;exact⟨q,by rw[wE (by rw[h.1];exact hj)];exact a,b⟩
 ·rw[nE (by lia)] at e;obtain⟨q,a,b⟩:=g.2 _ _ e;exact⟨q,by rw[nE (by rw[h.1];lia),h.1];exact a,b⟩
end L2
set_option maxHeartbeats 1000000
namespace L2
open PySem PySem.Spec PyProof.Rows
section
variable{P:List Value->Prop}
theorem elS{n:Nat}(h:∀(a:Value)(us:xE),us.length=n->P (a::us))(us:xE)(hl:us.length=n+1):P us:=by
 cases us with
 | nil=>cases hl
 | cons a t=>exact h a t (Nat.succ.inj hl)
end
theorem el0{P:List Value->Prop}(h:P [])(us:xE)(hl:us.length=0):P us:=by
 rw[List.length_eq_zero_iff.mp hl];exact h
section
variable{P:List Value->Prop}
theorem el1(h:∀a,P [a])(us:xE)(hl:us.length=1):P us:=elS (λa=>el0 (h a)) us hl
theorem el2(h:∀a b,P [a,b])(us:xE)(hl:us.length=2):P us:=elS (λa=>el1 (P:=λt=>P (a::t)) (h a)) us hl
theorem el3(h:∀a b c,P [a,b,c])(us:xE)(hl:us.length=3):P us:=elS (λa=>el2 (P:=λt=>P (a::t)) (h a)) us hl
theorem el4(h:∀a b c d,P [a,b,c,d])(us:xE)(hl:us.length=4):P us:=elS (λa=>el3 (P:=λt=>P (a::t)) (h a)) us hl
theorem el5(h:∀a b c d e,P [a,b,c,d,e])(us:xE)(hl:us.length=5):P us:=elS (λa=>el4 (P:=λt=>P (a::t)) (h a)) us hl
end
class ImI(f:Im)(I:List Im):Prop where
 m:f∈I
class SbI(I' I:List Im):Prop where
 s:∀f∈I',f∈I
section
variable{f g:Im}{I I':List Im}
instance ajK[h:ImI f I]:ImI f (g::I):=⟨zD _ h.m⟩
instance ajL:ImI f (f::I):=⟨zC⟩
instance ajM:SbI [] I:=⟨λ_ h=>gL h vE⟩
instance ajN[h:ImI f I][t:SbI I' I]:SbI (f::I') I:=⟨λg hg=>(vT.mp hg).elim (λe=>e▸h.m) (t.s g)⟩
end
end L2
set_option maxHeartbeats 4000000
namespace L2
open PySem PySem.Spec PyProof.Rows
def d9(rs:List (List Int)):Nat->Nat
 | 0=>0
 | j+1=>if HT.lexLt (rs.getD (j+1) []) (rs.getD (d9 rs j) [])=true then j+1 else d9 rs j
theorem tD(rs:List (List Int)):∀j,d9 rs j<=j
 | 0=>uC _
 | j+1=>by
  have:=tD rs j;unfold d9;split <;> lia
section
variable{X:Cx}
def E_(h:Heap)(qa:Nat->Addr)(rs:List (List Int)):Prop:=∀i,i<rs.length->∃its:Array Value,IsTup h (qa i) its/\IntsAre its.toList (rs.getD i [])
section
variable{P:Program}{w:World}{A:Around}{R:Result->Shared->Prop}{it:Addr}{fp wr:List Addr}{rs:List (List Int)}{qa:Nat->Addr}{V0:Nat->Value->Prop}{St0:Nat->Heap->Prop}{kw:List (Str×Value)}
theorem Py(W:Walks P w A.in1 it fp wr rs.length V0 St0)(hv:∀i v,V0 i v->v=.ref (qa i))(B:Addr)(hB:B ∉ fp)(hu:A.in1.units<cLine)(nq:∀i,i<rs.length->qa i ∉ wr/\qa i≠B)(left:Nat) :
  ∀(j:Nat)(s:Shared)(c:Nat),j+1+left=rs.length->St0 (j+1) s.heap->E_ s.heap qa rs->s.heap.get? B=some (sX #[.ref (qa (d9 rs j)),.ref (qa (d9 rs j))] c) ->
  (∀h' tk,(∀b ob,b ∉ wr->b≠B->s.heap.get? b=some ob->h'.get? b=some ob)->R (.ok (.ret (.ref (qa (d9 rs (rs.length-1)))))) { s with heap:=h',toks:=tk }) ->
  codeAny (model P w) A (.builtin "min.loop" ⟨[.ref it,.none,.ref B],kw⟩) R s:=by
 have hBw:B ∉ wr:=λz=>hB (W.sub _ z)
 have keep:∀{h h1:Heap},E_ h qa rs->(∀b ob,b ∉ wr->b≠B->h.get? b=some ob->h1.get? b=some ob)->E_ h1 qa rs:=λt k i hi=>by
  obtain⟨its,⟨o,e,r⟩,z⟩:=t i hi;exact⟨its,⟨o,k _ _ (nq i hi).1 (nq i hi).2 e,r⟩,z⟩
 induction left with
 | zero =>
  intro j s c hj st tt hb k;have ej:j+1=rs.length:=by lia
  refine codeAny_builtin F.entry_min_loop ?_;rw[Around.under_plainId F.plain_min_loop _];show wpAny _ _ (seqItems? (Value.ref B) >>= _) _ _ _;refine zI (wpAny_seqItems hb rfl ?_);show wpAny _ _ (tryCatch (pyNext (Value.ref it)) _ >>= _) _ _ _;rw[ej] at st;refine zI (wpAny_tryCatch (W.done s _ _ st λh1 tk1 k1=>?_));have hb1:=k1 B _ hBw hb;show wpAny _ _ (updateSeq B _ >>= _) _ _ _;refine zI (wpAny_updateSeq hb1 rfl (zI (wpAny_letGo (rV ?_))));have e2:rs.length-1=j:=by lia
  rw[e2] at k;exact k _ _ λb ob n1 n2 q=>(nS _ _ (λz=>n2 z.symm)).trans (k1 b ob n1 q)
 | succ left ih =>
  intro j s c hj st tt hb k;have hlt:j+1<rs.length:=by lia
  refine codeAny_builtin F.entry_min_loop ?_;rw[Around.under_plainId F.plain_min_loop _];show wpAny _ _ (seqItems? (Value.ref B) >>= _) _ _ _;refine zI (wpAny_seqItems hb rfl ?_);show wpAny _ _ (tryCatch (pyNext (Value.ref it)) _ >>= _) _ _ _;refine zI (wpAny_tryCatch (W.item (j+1) s _ _ hlt st λv h1 tk1 pv st1 k1=>?_));obtain rfl:=hv (j+1) v pv;have hb1:=k1 B _ hBw hb;have t1:E_ h1 qa rs:=keep tt λb ob n1 _ q=>k1 b ob n1 q
  obtain⟨a1,p1,i1⟩:=t1 (j+1) hlt;obtain⟨a2,p2,i2⟩:=t1 (d9 rs j) (by have:=tD rs j;lia);show wpAny _ _ (tryCatch (holding _ (richCompare .Lt _ _ >>= _)) _ >>= _) _ _ _;refine zI (wpAny_tryCatch (nX (zI (HT.Jc p1 p2 i1 i2 hu ?_))));refine zI (nX (wpAny_truthy_bool ?_));refine zI (wpAny_letGo (rV ?_));have hs:(toString "min" ++ toString ".loop" : String) = "min.loop":=by decide
  by_cases hg:HT.lexLt (rs.getD (j+1) []) (rs.getD (d9 rs j) [])=true
  ·rw[hg];simp only[if_true];have e:d9 rs (j+1)=j+1:=by show (if _ then _ else _)=_;rw[zS hg]
   refine zI (wpAny_updateSeq hb1 rfl (zI (wpAny_letGo ?_)));rw[hs];refine rV ⟨plainId_quiet F.plain_min_loop _,ih (j+1) _ _ (by lia) (W.frame _ _ _ st1 λb hbf ob q=>?_) (keep t1 λb ob _ n2 q=>(nS _ _ (λz=>n2 z.symm)).trans q) (by rw[e];exact Heap.get?_update_self _ hb1 rfl) λh2 tk2 k2=>?_⟩
   ·exact(nS _ _ (λz=>hB (by rw[z];exact hbf))).trans q
   ·exact k h2 tk2 λb ob n1 n2 q=>k2 b ob n1 n2 ((nS _ _ (λz=>n2 z.symm)).trans (k1 b ob n1 q))
  ·have hg:HT.lexLt (rs.getD (j+1) []) (rs.getD (d9 rs j) [])=false:=by simpa using hg
   rw[hg];simp only[Bool.false_eq_true,if_false];have e:d9 rs (j+1)=d9 rs j:=by show (if _ then _ else _)=_;rw[hg];rfl
   refine zI (wpAny_letGo ?_);rw[hs];refine rV ⟨plainId_quiet F.plain_min_loop _,ih (j+1) _ c (by lia) st1 t1 (by rw[e];exact hb1) λh2 tk2 k2=>k h2 tk2 λb ob n1 n2 q=>k2 b ob n1 n2 (k1 b ob n1 q)⟩
theorem T8(W:Walks P w A.in1 it fp wr rs.length V0 St0)(hv:∀i v,V0 i v->v=.ref (qa i))(B:Addr)(hB:B ∉ fp)(hu:A.in1.units<cLine)(nq:∀i,i<rs.length->qa i ∉ wr/\qa i≠B){s:Shared}{c:Nat}(st:St0 0 s.heap)(tt:E_ s.heap qa rs)
  (hkw:kw=[(("default" : Str),Value.none)]) (hb:s.heap.get? B=some (sX #[] c))
  (k:∀h' tk,(∀b ob,b ∉ wr->b≠B->s.heap.get? b=some ob->h'.get? b=some ob)->R (.ok (.ret (if rs=[] then .none else .ref (qa (d9 rs (rs.length-1)))))) { s with heap:=h',toks:=tk }) :
  codeAny (model P w) A (.builtin "min.loop" ⟨[.ref it,.none,.ref B],kw⟩) R s:=by
 have hBw:B ∉ wr:=λz=>hB (W.sub _ z)
 have hs:(toString "min" ++ toString ".loop" : String) = "min.loop":=by decide
 refine codeAny_builtin F.entry_min_loop ?_;rw[Around.under_plainId F.plain_min_loop _];show wpAny _ _ (seqItems? (Value.ref B) >>= _) _ _ _;refine zI (wpAny_seqItems hb rfl ?_);show wpAny _ _ (tryCatch (pyNext (Value.ref it)) _ >>= _) _ _ _;by_cases hn:rs=[]
 ·subst hn;rw[hkw];refine zI (wpAny_tryCatch (W.done s _ _ st λh1 tk1 k1=>?_));refine zI (wpAny_rule ?_);exact rV (k h1 tk1 λb ob n1 _ q=>k1 b ob n1 q)
 ·have hlt:0<rs.length:=List.length_pos_iff.mpr hn;refine zI (wpAny_tryCatch (W.item 0 s _ _ hlt st λv h1 tk1 pv st1 k1=>?_));obtain rfl:=hv 0 v pv;have hb1:=k1 B _ hBw hb;show wpAny _ _ (updateSeq B _ >>= _) _ _ _;refine zI (wpAny_updateSeq hb1 rfl ?_);rw[hs];rw[yB hn] at k;refine rV ⟨plainId_quiet F.plain_min_loop _,Py (qa:=qa) W hv B hB hu nq (rs.length-1) 0 _ _ (by lia) (W.frame _ _ _ st1 λb hbf ob q=>?_) (λi hi=>?_) (Heap.get?_update_self _ hb1 rfl) λh2 tk2 k2=>?_⟩
  ·exact(nS _ _ (λz=>hB (by rw[z];exact hbf))).trans q
  ·obtain⟨its,⟨o,e,r⟩,z⟩:=tt i hi;exact⟨its,⟨o,(nS _ _ (λz=>(nq i hi).2 z.symm)).trans (k1 _ _ (nq i hi).1 e),r⟩,z⟩
  ·exact k h2 tk2 λb ob n1 n2 q=>k2 b ob n1 n2 ((nS _ _ (λz=>n2 z.symm)).trans (k1 b ob n1 q))
end
def aeH:List V->V->Hp->VK->Prop:=λxs y H Q=>∃(p:Addr) (ys:List V) (rs:List (List Int)),xs=[.ref p]/\y=.non/\H p=some (.lst ys)/\aD H ys (rs.map λr=>r.map V.int)/\(rs=[]->Q .non H)/\(rs≠[]->∀q,ys[d9 rs (rs.length-1)]?=some (.ref q)->Q (.ref q) H)
theorem Pz{k:Nat}(hc:X.calm=true)(hr:Room k X.A):Li X "min" "default" aeH:=by
 intro pins s σ H xs us y u Q I r ry h;obtain⟨p,ys,rs,rfl,rfl,hq,tp,q0,q1⟩:=h;obtain⟨v,rfl,rx⟩:=vals1 r;cases rx;cases ry;obtain⟨its,rv,pl,_⟩:=I.list (SqL.of hq);have yl:ys.length=rs.length:=by rw[tp.1,wP]
 have hn:its.length=rs.length:=rv.length.symm.trans yl;have hl:=pl.isList;have hlt:p<s.heap.objs.size:=let ⟨_,e,_⟩:=hl;uA e
 have hs:(toString "min" ++ toString ".loop" : String) = "min.loop":=by decide
 let qa:Nat->Addr:=λi=>match ys[i]? with|some (.ref q)=>q|_=>0
 have qaI:∀i,i<rs.length->ys[i]?=some (.ref (qa i))/\∃its:Array Value,IsTup s.heap (qa i) its/\IntsAre its.toList (rs.getD i []):=λi hi=>by
  obtain⟨q,e1,e2⟩:=tp.2 i _ (show (rs.map λr=>r.map V.int)[i]?=some (rs[i].map V.int) by rw[wT,qB hi];rfl);have eq:qa i=q:=by show (match ys[i]? with|some (.ref q)=>q|_=>0)=q;rw[e1]
  rw[eq];obtain⟨its,rr,pp,_⟩:=I.tuple (SqT.of e2);refine⟨e1,its.toArray,pp,?_⟩;rw[oP,qB hi];exact intsAre_of rr
 refine jJ F.kind_min F.plain_min F.entry_min (Pr _ _) ?_;show wpAny _ _ (Builtin.Builtins.bindParams "min" ["key","default"] 0 ⟨[],[(("default" : Str),Value.none)]⟩ >>= _) _ _ s;refine zI (wpAny_of_eq (show Builtin.Builtins.bindParams "min" ["key","default"] 0 ⟨[],[(("default" : Str),Value.none)]⟩=pure [none,some .none] from rfl) ?_);refine zI (rV ?_);refine zI (wpAny_pyIter_list hl ?_);refine zI (wpAny_newObj_type ?_);rw[hs];have W:=Walks.list (prog:=X.prog) (w:=X.w) (A:=X.A.in1) (I.ok.hd hc) s.heap.objs.size p (qS hlt) its.toArray;rw[show its.toArray.size=rs.length by rw[nN];exact hn] at W;refine rV ⟨plainId_quiet F.plain_min_loop _,T8 (qa:=qa) W (λi v hP=>?_) _ (λz=>?_) ?_ (λi hi=>?_) (W.frame _ _ _ ⟨⟨_,oC _ rfl,rfl,rfl⟩,hl.push _⟩ λb _ ob e=>uB _ e) (λi hi=>?_) rfl (oC _ rfl) λh' tk hk=>?_⟩
 ·have hP:its[i]?=some v:=by simpa using hP
  have hi:i<rs.length:=by rw[<- hn];exact(qA.mp hP).1
  obtain⟨u,e1,e2⟩:=rv.get (qaI i hi).1;rw[hP] at e1;cases e1;exact e2
 ·rcases vT.mp z with z|z
  ·exact gL z (by rw[size_push'];exact Nat.succ_ne_self _)
  ·exact gL (uS.mp z) (by rw[size_push'];exact Nat.ne_of_gt (nK hlt))
 ·have:=hr.un;show X.A.units+1<cLine
  lia
 ·obtain⟨_,its2,⟨o,e,_⟩,_⟩:=qaI i hi;have hb:=uA e;exact⟨λz=>gL (uS.mp z) (qS hb),by rw[size_push'];exact qS (nK hb)⟩
 ·obtain⟨_,its2,⟨o,e,r⟩,z⟩:=qaI i hi;exact⟨its2,⟨o,uB _ (uB _ e),r⟩,z⟩
 ·have kp:∀b ob,s.heap.get? b=some ob->h'.get? b=some ob:=λb ob q=>by
   have hb:b<s.heap.objs.size:=uA q;exact hk b ob (λz=>gL (uS.mp z) (qS hb)) (by rw[size_push'];exact qS (nK hb)) (uB _ (uB _ q))
  by_cases h0:rs=[]
  ·rw[zS h0];exact⟨.non,H,I.kept kp,rfl,q0 h0⟩
  ·rw[yB h0];have hl2:d9 rs (rs.length-1)<rs.length:=by have:=tD rs (rs.length-1);have:=List.length_pos_iff.mpr h0;lia
   exact⟨.ref _,H,I.kept kp,rfl,q1 h0 _ (qaI _ hl2).1⟩
end
end L2
namespace L2
open PySem PySem.Spec PyProof.Rows PySem.SeqAt
class NwU(xs:List V)(lo hi:Option Int):Prop where
 e:¬ (HT.sIx xs.length 0 lo=0/\HT.sIx xs.length xs.length hi=xs.length)
end L2
set_option maxHeartbeats 1000000
namespace L2
open PySem PySem.W PySem.Spec PyProof.Rows
section
variable{P:Program}{w:World}{K:W.Frag}{mg:xC}{base:Heap}{CX:CXT}{x nm qual:Str}{ps:List Str}{sp:Sp}{k:Nat}{st:Stmt}{N:List Str}{f:Addr}{X:Cx}{i:Nat}{e:Expr}{te:TE}{pos pos':Pos}
abbrev LC(sp:Sp)(ps:List Str):Prop:=∀vs H Q E,sp vs H Q E->vs.length=ps.length
abbrev LK(nm qual:Str)(st:Stmt)(ps:List Str):Prop:=∀(kV doc pm:Value)(an:xL)(cdv ct:Value)(us:xE),us.length=ps.length->bindArgs (W.fnOf nm qual (cD st) (bH st) (aA st) .none kV doc pm an cdv ct) ⟨us,[]⟩=pure (ps.zip us)
theorem dA(h:HasDef K mg x st)(S:aJ N ps (aA st))
  (hbody:∀(f:Addr)(cdv:Value)(A:Around)(outer:List Env)(s:Shared)(H:Hp)(vs:List V)(Q:VK)(E:XK),Room k (A.deeper (envOfC x (aA st) s.heap.objs.size f cdv))->sp vs H Q E ->
   ∃t,PSs (gQ CX P w K mg base N x (aA st) f cdv A outer s H E).nox (bH st) t/\t { nx:=λ_ H'=>Q .non H',rt:=Q } (start N vs) H)
  (len:LC sp ps:=by intro _ _ _ _ h;repeat (first|(obtain⟨rfl,_⟩:=h;rfl)|obtain⟨_,h⟩:=h))
  (hb:LK x x st ps:=by intro _ _ _ _ _ _;first|exact el1 λ_=>rfl|exact el2 λ_ _=>rfl|exact el3 λ_ _ _=>rfl|exact el4 λ_ _ _ _=>rfl|exact el5 λ_ _ _ _ _=>rfl):Def P w K mg base CX (k+1) x ps sp:=aae h S len hb hbody
theorem dX(h:HasDef K mg x st)(S:aJ N ps (aA st))
  (hbody:∀(f:Addr)(cdv:Value)(A:Around)(outer:List Env)(s:Shared)(H:Hp)(vs:List V)(Q:VK)(E:XK),Room k (A.deeper (envOfC x (aA st) s.heap.objs.size f cdv))->sp vs H Q E ->
   ∃t,PSs (gQ (CX1 P w) P w K mg base N x (aA st) f cdv A outer s H E) (bH st) t/\t { nx:=λ_ H'=>Q .non H',rt:=Q } (start N vs) H)
  (len:LC sp ps:=by intro _ _ _ _ h;repeat (first|(obtain⟨rfl,_⟩:=h;rfl)|obtain⟨_,h⟩:=h))
  (hb:LK x x st ps:=by intro _ _ _ _ _ _;first|exact el1 λ_=>rfl|exact el2 λ_ _=>rfl|exact el3 λ_ _ _=>rfl|exact el4 λ_ _ _ _=>rfl|exact el5 λ_ _ _ _ _=>rfl):Def P w K mg base (CX1 P w) (k+1) x ps sp:=Xl h S len hb hbody
theorem fA(h:FnAt K nm qual st f)(S:aJ N ps (aA st))
  (hbody:∀(f:Addr)(cdv:Value)(A:Around)(outer:List Env)(s:Shared)(H:Hp)(vs:List V)(Q:VK)(E:XK),Room k (A.deeper (envOfC qual (aA st) s.heap.objs.size f cdv))->sp vs H Q E ->
   ∃t,PSs (gQ CX P w K mg base N qual (aA st) f cdv A outer s H E).nox (bH st) t/\t { nx:=λ_ H'=>Q .non H',rt:=Q } (start N vs) H)
  (len:LC sp ps:=by intro _ _ _ _ h;repeat (first|(obtain⟨rfl,_⟩:=h;rfl)|obtain⟨_,h⟩:=h))
  (hb:LK nm qual st ps:=by intro _ _ _ _ _ _;first|exact el1 λ_=>rfl|exact el2 λ_ _=>rfl|exact el3 λ_ _ _=>rfl|exact el4 λ_ _ _ _=>rfl|exact el5 λ_ _ _ _ _=>rfl):gU P w K mg base CX (k+1) f ps sp:=S8 h S len hb hbody
theorem fX(h:FnAt K nm qual st f)(S:aJ N ps (aA st))
  (hbody:∀(f:Addr)(cdv:Value)(A:Around)(outer:List Env)(s:Shared)(H:Hp)(vs:List V)(Q:VK)(E:XK),Room k (A.deeper (envOfC qual (aA st) s.heap.objs.size f cdv))->sp vs H Q E ->
   ∃t,PSs (gQ (CX1 P w) P w K mg base N qual (aA st) f cdv A outer s H E) (bH st) t/\t { nx:=λ_ H'=>Q .non H',rt:=Q } (start N vs) H)
  (len:LC sp ps:=by intro _ _ _ _ h;repeat (first|(obtain⟨rfl,_⟩:=h;rfl)|obtain⟨_,h⟩:=h))
  (hb:LK nm qual st ps:=by intro _ _ _ _ _ _;first|exact el1 λ_=>rfl|exact el2 λ_ _=>rfl|exact el3 λ_ _ _=>rfl|exact el4 λ_ _ _ _=>rfl|exact el5 λ_ _ _ _ _=>rfl):gU P w K mg base (CX1 P w) (k+1) f ps sp:=O8 h S len hb hbody
theorem scz{N P:List Str}{sc:Scope}(a:sc.kind=.function:=by rfl)(b:sc.isCoroutine=false:=by rfl)(c:sc.isGenerator=false:=by rfl)(d:N.Nodup:=by decide +kernel)(e:N.take P.length=P:=by rfl)(f:∀x∈P,sc.names.lookup x=some .local\/sc.names.lookup x=some .cell:=by decide +kernel)(g:∀y∈sc.names,y.2≠.free:=by decide +kernel):aJ N P sc:=⟨a,b,c,d,e,f,g⟩
theorem psz(i:Nat)(hN:X.N.Nodup)(he:PE X e te)(hi:X.N[i]?=some x:=by rfl)(hx:Loc X.env.scope x:=by first|exact Or.inl rfl|exact Or.inr rfl)(hs:swapsWith e (some (.Name x pos')) pos.line X.env=pure false:=by rfl)(hf:X.fn x=true\/X.env.scope.names.lookup x=some .local:=by first|exact .inl rfl|exact .inr rfl|assumption) :
  PS X (.Assign [.Name x pos'] e pos) (Oh te (bw i)):=Rn hN hi hx he hs hf
theorem pgz(i:Nat)(hN:X.N.Nodup)(hi:X.N[i]?=some x:=by rfl)(hx:Loc X.env.scope x:=by first|exact Or.inl rfl|exact Or.inr rfl)(hf:X.fn x=true\/X.env.scope.names.lookup x=some .local:=by first|exact .inl rfl|exact .inr rfl|assumption):PG X (.Name x pos) (bw i):=cj hN hi hx hf
end
class StC(N:List Str)(vs:List V)(σ:outParam St):Prop where
 e:start N vs=σ
instance aio:StC [] [] []:=⟨rfl⟩
instance agw{x:Str}{N:List Str}{σ:St}[h:StC N [] σ]:StC (x::N) [] (none::σ):=⟨by rw[<- h.e];rfl⟩
instance agx{x:Str}{N:List Str}{v:V}{vs:List V}{σ:St}[h:StC N vs σ]:StC (x::N) (v::vs) (some v::σ):=⟨by
 rw[<- h.e];unfold start;rw[mS,mS,Nat.add_sub_add_right]
 rfl⟩
theorem stE{N:List Str}{vs:List V}{σ:St}[h:StC N vs σ]:start N vs=σ:=h.e
theorem om{H0:Hp}{a:Addr}{o:HO}(h:H0 a=some o):Old H0 [] a o:=Old.mk h nm0
theorem SH.n0(H:Hp):SH H [] H [] []:=SH.nil
end L2
namespace M22
abbrev Sc:=List (Nat×Nat)×Nat×Nat
def stp(st:Sc)(b:Bool):Sc:=if b then (st.1,st.2.1+1,st.2.2+1) else if 0<st.2.1 then (st.1++[(st.2.2-st.2.1,st.2.1)],0,st.2.2+1) else (st.1,0,st.2.2+1)
def scan(fs:xF):Sc:=fs.foldl stp ([],0,0)
def dY(fs:xF):List (Nat×Nat):=if 0<(scan fs).2.1 then (scan fs).1++[((scan fs).2.2-(scan fs).2.1,(scan fs).2.1)] else (scan fs).1
theorem scan_snoc(fs:xF)(b:Bool):scan (fs++[b])=stp (scan fs) b:=by unfold scan;rw[List.foldl_append];rfl
theorem snoc_ind{P:List Bool->Prop}(h0:P [])(h1:∀fs b,P fs->P (fs++[b]))(fs:xF):P fs:=by
 have:∀r:List Bool,P r.reverse:=by
  intro r
  induction r with
  | nil=>exact h0
  | cons a t ih=>rw[List.reverse_cons];exact h1 _ _ ih
 have:=this fs.reverse
 rwa [List.reverse_reverse] at this
theorem scan_len(fs:xF):(scan fs).2.2=fs.length:=by
 refine snoc_ind (P:=λfs=>(scan fs).2.2=fs.length) rfl (λfs b ih=>?_) fs;rw[scan_snoc,yT,List.length_singleton,<- ih];unfold stp;split
 ·rfl
 ·split <;> rfl
theorem JG(fs:xF):(scan (fs++[false])).1=dY fs/\(scan (fs++[false])).2.1=0:=by
 rw[scan_snoc];unfold stp dY;simp only[Bool.false_eq_true,if_false];split <;> exact⟨rfl,rfl⟩
structure Ok(fs:xF)(st:Sc):Prop where
 le:st.2.1<=fs.length
 tail:∀j,fs.length-st.2.1<=j->j<fs.length->fs[j]?=some true
 edge:st.2.1=0->fs=[]\/fs[fs.length-1]?=some false
 hs:∀x∈st.1,1<=x.2/\x.1+x.2<=fs.length/\∀j,x.1<=j->j<x.1+x.2->fs[j]?=some true
 sm:(st.1.map (·.2)).sum+st.2.1=fs.count true
theorem Cv(fs:xF):Ok fs (scan fs):=by
 refine snoc_ind (P:=λfs=>Ok fs (scan fs)) ⟨by decide,λj _ h=>gL h (Nat.not_lt_zero _),λ_=>.inl rfl,(λx hx=>by cases hx),rfl⟩ (λfs b ih=>?_) fs;obtain⟨h1,h2,h3,h4,h5⟩:=ih;have up:∀j,j<fs.length->(fs++[b])[j]?=fs[j]?:=λj hj=>wE hj
 have at_:(fs++[b])[fs.length]?=some b:=by rw[nE (uC _),Nat.sub_self];rfl
 have hl:(fs++[b]).length=fs.length+1:=by simp
 have sl:=scan_len fs;have old:∀x∈(scan fs).1,1<=x.2/\x.1+x.2<=(fs++[b]).length/\∀j,x.1<=j->j<x.1+x.2->(fs++[b])[j]?=some true:=λx hx=>by
  obtain⟨a1,a2,a3⟩:=h4 x hx;exact⟨a1,by lia,λj p q=>by rw[up j (by lia)];exact a3 j p q⟩
 have hc:(fs++[b]).count true=fs.count true+(if b then 1 else 0):=by rw[List.count_append];cases b <;> rfl
 rw[scan_snoc];unfold stp;cases b with
 | true =>
  rw[zS rfl];refine⟨by show _+1<=_;lia,λj p q=>?_,λh=>gL h (Nat.succ_ne_zero _),old,?_⟩
  ·by_cases hj:j<fs.length
   ·rw[up j hj];have p':(fs++[true]).length-((scan fs).2.1+1)<=j:=p;exact h2 j (by lia) hj
   ·rw[show j=fs.length by lia];exact at_
  ·show _+(_+1)=_;rw[hc,<- h5];simp only[if_true]
   lia
 | false =>
  simp only[Bool.false_eq_true,if_false] at hc ⊢;by_cases hz:0<(scan fs).2.1
  ·rw[zS hz];refine⟨Nat.zero_le _,λj p q=>?_,λ_=>.inr (by rw[hl];exact at_),λx hx=>?_,?_⟩
   ·have p':(fs++[false]).length-0<=j:=p
    lia
   ·rcases wS.mp hx with hx|hx
    ·exact old x hx
    ·rw[uS.mp hx];refine⟨hz,by show _-_+_<=_;lia,λj p q=>?_⟩;have p':(scan fs).2.2-(scan fs).2.1<=j:=p;have q':j<(scan fs).2.2-(scan fs).2.1+(scan fs).2.1:=q;rw[up j (by lia)];exact h2 j (by lia) (by lia)
   ·rw[hc,<- h5,List.map_append,List.sum_append];simp
  ·rw[yB hz];refine⟨Nat.zero_le _,λj p q=>?_,λ_=>.inr (by rw[hl];exact at_),old,by show ((scan fs).1.map (·.2)).sum+0=_;rw[hc,<- h5];lia⟩;have p':(fs++[false]).length-0<=j:=p
   lia
theorem X_{fs:xF}{x:Nat×Nat}(h:x∈dY fs):1<=x.2/\x.1+x.2<=fs.length/\∀j,x.1<=j->j<x.1+x.2->fs[j]?=some true:=by
 obtain⟨h1,h2,h3,h4,h5⟩:=Cv fs;have sl:=scan_len fs;unfold dY at h;by_cases hz:0<(scan fs).2.1
 ·rw[zS hz] at h;rcases wS.mp h with h|h
  ·exact h4 x h
  ·rw[uS.mp h];refine⟨hz,by show _-_+_<=_;lia,λj p q=>?_⟩;have p':(scan fs).2.2-(scan fs).2.1<=j:=p;have q':j<(scan fs).2.2-(scan fs).2.1+(scan fs).2.1:=q;exact h2 j (by lia) (by lia)
 ·rw[yB hz] at h;exact h4 x h
theorem T9(fs:xF):((dY fs).map (·.2)).sum=fs.count true:=by
 have h5:=(Cv fs).sm;unfold dY;by_cases hz:0<(scan fs).2.1
 ·rw[if_pos hz,List.map_append,List.sum_append,<- h5];simp
 ·rw[yB hz,<- h5];lia
def jL{α:Type}(fs:List α)(a i:Nat)(b:α):List α:=fs.take a++List.replicate i b++fs.drop (a+i)
theorem Fb{α:Type}{fs:List α}{a i:Nat}{b:α}(h:a+i<=fs.length):(jL fs a i b).length=fs.length:=by
 unfold jL;rw[yT,yT,oQ,mM,mT]
 lia
theorem PB{α:Type}{fs:List α}{a:Nat}{b:α}:jL fs a 0 b=fs:=by unfold jL;simp
theorem T_{α:Type}{fs:List α}{a i:Nat}{b:α}(h:a+i<fs.length):(jL fs a i b).set (a+i) b=jL fs a (i+1) b:=by
 unfold jL;have hd:fs.drop (a+i)=fs[a+i]::fs.drop (a+(i+1)):=by rw[List.drop_eq_getElem_cons h];rfl
 rw[hd,List.set_append_right _ _ (by rw[yT,oQ,mM];lia)];have:a+i-(fs.take a++List.replicate i b).length=0:=by rw[yT,oQ,mM];lia
 rw[this,List.set_cons_zero,List.replicate_succ'];simp
theorem Fd{α β:Type}{f:α->β}{fs:List α}{a i:Nat}{b:α}:(jL fs a i b).map f=jL (fs.map f) a i (f b):=by unfold jL;simp
end M22
set_option maxHeartbeats 4000000
namespace M82
open L2
structure OkA(e n:Nat)(rs:List Rw):Prop where
 asc:rs.Pairwise λr s=>r.st+r.sz<=s.st
 bd:∀r∈rs,e<=r.st/\1<=r.sz/\r.st+r.sz<=n
theorem OkA.tail{e n:Nat}{r:Rw}{rs:List Rw}(h:OkA e n (r::rs)):OkA (r.st+r.sz) n rs :=
 ⟨(mN.mp h.asc).2,λs hs=>⟨(mN.mp h.asc).1 s hs,(h.bd s (.tail _ hs)).2⟩⟩
theorem OkA.hd{e n:Nat}{r:Rw}{rs:List Rw}(h:OkA e n (r::rs)):e<=r.st/\1<=r.sz/\r.st+r.sz<=n:=h.bd r (.head _)
theorem OkA.cons{e n:Nat}{r:Rw}{rs:List Rw}(h:e<=r.st/\1<=r.sz/\r.st+r.sz<=n)(t:OkA (r.st+r.sz) n rs):OkA e n (r::rs) :=
 ⟨mN.mpr ⟨λs hs=>(t.bd s hs).1,t.asc⟩,λs hs=>by
  rcases vT.mp hs with rfl|hs
  ·exact h
  ·have:=t.bd s hs
   lia⟩
theorem OkA.nil{e n:Nat}:OkA e n []:=⟨.nil,λ_ h=>by cases h⟩
def fQ(r:Rw)(s:Nat):Rw:=⟨r.nm,s,r.sz,r.pn⟩
def dnT(e:Nat)(r:Rw):Nat:=if 0<r.pn then r.st else e
def dnR:Nat->List Rw->List Rw
 | _,[]=>[]
 | e,r::rs=>fQ r (dnT e r)::dnR (dnT e r+r.sz) rs
abbrev Mv:=Nat×List Nat×Nat
def upT(b:Nat)(r:Rw):Nat:=if 0<r.pn then r.st else b-r.sz
def upB(b:Nat)(rs:List Rw):Nat:=rs.foldl upT b
def upR:Nat->List Rw->List Rw
 | _,[]=>[]
 | b,r::rs=>fQ r (upT b r)::upR (upT b r) rs
def upL(n:Nat):List Rw->List Rw×Nat
 | []=>([],n)
 | r::rs=>(fQ r (upT (upL n rs).2 r)::(upL n rs).1,upT (upL n rs).2 r)
def gB(T:List Rw):Nat->Nat
 | 0=>0
 | j+1=>match T[j]? with
  | some r=>r.st+r.sz
  | none=>0
def cW(n:Nat)(T:List Rw)(k:Nat):Nat:=match T[k+1]? with
 | some r=>r.st
 | none=>n
def mvT(T:List Rw)(k to:Nat):List Rw:=T.modify k λr=>fQ r to
def WOk(n:Nat):List Rw->List Mv->Prop
 | _,[]=>True
 | T,m::ms=>(∃r,T[m.1]?=some r/\r.nm=m.2.1/\r.pn=0/\gB T m.1<=m.2.2/\m.2.2+r.sz<=cW n T m.1)/\WOk n (mvT T m.1 m.2.2) ms
def bF(T:List Rw)(ms:List Mv):List Rw:=ms.foldl (λT m=>mvT T m.1 m.2.2) T
def wPr(T:List Rw)(m:Mv):Nat:=match T[m.1]? with
 | some r=>if m.2.2=r.st then 0 else r.sz
 | none=>0
def cJ:List Rw->List Mv->Nat
 | _,[]=>0
 | T,m::ms=>wPr T m+cJ (mvT T m.1 m.2.2) ms
theorem Cw(P:List Rw)(r:Rw)(Q:List Rw)(to:Nat):mvT (P++r::Q) P.length to=P++fQ r to::Q:=by
 unfold mvT
 induction P with
 | nil=>rfl
 | cons p P ih=>simp only[List.cons_append,List.length_cons,List.modify_succ_cons,ih]
theorem Cy(P:List Rw)(r:Rw)(Q:List Rw):(P++r::Q)[P.length]?=some r:=by rw[nE (uC _),Nat.sub_self];rfl
theorem uR(n:Nat)(P:List Rw)(r:Rw)(Q:List Rw):cW n (P++r::Q) P.length=match Q with|[]=>n|s::_=>s.st:=by
 unfold cW;rw[nE (by lia),show P.length+1-P.length=1 by lia];cases Q <;> rfl
def Ua:List Rw->Nat
 | []=>0
 | r::rs=>match rs with
  | []=>r.st+r.sz
  | _=>Ua rs
theorem jm(P:List Rw)(r:Rw):Ua (P++[r])=r.st+r.sz:=by
 induction P with
 | nil=>rfl
 | cons p P ih =>
  cases P with
  | nil=>rfl
  | cons q P=>exact ih
theorem Cz(P:List Rw)(r:Rw)(Q:List Rw):gB (P++r::Q) P.length=Ua P:=by
 rcases List.eq_nil_or_concat P with rfl|⟨P,p,rfl⟩
 ·rfl
 ·rw[List.concat_eq_append,jm];have:(P++[p]++r::Q)[P.length]?=some p:=by rw[vS];exact Cy P p _
  rw[show (P++[p]).length=P.length+1 by simp];simp only[gB,this]
structure OkD(b:Nat)(rs:List Rw):Prop where
 asc:rs.Pairwise λr s=>s.st+s.sz<=r.st
 bd:∀r∈rs,1<=r.sz/\r.st+r.sz<=b
theorem OkA.rev{e n:Nat}{rs:List Rw}(h:OkA e n rs):OkD n rs.reverse:=⟨List.pairwise_reverse.mpr h.asc,λr hr=>(h.bd r (List.mem_reverse.mp hr)).2⟩
theorem OkD.tail{b:Nat}{r:Rw}{rs:List Rw}(h:OkD b (r::rs)):OkD r.st rs :=
 ⟨(mN.mp h.asc).2,λs hs=>⟨(h.bd s (.tail _ hs)).1,(mN.mp h.asc).1 s hs⟩⟩
def eU(n:Nat):List Rw->Nat
 | []=>n
 | r::_=>r.st
def aeI(n:Nat):Int->Int->List Rw->List (Int×Int×Int)
 | f,u,[]=>[(f,(n:Int),(n:Int)-f-u)]
 | f,u,r::rs=>if 0<r.pn then (f,(r.st:Int),(r.st:Int)-f-u)::aeI n ((r.st:Int)+(r.sz:Int)) 0 rs else aeI n f (u+(r.sz:Int)) rs
def aeJ(e b:Int):List (Int×Int):=if e<b then [(e,b-e)] else []
def aip(n:Nat):Int->List Rw->List (Int×Int)
 | e,[]=>aeJ e (n:Int)
 | e,r::rs=>aeJ e (r.st:Int)++aip n ((r.st:Int)+(r.sz:Int)) rs
def aiq(d:Bool)(w:Int×Int×Int):List (Int×Int):=if 0<w.2.2 then [(if d=true then w.2.1-w.2.2 else w.1,w.2.2)] else []
def aji(d:Bool)(ws:List (Int×Int×Int)):List (Int×Int):=ws.flatMap (aiq d)
end M82
namespace M87
open L2 M82
abbrev Sp2:=Rw×Int
def plc:Int->List Rw->List Sp2
 | _,[]=>[]
 | a,r::rs=>(r,a)::plc (a+(r.sz:Int)) rs
def szs(A:List Rw):Int:=(A.map λr=>(r.sz:Int)).sum
def jn(f b:Int)(g:Nat)(A:List Rw):List Sp2:=plc f (A.take g)++plc (b-szs (A.drop g)) (A.drop g)
def mv(ss:List Sp2):List Sp2:=ss.filter λs=>decide (s.2≠(s.1.st:Int))
def pri(ss:List Sp2):Int:=((mv ss).map λs=>(s.1.sz:Int)).sum
def fm(p:Nat->Int):Nat->Nat
 | 0=>0
 | m+1=>if p (m+1)<p (fm p m) then m+1 else fm p m
def gp0(f b:Int)(A:List Rw):Nat:=fm (λg=>pri (jn f b g A)) A.length
def best(f b:Int)(A:List Rw):List Sp2:=jn f b (gp0 f b A) A
def aeK(n:Nat):Int->List Rw->List Rw->List Sp2
 | f,A,[]=>best f n A
 | f,A,r::rs=>if 0<r.pn then best f r.st A++(r,(r.st:Int))::aeK n ((r.st:Int)+(r.sz:Int)) [] rs else aeK n f (A++[r]) rs
abbrev S3:=Int×Int×List Rw
def aeL(n:Nat):Int->List Rw->List Rw->List S3
 | f,A,[]=>[(f,(n:Int),A)]
 | f,A,r::rs=>if 0<r.pn then (f,(r.st:Int),A)::aeL n ((r.st:Int)+(r.sz:Int)) [] rs else aeL n f (A++[r]) rs
def inI(f b:Int)(r:Rw):Bool:=decide (f<=(r.st:Int)) && decide ((r.st:Int)<b)
structure ajj(r0:List Rw)(n:Nat)(w:S3):Prop where
 flt:r0.filter (inI w.1 w.2.1)=w.2.2
 un:∀r∈w.2.2,r.pn=0
 fit:w.1+szs w.2.2<=w.2.1
 lo:0<=w.1
 hi:w.2.1<=(n:Int)
def ChS(b:Int):Int->List Sp2->Prop
 | e,[]=>e<=b
 | e,s::ss=>e<=s.2/\ChS b (s.2+(s.1.sz:Int)) ss
theorem ChS.mono{b:Int}:∀{ss:List Sp2} {e e':Int},ChS b e ss->e'<=e->ChS b e' ss
 | [],_,_,h,l=>Int.le_trans l h
 | _::_,_,_,h,l=>⟨Int.le_trans l h.1,h.2⟩
theorem ChS.app{b c:Int}{ys:List Sp2}:∀{xs:List Sp2} {e:Int},ChS c e xs->ChS b c ys->ChS b e (xs++ys)
 | [],_,h,g=>g.mono h
 | _::_,_,h,g=>⟨h.1,ChS.app h.2 g⟩
def mid(s:Sp2):Rw:=if s.2<(s.1.st:Int) then fQ s.1 s.2.toNat else s.1
def tgt(s:Sp2):Rw:=fQ s.1 s.2.toNat
def lm:Nat->List Sp2->List Mv
 | _,[]=>[]
 | k,s::ss=>if s.2<(s.1.st:Int) then (k,s.1.nm,s.2.toNat)::lm (k+1) ss else lm (k+1) ss
def rm:List Sp2->List Mv
 | []=>[]
 | s::ss=>if (s.1.st:Int)<s.2 then (ss.length,s.1.nm,s.2.toNat)::rm ss else rm ss
theorem LQ{n:Nat}:∀{a:List Mv} {b:List Mv} {T:List Rw},WOk n T a->WOk n (bF T a) b->WOk n T (a++b)
 | [],_,_,_,g=>g
 | _::_,_,_,h,g=>⟨h.1,LQ h.2 g⟩
theorem Ub(a b:List Mv)(T:List Rw):bF T (a++b)=bF (bF T a) b:=by unfold bF;rw[List.foldl_append]
theorem LR:∀(a b:List Mv)(T:List Rw),cJ T (a++b)=cJ T a+cJ (bF T a) b
 | [],_,_=>by show _=0+_;rw[Nat.zero_add];rfl
 | m::a,b,T=>by
  show wPr T m+cJ (mvT T m.1 m.2.2) (a++b)=wPr T m+cJ (mvT T m.1 m.2.2) a+_;rw[LR a b,Nat.add_assoc]
  rfl
def ml(ss:List Sp2):List Sp2:=ss.filter λs=>decide (s.2<(s.1.st:Int))
def mr(ss:List Sp2):List Sp2:=ss.filter λs=>decide ((s.1.st:Int)<s.2)
def szN(ss:List Sp2):Nat:=(ss.map λs=>s.1.sz).sum
theorem L_{n:Nat}(L:List Sp2):∀(P:List Rw)(e:Int),(Ua P:Int)<=e->ChS n e L->OkA 0 n (L.map (·.1))->(∀s∈L,0<s.1.pn->s.2=(s.1.st:Int)) ->
  WOk n (P++L.map (·.1)) (lm P.length L)/\bF (P++L.map (·.1)) (lm P.length L)=P++L.map mid/\cJ (P++L.map (·.1)) (lm P.length L)=szN (ml L):=by
 induction L with
 | nil=>intro P e _ _ _ _;exact⟨trivial,rfl,rfl⟩
 | cons s L ih =>
  intro P e he ch ok pin;have h1:0<=s.1.st/\1<=s.1.sz/\s.1.st+s.1.sz<=n:=ok.hd;have h2:OkA (s.1.st+s.1.sz) n (L.map (·.1)):=ok.tail;have hl:(P++[mid s]).length=P.length+1:=by simp
  by_cases q:s.2<(s.1.st:Int)
  ·have hm:mid s=fQ s.1 s.2.toNat:=zS q;have he2:0<=e:=by lia
   have h0:=ch.1;have i:=ih (P++[mid s]) (s.2+(s.1.sz:Int)) (by rw[jm,hm];show (((s.2.toNat+s.1.sz:Nat)):Int)<=_;lia) ch.2 ⟨h2.asc,λr hr=>⟨Nat.zero_le _,(h2.bd r hr).2⟩⟩ (λs hs=>pin s (.tail _ hs));rw[hl,vS,vS,List.singleton_append,List.singleton_append] at i;rw[show lm P.length (s::L)=(P.length,s.1.nm,s.2.toNat)::lm (P.length+1) L by rw[lm,zS q],oS,oS];have hmv:mvT (P++s.1::L.map (·.1)) P.length s.2.toNat=P++mid s::L.map (·.1):=by rw[Cw,hm]
   refine⟨⟨⟨s.1,Cy _ _ _,rfl,?_,?_,?_⟩,?_⟩,?_,?_⟩
   ·have:=pin s (.head _)
    lia
   ·show gB (P++s.1::L.map (·.1)) P.length<=s.2.toNat;rw[Cz]
    lia
   ·show s.2.toNat+s.1.sz<=cW n (P++s.1::L.map (·.1)) P.length;rw[uR];have hn:=h1.2.2
    generalize hR:L.map (·.1)=R at h2
    cases R with
    | nil=>show s.2.toNat+s.1.sz<=n;lia
    | cons t R=>have:=(h2.hd).1;show s.2.toNat+s.1.sz<=t.st;lia
   ·show WOk n (mvT (P++s.1::L.map (·.1)) P.length s.2.toNat) _;rw[hmv];exact i.1
   ·show bF (mvT (P++s.1::L.map (·.1)) P.length s.2.toNat) _=_;rw[hmv];exact i.2.1
   ·show wPr (P++s.1::L.map (·.1)) (P.length,s.1.nm,s.2.toNat)+cJ (mvT (P++s.1::L.map (·.1)) P.length s.2.toNat) _=_;rw[hmv,i.2.2];have e1:wPr (P++s.1::L.map (·.1)) (P.length,s.1.nm,s.2.toNat)=s.1.sz:=by
     simp only[wPr,Cy];rw[yB (by lia)]
    rw[e1];unfold ml szN;rw[List.filter_cons_of_pos (by simpa using q),List.map_cons,List.sum_cons]
  ·have hm:mid s=s.1:=yB q;have i:=ih (P++[mid s]) (s.2+(s.1.sz:Int)) (by rw[jm,hm];lia) ch.2 ⟨h2.asc,λr hr=>⟨Nat.zero_le _,(h2.bd r hr).2⟩⟩ (λs hs=>pin s (.tail _ hs));rw[hl,vS,vS,List.singleton_append,List.singleton_append] at i;rw[show lm P.length (s::L)=lm (P.length+1) L by rw[lm,yB q],oS,oS];rw[hm] at i ⊢;refine⟨i.1,i.2.1,?_⟩;rw[i.2.2];unfold ml;rw[List.filter_cons_of_neg (by simpa using q)]
def ChD:Int->List Sp2->Prop
 | _,[]=>True
 | b,s::ss=>s.2+(s.1.sz:Int)<=b/\ChD s.2 ss
theorem ChS.le{b:Int}:∀{ss:List Sp2} {e:Int},ChS b e ss->e<=b/\∀s∈ss,e<=s.2/\s.2+(s.1.sz:Int)<=b
 | [],_,h=>⟨h,λ_ z=>by cases z⟩
 | s::ss,e,h=>by
  obtain⟨i1,i2⟩:=ChS.le h.2;have:=h.1;refine⟨by lia,λt ht=>?_⟩;rcases vT.mp ht with rfl|ht
  ·exact⟨h.1,i1⟩
  ·have:=i2 t ht;exact⟨by lia,this.2⟩
theorem Fe:∀{xs:List Sp2} {b:Int} {s:Sp2},ChD b xs->(∀t∈xs,s.2+(s.1.sz:Int)<=t.2)->s.2+(s.1.sz:Int)<=b->ChD b (xs++[s])
 | [],_,_,_,_,h=>⟨h,trivial⟩
 | x::xs,_,_,g,a,_=>⟨g.1,Fe g.2 (λt ht=>a t (.tail _ ht)) (a x (.head _))⟩
theorem ChS.rev{b:Int}:∀{ss:List Sp2} {e:Int},ChS b e ss->ChD b ss.reverse
 | [],_,_=>trivial
 | s::ss,e,h=>by
  rw[List.reverse_cons];obtain⟨i1,i2⟩:=ChS.le h.2;exact Fe (ChS.rev h.2) (λt ht=>(i2 t (List.mem_reverse.mp ht)).1) i1
theorem abr{s:Sp2}(h:¬ (s.1.st:Int)<s.2):mid s=tgt s:=by
 unfold mid tgt;by_cases q:s.2<(s.1.st:Int)
 ·rw[zS q]
 ·rw[yB q];have:s.2.toNat=s.1.st:=by lia
  rw[this]
  rfl
theorem Ma{n:Nat}(L:List Sp2):∀(D:List Rw)(b:Int),(eU n D:Int)=b->ChD b L->(L.map (·.1)).Pairwise (λr s=>s.st+s.sz<=r.st)->(∀s∈L,0<=s.2)->(∀s∈L,0<s.1.pn->s.2=(s.1.st:Int)) ->
  WOk n ((L.map mid).reverse++D) (rm L)/\bF ((L.map mid).reverse++D) (rm L)=(L.map tgt).reverse++D/\cJ ((L.map mid).reverse++D) (rm L)=szN (mr L):=by
 induction L with
 | nil=>intro D b _ _ _ _ _;exact⟨trivial,rfl,rfl⟩
 | cons s L ih =>
  intro D b he ch pw nn pin;obtain⟨p1,p2⟩:=mN.mp (show ((s.1::L.map (·.1)).Pairwise (λr s=>s.st+s.sz<=r.st)) from pw);have h0:=nn s (.head _);have hc:=ch.1;have i:=ih (tgt s::D) s.2 (by show ((s.2.toNat:Nat):Int)=s.2;lia) ch.2 p2 (λs hs=>nn s (.tail _ hs)) (λs hs=>pin s (.tail _ hs));rw[oS,oS,List.reverse_cons,List.reverse_cons,vS,vS,List.singleton_append,List.singleton_append];by_cases q:(s.1.st:Int)<s.2
  ·have hm:mid s=s.1:=yB (by lia);have hl:L.length=(L.map mid).reverse.length:=by simp
   rw[show rm (s::L)=(L.length,s.1.nm,s.2.toNat)::rm L by rw[rm,zS q],hm];have hmv:mvT ((L.map mid).reverse++s.1::D) L.length s.2.toNat=(L.map mid).reverse++tgt s::D:=by rw[hl,Cw];rfl
   have hat:((L.map mid).reverse++s.1::D)[L.length]?=some s.1:=by rw[hl];exact Cy _ _ _
   refine⟨⟨⟨s.1,hat,rfl,?_,?_,?_⟩,?_⟩,?_,?_⟩
   ·have:=pin s (.head _)
    lia
   ·show gB ((L.map mid).reverse++s.1::D) L.length<=s.2.toNat;rw[hl,Cz];cases L with
    | nil=>exact Nat.zero_le _
    | cons t L =>
     rw[oS,List.reverse_cons,jm];have a1:=p1 t.1 (by simp);have a2:=ch.2.1;have a3:=nn t (by simp);unfold mid;split
     ·show t.2.toNat+t.1.sz<=_;lia
     ·show t.1.st+t.1.sz<=_;lia
   ·show s.2.toNat+s.1.sz<=cW n ((L.map mid).reverse++s.1::D) L.length;rw[hl,uR];cases D with
    | nil=>simp only[eU] at he;show s.2.toNat+s.1.sz<=n;lia
    | cons t D=>simp only[eU] at he;show s.2.toNat+s.1.sz<=t.st;lia
   ·show WOk n (mvT ((L.map mid).reverse++s.1::D) L.length s.2.toNat) _;rw[hmv];exact i.1
   ·show bF (mvT ((L.map mid).reverse++s.1::D) L.length s.2.toNat) _=_;rw[hmv];exact i.2.1
   ·show wPr ((L.map mid).reverse++s.1::D) (L.length,s.1.nm,s.2.toNat)+cJ (mvT ((L.map mid).reverse++s.1::D) L.length s.2.toNat) _=_;rw[hmv,i.2.2];have e1:wPr ((L.map mid).reverse++s.1::D) (L.length,s.1.nm,s.2.toNat)=s.1.sz:=by
     simp only[wPr,hat];rw[yB (by lia)]
    rw[e1];unfold mr szN;rw[List.filter_cons_of_pos (by simpa using q),List.map_cons,List.sum_cons]
  ·rw[show rm (s::L)=rm L by rw[rm,yB q],abr q];refine⟨i.1,i.2.1,?_⟩;rw[i.2.2];unfold mr;rw[List.filter_cons_of_neg (by simpa using q)]
def eV(L:List Sp2):List Mv:=lm 0 L++rm L.reverse
theorem Fg{n:Nat}{L:List Sp2}(ch:ChS n 0 L)(ok:OkA 0 n (L.map (·.1)))(pin:∀s∈L,0<s.1.pn->s.2=(s.1.st:Int)) :
  WOk n (L.map (·.1)) (eV L)/\cJ (L.map (·.1)) (eV L)=szN (ml L)+szN (mr L.reverse):=by
 have a:=L_ L [] 0 (Int.le_refl _) ch ok pin;have c:=ChS.le ch;have b:=Ma (n:=n) L.reverse [] n rfl (ChS.rev ch) (by rw[List.map_reverse];exact List.pairwise_reverse.mpr ok.asc) (λs hs=>(c.2 s (List.mem_reverse.mp hs)).1) (λs hs=>pin s (List.mem_reverse.mp hs));rw[List.map_reverse,List.reverse_reverse,mI] at b;simp only[List.nil_append,List.length_nil] at a;unfold eV;refine⟨LQ a.1 (by rw[a.2.1];exact b.1),?_⟩;rw[LR,a.2.1,a.2.2,b.2.2]
theorem Uc(L:List Sp2):mr L.reverse=(mr L).reverse:=List.filter_reverse ..
theorem aeM(L:List Sp2):∀k,(lm k L).map (λm=>(m.2.1,((m.2.2:Nat):Int)))=(ml L).map λs=>(s.1.nm,((s.2.toNat:Nat):Int)):=by
 induction L with
 | nil=>intro k;rfl
 | cons s L ih =>
  intro k;unfold ml;by_cases q:s.2<(s.1.st:Int)
  ·rw[lm,if_pos q,List.filter_cons_of_pos (by simpa using q),List.map_cons,List.map_cons,ih];rfl
  ·rw[lm,if_neg q,List.filter_cons_of_neg (by simpa using q),ih];rfl
theorem aeN(L:List Sp2):(rm L).map (λm=>(m.2.1,((m.2.2:Nat):Int)))=(mr L).map λs=>(s.1.nm,((s.2.toNat:Nat):Int)):=by
 induction L with
 | nil=>rfl
 | cons s L ih =>
  unfold mr;by_cases q:(s.1.st:Int)<s.2
  ·rw[rm,if_pos q,List.filter_cons_of_pos (by simpa using q),List.map_cons,List.map_cons,ih];rfl
  ·rw[rm,if_neg q,List.filter_cons_of_neg (by simpa using q),ih];rfl
def kO(L:List Sp2):List Sp2:=ml L++(mr L).reverse
theorem Fi{L:List Sp2}(nn:∀s∈L,0<=s.2):(eV L).map (λm=>(m.2.1,((m.2.2:Nat):Int)))=(kO L).map λs=>(s.1.nm,s.2):=by
 unfold eV kO;rw[List.map_append,aeM,aeN,Uc,<- List.map_append];refine List.map_congr_left λs hs=>?_
 have:0<=s.2:=nn s (by
  rcases wS.mp hs with hs|hs
  ·exact(List.mem_filter.mp hs).1
  ·exact(List.mem_filter.mp (List.mem_reverse.mp hs)).1)
 congr 1
 lia
end M87
namespace M75
open L2 M82 M87
def bD:List (Rw×Int)->Int->Option Int
 | [],x=>if x<=0 then some 0 else none
 | (r,g)::t,x=>if x<=0 then some 0 else if 0<r.pn then none else (bD t (x-g)).map λy=>(r.sz:Int)+y
theorem dJ{bs:List (Rw×Int)}{x:Int}(h:x<=0):bD bs x=some 0:=by
 cases bs with
 | nil=>unfold bD;rw[if_pos h]
 | cons c t=>obtain⟨r,g⟩:=c;unfold bD;rw[if_pos h]
def mC(n:Nat):Nat->List Rw->List Int
 | e,[]=>[(n:Int)-(e:Int)]
 | e,r::t=>((r.st:Int)-(e:Int))::mC n (r.st+r.sz) t
def edR:List Rw->Nat
 | []=>0
 | r::_=>r.st+r.sz
def rg(n:Nat):List Rw->List (Rw×Int)
 | []=>[]
 | r::D=>(r,(eU n D:Int)-((r.st:Int)+(r.sz:Int)))::rg n D
def lg:List Rw->List (Rw×Int)
 | []=>[]
 | r::D=>(r,(r.st:Int)-(edR D:Int))::lg D
theorem Mf(n e:Nat)(t:List Rw):mC n e t=((eU n t:Int)-(e:Int))::(mC n e t).tail:=by cases t <;> rfl
theorem Ud(n:Nat):∀(t:List Rw)(e:Nat),t.zip (mC n e t).tail=rg n t
 | [],_=>rfl
 | r::t,e=>by
  show (r::t).zip (mC n (r.st+r.sz) t)=_;rw[Mf,List.zip_cons_cons,Ud n t];show (r,(eU n t:Int)-((r.st+r.sz:Nat):Int))::rg n t=_;rw[Int.natCast_add]
  rfl
theorem Mg(n:Nat):∀(g:Nat)(t:List Rw)(e:Nat),(t.drop g).zip ((mC n e t).drop (g+1))=rg n (t.drop g)
 | 0,t,e=>by rw[List.drop_zero,List.drop_one];exact Ud n t e
 | g+1,[],e=>by simp[rg]
 | g+1,r::t,e=>Mg n g t (r.st+r.sz)
def yd:Nat->List Rw->List Int
 | _,[]=>[]
 | e,r::t=>((r.st:Int)-(e:Int))::yd (r.st+r.sz) t
def kW:Nat->List Rw->Nat
 | e,[]=>e
 | _,r::t=>kW (r.st+r.sz) t
theorem zf(n:Nat):∀(t:List Rw)(e g:Nat),g<=t.length->(mC n e t).take g=yd e (t.take g)
 | t,e,0,_=>by rw[List.take_zero,List.take_zero];rfl
 | [],_,g+1,h=>absurd h (by simp)
 | r::t,e,g+1,h=>by
  show ((r.st:Int)-(e:Int))::(mC n (r.st+r.sz) t).take g=_;rw[zf n t _ g (by simpa using h)]
  rfl
theorem zj(r:Rw):∀(t:List Rw)(e:Nat),yd e (t++[r])=yd e t++[(r.st:Int)-(kW e t:Int)]
 | [],_=>rfl
 | s::t,e=>by
  show _::yd _ (t++[r])=_;rw[zj r t]
  rfl
theorem Fj:∀(t:List Rw)(e:Nat),(yd e t).length=t.length
 | [],_=>rfl
 | _::t,_=>by show (yd _ t).length+1=_;rw[Fj t];rfl
theorem ni(r:Rw):∀(t:List Rw)(e:Nat),kW e (t++[r])=r.st+r.sz
 | [],_=>rfl
 | _::t,_=>ni r t _
theorem CG(t:List Rw):edR t.reverse=kW 0 t:=by
 rcases List.eq_nil_or_concat t with rfl|⟨s,r,rfl⟩
 ·rfl
 ·rw[List.concat_eq_append,List.reverse_append,ni];rfl
theorem abt{P:List Rw->Prop}(t:List Rw)(h0:P [])(h1:∀s r,P s->P (s++[r])):P t:=by
 have:∀k (t:List Rw),t.length=k->P t:=by
  intro k
  induction k with
  | zero=>intro t h;rw[List.eq_nil_of_length_eq_zero h];exact h0
  | succ k ih =>
   intro t h;rcases List.eq_nil_or_concat t with rfl|⟨s,r,rfl⟩
   ·exact h0
   ·rw[List.concat_eq_append] at h ⊢;exact h1 s r (ih s (by simpa using h))
 exact this _ t rfl
theorem abu(t:List Rw):(t.zip (yd 0 t)).reverse=lg t.reverse:=by
 refine abt (P:=λt=>(t.zip (yd 0 t)).reverse=lg t.reverse) t rfl λs r ih=>?_
 show ((s++[r]).zip (yd 0 (s++[r]))).reverse=lg (s++[r]).reverse;rw[zj,List.zip_append (Fj s 0).symm,List.reverse_append,ih,List.reverse_append];show (r,(r.st:Int)-(kW 0 s:Int))::lg s.reverse=(r,(r.st:Int)-(edR s.reverse:Int))::lg s.reverse;rw[CG]
theorem Yb(n:Nat){t:List Rw}{g:Nat}(h:g<=t.length):((t.take g).zip ((mC n 0 t).take g)).reverse=lg (t.take g).reverse:=by
 rw[zf n t 0 g h];exact abu _
theorem Mh(n:Nat):∀(t:List Rw)(g e:Nat),g<=t.length->(mC n e t)[g]?=some ((eU n (t.drop g):Int)-(kW e (t.take g):Int))
 | t,0,e,_=>by rw[Mf];rfl
 | [],g+1,_,h=>absurd h (by simp)
 | r::t,g+1,e,h=>by
  show (mC n _ t)[g]?=_;rw[Mh n t g _ (by simpa using h)]
  rfl
def rgt(n:Nat):List Rw->Int->List Sp2
 | [],_=>[]
 | r::D,y=>(r,(r.st:Int)+max y 0)::rgt n D (y-((eU n D:Int)-((r.st:Int)+(r.sz:Int))))
def lft:List Rw->Int->List Sp2
 | [],_=>[]
 | r::D,x=>(r,(r.st:Int)-max x 0)::lft D (x-((r.st:Int)-(edR D:Int)))
def tgs(n g:Nat)(x y:Int)(rs:List Rw):List Sp2:=(lft (rs.take g).reverse x).reverse++rgt n (rs.drop g) y
theorem g_{r:Rw}{g x:Int}{t:List (Rw×Int)}(h:bD ((r,g)::t) x≠none)(g0:0<=g):bD t (x-g)≠none/\(0<x->r.pn=0):=by
 by_cases hx:x<=0
 ·exact⟨by rw[dJ (by lia)];simp,λz=>by lia⟩
 ·unfold bD at h;rw[yB hx] at h;by_cases hp:0<r.pn
  ·rw[zS hp] at h;exact gL rfl h
  ·rw[yB hp] at h;refine⟨λz=>?_,λ_=>by lia⟩;rw[z] at h;exact h rfl
theorem gH{x:Int}(h:bD [] x≠none):x<=0:=by
 by_cases hx:x<=0
 ·exact hx
 ·unfold bD at h;rw[yB hx] at h;exact gL rfl h
theorem uT{n e:Nat}{r:Rw}{D:List Rw}(h:OkA e n (r::D)):r.st+r.sz<=eU n D:=by
 cases D with
 | nil=>exact h.hd.2.2
 | cons s D=>exact h.tail.hd.1
theorem Fl{b:Nat}{r:Rw}{D:List Rw}(h:OkD b (r::D)):edR D<=r.st:=by
 cases D with
 | nil=>exact Nat.zero_le _
 | cons s D=>exact(h.tail.bd s zC).2
theorem Ue{n:Nat}:∀(D:List Rw)(lo:Nat)(y e:Int),OkA lo n D->bD (rg n D) y≠none->e<=(eU n D:Int)+max y 0->ChS n e (rgt n D y)
 | [],_,y,e,_,h,l=>by
  have:=gH h;show e<=(n:Int);have l:e<=(n:Int)+max y 0:=l
  lia
 | r::D,lo,y,e,ok,h,l=>by
  have b:=uT ok;have c:=g_ h (by lia);refine⟨l,Ue D _ _ _ ok.tail c.1 ?_⟩;show (r.st:Int)+max y 0+(r.sz:Int)<=_
  lia
theorem Ug:∀(D:List Rw)(b:Nat)(x:Int),OkD b D->bD (lg D) x≠none->ChS ((edR D:Int)-max x 0) 0 (lft D x).reverse
 | [],_,x,_,h=>by
  have:=gH h;show (0:Int)<=((0:Nat):Int)-max x 0
  lia
 | r::D,b,x,ok,h=>by
  have e:=Fl ok;have c:=g_ h (by lia);show ChS _ 0 (((r,(r.st:Int)-max x 0)::lft D _).reverse);rw[List.reverse_cons];refine ChS.app (Ug D _ _ ok.tail c.1) ⟨?_,?_⟩
  ·show (edR D:Int)-max _ 0<=(r.st:Int)-max x 0
   lia
  ·show (r.st:Int)-max x 0+(r.sz:Int)<=((r.st+r.sz:Nat):Int)-max x 0
   lia
theorem lQ{e n:Nat}:∀{A B:List Rw},OkA e n (A++B)->OkA e n A/\OkA (kW e A) n B
 | [],B,h=>⟨.nil,h⟩
 | r::A,B,h=>by
  have t:=lQ (A:=A) h.tail;exact⟨OkA.cons h.hd t.1,t.2⟩
theorem Fp{e n:Nat}(h:e<=n):∀{A B:List Rw},OkA e n (A++B)->kW e A<=eU n B
 | [],[],_=>h
 | [],s::_,ok=>ok.hd.1
 | r::A,B,ok=>Fp ok.hd.2.2 (A:=A) ok.tail
theorem abv{n g:Nat}{x y:Int}{rs:List Rw}(ok:OkA 0 n rs)(hx:bD (lg (rs.take g).reverse) x≠none)(hy:bD (rg n (rs.drop g)) y≠none):ChS n 0 (tgs n g x y rs):=by
 have ok2:OkA 0 n (rs.take g++rs.drop g):=by rw[jS];exact ok
 obtain⟨o1,o2⟩:=lQ ok2;have l:=Fp (Nat.zero_le n) ok2;refine ChS.app (Ug _ _ _ o1.rev hx) (Ue _ _ _ _ o2 hy ?_);rw[CG]
 lia
theorem Mi(n:Nat):∀(D:List Rw)(y:Int),(rgt n D y).map (·.1)=D
 | [],_=>rfl
 | r::D,y=>by show r::(rgt n D _).map (·.1)=_;rw[Mi n D]
theorem Mj:∀(D:List Rw)(x:Int),(lft D x).map (·.1)=D
 | [],_=>rfl
 | r::D,x=>by show r::(lft D _).map (·.1)=_;rw[Mj D]
theorem Yc(n g:Nat)(x y:Int)(rs:List Rw):(tgs n g x y rs).map (·.1)=rs:=by
 unfold tgs;rw[List.map_append,List.map_reverse,Mj,Mi,List.reverse_reverse,jS]
theorem Ml{n:Nat}:∀(D:List Rw)(lo:Nat)(y:Int),OkA lo n D->bD (rg n D) y≠none->∀s∈rgt n D y,0<s.1.pn->s.2=(s.1.st:Int)
 | [],_,_,_,_=>λ_ h=>by cases h
 | r::D,lo,y,ok,h=>λs hs hp=>by
  have b:=uT ok;have c:=g_ h (by lia);rcases vT.mp hs with rfl|hs
  ·have:¬ 0<y:=λz=>by have:=c.2 z;have hp:0<r.pn:=hp;lia
   show (r.st:Int)+max y 0=r.st
   lia
  ·exact Ml D _ _ ok.tail c.1 s hs hp
theorem Mp:∀(D:List Rw)(b:Nat)(x:Int),OkD b D->bD (lg D) x≠none->∀s∈lft D x,0<s.1.pn->s.2=(s.1.st:Int)
 | [],_,_,_,_=>λ_ h=>by cases h
 | r::D,b,x,ok,h=>λs hs hp=>by
  have e:=Fl ok;have c:=g_ h (by lia);rcases vT.mp hs with rfl|hs
  ·have:¬ 0<x:=λz=>by have:=c.2 z;have hp:0<r.pn:=hp;lia
   show (r.st:Int)-max x 0=r.st
   lia
  ·exact Mp D _ _ ok.tail c.1 s hs hp
theorem Yd{n g:Nat}{x y:Int}{rs:List Rw}(ok:OkA 0 n rs)(hx:bD (lg (rs.take g).reverse) x≠none)(hy:bD (rg n (rs.drop g)) y≠none):∀s∈tgs n g x y rs,0<s.1.pn->s.2=(s.1.st:Int):=λs hs hp=>by
 have ok2:OkA 0 n (rs.take g++rs.drop g):=by rw[jS];exact ok
 obtain⟨o1,o2⟩:=lQ ok2;rcases wS.mp hs with hs|hs
 ·exact Mp _ _ _ o1.rev hx s (List.mem_reverse.mp hs) hp
 ·exact Ml _ _ _ o2 hy s hs hp
theorem Uh{n:Nat}:∀(D:List Rw)(y:Int),∀s∈rgt n D y,(s.1.st:Int)<=s.2
 | [],_=>λ_ h=>by cases h
 | r::D,y=>λs hs=>by
  rcases vT.mp hs with rfl|hs
  ·show (r.st:Int)<=(r.st:Int)+max y 0
   lia
  ·exact Uh D _ s hs
theorem Ui:∀(D:List Rw)(x:Int),∀s∈lft D x,s.2<=(s.1.st:Int)
 | [],_=>λ_ h=>by cases h
 | r::D,x=>λs hs=>by
  rcases vT.mp hs with rfl|hs
  ·show (r.st:Int)-max x 0<=(r.st:Int)
   lia
  ·exact Ui D _ s hs
theorem Mq(n g:Nat)(x y:Int)(rs:List Rw):kO (tgs n g x y rs)=(ml (lft (rs.take g).reverse x)).reverse++(mr (rgt n (rs.drop g) y)).reverse:=by
 have a:ml (rgt n (rs.drop g) y)=[]:=List.filter_eq_nil_iff.mpr λs hs=>by have:=Uh _ _ s hs;simp;lia
 have b:mr (lft (rs.take g).reverse x)=[]:=List.filter_eq_nil_iff.mpr λs hs=>by have:=Ui _ _ s hs;simp;lia
 unfold kO tgs;rw[show ml ((lft (rs.take g).reverse x).reverse++rgt n (rs.drop g) y)=ml (lft (rs.take g).reverse x).reverse++ml (rgt n (rs.drop g) y) from List.filter_append ..,show mr ((lft (rs.take g).reverse x).reverse++rgt n (rs.drop g) y)=mr (lft (rs.take g).reverse x).reverse++mr (rgt n (rs.drop g) y) from List.filter_append ..,Uc,a,b,mI,List.reverse_nil,List.nil_append]
 congr 1
 exact List.filter_reverse ..
theorem uU:∀(D:List Rw)(b:Nat)(x:Int),OkD b D->x<=0->ml (lft D x)=[]
 | [],_,_,_,_=>rfl
 | r::D,b,x,ok,h=>by
  have e:=Fl ok;show List.filter _ ((r,(r.st:Int)-max x 0)::lft D _)=[];rw[List.filter_cons_of_neg (by simp;lia)];exact uU D _ _ ok.tail (by lia)
theorem Fq{r:Rw}{D:List Rw}{x:Int}(h:0<x):ml (lft (r::D) x)=(r,(r.st:Int)-x)::ml (lft D (x-((r.st:Int)-(edR D:Int)))):=by
 show List.filter _ ((r,(r.st:Int)-max x 0)::lft D _)=_;rw[List.filter_cons_of_pos (by simp;lia),Int.max_eq_left (by lia)]
 rfl
theorem uV{n:Nat}:∀(D:List Rw)(lo:Nat)(y:Int),OkA lo n D->y<=0->mr (rgt n D y)=[]
 | [],_,_,_,_=>rfl
 | r::D,lo,y,ok,h=>by
  have b:=uT ok;show List.filter _ ((r,(r.st:Int)+max y 0)::rgt n D _)=[];rw[List.filter_cons_of_neg (by simp;lia)];exact uV D _ _ ok.tail (by lia)
theorem Ft{n:Nat}{r:Rw}{D:List Rw}{y:Int}(h:0<y):mr (rgt n (r::D) y)=(r,(r.st:Int)+y)::mr (rgt n D (y-((eU n D:Int)-((r.st:Int)+(r.sz:Int))))):=by
 show List.filter _ ((r,(r.st:Int)+max y 0)::rgt n D _)=_;rw[List.filter_cons_of_pos (by simp;lia),Int.max_eq_left (by lia)]
 rfl
def cap:List (Rw×Int)->Int
 | []=>0
 | (r,g)::t=>if 0<r.pn then 0 else g+cap t
def air(n:Nat):Int->Nat->List Rw->List Int
 | a,e,[]=>[a+((n:Int)-(e:Int))]
 | a,e,r::t=>(a+(((r.st:Int)-(e:Int))+cap (rg n (r::t))))::air n (if 0<r.pn then 0 else a+((r.st:Int)-(e:Int))) (r.st+r.sz) t
theorem Fv{e n:Nat}:∀{A B:List Rw},OkA e n A->OkA (kW e A) n B->OkA e n (A++B)
 | [],_,_,h=>h
 | _::_,_,h,g=>OkA.cons h.hd (Fv h.tail g)
theorem abw{e e' n:Nat}:∀{B:List Rw},OkA e n B->e'<=eU n B->OkA e' n B
 | [],_,_=>.nil
 | _::_,h,l=>OkA.cons ⟨l,h.hd.2⟩ h.tail
theorem PJ(t:List Rw):Ua t=kW 0 t:=by
 rcases List.eq_nil_or_concat t with rfl|⟨s,r,rfl⟩
 ·rfl
 ·rw[List.concat_eq_append,jm,ni]
theorem CJ{T:List Rw}{k:Nat}{r:Rw}(h:T[k]?=some r):T=T.take k++r::T.drop (k+1)/\(T.take k).length=k:=by
 obtain⟨hk,e⟩:=qA.mp h;refine⟨?_,by rw[oQ];lia⟩;rw[<- e,<- List.drop_eq_getElem_cons hk,jS]
theorem JH{T:List Rw}{k to:Nat}{r:Rw}(h:T[k]?=some r):mvT T k to=T.take k++fQ r to::T.drop (k+1):=by
 obtain⟨e,l⟩:=CJ h;have:=Cw (T.take k) r (T.drop (k+1)) to;rw[<- e,l] at this;exact this
theorem aeO{n:Nat}{T:List Rw}{k to:Nat}{r:Rw}(ok:OkA 0 n T)(h:T[k]?=some r)(lo:gB T k<=to)(hi:to+r.sz<=cW n T k):OkA 0 n (mvT T k to):=by
 obtain⟨e,l⟩:=CJ h;have lw:=Cz (T.take k) r (T.drop (k+1));have hg:=uR n (T.take k) r (T.drop (k+1));rw[<- e,l] at lw hg;rw[lw,PJ] at lo;have ok2:=ok;rw[e] at ok2;obtain⟨o1,o2⟩:=lQ ok2;have hb:to+r.sz<=eU n (T.drop (k+1)):=by
  rw[hg] at hi;cases hd:T.drop (k+1) with
  | nil=>rw[hd] at hi;exact hi
  | cons s D=>rw[hd] at hi;exact hi
 have hn:eU n (T.drop (k+1))<=n:=by
  cases hd:T.drop (k+1) with
  | nil=>exact uC _
  | cons s D=>rw[hd] at o2;have:=o2.tail.hd.2;show s.st<=n;lia
 rw[JH h];exact Fv o1 (OkA.cons ⟨lo,o2.hd.2.1,by show to+r.sz<=n;lia⟩ (abw o2.tail hb))
theorem Zj{T:List Rw}{k to:Nat}{r:Rw}(h:T[k]?=some r):(mvT T k to).map (·.nm)=T.map (·.nm):=by
 obtain⟨e,l⟩:=CJ h;rw[JH h]
 conv=>rhs;rw[e]
 rw[List.map_append,List.map_append]
 rfl
theorem Ye{T:List Rw}{k to:Nat}{r:Rw}(nd:(T.map (·.nm)).Nodup)(h:T[k]?=some r):(T.filter (λs=>decide (s.nm≠r.nm))++[fQ r to]).Perm (mvT T k to):=by
 obtain⟨e,l⟩:=CJ h;rw[JH h];have nd2:=nd;rw[e,List.map_append,List.nodup_append] at nd2;obtain⟨n1,n2,n3⟩:=nd2;have n4:=(List.nodup_cons.mp (show (r.nm::(T.drop (k+1)).map (·.nm)).Nodup from n2)).1;have f:T.filter (λs=>decide (s.nm≠r.nm))=T.take k++T.drop (k+1):=by
  conv=>lhs;rw[e]
  rw[List.filter_append,List.filter_cons_of_neg (by simp)]
  congr 1
  ·exact List.filter_eq_self.mpr λs hs=>gX λz=>n3 _ (List.mem_map_of_mem hs) _ zC z
  ·exact List.filter_eq_self.mpr λs hs=>gX λz=>n4 (z▸List.mem_map_of_mem (f:=λr:Rw=>r.nm) hs)
 rw[f,vS];exact List.Perm.append_left _ List.perm_append_comm
end M75
namespace K76
open PySem L2 PyProof.Rows
def top(i:Nat):Stmt:=PySem.Challenge.pw_slideroom_k76_whole_no_slides_cheaper.main.body.getD i (.Pass ⟨0,0,0,0⟩)
abbrev nj:Stmt:=top 21
theorem rN:aJ ["thing"] ["thing"] (aA nj):=scz
abbrev qH:Stmt:=top 22
theorem uW:aJ ["thing","low"] ["thing","low"] (aA qH):=scz
abbrev kY:Stmt:=top 23
theorem o_:aJ ["thing","low","high"] ["thing","low","high"] (aA kY):=scz
abbrev qI:Stmt:=top 24
theorem uX:aJ ["thing"] ["thing"] (aA qI):=scz
abbrev qJ:Stmt:=top 25
theorem uY:aJ ["thing"] ["thing"] (aA qJ):=scz
abbrev uZ:Stmt:=top 27
theorem zp:aJ ["stretch"] ["stretch"] (aA uZ):=scz
abbrev u5:Stmt:=top 36
theorem zq:aJ ["thing"] ["thing"] (aA u5):=scz
abbrev nu:Stmt:=top 37
theorem rO:aJ ["row"] ["row"] (aA nu):=scz
abbrev nA:Stmt:=top 38
theorem rP:aJ ["many","row","ahead","other"] ["many","row","ahead"] (aA nA):=scz
abbrev kZ:Stmt:=top 39
theorem pB:aJ ["many","rows","at"] ["many","rows"] (aA kZ):=scz
abbrev CK:Stmt:=top 28
theorem Fw:aJ ["one","other"] ["one","other"] (aA CK):=scz
abbrev qK:Stmt:=top 74
theorem u6:aJ ["_law_script","_law_k"] ["_law_script","_law_k"] (aA qK):=scz
abbrev Uj:Stmt:=top 75
theorem Uk:aJ ["_law_cell"] ["_law_cell"] (aA Uj):=scz
abbrev JK:Stmt:=top 76
theorem Mr:aJ ["_law_box_here","_law_many_here","_law_digit","_law_number"] ["_law_box_here","_law_many_here"] (aA JK):=scz
abbrev CN:Stmt:=top 77
theorem Fx:aJ ["_law_box_here","_law_many_here","_law_letters","_law_tail","_law_first","_law_names_here","_law_k","_law_name"] ["_law_box_here","_law_many_here"] (aA CN):=scz
abbrev JL:Stmt:=top 79
theorem Ms:aJ ["_law_box_here"] ["_law_box_here"] (aA JL):=scz
abbrev JM:Stmt:=top 78
theorem Mt:aJ ["_law_box_here","_law_many_here","_law_most","_law_names_here","_law_pinned","_law_rows_here","_law_at","_law_k","_law_left","_law_near","_law_far","_law_gap","_law_wide","_law_size","_law_pins"] ["_law_box_here","_law_many_here"] (aA JM):=scz
abbrev CQ:Stmt:=top 80
theorem pC:aJ ["_law_box_here","_law_some","_law_left","_law_found"] ["_law_box_here","_law_some"] (aA CQ):=scz
abbrev u9:Stmt:=top 44
theorem zu:aJ ["thing"] ["thing"] (aA u9):=scz
abbrev qL:Stmt:=top 45
theorem u_:aJ ["layout","name","to","blocks","at","least","behind"] ["layout","name","to"] (aA qL):=scz
abbrev vd:Stmt:=top 46
theorem zx:aJ ["layout","name","to","moved_ahead","block"] ["layout","name","to","moved_ahead"] (aA vd):=scz
abbrev JN:Stmt:=top 47
theorem Mu:aJ ["layout","moves","steps","name","to","moved_ahead"] ["layout","moves"] (aA JN):=scz
abbrev JQ:Stmt:=top 49
theorem Mw:aJ ["layout","moves"] ["layout","moves"] (aA JQ):=scz
abbrev vf:Stmt:=top 52
theorem zy:aJ ["layout","gaps","behind","block"] ["layout"] (aA vf):=scz
abbrev CT:Stmt:=top 53
theorem Fy:aJ ["size"] ["size"] (aA CT):=scz
abbrev vg:Stmt:=top 54
theorem zA:aJ ["block","beyond","cells","size","row","longer","price"] ["block","beyond","cells","size"] (aA vg):=scz
abbrev JR:Stmt:=top 55
theorem Mx:aJ ["layout","size","gaps","table","at","block"] ["layout","size"] (aA JR):=scz
abbrev CV:Stmt:=top 56
theorem Fz:aJ ["layout","size","gaps","blocks","falling","at"] ["layout","size"] (aA CV):=scz
abbrev vh:Stmt:=top 57
theorem zB:aJ ["layout","size"] ["layout","size"] (aA vh):=scz
abbrev qM:Stmt:=top 58
theorem vm:aJ ["layout","first","behind"] ["layout","first","behind"] (aA qM):=scz
abbrev CW:Stmt:=top 59
theorem FJ:aJ ["layout","first","behind"] ["layout","first","behind"] (aA CW):=scz
abbrev k_:Stmt:=top 60
theorem pD:aJ ["layout","stretches","first","block"] ["layout"] (aA k_):=scz
abbrev CZ:Stmt:=top 65
theorem FN:aJ ["size"] ["size"] (aA CZ):=scz
abbrev qN:Stmt:=top 66
theorem vo:aJ ["gap","cells","size","left","right","choices","by","at_right"] ["gap","cells","size","left","right"] (aA qN):=scz
abbrev C_:Stmt:=top 67
theorem FP:aJ ["layout","size","tables","choices","gap","cells"] ["layout","size"] (aA C_):=scz
abbrev vp:Stmt:=top 68
theorem zE:aJ ["layout","gap","by","blocks","gaps","moves","at"] ["layout","gap","by"] (aA vp):=scz
abbrev qO:Stmt:=top 69
theorem vq:aJ ["layout","gap","by","blocks","gaps","moves","at"] ["layout","gap","by"] (aA qO):=scz
abbrev vA:Stmt:=top 70
theorem zF:aJ ["layout","gap","start"] ["layout","gap"] (aA vA):=scz
abbrev JT:Stmt:=top 71
theorem Mz:aJ ["layout","size","choice","gap","at_right","moves"] ["layout","size"] (aA JT):=scz
abbrev Dc:Stmt:=top 81
theorem FQ:aJ ["_law_many_here","_law_rows_here","_law_k","_law_low","_law_high"] ["_law_many_here","_law_rows_here","_law_k"] (aA Dc):=scz
abbrev vB:Stmt:=top 82
theorem zG:aJ ["_law_box_here","_law_many_here","_law_rows_here","_law_k","_law_low","_law_high","_law_some"] ["_law_box_here","_law_many_here","_law_rows_here","_law_k"] (aA vB):=scz
abbrev vC:Stmt:=top 83
theorem zH:aJ ["_law_box_here","_law_many_here","_law_rows_here","_law_moved","_law_pinned","_law_k","_law_low","_law_high","_law_some"] ["_law_box_here","_law_many_here","_law_rows_here","_law_moved"] (aA vC):=scz
abbrev vD:Stmt:=top 84
theorem zJ:aJ ["_law_box_here","_law_many_here","_law_rows_here","_law_moves_here","_law_k","_law_to"] ["_law_box_here","_law_many_here","_law_rows_here"] (aA vD):=scz
abbrev vG:Stmt:=top 85
theorem zK:aJ ["_law_many_here","_law_rows_here","_law_moves_here","_law_done","_law_name","_law_to","_law_some","_law_low","_law_high"] ["_law_many_here","_law_rows_here","_law_moves_here"] (aA vG):=scz
abbrev nF:Stmt:=top 86
theorem rQ:aJ ["_law_many_here","_law_rows_here","_law_ends","_law_starts"] ["_law_many_here","_law_rows_here"] (aA nF):=scz
abbrev vH:Stmt:=top 87
theorem zL:aJ ["_law_many_here","_law_rows_here","_law_moves_here","_law_size","_law_behind_here"] ["_law_many_here","_law_rows_here","_law_moves_here","_law_size"] (aA vH):=scz
abbrev vI:Stmt:=top 88
theorem zM:aJ ["_law_layout","_law_size","_law_moves_here","_law_due","_law_handed","_law_told"] ["_law_layout","_law_size","_law_moves_here","_law_due"] (aA vI):=scz
abbrev nH:Stmt:=top 89
theorem rT:aJ ["_law_box_here","_law_layout","_law_many_here","_law_rows_here","_law_size","_law_paper","_law_lap","_law_moves_here","_law_due"] ["_law_box_here","_law_layout","_law_many_here","_law_rows_here","_law_size"] (aA nH):=scz
abbrev vJ:Stmt:=top 48
theorem zN:aJ ["layout","moves"] ["layout","moves"] (aA vJ):=scz
abbrev vK:Stmt:=top 42
theorem zO:aJ ["start","size","to","rising"] ["start","size","to"] (aA vK):=scz
abbrev qP:Stmt:=top 50
theorem vL:aJ ["steps","copies","name","start","size","to"] ["steps"] (aA qP):=scz
abbrev qQ:Stmt:=top 72
theorem vM:aJ ["layout","size","moves","told"] ["layout","size","moves"] (aA qQ):=scz
abbrev qT:Stmt:=top 29
theorem vN:aJ ["stretches"] ["stretches"] (aA qT):=scz
abbrev Dd:Stmt:=top 31
theorem FT:aJ ["free","holes","size","cell","is_free"] ["free"] (aA Dd):=scz
abbrev vO:Stmt:=top 32
theorem zP:aJ ["layout","free","block","cell"] ["layout"] (aA vO):=scz
abbrev qU:Stmt:=top 33
theorem vP:aJ ["layout"] ["layout"] (aA qU):=scz
abbrev pG:Stmt:=top 90
theorem Ul:aJ ["_law_script","_law_k","_law_box_here","_law_many_here","_law_rows_here","_law_free","_law_some","_law_size","_law_layout","_law_other","_law_thing"] ["_law_script"] (aA pG):=scz
abbrev lR:Stmt:=inClass (top 40) 0
theorem FW:aJ ["self","many","rows"] ["self","many","rows"] (aA lR):=scz
abbrev qW:Stmt:=inClass (top 40) 1
theorem vQ:aJ ["self"] ["self"] (aA qW):=scz
abbrev vR:Stmt:=inClass (top 40) 2
theorem zQ:aJ ["self"] ["self"] (aA vR):=scz
abbrev vU:Stmt:=inClass (top 40) 3
theorem zR:aJ ["self","name","row"] ["self","name"] (aA vU):=scz
abbrev vV:Stmt:=inClass (top 40) 5
theorem zT:aJ ["self","name","to","row","others"] ["self","name","to"] (aA vV):=scz
abbrev Df:Stmt:=inClass (top 63) 0
theorem FZ:aJ ["self","cost","number","moves","stretch"] ["self","cost","number","moves","stretch"] (aA Df):=scz
abbrev qX:Stmt:=inClass (top 63) 1
theorem vW:aJ ["self"] ["self"] (aA qX):=scz
abbrev Dg:Stmt:=inClass (top 64) 0
theorem Ga:aJ ["self","stretches"] ["self","stretches"] (aA Dg):=scz
abbrev qY:Stmt:=inClass (top 62) 0
theorem vX:aJ ["self"] ["self"] (aA qY):=scz
abbrev vY:Stmt:=inClass (top 63) 2
theorem zU:aJ ["self"] ["self"] (aA vY):=scz
abbrev qZ:Stmt:=inClass (top 63) 5
theorem vZ:aJ ["self"] ["self"] (aA qZ):=scz
abbrev lV:Stmt:=inClass (top 7) 0
theorem Um:aJ ["self","name"] ["self","name"] (aA lV):=scz
theorem Yg{P:Program}{w:World}{K:W.Frag}{mg:xC}{base:Heap}{C:Addr}(S:Ce K C)(n0:bO K C "name"):m5 P w K mg base CX0 "Twice.__init__" lV ["self","name"] (Xe C "name"):=λf fd F=>by
 refine⟨F.ok Um (λvs H Q E h=>?_) (λcdv A outer s H vs Q E hr h=>?_),F.binds (λ_ _ _ _ _ _=>el2 λ_ _=>rfl)⟩
 ·obtain⟨x,v,rfl,_⟩:=h
  rfl
 ·obtain⟨x,v,rfl,ho,k⟩:=h;refine⟨_,aB (mY (pv 0) (pv 1)),?_⟩;exact⟨_,rfl,_,rfl,x,C,rfl,S,n0.taker,.inl ⟨ho,k⟩⟩
abbrev h_:Stmt:=inClass (top 11) 0
theorem JV:aJ ["self","name"] ["self","name"] (aA h_):=scz
theorem PK{P:Program}{w:World}{K:W.Frag}{mg:xC}{base:Heap}{C:Addr}(S:Ce K C)(n0:bO K C "name"):m5 P w K mg base CX0 "NoBlock.__init__" h_ ["self","name"] (Xe C "name"):=λf fd F=>by
 refine⟨F.ok JV (λvs H Q E h=>?_) (λcdv A outer s H vs Q E hr h=>?_),F.binds (λ_ _ _ _ _ _=>el2 λ_ _=>rfl)⟩
 ·obtain⟨x,v,rfl,_⟩:=h
  rfl
 ·obtain⟨x,v,rfl,ho,k⟩:=h;refine⟨_,aB (mY (pv 0) (pv 1)),?_⟩;exact⟨_,rfl,_,rfl,x,C,rfl,S,n0.taker,.inl ⟨ho,k⟩⟩
abbrev jo:Stmt:=inClass (top 12) 0
theorem PL:aJ ["self","name","pins"] ["self","name","pins"] (aA jo):=scz
theorem Uo{P:Program}{w:World}{K:W.Frag}{mg:xC}{base:Heap}{C:Addr}(S:Ce K C)(n0:bO K C "name")(n1:bO K C "pins"):m5 P w K mg base CX0 "Pinned.__init__" jo ["self","name","pins"] (aai C "name" "pins"):=λf fd F=>by
 refine⟨F.ok PL (λvs H Q E h=>?_) (λcdv A outer s H vs Q E hr h=>?_),F.binds (λ_ _ _ _ _ _=>el3 λ_ _ _=>rfl)⟩
 ·obtain⟨x,v,y,rfl,_⟩:=h
  rfl
 ·obtain⟨x,v,y,rfl,ho,k⟩:=h;refine⟨_,aq (mY (pv 0) (pv 1)) (aB (mY (pv 0) (pv 2))),?_⟩;refine⟨_,rfl,_,rfl,x,C,rfl,S,n0.taker,.inl ⟨ho,λdx hd=>?_⟩⟩;have hzx:dx≠x:=λq=>by rw[q,ho] at hd;cases hd
  exact⟨_,rfl,_,rfl,x,C,rfl,S,n1.taker,.inr ⟨dx,_,aV,by rw[aQ hzx,aV],hzx,by simp,k dx hd⟩⟩
abbrev iu:Stmt:=inClass (top 13) 0
theorem JW:aJ ["self","moves"] ["self","moves"] (aA iu):=scz
theorem PN{P:Program}{w:World}{K:W.Frag}{mg:xC}{base:Heap}{C:Addr}(S:Ce K C)(n0:bO K C "moves"):m5 P w K mg base CX0 "NoMoves.__init__" iu ["self","moves"] (Xe C "moves"):=λf fd F=>by
 refine⟨F.ok JW (λvs H Q E h=>?_) (λcdv A outer s H vs Q E hr h=>?_),F.binds (λ_ _ _ _ _ _=>el2 λ_ _=>rfl)⟩
 ·obtain⟨x,v,rfl,_⟩:=h
  rfl
 ·obtain⟨x,v,rfl,ho,k⟩:=h;refine⟨_,aB (mY (pv 0) (pv 1)),?_⟩;exact⟨_,rfl,_,rfl,x,C,rfl,S,n0.taker,.inl ⟨ho,k⟩⟩
abbrev iw:Stmt:=inClass (top 14) 0
theorem JX:aJ ["self","name","to"] ["self","name","to"] (aA iw):=scz
theorem PX{P:Program}{w:World}{K:W.Frag}{mg:xC}{base:Heap}{C:Addr}(S:Ce K C)(n0:bO K C "name")(n1:bO K C "to"):m5 P w K mg base CX0 "NoSlide.__init__" iw ["self","name","to"] (aai C "name" "to"):=λf fd F=>by
 refine⟨F.ok JX (λvs H Q E h=>?_) (λcdv A outer s H vs Q E hr h=>?_),F.binds (λ_ _ _ _ _ _=>el3 λ_ _ _=>rfl)⟩
 ·obtain⟨x,v,y,rfl,_⟩:=h
  rfl
 ·obtain⟨x,v,y,rfl,ho,k⟩:=h;refine⟨_,aq (mY (pv 0) (pv 1)) (aB (mY (pv 0) (pv 2))),?_⟩;refine⟨_,rfl,_,rfl,x,C,rfl,S,n0.taker,.inl ⟨ho,λdx hd=>?_⟩⟩;have hzx:dx≠x:=λq=>by rw[q,ho] at hd;cases hd
  exact⟨_,rfl,_,rfl,x,C,rfl,S,n1.taker,.inr ⟨dx,_,aV,by rw[aQ hzx,aV],hzx,by simp,k dx hd⟩⟩
class Txt(K:W.Frag)(mg:xC)(c:Nat->Addr)(R CL CP CS aC ao:Addr):Prop where
 pH:fG K mg "Twice" "Twice.__init__" lV (c 0) R
 MF:O4 K (c 0) R
 pI:bO K (c 0) "name"
 jq:fG K mg "NoBlock" "NoBlock.__init__" h_ (c 1) R
 zV:O4 K (c 1) R
 lB:bO K (c 1) "name"
 lC:fG K mg "Pinned" "Pinned.__init__" jo (c 2) R
 Gb:O4 K (c 2) R
 mL:bO K (c 2) "name"
 mO:bO K (c 2) "pins"
 jr:fG K mg "NoMoves" "NoMoves.__init__" iu (c 3) R
 zW:O4 K (c 3) R
 jU:bO K (c 3) "moves"
 jt:fG K mg "NoSlide" "NoSlide.__init__" iw (c 4) R
 zX:O4 K (c 4) R
 lD:bO K (c 4) "name"
 pJ:bO K (c 4) "to"
 v7:HasDef K mg "is_whole" nj
 zY:HasDef K mg "is_from" qH
 rW:HasDef K mg "is_within" kY
 zZ:HasDef K mg "is_many" qI
 z6:HasDef K mg "is_name" qJ
 Gd:HasDef K mg "end_of" uZ
 Ge:HasDef K mg "is_row" u5
 v8:HasDef K mg "cells_of" nu
 v9:HasDef K mg "need_row" nA
 rY:HasDef K mg "need_rows" kZ
 MJ:HasDef K mg "share_cells" CK
 z7:HasDef K mg "_law_cell_at" qK
 Zk:HasDef K mg "_law_box" Uj
 Uq:HasDef K mg "_law_take" JK
 MK:HasDef K mg "_law_names" CN
 Ur:HasDef K mg "_law_many" JL
 Us:HasDef K mg "_law_rows" JM
 Dh:HasDef K mg "_law_mixed" CQ
 Gf:HasDef K mg "is_pair" u9
 z8:HasDef K mg "is_slide" qL
 Gg:HasDef K mg "step_of" vd
 Ut:HasDef K mg "gone_through" JN
 Uu:HasDef K mg "slid" JQ
 Gh:HasDef K mg "gaps_of" vf
 MN:HasDef K mg "row_at_end" CT
 Gi:HasDef K mg "row_beside" vg
 Uv:HasDef K mg "left_prices" JR
 MP:HasDef K mg "right_prices" CV
 Gj:HasDef K mg "prices" vh
 z9:HasDef K mg "blocks_between" qM
 M4:HasDef K mg "free_between" CW
 rZ:HasDef K mg "stretches_of" k_
 M5:HasDef K mg "need_size" CZ
 Aa:HasDef K mg "choices_at" qN
 M6:HasDef K mg "least_choice" C_
 Gk:HasDef K mg "slides_to_lesser" vp
 Ab:HasDef K mg "slides_to_greater" qO
 Gm:HasDef K mg "hole_at_gap" vA
 Uw:HasDef K mg "plan" JT
 M7:HasDef K mg "_law_room" Dc
 Gn:HasDef K mg "_law_place" vB
 Gp:HasDef K mg "_law_spoilt" vC
 Gq:HasDef K mg "_law_moves" vD
 Gs:HasDef K mg "_law_behind" vG
 wg:HasDef K mg "_law_greatest" nF
 Gu:HasDef K mg "_law_price" vH
 Gv:HasDef K mg "_law_told_right" vI
 wj:HasDef K mg "_law_cheapest" nH
 Gw:HasDef K mg "gone_through_if_let" vJ
 Gx:HasDef K mg "copies_of" vK
 Ac:HasDef K mg "copies_of_steps" qP
 Ad:HasDef K mg "price_of" qQ
 Ae:HasDef K mg "largest_size" qT
 M8:HasDef K mg "holes_among" Dd
 Gy:HasDef K mg "free_among" vO
 Af:HasDef K mg "holes_of" qU
 bY:mg "isinstance" = none
 wu:mg "int" = none
 Di:mg "bool" = none
 Zm:mg "str" = none
 fK:mg "list" = none
 Dj:mg "tuple" = none
 eE:mg "len" = none
 Ux:mg "all" = none
 cY:mg "range" = none
 Gz:mg "sorted" = none
 pK:mg "max" = none
 GC:mg "min" = none
 M9:mg "sum" = none
 iT:mg "enumerate" = none
 Uy:mg "zip" = none
 iG:mg "reversed" = none
 aeP:mg "any" = none
 Dk:mg "ValueError" = none
 Ag:mW mg "LETTERS" (.str LET)
 pL:mW mg "NAME_SIGNS" (.str SGN)
 pN:mW mg "MOST_SIGNS" (.int 8)
 lE:mW mg "FEWEST_CELLS" (.int 16)
 jM:mW mg "MOST_CELLS" (.int 240)
 mQ:mW mg "MOST_BLOCKS" (.int 40)
 g_R:mg "RoomError" = some (.ref R)
 c_R:(W.clsIn K R).isSome=true
 t_R:W.typeIn K (.ref R)=some (.type "type")
 m_R:W.mroIn K R (.type "BaseException")=some true
 clL:Cls K CL
 Ah:mg "Layout" = some (.ref CL)
 M_:bO K CL "many"
 Nb:bO K CL "rows"
 clP:Cls K CP
 Nf:mg "Plan" = some (.ref CP)
 Ng:bO K CP "cost"
 Ai:bO K CP "number"
 GD:bO K CP "moves"
 wz:bO K CP "stretch"
 clS:Cls K CS
 GF:mg "Stuck" = some (.ref CS)
 pO:bO K CS "stretches"
 Aj:W.codeHdIn K aC ao=true
 Nh:∃f,(∃fd,Fun K "__init__" "Layout.__init__" lR f fd/\fd.code=.ref aC)/\Mk K CL f
 Ak:∃f,FnAt K "blocks" "Layout.blocks" qW f/\Meth K CL "blocks" f
 GJ:∃f,FnAt K "names" "Layout.names" vR f/\Meth K CL "names" f
 GK:∃f,FnAt K "block" "Layout.block" vU f/\Meth K CL "block" f
 GP:∃f,FnAt K "moved" "Layout.moved" vV f/\Meth K CL "moved" f
 Ni:∃f,FnAt K "__init__" "Plan.__init__" Df f/\Mk K CP f
 Am:∃f,FnAt K "brings" "Plan.brings" qX f/\Meth K CP "brings" f
 Nj:∃f,FnAt K "__init__" "Stuck.__init__" Dg f/\Mk K CS f
 Ao:∃f,FnAt K "brings" "Paper.brings" qY f/\Meth K CS "brings" f
 GQ:∃f,FnAt K "price" "Plan.price" vY f/\Meth K CP "price" f
 Aq:∃f,FnAt K "slides" "Plan.slides" qZ f/\Meth K CP "slides" f
 abx:W.specialIn K (.builtin "object.__class__") "__get__" = some (some (.builtin "getset_descriptor.__get__"))
 aby:W.takesIn K (.builtin "object.__class__")=some true
 Uz:W.findIn K (.ref CP) "__class__" = some (some (.builtin "object.__class__"))
 UG:W.mroIn K CP (.type "object")=some true
 UJ:W.findIn K (.ref CS) "__class__" = some (some (.builtin "object.__class__"))
 UL:W.mroIn K CS (.type "object")=some true
section
set_option synthInstance.checkSynthOrder false
variable{K:W.Frag}{mg:xC}{c:Nat->Addr}{R CL CP CS aC ao:Addr}[T:Txt K mg c R CL CP CS aC ao]
instance:oW K CL "many":=⟨T.clL,T.M_⟩
instance:oW K CL "rows":=⟨T.clL,T.Nb⟩
instance:oW K CP "cost":=⟨T.clP,T.Ng⟩
instance:oW K CP "number":=⟨T.clP,T.Ai⟩
instance:oW K CP "moves":=⟨T.clP,T.GD⟩
instance:oW K CP "stretch":=⟨T.clP,T.wz⟩
instance:oW K CS "stretches":=⟨T.clS,T.pO⟩
end
local macro_rules|`(tactic| k_room)=>`(tactic| first
 | with_reducible assumption
 | with_unfolding_all exact rfl
 | with_unfolding_all exact Nat.le_of_ble_eq_true rfl
 | lia
 | (with_reducible refine bQ ?_;first|lia|(simp only[List.length_cons,List.length_nil,List.length_map,List.length_append,List.length_replicate,dD,List.length_take,List.length_drop,List.length_set];lia))
 | (with_reducible refine Es ?_;first|lia|(simp only[List.length_cons,List.length_nil,List.length_map,List.length_append,List.length_replicate,dD,List.length_take,List.length_drop,List.length_set];lia))
 | (simp only[List.length_cons,List.length_nil,List.length_map,List.length_append,List.length_replicate,dD,List.length_take,List.length_drop,List.length_set];lia)
 | decide)
local macro_rules|`(tactic| k_mem)=>`(tactic| first
 | with_reducible assumption
 | decide
 | lia
 | (simp only[List.length_cons,List.length_nil,List.length_map,List.length_append,List.length_replicate,dD,List.length_take,List.length_drop,List.length_set];lia))
set_option hygiene false in
local macro_rules|`(tactic| k_meth)=>`(tactic| first
 | with_reducible refine go1 ?_
 | (clear F;intro H_ a_ dx_ (F:SH _ _ _ _ _) (ex_:Jo _ _ _ _);have exA_:=ExA.mk ex_)
 | (clear F;intro H_ (F:SH _ _ _ _ _))
 | (clear F;intro H_ p_ (F:SH _ _ _ _ _))
 | (clear F;intro H_ x_ dx_ (F:SH _ _ _ _ _))
 | (clear F;intro H_ p_ ys_ l_ (F:SH _ _ _ _ _))
 | with_reducible refine sd (by k_room) ?_
 | (intro (r_:Int) (x_:Int) (y_:Int) (z_:Int) lo_ hi_)
 | (intro (x_:Int) (y_:Int))
 | (intro (c_:Int))
 | with_reducible refine Y_ (by k_mem) ?_
 | with_reducible refine Za (by k_mem) ?_
 | with_reducible refine SX (by k_mem) ?_
 | with_reducible refine S5 (by k_mem) ?_)
def wA:Sp:=λvs H Q _=>∃cs:List Nat,vs=[.str (tx cs)]/\gM cs/\∀H',Same H H'->Q (.bl true) H'
def GR:Sp:=λvs H Q _=>∃(p q:Addr)(a b c d:Int),vs=[.ref p,.ref q]/\H p=some (.tup [.int a,.int b])/\H q=some (.tup [.int c,.int d])/\Q (.bl (decide (a<c+d) && decide (c<a+b))) H
def GX:Sp:=λvs H Q _=>∃(q:Addr)(r:Rw),vs=[.ref q]/\H q=some (.tup (cB r))/\∀p H',Same H H'->H' p=some (.tup [.int (r.st:Nat),.int (r.sz:Nat)])->Q (.ref p) H'
def Ar:Sp:=λvs H Q _=>∃(q:Addr)(r:Rw),vs=[.ref q]/\H q=some (.tup (cB r))/\gM r.nm/\1<=r.sz/\∀H',Same H H'->Q (.bl true) H'
def su:Sp:=λvs H Q _=>∃(n:Nat)(q l:Addr)(r:Rw)(ys:List V)(rs:List Rw),vs=[.int (n:Nat),.ref q,.ref l]/\H q=some (.tup (cB r))/\H l=some (.lst ys)/\aD H ys (aF rs)/\GoodR n r/\(∀s∈rs,Apart s r)/\∀H',Same H H'->Q .non H'
def pP:Sp:=λvs H Q _=>∃(n:Nat)(l:Addr)(ys:List V)(rs:List Rw),vs=[.int (n:Nat),.ref l]/\H l=some (.lst ys)/\aD H ys (aF rs)/\Lay n rs/\∀H',Same H H'->Q .non H'
section
variable{H:Hp}{Q:VK}{E:XK}{cs:List Nat}{p q l:Addr}{a b c d:Int}{r:Rw}{n:Nat}{ys:List V}{rs:List Rw}
instance abA:Go (wA [.str (tx cs)] H Q E) (Sd (gM cs) (∀H',Same H H'->Q (.bl true) H')):=⟨λs=>⟨cs,rfl,s.1,s.2⟩⟩
instance aeQ[h:Hat H p (.tup [.int a,.int b])][h2:Hat H q (.tup [.int c,.int d])]:Go (GR [.ref p,.ref q] H Q E) (Q (.bl (decide (a<c+d) && decide (c<a+b))) H):=⟨λk=>⟨p,q,a,b,c,d,rfl,h.e,h2.e,k⟩⟩
instance aeR[h:Hat H q (.tup (cB r))]:Go (GX [.ref q] H Q E) (∀p H',Same H H'->H' p=some (.tup [.int (r.st:Nat),.int (r.sz:Nat)])->Q (.ref p) H'):=⟨λk=>⟨q,r,rfl,h.e,k⟩⟩
instance acM[h:Hat H q (.tup (cB r))]:Go (Ar [.ref q] H Q E) (Sd (gM r.nm/\1<=r.sz) (∀H',Same H H'->Q (.bl true) H')):=⟨λs=>⟨q,r,rfl,h.e,s.1.1,s.1.2,s.2⟩⟩
instance Zn[h:Hat H q (.tup (cB r))][h2:Hat H l (.lst ys)][t:TpA H ys (aF rs)]:Go (su [.int (n:Nat),.ref q,.ref l] H Q E) (Sd (GoodR n r/\∀s∈rs,Apart s r) (∀H',Same H H'->Q .non H')):=⟨λs=>⟨n,q,l,r,ys,rs,rfl,h.e,h2.e,t.e,s.1.1,s.1.2,s.2⟩⟩
instance Yh[h2:Hat H l (.lst ys)][t:TpA H ys (aF rs)]:Go (pP [.int (n:Nat),.ref l] H Q E) (Sd (Lay n rs) (∀H',Same H H'->Q .non H')):=⟨λs=>⟨n,l,ys,rs,rfl,h2.e,t.e,s.1,s.2⟩⟩
instance aeS{H0:Hp}{M:List Addr}{L:List (Addr×HO)}{I:List Im}{xs:List V}{Z:Addr->Hp->Prop}[F:SH H0 M H L I]:Go (∀p H',Same H H'->H' p=some (.tup xs)->Z p H') (∀H' p,SH H0 M H' L (.tup p xs::I)->Z p H'):=⟨λk p H' s e=>k H' p ((F.same s).qC e)⟩
theorem P0{i:Nat}(t:aD H ys (aF rs)):aD H (ys.take i) (aF (rs.take i)):=by
 refine⟨?_,λj r e=>?_⟩
 ·rw[aW,oQ,oQ,t.1,aW]
 ·unfold aF at e;rw[List.map_take,List.getElem?_take] at e;split at e
  ·rename_i hj;obtain⟨q,e1,e2⟩:=t.2 j r e;exact⟨q,by rw[List.getElem?_take,zS hj];exact e1,e2⟩
  ·cases e
theorem UW{i:Nat}:xV ys none (some (i:Int))=ys.take i:=by
 unfold xV;rw[HT.WT];show (ys.drop 0).take (min i ys.length-0)=_;rw[List.drop_zero,Nat.sub_zero];by_cases h:i<=ys.length
 ·rw[show min i ys.length=i by lia]
 ·rw[nV (by lia),nV (by lia)]
end
section
variable{H:Hp}{l:Addr}{x y z v:V}{r:List V}{R:Hp->Prop}
instance agy[h:Hat H l (.lst (x::r))]:Go (Eo (.ref l) (.int 0) v H R) (∀H',Off l H H'->H' l=some (.lst (v::r))->R H'):=⟨λk=>Jx h.e (j:=0) (by unfold ixN;rw[if_pos (by decide),if_pos (by simp only[List.length_cons];lia)];rfl) k⟩
def GZ:Sp:=λvs H Q _=>∃(p:Addr)(a b c m:Int),vs=[.ref p,.int m]/\H p=some (.lst [.int a,.int b,.int c])/\0<m/\m<1073741824/\∀(r a' b' c':Int)(H':Hp),0<=r->r<m->Kp p H H'->H' p=some (.lst [.int a',.int b',.int c'])->Q (.int r) H'
instance aeT{Q:VK}{E:XK}{p:Addr}{a b c m:Int}[h:Hat H p (.lst [.int a,.int b,.int c])]:Go (GZ [.ref p,.int m] H Q E) (Sd (0<m/\m<1073741824) (∀r a' b' c':Int,0<=r->r<m->∀H',Kp p H H'->H' p=some (.lst [.int a',.int b',.int c'])->Q (.int r) H')):=⟨λs=>⟨p,a,b,c,m,rfl,h.e,s.1.1,s.1.2,λr a' b' c' H' h0 h1 f e=>s.2 r a' b' c' h0 h1 H' f e⟩⟩
instance agz[h:Hat H l (.lst (x::y::z::r))]:Go (Eo (.ref l) (.int 2) v H R) (∀H',Off l H H'->H' l=some (.lst (x::y::v::r))->R H'):=⟨λk=>Jx h.e (j:=2) (by unfold ixN;rw[if_pos (by decide),if_pos (by simp only[List.length_cons];lia)];rfl) k⟩
end
section
variable{P:Program}{w:World}{K:W.Frag}{mg:xC}{base:Heap}{c:Nat->Addr}{aC ao R CL CP CS:Addr}
theorem wB(T:Txt K mg c R CL CP CS aC ao):Def P w K mg base CX0 1 "is_whole" ["thing"] (Et K):=by
 refine dA T.v7 rN λf cdv A outer s H vs Q E hr h=>?_
 obtain⟨x,n,rfl,ty,k⟩:=h;have nd:=rN.nd;refine⟨_,(aB (aL (iz (aR dO rfl T.bY boot_isinstance (aj (pv 0) (aj (j5 (T := "int") rfl T.wu boot_int) ak))) (iV (Rh (aR dO rfl T.bY boot_isinstance (aj (pv 0) (aj (j5 (T := "bool") rfl T.Di boot_bool) ak)))))))),?_⟩;clear nd ;rw[stE]
 try dsimp only[bT,bC]
 rw[aag] at k
 repeat k_meth
 refine w_is ty (B_ ty) ?_
 repeat k_meth
 refine i_b (λh=>?_) (λh=>?_)
 ·repeat k_meth
  refine w_is ty (Ca ty) ?_
  repeat k_meth
  rw[h] at k;exact k
 ·rw[h] at k;exact k
theorem ju(T:Txt K mg c R CL CP CS aC ao):Def P w K mg base CX0 2 "is_from" ["thing","low"] (m6 K):=by
 refine dA T.zY uW λf cdv A outer s H vs Q E hr h=>?_
 obtain⟨x,n,lo,rfl,ty,k⟩:=h;have nd:=uW.nd;refine⟨_,(aB (aL (iz (aG (wB T) hr (aj (pv 0) ak)) (iV (fB rG (pv 1) (pv 0) (aY _)))))),?_⟩;clear nd;rw[stE]
 try dsimp only[bT,bC]
 repeat k_meth
 refine Lq ty ?_
 repeat k_meth
 cases x with
 | int i =>
  refine i_T rfl ?_
  repeat k_meth
  exact k
 | _=>exact i_F rfl k
theorem lG(T:Txt K mg c R CL CP CS aC ao):Def P w K mg base CX0 2 "is_within" ["thing","low","high"] (gV K):=by
 refine dA T.rW o_ λf cdv A outer s H vs Q E hr h=>?_
 obtain⟨x,n,lo,hi,rfl,ty,k⟩:=h;have nd:=o_.nd;refine⟨_,(aB (aL (iz (aG (wB T) hr (aj (pv 0) ak)) (iV (Ru rG rG (pv 1) (pv 0) (pv 2)))))),?_⟩;clear nd;rw[stE]
 try dsimp only[bT,bC]
 repeat k_meth
 refine Lq ty ?_
 repeat k_meth
 cases x with
 | int i =>
  refine i_T rfl ?_
  repeat k_meth
  have k:Q (.bl (decide (lo<=i) && decide (i<=hi))) H:=k;refine d7 (λh=>?_) (λh=>?_)
  ·repeat k_meth
   rw[gX h,Bool.true_and] at k;exact k
  ·rw[gS h,Bool.false_and] at k;exact k
 | _=>exact i_F rfl k
theorem P_(T:Txt K mg c R CL CP CS aC ao):Def P w K mg base CX0 3 "is_many" ["thing"] (uM K):=by
 refine dA T.zZ uX λf cdv A outer s H vs Q E hr h=>?_
 obtain⟨x,n,rfl,ty,k⟩:=h;have nd:=uX.nd;refine⟨_,(aB (aL (aG (lG T) hr (aj (pv 0) (aj (ug T.lE) (aj (ug T.jM) ak)))))),?_⟩;clear nd;rw[stE]
 try dsimp only[bT,bC]
 repeat k_meth
 exact Eu ty k
theorem iH(T:Txt K mg c R CL CP CS aC ao):Def P w K mg base CX0 1 "end_of" ["stretch"] qz:=by
 refine dA T.Gd zp λf cdv A outer s H vs Q E hr h=>?_
 obtain⟨q,a,b,rfl,h,k⟩:=h;have nd:=zp.nd;refine⟨_,(aB (aL (aN bI (aH aZ (pv 0) au (λ_ _=>rfl)) (aH aZ (pv 0) au (λ_ _=>rfl))))),?_⟩;clear nd ;rw[stE]
 try dsimp only[bT,bC]
 have o_h:=om h;have F:=SH.n0 H
 repeat k_meth
 exact k
theorem Qa(T:Txt K mg c R CL CP CS aC ao):Def P w K mg base CX0 1 "_law_cell_at" ["_law_script","_law_k"] (uO K):=by
 refine dA T.z7 u6 λf cdv A outer s H vs Q E hr h=>?_
 obtain⟨a,ns,m,rfl,hS,m0,k⟩:=h;have nd:=u6.nd;refine⟨_,(aq (bK (aU nZ (pv 1) (aR bN rfl T.eE boot_len (aj (pv 0) ak)) (aY _)) (aB (aL (aH aO (pv 0) (pv 1) (λ_ _=>rfl)))) bf)
  (aB (aL (aN bI (aN jZ au (pv 1)) au)))),?_⟩
 clear nd ;rw[stE]
 try dsimp only[bT,bC]
 have ais:=aaU.mk (M:=[]) hS nm0;have F:=SH.n0 H
 repeat k_meth
 refine d7 (λh=>?_) (λh=>?_)
 ·repeat k_meth
  obtain⟨v,e,mm⟩:=RW (xs:=ns.map V.int) m0 h;obtain⟨c,_,rfl⟩:=jI.mp mm;exact Sy hS e (k c)
 ·repeat k_meth
  exact k _
theorem aeU(T:Txt K mg c R CL CP CS aC ao):Def P w K mg base CX0 1 "_law_box" ["_law_cell"] Cr:=by
 refine dA T.Zk Uk λf cdv A outer s H vs Q E hr h=>?_
 obtain⟨c,rfl,k⟩:=h;have nd:=Uk.nd;refine⟨_,(aB (aL (aX (aj (aN jZ (aR (gZ rfl) rfl T.pK boot_max (aj au (aj (pv 0) ak))) (dz qx rfl T.wu boot_int (aj (fB ac9 (pv 0) (aN Z0 au au) (aY _)) ak))) (aj (aN jD (pv 0) au) (aj au ak)))))),?_⟩;clear nd ;rw[stE]
 try dsimp only[bT,bC]
 have F:=SH.n0 H
 repeat k_meth
 exact k _ _ _ _ SH.nwC
theorem bJ(T:Txt K mg c R CL CP CS aC ao):Def P w K mg base CX0 1 "_law_take" ["_law_box_here","_law_many_here"] GZ:=by
 refine dA T.Uq Mr λf cdv A outer s H vs Q E hr h=>?_
 obtain⟨p,a,b,c,m,rfl,hp,m0,m1,k⟩:=h;have nd:=Mr.nd;refine⟨_,(aq (bK (aU fY (aH aO (pv 0) au (λ_ _=>rfl)) au (aY _)) (aq (psz 2 nd (aN jD (aH aO (pv 0) au (λ_ _=>rfl)) (pv 1)))
   (aq (jB (aN sS (aH aO (pv 0) au (λ_ _=>rfl)) (pv 1)) (qj (pv 0) au gY))
   (aB (aL (pv 2))))) bf)
  (aq (jB (aN bI (aH aO (pv 0) au (λ_ _=>rfl)) au) (qj (pv 0) au gY))
  (aq (psz 3 nd (aN jD (aN jZ (aN bI (aH aO (pv 0) au (λ_ _=>rfl)) (aN jZ au (aH aO (pv 0) au (λ_ _=>rfl)))) au) au))
  (aq (psz 3 nd (aN jD (aN jZ (pv 3) (pv 3)) au))
  (aB (aL (aN jD (aN sS (aN jD (aN jZ (aN bI (pv 3) (aH aO (pv 0) au (λ_ _=>rfl))) (aN bI (pv 3) au)) au) au) (pv 1)))))))),?_⟩
 clear nd ;rw[stE]
 try dsimp only[bT,bC]
 have F:SH H [p] H [(p,.lst [.int a,.int b,.int c])] []:=SH.nil.fP List.mem_cons_self hp rfl (by simp)
 repeat k_meth
 refine d7 (λh=>?_) (λh=>?_)
 ·repeat k_meth
  exact k _ _ _ _ _ (Int.emod_nonneg _ (by lia)) (Int.emod_lt_of_pos _ m0) F.kpo aM
 ·repeat k_meth
  exact k _ _ _ _ _ (Int.emod_nonneg _ (by lia)) (Int.emod_lt_of_pos _ m0) F.kpo aM
theorem Qc(T:Txt K mg c R CL CP CS aC ao):Def P w K mg base CX0 1 "is_name" ["thing"] wA:=by
 refine dA T.z6 uY λf cdv A outer s H vs Q E hr h=>?_
 obtain⟨cs,rfl,ok,k⟩:=h;have nd:=uY.nd;refine⟨_,(aq (bK (PW.pt (jR (c7 (cQ (aR dO rfl T.bY boot_isinstance (aj (pv 0) (aj (j5 (T := "str") rfl T.Zm boot_str) ak))))) (iU (c7 (tW rG rG au (aR bN rfl T.eE boot_len (aj (pv 0) ak)) (ug T.pN)))))) (aB (aL fV)) bf)
  (aB (aL (iz (fB TQ (aH uf (pv 0) au (λ_ _=>rfl)) (ug T.Ag) (by with_unfolding_all rfl)) (iV (aR (Ec rfl) rfl T.Ux boot_all (aj (dI (N:=["sign"]) (nt:=1) (fr:=[]) (aaf (pv 0)) (λ_ _ _ _=>(cj (i:=0) (show (["sign"]:List Str).Nodup from by decide +kernel) rfl (Or.inl rfl))) (λ_ _ _ _=>dU) (λ_ _ _ _=>(fB TQ (pv 0) (ug T.pL) (by with_unfolding_all rfl)))) ak))))))),?_⟩
 clear nd ;rw[stE]
 try dsimp only[bT,bC]
 have F:=SH.n0 H;have h1:=ok.lo;have h2:=ok.hi
 repeat k_meth
 intro c hc
 repeat k_meth
 rw[XS,ok.hd c hc]
 repeat k_meth
 refine abg (F:=λc=>V.bl true) (by lia) rfl (λc H' R hm s kk=>?_) ?_
 ·clear F;have F:SH H' [] H' [] []:=SH.nil
  repeat k_meth
  rw[X3,ok.all c hm];exact kk _ (Same.refl _)
 ·have e:(cs.map λ_=>V.bl true)=(List.replicate cs.length true).map V.bl:=by
   rw[List.map_replicate,List.map_const']
  rw[e]
  repeat k_meth
  rw[show (List.replicate cs.length true).all id=true by simp];exact k _ F.sm
theorem Yi(T:Txt K mg c R CL CP CS aC ao):Def P w K mg base CX0 2 "share_cells" ["one","other"] GR:=by
 refine dA T.MJ Fw λf cdv A outer s H vs Q E hr h=>?_
 obtain⟨p,q,a,b,c,d,rfl,hp,hq,k⟩:=h;have nd:=Fw.nd;refine⟨_,(aB (aL (iz (fB nZ (aH aZ (pv 0) au (λ_ _=>rfl)) (aG (iH T) hr (aj (pv 1) ak)) (aY _)) (iV (fB nZ (aH aZ (pv 1) au (λ_ _=>rfl)) (aG (iH T) hr (aj (pv 0) ak)) (aY _)))))),?_⟩;clear nd;rw[stE]
 try dsimp only[bT,bC]
 have fL:=om hp;have Yj:=om hq;have F:=SH.n0 H
 repeat k_meth
 refine d7 (λh=>?_) (λh=>?_)
 ·repeat k_meth
  rw[gX h,Bool.true_and] at k;exact k
 ·rw[gS h,Bool.false_and] at k;exact k
theorem eX(T:Txt K mg c R CL CP CS aC ao):Def P w K mg base CX0 1 "cells_of" ["row"] GX:=by
 refine dA T.v8 rO λf cdv A outer s H vs Q E hr h=>?_
 obtain⟨q,r,rfl,hq,k⟩:=h;have nd:=rO.nd;refine⟨_,(aB (aL (bM (aj (aH aZ (pv 0) au (λ_ _=>rfl)) (aj (aH aZ (pv 0) au (λ_ _=>rfl)) ak))))),?_⟩;clear nd ;rw[stE]
 try dsimp only[bT,bC]
 have Yj:=om hq;have F:=SH.n0 H
 repeat k_meth
 exact k _ _ F.sm aM
theorem U0(T:Txt K mg c R CL CP CS aC ao):Def P w K mg base CX0 3 "is_row" ["thing"] Ar:=by
 refine dA T.Ge zq λf cdv A outer s H vs Q E hr h=>?_
 obtain⟨q,r,rfl,hq,ok,hz,k⟩:=h;have nd:=zq.nd;refine⟨_,(aq (bK (PW.pt (jR (c7 (cQ (aR dO rfl T.bY boot_isinstance (aj (pv 0) (aj (j5 (T := "tuple") rfl T.Dj boot_tuple) ak))))) (iU (aU DR (aR bN rfl T.eE boot_len (aj (pv 0) ak)) au (aY _))))) (aB (aL fV)) bf)
  (aB (aL (iz (aG (Qc T) hr (aj (aH aZ (pv 0) au (λ_ _=>rfl)) ak)) (iz (aG (ju T) hr (aj (aH aZ (pv 0) au (λ_ _=>rfl)) (aj au ak))) (iz (aG (ju T) hr (aj (aH aZ (pv 0) au (λ_ _=>rfl)) (aj au ak))) (iV (aG (ju T) hr (aj (aH aZ (pv 0) au (λ_ _=>rfl)) (aj au ak)))))))))),?_⟩
 clear nd;rw[stE]
 try dsimp only[bT,bC]
 have Yj:=om hq;have F:=SH.n0 H;have e4:(((cB r).length:Nat):Int)=4:=rfl
 repeat k_meth
 exact k _ F.sm
theorem JZ(T:Txt K mg c R CL CP CS aC ao):Def P w K mg base CX0 4 "need_row" ["many","row","ahead"] su:=by
 refine dA T.v9 rP λf cdv A outer s H vs Q E hr h=>?_
 obtain⟨n,q,l,r,ys,rs,rfl,hq,hl,tp,gd,ap,k⟩:=h;have nd:=rP.nd;refine⟨_,(aq (bK (c7 (cQ (aG (U0 T) hr (aj (pv 1) ak)))) dw bf)
  (aq (bK (aU fY (aG (iH T) hr (aj (aG (eX T) hr (aj (pv 1) ak)) ak)) (pv 0) (aY _)) dw bf)
  (aq (cH PassesOwn.never rfl (cC (pv 2)) (pgz 3 nd) (aB (bK (aU jf (aH aZ (pv 3) au (λ_ _=>rfl)) (aH aZ (pv 1) au (λ_ _=>rfl)) (aY _)) dw bf)))
  (aB (cH PassesOwn.never rfl (cC (pv 2)) (pgz 3 nd) (aB (bK (cQ (aG (Yi T) hr (aj (aG (eX T) hr (aj (pv 1) ak)) (aj (aG (eX T) hr (aj (pv 3) ak)) ak)))) dw bf))))))),?_⟩
 clear nd;rw[stE]
 try dsimp only[bT,bC]
 have Yj:=om hq;have jW:=om hl;have gW:=eO.mk tp;have F:=SH.n0 H;have ok:gM r.nm/\1<=r.sz:=⟨gd.nm,gd.sz⟩;have le:=gd.le
 repeat k_meth
 refine fH (xs:=ys) (λi σ' H'=>∃o3:Option V,σ'=[some (.int (n:Nat)),some (.ref q),some (.ref l),o3]/\SH H [] H' [] []) ⟨_,rfl,F.Cu⟩ ?_ ?_ ?_
 ·clear F;rintro i σ' H' _ ⟨_,rfl,F⟩;exact SqA.e
 ·clear F;rintro i v σ' H' hv ⟨_,rfl,F⟩;obtain⟨s,q1,e1,rfl,e2⟩:=cF tp hv;have lH:=om e2;have ne:¬ tx s.nm=tx r.nm:=λz=>(ap s (yY e1)).1 (m9 z)
  repeat k_meth
  exact⟨_,rfl,F⟩
 ·clear F;rintro σ' H' ⟨_,rfl,F⟩
  repeat k_meth
  refine fH (xs:=ys) (λi σ' H'=>∃o3:Option V,σ'=[some (.int (n:Nat)),some (.ref q),some (.ref l),o3]/\SH H [] H' [] []) ⟨_,rfl,F.Cu⟩ ?_ ?_ ?_
  ·clear F;rintro i σ' H' _ ⟨_,rfl,F⟩;exact SqA.e
  ·clear F;rintro i v σ' H' hv ⟨_,rfl,F⟩;obtain⟨s,q1,e1,rfl,e2⟩:=cF tp hv;have lH:=om e2;have ne:=(ap s (yY e1)).2
   repeat k_meth
   have e5:(decide (((r.st:Nat):Int)<((s.st:Nat):Int)+((s.sz:Nat):Int)) && decide (((s.st:Nat):Int)<((r.st:Nat):Int)+((r.sz:Nat):Int)))=false:=by
    rcases ne with ne|ne
    ·rw[gS (by lia),Bool.false_and]
    ·rw[gS (show ¬ ((s.st:Nat):Int)<((r.st:Nat):Int)+((r.sz:Nat):Int) by lia),Bool.and_false]
   rw[e5]
   repeat k_meth
   exact⟨_,rfl,F.Cu⟩
  ·clear F;rintro σ' H' ⟨_,rfl,F⟩
   repeat k_meth
   exact k _ F.sm
theorem G3(T:Txt K mg c R CL CP CS aC ao):Def P w K mg base CX0 5 "need_rows" ["many","rows"] pP:=by
 refine dA T.rY pB λf cdv A outer s H vs Q E hr h=>?_
 obtain⟨n,l,ys,rs,rfl,hl,tp,ly,k⟩:=h;have nd:=pB.nd;refine⟨_,(aq (bK (c7 (cQ (aR dO rfl T.bY boot_isinstance (aj (pv 1) (aj (j5 (T := "list") rfl T.fK boot_list) ak))))) dw bf)
  (aq (bK (aU fY (aR bN rfl T.eE boot_len (aj (pv 1) ak)) (ug T.mQ) (aY _)) dw bf)
  (aB (cH PassesOwn.never rfl (cL rfl T.cY (aj (aR bN rfl T.eE boot_len (aj (pv 1) ak)) ak)) (pgz 2 nd) (aB (cg (aG (JZ T) hr (aj (pv 0) (aj (aH aO (pv 1) (pv 2) (λ_ _=>rfl)) (aj (RK Sw (pv 1) WW (WX (pv 2))) ak)))))))))),?_⟩
 clear nd;rw[stE]
 try dsimp only[bT,bC]
 have jW:=om hl;have gW:=eO.mk tp;have F:=SH.n0 H;have few:=ly.few;have yl:ys.length=rs.length:=by rw[tp.1,aW]
 repeat k_meth
 rw[show ((ys.length:Nat):Int).toNat=ys.length by lia];refine jj (λi σ' H'=>∃o2:Option V,σ'=[some (.int (n:Nat)),some (.ref l),o2]/\SH H [] H' [] []) ⟨_,rfl,F⟩ ?_ ?_
 ·clear F;rintro i σ' H' hi ⟨_,rfl,F⟩;obtain⟨s,q1,e1,e0,e2⟩:=cF tp (i:=i) (v:=ys[i]) (by simp);have lH:=om e2;have a1:AtI ys (i:Int) (.ref q1):=⟨bB (by rw[<- e0];simp)⟩;have gd:=ly.good s (yY e1);have ap:∀t∈rs.take i,Apart t s:=λt ht=>by
   have h1:=ly.ap;obtain⟨hi2,rfl⟩:=qA.mp e1;obtain⟨j,hj,rfl⟩:=List.getElem_of_mem ht;rw[oQ] at hj;rw[List.getElem_take];exact List.pairwise_iff_getElem.mp h1 j i (by lia) hi2 (by lia)
  have side:=And.intro gd ap
  repeat k_meth
  rw[UW] at F;have tp2:TpA H_ (ys.take i) (aF (rs.take i)):=⟨(P0 tp).same F.sm⟩
  repeat k_meth
  exact⟨_,rfl,F.Cu⟩
 ·clear F;rintro σ' H' ⟨_,rfl,F⟩
  repeat k_meth
  exact k _ F.sm
end
def lF(n:Int)(p:Addr):List (Str×V):=dZ "rows" (.ref p) (dZ "many" (.int n) [])
theorem Yk{n:Int}{p:Addr}:(lF n p).lookup ("many" : Str)=some (.int n):=by unfold lF;rw[bW,if_neg (by decide),bW,if_pos rfl]
theorem Yl{n:Int}{p:Addr}:(lF n p).lookup ("rows" : Str)=some (.ref p):=by unfold lF;rw[bW,if_pos rfl]
theorem tE{n:Int}{p:Addr}{m:Str}(h1:m ≠ "rows")(h2:m ≠ "many"):(lF n p).lookup m=none:=by unfold lF;rw[bW,if_neg h1,bW,if_neg h2];rfl
class Ym(n:Nat)(rs:List Rw)(as:outParam (List Rw)):Prop where
 p:rs.Perm as
 l:Lay n as
 a:Asc as
def G4(CL P:Addr)(pos:Pos)(qual:Str):Sp:=λvs H Q _=>∃(x dx l:Addr)(n:Nat)(ys:List V)(rs as:List Rw)(ps:xI),vs=[.ref x,.int (n:Nat),.ref l]/\H x=some (.ins CL dx [])/\H l=some (.lst ys)/\aD H ys (aF rs)/\Ym n rs as/\16<=n/\n<=240/\H P=some (.tbl ps)/\TabOk pos qual ps H /\
 ∀(p:Addr)(zs:List V)(ps':xI)(H':Hp),(∀b u,b≠x->b≠P->H b=some u->H' b=some u)->H' x=some (.ins CL dx (lF n p))->H' p=some (.lst zs)->aD H' zs (aF as)->(∀b u,H b=some u->b≠p)->H' P=some (.tbl ps')->TabOk pos qual ps' H'->Q .non H'
def wC(CL:Addr):Sp:=λvs H Q _=>∃(x p dx:Addr)(n:Nat)(zs:List V),vs=[.ref x]/\H x=some (.ins CL dx (lF (n:Nat) p))/\H p=some (.lst zs)/\∀q H',New H H' q (.lst zs)->Q (.ref q) H'
section
variable{CL P x dx l p:Addr}{pos:Pos}{qual:Str}{H H0:Hp}{M:List Addr}{L:List (Addr×HO)}{I:List Im}{Q:VK}{E:XK}{n:Nat}{m:Int}{ys zs:List V}{rs as:List Rw}{ps:xI}
instance agA:FLk (lF m p) "many" (.int m):=⟨Yk⟩
instance agB:FLk (lF m p) "rows" (.ref p):=⟨Yl⟩
instance acN:FNo (lF m p) "blocks":=⟨tE (by decide) (by decide)⟩
instance aeV:FNo (lF m p) "names":=⟨tE (by decide) (by decide)⟩
instance aeW:FNo (lF m p) "block":=⟨tE (by decide) (by decide)⟩
instance aeX:FNo (lF m p) "moved":=⟨tE (by decide) (by decide)⟩
instance abB[h:Hat H x (.ins CL dx (lF (n:Nat) p))][h2:Hat H p (.lst zs)]:Go (wC CL [.ref x] H Q E) (∀q H',New H H' q (.lst zs)->Q (.ref q) H'):=⟨λk=>⟨x,p,dx,n,zs,rfl,h.e,h2.e,k⟩⟩
instance aeY[h:Hat H x (.ins CL dx [])][h2:Hat H l (.lst ys)][t:TpA H ys (aF rs)][e:Hat H P (.tbl ps)][F:SH H0 M H L I][tb:Pn I pos qual ps][la:Ym n rs as]:Go (G4 CL P pos qual [.ref x,.int (n:Nat),.ref l] H Q E)
  (Sd (16<=n/\n<=240) (∀(ps':xI)(H1:Hp),Kp P H H1->H1 P=some (.tbl ps')->TabOk pos qual ps' H1->∀(p:Addr)(zs:List V)(H2:Hp),New H1 H2 p (.lst zs)->aD H2 zs (aF as)->∀H3,Off x H2 H3->H3 x=some (.ins CL dx (lF n p))->Q .non H3)):=by
 refine⟨λs=>⟨x,dx,l,n,ys,rs,as,ps,rfl,h.e,h2.e,t.e,la,s.1.1,s.1.2,e.e,F.im _ tb.m,λp zs ps' H' keep ex ep tz fr eP tk=>?_⟩⟩;have hx:=h.e;have hP:=e.e;have nxp:x≠p:=fr x _ hx;have nPp:P≠p:=fr P _ hP;have nPx:P≠x:=λz=>by rw[z,hx] at hP;cases hP
 let H2:Hp:=λb=>if b=x then H x else H' b
 let H1:Hp:=λb=>if b=p then none else H2 b
 have h2x:H2 x=H x:=zS rfl;have h2n:∀{b:Addr},b≠x->H2 b=H' b:=λn=>yB n
 have h1n:∀{b:Addr},b≠p->H1 b=H2 b:=λn=>yB n
 refine s.2 ps' H1 (λb u nb eb=>?_) ?_ ?_ p zs H2 ⟨λb u eb=>?_,?_,λb u eb z=>?_⟩ ?_ H' (λb nb=>(h2n nb).symm) ex
 ·have n1:b≠p:=fr b u eb;rw[h1n n1];by_cases hb:b=x
  ·rw[hb,h2x,<- hb];exact eb
  ·rw[h2n hb];exact keep b u hb nb eb
 ·rw[h1n nPp,h2n nPx];exact eP
 ·rcases tk with tk|⟨c',oc,vs,t',e1,e2,e3⟩
  ·exact .inl tk
  ·refine .inr ⟨c',oc,vs,t',e1,?_,e3⟩;have n1:c'≠p:=λz=>by rw[z,ep] at e2;cases e2
   have n2:c'≠x:=λz=>by rw[z,ex] at e2;cases e2
   rw[h1n n1,h2n n2];exact e2
 ·by_cases hb:b=p
  ·have:H1 b=none:=zS hb;rw[this] at eb;cases eb
  ·rw[h1n hb] at eb;exact eb
 ·rw[h2n (Ne.symm nxp)];exact ep
 ·have:H1 b=none:=zS z;rw[this] at eb;cases eb
 ·refine⟨tz.1,λj r ej=>?_⟩;obtain⟨q,e1,e2⟩:=tz.2 j r ej;refine⟨q,e1,?_⟩;rw[h2n (λz=>by rw[z,ex] at e2;cases e2)];exact e2
end
abbrev bV:Pos:=⟨135,37,135,55⟩
abbrev bG:Str := "Layout.__init__.<locals>.<lambda>"
section
variable{P:Program}{w:World}{K:W.Frag}{mg:xC}{base:Heap}{c:Nat->Addr}{aC ao R CL CP CS:Addr}
theorem G5(T:Txt K mg c R CL CP CS aC ao)(B:Bm mg base):Mak P w K mg base CX0 6 "Layout" CL ["self","many","rows"] (G4 CL ao bV bG):=by
 obtain⟨f,hf,hm⟩:=T.Nh;refine(Ph (k:=5) hf FW (λvs H Q E h=>?_) (λ_ _ _ _ _ _=>el3 λ_ _ _=>rfl) (λf A outer s H vs Q E hr h=>?_)).mak hm T.Ah
 ·obtain⟨x,dx,l,n,ys,rs,as,ps,rfl,_⟩:=h
  rfl
 ·obtain⟨x,dx,l,n,ys,rs,as,ps,rfl,hx,hl,tp,la,h16,iK,hP,tk,k⟩:=h;have nd:=FW.nd;refine⟨_,(aq (bK (c7 (cQ (aG (P_ T) hr (aj (pv 1) ak)))) dw bf)
   (aq (cg (aG (G3 T) hr (aj (pv 1) (aj (pv 2) ak))))
   (aq (mV (pv 0) (pv 1) rfl)
   (aB (mV (pv 0) (Jv (JC rfl hr) rfl T.Gz boot_sorted (aj (pv 2) ak) (aa_ (qual:=bG) B rfl T.Aj (by with_unfolding_all rfl) ⟨rfl,rfl,rfl,by with_unfolding_all rfl,by decide +kernel,by decide⟩)) rfl))))),?_⟩
  clear nd;rw[stE]
  try dsimp only[bT,bC]
  have nxP:x≠ao:=λz=>by rw[z,hP] at hx;cases hx
  have nlx:l≠x:=λz=>by rw[z,hx] at hl;cases hl
  have nlP:l≠ao:=λz=>by rw[z,hP] at hl;cases hl
  have nm2:∀{b:Addr},b≠x->b≠ao->b ∉ [x,ao]:=λa b z=>by
   rcases vT.mp z with z|z
   ·exact a z
   ·exact b (uS.mp z)
  have F:SH H [x,ao] H [(x,.ins CL dx []),(ao,.tbl ps)] [.tps ys (aF rs),eZ bV bG ps]:=(((SH.nil.fP (List.mem_cons_of_mem _ List.mem_cons_self) hP rfl (by simp)).fP List.mem_cons_self hx rfl (by simp[Ne.symm nxP])).jc tk).cU tp;have jW:=Old.mk (M:=[x,ao]) hl (nm2 nlx nlP);have ly:=la.l.perm la.p.symm;have few:=ly.few;have e1:(decide (16<=(n:Int)) && decide ((n:Int)<=240))=true:=by rw[gX (by lia),gX (by lia)];rfl
  repeat k_meth
  rw[e1]
  repeat k_meth
  intro f_ ps_
  repeat k_meth
  intro D zs H8 n8 so;have t8:=Pq (H:=H_) TpA.e la.p (la.a.lt la.l.good) so;replace F:=F.newR n8 (t8.same n8.s)
  repeat k_meth
  exact k D zs ps_ _ (λb u n1 n2 e=>F.fr b u (nm2 n1 n2) e) aM aM TpA.e (F.fresh (LkL.m (o:=.lst zs)) (nm2 (SH.neC (F:=F)) (SH.neC (F:=F)))) aM SH.tab
theorem cV(T:Txt K mg c R CL CP CS aC ao):Met P w K mg base CX0 1 CL "blocks" ["self"] (wC CL):=by
 obtain⟨f,hf,hm⟩:=T.Ak;refine(fA (k:=0) hf vQ λf cdv A outer s H vs Q E hr h=>?_).met hm;obtain⟨x,p,dx,n,zs,rfl,hx,hp,k⟩:=h;have nd:=vQ.nd;refine⟨_,(aB (aL (dz dB rfl T.fK boot_list (aj (gh (pv 0) rfl) ak)))),?_⟩;clear nd ;rw[stE]
 try dsimp only[bT,bC]
 have gJ:=om hx;have fL:=om hp;have F:=SH.n0 H
 repeat k_meth
 exact k _ _ SH.nwC
end
def G6:Sp:=λvs H Q _=>∃(bx:Addr)(x y z:Int),vs=[.ref bx]/\H bx=some (.lst [.int x,.int y,.int z])/\∀(n:Nat)(x' y' z':Int)(H':Hp),16<=n->n<=240->Kp bx H H'->H' bx=some (.lst [.int x',.int y',.int z'])->Q (.int (n:Nat)) H'
def G7:Sp:=λvs H Q _=>∃(bx:Addr)(x y z:Int)(m:Nat),vs=[.ref bx,.int (m:Nat)]/\H bx=some (.lst [.int x,.int y,.int z])/\m<=40/\∀(x' y' z':Int) (nms:List (List Nat)) (p:Addr) (H':Hp),nms.length=m->(∀cs∈nms,gM cs)->nms.Nodup->Kp bx H H'->H' bx=some (.lst [.int x',.int y',.int z'])->H' p=some (.lst (nms.map λcs=>.str (tx cs)))->(∀b u,H b=some u->b≠p)->Q (.ref p) H'
def G8:Sp:=λvs H Q _=>∃(bx:Addr)(x y z:Int)(n:Nat),vs=[.ref bx,.int (n:Nat)]/\H bx=some (.lst [.int x,.int y,.int z])/\16<=n/\n<=240/\∀(x' y' z':Int)(rs:List Rw)(p:Addr)(ys:List V)(H':Hp),Lay n rs->Asc rs->Kp bx H H'->H' bx=some (.lst [.int x',.int y',.int z'])->H' p=some (.lst ys)->aD H' ys (aF rs)->(∀b u,H b=some u->b≠p)->Q (.ref p) H'
def G9:Sp:=λvs H Q _=>∃(bx l:Addr)(x y z:Int)(ys:List V)(rs:List Rw),vs=[.ref bx,.ref l]/\H bx=some (.lst [.int x,.int y,.int z])/\H l=some (.lst ys)/\aD H ys (aF rs)/\rs.length<=1000/\bx≠l/\∀(x' y' z':Int)(qs:List Rw)(p:Addr)(zs:List V)(H':Hp),qs.Perm rs->Kp bx H H'->H' bx=some (.lst [.int x',.int y',.int z'])->H' p=some (.lst zs)->aD H' zs (aF qs)->(∀b u,H b=some u->b≠p)->Q (.ref p) H'
theorem two_steps{H H':Hp}{bx p:Addr}{b3 o:HO}{R:Hp->Prop}(hb:∃u,H bx=some u)(kp:Kp bx H H')(eb:H' bx=some b3)(ep:H' p=some o)(fr:∀b u,H b=some u->b≠p)(k:∀H1,Kp bx H H1->H1 bx=some b3->New H1 H' p o->R H'):R H':=by
 obtain⟨u0,hb⟩:=hb;have nb:bx≠p:=fr bx _ hb;have h1:∀{b:Addr},b≠p->(λb=>if b=p then none else H' b:Hp) b=H' b:=λn=>yB n
 refine k (λb=>if b=p then none else H' b) (λb u n e=>?_) ?_ ⟨λb u e=>?_,ep,λb u e z=>?_⟩
 ·rw[h1 (fr b u e)];exact kp b u n e
 ·exact(h1 nb).trans eb
 ·have e:(if b=p then none else H' b)=some u:=e;split at e
  ·cases e
  ·exact e
 ·have e:(if b=p then none else H' b)=some u:=e;rw[zS z] at e;cases e
section
variable{bx l:Addr}{x y z:Int}{H:Hp}{Q:VK}{E:XK}{n m:Nat}{ys:List V}{rs:List Rw}
instance aeZ[h:Hat H bx (.lst [.int x,.int y,.int z])]:Go (G6 [.ref bx] H Q E) (∀(x' y' z':Int)(n:Nat),16<=n->n<=240->∀H',Kp bx H H'->H' bx=some (.lst [.int x',.int y',.int z'])->Q (.int (n:Nat)) H'):=⟨λk=>⟨bx,x,y,z,rfl,h.e,λn x' y' z' H' h1 h2 f e=>k x' y' z' n h1 h2 H' f e⟩⟩
instance ae0[h:Hat H bx (.lst [.int x,.int y,.int z])]:Go (G7 [.ref bx,.int (m:Nat)] H Q E) (Sd (m<=40) (∀(x' y' z':Int) (nms:List (List Nat)),nms.length=m->(∀cs∈nms,gM cs)->nms.Nodup->∀H1,Kp bx H H1->H1 bx=some (.lst [.int x',.int y',.int z'])->∀p H2,New H1 H2 p (.lst (nms.map λcs=>.str (tx cs)))->Q (.ref p) H2)) :=
 ⟨λs=>⟨bx,x,y,z,m,rfl,h.e,s.1,λx' y' z' nms p H' h1 h2 h3 f e e2 fr=>two_steps (R:=λH'=>Q (.ref p) H') ⟨_,h.e⟩ f e e2 fr λH1 f1 e1 n1=>s.2 x' y' z' nms h1 h2 h3 H1 f1 e1 p H' n1⟩⟩
instance ae1[h:Hat H bx (.lst [.int x,.int y,.int z])]:Go (G8 [.ref bx,.int (n:Nat)] H Q E) (Sd (16<=n/\n<=240) (∀(x' y' z':Int)(rs:List Rw),Lay n rs->Asc rs->∀H1,Kp bx H H1->H1 bx=some (.lst [.int x',.int y',.int z'])->∀p ys H2,New H1 H2 p (.lst ys)->aD H2 ys (aF rs)->Q (.ref p) H2)) :=
 ⟨λs=>⟨bx,x,y,z,n,rfl,h.e,s.1.1,s.1.2,λx' y' z' rs p ys H' h1 h2 f e e2 t fr=>two_steps (R:=λH'=>Q (.ref p) H') ⟨_,h.e⟩ f e e2 fr λH1 f1 e1 n1=>s.2 x' y' z' rs h1 h2 H1 f1 e1 p ys H' n1 t⟩⟩
instance ae2{H0:Hp}{M:List Addr}{L:List (Addr×HO)}{I:List Im}[h:Hat H bx (.lst [.int x,.int y,.int z])][h2:Hat H l (.lst ys)][t:TpA H ys (aF rs)][F:SH H0 M H L I][ne:Pg L bx l]:Go (G9 [.ref bx,.ref l] H Q E) (Sd (rs.length<=1000) (∀(x' y' z':Int)(qs:List Rw),qs.Perm rs->∀H1,Kp bx H H1->H1 bx=some (.lst [.int x',.int y',.int z'])->∀p zs H2,New H1 H2 p (.lst zs)->aD H2 zs (aF qs)->Q (.ref p) H2)) :=
 ⟨λs=>⟨bx,l,x,y,z,ys,rs,rfl,h.e,h2.e,t.e,s.1,ne.ne F.nd,λx' y' z' qs p zs H' h1 f e e2 t fr=>two_steps (R:=λH'=>Q (.ref p) H') ⟨_,h.e⟩ f e e2 fr λH1 f1 e1 n1=>s.2 x' y' z' qs h1 H1 f1 e1 p zs H' n1 t⟩⟩
end
def letter(s:Nat):Nat:=97+s % 26
theorem Av{s:Int}{c:Nat}(h0:0<=s)(h:(List.range' 97 26)[(s % 26).toNat]?=some c):c=letter s.toNat:=by
 have h1:(s % 26).toNat<26:=by lia
 rw[List.getElem?_eq_getElem (by simpa using h1),List.getElem_range'] at h;have:=nI h;unfold letter
 lia
theorem jN(s:Nat):oY (letter s)=true:=by
 unfold oY letter;rw[gX (by lia),gX (by lia)]
 rfl
def nameA(s:Nat)(tl:List Nat)(k:Nat):List Nat:=[letter (s+k / 8)]++tl.take (k % 8)
def nameB(s:Nat)(tl:List Nat)(k r:Nat):List Nat:=([letter (s+7*k)]++List.replicate (k / 26) 120)++tl.take r
theorem G_{nms:List (List Nat)}(h:∀(i j:Nat) a b,i<j->nms[i]?=some a->nms[j]?=some b->a≠b):nms.Nodup:=by
 rw[List.Nodup,List.pairwise_iff_getElem];intro i j hi hj hij;exact h i j _ _ hij (by simp) (by simp)
theorem join_one:∀cs:List Nat,Str.join (Str.ofString "") (cs.map λc=>tx [c])=tx cs:=by
 have e0:Str.ofString "" = tx []:=by decide +kernel
 rw[e0];intro cs
 induction cs with
 | nil=>rfl
 | cons c t ih =>
  cases t with
  | nil=>rfl
  | cons d u =>
   show tx [c]++tx []++Str.join (tx []) ((d::u).map λc=>tx [c])=_;rw[ih,qD,qD]
   rfl
instance agC{K:W.Frag}{H:Hp}{Q:VK}{p:Addr}{cs:List Nat}[h:SqA K H p (cs.map λc=>V.str (tx [c]))]:Go (rJoin K (.str (Str.ofString "")) [.ref p] H Q) (Sd (cs.length<=1000) (Q (.str (tx cs)) H)):=⟨λs=>⟨_,p,cs.map λc=>tx [c],rfl,rfl,by rw[List.map_map];exact h.e,by decide,by
 rw[List.map_map,wP];have:(cs.map ((λt:Str=>t.length) ∘ λc=>tx [c]))=cs.map λ_=>1:=rfl
 rw[this,List.map_const'];have hs:(List.replicate cs.length 1).sum=cs.length:=by simp
 have:=s.1
 lia,by rw[join_one];exact s.2⟩⟩
instance ait{K:W.Frag}{H:Hp}{z:Str}{R:Prop}:Go (tyV K "str" (.str z) H/\R) R:=⟨λk=>⟨by first|exact .inr (.inr rfl)|exact .inr rfl|exact⟨_,rfl⟩|trivial,k⟩⟩
structure lX(tl:List Nat):Prop where
 len:tl.length=7
 hd:∀c,tl[0]?=some c->c∈[97,98,122]
 all:∀c∈tl,c∈[97,98,122,48,49,57,113]
theorem lX.sgn{tl:List Nat}(h:lX tl):∀c∈tl,(oY c || Ls c)=true:=λc hc=>by
 have:=h.all c hc;simp only[List.mem_cons,List.not_mem_nil,or_false] at this;rcases this with rfl|rfl|rfl|rfl|rfl|rfl|rfl <;> rfl
def mU(s:Nat)(tl:List Nat)(k r:Nat):List Nat:=([letter (s+5*k)]++List.replicate (k / 26) 48)++tl.take r
theorem Qd{s k:Nat}{tl:List Nat}(h:lX tl):gM (nameA s tl k):=by
 refine⟨?_,?_,λc hc=>?_,λc hc=>?_⟩
 ·simp[nameA]
 ·simp only[nameA,List.length_append,List.length_singleton,List.length_take]
  lia
 ·have:some (letter (s+k / 8))=some c:=hc;cases this;exact jN _
 ·rcases wS.mp hc with hc|hc
  ·rw[uS.mp hc,jN]
   rfl
  ·exact h.sgn c (oB hc)
theorem U3{s k r:Nat}{tl:List Nat}(h:lX tl)(hr:r<7)(hk:k<52):gM (mU s tl k r):=by
 refine⟨?_,?_,λc hc=>?_,λc hc=>?_⟩
 ·simp[mU]
 ·simp only[mU,List.length_append,List.length_singleton,List.length_take,List.length_replicate]
  lia
 ·have:some (letter (s+5*k))=some c:=hc;cases this;exact jN _
 ·rcases wS.mp hc with hc|hc
  ·rcases wS.mp hc with hc|hc
   ·rw[uS.mp hc,jN]
    rfl
   ·rw[(List.mem_replicate.mp hc).2]
    rfl
  ·exact h.sgn c (oB hc)
theorem J0{s:Nat}{tl:List Nat}(h:tl.length=7){i j:Nat}(hi:i<40)(hj:j<40)(e:nameA s tl i=nameA s tl j):i=j:=by
 have e1:=gI List.length e;simp only[nameA,List.length_append,List.length_singleton,List.length_take,h] at e1;have e2:letter (s+i / 8)=letter (s+j / 8):=by
  have:=gI (λl:List Nat=>l[0]?) e;exact nI this
 unfold letter at e2
 lia
theorem Qe{s:Nat}{tl:List Nat}(h:lX tl){i j r t:Nat}(hi:i<40)(hj:j<40)(hij:i<j)(e:mU s tl i r=mU s tl j t):False:=by
 have e2:letter (s+5*i)=letter (s+5*j):=by
  have:=gI (λl:List Nat=>l[0]?) e;exact nI this
 unfold letter at e2;have e3:j=i+26:=by lia
 have e4:i / 26=0:=by lia
 have e5:j / 26=1:=by lia
 have e6:tl.take r=[48]++tl.take t:=by
  unfold mU at e;rw[e4,e5] at e;simp only[List.replicate,List.append_nil,List.cons_append,List.nil_append,List.cons.injEq] at e;exact e.2
 cases tl with
 | nil=>have:=h.len;simp at this
 | cons c u =>
  cases r with
  | zero=>simp at e6
  | succ r =>
   have e7:c=48:=by
    have:=gI (λl:List Nat=>l[0]?) e6;simpa using this
   have:=h.hd c rfl;rw[e7] at this;simp at this
section
variable{P:Program}{w:World}{K:W.Frag}{mg:xC}{base:Heap}{c:Nat->Addr}{aC ao R CL CP CS:Addr}
theorem abC(T:Txt K mg c R CL CP CS aC ao):Def P w K mg base CX0 2 "_law_many" ["_law_box_here"] G6:=by
 refine dA T.Ur Ms λf cdv A outer s H vs Q E hr h=>?_
 obtain⟨bx,x,y,z,rfl,hbx,k⟩:=h;have nd:=Ms.nd;refine⟨_,(aB (aL (aH aO (aX (aj au (aj (aN bI au (aG (bJ T) hr (aj (pv 0) (aj au ak)))) (aj (aN bI au (aG (bJ T) hr (aj (pv 0) (aj au ak)))) (aj au ak))))) (aR (gZ rfl) rfl T.pK boot_max (aj au (aj (aN b_ (aG (bJ T) hr (aj (pv 0) (aj au ak))) au) ak))) (λ_ _=>rfl)))),?_⟩;clear nd;rw[stE]
 try dsimp only[bT,bC]
 have F:SH H [bx] H [(bx,.lst [.int x,.int y,.int z])] []:=SH.nil.fP List.mem_cons_self hbx rfl (by simp)
 repeat k_meth
 refine Ln SqA.e (by lia) (by show max 0 (r_-4)<(4:Int);lia) λv hv=>?_
 obtain⟨g,hg,rfl⟩:∃g:Nat,(16<=g/\g<=240)/\v=.int (g:Nat):=by
  simp only[List.mem_cons,List.not_mem_nil,or_false] at hv;rcases hv with rfl|rfl|rfl|rfl
  ·exact⟨16,by lia,rfl⟩
  ·rename_i r1 _ _ _ _ _ _ r2 _ _ _ _ _ _ _;exact⟨(16+r1).toNat,by lia,by congr 1;lia⟩
  ·rename_i r1 _ _ _ _ _ _ r2 _ _ _ _ _ _ _;exact⟨(16+r2).toNat,by lia,by congr 1;lia⟩
  ·exact⟨240,by lia,rfl⟩
 repeat k_meth
 exact k g _ _ _ _ hg.1 hg.2 F.kpo aM
theorem Yn(T:Txt K mg c R CL CP CS aC ao):Def P w K mg base CX0 2 "_law_names" ["_law_box_here","_law_many_here"] G7:=by
 refine dA T.MK Fx λf cdv A outer s H vs Q E hr h=>?_
 obtain⟨bx,x,y,z,m,rfl,hbx,h40,k⟩:=h;have nd:=Fx.nd;refine⟨_,(aq (psz 2 nd jz)
  (aq (psz 3 nd (aN sW (aH uf jz (aG (bJ T) hr (aj (pv 0) (aj au ak))) (λ_ _=>rfl)) (Xv jz (dI (N:=["_law_k","_law_box_here"]) (nt:=1) (fr:=[0]) (cL rfl T.cY (aj au ak)) (λ_ _ _ _=>(cj (i:=0) (show (["_law_k","_law_box_here"]:List Str).Nodup from by decide +kernel) rfl (Or.inl rfl))) (λ_ _ _ _=>dU) (λ_ _ _ _=>(aH uf jz (aG (bJ T) hr (aj (pv 1) (aj au ak))) (λ_ _=>rfl)))))))
  (aq (psz 4 nd (aG (bJ T) hr (aj (pv 0) (aj au ak))))
  (aq (bK (aU jf (aG (bJ T) hr (aj (pv 0) (aj au ak))) au (aY _)) (aB (aL (dI (N:=["_law_k","_law_letters","_law_tail","_law_first"]) (nt:=1) (fr:=[2,3,4]) (cL rfl T.cY (aj (pv 1) ak)) (λ_ _ _ _=>(cj (i:=0) (show (["_law_k","_law_letters","_law_tail","_law_first"]:List Str).Nodup from by decide +kernel) rfl (Or.inl rfl))) (λ_ _ _ _=>dU) (λ_ _ _ _=>(aN sW (aH uf (pv 1) (aN jD (aN bI (pv 3) (aN sS (pv 0) au)) au) (λ_ _=>rfl)) (Tv (pv 2) (aN jD (pv 0) au))))))) bf)
  (aq (psz 5 nd (aX ak))
  (aq (cH PassesOwn.never rfl (cL rfl T.cY (aj (pv 1) ak)) (pgz 6 nd) (aq (psz 7 nd (aN sW (aH uf (pv 2) (aN jD (aN bI (pv 4) (aN jZ au (pv 6))) au) (λ_ _=>rfl)) (aN XQ jz (aN sS (pv 6) au))))
   (aB (cg (bR (pv 5) (aN sW (pv 7) (Tv (pv 3) (aG (bJ T) hr (aj (pv 0) (aj au ak))))))))))
  (aB (aL (pv 5))))))))),?_⟩
 clear nd;rw[stE]
 try dsimp only[bT,bC]
 have F:SH H [bx] H [(bx,.lst [.int x,.int y,.int z])] []:=SH.nil.fP List.mem_cons_self hbx rfl (by simp);rw[show Str.ofString "abcdefghijklmnopqrstuvwxyz" = tx (List.range' 97 26) by decide +kernel,show Str.ofString "abz" = tx [97,98,122] by decide +kernel,show Str.ofString "abz019q" = tx [97,98,122,48,49,57,113] by decide +kernel,show Str.ofString "0" = tx [48] by decide +kernel]
 repeat k_meth
 intro c0 hc0;have hc0:=yY hc0
 repeat k_meth
 have e26:(List.range' 97 26).length=26:=by simp
 refine S9 (n:=6) (fvs:=[some (.ref bx)]) (λacc i ys H'=>∃(cs:List Nat)(x y z:Int),cs.length=i/\(∀c∈cs,c∈[97,98,122,48,49,57,113])/\ys=cs.map (λc=>V.str (tx [c]))/\SH H [bx] H' [(acc,.lst ys),(bx,.lst [.int x,.int y,.int z])] []) (El agX La) (by decide) rfl (λacc H' n=>⟨[],x_,y_,z_,rfl,by simp,rfl,F.newL n⟩) ?_ ?_ ?_
 ·clear F;rintro acc i ys H' ⟨cs,x,y,z,h1,_,rfl,F⟩;exact⟨aM,by rw[wP];exact h1⟩
 ·clear F;rintro acc i ys H' R hi ⟨cs,x,y,z,h1,h2,rfl,F⟩ kk
  repeat k_meth
  intro c hc;refine kk _ _ aM ?_
  repeat k_meth
  refine⟨cs++[c],_,_,_,by simp[h1],λd hd=>?_,by simp,F⟩;rcases wS.mp hd with hd|hd
  ·exact h2 d hd
  ·rw[uS.mp hd];exact yY hc
 ·clear F;rintro acc ys H' ⟨tl0,x,y,z,h1,h2,rfl,F⟩
  repeat k_meth
  generalize htl:[c0]++tl0=tl
  have tk:lX tl:=by
   subst htl;refine⟨by simp[h1],λc hc=>?_,λc hc=>?_⟩
   ·have:some c0=some c:=hc;cases this;exact hc0
   ·rcases wS.mp hc with hc|hc
    ·rw[uS.mp hc];simp only[List.mem_cons,List.not_mem_nil,or_false] at hc0 ⊢
     lia
    ·exact h2 c hc
  have h7:=tk.len;rename_i sh _ _ _ sh0 _ _;refine d7 (λh=>?_) (λh=>?_)
  ·repeat k_meth
   refine Cg (n:=m) (fvs:=[some (.str (tx (List.range' 97 26))),some (.str (tx tl)),some (.int sh)]) (F:=λj=>V.str (tx (nameA sh.toNat tl j))) (El (aaj rfl) La) (by lia) (by lia) rfl (λi H' hi s8 Q8 q8=>?_) ?_
   ·repeat k_meth
    intro c hc;have e3:=Av (by lia) hc;subst e3
    repeat k_meth
    have e4:[letter (sh+(i:Int) / 8).toNat]++tl.take ((i:Int) % 8).toNat=nameA sh.toNat tl i:=by
     unfold nameA;rw[show (sh+(i:Int) / 8).toNat=sh.toNat+i / 8 by lia,show ((i:Int) % 8).toNat=i % 8 by lia]
    rw[e4];exact q8
   ·repeat k_meth
    have e5:(List.range m).map (λj=>V.str (tx (nameA sh.toNat tl j)))=((List.range m).map (nameA sh.toNat tl)).map λcs=>V.str (tx cs):=by
     rw[List.map_map]
     rfl
    rw[e5] at F;refine k _ _ _ _ _ _ (by simp) (λcs hcs=>?_) (G_ λi j a b hij ha hb z=>?_) F.kpo aM aM (F.fresh (LkL.m (o:=.lst _)) (nm1 (SH.neC (F:=F))))
    ·obtain⟨j,_,rfl⟩:=jI.mp hcs;exact Qd tk
    ·have h3:=(qA.mp hb).1;rw[wP,List.length_range] at h3;rw[wT,List.getElem?_range (by lia)] at ha hb;cases ha;cases hb;have:=J0 h7 (by lia) (by lia) z
     lia
  ·repeat k_meth
   rename Addr=>nl
   rw[show ((m:Nat):Int).toNat=m by lia];refine jj (λi σ' H'=>∃(o6 o7:Option V) (nms:List (List Nat)) (x y z:Int),σ'=[some (.ref bx),some (.int (m:Nat)),some (.str (tx (List.range' 97 26))),some (.str (tx tl)),some (.int sh),some (.ref nl),o6,o7]/\nms.length=i/\(∀(j:Nat) cs,nms[j]?=some cs->∃r,r<7/\cs=mU sh.toNat tl j r)/\SH H [bx] H' [(nl,.lst (nms.map λcs=>V.str (tx cs))),(bx,.lst [.int x,.int y,.int z])] []) ⟨_,_,[],_,_,_,rfl,rfl,λj cs e=>by simp at e,F.Cu (L':=[(nl,.lst []),(bx,.lst [.int x_,.int y_,.int z_])])⟩ ?_ ?_
   ·clear F;rintro i σ' H' hi ⟨_,_,nms,x,y,z,rfl,hl,hn,F⟩
    repeat k_meth
    intro c hc;have e3:=Av (by lia) hc;subst e3
    repeat k_meth
    refine⟨_,_,nms++[mU sh.toNat tl i r_.toNat],x_,y_,z_,rfl,by simp[hl],λj cs e=>?_,?_⟩
    ·by_cases hj:j<nms.length
     ·rw[wE hj] at e;exact hn j cs e
     ·have hj2:=(qA.mp e).1;rw[yT,List.length_singleton] at hj2;obtain rfl:j=i:=by lia
      rw[nE (by lia),hl,Nat.sub_self] at e;cases e;exact⟨r_.toNat,by lia,rfl⟩
    ·have e4:[letter (sh+5*(i:Int)).toNat]++List.replicate ((i:Int) / 26).toNat 48++tl.take r_.toNat=mU sh.toNat tl i r_.toNat:=by
      unfold mU;rw[show (sh+5*(i:Int)).toNat=sh.toNat+5*i by lia,show ((i:Int) / 26).toNat=i / 26 by lia]
     rw[e4] at F;rw[List.map_append];exact F
   ·clear F;rintro σ' H' ⟨_,_,nms,x,y,z,rfl,hl,hn,F⟩
    repeat k_meth
    refine k _ _ _ nms _ _ hl (λcs hcs=>?_) (G_ λi j a b hij ha hb z=>?_) F.kpo aM aM (F.fresh (LkL.m (o:=.lst _)) (nm1 (SH.neC (F:=F))))
    ·obtain⟨j,hj,e⟩:=List.getElem_of_mem hcs;obtain⟨r,hr,rfl⟩:=hn j cs (by rw[<- e];simp);exact U3 tk hr (by lia)
    ·have h3:=(qA.mp hb).1;obtain⟨r,hr,rfl⟩:=hn i a ha;obtain⟨t,ht,rfl⟩:=hn j b hb;exact Qe tk (by lia) (by lia) hij z
end
theorem Zo{v:V}{xs:List Int}{lo hi:Int}(hv:v∈xs.map V.int)(h:∀a∈xs,lo<=a/\a<hi)(h0:0<=lo):∃g:Nat,v=.int (g:Nat)/\lo<=(g:Int)/\(g:Int)<hi:=by
 obtain⟨a,ha,rfl⟩:=jI.mp hv;have:=h a ha;exact⟨a.toNat,by congr 1;lia,by lia,by lia⟩
theorem U4{v:V}{a b c d lo hi:Int}(hv:v∈[V.int a,V.int b,V.int c,V.int d])(h:0<=lo/\(lo<=a/\a<hi)/\(lo<=b/\b<hi)/\(lo<=c/\c<hi)/\(lo<=d/\d<hi)):∃g:Nat,v=.int (g:Nat)/\lo<=(g:Int)/\(g:Int)<hi :=
 Zo (xs:=[a,b,c,d]) hv (λz hz=>by
  simp only[List.mem_cons,List.not_mem_nil,or_false] at hz;rcases hz with rfl|rfl|rfl|rfl
  ·exact h.2.1
  ·exact h.2.2.1
  ·exact h.2.2.2.1
  ·exact h.2.2.2.2) h.1
theorem lay_of{n at_:Nat}{rs:List Rw}{nms:List (List Nat)}(h1:at_<=n)(as:Asc rs)(ok:∀r∈rs,gM r.nm/\1<=r.sz/\r.st+r.sz<=at_)(sb:(rs.map (·.nm)).Sublist nms)(nd:nms.Nodup)(h40:nms.length<=40):Lay n rs:=by
 refine⟨λr hr=>⟨(ok r hr).1,(ok r hr).2.1,by have:=(ok r hr).2.2;lia⟩,?_,?_⟩
 ·have h2:rs.Pairwise λr s=>r.nm≠s.nm:=List.pairwise_map.mp (nd.sublist sb)
  exact h2.imp₂ (λa b h3 h4=>⟨h3,.inl h4⟩) as
 ·have:=sb.length_le;rw[wP] at this
  lia
theorem Hf{rs:List Rw}{r:Rw}{at_:Nat}(h:Asc rs)(ok:∀s∈rs,s.st+s.sz<=at_)(hr:at_<=r.st):Asc (rs++[r]):=by
 unfold Asc;rw[List.pairwise_append];refine⟨h,List.pairwise_singleton _ _,λa ha b hb=>?_⟩;rw[uS.mp hb];have:=ok a ha
 lia
theorem jO(rs:List Rw)(r:Rw):aF (rs++[r])=aF rs++[cB r]:=by unfold aF;rw[List.map_append];rfl
theorem tG{c:TT}{tb:TS}{D:Ends}{σ:L2.St}{H:Hp}(Pv:Nat->L2.St->Hp->Prop)(h0:∃m,Pv m σ H)
  (hs:∀m σ H,Pv m σ H->c σ H λb H1=>if b=true then ∃N:L2.St->Hp->Prop,(∀σ' H',N σ' H'->∃m',m'<m/\Pv m' σ' H')/\tb { D with nx:=N,ct:=N,bk:=D.nx } σ H1 else D.nx σ H1):Ro c tb D σ H:=⟨Pv,h0,hs⟩
theorem abD(rs:List Rw):∀r∈aF rs,∀v∈r,gq v=true:=by
 intro r hr v hv;obtain⟨x,_,rfl⟩:=jI.mp hr;simp only[List.mem_cons,List.not_mem_nil,or_false] at hv;rcases hv with rfl|rfl|rfl|rfl <;> rfl
instance acO{K:W.Frag}{H:Hp}{Q:VK}{p b:Addr}{ys:List V}{rs:List Rw}[h:Hat H p (.lst ys)][t:TpA H ys (aF rs)][h2:Hat H b (.lst [])]:Go (Js K (.ref p) (.ref b) H Q) (Q (.bl (!decide (aF rs=[]))) H):=⟨Ew (zs:=[]) h.e t.e (abD _) h2.e⟩
theorem J1{H:Hp}{ys:List V}{rs:List Rw}{i:Nat}(t:aD H ys (aF rs)):aD H (ys.eraseIdx i) (aF (rs.eraseIdx i)):=by
 have hl:ys.length=rs.length:=by rw[t.1,aW]
 refine⟨by rw[aW,List.length_eraseIdx,List.length_eraseIdx,hl],λj r e=>?_⟩;unfold aF at e;rw[wT,List.getElem?_eraseIdx] at e;rw[List.getElem?_eraseIdx];split at e
 ·rename_i hj;have e2:(aF rs)[j]?=some r:=by unfold aF;rw[List.getElem?_map];exact e
  rw[zS hj];exact t.2 j r e2
 ·rename_i hj;have e2:(aF rs)[j+1]?=some r:=by unfold aF;rw[List.getElem?_map];exact e
  rw[yB hj];exact t.2 (j+1) r e2
theorem wD{α:Type}{ls:List α}{i:Nat}{r:α}(h:ls[i]?=some r):(ls.eraseIdx i++[r]).Perm ls:=by
 induction ls generalizing i with
 | nil=>simp at h
 | cons a t ih =>
  cases i with
  | zero =>
   simp at h;subst h;exact List.perm_append_comm
  | succ i=>exact(ih (by simpa using h)).cons a
section
variable{P:Program}{w:World}{K:W.Frag}{mg:xC}{base:Heap}{c:Nat->Addr}{aC ao R CL CP CS:Addr}
theorem abE(T:Txt K mg c R CL CP CS aC ao):Def P w K mg base CX0 3 "_law_rows" ["_law_box_here","_law_many_here"] G8:=by
 have bJ:=bJ (P:=P) (w:=w) (base:=base) T;refine dA T.Us Mt λf cdv A outer s H vs Q E hr h=>?_
 obtain⟨bx,x,y,z,n,rfl,hbx,h16,iK,k⟩:=h;have nd:=Mt.nd;refine⟨_,(aq (psz 2 nd (aH aO (aX (aj (aG bJ hr (aj (pv 0) (aj au ak))) (aj au ak))) (dz qx rfl T.wu boot_int (aj (fB jf (aG bJ hr (aj (pv 0) (aj au ak))) au (aY _)) ak)) (λ_ _=>rfl)))
  (aq (psz 3 nd (aG (Yn T) hr (aj (pv 0) (aj (pv 2) ak))))
  (aq (psz 4 nd (aG bJ hr (aj (pv 0) (aj au ak))))
  (aq (psz 5 nd (aX ak))
  (aq (psz 6 nd au)
  (aq (cH PassesOwn.never rfl (cL rfl T.cY (aj (pv 2) ak)) (pgz 7 nd) (aq (psz 8 nd (aN b_ (pv 1) (pv 6)))
   (aB (bK (aU fY (pv 8) au (aY _)) (aq (psz 9 nd (aG bJ hr (aj (pv 0) (aj (aR (qw rfl) rfl T.GC boot_min (aj (pv 8) (aj au ak))) ak))))
    (aq (psz 10 nd (aG bJ hr (aj (pv 0) (aj (pv 8) ak))))
    (aq (psz 11 nd (aH aO (aX (aj au (aj au (aj (pv 9) (aj (pv 10) ak))))) (aG bJ hr (aj (pv 0) (aj au ak))) (λ_ _=>rfl)))
    (aq (psz 12 nd (aH aO (aX (aj au (aj au (aj au (aj au ak))))) (aG bJ hr (aj (pv 0) (aj au ak))) (λ_ _=>rfl)))
    (aq (psz 13 nd (aN bI au (aG bJ hr (aj (pv 0) (aj (aR (qw rfl) rfl T.GC boot_min (aj (aN b_ (pv 8) (pv 11)) (aj (pv 12) ak))) ak)))))
    (aq (psz 14 nd (aN jZ (aN bI au (aG bJ hr (aj (pv 0) (aj au ak)))) (dz qx rfl T.wu boot_int (aj (iz (fB jf (aG bJ hr (aj (pv 0) (aj au ak))) au (aY _)) (iV (fB fY (pv 4) au (aY _)))) ak))))
    (aq (cg (bR (pv 5) (bM (aj (aH aO (pv 3) (pv 7) (λ_ _=>rfl)) (aj (aN bI (pv 6) (pv 11)) (aj (pv 13) (aj (pv 14) ak)))))))
    (aB (psz 6 nd (aN bI (aN bI (pv 6) (pv 11)) (pv 13))))))))))) bf))))
  (aB (aL (pv 5))))))))),?_⟩
 clear nd bJ;rw[stE]
 try dsimp only[bT,bC]
 have F:SH H [bx] H [(bx,.lst [.int x,.int y,.int z])] []:=SH.nil.fP List.mem_cons_self hbx rfl (by simp)
 repeat k_meth
 have hidx:0<=(if decide (r_=0)=true then (1:Int) else 0)/\(if decide (r_=0)=true then (1:Int) else 0)<2:=by split <;> lia
 refine Ln SqA.e hidx.1 hidx.2 λv hv=>?_
 obtain⟨m,rfl,hm0,hm⟩:=Zo (lo:=0) (hi:=41) (xs:=[_,40]) hv (λa ha=>by
  simp only[List.mem_cons,List.not_mem_nil,or_false] at ha;rcases ha with rfl|rfl <;> lia) (by lia)
 clear hv hidx
 repeat k_meth
 intro nms nl nk nn
 repeat k_meth
 rename Addr=>rwA
 have⟨pd,hpd⟩:∃pd,pd=r_:=⟨_,rfl⟩;rw[<- hpd];rw[show ((m:Nat):Int).toNat=m by lia];refine jj (λi σ' H'=>∃(o7 o8 o9 o10 o11 o12 o13 o14:Option V)(at_:Nat)(rs:List Rw)(ys:List V)(x y z:Int),σ'=[some (.ref bx),some (.int (n:Nat)),some (.int (m:Nat)),some (.ref p_),some (.int pd),some (.ref rwA),some (.int (at_:Nat)),o7,o8,o9,o10,o11,o12,o13,o14]/\at_<=n/\Asc rs/\(∀r∈rs,gM r.nm/\1<=r.sz/\r.st+r.sz<=at_)/\(rs.map (·.nm)).Sublist (nms.take i)/\ys.length=rs.length/\SH H [bx] H' [(rwA,.lst ys),(p_,.lst (nms.map λcs=>V.str (tx cs))),(bx,.lst [.int x,.int y,.int z])] [.tps ys (aF rs)]) ⟨_,_,_,_,_,_,_,_,0,[],[],x_,y_,z_,rfl,Nat.zero_le _,List.Pairwise.nil,by simp,List.nil_sublist _,rfl,(F.cU (ys:=[]) (rs:=aF []) aD.nil).sub SbC.s SbI.s⟩ ?_ ?_
 ·clear F hpd lo_ hi_;rintro i σ' H' hi ⟨_,_,_,_,_,_,_,_,at_,rs,ys,x,y,z,rfl,hat,as,ok,sb,yl,F⟩;obtain⟨nm0,hnm⟩:∃nm0,nms[i]?=some nm0:=⟨nms[i]'(by lia),by simp⟩;have a1:AtI (nms.map λcs=>V.str (tx cs)) (i:Int) (.str (tx nm0)):=⟨bB (by rw[wT,hnm];rfl)⟩;have tkn:nms.take (i+1)=nms.take i++[nm0]:=by rw[gE,hnm];rfl
  have few:rs.length<=40:=by
   have:=sb.length_le;rw[wP,oQ] at this
   lia
  repeat k_meth
  refine d7 (λh=>?_) (λh=>?_)
  ·repeat k_meth
   refine Ln SqA.e lo_ hi_ λv hv=>?_
   obtain⟨g,rfl,hg0,hg⟩:=U4 (lo:=0) (hi:=(n:Int)-(at_:Int)) hv (by lia);clear hv
   repeat k_meth
   refine Ln SqA.e lo_ hi_ λv hv=>?_
   obtain⟨wd,rfl,hw0,hw⟩:=U4 (lo:=1) (hi:=241) hv (by lia);clear hv
   repeat k_meth
   rename_i zz _ _ _ zlo zhi _ r1 _ _ _ ajO ajP _;obtain⟨z1,rfl⟩:∃z1:Nat,zz=(z1:Int):=⟨zz.toNat,by lia⟩;refine d7 (λh0=>?_) (λh0=>?_)
   ·repeat k_meth
    rename Addr=>tq
    obtain⟨pn,hpn⟩:∃pn:Nat,(1+r1)*(if decide (pd > 0)=true then (1:Int) else 0)=(pn:Int):=⟨((1+r1)*(if decide (pd > 0)=true then (1:Int) else 0)).toNat,by have:0<=(1+r1)*(if decide (pd > 0)=true then (1:Int) else 0):=Int.mul_nonneg (by lia) (by split <;> lia);lia⟩;rw[hpn] at F ⊢;rw[show [V.str (tx nm0),V.int ((at_:Int)+(g:Int)),V.int (1+(z1:Int)),V.int (pn:Int)]=cB ⟨nm0,at_+g,1+z1,pn⟩ by simp[cB]] at F;have F2:=SH.app (ys:=ys) (rs:=aF rs) (q:=tq) (r:=cB ⟨nm0,at_+g,1+z1,pn⟩) F (LkP.m) (LkI.m);rw[<- jO] at F2;rw[show (at_:Int)+(g:Int)+(1+(z1:Int))=((at_+g+(1+z1):Nat):Int) by lia];refine⟨_,_,_,_,_,_,_,_,at_+g+(1+z1),rs++[⟨nm0,at_+g,1+z1,pn⟩],ys++[.ref tq],x_,y_,z_,rfl,by lia,Hf as (λs hs=>(ok s hs).2.2) (by show at_<=at_+g;lia),λs hs=>?_,?_,by simp[yl],F2.sub SbC.s SbI.s⟩
    ·rcases wS.mp hs with hs|hs
     ·have:=ok s hs;exact⟨this.1,this.2.1,by lia⟩
     ·rw[uS.mp hs];exact⟨nk _ (yY hnm),by show 1<=1+z1;lia,by show at_+g+(1+z1)<=_;lia⟩
    ·rw[List.map_append,tkn];exact List.Sublist.append sb (List.Sublist.refl _)
   ·repeat k_meth
    rename Addr=>tq
    obtain⟨pn,hpn⟩:∃pn:Nat,(1+r1)*(if false=true then (1:Int) else 0)=(pn:Int):=⟨((1+r1)*(if false=true then (1:Int) else 0)).toNat,by have:0<=(1+r1)*(if false=true then (1:Int) else 0):=Int.mul_nonneg (by lia) (by split <;> lia);lia⟩;rw[hpn] at F ⊢;rw[show [V.str (tx nm0),V.int ((at_:Int)+(g:Int)),V.int (1+(z1:Int)),V.int (pn:Int)]=cB ⟨nm0,at_+g,1+z1,pn⟩ by simp[cB]] at F;have F2:=SH.app (ys:=ys) (rs:=aF rs) (q:=tq) (r:=cB ⟨nm0,at_+g,1+z1,pn⟩) F (LkP.m) (LkI.m);rw[<- jO] at F2;rw[show (at_:Int)+(g:Int)+(1+(z1:Int))=((at_+g+(1+z1):Nat):Int) by lia];refine⟨_,_,_,_,_,_,_,_,at_+g+(1+z1),rs++[⟨nm0,at_+g,1+z1,pn⟩],ys++[.ref tq],x_,y_,z_,rfl,by lia,Hf as (λs hs=>(ok s hs).2.2) (by show at_<=at_+g;lia),λs hs=>?_,?_,by simp[yl],F2.sub SbC.s SbI.s⟩
    ·rcases wS.mp hs with hs|hs
     ·have:=ok s hs;exact⟨this.1,this.2.1,by lia⟩
     ·rw[uS.mp hs];exact⟨nk _ (yY hnm),by show 1<=1+z1;lia,by show at_+g+(1+z1)<=_;lia⟩
    ·rw[List.map_append,tkn];exact List.Sublist.append sb (List.Sublist.refl _)
  ·repeat k_meth
   exact⟨_,_,_,_,_,_,_,_,at_,rs,ys,x,y,z,rfl,hat,as,ok,sb.trans (by rw[tkn];exact List.sublist_append_left _ _),yl,F⟩
 ·clear F;rintro σ' H' ⟨_,_,_,_,_,_,_,_,at_,rs,ys,x,y,z,rfl,hat,as,ok,sb,yl,F⟩
  repeat k_meth
  exact k _ _ _ rs _ ys _ (lay_of hat as ok sb (nn.sublist (List.take_sublist _ _)) (by rw[oQ];lia)) as F.kpo aM aM TpA.e (F.fresh (LkL.m (o:=.lst _)) (nm1 (SH.neC (F:=F))))
theorem Yo(T:Txt K mg c R CL CP CS aC ao):Def P w K mg base CX0 2 "_law_mixed" ["_law_box_here","_law_some"] G9:=by
 refine dA T.Dh pC λf cdv A outer s H vs Q E hr h=>?_
 obtain⟨bx,l,x,y,z,ys,rs,rfl,hbx,hl,tp,hz,nbl,k⟩:=h;have nd:=pC.nd;refine⟨_,(aq (psz 2 nd (dz dB rfl T.fK boot_list (aj (pv 1) ak)))
  (aq (psz 3 nd (aX ak))
  (aq (nY PassesOwn.never (aU (ji hr) (pv 2) (aX ak) (aY _)) (aB (cg (bR (pv 3) (Lr (pv 2) (aG (bJ T) hr (aj (pv 0) (aj (aR bN rfl T.eE boot_len (aj (pv 2) ak)) ak))))))))
  (aB (aL (pv 3)))))),?_⟩
 clear nd;rw[stE]
 try dsimp only[bT,bC]
 have F:SH H [bx] H [(bx,.lst [.int x,.int y,.int z])] []:=SH.nil.fP List.mem_cons_self hbx rfl (by simp);have jW:=Old.mk (M:=[bx]) hl (nm1 (Ne.symm nbl));have yl:ys.length=rs.length:=by rw[tp.1,aW]
 replace F:=F.cU tp
 repeat k_meth
 rename Addr=>fd
 refine tG (λm σ' H'=>∃(ls fs:List Rw)(yl yf:List V)(x y z:Int),σ'=[some (.ref bx),some (.ref l),some (.ref p_),some (.ref fd)]/\m=ls.length/\(fs++ls).Perm rs/\yl.length=ls.length/\yf.length=fs.length/\SH H [bx] H' [(p_,.lst yl),(fd,.lst yf),(bx,.lst [.int x,.int y,.int z])] [.tps yl (aF ls),.tps yf (aF fs)]) ⟨rs.length,rs,[],ys,[],x,y,z,rfl,rfl,List.Perm.refl _,yl,rfl,(F.cU (ys:=[]) (rs:=aF []) aD.nil).sub SbC.s SbI.s⟩ ?_;clear F;rintro m σ' H' ⟨ls,fs,yl',yf,x,y,z,rfl,rfl,pm,h1,h2,F⟩;have pl:=pm.length_eq;rw[yT] at pl
 repeat k_meth
 by_cases hn:aF ls=[]
 ·repeat k_meth
  have e0:ls=[]:=List.map_eq_nil_iff.mp hn;rw[e0,mI] at pm;exact k _ _ _ fs _ yf _ pm F.kpo aM aM TpA.e (F.fresh (LkL.m (o:=.lst _)) (nm1 (SH.neC (F:=F))))
 ·have hp:0<ls.length:=by
   cases ls with
   | nil=>exact gL rfl hn
   | cons a t=>simp
  repeat k_meth
  refine⟨λσ' H'=>∃m',m'<ls.length/\_,λσ' H' h=>h,?_⟩
  repeat k_meth
  intro v hv
  repeat k_meth
  obtain⟨r,q,e1,rfl,e2⟩:=cF (H:=H_) (rs:=ls) TpA.e hv;have t1:=J1 (H:=H_) (ys:=yl') (rs:=ls) (i:=r_.toNat) TpA.e;have t2:aD H_ (yf++[.ref q]) (aF (fs++[r])):=by
   rw[jO];exact aD.snoc (TpA.e (H:=H_) (ys:=yf) (rs:=aF fs)) e2
  have hlt:=(qA.mp e1).1;refine⟨ls.length-1,by lia,ls.eraseIdx r_.toNat,fs++[r],yl'.eraseIdx r_.toNat,yf++[.ref q],x_,y_,z_,rfl,?_,?_,?_,?_,((F.cU t2).cU t1).sub SbC.s SbI.s⟩
  ·rw[List.length_eraseIdx,zS hlt]
  ·refine List.Perm.trans ?_ pm;rw[vS];exact(List.perm_append_comm.trans (wD e1)).append_left fs
  ·rw[List.length_eraseIdx,List.length_eraseIdx,h1]
  ·rw[yT,yT,h2]
   rfl
end
theorem abF{K:W.Frag}{l:Addr}{xs:List V}{rows:List (List V)}{σ fvs:L2.St}{fr:List Nat}{c:TT}{te:TE}{H:Hp}{Q:VK}{P:List V->Bool}(hq:H l=some (.lst xs))(tp:aD H xs rows)(hz:xs.length<=1000000)(hf:(fr.map λi=>(σ[i]?).getD none)=fvs)
  (G:Nat->List V->Hp->Prop) (st:∀i ys H1 H2,(∀q u,H1 q=some (.tup u)->H2 q=some (.tup u))->G i ys H1->G i ys H2) (g0:G 0 [] H)
  (U5:∀(i:Nat) (q:Addr) r (H':Hp) (R:Bool->Hp->Prop),rows[i]?=some r->Same H H'->H' q=some (.tup r)->(∀H2,Same H' H2->R (P r) H2)->c (some (.ref q)::fvs) H' R)
  (ae3:∀(i:Nat) (q:Addr) r ys (H':Hp) (R:VK),rows[i]?=some r->P r=true->Same H H'->H' q=some (.tup r)->G i ys H'->(∀y H2,Same H' H2->G (i+1) (ys++[y]) H2->R y H2)->te (some (.ref q)::fvs) H' R)
  (skip:∀(i:Nat) r ys (H':Hp),rows[i]?=some r->P r=false->G i ys H'->G (i+1) ys H')
  (k:∀p ys H',New H H' p (.lst ys)->G xs.length ys H'->Q (.ref p) H'):cu (Itl K l) 1 fr (bw 0) c te σ H Q:=by
 intro acc hacc;subst hf;have uI:∀b u,H b=some u->b≠acc:=λb u e=>aK e hacc
 have n0:New H (upd H acc (.lst [])) acc (.lst []):=.mk' hacc;refine oE (iC (xs:=xs)) (λi ys H'=>H' acc=some (.lst ys)/\Same H H'/\ys.length<=i/\G i ys H') ⟨n0.e,n0.s,uC _,st _ _ _ _ (λq u e=>n0.s _ _ e) g0⟩ (λi ys H' _ h=>⟨h.2.1.seq (SqL.of hq),h.1⟩) ?_ ?_
 ·rintro i x tv ys H' hx hi ⟨ha,hs,hl,hg⟩ htv;obtain⟨t0,rfl⟩:∃a,tv=[a]:=List.length_eq_one_iff.mp htv;obtain⟨r,q,e1,rfl,e2⟩:=oV tp hx;refine wn0 ?_;refine U5 i q r H' _ e1 hs (hs _ _ e2) λH2 s2=>?_
  have g2:=st _ _ _ _ (λq u e=>s2 _ _ e) hg;have ha2:H2 acc=some (.lst ys):=s2 _ _ ha;by_cases hp:P r=true
  ·rw[hp,zS rfl];refine ae3 i q r ys H2 _ e1 hp (hs.trans s2) (s2 _ _ (hs _ _ e2)) g2 λy H3 s3 g3=>⟨Nat.lt_of_le_of_lt hl (qE hi (bQ hz)),s3 _ _ ha2,jT.next (tv:=[some (.ref q)]) hi ⟨aV,λb u e=>?_,by rw[yT,List.length_singleton];lia,st _ _ _ _ (λq' u e=>?_) g3⟩ rfl⟩
   ·rw[aQ (uI b u e)];exact s3 _ _ (s2 _ _ (hs _ _ e))
   ·have e3:H3 acc=some (.lst ys):=s3 _ _ ha2;rw[aQ (λz=>by rw[z,e3] at e;cases e)];exact e
  ·have hp:P r=false:=by simpa using hp
   rw[hp,yB (by decide)];exact jT.next (tv:=[some (.ref q)]) hi ⟨ha2,hs.trans s2,by lia,skip i r ys H2 e1 hp g2⟩ rfl
 ·rintro ys H' ⟨ha,hs,_,hg⟩;exact k acc ys H' ⟨hs,ha,uI⟩ hg
section
variable{K:W.Frag}{H:Hp}{Q:VK}{l:Addr}{ns:List Int}
instance agD[h:SqA K H l (ns.map V.int)]:Go (Td K [.ref l] H Q) (Sd ((∀n∈ns,0<=n/\n<=1000000)/\ns.length<=1000000) (Q (.int ns.sum) H)):=⟨λs=>w_sumL h.e s.1.1 s.1.2 s.2⟩
end
def gp(rs:List Rw):List Int×Int:=rs.foldl (λg r=>(g.1++[(r.st:Int)-g.2],(r.st:Int)+(r.sz:Int))) ([],0)
theorem Nk(rs:List Rw)(r:Rw):gp (rs++[r])=((gp rs).1++[(r.st:Int)-(gp rs).2],(r.st:Int)+(r.sz:Int)):=by unfold gp;rw[List.foldl_append];rfl
theorem wF(rs:List Rw):(gp rs).1.length=rs.length:=by
 have:∀(rs:List Rw)(g:List Int×Int),(rs.foldl (λg r=>(g.1++[(r.st:Int)-g.2],(r.st:Int)+(r.sz:Int))) g).1.length=g.1.length+rs.length:=by
  intro rs
  induction rs with
  | nil=>intro g;rfl
  | cons r t ih=>intro g;rw[List.foldl_cons,ih];simp;lia
 have:=this rs ([],0);simpa[gp] using this
def aP(n:Nat)(rs:List Rw):List Int:=(gp rs).1++[(n:Int)-(gp rs).2]
theorem dh{rs:List Rw}{i:Nat}{r:Rw}(h:rs[i]?=some r):rs.take (i+1)=rs.take i++[r]:=by rw[gE,h];rfl
def within(a b:Int)(r:Rw):Bool:=decide (a<=(r.st:Int)) && decide ((r.st:Int)<b)
def iM(rs:List Rw)(a b:Int):Int:=b-a-((rs.filter (within a b)).map λr=>(r.sz:Int)).sum
def Aw(CL:Addr):Sp:=λvs H Q _=>∃(x p dx:Addr)(n:Nat)(zs:List V)(rs:List Rw),vs=[.ref x]/\H x=some (.ins CL dx (lF (n:Nat) p))/\H p=some (.lst zs)/\aD H zs (aF rs)/\rs.length<=40/\∀q H',New H H' q (.lst ((aP n rs).map V.int))->Q (.ref q) H'
def wG(CL:Addr):Sp:=λvs H Q _=>∃(x p dx:Addr)(n:Nat)(zs:List V)(rs:List Rw)(a b:Int),vs=[.ref x,.int a,.int b]/\H x=some (.ins CL dx (lF (n:Nat) p))/\H p=some (.lst zs)/\aD H zs (aF rs)/\rs.length<=40/\∀q ys H',New H H' q (.lst ys)->aD H' ys (aF (rs.filter (within a b)))->Q (.ref q) H'
def Hg(CL:Addr):Sp:=λvs H Q _=>∃(x p dx:Addr)(n:Nat)(zs:List V)(rs:List Rw)(a b:Int),vs=[.ref x,.int a,.int b]/\H x=some (.ins CL dx (lF (n:Nat) p))/\H p=some (.lst zs)/\aD H zs (aF rs)/\(rs.length<=40/\∀r∈rs,r.sz<=240)/\∀H',Same H H'->Q (.int (iM rs a b)) H'
section
variable{CL x p dx:Addr}{H:Hp}{Q:VK}{E:XK}{n:Nat}{zs:List V}{rs:List Rw}{a b:Int}
instance acP[h:Hat H x (.ins CL dx (lF (n:Nat) p))][h2:Hat H p (.lst zs)][t:TpA H zs (aF rs)]:Go (Aw CL [.ref x] H Q E) (Sd (rs.length<=40) (∀q H',New H H' q (.lst ((aP n rs).map V.int))->Q (.ref q) H')):=⟨λs=>⟨x,p,dx,n,zs,rs,rfl,h.e,h2.e,t.e,s.1,s.2⟩⟩
instance abG[h:Hat H x (.ins CL dx (lF (n:Nat) p))][h2:Hat H p (.lst zs)][t:TpA H zs (aF rs)]:Go (wG CL [.ref x,.int a,.int b] H Q E) (Sd (rs.length<=40) (∀q ys H',New H H' q (.lst ys)->aD H' ys (aF (rs.filter (within a b)))->Q (.ref q) H')):=⟨λs=>⟨x,p,dx,n,zs,rs,a,b,rfl,h.e,h2.e,t.e,s.1,s.2⟩⟩
instance ae4[h:Hat H x (.ins CL dx (lF (n:Nat) p))][h2:Hat H p (.lst zs)][t:TpA H zs (aF rs)]:Go (Hg CL [.ref x,.int a,.int b] H Q E) (Sd (rs.length<=40/\∀r∈rs,r.sz<=240) (∀H',Same H H'->Q (.int (iM rs a b)) H')):=⟨λs=>⟨x,p,dx,n,zs,rs,a,b,rfl,h.e,h2.e,t.e,s.1,s.2⟩⟩
end
def abH(a b:Int)(r:List V):Bool:=match r with
 | [_,.int s,_,_]=>decide (a<=s) && decide (s<b)
 | _=>false
theorem Qf(rs:List Rw)(a b:Int):(aF rs).filter (abH a b)=aF (rs.filter (within a b)):=by
 unfold aF;rw[List.filter_map]
 rfl
theorem Ax{rows:List (List V)}{i:Nat}{r:List V}(h:rows[i]?=some r):rows.take (i+1)=rows.take i++[r]:=by rw[gE,h];rfl
theorem Yp{H1 H2:Hp}{ys:List V}{rows:List (List V)}(s:∀q u,H1 q=some (.tup u)->H2 q=some (.tup u))(t:aD H1 ys rows):aD H2 ys rows:=⟨t.1,λj r e=>let ⟨q,a,b⟩:=t.2 j r e;⟨q,a,s _ _ b⟩⟩
section
variable{P:Program}{w:World}{K:W.Frag}{mg:xC}{base:Heap}{c:Nat->Addr}{aC ao R CL CP CS:Addr}
theorem iI(T:Txt K mg c R CL CP CS aC ao):Def P w K mg base CX0 2 "gaps_of" ["layout"] (Aw CL):=by
 refine dA T.Gh zy λf cdv A outer s H vs Q E hr h=>?_
 obtain⟨x,p,dx,n,zs,rs,rfl,hx,hp,tp,few,k⟩:=h;have nd:=zy.nd;refine⟨_,(aq (psz 1 nd (aX ak))
  (aq (psz 2 nd au)
  (aq (cH PassesOwn.never rfl (cC (cG (pv 0) T.clL (cV T) hr)) (pgz 3 nd) (aq (cg (bR (pv 1) (aN b_ (aH aZ (pv 3) au (λ_ _=>rfl)) (pv 2))))
   (aB (psz 2 nd (aG (iH T) hr (aj (aG (eX T) hr (aj (pv 3) ak)) ak))))))
  (aB (aL (aN gR (pv 1) (aX (aj (aN b_ (gh (pv 0) rfl) (pv 2)) ak)))))))),?_⟩
 clear nd;rw[stE]
 try dsimp only[bT,bC]
 have gJ:=om hx;have fL:=om hp;have gW:=eO.mk tp;have F:=SH.n0 H
 repeat k_meth
 rename_i _ gl
 rename Addr=>bl
 refine fH (xs:=zs) (λi σ' H'=>∃o3:Option V,σ'=[some (.ref x),some (.ref gl),some (.int (gp (rs.take i)).2),o3]/\SH H [] H' [(gl,.lst ((gp (rs.take i)).1.map V.int)),(bl,.lst zs)] []) ⟨_,rfl,F.Cu (L':=[(gl,.lst []),(bl,.lst zs)])⟩ ?_ ?_ ?_
 ·clear F;rintro i σ' H' _ ⟨_,rfl,F⟩;exact SqA.e
 ·clear F;rintro i v σ' H' hv ⟨_,rfl,F⟩;obtain⟨r,q1,e1,rfl,e2⟩:=cF tp hv;have lH:=om e2;have gl1:=wF (rs.take i);rw[oQ] at gl1
  repeat k_meth
  refine⟨_,by rw[dh e1,Nk],?_⟩;rw[dh e1,Nk];simp only[List.map_append,List.map_cons,List.map_nil];exact F.Cu
 ·clear F;rintro σ' H' ⟨_,rfl,F⟩;have gl1:=wF rs;rw[show zs.length=rs.length by rw[tp.1,aW],List.take_length] at F ⊢
  repeat k_meth
  rw[show (gp rs).1.map V.int++[V.int ((n:Int)-(gp rs).2)]=(aP n rs).map V.int by unfold aP;rw[List.map_append];rfl] at F;exact k _ _ SH.nwC
theorem Qg(T:Txt K mg c R CL CP CS aC ao):Def P w K mg base CX0 2 "blocks_between" ["layout","first","behind"] (wG CL):=by
 refine dA T.z9 vm λf cdv A outer s H vs Q E hr h=>?_
 obtain⟨x,p,dx,n,zs,rs,a,b,rfl,hx,hp,tp,few,k⟩:=h;have nd:=vm.nd;refine⟨_,(aB (aL (dI (N:=["block","first","behind"]) (nt:=1) (fr:=[1,2]) (cC (cG (pv 0) T.clL (cV T) hr)) (λ_ _ _ _=>(cj (i:=0) (show (["block","first","behind"]:List Str).Nodup from by decide +kernel) rfl (Or.inl rfl))) (λ_ _ _ _=>lO (tW rG nZ (pv 1) (aH (cX (K:=K) rfl) (pv 0) au (λ_ _=>rfl)) (pv 2))) (λ_ _ _ _=>(pv 0))))),?_⟩;clear nd;rw[stE]
 try dsimp only[bT,bC]
 have gJ:=om hx;have fL:=om hp;have gW:=eO.mk tp;have F:=SH.n0 H;have yl:zs.length=rs.length:=by rw[tp.1,aW]
 repeat k_meth
 refine abF (P:=abH a b) (fvs:=[some (.int a),some (.int b)]) aM (TpA.e (rs:=aF rs)) (by lia) rfl (λi ys H'=>aD H' ys (((aF rs).take i).filter (abH a b))) (λi ys H1 H2 s t=>Yp s t) aD.nil (λi q1 r H' R e1 s1 e2 kk=>?_) (λi q1 r ys H' R e1 hp s1 e2 g kk=>?_) (λi r ys H' e1 hp g=>by rw[Ax e1,List.filter_append,List.filter_cons_of_neg (by simp[hp]),List.filter_nil,List.append_nil];exact g) λq ys H' n1 g=>?_
 ·clear F;have F:SH H' [] H' [] []:=SH.nil;obtain⟨s,_,rfl⟩:=jI.mp (yY e1);have lH:=om e2;have kk:∀H2,Same H' H2->R (decide (a<=(s.st:Int)) && decide ((s.st:Int)<b)) H2:=kk
  repeat k_meth
  refine d7 (λh=>?_) (λh=>?_)
  ·repeat k_meth
   rw[gX h,Bool.true_and] at kk;exact kk _ (Same.refl _)
  ·repeat k_meth
   rw[gS h,Bool.false_and] at kk;exact kk _ (Same.refl _)
 ·repeat k_meth
  refine kk _ _ (Same.refl _) ?_;rw[Ax e1,List.filter_append,List.filter_cons_of_pos hp,List.filter_nil];exact aD.snoc g e2
 ·rw[nV (by rw[aW];lia),Qf] at g;replace F:=F.newR n1 g
  repeat k_meth
  exact k _ _ _ SH.nwC TpA.e
theorem Nm(T:Txt K mg c R CL CP CS aC ao):Def P w K mg base CX0 3 "free_between" ["layout","first","behind"] (Hg CL):=by
 refine dA T.M4 FJ λf cdv A outer s H vs Q E hr h=>?_
 obtain⟨x,p,dx,n,zs,rs,a,b,rfl,hx,hp,tp,few,k⟩:=h;have nd:=FJ.nd;refine⟨_,(aB (aL (aN b_ (aN b_ (pv 2) (pv 1)) (aR (qy rfl) rfl T.M9 boot_sum (aj (dI (N:=["block"]) (nt:=1) (fr:=[]) (cC (aG (Qg T) hr (aj (pv 0) (aj (pv 1) (aj (pv 2) ak))))) (λ_ _ _ _=>(cj (i:=0) (show (["block"]:List Str).Nodup from by decide +kernel) rfl (Or.inl rfl))) (λ_ _ _ _=>dU) (λ_ _ _ _=>(aH (cX (K:=K) rfl) (pv 0) au (λ_ _=>rfl)))) ak))))),?_⟩;clear nd;rw[stE]
 try dsimp only[bT,bC]
 have gJ:=om hx;have fL:=om hp;have gW:=eO.mk tp;have F:=SH.n0 H;have aiu:=few.1;have fl:(rs.filter (within a b)).length<=40:=rX (List.length_filter_le _ _) few.1
 repeat k_meth
 refine gw (F:=λr=>r.getD 2 .non) aM (TpA.e (rs:=aF (rs.filter (within a b)))) (by lia) rfl (λq r H1 R hr s1 e1 kk=>?_) ?_
 ·clear F;have F:=SH.n0 H1;obtain⟨s,_,rfl⟩:=jI.mp hr;have U6:=om e1
  repeat k_meth
  exact kk _ (Same.refl _)
 ·have e5:(aF (rs.filter (within a b))).map (λr=>r.getD 2 V.non)=((rs.filter (within a b)).map λr=>((r.sz:Nat):Int)).map V.int:=by
   unfold aF;rw[List.map_map,List.map_map]
   rfl
  rw[e5];have side:(∀n∈(rs.filter (within a b)).map λr=>((r.sz:Nat):Int),0<=n/\n<=1000000)/\((rs.filter (within a b)).map λr=>((r.sz:Nat):Int)).length<=1000000:=by
   refine⟨λn hn=>?_,by rw[wP];lia⟩;obtain⟨r,hr,rfl⟩:=jI.mp hn;have:=few.2 r (List.mem_filter.mp hr).1
   lia
  repeat k_meth
  exact k _ F.sm
end
abbrev W3:=Int×Int×Int
abbrev Yq(w:W3):List V:=[V.int w.1,V.int w.2.1,V.int w.2.2]
def jw(ws:List W3):List (List V):=ws.map Yq
theorem Qh(ws:List W3):(jw ws).length=ws.length:=wP ..
theorem wH(ws:List W3)(w:W3):jw (ws++[w])=jw ws++[Yq w]:=by unfold jw;rw[List.map_append];rfl
def spF(r0 rs:List Rw):List W3×Int:=rs.foldl (λg r=>if 0<r.pn then (g.1++[(g.2,(r.st:Int),iM r0 g.2 r.st)],(r.st:Int)+(r.sz:Int)) else g) ([],0)
theorem iJ(r0 rs:List Rw)(r:Rw):spF r0 (rs++[r])=if 0<r.pn then ((spF r0 rs).1++[((spF r0 rs).2,(r.st:Int),iM r0 (spF r0 rs).2 r.st)],(r.st:Int)+(r.sz:Int)) else spF r0 rs:=by unfold spF;rw[List.foldl_append];rfl
def abI(n:Nat)(rs:List Rw):List W3:=(spF rs rs).1++[((spF rs rs).2,(n:Int),iM rs (spF rs rs).2 n)]
theorem ae5{P:List Rw->Prop}(h0:P [])(h1:∀rs r,P rs->P (rs++[r]))(rs:List Rw):P rs:=by
 have:∀n,∀rs:List Rw,rs.length=n->P rs:=by
  intro n
  induction n with
  | zero=>intro rs h;rw[List.length_eq_zero_iff.mp h];exact h0
  | succ n ih =>
   intro rs h;have hne:rs≠[]:=λz=>by rw[z] at h;simp at h
   have e:=List.dropLast_concat_getLast hne;rw[<- e];exact h1 _ _ (ih _ (by rw[List.length_dropLast];lia))
 exact this rs.length rs rfl
theorem Np(r0 rs:List Rw):(spF r0 rs).1.length<=rs.length:=by
 induction rs using ae5 with
 | h0=>exact uC _
 | h1 rs r ih =>
  rw[iJ];split
  ·simp only[List.length_append,List.length_singleton];lia
  ·simp only[List.length_append,List.length_singleton];lia
def pQ(CL:Addr):Sp:=λvs H Q _=>∃(x p dx:Addr)(n:Nat)(zs:List V)(rs:List Rw),vs=[.ref x]/\H x=some (.ins CL dx (lF (n:Nat) p))/\H p=some (.lst zs)/\aD H zs (aF rs)/\(rs.length<=40/\∀r∈rs,r.sz<=240)/\∀q ys H',New H H' q (.lst ys)->aD H' ys (jw (abI n rs))->Q (.ref q) H'
section
variable{CL x p dx q:Addr}{H H0:Hp}{M:List Addr}{L:List (Addr×HO)}{I:List Im}{Q:VK}{E:XK}{n:Nat}{xs ys zs:List V}{rs:List Rw}{ws:List W3}{Z:Addr->Hp->Prop}{te:TE}{fr:List Nat}{σ fvs:L2.St}{i:Int}
instance Yr[h:Hat H x (.ins CL dx (lF (n:Nat) p))][h2:Hat H p (.lst zs)][t:TpA H zs (aF rs)]:Go (pQ CL [.ref x] H Q E) (Sd (rs.length<=40/\∀r∈rs,r.sz<=240) (∀q ys H',New H H' q (.lst ys)->aD H' ys (jw (abI n rs))->Q (.ref q) H')):=⟨λs=>⟨x,p,dx,n,zs,rs,rfl,h.e,h2.e,t.e,s.1,s.2⟩⟩
instance ae6[F:SH H0 M H L I]:Go (∀p ys H',New H H' p (.lst ys)->aD H' ys (jw ws)->Z p H') (∀H' p ys,ys.length=ws.length->SH H0 M H' ((p,.lst ys)::L) (.tps ys (jw ws)::I)->Z p H'):=⟨λk p ys H' n t=>k H' p ys (by rw[t.1,Qh]) (F.newR n t)⟩
theorem Qi{J:It}{Lk:Hp->Prop}(it:L2.ItemsOf J xs Lk)(hz:xs.length<=1000000)(hf:(fr.map λi=>(σ[i]?).getD none)=fvs)(hL:∀H',Same H H'->Lk H')
  (turn:∀(v:V)(H':Hp)(R:VK),v∈xs->Same H H'->(∀H2,Same H' H2->R (.bl true) H2)->te (some v::fvs) H' R) (k:∀p H',New H H' p (.lst ((List.replicate xs.length true).map V.bl))->Q (.ref p) H'):cu J 1 fr (bw 0) mH te σ H Q:=by
 refine comp_map (P:=λi y=>y=.bl true) it hz hf hL (λi v H' R hv s kk=>turn v H' R (yY hv) s λH2 s2=>kk _ _ s2 rfl) λp H' ys n hl hP=>k p H' ?_
 have e:ys=(List.replicate xs.length true).map V.bl:=by
  rw[List.map_replicate,List.eq_replicate_iff];refine⟨hl,λb hb=>?_⟩;obtain⟨i,hi,e⟩:=List.getElem_of_mem hb;exact hP i b (by rw[<- e];simp)
 rw[e] at n;exact n
end
section
variable{P:Program}{w:World}{K:W.Frag}{mg:xC}{base:Heap}{c:Nat->Addr}{aC ao R CL CP CS:Addr}
theorem Hh(T:Txt K mg c R CL CP CS aC ao):Def P w K mg base CX0 4 "stretches_of" ["layout"] (pQ CL):=by
 refine dA T.rZ pD λf cdv A outer s H vs Q E hr h=>?_
 obtain⟨x,p,dx,n,zs,rs,rfl,hx,hp,tp,few,k⟩:=h;have nd:=pD.nd;refine⟨_,(aq (psz 1 nd (aX ak))
  (aq (psz 2 nd au)
  (aq (cH PassesOwn.never rfl (cC (cG (pv 0) T.clL (cV T) hr)) (pgz 3 nd) (aB (bK (aU fY (aH aZ (pv 3) au (λ_ _=>rfl)) au (aY _)) (aq (cg (bR (pv 1) (bM (aj (pv 2) (aj (aH aZ (pv 3) au (λ_ _=>rfl)) (aj (aG (Nm T) hr (aj (pv 0) (aj (pv 2) (aj (aH aZ (pv 3) au (λ_ _=>rfl)) ak)))) ak))))))
    (aB (psz 2 nd (aG (iH T) hr (aj (aG (eX T) hr (aj (pv 3) ak)) ak))))) bf)))
  (aq (cg (bR (pv 1) (bM (aj (pv 2) (aj (gh (pv 0) rfl) (aj (aG (Nm T) hr (aj (pv 0) (aj (pv 2) (aj (gh (pv 0) rfl) ak)))) ak))))))
  (aB (aL (pv 1))))))),?_⟩
 clear nd;rw[stE]
 try dsimp only[bT,bC]
 have gJ:=om hx;have fL:=om hp;have gW:=eO.mk tp;have F:=SH.n0 H;have aiu:=few.1
 repeat k_meth
 rename_i _ sl
 rename Addr=>bl
 refine fH (xs:=zs) (λi σ' H'=>∃(o3:Option V)(ys:List V),σ'=[some (.ref x),some (.ref sl),some (.int (spF rs (rs.take i)).2),o3]/\ys.length=(spF rs (rs.take i)).1.length/\SH H [] H' [(sl,.lst ys),(bl,.lst zs)] [.tps ys (jw (spF rs (rs.take i)).1)]) ⟨_,[],rfl,rfl,(F.cU (ys:=[]) (rs:=jw []) aD.nil).sub SbC.s (λ_ h=>h)⟩ ?_ ?_ ?_
 ·clear F;rintro i σ' H' _ ⟨_,ys,rfl,yl,F⟩;exact SqA.e
 ·clear F;rintro i v σ' H' hv ⟨_,ys,rfl,yl,F⟩;obtain⟨r,q1,e1,rfl,e2⟩:=cF tp hv;have lH:=om e2;have sl1:=Np rs (rs.take i);rw[oQ] at sl1
  repeat k_meth
  refine d7 (λh=>?_) (λh=>?_)
  ·have hp:0<r.pn:=by lia
   repeat k_meth
   rename Addr=>zz
   have F2:=SH.app (ys:=ys) (rs:=jw (spF rs (rs.take i)).1) (q:=p_) (r:=Yq ((spF rs (rs.take i)).2,(r.st:Int),iM rs (spF rs (rs.take i)).2 r.st)) F (LkP.m) (LkI.m);rw[<- wH] at F2;refine⟨_,ys++[.ref p_],by rw[dh e1,iJ,if_pos hp],by rw[dh e1,iJ,if_pos hp];simp[yl],?_⟩;rw[dh e1,iJ,zS hp];exact F2.sub SbC.s SbI.s
  ·have hp:¬ 0<r.pn:=by lia
   repeat k_meth
   refine⟨_,ys,by rw[dh e1,iJ,yB hp],by rw[dh e1,iJ,yB hp];exact yl,?_⟩;rw[dh e1,iJ,yB hp];exact F
 ·clear F;rintro σ' H' ⟨_,ys,rfl,yl,F⟩;have sl1:=Np rs rs;rw[show zs.length=rs.length by rw[tp.1,aW],List.take_length] at F yl ⊢
  repeat k_meth
  rename Addr=>tq
  have F2:=SH.app (ys:=ys) (rs:=jw (spF rs rs).1) (q:=tq) (r:=Yq ((spF rs rs).2,(n:Int),iM rs (spF rs rs).2 n)) F (LkP.m) (LkI.m);rw[<- wH] at F2;exact k _ _ _ (SH.nwC (F:=F2)) (F2.tps zC)
end
abbrev PR:=List (Option Int)
def pV:Option Int->V
 | none=>.non
 | some i=>.int i
def je(s:Nat):PR:=some 0::List.replicate s none
def J2(r:Rw)(b:PR)(c:Int)(x:Nat):Option Int:=((b[((x:Int)-c).toNat]?).getD none).map λy=>(r.sz:Int)+y
def nJ(r:Rw)(b:PR)(c:Int)(s:Nat):PR:=if 0<r.pn then je s else some 0::(List.range s).map λj=>J2 r b c (j+1)
theorem pR(s:Nat):(je s).length=s+1:=by simp[je]
theorem Hi(r:Rw)(b:PR)(c:Int)(s:Nat):(nJ r b c s).length=s+1:=by unfold nJ;split <;> simp[je]
theorem abJ(s:Nat):(je s).map pV=V.int 0::List.replicate s V.non:=by simp[je,pV]
def prf(r:Rw)(b:PR)(c:Int)(s i:Nat):PR:=some 0::((List.range i).map (λj=>J2 r b c (j+1))++List.replicate (s-i) none)
theorem U7(r:Rw)(b:PR)(c:Int)(s:Nat):prf r b c s 0=je s:=by simp[prf,je]
theorem Ys{r:Rw}{b:PR}{c:Int}{s:Nat}(h:¬ 0<r.pn):prf r b c s s=nJ r b c s:=by
 unfold prf nJ;rw[yB h];simp
theorem U8{r:Rw}{b:PR}{c:Int}{s i:Nat}(h:i<s):prf r b c s (i+1)=(prf r b c s i).set (i+1) (J2 r b c (i+1)):=by
 unfold prf;rw[List.set_cons_succ,List.set_append_right _ _ (by simp)];obtain⟨d,hd⟩:∃d,s-i=d+1:=⟨s-i-1,by lia⟩;rw[show s-(i+1)=d by lia,hd,List.replicate_succ,wP,List.length_range,Nat.sub_self,List.set_cons_zero,List.range_succ,List.map_append,vS]
 rfl
theorem U9{r:Rw}{b:PR}{c:Int}{s i:Nat}(h:i<s)(e:J2 r b c (i+1)=none):prf r b c s (i+1)=prf r b c s i:=by
 unfold prf;obtain⟨d,hd⟩:∃d,s-i=d+1:=⟨s-i-1,by lia⟩;rw[show s-(i+1)=d by lia,hd,List.replicate_succ,List.range_succ,List.map_append,vS,oS,List.map_nil,e]
 rfl
theorem Yt{r:Rw}{b:PR}{c:Int}{s i:Nat}(h:i<=s):(prf r b c s i).length=s+1:=by
 unfold prf;simp
 lia
def Hj:Sp:=λvs H Q _=>∃s:Nat,vs=[.int (s:Nat)]/\s<=240/\∀q H',New H H' q (.lst ((je s).map pV))->Q (.ref q) H'
def Ay:Sp:=λvs H Q _=>∃(q l:Addr)(r:Rw)(b:PR)(c:Int)(s:Nat),vs=[.ref q,.ref l,.int c,.int (s:Nat)]/\H q=some (.tup (cB r))/\H l=some (.lst (b.map pV))/\b.length=s+1/\(s<=240/\0<=c)/\∀z H',New H H' z (.lst ((nJ r b c s).map pV))->Q (.ref z) H'
section
variable{H:Hp}{Q:VK}{E:XK}{q:Addr}{s:Nat}
instance ae7:Go (Hj [.int (s:Nat)] H Q E) (Sd (s<=240) (∀q H',New H H' q (.lst ((je s).map pV))->Q (.ref q) H')):=⟨λk=>⟨s,rfl,k.1,k.2⟩⟩
end
section
variable{P:Program}{w:World}{K:W.Frag}{mg:xC}{base:Heap}{c:Nat->Addr}{aC ao R CL CP CS:Addr}
theorem Dl(T:Txt K mg c R CL CP CS aC ao):Def P w K mg base CX0 1 "row_at_end" ["size"] Hj:=by
 refine dA T.MN Fy λf cdv A outer s H vs Q E hr h=>?_
 obtain⟨s,rfl,hs,k⟩:=h;have nd:=Fy.nd;refine⟨_,(aB (aL (aN gR (aX (aj au ak)) (aN K9 (aX (aj cZ ak)) (pv 0))))),?_⟩;clear nd ;rw[stE]
 try dsimp only[bT,bC]
 have F:=SH.n0 H
 repeat k_meth
 rw[show [V.int 0]++List.replicate s V.non=(je s).map pV from(abJ s).symm] at F;exact k _ _ SH.nwC
theorem Hl(T:Txt K mg c R CL CP CS aC ao):Def P w K mg base CX0 2 "row_beside" ["block","beyond","cells","size"] Ay:=by
 refine dA T.Gi zA λf cdv A outer s H vs Q E hr h=>?_
 obtain⟨q,l,r,b,c,s,rfl,hq,hl,bl,side,k⟩:=h;have nd:=zA.nd;refine⟨_,(aq (psz 4 nd (aG (Dl T) hr (aj (pv 3) ak)))
  (aq (bK (aU fY (aH aZ (pv 0) au (λ_ _=>rfl)) au (aY _)) (aB (aL (pv 4))) bf)
  (aq (cH PassesOwn.never rfl (yq rfl T.cY (aj au (aj (aN bI (pv 3) au) ak))) (pgz 5 nd) (aq (psz 6 nd (aH aO (pv 1) (aR (gZ rfl) rfl T.pK boot_max (aj au (aj (aN b_ (pv 5) (pv 2)) ak))) (λ_ _=>rfl)))
   (aB (bK (aU kj (pv 6) cZ (aY _)) (aB (jB (aN bI (aH aZ (pv 0) au (λ_ _=>rfl)) (pv 6)) (qj (pv 4) (pv 5) gY))) bf))))
  (aB (aL (pv 4)))))),?_⟩
 clear nd;rw[stE]
 try dsimp only[bT,bC]
 have Yj:=om hq;have jW:=om hl;have F:=SH.n0 H;obtain⟨Qj,c0⟩:=side
 repeat k_meth
 refine d7 (λh=>?_) (λh=>?_)
 ·repeat k_meth
  rw[show je s=nJ r b c s from(zS (by lia)).symm] at F;exact k _ _ SH.nwC
 repeat k_meth
 rename Addr=>rw_
 rw[show ((s:Int)+1-1).toNat=s by lia];refine Lp (λj σ' H'=>∃(o5 o6:Option V),σ'=[some (.ref q),some (.ref l),some (.int c),some (.int (s:Nat)),some (.ref rw_),o5,o6]/\SH H [] H' [(rw_,.lst ((prf r b c s j).map pV))] []) ⟨_,_,rfl,by rw[U7];exact F⟩ ?_ ?_
 ·clear F;rintro j σ' H' hj ⟨_,_,rfl,F⟩;obtain⟨y,hy⟩:∃y,b[((((j+1:Nat):Int))-c).toNat]?=some y:=⟨_,qB (by lia)⟩;have ae8:AtI (b.map pV) (max 0 (1+(j:Int)-c)) (pV y):=⟨by
   rw[show max 0 (1+(j:Int)-c)=(((((j+1:Nat):Int))-c).toNat:Int) by lia];exact bB (by rw[wT,hy];rfl)⟩
  have ev:J2 r b c (j+1)=y.map λz=>(r.sz:Int)+z:=by unfold J2;rw[hy];rfl
  have pl:=Yt (r:=r) (b:=b) (c:=c) (s:=s) (i:=j) (by lia);cases y with
  | none =>
   have aiv:AtI (b.map pV) (max 0 (1+(j:Int)-c)) .non:=ae8
   repeat k_meth
   rw[U9 hj ev];exact⟨_,_,rfl,F⟩
  | some z =>
   have aiv:AtI (b.map pV) (max 0 (1+(j:Int)-c)) (.int z):=ae8
   repeat k_meth
   rw[show (1+(j:Int)).toNat=j+1 by lia,show V.int ((r.sz:Int)+z)=pV (some ((r.sz:Int)+z)) from rfl,<- List.map_set] at F;rw[U8 hj,ev];exact⟨_,_,rfl,F⟩
 ·clear F;rintro σ' H' ⟨_,_,rfl,F⟩;rw[Ys (by lia)] at F
  repeat k_meth
  exact k _ _ SH.nwC
end
instance acQ{H:Hp}{Q:VK}{E:XK}{q l:Addr}{r:Rw}{b:PR}{c:Int}{s:Nat}[h:Hat H q (.tup (cB r))][h2:Hat H l (.lst (b.map pV))]:Go (Ay [.ref q,.ref l,.int c,.int (s:Nat)] H Q E) (Sd (b.length=s+1) (Sd (s<=240/\0<=c) (∀z H',New H H' z (.lst ((nJ r b c s).map pV))->Q (.ref z) H'))):=⟨λk=>⟨q,l,r,b,c,s,rfl,h.e,h2.e,k.1,k.2.1,k.2.2⟩⟩
def gO(H:Hp)(ys:List V)(T:List PR):Prop:=ys.length=T.length/\∀(j:Nat)(r:PR),T[j]?=some r->∃q:Addr,ys[j]?=some (V.ref q)/\H q=some (.lst (r.map pV))
theorem gO.kept{H H':Hp}{ys:List V}{T:List PR}(h:gO H ys T)(k:∀q u,V.ref q∈ys->H q=some u->H' q=some u):gO H' ys T:=⟨h.1,λj r e=>by
 obtain⟨q,a,b⟩:=h.2 j r e;exact⟨q,a,k q _ (yY a) b⟩⟩
theorem gO.nil{H:Hp}:gO H [] []:=⟨rfl,λj r e=>by cases e⟩
theorem gO.snoc{H:Hp}{ys:List V}{T:List PR}{q:Addr}{r:PR}(h:gO H ys T)(e:H q=some (.lst (r.map pV))):gO H (ys++[.ref q]) (T++[r]):=by
 refine⟨by simp[h.1],λj r' e'=>?_⟩;rcases Nat.lt_or_ge j T.length with hj|hj
 ·rw[wE hj] at e';obtain⟨q',a,b⟩:=h.2 j r' e';exact⟨q',by rw[wE (by rw[h.1];exact hj)];exact a,b⟩
 ·rw[nE hj] at e';cases h0:j-T.length with
  | zero =>
   rw[h0] at e';cases e';exact⟨q,by rw[nE (by rw[h.1];exact hj),h.1,h0];rfl,e⟩
  | succ d=>rw[h0] at e';simp at e'
theorem gO.rev{H:Hp}{ys:List V}{T:List PR}(h:gO H ys T):gO H ys.reverse T.reverse:=by
 refine⟨by simp[h.1],λj r e=>?_⟩;have hj:j<T.length:=by have:=(List.getElem?_eq_some_iff.mp e).1;simpa using this
 rw[List.getElem?_reverse hj] at e;obtain⟨q,a,b⟩:=h.2 _ r e;exact⟨q,by rw[List.getElem?_reverse (by rw[h.1];exact hj),h.1];exact a,b⟩
def fZ(rs:List Rw)(gs:List Int)(s:Nat):Nat->PR
 | 0=>je s
 | i+1=>match rs[i]? with
  | some r=>nJ r (fZ rs gs s i) (gs.getD i 0) s
  | none=>je s
def lJ(rs:List Rw)(gs:List Int)(s m:Nat):List PR:=(List.range (m+1)).map (fZ rs gs s)
theorem Az(rs:List Rw)(gs:List Int)(s i:Nat):(fZ rs gs s i).length=s+1:=by
 cases i with
 | zero=>exact pR s
 | succ i =>
  unfold fZ;cases rs[i]? with
  | none=>exact pR s
  | some r=>exact Hi _ _ _ _
theorem J3{rs:List Rw}{gs:List Int}{s m:Nat}{r:Rw}(h:rs[m]?=some r):lJ rs gs s (m+1)=lJ rs gs s m++[nJ r (fZ rs gs s m) (gs.getD m 0) s]:=by
 unfold lJ;rw[List.range_succ,List.map_append,oS,List.map_nil]
 congr 2
 show fZ rs gs s (m+1)=_;rw[fZ,h]
theorem U_{rs:List Rw}{gs:List Int}{s m:Nat}:(lJ rs gs s m)[m]?=some (fZ rs gs s m):=by
 unfold lJ;rw[wT,List.getElem?_range (by lia)]
 rfl
def Yu(CL:Addr):Sp:=λvs H Q _=>∃(x p dx:Addr)(n:Nat)(zs:List V)(rs:List Rw)(s:Nat),vs=[.ref x,.int (s:Nat)]/\H x=some (.ins CL dx (lF (n:Nat) p))/\H p=some (.lst zs)/\aD H zs (aF rs)/\rs.length<=40/\s<=240/\(∀g∈aP n rs,0<=g)/\∀q ys H',Same H H'->H' q=some (.lst ys)->gO H' ys (lJ rs (aP n rs) s rs.length)->(∀a u,H a=some u->a≠q/\V.ref a ∉ ys)->V.ref q ∉ ys->Q (.ref q) H'
section
variable{P:Program}{w:World}{K:W.Frag}{mg:xC}{base:Heap}{c:Nat->Addr}{aC ao R CL CP CS:Addr}
theorem abK(T:Txt K mg c R CL CP CS aC ao):Def P w K mg base CX0 3 "left_prices" ["layout","size"] (Yu CL):=by
 refine dA T.Uv Mx λf cdv A outer s H vs Q E hr h=>?_
 obtain⟨x,p,dx,n,zs,rs,s,rfl,hx,hp,tp,few,Qj,abL,k⟩:=h;have nd:=Mx.nd;refine⟨_,(aq (psz 2 nd (aG (iI T) hr (aj (pv 0) ak)))
  (aq (psz 3 nd (aX (aj (aG (Dl T) hr (aj (pv 1) ak)) ak)))
  (aq (cH PassesOwn.never rfl (Cp rfl T.iT (aj (cG (pv 0) T.clL (cV T) hr) ak)) (iW rfl (bL (pgz 4 nd) (bL (pgz 5 nd) fu))) (aB (cg (bR (pv 3) (aG (Hl T) hr (aj (pv 5) (aj (aH aO (pv 3) (pv 4) (λ_ _=>rfl)) (aj (aH aO (pv 2) (pv 4) (λ_ _=>rfl)) (aj (pv 1) ak)))))))))
  (aB (aL (pv 3)))))),?_⟩
 clear nd;rw[stE]
 try dsimp only[bT,bC]
 have gJ:=om hx;have fL:=om hp;have gW:=eO.mk tp;have F:=SH.n0 H;have aiw:rs.length<=40:=few;have yl:zs.length=rs.length:=by rw[tp.1,aW]
 have gl_:(aP n rs).length=rs.length+1:=by unfold aP;rw[List.length_append,wF];rfl
 repeat k_meth
 rename_i _ gl _ er _ tb
 rename Addr=>bl
 have fre:∀a u,H a=some u->V.ref a ∉ [V.ref er]:=λa u e hm=>by
  cases uS.mp hm;exact F.fresh (LkL.m (o:=.lst _)) nm0 er u e rfl
 refine Cq (xs:=zs) (λi σ' H'=>∃(o4 o5:Option V)(ys:List V),σ'=[some (.ref x),some (.int (s:Nat)),some (.ref gl),some (.ref tb),o4,o5]/\gO H' ys (lJ rs (aP n rs) s i)/\(∀a u,H a=some u->V.ref a ∉ ys)/\V.ref tb ∉ ys/\SH H [] H' [(bl,.lst zs),(tb,.lst ys),(gl,.lst ((aP n rs).map V.int))] []) ⟨_,_,[.ref er],rfl,gO.snoc gO.nil aM,fre,λhm=>SH.neC (F:=F) (a:=tb) (b:=er) (by simpa using hm),F.sub SbC.s SbI.s⟩ ?_ ?_ ?_
 ·clear F;rintro i σ' H' _ ⟨_,_,ys,rfl,_,_,_,F⟩;exact SqA.e
 ·clear F;rintro i v T σ' H' H2 hv ⟨_,_,ys,rfl,ls,fr,nt,F⟩ nw;obtain⟨r,q1,e1,rfl,e2⟩:=cF tp hv;obtain⟨ql,hl,eql⟩:=ls.2 i _ U_;have sm0:=F.sm;have ysl:ys.length<sizeLine:=by
   have h1:=ls.1;have h2:=(qA.mp e1).1;unfold lJ at h1;rw[wP,List.length_range] at h1;rw[sizeLine_eq]
   lia
  have htb:H' tb=some (.lst ys):=aM;have hgl:H' gl=some (.lst ((aP n rs).map V.int)):=aM;have ne1:gl≠tb:=SH.neC (F:=F);have e3:=F.sm _ _ e2;have ne2:q1≠tb:=λz=>by rw[z,htb] at e3;cases e3
  have ne3:ql≠tb:=λz=>nt (by rw[<- z];exact yY hl)
  have back:∀(H4:Hp)(zs2:List V),Kp tb H' H4->H4 tb=some (.lst zs2)->SH H [] H4 [(bl,.lst zs),(tb,.lst zs2),(gl,.lst ((aP n rs).map V.int))] []:=λH4 zs2 kp e=>F.kpL kp e LkU.u
  clear F;have F:SH H' [tb] H' [(tb,.lst ys)] []:=SH.nil.fP List.mem_cons_self htb rfl (by simp);have aix:=Old.mk (M:=[tb]) hgl (nm1 ne1);have ae9:=Old.mk (M:=[tb]) e3 (nm1 ne2);have aiy:=Old.mk (M:=[tb]) eql (nm1 ne3);replace F:=(F.same nw.s).qC nw.e;have aiz:AtI ys ((i:Nat):Int) (.ref ql):=⟨bB hl⟩;obtain⟨gv,hgv⟩:∃gv,(aP n rs)[i]?=some gv:=⟨_,qB (by have:=(qA.mp e1).1;lia)⟩;have aiA:AtI ((aP n rs).map V.int) ((i:Nat):Int) (.int gv):=⟨bB (by rw[wT,hgv];rfl)⟩;have bl1:=Az rs (aP n rs) s i;have sd1:s<=240/\0<=gv:=⟨Qj,abL gv (yY hgv)⟩
  repeat k_meth
  refine⟨_,_,ys++[.ref p_],rfl,?_,λa u e hm=>?_,λhm=>?_,back _ _ F.kpo aM⟩
  ·rw[J3 e1,show (aP n rs).getD i 0=gv by rw[oP,hgv];rfl];exact gO.snoc (ls.kept λq u hm e=>F.fr q u (nm1 λz=>nt (z▸hm)) e) aM
  ·rcases wS.mp hm with hm|hm
   ·exact fr a u e hm
   ·exact F.fresh (LkL.m (o:=.lst _)) (nm1 (SH.neC (F:=F))) a u (sm0 _ _ e) (by simpa using hm)
  ·rcases wS.mp hm with hm|hm
   ·exact nt hm
   ·exact SH.neC (F:=F) (a:=tb) (b:=p_) (by simpa using hm)
 ·clear F;rintro σ' H' ⟨_,_,ys,rfl,ls,fr,nt,F⟩;rw[yl] at ls
  repeat k_meth
  exact k tb ys _ F.sm aM ls (λa u e=>⟨F.fresh (LkL.m (o:=.lst _)) nm0 a u e,fr a u e⟩) nt
end
def dj(rs:List Rw)(gs:List Int)(s:Nat):Nat->PR
 | 0=>je s
 | i+1=>match rs[rs.length-1-i]? with
  | some r=>nJ r (dj rs gs s i) (gs.getD (rs.length-i) 0) s
  | none=>je s
def gC(rs:List Rw)(gs:List Int)(s m:Nat):List PR:=(List.range (m+1)).map (dj rs gs s)
theorem wI(rs:List Rw)(gs:List Int)(s i:Nat):(dj rs gs s i).length=s+1:=by
 cases i with
 | zero=>exact pR s
 | succ i =>
  unfold dj;cases rs[rs.length-1-i]? with
  | none=>exact pR s
  | some r=>exact Hi _ _ _ _
theorem Ho{rs:List Rw}{gs:List Int}{s m:Nat}{r:Rw}(h:rs[rs.length-1-m]?=some r):gC rs gs s (m+1)=gC rs gs s m++[nJ r (dj rs gs s m) (gs.getD (rs.length-m) 0) s]:=by
 unfold gC;rw[List.range_succ,List.map_append,oS,List.map_nil]
 congr 2
 show dj rs gs s (m+1)=_;rw[dj,h]
theorem Qk{rs:List Rw}{gs:List Int}{s m:Nat}:(gC rs gs s m)[m]?=some (dj rs gs s m):=by
 unfold gC;rw[wT,List.getElem?_range (by lia)]
 rfl
theorem Yv{ys:List V}{v:V}{n:Nat}(hn:ys.length=n+1)(h:ys[n]?=some v):AtI ys (-1) v:=⟨by
 unfold atI ixN;rw[yB (by decide),zS (by lia),Option.bind_some,show (-1+(ys.length:Int)).toNat=n by lia];exact h⟩
instance agE{K:W.Frag}{ta:TA}{σ:L2.St}{H:Hp}{Q:VK}:Go (Y9 K ta σ H Q) (ta σ H λvs H1=>∃a xs,vs=[.ref a]/\SqL K H1 a xs/\∀l H',New H1 H' l (.lst xs.reverse)->Q (.ref l) H'):=⟨id⟩
theorem gO.has{H:Hp}{ys:List V}{T:List PR}{q:Addr}(h:gO H ys T)(hm:V.ref q∈ys):∃u,H q=some u:=by
 obtain⟨j,hj⟩:=List.getElem?_of_mem hm;have hl:j<T.length:=by have:=(qA.mp hj).1;rw[h.1] at this;exact this
 obtain⟨q',a,b⟩:=h.2 j _ (qB hl);rw[hj] at a;cases a;exact⟨_,b⟩
def Va(CL:Addr):Sp:=λvs H Q _=>∃(x p dx:Addr)(n:Nat)(zs:List V)(rs:List Rw)(s:Nat),vs=[.ref x,.int (s:Nat)]/\H x=some (.ins CL dx (lF (n:Nat) p))/\H p=some (.lst zs)/\aD H zs (aF rs)/\rs.length<=40/\s<=240/\(∀g∈aP n rs,0<=g)/\∀q ys H',Same H H'->H' q=some (.lst ys)->gO H' ys (gC rs (aP n rs) s rs.length).reverse->(∀a u,H a=some u->a≠q/\V.ref a ∉ ys)->V.ref q ∉ ys->Q (.ref q) H'
section
variable{P:Program}{w:World}{K:W.Frag}{mg:xC}{base:Heap}{c:Nat->Addr}{aC ao R CL CP CS:Addr}
theorem Yw(T:Txt K mg c R CL CP CS aC ao):Def P w K mg base CX0 3 "right_prices" ["layout","size"] (Va CL):=by
 refine dA T.MP Fz λf cdv A outer s H vs Q E hr h=>?_
 obtain⟨x,p,dx,n,zs,rs,s,rfl,hx,hp,tp,few,Qj,abL,k⟩:=h;have nd:=Fz.nd;refine⟨_,(aq (psz 2 nd (aG (iI T) hr (aj (pv 0) ak)))
  (aq (psz 3 nd (cG (pv 0) T.clL (cV T) hr))
  (aq (psz 4 nd (aX (aj (aG (Dl T) hr (aj (pv 1) ak)) ak)))
  (aq (cH PassesOwn.never rfl (Pu rfl T.cY (aj (aN b_ (aR bN rfl T.eE boot_len (aj (pv 3) ak)) au) (aj (Rr Ir au) (aj (Rr Ir au) ak)))) (pgz 5 nd) (aB (cg (bR (pv 4) (aG (Hl T) hr (aj (aH aO (pv 3) (pv 5) (λ_ _=>rfl)) (aj (aH aO (pv 4) (Rr Ir au) (λ_ _=>rfl)) (aj (aH aO (pv 2) (aN bI (pv 5) au) (λ_ _=>rfl)) (aj (pv 1) ak)))))))))
  (aB (aL (jH rfl rfl T.fK rfl T.iG (aj (pv 4) ak)))))))),?_⟩
 clear nd;rw[stE]
 try dsimp only[bT,bC]
 have gJ:=om hx;have fL:=om hp;have gW:=eO.mk tp;have F:=SH.n0 H;have aiw:rs.length<=40:=few;have yl:zs.length=rs.length:=by rw[tp.1,aW]
 have gl_:(aP n rs).length=rs.length+1:=by unfold aP;rw[List.length_append,wF];rfl
 repeat k_meth
 rename_i _ gl _ bl _ er
 rename Addr=>tb
 have fre:∀a u,H a=some u->V.ref a ∉ [V.ref er]:=λa u e hm=>by
  cases uS.mp hm;exact F.fresh (LkL.m (o:=.lst _)) nm0 er u e rfl
 rw[show ((zs.length:Int)-1+1).toNat=rs.length by lia];refine XM (λi σ' H'=>∃(o5:Option V)(ys:List V),σ'=[some (.ref x),some (.int (s:Nat)),some (.ref gl),some (.ref bl),some (.ref tb),o5]/\gO H' ys (gC rs (aP n rs) s i)/\(∀a u,H a=some u->V.ref a ∉ ys)/\V.ref tb ∉ ys/\SH H [] H' [(bl,.lst zs),(tb,.lst ys),(gl,.lst ((aP n rs).map V.int))] []) ⟨_,[.ref er],rfl,gO.snoc gO.nil aM,fre,λhm=>SH.neC (F:=F) (a:=tb) (b:=er) (by simpa using hm),F.sub SbC.s SbI.s⟩ ?_ ?_
 ·clear F;rintro i σ' H' hi ⟨_,ys,rfl,ls,fr,nt,F⟩;obtain⟨r,e1⟩:∃r,rs[rs.length-1-i]?=some r:=⟨_,qB (by lia)⟩;obtain⟨v,hv⟩:∃v,zs[rs.length-1-i]?=some v:=⟨_,qB (by lia)⟩;obtain⟨r',q1,e1',rfl,e2⟩:=cF tp hv;rw[e1] at e1';cases e1';obtain⟨ql,hl,eql⟩:=ls.2 i _ Qk;have ysn:ys.length=i+1:=by
   have h1:=ls.1;unfold gC at h1;rw[wP,List.length_range] at h1;exact h1
  have sm0:=F.sm;have ysl:ys.length<sizeLine:=by rw[sizeLine_eq];lia
  have htb:H' tb=some (.lst ys):=aM;have hgl:H' gl=some (.lst ((aP n rs).map V.int)):=aM;have hbl:H' bl=some (.lst zs):=aM;have ne1:gl≠tb:=SH.neC (F:=F);have ne4:bl≠tb:=SH.neC (F:=F);have e3:=F.sm _ _ e2;have ne2:q1≠tb:=λz=>by rw[z,htb] at e3;cases e3
  have ne3:ql≠tb:=λz=>nt (by rw[<- z];exact yY hl)
  have back:∀(H4:Hp)(zs2:List V),Kp tb H' H4->H4 tb=some (.lst zs2)->SH H [] H4 [(bl,.lst zs),(tb,.lst zs2),(gl,.lst ((aP n rs).map V.int))] []:=λH4 zs2 kp e=>F.kpL kp e LkU.u
  clear F;have F:SH H' [tb] H' [(tb,.lst ys)] []:=SH.nil.fP List.mem_cons_self htb rfl (by simp);have aix:=Old.mk (M:=[tb]) hgl (nm1 ne1);have ajQ:=Old.mk (M:=[tb]) hbl (nm1 ne4);have ae9:=Old.mk (M:=[tb]) e3 (nm1 ne2);have aiy:=Old.mk (M:=[tb]) eql (nm1 ne3);have aiz:AtI ys (-1) (.ref ql):=Yv ysn hl;have ajR:AtI zs ((zs.length:Int)-1+(i:Int)*(-1)) (.ref q1):=⟨by rw[show (zs.length:Int)-1+(i:Int)*(-1)=((rs.length-1-i:Nat):Int) by lia];exact bB hv⟩;obtain⟨gv,hgv⟩:∃gv,(aP n rs)[rs.length-i]?=some gv:=⟨_,qB (by lia)⟩;have aiA:AtI ((aP n rs).map V.int) ((zs.length:Int)-1+(i:Int)*(-1)+1) (.int gv):=⟨by rw[show (zs.length:Int)-1+(i:Int)*(-1)+1=((rs.length-i:Nat):Int) by lia];exact bB (by rw[wT,hgv];rfl)⟩;have bl1:=wI rs (aP n rs) s i;have sd1:s<=240/\0<=gv:=⟨Qj,abL gv (yY hgv)⟩
  repeat k_meth
  refine⟨_,ys++[.ref p_],rfl,?_,λa u e hm=>?_,λhm=>?_,back _ _ F.kpo aM⟩
  ·rw[Ho e1,show (aP n rs).getD (rs.length-i) 0=gv by rw[oP,hgv];rfl];exact gO.snoc (ls.kept λq u hm e=>F.fr q u (nm1 λz=>nt (z▸hm)) e) aM
  ·rcases wS.mp hm with hm|hm
   ·exact fr a u e hm
   ·exact F.fresh (LkL.m (o:=.lst _)) (nm1 (SH.neC (F:=F))) a u (sm0 _ _ e) (by simpa using hm)
  ·rcases wS.mp hm with hm|hm
   ·exact nt hm
   ·exact SH.neC (F:=F) (a:=tb) (b:=p_) (by simpa using hm)
 ·clear F;rintro σ' H' ⟨_,ys,rfl,ls,fr,nt,F⟩
  repeat k_meth
  refine⟨tb,ys,rfl,SqA.e,λq H2 nw=>?_⟩;have sm0:=F.sm;refine k q _ _ (sm0.trans nw.s) nw.e (ls.kept λq u _ e=>nw.s _ _ e).rev (λa u e=>⟨nw.n a u (sm0 _ _ e),λhm=>fr a u e (List.mem_reverse.mp hm)⟩) λhm=>?_
  obtain⟨u,hu⟩:=ls.has (List.mem_reverse.mp hm);exact nw.n q u hu rfl
end
open M22 M82 M87
class LyA(rs:List Rw)(n:outParam Nat):Prop where
 l:Lay n rs
 a:Asc rs
 h:n<=240
 g:16<=n
theorem wJ{n:Nat}{rs:List Rw}(h:Lay n rs):(rs.map (·.nm)).Nodup:=List.pairwise_map.mpr (h.ap.imp λh=>h.1)
theorem LyA.ok{n:Nat}{rs:List Rw}(h:LyA rs n):OkA 0 n rs:=⟨h.a,λr hr=>⟨Nat.zero_le _,(h.l.good r hr).sz,(h.l.good r hr).le⟩⟩
theorem ae_{rs:List Rw}(h:(rs.map (·.nm)).Nodup){i:Nat}{r s:Rw}(e:rs[i]?=some s)(hr:r∈rs)(hn:s.nm=r.nm):s=r:=by
 obtain⟨j,hj,rfl⟩:=List.getElem_of_mem hr;obtain⟨hi,rfl⟩:=qA.mp e;have:=(List.getElem_inj (i:=i) (j:=j) (h₀:=by simpa using hi) (h₁:=by simpa using hj) h).mp (by simpa using hn);subst this
 rfl
structure LyH(CL:Addr)(H:Hp)(x p dx:Addr)(n:Nat)(zs:List V)(rs:List Rw):Prop where
 x:H x=some (.ins CL dx (lF (n:Nat) p))
 p:H p=some (.lst zs)
 t:aD H zs (aF rs)
theorem LyH.same{CL:Addr}{H H':Hp}{x p dx:Addr}{n:Nat}{zs:List V}{rs:List Rw}(h:LyH CL H x p dx n zs rs)(s:Same H H'):LyH CL H' x p dx n zs rs:=⟨s _ _ h.x,s _ _ h.p,h.t.same s⟩
class LyQ(CL:Addr)(H:Hp)(x:Addr)(p dx:outParam Addr)(n:outParam Nat)(zs:outParam (List V))(rs:outParam (List Rw)):Prop where
 e:LyH CL H x p dx n zs rs
instance aiB{CL:Addr}{H:Hp}{x p dx:Addr}{n:Nat}{zs:List V}{rs:List Rw}[h:Hat H x (.ins CL dx (lF (n:Nat) p))][h2:Hat H p (.lst zs)][t:TpA H zs (aF rs)]:LyQ CL H x p dx n zs rs:=⟨⟨h.e,h2.e,t.e⟩⟩
abbrev Yx(rs:List Rw):List V:=(rs.map (·.nm)).map λcs=>V.str (tx cs)
def A_(CL:Addr):Sp:=λvs H Q _=>∃(x p dx:Addr)(n:Nat)(zs:List V)(rs:List Rw),vs=[.ref x]/\LyH CL H x p dx n zs rs/\LyA rs n/\∀q H',New H H' q (.lst (Yx rs))->Q (.ref q) H'
def okP:V->Bool
 | .int _=>true
 | .non=>true
 | .bl _=>true
 | _=>false
def tyP:V->String
 | .int _ => "int"
 | .non => "NoneType"
 | .bl _ => "bool"
 | _ => ""
class PlA(v:V):Prop where
 e:okP v=true
theorem PlA.ty{K:W.Frag}{H:Hp}{v:V}(h:okP v=true):cO K H v (.type (tyP v)):=by
 cases v with
 | int i=>exact .int i
 | non=>exact .non
 | bl b=>exact .bl b
 | _=>cases h
instance (priority:=low) ajk {K:W.Frag} {H:Hp} {v:V} [h:PlA v]:TyA K H v (tyP v):=⟨PlA.ty h.e⟩
def RzR(K:W.Frag)(R:Addr)(E:XK)(H:Hp):Prop:=∀C fs d H',ExM K C R true->Same H H'->H' d=some (jh d fs)->E (.ref C) (some d) H'
theorem RzR.mono{K:W.Frag}{R:Addr}{E:XK}{H H':Hp}(k:RzR K R E H)(s:Same H H'):RzR K R E H':=λC fs d H2 x s2 e=>k C fs d H2 x (s.trans s2) e
def q_(K:W.Frag)(R CL:Addr):Sp:=λvs H Q E=>∃(x p dx:Addr)(n:Nat)(zs:List V)(rs:List Rw)(cs:List Nat),vs=[.ref x,.str (tx cs)]/\LyH CL H x p dx n zs rs/\LyA rs n/\((∃r,r∈rs/\r.nm=cs/\∀q H',Same H H'->H' q=some (.tup (cB r))->Q (.ref q) H')\/((∀r∈rs,r.nm≠cs)/\RzR K R E H))
class afa(rs:List Rw)(cs:List Nat):Prop where
 e:∀r∈rs,r.nm≠cs
def Ql(K:W.Frag)(H:Hp)(e:V):Prop:=(∃n1:String,cO K H e (.type n1)/\(n1 == "tuple")=false)\/∃t xs,e=.ref t/\H t=some (.tup xs)/\xs.length≠2
def Dm(K:W.Frag):Sp:=λvs H Q _=>∃v,vs=[v]/\((∃t a b,v=.ref t/\H t=some (.tup [a,b])/\Q (.bl true) H)\/(Ql K H v/\Q (.bl false) H))
structure Sld(n:Nat)(rs:List Rw)(r:Rw)(k to:Nat):Prop where
 at_:rs[k]?=some r
 pn:r.pn=0
 lo:gB rs k<=to
 hi:to+r.sz<=cW n rs k
def wK(CL:Addr):Sp:=λvs H Q _=>∃(x p dx:Addr)(n:Nat)(zs:List V)(rs:List Rw)(r:Rw)(k:Nat)(v:V),vs=[.ref x,.str (tx r.nm),v]/\LyH CL H x p dx n zs rs/\LyA rs n/\rs[k]?=some r/\okP v=true/\∀H',Same H H'->Q (.bl (inB v (gB rs k:Nat) ((cW n rs k:Nat)-(r.sz:Int)))) H'
def fM(n:Nat)(T:List Rw)(dn:List (List Nat))(cs:List Nat)(v:V):Option Mv:=match T.findIdx? (λr=>decide (r.nm=cs)) with
 | none=>none
 | some k=>match T[k]? with
  | none=>none
  | some r=>if cs∈dn\/0<r.pn then none else if inB v (gB T k:Nat) ((cW n T k:Nat)-(r.sz:Int))=true then (match v with
   | .int i=>some (k,cs,i.toNat)
   | _=>none) else none
theorem Dn{n:Nat}{T:List Rw}{k:Nat}{r:Rw}(ly:Lay n T)(h:T[k]?=some r):T.findIdx? (λs=>decide (s.nm=r.nm))=some k:=by
 obtain⟨hk,rfl⟩:=qA.mp h;rw[List.findIdx?_eq_some_iff_getElem];refine⟨hk,gX rfl,λj hj=>?_⟩;have nd:=wJ ly;simp only[decide_eq_true_eq];intro z;have:=(List.getElem_inj (i:=j) (j:=k) (h₀:=by simp;lia) (h₁:=by simpa using hk) nd).mp (by simpa using z)
 lia
theorem rA{n:Nat}{T:List Rw}{dn:List (List Nat)}{cs:List Nat}{v:V}(h:∀r∈T,r.nm≠cs):fM n T dn cs v=none:=by
 unfold fM;rw[List.findIdx?_eq_none_iff.mpr λr hr=>gS (h r hr)]
theorem step_at{n:Nat}{T:List Rw}{dn:List (List Nat)}{k:Nat}{r:Rw}{v:V}(ly:Lay n T)(h:T[k]?=some r):fM n T dn r.nm v=if r.nm∈dn\/0<r.pn then none else if inB v (gB T k:Nat) ((cW n T k:Nat)-(r.sz:Int))=true then (match v with
      | .int i=>some (k,r.nm,i.toNat)
      | _=>none) else none:=by
 unfold fM;rw[Dn ly h];simp only[h]
theorem Nq{v:V}{a b:Int}(h:inB v a b=true):∃i,v=.int i/\a<=i/\i<=b:=by
 cases v with
 | int i =>
  have h:(decide (a<=i) && decide (i<=b))=true:=h;rw[Bool.and_eq_true,decide_eq_true_eq,decide_eq_true_eq] at h;exact⟨i,rfl,h.1,h.2⟩
 | _=>simp[inB] at h
theorem rB{n:Nat}{T:List Rw}{dn:List (List Nat)}{cs:List Nat}{v:V}{m:Mv}(ly:Lay n T)(h:fM n T dn cs v=some m):∃r,Sld n T r m.1 m.2.2/\r.nm=cs/\m.2.1=cs/\cs ∉ dn/\v=.int (m.2.2:Nat):=by
 by_cases hc:∃r∈T,r.nm=cs
 ·obtain⟨r,hr,rfl⟩:=hc;obtain⟨k,hk,e⟩:=List.getElem_of_mem hr;have e:T[k]?=some r:=by rw[qB hk,e]
  rw[step_at ly e] at h;split at h
  ·cases h
  ·rename_i hd;split at h
   ·rename_i hb;obtain⟨i,rfl,h1,h2⟩:=Nq hb;obtain rfl:=(nI h).symm;exact⟨r,⟨e,by lia,by show gB T k<=i.toNat;lia,by show i.toNat+r.sz<=cW n T k;lia⟩,rfl,rfl,λz=>hd (.inl z),by show V.int i=.int ((i.toNat:Nat):Int);rw[Int.toNat_of_nonneg (by lia)]⟩
   ·cases h
 ·rw[rA λr hr z=>hc ⟨r,hr,z⟩] at h;cases h
def Qm(K:W.Frag)(R CL:Addr):Sp:=λvs H Q E=>∃(x p dx l:Addr) (n:Nat) (zs:List V) (rs:List Rw) (cs:List Nat) (v:V) (nms:List (List Nat)),vs=[.ref x,.str (tx cs),v,.ref l]/\LyH CL H x p dx n zs rs/\LyA rs n/\okP v=true/\H l=some (.lst (nms.map λcs=>V.str (tx cs)))/\nms.length<=41 /\
 ((fM n rs nms cs v=none/\RzR K R E H)\/∃m r,fM n rs nms cs v=some m/\rs[m.1]?=some r/\∀q H',Same H H'->H' q=some (.tup [.str (tx cs),.int (r.st:Nat),.int (r.sz:Nat),.int (m.2.2:Nat)])->Q (.ref q) H')
section
variable{CL x p dx t q:Addr}{H:Hp}{Q:VK}{E:XK}{n k:Nat}{zs:List V}{rs:List Rw}{r:Rw}{a b:V}
instance acR[h:LyQ CL H x p dx n zs rs][ly:LyA rs n]:Go (A_ CL [.ref x] H Q E) (∀q H',New H H' q (.lst (Yx rs))->Q (.ref q) H'):=⟨λk=>⟨x,p,dx,n,zs,rs,rfl,h.e,ly,k⟩⟩
instance acS{K:W.Frag}{R:Addr}[h:LyQ CL H x p dx n zs rs][ly:LyA rs n]:Go (q_ K R CL [.ref x,.str (tx r.nm)] H Q E) (Sd (r∈rs) (∀q H',Same H H'->H' q=some (.tup (cB r))->Q (.ref q) H')):=⟨λs=>⟨x,p,dx,n,zs,rs,r.nm,rfl,h.e,ly,.inl ⟨r,s.1,rfl,s.2⟩⟩⟩
instance (priority:=high) abM {K:W.Frag} {R:Addr} {cs:List Nat} [h:LyQ CL H x p dx n zs rs] [ly:LyA rs n] [nn:afa rs cs]:Go (q_ K R CL [.ref x,.str (tx cs)] H Q E) (RzR K R E H):=⟨λk=>⟨x,p,dx,n,zs,rs,cs,rfl,h.e,ly,.inr ⟨nn.e,k⟩⟩⟩
theorem Ql.same{K:W.Frag}{H H':Hp}{e:V}(h:Ql K H e)(s:Same H H'):Ql K H' e:=by
 rcases h with⟨n1,ty,nt⟩|⟨t,xs,rfl,ht,nl⟩
 ·exact .inl ⟨n1,ty.kept λa u _ e=>s a u e,nt⟩
 ·exact .inr ⟨t,xs,rfl,s _ _ ht,nl⟩
class afb(K:W.Frag)(H:Hp)(e:V):Prop where
 e:Ql K H e
instance agF{K:W.Frag}[h:Hat H t (.tup [a,b])]:Go (Dm K [.ref t] H Q E) (Q (.bl true) H):=⟨λk=>⟨_,rfl,.inl ⟨t,a,b,rfl,h.e,k⟩⟩⟩
instance (priority:=high) afc {K:W.Frag} {e:V} [h:afb K H e]:Go (Dm K [e] H Q E) (Q (.bl false) H):=⟨λk=>⟨_,rfl,.inr ⟨h.e,k⟩⟩⟩
instance abN{v:V}[h:LyQ CL H x p dx n zs rs][ly:LyA rs n][pv:PlA v]:Go (wK CL [.ref x,.str (tx r.nm),v] H Q E) (∃k,rs[k]?=some r/\∀H',Same H H'->Q (.bl (inB v (gB rs k:Nat) ((cW n rs k:Nat)-(r.sz:Int)))) H'):=⟨λ⟨k,e,k1⟩=>⟨x,p,dx,n,zs,rs,r,k,v,rfl,h.e,ly,e,pv.e,k1⟩⟩
end
theorem wL{T:List Rw}{k:Nat}{r0:Rw}(h:T[k]?=some r0):gB T (k+1)=r0.st+r0.sz:=by
 show (match T[k]? with|some r=>r.st+r.sz|none=>0)=_
 rw[h]
theorem lY{n:Nat}{T:List Rw}{k:Nat}{s:Rw}(h:T[k+1]?=some s):cW n T k=s.st:=by
 unfold cW;rw[h]
theorem jx{n:Nat}{T:List Rw}{k:Nat}(h:T.length<=k+1):cW n T k=n:=by
 unfold cW;rw[mP h]
section
variable{P:Program}{w:World}{K:W.Frag}{mg:xC}{base:Heap}{c:Nat->Addr}{aC ao R CL CP CS:Addr}
theorem Qn(T:Txt K mg c R CL CP CS aC ao):Met P w K mg base CX0 1 CL "names" ["self"] (A_ CL):=by
 obtain⟨f,hf,hm⟩:=T.GJ;refine(fA (k:=0) hf zQ λf cdv A outer s H vs Q E hr h=>?_).met hm;obtain⟨x,p,dx,n,zs,rs,rfl,ly,lya,k⟩:=h;have nd:=zQ.nd;refine⟨_,(aB (aL (dI (N:=["row"]) (nt:=1) (fr:=[]) (cC (gh (pv 0) rfl)) (λ_ _ _ _=>(cj (i:=0) (show (["row"]:List Str).Nodup from by decide +kernel) rfl (Or.inl rfl))) (λ_ _ _ _=>dU) (λ_ _ _ _=>(aH (cX (K:=K) rfl) (pv 0) au (λ_ _=>rfl)))))),?_⟩;clear nd ;rw[stE]
 try dsimp only[bT,bC]
 have hx:=ly.x;have hp:=ly.p;have tp:=ly.t;have few:=lya.l.few;have iK:=lya.h;have zl:zs.length=rs.length:=by rw[tp.1,aW]
 have gJ:=om hx;have fL:=om hp;have gW:=eO.mk tp;have F:=SH.n0 H
 repeat k_meth
 refine gw (F:=λr=>r.getD 0 .non) aM (TpA.e (rs:=aF rs)) (by lia) rfl (λq r H1 R hr s1 e1 kk=>?_) λl H1 n1=>?_
 ·clear F;have F:=SH.n0 H1;obtain⟨s,_,rfl⟩:=jI.mp hr;have U6:=om e1
  repeat k_meth
  exact kk _ (Same.refl _)
 ·rw[show (aF rs).map (λr=>r.getD 0 V.non)=Yx rs by unfold aF Yx;rw[List.map_map,List.map_map];rfl] at n1;replace F:=F.newL n1
  repeat k_meth
  exact k _ _ SH.nwC
theorem Ba(T:Txt K mg c R CL CP CS aC ao):Met P w K mg base (CX1 P w) 3 CL "block" ["self","name"] (q_ K R CL):=by
 obtain⟨f,hf,hm⟩:=T.GK;refine(fX (k:=2) hf zR λf cdv A outer s H vs Q E hr h=>?_).met hm;obtain⟨x,p,dx,n,zs,rs,cs,rfl,ly,lya,kk⟩:=h;have nd:=zR.nd;refine⟨_,(aq (cH PassesOwn.leaving rfl (cC (gh (pv 0) rfl)) (pgz 2 nd) (aB (bK (aU jf (aH aZ (pv 2) au (λ_ _=>rfl)) (pv 1) (aY _)) (aB (aL (pv 2))) bf)))
  (aB (j9 T.zV (Ci T.jq (PK T.jq.S T.lB) hr (aj (pv 1) ak))))),?_⟩
 clear nd ;rw[stE]
 try dsimp only[bT,bC,TV]
 have hx:=ly.x;have hp:=ly.p;have tp:=ly.t;have few:=lya.l.few;have iK:=lya.h;have zl:zs.length=rs.length:=by rw[tp.1,aW]
 have gJ:=om hx;have fL:=om hp;have gW:=eO.mk tp;have F:=SH.n0 H;have abO:ExM K (c 1) (c 1) true:=⟨j_ T.jq.I⟩;have J4:ExM K (c 1) R true:=⟨uF T.jq.I T.c_R T.t_R T.m_R⟩;have nd:=wJ lya.l
 repeat k_meth
 refine fH (xs:=zs) (λi σ' H'=>∃o2:Option V,σ'=[some (.ref x),some (.str (tx cs)),o2]/\(∀s∈rs.take i,s.nm≠cs)/\SH H [] H' [] []) ⟨_,rfl,by simp,F⟩ ?_ ?_ ?_
 ·clear F;rintro i σ' H' _ ⟨_,rfl,_,F⟩;exact SqA.e
 ·clear F;rintro i v σ' H' hv ⟨_,rfl,hn,F⟩;obtain⟨s,q1,e1,rfl,e2⟩:=cF tp hv;have lH:=om e2;by_cases hs:s.nm=cs
  ·subst hs;have eqn:tx s.nm=tx s.nm:=rfl
   repeat k_meth
   rcases kk with⟨r,hr,hrn,k⟩|⟨z,_⟩
   ·obtain rfl:=ae_ nd e1 hr hrn.symm;exact k q1 _ F.sm aM
   ·exact gL rfl (z s (yY e1))
  ·have ne:¬ tx s.nm=tx cs:=λz=>hs (m9 z)
   repeat k_meth
   refine⟨_,rfl,λs' hs'=>?_,F⟩;rw[gE,e1] at hs';rcases wS.mp hs' with hs'|hs'
   ·exact hn s' hs'
   ·have:s'=s:=by simpa using hs'
    rw[this];exact hs
 ·clear F;rintro σ' H' ⟨_,rfl,hn,F⟩;rw[zl,List.take_length] at hn;rcases kk with⟨r,hr,hrn,_⟩|⟨_,k⟩
  ·exact gL hrn (hn r hr)
  ·repeat k_meth
   exact λd H' s e=>k _ _ d H' J4 (F.sm.trans s) e
theorem Vb(T:Txt K mg c R CL CP CS aC ao):Def P w K mg base CX0 1 "is_pair" ["thing"] (Dm K):=by
 refine dA T.Gf zu λf cdv A outer s H vs Q E hr h=>?_
 obtain⟨v,rfl,kk⟩:=h;have nd:=zu.nd;refine⟨_,(aB (aL (iz (aR dO rfl T.bY boot_isinstance (aj (pv 0) (aj (j5 (T := "tuple") rfl T.Dj boot_tuple) ak))) (iV (fB jf (aR bN rfl T.eE boot_len (aj (pv 0) ak)) au (aY _)))))),?_⟩;clear nd ;rw[stE]
 try dsimp only[bT,bC]
 have F:=SH.n0 H;rcases kk with⟨t,a,b,rfl,ht,k⟩|⟨⟨n1,ty,nt⟩|⟨t,xs,rfl,ht,nl⟩,k⟩
 ·have aiC:=om ht
  repeat k_meth
  exact k
 ·repeat k_meth
  refine w_is ty (Ei ty) ?_;rw[nt]
  repeat k_meth
  exact k
 ·have aiC:=om ht
  repeat k_meth
  rw[gS (by lia)];exact k
theorem Qo(T:Txt K mg c R CL CP CS aC ao):Def P w K mg base CX0 3 "is_slide" ["layout","name","to"] (wK CL):=by
 refine dA T.z8 u_ λf cdv A outer s H vs Q E hr h=>?_
 obtain⟨x,p,dx,n,zs,rs,r,k0,v,rfl,ly,lya,hr0,pv0,k⟩:=h;have nd:=u_.nd;refine⟨_,(aq (psz 3 nd (cG (pv 0) T.clL (cV T) hr))
  (aq (psz 4 nd (abp (cG (pv 0) T.clL (Qn T) hr) (pv 1)))
  (aq (psz 5 nd (tQ (aU jf (pv 4) au (aY _)) au (aG (iH T) hr (aj (aG (eX T) hr (aj (aH aO (pv 3) (aN b_ (pv 4) au) (λ_ _=>rfl)) ak)) ak))))
  (aq (psz 6 nd (tQ (aU jf (pv 4) (aN b_ (aR bN rfl T.eE boot_len (aj (pv 3) ak)) au) (aY _)) (gh (pv 0) rfl) (aH aZ (aH aO (pv 3) (aN bI (pv 4) au) (λ_ _=>rfl)) au (λ_ _=>rfl))))
  (aB (aL (aG (lG T) hr (aj (pv 2) (aj (pv 5) (aj (aN b_ (pv 6) (aH aZ (aH aO (pv 3) (pv 4) (λ_ _=>rfl)) au (λ_ _=>rfl))) ak)))))))))),?_⟩
 clear nd;rw[stE]
 try dsimp only[bT,bC]
 have hx:=ly.x;have hp:=ly.p;have tp:=ly.t;have few:=lya.l.few;have iK:=lya.h;have zl:zs.length=rs.length:=by rw[tp.1,aW]
 have gJ:=om hx;have fL:=om hp;have gW:=eO.mk tp;have F:=SH.n0 H;have pla:PlA v:=⟨pv0⟩;have hr:=hr0;have hk:=(qA.mp hr).1;have ix:aeG (rs.map (·.nm)) r.nm k0:=⟨by rw[wT,hr];rfl,wJ lya.l⟩;obtain⟨q1,e1,e2⟩:∃q1,zs[k0]?=some (.ref q1)/\H q1=some (.tup (cB r)):=tp.2 k0 _ (by unfold aF;rw[List.getElem?_map,hr];rfl);have lH:=om e2;have a1:AtI zs ((k0:Nat):Int) (.ref q1):=⟨bB e1⟩;rcases Nat.lt_or_ge (k0+1) rs.length with hl|hl
 ·rcases Nat.eq_zero_or_pos k0 with hk0|hk0
  ·have lw:gB rs k0=0:=by rw[hk0];rfl
   obtain⟨s1,hs1⟩:∃s1,rs[k0+1]?=some s1:=⟨_,qB hl⟩;obtain⟨q2,f1,f2⟩:∃q2,zs[k0+1]?=some (.ref q2)/\H q2=some (.tup (cB s1)):=tp.2 (k0+1) _ (by unfold aF;rw[List.getElem?_map,hs1];rfl);have J5:=om f2;have a2:AtI zs (((k0:Nat):Int)+1) (.ref q2):=⟨by rw[show ((k0:Nat):Int)+1=((k0+1:Nat):Int) by lia];exact bB f1⟩;have hw:=lY (n:=n) hs1
   repeat k_meth
   rw[lw,hw] at k;exact k _ F.sm
  ·obtain⟨r0,hr0⟩:∃r0,rs[k0-1]?=some r0:=⟨_,qB (by lia)⟩;have lw:=wL hr0;rw[show k0-1+1=k0 by lia] at lw;obtain⟨q0,d1,d2⟩:∃q0,zs[k0-1]?=some (.ref q0)/\H q0=some (.tup (cB r0)):=tp.2 (k0-1) _ (by unfold aF;rw[List.getElem?_map,hr0];rfl);have abP:=om d2;have a0:AtI zs (((k0:Nat):Int)-1) (.ref q0):=⟨by rw[show ((k0:Nat):Int)-1=((k0-1:Nat):Int) by lia];exact bB d1⟩;obtain⟨s1,hs1⟩:∃s1,rs[k0+1]?=some s1:=⟨_,qB hl⟩;obtain⟨q2,f1,f2⟩:∃q2,zs[k0+1]?=some (.ref q2)/\H q2=some (.tup (cB s1)):=tp.2 (k0+1) _ (by unfold aF;rw[List.getElem?_map,hs1];rfl);have J5:=om f2;have a2:AtI zs (((k0:Nat):Int)+1) (.ref q2):=⟨by rw[show ((k0:Nat):Int)+1=((k0+1:Nat):Int) by lia];exact bB f1⟩;have hw:=lY (n:=n) hs1
   repeat k_meth
   rw[lw,hw,Int.natCast_add] at k;exact k _ F.sm
 ·rcases Nat.eq_zero_or_pos k0 with hk0|hk0
  ·have lw:gB rs k0=0:=by rw[hk0];rfl
   have hw:=jx (n:=n) hl
   repeat k_meth
   rw[lw,hw] at k;exact k _ F.sm
  ·obtain⟨r0,hr0⟩:∃r0,rs[k0-1]?=some r0:=⟨_,qB (by lia)⟩;have lw:=wL hr0;rw[show k0-1+1=k0 by lia] at lw;obtain⟨q0,d1,d2⟩:∃q0,zs[k0-1]?=some (.ref q0)/\H q0=some (.tup (cB r0)):=tp.2 (k0-1) _ (by unfold aF;rw[List.getElem?_map,hr0];rfl);have abP:=om d2;have a0:AtI zs (((k0:Nat):Int)-1) (.ref q0):=⟨by rw[show ((k0:Nat):Int)-1=((k0-1:Nat):Int) by lia];exact bB d1⟩;have hw:=jx (n:=n) hl
   repeat k_meth
   rw[lw,hw,Int.natCast_add] at k;exact k _ F.sm
theorem Vc(T:Txt K mg c R CL CP CS aC ao):Def P w K mg base (CX1 P w) 4 "step_of" ["layout","name","to","moved_ahead"] (Qm K R CL):=by
 refine dX T.Gg zx λf cdv A outer s H vs Q E hr h=>?_
 obtain⟨x,p,dx,l,n,zs,rs,cs,v,nms,rfl,ly,lya,pv0,hl,ajl,kk⟩:=h;have nd:=zx.nd;refine⟨_,(aq (psz 4 nd (Ju (pv 0) T.clL (Ba T) hr (aj (pv 1) ak) (hx:=Y6)))
  (aq (bK (aU yF (pv 1) (pv 3) (by with_unfolding_all rfl)) (aB (j9 T.MF (Ci T.pH (Yg T.pH.S T.pI) hr (aj (pv 1) ak)))) bf)
  (aq (bK (aU fY (aH aZ (pv 4) au (λ_ _=>rfl)) au (aY _)) (aB (j9 T.Gb (Lb T.lC (Uo T.lC.S T.mL T.mO) hr (aj (pv 1) (aj (aH aZ (pv 4) au (λ_ _=>rfl)) ak))))) bf)
  (aq (bK (c7 (cQ (aG (Qo T) hr (aj (pv 0) (aj (pv 1) (aj (pv 2) ak)))))) (aB (j9 T.zX (Lb T.jt (PX T.jt.S T.lD T.pJ) hr (aj (pv 1) (aj (pv 2) ak))))) bf)
  (PSs.nox (aB (aL (bM (aj (pv 1) (aj (aH aZ (pv 4) au (λ_ _=>rfl)) (aj (aH aZ (pv 4) au (λ_ _=>rfl)) (aj (pv 2) ak)))))))))))),?_⟩
 clear nd;rw[stE]
 try dsimp only[bT,bC,TV]
 have hx:=ly.x;have hp:=ly.p;have tp:=ly.t;have few:=lya.l.few;have iK:=lya.h;have zl:zs.length=rs.length:=by rw[tp.1,aW]
 have gJ:=om hx;have fL:=om hp;have jW:=om hl;have gW:=eO.mk tp;have F:=SH.n0 H;have afd:ExM K (c 0) (c 0) true:=⟨j_ T.pH.I⟩;have Vd:ExM K (c 0) R true:=⟨uF T.pH.I T.c_R T.t_R T.m_R⟩;have acT:ExM K (c 2) (c 2) true:=⟨j_ T.lC.I⟩;have Qp:ExM K (c 2) R true:=⟨uF T.lC.I T.c_R T.t_R T.m_R⟩;have abQ:ExM K (c 4) (c 4) true:=⟨j_ T.jt.I⟩;have J6:ExM K (c 4) R true:=⟨uF T.jt.I T.c_R T.t_R T.m_R⟩;have pla:PlA v:=⟨pv0⟩;by_cases hc:∃r∈rs,r.nm=cs
 ·obtain⟨r,hr,rfl⟩:=hc;obtain⟨k0,hk,ek⟩:=List.getElem_of_mem hr;have ek:rs[k0]?=some r:=by rw[qB hk,ek]
  have sa:=step_at (dn:=nms) (v:=v) lya.l ek;by_cases hd:r.nm∈nms
  ·rw[zS (.inl hd)] at sa;rcases kk with⟨_,k⟩|⟨_,_,z,_⟩
   ·repeat k_meth
    exact λd H' s e=>k _ _ d H' Vd (F.sm.trans s) e
   ·rw[sa] at z;cases z
  ·by_cases hp0:0<r.pn
   ·rw[zS (.inr hp0)] at sa;rcases kk with⟨_,k⟩|⟨_,_,z,_⟩
    ·repeat k_meth
     exact λd H' s e=>k _ _ d H' Qp (F.sm.trans s) e
    ·rw[sa] at z;cases z
   ·rw[if_neg (by simp only[hd,hp0,or_self,not_false_eq_true])] at sa
    repeat k_meth
    refine⟨k0,ek,λH2 s2=>?_⟩;replace F:=F.same s2;cases hb:inB v (gB rs k0:Nat) ((cW n rs k0:Nat)-(r.sz:Int)) with
    | false =>
     rw[hb,if_neg (by simp)] at sa;rcases kk with⟨_,k⟩|⟨_,_,z,_⟩
     ·repeat k_meth
      exact λd H' s e=>k _ _ d H' J6 (F.sm.trans s) e
     ·rw[sa] at z;cases z
    | true =>
     rw[hb,zS rfl] at sa;obtain⟨i,rfl,i0,i1⟩:=Nq hb;obtain⟨j,rfl⟩:∃j:Nat,i=(j:Int):=⟨i.toNat,by lia⟩;have sa:fM n rs nms r.nm (.int (j:Nat))=some (k0,r.nm,((j:Nat):Int).toNat):=sa;rw[Int.toNat_natCast] at sa;rcases kk with⟨z,_⟩|⟨m,r2,z,hr2,k⟩
     ·rw[sa] at z;cases z
     ·rw[sa] at z;obtain rfl:=nI z;obtain rfl:r=r2:=nI (ek.symm.trans hr2)
      repeat k_meth
      exact k _ _ F.sm aM
 ·have nn:afa rs cs:=⟨λr hr z=>hc ⟨r,hr,z⟩⟩;rcases kk with⟨_,k⟩|⟨_,_,z,_⟩
  ·repeat k_meth
   exact k.mono F.sm
  ·rw[rA nn.e] at z;cases z
end
open M22 M82 M87 M75
theorem abS{n:Nat}{rs:List Rw}(h:Lay n rs):(rs.map (·.nm)).Nodup:=by
 rw[List.Nodup,List.pairwise_map];exact h.ap.imp λh=>h.1
theorem Ve{n:Nat}{rs qs:List Rw}(h:Lay n rs)(e:qs.map (·.nm)=rs.map (·.nm))(ok:OkA 0 n qs):Lay n qs:=by
 have hl:qs.length=rs.length:=by have:=congrArg List.length e;simpa using this
 refine⟨λr hr=>⟨?_,(ok.bd r hr).2.1,(ok.bd r hr).2.2⟩,?_,by rw[hl];exact h.few⟩
 ·have:r.nm∈rs.map (·.nm):=e▸List.mem_map_of_mem hr;obtain⟨s,hs,e2⟩:=jI.mp this;rw[<- e2];exact(h.good s hs).nm
 ·have nd:(qs.map (·.nm)).Nodup:=e▸abS h;rw[List.Nodup,List.pairwise_map] at nd;exact nd.imp₂ (λ{a b} h1 h2=>⟨h1,.inl h2⟩) ok.asc
def mvV(m:Mv):List V:=[.str (tx m.2.1),.int (m.2.2:Nat)]
def Vf(ms:List Mv):List (List V):=ms.map mvV
structure abT(n:Nat)(rs:List Rw)(ms:List Mv):Prop where
 few:rs.length<=40
 fem:ms.length<=40
 ok:WOk n rs ms
 ndm:(ms.map (·.2.1)).Nodup
 ndr:(rs.map (·.nm)).Nodup
theorem fO{n:Nat}{rs:List Rw}{r:Rw}{k to:Nat}(h:LyA rs n)(s:Sld n rs r k to):LyA (mvT rs k to) n:=by
 have ok:=aeO h.ok s.at_ s.lo s.hi;exact⟨Ve h.l (Zj s.at_) ok,ok.asc,h.h,h.g⟩
theorem Vg{n:Nat}{rs:List Rw}{r:Rw}{k to:Nat}(h:LyA rs n)(s:Sld n rs r k to):Ym n (rs.filter (λs=>decide (s.nm≠r.nm))++[fQ r to]) (mvT rs k to):=⟨Ye (wJ h.l) s.at_,(fO h s).l,(fO h s).a⟩
def Qq(CL P:Addr)(pos:Pos)(qual:Str):Sp:=λvs H Q _=>∃(x p dx:Addr)(n:Nat)(zs:List V)(rs:List Rw)(r:Rw)(k to:Nat)(ps:xI),vs=[.ref x,.str (tx r.nm),.int (to:Nat)]/\LyH CL H x p dx n zs rs/\LyA rs n/\Sld n rs r k to/\H P=some (.tbl ps)/\TabOk pos qual ps H /\
 ∀(y dy q:Addr)(ys:List V)(ps':xI)(H':Hp),Kp P H H'->H' y=some (.ins CL dy (lF n q))->H' q=some (.lst ys)->aD H' ys (aF (mvT rs k to))->(∀b u,H b=some u->b≠y/\b≠q)->y≠q->H' P=some (.tbl ps')->TabOk pos qual ps' H'->Q (.ref y) H'
def fU:List Rw->List Mv->List (List V)
 | _,[]=>[]
 | T,m::ms=>(match T[m.1]? with
  | some r=>[V.str (tx r.nm),V.int (r.st:Nat),V.int (r.sz:Nat),V.int (m.2.2:Nat)]
  | none=>[])::fU (mvT T m.1 m.2.2) ms
abbrev MvX:=List Nat×V
def mvX(m:MvX):List V:=[.str (tx m.1),m.2]
def dG(ms:List MvX):List (List V):=ms.map mvX
theorem Hq(ms:List MvX):(dG ms).length=ms.length:=wP ..
def cP(n:Nat):List Rw->List (List Nat)->List MvX->Option (List Mv)
 | _,_,[]=>some []
 | T,dn,m::ms=>match fM n T dn m.1 m.2 with
  | none=>none
  | some s=>(cP n (mvT T s.1 s.2.2) (dn++[m.1]) ms).map (s::·)
theorem wM{n:Nat}{T:List Rw}{dn:List (List Nat)}{m:MvX}{ms:List MvX}(h:fM n T dn m.1 m.2=none):cP n T dn (m::ms)=none:=by unfold cP;rw[h]
theorem nM{n:Nat}{T:List Rw}{dn:List (List Nat)}{m:MvX}{ms:List MvX}{s:Mv}(h:fM n T dn m.1 m.2=some s):cP n T dn (m::ms)=(cP n (mvT T s.1 s.2.2) (dn++[m.1]) ms).map (s::·):=by
 show (match fM n T dn m.1 m.2 with|none=>none|some s=>_)=_
 rw[h]
structure GoX(n:Nat)(rs:List Rw)(ms:List MvX)(i:Nat)(w:List Mv):Prop where
 len:w.length=i
 ok:WOk n rs w
 nd:(w.map (·.2.1)).Nodup
 eq:cP n rs [] ms=(cP n (bF rs w) (w.map (·.2.1)) (ms.drop i)).map (w++·)
theorem GoX.zero(n:Nat)(rs:List Rw)(ms:List MvX):GoX n rs ms 0 []:=⟨rfl,trivial,List.nodup_nil,by
 rw[List.drop_zero];show cP n rs [] ms=(cP n rs [] ms).map _;cases cP n rs [] ms <;> rfl⟩
theorem Hr{n:Nat}:∀{w:List Mv} {T:List Rw} {s:Mv} {r:Rw},WOk n T w->Sld n (bF T w) r s.1 s.2.2->r.nm=s.2.1->WOk n T (w++[s])
 | [],T,s,r,_,h,e=>⟨⟨r,h.at_,e,h.pn,h.lo,h.hi⟩,trivial⟩
 | a::w,T,s,r,ok,h,e=>⟨ok.1,Hr (w:=w) ok.2 h e⟩
theorem GoX.no{n:Nat}{rs:List Rw}{ms:List MvX}{i:Nat}{w:List Mv}{m:MvX}(g:GoX n rs ms i w)(e:ms[i]?=some m)(h:fM n (bF rs w) (w.map (·.2.1)) m.1 m.2=none):cP n rs [] ms=none:=by
 obtain⟨hi,rfl⟩:=qA.mp e;rw[g.eq,List.drop_eq_getElem_cons hi,wM h]
 rfl
theorem GoX.go{n:Nat}{rs:List Rw}{ms:List MvX}{i:Nat}{w:List Mv}{m:MvX}{s:Mv}(g:GoX n rs ms i w)(ly:Lay n (bF rs w))(e:ms[i]?=some m)(h:fM n (bF rs w) (w.map (·.2.1)) m.1 m.2=some s):GoX n rs ms (i+1) (w++[s]):=by
 obtain⟨hi,rfl⟩:=qA.mp e;obtain⟨r,sl,rn,sn,nd,_⟩:=rB ly h;have e2:bF rs (w++[s])=mvT (bF rs w) s.1 s.2.2:=by unfold bF;rw[List.foldl_append];rfl
 refine⟨by rw[yT,g.len];rfl,Hr g.ok sl (rn.trans sn.symm),?_,?_⟩
 ·rw[List.map_append,List.nodup_append];refine⟨g.nd,by simp,λa ha b hb=>?_⟩;have hb:b=s.2.1:=by simpa using hb
  rw[hb,sn];exact λz=>nd (z▸ha)
 ·rw[g.eq,List.drop_eq_getElem_cons hi,nM h,e2,Option.map_map];show (cP n _ (_++[ms[i].1]) _).map _=(cP n _ ((w++[s]).map _) _).map _;rw[List.map_append,show [s].map (·.2.1)=[ms[i].1] by simp[sn]]
  congr 1
  funext z
  simp
theorem GoX.done{n:Nat}{rs:List Rw}{ms:List MvX}{i:Nat}{w:List Mv}(g:GoX n rs ms i w)(h:ms.length<=i):cP n rs [] ms=some w:=by
 rw[g.eq,List.drop_of_length_le h];show some (w++[])=_;rw[mI]
def J7(K:W.Frag)(H:Hp)(u:V):Prop:=(∃n1:String,cO K H u (.type n1)/\(n1 == "list")=false)\/∃q e,u=.ref q/\H q=some (.lst [e])/\Ql K H e
def RzP(K:W.Frag)(R:Addr)(E:XK)(P:Addr)(pos:Pos)(qual:Str)(H:Hp):Prop:=∀C fs d H' ps',ExM K C R true->Kp P H H'->H' P=some (.tbl ps')->TabOk pos qual ps' H'->H' d=some (jh d fs)->E (.ref C) (some d) H'
def Yy(K:W.Frag)(R CL P:Addr)(pos:Pos)(qual:Str):Sp:=λvs H Q E=>∃(x p dx:Addr)(n:Nat)(zs:List V)(rs:List Rw)(u:V),vs=[.ref x,u]/\LyH CL H x p dx n zs rs/\LyA rs n/\((J7 K H u/\RzR K R E H)\/∃m ws ms ps,u=.ref m/\H m=some (.lst ws)/\aD H ws (dG ms)/\(∀m∈ms,okP m.2=true)/\ms.length<=41/\H P=some (.tbl ps)/\TabOk pos qual ps H /\
 ((cP n rs [] ms=none/\RzP K R E P pos qual H)\/∃w,cP n rs [] ms=some w/\∀(t s y dy q:Addr)(ss ys:List V)(ps':xI)(H':Hp),SH H [P] H' [(s,.lst ss),(P,.tbl ps')] [.tup t [.ref s,.ref y],.tps ss (fU rs w),eZ pos qual ps']->LyH CL H' y q dy n ys (bF rs w)->Q (.ref t) H'))
theorem Vh{n:Nat}:∀{ms:List Mv} {T:List Rw},WOk n T ms->(fU T ms).map (λr=>r.getD 0 V.non)=(ms.map (·.2.1)).map λcs=>V.str (tx cs)
 | [],_,_=>rfl
 | m::ms,T,h=>by
  obtain⟨⟨r,hr,hn,_⟩,h2⟩:=h;unfold fU;rw[oS,oS,oS,Vh h2,hr,<- hn]
  rfl
theorem Nr:∀(ms:List Mv)(T:List Rw),(fU T ms).length=ms.length
 | [],_=>rfl
 | m::ms,T=>by unfold fU;rw[List.length_cons,Nr ms,List.length_cons]
theorem Nt{n:Nat}:∀{ms:List Mv} {T:List Rw},WOk n T ms->∀w∈fU T ms,∃(a:Str)(b c d:Int),w=[.str a,.int b,.int c,.int d]
 | [],_,_=>λ_ h=>by cases h
 | m::ms,T,h=>λw hw=>by
  obtain⟨⟨r,hr,_⟩,h2⟩:=h;unfold fU at hw;rw[hr] at hw;rcases vT.mp hw with rfl|hw
  ·exact⟨_,_,_,_,rfl⟩
  ·exact Nt h2 w hw
theorem Nu:∀(w:List Mv)(T:List Rw)(v:List Mv),fU T (w++v)=fU T w++fU (bF T w) v
 | [],_,_=>rfl
 | m::w,T,v=>by
  show _::fU (mvT T m.1 m.2.2) (w++v)=_;rw[Nu w]
  rfl
theorem J8{H:Hp}{ms:List MvX}{ys:List V}{i:Nat}{v:V}(h:aD H ys (dG ms))(e:ys[i]?=some v):∃w q,ms[i]?=some w/\v=.ref q/\H q=some (.tup (mvX w)):=by
 obtain⟨r,q,e1,e2,e3⟩:=oV h e;unfold dG at e1;rw[wT] at e1;cases e4:ms[i]? with
 | none=>rw[e4] at e1;cases e1
 | some w=>rw[e4] at e1;cases e1;exact⟨w,q,rfl,e2,e3⟩
theorem bZ{H:Hp}{a b:Addr}{o1 o2:HO}(h1:H a=some o1)(h2:H b=some o2)(n:o1≠o2):a≠b:=λz=>by
 rw[z,h2] at h1;exact n (nI h1).symm
theorem nm2{a b c:Addr}(h:a≠b)(g:a≠c):a ∉ [b,c]:=by simp[h,g]
section
variable{P:Program}{w:World}{K:W.Frag}{mg:xC}{base:Heap}{c:Nat->Addr}{aC ao R CL CP CS:Addr}
theorem Qs(T:Txt K mg c R CL CP CS aC ao)(B:Bm mg base):Met P w K mg base CX0 8 CL "moved" ["self","name","to"] (Qq CL ao bV bG):=by
 obtain⟨f,hf,hm⟩:=T.GP;refine(fA (k:=7) hf zT λf cdv A outer s H vs Q E hr h=>?_).met hm;obtain⟨x,p,dx,n,zs,rs,r,k0,to,ps,rfl,ly,lya,sl,hP,tk,k⟩:=h;have nd:=zT.nd;refine⟨_,(aq (psz 3 nd (Ju (pv 0) T.clL (Ba T) hr (aj (pv 1) ak) (hx:=R3)))
  (aq (bK (c7 (cQ (aG (ju T) hr (aj (pv 2) (aj au ak))))) dw bf)
  (aq (oA (i:=4) nd rfl (Or.inl rfl) (N:=["other","name"]) (nt:=1) (fr:=[1]) (cC (gh (pv 0) rfl)) (λ_ _ _ _=>(cj (i:=0) (show (["other","name"]:List Str).Nodup from by decide +kernel) rfl (Or.inl rfl))) (λ_ _ _ _=>lO (aU DR (aH (cX (K:=K) rfl) (pv 0) au (λ_ _=>rfl)) (pv 1) (aY _))) (λ_ _ _ _=>(pv 0)))
  (aB (aL (sZ (G5 T B) hr (aj (gh (pv 0) rfl) (aj (aN gR (pv 4) (aX (aj (bM (aj (pv 1) (aj (pv 2) (aj (aH aZ (pv 3) au (λ_ _=>rfl)) (aj (aH aZ (pv 3) au (λ_ _=>rfl)) ak))))) ak))) ak)))))))),?_⟩
 clear nd;rw[stE]
 try dsimp only[bT,bC]
 have hx:=ly.x;have hp:=ly.p;have tp:=ly.t;have few:=lya.l.few;have iK:=lya.h;have zl:zs.length=rs.length:=by rw[tp.1,aW]
 have nxP:=bZ hx hP (by simp);have npP:=bZ hp hP (by simp);have F:SH H [ao] H [(ao,.tbl ps)] [.tps zs (aF rs),eZ bV bG ps]:=((SH.nil.fP List.mem_cons_self hP rfl (by simp)).jc tk).cU tp;have gJ:=Old.mk (M:=[ao]) hx (nm1 nxP);have fL:=Old.mk (M:=[ao]) hp (nm1 npP);have hr:r∈rs:=yY sl.at_;have la:=Vg lya sl;have lym:=fO lya sl;have sdn:16<=n/\n<=240:=⟨lya.g,lya.h⟩
 repeat k_meth
 refine xZ (fvs:=[some (.str (tx r.nm))]) (pr:=λs=>decide (s.nm≠r.nm)) aM (TpA.e (rs:=aF rs)) (by lia) rfl (λq s H1 R hs s1 h1 kk=>?_) λlo ys H1 n1 t1 yl1=>?_
 ·clear F;have F:=SH.n0 H1;have afe:=om h1;have kk:=kk _ (Same.refl _);by_cases e9:s.nm=r.nm
  ·have e8:tx s.nm=tx r.nm:=by rw[e9]
   rw[gS (show ¬ (s.nm≠r.nm) from λz=>z e9)] at kk
   repeat k_meth
   rw[gX e8];exact kk
  ·have e8:¬ tx s.nm=tx r.nm:=λz=>e9 (m9 z)
   rw[gX e9] at kk
   repeat k_meth
   rw[gS e8];exact kk
 ·replace F:=F.newR n1 t1;clear n1 t1;have yo:ys.length=(rs.filter λs=>decide (s.nm≠r.nm)).length:=by
   have:=(TpA.e (H:=H1) (ys:=ys) (rs:=aF (rs.filter λs=>decide (s.nm≠r.nm)))).1;rw[aW] at this;exact this
  have ol:=List.length_filter_le (λs:Rw=>decide (s.nm≠r.nm)) rs
  repeat k_meth
  rename_i tq _ _ _;obtain⟨lq,elq⟩:∃z,z=p_:=⟨_,rfl⟩;subst elq;rw[show [V.str (tx r.nm),V.int (to:Nat),V.int (r.sz:Nat),V.int (r.pn:Nat)]=cB (fQ r to) from rfl] at F;replace F:=SH.app (ys:=ys) (rs:=aF (rs.filter λs=>decide (s.nm≠r.nm))) (q:=tq) (r:=cB (fQ r to)) F (LkP.m) (LkI.m);rw[<- jO] at F
  repeat k_meth
  intro ps2
  repeat k_meth
  exact k x_ dx_ p_ ys_ ps2 _ F.kpo aM aM TpA.e (λb u e=>⟨F.fresh (LkL.m (o:=.ins CL dx_ (lF (n:Nat) p_))) (nm1 (SH.neC (F:=F))) b u e,F.fresh (LkL.m (o:=.lst ys_)) (nm1 (SH.neC (F:=F))) b u e⟩) (SH.neC (F:=F)) aM SH.tab
end
section
variable{P:Program}{w:World}{K:W.Frag}{mg:xC}{base:Heap}{c:Nat->Addr}{aC ao R CL CP CS:Addr}
theorem Vi(T:Txt K mg c R CL CP CS aC ao)(B:Bm mg base):Def P w K mg base (CX1 P w) 9 "gone_through" ["layout","moves"] (Yy K R CL ao bV bG):=by
 refine dX T.Ut Mu λf cdv A outer s H vs Q E hr h=>?_
 obtain⟨x,p,dx,n,zs,rs,u,rfl,ly,lya,kk⟩:=h;have nd:=Mu.nd;refine⟨_,(aq (bK (PW.pt (jR (c7 (cQ (aR dO rfl T.bY boot_isinstance (aj (pv 1) (aj (j5 (T := "list") rfl T.fK boot_list) ak))))) (iU (c7 (cQ (aR (Ec rfl) rfl T.Ux boot_all (aj (dI (N:=["move"]) (nt:=1) (fr:=[]) (cC (pv 1)) (λ_ _ _ _=>(cj (i:=0) (show (["move"]:List Str).Nodup from by decide +kernel) rfl (Or.inl rfl))) (λ_ _ _ _=>dU) (λ_ _ _ _=>(aG (Vb T) hr (aj (pv 0) ak)))) ak))))))) (aB (j9 T.zW (Ci T.jr (PN T.jr.S T.jU) hr (aj (pv 1) ak)))) bf)
  (aq (psz 2 nd (aX ak))
  (aq (cH PassesOwn.leaving rfl (cC (pv 1)) (iW rfl (bL (pgz 3 nd) (bL (pgz 4 nd) fu))) (aq (oA (i:=5) nd rfl (Or.inl rfl) (N:=["step"]) (nt:=1) (fr:=[]) (cC (pv 2)) (λ_ _ _ _=>(cj (i:=0) (show (["step"]:List Str).Nodup from by decide +kernel) rfl (Or.inl rfl))) (λ_ _ _ _=>dU) (λ_ _ _ _=>(aH (cX (K:=K) rfl) (pv 0) au (λ_ _=>rfl))))
   (aq (cg (bR (pv 2) (aG (Vc T) hr (aj (pv 0) (aj (pv 3) (aj (pv 4) (aj (pv 5) ak)))) (hx:=Y6))))
   (aB (psz 0 nd (Ju (pv 0) T.clL (Qs T B) hr (aj (pv 3) (aj (pv 4) ak))))))))
  (PSs.nox (aB (aL (bM (aj (pv 2) (aj (pv 0) ak))))))))),?_⟩
 clear nd;rw[stE]
 try dsimp only[bT,bC,TV]
 have hx:=ly.x;have hp:=ly.p;have tp:=ly.t;have few:=lya.l.few;have iK:=lya.h;have zl:zs.length=rs.length:=by rw[tp.1,aW]
 have abU:ExM K (c 3) (c 3) true:=⟨j_ T.jr.I⟩;have wN:ExM K (c 3) R true:=⟨uF T.jr.I T.c_R T.t_R T.m_R⟩;rcases kk with⟨⟨n1,ty,nl⟩|⟨q,e,rfl,hq,bp⟩,k⟩|⟨m,ws,ms,ps,rfl,hm,tm,oks,m41,hP,tk,kk⟩
 ·have F:=SH.n0 H;have o_u:aeB K H [] u n1:=⟨ty,λ_ _ z=>by cases z⟩
  repeat k_meth
  rw[nl]
  repeat k_meth
  exact λd H' s e=>k _ _ d H' wN (F.sm.trans s) e
 ·have F:=SH.n0 H;have o_q:=om hq
  repeat k_meth
  refine comp_map (P:=λ_ y=>y=V.bl false) (iC (xs:=[e])) (by show 1<=1000000;decide) rfl (λH' s=>s.seq SqA.e) (λi v H1 R hv s1 kk=>?_) λl H1 ys nw yl hP=>?_
  ·obtain rfl:v=e:=uS.mp (yY hv);have ba:afb K H1 v:=⟨bp.same s1⟩;clear F;have F:=SH.n0 H1
   repeat k_meth
   exact kk _ _ (Same.refl _) rfl
  obtain rfl:ys=[V.bl false]:=by
   obtain⟨y,rfl⟩:∃y,ys=[y]:=List.length_eq_one_iff.mp (by simpa using yl);rw[hP 0 y rfl]
  replace F:=F.newL nw
  repeat k_meth
  refine⟨l,[false],rfl,SqA.e,?_⟩;rw[show [false].all id=false from rfl]
  repeat k_meth
  exact λd H' s e=>k _ _ d H' wN (F.sm.trans s) e
 have F:SH H [ao] H [(ao,.tbl ps)] [.tps zs (aF rs),.tps ws (dG ms),eZ bV bG ps]:=(((SH.nil.fP List.mem_cons_self hP rfl (by simp)).jc tk).cU tm).cU tp;have gJ:=Old.mk (M:=[ao]) hx (nm1 (bZ hx hP (by simp)));have fL:=Old.mk (M:=[ao]) hp (nm1 (bZ hp hP (by simp)));have Vj:=Old.mk (M:=[ao]) hm (nm1 (bZ hm hP (by simp)));have wl:ws.length=ms.length:=by rw[tm.1,Hq]
 repeat k_meth
 refine Qi (iC (xs:=ws)) (by lia) rfl (λH' s=>s.seq SqA.e) (λv H1 R hv s1 kk=>?_) λl H1 nw=>?_
 ·obtain⟨i,hi⟩:=List.getElem?_of_mem hv;obtain⟨mm,q1,e1,rfl,e2⟩:=J8 tm hi;have h1:H1 q1=some (.tup (mvX mm)):=s1 _ _ e2;clear F;have F:=SH.n0 H1;have afe:Old H1 [] q1 (.tup [.str (tx mm.1),mm.2]):=om h1
  repeat k_meth
  exact kk _ (Same.refl _)
 replace F:=F.newL nw
 repeat k_meth
 refine⟨l,_,rfl,SqA.e,?_⟩;rw[show (List.replicate ws.length true).all id=true by simp]
 repeat k_meth
 rename Addr=>st
 have nps:p≠st:=F.fresh (LkL.m (o:=.lst _)) (nm1 (SH.neC (F:=F))) p _ hp;refine fH (xs:=ws) (λi σ' H'=>∃(o3 o4 o5:Option V)(y q dy:Addr)(ys ss:List V)(ps:xI)(w:List Mv),σ'=[some (.ref y),some (.ref m),some (.ref st),o3,o4,o5]/\LyH CL H' y q dy n ys (bF rs w)/\LyA (bF rs w) n/\q≠st/\GoX n rs ms i w/\ss.length=i/\SH H [ao] H' [(st,.lst ss),(ao,.tbl ps)] [.tps ss (fU rs w),eZ bV bG ps]) ⟨_,_,_,x,p,dx,zs,[],ps,[],rfl,⟨aM,aM,TpA.e⟩,lya,nps,GoX.zero n rs ms,rfl,(F.cU (ys:=[]) (rs:=fU rs []) aD.nil).sub SbC.s SbI.s⟩ ?_ ?_ ?_
 ·clear F;rintro i σ' H' _ ⟨_,_,_,y,q,dy,ys,ss,ps1,w,rfl,lyi,J9,nq,gx,sl,F⟩;exact SqA.e
 ·clear F;rintro i v σ' H' hv ⟨_,_,_,y,q,dy,ys,ss,ps1,w,rfl,lyi,J9,nq,gx,sl,F⟩;obtain⟨mm,q1,e1,rfl,e2⟩:=J8 tm hv;have aiD:i<ms.length:=(qA.mp e1).1;have okm:=oks mm (yY e1);have h1:H' q1=some (.tup (mvX mm)):=F.fr _ _ (nm1 (bZ e2 hP (by simp))) e2;have hst:H' st=some (.lst ss):=aM;have hpt:H' ao=some (.tbl ps1):=aM;have tk1:TabOk bV bG ps1 H':=SH.tab;have tss:aD H' ss (fU rs w):=TpA.e;have Fo2:SH H [ao] H' ([(st,.lst ss),(ao,.tbl ps1)]++[]) [.tps ss (fU rs w),eZ bV bG ps1]:=F;have nsP:st≠ao:=bZ hst hpt (by simp);have frs:∀b u,H b=some u->b≠st:=F.fresh (LkL.m (o:=.lst ss)) (nm1 nsP);have aiE:=gx.len;have ajS:=Nr w rs;clear F;have F:SH H' [st,ao] H' [(st,.lst ss),(ao,.tbl ps1)] [.tps ys (aF (bF rs w)),.tps ss (fU rs w),eZ bV bG ps1]:=((((SH.nil.fP (by simp) hpt rfl (by simp)).fP (by simp) hst rfl (by simp[Ne.symm nsP])).jc tk1).cU tss).cU lyi.t;have o_y:=Old.mk (M:=[st,ao]) lyi.x (nm2 (bZ lyi.x hst (by simp)) (bZ lyi.x hpt (by simp)));have o_q:=Old.mk (M:=[st,ao]) lyi.p (nm2 nq (bZ lyi.p hpt (by simp)));have afe:Old H' [st,ao] q1 (.tup [.str (tx mm.1),mm.2]):=Old.mk (M:=[st,ao]) h1 (nm2 (bZ h1 hst (by simp)) (bZ h1 hpt (by simp)))
  repeat k_meth
  refine gw (F:=λr=>r.getD 0 .non) aM (TpA.e (rs:=fU rs w)) (by lia) rfl (λq w2 H1 R hw s1 f1 kk=>?_) λl H1 n1=>?_
  ·obtain⟨a0,b0,c0,d0,rfl⟩:=Nt gx.ok w2 hw;clear F;have F:=SH.n0 H1;have ajT:=om f1
   repeat k_meth
   exact kk _ (Same.refl _)
  rw[Vh gx.ok] at n1;replace F:=F.newL n1
  repeat k_meth
  have Zq:∀{H5:Hp},Same _ H5->Kp ao H H5/\H5 ao=some (.tbl ps1)/\TabOk bV bG ps1 H5:=λs5=>⟨λb u nb hb=>s5 _ _ (F.fr b u (nm2 (frs b u hb) nb) (Fo2.fr b u (nm1 nb) hb)),s5 _ _ aM,TabOk.st _ _ (λa o _ e=>s5 a o e) SH.tab⟩
  refine⟨y,q,dy,l,n,ys,_,mm.1,mm.2,w.map λm:Mv=>m.2.1,rfl,⟨aM,aM,TpA.e⟩,J9,okm,aM,by rw[wP];lia,?_⟩;cases es:fM n (bF rs w) (w.map (·.2.1)) mm.1 mm.2 with
  | none =>
   have wn:=gx.no e1 es;rcases kk with⟨_,k⟩|⟨_,z,_⟩
   ·exact .inl ⟨rfl,λC fs d H5 xm s5 e5=>let b:=Zq s5;k C fs d H5 ps1 xm b.1 b.2.1 b.2.2 e5⟩
   ·rw[wn] at z;cases z
  | some s =>
   clear Zq;have gx2:=gx.go J9.l e1 es;obtain⟨r,sld,hn,sn,_,ev⟩:=rB J9.l es;refine .inr ⟨s,r,rfl,sld.at_,λqs H5 s5 e5=>?_⟩;have sat:fU rs (w++[s])=fU rs w++[[V.str (tx mm.1),V.int (r.st:Nat),V.int (r.sz:Nat),V.int (s.2.2:Nat)]]:=by
    rw[Nu,show fU (bF rs w) [s]=[[V.str (tx r.nm),V.int (r.st:Nat),V.int (r.sz:Nat),V.int (s.2.2:Nat)]] by unfold fU;rw[sld.at_];rfl,hn]
   replace F:=(F.same s5).qC e5
   repeat k_meth
   have F3:=SH.app (ys:=ss) (rs:=fU rs w) (q:=qs) (r:=[V.str (tx mm.1),V.int (r.st:Nat),V.int (r.sz:Nat),V.int (s.2.2:Nat)]) F (LkP.m) (LkI.m);rw[<- sat] at F3;clear F;have F:SH H' [st,ao] H_ _ _:=F3;clear F3;have h9:H_ st=some (.lst (ss++[.ref qs])):=aM;rw[ev,<- hn];refine⟨y,q,dy,n,ys,_,r,s.1,s.2.2,ps1,rfl,⟨aM,aM,TpA.e⟩,J9,sld,aM,SH.tab,λy2 dy2 q2 ys2 ps2 H4 kp hy2 hq2 ht2 fr2 ajU hP2 tk2=>?_⟩;have lyn:=fO J9 sld;have e2:bF rs (w++[s])=mvT (bF rs w) s.1 s.2.2:=by unfold bF;rw[List.foldl_append];rfl
   rw[<- e2] at lyn ht2;replace F:=SH.jc (st:=TabOk.st) (F.kp kp hP2 LkU.u rfl) tk2
   repeat k_meth
   have F1:SH H' [st,ao] _ [(st,.lst (ss++[.ref qs])),(ao,.tbl ps2)] [.tps (ss++[.ref qs]) (fU rs (w++[s])),eZ bV bG ps2]:=F.sub SbC.s SbI.s;have F2:=SH.over Fo2 F1 rfl;clear F F1;simp only[List.cons_append,List.nil_append] at F2;exact⟨_,_,_,y2,q2,dy2,ys2,ss++[.ref qs],ps2,w++[s],rfl,⟨hy2,hq2,ht2⟩,lyn,λz=>(fr2 st _ h9).2 z.symm,gx2,by rw[yT,sl];rfl,F2.sub SbC.s SbI.s⟩
 ·clear F;rintro σ' H' ⟨_,_,_,y,q,dy,ys,ss,ps1,w,rfl,lyi,J9,nq,gx,sl,F⟩;have wd:=gx.done (by lia);rcases kk with⟨z,_⟩|⟨w2,e9,k⟩
  ·rw[wd] at z;cases z
  rw[wd] at e9;obtain rfl:=nI e9;have F0:=λ(_:True)=>F
  clear F;have F:SH H' [] H' [] []:=SH.nil
  repeat k_meth
  have F2:=((F0 trivial).same F.sm).qC (aM:H_ p_=some (.tup [.ref st,.ref y]));have ly2:=lyi.same F.sm;clear F F0;exact k _ st y dy q ss ys ps1 _ (F2.sub SbC.s SbI.s) ly2
end
open M22 M82 M87 M75
def toX(ms:List Mv):List MvX:=ms.map λm=>(m.2.1,.int (m.2.2:Nat))
theorem Nv(ms:List Mv):(toX ms).length=ms.length:=wP ..
theorem Ht(ms:List Mv):dG (toX ms)=Vf ms:=by unfold dG toX Vf;rw[List.map_map];rfl
theorem Vk(ms:List Mv):∀m∈toX ms,okP m.2=true:=λm hm=>by
 obtain⟨a,_,rfl⟩:=jI.mp hm
 rfl
theorem Hu{n:Nat}:∀{ms:List Mv} {T:List Rw} {dn:List (List Nat)},LyA T n->WOk n T ms->(ms.map (·.2.1)).Nodup->(∀m∈ms,m.2.1 ∉ dn)->cP n T dn (toX ms)=some ms
 | [],_,_,_,_,_,_=>rfl
 | m::ms,T,dn,ly,w,nd,nn=>by
  obtain⟨⟨r,h1,h2,h3,h4,h5⟩,w2⟩:=w;rw[oS,List.nodup_cons] at nd;have hb:inB (.int (m.2.2:Nat)) (gB T m.1:Nat) ((cW n T m.1:Nat)-(r.sz:Int))=true:=by
   show (decide _ && decide _)=true;rw[gX (by lia),gX (by lia)]
   rfl
  have hs:fM n T dn m.2.1 (.int (m.2.2:Nat))=some m:=by
   rw[<- h2,step_at ly.l h1,yB,zS hb]
   ·show some (m.1,r.nm,((m.2.2:Nat):Int).toNat)=some m;rw[Int.toNat_natCast,h2]
   ·rw[h2];intro z;rcases z with z|z
    ·exact nn m zC z
    ·lia
  have e:=nM (m:=(m.2.1,.int (m.2.2:Nat))) (ms:=toX ms) hs;show cP n T dn ((m.2.1,V.int (m.2.2:Nat))::toX ms)=_;rw[e,Hu (fO ly ⟨h1,h3,h4,h5⟩) w2 nd.2 λa ha z=>?_]
  ·rfl
  ·rcases wS.mp z with z|z
   ·exact nn a (zD _ ha) z
   ·have z:a.2.1=m.2.1:=by simpa using z
    exact nd.1 (z▸List.mem_map_of_mem (f:=(·.2.1)) ha)
theorem Nx{n:Nat}{rs:List Rw}{ms:List Mv}(ly:LyA rs n)(wk:abT n rs ms):cP n rs [] (toX ms)=some ms:=Hu ly wk.ok wk.ndm (by simp)
def Yz(CL P:Addr)(pos:Pos)(qual:Str):Sp:=λvs H Q _=>∃(x p dx m:Addr)(n:Nat)(zs ws:List V)(rs:List Rw)(ms:List Mv)(ps:xI),vs=[.ref x,.ref m]/\LyH CL H x p dx n zs rs/\LyA rs n/\H m=some (.lst ws)/\aD H ws (Vf ms)/\abT n rs ms/\H P=some (.tbl ps)/\TabOk pos qual ps H /\
 ∀(y dy q:Addr)(ys:List V)(ps':xI)(H':Hp),Kp P H H'->H' P=some (.tbl ps')->TabOk pos qual ps' H'->LyH CL H' y q dy n ys (bF rs ms)->Q (.ref y) H'
def Bc:Sp:=λvs H Q _=>∃s:Int,vs=[.int s]/\1<=s/\∀H',Same H H'->Q .non H'
abbrev Chc:=Int×Int×Int
def chV(c:Chc):List Int:=[c.1,c.2.1,c.2.2]
def jP(cs:List Chc):List (List V):=(cs.map chV).map λr=>r.map V.int
def ch2(g b:Int):Option Int->Option Int->List Chc
 | some u,some v=>[(u+v,g,b)]
 | _,_=>[]
def chA(g c:Int)(s:Nat)(l r:PR)(b:Nat):List Chc:=ch2 g b ((l[b]?).getD none) ((r[(max 0 ((s:Int)-c-(b:Int))).toNat]?).getD none)
theorem YB(g b:Int)(u v:Option Int):(ch2 g b u v).length<=1:=by cases u <;> cases v <;> simp[ch2]
def chF(g c:Int)(s:Nat)(l r:PR)(k:Nat):List Chc:=(List.range k).flatMap (chA g c s l r)
theorem pX(g c:Int)(s:Nat)(l r:PR)(k:Nat):chF g c s l r (k+1)=chF g c s l r k++chA g c s l r k:=by unfold chF;rw[List.range_succ,List.flatMap_append];simp
theorem Dp(g c:Int)(s:Nat)(l r:PR)(k:Nat):(chF g c s l r k).length<=k:=by
 induction k with
 | zero=>exact uC _
 | succ k ih =>
  rw[pX,yT];have:(chA g c s l r k).length<=1:=YB ..
  lia
theorem Hv(a b:List Chc):jP (a++b)=jP a++jP b:=by unfold jP;rw[List.map_append,List.map_append]
theorem Vl(a:List Chc):(jP a).length=a.length:=by unfold jP;rw[List.length_map,List.length_map]
def wO:Sp:=λvs H Q _=>∃(a b:Addr)(g c:Int)(s:Nat)(l r:PR),vs=[.int g,.int c,.int (s:Nat),.ref a,.ref b]/\H a=some (.lst (l.map pV))/\H b=some (.lst (r.map pV))/\(l.length=s+1/\r.length=s+1)/\(s<=240/\0<=c)/\∀q ys H',New H H' q (.lst ys)->aD H' ys (jP (chF g c s l r (s+1)))->Q (.ref q) H'
section
variable{p a b:Addr}{H H0:Hp}{Q:VK}{E:XK}{n s:Nat}{z g c:Int}{l r:PR}{M:List Addr}{L:List (Addr×HO)}{I:List Im}{Z:Addr->Hp->Prop}{cs:List Chc}
instance acU:Go (Bc [.int z] H Q E) (Sd (1<=z) (∀H',Same H H'->Q .non H')):=⟨λk=>⟨z,rfl,k.1,k.2⟩⟩
instance abV[h:Hat H a (.lst (l.map pV))][h2:Hat H b (.lst (r.map pV))]:Go (wO [.int g,.int c,.int (s:Nat),.ref a,.ref b] H Q E) (Sd (l.length=s+1/\r.length=s+1) (Sd (s<=240/\0<=c) (∀q ys H',New H H' q (.lst ys)->aD H' ys (jP (chF g c s l r (s+1)))->Q (.ref q) H'))):=⟨λk=>⟨a,b,g,c,s,l,r,rfl,h.e,h2.e,k.1,k.2.1,k.2.2⟩⟩
instance aiF[F:SH H0 M H L I]:Go (∀p ys H',New H H' p (.lst ys)->aD H' ys (jP cs)->Z p H') (∀H' p ys,ys.length=cs.length->SH H0 M H' ((p,.lst ys)::L) (.tps ys (jP cs)::I)->Z p H'):=⟨λk p ys H' n t=>k H' p ys (by rw[t.1,Vl]) (F.newR n t)⟩
end
section
variable{P:Program}{w:World}{K:W.Frag}{mg:xC}{base:Heap}{c:Nat->Addr}{aC ao R CL CP CS:Addr}
theorem abW(T:Txt K mg c R CL CP CS aC ao)(B:Bm mg base):Def P w K mg base CX0 10 "slid" ["layout","moves"] (Yz CL ao bV bG):=by
 refine dA T.Uu Mw λf cdv A outer s H vs Q E hr h=>?_
 obtain⟨x,p,dx,m,n,zs,ws,rs,ms,ps,rfl,ly,lya,hm,tm,wk,hP,tk,k⟩:=h;have nd:=Mw.nd;refine⟨_,(aB (aL (aH aZ (aG (Vi T B) hr (aj (pv 0) (aj (pv 1) ak)) (hx:=R3)) au (λ_ _=>rfl)))),?_⟩;clear nd;rw[stE]
 try dsimp only[bT,bC]
 have F:=SH.n0 H
 repeat k_meth
 refine⟨x,p,dx,n,zs,rs,_,rfl,ly,lya,.inr ⟨m,ws,toX ms,ps,rfl,hm,by rw[Ht];exact tm,Vk ms,by have:=wk.fem;rw[Nv];lia,hP,tk,.inr ⟨ms,Nx lya wk,λt s0 y dy q ss ys ps' H' G ly2=>?_⟩⟩⟩;clear F;have F:SH H' [] H' [] []:=SH.nil;have ht:H' t=some (.tup [.ref s0,.ref y]):=G.im (.tup t [.ref s0,.ref y]) (by simp);have o_t:=om ht
 repeat k_meth
 exact k y dy q ys ps' _ (λb u n e=>G.fr b u (nm1 n) e) (G.at' (ao,.tbl ps') (by simp)) (G.im (eZ bV bG ps') (by simp)) ly2
theorem Ny(T:Txt K mg c R CL CP CS aC ao):Def P w K mg base CX0 3 "need_size" ["size"] Bc:=by
 refine dA T.M5 FN λf cdv A outer s H vs Q E hr h=>?_
 obtain⟨s,rfl,s1,k⟩:=h;have nd:=FN.nd;refine⟨_,(aB (bK (c7 (cQ (aG (ju T) hr (aj (pv 0) (aj au ak))))) dw bf)),?_⟩;clear nd;rw[stE]
 try dsimp only[bT,bC]
 have F:=SH.n0 H
 repeat k_meth
 exact k _ F.sm
theorem Qt(T:Txt K mg c R CL CP CS aC ao):Def P w K mg base CX0 1 "choices_at" ["gap","cells","size","left","right"] wO:=by
 refine dA T.Aa vo λf cdv A outer s H vs Q E hr h=>?_
 obtain⟨a,b,g,c0,s,l,r,rfl,ha,hb,side,side2,k⟩:=h;have nd:=vo.nd;refine⟨_,(aq (psz 5 nd (aX ak))
  (aq (cH PassesOwn.never rfl (cL rfl T.cY (aj (aN bI (pv 2) au) ak)) (pgz 6 nd) (aq (psz 7 nd (aH aO (pv 4) (aR (gZ rfl) rfl T.pK boot_max (aj au (aj (aN b_ (aN b_ (pv 2) (pv 1)) (pv 6)) ak))) (λ_ _=>rfl)))
   (aB (bK (PW.pt (tO (aU kj (aH aO (pv 3) (pv 6) (λ_ _=>rfl)) cZ (aY _)) (sO (aU kj (pv 7) cZ (aY _))))) (aB (cg (bR (pv 5) (bM (aj (aN bI (aH aO (pv 3) (pv 6) (λ_ _=>rfl)) (pv 7)) (aj (pv 0) (aj (pv 6) ak))))))) bf))))
  (aB (aL (pv 5))))),?_⟩
 clear nd ;rw[stE]
 try dsimp only[bT,bC]
 have ajV:=om ha;have ajW:=om hb;have F:=SH.n0 H;obtain⟨ll,rl⟩:=side;obtain⟨Qj,c00⟩:=side2
 repeat k_meth
 rename Addr=>co
 rw[show ((s:Int)+1).toNat=s+1 by lia];refine jj (λj σ' H'=>∃(o6 o7:Option V)(ys:List V),σ'=[some (.int g),some (.int c0),some (.int (s:Nat)),some (.ref a),some (.ref b),some (.ref co),o6,o7]/\ys.length=(chF g c0 s l r j).length/\SH H [] H' [(co,.lst ys)] [.tps ys (jP (chF g c0 s l r j))]) ⟨_,_,[],rfl,rfl,(F.cU (ys:=[]) (rs:=jP (chF g c0 s l r 0)) aD.nil).sub SbC.s SbI.s⟩ ?_ ?_
 ·clear F;rintro j σ' H' hj ⟨_,_,ys,rfl,yl,F⟩;have cl:=Dp g c0 s l r j;obtain⟨u,hu⟩:∃u,l[j]?=some u:=⟨_,qB (by lia)⟩;obtain⟨v,hv⟩:∃v,r[(max 0 ((s:Int)-c0-(j:Int))).toNat]?=some v:=⟨_,qB (by lia)⟩;have a1:AtI (l.map pV) ((j:Nat):Int) (pV u):=⟨bB (by rw[wT,hu];rfl)⟩;have a2:AtI (r.map pV) (max 0 ((s:Int)-c0-(j:Int))) (pV v):=⟨by
   rw[show max 0 ((s:Int)-c0-(j:Int))=(((max 0 ((s:Int)-c0-(j:Int))).toNat:Nat):Int) by lia];exact bB (by rw[wT,hv];rfl)⟩
  have ca:chA g c0 s l r j=ch2 g (j:Int) u v:=by
   unfold chA;rw[hu,hv]
   rfl
  cases u with
  | none =>
   have a3:AtI (l.map pV) ((j:Nat):Int) .non:=a1;have e:chF g c0 s l r (j+1)=chF g c0 s l r j:=by rw[pX,ca];exact mI _
   cases v with
   | none =>
    have a4:AtI (r.map pV) (max 0 ((s:Int)-c0-(j:Int))) .non:=a2
    repeat k_meth
    exact⟨_,_,ys,rfl,by rw[e];exact yl,by rw[e];exact F.sub SbC.s SbI.s⟩
   | some v =>
    have a4:AtI (r.map pV) (max 0 ((s:Int)-c0-(j:Int))) (.int v):=a2
    repeat k_meth
    exact⟨_,_,ys,rfl,by rw[e];exact yl,by rw[e];exact F.sub SbC.s SbI.s⟩
  | some u =>
   have a3:AtI (l.map pV) ((j:Nat):Int) (.int u):=a1;cases v with
   | none =>
    have a4:AtI (r.map pV) (max 0 ((s:Int)-c0-(j:Int))) .non:=a2;have e:chF g c0 s l r (j+1)=chF g c0 s l r j:=by rw[pX,ca];exact mI _
    repeat k_meth
    exact⟨_,_,ys,rfl,by rw[e];exact yl,by rw[e];exact F.sub SbC.s SbI.s⟩
   | some v =>
    have a4:AtI (r.map pV) (max 0 ((s:Int)-c0-(j:Int))) (.int v):=a2;have e:chF g c0 s l r (j+1)=chF g c0 s l r j++[(u+v,g,(j:Int))]:=by rw[pX,ca];rfl
    repeat k_meth
    have F2:=SH.app (ys:=ys) (rs:=jP (chF g c0 s l r j)) (q:=p_) (r:=[V.int (u+v),V.int g,V.int (j:Int)]) F (LkP.m) (LkI.m);rw[show jP (chF g c0 s l r j)++[[V.int (u+v),V.int g,V.int (j:Int)]]=jP (chF g c0 s l r (j+1)) by rw[e,Hv];rfl] at F2;exact⟨_,_,ys++[.ref p_],rfl,by rw[e,yT,yT,yl];rfl,F2.sub SbC.s SbI.s⟩
 ·clear F;rintro σ' H' ⟨_,_,ys,rfl,yl,F⟩
  repeat k_meth
  exact k _ _ _ SH.nwC TpA.e
end
open M22 M82 M87 M75
structure Tab(H:Hp)(t l m:Addr)(ys zs:List V)(T U:List PR):Prop where
 t:H t=some (.tup [.ref l,.ref m])
 l:H l=some (.lst ys)
 a:gO H ys T
 m:H m=some (.lst zs)
 b:gO H zs U
def afg(r:PR):Dt:=.lst (r.map λo=>fJ (pV o))
theorem X4(r:PR):fC (afg r)=1:=by
 unfold afg;rw[show (r.map λo=>fJ (pV o))=(r.map pV).map fJ by rw[List.map_map];rfl];simp only[fC,oN]
structure Vm(CL:Addr)(H:Hp)(x p dx:Addr)(n:Nat)(zs:List V)(rs:List Rw)(s:Nat):Prop where
 x:H x=some (.ins CL dx (lF (n:Nat) p))
 p:H p=some (.lst zs)
 t:aD H zs (aF rs)
 few:rs.length<=40
 s1:1<=s
 s2:s<=240
 g:∀g∈aP n rs,0<=g
theorem Vm.same{CL:Addr}{H H':Hp}{x p dx:Addr}{n:Nat}{zs:List V}{rs:List Rw}{s:Nat}(h:Vm CL H x p dx n zs rs s)(sm:Same H H'):Vm CL H' x p dx n zs rs s:=⟨sm _ _ h.x,sm _ _ h.p,h.t.same sm,h.few,h.s1,h.s2,h.g⟩
def Qu(CL:Addr):Sp:=λvs H Q _=>∃(x p dx:Addr)(n:Nat)(zs:List V)(rs:List Rw)(s:Nat),vs=[.ref x,.int (s:Nat)]/\Vm CL H x p dx n zs rs s/\∀t l m ys us H',Same H H'->Tab H' t l m ys us (lJ rs (aP n rs) s rs.length) (gC rs (aP n rs) s rs.length).reverse->(∀a u,H a=some u->a≠m/\V.ref a ∉ ys)->V.ref m ∉ ys/\V.ref l ∉ ys/\l≠m->Q (.ref t) H'
theorem Zr{n:Nat}:∀(rs:List Rw)(g:List Int×Int),Asc rs->(∀r∈rs,g.2<=(r.st:Int)/\r.st+r.sz<=n)->(∀x∈g.1,0<=x)->g.2<=(n:Int) ->
  (∀x∈(rs.foldl (λg r=>(g.1++[(r.st:Int)-g.2],(r.st:Int)+(r.sz:Int))) g).1,0<=x)/\(rs.foldl (λg r=>(g.1++[(r.st:Int)-g.2],(r.st:Int)+(r.sz:Int))) g).2<=(n:Int)
 | [],g,_,_,h1,h2=>⟨h1,h2⟩
 | r::t,g,as,hr,h1,h2=>by
  rw[List.foldl_cons];obtain⟨a1,a2⟩:=mN.mp as;obtain⟨b1,b2⟩:=hr r zC;refine Zr t _ a2 (λs hs=>⟨?_,(hr s (zD _ hs)).2⟩) (λx hx=>?_) ?_
  ·have:=a1 s hs;show (r.st:Int)+r.sz<=s.st
   lia
  ·rcases wS.mp hx with hx|hx
   ·exact h1 x hx
   ·rw[uS.mp hx]
    lia
  ·show (r.st:Int)+r.sz<=n
   lia
theorem jQ{n:Nat}{rs:List Rw}(ly:Lay n rs)(as:Asc rs):∀g∈aP n rs,0<=g:=by
 obtain⟨h1,h2⟩:=Zr (n:=n) rs ([],0) as (λr hr=>⟨Int.natCast_nonneg _,(ly.good r hr).le⟩) (by simp) (Int.natCast_nonneg _);intro g hg;unfold aP at hg;rcases wS.mp hg with hg|hg
 ·exact h1 g hg
 ·rw[uS.mp hg];unfold gp
  lia
theorem eF(n:Nat)(rs:List Rw):(aP n rs).length=rs.length+1:=by unfold aP;rw[List.length_append,wF];rfl
def gD(n:Nat)(rs:List Rw)(s k:Nat):List Chc:=(List.range k).flatMap λg:Nat=>chF ((g:Nat):Int) ((aP n rs).getD g 0) s (fZ rs (aP n rs) s g) (dj rs (aP n rs) s (rs.length-g)) (s+1)
theorem Bd(n:Nat)(rs:List Rw)(s k:Nat):gD n rs s (k+1)=gD n rs s k++chF (k:Int) ((aP n rs).getD k 0) s (fZ rs (aP n rs) s k) (dj rs (aP n rs) s (rs.length-k)) (s+1):=by unfold gD;rw[List.range_succ,List.flatMap_append];simp
theorem Vn(n:Nat)(rs:List Rw)(s k:Nat):(gD n rs s k).length<=k*(s+1):=by
 induction k with
 | zero=>simp[gD]
 | succ k ih =>
  rw[Bd,yT,Nat.succ_mul];have:=Dp (k:Int) ((aP n rs).getD k 0) s (fZ rs (aP n rs) s k) (dj rs (aP n rs) s (rs.length-k)) (s+1)
  lia
def rC(cs:List Chc):Option Chc:=cs[d9 (cs.map chV) (cs.length-1)]?
def lcF(n:Nat)(rs:List Rw)(s:Int):Option Chc:=if (n:Int)<s then none else rC (gD n rs s.toNat (rs.length+1))
theorem J_{cs:List Chc}(h:rC cs=none):cs=[]:=by
 unfold rC at h;rw[List.getElem?_eq_none_iff] at h;have:=tD (cs.map chV) (cs.length-1);exact List.eq_nil_of_length_eq_zero (by lia)
def wQ(CL:Addr):Sp:=λvs H Q _=>∃(x p dx:Addr)(n:Nat)(zs:List V)(rs:List Rw)(s:Int),vs=[.ref x,.int s]/\LyH CL H x p dx n zs rs/\LyA rs n/\1<=s/\((lcF n rs s=none/\∀H',Same H H'->Q .non H')\/∃c,lcF n rs s=some c/\∀q H',Same H H'->H' q=some (.tup [.int c.1,.int c.2.1,.int c.2.2])->Q (.ref q) H')
theorem YC{rs:List Rw}{gs:List Int}{s g m:Nat}(h:g<=m):(lJ rs gs s m)[g]?=some (fZ rs gs s g):=by
 unfold lJ;rw[wT,List.getElem?_range (by lia)]
 rfl
theorem Vo{rs:List Rw}{gs:List Int}{s g m:Nat}(h:g<=m):(gC rs gs s m).reverse[g]?=some (dj rs gs s (m-g)):=by
 have hl:(gC rs gs s m).length=m+1:=by unfold gC;simp
 rw[List.getElem?_reverse (by lia),hl];unfold gC;rw[wT,List.getElem?_range (by lia),show m+1-1-g=m-g by lia]
 rfl
section
variable{P:Program}{w:World}{K:W.Frag}{mg:xC}{base:Heap}{c:Nat->Addr}{aC ao R CL CP CS:Addr}
theorem Vp(T:Txt K mg c R CL CP CS aC ao):Def P w K mg base CX0 4 "prices" ["layout","size"] (Qu CL):=by
 refine dA T.Gj zB λf cdv A outer s H vs Q E hr h=>?_
 obtain⟨x,p,dx,n,zs,rs,s,rfl,ly,k⟩:=h;have nd:=zB.nd;refine⟨_,(aq (bK (c7 (cQ (aG (lG T) hr (aj (pv 1) (aj au (aj (ug T.jM) ak)))))) dw bf)
  (aB (aL (bM (aj (aG (abK T) hr (aj (pv 0) (aj (pv 1) ak))) (aj (aG (Yw T) hr (aj (pv 0) (aj (pv 1) ak))) ak)))))),?_⟩
 clear nd;rw[stE]
 try dsimp only[bT,bC]
 have F:=SH.n0 H;have sd1:=ly.s1;have sd2:=ly.s2
 repeat k_meth
 rw[gX (show (1:Int)<=(s:Int) by lia),gX (show (s:Int)<=240 by lia),show (true && true)=true from rfl]
 repeat k_meth
 refine⟨x,p,dx,n,zs,rs,s,rfl,ly.x,ly.p,ly.t,ly.few,ly.s2,ly.g,λl ys H2 m2 hl ls fr nl=>?_⟩;replace F:=F.same m2;have ly2:=ly.same m2
 repeat k_meth
 refine⟨x,p,dx,n,zs,rs,s,rfl,ly2.x,ly2.p,ly2.t,ly2.few,ly2.s2,ly2.g,λm us H3 m3 hm ms fm nm=>?_⟩;clear F;have F:=SH.n0 H3
 repeat k_meth
 refine k p_ l m ys us _ ((m2.trans m3).trans F.sm) ⟨aM,F.sm _ _ (m3 _ _ hl),ls.kept λq u _ e=>F.sm _ _ (m3 _ _ e),F.sm _ _ hm,ms.kept λq u _ e=>F.sm _ _ e⟩ (λa u e=>⟨(fm a u (m2 _ _ e)).1,(fr a u e).2⟩) ⟨λhh=>?_,nl,(fm l _ hl).1⟩;obtain⟨u,hu⟩:=ls.has hh;exact(fm m u hu).1 rfl
theorem YD(T:Txt K mg c R CL CP CS aC ao):Def P w K mg base CX0 5 "least_choice" ["layout","size"] (wQ CL):=by
 refine dA T.M6 FP λf cdv A outer s H vs Q E hr h=>?_
 obtain⟨x,p,dx,n,zs,rs,s,rfl,ly,lya,s1,kk⟩:=h;have nd:=FP.nd;refine⟨_,(aq (bK (aU fY (pv 1) (gh (pv 0) rfl) (aY _)) (aB (aL cZ)) bf)
  (aq (psz 2 nd (aG (Vp T) hr (aj (pv 0) (aj (pv 1) ak))))
  (aq (psz 3 nd (aX ak))
  (aq (cH PassesOwn.never rfl (Cp rfl T.iT (aj (aG (iI T) hr (aj (pv 0) ak)) ak)) (iW rfl (bL (pgz 4 nd) (bL (pgz 5 nd) fu))) (aB (cg (Lh (pv 3) (aG (Qt T) hr (aj (pv 4) (aj (pv 5) (aj (pv 1) (aj (aH aO (aH aZ (pv 2) au (λ_ _=>rfl)) (pv 4) (λ_ _=>rfl)) (aj (aH aO (aH aZ (pv 2) au (λ_ _=>rfl)) (pv 4) (λ_ _=>rfl)) ak))))))))))
  (aB (aL (Jv (Pz rfl hr) rfl T.GC boot_min (aj (pv 3) ak) cZ))))))),?_⟩
 clear nd;rw[stE]
 try dsimp only[bT,bC]
 have hx:=ly.x;have hp:=ly.p;have tp:=ly.t;have few:=lya.l.few;have iK:=lya.h;have zl:zs.length=rs.length:=by rw[tp.1,aW]
 have gJ:=om hx;have fL:=om hp;have gW:=eO.mk tp;have F:=SH.n0 H;by_cases hs:(n:Int)<s
 ·have lc:lcF n rs s=none:=zS hs
  repeat k_meth
  rcases kk with⟨_,k⟩|⟨c,e,_⟩
  ·exact k _ F.sm
  ·rw[lc] at e;cases e
 obtain⟨s,rfl⟩:∃s0:Nat,s=(s0:Int):=⟨s.toNat,by lia⟩;have lys:Vm CL H x p dx n zs rs s:=⟨hx,hp,tp,few,by lia,by lia,jQ lya.l lya.a⟩;have gn:=jQ lya.l lya.a;have gl:=eF n rs
 repeat k_meth
 refine⟨x,p,dx,n,zs,rs,s,rfl,lys,λt l m ys us H2 s2 tb _ _=>?_⟩;clear F;have F:=SH.n0 H2;have hx2:=s2 _ _ hx;have hp2:=s2 _ _ hp;have tp2:=tp.same s2;have ajm:=om hx2;have ajn:=om hp2;have ajo:=eO.mk tp2;have tbt:=tb.t;have tbl:=tb.l;have tbm:=tb.m;have o_t:=om tbt;have o_l:=om tbl;have o_m:=om tbm;clear gJ fL gW
 repeat k_meth
 obtain⟨gA,e⟩:∃z,z=p_:=⟨_,rfl⟩;subst e;obtain⟨co,e⟩:∃z,z=p_:=⟨_,rfl⟩;subst e;refine Cq (xs:=(aP n rs).map V.int) (λi σ' H'=>∃(o4 o5:Option V)(cs:List V),σ'=[some (.ref x),some (.int (s:Nat)),some (.ref t),some (.ref co),o4,o5]/\cs.length=(gD n rs s i).length/\SH H2 [] H' [(gA,.lst ((aP n rs).map V.int)),(co,.lst cs)] [.tps cs (jP (gD n rs s i))]) ⟨_,_,[],rfl,rfl,(F.cU (ys:=[]) (rs:=jP (gD n rs s 0)) aD.nil).sub SbC.s SbI.s⟩ ?_ ?_ ?_
 ·clear F;rintro i σ' H' _ ⟨_,_,cs,rfl,cl,F⟩;exact SqA.e
 ·clear F;rintro i v T σ' H' H3 hv ⟨_,_,cs,rfl,cl,F⟩ nw;rw[wT] at hv;obtain⟨gv,hg,rfl⟩:∃gv,(aP n rs)[i]?=some gv/\v=.int gv:=by
   cases h:(aP n rs)[i]? with
   | none=>rw[h] at hv;cases hv
   | some g=>rw[h] at hv;exact⟨g,rfl,(nI hv).symm⟩
  have hi:=(qA.mp hg).1;obtain⟨ql,hl,el⟩:=tb.a.2 i _ (YC (by lia));obtain⟨qr,hr,er⟩:=tb.b.2 i _ (Vo (by lia));have ajX:=om el;have ajY:=om er;have a1:AtI ys ((i:Nat):Int) (.ref ql):=⟨bB hl⟩;have a2:AtI us ((i:Nat):Int) (.ref qr):=⟨bB hr⟩;have sd1:=And.intro (Az rs (aP n rs) s i) (wI rs (aP n rs) s (rs.length-i));have sd2:s<=240/\0<=gv:=⟨by lia,gn gv (yY hg)⟩;have cN:=Bd n rs s i;rw[oP,hg] at cN;have cN:gD n rs s (i+1)=gD n rs s i++chF (i:Int) gv s (fZ rs (aP n rs) s i) (dj rs (aP n rs) s (rs.length-i)) (s+1):=cN;have c1:=Vn n rs s i;have c2:=Dp (i:Int) gv s (fZ rs (aP n rs) s i) (dj rs (aP n rs) s (rs.length-i)) (s+1);have c3:i*(s+1)<=41*241:=Nat.mul_le_mul (by lia) (by lia);replace F:=(F.same nw.s).qC nw.e
  repeat k_meth
  have yl2:ys_.length=(chF (i:Int) gv s (fZ rs (aP n rs) s i) (dj rs (aP n rs) s (rs.length-i)) (s+1)).length:=by assumption
  have t1:aD H_ (cs++ys_) (jP (gD n rs s (i+1))):=by
   rw[cN,Hv];exact(F.tps (ys:=cs) (rs:=jP (gD n rs s i)) (by simp)).app (F.tps (ys:=ys_) (by simp))
  exact⟨_,_,cs++ys_,rfl,by rw[cN,yT,yT,cl,yl2],(F.cU t1).sub SbC.s SbI.s⟩
 ·clear F;rintro σ' H' ⟨_,_,cs,rfl,cl,F⟩;rw[wP,gl] at F cl
  repeat k_meth
  have lcE:lcF n rs (s:Int)=rC (gD n rs s (rs.length+1)):=by unfold lcF;rw[if_neg hs];rfl
  have hco:H' co=some (.lst cs):=aM;have tc:aD H' cs (((gD n rs s (rs.length+1)).map chV).map λr=>r.map V.int):=TpA.e;refine⟨co,cs,(gD n rs s (rs.length+1)).map chV,rfl,rfl,hco,tc,λe=>?_,λne q hq=>?_⟩
  ·rcases kk with⟨_,k⟩|⟨c,e2,_⟩
   ·exact k _ (s2.trans F.sm)
   ·have:gD n rs s (rs.length+1)=[]:=by simpa using e
    rw[lcE,this] at e2;cases e2
  ·rw[wP] at hq;rcases kk with⟨e2,_⟩|⟨c,e2,k⟩
   ·rw[lcE] at e2;exact gL (by rw[J_ e2];rfl) ne
   ·rw[lcE] at e2;have e3:(((gD n rs s (rs.length+1)).map chV).map λr=>r.map V.int)[d9 ((gD n rs s (rs.length+1)).map chV) ((gD n rs s (rs.length+1)).length-1)]?=some ((chV c).map V.int):=by
     rw[wT,wT,show (gD n rs s (rs.length+1))[d9 ((gD n rs s (rs.length+1)).map chV) ((gD n rs s (rs.length+1)).length-1)]?=some c from e2]
     rfl
    obtain⟨q2,f1,f2⟩:=tc.2 _ _ e3;rw[hq] at f1;cases f1;exact k q _ (s2.trans F.sm) f2
end
open M22 M82 M87 M75
def afh(rs:List Rw)(gs:List Int)(s g:Nat):PR:=(List.range (s+1)).map λx=>bD ((rs.take g).reverse.zip (gs.take g).reverse) (x:Nat)
def afi(rs:List Rw)(gs:List Int)(s g:Nat):PR:=(List.range (s+1)).map λx=>bD ((rs.drop g).zip (gs.drop (g+1))) (x:Nat)
def psh(bs:List (Rw×Int))(s:Nat):PR:=(List.range (s+1)).map λx=>bD bs (x:Nat)
theorem Nz(s:Nat):psh [] s=je s:=by
 unfold psh je;rw[List.range_succ_eq_map,oS,List.map_map]
 congr 1
 refine List.eq_replicate_iff.mpr ⟨by simp,λo ho=>?_⟩;obtain⟨x,_,rfl⟩:=jI.mp ho;show bD [] ((x+1:Nat):Int)=none;unfold bD;rw[yB (by lia)]
theorem NK{r:Rw}{c:Int}{bs:List (Rw×Int)}{s:Nat}(c0:0<=c):psh ((r,c)::bs) s=nJ r (psh bs s) c s:=by
 unfold nJ;have hx:∀x:Nat,bD ((r,c)::bs) ((x+1:Nat):Int)=if 0<r.pn then none else (bD bs (((x+1:Nat):Int)-c)).map λy=>(r.sz:Int)+y:=λx=>by
  rw[bD,yB (by lia)]
 have h0:bD ((r,c)::bs) ((0:Nat):Int)=some 0:=dJ (by lia);by_cases hp:0<r.pn
 ·rw[zS hp];unfold psh je;rw[List.range_succ_eq_map,oS,List.map_map,h0]
  congr 1
  refine List.eq_replicate_iff.mpr ⟨by simp,λo ho=>?_⟩;obtain⟨x,_,rfl⟩:=jI.mp ho;show bD ((r,c)::bs) ((x+1:Nat):Int)=none;rw[hx,zS hp]
 ·rw[yB hp];unfold psh;rw[List.range_succ_eq_map,oS,List.map_map,h0]
  congr 1
  refine List.map_congr_left λx hxs=>?_
  have hxs:=List.mem_range.mp hxs;show bD ((r,c)::bs) ((x+1:Nat):Int)=_;rw[hx,yB hp];unfold J2;have hi:((((x+1:Nat):Int))-c).toNat<s+1:=by lia
  rw[<- List.range_succ_eq_map,wT,List.getElem?_range hi];show _=(bD bs ((((((x+1:Nat):Int))-c).toNat:Nat):Int)).map _;by_cases hc:c<=((x+1:Nat):Int)
  ·rw[show ((((((x+1:Nat):Int))-c).toNat:Nat):Int)=((x+1:Nat):Int)-c by lia]
  ·rw[dJ (x:=((x+1:Nat):Int)-c) (by lia),dJ (by lia)]
theorem Hw{rs:List Rw}{gs:List Int}{s:Nat}(hl:gs.length=rs.length+1)(hg:∀g∈gs,0<=g):∀i,i<=rs.length->fZ rs gs s i=afh rs gs s i
 | 0,_=>by
  show je s=psh _ s;simp[Nz]
 | i+1,hi=>by
  have hr:rs[i]?=some rs[i]:=qB (by lia);have hc:gs[i]?=some gs[i]:=qB (by lia);have ih:=Hw (s:=s) hl hg i (by lia);rw[fZ,hr,ih,oP,hc];show nJ rs[i] (psh _ s) gs[i] s=psh _ s;rw[<- NK (hg _ (List.getElem_mem _))];have e1:rs.take (i+1)=rs.take i++[rs[i]]:=by rw[gE,hr];rfl
  have e2:gs.take (i+1)=gs.take i++[gs[i]]:=by rw[gE,hc];rfl
  rw[e1,e2,List.reverse_append,List.reverse_append]
  rfl
theorem Bf{rs:List Rw}{gs:List Int}{s:Nat}(hl:gs.length=rs.length+1)(hg:∀g∈gs,0<=g):∀i,i<=rs.length->dj rs gs s i=afi rs gs s (rs.length-i)
 | 0,_=>by
  show je s=psh _ s;simp[Nz]
 | i+1,hi=>by
  have hr:rs[rs.length-1-i]?=some rs[rs.length-1-i]:=qB (by lia);have hc:gs[rs.length-i]?=some gs[rs.length-i]:=qB (by lia);have ih:=Bf (s:=s) hl hg i (by lia);rw[dj,hr,ih,oP,hc];show nJ rs[rs.length-1-i] (psh _ s) gs[rs.length-i] s=psh _ s;rw[<- NK (hg _ (List.getElem_mem _))]
  congr 1
  have e1:rs.drop (rs.length-(i+1))=rs[rs.length-1-i]::rs.drop (rs.length-i):=by
   rw[show rs.length-(i+1)=rs.length-1-i by lia,List.drop_eq_getElem_cons (by lia),show rs.length-1-i+1=rs.length-i by lia]
  have e2:gs.drop (rs.length-(i+1)+1)=gs[rs.length-i]::gs.drop (rs.length-i+1):=by
   rw[show rs.length-(i+1)+1=rs.length-i by lia,List.drop_eq_getElem_cons (by lia)]
  rw[e1,e2,List.zip_cons_cons]
theorem wR(n:Nat)(rs:List Rw):aP n rs=mC n 0 rs:=by
 have h:∀(rs:List Rw)(acc:List Int)(e:Nat),(rs.foldl (λg r=>(g.1++[(r.st:Int)-g.2],(r.st:Int)+(r.sz:Int))) (acc,(e:Int))).1++[(n:Int)-(rs.foldl (λg r=>(g.1++[(r.st:Int)-g.2],(r.st:Int)+(r.sz:Int))) (acc,(e:Int))).2]=acc++mC n e rs:=by
  intro rs
  induction rs with
  | nil=>intro acc e;rfl
  | cons r t ih =>
   intro acc e;rw[List.foldl_cons];have:=ih (acc++[(r.st:Int)-(e:Int)]) (r.st+r.sz);rw[Int.natCast_add] at this;show _++[_-_]=_;rw[this,vS]
   rfl
 exact(h rs [] 0).trans (List.nil_append _)
theorem NP{α β:Type}:∀{a:List α} {b:List β},a.length=b.length->a.reverse.zip b.reverse=(a.zip b).reverse
 | [],[],_=>rfl
 | [],_::_,h=>absurd h (by simp)
 | _::_,[],h=>absurd h (by simp)
 | x::a,y::b,h=>by
  rw[List.reverse_cons,List.reverse_cons,List.zip_append (by simpa using h),NP (by simpa using h)];show _++[(x,y)]=((x,y)::a.zip b).reverse;rw[List.reverse_cons]
theorem Bg{n:Nat}{rs:List Rw}{s g b:Nat}(lya:LyA rs n)(hg:g<=rs.length)(hb:b<=s):(fZ rs (aP n rs) s g)[b]?=some (bD (lg (rs.take g).reverse) (b:Nat)):=by
 rw[Hw (eF n rs) (jQ lya.l lya.a) g hg];unfold afh;rw[wT,List.getElem?_range (by lia)];have e:(rs.take g).length=((aP n rs).take g).length:=by rw[oQ,oQ,eF];lia
 rw[NP e,wR,Yb n hg]
 rfl
theorem Ka{n:Nat}{rs:List Rw}{s g y:Nat}(lya:LyA rs n)(hg:g<=rs.length)(hy:y<=s):(dj rs (aP n rs) s (rs.length-g))[y]?=some (bD (rg n (rs.drop g)) (y:Nat)):=by
 rw[Bf (eF n rs) (jQ lya.l lya.a) _ (Nat.sub_le _ _)];unfold afi;rw[wT,List.getElem?_range (by lia),show rs.length-(rs.length-g)=g by lia,wR,Mg]
 rfl
def eH(n:Nat)(rs:List Rw)(g:Nat):Int:=(eU n (rs.drop g):Int)-(edR (rs.take g).reverse:Int)
theorem lK{n:Nat}{rs:List Rw}{g:Nat}(hg:g<=rs.length):(aP n rs)[g]?=some (eH n rs g):=by
 rw[wR,Mh n rs g 0 hg];unfold eH;rw[CG]
structure Dq(n:Nat)(rs:List Rw)(s:Nat)(c:Chc)(g b:Nat):Prop where
 eg:c.2.1=(g:Int)
 eb:c.2.2=(b:Int)
 hg:g<=rs.length
 hb:b<=s
 ex:∃u v,bD (lg (rs.take g).reverse) (b:Nat)=some u/\bD (rg n (rs.drop g)) (max 0 ((s:Int)-eH n rs g-(b:Int)))=some v/\c.1=u+v
theorem tH{g b:Int}{u v:Option Int}{c:Chc}(h:c∈ch2 g b u v):∃x y,u=some x/\v=some y/\c=(x+y,g,b):=by
 cases u with
 | none=>cases h
 | some x =>
  cases v with
  | none=>cases h
  | some y=>exact⟨x,y,rfl,rfl,uS.mp h⟩
theorem Hx{n:Nat}{rs:List Rw}{s:Nat}(lya:LyA rs n)(c:Chc):c∈gD n rs s (rs.length+1) ↔ ∃g b,Dq n rs s c g b:=by
 have gp:=λg (hg:g<=rs.length)=>lK (n:=n) hg
 have nn:=jQ lya.l lya.a;have idx:∀g b:Nat,g<=rs.length->b<=s->((dj rs (aP n rs) s (rs.length-g))[(max 0 ((s:Int)-eH n rs g-(b:Int))).toNat]?).getD none=bD (rg n (rs.drop g)) (max 0 ((s:Int)-eH n rs g-(b:Int))):=λg b hg hb=>by
  have h0:=nn _ (yY (gp g hg));rw[Ka lya hg (by lia),Option.getD_some]
  congr 1
  lia
 constructor
 ·intro h;obtain⟨g,hg,h⟩:=List.mem_flatMap.mp h;have hg:=List.mem_range.mp hg;have hg:g<=rs.length:=by lia
  obtain⟨b,hb,h⟩:=List.mem_flatMap.mp h;have hb:=List.mem_range.mp hb;have hb:b<=s:=by lia
  rw[oP,gp g hg,Option.getD_some] at h;obtain⟨u,v,e1,e2,rfl⟩:=tH h;rw[Bg lya hg hb,Option.getD_some] at e1;rw[idx g b hg hb] at e2;exact⟨g,b,rfl,rfl,hg,hb,u,v,e1,e2,rfl⟩
 ·rintro ⟨g,b,⟨eg,eb,hg,hb,u,v,e1,e2,e3⟩⟩;refine List.mem_flatMap.mpr ⟨g,List.mem_range.mpr (by lia),List.mem_flatMap.mpr ⟨b,List.mem_range.mpr (by lia),?_⟩⟩;rw[oP,gp g hg,Option.getD_some];unfold chA;rw[Bg lya hg hb,Option.getD_some,idx g b hg hb,e1,e2];show c∈[(u+v,(g:Int),(b:Int))];rw[uS,<- e3,<- eg,<- eb]
theorem YF{n:Nat}{rs:List Rw}{s:Nat}{c:Chc}(lya:LyA rs n)(h:lcF n rs (s:Int)=some c):s<=n/\∃g b,Dq n rs s c g b:=by
 unfold lcF at h;by_cases hs:(n:Int)<(s:Int)
 ·rw[zS hs] at h;cases h
 ·rw[yB hs] at h;exact⟨by lia,(Hx lya c).mp (yY h)⟩
abbrev mvS(s:Sp2):List V:=[.str (tx s.1.nm),.int s.2]
abbrev fj(ss:List Sp2):List (List V):=ss.map mvS
open M22 M82 M87 M75
def Bh(CL:Addr):Sp:=λvs H Q _=>∃(x p dx:Addr)(n:Nat)(zs:List V)(rs:List Rw)(g b:Nat),vs=[.ref x,.int (g:Nat),.int (b:Nat)]/\LyH CL H x p dx n zs rs/\LyA rs n/\g<=rs.length/\bD (lg (rs.take g).reverse) (b:Nat)≠none/\∀q ys H',New H H' q (.lst ys)->aD H' ys (fj (ml (lft (rs.take g).reverse (b:Nat))).reverse)->Q (.ref q) H'
def wU(CL:Addr):Sp:=λvs H Q _=>∃(x p dx:Addr)(n:Nat)(zs:List V)(rs:List Rw)(g:Nat)(y:Int),vs=[.ref x,.int (g:Nat),.int y]/\LyH CL H x p dx n zs rs/\LyA rs n/\g<=rs.length/\bD (rg n (rs.drop g)) y≠none/\∀q ys H',New H H' q (.lst ys)->aD H' ys (fj (mr (rgt n (rs.drop g) y)).reverse)->Q (.ref q) H'
def Bj(CL:Addr):Sp:=λvs H Q _=>∃(x p dx:Addr)(n:Nat)(zs:List V)(rs:List Rw)(g:Nat),vs=[.ref x,.int (g:Nat)]/\LyH CL H x p dx n zs rs/\LyA rs n/\g<=rs.length/\∀t H',Same H H'->H' t=some (.tup [.int (edR (rs.take g).reverse:Nat),.int (eH n rs g)])->Q (.ref t) H'
theorem Hy(a:List Sp2):(fj a).length=a.length:=wP ..
theorem Hz(a:List Sp2):fj a.reverse=(fj a).reverse:=List.map_reverse
theorem Dr:∀(D:List Rw)(x:Int),(lft D x).length=D.length
 | [],_=>rfl
 | _::D,_=>by show (lft D _).length+1=_;rw[Dr D];rfl
theorem NQ(n:Nat):∀(D:List Rw)(x:Int),(rgt n D x).length=D.length
 | [],_=>rfl
 | _::D,_=>by show (rgt n D _).length+1=_;rw[NQ n D];rfl
theorem wV{rs:List Rw}{k:Nat}{r:Rw}(h:rs[k]?=some r):(rs.take (k+1)).reverse=r::(rs.take k).reverse:=by
 rw[gE,h,Option.toList_some,List.reverse_append]
 rfl
theorem drop_cons{rs:List Rw}{k:Nat}{r:Rw}(h:rs[k]?=some r):rs.drop k=r::rs.drop (k+1):=by
 obtain⟨hk,e⟩:=qA.mp h;rw[<- e];exact List.drop_eq_getElem_cons hk
theorem pY{n:Nat}{rs:List Rw}(ok:OkA 0 n rs)(k:Nat):OkD n (rs.take k).reverse:=by
 have ok2:OkA 0 n (rs.take k++rs.drop k):=by rw[jS];exact ok
 exact(lQ ok2).1.rev
theorem pZ{n:Nat}{rs:List Rw}(ok:OkA 0 n rs)(k:Nat):OkA (kW 0 (rs.take k)) n (rs.drop k):=by
 have ok2:OkA 0 n (rs.take k++rs.drop k):=by rw[jS];exact ok
 exact(lQ ok2).2
theorem YG{n:Nat}{rs:List Rw}{k:Nat}{r:Rw}(h:rs[k]?=some r):(aP n rs)[k]?=some ((r.st:Int)-(edR (rs.take k).reverse:Int)):=by
 rw[lK (by have:=(qA.mp h).1;lia)];unfold eH;rw[drop_cons h]
 rfl
theorem YH{n:Nat}{rs:List Rw}{k:Nat}{r:Rw}(h:rs[k]?=some r):(aP n rs)[k+1]?=some ((eU n (rs.drop (k+1)):Int)-((r.st:Int)+(r.sz:Int))):=by
 rw[lK (by have:=(qA.mp h).1;lia)];unfold eH;rw[wV h];show some ((eU n (rs.drop (k+1)):Int)-((r.st+r.sz:Nat):Int))=_;rw[Int.natCast_add]
section
variable{P:Program}{w:World}{K:W.Frag}{mg:xC}{base:Heap}{c:Nat->Addr}{aC ao R CL CP CS:Addr}
theorem Vq(T:Txt K mg c R CL CP CS aC ao):Def P w K mg base CX0 3 "slides_to_lesser" ["layout","gap","by"] (Bh CL):=by
 refine dA T.Gk zE λf cdv A outer s H vs Q E hr h=>?_
 obtain⟨x,p,dx,n,zs,rs,g,b,rfl,ly,lya,hg,hb,k⟩:=h;have nd:=zE.nd;refine⟨_,(aq (psz 3 nd (cG (pv 0) T.clL (cV T) hr))
  (aq (psz 4 nd (aG (iI T) hr (aj (pv 0) ak)))
  (aq (psz 5 nd (aX ak))
  (aq (psz 6 nd (aN b_ (pv 1) au))
  (aq (nY PassesOwn.never (aU fY (pv 2) au (aY _)) (aq (cg (bR (pv 5) (bM (aj (aH aZ (aH aO (pv 3) (pv 6) (λ_ _=>rfl)) au (λ_ _=>rfl)) (aj (aN b_ (aH aZ (aH aO (pv 3) (pv 6) (λ_ _=>rfl)) au (λ_ _=>rfl)) (pv 2)) ak)))))
   (aq (psz 2 nd (aN b_ (pv 2) (aH aO (pv 4) (pv 6) (λ_ _=>rfl))))
   (aB (psz 6 nd (aN b_ (pv 6) au))))))
  (aB (aL (jH rfl rfl T.fK rfl T.iG (aj (pv 5) ak))))))))),?_⟩
 clear nd;rw[stE]
 try dsimp only[bT,bC]
 have hx:=ly.x;have hp:=ly.p;have tp:=ly.t;have few:=lya.l.few;have iK:=lya.h;have zl:zs.length=rs.length:=by rw[tp.1,aW]
 have gJ:=om hx;have fL:=om hp;have gW:=eO.mk tp;have F:=SH.n0 H;have gl:=eF n rs
 repeat k_meth
 obtain⟨mv_,e⟩:∃z,z=p_:=⟨_,rfl⟩;subst e;obtain⟨gA,e⟩:∃z,z=p_:=⟨_,rfl⟩;subst e;obtain⟨bA,e⟩:∃z,z=p_:=⟨_,rfl⟩;subst e;refine tG (λq σ' H'=>∃(x':Int)(dn:List Sp2)(ys:List V),σ'=[some (.ref x),some (.int (g:Nat)),some (.int x'),some (.ref bA),some (.ref gA),some (.ref mv_),some (.int ((q:Nat)-1:Int))]/\q<=g/\bD (lg (rs.take q).reverse) x'≠none/\dn++ml (lft (rs.take q).reverse x')=ml (lft (rs.take g).reverse (b:Nat))/\ys.length=dn.length/\dn.length+q<=g/\SH H [] H' [(mv_,.lst ys),(gA,.lst ((aP n rs).map V.int)),(bA,.lst zs)] [.tps ys (fj dn)]) ⟨g,(b:Nat),[],[],rfl,Nat.le_refl _,hb,List.nil_append _,rfl,by simp,(F.cU (ys:=[]) (rs:=fj []) aD.nil).sub SbC.s SbI.s⟩ ?_;clear F;rintro q σ' H' ⟨x',dn,ys,rfl,qg,sy,dne,yl,dl,F⟩
 repeat k_meth
 refine d7 (λh=>?_) (λh=>?_)
 ·obtain⟨q0,rfl⟩:∃q0,q=q0+1:=⟨q-1,by
   cases q with
   | zero=>have:=gH (show bD [] x'≠none from sy);lia
   | succ q=>rfl⟩
  obtain⟨r,hr⟩:∃r,rs[q0]?=some r:=⟨_,qB (by lia)⟩;have od:=pY lya.ok (q0+1);rw[wV hr] at sy dne od;have el:=Fl od;have pc:=g_ sy (by lia);rw[Fq h] at dne;obtain⟨q1,e1,e2⟩:∃q1,zs[q0]?=some (.ref q1)/\H q1=some (.tup (cB r)):=tp.2 q0 _ (by unfold aF;rw[List.getElem?_map,hr];rfl);have lH:=om e2;have a1:AtI zs (((q0+1:Nat):Int)-1) (.ref q1):=⟨by rw[show (((q0+1:Nat):Int)-1)=((q0:Nat):Int) by lia];exact bB e1⟩;have a2:AtI ((aP n rs).map V.int) (((q0+1:Nat):Int)-1) (.int ((r.st:Int)-(edR (rs.take q0).reverse:Int))):=⟨by rw[show (((q0+1:Nat):Int)-1)=((q0:Nat):Int) by lia];exact bB (by rw[wT,YG hr];rfl)⟩;refine⟨λσ' H'=>∃m',m'<q0+1/\_,λσ' H' h=>h,?_⟩
  repeat k_meth
  have F2:=SH.app (ys:=ys) (rs:=fj dn) (q:=p_) (r:=[V.str (tx r.nm),V.int ((r.st:Int)-x')]) F (LkP.m) (LkI.m);rw[show fj dn++[[V.str (tx r.nm),V.int ((r.st:Int)-x')]]=fj (dn++[(r,(r.st:Int)-x')]) by unfold fj;rw[List.map_append];rfl] at F2;rw[show (((q0+1:Nat):Int)-1-1)=((q0:Nat):Int)-1 by lia];exact⟨q0,by lia,_,dn++[(r,(r.st:Int)-x')],ys++[.ref p_],rfl,by lia,pc.1,by rw[vS];exact dne,by rw[yT,yT,yl];rfl,by rw[yT];show dn.length+1+q0<=g;lia,F2.sub SbC.s SbI.s⟩
 ·rw[uU _ _ _ (pY lya.ok q) (by lia),mI] at dne;subst dne
  repeat k_meth
  refine⟨mv_,ys,rfl,SqA.e,λl H2 nw=>?_⟩;have tr:aD H' ys.reverse (fj (ml (lft (rs.take g).reverse (b:Nat))).reverse):=by rw[Hz];exact(TpA.e (H:=H')).rev
  replace F:=F.newL nw;exact k l _ _ SH.nwC (tr.same nw.s)
theorem Qv(T:Txt K mg c R CL CP CS aC ao):Def P w K mg base CX0 3 "slides_to_greater" ["layout","gap","by"] (wU CL):=by
 refine dA T.Ab vq λf cdv A outer s H vs Q E hr h=>?_
 obtain⟨x,p,dx,n,zs,rs,g,y,rfl,ly,lya,hg,hb,k⟩:=h;have nd:=vq.nd;refine⟨_,(aq (psz 3 nd (cG (pv 0) T.clL (cV T) hr))
  (aq (psz 4 nd (aG (iI T) hr (aj (pv 0) ak)))
  (aq (psz 5 nd (aX ak))
  (aq (psz 6 nd (pv 1))
  (aq (nY PassesOwn.never (aU fY (pv 2) au (aY _)) (aq (cg (bR (pv 5) (bM (aj (aH aZ (aH aO (pv 3) (pv 6) (λ_ _=>rfl)) au (λ_ _=>rfl)) (aj (aN bI (aH aZ (aH aO (pv 3) (pv 6) (λ_ _=>rfl)) au (λ_ _=>rfl)) (pv 2)) ak)))))
   (aq (psz 6 nd (aN bI (pv 6) au))
   (aB (psz 2 nd (aN b_ (pv 2) (aH aO (pv 4) (pv 6) (λ_ _=>rfl))))))))
  (aB (aL (jH rfl rfl T.fK rfl T.iG (aj (pv 5) ak))))))))),?_⟩
 clear nd;rw[stE]
 try dsimp only[bT,bC]
 have hx:=ly.x;have hp:=ly.p;have tp:=ly.t;have few:=lya.l.few;have iK:=lya.h;have zl:zs.length=rs.length:=by rw[tp.1,aW]
 have gJ:=om hx;have fL:=om hp;have gW:=eO.mk tp;have F:=SH.n0 H;have gl:=eF n rs
 repeat k_meth
 obtain⟨mv_,e⟩:∃z,z=p_:=⟨_,rfl⟩;subst e;obtain⟨gA,e⟩:∃z,z=p_:=⟨_,rfl⟩;subst e;obtain⟨bA,e⟩:∃z,z=p_:=⟨_,rfl⟩;subst e;refine tG (λq σ' H'=>∃(k:Nat)(y':Int)(dn:List Sp2)(ys:List V),σ'=[some (.ref x),some (.int (g:Nat)),some (.int y'),some (.ref bA),some (.ref gA),some (.ref mv_),some (.int (k:Nat))]/\k+q=rs.length/\bD (rg n (rs.drop k)) y'≠none/\dn++mr (rgt n (rs.drop k) y')=mr (rgt n (rs.drop g) y)/\ys.length=dn.length/\dn.length+q<=rs.length/\SH H [] H' [(mv_,.lst ys),(gA,.lst ((aP n rs).map V.int)),(bA,.lst zs)] [.tps ys (fj dn)]) ⟨rs.length-g,g,y,[],[],rfl,by lia,hb,List.nil_append _,rfl,by simp,(F.cU (ys:=[]) (rs:=fj []) aD.nil).sub SbC.s SbI.s⟩ ?_;clear F;rintro q σ' H' ⟨k1,y',dn,ys,rfl,qg,sy,dne,yl,dl,F⟩
 repeat k_meth
 refine d7 (λh=>?_) (λh=>?_)
 ·have hk:k1<rs.length:=by
   rcases Nat.lt_or_ge k1 rs.length with h2|h2
   ·exact h2
   ·rw[List.drop_eq_nil_of_le h2] at sy;have:=gH (show bD [] y'≠none from sy)
    lia
  obtain⟨r,hr⟩:∃r,rs[k1]?=some r:=⟨_,qB hk⟩;have od:=pZ lya.ok k1;rw[drop_cons hr] at sy dne od;have bg:=uT od;have pc:=g_ sy (by lia);rw[Ft h] at dne;obtain⟨q1,e1,e2⟩:∃q1,zs[k1]?=some (.ref q1)/\H q1=some (.tup (cB r)):=tp.2 k1 _ (by unfold aF;rw[List.getElem?_map,hr];rfl);have lH:=om e2;have a1:AtI zs ((k1:Nat):Int) (.ref q1):=⟨bB e1⟩;have a2:AtI ((aP n rs).map V.int) (((k1:Nat):Int)+1) (.int ((eU n (rs.drop (k1+1)):Int)-((r.st:Int)+(r.sz:Int)))):=⟨by rw[show (((k1:Nat):Int)+1)=((k1+1:Nat):Int) by lia];exact bB (by rw[wT,YH hr];rfl)⟩;refine⟨λσ' H'=>∃m',m'<q/\_,λσ' H' h=>h,?_⟩
  repeat k_meth
  have F2:=SH.app (ys:=ys) (rs:=fj dn) (q:=p_) (r:=[V.str (tx r.nm),V.int ((r.st:Int)+y')]) F (LkP.m) (LkI.m);rw[show fj dn++[[V.str (tx r.nm),V.int ((r.st:Int)+y')]]=fj (dn++[(r,(r.st:Int)+y')]) by unfold fj;rw[List.map_append];rfl] at F2;rw[show ((k1:Nat):Int)+1=((k1+1:Nat):Int) by lia];exact⟨q-1,by lia,k1+1,_,dn++[(r,(r.st:Int)+y')],ys++[.ref p_],rfl,by lia,pc.1,by rw[vS];exact dne,by rw[yT,yT,yl];rfl,by rw[yT];show dn.length+1+(q-1)<=rs.length;lia,F2.sub SbC.s SbI.s⟩
 ·rw[uV _ _ _ (pZ lya.ok k1) (by lia),mI] at dne;subst dne
  repeat k_meth
  refine⟨mv_,ys,rfl,SqA.e,λl H2 nw=>?_⟩;have tr:aD H' ys.reverse (fj (mr (rgt n (rs.drop g) y)).reverse):=by rw[Hz];exact(TpA.e (H:=H')).rev
  replace F:=F.newL nw;exact k l _ _ SH.nwC (tr.same nw.s)
theorem Vr(T:Txt K mg c R CL CP CS aC ao):Def P w K mg base CX0 3 "hole_at_gap" ["layout","gap"] (Bj CL):=by
 refine dA T.Gm zF λf cdv A outer s H vs Q E hr h=>?_
 obtain⟨x,p,dx,n,zs,rs,g,rfl,ly,lya,hg,k⟩:=h;have nd:=zF.nd;refine⟨_,(aq (psz 2 nd (tQ (aU jf (pv 1) au (aY _)) au (aG (iH T) hr (aj (aG (eX T) hr (aj (aH aO (cG (pv 0) T.clL (cV T) hr) (aN b_ (pv 1) au) (λ_ _=>rfl)) ak)) ak))))
  (aB (aL (bM (aj (pv 2) (aj (aH aO (aG (iI T) hr (aj (pv 0) ak)) (pv 1) (λ_ _=>rfl)) ak)))))),?_⟩
 clear nd;rw[stE]
 try dsimp only[bT,bC]
 have hx:=ly.x;have hp:=ly.p;have tp:=ly.t;have few:=lya.l.few;have iK:=lya.h;have zl:zs.length=rs.length:=by rw[tp.1,aW]
 have gJ:=om hx;have fL:=om hp;have gW:=eO.mk tp;have F:=SH.n0 H;have gl:=eF n rs;have a2:AtI ((aP n rs).map V.int) ((g:Nat):Int) (.int (eH n rs g)):=⟨bB (by rw[wT,lK hg];rfl)⟩;rcases Nat.eq_zero_or_pos g with h0|h0
 ·subst h0
  repeat k_meth
  exact k _ _ F.sm aM
 ·obtain⟨g0,rfl⟩:∃g0,g=g0+1:=⟨g-1,by lia⟩;obtain⟨r,hr⟩:∃r,rs[g0]?=some r:=⟨_,qB (by lia)⟩;obtain⟨q1,e1,e2⟩:∃q1,zs[g0]?=some (.ref q1)/\H q1=some (.tup (cB r)):=tp.2 g0 _ (by unfold aF;rw[List.getElem?_map,hr];rfl);have lH:=om e2;have a1:AtI zs (((g0+1:Nat):Int)-1) (.ref q1):=⟨by rw[show (((g0+1:Nat):Int)-1)=((g0:Nat):Int) by lia];exact bB e1⟩;rw[wV hr] at k
  repeat k_meth
  have e:H_ p_=some (.tup [.int ((r.st:Int)+(r.sz:Int)),.int (eH n rs (g0+1))]):=aM;exact k _ _ F.sm (by rw[show ((edR (r::(rs.take g0).reverse):Nat):Int)=(r.st:Int)+(r.sz:Int) from Int.natCast_add ..];exact e)
end
open M22 M82 M87 M75
def pF(c g:Int)(m t:Addr):List (Str×V):=dZ "stretch" (.ref t) (dZ "moves" (.ref m) (dZ "number" (.int g) (dZ "cost" (.int c) [])))
def HD(CS:Addr):Sp:=λvs H Q _=>∃(y dy q:Addr),vs=[.ref y,.ref q]/\H y=some (.ins CS dy [])/\∀H',Kp y H H'->H' y=some (.ins CS dy [("stretches", .ref q)])->Q .non H'
def HF(CP:Addr):Sp:=λvs H Q _=>∃(y dy m t:Addr)(c g:Int),vs=[.ref y,.int c,.int g,.ref m,.ref t]/\H y=some (.ins CP dy [])/\∀H',Kp y H H'->H' y=some (.ins CP dy (pF c g m t))->Q .non H'
def wW(CP:Addr):Sp:=λvs H Q _=>∃(y dy m t:Addr)(c g:Int),vs=[.ref y]/\H y=some (.ins CP dy (pF c g m t))/\Q (.bl true) H
def wX(CS:Addr):Sp:=λvs H Q _=>∃(y dy q:Addr),vs=[.ref y]/\H y=some (.ins CS dy [("stretches", .ref q)])/\Q (.bl false) H
--def HJ (CS : Addr) : Sp := fun vs H Q _ => ∃ (y dy q : Addr) (ys : List V), vs = [.ref y] ∧ H y = some (.ins CS dy [("stretches", .ref q)]) ∧ H q = some (.lst ys) ∧ ∀ p H', New H H' p (.lst ys) → Q (.ref p) H'
section
variable{CS CP y dy q m t:Addr}{H H0:Hp}{M:List Addr}{L:List (Addr×HO)}{I:List Im}{Q:VK}{E:XK}{c g:Int}{ys:List V}
instance aiG{l:Addr}{L':List (Addr×HO)}{C dx:Addr}{fs:List (Str×V)}{R:Hp->Prop}[F:SH H0 M H L I][u:LkU L l (.ins C dx fs) L']:Go (∀H',Kp l H H'->H' l=some (.ins C dx fs)->R H') (∀H',SH H0 M H' L' I->R H'):=⟨λk H' f e=>k H' (F.kp f e u.u rfl)⟩
instance afj[h:Hat H y (.ins CS dy [])]:Go (HD CS [.ref y,.ref q] H Q E) (∀H',Kp y H H'->H' y=some (.ins CS dy [("stretches", .ref q)])->Q .non H'):=⟨λk=>⟨y,dy,q,rfl,h.e,k⟩⟩
instance afk[h:Hat H y (.ins CP dy [])]:Go (HF CP [.ref y,.int c,.int g,.ref m,.ref t] H Q E) (∀H',Kp y H H'->H' y=some (.ins CP dy (pF c g m t))->Q .non H'):=⟨λk=>⟨y,dy,m,t,c,g,rfl,h.e,k⟩⟩
instance abX[h:Hat H y (.ins CP dy (pF c g m t))]:Go (wW CP [.ref y] H Q E) (Q (.bl true) H):=⟨λk=>⟨y,dy,m,t,c,g,rfl,h.e,k⟩⟩
instance abY[h:Hat H y (.ins CS dy [("stretches", .ref q)])]:Go (wX CS [.ref y] H Q E) (Q (.bl false) H):=⟨λk=>⟨y,dy,q,rfl,h.e,k⟩⟩
--instance Zt [h : Hat H y (.ins CS dy [("stretches", .ref q)])] [h2 : Hat H q (.lst ys)] : Go (HJ CS [.ref y] H Q E) (∀ p H', New H H' p (.lst ys) → Q (.ref p) H') := ⟨fun k => ⟨y, dy, q, ys, rfl, h.e, h2.e, k⟩⟩
end
section
variable{P:Program}{w:World}{K:W.Frag}{mg:xC}{base:Heap}{c:Nat->Addr}{aC ao R CL CP CS:Addr}
theorem Vs(T:Txt K mg c R CL CP CS aC ao):Mak P w K mg base CX0 1 "Stuck" CS ["self","stretches"] (HD CS):=by
 obtain⟨f,hf,hm⟩:=T.Nj;refine(fA (k:=0) hf Ga λf cdv A outer s H vs Q E hr h=>?_).mak hm T.GF;obtain⟨y,dy,q,rfl,hy,k⟩:=h;have nd:=Ga.nd;refine⟨_,(aB (mV (pv 0) (pv 1) rfl)),?_⟩;clear nd ;rw[stE]
 try dsimp only[bT,bC]
 have F:SH H [y] H [(y,.ins CS dy [])] []:=SH.nil.fP List.mem_cons_self hy rfl (by simp)
 repeat k_meth
 exact k _ F.kpo aM
theorem Vt(T:Txt K mg c R CL CP CS aC ao):Mak P w K mg base CX0 1 "Plan" CP ["self","cost","number","moves","stretch"] (HF CP):=by
 obtain⟨f,hf,hm⟩:=T.Ni;refine(fA (k:=0) hf FZ λf cdv A outer s H vs Q E hr h=>?_).mak hm T.Nf;obtain⟨y,dy,m,t,c0,g,rfl,hy,k⟩:=h;have nd:=FZ.nd;refine⟨_,(aq (mV (pv 0) (pv 1) rfl)
  (aq (mV (pv 0) (pv 2) rfl)
  (aq (mV (pv 0) (pv 3) rfl)
  (aB (mV (pv 0) (pv 4) rfl))))),?_⟩
 clear nd ;rw[stE]
 try dsimp only[bT,bC]
 have F:SH H [y] H [(y,.ins CP dy [])] []:=SH.nil.fP List.mem_cons_self hy rfl (by simp)
 repeat k_meth
 exact k _ F.kpo aM
theorem wY(T:Txt K mg c R CL CP CS aC ao):Met P w K mg base CX0 1 CP "brings" ["self"] (wW CP):=by
 obtain⟨f,hf,hm⟩:=T.Am;refine(fA (k:=0) hf vW λf cdv A outer s H vs Q E hr h=>?_).met hm;obtain⟨y,dy,m,t,c0,g,rfl,hy,k⟩:=h;have nd:=vW.nd;refine⟨_,(aB (aL fV)),?_⟩;clear nd ;rw[stE]
 try dsimp only[bT,bC]
 have abZ:=om hy;have F:=SH.n0 H
 repeat k_meth
 exact k
theorem wZ(T:Txt K mg c R CL CP CS aC ao):Met P w K mg base CX0 1 CS "brings" ["self"] (wX CS):=by
 obtain⟨f,hf,hm⟩:=T.Ao;refine(fA (k:=0) hf vX λf cdv A outer s H vs Q E hr h=>?_).met hm;obtain⟨y,dy,q,rfl,hy,k⟩:=h;have nd:=vX.nd;refine⟨_,(aB (aL fV)),?_⟩;clear nd ;rw[stE]
 try dsimp only[bT,bC]
 have abZ:=om hy;have F:=SH.n0 H
 repeat k_meth
 exact k
end
open M22 M82 M87 M75
theorem HN(L:List Sp2):(kO L).Perm (mv L):=by
 have h:∀L:List Sp2,(ml L++mr L).Perm (mv L):=by
  intro L
  induction L with
  | nil=>exact List.Perm.refl _
  | cons s L ih =>
   unfold ml mr mv at *;by_cases q:s.2<(s.1.st:Int)
   ·rw[List.filter_cons_of_pos (by simpa using q),List.filter_cons_of_neg (by simp;lia),List.filter_cons_of_pos (by simp;lia)];exact ih.cons s
   ·by_cases q2:(s.1.st:Int)<s.2
    ·rw[List.filter_cons_of_neg (by simpa using q),List.filter_cons_of_pos (by simpa using q2),List.filter_cons_of_pos (by simp;lia)];exact List.perm_middle.trans (ih.cons s)
    ·rw[List.filter_cons_of_neg (by simpa using q),List.filter_cons_of_neg (by simpa using q2),List.filter_cons_of_neg (by simp;lia)];exact ih
 exact((List.reverse_perm _).append_left _).trans (h L)
theorem Vu(L:List Sp2):(kO L).length<=L.length:=by
 rw[(HN L).length_eq];exact List.length_filter_le _ _
theorem NT{L:List Sp2}(nn:∀s∈L,0<=s.2):fj (kO L)=Vf (eV L):=by
 have h:=Fi nn;have g:fj (kO L)=((kO L).map λs=>(s.1.nm,s.2)).map λq:List Nat×Int=>[V.str (tx q.1),V.int q.2]:=by unfold fj;rw[List.map_map];rfl
 rw[g,<- h,List.map_map]
 rfl
theorem Kc{n:Nat}{rs:List Rw}{L:List Sp2}(lya:LyA rs n)(e:L.map (·.1)=rs)(ch:ChS n 0 L)(pin:∀s∈L,0<s.1.pn->s.2=(s.1.st:Int)):abT n rs (eV L):=by
 have okJ:OkA 0 n (L.map (·.1)):=by rw[e];exact lya.ok
 have w:=Fg ch okJ pin;rw[e] at w;have nn:∀s∈L,0<=s.2:=λs hs=>((ChS.le ch).2 s hs).1
 have told:=Fi nn;have hl:(eV L).length=(kO L).length:=by have:=gI List.length told;rwa [wP,wP] at this
 have ol:=Vu L;have ll:L.length=rs.length:=by rw[<- e,wP]
 have nd:=wJ lya.l;refine⟨lya.l.few,by have:=lya.l.few;lia,w.1,?_,nd⟩;have en:(eV L).map (·.2.1)=(kO L).map (·.1.nm):=by
  have:=gI (List.map Prod.fst) told;rw[List.map_map,List.map_map] at this;exact this
 rw[en,((HN L).map _).nodup_iff];refine List.Nodup.sublist (List.filter_sublist.map _) ?_;rw[show L.map (λs=>s.1.nm)=(L.map (·.1)).map (·.nm) by rw[List.map_map];rfl,e];exact nd
theorem lM{n:Nat}:∀{ms:List Mv} {rs:List Rw},LyA rs n->WOk n rs ms->LyA (bF rs ms) n/\(bF rs ms).length=rs.length
 | [],rs,h,_=>⟨h,rfl⟩
 | m::ms,rs,h,w=>by
  obtain⟨⟨r,h1,_,h2,h3,h4⟩,w2⟩:=w;have s:Sld n rs r m.1 m.2.2:=⟨h1,h2,h3,h4⟩;have i:=lM (fO h s) w2;refine⟨i.1,i.2.trans ?_⟩;have:=gI List.length (Zj (to:=m.2.2) h1);simpa using this
def tgC(n:Nat)(rs:List Rw)(s:Int)(g b:Nat):List Sp2:=tgs n g (b:Nat) (max 0 (s-eH n rs g-(b:Int))) rs
theorem Ds{n:Nat}{rs:List Rw}{s:Nat}{c:Chc}{g b:Nat}(lya:LyA rs n)(h:Dq n rs s c g b):ChS n 0 (tgC n rs (s:Int) g b)/\(∀q∈tgC n rs (s:Int) g b,0<q.1.pn->q.2=(q.1.st:Int))/\(tgC n rs (s:Int) g b).map (·.1)=rs:=by
 obtain⟨u,v,e1,e2,_⟩:=h.ex;exact⟨abv lya.ok (by rw[e1];simp) (by rw[e2];simp),Yd lya.ok (by rw[e1];simp) (by rw[e2];simp),Yc ..⟩
class LcN(n:Nat)(rs:List Rw)(s:Int):Prop where
 e:lcF n rs s=none
class LcS(n:Nat)(rs:List Rw)(s:Int)(c:outParam Chc):Prop where
 e:lcF n rs s=some c
def NZ(CL CP CS P:Addr)(pos:Pos)(qual:Str):Sp:=λvs H Q _=>∃(x p dx:Addr)(n:Nat)(zs:List V)(rs:List Rw)(s:Nat)(ps:xI),vs=[.ref x,.int (s:Nat)]/\LyH CL H x p dx n zs rs/\LyA rs n/\1<=s/\H P=some (.tbl ps)/\TabOk pos qual ps H /\
 ((lcF n rs (s:Nat)=none/\∀y dy q ys H',SH H [] H' [(y,.ins CS dy [("stretches", .ref q)]),(q,.lst ys)] [.tps ys (jw (abI n rs))]->Q (.ref y) H') \/
  (∃c g b,lcF n rs (s:Nat)=some c/\Dq n rs s c g b/\∀y dy m ms t ps' H',SH H [P] H' [(y,.ins CP dy (pF c.1 (g:Nat) m t)),(m,.lst ms),(P,.tbl ps')] [.tps ms (fj (kO (tgC n rs (s:Nat) g b))),.tup t [.int (edR ((bF rs (eV (tgC n rs (s:Nat) g b))).take g).reverse:Nat),.int (eH n (bF rs (eV (tgC n rs (s:Nat) g b))) g)],eZ pos qual ps']->Q (.ref y) H'))
section
variable{CL x p dx:Addr}{H:Hp}{Q:VK}{E:XK}{n g b:Nat}{zs:List V}{rs:List Rw}{s y:Int}{c:Chc}
instance acV[h:LyQ CL H x p dx n zs rs][ly:LyA rs n][l:LcN n rs s]:Go (wQ CL [.ref x,.int s] H Q E) (Sd (1<=s) (∀H',Same H H'->Q .non H')):=⟨λk=>⟨x,p,dx,n,zs,rs,s,rfl,h.e,ly,k.1,.inl ⟨l.e,k.2⟩⟩⟩
instance acW[h:LyQ CL H x p dx n zs rs][ly:LyA rs n][l:LcS n rs s c]:Go (wQ CL [.ref x,.int s] H Q E) (Sd (1<=s) (∀q H',Same H H'->H' q=some (.tup [.int c.1,.int c.2.1,.int c.2.2])->Q (.ref q) H')):=⟨λk=>⟨x,p,dx,n,zs,rs,s,rfl,h.e,ly,k.1,.inr ⟨c,l.e,k.2⟩⟩⟩
instance acX[h:LyQ CL H x p dx n zs rs][ly:LyA rs n]:Go (Bh CL [.ref x,.int (g:Nat),.int (b:Nat)] H Q E) (Sd (g<=rs.length/\bD (lg (rs.take g).reverse) (b:Nat)≠none) (∀q ys H',New H H' q (.lst ys)->aD H' ys (fj (ml (lft (rs.take g).reverse (b:Nat))).reverse)->Q (.ref q) H')):=⟨λk=>⟨x,p,dx,n,zs,rs,g,b,rfl,h.e,ly,k.1.1,k.1.2,k.2⟩⟩
instance ab5[h:LyQ CL H x p dx n zs rs][ly:LyA rs n]:Go (wU CL [.ref x,.int (g:Nat),.int y] H Q E) (Sd (g<=rs.length/\bD (rg n (rs.drop g)) y≠none) (∀q ys H',New H H' q (.lst ys)->aD H' ys (fj (mr (rgt n (rs.drop g) y)).reverse)->Q (.ref q) H')):=⟨λk=>⟨x,p,dx,n,zs,rs,g,y,rfl,h.e,ly,k.1.1,k.1.2,k.2⟩⟩
instance acY[h:LyQ CL H x p dx n zs rs][ly:LyA rs n]:Go (Bj CL [.ref x,.int (g:Nat)] H Q E) (Sd (g<=rs.length) (∀t H',Same H H'->H' t=some (.tup [.int (edR (rs.take g).reverse:Nat),.int (eH n rs g)])->Q (.ref t) H')):=⟨λk=>⟨x,p,dx,n,zs,rs,g,rfl,h.e,ly,k.1,k.2⟩⟩
end
section
variable{P:Program}{w:World}{K:W.Frag}{mg:xC}{base:Heap}{c:Nat->Addr}{aC ao R CL CP CS:Addr}
theorem ab6(T:Txt K mg c R CL CP CS aC ao)(B:Bm mg base):Def P w K mg base CX0 11 "plan" ["layout","size"] (NZ CL CP CS ao bV bG):=by
 refine dA T.Uw Mz λf cdv A outer s H vs Q E hr h=>?_
 obtain⟨x,p,dx,n,zs,rs,s,ps,rfl,ly,lya,s1,hP,tk,kk⟩:=h;have nd:=Mz.nd;refine⟨_,(aq (cg (aG (Ny T) hr (aj (pv 1) ak)))
  (aq (psz 2 nd (aG (YD T) hr (aj (pv 0) (aj (pv 1) ak))))
  (aq (bK (aU sV (pv 2) cZ (aY _)) (aB (aL (sZ (Vs T) hr (aj (aG (Hh T) hr (aj (pv 0) ak)) ak)))) bf)
  (aq (psz 3 nd (aH aZ (pv 2) au (λ_ _=>rfl)))
  (aq (psz 4 nd (aR (gZ rfl) rfl T.pK boot_max (aj au (aj (aN b_ (aN b_ (pv 1) (aH aO (aG (iI T) hr (aj (pv 0) ak)) (pv 3) (λ_ _=>rfl))) (aH aZ (pv 2) au (λ_ _=>rfl))) ak))))
  (aq (psz 5 nd (aN gR (aG (Vq T) hr (aj (pv 0) (aj (pv 3) (aj (aH aZ (pv 2) au (λ_ _=>rfl)) ak)))) (aG (Qv T) hr (aj (pv 0) (aj (pv 3) (aj (pv 4) ak))))))
  (aB (aL (sZ (Vt T) hr (aj (aH aZ (pv 2) au (λ_ _=>rfl)) (aj (pv 3) (aj (pv 5) (aj (aG (Vr T) hr (aj (aG (abW T B) hr (aj (pv 0) (aj (pv 5) ak))) (aj (pv 3) ak))) ak))))))))))))),?_⟩
 clear nd;rw[stE]
 try dsimp only[bT,bC]
 have hx:=ly.x;have hp:=ly.p;have tp:=ly.t;have few:=lya.l.few;have iK:=lya.h;have zl:zs.length=rs.length:=by rw[tp.1,aW]
 have gl:=eF n rs;have szf:rs.length<=40/\∀r∈rs,r.sz<=240:=⟨few,λr hr=>by have:=(lya.l.good r hr).le;lia⟩;have s11:(1:Int)<=(s:Int):=by lia
 rcases kk with⟨e,k⟩|⟨c,g,b,e,co,k⟩
 ·have gJ:=om hx;have fL:=om hp;have gW:=eO.mk tp;have F:=SH.n0 H;have lc:LcN n rs (s:Int):=⟨e⟩
  repeat k_meth
  exact k _ _ _ _ _ F
 ·have F:SH H [ao] H [(ao,.tbl ps)] [.tps zs (aF rs),eZ bV bG ps]:=((SH.nil.fP List.mem_cons_self hP rfl (by simp)).jc tk).cU tp;have gJ:=Old.mk (M:=[ao]) hx (nm1 (bZ hx hP (by simp)));have fL:=Old.mk (M:=[ao]) hp (nm1 (bZ hp hP (by simp)));have lc:LcS n rs (s:Int) c:=⟨e⟩;obtain⟨c1,c2,c3⟩:=c;obtain⟨tc,tpn,tf⟩:=Ds lya co;obtain⟨eg,eb,hg,hb,u,v,p1,p2,_⟩:=co;dsimp only at eg eb;subst eg eb;have a2:AtI ((aP n rs).map V.int) ((g:Nat):Int) (.int (eH n rs g)):=⟨bB (by rw[wT,lK hg];rfl)⟩;have sd1:g<=rs.length/\bD (lg (rs.take g).reverse) (b:Nat)≠none:=⟨hg,by rw[p1];simp⟩;have sd2:g<=rs.length/\bD (rg n (rs.drop g)) (max 0 ((s:Int)-eH n rs g-(b:Int)))≠none:=⟨hg,by rw[p2];simp⟩
  repeat k_meth
  rename_i mA yA lA;have lA2:yA.length<=40:=by
   rw[lA,Hy,List.length_reverse];refine rX (List.length_filter_le _ _) ?_;rw[Dr,List.length_reverse,oQ]
   lia
  have lB2:ys_.length<=40:=by
   rw[l_,Hy,List.length_reverse];refine rX (List.length_filter_le _ _) ?_;rw[NQ,mT]
   lia
  refine sd (by rw[sizeLine_eq];lia) ?_;have od:=Mq n g (b:Nat) (max 0 ((s:Int)-eH n rs g-(b:Int))) rs;have tA:aD H_ (yA++ys_) (fj (kO (tgC n rs (s:Int) g b))):=by
   rw[show tgC n rs (s:Int) g b=tgs n g (b:Nat) (max 0 ((s:Int)-eH n rs g-(b:Int))) rs from rfl,od];unfold fj;rw[List.map_append];exact(F.tps (ys:=yA) (rs:=fj (ml (lft (rs.take g).reverse (b:Nat))).reverse) (by simp)).app (F.tps (ys:=ys_) (by simp))
  replace F:=F.cU tA;clear tA
  repeat k_meth
  have wk:=Kc lya tf tc tpn;have told:=NT (L:=tgC n rs (s:Int) g b) λq hq=>((ChS.le tc).2 q hq).1
  have tB:aD H_ (yA++ys_) (Vf (eV (tgC n rs (s:Int) g b))):=by rw[<- told];exact TpA.e (H:=H_)
  refine⟨x,p,dx,p_,n,zs,yA++ys_,rs,eV (tgC n rs (s:Int) g b),ps,rfl,⟨aM,aM,TpA.e⟩,lya,aM,tB,wk,aM,SH.tab,λy dy q ws ps' H' kp hP2 tk2 ly2=>?_⟩;have lyT:=lM lya wk.ok;have lyB:=lyT.1;have lyC:LyQ CL H' y q dy n ws (bF rs (eV (tgC n rs (s:Int) g b))):=⟨ly2⟩;have sd3:g<=(bF rs (eV (tgC n rs (s:Int) g b))).length:=by rw[lyT.2];exact hg
  replace F:=SH.jc (st:=TabOk.st) (F.kp kp hP2 LkU.u rfl) tk2
  repeat k_meth
  rename_i pM _ _;exact k x_ dx_ pM (yA++ys_) p_ ps' _ (F.sub SbC.s (by simp[eZ]))
end
open M22
def HS:Sp:=λvs H Q _=>∃(p:Addr)(fs:xF),vs=[.ref p]/\H p=some (.lst (fs.map V.bl))/\fs.length<=240/\∀(q:Addr)(ys:List V)(H':Hp),New H H' q (.lst ys)->aD H' ys (gG (dY fs))->Q (.ref q) H'
theorem Kd{fs:xF}{i:Nat}{b:Bool}(h:fs[i]?=some b):fs.take (i+1)=fs.take i++[b]:=by rw[gE,h];rfl
theorem Vv{fs:xF}{i:Nat}{x:V}(h:(fs.map V.bl)[i]?=some x):∃b,fs[i]?=some b/\x=.bl b:=by
 rw[wT] at h;cases e:fs[i]? with
 | none=>rw[e] at h;cases h
 | some b=>rw[e] at h;exact⟨b,rfl,(nI h).symm⟩
section
variable{P:Program}{w:World}{K:W.Frag}{mg:xC}{base:Heap}{c:Nat->Addr}{aC ao R CL CP CS:Addr}
theorem YJ(T:Txt K mg c R CL CP CS aC ao):Def P w K mg base CX0 1 "holes_among" ["free"] HS:=by
 refine dA T.M8 FT λf cdv A outer s H vs Q E hr h=>?_
 obtain⟨p,fs,rfl,hp,hz,k⟩:=h;have nd:=FT.nd;refine⟨_,(aq (psz 1 nd (aX ak))
  (aq (psz 2 nd au)
  (aq (cH PassesOwn.never rfl (Cp rfl T.iT (aj (aN gR (pv 0) (aX (aj fV ak))) ak)) (iW rfl (bL (pgz 3 nd) (bL (pgz 4 nd) fu))) (aB (bK (cQ (pv 4)) (aB (ZR (i:=2) nd rfl (Or.inl rfl) au WD)) (aB (bK (aU fY (pv 2) au (aY _)) (aq (cg (bR (pv 1) (bM (aj (aN b_ (pv 3) (pv 2)) (aj (pv 2) ak)))))
        (aB (psz 2 nd au))) bf)))))
  (aB (aL (pv 1)))))),?_⟩
 clear nd ;rw[stE]
 try dsimp only[bT,bC]
 have fL:=om hp;have F:=SH.n0 H
 repeat k_meth
 obtain⟨r,e⟩:∃z,z=p_:=⟨_,rfl⟩;subst e;rename_i q _;rw[show fs.map V.bl++[V.bl false]=(fs++[false]).map V.bl by rw[List.map_append];rfl] at F ⊢;refine Cq (xs:=(fs++[false]).map V.bl) (λi σ' H'=>∃(st:Sc)(o3 o4:Option V)(ys:List V),st=scan ((fs++[false]).take i)/\σ'=[some (.ref p),some (.ref q),some (.int (st.2.1:Nat)),o3,o4]/\ys.length<=i/\SH H [] H' [(r,.lst ((fs++[false]).map V.bl)),(q,.lst ys)] [.tps ys (gG st.1)]) ⟨([],0,0),none,none,[],rfl,rfl,uC _,(F.cU (ys:=[]) (rs:=gG []) aD.nil).sub SbC.s SbI.s⟩ ?_ ?_ ?_
 ·clear F;rintro i σ' H' _ ⟨st,_,_,ys,_,rfl,_,F⟩;exact SqA.e
 ·clear F;rintro i v T σ' H' H3 hv ⟨st,_,_,ys,hst,rfl,hy,F⟩ nw;obtain⟨bv,hb,rfl⟩:=Vv hv;have hi:=(qA.mp hb).1;rw[yT,List.length_singleton] at hi;have tk:=Kd hb;have sl:=scan_len ((fs++[false]).take i);have ok:=(Cv ((fs++[false]).take i)).le;rw[oQ,yT,List.length_singleton] at sl ok;rw[<- hst] at sl ok;replace F:=(F.same nw.s).qC nw.e;have fin:∀st2,st2=stp st bv->st2=scan ((fs++[false]).take (i+1)):=λst2 h=>by rw[tk,scan_snoc,<- hst,h]
  cases bv with
  | true =>
   repeat k_meth
   have e7:stp st true=(st.1,st.2.1+1,st.2.2+1):=by
    unfold stp;rw[zS rfl]
   exact⟨(st.1,st.2.1+1,st.2.2+1),_,_,ys,fin _ e7.symm,rfl,by lia,F.sub SbC.s SbI.s⟩
  | false =>
   repeat k_meth
   refine d7 (λh=>?_) (λh=>?_)
   ·have h:0<st.2.1:=by lia
    repeat k_meth
    have e7:stp st false=(st.1++[(st.2.2-st.2.1,st.2.1)],0,st.2.2+1):=by
     unfold stp;rw[yB (by decide),zS h]
    have t2:aD H_ (ys++[.ref p_]) (gG (st.1++[(st.2.2-st.2.1,st.2.1)])):=by
     rw[show gG (st.1++[(st.2.2-st.2.1,st.2.1)])=gG st.1++[[V.int ((st.2.2-st.2.1:Nat):Int),V.int (st.2.1:Nat)]] by unfold gG;rw[List.map_append];rfl];refine aD.snoc TpA.e ?_;show H_ p_=some (.tup [V.int ((st.2.2-st.2.1:Nat):Int),_]);rw[show ((st.2.2-st.2.1:Nat):Int)=(i-(st.2.1:Nat):Int) by lia];exact aM
    exact⟨(st.1++[(st.2.2-st.2.1,st.2.1)],0,st.2.2+1),_,_,ys++[.ref p_],fin _ e7.symm,rfl,by simp;lia,(F.cU t2).sub SbC.s SbI.s⟩
   ·have h:¬ 0<st.2.1:=by lia
    repeat k_meth
    have e7:stp st false=(st.1,0,st.2.2+1):=by
     unfold stp;rw[yB (by decide),yB h]
    have e0:st.2.1=0:=by lia
    rw[e0];exact⟨(st.1,0,st.2.2+1),_,_,ys,fin _ e7.symm,rfl,by lia,F.sub SbC.s SbI.s⟩
 ·clear F;rintro σ' H' ⟨st,_,_,ys,hst,rfl,hy,F⟩;have e9:st.1=dY fs:=by rw[hst,show (fs++[false]).take ((fs++[false]).map V.bl).length=fs++[false] by rw[wP,List.take_length],(JG fs).1]
  rw[e9] at F
  repeat k_meth
  exact k _ _ _ SH.nwC TpA.e
end
open M22 M82 M87 M75
instance Zu{q:Addr}{ys:List V}{ws:xD}{H:Hp}{Q:VK}{E:XK}[h:Hat H q (.lst ys)][t:TpA H ys (gG ws)]:Go (uN [.ref q] H Q E) (Sd (ws.length<=1000) (∀H',Same H H'->Q (.int (gK 0 (dR ws))) H')):=⟨λs=>⟨q,ys,ws,rfl,h.e,t.e,s.1,s.2⟩⟩
def freeOf(n:Nat)(rs:List Rw):List Bool:=rs.foldl (λfs r=>jL fs r.st r.sz false) (List.replicate n true)
theorem HW(n:Nat)(rs:List Rw)(r:Rw):freeOf n (rs++[r])=jL (freeOf n rs) r.st r.sz false:=by unfold freeOf;rw[List.foldl_append];rfl
theorem nO{n:Nat}{rs:List Rw}(h:∀r∈rs,r.st+r.sz<=n):(freeOf n rs).length=n:=by
 have:∀(rs:List Rw)(fs:xF),fs.length=n->(∀r∈rs,r.st+r.sz<=n)->(rs.foldl (λfs r=>jL fs r.st r.sz false) fs).length=n:=by
  intro rs
  induction rs with
  | nil=>intro fs e _;exact e
  | cons r t ih =>
   intro fs e hr;refine ih _ ?_ λs hs=>hr s (zD _ hs)
   rw[Fb (by rw[e];exact hr r zC)];exact e
 exact this rs _ (by simp) h
theorem Vw{fs:xF}{a i:Nat}{v:Bool}(h:a+i<fs.length):((jL fs a i v).map V.bl).set ((a:Int)+(i:Int)).toNat (.bl v)=(jL fs a (i+1) v).map V.bl:=by
 rw[show ((a:Int)+(i:Int)).toNat=a+i by lia,Fd,T_ (by rw[wP];exact h),<- Fd]
section
variable{CL x p dx:Addr}{H:Hp}{Q:VK}{E:XK}{n:Nat}{zs:List V}{rs:List Rw}{fs:xF}
def Bk(CL:Addr):Sp:=λvs H Q _=>∃(x p dx:Addr)(n:Nat)(zs:List V)(rs:List Rw),vs=[.ref x]/\H x=some (.ins CL dx (lF (n:Nat) p))/\H p=some (.lst zs)/\aD H zs (aF rs)/\(∀r∈rs,r.st+r.sz<=n)/\n<=240/\∀q H',New H H' q (.lst ((freeOf n rs).map V.bl))->Q (.ref q) H'
def w6(CL:Addr):Sp:=λvs H Q _=>∃(x p dx:Addr)(n:Nat)(zs:List V)(rs:List Rw),vs=[.ref x]/\H x=some (.ins CL dx (lF (n:Nat) p))/\H p=some (.lst zs)/\aD H zs (aF rs)/\(∀r∈rs,r.st+r.sz<=n)/\n<=240/\∀q ys H',New H H' q (.lst ys)->aD H' ys (gG (dY (freeOf n rs)))->Q (.ref q) H'
instance acZ[h:Hat H x (.ins CL dx (lF (n:Nat) p))][h2:Hat H p (.lst zs)][t:TpA H zs (aF rs)]:Go (Bk CL [.ref x] H Q E) (Sd ((∀r∈rs,r.st+r.sz<=n)/\n<=240) (∀q H',New H H' q (.lst ((freeOf n rs).map V.bl))->Q (.ref q) H')):=⟨λs=>⟨x,p,dx,n,zs,rs,rfl,h.e,h2.e,t.e,s.1.1,s.1.2,s.2⟩⟩
instance ab7[h:Hat H x (.ins CL dx (lF (n:Nat) p))][h2:Hat H p (.lst zs)][t:TpA H zs (aF rs)]:Go (w6 CL [.ref x] H Q E) (Sd ((∀r∈rs,r.st+r.sz<=n)/\n<=240) (∀q ys H',New H H' q (.lst ys)->aD H' ys (gG (dY (freeOf n rs)))->Q (.ref q) H')):=⟨λs=>⟨x,p,dx,n,zs,rs,rfl,h.e,h2.e,t.e,s.1.1,s.1.2,s.2⟩⟩
instance afl[h:Hat H p (.lst (fs.map V.bl))]:Go (HS [.ref p] H Q E) (Sd (fs.length<=240) (∀(q:Addr)(ys:List V)(H':Hp),New H H' q (.lst ys)->aD H' ys (gG (dY fs))->Q (.ref q) H')):=⟨λs=>⟨p,fs,rfl,h.e,s.1,s.2⟩⟩
end
def Bl(CP:Addr):Sp:=λvs H Q _=>∃(y dy m t:Addr)(c g:Int),vs=[.ref y]/\H y=some (.ins CP dy (pF c g m t))/\Q (.int c) H
def xg(CP:Addr):Sp:=λvs H Q _=>∃(y dy m t:Addr)(c g:Int)(ms:List V),vs=[.ref y]/\H y=some (.ins CP dy (pF c g m t))/\H m=some (.lst ms)/\∀p H',New H H' p (.lst ms)->Q (.ref p) H'
section
variable{CP y dy m t:Addr}{H:Hp}{Q:VK}{E:XK}{c g:Int}{ms:List V}
instance agG:FLk (pF c g m t) "cost" (.int c):=⟨by unfold pF;rw[bW,if_neg (by decide),bW,if_neg (by decide),bW,if_neg (by decide),bW,if_pos rfl]⟩
instance afm:FLk (pF c g m t) "moves" (.ref m):=⟨by unfold pF;rw[bW,if_neg (by decide),bW,if_pos rfl]⟩
instance ac0[h:Hat H y (.ins CP dy (pF c g m t))]:Go (Bl CP [.ref y] H Q E) (Q (.int c) H):=⟨λk=>⟨y,dy,m,t,c,g,rfl,h.e,k⟩⟩
instance ab8[h:Hat H y (.ins CP dy (pF c g m t))][h2:Hat H m (.lst ms)]:Go (xg CP [.ref y] H Q E) (∀p H',New H H' p (.lst ms)->Q (.ref p) H'):=⟨λk=>⟨y,dy,m,t,c,g,ms,rfl,h.e,h2.e,k⟩⟩
end
section
variable{c g:Int}{m t q:Addr}
instance ac1:FNo (pF c g m t) "brings":=⟨rfl⟩
instance ac2:FNo [("stretches", V.ref q)] "brings":=⟨rfl⟩
instance afn:FNo (pF c g m t) "price":=⟨rfl⟩
instance ac3:FNo (pF c g m t) "slides":=⟨rfl⟩
end
instance ac4{tr:TA}{te:TE}{nt:Nat}{fr:List Nat}{g:TG}{c:TT}{σ:L2.St}{H:Hp}{Q:VK}:Go (mJ (yp tr) nt fr g c te σ H Q) (tr σ H λvs H1=>∃j:Int,vs=[.int j]/\-(2 ^ 62)<=j/\j<2 ^ 62/\cu (Itr 0 j.toNat) nt fr g c te σ H1 Q):=⟨id⟩
instance agH{i:Int}{R:Int->Prop}:Go (∃j:Int,[V.int i]=[.int j]/\-(2 ^ 62)<=j/\j<2 ^ 62/\R j) (Sd (-(2 ^ 62)<=i/\i<2 ^ 62) (R i)):=⟨λk=>⟨i,rfl,k.1.1,k.1.2,k.2⟩⟩
def Bo:Sp:=λvs H Q _=>∃(a b:Int)(n:Nat),vs=[.int a,.int (n:Nat),.int b]/\n<=240/\∀q ys H',New H H' q (.lst ys)->ys.length=(if a=b then 0 else n)->Q (.ref q) H'
abbrev Sp4:=Str×Int×Nat×Int
def afo(s:Sp4):List V:=[.str s.1,.int s.2.1,.int (s.2.2.1:Nat),.int s.2.2.2]
def Vx(ss:List Sp4):List (List V):=ss.map afo
def jV(ss:List Sp4):Nat:=(ss.map λs=>if s.2.1=s.2.2.2 then 0 else s.2.2.1).sum
def Ke:Sp:=λvs H Q _=>∃(l:Addr)(zs:List V)(ss:List Sp4),vs=[.ref l]/\H l=some (.lst zs)/\aD H zs (Vx ss)/\(∀s∈ss,s.2.2.1<=240)/\ss.length<=41/\∀q ys H',New H H' q (.lst ys)->ys.length=jV ss->Q (.ref q) H'
theorem Vy{ss:List Sp4}(h:∀s∈ss,s.2.2.1<=240):jV ss<=240*ss.length:=by
 induction ss with
 | nil=>simp[jV]
 | cons s ss ih =>
  have:=ih λx hx=>h x (zD _ hx)
  have:=h s zC;unfold jV at *;rw[oS,List.sum_cons,mS];split <;> lia
theorem Kf(ss:List Sp4)(s:Sp4):jV (ss++[s])=jV ss+(if s.2.1=s.2.2.2 then 0 else s.2.2.1):=by unfold jV;rw[List.map_append,List.sum_append];simp
theorem Qw{α:Type}{l:List α}{i:Nat}{a:α}(h:l[i]?=some a):l.take (i+1)=l.take i++[a]:=by rw[gE,h];rfl
section
variable{P:Program}{w:World}{K:W.Frag}{mg:xC}{base:Heap}{c:Nat->Addr}{aC ao R CL CP CS:Addr}
theorem Qx(T:Txt K mg c R CL CP CS aC ao):Def P w K mg base CX0 1 "largest_size" ["stretches"] uN:=by
 refine dA T.Ae vN λf cdv A outer s H vs Q E hr h=>?_
 obtain⟨p,ys,ws,rfl,hp,tp,hz,k⟩:=h;have nd:=vN.nd;refine⟨_,(aB (aL (Jv (Pa rfl) rfl T.pK boot_max (aj (dI (N:=["stretch"]) (nt:=1) (fr:=[]) (cC (pv 0)) (λ_ _ _ _=>(cj (i:=0) (show (["stretch"]:List Str).Nodup from by decide +kernel) rfl (Or.inl rfl))) (λ_ _ _ _=>dU) (λ_ _ _ _=>(aH (cX (K:=K) rfl) (pv 0) au (λ_ _=>rfl)))) ak) au))),?_⟩;clear nd ;rw[stE]
 try dsimp only[bT,bC]
 have fL:=om hp;have gW:=eO.mk tp;have F:=SH.n0 H
 repeat k_meth
 refine gw (F:=λr=>r.getD 1 .non) aM (TpA.e (rs:=gG ws)) (by rw[tp.1,dD];lia) rfl (λq r H1 R hr s1 e1 kk=>?_) λl H1 n1=>?_
 ·clear F;have F:=SH.n0 H1;obtain⟨w,_,rfl⟩:=jI.mp hr;have U6:=om e1
  repeat k_meth
  exact kk _ (Same.refl _)
 ·replace F:=F.newL n1
  repeat k_meth
  refine aaG (ns:=dR ws) (SqL.of ?_) (λn hn=>?_) (k _ F.sm)
  ·rw[n1.e];simp[gG,dR]
  ·obtain⟨w,_,rfl⟩:=jI.mp hn;exact Int.natCast_nonneg _
theorem Vz(T:Txt K mg c R CL CP CS aC ao):Def P w K mg base CX0 2 "free_among" ["layout"] (Bk CL):=by
 refine dA T.Gy zP λf cdv A outer s H vs Q E hr h=>?_
 obtain⟨x,p,dx,n,zs,rs,rfl,hx,hp,tp,hle,iK,k⟩:=h;have nd:=zP.nd;refine⟨_,(aq (psz 1 nd (aN K9 (aX (aj fV ak)) (gh (pv 0) rfl)))
  (aq (cH PassesOwn.never rfl (cC (cG (pv 0) T.clL (cV T) hr)) (pgz 2 nd) (aB (cH PassesOwn.never rfl (yq rfl T.cY (aj (aH aZ (pv 2) au (λ_ _=>rfl)) (aj (aN bI (aH aZ (pv 2) au (λ_ _=>rfl)) (aH aZ (pv 2) au (λ_ _=>rfl))) ak))) (pgz 3 nd) (aB (jB fV (qj (pv 1) (pv 3) gY))))))
  (aB (aL (pv 1))))),?_⟩
 clear nd;rw[stE]
 try dsimp only[bT,bC]
 have gJ:=om hx;have fL:=om hp;have gW:=eO.mk tp;have F:=SH.n0 H
 repeat k_meth
 rename_i _ _ _ fr
 rename Addr=>bl
 refine fH (xs:=zs) (λi σ' H'=>∃o2 o3:Option V,σ'=[some (.ref x),some (.ref fr),o2,o3]/\SH H [] H' [(bl,.lst zs),(fr,.lst ((freeOf n (rs.take i)).map V.bl))] []) ⟨_,_,rfl,by rw[show freeOf n (rs.take 0)=List.replicate n true from rfl];exact F.Cu⟩ ?_ ?_ ?_
 ·clear F;rintro i σ' H' _ ⟨_,_,rfl,F⟩;exact SqA.e
 ·clear F;rintro i v σ' H' hv ⟨_,_,rfl,F⟩;obtain⟨r,q1,e1,rfl,e2⟩:=cF tp hv;have lH:=om e2;have le:=hle r (yY e1);have fl:(freeOf n (rs.take i)).length=n:=nO λs hs=>hle s (oB hs)
  repeat k_meth
  rw[show (((r.st:Nat):Int)+((r.sz:Nat):Int)-((r.st:Nat):Int)).toNat=r.sz by lia];refine Lp (λj σ' H'=>∃o3:Option V,σ'=[some (.ref x),some (.ref fr),some (.ref q1),o3]/\SH H [] H' [(bl,.lst zs),(fr,.lst ((jL (freeOf n (rs.take i)) r.st j false).map V.bl))] []) ⟨_,rfl,by rw[PB];exact F.Cu⟩ ?_ ?_
  ·clear F;rintro j σ' H' hj ⟨_,rfl,F⟩;have pl:=Fb (fs:=freeOf n (rs.take i)) (a:=r.st) (i:=j) (b:=false) (by lia)
   repeat k_meth
   rw[Vw (by lia)] at F;exact⟨_,rfl,F⟩
  ·clear F;rintro σ' H' ⟨_,rfl,F⟩
   repeat k_meth
   rw[<- HW,<- dh e1] at F;exact⟨_,_,rfl,F⟩
 ·clear F;rintro σ' H' ⟨_,_,rfl,F⟩
  repeat k_meth
  rw[show zs.length=rs.length by rw[tp.1,aW],List.take_length] at F;exact k _ _ SH.nwC
theorem Qy(T:Txt K mg c R CL CP CS aC ao):Def P w K mg base CX0 3 "holes_of" ["layout"] (w6 CL):=by
 refine dA T.Af vP λf cdv A outer s H vs Q E hr h=>?_
 obtain⟨x,p,dx,n,zs,rs,rfl,hx,hp,tp,hle,iK,k⟩:=h;have nd:=vP.nd;refine⟨_,(aB (aL (aG (YJ T) hr (aj (aG (Vz T) hr (aj (pv 0) ak)) ak)))),?_⟩;clear nd;rw[stE]
 try dsimp only[bT,bC]
 have gJ:=om hx;have fL:=om hp;have gW:=eO.mk tp;have F:=SH.n0 H;have side:=And.intro hle iK;have fl:=nO hle
 repeat k_meth
 exact k _ _ _ SH.nwC TpA.e
theorem rD(T:Txt K mg c R CL CP CS aC ao):Met P w K mg base CX0 1 CP "price" ["self"] (Bl CP):=by
 obtain⟨f,hf,hm⟩:=T.GQ;refine(fA (k:=0) hf zU λf cdv A outer s H vs Q E hr h=>?_).met hm;obtain⟨y,dy,m,t,c0,g,rfl,hy,k⟩:=h;have nd:=zU.nd;refine⟨_,(aB (aL (gh (pv 0) rfl))),?_⟩;clear nd ;rw[stE]
 try dsimp only[bT,bC]
 have abZ:=om hy;have F:=SH.n0 H
 repeat k_meth
 exact k
theorem Kg(T:Txt K mg c R CL CP CS aC ao):Met P w K mg base CX0 1 CP "slides" ["self"] (xg CP):=by
 obtain⟨f,hf,hm⟩:=T.Aq;refine(fA (k:=0) hf vZ λf cdv A outer s H vs Q E hr h=>?_).met hm;obtain⟨y,dy,m,t,c0,g,ms,rfl,hy,hm,k⟩:=h;have nd:=vZ.nd;refine⟨_,(aB (aL (dz dB rfl T.fK boot_list (aj (gh (pv 0) rfl) ak)))),?_⟩;clear nd ;rw[stE]
 try dsimp only[bT,bC]
 have abZ:=om hy;have Vj:=om hm;have F:=SH.n0 H
 repeat k_meth
 exact k _ _ SH.nwC
theorem VB(T:Txt K mg c R CL CP CS aC ao):Def P w K mg base CX0 1 "copies_of" ["start","size","to"] Bo:=by
 refine dA T.Gx zO λf cdv A outer s H vs Q E hr h=>?_
 obtain⟨a,b,n,rfl,iK,k⟩:=h;have nd:=zO.nd;refine⟨_,(aq (oA (i:=3) nd rfl (Or.inl rfl) (N:=["at","start","to"]) (nt:=1) (fr:=[0,2]) (cL rfl T.cY (aj (pv 1) ak)) (λ_ _ _ _=>(cj (i:=0) (show (["at","start","to"]:List Str).Nodup from by decide +kernel) rfl (Or.inl rfl))) (λ_ _ _ _=>dU) (λ_ _ _ _=>(bM (aj (aN bI (pv 1) (pv 0)) (aj (aN bI (pv 2) (pv 0)) ak)))))
  (aq (bK (aU nZ (pv 2) (pv 0) (aY _)) (aB (aL (pv 3))) bf)
  (aq (bK (aU fY (pv 2) (pv 0) (aY _)) (aB (aL (jH rfl rfl T.fK rfl T.iG (aj (pv 3) ak)))) bf)
  (aB (aL (aX ak)))))),?_⟩
 clear nd ;rw[stE]
 try dsimp only[bT,bC]
 have F:=SH.n0 H
 repeat k_meth
 rw[show ((n:Nat):Int).toNat=n by lia];refine comp_map (P:=λ_ _=>True) (iQ (lo:=0) (n:=n)) (by simp[cR];lia) (fvs:=[some (.int a),some (.int b)]) rfl (λ_ _=>trivial) (λi v H1 R hv s1 kk=>?_) λq H1 ys nw yl _=>?_
 ·obtain⟨j,rfl⟩:∃j:Int,v=.int j:=by
   unfold cR at hv;rw[wT] at hv;cases h:(List.range n)[i]? with
   | none=>rw[h] at hv;cases hv
   | some j=>rw[h] at hv;exact⟨_,(nI hv).symm⟩
  clear F;have F:=SH.n0 H1
  repeat k_meth
  exact kk _ _ F.sm trivial
 replace F:=F.newL nw;have yl:ys.length=n:=by rw[yl];simp[cR]
 repeat k_meth
 refine d7 (λh=>?_) (λh=>?_)
 ·repeat k_meth
  exact k _ _ _ SH.nwC (by rw[yl,yB (by lia)])
 ·repeat k_meth
  refine d7 (λh2=>?_) (λh2=>?_)
  ·repeat k_meth
   refine⟨q,ys,rfl,SqA.e,λl2 H2 nw2=>?_⟩;replace F:=F.newL nw2
   repeat k_meth
   exact k _ _ _ SH.nwC (by rw[List.length_reverse,yl,yB (by lia)])
  ·repeat k_meth
   exact k _ _ _ SH.nwC (by rw[zS (by lia)];rfl)
instance ac5{a b:Int}{n:Nat}{H:Hp}{Q:VK}{E:XK}:Go (Bo [.int a,.int (n:Nat),.int b] H Q E) (Sd (n<=240) (∀q ys H',New H H' q (.lst ys)->ys.length=(if a=b then 0 else n)->Q (.ref q) H')):=⟨λk=>⟨a,b,n,rfl,k.1,k.2⟩⟩
theorem Qz(T:Txt K mg c R CL CP CS aC ao):Def P w K mg base CX0 2 "copies_of_steps" ["steps"] Ke:=by
 refine dA T.Ac vL λf cdv A outer s H vs Q E hr h=>?_
 obtain⟨l,zs,ss,rfl,hl,tz,sm,few,k⟩:=h;have nd:=vL.nd;refine⟨_,(aq (psz 1 nd (aX ak))
  (aq (cH PassesOwn.never rfl (cC (pv 0)) (iW rfl (bL (pgz 2 nd) (bL (pgz 3 nd) (bL (pgz 4 nd) (bL (pgz 5 nd) fu))))) (aB (cg (Lh (pv 1) (aG (VB T) hr (aj (pv 3) (aj (pv 4) (aj (pv 5) ak))))))))
  (aB (aL (pv 1))))),?_⟩
 clear nd;rw[stE]
 try dsimp only[bT,bC]
 have jW:=om hl;have ajZ:=eO.mk tz;have F:=SH.n0 H;have zl:zs.length=ss.length:=by rw[tz.1];exact wP ..
 repeat k_meth
 rename Addr=>co
 refine fH (xs:=zs) (λi σ' H'=>∃(o2 o3 o4 o5:Option V)(ys:List V),σ'=[some (.ref l),some (.ref co),o2,o3,o4,o5]/\ys.length=jV (ss.take i)/\SH H [] H' [(co,.lst ys)] []) ⟨_,_,_,_,[],rfl,rfl,F.sub SbC.s SbI.s⟩ ?_ ?_ ?_
 ·clear F;rintro i σ' H' _ ⟨_,_,_,_,ys,rfl,yl,F⟩;exact SqA.e
 ·clear F;rintro i v σ' H' hv ⟨_,_,_,_,ys,rfl,yl,F⟩;obtain⟨s,q1,e1,rfl,e2⟩:∃s q1,ss[i]?=some s/\v=.ref q1/\H q1=some (.tup (afo s)):=by
   obtain⟨r,q,a1,a2,a3⟩:=oV tz hv;unfold Vx at a1;rw[wT] at a1;cases e4:ss[i]? with
   | none=>rw[e4] at a1;cases a1
   | some w=>rw[e4] at a1;cases a1;exact⟨w,q,rfl,a2,a3⟩
  have Qj:=sm s (yY e1);have lH:Old H [] q1 (.tup [.str s.1,.int s.2.1,.int (s.2.2.1:Nat),.int s.2.2.2]):=om e2;have ct:jV (ss.take (i+1))=jV (ss.take i)+(if s.2.1=s.2.2.2 then 0 else s.2.2.1):=by rw[Qw e1,Kf]
  have c1:=Vy λx (hx:x∈ss.take i)=>sm x (oB hx)
  rw[oQ] at c1
  repeat k_meth
  intro q2 ys2 H2 nw2 yl2;replace F:=F.newL nw2;have aj0:ys2.length<=240:=by rw[yl2];split <;> lia
  repeat k_meth
  exact⟨_,_,_,_,ys++ys2,rfl,by rw[yT,yl,yl2,ct],F.sub SbC.s SbI.s⟩
 ·clear F;rintro σ' H' ⟨_,_,_,_,ys,rfl,yl,F⟩;rw[zl,List.take_length] at yl
  repeat k_meth
  exact k _ _ _ SH.nwC yl
end
open M22 M82 M87 M75
theorem YK{n:Nat}{L:List Sp2}(ch:ChS n 0 L)(ok:OkA 0 n (L.map (·.1)))(pin:∀s∈L,0<s.1.pn->s.2=(s.1.st:Int)):bF (L.map (·.1)) (eV L)=L.map tgt:=by
 have a:=L_ L [] 0 (Int.le_refl _) ch ok pin;have c:=ChS.le ch;have b:=Ma (n:=n) L.reverse [] n rfl (ChS.rev ch) (by rw[List.map_reverse];exact List.pairwise_reverse.mpr ok.asc) (λs hs=>(c.2 s (List.mem_reverse.mp hs)).1) (λs hs=>pin s (List.mem_reverse.mp hs));rw[List.map_reverse,List.reverse_reverse,mI] at b;simp only[List.nil_append,List.length_nil] at a;unfold eV;rw[Ub,a.2.1,b.2.1,mI,List.map_reverse,List.reverse_reverse]
theorem ab9{D:List Rw}{x:Int}(nn:∀s∈lft D x,0<=s.2)(h:bD (lg D) x≠none)(x0:0<=x):(edR ((lft D x).map tgt):Int)=(edR D:Int)-x:=by
 cases D with
 | nil =>
  have:=gH h;show ((0:Nat):Int)=((0:Nat):Int)-x
  lia
 | cons r D =>
  have:=nn (r,(r.st:Int)-max x 0) zC;have:0<=(r.st:Int)-max x 0:=this;show ((((r.st:Int)-max x 0).toNat+r.sz:Nat):Int)=((r.st+r.sz:Nat):Int)-x
  lia
theorem YL{n:Nat}{D:List Rw}{y:Int}(h:bD (rg n D) y≠none)(y0:0<=y):(eU n ((rgt n D y).map tgt):Int)=(eU n D:Int)+y:=by
 cases D with
 | nil =>
  have:=gH h;show (n:Int)=(n:Int)+y
  lia
 | cons r D =>
  show ((((r.st:Int)+max y 0).toNat:Nat):Int)=(r.st:Int)+y
  lia
def yOf(n:Nat)(rs:List Rw)(s:Nat)(g b:Nat):Int:=max 0 ((s:Int)-eH n rs g-(b:Int))
theorem N5{n:Nat}{rs:List Rw}{s:Nat}{c:Chc}{g b:Nat}(lya:LyA rs n)(h:Dq n rs s c g b):((edR ((bF rs (eV (tgC n rs (s:Nat) g b))).take g).reverse:Nat):Int)=((edR (rs.take g).reverse:Nat):Int)-(b:Int)/\eH n (bF rs (eV (tgC n rs (s:Nat) g b))) g=(b:Int)+eH n rs g+yOf n rs s g b:=by
 have ok:=Ds lya h;obtain⟨u,v,e1,e2,_⟩:=h.ex;have hg:=h.hg;have e:=YK ok.1 (by rw[ok.2.2];exact lya.ok) ok.2.1;rw[ok.2.2] at e;have c:=ChS.le ok.1;have hl:(lft (rs.take g).reverse (b:Nat)).length=g:=by rw[Dr,List.length_reverse,oQ];lia
 have e3:(tgC n rs (s:Nat) g b).map tgt=((lft (rs.take g).reverse (b:Nat)).map tgt).reverse++(rgt n (rs.drop g) (yOf n rs s g b)).map tgt:=by unfold tgC tgs;rw[List.map_append,List.map_reverse];rfl
 have t:((tgC n rs (s:Nat) g b).map tgt).take g=((lft (rs.take g).reverse (b:Nat)).map tgt).reverse:=by
  rw[e3,List.take_append_of_le_length (by simp;lia),List.take_of_length_le (by simp;lia)]
 have d:((tgC n rs (s:Nat) g b).map tgt).drop g=(rgt n (rs.drop g) (yOf n rs s g b)).map tgt:=by
  rw[e3,List.drop_append_of_le_length (by simp;lia),List.drop_of_length_le (by simp;lia),List.nil_append]
 have nn:∀q∈lft (rs.take g).reverse (b:Nat),0<=q.2:=λq hq=>(c.2 q (by unfold tgC tgs;exact List.mem_append_left _ (List.mem_reverse.mpr hq))).1
 have l:=ab9 nn (by rw[e1];simp) (by lia);have r:=YL (n:=n) (D:=rs.drop g) (y:=yOf n rs s g b) (by show bD _ (max 0 _)≠none;rw[e2];simp) (by unfold yOf;lia);rw[e];unfold eH;rw[t,d,List.reverse_reverse,l,r];refine⟨rfl,?_⟩
 lia
def p7(b:Option Chc)(c:Chc):Option Chc:=match b with
 | none=>some c
 | some d=>if c.1<d.1 then some c else some d
theorem VD{c d:Chc}(h:c.1<d.1):p7 (some d) c=some c:=zS h
theorem VF{c d:Chc}(h:¬ c.1<d.1):p7 (some d) c=some d:=yB h
def HX(cs:List Chc):Option Chc:=cs.foldl p7 none
theorem Kh(cs:List Chc)(c:Chc):HX (cs++[c])=p7 (HX cs) c:=by unfold HX;rw[List.foldl_append];rfl
def VG(c d:Chc):Prop:=c.2.1<d.2.1\/(c.2.1=d.2.1/\c.2.2<d.2.2)
theorem N6{cs:List Chc}(asc:cs.Pairwise VG):∀j,j<cs.length->cs[d9 (cs.map chV) j]?=HX (cs.take (j+1))/\d9 (cs.map chV) j<=j
 | 0,h=>by
  obtain⟨c,t,rfl⟩:∃c t,cs=c::t:=by cases cs with|nil=>simp at h|cons c t=>exact⟨c,t,rfl⟩
  exact⟨rfl,uC _⟩
 | j+1,h=>by
  obtain⟨ih,le⟩:=N6 asc j (by lia);have e1:cs[j+1]?=some cs[j+1]:=qB h;have hb:d9 (cs.map chV) j<cs.length:=by lia
  have e2:cs[d9 (cs.map chV) j]?=some cs[d9 (cs.map chV) j]:=qB hb;have t:cs.take (j+1+1)=cs.take (j+1)++[cs[j+1]]:=by rw[gE,e1];rfl
  rw[t,Kh,<- ih,e2];have lt:=List.pairwise_iff_getElem.mp asc _ _ hb h (by lia);have q:HT.lexLt ((cs.map chV).getD (j+1) []) ((cs.map chV).getD (d9 (cs.map chV) j) [])=decide (cs[j+1].1<cs[d9 (cs.map chV) j].1):=by
   rw[oP,oP,wT,wT,e1,e2];show HT.lexLt (chV cs[j+1]) (chV cs[d9 (cs.map chV) j])=_
   generalize cs[j+1]=c at lt
   generalize cs[d9 (cs.map chV) j]=d at lt
   obtain⟨c1,c2,c3⟩:=c;obtain⟨d1,d2,d3⟩:=d;have lt:d2<c2\/(d2=c2/\d3<c3):=lt;show HT.lexLt [c1,c2,c3] [d1,d2,d3]=decide (c1<d1);rw[Bool.eq_iff_iff];simp only[HT.lexLt,decide_eq_true_eq]
   constructor
   ·intro h;grind
   ·intro h;grind
  have eb:d9 (cs.map chV) (j+1)=if HT.lexLt ((cs.map chV).getD (j+1) []) ((cs.map chV).getD (d9 (cs.map chV) j) [])=true then j+1 else d9 (cs.map chV) j:=rfl
  rw[eb,q];show _=(if _ then _ else _)/\_;by_cases hc:cs[j+1].1<cs[d9 (cs.map chV) j].1
  ·rw[zS (gX hc),zS hc];exact⟨e1,uC _⟩
  ·rw[if_neg (by simpa using hc),if_neg hc];exact⟨e2,by lia⟩
theorem Kl{cs:List Chc}(asc:cs.Pairwise VG):rC cs=HX cs:=by
 unfold rC;cases cs with
 | nil=>rfl
 | cons c t =>
  have:=(N6 asc t.length (by simp)).1;rw[List.take_of_length_le (by simp)] at this;simpa using this
theorem YM(g b:Int)(u v:Option Int):(ch2 g b u v).Pairwise VG:=by cases u <;> cases v <;> simp[ch2]
theorem YQ(g c:Int)(s:Nat)(l r:PR)(k:Nat):(chF g c s l r k).Pairwise VG:=by
 unfold chF;rw[List.pairwise_flatMap];refine⟨λb _=>YM ..,List.pairwise_lt_range.imp λ{b1 b2} hb x hx y hy=>?_⟩;obtain⟨_,_,_,_,rfl⟩:=tH hx;obtain⟨_,_,_,_,rfl⟩:=tH hy;exact .inr ⟨rfl,by show (b1:Int)<(b2:Int);lia⟩
theorem N7{g c:Int}{s:Nat}{l r:PR}{k:Nat}{x:Chc}(h:x∈chF g c s l r k):x.2.1=g:=by
 obtain⟨b,_,h⟩:=List.mem_flatMap.mp h;obtain⟨_,_,_,_,rfl⟩:=tH h
 rfl
def Km(n:Nat):Nat->List Rw->List Bool
 | e,[]=>List.replicate (n-e) true
 | e,r::t=>List.replicate (r.st-e) true++(List.replicate r.sz false++Km n (r.st+r.sz) t)
theorem Bp{n:Nat}:∀{rs:List Rw} {e:Nat} {pre:xF},pre.length=e->OkA e n rs->e<=n->rs.foldl (λfs r=>jL fs r.st r.sz false) (pre++List.replicate (n-e) true)=pre++Km n e rs
 | [],_,_,_,_,_=>rfl
 | r::t,e,pre,hl,ok,he=>by
  have hd:=ok.hd;have q:jL (pre++List.replicate (n-e) true) r.st r.sz false=(pre++List.replicate (r.st-e) true++List.replicate r.sz false)++List.replicate (n-(r.st+r.sz)) true:=by
   unfold jL;rw[List.take_append,List.drop_append,nV (by lia),List.drop_of_length_le (by lia),List.take_replicate,List.drop_replicate,hl,List.nil_append]
   congr 2
   ·congr 2
    lia
   ·lia
  rw[List.foldl_cons,q,Bp (by simp;lia) ok.tail (by lia)];simp[Km]
theorem HY{n:Nat}{rs:List Rw}(ok:OkA 0 n rs):freeOf n rs=Km n 0 rs:=by
 have:=Bp (pre:=[]) rfl ok (Nat.zero_le n);simpa[freeOf] using this
theorem xq(S:Sc):∀k:Nat,(List.replicate k true).foldl stp S=(S.1,S.2.1+k,S.2.2+k)
 | 0=>rfl
 | k+1=>by
  rw[List.replicate_succ,List.foldl_cons,xq _ k];show (S.1,S.2.1+1+k,S.2.2+1+k)=_;rw[show S.2.1+1+k=S.2.1+(k+1) by lia,show S.2.2+1+k=S.2.2+(k+1) by lia]
theorem nQ(hs:xD):∀(k p:Nat),(List.replicate k false).foldl stp (hs,0,p)=(hs,0,p+k)
 | 0,_=>rfl
 | k+1,p=>by
  rw[List.replicate_succ,List.foldl_cons];show (List.replicate k false).foldl stp (hs,0,p+1)=_;rw[nQ hs k,show p+1+k=p+(k+1) by lia]
theorem QB(hs:xD)(z p k:Nat):(List.replicate (k+1) false).foldl stp (hs,z,p)=(if 0<z then hs++[(p-z,z)] else hs,0,p+(k+1)):=by
 rw[List.replicate_succ,List.foldl_cons];by_cases h:0<z
 ·have:stp (hs,z,p) false=(hs++[(p-z,z)],0,p+1):=by show (if _ then _ else _)=_;rw[if_neg (by simp),if_pos h]
  rw[this,nQ,zS h,show p+1+k=p+(k+1) by lia]
 ·have:stp (hs,z,p) false=(hs,0,p+1):=by show (if _ then _ else _)=_;rw[if_neg (by simp),if_neg h]
  rw[this,nQ,yB h,show p+1+k=p+(k+1) by lia]
def aiH(S:Sc):List (Nat×Nat):=if 0<S.2.1 then S.1++[(S.2.2-S.2.1,S.2.1)] else S.1
theorem Bq(a b:xD):dR (a++b)=dR a++dR b:=List.map_append
theorem xr{n:Nat}:∀{rs:List Rw} {e p:Nat} {hs:xD},OkA e n rs->e<=n->dR (aiH ((Km n e rs).foldl stp (hs,0,p)))=dR hs++(mC n e rs).filter λg=>decide (0<g)
 | [],e,p,hs,_,he=>by
  rw[Km,xq];show dR (if 0<0+(n-e) then hs++[_] else hs)=dR hs++[((n:Int)-(e:Int))].filter _;by_cases h:0<0+(n-e)
  ·rw[if_pos h,Bq,List.filter_cons_of_pos (by simp;lia)];show dR hs++[((0+(n-e):Nat):Int)]=_
   congr 2
   lia
  ·rw[if_neg h,List.filter_cons_of_neg (by simp;lia)];simp
 | r::t,e,p,hs,ok,he=>by
  have hd:=ok.hd;obtain⟨k,hk⟩:∃k,r.sz=k+1:=⟨r.sz-1,by lia⟩;rw[Km,List.foldl_append,xq,List.foldl_append,hk,QB,<- hk];rw[xr ok.tail hd.2.2];show dR (if 0<0+(r.st-e) then hs++[_] else hs)++_=dR hs++(((r.st:Int)-(e:Int))::mC n (r.st+r.sz) t).filter _;by_cases h:0<0+(r.st-e)
  ·rw[if_pos h,Bq,List.filter_cons_of_pos (by simp;lia),List.append_assoc];show dR hs++([((0+(r.st-e):Nat):Int)]++_)=_
   congr 1
   show _::_=_::_
   congr 1
   lia
  ·rw[if_neg h,List.filter_cons_of_neg (by simp;lia)]
theorem Ko{n:Nat}{rs:List Rw}(ok:OkA 0 n rs):dR (dY (freeOf n rs))=(aP n rs).filter λg=>decide (0<g):=by
 rw[HY ok,wR];exact(xr (hs:=[]) ok (Nat.zero_le n)).trans (List.nil_append _)
theorem max_eq{a b:List Int}(h1:∀x∈a,0<x->x∈b)(h2:∀x∈b,0<x->x∈a):gK 0 a=gK 0 b:=by
 have ga:=sY a 0;have gb:=sY b 0;have ma:=oU a 0;have mb:=oU b 0
 apply Int.le_antisymm
 ·rcases ma with ma|ma
  ·lia
  ·rcases Int.lt_or_le 0 (gK 0 a) with p|p
   ·exact gb.2 _ (h1 _ ma p)
   ·lia
 ·rcases mb with mb|mb
  ·lia
  ·rcases Int.lt_or_le 0 (gK 0 b) with p|p
   ·exact ga.2 _ (h2 _ mb p)
   ·lia
def nR(n:Nat)(rs:List Rw):Int:=gK 0 (aP n rs)
theorem QC{n:Nat}{rs:List Rw}(ok:OkA 0 n rs):gK 0 (dR (dY (freeOf n rs)))=nR n rs:=by
 rw[Ko ok];exact max_eq (λx hx _=>(List.mem_filter.mp hx).1) λx hx p=>List.mem_filter.mpr ⟨hx,gX p⟩
theorem ab_{n:Nat}{rs:List Rw}{s:Int}(s1:0<s)(h:s<=nR n rs):∃g,g<=rs.length/\s<=eH n rs g:=by
 rcases oU (aP n rs) 0 with z|m
 ·unfold nR at h
  lia
 ·obtain⟨g,hg,e⟩:=List.getElem_of_mem m;have hg2:g<=rs.length:=by rw[eF] at hg;lia
  have e2:=lK (n:=n) hg2;rw[qB hg,e] at e2;exact⟨g,hg2,by rw[<- nI e2];exact h⟩
theorem acd{n g:Nat}{rs:List Rw}(hg:g<=rs.length):eH n rs g<=nR n rs:=(sY (aP n rs) 0).2 _ (yY (lK hg))
inductive Rel:List Rw->List Rw->Prop
 | nil:Rel [] []
 | cons {r:Rw} {s:Nat} {a b:List Rw} (h:0<r.pn->s=r.st) (t:Rel a b):Rel (r::a) (fQ r s::b)
theorem Rel.refl:∀rs:List Rw,Rel rs rs
 | []=>.nil
 | r::rs=>.cons (r:=r) (s:=r.st) (λ_=>rfl) (Rel.refl rs)
theorem Rel.put{to:Nat}:∀{a b:List Rw} {k:Nat} {r:Rw},Rel a b->b[k]?=some r->r.pn=0->Rel a (mvT b k to)
 | _,_,_,_,.nil,h,_=>by simp at h
 | _,_,0,_,.cons (r:=r) (s:=s) h t,e,p=>by
  cases e;exact Rel.cons (r:=r) (s:=to) (λz=>by have p:r.pn=0:=p;lia) t
 | _,_,k+1,_,.cons (r:=r) (s:=s) h t,e,p=>Rel.cons h (Rel.put t (by simpa using e) p)
theorem Rel.walk{n:Nat}{rs:List Rw}:∀{w:List Mv} {T:List Rw},Rel rs T->WOk n T w->Rel rs (bF T w)
 | [],_,h,_=>h
 | m::w,T,h,ok=>by
  obtain⟨⟨r,h1,_,h3,_⟩,ok2⟩:=ok;exact Rel.walk (w:=w) (h.put h1 h3) ok2
theorem Rel.take{k:Nat}:∀{a b:List Rw},Rel a b->Rel (a.take k) (b.take k):=by
 induction k with
 | zero=>intro a b _;rw[List.take_zero,List.take_zero];exact .nil
 | succ k ih =>
  intro a b h;cases h with
  | nil=>exact .nil
  | cons h t=>exact .cons h (ih t)
theorem Rel.drop{k:Nat}:∀{a b:List Rw},Rel a b->Rel (a.drop k) (b.drop k):=by
 induction k with
 | zero=>intro a b h;exact h
 | succ k ih =>
  intro a b h;cases h with
  | nil=>exact .nil
  | cons h t=>exact ih t
theorem Rel.snoc{r:Rw}{s:Nat}(h:0<r.pn->s=r.st):∀{a b:List Rw},Rel a b->Rel (a++[r]) (b++[fQ r s])
 | _,_,.nil=>.cons h .nil
 | _,_,.cons g t=>.cons g (Rel.snoc h t)
theorem Rel.rev:∀{a b:List Rw},Rel a b->Rel a.reverse b.reverse
 | _,_,.nil=>.nil
 | _,_,.cons h t=>by
  rw[List.reverse_cons,List.reverse_cons];exact Rel.snoc h (Rel.rev t)
theorem Rel.len:∀{a b:List Rw},Rel a b->b.length=a.length
 | _,_,.nil=>rfl
 | _,_,.cons _ t=>gI (· + 1) t.len
def chg:List Rw->List Rw->Nat
 | r::a,t::b=>(if r.st=t.st then 0 else r.sz)+chg a b
 | _,_=>0
theorem Du:∀{a b:List Rw} (c d:List Rw),Rel a b->chg (a++c) (b++d)=chg a b+chg c d
 | _,_,c,d,.nil=>(Nat.zero_add _).symm
 | _,_,c,d,.cons (r:=r) (s:=s) _ t=>by
  show _+chg (_++c) (_++d)=_+chg _ _+chg c d;rw[Du c d t,Nat.add_assoc]
theorem N8:∀{a b:List Rw},Rel a b->chg a.reverse b.reverse=chg a b
 | _,_,.nil=>rfl
 | _,_,.cons (r:=r) (s:=s) h t=>by
  rw[List.reverse_cons,List.reverse_cons,Du _ _ t.rev,N8 t];show _+((if r.st=s then 0 else r.sz)+0)=(if r.st=s then 0 else r.sz)+_
  lia
theorem Ia:∀a:List Rw,chg a a=0
 | []=>rfl
 | r::a=>by show (if r.st=r.st then 0 else r.sz)+chg a a=0;rw[zS rfl,Ia a]
theorem N_{to:Nat}:∀{a b:List Rw} {k:Nat} {r t:Rw},Rel a b->a[k]?=some r->b[k]?=some t->t.st=to->chg a b=(if to=r.st then 0 else r.sz)+chg (mvT a k to) b
 | _,_,_,_,_,.nil,h,_,_=>by simp at h
 | _,_,0,_,_,.cons (r:=r) (s:=s) h t,e1,e2,q=>by
  have e1:=nI (show some r=_ from e1);subst e1;have e2:=nI (show some (fQ r s)=_ from e2);subst e2;have q:s=to:=q;subst q;show (if r.st=s then 0 else r.sz)+_=(if s=r.st then 0 else r.sz)+((if s=s then 0 else r.sz)+_);rw[zS rfl,Nat.zero_add]
  congr 1
  by_cases z:r.st=s
  ·rw[zS z,zS z.symm]
  ·rw[yB z,yB λy=>z y.symm]
 | _,_,k+1,_,_,.cons (r:=r) (s:=s) h t,e1,e2,q=>by
  have i:=N_ t (by simpa using e1) (by simpa using e2) q;show _+chg _ _=_+(_+chg (mvT _ k to) _);rw[i]
  lia
theorem ace{T:List Rw}{k j to:Nat}(h:j≠k):(mvT T k to)[j]?=T[j]?:=by
 unfold mvT;rw[List.getElem?_modify];cases T[j]? with
 | none=>rfl
 | some a =>
  show some (if k=j then _ else a)=some a;rw[yB λz=>h z.symm]
theorem VH{T:List Rw}{k to:Nat}{r:Rw}(h:T[k]?=some r):(mvT T k to)[k]?=some (fQ r to):=by
 unfold mvT;rw[List.getElem?_modify,h];show some (if k=k then _ else _)=_;rw[zS rfl]
theorem Br{n k:Nat}{r:Rw}:∀{w:List Mv} {T:List Rw},LyA T n->WOk n T w->T[k]?=some r->r.nm ∉ w.map (·.2.1)->(bF T w)[k]?=some r
 | [],_,_,_,h,_=>h
 | m::w,T,ly,ok,h,nn=>by
  obtain⟨⟨r2,h1,h2,h3,h4,h5⟩,ok2⟩:=ok;rw[oS,vT,not_or] at nn;have ne:k≠m.1:=λz=>by
   subst z;rw[h] at h1;cases h1;exact nn.1 h2
  exact Br (w:=w) (fO ly ⟨h1,h3,h4,h5⟩) ok2 (by rw[ace ne];exact h) nn.2
theorem rE{n:Nat}:∀{w:List Mv} {T:List Rw},LyA T n->WOk n T w->(w.map (·.2.1)).Nodup->cJ T w=chg T (bF T w)
 | [],T,_,_,_=>(Ia T).symm
 | m::w,T,ly,ok,nd=>by
  obtain⟨⟨r,h1,h2,h3,h4,h5⟩,ok2⟩:=ok;rw[oS,List.nodup_cons] at nd;have ly2:=fO ly ⟨h1,h3,h4,h5⟩;have here:=VH (to:=m.2.2) h1;have kp:=Br ly2 ok2 here (by rw[show (fQ r m.2.2).nm=m.2.1 from h2];exact nd.1);have rl:Rel T (bF (mvT T m.1 m.2.2) w):=Rel.walk ((Rel.refl T).put h1 h3) ok2;show wPr T m+cJ (mvT T m.1 m.2.2) w=chg T (bF (mvT T m.1 m.2.2) w);rw[rE ly2 ok2 nd.2,N_ rl h1 kp rfl]
  congr 1
  unfold wPr;rw[h1]
  rfl
theorem Bs{b:Nat}:∀{D D':List Rw},Rel D D'->OkD b D'->∀x:Int,x<=(edR D:Int)-(edR D':Int)->∃u:Int,bD (lg D) x=some u/\u<=(chg D D':Int)
 | _,_,.nil,_,x,h=>⟨0,dJ (by show x<=0;have h:x<=((0:Nat):Int)-((0:Nat):Int):=h;lia),by simp[chg]⟩
 | _,_,.cons (r:=r) (s:=s) (a:=D) (b:=D') hp t,ok,x,h=>by
  have h:x<=((r.st+r.sz:Nat):Int)-((s+r.sz:Nat):Int):=h;by_cases hx:x<=0
  ·exact⟨0,dJ hx,by lia⟩
  ·have el:=Fl ok;have el:edR D'<=s:=el;obtain⟨u,hu,lu⟩:=Bs t ok.tail (x-((r.st:Int)-(edR D:Int))) (by lia);have p0:¬ 0<r.pn:=λz=>by have:=hp z;lia
   refine⟨(r.sz:Int)+u,?_,?_⟩
   ·show bD ((r,(r.st:Int)-(edR D:Int))::lg D) x=_;unfold bD;rw[yB hx,yB p0,hu]
    rfl
   ·show (r.sz:Int)+u<=(((if r.st=s then 0 else r.sz)+chg D D':Nat):Int);rw[yB (by lia)]
    lia
theorem xu{n lo:Nat}:∀{D D':List Rw},Rel D D'->OkA lo n D'->∀y:Int,y<=(eU n D':Int)-(eU n D:Int)->∃u:Int,bD (rg n D) y=some u/\u<=(chg D D':Int)
 | _,_,.nil,_,y,h=>⟨0,dJ (by show y<=0;have h:y<=(n:Int)-(n:Int):=h;lia),by simp[chg]⟩
 | _,_,.cons (r:=r) (s:=s) (a:=D) (b:=D') hp t,ok,y,h=>by
  have h:y<=(s:Int)-(r.st:Int):=h;by_cases hy:y<=0
  ·exact⟨0,dJ hy,by lia⟩
  ·have bg:=uT ok;have bg:s+r.sz<=eU n D':=bg;obtain⟨u,hu,lu⟩:=xu t ok.tail (y-((eU n D:Int)-((r.st:Int)+(r.sz:Int)))) (by lia);have p0:¬ 0<r.pn:=λz=>by have:=hp z;lia
   refine⟨(r.sz:Int)+u,?_,?_⟩
   ·show bD ((r,(eU n D:Int)-((r.st:Int)+(r.sz:Int)))::rg n D) y=_;unfold bD;rw[yB hy,yB p0,hu]
    rfl
   ·show (r.sz:Int)+u<=(((if r.st=s then 0 else r.sz)+chg D D':Nat):Int);rw[yB (by lia)]
    lia
theorem Oa:∀{cs:List Chc} {b:Option Chc},(∀c d,b=some c->d∈cs->∃x,cs.foldl p7 b=some x/\x.1<=c.1/\x.1<=d.1)/\(∀d,d∈cs->∃x,cs.foldl p7 b=some x/\x.1<=d.1)/\(∀c,b=some c->∃x,cs.foldl p7 b=some x/\x.1<=c.1)
 | [],b=>⟨λc d _ h=>(by cases h),λd h=>(by cases h),λc h=>⟨c,h,Int.le_refl _⟩⟩
 | a::cs,b=>by
  have i:=Oa (cs:=cs) (b:=p7 b a);have key:∃y,p7 b a=some y/\y.1<=a.1/\∀c,b=some c->y.1<=c.1:=by
   cases b with
   | none=>exact⟨a,rfl,Int.le_refl _,λc h=>by cases h⟩
   | some d =>
    by_cases h:a.1<d.1
    ·exact⟨a,VD h,Int.le_refl _,λc e=>by cases e;lia⟩
    ·exact⟨d,VF h,by lia,λc e=>by cases e;exact Int.le_refl _⟩
  obtain⟨y,ey,ya,yc⟩:=key;obtain⟨x,ex,xy⟩:=i.2.2 y ey;refine⟨λc d hb hd=>?_,λd hd=>?_,λc hb=>⟨x,ex,by have:=yc c hb;lia⟩⟩
  ·rcases vT.mp hd with rfl|hd
   ·exact⟨x,ex,by have:=yc c hb;lia,by lia⟩
   ·obtain⟨x2,e2,l1,l2⟩:=i.1 y d ey hd;exact⟨x2,e2,by have:=yc c hb;lia,l2⟩
  ·rcases vT.mp hd with rfl|hd
   ·exact⟨x,ex,by lia⟩
   ·obtain⟨x2,e2,l1,l2⟩:=i.1 y d ey hd;exact⟨x2,e2,l2⟩
theorem VJ(n:Nat)(rs:List Rw)(s k:Nat):(gD n rs s k).Pairwise VG:=by
 unfold gD;rw[List.pairwise_flatMap];refine⟨λg _=>YQ ..,List.pairwise_lt_range.imp λ{g1 g2} hb x hx y hy=>.inl ?_⟩;rw[N7 hx,N7 hy]
 lia
theorem acf{n:Nat}{rs:List Rw}{s:Nat}{d:Chc}{g b:Nat}(lya:LyA rs n)(hs:s<=n)(h:Dq n rs s d g b):∃c,lcF n rs (s:Int)=some c/\c.1<=d.1:=by
 have m:=(Hx lya d).mpr ⟨g,b,h⟩;unfold lcF;rw[yB (by lia),show ((s:Int)).toNat=s by lia,Kl (VJ ..)];exact(Oa (cs:=gD n rs s (rs.length+1)) (b:=none)).2.1 d m
theorem VL{n:Nat}{rs:List Rw}{s:Nat}{w:List Mv}(lya:LyA rs n)(s1:1<=s)(ok:WOk n rs w)(nd:(w.map (·.2.1)).Nodup)(h:(s:Int)<=nR n (bF rs w)):∃c,lcF n rs (s:Int)=some c/\c.1<=(cJ rs w:Int):=by
 rw[rE lya ok nd];have lyT:=lM lya ok;have rl:Rel rs (bF rs w):=Rel.walk (Rel.refl rs) ok
 generalize bF rs w=T at *
 obtain⟨g,hg,gs⟩:=ab_ (by lia) h;have hg2:g<=rs.length:=by rw[<- lyT.2];exact hg
 have rL:=rl.take (k:=g) |>.rev;have rR:=rl.drop (k:=g);have cT:chg rs T=chg (rs.take g).reverse (T.take g).reverse+chg (rs.drop g) (T.drop g):=by
  have:=Du (rs.drop g) (T.drop g) (rl.take (k:=g));rw[jS,jS] at this;rw[this,N8 (rl.take (k:=g))]
 have oL:=pY lyT.1.ok g;have oR:=pZ lyT.1.ok g;have gT:eH n T g<=n:=by
  unfold eH;have:eU n (T.drop g)<=n:=by
   cases e:T.drop g with
   | nil=>exact uC _
   | cons r D =>
    have:=(lyT.1.l.good r (List.mem_of_mem_drop (by rw[e];exact zC))).le;show r.st<=n
    lia
  lia
 have g0:=jQ lya.l lya.a _ (yY (lK (n:=n) hg2));have eG:eH n T g=eH n rs g+(((edR (rs.take g).reverse:Nat):Int)-((edR (T.take g).reverse:Nat):Int))+(((eU n (T.drop g):Nat):Int)-((eU n (rs.drop g):Nat):Int)):=by unfold eH;lia
 obtain⟨b,hb⟩:∃b:Nat,(b:Int)=min (s:Int) (max 0 (((edR (rs.take g).reverse:Nat):Int)-((edR (T.take g).reverse:Nat):Int))):=⟨(min (s:Int) (max 0 (((edR (rs.take g).reverse:Nat):Int)-((edR (T.take g).reverse:Nat):Int)))).toNat,by lia⟩;obtain⟨u,hu,lu⟩:∃u,bD (lg (rs.take g).reverse) (b:Nat)=some u/\u<=(chg (rs.take g).reverse (T.take g).reverse:Int):=by
  by_cases z:(b:Int)<=0
  ·exact⟨0,dJ z,by lia⟩
  ·exact Bs rL oL _ (by lia)
 obtain⟨v,hv,lv⟩:∃v,bD (rg n (rs.drop g)) (max 0 ((s:Int)-eH n rs g-(b:Int)))=some v/\v<=(chg (rs.drop g) (T.drop g):Int):=by
  by_cases z:max 0 ((s:Int)-eH n rs g-(b:Int))<=0
  ·exact⟨0,dJ z,by lia⟩
  ·exact xu rR oR _ (by lia)
 obtain⟨c,hc,le⟩:=acf (d:=(u+v,(g:Int),(b:Int))) (g:=g) (b:=b) lya (by lia) ⟨rfl,rfl,hg2,by lia,u,v,hu,hv,rfl⟩;exact⟨c,hc,by have le:c.1<=u+v:=le;rw[cT];lia⟩
theorem xG{b:Nat}:∀{D:List Rw} {x u:Int},OkD b D->bD (lg D) x=some u->u=(szN (ml (lft D x)):Int)
 | [],x,u,_,h=>by
  have:x<=0:=gH (by rw[show bD [] x=some u from h];simp);rw[show bD (lg []) x=some 0 from dJ this] at h;rw[<- nI h]
  rfl
 | r::D,x,u,ok,h=>by
  by_cases hx:x<=0
  ·rw[dJ hx] at h;rw[uU _ _ _ ok hx,<- nI h]
   rfl
  ·have h:bD ((r,(r.st:Int)-(edR D:Int))::lg D) x=some u:=h;unfold bD at h;rw[yB hx] at h;split at h
   ·cases h
   ·cases e:bD (lg D) (x-((r.st:Int)-(edR D:Int))) with
    | none=>rw[e] at h;cases h
    | some v =>
     rw[e] at h;have i:=xG ok.tail e;rw[Fq (by lia),<- nI h,i];show _=((r.sz+szN _:Nat):Int);rw[Int.natCast_add]
theorem xH{n lo:Nat}:∀{D:List Rw} {y u:Int},OkA lo n D->bD (rg n D) y=some u->u=(szN (mr (rgt n D y)):Int)
 | [],y,u,_,h=>by
  have:y<=0:=gH (by rw[show bD [] y=some u from h];simp);rw[show bD (rg n []) y=some 0 from dJ this] at h;rw[<- nI h]
  rfl
 | r::D,y,u,ok,h=>by
  by_cases hy:y<=0
  ·rw[dJ hy] at h;rw[uV _ _ _ ok hy,<- nI h]
   rfl
  ·have h:bD ((r,(eU n D:Int)-((r.st:Int)+(r.sz:Int)))::rg n D) y=some u:=h;unfold bD at h;rw[yB hy] at h;split at h
   ·cases h
   ·cases e:bD (rg n D) (y-((eU n D:Int)-((r.st:Int)+(r.sz:Int)))) with
    | none=>rw[e] at h;cases h
    | some v =>
     rw[e] at h;have i:=xH ok.tail e;rw[Ft (by lia),<- nI h,i];show _=((r.sz+szN _:Nat):Int);rw[Int.natCast_add]
theorem tK(L:List Sp2):szN L.reverse=szN L:=by unfold szN;rw[List.map_reverse,List.sum_reverse]
theorem Ob(a b:List Sp2):szN (a++b)=szN a+szN b:=by unfold szN;rw[List.map_append,List.sum_append]
theorem Kq{n:Nat}{rs:List Rw}{s:Nat}{c:Chc}{g b:Nat}(lya:LyA rs n)(h:Dq n rs s c g b):c.1=(cJ rs (eV (tgC n rs (s:Nat) g b)):Int)/\(s:Int)<=nR n (bF rs (eV (tgC n rs (s:Nat) g b))):=by
 have ok:=Ds lya h;obtain⟨u,v,e1,e2,e3⟩:=h.ex;have hg:=h.hg
 constructor
 ·have w:=Fg ok.1 (by rw[ok.2.2];exact lya.ok) ok.2.1;rw[ok.2.2] at w;have o:=gI szN (Mq n g (b:Nat) (max 0 ((s:Int)-eH n rs g-(b:Int))) rs);rw[Ob,tK,tK] at o;have o2:szN (kO (tgC n rs (s:Nat) g b))=szN (ml (tgC n rs (s:Nat) g b))+szN (mr (tgC n rs (s:Nat) g b)):=by
   unfold kO;rw[Ob,tK]
  have o3:szN (mr (tgC n rs (s:Nat) g b).reverse)=szN (mr (tgC n rs (s:Nat) g b)):=by unfold mr;rw[List.filter_reverse,tK]
  have l:=xG (pY lya.ok g) e1;have r:=xH (pZ lya.ok g) e2;rw[w.2,o3,<- o2,e3,l,r,<- Int.natCast_add];exact gI Int.ofNat o.symm
 ·have hi:=(N5 lya h).2;have lyT:=lM lya (Kc lya ok.2.2 ok.1 ok.2.1).ok;have:=acd (n:=n) (g:=g) (rs:=bF rs (eV (tgC n rs (s:Nat) g b))) (by rw[lyT.2];exact hg);rw[hi] at this;unfold yOf at this
  lia
open M22 M82 M87 M75
theorem QD{fs:xF}:(dY fs).length<=fs.length:=by
 have h:=T9 fs;have h2:fs.count true<=fs.length:=List.count_le_length;have h3:∀ws:List (Nat×Nat),(∀w∈ws,1<=w.2)->ws.length<=(ws.map (·.2)).sum:=by
  intro ws
  induction ws with
  | nil=>intro _;exact uC _
  | cons w t ih =>
   intro hw;have:=hw w zC;have:=ih λz hz=>hw z (zD _ hz)
   simp only[List.length_cons,List.map_cons,List.sum_cons]
   lia
 have:=h3 (dY fs) λw hw=>(X_ hw).1
 lia
theorem Oc{R:XK}{v:Value}{d:Addr}{H':Hp}{fs:List (Str×V)}(hd:H' d=some (jh d fs))(k:∀d2 H2,Same H' H2->H2 d2=some (jh d2 fs)->R v (some d2) H2):R v (some d) H':=k d H' (Same.refl _) hd
def QF(K:W.Frag)(CL P:Addr)(pos:Pos)(qual:Str):Sp:=λvs H Q _=>∃(x p dx:Addr)(n:Nat)(zs:List V)(rs:List Rw)(u:V),vs=[.ref x,u]/\LyH CL H x p dx n zs rs/\LyA rs n/\((J7 K H u/\∀H',Same H H'->Q .non H')\/∃m ws ms ps,u=.ref m/\H m=some (.lst ws)/\aD H ws (dG ms)/\(∀m∈ms,okP m.2=true)/\ms.length<=41/\H P=some (.tbl ps)/\TabOk pos qual ps H /\
 ((cP n rs [] ms=none/\∀H' ps',Kp P H H'->H' P=some (.tbl ps')->TabOk pos qual ps' H'->Q .non H')\/∃w,cP n rs [] ms=some w/\∀(t s y dy q:Addr)(ss ys:List V)(ps':xI)(H':Hp),SH H [P] H' [(s,.lst ss),(P,.tbl ps')] [.tup t [.ref s,.ref y],.tps ss (fU rs w),eZ pos qual ps']->LyH CL H' y q dy n ys (bF rs w)->Q (.ref t) H'))
def dH(n:Nat)(rs:List Rw)(s:Nat)(ms:List MvX):Option Int:=match cP n rs [] ms with
 | none=>none
 | some w=>if nR n (bF rs w)<(s:Int) then none else some (cJ rs w:Nat)
def Kr(K:W.Frag)(CL P:Addr)(pos:Pos)(qual:Str):Sp:=λvs H Q _=>∃(x p dx:Addr)(n:Nat)(zs:List V)(rs:List Rw)(s:Nat)(u:V),vs=[.ref x,.int (s:Nat),u]/\LyH CL H x p dx n zs rs/\LyA rs n/\1<=s/\((J7 K H u/\∀H',Same H H'->Q .non H')\/∃m ws ms ps,u=.ref m/\H m=some (.lst ws)/\aD H ws (dG ms)/\(∀m∈ms,okP m.2=true)/\ms.length<=41/\H P=some (.tbl ps)/\TabOk pos qual ps H/\∀H' ps',Kp P H H'->H' P=some (.tbl ps')->TabOk pos qual ps' H'->Q (pV (dH n rs s ms)) H')
theorem J7.same{K:W.Frag}{H H':Hp}{u:V}(h:J7 K H u)(s:Same H H'):J7 K H' u:=by
 rcases h with⟨n1,ty,nl⟩|⟨q,e,rfl,hq,bp⟩
 ·exact .inl ⟨n1,ty.kept λa u _ e=>s a u e,nl⟩
 ·exact .inr ⟨q,e,rfl,s _ _ hq,bp.same s⟩
def st4:List Rw->List Mv->List Sp4
 | _,[]=>[]
 | T,m::ms=>(match T[m.1]? with
  | some r=>(tx r.nm,(r.st:Int),r.sz,(m.2.2:Int))
  | none=>(Str.empty,0,0,0))::st4 (mvT T m.1 m.2.2) ms
theorem Ib{n:Nat}:∀{w:List Mv} {T:List Rw},WOk n T w->Vx (st4 T w)=fU T w/\jV (st4 T w)=cJ T w/\(st4 T w).length=w.length
 | [],_,_=>⟨rfl,rfl,rfl⟩
 | m::w,T,ok=>by
  obtain⟨⟨r,h1,h2,h3,h4,h5⟩,ok2⟩:=ok;have i:=Ib ok2;have e:st4 T (m::w)=(tx r.nm,(r.st:Int),r.sz,(m.2.2:Int))::st4 (mvT T m.1 m.2.2) w:=by
   show _::_=_;rw[h1]
  rw[e];refine⟨?_,?_,?_⟩
  ·unfold fU;rw[h1,<- i.1]
   rfl
  ·show (if (r.st:Int)=((m.2.2:Nat):Int) then 0 else r.sz)+jV _=wPr T m+_;rw[i.2.1];unfold wPr;rw[h1]
   congr 1
   by_cases z:m.2.2=r.st
   ·rw[zS (by lia)];exact(zS z).symm
   ·rw[yB (by lia)];exact(yB z).symm
  ·rw[mS,mS,i.2.2]
theorem VN{n:Nat}:∀{w:List Mv} {T:List Rw},LyA T n->WOk n T w->∀s∈st4 T w,s.2.2.1<=240
 | [],_,_,_=>λ_ h=>by cases h
 | m::w,T,ly,ok=>λs hs=>by
  obtain⟨⟨r,h1,h2,h3,h4,h5⟩,ok2⟩:=ok;have e:st4 T (m::w)=(tx r.nm,(r.st:Int),r.sz,(m.2.2:Int))::st4 (mvT T m.1 m.2.2) w:=by
   show _::_=_;rw[h1]
  rw[e] at hs;rcases vT.mp hs with rfl|hs
  ·have:=(ly.l.good r (yY h1)).le;have:=ly.h;show r.sz<=240
   lia
  ·exact VN (fO ly ⟨h1,h3,h4,h5⟩) ok2 s hs
theorem qd{n:Nat}:∀{ms:List MvX} {T:List Rw} {dn:List (List Nat)} {w:List Mv},LyA T n->cP n T dn ms=some w->WOk n T w/\(w.map (·.2.1))=ms.map (·.1)/\(w.map (·.2.1)).Nodup/\∀m∈w,m.2.1 ∉ dn
 | [],_,_,_,_,h=>by
  cases h;exact⟨trivial,rfl,List.nodup_nil,λ_ h=>by cases h⟩
 | m::ms,T,dn,w,ly,h=>by
  cases es:fM n T dn m.1 m.2 with
  | none=>rw[wM es] at h;cases h
  | some s =>
   rw[nM es] at h;obtain⟨r,sl,rn,sn,nd,_⟩:=rB ly.l es;cases e2:cP n (mvT T s.1 s.2.2) (dn++[m.1]) ms with
   | none=>rw[e2] at h;cases h
   | some w2 =>
    rw[e2] at h;obtain rfl:=(nI h).symm;obtain⟨i1,i2,i3,i4⟩:=qd (fO ly sl) e2;refine⟨⟨⟨r,sl.at_,rn.trans sn.symm,sl.pn,sl.lo,sl.hi⟩,i1⟩,by rw[oS,oS,i2,sn],?_,λa ha=>?_⟩
    ·rw[oS,List.nodup_cons];refine⟨λz=>?_,i3⟩;obtain⟨a,ha,ea⟩:=jI.mp z;exact i4 a ha (by rw[ea,sn];simp)
    ·rcases vT.mp ha with rfl|ha
     ·rw[sn];exact nd
     ·exact λz=>i4 a ha (mE _ z)
section
variable{P:Program}{w:World}{K:W.Frag}{mg:xC}{base:Heap}{c:Nat->Addr}{aC ao R CL CP CS:Addr}
theorem VP(T:Txt K mg c R CL CP CS aC ao)(B:Bm mg base):Def P w K mg base CX0 10 "gone_through_if_let" ["layout","moves"] (QF K CL ao bV bG):=by
 refine dA T.Gw zN λf cdv A outer s H vs Q E hr h=>?_
 obtain⟨x,p,dx,n,zs,rs,u,rfl,ly,lya,kk⟩:=h;have nd:=zN.nd;refine⟨_,(aB (aap (λpins EX=>(aB (aL (Xm (Vi T B) hr (aj (pv 0) (aj (pv 1) ak)))))) (adw T.g_R (λa=>(aB (aL cZ))) aao))),?_⟩;clear nd;rw[stE]
 try dsimp only[bT,bC]
 have F:=SH.n0 H
 repeat k_meth
 refine⟨x,p,dx,n,zs,rs,u,rfl,ly,lya,?_⟩;rcases kk with⟨od,k⟩|⟨m,ws,ms,ps,rfl,hm,tm,oks,m41,hP,tk,kk⟩
 ·refine .inl ⟨od,λC fs d H5 xm s5 e5=>?_⟩;refine Oc e5 ?_;replace F:=F.same s5
  repeat k_meth
  exact k _ F.sm
 ·refine .inr ⟨m,ws,ms,ps,rfl,hm,tm,oks,m41,hP,tk,?_⟩;rcases kk with⟨wn,k⟩|⟨w,we,k⟩
  ·refine .inl ⟨wn,λC fs d H5 ps5 xm kp5 hP5 tk5 e5=>?_⟩;refine Oc e5 ?_;clear F;have F:=SH.n0 H5
   repeat k_meth
   have s6:=F.sm;exact k _ ps5 (λb u nb e=>s6 _ _ (kp5 b u nb e)) (s6 _ _ hP5) (TabOk.st _ _ (λa o _ e=>s6 a o e) tk5)
  ·refine .inr ⟨w,we,λt s y dy q ss ys ps' H' G ly2=>?_⟩;clear F
   repeat k_meth
   exact k t s y dy q ss ys ps' H' G ly2
theorem Bt(T:Txt K mg c R CL CP CS aC ao)(B:Bm mg base):Def P w K mg base CX0 11 "price_of" ["layout","size","moves"] (Kr K CL ao bV bG):=by
 refine dA T.Ad vM λf cdv A outer s H vs Q E hr h=>?_
 obtain⟨x,p,dx,n,zs,rs,s,u,rfl,ly,lya,s1,kk⟩:=h;have nd:=vM.nd;refine⟨_,(aq (cg (aG (Ny T) hr (aj (pv 1) ak)))
  (aq (psz 3 nd (aG (VP T B) hr (aj (pv 0) (aj (pv 2) ak))))
  (aq (bK (PW.pt (jR (aU sV (pv 3) cZ (aY _)) (iU (aU nZ (aG (Qx T) hr (aj (aG (Qy T) hr (aj (aH aZ (pv 3) au (λ_ _=>rfl)) ak)) ak)) (pv 1) (aY _))))) (aB (aL cZ)) bf)
  (aB (aL (aR bN rfl T.eE boot_len (aj (aG (Qz T) hr (aj (aH aZ (pv 3) au (λ_ _=>rfl)) ak)) ak))))))),?_⟩
 clear nd;rw[stE]
 try dsimp only[bT,bC]
 have F:=SH.n0 H;have s11:(1:Int)<=(s:Int):=by lia
 repeat k_meth
 have s0:=F.sm;clear F;refine⟨x,p,dx,n,zs,rs,u,rfl,ly.same s0,lya,?_⟩;rcases kk with⟨od,k⟩|⟨m,ws,ms,ps,rfl,hm,tm,oks,m41,hP,tk,kk⟩
 ·refine .inl ⟨od.same s0,λH5 s5=>?_⟩;have F:SH H [] H5 [] []:=SH.nil.same (s0.trans s5)
  repeat k_meth
  exact k _ F.sm
 ·refine .inr ⟨m,ws,ms,ps,rfl,s0 _ _ hm,tm.same s0,oks,m41,s0 _ _ hP,TabOk.st _ _ (λa o _ e=>s0 a o e) tk,?_⟩;cases e:cP n rs [] ms with
  | none =>
   refine .inl ⟨rfl,λH5 ps5 kp5 hP5 tk5=>?_⟩;have F:=SH.n0 H5
   repeat k_meth
   have s6:=F.sm;have pf:dH n rs s ms=none:=by unfold dH;rw[e]
   rw[pf] at kk;exact kk _ ps5 (λb u nb e=>s6 _ _ (kp5 b u nb (s0 _ _ e))) (s6 _ _ hP5) (TabOk.st _ _ (λa o _ e=>s6 a o e) tk5)
  | some w =>
   refine .inr ⟨w,rfl,λt q y dy q2 ss ys ps5 H5 G ly2=>?_⟩;have ht:H5 t=some (.tup [.ref q,.ref y]):=G.tup LkI.m;have hq:H5 q=some (.lst ss):=aM;have tq:aD H5 ss (fU rs w):=TpA.e;have kp5:Kp ao H H5:=λb u nb e=>G.kpo b u nb (s0 _ _ e)
   have hP5:H5 ao=some (.tbl ps5):=aM;have tk5:TabOk bV bG ps5 H5:=SH.tab;clear G;have wk:=qd lya e;have lyT:=lM lya wk.1;have s4:=Ib wk.1;have s4s:=VN lya wk.1;rw[<- s4.1] at tq;have wl:w.length=ms.length:=by have:=gI List.length wk.2.1;rwa [wP,wP] at this
   have s4l:(st4 rs w).length<=41:=by rw[s4.2.2];lia
   have hle:(∀r∈bF rs w,r.st+r.sz<=n)/\n<=240:=⟨λr hr=>(lyT.1.l.good r hr).le,lya.h⟩;have fl:=nO hle.1;have hz:(dY (freeOf n (bF rs w))).length<=1000:=by
    have:=QD (fs:=freeOf n (bF rs w))
    lia
   have bh:=QC (n:=n) lyT.1.ok;have F:=SH.n0 H5;have o_t:=om ht;have o_q:=om hq;have o_x:=Old.mk (M:=[]) ly2.x nm0;have o_p:=Old.mk (M:=[]) ly2.p nm0;have aj1:=eO.mk ly2.t;have aj2:=eO.mk tq
   repeat k_meth
   rw[bh];have pf:dH n rs s ms=if nR n (bF rs w)<(s:Int) then none else some ((cJ rs w:Nat):Int):=by unfold dH;rw[e]
   have done:∀{H9:Hp},Same H5 H9->Q (pV (dH n rs s ms)) H9:=λs6=>kk _ ps5 (λb u nb e=>s6 _ _ (kp5 b u nb e)) (s6 _ _ hP5) (TabOk.st _ _ (λa o _ e=>s6 a o e) tk5)
   refine d7 (λh=>?_) (λh=>?_)
   ·rw[zS h] at pf;rw[pf] at done
    repeat k_meth
    exact done F.sm
   ·rw[yB h] at pf;rw[pf] at done
    repeat k_meth
    refine⟨q,ss,st4 rs w,rfl,aM,TpA.e,s4s,s4l,λco cs H7 nw cl=>?_⟩;replace F:=F.newL nw
    repeat k_meth
    rw[cl,s4.2.1];exact done F.sm
end
open M22 M82 M87 M75
def lN(a m:Nat):List Nat:=(List.range m).map (a + ·)
theorem Ie{a m j:Nat}:j∈lN a m ↔ a<=j/\j<a+m:=by
 unfold lN;simp only[List.mem_map,List.mem_range];exact⟨λ⟨i,h,e⟩=>by lia,λh=>⟨j-a,by lia,by lia⟩⟩
def xJ(ms:List Nat):List Int:=ms.map λm:Nat=>(m:Int)
theorem nU{fvs:L2.St}{a m:Nat}{p:Nat->Bool}(hz:m<=1000000)(hf:(fr.map λi=>(σ[i]?).getD none)=fvs)
  (turn:∀(j:Nat)(H':Hp)(R:Bool->Hp->Prop),a<=j->j<a+m->Same H H'->(∀H2,Same H' H2->R (p j) H2)->c (some (.int j)::fvs) H' R)
  (k:∀l H',New H H' l (.lst ((xJ ((lN a m).filter p)).map V.int))->Q (.ref l) H'):cu (Itr (a:Nat) m) 1 fr (bw 0) c (dM 0) σ H Q:=by
 have er:cR (a:Int) m=(lN a m).map λj:Nat=>V.int (j:Int):=by
  unfold cR lN;rw[List.map_map]
  apply List.map_congr_left
  intro i _;show V.int _=V.int _
  congr 1
 have el:(cR (a:Int) m).length=m:=by simp[cR]
 have:=yO (σ:=σ) (H:=H) (wi:=λ_ H R=>R (Itr (a:Int) m) H) (J:=Itr (a:Int) m) (c:=c) (Q:=Q) (fr:=fr) (fvs:=fvs) (p:=λv=>match v with|.int z=>p z.toNat|_=>false) (by rw[el];exact hz) hf (iQ (lo:=(a:Int)) (n:=m)) (λR h=>h) (λH' s=>trivial) (λi v H' R hv s kk=>by
  have hm:=yY hv;rw[er] at hm;obtain⟨j,hj,rfl⟩:=jI.mp hm;have hj:=Ie.mp hj;exact turn j H' R hj.1 hj.2 s kk) (by
  rw[er,List.filter_map];intro l H' n;refine k l H' ?_;unfold xJ;rw[List.map_map];exact n)
 exact this
theorem Bu{ms:List Nat}:(xJ ms).length=ms.length:=wP ..
theorem Bv{J:It}{xs ys:List V}{Lk:Hp->Prop}{c:TT}{te:TE}{σ fvs:L2.St}{fr:List Nat}{H:Hp}{Q:VK}{n:Nat}{K:W.Frag}(p:Nat->Bool)(f:Nat->V)(it:T7 J xs ys Lk)(hn2:n=2)(hz:xs.length<=1000000)(hf:(fr.map λi=>(σ[i]?).getD none)=fvs)(hL:∀H',Same H H'->Lk H')
  (U5:∀(i:Nat)(u v:V)(H':Hp)(R:Bool->Hp->Prop),xs[i]?=some u->ys[i]?=some v->Same H H'->(∀H2,Same H' H2->R (p i) H2)->c (some u::some v::fvs) H' R)
  (turn:∀(i:Nat)(u v:V)(H':Hp)(R:VK),xs[i]?=some u->ys[i]?=some v->Same H H'->(∀H2,Same H' H2->R (f i) H2)->te (some u::some v::fvs) H' R)
  (k:∀p' H',New H H' p' (.lst (((List.range xs.length).filter p).map f))->Q (.ref p') H'):cu J 2 fr (DK K n (gF (bw 0) (gF (bw 1) Il))) c te σ H Q:=by
 intro acc hacc;subst hf hn2;have uI:∀b u,H b=some u->b≠acc:=λb u e=>aK e hacc
 refine⟨λi m σ' zs H'=>m=xs.length-i/\i<=xs.length/\(H' acc=some (.lst zs)/\Same H H'/\zs=((List.range i).filter p).map f)/\∃tv:List (Option V),tv.length=2/\σ'=tv++fr.map λi=>(σ[i]?).getD none,⟨xs.length,by simp,Nat.zero_le _,⟨aV,Same.new hacc,rfl⟩,List.replicate 2 none,by simp,rfl⟩,?_⟩;rintro i m σ' zs H' ⟨rfl,hi,⟨ha,hs,hzs⟩,tv,htv,rfl⟩;refine⟨ha,?_⟩;have l:=hL H' hs;by_cases hlt:i<xs.length
 ·refine .inr ⟨it.go i H' l hlt,λx H2 y=>?_⟩;obtain⟨T,u,v,rfl,hu,hv,nw⟩:=it.yld i H' x H2 l hlt y;obtain⟨t0,t1,rfl⟩:∃a b,tv=[a,b]:=by
   match tv,htv with
   | [a,b],_=>exact⟨a,b,rfl⟩
  refine S6 (SqT.of nw.e) ?_;show c (some u::some v::fr.map λi=>(σ[i]?).getD none) H2 _;refine U5 i u v H2 _ hu hv (hs.trans nw.s) λH3 s3=>?_
  have hs3:=(hs.trans nw.s).trans s3;have ha3:=s3 _ _ (nw.s _ _ ha);cases e:p i with
  | true =>
   show te (some u::some v::fr.map λi=>(σ[i]?).getD none) H3 _;refine turn i u v H3 _ hu hv hs3 λH4 s4=>⟨?_,s4 _ _ ha3,xs.length-(i+1),by lia,rfl,hlt,⟨aV,λb u e=>?_,?_⟩,[some u,some v],rfl,rfl⟩
   ·rw[hzs,wP];have:=List.length_filter_le p (List.range i);rw[List.length_range] at this;exact Nat.lt_of_le_of_lt this (qE hlt (bQ hz))
   ·rw[aQ (uI b u e)];exact s4 _ _ (hs3 _ _ e)
   ·rw[hzs,List.range_succ,List.filter_append,List.map_append,List.filter_cons_of_pos e]
    rfl
  | false =>
   refine⟨xs.length-(i+1),by lia,rfl,hlt,⟨ha3,hs3,?_⟩,[some u,some v],rfl,rfl⟩;rw[hzs,List.range_succ,List.filter_append,List.filter_cons_of_neg (by rw[e];simp)];simp
 ·have e:i=xs.length:=by lia
  subst e;subst hzs;exact .inl ⟨it.stop H' l,k acc H' ⟨hs,ha,uI⟩⟩
def Ig:Sp:=λvs H Q _=>∃(l:Addr)(n:Nat)(zs:List V)(rs:List Rw)(r:Rw)(k:Nat),vs=[.int (n:Nat),.ref l,.int (k:Nat)]/\H l=some (.lst zs)/\aD H zs (aF rs)/\rs.length<=40/\rs[k]?=some r/\∀q H',Same H H'->H' q=some (.tup [.int (gB rs k:Nat),.int ((cW n rs k:Nat)-(r.sz:Int))])->Q (.ref q) H'
instance afp{l:Addr}{H:Hp}{Q:VK}{E:XK}{n k:Nat}{zs:List V}{rs:List Rw}[h:Hat H l (.lst zs)][t:TpA H zs (aF rs)]:Go (Ig [.int (n:Nat),.ref l,.int (k:Nat)] H Q E) (∃r,rs.length<=40/\rs[k]?=some r/\∀q H',Same H H'->H' q=some (.tup [.int (gB rs k:Nat),.int ((cW n rs k:Nat)-(r.sz:Int))])->Q (.ref q) H'):=⟨λ⟨r,f,e,k1⟩=>⟨l,n,zs,rs,r,k,rfl,h.e,t.e,f,e,k1⟩⟩
section
variable{P:Program}{w:World}{K:W.Frag}{mg:xC}{base:Heap}{c:Nat->Addr}{aC ao R CL CP CS:Addr}
theorem Dv(T:Txt K mg c R CL CP CS aC ao):Def P w K mg base CX0 1 "_law_room" ["_law_many_here","_law_rows_here","_law_k"] Ig:=by
 refine dA T.M7 FQ λf cdv A outer s H vs Q E hr h=>?_
 obtain⟨l,n,zs,rs,r,k0,rfl,hl,tp,few,er,k⟩:=h;have nd:=FQ.nd;refine⟨_,(aq (psz 3 nd au)
  (aq (psz 4 nd (pv 0))
  (aq (bK (aU fY (pv 2) au (aY _)) (aB (psz 3 nd (aN bI (aH aZ (aH aO (pv 1) (aN b_ (pv 2) au) (λ_ _=>rfl)) au (λ_ _=>rfl)) (aH aZ (aH aO (pv 1) (aN b_ (pv 2) au) (λ_ _=>rfl)) au (λ_ _=>rfl))))) bf)
  (aq (bK (aU nZ (aN bI (pv 2) au) (aR bN rfl T.eE boot_len (aj (pv 1) ak)) (aY _)) (aB (psz 4 nd (aH aZ (aH aO (pv 1) (aN bI (pv 2) au) (λ_ _=>rfl)) au (λ_ _=>rfl)))) bf)
  (aB (aL (bM (aj (pv 3) (aj (aN b_ (pv 4) (aH aZ (aH aO (pv 1) (pv 2) (λ_ _=>rfl)) au (λ_ _=>rfl))) ak))))))))),?_⟩
 clear nd ;rw[stE]
 try dsimp only[bT,bC]
 have jW:=om hl;have gW:=eO.mk tp;have F:=SH.n0 H;have zl:zs.length=rs.length:=by rw[tp.1,aW]
 have hk:=(qA.mp er).1;obtain⟨q1,e1,e2⟩:∃q1,zs[k0]?=some (.ref q1)/\H q1=some (.tup (cB r)):=tp.2 k0 _ (by unfold aF;rw[List.getElem?_map,er];rfl);have lH:=om e2;have a1:AtI zs ((k0:Nat):Int) (.ref q1):=⟨bB e1⟩;rcases Nat.lt_or_ge (k0+1) rs.length with hl9|hl9
 ·rcases Nat.eq_zero_or_pos k0 with hk0|hk0
  ·have lw:gB rs k0=0:=by rw[hk0];rfl
   obtain⟨s1,hs1⟩:∃s1,rs[k0+1]?=some s1:=⟨_,qB hl9⟩;obtain⟨q2,f1,f2⟩:∃q2,zs[k0+1]?=some (.ref q2)/\H q2=some (.tup (cB s1)):=tp.2 (k0+1) _ (by unfold aF;rw[List.getElem?_map,hs1];rfl);have J5:=om f2;have a2:AtI zs (((k0:Nat):Int)+1) (.ref q2):=⟨by rw[show ((k0:Nat):Int)+1=((k0+1:Nat):Int) by lia];exact bB f1⟩;have hw:=lY (n:=n) hs1
   repeat k_meth
   rw[lw,hw] at k;exact k _ _ F.sm aM
  ·obtain⟨r0,hr0⟩:∃r0,rs[k0-1]?=some r0:=⟨_,qB (by lia)⟩;have lw:=wL hr0;rw[show k0-1+1=k0 by lia] at lw;obtain⟨q0,d1,d2⟩:∃q0,zs[k0-1]?=some (.ref q0)/\H q0=some (.tup (cB r0)):=tp.2 (k0-1) _ (by unfold aF;rw[List.getElem?_map,hr0];rfl);have abP:=om d2;have a0:AtI zs (((k0:Nat):Int)-1) (.ref q0):=⟨by rw[show ((k0:Nat):Int)-1=((k0-1:Nat):Int) by lia];exact bB d1⟩;obtain⟨s1,hs1⟩:∃s1,rs[k0+1]?=some s1:=⟨_,qB hl9⟩;obtain⟨q2,f1,f2⟩:∃q2,zs[k0+1]?=some (.ref q2)/\H q2=some (.tup (cB s1)):=tp.2 (k0+1) _ (by unfold aF;rw[List.getElem?_map,hs1];rfl);have J5:=om f2;have a2:AtI zs (((k0:Nat):Int)+1) (.ref q2):=⟨by rw[show ((k0:Nat):Int)+1=((k0+1:Nat):Int) by lia];exact bB f1⟩;have hw:=lY (n:=n) hs1
   repeat k_meth
   rw[lw,hw,Int.natCast_add] at k;exact k _ _ F.sm aM
 ·rcases Nat.eq_zero_or_pos k0 with hk0|hk0
  ·have lw:gB rs k0=0:=by rw[hk0];rfl
   have hw:=jx (n:=n) hl9
   repeat k_meth
   rw[lw,hw] at k;exact k _ _ F.sm aM
  ·obtain⟨r0,hr0⟩:∃r0,rs[k0-1]?=some r0:=⟨_,qB (by lia)⟩;have lw:=wL hr0;rw[show k0-1+1=k0 by lia] at lw;obtain⟨q0,d1,d2⟩:∃q0,zs[k0-1]?=some (.ref q0)/\H q0=some (.tup (cB r0)):=tp.2 (k0-1) _ (by unfold aF;rw[List.getElem?_map,hr0];rfl);have abP:=om d2;have a0:AtI zs (((k0:Nat):Int)-1) (.ref q0):=⟨by rw[show ((k0:Nat):Int)-1=((k0-1:Nat):Int) by lia];exact bB d1⟩;have hw:=jx (n:=n) hl9
   repeat k_meth
   rw[lw,hw,Int.natCast_add] at k;exact k _ _ F.sm aM
end
open M22 M82 M87 M75
theorem Bw{H:Hp}{ys:List V}{rs:List Rw}{k:Nat}{q:Addr}{r:Rw}(h:aD H ys (aF rs))(hq:H q=some (.tup (cB r))):aD H (ys.set k (.ref q)) (aF (rs.set k r)):=by
 have e:aF (rs.set k r)=(aF rs).set k (cB r):=by unfold aF;rw[List.map_set]
 rw[e];refine⟨by rw[List.length_set,List.length_set,h.1],λj u ej=>?_⟩;rw[List.getElem?_set] at ej;by_cases z:k=j
 ·subst z;rw[zS rfl] at ej;split at ej
  ·rename_i hk;cases ej;exact⟨q,by rw[List.getElem?_set,zS rfl,zS (by rw[h.1];exact hk)],hq⟩
  ·cases ej
 ·rw[yB z] at ej;obtain⟨q2,a,b⟩:=h.2 j u ej;exact⟨q2,by rw[List.getElem?_set,yB z];exact a,b⟩
theorem Od{T:List Rw}{k to:Nat}{r:Rw}(h:T[k]?=some r):mvT T k to=T.set k (fQ r to):=by
 obtain⟨hk,rfl⟩:=qA.mp h
 apply List.ext_getElem?
 intro j;unfold mvT;rw[List.getElem?_modify,List.getElem?_set];by_cases z:k=j
 ·subst z;rw[zS rfl,zS hk,h];show some (if k=k then _ else _)=_;rw[zS rfl]
 ·rw[yB z];cases T[j]? with
  | none=>rfl
  | some a =>
   show some (if k=j then _ else a)=some a;rw[yB z]
def rF(rs:List Rw)(cs:List Nat)(j:Nat):Bool:=match rs[j]? with
 | some r=>decide (r.nm=cs)
 | none=>false
theorem QG{rs:List Rw}{cs:List Nat}(h:∀r∈rs,r.nm≠cs):(lN 0 rs.length).filter (rF rs cs)=[]:=List.filter_eq_nil_iff.mpr λj _=>by
 unfold rF;cases e:rs[j]? with
 | none=>simp
 | some r=>simpa using h r (List.mem_of_getElem? e)
theorem VR{n:Nat}{rs:List Rw}{r:Rw}{k:Nat}(ly:Lay n rs)(h:rs[k]?=some r):(lN 0 rs.length).filter (rF rs r.nm)=[k]:=by
 have e:lN 0 rs.length=List.range rs.length:=by unfold lN;rw[show (λx=>0+x)=(λx:Nat=>x) by funext x;exact Nat.zero_add x];exact List.map_id' _
 have hk:=(qA.mp h).1;have one:∀j,rF rs r.nm j=true->j=k:=λj hj=>by
  unfold rF at hj;cases e2:rs[j]? with
  | none=>rw[e2] at hj;cases hj
  | some s =>
   rw[e2] at hj;have hj:s.nm=r.nm:=of_decide_eq_true hj;have f1:=Dn ly h;have f2:=Dn ly e2;rw[hj,f1] at f2;exact(nI f2).symm
 have me:rF rs r.nm k=true:=by unfold rF;rw[h];exact decide_eq_true rfl
 rw[e];have:∀m,(List.range m).filter (rF rs r.nm)=if k<m then [k] else []:=by
  intro m
  induction m with
  | zero=>rfl
  | succ m ih =>
   rw[List.range_succ,List.filter_append,ih];by_cases z:m=k
   ·subst z;rw[yB (by lia),zS (by lia),List.filter_cons_of_pos me]
    rfl
   ·have nm:rF rs r.nm m=false:=by
     cases e3:rF rs r.nm m with
     | false=>rfl
     | true=>exact gL (one m e3) z
    rw[List.filter_cons_of_neg (by rw[nm];simp)];by_cases y:k<m
    ·rw[zS y,zS (by lia)];rfl
    ·rw[yB y,yB (by lia)];rfl
 rw[this,zS hk]
theorem YS{z a b:Int}(h1:a<=z)(h2:z<=b):inB (.int z) a b=true:=by
 show (decide (a<=z) && decide (z<=b))=true;rw[gX h1,gX h2]
 rfl
theorem YT{z a b:Int}(h1:¬ a<=z):¬ inB (.int z) a b=true:=by
 show ¬ (decide (a<=z) && decide (z<=b))=true;rw[gS h1];simp
theorem YW{z a b:Int}(h1:¬ z<=b):¬ inB (.int z) a b=true:=by
 show ¬ (decide (a<=z) && decide (z<=b))=true;rw[gS h1,Bool.and_false];simp
def QJ:Sp:=λvs H Q _=>∃(l m:Addr)(n:Nat)(zs ws:List V)(rs:List Rw)(ms:List MvX),vs=[.int (n:Nat),.ref l,.ref m]/\H l=some (.lst zs)/\aD H zs (aF rs)/\LyA rs n/\H m=some (.lst ws)/\aD H ws (dG ms)/\(∀m∈ms,okP m.2=true)/\ms.length<=41/\((cP n rs [] ms=none/\∀H',Same H H'->Q .non H')\/∃w,cP n rs [] ms=some w/\∀q ys H',New H H' q (.lst ys)->aD H' ys (aF (bF rs w))->Q (.ref q) H')
section
variable{P:Program}{w:World}{K:W.Frag}{mg:xC}{base:Heap}{c:Nat->Addr}{aC ao R CL CP CS:Addr}
theorem V1(T:Txt K mg c R CL CP CS aC ao):Def P w K mg base CX0 2 "_law_behind" ["_law_many_here","_law_rows_here","_law_moves_here"] QJ:=by
 refine dA T.Gs zK λf cdv A outer s H vs Q E hr h=>?_
 obtain⟨l,m,n,zs,ws,rs,ms,rfl,hl,tp,lya,hm,tm,oks,m41,kk⟩:=h;have nd:=zK.nd
 refine' ⟨_,?bd0,?main⟩
 case bd0 =>
  refine' aq ?s1 ?r1
  case r1 =>
   refine' aq ?s2 ?r2
   case r2 =>
    refine' aq ?s3 ?r3
    case r3 =>
     refine' aB ?s4
     case s4 =>
      exact(aL (pv 1))
    case s3 =>
     refine' cH ?p6 ?q6 ?i6 ?g6 ?d6 ?h6
     case p6=>exact PassesOwn.never
     case q6=>exact rfl
     case h6=>exact λ_=>rfl
     case g6=>exact(iW rfl (bL (pgz 4 nd) (bL (pgz 5 nd) fu)))
     case d6 =>
      refine' aq ?s7 ?r7
      case r7 =>
       refine' aq ?s8 ?r8
       case r8 =>
        refine' aq ?s9 ?r9
        case r9 =>
         refine' aq ?s10 ?r10
         case r10 =>
          refine' aq ?s11 ?r11
          case r11 =>
           refine' aB ?s12
           case s12 =>
            exact(cg (bR (pv 3) (pv 4)))
          case s11 =>
           exact(jB (bM (aj (pv 4) (aj (pv 5) (aj (aH aZ (aH aO (pv 1) (aH aO (pv 6) au (λ_ _=>rfl)) (λ_ _=>rfl)) au (λ_ _=>rfl)) (aj au ak))))) (qj (pv 1) (aH aO (pv 6) au (λ_ _=>rfl)) gY))
         case s10 =>
          exact(bK (PW.pt (jR (c7 (cQ (aR dO rfl T.bY boot_isinstance (aj (pv 5) (aj (j5 (T := "int") rfl T.wu boot_int) ak))))) (jR (cQ (aR dO rfl T.bY boot_isinstance (aj (pv 5) (aj (j5 (T := "bool") rfl T.Di boot_bool) ak)))) (iU (c7 (tW rG rG (pv 7) (pv 5) (pv 8))))))) (aB (aL cZ)) bf)
        case s9 =>
         exact(jB (aG (Dv T) hr (aj (pv 0) (aj (pv 1) (aj (aH aO (pv 6) au (λ_ _=>rfl)) ak)))) (iW rfl (bL (pgz 7 nd) (bL (pgz 8 nd) fu))))
       case s8 =>
        exact(bK (PW.pt (jR (aU (S7 hr) (pv 6) (aX ak) (aY _)) (jR (aU yF (pv 4) (pv 3) (by with_unfolding_all rfl)) (iU (aU fY (aH aZ (aH aO (pv 1) (aH aO (pv 6) au (λ_ _=>rfl)) (λ_ _=>rfl)) au (λ_ _=>rfl)) au (aY _)))))) (aB (aL cZ)) bf)
      case s7 =>
       exact(oA (i:=6) nd rfl (Or.inl rfl) (N:=["_law_k","_law_name","_law_rows_here"]) (nt:=1) (fr:=[4,1]) (cL rfl T.cY (aj (aR bN rfl T.eE boot_len (aj (pv 1) ak)) ak)) (λ_ _ _ _=>(cj (i:=0) (show (["_law_k","_law_name","_law_rows_here"]:List Str).Nodup from by decide +kernel) rfl (Or.inl rfl))) (λ_ _ _ _=>lO (aU jf (aH (cX (K:=K) rfl) (aH (uJ (K:=K) rfl) (pv 2) (pv 0) (λ_ _=>rfl)) au (λ_ _=>rfl)) (pv 1) (aY _))) (λ_ _ _ _=>(pv 0)))
     case i6 =>
      refine' cC ?l19
      case l19 =>
       exact(pv 2)
   case s2 =>
    exact(psz 3 nd (aX ak))
  case s1 =>
   exact(psz 1 nd (dz (mK (K:=K) rfl) rfl T.fK boot_list (aj (pv 1) ak)))
 clear nd;rw[stE]
 try dsimp only[bT,bC]
 have jW:=om hl;have Vj:=om hm;have gW:=eO.mk tp;have aiI:=eO.mk tm;have F:=SH.n0 H;have zl:zs.length=rs.length:=by rw[tp.1,aW]
 have wl:ws.length=ms.length:=by rw[tm.1,Hq]
 have few:=lya.l.few
 repeat k_meth
 rename_i lr
 rename Addr=>dn
 refine fH (xs:=ws) (λi σ' H'=>∃(o4 o5 o6 o7 o8:Option V)(ys:List V)(w:List Mv),σ'=[some (.int (n:Nat)),some (.ref lr),some (.ref m),some (.ref dn),o4,o5,o6,o7,o8]/\GoX n rs ms i w/\LyA (bF rs w) n/\ys.length=rs.length/\SH H [] H' [(dn,.lst ((w.map (·.2.1)).map λcs=>V.str (tx cs))),(lr,.lst ys)] [.tps ys (aF (bF rs w))]) ⟨_,_,_,_,_,zs,[],rfl,GoX.zero n rs ms,lya,zl,(F.cU (ys:=zs) (rs:=aF (bF rs [])) TpA.e).sub (L':=[(dn,.lst []),(lr,.lst zs)]) SbC.s SbI.s⟩ ?_ ?_ ?_
 ·clear F;rintro i σ' H' _ ⟨_,_,_,_,_,ys,w,rfl,gx,lyT,yl,F⟩;exact SqA.e
 ·clear F;rintro i v σ' H' hv ⟨_,_,_,_,_,ys,w,rfl,gx,lyT,yl,F⟩;obtain⟨⟨cs,v⟩,q1,e1,rfl,e2⟩:=J8 tm hv;have aiD:i<ms.length:=(qA.mp e1).1;have okm:okP v=true:=oks _ (yY e1);have aiJ:=(lM lya gx.ok).2;have ae9:Old H [] q1 (.tup [.str (tx cs),v]):=om e2;have aiE:=gx.len;have aiK:(bF rs w).length<=40:=by lia
  repeat k_meth
  refine nU (a:=0) (fvs:=[some (.str (tx cs)),some (.ref lr)]) (p:=rF (bF rs w) cs) (by lia) rfl (λj H1 R j1 j2 s1 kk=>?_) λso H1 n1=>?_
  ·have hlr:H1 lr=some (.lst ys):=s1 _ _ (F.raw LkL.m);obtain⟨r,er⟩:∃r,(bF rs w)[j]?=some r:=⟨_,qB (by lia)⟩;obtain⟨q2,f1,f2⟩:=(TpA.e (H:=H') (ys:=ys) (rs:=aF (bF rs w))).2 j (cB r) (by unfold aF;rw[List.getElem?_map,er];rfl);have f2:=s1 _ _ f2;clear F;have F:=SH.n0 H1;have aj3:=om hlr;have J5:=om f2;have a1:AtI ys ((j:Nat):Int) (.ref q2):=⟨bB f1⟩;have pe:rF (bF rs w) cs j=decide (r.nm=cs):=by unfold rF;rw[er]
   rw[pe] at kk;by_cases hc:r.nm=cs
   ·have e9:tx r.nm=tx cs:=by rw[hc]
    rw[gX hc] at kk
    repeat k_meth
    rw[gX e9];exact kk _ (Same.refl _)
   ·have e9:¬ tx r.nm=tx cs:=λz=>hc (m9 z)
    rw[gS hc] at kk
    repeat k_meth
    rw[gS e9];exact kk _ (Same.refl _)
  rw[show (((ys.length:Nat):Int)).toNat=(bF rs w).length by lia] at n1;replace F:=F.newL n1;by_cases hc:∃r∈bF rs w,r.nm=cs
  ·obtain⟨r,hr,rfl⟩:=hc;obtain⟨k0,hk,ek⟩:=List.getElem_of_mem hr;have ek:(bF rs w)[k0]?=some r:=by rw[qB hk,ek]
   have sa:=step_at (dn:=w.map λm:Mv=>m.2.1) (v:=v) lyT.l ek;rw[VR lyT.l ek,show (xJ [k0]).map V.int=[(k0:Int)].map V.int from rfl] at F;have a9:AtI ([(k0:Int)].map V.int) 0 (.int (k0:Nat)):=⟨rfl⟩;clear n1;obtain⟨q3,f1,f2⟩:=(TpA.e (H:=H1) (ys:=ys) (rs:=aF (bF rs w))).2 k0 (cB r) (by unfold aF;rw[List.getElem?_map,ek];rfl);have a1:AtI ys ((k0:Nat):Int) (.ref q3):=⟨bB f1⟩;replace F:=F.qC f2;have noW:fM n (bF rs w) (w.map λm:Mv=>m.2.1) r.nm v=none->∀{H9:Hp},Same H H9->Q .non H9:=λz=>by
    have wn:=gx.no e1 z;rcases kk with⟨_,k⟩|⟨_,y,_⟩
    ·exact λ{H9} s9=>k H9 s9
    ·rw[wn] at y;cases y
   by_cases hd:r.nm∈w.map λm:Mv=>m.2.1
   ·rw[zS (.inl hd)] at sa
    repeat k_meth
    exact noW sa F.sm
   ·by_cases hp0:0<r.pn
    ·rw[zS (.inr hp0)] at sa
     repeat k_meth
     exact noW sa F.sm
    ·rw[if_neg (by simp only[hd,hp0,or_self,not_false_eq_true])] at sa
     repeat k_meth
     refine⟨r,aiK,ek,λqr H2 s2 e2=>?_⟩;replace F:=(F.same s2).qC e2
     repeat k_meth
     cases v with
     | non =>
      rw[if_neg (by simp[inB])] at sa
      repeat k_meth
      rw[show Xa V.non=false from rfl]
      repeat k_meth
      exact noW sa F.sm
     | bl b =>
      rw[if_neg (by simp[inB])] at sa
      repeat k_meth
      exact noW sa F.sm
     | int z =>
      repeat k_meth
      refine d7 (λh1=>?_) (λh1=>?_)
      ·by_cases h2:z<=(cW n (bF rs w) k0:Nat)-(r.sz:Int)
       ·obtain⟨j,rfl⟩:∃j:Nat,z=(j:Int):=⟨z.toNat,by lia⟩;rw[zS (YS h1 h2)] at sa;have sa:fM n (bF rs w) (w.map λm:Mv=>m.2.1) r.nm (.int (j:Nat))=some (k0,r.nm,((j:Nat):Int).toNat):=sa;rw[Int.toNat_natCast] at sa;have gx2:=gx.go lyT.l e1 sa;have e2w:bF rs (w++[(k0,r.nm,j)])=(bF rs w).set k0 (fQ r j):=by rw[<- Od ek];unfold bF;rw[List.foldl_append];rfl
        have lyn:=lM lya gx2.ok;have ky:k0<ys.length:=by rw[yl,<- aiJ];exact hk
        have dl:((w.map λm:Mv=>m.2.1).map λcs=>V.str (tx cs)).length<sizeLine:=by rw[wP,wP,sizeLine_eq];lia
        clear noW
        repeat k_meth
        have rw9:[V.str (tx r.nm),V.int (j:Nat),V.int (r.sz:Nat),V.int 0]=cB (fQ r j):=by
         have:r.pn=0:=by lia
         show _=[V.str (tx r.nm),V.int (j:Nat),V.int (r.sz:Nat),V.int (r.pn:Nat)];rw[this]
         rfl
        rw[Int.toNat_natCast,rw9] at F;have t9:aD H_ (ys.set k0 (.ref p_)) (aF (bF rs (w++[(k0,r.nm,j)]))):=by
         rw[e2w];exact Bw (F.tps (ys:=ys) (rs:=aF (bF rs w)) LkP.m) aM
        replace F:=F.cU t9;rw[show ((w.map λm:Mv=>m.2.1).map λcs=>V.str (tx cs))++[V.str (tx r.nm)]=((w++[(k0,r.nm,j)]).map λm:Mv=>m.2.1).map λcs=>V.str (tx cs) by rw[List.map_append,List.map_append];rfl] at F;exact⟨_,_,_,_,_,ys.set k0 (.ref p_),w++[(k0,r.nm,j)],rfl,gx2,lyn.1,by rw[List.length_set];exact yl,F.sub SbC.s SbI.s⟩
       ·rw[yB (YW h2)] at sa
        repeat k_meth
        exact noW sa F.sm
      ·rw[yB (YT h1)] at sa
       repeat k_meth
       exact noW sa F.sm
     | _=>cases okm
  ·have no:∀r∈bF rs w,r.nm≠cs:=λr hr z=>hc ⟨r,hr,z⟩
   rw[QG no] at F;have wn:=gx.no e1 (rA no);rcases kk with⟨_,k⟩|⟨_,z,_⟩
   ·repeat k_meth
    exact k _ F.sm
   ·rw[wn] at z;cases z
 ·clear F;rintro σ' H' ⟨_,_,_,_,_,ys,w,rfl,gx,lyT,yl,F⟩;have wd:=gx.done (by lia);rcases kk with⟨z,_⟩|⟨w2,e9,k⟩
  ·rw[wd] at z;cases z
  rw[wd] at e9;obtain rfl:=nI e9
  repeat k_meth
  exact k _ _ _ SH.nwC TpA.e
end
open M22 M82 M87 M75
theorem Ih(n:Nat):∀(rs:List Rw)(e:Nat),List.zipWith (λa b:Int=>a-b) (rs.map (λr=>(r.st:Int))++[(n:Int)]) ((e:Int)::rs.map λr=>(r.st:Int)+(r.sz:Int))=mC n e rs
 | [],_=>rfl
 | r::rs,e=>by
  have:=Ih n rs (r.st+r.sz);rw[Int.natCast_add] at this;show ((r.st:Int)-(e:Int))::List.zipWith _ (rs.map _++[_]) (((r.st:Int)+(r.sz:Int))::rs.map _)=_;rw[this]
  rfl
theorem QK{a b:List Int}(h:a.length=b.length):(List.range a.length).map (λi=>a.getD i 0-b.getD i 0)=List.zipWith (λa b:Int=>a-b) a b:=by
 apply List.ext_getElem
 ·simp[h]
 ·intro i h1 h2;have hi:i<a.length:=by simpa using h1
  rw[List.getElem_map,List.getElem_range,List.getElem_zipWith,oP,oP,qB hi,qB (by lia)]
  rfl
def sJ(n:Nat)(rs:List Rw):List Int:=rs.map (λr=>(r.st:Int))++[(n:Int)]
def endsF(rs:List Rw):List Int:=(0:Int)::rs.map λr=>(r.st:Int)+(r.sz:Int)
theorem Ks(n:Nat)(rs:List Rw):(List.range (sJ n rs).length).map (λi=>(sJ n rs).getD i 0-(endsF rs).getD i 0)=aP n rs:=by
 rw[QK (by simp[sJ,endsF]),wR];exact Ih n rs 0
def pA(a b:List Rw)(i:Nat):Bool:=match a[i]?,b[i]? with
 | some r,some t=>!decide (r.st=t.st)
 | _,_=>false
def szA(a:List Rw)(i:Nat):Int:=match a[i]? with
 | some r=>r.sz
 | none=>0
theorem Oe:∀(a b:List Rw),a.length=b.length->(((List.range a.length).filter (pA a b)).map (szA a)).sum=(chg a b:Int)
 | [],[],_=>rfl
 | [],_::_,h=>absurd h (by simp)
 | _::_,[],h=>absurd h (by simp)
 | r::a,t::b,h=>by
  have ih:=Oe a b (by simpa using h);have e:(((List.range a.length).map Nat.succ).filter (pA (r::a) (t::b))).map (szA (r::a))=((List.range a.length).filter (pA a b)).map (szA a):=by
   rw[List.filter_map,List.map_map]
   rfl
  rw[mS,List.range_succ_eq_map];by_cases z:r.st=t.st
  ·have p0:pA (r::a) (t::b) 0=false:=by show (!decide (r.st=t.st))=false;rw[gX z];rfl
   rw[List.filter_cons_of_neg (by rw[p0];simp),e,ih];show _=(((if r.st=t.st then 0 else r.sz)+chg a b:Nat):Int);rw[zS z,Nat.zero_add]
  ·have p0:pA (r::a) (t::b) 0=true:=by show (!decide (r.st=t.st))=true;rw[gS z];rfl
   rw[List.filter_cons_of_pos p0,oS,List.sum_cons,e,ih];show (r.sz:Int)+_=(((if r.st=t.st then 0 else r.sz)+chg a b:Nat):Int);rw[yB z,Int.natCast_add]
def sE:Sp:=λvs H Q _=>∃(l:Addr)(n:Nat)(zs:List V)(rs:List Rw),vs=[.int (n:Nat),.ref l]/\H l=some (.lst zs)/\aD H zs (aF rs)/\LyA rs n/\∀H',Same H H'->Q (.int (nR n rs)) H'
instance Zv{l:Addr}{H:Hp}{Q:VK}{E:XK}{n:Nat}{zs:List V}{rs:List Rw}[h:Hat H l (.lst zs)][t:TpA H zs (aF rs)][ly:LyA rs n]:Go (sE [.int (n:Nat),.ref l] H Q E) (∀H',Same H H'->Q (.int (nR n rs)) H'):=⟨λk=>⟨l,n,zs,rs,rfl,h.e,t.e,ly,k⟩⟩
def QL:Sp:=λvs H Q _=>∃(l m:Addr)(n s:Nat)(zs ws:List V)(rs:List Rw)(ms:List MvX),vs=[.int (n:Nat),.ref l,.ref m,.int (s:Nat)]/\H l=some (.lst zs)/\aD H zs (aF rs)/\LyA rs n/\H m=some (.lst ws)/\aD H ws (dG ms)/\(∀m∈ms,okP m.2=true)/\ms.length<=41/\∀H',Same H H'->Q (pV (dH n rs s ms)) H'
def st1(r:List V):V:=r.getD 1 .non
def en1(r:List V):V:=match r with
 | [_,.int a,.int b,_]=>.int (a+b)
 | _=>.non
section
variable{P:Program}{w:World}{K:W.Frag}{mg:xC}{base:Heap}{c:Nat->Addr}{aC ao R CL CP CS:Addr}
theorem Ku(T:Txt K mg c R CL CP CS aC ao):Def P w K mg base CX0 1 "_law_greatest" ["_law_many_here","_law_rows_here"] sE:=by
 refine dA T.wg rQ λf cdv A outer s H vs Q E hr h=>?_
 obtain⟨l,n,zs,rs,rfl,hl,tp,lya,k⟩:=h;have nd:=rQ.nd
 refine' ⟨_,?bd0,?main⟩
 case bd0 =>
  refine' aq ?s1 ?r1
  case r1 =>
   refine' aq ?s2 ?r2
   case r2 =>
    refine' aB ?s3
    case s3 =>
     exact(aL (aR (Pb rfl) rfl T.pK boot_max (aj (dI (N:=["_law_start","_law_end"]) (nt:=2) (fr:=[]) (T4 rfl T.Uy (aj (pv 3) (aj (pv 2) ak))) (λ_ _ _ _=>(Lf (K:=K) (n:=2) rfl rfl (bL (cj (i:=0) (show (["_law_start","_law_end"]:List Str).Nodup from by decide +kernel) rfl (Or.inl rfl)) (bL (cj (i:=1) (show (["_law_start","_law_end"]:List Str).Nodup from by decide +kernel) rfl (Or.inl rfl)) fu)))) (λ_ _ _ _=>dU) (λ_ _ _ _=>(aN b_ (pv 0) (pv 1)))) ak)))
   case s2 =>
    exact(psz 3 nd (aN gR (dI (N:=["_law_row"]) (nt:=1) (fr:=[]) (cC (pv 1)) (λ_ _ _ _=>(cj (i:=0) (show (["_law_row"]:List Str).Nodup from by decide +kernel) rfl (Or.inl rfl))) (λ_ _ _ _=>dU) (λ_ _ _ _=>(aH (cX (K:=K) rfl) (pv 0) au (λ_ _=>rfl)))) (aX (aj (pv 0) ak))))
  case s1 =>
   exact(psz 2 nd (aN gR (aX (aj au ak)) (dI (N:=["_law_row"]) (nt:=1) (fr:=[]) (cC (pv 1)) (λ_ _ _ _=>(cj (i:=0) (show (["_law_row"]:List Str).Nodup from by decide +kernel) rfl (Or.inl rfl))) (λ_ _ _ _=>dU) (λ_ _ _ _=>(aN bI (aH (cX (K:=K) rfl) (pv 0) au (λ_ _=>rfl)) (aH (cX (K:=K) rfl) (pv 0) au (λ_ _=>rfl)))))))
 clear nd ;rw[stE]
 try dsimp only[bT,bC]
 have jW:=om hl;have gW:=eO.mk tp;have F:=SH.n0 H;have few:=lya.l.few;have zl:zs.length=rs.length:=by rw[tp.1,aW]
 repeat k_meth
 refine gw (F:=en1) aM (TpA.e (rs:=aF rs)) (by lia) rfl (λq r H1 R hr s1 e1 kk=>?_) λl1 H1 n1=>?_
 ·clear F;have F:=SH.n0 H1;obtain⟨w,hw,rfl⟩:=jI.mp hr;have U6:=om e1
  repeat k_meth
  exact kk _ (Same.refl _)
 rw[show (aF rs).map en1=(rs.map λr=>(r.st:Int)+(r.sz:Int)).map V.int by unfold aF;rw[List.map_map,List.map_map];rfl] at n1;replace F:=F.newL n1
 repeat k_meth
 rw[show [V.int 0]++(rs.map λr=>(r.st:Int)+(r.sz:Int)).map V.int=(endsF rs).map V.int from rfl] at F;refine gw (F:=st1) aM (TpA.e (rs:=aF rs)) (by lia) rfl (λq r H1 R hr s1 e1 kk=>?_) λl2 H2 n2=>?_
 ·clear F;have F:=SH.n0 H1;obtain⟨w,hw,rfl⟩:=jI.mp hr;have U6:=om e1
  repeat k_meth
  exact kk _ (Same.refl _)
 rw[show (aF rs).map st1=(rs.map λr=>(r.st:Int)).map V.int by unfold aF;rw[List.map_map,List.map_map];rfl] at n2;replace F:=F.newL n2
 repeat k_meth
 rw[show (rs.map λr=>(r.st:Int)).map V.int++[V.int (n:Nat)]=(sJ n rs).map V.int by unfold sJ;rw[List.map_append];rfl] at F ⊢;have gl_:=eF n rs;have sl:(sJ n rs).length=rs.length+1:=by simp[sJ]
 have el:(endsF rs).length=rs.length+1:=by simp[endsF]
 refine Bv (λ_=>true) (λi=>.int ((sJ n rs).getD i 0-(endsF rs).getD i 0)) (rM (by rw[wP,wP];lia)) rfl (by rw[wP];lia) (fvs:=[]) rfl (λH' s=>⟨s.seq SqA.e,s.seq SqA.e⟩) (λi u v H3 R hu hv s k9=>k9 _ (Same.refl _)) (λi u v H3 R hu hv s kk=>?_) λl3 H3 n3=>?_
 ·rw[wT] at hu hv;obtain⟨a,ha,rfl⟩:∃a,(sJ n rs)[i]?=some a/\u=.int a:=by
   cases h:(sJ n rs)[i]? with
   | none=>rw[h] at hu;cases hu
   | some g=>rw[h] at hu;exact⟨g,rfl,(nI hu).symm⟩
  obtain⟨b,hb,rfl⟩:∃a,(endsF rs)[i]?=some a/\v=.int a:=by
   cases h:(endsF rs)[i]? with
   | none=>rw[h] at hv;cases hv
   | some g=>rw[h] at hv;exact⟨g,rfl,(nI hv).symm⟩
  rw[oP,oP,ha,hb] at kk;clear F;have F:=SH.n0 H3
  repeat k_meth
  exact kk _ (Same.refl _)
 rw[List.filter_eq_self.mpr λ_ _=>rfl,wP,show (List.range (sJ n rs).length).map (λi=>V.int ((sJ n rs).getD i 0-(endsF rs).getD i 0))=(aP n rs).map V.int by rw[<- Ks,List.map_map];rfl] at n3;replace F:=F.newL n3;have gn:=jQ lya.l lya.a;have ne:aP n rs≠[]:=λz=>by rw[z] at gl_;simp at gl_
 repeat k_meth
 refine⟨l3,aP n rs,rfl,SqA.e,ne,?_⟩;rw[yU gn ne]
 repeat k_meth
 exact k _ F.sm
theorem xK(T:Txt K mg c R CL CP CS aC ao):Def P w K mg base CX0 3 "_law_price" ["_law_many_here","_law_rows_here","_law_moves_here","_law_size"] QL:=by
 refine dA T.Gu zL λf cdv A outer s H vs Q E hr h=>?_
 obtain⟨l,m,n,s,zs,ws,rs,ms,rfl,hl,tp,lya,hm,tm,oks,m41,k⟩:=h;have nd:=zL.nd
 refine' ⟨_,?bd0,?main⟩
 case bd0 =>
  refine' aq ?s7 ?r7
  case r7 =>
   refine' aq ?s8 ?r8
   case r8 =>
    refine' aB ?s9
    case s9 =>
     exact(aL (aR (qy rfl) rfl T.M9 boot_sum (aj (dI (N:=["_law_row","_law_other"]) (nt:=2) (fr:=[]) (T4 rfl T.Uy (aj (pv 1) (aj (pv 4) ak))) (λ_ _ _ _=>(Lf (K:=K) (n:=2) rfl rfl (bL (cj (i:=0) (show (["_law_row","_law_other"]:List Str).Nodup from by decide +kernel) rfl (Or.inl rfl)) (bL (cj (i:=1) (show (["_law_row","_law_other"]:List Str).Nodup from by decide +kernel) rfl (Or.inl rfl)) fu)))) (λ_ _ _ _=>lO (aU DR (aH (cX (K:=K) rfl) (pv 0) au (λ_ _=>rfl)) (aH (cX (K:=K) rfl) (pv 1) au (λ_ _=>rfl)) (aY _))) (λ_ _ _ _=>(aH (cX (K:=K) rfl) (pv 0) au (λ_ _=>rfl)))) ak)))
   case s8 =>
    exact(bK (PW.pt (jR (aU sV (pv 4) cZ (aY _)) (iU (aU nZ (aG (Ku T) hr (aj (pv 0) (aj (pv 4) ak))) (pv 3) (aY _))))) (aB (aL cZ)) bf)
  case s7 =>
   exact(psz 4 nd (aG (V1 T) hr (aj (pv 0) (aj (pv 1) (aj (pv 2) ak)))))
 clear nd;rw[stE]
 try dsimp only[bT,bC]
 have jW:=om hl;have Vj:=om hm;have gW:=eO.mk tp;have aiI:=eO.mk tm;have F:=SH.n0 H;have few:=lya.l.few;have zl:zs.length=rs.length:=by rw[tp.1,aW]
 repeat k_meth
 refine⟨l,m,n,zs,ws,rs,ms,rfl,hl,tp,lya,hm,tm,oks,m41,?_⟩;cases e:cP n rs [] ms with
 | none =>
  have pf:dH n rs s ms=none:=by unfold dH;rw[e]
  rw[pf] at k;refine .inl ⟨rfl,λH2 s2=>?_⟩;replace F:=F.same s2
  repeat k_meth
  exact k _ F.sm
 | some w =>
  have pf:dH n rs s ms=if nR n (bF rs w)<(s:Int) then none else some ((cJ rs w:Nat):Int):=by unfold dH;rw[e]
  have wk:=qd lya e;have lyT:=lM lya wk.1;have rl:Rel rs (bF rs w):=Rel.walk (Rel.refl rs) wk.1;have aj4:=lyT.1;refine .inr ⟨w,rfl,λqb yb H2 nb tb=>?_⟩;replace F:=F.newR nb tb;have ybl:yb.length=rs.length:=by rw[tb.1,aW];exact lyT.2
  repeat k_meth
  refine d7 (λh=>?_) (λh=>?_)
  ·rw[zS h] at pf;rw[pf] at k
   repeat k_meth
   exact k _ F.sm
  ·rw[yB h,rE lya wk.1 wk.2.2.1] at pf;rw[pf] at k
   repeat k_meth
   refine Bv (pA rs (bF rs w)) (λi=>.int (szA rs i)) (rM (by lia)) rfl (by lia) (fvs:=[]) rfl (λH' s9=>⟨s9.seq SqA.e,s9.seq SqA.e⟩) (λi u v H3 R hu hv s9 k9=>?_) (λi u v H3 R hu hv s9 kk=>?_) λl3 H3 n3=>?_
   ·obtain⟨r,q1,e1,rfl,e2⟩:=cF tp hu;obtain⟨t,q2,f1,rfl,f2⟩:=cF (F.tps (ys:=yb) (rs:=aF (bF rs w)) LkP.m) hv;have e2:=s9 _ _ (F.sm _ _ e2);have f2:=s9 _ _ f2;have pe:pA rs (bF rs w) i=!decide (r.st=t.st):=by unfold pA;rw[e1,f1]
    rw[pe] at k9;clear F;have F:=SH.n0 H3;have lH:=om e2;have J5:=om f2;by_cases z:r.st=t.st
    ·rw[gX z] at k9;have z2:(r.st:Int)=(t.st:Int):=by lia
     repeat k_meth
     rw[gX z2];exact k9 _ (Same.refl _)
    ·rw[gS z] at k9;have z2:¬ (r.st:Int)=(t.st:Int):=by lia
     repeat k_meth
     rw[gS z2];exact k9 _ (Same.refl _)
   ·obtain⟨r,q1,e1,rfl,e2⟩:=cF tp hu;have e2:=s9 _ _ (F.sm _ _ e2);have pe:szA rs i=r.sz:=by unfold szA;rw[e1]
    rw[pe] at kk;clear F;have F:=SH.n0 H3;have lH:=om e2
    repeat k_meth
    exact kk _ (Same.refl _)
   rw[zl,show ((List.range rs.length).filter (pA rs (bF rs w))).map (λi=>V.int (szA rs i))=(((List.range rs.length).filter (pA rs (bF rs w))).map (szA rs)).map V.int by rw[List.map_map];rfl] at n3;replace F:=F.newL n3;have szs:(∀z∈((List.range rs.length).filter (pA rs (bF rs w))).map (szA rs),0<=z/\z<=1000000)/\(((List.range rs.length).filter (pA rs (bF rs w))).map (szA rs)).length<=1000000:=⟨λz hz=>by
    obtain⟨i,_,rfl⟩:=jI.mp hz;unfold szA;cases e1:rs[i]? with
    | none=>exact⟨Int.le_refl _,by decide⟩
    | some r =>
     have:=(lya.l.good r (yY e1)).le;have:=lya.h;show 0<=(r.sz:Int)/\(r.sz:Int)<=1000000
     lia,by
    rw[wP];have:=List.length_filter_le (pA rs (bF rs w)) (List.range rs.length);rw[List.length_range] at this
    lia⟩
   repeat k_meth
   rw[Oe _ _ lyT.2.symm];exact k _ F.sm
end
open M22 M82 M87 M75
theorem V2{v:V}(h:okP v=true):gq v=true:=by cases v <;> first|rfl|cases h
theorem xM{ms:List MvX}(h:∀m∈ms,okP m.2=true):∀r∈dG ms,∀v∈r,gq v=true:=λr hr v hv=>by
 obtain⟨m,hm,rfl⟩:=jI.mp hr;simp only[mvX,List.mem_cons,List.not_mem_nil,or_false] at hv;rcases hv with rfl|rfl
 ·rfl
 ·exact V2 (h m hm)
class OkM(ms:List MvX):Prop where
 e:∀m∈ms,okP m.2=true
instance afq{K:W.Frag}{H:Hp}{Q:VK}{p q:Addr}{ys zs:List V}{ms:List MvX}[h:Hat H p (.lst ys)][t:TpA H ys (dG ms)][h2:Hat H q (.lst zs)][t2:TpA H zs (dG ms)][o:OkM ms]:Go (Js K (.ref p) (.ref q) H Q) (Q (.bl false) H):=⟨Tc (uL (SqL.of h.e) t.e (xM o.e)) (uL (SqL.of h2.e) t2.e (xM o.e)) (by have:=yS (dG ms);lia)⟩
def QM(CL P:Addr)(pos:Pos)(qual:Str):Sp:=λvs H Q _=>∃(x p dx m:Addr)(n:Nat)(zs ws:List V)(rs:List Rw)(s:Nat)(ms:List MvX)(ps:xI)(v:V),vs=[.ref x,.int (s:Nat),.ref m,v]/\LyH CL H x p dx n zs rs/\LyA rs n/\1<=s/\H m=some (.lst ws)/\aD H ws (dG ms)/\(∀m∈ms,okP m.2=true)/\ms.length<=41/\v=pV (dH n rs s ms)/\H P=some (.tbl ps)/\TabOk pos qual ps H/\∀H' ps',Kp P H H'->H' P=some (.tbl ps')->TabOk pos qual ps' H'->Q (.bl true) H'
theorem Bx{α β:Type}(f:α->β):∀(l:List α)(i:Nat),(l.map f).eraseIdx i=(l.eraseIdx i).map f
 | [],_=>rfl
 | _::_,0=>rfl
 | a::l,i+1=>by
  show f a::(l.map f).eraseIdx i=f a::(l.eraseIdx i).map f;rw[Bx f l i]
def QS:Sp:=λvs H Q _=>∃(bx l:Addr)(x y z:Int)(is:List Int),vs=[.ref bx,.ref l]/\H bx=some (.lst [.int x,.int y,.int z])/\H l=some (.lst (is.map V.int))/\is.length<=1000/\bx≠l/\∀(x' y' z':Int)(js:List Int)(p:Addr)(H':Hp),js.Perm is->Kp bx H H'->H' bx=some (.lst [.int x',.int y',.int z'])->H' p=some (.lst (js.map V.int))->(∀b u,H b=some u->b≠p)->Q (.ref p) H'
def QT:Sp:=λvs H Q _=>∃(bx l:Addr)(x y z:Int)(n:Nat)(zs:List V)(rs:List Rw)(r:Rw)(k:Nat),vs=[.ref bx,.int (n:Nat),.ref l,.int (k:Nat)]/\H bx=some (.lst [.int x,.int y,.int z])/\H l=some (.lst zs)/\aD H zs (aF rs)/\LyA rs n/\rs[k]?=some r/\bx≠l/\∀(to:Nat)(x' y' z':Int)(H':Hp),gB rs k<=to->to+r.sz<=cW n rs k->Kp bx H H'->H' bx=some (.lst [.int x',.int y',.int z'])->Q (.int (to:Nat)) H'
theorem Ii{n k:Nat}{rs:List Rw}{r:Rw}(ly:LyA rs n)(h:rs[k]?=some r):gB rs k<=r.st/\r.st+r.sz<=cW n rs k/\cW n rs k<=n:=by
 obtain⟨hk,rfl⟩:=qA.mp h;have asc:=List.pairwise_iff_getElem.mp ly.ok.asc;have bd:=ly.ok.bd;refine⟨?_,?_,?_⟩
 ·rcases Nat.eq_zero_or_pos k with rfl|h0
  ·exact Nat.zero_le _
  ·have e:rs[k-1]?=some rs[k-1]:=qB (by lia);have:=wL e;rw[show k-1+1=k by lia] at this;rw[this];exact asc (k-1) k (by lia) hk (by lia)
 ·rcases Nat.lt_or_ge (k+1) rs.length with h1|h1
  ·rw[lY (qB h1)];exact asc k (k+1) hk h1 (by lia)
  ·rw[jx h1];exact(bd _ (List.getElem_mem hk)).2.2
 ·rcases Nat.lt_or_ge (k+1) rs.length with h1|h1
  ·rw[lY (qB h1)];have:=bd _ (List.getElem_mem h1)
   lia
  ·rw[jx h1];exact uC _
section
variable{P:Program}{w:World}{K:W.Frag}{mg:xC}{base:Heap}{c:Nat->Addr}{aC ao R CL CP CS:Addr}
theorem V3(T:Txt K mg c R CL CP CS aC ao):Def P w K mg base CX0 2 "_law_mixed" ["_law_box_here","_law_some"] QS:=by
 refine dA T.Dh pC λf cdv A outer s H vs Q E hr h=>?_
 obtain⟨bx,l,x,y,z,is,rfl,hbx,hl,hz,nbl,k⟩:=h;have nd:=pC.nd;refine⟨_,(aq (psz 2 nd (dz dB rfl T.fK boot_list (aj (pv 1) ak)))
  (aq (psz 3 nd (aX ak))
  (aq (nY PassesOwn.never (aU (ji hr) (pv 2) (aX ak) (aY _)) (aB (cg (bR (pv 3) (Lr (pv 2) (aG (bJ T) hr (aj (pv 0) (aj (aR bN rfl T.eE boot_len (aj (pv 2) ak)) ak))))))))
  (aB (aL (pv 3)))))),?_⟩
 clear nd;rw[stE]
 try dsimp only[bT,bC]
 have F:SH H [bx] H [(bx,.lst [.int x,.int y,.int z])] []:=SH.nil.fP List.mem_cons_self hbx rfl (by simp);have jW:=Old.mk (M:=[bx]) hl (nm1 (Ne.symm nbl))
 repeat k_meth
 rename Addr=>fd
 refine tG (λm σ' H'=>∃(ls fs:List Int)(x y z:Int),σ'=[some (.ref bx),some (.ref l),some (.ref p_),some (.ref fd)]/\m=ls.length/\(fs++ls).Perm is/\SH H [bx] H' [(p_,.lst (ls.map V.int)),(fd,.lst (fs.map V.int)),(bx,.lst [.int x,.int y,.int z])] []) ⟨is.length,is,[],x,y,z,rfl,rfl,List.Perm.refl _,F.sub (L':=[(p_,.lst (is.map V.int)),(fd,.lst []),(bx,.lst [.int x,.int y,.int z])]) SbC.s SbI.s⟩ ?_;clear F;rintro m σ' H' ⟨ls,fs,x,y,z,rfl,rfl,pm,F⟩;have pl:=pm.length_eq;rw[yT] at pl
 repeat k_meth
 by_cases hn:ls=[]
 ·repeat k_meth
  subst hn;rw[mI] at pm;exact k _ _ _ fs _ _ pm F.kpo aM aM (F.fresh (LkL.m (o:=.lst _)) (nm1 (SH.neC (F:=F))))
 ·have hp:0<ls.length:=by
   cases ls with
   | nil=>exact gL rfl hn
   | cons a t=>simp
  repeat k_meth
  have lm:(ls.map V.int).length=ls.length:=wP ..;refine⟨λσ' H'=>∃m',m'<ls.length/\_,λσ' H' h=>h,?_⟩
  repeat k_meth
  intro v hv;rw[wT] at hv;obtain⟨g,hg,rfl⟩:∃g,ls[r_.toNat]?=some g/\v=.int g:=by
   cases h:ls[r_.toNat]? with
   | none=>rw[h] at hv;cases hv
   | some g=>rw[h] at hv;exact⟨g,rfl,(nI hv).symm⟩
  have hlt:=(qA.mp hg).1;have fm:(fs.map V.int).length=fs.length:=wP ..
  repeat k_meth
  rw[Bx,show fs.map V.int++[V.int g]=(fs++[g]).map V.int by rw[List.map_append];rfl] at F;refine⟨ls.length-1,by lia,ls.eraseIdx r_.toNat,fs++[g],x_,y_,z_,rfl,?_,?_,F.sub SbC.s SbI.s⟩
  ·rw[List.length_eraseIdx,zS hlt]
  ·refine List.Perm.trans ?_ pm;rw[vS];exact(List.perm_append_comm.trans (wD hg)).append_left fs
theorem V4(T:Txt K mg c R CL CP CS aC ao):Def P w K mg base CX0 2 "_law_place" ["_law_box_here","_law_many_here","_law_rows_here","_law_k"] QT:=by
 refine dA T.Gn zG λf cdv A outer s H vs Q E hr h=>?_
 obtain⟨bx,l,x,y,z,n,zs,rs,r,k0,rfl,hbx,hl,tp,lya,er,nbl,k⟩:=h;have nd:=zG.nd;refine⟨_,(aq (jB (aG (Dv T) hr (aj (pv 1) (aj (pv 2) (aj (pv 3) ak)))) (iW rfl (bL (pgz 4 nd) (bL (pgz 5 nd) fu))))
  (aq (psz 6 nd (aX (aj (pv 4) (aj (pv 5) (aj (aN bI (pv 4) (aG (bJ T) hr (aj (pv 0) (aj (aN bI (aN b_ (pv 5) (pv 4)) au) ak)))) (aj (aH aZ (aH aO (pv 2) (pv 3) (λ_ _=>rfl)) au (λ_ _=>rfl)) ak))))))
  (aB (aL (aH aO (pv 6) (aG (bJ T) hr (aj (pv 0) (aj au ak))) (λ_ _=>rfl)))))),?_⟩
 clear nd;rw[stE]
 try dsimp only[bT,bC]
 have F:SH H [bx] H [(bx,.lst [.int x,.int y,.int z])] []:=SH.nil.fP List.mem_cons_self hbx rfl (by simp);have few:=lya.l.few;have iK:=lya.h;have jW:=Old.mk (M:=[bx]) hl (nm1 (Ne.symm nbl));replace F:=F.cU tp;have lr:=Ii lya er;obtain⟨q1,e1,e2⟩:∃q1,zs[k0]?=some (.ref q1)/\H q1=some (.tup (cB r)):=tp.2 k0 _ (by unfold aF;rw[List.getElem?_map,er];rfl);have lH:=Old.mk (M:=[bx]) e2 (nm1 (bZ e2 hbx (by simp)));have a1:AtI zs ((k0:Nat):Int) (.ref q1):=⟨bB e1⟩
 repeat k_meth
 refine⟨r,few,er,λqr H2 s2 f2=>?_⟩;replace F:=(F.same s2).qC f2
 repeat k_meth
 rename_i r1 _ _ _ l1 h1 _ _;have fin:∀to:Nat,gB rs k0<=to->to+r.sz<=cW n rs k0->Q (.int (to:Nat)) H_:=λto t1 t2=>k to _ _ _ H_ t1 t2 F.kpo aM
 rcases(show r_=0\/r_=1\/r_=2\/r_=3 by lia) with rfl|rfl|rfl|rfl
 ·repeat k_meth
  exact fin _ (by lia) (by lia)
 ·repeat k_meth
  have:=fin (cW n rs k0-r.sz) (by lia) (by lia);rw[show ((cW n rs k0-r.sz:Nat):Int)=(cW n rs k0:Nat)-(r.sz:Int) by lia] at this;exact this
 ·repeat k_meth
  have:=fin (gB rs k0+r1.toNat) (by lia) (by lia);rw[show ((gB rs k0+r1.toNat:Nat):Int)=(gB rs k0:Nat)+r1 by lia] at this;exact this
 ·repeat k_meth
  exact fin _ (by lia) (by lia)
end
open M22 M82 M87 M75
def QV:Sp:=λvs H Q _=>∃(bx l m:Addr)(x y z:Int)(n:Nat)(zs ws:List V)(rs:List Rw)(ms:List MvX),vs=[.ref bx,.int (n:Nat),.ref l,.ref m]/\H bx=some (.lst [.int x,.int y,.int z])/\H l=some (.lst zs)/\aD H zs (aF rs)/\LyA rs n/\0<rs.length/\H m=some (.lst ws)/\aD H ws (dG ms)/\(∀m∈ms,okP m.2=true)/\ms.length<=40/\(bx≠l/\bx≠m)/\∀(cs:List Nat)(v:V)(x' y' z':Int)(q:Addr)(H':Hp),okP v=true->Kp bx H H'->H' bx=some (.lst [.int x',.int y',.int z'])->H' q=some (.tup [.str (tx cs),v])->Q (.ref q) H'
theorem YX{c:TT}{s u:TS}{D:Ends}{σ:L2.St}{H:Hp}(I:L2.St->Hp->Prop)(hr:∀σ H,I σ H->D.nx σ H)(k:∀D':Ends,(∀σ H,I σ H->D'.nx σ H)->Rk c s u D' σ H):Rk c s u D σ H:=k D hr
instance acg{K:W.Frag}{H:Hp}{Q:VK}{p q:Addr}{ys:List V}{ms:List MvX}[h:Hat H p (.lst ys)][t:TpA H ys (dG ms)][o:OkM ms][h2:Hat H q (.lst [])]:Go (Js K (.ref p) (.ref q) H Q) (Q (.bl (!decide (dG ms=[]))) H):=⟨Ew (zs:=[]) h.e t.e (xM o.e) h2.e⟩
def jy(L:List V)(H:Hp):Prop:=∀e∈L,∃q cs v,e=.ref q/\okP v=true/\H q=some (.tup [.str (tx cs),v])
theorem jy.st{L:List V}:∀H H',Tst H H'->jy L H->jy L H':=λH H' t h e he=>by
 obtain⟨q,cs,v,a,b,c⟩:=h e he;exact⟨q,cs,v,a,b,t _ _ rfl c⟩
theorem pick{H:Hp}{sm:Addr}{L:List V}[h:Hat H sm (.lst L)]:∃L',L'=L:=⟨L,rfl⟩
theorem jy.at{L:List V}{H:Hp}(g:jy L H){r:Int}(h0:0<=r)(h1:r<L.length):∃q cs v,AtI L r (.ref q)/\okP v=true/\H q=some (.tup [.str (tx cs),v]):=by
 obtain⟨e,he⟩:∃e,L[r.toNat]?=some e:=⟨_,qB (by lia)⟩;obtain⟨q,cs,v,rfl,b,c⟩:=g e (yY he);exact⟨q,cs,v,⟨by rw[show r=((r.toNat:Nat):Int) by lia];exact bB he⟩,b,c⟩
def pnd(rs:List Rw)(j:Nat):Bool:=match rs[j]? with
 | some r=>decide (0<r.pn)
 | none=>false
theorem QW:("nobody" : Str)=tx [110,111,98,111,100,121]:=by decide +kernel
section
variable{P:Program}{w:World}{K:W.Frag}{mg:xC}{base:Heap}{c:Nat->Addr}{aC ao R CL CP CS:Addr}
theorem xO(T:Txt K mg c R CL CP CS aC ao)(B:Bm mg base):Def P w K mg base CX0 12 "_law_told_right" ["_law_layout","_law_size","_law_moves_here","_law_due"] (QM CL ao bV bG):=by
 refine dA T.Gv zM λf cdv A outer s H vs Q E hr h=>?_
 obtain⟨x,p,dx,m,n,zs,ws,rs,s,ms,ps,v,rfl,ly,lya,s1,hm,tm,oks,m41,ev,hP,tk,k⟩:=h;have nd:=zM.nd;refine⟨_,(aq (psz 4 nd (dz dB rfl T.fK boot_list (aj (pv 2) ak)))
  (aq (psz 5 nd (aG (Bt T B) hr (aj (pv 0) (aj (pv 1) (aj (pv 4) ak)))))
  (aq (bK (PW.pt (jR (aU (ji hr) (pv 4) (pv 2) (aY _)) (iU (aU DR (pv 5) (pv 3) (aY _))))) (aB (aL fV)) bf)
  (aB (aL (KC (fB sV (pv 5) cZ (aY _)) (iV (iz (aR dO rfl T.bY boot_isinstance (aj (pv 5) (aj (j5 (T := "int") rfl T.wu boot_int) ak))) (iV (Rh (aR dO rfl T.bY boot_isinstance (aj (pv 5) (aj (j5 (T := "bool") rfl T.Di boot_bool) ak))))))))))))),?_⟩
 clear nd;rw[stE]
 try dsimp only[bT,bC]
 have hx:=ly.x;have hp:=ly.p;have tp:=ly.t;have few:=lya.l.few;have iK:=lya.h;have zl:zs.length=rs.length:=by rw[tp.1,aW]
 have F:SH H [ao] H [(ao,.tbl ps)] [.tps zs (aF rs),.tps ws (dG ms),eZ bV bG ps]:=(((SH.nil.fP List.mem_cons_self hP rfl (by simp)).jc tk).cU tm).cU tp;have gJ:=Old.mk (M:=[ao]) hx (nm1 (bZ hx hP (by simp)));have fL:=Old.mk (M:=[ao]) hp (nm1 (bZ hp hP (by simp)));have Vj:=Old.mk (M:=[ao]) hm (nm1 (bZ hm hP (by simp)));have okm:OkM ms:=⟨oks⟩
 repeat k_meth
 refine⟨x,p,dx,n,zs,rs,s,_,rfl,⟨aM,aM,TpA.e⟩,lya,s1,.inr ⟨p_,ws,ms,ps,rfl,aM,TpA.e,oks,m41,aM,SH.tab,λH2 ps2 kp hP2 tk2=>?_⟩⟩;replace F:=SH.jc (st:=TabOk.st) (F.kp kp hP2 LkU.u rfl) tk2;subst ev
 generalize dH n rs s ms=pr
 cases pr with
 | none =>
  simp only[pV]
  repeat k_meth
  refine⟨rfl,?_⟩;rw[gX rfl]
  repeat k_meth
  exact k _ _ F.kpo aM SH.tab
 | some pr =>
  simp only[pV]
  repeat k_meth
  exact k _ _ F.kpo aM SH.tab
theorem V5(T:Txt K mg c R CL CP CS aC ao):Def P w K mg base CX0 2 "_law_spoilt" ["_law_box_here","_law_many_here","_law_rows_here","_law_moved"] QV:=by
 refine dA T.Gp zH λf cdv A outer s H vs Q E hr h=>?_
 obtain⟨bx,l,m,x,y,z,n,zs,ws,rs,ms,rfl,hbx,hl,tp,lya,pos,hm,tm,oks,m40,nbl,k⟩:=h;have nd:=zH.nd;refine⟨_,(aq (oA (i:=4) nd rfl (Or.inl rfl) (N:=["_law_k","_law_rows_here"]) (nt:=1) (fr:=[2]) (cL rfl T.cY (aj (aR bN rfl T.eE boot_len (aj (pv 2) ak)) ak)) (λ_ _ _ _=>(cj (i:=0) (show (["_law_k","_law_rows_here"]:List Str).Nodup from by decide +kernel) rfl (Or.inl rfl))) (λ_ _ _ _=>lO (aU fY (aH (cX (K:=K) rfl) (aH (uJ (K:=K) rfl) (pv 1) (pv 0) (λ_ _=>rfl)) au (λ_ _=>rfl)) au (aY _))) (λ_ _ _ _=>(pv 0)))
  (aq (psz 5 nd (aG (bJ T) hr (aj (pv 0) (aj (aR bN rfl T.eE boot_len (aj (pv 2) ak)) ak))))
  (aq (bK (PW.pt (tO (aU (ji hr) (pv 4) (aX ak) (aY _)) (sO (aU jf (aG (bJ T) hr (aj (pv 0) (aj au ak))) au (aY _))))) (aB (psz 5 nd (aH aO (pv 4) (aG (bJ T) hr (aj (pv 0) (aj (aR bN rfl T.eE boot_len (aj (pv 4) ak)) ak))) (λ_ _=>rfl)))) bf)
  (aq (jB (aG (Dv T) hr (aj (pv 1) (aj (pv 2) (aj (pv 5) ak)))) (iW rfl (bL (pgz 6 nd) (bL (pgz 7 nd) fu))))
  (aq (psz 8 nd (aX (aj (bM (aj (aH aZ (aH aO (pv 2) (pv 5) (λ_ _=>rfl)) au (λ_ _=>rfl)) (aj (aH aZ (aH aO (pv 2) (pv 5) (λ_ _=>rfl)) au (λ_ _=>rfl)) ak))) (aj (bM (aj (aH aZ (aH aO (pv 2) (pv 5) (λ_ _=>rfl)) au (λ_ _=>rfl)) (aj (aN bI (pv 6) (aG (bJ T) hr (aj (pv 0) (aj (aN bI (aN b_ (pv 7) (pv 6)) au) ak)))) ak))) (aj (bM (aj (aH aZ (aH aO (pv 2) (pv 5) (λ_ _=>rfl)) au (λ_ _=>rfl)) (aj (pv 6) ak))) ak)))))
  (aq (psz 8 nd (aN gR (pv 8) (aX (aj (bM (aj (aH aZ (aH aO (pv 2) (pv 5) (λ_ _=>rfl)) au (λ_ _=>rfl)) (aj (aN bI (aN bI (pv 7) au) (aG (bJ T) hr (aj (pv 0) (aj au ak)))) ak))) (aj (bM (aj (aH aZ (aH aO (pv 2) (pv 5) (λ_ _=>rfl)) au (λ_ _=>rfl)) (aj (aN b_ (pv 6) au) ak))) (aj (bM (aj jz (aj au ak))) (aj (bM (aj (aH aZ (aH aO (pv 2) (pv 5) (λ_ _=>rfl)) au (λ_ _=>rfl)) (aj cZ ak))) ak)))))))
  (aq (bK (aU (ji hr) (pv 3) (aX ak) (aY _)) (aB (psz 8 nd (aN gR (pv 8) (aX (aj (aH aO (pv 3) au (λ_ _=>rfl)) (aj (bM (aj (aH aZ (aH aO (pv 2) (pv 5) (λ_ _=>rfl)) au (λ_ _=>rfl)) (aj fV ak))) ak)))))) bf)
  (aB (aL (aH aO (pv 8) (aG (bJ T) hr (aj (pv 0) (aj (aR bN rfl T.eE boot_len (aj (pv 8) ak)) ak))) (λ_ _=>rfl))))))))))),?_⟩
 clear nd;rw[stE]
 try dsimp only[bT,bC]
 have F:SH H [bx] H [(bx,.lst [.int x,.int y,.int z])] []:=SH.nil.fP List.mem_cons_self hbx rfl (by simp);have few:=lya.l.few;have iK:=lya.h;have jW:=Old.mk (M:=[bx]) hl (nm1 (Ne.symm nbl.1));have Vj:=Old.mk (M:=[bx]) hm (nm1 (Ne.symm nbl.2));replace F:=(F.cU tm).cU tp;have okm:OkM ms:=⟨oks⟩;have zl:zs.length=rs.length:=by rw[tp.1,aW]
 repeat k_meth
 refine nU (a:=0) (fvs:=[some (.ref l)]) (p:=pnd rs) (by lia) rfl (λj H1 R j1 j2 s1 kk=>?_) λso H1 n1=>?_
 ·have hl1:H1 l=some (.lst zs):=s1 _ _ hl;obtain⟨r,er⟩:∃r,rs[j]?=some r:=⟨_,qB (by lia)⟩;obtain⟨q2,f1,f2⟩:=tp.2 j (cB r) (by unfold aF;rw[List.getElem?_map,er];rfl);have f2:=s1 _ _ f2;clear F;have F:=SH.n0 H1;have afr:=om hl1;have J5:=om f2;have a1:AtI zs ((j:Nat):Int) (.ref q2):=⟨bB f1⟩;have pe:pnd rs j=decide (0<r.pn):=by unfold pnd;rw[er]
  rw[pe] at kk;by_cases hc:0<r.pn
  ·have e9:(0:Int)<(r.pn:Int):=by lia
   rw[gX hc] at kk
   repeat k_meth
   rw[gX e9];exact kk _ (Same.refl _)
  ·have e9:¬ (0:Int)<(r.pn:Int):=by lia
   rw[gS hc] at kk
   repeat k_meth
   rw[gS e9];exact kk _ (Same.refl _)
 rw[show (((zs.length:Nat):Int)).toNat=rs.length by lia] at n1;have pj:∀j∈(lN 0 rs.length).filter (pnd rs),j<rs.length:=λj hj=>by
  have:=Ie.mp (List.mem_filter.mp hj).1
  lia
 have pln:(xJ ((lN 0 rs.length).filter (pnd rs))).length<=40:=by
  have:=List.length_filter_le (pnd rs) (lN 0 rs.length);rw[Bu];unfold lN at *;rw[wP,List.length_range] at this
  lia
 obtain⟨pj2,epj⟩:∃z,z=xJ ((lN 0 rs.length).filter (pnd rs)):=⟨_,rfl⟩;rw[<- epj] at n1 pln;have pj3:∀j∈pj2,∃k:Nat,j=(k:Int)/\k<rs.length:=λj hj=>by
  rw[epj] at hj;obtain⟨k,hk,rfl⟩:=jI.mp hj;exact⟨k,rfl,pj k hk⟩
 clear pj epj;replace F:=F.newL n1;clear n1
 iterate 20 k_meth
 obtain⟨k1,rfl⟩:∃k1:Nat,r_=(k1:Int):=⟨r_.toNat,by lia⟩;have k1l:k1<rs.length:=by lia
 refine YX (λσ' H'=>∃(k0:Nat)(b1 b2 b3:Int),k0<rs.length/\σ'=[some (.ref bx),some (.int (n:Nat)),some (.ref l),some (.ref m),some (.ref so),some (.int (k0:Nat)),none,none,none]/\SH H [bx] H' [(so,.lst (pj2.map V.int)),(bx,.lst [.int b1,.int b2,.int b3])] [.tps zs (aF rs),.tps ws (dG ms)]) ?_ λD' hD=>?_
 ·clear F;rintro σ' H' ⟨k0,b1,b2,b3,hk,rfl,F⟩;obtain⟨r,er⟩:∃r,rs[k0]?=some r:=⟨_,qB hk⟩;obtain⟨q1,e1,e2⟩:∃q1,zs[k0]?=some (.ref q1)/\H q1=some (.tup (cB r)):=tp.2 k0 _ (by unfold aF;rw[List.getElem?_map,er];rfl);have lH:=Old.mk (M:=[bx]) e2 (nm1 (bZ e2 hbx (by simp)));have a1:AtI zs ((k0:Nat):Int) (.ref q1):=⟨bB e1⟩;have lr:=Ii lya er
  repeat k_meth
  refine⟨r,few,er,λqr H2 s2 f2=>?_⟩;replace F:=(F.same s2).qC f2
  repeat k_meth
  rename_i sm9;obtain⟨L,eL⟩:=pick (H:=H_) (sm:=sm9);have all:jy L H_:=by
   intro e he;rw[eL] at he;simp only[List.mem_append,List.mem_cons,List.not_mem_nil,or_false] at he;rcases he with(rfl|rfl|rfl)|(rfl|rfl|rfl|rfl)
   ·exact⟨_,_,_,rfl,rfl,aM⟩
   ·exact⟨_,_,_,rfl,rfl,aM⟩
   ·exact⟨_,_,_,rfl,rfl,aM⟩
   ·exact⟨_,_,_,rfl,rfl,aM⟩
   ·exact⟨_,_,_,rfl,rfl,aM⟩
   ·exact⟨_,[110,111,98,111,100,121],.int 0,rfl,rfl,by rw[<- QW];exact aM⟩
   ·exact⟨_,_,_,rfl,rfl,aM⟩
  have l7:L.length=7:=by rw[eL];rfl
  rw[<- eL] at F;have F2:SH H [bx] H_ [(sm9,.lst L),(bx,.lst [.int x_,.int y_,.int z_])] [.tps zs (aF rs),.tps ws (dG ms)]:=F.sub SbC.s SbI.s;clear F eL;have F:=F2.jc (st:=jy.st) all;clear F2;by_cases h0:dG ms=[]
  ·rw[if_neg (by simp[h0])]
   repeat k_meth
   obtain⟨q,cs,v,at9,okv,hq⟩:=jy.at (F.im (.fct (jy L) jy.st) (by simp)) lo_ hi_
   repeat k_meth
   exact k cs v _ _ _ q _ okv F.kpo aM hq
  ·rw[if_pos (by simp[h0])];obtain⟨m0,mt,rfl⟩:∃a b,ms=a::b:=by
    cases ms with
    | nil=>exact gL rfl h0
    | cons a b=>exact⟨a,b,rfl⟩
   obtain⟨q0,w0,hq0⟩:=tm.2 0 (mvX m0) rfl;have ok0:okP m0.2=true:=oks m0 zC;have a0:AtI ws 0 (.ref q0):=⟨bB (j:=0) w0⟩
   repeat k_meth
   rename_i _ tq _ _ _;have all2:jy (L++[.ref q0,.ref tq]) H_:=by
    intro e he;rcases wS.mp he with he|he
    ·exact F.im (.fct (jy L) jy.st) (by simp) e he
    ·simp only[List.mem_cons,List.not_mem_nil,or_false] at he;rcases he with rfl|rfl
     ·exact⟨q0,m0.1,m0.2,rfl,ok0,F.fr _ _ (nm1 (bZ hq0 hbx (by simp))) hq0⟩
     ·exact⟨_,_,_,rfl,rfl,aM⟩
   obtain⟨q,cs,v,at9,okv,hq⟩:=all2.at lo_ hi_
   repeat k_meth
   exact k cs v _ _ _ q _ okv F.kpo aM hq
 ·rcases D' with⟨nx,rt,bk,ct⟩;have hD:∀σ H,_->nx σ H:=hD;have so2:SqA K H_ so (pj2.map V.int):=inferInstance
  repeat k_meth
  by_cases hp:pj2=[]
  ·rw[if_neg (by simp[hp])]
   repeat k_meth
   exact hD _ _ ⟨k1,x_,y_,z_,k1l,rfl,F.sub SbC.s SbI.s⟩
  ·rw[if_pos (by simp[hp])];have pp:0<pj2.length:=List.length_pos_iff.mpr hp;have pl:(pj2.map V.int).length=pj2.length:=wP ..
   repeat k_meth
   refine d7 (λh=>?_) (λh=>?_)
   ·repeat k_meth
    obtain⟨j,ej⟩:∃j,pj2[r_.toNat]?=some j:=⟨_,qB (by lia)⟩;obtain⟨k2,rfl,hk2⟩:=pj3 j (yY ej);have a7:AtI (pj2.map V.int) r_ (.int (k2:Nat)):=⟨by
     rw[show r_=((r_.toNat:Nat):Int) by lia];exact bB (by rw[wT,ej];rfl)⟩
    repeat k_meth
    exact hD _ _ ⟨k2,x_,y_,z_,hk2,rfl,F.sub SbC.s SbI.s⟩
   ·repeat k_meth
    exact hD _ _ ⟨k1,x_,y_,z_,k1l,rfl,F.sub SbC.s SbI.s⟩
end
open M22 M82 M87 M75
def QX:Sp:=λvs H Q _=>∃(bx l:Addr)(x y z:Int)(n:Nat)(zs:List V)(rs:List Rw),vs=[.ref bx,.int (n:Nat),.ref l]/\H bx=some (.lst [.int x,.int y,.int z])/\H l=some (.lst zs)/\aD H zs (aF rs)/\LyA rs n/\bx≠l/\∀(ms:List MvX)(ws:List V)(x' y' z':Int)(q:Addr)(H':Hp),(∀m∈ms,okP m.2=true)->ms.length<=41->Kp bx H H'->H' bx=some (.lst [.int x',.int y',.int z'])->H' q=some (.lst ws)->aD H' ws (dG ms)->(∀b u,H b=some u->b≠q)->Q (.ref q) H'
def fre(rs:List Rw)(j:Nat):Bool:=match rs[j]? with
 | some r=>decide (r.pn=0)
 | none=>false
theorem BJ(ms:List MvX)(m:MvX):dG (ms++[m])=dG ms++[mvX m]:=by unfold dG;rw[List.map_append];rfl
theorem Rel.at{a b:List Rw}(h:Rel a b):∀{k:Nat} {r:Rw},a[k]?=some r->∃s,b[k]?=some (fQ r s):=by
 induction h with
 | nil=>intro k r e;simp at e
 | cons h t ih =>
  intro k r e;cases k with
  | zero=>cases e;exact⟨_,rfl⟩
  | succ k=>exact ih (by simpa using e)
section
variable{P:Program}{w:World}{K:W.Frag}{mg:xC}{base:Heap}{c:Nat->Addr}{aC ao R CL CP CS:Addr}
theorem V6(T:Txt K mg c R CL CP CS aC ao):Def P w K mg base CX0 3 "_law_moves" ["_law_box_here","_law_many_here","_law_rows_here"] QX:=by
 refine dA T.Gq zJ λf cdv A outer s H vs Q E hr h=>?_
 obtain⟨bx,l,x,y,z,n,zs,rs,rfl,hbx,hl,tp,lya,nbl,k⟩:=h;have nd:=zJ.nd
 refine' ⟨_,?bd0,?main⟩
 case bd0 =>
  refine' aq ?s1 ?r1
  case r1 =>
   refine' aq ?s2 ?r2
   case r2 =>
    refine' aq ?s3 ?r3
    case r3 =>
     refine' aq ?s4 ?r4
     case r4 =>
      refine' aB ?s5
      case s5 =>
       exact(aL (pv 3))
     case s4 =>
      exact(bK (PW.pt (tO (aU (ji hr) (pv 2) (aX ak) (aY _)) (tO (aU nZ (aR bN rfl T.eE boot_len (aj (pv 3) ak)) au (aY _)) (sO (aU jf (aG (bJ T) hr (aj (pv 0) (aj au ak))) au (aY _)))))) (aB (cg (bR (pv 3) (aG (V5 T) hr (aj (pv 0) (aj (pv 1) (aj (pv 2) (aj (pv 3) ak)))))))) bf)
    case s3 =>
     refine' cH ?p8 ?q8 ?i8 ?g8 ?d8 ?h8
     case p8=>exact PassesOwn.never
     case q8=>exact rfl
     case h8=>exact λ_=>rfl
     case g8=>exact(pgz 4 nd)
     case d8 =>
      refine' aB ?s9
      case s9 =>
       exact(bK (aU fY (aG (bJ T) hr (aj (pv 0) (aj au ak))) au (aY _)) (aq (psz 5 nd (aG (V4 T) hr (aj (pv 0) (aj (pv 1) (aj (pv 2) (aj (pv 4) ak))))))
       (aq (cg (bR (pv 3) (bM (aj (aH aZ (aH aO (pv 2) (pv 4) (λ_ _=>rfl)) au (λ_ _=>rfl)) (aj (pv 5) ak)))))
       (aB (jB (bM (aj (aH aZ (aH aO (pv 2) (pv 4) (λ_ _=>rfl)) au (λ_ _=>rfl)) (aj (pv 5) (aj (aH aZ (aH aO (pv 2) (pv 4) (λ_ _=>rfl)) au (λ_ _=>rfl)) (aj au ak))))) (qj (pv 2) (pv 4) gY))))) bf)
     case i8 =>
      refine' cC ?l11
      case l11 =>
       exact(aG (V3 T) hr (aj (pv 0) (aj (dI (N:=["_law_k","_law_rows_here"]) (nt:=1) (fr:=[2]) (cL rfl T.cY (aj (aR bN rfl T.eE boot_len (aj (pv 2) ak)) ak)) (λ_ _ _ _=>(cj (i:=0) (show (["_law_k","_law_rows_here"]:List Str).Nodup from by decide +kernel) rfl (Or.inl rfl))) (λ_ _ _ _=>lO (aU jf (aH (cX (K:=K) rfl) (aH (uJ (K:=K) rfl) (pv 1) (pv 0) (λ_ _=>rfl)) au (λ_ _=>rfl)) au (aY _))) (λ_ _ _ _=>(pv 0))) ak)))
   case s2 =>
    exact(psz 3 nd (aX ak))
  case s1 =>
   exact(psz 2 nd (dz (mK (K:=K) rfl) rfl T.fK boot_list (aj (pv 2) ak)))
 clear nd;rw[stE]
 try dsimp only[bT,bC]
 have F:SH H [bx] H [(bx,.lst [.int x,.int y,.int z])] []:=SH.nil.fP List.mem_cons_self hbx rfl (by simp);have few:=lya.l.few;have iK:=lya.h;have jW:=Old.mk (M:=[bx]) hl (nm1 (Ne.symm nbl));replace F:=F.cU tp;have zl:zs.length=rs.length:=by rw[tp.1,aW]
 repeat k_meth
 rename_i lr
 rename Addr=>mv_
 refine nU (a:=0) (fvs:=[some (.ref lr)]) (p:=fre rs) (by lia) rfl (λj H1 R j1 j2 s1 kk=>?_) λso H1 n1=>?_
 ·have hl1:H1 lr=some (.lst zs):=s1 _ _ aM;obtain⟨r,er⟩:∃r,rs[j]?=some r:=⟨_,qB (by lia)⟩;obtain⟨q2,f1,f2⟩:=(F.tps (ys:=zs) (rs:=aF rs) LkP.m).2 j (cB r) (by unfold aF;rw[List.getElem?_map,er];rfl);have f2:=s1 _ _ f2;clear F;have F:=SH.n0 H1;have afr:=om hl1;have J5:=om f2;have a1:AtI zs ((j:Nat):Int) (.ref q2):=⟨bB f1⟩;have pe:fre rs j=decide (r.pn=0):=by unfold fre;rw[er]
  rw[pe] at kk;by_cases hc:r.pn=0
  ·have e9:(r.pn:Int)=0:=by lia
   rw[gX hc] at kk
   repeat k_meth
   rw[gX e9];exact kk _ (Same.refl _)
  ·have e9:¬ (r.pn:Int)=0:=by lia
   rw[gS hc] at kk
   repeat k_meth
   rw[gS e9];exact kk _ (Same.refl _)
 rw[show (((zs.length:Nat):Int)).toNat=rs.length by lia] at n1;obtain⟨is,eis⟩:∃z,z=xJ ((lN 0 rs.length).filter (fre rs)):=⟨_,rfl⟩;rw[<- eis] at n1;have isl:is.length<=40:=by
  have:=List.length_filter_le (fre rs) (lN 0 rs.length);rw[eis,Bu];unfold lN at *;rw[wP,List.length_range] at this
  lia
 have isk:∀j∈is,∃(k:Nat)(r:Rw),j=(k:Int)/\rs[k]?=some r/\r.pn=0:=λj hj=>by
  rw[eis] at hj;obtain⟨k,hk,rfl⟩:=jI.mp hj;have pk:=(List.mem_filter.mp hk).2;unfold fre at pk;cases e:rs[k]? with
  | none=>rw[e] at pk;cases pk
  | some r=>rw[e] at pk;exact⟨k,r,rfl,e,of_decide_eq_true pk⟩
 clear eis;replace F:=F.newL n1;clear n1;have nso:bx≠so:=SH.neC (F:=F)
 repeat k_meth
 refine⟨bx,so,x,y,z,is,rfl,aM,aM,by lia,nso,λx1 y1 z1 js jl H2 pm kp2 hb2 hj2 fr2=>?_⟩;have F2:SH H [bx] H2 [(jl,.lst (js.map V.int)),(lr,.lst zs),(mv_,.lst []),(bx,.lst [.int x1,.int y1,.int z1])] [.tps zs (aF rs)]:=by
  have G:=F.sub (L':=[(lr,.lst zs),(mv_,.lst []),(bx,.lst [.int x,.int y,.int z])]) (I':=[.tps zs (aF rs)]) SbC.s SbI.s;exact two_steps (R:=λH'=>SH H [bx] H' [(jl,.lst (js.map V.int)),(lr,.lst zs),(mv_,.lst []),(bx,.lst [.int x1,.int y1,.int z1])] [.tps zs (aF rs)]) ⟨_,G.raw LkL.m⟩ kp2 hb2 hj2 fr2 λHm f1 e1 n1=>(G.kp f1 e1 LkU.u rfl).newL n1
 clear F;have F:=F2;clear F2;have jll:js.length=is.length:=pm.length_eq;have nlr:lr≠bx:=SH.neC (F:=F)
 repeat k_meth
 refine fH (xs:=js.map V.int) (λi σ' H'=>∃(o4 o5:Option V)(T:List Rw)(ys ws:List V)(ms:List MvX)(x y z:Int),σ'=[some (.ref bx),some (.int (n:Nat)),some (.ref lr),some (.ref mv_),o4,o5]/\Rel rs T/\LyA T n/\ys.length=rs.length/\ms.length<=i/\ws.length=ms.length/\(∀m∈ms,okP m.2=true)/\SH H [bx] H' [(jl,.lst (js.map V.int)),(lr,.lst ys),(mv_,.lst ws),(bx,.lst [.int x,.int y,.int z])] [.tps ys (aF T),.tps ws (dG ms)]) ⟨_,_,rs,zs,[],[],x1,y1,z1,rfl,Rel.refl rs,lya,zl,Nat.le_refl _,rfl,by simp,(F.cU (ys:=[]) (rs:=dG []) aD.nil).sub SbC.s SbI.s⟩ ?_ ?_ ?_
 ·clear F;rintro i σ' H' _ ⟨_,_,T,ys,ws,ms,x,y,z,rfl,rl,lyT,yl,ml,wl,oks,F⟩;exact SqA.e
 ·clear F;rintro i v σ' H' hv ⟨_,_,T,ys,ws,ms,x,y,z,rfl,rl,lyT,yl,ml,wl,oks,F⟩;have hi:=(qA.mp hv).1;rw[wP] at hi;obtain⟨k0,r,er,rfl,pn⟩:∃(k:Nat)(r:Rw),rs[k]?=some r/\v=.int (k:Nat)/\r.pn=0:=by
   rw[wT] at hv;cases h:js[i]? with
   | none=>rw[h] at hv;cases hv
   | some g =>
    rw[h] at hv;obtain⟨k,r,rfl,e,p⟩:=isk g (pm.mem_iff.mp (yY h));exact⟨k,r,e,(nI hv).symm,p⟩
  obtain⟨s0,et⟩:=rl.at er;have hk:k0<T.length:=(qA.mp et).1;have lT:=rl.len;obtain⟨q3,f1,f2⟩:=(TpA.e (H:=H') (ys:=ys) (rs:=aF T)).2 k0 (cB (fQ r s0)) (by unfold aF;rw[List.getElem?_map,et];rfl);have a1:AtI ys ((k0:Nat):Int) (.ref q3):=⟨bB f1⟩;replace F:=F.qC f2
  repeat k_meth
  refine d7 (λh=>?_) (λh=>?_)
  ·repeat k_meth
   refine⟨bx,lr,x_,y_,z_,n,ys,T,_,k0,rfl,aM,aM,TpA.e,lyT,et,Ne.symm nlr,λto xa ya za H3 t1 t2 kp hb=>?_⟩;replace F:=F.kpL kp hb LkU.u
   repeat k_meth
   rename_i q4 _ _;have pn0:(fQ r s0).pn=0:=pn;have rw9:[V.str (tx (fQ r s0).nm),V.int (to:Nat),V.int ((fQ r s0).sz:Nat),V.int 0]=cB (fQ (fQ r s0) to):=by
    show _=[V.str (tx r.nm),V.int (to:Nat),V.int (r.sz:Nat),V.int (r.pn:Nat)];rw[pn]
    rfl
   rw[Int.toNat_natCast,rw9] at F;have t9:aD H_ (ys.set k0 (.ref p_)) (aF (mvT T k0 to)):=by
    rw[Od et];exact Bw (F.tps (ys:=ys) (rs:=aF T) LkP.m) aM
   have t8:aD H_ (ws++[.ref q4]) (dG (ms++[(r.nm,.int (to:Nat))])):=by
    rw[BJ];exact aD.snoc (F.tps (ys:=ws) (rs:=dG ms) LkP.m) aM
   replace F:=(F.cU t8).cU t9;exact⟨_,_,mvT T k0 to,ys.set k0 (.ref p_),ws++[.ref q4],ms++[(r.nm,.int (to:Nat))],xa,ya,za,rfl,rl.put et pn0,fO lyT ⟨et,pn0,t1,t2⟩,by rw[List.length_set];exact yl,by rw[yT];show ms.length+1<=i+1;lia,by rw[yT,yT,wl];rfl,λm hm=>by
    rcases wS.mp hm with hm|hm
    ·exact oks m hm
    ·rw[uS.mp hm];rfl,F.sub SbC.s SbI.s⟩
  ·repeat k_meth
   exact⟨_,_,T,ys,ws,ms,x_,y_,z_,rfl,rl,lyT,yl,by lia,wl,oks,F.sub SbC.s SbI.s⟩
 ·clear F;rintro σ' H' ⟨_,_,T,ys,ws,ms,x,y,z,rfl,rl,lyT,yl,ml,wl,oks,F⟩;rw[wP] at ml;have fin:∀(ms2:List MvX)(ws2:List V)(x y z:Int)(H9:Hp),(∀m∈ms2,okP m.2=true)->ms2.length<=41->SH H [bx] H9 [(mv_,.lst ws2),(bx,.lst [.int x,.int y,.int z])] [.tps ws2 (dG ms2)]->Q (.ref mv_) H9:=λms2 ws2 x y z H9 o l G=>k ms2 ws2 x y z mv_ H9 o l G.kpo aM aM TpA.e (G.fresh (LkL.m (o:=.lst _)) (nm1 (SH.neC (F:=G))))
  repeat k_meth
  by_cases h0:aF T=[]
  ·rw[if_neg (by simp[h0])]
   repeat k_meth
   exact fin ms ws x y z _ oks (by lia) (F.sub SbC.s SbI.s)
  ·rw[if_pos (by simp[h0])];have tpos:0<T.length:=List.length_pos_iff.mpr λe=>h0 (by rw[e];rfl)
   have nmv:mv_≠bx:=SH.neC (F:=F)
   repeat k_meth
   by_cases h40:(ws.length:Int)<40
   ·rw[zS (gX h40)]
    repeat k_meth
    refine d7 (λh=>?_) (λh=>?_)
    ·repeat k_meth
     refine⟨bx,lr,mv_,x_,y_,z_,n,ys,ws,T,ms,rfl,aM,aM,TpA.e,lyT,tpos,aM,TpA.e,oks,by lia,⟨Ne.symm nlr,Ne.symm nmv⟩,λcs v xa ya za q H3 okv kp hb hq=>?_⟩;replace F:=(F.kpL kp hb LkU.u).qC hq
     repeat k_meth
     have t8:aD H_ (ws++[.ref q]) (dG (ms++[(cs,v)])):=by
      rw[BJ];exact aD.snoc (F.tps (ys:=ws) (rs:=dG ms) LkP.m) aM
     replace F:=F.cU t8;exact fin (ms++[(cs,v)]) (ws++[.ref q]) xa ya za _ (λm hm=>by
      rcases wS.mp hm with hm|hm
      ·exact oks m hm
      ·rw[uS.mp hm];exact okv) (by rw[yT];show ms.length+1<=41;lia) (F.sub SbC.s SbI.s)
    ·repeat k_meth
     exact fin ms ws x_ y_ z_ _ oks (by lia) (F.sub SbC.s SbI.s)
   ·rw[if_neg (by simp;lia)]
    repeat k_meth
    exact fin ms ws x y z _ oks (by lia) (F.sub SbC.s SbI.s)
end
open M22 M82 M87 M75
theorem KC{X:Cx}{e:Expr}{t1 t2:TE}(h1:PE X e t1)(h2:PE X e t2):PE X e (λσ H Q=>t1 σ H Q\/t2 σ H Q):=λpins s σ H Q I h=>h.elim (h1 pins s σ H Q I) (h2 pins s σ H Q I)
structure YZ(H:Hp)(n:Nat)(rs:List Rw)(s:Nat)(c:Chc)(g b:Nat)(m hd:Addr)(ms:List V):Prop where
 m:H m=some (.lst ms)
 t:aD H ms (fj (kO (tgC n rs (s:Nat) g b)))
 h:H hd=some (.tup [.int (((edR (rs.take g).reverse:Nat):Int)-(b:Int)),.int ((b:Int)+eH n rs g+yOf n rs s g b)])
def QZ(CP CS:Addr)(H:Hp)(n:Nat)(rs:List Rw)(s:Nat)(y:Addr):Prop:=(lcF n rs (s:Nat)=none/\∃dy q,H y=some (.ins CS dy [("stretches", .ref q)]))\/∃c g b dy m hd ms,lcF n rs (s:Nat)=some c/\Dq n rs s c g b/\H y=some (.ins CP dy (pF c.1 (g:Nat) m hd))/\YZ H n rs s c g b m hd ms
theorem YZ.same{H H':Hp}{n:Nat}{rs:List Rw}{s:Nat}{c:Chc}{g b:Nat}{m hd:Addr}{ms:List V}(h:YZ H n rs s c g b m hd ms)(sm:Same H H'):YZ H' n rs s c g b m hd ms:=⟨sm _ _ h.m,h.t.same sm,sm _ _ h.h⟩
theorem QZ.same{CP CS:Addr}{H H':Hp}{n:Nat}{rs:List Rw}{s:Nat}{y:Addr}(h:QZ CP CS H n rs s y)(sm:Same H H'):QZ CP CS H' n rs s y:=by
 rcases h with⟨e,dy,q,h⟩|⟨c,g,b,dy,m,hd,ms,e,co,hy,p⟩
 ·exact .inl ⟨e,dy,q,sm _ _ h⟩
 ·exact .inr ⟨c,g,b,dy,m,hd,ms,e,co,sm _ _ hy,p.same sm⟩
theorem hid{B:List Addr}{H:Hp}{a:Addr}{u:HO}(e:H a=some u)(n:a ∉ B):hides B H a=some u:=kJ.mpr ⟨n,e⟩
theorem ach{CL CP CS P x p dx bx:Addr}{pos:Pos}{qual:Str}{H:Hp}{Q:VK}{E:XK}{n s:Nat}{zs xs:List V}{rs:List Rw}{ps:xI}(ly:LyH CL H x p dx n zs rs)(lya:LyA rs n)(s1:1<=s)(hP:H P=some (.tbl ps))(tk:TabOk pos qual ps H)(hb:H bx=some (.lst xs))(nb:bx≠P)
  (k:∀y H' ps',Kp P H H'->H' P=some (.tbl ps')->TabOk pos qual ps' H'->QZ CP CS (hides [bx,P] H') n rs s y->Q (.ref y) H'):NZ CL CP CS P pos qual [.ref x,.int (s:Nat)] H Q E:=by
 refine⟨x,p,dx,n,zs,rs,s,ps,rfl,ly,lya,s1,hP,tk,?_⟩;have nB:∀{H':Hp} {c:Addr} {u:HO} {ps':xI},H' P=some (.tbl ps')->H' c=some u->(∀q,u≠.tbl q)->c≠bx->c ∉ [bx,P]:=λhP' hc nt ncb=>by
  simp only[List.mem_cons,List.not_mem_nil,or_false,not_or];refine⟨ncb,λz=>?_⟩;subst z;rw[hc] at hP';exact nt _ (nI hP')
 cases e:lcF n rs (s:Nat) with
 | none =>
  refine .inl ⟨rfl,λy dy q ys H' F=>?_⟩;have hy:H' y=some (.ins CS dy [("stretches", .ref q)]):=aM;have hP':=F.sm _ _ hP;refine k y H' ps (λa u _ e=>F.sm a u e) hP' (TabOk.st _ _ (λa o _ e=>F.sm a o e) tk) (.inl ⟨e,dy,q,hid hy (nB hP' hy (by simp) λz=>F.fresh (LkL.m (a:=y)) nm0 _ _ hb z.symm)⟩)
 | some c =>
  obtain⟨_,g,b,co⟩:=YF lya e;refine .inr ⟨c,g,b,rfl,co,λy dy m ms t ps' H' F=>?_⟩;have hy:H' y=some (.ins CP dy (pF c.1 (g:Nat) m t)):=aM;have hm:H' m=some (.lst ms):=aM;have hP':H' P=some (.tbl ps'):=aM;have ht:H' t=some (.tup _):=F.tup (q:=t) LkI.m;have tm:aD H' ms _:=F.tps (ys:=ms) LkP.m;have hb':H' bx=some (.lst xs):=F.kpo _ _ nb hb;have hi:=N5 lya co;rw[hi.1,hi.2] at ht;have nyP:y ∉ [P]:=λz=>by rw[uS.mp z,hP'] at hy;cases hy
  have nmP:m ∉ [P]:=λz=>by rw[uS.mp z,hP'] at hm;cases hm
  refine k y H' ps' F.kpo hP' SH.tab (.inr ⟨c,g,b,dy,m,t,ms,e,co,hid hy (nB hP' hy (by simp) λz=>F.fresh (LkL.m (a:=y)) nyP _ _ hb z.symm),⟨hid hm (nB hP' hm (by simp) λz=>F.fresh (LkL.m (a:=m)) nmP _ _ hb z.symm),⟨tm.1,λj r ej=>?_⟩,hid ht (nB hP' ht (by simp) λz=>?_)⟩⟩)
  ·obtain⟨q,a1,b1⟩:=tm.2 j r ej;exact⟨q,a1,hid b1 (nB hP' b1 (by simp) λz=>by rw[z,hb'] at b1;cases b1)⟩
  ·rw[z,hb'] at ht;cases ht
theorem Kv{n s:Nat}{rs:List Rw}{ms:List MvX}{d:Int}(lya:LyA rs n)(s1:1<=s)(h:dH n rs s ms=some d):∃c,lcF n rs (s:Nat)=some c/\c.1<=d:=by
 unfold dH at h;cases e:cP n rs [] ms with
 | none=>rw[e] at h;cases h
 | some w =>
  rw[e] at h;have wk:=qd lya e;by_cases z:nR n (bF rs w)<(s:Int)
  ·have h:(if nR n (bF rs w)<(s:Int) then none else some ((cJ rs w:Nat):Int))=some d:=h;rw[zS z] at h;cases h
  ·have h:(if nR n (bF rs w)<(s:Int) then none else some ((cJ rs w:Nat):Int))=some d:=h;rw[yB z] at h;rw[<- nI h];exact VL lya s1 wk.1 wk.2.2.1 (by lia)
theorem Q0{n s g b:Nat}{rs:List Rw}{c:Chc}(lya:LyA rs n)(h:Dq n rs s c g b):fj (kO (tgC n rs (s:Nat) g b))=dG (toX (eV (tgC n rs (s:Nat) g b)))/\dH n rs s (toX (eV (tgC n rs (s:Nat) g b)))=some c.1/\(eV (tgC n rs (s:Nat) g b)).length<=40:=by
 have ok:=Ds lya h;have wk:=Kc lya ok.2.2 ok.1 ok.2.1;have pp:=Kq lya h;refine⟨?_,?_,wk.fem⟩
 ·rw[Ht];exact NT λq hq=>((ChS.le ok.1).2 q hq).1
 ·unfold dH;rw[Nx lya wk];show (if nR n _<(s:Int) then none else some ((cJ rs _:Nat):Int))=some c.1;rw[yB (by have:=pp.2;lia),pp.1]
def Ij(CL P:Addr)(pos:Pos)(qual:Str):Sp:=λvs H Q _=>∃(bx x p dx l:Addr)(b1 b2 b3:Int)(n:Nat)(zs ys:List V)(rs:List Rw)(s:Nat)(ps:xI),vs=[.ref bx,.ref x,.int (n:Nat),.ref l,.int (s:Nat)]/\H bx=some (.lst [.int b1,.int b2,.int b3])/\LyH CL H x p dx n ys rs/\LyA rs n/\H l=some (.lst zs)/\aD H zs (aF rs)/\1<=s/\H P=some (.tbl ps)/\TabOk pos qual ps H/\(bx≠l/\bx≠p) /\
 ∀(x' y' z':Int)(ps':xI)(H':Hp),(∀b u,b ∉ [bx,P]->H b=some u->H' b=some u)->H' bx=some (.lst [.int x',.int y',.int z'])->H' P=some (.tbl ps')->TabOk pos qual ps' H'->Q (.bl true) H'
section
variable{P:Program}{w:World}{K:W.Frag}{mg:xC}{base:Heap}{c:Nat->Addr}{aC ao R CL CP CS:Addr}
theorem xP(T:Txt K mg c R CL CP CS aC ao)(B:Bm mg base):Def P w K mg base CX0 13 "_law_cheapest" ["_law_box_here","_law_layout","_law_many_here","_law_rows_here","_law_size"] (Ij CL ao bV bG):=by
 refine dA T.wj rT λf cdv A outer s H vs Q E hr h=>?_
 obtain⟨bx,x,p,dx,l,b1,b2,b3,n,zs,ys,rs,s,ps,rfl,hbx,ly,lya,hl,tl,s1,hP,tk,nbl,k⟩:=h;have nd:=rT.nd
 refine' ⟨_,?bd0,?main⟩
 case bd0 =>
  refine' aq ?s1 ?r1
  case r1 =>
   refine' aq ?s2 ?r2
   case r2 =>
    refine' aq ?s3 ?r3
    case r3 =>
     refine' aq ?s4 ?r4
     case r4 =>
      refine' aq ?s5 ?r5
      case r5 =>
       refine' aB ?s6
       case s6 =>
        exact(aL (aG (xO T B) hr (aj (pv 1) (aj (pv 4) (aj (pv 7) (aj (cG (pv 5) T.clP (rD T) hr) ak))))))
      case s5 =>
       exact(bK (aU DR (aG (xK T) hr (aj (pv 2) (aj (pv 3) (aj (pv 7) (aj (pv 4) ak))))) (cG (pv 5) T.clP (rD T) hr) (aY _)) (aB (aL fV)) bf)
     case s4 =>
      exact(psz 7 nd (cG (pv 5) T.clP (Kg T) hr))
    case s3 =>
     exact(bK (c7 (cQ (KC (cG (pv 5) T.clP (wY T) hr) (cG (pv 5) T.clS (wZ T) hr)))) (aB (aL fV)) bf)
   case s2 =>
    refine' cH ?p11 ?q11 ?i11 ?g11 ?d11 ?h11
    case p11=>exact PassesOwn.never
    case q11=>exact rfl
    case h11=>exact λ_=>rfl
    case g11=>exact(pgz 6 nd)
    case d11 =>
     refine' aq ?s12 ?r12
     case r12 =>
      refine' aq ?s13 ?r13
      case r13 =>
       refine' aq ?s14 ?r14
       case r14 =>
        refine' aB ?s15
        case s15 =>
         exact(bK (PW.pt (tO (aU kj (pv 8) cZ (aY _)) (sO (PW.pt (jR (c7 (cQ (KC (cG (pv 5) T.clP (wY T) hr) (cG (pv 5) T.clS (wZ T) hr)))) (iU (aU fY (cG (pv 5) T.clP (rD T) hr) (pv 8) (aY _)))))))) (aB (aL fV)) bf)
       case s14 =>
        exact(bK (c7 (cQ (aG (xO T B) hr (aj (pv 1) (aj (pv 4) (aj (pv 7) (aj (pv 8) ak))))))) (aB (aL fV)) bf)
      case s13 =>
       exact(psz 8 nd (aG (xK T) hr (aj (pv 2) (aj (pv 3) (aj (pv 7) (aj (pv 4) ak))))))
     case s12 =>
      exact(psz 7 nd (aG (V6 T) hr (aj (pv 0) (aj (pv 2) (aj (pv 3) ak)))))
    case i11 =>
     exact(cL rfl T.cY (aj au ak))
  case s1 =>
   exact(psz 5 nd (aG (ab6 T B) hr (aj (pv 1) (aj (pv 4) ak))))
 clear nd;rw[stE]
 try dsimp only[bT,bC]
 have few:=lya.l.few;have neb:bx≠ao:=bZ hbx hP (by simp);have hx:=ly.x;have hp:=ly.p;have tp:=ly.t;have F:SH H [bx,ao] H [(bx,.lst [.int b1,.int b2,.int b3]),(ao,.tbl ps)] [.tps ys (aF rs),.tps zs (aF rs),eZ bV bG ps]:=((((SH.nil.fP (by simp) hP rfl (by simp)).fP (by simp) hbx rfl (by simp[Ne.symm neb])).jc tk).cU tl).cU tp;have gJ:=Old.mk (M:=[bx,ao]) hx (nm2 (bZ hx hbx (by simp)) (bZ hx hP (by simp)));have fL:=Old.mk (M:=[bx,ao]) hp (nm2 (Ne.symm nbl.2) (bZ hp hP (by simp)));have jW:=Old.mk (M:=[bx,ao]) hl (nm2 (Ne.symm nbl.1) (bZ hl hP (by simp)))
 repeat k_meth
 refine ach (bx:=bx) ⟨aM,aM,TpA.e⟩ lya s1 aM SH.tab aM neb λy H2 ps3 kp hP2 tk2 pq=>?_
 replace F:=SH.jc (st:=TabOk.st) (F.kp kp hP2 LkU.u rfl) tk2
 repeat k_meth
 refine jj (λi σ' H'=>∃(o6 o7 o8:Option V)(b1 b2 b3:Int)(ps:xI),σ'=[some (.ref bx),some (.ref x),some (.int (n:Nat)),some (.ref l),some (.int (s:Nat)),some (.ref y),o6,o7,o8]/\QZ CP CS (hides [bx,ao] H') n rs s y/\SH H [bx,ao] H' [(bx,.lst [.int b1,.int b2,.int b3]),(ao,.tbl ps)] [.tps ys (aF rs),.tps zs (aF rs),eZ bV bG ps]) ⟨_,_,_,b1,b2,b3,ps3,rfl,pq,F.sub SbC.s SbI.s⟩ ?_ ?_
 ·clear F pq;rintro i σ' H' hi ⟨_,_,_,b1,b2,b3,ps,rfl,pq,F⟩
  repeat k_meth
  refine⟨bx,l,b1,b2,b3,n,zs,rs,rfl,aM,aM,TpA.e,lya,nbl.1,λms ws xa ya za q H2 oks m41 kp hb hq tq fr=>?_⟩;replace pq:=pq.same (qG λa u hn e=>kp a u (λz=>hn (by simp[z])) e);have F2:SH H [bx,ao] H2 [(q,.lst ws),(bx,.lst [.int xa,.int ya,.int za]),(ao,.tbl ps)] [.tps ys (aF rs),.tps zs (aF rs),eZ bV bG ps] :=
   two_steps (R:=λH'=>SH H [bx,ao] H' [(q,.lst ws),(bx,.lst [.int xa,.int ya,.int za]),(ao,.tbl ps)] [.tps ys (aF rs),.tps zs (aF rs),eZ bV bG ps]) ⟨_,F.raw LkL.m⟩ kp hb hq fr λHm f1 e1 n1=>(F.kp f1 e1 LkU.u rfl).newL n1
  replace F:=F2.cU tq;clear F2
  repeat k_meth
  refine⟨l,q,n,s,zs,ws,rs,ms,rfl,aM,TpA.e,lya,aM,TpA.e,oks,m41,λH3 s3=>?_⟩;replace F:=F.same s3;replace pq:=pq.same (JF s3)
  repeat k_meth
  refine⟨x,p,dx,q,n,ys,ws,rs,s,ms,ps,_,rfl,⟨aM,aM,TpA.e⟩,lya,s1,aM,TpA.e,oks,m41,rfl,aM,SH.tab,λH4 ps4 kp4 hP4 tk4=>?_⟩;replace F:=SH.jc (st:=TabOk.st) (F.kp kp4 hP4 LkU.u rfl) tk4;replace pq:=pq.same (qG λa u hn e=>kp4 a u (λz=>hn (by simp[z])) e)
  repeat k_meth
  cases epr:dH n rs s ms with
  | none =>
   simp only[pV]
   repeat k_meth
   exact⟨_,_,_,xa,ya,za,ps4,rfl,pq,F.sub SbC.s SbI.s⟩
  | some d =>
   simp only[pV];obtain⟨c1,e1,le⟩:=Kv lya s1 epr;rcases pq with⟨z,_⟩|⟨c2,g,b,dy,m,hd,ms2,e2,co,hy,p1⟩
   ·rw[e1] at z;cases z
   rw[e1] at e2;obtain rfl:=nI e2;have pq2:QZ CP CS (hides [bx,ao] H4) n rs s y:=.inr ⟨c1,g,b,dy,m,hd,ms2,e1,co,hy,p1⟩;have hy4:Hat H4 y (.ins CP dy (pF c1.1 (g:Nat) m hd)):=⟨jk _ _ hy⟩;have le2:¬ d<c1.1:=by lia
   repeat k_meth
   refine .inl ?_
   repeat k_meth
   exact⟨_,_,_,xa,ya,za,ps4,rfl,pq2,F.sub SbC.s SbI.s⟩
 ·clear F pq;rintro σ' H' ⟨_,_,_,b1,b2,b3,ps,rfl,pq,F⟩
  repeat k_meth
  rcases pq with⟨_,dy,q,hy⟩|⟨c1,g,b,dy,m,hd,ms2,e1,co,hy,p1⟩
  ·have hyS:Hat H' y (.ins CS dy [("stretches", .ref q)]):=⟨jk _ _ hy⟩;refine .inr ?_
   repeat k_meth
   exact k b1 b2 b3 ps _ F.fr aM aM SH.tab
  ·have hyP:Hat H' y (.ins CP dy (pF c1.1 (g:Nat) m hd)):=⟨jk _ _ hy⟩;have hmP:Hat H' m (.lst ms2):=⟨jk _ _ p1.m⟩;obtain⟨t1,t2,t3⟩:=Q0 lya co;have tm:aD H' ms2 (dG (toX (eV (tgC n rs (s:Nat) g b)))):=by rw[<- t1];exact p1.t.same jk
   have oks:=Vk (eV (tgC n rs (s:Nat) g b));have m41:(toX (eV (tgC n rs (s:Nat) g b))).length<=41:=by rw[Nv];lia
   have fr0:=F.fr;have hb9:H' bx=some (.lst [.int b1,.int b2,.int b3]):=aM;have hP9:H' ao=some (.tbl ps):=aM;have tk9:TabOk bV bG ps H':=SH.tab;have tl9:aD H' zs (aF rs):=TpA.e;have tp9:aD H' ys (aF rs):=TpA.e;have ajp:=Old.mk (M:=[bx,ao]) (fr0 _ _ gJ.n gJ.e) gJ.n;have ajq:=Old.mk (M:=[bx,ao]) (fr0 _ _ fL.n fL.e) fL.n;have ajr:=Old.mk (M:=[bx,ao]) (fr0 _ _ jW.n jW.e) jW.n;have o_y:=Old.mk (M:=[bx,ao]) hyP.e (kJ.mp hy).1;have o_m:=Old.mk (M:=[bx,ao]) hmP.e (kJ.mp p1.m).1;clear F hyP hmP;have F:SH H' [bx,ao] H' [(bx,.lst [.int b1,.int b2,.int b3]),(ao,.tbl ps)] [.tps ms2 (dG (toX (eV (tgC n rs (s:Nat) g b)))),.tps ys (aF rs),.tps zs (aF rs),eZ bV bG ps]:=(((((SH.nil.fP (by simp) hP9 rfl (by simp)).fP (by simp) hb9 rfl (by simp[Ne.symm neb])).jc tk9).cU tl9).cU tp9).cU tm;refine .inl ?_
   repeat k_meth
   refine⟨l,p_,n,s,zs,ms2,rs,toX (eV (tgC n rs (s:Nat) g b)),rfl,aM,TpA.e,lya,aM,TpA.e,oks,m41,λH3 s3=>?_⟩;replace F:=F.same s3;rw[t2];simp only[pV]
   repeat k_meth
   refine⟨x,p,dx,p_,n,ys,ms2,rs,s,toX (eV (tgC n rs (s:Nat) g b)),ps,_,rfl,⟨aM,aM,TpA.e⟩,lya,s1,aM,TpA.e,oks,m41,by rw[t2];rfl,aM,SH.tab,λH4 ps4 kp4 hP4 tk4=>?_⟩;replace F:=SH.jc (st:=TabOk.st) (F.kp kp4 hP4 LkU.u rfl) tk4
   repeat k_meth
   exact k b1 b2 b3 ps4 _ (λa u hn e=>F.fr a u hn (fr0 a u hn e)) aM aM SH.tab
end
open M22 M82 M87 M75
def Dw(P:Addr)(K:W.Frag):Sp:=λvs H Q _=>∃(a:Addr)(ns:List Int),vs=[.ref a]/\SqL K H a (ns.map V.int)/\ns.length<=63/\H P=some (.tbl #[])/\a≠P/\∀H',Q (.bl true) H'
theorem V7{n:Nat}:∀{rs:List Rw} {e:Nat},OkA e n rs->e<=n->0<=(rs.map λr=>(r.sz:Int)).sum/\(rs.map λr=>(r.sz:Int)).sum<=(n:Int)-(e:Int)
 | [],e,_,h=>by simp;lia
 | r::rs,e,ok,h=>by
  have hd:=ok.hd;have ih:=V7 ok.tail (by lia);rw[oS,List.sum_cons]
  lia
theorem two_h{H0 H':Hp}{bx P:Addr}{pos:Pos}{qual:Str}{ps:xI}{xs:List V}(kp:∀b u,b ∉ [bx,P]->H0 b=some u->H' b=some u)(hb:H' bx=some (.lst xs))(hP:H' P=some (.tbl ps))(tk:TabOk pos qual ps H')(ne:bx≠P):SH H0 [bx,P] H' [(bx,.lst xs),(P,.tbl ps)] [eZ pos qual ps]:=by
 have s:SH H' [bx,P] H' [(bx,.lst xs),(P,.tbl ps)] [eZ pos qual ps]:=((SH.nil.fP (by simp) hP rfl (by simp)).fP (by simp) hb rfl (by simp[Ne.symm ne])).jc tk;exact⟨kp,s.im,s.at',s.nd,s.mu,λc hc=>.inl (by
  simp only[List.mem_cons,List.not_mem_nil,or_false] at hc;rcases hc with rfl|rfl <;> simp)⟩
section
variable{P:Program}{w:World}{K:W.Frag}{mg:xC}{base:Heap}{c:Nat->Addr}{aC ao R CL CP CS:Addr}
theorem aci(T:Txt K mg c R CL CP CS aC ao)(B:Bm mg base){f:Addr}{fd:FuncData}(F:Fun K "law" "law" pG f fd):jE P w K mg base CX0 14 f fd ["_law_script"] (Dw ao K):=by
 refine Xb F Ul (λvs H Q E h=>?_) (λcdv A outer s H vs Q E hr h=>?_)
 ·obtain⟨a,ns,rfl,_⟩:=h
  rfl
 ·obtain⟨a,ns,rfl,hS,hl,hP,hne,k⟩:=h;have nd:=Ul.nd
  refine' ⟨_,?bd0,?main⟩
  case bd0 =>
   refine' aq ?s1 ?r1
   case r1 =>
    refine' aB ?s2
    case s2 =>
     exact(aL fV)
   case s1 =>
    refine' cH ?p4 ?q4 ?i4 ?g4 ?d4 ?h4
    case p4=>exact PassesOwn.never
    case q4=>exact rfl
    case h4=>exact λ_=>rfl
    case g4=>exact(pgz 1 nd)
    case d4 =>
     refine' aq ?s5 ?r5
     case r5 =>
      refine' aq ?s6 ?r6
      case r6 =>
       refine' aq ?s7 ?r7
       case r7 =>
        refine' aq ?s8 ?r8
        case r8 =>
         refine' aq ?s9 ?r9
         case r9 =>
          refine' aq ?s10 ?r10
          case r10 =>
           refine' aq ?s11 ?r11
           case r11 =>
            refine' aq ?s12 ?r12
            case r12 =>
             refine' aq ?s13 ?r13
             case r13 =>
              refine' aq ?s14 ?r14
              case r14 =>
               refine' aB ?s15
               case s15 =>
                refine' cH ?p16 ?q16 ?i16 ?g16 ?d16 ?h16
                case p16=>exact PassesOwn.never
                case q16=>exact rfl
                case h16=>exact λ_=>rfl
                case g16=>exact(pgz 10 nd)
                case d16 =>
                 refine' aB ?s17
                 case s17 =>
                  exact(bK (aU kj (aG (Bt T B) hr (aj (pv 8) (aj (pv 7) (aj (pv 10) ak)))) cZ (aY _)) (aB (aL fV)) bf)
                case i16 =>
                 refine' cC ?l19
                 case l19 =>
                  refine' aX ?p20
                  case p20 =>
                   refine' aj ?a21 ?b21 ?c21
                   case a21=>exact cZ
                   case c21=>first|with_reducible rfl|rfl
                   case b21 =>
                    refine' aj ?a22 ?b22 ?c22
                    case a22=>exact au
                    case c22=>first|with_reducible rfl|rfl
                    case b22 =>
                     refine' aj ?a23 ?b23 ?c23
                     case a23=>exact jz
                     case c23=>first|with_reducible rfl|rfl
                     case b23 =>
                      refine' aj ?a24 ?b24 ?c24
                      case a24=>exact(bM ak)
                      case c24=>first|with_reducible rfl|rfl
                      case b24 =>
                       refine' aj ?a25 ?b25 ?c25
                       case a25=>exact RQ
                       case c25=>first|with_reducible rfl|rfl
                       case b25 =>
                        refine' aj ?a26 ?b26 ?c26
                        case a26=>exact fV
                        case c26=>first|with_reducible rfl|rfl
                        case b26 =>
                         refine' aj ?a27 ?b27 ?c27
                         case a27=>exact(aX (aj (bM ak) ak))
                         case c27=>first|with_reducible rfl|rfl
                         case b27 =>
                          refine' aj ?a28 ?b28 ?c28
                          case a28=>exact(aX (aj (bM (aj jz (aj au (aj au ak)))) ak))
                          case c28=>first|with_reducible rfl|rfl
                          case b28 =>
                           refine' aj ?a29 ?b29 ?c29
                           case a29=>exact(aX (aj (aX (aj jz (aj au ak))) ak))
                           case c29=>first|with_reducible rfl|rfl
                           case b29 =>
                            refine' aj ?a30 ?b30 ?c30
                            case a30=>exact(aX (aj cZ ak))
                            case c30=>first|with_reducible rfl|rfl
                            case b30 =>
                             exact ak
              case s14 =>
               exact(bK (c7 (cQ (aG (xO T B) hr (aj (pv 8) (aj (pv 7) (aj (aX ak) (aj (aG (xK T) hr (aj (pv 3) (aj (pv 4) (aj (aX ak) (aj (pv 7) ak))))) ak))))))) (aB (aL fV)) bf)
             case s13 =>
              exact(bK (PW.pt (jR (c7 (cQ (aG (xP T B) hr (aj (pv 2) (aj (pv 8) (aj (pv 3) (aj (pv 4) (aj (pv 7) ak)))))))) (iU (c7 (cQ (aG (xP T B) hr (aj (pv 2) (aj (pv 8) (aj (pv 3) (aj (pv 4) (aj (pv 9) ak))))))))))) (aB (aL fV)) bf)
            case s12 =>
             exact(psz 9 nd (aN bI au (aG (bJ T) hr (aj (pv 2) (aj au ak)))))
           case s11 =>
            exact(psz 8 nd (sZ (G5 T B) hr (aj (pv 3) (aj (aG (Yo T) hr (aj (pv 2) (aj (pv 4) ak))) ak))))
          case s10 =>
           exact(psz 7 nd (aN bI au (aH aO (pv 6) (aG (bJ T) hr (aj (pv 2) (aj au ak))) (λ_ _=>rfl))))
         case s9 =>
          refine' Rn (i:=6) ?n37 ?h37 ?o37 ?e37
          case n37=>exact nd
          case h37=>exact rfl
          case o37=>exact(Or.inl rfl)
          case e37 =>
           refine' aX ?p38
           case p38 =>
            refine' aj ?a39 ?b39 ?c39
            case a39=>exact(aG (bJ T) hr (aj (pv 2) (aj au ak)))
            case c39=>first|with_reducible rfl|rfl
            case b39 =>
             refine' aj ?a40 ?b40 ?c40
             case a40=>exact(aG (bJ T) hr (aj (pv 2) (aj (aN bI (pv 5) au) ak)))
             case c40=>first|with_reducible rfl|rfl
             case b40 =>
              refine' aj ?a41 ?b41 ?c41
              case a41=>exact(aG (bJ T) hr (aj (pv 2) (aj (aN bI (pv 3) au) ak)))
              case c41=>first|with_reducible rfl|rfl
              case b41 =>
               exact ak
        case s8 =>
         exact(psz 5 nd (aN b_ (pv 3) (aR (qy rfl) rfl T.M9 boot_sum (aj (dI (N:=["_law_row"]) (nt:=1) (fr:=[]) (cC (pv 4)) (λ_ _ _ _=>(cj (i:=0) (show (["_law_row"]:List Str).Nodup from by decide +kernel) rfl (Or.inl rfl))) (λ_ _ _ _=>dU) (λ_ _ _ _=>(aH (cX (K:=K) rfl) (pv 0) au (λ_ _=>rfl)))) ak))))
       case s7 =>
        exact(psz 4 nd (aG (abE T) hr (aj (pv 2) (aj (pv 3) ak))))
      case s6 =>
       exact(psz 3 nd (aG (abC T) hr (aj (pv 2) ak)))
     case s5 =>
      exact(psz 2 nd (aG (aeU T) hr (aj (aG (Qa T) hr (aj (pv 0) (aj (pv 1) ak))) ak)))
    case i4 =>
     exact(cL rfl T.cY (aj (aR (gZ rfl) rfl T.pK boot_max (aj au (aj (aR (qw rfl) rfl T.GC boot_min (aj au (aj (aR bN rfl T.eE boot_len (aj (pv 0) ak)) ak))) ak))) ak))
  clear nd;rw[stE]
  try dsimp only[bT,bC]
  have F:SH H [ao] H [(ao,.tbl #[])] [eZ bV bG #[]]:=(SH.nil.fP List.mem_cons_self hP rfl (by simp)).jc (.inl rfl);have ais:=aaU.mk (M:=[ao]) hS (nm1 hne)
  repeat k_meth
  generalize (max 1 (min 6 ((ns.map V.int).length:Int))).toNat=N
  refine jj (λi σ' H'=>∃(o1 o2 o3 o4 o5 o6 o7 o8 o9 o10:Option V)(ps:xI),σ'=[some (.ref a),o1,o2,o3,o4,o5,o6,o7,o8,o9,o10]/\SH H [ao] H' [(ao,.tbl ps)] [eZ bV bG ps]) ⟨_,_,_,_,_,_,_,_,_,_,#[],rfl,F⟩ ?_ ?_
  ·clear F;rintro i σ' H' hi ⟨_,_,_,_,_,_,_,_,_,_,ps,rfl,F⟩
   repeat k_meth
   obtain⟨bx,e⟩:∃z,z=p_:=⟨_,rfl⟩;subst e;intro n h16 iK
   repeat k_meth
   intro rs ly as;have few:=ly.few;have lya:LyA rs n:=⟨ly,as,iK,h16⟩
   repeat k_meth
   obtain⟨rl,e⟩:∃z,z=p_:=⟨_,rfl⟩;subst e;obtain⟨rz,e⟩:∃z,z=ys_:=⟨_,rfl⟩;subst e;have ss0:=V7 lya.ok (Nat.zero_le n);refine gw (F:=λr=>r.getD 2 .non) aM (TpA.e (rs:=aF rs)) (by rw[l_];lia) rfl (λq r H1 R hr s1 e1 kk=>?_) λl H1 n1=>?_
   ·clear F;have F:=SH.n0 H1;obtain⟨w,hw,rfl⟩:=jI.mp hr;have U6:=om e1
    repeat k_meth
    exact kk _ (Same.refl _)
   rw[show (aF rs).map (λr=>r.getD 2 V.non)=(rs.map λr=>(r.sz:Int)).map V.int by unfold aF;rw[List.map_map,List.map_map];rfl] at n1;replace F:=F.newL n1;have szs:(∀z∈(rs.map λr=>(r.sz:Int)),0<=z/\z<=1000000)/\(rs.map λr=>(r.sz:Int)).length<=1000000:=⟨λz hz=>by
    obtain⟨r,hr,rfl⟩:=jI.mp hz;have:=(ly.good r hr).le;show 0<=(r.sz:Int)/\(r.sz:Int)<=1000000
    lia,by rw[wP];lia⟩
   repeat k_meth
   clear szs
   generalize (rs.map λr=>(r.sz:Int)).sum=fr at ss0 F
   repeat k_meth
   rename_i r0 _ _ _ rl0 rh0 _ r1 _ _ _ rl1 rh1 _ r2 _ _ _ rl2 rh2 _ _;obtain⟨s,s1,v,ev,at3⟩:∃s:Nat,1<=s/\∃v:Int,1+v=(s:Int)/\AtI [V.int r0,V.int r1,V.int r2] r_ (.int v):=by
    rcases(show r_=0\/r_=1\/r_=2 by lia) with e|e|e <;> rw[e]
    ·exact⟨(1+r0).toNat,by lia,r0,by lia,⟨rfl⟩⟩
    ·exact⟨(1+r1).toNat,by lia,r1,by lia,⟨rfl⟩⟩
    ·exact⟨(1+r2).toNat,by lia,r2,by lia,⟨rfl⟩⟩
   repeat k_meth
   rw[ev]
   repeat k_meth
   intro qs pm;have la:Ym n qs rs:=⟨pm,ly,as⟩
   repeat k_meth
   intro ps2
   repeat k_meth
   obtain⟨b1,e⟩:∃z,z=x_:=⟨_,rfl⟩;subst e;obtain⟨b2,e⟩:∃z,z=y_:=⟨_,rfl⟩;subst e;obtain⟨b3,e⟩:∃z,z=z_:=⟨_,rfl⟩;subst e;obtain⟨lx,e⟩:∃z,z=x_:=⟨_,rfl⟩;subst e;obtain⟨dl,e⟩:∃z,z=dx_:=⟨_,rfl⟩;subst e;have neb:bx≠ao:=SH.neC (F:=F);obtain⟨s2,e2,s21⟩:∃s2:Nat,1+r_=(s2:Int)/\1<=s2:=⟨(1+r_).toNat,by lia,by lia⟩;obtain⟨pl,e⟩:∃z,z=p_:=⟨_,rfl⟩;subst e;obtain⟨lz,e⟩:∃z,z=ys_:=⟨_,rfl⟩;subst e;have npl:bx≠pl:=SH.neC (F:=F);have nrl:bx≠rl:=SH.neC (F:=F);rw[e2]
   repeat k_meth
   have Fo1:=F.sub (L':=[(bx,.lst [.int b1,.int b2,.int b3]),(ao,.tbl ps2),(lx,.ins CL dl (lF (n:Nat) pl)),(pl,.lst lz),(rl,.lst rz)]) (I':=[.tps lz (aF rs),.tps rz (aF rs),eZ bV bG ps2]) SbC.s SbI.s;refine⟨bx,lx,pl,dl,rl,b1,b2,b3,n,rz,lz,rs,s,ps2,rfl,aM,⟨aM,aM,TpA.e⟩,lya,aM,TpA.e,s1,aM,SH.tab,⟨nrl,npl⟩,λd11 d12 d13 pq1 HC1 kp hb hP2 tk2=>?_⟩;replace F:=SH.over (A:=[(bx,.lst [.int b1,.int b2,.int b3]),(ao,.tbl ps2)]) (R:=[(lx,.ins CL dl (lF (n:Nat) pl)),(pl,.lst lz),(rl,.lst rz)]) Fo1 (two_h kp hb hP2 tk2 neb) rfl;clear Fo1 kp hb hP2 tk2;simp only[List.cons_append,List.nil_append] at F
   repeat k_meth
   have Fo2:=F.sub (L':=[(bx,.lst [.int d11,.int d12,.int d13]),(ao,.tbl pq1),(lx,.ins CL dl (lF (n:Nat) pl)),(pl,.lst lz),(rl,.lst rz)]) (I':=[.tps lz (aF rs),.tps rz (aF rs),eZ bV bG pq1]) SbC.s SbI.s;refine⟨bx,lx,pl,dl,rl,d11,d12,d13,n,rz,lz,rs,s2,pq1,rfl,aM,⟨aM,aM,TpA.e⟩,lya,aM,TpA.e,s21,aM,SH.tab,⟨nrl,npl⟩,λd21 d22 d23 pq2 HC2 kp hb hP2 tk2=>?_⟩;replace F:=SH.over (A:=[(bx,.lst [.int d11,.int d12,.int d13]),(ao,.tbl pq1)]) (R:=[(lx,.ins CL dl (lF (n:Nat) pl)),(pl,.lst lz),(rl,.lst rz)]) Fo2 (two_h kp hb hP2 tk2 neb) rfl;clear Fo2 kp hb hP2 tk2;simp only[List.cons_append,List.nil_append] at F
   repeat k_meth
   refine⟨rl,p_,n,s,rz,[],rs,[],rfl,aM,TpA.e,lya,aM,aD.nil,by simp,by simp,λH2 sm2=>?_⟩;replace F:=F.same sm2;rename_i q0;refine⟨lx,pl,dl,q0,n,lz,[],rs,s,[],pq2,_,rfl,⟨aM,aM,TpA.e⟩,lya,s1,aM,aD.nil,by simp,by simp,rfl,aM,SH.tab,λH5 ps5 kp5 hP5 tk5=>?_⟩;replace F:=SH.jc (st:=TabOk.st) (F.kp kp5 hP5 LkU.u rfl) tk5
   repeat k_meth
   obtain⟨xs,hxl,all⟩:∃xs,H_ p_=some (.lst xs)/\∀v∈xs,J7 K H_ v:=⟨_,aM,λv hv=>by
    simp only[List.mem_cons,List.not_mem_nil,or_false] at hv;rcases hv with rfl|rfl|rfl|rfl|rfl|rfl|rfl|rfl|rfl|rfl
    ·exact .inl ⟨_,.non,by decide⟩
    ·exact .inl ⟨_,.int _,by decide⟩
    ·exact .inl ⟨_,.str _,by decide⟩
    ·exact .inl ⟨_,.tup aM,by decide⟩
    ·exact .inl ⟨_,.dK aM,by decide⟩
    ·exact .inl ⟨_,.bl _,by decide⟩
    ·exact .inr ⟨_,_,rfl,aM,.inr ⟨_,_,rfl,aM,by decide⟩⟩
    ·exact .inr ⟨_,_,rfl,aM,.inr ⟨_,_,rfl,aM,by simp⟩⟩
    ·exact .inr ⟨_,_,rfl,aM,.inl ⟨_,.lst aM,by decide⟩⟩
    ·exact .inr ⟨_,_,rfl,aM,.inl ⟨_,.non,by decide⟩⟩⟩
   rename Hp=>HB
   have Fo:=F.sub (L':=[(ao,.tbl ps5)]) (I':=[eZ bV bG ps5]) SbC.s SbI.s;have hlx:HB lx=some (.ins CL dl (lF (n:Nat) pl)):=aM;have hpl:HB pl=some (.lst lz):=aM;have tpl:aD HB lz (aF rs):=TpA.e;clear F;have F:SH HB [] HB [] [.tps lz (aF rs)]:=SH.nil.cU tpl;have aj5:=om hlx;have aj6:=om hpl;obtain⟨fx,efx⟩:∃z,z=p_:=⟨_,rfl⟩;subst efx;refine fH (xs:=xs) (λj σ' H'=>∃(oy oz:Option V),σ'=[some (.ref a),some (.int (i:Nat)),some (.ref bx),some (.int (n:Nat)),some (.ref rl),some (.int ((n:Nat)-fr)),oy,some (.int (s:Nat)),some (.ref lx),some (.int (s2:Nat)),oz]/\SH HB [] H' [] [.tps lz (aF rs)]) ⟨_,_,rfl,F⟩ ?_ ?_ ?_
   ·clear F;rintro j σ' H' _ ⟨_,_,rfl,F⟩;exact SqL.of (F.sm _ _ hxl)
   ·clear F;rintro j v σ' H' hv ⟨_,_,rfl,F⟩;have ov:=all v (yY hv)
    repeat k_meth
    refine⟨lx,pl,dl,n,lz,rs,s,v,rfl,⟨aM,aM,TpA.e⟩,lya,s1,.inl ⟨ov.same F.sm,λH6 s6=>?_⟩⟩;replace F:=F.same s6
    repeat k_meth
    exact⟨_,_,rfl,F.sub SbC.s SbI.s⟩
   clear F;rintro σ' H' ⟨_,_,rfl,F⟩;exact⟨_,_,_,_,_,_,_,_,_,_,ps5,rfl,Fo.same F.sm⟩
  ·clear F;rintro σ' H' ⟨_,_,_,_,_,_,_,_,_,_,ps,rfl,F⟩
   repeat k_meth
   exact k _
end
end K76
namespace K76
open PySem L2 PyProof.Rows M22 M82 M87 M75
abbrev LkH(K:W.Frag)(g:Addr)(m q:Str)(st:Stmt)(xd xn:xL)(xs:Array (Option Value))(xo xk xe xp xc xt:Value):Prop:=K.lookup g=some ⟨xo,xd,.func (W.fnOf m q (cD st) (bH st) (aA st) .none xk xe xp xn xc xt),xs⟩/\W.codeIn K xc q=true/\W.keepIn K (.ref g)=true
abbrev DfH(K:W.Frag)(m:Str)(st:Stmt):Prop:=∃g xd xn xs xo xk xe xp xc xt,W.nsIn K mainGlobals m=some (some (.ref g))/\LkH K g m m st xd xn xs xo xk xe xp xc xt
abbrev MeH(K:W.Frag)(C:Addr)(m q:Str)(st:Stmt):Prop:=∃g xd xn xs xo xk xe xp xc xt,W.findIn K (.ref C) m=some (some (.ref g))/\W.isFn K (.ref g)=true/\LkH K g m q st xd xn xs xo xk xe xp xc xt
abbrev ClH(K:W.Frag)(C:Addr):Prop:=W.plainGet K C Str.empty=true/\W.hasDictIn K C=true/\W.plainOver K C=true/\W.findIn K (.ref C) "__setattr__" = some (some (.builtin "object.__setattr__"))/\W.makesIn K C=true/\W.keepIn K (.ref C)=true
section
variable{K:W.Frag}{h:Heap}{mg:xC}{C:Addr}{m q:Str}{st:Stmt}
theorem DfH.has(d:DfH K m st)(X:K.In h)(G:h.Ns mainGlobals mg):HasDef K mg m st:=by obtain⟨_,_,_,_,_,_,_,_,_,_,a,l,c,k⟩:=d;exact HasDef.mk (W.mg_of X G a) l c k
theorem MeH.me(d:MeH K C m q st):∃f,FnAt K m q st f/\Meth K C m f:=by obtain⟨g,_,_,_,_,_,_,_,_,_,a,f,l,c,k⟩:=d;exact⟨g,⟨_,qm (st:=st) l c k⟩,⟨a,f,k⟩⟩
theorem MeH.mk(d:MeH K C "__init__" q st)(c:ClH K C):∃f,FnAt K "__init__" q st f/\Mk K C f:=by obtain⟨g,_,_,_,_,_,_,_,_,_,a,f,l,cd,k⟩:=d;exact⟨g,⟨_,qm (st:=st) l cd k⟩,⟨c.2.2.2.2.1,a,f,c.2.2.2.2.2⟩⟩
end
theorem all_mk{aC ao:Addr}{l:W.OpenLaw}{w:World}{K:W.Frag}{h:Heap}{mg:xC}{fa g56_:Addr}(X:K.In h)(G:h.Ns mainGlobals mg)(hfa:mg "law" = some (.ref fa))
  {R:Addr}
  (eR:W.nsIn K mainGlobals "RoomError" = some (some (.ref R)))
  (eh:W.specialIn K (.builtin "object.__class__") "__get__" = some (some (.builtin "getset_descriptor.__get__")))
  (et:W.takesIn K (.builtin "object.__class__")=some true)
  {C0 N0 x0:Addr} {nm0 q0:Str} {bs0:xE} {sn0:List Str} {aiL:xE} {ab0:Bool} {aiM:Option Bool} {dd0:xL} {k00_ k10_ k20_ k30_ k50_:Option Value}
  (ea0:W.nsIn K mainGlobals "Twice" = some (some (.ref C0)))
  (el0:K.lookup C0=some (excClassObj nm0 q0 C0 N0 bs0 [.ref R,.type "ValueError", .type "Exception", .type "BaseException", .type "object"] true sn0 aiL ab0 aiM dd0 k00_ k10_ k20_ k30_ k50_ "ValueError.__new__"))
  {xd0 xn0:xL} {xs0:Array (Option Value)} {xk0 xo0 xp0 xc0 xt0:Value}
  (ei0:W.findIn K (.ref C0) "__init__" = some (some (.ref x0)))
  (ef0:K.lookup x0=some ⟨.type "function", xd0,.func (W.fnOf "__init__" "Twice.__init__" (cD lV) (bH lV) (aA lV) .none xk0 xo0 xp0 xn0 xc0 xt0),xs0⟩)
  (ec0:W.codeIn K xc0 "Twice.__init__" = true) (ek0:W.keepIn K (.ref x0)=true) (es0:W.findIn K (.ref C0) "__setattr__" = some (some (.builtin "object.__setattr__")))
  (em0:W.keepIn K (.ref C0)=true) (eg0:W.findIn K (.ref C0) "__getattribute__" = some (some (.builtin "BaseException.__getattribute__"))) (eb0:W.findIn K (.ref C0) "__getattr__" = some none) (ej0:W.findIn K (.ref C0) "__class__" = some (some (.builtin "object.__class__")))
  (afs:W.findIn K (.ref C0) "name" = some none)
  {C1 N1 x1:Addr} {nm1 q1:Str} {bs1:xE} {sn1:List Str} {aiN:xE} {ab1:Bool} {aiO:Option Bool} {dd1:xL} {k01_ k11_ k21_ k31_ k51_:Option Value}
  (ea1:W.nsIn K mainGlobals "NoBlock" = some (some (.ref C1)))
  (el1:K.lookup C1=some (excClassObj nm1 q1 C1 N1 bs1 [.ref R,.type "ValueError", .type "Exception", .type "BaseException", .type "object"] true sn1 aiN ab1 aiO dd1 k01_ k11_ k21_ k31_ k51_ "ValueError.__new__"))
  {xd1 xn1:xL} {xs1:Array (Option Value)} {xk1 xo1 xp1 xc1 xt1:Value}
  (ei1:W.findIn K (.ref C1) "__init__" = some (some (.ref x1)))
  (ef1:K.lookup x1=some ⟨.type "function", xd1,.func (W.fnOf "__init__" "NoBlock.__init__" (cD h_) (bH h_) (aA h_) .none xk1 xo1 xp1 xn1 xc1 xt1),xs1⟩)
  (ec1:W.codeIn K xc1 "NoBlock.__init__" = true) (ek1:W.keepIn K (.ref x1)=true) (es1:W.findIn K (.ref C1) "__setattr__" = some (some (.builtin "object.__setattr__")))
  (em1:W.keepIn K (.ref C1)=true) (eg1:W.findIn K (.ref C1) "__getattribute__" = some (some (.builtin "BaseException.__getattribute__"))) (eb1:W.findIn K (.ref C1) "__getattr__" = some none) (ej1:W.findIn K (.ref C1) "__class__" = some (some (.builtin "object.__class__")))
  (aft:W.findIn K (.ref C1) "name" = some none)
  {C2 N2 x2:Addr} {nm2 q2:Str} {bs2:xE} {sn2:List Str} {aiP:xE} {ab2:Bool} {aiQ:Option Bool} {dd2:xL} {k02_ k12_ k22_ k32_ k52_:Option Value}
  (ea2:W.nsIn K mainGlobals "Pinned" = some (some (.ref C2)))
  (el2:K.lookup C2=some (excClassObj nm2 q2 C2 N2 bs2 [.ref R,.type "ValueError", .type "Exception", .type "BaseException", .type "object"] true sn2 aiP ab2 aiQ dd2 k02_ k12_ k22_ k32_ k52_ "ValueError.__new__"))
  {xd2 xn2:xL} {xs2:Array (Option Value)} {xk2 xo2 xp2 xc2 xt2:Value}
  (ei2:W.findIn K (.ref C2) "__init__" = some (some (.ref x2)))
  (ef2:K.lookup x2=some ⟨.type "function", xd2,.func (W.fnOf "__init__" "Pinned.__init__" (cD jo) (bH jo) (aA jo) .none xk2 xo2 xp2 xn2 xc2 xt2),xs2⟩)
  (ec2:W.codeIn K xc2 "Pinned.__init__" = true) (ek2:W.keepIn K (.ref x2)=true) (es2:W.findIn K (.ref C2) "__setattr__" = some (some (.builtin "object.__setattr__")))
  (em2:W.keepIn K (.ref C2)=true) (eg2:W.findIn K (.ref C2) "__getattribute__" = some (some (.builtin "BaseException.__getattribute__"))) (eb2:W.findIn K (.ref C2) "__getattr__" = some none) (ej2:W.findIn K (.ref C2) "__class__" = some (some (.builtin "object.__class__")))
  (afu:W.findIn K (.ref C2) "name" = some none)
  (afv:W.findIn K (.ref C2) "pins" = some none)
  {C3 N3 x3:Addr} {nm3 q3:Str} {bs3:xE} {sn3:List Str} {aiR:xE} {ab3:Bool} {aiS:Option Bool} {dd3:xL} {k03_ k13_ k23_ k33_ k53_:Option Value}
  (ea3:W.nsIn K mainGlobals "NoMoves" = some (some (.ref C3)))
  (el3:K.lookup C3=some (excClassObj nm3 q3 C3 N3 bs3 [.ref R,.type "ValueError", .type "Exception", .type "BaseException", .type "object"] true sn3 aiR ab3 aiS dd3 k03_ k13_ k23_ k33_ k53_ "ValueError.__new__"))
  {xd3 xn3:xL} {xs3:Array (Option Value)} {xk3 xo3 xp3 xc3 xt3:Value}
  (ei3:W.findIn K (.ref C3) "__init__" = some (some (.ref x3)))
  (ef3:K.lookup x3=some ⟨.type "function", xd3,.func (W.fnOf "__init__" "NoMoves.__init__" (cD iu) (bH iu) (aA iu) .none xk3 xo3 xp3 xn3 xc3 xt3),xs3⟩)
  (ec3:W.codeIn K xc3 "NoMoves.__init__" = true) (ek3:W.keepIn K (.ref x3)=true) (es3:W.findIn K (.ref C3) "__setattr__" = some (some (.builtin "object.__setattr__")))
  (em3:W.keepIn K (.ref C3)=true) (eg3:W.findIn K (.ref C3) "__getattribute__" = some (some (.builtin "BaseException.__getattribute__"))) (eb3:W.findIn K (.ref C3) "__getattr__" = some none) (ej3:W.findIn K (.ref C3) "__class__" = some (some (.builtin "object.__class__")))
  (afw:W.findIn K (.ref C3) "moves" = some none)
  {C4 N4 x4:Addr} {nm4 q4:Str} {bs4:xE} {sn4:List Str} {aiT:xE} {ab4:Bool} {aiU:Option Bool} {dd4:xL} {k04_ k14_ k24_ k34_ k54_:Option Value}
  (ea4:W.nsIn K mainGlobals "NoSlide" = some (some (.ref C4)))
  (el4:K.lookup C4=some (excClassObj nm4 q4 C4 N4 bs4 [.ref R,.type "ValueError", .type "Exception", .type "BaseException", .type "object"] true sn4 aiT ab4 aiU dd4 k04_ k14_ k24_ k34_ k54_ "ValueError.__new__"))
  {xd4 xn4:xL} {xs4:Array (Option Value)} {xk4 xo4 xp4 xc4 xt4:Value}
  (ei4:W.findIn K (.ref C4) "__init__" = some (some (.ref x4)))
  (ef4:K.lookup x4=some ⟨.type "function", xd4,.func (W.fnOf "__init__" "NoSlide.__init__" (cD iw) (bH iw) (aA iw) .none xk4 xo4 xp4 xn4 xc4 xt4),xs4⟩)
  (ec4:W.codeIn K xc4 "NoSlide.__init__" = true) (ek4:W.keepIn K (.ref x4)=true) (es4:W.findIn K (.ref C4) "__setattr__" = some (some (.builtin "object.__setattr__")))
  (em4:W.keepIn K (.ref C4)=true) (eg4:W.findIn K (.ref C4) "__getattribute__" = some (some (.builtin "BaseException.__getattribute__"))) (eb4:W.findIn K (.ref C4) "__getattr__" = some none) (ej4:W.findIn K (.ref C4) "__class__" = some (some (.builtin "object.__class__")))
  (afx:W.findIn K (.ref C4) "name" = some none)
  (afy:W.findIn K (.ref C4) "to" = some none)
  {od56_ an56_:xL} {sl56_:Array (Option Value)} {oc56_ kV56_ dc56_ pm56_ cd56_ ct56_:Value}
  (d0_:DfH K "is_whole" nj)
  (d1_:DfH K "is_from" qH)
  (d2_:DfH K "is_within" kY)
  (d3_:DfH K "is_many" qI)
  (d4_:DfH K "is_name" qJ)
  (d5_:DfH K "end_of" uZ)
  (d6_:DfH K "is_row" u5)
  (d7_:DfH K "cells_of" nu)
  (d8_:DfH K "need_row" nA)
  (d9_:DfH K "need_rows" kZ)
  (d10_:DfH K "share_cells" CK)
  (d11_:DfH K "_law_cell_at" qK)
  (d12_:DfH K "_law_box" Uj)
  (d13_:DfH K "_law_take" JK)
  (d14_:DfH K "_law_names" CN)
  (d15_:DfH K "_law_many" JL)
  (d16_:DfH K "_law_rows" JM)
  (d17_:DfH K "_law_mixed" CQ)
  (d18_:DfH K "is_pair" u9)
  (d19_:DfH K "is_slide" qL)
  (d20_:DfH K "step_of" vd)
  (d21_:DfH K "gone_through" JN)
  (d22_:DfH K "slid" JQ)
  (d23_:DfH K "gaps_of" vf)
  (d24_:DfH K "row_at_end" CT)
  (d25_:DfH K "row_beside" vg)
  (d26_:DfH K "left_prices" JR)
  (d27_:DfH K "right_prices" CV)
  (d28_:DfH K "prices" vh)
  (d29_:DfH K "blocks_between" qM)
  (d30_:DfH K "free_between" CW)
  (d31_:DfH K "stretches_of" k_)
  (d32_:DfH K "need_size" CZ)
  (d33_:DfH K "choices_at" qN)
  (d34_:DfH K "least_choice" C_)
  (d35_:DfH K "slides_to_lesser" vp)
  (d36_:DfH K "slides_to_greater" qO)
  (d37_:DfH K "hole_at_gap" vA)
  (d38_:DfH K "plan" JT)
  (d39_:DfH K "_law_room" Dc)
  (d40_:DfH K "_law_place" vB)
  (d41_:DfH K "_law_spoilt" vC)
  (d42_:DfH K "_law_moves" vD)
  (d43_:DfH K "_law_behind" vG)
  (d44_:DfH K "_law_greatest" nF)
  (d45_:DfH K "_law_price" vH)
  (d46_:DfH K "_law_told_right" vI)
  (d47_:DfH K "_law_cheapest" nH)
  (d48_:DfH K "gone_through_if_let" vJ)
  (d49_:DfH K "copies_of" vK)
  (d50_:DfH K "copies_of_steps" qP)
  (d51_:DfH K "price_of" qQ)
  (d52_:DfH K "largest_size" qT)
  (d53_:DfH K "holes_among" Dd)
  (d54_:DfH K "free_among" vO)
  (d55_:DfH K "holes_of" qU)
  (a56_:W.nsIn K mainGlobals "law" = some (some (.ref g56_))) (l56_:K.lookup g56_=some ⟨oc56_,od56_,.func (W.fnOf "law" "law" (cD pG) (bH pG) (aA pG) .none kV56_ dc56_ pm56_ an56_ cd56_ ct56_),sl56_⟩) (c56_:W.codeIn K cd56_ "law" = true) (k56_:W.keepIn K (.ref g56_)=true)
  (nb0:W.nsIn K mainGlobals "isinstance" = some none)
  (nb1:W.nsIn K mainGlobals "int" = some none)
  (nb2:W.nsIn K mainGlobals "bool" = some none)
  (nb3:W.nsIn K mainGlobals "str" = some none)
  (nb4:W.nsIn K mainGlobals "list" = some none)
  (nb5:W.nsIn K mainGlobals "tuple" = some none)
  (nb6:W.nsIn K mainGlobals "len" = some none)
  (nb7:W.nsIn K mainGlobals "all" = some none)
  (nb8:W.nsIn K mainGlobals "range" = some none)
  (nb9:W.nsIn K mainGlobals "sorted" = some none)
  (aiV:W.nsIn K mainGlobals "max" = some none)
  (aiW:W.nsIn K mainGlobals "min" = some none)
  (aiX:W.nsIn K mainGlobals "sum" = some none)
  (aiY:W.nsIn K mainGlobals "enumerate" = some none)
  (aiZ:W.nsIn K mainGlobals "zip" = some none)
  (ai0:W.nsIn K mainGlobals "reversed" = some none)
  (ai1:W.nsIn K mainGlobals "any" = some none)
  (ai2:W.nsIn K mainGlobals "ValueError" = some none)
  {tk0:Tok} (ai3:W.nsIn K mainGlobals "LETTERS" = some (some (.str LET tk0)))
  {tk1:Tok} (ai4:W.nsIn K mainGlobals "NAME_SIGNS" = some (some (.str SGN tk1)))
  {tk2:Tok} (ai5:W.nsIn K mainGlobals "MOST_SIGNS" = some (some (.int 8 tk2)))
  {tk3:Tok} (ai6:W.nsIn K mainGlobals "FEWEST_CELLS" = some (some (.int 16 tk3)))
  {tk4:Tok} (ai7:W.nsIn K mainGlobals "MOST_CELLS" = some (some (.int 240 tk4)))
  {tk5:Tok} (ai8:W.nsIn K mainGlobals "MOST_BLOCKS" = some (some (.int 40 tk5)))
  {nmR qR:Str} {NR:Addr} {bsR bmR:xE} {hdR:Bool} {snR:List Str} {ai9:xE} {abR:Bool} {ai_:Option Bool} {ddR:xL} {k0R k1R k2R k3R k5R:Option Value} {newR:String}
  (zc:K.lookup R=some (excClassObj nmR qR R NR bsR bmR hdR snR ai9 abR ai_ ddR k0R k1R k2R k3R k5R newR)) (zt:W.typeIn K (.ref R)=some (.type "type")) (zm:W.mroIn K R (.type "BaseException")=some true)
  {CL CP CS qe:Addr}
  (aCL:W.nsIn K mainGlobals "Layout" = some (some (.ref CL)))
  (Q5:ClH K CL)
  (V8:W.findIn K (.ref CL) "many" = some none)
  (V9:W.findIn K (.ref CL) "rows" = some none)
  (aCP:W.nsIn K mainGlobals "Plan" = some (some (.ref CP)))
  (V_:ClH K CP)
  (Wa:W.findIn K (.ref CP) "cost" = some none)
  (Kw:W.findIn K (.ref CP) "number" = some none)
  (Q6:W.findIn K (.ref CP) "moves" = some none)
  (Ik:W.findIn K (.ref CP) "stretch" = some none)
  (aCS:W.nsIn K mainGlobals "Stuck" = some (some (.ref CS)))
  (Wb:ClH K CS)
  (yg:W.findIn K (.ref CS) "stretches" = some none)
  {Wc Wd:xL} {Wf:Array (Option Value)} {Wg Wh Wi Wj Wk:Value}
  (Wl:W.findIn K (.ref CL) "__init__" = some (some (.ref qe))) (Wm:W.isFn K (.ref qe)=true)
  (Wn:K.lookup qe=some ⟨Wg,Wc,.func (W.fnOf "__init__" "Layout.__init__" (cD lR) (bH lR) (aA lR) .none Wh Wi Wj Wd (.ref aC) Wk),Wf⟩) (Wo:W.codeIn K (.ref aC) "Layout.__init__" = true) (Wq:W.keepIn K (.ref qe)=true) (tb_Linit:W.codeHdIn K aC ao=true) (tn_Linit:K.lookup ao=none)
  (Q9:MeH K CL "blocks" "Layout.blocks" qW)
  (Wr:MeH K CL "names" "Layout.names" vR)
  (Ws:MeH K CL "block" "Layout.block" vU)
  (Wt:MeH K CL "moved" "Layout.moved" vV)
  (Y0:MeH K CP "__init__" "Plan.__init__" Df)
  (Q_:MeH K CP "brings" "Plan.brings" qX)
  (Y4:MeH K CS "__init__" "Stuck.__init__" Dg)
  (Ra:MeH K CS "brings" "Paper.brings" qY)
  (Wu:MeH K CP "price" "Plan.price" vY)
  (Rb:MeH K CP "slides" "Plan.slides" qZ)
  (abx:W.specialIn K (.builtin "object.__class__") "__get__" = some (some (.builtin "getset_descriptor.__get__")))
  (aby:W.takesIn K (.builtin "object.__class__")=some true)
  (Uz:W.findIn K (.ref CP) "__class__" = some (some (.builtin "object.__class__")))
  (UG:W.mroIn K CP (.type "object")=some true)
  (UJ:W.findIn K (.ref CS) "__class__" = some (some (.builtin "object.__class__")))
  (UL:W.mroIn K CS (.type "object")=some true)
  : (∀p∈[ao],K.lookup p=none/\∃c,W.codeHdIn K c p=true)/\∃fd:FuncData,(∀(s:Shared)(v:Value),BindsTo s fd ⟨[v],[]⟩ [("_law_script", v)])/\∀base:Heap,K.In base->base.Ns mainGlobals mg->Bm mg base->jE l.prog w K mg base CX0 14 fa fd ["_law_script"] (Dw ao K):=by
 have e:=hfa.symm.trans (W.mg_of X G a56_);cases e;have T:Txt K mg (λi=>([C0,C1,C2,C3,C4]:List Addr).getD i 0) R CL CP CS aC ao:={
  pH:=fG.mk1 (W.mg_of X G ea0) el0 ei0 ef0 ec0 ek0 em0 (oH el0 es0) (oJ el0 eg0 eb0 ej0 eh et)
  MF:=⟨_,_,_,_,_,_,_,_,_,_,_,_,_,_,_,el0⟩
  pI:=afs
  jq:=fG.mk1 (W.mg_of X G ea1) el1 ei1 ef1 ec1 ek1 em1 (oH el1 es1) (oJ el1 eg1 eb1 ej1 eh et)
  zV:=⟨_,_,_,_,_,_,_,_,_,_,_,_,_,_,_,el1⟩
  lB:=aft
  lC:=fG.mk1 (W.mg_of X G ea2) el2 ei2 ef2 ec2 ek2 em2 (oH el2 es2) (oJ el2 eg2 eb2 ej2 eh et)
  Gb:=⟨_,_,_,_,_,_,_,_,_,_,_,_,_,_,_,el2⟩
  mL:=afu
  mO:=afv
  jr:=fG.mk1 (W.mg_of X G ea3) el3 ei3 ef3 ec3 ek3 em3 (oH el3 es3) (oJ el3 eg3 eb3 ej3 eh et)
  zW:=⟨_,_,_,_,_,_,_,_,_,_,_,_,_,_,_,el3⟩
  jU:=afw
  jt:=fG.mk1 (W.mg_of X G ea4) el4 ei4 ef4 ec4 ek4 em4 (oH el4 es4) (oJ el4 eg4 eb4 ej4 eh et)
  zX:=⟨_,_,_,_,_,_,_,_,_,_,_,_,_,_,_,el4⟩
  lD:=afx
  pJ:=afy
  v7:=d0_.has X G
  zY:=d1_.has X G
  rW:=d2_.has X G
  zZ:=d3_.has X G
  z6:=d4_.has X G
  Gd:=d5_.has X G
  Ge:=d6_.has X G
  v8:=d7_.has X G
  v9:=d8_.has X G
  rY:=d9_.has X G
  MJ:=d10_.has X G
  z7:=d11_.has X G
  Zk:=d12_.has X G
  Uq:=d13_.has X G
  MK:=d14_.has X G
  Ur:=d15_.has X G
  Us:=d16_.has X G
  Dh:=d17_.has X G
  Gf:=d18_.has X G
  z8:=d19_.has X G
  Gg:=d20_.has X G
  Ut:=d21_.has X G
  Uu:=d22_.has X G
  Gh:=d23_.has X G
  MN:=d24_.has X G
  Gi:=d25_.has X G
  Uv:=d26_.has X G
  MP:=d27_.has X G
  Gj:=d28_.has X G
  z9:=d29_.has X G
  M4:=d30_.has X G
  rZ:=d31_.has X G
  M5:=d32_.has X G
  Aa:=d33_.has X G
  M6:=d34_.has X G
  Gk:=d35_.has X G
  Ab:=d36_.has X G
  Gm:=d37_.has X G
  Uw:=d38_.has X G
  M7:=d39_.has X G
  Gn:=d40_.has X G
  Gp:=d41_.has X G
  Gq:=d42_.has X G
  Gs:=d43_.has X G
  wg:=d44_.has X G
  Gu:=d45_.has X G
  Gv:=d46_.has X G
  wj:=d47_.has X G
  Gw:=d48_.has X G
  Gx:=d49_.has X G
  Ac:=d50_.has X G
  Ad:=d51_.has X G
  Ae:=d52_.has X G
  M8:=d53_.has X G
  Gy:=d54_.has X G
  Af:=d55_.has X G
  bY:=W.mg_none_of X G nb0
  wu:=W.mg_none_of X G nb1
  Di:=W.mg_none_of X G nb2
  Zm:=W.mg_none_of X G nb3
  fK:=W.mg_none_of X G nb4
  Dj:=W.mg_none_of X G nb5
  eE:=W.mg_none_of X G nb6
  Ux:=W.mg_none_of X G nb7
  cY:=W.mg_none_of X G nb8
  Gz:=W.mg_none_of X G nb9
  pK:=W.mg_none_of X G aiV
  GC:=W.mg_none_of X G aiW
  M9:=W.mg_none_of X G aiX
  iT:=W.mg_none_of X G aiY
  Uy:=W.mg_none_of X G aiZ
  iG:=W.mg_none_of X G ai0
  aeP:=W.mg_none_of X G ai1
  Dk:=W.mg_none_of X G ai2
  Ag:=⟨_,W.mg_of X G ai3,⟨_,rfl⟩⟩
  pL:=⟨_,W.mg_of X G ai4,⟨_,rfl⟩⟩
  pN:=⟨_,W.mg_of X G ai5,⟨_,rfl⟩⟩
  lE:=⟨_,W.mg_of X G ai6,⟨_,rfl⟩⟩
  jM:=⟨_,W.mg_of X G ai7,⟨_,rfl⟩⟩
  mQ:=⟨_,W.mg_of X G ai8,⟨_,rfl⟩⟩
  g_R:=W.mg_of X G eR
  c_R:=by unfold W.clsIn;rw[zc];rfl
  t_R:=zt
  m_R:=zm
  clL:=⟨Q5.1,Q5.2.1,Q5.2.2.1,Q5.2.2.2.1⟩
  Ah:=W.mg_of X G aCL
  M_:=V8
  Nb:=V9
  clP:=⟨V_.1,V_.2.1,V_.2.2.1,V_.2.2.2.1⟩
  Nf:=W.mg_of X G aCP
  Ng:=Wa
  Ai:=Kw
  GD:=Q6
  wz:=Ik
  clS:=⟨Wb.1,Wb.2.1,Wb.2.2.1,Wb.2.2.2.1⟩
  GF:=W.mg_of X G aCS
  pO:=yg
  Aj:=tb_Linit
  Nh:=⟨qe,⟨_,qm (st:=lR) Wn Wo Wq,rfl⟩,⟨Q5.2.2.2.2.1,Wl,Wm,Q5.2.2.2.2.2⟩⟩
  Ak:=Q9.me
  GJ:=Wr.me
  GK:=Ws.me
  GP:=Wt.me
  Ni:=Y0.mk V_
  Am:=Q_.me
  Nj:=Y4.mk Wb
  Ao:=Ra.me
  GQ:=Wu.me
  Aq:=Rb.me
  abx:=abx
  aby:=aby
  Uz:=Uz
  UG:=UG
  UJ:=UJ
  UL:=UL }
 refine⟨λp hp=>?_,W.fnOf "law" "law" (cD pG) (bH pG) (aA pG) .none kV56_ dc56_ pm56_ an56_ cd56_ ct56_,λs v=>.of_eq rfl,λbase _ _ Bb=>?_⟩
 ·simp only[List.mem_cons,List.not_mem_nil,or_false] at hp;rcases hp with rfl
  ·exact⟨tn_Linit,_,tb_Linit⟩
 exact aci T Bb (qm (st:=pG) l56_ c56_ k56_)
theorem walk{l:W.OpenLaw}{q:Program}{loose:List Str}{XP:(Str->Option Value)->Heap->Prop}{YP:World->Heap->Prop}{d:DefRec}{K:Params->W.Frag}{ao:Addr}(hn:l.most=some 63)(hdf:d.params.defaults=[])
  (hY:∀(w:World)(h:Heap),YP w h->(K w.params).In h/\∀p∈[ao],h.get? p=some (W.tabObj #[]))
  (F:∀(w:World)(mg:xC)(fa:Addr)(h:Heap),(K w.params).In h->h.Ns mainGlobals mg->mg d.name=some (.ref fa)->(∀p∈[ao],(K w.params).lookup p=none/\∃c,W.codeHdIn (K w.params) c p=true) /\ 
   ∃fd:FuncData,(∀(s:Shared)(u:Value),BindsTo s fd ⟨[u],[]⟩ [("_law_script", u)])/\∀base:Heap,(K w.params).In base->base.Ns mainGlobals mg->Bm mg base->jE l.prog w (K w.params) mg base CX0 14 fa fd ["_law_script"] (Dw ao (K w.params))) :
  W.WalkO q loose XP YP l.row.toRowW d [] (λf vs=>PySem.call f vs) :=
 L2.Tr (ts:=[ao]) (n:=63) (k:=14) (x := "_law_script") (CX:=λ_=>CX0) (sp:=λw=>Dw ao (K w.params)) hn (by decide) hdf ⟨rfl,by decide,by decide,rfl⟩ hY F (λ_ _ a ns hl hO hn hS=>⟨a,ns,rfl,hS,hl,hO.1 ao (by simp),(λz=>hn (by simp[z])),λ_=>rfl⟩) λ_ _ _ _ _ z=>z
end K76
namespace PySem.W.Fast
def tw732744847681428273:=Nat
def tw13701125541237078667:=Nat
def tw7116551921626951188:=Nat
def tw14760833898535942123:=Nat
def tw9681154688207122716:=Nat
def tw17563080431202110578:=Nat
def tw16277574205792374616:=Nat
def tw2187810350333043368:=Nat
def tw14166405993105424268:=Nat
def tw10046672824019356128:=Nat
def tw5753795864992495462:=Nat
def tw4375307684423641854:=Nat
def tw8698256012270929197:=Nat
def tw11837192538951700047:=Nat
def tw11479790724606999128:=Nat
def tw17016204231448158165:=Nat
def tw10022755830368609654:=Nat
def tw13500309569007899147:=Nat
def tw3958377206573931552:=Nat
def tw14117811246282929084:=Nat
def tw14436229115481427837:=Nat
def tw4202586620071210598:=Nat
def tw3163621805005993429:=Nat
def tw7533191147750142993:=Nat
def tw18437899339041072517:=Nat
def tw11716732595977097054:=Nat
def tw2915104758089177535:=Nat
def tw16897883728914298639:=Nat
def tw10028306333895632993:=Nat
def tw6387954377982022876:=Nat
def tw15995118974510020298:=Nat
def tw1246041830384875138:=Nat
def tw11566808471492580071:=Nat
def tw4221234658135963418:=Nat
def tw8671159649979049082:=Nat
def tw9314627719307529932:=Nat
def tw11504250673013999974:=Nat
def tw2999066781621086464:=Nat
def tw5472471487616925744:=Nat
def tw17296155481711170544:=Nat
def tw3711754693067695938:=Nat
def tw2970533919643873433:=Nat
def tw2943233978602947332:=Nat
def tw17716252727186427042:=Nat
def tw3092931890975026054:=Nat
def tw7760508687102090038:=Nat
def tw7550255811561178976:=Nat
def tw15819819941964181559:=Nat
def tw804407014880796658:=Nat
def tw15813807610158378839:=Nat
def tw10496282240679275546:=Nat
def tw8288281400516760686:=Nat
def tw17685966048247205366:=Nat
def tw13814536956939811212:=Nat
def tw6491675563203131705:=Nat
def tw17712823481573796776:=Nat
def tw10065375296445130938:=Nat
def tw16852831473999897472:=Nat
def tw12247273523207544157:=Nat
def tw17184509379598047386:=Nat
def tw15254712771707032225:=Nat
def tw10534885479574340513:=Nat
def tw14316173058373628783:=Nat
def tw8623717162168109612:=Nat
def tw15451745167330442930:=Nat
def tw11795696196218760553:=Nat
def tw7620806921411771537:=Nat
def tw3936992791523253661:=Nat
def tw6824014636881172618:=Nat
def tw4122087607886179146:=Nat
def tw14915059368410834647:=Nat
def tw8856910098850308120:=Nat
def tw8144657417618000437:=Nat
def tw4400935389535828949:=Nat
def tw13869225876891046257:=Nat
def tw15440607185004270443:=Nat
def tw8124083519508441395:=Nat
def tw9604692003213556703:=Nat
def tw14346979379018450569:=Nat
def tw1930288439815546436:=Nat
def tw14858219175184957164:=Nat
def tw890988519253473641:=Nat
def tw18050938101362675747:=Nat
def tw4025720752511734909:=Nat
def tw3420832964551444569:=Nat
def tw5333514421015020923:=Nat
def tw9470649680280639840:=Nat
def tw9325070118131787937:=Nat
def tw4722197015218665230:=Nat
def tw8175003830463666723:=Nat
def tw15058567667666253311:=Nat
def tw3979760564685455697:=Nat
def tw1729575118474567121:=Nat
def tw2583876092030167628:=Nat
def tw1445702857055009254:=Nat
def tw6146693175751913352:=Nat
def tw7090950385471553065:=Nat
def tw12212360805185404067:=Nat
def tw6351993914599241726:=Nat
def tw12528661326871267928:=Nat
def tw5896924361164370617:=Nat
def tw16575152556827552058:=Nat
def tw6143918497623981957:=Nat
def tw5940008462549817021:=Nat
def tw15139556824820957268:=Nat
def tw3223732567955855906:=Nat
def tw17688759213116743750:=Nat
def tw15368543421464461822:=Nat
def tw8375920087635687254:=Nat
def tw17154234085730370243:=Nat
def tw8753561745158039031:=Nat
def tw3351642436237839710:=Nat
def tw3546039315270464568:=Nat
def tw14376421696418550371:=Nat
def tw386364820773639469:=Nat
def tw4116961241148660793:=Nat
def tw160682702597925408:=Nat
def tw16608289834305320637:=Nat
def tw13806695973618084475:=Nat
def tw10159594514431627057:=Nat
def tw8149620645113770752:=Nat
def tw13193942850914192238:=Nat
def tw12883010615208857154:=Nat
def tw157008163371943413:=Nat
def tw785300415930214327:=Nat
def tw11531706252514036226:=Nat
def tw1281862661683086790:=Nat
def tw17948762306162686604:=Nat
def tw10838688295323897543:=Nat
def tw5570424880036810390:=Nat
def tw14663073950784813245:=Nat
def tw11772821410423571985:=Nat
def tw18010984202858401110:=Nat
def tw1944371142771792463:=Nat
def tw6955261886553177029:=Nat
def tw15094095514217241195:=Nat
def tw8782776029269698585:=Nat
def tw10591334389761190393:=Nat
def tw17465773593277324550:=Nat
def tw3761204374766542167:=Nat
def tw9844934299146182908:=Nat
def tw15299805709315852297:=Nat
def tw11932141479900262855:=Nat
def tw14190799718961196349:=Nat
def tw6021629732300265643:=Nat
def tw5305878465365106571:=Nat
def tw7186011793145758755:=Nat
def tw11423864942411142352:=Nat
def tw11144207064091351978:=Nat
def tw17944091594694829363:=Nat
def tw14170013002442775633:=Nat
def tw3782575677432058538:=Nat
def tw17604944463426029528:=Nat
def tw11115225705951440760:=Nat
def tw7705488354032402587:=Nat
def tw2933939090981026334:=Nat
def tw12024298561287013714:=Nat
def tw6535098628147324078:=Nat
def tw825941085358594394:=Nat
def tw2864825596335166310:=Nat
def tw10740210971645210182:=Nat
def tw17359606877647412482:=Nat
def tw15397535837511224831:=Nat
def tw4055951310828080196:=Nat
def tw523167693852861242:=Nat
def tw11046198038618867248:=Nat
def tw4683727141193738024:=Nat
def tw1295149283581276604:=Nat
def tw752102890531873622:=Nat
def tw11020261095002566531:=Nat
def tw3226701149879792293:=Nat
def tw13895554795101577532:=Nat
def tw5973053572027952891:=Nat
def tw9582655351783085675:=Nat
def tw13400869588306301737:=Nat
def tw17627193686403080419:=Nat
def tw8245905360655460620:=Nat
def tw5861186862221289896:=Nat
def tw9384069976758909246:=Nat
def tw7373166064418815905:=Nat
def tw4830183590422383752:=Nat
def tw16143156082343596784:=Nat
def tw17548640637714995288:=Nat
def tw5919270308514793660:=Nat
def tw7441633743902343588:=Nat
def tw6228566110616845623:=Nat
def tw7953248833354608407:=Nat
def tw1075333791714828224:=Nat
def tw13674876714274700788:=Nat
def tw135488188392659735:=Nat
def tw13004698881486449731:=Nat
def tw6193472416024818508:=Nat
def tw11295298369287648074:=Nat
def tw10242252702913425494:=Nat
def tw2866747000561844716:=Nat
def tw8445593491992080465:=Nat
def tw11961362151584759288:=Nat
def tw12662528805761044820:=Nat
def tw11788266705337549462:=Nat
def tw17131196856284779817:=Nat
def tw7604405276261347744:=Nat
def tw8996549470189436434:=Nat
def tw4774368685078525908:=Nat
def tw2612307093242267886:=Nat
def tw12665160338527839317:=Nat
def tw14737124126312915253:=Nat
def tw6242413814636348398:=Nat
def tw2771255191012203996:=Nat
def tw160951450095779957:=Nat
def tw4181951768589270948:=Nat
def tw14189950386841436543:=Nat
def tw16793127735653825488:=Nat
def tw10754063473071460229:=Nat
def tw10182621981333034391:=Nat
def tw3436789525831870656:=Nat
def tw3976213560028617071:=Nat
def tw14981906418323877282:=Nat
def tw17789332341446483270:=Nat
def tw509928623064668019:=Nat
def tw5206652809683694514:=Nat
def tw509545529150366590:=Nat
def tw15162394962765285479:=Nat
def tw3357244997216242228:=Nat
def tw7923398757287930366:=Nat
def tw6907934131586950958:=Nat
def tw10296270966694913648:=Nat
def tw11490049353239106228:=Nat
def tw14990614927447004273:=Nat
def tw4228432430016504183:=Nat
def tw10871257222668899445:=Nat
def tw15699140365387067780:=Nat
def tw1689229764412096183:=Nat
def tw18219837605705588347:=Nat
def tw15703676791829902670:=Nat
def tw4621623445880558849:=Nat
def tw11638620651350768511:=Nat
def tw14442581565630773108:=Nat
def tw15928388175350977613:=Nat
def tw3698789505933962686:=Nat
def tw5386328098729336013:=Nat
def tw5668122899238755887:=Nat
def tw8865320577806492314:=Nat
def tw9469167667830559168:=Nat
def tw11580551893625697462:=Nat
def tw16586868884039507719:=Nat
def tw17085378690341882969:=Nat
def tw6172264250115368494:=Nat
def tw14675043746954719026:=Nat
def tw1652219442745076019:=Nat
def tw3532222510336315077:=Nat
def tw7860309376792962059:=Nat
def tw10045806182288133480:=Nat
def tw14536477896067068091:=Nat
def tw2458242823990870062:=Nat
def tw3505921823908805929:=Nat
def tw4227291746036761098:=Nat
def tw6291927601876129409:=Nat
def tw7399687984988357206:=Nat
def tw787295649391407484:=Nat
def tw4231045401596179360:=Nat
def tw3393113891734553604:=Nat
def tw17149909698135536072:=Nat
def tw12979175496030111682:=Nat
def tw1940150727885205194:=Nat
def tw10307822208516656955:=Nat
def tw2268314104074608739:=Nat
def tw8086433881523168379:=Nat
def tw9866076574317808637:=Nat
def tw14685162294479471768:=Nat
def tw17804185724248508162:=Nat
def tw9826202728959365298:=Nat
def tw7662919661258460509:=Nat
def tw3388380037826857816:=Nat
def tw15894717614588898221:=Nat
def tw11010291221594709622:=Nat
def tw3210163615996912902:=Nat
def tw17176904263504020335:=Nat
def tw16694343531254598015:=Nat
def tw4700230925093805037:=Nat
def tw11964688159544607932:=Nat
def tw1848891476363204743:=Nat
def tw5393045553227214843:=Nat
def tw13328938950078946016:=Nat
def tw6201960408929375078:=Nat
def tw7475075601179287094:=Nat
def tw14809337268368193617:=Nat
def tw5114103153025843414:=Nat
def tw12246581165207398843:=Nat
def tw12941806099119787219:=Nat
def tw12902239391096913396:=Nat
def tw4156818246473994546:=Nat
def tw7930496886389659184:=Nat
def tw13096645374454775195:=Nat
def tw13735659614462069256:=Nat
def tw7750314514983834070:=Nat
def tw324125198792405742:=Nat
def tw11403013593442076809:=Nat
def tw7592763568844041022:=Nat
def tw2655001217719402246:=Nat
def tw1873588910875846432:=Nat
def tw1935381358911019946:=Nat
def tw101718214041115003:=Nat
def tw11125501105883100795:=Nat
def tw7309518050399688059:=Nat
def tw13971403782340804037:=Nat
def tw1585164085133553169:=Nat
def tw2991627745461397231:=Nat
def tw5359577551940646937:=Nat
def tw17258067031352065794:=Nat
def tw14945010318265403339:=Nat
def tw5585675657903910156:=Nat
def tw4697827752564453404:=Nat
def tw7788910491430691211:=Nat
def tw5927236551914013751:=Nat
def tw6791231077888860463:=Nat
def tw9873310581616511885:=Nat
def tw2456002240161352187:=Nat
def tw4358801929642855946:=Nat
def tw1854611053682692617:=Nat
def tw3532094211967607085:=Nat
def tw439700944609525817:=Nat
def tw11905116954425124912:=Nat
def tw4007232154320935865:=Nat
def tw16322675307320896392:=Nat
def tw16762845258028967781:=Nat
def tw16089047829280812855:=Nat
def tw17966533900548980535:=Nat
def tw10994461110661731801:=Nat
def tw11788181225847428687:=Nat
def tw16588720006518528240:=Nat
def tw17486768036074807119:=Nat
def tw5258670564814037619:=Nat
def tw16576306691800651166:=Nat
def tw10630021037526109862:=Nat
def tw16787870567356773432:=Nat
def tw6548820290645001524:=Nat
def tw2392680373553184013:=Nat
def tw5811293565557656390:=Nat
def tw3349460532363940450:=Nat
def tw15552518961332562953:=Nat
def tw14095067748489480416:=Nat
def tw2519893045580307668:=Nat
def tw1455469879664491370:=Nat
def tw9867372656934603762:=Nat
def tw15064275247957332472:=Nat
def tw15076014735025475214:=Nat
def tw15459202718144655731:=Nat
def tw15113124549361060476:=Nat
def tw3907626589787408631:=Nat
def tw14392752058021305749:=Nat
def tw793157231434727209:=Nat
def tw12572225054290607822:=Nat
def tw18121642767230410482:=Nat
def tw10214779873785792166:=Nat
def tw16118994465814608087:=Nat
def tw209289935265680707:=Nat
def tw4998510261335002977:=Nat
def tw11019215825194916626:=Nat
def tw17210379579160772260:=Nat
def tw8847299444744801331:=Nat
def tw443947216179305447:=Nat
def tw637139885984914972:=Nat
def tw7971608780033377097:=Nat
def tw9426717054743666333:=Nat
def tw9650291089587656980:=Nat
def tw11891233385001834340:=Nat
def tw17382757534208078042:=Nat
def tw3078823683028421270:=Nat
def tw16164901708567005373:=Nat
def tw13490777739141020166:=Nat
def tw6778866050406054430:=Nat
def tw7661693025324365910:=Nat
def tw9221835691030506548:=Nat
def tw9710655147603076484:=Nat
def tw17245264515339655641:=Nat
def tw8631327830514113590:=Nat
def tw4306566320443221963:=Nat
def tw5668190138827351883:=Nat
def tw3230175360927247475:=Nat
def tw12576240769033982989:=Nat
def tw18052308697446655081:=Nat
def tw611628132920691377:=Nat
def tw6313378538329175646:=Nat
def tw1349824979145308167:=Nat
def tw9402859057503054136:=Nat
def tw3464169225744949535:=Nat
def tw462474628260182293:=Nat
def tw8857560165512158736:=Nat
def tw12829551238489040472:=Nat
def tw4093250283487072821:=Nat
def tw7562977189721238286:=Nat
def tw8217565915690078401:=Nat
def tw12149416911480516275:=Nat
def tw3177852852803003529:=Nat
def tw269290996893192126:=Nat
def tw6966459730417671284:=Nat
def tw2165682928386840388:=Nat
def tw5666667206177309751:=Nat
def tw15228860671928993315:=Nat
def tw16770588513792038858:=Nat
def tw7930506309927580125:=Nat
def tw14939647034575374592:=Nat
def tw1782672065280618249:=Nat
def tw12468521083085113263:=Nat
def tw5359131070051650806:=Nat
def tw8537138075925142811:=Nat
def tw10965953081475623531:=Nat
def tw12259634797541400273:=Nat
def tw1967381895349803512:=Nat
def tw11918985638258375391:=Nat
def tw1814143749223898690:=Nat
def tw9829947741848912605:=Nat
def tw6601320609028921863:=Nat
def tw10408542764052634462:=Nat
def tw16374635110702367177:=Nat
def tw2039710188671425003:=Nat
def tw6579641111264592968:=Nat
def tw7045800724451959257:=Nat
def tw9620727254148301914:=Nat
def tw10705357359517602437:=Nat
def tw12175003198558823408:=Nat
def tw13202527834102646311:=Nat
def tw16644789673604015127:=Nat
def tw16813533674917923147:=Nat
def tw4150862233178050076:=Nat
def tw4692680218048840277:=Nat
def tw6159994639064469942:=Nat
def tw9597460684465154232:=Nat
def tw16059973357042153174:=Nat
def tw7896808771705289348:=Nat
def tw8239011238365858301:=Nat
def tw13859438044197427835:=Nat
def tw4133833236651126036:=Nat
def tw10395171936673210380:=Nat
def tw18158540315868574591:=Nat
def tw9595846124913221669:=Nat
def tw14660382383325489864:=Nat
def tw9532174415120055262:=Nat
def tw17337516298847218410:=Nat
def tw4947568497121649225:=Nat
def tw1789395211828838423:=Nat
def tw9305278353445768216:=Nat
def tw6171842292896496481:=Nat
def tw10651900970327248012:=Nat
def tw18404948195873981629:=Nat
def tw9432736587474732696:=Nat
def tw14030743570511253886:=Nat
def tw10589020987546331395:=Nat
def tw16481487978451803756:=Nat
def tw40054900196958914:=Nat
def tw2385725671390278517:=Nat
def tw8677857492023648709:=Nat
def tw17071675247711602468:=Nat
def tw12295772060885702725:=Nat
def tw4640008942576107144:=Nat
def tw18213302371667320863:=Nat
def tw15865207815452811738:=Nat
def tw5336709922892700089:=Nat
def tw9450883183881853730:=Nat
def tw15102230684699462504:=Nat
def tw15196745107428495647:=Nat
def tw15339018185320952815:=Nat
def tw16916302782093649777:=Nat
def tw17299889446273504631:=Nat
def tw2364762916920860012:=Nat
def tw5253642006132112861:=Nat
def tw6046454099252944288:=Nat
def tw8227079680729547070:=Nat
def tw8300460136519316401:=Nat
def tw9900016071121944862:=Nat
def tw895032547503638344:=Nat
def tw1164977123671393875:=Nat
def tw1098953149878539652:=Nat
def tw9470654401390341360:=Nat
def tw10777883309885379123:=Nat
def tw162467251490316986:=Nat
def tw2845730210579952686:=Nat
def tw7932233281944349878:=Nat
def tw5713895283094715665:=Nat
def tw14064436024530469979:=Nat
def tw4038109423646431124:=Nat
def tw11900293849023797802:=Nat
def tw14660167718254348466:=Nat
def tw4911673065836454664:=Nat
def tw8106193894214239086:=Nat
def tw9153273507121853401:=Nat
end PySem.W.Fast
open PySem PySem.W PyProof.Rows
set_option maxRecDepth 100000 in
set_option maxHeartbeats 0 in
theorem PySem.Challenge.cw_slideroom_k76_whole_no_slides_cheaper_holds : PySem.Challenge.rw_slideroom_k76_whole_no_slides_cheaper.Holds := by
 w_on;o_law;k_head;(case hw=>w_witness2)
 k_fill
 refine K76.walk (l:=PySem.Challenge.rw_slideroom_k76_whole_no_slides_cheaper) rfl rfl (fun w h Y=>⟨PySem.W.km_in_of Y,PySem.W.km_tabs_of Y⟩) ?F
 case F =>
  intro w mg fa h KX G hmg
  refine' K76.all_mk KX G hmg ?_ ?_ ?_ ?_ ?_ ?_ ?_ ?_ ?_ ?_ ?_ ?_ ?_ ?_ ?_ ?_ ?_ ?_ ?_ ?_ ?_ ?_ ?_ ?_ ?_ ?_ ?_ ?_ ?_ ?_ ?_ ?_ ?_ ?_ ?_ ?_ ?_ ?_ ?_ ?_ ?_ ?_ ?_ ?_ ?_ ?_ ?_ ?_ ?_ ?_ ?_ ?_ ?_ ?_ ?_ ?_ ?_ ?_ ?_ ?_ ?_ ?_ ?_ ?_ ?_ ?_ ?_ ?_ ?_ ?_ ?_ ?_ ?_ ?_ ?_ ?_ ?_ ?_ ?_ ?_ ?_ ?_ ?_ ?_ ?_ ?_ ?_ ?_ ?_ ?_ ?_ ?_ ?_ ?_ ?_ ?_ ?_ ?_ ?_ ?_ ?_ ?_ ?_ ?_ ?_ ?_ ?_ ?_ ?_ ?_ ?_ ?_ ?_ ?_ ?_ ?_ ?_ ?_ ?_ ?_ ?_ ?_ ?_ ?_ ?_ ?_ ?_ ?_ ?_ ?_ ?_ ?_ ?_ ?_ ?_ ?_ ?_ ?_ ?_ ?_ ?_ ?_ ?_ ?_ ?_ ?_ ?_ ?_ ?_ ?_ ?_ ?_ ?_ ?_ ?_ ?_ ?_ ?_ ?_ ?_ ?_ ?_ ?_ ?_ ?_ ?_ ?_ ?_ ?_ ?_ ?tb_Linit ?tn_Linit ?_ ?_ ?_ ?_ ?_ ?_ ?_ ?_ ?_ ?_ ?_ ?_ ?_ ?_ ?_ ?_
  all_goals try first
   | k_is
   | exact ⟨_,_,_,_,_,_,_,_,_,_,by k_is,by k_is,by k_is,by k_is⟩
   | exact ⟨_,_,_,_,_,_,_,_,_,_,by k_is,by k_is,by k_is,by k_is,by k_is⟩
   | exact ⟨_,_,_,_,_,_,_,_,_,_,by k_is,by k_is,by k_is,by k_is,by k_is,by k_is⟩
   | exact ⟨by k_is,by k_is,by k_is,by k_is,by k_is,by k_is⟩
  (case tb_Linit=>kernel_rfl)
  (case tn_Linit=>kernel_rfl)
