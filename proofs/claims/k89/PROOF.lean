import PyProof.Rows.All
import Wide.All
import OpenK.AllK
import Wide.FinOn
import Lean
import PyProof.EqAt
import PyProof.EqKinds
import PyProof.TupleCall
import PyProof.NeKinds
import PyProof.ExcInit
import PyProof.StationsW
import PyProof.ExcBaseAll.ValueError
import PyProof.ExcArgs
import KE.KIsAll
import PyProof.ReprRoads
import PyProof.CallFns
import PyProof.ExcClass3
import PyProof.StrBlock2
import PyProof.FitsInt
import PyProof.StrLawsRepr
import KE.KTryMore
import PyProof.RulesAs
import KE.KIntText
import PyProof.StrLawsChain
import PyProof.StrCalls2
import PyProof.ZipIter
import PyProof.Conv_bool
import PyProof.CallStr
import PyProof.TupleIter
import KE.KEqDict
import PyProof.AutoListH
import PyProof.FactsAll.range_2
import KE.IntTextLaws
import PyProof.StrCalls
import PySem.Challenge.RW_slideroom_k89_forged_tidyings
-- CHANGE: your row's module here, as the last of these rows
set_option compiler.extract_closed false
set_option bootstrap.genMatcherCode false
set_option Elab.async false
set_option linter.all false
set_option maxRecDepth 100000
section
open PySem PySem.Spec PyProof.Rows PySem.SeqAt
abbrev pV:=List (Addr×Obj)
abbrev xA:=Unit->Shared->Prop
abbrev xB:=Value->Shared->Prop
abbrev xC:=Str->Option Value
abbrev xD:=List Value
abbrev xE:=List Bool
abbrev xF:=Array Value
abbrev xI:=Option Addr
def zC:=@List.mem_cons_self
def zD:=@List.mem_cons_of_mem
def zI:=@wpAny_bind
def zS:=@if_pos
def yA:=@if_neg
def yB:=@List.length_append
def yT:=@List.mem_of_getElem?
def yY:=@List.getElem?_append_left
def wE:=@List.length_map
def wP:=@List.mem_append
def wS:=@List.getElem?_map
def wT:=@List.not_mem_nil
def vE:=@Bool.false_ne_true
def vF:=@List.append_assoc
def vS:=@List.mem_cons
def vT:=@List.mem_map
def jI:=@List.take_append_drop
def jS:=@List.getElem?_eq_some_iff
def qA:=@List.getElem?_eq_getElem
def qB:=@Nat.lt_of_lt_of_le
def qE:=@Nat.ne_of_lt
def qS:=@Nat.lt_irrefl
def qV:=@List.take_succ
def gE:=@congrArg
def gL:=@absurd
def gN:=@eq_of_beq
def gS:=@decide_eq_false
def gX:=@decide_eq_true
def uA:=@Heap.lt_size
def uB:=@Heap.get?_push_of_some
def uC:=@Nat.le_refl
def uS:=@List.mem_singleton
def rS:=@List.mem_append_right
def rV:=@wpAny_pure
def rX:=@Nat.le_trans
def oB:=@List.mem_of_mem_take
def oC:=@List.mem_of_mem_drop
def oP:=@Heap.get?_push_size
def oQ:=@List.length_take
def oS:=@List.map_cons
def nE:=@List.getElem?_append_right
def nI:=@Option.some.inj
def nK:=@List.size_toArray
def nN:=@Heap.get?_update_other
def nS:=@List.take_of_length_le
def nV:=@wpAny_holding
def nX:=@wpAny_mono
def mB:=@List.mem_append_left
def mE:=@List.append_nil
def mI:=@List.pairwise_append
def mM:=@List.length_replicate
def mN:=@List.pairwise_cons
def mP:=@List.getElem?_eq_none
def mS:=@List.length_cons
def mT:=@Nat.lt_of_le_of_lt
def zzA:=@List.length_drop
end
namespace L2
open PySem PySem.Spec PyProof.Rows
abbrev Key:=Sum Int Str
def Yc:Key->Value->Bool
 | .inl k,v=>Value.isInt k v
 | .inr x,v=>Value.isStrOf x v
def agb(w:World):Key->Int
 | .inl k=>hashInt k
 | .inr x=>hashStr w x
theorem cX:∀{k:Key} {v:Value},Yc k v=true->(∃i t,k=Sum.inl i/\v=Value.int i t)\/(∃x t,k=Sum.inr x/\v=Value.str x t)
 | .inl i,v,h=>by
  obtain⟨t,e⟩:=Value.isInt_shape (k:=i) (v:=v) h;exact .inl ⟨i,t,rfl,e⟩
 | .inr x,v,h=>by
  obtain⟨t,e⟩:=Value.isStrOf_shape (x:=x) (v:=v) h;exact .inr ⟨x,t,rfl,e⟩
def Zc(a b:Int):decide ((Sum.inl a:Key)=Sum.inl b)=(a==b):=by
 by_cases e:a=b
 ·subst e;simp
 ·have h:¬ (Sum.inl a:Key)=Sum.inl b:=λq=>e (Sum.inl.inj q)
  rw[gS h];exact(beq_eq_false_iff_ne.mpr e).symm
def Zd(a b:Str):decide ((Sum.inr a:Key)=Sum.inr b)=decide (a=b):=by
 by_cases e:a=b
 ·subst e;simp
 ·have h:¬ (Sum.inr a:Key)=Sum.inr b:=λq=>e (Sum.inr.inj q)
  rw[gS h,gS e]
def Ze(a:Int)(b:Str):decide ((Sum.inl a:Key)=Sum.inr b)=false:=gS (λq=>nomatch q)
def Zf(a:Str)(b:Int):decide ((Sum.inr a:Key)=Sum.inl b)=false:=gS (λq=>nomatch q)
def JL(prog:Program)(w:World):PySem.KeyKind prog w Key where
 is:=Yc
 hash:=agb w
 inj:=λv a b ha hb=>by
  rcases cX ha with⟨i,t,rfl,rfl⟩|⟨x,t,rfl,rfl⟩
  ·rcases cX hb with⟨j,u,rfl,e⟩|⟨y,u,rfl,e⟩
   ·injection e with e1 _;rw[e1]
   ·exact nomatch e
  ·rcases cX hb with⟨j,u,rfl,e⟩|⟨y,u,rfl,e⟩
   ·exact nomatch e
   ·injection e with e1 _;rw[e1]
 byValue:=λk v h=>by
  rcases cX h with⟨i,t,rfl,rfl⟩|⟨x,t,rfl,rfl⟩ <;> rfl
 pyHash:=λhv h=>by
  rcases cX hv with⟨i,t,rfl,rfl⟩|⟨x,t,rfl,rfl⟩
  ·exact wpAny_pyHash_int h
  ·exact wpAny_pyHash_str h
 eqBool:=λhu hv h=>by
  rcases cX hu with⟨i,t,rfl,rfl⟩|⟨x,t,rfl,rfl⟩
  ·rcases cX hv with⟨j,u,rfl,rfl⟩|⟨y,u,rfl,rfl⟩
   ·rw[Zc] at h;exact wpAny_eqBool_int h
   ·rw[Ze] at h;exact SeqAt.EqAt.int_str i t y u _ _ _ _ h
  ·rcases cX hv with⟨j,u,rfl,rfl⟩|⟨y,u,rfl,rfl⟩
   ·rw[Zf] at h;exact SeqAt.EqAt.str_int x t j u _ _ _ _ h
   ·rw[Zd] at h;exact wpAny_eqBool_str h
 «strs»:=λk x t v h=>by
  rcases cX h with⟨i,u,rfl,e⟩|⟨y,u,rfl,e⟩
  ·exact nomatch e
  ·injection e with e1 _
   subst e1;cases v <;> rfl
inductive V where
 | non|bl (b:Bool)|int (i:Int)|str (x:Str)|byt (b:Array UInt8)|flt (b:UInt64)|ref (a:Addr)|ty (n:String)
 deriving DecidableEq
def RelV:V->Value->Prop
 | .non,u=>u=Value.none
 | .bl b,u=>u=Value.bool b
 | .int i,u=>∃t,u=Value.int i t
 | .str x,u=>∃t,u=Value.str x t
 | .byt b,u=>∃t,u=Value.bytes b t
 | .flt b,u=>∃t,u=Value.float b t
 | .ref a,u=>u=Value.ref a
 | .ty n,u=>u=Value.type n
abbrev Vals:List V->List Value->Prop:=Paired RelV
theorem Vals.length{xs:List V}{us:xD}(r:Vals xs us):xs.length=us.length:=Paired.length r
theorem Vals.get:∀{xs:List V} {us:xD} {i:Nat} {x:V},Vals xs us->xs[i]?=some x->∃u,us[i]?=some u/\RelV x u
 | _,_,_,_,.nil,e=>by simp at e
 | _,_,0,_,.cons r _,e=>by simp at e;subst e;exact⟨_,rfl,r⟩
 | _,_,i+1,x,.cons _ t,e=>by
  obtain⟨u,h1,h2⟩:=Vals.get (i:=i) (x:=x) t (by simpa using e);exact⟨u,by simpa using h1,h2⟩
theorem Vals.set{x:V}{u:Value}(r:RelV x u):∀{xs:List V} {us:xD} (i:Nat),Vals xs us->Vals (xs.set i x) (us.set i u)
 | _,_,_,.nil=>.nil
 | _,_,0,.cons _ t=>.cons r t
 | _,_,i+1,.cons q t=>.cons q (Vals.set r i t)
theorem Vals.append:∀{xs ys:List V} {us ws:xD},Vals xs us->Vals ys ws->Vals (xs++ys) (us++ws)
 | _,_,_,_,.nil,s=>s
 | _,_,_,_,.cons r t,s=>.cons r (Vals.append t s)
theorem Vals.take:∀{xs:List V} {us:xD} (n:Nat),Vals xs us->Vals (xs.take n) (us.take n)
 | _,_,0,_=>.nil
 | _,_,_+1,.nil=>.nil
 | _,_,n+1,.cons r t=>.cons r (Vals.take n t)
theorem Vals.drop:∀{xs:List V} {us:xD} (n:Nat),Vals xs us->Vals (xs.drop n) (us.drop n)
 | _,_,0,r=>r
 | _,_,_+1,.nil=>.nil
 | _,_,n+1,.cons _ t=>Vals.drop n t
def mX:Option V->Option Value->Prop
 | some v,some u=>RelV v u
 | none,none=>True
 | _,_=>False
def KV{κ:Type}:List (κ×V)->List (κ×Value)->Prop:=Paired λ(p:κ×V) (q:κ×Value)=>p.1=q.1/\RelV p.2 q.2
def kV:Key->V
 | .inl i=>.int i
 | .inr x=>.str x
inductive HO where
 /-- a list -/
 | lst (xs:List V)
 /-- a tuple (never changes) -/
 | tup (xs:List V)
 /-- a dict whose keys are ints and texts; one whose keys are tuples of ints and texts (the empty one is both) -/
 | dK (kvs:List (Key×V))|dT (kvs:List (List Key×V))
 /-- a set of ints: its members, its size -/
 | set (S:Int->Bool) (n:Nat)
 /-- an instance of the class at C, its dict at dx, its attributes -/
 | ins (C dx:Addr) (fs:List (Str×V))
 /-- the dict of the instance at x -/
 | own (x:Addr)
 /-- the dict of an exception -/
 | xd (fs:List (Str×V))
 /-- a bound method, f of x -/
 | met (f x:Addr)
 /-- a range object lo, lo + 1, .. below hi -/
 | rng (lo hi:Int)
 /-- a thing that is known to the object (the script; a dict while a loop walks it): read, never written while it is so -/
 | frz (o:Obj) (u:HO)
 /-- a code object's table -/
 | tbl (ps:xF)
 /-- any other thing, by what is true of its one object (a def of one's own: ajp a S n := HO.ext fun h => ..) -/
 | ext (φ:Heap->Prop)
abbrev Hp:=Addr->Option HO
def upd(H:Hp)(a:Addr)(o:HO):Hp:=λb=>if b=a then some o else H b
def bA{H:Hp}{a:Addr}{o:HO}:upd H a o a=some o:=by unfold upd;rw[if_pos rfl]
def aZ{H:Hp}{a b:Addr}{o:HO}(h:b≠a):upd H a o b=H b:=by unfold upd;rw[if_neg h]
def VN{H:Hp}{a:Addr}{o u:HO}:upd (upd H a o) a u=upd H a u:=by
 funext b;unfold upd;split <;> rfl
def aP{H:Hp}{a b:Addr}{o:HO}(h:H a=some o)(h':H b=none):a≠b:=by
 intro e;subst e;rw[h] at h';cases h'
section
variable(P:Program)(w:World)
def cM(H:Hp)(h:Heap)(a:Addr):HO->Prop
 | .lst xs=>xs.length<=sizeLine/\∃(its:xD)(n:Nat),Vals xs its/\h.get? a=some { cls:=.type "list", data:=.seq its.toArray n }
 | .tup xs=>xs.length<=sizeLine/\∃its:List Value,Vals xs its/\IsTup h a its.toArray
 | .dK kvs=>kvs.length<=sizeLine/\(a==sysModules)=false/\∃vs,KV kvs vs/\h.DictOf (JL P w) a vs
 | .dT kvs=>kvs.length<=sizeLine/\(a==sysModules)=false/\∃xs:List (List Key×Addr×Value),
   Paired (λ(p:List Key×V) (q:List Key×Addr×Value)=>p.1=q.1/\H q.2.1=some (.tup (p.1.map kV))/\RelV p.2 q.2.2) kvs xs /\
   ∃o es ep,h.get? a=some o/\o.ExactDict/\o.data=.dict es ep/\es.toList=xs.map (entryOfKey (tupleKind (JL P w)))/\(xs.map (·.1)).Nodup
 | .set S n=>h.SetOf (intKind P w) a S n
 | .ins C dx fs=>H dx=some (.own a)/\fs.length<=1000/\dx≠a/\h.get? a=some (W.instObj C dx) /\
   ∃mA,h.Ns1 dx mA/\(∀f,mX (fs.lookup f) (mA f))/\PySem.Within mA (fs.map (·.1))
 | .own _=>∃o,h.get? a=some o
 | .xd fs=>∃mA,h.Ns1 a mA/\∀f,mX (fs.lookup f) (mA f)
 | .rng lo hi=>∃t u v,h.get? a=some { cls:=.type "range", data:=.fields #[.int lo t,.int hi u,.int 1 v] }
 | .frz o u=>h.get? a=some o/\cM H h a u
 | .tbl ps=>h.get? a=some { cls:=.none,data:=.fields ps }
 | .met f x=>h.get? a=some (W.methodObj (.ref f) (.ref x))
 | .ext φ=>φ h/\(∃o,h.get? a=some o)/\∀h1 h2:Heap,φ h1->(∀o,h1.get? a=some o->h2.get? a=some o)->φ h2
def HOk(H:Hp)(h:Heap):Prop:=∀a o,H a=some o->cM P w H h a o
end
section
variable{P:Program}{w:World}{H H':Hp}{h h':Heap}{a:Addr}{o:HO}
theorem cM.lt(x:cM P w H h a o):a<h.objs.size:=by
 cases o with
 | lst xs=>obtain⟨_,_,_,_,e⟩:=x;exact uA e
 | tup xs=>obtain⟨_,_,_,p⟩:=x;exact p.lt
 | dK kvs=>obtain⟨_,_,_,_,o,_,_,e,_⟩:=x;exact uA e
 | dT kvs=>obtain⟨_,_,_,_,o,_,_,e,_⟩:=x;exact uA e
 | set S n=>obtain⟨o,_,_,_,e,_⟩:=x;exact uA e
 | ins C dx fs=>obtain⟨_,_,_,e,_⟩:=x;exact uA e
 | own y=>obtain⟨_,e⟩:=x;exact uA e
 | xd fs=>obtain⟨_,⟨_,_,_,e,_⟩,_⟩:=x;exact uA e
 | rng lo hi=>obtain⟨_,_,_,e⟩:=x;exact uA e
 | frz ob u=>obtain⟨e,_⟩:=x;exact uA e
 | tbl ps=>exact uA (show h.get? a=some _ from x)
 | met f y=>exact uA (show h.get? a=some _ from x)
 | ext φ=>obtain⟨_,⟨_,e⟩,_⟩:=x;exact uA e
theorem Paired.acy{α β:Type}{F G:α->β->Prop}:∀{l₁:List α} {l₂:List β},Paired F l₁ l₂->(∀a b,F a b->G a b)->Paired G l₁ l₂
 | _,_,.nil,_=>.nil
 | _,_,.cons r t,f=>.cons (f _ _ r) (Paired.acy t f)
theorem cM.stay(x:cM P w H h a o)(k:∀b u,(b=a\/H b=some (.own a))->h.get? b=some u->h'.get? b=some u)
  (ho:∀b,H b=some (.own a)->H' b=some (.own a)) (ht:∀b xs,H b=some (.tup xs)->H' b=some (.tup xs)):cM P w H' h' a o:=by
 induction o with
 | lst xs=>obtain⟨z,its,n,r,e⟩:=x;exact⟨z,its,n,r,k _ _ (.inl rfl) e⟩
 | tup xs=>obtain⟨z,its,r,ob,e,c⟩:=x;exact⟨z,its,r,ob,k _ _ (.inl rfl) e,c⟩
 | dK kvs=>obtain⟨z,y,vs,r,ob,es,ep,e,c⟩:=x;exact⟨z,y,vs,r,ob,es,ep,k _ _ (.inl rfl) e,c⟩
 | dT kvs =>
  obtain⟨z,y,xs,r,ob,es,ep,e,c⟩:=x;exact⟨z,y,xs,Paired.acy r λp q z=>⟨z.1,ht _ _ z.2.1,z.2.2⟩,ob,es,ep,k _ _ (.inl rfl) e,c⟩
 | set S n=>obtain⟨ob,es,ep,t,e,c⟩:=x;exact⟨ob,es,ep,t,k _ _ (.inl rfl) e,c⟩
 | ins C dx fs =>
  obtain⟨d,z,ne,e,mA,⟨od,es,ep,e2,c⟩,r⟩:=x;exact⟨ho _ d,z,ne,k _ _ (.inl rfl) e,mA,⟨od,es,ep,k _ _ (.inr d) e2,c⟩,r⟩
 | own y=>obtain⟨ob,e⟩:=x;exact⟨ob,k _ _ (.inl rfl) e⟩
 | xd fs=>obtain⟨mA,⟨od,es,ep,e,c⟩,r⟩:=x;exact⟨mA,⟨od,es,ep,k _ _ (.inl rfl) e,c⟩,r⟩
 | rng lo hi=>obtain⟨t,u,v,e⟩:=x;exact⟨t,u,v,k _ _ (.inl rfl) e⟩
 | frz ob u ih=>obtain⟨e,q⟩:=x;exact⟨k _ _ (.inl rfl) e,ih q⟩
 | tbl ps =>
  have e:h.get? a=some { cls:=.none,data:=.fields ps }:=x;show h'.get? a=some { cls:=.none,data:=.fields ps };exact k a _ (.inl rfl) e
 | met f y =>
  have e:h.get? a=some (W.methodObj (.ref f) (.ref y)):=x;show h'.get? a=some (W.methodObj (.ref f) (.ref y));exact k a _ (.inl rfl) e
 | ext φ=>obtain⟨p,⟨o,e⟩,st⟩:=x;exact⟨st _ _ p λo q=>k _ _ (.inl rfl) q,⟨o,k _ _ (.inl rfl) e⟩,st⟩
theorem HOk.lt(x:HOk P w H h)(e:H a=some o):a<h.objs.size:=(x a o e).lt
theorem HOk.fresh(x:HOk P w H h)(e:h.objs.size<=a):H a=none:=by
 cases q:H a with
 | none=>rfl
 | some u=>exact gL (qB (x.lt q) e) (qS _)
def HOk.kept(x:HOk P w H h)(k:∀b u,h.get? b=some u->h'.get? b=some u):HOk P w H h':=λa o e =>
 (x a o e).stay (λb u _ q=>k b u q) (λ_ q=>q) λ_ _ q=>q
def HOk.laid(x:HOk P w H h)(k:∀b u,h.get? b=some u->h'.get? b=some u)(hp:h.objs.size<=a)(new:cM P w (upd H a o) h' a o):HOk P w (upd H a o) h':=λb u e=>by
 have hn:=x.fresh hp;by_cases hb:b=a
 ·subst hb;rw[bA] at e;cases e;exact new
 ·rw[aZ hb] at e;exact(x b u e).stay (λc v _ q=>k c v q) (λc q=>by rw[aZ (aP q hn)];exact q) λc xs q=>by rw[aZ (aP q hn)];exact q
end
def Rd(H:Hp)(a:Addr)(u:HO):Prop:=H a=some u\/∃o,H a=some (.frz o u)
def Rd.ok{P:Program}{w:World}{H:Hp}{h:Heap}{a:Addr}{u:HO}(r:Rd H a u)(x:HOk P w H h):cM P w H h a u:=by
 rcases r with r|⟨o,r⟩
 ·exact x a u r
 ·obtain⟨_,q⟩:=x a _ r;exact q
def Mut:Option HO->Prop
 | some (.lst _)=>True
 | some (.dK _)=>True
 | some (.dT _)=>True
 | some (.set _ _)=>True
 | some (.ins _ _ _)=>True
 | some (.ext _)=>True
 | _=>False
section
variable{P:Program}{w:World}{H:Hp}{h h':Heap}{x e:Addr}{o':HO}
def HOk.write(ok:HOk P w H h)(mu:Mut (H x))(he:e=x\/H e=some (.own x))(k:∀b u,b≠e->h.get? b=some u->h'.get? b=some u)(heo:∃u,h'.get? e=some u)
  (new:cM P w (upd H x o') h' x o'):HOk P w (upd H x o') h':=λb u q=>by
 have acz:∀c y,H c=some (.own y)->c≠x:=λc y r z=>by subst z;rw[r] at mu;exact mu
 have agc:∀c xs,H c=some (.tup xs)->c≠x:=λc xs r z=>by subst z;rw[r] at mu;exact mu
 by_cases hb:b=x
 ·subst hb;rw[bA] at q;cases q;exact new
 ·rw[aZ hb] at q;by_cases hbe:b=e
  ·have q':H b=some (.own x):=by
    rcases he with z|z
    ·exact gL (hbe.trans z) hb
    ·rw[hbe];exact z
   rw[q] at q';cases q';obtain⟨v,hv⟩:=heo;exact⟨v,by rw[hbe];exact hv⟩
  ·refine(ok b u q).stay (λc v hc r=>k c v ?_ r) (λc r=>by rw[aZ (acz c b r)];exact r) λc xs r=>by rw[aZ (agc c xs r)];exact r
   rcases hc with rfl|hc
   ·exact hbe
   ·rintro rfl;rcases he with z|z
    ·exact acz c b hc z
    ·rw[hc] at z;cases z;exact hb rfl
end
structure Un(fs ex:List Addr)(H H':Hp)(h h':Heap):Prop where
 keep:∀b o,h.get? b=some o->H b=none->b ∉ fs->b ∉ ex->h'.get? b=some o
 slot:∀b o,h.get? b=some o->H b=none->b∈fs->b ∉ ex->∃sl,h'.get? b=some { o with slots:=sl }
 free:∀b o,h.get? b=some o->H b=none->b ∉ ex->H' b=none
 there:∀b o,h.get? b=some o->b ∉ ex->∃o',h'.get? b=some o'
 tups:∀b xs,H b=some (.tup xs)->H' b=some (.tup xs)
 mY:∀b o u,H b=some (.frz o u)->H' b=some (.frz o u)
 mZ:∀b ps,H b=some (.tbl ps)->∃more,H' b=some (.tbl (ps++more))
section
variable{fs ex:List Addr}{H H1 H2:Hp}{h h1 h2 h':Heap}{a x e:Addr}{o:HO}
def Un.any(u:Un fs ex H H1 h h1){b:Addr}{ob:Obj}(q:h.get? b=some ob)(n:H b=none)(hx:b ∉ ex):∃sl,h1.get? b=some { ob with slots:=sl }:=by
 by_cases hb:b∈fs
 ·exact u.slot b ob q n hb hx
 ·exact⟨ob.slots,u.keep b ob q n hb hx⟩
def Un.trans(a:Un fs ex H H1 h h1)(b:Un fs ex H1 H2 h1 h2):Un fs ex H H2 h h2 where
 keep:=λc ob q n hc hx=>b.keep c ob (a.keep c ob q n hc hx) (a.free c ob q n hx) hc hx
 slot:=λc ob q n hc hx=>by
  obtain⟨sl,e1⟩:=a.slot c ob q n hc hx;obtain⟨sl',e2⟩:=b.slot c _ e1 (a.free c ob q n hx) hc hx;exact⟨sl',e2⟩
 free:=λc ob q n hx=>by
  obtain⟨o',e1⟩:=a.there c ob q hx;exact b.free c o' e1 (a.free c ob q n hx) hx
 there:=λc ob q hx=>by
  obtain⟨o',e1⟩:=a.there c ob q hx;exact b.there c o' e1 hx
 tups:=λc xs q=>b.tups c xs (a.tups c xs q)
 mY:=λc ob xs q=>b.mY c ob xs (a.mY c ob xs q)
 mZ:=λc ps q=>by
  obtain⟨m1,e1⟩:=a.mZ c ps q;obtain⟨m2,e2⟩:=b.mZ c _ e1;exact⟨m1++m2,by rw[e2,Array.append_assoc]⟩
def Un.kept(k:∀b u,h.get? b=some u->h'.get? b=some u):Un fs ex H H h h' :=
 ⟨λb ob q _ _ _=>k b ob q,λb ob q _ _ _=>⟨ob.slots,k b ob q⟩,λ_ _ _ n _=>n,λb ob q _=>⟨ob,k b ob q⟩,λ_ _ q=>q,λ_ _ _ q=>q,λ_ ps q=>⟨#[],by rw[q];simp⟩⟩
def Un.refl:Un fs ex H H h h:=Un.kept λ_ _ q=>q
def Un.laid(k:∀b u,h.get? b=some u->h'.get? b=some u)(hp:h.objs.size<=a)(hn:H a=none):Un fs ex H (upd H a o) h h' where
 keep:=λb u q _ _ _=>k b u q
 slot:=λb u q _ _ _=>⟨u.slots,k b u q⟩
 free:=λb u q n _=>by rw[aZ (qE (qB (uA q) hp))];exact n
 there:=λb u q _=>⟨u,k b u q⟩
 tups:=λb xs q=>by rw[aZ (aP q hn)];exact q
 mY:=λb u xs q=>by rw[aZ (aP q hn)];exact q
 mZ:=λb ps q=>⟨#[],by rw[aZ (aP q hn),q];simp⟩
def Un.write(mu:Mut (H x))(he:e=x\/H e=some (.own x))(k:∀b u,b≠e->h.get? b=some u->h'.get? b=some u)(heo:∃u,h'.get? e=some u):Un fs ex H (upd H x o) h h':=by
 have hx:∀b,H b=none->b≠x:=λb n z=>by subst z;rw[n] at mu;exact mu
 have hb:∀b,H b=none->b≠e:=λb n z=>by
  subst z;rcases he with r|r
  ·exact hx b n r
  ·rw[n] at r;cases r
 have hm:∀b u,H b=some u->¬ Mut (some u)->b≠x:=λb u q nm z=>by subst z;rw[q] at mu;exact nm mu
 refine⟨λb u q n _ _=>k b u (hb b n) q,λb u q n _ _=>⟨u.slots,k b u (hb b n) q⟩,λb u q n _=>by rw[aZ (hx b n)];exact n,λb u q _=>?_,
  λb xs q=>by rw[aZ (hm b _ q λz=>z)];exact q,λb u xs q=>by rw[aZ (hm b _ q λz=>z)];exact q,λb ps q=>⟨#[],by rw[aZ (hm b _ q λz=>z),q];simp⟩⟩
 by_cases hbe:b=e
 ·subst hbe;exact heo
 ·exact⟨u,k b u hbe q⟩
end
def trk(h:Heap)(H:Hp):List Addr:=(List.range h.objs.size).filter λa=>(H a).isSome
def wW(h:Heap)(H:Hp):Heap:=W.hideAll h (trk h H)
def MP(h:Heap)(H:Hp):(wW h H).objs.size=h.objs.size:=W.hideAll_size _ _
def CK{h:Heap}{H:Hp}{b:Addr}{o:Obj}(e:h.get? b=some o)(n:H b=none):(wW h H).get? b=some o :=
 W.hideAll_get _ e λhm=>by
  have q:(H b).isSome=true:=(List.mem_filter.mp hm).2;rw[n] at q;simp at q
theorem VP{h:Heap}{H:Hp}{b:Addr}{o:Obj}(e:(wW h H).get? b=some o):h.get? b=some o/\H b=none:=by
 have e':h.get? b=some o:=W.of_hideAll (trk h H) e;refine⟨e',?_⟩;cases q:H b with
 | none=>rfl
 | some x =>
  have hm:b∈trk h H:=List.mem_filter.mpr ⟨List.mem_range.mpr (Heap.lt_size e'),by simp[q]⟩;have z:(wW h H).get? b=none:=W.hideAll_none (trk h H) hm;rw[z] at e;cases e
structure Mod(K:W.Frag)(mg:xC)(base:Heap):Prop where
 kin:K.In base
 glob:base.Ns mainGlobals mg
 blt:∃mb,base.Ns builtinsNs mb/\∀x:Str,x ≠ "__name__" -> mb x=bootBuiltins x
 nolimit:base.NoLimit
/-- the context: a def's body (or a comprehension's block) running. base: fixed through the whole law; s₀, H₀: the entry; outer: the frames whose slots others may change (a def's callers); stack: all frames that run;
   ex: iterators that were made ahead of the entry and are walked here (a comprehension's);fn: the names whose cells were made at the entry (a def: all;a comprehension's block: its own);calm: not within an except suite;pn: pins that every state bears;xe: what is wanted of an exception that leaves the code -/
structure Cx where
 prog:Program
 w:World
 K:W.Frag
 mg:Str->Option Value
 base:Heap
 A:Around
 N:List Str
 s₀:Shared
 H₀:Hp
 env:Env
 outer:List Env
 stack:List Env
 ex:List Addr
 fn:Str->Bool
 calm:Bool
 pn:List (Addr×Obj)
 xe:Value->Shared->Prop
def frs(l:List Env):List Addr:=l.filterMap (·.frame)
abbrev Cx.fs(X:Cx):List Addr:=frs X.outer
def Vis(sc:Scope)(x:Str):Prop:=sc.names.lookup x=some .local\/sc.names.lookup x=some .cell\/sc.names.lookup x=some .free
def Loc(sc:Scope)(x:Str):Prop:=sc.names.lookup x=some .local\/sc.names.lookup x=some .cell
def Look(env:Env)(h:Heap)(m:xC)(x:Str)(u:Value):Prop :=
 (env.kindOf x=some .local/\m x=some u)\/((env.kindOf x=some .cell\/env.kindOf x=some .free)/\∃c,env.cells.lookup x=some c/\h.IsCell c (some u))
structure Cx.Ok(X:Cx):Prop where
 mod:Mod X.K X.mg X.base
 kind:X.env.scope.kind=.function
 glob:X.env.globals=mainGlobals
 blt:X.env.builtins=builtinsNs
 above:X.s₀.heap.objs.size<=X.env.locals
 inj:∀x y c,X.env.cells.lookup x=some c->X.env.cells.lookup y=some c->x=y
 has:∀x,(X.env.kindOf x=some .cell\/X.env.kindOf x=some .free)->∃c,X.env.cells.lookup x=some c
 cab:∀x c,X.fn x=true->X.env.cells.lookup x=some c->X.s₀.heap.objs.size<=c
 hd:X.calm=true->X.A.handled=none
 frames:X.A.frames=some X.stack
 stk:X.stack=X.outer\/(X.stack=X.env::X.outer/\X.env.frame=some X.env.locals)
 exf:∀b∈X.ex,b≠X.env.locals/\∀x c,X.env.cells.lookup x=some c->c≠b
 bs:∀b o,X.base.get? b=some o->X.s₀.heap.get? b=some o/\X.H₀ b=none
 bsz:X.base.objs.size<=X.s₀.heap.objs.size
 Ae:∀b o,X.base.get? b=some o->b ∉ X.ex
 CN:∀b∈X.ex,b ∉ X.fs
 kO:X.s₀.heap.FunFrames X.base X.outer
 frf:∀b∈X.fs,X.H₀ b=none
structure Inv(X:Cx)(pins:pV)(σ:List (Option V))(H:Hp)(s:Shared):Prop where
 ok:X.Ok
 os:s.os=X.s₀.os
 bare:AllBare s.gens
 base:Un X.fs X.ex X.H₀ H X.s₀.heap s.heap
 loc:∃m,s.heap.Ns X.env.locals m/\∀(i:Nat)(x:Str)(v:V),X.N[i]?=some x->σ[i]?=some (some v)->Vis X.env.scope x->∃u,RelV v u/\Look X.env s.heap m x u
 cell:∀x c,X.env.cells.lookup x=some c->∃v,s.heap.IsCell c v
 free:H X.env.locals=none
 h_:∀x c,X.env.cells.lookup x=some c->H c=none
 pin:∀p∈X.pn++pins,s.heap.get? p.1=some p.2/\H p.1=none/\p.1≠X.env.locals/\p.1 ∉ X.fs/\∀v,p.2.data≠.cell v
 hok:HOk X.prog X.w H s.heap
 len:σ.length=X.N.length
section
variable{X:Cx}{pins:pV}{σ:List (Option V)}{H H':Hp}{s:Shared}{h':Heap}
def Cx.Ok.agd(ok:X.Ok){b:Addr}{o:Obj}(e:X.base.get? b=some o):b ∉ X.fs:=λhb=>by
 have:=(ok.kO.mem hb).1;rw[e] at this;cases this
theorem Inv.bs(I:Inv X pins σ H s):∀b o,X.base.get? b=some o->s.heap.get? b=some o/\H b=none:=λb o e =>
 ⟨I.base.keep b o (I.ok.bs b o e).1 (I.ok.bs b o e).2 (I.ok.agd e) (I.ok.Ae b o e),I.base.free b o (I.ok.bs b o e).1 (I.ok.bs b o e).2 (I.ok.Ae b o e)⟩
def Inv.bk(I:Inv X pins σ H s):∀b o,X.base.get? b=some o->s.heap.get? b=some o:=λb o e=>(I.bs b o e).1
theorem Inv.mod(I:Inv X pins σ H s):Mod X.K X.mg X.base:=I.ok.mod
def Inv.kIn(I:Inv X pins σ H s):X.K.In s.heap:=I.ok.mod.kin.keeps I.bk
theorem Inv.lt(I:Inv X pins σ H s):X.env.locals<s.heap.objs.size:=let ⟨_,hn,_⟩:=I.loc;hn.lt
def Inv.sz(I:Inv X pins σ H s):X.s₀.heap.objs.size<=s.heap.objs.size:=rX I.ok.above (Nat.le_of_lt I.lt)
def Inv.agf(I:Inv X pins σ H s){a:Addr}(h:s.heap.objs.size<=a):a ∉ X.fs:=λhb=>by
 obtain⟨_,o,ho,_⟩:=I.ok.kO.mem hb;exact gL (qB (uA ho) (rX I.sz h)) (qS _)
def Inv.cne(I:Inv X pins σ H s):∀x c,X.env.cells.lookup x=some c->c≠X.env.locals:=λx c e z=>by
 obtain⟨v,o,ho,hd⟩:=I.cell x c e;obtain⟨m,⟨o',es,ep,ho',hd',_⟩,_⟩:=I.loc;rw[z,ho'] at ho;cases ho;rw[hd'] at hd;cases hd
theorem Inv.kO(I:Inv X pins σ H s):s.heap.FunFrames X.base X.outer:=by
 have all:∀(l:List Env),(∀b∈frs l,b∈X.fs)->X.s₀.heap.FunFrames X.base l->s.heap.FunFrames X.base l:=by
  intro l
  induction l with
  | nil=>intro _ _;trivial
  | cons env r ih =>
   intro hs hl;obtain⟨hk,⟨L,o,hf,hn,ho,hd⟩,hr⟩:=hl;have hL:L∈X.fs:=hs L (by unfold frs;rw[List.filterMap_cons,hf];exact List.mem_cons_self);obtain⟨sl,e⟩:=I.base.slot L o ho (I.ok.frf L hL) hL λz=>I.ok.CN L z hL
   exact⟨hk,⟨L,_,hf,hn,e,hd⟩,ih (λb hb=>hs b (by unfold frs;rw[List.filterMap_cons,hf];exact List.mem_cons_of_mem _ hb)) hr⟩
 exact all X.outer (λ_ hb=>hb) I.ok.kO
theorem Inv.stack(I:Inv X pins σ H s):s.heap.FunFrames X.base X.stack:=by
 rcases I.ok.stk with e|⟨e,hf⟩
 ·rw[e];exact I.kO
 ·rw[e];obtain⟨m,hn,_⟩:=I.loc;refine .cons (by rw[I.ok.kind];decide) hf hn ?_ I.kO;exact Heap.get?_none_of_le (rX I.ok.bsz I.ok.above)
def Inv.tX(I:Inv X pins σ H s):∀b∈frs X.stack,b∈X.env.locals::X.fs:=λb hb=>by
 rcases I.ok.stk with e|⟨e,hf⟩
 ·rw[e] at hb;exact zD _ hb
 ·rw[e] at hb;unfold frs at hb;rw[List.filterMap_cons,hf] at hb;exact hb
def Inv.oY(I:Inv X pins σ H s):∀b∈frs X.stack,H b=none:=λb hb=>by
 rcases vS.mp (I.tX b hb) with e|hb
 ·rw[e];exact I.free
 ·obtain⟨_,o,ho,_⟩:=I.ok.kO.mem hb;exact I.base.free b o ho (I.ok.frf b hb) λz=>I.ok.CN b z hb
def Inv.step{g':Array GenState}{t':Nat}{d':Drawn}{ch:List Addr}(I:Inv X pins σ H s)
  (hch:∀b∈ch,(b∈X.ex\/X.s₀.heap.objs.size<=b)/\b≠X.env.locals/\(∀x c,X.env.cells.lookup x=some c->c≠b)/\∀p∈X.pn++pins,p.1≠b)
  (keep:∀b o,b≠X.env.locals->b ∉ X.fs->b ∉ ch->s.heap.get? b=some o->H b=none->h'.get? b=some o)
  (slot:∀b o,b≠X.env.locals->b∈X.fs->b ∉ ch->s.heap.get? b=some o->H b=none->∃sl,h'.get? b=some { o with slots:=sl }) (free:∀b o,b ∉ ch->s.heap.get? b=some o->H b=none->H' b=none)
  (there:∀b o,b ∉ ch->s.heap.get? b=some o->∃o',h'.get? b=some o')
  (tups:∀b xs,H b=some (.tup xs)->H' b=some (.tup xs)) (mY:∀b o u,H b=some (.frz o u)->H' b=some (.frz o u)) (mZ:∀b ps,H b=some (.tbl ps)->∃more,H' b=some (.tbl (ps++more)))
  (ns:∀m,s.heap.Ns X.env.locals m->h'.Ns X.env.locals m) (hok:HOk X.prog X.w H' h') (hg:AllBare g') :
  Inv X pins σ H' { s with heap:=h',gens:=g',drawn:=d',toks:=t' }:=by
 have neL:∀b o,X.s₀.heap.get? b=some o->b≠X.env.locals:=λb o e=>qE (qB (uA e) I.ok.above)
 have neC:∀b o,X.s₀.heap.get? b=some o->b ∉ X.ex->b ∉ ch:=λb o e hx hb=>by
  rcases(hch b hb).1 with z|z
  ·exact hx z
  ·exact gL (qB (uA e) z) (qS _)
 have cellK:∀x c,X.env.cells.lookup x=some c->∀v,s.heap.IsCell c v->h'.IsCell c v:=λx c e v ⟨o,ho,hd⟩=>by
  have nch:c ∉ ch:=λz=>(hch c z).2.2.1 x c e rfl
  by_cases hc:c∈X.fs
  ·obtain⟨sl,q⟩:=slot c o (I.cne x c e) hc nch ho (I.h_ x c e);exact⟨_,q,hd⟩
  ·exact⟨o,keep c o (I.cne x c e) hc nch ho (I.h_ x c e),hd⟩
 refine⟨I.ok,I.os,hg,⟨λb o e n hb hx=>?_,λb o e n hb hx=>?_,λb o e n hx=>?_,λb o e hx=>?_,λb xs e=>tups b xs (I.base.tups b xs e),λb o xs e=>mY b o xs (I.base.mY b o xs e),λb ps e=>?_⟩,?_,λx c e=>?_,?_,λx c e=>?_,λp hp=>?_,hok,I.len⟩
 ·exact keep b o (neL b o e) hb (neC b o e hx) (I.base.keep b o e n hb hx) (I.base.free b o e n hx)
 ·obtain⟨sl,e1⟩:=I.base.slot b o e n hb hx;obtain⟨sl',e2⟩:=slot b _ (neL b o e) hb (neC b o e hx) e1 (I.base.free b o e n hx);exact⟨sl',e2⟩
 ·obtain⟨o',e1⟩:=I.base.there b o e hx;exact free b o' (neC b o e hx) e1 (I.base.free b o e n hx)
 ·obtain⟨o',e1⟩:=I.base.there b o e hx;exact there b o' (neC b o e hx) e1
 ·obtain⟨m1,e1⟩:=I.base.mZ b ps e;obtain⟨m2,e2⟩:=mZ b _ e1;exact⟨m1++m2,by rw[e2,Array.append_assoc]⟩
 ·obtain⟨m,hn,hl⟩:=I.loc;refine⟨m,ns m hn,λi x v e1 e2 e3=>?_⟩;obtain⟨u,r,l⟩:=hl i x v e1 e2 e3;refine⟨u,r,?_⟩;rcases l with l|⟨k,c,e,z⟩
  ·exact .inl l
  ·exact .inr ⟨k,c,e,cellK x c e _ z⟩
 ·obtain⟨v,z⟩:=I.cell x c e;exact⟨v,cellK x c e v z⟩
 ·obtain⟨m,⟨o,_,_,ho,_⟩,_⟩:=I.loc;exact free _ o (λz=>(hch _ z).2.1 rfl) ho I.free
 ·obtain⟨v,o,ho,hd⟩:=I.cell x c e;exact free c o (λz=>(hch c z).2.2.1 x c e rfl) ho (I.h_ x c e)
 ·obtain⟨e,n,ne,nf,d⟩:=I.pin p hp;have nch:p.1 ∉ ch:=λz=>(hch p.1 z).2.2.2 p hp rfl
  exact⟨keep p.1 p.2 ne nf nch e n,free p.1 p.2 nch e n,ne,nf,d⟩
def Inv.un{t':Nat}(I:Inv X pins σ H s)(u:Un X.fs [] H H' s.heap h')(hok:HOk X.prog X.w H' h'):Inv X pins σ H' { s with heap:=h',toks:=t' }:=by
 obtain⟨m,⟨o,es,ep,ho,r⟩,_⟩:=id I.loc;obtain⟨sl,hL⟩:=u.any ho I.free (by simp);exact I.step (g':=s.gens) (d':=s.drawn) (ch:=[]) (λ_ z=>nomatch z) (λb o _ hb _ e n=>u.keep b o e n hb (by simp)) (λb o _ hb _ e n=>u.slot b o e n hb (by simp)) (λb o _ e n=>u.free b o e n (by simp)) (λb o _ e=>u.there b o e (by simp)) u.tups u.mY u.mZ (λm' hm=>by
  obtain⟨o',es',ep',ho',r'⟩:=hm;rw[ho] at ho';cases ho';exact⟨_,es',ep',hL,r'⟩) hok I.bare
def Inv.call{g':Array GenState}{t':Nat}{d':Drawn}{ch:List Addr}(I:Inv X pins σ H s)(u:Un (frs X.stack) ch H H' s.heap h')(hok:HOk X.prog X.w H' h')(hg:AllBare g')
  (hch:∀b∈ch,(b∈X.ex\/X.s₀.heap.objs.size<=b)/\b≠X.env.locals/\(∀x c,X.env.cells.lookup x=some c->c≠b)/\∀p∈X.pn++pins,p.1≠b) :
  Inv X pins σ H' { s with heap:=h',gens:=g',drawn:=d',toks:=t' }:=by
 obtain⟨m,⟨o,es,ep,ho,r⟩,_⟩:=id I.loc;obtain⟨sl,hL⟩:=u.any ho I.free λz=>(hch _ z).2.1 rfl
 exact I.step (ch:=ch) hch (λb o hL hb hc e n=>u.keep b o e n (λz=>(vS.mp (I.tX b z)).elim hL hb) hc) (λb o _ _ hc e n=>u.any e n hc) (λb o hc e n=>u.free b o e n hc) (λb o hc e=>u.there b o e hc) u.tups u.mY u.mZ (λm' hm=>by
  obtain⟨o',es',ep',ho',r'⟩:=hm;rw[ho] at ho';cases ho';exact⟨_,es',ep',hL,r'⟩) hok hg
def Inv.turned{t':Nat}{it:Addr}(I:Inv X pins σ H s)(k:∀b o,b≠it->s.heap.get? b=some o->h'.get? b=some o)(hn:H it=none)(hL:it≠X.env.locals)
  (h1:it∈X.ex\/X.s₀.heap.objs.size<=it) (h2:∀x c,X.env.cells.lookup x=some c->c≠it) (h3:∀p∈X.pn++pins,p.1≠it):Inv X pins σ H { s with heap:=h',toks:=t' }:=by
 have nit:∀b u,H b=some u->b≠it:=λb u e z=>by rw[z,hn] at e;cases e
 refine I.step (g':=s.gens) (d':=s.drawn) (ch:=[it]) (λb hb=>?_) (λb o _ _ hc e _=>k b o (λz=>hc (by simp[z])) e) (λb o _ _ hc e _=>⟨o.slots,k b o (λz=>hc (by simp[z])) e⟩) (λ_ _ _ _ n=>n)
  (λb o hc e=>⟨o,k b o (λz=>hc (by simp[z])) e⟩) (λ_ _ e=>e) (λ_ _ _ e=>e) (λb ps e=>⟨#[],by rw[e];simp⟩) (λm hm=>?_) (λb u e=>?_) I.bare
 ·have e:b=it:=by simpa using hb
  subst e;exact⟨h1,hL,h2,h3⟩
 ·obtain⟨o,es,ep,ho,r⟩:=hm;exact⟨o,es,ep,k _ o (Ne.symm hL) ho,r⟩
 ·refine(I.hok b u e).stay (λc v hc q=>k c v ?_ q) (λ_ q=>q) λ_ _ q=>q
  rcases hc with z|z
  ·rw[z];exact nit b u e
  ·exact nit c _ z
def Inv.tok(I:Inv X pins σ H s)(t:Nat):Inv X pins σ H { s with toks:=t }:=I.un (h':=s.heap) (t':=t) Un.refl I.hok
theorem Inv.kept{t':Nat}(I:Inv X pins σ H s)(k:∀b u,s.heap.get? b=some u->h'.get? b=some u):Inv X pins σ H { s with heap:=h',toks:=t' }:=I.un (Un.kept k) (I.hok.kept k)
theorem Inv.laid{a:Addr}{o:HO}{t':Nat}(I:Inv X pins σ H s)(k:∀b u,s.heap.get? b=some u->h'.get? b=some u)(hp:s.heap.objs.size<=a)(new:cM X.prog X.w (upd H a o) h' a o) :
  Inv X pins σ (upd H a o) { s with heap:=h',toks:=t' }:=I.un (Un.laid k hp (I.hok.fresh hp)) (I.hok.laid k hp new)
theorem Inv.write{x e:Addr}{o:HO}{t':Nat}(I:Inv X pins σ H s)(mu:Mut (H x))(he:e=x\/H e=some (.own x))(k:∀b u,b≠e->s.heap.get? b=some u->h'.get? b=some u)(heo:∃u,h'.get? e=some u)
  (new:cM X.prog X.w (upd H x o) h' x o):Inv X pins σ (upd H x o) { s with heap:=h',toks:=t' }:=I.un (Un.write mu he k heo) (I.hok.write mu he k heo new)
def Inv.tG{m7:pV}(I:Inv X pins σ H s)(h:∀p∈m7,s.heap.get? p.1=some p.2/\H p.1=none/\p.1≠X.env.locals/\p.1 ∉ X.fs/\∀v,p.2.data≠.cell v):Inv X m7 σ H s :=
 ⟨I.ok,I.os,I.bare,I.base,I.loc,I.cell,I.free,I.h_,λp hp=>(wP.mp hp).elim (λz=>I.pin p (mB _ z)) (h p),I.hok,I.len⟩
def CP{N:List Str}(hN:N.Nodup){i j:Nat}{x:Str}(a:N[i]?=some x)(b:N[j]?=some x):i=j:=by
 obtain⟨h1,e1⟩:=jS.mp a;obtain⟨h2,e2⟩:=jS.mp b;exact(List.getElem_inj hN).mp (e1.trans e2.symm)
def xK{M:Model}{A:Around}{E:xB}{i:Nat}{x:Str}{v:V}{u:Value}{Q:xA}(I:Inv X pins σ H s)(hN:X.N.Nodup)(hi:X.N[i]?=some x)(hx:Loc X.env.scope x)(r:RelV v u)
  (h:∀s',Inv X pins (σ.set i (some v)) H s'->(∃a,Heap.SameBut a s.heap s'.heap/\(a=X.env.locals\/X.env.cells.lookup x=some a))->Q () s') (hf:X.fn x=true\/X.env.scope.names.lookup x=some .local:=by first|exact .inl rfl|exact .inr rfl|assumption):wpAny M A (storeName X.env x u) Q E s:=by
 obtain⟨m,hn,hl⟩:=id I.loc;have hcls:(X.env.scope.kind==.class || (X.env.scope.kind==.module && X.env.locals != X.env.globals))=false:=by rw[I.ok.kind];rfl
 have hiσ:i<σ.length:=by rw[I.len];exact(jS.mp hi).1
 have cne:=I.cne;have tracked:∀{a:Addr} {h':Heap},(∃o,s.heap.get? a=some o/\H a=none)->Heap.SameBut a s.heap h'->HOk X.prog X.w H h':=λ{a h'} ha hs b ob e=>by
  obtain⟨_,_,hfree⟩:=ha;refine(I.hok b ob e).stay (λc w' hc q=>(hs.2 c ?_).trans q) (λ_ q=>q) λ_ _ q=>q
  rintro rfl;rcases hc with rfl|hc
  ·rw[hfree] at e;cases e
  ·rw[hfree] at hc;cases hc
 rcases hx with hk|hk
 ·refine wpAny_storeName_local hk hn (λh' hn' hs=>?_) hcls;obtain⟨oL,_,_,hoL,_⟩:=id hn;refine h _ ⟨I.ok,I.os,I.bare,⟨λb o e n hb hx=>?_,λb o e n hb hx=>?_,I.base.free,λb o e hx=>?_,I.base.tups,I.base.mY,I.base.mZ⟩,⟨_,hn',λj y v' e1 e2 e3=>?_⟩,λy c e=>?_,I.free,I.h_,λp hp=>?_,tracked ⟨oL,hoL,I.free⟩ hs,by simpa using I.len⟩ ⟨_,hs,.inl rfl⟩
  ·exact(hs.2 b (qE (qB (uA e) I.ok.above))).trans (I.base.keep b o e n hb hx)
  ·obtain⟨sl,e1⟩:=I.base.slot b o e n hb hx;exact⟨sl,(hs.2 b (qE (qB (uA e) I.ok.above))).trans e1⟩
  ·obtain⟨o',e1⟩:=I.base.there b o e hx;exact⟨o',(hs.2 b (qE (qB (uA e) I.ok.above))).trans e1⟩
  ·by_cases hj:j=i
   ·subst hj;rw[hi] at e1;cases e1;rw[List.getElem?_set_self hiσ] at e2;cases e2;exact⟨u,r,.inl ⟨hk,by simp⟩⟩
   ·rw[List.getElem?_set_ne (Ne.symm hj)] at e2;obtain⟨u',r',q⟩:=hl j y v' e1 e2 e3;refine⟨u',r',?_⟩;rcases q with⟨k,e⟩|⟨k,c,e,z⟩
    ·refine .inl ⟨k,?_⟩;have:y≠x:=λe=>hj (CP hN e1 (e▸hi))
     simp[this,e]
    ·exact .inr ⟨k,c,e,z.sameBut hs (cne y c e)⟩
  ·obtain⟨w',z⟩:=I.cell y c e;exact⟨w',z.sameBut hs (cne y c e)⟩
  ·obtain⟨e,n,ne,nf,d⟩:=I.pin p hp;exact⟨(hs.2 p.1 ne).trans e,n,ne,nf,d⟩
 ·have hfn:X.fn x=true:=by
   rcases hf with z|z
   ·exact z
   ·rw[z] at hk;cases hk
  obtain⟨c,hc⟩:=I.ok.has x (.inl hk);obtain⟨w',z⟩:=I.cell x c hc;refine wpAny_storeName_cell I.ok.kind hk hc z (λh' hc' hs=>?_);obtain⟨oc,hoc,agg⟩:=id z;refine h { s with heap:=h' } ⟨I.ok,I.os,I.bare,⟨λb o e n hb hx=>?_,λb o e n hb hx=>?_,I.base.free,λb o e hx=>?_,I.base.tups,I.base.mY,I.base.mZ⟩,⟨m,hn.sameBut hs (Ne.symm (cne x c hc)),λj y v' e1 e2 e3=>?_⟩,λy c' e=>?_,I.free,I.h_,λp hp=>?_,tracked ⟨oc,hoc,I.h_ x c hc⟩ hs,by simpa using I.len⟩ ⟨c,hs,.inr hc⟩
  ·exact(hs.2 b (qE (qB (uA e) (I.ok.cab x c hfn hc)))).trans (I.base.keep b o e n hb hx)
  ·obtain⟨sl,e1⟩:=I.base.slot b o e n hb hx;exact⟨sl,(hs.2 b (qE (qB (uA e) (I.ok.cab x c hfn hc)))).trans e1⟩
  ·obtain⟨o',e1⟩:=I.base.there b o e hx;exact⟨o',(hs.2 b (qE (qB (uA e) (I.ok.cab x c hfn hc)))).trans e1⟩
  ·by_cases hj:j=i
   ·subst hj;rw[hi] at e1;cases e1;rw[List.getElem?_set_self hiσ] at e2;cases e2;exact⟨u,r,.inr ⟨.inl hk,c,hc,hc'⟩⟩
   ·rw[List.getElem?_set_ne (Ne.symm hj)] at e2;obtain⟨u',r',q⟩:=hl j y v' e1 e2 e3;refine⟨u',r',?_⟩;rcases q with q|⟨k,c',e,z'⟩
    ·exact .inl q
    ·refine .inr ⟨k,c',e,z'.sameBut hs ?_⟩;rintro rfl;exact hj (CP hN e1 (I.ok.inj _ _ _ e hc▸hi))
  ·by_cases hcc:c'=c
   ·subst hcc;exact⟨_,hc'⟩
   ·obtain⟨w2,z2⟩:=I.cell y c' e;exact⟨w2,z2.sameBut hs hcc⟩
  ·obtain⟨e,n,ne,nf,d⟩:=I.pin p hp;refine⟨(hs.2 p.1 ?_).trans e,n,ne,nf,d⟩;intro q;rw[q,hoc] at e;have q':oc=p.2:=nI e;exact d w' (by rw[<- q'];exact agg)
def tY{M:Model}{A:Around}{E:xB}{i:Nat}{x:Str}{v:V}{u:Value}{Q:xA}(I:Inv X pins σ H s)(hN:X.N.Nodup)(hi:X.N[i]?=some x)(hx:Loc X.env.scope x)(r:RelV v u)
  (h:∀s',Inv X pins (σ.set i (some v)) H s'->Q () s') (hf:X.fn x=true\/X.env.scope.names.lookup x=some .local:=by first|exact .inl rfl|exact .inr rfl|assumption):wpAny M A (storeName X.env x u) Q E s :=
 xK I hN hi hx r (λs' I' _=>h s' I') hf
def Inv.call'{s':Shared}{ch:List Addr}(I:Inv X pins σ H s)(ho:s'.os=s.os)(u:Un (frs X.stack) ch H H' s.heap s'.heap)(hok:HOk X.prog X.w H' s'.heap)(hg:AllBare s'.gens)
  (hch:∀b∈ch,(b∈X.ex\/X.s₀.heap.objs.size<=b)/\b≠X.env.locals/\(∀x c,X.env.cells.lookup x=some c->c≠b)/\∀p∈X.pn++pins,p.1≠b):Inv X pins σ H' s':=by
 obtain⟨h',g',d',t',o'⟩:=s';have e:o'=s.os:=ho;subst e;exact I.call (g':=g') (t':=t') (d':=d') u hok hg hch
end
abbrev XK:=Value->Option Addr->Hp->Prop
abbrev St:=List (Option V)
abbrev VK:=V->Hp->Prop
abbrev TE:=St->Hp->VK->Prop
abbrev TT:=St->Hp->(Bool->Hp->Prop)->Prop
abbrev TA:=St->Hp->(List V->Hp->Prop)->Prop
structure Ends where
 nx:St->Hp->Prop
 rt:VK
 bk:St->Hp->Prop:=λ_ _=>False
 ct:St->Hp->Prop:=λ_ _=>False
abbrev TS:=Ends->St->Hp->Prop
def EP(X:Cx)(pins:pV)(σ:St)(Q:VK)(u:Value)(s':Shared):Prop:=∃v H',Inv X pins σ H' s'/\RelV v u/\Q v H'
def TP(X:Cx)(pins:pV)(σ:St)(Q:Bool->Hp->Prop)(b:Bool)(s':Shared):Prop:=∃H',Inv X pins σ H' s'/\Q b H'
def AP(X:Cx)(pins:pV)(σ:St)(Q:List V->Hp->Prop)(us:xD)(s':Shared):Prop:=∃vs H',Inv X pins σ H' s'/\Vals vs us/\Q vs H'
def SP(X:Cx)(pins:pV)(D:Ends)(f:Flow)(s':Shared):Prop :=
 match f with
 | .next=>∃σ' H',Inv X pins σ' H' s'/\D.nx σ' H'
 | .brk=>∃σ' H',Inv X pins σ' H' s'/\D.bk σ' H'
 | .cont=>∃σ' H',Inv X pins σ' H' s'/\D.ct σ' H'
 | .ret u=>∃v σ' H',Inv X pins σ' H' s'/\RelV v u/\D.rt v H'
def PE(X:Cx)(e:Expr)(t:TE):Prop :=
 ∀(pins:pV) (s:Shared) (σ:St) (H:Hp) (Q:VK),Inv X pins σ H s->t σ H Q->wpAny (model X.prog X.w) X.A (eval e X.env) (EP X pins σ Q) X.xe s
def PT(X:Cx)(e:Expr)(t:TT):Prop :=
 ∀(pins:pV) (s:Shared) (σ:St) (H:Hp) (Q:Bool->Hp->Prop),Inv X pins σ H s->t σ H Q->wpAny (model X.prog X.w) X.A (isTrue e X.env (eval e X.env)) (TP X pins σ Q) X.xe s
def PW(X:Cx)(e:Expr)(t:TT):Prop :=
 ∀(whole:Sem Value) (pins:pV) (s:Shared) (σ:St) (H:Hp) (Q:Bool->Hp->Prop),Inv X pins σ H s->t σ H Q->wpAny (model X.prog X.w) X.A (isTrue e X.env whole) (TP X pins σ Q) X.xe s
def PW.pt{X:Cx}{e:Expr}{t:TT}(h:PW X e t):PT X e t:=h _
def PA(X:Cx)(es:List Expr)(t:TA):Prop :=
 ∀(pos:Pos) (pins:pV) (s:Shared) (σ:St) (H:Hp) (Q:List V->Hp->Prop),Inv X pins σ H s->t σ H Q->wpAny (model X.prog X.w) X.A (spliced (backTo pos (starEach es X.env))) (AP X pins σ Q) X.xe s
def PS(X:Cx)(st:Stmt)(t:TS):Prop :=
 ∀(pins:pV) (s:Shared) (σ:St) (H:Hp) (D:Ends),Inv X pins σ H s->t D σ H->wpAny (model X.prog X.w) X.A (exec st X.env) (SP X pins D) X.xe s
def PSs(X:Cx)(st:List Stmt)(t:TS):Prop :=
 ∀(pins:pV) (s:Shared) (σ:St) (H:Hp) (D:Ends),Inv X pins σ H s->t D σ H->wpAny (model X.prog X.w) X.A (execs st X.env) (SP X pins D) X.xe s
def thn{α:Type}{t:Sem α}{Q Q':α->Shared->Prop}{M:Model}{A:Around}{E:xB}{s:Shared}(h:wpAny M A t Q E s)(hQ:∀a s,Q a s->Q' a s):wpAny M A t Q' E s:=nX h hQ λ_ _ x=>x
section
variable{X:Cx}
def cR(i:Nat):TE:=λσ H Q=>∃v,σ[i]?=some (some v)/\Q v H
def tC(v:V):TE:=λ_ H Q=>Q v H
def Zg{i:Nat}{x:Str}{pos:Pos}(hN:X.N[i]?=some x)(hv:Vis X.env.scope x)(hd:(x==("__debug__" : Str))=false:=by decide)(hcd:(x==("__classdict__" : Str))=false:=by decide):PE X (.Name x pos) (cR i):=by
 intro pins s σ H Q I h;obtain⟨v,e,h⟩:=h;obtain⟨m,hn,hl⟩:=I.loc;obtain⟨u,r,l⟩:=hl i x v hN e hv;have fin:EP X pins σ Q u s:=⟨v,H,I,r,h⟩;rcases l with⟨hk,hm⟩|⟨hk,c,hc,hcell⟩
 ·exact wpAny_Name (wpAny_loadName_local I.ok.kind hk hn hm fin) hd
 ·rcases hk with hk|hk
  ·exact wpAny_Name (wpAny_loadName_cell I.ok.kind hk hc hcell fin) hd
  ·exact wpAny_Name (wpAny_loadName_free I.ok.kind hk hc hcell fin hcd) hd
def au{i j pos}:PE X (.Constant (.int i) j pos) (tC (.int i)):=λ_ _ _ H _ I h=>wpAny_Constant_int ⟨.int i,H,I.tok _,⟨_,rfl⟩,h⟩
def iG{b j pos}:PE X (.Constant (.bool b) j pos) (tC (.bl b)):=λ_ _ _ H _ I h=>Constant_bool ⟨.bl b,H,I,rfl,h⟩
def fM{j pos}:PE X (.Constant .none j pos) (tC .non):=λ_ _ _ H _ I h=>Constant_none ⟨.non,H,I,rfl,h⟩
def gW{x j pos}:PE X (.Constant (.str x) j pos) (tC (.str x)):=λ_ _ _ H _ I h=>Calls.Constant_str ⟨.str x,H,I.tok _,⟨_,rfl⟩,h⟩
def Gl(X:Cx)(x:Str):Prop:=X.env.kindOf x=some .globalImplicit
def jO{E:xB}{pins:pV}{s:Shared}{σ:St}{H:Hp}{x:Str}{u:Value}{pos:Pos}{Q:xB}(I:Inv X pins σ H s)(hg:Gl X x)(hm:X.mg x=some u)(h:Q u s)
  (hd:(x==("__debug__" : Str))=false:=by decide):wpAny (model X.prog X.w) X.A (eval (.Name x pos) X.env) Q E s :=
 Calls.Name_function_global I.ok.kind hg (Calls.loadGlobal_global (by rw[I.ok.glob];exact I.mod.glob.keeps I.bk) hm h) hd
def iH{E:xB}{pins:pV}{s:Shared}{σ:St}{H:Hp}{x:Str}{u:Value}{pos:Pos}{Q:xB}(I:Inv X pins σ H s)(hg:Gl X x)(hm:X.mg x=none)(hv:bootBuiltins x=some u)(h:Q u s)
  (hn:x ≠ "__name__":=by decide) (hd:(x==("__debug__" : Str))=false:=by decide):wpAny (model X.prog X.w) X.A (eval (.Name x pos) X.env) Q E s:=by
 obtain⟨mb,h1,h2⟩:=I.mod.blt;exact Calls.Name_function_global I.ok.kind hg (Calls.loadGlobal_builtin (by rw[I.ok.glob];exact I.mod.glob.keeps I.bk) hm (by rw[I.ok.blt];exact h1.keeps I.bk) ((h2 x hn).trans hv) h) hd
def VR{x:Str}{v:V}{u:Value}{pos:Pos}(hg:Gl X x)(hm:X.mg x=some u)(r:RelV v u)(hd:(x==("__debug__" : Str))=false:=by decide):PE X (.Name x pos) (tC v) :=
 λ_ _ _ H _ I h=>jO I hg hm ⟨v,H,I,r,h⟩ hd
def V1{x:Str}{v:V}{u:Value}{pos:Pos}(hg:Gl X x)(hm:X.mg x=none)(hv:bootBuiltins x=some u)(r:RelV v u)(hn:x ≠ "__name__":=by decide)(hd:(x==("__debug__" : Str))=false:=by decide):PE X (.Name x pos) (tC v) :=
 λ_ _ _ H _ I h=>iH I hg hm hv ⟨v,H,I,r,h⟩ hn hd
variable{a b:Expr}{ta tb:TE}{pos:Pos}
def tB(t:TE):TT:=λσ H Q=>t σ H λx H1=>∃c,x=.bl c/\Q c H1
def dH{e:Expr}{t:TE}(h:PE X e t)(he:∀whole,isTrue e X.env whole=(do let v <- whole;standAt e.pos;holding [v] (truthy v)):=by intro _;rfl):PT X e (tB t):=by
 intro pins s σ H Q I hw;refine isTrue_plain (thn (h pins s σ H _ I hw) λv s1 ⟨x,H1,I1,r1,q1⟩=>?_) (he _);obtain⟨d,rfl,q⟩:=q1;cases r1;exact wpAny_truthy_bool ⟨H1,I1,q⟩
variable{tA tB':TT}{rest:List Expr}
def Zh(t u:TT):TT:=λσ H Q=>t σ H λc H1=>if c=true then u σ H1 Q else Q false H1
def tOr(t u:TT):TT:=λσ H Q=>t σ H λc H1=>if c=true then Q true H1 else u σ H1 Q
def Zi(t:TT):TT:=λσ H Q=>t σ H λc H1=>Q (!c) H1
theorem tH(ha:PT X a tA):PW X (.BoolOp .And [a] pos) tA:=by
 intro wh pins s σ H Q I h;refine isTrue_and (thn (ha pins s σ H Q I h) λc s1 e=>?_);cases c with
 | true=>exact isTrue_and_nil e
 | false=>exact e
theorem gY(ha:PT X a tA):PW X (.BoolOp .Or [a] pos) tA:=by
 intro wh pins s σ H Q I h;refine isTrue_or (thn (ha pins s σ H Q I h) λc s1 e=>?_);cases c with
 | false=>exact isTrue_or_nil e
 | true=>exact e
theorem Af(ha:PT X a tA)(hb:PW X (.BoolOp .And (b::rest) pos) tB'):PW X (.BoolOp .And (a::b::rest) pos) (Zh tA tB'):=by
 intro wh pins s σ H Q I h;refine isTrue_and (thn (ha pins s σ H _ I h) λc s1 ⟨H1,I1,q1⟩=>?_);cases c with
 | true=>exact hb wh pins s1 σ H1 Q I1 q1
 | false=>exact⟨H1,I1,q1⟩
theorem gO(ha:PT X a tA)(hb:PW X (.BoolOp .Or (b::rest) pos) tB'):PW X (.BoolOp .Or (a::b::rest) pos) (tOr tA tB'):=by
 intro wh pins s σ H Q I h;refine isTrue_or (thn (ha pins s σ H _ I h) λc s1 ⟨H1,I1,q1⟩=>?_);cases c with
 | true=>exact⟨H1,I1,q1⟩
 | false=>exact hb wh pins s1 σ H1 Q I1 q1
def dW(ha:PT X a tA):PT X (.UnaryOp .Not a pos) (Zi tA):=by
 intro pins s σ H Q I h;exact isTrue_not (ha pins s σ H (λc H1=>Q (!c) H1) I h)
def Pz(ta tb:TE):TE:=λσ H Q=>ta σ H λx H1=>∃c,x=.bl c/\if c=true then tb σ H1 Q else Q (.bl false) H1
def PB(ta:TE):TE:=λσ H Q=>ta σ H λx H1=>∃c,x=.bl c/\Q (.bl (!c)) H1
def jP{op}{t:TE}(h:PE X a t):PE X (.BoolOp op [a] pos) t:=λpins s σ H Q I hw=>BoolOp_one (h pins s σ H Q I hw)
theorem iI(ha:PE X a ta)(hb:PE X (.BoolOp .And (b::rest) pos) tb):PE X (.BoolOp .And (a::b::rest) pos) (Pz ta tb):=by
 intro pins s σ H Q I h;refine BoolOp_and (thn (ha pins s σ H _ I h) λv s1 ⟨x,H1,I1,r1,q1⟩=>?_);obtain⟨c,rfl,q1⟩:=q1;cases r1;refine wpAny_truthy_bool ?_;cases c with
 | true=>exact hb pins s1 σ H1 Q I1 q1
 | false=>exact⟨.bl false,H1,I1,rfl,q1⟩
def PK(ha:PE X a ta):PE X (.UnaryOp .Not a pos) (PB ta):=by
 intro pins s σ H Q I h;refine UnaryOp_ (thn (ha pins s σ H _ I h) λv s1 ⟨x,H1,I1,r1,q1⟩=>?_);obtain⟨c,rfl,q1⟩:=q1;cases r1;exact not_of (wpAny_truthy_bool ⟨.bl (!c),H1,I1,rfl,q1⟩)
def tIf(t:TT)(ta tb:TE):TE:=λσ H Q=>t σ H λc H1=>if c=true then ta σ H1 Q else tb σ H1 Q
theorem oZ{c:Expr}(hc:PT X c tA)(ha:PE X a ta)(hb:PE X b tb):PE X (.IfExp c a b pos) (tIf tA ta tb):=by
 intro pins s σ H Q I h;refine wpAny_IfExp (thn (hc pins s σ H _ I h) λd s1 ⟨H1,I1,q1⟩=>?_);cases d with
 | true=>exact ha pins s1 σ H1 Q I1 q1
 | false=>exact hb pins s1 σ H1 Q I1 q1
end
def SqL(K:W.Frag)(H:Hp)(a:Addr)(xs:List V):Prop :=
 Rd H a (.lst xs) \/
  ∃(o:Obj)(its:xF)(n:Nat),K.lookup a=some o/\o.cls=.type "list" /\ o.dict=none/\o.data=.seq its n/\its.size<=sizeLine/\Vals xs its.toList
def SqT(K:W.Frag)(H:Hp)(a:Addr)(xs:List V):Prop :=
 Rd H a (.tup xs) \/
  ∃(o:Obj)(its:xF)(n:Nat),K.lookup a=some o/\o.cls=.type "tuple" /\ o.data=.seq its n/\its.size<=sizeLine/\Vals xs its.toList
def agh:Value->Option V
 | .none=>some .non
 | .bool b=>some (.bl b)
 | .int i _=>some (.int i)
 | .str x _=>some (.str x)
 | .bytes b _=>some (.byt b)
 | .float b _=>some (.flt b)
 | .ref a=>some (.ref a)
 | .type n=>some (.ty n)
 | _=>none
theorem RelV.abs{x:V}{u:Value}(r:RelV x u):agh u=some x:=by
 cases x with
 | non=>cases r;rfl
 | bl _=>cases r;rfl
 | int _=>obtain⟨t,rfl⟩:=r;rfl
 | str _=>obtain⟨t,rfl⟩:=r;rfl
 | byt _=>obtain⟨t,rfl⟩:=r;rfl
 | flt _=>obtain⟨t,rfl⟩:=r;rfl
 | ref _=>cases r;rfl
 | ty _=>cases r;rfl
def RelV.inj{x y:V}{u:Value}(r:RelV x u)(q:RelV y u):x=y:=nI (r.abs.symm.trans q.abs)
theorem Vals.inj:∀{xs ys:List V} {us:xD},Vals xs us->Vals ys us->xs=ys
 | _,_,_,.nil,.nil=>rfl
 | _,_,_,.cons r t,.cons r' t'=>by rw[r.inj r',Vals.inj t t']
section
variable{X:Cx}{pins:pV}{σ:St}{H:Hp}{s:Shared}{a:Addr}{xs ys:List V}
def SqL.of{K:W.Frag}(h:H a=some (.lst xs)):SqL K H a xs:=.inl (.inl h)
def SqT.of{K:W.Frag}(h:H a=some (.tup xs)):SqT K H a xs:=.inl (.inl h)
def Inv.list(I:Inv X pins σ H s)(h:SqL X.K H a xs):∃its:List Value,Vals xs its/\PlainL s.heap a its.toArray/\xs.length<=sizeLine:=by
 rcases h with h|⟨o,its,n,hk,hc,hd,hs,hz,r⟩
 ·obtain⟨z,its,n,r,e⟩:=h.ok I.hok;exact⟨its,r,⟨_,n,e,rfl,rfl,rfl⟩,z⟩
 ·refine⟨its.toList,r,⟨o,n,I.kIn a o hk,hc,hd,by simpa using hs⟩,?_⟩;have e:=r.length;simp only[Array.length_toList] at e
  lia
def Inv.tuple(I:Inv X pins σ H s)(h:SqT X.K H a xs):∃its:List Value,Vals xs its/\IsTup s.heap a its.toArray/\xs.length<=sizeLine:=by
 rcases h with h|⟨o,its,n,hk,hc,hs,hz,r⟩
 ·obtain⟨z,its,r,p⟩:=h.ok I.hok;exact⟨its,r,p,z⟩
 ·refine⟨its.toList,r,⟨o,I.kIn a o hk,hc,n,by simpa using hs⟩,?_⟩;have e:=r.length;simp only[Array.length_toList] at e
  lia
def Inv.tZ(I:Inv X pins σ H s)(h:SqL X.K H a xs)(h':SqL X.K H a ys):xs=ys:=by
 obtain⟨its,r,⟨o,n,e,_,_,d⟩,_⟩:=I.list h;obtain⟨its',r',⟨o',n',e',_,_,d'⟩,_⟩:=I.list h';rw[e] at e';cases e';rw[d] at d';injection d' with d1 _
 have:its=its':=by simpa using congrArg Array.toList d1
 subst this;exact r.inj r'
def Inv.xM(I:Inv X pins σ H s)(h:SqT X.K H a xs)(h':SqT X.K H a ys):xs=ys:=by
 obtain⟨its,r,⟨o,e,_,n,d⟩,_⟩:=I.tuple h;obtain⟨its',r',⟨o',e',_,n',d'⟩,_⟩:=I.tuple h';rw[e] at e';cases e';rw[d] at d';injection d' with d1 _
 have:its=its':=by simpa using congrArg Array.toList d1
 subst this;exact r.inj r'
end
abbrev Cx.wish(X:Cx)(E:xB):Cx:={ X with xe:=E }
abbrev Cx.nox(X:Cx):Cx:=X.wish λ_ _=>False
theorem Cx.Ok.wish{X:Cx}(ok:X.Ok)(E:xB):(X.wish E).Ok :=
 ⟨ok.mod,ok.kind,ok.glob,ok.blt,ok.above,ok.inj,ok.has,ok.cab,ok.hd,ok.frames,ok.stk,ok.exf,ok.bs,ok.bsz,ok.Ae,ok.CN,ok.kO,ok.frf⟩
def Cx.Ok.gh{X:Cx}{E:xB}(ok:(X.wish E).Ok):X.Ok :=
 ⟨ok.mod,ok.kind,ok.glob,ok.blt,ok.above,ok.inj,ok.has,ok.cab,ok.hd,ok.frames,ok.stk,ok.exf,ok.bs,ok.bsz,ok.Ae,ok.CN,ok.kO,ok.frf⟩
section
variable{X:Cx}{pins:pV}{σ:St}{H:Hp}{s:Shared}{E:xB}
theorem Inv.wish(I:Inv X pins σ H s)(E:xB):Inv (X.wish E) pins σ H s:=⟨I.ok.wish E,I.os,I.bare,I.base,I.loc,I.cell,I.free,I.h_,I.pin,I.hok,I.len⟩
theorem Inv.gh(I:Inv (X.wish E) pins σ H s):Inv X pins σ H s:=⟨I.ok.gh,I.os,I.bare,I.base,I.loc,I.cell,I.free,I.h_,I.pin,I.hok,I.len⟩
theorem SP.gh{D:Ends}{f:Flow}{s':Shared}(h:SP (X.wish E) pins D f s'):SP X pins D f s':=by
 cases f with
 | next=>obtain⟨σ',H',I,q⟩:=h;exact⟨σ',H',I.gh,q⟩
 | brk=>obtain⟨σ',H',I,q⟩:=h;exact⟨σ',H',I.gh,q⟩
 | cont=>obtain⟨σ',H',I,q⟩:=h;exact⟨σ',H',I.gh,q⟩
 | ret u=>obtain⟨v,σ',H',I,r,q⟩:=h;exact⟨v,σ',H',I.gh,r,q⟩
theorem PSs.nox{st:List Stmt}{t:TS}(h:PSs X.nox st t):PSs X st t:=λpins s σ H D I hw =>
 nX (h pins s σ H D (I.wish _) hw) (λ_ _ q=>q.gh) λ_ _ z=>False.elim z
end
section
variable{X:Cx}{st:Stmt}{rest:List Stmt}{t u:TS}{e:Expr}{te:TE}{pos:Pos}
def PL:TS:=λD σ H=>D.nx σ H
def Zj(t u:TS):TS:=λD σ H=>t { D with nx:=u D } σ H
def bf:PSs X [] PL:=λ_ _ σ H _ I h=>wpAny_execs_nil ⟨σ,H,I,h⟩
theorem aq(h1:PS X st t)(h2:PSs X rest u):PSs X (st::rest) (Zj t u):=by
 intro pins s σ H D I h;refine wpAny_execs_cons (thn (h1 pins s σ H { D with nx:=u D } I h) λf s1 q=>?_)
 cases f with
 | next =>
  obtain⟨σ',H',I',q⟩:=q;exact h2 pins s1 σ' H' D I' q
 | ret v=>exact q
 | brk=>exact q
 | cont=>exact q
theorem aF(h1:PS X st t):PSs X [st] t:=by
 intro pins s σ H D I h;refine wpAny_execs_cons (thn (h1 pins s σ H D I h) λf s1 q=>?_);cases f with
 | next=>exact wpAny_execs_nil q
 | ret v=>exact q
 | brk=>exact q
 | cont=>exact q
def Inv.quiet{pins:pV}{σ:St}{H:Hp}{s:Shared}(I:Inv X pins σ H s):interactive X.env=false:=by simp[interactive,I.ok.kind]
def PN(te:TE):TS:=λD σ H=>te σ H λ_ H1=>D.nx σ H1
def cT(he:PE X e te)(hs:swapsWith e none pos.line X.env=pure false:=by rfl):PS X (.Expr e pos) (PN te):=by
 intro pins s σ H D I h;exact wpAny_Expr_any (thn (he pins s σ H _ I h) λv s1 ⟨x,H1,I1,r1,q1⟩=>⟨σ,H1,I1,q1⟩) I.quiet hs
def V2(te:TE):TS:=λD σ H=>te σ H D.rt
def aR(he:PE X e te):PS X (.Return (some e) pos) (V2 te):=by
 intro pins s σ H D I h;exact wpAny_Return_some (thn (he pins s σ H _ I h) λv s1 ⟨x,H1,I1,r1,q1⟩=>⟨x,σ,H1,I1,r1,q1⟩)
def CQ(c:TT)(t u:TS):TS:=λD σ H=>c σ H λb H1=>if b=true then t D σ H1 else u D σ H1
theorem bL{c:Expr}{a b:List Stmt}{tc:TT}(hc:PT X c tc)(ha:PSs X a t)(hb:PSs X b u):PS X (.If c a b pos) (CQ tc t u):=by
 intro pins s σ H D I h;refine wpAny_If (thn (hc pins s σ H _ I h) λd s1 ⟨H1,I1,q1⟩=>?_);cases d with
 | true=>exact ha pins s1 σ H1 D I1 q1
 | false=>exact hb pins s1 σ H1 D I1 q1
def Zk:TS:=λ_ _ _=>False
def eV{sts:List Stmt}:PSs X sts Zk:=λ_ _ _ _ _ _ h=>h.elim
end
abbrev TG:=V->St->Hp->(St->Hp->Prop)->Prop
abbrev TGs:=List V->St->Hp->(St->Hp->Prop)->Prop
def PG(X:Cx)(target:Expr)(t:TG):Prop :=
 ∀(pins:pV) (s:Shared) (σ:St) (H:Hp) (v:V) (u:Value) (Q:St->Hp->Prop),Inv X pins σ H s->RelV v u->t v σ H Q ->
  wpAny (model X.prog X.w) X.A (assign target X.env u) (λ_ s'=>∃σ' H',Inv X pins σ' H' s'/\Q σ' H') X.xe s
def PGs(X:Cx)(ts:List Expr)(t:TGs):Prop :=
 ∀(pins:pV) (s:Shared) (σ:St) (H:Hp) (vs:List V) (us:xD) (Q:St->Hp->Prop),Inv X pins σ H s->Vals vs us->t vs σ H Q ->
  wpAny (model X.prog X.w) X.A (assignInOrder ((assignEach ts X.env).map (·.2)) us) (λ_ s'=>∃σ' H',Inv X pins σ' H' s'/\Q σ' H') X.xe s
abbrev PX:=V->V->V->Hp->(Hp->Prop)->Prop
def Zm(X:Cx)(t:PX):Prop :=
 ∀(pins:pV) (s:Shared) (σ:St) (H:Hp) (o i v:V) (ov iv u:Value) (Q:Hp->Prop),Inv X pins σ H s->RelV o ov->RelV i iv->RelV v u->t o i v H Q ->
  wpAny (model X.prog X.w) X.A (setItem ov iv u) (λ_ s'=>∃H',Inv X pins σ H' s'/\Q H') X.xe s
abbrev TIp:=V->V->Hp->VK->Prop
def PIp(X:Cx)(op:Operator)(t:TIp):Prop :=
 ∀(pins:pV) (s:Shared) (σ:St) (H:Hp) (x y:V) (v u:Value) (Q:VK),Inv X pins σ H s->RelV x v->RelV y u->t x y H Q ->
  wpAny (model X.prog X.w) X.A (inplaceOp op v u) (EP X pins σ Q) X.xe s
section
variable{X:Cx}{pos:Pos}
def aU(i:Nat):TG:=λv σ H Q=>Q (σ.set i (some v)) H
def bG{i:Nat}{x:Str}(hN:X.N.Nodup)(hi:X.N[i]?=some x)(hx:Loc X.env.scope x)(hf:X.fn x=true\/X.env.scope.names.lookup x=some .local:=by first|exact .inl rfl|exact .inr rfl|assumption):PG X (.Name x pos) (aU i):=by
 intro pins s σ H v u Q I r h;exact wpAny_assign_Name (tY I hN hi hx r (λs' I'=>⟨_,H,I',h⟩) hf)
def qO:TGs:=λvs σ H Q=>vs=[]/\Q σ H
def cJ(t:TG)(u:TGs):TGs:=λvs σ H Q=>∃v r,vs=v::r/\t v σ H λσ' H'=>u r σ' H' Q
def cW:PGs X [] qO:=by
 intro pins s σ H vs us Q I r h;obtain⟨e,h⟩:=h;subst e;cases r;exact assignInOrder_nil ⟨σ,H,I,h⟩
theorem aV{e:Expr}{es:List Expr}{t:TG}{u:TGs}(h1:PG X e t)(h2:PGs X es u)
  (hs:(assignEach (e::es) X.env).map (·.2)=assign e X.env::(assignEach es X.env).map (·.2):=by rfl):PGs X (e::es) (cJ t u):=by
 intro pins s σ H vs us Q I r h;obtain⟨v,vr,e1,h⟩:=h;subst e1;cases r with
 | cons r rr =>
  rw[hs];refine assignInOrder_cons (thn (h1 pins s σ H _ _ _ I r h) λ_ s1 ⟨σ1,H1,I1,q1⟩=>?_);exact h2 pins s1 σ1 H1 _ _ Q I1 rr q1
def o_(K:W.Frag)(n:Nat)(t:TGs):TG:=λv σ H Q=>∃a xs,v=.ref a/\SqT K H a xs/\xs.length=n/\t xs σ H Q
def fD{es:List Expr}{k:Nat}{t:TGs}{n:Nat}(hc:X.calm=true)(h:PGs X es t)
  (hn:(assignEach es X.env).length=n:=by rfl) (hst:(assignEach es X.env).findIdx? (·.1)=none:=by rfl):PG X (.Tuple es k pos) (o_ X.K n t):=by
 intro pins s σ H v u Q I r hw;obtain⟨a,xs,e1,hq,hl,hw⟩:=hw;subst e1;cases r;obtain⟨its,rv,ht,hz⟩:=I.tuple hq;refine assign_Tuple_tuple (I.ok.hd hc) ht (by simp[hn,<- hl,rv.length]) hst λh' hx=>?_
 have I1:Inv X pins σ H { s with heap:=h' }:=I.kept (t':=s.toks) λb o e=>hx b o (qE (uA e)) e
 exact h pins _ σ H xs _ Q I1 (by simpa using rv) hw
def Zn(to ti:TE)(t:PX):TG:=λv σ H Q=>to σ H λo H1=>ti σ H1 λi H2=>t o i v H2 λH3=>Q σ H3
def t_{o i:Expr}{to ti:TE}{t:PX}(ho:PE X o to)(hi:PE X i ti)(hs:Zm X t)
  (ha:∀v,assign (.Subscript o i pos) X.env v=(do
   let ov <- holding [v] (eval o X.env)
   let iv <- holding [v,ov] (eval i X.env)
   standAt pos
   holding [v,ov,iv] (setItem ov iv v)
   release [v,ov,iv] []):=by intro _;rfl):PG X (.Subscript o i pos) (Zn to ti t):=by
 intro pins s σ H v u Q I r h;rw[ha];refine zI (nV (thn (ho pins s σ H _ I h) λov s1 ⟨x,H1,I1,r1,q1⟩=>?_));refine zI (nV (thn (hi pins s1 σ H1 _ I1 q1) λiv s2 ⟨y,H2,I2,r2,q2⟩=>?_));refine zI (wpAny_standAt (zI (nV (thn (hs pins s2 σ H2 x y v ov iv u _ I2 r1 r2 r q2) λ_ s3 ⟨H3,I3,q3⟩=>?_))));exact wpAny_release ⟨σ,H3,I3,q3⟩
def G_(te:TE)(g:TG):TS:=λD σ H=>te σ H λx H1=>g x σ H1 D.nx
def jQ{tg e:Expr}{te:TE}{g:TG}(he:PE X e te)(hg:PG X tg g)(hs:swapsWithSole [tg] e pos.line X.env=pure false:=by rfl)(hw:swappedStores [tg] e X.env=pure none:=by rfl)
  (h1:(assignEach [tg] X.env).map (·.2)=[assign tg X.env]:=by rfl):PS X (.Assign [tg] e pos) (G_ te g):=by
 intro pins s σ H D I h;refine wpAny_Assign_stores (thn (he pins s σ H _ I h) λv s1 ⟨x,H1,I1,r1,q1⟩=>?_) hs hw;rw[h1];exact thn (hg pins s1 σ H1 x v _ I1 r1 q1) λ_ s2 q=>q
def Ag{i:Nat}{x:Str}{e:Expr}{te:TE}{pos':Pos}(hN:X.N.Nodup)(hi:X.N[i]?=some x)(hx:Loc X.env.scope x)(he:PE X e te)(hs:swapsWith e (some (.Name x pos')) pos.line X.env=pure false:=by rfl)(hf:X.fn x=true\/X.env.scope.names.lookup x=some .local:=by first|exact .inl rfl|exact .inr rfl|assumption) :
  PS X (.Assign [.Name x pos'] e pos) (G_ te (aU i)):=by
 intro pins s σ H D I h;refine wpAny_Assign_Name (thn (he pins s σ H _ I h) λv s1 ⟨y,H1,I1,r1,q1⟩=>?_) hs;exact tY I1 hN hi hx r1 (λs2 I2=>⟨_,H1,I2,q1⟩) hf
def Zo(i:Nat)(te:TE)(ti:TIp):TS:=λD σ H=>∃x,σ[i]?=some (some x)/\te σ H λy H1=>ti x y H1 λz H2=>D.nx (σ.set i (some z)) H2
def Zq{i:Nat}{x:Str}{e:Expr}{te:TE}{op:Operator}{ti:TIp}{pos':Pos}(hN:X.N.Nodup)(hi:X.N[i]?=some x)(hx:Loc X.env.scope x)(he:PE X e te)(ho:PIp X op ti)(hf:X.fn x=true\/X.env.scope.names.lookup x=some .local:=by first|exact .inl rfl|exact .inr rfl|assumption) :
  PS X (.AugAssign (.Name x pos') op e pos) (Zo i te ti):=by
 intro pins s σ H D I h;obtain⟨v,e1,h⟩:=h;obtain⟨m,hn,hl⟩:=I.loc;have vis:Vis X.env.scope x:=by rcases hx with k|k;exact .inl k;exact .inr (.inl k)
 obtain⟨u,r,l⟩:=hl i x v hi e1 vis;refine wpAny_AugAssign_Name ?_;have go:wpAny (model X.prog X.w) X.A (eval e X.env) (λw s₂=>wpAny (model X.prog X.w) X.A (inplaceOp op u w) (λr s₃=>wpAny (model X.prog X.w) X.A (storeName X.env x r) (λ_=>SP X pins D .next) X.xe s₃) X.xe s₂) X.xe s:=by
  refine thn (he pins s σ H _ I h) λw s1 ⟨y,H1,I1,r1,q1⟩=>?_
  refine thn (ho pins s1 σ H1 v y u w _ I1 r r1 q1) λz s2 ⟨zv,H2,I2,r2,q2⟩=>?_
  exact tY I2 hN hi hx r2 (λs3 I3=>⟨_,H2,I3,q2⟩) hf
 rcases l with⟨hk,hm⟩|⟨hk,c,hc,hcell⟩
 ·exact wpAny_loadName_local I.ok.kind hk hn hm go
 ·rcases hk with hk|hk
  ·exact wpAny_loadName_cell I.ok.kind hk hc hcell go
  ·rcases hx with k|k
   ·have:X.env.scope.names.lookup x=some .free:=hk;rw[k] at this;cases this
   ·have:X.env.scope.names.lookup x=some .free:=hk;rw[k] at this;cases this
end
structure It where
 go:Nat->Hp->Prop
 yld:Nat->Hp->V->Hp->Prop
 stop:Nat->Hp->Prop
def gZ(X:Cx)(pins:pV)(H:Hp)(b:Addr):Prop :=
 H b=none/\b≠X.env.locals/\b ∉ X.fs/\(b∈X.ex\/X.s₀.heap.objs.size<=b)/\(∀x c,X.env.cells.lookup x=some c->c≠b)/\∀p∈X.pn++pins,p.1≠b
def Inv.CT{X:Cx}{pins:pV}{σ:St}{H H':Hp}{s:Shared}{b:Addr}(I:Inv X pins σ H s)(hb:s.heap.objs.size<=b)(hn:H' b=none):gZ X pins H' b:=by
 refine⟨hn,Nat.ne_of_gt (qB I.lt hb),I.agf hb,.inr (rX I.sz hb),λx c e z=>?_,λp hp z=>?_⟩
 ·obtain⟨v,q⟩:=I.cell x c e;exact gL (qB q.lt (by rw[z];exact hb)) (qS _)
 ·exact gL (qB (uA (I.pin p hp).1) (by rw[z];exact hb)) (qS _)
structure Turn(P:Program)(w:World)(K:W.Frag)(tg:Expr)(J:It)(fp:List Addr)(it:Addr)(tn:Nat->Heap->Prop):Prop where
 mem:it∈fp
 obj:∀i h,tn i h->∀b∈fp,∃o,h.get? b=some o/\∀v,o.data≠.cell v
 keep:∀i h h',tn i h->(∀b∈fp,∀o,h.get? b=some o->h'.get? b=some o)->tn i h'
 item:∀(X:Cx),X.prog=P->X.w=w->X.K=K->X.calm=true->∀(i:Nat) (pins:pV) (s:Shared) (σ:St) (H:Hp) (E:xB),Inv X pins σ H s->(∀b∈fp,gZ X pins H b)->tn i s.heap->J.go i H ->
  wpAny (model P w) X.A (pyNext (.ref it)) (λr s1=>∃u,r=some u /\
   wpAny (model P w) X.A (letOwnedTupleGo tg (.ref it) u) (λ_ s2=>∃x H',Inv X pins σ H' s2/\RelV x u/\J.yld i H x H'/\tn (i+1) s2.heap/\∀b∈fp,H' b=none) E s1) E s
 done:∀(X:Cx),X.prog=P->X.w=w->X.K=K->X.calm=true->∀(i:Nat) (pins:pV) (s:Shared) (σ:St) (H:Hp) (E:xB),Inv X pins σ H s->(∀b∈fp,gZ X pins H b)->tn i s.heap->J.stop i H ->
  wpAny (model P w) X.A (pyNext (.ref it)) (λr s1=>r=none/\Inv X pins σ H s1) E s
 self:∀(A:Around)(i:Nat)(s:Shared)(Q:xB)(E:xB),tn i s.heap->Q (.ref it) s->wpAny (model P w) A (pyIter (.ref it)) Q E s
abbrev TI:=St->Hp->(It->Hp->Prop)->Prop
def PIE(X:Cx)(pins:pV)(σ:St)(tg:Expr)(R:It->Hp->Prop)(itv:Value)(s2:Shared):Prop :=
 ∃(it:Addr)(fp:List Addr)(tn:Nat->Heap->Prop)(J:It)(H':Hp),itv=.ref it/\Inv X pins σ H' s2/\Turn X.prog X.w X.K tg J fp it tn/\tn 0 s2.heap/\(∀b∈fp,gZ X pins H' b)/\R J H'
def PI(X:Cx)(tg iter:Expr)(wi:TI):Prop :=
 ∀(pins:pV) (s:Shared) (σ:St) (H:Hp) (R:It->Hp->Prop),Inv X pins σ H s->wi σ H R ->
  wpAny (model X.prog X.w) X.A (eval iter X.env) (λv s1=>wpAny (model X.prog X.w) X.A (pyIter v) (PIE X pins σ tg R) X.xe s1) X.xe s
def CV{M:Model}{A:Around}{E:xB}{s:Shared}{tg:Expr}{it:Addr}{u:Value}{o:Obj}{n:String}{vs:xF}{Q:xA}(ho:s.heap.get? it=some o)(hc:o.cls=.type n)(hd:o.data=.fields vs)
  (hn:["enumerate","zip","dict_itemiterator","dict_reverseitemiterator","odict_iterator","itertools.zip_longest","itertools.pairwise"].contains n=false) (hQ:Q () s):wpAny M A (letOwnedTupleGo tg (.ref it) u) Q E s:=by
 unfold letOwnedTupleGo;cases tg <;> first
  | exact wpAny_pure hQ
  | (cases u <;> first
    | exact rV hQ
    | (refine zI (wpAny_load ho ?_)
       rw[hc,hd];show wpAny M A (if (["enumerate","zip","dict_itemiterator","dict_reverseitemiterator","odict_iterator","itertools.zip_longest","itertools.pairwise"].contains n && vs[0]? == some (rawInt _))=true then _ else _) Q E s;rw[yA (by intro h;rw[hn,Bool.false_and] at h;cases h)];exact rV hQ))
def Itl(K:W.Frag)(a:Addr):It :=
 ⟨λi H=>∃xs x,SqL K H a xs/\xs[i]?=some x,λi H x H'=>H'=H/\∀xs,SqL K H a xs->xs[i]?=some x,λi H=>∃xs,SqL K H a xs/\xs.length<=i⟩
def Itr(lo:Int)(n:Nat):It:=⟨λi _=>i<n,λi H x H'=>H'=H/\x=.int (lo+i),λi _=>n<=i⟩
def M4{P:Program}{w:World}{K:W.Frag}{tg:Expr}(a it:Addr):Turn P w K tg (Itl K a) [it] it (λi h=>h.IsListIter it a i) where
 mem:=by simp
 obj:=λi h st b hb=>by
  have e:b=it:=by simpa using hb
  subst e;obtain⟨o,e,c,d⟩:=st;exact⟨o,e,λv z=>by rw[d] at z;cases z⟩
 keep:=λi h h' st k=>st.at λo e=>k it (by simp) o e
 item:=by
  intro X hP hw hK hc i pins s σ H E I hf st hg;subst hP hw hK;obtain⟨xs,x,hq,hx⟩:=hg;obtain⟨its,rv,p,hz⟩:=I.list hq;obtain⟨u,hu,ru⟩:=rv.get hx;obtain⟨f0,f1,f2,f3,f4,f5⟩:=hf it (by simp);refine wpAny_pyNext_list_item st p.isList (x:=u) (by simpa using hu) λh' st' sb=>?_
  have I1:Inv X pins σ H { s with heap:=h' }:=I.turned (t':=s.toks) (λb o hb e=>(sb.2 b hb).trans e) f0 f1 f3 f4 f5
  obtain⟨o,e,c,d⟩:=id st';exact⟨u,rfl,CV (s:={ s with heap:=h' }) e c d (by decide) ⟨x,H,I1,ru,⟨rfl,λys hy=>by rw[I.tZ hy hq];exact hx⟩,st',λb hb=>(hf b hb).1⟩⟩
 done:=by
  intro X hP hw hK hc i pins s σ H E I hf st hg;subst hP hw hK;obtain⟨xs,hq,hx⟩:=hg;obtain⟨its,rv,p,hz⟩:=I.list hq;obtain⟨f0,f1,f2,f3,f4,f5⟩:=hf it (by simp);have hl:=rv.length;exact wpAny_pyNext_list_end (I.ok.hd hc) st p.isList (by simp;lia) λh' eb=>⟨rfl,I.turned (t':=s.toks) (λb o hb e=>eb b o hb e) f0 f1 f3 f4 f5⟩
 self:=λ_ _ _ _ _ st h=>wpAny_pyIter_listiter st h
def Hf{P:Program}{w:World}{K:PySem.W.Frag}{tg:Expr}(it:Addr)(lo:Int)(n:Nat):Turn P w K tg (Itr lo n) [it] it (λi h=>IsRangeIter h it (lo+(i:Nat)*1) ((n:Int)-(i:Nat)) 1) where
 mem:=by simp
 obj:=λi h st b hb=>by
  have e:b=it:=by simpa using hb
  subst e;exact⟨_,st,λv z=>by
   have z':Data.fields _=Data.cell v:=z;cases z'⟩
 keep:=λi h h' st k=>k it (by simp) _ st
 item:=by
  intro X hP hw hK hc i pins s σ H E I hf st hg;subst hP hw hK;obtain⟨f0,f1,f2,f3,f4,f5⟩:=hf it (by simp);have W:=Walks.range (prog:=X.prog) (w:=X.w) (I.ok.hd hc) it lo 1 n;refine W.item i s _ _ hg st λv h' tk hv st' kk=>?_
  obtain⟨t,rfl⟩:=hv;have I1:Inv X pins σ H { s with heap:=h',toks:=tk }:=I.turned (λb o hb e=>kk b o (by simpa using hb) e) f0 f1 f3 f4 f5
  refine⟨_,rfl,CV (s:={ s with heap:=h',toks:=tk }) (n := "range_iterator") st' rfl rfl (by decide) ⟨.int (lo+i),H,I1,⟨t,?_⟩,⟨rfl,rfl⟩,st',λb hb=>(hf b hb).1⟩⟩
  rw[Int.mul_one]
 done:=by
  intro X hP hw hK hc i pins s σ H E I hf st hg;subst hP hw hK;obtain⟨f0,f1,f2,f3,f4,f5⟩:=hf it (by simp);exact wpAny_pyNext_range_end (I.ok.hd hc) st (by have:n<=i:=hg;lia) λh' eb=>⟨rfl,I.turned (t':=s.toks) (λb o hb e=>eb b o hb e) f0 f1 f3 f4 f5⟩
 self:=λ_ _ _ _ _ st h=>wpAny_pyIter_rangeiter st h
section
variable{X:Cx}{tg:Expr}
def uc(K:W.Frag)(tl:TE):TI:=λσ H R=>tl σ H λx H1=>∃a,x=.ref a/\(∃xs,SqL K H1 a xs)/\R (Itl K a) H1
def bJ{l:Expr}{tl:TE}(hl:PE X l tl):PI X tg l (uc X.K tl):=by
 intro pins s σ H R I h;refine thn (hl pins s σ H _ I h) λv s1 ⟨x,H1,I1,r1,q1⟩=>?_
 obtain⟨a,e,⟨xs,hq⟩,q⟩:=q1;subst e;cases r1;obtain⟨its,rv,p,hz⟩:=I1.list hq;refine wpAny_pyIter_list p.isList ?_;refine⟨s1.heap.objs.size,[s1.heap.objs.size],_,_,H1,rfl,I1.kept (t':=s1.toks) λb o e=>uB _ e,M4 a _,⟨_,oP _ rfl,rfl,rfl⟩,λb hb=>?_,q⟩;have e:b=s1.heap.objs.size:=by simpa using hb
 subst e;exact I1.CT (uC _) (I1.hok.fresh (uC _))
def CW{pins:pV}{σ:St}{H:Hp}{s:Shared}{R:It->Hp->Prop}{E:xB}{lo hi:Int}{t u v:Tok}{tk:Nat}(I:Inv X pins σ H s)(h1:-(2 ^ 62)<=lo)(h2:lo<2 ^ 62)(h3:-(2 ^ 62)<=hi)(h4:hi<2 ^ 62)
  (q:R (Itr lo (hi-lo).toNat) H):wpAny (model X.prog X.w) X.A (pyIter (.ref s.heap.objs.size)) (PIE X pins σ tg R) E { s with heap:=s.heap.push { cls:=.type "range", data:=.fields #[.int lo t,.int hi u,.int 1 v] },toks:=tk }:=by
 refine wpAny_pyIter_range (IsRange.new ..) (small_one h1 h2 h3 h4) ?_;have I1:Inv X pins σ H { s with heap:=s.heap.push { cls:=.type "range", data:=.fields #[.int lo t,.int hi u,.int 1 v] },toks:=tk }:=I.kept λb o e=>uB _ e
 refine⟨(s.heap.push { cls:=.type "range", data:=.fields #[.int lo t,.int hi u,.int 1 v] }).objs.size,[(s.heap.push { cls:=.type "range", data:=.fields #[.int lo t,.int hi u,.int 1 v] }).objs.size],_,_,H,rfl,
  I1.kept (t':=tk) λb o e=>uB _ e,Hf _ lo (hi-lo).toNat,?_,λb hb=>?_,q⟩
 ·have e1:lo+((0:Nat):Int)*1=lo:=by simp
  have e2:(((hi-lo).toNat:Nat):Int)-((0:Nat):Int)=Builtin.Range.rangeSize lo hi 1:=by rw[rangeSize_one];split <;> lia
  show IsRangeIter _ _ (lo+((0:Nat):Int)*1) ((((hi-lo).toNat:Nat):Int)-((0:Nat):Int)) 1;rw[e1,e2];exact oP _ rfl
 ·have e:b=(s.heap.push { cls:=.type "range", data:=.fields #[.int lo t,.int hi u,.int 1 v] }).objs.size:=by simpa using hb
  subst e;exact I1.CT (uC _) (I1.hok.fresh (uC _))
def xO(ta:TA):TI:=λσ H R=>ta σ H λvs H1=>∃j:Int,vs=[.int j]/\-(2 ^ 62)<=j/\j<2 ^ 62/\R (Itr 0 j.toNat) H1
def P0(ta:TA):TI:=λσ H R=>ta σ H λvs H1=>∃i j:Int,vs=[.int i,.int j]/\(-(2 ^ 62)<=i/\i<2 ^ 62/\-(2 ^ 62)<=j/\j<2 ^ 62)/\R (Itr i (j-i).toNat) H1
theorem fK{a:Expr}{ta:TA}{p pos:Pos}(hg:Gl X "range")(hm:X.mg "range" = none)(ha:PA X [a] ta)(hs:starEach [a] X.env=[(false,eval a X.env)]:=by rfl):PI X tg (.Call (.Name "range" p) [a] [] pos) (xO ta):=by
 intro pins s σ H R I h;refine Call_ (iH I hg hm boot_range (PyProof.Rows.callWith_type1 (thn (ha pos pins s σ H _ I h) λus s1 ⟨vs,H1,I1,r1,q1⟩=>?_) hs rfl));obtain⟨j,e,q1,q2,q⟩:=q1;subst e;cases r1 with
 | cons r rr =>
  cases rr;obtain⟨t,rfl⟩:=r;exact call_range_1 (CW I1 (by lia) (by lia) q1 q2 (by simpa using q))
theorem xP{a b:Expr}{ta:TA}{p pos:Pos}(hg:Gl X "range")(hm:X.mg "range" = none)(ha:PA X [a,b] ta)(hs:starEach [a,b] X.env=[(false,eval a X.env),(false,eval b X.env)]:=by rfl)(hs2:starEach [b] X.env=[(false,eval b X.env)]:=by rfl) :
  PI X tg (.Call (.Name "range" p) [a,b] [] pos) (P0 ta):=by
 intro pins s σ H R I h;refine Call_ (iH I hg hm boot_range (PyProof.Rows.callWith_type1 (thn (ha pos pins s σ H _ I h) λus s1 ⟨vs,H1,I1,r1,q1⟩=>?_) (by rw[hs,hs2]) (by rw[hs2];rfl)));obtain⟨i,j,e,⟨q1,q2,q3,q4⟩,q⟩:=q1;subst e;cases r1 with
 | cons r rr =>
  cases rr with
  | cons r' rr =>
   cases rr;obtain⟨t,rfl⟩:=r;obtain⟨t',rfl⟩:=r';exact call_range_2 (CW I1 q1 q2 q3 q4 q)
def wX(wi:TI)(g:TG)(tb:TS):TS:=λD σ H=>wi σ H λJ H1=>∃W:Nat->Nat->St->Hp->Prop,(∃m,W 0 m σ H1)/\∀i m σ H,W i m σ H ->
 (J.stop i H/\D.nx σ H)\/(J.go i H/\∃N:St->Hp->Prop,(∀σ' H',N σ' H'->∃m',m'<m/\W (i+1) m' σ' H')/\∀x H',J.yld i H x H'->g x σ H' λσ2 H2=>tb { D with nx:=N,ct:=N,bk:=D.nx } σ2 H2)
def ud(fp:List Addr)(h:Heap):List (Addr×Obj):=fp.filterMap λb=>(h.get? b).map λo=>(b,o)
def jR{fp:List Addr}{h:Heap}{b:Addr}{o:Obj}(hb:b∈fp)(e:h.get? b=some o):(b,o)∈ud fp h:=List.mem_filterMap.mpr ⟨b,hb,by rw[e];rfl⟩
theorem M5{fp:List Addr}{h:Heap}{p:Addr×Obj}(hp:p∈ud fp h):p.1∈fp/\h.get? p.1=some p.2:=by
 obtain⟨b,hb,e⟩:=List.mem_filterMap.mp hp;cases q:h.get? b with
 | none=>rw[q] at e;cases e
 | some o =>
  rw[q] at e;have e':(b,o)=p:=nI e;subst e';exact⟨hb,q⟩
def Inv.pinned{pins:pV}{σ:St}{H:Hp}{s:Shared}{fp:List Addr}(I:Inv X pins σ H s)(hf:∀b∈fp,gZ X pins H b)(ho:∀b∈fp,∃o,s.heap.get? b=some o/\∀v,o.data≠.cell v):Inv X (pins++ud fp s.heap) σ H s :=
 I.tG λp hp=>(wP.mp hp).elim (λz=>I.pin p (rS _ z)) λz=>by
  obtain⟨hb,e⟩:=M5 z;obtain⟨f0,f1,f2,_⟩:=hf p.1 hb;obtain⟨o,e',d⟩:=ho p.1 hb;rw[e] at e';cases e';exact⟨e,f0,f1,f2,d⟩
def Inv.iJ{pins pl:pV}{σ:St}{H:Hp}{s:Shared}(I:Inv X (pins++pl) σ H s):Inv X pins σ H s:=I.tG λp hp=>I.pin p (rS _ (mB _ hp))
def cU{iter:Expr}{body:List Stmt}{wi:TI}{g:TG}{tb:TS}{pos:Pos}(hp:PassesOwn (model X.prog X.w) X.A X.env X.xe)(hc:X.calm=true)(hi:PI X tg iter wi)(hg:PG X tg g)(hb:PSs X body tb)
  (hs:∀x,foldedSetIterable iter X.env x=pure x:=by intro _;rfl):PS X (.For tg iter body [] pos) (wX wi g tb):=by
 intro pins s σ H D I h;refine wpAny_For (thn (hi pins s σ H _ I h) λv s1 h1=>thn h1 λitv s2 h2=>?_) hs;obtain⟨it,fp,tn,J,H2,e,I2,T,st2,f2,W,⟨m0,w0⟩,turn⟩:=h2;subst e
 -- what stays true of the iterator's objects through the loop
 have stat:∀{H':Hp},(∀b∈fp,H' b=none)->∀b∈fp,gZ X pins H' b:=λhn b hb=>⟨hn b hb,(f2 b hb).2⟩
 refine codeAny_forLoop_any (λn s'=>∃i σ' H',Inv X pins σ' H' s'/\tn i s'.heap/\(∀b∈fp,H' b=none)/\W i n σ' H') ?_ m0 ⟨0,σ,H2,I2,st2,λb hb=>(f2 b hb).1,w0⟩;rintro n s3 ⟨i,σ3,H3,I3,st3,fr3,w3⟩;rcases turn i n σ3 H3 w3 with⟨stop,qn⟩|⟨go,N,hN,step⟩
 ·refine wpAny_passesOwn hp (thn (T.done X rfl rfl rfl hc i pins s3 σ3 H3 X.xe I3 (stat fr3) st3 stop) λr s4 ⟨hr,I4⟩=>?_);subst hr;exact wpAny_execs_nil ⟨σ3,H3,I4,qn⟩
 ·refine wpAny_passesOwn hp (thn (T.item X rfl rfl rfl hc i pins s3 σ3 H3 X.xe I3 (stat fr3) st3 go) λr s4 ⟨u,hr,h4⟩=>?_);subst hr;refine wpAny_passesOwn hp (thn h4 λ_ s5 ⟨x,H5,I5,r5,y5,st5,fr5⟩=>?_);have I5':=I5.pinned (stat fr5) (T.obj _ _ st5);refine wpAny_passesOwn hp (thn (hg _ s5 σ3 H5 x u _ I5' r5 (step x H5 y5)) λ_ s6 ⟨σ6,H6,I6,q6⟩=>?_);refine wpAny_passesOwn hp (thn (hb _ s6 σ6 H6 _ I6 q6) λf s7 q7=>?_);have again:∀{σ7:St} {H7:Hp},Inv X (pins++ud fp s5.heap) σ7 H7 s7->N σ7 H7->∃m,m<n/\∃i σ' H',Inv X pins σ' H' s7/\tn i s7.heap/\(∀b∈fp,H' b=none)/\W i m σ' H':=λ{σ7 H7} I7 n7=>by
   obtain⟨m',hm,w7⟩:=hN σ7 H7 n7;refine⟨m',hm,i+1,σ7,H7,I7.iJ,T.keep _ _ _ st5 λb hb o e=>(I7.pin (b,o) (rS _ (rS _ (jR hb e)))).1,λb hb=>?_,w7⟩;obtain⟨o,e,d⟩:=T.obj _ _ st5 b hb;exact(I7.pin (b,o) (rS _ (rS _ (jR hb e)))).2.1
  cases f with
  | next=>obtain⟨σ7,H7,I7,n7⟩:=q7;exact again I7 n7
  | cont=>obtain⟨σ7,H7,I7,n7⟩:=q7;exact again I7 n7
  | brk=>obtain⟨σ7,H7,I7,q7⟩:=q7;exact⟨σ7,H7,I7.iJ,q7⟩
  | ret v=>obtain⟨x7,σ7,H7,I7,r7,q7⟩:=q7;exact⟨x7,σ7,H7,I7.iJ,r7,q7⟩
end
def P_{K:PySem.W.Frag}{a:Addr}{xs:List V}{g:TG}{tb:TS}{D:Ends}{σ:St}{H:Hp}(Pv:Nat->St->Hp->Prop)(h0:Pv 0 σ H)(hl:∀i σ H,i<=xs.length->Pv i σ H->SqL K H a xs)
  (hs:∀i x σ H,xs[i]?=some x->Pv i σ H->g x σ H λσ2 H2=>tb { D with nx:=Pv (i+1),ct:=Pv (i+1),bk:=D.nx } σ2 H2) (hd:∀σ H,Pv xs.length σ H->D.nx σ H) :
  ∃W:Nat->Nat->St->Hp->Prop,(∃m,W 0 m σ H)/\∀i m σ H,W i m σ H ->
   ((Itl K a).stop i H/\D.nx σ H)\/((Itl K a).go i H/\∃N:St->Hp->Prop,(∀σ' H',N σ' H'->∃m',m'<m/\W (i+1) m' σ' H')/\∀x H',(Itl K a).yld i H x H'->g x σ H' λσ2 H2=>tb { D with nx:=N,ct:=N,bk:=D.nx } σ2 H2):=by
 refine⟨λi m σ H=>m=xs.length-i/\i<=xs.length/\Pv i σ H,⟨xs.length,by simp,Nat.zero_le _,h0⟩,?_⟩;rintro i m σ H ⟨rfl,hi,p⟩;have q:=hl i σ H hi p;by_cases hlt:i<xs.length
 ·refine .inr ⟨⟨xs,xs[i],q,by simp[hlt]⟩,Pv (i+1),λσ' H' p'=>⟨xs.length-(i+1),by lia,rfl,hlt,p'⟩,λx H' y=>?_⟩;obtain⟨e,y⟩:=y;subst e;exact hs i x σ _ (y xs q) p
 ·have e:i=xs.length:=by lia
  subst e;exact .inl ⟨⟨xs,q,uC _⟩,hd σ H p⟩
def xQ{lo:Int}{n:Nat}{g:TG}{tb:TS}{D:Ends}{σ:St}{H:Hp}(Pv:Nat->St->Hp->Prop)(h0:Pv 0 σ H)
  (hs:∀i σ H,i<n->Pv i σ H->g (.int (lo+i)) σ H λσ2 H2=>tb { D with nx:=Pv (i+1),ct:=Pv (i+1),bk:=D.nx } σ2 H2) (hd:∀σ H,Pv n σ H->D.nx σ H) :
  ∃W:Nat->Nat->St->Hp->Prop,(∃m,W 0 m σ H)/\∀i m σ H,W i m σ H ->
   ((Itr lo n).stop i H/\D.nx σ H)\/((Itr lo n).go i H/\∃N:St->Hp->Prop,(∀σ' H',N σ' H'->∃m',m'<m/\W (i+1) m' σ' H')/\∀x H',(Itr lo n).yld i H x H'->g x σ H' λσ2 H2=>tb { D with nx:=N,ct:=N,bk:=D.nx } σ2 H2):=by
 refine⟨λi m σ H=>m=n-i/\i<=n/\Pv i σ H,⟨n,by simp,Nat.zero_le _,h0⟩,?_⟩;rintro i m σ H ⟨rfl,hi,p⟩;by_cases hlt:i<n
 ·refine .inr ⟨hlt,Pv (i+1),λσ' H' p'=>⟨n-(i+1),by lia,rfl,hlt,p'⟩,λx H' y=>?_⟩;obtain⟨e,y⟩:=y;subst e y;exact hs i σ _ hlt p
 ·have e:i=n:=by lia
  subst e;exact .inl ⟨uC _,hd σ H p⟩
abbrev R2:=V->V->Hp->VK->Prop
def OpR(X:Cx)(f:Value->Value->Sem Value)(r:R2):Prop :=
 ∀(pins:pV) (s:Shared) (σ:St) (H:Hp) (x y:V) (v u:Value) (Q:VK),Inv X pins σ H s->RelV x v->RelV y u->r x y H Q ->
  wpAny (model X.prog X.w) X.A (f v u) (EP X pins σ Q) X.xe s
def UnR(X:Cx)(f:Value->Sem Value)(r:V->Hp->VK->Prop):Prop :=
 ∀(pins:pV) (s:Shared) (σ:St) (H:Hp) (x:V) (v:Value) (Q:VK),Inv X pins σ H s->RelV x v->r x H Q ->
  wpAny (model X.prog X.w) X.A (f v) (EP X pins σ Q) X.xe s
def eZ(X:Cx)(f:Value)(r:List V->Hp->VK->Prop):Prop :=
 ∀(pins:pV) (s:Shared) (σ:St) (H:Hp) (xs:List V) (us:xD) (Q:VK),Inv X pins σ H s->Vals xs us->r xs H Q ->
  wpAny (model X.prog X.w) X.A (call f us) (EP X pins σ Q) X.xe s
def tOp(r:R2)(ta tb:TE):TE:=λσ H Q=>ta σ H λx H1=>tb σ H1 λy H2=>r x y H2 Q
def tUn(r:V->Hp->VK->Prop)(ta:TE):TE:=λσ H Q=>ta σ H λx H1=>r x H1 Q
def rI(C:Int->Int->Prop)(g:Int->Int->V):R2:=λx y H Q=>∃i j,x=.int i/\y=.int j/\C i j/\Q (g i j) H
def rI0(g:Int->Int->V):R2:=λx y H Q=>∃i j,x=.int i/\y=.int j/\Q (g i j) H
def rU(g:Int->V):V->Hp->VK->Prop:=λx H Q=>∃i,x=.int i/\Q (g i) H
section
variable{X:Cx}{a b:Expr}{ta tb:TE}{pos:Pos}
def Zr(ha:PE X a ta)(hb:PE X b tb){pins:pV}{s:Shared}{σ:St}{H:Hp}{R:V->V->Hp->Prop}(I:Inv X pins σ H s)
  (h:ta σ H λx H1=>tb σ H1 λy H2=>R x y H2) {Q:xB} {f:Value->Value->Sem Value}
  (hf:∀v u s2 x y H2,Inv X pins σ H2 s2->RelV x v->RelV y u->R x y H2->wpAny (model X.prog X.w) X.A (f v u) Q X.xe s2) :
  wpAny (model X.prog X.w) X.A (eval a X.env) (λv s₁=>wpAny (model X.prog X.w) X.A (eval b X.env) (λu s₂=>wpAny (model X.prog X.w) X.A (f v u) Q X.xe s₂) X.xe s₁) X.xe s:=by
 refine thn (ha pins s σ H _ I h) λv s1 ⟨x,H1,I1,r1,q1⟩=>?_
 refine thn (hb pins s1 σ H1 _ I1 q1) λu s2 ⟨y,H2,I2,r2,q2⟩=>?_
 exact hf v u s2 x y H2 I2 r1 r2 q2
def aW{op:Operator}{r:R2}(ho:OpR X (binaryOp op) r)(ha:PE X a ta)(hb:PE X b tb):PE X (.BinOp a op b pos) (tOp r ta tb):=by
 intro pins s σ H Q I h;exact wpAny_BinOp (Zr ha hb I h λv u s2 x y H2 I2 rx ry q=>ho pins s2 σ H2 x y v u Q I2 rx ry q)
def acA{op:UnaryOp}{r:V->Hp->VK->Prop}(ho:UnR X (unaryOp op) r)(ha:PE X a ta):PE X (.UnaryOp op a pos) (tUn r ta):=by
 intro pins s σ H Q I h;exact UnaryOp_ (thn (ha pins s σ H _ I h) λv s1 ⟨x,H1,I1,r1,q1⟩=>ho pins s1 σ H1 x v Q I1 r1 q1)
def opI{f:Value->Value->Sem Value}{C:Int->Int->Prop}{g:Int->Int->Int}
  (rule:∀(i j:Int)(t u:Tok)(s:Shared)(Q:xB)(E:xB),C i j->Q (.int (g i j) s.toks) { s with toks:=s.toks+1 }->wpAny (model X.prog X.w) X.A (f (.int i t) (.int j u)) Q E s) :
  OpR X f (rI C λi j=>.int (g i j)):=by
 intro pins s σ H x y v u Q I rx ry h;obtain⟨i,j,rfl,rfl,hc,q⟩:=h;obtain⟨t,rfl⟩:=rx;obtain⟨t',rfl⟩:=ry;exact rule i j t t' s _ _ hc ⟨.int (g i j),H,I.tok _,⟨_,rfl⟩,q⟩
def Zt{f:Value->Value->Sem Value}{g:Int->Int->Int}
  (rule:∀(i j:Int)(t u:Tok)(s:Shared)(Q:xB)(E:xB),Q (.int (g i j) s.toks) { s with toks:=s.toks+1 }->wpAny (model X.prog X.w) X.A (f (.int i t) (.int j u)) Q E s) :
  OpR X f (rI0 λi j=>.int (g i j)):=by
 intro pins s σ H x y v u Q I rx ry h;obtain⟨i,j,rfl,rfl,q⟩:=h;obtain⟨t,rfl⟩:=rx;obtain⟨t',rfl⟩:=ry;exact rule i j t t' s _ _ ⟨.int (g i j),H,I.tok _,⟨_,rfl⟩,q⟩
def V3{f:Value->Value->Sem Value}{g:Int->Int->Bool}
  (rule:∀(i j:Int)(t u:Tok)(s:Shared)(Q:xB)(E:xB),Q (.bool (g i j)) s->wpAny (model X.prog X.w) X.A (f (.int i t) (.int j u)) Q E s) :
  OpR X f (rI0 λi j=>.bl (g i j)):=by
 intro pins s σ H x y v u Q I rx ry h;obtain⟨i,j,rfl,rfl,q⟩:=h;obtain⟨t,rfl⟩:=rx;obtain⟨t',rfl⟩:=ry;exact rule i j t t' s _ _ ⟨.bl (g i j),H,I,rfl,q⟩
def Zu(i j:Int):Prop:=0<j/\j<1073741824
def Zv(i j:Int):Prop:=0<=j/\j<=1000000/\i.natAbs<2 ^ 64
def M6(i j:Int):Prop:=(-(2 ^ 64)<i/\i<2 ^ 64)\/(-(2 ^ 64)<j/\j<2 ^ 64)
def M6.ok{i j:Int}(h:M6 i j):IntMulOk i j:=by
 rcases h with⟨h1,h2⟩|⟨h1,h2⟩
 ·exact .of_left (intBits_le_64 h1 h2)
 ·exact .of_right (intBits_le_64 h1 h2)
def bQ:OpR X (binaryOp .Add) (rI0 λi j=>.int (i+j)):=Zt λ_ _ _ _ _ _ _ q=>add_int q
def dI:OpR X (binaryOp .Sub) (rI0 λi j=>.int (i-j)):=Zt λ_ _ _ _ _ _ _ q=>sub_int q
def nO:OpR X (binaryOp .Mult) (rI M6 λi j=>.int (i*j)):=opI λ_ _ _ _ _ _ _ hc q=>mul_int q hc.ok
def pA:OpR X (binaryOp .FloorDiv) (rI Zu λi j=>.int (i / j)):=opI λi j _ _ _ _ _ hc q=>by
 have h1:(0:Int)<j:=hc.1;have h2:j<1073741824:=hc.2;exact floordiv_int (by lia) (by rw[Int.fdiv_eq_ediv_of_nonneg i (by lia)];exact q) (.inl (PyProof.noPylong_small (by lia)))
def ji:OpR X (binaryOp .Mod) (rI (λ_ j=>0<j) λi j=>.int (i % j)):=opI λi j _ _ _ _ _ hc q=>by
 have h1:(0:Int)<j:=hc;exact mod_int' (by lia) (by rw[Int.fmod_eq_emod_of_nonneg i (by lia)];exact q)
def Qa:OpR X (binaryOp .Pow) (rI Zv λi j=>.int (i ^ j.toNat)):=opI λ_ _ _ _ _ _ _ hc q=>pow_int_small hc.1 hc.2.1 hc.2.2 q
def V4:OpR X (inplaceOp .Add) (rI0 λi j=>.int (i+j)):=Zt λ_ _ _ _ _ _ _ q=>iadd_int q
def unI{f:Value->Sem Value}{g:Int->Int}
  (rule:∀(i:Int)(t:Tok)(s:Shared)(Q:xB)(E:xB),Q (.int (g i) s.toks) { s with toks:=s.toks+1 }->wpAny (model X.prog X.w) X.A (f (.int i t)) Q E s) :
  UnR X f (rU λi=>.int (g i)):=by
 intro pins s σ H x v Q I rx h;obtain⟨i,rfl,q⟩:=h;obtain⟨t,rfl⟩:=rx;exact rule i t s _ _ ⟨.int (g i),H,I.tok _,⟨_,rfl⟩,q⟩
def Zw:UnR X (unaryOp .USub) (rU λi=>.int (-i)):=unI λ_ _ _ _ _ q=>neg_int q
end
def Zx:V->V->Bool
 | .non,.non=>true|.non,.int _=>true|.int _,.non=>true|.non,.bl _=>true|.bl _,.non=>true|.non,.str _=>true|.str _,.non=>true
 | .int _,.int _=>true|.bl _,.bl _=>true|.str _,.str _=>true|.byt _,.byt _=>true
 | .int _,.str _=>true|.str _,.int _=>true|.bl _,.str _=>true|.str _,.bl _=>true
 | _,_=>false
def rEq:R2:=λx y H Q=>Zx x y=true/\Q (.bl (decide (x=y))) H
def rNe:R2:=λx y H Q=>Zx x y=true/\Q (.bl (!decide (x=y))) H
def JM{i j:Int}:decide (V.int i=V.int j)=(i==j):=by
 rw[Bool.eq_iff_iff];simp
def Qc{i j:Bool}:decide (V.bl i=V.bl j)=(i==j):=by
 rw[Bool.eq_iff_iff];simp
def JN{i j:Str}:decide (V.str i=V.str j)=(i==j):=by
 rw[Bool.eq_iff_iff];simp
def JQ{i j:Array UInt8}:decide (V.byt i=V.byt j)=(i.toList==j.toList):=by
 rw[Bool.eq_iff_iff];cases i;cases j;simp
section
variable{X:Cx}{a b c:Expr}{ta tb tc:TE}{pos:Pos}
def cj{pins:pV}{σ:St}{H:Hp}{s:Shared}{Q:VK}{k k':Bool}(I:Inv X pins σ H s)(q:Q (.bl k) H)(e:k=k'):EP X pins σ Q (.bool k') s:=by
 subst e;exact⟨.bl k,H,I,rfl,q⟩
theorem dJ:OpR X (compareOp .Eq) rEq:=by
 intro pins s σ H x y v u Q I rx ry h;obtain⟨hs,q⟩:=h;cases x with
 | non =>
  cases rx;cases y with
  | non=>cases ry;exact PySem.EqNone.eq_none_none (cj I q (by simp))
  | bl j=>cases ry;exact PySem.EqNone.eq_none_bool (cj I q (by simp))
  | int j=>obtain⟨t',rfl⟩:=ry;exact PySem.EqNone.eq_none_int (cj I q (by simp))
  | str j=>obtain⟨t',rfl⟩:=ry;exact PySem.EqNone.eq_none_str (cj I q (by simp))
  | _=>exact gL (show false=true from hs) vE
 | bl i =>
  cases rx;cases y with
  | non=>cases ry;exact PySem.EqNone.eq_bool_none (cj I q (by simp))
  | bl j=>cases ry;exact eq_bool (cj I q Qc)
  | str j=>obtain⟨t',rfl⟩:=ry;exact PySem.EqMixed.eq_bool_str (cj I q (by simp))
  | _=>exact gL (show false=true from hs) vE
 | int i =>
  obtain⟨t,rfl⟩:=rx;cases y with
  | non=>cases ry;exact PySem.EqNone.eq_int_none (cj I q (by simp))
  | int j=>obtain⟨t',rfl⟩:=ry;exact eq_int (cj I q JM)
  | str j=>obtain⟨t',rfl⟩:=ry;exact PySem.EqMixed.eq_int_str (cj I q (by simp))
  | _=>exact gL (show false=true from hs) vE
 | str i =>
  obtain⟨t,rfl⟩:=rx;cases y with
  | non=>cases ry;exact PySem.EqNone.eq_str_none (cj I q (by simp))
  | bl j=>cases ry;exact PySem.EqMixed.eq_str_bool (cj I q (by simp))
  | int j=>obtain⟨t',rfl⟩:=ry;exact PySem.EqMixed.eq_str_int (cj I q (by simp))
  | str j=>obtain⟨t',rfl⟩:=ry;exact eq_str (cj I q JN)
  | _=>exact gL (show false=true from hs) vE
 | byt i =>
  obtain⟨t,rfl⟩:=rx;cases y with
  | byt j=>obtain⟨t',rfl⟩:=ry;exact W.eq_bytes (cj I q JQ)
  | _=>exact gL (show false=true from hs) vE
 | _=>cases y <;> exact gL (show false=true from hs) vE
theorem j_:OpR X (compareOp .NotEq) rNe:=by
 intro pins s σ H x y v u Q I rx ry h;obtain⟨hs,q⟩:=h;cases x with
 | non =>
  cases rx;cases y with
  | non=>cases ry;exact PySem.EqNone.ne_none_none (cj I q (by simp))
  | bl j=>cases ry;exact PySem.EqNone.ne_none_bool (cj I q (by simp))
  | int j=>obtain⟨t',rfl⟩:=ry;exact PySem.EqNone.ne_none_int (cj I q (by simp))
  | str j=>obtain⟨t',rfl⟩:=ry;exact PySem.EqNone.ne_none_str (cj I q (by simp))
  | _=>exact gL (show false=true from hs) vE
 | bl i =>
  cases rx;cases y with
  | non=>cases ry;exact PySem.EqNone.ne_bool_none (cj I q (by simp))
  | bl j=>cases ry;exact ne_bool (cj I q (gE not Qc))
  | str j=>obtain⟨t',rfl⟩:=ry;exact PySem.EqMixed.ne_bool_str (cj I q (by simp))
  | _=>exact gL (show false=true from hs) vE
 | int i =>
  obtain⟨t,rfl⟩:=rx;cases y with
  | non=>cases ry;exact PySem.EqNone.ne_int_none (cj I q (by simp))
  | int j=>obtain⟨t',rfl⟩:=ry;exact ne_int (cj I q (gE not JM))
  | str j=>obtain⟨t',rfl⟩:=ry;exact PySem.EqMixed.ne_int_str (cj I q (by simp))
  | _=>exact gL (show false=true from hs) vE
 | str i =>
  obtain⟨t,rfl⟩:=rx;cases y with
  | non=>cases ry;exact PySem.EqNone.ne_str_none (cj I q (by simp))
  | bl j=>cases ry;exact PySem.EqMixed.ne_str_bool (cj I q (by simp))
  | int j=>obtain⟨t',rfl⟩:=ry;exact PySem.EqMixed.ne_str_int (cj I q (by simp))
  | str j=>obtain⟨t',rfl⟩:=ry;exact ne_str (cj I q (gE not JN))
  | _=>exact gL (show false=true from hs) vE
 | byt i =>
  obtain⟨t,rfl⟩:=rx;cases y with
  | byt j=>obtain⟨t',rfl⟩:=ry;exact W.ne_bytes (cj I q (gE not JQ))
  | _=>exact gL (show false=true from hs) vE
 | _=>cases y <;> exact gL (show false=true from hs) vE
def jd:OpR X (compareOp .Lt) (rI0 λi j=>.bl (decide (i<j))):=V3 λ_ _ _ _ _ _ _ q=>lt_int q
def pB:OpR X (compareOp .LtE) (rI0 λi j=>.bl (decide (i<=j))):=V3 λ_ _ _ _ _ _ _ q=>le_int q
def eH:OpR X (compareOp .Gt) (rI0 λi j=>.bl (decide (j<i))):=V3 λ_ _ _ _ _ _ _ q=>gt_int q
def acB:OpR X (compareOp .GtE) (rI0 λi j=>.bl (decide (j<=i))):=V3 λ_ _ _ _ _ _ _ q=>ge_int q
def Zy:OpR X (compareOp .Is) (λx y H Q=>y=.non/\Q (.bl (decide (x=.non))) H):=by
 intro pins s σ H x y v u Q I rx ry h;obtain⟨rfl,q⟩:=h;cases ry;refine is_none_gen (cj I q ?_);cases x <;> first
  | (cases rx;rfl)
  | (obtain⟨t,rfl⟩:=rx;rfl)
def aY(b:Expr){op:CmpOp}(h:op≠.In:=by decide)(h2:op≠.NotIn:=by decide):behindInMarks op b=false:=by
 have e1:(op==CmpOp.In)=false:=by cases op <;> first|rfl|exact gL rfl h
 have e2:(op==CmpOp.NotIn)=false:=by cases op <;> first|rfl|exact gL rfl h2
 cases b <;> simp[behindInMarks,e1,e2]
def gG{op:CmpOp}{r:R2}(ho:OpR X (compareOp op) r)(ha:PE X a ta)(hb:PE X b tb)(hm:behindInMarks op b=false):PE X (.Compare a [op] [b] pos) (tOp r ta tb):=by
 intro pins s σ H Q I h;exact wpAny_Compare1 (Zr ha hb I h λv u s2 x y H2 I2 rx ry q=>ho pins s2 σ H2 x y v u Q I2 rx ry q) hm
def CZ(t:TE):TT:=λσ H Q=>t σ H λx H'=>∃k,x=.bl k/\Q k H'
def aN{op:CmpOp}{r:R2}(ho:OpR X (compareOp op) r)(ha:PE X a ta)(hb:PE X b tb)(hm:behindInMarks op b=false):PT X (.Compare a [op] [b] pos) (CZ (tOp r ta tb)):=by
 intro pins s σ H Q I h;refine wpAny_isTrue_Compare1 (thn (ha pins s σ H _ I h) λv s1 ⟨x,H1,I1,r1,q1⟩=>thn (hb pins s1 σ H1 _ I1 q1) λu s2 ⟨y,H2,I2,r2,q2⟩ =>
  thn (ho pins s2 σ H2 x y v u _ I2 r1 r2 q2) λc s3 ⟨z,H3,I3,r3,k,e,q3⟩=>?_) hm
 subst e;cases r3;exact wpAny_truthy_bool ⟨H3,I3,q3⟩
def Ah(r r':R2)(ta tb tc:TE):TE:=λσ H Q=>ta σ H λx H1=>tb σ H1 λy H2=>r x y H2 λz H3=>∃k,z=.bl k /\
 (if k=true then tc σ H3 λw' H4=>r' y w' H4 Q else Q (.bl false) H3)
theorem Qd{op op':CmpOp}{r r':R2}(ho:OpR X (compareOp op) r)(ho':OpR X (compareOp op') r')(ha:PE X a ta)(hb:PE X b tb)(hc:PE X c tc)
  (hm:lastMarks [op,op'] [b,c]=false:=by with_unfolding_all rfl):PE X (.Compare a [op,op'] [b,c] pos) (Ah r r' ta tb tc):=by
 intro pins s σ H Q I h;refine Compare_chain (thn (ha pins s σ H _ I h) λv s1 ⟨x,H1,I1,r1,q1⟩=>chain_link (thn (hb pins s1 σ H1 _ I1 q1) λu s2 ⟨y,H2,I2,r2,q2⟩ =>
  thn (ho pins s2 σ H2 x y v u _ I2 r1 r2 q2) λd s3 ⟨z,H3,I3,r3,k,e,q3⟩=>?_)) hm
 subst e;cases r3;refine wpAny_truthy_bool ?_;cases k with
 | false=>exact ite_ff ⟨.bl false,H3,I3,rfl,q3⟩
 | true=>exact ite_tt (chain_last (thn (hc pins s3 σ H3 _ I3 q3) λw' s4 ⟨z',H4,I4,r4,q4⟩=>ho' pins s4 σ H4 y z' u w' Q I4 r2 r4 q4))
theorem kW{op op':CmpOp}{r r':R2}(ho:OpR X (compareOp op) r)(ho':OpR X (compareOp op') r')(ha:PE X a ta)(hb:PE X b tb)(hc:PE X c tc)
  (hm:lastMarks [op,op'] [b,c]=false:=by with_unfolding_all rfl):PT X (.Compare a [op,op'] [b,c] pos) (CZ (Ah r r' ta tb tc)):=by
 intro pins s σ H Q I h;refine isTrue_chain (thn (ha pins s σ H _ I h) λv s1 ⟨x,H1,I1,r1,q1⟩=>test_link (thn (hb pins s1 σ H1 _ I1 q1) λu s2 ⟨y,H2,I2,r2,q2⟩ =>
  thn (ho pins s2 σ H2 x y v u _ I2 r1 r2 q2) λd s3 ⟨z,H3,I3,r3,k,e,q3⟩=>?_)) hm
 subst e;cases r3;refine wpAny_truthy_bool ?_;cases k with
 | false =>
  obtain⟨k',e',q'⟩:=q3;cases e';exact ite_ff ⟨H3,I3,q'⟩
 | true =>
  refine ite_tt (test_last (thn (hc pins s3 σ H3 _ I3 q3) λw' s4 ⟨z',H4,I4,r4,q4⟩=>thn (ho' pins s4 σ H4 y z' u w' _ I4 r2 r4 q4) λd' s5 ⟨z2,H5,I5,r5,k2,e2,q5⟩=>?_));subst e2;cases r5;exact wpAny_truthy_bool ⟨H5,I5,q5⟩
def uf:(sizeLine:Nat)<2 ^ 63:=by rw[sizeLine_eq];decide
def Hg:OpR X (binaryOp .Add) (λx y H Q=>∃i j,x=.str i/\y=.str j/\i.length+j.length<=sizeLine/\Q (.str (i++j)) H):=by
 intro pins s σ H x y v u Q I rx ry h;obtain⟨i,j,rfl,rfl,hz,q⟩:=h;obtain⟨t,rfl⟩:=rx;obtain⟨t',rfl⟩:=ry;exact add_str (λt' tk=>⟨.str (i++j),H,I.tok _,⟨_,rfl⟩,q⟩) hz
theorem vals1{x:V}{us:xD}(r:Vals [x] us):∃u,us=[u]/\RelV x u:=by
 cases r with
 | cons r1 r2=>cases r2;exact⟨_,rfl,r1⟩
theorem vals2{x y:V}{us:xD}(r:Vals [x,y] us):∃u w',us=[u,w']/\RelV x u/\RelV y w':=by
 cases r with
 | cons r1 r2 =>
  cases r2 with
  | cons r3 r4=>cases r4;exact⟨_,_,rfl,r1,r3⟩
def M7(hc:X.calm=true):eZ X (.builtin "max") (λxs H Q=>∃i j,xs=[.int i,.int j]/\Q (.int (if j > i then j else i)) H):=by
 intro pins s σ H xs us Q I r h;obtain⟨i,j,rfl,q⟩:=h;obtain⟨u,w',rfl,⟨t,rfl⟩,⟨t',rfl⟩⟩:=vals2 r;refine max_two_ints (I.ok.hd hc) λh' tk k=>⟨_,H,I.kept k,?_,q⟩
 by_cases hj:j > i
 ·rw[zS hj,zS hj];exact⟨_,rfl⟩
 ·rw[yA hj,yA hj];exact⟨_,rfl⟩
def M8(hc:X.calm=true):eZ X (.builtin "min") (λxs H Q=>∃i j,xs=[.int i,.int j]/\Q (.int (if j<i then j else i)) H):=by
 intro pins s σ H xs us Q I r h;obtain⟨i,j,rfl,q⟩:=h;obtain⟨u,w',rfl,⟨t,rfl⟩,⟨t',rfl⟩⟩:=vals2 r;refine min_two_ints (I.ok.hd hc) λh' tk k=>⟨_,H,I.kept k,?_,q⟩
 by_cases hj:j<i
 ·rw[zS hj,zS hj];exact⟨_,rfl⟩
 ·rw[yA hj,yA hj];exact⟨_,rfl⟩
def Hh:eZ X (.type "bool") (λxs H Q=>(∃i,xs=[.int i]/\Q (.bl (i != 0)) H)\/∃k,xs=[.bl k]/\Q (.bl k) H):=by
 intro pins s σ H xs us Q I r h;rcases h with⟨i,rfl,q⟩|⟨k,rfl,q⟩
 ·obtain⟨u,rfl,t,rfl⟩:=vals1 r;exact call_bool_int ⟨.bl (i != 0),H,I,rfl,q⟩
 ·obtain⟨u,rfl,r1⟩:=vals1 r;cases r1;exact call_bool_bool ⟨.bl k,H,I,rfl,q⟩
def Ai:eZ X (.type "str") (λxs H Q=>∃i,xs=[.int i]/\i.natAbs.log2<1920/\Q (.str (toString i)) H):=by
 intro pins s σ H xs us Q I r h;obtain⟨i,rfl,hz,q⟩:=h;obtain⟨u,rfl,t,rfl⟩:=vals1 r;exact PySem.P.str_of_int hz ⟨.str _,H,I.tok _,⟨_,rfl⟩,q⟩
def acC(K:W.Frag)(x:V)(H:Hp)(n:Nat):Prop :=
 match x with
 | .str y=>y.length<=sizeLine/\n=y.length
 | .byt y=>y.size<=sizeLine/\n=y.size
 | .ref p=>(∃xs,SqL K H p xs/\n=xs.length)\/∃xs,SqT K H p xs/\n=xs.length
 | _=>False
theorem Qe:eZ X (.builtin "len") (λxs H Q=>∃x n,xs=[x]/\acC X.K x H n/\Q (.int n) H):=by
 intro pins s σ H xs us Q I r h;obtain⟨x,n,rfl,e,q⟩:=h;obtain⟨u,rfl,rx⟩:=vals1 r;have hl:=uf;have hs:sizeLine=16777216:=sizeLine_eq;cases x with
 | str y =>
  obtain⟨t,rfl⟩:=rx;obtain⟨hy,e'⟩:y.length<=sizeLine/\n=y.length:=e;subst e';exact len_str (by lia) ⟨.int _,H,I.tok _,⟨_,rfl⟩,q⟩
 | byt y =>
  obtain⟨t,rfl⟩:=rx;obtain⟨hy,e'⟩:y.size<=sizeLine/\n=y.size:=e;subst e';exact W.len_bytes (by lia) ⟨.int _,H,I.tok _,⟨_,rfl⟩,q⟩
 | ref p =>
  cases rx;have e':(∃xs,SqL X.K H p xs/\n=xs.length)\/∃xs,SqT X.K H p xs/\n=xs.length:=e;rcases e' with⟨xs,hx,e'⟩|⟨xs,hx,e'⟩
  ·subst e';obtain⟨its,r',pl,hz⟩:=I.list hx;have hlen:=r'.length;exact Calls.call_len_list pl.isList (by simp only[List.size_toArray];lia) ⟨.int xs.length,H,I.tok _,⟨_,by simp only[List.size_toArray];rw[hlen]⟩,q⟩
  ·subst e';obtain⟨its,r',pl,hz⟩:=I.tuple hx;have hlen:=r'.length;exact len_tuple pl (by simp only[List.size_toArray];lia) ⟨.int xs.length,H,I.tok _,⟨_,by simp only[List.size_toArray];rw[hlen]⟩,q⟩
 | _=>exact(show False from e).elim
end
structure Hi(h:Heap)(x dx C:Addr)(mA:xC):Prop where
 obj:h.get? x=some (W.instObj C dx)
 ns:h.Ns1 dx mA
 ne:dx≠x
def xR{h:Heap}{dx:Addr}{mA:xC}(n:h.Ns1 dx mA):∃od,h.get? dx=some od/\∀name,W.lookIn name od=some (mA name):=by
 obtain⟨o,es,ep,ho,hd,hk,_,hm⟩:=n;refine⟨o,ho,λname=>?_⟩;have e:=hm name;unfold nsFind findBy at e;rw[<- Array.find?_toList] at e;unfold W.lookIn;rw[hd];dsimp only;split
 ·rename_i y q;rw[q] at e;exact gE some e
 ·rename_i q;rw[q] at e;have a:es.toList.any (·.refKey)=false:=by
   rw[List.any_eq_false];intro y hy;obtain⟨z,t,hkey⟩:=hk y (Array.mem_toList_iff.mp hy);simp[DictEntry.refKey,hkey]
  have a':¬ es.toList.any (·.refKey)=true:=by rw[a];exact vE
  rw[yA a'];exact gE some e
def Hi.look{h:Heap}{x dx C:Addr}{mA:xC}(I:Hi h x dx C mA):∃od,W.InstAt h x (W.instObj C dx) C (some od)/\∀name,W.lookIn name od=some (mA name) :=
 let ⟨od,ho,hl⟩:=xR I.ns
 ⟨od,⟨I.obj,rfl,rfl,ho⟩,hl⟩
section
variable{prog:Program}{w:World}{A:Around}{E:xB}{s:Shared}{K:W.Frag}{x dx C f:Addr}{mA:xC}{name:Str}{v:Value}
def get_map{expr:Bool}{Q:xB}(X:K.In s.heap)(I:Hi s.heap x dx C mA)(hg:W.plainGet K C name=true)(hh:W.hasDictIn K C=true)
  (ha:W.findIn K (.ref C) name=some none) (hv:mA name=some v) (hv':W.handedIn v=true) (h:Q v { s with toks:=s.toks+1 }) :
  wpAny (model prog w) A (getAttr (.ref x) name expr) Q E s:=by
 obtain⟨od,J,hl⟩:=I.look;exact W.get_value X J (W.plainGet_of hg).1 (W.findObj_own hh ha rfl (by rw[hl,hv])) hv' h
def Qf{pl:Sem Bool}{Q:Value×List Value->Shared->Prop}(X:K.In s.heap)(I:Hi s.heap x dx C mA)(hg:W.plainGet K C name=true)
  (hf:W.findIn K (.ref C) name=some (some (.ref f))) (ht:W.isFn K (.ref f)=true) (hv:mA name=none) (h:Q (.ref f,[.ref x]) s) :
  wpAny (model prog w) A (getMethod (.ref x) name pl) Q E s:=by
 obtain⟨od,J,hl⟩:=I.look;exact W.method_fn X J (W.plainGet_of hg).1 (W.plainGet_of hg).2 hf (beq_iff_eq.mp ht) (by show (W.lookIn name od).map (·.isSome)=some false;rw[hl,hv];rfl) h
def V5{ns:List Str}{Q:xA}(X:K.In s.heap)(I:Hi s.heap x dx C mA)
  (hs:W.findIn K (.ref C) "__setattr__" = some (some (.builtin "object.__setattr__"))) (hp:W.plainOver K C=true) (ht:W.takerIn K C name=some none) (hh:W.hasDictIn K C=true)
  (hw:PySem.Within mA ns) (hsz:ns.length<=sizeLine)
  (h:∀h',Hi h' x dx C (λy=>if y=name then some v else mA y)->Heap.SameBut dx s.heap h'->Q () { s with heap:=h',toks:=s.toks+2 }) :
  wpAny (model prog w) A (setAttr (.ref x) name v) Q E s:=by
 obtain⟨od,J,hl⟩:=I.look;refine W.set_plain X J hs (W.osa_open (s:={ s with toks:=s.toks+1 }) (r:=none) X J hp ht λb=>?_)
 obtain⟨cd,hc,hd'⟩:=W.any_some hh;have hx:s.heap.get? x=some ⟨.ref C,some dx,.plain,#[]⟩:=I.obj;refine zI (rV (zI (zI (wpAny_loadPart hx (zI (W.Looks.here (s:={ s with toks:=s.toks+1 }) (W.looks_clsIn X hc) ?_))))))
 rw[hd'];refine rV (a:=some dx) (zI (rV (zI ?_)));refine wpAny_nsSet1 (s:={ s with toks:=s.toks+1 }) I.ns λh' hn2 hs2=>?_
 obtain⟨oD,esD,epD,hoD,hdD,hcD⟩:=hn2.count (PySem.Within.cons name v hw);refine zI (wpAny_lookBehind hoD (by rw[hdD];exact pastItsLine_dict (rX hcD (by rw[mS];lia))) ?_);exact rV (h _ ⟨(hs2.2 _ (Ne.symm I.ne)).trans I.obj,hn2,I.ne⟩ hs2)
def Qg{R:Result->Shared->Prop}{vs:xD}{kw:List (Str×Value)}(X:K.In s.heap)(hm:W.makesIn K C=true)
  (hi:W.findIn K (.ref C) "__init__" = some (some (.ref f))) (hf:W.typeIn K (.ref f)=some (.type "function"))
  (h:codeAny (model prog w) (A.under (.builtin "type.__call__" ⟨.ref C::vs,kw⟩)) (.call (.ref f) ⟨.ref (s.heap.objs.size+1)::vs,kw⟩) (W.InitBack (s.heap.objs.size+1) R)
   { s with heap:=(s.heap.push W.emptyDict).push (W.instObj C s.heap.objs.size) }) :
  codeAny (model prog w) A (.call (.ref C) ⟨vs,kw⟩) R s:=by
 obtain⟨hh,g,d,t,os⟩:=s;exact W.make_core (W.makes_of X hm) (W.looks_findIn X hi) (λself=>W.bind_fn X self hf) (.inl rfl) h
end
def fZ(f:Str)(v:V):List (Str×V)->List (Str×V)
 | []=>[(f,v)]
 | (g,x)::r=>if g=f then (g,v)::r else (g,x)::fZ f v r
theorem dR(f g:Str)(v:V):∀fs:List (Str×V),(fZ f v fs).lookup g=if g=f then some v else fs.lookup g
 | []=>by
  show List.lookup g [(f,v)]=_;by_cases h:g=f
  ·have hb:(g==f)=true:=beq_iff_eq.mpr h;simp only[List.lookup,hb,if_pos h]
  ·have hb:(g==f)=false:=beq_eq_false_iff_ne.mpr h;simp only[List.lookup,hb,if_neg h]
 | (k,x)::r=>by
  have ih:=dR f g v r;rw[show fZ f v ((k,x)::r)=(if k=f then (k,v)::r else (k,x)::fZ f v r) from rfl];by_cases hk:k=f
  ·rw[zS hk];by_cases h:g=k
   ·have hb:(g==k)=true:=beq_iff_eq.mpr h;simp only[List.lookup,hb,if_pos (h.trans hk)]
   ·have hb:(g==k)=false:=beq_eq_false_iff_ne.mpr h;simp only[List.lookup,hb,if_neg (λe:g=f=>h (e.trans hk.symm))]
  ·rw[yA hk];by_cases h:g=k
   ·have hb:(g==k)=true:=beq_iff_eq.mpr h;simp only[List.lookup,hb,if_neg (λe:g=f=>hk (h.symm.trans e))]
   ·have hb:(g==k)=false:=beq_eq_false_iff_ne.mpr h;simp only[List.lookup,hb];exact ih
theorem jz(f:Str)(v:V):∀fs:List (Str×V),f∈(fZ f v fs).map (·.1)/\∀g,g∈fs.map (·.1)->g∈(fZ f v fs).map (·.1)
 | []=>⟨by simp[fZ],λg h=>by simp at h⟩
 | (k,x)::r=>by
  obtain⟨i1,i2⟩:=jz f v r;rw[show fZ f v ((k,x)::r)=(if k=f then (k,v)::r else (k,x)::fZ f v r) from rfl];by_cases hk:k=f
  ·rw[zS hk];subst hk;exact⟨by simp,λg h=>by simpa using h⟩
  ·rw[yA hk];refine⟨?_,λg h=>?_⟩
   ·rw[oS];exact zD _ i1
   ·rw[oS] at h ⊢;rcases vS.mp h with e|e
    ·exact vS.mpr (.inl e)
    ·exact zD _ (i2 g e)
theorem kY(f:Str)(v:V):∀fs:List (Str×V),(fZ f v fs).length<=fs.length+1
 | []=>by simp[fZ]
 | (k,x)::r=>by
  have ih:=kY f v r;rw[show fZ f v ((k,x)::r)=(if k=f then (k,v)::r else (k,x)::fZ f v r) from rfl];by_cases hk:k=f
  ·rw[zS hk,mS,mS];lia
  ·rw[yA hk,mS,mS];lia
theorem mX.some_of{v:V}{o:Option Value}(r:mX (some v) o):∃u,o=some u/\RelV v u:=by
 cases o with
 | none=>exact(show False from r).elim
 | some u=>exact⟨u,rfl,r⟩
theorem mX.none_of{o:Option Value}(r:mX none o):o=none:=by
 cases o with
 | none=>rfl
 | some u=>exact(show False from r).elim
theorem M9{v:V}{u:Value}(r:RelV v u):W.handedIn u=true:=by
 cases v with
 | non=>cases (show u=Value.none from r);rfl
 | bl b=>cases (show u=Value.bool b from r);rfl
 | int i=>obtain⟨t,e⟩:=(show ∃t,u=Value.int i t from r);cases e;rfl
 | str x=>obtain⟨t,e⟩:=(show ∃t,u=Value.str x t from r);cases e;rfl
 | byt b=>obtain⟨t,e⟩:=(show ∃t,u=Value.bytes b t from r);cases e;rfl
 | flt b=>obtain⟨t,e⟩:=(show ∃t,u=Value.float b t from r);cases e;rfl
 | ref a=>cases (show u=Value.ref a from r);rfl
 | ty n=>cases (show u=Value.type n from r);rfl
section
variable{P:Program}{w:World}{H:Hp}{h:Heap}{a C dx:Addr}{fs:List (Str×V)}
def tK(hok:HOk P w H h)(e:H a=some (.ins C dx fs)):∃mA,Hi h a dx C mA/\(∀f,mX (fs.lookup f) (mA f))/\PySem.Within mA (fs.map (·.1))/\fs.length<=1000/\H dx=some (.own a):=by
 obtain⟨d,z,ne,ob,mA,n,r,q⟩:=(show cM P w H h a (.ins C dx fs) from hok a _ e);exact⟨mA,⟨ob,n,ne⟩,r,q,z,d⟩
end
structure Cls(K:W.Frag)(C:Addr):Prop where
 pg:W.plainGet K C Str.empty=true
 hd:W.hasDictIn K C=true
 po:W.plainOver K C=true
 sa:W.findIn K (.ref C) "__setattr__" = some (some (.builtin "object.__setattr__"))
def Cls.get{K:W.Frag}{C:Addr}(c:Cls K C)(f:Str):W.plainGet K C f=true:=c.pg
def cH(K:W.Frag)(C:Addr)(f:Str):Prop:=W.findIn K (.ref C) f=some none
def cH.taker{K:W.Frag}{C:Addr}{f:Str}(n:cH K C f):W.takerIn K C f=some none:=by
 unfold W.takerIn;rw[show W.findIn K (.ref C) f=some none from n]
 rfl
structure Con(K:W.Frag)(C:Addr)(f:Str)(v:V)(u:Value):Prop where
 at_:W.findIn K (.ref C) f=some (some u)
 rel:RelV v u
 get:W.specialIn K u "__get__" = some none
 cp:W.copiedNames.contains f=false
structure Meth(K:W.Frag)(C:Addr)(m:Str)(f:Addr):Prop where
 at_:W.findIn K (.ref C) m=some (some (.ref f))
 fn:W.isFn K (.ref f)=true
 kp:W.keepIn K (.ref f)=true
section
variable{X:Cx}{pins:pV}{σ:St}{H:Hp}{s:Shared}{a C dx:Addr}{fs:List (Str×V)}{f:Str}{v:V}{A:Around}{E:xB}
def Hj{b:Bool}{Q:xB}(I:Inv X pins σ H s)(e:H a=some (.ins C dx fs))(c:Cls X.K C)(n:cH X.K C f)(l:fs.lookup f=some v)
  (h:∀u s',Inv X pins σ H s'->RelV v u->Q u s'):wpAny (model X.prog X.w) A (getAttr (.ref a) f b) Q E s:=by
 obtain⟨mA,O,r,_,_,_⟩:=tK I.hok e;obtain⟨u,hu,ru⟩:=mX.some_of (v:=v) (o:=mA f) (by rw[<- l];exact r f);exact get_map I.kIn O (c.get f) c.hd n hu (M9 ru) (h u _ (I.tok _) ru)
def ug{m:Str}{g:Addr}{pl:Sem Bool}{Q:Value×List Value->Shared->Prop}(I:Inv X pins σ H s)(e:H a=some (.ins C dx fs))(c:Cls X.K C)(k:Meth X.K C m g)(l:fs.lookup m=none)
  (h:Q (.ref g,[.ref a]) s):wpAny (model X.prog X.w) A (getMethod (.ref a) m pl) Q E s:=by
 obtain⟨mA,O,r,_,_,_⟩:=tK I.hok e;have hn:mA m=none:=mX.none_of (by rw[<- l];exact r m);exact Qf I.kIn O (c.get m) k.at_ k.fn hn h
def Hl{y:V}{u:Value}{Q:xA}(I:Inv X pins σ H s)(e:H a=some (.ins C dx fs))(c:Cls X.K C)(n:cH X.K C f)(hl:fs.length<1000)(ry:RelV y u)
  (h:∀s',Inv X pins σ (upd H a (.ins C dx (fZ f y fs))) s'->Q () s'):wpAny (model X.prog X.w) A (setAttr (.ref a) f u) Q E s:=by
 obtain⟨mA,O,r,wi,_,ho⟩:=tK I.hok e;have hz:(fs.map (·.1)).length<=sizeLine:=by rw[wE,sizeLine_eq];lia
 refine V5 I.kIn O c.sa c.po n.taker c.hd wi hz λh' O' sb=>h _ ?_
 have hd:∃o,h'.get? dx=some o:=let ⟨o,_,_,e',_⟩:=O'.ns;⟨o,e'⟩
 refine I.write (x:=a) (e:=dx) (by rw[e];exact True.intro) (.inr ho) (λb q hb z=>(sb.2 b hb).trans z) hd ?_;refine⟨by rw[aZ O.ne];exact ho,?_,O.ne,O'.obj,_,O'.ns,λg=>?_,λg hg=>?_⟩
 ·have:=kY f y fs;lia
 ·show mX ((fZ f y fs).lookup g) (if g=f then some u else mA g);rw[dR];by_cases q:g=f
  ·rw[zS q,zS q];exact ry
  ·rw[yA q,yA q];exact r g
 ·by_cases q:g=f
  ·rw[q];exact(jz f y fs).1
  ·refine(jz f y fs).2 g (wi g λz=>hg ?_);show (if g=f then some u else mA g)=none;rw[yA q];exact z
def Inv.made(I:Inv X pins σ H s):Inv X pins σ (upd (upd H s.heap.objs.size (.own (s.heap.objs.size+1))) (s.heap.objs.size+1) (.ins C s.heap.objs.size []))
  { s with heap:=(s.heap.push W.emptyDict).push (W.instObj C s.heap.objs.size) }:=by
 have e1:(s.heap.push W.emptyDict).get? s.heap.objs.size=some W.emptyDict:=oP s.heap rfl;have e2:((s.heap.push W.emptyDict).push (W.instObj C s.heap.objs.size)).get? (s.heap.objs.size+1)=some (W.instObj C s.heap.objs.size):=by
  have:=oP (s.heap.push W.emptyDict) (o:=W.instObj C s.heap.objs.size) rfl
  rwa [Heap.size_push] at this
 have e3:(s.heap.push W.emptyDict).Ns s.heap.objs.size (λ_=>none):=⟨W.emptyDict,#[],_,e1,rfl,(λe he=>absurd he (by simp)),λ_=>rfl⟩;have I1:=I.laid (a:=s.heap.objs.size) (o:=.own (s.heap.objs.size+1)) (h':=s.heap.push W.emptyDict) (t':=s.toks) (λb u q=>uB _ q) (uC _) ⟨_,e1⟩;refine I1.laid (a:=s.heap.objs.size+1) (o:=.ins C s.heap.objs.size []) (t':=s.toks) (λb u q=>uB _ q) (Nat.le_of_eq (Heap.size_push _ _)) ?_;have ne:s.heap.objs.size≠s.heap.objs.size+1:=qE (Nat.lt_succ_self _);refine⟨by rw[aZ ne,bA],Nat.zero_le _,ne,e2,λ_=>none,(Heap.Ns1.of_empty e3).at λo q=>uB _ q,λ_=>True.intro,λy hy=>gL rfl hy⟩
def V6{prog:Program}{w:World}{env:Env}{e:Expr}{f:Str}{pos:Pos}{s:Shared}{Q:xB}(hb:attributeBase e f env (eval e env)=eval e env)
  (h:wpAny (model prog w) A (eval e env) (λo s₁=>wpAny (model prog w) A (getAttr o f true) Q E s₁) E s):wpAny (model prog w) A (eval (.Attribute e f pos) env) Q E s :=
 Attribute_any_ h (by rw[arm_eval_Attribute,hb])
end
def Zz(K:W.Frag)(ta:TE)(f:Str):TE:=λσ H Q=>ta σ H λx H1=>∃a C dx fs v,x=.ref a/\H1 a=some (.ins C dx fs)/\Cls K C/\cH K C f/\fs.lookup f=some v/\Q v H1
def ZC(K:W.Frag)(ta tv:TE)(f:Str):TS:=λD σ H=>tv σ H λy H1=>ta σ H1 λx H2=>∃a C dx fs,x=.ref a/\H2 a=some (.ins C dx fs)/\Cls K C/\cH K C f/\fs.length<1000 /\
 D.nx σ (upd H2 a (.ins C dx (fZ f y fs)))
section
variable{X:Cx}{o e value:Expr}{f:Str}{pos pos':Pos}{ta tv:TE}
def jj(he:PE X e ta)(hb:attributeBase e f X.env (eval e X.env)=eval e X.env):PE X (.Attribute e f pos) (Zz X.K ta f):=by
 intro pins s σ H Q I h;refine V6 hb (thn (he pins s σ H _ I h) λu s1 ⟨x,H1,I1,rx,a,C,dx,fs,v,ex,ea,c,n,l,q⟩=>?_);subst ex;obtain rfl:u=Value.ref a:=rx;exact Hj I1 ea c n l λu' s2 I2 ru=>⟨v,H1,I2,ru,q⟩
def Qh(ha:PE X o ta)(hv:PE X value tv)(hs:swapsWith value (some (.Attribute o f pos')) pos.line X.env=pure false):PS X (.Assign [.Attribute o f pos'] value pos) (ZC X.K ta tv f):=by
 intro pins s σ H D I h;refine plainObj_wpAny_Assign_Attribute (thn (hv pins s σ H _ I h) λu s1 ⟨y,H1,I1,ry,q⟩=>thn (ha pins s1 σ H1 _ I1 q) λov s2 ⟨x,H2,I2,rx,a,C,dx,fs,ex,ea,c,n,l,q2⟩=>?_) hs;subst ex;obtain rfl:ov=Value.ref a:=rx;exact Hl I2 ea c n l ry λs3 I3=>⟨σ,_,I3,q2⟩
end
section
variable{X:Cx}{pins:pV}{σ:St}{H:Hp}{s:Shared}{A:Around}{E:xB}{Q:xB}{c:Value}{b:Bool}
inductive dj(K:W.Frag)(H:Hp):V->Value->Prop where
 | non:dj K H .non (.type "NoneType")
 | bl (x:Bool):dj K H (.bl x) (.type "bool")
 | int (i:Int):dj K H (.int i) (.type "int")
 | str (x:Str):dj K H (.str x) (.type "str")
 | flt (x:UInt64):dj K H (.flt x) (.type "float")
 | lst {a:Addr} {xs:List V} (e:H a=some (.lst xs)):dj K H (.ref a) (.type "list")
 | frz {a:Addr} {o:Obj} {xs:List V} (e:H a=some (.frz o (.lst xs))):dj K H (.ref a) (.type "list")
 | tup {a:Addr} {xs:List V} (e:H a=some (.tup xs)):dj K H (.ref a) (.type "tuple")
 | dK {a:Addr} {kvs:List (Key×V)} (e:H a=some (.dK kvs)):dj K H (.ref a) (.type "dict")
 | dT {a:Addr} {kvs:List (List Key×V)} (e:H a=some (.dT kvs)):dj K H (.ref a) (.type "dict")
 | ins {a C dx:Addr} {fs:List (Str×V)} (e:H a=some (.ins C dx fs)) (cl:Cls K C) (ha:W.findIn K (.ref C) "__class__" = some (some (.builtin "object.__class__")))
   (hn:W.specialIn K (.builtin "object.__class__") "__get__" = some (some (.builtin "getset_descriptor.__get__"))) (htk:W.takesIn K (.builtin "object.__class__")=some true)
   (hm:W.mroIn K C (.type "object")=some true):dj K H (.ref a) (.ref C)
theorem xT{x:V}{u t:Value}(I:Inv X pins σ H s)(rx:RelV x u)(ty:dj X.K H x t)(e:W.kitOne X.K t c=some b)(h:∀tk,Q (.bool b) { s with toks:=tk }) :
  wpAny (model X.prog X.w) A (call (.builtin "isinstance") [u,c]) Q E s:=by
 cases ty with
 | non=>cases (show u=Value.none from rx);exact W.kia_one W.kitx_none I.kIn True.intro e (λz=>nomatch z) h
 | bl y=>cases (show u=Value.bool y from rx);exact W.kia_one W.kitx_bool I.kIn True.intro e (λz=>nomatch z) h
 | int i=>obtain⟨t,q⟩:=(show ∃t,u=Value.int i t from rx);cases q;exact W.kia_one W.kitx_int I.kIn True.intro e (λz=>nomatch z) h
 | str y=>obtain⟨t,q⟩:=(show ∃t,u=Value.str y t from rx);cases q;exact W.kia_one W.kitx_str I.kIn True.intro e (λz=>nomatch z) h
 | flt y=>obtain⟨t,q⟩:=(show ∃t,u=Value.float y t from rx);cases q;exact W.kia_one W.kitx_float I.kIn True.intro e (λz=>nomatch z) h
 | @lst a xs ea =>
  cases (show u=Value.ref a from rx);obtain⟨_,_,n,_,h1⟩:=(show cM X.prog X.w H s.heap a (.lst xs) from I.hok a _ ea);exact W.kia_one W.kitx_list I.kIn ⟨_,h1,rfl⟩ e (λz=>nomatch z) h
 | @frz a ob xs ea =>
  cases (show u=Value.ref a from rx);obtain⟨_,_,_,n,_,h1⟩:=(show cM X.prog X.w H s.heap a (.frz ob (.lst xs)) from I.hok a _ ea);exact W.kia_one W.kitx_list I.kIn ⟨_,h1,rfl⟩ e (λz=>nomatch z) h
 | @tup a xs ea =>
  cases (show u=Value.ref a from rx);obtain⟨_,_,_,p⟩:=(show cM X.prog X.w H s.heap a (.tup xs) from I.hok a _ ea);obtain⟨o,h1,h2,_⟩:=p;exact W.kia_one W.kitx_tuple I.kIn ⟨o,h1,h2⟩ e (λz=>nomatch z) h
 | @dK a kvs ea =>
  cases (show u=Value.ref a from rx);obtain⟨_,_,vs,_,p⟩:=(show cM X.prog X.w H s.heap a (.dK kvs) from I.hok a _ ea);obtain⟨o,es,ep,h1,h2,_⟩:=p;exact W.kia_one W.kitx_dict I.kIn ⟨o,h1,h2.1⟩ e (λz=>nomatch z) h
 | @dT a kvs ea =>
  cases (show u=Value.ref a from rx);obtain⟨_,_,xs,_,o,es,ep,h1,h2,_⟩:=(show cM X.prog X.w H s.heap a (.dT kvs) from I.hok a _ ea);exact W.kia_one W.kitx_dict I.kIn ⟨o,h1,h2.1⟩ e (λz=>nomatch z) h
 | @ins a C dx fs ea cl ha hn htk hm =>
  cases (show u=Value.ref a from rx);obtain⟨mA,O,_⟩:=tK I.hok ea;obtain⟨od,J,_⟩:=O.look;exact W.kia_one (W.kitx_own (cl.get _) cl.hd ha hn htk hm) I.kIn J e (λz=>nomatch z) h
end
structure Room(k:Nat)(A:Around):Prop where
 hd:A.handled=none
 dp:A.depth+3*k+5<recursionLimit
 un:A.units+16*k+200<cLine
 gd:A.guards=some []
def Room.mono{j k:Nat}{A:Around}(r:Room k A)(h:j<=k):Room j A:=⟨r.hd,by have:=r.dp;lia,by have:=r.un;lia,r.gd⟩
theorem Room.deeper{k:Nat}{A:Around}(r:Room (k+1) A)(env:Env):Room k (A.deeper env) :=
 ⟨r.hd,by have:=r.dp;show A.depth+1+3*k+5<_;lia,by have:=r.un;show A.units+3+16*k+200<_;lia,r.gd⟩
theorem Room.in1{k:Nat}{A:Around}(r:Room (k+1) A):Room k A.in1 :=
 ⟨r.hd,by have:=r.dp;show A.depth+3*k+5<_;lia,by have:=r.un;show A.units+1+16*k+200<_;lia,r.gd⟩
def Ho{A:Around}{C:Addr}{us:xD}{kw:List (Str×Value)}:(A.under (.builtin "type.__call__" ⟨.ref C::us,kw⟩)).depth=A.depth+1:=by
 first|rfl|simp[Around.under,Code.weight,Code.isCreation,Code.isGuard,Code.isCaller,Code.frames,Code.isFrame,guardIds]
def Hq{A:Around}{C:Addr}{us:xD}{kw:List (Str×Value)}:(A.under (.builtin "type.__call__" ⟨.ref C::us,kw⟩)).units=A.units+1:=by
 first|rfl|simp[Around.under,Code.cUnits,Code.frames,Code.isFrame]
def Room.make{k:Nat}{A:Around}(r:Room (k+1) A)(C:Addr)(us:xD)(kw:List (Str×Value)):Room k (A.under (.builtin "type.__call__" ⟨.ref C::us,kw⟩)) :=
 ⟨r.hd,by have:=r.dp;rw[Ho];lia,by have:=r.un;rw[Hq];lia,by first|exact r.gd|(simp[Around.under,Code.guards,Code.isGuard,guardIds,pushGuards];exact r.gd)⟩
theorem Room.depth{k:Nat}{A:Around}(r:Room k A):A.depth<recursionLimit:=by have:=r.dp;lia
def nQ:TA:=λ_ H Q=>Q [] H
def iK(ta:TE)(tr:TA):TA:=λσ H Q=>ta σ H λx H1=>tr σ H1 λxs H2=>Q (x::xs) H2
section
variable{X:Cx}{e:Expr}{es:List Expr}{te:TE}{t:TA}{pos:Pos}
def ao:PA X [] nQ:=λ_ _ _ _ H Q I h=>Calls.spliced_nil ⟨[],H,I,.nil,h⟩
def aj(ha:PE X e te)(hr:PA X es t)(hs:starEach (e::es) X.env=(false,eval e X.env)::starEach es X.env:=by rfl):PA X (e::es) (iK te t):=by
 intro pos pins s σ H Q I h;rw[hs];show wpAny _ _ (spliced ((false,eval e X.env)::backTo pos (starEach es X.env))) _ _ s;refine Calls.spliced_cons (thn (ha pins s σ H _ I h) λu s1 ⟨x,H1,I1,r1,q1⟩=>?_);exact thn (hr pos pins s1 σ H1 _ I1 q1) λus s2 ⟨xs,H2,I2,r2,q2⟩=>⟨x::xs,H2,I2,.cons r1 r2,q2⟩
end
abbrev Sp:=List V->Hp->VK->XK->Prop
abbrev CXT:=List Env->Hp->Shared->XK->Value->Shared->Prop
structure wY(P:Program)(w:World)(K:W.Frag)(mg:xC)(base:Heap)(A:Around)(outer:List Env)(s:Shared)(H:Hp):Prop where
 frames:A.frames=some outer
 mod:Mod K mg base
 bs:∀b o,base.get? b=some o->s.heap.get? b=some o/\H b=none
 bsz:base.objs.size<=s.heap.objs.size
 kO:s.heap.FunFrames base outer
 frf:∀b∈frs outer,H b=none
 hok:HOk P w H s.heap
 bare:AllBare s.gens
def CE(outer:List Env)(P:Program)(w:World)(H:Hp)(s:Shared)(Q:VK)(u:Value)(s':Shared):Prop :=
 ∃v H',s'.os=s.os/\AllBare s'.gens/\Un (frs outer) [] H H' s.heap s'.heap/\HOk P w H' s'.heap/\RelV v u/\Q v H'
def CR(CX:CXT)(outer:List Env)(P:Program)(w:World)(H:Hp)(s:Shared)(Q:VK)(E:XK)(r:Result)(s':Shared):Prop :=
 match r with
 | .ok (.ret u)=>CE outer P w H s Q u s'
 | .ok _=>False
 | .error e=>CX outer H s E e s'
structure iZ(P:Program)(w:World)(K:W.Frag)(mg:xC)(base:Heap)(CX:CXT)(k:Nat)(f:Addr)(fd:FuncData)(ps:List Str)(sp:Sp):Prop where
 len:∀vs H Q E,sp vs H Q E->vs.length=ps.length
 run:∀(A:Around)(outer:List Env)(s:Shared)(H:Hp)(args:Args)(us:xD)(vs:List V)(Q:VK)(E:XK),Room k A->wY P w K mg base A outer s H->BindsTo s fd args (ps.zip us)->Vals vs us->sp vs H Q E ->
  codeAny (model P w) A (.call (.ref f) args) (CR CX outer P w H s Q E) s
def wY.make{P:Program}{w:World}{K:W.Frag}{mg:xC}{base:Heap}{A:Around}{outer:List Env}{s:Shared}{H:Hp}(e:wY P w K mg base A outer s H)(C:Addr)(us:xD)(kw:List (Str×Value)) :
  wY P w K mg base (A.under (.builtin "type.__call__" ⟨.ref C::us,kw⟩)) outer s H:=⟨by first|exact e.frames|(simpa[Around.under,Code.envs,Code.isFrame,pushEnvs] using e.frames),e.mod,e.bs,e.bsz,e.kO,e.frf,e.hok,e.bare⟩
theorem wY.in1{P:Program}{w:World}{K:W.Frag}{mg:xC}{base:Heap}{A:Around}{outer:List Env}{s:Shared}{H:Hp}(e:wY P w K mg base A outer s H) :
  wY P w K mg base A.in1 outer s H:=⟨e.frames,e.mod,e.bs,e.bsz,e.kO,e.frf,e.hok,e.bare⟩
section
variable{X:Cx}{pins:pV}{σ:St}{H:Hp}{s s':Shared}
def Inv.env0(I:Inv X pins σ H s):wY X.prog X.w X.K X.mg X.base X.A X.stack s H :=
 ⟨I.ok.frames,I.ok.mod,I.bs,rX I.ok.bsz I.sz,I.stack,I.oY,I.hok,I.bare⟩
def Inv.after{Q:VK}{u:Value}(I:Inv X pins σ H s)(h:CE X.stack X.prog X.w H s Q u s'):EP X pins σ Q u s':=by
 obtain⟨v,H',os,bare,un,hok,r,q⟩:=h;obtain⟨hh,g,d,t,os'⟩:=s';obtain rfl:os'=s.os:=os;exact⟨v,H',I.call (h':=hh) (g':=g) (d':=d) (t':=t) (ch:=[]) un hok bare (λb z=>absurd z (by simp)),r,q⟩
end
def C_(sp:Sp)(dvs:List V)(E:XK)(t:TA):TE:=λσ H Q=>t σ H λvs H1=>sp (vs++dvs) H1 Q E
def xU(C:Addr)(m:Str)(sp:Sp)(dvs:List V)(E:XK)(ta:TE)(t:TA):TE:=λσ H Q=>ta σ H λx H1=>∃a dx fs,x=.ref a/\H1 a=some (.ins C dx fs)/\fs.lookup m=none /\
 t σ H1 λvs H2=>sp (x::(vs++dvs)) H2 Q E
def Binds(K:W.Frag)(fd:FuncData)(ps:List Str)(ds:xD):Prop :=
 ∀(s:Shared)(us:xD),K.In s.heap->(us++ds).length=ps.length->BindsTo s fd ⟨us,[]⟩ (ps.zip (us++ds))
def Binds.all{K:W.Frag}{fd:FuncData}{ps:List Str}(h:∀us:List Value,us.length=ps.length->bindArgs fd ⟨us,[]⟩=pure (ps.zip us)):Binds K fd ps []:=λs us _ hl=>by
 rw[mE] at hl ⊢;exact .of_eq (h us hl)
def Passes(CX:CXT)(X:Cx)(E:XK):Prop:=∀(pins:pV) (σ:St) (H:Hp) (s:Shared) (e:Value) (s':Shared),Inv X pins σ H s->CX X.stack H s E e s'->X.xe e s'
section
variable{X:Cx}{CX:CXT}{k:Nat}{f C:Addr}{fd:FuncData}{ps:List Str}{sp:Sp}{dvs:List V}{ds:xD}{E:XK}{x m:Str}{p pos apos:Pos}{e o:Expr}{es:List Expr}{ta:TE}{t:TA}
theorem Hr{pins:pV}{σ:St}{H:Hp}{s:Shared}{Q:VK}{us:xD}{vs:List V}(F:iZ X.prog X.w X.K X.mg X.base CX k f fd ps sp)(hr:Room k X.A)(hb:Binds X.K fd ps ds)(hd:Vals dvs ds)(hx:Passes CX X E)
  (I:Inv X pins σ H s) (r:Vals vs us) (h:sp (vs++dvs) H Q E):wpAny (model X.prog X.w) X.A (call (.ref f) us) (EP X pins σ Q) X.xe s:=by
 have r2:Vals (vs++dvs) (us++ds):=r.append hd;have hl:(us++ds).length=ps.length:=by rw[<- r2.length];exact F.len _ _ _ _ h
 refine wpAny_call (codeAny_mono (F.run X.A X.stack s H ⟨us,[]⟩ (us++ds) (vs++dvs) Q E hr I.env0 (hb s us I.kIn hl) r2 h) λr s' hq=>?_);cases r with
 | error e=>exact hx pins σ H s e s' I hq
 | ok fl =>
  cases fl with
  | ret u=>exact I.after hq
  | next=>exact False.elim hq
  | brk=>exact False.elim hq
  | cont=>exact False.elim hq
def V7(F:iZ X.prog X.w X.K X.mg X.base CX k f fd ps sp)(hr:Room k X.A)(hg:Gl X x)(hm:X.mg x=some (.ref f))(hk:W.keepIn X.K (.ref f)=true)(hb:Binds X.K fd ps ds)(hd:Vals dvs ds)(hx:Passes CX X E)
  (ha:PA X (e::es) t) (hdb:(x==("__debug__" : Str))=false:=by decide) (he:starEach (e::es) X.env=(false,eval e X.env)::starEach es X.env:=by rfl) (hpl:(backTo pos (starEach es X.env)).any (·.1)=false:=by rfl) :
  PE X (.Call (.Name x p) (e::es) [] pos) (C_ sp dvs E t):=by
 intro pins s σ H Q I h;refine wpAny_Call_Name_kw (jO I hg hm ?_ hdb);refine W.callWith_K (h₀:=X.base) I.ok.mod.kin hk (thn (ha pos pins s σ H _ I h) λus s1 ⟨vs,H1,I1,r,q⟩=>⟨I1.kIn,?_⟩) he hpl;exact Hr F hr hb hd hx I1 r q
def V8{pl:Sem Bool}(he:PE X o ta)(c:Cls X.K C)(hm:Meth X.K C m f)(F:iZ X.prog X.w X.K X.mg X.base CX k f fd ps sp)(hr:Room k X.A)(hb:Binds X.K fd ps ds)(hd:Vals dvs ds)(hx:Passes CX X E)(ha:PA X (e::es) t)
  (hst:starEach (e::es) X.env=(false,eval e X.env)::starEach es X.env:=by rfl) (hpl:(backTo pos (starEach es X.env)).any (·.1)=false:=by rfl)
  (ht:eval (.Call (.Attribute o m apos) (e::es) [] pos) X.env=(do
   let ov <- eval o X.env
   standAt apos.atName
   let (f,first) <- holding [ov] (getMethod ov m pl)
   callWith pos f first (backTo pos (starEach (e::es) X.env)) (backToKw pos (keywordEach [] X.env))):=by rfl) :
  PE X (.Call (.Attribute o m apos) (e::es) [] pos) (xU C m sp dvs E ta t):=by
 intro pins s σ H Q I h;refine W.methodCall_KW (pl:=pl) (thn (he pins s σ H _ I h) λu s1 ⟨x,H1,I1,rx,a,dx,fs,ex,ea,l,q⟩=>?_) ht;subst ex;obtain rfl:u=Value.ref a:=rx;refine ug I1 ea c hm l ?_;refine W.callWith_K (first:=[.ref a]) (h₀:=X.base) I.ok.mod.kin hm.kp (thn (ha pos pins s1 σ H1 _ I1 q) λus s2 ⟨vs,H2,I2,r,q2⟩=>⟨I2.kIn,?_⟩) hst hpl;exact Hr (us:=.ref a::us) (vs:=.ref a::vs) F hr hb hd hx I2 (.cons rfl r) q2
def Qi{pl:Sem Bool}(he:PE X o ta)(c:Cls X.K C)(hm:Meth X.K C m f)(F:iZ X.prog X.w X.K X.mg X.base CX k f fd ps sp)(hr:Room k X.A)(hb:Binds X.K fd ps ds)(hd:Vals dvs ds)(hx:Passes CX X E)
  (ht:eval (.Call (.Attribute o m apos) [] [] pos) X.env=(do
   let ov <- eval o X.env
   standAt apos.atName
   let (f,first) <- holding [ov] (getMethod ov m pl)
   callWith pos f first (backTo pos (starEach [] X.env)) (backToKw pos (keywordEach [] X.env))):=by rfl) :
  PE X (.Call (.Attribute o m apos) [] [] pos) (xU C m sp dvs E ta nQ):=by
 intro pins s σ H Q I h;refine W.methodCall_KW (pl:=pl) (thn (he pins s σ H _ I h) λu s1 ⟨x,H1,I1,rx,a,dx,fs,ex,ea,l,q⟩=>?_) ht;subst ex;obtain rfl:u=Value.ref a:=rx;refine ug I1 ea c hm l ?_;exact W.callWith_K0 (first:=[.ref a]) I1.kIn hm.kp (Hr (us:=[.ref a]) (vs:=[.ref a]) F hr hb hd hx I1 (.cons rfl .nil) q)
structure Mk(K:W.Frag)(C f:Addr):Prop where
 makes:W.makesIn K C=true
 init:W.findIn K (.ref C) "__init__" = some (some (.ref f))
 fn:W.isFn K (.ref f)=true
 kp:W.keepIn K (.ref C)=true
theorem Qj{pins:pV}{σ:St}{H:Hp}{s:Shared}{Q:VK}{us:xD}{vs:List V}(M:Mk X.K C f)(F:iZ X.prog X.w X.K X.mg X.base CX k f fd ps sp)(hr:Room (k+1) X.A)(hb:Binds X.K fd ps ds)(hd:Vals dvs ds)
  (hx:Passes CX X E) (I:Inv X pins σ H s) (r:Vals vs us)
  (h:∀x dx,H x=none->H dx=none->dx≠x->sp (.ref x::(vs++dvs)) (upd (upd H dx (.own x)) x (.ins C dx [])) (λv H2=>v=.non/\Q (.ref x) H2) E) :
  wpAny (model X.prog X.w) X.A (call (.ref C) us) (EP X pins σ Q) X.xe s:=by
 have hq:=h (s.heap.objs.size+1) s.heap.objs.size (I.hok.fresh (Nat.le_succ _)) (I.hok.fresh (uC _)) (qE (Nat.lt_succ_self _));have I2:=Inv.made (C:=C) I;have r2:Vals (V.ref (s.heap.objs.size+1)::(vs++dvs)) (Value.ref (s.heap.objs.size+1)::(us++ds)):=.cons rfl (r.append hd);have hl:(Value.ref (s.heap.objs.size+1)::us++ds).length=ps.length:=by
  have e:=r2.length;rw[F.len _ _ _ _ hq] at e;exact e.symm
 refine wpAny_call (Qg (f:=f) I.kIn M.makes M.init (beq_iff_eq.mp M.fn) (codeAny_mono (F.run _ X.stack _ _ ⟨Value.ref (s.heap.objs.size+1)::us,[]⟩ (Value.ref (s.heap.objs.size+1)::(us++ds)) _ _ E (hr.make C us [])
  (I2.env0.make C us []) (hb _ (Value.ref (s.heap.objs.size+1)::us) I2.kIn hl) r2 hq) λr s' hq'=>?_))
 cases r with
 | error e=>exact hx pins σ _ _ e s' I2 hq'
 | ok fl =>
  cases fl with
  | ret u =>
   obtain⟨v,H',I3,rv,ev,q3⟩:=I2.after hq';subst ev;exact⟨rv,⟨V.ref (s.heap.objs.size+1),H',I3,rfl,q3⟩⟩
  | next=>exact False.elim hq'
  | brk=>exact False.elim hq'
  | cont=>exact False.elim hq'
end
structure aL(N P:List Str)(sc:Scope):Prop where
 kind:sc.kind=.function
 co:sc.isCoroutine=false
 gen:sc.isGenerator=false
 nd:N.Nodup
 pre:N.take P.length=P
 par:∀x∈P,sc.names.lookup x=some .local\/sc.names.lookup x=some .cell
 ZD:∀y∈sc.names,y.2≠.free
theorem xV{kindOf:Str->Option NameKind}{x:Str}:∀{binds:List (Str×Value)} {m:xC},(∀v,(x,v) ∉ binds)->bindL kindOf binds m x=m x
 | [],_,_=>rfl
 | (n,v)::r,m,h=>by
  unfold bindL;rw[xV λw hw=>h w (zD _ hw)];split
  ·have:x≠n:=by rintro rfl;exact h v zC
   simp[this]
  ·rfl
theorem xW{kindOf:Str->Option NameKind}{x:Str}:∀{binds:List (Str×Value)} {m:xC},(∀v,(x,v) ∉ binds)->bindC kindOf binds m x=m x
 | [],_,_=>rfl
 | (n,v)::r,m,h=>by
  unfold bindC;rw[xW λw hw=>h w (zD _ hw)];split
  ·rfl
  ·have:x≠n:=by rintro rfl;exact h v zC
   simp[this]
theorem xX{kindOf:Str->Option NameKind}{x:Str}{v:Value}:∀{P:List Str} {vs:xD} {i:Nat} {m:xC},P.Nodup->P[i]?=some x->vs[i]?=some v->kindOf x=some .local ->
  bindL kindOf (P.zip vs) m x=some v
 | [],_,_,_,_,h,_,_=>by simp at h
 | _::_,[],_,_,_,_,h,_=>by simp at h
 | p::P,w::vs,0,m,nd,h1,h2,hk=>by
  simp at h1 h2;subst h1;subst h2;show bindL kindOf ((p,w)::P.zip vs) m p=_;unfold bindL;rw[xV λv hv=>(List.nodup_cons.mp nd).1 (List.of_mem_zip hv).1,zS hk];simp
 | p::P,w::vs,i+1,m,nd,h1,h2,hk=>by
  show bindL kindOf ((p,w)::P.zip vs) m x=_;unfold bindL;exact xX (i:=i) (List.nodup_cons.mp nd).2 (by simpa using h1) (by simpa using h2) hk
theorem xY{kindOf:Str->Option NameKind}{x:Str}{v:Value}:∀{P:List Str} {vs:xD} {i:Nat} {m:xC},P.Nodup->P[i]?=some x->vs[i]?=some v->kindOf x≠some .local ->
  bindC kindOf (P.zip vs) m x=some v
 | [],_,_,_,_,h,_,_=>by simp at h
 | _::_,[],_,_,_,_,h,_=>by simp at h
 | p::P,w::vs,0,m,nd,h1,h2,hk=>by
  simp at h1 h2;subst h1;subst h2;show bindC kindOf ((p,w)::P.zip vs) m p=_;unfold bindC;rw[xW λv hv=>(List.nodup_cons.mp nd).1 (List.of_mem_zip hv).1,yA hk];simp
 | p::P,w::vs,i+1,m,nd,h1,h2,hk=>by
  show bindC kindOf ((p,w)::P.zip vs) m x=_;unfold bindC;exact xY (i:=i) (List.nodup_cons.mp nd).2 (by simpa using h1) (by simpa using h2) hk
def start(N:List Str)(vs:List V):St:=vs.map some++List.replicate (N.length-vs.length) none
def gP(CX:CXT)(P:Program)(w:World)(K:W.Frag)(mg:xC)(base:Heap)(N:List Str)(qual:Str)(scope:Scope)(f:Addr)(cd:Value)(A:Around)(outer:List Env)(s:Shared)(H:Hp)(E:XK):Cx where
 prog:=P
 w:=w
 K:=K
 mg:=mg
 base:=base
 A:=A.deeper (envOfC qual scope s.heap.objs.size f cd)
 N:=N
 s₀:=s
 H₀:=H
 env:=envOfC qual scope s.heap.objs.size f cd
 outer:=outer
 stack:=envOfC qual scope s.heap.objs.size f cd::outer
 ex:=[]
 calm:=true
 fn:=λ_=>true
 pn:=[]
 xe:=λe s'=>wpAny (model P w) (A.deeper (envOfC qual scope s.heap.objs.size f cd)) (leaving (envOfC qual scope s.heap.objs.size f cd) e) (λ_ s''=>CX outer H s E e s'') (λe' s''=>CX outer H s E e' s'') s'
def Dc{sc:Scope}{n:Nat}{x:Str}(h:sc.names.lookup x=some .cell):∃c,(cellsFrom n sc.names []).lookup x=some c:=by
 have q:=W.cellsFrom_some sc.names n [] (.inl h);exact Option.isSome_iff_exists.mp q
def M_{CX:CXT}{P:Program}{w:World}{K:W.Frag}{mg:xC}{base:Heap}{N ps:List Str}{qual:Str}{scope:Scope}{f:Addr}{cd:Value}{A:Around}{outer:List Env}{s s1:Shared}{H:Hp}{E:XK}{us:xD}{vs:List V}
  (S:aL N ps scope) (hd:A.handled=none) (e0:wY P w K mg base A outer s H) (hl:vs.length=ps.length) (r:Vals vs us)
  (x:InCallC s s.heap.objs.size (bindL (envOfC qual scope s.heap.objs.size f cd).kindOf (ps.zip us) λ_=>none) (cellsFrom (s.heap.objs.size+1) scope.names []) (bindC (envOfC qual scope s.heap.objs.size f cd).kindOf (ps.zip us) λ_=>none) s1) :
  Inv (gP CX P w K mg base N qual scope f cd A outer s H E) [] (start N vs) H s1:=by
 have hpl:ps.length<=N.length:=by have:=gE List.length S.pre;rw[oQ] at this;lia
 obtain⟨h1,tk,rfl,hk⟩:=x.done;have noA:∀b:Addr,b ∉ (gP CX P w K mg base N qual scope f cd A outer s H E).ex:=λb z=>absurd (show b∈([]:List Addr) from z) (by simp)
 refine⟨⟨e0.mod,S.kind,rfl,rfl,uC _,λy z c h1 h2=>?_,λy hy=>?_,λy c _ h=>?_,λ_=>hd,Around.frames_deeper e0.frames,.inr ⟨rfl,rfl⟩,λb z=>gL z (noA b),e0.bs,e0.bsz,λb _ _=>noA b,λb z=>gL z (noA b),e0.kO,e0.frf⟩,
  rfl,e0.bare,Un.kept hk,⟨_,x.toInCall.ns,λi y v h1 h2 h3=>?_⟩,λy c h=>⟨_,x.cell y c h⟩,e0.hok.fresh (Nat.le_refl _),λy c h=>?_,λp hp=>absurd (show p∈([]:pV) from hp) (by simp),e0.hok.kept hk,?_⟩
 ·exact name_of_addr x.apart (PySem.mem_of_lookup h1) (PySem.mem_of_lookup h2)
 ·have hy:scope.names.lookup y=some .cell\/scope.names.lookup y=some .free:=hy;rcases hy with hy|hy
  ·exact Dc hy
  ·exact gL rfl (S.ZD _ (PySem.mem_of_lookup hy))
 ·exact Nat.le_of_lt (x.above y c (PySem.mem_of_lookup h))
 ·have hi:i<vs.length:=by
   unfold start at h2;by_cases hi:i<vs.length
   ·exact hi
   ·rw[List.getElem?_append_right (by simpa using hi)] at h2;rw[List.getElem?_replicate] at h2;split at h2 <;> cases h2
  have ha:vs[i]?=some v:=by
   unfold start at h2;rw[List.getElem?_append_left (by simpa using hi),List.getElem?_map] at h2;cases e:vs[i]? with
   | none=>rw[e] at h2;cases h2
   | some a=>rw[e] at h2;cases h2;rfl
  obtain⟨u,hu,rv⟩:=r.get ha;have hp:ps[i]?=some y:=by
   rw[<- S.pre,List.getElem?_take_of_lt (by lia)];exact h1
  have ndP:ps.Nodup:=by rw[<- S.pre];exact S.nd.sublist (List.take_sublist _ _)
  refine⟨u,rv,?_⟩;rcases S.par y (yT hp) with k|k
  ·exact .inl ⟨k,xX ndP hp hu k⟩
  ·obtain⟨c,e⟩:=Dc (n:=s.heap.objs.size+1) k;refine .inr ⟨.inl k,c,e,?_⟩;have q:=x.cell y c e;rw[xY ndP hp hu (by show scope.names.lookup y≠_;rw[k];decide)] at q;exact q
 ·exact e0.hok.fresh (Nat.le_of_lt (x.above y c (PySem.mem_of_lookup h)))
 ·unfold start;show _=N.length;rw[yB,wE,mM]
  lia
theorem pC{CX:CXT}{P:Program}{w:World}{K:W.Frag}{mg:xC}{base:Heap}{k:Nat}{f:Addr}{name qual:Str}{params:Arguments}{body:List Stmt}{scope:Scope}{dV kV doc pm cdv ct oc:Value}{an od:xI}
  {osl:Array (Option Value)} {N ps:List Str} {sp:Sp} (lk:K.lookup f=some ⟨oc,od,.func (W.fnOf name qual params body scope dV kV doc pm an cdv ct),osl⟩) (hcd:W.codeIn K cdv qual=true) (S:aL N ps scope)
  (len:∀vs H Q E,sp vs H Q E->vs.length=ps.length)
  (hbody:∀(A:Around)(outer:List Env)(s:Shared)(H:Hp)(vs:List V)(Q:VK)(E:XK),Room k (A.deeper (envOfC qual scope s.heap.objs.size f cdv))->sp vs H Q E ->
   ∃t,PSs (gP CX P w K mg base N qual scope f cdv A outer s H E) body t/\t { nx:=λ_ H'=>Q .non H',rt:=Q } (start N vs) H) :
  iZ P w K mg base CX (k+1) f (W.fnOf name qual params body scope dV kV doc pm an cdv ct) ps sp:=by
 refine⟨len,λA outer s H args us vs Q E hr e0 hb r hsp=>?_⟩;have hl:=len _ _ _ _ hsp;have KX:K.In s.heap:=e0.mod.kin.keeps λb o e=>(e0.bs b o e).1
 have lim:s.heap.NoLimit:=e0.mod.nolimit.keeps λb o e=>(e0.bs b o e).1
 have hkind:∀y∈ps.zip us,scope.names.lookup y.1=some .local\/(scope.names.lookup y.1=some .cell/\((cellsFrom (s.heap.objs.size+1) scope.names []).lookup y.1).isSome=true):=λ⟨n,v⟩ hy=>by
  rcases S.par n (List.of_mem_zip hy).1 with q|q
  ·exact .inl q
  ·exact .inr ⟨q,W.cellsFrom_some _ _ _ (.inl q)⟩
 refine codeAny_call_function hr.depth (KX _ _ lk) rfl S.co S.gen rfl (W.codeRec_of KX hcd) (hb _ _ _ _ ?_);refine wpAny_newFunctionEnv_cells S.kind hkind λenv he s1 x=>?_
 subst he;refine⟨lim.keeps x.toInCall.keep,codeAny_func ?_⟩;obtain⟨t,ht,hq⟩:=hbody A outer s H vs Q E (hr.deeper _) hsp;have I:Inv (gP CX P w K mg base N qual scope f cdv A outer s H E) [] (start N vs) H s1:=M_ S hr.hd e0 hl r x;refine nX (ht [] s1 (start N vs) H _ I hq) (λfl s' hs=>?_) λe s' hs=>hs
 have fin:∀{σ':St} {H':Hp} {v:V} {u:Value},Inv (gP CX P w K mg base N qual scope f cdv A outer s H E) [] σ' H' s'->RelV v u->Q v H'->CE outer P w H s Q u s' :=
  λ{σ' H' v u} J rv q=>⟨v,H',J.os,J.bare,J.base,J.hok,rv,q⟩
 cases fl with
 | ret u =>
  obtain⟨v,σ',H',J,rv,q⟩:=hs;exact fin J rv q
 | next =>
  obtain⟨σ',H',J,q⟩:=hs;exact fin (v:=V.non) (u:=Value.none) J rfl q
 | brk =>
  obtain⟨_,_,_,q⟩:=hs;exact False.elim q
 | cont =>
  obtain⟨_,_,_,q⟩:=hs;exact False.elim q
section
variable{X:Cx}{x:Str}{p pos:Pos}{e:Expr}{es:List Expr}{t:TA}{id T:String}{r:List V->Hp->VK->Prop}
def tCB(r:List V->Hp->VK->Prop)(t:TA):TE:=λσ H Q=>t σ H λvs H1=>r vs H1 Q
def aX(hc:eZ X (.builtin id) r)(hg:Gl X x)(hm:X.mg x=none)(hv:bootBuiltins x=some (.builtin id))(ha:PA X (e::es) t)(hn:x ≠ "__name__":=by decide)(hdb:(x==("__debug__" : Str))=false:=by decide)
  (he:starEach (e::es) X.env=(false,eval e X.env)::starEach es X.env:=by rfl) (hpl:(backTo pos (starEach es X.env)).any (·.1)=false:=by rfl):PE X (.Call (.Name x p) (e::es) [] pos) (tCB r t):=by
 intro pins s σ H Q I h;refine wpAny_Call_Name_kw (iH I hg hm hv ?_ hn hdb);exact PyProof.Rows.callWith_builtin1 (thn (ha pos pins s σ H _ I h) λus s1 ⟨vs,H1,I1,r1,q1⟩=>hc pins s1 σ H1 vs us Q I1 r1 q1) he hpl
def eX(hc:eZ X (.type T) r)(hg:Gl X x)(hm:X.mg x=none)(hv:bootBuiltins x=some (.type T))(ha:PA X (e::es) t)(hn:x ≠ "__name__":=by decide)(hdb:(x==("__debug__" : Str))=false:=by decide)
  (he:starEach (e::es) X.env=(false,eval e X.env)::starEach es X.env:=by rfl) (hpl:(backTo pos (starEach es X.env)).any (·.1)=false:=by rfl):PE X (.Call (.Name x p) (e::es) [] pos) (tCB r t):=by
 intro pins s σ H Q I h;refine wpAny_Call_Name_kw (iH I hg hm hv ?_ hn hdb);exact PyProof.Rows.callWith_type1 (thn (ha pos pins s σ H _ I h) λus s1 ⟨vs,H1,I1,r1,q1⟩=>hc pins s1 σ H1 vs us Q I1 r1 q1) he hpl
end
end L2
namespace HT
open PySem PyProof.Rows
section
open PySem.SeqAt
open PySem.AutoSeq1 (wpAny_loadPart')
open PySem.MeetsSeq PySem.MeetsSeq2 PySem.MeetsSeq3
end
section
variable{prog:Program}{w:World}{A:Around}{E:xB}{s:Shared}
def V9{t b:Addr}{vs ws:xD}{Q:xB}(ht:IsTup s.heap t vs.toArray)(hb:IsTup s.heap b ws.toArray)(hv:vs≠[])
  (h1:ws=[]->Q (.ref t) s) (h2:ws≠[]->Q (.ref s.heap.objs.size) { s with heap:=s.heap.push { cls:=.type "tuple", data:=.seq (vs++ws).toArray } })
  (hsz:vs.length+ws.length<=sizeLine):wpAny (model prog w) A (binaryOp .Add (.ref t) (.ref b)) Q E s:=by
 obtain⟨⟨cls,dd,data,sl⟩,ho,hc,n,hd⟩:=id ht;obtain⟨⟨cls2,dd2,data2,sl2⟩,ho2,hc2,n2,hd2⟩:=id hb;simp only at hc hd hc2 hd2;subst hc hd hc2 hd2;have e:vs.toArray++ws.toArray=(vs++ws).toArray:=by simp
 by_cases hw:ws=[]
 ·exact concat_meets ⟨_,ho,rfl⟩ ⟨_,ho2,rfl⟩ noFill_tuple_add seq_tuple_add PySem.F.slot_tuple_add PySem.F.entry_tuple_add (PySem.F.args_tuple_add_2 _ _)
   (tuple_addW1 t b vs.toArray ws.toArray n n2 dd dd2 sl sl2 (by simpa using hv) (by simp[hw])) ⟨ho,ho2,h1 hw⟩
 ·refine concat_meets ⟨_,ho,rfl⟩ ⟨_,ho2,rfl⟩ noFill_tuple_add seq_tuple_add PySem.F.slot_tuple_add PySem.F.entry_tuple_add (PySem.F.args_tuple_add_2 _ _)
   (tuple_addW2 t b vs.toArray ws.toArray n n2 dd dd2 sl sl2 (by simpa using hv) (by simpa using hw) (by rw[List.size_toArray,List.size_toArray];exact hsz)) ⟨ho,ho2,?_⟩
  rw[e];exact h2 hw
def sIx(n d:Nat):Option Int->Nat
 | none=>d
 | some v=>if v<0 then (v+(n:Int)).toNat else min v.toNat n
def mJ(n d k:Nat):sIx n d (some (k:Int))=min k n:=by
 show (if (k:Int)<0 then ((k:Int)+(n:Int)).toNat else min (k:Int).toNat n)=min k n;rw[yA (by lia),Int.toNat_natCast]
end
end HT
namespace L2
open PySem PySem.Spec PyProof.Rows
abbrev TO:=St->Hp->(Option Int->Hp->Prop)->Prop
def PO(X:Cx)(e:Option Expr)(t:TO):Prop :=
 ∀(pins:pV) (s:Shared) (σ:St) (H:Hp) (Q:Option Int->Hp->Prop),Inv X pins σ H s->t σ H Q ->
  wpAny (model X.prog X.w) X.A (evalPart e X.env) (λu s'=>∃o H',Inv X pins σ H' s'/\IsPart u o/\Q o H') X.xe s
def Aj:TO:=λ_ H Q=>Q none H
def Qk(t:TE):TO:=λσ H Q=>t σ H λx H1=>∃i,x=.int i/\Q (some i) H1
section
variable{X:Cx}{e:Expr}{te:TE}{lo hi:Option Expr}{tl th:TO}{pos p2:Pos}
def eY:PO X none Aj:=by
 intro pins s σ H Q I h;rw[evalPart_none];exact rV ⟨none,H,I,.none,h⟩
def dY(h:PE X e te):PO X (some e) (Qk te):=by
 intro pins s σ H Q I hw;rw[evalPart_some];refine thn (h pins s σ H _ I hw) λu s1 ⟨x,H1,I1,r1,q1⟩=>?_
 obtain⟨i,rfl,q⟩:=q1;obtain⟨t,rfl⟩:=r1;exact⟨some i,H1,I1,.int i t,q⟩
def SlR(X:Cx)(r:V->Option Int->Option Int->Hp->VK->Prop):Prop :=
 ∀(pins:pV) (s:Shared) (σ:St) (H:Hp) (x:V) (v vl vu:Value) (lo hi:Option Int) (sl:Addr) (Q:VK),Inv X pins σ H s->RelV x v->s.heap.IsSliceOf sl vl vu .none->IsPart vl lo->IsPart vu hi->r x lo hi H Q ->
  ∃T id,typeLookup (.type T) "__getitem__" = pure (some (.builtin id))/\s.TypeIs v T/\wpAny (model X.prog X.w) X.A (getItem v (.ref sl)) (EP X pins σ Q) X.xe s
def tSl(r:V->Option Int->Option Int->Hp->VK->Prop)(te:TE)(tl th:TO):TE:=λσ H Q=>te σ H λx H1=>tl σ H1 λl H2=>th σ H2 λu H3=>r x l u H3 Q
def cY{r:V->Option Int->Option Int->Hp->VK->Prop}(hr:SlR X r)(he:PE X e te)(hl:PO X lo tl)(hu:PO X hi th):PE X (.Subscript e (.Slice lo hi none p2) pos) (tSl r te tl th):=by
 intro pins s σ H Q I h;refine Subscript_ (thn (he pins s σ H _ I h) λv s1 ⟨x,H1,I1,r1,q1⟩=>?_);refine wpAny_Slice (thn (hl pins s1 σ H1 _ I1 q1) λvl s2 ⟨l,H2,I2,pl,q2⟩=>thn (hu pins s2 σ H2 _ I2 q2) λvu s3 ⟨u,H3,I3,pu,q3⟩=>?_);rw[evalPart_none];refine rV ?_;have I4:Inv X pins σ H3 { s3 with heap:=s3.heap.push { cls:=.type "slice", data:=.fields #[vl,vu,.none] } }:=I3.kept (t':=s3.toks) λb ob q=>uB _ q
 obtain⟨T,id,hT,ht,hg⟩:=hr pins { s3 with heap:=s3.heap.push { cls:=.type "slice", data:=.fields #[vl,vu,.none] } } σ H3 x v vl vu l u s3.heap.objs.size Q I4 r1 (Heap.IsSliceOf.new ..) pl pu q3
 show wpAny (model X.prog X.w) X.A (subscriptTail e (.Slice lo hi none p2) v (.ref s3.heap.objs.size)) (EP X pins σ Q) X.xe { s3 with heap:=s3.heap.push { cls:=.type "slice", data:=.fields #[vl,vu,.none] } }
 exact tail_any (ops:=[.ref s3.heap.objs.size,v]) ht hT hg (by with_unfolding_all rfl)
def eG(xs:List V)(lo hi:Option Int):List V:=(xs.drop (HT.sIx xs.length 0 lo)).take (HT.sIx xs.length xs.length hi-HT.sIx xs.length 0 lo)
def Dd(xs:List V)(lo hi:Option Int):(eG xs lo hi).length<=xs.length:=by
 unfold eG;rw[oQ,zzA]
 lia
def acD(K:W.Frag):R2:=λx y H Q=>∃a b xs ys,x=.ref a/\y=.ref b/\SqT K H a xs/\SqT K H b ys/\xs≠[]/\xs.length+ys.length<=sizeLine /\
 (ys=[]->Q (.ref a) H)/\(ys≠[]->∀p,H p=none->Q (.ref p) (upd H p (.tup (xs++ys))))
theorem Vals.Ak{xs:List V}{us:xD}(r:Vals xs us):us=[] ↔ xs=[]:=by
 cases r with
 | nil=>simp
 | cons _ _=>simp
def V_:OpR X (binaryOp .Add) (acD X.K):=by
 intro pins s σ H x y v u Q I rx ry h;obtain⟨a,b,xs,ys,rfl,rfl,ha,hb,hx,hz,q1,q2⟩:=h;cases rx;cases ry;obtain⟨its,r1,p1,_⟩:=I.tuple ha;obtain⟨its2,r2,p2,_⟩:=I.tuple hb;refine HT.V9 p1 p2 (λz=>hx (r1.Ak.mp z)) (λz=>⟨.ref a,H,I,rfl,q1 (r2.Ak.mp z)⟩) (λz=>?_) (by rw[<- r1.length,<- r2.length];exact hz);refine⟨.ref s.heap.objs.size,_,I.laid (t':=s.toks) (o:=.tup (xs++ys)) (λb ob q=>uB _ q) (uC _) ?_,rfl,q2 (λw=>z (r2.Ak.mpr w)) _ (I.hok.fresh (uC _))⟩;exact⟨by rw[yB];exact hz,_,r1.append r2,IsTup.new _ _⟩
end
def ixN(n:Nat)(i:Int):Option Nat:=if 0<=i then (if i<n then some i.toNat else none) else if -(n:Int)<=i then some (i+n).toNat else none
def atI{α:Type}(xs:List α)(i:Int):Option α:=(ixN xs.length i).bind λj=>xs[j]?
def JR{n:Nat}{i:Int}{j:Nat}(h:ixN n i=some j):seqIndex? i n=some j/\j<n/\-(n:Int)<=i/\i<n:=by
 unfold ixN at h;by_cases h0:0<=i
 ·rw[zS h0] at h;by_cases h1:i<n
  ·rw[zS h1] at h;have e:i.toNat=j:=nI h;exact⟨by rw[seqIndex_of h0 h1,e],by lia,by lia,h1⟩
  ·rw[yA h1] at h;cases h
 ·rw[yA h0] at h;by_cases h1:-(n:Int)<=i
  ·rw[zS h1] at h;have e:(i+n).toNat=j:=nI h;exact⟨by rw[seqIndex_neg (by lia) h1,e],by lia,h1,by lia⟩
  ·rw[yA h1] at h;cases h
theorem Am{α:Type}{xs:List α}{i:Int}{v:α}(h:atI xs i=some v):∃j,seqIndex? i xs.length=some j/\xs[j]?=some v/\j<xs.length/\-(xs.length:Int)<=i/\i<xs.length:=by
 unfold atI at h;cases e:ixN xs.length i with
 | none=>rw[e] at h;cases h
 | some j =>
  rw[e] at h;obtain⟨h1,h2,h3,h4⟩:=JR e;exact⟨j,h1,h,h2,h3,h4⟩
def cP{α:Type}{xs:List α}{j:Nat}{v:α}(h:xs[j]?=some v):atI xs (j:Int)=some v:=by
 have hj:j<xs.length:=(jS.mp h).1;have e:ixN xs.length (j:Int)=some j:=by
  unfold ixN;rw[if_pos (by lia),if_pos (by lia)];simp
 unfold atI;rw[e];exact h
def Wa(b:Expr):Prop:=∀o i,subscripted b false o i=operate [o,i] (getItem o i)
def IxR(X:Cx)(r:R2):Prop :=
 ∀(value slice:Expr) (pins:pV) (s:Shared) (σ:St) (H:Hp) (x y:V) (v u:Value) (Q:VK),Inv X pins σ H s->RelV x v->RelV y u->r x y H Q ->
  subscripted slice false v u=operate [v,u] (getItem v u)->wpAny (model X.prog X.w) X.A (subscriptTail value slice v u) (EP X pins σ Q) X.xe s
def MtR(X:Cx)(id:String)(r:V->List V->Hp->VK->Prop):Prop :=
 ∀(pins:pV) (s:Shared) (σ:St) (H:Hp) (x:V) (xs:List V) (v:Value) (us:xD) (Q:VK),Inv X pins σ H s->RelV x v->Vals xs us->r x xs H Q ->
  wpAny (model X.prog X.w) X.A (call (.builtin id) (v::us)) (EP X pins σ Q) X.xe s
section
variable{X:Cx}{a b:Expr}{ta tb:TE}{pos:Pos}
def aO{r:R2}(hr:IxR X r)(ha:PE X a ta)(hb:PE X b tb)(hs:Wa b):PE X (.Subscript a b pos) (tOp r ta tb):=by
 intro pins s σ H Q I h;exact Subscript_ (Zr ha hb I h λv u s2 x y H2 I2 rx ry q=>hr a b pins s2 σ H2 x y v u Q I2 rx ry q (hs _ _))
def Ql(K:W.Frag):R2:=λx y H Q=>∃p xs i v,x=.ref p/\y=.int i/\SqL K H p xs/\atI xs i=some v/\Q v H
def Ht(K:W.Frag):R2:=λx y H Q=>∃p xs i v,x=.ref p/\y=.int i/\SqT K H p xs/\atI xs i=some v/\Q v H
def acE:R2:=λx y H Q=>∃z i c,x=.str z/\y=.int i/\z.length<=sizeLine/\atI z.cps.toList i=some c/\Q (.str ⟨#[c]⟩) H
def bH:IxR X (Ql X.K):=by
 intro value slice pins s σ H x y v u Q I rx ry h hs;obtain⟨p,xs,i,z,rfl,rfl,hq,he,q⟩:=h;cases rx;obtain⟨t,rfl⟩:=ry;obtain⟨its,r,pl,hz⟩:=I.list hq;obtain⟨j,h1,h2,h3,h4,h5⟩:=Am he;obtain⟨w,ew,rw'⟩:=r.get h2;have hl:=r.length;have hn:=uf;have fin:EP X pins σ Q w s:=⟨z,H,I,rw',q⟩;by_cases h0:0<=i
 ·have hj:i.toNat=j:=by
   rw[seqIndex_of h0 h5] at h1;exact nI h1
  exact item_listR pl.isList h0 (by lia) (by rw[hj];simpa using ew) fin hs
 ·have hj:(i+(its.toArray.size:Int)).toNat=j:=by
   rw[seqIndex_neg (by lia) h4] at h1;rw[nK,<- hl];exact nI h1
  exact subscriptTail_builtinR (x:=w) pl.isList.typeIs slot_list_getitem.lookup
   (wpAny_getItem_list_neg (Q:=λr s'=>r=w/\EP X pins σ Q r s') pl.isList (by lia) (by rw[List.size_toArray] <;> lia) (by lia) (by rw[hj];simpa using ew) ⟨rfl,fin⟩) hs
def bF:IxR X (Ht X.K):=by
 intro value slice pins s σ H x y v u Q I rx ry h hs;obtain⟨p,xs,i,z,rfl,rfl,hq,he,q⟩:=h;cases rx;obtain⟨t,rfl⟩:=ry;obtain⟨its,r,pl,hz⟩:=I.tuple hq;obtain⟨j,h1,h2,h3,h4,h5⟩:=Am he;obtain⟨w,ew,rw'⟩:=r.get h2;have hl:=r.length;have hn:=uf;have fin:EP X pins σ Q w s:=⟨z,H,I,rw',q⟩;exact subscriptTail_builtinR (x:=w) pl.typeIs slot_tuple_getitem.lookup
  (getItem_tuple (j:=j) (Q:=λr s'=>r=w/\EP X pins σ Q r s') pl (by lia) (by lia) (by rw[List.size_toArray,<- hl];exact h1) (by simpa using ew) ⟨rfl,fin⟩) hs
def Ao:IxR X acE:=by
 intro value slice pins s σ H x y v u Q I rx ry h hs;obtain⟨z,i,c,rfl,rfl,hz,he,q⟩:=h;obtain⟨t,rfl⟩:=rx;obtain⟨t',rfl⟩:=ry;obtain⟨j,h1,h2,h3,h4,h5⟩:=Am he;have hl:z.cps.toList.length=z.length:=by simp[Str.length]
 rw[hl] at h1 h4 h5;have hn:=uf;exact tail_any (typeIs_str s z t) slot_str_getitem.lookup (getItem_str (c:=c) (by
  have e1:decide (i < -(2 ^ 63:Int))=false:=gS (by lia);have e2:decide (i ≥ 2 ^ 63)=false:=gS (by lia);rw[e1,e2,Bool.or_false]) (by rw[h1];simpa using h2) ⟨.str ⟨#[c]⟩,H,I.tok _,⟨_,rfl⟩,q⟩) hs
def Hu(its:xD)(n j:Nat)(u:Value):Obj.mapSeq (·.setIfInBounds j u) { cls:=.type "list", data:=.seq its.toArray n }={ cls:=.type "list", data:=.seq (its.set j u).toArray n }:=by
 simp[Obj.mapSeq]
theorem Inv.lst{pins:pV}{σ:St}{H:Hp}{s:Shared}{p:Addr}{xs:List V}(I:Inv X pins σ H s)(h:H p=some (.lst xs)) :
  ∃(its:xD)(n:Nat),Vals xs its/\s.heap.get? p=some { cls:=.type "list", data:=.seq its.toArray n }/\xs.length<=sizeLine:=by
 obtain⟨z,its,n,r,e⟩:=I.hok p _ h;exact⟨its,n,r,e,z⟩
def Inv.ZF{pins:pV}{σ:St}{H:Hp}{s:Shared}{p:Addr}{xs ys:List V}{its its':xD}{n n':Nat}{f:Obj->Obj}(I:Inv X pins σ H s)(h:H p=some (.lst xs))
  (ho:s.heap.get? p=some { cls:=.type "list", data:=.seq its.toArray n }) (hf:f { cls:=.type "list", data:=.seq its.toArray n }={ cls:=.type "list", data:=.seq its'.toArray n' }) (r:Vals ys its') (hz:ys.length<=sizeLine) (t:Nat) :
  Inv X pins σ (upd H p (.lst ys)) { s with heap:=s.heap.update p f,toks:=t }:=by
 have e:(s.heap.update p f).get? p=some { cls:=.type "list", data:=.seq its'.toArray n' }:=by
  rw[Heap.get?_update_self f ho (by rw[hf] <;> rfl),hf]
 refine I.write (x:=p) (e:=p) (by rw[h];trivial) (.inl rfl) (λb u hb q=>(nN _ _ (Ne.symm hb)).trans q) ⟨_,e⟩ ?_;exact⟨hz,its',n',r,e⟩
def acF:V->V->V->Hp->(Hp->Prop)->Prop:=λo i v H Q=>∃p xs k j,o=.ref p/\i=.int k/\H p=some (.lst xs)/\ixN xs.length k=some j/\Q (upd H p (.lst (xs.set j v)))
def set_list:Zm X acF:=by
 intro pins s σ H o i v ov iv u Q I ro ri rv h;obtain⟨p,xs,k,j,rfl,rfl,hp,hj,q⟩:=h;cases ro;obtain⟨t,rfl⟩:=ri;obtain⟨its,n,r,ho,hz⟩:=I.lst hp;obtain⟨h1,h2,h3,h4⟩:=JR hj;have hl:=r.length;have hn:=uf;have I':Inv X pins σ (upd H p (.lst (xs.set j v))) { s with heap:=s.heap.update p (Obj.mapSeq (·.setIfInBounds j u)) } :=
  I.ZF hp ho (Hu its n j u) (r.set rv j) (by rw[List.length_set];exact hz) s.toks
 by_cases h0:0<=k
 ·have hk:k.toNat=j:=by
   rw[seqIndex_of h0 h4] at h1;exact nI h1
  exact W.ki_setAt ho h0 (by lia) (by rw[nK,<- hl];exact h4) (by rw[hk];exact⟨_,I',q⟩)
 ·have hk:(k+(its.toArray.size:Int)).toNat=j:=by
   rw[seqIndex_neg (by lia) h3] at h1;rw[nK,<- hl];exact nI h1
  exact W.ki_setBack ho (by lia) (by rw[nK,<- hl];exact h3) (by lia) (by rw[hk];exact⟨_,I',q⟩)
def Aq(lo hi:Option Int)(n:Nat):(sliceBounds lo hi none n).1=((HT.sIx n 0 lo:Nat):Int)/\(sliceBounds lo hi none n).2.1=((HT.sIx n n hi:Nat):Int)/\(sliceBounds lo hi none n).2.2=1:=by
 refine⟨?_,?_,rfl⟩
 ·cases lo with
  | none=>simp[sliceBounds,HT.sIx]
  | some i =>
   simp only[sliceBounds,HT.sIx,Option.getD_none,show (1:Int) > 0 by decide,if_true];by_cases h:i<0
   ·simp only[h,if_true] <;> lia
   ·simp only[h,if_false] <;> lia
 ·cases hi with
  | none=>simp[sliceBounds,HT.sIx]
  | some i =>
   simp only[sliceBounds,HT.sIx,Option.getD_none,show (1:Int) > 0 by decide,if_true];by_cases h:i<0
   ·simp only[h,if_true] <;> lia
   ·simp only[h,if_false] <;> lia
def wZ(its:xD)(lo hi:Option Int):slicePick its.toArray lo hi none=((its.drop (HT.sIx its.length 0 lo)).take (HT.sIx its.length its.length hi-HT.sIx its.length 0 lo)).toArray:=by
 obtain⟨h1,h2,h3⟩:=Aq lo hi its.toArray.size;unfold slicePick;rw[h1,h2,h3];simp only[sliceRange_one,pick_run,List.size_toArray] <;> rfl
def agi(K:W.Frag):V->Option Int->Option Int->Hp->VK->Prop:=λx lo hi H Q=>∃a xs,x=.ref a/\SqL K H a xs/\∀p,H p=none->Q (.ref p) (upd H p (.lst (eG xs lo hi)))
def Wb:SlR X (agi X.K):=by
 intro pins s σ H x v vl vu lo hi sl Q I rx hs pl pu h;obtain⟨a,xs,rfl,hx,q⟩:=h;cases rx;obtain⟨its,r,ht,hz⟩:=I.list hx;have hlen:=r.length;refine⟨"list", _,slot_list_getitem.lookup,ht.isList.typeIs,?_⟩;refine wpAny_getItem_list_slice ht.isList hs pl pu .none (by simp) ?_ (by rw[List.size_toArray] <;> lia);rw[wZ,<- hlen];refine⟨.ref s.heap.objs.size,_,I.laid (t':=s.toks) (o:=.lst (eG xs lo hi)) (λb ob q=>uB _ q) (uC _) ?_,rfl,q _ (I.hok.fresh (uC _))⟩;exact⟨rX (Dd xs lo hi) hz,_,0,(r.drop (HT.sIx xs.length 0 lo)).take (HT.sIx xs.length xs.length hi-HT.sIx xs.length 0 lo),oP _ rfl⟩
def m8:V->Bool
 | .non=>true
 | .bl _=>true
 | .int _=>true
 | .str _=>true
 | _=>false
def eqV:V->V->Bool
 | .non,.non=>true
 | .bl a,.bl b=>a==b
 | .bl a,.int b=>(if a then 1 else 0)==b
 | .int a,.bl b=>a==(if b then 1 else 0)
 | .int a,.int b=>a==b
 | .str a,.str b=>a==b
 | _,_=>false
theorem ZG{A:Around}{s:Shared}{y x:V}{u v:Value}(ry:RelV y u)(rx:RelV x v)(fy:m8 y=true)(fx:m8 x=true):SeqAt.EqAt A s u v (eqV y x):=by
 cases y with
 | non =>
  cases ry;cases x with
  | non=>cases rx;exact SeqAt.EqAt.same _
  | bl b=>cases rx;exact SeqAt.EqAt.none_bool b
  | int b=>obtain⟨t,rfl⟩:=rx;exact SeqAt.EqAt.none_int b t
  | str b=>obtain⟨t,rfl⟩:=rx;exact SeqAt.EqAt.none_str b t
  | _=>exact gL (show false=true from fx) vE
 | bl a =>
  cases ry;cases x with
  | non=>cases rx;exact SeqAt.EqAt.bool_none a
  | bl b=>cases rx;exact SeqAt.EqAt.bool_bool a b
  | int b=>obtain⟨t,rfl⟩:=rx;exact SeqAt.EqAt.bool_int a b t
  | str b=>obtain⟨t,rfl⟩:=rx;exact SeqAt.EqAt.bool_str a b t
  | _=>exact gL (show false=true from fx) vE
 | int a =>
  obtain⟨t',rfl⟩:=ry;cases x with
  | non=>cases rx;exact SeqAt.EqAt.int_none a t'
  | bl b=>cases rx;exact SeqAt.EqAt.int_bool a t' b
  | int b=>obtain⟨t,rfl⟩:=rx;exact SeqAt.EqAt.int_int a t' b t
  | str b=>obtain⟨t,rfl⟩:=rx;exact SeqAt.EqAt.int_str a t' b t
  | _=>exact gL (show false=true from fx) vE
 | str a =>
  obtain⟨t',rfl⟩:=ry;cases x with
  | non=>cases rx;exact SeqAt.EqAt.str_none a t'
  | bl b=>cases rx;exact SeqAt.EqAt.str_bool a t' b
  | int b=>obtain⟨t,rfl⟩:=rx;exact SeqAt.EqAt.str_int a t' b t
  | str b=>obtain⟨t,rfl⟩:=rx;exact SeqAt.EqAt.str_str a t' b t
  | _=>exact gL (show false=true from fx) vE
 | _=>exact gL (show false=true from fy) vE
def eqU(x:V)(u:Value):Bool:=match u with
 | .none=>eqV .non x
 | .bool b=>eqV (.bl b) x
 | .int i _=>eqV (.int i) x
 | .str z _=>eqV (.str z) x
 | _=>false
theorem Hv{x y:V}{u:Value}(r:RelV y u)(f:m8 y=true):eqU x u=eqV y x:=by
 cases y with
 | non=>cases r;rfl
 | bl b=>cases r;rfl
 | int i=>obtain⟨t,rfl⟩:=r;rfl
 | str z=>obtain⟨t,rfl⟩:=r;rfl
 | _=>exact gL (show false=true from f) vE
theorem pD{x:V}:∀{xs:List V} {us:xD},Vals xs us->xs.all m8=true->us.any (eqU x)=xs.any λy=>eqV y x
 | _,_,.nil,_=>rfl
 | y::xs,u::us,.cons r t,f=>by
  rw[List.all_cons,Bool.and_eq_true] at f;rw[List.any_cons,List.any_cons,Hv r f.1,pD t f.2]
theorem jA{A:Around}{s:Shared}{x:V}{v:Value}(rx:RelV x v)(fx:m8 x=true):∀{xs:List V} {us:xD},Vals xs us->xs.all m8=true->∀u∈us,SeqAt.EqAt A s u v (eqU x u)
 | _,_,.nil,_=>λu hu=>by cases hu
 | y::xs,u::us,.cons r t,f=>λu' hu=>by
  rw[List.all_cons,Bool.and_eq_true] at f;rcases vS.mp hu with rfl|hu
  ·rw[Hv r f.1];exact ZG r rx f.1 fx
  ·exact jA rx fx t f.2 u' hu
def inV(x:V)(xs:List V):Bool:=xs.any λy=>eqV y x
def rIn(K:W.Frag)(neg:Bool):R2:=λx y H Q=>∃p xs,y=.ref p/\(SqL K H p xs\/SqT K H p xs)/\m8 x=true/\xs.all m8=true/\Q (.bl (if neg then !inV x xs else inV x xs)) H
def qP:OpR X (compareOp .In) (rIn X.K false):=by
 intro pins s σ H x y v u Q I rx ry h;obtain⟨p,xs,rfl,hq,fx,fs,q⟩:=h;cases ry;rcases hq with hq|hq
 ·obtain⟨its,r,pl,hz⟩:=I.list hq;refine SeqAt.in_listAt (eqU x) pl.isList (λw hw=>jA rx fx r fs w (by simpa using hw)) ⟨.bl _,H,I,rfl,?_⟩;rw[show its.toArray.any (eqU x)=its.any (eqU x) by simp,pD r fs];exact q
 ·obtain⟨its,r,pl,hz⟩:=I.tuple hq;refine SeqAt.in_tupleAt (eqU x) pl (λw hw=>jA rx fx r fs w (by simpa using hw)) ⟨.bl _,H,I,rfl,?_⟩;rw[show its.toArray.any (eqU x)=its.any (eqU x) by simp,pD r fs];exact q
def pF:OpR X (compareOp .NotIn) (rIn X.K true):=by
 intro pins s σ H x y v u Q I rx ry h;obtain⟨p,xs,rfl,hq,fx,fs,q⟩:=h;cases ry;rcases hq with hq|hq
 ·obtain⟨its,r,pl,hz⟩:=I.list hq;refine SeqAt.notIn_listAt (eqU x) pl.isList (λw hw=>jA rx fx r fs w (by simpa using hw)) ⟨.bl _,H,I,rfl,?_⟩;rw[show its.toArray.any (eqU x)=its.any (eqU x) by simp,pD r fs];exact q
 ·obtain⟨its,r,pl,hz⟩:=I.tuple hq;refine SeqAt.notIn_tupleAt (eqU x) pl (λw hw=>jA rx fx r fs w (by simpa using hw)) ⟨.bl _,H,I,rfl,?_⟩;rw[show its.toArray.any (eqU x)=its.any (eqU x) by simp,pD r fs];exact q
def Ar:eZ X (.type "list") (λxs H Q=>∃p ys,xs=[.ref p]/\(SqL X.K H p ys\/SqT X.K H p ys)/\∀l,H l=none->Q (.ref l) (upd H l (.lst ys))):=by
 intro pins s σ H xs us Q I r h;obtain⟨p,ys,rfl,hq,q⟩:=h;obtain⟨u,rfl,rx⟩:=vals1 r;cases rx;have fin:∀(its:xD),Vals ys its->ys.length<=sizeLine->∀(h':Heap)(c':Nat),(∀b o',s.heap.get? b=some o'->h'.get? b=some o') ->
   h'.get? s.heap.objs.size=some { cls:=.type "list", dict:=none,data:=.seq its.toArray c',slots:=#[] }->EP X pins σ Q (.ref s.heap.objs.size) { s with heap:=h' }:=λits r' hz h' c' kp e =>
  ⟨.ref s.heap.objs.size,_,I.laid (t':=s.toks) kp (uC _) (show cM X.prog X.w _ h' _ (.lst ys) from⟨hz,its,c',r',e⟩),rfl,q _ (I.hok.fresh (uC _))⟩
 rcases hq with hq|hq
 ·obtain⟨its,r',pl,hz⟩:=I.list hq;have hlen:=r'.length;obtain⟨o,ho,hc,n,hd⟩:=pl.isList;exact call_list_seq p (.inl rfl) ho hc hd (λh' c' kp e=>fin its r' hz h' c' kp e) (by simp only[List.size_toArray] <;> lia)
 ·obtain⟨its,r',pl,hz⟩:=I.tuple hq;have hlen:=r'.length;obtain⟨o,ho,hc,n,hd⟩:=pl;exact call_list_seq p (.inr rfl) ho hc hd (λh' c' kp e=>fin its r' hz h' c' kp e) (by simp only[List.size_toArray] <;> lia)
def xg:eZ X (.type "tuple") (λxs H Q=>∃p ys,xs=[.ref p]/\((SqL X.K H p ys/\∀l,H l=none->Q (.ref l) (upd H l (.tup ys)))\/(SqT X.K H p ys/\Q (.ref p) H))):=by
 intro pins s σ H xs us Q I r h;obtain⟨p,ys,rfl,h⟩:=h;obtain⟨u,rfl,rx⟩:=vals1 r;cases rx;rcases h with⟨hq,q⟩|⟨hq,q⟩
 ·obtain⟨its,r',pl,hz⟩:=I.list hq;have hlen:=r'.length;refine call_tuple_list pl.isList (λh' kp=>?_) (by simp only[List.size_toArray] <;> lia);have I1:Inv X pins σ H { s with heap:=h' }:=I.kept (t':=s.toks) kp
  have I2:Inv X pins σ (upd H h'.objs.size (.tup ys)) { s with heap:=h'.push { cls:=.type "tuple", data:=.seq its.toArray } } :=
   I1.laid (t':=s.toks) (λb o e=>uB _ e) (uC _) (show cM X.prog X.w _ _ _ (.tup ys) from⟨hz,its,r',IsTup.new _ _⟩)
  exact⟨.ref h'.objs.size,_,I2,rfl,q _ (I1.hok.fresh (uC _))⟩
 ·obtain⟨its,r',pl,hz⟩:=I.tuple hq;exact call_tuple_same pl ⟨.ref p,H,I,rfl,q⟩
def tyV(K:W.Frag)(T:String)(x:V)(H:Hp):Prop:=match x with
 | .str _=>T = "str"
 | .int _=>T = "int"
 | .ref p=>(T = "list" /\ ∃xs,SqL K H p xs)\/(T = "tuple" /\ ∃o,K.lookup p=some o/\o.cls=.type "tuple" /\ o.dict=none) \/
   (T = "dict" /\ ((∃kvs,H p=some (.dK kvs))\/∃kvs,H p=some (.dT kvs)))\/(T = "set" /\ ∃S n,H p=some (.set S n))
 | _=>False
theorem ZJ{pins:pV}{σ:St}{H:Hp}{s:Shared}{T:String}{x:V}{v:Value}(I:Inv X pins σ H s)(r:RelV x v)(ty:tyV X.K T x H) :
  s.TypeIs v T/\∀a,v=.ref a->∃ob,s.heap.get? a=some ob/\ob.dict=none:=by
 cases x with
 | str z =>
  obtain⟨t,rfl⟩:=r;cases (show T = "str" from ty);exact⟨typeIs_str s z t,λ_ e=>nomatch e⟩
 | int i =>
  obtain⟨t,rfl⟩:=r;cases (show T = "int" from ty);exact⟨typeIs_int s i t,λ_ e=>nomatch e⟩
 | ref p =>
  cases r;rcases ty with⟨rfl,xs,hq⟩|⟨rfl,o,hk,hc,hd⟩|⟨rfl,hk⟩|⟨rfl,S,n,hk⟩
  ·obtain⟨its,_,pl,_⟩:=I.list hq;refine⟨pl.isList.typeIs,λa e=>?_⟩;cases e;obtain⟨o,n,e,c,hd,_⟩:=pl;exact⟨o,e,hd⟩
  ·refine⟨⟨o,I.kIn p o hk,hc⟩,λa e=>?_⟩;cases e;exact⟨o,I.kIn _ o hk,hd⟩
  ·have z:∃o,s.heap.get? p=some o/\o.ExactDict:=by
    rcases hk with⟨kvs,hk⟩|⟨kvs,hk⟩
    ·obtain⟨_,_,_,_,o,_,_,e,ex,_⟩:=I.hok p _ hk;exact⟨o,e,ex⟩
    ·obtain⟨_,_,_,_,o,_,_,e,ex,_⟩:=I.hok p _ hk;exact⟨o,e,ex⟩
   obtain⟨o,e,ex⟩:=z;refine⟨⟨o,e,ex.1⟩,λa e2=>?_⟩;cases e2;exact⟨o,e,ex.2.1⟩
  ·obtain⟨o,_,_,_,e,ex,_⟩:=I.hok p _ hk;refine⟨⟨o,e,ex.1⟩,λa e2=>?_⟩;cases e2;exact⟨o,e,ex.2.1⟩
 | _=>exact False.elim ty
def tBM(K:W.Frag)(T:String)(r:V->List V->Hp->VK->Prop)(to:TE)(t:TA):TE:=λσ H Q=>to σ H λx H1=>tyV K T x H1/\t σ H1 λxs H2=>r x xs H2 Q
variable{o e:Expr}{es:List Expr}{to:TE}{t:TA}{name:Str}{apos cpos:Pos}{T id:String}{r:V->List V->Hp->VK->Prop}
def JT(pa:PlainAttrs T)(slot:Slot T name id)(hty:typeOf (.builtin id)=pure (.type "method_descriptor"))(hm:MtR X id r)(ho:PE X o to)(ha:PA X (e::es) t)
  (hbase:attributeBase o name X.env (eval o X.env)=eval o X.env:=by rfl)
  (hfew:((backTo cpos (starEach (e::es) X.env)).all (λx=>!x.1) && (backToKw cpos (keywordEach [] X.env)).all (λx=>x.1.isSome)
   && decide ((e::es).length+([]:List Keyword).length+(if ([]:List Keyword).isEmpty then 0 else 1)<30))=true:=by rfl)
  (hline:(apos.endLine==cpos.line)=true:=by rfl) (hs:starEach (e::es) X.env=(false,eval e X.env)::starEach es X.env:=by rfl) (hplain:(backTo cpos (starEach es X.env)).any (·.1)=false:=by rfl) :
  PE X (.Call (.Attribute o name apos) (e::es) [] cpos) (tBM X.K T r to t):=by
 intro pins s σ H Q I h;refine wpAny_Call_method_late hbase hfew hline rfl (thn (ho pins s σ H _ I h) λv s1 ⟨x,H1,I1,r1,ty,q1⟩=>?_);obtain⟨h1,h2⟩:=ZJ I1 r1 ty;refine⟨T,id,pa,slot,hty,h1,h2,?_⟩;have hA:=ha cpos pins s1 σ H1 _ I1 q1;rw[hs] at hA ⊢;refine Calls.callWith_builtin (by show (false || (backTo cpos (starEach es X.env)).any (·.1))=false;rw[hplain] <;> rfl) (Calls.evalArgs_plain ?_);exact thn hA λus s2 ⟨vs,H2,I2,r2,q2⟩=>hm pins s2 σ H2 x vs v us Q I2 r1 r2 q2
end
def MtM(X:Cx)(id:String)(r:V->List V->Hp->VK->Prop):Prop :=
 ∀(pins:pV) (s:Shared) (σ:St) (H:Hp) (x:V) (xs:List V) (v:Value) (us:xD) (Q:VK),Inv X pins σ H s->RelV x v->Vals xs us->r x xs H Q ->
  wpAny (model X.prog X.w) X.A (call (.builtin id) (v::us)) (EP X pins σ Q) X.xe s
theorem Vals.one:∀{x:V} {us:xD},Vals [x] us->∃u,us=[u]/\RelV x u
 | _,_,.cons r .nil=>⟨_,rfl,r⟩
theorem Vals.reverse{xs:List V}{us:xD}(h:Vals xs us):Vals xs.reverse us.reverse:=by
 induction h with
 | nil=>exact .nil
 | cons r t ih=>rw[List.reverse_cons,List.reverse_cons];exact Vals.append ih (.cons r .nil)
theorem Vals.rep{xs:List V}{us:xD}(h:Vals xs us):∀k:Nat,Vals (List.replicate k xs).flatten (List.replicate k us).flatten
 | 0=>.nil
 | k+1=>by
  rw[List.replicate_succ,List.replicate_succ,List.flatten_cons,List.flatten_cons];exact Vals.append h (Vals.rep h k)
theorem foldl_rep(its:xD):∀(k:Nat)(acc:xD),
  List.foldl (λx1 x2=>x1++x2) acc.toArray (List.replicate k its.toArray)=(acc++(List.replicate k its).flatten).toArray
 | 0,acc=>by simp
 | k+1,acc=>by
  have e:acc.toArray++its.toArray=(acc++its).toArray:=by simp
  have e2:(acc++its)++(List.replicate k its).flatten=acc++(List.replicate (k+1) its).flatten:=by
   rw[List.replicate_succ,List.flatten_cons,vF]
  rw[<- e2,<- foldl_rep its k (acc++its),<- e,List.replicate_succ,List.foldl_cons]
section
variable{X:Cx}{pins:pV}{σ:St}{H:Hp}{s:Shared}{l:Addr}{xs ys:List V}
def Inv.acG{its its':xD}{n:Nat}{f:Array Value->Array Value}{t':Nat}(I:Inv X pins σ H s)(hH:H l=some (.lst xs))
  (e:s.heap.get? l=some { cls:=.type "list", data:=.seq its.toArray n }) (hf:f its.toArray=its'.toArray) (hv:Vals ys its') (hz:ys.length<=sizeLine) :
  Inv X pins σ (upd H l (.lst ys)) { s with heap:=s.heap.update l (Obj.mapSeq f),toks:=t' }:=by
 have q:=PySem.IsL.update e f;rw[hf] at q;refine I.write (x:=l) (e:=l) (by rw[hH];exact trivial) (.inl rfl) (λb' u hb hu=>(nN s.heap (Obj.mapSeq f) (Ne.symm hb)).trans hu) ⟨_,q⟩ ?_;exact⟨hz,its',_,hv,q⟩
def Inv.acH{its:xD}{t':Nat}(I:Inv X pins σ H s)(hv:Vals ys its)(hz:ys.length<=sizeLine) :
  Inv X pins σ (upd H s.heap.objs.size (.lst ys)) { s with heap:=s.heap.push { cls:=.type "list", data:=.seq its.toArray },toks:=t' } :=
 I.laid (λ_ _ q=>uB _ q) (uC _) ⟨hz,its,0,hv,oP _ rfl⟩
theorem Inv.fresh(I:Inv X pins σ H s):H s.heap.objs.size=none:=I.hok.fresh (uC _)
def Inv.Hw(I:Inv X pins σ H s)(hH:H l=some (.lst xs)):xs.length<=sizeLine/\∃(its:xD)(n:Nat),Vals xs its/\xs.length=its.length/\s.heap.get? l=some { cls:=.type "list", data:=.seq its.toArray n }:=by
 obtain⟨z,its,n,r,e⟩:=I.hok l _ hH;exact⟨z,its,n,r,r.length,e⟩
def Df{n:Nat}(h:n<=sizeLine):Builtin.List.listTooLong n=false:=by
 unfold Builtin.List.listTooLong;exact gS (by lia)
end
section
variable{X:Cx}
def Wc:V->List V->Hp->VK->Prop:=λx vs H Q=>∃l xs y,x=.ref l/\vs=[y]/\H l=some (.lst xs)/\xs.length<sizeLine/\Q .non (upd H l (.lst (xs++[y])))
def xZ:MtM X "list.append" Wc:=by
 intro pins s σ H x vs v us Q I rx rv h;obtain⟨l,xs,y,rfl,rfl,hH,hz,q⟩:=h;cases rx;obtain⟨u,rfl,ru⟩:=rv.one;obtain⟨z,its,n,r,hl,e⟩:=I.Hw hH;refine call_meets F.slot_list_append ⟨_,e,rfl⟩ F.entry_list_append (F.args_list_append_2 _ _) (PySem.list_append l its.toArray n u (by rw[nK];lia)) ⟨e,?_⟩;refine⟨.non,_,I.acG (its':=its++[u]) hH e (by simp) (r.append (.cons ru .nil)) ?_,rfl,q⟩;rw[yB,List.length_singleton]
 lia
def Wd:V->List V->Hp->VK->Prop:=λx vs H Q=>∃l b xs zs,x=.ref l/\vs=[.ref b]/\H l=some (.lst xs)/\H b=some (.lst zs)/\xs.length+zs.length<=sizeLine/\Q .non (upd H l (.lst (xs++zs)))
def Nb:MtM X "list.extend" Wd:=by
 intro pins s σ H x vs v us Q I rx rv h;obtain⟨l,b,xs,zs,rfl,rfl,hH,hB,hz,q⟩:=h;cases rx;obtain⟨u,rfl,ru⟩:=rv.one;cases ru;obtain⟨z,its,n,r,hl,e⟩:=I.Hw hH;obtain⟨z2,its2,n2,r2,hl2,e2⟩:=I.Hw hB;have hsz:its.toArray.size+its2.toArray.size<=sizeLine:=by rw[nK,nK];lia
 have Qm:¬ (!its.toArray.isEmpty && Builtin.List.listTooLong (its.toArray.size+its2.toArray.size))=true:=by
  rw[Df hsz,Bool.and_false];exact vE
 refine call_meets F.slot_list_extend ⟨_,e,rfl⟩ F.entry_list_extend (F.args_list_extend_2 _ _)
  (AutoSeq1.list_extend_list_list_0 l its.toArray n b its2.toArray n2 Qm (by rw[nK];lia) (by lia)) ⟨e,e2,?_⟩
 refine⟨.non,_,I.acG (its':=its++its2) hH e (by simp) (r.append r2) ?_,rfl,q⟩;rw[yB]
 lia
def agj:R2:=λx y H Q=>∃l b xs zs,x=.ref l/\y=.ref b/\H l=some (.lst xs)/\H b=some (.lst zs)/\xs.length+zs.length<=sizeLine/\∀p,H p=none->Q (.ref p) (upd H p (.lst (xs++zs)))
def ZK:OpR X (binaryOp .Add) agj:=by
 intro pins s σ H x y v u Q I rx ry h;obtain⟨l,b,xs,zs,rfl,rfl,hH,hB,hz,q⟩:=h;cases rx;cases ry;obtain⟨z,its,n,r,hl,e⟩:=I.Hw hH;obtain⟨z2,its2,n2,r2,hl2,e2⟩:=I.Hw hB;refine PySem.P.add_list e e2 ?_ (by rw[nK,nK];lia);have ea:its.toArray++its2.toArray=(its++its2).toArray:=by simp
 rw[ea];exact⟨.ref _,_,I.acH (t':=s.toks) (r.append r2) (by rw[yB];lia),rfl,q _ I.fresh⟩
def agk:R2:=λx y H Q=>∃l k xs,x=.ref l/\y=.int k/\H l=some (.lst xs)/\-(2 ^ 63)<=k/\k<2 ^ 63/\xs.length*k.toNat<=sizeLine /\
 ∀p,H p=none->Q (.ref p) (upd H p (.lst (List.replicate k.toNat xs).flatten))
theorem len_rep{α:Type}(xs:List α)(k:Nat):(List.replicate k xs).flatten.length=k*xs.length:=by
 induction k with
 | zero=>simp
 | succ k ih=>rw[List.replicate_succ,List.flatten_cons,yB,ih,Nat.succ_mul,Nat.add_comm]
def ZL:OpR X (binaryOp .Mult) agk:=by
 intro pins s σ H x y v u Q I rx ry h;obtain⟨l,k,xs,rfl,rfl,hH,h1,h2,hz,q⟩:=h;cases rx;obtain⟨t,rfl⟩:=ry;obtain⟨z,its,n,r,hl,e⟩:=I.Hw hH;have hlen:its.toArray.size*k.toNat<=sizeLine:=by rw[nK,<- hl];exact hz
 have hcap:¬ its.toArray.size*k.toNat > (2 ^ 63-1) / 8:=by
  have:(sizeLine:Nat)<=(2 ^ 63-1) / 8:=by decide
  lia
 have hfit:¬ (!Builtin.List.listFitsIndex k)=true:=by
  rw[fitsIndex_both h1 h2];exact vE
 have Qm:¬ Builtin.List.listTooLong (its.toArray.size*k.toNat)=true:=by
  rw[Df hlen];exact vE
 have hnew:List.foldl (λx1 x2=>x1++x2) #[] (List.replicate (if its.toArray.isEmpty=true then 0 else k.toNat) its.toArray)=(List.replicate k.toNat its).flatten.toArray:=by
  have f0:∀m:Nat,List.foldl (λx1 x2=>x1++x2) #[] (List.replicate m its.toArray)=(List.replicate m its).flatten.toArray:=λm=>by
   have:=foldl_rep its m [];rw[List.nil_append] at this;exact this
  rw[f0];cases its with
  | nil=>simp
  | cons a r'=>rw[if_neg (by simp)]
 refine wpAny_binaryOp_repeat_ref (T := "list") (U := "int") (by decide) ⟨_,e,rfl⟩ (λs'=>typeIs_int s' k t) noFill_list_mul F.fills_int_mul F.slot_int_rmul repeat_list F.slot_int_index.lookup
  (call_meets F.slot_int_rmul (typeIs_int s k t) F.entry_int_rmul (F.args_int_rmul_2 _ _) (int___rmul___int_list k t l its.toArray n)
   ⟨e,rfl,⟨_,e,rfl⟩,call_meets F.slot_list_mul ⟨_,e,rfl⟩ F.entry_list_mul (F.args_list_mul_2 _ _) (AutoListH.list___mul___list_int_3 l its.toArray n k t hfit hcap Qm) ⟨e,?_⟩⟩)
 rw[hnew];exact⟨.ref _,_,I.acH (t':=s.toks) (r.rep k.toNat) (by rw[len_rep,Nat.mul_comm];exact hz),rfl,q _ I.fresh⟩
end
end L2
namespace Att
open PySem PySem.W PySem.Calls PyProof.Rows
theorem sZ{P:Params}{h:Heap}:∀(ns:List Int)(vs:xD),WellAll P h vs (ns.map WData.int)->IntsAre vs ns:=by
 intro ns
 induction ns with
 | nil =>
  intro vs w;rw[List.map_nil] at w;cases w;exact .nil
 | cons n ns ih =>
  intro vs w;rw[oS] at w;cases w with
  | cons a b =>
   cases a;exact .cons _ _ (ih _ b)
theorem Nf{l:OpenLaw}{n:Nat}(hn:l.most=some n){P:Params}{h:Heap}{args:List WData}{vals:xD}
  (hpre:l.row.toRowW.claim.pre args=true) (hwl:WellAll P h vals args) :
  ∃a vs ns,vals=[Value.ref a]/\args=[WData.list (ns.map WData.int)]/\h.get? a=some { cls:=.type "list", data:=.seq vs.toArray }/\IntsAre vs ns/\ns.length<=n:=by
 have hsh:WShape.hasAll [] args [.list .int]=true:=(pre_splitW hpre).1;have hc:l.pre.holds [] { args:=args }=true:=(pre_splitW hpre).2;obtain⟨d,r,rfl,h1,h2⟩:=hasAllW_cons hsh;obtain rfl:=hasAllW_nil h2;obtain⟨xs,rfl,h3⟩:=hasW_list h1;obtain⟨ns,rfl⟩:=items_int h3;have hlen:ns.length<=n:=by
  unfold OpenLaw.pre at hc;have h4:(WTm.not (.lt (.lit (.int (n:Int))) (.len (.arg 0)))).holds [] { args:=[.list (ns.map .int)] }=true:=by
   have h4:=(holds_andW hc).1;rw[hn] at h4;exact h4
  have h5:=condW_of h4 (w_not (w_lt w_lit (w_len_list (w_arg rfl))));rw[wE] at h5;refine Nat.le_of_not_lt λq=>?_
  have q':(n:Int)<((ns.length:Nat):Int):=by lia
  first
   | (rw[gX q'] at h5;exact gL h5 (by decide))
   | (simp at h5;lia)
 cases hwl with
 | cons w1 w2 =>
  cases w2;cases w1 with
  | list ho hall=>exact⟨_,_,ns,rfl,rfl,ho,sZ ns _ hall,hlen⟩
def Ng(l:OpenLaw)(args:List WData):l.row.toRowW.claim.post args (.bool true) args=true :=
 postW_of (r:=l.row.toRowW) (X:=(true==true))
  (show WShape.has [] (.bool true) .bool=true by first|rfl|decide|simp[WShape.has,WShape.arms,WShape.armsAll])
  (show (WTm.eq .res (.lit (.bool true))).value [] { args:=args,res:=some (.bool true),after:=args }=some (.bool (true==true)) from w_eq_bool (w_res rfl) w_lit) rfl
def Dg{l:OpenLaw}{n:Nat}{q:Program}{loose:List Str}{XP:(Str->Option Value)->Heap->Prop}{YP:World->Heap->Prop}{d:DefRec}
  (hn:l.most=some n) (hdf:d.params.defaults=[])
  (call:∀(w:World)(s₀ s₁:Shared)(mg mb:xC)(fa:Addr)(o:Obj)(pm cd doc:Value)(a:Addr)(vs:xD)(ns:List Int),
   Ground q loose [] XP w s₀ mg mb s₁.heap->YP w s₁.heap ->
   s₁.heap.get? fa=some o->o.data=.func (docDef d.name d.params d.body d.scope pm cd doc)->s₁.heap.CodeRec cd d.name->mg d.name=some (.ref fa) ->
   s₁.heap.get? a=some { cls:=.type "list", data:=.seq vs.toArray }->IntsAre vs ns->ns.length<=n->s₁.gens=#[] ->
   codeAny (model l.prog w) callerA (.call (.ref fa) ⟨[.ref a],[]⟩) (λr s'=>r=.ok (.ret (.bool true))/\OldK s₁.heap s'.heap/\s'.os=s₁.os/\AllBare s'.gens) s₁) :
  WalkO q loose XP YP l.row.toRowW d [] (λf vs=>PySem.call f vs):=by
 intro w s₀ s₁ mg mb G Y fa o pm cd doc dV kV ho hd hcd hD hmg hg args vals as hpre hlay hrd hwl hlo;obtain rfl:dV=.none:=Dflts.none hD hdf;obtain rfl:kV=.none:=Dflts.noKw hD;obtain⟨a,vs,ns,rfl,rfl,hobj,hints,hlen⟩:=Nf hn hpre hwl;refine enter_call (codeAny_mono (call w s₀ s₁ mg mb fa o pm cd doc a vs ns G Y ho (fd_plain hd) hcd hmg hobj hints hlen hg) λr s' hq=>?_);obtain⟨rfl,h2,h3,h4⟩:=hq;exact⟨.inl ⟨.bool true,.bool true,[],rfl,λ_=>rfl,.bool true,Ng l _,λ_=>⟨List.Pairwise.nil,λ_ hm=>(nomatch hm)⟩⟩,h2,h3,h4⟩
end Att
namespace L2
open PySem PySem.Spec PyProof.Rows
theorem yd:∀{vs:xD} {ns:List Int},IntsAre vs ns->Vals (ns.map V.int) vs
 | _,_,.nil=>.nil
 | _,_,.cons n t h=>.cons ⟨t,rfl⟩ (yd h)
abbrev KOf{K:W.Frag}{h:Heap}(_:K.In h):W.Frag:=K
def inClass(s:Stmt)(j:Nat):Stmt:=match s with
 | .ClassDef _ _ _ body _ _ _ _ _ _ _=>body.getD j (.Pass ⟨0,0,0,0⟩)
 | _=>.Pass ⟨0,0,0,0⟩
def b_(s:Stmt):Arguments:=match s with
 | .FunctionDef _ a _ _ _ _ _ _ _ _=>a
 | _=>{ posonlyargs:=[],args:=[],vararg:=none,kwonlyargs:=[],kw_defaults:=[],kwarg:=none,defaults:=[] }
def bI(s:Stmt):List Stmt:=match s with
 | .FunctionDef _ _ b _ _ _ _ _ _ _=>b
 | _=>[]
def aC(s:Stmt):Scope:=match s with
 | .FunctionDef _ _ _ _ _ _ sc _ _ _=>sc
 | _=>{ kind:=.function,names:=[],isGenerator:=false,isCoroutine:=false }
abbrev CX0:CXT:=λ_ _ _ _ _ _=>False
abbrev E0:XK:=λ_ _ _=>False
def yg{X:Cx}:Passes CX0 X E0:=λ_ _ _ _ _ _ _ h=>h.elim
structure Fun(K:W.Frag)(x qual:Str)(st:Stmt)(f:Addr)(fd:FuncData):Prop where
 ex:∃(oc:Value) (od:xI) (kV doc pm:Value) (an:xI) (cdv ct:Value) (osl:Array (Option Value)),
  fd=W.fnOf x qual (b_ st) (bI st) (aC st) .none kV doc pm an cdv ct/\K.lookup f=some ⟨oc,od,.func fd,osl⟩/\W.codeIn K cdv qual=true
 kp:W.keepIn K (.ref f)=true
section
variable{P:Program}{w:World}{K:W.Frag}{mg:xC}{base:Heap}
def Fun.ok{x qual:Str}{st:Stmt}{f:Addr}{fd:FuncData}{N ps:List Str}{k:Nat}{sp:Sp}(F:Fun K x qual st f fd)(S:aL N ps (aC st))(len:∀vs H Q E,sp vs H Q E->vs.length=ps.length)
  (hbody:∀(cdv:Value)(A:Around)(outer:List Env)(s:Shared)(H:Hp)(vs:List V)(Q:VK)(E:XK),Room k (A.deeper (envOfC qual (aC st) s.heap.objs.size f cdv))->sp vs H Q E ->
   ∃t,PSs (gP CX0 P w K mg base N qual (aC st) f cdv A outer s H E).nox (bI st) t/\t { nx:=λ_ H'=>Q .non H',rt:=Q } (start N vs) H):iZ P w K mg base CX0 (k+1) f fd ps sp:=by
 obtain⟨oc,od,kV,doc,pm,an,cdv,ct,osl,rfl,lk,hcd⟩:=F.ex;refine pC lk hcd S len λA outer s H vs Q E hr hsp=>?_
 obtain⟨t,h,q⟩:=hbody cdv A outer s H vs Q E hr hsp;exact⟨t,h.nox,q⟩
def Fun.binds{x qual:Str}{st:Stmt}{f:Addr}{fd:FuncData}{ps:List Str}(F:Fun K x qual st f fd)
  (h:∀(kV doc pm:Value)(an:xI)(cdv ct:Value)(us:xD),us.length=ps.length->bindArgs (W.fnOf x qual (b_ st) (bI st) (aC st) .none kV doc pm an cdv ct) ⟨us,[]⟩=pure (ps.zip us)):Binds K fd ps []:=by
 obtain⟨oc,od,kV,doc,pm,an,cdv,ct,osl,rfl,lk,hcd⟩:=F.ex;exact .all (h kV doc pm an cdv ct)
def qQ{x qual:Str}{st:Stmt}{f:Addr}{oc:Value}{od an:xI}{osl:Array (Option Value)}{kV doc pm cdv ct:Value}(l:K.lookup f=some ⟨oc,od,.func (W.fnOf x qual (b_ st) (bI st) (aC st) .none kV doc pm an cdv ct),osl⟩)
  (c:W.codeIn K cdv qual=true) (k:W.keepIn K (.ref f)=true):Fun K x qual st f (W.fnOf x qual (b_ st) (bI st) (aC st) .none kV doc pm an cdv ct):=⟨⟨oc,od,kV,doc,pm,an,cdv,ct,osl,rfl,l,c⟩,k⟩
end
section
variable{X:Cx}
def pv(i:Nat){x:Str}{pos:Pos}(hN:X.N[i]?=some x:=by rfl)(hv:Vis X.env.scope x:=by first|exact Or.inl rfl|exact Or.inr (Or.inl rfl)|exact Or.inr (Or.inr rfl))(hd:(x==("__debug__" : Str))=false:=by decide)
  (hcd:(x==("__classdict__" : Str))=false:=by decide):PE X (.Name x pos) (cR i):=Zg hN hv hd hcd
end
def acI{A B:Prop}(h:B):if false=true then A else B:=by
 rw[yA vE];exact h
def acJ{A B:Prop}(h:A):if true=true then A else B:=by
 rw[zS rfl];exact h
def Same(H H':Hp):Prop:=∀b o,H b=some o->H' b=some o
def Same.refl(H:Hp):Same H H:=λ_ _ h=>h
def Same.trans{H H1 H2:Hp}(a:Same H H1)(b:Same H1 H2):Same H H2:=λc o h=>b c o (a c o h)
theorem Same.free{H H':Hp}(e:Same H H'){l:Addr}(h:H' l=Option.none):H l=Option.none:=by
 cases q:H l with
 | none=>rfl
 | some o =>
  rw[e l o q] at h;cases h
def Same.seq{K:W.Frag}{H H':Hp}{a:Addr}{xs:List V}(e:Same H H')(h:SqL K H a xs):SqL K H' a xs:=by
 rcases h with(h|⟨o,h⟩)|h
 ·exact .inl (.inl (e _ _ h))
 ·exact .inl (.inr ⟨o,e _ _ h⟩)
 ·exact .inr h
section
variable{κ:Type}[DecidableEq κ]
def Qn(kvs:List (κ×V))(k:κ):Option V:=(kvs.find? λkv=>decide (kv.1=k)).map (·.2)
def putK(kvs:List (κ×V))(k:κ)(v:V):List (κ×V) :=
 if (kvs.any λkv=>decide (kv.1=k))=true then kvs.map (λkv=>if kv.1=k then (kv.1,v) else kv) else kvs++[(k,v)]
def acK{p:κ×V}{r:List (κ×V)}{k:κ}(e:p.1=k):Qn (p::r) k=some p.2:=by simp[Qn,List.find?_cons,e]
end
def acL(H:Hp)(a:Addr)(y:V)(r:Option V):Prop :=
 (∃kvs k,Rd H a (.dK kvs)/\y=kV k/\r=Qn kvs k)\/∃kvs k b,Rd H a (.dT kvs)/\y=.ref b/\H b=some (.tup (k.map kV))/\r=Qn kvs k
def acM(H:Hp)(a:Addr)(y v:V)(H':Hp):Prop :=
 (∃kvs k,H a=some (.dK kvs)/\y=kV k/\kvs.length<sizeLine/\H'=upd H a (.dK (putK kvs k v))) \/
 ∃kvs k b,H a=some (.dT kvs)/\y=.ref b/\H b=some (.tup (k.map kV))/\kvs.length<sizeLine/\H'=upd H a (.dT (putK kvs k v))
theorem acL.k{H:Hp}{a:Addr}{kvs:List (Key×V)}{k:Key}(e:H a=some (.dK kvs)):acL H a (kV k) (Qn kvs k):=.inl ⟨kvs,k,.inl e,rfl,rfl⟩
theorem acM.k{H:Hp}{a:Addr}{kvs:List (Key×V)}{k:Key}{v:V}(e:H a=some (.dK kvs))(hl:kvs.length<sizeLine):acM H a (kV k) v (upd H a (.dK (putK kvs k v))):=.inl ⟨kvs,k,e,rfl,hl,rfl⟩
section
variable{X:Cx}{pins:pV}{σ:St}{H:Hp}{s:Shared}
def Inv.big(I:Inv X pins σ H s):sysModules<s.heap.objs.size:=by
 have h:mainGlobals<s.heap.objs.size:=(I.mod.glob.keeps I.bk).lt;exact Nat.lt_trans (by decide) h
end
def Qo{P:Program}{w:World}{H:Hp}(h:Heap)(hb:sysModules<h.objs.size):cM P w H (h.push { cls:=.type "dict", data:=.dict #[] }) h.objs.size (.dK []) :=
 ⟨Nat.zero_le _,beq_eq_false_iff_ne.mpr (Ne.symm (qE hb)),[],.nil,Heap.DictOf.new h⟩
def Hx:TE:=λ_ H Q=>∀p,H p=none->Q (.ref p) (upd H p (.dK []))
section
variable{X:Cx}{pos:Pos}
def Dh:PE X (.Dict [] [] pos) Hx:=λpins s σ H Q I h =>
 wpAny_Dict_empty ⟨.ref s.heap.objs.size,_,I.laid (a:=s.heap.objs.size) (o:=.dK []) (t':=s.toks) (λ_ _ q=>uB _ q) (uC _) (Qo s.heap I.big),rfl,h _ (I.hok.fresh (uC _))⟩
end
end L2
set_option maxHeartbeats 4000000
namespace L2
open PySem PySem.Spec PyProof.Rows
section
variable{P:Program}{w:World}{K:W.Frag}{mg:xC}{base:Heap}{CX:CXT}{x:Str}{ps:List Str}{sp:Sp}{k:Nat}
structure Def(P:Program)(w:World)(K:W.Frag)(mg:xC)(base:Heap)(CX:CXT)(k:Nat)(x:Str)(ps:List Str)(sp:Sp):Prop where
 ex:∃(f:Addr)(fd:FuncData),iZ P w K mg base CX k f fd ps sp/\mg x=some (.ref f)/\W.keepIn K (.ref f)=true/\Binds K fd ps []
def HasDef(K:W.Frag)(mg:xC)(x:Str)(st:Stmt):Prop:=∃(f:Addr)(fd:FuncData),Fun K x x st f fd/\mg x=some (.ref f)
def HasDef.mk{st:Stmt}{f:Addr}{oc:Value}{od an:xI}{osl:Array (Option Value)}{kV doc pm cdv ct:Value}(m:mg x=some (.ref f))
  (l:K.lookup f=some ⟨oc,od,.func (W.fnOf x x (b_ st) (bI st) (aC st) .none kV doc pm an cdv ct),osl⟩)
  (c:W.codeIn K cdv x=true) (k:W.keepIn K (.ref f)=true):HasDef K mg x st:=⟨f,_,qQ l c k,m⟩
def ZM{st:Stmt}{N:List Str}(h:HasDef K mg x st)(S:aL N ps (aC st))(len:∀vs H Q E,sp vs H Q E->vs.length=ps.length)
  (hb:∀(kV doc pm:Value)(an:xI)(cdv ct:Value)(us:xD),us.length=ps.length->bindArgs (W.fnOf x x (b_ st) (bI st) (aC st) .none kV doc pm an cdv ct) ⟨us,[]⟩=pure (ps.zip us))
  (hbody:∀(f:Addr)(cdv:Value)(A:Around)(outer:List Env)(s:Shared)(H:Hp)(vs:List V)(Q:VK)(E:XK),Room k (A.deeper (envOfC x (aC st) s.heap.objs.size f cdv))->sp vs H Q E ->
   ∃t,PSs (gP CX P w K mg base N x (aC st) f cdv A outer s H E).nox (bI st) t/\t { nx:=λ_ H'=>Q .non H',rt:=Q } (start N vs) H):Def P w K mg base CX (k+1) x ps sp:=by
 obtain⟨f,fd,F,m⟩:=h;refine⟨f,fd,?_,m,F.kp,F.binds hb⟩;obtain⟨oc,od,kV,doc,pm,an,cdv,ct,osl,rfl,lk,hcd⟩:=F.ex;refine pC lk hcd S len λA outer s H vs Q E hr hsp=>?_
 obtain⟨t,h,q⟩:=hbody f cdv A outer s H vs Q E hr hsp;exact⟨t,h.nox,q⟩
end
section
variable{X:Cx}{CX:CXT}{k m:Nat}{x:Str}{ps:List Str}{sp:Sp}{E:XK}{p pos:Pos}{e:Expr}{es:List Expr}{t:TA}
def aK(D:Def X.prog X.w X.K X.mg X.base CX k x ps sp)(hr:Room m X.A)(ha:PA X (e::es) t)(hk:k<=m:=by decide)(hx:Passes CX X E:=by exact yg)(hg:Gl X x:=by rfl)
  (hdb:(x==("__debug__" : Str))=false:=by decide) (he:starEach (e::es) X.env=(false,eval e X.env)::starEach es X.env:=by rfl) (hpl:(backTo pos (starEach es X.env)).any (·.1)=false:=by rfl) :
  PE X (.Call (.Name x p) (e::es) [] pos) (C_ sp [] E t):=by
 obtain⟨f,fd,F,hm,kp,b⟩:=D.ex;exact V7 F (hr.mono hk) hg hm kp b .nil hx ha hdb he hpl
end
def nR(mg:xC)(x:Str)(v:V):Prop:=∃u,mg x=some u/\RelV v u
def uh{X:Cx}{x:Str}{v:V}{pos:Pos}(h:nR X.mg x v)(hg:Gl X x:=by rfl)(hd:(x==("__debug__" : Str))=false:=by decide):PE X (.Name x pos) (tC v) :=
 let ⟨_,e,r⟩:=h
 VR hg e r hd
section
variable{X:Cx}{T:String}{pos:Pos}
def je{x:Str}(hg:Gl X x)(hm:X.mg x=none)(hv:bootBuiltins x=some (.type T))(hn:x ≠ "__name__":=by decide)(hd:(x==("__debug__" : Str))=false:=by decide):PE X (.Name x pos) (tC (.ty T)) :=
 V1 hg hm hv rfl hn hd
def rR(K:W.Frag)(t:Value):V->Option Bool
 | .ty T=>W.kitOne K t (.type T)
 | .ref C=>W.kitOne K t (.ref C)
 | _=>none
theorem call_isinstance:eZ X (.builtin "isinstance") (λxs H Q=>∃x c t b,xs=[x,c]/\dj X.K H x t/\rR X.K t c=some b/\Q (.bl b) H):=by
 intro pins s σ H xs us Q I r h;obtain⟨x,c,t,b,rfl,ty,e,q⟩:=h;obtain⟨u,v,rfl,ru,rv⟩:=vals2 r;cases c with
 | ty T =>
  obtain rfl:v=Value.type T:=rv;exact xT I ru ty e λtk=>⟨.bl b,H,I.tok _,rfl,q⟩
 | ref C =>
  obtain rfl:v=Value.ref C:=rv;exact xT I ru ty e λtk=>⟨.bl b,H,I.tok _,rfl,q⟩
 | _=>cases e
end
section
variable{X:Cx}
theorem uo:∀{bs:xE} {us:xD},Vals (bs.map V.bl) us->LSm.BoolsAre us bs
 | [],_,.nil=>.nil
 | b::bs,_,.cons r t=>by
  cases (show _=Value.bool b from r);exact .cons b (uo t)
def Di(hc:X.calm=true):eZ X (.builtin "all") (λxs H Q=>∃(p:Addr)(bs:xE),xs=[.ref p]/\SqL X.K H p (bs.map V.bl)/\Q (.bl (bs.all id)) H):=by
 intro pins s σ H xs us Q I r h;obtain⟨p,bs,rfl,hq,q⟩:=h;obtain⟨u,rfl,rx⟩:=vals1 r;cases rx;obtain⟨its,rv,pl,hz⟩:=I.list hq;have hb:=uo rv;have hl:=pl.isList;have hlt:p<s.heap.objs.size:=by obtain⟨_,e,_⟩:=hl;exact uA e
 refine call_all_walk (wpAny_pyIter_list hl ?_);refine⟨s.heap.objs.size,[s.heap.objs.size,p],[s.heap.objs.size],its.toArray.size,_,_,λi=>(bs[i]?).getD true,rfl,Walks.list (A:=X.A.in1) (I.ok.hd hc) _ p (qE hlt) its.toArray,
  ⟨⟨_,oP _ rfl,rfl,rfl⟩,hl.push _⟩,λi v s' Q' E' hP hQ=>?_,λh' tk hk=>?_⟩
 ·obtain⟨b,e,rfl⟩:=hb.get i v (by simpa using hP);simp only[e,Option.getD_some] at hQ;exact wpAny_truthy_bool hQ
 ·have e:((List.range its.toArray.size).all λi=>(bs[i]?).getD true)=bs.all id:=by
   rw[nK,hb.length];exact LSm.range_all bs
  rw[e];exact⟨.bl _,H,I.kept (LSm.kept_iter hk),rfl,q⟩
end
section
variable{X:Cx}
def Hy:OpR X (compareOp .In) (λx y H Q=>∃c j,x=.str ⟨#[c]⟩/\y=.str j/\Q (.bl (decide (c∈j.cps.toList))) H):=by
 intro pins s σ H x y v u Q I rx ry h;obtain⟨c,j,rfl,rfl,q⟩:=h;obtain⟨t,rfl⟩:=rx;obtain⟨t',rfl⟩:=ry;exact in_str (cj I q (PySem.StrLaws.found_one j c).symm)
def Its(z:Str):It:=⟨λi _=>i<z.cps.size,λi H x H'=>H'=H/\∃c,z.cps[i]?=some c/\x=.str ⟨#[c]⟩,λi _=>z.cps.size<=i⟩
section
variable{P:Program}{w:World}{K:W.Frag}{tg:Expr}
def Nh(it:Addr)(z:Str)(t:Tok):Turn P w K tg (Its z) [it] it (λi h=>h.IsStrIter it "str_ascii_iterator" z t i) where
 mem:=by simp
 obj:=λi h st b hb=>by
  have e:b=it:=by simpa using hb
  subst e;obtain⟨o,e,c,d⟩:=st;exact⟨o,e,λv z=>by rw[d] at z;cases z⟩
 keep:=λi h h' st k=>let ⟨o,e,r⟩:=st;⟨o,k it (by simp) o e,r⟩
 item:=by
  intro X hP hw hK hc i pins s σ H E I hf st hg;subst hP hw hK;obtain⟨f0,f1,f2,f3,f4,f5⟩:=hf it (by simp);have hi:i<z.cps.size:=hg;refine wpAny_pyNext_ascii_item st (c:=z.cps[i]) (by simp[hi]) λh' st' sb=>?_
  have I1:Inv X pins σ H { s with heap:=h',toks:=s.toks+1 }:=I.turned (λb o hb e=>sb.extBut b o hb e) f0 f1 f3 f4 f5
  obtain⟨o,e,c,d⟩:=id st';exact⟨_,rfl,CV (s:={ s with heap:=h',toks:=s.toks+1 }) e c d (by decide) ⟨.str ⟨#[z.cps[i]]⟩,H,I1,⟨_,rfl⟩,⟨rfl,z.cps[i],by simp[hi],rfl⟩,st',λb hb=>(hf b hb).1⟩⟩
 done:=by
  intro X hP hw hK hc i pins s σ H E I hf st hg;subst hP hw hK;obtain⟨f0,f1,f2,f3,f4,f5⟩:=hf it (by simp);have hi:z.cps.size<=i:=hg;exact wpAny_pyNext_ascii_end (I.ok.hd hc) st (by simp[hi]) λh' eb=>⟨rfl,I.turned (t':=s.toks) (λb o hb e=>eb b o hb e) f0 f1 f3 f4 f5⟩
 self:=λ_ _ _ _ _ st h=>wpAny_pyIter_striter_ascii st h
def Ni(it:Addr)(z:Str)(t:Tok):Turn P w K tg (Its z) [it] it (λi h=>h.IsStrIter it "str_iterator" z t i) where
 mem:=by simp
 obj:=λi h st b hb=>by
  have e:b=it:=by simpa using hb
  subst e;obtain⟨o,e,c,d⟩:=st;exact⟨o,e,λv z=>by rw[d] at z;cases z⟩
 keep:=λi h h' st k=>let ⟨o,e,r⟩:=st;⟨o,k it (by simp) o e,r⟩
 item:=by
  intro X hP hw hK hc i pins s σ H E I hf st hg;subst hP hw hK;obtain⟨f0,f1,f2,f3,f4,f5⟩:=hf it (by simp);have hi:i<z.cps.size:=hg;refine wpAny_pyNext_wide_item st (c:=z.cps[i]) (by simp[hi]) λh' st' sb=>?_
  have I1:Inv X pins σ H { s with heap:=h',toks:=s.toks+1 }:=I.turned (λb o hb e=>sb.extBut b o hb e) f0 f1 f3 f4 f5
  obtain⟨o,e,c,d⟩:=id st';exact⟨_,rfl,CV (s:={ s with heap:=h',toks:=s.toks+1 }) e c d (by decide) ⟨.str ⟨#[z.cps[i]]⟩,H,I1,⟨_,rfl⟩,⟨rfl,z.cps[i],by simp[hi],rfl⟩,st',λb hb=>(hf b hb).1⟩⟩
 done:=by
  intro X hP hw hK hc i pins s σ H E I hf st hg;subst hP hw hK;obtain⟨f0,f1,f2,f3,f4,f5⟩:=hf it (by simp);have hi:z.cps.size<=i:=hg;exact wpAny_pyNext_wide_end (I.ok.hd hc) st (by simp[hi]) λh' eb=>⟨rfl,I.turned (t':=s.toks) (λb o hb e=>eb b o hb e) f0 f1 f3 f4 f5⟩
 self:=λ_ _ _ _ _ st h=>wpAny_pyIter_striter_wide st h
end
def acN(tl:TE):TI:=λσ H R=>tl σ H λx H1=>∃z,x=.str z/\R (Its z) H1
def ZP{tg l:Expr}{tl:TE}(hl:PE X l tl):PI X tg l (acN tl):=by
 intro pins s σ H R I h;refine thn (hl pins s σ H _ I h) λv s1 ⟨x,H1,I1,r1,q1⟩=>?_
 obtain⟨z,e,q⟩:=q1;subst e;obtain⟨t,rfl⟩:=r1;have fp:∀(b:Addr),b∈[s1.heap.objs.size]->gZ X pins H1 b:=λb hb=>by
  have e:b=s1.heap.objs.size:=by simpa using hb
  subst e;exact I1.CT (uC _) (I1.hok.fresh (uC _))
 cases ha:z.cps.all (· < 128)
 ·exact wpAny_pyIter_wide ha ⟨s1.heap.objs.size,[s1.heap.objs.size],_,_,H1,rfl,I1.kept (t':=s1.toks) λb o e=>uB _ e,Ni _ z t,⟨_,oP _ rfl,rfl,rfl⟩,fp,q⟩
 ·exact wpAny_pyIter_ascii ha ⟨s1.heap.objs.size,[s1.heap.objs.size],_,_,H1,rfl,I1.kept (t':=s1.toks) λb o e=>uB _ e,Nh _ z t,⟨_,oP _ rfl,rfl,rfl⟩,fp,q⟩
end
def d7(env:Env):List (Str×NameKind)->Option (List (Str×Addr))
 | []=>some []
 | (n,k)::r=>if k=.free then (env.cells.lookup n).bind λc=>(d7 env r).map λcl=>cl++[(n,c)] else d7 env r
theorem jk{env:Env}:∀{names:List (Str×NameKind)} {cl:List (Str×Addr)},d7 env names=some cl->∀x c,cl.lookup x=some c->env.cells.lookup x=some c
 | [],cl,h,x,c,e=>by
  cases (nI h);cases e
 | (n,k)::r,cl,h,x,c,e=>by
  unfold d7 at h;by_cases hk:k=.free
  ·rw[zS hk] at h;cases hc:env.cells.lookup n with
   | none=>rw[hc] at h;cases h
   | some c' =>
    rw[hc] at h;have h:(d7 env r).map (λcl=>cl++[(n,c')])=some cl:=h;cases hr:d7 env r with
    | none=>rw[hr] at h;cases h
    | some cl' =>
     rw[hr] at h;have h:cl'++[(n,c')]=cl:=nI h;subst h;rw[List.lookup_append] at e;cases h2:cl'.lookup x with
     | some c2 =>
      rw[h2] at e;have e:c2=c:=by simpa using e
      subst e;exact jk hr x c2 h2
     | none =>
      rw[h2] at e;have e:List.lookup x [(n,c')]=some c:=by simpa using e
      by_cases hx:x=n
      ·subst hx;have:c'=c:=by simpa using e
       subst this;exact hc
      ·have hb:(x==n)=false:=by simpa using hx
       simp[List.lookup_cons,hb] at e
  ·rw[yA hk] at h;exact jk h x c e
theorem jm{env:Env}:∀(names:List (Str×NameKind)) (acc cl:List (Str×Addr)),d7 env names=some cl ->
  (forIn (m:=Sem) names acc λx c=>if x.2==NameKind.free then (do let a <- cellOf env x.1;pure (ForInStep.yield ((x.1,a)::c))) else pure (ForInStep.yield c))=pure (cl++acc)
 | [],acc,cl,h=>by
  cases (nI h)
  rfl
 | (n,k)::r,acc,cl,h=>by
  unfold d7 at h;rw[List.forIn_cons];by_cases hk:k=.free
  ·rw[zS hk] at h;cases hc:env.cells.lookup n with
   | none=>rw[hc] at h;cases h
   | some c' =>
    rw[hc] at h;have h:(d7 env r).map (λcl=>cl++[(n,c')])=some cl:=h;cases hr:d7 env r with
    | none=>rw[hr] at h;cases h
    | some cl' =>
     rw[hr] at h;have h:cl'++[(n,c')]=cl:=nI h;subst h;have hb:(k==NameKind.free)=true:=by simpa using hk
     have:=jm r ((n,c')::acc) cl' hr;have ec:cellOf env n=pure c':=by unfold cellOf;rw[hc]
     simp only[hb,if_true,ec,pure_bind,bind_assoc];rw[this];simp
  ·rw[yA hk] at h;have hb:(k==NameKind.free)=false:=by simpa using hk
   have:=jm r acc cl h;simp only[hb,Bool.false_eq_true,if_false,pure_bind];exact this
def m9{env:Env}{scope:Scope}{cl:List (Str×Addr)}(h:d7 env scope.names=some cl):closureFor scope env=pure cl:=by
 have:=jm scope.names [] cl h;rw[mE] at this;have key:closureFor scope env=(forIn (m:=Sem) scope.names ([]:List (Str×Addr)) λx c=>if x.2==NameKind.free then (do let a <- cellOf env x.1;pure (ForInStep.yield ((x.1,a)::c))) else pure (ForInStep.yield c)) >>= λcs=>pure cs:=by
  unfold closureFor
  rfl
 rw[key,this]
 rfl
theorem Nj{prog:Program}{w:World}{A:Around}{R:Result->Shared->Prop}{s:Shared}{elt target iter:Expr}{ifs:List Expr}{scope:Scope}{pos:Pos}{it acc:Value}{env:Env}(I:Nat->Shared->Prop)
  (turn:∀n s,I n s->wpAny (model prog w) A (pyNext it) (λr s₁=>match r with
   | none=>R (.ok .next) s₁
   | some v=>wpAny (model prog w) A (letOwnedTupleGo target it v) (λ_ s₀=>wpAny (model prog w) A (assign target env v) (λ_ s₂ =>
     wpAny (model prog w) A (forIn ifs true λc r=>if r=true then do let ok <- isTrue c env (eval c env);pure (ForInStep.yield ok) else pure (ForInStep.yield r)) (λok s₃ =>
      if ok=true then wpAny (model prog w) A (eval elt env) (λx s₄ =>
       wpAny (model prog w) A (call (.builtin "list.append") [acc,x]) (λ_ s₅=>∃m,m<n/\I m s₅) (λ_ _=>False) s₄) (λ_ _=>False) s₃
      else ∃m,m<n/\I m s₃) (λ_ _=>False) s₂) (λ_ _=>False) s₀) (λ_ _=>False) s₁) (λ_ _=>False) s)
  (n:Nat) (h:I n s) :
  codeAny (model prog w) A (.compLoop (.ListComp elt [⟨target,iter,ifs,0⟩] scope pos) 0 it acc env) R s:=by
 refine codeAny_loop rfl I (λn s hI=>?_) n h;show wpAny _ A ((compTurn (.ListComp elt [⟨target,iter,ifs,0⟩] scope pos) 0 it acc env).onRaise (λx=>do noteFrame x env;theTreesLotGoes x)) _ _ s;refine wpAny_noted ?_;rw[compTurn_list];refine zI (wpAny_standAt (zI (nX (turn n s hI) (λr s₁ h₁=>?_) λ_ _ h'=>h'.elim)));cases r with
 | none=>exact rV h₁
 | some v =>
  refine zI (nX h₁ (λ_ s₀ h₀=>?_) λ_ _ h'=>h'.elim);refine zI (nX h₀ (λ_ s₂ h₂=>zI (nX h₂ (λok s₃ h₃=>?_) λ_ _ h'=>h'.elim)) λ_ _ h'=>h'.elim);cases ok with
  | false=>exact rV ⟨rfl,h₃⟩
  | true =>
   exact zI (zI (nX h₃ (λx s₄ h₄=>zI (nX h₄ (λ_ s₅ h₅=>rV (rV ⟨rfl,h₅⟩)) λ_ _ h'=>h'.elim)) λ_ _ h'=>h'.elim))
def dM(X:Cx)(N:List Str)(scope:Scope)(cl:List (Str×Addr))(pins:pV)(s:Shared)(H:Hp)(fp:List Addr):Cx where
 prog:=X.prog
 w:=X.w
 K:=X.K
 mg:=X.mg
 base:=X.base
 A:=X.A
 N:=N
 s₀:=s
 H₀:=H
 env:=compEnvC scope cl s.heap.objs.size X.env
 outer:=X.stack
 stack:=X.stack
 ex:=fp
 fn:=λ_=>false
 calm:=X.calm
 pn:=X.pn++pins
 xe:=λ_ _=>False
def fG(nt:Nat)(fr:List Nat)(σ:St):St:=List.replicate nt none++fr.map λi=>(σ[i]?).getD none
structure fL(X:Cx)(N:List Str)(nt:Nat)(fr:List Nat)(scope:Scope)(cl:List (Str×Addr)):Prop where
 len:N.length=nt+fr.length
 free:∀(j:Nat)(i:Nat)(x:Str),fr[j]?=some i->N[nt+j]?=some x->X.N[i]?=some x/\(∃c,cl.lookup x=some c)/\(X.env.kindOf x=some .cell\/X.env.kindOf x=some .free) /\
  ((relabel scope X.env).names.lookup x=some .cell\/(relabel scope X.env).names.lookup x=some .free)
 cells:∀x c,cl.lookup x=some c->X.env.cells.lookup x=some c
 has:∀x,((relabel scope X.env).names.lookup x=some .cell\/(relabel scope X.env).names.lookup x=some .free)->∃c,cl.lookup x=some c
 kind:scope.kind=.function
def Dj{X:Cx}{x:Str}(h:X.env.kindOf x=some .cell\/X.env.kindOf x=some .free):Vis X.env.scope x:=by
 rcases h with h|h
 ·exact .inr (.inl h)
 ·exact .inr (.inr h)
section
variable{X:Cx}{N:List Str}{nt:Nat}{fr:List Nat}{scope:Scope}{cl:List (Str×Addr)}{pins:pV}{σ:St}{H:Hp}{s:Shared}{fp:List Addr}
def Wf(I:Inv X pins σ H s)(cn:fL X N nt fr scope cl)(hf:∀b∈fp,gZ X pins H b)(ho:∀b∈fp,b<s.heap.objs.size):(dM X N scope cl pins s H fp).Ok where
 mod:=I.mod
 kind:=cn.kind
 glob:=I.ok.glob
 blt:=I.ok.blt
 above:=uC _
 inj:=λx y c h1 h2=>I.ok.inj x y c (cn.cells x c h1) (cn.cells y c h2)
 has:=λx hx=>cn.has x hx
 cab:=λx c h _=>by cases (show false=true from h)
 hd:=I.ok.hd
 frames:=I.ok.frames
 stk:=.inl rfl
 exf:=λb hb=>⟨qE (ho b hb),λx c e=>(hf b hb).2.2.2.2.1 x c (cn.cells x c e)⟩
 bs:=I.bs
 bsz:=rX I.ok.bsz I.sz
 Ae:=λb o e hb=>by
  rcases(hf b hb).2.2.2.1 with z|z
  ·exact I.ok.Ae b o e z
  ·exact gL (qB (uA e) (rX I.ok.bsz z)) (qS _)
 CN:=λb hb z=>(vS.mp (I.tX b z)).elim (λe=>(hf b hb).2.1 e) λe=>(hf b hb).2.2.1 e
 kO:=I.stack
 frf:=I.oY
def Qp{h4:Heap}{t':Nat}(I:Inv X pins σ H s)(cn:fL X N nt fr scope cl)(hf:∀b∈fp,gZ X pins H b)(ho:∀b∈fp,b<s.heap.objs.size)
  (k:∀b o,s.heap.get? b=some o->h4.get? b=some o) (hns:∃m,h4.Ns s.heap.objs.size m):Inv (dM X N scope cl pins s H fp) [] (fG nt fr σ) H { s with heap:=h4,toks:=t' }:=by
 have ck:∀{c:Addr} {v:Option Value},s.heap.IsCell c v->h4.IsCell c v:=λ⟨o,e,d⟩=>⟨o,k _ o e,d⟩
 refine⟨Wf I cn hf ho,rfl,I.bare,Un.kept k,?_,λx c e=>?_,?_,λx c e=>?_,λp hp=>?_,I.hok.kept k,?_⟩
 ·obtain⟨m,hm⟩:=hns;refine⟨m,hm,λi x v e1 e2 _=>?_⟩;have e2:(fG nt fr σ)[i]?=some (some v):=e2;have e1:N[i]?=some x:=e1;unfold fG at e2;by_cases hi:i<nt
  ·rw[List.getElem?_append_left (by simpa using hi),List.getElem?_replicate,if_pos hi] at e2;cases e2
  ·obtain⟨j,rfl⟩:∃j,i=nt+j:=⟨i-nt,by lia⟩;rw[List.getElem?_append_right (by simp),List.length_replicate,Nat.add_sub_cancel_left,List.getElem?_map] at e2;cases hj:fr[j]? with
   | none=>rw[hj] at e2;cases e2
   | some i' =>
    rw[hj] at e2;have e2:(σ[i']?).getD none=some v:=nI e2;have e3:σ[i']?=some (some v):=by
     cases q:σ[i']? with
     | none=>rw[q] at e2;cases e2
     | some o=>rw[q] at e2;rw[show o=some v from e2]
    obtain⟨hN,⟨c,hc⟩,hk,hk'⟩:=cn.free j i' x hj e1;obtain⟨m0,_,hl⟩:=I.loc;obtain⟨u,r,l⟩:=hl i' x v hN e3 (Dj hk);refine⟨u,r,.inr ⟨hk',c,hc,?_⟩⟩;rcases l with⟨hl',_⟩|⟨_,c',hc',hcell⟩
    ·rcases hk with z|z <;> (rw[hl'] at z;cases z)
    ·have hcc:=cn.cells x c hc;rw[hc'] at hcc;cases hcc;exact ck hcell
 ·obtain⟨v,hv⟩:=I.cell x c (cn.cells x c e);exact⟨v,ck hv⟩
 ·exact I.hok.fresh (uC _)
 ·exact I.h_ x c (cn.cells x c e)
 ·have hp:p∈(X.pn++pins)++[]:=hp;rw[mE] at hp;obtain⟨e,n,ne,nf,d⟩:=I.pin p hp;exact⟨k p.1 p.2 e,n,qE (uA e),λz=>(vS.mp (I.tX p.1 z)).elim ne nf,d⟩
 ·show (fG nt fr σ).length=N.length;unfold fG;rw[cn.len,yB,mM,wE]
def comp_back{H':Hp}{s1 s':Shared}{h':Heap}{σ':St}(I:Inv X pins σ H s)(hsz:s.heap.objs.size<=s1.heap.objs.size)(hos:s1.os=s.os){H1:Hp}(hH:Un (frs X.stack) fp H H1 s.heap s1.heap)
  (hf:∀b∈fp,gZ X pins H b)
  (J:Inv (dM X N scope cl pins s1 H1 fp) [] σ' H' s') (sb:Heap.SameBut s1.heap.objs.size s'.heap h'):Inv X pins σ H' { s' with heap:=h' }:=by
 have u:Un (frs X.stack) fp H H' s.heap s'.heap:=hH.trans J.base;have lt:∀b o,s.heap.get? b=some o->b≠s1.heap.objs.size:=λb o e=>qE (qB (uA e) hsz)
 have kk:∀b o,b≠s1.heap.objs.size->s'.heap.get? b=some o->h'.get? b=some o:=λb o hb e=>sb.extBut b o hb e
 have u':Un (frs X.stack) fp H H' s.heap h':=⟨λb o e n hb hx=>kk b o (lt b o e) (u.keep b o e n hb hx),λb o e n hb hx=>let ⟨sl,z⟩:=u.slot b o e n hb hx;⟨sl,kk b _ (lt b o e) z⟩,u.free,
  λb o e hx=>let ⟨o',z⟩:=u.there b o e hx;⟨o',kk b o' (lt b o e) z⟩,u.tups,u.mY,u.mZ⟩
 have nC:H' s1.heap.objs.size=none:=J.free;refine I.call' (s':={ s' with heap:=h' }) (ch:=fp) (J.os.trans hos) u' (λa o e=>?_) J.bare λb hb=>⟨(hf b hb).2.2.2.1,(hf b hb).2.1,(hf b hb).2.2.2.2.1,(hf b hb).2.2.2.2.2⟩
 refine(J.hok a o e).stay (λb v hb q=>kk b v ?_ q) (λ_ q=>q) λ_ _ q=>q
 rcases hb with z|z
 ·rintro rfl;rw[<- z,nC] at e;cases e
 ·rintro rfl;rw[nC] at z;cases z
end
def eN(X:Cx)(N:List Str)(nt:Nat)(scope:Scope):List Nat->Nat->Bool
 | [],_=>true
 | i::r,j=>(match N[nt+j]? with
  | some x=>decide (X.N[i]?=some x) && decide (scope.names.lookup x=some .free) && (decide (X.env.kindOf x=some .cell) || decide (X.env.kindOf x=some .free))
  | none=>false) && eN X N nt scope r (j+1)
theorem Dk{X:Cx}{N:List Str}{nt:Nat}{scope:Scope}:∀{fr:List Nat} {k:Nat},eN X N nt scope fr k=true->∀(j i:Nat)(x:Str),fr[j]?=some i->N[nt+(k+j)]?=some x ->
  X.N[i]?=some x/\scope.names.lookup x=some .free/\(X.env.kindOf x=some .cell\/X.env.kindOf x=some .free)
 | [],_,_,j,i,x,e,_=>by simp at e
 | i0::r,k,h,j,i,x,e1,e2=>by
  unfold eN at h;rw[Bool.and_eq_true] at h;obtain⟨h1,h2⟩:=h;cases j with
  | zero =>
   have e1:i0=i:=by simpa using e1
   subst e1;rw[Nat.add_zero] at e2;rw[e2] at h1;simp only[Bool.and_eq_true,Bool.or_eq_true,decide_eq_true_eq] at h1;exact⟨h1.1.1,h1.1.2,h1.2⟩
  | succ j =>
   exact Dk h2 j i x (by simpa using e1) (by rw[show nt+(k+1+j)=nt+(k+(j+1)) by lia];exact e2)
theorem iM{env:Env}:∀{names:List (Str×NameKind)} {x:Str} {k':NameKind},
  (names.map λ(n,k)=>if (k==NameKind.free && env.scope.kind==.function && env.kindOf n==some .cell) then (n,NameKind.cell) else (n,k)).lookup x=some k' ->
  ∃k,names.lookup x=some k/\(k=k'\/(k=.free/\k'=.cell))
 | [],_,_,h=>by simp at h
 | (n,k)::r,x,k',h=>by
  have h:List.lookup x ((if (k==NameKind.free && env.scope.kind==.function && env.kindOf n==some .cell)=true then (n,NameKind.cell) else (n,k))::r.map _)=some k':=h;cases hx:x==n with
  | true =>
   by_cases hc:(k==NameKind.free && env.scope.kind==.function && env.kindOf n==some .cell)=true
   ·rw[zS hc] at h;simp only[List.lookup_cons,hx] at h;have hk:k=.free:=by
     simp only[Bool.and_eq_true,beq_iff_eq] at hc;exact hc.1.1
    exact⟨k,by simp[List.lookup_cons,hx],.inr ⟨hk,(Option.some.inj h).symm⟩⟩
   ·rw[yA hc] at h;simp only[List.lookup_cons,hx] at h;exact⟨k,by simp[List.lookup_cons,hx],.inl (Option.some.inj h)⟩
  | false =>
   have h2:List.lookup x (r.map λ(n,k)=>if (k==NameKind.free && env.scope.kind==.function && env.kindOf n==some .cell) then (n,NameKind.cell) else (n,k))=some k':=by
    by_cases hc:(k==NameKind.free && env.scope.kind==.function && env.kindOf n==some .cell)=true
    ·rw[if_pos hc] at h;simpa only[List.lookup_cons,hx] using h
    ·rw[if_neg hc] at h;simpa only[List.lookup_cons,hx] using h
   obtain⟨k2,e2,o2⟩:=iM h2;exact⟨k2,by simp only[List.lookup_cons,hx];exact e2,o2⟩
theorem pG{env:Env}:∀{names:List (Str×NameKind)} {x:Str},names.lookup x=some .free ->
  (names.map λ(n,k)=>if (k==NameKind.free && env.scope.kind==.function && env.kindOf n==some .cell) then (n,NameKind.cell) else (n,k)).lookup x=some .cell \/
  (names.map λ(n,k)=>if (k==NameKind.free && env.scope.kind==.function && env.kindOf n==some .cell) then (n,NameKind.cell) else (n,k)).lookup x=some .free
 | [],_,h=>by simp at h
 | (n,k)::r,x,h=>by
  show List.lookup x ((if (k==NameKind.free && env.scope.kind==.function && env.kindOf n==some .cell)=true then (n,NameKind.cell) else (n,k))::r.map _)=some .cell\/List.lookup x ((if (k==NameKind.free && env.scope.kind==.function && env.kindOf n==some .cell)=true then (n,NameKind.cell) else (n,k))::r.map _)=some .free;cases hx:x==n with
  | true =>
   simp only[List.lookup_cons,hx] at h;cases h;by_cases hc:(NameKind.free==NameKind.free && env.scope.kind==.function && env.kindOf n==some .cell)=true
   ·rw[if_pos hc];left;simp[List.lookup_cons,hx]
   ·rw[if_neg hc];right;simp[List.lookup_cons,hx]
  | false =>
   simp only[List.lookup_cons,hx] at h;have ih:=pG (env:=env) h;by_cases hc:(k==NameKind.free && env.scope.kind==.function && env.kindOf n==some .cell)=true
   ·rw[if_pos hc];simpa only[List.lookup_cons,hx] using ih
   ·rw[if_neg hc];simpa only[List.lookup_cons,hx] using ih
theorem jT{env:Env}:∀{names:List (Str×NameKind)} {cl:List (Str×Addr)},d7 env names=some cl->∀x,names.lookup x=some .free->∃c,cl.lookup x=some c
 | [],_,_,x,e=>by simp at e
 | (n,k)::r,cl,h,x,e=>by
  unfold d7 at h;by_cases hk:k=.free
  ·rw[zS hk] at h;cases hc:env.cells.lookup n with
   | none=>rw[hc] at h;cases h
   | some c' =>
    rw[hc] at h;have h:(d7 env r).map (λcl=>cl++[(n,c')])=some cl:=h;cases hr:d7 env r with
    | none=>rw[hr] at h;cases h
    | some cl' =>
     rw[hr] at h;have h:cl'++[(n,c')]=cl:=nI h;subst h;rw[List.lookup_append];cases h2:cl'.lookup x with
     | some c2=>exact⟨c2,by simp⟩
     | none =>
      cases hx:x==n with
      | true=>exact⟨c',by simp[List.lookup_cons,hx]⟩
      | false =>
       simp only[List.lookup_cons,hx] at e;obtain⟨c3,e3⟩:=jT hr x e;rw[h2] at e3;cases e3
  ·rw[yA hk] at h;cases hx:x==n with
   | true =>
    simp only[List.lookup_cons,hx] at e;exact gL (nI e) hk
   | false =>
    simp only[List.lookup_cons,hx] at e;exact jT h x e
def fL.of{X:Cx}{N:List Str}{nt:Nat}{fr:List Nat}{scope:Scope}{cl:List (Str×Addr)}(hcl:d7 X.env scope.names=some cl)(hlen:N.length=nt+fr.length)(hB:eN X N nt scope fr 0=true)
  (hcell:∀y∈scope.names,y.2≠.cell) (hkind:scope.kind=.function):fL X N nt fr scope cl where
 len:=hlen
 free:=λj i x e1 e2=>by
  obtain⟨h1,h2,h3⟩:=Dk hB j i x e1 (by rw[Nat.zero_add];exact e2);exact⟨h1,jT hcl x h2,h3,pG h2⟩
 cells:=jk hcl
 has:=λx hx=>by
  have:scope.names.lookup x=some .free:=by
   rcases hx with hx|hx
   ·obtain⟨k,e,o⟩:=iM (names:=scope.names) (env:=X.env) hx;rcases o with rfl|⟨rfl,_⟩
    ·exact gL rfl (hcell _ (PySem.mem_of_lookup e))
    ·exact e
   ·obtain⟨k,e,o⟩:=iM (names:=scope.names) (env:=X.env) hx;rcases o with rfl|⟨rfl,_⟩
    ·exact e
    ·exact e
  exact jT hcl x this
 kind:=hkind
def PIf(X:Cx)(ifs:List Expr)(t:TT):Prop :=
 ∀(pins:pV) (s:Shared) (σ:St) (H:Hp) (Q:Bool->Hp->Prop),Inv X pins σ H s->t σ H Q ->
  wpAny (model X.prog X.w) X.A (forIn ifs true λc r=>if r=true then do let ok <- isTrue c X.env (eval c X.env);pure (ForInStep.yield ok) else pure (ForInStep.yield r)) (TP X pins σ Q) X.xe s
def gQ:TT:=λ_ H Q=>Q true H
def dF{X:Cx}:PIf X [] gQ:=λ_ _ _ H _ I h=>rV ⟨H,I,h⟩
def d9{X:Cx}{c:Expr}{t:TT}(h:PT X c t):PIf X [c] t:=by
 intro pins s σ H Q I hw;rw[List.forIn_cons];simp only[if_true];refine zI (zI (thn (h pins s σ H Q I hw) λb s1 q=>rV ?_));exact rV q
def pH(J:It)(nt:Nat)(fr:List Nat)(g:TG)(c:TT)(te:TE)(σ:St)(H1:Hp)(Q:VK)(acc:Addr):Prop :=
 ∃W:Nat->Nat->St->List V->Hp->Prop,(∃m,W 0 m (fG nt fr σ) [] (upd H1 acc (.lst [])))/\∀i m σ' ys H',W i m σ' ys H'->H' acc=some (.lst ys) /\
  ((J.stop i H'/\Q (.ref acc) H')\/(J.go i H'/\∀x H2,J.yld i H' x H2->g x σ' H2 λσ2 H3=>c σ2 H3 λb H4=>if b=true then
   te σ2 H4 λy H5=>ys.length<sizeLine/\H5 acc=some (.lst ys)/\∃m',m'<m/\W (i+1) m' σ2 (ys++[y]) (upd H5 acc (.lst (ys++[y])))
   else ∃m',m'<m/\W (i+1) m' σ2 ys H4))
def m_(wi:TI)(nt:Nat)(fr:List Nat)(g:TG)(c:TT)(te:TE):TE:=λσ H Q=>wi σ H λJ H1=>∀acc,H1 acc=none->pH J nt fr g c te σ H1 Q acc
section
variable{X:Cx}{target iter elt:Expr}{ifs:List Expr}{scope:Scope}{pos:Pos}{N:List Str}{nt:Nat}{fr:List Nat}{cl:List (Str×Addr)}{wi:TI}{g:TG}{c:TT}{te:TE}
def Wg{pins:pV}{σ:St}{H H1:Hp}{s:Shared}{fp:List Addr}(I:Inv X pins σ H s)(cn:fL X N nt fr scope cl)(hf:∀b∈fp,gZ X pins H b)(ho:∀b∈fp,b<s.heap.objs.size){H':Hp}(hn:∀b∈fp,H' b=none) :
  ∀b∈fp,gZ (dM X N scope cl pins s H1 fp) [] H' b:=λb hb =>
 ⟨hn b hb,qE (ho b hb),λz=>(vS.mp (I.tX b z)).elim (hf b hb).2.1 (hf b hb).2.2.1,.inl hb,λx c e=>(hf b hb).2.2.2.2.1 x c (cn.cells x c e),λp hp=>(hf b hb).2.2.2.2.2 p (by
  have hp:p∈(X.pn++pins)++[]:=hp;rw[mE] at hp;exact hp)⟩
def uq{pins:pV}{σ:St}{s:Shared}{Q:VK}{itv:Value}{RR:Value->Addr->Result->Shared->Prop}{E:xB}
  (hc:X.calm=true) (cn:fL X N nt fr scope cl) (hcell:∀y∈scope.names,y.2≠.cell)
  (hg:∀pins s H fp,PG (dM X N scope cl pins s H fp) target g) (hif:∀pins s H fp,PIf (dM X N scope cl pins s H fp) ifs c) (he:∀pins s H fp,PE (dM X N scope cl pins s H fp) elt te)
  (h:PIE X pins σ target (λJ H1=>∀acc,H1 acc=none->pH J nt fr g c te σ H1 Q acc) itv s)
  (hRR:∀(acc C:Addr)(s':Shared)(H':Hp),(∃m,s'.heap.Ns C m)->Inv X pins σ H' s'->gZ X pins H' C->Q (.ref acc) H'->RR (.ref acc) C (.ok .next) s') :
  wpAny (model X.prog X.w) X.A (newList []) (λacc s₃=>wpAny (model X.prog X.w) X.A (newFunctionEnv scope X.env.globals cl [] X.env.qual none .none (some X.env)) (λcenv s₄ =>
   codeAny (model X.prog X.w) X.A (.compStart (.ListComp elt [⟨target,iter,ifs,0⟩] scope pos) 0 itv acc { cenv with scope:=relabel scope X.env }) (RR acc cenv.locals) s₄) E s₃) E s:=by
 obtain⟨it,fp,tn,J,H2,e,I2,T,st2,f2,R⟩:=h;subst e;have fo:∀b∈fp,b<s.heap.objs.size:=λb hb=>let ⟨o,e,_⟩:=T.obj 0 _ st2 b hb;uA e
 refine wpAny_newObj_type (wpAny_newFunctionEnv hcell (by intro y hy;simp at hy) (λh₁ hns₁ hsb₁=>?_) cn.kind);dsimp only at hns₁ hsb₁ ⊢;have ha:H2 s.heap.objs.size=none:=I2.hok.fresh (uC _);have I3:Inv X pins σ (upd H2 s.heap.objs.size (.lst [])) { s with heap:=s.heap.push { cls:=.type "list", data:=.seq ([]:xD).toArray } } :=
  I2.laid (t':=s.toks) (λb u e=>uB _ e) (uC _) ⟨Nat.zero_le _,[],0,.nil,oP _ rfl⟩
 generalize hs3:({ s with heap:=s.heap.push { cls:=.type "list", data:=.seq ([]:xD).toArray } }:Shared)=s3 at I3
 have hh3:s3.heap=s.heap.push { cls:=.type "list", data:=.seq ([]:xD).toArray }:=by rw[<- hs3]
 have hsz:s3.heap.objs.size=s.heap.objs.size+1:=by rw[hh3,Heap.size_push]
 have fne:∀b∈fp,b≠s.heap.objs.size:=λb hb=>qE (fo b hb)
 have f3:∀b∈fp,gZ X pins (upd H2 s.heap.objs.size (.lst [])) b:=λb hb=>⟨by rw[aZ (fne b hb)];exact(f2 b hb).1,(f2 b hb).2⟩
 have fo3:∀b∈fp,b<s3.heap.objs.size:=λb hb=>by rw[hsz];exact Nat.lt_succ_of_lt (fo b hb)
 have k3:∀b o,s3.heap.get? b=some o->h₁.get? b=some o:=λb o e=>hsb₁.extBut b o (by rw[<- hh3];exact qE (uA e)) (by rw[<- hh3];exact uB _ e)
 have hns:∃m,h₁.Ns s3.heap.objs.size m:=⟨_,by rw[hh3];exact hns₁⟩;have I4:Inv (dM X N scope cl pins s3 (upd H2 s.heap.objs.size (.lst [])) fp) [] (fG nt fr σ) (upd H2 s.heap.objs.size (.lst [])) { s3 with heap:=h₁,toks:=s3.toks+([]:List (Str×Value)).length }:=Qp I3 cn f3 fo3 k3 hns
 have st4:tn 0 h₁:=T.keep 0 _ _ st2 λb hb o e=>k3 b o (by rw[hh3];exact uB _ e)
 obtain⟨W,⟨m0,w0⟩,turn⟩:=R s.heap.objs.size ha;have stat:∀{H':Hp},(∀b∈fp,H' b=none)->∀b∈fp,gZ (dM X N scope cl pins s3 (upd H2 s.heap.objs.size (.lst [])) fp) [] H' b:=λhn=>Wg I3 cn f3 fo3 hn
 have hH:Un (frs X.stack) fp H2 (upd H2 s.heap.objs.size (.lst [])) s.heap s3.heap:=by
  rw[hh3];exact Un.laid (λb u e=>uB _ e) (uC _) ha
 have back:∀{σ':St} {H':Hp} {s':Shared} {h':Heap},Inv (dM X N scope cl pins s3 (upd H2 s.heap.objs.size (.lst [])) fp) [] σ' H' s'->Heap.SameBut s3.heap.objs.size s'.heap h'->Inv X pins σ H' { s' with heap:=h' }:=λJ' sb =>
  comp_back I2 (by rw[hsz];exact Nat.le_succ _) (by rw[<- hs3]) hH f2 J' sb
 have loop:codeAny (model X.prog X.w) X.A (.compLoop (.ListComp elt [⟨target,iter,ifs,0⟩] scope pos) 0 (.ref it) (.ref s.heap.objs.size) (compEnvC scope cl s3.heap.objs.size X.env)) (RR (.ref s.heap.objs.size) s3.heap.objs.size)
   { s3 with heap:=h₁,toks:=s3.toks+([]:List (Str×Value)).length }:=by
  refine Nj (λn s'=>∃i σ' ys H',Inv (dM X N scope cl pins s3 (upd H2 s.heap.objs.size (.lst [])) fp) [] σ' H' s'/\tn i s'.heap/\(∀b∈fp,H' b=none)/\W i n σ' ys H') ?_ m0
   ⟨0,_,[],_,I4,st4,λb hb=>(f3 b hb).1,w0⟩
  rintro n s5 ⟨i,σ5,ys,H5,I5,st5,fr5,w5⟩;obtain⟨hacc,step⟩:=turn i n σ5 ys H5 w5;rcases step with⟨stop,q⟩|⟨go,step⟩
  ·refine thn (T.done (dM X N scope cl pins s3 (upd H2 s.heap.objs.size (.lst [])) fp) rfl rfl rfl hc i [] s5 σ5 H5 (λ_ _=>False) I5 (stat fr5) st5 stop) λr s6 ⟨hr,I6⟩=>?_
   subst hr;obtain⟨m,hm,_⟩:=I6.loc;exact hRR _ _ s6 H5 ⟨m,hm⟩ (back I6 (Heap.SameBut.refl _ _)) (I2.CT (by rw[hsz];exact Nat.le_succ _) I6.free) q
  ·refine thn (T.item (dM X N scope cl pins s3 (upd H2 s.heap.objs.size (.lst [])) fp) rfl rfl rfl hc i [] s5 σ5 H5 (λ_ _=>False) I5 (stat fr5) st5 go) λr s6 ⟨u,hr,h6⟩=>?_
   subst hr;refine thn h6 λ_ s7 ⟨x,H7,I7,r7,y7,st7,fr7⟩=>?_
   have I7':=I7.pinned (stat fr7) (T.obj _ _ st7);refine thn (hg pins s3 _ fp _ s7 σ5 H7 x u _ I7' r7 (step x H7 y7)) λ_ s8 ⟨σ8,H8,I8,q8⟩=>?_
   have JV:∀{σ':St} {H':Hp} {s':Shared},Inv (dM X N scope cl pins s3 (upd H2 s.heap.objs.size (.lst [])) fp) ([]++ud fp s7.heap) σ' H' s'->tn (i+1) s'.heap/\∀b∈fp,H' b=none:=λ{σ' H' s'} I' =>
    ⟨T.keep _ _ _ st7 λb hb o e=>(I'.pin (b,o) (rS _ (rS _ (jR hb e)))).1,λb hb=>by
     obtain⟨o,e,d⟩:=T.obj _ _ st7 b hb;exact(I'.pin (b,o) (rS _ (rS _ (jR hb e)))).2.1⟩
   refine thn (hif pins s3 _ fp _ s8 σ8 H8 _ I8 q8) λok s9 ⟨H9,I9,q9⟩=>?_
   cases ok with
   | false =>
    have q9:∃m',m'<n/\W (i+1) m' σ8 ys H9:=q9;obtain⟨m',hm,w9⟩:=q9;exact⟨m',hm,i+1,σ8,ys,H9,I9.iJ,(JV I9).1,(JV I9).2,w9⟩
   | true =>
    rw[zS rfl];refine thn (he pins s3 _ fp _ s9 σ8 H9 _ I9 q9) λz s10 ⟨y,H10,I10,r10,hz,agl,m',hm,w10⟩=>?_
    refine thn (xZ _ s10 σ8 H10 (.ref s.heap.objs.size) [y] (.ref s.heap.objs.size) [z] (λv H'=>v=.non/\H'=upd H10 s.heap.objs.size (.lst (ys++[y]))) I10 rfl (.cons r10 .nil) ⟨_,ys,y,rfl,rfl,agl,hz,rfl,rfl⟩) λv s11 ⟨_,H11,I11,_,_,e11⟩=>?_
    subst e11;exact⟨m',hm,i+1,σ8,ys++[y],_,I11.iJ,(JV I11).1,(JV I11).2,w10⟩
 have fin:codeAny (model X.prog X.w) X.A (.compStart (.ListComp elt [⟨target,iter,ifs,0⟩] scope pos) 0 (.ref it) (.ref s.heap.objs.size) (compEnvC scope cl s3.heap.objs.size X.env)) (RR (.ref s.heap.objs.size) s3.heap.objs.size)
   { s3 with heap:=h₁,toks:=s3.toks+([]:List (Str×Value)).length } :=
  codeAny_compStart_list loop (T.self _ 0 _ _ _ st4 loop)
 rw[<- hs3] at fin;exact fin
def cQ(hi:PI X target iter wi)(hg:∀pins s H fp,PG (dM X N scope cl pins s H fp) target g)(hif:∀pins s H fp,PIf (dM X N scope cl pins s H fp) ifs c)(he:∀pins s H fp,PE (dM X N scope cl pins s H fp) elt te)
  (hc:X.calm=true:=by rfl) (hcl:d7 X.env scope.names=some cl:=by rfl) (hlen:N.length=nt+fr.length:=by rfl) (hB:eN X N nt scope fr 0=true:=by rfl)
  (hcell:∀y∈scope.names,y.2≠.cell:=by decide +kernel) (hkind:scope.kind=.function:=by rfl) (hnames:∀y∈scope.names,y.2=.local->scope.names.lookup y.1=some .local:=by decide +kernel)
  (hs:∀x,foldedSetIterable iter X.env x=pure x:=by intro _;rfl):PE X (.ListComp elt [⟨target,iter,ifs,0⟩] scope pos) (m_ wi nt fr g c te):=by
 intro pins s σ H Q I h;rw[eval_ListComp];refine wpAny_comprehension_free (use:=none) rfl hs (m9 hcl) hkind hnames (thn (hi pins s σ H _ I h) λxv s1 h1=>thn h1 λitv s2 h2=>?_);exact uq hc (fL.of hcl hlen hB hcell hkind) hcell hg hif he h2 λacc C s' H' ⟨m,hm⟩ hI hF hq=>⟨m,hm,λh' sb=>⟨.ref acc,H',hI.turned (t':=s'.toks) (λb o hb e=>sb.extBut b o hb e) hF.1 hF.2.1 hF.2.2.2.1 hF.2.2.2.2.1 hF.2.2.2.2.2,rfl,hq⟩⟩
def gH{i:Nat}{y:Str}{py spos:Pos}(hN:X.N.Nodup)(hyi:X.N[i]?=some y)(hy:Loc X.env.scope y)(hi:PI X target iter wi)(hg:∀pins s H fp,PG (dM X N scope cl pins s H fp) target g)(hif:∀pins s H fp,PIf (dM X N scope cl pins s H fp) ifs c)(he:∀pins s H fp,PE (dM X N scope cl pins s H fp) elt te)
  (hsw:swapsWith (.ListComp elt [⟨target,iter,ifs,0⟩] scope pos) (some (.Name y py)) spos.line X.env=pure true:=by rfl)
  (hc:X.calm=true:=by rfl) (hcl:d7 X.env scope.names=some cl:=by rfl) (hlen:N.length=nt+fr.length:=by rfl) (hB:eN X N nt scope fr 0=true:=by rfl)
  (hcell:∀y∈scope.names,y.2≠.cell:=by decide +kernel) (hkind:scope.kind=.function:=by rfl) (hnames:∀y∈scope.names,y.2=.local->scope.names.lookup y.1=some .local:=by decide +kernel)
  (hs:∀x,foldedSetIterable iter X.env x=pure x:=by intro _;rfl) (hf:X.fn y=true\/X.env.scope.names.lookup y=some .local:=by first|exact .inl rfl|exact .inr rfl|assumption) :
  PS X (.Assign [.Name y py] (.ListComp elt [⟨target,iter,ifs,0⟩] scope pos) spos) (G_ (m_ wi nt fr g c te) (aU i)):=by
 intro pins s σ H D I h;rw[exec_Assign_Name_used _ _ _ _ hsw];refine zI (wpAny_standAt (zI ?_));show wpAny _ X.A (do let _ <- comprehension (.ListComp elt [⟨target,iter,ifs,0⟩] scope pos) scope X.env _ (newList []) false (eval iter X.env) (some (assign (.Name y py) X.env))) _ _ s;refine zI (nX (wpAny_comprehension_free (use:=some (assign (.Name y py) X.env)) (Q:=λ_ s'=>SP X pins D .next s') rfl hs (m9 hcl) hkind hnames (thn (hi pins s σ H _ I h) λxv s1 h1=>thn h1 λitv s2 h2=>?_)) (λ_ s' hq=>rV (rV hq)) λ_ _ e=>e);refine uq (Q:=λx H1=>aU i x σ H1 D.nx) (RR:=λacc C=>compPost (model X.prog X.w) X.A X.xe (some (assign (.Name y py) X.env)) (λ_ s'=>SP X pins D .next s') acc C) hc (fL.of hcl hlen hB hcell hkind) hcell hg hif he h2 λacc C s' H' ⟨m,hm⟩ hI hF hq=>?_
 show wpAny _ X.A (assign (.Name y py) X.env (.ref acc)) _ _ _;refine wpAny_assign_Name (xK hI hN hyi hy (v:=.ref acc) rfl (λs3 I3 ⟨a,sb,ha⟩=>?_) hf);have hne:C≠a:=by
  rcases ha with rfl|ha
  ·exact hF.2.1
  ·exact λz=>hF.2.2.2.2.1 y a ha z.symm
 refine⟨m,hm.sameBut sb hne,λh' sb'=>⟨_,H',I3.turned (t':=s3.toks) (λb o hb e=>sb'.extBut b o hb e) hF.1 hF.2.1 hF.2.2.2.1 hF.2.2.2.2.1 hF.2.2.2.2.2,hq⟩⟩
end
structure ItemsOf(J:It)(xs:List V)(L:Hp->Prop):Prop where
 go:∀i H,L H->i<xs.length->J.go i H
 yld:∀i H x H',L H->i<xs.length->J.yld i H x H'->H'=H/\xs[i]?=some x
 stop:∀H,L H->J.stop xs.length H
def cV{K:W.Frag}{a:Addr}{xs:List V}:ItemsOf (Itl K a) xs (λH=>SqL K H a xs) :=
 ⟨λi H h hi=>⟨xs,xs[i],h,by simp[hi]⟩,λi H x H' h hi y=>⟨y.1,y.2 xs h⟩,λH h=>⟨xs,h,Nat.le_refl _⟩⟩
def eO(lo:Int)(n:Nat):List V:=(List.range n).map λi:Nat=>V.int (lo+(i:Int))
def kZ{lo:Int}{n:Nat}:ItemsOf (Itr lo n) (eO lo n) (λ_=>True) :=
 ⟨λi H _ hi=>by show i<n;simpa[eO] using hi,λi H x H' _ hi y=>⟨y.1,by
  have hi:i<n:=by simpa[eO] using hi
  rw[y.2];simp[eO,hi]⟩,λH _=>by show n<=_;simp[eO]⟩
def nU(z:Str):List V:=z.cps.toList.map λc=>V.str ⟨#[c]⟩
def items_str{z:Str}:ItemsOf (Its z) (nU z) (λ_=>True) :=
 ⟨λi H _ hi=>by show i<z.cps.size;simpa[nU] using hi,λi H x H' _ hi y=>⟨y.1,by
  obtain⟨_,c,e,rfl⟩:=y;have hi:i<z.cps.size:=by simpa[nU] using hi
  have e:z.cps[i]=c:=by simpa[hi] using e
  simp[nU,hi,e]⟩,λH _=>by show z.cps.size<=_;simp[nU]⟩
def fO(xs:List V)(nt:Nat)(fvs:St)(Pv:Nat->List V->Hp->Prop):Nat->Nat->St->List V->Hp->Prop:=λi m σ' ys H' =>
 m=xs.length-i/\i<=xs.length/\Pv i ys H'/\∃tv:List (Option V),tv.length=nt/\σ'=tv++fvs
def fO.next{xs:List V}{nt:Nat}{fvs:St}{Pv:Nat->List V->Hp->Prop}{i:Nat}{tv:List (Option V)}{ys:List V}{H:Hp}(hi:i<xs.length)(p:Pv (i+1) ys H)(ht:tv.length=nt) :
  ∃m',m'<xs.length-i/\fO xs nt fvs Pv (i+1) m' (tv++fvs) ys H:=⟨xs.length-(i+1),by lia,rfl,hi,p,tv,ht,rfl⟩
def gJ{J:It}{xs:List V}{L:Hp->Prop}{σ:St}{H1:Hp}{nt:Nat}{fr:List Nat}{g:TG}{c:TT}{te:TE}{Q:VK}{acc:Addr}(it:ItemsOf J xs L)(Pv:Nat->List V->Hp->Prop)
  (h0:Pv 0 [] (upd H1 acc (.lst []))) (hL:∀i ys H',i<=xs.length->Pv i ys H'->L H'/\H' acc=some (.lst ys))
  (turn:∀i x tv ys H',xs[i]?=some x->i<xs.length->Pv i ys H'->tv.length=nt->g x (tv++fr.map λi=>(σ[i]?).getD none) H' λσ2 H3 =>
   c σ2 H3 λb H4=>if b=true then te σ2 H4 λy H5=>ys.length<sizeLine/\H5 acc=some (.lst ys)/\∃m',m'<xs.length-i/\fO xs nt (fr.map λi=>(σ[i]?).getD none) Pv (i+1) m' σ2 (ys++[y]) (upd H5 acc (.lst (ys++[y])))
    else ∃m',m'<xs.length-i/\fO xs nt (fr.map λi=>(σ[i]?).getD none) Pv (i+1) m' σ2 ys H4)
  (hd:∀ys H',Pv xs.length ys H'->Q (.ref acc) H'):pH J nt fr g c te σ H1 Q acc:=by
 refine⟨fO xs nt (fr.map λi=>(σ[i]?).getD none) Pv,⟨xs.length,by simp,Nat.zero_le _,h0,List.replicate nt none,by simp,rfl⟩,?_⟩;rintro i m σ' ys H' ⟨rfl,hi,p,tv,htv,rfl⟩;obtain⟨l,ha⟩:=hL i ys H' hi p;refine⟨ha,?_⟩;by_cases hlt:i<xs.length
 ·refine .inr ⟨it.go i H' l hlt,λx H2 y=>?_⟩;obtain⟨rfl,hx⟩:=it.yld i H' x H2 l hlt y;exact turn i x tv ys H2 hx hlt p htv
 ·have e:i=xs.length:=by lia
  subst e;exact .inl ⟨it.stop H' l,hd ys H' p⟩
end L2
namespace L2
open PySem PySem.Spec PyProof.Rows PySem.SeqAt
inductive Dt where
 | non|bl (b:Bool)|int (i:Int)|str (x:Str)|lst (xs:List Dt)|tup (xs:List Dt)
mutual
def Rep(K:W.Frag)(H:Hp):Dt->V->Prop
 | .non,v=>v=.non
 | .bl b,v=>v=.bl b
 | .int i,v=>v=.int i
 | .str x,v=>v=.str x
 | .lst ds,v=>∃p xs,v=.ref p/\SqL K H p xs/\dw K H ds xs
 | .tup ds,v=>∃p xs,v=.ref p/\SqT K H p xs/\dw K H ds xs
def dw(K:W.Frag)(H:Hp):List Dt->List V->Prop
 | [],xs=>xs=[]
 | d::ds,xs=>∃x r,xs=x::r/\Rep K H d x/\dw K H ds r
end
mutual
def gR:Dt->Dt->Bool
 | .non,.non=>true
 | .bl a,.bl b=>a==b
 | .bl a,.int b=>(if a then 1 else 0)==b
 | .int a,.bl b=>a==(if b then 1 else 0)
 | .int a,.int b=>a==b
 | .str a,.str b=>a==b
 | .lst xs,.lst ys=>fP xs ys
 | .tup xs,.tup ys=>fP xs ys
 | _,_=>false
def fP:List Dt->List Dt->Bool
 | [],[]=>true
 | x::xs,y::ys=>gR x y && fP xs ys
 | _,_=>false
end
mutual
def jo:Dt->Nat
 | .lst xs=>fQ xs+1
 | .tup xs=>fQ xs+1
 | _=>0
def fQ:List Dt->Nat
 | []=>0
 | x::xs=>max (jo x) (fQ xs)
end
theorem dw.length{K:W.Frag}{H:Hp}:∀{ds:List Dt} {xs:List V},dw K H ds xs->ds.length=xs.length
 | [],xs,h=>by rw[show xs=[] from by simpa[dw] using h];rfl
 | d::ds,xs,h=>by
  obtain⟨x,r,rfl,_,h2⟩:∃x r,xs=x::r/\Rep K H d x/\dw K H ds r:=by simpa[dw] using h
  simp[dw.length h2]
theorem dw.get{K:W.Frag}{H:Hp}:∀{ds:List Dt} {xs:List V} {j:Nat} {d:Dt},dw K H ds xs->ds[j]?=some d->∃x,xs[j]?=some x/\Rep K H d x
 | [],_,_,_,_,e=>by simp at e
 | d0::ds,xs,j,d,h,e=>by
  obtain⟨x,r,rfl,h1,h2⟩:∃x r,xs=x::r/\Rep K H d0 x/\dw K H ds r:=by simpa[dw] using h
  cases j with
  | zero =>
   have e:d0=d:=by simpa using e
   subst e;exact⟨x,rfl,h1⟩
  | succ j =>
   obtain⟨y,e1,e2⟩:=dw.get (j:=j) h2 (by simpa using e);exact⟨y,by simpa using e1,e2⟩
theorem yh:∀{ds:List Dt} {j:Nat} {d:Dt},ds[j]?=some d->jo d<=fQ ds
 | [],_,_,e=>by simp at e
 | d0::ds,j,d,e=>by
  cases j with
  | zero =>
   have e:d0=d:=by simpa using e
   subst e;simp only[fQ];lia
  | succ j =>
   have:=yh (ds:=ds) (j:=j) (d:=d) (by simpa using e);simp only[fQ];lia
theorem qT:∀(ds es:List Dt),ds.length=es.length->((List.range ds.length).all λj=>gR (ds.getD j .non) (es.getD j .non))=fP ds es
 | [],[],_=>rfl
 | [],_::_,h=>by simp at h
 | _::_,[],h=>by simp at h
 | d::ds,e::es,h=>by
  have h:ds.length=es.length:=by simpa using h
  rw[mS,List.range_succ_eq_map,List.all_cons,List.all_map];have:=qT ds es h;simp only[fP];rw[<- this]
  rfl
theorem jU:∀(ds es:List Dt),ds.length≠es.length->fP ds es=false
 | [],[],h=>by simp at h
 | [],_::_,_=>rfl
 | _::_,[],_=>rfl
 | d::ds,e::es,h=>by
  have h:ds.length≠es.length:=λz=>h (by simp[z])
  simp only[fP,jU ds es h,Bool.and_false]
mutual
theorem yj:∀d:Dt,gR d d=true
 | .non=>rfl
 | .bl b=>by simp[gR]
 | .int i=>by simp[gR]
 | .str x=>by simp[gR]
 | .lst xs=>by simp only[gR];exact iQ xs
 | .tup xs=>by simp only[gR];exact iQ xs
theorem iQ:∀ds:List Dt,fP ds ds=true
 | []=>rfl
 | d::ds=>by simp only[fP,yj d,iQ ds,Bool.and_true]
end
section
variable{X:Cx}{pins:pV}{σ:St}{H:Hp}{s:Shared}
def rT{a:Addr}{xs ys:List V}(I:Inv X pins σ H s)(h:SqL X.K H a xs)(h':SqT X.K H a ys):False:=by
 obtain⟨its,_,pl,_⟩:=I.list h;obtain⟨its',_,pt,_⟩:=I.tuple h';obtain⟨o,n,e,c,_,_⟩:=pl;obtain⟨o',e',c',_⟩:=pt;rw[e] at e';cases e';rw[c] at c';exact gL c' (by decide)
mutual
theorem Wh(I:Inv X pins σ H s):∀(d d':Dt)(v:V),Rep X.K H d v->Rep X.K H d' v->d=d'
 | .non,d',v,h,h'=>by
  have h:v=.non:=by simpa[Rep] using h
  subst h;cases d' <;> simp[Rep] at h' <;> rfl
 | .bl b,d',v,h,h'=>by
  have h:v=.bl b:=by simpa[Rep] using h
  subst h;cases d' <;> simp[Rep] at h'
  rw[h']
 | .int b,d',v,h,h'=>by
  have h:v=.int b:=by simpa[Rep] using h
  subst h;cases d' <;> simp[Rep] at h'
  rw[h']
 | .str b,d',v,h,h'=>by
  have h:v=.str b:=by simpa[Rep] using h
  subst h;cases d' <;> simp[Rep] at h'
  rw[h']
 | .lst ds,d',v,h,h'=>by
  obtain⟨p,xs,rfl,hq,hr⟩:∃p xs,v=.ref p/\SqL X.K H p xs/\dw X.K H ds xs:=by simpa only[Rep] using h
  cases d' with
  | lst es =>
   obtain⟨p',ys,e,hq',hr'⟩:∃p' ys,V.ref p=.ref p'/\SqL X.K H p' ys/\dw X.K H es ys:=by simpa only[Rep] using h'
   cases e;rw[I.tZ hq' hq] at hr';rw[k_ I ds es xs hr hr']
  | tup es =>
   obtain⟨p',ys,e,hq',hr'⟩:∃p' ys,V.ref p=.ref p'/\SqT X.K H p' ys/\dw X.K H es ys:=by simpa only[Rep] using h'
   cases e;exact(rT I hq hq').elim
  | _=>simp[Rep] at h'
 | .tup ds,d',v,h,h'=>by
  obtain⟨p,xs,rfl,hq,hr⟩:∃p xs,v=.ref p/\SqT X.K H p xs/\dw X.K H ds xs:=by simpa only[Rep] using h
  cases d' with
  | tup es =>
   obtain⟨p',ys,e,hq',hr'⟩:∃p' ys,V.ref p=.ref p'/\SqT X.K H p' ys/\dw X.K H es ys:=by simpa only[Rep] using h'
   cases e;rw[I.xM hq' hq] at hr';rw[k_ I ds es xs hr hr']
  | lst es =>
   obtain⟨p',ys,e,hq',hr'⟩:∃p' ys,V.ref p=.ref p'/\SqL X.K H p' ys/\dw X.K H es ys:=by simpa only[Rep] using h'
   cases e;exact(rT I hq' hq).elim
  | _=>simp[Rep] at h'
theorem k_(I:Inv X pins σ H s):∀(ds es:List Dt)(xs:List V),dw X.K H ds xs->dw X.K H es xs->ds=es
 | [],es,xs,h,h'=>by
  have h:xs=[]:=by simpa[dw] using h
  subst h;cases es with
  | nil=>rfl
  | cons e es=>simp[dw] at h'
 | d::ds,es,xs,h,h'=>by
  obtain⟨x,r,rfl,h1,h2⟩:∃x r,xs=x::r/\Rep X.K H d x/\dw X.K H ds r:=by simpa only[dw] using h
  cases es with
  | nil=>simp[dw] at h'
  | cons e es =>
   obtain⟨x',r',e',h1',h2'⟩:∃x' r',x::r=x'::r'/\Rep X.K H e x'/\dw X.K H es r':=by simpa only[dw] using h'
   cases e';rw[Wh I d e x h1 h1',k_ I ds es r h2 h2']
end
structure Eq3(A:Around)(s:Shared)(u v:Value)(b:Bool):Prop where
 eq:EqAt A s u v b
 rc:RcAt A s u v b
 ne:RcNeAt A s u v (!b)
def pI(I:Inv X pins σ H s){n:Nat}{A:Around}(ih:∀(d d':Dt)(x y:V)(u v:Value),jo d<=n->Rep X.K H d x->Rep X.K H d' y->RelV x u->RelV y v->Eq3 A.in1 s u v (gR d d'))
  {ds es:List Dt} {xs ys:List V} {us vs:xD} (hd:fQ ds<=n) (hx:dw X.K H ds xs) (hy:dw X.K H es ys) (ru:Vals xs us) (rv:Vals ys vs) :
  ∀j (h1:j<us.toArray.size) (h2:j<vs.toArray.size),EqAt A.in1 s us.toArray[j] vs.toArray[j] (gR (ds.getD j .non) (es.getD j .non)):=by
 intro j h1 h2;have l1:j<ds.length:=by rw[hx.length,ru.length];simpa using h1
 have l2:j<es.length:=by rw[hy.length,rv.length];simpa using h2
 have e1:ds[j]?=some ds[j]:=by simp[l1]
 have e2:es[j]?=some es[j]:=by simp[l2]
 obtain⟨x,ex,rx⟩:=hx.get e1;obtain⟨y,ey,ry⟩:=hy.get e2;obtain⟨u,eu,qu⟩:=ru.get ex;obtain⟨v,ev,qv⟩:=rv.get ey;have h1':j<us.length:=by simpa using h1
 have h2':j<vs.length:=by simpa using h2
 have z1:us.toArray[j]=u:=by
  have:us[j]?=some us[j]:=by simp[h1']
  rw[this] at eu;simpa using eu
 have z2:vs.toArray[j]=v:=by
  have:vs[j]?=some vs[j]:=by simp[h2']
  rw[this] at ev;simpa using ev
 rw[z1,z2];have g1:ds.getD j .non=ds[j]:=by simp[List.getD,l1]
 have g2:es.getD j .non=es[j]:=by simp[List.getD,l2]
 rw[g1,g2];exact(ih _ _ x y u v (rX (yh e1) hd) rx ry qu qv).eq
def Nk(I:Inv X pins σ H s){n:Nat}{A:Around}(hu:A.units<cLine)(ih:∀(d d':Dt)(x y:V)(u v:Value),jo d<=n->Rep X.K H d x->Rep X.K H d' y->RelV x u->RelV y v->Eq3 A.in1 s u v (gR d d'))
  {ds es:List Dt} {p q:Addr} (hd:fQ ds<=n) (hp:Rep X.K H (.lst ds) (.ref p)) (hq:Rep X.K H (.lst es) (.ref q)):Eq3 A s (.ref p) (.ref q) (fP ds es):=by
 obtain⟨p',xs,e,lx,hx⟩:∃p' xs,V.ref p=.ref p'/\SqL X.K H p' xs/\dw X.K H ds xs:=by simpa only[Rep] using hp
 cases e;obtain⟨q',ys,e,ly,hy⟩:∃q' ys,V.ref q=.ref q'/\SqL X.K H q' ys/\dw X.K H es ys:=by simpa only[Rep] using hq
 cases e;obtain⟨us,ru,pu,_⟩:=I.list lx;obtain⟨vs,rv,pv',_⟩:=I.list ly;have both:RcAt A s (.ref p) (.ref q) (fP ds es)/\RcNeAt A s (.ref p) (.ref q) (!fP ds es):=by
  by_cases hl:ds.length=es.length
  ·have hsz:us.toArray.size=vs.toArray.size:=by simp[<- ru.length,<- rv.length,<- hx.length,<- hy.length,hl]
   have hz:us.toArray.size=ds.length:=by simp[<- ru.length,<- hx.length]
   have a:=RcAt.lists pu.isList pv'.isList hsz hu (pI I ih hd hx hy ru rv);have b:=RcNeAt.lists pu.isList pv'.isList hsz hu (pI I ih hd hx hy ru rv);rw[hz,qT ds es hl] at a b;exact⟨a,b⟩
  ·have hsz:(us.toArray.size != vs.toArray.size)=true:=by simp[<- ru.length,<- rv.length,<- hx.length,<- hy.length,hl]
   rw[jU ds es hl];exact⟨RcAt.lists_lengths pu.isList pv'.isList hsz hu,RcNeAt.lists_lengths pu.isList pv'.isList hsz hu⟩
 refine⟨?_,both.1,both.2⟩;by_cases hpq:p=q
 ·subst hpq;have:ds=es:=by
   rw[I.tZ ly lx] at hy;exact k_ I ds es xs hx hy
  subst this;rw[iQ];exact EqAt.same _
 ·exact EqAt.of_refs hpq both.1
def Qq(I:Inv X pins σ H s){n:Nat}{A:Around}(hu:A.units<cLine)(ih:∀(d d':Dt)(x y:V)(u v:Value),jo d<=n->Rep X.K H d x->Rep X.K H d' y->RelV x u->RelV y v->Eq3 A.in1 s u v (gR d d'))
  {ds es:List Dt} {p q:Addr} (hd:fQ ds<=n) (hp:Rep X.K H (.tup ds) (.ref p)) (hq:Rep X.K H (.tup es) (.ref q)):Eq3 A s (.ref p) (.ref q) (fP ds es):=by
 obtain⟨p',xs,e,lx,hx⟩:∃p' xs,V.ref p=.ref p'/\SqT X.K H p' xs/\dw X.K H ds xs:=by simpa only[Rep] using hp
 cases e;obtain⟨q',ys,e,ly,hy⟩:∃q' ys,V.ref q=.ref q'/\SqT X.K H q' ys/\dw X.K H es ys:=by simpa only[Rep] using hq
 cases e;obtain⟨us,ru,pu,_⟩:=I.tuple lx;obtain⟨vs,rv,pv',_⟩:=I.tuple ly;have hz:us.toArray.size=ds.length:=by simp[<- ru.length,<- hx.length]
 have hz':vs.toArray.size=es.length:=by simp[<- rv.length,<- hy.length]
 have key:((List.range (min us.toArray.size vs.toArray.size)).all (λj=>gR (ds.getD j .non) (es.getD j .non)) && us.toArray.size==vs.toArray.size)=fP ds es:=by
  rw[hz,hz'];by_cases hl:ds.length=es.length
  ·rw[<- hl,Nat.min_self,qT ds es hl];simp
  ·rw[jU ds es hl];simp[hl]
 have a:=RcAt.tuples pu pv' hu (pI I ih hd hx hy ru rv);have b:=RcNeAt.tuples pu pv' hu (pI I ih hd hx hy ru rv);rw[key] at a b;refine⟨?_,a,b⟩;by_cases hpq:p=q
 ·subst hpq;have:ds=es:=by
   rw[I.xM ly lx] at hy;exact k_ I ds es xs hx hy
  subst this;rw[iQ];exact EqAt.same _
 ·exact EqAt.of_refs hpq a
end
section
variable{X:Cx}{pins:pV}{σ:St}{H:Hp}{s:Shared}
def gj{ds:List Dt}{x:V}(h:Rep X.K H (.lst ds) x):∃p xs,x=.ref p/\SqL X.K H p xs:=by
 obtain⟨p,xs,e,l,_⟩:∃p xs,x=.ref p/\SqL X.K H p xs/\dw X.K H ds xs:=by simpa only[Rep] using h
 exact⟨p,xs,e,l⟩
def gk{ds:List Dt}{x:V}(h:Rep X.K H (.tup ds) x):∃p xs,x=.ref p/\SqT X.K H p xs:=by
 obtain⟨p,xs,e,l,_⟩:∃p xs,x=.ref p/\SqT X.K H p xs/\dw X.K H ds xs:=by simpa only[Rep] using h
 exact⟨p,xs,e,l⟩
theorem Dl(I:Inv X pins σ H s){n:Nat}{A:Around}(ih:∀(d d':Dt)(x y:V)(u v:Value),jo d<n->Rep X.K H d x->Rep X.K H d' y->RelV x u->RelV y v->Eq3 A.in1 s u v (gR d d'))
  {d d':Dt} {x y:V} {u v:Value} (hu:A.units+n<cLine) (hd:jo d<=n) (hx:Rep X.K H d x) (hy:Rep X.K H d' y) (rx:RelV x u) (ry:RelV y v):Eq3 A s u v (gR d d'):=by
 have hu0:A.units<cLine:=by lia
 cases d with
 | non =>
  have e:x=V.non:=by simpa[Rep] using hx
  subst e;cases rx;cases d' with
  | non =>
   have e:y=V.non:=by simpa[Rep] using hy
   subst e;cases ry;exact⟨(EqAt.same _),RcAt.none_none , RcNeAt.none_none ⟩
  | bl b =>
   have e:y=V.bl b:=by simpa[Rep] using hy
   subst e;cases ry;exact⟨(EqAt.none_bool b),RcAt.none_bool b,RcNeAt.none_bool b⟩
  | int b =>
   have e:y=V.int b:=by simpa[Rep] using hy
   subst e;obtain⟨u,rfl⟩:=ry;exact⟨(EqAt.none_int b u),RcAt.none_int b u,RcNeAt.none_int b u⟩
  | str b =>
   have e:y=V.str b:=by simpa[Rep] using hy
   subst e;obtain⟨u,rfl⟩:=ry;exact⟨(EqAt.none_str b u),RcAt.none_str b u,RcNeAt.none_str b u⟩
  | lst b =>
   obtain⟨pW,xsW,rfl,lW⟩:=gj hy;cases ry;obtain⟨itW,_,plW,_⟩:=I.list lW;exact⟨EqAt.none_list  plW.isList hu0,RcAt.none_list  plW.isList hu0,RcNeAt.none_list  plW.isList hu0⟩
  | tup b =>
   obtain⟨pW,xsW,rfl,lW⟩:=gk hy;cases ry;obtain⟨itW,_,plW,_⟩:=I.tuple lW;exact⟨EqAt.none_tuple  plW hu0,RcAt.none_tuple  plW hu0,RcNeAt.none_tuple  plW hu0⟩
 | bl a =>
  have e:x=V.bl a:=by simpa[Rep] using hx
  subst e;cases rx;cases d' with
  | non =>
   have e:y=V.non:=by simpa[Rep] using hy
   subst e;cases ry;exact⟨(EqAt.bool_none a),RcAt.bool_none a,RcNeAt.bool_none a⟩
  | bl b =>
   have e:y=V.bl b:=by simpa[Rep] using hy
   subst e;cases ry;exact⟨(EqAt.bool_bool a b),RcAt.bool_bool a b,RcNeAt.bool_bool a b⟩
  | int b =>
   have e:y=V.int b:=by simpa[Rep] using hy
   subst e;obtain⟨u,rfl⟩:=ry;exact⟨(EqAt.bool_int a b u),RcAt.bool_int a b u,RcNeAt.bool_int a b u⟩
  | str b =>
   have e:y=V.str b:=by simpa[Rep] using hy
   subst e;obtain⟨u,rfl⟩:=ry;exact⟨(EqAt.bool_str a b u),RcAt.bool_str a b u,RcNeAt.bool_str a b u⟩
  | lst b =>
   obtain⟨pW,xsW,rfl,lW⟩:=gj hy;cases ry;obtain⟨itW,_,plW,_⟩:=I.list lW;exact⟨EqAt.bool_list a plW.isList hu0,RcAt.bool_list a plW.isList hu0,RcNeAt.bool_list a plW.isList hu0⟩
  | tup b =>
   obtain⟨pW,xsW,rfl,lW⟩:=gk hy;cases ry;obtain⟨itW,_,plW,_⟩:=I.tuple lW;exact⟨EqAt.bool_tuple a plW hu0,RcAt.bool_tuple a plW hu0,RcNeAt.bool_tuple a plW hu0⟩
 | int a =>
  have e:x=V.int a:=by simpa[Rep] using hx
  subst e;obtain⟨t,rfl⟩:=rx;cases d' with
  | non =>
   have e:y=V.non:=by simpa[Rep] using hy
   subst e;cases ry;exact⟨(EqAt.int_none a t),RcAt.int_none a t,RcNeAt.int_none a t⟩
  | bl b =>
   have e:y=V.bl b:=by simpa[Rep] using hy
   subst e;cases ry;exact⟨(EqAt.int_bool a t b),RcAt.int_bool a t b,RcNeAt.int_bool a t b⟩
  | int b =>
   have e:y=V.int b:=by simpa[Rep] using hy
   subst e;obtain⟨u,rfl⟩:=ry;exact⟨(EqAt.int_int a t b u),RcAt.int_int a t b u,RcNeAt.int_int a t b u⟩
  | str b =>
   have e:y=V.str b:=by simpa[Rep] using hy
   subst e;obtain⟨u,rfl⟩:=ry;exact⟨(EqAt.int_str a t b u),RcAt.int_str a t b u,RcNeAt.int_str a t b u⟩
  | lst b =>
   obtain⟨pW,xsW,rfl,lW⟩:=gj hy;cases ry;obtain⟨itW,_,plW,_⟩:=I.list lW;exact⟨EqAt.int_list a t plW.isList hu0,RcAt.int_list a t plW.isList hu0,RcNeAt.int_list a t plW.isList hu0⟩
  | tup b =>
   obtain⟨pW,xsW,rfl,lW⟩:=gk hy;cases ry;obtain⟨itW,_,plW,_⟩:=I.tuple lW;exact⟨EqAt.int_tuple a t plW hu0,RcAt.int_tuple a t plW hu0,RcNeAt.int_tuple a t plW hu0⟩
 | str a =>
  have e:x=V.str a:=by simpa[Rep] using hx
  subst e;obtain⟨t,rfl⟩:=rx;cases d' with
  | non =>
   have e:y=V.non:=by simpa[Rep] using hy
   subst e;cases ry;exact⟨(EqAt.str_none a t),RcAt.str_none a t,RcNeAt.str_none a t⟩
  | bl b =>
   have e:y=V.bl b:=by simpa[Rep] using hy
   subst e;cases ry;exact⟨(EqAt.str_bool a t b),RcAt.str_bool a t b,RcNeAt.str_bool a t b⟩
  | int b =>
   have e:y=V.int b:=by simpa[Rep] using hy
   subst e;obtain⟨u,rfl⟩:=ry;exact⟨(EqAt.str_int a t b u),RcAt.str_int a t b u,RcNeAt.str_int a t b u⟩
  | str b =>
   have e:y=V.str b:=by simpa[Rep] using hy
   subst e;obtain⟨u,rfl⟩:=ry;exact⟨(EqAt.str_str a t b u),RcAt.str_str a t b u,RcNeAt.str_str a t b u⟩
  | lst b =>
   obtain⟨pW,xsW,rfl,lW⟩:=gj hy;cases ry;obtain⟨itW,_,plW,_⟩:=I.list lW;exact⟨EqAt.str_list a t plW.isList hu0,RcAt.str_list a t plW.isList hu0,RcNeAt.str_list a t plW.isList hu0⟩
  | tup b =>
   obtain⟨pW,xsW,rfl,lW⟩:=gk hy;cases ry;obtain⟨itW,_,plW,_⟩:=I.tuple lW;exact⟨EqAt.str_tuple a t plW hu0,RcAt.str_tuple a t plW hu0,RcNeAt.str_tuple a t plW hu0⟩
 | lst a =>
  obtain⟨pU,xsU,rfl,lU⟩:=gj hx;cases rx;obtain⟨itU,_,plU,_⟩:=I.list lU;cases d' with
  | non =>
   have e:y=V.non:=by simpa[Rep] using hy
   subst e;cases ry;exact⟨EqAt.list_none  plU.isList hu0,RcAt.list_none  plU.isList hu0,RcNeAt.list_none  plU.isList hu0⟩
  | bl b =>
   have e:y=V.bl b:=by simpa[Rep] using hy
   subst e;cases ry;exact⟨EqAt.list_bool b plU.isList hu0,RcAt.list_bool b plU.isList hu0,RcNeAt.list_bool b plU.isList hu0⟩
  | int b =>
   have e:y=V.int b:=by simpa[Rep] using hy
   subst e;obtain⟨u,rfl⟩:=ry;exact⟨EqAt.list_int b u plU.isList hu0,RcAt.list_int b u plU.isList hu0,RcNeAt.list_int b u plU.isList hu0⟩
  | str b =>
   have e:y=V.str b:=by simpa[Rep] using hy
   subst e;obtain⟨u,rfl⟩:=ry;exact⟨EqAt.list_str b u plU.isList hu0,RcAt.list_str b u plU.isList hu0,RcNeAt.list_str b u plU.isList hu0⟩
  | lst b =>
   obtain⟨pW,xsW,rfl,lW⟩:=gj hy;cases ry;obtain⟨itW,_,plW,_⟩:=I.list lW;have hd:fQ a+1<=n:=by simpa only[jo] using hd
   exact Nk I (n:=n-1) hu0 (λd d' x y u v h=>ih d d' x y u v (by lia)) (by lia) hx hy
  | tup b =>
   obtain⟨pW,xsW,rfl,lW⟩:=gk hy;cases ry;obtain⟨itW,_,plW,_⟩:=I.tuple lW;exact⟨EqAt.list_tuple plU.isList plW hu0,RcAt.list_tuple plU.isList plW hu0,RcNeAt.list_tuple plU.isList plW hu0⟩
 | tup a =>
  obtain⟨pU,xsU,rfl,lU⟩:=gk hx;cases rx;obtain⟨itU,_,plU,_⟩:=I.tuple lU;cases d' with
  | non =>
   have e:y=V.non:=by simpa[Rep] using hy
   subst e;cases ry;exact⟨EqAt.tuple_none  plU hu0,RcAt.tuple_none  plU hu0,RcNeAt.tuple_none  plU hu0⟩
  | bl b =>
   have e:y=V.bl b:=by simpa[Rep] using hy
   subst e;cases ry;exact⟨EqAt.tuple_bool b plU hu0,RcAt.tuple_bool b plU hu0,RcNeAt.tuple_bool b plU hu0⟩
  | int b =>
   have e:y=V.int b:=by simpa[Rep] using hy
   subst e;obtain⟨u,rfl⟩:=ry;exact⟨EqAt.tuple_int b u plU hu0,RcAt.tuple_int b u plU hu0,RcNeAt.tuple_int b u plU hu0⟩
  | str b =>
   have e:y=V.str b:=by simpa[Rep] using hy
   subst e;obtain⟨u,rfl⟩:=ry;exact⟨EqAt.tuple_str b u plU hu0,RcAt.tuple_str b u plU hu0,RcNeAt.tuple_str b u plU hu0⟩
  | lst b =>
   obtain⟨pW,xsW,rfl,lW⟩:=gj hy;cases ry;obtain⟨itW,_,plW,_⟩:=I.list lW;exact⟨EqAt.tuple_list plU plW.isList hu0,RcAt.tuple_list plU plW.isList hu0,RcNeAt.tuple_list plU plW.isList hu0⟩
  | tup b =>
   obtain⟨pW,xsW,rfl,lW⟩:=gk hy;cases ry;obtain⟨itW,_,plW,_⟩:=I.tuple lW;have hd:fQ a+1<=n:=by simpa only[jo] using hd
   exact Qq I (n:=n-1) hu0 (λd d' x y u v h=>ih d d' x y u v (by lia)) (by lia) hx hy
end
section
variable{X:Cx}{pins:pV}{σ:St}{H:Hp}{s:Shared}
theorem eq3(I:Inv X pins σ H s):∀(n:Nat)(A:Around)(d d':Dt)(x y:V)(u v:Value),A.units+n<cLine->jo d<=n->Rep X.K H d x->Rep X.K H d' y->RelV x u->RelV y v->Eq3 A s u v (gR d d'):=by
 intro n
 induction n with
 | zero=>exact λA d d' x y u v hu hd hx hy rx ry=>Dl I (n:=0) (λ_ _ _ _ _ _ h=>gL h (Nat.not_lt_zero _)) hu hd hx hy rx ry
 | succ n ih=>exact λA d d' x y u v hu hd hx hy rx ry=>Dl I (n:=n+1) (λd d' x y u v h hx hy rx ry=>ih A.in1 d d' x y u v (by show A.units+1+n<cLine;lia) (Nat.le_of_lt_succ h) hx hy rx ry) hu hd hx hy rx ry
end
section
variable{X:Cx}
def Wi{k:Nat}(hr:Room k X.A):OpR X (compareOp .NotEq) (λx y H Q=>∃d d',Rep X.K H d x/\Rep X.K H d' y/\jo d<=100/\Q (.bl (!gR d d')) H):=by
 intro pins s σ H x y v u Q I rx ry h;obtain⟨d,d',h1,h2,hd,q⟩:=h;exact(eq3 I 100 X.A d d' x y v u (by have:=hr.un;lia) hd h1 h2 rx ry).ne X.prog X.w X.xe _ ⟨.bl _,H,I,rfl,q⟩
end
end L2
namespace L2
open PySem PySem.Spec PyProof.Rows
def isW:V->Bool
 | .int _=>true
 | _=>false
def acO:V->Bool
 | .int _=>true
 | .bl _=>true
 | _=>false
def isB:V->Bool
 | .bl _=>true
 | _=>false
def isS:V->Bool
 | .str _=>true
 | _=>false
def Qs(x:V):isW x=(acO x && !isB x):=by cases x <;> rfl
section
variable{K:W.Frag}{H:Hp}{x:V}{n:String}
def Qt(h:dj K H x (.type n)):rR K (.type n) (.ty "int")=some (acO x):=by cases h <;> rfl
def Av(h:dj K H x (.type n)):rR K (.type n) (.ty "bool")=some (isB x):=by cases h <;> rfl
def Qu(h:dj K H x (.type n)):rR K (.type n) (.ty "str")=some (isS x):=by cases h <;> rfl
def JW(h:dj K H x (.type n)):rR K (.type n) (.ty "list")=some (n == "list"):=by cases h <;> rfl
def pJ(h:dj K H x (.type n)):rR K (.type n) (.ty "tuple")=some (n == "tuple"):=by cases h <;> rfl
end
def Yd{α:Type}{c:α}{cs:List α}:atI (c::cs) (0:Int)=some c:=cP (j:=0) rfl
def Qv{α:Type}{xs:List α}{i:Int}(h0:0<=i)(h1:i<xs.length):∃v,atI xs i=some v/\v∈xs:=by
 obtain⟨j,rfl⟩:∃j:Nat,i=(j:Int):=⟨i.toNat,by lia⟩;have hj:j<xs.length:=by lia
 exact⟨xs[j],cP (by simp[hj]),List.getElem_mem hj⟩
def Same.new{H:Hp}{p:Addr}{o:HO}(h:H p=none):Same H (upd H p o):=λb u e=>by
 rw[aZ (aP e h)];exact e
def Off(p:Addr)(H H':Hp):Prop:=∀b,b≠p->H' b=H b
theorem Off.upd{p:Addr}{H:Hp}{o:HO}:Off p H (upd H p o):=λ_ h=>aZ h
def bN{n:Nat}(h:n<=1000000):n<=sizeLine:=rX h (by decide)
def Wj{P:Program}{w:World}{K:W.Frag}{mg:xC}{base:Heap}{CX:CXT}{x:Str}{ps:List Str}{sp:Sp}{k:Nat}{st:Stmt}{N:List Str}{f:Addr}{fd:FuncData}
  (F:Fun K x x st f fd) (S:aL N ps (aC st)) (len:∀vs H Q E,sp vs H Q E->vs.length=ps.length)
  (hbody:∀(cdv:Value)(A:Around)(outer:List Env)(s:Shared)(H:Hp)(vs:List V)(Q:VK)(E:XK),Room k (A.deeper (envOfC x (aC st) s.heap.objs.size f cdv))->sp vs H Q E ->
   ∃t,PSs (gP CX P w K mg base N x (aC st) f cdv A outer s H E).nox (bI st) t/\t { nx:=λ_ H'=>Q .non H',rt:=Q } (start N vs) H):iZ P w K mg base CX (k+1) f fd ps sp:=by
 obtain⟨oc,od,kV,doc,pm,an,cdv,ct,osl,rfl,lk,hcd⟩:=F.ex;refine pC lk hcd S len λA outer s H vs Q E hr hsp=>?_
 obtain⟨t,h,q⟩:=hbody cdv A outer s H vs Q E hr hsp;exact⟨t,h.nox,q⟩
structure ur(B newId initId:String)(bm:xD):Prop where
 call:ExcCallFacts B newId initId
 split:splitId newId=some (B, "__new__")
 kind:builtinKind newId=some .builtinFn
 row:Manifest.signature? newId=some ⟨.any,B,B,.cls,[⟨"args", .varPos,false⟩,⟨"kwargs", .varKw,false⟩]⟩
 hasB:bm.contains (.type B)=true
 acP:bm.contains (.type "BaseException")=true
 noA:bm.contains (.type "AttributeError")=false
 noN:bm.contains (.type "NameError")=false
 canon:Manifest.canonical newId=Manifest.canonical "BaseException.__new__"
def tD:ur "ValueError" "ValueError.__new__" "ValueError.__init__" [.type "ValueError", .type "Exception", .type "BaseException", .type "object"] :=
 ⟨PySem.F.excBase_ValueError.toExcCallFacts,PySem.F.excBase_ValueError.newSplit,PySem.F.excBase_ValueError.newKind,PySem.F.excBase_ValueError.newRow,PySem.F.excBase_ValueError.hasB,PySem.F.excBase_ValueError.hasBase,PySem.F.excBase_ValueError.noAttr,PySem.F.excBase_ValueError.noName,PySem.F.excBase_ValueError.canon⟩
def ur.under{B newId initId:String}{bm:xD}(F:ur B newId initId bm)(R:Addr):ur B newId initId (.ref R::bm) :=
 ⟨F.call,F.split,F.kind,F.row,by rw[List.contains_cons,F.hasB,Bool.or_true],by rw[List.contains_cons,F.acP,Bool.or_true],by rw[List.contains_cons,F.noA];rfl,by rw[List.contains_cons,F.noN];rfl,F.canon⟩
section
variable{prog:Program}{w:World}{M:Model}{A:Around}{E:xB}{R:Result->Shared->Prop}{h:Heap}{g:Array GenState}{d:Drawn}{t:Nat}{os:OsState}
variable{nm q:Str}{C N:Addr}{bs bm:xD}{hdct:Bool}{sn:List Str}{sub:xD}{ab:Bool}{col:Option Bool}{dd:xI}{k0 k1 k2 k3 k5:Option Value}{B newId initId:String}
def ur.has(F:ur B newId initId bm):(Value.ref C::bm).contains (.type B)=true:=by rw[List.contains_cons,F.hasB,Bool.or_true]
def xq(F:ur B newId initId bm){rest:xD}{Q:xA}(hC:h.get? C=some (excClassObj nm q C N bs bm hdct sn sub ab col dd k0 k1 k2 k3 k5 newId))(hq:Q () ⟨h,g,d,t,os⟩) :
  wpAny M A (checkBuiltinCall newId ⟨.ref C::rest,[]⟩) Q E ⟨h,g,d,t,os⟩:=by
 have e1:(Value.ref C::bm).contains (.type B)=true:=F.has;have e2:=F.call.noStar;simp only[checkBuiltinCall,F.kind,F.split,F.row]
 repeat (first|refine wpAny_loadPart_at hC ?_|(refine wpAny_isSubtype_exc hC ?_;rw[e1])|refine wpAny_staticBase_exc hC ?_|refine wpAny_madeBy_exc hC ?_|simp only[bne_self_eq_false,Bool.false_eq_true,if_false]|wp_step)
 exact hq
def Wk(F:ur B newId initId bm){rest:xD}(hC:h.get? C=some (excClassObj nm q C N bs bm hdct sn sub ab col dd k0 k1 k2 k3 k5 newId))
  (hq:R (.ok (.ret (.ref (h.objs.size+1)))) ⟨(h.push { cls:=.type "tuple", data:=.seq rest.toArray }).push { cls:=.ref C,data:=.fields #[.ref h.objs.size,.none,.none,.none,.bool false,.none] },g,d,t,os⟩) (hz:rest.length<=sizeLine) :
  codeAny (model prog w) A (.builtin newId ⟨.ref C::rest,[]⟩) R ⟨h,g,d,t,os⟩:=by
 have e0:=F.call.ends;have e1:(Value.ref C::bm).contains (.type B)=true:=F.has;have e2:(Value.ref C::bm).contains (.type "AttributeError")=false:=by rw[List.contains_cons,F.noA];rfl
 have e3:(Value.ref C::bm).contains (.type "NameError")=false:=by rw[List.contains_cons,F.noN];rfl
 refine codeAny_builtinAt F.call.entry ?_;unfold Builtin.«BaseException.__new__»;refine PySem.wpAt_bind ?_;show PySem.wpAt _ _ _ (stack >>= _) _ _ _;refine PySem.wpAt_bind (PySem.wpAt_stack λp below=>PySem.wpAt_of_wpAny ?_)
 wp_walk;refine PySem.wpAt_of_wpAny ?_
 rw[F.call.owner]
 repeat (first|with_reducible refine wpAny_madeHere_exc F.canon hC ?_|with_reducible refine wpAny_loadPart_at hC ?_|(with_reducible refine wpAny_isSubtype_exc hC ?_;first|rw[e1]|rw[e2]|rw[e3])|wp_step)
 show R _ _;rw[Heap.size_push];exact hq
def Qw(F:ur B newId initId bm){rest:xD}{fI:Addr}{oI:Obj}{Q:xB}(hC:h.get? C=some (excClassObj nm q C N bs bm hdct sn sub ab col dd k0 k1 k2 k3 k5 newId))
  (hi:W.Looks (model prog w) h (typeLookup (.ref C) "__init__") (some (.ref fI))) (hfI:h.get? fI=some oI) (hfc:oI.cls=.type "function")
  (hq:∀h',(∀b o,h.get? b=some o->h'.get? b=some o)->h'.get? (h.objs.size+1)=some { cls:=.ref C,data:=.fields #[.ref h.objs.size,.none,.none,.none,.bool false,.none] }->wpAny (model prog w) (A.under (.builtin "type.__call__" ⟨.ref C::rest,[]⟩)) (PySem.call (.ref fI) (.ref (h.objs.size+1)::rest)) (λr s'=>r=.none/\Q (.ref (h.objs.size+1)) s') E ⟨h',g,d,t,os⟩) (hz:rest.length<=sizeLine) :
  wpAny (model prog w) A (PySem.call (.ref C) rest) Q E ⟨h,g,d,t,os⟩:=by
 have f1:=tc_lookup;have f2:=tc_bind (.ref C);have hT:(⟨h,g,d,t,os⟩:Shared).TypeIs (.ref C) "type":=⟨_,hC,rfl⟩;refine wpAny_call (codeAny_of_tree ?_);show wpAny _ _ (callAny (.ref C) _) _ _ _
 repeat (any_goals (first|assumption|with_reducible refine wpAny_loadPart_at hC ?_|wp_step))
 refine⟨rfl,codeAny_call_builtin_at (Code.quiet_builtin _ (by decide +kernel)) entry_typeCall (wpAny_check_type_call_sub hC ?_)⟩
 repeat (first|with_reducible refine wpAny_loadPart_at hC ?_|with_reducible refine wpAny_madeBy_exc hC ?_|wp_step)
 refine codeAny_call_builtin_code (Code.quiet_builtin _ F.call.quiet) (xq F hC (Wk F hC ?_ hz));show wpAny _ _ _ _ _ (⟨(h.push { cls:=.type "tuple", data:=.seq rest.toArray }).push { cls:=.ref C,data:=.fields #[.ref h.objs.size,.none,.none,.none,.bool false,.none] },g,d,t,os⟩:Shared)
 generalize hh2:(h.push { cls:=.type "tuple", data:=.seq rest.toArray }).push { cls:=.ref C,data:=.fields #[.ref h.objs.size,.none,.none,.none,.bool false,.none] }=h2
 have kp:∀b o,h.get? b=some o->h2.get? b=some o:=λb o e=>by rw[<- hh2];exact uB _ (uB _ e)
 have hget:h2.get? (h.objs.size+1)=some { cls:=.ref C,data:=.fields #[.ref h.objs.size,.none,.none,.none,.bool false,.none] }:=by rw[<- hh2];heap_get
 have htup:h2.get? h.objs.size=some { cls:=.type "tuple", data:=.seq rest.toArray }:=by rw[<- hh2];exact uB _ (Heap.get?_push_at rfl rfl)
 have hcC:(Value.ref C::bm).contains (.ref C)=true:=by simp
 unfold isInstance
 repeat (first|with_reducible refine wpAny_loadPart_at hget ?_|(with_reducible refine wpAny_isSubtype_exc (kp _ _ hC) ?_;rw[hcC])|wp_step)
 show wpAny _ _ (typeLookup (.ref C) _) _ _ _;refine hi _ _ _ _ kp ?_;refine nV (zI ?_);unfold bindSpecial;refine wpAny_bind (wpAny_typeOf (T := "function") ⟨_,kp _ _ hfI,hfc⟩ ?_);rw[zS (by decide)];refine rV (zI (nX (hq h2 kp hget) (λr s' hr=>?_) λ_ _ x=>x));obtain⟨rfl,hQ⟩:=hr
 wp_walk
 exact hQ
end
section
variable{prog:Program}{w:World}{A:Around}{E:xB}{s:Shared}{K:W.Frag}{e C:Addr}{oe:Obj}{vs:xF}{name:Str}{v:Value}
def uw(hf:oe.data=.fields vs):W.notCls oe=true:=by
 unfold W.notCls;rw[hf]
def Aw:List Value->Bool
 | .ref _::r=>Aw r
 | l=>l==[.type "ValueError", .type "Exception", .type "BaseException", .type "object"]
def Nm(self:Value):refuseLoop self "__setattr__" [.type "ValueError", .type "Exception", .type "BaseException", .type "object"]=pure ():=by kernel_rfl
theorem yt(self:Value):∀{l:xD},Aw l=true->refuseLoop self "__setattr__" l=pure ()
 | .ref c::r,h=>by
  rw[refuseLoop_ref];exact yt self h
 | [],h=>by cases h
 | .type n::r,h=>by
  have z:(Value.type n::r)=[.type "ValueError", .type "Exception", .type "BaseException", .type "object"]:=gN h;rw[z];exact Nm self
 | .none::r,h=>by cases (gN h:(Value.none::r)=_)
 | .bool _::r,h=>by cases (gN h:(_::r)=_)
 | .int _ _::r,h=>by cases (gN h:(_::r)=_)
 | .str _ _::r,h=>by cases (gN h:(_::r)=_)
 | .bytes _ _::r,h=>by cases (gN h:(_::r)=_)
 | .float _ _::r,h=>by cases (gN h:(_::r)=_)
 | .builtin _::r,h=>by cases (gN h:(_::r)=_)
 | .ellipsis::r,h=>by cases (gN h:(_::r)=_)
 | .notImplemented::r,h=>by cases (gN h:(_::r)=_)
theorem ux:∀{l:xD},Aw l=true->l.contains (.type "object")=true/\l.isEmpty=false
 | .ref c::r,h=>⟨by rw[List.contains_cons,(ux (l:=r) h).1,Bool.or_true],rfl⟩
 | [],h=>by cases h
 | .type n::r,h=>by
  have z:(Value.type n::r)=[.type "ValueError", .type "Exception", .type "BaseException", .type "object"]:=gN h;rw[z];exact⟨by decide,rfl⟩
 | .none::r,h=>by cases (gN h:(Value.none::r)=_)
 | .bool _::r,h=>by cases (gN h:(_::r)=_)
 | .int _ _::r,h=>by cases (gN h:(_::r)=_)
 | .str _ _::r,h=>by cases (gN h:(_::r)=_)
 | .bytes _ _::r,h=>by cases (gN h:(_::r)=_)
 | .float _ _::r,h=>by cases (gN h:(_::r)=_)
 | .builtin _::r,h=>by cases (gN h:(_::r)=_)
 | .ellipsis::r,h=>by cases (gN h:(_::r)=_)
 | .notImplemented::r,h=>by cases (gN h:(_::r)=_)
def pK(K:W.Frag)(C:Addr):Bool:=(W.clsIn K C).any λcd=>Aw cd.mro
def JX{ox:Obj}{od:Option Obj}{tk:Tok}{R:Result->Shared->Prop}(X:K.In s.heap)(I:W.InstAt s.heap e ox C od)(hp:pK K C=true)(ht:W.takerIn K C name=some none)
  (h:∀b,wpAny (model prog w) A.in1 (Builtin.ObjectAttr.storeInOwnDict (.ref e) (.ref C) (.str name tk) name v b)
   (λfin s'=>match fin with|.done f=>R (.ok f) s'|.again c'=>c'.quiet=true/\codeAny (model prog w) A c' R s') (λx s'=>R (.error x) s') s) :
  codeAny (model prog w) A (.call (.builtin "object.__setattr__") ⟨[.ref e,.str name tk,v],[]⟩) R s:=by
 have SF:=PySem.F.store_object;obtain⟨cd,hc,ho⟩:=W.any_some hp;obtain⟨agm,ne⟩:=ux ho;have sub:W.Looks (model prog w) s.heap (isInstance (.ref e) (.type "object")) true:=I.type.andThen (W.looks_mroIn X (by unfold W.mroIn;rw[hc,Option.bind_some,if_neg (by rw[ne];decide),agm]));refine codeAny_call_builtin SF.slot.plain SF.entry (@W.check_slot (model prog w) _ _ s "object.__setattr__" "object" "__setattr__" (.ref e) [.str name tk,v] [] _ SF.kind SF.split sub (SF.args (.ref e) (.str name tk) v) ?_);obtain⟨attr,ha,hr⟩:=Option.bind_eq_some_iff.mp ht;have hm:W.Looks (model prog w) s.heap (mroOf (.ref C)) cd.mro:=(W.looks_clsIn X hc).andThen .now;have L3:W.Looks (model prog w) s.heap (Builtin.ObjectAttr.storeTaker? attr) none:=by
  cases attr with
  | none=>exact .now
  | some a =>
   obtain⟨b,hb,q⟩:=Option.map_eq_some_iff.mp hr;refine(W.looks_takesIn X hb).andThen ?_;cases b with
   | true=>cases q
   | false=>exact .now
 rw[W.osa_eq,refuse_eq];refine zI (zI (I.type.here (zI (hm.here ?_))));rw[yt _ ho];refine rV (zI (I.type.here (zI ((W.looks_findIn X ha).here (zI (L3.here ?_))))));exact h _
def Qx{Q:xA}(X:K.In s.heap)(he:s.heap.get? e=some oe)(hc:oe.cls=.ref C)(hd:oe.dict=none)(hf:oe.data=.fields vs)
  (hs:W.findIn K (.ref C) "__setattr__" = some (some (.builtin "object.__setattr__"))) (hp:pK K C=true) (ht:W.takerIn K C name=some none) (hh:W.hasDictIn K C=true)
  (h:∀h',(∀b o,b≠e->s.heap.get? b=some o->h'.get? b=some o)->h'.get? e=some { oe with dict:=some s.heap.objs.size }->h'.Ns1 s.heap.objs.size (λy=>if y=name then some v else none)->Q () { s with heap:=h',toks:=s.toks+2 }) :
  wpAny (model prog w) A (setAttr (.ref e) name v) Q E s:=by
 have J:W.InstAt s.heap e oe C none:=⟨he,hc,uw hf,by rw[hd];trivial⟩;refine W.set_plain X J hs (JX (s:={ s with toks:=s.toks+1 }) X J hp ht λb=>?_)
 obtain⟨cd,hcd,hdd⟩:=W.any_some hh;obtain⟨oc,od,odt,osl⟩:=oe;simp only at hc hd hf;subst hc hd hf;refine zI (rV (zI (zI (wpAny_loadPart he (zI (W.Looks.here (s:={ s with toks:=s.toks+1 }) (W.looks_clsIn X hcd) ?_))))))
 rw[hdd];show wpAny (model prog w) A.in1 (alloc { cls:=.type "dict", data:=.dict #[] } >>= λd=>(update e λo=>{ o with dict:=some d }) >>= λ_=>dictMade (.ref C) e d) _ _ _
 have hlt:e<s.heap.objs.size:=uA he;have hne:e≠s.heap.objs.size:=qE hlt;refine zI (wpAny_alloc (zI (wpAny_update (uB _ he) ?_)));show wpAny (model prog w) A.in1 (pure (some s.heap.objs.size)) _ _ _;refine rV (zI (rV (zI ?_)));have e0:((s.heap.push { cls:=.type "dict", data:=.dict #[] }).update e λo=>{ o with dict:=some s.heap.objs.size }).get? s.heap.objs.size=some { cls:=.type "dict", data:=.dict #[] } :=
  (nN _ _ hne).trans (oP s.heap rfl)
 have e1:((s.heap.push { cls:=.type "dict", data:=.dict #[] }).update e λo=>{ o with dict:=some s.heap.objs.size }).get? e=some { cls:=.ref C,dict:=some s.heap.objs.size,data:=.fields vs,slots:=osl } :=
  Heap.get?_update_self _ (uB _ he) rfl
 have n0:((s.heap.push { cls:=.type "dict", data:=.dict #[] }).update e λo=>{ o with dict:=some s.heap.objs.size }).Ns s.heap.objs.size (λ_=>none) :=
  ⟨_,#[],_,e0,rfl,(λy hy=>absurd hy (by simp)),λ_=>rfl⟩
 refine wpAny_nsSet1 (Heap.Ns1.of_empty n0) λh' hn2 hs2=>?_
 obtain⟨oD,esD,epD,hoD,hdD,hcD⟩:=hn2.count (PySem.Within.cons (ns:=[]) name v (λy hy=>gL rfl hy));refine zI (wpAny_lookBehind hoD (by rw[hdD];exact pastItsLine_dict (rX hcD (by show 1<=_;decide))) ?_);refine rV (h h' (λb o hb q=>?_) ((hs2.2 _ hne).trans e1) hn2);rw[hs2.2 b (qE (uA q))];exact(nN _ _ (Ne.symm hb)).trans (uB _ q)
def Qy{dx:Addr}{mA:xC}{ns:List Str}{Q:xA}(X:K.In s.heap)(he:s.heap.get? e=some oe)(hc:oe.cls=.ref C)(hd:oe.dict=some dx)(hf:oe.data=.fields vs)(hn:s.heap.Ns1 dx mA)(hne:dx≠e)
  (hs:W.findIn K (.ref C) "__setattr__" = some (some (.builtin "object.__setattr__"))) (hp:pK K C=true) (ht:W.takerIn K C name=some none) (hh:W.hasDictIn K C=true) (hw:PySem.Within mA ns) (hsz:ns.length<=1000)
  (h:∀h',Heap.SameBut dx s.heap h'->h'.Ns1 dx (λy=>if y=name then some v else mA y)->Q () { s with heap:=h',toks:=s.toks+2 }) :
  wpAny (model prog w) A (setAttr (.ref e) name v) Q E s:=by
 obtain⟨od,ho,_⟩:=xR hn;have J:W.InstAt s.heap e oe C (some od):=⟨he,hc,uw hf,by rw[hd];exact ho⟩;refine W.set_plain X J hs (JX (s:={ s with toks:=s.toks+1 }) X J hp ht λb=>?_)
 obtain⟨cd,hcd,hdd⟩:=W.any_some hh;obtain⟨oc,od',odt,osl⟩:=oe;simp only at hc hd hf;subst hc hd hf;refine zI (rV (zI (zI (wpAny_loadPart he (zI (W.Looks.here (s:={ s with toks:=s.toks+1 }) (W.looks_clsIn X hcd) ?_))))))
 rw[hdd];refine rV (a:=some dx) (zI (rV (zI (wpAny_nsSet1 (s:={ s with toks:=s.toks+1 }) hn λh' hn2 hs2=>?_))))
 obtain⟨oD,esD,epD,hoD,hdD,hcD⟩:=hn2.count (PySem.Within.cons name v hw);refine zI (wpAny_lookBehind hoD (by rw[hdD];exact pastItsLine_dict (rX hcD (by rw[mS];have:=sizeLine_eq;lia))) ?_);exact rV (h h' hs2 hn2)
end
def jq(e C:Addr)(dx:xI):HO:=.ext λh=>∃t sl,h.get? e=some { cls:=.ref C,dict:=dx,data:=.fields #[.ref t,.none,.none,.none,.bool false,.none],slots:=sl }
def jB(dx:Addr)(fs:List (Str×V)):HO:=.ext λh=>∃mA,h.Ns1 dx mA/\(∀f,mX (fs.lookup f) (mA f))/\PySem.Within mA (fs.map (·.1))/\fs.length<=100
section
variable{P:Program}{w:World}{H:Hp}{h:Heap}{e C dx:Addr}
def JZ{do':xI}{t:Addr}{sl:Array (Option Value)}(q:h.get? e=some { cls:=.ref C,dict:=do',data:=.fields #[.ref t,.none,.none,.none,.bool false,.none],slots:=sl }):cM P w H h e (jq e C do') :=
 ⟨⟨t,sl,q⟩,⟨_,q⟩,λh1 h2 ⟨t,sl,z⟩ k=>⟨t,sl,k _ z⟩⟩
def J0{fs:List (Str×V)}{mA:xC}(n:h.Ns1 dx mA)(r:∀f,mX (fs.lookup f) (mA f))(wi:PySem.Within mA (fs.map (·.1)))(hl:fs.length<=100):cM P w H h dx (jB dx fs):=by
 refine⟨⟨mA,n,r,wi,hl⟩,?_,λh1 h2 ⟨mA,n,r,wi,hl⟩ k=>⟨mA,n.at k,r,wi,hl⟩⟩;obtain⟨o,_,_,q,_⟩:=n;exact⟨o,q⟩
end
structure acQ(K:W.Frag)(C f:Addr)(bm:xD):Prop where
 obj:∃nm q N bs hdct sn sub ab col dd k0 k1 k2 k3 k5,K.lookup C=some (excClassObj nm q C N bs bm hdct sn sub ab col dd k0 k1 k2 k3 k5 "ValueError.__new__")
 J1:ur "ValueError" "ValueError.__new__" "ValueError.__init__" bm
 init:W.findIn K (.ref C) "__init__" = some (some (.ref f))
 fn:∃o,K.lookup f=some o/\o.cls=.type "function"
 kp:W.keepIn K (.ref C)=true
structure Ax(K:W.Frag)(C:Addr):Prop where
 sa:W.findIn K (.ref C) "__setattr__" = some (some (.builtin "object.__setattr__"))
 po:pK K C=true
 hd:W.hasDictIn K C=true
section
variable{X:Cx}{f C:Addr}{ps:List Str}{x:Str}{pos:Pos}{e:Expr}{t:TA}
def agn(K:W.Frag)(ta tv:TE)(f:Str):TS:=λD σ H=>tv σ H λy H1=>ta σ H1 λx H2=>∃a C,x=.ref a/\Ax K C/\W.takerIn K C f=some none /\
 ((H2 a=some (jq a C none)/\∀dx,H2 dx=none->D.nx σ (upd (upd H2 dx (jB dx [(f,y)])) a (jq a C (some dx)))) \/
  ∃dx fs,H2 a=some (jq a C (some dx))/\H2 dx=some (jB dx fs)/\dx≠a/\fs.length<100/\D.nx σ (upd H2 dx (jB dx (fZ f y fs))))
def nW{o value:Expr}{f:Str}{ta tv:TE}{pos':Pos}(ha:PE X o ta)(hv:PE X value tv)(hs:swapsWith value (some (.Attribute o f pos')) pos.line X.env=pure false:=by rfl):PS X (.Assign [.Attribute o f pos'] value pos) (agn X.K ta tv f):=by
 intro pins s σ H D I h;refine plainObj_wpAny_Assign_Attribute (thn (hv pins s σ H _ I h) λu s1 ⟨y,H1,I1,ry,q⟩=>thn (ha pins s1 σ H1 _ I1 q) λov s2 ⟨x,H2,I2,rx,a,C,ex,S,tk,q2⟩=>?_) hs;subst ex;obtain rfl:ov=Value.ref a:=rx;rcases q2 with⟨ho,q3⟩|⟨dx,fs,ho,hd,hne,hl,q3⟩
 ·obtain⟨⟨t,sl,ge⟩,_,_⟩:cM X.prog X.w H2 s2.heap a (jq a C none):=I2.hok a _ ho;refine Qx I2.kIn ge rfl rfl rfl S.sa S.po tk S.hd λh' kp ge' n'=>?_
  have hfr:H2 s2.heap.objs.size=none:=I2.hok.fresh (uC _);have nas:a≠s2.heap.objs.size:=aP ho hfr;have other:∀b,b≠a->b≠s2.heap.objs.size->(upd (upd H2 s2.heap.objs.size (jB s2.heap.objs.size [(f,y)])) a (jq a C (some s2.heap.objs.size))) b=H2 b:=λb h1 h2=>by rw[aZ h1,aZ h2]
  have nlt:∀b o,s2.heap.get? b=some o->b≠s2.heap.objs.size:=λb o z=>qE (uA z)
  have na:∀b,H2 b=none->b≠a:=λb z q=>by rw[q,ho] at z;cases z
  have qU:∀b u,H2 b=some u->u≠jq a C none->b≠a:=λb u z d q=>by
   rw[q,ho] at z;exact d (nI z).symm
  refine⟨σ,_,I2.un ⟨λb o z n _ _=>kp b o (na b n) z,λb o z n _ _=>⟨o.slots,kp b o (na b n) z⟩,λb o z n _=>by rw[other b (na b n) (nlt b o z)];exact n,λb o z _=>?_,λb xs z=>?_,λb o u z=>?_,λb ps z=>⟨#[],?_⟩⟩ (λb u z=>?_),q3 _ hfr⟩
  ·by_cases hb:b=a
   ·exact⟨_,by rw[hb];exact ge'⟩
   ·exact⟨o,kp b o hb z⟩
  ·rw[other b (qU b _ z (by intro q;cases q)) (aP z hfr)];exact z
  ·rw[other b (qU b _ z (by intro q;cases q)) (aP z hfr)];exact z
  ·rw[other b (qU b _ z (by intro q;cases q)) (aP z hfr),z];simp
  ·by_cases hb:b=a
   ·subst hb;rw[bA] at z;cases z;exact JZ ge'
   ·by_cases hb2:b=s2.heap.objs.size
    ·subst hb2;rw[aZ hb,bA] at z;cases z;refine J0 n' (λg=>?_) (λg hg=>?_) (by simp)
     ·show mX ([(f,y)].lookup g) (if g=f then some u else none);by_cases zz:g=f
      ·rw[if_pos zz,zz];simpa[List.lookup_cons,mX] using ry
      ·have:(g==f)=false:=by simpa using zz
       rw[yA zz];simp[List.lookup_cons,this,mX]
     ·by_cases zz:g=f
      ·simp[zz]
      ·exact gL (show (if g=f then some u else none)=none by rw[yA zz]) hg
    ·rw[other b hb hb2] at z;refine(I2.hok b u z).stay (λc v hc q=>kp c v ?_ q) (λc q=>?_) λc xs q=>?_
     ·rcases hc with rfl|hc
      ·exact hb
      ·exact qU c _ hc (by intro q;cases q)
     ·rw[other c (qU c _ q (by intro q;cases q)) (aP q hfr)];exact q
     ·rw[other c (qU c _ q (by intro q;cases q)) (aP q hfr)];exact q
 ·obtain⟨⟨t,sl,ge⟩,_,_⟩:cM X.prog X.w H2 s2.heap a (jq a C (some dx)):=I2.hok a _ ho;obtain⟨⟨mA,n,r,wi,hl'⟩,_,_⟩:cM X.prog X.w H2 s2.heap dx (jB dx fs):=I2.hok dx _ hd;refine Qy I2.kIn ge rfl rfl rfl n hne S.sa S.po tk S.hd wi (by rw[wE];lia) λh' sb n'=>?_
  refine⟨σ,_,I2.write (x:=dx) (e:=dx) (by rw[hd];trivial) (.inl rfl) (λb o hb z=>(sb.2 b hb).trans z) (let ⟨o,_,_,z,_⟩:=n';⟨o,z⟩) (J0 n' (λg=>?_) (λg hg=>?_) ?_),q3⟩
  ·show mX ((fZ f y fs).lookup g) (if g=f then some u else mA g);rw[dR];by_cases z:g=f
   ·rw[zS z,zS z];exact ry
   ·rw[yA z,yA z];exact r g
  ·by_cases z:g=f
   ·rw[z];exact(jz f y fs).1
   ·refine(jz f y fs).2 g (wi g λz2=>hg ?_);show (if g=f then some u else mA g)=none;rw[yA z];exact z2
  ·have:=kY f y fs;lia
structure ago(K:W.Frag)(C:Addr):Prop where
 ga:W.findIn K (.ref C) "__getattribute__" = some (some (.builtin "BaseException.__getattribute__"))
 gb:W.findIn K (.ref C) "__getattr__" = some none
 mb:W.mroIn K C (.type "BaseException")=some true
 hd:W.hasDictIn K C=true
end
section
variable{M:Model}{A:Around}{E:xB}{s:Shared}{base:Heap}{env:Env}{outer:List Env}{L e:Addr}{oe:Obj}{vs:xF}
structure Left(fr:List Addr)(h h':Heap)(e:Addr)(oe:Obj)(vs:xF)(T:Addr):Prop where
 keep:∀b o,b≠e->b ∉ fr->h.get? b=some o->(∀z,vs[1]?=some (.ref z)->b≠z)->h'.get? b=some o
 slot:∀b o,b∈fr->h.get? b=some o->∃sl,h'.get? b=some { o with slots:=sl }
 new:h.objs.size<=T
 ent:∃oT ts,h'.get? T=some oT/\oT.data=.fields ts/\ts[3]?=some .none
 obj:h'.get? e=some { oe with data:=.fields (vs.setIfInBounds 1 (.ref T)) }
def Wl(hl:s.heap.FunFrames base (env::outer))(he:s.heap.get? e=some oe)(hd:oe.data=.fields vs):e ∉ frs (env::outer):=λhm=>by
 obtain⟨_,o,ho,hn⟩:=hl.mem hm;rw[he] at ho;cases ho;exact hn vs hd
def nY{head:Value}{hadNext:Bool}{Q:xA}(hfr:A.frames=some (env::outer))(hl:s.heap.FunFrames base (env::outer))(hf:env.frame=some L)(he:s.heap.get? e=some oe)(hd:oe.data=.fields vs)(hsz:1<vs.size)
  (h:∀h' T,Left (frs (env::outer)) s.heap h' e oe vs T->Q () { s with heap:=h' }) :
  wpAny M A (do let a <- frameOf env;let pl <- entryPlaceOf L hadNext;let b <- EntryCells.newEntry head a .none (rawInt L) .none pl;setField (.ref e) 1 b) (λ_ s'=>wpAny M A (setFlight (.ref e) none) Q E s') E s:=by
 have hne:=Wl hl he hd;refine zI (wpAny_frameOf_fun hfr hl hf λg hg=>zI (wpAny_entryPlaceOf λpl hpl=>?_));unfold EntryCells.newEntry newFields;refine zI (wpAny_newObj_type ?_ (hpl.sizeOk5 _ _ _ _ _));have he1:g.get? e=some oe:=(hg.2.1 e hne).trans he;have gsz:s.heap.objs.size<=g.objs.size:=by
  have:=hg.1
  lia
 generalize hT:({ cls:=.type "traceback", data:=.fields ([head,.ref L,.none,rawInt L,.none]++(if pl.isEmpty then List.replicate 6 Value.none else pl)).toArray }:Obj)=oT
 obtain⟨ts,hts,h4⟩:∃ts:Array Value,oT.data=.fields ts/\3<ts.size:=by
  rw[<- hT];exact⟨_,rfl,by simp only[List.size_toArray,List.length_append,List.length_cons,List.length_nil];lia⟩
 have fresh:∀b o,g.get? b=some o->g.objs.size≠b:=λb o z=>Nat.ne_of_gt (uA z)
 have he2:(g.push oT).get? e=some oe:=uB _ he1;have hTe:g.objs.size≠e:=fresh e oe he1;refine wpAny_setField he2 hd hsz ?_;have hd3:=Obj.data_mapFields hd (·.setIfInBounds 1 (Value.ref g.objs.size));have he3:=Heap.get?_update_self (Obj.mapFields (·.setIfInBounds 1 (Value.ref g.objs.size))) he2 (Obj.isFreed_of_fields hd3);have hfr':oT.isFreed=false:=Obj.isFreed_of_fields hts;have hT3:((g.push oT).update e (Obj.mapFields (·.setIfInBounds 1 (Value.ref g.objs.size)))).get? g.objs.size=some oT:=(nN _ _ (Ne.symm hTe)).trans (oP g hfr');unfold setFlight;refine wpAny_bind (wpAny_field he3 hd3 (x:=.ref g.objs.size) (by simp[hsz]) ?_);rw[if_pos (show (Value.ref g.objs.size != Value.none)=true from by simp)];have J2:∀b o,b≠e->g.get? b=some o->(((g.push oT).update e (Obj.mapFields (·.setIfInBounds 1 (Value.ref g.objs.size)))).update g.objs.size (Obj.mapFields (·.setIfInBounds 3 ((none:xI).elim Value.none λf=>rawInt f)))).get? b=some o:=λb o hb z=>by
  rw[nN _ _ (fresh b o z),nN _ _ (Ne.symm hb)];exact uB _ z
 refine wpAny_setField hT3 hts h4 (h _ g.objs.size ⟨λb o hb hn z _=>J2 b o hb ((hg.2.1 b hn).trans z),λb o hb z=>?_,gsz,?_,?_⟩)
 ·obtain⟨sl,z2⟩:=hg.2.2 b o z;exact⟨sl,J2 b _ (λq=>hne (by rw[<- q];exact hb)) z2⟩
 ·exact⟨_,_,Heap.get?_update_self _ hT3 (Obj.isFreed_of_fields (Obj.data_mapFields hts _)),Obj.data_mapFields hts _,by simp[h4]⟩
 ·rw[nN _ _ hTe,he3];obtain⟨c1,d1,t1,s1⟩:=oe;simp only at hd;subst hd
  rfl
def Dm{Q:xA}(hfr:A.frames=some (env::outer))(hl:s.heap.FunFrames base (env::outer))(hf:env.frame=some L)(he:s.heap.get? e=some oe)(hd:oe.data=.fields vs)(h1:vs[1]?=some .none)
  (h:∀h' T,Left (frs (env::outer)) s.heap h' e oe vs T->Q () { s with heap:=h' }):wpAny M A (leaving env (.ref e)) Q E s:=by
 unfold leaving noteFrame;simp only[hf];refine zI (zI (wpAny_field he hd h1 ?_));rw[yA (by decide)];exact nY hfr hl hf he hd (Array.getElem?_eq_some_iff.mp h1).1 h
def Hz{Q:xA}{T0:Addr}{o0:Obj}{ts0:xF}(hfr:A.frames=some (env::outer))(hl:s.heap.FunFrames base (env::outer))(hf:env.frame=some L)(he:s.heap.get? e=some oe)(hd:oe.data=.fields vs)(h1:vs[1]?=some (.ref T0))
  (hT:s.heap.get? T0=some o0) (hdT:o0.data=.fields ts0) (h3:ts0[3]?=some .none) (hTe:T0≠e)
  (h:∀h' T,Left (frs (env::outer)) s.heap h' e oe vs T->Q () { s with heap:=h' }):wpAny M A (leaving env (.ref e)) Q E s:=by
 unfold leaving noteFrame;simp only[hf];refine zI (zI (wpAny_field he hd h1 ?_));rw[if_pos (show (Value.ref T0 != Value.none)=true from by simp)];refine zI (wpAny_field hT hdT h3 ?_);rw[if_neg (show ¬ ((Value.none==rawInt L)=true) from by simp[rawInt])];refine zI (wpAny_setField hT hdT (Array.getElem?_eq_some_iff.mp h3).1 ?_);have hoth:∀b,b≠T0->(s.heap.update T0 (Obj.mapFields (·.setIfInBounds 3 Value.none))).get? b=s.heap.get? b:=λb hb=>nN _ _ (Ne.symm hb)
 have hno:∀b o,s.heap.get? b=some o->(∀z,o.data≠.fields z)->b≠T0:=λb o z hn q=>by
  rw[q,hT] at z;cases z;exact hn ts0 hdT
 have hl2:(s.heap.update T0 (Obj.mapFields (·.setIfInBounds 3 Value.none))).FunFrames base (env::outer):=hl.of_keeps λb o z hn=>⟨o,(hoth b (hno b o z hn)).trans z,rfl⟩
 refine nY (s:={ s with heap:=s.heap.update T0 (Obj.mapFields (·.setIfInBounds 3 Value.none)) }) hfr hl2 hf ((hoth e (Ne.symm hTe)).trans he) hd (Array.getElem?_eq_some_iff.mp h1).1 λh' T lf=>h h' T ⟨λb o hb hn z hz=>lf.keep b o hb hn ((hoth b (hz T0 h1)).trans z) hz,λb o hb z=>?_,?_,lf.ent,lf.obj⟩
 ·obtain⟨_,o',ho',hn'⟩:=hl.mem hb;rw[z] at ho';cases ho';exact lf.slot b o hb ((hoth b (hno b o z hn')).trans z)
 ·have:=lf.new;rw[Heap.size_update] at this;exact this
end
def acR(n:Nat)(h:Heap)(a C:Addr)(dx:xI)(H:Hp):Prop :=
 ∃oe vs T oT ts,h.get? a=some oe/\oe.cls=.ref C/\oe.dict=dx/\oe.data=.fields vs/\vs[1]?=some (.ref T)/\T≠a/\h.get? T=some oT/\oT.data=.fields ts/\ts[3]?=some .none/\H a=none/\H T=none/\n<=a/\n<=T/\vs[2]?=some .none
def CX1(P:Program)(w:World):CXT:=λouter H s E ev s' =>
 ∃a C dx H',ev=.ref a/\s'.os=s.os/\AllBare s'.gens/\Un (frs outer) [] H H' s.heap s'.heap/\HOk P w H' s'.heap/\acR s.heap.objs.size s'.heap a C dx H'/\E (.ref C) dx H'
def ZQ{P:Program}{w:World}{X:Cx}:Passes (CX1 P w) X E0:=λ_ _ _ _ _ _ _ ⟨_,_,_,_,_,_,_,_,_,_,z⟩=>z.elim
def uy{P:Program}{w:World}{H:Hp}{h h':Heap}{fr:List Addr}{e T:Addr}{oe:Obj}{vs:xF}(ok:HOk P w H h)(lf:Left fr h h' e oe vs T)(he:H e=none)(hT:∀z,vs[1]?=some (.ref z)->H z=none)(hfr:∀b∈fr,H b=none):HOk P w H h':=λb u z=>by
 refine(ok b u z).stay (λc v hc q=>?_) (λ_ q=>q) λ_ _ q=>q
 have hcs:∃x,H c=some x:=by
  rcases hc with rfl|hc
  ·exact⟨_,z⟩
  ·exact⟨_,hc⟩
 obtain⟨x,hx⟩:=hcs;exact lf.keep c v (aP hx he) (λm=>by rw[hfr c m] at hx;cases hx) q λy hy=>aP hx (hT y hy)
def J3{H0 H:Hp}{h0 h h':Heap}{fs fr:List Addr}{e T:Addr}{oe:Obj}{vs:xF}(u:Un fs [] H0 H h0 h)(lf:Left fr h h' e oe vs T)(hfs:∀b,b∈fs->b∈fr)(hfr:∀b o,h0.get? b=some o->b∈fr->b∈fs)
  (he:h0.objs.size<=e) (hT:∀z,vs[1]?=some (.ref z)->h0.objs.size<=z):Un fs [] H0 H h0 h':=by
 have ne:∀b o,h0.get? b=some o->b≠e/\∀z,vs[1]?=some (.ref z)->b≠z:=λb o q =>
  ⟨qE (qB (uA q) he),λz hz=>qE (qB (uA q) (hT z hz))⟩
 refine⟨λb o q n hb hx=>lf.keep b o (ne b o q).1 (λm=>hb (hfr b o q m)) (u.keep b o q n hb hx) (ne b o q).2,λb o q n hb hx=>?_,u.free,λb o q hx=>?_,u.tups,u.mY,u.mZ⟩
 ·obtain⟨sl,z⟩:=u.slot b o q n hb hx;obtain⟨sl2,z2⟩:=lf.slot b _ (hfs b hb) z;exact⟨sl2,z2⟩
 ·obtain⟨o2,z⟩:=u.there b o q hx;by_cases m:b∈fr
  ·obtain⟨sl,z2⟩:=lf.slot b o2 m z;exact⟨_,z2⟩
  ·exact⟨o2,lf.keep b o2 (ne b o q).1 m z (ne b o q).2⟩
section
variable{P:Program}{w:World}{K:W.Frag}{mg:xC}{base:Heap}{N:List Str}{qual:Str}{scope:Scope}{f:Addr}{cd:Value}{A:Around}{outer:List Env}{s:Shared}{H:Hp}{E:XK}
def Ye:Passes (CX1 P w) (gP (CX1 P w) P w K mg base N qual scope f cd A outer s H E) E:=by
 intro pins σ H1 s1 ev s2 I hc;obtain⟨a,C,dx,H',rfl,hos,hb,un,hok,⟨oe,vs,T,oT,ts,ga,gc,gd,gf,g1,gne,gT,gt,g3,ha,hT,na,nT,g2⟩,q⟩:=hc;have I2:Inv (gP (CX1 P w) P w K mg base N qual scope f cd A outer s H E) pins σ H' s2:=I.call' (ch:=[]) hos un hok hb (λb z=>absurd z (by simp));show wpAny (model P w) (A.deeper (envOfC qual scope s.heap.objs.size f cd)) (leaving (envOfC qual scope s.heap.objs.size f cd) (.ref a)) _ _ s2;refine Hz (base:=base) I.ok.frames I2.stack rfl ga gf g1 gT gt g3 gne λh' T' lf=>?_
 have hz:∀z,vs[1]?=some (.ref z)->z=T:=λz hz=>by rw[g1] at hz;cases hz;rfl
 have s0:s.heap.objs.size<=s1.heap.objs.size:=I.sz;have Qz:∀b∈frs (envOfC qual scope s.heap.objs.size f cd::outer),H' b=none:=I2.oY;obtain⟨oT',ts',gT',gt',g3'⟩:=lf.ent;refine⟨a,C,dx,H',rfl,I2.os,I2.bare,J3 I2.base lf (λb hb=>?_) (λb o q m=>?_) (rX s0 na) (λz h=>by rw[hz z h];exact rX s0 nT),uy I2.hok lf ha (λz h=>by rw[hz z h];exact hT) Qz,?_,q⟩
 ·show b∈frs (envOfC qual scope s.heap.objs.size f cd::outer);unfold frs;rw[List.filterMap_cons];exact zD _ hb
 ·have m:b∈frs (envOfC qual scope s.heap.objs.size f cd::outer):=m;unfold frs at m;rw[List.filterMap_cons] at m;rcases vS.mp m with z|z
  ·exact gL (uA q) (by rw[z];exact qS _)
  ·exact z
 ·have hsz2:s.heap.objs.size<=s2.heap.objs.size:=I2.sz;have nTa:T'≠a:=λz=>gL (uA ga) (by rw[<- z];exact Nat.not_lt.mpr lf.new)
  refine⟨_,_,T',oT',ts',lf.obj,gc,gd,rfl,?_,nTa,gT',gt',g3',ha,I2.hok.fresh lf.new,rX s0 na,rX hsz2 lf.new,(Array.getElem?_setIfInBounds_ne (by decide)).trans g2⟩;have:1<vs.size:=(Array.getElem?_eq_some_iff.mp g1).1;simp[this]
end
mutual
def pyD:Dt->PyData
 | .non=>.none
 | .bl b=>.bool b
 | .int i=>.int i
 | .str x=>.str x
 | .lst xs=>.list (Dn xs)
 | .tup xs=>.tuple (Dn xs)
def Dn:List Dt->List PyData
 | []=>[]
 | x::xs=>pyD x::Dn xs
end
section
mutual
theorem HB:∀d:Dt,(pyD d).hasDict=false
 | .non=>by simp[pyD,PyData.hasDict]
 | .bl _=>by simp[pyD,PyData.hasDict]
 | .int _=>by simp[pyD,PyData.hasDict]
 | .str _=>by simp[pyD,PyData.hasDict]
 | .lst xs=>by simp only[pyD,PyData.hasDict];exact lg xs
 | .tup xs=>by simp only[pyD,PyData.hasDict];exact lg xs
theorem lg:∀ds:List Dt,PyData.hasDictAll (Dn ds)=false
 | []=>by simp[Dn,PyData.hasDictAll]
 | d::ds=>by simp only[Dn,PyData.hasDictAll,HB d,lg ds,Bool.or_false]
end
end
structure HD(K:W.Frag)(C R:Addr):Prop where
 g:ago K C
 mro:(W.clsIn K C).map (·.mro)=some [.ref C,.ref R,.type "ValueError", .type "Exception", .type "BaseException", .type "object"]
 ty:W.typeIn K (.ref C)=some (.type "type")
 ha:W.findIn K (.ref C) "__class__" = some (some (.builtin "object.__class__"))
 hn:W.specialIn K (.builtin "object.__class__") "__get__" = some (some (.builtin "getset_descriptor.__get__"))
 tk:W.takesIn K (.builtin "object.__class__")=some true
section
variable{K:W.Frag}{C R:Addr}
def HD.in(G:HD K C R)(b:Value):W.mroIn K C b=some ([Value.ref C,.ref R,.type "ValueError", .type "Exception", .type "BaseException", .type "object"].contains b):=by
 obtain⟨cd,hc,hm⟩:=Option.map_eq_some_iff.mp G.mro;unfold W.mroIn;rw[hc,Option.bind_some,hm]
 rfl
end
def ExcAt(H:Hp)(x C:Addr)(fs:List (Str×V)):Prop:=(fs=[]/\H x=some (jq x C none))\/∃dx,H x=some (jq x C (some dx))/\H dx=some (jB dx fs)/\dx≠x
def Wm(C:Addr)(f:Str):Sp:=λvs H Q _=>∃x v,vs=[.ref x,v]/\H x=some (jq x C none)/\∀dx,H dx=none->Q .non (upd (upd H dx (jB dx [(f,v)])) x (jq x C (some dx)))
def ZR(C:Addr)(f g:Str):Sp:=λvs H Q _=>∃x v y,vs=[.ref x,v,y]/\H x=some (jq x C none)/\∀dx,H dx=none->Q .non (upd (upd (upd H dx (jB dx [(f,v)])) x (jq x C (some dx))) dx (jB dx (fZ g y [(f,v)])))
structure fU(K:W.Frag)(mg:xC)(x qual:Str)(st:Stmt)(C R:Addr):Prop where
 ex:∃f fd,acQ K C f [.ref R,.type "ValueError", .type "Exception", .type "BaseException", .type "object"]/\Fun K "__init__" qual st f fd
 gl:mg x=some (.ref C)
 S:Ax K C
 I:HD K C R
def J1(R:Addr):ur "ValueError" "ValueError.__new__" "ValueError.__init__" [.ref R,.type "ValueError", .type "Exception", .type "BaseException", .type "object"]:=tD.under R
section
variable{P:Program}{w:World}{K:W.Frag}{mg:xC}{base:Heap}{CX:CXT}{qual f:Str}{st:Stmt}
def nZ(P:Program)(w:World)(K:W.Frag)(mg:xC)(base:Heap)(CX:CXT)(qual:Str)(st:Stmt)(ps:List Str)(sp:Sp):Prop:=∀f fd,Fun K "__init__" qual st f fd->iZ P w K mg base CX 1 f fd ps sp/\Binds K fd ps []
end
section
variable{K:W.Frag}{mg:xC}{x qual:Str}{st:Stmt}{C R f:Addr}{nm q:Str}{N:Addr}{bs:xD}{sn:List Str}{sub:xD}{ab:Bool}{col:Option Bool}{dd:xI}{k0 k1 k2 k3 k5:Option Value}{od an:xI}{osl:Array (Option Value)}{kV doc pm cdv ct:Value}
def pL(l:K.lookup C=some (excClassObj nm q C N bs [.ref R,.type "ValueError", .type "Exception", .type "BaseException", .type "object"] true sn sub ab col dd k0 k1 k2 k3 k5 "ValueError.__new__"))
  (sa:W.findIn K (.ref C) "__setattr__" = some (some (.builtin "object.__setattr__"))):Ax K C:=by
 have hc:∃cd,W.clsIn K C=some cd/\cd.mro=[.ref C,.ref R,.type "ValueError", .type "Exception", .type "BaseException", .type "object"]/\cd.hasDict=true:=by
  unfold W.clsIn;rw[l];exact⟨_,rfl,rfl,rfl⟩
 obtain⟨cd,h1,h2,h3⟩:=hc;refine⟨sa,?_,?_⟩
 ·unfold pK;rw[h1,Option.any_some,h2]
  rfl
 ·unfold W.hasDictIn;rw[h1,Option.any_some,h3]
def pN(l:K.lookup C=some (excClassObj nm q C N bs [.ref R,.type "ValueError", .type "Exception", .type "BaseException", .type "object"] true sn sub ab col dd k0 k1 k2 k3 k5 "ValueError.__new__"))
  (ga:W.findIn K (.ref C) "__getattribute__" = some (some (.builtin "BaseException.__getattribute__"))) (gb:W.findIn K (.ref C) "__getattr__" = some none)
  (ha:W.findIn K (.ref C) "__class__" = some (some (.builtin "object.__class__"))) (hn:W.specialIn K (.builtin "object.__class__") "__get__" = some (some (.builtin "getset_descriptor.__get__"))) (tk:W.takesIn K (.builtin "object.__class__")=some true):HD K C R:=by
 have hc:∃cd,W.clsIn K C=some cd/\cd.mro=[.ref C,.ref R,.type "ValueError", .type "Exception", .type "BaseException", .type "object"]/\cd.hasDict=true:=by
  unfold W.clsIn;rw[l];exact⟨_,rfl,rfl,rfl⟩
 obtain⟨cd,h1,h2,h3⟩:=hc;refine⟨⟨ga,gb,?_,?_⟩,?_,?_,ha,hn,tk⟩
 ·unfold W.mroIn;rw[h1,Option.bind_some,h2]
  rfl
 ·unfold W.hasDictIn;rw[h1,Option.any_some,h3]
 ·rw[h1,Option.map_some,h2]
 ·show (List.lookup C K).map (·.cls)=_;rw[l]
  rfl
def fU.mk1(m:mg x=some (.ref C))(l:K.lookup C=some (excClassObj nm q C N bs [.ref R,.type "ValueError", .type "Exception", .type "BaseException", .type "object"] true sn sub ab col dd k0 k1 k2 k3 k5 "ValueError.__new__"))
  (i:W.findIn K (.ref C) "__init__" = some (some (.ref f))) (lf:K.lookup f=some ⟨.type "function", od,.func (W.fnOf "__init__" qual (b_ st) (bI st) (aC st) .none kV doc pm an cdv ct),osl⟩)
  (c:W.codeIn K cdv qual=true) (kf:W.keepIn K (.ref f)=true) (kc:W.keepIn K (.ref C)=true) (S:Ax K C) (I:HD K C R):fU K mg x qual st C R :=
 ⟨⟨f,_,⟨⟨nm,q,N,bs,true,sn,sub,ab,col,dd,k0,k1,k2,k3,k5,l⟩,J1 R,i,⟨_,lf,rfl⟩,kc⟩,qQ lf c kf⟩,m,S,I⟩
end
section
variable{X:Cx}
def HF:OpR X (binaryOp .Mult) (λx y H Q=>∃z n,x=.str z/\y=.int n/\MulOk z n/\Q (.str (Txt.mul z n)) H):=by
 intro pins s σ H x y v u Q I rx ry h;obtain⟨z,n,rfl,rfl,ok,q⟩:=h;obtain⟨t,rfl⟩:=rx;obtain⟨t',rfl⟩:=ry;exact SB.mul ok λt'' k=>⟨.str _,H,I.tok _,⟨_,rfl⟩,q⟩
end
structure Shm(m d:Nat)(x:PyData):Prop where
 sh:x.showable=true
 ln:x.shown.length<=m
 dp:x.depth<=d
structure New(H H':Hp)(p:Addr)(o:HO):Prop where
 s:Same H H'
 e:H' p=some o
 n:∀a u,H a=some u->a≠p
def New.mk'{H:Hp}{p:Addr}{o:HO}(h:H p=none):New H (upd H p o) p o:=⟨Same.new h,bA,λa u q=>aP q h⟩
section
variable{X:Cx}{es:List Expr}{t:TA}{pos:Pos}
def QB(t:TA):TE:=λσ H Q=>t σ H λxs H1=>xs.length<=sizeLine/\∀p H',New H1 H' p (.tup xs)->Q (.ref p) H'
def J4(t:TA):TE:=λσ H Q=>t σ H λxs H1=>xs.length<=sizeLine/\∀p H',New H1 H' p (.lst xs)->Q (.ref p) H'
def bD{x1}(h:PA X es t):PE X (.Tuple es x1 pos) (QB t):=by
 intro pins s σ H Q I hq;refine wpAny_Tuple_spliced (thn (h pos pins s σ H _ I hq) λus s1 ⟨xs,H1,I1,r,z,q⟩=>⟨by rw[<- r.length];exact z,?_⟩);have hf:H1 s1.heap.objs.size=none:=I1.hok.fresh (uC _);refine⟨.ref s1.heap.objs.size,upd H1 s1.heap.objs.size (.tup xs),I1.laid (t':=s1.toks) (λb u e=>uB _ e) (uC _) ?_,rfl,q _ _ (.mk' hf)⟩;exact⟨z,us,r,⟨_,oP _ rfl,rfl,_,rfl⟩⟩
def bC(h:PA X es t):PE X (.List es pos) (J4 t):=by
 intro pins s σ H Q I hq;refine wpAny_List_spliced (thn (h pos pins s σ H _ I hq) λus s1 ⟨xs,H1,I1,r,z,q⟩=>⟨by rw[<- r.length];exact z,?_⟩);have hf:H1 s1.heap.objs.size=none:=I1.hok.fresh (uC _);refine⟨.ref s1.heap.objs.size,upd H1 s1.heap.objs.size (.lst xs),I1.laid (t':=s1.toks) (λb u e=>uB _ e) (uC _) ?_,rfl,q _ _ (.mk' hf)⟩;exact⟨z,us,0,r,oP _ rfl⟩
def QC:R2:=λx y H Q=>∃l b xs zs,x=.ref l/\y=.ref b/\H l=some (.lst xs)/\H b=some (.lst zs)/\xs.length+zs.length<=sizeLine/\∀p H',New H H' p (.lst (xs++zs))->Q (.ref p) H'
def dG:OpR X (binaryOp .Add) QC:=by
 intro pins s σ H x y v u Q I rx ry h;obtain⟨l,b,xs,zs,e1,e2,hH,hB,hz,q⟩:=h;exact ZK pins s σ H x y v u Q I rx ry ⟨l,b,xs,zs,e1,e2,hH,hB,hz,λp hp=>q p _ (.mk' hp)⟩
def QD:R2:=λx y H Q=>∃l k xs,x=.ref l/\y=.int k/\H l=some (.lst xs)/\-(2 ^ 63)<=k/\k<2 ^ 63/\xs.length*k.toNat<=sizeLine/\∀p H',New H H' p (.lst (List.replicate k.toNat xs).flatten)->Q (.ref p) H'
def Wn:OpR X (binaryOp .Mult) QD:=by
 intro pins s σ H x y v u Q I rx ry h;obtain⟨l,k,xs,e1,e2,hH,h1,h2,hz,q⟩:=h;exact ZL pins s σ H x y v u Q I rx ry ⟨l,k,xs,e1,e2,hH,h1,h2,hz,λp hp=>q p _ (.mk' hp)⟩
def J5:V->List V->Hp->VK->Prop:=λx vs H Q=>∃l xs y,x=.ref l/\vs=[y]/\H l=some (.lst xs)/\xs.length<sizeLine/\∀H',Off l H H'->H' l=some (.lst (xs++[y]))->Q .non H'
def HJ:MtM X "list.append" J5:=by
 intro pins s σ H x vs v us Q I rx rv h;obtain⟨l,xs,y,e1,e2,hH,hz,q⟩:=h;exact xZ pins s σ H x vs v us Q I rx rv ⟨l,xs,y,e1,e2,hH,hz,q _ Off.upd bA⟩
def cB{o e:Expr}{to te:TE}{apos cpos:Pos}(ho:PE X o to)(he:PE X e te)(hbase:attributeBase o "append" X.env (eval o X.env)=eval o X.env:=by rfl)
  (hfew:((backTo cpos (starEach [e] X.env)).all (λx=>!x.1) && (backToKw cpos (keywordEach [] X.env)).all (λx=>x.1.isSome)
   && decide (([e]:List Expr).length+([]:List Keyword).length+(if ([]:List Keyword).isEmpty then 0 else 1)<30))=true:=by rfl)
  (hline:(apos.endLine==cpos.line)=true:=by rfl) (hs:starEach [e] X.env=(false,eval e X.env)::starEach [] X.env:=by rfl) :
  PE X (.Call (.Attribute o "append" apos) [e] [] cpos) (tBM X.K "list" J5 to (iK te nQ)) :=
 JT PySem.F.plainAttrs_list PySem.F.slot_list_append PySem.F.type_list_append HJ ho (aj he ao hs) hbase hfew hline hs (by rfl)
end
def Tel(t:TE)(σ:St)(H:Hp)(v:V):Prop:=∀Q:VK,Q v H->t σ H Q
def QF(t:TA)(σ:St)(H:Hp)(vs:List V):Prop:=∀Q:List V->Hp->Prop,Q vs H->t σ H Q
section
variable{σ:St}{H:Hp}{v x y:V}{vs:List V}{t ta tb:TE}{tr:TA}{i:Nat}{Q:VK}{D:Ends}{s u:TS}{tg:TG}{c:TT}
def ZS(h:σ[i]?=some (some v)):Tel (cR i) σ H v:=λQ q=>⟨v,h,q⟩
def agp:Tel (tC v) σ H v:=λQ q=>q
def J6:QF nQ σ H []:=λQ q=>q
def Dp(h:Tel t σ H v)(k:QF tr σ H vs):QF (iK t tr) σ H (v::vs):=λQ q=>h _ (k _ q)
def J7{Q:List V->Hp->Prop}(h:t σ H λx H1=>tr σ H1 λxs H2=>Q (x::xs) H2):iK t tr σ H Q:=h
def QG{Q:List V->Hp->Prop}(h:Q [] H):nQ σ H Q:=h
def QJ(h:s { D with nx:=u D } σ H):Zj s u D σ H:=h
def Yg{nx bk ct:St->Hp->Prop}{rt:VK}(h:nx σ H):(Ends.mk nx rt bk ct).nx σ H:=h
def J8(h:D.nx σ H):PL D σ H:=h
def QK(h:t σ H λx H1=>tg x σ H1 D.nx):G_ t tg D σ H:=h
def J9(h:tr σ H λxs H1=>xs.length<=sizeLine/\∀p H',New H1 H' p (.tup xs)->Q (.ref p) H'):QB tr σ H Q:=h
def J_(h:tr σ H λxs H1=>xs.length<=sizeLine/\∀p H',New H1 H' p (.lst xs)->Q (.ref p) H'):J4 tr σ H Q:=h
def Yh{r:R2}(h:ta σ H λx H1=>tb σ H1 λy H2=>r x y H2 Q):tOp r ta tb σ H Q:=h
def QL(h:t σ H D.rt):V2 t D σ H:=h
def Ka(h:t σ H λ_ H1=>D.nx σ H1):PN t D σ H:=h
def Yi(h:c σ H λb H1=>if b=true then s D σ H1 else u D σ H1):CQ c s u D σ H:=h
def Kc{Q:Bool->Hp->Prop}(h:t σ H λx H'=>∃k,x=.bl k/\Q k H'):CZ t σ H Q:=h
def acS{Q:Bool->Hp->Prop}(h:t σ H λx H'=>∃k,x=.bl k/\Q k H'):tB t σ H Q:=h
def Yj{r:List V->Hp->VK->Prop}(h:tr σ H λvs H1=>r vs H1 Q):tCB r tr σ H Q:=h
end
section
variable{σ:St}{H:Hp}{te:TE}{tr:TA}{Q:VK}{fr:List Nat}{fvs:St}{n:Nat}
def uz{i:Nat}{x:V}(h:(eO 0 n)[i]?=some x)(hi:i<n):x=.int i:=by
 have:(eO 0 n)[i]?=some (V.int (0+(i:Int))):=by simp[eO,hi]
 rw[this] at h;have:=nI h;rw[<- this,Int.zero_add]
def Ay{F:Nat->V}(hr:QF tr σ H [.int (n:Int)])(hn:n<2 ^ 62)(hz:n<=1000000)(hf:(fr.map λi=>(σ[i]?).getD none)=fvs)
  (turn:∀i H',i<n->Same H H'->Tel te (some (.int i)::fvs) H' (F i)) (k:∀p H',New H H' p (.lst ((List.range n).map F))->Q (.ref p) H'):m_ (xO tr) 1 fr (aU 0) gQ te σ H Q:=by
 refine hr _ ⟨n,rfl,by lia,by lia,λacc hacc=>?_⟩;subst hf;rw[Int.toNat_natCast];refine gJ kZ (λi ys H'=>H'=upd H acc (.lst ys)/\ys=(List.range i).map F) ⟨rfl,rfl⟩ (λi ys H' _ h=>⟨trivial,by rw[h.1];exact bA⟩) ?_ ?_
 ·rintro i x tv ys H' hx hi ⟨rfl,rfl⟩ htv;obtain⟨tv0,rfl⟩:∃a,tv=[a]:=List.length_eq_one_iff.mp htv;have hi':i<n:=by simpa[eO] using hi
  obtain rfl:=uz hx hi';unfold aU gQ;dsimp only;rw[zS rfl];refine turn i _ hi' (Same.new hacc) _ ⟨?_,bA,?_⟩
  ·rw[wE,List.length_range];exact qB hi' (bN hz)
  ·exact fO.next (tv:=[some (V.int i)]) hi ⟨VN,by rw[List.range_succ,List.map_append];rfl⟩ rfl
 ·rintro ys H' ⟨rfl,rfl⟩;rw[show (eO 0 n).length=n by simp[eO]];exact k acc _ (.mk' hacc)
end
def del(H:Hp)(a:Addr):Hp:=λb=>if b=a then none else H b
section
variable{P:Program}{w:World}{H:Hp}{h:Heap}{a b:Addr}{φ:Heap->Prop}{o:HO}
def uD:del H a a=none:=by unfold del;rw[if_pos rfl]
def lu(h:b≠a):del H a b=H b:=by unfold del;rw[if_neg h]
def pO(h:H b=none):del H a b=none:=by
 unfold del;split
 ·rfl
 ·exact h
theorem HOk.del(ok:HOk P w H h)(ha:H a=some (.ext φ)):HOk P w (del H a) h:=λb u z=>by
 by_cases hb:b=a
 ·rw[hb,uD] at z;cases z
 ·rw[lu hb] at z;refine(ok b u z).stay (λ_ _ _ q=>q) (λc q=>?_) λc xs q=>?_
  ·rw[lu λe=>by rw[e,ha] at q;cases q];exact q
  ·rw[lu λe=>by rw[e,ha] at q;cases q];exact q
def HOk.track(ok:HOk P w H h)(ha:H a=none)(new:cM P w (upd H a o) h a o):HOk P w (upd H a o) h:=λb u z=>by
 by_cases hb:b=a
 ·subst hb;rw[bA] at z;cases z;exact new
 ·rw[aZ hb] at z;refine(ok b u z).stay (λ_ _ _ q=>q) (λc q=>?_) λc xs q=>?_
  ·rw[aZ (aP q ha)];exact q
  ·rw[aZ (aP q ha)];exact q
end
section
variable{X:Cx}{pins:pV}{σ:St}{H H1:Hp}{s s1:Shared}{a:Addr}{φ:Heap->Prop}{o:HO}
theorem Inv.del(I:Inv X pins σ H s)(ha:H a=some (.ext φ))(h0:X.H₀ a=none):Inv X pins σ (del H a) s:=by
 have ne:∀{b:Addr} {u:HO},X.H₀ b=some u->b≠a:=λ{b u} z=>aP z h0
 refine⟨I.ok,I.os,I.bare,⟨I.base.keep,I.base.slot,λb o e n hx=>pO (I.base.free b o e n hx),I.base.there,λb xs e=>?_,λb o u e=>?_,λb ps e=>?_⟩,I.loc,I.cell,pO I.free,λx c e=>pO (I.h_ x c e),λp hp=>?_,I.hok.del ha,I.len⟩
 ·rw[lu (ne e)];exact I.base.tups b xs e
 ·rw[lu (ne e)];exact I.base.mY b o u e
 ·rw[lu (ne e)];exact I.base.mZ b ps e
 ·obtain⟨q1,q2,q3,q4,q5⟩:=I.pin p hp;exact⟨q1,pO q2,q3,q4,q5⟩
theorem Inv.track(I:Inv X pins σ H s)(I0:Inv X pins σ H1 s1)(na:s1.heap.objs.size<=a)(ha:H a=none)(new:cM X.prog X.w (upd H a o) s.heap a o):Inv X pins σ (upd H a o) s:=by
 have s0:X.s₀.heap.objs.size<=s1.heap.objs.size:=I0.sz;have ne:∀b ob,s1.heap.get? b=some ob->b≠a:=λb ob q=>qE (qB (uA q) na)
 refine⟨I.ok,I.os,I.bare,⟨I.base.keep,I.base.slot,λb o e n hx=>?_,I.base.there,λb xs e=>?_,λb o u e=>?_,λb ps e=>?_⟩,I.loc,I.cell,?_,λx c e=>?_,λp hp=>?_,I.hok.track ha new,I.len⟩
 ·rw[aZ (qE (qB (uA e) (rX s0 na)))];exact I.base.free b o e n hx
 ·have z:=I.base.tups b xs e;rw[aZ (aP z ha)];exact z
 ·have z:=I.base.mY b o u e;rw[aZ (aP z ha)];exact z
 ·obtain⟨m,z⟩:=I.base.mZ b ps e;exact⟨m,by rw[aZ (aP z ha)];exact z⟩
 ·rw[aZ (qE (qB I0.lt na))];exact I.free
 ·obtain⟨v,ob,ho,_⟩:=I0.cell x c e;rw[aZ (ne c ob ho)];exact I.h_ x c e
 ·obtain⟨q1,q2,q3,q4,q5⟩:=I.pin p hp;obtain⟨r1,_⟩:=I0.pin p hp;exact⟨q1,by rw[aZ (ne _ _ r1)];exact q2,q3,q4,q5⟩
end
section
variable{M:Model}{A:Around}{E:xB}{env:Env}
variable{nm q:Str}{C N:Addr}{bs bm:xD}{hdct:Bool}{sn:List Str}{sub:xD}{ab:Bool}{col:Option Bool}{dd:xI}{k0 k1 k2 k3 k5:Option Value}{newId:String}
def Np{s:Shared}{x:Sem Value}{Q:Flow->Shared->Prop}(hbase:bm.contains (.type "BaseException")=true)(hh:A.handled=none)
  (h:wpAny M A x (λv s₁=>∃e t dx sl,v=.ref e/\s₁.heap.get? C=some (excClassObj nm q C N bs bm hdct sn sub ab col dd k0 k1 k2 k3 k5 newId) /\
   s₁.heap.get? e=some { cls:=.ref C,dict:=dx,data:=.fields #[.ref t,.none,.none,.none,.bool false,.none],slots:=sl }/\E (.ref e) s₁) E s) :
  wpAny M A (raiseStmt env (some x) none) Q E s:=by
 have hcB:(Value.ref C::bm).contains (.type "BaseException")=true:=by rw[List.contains_cons,hbase,Bool.or_true]
 unfold raiseStmt;refine zI (nX h (λv s₁ h₁=>?_) λ_ _ x=>x);obtain⟨e,t,dx,sl,rfl,hC,he,hE⟩:=h₁;obtain⟨hp,g,d,tk,os⟩:=s₁
 repeat (first|with_reducible refine wpAny_loadPart_at he ?_|with_reducible refine wpAny_loadPart_at hC ?_|(with_reducible refine wpAny_isSubtype_exc hC ?_;rw[hcB])|wp_step)
 exact wpAny_raiseNew_none hh hE
end
def Nq(K:W.Frag)(C R:Addr):Prop:=∃nm q N bs hdct sn sub ab col dd k0 k1 k2 k3 k5,K.lookup C=some (excClassObj nm q C N bs [.ref R,.type "ValueError", .type "Exception", .type "BaseException", .type "object"] hdct sn sub ab col dd k0 k1 k2 k3 k5 "ValueError.__new__")
def HN(C:Addr)(H0:Hp)(n:Nat)(E:XK)(te:TE):TS:=λD σ H=>te σ H λx H1=>∃a dx,x=.ref a/\n<=a/\H0 a=none/\H1 a=some (jq a C dx)/\E (.ref C) dx (del H1 a)
section
variable{P:Program}{w:World}{K:W.Frag}{mg:xC}{base:Heap}{N:List Str}{qual:Str}{scope:Scope}{f:Addr}{cd:Value}{A:Around}{outer:List Env}{s:Shared}{H:Hp}{E:XK}
def lA{C R:Addr}{e:Expr}{te:TE}{pos:Pos}(hC:Nq K C R)(he:PE (gP (CX1 P w) P w K mg base N qual scope f cd A outer s H E) e te) :
  PS (gP (CX1 P w) P w K mg base N qual scope f cd A outer s H E) (.Raise (some e) none pos) (HN C H s.heap.objs.size E te):=by
 intro pins s1 σ H1 D I h;obtain⟨nm,q,N',bs,hdct,sn,sub,ab,col,dd,k0,k1,k2,k3,k5,ho⟩:=hC;rw[arm_exec_Raise];show wpAny (model P w) (A.deeper (envOfC qual scope s.heap.objs.size f cd)) (do standAt pos;raiseStmt (envOfC qual scope s.heap.objs.size f cd) (some (do let v <- eval e (envOfC qual scope s.heap.objs.size f cd);standAt pos;pure v)) none) _ _ s1;refine zI (wpAny_standAt (Np (C:=C) (nm:=nm) (q:=q) (N:=N') (bs:=bs) (bm:=[.ref R,.type "ValueError", .type "Exception", .type "BaseException", .type "object"]) (hdct:=hdct) (sn:=sn) (sub:=sub) (ab:=ab) (col:=col) (dd:=dd) (k0:=k0) (k1:=k1) (k2:=k2) (k3:=k3) (k5:=k5) (newId := "ValueError.__new__") (J1 R).acP (I.ok.hd rfl) (zI (thn (he pins s1 σ H1 _ I h) λv s2 ⟨x,H2,I2,rx,a,dx,ex,na,h0,ha,q2⟩=>zI (wpAny_standAt (rV ?_))))));subst ex;obtain rfl:v=Value.ref a:=rx;obtain⟨⟨t,sl,ge⟩,_,_⟩:cM P w H2 s2.heap a (jq a C dx):=I2.hok a _ ha;refine⟨a,t,dx,sl,rfl,I2.kIn C _ ho,ge,?_⟩;have I3:Inv (gP (CX1 P w) P w K mg base N qual scope f cd A outer s H E) pins σ (del H2 a) s2:=I2.del ha h0;show wpAny (model P w) (A.deeper (envOfC qual scope s.heap.objs.size f cd)) (leaving (envOfC qual scope s.heap.objs.size f cd) (.ref a)) _ _ s2;refine Dm (base:=base) I.ok.frames I3.stack rfl ge rfl rfl λh' T' lf=>?_
 have hz:∀z,(#[Value.ref t,.none,.none,.none,.bool false,.none]:xF)[1]?=some (.ref z)->False:=λz q=>by
  simp at q
 have Qz:∀b∈frs (envOfC qual scope s.heap.objs.size f cd::outer),del H2 a b=none:=I3.oY;obtain⟨oT',ts',gT',gt',g3'⟩:=lf.ent;refine⟨a,C,dx,del H2 a,rfl,I3.os,I3.bare,J3 I3.base lf (λb hb=>?_) (λb o q m=>?_) na (λz q=>(hz z q).elim),uy I3.hok lf uD (λz q=>(hz z q).elim) Qz,?_,q2⟩
 ·show b∈frs (envOfC qual scope s.heap.objs.size f cd::outer);unfold frs;rw[List.filterMap_cons];exact zD _ hb
 ·have m:b∈frs (envOfC qual scope s.heap.objs.size f cd::outer):=m;unfold frs at m;rw[List.filterMap_cons] at m;rcases vS.mp m with z|z
  ·exact gL (uA q) (by rw[z];exact qS _)
  ·exact z
 ·have hsz2:s.heap.objs.size<=s2.heap.objs.size:=I2.sz;have nTa:T'≠a:=λz=>gL (uA ge) (by rw[<- z];exact Nat.not_lt.mpr lf.new)
  exact⟨_,_,T',oT',ts',lf.obj,rfl,rfl,rfl,by simp,nTa,gT',gt',g3',uD,I3.hok.fresh lf.new,na,Nat.le_trans hsz2 lf.new,rfl⟩
end
section
variable{X:Cx}{CX:CXT}{k:Nat}{f C:Addr}{fd:FuncData}{ps:List Str}{sp:Sp}{E:XK}{e:Expr}{t:TA}{bm:xD}
theorem Dq{pins:pV}{σ:St}{H:Hp}{s:Shared}{Q:VK}{us:xD}{vs:List V}(M:acQ X.K C f bm)(F:iZ X.prog X.w X.K X.mg X.base CX k f fd ps sp)(hr:Room (k+1) X.A)(hb:Binds X.K fd ps [])
  (hx:Passes CX X E) (I:Inv X pins σ H s) (r:Vals vs us) (hz:vs.length<=sizeLine)
  (h:∀x,H x=none->s.heap.objs.size<=x->sp (.ref x::vs) (upd H x (jq x C none)) (λv H2=>v=.non/\Q (.ref x) H2) E) :
  wpAny (model X.prog X.w) X.A (call (.ref C) us) (EP X pins σ Q) X.xe s:=by
 obtain⟨nm,q,N,bs,hdct,sn,sub,ab,col,dd,k0,k1,k2,k3,k5,ho⟩:=M.obj;obtain⟨oI,hoI,hcI⟩:=M.fn;have hsz:us.length<=sizeLine:=by rw[<- r.length];exact hz
 refine Qw (h:=s.heap) (g:=s.gens) (d:=s.drawn) (t:=s.toks) (os:=s.os) M.J1 (I.kIn C _ ho) (W.looks_findIn I.kIn M.init) (I.kIn f _ hoI) hcI (λh' kp hget=>?_) hsz;have hfr:H (s.heap.objs.size+1)=none:=I.hok.fresh (Nat.le_succ _);have hq:=h (s.heap.objs.size+1) hfr (Nat.le_succ _);have I2:Inv X pins σ (upd H (s.heap.objs.size+1) (jq (s.heap.objs.size+1) C none)) { s with heap:=h' }:=I.laid (t':=s.toks) kp (Nat.le_succ _) (JZ hget)
 have r2:Vals (V.ref (s.heap.objs.size+1)::vs) (Value.ref (s.heap.objs.size+1)::us):=.cons rfl r;have hl:(Value.ref (s.heap.objs.size+1)::us++[]).length=ps.length:=by
  rw[mE,<- r2.length];exact F.len _ _ _ _ hq
 refine wpAny_call (codeAny_mono (F.run _ X.stack _ _ ⟨Value.ref (s.heap.objs.size+1)::us,[]⟩ (Value.ref (s.heap.objs.size+1)::us) _ _ E (hr.make C us []) (I2.env0.make C us []) (by
  have:=hb { s with heap:=h' } (Value.ref (s.heap.objs.size+1)::us) I2.kIn hl
  rwa [mE] at this) r2 hq) λr s' hq'=>?_)
 cases r with
 | error e=>exact hx pins σ _ _ e s' I2 hq'
 | ok fl =>
  cases fl with
  | ret u =>
   obtain⟨v,H',I3,rv,ev,q3⟩:=I2.after hq';subst ev;exact⟨rv,⟨V.ref (s.heap.objs.size+1),H',I3,rfl,q3⟩⟩
  | next=>exact False.elim hq'
  | brk=>exact False.elim hq'
  | cont=>exact False.elim hq'
end
def Yk(n:Nat)(C:Addr)(f:Str)(t:TA):TE:=λσ H Q=>t σ H λvs H1=>∃v,vs=[v]/\∀z H',n<=z->H1 z=none->Same H1 H'->ExcAt H' z C [(f,v)]->Q (.ref z) H'
def Yl(n:Nat)(C:Addr)(f g:Str)(t:TA):TE:=λσ H Q=>t σ H λvs H1=>∃v y,vs=[v,y]/\∀z H',n<=z->H1 z=none->Same H1 H'->ExcAt H' z C (fZ g y [(f,v)])->Q (.ref z) H'
section
variable{CX:CXT}{X:Cx}{m:Nat}{C R:Addr}{E:XK}{x qual f g:Str}{st:Stmt}{p pos:Pos}{e:Expr}{es:List Expr}{t:TA}
def Az(M:fU X.K X.mg x qual st C R)(F:nZ X.prog X.w X.K X.mg X.base CX qual st ["self", f] (Wm C f))(hr:Room m X.A)(ha:PA X (e::es) t)(hk:2<=m:=by decide)(hx:Passes CX X E:=by exact yg)(hg:Gl X x:=by rfl)
  (hdb:(x==("__debug__" : Str))=false:=by decide) (he:starEach (e::es) X.env=(false,eval e X.env)::starEach es X.env:=by rfl) (hpl:(backTo pos (starEach es X.env)).any (·.1)=false:=by rfl) :
  PE X (.Call (.Name x p) (e::es) [] pos) (Yk X.s₀.heap.objs.size C f t):=by
 intro pins s σ H Q I h;obtain⟨fa,fd,C1,Fn⟩:=M.ex;obtain⟨ok,hb⟩:=F fa fd Fn;refine wpAny_Call_Name_kw (jO I hg M.gl ?_ hdb);refine W.callWith_K (h₀:=X.base) I.ok.mod.kin C1.kp (thn (ha pos pins s σ H _ I h) λus s1 ⟨vs,H1,I1,r,v,ev,q⟩=>⟨I1.kIn,?_⟩) he hpl;subst ev;refine Dq C1 ok (hr.mono hk) hb hx I1 r (bN (show (_:Nat)<=_ by simp only[List.length_cons,List.length_nil];decide)) λz hz hn=>⟨z,v,rfl,bA,λdx hd=>⟨rfl,q z _ (Nat.le_trans I1.sz hn) hz (λb u eb=>?_) ?_⟩⟩
 ·have hzx:dx≠z:=λq=>by rw[q,bA] at hd;cases hd
  rw[aZ hzx] at hd;rw[aZ (aP eb hz),aZ (aP eb hd),aZ (aP eb hz)];exact eb
 ·have hzx:dx≠z:=λq=>by rw[q,bA] at hd;cases hd
  exact .inr ⟨dx,bA,by rw[aZ hzx,bA],hzx⟩
def Kd(M:fU X.K X.mg x qual st C R)(F:nZ X.prog X.w X.K X.mg X.base CX qual st ["self", f,g] (ZR C f g))(hr:Room m X.A)(ha:PA X (e::es) t)(hk:2<=m:=by decide)(hx:Passes CX X E:=by exact yg)(hg:Gl X x:=by rfl)
  (hdb:(x==("__debug__" : Str))=false:=by decide) (he:starEach (e::es) X.env=(false,eval e X.env)::starEach es X.env:=by rfl) (hpl:(backTo pos (starEach es X.env)).any (·.1)=false:=by rfl) :
  PE X (.Call (.Name x p) (e::es) [] pos) (Yl X.s₀.heap.objs.size C f g t):=by
 intro pins s σ H Q I h;obtain⟨fa,fd,C1,Fn⟩:=M.ex;obtain⟨ok,hb⟩:=F fa fd Fn;refine wpAny_Call_Name_kw (jO I hg M.gl ?_ hdb);refine W.callWith_K (h₀:=X.base) I.ok.mod.kin C1.kp (thn (ha pos pins s σ H _ I h) λus s1 ⟨vs,H1,I1,r,v,y,ev,q⟩=>⟨I1.kIn,?_⟩) he hpl;subst ev;refine Dq C1 ok (hr.mono hk) hb hx I1 r (bN (show (_:Nat)<=_ by simp only[List.length_cons,List.length_nil];decide)) λz hz hn=>⟨z,v,y,rfl,bA,λdx hd=>⟨rfl,q z _ (Nat.le_trans I1.sz hn) hz (λb u eb=>?_) ?_⟩⟩
 ·have hzx:dx≠z:=λq=>by rw[q,bA] at hd;cases hd
  rw[aZ hzx] at hd;rw[aZ (aP eb hd),aZ (aP eb hz),aZ (aP eb hd),aZ (aP eb hz)];exact eb
 ·have hzx:dx≠z:=λq=>by rw[q,bA] at hd;cases hd
  exact .inr ⟨dx,by rw[aZ (Ne.symm hzx),bA],bA,hzx⟩
end
def Dr{n:Nat}{H0 H1 H':Hp}{E:XK}{C z:Addr}{fs:List (Str×V)}(hfs:fs≠[])(hn:n<=z)(hz:H1 z=none)(h0:H0 z=none)(s:Same H1 H')(e:ExcAt H' z C fs)(k:∀dx H2,Same H1 H2->H2 dx=some (jB dx fs)->E (.ref C) (some dx) H2) :
  ∃a dx,V.ref z=.ref a/\n<=a/\H0 a=none/\H' a=some (jq a C dx)/\E (.ref C) dx (del H' a):=by
 rcases e with⟨w,_⟩|⟨dx,a,b,c⟩
 ·exact gL w hfs
 ·exact⟨z,some dx,rfl,hn,h0,a,k dx _ (λb u q=>by rw[lu (aP q hz)];exact s b u q) (by rw[lu c];exact b)⟩
section
variable{P:Program}{w:World}{K:W.Frag}{mg:xC}{base:Heap}{k:Nat}{x:Str}{ps:List Str}{sp:Sp}
def Wo{st:Stmt}{N:List Str}(h:HasDef K mg x st)(S:aL N ps (aC st))(len:∀vs H Q E,sp vs H Q E->vs.length=ps.length)
  (hb:∀(kV doc pm:Value)(an:xI)(cdv ct:Value)(us:xD),us.length=ps.length->bindArgs (W.fnOf x x (b_ st) (bI st) (aC st) .none kV doc pm an cdv ct) ⟨us,[]⟩=pure (ps.zip us))
  (hbody:∀(f:Addr)(cdv:Value)(A:Around)(outer:List Env)(s:Shared)(H:Hp)(vs:List V)(Q:VK)(E:XK),Room k (A.deeper (envOfC x (aC st) s.heap.objs.size f cdv))->sp vs H Q E ->
   ∃t,PSs (gP (CX1 P w) P w K mg base N x (aC st) f cdv A outer s H E) (bI st) t/\t { nx:=λ_ H'=>Q .non H',rt:=Q } (start N vs) H):Def P w K mg base (CX1 P w) (k+1) x ps sp:=by
 obtain⟨f,fd,F,m⟩:=h;refine⟨f,fd,?_,m,F.kp,F.binds hb⟩;obtain⟨oc,od,kV,doc,pm,an,cdv,ct,osl,rfl,lk,hcd⟩:=F.ex;exact pC lk hcd S len λA outer s H vs Q E hr hsp=>hbody f cdv A outer s H vs Q E hr hsp
end
section
variable{M:Model}{A:Around}{E:xB}{s:Shared}{base:Heap}{env:Env}{outer:List Env}{L e:Addr}{oe:Obj}{vs:xF}
def Nr{Q:xA}{T0:Addr}{o0:Obj}{ts0:xF}(hfr:A.frames=some (env::outer))(hl:s.heap.FunFrames base (env::outer))(hf:env.frame=some L)(he:s.heap.get? e=some oe)(hd:oe.data=.fields vs)(h1:vs[1]?=some (.ref T0))
  (hT:s.heap.get? T0=some o0) (hdT:o0.data=.fields ts0) (h3:ts0[3]?=some .none) (hTe:T0≠e)
  (h:∀h' T,Left (frs (env::outer)) s.heap h' e oe vs T->Q () { s with heap:=h' }):wpAny M A (noteFrame (.ref e) env) (λ_ s'=>wpAny M A (setFlight (.ref e) none) Q E s') E s:=by
 unfold noteFrame;simp only[hf];refine zI (wpAny_field he hd h1 ?_);rw[if_pos (show (Value.ref T0 != Value.none)=true from by simp)];refine zI (wpAny_field hT hdT h3 ?_);rw[if_neg (show ¬ ((Value.none==rawInt L)=true) from by simp[rawInt])];refine zI (wpAny_setField hT hdT (Array.getElem?_eq_some_iff.mp h3).1 ?_);have hoth:∀b,b≠T0->(s.heap.update T0 (Obj.mapFields (·.setIfInBounds 3 Value.none))).get? b=s.heap.get? b:=λb hb=>nN _ _ (Ne.symm hb)
 have hno:∀b o,s.heap.get? b=some o->(∀z,o.data≠.fields z)->b≠T0:=λb o z hn q=>by
  rw[q,hT] at z;cases z;exact hn ts0 hdT
 have hl2:(s.heap.update T0 (Obj.mapFields (·.setIfInBounds 3 Value.none))).FunFrames base (env::outer):=hl.of_keeps λb o z hn=>⟨o,(hoth b (hno b o z hn)).trans z,rfl⟩
 refine nY (s:={ s with heap:=s.heap.update T0 (Obj.mapFields (·.setIfInBounds 3 Value.none)) }) hfr hl2 hf ((hoth e (Ne.symm hTe)).trans he) hd (Array.getElem?_eq_some_iff.mp h1).1 λh' T lf=>h h' T ⟨λb o hb hn z hz=>lf.keep b o hb hn ((hoth b (hz T0 h1)).trans z) hz,λb o hb z=>?_,?_,lf.ent,lf.obj⟩
 ·obtain⟨_,o',ho',hn'⟩:=hl.mem hb;rw[z] at ho';cases ho';exact lf.slot b o hb ((hoth b (hno b o z hn')).trans z)
 ·have:=lf.new;rw[Heap.size_update] at this;exact this
end
abbrev Cx.pinned(X:Cx)(pins:pV):Cx:={ X with pn:=X.pn++pins }
section
variable{X:Cx}{pins m7:pV}{σ:St}{H:Hp}{s:Shared}{a:Addr}
def Inv.agq(I:Inv X pins σ H s):Inv (X.pinned pins) [] σ H s :=
 ⟨⟨I.ok.mod,I.ok.kind,I.ok.glob,I.ok.blt,I.ok.above,I.ok.inj,I.ok.has,I.ok.cab,I.ok.hd,I.ok.frames,I.ok.stk,I.ok.exf,I.ok.bs,I.ok.bsz,I.ok.Ae,I.ok.CN,I.ok.kO,I.ok.frf⟩,I.os,I.bare,I.base,I.loc,I.cell,I.free,I.h_,λp hp=>I.pin p (by
  have hp:p∈(X.pn++pins)++[]:=hp;rw[mE] at hp;exact hp),I.hok,I.len⟩
def Inv.uE(I:Inv (X.pinned pins) m7 σ H s):Inv X pins σ H s :=
 ⟨⟨I.ok.mod,I.ok.kind,I.ok.glob,I.ok.blt,I.ok.above,I.ok.inj,I.ok.has,I.ok.cab,I.ok.hd,I.ok.frames,I.ok.stk,I.ok.exf,I.ok.bs,I.ok.bsz,I.ok.Ae,I.ok.CN,I.ok.kO,I.ok.frf⟩,I.os,I.bare,I.base,I.loc,I.cell,I.free,I.h_,λp hp=>I.pin p (mB _ hp),I.hok,I.len⟩
abbrev Cx.hand(X:Cx)(a:Addr):Cx:={ X with A:=X.A.mark (some (.ref a)),calm:=false,xe:=λ_ _=>False }
theorem Inv.hand(I:Inv X pins σ H s):Inv (X.hand a) pins σ H s :=
 ⟨⟨I.ok.mod,I.ok.kind,I.ok.glob,I.ok.blt,I.ok.above,I.ok.inj,I.ok.has,I.ok.cab,(λh=>by cases h),I.ok.frames,I.ok.stk,I.ok.exf,I.ok.bs,I.ok.bsz,I.ok.Ae,I.ok.CN,I.ok.kO,I.ok.frf⟩,I.os,I.bare,I.base,I.loc,I.cell,I.free,I.h_,I.pin,I.hok,I.len⟩
def Inv.A_(ok:X.Ok)(I:Inv (X.hand a) pins σ H s):Inv X pins σ H s :=
 ⟨ok,I.os,I.bare,I.base,I.loc,I.cell,I.free,I.h_,I.pin,I.hok,I.len⟩
end
abbrev Cx.tr(X:Cx)(pins:pV)(EX:St->XK):Cx:=(X.pinned pins).wish λev s'=>∃m7 σ' H1 s1,Inv (X.pinned pins) m7 σ' H1 s1/\CX1 X.prog X.w X.stack H1 s1 (EX σ') ev s'
def QM(EX:St->XK)(sp:Sp)(t:TA):TE:=λσ H Q=>t σ H λvs H1=>sp vs H1 Q (EX σ)
section
variable{X:Cx}{pins:pV}{EX:St->XK}{k m:Nat}{x:Str}{ps:List Str}{sp:Sp}{p pos:Pos}{e:Expr}{es:List Expr}{t:TA}
theorem Wq(D:Def X.prog X.w X.K X.mg X.base (CX1 X.prog X.w) k x ps sp)(hr:Room m X.A)(ha:PA (X.tr pins EX) (e::es) t)(hk:k<=m:=by decide)(hg:Gl (X.tr pins EX) x:=by rfl)
  (hdb:(x==("__debug__" : Str))=false:=by decide) (he:starEach (e::es) X.env=(false,eval e X.env)::starEach es X.env:=by rfl) (hpl:(backTo pos (starEach es X.env)).any (·.1)=false:=by rfl) :
  PE (X.tr pins EX) (.Call (.Name x p) (e::es) [] pos) (QM EX sp t):=by
 intro m7 s σ H Q I h;obtain⟨f,fd,F,hm,kp,hb⟩:=D.ex;refine wpAny_Call_Name_kw (jO I hg hm ?_ hdb);refine W.callWith_K (h₀:=X.base) I.ok.mod.kin kp (thn (ha pos m7 s σ H _ I h) λus s1 ⟨vs,H1,I1,r,q⟩=>⟨I1.kIn,?_⟩) he hpl;have hl:(us++[]).length=ps.length:=by rw[mE,<- r.length];exact F.len _ _ _ _ q
 refine wpAny_call (codeAny_mono (F.run X.A X.stack s1 H1 ⟨us,[]⟩ us vs Q (EX σ) (hr.mono hk) I1.env0 (by
  have:=hb s1 us I1.kIn hl
  rwa [mE] at this) r q) λr s' hq=>?_)
 cases r with
 | error e=>exact⟨m7,σ,H1,s1,I1.gh,hq⟩
 | ok fl =>
  cases fl with
  | ret u=>exact I1.after hq
  | next=>exact False.elim hq
  | brk=>exact False.elim hq
  | cont=>exact False.elim hq
end
def Ba(a C:Addr)(dx:xI):HO:=.ext λh=>∃oe vs,h.get? a=some oe/\oe.cls=.ref C/\oe.dict=dx/\oe.data=.fields vs/\vs[2]?=some .none
def Wr{P:Program}{w:World}{H:Hp}{h:Heap}{a C:Addr}{dx:xI}{oe:Obj}{vs:xF}(q:h.get? a=some oe)(hc:oe.cls=.ref C)(hd:oe.dict=dx)(hf:oe.data=.fields vs)(h2:vs[2]?=some .none):cM P w H h a (Ba a C dx) :=
 ⟨⟨oe,vs,q,hc,hd,hf,h2⟩,⟨_,q⟩,λh1 h2 ⟨oe,vs,z,r⟩ k=>⟨oe,vs,k _ z,r⟩⟩
def Nt(H:Hp)(x C:Addr)(fs:List (Str×V)):Prop:=(fs=[]/\H x=some (Ba x C none))\/∃dx,H x=some (Ba x C (some dx))/\H dx=some (jB dx fs)/\dx≠x
def Nt.mk{H:Hp}{a C dx:Addr}{fs:List (Str×V)}(hd:H dx=some (jB dx fs))(ha:H a=none):Nt (upd H a (Ba a C (some dx))) a C fs :=
 .inr ⟨dx,bA,by rw[aZ (aP hd ha)];exact hd,aP hd ha⟩
structure uF(X:Cx)(pins:pV)(σ:St)(H:Hp)(s:Shared)(a C:Addr)(dx:xI):Prop where
 I:Inv X pins σ H s
 ha:H a=some (Ba a C dx)
 tb:∃T oe vs oT ts,s.heap.get? a=some oe/\oe.data=.fields vs/\vs[1]?=some (.ref T)/\s.heap.get? T=some oT/\oT.data=.fields ts/\3<ts.size/\H T=none/\T≠X.env.locals/\(T∈X.ex\/X.s₀.heap.objs.size<=T)/\(∀x c,X.env.cells.lookup x=some c->c≠T)/\∀p∈X.pn++pins,p.1≠T
abbrev THd:=Ends->Addr->Addr->Option Addr->St->Hp->Prop
def PH(X:Cx)(hs:List ExceptHandler)(t:THd):Prop :=
 ∀(pins:pV) (s:Shared) (σ:St) (H:Hp) (C a:Addr) (dx:xI) (D:Ends),uF X pins σ H s a C dx->t D C a dx σ H->wpAny (model X.prog X.w) X.A (handleBy (.ref a) X.env hs) (SP X pins D) X.xe s
def agr:THd:=λ_ _ _ _ _ _=>False
def hPl(K:W.Frag)(d:Addr)(th:Addr->TS)(tr:THd):THd:=λD C a dx σ H=>∃b,W.exmOne K (.ref C) (.ref d)=some b/\if b=true then th a D σ H else tr D C a dx σ H
section
variable{X:Cx}{x:Str}{d:Addr}{b₀:Stmt}{suite:List Stmt}{rest:List ExceptHandler}{th:Addr->TS}{tr:THd}{p pos:Pos}
def ZV:PH X [] agr:=λ_ _ _ _ _ _ _ _ _ h=>h.elim
def uF.lit{pins:pV}{σ:St}{H:Hp}{s:Shared}{a C:Addr}{dx:xI}{A:Around}{E:xB}{Q:xA}(c:uF X pins σ H s a C dx)(h:∀s',Inv X pins σ H s'->Q () s'):wpAny (model X.prog X.w) A (setFlight (.ref a) none) Q E s:=by
 obtain⟨T,oe,vs,oT,ts,ga,gf,g1,gT,gt,g3,hT,n1,n2,n3,n4⟩:=c.tb;exact wpAny_setFlight_none ga gf g1 gT gt g3 (h _ (c.I.turned (t':=s.toks) (λb o hb e=>(nN _ _ (Ne.symm hb)).trans e) hT n1 n2 n3 n4))
def uF.type{pins:pV}{σ:St}{H:Hp}{s:Shared}{a C:Addr}{dx:xI}(c:uF X pins σ H s a C dx):W.Looks (model X.prog X.w) s.heap (typeOf (.ref a)) (.ref C):=by
 obtain⟨⟨oe,vs,ge,gc,gd,gf,_⟩,_,_⟩:cM X.prog X.w H s.heap a (Ba a C dx):=c.I.hok a _ c.ha;exact gc▸(W.Looks.ld ge).andThen .now
theorem acT(hm:X.mg x=some (.ref d))(hs:∀a,PSs (X.hand a) (b₀::suite) (th a))(hrest:PH X rest tr)(hg:Gl X x:=by rfl)
  (hdb:(x==("__debug__" : Str))=false:=by decide):PH X (.ExceptHandler (some (.Name x p)) none (b₀::suite) pos::rest) (hPl X.K d th tr):=by
 intro pins s σ H C a dx D c h;obtain⟨b,hb,h⟩:=h;refine wpAny_handleBy_cons (codeAny_handlers_test (jO (X:=X.hand a) c.I.hand hg hm ?_ hdb)) (by intro q;cases q);refine(W.exm_one (M:=model X.prog X.w) c.I.kIn c.type hb).here ?_;cases b with
 | false =>
  rw[yA vE] at h;exact hrest pins s σ H C a dx D c h
 | true =>
  rw[zS rfl] at h;show codeAny _ _ _ _ _;refine codeAny_handlers_suite (c.lit λs1 I1=>?_);refine nX (hs a pins s1 σ H D I1.hand h) (λf s3 q=>?_) λ_ _ z=>z.elim
  show SP X pins D f s3;cases f with
  | next =>
   obtain⟨σ',H',I',q⟩:=q;exact⟨_,H',I'.A_ c.I.ok,q⟩
  | brk =>
   obtain⟨σ',H',I',q⟩:=q;exact⟨_,H',I'.A_ c.I.ok,q⟩
  | cont =>
   obtain⟨σ',H',I',q⟩:=q;exact⟨_,H',I'.A_ c.I.ok,q⟩
  | ret u =>
   obtain⟨v,σ',H',I',r,q⟩:=q;exact⟨v,_,H',I'.A_ c.I.ok,r,q⟩
end
def acU(tb:List (Addr×Obj)->(St->XK)->TS)(th:THd):TS:=λD σ H=>∀pins,tb pins (λσ' cv dx H'=>∃C,cv=.ref C/\∀a,H' a=none->th D C a dx σ' (upd H' a (Ba a C dx))) D σ H
section
variable{X:Cx}{body:List Stmt}{h₀:ExceptHandler}{hs:List ExceptHandler}{tb:List (Addr×Obj)->(St->XK)->TS}{th:THd}{pos:Pos}
def ZW(hb:∀pins EX,PSs (X.tr pins EX) body (tb pins EX))(hh:PH X (h₀::hs) th)(hst:X.stack=X.env::X.outer:=by rfl)(hf:X.env.frame=some X.env.locals:=by rfl):PS X (.Try body (h₀::hs) [] [] pos) (acU tb th):=by
 intro pins s σ H D I h;refine wpAny_Try_except (nX (hb pins _ [] s σ H D (I.agq.wish _) (h pins)) (λf s1 q=>?_) λev s1 q=>?_)
 ·cases f with
  | next =>
   obtain⟨σ',H',I',q⟩:=q;exact wpAny_execs_nil ⟨σ',H',I'.gh.uE,q⟩
  | brk =>
   obtain⟨σ',H',I',q⟩:=q;exact⟨σ',H',I'.gh.uE,q⟩
  | cont =>
   obtain⟨σ',H',I',q⟩:=q;exact⟨σ',H',I'.gh.uE,q⟩
  | ret u =>
   obtain⟨v,σ',H',I',r,q⟩:=q;exact⟨v,σ',H',I'.gh.uE,r,q⟩
 ·obtain⟨m7,σ',H1,s2,I1,a,C,dx,H',rfl,hos,hbr,un,hok,⟨oe,vs,T,oT,ts,ga,gc,gd,gf,g1,gne,gT,gt,g3,ha,hT,na,nT,g2⟩,C',eC,q⟩:=q;cases eC;have I1:Inv X pins σ' H1 s2:=I1.uE;have I2:Inv X pins σ' H' s1:=I1.call' (ch:=[]) hos un hok hbr (λb z=>absurd z (by simp));refine Nr (base:=X.base) (by rw[I.ok.frames,hst]) (by rw[<- hst];exact I2.stack) hf ga gf g1 gT gt g3 gne λh' T' lf=>?_
  have hz:∀z,vs[1]?=some (.ref z)->z=T:=λz hz=>by rw[g1] at hz;cases hz;rfl
  have Qz:∀b∈frs (X.env::X.outer),H' b=none:=by rw[<- hst];exact I2.oY
  have hok':HOk X.prog X.w H' h':=uy hok lf ha (λz h=>by rw[hz z h];exact hT) Qz;have lo:∀b o,s2.heap.get? b=some o->∀c,s2.heap.objs.size<=c->b≠c:=λb o z c hc=>qE (qB (uA z) hc)
  have far:∀c,s2.heap.objs.size<=c->(c∈X.ex\/X.s₀.heap.objs.size<=c)/\c≠X.env.locals/\(∀x d,X.env.cells.lookup x=some d->d≠c)/\∀p∈X.pn++pins,p.1≠c:=λc hc =>
   ⟨.inr (rX I1.sz hc),Ne.symm (qE (qB I1.lt hc)),λx d hd=>by
    obtain⟨v,ob,ho,_⟩:=I1.cell x d hd;exact lo d ob ho c hc,λp hp=>lo _ _ (I1.pin p hp).1 c hc⟩
  have u3:Un (frs X.stack) [a,T] H' H' s1.heap h':=by
   rw[hst];refine⟨λb o q n hb hx=>?_,λb o q n hb hx=>lf.slot b o hb q,λb o q n hx=>n,λb o q hx=>?_,λ_ _ e=>e,λ_ _ _ e=>e,λb ps e=>⟨#[],by rw[e];simp⟩⟩
   ·exact lf.keep b o (λz=>hx (by simp[z])) hb q λz hz' z2=>hx (by rw[z2,hz z hz'];simp)
   ·by_cases m:b∈frs (X.env::X.outer)
    ·obtain⟨sl,z⟩:=lf.slot b o m q;exact⟨_,z⟩
    ·exact⟨o,lf.keep b o (λz=>hx (by simp[z])) m q λz hz' z2=>hx (by rw[z2,hz z hz'];simp)⟩
  have I3:Inv X pins σ' H' { s1 with heap:=h' }:=I2.call (g':=s1.gens) (d':=s1.drawn) (t':=s1.toks) u3 hok' hbr λb hb=>by
   rcases vS.mp hb with rfl|hb
   ·exact far _ na
   ·rw[uS.mp hb];exact far _ nT
  have new:s2.heap.objs.size<=T':=by
   refine rX ?_ lf.new;exact rX na (Nat.le_of_lt (uA ga))
  have hT':H' T'=none:=I2.hok.fresh lf.new;have nTa:T'≠a:=λz=>gL (uA ga) (by rw[<- z];exact Nat.not_lt.mpr lf.new)
  have I4:Inv X pins σ' (upd H' a (Ba a C dx)) { s1 with heap:=h' }:=I3.track I1 na ha (Wr lf.obj gc gd rfl ((Array.getElem?_setIfInBounds_ne (by decide)).trans g2))
  obtain⟨oT',ts',gT',gt',g3'⟩:=lf.ent;obtain⟨f1,f2,f3,f4⟩:=far T' new;refine hh pins _ σ' _ C a dx D ⟨I4,bA,T',_,_,oT',ts',lf.obj,rfl,?_,gT',gt',(Array.getElem?_eq_some_iff.mp g3').1,by rw[aZ nTa];exact hT',f2,f1,f3,f4⟩ (q a ha);have:1<vs.size:=(Array.getElem?_eq_some_iff.mp g1).1;simp[this]
end
def lB{K:W.Frag}{C R:Addr}(G:HD K C R):W.exmOne K (.ref C) (.ref C)=some true:=by
 have hb:W.subIn K (.ref C) (.type "BaseException")=some true:=G.g.mb;unfold W.exmOne;rw[hb,zS (by rfl)];obtain⟨cd,hc,_⟩:=Option.map_eq_some_iff.mp G.mro;unfold W.kitCls;simp only;rw[zS (by rw[hc,G.ty];rfl)];show W.mroIn K C (.ref C)=_;rw[G.in];simp[List.contains_cons]
def uG{K:W.Frag}{C R:Addr}(G:HD K C R)(hR:(W.clsIn K R).isSome=true)(tR:W.typeIn K (.ref R)=some (.type "type"))(mR:W.mroIn K R (.type "BaseException")=some true):W.exmOne K (.ref C) (.ref R)=some true:=by
 have hb:W.subIn K (.ref R) (.type "BaseException")=some true:=mR;unfold W.exmOne;rw[hb,zS (by rfl)];unfold W.kitCls;simp only;rw[zS (by rw[hR,tR];rfl)];show W.mroIn K C (.ref R)=_;rw[G.in];simp[List.contains_cons]
def uH(K:W.Frag):List V->Hp->VK->Prop:=λxs H Q=>∃x d t b,xs=[x,d]/\dj K H x t/\rR K t d=some b/\Q (.bl b) H
def cZ{X:Cx}:eZ X (.builtin "isinstance") (uH X.K):=call_isinstance
theorem Ke:∀{xs:List V} {us:xD},xs.length=us.length->(∀(j:Nat)(x:V)(u:Value),xs[j]?=some x->us[j]?=some u->RelV x u)->Vals xs us
 | [],[],_,_=>.nil
 | [],_::_,h,_=>nomatch h
 | _::_,[],h,_=>nomatch h
 | x::xs,u::us,h,f=>.cons (f 0 x u rfl rfl) (Ke (Nat.succ.inj h) λj y z e1 e2=>f (j+1) y z (by simpa using e1) (by simpa using e2))
section
variable{X:Cx}{pins:pV}{σ:St}{H:Hp}{s:Shared}{h':Heap}{t':Nat}{ch:List Addr}
def Inv.Kf(I:Inv X pins σ H s)(hf:∀b∈ch,gZ X pins H b)(k:∀b o,b ∉ ch->s.heap.get? b=some o->h'.get? b=some o):Inv X pins σ H { s with heap:=h',toks:=t' }:=by
 have off:∀b u,H b=some u->b ∉ ch:=λb u e z=>by
  rw[(hf b z).1] at e;cases e
 refine I.step (g':=s.gens) (d':=s.drawn) (ch:=ch) (λb hb=>?_) (λb o _ _ hc e _=>k b o hc e) (λb o _ _ hc e _=>⟨o.slots,k b o hc e⟩) (λ_ _ _ _ n=>n)
  (λb o hc e=>⟨o,k b o hc e⟩) (λ_ _ e=>e) (λ_ _ _ e=>e) (λb ps e=>⟨#[],by rw[e];simp⟩) (λm hm=>?_) (λb u e=>?_) I.bare
 ·obtain⟨_,f1,_,f3,f4,f5⟩:=hf b hb;exact⟨f3,f1,f4,f5⟩
 ·obtain⟨o,es,ep,ho,r⟩:=hm;exact⟨o,es,ep,k _ o (λz=>(hf _ z).2.1 rfl) ho,r⟩
 ·refine(I.hok b u e).stay (λc v hc q=>k c v ?_ q) (λ_ q=>q) λ_ _ q=>q
  rcases hc with z|z
  ·rw[z];exact off b u e
  ·exact off c _ z
def Inv.HS{a:Addr}{o:HO}(I:Inv X pins σ H s)(hf:∀b∈ch,gZ X pins H b)(k:∀b o,b ∉ ch->s.heap.get? b=some o->h'.get? b=some o)(ha:s.heap.objs.size<=a)
  (new:cM X.prog X.w (upd H a o) h' a o):Inv X pins σ (upd H a o) { s with heap:=h',toks:=t' }:=by
 have I1:Inv X pins σ H { s with heap:=h',toks:=t' }:=I.Kf hf k
 have hn:H a=none:=I.hok.fresh ha;refine I.step (g':=s.gens) (d':=s.drawn) (ch:=ch) (λb hb=>?_) (λb u _ _ hc e _=>k b u hc e) (λb u _ _ hc e _=>⟨u.slots,k b u hc e⟩)
  (λb u _ e n=>by rw[aZ (qE (qB (uA e) ha))];exact n)
  (λb u hc e=>⟨u,k b u hc e⟩) (λb xs e=>by rw[aZ (aP e hn)];exact e) (λb u x e=>by rw[aZ (aP e hn)];exact e)
  (λb ps e=>⟨#[],by rw[aZ (aP e hn),e];simp⟩) (λm hm=>?_) (λb u e=>?_) I.bare
 ·obtain⟨_,f1,_,f3,f4,f5⟩:=hf b hb;exact⟨f3,f1,f4,f5⟩
 ·obtain⟨u,es,ep,ho,r⟩:=hm;exact⟨u,es,ep,k _ u (λz=>(hf _ z).2.1 rfl) ho,r⟩
 ·by_cases hb:b=a
  ·subst hb;rw[bA] at e;cases e;exact new
  ·rw[aZ hb] at e;exact(I1.hok b u e).stay (λ_ _ _ q=>q) (λc q=>by rw[aZ (aP q hn)];exact q) λc xs q=>by rw[aZ (aP q hn)];exact q
end
def Ite(K:W.Frag)(a:Addr)(xs:List V):It :=
 ⟨λi H=>SqL K H a xs/\i<xs.length,λi H x H'=>∃T v,x=.ref T/\xs[i]?=some v/\New H H' T (.tup [.int i,v]),λi H=>SqL K H a xs/\xs.length<=i⟩
def Nu{P:Program}{w:World}{K:W.Frag}{elts:List Expr}{x1}{pos:Pos}(a e it:Addr)(xs:List V)(hei:e≠it) :
  Turn P w K (.Tuple elts x1 pos) (Ite K a xs) [e,it] e (λi h=>(∃old,IsEnum h e it i old)/\h.IsListIter it a i) where
 mem:=by simp
 obj:=λi h st b hb=>by
  obtain⟨⟨old,he⟩,o,hi,hc,hd⟩:=st;rcases vS.mp hb with rfl|hb
  ·exact⟨_,he,λv z=>by
    have z':Data.fields _=Data.cell v:=z;cases z'⟩
  ·rw[uS.mp hb];exact⟨o,hi,λv z=>by rw[hd] at z;cases z⟩
 keep:=λi h h' st k=>by
  obtain⟨⟨old,he⟩,hi⟩:=st;exact⟨⟨old,k e (by simp) _ he⟩,hi.at λo q=>k it (by simp) o q⟩
 item:=by
  intro X hP hw hK hc i pins s σ H E I hf st hg;subst hP hw hK;obtain⟨⟨old,he⟩,hi⟩:=st;obtain⟨hq,hlt⟩:=hg;obtain⟨its,rv,p,hz⟩:=I.list hq;have hx:xs[i]?=some xs[i]:=by simp[hlt]
  generalize xs[i]=x at hx
  obtain⟨u,hu,ru⟩:=rv.get hx;refine wpAny_pyNext_enum_item he hi p.isList (x:=u) (by simpa using hu) hei λh1 ho hi1 hT hsz hk=>?_
  refine⟨_,rfl,wpAny_letOwnedTupleGo_enum ho λh2 he2 hs2=>?_⟩;have neT:s.heap.objs.size≠e:=Nat.ne_of_gt (uA he);have hT2:=(hs2.2 _ neT).trans hT;have k2:∀b o,b ∉ [e,it]->s.heap.get? b=some o->h2.get? b=some o:=λb o hb q=>by
   simp only[List.mem_cons,List.not_mem_nil,or_false,not_or] at hb;exact(hs2.2 b hb.1).trans (hk b o hb.1 hb.2 q)
  have new:cM X.prog X.w (upd H s.heap.objs.size (.tup [.int i,x])) h2 s.heap.objs.size (.tup [.int i,x]) :=
   ⟨by show 2<=sizeLine;decide,[.int i s.toks,u],.cons ⟨_,rfl⟩ (.cons ru .nil),⟨_,hT2,rfl,_,rfl⟩⟩
  refine⟨.ref s.heap.objs.size,_,I.HS (t':=s.toks+1) hf k2 (Nat.le_refl _) new,rfl,⟨_,x,rfl,hx,.mk' (I.hok.fresh (Nat.le_refl _))⟩,⟨⟨u,by simpa using he2⟩,hi1.at λo q=>(hs2.2 it hei.symm).trans q⟩,λb hb=>?_⟩;have hbn:=(hf b hb).1;have hb':b<s.heap.objs.size:=by
   rcases vS.mp hb with rfl|hb
   ·exact uA he
   ·rw[uS.mp hb];obtain⟨o,q,_⟩:=hi;exact uA q
  rw[aZ (qE hb')];exact hbn
 done:=by
  intro X hP hw hK hc i pins s σ H E I hf st hg;subst hP hw hK;obtain⟨⟨old,he⟩,hi⟩:=st;obtain⟨hq,hle⟩:=hg;obtain⟨its,rv,p,hz⟩:=I.list hq;have hl:=rv.length;refine wpAny_pyNext_enum_end (I.ok.hd hc) he hi p.isList (by simp;lia) λh' eb=>⟨rfl,I.Kf (t':=s.toks) (ch:=[e,it]) hf λb o hb q=>eb b o (λz=>hb (by simp[z])) q⟩
 self:=λ_ _ _ _ _ st h=>by
  obtain⟨⟨old,he⟩,_⟩:=st;exact wpAny_pyIter_enum he h
def Nv:bootBuiltins "enumerate" = some (.type "enumerate"):=by decide +kernel
def QS(K:W.Frag)(ta:TA):TI:=λσ H R=>ta σ H λvs H1=>∃a xs,vs=[.ref a]/\SqL K H1 a xs/\R (Ite K a xs) H1
def Kg{X:Cx}{elts:List Expr}{x1}{tpos:Pos}{a:Expr}{ta:TA}{p pos:Pos}(hg:Gl X "enumerate")(hm:X.mg "enumerate" = none)(ha:PA X [a] ta)(hs:starEach [a] X.env=[(false,eval a X.env)]:=by rfl) :
  PI X (.Tuple elts x1 tpos) (.Call (.Name "enumerate" p) [a] [] pos) (QS X.K ta):=by
 intro pins s σ H R I h;refine Call_ (iH I hg hm Nv (PyProof.Rows.callWith_type1 (thn (ha pos pins s σ H _ I h) λus s1 ⟨vs,H1,I1,r1,q1⟩=>?_) hs rfl));obtain⟨l,xs,e,hq,q⟩:=q1;subst e;obtain⟨u,rfl,r⟩:=vals1 r1;cases r;obtain⟨its,rv,pl,hz⟩:=I1.list hq;refine call_enumerate_list pl.isList λh' he hi hsz hk=>?_
 have I2:Inv X pins σ H1 { s1 with heap:=h' }:=I1.kept (t':=s1.toks) hk
 refine wpAny_pyIter_enum he ?_;refine⟨s1.heap.objs.size+1,[s1.heap.objs.size+1,s1.heap.objs.size],_,Ite X.K l xs,H1,rfl,I2,Nu l _ _ xs (Nat.succ_ne_self _),⟨⟨.none,he⟩,hi⟩,λb hb=>?_,q⟩;have hb':s1.heap.objs.size<=b:=by
  rcases vS.mp hb with rfl|hb
  ·exact Nat.le_succ _
  ·rw[uS.mp hb];exact uC _
 exact I1.CT hb' (I1.hok.fresh hb')
def QT{K:PySem.W.Frag}{a:Addr}{xs:List V}{g:TG}{tb:TS}{D:Ends}{σ:St}{H:Hp}(Pv:Nat->St->Hp->Prop)(h0:Pv 0 σ H)(hl:∀i σ H,i<=xs.length->Pv i σ H->SqL K H a xs)
  (hs:∀i x T σ H H',xs[i]?=some x->Pv i σ H->New H H' T (.tup [.int i,x])->g (.ref T) σ H' λσ2 H2=>tb { D with nx:=Pv (i+1),ct:=Pv (i+1),bk:=D.nx } σ2 H2) (hd:∀σ H,Pv xs.length σ H->D.nx σ H) :
  ∃W:Nat->Nat->St->Hp->Prop,(∃m,W 0 m σ H)/\∀i m σ H,W i m σ H ->
   ((Ite K a xs).stop i H/\D.nx σ H)\/((Ite K a xs).go i H/\∃N:St->Hp->Prop,(∀σ' H',N σ' H'->∃m',m'<m/\W (i+1) m' σ' H')/\∀x H',(Ite K a xs).yld i H x H'->g x σ H' λσ2 H2=>tb { D with nx:=N,ct:=N,bk:=D.nx } σ2 H2):=by
 refine⟨λi m σ H=>m=xs.length-i/\i<=xs.length/\Pv i σ H,⟨xs.length,by simp,Nat.zero_le _,h0⟩,?_⟩;rintro i m σ H ⟨rfl,hi,p⟩;have q:=hl i σ H hi p;by_cases hlt:i<xs.length
 ·refine .inr ⟨⟨q,hlt⟩,Pv (i+1),λσ' H' p'=>⟨xs.length-(i+1),by lia,rfl,hlt,p'⟩,λx H' y=>?_⟩;obtain⟨T,v,rfl,hv,n⟩:=y;exact hs i v T σ H H' hv p n
 ·have e:i=xs.length:=by lia
  subst e;exact .inl ⟨⟨q,uC _⟩,hd σ H p⟩
def boot_reversed:bootBuiltins "reversed" = some (.type "reversed"):=by decide +kernel
def HW:typeLookup (.type "list_reverseiterator") (Str.ofString "__len__")=pure none:=by rw[typeLookup_type,builtinLookup_eq_fast];kernel_rfl
def QV:typeLookup (.type "list_reverseiterator") (Str.ofString "__length_hint__")=pure (some (.builtin "list_reverseiterator.__length_hint__")):=by rw[typeLookup_type,builtinLookup_eq_fast];kernel_rfl
def QW{prog:Program}{w:World}{A:Around}{E:xB}{s:Shared}{r:Addr}{Q:Bool->Shared->Prop}(hT:s.TypeIs (.ref r) "list_reverseiterator")(h:Q false s) :
  wpAny (model prog w) A (Builtin.List.listLengthHint (.ref r)) Q E s:=by
 unfold Builtin.List.listLengthHint;refine zI (wpAny_specialOf hT HW ?_);show wpAny _ _ (specialOf (Value.ref r) (Str.ofString "__length_hint__") >>= _) _ _ _;refine zI (wpAny_specialOf hT QV ?_)
 generalize hid:("list_reverseiterator.__length_hint__" : String)=id0
 wp_delta
 rw[show splitId id0=some ("list_reverseiterator","__length_hint__") from by subst hid;decide +kernel];subst hid;refine zI (wpAny_isInstance (T := "list_reverseiterator") (b:=true) hT (by rw[isSubtype_type];kernel_rfl) ?_);refine wpAny_ite_split (λhab=>gL hab (by decide)) (λ_=>?_);refine wpAny_ite_split (λ_=>?_) (λhab=>gL (by decide +kernel) hab);refine wpAny_ite_split (λhab=>gL hab (by decide +kernel)) (λ_=>?_);exact rV h
section
variable{prog:Program}{w:World}{A:Around}{E:xB}{s:Shared}{I l S:Addr}{items:xF}
def HX{R:Result->Shared->Prop}{c₀:Nat}{res:Value}(hh:A.handled=none)(hI:s.heap.IsRevIter I l ((items.size:Int)-1))(hl:s.heap.IsList l items)(hne:l≠I)(hSI:S≠I)(hSl:S≠l)
  (hS:s.heap.get? S=some { cls:=.type "list", data:=.seq #[] c₀ }) (hn:items.size<=sizeLine)
  (hR:∀h' tk acc' c',(∀b o,b≠S->b≠I->s.heap.get? b=some o->h'.get? b=some o)->h'.get? S=some { cls:=.type "list", dict:=none,data:=.seq acc' c',slots:=#[] }->PySem.ItemsOf (λi v=>items[items.size-1-i]?=some v) acc' items.size ->
   R (.ok (.ret res)) { s with heap:=h',toks:=tk }) :
  wpAny (model prog w) A.in1 (Builtin.List.listExtendWith (.ref S) (.ref I) res)
   (λfin s'=>match fin with|.done f=>R (.ok f) s'|.again c'=>c'.quiet=true/\codeAny (model prog w) A c' R s') (λe s'=>R (.error e) s') s:=by
 have W:=Walks.listRev (prog:=prog) (w:=w) (A:=A.in1) hh I l hne items;have hSf:S ∉ [I,l]:=by simp[hSI,hSl]
 have st:(0:Nat)<=items.size/\s.heap.IsRevIter I l ((items.size:Int)-1-((0:Nat):Int))/\s.heap.IsList l items:=⟨Nat.zero_le _,by simpa using hI,hl⟩;have fin:codeAny (model prog w) A (.builtin "list.extend.loop" ⟨[.ref S,.ref I,res],[]⟩) R s:=by
  refine codeAny_extend_loopS W.toS hn S hSf res items.size 0 _ #[] c₀ rfl (Nat.zero_le _) st hS (PySem.ItemsOf.nil _) λs' acc' c' hm hS' hacc=>?_
  rw[Moved.eq_with hm];exact hR s'.heap s'.toks acc' c' (λb o h1 h2 q=>hm.heap b o (by simp[h1,h2]) q) hS' hacc
 unfold Builtin.List.listExtendWith;refine zI (wpAny_typeOf (T := "list_reverseiterator") hI.typeIs ?_);have h1:Builtin.List.listSameRef (.ref S) (.ref I)=false:=by simp[Builtin.List.listSameRef,hSI]
 have h2:(Value.type "list_reverseiterator" == Value.type "list")=false:=by decide
 have h3:(Value.type "list_reverseiterator" == Value.type "tuple")=false:=by decide
 simp only[h1,h2,h3,Bool.or_false,Bool.false_eq_true,if_false];refine zI (wpAny_pyIter_revIter hI ?_);refine zI (nV (QW hI.typeIs ?_));refine wpAny_ite_split (λhab=>gL hab (by first|decide|decide +kernel)) (λ_=>?_);exact rV ⟨plainId_quiet PySem.F.plain_extend_loop _,fin⟩
def QX{R:Result->Shared->Prop}(hh:A.handled=none)(hI:s.heap.IsRevIter I l ((items.size:Int)-1))(hl:s.heap.IsList l items)(hne:l≠I)(hSI:S≠I)(hSl:S≠l)
  (hS:s.heap.get? S=some { cls:=.type "list", data:=.seq #[] }) (hn:items.size<=sizeLine)
  (hR:∀h' tk acc' c',(∀b o,b≠S->b≠I->s.heap.get? b=some o->h'.get? b=some o)->h'.get? S=some { cls:=.type "list", dict:=none,data:=.seq acc' c',slots:=#[] }->PySem.ItemsOf (λi v=>items[items.size-1-i]?=some v) acc' items.size ->
   R (.ok (.ret .none)) { s with heap:=h',toks:=tk }) :
  wpAny (model prog w) A.in1 (Builtin.«list.__init__» ⟨[.ref S,.ref I],[]⟩)
   (λfin s'=>match fin with|.done f=>R (.ok f) s'|.again c'=>c'.quiet=true/\codeAny (model prog w) A c' R s') (λe s'=>R (.error e) s') s:=by
 show wpAny _ _ (Builtin.List.listItems (.ref S) >>= λold=>Builtin.List.listUpdate (.ref S) (λ_=>#[]) >>= λ_=>letGo old.toList.reverse >>= λ_=>Builtin.List.listExtendWith (.ref S) (.ref I) .none) _ _ s;refine zI ?_;unfold Builtin.List.listItems;refine zI (wpAny_seqItems hS rfl (rV (zI ?_)));show wpAny _ _ (updateSeq S (λ_=>#[])) _ _ _;refine wpAny_updateSeq hS rfl (zI (wpAny_letGo ?_));have hS2:=Heap.get?_update_self (Obj.mapSeq (λ_=>(#[]:xF))) hS rfl;have oth:∀b o,b≠S->s.heap.get? b=some o->(s.heap.update S (Obj.mapSeq (λ_=>(#[]:xF)))).get? b=some o:=λb o hb q=>by
  rw[nN _ _ (Ne.symm hb)];exact q
 exact HX (c₀:=_) hh (hI.at λo q=>oth I o (Ne.symm hSI) q) (hl.at λo q=>oth l o (Ne.symm hSl) q) hne hSI hSl hS2 hn λh' tk acc' c' hk hS' hacc=>hR h' tk acc' c' (λb o h1 h2 q=>hk b o h1 h2 (oth b o h1 q)) hS' hacc
def QZ{Q:xB}(hh:A.handled=none)(hI:s.heap.IsRevIter I l ((items.size:Int)-1))(hl:s.heap.IsList l items)(hne:l≠I)(hn:items.size<=sizeLine)
  (hQ:∀h' tk acc' c',(∀b o,b≠I->s.heap.get? b=some o->h'.get? b=some o)->h'.get? s.heap.objs.size=some { cls:=.type "list", dict:=none,data:=.seq acc' c',slots:=#[] } ->
   PySem.ItemsOf (λi v=>items[items.size-1-i]?=some v) acc' items.size->Q (.ref s.heap.objs.size) { s with heap:=h',toks:=tk }) :
  wpAny (model prog w) A (call (.type "list") [.ref I]) Q E s:=by
 have hS:(s.heap.push { cls:=.type "list", data:=.seq #[] }).get? s.heap.objs.size=some { cls:=.type "list", data:=.seq #[] }:=oP _ rfl;have up:∀b o,s.heap.get? b=some o->(s.heap.push { cls:=.type "list", data:=.seq #[] }).get? b=some o:=λb o q=>uB _ q
 have hIlt:I<s.heap.objs.size:=by
  obtain⟨o,q,_⟩:=hI;exact uA q
 have ags:l<s.heap.objs.size:=by
  obtain⟨o,q,_⟩:=hl;exact uA q
 refine callType_codes PySem.F.called_list (PySem.F.typeCall_list_1 _) PySem.F.entry_list_init
  (Q₁:=λv z=>v=.ref s.heap.objs.size/\z={ s with heap:=s.heap.push { cls:=.type "list", data:=.seq #[] } }) (code_list_new _ ⟨rfl,rfl⟩) ?_
 rintro _ _ ⟨rfl,rfl⟩;refine⟨⟨_,hS,rfl⟩,PySem.F.args_list_init_2 _ _,?_⟩;refine QX (A:=A.in1) (s:={ s with heap:=s.heap.push { cls:=.type "list", data:=.seq #[] } }) hh (hI.at λo q=>up I o q) (hl.at λo q=>up l o q) hne (Nat.ne_of_gt hIlt) (Nat.ne_of_gt ags) hS hn λh' tk acc' c' hk hS' hacc=>?_
 exact⟨rfl,hQ h' tk acc' c' (λb o hb q=>hk b o (qE (uA q)) hb (up b o q)) hS' hacc⟩
end
def Ym(K:W.Frag)(ta:TA):TE:=λσ H Q=>ta σ H λvs H1=>∃a xs,vs=[.ref a]/\SqL K H1 a xs/\∀l H',New H1 H' l (.lst xs.reverse)->Q (.ref l) H'
def n6{X:Cx}{e:Expr}{ta:TA}{p1 p2 pos1 pos2:Pos}(hc:X.calm=true)(gl:Gl X "list")(ml:X.mg "list" = none)(gr:Gl X "reversed")(mr:X.mg "reversed" = none)(ha:PA X [e] ta)
  (h1:starEach [.Call (.Name "reversed" p2) [e] [] pos2] X.env=[(false,eval (.Call (.Name "reversed" p2) [e] [] pos2) X.env)]:=by rfl) (h2:starEach [e] X.env=[(false,eval e X.env)]:=by rfl) :
  PE X (.Call (.Name "list" p1) [.Call (.Name "reversed" p2) [e] [] pos2] [] pos1) (Ym X.K ta):=by
 intro pins s σ H Q I h;refine wpAny_Call_Name_kw (iH I gl ml boot_list (PyProof.Rows.callWith_type1 ?_ h1 rfl));rw[h1];refine Calls.spliced_cons ?_;refine Call_ (iH I gr mr boot_reversed (PyProof.Rows.callWith_type1 (thn (ha pos2 pins s σ H _ I h) λus s1 ⟨vs,H1,I1,r1,q1⟩=>?_) h2 rfl));obtain⟨a,xs,rfl,hq,q⟩:=q1;obtain⟨u,rfl,rx⟩:=vals1 r1;cases rx;obtain⟨its,rv,pl,hz⟩:=I1.list hq;have hlen:=rv.length;refine call_reversed_list pl.isList (Calls.spliced_nil ?_);have hlt:a<s1.heap.objs.size:=by
  obtain⟨o,q,_⟩:=pl.isList;exact uA q
 have hrev:(s1.heap.push (revObj a ((its.toArray.size:Int)-1))).IsRevIter s1.heap.objs.size a ((its.toArray.size:Int)-1):=⟨_,oP _ rfl,rfl,rfl⟩;refine QZ (s:={ s1 with heap:=s1.heap.push (revObj a ((its.toArray.size:Int)-1)) }) (I1.ok.hd hc) hrev (pl.isList.at λo z=>uB _ z) (qE hlt) (by rw[nK,<- hlen];exact hz) λh' tk acc c hk hD hI=>?_
 have hk':∀b o,s1.heap.get? b=some o->h'.get? b=some o:=λb o z=>hk b o (qE (uA z)) (uB _ z)
 have hsz:(s1.heap.push (revObj a ((its.toArray.size:Int)-1))).objs.size=s1.heap.objs.size+1:=Heap.size_push ..;have hge:s1.heap.objs.size<=(s1.heap.push (revObj a ((its.toArray.size:Int)-1))).objs.size:=by rw[hsz];exact Nat.le_succ _
 refine⟨.ref (s1.heap.push (revObj a ((its.toArray.size:Int)-1))).objs.size,_,I1.laid (t':=tk) (o:=.lst xs.reverse) hk' hge ?_,rfl,q _ _ (.mk' (I1.hok.fresh hge))⟩;refine⟨by rw[List.length_reverse];exact hz,acc.toList,c,Ke (by
  have e:=hI.1;have e2:acc.toList.length=acc.size:=Array.length_toList;have e3:its.toArray.size=its.length:=nK ..;have e4:xs.reverse.length=xs.length:=List.length_reverse
  lia) λj x u e1 e2=>?_,by simpa using hD⟩
 have e3:=hI.2 j u (by rw[<- Array.getElem?_toList];exact e2);have hj:j<xs.length:=by
  have:=(jS.mp e1).1
  rwa [List.length_reverse] at this
 rw[List.getElem?_reverse hj] at e1;obtain⟨u',e4,r4⟩:=rv.get e1;have e5:its[xs.length-1-j]?=some u:=by
  rw[nK,<- hlen] at e3;simpa using e3
 rw[e5] at e4;cases e4;exact r4
section
variable{X:Cx}
def Q0:V->V->V->Hp->(Hp->Prop)->Prop:=λo i v H Q=>∃p xs k j,o=.ref p/\i=.int k/\H p=some (.lst xs)/\ixN xs.length k=some j/\∀H',Off p H H'->H' p=some (.lst (xs.set j v))->Q H'
def jC:Zm X Q0:=by
 intro pins s σ H o i v ov iv u Q I ro ri rv h;obtain⟨p,xs,k,j,e1,e2,hp,hj,q⟩:=h;exact set_list pins s σ H o i v ov iv u Q I ro ri rv ⟨p,xs,k,j,e1,e2,hp,hj,q _ Off.upd bA⟩
def Ws(K:W.Frag):V->Option Int->Option Int->Hp->VK->Prop:=λx lo hi H Q=>∃a xs,x=.ref a/\SqL K H a xs/\∀p H',New H H' p (.lst (eG xs lo hi))->Q (.ref p) H'
def c7:SlR X (Ws X.K):=by
 intro pins s σ H x v vl vu lo hi sl Q I rx hs pl pu h;obtain⟨a,xs,e,hx,q⟩:=h;exact Wb pins s σ H x v vl vu lo hi sl Q I rx hs pl pu ⟨a,xs,e,hx,λp hp=>q p _ (.mk' hp)⟩
def Ds(K:W.Frag):List V->Hp->VK->Prop:=λxs H Q=>∃p ys,xs=[.ref p]/\(SqL K H p ys\/SqT K H p ys)/\∀l H',New H H' l (.lst ys)->Q (.ref l) H'
def gK:eZ X (.type "list") (Ds X.K):=by
 intro pins s σ H xs us Q I r h;obtain⟨p,ys,e,hq,q⟩:=h;exact Ar pins s σ H xs us Q I r ⟨p,ys,e,hq,λl hl=>q l _ (.mk' hl)⟩
end
section
variable{σ:St}{H:Hp}{Q:VK}{v x y:V}{i j:Int}{K:W.Frag}{t ta tb tc:TE}{tr:TA}{u:TS}{c d:TT}
def wv0{r:St}(h:Q v H):cR 0 (some v::r) H Q:=⟨v,rfl,h⟩
def wn0{o:Option V}{r:St}{R:St->Hp->Prop}(h:R (some v::r) H):aU 0 v (o::r) H R:=h
def wv1{o0:Option V}{r:St}(h:Q v H):cR 1 (o0::some v::r) H Q:=⟨v,rfl,h⟩
def wn1{o0:Option V}{o:Option V}{r:St}{R:St->Hp->Prop}(h:R (o0::some v::r) H):aU 1 v (o0::o::r) H R:=h
def wv2{o0 o1:Option V}{r:St}(h:Q v H):cR 2 (o0::o1::some v::r) H Q:=⟨v,rfl,h⟩
def wn2{o0 o1:Option V}{o:Option V}{r:St}{R:St->Hp->Prop}(h:R (o0::o1::some v::r) H):aU 2 v (o0::o1::o::r) H R:=h
def wv3{o0 o1 o2:Option V}{r:St}(h:Q v H):cR 3 (o0::o1::o2::some v::r) H Q:=⟨v,rfl,h⟩
def wn3{o0 o1 o2:Option V}{o:Option V}{r:St}{R:St->Hp->Prop}(h:R (o0::o1::o2::some v::r) H):aU 3 v (o0::o1::o2::o::r) H R:=h
def wv4{o0 o1 o2 o3:Option V}{r:St}(h:Q v H):cR 4 (o0::o1::o2::o3::some v::r) H Q:=⟨v,rfl,h⟩
def wn4{o0 o1 o2 o3:Option V}{o:Option V}{r:St}{R:St->Hp->Prop}(h:R (o0::o1::o2::o3::some v::r) H):aU 4 v (o0::o1::o2::o3::o::r) H R:=h
def wv5{o0 o1 o2 o3 o4:Option V}{r:St}(h:Q v H):cR 5 (o0::o1::o2::o3::o4::some v::r) H Q:=⟨v,rfl,h⟩
def wn5{o0 o1 o2 o3 o4:Option V}{o:Option V}{r:St}{R:St->Hp->Prop}(h:R (o0::o1::o2::o3::o4::some v::r) H):aU 5 v (o0::o1::o2::o3::o4::o::r) H R:=h
def wv6{o0 o1 o2 o3 o4 o5:Option V}{r:St}(h:Q v H):cR 6 (o0::o1::o2::o3::o4::o5::some v::r) H Q:=⟨v,rfl,h⟩
def wn6{o0 o1 o2 o3 o4 o5:Option V}{o:Option V}{r:St}{R:St->Hp->Prop}(h:R (o0::o1::o2::o3::o4::o5::some v::r) H):aU 6 v (o0::o1::o2::o3::o4::o5::o::r) H R:=h
def wv7{o0 o1 o2 o3 o4 o5 o6:Option V}{r:St}(h:Q v H):cR 7 (o0::o1::o2::o3::o4::o5::o6::some v::r) H Q:=⟨v,rfl,h⟩
def wn7{o0 o1 o2 o3 o4 o5 o6:Option V}{o:Option V}{r:St}{R:St->Hp->Prop}(h:R (o0::o1::o2::o3::o4::o5::o6::some v::r) H):aU 7 v (o0::o1::o2::o3::o4::o5::o6::o::r) H R:=h
def wv8{o0 o1 o2 o3 o4 o5 o6 o7:Option V}{r:St}(h:Q v H):cR 8 (o0::o1::o2::o3::o4::o5::o6::o7::some v::r) H Q:=⟨v,rfl,h⟩
def wn8{o0 o1 o2 o3 o4 o5 o6 o7:Option V}{o:Option V}{r:St}{R:St->Hp->Prop}(h:R (o0::o1::o2::o3::o4::o5::o6::o7::some v::r) H):aU 8 v (o0::o1::o2::o3::o4::o5::o6::o7::o::r) H R:=h
def wv9{o0 o1 o2 o3 o4 o5 o6 o7 o8:Option V}{r:St}(h:Q v H):cR 9 (o0::o1::o2::o3::o4::o5::o6::o7::o8::some v::r) H Q:=⟨v,rfl,h⟩
def wn9{o0 o1 o2 o3 o4 o5 o6 o7 o8:Option V}{o:Option V}{r:St}{R:St->Hp->Prop}(h:R (o0::o1::o2::o3::o4::o5::o6::o7::o8::some v::r) H):aU 9 v (o0::o1::o2::o3::o4::o5::o6::o7::o8::o::r) H R:=h
def ZX{o0 o1 o2 o3 o4 o5 o6 o7 o8 o9:Option V}{r:St}(h:Q v H):cR 10 (o0::o1::o2::o3::o4::o5::o6::o7::o8::o9::some v::r) H Q:=⟨v,rfl,h⟩
def acV{o0 o1 o2 o3 o4 o5 o6 o7 o8 o9:Option V}{o:Option V}{r:St}{R:St->Hp->Prop}(h:R (o0::o1::o2::o3::o4::o5::o6::o7::o8::o9::some v::r) H):aU 10 v (o0::o1::o2::o3::o4::o5::o6::o7::o8::o9::o::r) H R:=h
def Z0{o0 o1 o2 o3 o4 o5 o6 o7 o8 o9 o10:Option V}{r:St}(h:Q v H):cR 11 (o0::o1::o2::o3::o4::o5::o6::o7::o8::o9::o10::some v::r) H Q:=⟨v,rfl,h⟩
def acW{o0 o1 o2 o3 o4 o5 o6 o7 o8 o9 o10:Option V}{o:Option V}{r:St}{R:St->Hp->Prop}(h:R (o0::o1::o2::o3::o4::o5::o6::o7::o8::o9::o10::some v::r) H):aU 11 v (o0::o1::o2::o3::o4::o5::o6::o7::o8::o9::o10::o::r) H R:=h
def Z1{o0 o1 o2 o3 o4 o5 o6 o7 o8 o9 o10 o11:Option V}{r:St}(h:Q v H):cR 12 (o0::o1::o2::o3::o4::o5::o6::o7::o8::o9::o10::o11::some v::r) H Q:=⟨v,rfl,h⟩
def acX{o0 o1 o2 o3 o4 o5 o6 o7 o8 o9 o10 o11:Option V}{o:Option V}{r:St}{R:St->Hp->Prop}(h:R (o0::o1::o2::o3::o4::o5::o6::o7::o8::o9::o10::o11::some v::r) H):aU 12 v (o0::o1::o2::o3::o4::o5::o6::o7::o8::o9::o10::o11::o::r) H R:=h
def acY{o0 o1 o2 o3 o4 o5 o6 o7 o8 o9 o10 o11 o12:Option V}{o:Option V}{r:St}{R:St->Hp->Prop}(h:R (o0::o1::o2::o3::o4::o5::o6::o7::o8::o9::o10::o11::o12::some v::r) H):aU 13 v (o0::o1::o2::o3::o4::o5::o6::o7::o8::o9::o10::o11::o12::o::r) H R:=h
def w_c(h:Q v H):tC v σ H Q:=h
def Z2{f:Int->Int->V}(h:Q (f i j) H):rI0 f (.int i) (.int j) H Q:=⟨i,j,rfl,rfl,h⟩
def w_mod{f:Int->Int->V}(hj:0<j)(h:Q (f i j) H):rI (λ_ j=>0<j) f (.int i) (.int j) H Q:=⟨i,j,rfl,rfl,hj,h⟩
def w_div{f:Int->Int->V}(h0:0<j)(h1:j<1073741824)(h:Q (f i j) H):rI Zu f (.int i) (.int j) H Q:=⟨i,j,rfl,rfl,⟨h0,h1⟩,h⟩
def w_pow{f:Int->Int->V}(h0:0<=j)(h1:j<=1000000)(h2:i.natAbs<2 ^ 64)(h:Q (f i j) H):rI Zv f (.int i) (.int j) H Q:=⟨i,j,rfl,rfl,⟨h0,h1,h2⟩,h⟩
def HY{f:Int->Int->V}(h0:-(2 ^ 64)<i)(h1:i<2 ^ 64)(h:Q (f i j) H):rI M6 f (.int i) (.int j) H Q:=⟨i,j,rfl,rfl,.inl ⟨h0,h1⟩,h⟩
def Ia{f:Int->Int->V}(h0:-(2 ^ 64)<j)(h1:j<2 ^ 64)(h:Q (f i j) H):rI M6 f (.int i) (.int j) H Q:=⟨i,j,rfl,rfl,.inr ⟨h0,h1⟩,h⟩
def w_u{g:Int->V}(h:Q (g i) H):rU g (.int i) H Q:=⟨i,rfl,h⟩
def Q5(h:Q (.bl (decide (i=j))) H):rEq (.int i) (.int j) H Q:=⟨rfl,by rw[show decide (V.int i=V.int j)=decide (i=j) from decide_eq_decide.mpr ⟨λe=>by cases e;rfl,λe=>by rw[e]⟩];exact h⟩
def Q6(h:Q (.bl (!decide (i=j))) H):rNe (.int i) (.int j) H Q:=⟨rfl,by rw[show decide (V.int i=V.int j)=decide (i=j) from decide_eq_decide.mpr ⟨λe=>by cases e;rfl,λe=>by rw[e]⟩];exact h⟩
def Yn{a b:Str}(h:Q (.bl (decide (a=b))) H):rEq (.str a) (.str b) H Q:=⟨rfl,by rw[show decide (V.str a=V.str b)=decide (a=b) from decide_eq_decide.mpr ⟨λe=>by cases e;rfl,λe=>by rw[e]⟩];exact h⟩
def Yo{a b:Str}(h:Q (.bl (!decide (a=b))) H):rNe (.str a) (.str b) H Q:=⟨rfl,by rw[show decide (V.str a=V.str b)=decide (a=b) from decide_eq_decide.mpr ⟨λe=>by cases e;rfl,λe=>by rw[e]⟩];exact h⟩
def Yp{a b:Bool}(h:Q (.bl (!decide (a=b))) H):rNe (.bl a) (.bl b) H Q:=⟨rfl,by rw[show decide (V.bl a=V.bl b)=decide (a=b) from decide_eq_decide.mpr ⟨λe=>by cases e;rfl,λe=>by rw[e]⟩];exact h⟩
def acZ{k:Bool}{R:Bool->Prop}(h:R k):∃c,V.bl k=.bl c/\R c:=⟨k,rfl,h⟩
def w_not{R:Bool->Hp->Prop}(h:c σ H λb H1=>R (!b) H1):Zi c σ H R:=h
def w_and{R:Bool->Hp->Prop}(h:c σ H λb H1=>if b=true then d σ H1 R else R false H1):Zh c d σ H R:=h
def w_or{R:Bool->Hp->Prop}(h:c σ H λb H1=>if b=true then R true H1 else d σ H1 R):tOr c d σ H R:=h
def Q9(h:ta σ H λx H1=>∃c,x=.bl c/\Q (.bl (!c)) H1):PB ta σ H Q:=h
def Q_(h:ta σ H λx H1=>∃c,x=.bl c/\if c=true then tb σ H1 Q else Q (.bl false) H1):Pz ta tb σ H Q:=h
def Yq(h:c σ H λb H1=>if b=true then ta σ H1 Q else tb σ H1 Q):tIf c ta tb σ H Q:=h
def Kh{r r':R2}(h:ta σ H λx H1=>tb σ H1 λy H2=>r x y H2 λz H3=>∃k,z=.bl k/\if k=true then tc σ H3 λw H4=>r' y w H4 Q else Q (.bl false) H3):Ah r r' ta tb tc σ H Q:=h
def ac0{nx bk ct:St->Hp->Prop}{rt:VK}(h:rt v H):(Ends.mk nx rt bk ct).rt v H:=h
def w_call{sp:Sp}{E:XK}(h:tr σ H λvs H1=>sp vs H1 Q E):C_ sp [] E tr σ H Q:=by
 have e:(λvs H1=>sp (vs++[]) H1 Q E)=λvs H1=>sp vs H1 Q E:=by
  funext vs H1
  rw[mE]
 show tr σ H λvs H1=>sp (vs++[]) H1 Q E
 rw[e];exact h
def ac1{T:String}{r:V->List V->Hp->VK->Prop}{to:TE}(h:to σ H λx H1=>tyV K T x H1/\tr σ H1 λxs H2=>r x xs H2 Q):tBM K T r to tr σ H Q:=h
def w_sub{to ti:TE}{ts:PX}{R:St->Hp->Prop}(h:to σ H λo H1=>ti σ H1 λi H2=>ts o i v H2 λH3=>R σ H3):Zn to ti ts v σ H R:=h
def Kl{r:V->Option Int->Option Int->Hp->VK->Prop}{tl th:TO}(h:t σ H λx H1=>tl σ H1 λl H2=>th σ H2 λu H3=>r x l u H3 Q):tSl r t tl th σ H Q:=h
def Du{R:Option Int->Hp->Prop}(h:R none H):Aj σ H R:=h
def Ra{R:Option Int->Hp->Prop}(h:t σ H λx H1=>∃i,x=.int i/\R (some i) H1):Qk t σ H R:=h
def Yr{R:Int->Prop}(h:R i):∃k,V.int i=.int k/\R k:=⟨i,rfl,h⟩
def Dv{p:Addr}{xs:List V}(h:SqL K H p xs)(e:atI xs i=some v)(k:Q v H):Ql K (.ref p) (.int i) H Q:=⟨p,xs,i,v,rfl,rfl,h,e,k⟩
def Rb{p:Addr}{xs:List V}(h:SqT K H p xs)(e:atI xs i=some v)(k:Q v H):Ht K (.ref p) (.int i) H Q:=⟨p,xs,i,v,rfl,rfl,h,e,k⟩
def Dw(K:W.Frag):List V->Hp->VK->Prop:=λxs H Q=>∃x n,xs=[x]/\acC K x H n/\Q (.int n) H
def Ib{p:Addr}{xs:List V}(h:SqL K H p xs)(k:Q (.int xs.length) H):Dw K [.ref p] H Q:=⟨_,xs.length,rfl,.inl ⟨xs,h,rfl⟩,k⟩
def Rf{p:Addr}{xs:List V}(h:SqT K H p xs)(k:Q (.int xs.length) H):Dw K [.ref p] H Q:=⟨_,xs.length,rfl,.inr ⟨xs,h,rfl⟩,k⟩
def Z4{z:Str}(h:z.length<=sizeLine)(k:Q (.int z.length) H):Dw K [.str z] H Q:=⟨_,z.length,rfl,⟨h,rfl⟩,k⟩
def Km:List V->Hp->VK->Prop:=λxs H Q=>∃i j,xs=[.int i,.int j]/\Q (.int (if j > i then j else i)) H
def Rg:List V->Hp->VK->Prop:=λxs H Q=>∃i j,xs=[.int i,.int j]/\Q (.int (if j<i then j else i)) H
def Rh(h:Q (.int (max i j)) H):Km [.int i,.int j] H Q:=⟨i,j,rfl,by
 rw[show (if j > i then j else i)=max i j by rw[Int.max_def];split <;> split <;> lia];exact h⟩
def Ys(h:Q (.int (min i j)) H):Rg [.int i,.int j] H Q:=⟨i,j,rfl,by
 rw[show (if j<i then j else i)=min i j by rw[Int.min_def];split <;> split <;> lia];exact h⟩
def w_is{x d:V}{tv:Value}{b:Bool}(ty:dj K H x tv)(e:rR K tv d=some b)(h:Q (.bl b) H):uH K [x,d] H Q:=⟨x,d,tv,b,rfl,ty,e,h⟩
def Z5:R2:=λx y H Q=>y=.non/\Q (.bl (decide (x=.non))) H
end
section
variable{X:Cx}
def bK:eZ X (.builtin "len") (Dw X.K):=Qe
def yu(hc:X.calm=true):eZ X (.builtin "max") Km:=M7 hc
def jD(hc:X.calm=true):eZ X (.builtin "min") Rg:=M8 hc
def Ko:OpR X (compareOp .Is) Z5:=Zy
end
section
variable{A B p:Prop}[Decidable p]{b:Bool}
def cN(h1:p->A)(h2:¬ p->B):if decide p=true then A else B:=by
 by_cases h:p
 ·rw[zS (gX h)];exact h1 h
 ·rw[if_neg (by simpa using h)];exact h2 h
theorem i_b(h1:b=true->A)(h2:b=false->B):if b=true then A else B:=by
 cases b with
 | true=>exact acJ (h1 rfl)
 | false=>exact acI (h2 rfl)
def i_T(h:b=true)(k:A):if b=true then A else B:=by rw[zS h];exact k
def i_F(h:b=false)(k:B):if b=true then A else B:=by rw[yA (by rw[h];exact vE)];exact k
def Yt(h:p)(k:A):if decide p=true then A else B:=by rw[zS (gX h)];exact k
def Yu(h:¬ p)(k:B):if decide p=true then A else B:=by rw[if_neg (by simpa using h)];exact k
def Ri(h:p)(k:B):if (!decide p)=true then A else B:=by rw[if_neg (by simpa using h)];exact k
def Rj(h:¬ p)(k:A):if (!decide p)=true then A else B:=by rw[if_pos (by simpa using h)];exact k
end
section
variable{H H':Hp}{q a:Addr}{ys:List V}
def aD(H:Hp)(ys:List V)(rows:List (List V)):Prop:=ys.length=rows.length/\∀(j:Nat)(r:List V),rows[j]?=some r->∃q,ys[j]?=some (.ref q)/\H q=some (.tup r)
def aD.same{rows:List (List V)}(s:Same H H')(h:aD H ys rows):aD H' ys rows:=⟨h.1,λj r e=>let ⟨q,a,b⟩:=h.2 j r e;⟨q,a,s _ _ b⟩⟩
def aD.nil:aD H [] []:=⟨rfl,λj r e=>by simp at e⟩
end
section
variable{σ:St}{H:Hp}{K:W.Frag}{a b:V}{p:Addr}
def Z6{i0 i1:Nat}{R:St->Hp->Prop}(hp:SqT K H p [a,b])(h:aU i0 a σ H λσ1 H1=>aU i1 b σ1 H1 R):o_ K 2 (cJ (aU i0) (cJ (aU i1) qO)) (.ref p) σ H R :=
 ⟨p,_,rfl,hp,rfl,_,_,rfl,_,_,rfl,rfl,h⟩
end
def Z7(K:W.Frag):R2:=λx y H Q=>∃d d',Rep K H d x/\Rep K H d' y/\jo d<=100/\Q (.bl (!gR d d')) H
def Rk{X:Cx}{k:Nat}(hr:Room k X.A):OpR X (compareOp .NotEq) (Z7 X.K):=Wi hr
theorem Ie:∀ns:List Int,fQ (ns.map Dt.int)=0
 | []=>rfl
 | n::ns=>by simp[fQ,jo,Ie ns]
end L2
namespace L2
open PySem PySem.Spec PyProof.Rows PySem.SeqAt
section
variable{X:Cx}{a:Expr}
def Rm:R2:=λx y H Q=>∃a b,x=.bl a/\y=.bl b/\Q (.bl (!decide (a=b))) H
def Wt:OpR X (compareOp .IsNot) Rm:=by
 intro pins s σ H x y v u Q I rx ry h;obtain⟨a,b,rfl,rfl,q⟩:=h;cases rx;cases ry;exact wpAny_isNot_plain rfl (cj I q (by cases a <;> cases b <;> rfl))
def Rn{H:Hp}{Q:VK}{a b:Bool}(h:Q (.bl (!decide (a=b))) H):Rm (.bl a) (.bl b) H Q:=⟨a,b,rfl,rfl,h⟩
def idV:V->Bool
 | .non=>true
 | .bl _=>true
 | .int _=>true
 | .str _=>true
 | .ref _=>true
 | _=>false
theorem yx{A:Around}{s:Shared}{x:V}{u v:Value}(f:idV x=true)(ru:RelV x u)(rv:RelV x v):EqAt A s u v true:=by
 cases x with
 | non=>cases ru;cases rv;exact EqAt.same _
 | bl b=>cases ru;cases rv;exact EqAt.same _
 | ref b=>cases ru;cases rv;exact EqAt.same _
 | int i =>
  obtain⟨t,rfl⟩:=ru;obtain⟨t',rfl⟩:=rv;have:=EqAt.int_int (A:=A) (s:=s) i t i t'
  rwa [beq_self_eq_true] at this
 | str z =>
  obtain⟨t,rfl⟩:=ru;obtain⟨t',rfl⟩:=rv;have:=EqAt.str_str (A:=A) (s:=s) z t z t'
  rwa [beq_self_eq_true] at this
 | _=>exact gL (show false=true from f) vE
def agt(K:W.Frag):R2:=λx y H Q=>∃p q xs,x=.ref p/\y=.ref q/\SqL K H p xs/\SqL K H q xs/\xs.all idV=true/\Q (.bl false) H
def Z8{k:Nat}(hr:Room k X.A):OpR X (compareOp .NotEq) (agt X.K):=by
 intro pins s σ H x y v u Q I rx ry h;obtain⟨p,q,xs,rfl,rfl,hp,hq,hf,qq⟩:=h;cases rx;cases ry;obtain⟨us,ru,pu,_⟩:=I.list hp;obtain⟨vs,rv,pw,_⟩:=I.list hq;have hsz:us.toArray.size=vs.toArray.size:=by simp[<- ru.length,<- rv.length]
 have b:=RcNeAt.lists (A:=X.A) (s:=s) (e:=λ_=>true) pu.isList pw.isList hsz (by have:=hr.un;lia) (λj h1 h2=>by
  have l1:j<us.length:=by simpa using h1
  have l2:j<vs.length:=by simpa using h2
  have l3:j<xs.length:=by rw[ru.length];exact l1
  have e3:xs[j]?=some xs[j]:=by simp[l3]
  obtain⟨u,eu,qu⟩:=ru.get e3;obtain⟨v,ev,qv⟩:=rv.get e3;have z1:us.toArray[j]=u:=by
   have:us[j]?=some us[j]:=by simp[l1]
   rw[this] at eu;simpa using eu
  have z2:vs.toArray[j]=v:=by
   have:vs[j]?=some vs[j]:=by simp[l2]
   rw[this] at ev;simpa using ev
  rw[z1,z2];exact yx (List.all_eq_true.mp hf _ (List.getElem_mem l3)) qu qv)
 rw[show ((List.range us.toArray.size).all λ_=>true)=true by simp] at b;exact b X.prog X.w X.xe _ ⟨.bl _,H,I,rfl,qq⟩
end
def Nx{σ:St}{H:Hp}{wi:TI}{J:It}{xs:List V}{Lk:Hp->Prop}{c:TT}{Q:VK}{fr:List Nat}{fvs:St}{p:V->Bool}(hz:xs.length<=1000000)(hf:(fr.map λi=>(σ[i]?).getD none)=fvs)
  (it:L2.ItemsOf J xs Lk) (hw:∀R:It->Hp->Prop,R J H->wi σ H R) (hL:∀H',Same H H'->Lk H')
  (turn:∀(i:Nat)(v:V)(H':Hp)(R:Bool->Hp->Prop),xs[i]?=some v->Same H H'->(∀H2,Same H' H2->R (p v) H2)->c (some v::fvs) H' R)
  (k:∀l H',New H H' l (.lst (xs.filter p))->Q (.ref l) H'):m_ wi 1 fr (aU 0) c (cR 0) σ H Q:=by
 refine hw _ λacc hacc=>?_
 subst hf;have jE:∀b u,H b=some u->b≠acc:=λb u e=>aP e hacc
 refine gJ it (λi ys H'=>H' acc=some (.lst ys)/\Same H H'/\ys=(xs.take i).filter p) ⟨bA,Same.new hacc,by simp⟩ (λi ys H' _ h=>⟨hL H' h.2.1,h.1⟩) ?_ ?_
 ·rintro i x tv ys H' hx hi ⟨ha,hs,rfl⟩ htv;obtain⟨tv0,rfl⟩:∃a,tv=[a]:=List.length_eq_one_iff.mp htv;have tk:xs.take (i+1)=xs.take i++[x]:=by
   rw[qV,hx]
   rfl
  unfold aU;refine turn i x H' _ hx hs λH2 s2=>?_
  cases hp:p x with
  | true =>
   refine acJ ⟨x,rfl,?_,s2 _ _ ha,fO.next (tv:=[some x]) hi ⟨bA,λb u e=>?_,?_⟩ rfl⟩
   ·refine mT (List.length_filter_le _ _) (qB ?_ (bN hz));rw[oQ]
    lia
   ·rw[aZ (jE b u e)];exact s2 _ _ (hs _ _ e)
   ·rw[tk,List.filter_append];simp[hp]
  | false =>
   refine acI (fO.next (tv:=[some x]) hi ⟨s2 _ _ ha,hs.trans s2,?_⟩ rfl);rw[tk,List.filter_append];simp[hp]
 ·rintro ys H' ⟨ha,hs,rfl⟩;rw[List.take_length] at ha;exact k acc H' ⟨hs,ha,jE⟩
section
variable{σ:St}{H:Hp}{Q:VK}{p:Addr}
def Z9(h:∀p H',New H H' p (.dK [])->Q (.ref p) H'):Hx σ H Q:=λp hp=>h p _ (.mk' hp)
end
def Ig(K:W.Frag)(te ts:TE):TE:=λσ H Q=>te σ H λx H1=>ts σ H1 λy H2=>∃a xs,x=.ref a/\y=.int (-1)/\SqL K H2 a xs/\∀p H',New H2 H' p (.lst xs.reverse)->Q (.ref p) H'
def Ro{X:Cx}{e st:Expr}{te ts:TE}{pos p2:Pos}(he:PE X e te)(hst:PE X st ts):PE X (.Subscript e (.Slice none none (some st) p2) pos) (Ig X.K te ts):=by
 intro pins s σ H Q I h;refine Subscript_ (thn (he pins s σ H _ I h) λv s1 ⟨x,H1,I1,r1,q1⟩=>?_);refine wpAny_Slice (wpAny_evalPart_none (wpAny_evalPart_none (wpAny_evalPart_some (thn (hst pins s1 σ H1 _ I1 q1) λz s2 ⟨y,H2,I2,r2,q2⟩=>?_))));obtain⟨a,xs,rfl,rfl,hx,q⟩:=q2;cases r1;obtain⟨t,rfl⟩:=r2;have I3:Inv X pins σ H2 { s2 with heap:=s2.heap.push { cls:=.type "slice", data:=.fields #[.none,.none,.int (-1) t] } }:=I2.kept (t':=s2.toks) λb ob z=>uB _ z
 obtain⟨its,r,ht,hz⟩:=I3.list hx;have hlen:=r.length;show wpAny (model X.prog X.w) X.A (subscriptTail e (.Slice none none (some st) p2) (.ref a) (.ref s2.heap.objs.size)) (EP X pins σ Q) X.xe { s2 with heap:=s2.heap.push { cls:=.type "slice", data:=.fields #[.none,.none,.int (-1) t] } }
 refine tail_any (ops:=[.ref a,.ref s2.heap.objs.size]) ht.isList.typeIs slot_list_getitem.lookup ?_ (by with_unfolding_all rfl);refine wpAny_getItem_list_slice (lo:=none) (hi:=none) (st:=some (-1)) ht.isList (Heap.IsSliceOf.new ..) .none .none (.int (-1) t) (by decide) ?_ (by rw[nK] <;> lia);rw[W.krv_pick];refine⟨.ref (s2.heap.push { cls:=.type "slice", data:=.fields #[.none,.none,.int (-1) t] }).objs.size,_,I3.laid (t':=s2.toks) (o:=.lst xs.reverse) (λb ob z=>uB _ z) (uC _) ?_,rfl,q _ _ (.mk' (I3.hok.fresh (uC _)))⟩;exact⟨by rw[List.length_reverse];exact hz,its.reverse,0,r.reverse,oP _ rfl⟩
def Kq{σ:St}{H:Hp}{Q:VK}{K:W.Frag}{te ts:TE}(h:te σ H λx H1=>ts σ H1 λy H2=>∃a xs,x=.ref a/\y=.int (-1)/\SqL K H2 a xs/\∀p H',New H2 H' p (.lst xs.reverse)->Q (.ref p) H'):Ig K te ts σ H Q:=h
def Kp(b:Addr)(H H':Hp):Prop:=∀x u,x≠b->H x=some u->H' x=some u
section
variable{b:Addr}{H H1:Hp}
def Off.kp(f:Off b H H1):Kp b H H1:=λx u n h=>by rw[f x n];exact h
end
def Rp(K:W.Frag):List V->Hp->VK->Prop:=λxs H Q=>∃p ys,xs=[.ref p]/\((SqL K H p ys/\∀l H',New H H' l (.tup ys)->Q (.ref l) H')\/(SqT K H p ys/\Q (.ref p) H))
def lC{X:Cx}:eZ X (.type "tuple") (Rp X.K):=by
 intro pins s σ H xs us Q I r h;obtain⟨p,ys,e,h⟩:=h;refine xg pins s σ H xs us Q I r ⟨p,ys,e,?_⟩;rcases h with⟨hq,q⟩|h
 ·exact .inl ⟨hq,λl hl=>q l _ (.mk' hl)⟩
 ·exact .inr h
section
variable{X:Cx}{K:W.Frag}
def cD(h:X.K=K):IxR X (Ht K):=h▸bF
def Ih(h:X.K=K):OpR X (compareOp .In) (rIn K false):=h▸qP
def xr(h:X.K=K):OpR X (compareOp .NotIn) (rIn K true):=h▸pF
end
def Ii(K:PySem.W.Frag)(a:Addr)(g:TG)(tb:TS)(D:Ends)(σ:St)(H:Hp):Prop:=∃W:Nat->Nat->St->Hp->Prop,(∃m,W 0 m σ H)/\∀i m σ H,W i m σ H ->
 ((Itl K a).stop i H/\D.nx σ H)\/((Itl K a).go i H/\∃N:St->Hp->Prop,(∀σ' H',N σ' H'->∃m',m'<m/\W (i+1) m' σ' H')/\∀x H',(Itl K a).yld i H x H'->g x σ H' λσ2 H2=>tb { D with nx:=N,ct:=N,bk:=D.nx } σ2 H2)
def Rq{K:W.Frag}{te:TE}{g:TG}{tb:TS}{D:Ends}{σ:St}{H:Hp}(h:te σ H λx H1=>∃a,x=.ref a/\(∃xs,SqL K H1 a xs)/\Ii K a g tb D σ H1):wX (uc K te) g tb D σ H:=h
def eE{K:W.Frag}{a:Addr}{xs:List V}{g:TG}{tb:TS}{D:Ends}{σ:St}{H:Hp}(Pv:Nat->St->Hp->Prop)(h0:Pv 0 σ H)(hl:∀i σ H,i<=xs.length->Pv i σ H->SqL K H a xs)
  (hs:∀i x σ H,xs[i]?=some x->Pv i σ H->g x σ H λσ2 H2=>tb { D with nx:=Pv (i+1),ct:=Pv (i+1),bk:=D.nx } σ2 H2) (hd:∀σ H,Pv xs.length σ H->D.nx σ H):Ii K a g tb D σ H:=P_ Pv h0 hl hs hd
def cF(J:It)(nt:Nat)(fr:List Nat)(g:TG)(c:TT)(te:TE)(σ:St)(H1:Hp)(Q:VK):Prop:=∀acc,H1 acc=none->pH J nt fr g c te σ H1 Q acc
def Kr{K:W.Frag}{t0 te:TE}{nt:Nat}{fr:List Nat}{g:TG}{c:TT}{σ:St}{H:Hp}{Q:VK}(h:t0 σ H λx H1=>∃a,x=.ref a/\(∃xs,SqL K H1 a xs)/\cF (Itl K a) nt fr g c te σ H1 Q):m_ (uc K t0) nt fr g c te σ H Q:=h
def comp_map{J:It}{xs:List V}{Lk:Hp->Prop}{te:TE}{σ:St}{H:Hp}{Q:VK}{fr:List Nat}{fvs:St}{P:Nat->V->Prop}(it:L2.ItemsOf J xs Lk)(hz:xs.length<=1000000)(hf:(fr.map λi=>(σ[i]?).getD none)=fvs)(hL:∀H',Same H H'->Lk H')
  (turn:∀(i:Nat)(v:V)(H':Hp)(R:VK),xs[i]?=some v->Same H H'->(∀y H2,Same H' H2->P i y->R y H2)->te (some v::fvs) H' R)
  (k:∀l H' ys,New H H' l (.lst ys)->ys.length=xs.length->(∀(i:Nat)(y:V),ys[i]?=some y->P i y)->Q (.ref l) H'):cF J 1 fr (aU 0) gQ te σ H Q:=by
 intro acc hacc;subst hf;have jE:∀b u,H b=some u->b≠acc:=λb u e=>aP e hacc
 refine gJ it (λi ys H'=>H' acc=some (.lst ys)/\Same H H'/\ys.length=i/\∀(j:Nat)(y:V),ys[j]?=some y->P j y) ⟨bA,Same.new hacc,rfl,λj y e=>by simp at e⟩ (λi ys H' _ h=>⟨hL H' h.2.1,h.1⟩) ?_ ?_
 ·rintro i x tv ys H' hx hi ⟨ha,hs,hl,hp⟩ htv;obtain⟨tv0,rfl⟩:∃a,tv=[a]:=List.length_eq_one_iff.mp htv;unfold aU gQ;dsimp only;rw[zS rfl];refine turn i x H' _ hx hs λy H2 s2 py=>⟨?_,s2 _ _ ha,fO.next (tv:=[some x]) hi ⟨bA,λb u e=>?_,by rw[yB,hl];rfl,λj z e=>?_⟩ rfl⟩
  ·rw[hl];exact qB hi (bN hz)
  ·rw[aZ (jE b u e)];exact s2 _ _ (hs _ _ e)
  ·by_cases hj:j<ys.length
   ·rw[yY hj] at e;exact hp j z e
   ·rw[nE (by lia)] at e;have hj2:j-ys.length=0:=by
     by_cases h0:j-ys.length=0
     ·exact h0
     ·rw[List.getElem?_eq_none (by simp;lia)] at e;cases e
    rw[hj2] at e;cases e;have:j=i:=by lia
    rw[this];exact py
 ·rintro ys H' ⟨ha,hs,hl,hp⟩;exact k acc H' ys ⟨hs,ha,jE⟩ hl hp
section
variable{m:Nat}{f C:Addr}
structure aiM(K:W.Frag)(C:Addr)(m:Str)(f:Addr):Prop where
 ga:W.specialIn K (.ref C) "__getattribute__" = some (some (.builtin "type.__getattribute__"))
 rd:W.readsIn K C (.type "type")=true
 at_:W.findCls K (.ref C) (.type "type") m=some (.val (.ref f))
 hi:W.handedIn (.ref f)=true
 kp:W.keepIn K (.ref f)=true
end
section
variable{P:Program}{w:World}{K:W.Frag}{mg:xC}{base:Heap}{CX:CXT}{k:Nat}{x nm qual:Str}{ps:List Str}{sp:Sp}{C:Addr}
structure Met(P:Program)(w:World)(K:W.Frag)(mg:xC)(base:Heap)(CX:CXT)(k:Nat)(C:Addr)(nm:Str)(ps:List Str)(sp:Sp):Prop where
 ex:∃(f:Addr)(fd:FuncData),iZ P w K mg base CX k f fd ps sp/\Meth K C nm f/\Binds K fd ps []
structure Mak(P:Program)(w:World)(K:W.Frag)(mg:xC)(base:Heap)(CX:CXT)(k:Nat)(x:Str)(C:Addr)(ps:List Str)(sp:Sp):Prop where
 ex:∃(f:Addr)(fd:FuncData),iZ P w K mg base CX k f fd ps sp/\Mk K C f/\mg x=some (.ref C)/\Binds K fd ps []
def FnAt(K:W.Frag)(nm qual:Str)(st:Stmt)(f:Addr):Prop:=∃fd:FuncData,Fun K nm qual st f fd
structure iu(P:Program)(w:World)(K:W.Frag)(mg:xC)(base:Heap)(CX:CXT)(k:Nat)(f:Addr)(ps:List Str)(sp:Sp):Prop where
 ex:∃fd:FuncData,iZ P w K mg base CX k f fd ps sp/\Binds K fd ps []
def iu.met{f:Addr}(t:iu P w K mg base CX k f ps sp)(m:Meth K C nm f):Met P w K mg base CX k C nm ps sp:=let ⟨fd,F,b⟩:=t.ex;⟨f,fd,F,m,b⟩
def iu.mak{f:Addr}(t:iu P w K mg base CX k f ps sp)(m:Mk K C f)(g:mg x=some (.ref C)):Mak P w K mg base CX k x C ps sp:=let ⟨fd,F,b⟩:=t.ex;⟨f,fd,F,m,g,b⟩
variable{st:Stmt}{N:List Str}{f:Addr}
def Rr(h:FnAt K nm qual st f)(S:aL N ps (aC st))(len:∀vs H Q E,sp vs H Q E->vs.length=ps.length)
  (hb:∀(kV doc pm:Value)(an:xI)(cdv ct:Value)(us:xD),us.length=ps.length->bindArgs (W.fnOf nm qual (b_ st) (bI st) (aC st) .none kV doc pm an cdv ct) ⟨us,[]⟩=pure (ps.zip us))
  (hbody:∀(f:Addr)(cdv:Value)(A:Around)(outer:List Env)(s:Shared)(H:Hp)(vs:List V)(Q:VK)(E:XK),Room k (A.deeper (envOfC qual (aC st) s.heap.objs.size f cdv))->sp vs H Q E ->
   ∃t,PSs (gP CX P w K mg base N qual (aC st) f cdv A outer s H E).nox (bI st) t/\t { nx:=λ_ H'=>Q .non H',rt:=Q } (start N vs) H):iu P w K mg base CX (k+1) f ps sp:=by
 obtain⟨fd,F⟩:=h;refine⟨fd,?_,F.binds hb⟩;obtain⟨oc,od,kV,doc,pm,an,cdv,ct,osl,rfl,lk,hcd⟩:=F.ex;refine pC lk hcd S len λA outer s H vs Q E hr hsp=>?_
 obtain⟨t,h,q⟩:=hbody f cdv A outer s H vs Q E hr hsp;exact⟨t,h.nox,q⟩
def Ny(h:FnAt K nm qual st f)(S:aL N ps (aC st))(len:∀vs H Q E,sp vs H Q E->vs.length=ps.length)
  (hb:∀(kV doc pm:Value)(an:xI)(cdv ct:Value)(us:xD),us.length=ps.length->bindArgs (W.fnOf nm qual (b_ st) (bI st) (aC st) .none kV doc pm an cdv ct) ⟨us,[]⟩=pure (ps.zip us))
  (hbody:∀(f:Addr)(cdv:Value)(A:Around)(outer:List Env)(s:Shared)(H:Hp)(vs:List V)(Q:VK)(E:XK),Room k (A.deeper (envOfC qual (aC st) s.heap.objs.size f cdv))->sp vs H Q E ->
   ∃t,PSs (gP (CX1 P w) P w K mg base N qual (aC st) f cdv A outer s H E) (bI st) t/\t { nx:=λ_ H'=>Q .non H',rt:=Q } (start N vs) H):iu P w K mg base (CX1 P w) (k+1) f ps sp:=by
 obtain⟨fd,F⟩:=h;refine⟨fd,?_,F.binds hb⟩;obtain⟨oc,od,kV,doc,pm,an,cdv,ct,osl,rfl,lk,hcd⟩:=F.ex;exact pC lk hcd S len λA outer s H vs Q E hr hsp=>hbody f cdv A outer s H vs Q E hr hsp
end
section
variable{X:Cx}{CX:CXT}{k m:Nat}{nm:Str}{ps:List Str}{sp:Sp}{E:XK}{pos apos:Pos}{e o:Expr}{es:List Expr}{t:TA}{ta:TE}{C:Addr}
def Ij{pl:Sem Bool}(he:PE X o ta)(c:Cls X.K C)(D:Met X.prog X.w X.K X.mg X.base CX k C nm ps sp)(hr:Room m X.A)(ha:PA X (e::es) t)(hk:k<=m:=by decide)(hx:Passes CX X E:=by exact yg)
  (hst:starEach (e::es) X.env=(false,eval e X.env)::starEach es X.env:=by rfl) (hpl:(backTo pos (starEach es X.env)).any (·.1)=false:=by rfl)
  (ht:eval (.Call (.Attribute o nm apos) (e::es) [] pos) X.env=(do
   let ov <- eval o X.env
   standAt apos.atName
   let (f,first) <- holding [ov] (getMethod ov nm pl)
   callWith pos f first (backTo pos (starEach (e::es) X.env)) (backToKw pos (keywordEach [] X.env))):=by rfl) :
  PE X (.Call (.Attribute o nm apos) (e::es) [] pos) (xU C nm sp [] E ta t):=by
 obtain⟨f,fd,F,mt,b⟩:=D.ex;exact V8 (pl:=pl) he c mt F (hr.mono hk) b .nil hx ha hst hpl ht
def jf{pl:Sem Bool}(he:PE X o ta)(c:Cls X.K C)(D:Met X.prog X.w X.K X.mg X.base CX k C nm ps sp)(hr:Room m X.A)(hk:k<=m:=by decide)(hx:Passes CX X E:=by exact yg)
  (ht:eval (.Call (.Attribute o nm apos) [] [] pos) X.env=(do
   let ov <- eval o X.env
   standAt apos.atName
   let (f,first) <- holding [ov] (getMethod ov nm pl)
   callWith pos f first (backTo pos (starEach [] X.env)) (backToKw pos (keywordEach [] X.env))):=by rfl) :
  PE X (.Call (.Attribute o nm apos) [] [] pos) (xU C nm sp [] E ta nQ):=by
 obtain⟨f,fd,F,mt,b⟩:=D.ex;exact Qi (pl:=pl) he c mt F (hr.mono hk) b .nil hx ht
end
end L2
namespace L2
open PySem PySem.Spec PyProof.Rows
def Bd(k:Nat)(x:Int):Prop:=0<=x/\x<2 ^ k
def Bd.abs{k:Nat}{x:Int}(h:Bd k x):x.natAbs<2 ^ k:=by
 have h1:=h.1;have h2:=h.2;have e:((x.natAbs:Nat):Int)<((2 ^ k:Nat):Int):=by
  rw[Int.natAbs_of_nonneg h1]
  exact_mod_cast h2
 exact_mod_cast e
def Rt{σ:St}{H:Hp}{te:TE}{tr:TA}{Q:VK}{fr:List Nat}{fvs:St}{n:Nat}(Iv:Addr->Nat->List V->Hp->Prop)(hr:QF tr σ H [.int (n:Int)])(hz:n<=1000000)(hf:(fr.map λi=>(σ[i]?).getD none)=fvs)
  (h0:∀acc H',New H H' acc (.lst [])->Iv acc 0 [] H') (ha:∀acc i ys H',Iv acc i ys H'->H' acc=some (.lst ys)/\ys.length=i)
  (turn:∀acc i ys H' (R:VK),i<n->Iv acc i ys H'->(∀y H2,H2 acc=some (.lst ys)->(∀H3,Off acc H2 H3->H3 acc=some (.lst (ys++[y]))->Iv acc (i+1) (ys++[y]) H3)->R y H2)->te (some (.int i)::fvs) H' R)
  (k:∀acc ys H',Iv acc n ys H'->Q (.ref acc) H'):m_ (xO tr) 1 fr (aU 0) gQ te σ H Q:=by
 refine hr _ ⟨n,rfl,by lia,by lia,λacc hacc=>?_⟩;subst hf;rw[Int.toNat_natCast];refine gJ kZ (λi ys H'=>Iv acc i ys H') (h0 acc _ (.mk' hacc)) (λi ys H' _ h=>⟨trivial,(ha acc i ys H' h).1⟩) ?_ ?_
 ·rintro i x tv ys H' hx hi h htv;obtain⟨tv0,rfl⟩:∃a,tv=[a]:=List.length_eq_one_iff.mp htv;have hi':i<n:=by simpa[eO] using hi
  obtain rfl:=uz hx hi';unfold aU gQ;dsimp only;rw[zS rfl];refine turn acc i ys H' _ hi' h λy H2 h1 h2=>⟨?_,h1,fO.next (tv:=[some (V.int i)]) hi (h2 _ Off.upd bA) rfl⟩
  rw[(ha acc i ys H' h).2];exact qB hi' (bN hz)
 ·rintro ys H' h;rw[show (eO 0 n).length=n by simp[eO]] at h;exact k acc ys H' h
abbrev Z_(i:Int):Str:=Str.ofString (toString i)
def Yv:R2:=λx y H Q=>∃i j,x=.str i/\y=.str j/\i.length+j.length<=sizeLine/\Q (.str (i++j)) H
def Yw:List V->Hp->VK->Prop:=λxs H Q=>∃i,xs=[.int i]/\i.natAbs.log2<1920/\Q (.str (Z_ i)) H
def rJoin(K:W.Frag):V->List V->Hp->VK->Prop:=λx xs H Q=>∃sep p ts,x=.str sep/\xs=[.ref p]/\SqL K H p (ts.map V.str)/\sep.length<=16/\(ts.map (λt=>t.length)).sum+ts.length<=1048576/\Q (.str (sep.join ts)) H
theorem uI:∀{ts:List Str} {us:xD},Vals (ts.map V.str) us->StrsAre us ts
 | [],_,.nil=>.nil
 | t::ts,_,.cons r h=>by
  obtain⟨k,rfl⟩:=r;exact .cons t k (uI h)
section
variable{X:Cx}
def tL:OpR X (binaryOp .Add) Yv:=Hg
def yC:eZ X (.type "str") Yw:=Ai
def Wu:MtR X "str.join" (rJoin X.K):=by
 intro pins s σ H x xs v us Q I rx rs h;obtain⟨sep,p,ts,rfl,rfl,hq,h1,h2,q⟩:=h;obtain⟨t,rfl⟩:=rx;obtain⟨u,rfl,r1⟩:=vals1 rs;cases r1;obtain⟨its,r,pl,hz⟩:=I.list hq;refine join_listW (items:=its.toArray) (ys:=ts) pl.isList (uI r) h1 h2 λt' k=>⟨.str (sep.join ts),H,I.tok _,⟨t',?_⟩,q⟩
 show Value.str (Builtin.Str.glued sep ts) t'=_;rw[StrLaws.glued_eq_join]
def Wv{o e:Expr}{to te:TE}{apos cpos:Pos}(ho:PE X o to)(he:PE X e te)(hbase:attributeBase o "join" X.env (eval o X.env)=eval o X.env:=by rfl)
  (hfew:((backTo cpos (starEach [e] X.env)).all (λx=>!x.1) && (backToKw cpos (keywordEach [] X.env)).all (λx=>x.1.isSome)
   && decide (([e]:List Expr).length+([]:List Keyword).length+(if ([]:List Keyword).isEmpty then 0 else 1)<30))=true:=by rfl)
  (hline:(apos.endLine==cpos.line)=true:=by rfl) (hs:starEach [e] X.env=(false,eval e X.env)::starEach [] X.env:=by rfl) :
  PE X (.Call (.Attribute o "join" apos) [e] [] cpos) (tBM X.K "str" (rJoin X.K) to (iK te nQ)) :=
 JT PySem.F.plainAttrs_str PySem.F.slot_str_join PySem.F.type_str_join Wu ho (aj he ao hs) hbase hfew hline hs (by rfl)
end
section
variable{n:Int}
def Nz{n:Int}(h:Bd 1000 n):n.natAbs.log2<1920:=by
 by_cases e:n.natAbs=0
 ·rw[e];decide
 ·have:=(Nat.log2_lt e).mpr h.abs
  lia
end
def tM{X:Cx}{K:W.Frag}{pos:Pos}{es:List Expr}{k:Nat}{t:TGs}{n:Nat}(hK:X.K=K)(hc:X.calm=true)(h:PGs X es t)
  (hn:(assignEach es X.env).length=n:=by rfl) (hst:(assignEach es X.env).findIdx? (·.1)=none:=by rfl):PG X (.Tuple es k pos) (o_ K n t):=by
 subst hK;exact fD hc h hn hst
def iR:V->Dt
 | .int i=>.int i
 | .str x=>.str x
 | .bl b=>.bl b
 | _=>.non
def jr:V->Bool
 | .int _=>true
 | .str _=>true
 | .bl _=>true
 | .non=>true
 | _=>false
section
variable{K:W.Frag}{H:Hp}
def Ru{v:V}(h:jr v=true):Rep K H (iR v) v:=by
 cases v <;> simp_all [jr,iR,Rep]
theorem yD:∀{vs:List V},(∀v∈vs,jr v=true)->dw K H (vs.map iR) vs
 | [],_=>by simp[dw]
 | v::vs,h=>by
  simp only[List.map_cons,dw];exact⟨_,_,rfl,Ru (h v (zC ..)),yD λx hx=>h x (zD _ hx)⟩
theorem Dy:∀vs:List V,fQ (vs.map iR)=0
 | []=>rfl
 | v::vs=>by
  have:jo (iR v)=0:=by cases v <;> rfl
  simp[fQ,this,Dy vs]
abbrev Dz(r:List V):Dt:=.tup (r.map iR)
theorem yE:∀{rows:List (List V)} {ys:List V},aD H ys rows->(∀r∈rows,∀v∈r,jr v=true)->dw K H (rows.map Dz) ys
 | [],ys,h,_=>by
  have:ys=[]:=List.eq_nil_of_length_eq_zero h.1;subst this;simp[dw]
 | r::rows,[],h,_=>by simp[aD] at h
 | r::rows,y::ys,h,hf=>by
  obtain⟨q,e,hq⟩:=h.2 0 r rfl;cases e;simp only[List.map_cons,dw];refine⟨_,_,rfl,?_,yE (rows:=rows) (ys:=ys) ⟨by simpa using h.1,λj r' e=>h.2 (j+1) r' e⟩ λx hx=>hf x (List.mem_cons_of_mem _ hx)⟩;simp only[Rep];exact⟨q,r,rfl,SqT.of hq,yD (hf r (zC ..))⟩
theorem DG:∀rows:List (List V),fQ (rows.map Dz)<=1
 | []=>by decide
 | r::rows=>by
  have h1:jo (Dz r)=1:=by simp only[jo,Dy]
  have h2:=DG rows;simp only[List.map_cons,fQ,h1]
  lia
def DK{p:Addr}{rows:List (List V)}{ys:List V}(hp:SqL K H p ys)(h:aD H ys rows)(hf:∀r∈rows,∀v∈r,jr v=true):Rep K H (.lst (rows.map Dz)) (.ref p):=by
 simp only[Rep];exact⟨p,ys,rfl,hp,yE h hf⟩
def NK(rows:List (List V)):jo (.lst (rows.map Dz))<=2:=by
 have:=DG rows;simp only[jo]
 lia
def Rv{d:Dt}{x y:V}{Q:VK}(hx:Rep K H d x)(hy:Rep K H d y)(hd:jo d<=100)(k:Q (.bl false) H):Z7 K x y H Q :=
 ⟨d,d,hx,hy,hd,by rw[yj];exact k⟩
end
section
variable{K:W.Frag}{σ:St}{H:Hp}{Q:VK}{ta:TE}{f:Str}{C:Addr}
def Rx(h:ta σ H λx H1=>∃a C dx fs v,x=.ref a/\H1 a=some (.ins C dx fs)/\Cls K C/\cH K C f/\fs.lookup f=some v/\Q v H1):Zz K ta f σ H Q:=h
def w_fld{a dx:Addr}{fs:List (Str×V)}{v:V}{R:V->Prop}(ho:H a=some (.ins C dx fs))(c:Cls K C)(n:cH K C f)(l:fs.lookup f=some v)(k:R v) :
  ∃a' C' dx' fs' v',V.ref a=.ref a'/\H a'=some (.ins C' dx' fs')/\Cls K C'/\cH K C' f/\fs'.lookup f=some v'/\R v':=⟨a,C,dx,fs,v,rfl,ho,c,n,l,k⟩
end
def NP{H:Hp}{x dx C:Addr}(hx:H x=none)(hd:H dx=none):Same H (upd (upd H dx (.own x)) x (.ins C dx [])):=λb u e=>by
 rw[aZ (aP e hx),aZ (aP e hd)];exact e
def Ks:V->List V->Hp->VK->Prop:=λx vs H Q=>∃l b xs zs,x=.ref l/\vs=[.ref b]/\H l=some (.lst xs)/\H b=some (.lst zs)/\xs.length+zs.length<=sizeLine/\∀H',Off l H H'->H' l=some (.lst (xs++zs))->Q .non H'
section
variable{X:Cx}
def Ww:MtM X "list.extend" Ks:=by
 intro pins s σ H x vs v us Q I rx rv h;obtain⟨l,b,xs,zs,e1,e2,hH,hB,hz,q⟩:=h;exact Nb pins s σ H x vs v us Q I rx rv ⟨l,b,xs,zs,e1,e2,hH,hB,hz,q _ Off.upd bA⟩
def Ku{o e:Expr}{to te:TE}{apos cpos:Pos}(ho:PE X o to)(he:PE X e te)(hbase:attributeBase o "extend" X.env (eval o X.env)=eval o X.env:=by rfl)
  (hfew:((backTo cpos (starEach [e] X.env)).all (λx=>!x.1) && (backToKw cpos (keywordEach [] X.env)).all (λx=>x.1.isSome)
   && decide (([e]:List Expr).length+([]:List Keyword).length+(if ([]:List Keyword).isEmpty then 0 else 1)<30))=true:=by rfl)
  (hline:(apos.endLine==cpos.line)=true:=by rfl) (hs:starEach [e] X.env=(false,eval e X.env)::starEach [] X.env:=by rfl) :
  PE X (.Call (.Attribute o "extend" apos) [e] [] cpos) (tBM X.K "list" Ks to (iK te nQ)) :=
 JT PySem.F.plainAttrs_list PySem.F.slot_list_extend PySem.F.type_list_extend Ww ho (aj he ao hs) hbase hfew hline hs (by rfl)
end
end L2
namespace L2
open PySem PySem.Spec PyProof.Rows PySem.SeqAt
section
variable{X:Cx}{id:String}{x nm:Str}{e v:Expr}{es:List Expr}{t:TA}{tv:TE}{p kp pos:Pos}
def Yx(X:Cx)(id:String)(nm:Str)(r:List V->V->Hp->VK->Prop):Prop:=∀(pins:pV) (s:Shared) (σ:St) (H:Hp) (xs:List V) (us:xD) (y:V) (u:Value) (Q:VK),Inv X pins σ H s->Vals xs us->RelV y u->r xs y H Q ->
 wpAny (model X.prog X.w) X.A (call (.builtin id) us [(nm,u)]) (EP X pins σ Q) X.xe s
def tCK(r:List V->V->Hp->VK->Prop)(t:TA)(tv:TE):TE:=λσ H Q=>t σ H λxs H1=>tv σ H1 λy H2=>r xs y H2 Q
def Yy{r:List V->V->Hp->VK->Prop}{σ:St}{H:Hp}{Q:VK}(h:t σ H λxs H1=>tv σ H1 λy H2=>r xs y H2 Q):tCK r t tv σ H Q:=h
def Ry{r:List V->V->Hp->VK->Prop}(hc:Yx X id nm r)(hg:Gl X x)(hm:X.mg x=none)(hv:bootBuiltins x=some (.builtin id))(ha:PA X (e::es) t)(hw:PE X v tv)(hn:x ≠ "__name__":=by decide)(hdb:(x==("__debug__" : Str))=false:=by decide)
  (he:backTo pos (starEach (e::es) X.env)=(false,eval e X.env)::backTo pos (starEach es X.env):=by rfl) (hpl:(backTo pos (starEach (e::es) X.env)).any (·.1)=false:=by rfl):PE X (.Call (.Name x p) (e::es) [⟨some nm,v,kp⟩] pos) (tCK r t tv):=by
 intro pins s σ H Q I h;refine wpAny_Call_Name_kw (iH I hg hm hv ?_ hn hdb);refine callWith_kw (thn (ha pos pins s σ H _ I h) λus s1 ⟨vs,H1,I1,r1,q1⟩=>?_) he hpl;refine kws_cons (thn (hw pins s1 σ H1 _ I1 q1) λz s2 ⟨y,H2,I2,r2,q2⟩=>kws_nil ?_);have hv2:Vals vs us:=r1;exact hc pins s2 σ H2 vs us y z Q I2 hv2 r2 q2
end
theorem DN:∀{ns:List Int} {us:xD},Vals (ns.map V.int) us->IntsAre us ns
 | [],_,.nil=>.nil
 | n::ns,_,.cons r t=>by
  obtain⟨k,rfl⟩:=r;exact .cons n k (DN t)
theorem rW:∀{us:xD} {ns:List Int} {i:Nat} {v:Value},IntsAre us ns->us[i]?=some v->∃t,v=.int (ns.getD i 0) t
 | _,_,_,_,.nil,e=>by simp at e
 | _,_,0,_,.cons n t h,e=>by
  simp at e;exact⟨t,e.symm⟩
 | _,_,i+1,_,.cons n t h,e=>by
  obtain⟨t',e'⟩:=rW (i:=i) h (by simpa using e);exact⟨t',by rw[e'];simp⟩
theorem lD(ns:List Int):∀n,n<=ns.length->preSum (λi=>ns.getD i 0) n=(ns.take n).sum
 | 0,_=>by simp[preSum]
 | n+1,h=>by
  rw[preSum,lD ns n (by lia),qV,List.sum_append];have:ns[n]?=some ns[n]:=by simp
  rw[List.getD_eq_getElem?_getD,this];simp
theorem Ik{ns:List Int}(h:∀n∈ns,0<=n/\n<=1000000):0<=ns.sum/\ns.sum<=1000000*(ns.length:Int):=by
 induction ns with
 | nil=>simp
 | cons a t ih =>
  have h1:=h a zC;have h2:=ih λn hn=>h n (zD _ hn)
  rw[List.sum_cons,mS]
  lia
def ajq(d:Int)(ns:List Int):Int:=ns.foldl max d
section
variable{X:Cx}
def Rz(K:W.Frag):List V->Hp->VK->Prop:=λxs H Q=>∃(p:Addr)(ns:List Int),xs=[.ref p]/\SqL K H p (ns.map V.int)/\(∀n∈ns,0<=n/\n<=1000000)/\ns.length<=1000000/\Q (.int ns.sum) H
def jF(hc:X.calm=true):eZ X (.builtin "sum") (Rz X.K):=by
 intro pins s σ H xs us Q I r h;obtain⟨p,ns,rfl,hq,hb,hz,q⟩:=h;obtain⟨u,rfl,rx⟩:=vals1 r;cases rx;obtain⟨its,rv,pl,_⟩:=I.list hq;have hi:=DN rv;have hn:its.length=ns.length:=by have:=rv.length;simpa using this.symm
 have hl:=pl.isList;have hlt:p<s.heap.objs.size:=let ⟨_,e,_⟩:=hl;uA e
 have part:∀j,j<=ns.length->0<=(ns.take j).sum/\(ns.take j).sum<=1000000*1000000:=λj hj=>by
  have b:=Ik (ns:=ns.take j) λn hn=>hb n (oB hn)
  have:(ns.take j).length<=1000000:=by rw[oQ];lia
  lia
 refine call_sum_walk (wpAny_pyIter_list hl ?_);refine⟨s.heap.objs.size,[s.heap.objs.size,p],[s.heap.objs.size],its.toArray.size,_,_,λi=>ns.getD i 0,rfl,Walks.list (A:=X.A.in1) (I.ok.hd hc) _ p (qE hlt) its.toArray,
  ⟨⟨_,Heap.get?_push_size _ rfl,rfl,rfl⟩,hl.push _⟩,λb hb'=>?_,λi v hP=>rW hi (by simpa using hP),λj hj=>?_,λh' tk t' hk=>?_⟩
 ·rcases vS.mp hb' with rfl|hb'
  ·show _<(s.heap.push _).objs.size;rw[size_push'];exact Nat.lt_succ_self _
  ·rw[uS.mp hb'];show _<(s.heap.push _).objs.size;rw[size_push'];exact Nat.lt_succ_of_lt hlt
 ·have hj':j<ns.length:=by rw[<- hn];simpa using hj
  rw[lD ns (j+1) hj'];have b1:=part (j+1) hj';have b2:=hb (ns.getD j 0) (by rw[List.getD_eq_getElem?_getD,qA hj'];exact List.getElem_mem hj');exact⟨⟨by show _<=ns.getD j 0;lia,by show ns.getD j 0<_;lia⟩,by lia,by lia⟩
 ·rw[nK,hn,lD ns _ (uC _),List.take_length];exact⟨.int _,H,I.kept (LSm.kept_iter hk),⟨_,rfl⟩,q⟩
section
abbrev eF(vs:xF)(c:Nat):Obj:={ cls:=.type "list", dict:=none,data:=.seq vs c,slots:=#[] }
end
theorem Bc{P:Program}{w:World}{A:Around}{E:xB}{s:Shared}{id:String}{b:Builtin}{args:xD}{kw:List (Str×Value)}{Q:xB}(hk:builtinKind id=none)(hp:plainId id=true)
  (hb:entryFor table id=some b) (ha:argsOk id ⟨args,kw⟩)
  (hc:wpAny (model P w) A.in1 (b ⟨args,kw⟩) (λfin s1=>match fin with
   | .done f=>(match (Except.ok f:Result) with|.ok (.ret v)=>Q v s1|.ok _=>False|.error e=>E e s1)
   | .again c=>c.quiet=true/\codeAny (model P w) A c (λr s2=>match r with|.ok (.ret v)=>Q v s2|.ok _=>False|.error e=>E e s2) s1) E s):wpAny (model P w) A (call (.builtin id) args kw) Q E s:=by
 refine wpAny_call (codeAny_call_builtin hp hb ?_);simp only[checkBuiltinCall,hk];unfold argsOk at ha;cases hg:Manifest.signature? id with
 | none=>exact rV hc
 | some sg =>
  rw[hg] at ha;have ha2:Bind.checkArgs id sg ⟨args,kw⟩=pure ():=ha;simp only[ha2];exact rV hc
end
def cI{CX:CXT}{P:Program}{w:World}{K:W.Frag}{mg:xC}{base:Heap}{N:List Str}{q:Str}{sc:Scope}{f:Addr}{cdv:Value}{A:Around}{outer:List Env}{s:Shared}{H:Hp}{E:XK}:(gP CX P w K mg base N q sc f cdv A outer s H E).nox.K=K:=rfl
def bO{CX:CXT}{P:Program}{w:World}{K:W.Frag}{mg:xC}{base:Heap}{N:List Str}{q:Str}{sc:Scope}{f:Addr}{cdv:Value}{A:Around}{outer:List Env}{s:Shared}{H:Hp}{E:XK}:(gP CX P w K mg base N q sc f cdv A outer s H E).K=K:=rfl
def Hs(H:Hp)(a:Addr):Prop:=∃u,H a=some u
section
variable{H H':Hp}{p:Addr}{o:HO}
def New.hs(n:New H H' p o):Hs H' p:=⟨o,n.e⟩
end
section
variable{H:Hp}{Q:VK}{K:W.Frag}{l b:Addr}{xs ys:List V}{y:V}{σ:St}{D:Ends}
def Wx{o:HO}{n:Nat}{Z:Addr->Hp->Prop}(z:n<=sizeLine)(k:∀p H',New H H' p o->Z p H'):n<=sizeLine/\∀p H',New H H' p o->Z p H':=⟨z,k⟩
def Yz{R:Prop}(h:SqL K H l xs)(k:R):tyV K "list" (.ref l) H/\R:=⟨.inl ⟨rfl,_,h⟩,k⟩
def YB(h:H l=some (.lst xs))(z:xs.length<sizeLine)(k:∀H',Off l H H'->H' l=some (.lst (xs++[y]))->Q .non H'):J5 (.ref l) [y] H Q:=⟨l,xs,y,rfl,rfl,h,z,k⟩
def ac2(h:H l=some (.lst xs))(e:H b=some (.lst ys))(z:xs.length+ys.length<=sizeLine)(k:∀H',Off l H H'->H' l=some (.lst (xs++ys))->Q .non H'):Ks (.ref l) [.ref b] H Q:=⟨l,b,xs,ys,rfl,rfl,h,e,z,k⟩
def Il{i:Int}{j:Nat}{v:V}{R:Hp->Prop}(h:H l=some (.lst xs))(e:ixN xs.length i=some j)(k:∀H',Off l H H'->H' l=some (.lst (xs.set j v))->R H'):Q0 (.ref l) (.int i) v H R:=⟨l,xs,i,j,rfl,rfl,h,e,k⟩
def RB{lo hi:Option Int}(h:SqL K H l xs)(k:∀p H',New H H' p (.lst (eG xs lo hi))->Q (.ref p) H'):Ws K (.ref l) lo hi H Q:=⟨l,xs,rfl,h,k⟩
def RD(h:H l=some (.lst xs))(e:H b=some (.lst ys))(z:xs.length+ys.length<=sizeLine)(k:∀p H',New H H' p (.lst (xs++ys))->Q (.ref p) H'):QC (.ref l) (.ref b) H Q:=⟨l,b,xs,ys,rfl,rfl,h,e,z,k⟩
def RJ{n:Nat}(h:H l=some (.lst [y]))(z:n<=1000000)(k:∀p H',New H H' p (.lst (List.replicate n y))->Q (.ref p) H'):QD (.ref l) (.int (n:Int)) H Q :=
 ⟨l,n,[y],rfl,rfl,h,by lia,by lia,by simp only[List.length_singleton,Int.toNat_natCast,Nat.one_mul];exact bN z,λp H' q=>k p H' (by
  have e:(List.replicate ((n:Int).toNat) [y]).flatten=List.replicate n y:=by
   rw[Int.toNat_natCast];clear z q k h
   induction n with
   | zero=>rfl
   | succ n ih=>rw[List.replicate_succ,List.flatten_cons,ih];rfl
  rw[<- e];exact q)⟩
def RK(h:SqL K H l xs)(k:∀p H',New H H' p (.lst xs)->Q (.ref p) H'):Ds K [.ref l] H Q:=⟨l,xs,rfl,.inl h,k⟩
def w_sumL{ns:List Int}(h:SqL K H l (ns.map V.int))(hb:∀n∈ns,0<=n/\n<=1000000)(hz:ns.length<=1000000)(k:Q (.int ns.sum) H):Rz K [.ref l] H Q:=⟨l,ns,rfl,h,hb,hz,k⟩
def aac{C dx:Addr}{fs:List (Str×V)}{m:Str}{R:Prop}(h:H l=some (.ins C dx fs))(e:fs.lookup m=none)(k:R):∃a' dx' fs',V.ref l=.ref a'/\H a'=some (.ins C dx' fs')/\fs'.lookup m=none/\R:=⟨l,dx,fs,rfl,h,e,k⟩
def RL{i:Nat}{te:TE}{ti:TIp}{v:V}(e:σ[i]?=some (some v))(h:te σ H λy H1=>ti v y H1 λz H2=>D.nx (σ.set i (some z)) H2):Zo i te ti D σ H:=⟨v,e,h⟩
def ac3{n:Nat}{i:Int}(h0:0<=i)(h1:i<n):ixN n i=some i.toNat:=by unfold ixN;rw[if_pos h0,if_pos h1]
def ac4{x y:V}{r:List V}:atI (x::y::r) 1=some y:=cP (j:=1) rfl
def ac5{x y z:V}{r:List V}:atI (x::y::z::r) 2=some z:=cP (j:=2) rfl
def ac6{x y z w:V}{r:List V}:atI (x::y::z::w::r) 3=some w:=cP (j:=3) rfl
def ac7{A B:Prop}(k:A):if (true:Bool)=true then A else B:=by rw[zS rfl];exact k
def ac8{A B:Prop}(k:B):if (false:Bool)=true then A else B:=by rw[yA (by decide)];exact k
def YC{A B:Prop}(k:B):if (!true:Bool)=true then A else B:=by rw[yA (by decide)];exact k
def YD{A B:Prop}(k:A):if (!false:Bool)=true then A else B:=by rw[zS (by decide)];exact k
def RM(h:H l=some (.tup xs))(k:Q (.bl true) H):uH K [.ref l,.ty "tuple"] H Q:=w_is (.tup h) (pJ (.tup h)) k
def RN(h:H l=some (.lst xs))(k:Q (.bl true) H):uH K [.ref l,.ty "list"] H Q:=w_is (.lst h) (JW (.lst h)) k
def RP{b:Bool}(k:Q (.bl true) H):uH K [.bl b,.ty "bool"] H Q:=w_is (dj.bl (K:=K) (H:=H) b) (Av (dj.bl (K:=K) (H:=H) b)) k
def DP{n:Nat}(h:n<1000000):n<sizeLine:=qB h (bN (uC _))
def RQ{n i0 i1:Nat}{a b:V}{R:St->Hp->Prop}(hn:n=2)(hp:SqT K H l [a,b])(h:aU i0 a σ H λσ1 H1=>aU i1 b σ1 H1 R):o_ K n (cJ (aU i0) (cJ (aU i1) qO)) (.ref l) σ H R:=by
 subst hn;exact Z6 hp h
def kh{i:Int}(h:SqL K H l xs)(h0:0<=i)(h1:i<xs.length)(k:∀v∈xs,Q v H):Ql K (.ref l) (.int i) H Q:=let ⟨v,e,m⟩:=Qv h0 h1;Dv h e (k v m)
def fC{rows:List (List V)}{i:Nat}{v:V}(h:aD H xs rows)(e:xs[i]?=some v):∃r q,rows[i]?=some r/\v=.ref q/\H q=some (.tup r):=by
 have hi:i<rows.length:=by rw[<- h.1];exact(jS.mp e).1
 obtain⟨q,e1,e2⟩:=h.2 i rows[i] (by simp);rw[e] at e1;exact⟨rows[i],q,by simp,Option.some.inj e1,e2⟩
def gq{te:TE}{fr:List Nat}{fvs:St}{rows:List (List V)}{F:List V->V}(hq:H l=some (.lst xs))(tp:aD H xs rows)(hz:xs.length<=1000000)(hf:(fr.map λi=>(σ[i]?).getD none)=fvs)
  (turn:∀(q:Addr)(r:List V)(H':Hp)(R:VK),r∈rows->Same H H'->H' q=some (.tup r)->(∀H2,Same H' H2->R (F r) H2)->te (some (.ref q)::fvs) H' R)
  (k:∀p H',New H H' p (.lst (rows.map F))->Q (.ref p) H'):cF (Itl K l) 1 fr (aU 0) gQ te σ H Q:=by
 refine comp_map (P:=λi y=>∃r,rows[i]?=some r/\y=F r) (cV (xs:=xs)) hz hf (λH' s=>s.seq (SqL.of hq)) (λi v H' R hv s kk=>?_) λp H' ys n hl hP=>k p H' ?_
 ·obtain⟨r,q,e1,rfl,e2⟩:=fC tp hv;exact turn q r H' R (yT e1) s (s _ _ e2) λH2 s2=>kk _ _ s2 ⟨r,e1,rfl⟩
 ·have e:ys=rows.map F:=by
   apply List.ext_getElem?
   intro i;rw[wS];by_cases hi:i<ys.length
   ·obtain⟨r,e1,e2⟩:=hP i ys[i] (by simp);rw[e1,qA hi,e2]
    rfl
   ·have:¬ i<rows.length:=by rw[<- tp.1];lia
    rw[mP (by lia),mP (by lia)]
    rfl
  rw[e] at n;exact n
end
section
variable{K:W.Frag}{g:TG}{tb:TS}{D:Ends}{σ:St}{H:Hp}{tr:TA}
def xu(lo:Int)(n:Nat)(g:TG)(tb:TS)(D:Ends)(σ:St)(H:Hp):Prop:=∃W:Nat->Nat->St->Hp->Prop,(∃m,W 0 m σ H)/\∀i m σ H,W i m σ H ->
 ((Itr lo n).stop i H/\D.nx σ H)\/((Itr lo n).go i H/\∃N:St->Hp->Prop,(∀σ' H',N σ' H'->∃m',m'<m/\W (i+1) m' σ' H')/\∀x H',(Itr lo n).yld i H x H'->g x σ H' λσ2 H2=>tb { D with nx:=N,ct:=N,bk:=D.nx } σ2 H2)
def Kv{lo:Int}{n:Nat}(Pv:Nat->St->Hp->Prop)(h0:Pv 0 σ H)(hs:∀i σ H,i<n->Pv i σ H->g (.int (lo+i)) σ H λσ2 H2=>tb { D with nx:=Pv (i+1),ct:=Pv (i+1),bk:=D.nx } σ2 H2)(hd:∀σ H,Pv n σ H->D.nx σ H):xu lo n g tb D σ H:=xQ Pv h0 hs hd
def Kw(h:tr σ H λvs H1=>∃j:Int,vs=[.int j]/\-(2 ^ 62)<=j/\j<2 ^ 62/\xu 0 j.toNat g tb D σ H1):wX (xO tr) g tb D σ H:=h
def Ky(h:tr σ H λvs H1=>∃i j:Int,vs=[.int i,.int j]/\(-(2 ^ 62)<=i/\i<2 ^ 62/\-(2 ^ 62)<=j/\j<2 ^ 62)/\xu i (j-i).toNat g tb D σ H1):wX (P0 tr) g tb D σ H:=h
def Io(K:PySem.W.Frag)(a:Addr)(xs:List V)(g:TG)(tb:TS)(D:Ends)(σ:St)(H:Hp):Prop:=∃W:Nat->Nat->St->Hp->Prop,(∃m,W 0 m σ H)/\∀i m σ H,W i m σ H ->
      ((Ite K a xs).stop i H/\D.nx σ H)\/((Ite K a xs).go i H/\∃N:St->Hp->Prop,(∀σ' H',N σ' H'->∃m',m'<m/\W (i+1) m' σ' H')/\∀x H',(Ite K a xs).yld i H x H'->g x σ H' λσ2 H2=>tb { D with nx:=N,ct:=N,bk:=D.nx } σ2 H2)
def RT(h:tr σ H λvs H1=>∃a xs,vs=[.ref a]/\SqL K H1 a xs/\Io K a xs g tb D σ H1):wX (QS K tr) g tb D σ H:=h
def agu{a:Addr}{xs:List V}(h:SqL K H a xs)(k:Io K a xs g tb D σ H):∃a' xs',[V.ref a]=[.ref a']/\SqL K H a' xs'/\Io K a' xs' g tb D σ H:=⟨a,xs,rfl,h,k⟩
def Kz{a:Addr}{xs:List V}(Pv:Nat->St->Hp->Prop)(h0:Pv 0 σ H)(hl:∀i σ H,i<=xs.length->Pv i σ H->SqL K H a xs)
  (hs:∀i x T σ H H',xs[i]?=some x->Pv i σ H->New H H' T (.tup [.int i,x])->g (.ref T) σ H' λσ2 H2=>tb { D with nx:=Pv (i+1),ct:=Pv (i+1),bk:=D.nx } σ2 H2) (hd:∀σ H,Pv xs.length σ H->D.nx σ H):Io K a xs g tb D σ H:=QT Pv h0 hl hs hd
def agv{a:Addr}{xs:List V}(h:SqL K H a xs)(k:Ii K a g tb D σ H):∃a',V.ref a=.ref a'/\(∃xs,SqL K H a' xs)/\Ii K a' g tb D σ H:=⟨a,rfl,⟨xs,h⟩,k⟩
def agw{a:Addr}{xs:List V}{nt:Nat}{fr:List Nat}{c:TT}{te:TE}{Q:VK}(h:SqL K H a xs)(k:cF (Itl K a) nt fr g c te σ H Q):∃a',V.ref a=.ref a'/\(∃xs,SqL K H a' xs)/\cF (Itl K a') nt fr g c te σ H Q:=⟨a,rfl,⟨xs,h⟩,k⟩
end
section
variable{K:W.Frag}{σ:St}{H:Hp}{Q:VK}{ta tv:TE}{t:TA}{f m:Str}{C:Addr}{sp:Sp}{E:XK}{D:Ends}
def Wy(K:W.Frag)(f:Str)(y x:V)(H:Hp)(R:Hp->Prop):Prop:=∃a C dx fs,x=.ref a/\H a=some (.ins C dx fs)/\Cls K C/\cH K C f/\fs.length<1000/\R (upd H a (.ins C dx (fZ f y fs)))
def DQ(h:tv σ H λy H1=>ta σ H1 λx H2=>Wy K f y x H2 λH3=>D.nx σ H3):ZC K ta tv f D σ H:=h
def aad{l dx:Addr}{fs:List (Str×V)}{y:V}{R:Hp->Prop}(ho:H l=some (.ins C dx fs))(c:Cls K C)(n:cH K C f)(z:fs.length<1000)(k:∀H',Off l H H'->H' l=some (.ins C dx (fZ f y fs))->R H'):Wy K f y (.ref l) H R :=
 ⟨l,C,dx,fs,rfl,ho,c,n,z,k _ Off.upd bA⟩
def Ip(C:Addr)(sp:Sp)(E:XK)(t:TA):TE:=λσ H Q=>t σ H λvs H1=>∀x dx H2,New H1 H2 x (.ins C dx [])->sp (.ref x::vs) H2 (λv H3=>v=.non/\Q (.ref x) H3) E
def DR(h:t σ H λvs H1=>∀x dx H2,New H1 H2 x (.ins C dx [])->sp (.ref x::vs) H2 (λv H3=>v=.non/\Q (.ref x) H3) E):Ip C sp E t σ H Q:=h
def DW(h:ta σ H λx H1=>∃a dx fs,x=.ref a/\H1 a=some (.ins C dx fs)/\fs.lookup m=none/\t σ H1 λvs H2=>sp (x::vs) H2 Q E):xU C m sp [] E ta t σ H Q:=by
 have e:(λ(x:V) (H1:Hp)=>∃a dx fs,x=.ref a/\H1 a=some (.ins C dx fs)/\fs.lookup m=none/\t σ H1 λvs H2=>sp (x::(vs++[])) H2 Q E)=λx H1=>∃a dx fs,x=.ref a/\H1 a=some (.ins C dx fs)/\fs.lookup m=none/\t σ H1 λvs H2=>sp (x::vs) H2 Q E:=by
  simp only[List.append_nil]
 show ta σ H λx H1=>∃a dx fs,x=.ref a/\H1 a=some (.ins C dx fs)/\fs.lookup m=none/\t σ H1 λvs H2=>sp (x::(vs++[])) H2 Q E
 rw[e];exact h
end
section
variable{X:Cx}{CX:CXT}{k m:Nat}{x:Str}{ps:List Str}{sp:Sp}{E:XK}{p pos:Pos}{e:Expr}{es:List Expr}{t:TA}{C:Addr}
def Bf(D:Mak X.prog X.w X.K X.mg X.base CX k x C ps sp)(hr:Room m X.A)(ha:PA X (e::es) t)(hk:k+1<=m:=by decide)(hx:Passes CX X E:=by exact yg)(hg:Gl X x:=by rfl)
  (hdb:(x==("__debug__" : Str))=false:=by decide) (he:starEach (e::es) X.env=(false,eval e X.env)::starEach es X.env:=by rfl) (hpl:(backTo pos (starEach es X.env)).any (·.1)=false:=by rfl) :
  PE X (.Call (.Name x p) (e::es) [] pos) (Ip C sp E t):=by
 obtain⟨f,fd,F,M,g,b⟩:=D.ex;intro pins s σ H Q I h;refine wpAny_Call_Name_kw (jO I hg g ?_ hdb);refine W.callWith_K (h₀:=X.base) I.ok.mod.kin M.kp (thn (ha pos pins s σ H _ I h) λus s1 ⟨vs,H1,I1,r,q⟩=>⟨I1.kIn,?_⟩) he hpl;refine Qj M F (hr.mono hk) b .nil hx I1 r λy dy h1 h2 h3=>?_
 rw[mE];exact q y dy _ ⟨NP h1 h2,bA,λa u z=>aP z h1⟩
end
def agx:V->Int->Bool
 | .int i,lo=>decide (lo<=i)
 | _,_=>false
def inB:V->Int->Int->Bool
 | .int i,lo,hi=>decide (lo<=i) && decide (i<=hi)
 | _,_,_=>false
section
variable{K:W.Frag}{H:Hp}{Q:VK}{E:XK}{x:V}{n:String}{p q:Addr}{a b c lo hi:Int}
def lE(K:W.Frag):Sp:=λvs H Q _=>∃x n,vs=[x]/\dj K H x (.type n)/\Q (.bl (isW x)) H
def Bg(ty:dj K H x (.type n))(k:Q (.bl (isW x)) H):lE K [x] H Q E:=⟨x,n,rfl,ty,k⟩
def n_(K:W.Frag):Sp:=λvs H Q _=>∃x n lo,vs=[x,.int lo]/\dj K H x (.type n)/\Q (.bl (agx x lo)) H
def Wz(k:Q (.bl (decide (lo<=a))) H):n_ K [.int a,.int lo] H Q E:=⟨_,_,lo,rfl,.int _,k⟩
def jV(K:W.Frag):Sp:=λvs H Q _=>∃x n lo hi,vs=[x,.int lo,.int hi]/\dj K H x (.type n)/\Q (.bl (inB x lo hi)) H
def DX(ty:dj K H x (.type n))(k:Q (.bl (inB x lo hi)) H):jV K [x,.int lo,.int hi] H Q E:=⟨x,n,lo,hi,rfl,ty,k⟩
def uJ(K:W.Frag):Sp:=λvs H Q _=>∃x n,vs=[x]/\dj K H x (.type n)/\Q (.bl (inB x 16 240)) H
def qW:Sp:=λvs H Q _=>∃(q:Addr)(a b:Int),vs=[.ref q]/\H q=some (.tup [.int a,.int b])/\Q (.int (a+b)) H
def ac9(h:H q=some (.tup [.int a,.int b]))(k:Q (.int (a+b)) H):qW [.ref q] H Q E:=⟨q,a,b,rfl,h,k⟩
def jg(ws:List (Nat×Nat)):List (List V):=ws.map λw=>[V.int (w.1:Nat),V.int (w.2:Nat)]
def gA(ws:List (Nat×Nat)):(jg ws).length=ws.length:=wE ..
def uK(K:W.Frag):Sp:=λvs H Q _=>∃(a:Addr)(ns:List Int)(k:Int),vs=[.ref a,.int k]/\SqL K H a (ns.map V.int)/\0<=k/\∀c:Int,Q (.int c) H
def WD{ns:List Int}{m:Int}(h:SqL K H p (ns.map V.int))(h0:0<=m)(k:∀c:Int,Q (.int c) H):uK K [.ref p,.int m] H Q E:=⟨p,ns,m,rfl,h,h0,k⟩
def Bh:Sp:=λvs H Q _=>∃c:Int,vs=[.int c]/\∀(p:Addr)(a b:Int)(H':Hp),New H H' p (.lst [.int a,.int b,.int 0])->Q (.ref p) H'
def aae(k:∀(p:Addr)(x y:Int)(H':Hp),New H H' p (.lst [.int x,.int y,.int 0])->Q (.ref p) H'):Bh [.int a] H Q E:=⟨a,rfl,k⟩
def uL:Sp:=λvs H Q _=>∃(p:Addr)(a b c m:Int),vs=[.ref p,.int m]/\H p=some (.lst [.int a,.int b,.int c])/\0<m/\m<1073741824/\∀(r a' b' c':Int)(H':Hp),0<=r->r<m->Off p H H'->H' p=some (.lst [.int a',.int b',.int c'])->Q (.int r) H'
def WK{m:Int}(h:H p=some (.lst [.int a,.int b,.int c]))(m0:0<m)(m1:m<1073741824)(k:∀(r a' b' c':Int)(H':Hp),0<=r->r<m->Off p H H'->H' p=some (.lst [.int a',.int b',.int c'])->Q (.int r) H'):uL [.ref p,.int m] H Q E :=
 ⟨p,a,b,c,m,rfl,h,m0,m1,k⟩
end
section
variable{g:TG}{tb:TS}{D:Ends}{σ:St}{H:Hp}{q:Addr}{ys:List V}{rows:List (List V)}
def lG{n:Nat}(Pv:Nat->St->Hp->Prop)(h0:Pv 0 σ H)(hs:∀i σ H,i<n->Pv i σ H->g (.int i) σ H λσ2 H2=>tb { D with nx:=Pv (i+1),ct:=Pv (i+1),bk:=D.nx } σ2 H2)(hd:∀σ H,Pv n σ H->D.nx σ H):xu 0 n g tb D σ H :=
 xQ Pv h0 (λi σ H hi h=>by rw[Int.zero_add];exact hs i σ H hi h) hd
def aD.snoc{r:List V}(h:aD H ys rows)(hq:H q=some (.tup r)):aD H (ys++[.ref q]) (rows++[r]):=by
 refine⟨by rw[yB,yB,h.1];rfl,λj s z=>?_⟩;by_cases hj:j<rows.length
 ·rw[yY hj] at z;obtain⟨x,e1,e2⟩:=h.2 j s z;exact⟨x,by rw[yY (by rw[h.1];exact hj)];exact e1,e2⟩
 ·have hj2:j=rows.length:=by
   have:=(jS.mp z).1;rw[yB,List.length_singleton] at this
   lia
  subst hj2;rw[nE (uC _),Nat.sub_self] at z;cases z;exact⟨q,by rw[<- h.1,nE (uC _),Nat.sub_self];rfl,hq⟩
def agy:Option (Nat×Nat)->Dt
 | none=>.non
 | some w=>.tup [.int (w.1:Nat),.int (w.2:Nat)]
end
def DY{K:W.Frag}{l:Addr}{σ:St}{H:Hp}{xs:List V}{c:TT}{Q:VK}{fr:List Nat}{fvs:St}{p:V->Bool}(hq:SqL K H l xs)(hz:xs.length<=1000000)(hf:(fr.map λi=>(σ[i]?).getD none)=fvs)
  (turn:∀(v:V)(H':Hp)(R:Bool->Hp->Prop),v∈xs->Same H H'->(∀H2,Same H' H2->R (p v) H2)->c (some v::fvs) H' R)
  (k:∀l H',New H H' l (.lst (xs.filter p))->Q (.ref l) H'):cF (Itl K l) 1 fr (aU 0) c (cR 0) σ H Q:=by
 have:=Nx (σ:=σ) (H:=H) (wi:=λ_ H R=>R (Itl K l) H) (J:=Itl K l) (c:=c) (Q:=Q) (fr:=fr) (fvs:=fvs) (p:=p) hz hf (cV (K:=K) (a:=l) (xs:=xs)) (λR h=>h) (λH' s=>s.seq hq) (λi v H' R hv s kk=>turn v H' R (yT hv) s kk) k;exact this
def isTup:HO->Bool
 | .tup _=>true
 | .frz _ _=>true
 | _=>false
def Tst(H H':Hp):Prop:=∀q u,isTup u=true->H q=some u->H' q=some u
inductive Im where
 | tup (q:Addr) (r:List V)
 | tps (ys:List V) (rs:List (List V))
 | fct (φ:Hp->Prop) (st:∀H H',Tst H H'->φ H->φ H')
def Im.holds(H:Hp):Im->Prop
 | .tup q r=>H q=some (.tup r)
 | .tps ys rs=>aD H ys rs
 | .fct φ _=>φ H
theorem Im.stay{H H':Hp}(t:Tst H H'):∀{f:Im},f.holds H->f.holds H'
 | .tup q r,h=>t q _ rfl h
 | .tps ys rs,h=>⟨h.1,λj r e=>let ⟨q,a,b⟩:=h.2 j r e;⟨q,a,t q _ rfl b⟩⟩
 | .fct φ st,h=>st H H' t h
class SH(H0:outParam Hp)(M:outParam (List Addr))(H:Hp)(L:outParam (List (Addr×HO)))(I:outParam (List Im)):Prop where
 fr:∀b u,b ∉ M->H0 b=some u->H b=some u
 im:∀f∈I,f.holds H
 at':∀c∈L,H c.1=some c.2
 nd:(L.map (·.1)).Nodup
 mu:∀c∈L,isTup c.2=false
 ch:∀c∈L,c.1∈M\/∀b u,H0 b=some u->b≠c.1
inductive Up(l:Addr)(o':HO):List (Addr×HO)->List (Addr×HO)->Prop
 | head {o:HO} {L:List (Addr×HO)}:Up l o' ((l,o)::L) ((l,o')::L)
 | tail {c:Addr×HO} {L L':List (Addr×HO)} (h:Up l o' L L'):Up l o' (c::L) (c::L')
theorem Up.keys{l:Addr}{o':HO}{L L':List (Addr×HO)}(h:Up l o' L L'):L'.map (·.1)=L.map (·.1):=by
 induction h with
 | head=>rfl
 | tail h ih=>rw[oS,oS,ih]
theorem Up.mem{l:Addr}{o':HO}{L L':List (Addr×HO)}(h:Up l o' L L'):l∈L.map (·.1):=by
 induction h with
 | head=>exact zC
 | tail h ih=>exact zD _ ih
theorem Up.each{l:Addr}{o':HO}{L L':List (Addr×HO)}(h:Up l o' L L')(nd:(L.map (·.1)).Nodup):∀c∈L',c=(l,o')\/(c∈L/\c.1≠l):=by
 induction h with
 | @head o L =>
  intro c hc;rcases vS.mp hc with rfl|hc
  ·exact .inl rfl
  ·refine .inr ⟨zD _ hc,λz=>?_⟩;rw[oS] at nd;exact(List.nodup_cons.mp nd).1 (by show l∈_;rw[<- z];exact List.mem_map_of_mem (f:=(·.1)) hc)
 | @tail d L L' h ih =>
  intro c hc;rw[oS] at nd;have nd':=List.nodup_cons.mp nd;rcases vS.mp hc with rfl|hc
  ·exact .inr ⟨zC,λz=>nd'.1 (z▸h.mem)⟩
  ·rcases ih nd'.2 c hc with e|⟨e1,e2⟩
   ·exact .inl e
   ·exact .inr ⟨zD _ e1,e2⟩
theorem Up.src{l:Addr}{o':HO}{L L':List (Addr×HO)}(h:Up l o' L L'):∃o,(l,o)∈L:=by
 induction h with
 | head=>exact⟨_,zC⟩
 | tail h ih=>obtain⟨o,ho⟩:=ih;exact⟨o,zD _ ho⟩
inductive Pk(c:Addr×HO):List (Addr×HO)->List (Addr×HO)->Prop
 | head {L:List (Addr×HO)}:Pk c (c::L) L
 | tail {d:Addr×HO} {L R:List (Addr×HO)} (h:Pk c L R):Pk c (d::L) (d::R)
inductive Sb:List (Addr×HO)->List (Addr×HO)->Prop
 | nil {L:List (Addr×HO)}:Sb [] L
 | cons {c:Addr×HO} {L' L R:List (Addr×HO)} (h:Pk c L R) (t:Sb L' R):Sb (c::L') L
theorem Pk.mem{c:Addr×HO}{L R:List (Addr×HO)}(h:Pk c L R):c∈L/\∀d∈R,d∈L:=by
 induction h with
 | head=>exact⟨zC,λd hd=>zD _ hd⟩
 | tail h ih =>
  refine⟨zD _ ih.1,λd hd=>?_⟩;rcases vS.mp hd with rfl|hd
  ·exact zC
  ·exact zD _ (ih.2 d hd)
theorem Pk.nd{c:Addr×HO}{L R:List (Addr×HO)}(h:Pk c L R)(nd:(L.map (·.1)).Nodup):(R.map (·.1)).Nodup/\∀d∈R,d.1≠c.1:=by
 induction h with
 | head =>
  rw[oS] at nd;have:=List.nodup_cons.mp nd;exact⟨this.2,λd hd z=>this.1 (z▸List.mem_map_of_mem hd)⟩
 | @tail d L R h ih =>
  rw[oS] at nd;have nd':=List.nodup_cons.mp nd;obtain⟨i1,i2⟩:=ih nd'.2;refine⟨by
   rw[oS,List.nodup_cons];refine⟨λz=>?_,i1⟩;obtain⟨x,hx,ex⟩:=vT.mp z;exact nd'.1 (ex▸List.mem_map_of_mem (h.mem.2 x hx)),λx hx=>?_⟩
  rcases vS.mp hx with rfl|hx
  ·exact λz=>nd'.1 (z▸List.mem_map_of_mem h.mem.1)
  ·exact i2 x hx
theorem Sb.mem{L' L:List (Addr×HO)}(h:Sb L' L):∀c∈L',c∈L:=by
 induction h with
 | nil=>intro c hc;cases hc
 | cons h t ih =>
  intro c hc;rcases vS.mp hc with rfl|hc
  ·exact h.mem.1
  ·exact h.mem.2 c (ih c hc)
theorem Sb.nd{L' L:List (Addr×HO)}(h:Sb L' L):(L.map (·.1)).Nodup->(L'.map (·.1)).Nodup:=by
 induction h with
 | nil=>intro _;exact List.nodup_nil
 | cons h t ih =>
  intro nd;obtain⟨n1,n2⟩:=h.nd nd;rw[oS,List.nodup_cons];refine⟨λz=>?_,ih n1⟩;obtain⟨x,hx,ex⟩:=vT.mp z;exact n2 x (t.mem x hx) ex
section
variable{H0 H H':Hp}{M:List Addr}{L L':List (Addr×HO)}{I I':List Im}{p q l a:Addr}{o o' u:HO}{xs ys r:List V}{rs:List (List V)}{K:W.Frag}
def SH.nil:SH H M H [] []:=⟨λ_ _ _ h=>h,(λ_ h=>by cases h),(λ_ h=>by cases h),List.nodup_nil,(λ_ h=>by cases h),(λ_ h=>by cases h)⟩
def SH.g8(F:SH H0 M H0 L I)(hm:p∈M)(h:H0 p=some o)(ht:isTup o=false)(ne:∀c∈L,c.1≠p):SH H0 M H0 ((p,o)::L) I:=by
 refine⟨F.fr,F.im,?_,?_,?_,?_⟩
 ·intro c hc;rcases vS.mp hc with rfl|hc
  ·exact h
  ·exact F.at' c hc
 ·rw[oS,List.nodup_cons];refine⟨λz=>?_,F.nd⟩;obtain⟨x,hx,ex⟩:=vT.mp z;exact ne x hx ex
 ·intro c hc;rcases vS.mp hc with rfl|hc
  ·exact ht
  ·exact F.mu c hc
 ·intro c hc;rcases vS.mp hc with rfl|hc
  ·exact .inl hm
  ·exact F.ch c hc
def SH.uM(F:SH H0 M H L I)(h:H q=some (.tup r)):SH H0 M H L (.tup q r::I):=⟨F.fr,λf hf=>by
 rcases vS.mp hf with rfl|hf
 ·exact h
 ·exact F.im f hf,F.at',F.nd,F.mu,F.ch⟩
def SH.d8(F:SH H0 M H L I)(h:aD H ys rs):SH H0 M H L (.tps ys rs::I):=⟨F.fr,λf hf=>by
 rcases vS.mp hf with rfl|hf
 ·exact h
 ·exact F.im f hf,F.at',F.nd,F.mu,F.ch⟩
def SH.jt{φ:Hp->Prop}{st:∀H H',Tst H H'->φ H->φ H'}(F:SH H0 M H L I)(h:φ H):SH H0 M H L (.fct φ st::I):=⟨F.fr,λf hf=>by
 rcases vS.mp hf with rfl|hf
 ·exact h
 ·exact F.im f hf,F.at',F.nd,F.mu,F.ch⟩
def SH.same(F:SH H0 M H L I)(s:Same H H'):SH H0 M H' L I:=⟨λb u n e=>s b u (F.fr b u n e),λf hf=>Im.stay (λq u _ e=>s q u e) (F.im f hf),λc hc=>s _ _ (F.at' c hc),F.nd,F.mu,F.ch⟩
def SH.newT(F:SH H0 M H L I)(n:New H H' q (.tup r)):SH H0 M H' L (.tup q r::I):=(F.same n.s).uM n.e
def SH.aaf(F:SH H0 M H L I)(n:New H H' p o)(ht:isTup o=false):SH H0 M H' ((p,o)::L) I:=by
 have F':=F.same n.s;refine⟨F'.fr,F'.im,?_,?_,?_,?_⟩
 ·intro c hc;rcases vS.mp hc with rfl|hc
  ·exact n.e
  ·exact F'.at' c hc
 ·rw[oS,List.nodup_cons];refine⟨λz=>?_,F.nd⟩;obtain⟨x,hx,ex⟩:=vT.mp z;exact n.n _ _ (F.at' x hx) ex
 ·intro c hc;rcases vS.mp hc with rfl|hc
  ·exact ht
  ·exact F.mu c hc
 ·intro c hc;rcases vS.mp hc with rfl|hc
  ·by_cases hm:p∈M
   ·exact .inl hm
   ·exact .inr λb u e z=>by
     by_cases hb:b∈M
     ·exact hm (by have z':b=p:=z;rw[<- z'];exact hb)
     ·exact n.n b u (F.fr b u hb e) z
  ·exact F.ch c hc
def SH.newL(F:SH H0 M H L I)(n:New H H' p (.lst xs)):SH H0 M H' ((p,.lst xs)::L) I:=F.aaf n rfl
def SH.agz{C dx:Addr}{fs:List (Str×V)}(F:SH H0 M H L I)(n:New H H' p (.ins C dx fs)):SH H0 M H' ((p,.ins C dx fs)::L) I:=F.aaf n rfl
def SH.newR(F:SH H0 M H L I)(n:New H H' p (.lst ys))(t:aD H' ys rs):SH H0 M H' ((p,.lst ys)::L) (.tps ys rs::I):=(F.newL n).d8 t
def SH.kp(F:SH H0 M H L I)(k:Kp l H H')(e:H' l=some o')(u:Up l o' L L')(ht:isTup o'=false:=by rfl):SH H0 M H' L' I:=by
 obtain⟨o,ho⟩:=u.src;have hl:=F.at' _ ho;have hu:=F.mu _ ho;refine⟨λb w nb e0=>k b w (λz=>?_) (F.fr b w nb e0),λf hf=>Im.stay (λq v hv e1=>k q _ (λz=>?_) e1) (F.im f hf),λc hc=>?_,by rw[u.keys];exact F.nd,λc hc=>?_,λc hc=>?_⟩
 ·rcases F.ch _ ho with h|h
  ·exact nb (by rw[z];exact h)
  ·exact h b w e0 z
 ·rw[z,hl] at e1;cases e1;rw[hu] at hv;cases hv
 ·rcases u.each F.nd c hc with rfl|⟨h1,h2⟩
  ·exact e
  ·exact k _ _ h2 (F.at' c h1)
 ·rcases u.each F.nd c hc with rfl|⟨h1,h2⟩
  ·exact ht
  ·exact F.mu c h1
 ·rcases u.each F.nd c hc with rfl|⟨h1,h2⟩
  ·exact F.ch (l,o) ho
  ·exact F.ch c h1
def SH.WL(F:SH H0 M H L I)(f:Off l H H')(e:H' l=some (.lst xs))(u:Up l (.lst xs) L L'):SH H0 M H' L' I:=F.kp f.kp e u rfl
def SH.kpL(F:SH H0 M H L I)(f:Kp l H H')(e:H' l=some (.lst xs))(u:Up l (.lst xs) L L'):SH H0 M H' L' I:=F.kp f e u rfl
def SH.agA{C dx:Addr}{fs:List (Str×V)}(F:SH H0 M H L I)(f:Off l H H')(e:H' l=some (.ins C dx fs))(u:Up l (.ins C dx fs) L L'):SH H0 M H' L' I:=F.kp f.kp e u rfl
def SH.raw(F:SH H0 M H L I)(m:(a,o)∈L):H a=some o:=F.at' _ m
theorem SH.tup(F:SH H0 M H L I)(m:.tup q r∈I):H q=some (.tup r):=F.im _ m
theorem SH.tps(F:SH H0 M H L I)(m:.tps ys rs∈I):aD H ys rs:=F.im _ m
def SH.sq(F:SH H0 M H L I)(h:SqL K H0 a xs)(n:a ∉ M):SqL K H a xs:=by
 rcases h with(h|⟨o,h⟩)|h
 ·exact .inl (.inl (F.fr a _ n h))
 ·exact .inl (.inr ⟨o,F.fr a _ n h⟩)
 ·exact .inr h
def SH.sub(F:SH H0 M H L I)(s:Sb L' L)(t:∀f∈I',f∈I):SH H0 M H L' I':=⟨F.fr,λf hf=>F.im f (t f hf),λc hc=>F.at' c (s.mem c hc),s.nd F.nd,λc hc=>F.mu c (s.mem c hc),λc hc=>F.ch c (s.mem c hc)⟩
def SH.sm(F:SH H0 [] H L I):Same H0 H:=λb u e=>F.fr b u wT e
def SH.kpo(F:SH H0 [p] H L I):Kp p H0 H:=λb u n e=>F.fr b u (λz=>n (uS.mp z)) e
def SH.nw(F:SH H0 [] H L I)(m:(q,o)∈L):New H0 H q o:=⟨F.sm,F.at' _ m,λb u e=>by
 rcases F.ch _ m with h|h
 ·exact gL h wT
 ·exact h b u e⟩
def SH.fresh(F:SH H0 M H L I)(m:(q,o)∈L)(n:q ∉ M):∀b u,H0 b=some u->b≠q:=λb u e=>by
 rcases F.ch _ m with h|h
 ·exact gL h n
 ·exact h b u e
def nm0:a ∉ ([]:List Addr):=wT
def nm1(h:a≠p):a ∉ [p]:=λz=>h (uS.mp z)
def SH.app(F:SH H0 M H L I)(m:.tps ys rs∈I)(m':.tup q r∈I):SH H0 M H L (.tps (ys++[.ref q]) (rs++[r])::I):=F.d8 ((F.tps m).snoc (F.tup m'))
end
class Go(G:Prop)(G':outParam Prop):Prop where
 go:G'->G
def go1{G G':Prop}[h:Go G G'](k:G'):G:=h.go k
class LkL(L:List (Addr×HO))(a:Addr)(o:outParam HO):Prop where
 m:(a,o)∈L
class LkI(I:List Im)(a:Addr)(r:outParam (List V)):Prop where
 m:.tup a r∈I
class LkP(I:List Im)(ys:List V)(rs:outParam (List (List V))):Prop where
 m:.tps ys rs∈I
class LkU(L:List (Addr×HO))(l:Addr)(o:HO)(L':outParam (List (Addr×HO))):Prop where
 u:Up l o L L'
class Old(H0:Hp)(M:List Addr)(a:Addr)(o:outParam HO):Prop where
 e:H0 a=some o
 n:a ∉ M
class ac_(K:W.Frag)(H0:Hp)(M:List Addr)(a:Addr)(xs:outParam (List V)):Prop where
 e:SqL K H0 a xs
 n:a ∉ M
class dN(H0:Hp)(ys:List V)(rs:outParam (List (List V))):Prop where
 e:aD H0 ys rs
class Hat(H:Hp)(a:Addr)(o:outParam HO):Prop where
 e:H a=some o
class SqA(K:W.Frag)(H:Hp)(a:Addr)(xs:outParam (List V)):Prop where
 e:SqL K H a xs
class SqB(K:W.Frag)(H:Hp)(a:Addr)(xs:outParam (List V)):Prop where
 e:SqT K H a xs
class TpA(H:Hp)(ys:List V)(rs:outParam (List (List V))):Prop where
 e:aD H ys rs
class AtI(xs:List V)(i:Int)(v:outParam V):Prop where
 e:atI xs i=some v
section
variable{H0 H H':Hp}{M:List Addr}{L L':List (Addr×HO)}{I:List Im}{a p l:Addr}{o o':HO}{c:Addr×HO}{f:Im}{r xs ys:List V}{rs:List (List V)}{K:W.Frag}{v v0 v1 v2:V}
instance ajr[h:LkL L a o]:LkL (c::L) a o:=⟨zD _ h.m⟩
instance ajs:LkL ((a,o)::L) a o:=⟨zC⟩
instance ajt[h:LkI I a r]:LkI (f::I) a r:=⟨zD _ h.m⟩
instance aju:LkI (.tup a r::I) a r:=⟨zC⟩
instance ajv[h:LkP I ys rs]:LkP (f::I) ys rs:=⟨zD _ h.m⟩
instance ajw:LkP (.tps ys rs::I) ys rs:=⟨zC⟩
instance ajx[h:LkU L l o L']:LkU (c::L) l o (c::L'):=⟨.tail h.u⟩
instance ajy:LkU ((l,o')::L) l o ((l,o)::L):=⟨.head⟩
instance aeX[F:SH H0 M H L I][h:Old H0 M a o]:Hat H a o:=⟨F.fr a o h.n h.e⟩
instance aeY[F:SH H0 M H L I][h:LkI I a r]:Hat H a (.tup r):=⟨F.tup h.m⟩
instance aeZ[F:SH H0 M H L I][h:LkL L a o]:Hat H a o:=⟨F.raw h.m⟩
instance ae0[F:SH H0 M H L I][h:ac_ K H0 M a xs]:SqA K H a xs:=⟨F.sq h.e h.n⟩
instance ae1[h:Hat H a (.lst xs)]:SqA K H a xs:=⟨.of h.e⟩
instance ae2[h:Hat H a (.tup xs)]:SqB K H a xs:=⟨.of h.e⟩
instance ae3{H0:Hp}{L:List (Addr×HO)}{I:List Im}[F:SH H0 [] H L I][h:dN H0 ys rs]:TpA H ys rs:=⟨h.e.same F.sm⟩
instance ae4[F:SH H0 M H L I][h:LkP I ys rs]:TpA H ys rs:=⟨F.tps h.m⟩
instance at0:AtI (v::r) 0 v:=⟨Yd⟩
instance at1:AtI (v0::v::r) 1 v:=⟨ac4⟩
instance at2:AtI (v0::v1::v::r) 2 v:=⟨ac5⟩
instance at3:AtI (v0::v1::v2::v::r) 3 v:=⟨ac6⟩
variable{Z:Addr->Hp->Prop}{R:Hp->Prop}{C dx:Addr}{fs:List (Str×V)}
instance agB[F:SH H0 M H L I]:Go (∀p H',New H H' p (.tup xs)->Z p H') (∀H' p,SH H0 M H' L (.tup p xs::I)->Z p H'):=⟨λk p H' n=>k H' p (F.newT n)⟩
instance agC[F:SH H0 M H L I]:Go (∀p H',New H H' p (.lst xs)->Z p H') (∀H' p,SH H0 M H' ((p,.lst xs)::L) I->Z p H'):=⟨λk p H' n=>k H' p (F.newL n)⟩
instance agD[F:SH H0 M H L I][u:LkU L l (.lst xs) L']:Go (∀H',Off l H H'->H' l=some (.lst xs)->R H') (∀H',SH H0 M H' L' I->R H'):=⟨λk H' f e=>k H' (F.WL f e u.u)⟩
instance ae5[F:SH H0 M H L I][u:LkU L l (.ins C dx fs) L']:Go (∀H',Off l H H'->H' l=some (.ins C dx fs)->R H') (∀H',SH H0 M H' L' I->R H'):=⟨λk H' f e=>k H' (F.agA f e u.u)⟩
instance aiN[F:SH H0 M H L I][u:LkU L l (.lst xs) L']:Go (∀H',Kp l H H'->H' l=some (.lst xs)->R H') (∀H',SH H0 M H' L' I->R H'):=⟨λk H' f e=>k H' (F.kpL f e u.u)⟩
instance ae6[F:SH H0 M H L I]:Go (∀H',Same H H'->R H') (∀H',SH H0 M H' L I->R H'):=⟨λk H' s=>k H' (F.same s)⟩
def Sd(A B:Prop):Prop:=A/\B
def sd{A B:Prop}(a:A)(b:B):Sd A B:=⟨a,b⟩
class KC(K:W.Frag)(C:Addr)(f:Str):Prop where
 c:Cls K C
 n:cH K C f
class FLk(fs:List (Str×V))(f:Str)(v:outParam V):Prop where
 e:fs.lookup f=some v
class FNo(fs:List (Str×V))(f:Str):Prop where
 e:fs.lookup f=none
def SH.nwC{H0:Hp}{L:List (Addr×HO)}{I:List Im}[F:SH H0 [] H L I][h:LkL L p o]:New H0 H p o:=F.nw h.m
def aM[h:Hat H a o]:H a=some o:=h.e
variable{Q:VK}{R':Prop}{σ:St}{i j:Int}{f m:Str}{y:V}{b:Addr}{lo hi:Option Int}
instance agE[F:SH H0 M H L I]{Z:Addr->Addr->Hp->Prop}:Go (∀x dx H',New H H' x (.ins C dx [])->Z x dx H') (∀H' x dx,SH H0 M H' ((x,.ins C dx [])::L) I->Z x dx H'):=⟨λk p dx H' n=>k H' p dx (F.agz n)⟩
instance ae7{n:Nat}:Go (n<=sizeLine/\∀p H',New H H' p o->Z p H') (Sd (n<=sizeLine) (∀p H',New H H' p o->Z p H')):=⟨id⟩
instance ae8[h:Hat H l (.tup xs)]:Go (uH K [.ref l,.ty "tuple"] H Q) (Q (.bl true) H):=⟨RM h.e⟩
instance ae9[h:Hat H l (.lst xs)]:Go (uH K [.ref l,.ty "list"] H Q) (Q (.bl true) H):=⟨RN h.e⟩
instance ae_[h:SqA K H l xs]:Go (Dw K [.ref l] H Q) (Q (.int xs.length) H):=⟨Ib h.e⟩
instance agF[h:SqA K H l xs][e:AtI xs i v]:Go (Ql K (.ref l) (.int i) H Q) (Q v H):=⟨Dv h.e e.e⟩
instance agG[h:SqB K H l xs][e:AtI xs i v]:Go (Ht K (.ref l) (.int i) H Q) (Q v H):=⟨Rb h.e e.e⟩
instance agH[h:SqA K H l xs]:Go (tyV K "list" (.ref l) H/\R') R':=⟨Yz h.e⟩
instance agI[h:Hat H l (.lst xs)]:Go (J5 (.ref l) [y] H Q) (Sd (xs.length<sizeLine) (∀H',Off l H H'->H' l=some (.lst (xs++[y]))->Q .non H')):=⟨λs=>YB h.e s.1 s.2⟩
instance agJ[h:Hat H l (.lst xs)][h2:Hat H b (.lst ys)]:Go (Ks (.ref l) [.ref b] H Q) (Sd (xs.length+ys.length<=sizeLine) (∀H',Off l H H'->H' l=some (.lst (xs++ys))->Q .non H')):=⟨λs=>ac2 h.e h2.e s.1 s.2⟩
instance agK[h:SqA K H l xs]:Go (Ws K (.ref l) lo hi H Q) (∀p H',New H H' p (.lst (eG xs lo hi))->Q (.ref p) H'):=⟨RB h.e⟩
instance afa[h:Hat H l (.lst xs)][h2:Hat H b (.lst ys)]:Go (QC (.ref l) (.ref b) H Q) (Sd (xs.length+ys.length<=sizeLine) (∀p H',New H H' p (.lst (xs++ys))->Q (.ref p) H')):=⟨λs=>RD h.e h2.e s.1 s.2⟩
instance afb[h:SqA K H l xs]:Go (Ds K [.ref l] H Q) (∀p H',New H H' p (.lst xs)->Q (.ref p) H'):=⟨RK h.e⟩
instance afc{n i0 i1:Nat}{a b:V}{R:St->Hp->Prop}[h:SqB K H l [a,b]]:Go (o_ K n (cJ (aU i0) (cJ (aU i1) qO)) (.ref l) σ H R) (Sd (n=2) (aU i0 a σ H λσ1 H1=>aU i1 b σ1 H1 R)):=⟨λs=>RQ s.1 h.e s.2⟩
instance agL{f:Int->Int->V}:Go (rI (λ_ j=>0<j) f (.int i) (.int j) H Q) (Sd (0<j) (Q (f i j) H)):=⟨λs=>w_mod s.1 s.2⟩
instance agM{f:Int->Int->V}:Go (rI Zu f (.int i) (.int j) H Q) (Sd (0<j/\j<1073741824) (Q (f i j) H)):=⟨λs=>w_div s.1.1 s.1.2 s.2⟩
instance agN{f:Int->Int->V}:Go (rI Zv f (.int i) (.int j) H Q) (Sd (0<=j/\j<=1000000/\i.natAbs<2 ^ 64) (Q (f i j) H)):=⟨λs=>w_pow s.1.1 s.1.2.1 s.1.2.2 s.2⟩
instance agO{f:Int->Int->V}:Go (rI M6 f (.int i) (.int j) H Q) (Sd ((-(2 ^ 64)<i/\i<2 ^ 64)\/(-(2 ^ 64)<j/\j<2 ^ 64)) (Q (f i j) H)):=⟨λs=>s.1.elim (λh=>HY h.1 h.2 s.2) (λh=>Ia h.1 h.2 s.2)⟩
instance ada[h:Hat H a (.ins C dx fs)][k:KC K C f][e:FLk fs f v]{R:V->Prop}:Go (∃a' C' dx' fs' v',V.ref a=.ref a'/\H a'=some (.ins C' dx' fs')/\Cls K C'/\cH K C' f/\fs'.lookup f=some v'/\R v') (R v):=⟨w_fld h.e k.c k.n e.e⟩
instance abM[h:Hat H l (.ins C dx fs)][e:FNo fs m]:Go (∃a' dx' fs',V.ref l=.ref a'/\H a'=some (.ins C dx' fs')/\fs'.lookup m=none/\R') R':=⟨aac h.e e.e⟩
instance afd[h:Hat H l (.ins C dx fs)][k:KC K C f]:Go (Wy K f y (.ref l) H R) (Sd (fs.length<1000) (∀H',Off l H H'->H' l=some (.ins C dx (fZ f y fs))->R H')):=⟨λs=>aad h.e k.c k.n s.1 s.2⟩
instance afe{o0 o1:Option V}{r:St}{te:TE}{ti:TIp}{D:Ends}:Go (Zo 2 te ti D (o0::o1::some v::r) H) (te (o0::o1::some v::r) H λy H1=>ti v y H1 λz H2=>D.nx (o0::o1::some z::r) H2):=⟨λh=>RL (v:=v) rfl h⟩
end
instance abN{σ:L2.St}{H:Hp}{D:Ends}{s u:TS}:Go (Zj s u D σ H) (s (Ends.mk (u D) (Ends.rt D) (Ends.bk D) (Ends.ct D)) σ H):=⟨QJ⟩
instance abO{σ:L2.St}{H:Hp}{t:TE}{D:Ends}{tg:TG}:Go (G_ t tg D σ H) ((t σ H λ(x:V) (H1:Hp) => tg x σ H1 (Ends.nx D))):=⟨QK⟩
instance abP{σ:L2.St}{H:Hp}{t:TE}{D:Ends}:Go (V2 t D σ H) (t σ H (Ends.rt D)):=⟨QL⟩
instance adb{σ:L2.St}{H:Hp}{D:Ends}{s u:TS}{c:TT}:Go (CQ c s u D σ H) ((c σ H λ(b:Bool) (H1:Hp) => if b=true then s D σ H1 else u D σ H1)):=⟨Yi⟩
instance aag{σ:L2.St}{H:Hp}{t:TE}{D:Ends}:Go (PN t D σ H) ((t σ H λ(x:V) (H1:Hp) => Ends.nx D σ H1)):=⟨Ka⟩
instance aah{σ:L2.St}{H:Hp}{D:Ends}:Go (PL D σ H) (Ends.nx D σ H):=⟨J8⟩
instance ade{σ:L2.St}{H:Hp}{nx bk ct:L2.St->Hp->Prop}{rt:VK}:Go (Ends.nx (Ends.mk nx rt bk ct) σ H) (nx σ H):=⟨Yg⟩
instance afg{H:Hp}{v:V}{nx bk ct:L2.St->Hp->Prop}{rt:VK}:Go (Ends.rt (Ends.mk nx rt bk ct) v H) (rt v H):=⟨ac0⟩
instance aai{σ:L2.St}{H:Hp}{t:TE}{Q:Bool->Hp->Prop}:Go (CZ t σ H Q) ((t σ H λ(x:V) (H':Hp) => ∃(k:Bool),x=V.bl k/\Q k H')):=⟨Kc⟩
instance afh{σ:L2.St}{H:Hp}{t:TE}{Q:Bool->Hp->Prop}:Go (tB t σ H Q) ((t σ H λ(x:V) (H':Hp) => ∃(k:Bool),x=V.bl k/\Q k H')):=⟨acS⟩
instance adf{σ:L2.St}{H:Hp}{ta tb:TE}{Q:VK}{r:R2}:Go (tOp r ta tb σ H Q) ((ta σ H λ(x:V) (H1:Hp) => tb σ H1 λ(y:V) (H2:Hp) => r x y H2 Q)):=⟨Yh⟩
instance adg{σ:L2.St}{H:Hp}{tr:TA}{Q:VK}{r:List V->Hp->VK->Prop}:Go (tCB r tr σ H Q) ((tr σ H λ(vs:List V) (H1:Hp) => r vs H1 Q)):=⟨Yj⟩
instance aaj{σ:L2.St}{H:Hp}{t:TE}{tr:TA}{Q:List V->Hp->Prop}:Go (iK t tr σ H Q) ((t σ H λ(x:V) (H1:Hp) => tr σ H1 λ(xs:List V) (H2:Hp) => Q (x::xs) H2)):=⟨J7⟩
instance abQ{σ:L2.St}{H:Hp}{Q:List V->Hp->Prop}:Go (nQ σ H Q) (Q [] H):=⟨QG⟩
instance abS{σ:L2.St}{H:Hp}{Q:VK}{tr:TA}{sp:Sp}{E:XK}:Go (C_ sp [] E tr σ H Q) ((tr σ H λ(vs:List V) (H1:Hp) => sp vs H1 Q E)):=⟨w_call⟩
instance agP{σ:L2.St}{H:Hp}{Q:VK}{v:V}:Go (tC v σ H Q) (Q v H):=⟨w_c⟩
instance agQ{H:Hp}{Q:VK}{v:V}{r:L2.St}:Go (cR 0 (some v::r) H Q) (Q v H):=⟨wv0⟩
instance agR{H:Hp}{Q:VK}{v:V}{o0:Option V}{r:L2.St}:Go (cR 1 (o0::some v::r) H Q) (Q v H):=⟨wv1⟩
instance agS{H:Hp}{Q:VK}{v:V}{o0 o1:Option V}{r:L2.St}:Go (cR 2 (o0::o1::some v::r) H Q) (Q v H):=⟨wv2⟩
instance agT{H:Hp}{Q:VK}{v:V}{o0 o1 o2:Option V}{r:L2.St}:Go (cR 3 (o0::o1::o2::some v::r) H Q) (Q v H):=⟨wv3⟩
instance agU{H:Hp}{Q:VK}{v:V}{o0 o1 o2 o3:Option V}{r:L2.St}:Go (cR 4 (o0::o1::o2::o3::some v::r) H Q) (Q v H):=⟨wv4⟩
instance agV{H:Hp}{Q:VK}{v:V}{o0 o1 o2 o3 o4:Option V}{r:L2.St}:Go (cR 5 (o0::o1::o2::o3::o4::some v::r) H Q) (Q v H):=⟨wv5⟩
instance agW{H:Hp}{Q:VK}{v:V}{o0 o1 o2 o3 o4 o5:Option V}{r:L2.St}:Go (cR 6 (o0::o1::o2::o3::o4::o5::some v::r) H Q) (Q v H):=⟨wv6⟩
instance agX{H:Hp}{Q:VK}{v:V}{o0 o1 o2 o3 o4 o5 o6:Option V}{r:L2.St}:Go (cR 7 (o0::o1::o2::o3::o4::o5::o6::some v::r) H Q) (Q v H):=⟨wv7⟩
instance agY{H:Hp}{Q:VK}{v:V}{o0 o1 o2 o3 o4 o5 o6 o7:Option V}{r:L2.St}:Go (cR 8 (o0::o1::o2::o3::o4::o5::o6::o7::some v::r) H Q) (Q v H):=⟨wv8⟩
instance agZ{H:Hp}{Q:VK}{v:V}{o0 o1 o2 o3 o4 o5 o6 o7 o8:Option V}{r:L2.St}:Go (cR 9 (o0::o1::o2::o3::o4::o5::o6::o7::o8::some v::r) H Q) (Q v H):=⟨wv9⟩
instance afi{H:Hp}{Q:VK}{v:V}{o0 o1 o2 o3 o4 o5 o6 o7 o8 o9:Option V}{r:L2.St}:Go (cR 10 (o0::o1::o2::o3::o4::o5::o6::o7::o8::o9::some v::r) H Q) (Q v H):=⟨ZX⟩
instance afj{H:Hp}{Q:VK}{v:V}{o0 o1 o2 o3 o4 o5 o6 o7 o8 o9 o10:Option V}{r:L2.St}:Go (cR 11 (o0::o1::o2::o3::o4::o5::o6::o7::o8::o9::o10::some v::r) H Q) (Q v H):=⟨Z0⟩
instance afk{H:Hp}{Q:VK}{v:V}{o0 o1 o2 o3 o4 o5 o6 o7 o8 o9 o10 o11:Option V}{r:L2.St}:Go (cR 12 (o0::o1::o2::o3::o4::o5::o6::o7::o8::o9::o10::o11::some v::r) H Q) (Q v H):=⟨Z1⟩
instance ag0{H:Hp}{v:V}{o:Option V}{r:L2.St}{R:L2.St->Hp->Prop}:Go (aU 0 v (o::r) H R) (R (some v::r) H):=⟨wn0⟩
instance ag1{H:Hp}{v:V}{o0 o:Option V}{r:L2.St}{R:L2.St->Hp->Prop}:Go (aU 1 v (o0::o::r) H R) (R (o0::some v::r) H):=⟨wn1⟩
instance ag2{H:Hp}{v:V}{o0 o1 o:Option V}{r:L2.St}{R:L2.St->Hp->Prop}:Go (aU 2 v (o0::o1::o::r) H R) (R (o0::o1::some v::r) H):=⟨wn2⟩
instance ag3{H:Hp}{v:V}{o0 o1 o2 o:Option V}{r:L2.St}{R:L2.St->Hp->Prop}:Go (aU 3 v (o0::o1::o2::o::r) H R) (R (o0::o1::o2::some v::r) H):=⟨wn3⟩
instance ag4{H:Hp}{v:V}{o0 o1 o2 o3 o:Option V}{r:L2.St}{R:L2.St->Hp->Prop}:Go (aU 4 v (o0::o1::o2::o3::o::r) H R) (R (o0::o1::o2::o3::some v::r) H):=⟨wn4⟩
instance ag5{H:Hp}{v:V}{o0 o1 o2 o3 o4 o:Option V}{r:L2.St}{R:L2.St->Hp->Prop}:Go (aU 5 v (o0::o1::o2::o3::o4::o::r) H R) (R (o0::o1::o2::o3::o4::some v::r) H):=⟨wn5⟩
instance ag6{H:Hp}{v:V}{o0 o1 o2 o3 o4 o5 o:Option V}{r:L2.St}{R:L2.St->Hp->Prop}:Go (aU 6 v (o0::o1::o2::o3::o4::o5::o::r) H R) (R (o0::o1::o2::o3::o4::o5::some v::r) H):=⟨wn6⟩
instance ag7{H:Hp}{v:V}{o0 o1 o2 o3 o4 o5 o6 o:Option V}{r:L2.St}{R:L2.St->Hp->Prop}:Go (aU 7 v (o0::o1::o2::o3::o4::o5::o6::o::r) H R) (R (o0::o1::o2::o3::o4::o5::o6::some v::r) H):=⟨wn7⟩
instance ag8{H:Hp}{v:V}{o0 o1 o2 o3 o4 o5 o6 o7 o:Option V}{r:L2.St}{R:L2.St->Hp->Prop}:Go (aU 8 v (o0::o1::o2::o3::o4::o5::o6::o7::o::r) H R) (R (o0::o1::o2::o3::o4::o5::o6::o7::some v::r) H):=⟨wn8⟩
instance ag9{H:Hp}{v:V}{o0 o1 o2 o3 o4 o5 o6 o7 o8 o:Option V}{r:L2.St}{R:L2.St->Hp->Prop}:Go (aU 9 v (o0::o1::o2::o3::o4::o5::o6::o7::o8::o::r) H R) (R (o0::o1::o2::o3::o4::o5::o6::o7::o8::some v::r) H):=⟨wn9⟩
instance afl{H:Hp}{v:V}{o0 o1 o2 o3 o4 o5 o6 o7 o8 o9 o:Option V}{r:L2.St}{R:L2.St->Hp->Prop}:Go (aU 10 v (o0::o1::o2::o3::o4::o5::o6::o7::o8::o9::o::r) H R) (R (o0::o1::o2::o3::o4::o5::o6::o7::o8::o9::some v::r) H):=⟨acV⟩
instance afm{H:Hp}{v:V}{o0 o1 o2 o3 o4 o5 o6 o7 o8 o9 o10 o:Option V}{r:L2.St}{R:L2.St->Hp->Prop}:Go (aU 11 v (o0::o1::o2::o3::o4::o5::o6::o7::o8::o9::o10::o::r) H R) (R (o0::o1::o2::o3::o4::o5::o6::o7::o8::o9::o10::some v::r) H):=⟨acW⟩
instance afn{H:Hp}{v:V}{o0 o1 o2 o3 o4 o5 o6 o7 o8 o9 o10 o11 o:Option V}{r:L2.St}{R:L2.St->Hp->Prop}:Go (aU 12 v (o0::o1::o2::o3::o4::o5::o6::o7::o8::o9::o10::o11::o::r) H R) (R (o0::o1::o2::o3::o4::o5::o6::o7::o8::o9::o10::o11::some v::r) H):=⟨acX⟩
instance afo{H:Hp}{v:V}{o0 o1 o2 o3 o4 o5 o6 o7 o8 o9 o10 o11 o12 o:Option V}{r:L2.St}{R:L2.St->Hp->Prop}:Go (aU 13 v (o0::o1::o2::o3::o4::o5::o6::o7::o8::o9::o10::o11::o12::o::r) H R) (R (o0::o1::o2::o3::o4::o5::o6::o7::o8::o9::o10::o11::o12::some v::r) H):=⟨acY⟩
instance afp{H:Hp}{Q:VK}{i j:Int}{f:Int->Int->V}:Go (rI0 f (V.int i) (V.int j) H Q) (Q (f i j) H):=⟨Z2⟩
instance adh{H:Hp}{Q:VK}{i j:Int}:Go (rEq (V.int i) (V.int j) H Q) (Q (V.bl (decide (i=j))) H):=⟨Q5⟩
instance adi{H:Hp}{Q:VK}{i j:Int}:Go (rNe (V.int i) (V.int j) H Q) (Q (V.bl !decide (i=j)) H):=⟨Q6⟩
instance adk{H:Hp}{Q:VK}{a b:Str}:Go (rEq (V.str a) (V.str b) H Q) (Q (V.bl (decide (a=b))) H):=⟨Yn⟩
instance adl{H:Hp}{Q:VK}{a b:Str}:Go (rNe (V.str a) (V.str b) H Q) (Q (V.bl !decide (a=b)) H):=⟨Yo⟩
instance adn{H:Hp}{Q:VK}{a b:Bool}:Go (rNe (V.bl a) (V.bl b) H Q) (Q (V.bl !decide (a=b)) H):=⟨Yp⟩
instance afq{k:Bool}{R:Bool->Prop}:Go (∃(c:Bool),V.bl k=V.bl c/\R c) (R k):=⟨acZ⟩
instance ado{σ:L2.St}{H:Hp}{c:TT}{R:Bool->Hp->Prop}:Go (Zi c σ H R) ((c σ H λ(b:Bool) (H1:Hp) => R (!b) H1)):=⟨w_not⟩
instance adp{σ:L2.St}{H:Hp}{c d:TT}{R:Bool->Hp->Prop}:Go (Zh c d σ H R) ((c σ H λ(b:Bool) (H1:Hp) => if b=true then d σ H1 R else R false H1)):=⟨w_and⟩
instance afr{σ:L2.St}{H:Hp}{c d:TT}{R:Bool->Hp->Prop}:Go (tOr c d σ H R) ((c σ H λ(b:Bool) (H1:Hp) => if b=true then R true H1 else d σ H1 R)):=⟨w_or⟩
instance abT{σ:L2.St}{H:Hp}{Q:VK}{ta:TE}:Go (PB ta σ H Q) ((ta σ H λ(x:V) (H1:Hp) => ∃(c:Bool),x=V.bl c/\Q (V.bl !c) H1)):=⟨Q9⟩
instance abU{σ:L2.St}{H:Hp}{Q:VK}{ta tb:TE}:Go (Pz ta tb σ H Q) ((ta σ H λ(x:V) (H1:Hp) => ∃(c:Bool),x=V.bl c/\if c=true then tb σ H1 Q else Q (V.bl false) H1)):=⟨Q_⟩
instance adq{σ:L2.St}{H:Hp}{Q:VK}{ta tb:TE}{c:TT}:Go (tIf c ta tb σ H Q) ((c σ H λ(b:Bool) (H1:Hp) => if b=true then ta σ H1 Q else tb σ H1 Q)):=⟨Yq⟩
instance aak{σ:L2.St}{H:Hp}{Q:VK}{ta tb tc:TE}{r r':R2}:Go (Ah r r' ta tb tc σ H Q) ((ta σ H λ(x:V) (H1:Hp) => tb σ H1 λ(y:V) (H2:Hp) => r x y H2 λ(z:V) (H3:Hp) => ∃(k:Bool),z=V.bl k/\if k=true then tc σ H3 λ(w:V) (H4:Hp) => r' y w H4 Q else Q (V.bl false) H3)):=⟨Kh⟩
instance afs{σ:L2.St}{H:Hp}{Q:VK}{K:W.Frag}{tr:TA}{T:String}{r:V->List V->Hp->VK->Prop}{to:TE}:Go (tBM K T r to tr σ H Q) ((to σ H λ(x:V) (H1:Hp) => tyV K T x H1/\tr σ H1 λ(xs:List V) (H2:Hp) => r x xs H2 Q)):=⟨ac1⟩
instance adt{σ:L2.St}{H:Hp}{v:V}{to ti:TE}{ts:PX}{R:L2.St->Hp->Prop}:Go (Zn to ti ts v σ H R) ((to σ H λ(o:V) (H1:Hp) => ti σ H1 λ(i:V) (H2:Hp) => ts o i v H2 λ(H3:Hp) => R σ H3)):=⟨w_sub⟩
instance aal{σ:L2.St}{H:Hp}{Q:VK}{t:TE}{r:V->Option Int->Option Int->Hp->VK->Prop}{tl th:TO}:Go (tSl r t tl th σ H Q) ((t σ H λ(x:V) (H1:Hp) => tl σ H1 λ(l:Option Int) (H2:Hp) => th σ H2 λ(u:Option Int) (H3:Hp) => r x l u H3 Q)):=⟨Kl⟩
instance YF{σ:L2.St}{H:Hp}{R:Option Int->Hp->Prop}:Go (Aj σ H R) (R none H):=⟨Du⟩
instance abV{σ:L2.St}{H:Hp}{t:TE}{R:Option Int->Hp->Prop}:Go (Qk t σ H R) ((t σ H λ(x:V) (H1:Hp) => ∃(i:Int),x=V.int i/\R (some i) H1)):=⟨Ra⟩
instance adu{i:Int}{R:Int->Prop}:Go (∃(k:Int),V.int i=V.int k/\R k) (R i):=⟨Yr⟩
instance adv{H:Hp}{Q:VK}{i j:Int}:Go (Km [V.int i,V.int j] H Q) (Q (V.int (max i j)) H):=⟨Rh⟩
instance aam{σ:L2.St}{H:Hp}{tr:TA}{Q:VK}:Go (QB tr σ H Q) ((tr σ H λ(xs:List V) (H1:Hp) => List.length xs<=sizeLine/\∀(p:Addr)(H':Hp),New H1 H' p (HO.tup xs)->Q (V.ref p) H')):=⟨J9⟩
instance aan{σ:L2.St}{H:Hp}{tr:TA}{Q:VK}:Go (J4 tr σ H Q) ((tr σ H λ(xs:List V) (H1:Hp) => List.length xs<=sizeLine/\∀(p:Addr)(H':Hp),New H1 H' p (HO.lst xs)->Q (V.ref p) H')):=⟨J_⟩
instance abW{H:Hp}{Q:VK}{a b:Bool}:Go (Rm (V.bl a) (V.bl b) H Q) (Q (V.bl !decide (a=b)) H):=⟨Rn⟩
instance aao{σ:L2.St}{H:Hp}{Q:VK}{K:W.Frag}{te ts:TE}:Go (Ig K te ts σ H Q) ((te σ H λ(x:V) (H1:Hp) => ts σ H1 λ(y:V) (H2:Hp) => ∃(a:Addr),∃(xs:List V),x=V.ref a/\y=V.int (-1)/\SqL K H2 a xs/\∀(p:Addr)(H':Hp),New H2 H' p (HO.lst (List.reverse xs))->Q (V.ref p) H')):=⟨Kq⟩
instance abX{K:W.Frag}{σ:L2.St}{H:Hp}{Q:VK}{ta:TE}{f:Str}:Go (Zz K ta f σ H Q) ((ta σ H λ(x:V) (H1:Hp) => ∃(a:Addr),∃(C:Addr),∃(dx:Addr),∃(fs:List (Str×V)),∃(v:V),x=V.ref a/\H1 a=some (HO.ins C dx fs)/\Cls K C/\cH K C f/\List.lookup f fs=some v/\Q v H1)):=⟨Rx⟩
instance YG{σ:L2.St}{H:Hp}{Q:VK}{ta:TE}{t:TA}{m:Str}{C:Addr}{sp:Sp}{E:XK}:Go (xU C m sp [] E ta t σ H Q) ((ta σ H λ(x:V) (H1:Hp) => ∃(a:Addr),∃(dx:Addr),∃(fs:List (Str×V)),x=V.ref a/\H1 a=some (HO.ins C dx fs)/\List.lookup m fs=none/\t σ H1 λ(vs:List V) (H2:Hp) => sp (x::vs) H2 Q E)):=⟨DW⟩
instance YH{σ:L2.St}{H:Hp}{Q:VK}{t:TA}{C:Addr}{sp:Sp}{E:XK}:Go (Ip C sp E t σ H Q) ((t σ H λ(vs:List V) (H1:Hp) => ∀(x dx:Addr)(H2:Hp),New H1 H2 x (HO.ins C dx [])->sp (V.ref x::vs) H2 (λ(v:V) (H3:Hp) => v=V.non/\Q (V.ref x) H3) E)):=⟨DR⟩
instance YJ{K:W.Frag}{σ:L2.St}{H:Hp}{ta tv:TE}{f:Str}{D:Ends}:Go (ZC K ta tv f D σ H) ((tv σ H λ(y:V) (H1:Hp) => ta σ H1 λ(x:V) (H2:Hp) => Wy K f y x H2 λ(H3:Hp) => Ends.nx D σ H3)):=⟨DQ⟩
instance abY{H:Hp}{Q:VK}{K:W.Frag}{b:Bool}:Go (uH K [V.bl b,V.ty "bool"] H Q) (Q (V.bl true) H):=⟨RP⟩
instance aft{A B:Prop}:Go (if true=true then A else B) (A):=⟨ac7⟩
instance afu{A B:Prop}:Go (if false=true then A else B) (B):=⟨ac8⟩
instance adw{A B:Prop}:Go (if (!true)=true then A else B) (B):=⟨YC⟩
instance adx{A B:Prop}:Go (if (!false)=true then A else B) (A):=⟨YD⟩
instance ady{t:TA}{tv:TE}{r:List V->V->Hp->VK->Prop}{σ:L2.St}{H:Hp}{Q:VK}:Go (tCK r t tv σ H Q) ((t σ H λ(xs:List V) (H1:Hp) => tv σ H1 λ(y:V) (H2:Hp) => r xs y H2 Q)):=⟨Yy⟩
instance abZ{K:W.Frag}{g:TG}{tb:TS}{D:Ends}{σ:L2.St}{H:Hp}{tr:TA}:Go (wX (QS K tr) g tb D σ H) ((tr σ H λ(vs:List V) (H1:Hp) => ∃(a:Addr),∃(xs:List V),vs=[V.ref a]/\SqL K H1 a xs/\Io K a xs g tb D σ H1)):=⟨RT⟩
instance aap{g:TG}{tb:TS}{D:Ends}{σ:L2.St}{H:Hp}{tr:TA}:Go (wX (xO tr) g tb D σ H) ((tr σ H λ(vs:List V) (H1:Hp) => ∃(j:Int),vs=[V.int j]/\-2 ^ 62<=j/\j<2 ^ 62/\xu 0 (Int.toNat j) g tb D σ H1)):=⟨Kw⟩
instance aaq{g:TG}{tb:TS}{D:Ends}{σ:L2.St}{H:Hp}{tr:TA}:Go (wX (P0 tr) g tb D σ H) ((tr σ H λ(vs:List V) (H1:Hp) => ∃(i:Int),∃(j:Int),vs=[V.int i,V.int j]/\(-2 ^ 62<=i/\i<2 ^ 62/\-2 ^ 62<=j/\j<2 ^ 62)/\xu i (Int.toNat (j-i)) g tb D σ H1)):=⟨Ky⟩
instance ab5{K:W.Frag}{te:TE}{g:TG}{tb:TS}{D:Ends}{σ:L2.St}{H:Hp}:Go (wX (uc K te) g tb D σ H) ((te σ H λ(x:V) (H1:Hp) => ∃(a:Addr),x=V.ref a/\(∃(xs:List V),SqL K H1 a xs)/\Ii K a g tb D σ H1)):=⟨Rq⟩
instance aar{K:W.Frag}{t0 te:TE}{nt:Nat}{fr:List Nat}{g:TG}{c:TT}{σ:L2.St}{H:Hp}{Q:VK}:Go (m_ (uc K t0) nt fr g c te σ H Q) ((t0 σ H λ(x:V) (H1:Hp) => ∃(a:Addr),x=V.ref a/\(∃(xs:List V),SqL K H1 a xs)/\cF (Itl K a) nt fr g c te σ H1 Q)):=⟨Kr⟩
section
variable{K:W.Frag}{H:Hp}{Q:VK}{E:XK}{x:V}{n:String}{p q:Addr}{a b c lo:Int}{ns:List Int}{m:Int}
instance adz:Go (n_ K [.int a,.int lo] H Q E) (Q (.bl (decide (lo<=a))) H):=⟨Wz⟩
instance adA:Go (uJ K [.int a] H Q E) (Q (.bl (decide (16<=a) && decide (a<=240))) H):=⟨λk=>⟨_,_,rfl,.int _,k⟩⟩
instance adB[h:Hat H q (.tup [.int a,.int b])]:Go (qW [.ref q] H Q E) (Q (.int (a+b)) H):=⟨ac9 h.e⟩
instance adC[h:SqA K H p (ns.map V.int)]:Go (uK K [.ref p,.int m] H Q E) (Sd (0<=m) (∀c:Int,Q (.int c) H)):=⟨λs=>WD h.e s.1 s.2⟩
instance afv:Go (Bh [.int a] H Q E) (∀x y:Int,∀(p:Addr)(H':Hp),New H H' p (.lst [.int x,.int y,.int 0])->Q (.ref p) H'):=⟨λk=>aae λp x y H' n=>k x y p H' n⟩
instance adD[h:Hat H p (.lst [.int a,.int b,.int c])]:Go (uL [.ref p,.int m] H Q E) (Sd (0<m/\m<1073741824) (∀r a' b' c':Int,0<=r->r<m->∀H',Off p H H'->H' p=some (.lst [.int a',.int b',.int c'])->Q (.int r) H')):=⟨λs=>WK h.e s.1.1 s.1.2 λr a' b' c' H' h0 h1 f e=>s.2 r a' b' c' h0 h1 H' f e⟩
end
end L2
namespace L2
open PySem PySem.Spec PyProof.Rows
section
variable{g:TG}{tb:TS}{D:Ends}{σ:St}{H:Hp}
variable{K:W.Frag}{a:Addr}{xs:List V}{nt:Nat}{fr:List Nat}{c:TT}{te:TE}{Q:VK}
instance aha[h:SqA K H a xs]:Go (∃a',V.ref a=.ref a'/\(∃xs,SqL K H a' xs)/\cF (Itl K a') nt fr g c te σ H Q) (cF (Itl K a) nt fr g c te σ H Q):=⟨agw h.e⟩
instance ahb[h:SqA K H a xs]:Go (∃a',V.ref a=.ref a'/\(∃xs,SqL K H a' xs)/\Ii K a' g tb D σ H) (Ii K a g tb D σ H):=⟨agv h.e⟩
instance ahc[h:SqA K H a xs]:Go (∃a' xs',[V.ref a]=[.ref a']/\SqL K H a' xs'/\Io K a' xs' g tb D σ H) (Io K a xs g tb D σ H):=⟨agu h.e⟩
end
instance adE{H0 H:Hp}{M:List Addr}{L:List (Addr×HO)}{I:List Im}{Z:Addr->Hp->Prop}{ws:List (Nat×Nat)}[F:SH H0 M H L I]:Go (∀p ys H',New H H' p (.lst ys)->aD H' ys (jg ws)->Z p H') (∀H' p ys,ys.length=ws.length->SH H0 M H' ((p,.lst ys)::L) (.tps ys (jg ws)::I)->Z p H'):=⟨λk p ys H' n t=>k H' p ys (by rw[t.1,gA]) (F.newR n t)⟩
class NQ(L:List (Addr×HO))(a b:Addr):Prop where
 ne:(L.map (·.1)).Nodup->a≠b
section
variable{L R L':List (Addr×HO)}{a b:Addr}{o:HO}{c:Addr×HO}{H0 H:Hp}{M:List Addr}{I:List Im}
instance aiO[h:NQ L a b]:NQ (c::L) a b:=⟨λnd=>h.ne (by rw[oS] at nd;exact(List.nodup_cons.mp nd).2)⟩
instance aiP{o':HO}[h:LkL L a o]:NQ ((b,o')::L) a b:=⟨λnd z=>by
 rw[oS] at nd;exact(List.nodup_cons.mp nd).1 (by show b∈_;rw[<- z];exact List.mem_map_of_mem (f:=(·.1)) h.m)⟩
instance aiQ{o':HO}[h:LkL L b o]:NQ ((a,o')::L) a b:=⟨λnd z=>by
 rw[oS] at nd;exact(List.nodup_cons.mp nd).1 (by show a∈_;rw[z];exact List.mem_map_of_mem (f:=(·.1)) h.m)⟩
def SH.neC[F:SH H0 M H L I][h:NQ L a b]:a≠b:=h.ne F.nd
class PkC(c:Addr×HO)(L:List (Addr×HO))(R:outParam (List (Addr×HO))):Prop where
 p:Pk c L R
class SbC(L' L:List (Addr×HO)):Prop where
 s:Sb L' L
instance ajz{d:Addr×HO}[h:PkC c L R]:PkC c (d::L) (d::R):=⟨.tail h.p⟩
instance ajA:PkC c (c::L) L:=⟨.head⟩
instance ajB:SbC [] L:=⟨.nil⟩
instance ajC[h:PkC c L R][t:SbC L' R]:SbC (c::L') L:=⟨.cons h.p t.s⟩
def SH.Ir(F:SH H0 M H L I)[h:SbC L' L]:SH H0 M H L' []:=F.sub h.s (λ_ h=>by cases h)
end
end L2
namespace L2
open PySem PySem.Spec PyProof.Rows PySem.SeqAt
section
variable{H:Hp}{l p:Addr}{xs:List V}{v:V}{Q:VK}{R:Hp->Prop}{R':Prop}{σ:St}{i j:Int}
instance ab6:Go (V.non=V.non/\R') R':=⟨λk=>⟨rfl,k⟩⟩
instance afw[h:Hat H l (.lst xs)]:Go (Q0 (.ref l) (.int i) v H R) (Sd (0<=i/\i<xs.length) (∀H',Off l H H'->H' l=some (.lst (xs.set i.toNat v))->R H')):=⟨λs=>Il h.e (ac3 s.1.1 s.1.2) s.2⟩
instance adF{n:Nat}{c:Bool}[h:Hat H l (.lst [.bl c])]:Go (QD (.ref l) (.int (n:Int)) H Q) (Sd (n<=1000000) (∀p H',New H H' p (.lst ((List.replicate n c).map V.bl))->Q (.ref p) H')):=⟨λs=>RJ h.e s.1 (by have:=s.2;rw[List.map_replicate] at this;exact this)⟩
instance adG{g:TG}{tb:TS}{D:Ends}:Go (∃j:Int,[V.int i]=[.int j]/\-(2 ^ 62)<=j/\j<2 ^ 62/\xu 0 j.toNat g tb D σ H) (Sd (-(2 ^ 62)<=i/\i<2 ^ 62) (xu 0 i.toNat g tb D σ H)):=⟨λs=>⟨i,rfl,s.1.1,s.1.2,s.2⟩⟩
instance adH{g:TG}{tb:TS}{D:Ends}:Go (∃i' j':Int,[V.int i,V.int j]=[.int i',.int j']/\(-(2 ^ 62)<=i'/\i'<2 ^ 62/\-(2 ^ 62)<=j'/\j'<2 ^ 62)/\xu i' (j'-i').toNat g tb D σ H) (Sd (-(2 ^ 62)<=i/\i<2 ^ 62/\-(2 ^ 62)<=j/\j<2 ^ 62) (xu i (j-i).toNat g tb D σ H)):=⟨λs=>⟨i,j,rfl,s.1,s.2⟩⟩
end
end L2
namespace L2
open PySem PySem.Spec PyProof.Rows
abbrev lH(x:Str)(p1 p2 p3:Pos)(j:Nat):Expr:=.Subscript (.Name x p1) (.Constant (.int 1) j p2) p3
structure uN(x:Str)(scope:Scope):Prop where
 kind:scope.kind=.function
 co:scope.isCoroutine=false
 gen:scope.isGenerator=false
 loc:scope.names.lookup x=some .local
 aas:∀y∈scope.names,y.2≠.cell
 adI:(x==("__debug__" : Str))=false
def aat{prog:Program}{w:World}{A:Around}{s:Shared}{f q c':Addr}{x qual:Str}{params:Arguments}{scope:Scope}{pm ctv u:Value}{p1 p2 p3:Pos}{j:Nat}{its:xD}{Q:xB}{E:xB}
  (hroom:A.depth<recursionLimit) (ho:s.heap.get? f=some (W.kla_obj "<lambda>" qual params (lH x p1 p2 p3 j) scope [] pm c' ctv)) (hcd:s.heap.CodeRec (.ref c') qual) (hlim:s.heap.NoLimit) (S:uN x scope)
  (hbind:bindArgs (W.kla_fn "<lambda>" qual params (lH x p1 p2 p3 j) scope [] pm (.ref c') ctv) ⟨[.ref q],[]⟩=pure [(x,.ref q)])
  (ht:IsTup s.heap q its.toArray) (hi:its[1]?=some u) (h:∀h' tk,(∀b o,s.heap.get? b=some o->h'.get? b=some o)->Q u { s with heap:=h',toks:=tk }):wpAny (model prog w) A (call (.ref f) [.ref q]) Q E s:=by
 refine wpAny_call ?_;refine W.kla_callFunE hroom ho rfl S.co S.gen rfl hcd ?_;rw[hbind];refine rV ?_;refine wpAny_newFunctionEnv S.aas (λy hy=>?_) (λh1 hns hsb=>?_) S.kind
 ·rw[uS.mp hy];exact S.loc
 ·have hk1:∀b o,s.heap.get? b=some o->h1.get? b=some o:=λb o e=>hsb.extBut b o (qE (uA e)) (uB _ e)
  refine⟨hlim.keeps hk1,W.kla_codeExpr ?_⟩;refine Subscript_ (wpAny_Name (wpAny_loadName_local S.kind S.loc hns (v:=.ref q) (by simp) ?_) S.adI);refine wpAny_Constant_int ?_;have ht1:IsTup h1 q its.toArray:=by
   obtain⟨o,e,r⟩:=ht;exact⟨o,hk1 _ _ e,r⟩
  have hlen:1<its.length:=(jS.mp hi).1;refine subscriptTail_builtinR (x:=u) (IsTup.typeIs ht1) slot_tuple_getitem.lookup (getItem_tuple (j:=1) ht1 (by decide) (by decide) ?_ (by simpa using hi) ⟨rfl,?_⟩) ?_
  ·rw[nK];unfold seqIndex?;simp
   lia
  ·exact h h1 _ hk1
  ·rfl
theorem cM.is{P:Program}{w:World}{H:Hp}{h:Heap}{a:Addr}{o:HO}(x:cM P w H h a o):∃ob,h.get? a=some ob:=by
 cases o with
 | lst xs=>obtain⟨_,_,_,_,e⟩:=x;exact⟨_,e⟩
 | tup xs=>obtain⟨_,_,_,ob,e,_⟩:=x;exact⟨_,e⟩
 | dK kvs=>obtain⟨_,_,_,_,ob,_,_,e,_⟩:=x;exact⟨_,e⟩
 | dT kvs=>obtain⟨_,_,_,_,ob,_,_,e,_⟩:=x;exact⟨_,e⟩
 | set S n=>obtain⟨ob,_,_,_,e,_⟩:=x;exact⟨_,e⟩
 | ins C dx fs=>obtain⟨_,_,_,e,_⟩:=x;exact⟨_,e⟩
 | own y=>exact x
 | xd fs=>obtain⟨_,⟨ob,_,_,e,_⟩,_⟩:=x;exact⟨_,e⟩
 | rng lo hi=>obtain⟨_,_,_,e⟩:=x;exact⟨_,e⟩
 | frz ob u=>exact⟨_,x.1⟩
 | tbl ps=>exact⟨_,x⟩
 | met f y=>exact⟨_,x⟩
 | ext φ=>exact x.2.1
def oh(h:Heap)(L:Addr):List (Addr×Obj):=(List.range h.objs.size).filterMap λb=>if b=L then none else (h.get? b).map λo=>(b,o)
def ou{h:Heap}{L b:Addr}{o:Obj}(e:h.get? b=some o)(n:b≠L):(b,o)∈oh h L:=by
 unfold oh;refine List.mem_filterMap.mpr ⟨b,List.mem_range.mpr (uA e),?_⟩;rw[yA n,e]
 rfl
def yF{h:Heap}{L:Addr}{p:Addr×Obj}(m:p∈oh h L):h.get? p.1=some p.2/\p.1≠L:=by
 unfold oh at m;obtain⟨b,_,e⟩:=List.mem_filterMap.mp m;split at e
 ·cases e
 ·rename_i n;cases q:h.get? b with
  | none=>rw[q] at e;cases e
  | some o =>
   rw[q] at e;cases e;exact⟨q,n⟩
def aau{h:Heap}{a:Addr}{m m':xC}(x:h.Ns a m)(y:h.Ns a m'):m=m':=by
 obtain⟨o,es,ep,e,d,_,f⟩:=x;obtain⟨o',es',ep',e',d',_,f'⟩:=y;rw[e] at e';cases e';rw[d] at d';cases d'
 funext k
 rw[<- f k,<- f' k]
def Inv.adJ{X:Cx}{pins:pV}{σ:St}{H:Hp}{s:Shared}{h':Heap}{t':Nat}{D:Addr}{o:HO}{m:xC}(I:Inv X pins σ H s)(k:∀b u,b≠X.env.locals->s.heap.get? b=some u->h'.get? b=some u)
  (hm:s.heap.Ns X.env.locals m) (hm':h'.Ns X.env.locals m) (hn:s.heap.get? D=none) (new:cM X.prog X.w (upd H D o) h' D o):Inv X pins σ (upd H D o) { s with heap:=h',toks:=t' }:=by
 have hD:H D=none:=by
  cases q:H D with
  | none=>rfl
  | some u =>
   obtain⟨ob,e⟩:=(I.hok D u q).is;rw[hn] at e;cases e
 have nL:∀b u,H b=some u->b≠X.env.locals:=λb u e z=>by rw[z,I.free] at e;cases e
 have nD:∀{b:Addr} {u:HO},H b=some u->upd H D o b=some u:=λ{b u} e=>by rw[aZ (λz=>by rw[z,hD] at e;cases e)];exact e
 refine I.step (g':=s.gens) (d':=s.drawn) (ch:=[]) (λ_ z=>nomatch z) (λb u n _ _ e _=>k b u n e) (λb u n _ _ e _=>⟨u.slots,k b u n e⟩) (λb u _ e q=>?_) (λb u _ e=>?_) (λb xs e=>nD e) (λb u v e=>nD e) (λb ps e=>⟨#[],by rw[nD e];simp⟩) (λm2 hm2=>?_) (λb u e=>?_) I.bare
 ·rw[aZ (λz=>by rw[z,hn] at e;cases e)];exact q
 ·by_cases n:b=X.env.locals
  ·obtain⟨ob,_,_,e2,_⟩:=hm';exact⟨ob,by rw[n];exact e2⟩
  ·exact⟨u,k b u n e⟩
 ·rw[aau hm2 hm];exact hm'
 ·by_cases hb:b=D
  ·rw[hb,bA] at e;cases e;rw[hb];exact new
  ·rw[aZ hb] at e;refine(I.hok b u e).stay (λc v hc q=>k c v ?_ q) (λc q=>nD q) λc xs q=>nD q
   rcases hc with z|z
   ·rw[z];exact nL b u e
   ·exact nL c _ z
def pP(H:Hp)(f:Addr):Prop:=∃(qual x:Str)(params:Arguments)(p1 p2 p3:Pos)(j:Nat)(scope:Scope)(pm ctv:Value)(c':Addr)(oc:Obj)(vs:xF)(t:Tok),
 H f=some (.frz (W.kla_obj "<lambda>" qual params (lH x p1 p2 p3 j) scope [] pm c' ctv) (.own f))/\H c'=some (.frz oc (.own c'))/\oc.data=.fields vs/\vs[1]?=some (.str qual t)/\uN x scope /\
 ∀q:Addr,bindArgs (W.kla_fn "<lambda>" qual params (lH x p1 p2 p3 j) scope [] pm (.ref c') ctv) ⟨[.ref q],[]⟩=pure [(x,.ref q)]
def lJ(ks:List Int)(xs ys:List V):Prop:=∃ps:List (Int×V),ps.Perm (ks.zip xs)/\ys=ps.map Prod.snd/\ps.Pairwise λa b=>a.1<=b.1
def Iu(K:W.Frag):List V->V->Hp->VK->Prop:=λvs y H Q=>∃(l f:Addr)(xs:List V)(ks:List Int),vs=[.ref l]/\y=.ref f/\pP H f/\SqL K H l xs/\ks.length=xs.length/\xs.length<64 /\
 (∀(i:Nat) v k,xs[i]?=some v->ks[i]?=some k->∃q r,v=.ref q/\H q=some (.tup r)/\r[1]?=some (.int k))/\∀D ys H',New H H' D (.lst ys)->lJ ks xs ys->Q (.ref D) H'
def rY:Value->V
 | .ref a=>.ref a
 | _=>.non
theorem yG:∀{xs:List V} {us:xD},Vals xs us->(∀v∈xs,∃q,v=.ref q)->xs=us.map rY/\∀u∈us,∃q,u=.ref q
 | _,_,.nil,_=>⟨rfl,λ_ h=>by cases h⟩
 | _,_,.cons r t,h=>by
  obtain⟨e1,e2⟩:=yG t λv hv=>h v (zD _ hv)
  obtain⟨q,rfl⟩:=h _ zC;cases r;refine⟨by rw[oS,<- e1];rfl,λu hu=>?_⟩;rcases vS.mp hu with rfl|hu
  ·exact⟨q,rfl⟩
  ·exact e2 u hu
theorem yH:∀{us:xD},(∀u∈us,∃q,u=.ref q)->Vals (us.map rY) us
 | [],_=>.nil
 | u::us,h=>by
  obtain⟨q,rfl⟩:=h u zC;exact .cons rfl (yH λv hv=>h v (zD _ hv))
def uO{X:Cx}{K:W.Frag}{k:Nat}(hK:X.K=K)(hr:Room k X.A):Yx X "sorted" "key" (Iu K):=by
 intro pins s σ H vs us y u Q I rv ry h;subst hK;obtain⟨l,f,xs,ks,rfl,rfl,lam,hq,hl,h64,hk,q⟩:=h;cases ry;rcases rv with _|⟨r,_|_⟩;cases r;obtain⟨its,rv,p,hz⟩:=I.list hq;obtain⟨m,hm,_⟩:=id I.loc;obtain⟨qual,x,params,p1,p2,p3,j,scope,pm,ctv,c',oc,cv,t,ef,ec,ed,e1,S,hb⟩:=lam;have hlen:its.length=xs.length:=rv.length.symm;have nL:∀{b:Addr} {u:HO},H b=some u->b≠X.env.locals:=λ{b u} e z=>by rw[z,I.free] at e;cases e
 have refs:∀v∈xs,∃q,v=V.ref q:=λv hv=>by
  obtain⟨i,hi,e⟩:=List.getElem_of_mem hv;obtain⟨q,r,e2,_⟩:=hk i v (ks[i]'(by lia)) (by rw[<- e];simp) (by simp);exact⟨q,e2⟩
 obtain⟨xb,ub⟩:=yG rv refs;have keep:∀{h:Heap} {own:pV},News { objs:=#[] } X.env.locals h (oh s.heap X.env.locals++own)->∀b o,b≠X.env.locals->s.heap.get? b=some o->h.get? b=some o:=λN b o n e=>(N (b,o) (mB _ (ou e n))).1
 refine ksk_sorted (h₀:={ objs:=#[] }) (L:=X.env.locals) (m:=m) (news:=oh s.heap X.env.locals) (b:=false) (vs:=its) (kz:=ks) (f:=.ref f) ⟨hm,λb o e=>?_,Nat.zero_le _⟩ (λp hp=>⟨(yF hp).1,(yF hp).2,rfl⟩) p.isList (by lia) (by lia) (ksk_s1 _ _) (λx=>ksk_l1 _ _) (λx=>ksk_t1 f x) ?_ ?_
 ·have e:Heap.get? { objs:=#[] } b=some o:=e;simp[Heap.get?] at e
 ·intro i v k hv hki h tk own F N;have kp:=keep N;have hx:xs[i]?=some (rY v):=by rw[xb,wS,hv];rfl
  obtain⟨q,r,e2,e3,e4⟩:=hk i _ k hx hki;obtain⟨q',rfl⟩:=ub v (yT hv);cases e2;obtain⟨_,its2,rv2,ob,et,ec2⟩:=I.hok q _ e3;obtain⟨u2,eu,ru⟩:=rv2.get e4;obtain⟨t2,rfl⟩:=ru;have lim:h.NoLimit:=I.ok.mod.nolimit.keeps λb o e=>kp b o (qE (qB (uA e) (rX I.ok.bsz I.ok.above))) (I.bk b o e)
  refine aat (A:=X.A.in1.in1) (s:={ s with heap:=h,toks:=tk }) (show X.A.depth<_ from hr.depth) (kp _ _ (nL ef) (I.hok f _ ef).1) ⟨c',oc,cv,t,rfl,kp _ _ (nL ec) (I.hok c' _ ec).1,ed,e1⟩ lim S (hb q) (its:=its2) ⟨ob,kp _ _ (nL e3) et,ec2⟩ eu λh' tk' k2=>?_
  exact KskEnd.intro (s₁:={ s with heap:=h,toks:=tk }) (news':=oh s.heap X.env.locals++own) ⟨F.ns.keeps k2,λb o e=>k2 b o (F.keep b o e),F.above⟩ (λp hp=>⟨k2 _ _ (N p hp).1,(N p hp).2⟩) λp hp=>hp
 ·intro D h' tk out c F N hD out';obtain⟨ps,pp,eo,pw⟩:=out';have hn:s.heap.get? D=none:=by
   cases e:s.heap.get? D with
   | none=>rfl
   | some o =>
    have:=hD (D,o) (ou e (N (D,seqObj "list" out c) zC).2.1);exact gL this (qS _)
  have hin:∀u∈out.toList,∃q,u=Value.ref q:=λu hu=>by
   rw[eo] at hu;obtain⟨pr,h1,rfl⟩:=vT.mp hu;have:=pp.mem_iff.mp h1;exact ub _ (List.of_mem_zip (show (pr.1,pr.2)∈ks.zip its from this)).2
  have lo:out.toList.length=xs.length:=by
   rw[eo,wE,pp.length_eq,List.length_zip]
   lia
  refine⟨.ref D,upd H D (.lst (out.toList.map rY)),I.adJ (t':=tk) (λb u n e=>(N (b,u) (zD _ (ou e n))).1) hm F.ns hn ?_,rfl,q D _ _ (New.mk' ?_) ⟨ps.map λpr=>(pr.1,rY pr.2),?_,?_,?_⟩⟩
  ·refine⟨by rw[wE,lo];exact hz,out.toList,c,yH hin,?_⟩;exact(N (D,seqObj "list" out c) zC).1
  ·cases e:H D with
   | none=>rfl
   | some u =>
    obtain⟨ob,e2⟩:=(I.hok D u e).is;rw[hn] at e2;cases e2
  ·have:=pp.map λpr:Int×Value=>(pr.1,rY pr.2)
   rw[xb];have e3:(ks.zip its).map (λpr:Int×Value=>(pr.1,rY pr.2))=ks.zip (its.map rY):=by
    rw[List.zip_map_right]
    rfl
   rw[<- e3];exact this
  ·rw[eo,List.map_map,List.map_map]
   rfl
  ·exact List.pairwise_map.mpr (pw.imp λh=>by simpa using h)
def Inv.grow{X:Cx}{pins:pV}{σ:St}{H H':Hp}{s:Shared}{h':Heap}{t':Nat}(I:Inv X pins σ H s)(k:∀b u,H b=none->s.heap.get? b=some u->h'.get? b=some u/\H' b=none)
  (kt:∀b u,H b=some u->(H' b=some u/\∀o,s.heap.get? b=some o->h'.get? b=some o)\/∃ps more,u=.tbl ps/\H' b=some (.tbl (ps++more))/\h'.get? b=some { cls:=.none,data:=.fields (ps++more) })
  (new:∀b u,H b=none->H' b=some u->cM X.prog X.w H' h' b u):Inv X pins σ H' { s with heap:=h',toks:=t' }:=by
 have same:∀{b:Addr} {u:HO},H b=some u->(∀ps,u≠.tbl ps)->H' b=some u/\∀o,s.heap.get? b=some o->h'.get? b=some o:=λ{b u} e n=>by
  rcases kt b u e with z|⟨ps,_,z,_⟩
  ·exact z
  ·exact gL z (n ps)
 obtain⟨m0,⟨oL,esL,epL,eL,rL⟩,_⟩:=id I.loc;have kL:=(k _ _ I.free eL).1;refine I.step (g':=s.gens) (d':=s.drawn) (ch:=[]) (λ_ z=>nomatch z) (λb u n _ _ e q=>(k b u q e).1) (λb u n _ _ e q=>⟨u.slots,(k b u q e).1⟩) (λb u _ e q=>(k b u q e).2) (λb u _ e=>?_) (λb xs e=>(same e (by intro _ z;cases z)).1) (λb u v e=>(same e (by intro _ z;cases z)).1) (λb ps e=>?_) (λm2 hm2=>?_) (λb u e=>?_) I.bare
 ·cases q:H b with
  | none=>exact⟨u,(k b u q e).1⟩
  | some v =>
   rcases kt b v q with z|⟨ps,more,_,_,z⟩
   ·exact⟨u,z.2 u e⟩
   ·exact⟨_,z⟩
 ·rcases kt b _ e with z|⟨ps',more,z,z2,_⟩
  ·exact⟨#[],by rw[z.1];simp⟩
  ·cases z;exact⟨more,z2⟩
 ·obtain⟨o,es,ep,e,r⟩:=hm2;rw[eL] at e;cases e;exact⟨_,es,ep,kL,r⟩
 ·cases q:H b with
  | none=>exact new b u q e
  | some v =>
   rcases kt b v q with z|⟨ps,more,rfl,z2,z3⟩
   ·rw[z.1] at e;cases e;refine(I.hok b _ q).stay (λc o hc e2=>?_) (λc e2=>(same e2 (by intro _ z;cases z)).1) λc xs e2=>(same e2 (by intro _ z;cases z)).1
    rcases hc with rfl|hc
    ·exact z.2 o e2
    ·exact(same hc (by intro _ z;cases z)).2 o e2
   ·rw[z2] at e;cases e;exact z3
def TabOk(pos:Pos)(qual:Str)(ps:xF)(H:Hp):Prop:=ps=#[]\/∃(c':Addr)(oc:Obj)(vs:xF)(t:Tok),ps=#[rawInt pos.line,rawInt pos.col,.ref c']/\H c'=some (.frz oc (.own c'))/\oc.data=.fields vs/\vs[1]?=some (.str qual t)
def Bm(mg:xC)(base:Heap):Prop:=∃bm ob,mg "__builtins__" = some (.ref bm)/\bm≠builtinsNs/\base.get? bm=some ob/\ob.cls=.type "module" /\ ob.dict=some builtinsNs/\ob.data=.plain
def adK(P:Addr)(pos:Pos)(qual:Str):TE:=λ_ H Q=>∃ps,H P=some (.tbl ps)/\TabOk pos qual ps H/\∀f ps' H',Kp P H H'->H' P=some (.tbl ps')->TabOk pos qual ps' H'->pP H' f->Q (.ref f) H'
def RV{X:Cx}{c P:Addr}{qual x:Str}{params:Arguments}{scope:Scope}{p1 p2 p3 pos:Pos}{j:Nat}(B:Bm X.mg X.base)(hc:X.env.code=.ref c)(hK:W.codeHdIn X.K c P=true)(hq:X.env.qual++("<lambda>" : Str)=qual)(S:uN x scope)
  (hdef:defaultsOf params X.env=([],[]):=by rfl) (hcl:closureFor scope X.env=pure []:=by rfl)
  (hb:∀(pm ctv:Value)(c' q:Addr),bindArgs (W.kla_fn "<lambda>" qual params (lH x p1 p2 p3 j) scope [] pm (.ref c') ctv) ⟨[.ref q],[]⟩=pure [(x,.ref q)]:=by intros;rfl) :
  PE X (.Lambda params (lH x p1 p2 p3 j) scope pos) (adK P pos qual):=by
 intro pins s σ H Q I h;obtain⟨ps,eP,tk,q⟩:=h;have hP:s.heap.get? P=some (W.tabObj ps):=I.hok P _ eP;obtain⟨bm,ob,b1,b2,b3,b4,b5,b6⟩:=B;have hg:s.heap.Ns mainGlobals X.mg:=I.ok.mod.glob.keeps I.bk;have nob:∀{b:Addr} {o:Obj},X.base.get? b=some o->b≠P:=λ{b o} e z=>by
  have:=(I.bs b o e).2;rw[z,eP] at this;cases this
 have nG:mainGlobals≠P:=by
  obtain⟨o,_,_,e,_⟩:=I.ok.mod.glob;exact nob e
 have nbG:bm≠mainGlobals:=λz=>by
  obtain⟨o,es,ep,e,hd,_⟩:=I.ok.mod.glob;rw[z,e] at b3;cases b3;rw[hd] at b6;cases b6
 have BA:s.heap.BuiltinsAt X.mg P:=⟨bm,ob,b1,b2,nbG,nob b3,I.bk _ _ b3,b4,b5,b6⟩;have CH:=W.codeHd_of_K I.kIn hK;refine W.kla_eval hdef ?_;rw[hq];have nP:∀{b:Addr},H b=none->b≠P:=λ{b} e z=>by rw[z,eP] at e;cases e
 rcases tk with rfl|⟨c',oc,vs,t,rfl,e1,e2,e3⟩
 ·refine W.kla_makeFunction hcl I.ok.glob hg hc CH hP trivial rfl nG BA λc' ctv h' tk' hx hge hlt hrec hP'=>?_
  obtain⟨c2,oc,vs,t,z,hoc,hd,hv⟩:=hrec;cases z;have fc:H c'=none:=I.hok.fresh hge;have hsz:s.heap.objs.size<=h'.objs.size:=rX hge (Nat.le_of_lt hlt);have ff:H h'.objs.size=none:=I.hok.fresh hsz;have ncf:c'≠h'.objs.size:=qE hlt;have ncP:c'≠P:=nP fc;have nfP:h'.objs.size≠P:=nP ff
  generalize hf:h'.objs.size=f at *
  generalize hob:W.kla_obj "<lambda>" qual params (lH x p1 p2 p3 j) scope [] ((X.mg "__name__").getD .none) c' ctv=fo
  let H':Hp:=upd (upd (upd H P (.tbl (#[]++#[rawInt pos.line,rawInt pos.col,.ref c']))) c' (.frz oc (.own c'))) f (.frz fo (.own f))
  have hP2:H' P=some (.tbl #[rawInt pos.line,rawInt pos.col,.ref c']):=by
   show upd _ _ _ _=_;rw[aZ (Ne.symm nfP),aZ (Ne.symm ncP),bA];simp
  have hc2:H' c'=some (.frz oc (.own c')):=by
   show upd _ _ _ _=_;rw[aZ ncf,bA]
  have hf2:H' f=some (.frz fo (.own f)):=bA;have old:∀{b:Addr},b≠P->b≠c'->b≠f->H' b=H b:=λ{b} n1 n2 n3=>by
   show upd _ _ _ _=_;rw[aZ n3,aZ n2,aZ n1]
  have push:∀{b:Addr} {o:Obj},h'.get? b=some o->(h'.push fo).get? b=some o:=λe=>uB _ e
  have I':Inv X pins σ H' { s with heap:=h'.push fo,toks:=tk' }:=by
   refine I.grow (λb u n e=>?_) (λb u e=>?_) λb u n e=>?_
   ·have lt:=uA e;have n2:b≠c':=qE (qB lt hge);have n3:b≠f:=qE (qB lt hsz);exact⟨push (hx b u (nP n) e),by rw[old (nP n) n2 n3];exact n⟩
   ·by_cases hbP:b=P
    ·right
     rw[hbP,eP] at e;cases e;exact⟨#[],#[rawInt pos.line,rawInt pos.col,.ref c'],rfl,by rw[hbP,hP2];simp,by rw[hbP];exact push hP'⟩
    ·left
     have n2:b≠c':=λz=>by rw[z,fc] at e;cases e
     have n3:b≠f:=λz=>by rw[z,ff] at e;cases e
     exact⟨by rw[old hbP n2 n3];exact e,λo e4=>push (hx b o hbP e4)⟩
   ·by_cases hbf:b=f
    ·rw[hbf,hf2] at e;cases e;have e5:(h'.push fo).get? f=some fo:=by
      rw[<- hf];exact oP _ (by rw[<- hob];rfl)
     rw[hbf];exact⟨e5,_,e5⟩
    ·by_cases hbc:b=c'
     ·rw[hbc,hc2] at e;cases e;rw[hbc];exact⟨push hoc,_,push hoc⟩
     ·have hbP:b≠P:=nP n;rw[old hbP hbc hbf,n] at e;cases e
  refine⟨.ref f,H',I',rfl,q f _ H' (λb u n e=>?_) hP2 (.inr ⟨c',oc,vs,t,rfl,hc2,hd,hv⟩) ⟨qual,x,params,p1,p2,p3,j,scope,_,ctv,c',oc,vs,t,by rw[hf2,<- hob],hc2,hd,hv,S,hb _ _ _⟩⟩;have n2:b≠c':=λz=>by rw[z,fc] at e;cases e
  have n3:b≠f:=λz=>by rw[z,ff] at e;cases e
  rw[old n n2 n3];exact e
 ·have hcode:codeAmong pos (#[rawInt pos.line,rawInt pos.col,Value.ref c']).toList=some (.ref c'):=by
   show (if ((pos.line:Int)==(pos.line:Int) && (pos.col:Int)==(pos.col:Int))=true then some (Value.ref c') else _)=_;simp
  refine W.kla_makeFunctionHit hcl I.ok.glob hg hc CH hP trivial hcode BA λctv h' tk' hx hsz=>?_
  have ff:H h'.objs.size=none:=I.hok.fresh hsz
  generalize hob:({ cls:=Value.type "function", data:=Data.func (W.kla_fn "<lambda>" qual params (lH x p1 p2 p3 j) scope [] ((X.mg "__name__").getD .none) (.ref c') ctv) }:Obj)=fo
  have e5:(h'.push fo).get? h'.objs.size=some fo:=oP _ (by rw[<- hob];rfl);have k2:∀{b:Addr} {u:HO},H b=some u->upd H h'.objs.size (.frz fo (.own h'.objs.size)) b=some u:=λ{b u} e=>by
   rw[aZ (λz=>by rw[z,ff] at e;cases e)];exact e
  refine⟨.ref h'.objs.size,upd H h'.objs.size (.frz fo (.own h'.objs.size)),I.laid (t':=tk') (λb u e=>uB _ (hx b u e)) hsz ⟨e5,_,e5⟩,rfl,q _ _ _ (λb u n e=>k2 e) (k2 eP) (.inr ⟨c',oc,vs,t,rfl,k2 e1,e2,e3⟩) ⟨qual,x,params,p1,p2,p3,j,scope,_,ctv,c',oc,vs,t,by rw[bA,<- hob],k2 e1,e2,e3,S,hb _ _ _⟩⟩
section
variable{P:Program}{w:World}{K:W.Frag}{mg:xC}{base:Heap}{CX:CXT}{k:Nat}{nm qual:Str}{st:Stmt}{f c:Addr}{N ps:List Str}{sp:Sp}
def NZ(h:∃fd,Fun K nm qual st f fd/\fd.code=.ref c)(S:aL N ps (aC st))(len:∀vs H Q E,sp vs H Q E->vs.length=ps.length)
  (hb:∀(kV doc pm:Value)(an:xI)(cdv ct:Value)(us:xD),us.length=ps.length->bindArgs (W.fnOf nm qual (b_ st) (bI st) (aC st) .none kV doc pm an cdv ct) ⟨us,[]⟩=pure (ps.zip us))
  (hbody:∀(f:Addr)(A:Around)(outer:List Env)(s:Shared)(H:Hp)(vs:List V)(Q:VK)(E:XK),Room k (A.deeper (envOfC qual (aC st) s.heap.objs.size f (.ref c)))->sp vs H Q E ->
   ∃t,PSs (gP CX P w K mg base N qual (aC st) f (.ref c) A outer s H E).nox (bI st) t/\t { nx:=λ_ H'=>Q .non H',rt:=Q } (start N vs) H):iu P w K mg base CX (k+1) f ps sp:=by
 obtain⟨fd,F,hc⟩:=h;refine⟨fd,?_,F.binds hb⟩;obtain⟨oc,od,kV,doc,pm,an,cdv,ct,osl,rfl,lk,hcd⟩:=F.ex;obtain rfl:cdv=.ref c:=hc;refine pC lk hcd S len λA outer s H vs Q E hr hsp=>?_
 obtain⟨t,h,q⟩:=hbody f A outer s H vs Q E hr hsp;exact⟨t,h.nox,q⟩
end
def RW(ts:List Addr)(H:Hp):Prop:=(∀p∈ts,H p=some (.tbl #[]))/\∀b,b ∉ ts->H b=none\/∃o xs,H b=some (.frz o (.lst xs))
theorem N5{P:Program}{w:World}{K:W.Frag}{mg mb:xC}{CX:CXT}{k:Nat}{fa a:Addr}{fd:FuncData}{x:Str}{sp:Sp}{s₁:Shared}{vs:xD}{ns:List Int}{ts:List Addr}
  (KX:K.In s₁.heap) (hns:s₁.heap.Ns mainGlobals mg) (hb:s₁.heap.Ns builtinsNs mb) (hbb:∀x:Str,x ≠ "__name__" -> mb x=bootBuiltins x) (hlim:s₁.heap.NoLimit) (hg:s₁.gens=#[]) (hB:Bm mg s₁.heap)
  (hts:∀p∈ts,s₁.heap.get? p=some (W.tabObj #[])) (hct:∀p∈ts,isCodeTable s₁.heap p) (hKt:∀p∈ts,K.lookup p=none)
  (ha:s₁.heap.get? a=some { cls:=.type "list", data:=.seq vs.toArray }) (hi:IntsAre vs ns) (hl:ns.length<=sizeLine) (hr:Room k callerA)
  (F:∀base:Heap,K.In base->base.Ns mainGlobals mg->Bm mg base->iZ P w K mg base CX k fa fd [x] sp) (hbind:∀(s:Shared)(u:Value),BindsTo s fd ⟨[u],[]⟩ [(x,u)])
  (hsp:∀H:Hp,RW ts H->a ∉ ts->SqL K H a (ns.map V.int)->sp [.ref a] H (λv _=>v=.bl true) λ_ _ _=>False)
  (hCX:∀H e s',CX [] H s₁ (λ_ _ _=>False) e s'->False) :
  codeAny (model P w) callerA (.call (.ref fa) ⟨[.ref a],[]⟩) (λr s'=>r=.ok (.ret (.bool true))/\OldK s₁.heap s'.heap/\s'.os=s₁.os/\AllBare s'.gens) s₁:=by
 have rv:=yd hi;have lenV:=hi.length;have nat:a ∉ ts:=λz=>by
  have:=hts a z;rw[ha] at this;cases this
 have core:∀H:Hp,RW ts H->SqL K H a (ns.map V.int)->HOk P w H s₁.heap->(∀b,b ∉ ts->H b≠none->b=a)->(H a≠none->K.lookup a=none) ->
   codeAny (model P w) callerA (.call (.ref fa) ⟨[.ref a],[]⟩) (λr s'=>r=.ok (.ret (.bool true))/\OldK s₁.heap s'.heap/\s'.os=s₁.os/\AllBare s'.gens) s₁:=by
  intro H hO hS hok hA hK;have kindOf:∀{b:Addr} {o:Obj},s₁.heap.get? b=some o->H b≠none->o=W.tabObj #[]\/o={ cls:=.type "list", data:=.seq vs.toArray }:=λ{b o} e n=>by
   by_cases hb:b∈ts
   ·left
    have:=hts b hb;rw[e] at this;exact nI this
   ·right
    have:=hA b hb n;rw[this,ha] at e;exact(nI e).symm
  have keep:∀{b:Addr} {o:Obj},s₁.heap.get? b=some o->o≠W.tabObj #[]->o≠{ cls:=.type "list", data:=.seq vs.toArray }->(wW s₁.heap H).get? b=some o:=λ{b o} e n1 n2=>CK e (by
   cases q:H b with
   | none=>rfl
   | some u =>
    rcases kindOf e (by rw[q];simp) with z|z
    ·exact gL z n1
    ·exact gL z n2)
  have nsK:∀{b:Addr} {m:xC},s₁.heap.Ns b m->(wW s₁.heap H).Ns b m:=λ{b m} ⟨o,es,ep,e,d,r⟩=>⟨o,es,ep,keep e (λz=>by rw[z] at d;cases d) (λz=>by rw[z] at d;cases d),d,r⟩
  have hKb:K.In (wW s₁.heap H):=λb o e=>CK (KX b o e) (by
   cases q:H b with
   | none=>rfl
   | some u =>
    by_cases hb:b∈ts
    ·rw[hKt b hb] at e;cases e
    ·have z:=hA b hb (by rw[q];simp);rw[z] at e q;rw[hK (by rw[q];simp)] at e;cases e)
  have hBb:Bm mg (wW s₁.heap H):=by
   obtain⟨bm,ob,b1,b2,b3,b4,b5,b6⟩:=hB;exact⟨bm,ob,b1,b2,keep b3 (λz=>by rw[z] at b4;cases b4) (λz=>by rw[z] at b6;cases b6),b4,b5,b6⟩
  have hM:Mod K mg (wW s₁.heap H):=⟨hKb,nsK hns,⟨mb,nsK hb,hbb⟩,let ⟨mc,h1,h2⟩:=hlim;⟨mc,nsK h1,h2⟩⟩;have e0:wY P w K mg (wW s₁.heap H) callerA [] s₁ H:=⟨rfl,hM,λb o e=>VP e,Nat.le_of_eq (MP _ _),trivial,λb hb=>absurd (show b∈([]:List Addr) from hb) (by simp),hok,.of_eq hg⟩;refine codeAny_mono ((F _ hKb (nsK hns) hBb).run callerA [] s₁ H ⟨[.ref a],[]⟩ [.ref a] [.ref a] _ _ hr e0 (hbind s₁ (.ref a)) (.cons rfl .nil) (hsp H hO nat hS)) λr s' h=>?_
  rcases r with e|fl
  ·exact(hCX H e s' h).elim
  ·rcases fl with _|_|_|u
   ·exact False.elim h
   ·exact False.elim h
   ·exact False.elim h
   ·obtain⟨v,H',os,bare,un,hok',r',q⟩:=h;obtain rfl:v=.bl true:=q;obtain rfl:u=Value.bool true:=r';refine⟨rfl,?_,os,bare⟩;have each:∀b o,s₁.heap.get? b=some o->s'.heap.get? b=some o\/(b∈ts/\o=W.tabObj #[]/\∃more,s'.heap.get? b=some (W.tabObj (#[]++more))):=λb o e=>by
     cases q:H b with
     | none=>exact .inl (un.keep b o e q (λz=>absurd (show b∈([]:List Addr) from z) (by simp)) (by simp))
     | some u =>
      by_cases hb:b∈ts
      ·right
       have e1:=hts b hb;rw[e] at e1;obtain⟨more,e2⟩:=un.mZ b #[] (hO.1 b hb);exact⟨hb,nI e1,more,hok' b _ e2⟩
      ·left
       rcases hO.2 b hb with z|⟨ob,xs,z⟩
       ·rw[q] at z;cases z
       ·have e1:=(hok b _ z).1;rw[e] at e1;cases e1;exact(hok' b _ (un.mY b _ _ z)).1
    refine⟨λb o e=>?_,λb o e=>?_⟩
    ·rcases each b o e with z|⟨hb,rfl,more,z⟩
     ·exact .inl z
     ·exact .inr (.inl ⟨hct b hb,rfl,#[],more,rfl,z⟩)
    ·rcases each b o e with z|⟨_,_,more,z⟩
     ·exact⟨_,z⟩
     ·exact⟨_,z⟩
 cases hk:K.lookup a with
 | some o =>
  have e:=KX a o hk;rw[ha] at e;cases e;refine core (λb=>if b∈ts then some (.tbl #[]) else none) ⟨λp hp=>if_pos hp,λb hb=>.inl (if_neg hb)⟩ (.inr ⟨_,vs.toArray,_,hk,rfl,rfl,rfl,by rw[List.size_toArray,lenV];exact hl,by simpa using rv⟩) (λb u z=>?_) (λb hb z=>absurd (if_neg hb) z) λz=>absurd (if_neg nat) z
  by_cases hb:b∈ts
  ·have z':=(zS hb).symm.trans z;cases z';exact hts b hb
  ·have z':=(yA hb).symm.trans z;cases z'
 | none =>
  refine core (λb=>if b∈ts then some (.tbl #[]) else if b=a then some (.frz { cls:=.type "list", data:=.seq vs.toArray } (.lst (ns.map V.int))) else none) ⟨λp hp=>zS hp,λb hb=>?_⟩ (.inl (.inr ⟨{ cls:=.type "list", data:=.seq vs.toArray },?_⟩)) (λb u z=>?_) (λb hb z=>?_) λ_=>hk
  ·by_cases h:b=a
   ·exact .inr ⟨_,_,(yA hb).trans (zS h)⟩
   ·exact .inl ((yA hb).trans (yA h))
  ·exact(yA nat).trans (zS rfl)
  ·by_cases hb:b∈ts
   ·have z':=(zS hb).symm.trans z;cases z';exact hts b hb
   ·by_cases h:b=a
    ·have z':=((yA hb).trans (zS h)).symm.trans z;cases z';rw[h];exact⟨ha,by rw[wE];exact hl,vs,_,rv,ha⟩
    ·have z':=((yA hb).trans (yA h)).symm.trans z;cases z'
  ·by_cases h:b=a
   ·exact h
   ·exact gL ((yA hb).trans (yA h)) z
def RX{l:W.OpenLaw}{n k:Nat}{q:Program}{loose:List Str}{XP:(Str->Option Value)->Heap->Prop}{YP:World->Heap->Prop}{d:DefRec}{K:Params->W.Frag}{CX:World->CXT}{sp:World->Sp}{x:Str}{ts:List Addr}
  (hn:l.most=some n) (hn2:n<=sizeLine) (hdf:d.params.defaults=[]) (hr:Room k callerA)
  (hY:∀(w:World)(h:Heap),YP w h->(K w.params).In h/\∀p∈ts,h.get? p=some (W.tabObj #[]))
  (F:∀(w:World)(mg:xC)(fa:Addr)(h:Heap),(K w.params).In h->h.Ns mainGlobals mg->mg d.name=some (.ref fa)->(∀p∈ts,(K w.params).lookup p=none/\∃c,W.codeHdIn (K w.params) c p=true) /\
   ∃fd:FuncData,(∀(s:Shared)(u:Value),BindsTo s fd ⟨[u],[]⟩ [(x,u)]) /\
    ∀base:Heap,(K w.params).In base->base.Ns mainGlobals mg->Bm mg base->iZ l.prog w (K w.params) mg base (CX w) k fa fd [x] (sp w))
  (hsp:∀(w:World)(H:Hp)(a:Addr)(ns:List Int),ns.length<=n->RW ts H->a ∉ ts->SqL (K w.params) H a (ns.map V.int)->sp w [.ref a] H (λv _=>v=.bl true) λ_ _ _=>False)
  (hCX:∀(w:World)(H:Hp)(s:Shared)(e:Value)(s':Shared),CX w [] H s (λ_ _ _=>False) e s'->False) :
  W.WalkO q loose XP YP l.row.toRowW d [] (λf vs=>PySem.call f vs):=by
 refine Att.Dg hn hdf λw s₀ s₁ mg mb fa o pm cd doc a vs ns G Y ho hd hcd hmg hobj hints hlen hg=>?_
 obtain⟨KX,hts⟩:=hY w _ Y;obtain⟨hT,fd,hb,hF⟩:=F w mg fa _ KX G.T.g hmg;refine N5 KX G.T.g G.T.b G.T.builtins G.T.nolimit hg G.T.bmain hts (λp hp=>?_) (λp hp=>(hT p hp).1) hobj hints (rX hlen hn2) hr hF hb (λH hO hn hS=>hsp w H a ns hlen hO hn hS) λH e s'=>hCX w H s₁ e s'
 obtain⟨c,hc⟩:=(hT p hp).2;obtain⟨o,vs,_,_,_,_,_,_,_,e1,e2,e3,e4,_⟩:=W.codeHd_of_K KX hc;exact⟨c,o,vs,e1,e2,e3,e4⟩
end L2
namespace L2
open PySem PySem.Spec PyProof.Rows PySem.SeqAt
def tx(cs:List Nat):Str:=⟨cs.toArray⟩
def ju(cs:List Nat):(tx cs).length=cs.length:=by simp[tx,Str.length]
def RZ(cs:List Nat):(tx cs).cps.toList=cs:=by simp[tx]
def lK{a b:List Nat}(h:tx a=tx b):a=b:=by
 have:=gE (λz:Str=>z.cps.toList) h;simpa[tx] using this
def aav:R2:=λx y H Q=>∃z j,x=.str z/\y=.int j/\z.length<=sizeLine/\Q (.str (Txt.slice z none (some j))) H
def adL(te th:TE):TE:=λσ H Q=>te σ H λx H1=>th σ H1 λy H2=>aav x y H2 Q
section
variable{X:Cx}{e hi:Expr}{te th:TE}{p2 pos:Pos}
def R0(he:PE X e te)(hu:PE X hi th):PE X (.Subscript e (.Slice none (some hi) none p2) pos) (adL te th):=by
 intro pins s σ H Q I h;refine Subscript_ (thn (he pins s σ H _ I h) λv s1 ⟨x,H1,I1,r1,q1⟩=>?_);refine wpAny_Slice (wpAny_evalPart_none (wpAny_evalPart_some (thn (hu pins s1 σ H1 _ I1 q1) λvu s3 ⟨y,H3,I3,pu,z,j,e1,e2,hz,q3⟩=>wpAny_evalPart_none ?_)));subst e1;subst e2;obtain⟨t,rfl⟩:=r1;obtain⟨t2,rfl⟩:=pu;obtain⟨Tn,id,h1,h2,h3⟩:=SBH.sliceItem_ns (prog:=X.prog) (w:=X.w) (A:=X.A) (E:=X.xe) (s:=s3) (P:=λh=>∀b o,s3.heap.get? b=some o->h.get? b=some o) (Q:=EP X pins σ Q) (x:=z) (t:=t) (j:=j) (uj:=t2) (λh ob k b o e4=>uB _ (k b o e4)) (λ_ _ e4=>e4) (λh' t' k kp=>⟨.str _,H3,I3.kept kp,⟨t',rfl⟩,q3⟩) hz;exact tail_any (ops:=[.ref s3.heap.objs.size,.str z t]) h2 h1 h3 (by with_unfolding_all rfl)
def YK:R2:=λx y H Q=>∃z n,x=.str z/\y=.int n/\MulOk z n/\Q (.str (Txt.mul z n)) H
def WM:OpR X (binaryOp .Mult) YK:=HF
end
def R3(cs:List Nat)(j:Nat):Txt.slice (tx cs) none (some (j:Int))=tx (cs.take j):=by
 have hn:¬ ((j:Int)<0):=by lia
 have hix:Builtin.Str.strSliceIndices none (some (j:Int)) 1 (tx cs).length=List.range (min j cs.length):=by
  unfold Builtin.Str.strSliceIndices sliceRange;dsimp only;rw[ju];simp only[show (1:Int) > 0 from by decide,if_true,hn,if_false];have e1:max (0:Int) (min (j:Int) (cs.length:Int))=((min j cs.length:Nat):Int):=by lia
  rw[e1];by_cases h:(0:Int)<((min j cs.length:Nat):Int)
  ·rw[zS h];have e2:((((min j cs.length:Nat):Int)-0+1-1) / 1).toNat=min j cs.length:=by
    rw[Int.ediv_one]
    lia
   rw[e2];have e3:(λk:Nat=>((0:Int)+1*(k:Int)).toNat)=id:=by
    funext k
    show ((0:Int)+1*(k:Int)).toNat=k
    lia
   rw[e3,List.map_id]
  ·rw[yA h];have:min j cs.length=0:=by lia
   rw[this]
   rfl
 unfold Txt.slice;rw[hix,List.length_range,ju];by_cases h:min j cs.length=cs.length
 ·rw[if_pos (by rw[h];simp)];rw[nS (by lia)]
 ·rw[if_neg (by simp[h])];unfold tx
  congr 2
  have hfm:∀(n:Nat),n<=cs.length->(List.range n).filterMap (λi=>cs.toArray[i]?)=cs.take n:=by
   intro n
   induction n with
   | zero=>intro _;rfl
   | succ n ih =>
    intro hn;rw[List.range_succ,List.filterMap_append,ih (by lia),qV,List.filterMap_cons,List.filterMap_nil];have:cs.toArray[n]?=cs[n]?:=by simp
    rw[this];cases cs[n]? <;> rfl
  have:=hfm (min j cs.length) (by lia);rw[this];by_cases hj:j<=cs.length
  ·rw[show min j cs.length=j by lia]
  ·exact gL (by lia) h
def aaw(c:Nat)(n:Int):Txt.mul (tx [c]) n=tx (List.replicate n.toNat c):=by
 have h:=mul_one_list c n;have e:(tx [c])=⟨#[c]⟩:=rfl;rw[e];have:∀z:Str,z=tx z.cps.toList:=λz=>by cases z;simp[tx]
 rw[this (Txt.mul ⟨#[c]⟩ n),h]
def qX(a b:List Nat):tx a++tx b=tx (a++b):=by
 show Str.append _ _=_;unfold Str.append tx;simp
section
variable{K:W.Frag}{H0 H:Hp}{M:List Addr}{L L':List (Addr×HO)}{I:List Im}{l P f:Addr}{y:V}{Q:VK}{R:Hp->Prop}{te th:TE}{σ:St}{i:Int}{cs ds:List Nat}{c:Nat}{pos:Pos}{qual:Str}{ps:xF}
instance ahd:Go (adL te th σ H Q) (te σ H λx H1=>th σ H1 λy H2=>aav x y H2 Q):=⟨id⟩
instance afx:Go (aav (.str (tx cs)) (.int i) H Q) (Sd (0<=i/\cs.length<=1000) (Q (.str (tx (cs.take i.toNat))) H)):=⟨λs=>⟨_,i,rfl,rfl,by rw[ju];exact bN (by have:=s.1.2;lia),by
 have:=R3 cs i.toNat;rw[show ((i.toNat:Nat):Int)=i by have:=s.1.1;lia] at this;rw[this];exact s.2⟩⟩
instance afy:Go (acE (.str (tx cs)) (.int i) H Q) (Sd (0<=i/\i<cs.length/\cs.length<=1000) (∀c:Nat,cs[i.toNat]?=some c->Q (.str (tx [c])) H)):=⟨λs=>by
 obtain⟨⟨h0,h1,h2⟩,k⟩:=s;have hl:i.toNat<cs.length:=by lia
 refine⟨tx cs,i,cs[i.toNat],rfl,rfl,by rw[ju];exact bN (by lia),?_,k _ (by simp)⟩;rw[RZ];obtain⟨n,rfl⟩:∃n:Nat,i=(n:Int):=⟨i.toNat,by lia⟩;exact cP (by simp)⟩
instance adM:Go (Yv (.str (tx cs)) (.str (tx ds)) H Q) (Sd (cs.length+ds.length<=1000) (Q (.str (tx (cs++ds))) H)):=⟨λs=>⟨_,_,rfl,rfl,by rw[ju,ju];exact bN (by have:=s.1;lia),by rw[qX];exact s.2⟩⟩
instance adN:Go (YK (.str (tx [c])) (.int i) H Q) (Sd (0<=i/\i<=1000) (Q (.str (tx (List.replicate i.toNat c))) H)):=⟨λs=>by
 obtain⟨⟨h0,h1⟩,k⟩:=s;refine⟨_,i,rfl,rfl,⟨?_,λa b=>?_,λa b=>?_⟩,by rw[aaw];exact k⟩
 ·rw[gS (by lia),gS (by lia)]
  rfl
 ·rw[ju];have:(1:Int)<=(2 ^ 63-1) / i:=by
   rw[Int.le_ediv_iff_mul_le (by lia)]
   lia
  simp only[List.length_cons,List.length_nil]
  lia
 ·unfold Builtin.Str.tooLong;rw[ju];refine gS ?_;have:=bN (n:=1*i.toNat) (by lia);simp only[List.length_cons,List.length_nil]
  lia⟩
def aax{n i0 i1 i2 i3:Nat}{a b c d:V}{R:St->Hp->Prop}(hn:n=4)(hp:SqT K H l [a,b,c,d])(h:aU i0 a σ H λσ1 H1=>aU i1 b σ1 H1 λσ2 H2=>aU i2 c σ2 H2 λσ3 H3=>aU i3 d σ3 H3 R):o_ K n (cJ (aU i0) (cJ (aU i1) (cJ (aU i2) (cJ (aU i3) qO)))) (.ref l) σ H R:=by
 subst hn;exact⟨l,_,rfl,hp,rfl,_,_,rfl,_,_,rfl,_,_,rfl,_,_,rfl,rfl,h⟩
instance afz{n i0 i1 i2 i3:Nat}{a b c d:V}{R:St->Hp->Prop}[h:SqB K H l [a,b,c,d]]:Go (o_ K n (cJ (aU i0) (cJ (aU i1) (cJ (aU i2) (cJ (aU i3) qO)))) (.ref l) σ H R) (Sd (n=4) (aU i0 a σ H λσ1 H1=>aU i1 b σ1 H1 λσ2 H2=>aU i2 c σ2 H2 λσ3 H3=>aU i3 d σ3 H3 R)):=⟨λs=>aax s.1 h.e s.2⟩
def TabOk.st:∀H H',Tst H H'->TabOk pos qual ps H->TabOk pos qual ps H':=λH H' t h=>by
 rcases h with h|⟨c',oc,vs,t',e,e1,e2⟩
 ·exact .inl h
 ·exact .inr ⟨c',oc,vs,t',e,t _ _ rfl e1,e2⟩
def pP.st:∀H H',Tst H H'->pP H f->pP H' f:=λH H' t h=>by
 obtain⟨a1,a2,a3,a4,a5,a6,a7,a8,a9,a10,a11,a12,a13,a14,e1,e2,r⟩:=h;exact⟨a1,a2,a3,a4,a5,a6,a7,a8,a9,a10,a11,a12,a13,a14,t _ _ rfl e1,t _ _ rfl e2,r⟩
abbrev cL(pos:Pos)(qual:Str)(ps:xF):Im:=.fct (TabOk pos qual ps) TabOk.st
abbrev aay(f:Addr):Im:=.fct (λH=>pP H f) pP.st
class N6(I:List Im)(pos:Pos)(qual:Str)(ps:xF):Prop where
 m:cL pos qual ps∈I
class aaz(I:List Im)(f:Addr):Prop where
 m:aay f∈I
instance aiR{g:Im}[h:N6 I pos qual ps]:N6 (g::I) pos qual ps:=⟨zD _ h.m⟩
instance aiS:N6 (cL pos qual ps::I) pos qual ps:=⟨zC⟩
instance aiT:aaz (aay f::I) f:=⟨zC⟩
def SH.tab[F:SH H0 M H L I][h:N6 I pos qual ps]:TabOk pos qual ps H:=F.im _ h.m
instance ahe[F:SH H0 M H L I][e:LkL L P (.tbl ps)][t:N6 I pos qual ps]:Go (adK P pos qual σ H Q) (∀(f:Addr)(ps':xF)(H':Hp),Kp P H H'->H' P=some (.tbl ps')->TabOk pos qual ps' H'->pP H' f->Q (.ref f) H'):=⟨λk=>⟨ps,F.raw e.m,F.im _ t.m,k⟩⟩
instance ahf[F:SH H0 M H L I][u:LkU L P (.tbl ps) L']:Go (∀H',Kp P H H'->H' P=some (.tbl ps)->TabOk pos qual ps H'->R H') (∀H',SH H0 M H' L' (cL pos qual ps::I)->R H'):=⟨λk H' f e t=>k H' ((F.kp f e u.u rfl).jt t)⟩
instance ahg[F:SH H0 M H L I][u:LkU L P (.tbl ps) L']:Go (∀H',Kp P H H'->H' P=some (.tbl ps)->TabOk pos qual ps H'->pP H' f->R H') (∀H',SH H0 M H' L' (aay f::cL pos qual ps::I)->R H'):=⟨λk H' f e t g=>k H' (((F.kp f e u.u rfl).jt t).jt g)⟩
end
def lM(c:Nat):Bool:=decide (97<=c) && decide (c<=122)
def D_(c:Nat):Bool:=decide (48<=c) && decide (c<=57)
def LET:Str := "abcdefghijklmnopqrstuvwxyz"
def SGN:Str := "abcdefghijklmnopqrstuvwxyz0123456789"
def WQ(c:Nat):decide (c∈LET.cps.toList)=lM c:=by
 rw[show LET.cps.toList=List.range' 97 26 by decide +kernel];unfold lM;rw[Bool.eq_iff_iff];simp only[decide_eq_true_eq,List.mem_range'_1,Bool.and_eq_true]
 lia
def WR(c:Nat):decide (c∈SGN.cps.toList)=(lM c || D_ c):=by
 rw[show SGN.cps.toList=List.range' 97 26++List.range' 48 10 by decide +kernel];unfold lM D_;rw[Bool.eq_iff_iff];simp only[decide_eq_true_eq,List.mem_append,List.mem_range'_1,Bool.and_eq_true,Bool.or_eq_true]
 lia
structure dO(cs:List Nat):Prop where
 lo:1<=cs.length
 hi:cs.length<=8
 hd:∀c,cs[0]?=some c->lM c=true
 all:∀c∈cs,(lM c || D_ c)=true
structure Rw where
 nm:List Nat
 st:Nat
 sz:Nat
 pn:Nat
abbrev dD(r:Rw):List V:=[.str (tx r.nm),.int (r.st:Nat),.int (r.sz:Nat),.int (r.pn:Nat)]
def aJ(rs:List Rw):List (List V):=rs.map dD
def bw(rs:List Rw):(aJ rs).length=rs.length:=wE ..
structure GoodR(n:Nat)(r:Rw):Prop where
 nm:dO r.nm
 sz:1<=r.sz
 le:r.st+r.sz<=n
def Apart(r s:Rw):Prop:=r.nm≠s.nm/\(r.st+r.sz<=s.st\/s.st+s.sz<=r.st)
theorem Apart.symm{r s:Rw}(h:Apart r s):Apart s r:=⟨λz=>h.1 z.symm,h.2.elim .inr .inl⟩
structure Lay(n:Nat)(rs:List Rw):Prop where
 good:∀r∈rs,GoodR n r
 ap:rs.Pairwise Apart
 few:rs.length<=40
def Asc(rs:List Rw):Prop:=rs.Pairwise λr s=>r.st+r.sz<=s.st
def Lay.perm{n:Nat}{rs qs:List Rw}(h:Lay n rs)(p:rs.Perm qs):Lay n qs:=⟨λr hr=>h.good r (p.mem_iff.mpr hr),(p.pairwise_iff (λ{a b}=>Apart.symm)).mp h.ap,by rw[<- p.length_eq];exact h.few⟩
theorem dh{H:Hp}{rs:List Rw}{ys:List V}{i:Nat}{v:V}(h:aD H ys (aJ rs))(e:ys[i]?=some v):∃r q,rs[i]?=some r/\v=.ref q/\H q=some (.tup (dD r)):=by
 obtain⟨r,q,e1,e2,e3⟩:=fC h e;unfold aJ at e1;rw[wS] at e1;cases e4:rs[i]? with
 | none=>rw[e4] at e1;cases e1
 | some w=>rw[e4] at e1;cases e1;exact⟨w,q,rfl,e2,e3⟩
theorem rZ{α β:Type}{f:α->β}{l:List β}{m:List α}(p:l.Perm (m.map f)):∃k:List α,k.Perm m/\l=k.map f:=by
 generalize hm:m.map f=m' at p
 induction p generalizing m with
 | nil=>exact⟨[],by rw[List.map_eq_nil_iff.mp hm],rfl⟩
 | cons x p ih =>
  cases m with
  | nil=>cases hm
  | cons a t =>
   rw[oS] at hm;injection hm with h1 h2
   obtain⟨k,pk,ek⟩:=ih h2;exact⟨a::k,pk.cons a,by rw[oS,h1,ek]⟩
 | swap x y l =>
  cases m with
  | nil=>cases hm
  | cons a t =>
   cases t with
   | nil=>rw[oS] at hm;injection hm with h1 h2;cases h2
   | cons b u =>
    rw[oS,oS] at hm;injection hm with h1 h2
    injection h2 with h2 h3
    exact⟨b::a::u,List.Perm.swap a b u,by rw[oS,oS,h1,h2,h3]⟩
 | trans p1 p2 ih1 ih2 =>
  obtain⟨k,pk,ek⟩:=ih2 hm;obtain⟨k2,pk2,ek2⟩:=ih1 ek.symm;exact⟨k2,pk2.trans pk,ek2⟩
theorem R4:∀{as bs:List Rw},as.Perm bs->as.Pairwise (λr s=>r.st<=s.st)->bs.Pairwise (λr s=>r.st<s.st)->as=bs:=by
 intro as
 induction as with
 | nil=>intro bs p _ _;exact(List.nil_perm.mp p).symm
 | cons a t ih =>
  intro bs p ha hb;cases bs with
  | nil=>exact absurd p.length_eq (by simp)
  | cons b u =>
   have e:a=b:=by
    rcases vS.mp (p.mem_iff.mp zC) with h|h
    ·exact h
    ·have h1:=(mN.mp hb).1 a h;rcases vS.mp (p.mem_iff.mpr (zC (a:=b) (l:=u))) with h2|h2
     ·exact h2.symm
     ·have h3:=(mN.mp ha).1 b h2
      lia
   subst e;rw[ih (List.perm_cons a |>.mp p) (mN.mp ha).2 (mN.mp hb).2]
def R5{rs:List Rw}{ys:List V}:(rs.map λr=>((r.st:Nat):Int)).zip ys=(rs.zip ys).map λp=>(((p.1.st:Nat):Int),p.2):=by
 rw[List.zip_map_left]
 rfl
theorem N7{H:Hp}{rs as:List Rw}{ys zs:List V}(t:aD H ys (aJ rs))(p:rs.Perm as)(ha:as.Pairwise λr s=>r.st<s.st)(s:lJ (rs.map λr=>((r.st:Nat):Int)) ys zs):aD H zs (aJ as):=by
 obtain⟨ps,pp,rfl,pw⟩:=s;rw[R5] at pp;obtain⟨qs,pq,rfl⟩:=rZ pp;have hl:ys.length=rs.length:=by rw[t.1,bw]
 have e1:(rs.zip ys).map Prod.fst=rs:=List.map_fst_zip (by lia);have pf:(qs.map Prod.fst).Perm rs:=by
  have:=pq.map Prod.fst;rw[e1] at this;exact this
 have hq:qs.map Prod.fst=as:=by
  refine R4 (pf.trans p) ?_ ha;rw[List.pairwise_map] at pw ⊢;exact pw.imp λh=>by lia
 have each:∀x∈qs,∃q,x.2=.ref q/\H q=some (.tup (dD x.1)):=λx hx=>by
  have hx:=pq.mem_iff.mp hx;obtain⟨i,hi,e⟩:=List.getElem_of_mem hx;rw[List.length_zip] at hi;rw[List.getElem_zip] at e;obtain⟨r,q,e2,e3,e4⟩:=dh t (v:=ys[i]'(by lia)) (i:=i) (by simp);rw[qA (by lia)] at e2;refine⟨q,by rw[<- e];exact e3,?_⟩;rw[<- e];show H q=some (.tup (dD rs[i]));rw[nI e2];exact e4
 refine⟨by rw[bw,<- hq,wE,wE,wE],λj r e=>?_⟩;unfold aJ at e;rw[<- hq,List.map_map,wS] at e;cases e5:qs[j]? with
 | none=>rw[e5] at e;cases e
 | some x =>
  rw[e5] at e;cases e;obtain⟨q,e6,e7⟩:=each x (yT e5);exact⟨q,by rw[List.map_map,wS,e5];show some x.2=_;rw[e6],e7⟩
def Asc.lt{n:Nat}{rs:List Rw}(h:Asc rs)(g:∀r∈rs,GoodR n r):rs.Pairwise λr s=>r.st<s.st:=by
 refine List.Pairwise.imp_of_mem ?_ h;intro a b ha hb hab;have:=(g a ha).sz
 lia
def adO:R2:=λx y H Q=>∃c j,x=.str ⟨#[c]⟩/\y=.str j/\Q (.bl (decide (c∈j.cps.toList))) H
section
variable{X:Cx}{K:W.Frag}{H:Hp}{Q:VK}{z:Str}{cs:List Nat}{c:Nat}{t0 te:TE}{nt:Nat}{fr:List Nat}{g:TG}{cc:TT}{σ fvs:St}{p f l:Addr}{bs:xE}{ys:List V}{rs:List Rw}
def R6:OpR X (compareOp .In) adO:=Hy
instance ahh:Go (adO (.str (tx [c])) (.str z) H Q) (Q (.bl (decide (c∈z.cps.toList))) H):=⟨λk=>⟨c,z,rfl,rfl,k⟩⟩
instance afA:Go (uH K [.str z,.ty "str"] H Q) (Q (.bl true) H):=⟨λk=>w_is (dj.str (K:=K) (H:=H) z) (Qu (dj.str (K:=K) (H:=H) z)) k⟩
instance afB:Go (Dw K [.str (tx cs)] H Q) (Sd (cs.length<=1000) (Q (.int cs.length) H)):=⟨λs=>Z4 (by rw[ju];exact bN (by have:=s.1;lia)) (by rw[ju];exact s.2)⟩
instance adP:Go (m_ (acN t0) nt fr g cc te σ H Q) (t0 σ H λx H1=>∃z,x=.str z/\cF (Its z) nt fr g cc te σ H1 Q):=⟨id⟩
instance ab7:Go (∃z',V.str z=.str z'/\cF (Its z') nt fr g cc te σ H Q) (cF (Its z) nt fr g cc te σ H Q):=⟨λk=>⟨z,rfl,k⟩⟩
def aaA{F:Nat->V}(hz:cs.length<=1000)(hf:(fr.map λi=>(σ[i]?).getD none)=fvs)(turn:∀(c:Nat)(H':Hp)(R:VK),c∈cs->Same H H'->(∀H2,Same H' H2->R (F c) H2)->te (some (.str (tx [c]))::fvs) H' R)
  (k:∀p H',New H H' p (.lst (cs.map F))->Q (.ref p) H'):cF (Its (tx cs)) 1 fr (aU 0) gQ te σ H Q:=by
 have e0:nU (tx cs)=cs.map λc=>V.str (tx [c]):=by
  unfold nU;rw[RZ]
  rfl
 refine comp_map (P:=λi y=>∃c,cs[i]?=some c/\y=F c) (items_str (z:=tx cs)) (by rw[e0,wE];lia) hf (λ_ _=>trivial) (λi v H' R hv s kk=>?_) λp H' ys n hl hP=>k p H' ?_
 ·rw[e0,wS] at hv;cases e:cs[i]? with
  | none=>rw[e] at hv;cases hv
  | some c =>
   rw[e] at hv;cases hv;exact turn c H' R (yT e) s λH2 s2=>kk _ _ s2 ⟨c,e,rfl⟩
 ·have e:ys=cs.map F:=by
   rw[e0,wE] at hl
   apply List.ext_getElem?
   intro i;rw[wS];by_cases hi:i<ys.length
   ·obtain⟨c,e1,e2⟩:=hP i ys[i] (by simp);rw[e1,qA hi,e2]
    rfl
   ·rw[mP (by lia),mP (by lia)]
    rfl
  rw[e] at n;exact n
instance ahi[h:SqA K H p (bs.map V.bl)]:Go (∃(p':Addr)(bs':xE),[V.ref p]=[.ref p']/\SqL K H p' (bs'.map V.bl)/\Q (.bl (bs'.all id)) H) (Q (.bl (bs.all id)) H):=⟨λk=>⟨p,bs,rfl,h.e,k⟩⟩
instance adQ{H0:Hp}{M:List Addr}{L:List (Addr×HO)}{I:List Im}[F:SH H0 M H L I][h:SqA K H l ys][t:TpA H ys (aJ rs)][m:aaz I f]:Go (Iu K [.ref l] (.ref f) H Q) (Sd (rs.length<64) (∀D zs H',New H H' D (.lst zs)->lJ (rs.map λr=>((r.st:Nat):Int)) ys zs->Q (.ref D) H')):=⟨λs=>by
 have hl:ys.length=rs.length:=by rw[t.e.1,bw]
 refine⟨l,f,ys,rs.map λr=>((r.st:Nat):Int),rfl,rfl,F.im _ m.m,h.e,by rw[wE,hl],by rw[hl];exact s.1,λi v k hv hk=>?_,s.2⟩;obtain⟨r,q,e1,e2,e3⟩:=dh t.e hv;rw[wS,e1] at hk;cases hk;exact⟨q,_,e2,e3,rfl⟩⟩
instance adR{H0:Hp}{M:List Addr}{L:List (Addr×HO)}{I:List Im}{Z:Addr->Hp->Prop}[F:SH H0 M H L I]:Go (∀p ys H',New H H' p (.lst ys)->aD H' ys (aJ rs)->Z p H') (∀H' p ys,ys.length=rs.length->SH H0 M H' ((p,.lst ys)::L) (.tps ys (aJ rs)::I)->Z p H'):=⟨λk p ys H' n t=>k H' p ys (by rw[t.1,bw]) (F.newR n t)⟩
end
end L2
namespace L2
open PySem PySem.Spec PyProof.Rows
def Itv(K:W.Frag)(a:Addr)(xs:List V):It :=
 ⟨λi H=>SqL K H a xs/\i<xs.length,λi H x H'=>H'=H/\xs[xs.length-1-i]?=some x,λi H=>SqL K H a xs/\xs.length<=i⟩
def R7{P:Program}{w:World}{K:W.Frag}{tg:Expr}(a it:Addr)(xs:List V):Turn P w K tg (Itv K a xs) [it] it (λi h=>i<=xs.length/\h.IsRevIter it a ((xs.length:Int)-1-(i:Nat))) where
 mem:=by simp
 obj:=λi h st b hb=>by
  have e:b=it:=by simpa using hb
  subst e;obtain⟨_,o,e,c,d⟩:=st;exact⟨o,e,λv z=>by rw[d] at z;cases z⟩
 keep:=λi h h' st k=>⟨st.1,st.2.at λo e=>k it (by simp) o e⟩
 item:=by
  intro X hP hw hK hc i pins s σ H E I hf st hg;subst hP hw hK;obtain⟨hq,hlt⟩:=hg;obtain⟨its,rv,p,hz⟩:=I.list hq;have hx:xs[xs.length-1-i]?=some (xs[xs.length-1-i]'(by lia)):=by simp
  generalize xs[xs.length-1-i]'(by lia)=x at hx
  obtain⟨u,hu,ru⟩:=rv.get hx;obtain⟨f0,f1,f2,f3,f4,f5⟩:=hf it (by simp);have hit:=st.2;rw[show (xs.length:Int)-1-(i:Nat)=((xs.length-1-i:Nat):Int) by lia] at hit;refine wpAny_pyNext_rev_item hit p.isList (x:=u) (by simpa using hu) λh' st' sb=>?_
  rw[show ((xs.length-1-i:Nat):Int)-1=(xs.length:Int)-1-((i+1:Nat):Int) by lia] at st';have I1:Inv X pins σ H { s with heap:=h' }:=I.turned (t':=s.toks) (λb o hb e=>(sb.2 b hb).trans e) f0 f1 f3 f4 f5
  obtain⟨o,e,c,d⟩:=id st';exact⟨u,rfl,CV (s:={ s with heap:=h' }) e c d (by decide) ⟨x,H,I1,ru,⟨rfl,hx⟩,⟨hlt,st'⟩,λb hb=>(hf b hb).1⟩⟩
 done:=by
  intro X hP hw hK hc i pins s σ H E I hf st hg;subst hP hw hK;obtain⟨f0,f1,f2,f3,f4,f5⟩:=hf it (by simp);have hit:=st.2;have hle:xs.length<=i:=hg.2;rw[show (xs.length:Int)-1-(i:Nat)=-1 by have:=st.1;lia] at hit;exact wpAny_pyNext_rev_end (I.ok.hd hc) hit λh' eb=>⟨rfl,I.turned (t':=s.toks) (λb o hb e=>eb b o hb e) f0 f1 f3 f4 f5⟩
 self:=λ_ _ _ _ _ st h=>wpAny_pyIter_revIter st.2 h
def aaB(K:W.Frag)(ta:TA):TI:=λσ H R=>ta σ H λvs H1=>∃a xs,vs=[.ref a]/\SqL K H1 a xs/\R (Itv K a xs) H1
def R8{X:Cx}{tg a:Expr}{ta:TA}{p pos:Pos}(hg:Gl X "reversed")(hm:X.mg "reversed" = none)(ha:PA X [a] ta)(hs:starEach [a] X.env=[(false,eval a X.env)]:=by rfl) :
  PI X tg (.Call (.Name "reversed" p) [a] [] pos) (aaB X.K ta):=by
 intro pins s σ H R I h;refine Call_ (iH I hg hm boot_reversed (PyProof.Rows.callWith_type1 (thn (ha pos pins s σ H _ I h) λus s1 ⟨vs,H1,I1,r1,q1⟩=>?_) hs rfl));obtain⟨l,xs,e,hq,q⟩:=q1;subst e;obtain⟨u,rfl,r⟩:=vals1 r1;cases r;obtain⟨its,rv,pl,hz⟩:=I1.list hq;have hlen:its.toArray.size=xs.length:=by rw[nK];exact rv.length.symm
 refine call_reversed_list pl.isList ?_;have hit:(s1.heap.push (revObj l ((its.toArray.size:Int)-1))).IsRevIter s1.heap.objs.size l ((xs.length:Int)-1-((0:Nat):Int)):=⟨_,oP _ rfl,rfl,by rw[hlen,show (xs.length:Int)-1-((0:Nat):Int)=(xs.length:Int)-1 by lia];rfl⟩;refine wpAny_pyIter_revIter hit ?_;refine⟨s1.heap.objs.size,[s1.heap.objs.size],_,Itv X.K l xs,H1,rfl,I1.kept (t':=s1.toks) λb o e=>uB _ e,R7 l _ xs,⟨Nat.zero_le _,hit⟩,λb hb=>?_,q⟩;have e:b=s1.heap.objs.size:=by simpa using hb
 subst e;exact I1.CT (uC _) (I1.hok.fresh (uC _))
section
variable{K:W.Frag}{g:TG}{tb:TS}{D:Ends}{σ:St}{H:Hp}{tr:TA}{a:Addr}{xs:List V}
def WT(K:PySem.W.Frag)(a:Addr)(xs:List V)(g:TG)(tb:TS)(D:Ends)(σ:St)(H:Hp):Prop:=∃W:Nat->Nat->St->Hp->Prop,(∃m,W 0 m σ H)/\∀i m σ H,W i m σ H ->
      ((Itv K a xs).stop i H/\D.nx σ H)\/((Itv K a xs).go i H/\∃N:St->Hp->Prop,(∀σ' H',N σ' H'->∃m',m'<m/\W (i+1) m' σ' H')/\∀x H',(Itv K a xs).yld i H x H'->g x σ H' λσ2 H2=>tb { D with nx:=N,ct:=N,bk:=D.nx } σ2 H2)
def WW(Pv:Nat->St->Hp->Prop)(h0:Pv 0 σ H)(hl:∀i σ H,i<=xs.length->Pv i σ H->SqL K H a xs)
  (hs:∀i x σ H,i<xs.length->xs[xs.length-1-i]?=some x->Pv i σ H->g x σ H λσ2 H2=>tb { D with nx:=Pv (i+1),ct:=Pv (i+1),bk:=D.nx } σ2 H2) (hd:∀σ H,Pv xs.length σ H->D.nx σ H):WT K a xs g tb D σ H:=by
 refine⟨λi m σ H=>m=xs.length-i/\i<=xs.length/\Pv i σ H,⟨xs.length,by simp,Nat.zero_le _,h0⟩,?_⟩;rintro i m σ H ⟨rfl,hi,p⟩;have q:=hl i σ H hi p;by_cases hlt:i<xs.length
 ·refine .inr ⟨⟨q,hlt⟩,Pv (i+1),λσ' H' p'=>⟨xs.length-(i+1),by lia,rfl,hlt,p'⟩,λx H' y=>?_⟩;obtain⟨rfl,hv⟩:=y;exact hs i x σ H' hlt hv p
 ·have e:i=xs.length:=by lia
  subst e;exact .inl ⟨⟨q,uC _⟩,hd σ H p⟩
instance afC:Go (wX (aaB K tr) g tb D σ H) (tr σ H λvs H1=>∃a xs,vs=[.ref a]/\SqL K H1 a xs/\WT K a xs g tb D σ H1):=⟨id⟩
instance ahj[h:SqA K H a xs]:Go (∃a' xs',[V.ref a]=[.ref a']/\SqL K H a' xs'/\WT K a' xs' g tb D σ H) (WT K a xs g tb D σ H):=⟨λk=>⟨a,xs,rfl,h.e,k⟩⟩
end
end L2
namespace L2
open PySem PySem.W PySem.Spec PyProof.Rows
section
variable{n:Nat}{rk:Nat->Int}
abbrev Kk(rk:Nat->Int)(p:Array Nat)(k:Nat):Int:=rk (p.getD k 0)
def Pp(n:Nat)(p:Array Nat):Prop:=p.Perm (List.range n).toArray
theorem Pp.size{p:Array Nat}(h:Pp n p):p.size=n:=by
 have:=h.size_eq;simpa using this
def Pp.ne{p:Array Nat}(h:Pp n p){a b:Nat}(ha:a<n)(hb:b<n)(hab:a≠b):p.getD a 0≠p.getD b 0:=by
 have hs:=h.size;have e:∀k (hk:k<n),p.getD k 0=p.toList[k]'(by simpa[hs] using hk):=λk hk=>by
  rw[Array.getD_eq_getD_getElem?,Array.getElem?_eq_getElem (by lia)]
  rfl
 have nd:p.toList.Nodup:=(Array.perm_iff_toList_perm.mp h).nodup_iff.mpr (by simpa using List.nodup_range);rw[e a ha,e b hb];intro z;exact hab ((List.getElem_inj nd).mp z)
end
end L2
namespace L2
open PySem PySem.W PySem.Calls PySem.Spec PyProof.Rows
end L2
namespace L2
open PySem PySem.Spec PyProof.Rows PySem.SeqAt
section
variable{K:W.Frag}{H:Hp}{l:Addr}
variable{σ:St}
variable{R:St->Hp->Prop}
def aaC{n i0 i1 i2:Nat}{a b d:V}(hn:n=3)(hp:SqT K H l [a,b,d])(h:aU i0 a σ H λσ1 H1=>aU i1 b σ1 H1 λσ2 H2=>aU i2 d σ2 H2 R):o_ K n (cJ (aU i0) (cJ (aU i1) (cJ (aU i2) qO))) (.ref l) σ H R:=by
 subst hn;exact⟨l,_,rfl,hp,rfl,_,_,rfl,_,_,rfl,_,_,rfl,rfl,h⟩
instance afD{n i0 i1 i2:Nat}{a b d:V}[h:SqB K H l [a,b,d]]:Go (o_ K n (cJ (aU i0) (cJ (aU i1) (cJ (aU i2) qO))) (.ref l) σ H R) (Sd (n=3) (aU i0 a σ H λσ1 H1=>aU i1 b σ1 H1 λσ2 H2=>aU i2 d σ2 H2 R)):=⟨λs=>aaC s.1 h.e s.2⟩
end
end L2
namespace L2
open PySem PySem.W PySem.Spec PyProof.Rows
section
variable{CX:CXT}{P:Program}{w:World}{K:W.Frag}{mg:xC}{base:Heap}{k:Nat}{x:Str}{ps:List Str}{sp:Sp}{ds:xD}
def KD(K:W.Frag)(mg:xC)(x:Str)(st:Stmt)(ds:xD):Prop :=
 ∃(f d:Addr) (oc:Value) (od:xI) (kV doc pm:Value) (an:xI) (cdv ct:Value) (osl:Array (Option Value)) (o:Obj) (n:Nat),
  K.lookup f=some ⟨oc,od,.func (W.fnOf x x (b_ st) (bI st) (aC st) (.ref d) kV doc pm an cdv ct),osl⟩/\W.codeIn K cdv x=true/\W.keepIn K (.ref f)=true/\mg x=some (.ref f)/\K.lookup d=some o/\o.data=.seq ds.toArray n
structure WX(P:Program)(w:World)(K:W.Frag)(mg:xC)(base:Heap)(CX:CXT)(k:Nat)(x:Str)(ps:List Str)(sp:Sp)(ds:xD):Prop where
 ex:∃(f:Addr)(fd:FuncData),iZ P w K mg base CX k f fd ps sp/\mg x=some (.ref f)/\W.keepIn K (.ref f)=true/\Binds K fd ps []/\Binds K fd ps ds
def WX.all(D:WX P w K mg base CX k x ps sp ds):Def P w K mg base CX k x ps sp :=
 let ⟨f,fd,F,a,b,c,_⟩:=D.ex
 ⟨f,fd,F,a,b,c⟩
def WY{st:Stmt}{N:List Str}(h:KD K mg x st ds)(S:aL N ps (aC st))(len:∀vs H Q E,sp vs H Q E->vs.length=ps.length)
  (hb:∀(d:Addr)(kV doc pm:Value)(an:xI)(cdv ct:Value)(us:xD),us.length=ps.length->∃c:Option (Array Value)->Sem (List (Str×Value)),bindArgs (W.fnOf x x (b_ st) (bI st) (aC st) (.ref d) kV doc pm an cdv ct) ⟨us,[]⟩=seqItems? (.ref d) >>= c/\c (some ds.toArray)=pure (ps.zip us))
  (hd:∀(d:Addr)(kV doc pm:Value)(an:xI)(cdv ct:Value)(us:xD),(us++ds).length=ps.length->∃c:Option (Array Value)->Sem (List (Str×Value)),bindArgs (W.fnOf x x (b_ st) (bI st) (aC st) (.ref d) kV doc pm an cdv ct) ⟨us,[]⟩=seqItems? (.ref d) >>= c/\c (some ds.toArray)=pure (ps.zip (us++ds)))
  (hbody:∀(f:Addr)(cdv:Value)(A:Around)(outer:List Env)(s:Shared)(H:Hp)(vs:List V)(Q:VK)(E:XK),Room k (A.deeper (envOfC x (aC st) s.heap.objs.size f cdv))->sp vs H Q E ->
   ∃t,PSs (gP CX P w K mg base N x (aC st) f cdv A outer s H E).nox (bI st) t/\t { nx:=λ_ H'=>Q .non H',rt:=Q } (start N vs) H):WX P w K mg base CX (k+1) x ps sp ds:=by
 obtain⟨f,d,oc,od,kV,doc,pm,an,cdv,ct,osl,o,n,lk,hcd,kp,hm,ld,hdt⟩:=h;refine⟨f,W.fnOf x x (b_ st) (bI st) (aC st) (.ref d) kV doc pm an cdv ct,?_,hm,kp,λs us kin hl=>?_,λs us kin hl=>?_⟩
 ·refine pC lk hcd S len λA outer s H vs Q E hr hsp=>?_
  obtain⟨t,h,q⟩:=hbody f cdv A outer s H vs Q E hr hsp;exact⟨t,h.nox,q⟩
 ·rw[mE] at hl ⊢;obtain⟨c,h1,h2⟩:=hb d kV doc pm an cdv ct us hl;exact BindsTo.of_defaults rfl (kin _ _ ld) hdt h1 h2
 ·obtain⟨c,h1,h2⟩:=hd d kV doc pm an cdv ct us hl;exact BindsTo.of_defaults rfl (kin _ _ ld) hdt h1 h2
end
def cval:Expr->Option V
 | .Constant (.str x) _ _=>some (.str x)
 | .Constant (.int i) _ _=>some (.int i)
 | .Constant (.bool b) _ _=>some (.bl b)
 | .Constant .none _ _=>some .non
 | _=>none
def R9:List Expr->Option (List V)
 | []=>some []
 | e::es=>match cval e,R9 es with
  | some v,some vs=>some (v::vs)
  | _,_=>none
def R_(vs:List V):TA:=λ_ H R=>R vs H
section
variable{X:Cx}
def Bj{x:Str}{cs:List Nat}{j pos}(h:x=tx cs):PE X (.Constant (.str x) j pos) (tC (.str (tx cs))):=by
 subst h;exact gW
theorem KH:∀{es:List Expr} {vs:List V},R9 es=some vs->PA X es (R_ vs)
 | [],vs,h=>by
  cases h;exact ao
 | e::es,vs,h=>by
  unfold R9 at h;split at h
  ·rename_i v vs' e1 e2;cases h;have ih:=KH e2;unfold cval at e1;split at e1
   ·cases e1;exact aj (te:=tC _) gW ih
   ·cases e1;exact aj (te:=tC _) au ih
   ·cases e1;exact aj (te:=tC _) iG ih
   ·cases e1;exact aj (te:=tC _) fM ih
   ·cases e1
  ·cases h
end
instance afE{σ:St}{H:Hp}{vs:List V}{R:List V->Hp->Prop}:Go (R_ vs σ H R) (R vs H):=⟨λh=>h⟩
def adS(c:Nat):List (List Nat)->List Nat
 | []=>[]
 | [p]=>p
 | p::q::r=>p++c::adS c (q::r)
def Iw(c:Nat):List Nat->List (List Nat)
 | []=>[[]]
 | x::r=>if x=c then []::Iw c r else match Iw c r with
  | []=>[[x]]
  | p::ps=>(x::p)::ps
section
def dg(n:Nat):List Nat:=(Nat.toDigits 10 n).map Char.toNat
def aaD(n:Nat):Z_ (n:Int)=tx (dg n):=by
 have h:∀z:Str,z=tx z.cps.toList:=λz=>by cases z;simp[tx]
 rw[h (Z_ (n:Int)),W.KIN.signs_num]
 rfl
end
end L2
namespace L2
open PySem PySem.Spec PyProof.Rows PySem.SeqAt
class ajD(c:Nat)(cs:List Nat)(vs:outParam (List V)):Prop where
 e:(Iw c cs).map (λd=>V.str (tx d))=vs
class aaE(xs:List V)(lo hi:Option Int)(ys:outParam (List V)):Prop where
 e:eG xs lo hi=ys
class TxL(xs:List V)(ps:outParam (List (List Nat))):Prop where
 e:xs=ps.map λd=>V.str (tx d)
section
variable{K:W.Frag}{H:Hp}{Q:VK}{n:Nat}{p l:Addr}{xs ys:List V}{lo hi:Option Int}
instance afF:Go (Yw [.int (n:Nat)] H Q) (Sd (n<10 ^ 10) (Q (.str (tx (dg n))) H)):=⟨λk=>⟨(n:Int),rfl,by
  have h:Bd 1000 (n:Int):=by
   have:=k.1
   constructor <;> lia
  exact Nz h,by rw[aaD];exact k.2⟩⟩
instance ahk[h:SqA K H l xs][e:aaE xs lo hi ys]:Go (Ws K (.ref l) lo hi H Q) (∀p H',New H H' p (.lst ys)->Q (.ref p) H'):=⟨λk=>RB h.e (by rw[e.e];exact k)⟩
instance afG:Go (Z5 (.ref p) .non H Q) (Q (.bl false) H):=⟨λk=>⟨rfl,k⟩⟩
instance afH:Go (Z5 .non .non H Q) (Q (.bl true) H):=⟨λk=>⟨rfl,k⟩⟩
end
def Sg{xs:List V}{i:Nat}:eG xs (some (i:Int)) none=xs.drop i:=by
 unfold eG;rw[HT.mJ];show (xs.drop (min i xs.length)).take (xs.length-min i xs.length)=_;by_cases h:i<=xs.length
 ·rw[show min i xs.length=i by lia,nS (by rw[zzA];lia)]
 ·rw[List.drop_of_length_le (by lia),List.drop_of_length_le (by lia)];simp
end L2
namespace L2
open PySem PySem.W PySem.Calls PySem.Spec PyProof.Rows
end L2
namespace L2
open PySem PySem.Spec PyProof.Rows PySem.SeqAt
def Sh{CX:CXT}{P:Program}{w:World}{K:W.Frag}{mg:xC}{base:Heap}{N:List Str}{qual:Str}{scope:Scope}{f:Addr}{cd:Value}{A:Around}{outer:List Env}{s:Shared}{H:Hp}{E:XK}:(gP CX P w K mg base N qual scope f cd A outer s H E).s₀=s:=rfl
def tEX(th:THd)(D:Ends):St->XK:=λσ cv dx H=>∃C,cv=.ref C/\∀a,H a=none->th D C a dx σ (upd H a (Ba a C dx))
class ExA(H:Hp)(a:Addr)(C:outParam Addr)(fs:outParam (List (Str×V))):Prop where
 e:Nt H a C fs
class ExM(K:W.Frag)(C d:Addr)(b:outParam Bool):Prop where
 e:W.exmOne K (.ref C) (.ref d)=some b
def KJ(n:Nat)(C:Addr)(H0:Hp)(E:XK)(f:Str)(vs:List V)(H1:Hp):Prop:=∃v,vs=[v]/\∀z H',n<=z->H1 z=none->Same H1 H'->ExcAt H' z C [(f,v)]->∃a dx,V.ref z=.ref a/\n<=a/\H0 a=none/\H' a=some (jq a C dx)/\E (.ref C) dx (del H' a)
def KN(n:Nat)(C:Addr)(H0:Hp)(E:XK)(f g:Str)(vs:List V)(H1:Hp):Prop:=∃v y,vs=[v,y]/\∀z H',n<=z->H1 z=none->Same H1 H'->ExcAt H' z C (fZ g y [(f,v)])->∃a dx,V.ref z=.ref a/\n<=a/\H0 a=none/\H' a=some (jq a C dx)/\E (.ref C) dx (del H' a)
section
variable{K:W.Frag}{H H0:Hp}{M:List Addr}{L:List (Addr×HO)}{I:List Im}{Q:VK}{σ:St}{D:Ends}{th rest:THd}{tbE:(St->XK)->TS}{t:TA}{sp:Sp}{EX:St->XK}{E:XK}{C d a:Addr}{dx:xI}{fs:List (Str×V)}{f g:Str}{v y:V}{n:Nat}{ts:Addr->TS}
instance afI:Go (acU (λ_ EX=>tbE EX) th D σ H) (tbE (tEX th D) D σ H):=⟨λh _=>h⟩
instance ab8[F:SH H0 M H L I]:Go (∀dx H',Same H H'->H' dx=some (jB dx fs)->tEX th D σ (.ref C) (some dx) H') (∀(H':Hp)(a dx:Addr),SH H0 M H' L I->Nt H' a C fs->th D C a (some dx) σ H'):=⟨λk dx H' s e=>⟨C,rfl,λa ha=>k _ a dx ((F.same s).same (Same.new ha)) (Nt.mk e ha)⟩⟩
instance ab9:Go (QM EX sp t σ H Q) (t σ H λvs H1=>sp vs H1 Q (EX σ)):=⟨id⟩
instance aaF:Go (HN C H0 n E (Yk n C f t) D σ H) (t σ H λvs H1=>KJ n C H0 E f vs H1):=⟨λh=>h⟩
instance aaG:Go (HN C H0 n E (Yl n C f g t) D σ H) (t σ H λvs H1=>KN n C H0 E f g vs H1):=⟨λh=>h⟩
instance ahl[F:SH H0 [] H L I]:Go (KJ n C H0 E f [v] H) (∀dx H2,Same H H2->H2 dx=some (jB dx [(f,v)])->E (.ref C) (some dx) H2):=⟨λk=>⟨v,rfl,λz H' hn hz s e=>Dr (by simp) hn hz (F.sm.free hz) s e k⟩⟩
instance ahm[F:SH H0 [] H L I]:Go (KN n C H0 E f g [v,y] H) (Sd (f≠g) (∀dx H2,Same H H2->H2 dx=some (jB dx [(f,v),(g,y)])->E (.ref C) (some dx) H2)):=⟨λk=>⟨v,y,rfl,λz H' hn hz s e=>Dr (by simp) hn hz (F.sm.free hz) s (by
  have e2:fZ g y [(f,v)]=[(f,v),(g,y)]:=by simp[fZ,k.1]
  rw[<- e2];exact e) k.2⟩⟩
class NeS(f g:Str):Prop where
 e:f≠g
instance afJ[e:ExM K C d true]:Go (hPl K d ts rest D C a dx σ H) (ts a D σ H):=⟨λh=>⟨true,e.e,by rw[zS rfl];exact h⟩⟩
end
end L2
namespace L2
open PySem PySem.W PySem.Spec PyProof.Rows
end L2
namespace L2
open PySem PySem.Spec PyProof.Rows
def ajE(d:Int)(ns:List Int):Int:=ns.foldl min d
section
def W0{P:Program}{w:World}{A:Around}{E:xB}{s:Shared}{i j:Int}{t u:Tok}{Q:xB}(h:Q (.bool (decide (i<j))) s):wpAny (model P w) A (richCompare .Lt (.int i t) (.int j u)) Q E s:=lt_int h
end
end L2
namespace L2
open PySem PySem.W PySem.Calls PySem.Spec PyProof.Rows
end L2
namespace L2
open PySem PySem.Spec PyProof.Rows PySem.SeqAt
class TyA(K:W.Frag)(H:Hp)(v:V)(n:outParam String):Prop where
 e:dj K H v (.type n)
class N8(K:W.Frag)(H0:Hp)(M:List Addr)(v:V)(n:outParam String):Prop where
 e:dj K H0 v (.type n)
 n:∀a,v=.ref a->a ∉ M
theorem dj.kept{K:W.Frag}{H H':Hp}{v:V}{t:Value}(h:dj K H v t)(k:∀a u,v=.ref a->H a=some u->H' a=some u):dj K H' v t:=by
 cases h with
 | non=>exact .non
 | bl b=>exact .bl b
 | int i=>exact .int i
 | str x=>exact .str x
 | flt x=>exact .flt x
 | lst e=>exact .lst (k _ _ rfl e)
 | frz e=>exact .frz (k _ _ rfl e)
 | tup e=>exact .tup (k _ _ rfl e)
 | dK e=>exact .dK (k _ _ rfl e)
 | dT e=>exact .dT (k _ _ rfl e)
 | ins e a b c d f=>exact .ins (k _ _ rfl e) a b c d f
section
variable{K:W.Frag}{H0 H:Hp}{M:List Addr}{L:List (Addr×HO)}{I:List Im}{v:V}{n:String}{a:Addr}{lo hi:Int}{Q:VK}{E:XK}
instance (priority:=low) ahn [F:SH H0 M H L I] [h:N8 K H0 M v n]:TyA K H v n:=⟨h.e.kept λa u e hu=>F.fr a u (h.n a e) hu⟩
instance (priority:=low) aho [t:TyA K H v n]:Go (uH K [v,.ty "str"] H Q) (Q (.bl (isS v)) H):=⟨λk=>w_is t.e (Qu t.e) k⟩
instance (priority:=low) ahp [t:TyA K H v n]:Go (uH K [v,.ty "list"] H Q) (Q (.bl (n == "list")) H):=⟨λk=>w_is t.e (JW t.e) k⟩
instance (priority:=low) ab_ [t:TyA K H v n]:Go (lE K [v] H Q E) (Q (.bl (isW v)) H):=⟨Bg t.e⟩
instance (priority:=low) aaH [t:TyA K H v n]:Go (jV K [v,.int lo,.int hi] H Q E) (Q (.bl (inB v lo hi)) H):=⟨DX t.e⟩
end
class IdV(v:V):Prop where
 e:idV v=true
class IdL(xs:List V):Prop where
 e:xs.all idV=true
def aaI(x y:V)(b:Bool):Prop:=(x=y/\idV x=true/\b=true)\/∃s t,x=.str s/\y=.str t/\b=(s==t)
def aaI.at{A:Around}{s:Shared}{x y:V}{u v:Value}{b:Bool}(h:aaI x y b)(ru:RelV x u)(rv:RelV y v):EqAt A s u v b:=by
 rcases h with⟨rfl,hi,rfl⟩|⟨p,q,rfl,rfl,rfl⟩
 ·exact yx hi ru rv
 ·obtain⟨t,rfl⟩:=ru;obtain⟨t',rfl⟩:=rv;exact EqAt.str_str (A:=A) (s:=s) p t q t'
section
variable{X:Cx}
def aaJ{A:Around}{s:Shared}{xs ys:List V}{us vs:xD}{e:Nat->Bool}(ru:Vals xs us)(rv:Vals ys vs)(h:∀j a b,xs[j]?=some a->ys[j]?=some b->aaI a b (e j))(j:Nat)(h1:j<us.toArray.size)(h2:j<vs.toArray.size):EqAt A s us.toArray[j] vs.toArray[j] (e j):=by
 have l1:j<us.length:=by simpa using h1
 have l2:j<vs.length:=by simpa using h2
 have l3:j<xs.length:=by rw[ru.length];exact l1
 have l4:j<ys.length:=by rw[rv.length];exact l2
 obtain⟨u,eu,qu⟩:=ru.get (show xs[j]?=some xs[j] by simp);obtain⟨v,ev,qv⟩:=rv.get (show ys[j]?=some ys[j] by simp);have z1:us.toArray[j]=u:=by
  have:us[j]?=some us[j]:=by simp[l1]
  rw[this] at eu;simpa using eu
 have z2:vs.toArray[j]=v:=by
  have:vs[j]?=some vs[j]:=by simp[l2]
  rw[this] at ev;simpa using ev
 rw[z1,z2];exact(h j _ _ (by simp) (by simp)).at qu qv
def ahq(K:W.Frag):R2:=λx y H Q=>∃p q xs,x=.ref p/\y=.ref q/\SqL K H p xs/\SqL K H q xs/\xs.all idV=true/\Q (.bl true) H
def aaK{k:Nat}(hr:Room k X.A):OpR X (compareOp .Eq) (ahq X.K):=by
 intro pins s σ H x y v u Q I rx ry h;obtain⟨p,q,xs,rfl,rfl,hp,hq,hf,qq⟩:=h;cases rx;cases ry;obtain⟨us,ru,pu,_⟩:=I.list hp;obtain⟨vs,rv,pw,_⟩:=I.list hq;have hsz:us.toArray.size=vs.toArray.size:=by simp[<- ru.length,<- rv.length]
 have b:=RcAt.lists (A:=X.A) (s:=s) (e:=λ_=>true) pu.isList pw.isList hsz (by have:=hr.un;lia) (λj h1 h2=>aaJ ru rv (e:=λ_=>true) (λj a b ha hb=>by
  rw[ha] at hb;cases hb;exact .inl ⟨rfl,List.all_eq_true.mp hf _ (yT ha),rfl⟩) j h1 h2)
 rw[show ((List.range us.toArray.size).all λ_=>true)=true by simp] at b;exact b X.prog X.w X.xe _ ⟨.bl _,H,I,rfl,qq⟩
end
end L2
namespace L2
open PySem PySem.W PySem.Spec PyProof.Rows PySem.SeqAt
section
variable{X:Cx}
def adT(K:W.Frag):R2:=λx y H Q=>∃p q xs,x=.ref p/\y=.ref q/\SqL K H p xs/\SqL K H q []/\Q (.bl (!decide (xs=[]))) H
def adU(K:W.Frag):R2:=λx y H Q=>∃p q xs,x=.ref p/\y=.ref q/\SqL K H p xs/\SqL K H q []/\Q (.bl (decide (xs=[]))) H
theorem aaL{k:Nat}(hr:Room k X.A):OpR X (compareOp .NotEq) (adT X.K):=by
 intro pins s σ H x y v u Q I rx ry h;obtain⟨p,q,xs,rfl,rfl,hp,hq,qq⟩:=h;cases xs with
 | nil=>exact Z8 hr pins s σ H _ _ v u Q I rx ry ⟨p,q,[],rfl,rfl,hp,hq,rfl,qq⟩
 | cons a t =>
  cases rx;cases ry;obtain⟨us,ru,pu,_⟩:=I.list hp;obtain⟨vs,rv,pw,_⟩:=I.list hq;have h1:=ru.length;have h2:=rv.length;have b:=RcNeAt.lists_lengths (A:=X.A) (s:=s) pu.isList pw.isList (by simp[<- h1,<- h2]) (by have:=hr.un;lia);exact b X.prog X.w X.xe _ ⟨.bl _,H,I,rfl,qq⟩
theorem Sq{k:Nat}(hr:Room k X.A):OpR X (compareOp .Eq) (adU X.K):=by
 intro pins s σ H x y v u Q I rx ry h;obtain⟨p,q,xs,rfl,rfl,hp,hq,qq⟩:=h;cases xs with
 | nil=>exact aaK hr pins s σ H _ _ v u Q I rx ry ⟨p,q,[],rfl,rfl,hp,hq,rfl,qq⟩
 | cons a t =>
  cases rx;cases ry;obtain⟨us,ru,pu,_⟩:=I.list hp;obtain⟨vs,rv,pw,_⟩:=I.list hq;have h1:=ru.length;have h2:=rv.length;have b:=RcAt.lists_lengths (A:=X.A) (s:=s) pu.isList pw.isList (by simp[<- h1,<- h2]) (by have:=hr.un;lia);exact b X.prog X.w X.xe _ ⟨.bl _,H,I,rfl,qq⟩
end
section
variable{K:W.Frag}{H:Hp}{Q:VK}{p q:Addr}{xs:List V}{cs:List Nat}{nms:List (List Nat)}{b:Bool}{a:Nat}
instance afK[h:SqA K H p xs][h2:Hat H q (.lst [])]:Go (adT K (.ref p) (.ref q) H Q) (Q (.bl (!decide (xs=[]))) H):=⟨λk=>⟨p,q,xs,rfl,rfl,h.e,SqL.of h2.e,k⟩⟩
instance afL[h:SqA K H p xs][h2:Hat H q (.lst [])]:Go (adU K (.ref p) (.ref q) H Q) (Q (.bl (decide (xs=[]))) H):=⟨λk=>⟨p,q,xs,rfl,rfl,h.e,SqL.of h2.e,k⟩⟩
theorem KQ(a:List Nat)(nms:List (List Nat)):inV (.str (tx a)) (nms.map λcs=>V.str (tx cs))=decide (a∈nms):=by
 unfold inV
 induction nms with
 | nil=>simp
 | cons b t ih =>
  rw[oS,List.any_cons,ih];have e:eqV (.str (tx b)) (.str (tx a))=decide (a=b):=by
   by_cases h:a=b
   ·subst h;simp[eqV]
   ·rw[gS h];have:tx b≠tx a:=λz=>h (lK z).symm
    simp[eqV,this]
  rw[e];by_cases h:a=b <;> simp[h]
instance adV[h:SqA K H p (nms.map λcs=>V.str (tx cs))]:Go (rIn K false (.str (tx cs)) (.ref p) H Q) (Q (.bl (decide (cs∈nms))) H):=⟨λk=>⟨_,_,rfl,.inl h.e,rfl,List.all_eq_true.mpr (λz hz=>by obtain⟨b,_,rfl⟩:=vT.mp hz;rfl),by rw[yA (by decide),KQ];exact k⟩⟩
end
theorem Sb.refl:∀X:List (Addr×HO),Sb X X
 | []=>.nil
 | c::X=>.cons .head (Sb.refl X)
theorem Sb.skip{L' L:List (Addr×HO)}{c:Addr×HO}(h:Sb L' L):Sb L' (c::L):=by
 induction h with
 | nil=>exact .nil
 | cons p t ih=>exact .cons (.tail p) ih
instance (priority:=low) ajF {X:List (Addr×HO)}:SbC X X:=⟨Sb.refl X⟩
instance (priority:=low) ajG {X L:List (Addr×HO)} {c:Addr×HO} [h:SbC X L]:SbC X (c::L):=⟨h.s.skip⟩
def SH.perm{H0 H:Hp}{M:List Addr}{L L':List (Addr×HO)}{I:List Im}(F:SH H0 M H L I)(p:L'.Perm L):SH H0 M H L' I:=⟨F.fr,F.im,λc hc=>F.at' c (p.mem_iff.mp hc),(p.map _).nodup_iff.mpr F.nd,λc hc=>F.mu c (p.mem_iff.mp hc),λc hc=>F.ch c (p.mem_iff.mp hc)⟩
def SH.over{H0 H H':Hp}{M M2:List Addr}{A R L2:List (Addr×HO)}{I I2:List Im}(F:SH H0 M H (A++R) I)(G:SH H M2 H' L2 I2)(e:A.map (·.1)=M2):SH H0 M H' (L2++R) (I2++I):=by
 have nd:=F.nd;rw[List.map_append,e] at nd;obtain⟨nd1,nd2,nd3⟩:=List.nodup_append.mp nd;have inA:∀{b},b∈M2->∃c∈A,c.1=b:=λh=>by rw[<- e] at h;exact vT.mp h
 have st:Tst H H':=λq u tu hq=>by
  refine G.fr q u (λhm=>?_) hq;obtain⟨c,hc,rfl⟩:=inA hm;have h1:=F.at' c (mB _ hc);have h2:=F.mu c (mB _ hc);rw[hq] at h1;cases h1;rw[h2] at tu;cases tu
 have rn:∀{c},c∈R->c.1 ∉ M2:=λhc hm=>nd3 _ hm _ (vT.mpr ⟨_,hc,rfl⟩) rfl
 refine⟨λb u nb e0=>?_,λf hf=>?_,λc hc=>?_,?_,λc hc=>?_,λc hc=>?_⟩
 ·refine G.fr b u (λhm=>?_) (F.fr b u nb e0);obtain⟨c,hc,rfl⟩:=inA hm;rcases F.ch c (mB _ hc) with h|h
  ·exact nb h
  ·exact h _ u e0 rfl
 ·rcases wP.mp hf with hf|hf
  ·exact G.im f hf
  ·exact Im.stay st (F.im f hf)
 ·rcases wP.mp hc with hc|hc
  ·exact G.at' c hc
  ·exact G.fr _ _ (rn hc) (F.at' c (rS _ hc))
 ·rw[List.map_append];refine List.nodup_append.mpr ⟨G.nd,nd2,λa ha b hb=>?_⟩;obtain⟨c,hc,rfl⟩:=vT.mp ha;obtain⟨d,hd,rfl⟩:=vT.mp hb;rcases G.ch c hc with h|h
  ·exact λz=>rn hd (z▸h)
  ·exact λz=>h d.1 _ (F.at' d (rS _ hd)) z.symm
 ·rcases wP.mp hc with hc|hc
  ·exact G.mu c hc
  ·exact F.mu c (rS _ hc)
 ·rcases wP.mp hc with hc|hc
  ·rcases G.ch c hc with h|h
   ·obtain⟨d,hd,ed⟩:=inA h;rw[<- ed];exact F.ch d (mB _ hd)
   ·by_cases hm:c.1∈M
    ·exact .inl hm
    ·exact .inr λb u e0 z=>h b u (F.fr b u (by rw[z];exact hm) e0) z
  ·exact F.ch c (rS _ hc)
def SH.cut{H0 H:Hp}{M M2:List Addr}{A R:List (Addr×HO)}{I:List Im}(F:SH H0 M H (A++R) I)(e:A.map (·.1)=M2):SH H M2 H A []:=by
 have nd:=F.nd;rw[List.map_append] at nd;exact⟨λ_ _ _ h=>h,(λf hf=>by cases hf),λc hc=>F.at' c (mB _ hc),(List.nodup_append.mp nd).1,λc hc=>F.mu c (mB _ hc),λc hc=>.inl (by rw[<- e];exact vT.mpr ⟨c,hc,rfl⟩)⟩
section
variable{H:Hp}{Q:VK}
instance afM{σ:L2.St}:Go (Hx σ H Q) (∀p H',New H H' p (.dK [])->Q (.ref p) H'):=⟨Z9⟩
instance afN{H0:Hp}{M:List Addr}{L:List (Addr×HO)}{I:List Im}{Z:Addr->Hp->Prop}[F:SH H0 M H L I]:Go (∀p H',New H H' p (.dK [])->Z p H') (∀H' p,SH H0 M H' ((p,.dK [])::L) I->Z p H'):=⟨λk p H' n=>k H' p (F.aaf n rfl)⟩
end
section
variable{X:Cx}
def W2(K:W.Frag):R2:=λx y H Q=>∃s,x=.str s/\((Zx x y=true/\Q (.bl (decide (x=y))) H)\/∃p xs,y=.ref p/\(SqL K H p xs\/SqT K H p xs)/\Q (.bl false) H)
def aaM{k:Nat}(hr:Room k X.A):OpR X (compareOp .Eq) (W2 X.K):=by
 intro pins s σ H x y v u Q I rx ry h;obtain⟨z,rfl,h⟩:=h;rcases h with⟨h1,h2⟩|⟨p,xs,rfl,hp,q⟩
 ·exact dJ pins s σ H _ y v u Q I rx ry ⟨h1,h2⟩
 ·cases ry;obtain⟨t,rfl⟩:=rx;have hu:X.A.units<cLine:=by have:=hr.un;lia
  rcases hp with hp|hp
  ·obtain⟨us,ru,pu,_⟩:=I.list hp;exact RcAt.str_list (A:=X.A) (s:=s) z t pu.isList hu X.prog X.w X.xe _ ⟨.bl _,H,I,rfl,q⟩
  ·obtain⟨us,ru,pu,_⟩:=I.tuple hp;exact RcAt.str_tuple (A:=X.A) (s:=s) z t pu hu X.prog X.w X.xe _ ⟨.bl _,H,I,rfl,q⟩
def W4{K:W.Frag}{k:Nat}(hK:X.K=K)(hr:Room k X.A):OpR X (compareOp .Eq) (W2 K):=by
 subst hK;exact aaM hr
end
def Ss{r s:Rw}(h:dD r=dD s):r=s:=by
 have h:[V.str (tx r.nm),V.int (r.st:Nat),V.int (r.sz:Nat),V.int (r.pn:Nat)]=[V.str (tx s.nm),V.int (s.st:Nat),V.int (s.sz:Nat),V.int (s.pn:Nat)]:=h;simp only[List.cons.injEq,V.str.injEq,V.int.injEq,and_true] at h;obtain⟨h1,h2,h3,h4⟩:=h;have h1:=lK h1;cases r;cases s;simp only[Rw.mk.injEq];exact⟨h1,Int.ofNat.inj h2,Int.ofNat.inj h3,Int.ofNat.inj h4⟩
section
variable{K:W.Frag}{H:Hp}{Q:VK}{σ:St}{l:Addr}{xs:List V}{rs:List Rw}{fr:List Nat}{fvs:St}{c:TT}
theorem yI{H H':Hp}{p:V->Bool}{pr:Rw->Bool}(s:Same H H')(hp:∀q r,H q=some (.tup (dD r))->p (.ref q)=pr r):∀{xs:List V} {rs:List Rw},aD H xs (aJ rs)->aD H' (xs.filter p) (aJ (rs.filter pr))
 | [],[],_=>aD.nil
 | [],r::rs,h=>absurd h.1 (by simp[aJ])
 | x::xs,[],h=>absurd h.1 (by simp[aJ])
 | x::xs,r::rs,h=>by
  obtain⟨q,e1,e2⟩:=h.2 0 (dD r) rfl;have ht:aD H xs (aJ rs):=⟨by simpa[aJ] using h.1,λj w e=>h.2 (j+1) w (by simpa[aJ] using e)⟩;cases e1;have ih:=yI s hp ht;rw[List.filter_cons,List.filter_cons,hp q r e2];cases pr r with
  | false=>exact ih
  | true =>
   refine⟨by have:=ih.1;simpa[aJ] using this,λj w e=>?_⟩;cases j with
   | zero =>
    cases e;exact⟨q,rfl,s _ _ e2⟩
   | succ j=>exact ih.2 j w (by simpa[aJ] using e)
def ni{pr:Rw->Bool}(hq:H l=some (.lst xs))(tp:aD H xs (aJ rs))(hz:xs.length<=1000000)(hf:(fr.map λi=>(σ[i]?).getD none)=fvs)
  (turn:∀(q:Addr)(r:Rw)(H':Hp)(R:Bool->Hp->Prop),r∈rs->Same H H'->H' q=some (.tup (dD r))->(∀H2,Same H' H2->R (pr r) H2)->c (some (.ref q)::fvs) H' R)
  (k:∀l' ys H',New H H' l' (.lst ys)->aD H' ys (aJ (rs.filter pr))->ys.length<=xs.length->Q (.ref l') H'):cF (Itl K l) 1 fr (aU 0) c (cR 0) σ H Q:=by
 classical
 let p:V->Bool:=λv=>match v with|.ref q=>decide (∃r,H q=some (.tup (dD r))/\pr r=true)|_=>false
 have hp:∀q r,H q=some (.tup (dD r))->p (.ref q)=pr r:=λq r e=>by
  show decide (∃s,H q=some (.tup (dD s))/\pr s=true)=pr r;cases h:pr r with
  | true=>exact gX ⟨r,e,h⟩
  | false =>
   refine gS λ⟨s,e2,h2⟩=>?_
   rw[e] at e2;have:=Ss (HO.tup.inj (nI e2));rw[<- this,h] at h2;cases h2
 refine DY (p:=p) (SqL.of hq) hz hf (λv H' R hv s kk=>?_) λl' H' n=>k l' _ H' n (yI n.s hp tp) (List.length_filter_le _ _)
 obtain⟨i,hi,e⟩:=List.getElem_of_mem hv;obtain⟨r,q,e1,rfl,e2⟩:=dh tp (i:=i) (v:=v) (by rw[<- e];simp);exact turn q r H' R (yT e1) s (s _ _ e2) λH2 s2=>by rw[<- hp q r e2];exact kk H2 s2
end
inductive m5(H:Hp):V->Prop
 | flt {v:V} (h:v=.non\/(∃b,v=.bl b)\/(∃i,v=.int i)\/∃z,v=.str z):m5 H v
 | lst {q:Addr} {xs:List V} (e:H q=some (.lst xs)):m5 H (.ref q)
 | tup {q:Addr} {xs:List V} (e:H q=some (.tup xs)):m5 H (.ref q)
theorem m5.kept{H H':Hp}{v:V}(h:m5 H v)(k:∀a u,v=.ref a->H a=some u->H' a=some u):m5 H' v:=by
 cases h with
 | flt h=>exact .flt h
 | lst e=>exact .lst (k _ _ rfl e)
 | tup e=>exact .tup (k _ _ rfl e)
def m5.same{H H':Hp}{v:V}(h:m5 H v)(s:Same H H'):m5 H' v:=h.kept λa u _ e=>s a u e
theorem m5.ty{H:Hp}{v:V}(h:m5 H v)(K:W.Frag):∃n,dj K H v (.type n):=by
 cases h with
 | flt h =>
  rcases h with rfl|⟨b,rfl⟩|⟨i,rfl⟩|⟨z,rfl⟩
  ·exact⟨_,.non⟩
  ·exact⟨_,.bl b⟩
  ·exact⟨_,.int i⟩
  ·exact⟨_,.str z⟩
 | lst e=>exact⟨_,.lst e⟩
 | tup e=>exact⟨_,.tup e⟩
theorem W5{K:W.Frag}{H:Hp}{Q:VK}{z:Str}{v:V}(h:m5 H v)(k:Q (.bl (decide (V.str z=v))) H):W2 K (.str z) v H Q:=by
 refine⟨z,rfl,?_⟩;cases h with
 | flt h=>rcases h with rfl|⟨b,rfl⟩|⟨i,rfl⟩|⟨z,rfl⟩ <;> exact .inl ⟨rfl,k⟩
 | lst e=>exact .inr ⟨_,_,rfl,.inl (SqL.of e),k⟩
 | tup e=>exact .inr ⟨_,_,rfl,.inr (SqT.of e),k⟩
class adW(H:Hp)(v:V):Prop where
 e:m5 H v
section
variable{K:W.Frag}{H:Hp}{Q:VK}{z:Str}{v:V}
instance adX[h:adW H v]:Go (W2 K (.str z) v H Q) (Q (.bl (decide (V.str z=v))) H):=⟨W5 h.e⟩
end
end L2
namespace L2
open PySem PySem.W PySem.Calls PySem.Spec PyProof.Rows
section
variable{P:Program}{w:World}{K:W.Frag}{mg:xC}{base:Heap}{CX:CXT}{k:Nat}{x:Str}{st:Stmt}{c:Addr}{N ps:List Str}{sp:Sp}
def KR(K:W.Frag)(mg:xC)(x:Str)(st:Stmt)(c:Addr):Prop:=∃(f:Addr)(fd:FuncData),Fun K x x st f fd/\fd.code=.ref c/\mg x=some (.ref f)
def W6(h:KR K mg x st c)(S:aL N ps (aC st))(len:∀vs H Q E,sp vs H Q E->vs.length=ps.length)
  (hb:∀(kV doc pm:Value)(an:xI)(cdv ct:Value)(us:xD),us.length=ps.length->bindArgs (W.fnOf x x (b_ st) (bI st) (aC st) .none kV doc pm an cdv ct) ⟨us,[]⟩=pure (ps.zip us))
  (hbody:∀(f:Addr)(A:Around)(outer:List Env)(s:Shared)(H:Hp)(vs:List V)(Q:VK)(E:XK),Room k (A.deeper (envOfC x (aC st) s.heap.objs.size f (.ref c)))->sp vs H Q E ->
   ∃t,PSs (gP CX P w K mg base N x (aC st) f (.ref c) A outer s H E).nox (bI st) t/\t { nx:=λ_ H'=>Q .non H',rt:=Q } (start N vs) H):Def P w K mg base CX (k+1) x ps sp:=by
 obtain⟨f,fd,F,hc,m⟩:=h;refine⟨f,fd,?_,m,F.kp,F.binds hb⟩;obtain⟨oc,od,kV,doc,pm,an,cdv,ct,osl,rfl,lk,hcd⟩:=F.ex;obtain rfl:cdv=.ref c:=hc;refine pC lk hcd S len λA outer s H vs Q E hr hsp=>?_
 obtain⟨t,h,q⟩:=hbody f A outer s H vs Q E hr hsp;exact⟨t,h.nox,q⟩
end
end L2
namespace L2
open PySem PySem.W PySem.Spec PyProof.Rows
end L2
namespace L2
open PySem PySem.Spec PyProof.Rows PySem.SeqAt
abbrev flD(v:V):PyData:=pyD (iR v)
theorem N_:∀vs:List V,Dn (vs.map iR)=vs.map flD
 | []=>rfl
 | v::vs=>by simp[Dn,N_ vs]
inductive ThD(H:Hp):V->PyData->Prop
 | flat {v:V} (h:jr v=true) (z:Shm 500 1 (flD v)):ThD H v (flD v)
 | lst {p:Addr} {vs:List V} (e:H p=some (.lst vs)) (h:∀v∈vs,jr v=true) (z:Shm 500 1 (.list (vs.map flD))):ThD H (.ref p) (.list (vs.map flD))
 | tup {p:Addr} {vs:List V} (e:H p=some (.tup vs)) (h:∀v∈vs,jr v=true) (z:Shm 500 1 (.tuple (vs.map flD))):ThD H (.ref p) (.tuple (vs.map flD))
 | dct {p:Addr} (e:H p=some (.dK [])):ThD H (.ref p) (.dict [])
class FlA(v:V)(d:outParam PyData):Prop where
 f:jr v=true
 e:d=flD v
 z:Shm 500 1 d
class FlL(xs:List V)(ds:outParam (List PyData)):Prop where
 e:∀(h:Heap)(us:xD),Vals xs us->ReadsAll h us ds []
 z:∀d∈ds,Shm 500 1 d
 l:ds.length=xs.length
 nd:PyData.hasDictAll ds=false
class ThA(H:Hp)(v:V)(d:outParam PyData):Prop where
 e:ThD H v d
class ajH(H0:Hp)(M:List Addr)(v:V)(d:outParam PyData):Prop where
 e:ThD H0 v d
 n:∀a,v=.ref a->a ∉ M
class ShL(H:Hp)(xs:List V)(ds:outParam (List PyData)):Prop where
 e:∀(X:Cx) (pins:pV) (σ:St) (s:Shared) (us:xD),Inv X pins σ H s->Vals xs us->∃as,ReadsAll s.heap us ds as/\(PyData.hasDictAll ds=true->sysModules ∉ as)
 z:∀d∈ds,Shm 500 1 d
 l:ds.length=xs.length
class TxA(x:Str):Prop where
 z:Shm 500 1 (.str x)
class NmA(i:Int):Prop where
 z:i.natAbs<10 ^ 40
section
variable{H:Hp}{x:Str}{Q:VK}
instance (priority:=high) acd:Go (rEq (.str x) (.str x) H Q) (Q (.bl true) H):=⟨λk=>⟨rfl,by simpa using k⟩⟩
end
structure Zp5(z TI TO i1 i2:Addr):Prop where
 a:TI≠z/\TO≠z/\i1≠z/\i2≠z
 b:TI≠TO/\TI≠i1/\TI≠i2
 c:TO≠i1/\TO≠i2/\i1≠i2
end L2
set_option maxHeartbeats 400000
namespace L2
open PySem PySem.Spec PyProof.Rows PySem.SeqAt
end L2
set_option maxHeartbeats 1000000
namespace L2
open PySem PySem.Spec PyProof.Rows PySem.SeqAt
mutual
def TrH(H:Hp):Dt->V->Prop
 | .non,v=>v=.non
 | .bl b,v=>v=.bl b
 | .int i,v=>v=.int i
 | .str x,v=>v=.str x
 | .lst ds,v=>∃p xs,v=.ref p/\H p=some (.lst xs)/\aaN H ds xs
 | .tup ds,v=>∃p xs,v=.ref p/\H p=some (.tup xs)/\aaN H ds xs
def aaN(H:Hp):List Dt->List V->Prop
 | [],xs=>xs=[]
 | d::ds,xs=>∃x r,xs=x::r/\TrH H d x/\aaN H ds r
end
mutual
def tE:Dt->Bool
 | .bl _=>true
 | .lst ds=>pQ ds
 | .tup ds=>pQ ds
 | _=>false
def pQ:List Dt->Bool
 | []=>false
 | d::ds=>tE d || pQ ds
end
mutual
def ahr:Dt->Prop
 | .lst ds=>ds.length<=1000/\Sv ds
 | .tup ds=>ds.length<=1000/\Sv ds
 | _=>True
def Sv:List Dt->Prop
 | []=>True
 | d::ds=>ahr d/\Sv ds
end
mutual
def oA:Dt->Dt->Bool
 | .lst xs,.lst ys=>jW xs ys
 | .tup xs,.tup ys=>jW xs ys
 | _,.lst _=>false
 | _,.tup _=>false
 | .bl a,.bl b=>a==b
 | .bl _,_=>false
 | _,.bl _=>false
 | x,y=>gR x y
def jW:List Dt->List Dt->Bool
 | [],[]=>true
 | x::xs,y::ys=>oA x y && jW xs ys
 | _,_=>false
end
mutual
theorem Sw:∀(y x:Dt),tE y=false->oA x y=(gR x y && !tE x)
 | .non,x,_=>by cases x <;> simp[oA,gR,tE]
 | .bl b,x,h=>by simp[tE] at h
 | .int i,x,_=>by cases x <;> simp[oA,gR,tE]
 | .str s,x,_=>by cases x <;> simp[oA,gR,tE]
 | .lst ys,x,h=>by
  simp only[tE] at h;cases x <;> simp[oA,gR,tE]
  exact qY ys _ h
 | .tup ys,x,h=>by
  simp only[tE] at h;cases x <;> simp[oA,gR,tE]
  exact qY ys _ h
theorem qY:∀(ys xs:List Dt),pQ ys=false->jW xs ys=(fP xs ys && !pQ xs)
 | [],xs,_=>by cases xs <;> simp[jW,fP,pQ]
 | y::ys,xs,h=>by
  simp only[pQ,Bool.or_eq_false_iff] at h;cases xs with
  | nil=>simp[jW,fP]
  | cons x xs =>
   simp only[jW,fP,pQ,Sw y x h.1,qY ys xs h.2];cases gR x y <;> cases fP xs ys <;> cases tE x <;> cases pQ xs <;> rfl
end
def hides(B:List Addr)(H:Hp):Hp:=λa=>if a∈B then none else H a
def Al(H:Hp)(B:List Addr):Prop:=∀b∈B,∃xs,H b=some (.lst xs)
def W7(v:V):jo (iR v)=0:=by cases v <;> simp[iR,jo]
theorem W8:∀xs:List V,fQ (xs.map iR)=0
 | []=>rfl
 | x::xs=>by simp only[List.map_cons,fQ,W7,W8 xs];rfl
end L2
set_option maxHeartbeats 4000000
namespace L2
open PySem PySem.Spec PyProof.Rows PySem.SeqAt
section
def ztH(h:Heap)(a b:Addr):Heap:=((((h.push { cls:=.type "tuple_iterator", data:=.fields #[.ref a,.int 0 0] }).push { cls:=.type "tuple_iterator", data:=.fields #[.ref b,.int 0 0] }).push { cls:=.type "tuple", data:=.seq #[.ref h.objs.size,.ref (h.objs.size+1)] }).push { cls:=.type "tuple", data:=.seq #[.none,.none] }).push { cls:=.type "zip", data:=.fields #[.none,.bool false,.bool false,.ref (h.objs.size+2),.ref (h.objs.size+3)] }
end
end L2
namespace L2
open PySem PySem.W PySem.Spec PyProof.Rows
def aQ(lo st:Int)(n:Nat):List V:=(List.range n).map λi=>V.int (lo+(i:Nat)*st)
end L2
namespace L2
open PySem PySem.Spec PyProof.Rows PySem.SeqAt
section
variable{X:Cx}{K:W.Frag}{H:Hp}{Q:VK}{p l:Addr}{nms:List (List Nat)}{cs:List Nat}
theorem KY:∀{xs:List V} {us:xD} (r:Vals xs us) {i:Nat} (hi:i<us.length) (hj:i<xs.length),RelV xs[i] us[i]
 | _,_,.nil,_,hi,_=>by simp at hi
 | _::_,_::_,.cons r _,0,_,_=>r
 | _::_,_::_,.cons _ t,i+1,hi,hj=>by
  simp only[List.getElem_cons_succ];exact KY t (by simpa using hi) (by simpa using hj)
def aaO:V->List V->Hp->VK->Prop:=λx vs H Q=>∃(l:Addr)(xs:List V)(v:V)(j:Nat),x=.ref l/\vs=[v]/\H l=some (.lst xs)/\m8 v=true/\xs.all m8=true/\(∃y,xs[j]?=some y/\eqV y v=true)/\(∀i y,i<j->xs[i]?=some y->eqV y v=false)/\Q (.int (j:Nat)) H
def aaP:MtM X "list.index" aaO:=by
 intro pins s σ H x vs v us Q I rx rv h;obtain⟨l,xs,y,j,rfl,rfl,hH,fy,fs,⟨w,hw,ew⟩,hno,q⟩:=h;cases rx;obtain⟨u,rfl,ry⟩:=vals1 rv;obtain⟨z,its,n,r,hl,e⟩:=I.Hw hH;have hlen:=r.length;obtain⟨hj,e2⟩:=jS.mp hw;rw[sizeLine_eq] at z;have one:∀i (hi:i<its.length) (hx:i<xs.length),eqU y its[i]=eqV xs[i] y:=λi hi hx=>Hv (KY r hi hx) (List.all_eq_true.mp fs _ (List.getElem_mem hx))
 refine call_meets PySem.F.slot_list_index ⟨_,e,rfl⟩ PySem.F.entry_list_index (PySem.F.args_list_index_2 _ _) (list_indexAt l its.toArray n _ _ u (eqU y) j (by rw[List.size_toArray];lia) (by lia) ?_ ?_) ⟨e,λa ha=>jA ry fy r fs a (by simpa using ha),?_⟩
 ·show eqU y its[j]=true;rw[one j (by lia) hj,e2];exact ew
 ·intro m hm hlt;show eqU y its[m]=false;rw[nK] at hm;rw[one m hm (by lia)];exact hno m _ hlt (qA (by lia))
 ·exact⟨.int (j:Nat),H,I.tok _,⟨_,rfl⟩,q⟩
def Sx{o e1:Expr}{to te1:TE}{apos cpos:Pos}(ho:PE X o to)(h1:PE X e1 te1)(hbase:attributeBase o "index" X.env (eval o X.env)=eval o X.env:=by rfl)
  (hfew:((backTo cpos (starEach [e1] X.env)).all (λx=>!x.1) && (backToKw cpos (keywordEach [] X.env)).all (λx=>x.1.isSome)
   && decide (([e1]:List Expr).length+([]:List Keyword).length+(if ([]:List Keyword).isEmpty then 0 else 1)<30))=true:=by rfl)
  (hline:(apos.endLine==cpos.line)=true:=by rfl) (hs:starEach [e1] X.env=(false,eval e1 X.env)::starEach [] X.env:=by rfl) (hp:(backTo cpos (starEach [] X.env)).any (·.1)=false:=by rfl) :
  PE X (.Call (.Attribute o "index" apos) [e1] [] cpos) (tBM X.K "list" aaO to (iK te1 nQ)) :=
 JT PySem.F.plainAttrs_list PySem.F.slot_list_index PySem.F.type_list_index aaP ho (aj h1 ao hs) hbase hfew hline hs hp
instance ace[h:SqA K H p (nms.map λcs=>V.str (tx cs))]:Go (rIn K true (.str (tx cs)) (.ref p) H Q) (Q (.bl (!decide (cs∈nms))) H):=⟨λk=>⟨_,_,rfl,.inl h.e,rfl,List.all_eq_true.mpr (λz hz=>by obtain⟨b,_,rfl⟩:=vT.mp hz;rfl),by rw[zS rfl,KQ];exact k⟩⟩
def aaQ{a b:List Nat}:eqV (.str (tx b)) (.str (tx a))=decide (a=b):=by
 by_cases h:a=b
 ·subst h;simp[eqV]
 ·rw[gS h];have:tx b≠tx a:=λz=>h (lK z).symm
  simp[eqV,this]
class aaR(nms:List (List Nat))(cs:List Nat)(j:outParam Nat):Prop where
 a:nms[j]?=some cs
 n:nms.Nodup
instance afO{j:Nat}[h:Hat H l (.lst (nms.map λcs=>V.str (tx cs)))][a:aaR nms cs j]:Go (aaO (.ref l) [.str (tx cs)] H Q) (Q (.int (j:Nat)) H):=⟨λk=>⟨l,_,_,j,rfl,rfl,h.e,rfl,List.all_eq_true.mpr (λz hz=>by obtain⟨b,_,rfl⟩:=List.mem_map.mp hz;rfl),⟨.str (tx cs),by rw[List.getElem?_map,a.a];rfl,by simp[eqV]⟩,λi y hi hy=>by
 rw[wS] at hy;cases e:nms[i]? with
 | none=>rw[e] at hy;cases hy
 | some b =>
  rw[e] at hy;cases hy;show eqV (.str (tx b)) (.str (tx cs))=false;rw[aaQ,gS];intro z;subst z;obtain⟨h1,e1⟩:=jS.mp a.a;obtain⟨h2,e2⟩:=jS.mp e;exact List.pairwise_iff_getElem.mp a.n i j h2 h1 hi (e2.trans e1.symm),k⟩⟩
def xG{X:Cx}{K:W.Frag}(hK:X.K=K):eZ X (.type "list") (Ds K):=by
 subst hK;exact gK
def uP{X:Cx}{K:W.Frag}(hK:X.K=K):eZ X (.type "tuple") (Rp K):=by
 subst hK;exact lC
instance adY{xs:List V}[h:Hat H p (.tup xs)]:Go (Ds K [.ref p] H Q) (∀l H',New H H' l (.lst xs)->Q (.ref l) H'):=⟨λk=>⟨p,xs,rfl,.inr (.of h.e),k⟩⟩
instance afP{xs:List V}[h:Hat H p (.lst xs)]:Go (Rp K [.ref p] H Q) (∀l H',New H H' l (.tup xs)->Q (.ref l) H'):=⟨λk=>⟨p,xs,rfl,.inl ⟨.of h.e,k⟩⟩⟩
end
def hsR(qs:List Addr)(T:List (List V)):List (Addr×HO):=(qs.zip T).map λx=>(x.1,HO.lst x.2)
def Ea{qs:List Addr}{T:List (List V)}(h:qs.length=T.length)(q:Addr)(r:List V):hsR (qs++[q]) (T++[r])=hsR qs T++[(q,.lst r)]:=by
 unfold hsR;rw[List.zip_append h,List.map_append]
 rfl
def Iz{qs:List Addr}{T:List (List V)}{i:Nat}{q:Addr}{r:List V}(h1:qs[i]?=some q)(h2:T[i]?=some r):(q,HO.lst r)∈hsR qs T:=by
 refine vT.mpr ⟨(q,r),?_,rfl⟩;refine yT (i:=i) ?_;rw[List.getElem?_zip_eq_some];exact⟨h1,h2⟩
theorem W9{qs:List Addr}{T:List (List V)}{i:Nat}{q:Addr}{r:List V}(o:List V)(h1:qs[i]?=some q)(h2:T[i]?=some r):∀{B:List (Addr×HO)},Up q (.lst o) (hsR qs T++B) (hsR qs (T.set i o)++B):=by
 induction qs generalizing T i with
 | nil=>simp at h1
 | cons a qs ih =>
  intro B;cases T with
  | nil=>simp at h2
  | cons b T =>
   cases i with
   | zero =>
    simp at h1 h2;subst h1 h2;exact .head
   | succ i=>exact .tail (ih (by simpa using h1) (by simpa using h2))
def IK{K:W.Frag}{H0:Hp}{M:List Addr}{L:List (Addr×HO)}{I:List Im}{l:Addr}{xs:List V}{rows:List (List V)}{σ fvs:L2.St}{fr:List Nat}{te:TE}{H:Hp}{Q:VK}(F:SH H0 M H L I)(hq:H l=some (.lst xs))(tp:aD H xs rows)(hz:xs.length<=1000000)(hf:(fr.map λi=>(σ[i]?).getD none)=fvs)
  (turn:∀(q:Addr) r (H':Hp) (R:VK),r∈rows->H' q=some (.tup r)->(∀z H2,New H' H2 z (.lst r)->R (.ref z) H2)->te (some (.ref q)::fvs) H' R)
  (k:∀p qs H',qs.length=rows.length->SH H0 M H' ((p,.lst (qs.map V.ref))::(hsR qs rows++L)) I->Q (.ref p) H'):cF (Itl K l) 1 fr (aU 0) gQ te σ H Q:=by
 intro acc hacc;subst hf;have n0:New H (upd H acc (.lst [])) acc (.lst []):=.mk' hacc;have xl:xs.length=rows.length:=tp.1;refine gJ (cV (xs:=xs)) (λi ys H'=>∃qs:List Addr,qs.length=i/\ys=qs.map V.ref/\Same H H'/\SH H0 M H' ((acc,.lst ys)::(hsR qs (rows.take i)++L)) I) ⟨[],rfl,rfl,n0.s,F.newL n0⟩ (λi ys H' _ ⟨qs,ql,e,s,G⟩=>⟨s.seq (SqL.of hq),G.at' _ zC⟩) ?_ ?_
 ·rintro i x tv ys H' hx hi ⟨qs,ql,rfl,hs,G⟩ htv;obtain⟨t0,rfl⟩:∃a,tv=[a]:=List.length_eq_one_iff.mp htv;obtain⟨r,q,e1,rfl,e2⟩:=fC tp hx;refine wn0 ?_;unfold gQ;dsimp only;rw[zS rfl];refine turn q r H' _ (List.mem_of_getElem? e1) (hs _ _ e2) λz H2 nz=>⟨?_,?_,fO.next (tv:=[some (.ref q)]) hi ⟨qs++[z],by simp[ql],by simp,λb u e=>?_,?_⟩ rfl⟩
  ·rw[wE,ql];exact qB hi (bN hz)
  ·exact nz.s _ _ (G.at' _ zC)
  ·rw[aZ (λz=>by rw[z] at e;rw[hacc] at e;cases e)];exact nz.s _ _ (hs _ _ e)
  ·have G1:=G.newL nz;have G2:SH H0 M H2 ((acc,.lst (qs.map V.ref))::(hsR (qs++[z]) (rows.take (i+1))++L)) I:=by
    refine SH.perm G1 ?_;have e3:rows.take (i+1)=rows.take i++[r]:=by rw[qV,e1];rfl
    rw[e3,Ea (by rw[oQ];lia),vF];refine(List.Perm.cons _ (List.perm_append_comm_assoc ..)).trans ?_;exact List.Perm.swap ..
   exact G2.WL (l:=acc) (xs:=qs.map V.ref++[.ref z]) Off.upd bA .head
 ·rintro ys H' ⟨qs,ql,rfl,hs,G⟩;rw[nS (by lia)] at G;exact k acc qs H' (by lia) G
def W_{K:W.Frag}{l:Addr}{xs:List V}{σ fvs:L2.St}{fr:List Nat}{te:TE}{H:Hp}{Q:VK}(hq:H l=some (.lst xs))(hz:xs.length<=1000000)(hf:(fr.map λi=>(σ[i]?).getD none)=fvs)
  (G:Nat->List V->Hp->Prop) (st:∀i ys H1 H2,(∀q u,H1 q=some (.tup u)->H2 q=some (.tup u))->G i ys H1->G i ys H2) (g0:G 0 [] H)
  (pR:∀(i:Nat) (x:V) ys (H':Hp) (R:VK),xs[i]?=some x->Same H H'->G i ys H'->(∀y H2,Same H' H2->G (i+1) (ys++[y]) H2->R y H2)->te (some x::fvs) H' R)
  (k:∀p ys H',New H H' p (.lst ys)->G xs.length ys H'->Q (.ref p) H'):cF (Itl K l) 1 fr (aU 0) gQ te σ H Q:=by
 intro acc hacc;subst hf;have jE:∀b u,H b=some u->b≠acc:=λb u e=>aP e hacc
 have n0:New H (upd H acc (.lst [])) acc (.lst []):=.mk' hacc;refine gJ (cV (xs:=xs)) (λi ys H'=>H' acc=some (.lst ys)/\Same H H'/\ys.length<=i/\G i ys H') ⟨n0.e,n0.s,uC _,st _ _ _ _ (λq u e=>n0.s _ _ e) g0⟩ (λi ys H' _ h=>⟨h.2.1.seq (SqL.of hq),h.1⟩) ?_ ?_
 ·rintro i x tv ys H' hx hi ⟨ha,hs,hl,hg⟩ htv;obtain⟨t0,rfl⟩:∃a,tv=[a]:=List.length_eq_one_iff.mp htv;unfold gQ;show te (some x::_) H' _;refine pR i x ys H' _ hx hs hg λy H3 s3 g3=>?_
  refine⟨mT hl (qB hi (bN hz)),s3 _ _ ha,fO.next (tv:=[some x]) hi ⟨bA,λb u e=>?_,by rw[yB,List.length_singleton];lia,st _ _ _ _ (λq' u e=>?_) g3⟩ rfl⟩
  ·rw[aZ (jE b u e)];exact s3 _ _ (hs _ _ e)
  ·have e3:H3 acc=some (.lst ys):=s3 _ _ ha;rw[aZ (λz=>by rw[z,e3] at e;cases e)];exact e
 ·rintro ys H' ⟨ha,hs,_,hg⟩;exact k acc ys H' ⟨hs,ha,jE⟩ hg
end L2
namespace L2
open PySem PySem.Spec PyProof.Rows
section
variable{X:Cx}{pins:pV}{σ:St}{H:Hp}{s:Shared}{b:Addr}
def gZ.to{H':Hp}(f:gZ X pins H b)(h:H' b=none):gZ X pins H' b:=⟨h,f.2⟩
def Inv.moved{h':Heap}{t':Nat}(I:Inv X pins σ H s)(f:gZ X pins H b)(k:∀c o,c≠b->s.heap.get? c=some o->h'.get? c=some o):Inv X pins σ H { s with heap:=h',toks:=t' } :=
 I.turned (it:=b) k f.1 f.2.1 f.2.2.2.1 f.2.2.2.2.1 f.2.2.2.2.2
theorem Xa{k:Nat}{f:Addr}{fd:FuncData}{ps:List Str}{sp:Sp}{us:xD}{vs:List V}{Q:VK}{E:xB}(F:iZ X.prog X.w X.K X.mg X.base CX0 k f fd ps sp)(hr:Room (k+1) X.A)(hb:Binds X.K fd ps [])(I:Inv X pins σ H s)(r:Vals vs us)(h:sp vs H Q E0) :
  wpAny (model X.prog X.w) X.A.in1 (call (.ref f) us) (EP X pins σ Q) E s:=by
 have hl:us.length=ps.length:=by rw[<- r.length];exact F.len _ _ _ _ h
 have bd:=hb s us I.kIn (by simpa using hl);rw[mE] at bd;refine wpAny_call (codeAny_mono (F.run X.A.in1 X.stack s H ⟨us,[]⟩ us vs Q E0 hr.in1 I.env0.in1 bd r h) λr s' hq=>?_);cases r with
 | error e=>exact False.elim hq
 | ok fl =>
  cases fl with
  | ret u=>exact I.after hq
  | next=>exact False.elim hq
  | brk=>exact False.elim hq
  | cont=>exact False.elim hq
theorem Oa{f l it B:Addr}{xs:List V}{kf:Nat->Int}{Pv:Hp->Prop}{R:Result->Shared->Prop}(hh:X.A.handled=none)(nB:B≠it)
  (hP:∀H',Pv H'->SqL X.K H' l xs)
  (turn:∀(i:Nat) (v:V) (u:Value) (pins:pV) (s:Shared) (H':Hp) (E:xB),xs[i]?=some v->RelV v u->Inv X pins σ H' s->Pv H'->wpAny (model X.prog X.w) X.A.in1 (call (.ref f) [u]) (EP X pins σ λz H2=>z=.int (kf i)/\Pv H2) E s)
  (hR:∀(i:Nat)(v:V)(u:Value)(H':Hp)(s':Shared),xs[i]?=some v->RelV v u->(∀j,j<xs.length->kf i<=kf j/\(j<i->kf i<kf j))->Inv X pins σ H' s'->Pv H'->R (.ok (.ret u)) s') (left:Nat) :
  ∀(j i:Nat)(s:Shared)(H:Hp)(vb:V)(ub:Value)(tb:Tok)(c:Nat),j+left=xs.length->Inv X pins σ H s->Pv H->gZ X pins H it->gZ X pins H B->s.heap.IsListIter it l j->s.heap.get? B=some (eF #[ub,.int (kf i) tb] c)->xs[i]?=some vb->RelV vb ub->i<j ->
   (∀j',j'<j->kf i<=kf j'/\(j'<i->kf i<kf j'))->codeAny (model X.prog X.w) X.A (.builtin "min.loop" ⟨[.ref it,.ref f,.ref B],[]⟩) R s:=by
 have hs:(toString "min" ++ toString ".loop" : String) = "min.loop":=by decide
 induction left with
 | zero =>
  intro j i s H vb ub tb c hj I p fi fb st hb hv rv hij best;obtain⟨its,rr,pl,_⟩:=I.list (hP H p);have hl:=rr.length;refine codeAny_builtin F.entry_min_loop ?_;rw[Around.under_plainId F.plain_min_loop _];show wpAny _ _ (seqItems? (Value.ref B) >>= _) _ _ _;refine zI (wpAny_seqItems hb rfl ?_);show wpAny _ _ (tryCatch (pyNext (Value.ref it)) _ >>= _) _ _ _;refine wpAny_bind (wpAny_tryCatch (wpAny_pyNext_list_end hh st pl.isList (by simp;lia) λh1 eb=>?_));have I1:Inv X pins σ H { s with heap:=h1 }:=I.moved (t':=s.toks) fi λc o n e=>eb c o n e
  have hb1:h1.get? B=_:=eb B _ nB hb;show wpAny _ _ (updateSeq B _ >>= _) _ _ _;refine zI (wpAny_updateSeq hb1 rfl (zI (wpAny_letGo (rV ?_))));exact hR i vb ub H _ hv rv (λj' h=>best j' (by lia)) (I1.moved (t':=s.toks) fb λc o n e=>(nN _ _ (λz=>n z.symm)).trans e) p
 | succ left ih =>
  intro j i s H vb ub tb c hj I p fi fb st hb hv rv hij best;have hlt:j<xs.length:=by lia
  obtain⟨its,rr,pl,_⟩:=I.list (hP H p);have hx:xs[j]?=some xs[j]:=qA hlt;obtain⟨u,hu,ru⟩:=rr.get hx;refine codeAny_builtin F.entry_min_loop ?_;rw[Around.under_plainId F.plain_min_loop _];show wpAny _ _ (seqItems? (Value.ref B) >>= _) _ _ _;refine zI (wpAny_seqItems hb rfl ?_);show wpAny _ _ (tryCatch (pyNext (Value.ref it)) _ >>= _) _ _ _;refine wpAny_bind (wpAny_tryCatch (wpAny_pyNext_list_item st pl.isList (x:=u) (by simpa using hu) λh1 st1 sb=>?_));have I1:Inv X pins σ H { s with heap:=h1 }:=I.moved (t':=s.toks) fi λc o n e=>(sb.2 c n).trans e
  have hb1:h1.get? B=some (eF #[ub,.int (kf i) tb] c):=(sb.2 B nB).trans hb;obtain⟨oI,e1,c1,d1⟩:=id st1;have I2:Inv X (pins++[(it,oI),(B,eF #[ub,.int (kf i) tb] c)]) σ H { s with heap:=h1 }:=I1.tG λq hq=>by
   rcases wP.mp hq with hq|hq
   ·exact I1.pin q (rS _ hq)
   ·rcases vS.mp hq with rfl|hq
    ·exact⟨e1,fi.1,fi.2.1,fi.2.2.1,λv z=>by rw[d1] at z;cases z⟩
    ·rw[uS.mp hq];exact⟨hb1,fb.1,fb.2.1,fb.2.2.1,λv z=>by cases z⟩
  show wpAny _ _ (tryCatch (holding _ (call (Value.ref f) [u])) _ >>= _) _ _ _;refine zI (wpAny_tryCatch (nV (nX (turn j _ u _ _ H (λ_ _=>False) hx ru I2 p) (λz s2 he=>?_) λ_ _ hF=>hF.elim)));obtain⟨zv,H2,I3,rz,rfl,p2⟩:=he;obtain⟨t2,rfl⟩:=rz;have q1:=I3.pin (it,oI) (by simp);have q2:=I3.pin (B,eF #[ub,.int (kf i) tb] c) (by simp);have I4:Inv X pins σ H2 s2:=I3.iJ;have fi2:=fi.to q1.2.1;have fb2:=fb.to q2.2.1;have st2:s2.heap.IsListIter it l (j+1):=⟨oI,q1.1,c1,d1⟩;have hb2:s2.heap.get? B=some (eF #[ub,.int (kf i) tb] c):=q2.1;show wpAny _ _ (tryCatch (holding _ (richCompare .Lt _ _ >>= _)) _ >>= _) _ _ _;refine zI (wpAny_tryCatch (nV (zI (W0 ?_))));refine zI (nV (wpAny_truthy_bool ?_));refine zI (wpAny_letGo (rV ?_));by_cases hg:kf j<kf i
  ·rw[gX hg];simp only[if_true];refine zI (wpAny_updateSeq hb2 rfl (zI (wpAny_letGo ?_)));rw[hs];have I5:Inv X pins σ H2 { s2 with heap:=s2.heap.update B (Obj.mapSeq λ_=>#[u,.int (kf j) t2]) }:=I4.moved (t':=s2.toks) fb2 λc o n e=>(nN _ _ (λz=>n z.symm)).trans e
   refine rV ⟨plainId_quiet F.plain_min_loop _,ih (j+1) j _ H2 _ u t2 _ (by lia) I5 p2 fi2 fb2 ⟨oI,(nN _ _ nB).trans q1.1,c1,d1⟩ (Heap.get?_update_self _ hb2 rfl) hx ru (by lia) λj' h'=>?_⟩;by_cases e:j'=j
   ·subst e;exact⟨Int.le_refl _,λz=>gL z (qS _)⟩
   ·have:=best j' (by lia);exact⟨by lia,λ_=>by lia⟩
  ·rw[gS hg];simp only[Bool.false_eq_true,if_false];refine zI (wpAny_letGo ?_);rw[hs];refine rV ⟨plainId_quiet F.plain_min_loop _,ih (j+1) i _ H2 vb ub tb c (by lia) I4 p2 fi2 fb2 st2 hb2 hv rv (by lia) λj' h'=>?_⟩;by_cases e:j'=j
   ·subst e;exact⟨by lia,λz=>by lia⟩
   ·exact best j' (by lia)
def Ob(a v:Value):argsOk "min" ⟨[a],[(("key" : Str),v)]⟩:=by unfold argsOk;kernel_rfl
def Sy(K:W.Frag)(sp:Sp):List V->Hp->VK->Prop:=λvs H Q=>∃(l:Addr)(xs:List V)(kf:Nat->Int)(Pv:Hp->Prop),vs=[.ref l]/\0<xs.length/\Pv H/\(∀H',Pv H'->SqL K H' l xs) /\
 (∀i v H',xs[i]?=some v->Pv H'->sp [v] H' (λz H2=>z=.int (kf i)/\Pv H2) E0)/\∀i v H',xs[i]?=some v->(∀j,j<xs.length->kf i<=kf j/\(j<i->kf i<kf j))->Pv H'->Q v H'
def YL(K:W.Frag)(sp:Sp)(t:TA):TE:=λσ H Q=>t σ H λxs H1=>Sy K sp xs H1 Q
def SJ{k:Nat}{f:Addr}{fd:FuncData}{ps:List Str}{sp:Sp}{us:xD}{vs:List V}{Q:VK}(Fn:iZ X.prog X.w X.K X.mg X.base CX0 k f fd ps sp)(hr:Room (k+1) X.A)(hb:Binds X.K fd ps [])(hc:X.calm=true)(I:Inv X pins σ H s)(r:Vals vs us)(h:Sy X.K sp vs H Q) :
  wpAny (model X.prog X.w) X.A (call (.builtin "min") us [(("key" : Str),.ref f)]) (EP X pins σ Q) X.xe s:=by
 obtain⟨l,xs,kf,Pv,rfl,h0,p0,hP,hsp,hQ⟩:=h;obtain⟨v,rfl,rx⟩:=vals1 r;cases rx;obtain⟨its,rv,pl,_⟩:=I.list (hP H p0);have hl:=pl.isList;have hlt:l<s.heap.objs.size:=let ⟨_,e,_⟩:=hl;uA e
 have hs:(toString "min" ++ toString ".loop" : String) = "min.loop":=by decide
 have turn:∀(i:Nat) (v:V) (u:Value) (pins:pV) (s:Shared) (H':Hp) (E:xB),xs[i]?=some v->RelV v u->Inv X pins σ H' s->Pv H'->wpAny (model X.prog X.w) X.A.in1 (call (.ref f) [u]) (EP X pins σ λz H2=>z=.int (kf i)/\Pv H2) E s :=
  λi v u pins s H' E hv ru I p=>Xa Fn hr hb I (.cons ru .nil) (hsp i v H' hv p)
 refine Bc F.kind_min F.plain_min F.entry_min (Ob _ _) ?_;show wpAny _ _ (Builtin.Builtins.bindParams "min" ["key","default"] 0 ⟨[],[(("key" : Str),Value.ref f)]⟩ >>= _) _ _ s;refine zI (wpAny_of_eq (show Builtin.Builtins.bindParams "min" ["key","default"] 0 ⟨[],[(("key" : Str),Value.ref f)]⟩=pure [some (.ref f),none] from rfl) ?_);refine zI (rV ?_);refine zI (wpAny_pyIter_list hl ?_);refine zI (wpAny_newObj_type ?_);rw[hs];refine rV ⟨plainId_quiet F.plain_min_loop _,?_⟩;have sz1:(s.heap.push { cls:=.type "list_iterator", data:=.fields #[.ref l,.int 0 0] }).objs.size=s.heap.objs.size+1:=size_push' ..
 generalize hB:(s.heap.push { cls:=.type "list_iterator", data:=.fields #[.ref l,.int 0 0] }).objs.size=B at sz1 ⊢
 have gB:((s.heap.push { cls:=.type "list_iterator", data:=.fields #[.ref l,.int 0 0] }).push (eF #[] 0)).get? B=some (eF #[] 0):=by rw[<- hB];exact oP _ rfl
 have gI:((s.heap.push { cls:=.type "list_iterator", data:=.fields #[.ref l,.int 0 0] }).push (eF #[] 0)).get? s.heap.objs.size=some { cls:=.type "list_iterator", data:=.fields #[.ref l,.int 0 0] }:=uB _ (oP _ rfl);have nB:B≠s.heap.objs.size:=by lia
 have fi:gZ X pins H s.heap.objs.size:=I.CT (uC _) I.fresh;have fb:gZ X pins H B:=I.CT (by lia) (I.hok.fresh (by lia));have I0:Inv X pins σ H { s with heap:=(s.heap.push { cls:=.type "list_iterator", data:=.fields #[.ref l,.int 0 0] }).push (eF #[] 0) }:=I.kept (t':=s.toks) λb o e=>uB _ (uB _ e)
 generalize (s.heap.push { cls:=.type "list_iterator", data:=.fields #[.ref l,.int 0 0] }).push (eF #[] 0)=h9 at gB gI I0 ⊢
 have st:h9.IsListIter s.heap.objs.size l 0:=⟨_,gI,rfl,rfl⟩
 generalize s.heap.objs.size=it at nB fi st
 obtain⟨its,rr,pl,_⟩:=I0.list (hP H p0);have hx:xs[0]?=some xs[0]:=qA h0;obtain⟨u,hu,ru⟩:=rr.get hx;refine codeAny_builtin F.entry_min_loop ?_;rw[Around.under_plainId F.plain_min_loop _];show wpAny _ _ (seqItems? (Value.ref B) >>= _) _ _ _;refine zI (wpAny_seqItems gB rfl ?_);show wpAny _ _ (tryCatch (pyNext (Value.ref it)) _ >>= _) _ _ _;refine wpAny_bind (wpAny_tryCatch (wpAny_pyNext_list_item st pl.isList (x:=u) (by simpa using hu) λh1 st1 sb=>?_));have I1:Inv X pins σ H { s with heap:=h1 }:=I0.moved (t':=s.toks) fi λc o n e=>(sb.2 c n).trans e
 have hb1:h1.get? B=some (eF #[] 0):=(sb.2 B nB).trans gB;obtain⟨oI,e1,c1,d1⟩:=id st1;have I2:Inv X (pins++[(it,oI),(B,eF #[] 0)]) σ H { s with heap:=h1 }:=I1.tG λq hq=>by
  rcases wP.mp hq with hq|hq
  ·exact I1.pin q (rS _ hq)
  ·rcases vS.mp hq with rfl|hq
   ·exact⟨e1,fi.1,fi.2.1,fi.2.2.1,λv z=>by rw[d1] at z;cases z⟩
   ·rw[uS.mp hq];exact⟨hb1,fb.1,fb.2.1,fb.2.2.1,λv z=>by cases z⟩
 show wpAny _ _ (tryCatch (holding _ (call (Value.ref f) [u])) _ >>= _) _ _ _;refine zI (wpAny_tryCatch (nV (nX (turn 0 _ u _ _ H (λ_ _=>False) hx ru I2 p0) (λz s2 he=>?_) λ_ _ hF=>hF.elim)));obtain⟨zv,H2,I3,rz,rfl,p2⟩:=he;obtain⟨t2,rfl⟩:=rz;have q1:=I3.pin (it,oI) (by simp);have q2:=I3.pin (B,eF #[] 0) (by simp);have fi2:=fi.to q1.2.1;have fb2:=fb.to q2.2.1;have hb2:s2.heap.get? B=some (eF #[] 0):=q2.1;have I5:Inv X pins σ H2 { s2 with heap:=s2.heap.update B (Obj.mapSeq λ_=>#[u,.int (kf 0) t2]) }:=I3.iJ.moved (t':=s2.toks) fb2 λc o n e=>(nN _ _ (λz=>n z.symm)).trans e
 show wpAny _ _ (updateSeq B _ >>= _) _ _ _;refine zI (wpAny_updateSeq hb2 rfl ?_);rw[hs];refine rV ⟨plainId_quiet F.plain_min_loop _,Oa (pins:=pins) (σ:=σ) (I.ok.hd hc) nB hP turn (λi v u H' s' hv rv best I p=>⟨v,H',I,rv,hQ i v H' hv best p⟩) (xs.length-1) 1 0 _ H2 xs[0] u t2 _ (by lia) I5 p2 fi2 fb2 ⟨oI,(nN _ _ nB).trans q1.1,c1,d1⟩ (Heap.get?_update_self _ hb2 rfl) hx ru (by lia) λj' h'=>?_⟩;have e:j'=0:=by lia
 subst e;exact⟨Int.le_refl _,λz=>gL z (qS _)⟩
def Xb{k m:Nat}{x:Str}{ps:List Str}{sp:Sp}{p p2 pos kp:Pos}{e:Expr}{t:TA}(D:Def X.prog X.w X.K X.mg X.base CX0 k x ps sp)(hr:Room m X.A)(hc:X.calm=true)(hm:X.mg "min" = none)(ha:PA X [e] t)(hk:k+1<=m:=by decide)(hg:Gl X "min":=by rfl)(hx:Gl X x:=by rfl)
  (hdb:(x==("__debug__" : Str))=false:=by decide) (he:backTo pos (starEach [e] X.env)=(false,eval e X.env)::backTo pos (starEach [] X.env):=by rfl) (hpl:(backTo pos (starEach [e] X.env)).any (·.1)=false:=by rfl) :
  PE X (.Call (.Name "min" p) [e] [⟨some "key", .Name x p2,kp⟩] pos) (YL X.K sp t):=by
 obtain⟨f,fd,Fn,hmx,kp,b⟩:=D.ex;intro pins s σ H Q I h;refine wpAny_Call_Name_kw (iH I hg hm boot_min ?_ (by decide) (by decide));refine callWith_kw (thn (ha pos pins s σ H _ I h) λus s1 ⟨vs,H1,I1,r1,q1⟩=>?_) he hpl;have nm:PE X (.Name x p2) (tC (.ref f)):=uh ⟨_,hmx,rfl⟩ hx hdb;refine kws_cons (thn (nm pins s1 σ H1 (λy H2=>y=.ref f/\H2=H1) I1 ⟨rfl,rfl⟩) λz s2 ⟨y,H2,I2,r2,e1,e2⟩=>kws_nil ?_);subst e1 e2;obtain rfl:z=Value.ref f:=r2;exact SJ Fn (hr.mono hk) b hc I2 r1 q1
end
def Oc{K:W.Frag}{a:Addr}{xs:List V}:ItemsOf (Itv K a xs) xs.reverse (λH=>SqL K H a xs) :=
 ⟨λi H h hi=>⟨h,by simpa using hi⟩,λi H x H' h hi y=>⟨y.1,by
  rw[List.getElem?_reverse (by simpa using hi)];exact y.2⟩,λH h=>⟨h,by simp⟩⟩
section
variable{K:W.Frag}{σ:L2.St}{H:Hp}{Q:VK}{tr:TA}{nt:Nat}{fr:List Nat}{g:TG}{c:TT}{te:TE}{a:Addr}{xs:List V}
instance adZ:Go (m_ (aaB K tr) nt fr g c te σ H Q) (tr σ H λvs H1=>∃a xs,vs=[.ref a]/\SqL K H1 a xs/\cF (Itv K a xs) nt fr g c te σ H1 Q):=⟨id⟩
instance afQ[h:SqA K H a xs]:Go (∃a' xs',[V.ref a]=[.ref a']/\SqL K H a' xs'/\cF (Itv K a' xs') nt fr g c te σ H Q) (cF (Itv K a xs) nt fr g c te σ H Q):=⟨λk=>⟨a,xs,rfl,h.e,k⟩⟩
end
def aaS{K:W.Frag}{H:Hp}{σ:St}{p:Addr}{n i0 i1 i2 i3:Nat}{a b c d:V}{R:St->Hp->Prop}(hn:n=4)(hp:H p=some (.tup [a,b,c,d]))(h:aU i0 a σ H λσ1 H1=>aU i1 b σ1 H1 λσ2 H2=>aU i2 c σ2 H2 λσ3 H3=>aU i3 d σ3 H3 R) :
  o_ K n (cJ (aU i0) (cJ (aU i1) (cJ (aU i2) (cJ (aU i3) qO)))) (.ref p) σ H R:=by
 have o:SqB K H p [a,b,c,d]:=⟨.of hp⟩;exact go1 (sd hn h)
def Bk{K:W.Frag}{J:It}{xs:List V}{Lk:Hp->Prop}{rows:List (List V)}{n:Nat}{σ fvs:L2.St}{fr:List Nat}{cc:TT}{te:TE}{H:Hp}{Q:VK}{P:List V->Bool}(it:L2.ItemsOf J xs Lk)(hL:∀H',Same H H'->Lk H')(tp:aD H xs rows)(hn:n=4)(h4:∀r∈rows,∃a b c d,r=[a,b,c,d])(hz:xs.length<=1000000)(hf:(fr.map λi=>(σ[i]?).getD none)=fvs)
  (G:Nat->List V->Hp->Prop) (st:∀i ys H1 H2,(∀q u,H1 q=some (.tup u)->H2 q=some (.tup u))->G i ys H1->G i ys H2) (g0:G 0 [] H)
  (Eb:∀(i:Nat) a b c d (H':Hp) (R:Bool->Hp->Prop),rows[i]?=some [a,b,c,d]->Same H H'->(∀H2,Same H' H2->R (P [a,b,c,d]) H2)->cc (some a::some b::some c::some d::fvs) H' R)
  (pR:∀(i:Nat) a b c d ys (H':Hp) (R:VK),rows[i]?=some [a,b,c,d]->P [a,b,c,d]=true->Same H H'->G i ys H'->(∀y H2,Same H' H2->G (i+1) (ys++[y]) H2->R y H2)->te (some a::some b::some c::some d::fvs) H' R)
  (skip:∀(i:Nat) r ys (H':Hp),rows[i]?=some r->P r=false->G i ys H'->G (i+1) ys H')
  (k:∀p ys H',New H H' p (.lst ys)->G xs.length ys H'->Q (.ref p) H'):cF J 4 fr (o_ K n (cJ (aU 0) (cJ (aU 1) (cJ (aU 2) (cJ (aU 3) qO))))) cc te σ H Q:=by
 intro acc hacc;subst hf;have jE:∀b u,H b=some u->b≠acc:=λb u e=>aP e hacc
 have n0:New H (upd H acc (.lst [])) acc (.lst []):=.mk' hacc;refine gJ it (λi ys H'=>H' acc=some (.lst ys)/\Same H H'/\ys.length<=i/\G i ys H') ⟨n0.e,n0.s,uC _,st _ _ _ _ (λq u e=>n0.s _ _ e) g0⟩ (λi ys H' _ h=>⟨hL _ h.2.1,h.1⟩) ?_ ?_
 ·rintro i x tv ys H' hx hi ⟨ha,hs,hl,hg⟩ htv;obtain⟨r,q,e1,rfl,e2⟩:=fC tp hx;obtain⟨a,b,c,d,rfl⟩:=h4 r (yT e1);obtain⟨t0,t1,t2,t3,rfl⟩:∃t0 t1 t2 t3,tv=[t0,t1,t2,t3]:=by
   match tv,htv with
   | [t0,t1,t2,t3],_=>exact⟨t0,t1,t2,t3,rfl⟩
  refine aaS hn (hs _ _ e2) ?_;show cc (some a::some b::some c::some d::_) H' _;refine Eb i a b c d H' _ e1 hs λH2 s2=>?_
  have g2:=st _ _ _ _ (λq u e=>s2 _ _ e) hg;have ha2:H2 acc=some (.lst ys):=s2 _ _ ha;by_cases hp:P [a,b,c,d]=true
  ·rw[hp,zS rfl];refine pR i a b c d ys H2 _ e1 hp (hs.trans s2) g2 λy H3 s3 g3=>⟨mT hl (qB hi (bN hz)),s3 _ _ ha2,fO.next (tv:=[some a,some b,some c,some d]) hi ⟨bA,λb u e=>?_,by rw[yB,List.length_singleton];lia,st _ _ _ _ (λq' u e=>?_) g3⟩ rfl⟩
   ·rw[aZ (jE b u e)];exact s3 _ _ (s2 _ _ (hs _ _ e))
   ·have e3:H3 acc=some (.lst ys):=s3 _ _ ha2;rw[aZ (λz=>by rw[z,e3] at e;cases e)];exact e
  ·have hp:P [a,b,c,d]=false:=by simpa using hp
   rw[hp,yA (by decide)];exact fO.next (tv:=[some a,some b,some c,some d]) hi ⟨ha2,hs.trans s2,by lia,skip i _ ys H2 e1 hp g2⟩ rfl
 ·rintro ys H' ⟨ha,hs,_,hg⟩;exact k acc ys H' ⟨hs,ha,jE⟩ hg
def aD.rev{H:Hp}{ys:List V}{rows:List (List V)}(h:aD H ys rows):aD H ys.reverse rows.reverse:=by
 refine⟨by rw[List.length_reverse,List.length_reverse,h.1],λj r e=>?_⟩;have hj:j<rows.length:=by have:=(jS.mp e).1;rwa [List.length_reverse] at this
 rw[List.getElem?_reverse hj] at e;obtain⟨q,a,b⟩:=h.2 _ _ e;exact⟨q,by rw[List.getElem?_reverse (by rw[h.1];exact hj),h.1];exact a,b⟩
def aD.app{H:Hp}{ys zs:List V}{r1 r2:List (List V)}(h:aD H ys r1)(g:aD H zs r2):aD H (ys++zs) (r1++r2):=by
 refine⟨by rw[yB,yB,h.1,g.1],λj r e=>?_⟩;by_cases hj:j<r1.length
 ·rw[yY hj] at e;obtain⟨q,a,b⟩:=h.2 _ _ e;exact⟨q,by rw[yY (by rw[h.1];exact hj)];exact a,b⟩
 ·rw[nE (by lia)] at e;obtain⟨q,a,b⟩:=g.2 _ _ e;exact⟨q,by rw[nE (by rw[h.1];lia),h.1];exact a,b⟩
def SM(YS:List (List V))(RS:List (List (List V))):Im:=.fct (λH=>YS.length=RS.length/\∀(j:Nat) ys rs,YS[j]?=some ys->RS[j]?=some rs->aD H ys rs) λH H' t h=>⟨h.1,λj ys rs a b=>let z:=h.2 j ys rs a b;⟨z.1,λi r e=>let ⟨q,c,d⟩:=z.2 i r e;⟨q,c,t q _ rfl d⟩⟩⟩
end L2
set_option maxHeartbeats 1000000
namespace L2
open PySem PySem.Spec PyProof.Rows
section
variable{P:List Value->Prop}
theorem elS{n:Nat}(h:∀(a:Value)(us:xD),us.length=n->P (a::us))(us:xD)(hl:us.length=n+1):P us:=by
 cases us with
 | nil=>cases hl
 | cons a t=>exact h a t (Nat.succ.inj hl)
end
def el0{P:List Value->Prop}(h:P [])(us:xD)(hl:us.length=0):P us:=by
 rw[List.length_eq_zero_iff.mp hl];exact h
section
variable{P:List Value->Prop}
def el1(h:∀a,P [a])(us:xD)(hl:us.length=1):P us:=elS (λa=>el0 (h a)) us hl
def el2(h:∀a b,P [a,b])(us:xD)(hl:us.length=2):P us:=elS (λa=>el1 (P:=λt=>P (a::t)) (h a)) us hl
def el3(h:∀a b c,P [a,b,c])(us:xD)(hl:us.length=3):P us:=elS (λa=>el2 (P:=λt=>P (a::t)) (h a)) us hl
def el4(h:∀a b c d,P [a,b,c,d])(us:xD)(hl:us.length=4):P us:=elS (λa=>el3 (P:=λt=>P (a::t)) (h a)) us hl
end
class ImI(f:Im)(I:List Im):Prop where
 m:f∈I
class SbI(I' I:List Im):Prop where
 s:∀f∈I',f∈I
section
variable{f g:Im}{I I':List Im}
instance ajI[h:ImI f I]:ImI f (g::I):=⟨zD _ h.m⟩
instance ajJ:ImI f (f::I):=⟨zC⟩
instance ajK:SbI [] I:=⟨λ_ h=>gL h wT⟩
instance ajL[h:ImI f I][t:SbI I' I]:SbI (f::I') I:=⟨λg hg=>(vS.mp hg).elim (λe=>e▸h.m) (t.s g)⟩
end
end L2
namespace L2
open PySem PySem.W PySem.Spec PyProof.Rows
section
variable{P:Program}{w:World}{K:W.Frag}{mg:xC}{base:Heap}{CX:CXT}{x nm qual:Str}{ps:List Str}{sp:Sp}{k:Nat}{st:Stmt}{N:List Str}{f:Addr}{X:Cx}{i:Nat}{e:Expr}{te:TE}{pos pos':Pos}
abbrev KZ(sp:Sp)(ps:List Str):Prop:=∀vs H Q E,sp vs H Q E->vs.length=ps.length
abbrev K1(nm qual:Str)(st:Stmt)(ps:List Str):Prop:=∀(kV doc pm:Value)(an:xI)(cdv ct:Value)(us:xD),us.length=ps.length->bindArgs (W.fnOf nm qual (b_ st) (bI st) (aC st) .none kV doc pm an cdv ct) ⟨us,[]⟩=pure (ps.zip us)
def dA(h:HasDef K mg x st)(S:aL N ps (aC st))
  (hbody:∀(f:Addr)(cdv:Value)(A:Around)(outer:List Env)(s:Shared)(H:Hp)(vs:List V)(Q:VK)(E:XK),Room k (A.deeper (envOfC x (aC st) s.heap.objs.size f cdv))->sp vs H Q E ->
   ∃t,PSs (gP CX P w K mg base N x (aC st) f cdv A outer s H E).nox (bI st) t/\t { nx:=λ_ H'=>Q .non H',rt:=Q } (start N vs) H)
  (len:KZ sp ps:=by intro _ _ _ _ h;repeat (first|(obtain⟨rfl,_⟩:=h;rfl)|(cases h;rename_i h)))
  (hb:K1 x x st ps:=by intro _ _ _ _ _ _;first|exact el1 λ_=>rfl|exact el2 λ_ _=>rfl|exact el3 λ_ _ _=>rfl|exact el4 λ_ _ _ _=>rfl|exact el5 λ_ _ _ _ _=>rfl):Def P w K mg base CX (k+1) x ps sp:=ZM h S len hb hbody
def dX(h:HasDef K mg x st)(S:aL N ps (aC st))
  (hbody:∀(f:Addr)(cdv:Value)(A:Around)(outer:List Env)(s:Shared)(H:Hp)(vs:List V)(Q:VK)(E:XK),Room k (A.deeper (envOfC x (aC st) s.heap.objs.size f cdv))->sp vs H Q E ->
   ∃t,PSs (gP (CX1 P w) P w K mg base N x (aC st) f cdv A outer s H E) (bI st) t/\t { nx:=λ_ H'=>Q .non H',rt:=Q } (start N vs) H)
  (len:KZ sp ps:=by intro _ _ _ _ h;repeat (first|(obtain⟨rfl,_⟩:=h;rfl)|(cases h;rename_i h)))
  (hb:K1 x x st ps:=by intro _ _ _ _ _ _;first|exact el1 λ_=>rfl|exact el2 λ_ _=>rfl|exact el3 λ_ _ _=>rfl|exact el4 λ_ _ _ _=>rfl|exact el5 λ_ _ _ _ _=>rfl):Def P w K mg base (CX1 P w) (k+1) x ps sp:=Wo h S len hb hbody
def fA(h:FnAt K nm qual st f)(S:aL N ps (aC st))
  (hbody:∀(f:Addr)(cdv:Value)(A:Around)(outer:List Env)(s:Shared)(H:Hp)(vs:List V)(Q:VK)(E:XK),Room k (A.deeper (envOfC qual (aC st) s.heap.objs.size f cdv))->sp vs H Q E ->
   ∃t,PSs (gP CX P w K mg base N qual (aC st) f cdv A outer s H E).nox (bI st) t/\t { nx:=λ_ H'=>Q .non H',rt:=Q } (start N vs) H)
  (len:KZ sp ps:=by intro _ _ _ _ h;repeat (first|(obtain⟨rfl,_⟩:=h;rfl)|(cases h;rename_i h)))
  (hb:K1 nm qual st ps:=by intro _ _ _ _ _ _;first|exact el1 λ_=>rfl|exact el2 λ_ _=>rfl|exact el3 λ_ _ _=>rfl|exact el4 λ_ _ _ _=>rfl|exact el5 λ_ _ _ _ _=>rfl):iu P w K mg base CX (k+1) f ps sp:=Rr h S len hb hbody
def fX(h:FnAt K nm qual st f)(S:aL N ps (aC st))
  (hbody:∀(f:Addr)(cdv:Value)(A:Around)(outer:List Env)(s:Shared)(H:Hp)(vs:List V)(Q:VK)(E:XK),Room k (A.deeper (envOfC qual (aC st) s.heap.objs.size f cdv))->sp vs H Q E ->
   ∃t,PSs (gP (CX1 P w) P w K mg base N qual (aC st) f cdv A outer s H E) (bI st) t/\t { nx:=λ_ H'=>Q .non H',rt:=Q } (start N vs) H)
  (len:KZ sp ps:=by intro _ _ _ _ h;repeat (first|(obtain⟨rfl,_⟩:=h;rfl)|(cases h;rename_i h)))
  (hb:K1 nm qual st ps:=by intro _ _ _ _ _ _;first|exact el1 λ_=>rfl|exact el2 λ_ _=>rfl|exact el3 λ_ _ _=>rfl|exact el4 λ_ _ _ _=>rfl|exact el5 λ_ _ _ _ _=>rfl):iu P w K mg base (CX1 P w) (k+1) f ps sp:=Ny h S len hb hbody
def scz{N P:List Str}{sc:Scope}(a:sc.kind=.function:=by rfl)(b:sc.isCoroutine=false:=by rfl)(c:sc.isGenerator=false:=by rfl)(d:N.Nodup:=by decide +kernel)(e:N.take P.length=P:=by rfl)(f:∀x∈P,sc.names.lookup x=some .local\/sc.names.lookup x=some .cell:=by decide +kernel)(g:∀y∈sc.names,y.2≠.free:=by decide +kernel):aL N P sc:=⟨a,b,c,d,e,f,g⟩
def psz(i:Nat)(hN:X.N.Nodup)(he:PE X e te)(hi:X.N[i]?=some x:=by rfl)(hx:Loc X.env.scope x:=by first|exact Or.inl rfl|exact Or.inr rfl)(hs:swapsWith e (some (.Name x pos')) pos.line X.env=pure false:=by rfl)(hf:X.fn x=true\/X.env.scope.names.lookup x=some .local:=by first|exact .inl rfl|exact .inr rfl|assumption) :
  PS X (.Assign [.Name x pos'] e pos) (G_ te (aU i)):=Ag hN hi hx he hs hf
def pgz(i:Nat)(hN:X.N.Nodup)(hi:X.N[i]?=some x:=by rfl)(hx:Loc X.env.scope x:=by first|exact Or.inl rfl|exact Or.inr rfl)(hf:X.fn x=true\/X.env.scope.names.lookup x=some .local:=by first|exact .inl rfl|exact .inr rfl|assumption):PG X (.Name x pos) (aU i):=bG hN hi hx hf
end
class StC(N:List Str)(vs:List V)(σ:outParam St):Prop where
 e:start N vs=σ
instance ahs:StC [] [] []:=⟨rfl⟩
instance afR{x:Str}{N:List Str}{σ:St}[h:StC N [] σ]:StC (x::N) [] (none::σ):=⟨by rw[<- h.e];rfl⟩
instance afS{x:Str}{N:List Str}{v:V}{vs:List V}{σ:St}[h:StC N vs σ]:StC (x::N) (v::vs) (some v::σ):=⟨by
 rw[<- h.e];unfold start;rw[mS,mS,Nat.add_sub_add_right]
 rfl⟩
def stE{N:List Str}{vs:List V}{σ:St}[h:StC N vs σ]:start N vs=σ:=h.e
def om{H0:Hp}{a:Addr}{o:HO}(h:H0 a=some o):Old H0 [] a o:=Old.mk h nm0
def SH.n0(H:Hp):SH H [] H [] []:=SH.nil
def SN{t:TS}{D:Ends}{σ:L2.St}{H:Hp}(I:L2.St->Hp->Prop)(hr:∀σ H,I σ H->D.nx σ H)(ht:∀(n:L2.St->Hp->Prop)(r:VK)(b c:L2.St->Hp->Prop),(∀σ H,I σ H->n σ H)->(∀v H,D.rt v H->r v H)->t ⟨n,r,b,c⟩ σ H):t D σ H:=by
 rcases D with⟨n,r,b,c⟩;exact ht n r b c hr λ_ _ h=>h
def YM{g:TG}{t:TS}{D:Ends}{x:V}{σ:L2.St}{H:Hp}(h:∀(n:L2.St->Hp->Prop)(r:VK)(b c:L2.St->Hp->Prop),(∀{σ H},D.nx σ H->n σ H)->(∀{v H},D.rt v H->r v H)->(∀{σ H},D.bk σ H->b σ H)->(∀{σ H},D.ct σ H->c σ H)->g x σ H λσ2 H2=>t ⟨n,r,b,c⟩ σ2 H2):g x σ H λσ2 H2=>t D σ2 H2 :=
 h D.nx D.rt D.bk D.ct id id id id
inductive Ex3{A B C:Type}(p:A->B->C->Prop):Prop
 | mk:∀a b c,p a b c->Ex3 p
inductive Ex4{A B C D:Type}(p:A->B->C->D->Prop):Prop
 | mk:∀a b c d,p a b c d->Ex4 p
inductive Ex5{A B C D E:Type}(p:A->B->C->D->E->Prop):Prop
 | mk:∀a b c d e,p a b c d e->Ex5 p
inductive Ex6{A B C D E F:Type}(p:A->B->C->D->E->F->Prop):Prop
 | mk:∀a b c d e f,p a b c d e f->Ex6 p
inductive Ex7{A B C D E F G:Type}(p:A->B->C->D->E->F->G->Prop):Prop
 | mk:∀a b c d e f g,p a b c d e f g->Ex7 p
inductive Ex8{A B C D E F G H:Type}(p:A->B->C->D->E->F->G->H->Prop):Prop
 | mk:∀a b c d e f g h,p a b c d e f g h->Ex8 p
inductive Ex9{A B C D E F G H I:Type}(p:A->B->C->D->E->F->G->H->I->Prop):Prop
 | mk:∀a b c d e f g h i,p a b c d e f g h i->Ex9 p
inductive SQ{A B C D E F G H I J:Type}(p:A->B->C->D->E->F->G->H->I->J->Prop):Prop
 | mk:∀a b c d e f g h i j,p a b c d e f g h i j->SQ p
inductive Xc{A B C D E F G H I J K:Type}(p:A->B->C->D->E->F->G->H->I->J->K->Prop):Prop
 | mk:∀a b c d e f g h i j k,p a b c d e f g h i j k->Xc p
inductive ad0{A B C D E F G H I J K L:Type}(p:A->B->C->D->E->F->G->H->I->J->K->L->Prop):Prop
 | mk:∀a b c d e f g h i j k l,p a b c d e f g h i j k l->ad0 p
inductive ad1{A B C D E F G H I J K L M:Type}(p:A->B->C->D->E->F->G->H->I->J->K->L->M->Prop):Prop
 | mk:∀a b c d e f g h i j k l m,p a b c d e f g h i j k l m->ad1 p
inductive ad2{A B C D E F G H I J K L M N:Type}(p:A->B->C->D->E->F->G->H->I->J->K->L->M->N->Prop):Prop
 | mk:∀a b c d e f g h i j k l m n,p a b c d e f g h i j k l m n->ad2 p
inductive An3(A B C:Prop):Prop
 | mk:A->B->C->An3 A B C
inductive An4(A B C D:Prop):Prop
 | mk:A->B->C->D->An4 A B C D
inductive An5(A B C D E:Prop):Prop
 | mk:A->B->C->D->E->An5 A B C D E
inductive An6(A B C D E F:Prop):Prop
 | mk:A->B->C->D->E->F->An6 A B C D E F
inductive An7(A B C D E F G:Prop):Prop
 | mk:A->B->C->D->E->F->G->An7 A B C D E F G
inductive An8(A B C D E F G H:Prop):Prop
 | mk:A->B->C->D->E->F->G->H->An8 A B C D E F G H
inductive An9(A B C D E F G H I:Prop):Prop
 | mk:A->B->C->D->E->F->G->H->I->An9 A B C D E F G H I
inductive Xd(A B C D E F G H I J:Prop):Prop
 | mk:A->B->C->D->E->F->G->H->I->J->Xd A B C D E F G H I J
inductive ad3(A B C D E F G H I J K L M N:Prop):Prop
 | mk:A->B->C->D->E->F->G->H->I->J->K->L->M->N->ad3 A B C D E F G H I J K L M N
end L2
set_option maxHeartbeats 4000000
namespace L2
open PySem PySem.Spec PyProof.Rows
class Ev(t:TE)(σ:L2.St)(H:Hp)(v:outParam V):Prop where
 e:∀Q:VK,Q v H->t σ H Q
class EvL(t:TA)(σ:L2.St)(H:Hp)(vs:outParam (List V)):Prop where
 e:∀Q:List V->Hp->Prop,Q vs H->t σ H Q
section
variable{K:W.Frag}{a b t:TE}{ta:TA}{σ r:L2.St}{H:Hp}{Q:VK}{v:V}{vs xs:List V}{i j:Int}{p:Addr}{k:Bool}{f:Int->Int->V}{g:Int->V}{D:Ends}{sp:Sp}{E:XK}{tg:TG}
 {o0 o1 o2 o3 o4 o5 o6 o7 o8 o9 o10 o11 o12:Option V}
instance ajM:Ev (tC v) σ H v:=⟨λ_ h=>h⟩
instance aiU:Ev (cR 0) (some v::r) H v:=⟨λ_=>wv0⟩
instance aiV:Ev (cR 1) (o0::some v::r) H v:=⟨λ_=>wv1⟩
instance aiW:Ev (cR 2) (o0::o1::some v::r) H v:=⟨λ_=>wv2⟩
instance aiX:Ev (cR 3) (o0::o1::o2::some v::r) H v:=⟨λ_=>wv3⟩
instance aiY:Ev (cR 4) (o0::o1::o2::o3::some v::r) H v:=⟨λ_=>wv4⟩
instance aiZ:Ev (cR 5) (o0::o1::o2::o3::o4::some v::r) H v:=⟨λ_=>wv5⟩
instance ai0:Ev (cR 6) (o0::o1::o2::o3::o4::o5::some v::r) H v:=⟨λ_=>wv6⟩
instance ai1:Ev (cR 7) (o0::o1::o2::o3::o4::o5::o6::some v::r) H v:=⟨λ_=>wv7⟩
instance ai2:Ev (cR 8) (o0::o1::o2::o3::o4::o5::o6::o7::some v::r) H v:=⟨λ_=>wv8⟩
instance ai3:Ev (cR 9) (o0::o1::o2::o3::o4::o5::o6::o7::o8::some v::r) H v:=⟨λ_=>wv9⟩
instance aht:Ev (cR 10) (o0::o1::o2::o3::o4::o5::o6::o7::o8::o9::some v::r) H v:=⟨λ_=>ZX⟩
instance ahu:Ev (cR 11) (o0::o1::o2::o3::o4::o5::o6::o7::o8::o9::o10::some v::r) H v:=⟨λ_=>Z0⟩
instance ahv:Ev (cR 12) (o0::o1::o2::o3::o4::o5::o6::o7::o8::o9::o10::o11::some v::r) H v:=⟨λ_=>Z1⟩
instance ai4[A:Ev a σ H (.int i)][B:Ev b σ H (.int j)]:Ev (tOp (rI0 f) a b) σ H (f i j):=⟨λ_ h=>A.e _ (B.e _ (Z2 h))⟩
instance ahw[A:Ev a σ H (.int i)][B:Ev b σ H (.int j)]:Ev (tOp rEq a b) σ H (.bl (decide (i=j))):=⟨λ_ h=>A.e _ (B.e _ (Q5 h))⟩
instance ahx[A:Ev a σ H (.int i)][B:Ev b σ H (.int j)]:Ev (tOp rNe a b) σ H (.bl (!decide (i=j))):=⟨λ_ h=>A.e _ (B.e _ (Q6 h))⟩
instance ajN[A:Ev a σ H (.int i)]:Ev (tUn (rU g) a) σ H (g i):=⟨λ_ h=>A.e _ (w_u h)⟩
instance ahy[A:Ev a σ H (.ref p)][B:Ev b σ H (.int i)][h:SqA K H p xs][e:AtI xs i v]:Ev (tOp (Ql K) a b) σ H v:=⟨λ_ q=>A.e _ (B.e _ (Dv h.e e.e q))⟩
instance ahz[A:Ev a σ H (.ref p)][B:Ev b σ H (.int i)][h:SqB K H p xs][e:AtI xs i v]:Ev (tOp (Ht K) a b) σ H v:=⟨λ_ q=>A.e _ (B.e _ (Rb h.e e.e q))⟩
instance afT[A:Ev a σ H (.ref p)][h:SqB K H p xs]:Ev (tCB (Dw K) (iK a nQ)) σ H (.int xs.length):=⟨λ_ q=>A.e _ (Rf h.e q)⟩
instance afU[A:Ev a σ H (.ref p)][h:SqA K H p xs]:Ev (tCB (Dw K) (iK a nQ)) σ H (.int xs.length):=⟨λ_ q=>A.e _ (Ib h.e q)⟩
instance ahA[A:Ev a σ H (.int i)][B:Ev b σ H (.int j)]:Ev (tCB Rg (iK a (iK b nQ))) σ H (.int (min i j)):=⟨λ_ h=>A.e _ (B.e _ (Ys h))⟩
instance ahB[A:Ev a σ H (.int i)][B:Ev b σ H (.int j)]:Ev (tCB Km (iK a (iK b nQ))) σ H (.int (max i j)):=⟨λ_ h=>A.e _ (B.e _ (Rh h))⟩
instance ahC:EvL nQ σ H []:=⟨λ_ h=>h⟩
instance afV[A:Ev a σ H v][B:EvL ta σ H vs]:EvL (iK a ta) σ H (v::vs):=⟨λ_ h=>A.e _ (B.e _ h)⟩
instance (priority:=high) ai5 {q:R2} [A:Ev (tOp q a b) σ H v]:Go (tOp q a b σ H Q) (Q v H):=⟨A.e Q⟩
instance (priority:=high) ai6 {q:V->Hp->VK->Prop} [A:Ev (tUn q a) σ H v]:Go (tUn q a σ H Q) (Q v H):=⟨A.e Q⟩
instance (priority:=high+1) ai7 {q:List V->Hp->VK->Prop} [A:Ev (tCB q ta) σ H v]:Go (tCB q ta σ H Q) (Q v H):=⟨A.e Q⟩
instance (priority:=high) ahD {q:List V->Hp->VK->Prop} [A:EvL ta σ H vs]:Go (tCB q ta σ H Q) (q vs H Q):=⟨λh=>A.e (λws H1=>q ws H1 Q) h⟩
instance (priority:=high) afW [A:EvL ta σ H vs]:Go (C_ sp [] E ta σ H Q) (sp vs H Q E):=⟨λh=>w_call (A.e _ h)⟩
instance (priority:=high) afX {R:Bool->Hp->Prop} [A:Ev t σ H (.bl k)]:Go (CZ t σ H R) (R k H):=⟨λh=>A.e _ ⟨k,rfl,h⟩⟩
instance (priority:=high) ahE [A:Ev t σ H v]:Go (G_ t tg D σ H) (tg v σ H D.nx):=⟨λh=>A.e _ h⟩
instance (priority:=high) ahF [A:Ev t σ H v]:Go (V2 t D σ H) (D.rt v H):=⟨λh=>A.e _ h⟩
end
end L2
namespace M22
abbrev Sc:=List (Nat×Nat)×Nat×Nat
def stp(st:Sc)(b:Bool):Sc:=if b then (st.1,st.2.1+1,st.2.2+1) else if 0<st.2.1 then (st.1++[(st.2.2-st.2.1,st.2.1)],0,st.2.2+1) else (st.1,0,st.2.2+1)
def scan(fs:xE):Sc:=fs.foldl stp ([],0,0)
def jX(fs:xE):List (Nat×Nat):=if 0<(scan fs).2.1 then (scan fs).1++[((scan fs).2.2-(scan fs).2.1,(scan fs).2.1)] else (scan fs).1
def scan_snoc(fs:xE)(b:Bool):scan (fs++[b])=stp (scan fs) b:=by unfold scan;rw[List.foldl_append];rfl
def snoc_ind{P:List Bool->Prop}(h0:P [])(h1:∀fs b,P fs->P (fs++[b]))(fs:xE):P fs:=by
 have:∀r:List Bool,P r.reverse:=by
  intro r
  induction r with
  | nil=>exact h0
  | cons a t ih=>rw[List.reverse_cons];exact h1 _ _ ih
 have:=this fs.reverse
 rwa [List.reverse_reverse] at this
def scan_len(fs:xE):(scan fs).2.2=fs.length:=by
 refine snoc_ind (P:=λfs=>(scan fs).2.2=fs.length) rfl (λfs b ih=>?_) fs;rw[scan_snoc,yB,List.length_singleton,<- ih];unfold stp;split
 ·rfl
 ·split <;> rfl
def IV(fs:xE):(scan (fs++[false])).1=jX fs/\(scan (fs++[false])).2.1=0:=by
 rw[scan_snoc];unfold stp jX;simp only[Bool.false_eq_true,if_false];split <;> exact⟨rfl,rfl⟩
structure Ok(fs:xE)(st:Sc):Prop where
 le:st.2.1<=fs.length
 tail:∀j,fs.length-st.2.1<=j->j<fs.length->fs[j]?=some true
 edge:st.2.1=0->fs=[]\/fs[fs.length-1]?=some false
 hs:∀x∈st.1,1<=x.2/\x.1+x.2<=fs.length/\∀j,x.1<=j->j<x.1+x.2->fs[j]?=some true
 sm:(st.1.map (·.2)).sum+st.2.1=fs.count true
theorem Xe(fs:xE):Ok fs (scan fs):=by
 refine snoc_ind (P:=λfs=>Ok fs (scan fs)) ⟨by decide,λj _ h=>gL h (Nat.not_lt_zero _),λ_=>.inl rfl,(λx hx=>by cases hx),rfl⟩ (λfs b ih=>?_) fs;obtain⟨h1,h2,h3,h4,h5⟩:=ih;have up:∀j,j<fs.length->(fs++[b])[j]?=fs[j]?:=λj hj=>yY hj
 have at_:(fs++[b])[fs.length]?=some b:=by rw[nE (uC _),Nat.sub_self];rfl
 have hl:(fs++[b]).length=fs.length+1:=by simp
 have sl:=scan_len fs;have old:∀x∈(scan fs).1,1<=x.2/\x.1+x.2<=(fs++[b]).length/\∀j,x.1<=j->j<x.1+x.2->(fs++[b])[j]?=some true:=λx hx=>by
  obtain⟨a1,a2,a3⟩:=h4 x hx;exact⟨a1,by lia,λj p q=>by rw[up j (by lia)];exact a3 j p q⟩
 have hc:(fs++[b]).count true=fs.count true+(if b then 1 else 0):=by rw[List.count_append];cases b <;> rfl
 rw[scan_snoc];unfold stp;cases b with
 | true =>
  rw[zS rfl];refine⟨by show _+1<=_;lia,λj p q=>?_,λh=>gL h (Nat.succ_ne_zero _),old,?_⟩
  ·by_cases hj:j<fs.length
   ·rw[up j hj];have p':(fs++[true]).length-((scan fs).2.1+1)<=j:=p;exact h2 j (by lia) hj
   ·rw[show j=fs.length by lia];exact at_
  ·show _+(_+1)=_;rw[hc,<- h5];simp only[if_true]
   lia
 | false =>
  simp only[Bool.false_eq_true,if_false] at hc ⊢;by_cases hz:0<(scan fs).2.1
  ·rw[zS hz];refine⟨Nat.zero_le _,λj p q=>?_,λ_=>.inr (by rw[hl];exact at_),λx hx=>?_,?_⟩
   ·have p':(fs++[false]).length-0<=j:=p
    lia
   ·rcases wP.mp hx with hx|hx
    ·exact old x hx
    ·rw[uS.mp hx];refine⟨hz,by show _-_+_<=_;lia,λj p q=>?_⟩;have p':(scan fs).2.2-(scan fs).2.1<=j:=p;have q':j<(scan fs).2.2-(scan fs).2.1+(scan fs).2.1:=q;rw[up j (by lia)];exact h2 j (by lia) (by lia)
   ·rw[hc,<- h5,List.map_append,List.sum_append];simp
  ·rw[yA hz];refine⟨Nat.zero_le _,λj p q=>?_,λ_=>.inr (by rw[hl];exact at_),old,by show ((scan fs).1.map (·.2)).sum+0=_;rw[hc,<- h5];lia⟩;have p':(fs++[false]).length-0<=j:=p
   lia
def jY{α:Type}(fs:List α)(a i:Nat)(b:α):List α:=fs.take a++List.replicate i b++fs.drop (a+i)
def Ec{α:Type}{fs:List α}{a i:Nat}{b:α}(h:a+i<=fs.length):(jY fs a i b).length=fs.length:=by
 unfold jY;rw[yB,yB,oQ,mM,zzA]
 lia
def Od{α:Type}{fs:List α}{a:Nat}{b:α}:jY fs a 0 b=fs:=by unfold jY;simp
def SX{α:Type}{fs:List α}{a i:Nat}{b:α}(h:a+i<fs.length):(jY fs a i b).set (a+i) b=jY fs a (i+1) b:=by
 unfold jY;have hd:fs.drop (a+i)=fs[a+i]::fs.drop (a+(i+1)):=by rw[List.drop_eq_getElem_cons h];rfl
 rw[hd,List.set_append_right _ _ (by rw[yB,oQ,mM];lia)];have:a+i-(fs.take a++List.replicate i b).length=0:=by rw[yB,oQ,mM];lia
 rw[this,List.set_cons_zero,List.replicate_succ'];simp
def Ed{α β:Type}{f:α->β}{fs:List α}{a i:Nat}{b:α}:(jY fs a i b).map f=jY (fs.map f) a i (f b):=by unfold jY;simp
end M22
namespace M82
open L2
structure OkA(e n:Nat)(rs:List Rw):Prop where
 asc:rs.Pairwise λr s=>r.st+r.sz<=s.st
 bd:∀r∈rs,e<=r.st/\1<=r.sz/\r.st+r.sz<=n
theorem OkA.tail{e n:Nat}{r:Rw}{rs:List Rw}(h:OkA e n (r::rs)):OkA (r.st+r.sz) n rs :=
 ⟨(mN.mp h.asc).2,λs hs=>⟨(mN.mp h.asc).1 s hs,(h.bd s (.tail _ hs)).2⟩⟩
def OkA.hd{e n:Nat}{r:Rw}{rs:List Rw}(h:OkA e n (r::rs)):e<=r.st/\1<=r.sz/\r.st+r.sz<=n:=h.bd r (.head _)
def OkA.cons{e n:Nat}{r:Rw}{rs:List Rw}(h:e<=r.st/\1<=r.sz/\r.st+r.sz<=n)(t:OkA (r.st+r.sz) n rs):OkA e n (r::rs) :=
 ⟨mN.mpr ⟨λs hs=>(t.bd s hs).1,t.asc⟩,λs hs=>by
  rcases vS.mp hs with rfl|hs
  ·exact h
  ·have:=t.bd s hs
   lia⟩
theorem OkA.nil{e n:Nat}:OkA e n []:=⟨.nil,λ_ h=>by cases h⟩
def oE(r:Rw)(s:Nat):Rw:=⟨r.nm,s,r.sz,r.pn⟩
def dnT(e:Nat)(r:Rw):Nat:=if 0<r.pn then r.st else e
def dnR:Nat->List Rw->List Rw
 | _,[]=>[]
 | e,r::rs=>oE r (dnT e r)::dnR (dnT e r+r.sz) rs
abbrev Mv:=Nat×List Nat×Nat
def upT(b:Nat)(r:Rw):Nat:=if 0<r.pn then r.st else b-r.sz
def upB(b:Nat)(rs:List Rw):Nat:=rs.foldl upT b
def upR:Nat->List Rw->List Rw
 | _,[]=>[]
 | b,r::rs=>oE r (upT b r)::upR (upT b r) rs
def upL(n:Nat):List Rw->List Rw×Nat
 | []=>([],n)
 | r::rs=>(oE r (upT (upL n rs).2 r)::(upL n rs).1,upT (upL n rs).2 r)
def iT(T:List Rw):Nat->Nat
 | 0=>0
 | j+1=>match T[j]? with
  | some r=>r.st+r.sz
  | none=>0
def dU(n:Nat)(T:List Rw)(k:Nat):Nat:=match T[k+1]? with
 | some r=>r.st
 | none=>n
def mvT(T:List Rw)(k to:Nat):List Rw:=T.modify k λr=>oE r to
def WOk(n:Nat):List Rw->List Mv->Prop
 | _,[]=>True
 | T,m::ms=>(∃r,T[m.1]?=some r/\r.nm=m.2.1/\r.pn=0/\iT T m.1<=m.2.2/\m.2.2+r.sz<=dU n T m.1)/\WOk n (mvT T m.1 m.2.2) ms
def bV(T:List Rw)(ms:List Mv):List Rw:=ms.foldl (λT m=>mvT T m.1 m.2.2) T
def wPr(T:List Rw)(m:Mv):Nat:=match T[m.1]? with
 | some r=>if m.2.2=r.st then 0 else r.sz
 | none=>0
def cu:List Rw->List Mv->Nat
 | _,[]=>0
 | T,m::ms=>wPr T m+cu (mvT T m.1 m.2.2) ms
theorem Bl(P:List Rw)(r:Rw)(Q:List Rw)(to:Nat):mvT (P++r::Q) P.length to=P++oE r to::Q:=by
 unfold mvT
 induction P with
 | nil=>rfl
 | cons p P ih=>simp only[List.cons_append,List.length_cons,List.modify_succ_cons,ih]
def Bo(P:List Rw)(r:Rw)(Q:List Rw):(P++r::Q)[P.length]?=some r:=by rw[nE (uC _),Nat.sub_self];rfl
def uQ(n:Nat)(P:List Rw)(r:Rw)(Q:List Rw):dU n (P++r::Q) P.length=match Q with|[]=>n|s::_=>s.st:=by
 unfold dU;rw[nE (by lia),show P.length+1-P.length=1 by lia];cases Q <;> rfl
def S5:List Rw->Nat
 | []=>0
 | r::rs=>match rs with
  | []=>r.st+r.sz
  | _=>S5 rs
theorem jG(P:List Rw)(r:Rw):S5 (P++[r])=r.st+r.sz:=by
 induction P with
 | nil=>rfl
 | cons p P ih =>
  cases P with
  | nil=>rfl
  | cons q P=>exact ih
def Bp(P:List Rw)(r:Rw)(Q:List Rw):iT (P++r::Q) P.length=S5 P:=by
 rcases List.eq_nil_or_concat P with rfl|⟨P,p,rfl⟩
 ·rfl
 ·rw[List.concat_eq_append,jG];have:(P++[p]++r::Q)[P.length]?=some p:=by rw[vF];exact Bo P p _
  rw[show (P++[p]).length=P.length+1 by simp];simp only[iT,this]
def IW(n:Nat):List Rw->Nat
 | []=>n
 | r::_=>r.st
def gU(n:Nat):Int->Int->List Rw->List (Int×Int×Int)
 | f,u,[]=>[(f,(n:Int),(n:Int)-f-u)]
 | f,u,r::rs=>if 0<r.pn then (f,(r.st:Int),(r.st:Int)-f-u)::gU n ((r.st:Int)+(r.sz:Int)) 0 rs else gU n f (u+(r.sz:Int)) rs
def Ef(e b:Int):List (Int×Int):=if e<b then [(e,b-e)] else []
def lN{e b:Int}(h:e<b):Ef e b=[(e,b-e)]:=zS h
def lO{e b:Int}(h:¬ e<b):Ef e b=[]:=yA h
def jw(n:Nat):Int->List Rw->List (Int×Int)
 | e,[]=>Ef e (n:Int)
 | e,r::rs=>Ef e (r.st:Int)++jw n ((r.st:Int)+(r.sz:Int)) rs
def ahG(d:Bool)(w:Int×Int×Int):List (Int×Int):=if 0<w.2.2 then [(if d=true then w.2.1-w.2.2 else w.1,w.2.2)] else []
def ai8(d:Bool)(ws:List (Int×Int×Int)):List (Int×Int):=ws.flatMap (ahG d)
end M82
namespace M87
open L2 M82
abbrev Sp2:=Rw×Int
def plc:Int->List Rw->List Sp2
 | _,[]=>[]
 | a,r::rs=>(r,a)::plc (a+(r.sz:Int)) rs
def szs(A:List Rw):Int:=(A.map λr=>(r.sz:Int)).sum
def jn(f b:Int)(g:Nat)(A:List Rw):List Sp2:=plc f (A.take g)++plc (b-szs (A.drop g)) (A.drop g)
def mv(ss:List Sp2):List Sp2:=ss.filter λs=>decide (s.2≠(s.1.st:Int))
def pri(ss:List Sp2):Int:=((mv ss).map λs=>(s.1.sz:Int)).sum
def chc(f b:Int)(g:Nat)(A:List Rw):List Sp2:=mv (plc f (A.take g))++(mv (plc (b-szs (A.drop g)) (A.drop g))).reverse
def fV:szs []=0:=rfl
def fj(r:Rw)(A:List Rw):szs (r::A)=(r.sz:Int)+szs A:=by unfold szs;rw[List.map_cons,List.sum_cons]
def Bq(A B:List Rw):szs (A++B)=szs A+szs B:=by unfold szs;rw[List.map_append,List.sum_append]
def uR(A:List Rw)(g:Nat):szs (A.take g)+szs (A.drop g)=szs A:=by rw[<- Bq,jI]
def I_(a b:List Sp2):mv (a++b)=mv a++mv b:=List.filter_append ..
def pX(f b:Int)(g:Nat)(A:List Rw):(chc f b g A).Perm (mv (jn f b g A)):=by
 unfold chc jn;rw[I_];exact(List.reverse_perm _).append_left _
theorem Eh{a b:List Int}(h:a.Perm b):a.sum=b.sum:=by
 induction h with
 | nil=>rfl
 | cons x _ ih=>simp only[List.sum_cons,ih]
 | swap x y l=>simp only[List.sum_cons];lia
 | trans _ _ a b=>exact a.trans b
def ad4{a b:List Sp2}(h:a.Perm b):(a.map λs=>(s.1.sz:Int)).sum=(b.map λs=>(s.1.sz:Int)).sum:=Eh (h.map _)
def Xf(f b:Int)(g:Nat)(A:List Rw):((chc f b g A).map λs=>(s.1.sz:Int)).sum=pri (jn f b g A):=ad4 (pX f b g A)
theorem Br(a:Int)(A:List Rw):(plc a A).map (·.1)=A:=by
 induction A generalizing a with
 | nil=>rfl
 | cons r A ih=>rw[plc,oS,ih]
def uT(f b:Int)(g:Nat)(A:List Rw):(jn f b g A).map (·.1)=A:=by
 unfold jn;rw[List.map_append,Br,Br,jI]
def fm(p:Nat->Int):Nat->Nat
 | 0=>0
 | m+1=>if p (m+1)<p (fm p m) then m+1 else fm p m
structure S6(p:Nat->Int)(m g:Nat):Prop where
 le:g<=m
 b:∀j,j<=m->p g<=p j/\(j<g->p g<p j)
theorem YQ(p:Nat->Int)(m:Nat):S6 p m (fm p m):=by
 induction m with
 | zero=>exact⟨uC _,λj h=>by
  have:j=0:=by lia
  subst this;exact⟨Int.le_refl _,λz=>gL z (qS _)⟩⟩
 | succ m ih =>
  have:=ih.le;rw[fm];split
  ·rename_i h;refine⟨uC _,λj hj=>?_⟩;by_cases e:j=m+1
   ·subst e;exact⟨Int.le_refl _,λz=>gL z (qS _)⟩
   ·have:=ih.b j (by lia);exact⟨by lia,λ_=>by lia⟩
  ·rename_i h;refine⟨by lia,λj hj=>?_⟩;by_cases e:j=m+1
   ·subst e;exact⟨by lia,λz=>by lia⟩
   ·exact ih.b j (by lia)
def S6.one{p:Nat->Int}{m g h:Nat}(a:S6 p m g)(b:S6 p m h):g=h:=by
 rcases Nat.lt_trichotomy g h with q|q|q
 ·have:=(b.b g a.le).2 q;have:=(a.b h b.le).1
  lia
 ·exact q
 ·have:=(a.b h b.le).2 q;have:=(b.b g a.le).1
  lia
def gp0(f b:Int)(A:List Rw):Nat:=fm (λg=>pri (jn f b g A)) A.length
def best(f b:Int)(A:List Rw):List Sp2:=jn f b (gp0 f b A) A
def fu(n:Nat):Int->List Rw->List Rw->List Sp2
 | f,A,[]=>best f n A
 | f,A,r::rs=>if 0<r.pn then best f r.st A++(r,(r.st:Int))::fu n ((r.st:Int)+(r.sz:Int)) [] rs else fu n f (A++[r]) rs
abbrev S3:=Int×Int×List Rw
def cC(n:Nat):Int->List Rw->List Rw->List S3
 | f,A,[]=>[(f,(n:Int),A)]
 | f,A,r::rs=>if 0<r.pn then (f,(r.st:Int),A)::cC n ((r.st:Int)+(r.sz:Int)) [] rs else cC n f (A++[r]) rs
def toW(w:S3):Int×Int×Int:=(w.1,w.2.1,w.2.1-w.1-szs w.2.2)
theorem Ja(n:Nat)(rs:List Rw):∀(f:Int)(A:List Rw),(cC n f A rs).map toW=gU n f (szs A) rs:=by
 induction rs with
 | nil=>intro f A;rfl
 | cons r rs ih =>
  intro f A;rw[cC,gU];split
  ·rw[oS,ih];rfl
  ·rw[ih,Bq];rw[fj,fV,Int.add_zero]
theorem tO{b:Int}:∀(A:List Rw)(f:Int),A.Pairwise (λr s=>r.st+r.sz<=s.st)->(∀r∈A,f<=(r.st:Int)/\(r.st:Int)+(r.sz:Int)<=b)->f<=b->f+szs A<=b:=by
 intro A
 induction A with
 | nil=>intro f _ _ h;rw[fV];lia
 | cons r A ih =>
  intro f p h hf;obtain⟨p1,p2⟩:=mN.mp p;have h1:=h r (.head _);have:=ih ((r.st:Int)+(r.sz:Int)) p2 (λs hs=>⟨by have:=p1 s hs;lia,(h s (.tail _ hs)).2⟩) h1.2;rw[fj]
  lia
def inI(f b:Int)(r:Rw):Bool:=decide (f<=(r.st:Int)) && decide ((r.st:Int)<b)
def K3{f b:Int}{B:List Rw}(h:∀r∈B,f<=(r.st:Int)/\(r.st:Int)<b):B.filter (inI f b)=B:=List.filter_eq_self.mpr λr hr=>by
 have:=h r hr;unfold inI;rw[gX this.1,gX this.2]
 rfl
def uU{f b:Int}{B:List Rw}(h:∀r∈B,(r.st:Int)<f\/b<=(r.st:Int)):B.filter (inI f b)=[]:=List.filter_eq_nil_iff.mpr λr hr=>by
 unfold inI;rcases h r hr with h|h
 ·rw[decide_eq_false (by lia)];simp
 ·rw[decide_eq_false (p:=(r.st:Int)<b) (by lia)];simp
structure S7(r0:List Rw)(n:Nat)(w:S3):Prop where
 flt:r0.filter (inI w.1 w.2.1)=w.2.2
 un:∀r∈w.2.2,r.pn=0
 fit:w.1+szs w.2.2<=w.2.1
 lo:0<=w.1
 hi:w.2.1<=(n:Int)
theorem Xg{n:Nat}{r0:List Rw}(ok:OkA 0 n r0):∀(rs Z A:List Rw)(f:Int),r0=Z++A++rs->(∀a∈Z,(a.st:Int)<f)->(∀b∈A,f<=(b.st:Int))->(∀s∈rs,f<=(s.st:Int))->(∀b∈A,b.pn=0)->0<=f->f<=(n:Int) ->
  ∀w∈cC n f A rs,S7 r0 n w:=by
 intro rs
 induction rs with
 | nil =>
  intro Z A f e hZ hA _ hu h0 hn w hw;rw[cC] at hw;rw[uS.mp hw];have aw:=ok.asc;rw[e,mE,mI] at aw;refine⟨?_,hu,tO A f aw.2.1 (λr hr=>⟨hA r hr,by have:=ok.bd r (by rw[e];simp[hr]);show (r.st:Int)+(r.sz:Int)<=(n:Int);lia⟩) hn,h0,Int.le_refl _⟩;rw[e,List.append_nil,List.filter_append,uU λr hr=>.inl (hZ r hr),K3 λr hr=>⟨hA r hr,by have:=ok.bd r (by rw[e];simp[hr]);show (r.st:Int)<n;lia⟩]
  rfl
 | cons r rs ih =>
  intro Z A f e hZ hA hs hu h0 hn w hw;have aw:=ok.asc;rw[e,mI] at aw;have aw1:=mI.mp aw.1;have aw2:=mN.mp aw.2.1;have br:=ok.bd r (by rw[e];simp);rw[cC] at hw;by_cases hp:0<r.pn
  ·rw[zS hp] at hw;rcases vS.mp hw with rfl|hw
   ·have hx:∀a∈A,a.st+a.sz<=r.st:=λa ha=>aw.2.2 a (by simp[ha]) r (by simp)
    refine⟨?_,hu,tO A f aw1.2.1 (λa ha=>⟨hA a ha,by have:=hx a ha;show (a.st:Int)+a.sz<=r.st;lia⟩) (hs r (.head _)),h0,by show (r.st:Int)<=n;lia⟩;show r0.filter (inI f r.st)=A;rw[e,List.filter_append,List.filter_append,uU λr hr=>.inl (hZ r hr),K3 λa ha=>⟨hA a ha,by have:=hx a ha;have:=ok.bd a (by rw[e];simp[ha]);lia⟩,uU (B:=r::rs) λs hs=>.inr (by
     rcases vS.mp hs with rfl|hs
     ·lia
     ·have:=aw2.1 s hs;lia)]
    simp
   ·exact ih (Z++A++[r]) [] ((r.st:Int)+(r.sz:Int)) (by rw[e];simp) (λa ha=>by
     rcases wP.mp ha with ha|ha
     ·have:=aw.2.2 a ha r (by simp);have:=ok.bd a (by rw[e];exact List.mem_append_left _ ha);lia
     ·rw[uS.mp ha];lia) (λb hb=>by cases hb) (λs hs=>by have:=aw2.1 s hs;lia) (λb hb=>by cases hb) (by lia) (by lia) w hw
  ·rw[yA hp] at hw;exact ih Z (A++[r]) f (by rw[e];simp) hZ (λb hb=>by
    rcases wP.mp hb with hb|hb
    ·exact hA b hb
    ·rw[uS.mp hb];exact hs r (.head _)) (λs h=>hs s (.tail _ h)) (λb hb=>by
    rcases wP.mp hb with hb|hb
    ·exact hu b hb
    ·rw[uS.mp hb];lia) h0 hn w hw
def Bs{n:Nat}{rs:List Rw}(ok:OkA 0 n rs):∀w∈cC n 0 [] rs,S7 rs n w:=Xg ok rs [] [] 0 rfl (λ_ h=>by cases h) (λ_ h=>by cases h) (λs _=>by lia) (λ_ h=>by cases h) (Int.le_refl _) (by lia)
theorem S8(n:Nat)(rs:List Rw):∀(f:Int)(A:List Rw),mv (fu n f A rs)=(cC n f A rs).flatMap λw=>mv (best w.1 w.2.1 w.2.2):=by
 induction rs with
 | nil=>intro f A;simp[fu,cC]
 | cons r rs ih =>
  intro f A;rw[fu,cC];split
  ·rw[I_,List.flatMap_cons,<- ih]
   congr 1
   unfold mv;rw[List.filter_cons_of_neg (by simp)]
  ·exact ih f _
def uV(f b:Int)(A:List Rw):(best f b A).map (·.1)=A:=uT ..
theorem Ei(n:Nat)(rs:List Rw):∀(f:Int)(A:List Rw),(fu n f A rs).map (·.1)=A++rs:=by
 induction rs with
 | nil=>intro f A;rw[fu,uV,mE]
 | cons r rs ih =>
  intro f A;rw[fu];split
  ·rw[List.map_append,oS,ih,uV];rfl
  ·rw[ih,vF];rfl
def ChS(b:Int):Int->List Sp2->Prop
 | e,[]=>e<=b
 | e,s::ss=>e<=s.2/\ChS b (s.2+(s.1.sz:Int)) ss
theorem ChS.mono{b:Int}:∀{ss:List Sp2} {e e':Int},ChS b e ss->e'<=e->ChS b e' ss
 | [],_,_,h,l=>Int.le_trans l h
 | _::_,_,_,h,l=>⟨Int.le_trans l h.1,h.2⟩
theorem ChS.app{b c:Int}{ys:List Sp2}:∀{xs:List Sp2} {e:Int},ChS c e xs->ChS b c ys->ChS b e (xs++ys)
 | [],_,h,g=>g.mono h
 | _::_,_,h,g=>⟨h.1,ChS.app h.2 g⟩
theorem S9{b:Int}:∀(A:List Rw)(a:Int),a+szs A<=b->ChS b a (plc a A):=by
 intro A
 induction A with
 | nil=>intro a h;rw[fV] at h;show a<=b;lia
 | cons r A ih =>
  intro a h;rw[fj] at h;exact⟨Int.le_refl _,ih _ (by show a+(r.sz:Int)+szs A<=b;lia)⟩
def YT{f b:Int}{A:List Rw}(g:Nat)(h:f+szs A<=b):ChS b f (jn f b g A):=by
 have:=uR A g;exact ChS.app (c:=b-szs (A.drop g)) (S9 _ _ (by lia)) (S9 _ _ (by lia))
theorem Xh{n:Nat}{r0:List Rw}(ok:OkA 0 n r0):∀(rs Z A:List Rw)(f:Int),r0=Z++A++rs->(∀b∈A,f<=(b.st:Int))->(∀s∈rs,f<=(s.st:Int))->f<=(n:Int)->ChS n f (fu n f A rs):=by
 intro rs
 induction rs with
 | nil =>
  intro Z A f e hA _ hn;have aw:=ok.asc;rw[e,mE,mI] at aw;exact YT _ (tO A f aw.2.1 (λr hr=>⟨hA r hr,by have:=ok.bd r (by rw[e];simp[hr]);lia⟩) hn)
 | cons r rs ih =>
  intro Z A f e hA hs hn;have aw:=ok.asc;rw[e,mI] at aw;have aw1:=mI.mp aw.1;have aw2:=mN.mp aw.2.1;have br:=ok.bd r (by rw[e];simp);rw[fu];split
  ·refine ChS.app (c:=(r.st:Int)) (YT _ (tO A f aw1.2.1 (λa ha=>⟨hA a ha,by have:=aw.2.2 a (by simp[ha]) r (by simp);lia⟩) (hs r (.head _)))) ⟨Int.le_refl _,?_⟩;exact ih (Z++A++[r]) [] _ (by rw[e];simp) (λb hb=>by cases hb) (λs hs=>by have:=aw2.1 s hs;show (r.st:Int)+(r.sz:Int)<=s.st;lia) (by show (r.st:Int)+(r.sz:Int)<=n;lia)
  ·exact ih Z (A++[r]) f (by rw[e];simp) (λb hb=>by
    rcases wP.mp hb with hb|hb
    ·exact hA b hb
    ·rw[uS.mp hb];exact hs r (.head _)) (λs h=>hs s (.tail _ h)) hn
theorem S_(n:Nat)(rs:List Rw):∀(f:Int)(A:List Rw),(∀b∈A,b.pn=0)->∀s∈fu n f A rs,0<s.1.pn->s.2=(s.1.st:Int):=by
 have hb:∀(f b:Int)(A:List Rw),(∀r∈A,r.pn=0)->∀s∈best f b A,¬ 0<s.1.pn:=λf b A h s hs=>by
  have:s.1∈A:=by rw[<- uV f b A];exact List.mem_map_of_mem hs
  rw[h _ this];lia
 induction rs with
 | nil=>intro f A h s hs hp;exact gL hp (hb _ _ _ h s hs)
 | cons r rs ih =>
  intro f A h s hs hp;rw[fu] at hs;by_cases q:0<r.pn
  ·rw[zS q] at hs;rcases wP.mp hs with hs|hs
   ·exact gL hp (hb _ _ _ h s hs)
   ·rcases vS.mp hs with rfl|hs
    ·rfl
    ·exact ih _ [] (λb hb=>by cases hb) s hs hp
  ·rw[yA q] at hs;exact ih f (A++[r]) (λb hb=>by
    rcases wP.mp hb with hb|hb
    ·exact h b hb
    ·rw[uS.mp hb];lia) s hs hp
def mid(s:Sp2):Rw:=if s.2<(s.1.st:Int) then oE s.1 s.2.toNat else s.1
def tgt(s:Sp2):Rw:=oE s.1 s.2.toNat
def lm:Nat->List Sp2->List Mv
 | _,[]=>[]
 | k,s::ss=>if s.2<(s.1.st:Int) then (k,s.1.nm,s.2.toNat)::lm (k+1) ss else lm (k+1) ss
def rm:List Sp2->List Mv
 | []=>[]
 | s::ss=>if (s.1.st:Int)<s.2 then (ss.length,s.1.nm,s.2.toNat)::rm ss else rm ss
theorem K4{n:Nat}:∀{a:List Mv} {b:List Mv} {T:List Rw},WOk n T a->WOk n (bV T a) b->WOk n T (a++b)
 | [],_,_,_,g=>g
 | _::_,_,_,h,g=>⟨h.1,K4 h.2 g⟩
theorem K5:∀(a b:List Mv)(T:List Rw),cu T (a++b)=cu T a+cu (bV T a) b
 | [],_,_=>by show _=0+_;rw[Nat.zero_add];rfl
 | m::a,b,T=>by
  show wPr T m+cu (mvT T m.1 m.2.2) (a++b)=wPr T m+cu (mvT T m.1 m.2.2) a+_;rw[K5 a b,Nat.add_assoc]
  rfl
def ml(ss:List Sp2):List Sp2:=ss.filter λs=>decide (s.2<(s.1.st:Int))
def mr(ss:List Sp2):List Sp2:=ss.filter λs=>decide ((s.1.st:Int)<s.2)
def szN(ss:List Sp2):Nat:=(ss.map λs=>s.1.sz).sum
theorem K6{n:Nat}(L:List Sp2):∀(P:List Rw)(e:Int),(S5 P:Int)<=e->ChS n e L->OkA 0 n (L.map (·.1))->(∀s∈L,0<s.1.pn->s.2=(s.1.st:Int)) ->
  WOk n (P++L.map (·.1)) (lm P.length L)/\bV (P++L.map (·.1)) (lm P.length L)=P++L.map mid/\cu (P++L.map (·.1)) (lm P.length L)=szN (ml L):=by
 induction L with
 | nil=>intro P e _ _ _ _;exact⟨trivial,rfl,rfl⟩
 | cons s L ih =>
  intro P e he ch ok pin;have h1:0<=s.1.st/\1<=s.1.sz/\s.1.st+s.1.sz<=n:=ok.hd;have h2:OkA (s.1.st+s.1.sz) n (L.map (·.1)):=ok.tail;have hl:(P++[mid s]).length=P.length+1:=by simp
  by_cases q:s.2<(s.1.st:Int)
  ·have hm:mid s=oE s.1 s.2.toNat:=zS q;have he2:0<=e:=by lia
   have h0:=ch.1;have i:=ih (P++[mid s]) (s.2+(s.1.sz:Int)) (by rw[jG,hm];show (((s.2.toNat+s.1.sz:Nat)):Int)<=_;lia) ch.2 ⟨h2.asc,λr hr=>⟨Nat.zero_le _,(h2.bd r hr).2⟩⟩ (λs hs=>pin s (.tail _ hs));rw[hl,vF,vF,List.singleton_append,List.singleton_append] at i;rw[show lm P.length (s::L)=(P.length,s.1.nm,s.2.toNat)::lm (P.length+1) L by rw[lm,zS q],oS,oS];have hmv:mvT (P++s.1::L.map (·.1)) P.length s.2.toNat=P++mid s::L.map (·.1):=by rw[Bl,hm]
   refine⟨⟨⟨s.1,Bo _ _ _,rfl,?_,?_,?_⟩,?_⟩,?_,?_⟩
   ·have:=pin s (.head _)
    lia
   ·show iT (P++s.1::L.map (·.1)) P.length<=s.2.toNat;rw[Bp]
    lia
   ·show s.2.toNat+s.1.sz<=dU n (P++s.1::L.map (·.1)) P.length;rw[uQ];have hn:=h1.2.2
    generalize hR:L.map (·.1)=R at h2
    cases R with
    | nil=>show s.2.toNat+s.1.sz<=n;lia
    | cons t R=>have:=(h2.hd).1;show s.2.toNat+s.1.sz<=t.st;lia
   ·show WOk n (mvT (P++s.1::L.map (·.1)) P.length s.2.toNat) _;rw[hmv];exact i.1
   ·show bV (mvT (P++s.1::L.map (·.1)) P.length s.2.toNat) _=_;rw[hmv];exact i.2.1
   ·show wPr (P++s.1::L.map (·.1)) (P.length,s.1.nm,s.2.toNat)+cu (mvT (P++s.1::L.map (·.1)) P.length s.2.toNat) _=_;rw[hmv,i.2.2];have e1:wPr (P++s.1::L.map (·.1)) (P.length,s.1.nm,s.2.toNat)=s.1.sz:=by
     simp only[wPr,Bo];rw[yA (by lia)]
    rw[e1];unfold ml szN;rw[List.filter_cons_of_pos (by simpa using q),List.map_cons,List.sum_cons]
  ·have hm:mid s=s.1:=yA q;have i:=ih (P++[mid s]) (s.2+(s.1.sz:Int)) (by rw[jG,hm];lia) ch.2 ⟨h2.asc,λr hr=>⟨Nat.zero_le _,(h2.bd r hr).2⟩⟩ (λs hs=>pin s (.tail _ hs));rw[hl,vF,vF,List.singleton_append,List.singleton_append] at i;rw[show lm P.length (s::L)=lm (P.length+1) L by rw[lm,yA q],oS,oS];rw[hm] at i ⊢;refine⟨i.1,i.2.1,?_⟩;rw[i.2.2];unfold ml;rw[List.filter_cons_of_neg (by simpa using q)]
def ChD:Int->List Sp2->Prop
 | _,[]=>True
 | b,s::ss=>s.2+(s.1.sz:Int)<=b/\ChD s.2 ss
theorem ChS.le{b:Int}:∀{ss:List Sp2} {e:Int},ChS b e ss->e<=b/\∀s∈ss,e<=s.2/\s.2+(s.1.sz:Int)<=b
 | [],_,h=>⟨h,λ_ z=>by cases z⟩
 | s::ss,e,h=>by
  obtain⟨i1,i2⟩:=ChS.le h.2;have:=h.1;refine⟨by lia,λt ht=>?_⟩;rcases vS.mp ht with rfl|ht
  ·exact⟨h.1,i1⟩
  ·have:=i2 t ht;exact⟨by lia,this.2⟩
theorem Ej:∀{xs:List Sp2} {b:Int} {s:Sp2},ChD b xs->(∀t∈xs,s.2+(s.1.sz:Int)<=t.2)->s.2+(s.1.sz:Int)<=b->ChD b (xs++[s])
 | [],_,_,_,_,h=>⟨h,trivial⟩
 | x::xs,_,_,g,a,_=>⟨g.1,Ej g.2 (λt ht=>a t (.tail _ ht)) (a x (.head _))⟩
theorem ChS.rev{b:Int}:∀{ss:List Sp2} {e:Int},ChS b e ss->ChD b ss.reverse
 | [],_,_=>trivial
 | s::ss,e,h=>by
  rw[List.reverse_cons];obtain⟨i1,i2⟩:=ChS.le h.2;exact Ej (ChS.rev h.2) (λt ht=>(i2 t (List.mem_reverse.mp ht)).1) i1
def aaT{s:Sp2}(h:¬ (s.1.st:Int)<s.2):mid s=tgt s:=by
 unfold mid tgt;by_cases q:s.2<(s.1.st:Int)
 ·rw[zS q]
 ·rw[yA q];have:s.2.toNat=s.1.st:=by lia
  rw[this]
  rfl
theorem K7{n:Nat}(L:List Sp2):∀(D:List Rw)(b:Int),(IW n D:Int)=b->ChD b L->(L.map (·.1)).Pairwise (λr s=>s.st+s.sz<=r.st)->(∀s∈L,0<=s.2)->(∀s∈L,0<s.1.pn->s.2=(s.1.st:Int)) ->
  WOk n ((L.map mid).reverse++D) (rm L)/\bV ((L.map mid).reverse++D) (rm L)=(L.map tgt).reverse++D/\cu ((L.map mid).reverse++D) (rm L)=szN (mr L):=by
 induction L with
 | nil=>intro D b _ _ _ _ _;exact⟨trivial,rfl,rfl⟩
 | cons s L ih =>
  intro D b he ch pw nn pin;obtain⟨p1,p2⟩:=mN.mp (show ((s.1::L.map (·.1)).Pairwise (λr s=>s.st+s.sz<=r.st)) from pw);have h0:=nn s (.head _);have hc:=ch.1;have i:=ih (tgt s::D) s.2 (by show ((s.2.toNat:Nat):Int)=s.2;lia) ch.2 p2 (λs hs=>nn s (.tail _ hs)) (λs hs=>pin s (.tail _ hs));rw[oS,oS,List.reverse_cons,List.reverse_cons,vF,vF,List.singleton_append,List.singleton_append];by_cases q:(s.1.st:Int)<s.2
  ·have hm:mid s=s.1:=yA (by lia);have hl:L.length=(L.map mid).reverse.length:=by simp
   rw[show rm (s::L)=(L.length,s.1.nm,s.2.toNat)::rm L by rw[rm,zS q],hm];have hmv:mvT ((L.map mid).reverse++s.1::D) L.length s.2.toNat=(L.map mid).reverse++tgt s::D:=by rw[hl,Bl];rfl
   have hat:((L.map mid).reverse++s.1::D)[L.length]?=some s.1:=by rw[hl];exact Bo _ _ _
   refine⟨⟨⟨s.1,hat,rfl,?_,?_,?_⟩,?_⟩,?_,?_⟩
   ·have:=pin s (.head _)
    lia
   ·show iT ((L.map mid).reverse++s.1::D) L.length<=s.2.toNat;rw[hl,Bp];cases L with
    | nil=>exact Nat.zero_le _
    | cons t L =>
     rw[oS,List.reverse_cons,jG];have a1:=p1 t.1 (by simp);have a2:=ch.2.1;have a3:=nn t (by simp);unfold mid;split
     ·show t.2.toNat+t.1.sz<=_;lia
     ·show t.1.st+t.1.sz<=_;lia
   ·show s.2.toNat+s.1.sz<=dU n ((L.map mid).reverse++s.1::D) L.length;rw[hl,uQ];cases D with
    | nil=>simp only[IW] at he;show s.2.toNat+s.1.sz<=n;lia
    | cons t D=>simp only[IW] at he;show s.2.toNat+s.1.sz<=t.st;lia
   ·show WOk n (mvT ((L.map mid).reverse++s.1::D) L.length s.2.toNat) _;rw[hmv];exact i.1
   ·show bV (mvT ((L.map mid).reverse++s.1::D) L.length s.2.toNat) _=_;rw[hmv];exact i.2.1
   ·show wPr ((L.map mid).reverse++s.1::D) (L.length,s.1.nm,s.2.toNat)+cu (mvT ((L.map mid).reverse++s.1::D) L.length s.2.toNat) _=_;rw[hmv,i.2.2];have e1:wPr ((L.map mid).reverse++s.1::D) (L.length,s.1.nm,s.2.toNat)=s.1.sz:=by
     simp only[wPr,hat];rw[yA (by lia)]
    rw[e1];unfold mr szN;rw[List.filter_cons_of_pos (by simpa using q),List.map_cons,List.sum_cons]
  ·rw[show rm (s::L)=rm L by rw[rm,yA q],aaT q];refine⟨i.1,i.2.1,?_⟩;rw[i.2.2];unfold mr;rw[List.filter_cons_of_neg (by simpa using q)]
def eU(L:List Sp2):List Mv:=lm 0 L++rm L.reverse
def uW{n:Nat}{L:List Sp2}(ch:ChS n 0 L)(ok:OkA 0 n (L.map (·.1)))(pin:∀s∈L,0<s.1.pn->s.2=(s.1.st:Int)) :
  WOk n (L.map (·.1)) (eU L)/\cu (L.map (·.1)) (eU L)=szN (ml L)+szN (mr L.reverse):=by
 have a:=K6 L [] 0 (Int.le_refl _) ch ok pin;have c:=ChS.le ch;have b:=K7 (n:=n) L.reverse [] n rfl (ChS.rev ch) (by rw[List.map_reverse];exact List.pairwise_reverse.mpr ok.asc) (λs hs=>(c.2 s (List.mem_reverse.mp hs)).1) (λs hs=>pin s (List.mem_reverse.mp hs));rw[List.map_reverse,List.reverse_reverse,mE] at b;simp only[List.nil_append,List.length_nil] at a;unfold eU;refine⟨K4 a.1 (by rw[a.2.1];exact b.1),?_⟩;rw[K5,a.2.1,a.2.2,b.2.2]
theorem Tc(L:List Sp2):((ml L).map λs=>(s.1.sz:Int)).sum+((mr L).map λs=>(s.1.sz:Int)).sum=pri L:=by
 unfold pri ml mr mv
 induction L with
 | nil=>rfl
 | cons s L ih =>
  by_cases q:s.2<(s.1.st:Int)
  ·rw[List.filter_cons_of_pos (by simpa using q),List.filter_cons_of_neg (by simp;lia),List.filter_cons_of_pos (by simp;lia),List.map_cons,List.map_cons,List.sum_cons,List.sum_cons]
   lia
  ·by_cases q2:(s.1.st:Int)<s.2
   ·rw[List.filter_cons_of_neg (by simpa using q),List.filter_cons_of_pos (by simpa using q2),List.filter_cons_of_pos (by simp;lia),List.map_cons,List.map_cons,List.sum_cons,List.sum_cons]
    lia
   ·rw[List.filter_cons_of_neg (by simpa using q),List.filter_cons_of_neg (by simpa using q2),List.filter_cons_of_neg (by simp;lia)];exact ih
theorem Ek(L:List Sp2):((szN L:Nat):Int)=(L.map λs=>(s.1.sz:Int)).sum:=by
 unfold szN
 induction L with
 | nil=>rfl
 | cons s L ih=>rw[oS,oS,List.sum_cons,List.sum_cons,<- ih];lia
def Jb(L:List Sp2):mr L.reverse=(mr L).reverse:=List.filter_reverse ..
def Oe{n:Nat}{L:List Sp2}(ch:ChS n 0 L)(ok:OkA 0 n (L.map (·.1)))(pin:∀s∈L,0<s.1.pn->s.2=(s.1.st:Int)):((cu (L.map (·.1)) (eU L):Nat):Int)=pri L:=by
 rw[(uW ch ok pin).2,<- Tc,Int.natCast_add,Ek,Ek,Jb,Eh ((List.reverse_perm (mr L)).map _)]
theorem ad5(L:List Sp2):∀k,(lm k L).map (λm=>(m.2.1,((m.2.2:Nat):Int)))=(ml L).map λs=>(s.1.nm,((s.2.toNat:Nat):Int)):=by
 induction L with
 | nil=>intro k;rfl
 | cons s L ih =>
  intro k;unfold ml;by_cases q:s.2<(s.1.st:Int)
  ·rw[lm,if_pos q,List.filter_cons_of_pos (by simpa using q),List.map_cons,List.map_cons,ih];rfl
  ·rw[lm,if_neg q,List.filter_cons_of_neg (by simpa using q),ih];rfl
theorem ad6(L:List Sp2):(rm L).map (λm=>(m.2.1,((m.2.2:Nat):Int)))=(mr L).map λs=>(s.1.nm,((s.2.toNat:Nat):Int)):=by
 induction L with
 | nil=>rfl
 | cons s L ih =>
  unfold mr;by_cases q:(s.1.st:Int)<s.2
  ·rw[rm,if_pos q,List.filter_cons_of_pos (by simpa using q),List.map_cons,List.map_cons,ih];rfl
  ·rw[rm,if_neg q,List.filter_cons_of_neg (by simpa using q),ih];rfl
def oF(L:List Sp2):List Sp2:=ml L++(mr L).reverse
def El{L:List Sp2}(nn:∀s∈L,0<=s.2):(eU L).map (λm=>(m.2.1,((m.2.2:Nat):Int)))=(oF L).map λs=>(s.1.nm,s.2):=by
 unfold eU oF;rw[List.map_append,ad5,ad6,Jb,<- List.map_append];refine List.map_congr_left λs hs=>?_
 have:0<=s.2:=nn s (by
  rcases wP.mp hs with hs|hs
  ·exact(List.mem_filter.mp hs).1
  ·exact(List.mem_filter.mp (List.mem_reverse.mp hs)).1)
 congr 1
 lia
end M87
namespace M75
open L2 M82 M87
def rg(n:Nat):List Rw->List (Rw×Int)
 | []=>[]
 | r::D=>(r,(IW n D:Int)-((r.st:Int)+(r.sz:Int)))::rg n D
def Em:Nat->List Rw->Nat
 | e,[]=>e
 | _,r::t=>Em (r.st+r.sz) t
theorem uX(r:Rw):∀(t:List Rw)(e:Nat),Em e (t++[r])=r.st+r.sz
 | [],_=>rfl
 | _::t,_=>uX r t _
theorem K8{e n:Nat}:∀{A B:List Rw},OkA e n (A++B)->OkA e n A/\OkA (Em e A) n B
 | [],B,h=>⟨.nil,h⟩
 | r::A,B,h=>by
  have t:=K8 (A:=A) h.tail;exact⟨OkA.cons h.hd t.1,t.2⟩
def cap:List (Rw×Int)->Int
 | []=>0
 | (r,g)::t=>if 0<r.pn then 0 else g+cap t
def ahH(n:Nat):Int->Nat->List Rw->List Int
 | a,e,[]=>[a+((n:Int)-(e:Int))]
 | a,e,r::t=>(a+(((r.st:Int)-(e:Int))+cap (rg n (r::t))))::ahH n (if 0<r.pn then 0 else a+((r.st:Int)-(e:Int))) (r.st+r.sz) t
theorem En{e n:Nat}:∀{A B:List Rw},OkA e n A->OkA (Em e A) n B->OkA e n (A++B)
 | [],_,_,h=>h
 | _::_,_,h,g=>OkA.cons h.hd (En h.tail g)
theorem aaU{e e' n:Nat}:∀{B:List Rw},OkA e n B->e'<=IW n B->OkA e' n B
 | [],_,_=>.nil
 | _::_,h,l=>OkA.cons ⟨l,h.hd.2⟩ h.tail
def Og(t:List Rw):S5 t=Em 0 t:=by
 rcases List.eq_nil_or_concat t with rfl|⟨s,r,rfl⟩
 ·rfl
 ·rw[List.concat_eq_append,jG,uX]
def Bt{T:List Rw}{k:Nat}{r:Rw}(h:T[k]?=some r):T=T.take k++r::T.drop (k+1)/\(T.take k).length=k:=by
 obtain⟨hk,e⟩:=jS.mp h;refine⟨?_,by rw[oQ];lia⟩;rw[<- e,<- List.drop_eq_getElem_cons hk,jI]
def Jc{T:List Rw}{k to:Nat}{r:Rw}(h:T[k]?=some r):mvT T k to=T.take k++oE r to::T.drop (k+1):=by
 obtain⟨e,l⟩:=Bt h;have:=Bl (T.take k) r (T.drop (k+1)) to;rw[<- e,l] at this;exact this
def ad7{n:Nat}{T:List Rw}{k to:Nat}{r:Rw}(ok:OkA 0 n T)(h:T[k]?=some r)(lo:iT T k<=to)(hi:to+r.sz<=dU n T k):OkA 0 n (mvT T k to):=by
 obtain⟨e,l⟩:=Bt h;have lw:=Bp (T.take k) r (T.drop (k+1));have hg:=uQ n (T.take k) r (T.drop (k+1));rw[<- e,l] at lw hg;rw[lw,Og] at lo;have ok2:=ok;rw[e] at ok2;obtain⟨o1,o2⟩:=K8 ok2;have hb:to+r.sz<=IW n (T.drop (k+1)):=by
  rw[hg] at hi;cases hd:T.drop (k+1) with
  | nil=>rw[hd] at hi;exact hi
  | cons s D=>rw[hd] at hi;exact hi
 have hn:IW n (T.drop (k+1))<=n:=by
  cases hd:T.drop (k+1) with
  | nil=>exact uC _
  | cons s D=>rw[hd] at o2;have:=o2.tail.hd.2;show s.st<=n;lia
 rw[Jc h];exact En o1 (OkA.cons ⟨lo,o2.hd.2.1,by show to+r.sz<=n;lia⟩ (aaU o2.tail hb))
def ad8{T:List Rw}{k to:Nat}{r:Rw}(h:T[k]?=some r):(mvT T k to).map (·.nm)=T.map (·.nm):=by
 obtain⟨e,l⟩:=Bt h;rw[Jc h]
 conv=>rhs;rw[e]
 rw[List.map_append,List.map_append]
 rfl
def Xi{T:List Rw}{k to:Nat}{r:Rw}(nd:(T.map (·.nm)).Nodup)(h:T[k]?=some r):(T.filter (λs=>decide (s.nm≠r.nm))++[oE r to]).Perm (mvT T k to):=by
 obtain⟨e,l⟩:=Bt h;rw[Jc h];have nd2:=nd;rw[e,List.map_append,List.nodup_append] at nd2;obtain⟨n1,n2,n3⟩:=nd2;have n4:=(List.nodup_cons.mp (show (r.nm::(T.drop (k+1)).map (·.nm)).Nodup from n2)).1;have f:T.filter (λs=>decide (s.nm≠r.nm))=T.take k++T.drop (k+1):=by
  conv=>lhs;rw[e]
  rw[List.filter_append,List.filter_cons_of_neg (by simp)]
  congr 1
  ·exact List.filter_eq_self.mpr λs hs=>gX λz=>n3 _ (List.mem_map_of_mem hs) _ zC z
  ·exact List.filter_eq_self.mpr λs hs=>gX λz=>n4 (z▸List.mem_map_of_mem (f:=λr:Rw=>r.nm) hs)
 rw[f,vF];exact List.Perm.append_left _ List.perm_append_comm
end M75
namespace M88
open L2 M82 M87
def Arr(b:Int):Int->List Rw->List Int->Prop
 | e,[],[]=>e<=b
 | e,r::rs,t::ts=>e<=t/\(0<r.pn->t=(r.st:Int))/\Arr b (t+r.sz) rs ts
 | _,_,_=>False
def hls(b:Int):Int->List Rw->List Int->Nat
 | e,r::rs,t::ts=>(if e<t then 1 else 0)+hls b (t+r.sz) rs ts
 | e,_,_=>if e<b then 1 else 0
def prc:List Rw->List Int->Int
 | r::rs,t::ts=>(if t=(r.st:Int) then 0 else (r.sz:Int))+prc rs ts
 | _,_=>0
theorem Eo{b:Int}{p:Rw}{rest:List Rw}{tr:List Int}(h2:Arr b ((p.st:Int)+p.sz) rest tr):∀{e:Int} {A:List Rw} {ta:List Int},Arr p.st e A ta->Arr b e (A++p::rest) (ta++(p.st:Int)::tr)/\hls b e (A++p::rest) (ta++(p.st:Int)::tr)=hls p.st e A ta+hls b ((p.st:Int)+p.sz) rest tr/\prc (A++p::rest) (ta++(p.st:Int)::tr)=prc A ta+prc rest tr
 | e,[],[],h=>by
  refine⟨⟨h,λ_=>rfl,h2⟩,rfl,?_⟩;show (if (p.st:Int)=(p.st:Int) then 0 else (p.sz:Int))+prc rest tr=0+prc rest tr;rw[zS rfl]
 | e,[],_::_,h=>h.elim
 | e,_::_,[],h=>h.elim
 | e,r::A,t::ta,h=>by
  obtain⟨a,c,d⟩:=Eo h2 h.2.2;refine⟨⟨h.1,h.2.1,a⟩,?_,?_⟩
  ·show (if e<t then 1 else 0)+hls b (t+r.sz) (A++p::rest) (ta++(p.st:Int)::tr)=(if e<t then 1 else 0)+hls p.st (t+r.sz) A ta+_;rw[c]
   lia
  ·show (if t=(r.st:Int) then 0 else (r.sz:Int))+prc (A++p::rest) (ta++(p.st:Int)::tr)=(if t=(r.st:Int) then 0 else (r.sz:Int))+prc A ta+prc rest tr;rw[d]
   lia
theorem tQ{b:Int}:∀{A:List Rw} {e:Int},(∀r∈A,r.pn=0)->e+szs A<=b->Arr b e A ((plc e A).map (·.2))/\hls b e A ((plc e A).map (·.2))=if e+szs A<b then 1 else 0
 | [],e,_,h=>by
  rw[fV] at h ⊢;refine⟨show e<=b by lia,?_⟩;show (if e<b then 1 else 0)=_;rw[show e+0=e by lia]
 | r::A,e,un,h=>by
  rw[fj] at h ⊢;obtain⟨a,c⟩:=tQ (b:=b) (A:=A) (e:=e+r.sz) (λs hs=>un s (zD _ hs)) (by lia);refine⟨⟨Int.le_refl _,λz=>gL z (by rw[un r zC];decide),a⟩,?_⟩;show (if e<e then 1 else 0)+hls b (e+r.sz) A _=_;rw[yA (by lia),Nat.zero_add];rw[show (e:Int)+((r.sz:Int)+szs A)=e+(r.sz:Int)+szs A by lia];exact c
theorem Jd{b:Int}:∀{A:List Rw} {e:Int} (g:Nat),(∀r∈A,r.pn=0)->e+szs A<=b->Arr b e A ((jn e b g A).map (·.2))/\hls b e A ((jn e b g A).map (·.2))=if e+szs A<b then 1 else 0
 | A,e,0,un,h=>by
  unfold jn;rw[List.take_zero,List.drop_zero];show Arr b e A ((plc (b-szs A) A).map (·.2))/\_;cases A with
  | nil=>exact tQ un h
  | cons r A =>
   rw[fj] at h ⊢;have un':∀s∈A,s.pn=0:=λs hs=>un s (zD _ hs)
   have hp:¬ 0<r.pn:=by rw[un r zC];decide
   obtain⟨a,c⟩:=tQ (b:=b) (A:=A) (e:=b-((r.sz:Int)+szs A)+r.sz) un' (by lia);rw[yA (by lia)] at c;refine⟨⟨show e<=b-((r.sz:Int)+szs A) by lia,λz=>gL z hp,a⟩,?_⟩;show (if e<b-((r.sz:Int)+szs A) then 1 else 0)+hls b (b-((r.sz:Int)+szs A)+r.sz) A ((plc (b-((r.sz:Int)+szs A)+r.sz) A).map (·.2))=_;rw[c,Nat.add_zero];by_cases q:e+((r.sz:Int)+szs A)<b
   ·rw[zS q,zS (by lia)]
   ·rw[yA q,yA (by lia)]
 | [],e,g+1,un,h=>tQ un h
 | r::A,e,g+1,un,h=>by
  have un':∀s∈A,s.pn=0:=λs hs=>un s (zD _ hs)
  have hp:¬ 0<r.pn:=by rw[un r zC];decide
  rw[fj] at h ⊢;obtain⟨a,c⟩:=Jd (b:=b) (A:=A) (e:=e+r.sz) g un' (by lia);have e1:(jn e b (g+1) (r::A)).map (·.2)=e::(jn (e+r.sz) b g A).map (·.2):=by
   unfold jn;rw[List.take_succ_cons,List.drop_succ_cons,plc]
   rfl
  rw[e1];refine⟨⟨Int.le_refl _,λz=>gL z hp,a⟩,?_⟩;show (if e<e then 1 else 0)+hls b (e+r.sz) A _=_;rw[yA (by lia),Nat.zero_add,c,show (e:Int)+((r.sz:Int)+szs A)=e+(r.sz:Int)+szs A by lia]
theorem K9:∀ss:List Sp2,prc (ss.map (·.1)) (ss.map (·.2))=pri ss
 | []=>rfl
 | s::ss=>by
  have ih:=K9 ss;unfold pri mv at ih ⊢;show (if s.2=(s.1.st:Int) then 0 else (s.1.sz:Int))+prc (ss.map (·.1)) (ss.map (·.2))=_;rw[ih,List.filter_cons];by_cases c:s.2=(s.1.st:Int)
  ·rw[if_pos c,if_neg (by simpa using c),Int.zero_add]
  ·rw[if_neg c,if_pos (by simpa using c),List.map_cons,List.sum_cons]
def Td(f b:Int)(g:Nat)(A:List Rw):prc A ((jn f b g A).map (·.2))=pri (jn f b g A):=by
 have:=K9 (jn f b g A);rw[uT] at this;exact this
def cnt:List S3->Nat
 | []=>0
 | w::ws=>(if w.1+szs w.2.2<w.2.1 then 1 else 0)+cnt ws
def Xj(a c:List Sp2):pri (a++c)=pri a+pri c:=by
 unfold pri;rw[I_,List.map_append,List.sum_append]
def Xk(r:Rw)(ss:List Sp2):pri ((r,(r.st:Int))::ss)=pri ss:=by
 unfold pri mv;rw[List.filter_cons,if_neg (by simp)]
theorem Je(n:Nat):∀(rs:List Rw)(f:Int)(A:List Rw),(∀r∈A,r.pn=0)->(∀w∈cC n f A rs,w.1+szs w.2.2<=w.2.1)->Arr n f (A++rs) ((fu n f A rs).map (·.2))/\hls n f (A++rs) ((fu n f A rs).map (·.2))=cnt (cC n f A rs)/\prc (A++rs) ((fu n f A rs).map (·.2))=pri (fu n f A rs)
 | [],f,A,un,fit=>by
  rw[mE,fu,cC];have h:=fit (f,(n:Int),A) (by rw[cC];exact zC);obtain⟨a,c⟩:=Jd (gp0 f n A) un h;exact⟨a,by rw[show cnt [(f,(n:Int),A)]=(if f+szs A<(n:Int) then 1 else 0) from rfl];exact c,Td f n _ A⟩
 | r::rs,f,A,un,fit=>by
  by_cases pp:0<r.pn
  ·rw[cC,zS pp] at fit;obtain⟨i1,i2,i3⟩:=Je n rs ((r.st:Int)+r.sz) [] (λ_ h=>gL h wT) λw hw=>fit w (zD _ hw)
   rw[List.nil_append] at i1 i2 i3;obtain⟨a,c⟩:=Jd (gp0 f r.st A) un (fit (f,(r.st:Int),A) zC);obtain⟨j1,j2,j3⟩:=Eo (p:=r) i1 a;rw[fu,zS pp,cC,zS pp,List.map_append,oS,Xj,Xk];refine⟨j1,?_,?_⟩
   ·show hls n f (A++r::rs) ((jn f r.st (gp0 f r.st A) A).map (·.2)++(r.st:Int)::_)=(if f+szs A<(r.st:Int) then 1 else 0)+cnt (cC n ((r.st:Int)+r.sz) [] rs);rw[j2,c,i2]
   ·show prc (A++r::rs) ((jn f r.st (gp0 f r.st A) A).map (·.2)++(r.st:Int)::_)=pri (jn f r.st (gp0 f r.st A) A)+_;rw[j3,Td,i3]
  ·have e:A++r::rs=(A++[r])++rs:=by rw[vF];rfl
   rw[cC,yA pp] at fit;rw[e,cC,yA pp,fu,yA pp];exact Je n rs f (A++[r]) (λs hs=>by
    rcases wP.mp hs with hs|hs
    ·exact un s hs
    ·rw[uS.mp hs];lia) fit
theorem ad9(ws:List S3):cnt ws=((ws.map toW).filter λw=>decide (0<w.2.2)).length:=by
 induction ws with
 | nil=>rfl
 | cons w ws ih =>
  show (if w.1+szs w.2.2<w.2.1 then 1 else 0)+cnt ws=_;rw[oS,List.filter_cons,ih];by_cases c:w.1+szs w.2.2<w.2.1
  ·rw[zS c,zS (by show decide (0<w.2.1-w.1-szs w.2.2)=true;exact gX (by lia)),mS]
   lia
  ·rw[if_neg c,if_neg (by show ¬ decide (0<w.2.1-w.1-szs w.2.2)=true;simp only[decide_eq_true_eq];lia)]
   lia
def Xl{n:Nat}{L:List Sp2}(ch:ChS n 0 L)(ok:OkA 0 n (L.map (·.1)))(pin:∀s∈L,0<s.1.pn->s.2=(s.1.st:Int)):bV (L.map (·.1)) (eU L)=L.map tgt:=by
 have a:=K6 L [] 0 (Int.le_refl _) ch ok pin;have c:=ChS.le ch;have b:=K7 (n:=n) L.reverse [] n rfl (ChS.rev ch) (by rw[List.map_reverse];exact List.pairwise_reverse.mpr ok.asc) (λs hs=>(c.2 s (List.mem_reverse.mp hs)).1) (λs hs=>pin s (List.mem_reverse.mp hs));rw[List.map_reverse,List.map_reverse,List.reverse_reverse,List.reverse_reverse,mE,mE] at b;simp only[List.nil_append,List.length_nil] at a;unfold eU bV;rw[List.foldl_append];show bV (bV (L.map (·.1)) (lm 0 L)) (rm L.reverse)=_;rw[a.2.1];exact b.2.1
def K_(e b:Int):(Ef e b).length=if e<b then 1 else 0:=by
 by_cases c:e<b
 ·rw[lN c,zS c];rfl
 ·rw[lO c,yA c];rfl
def Sim:List Rw->List Rw->Prop
 | [],[]=>True
 | r::rs,s::ss=>s.sz=r.sz/\s.pn=r.pn/\(0<r.pn->s.st=r.st)/\Sim rs ss
 | _,_=>False
theorem uY:∀T:List Rw,Sim T T
 | []=>trivial
 | _::T=>⟨rfl,rfl,λ_=>rfl,uY T⟩
theorem Te:∀{A B C:List Rw},Sim A B->Sim B C->Sim A C
 | [],[],[],_,_=>trivial
 | a::A,b::B,c::C,h,g=>⟨g.1.trans h.1,g.2.1.trans h.2.1,λp=>(g.2.2.1 (by rw[h.2.1];exact p)).trans (h.2.2.1 p),Te h.2.2.2 g.2.2.2⟩
theorem Tf:∀{T:List Rw} {k to:Nat} {r:Rw},T[k]?=some r->r.pn=0->Sim T (mvT T k to)
 | [],k,to,r,h,_=>by simp at h
 | a::T,0,to,r,h,p=>by
  simp at h;subst h;exact⟨rfl,rfl,λz=>by lia,uY T⟩
 | a::T,k+1,to,r,h,p=>by
  have e:mvT (a::T) (k+1) to=a::mvT T k to:=by unfold mvT;rw[List.modify_succ_cons]
  rw[e];exact⟨rfl,rfl,λ_=>rfl,Tf (by simpa using h) p⟩
theorem La{n:Nat}:∀{ms:List Mv} {T:List Rw},WOk n T ms->Sim T (bV T ms)
 | [],T,_=>uY T
 | m::ms,T,h=>by
  obtain⟨⟨r,h1,_,h2,_⟩,h3⟩:=h;exact Te (Tf (to:=m.2.2) h1 h2) (La h3)
abbrev stI(E:List Rw):List Int:=E.map λr=>(r.st:Int)
theorem Lb{n:Nat}:∀{rs E:List Rw} {e:Int},Sim rs E->(jw n e E).length=hls n e rs (stI E)
 | [],[],e,_=>K_ e n
 | r::rs,s::E,e,h=>by
  show (Ef e (s.st:Int)++jw n ((s.st:Int)+(s.sz:Int)) E).length=(if e<(s.st:Int) then 1 else 0)+hls n ((s.st:Int)+(r.sz:Int)) rs (stI E);rw[yB,K_,Lb h.2.2.2,h.1]
def Xm(n:Nat)(rs:List Rw):cnt (cC n 0 [] rs)=((gU n 0 0 rs).filter λw=>decide (0<w.2.2)).length:=by
 rw[ad9];have:=Ja n rs 0 [];rw[fV] at this;rw[this]
def aaV{n:Nat}{rs:List Rw}(ok:OkA 0 n rs):∀w∈cC n 0 [] rs,w.1+szs w.2.2<=w.2.1:=λw hw=>(Bs ok w hw).fit
def Oh{n:Nat}{rs:List Rw}(ok:OkA 0 n rs)(ch:ChS n 0 (fu n 0 [] rs))(pin:∀s∈fu n 0 [] rs,0<s.1.pn->s.2=(s.1.st:Int)):(jw n 0 (bV rs (eU (fu n 0 [] rs)))).length=cnt (cC n 0 [] rs):=by
 have e:(fu n 0 [] rs).map (·.1)=rs:=Ei n rs 0 [];have okJ:OkA 0 n ((fu n 0 [] rs).map (·.1)):=by rw[e];exact ok
 have w:=(uW ch okJ pin).1;have t:=Xl ch okJ pin;rw[e] at w t;rw[Lb (La w),t];have nn:stI ((fu n 0 [] rs).map tgt)=(fu n 0 [] rs).map (·.2):=by
  unfold stI;rw[List.map_map];refine List.map_congr_left λs hs=>?_
  have:=((ChS.le ch).2 s hs).1;show ((s.2.toNat:Nat):Int)=s.2
  lia
 rw[nn];exact(Je n rs 0 [] (λ_ h=>by cases h) (aaV ok)).2.1
end M88
namespace K89
open PySem L2 PyProof.Rows
def top(i:Nat):Stmt:=PySem.Challenge.pw_slideroom_k89_forged_tidyings.main.body.getD i (.Pass ⟨0,0,0,0⟩)
abbrev oG:Stmt:=top 21
def su:aL ["thing"] ["thing"] (aC oG):=scz
abbrev qZ:Stmt:=top 22
def uZ:aL ["thing","low"] ["thing","low"] (aC qZ):=scz
abbrev lQ:Stmt:=top 23
def pY:aL ["thing","low","high"] ["thing","low","high"] (aC lQ):=scz
abbrev q_:Stmt:=top 24
def u5:aL ["thing"] ["thing"] (aC q_):=scz
abbrev rA:Stmt:=top 25
def u6:aL ["thing"] ["thing"] (aC rA):=scz
abbrev u9:Stmt:=top 27
def yJ:aL ["stretch"] ["stretch"] (aC u9):=scz
abbrev u_:Stmt:=top 37
def yK:aL ["thing"] ["thing"] (aC u_):=scz
abbrev oH:Stmt:=top 38
def sy:aL ["row"] ["row"] (aC oH):=scz
abbrev oJ:Stmt:=top 39
def sE:aL ["many","row","ahead","other"] ["many","row","ahead"] (aC oJ):=scz
abbrev lR:Stmt:=top 40
def pZ:aL ["many","rows","at"] ["many","rows"] (aC lR):=scz
abbrev Bu:Stmt:=top 28
def Ep:aL ["one","other"] ["one","other"] (aC Bu):=scz
abbrev rB:Stmt:=top 50
def vd:aL ["layout","first","behind"] ["layout","first","behind"] (aC rB):=scz
abbrev Bv:Stmt:=top 51
def Er:aL ["layout","first","behind"] ["layout","first","behind"] (aC Bv):=scz
abbrev lV:Stmt:=top 52
def p7:aL ["layout","stretches","first","block"] ["layout"] (aC lV):=scz
abbrev Bw:Stmt:=top 54
def Es:aL ["blocks","first","steps","end_ahead","name","start","size","pins","to"] ["blocks","first"] (aC Bw):=scz
abbrev Tg:Stmt:=top 55
def Ti:aL ["blocks","behind","steps","start_behind","name","start","size","pins","to"] ["blocks","behind"] (aC Tg):=scz
abbrev Bx:Stmt:=top 56
def Et:aL ["steps"] ["steps"] (aC Bx):=scz
abbrev lX:Stmt:=top 57
def yL:aL ["layout","way"] ["layout","way"] (aC lX):=scz
abbrev vf:Stmt:=top 58
def yM:aL ["layout"] ["layout"] (aC vf):=scz
abbrev vg:Stmt:=top 59
def yN:aL ["steps"] ["steps"] (aC vg):=scz
abbrev oK:Stmt:=top 60
def sG:aL ["blocks","first","behind","choices","gap"] ["blocks","first","behind"] (aC oK):=scz
abbrev p8:Stmt:=top 61
def Eu:aL ["steps","rising","lesser","greater"] ["steps"] (aC p8):=scz
abbrev vh:Stmt:=top 62
def yO:aL ["layout","steps","first","behind","free"] ["layout"] (aC vh):=scz
abbrev oM:Stmt:=top 63
def sH:aL ["layout","told","gone"] ["layout","told"] (aC oM):=scz
abbrev vm:Stmt:=top 43
def yP:aL ["thing"] ["thing"] (aC vm):=scz
abbrev rC:Stmt:=top 44
def vo:aL ["layout","name","to","blocks","at","least","behind"] ["layout","name","to"] (aC rC):=scz
abbrev vp:Stmt:=top 45
def yQ:aL ["layout","name","to","moved_ahead","block"] ["layout","name","to","moved_ahead"] (aC vp):=scz
abbrev Jf:Stmt:=top 46
def Ld:aL ["layout","moves","steps","name","to","moved_ahead"] ["layout","moves"] (aC Jf):=scz
abbrev vq:Stmt:=top 47
def yR:aL ["layout","moves"] ["layout","moves"] (aC vq):=scz
abbrev vA:Stmt:=top 34
def yS:aL ["start","size","to","rising"] ["start","size","to"] (aC vA):=scz
abbrev rD:Stmt:=top 48
def vB:aL ["steps","copies","name","start","size","to"] ["steps"] (aC rD):=scz
abbrev BJ:Stmt:=top 30
def Ew:aL ["free","holes","size","cell","is_free"] ["free"] (aC BJ):=scz
abbrev vC:Stmt:=top 31
def yU:aL ["layout","free","block","cell"] ["layout"] (aC vC):=scz
abbrev rE:Stmt:=top 32
def vD:aL ["layout"] ["layout"] (aC rE):=scz
abbrev rF:Stmt:=top 65
def vG:aL ["_law_script","_law_k"] ["_law_script","_law_k"] (aC rF):=scz
abbrev Tj:Stmt:=top 66
def Tp:aL ["_law_cell_here"] ["_law_cell_here"] (aC Tj):=scz
abbrev Jg:Stmt:=top 67
def Le:aL ["_law_well_here","_law_many_here","_law_number"] ["_law_well_here","_law_many_here"] (aC Jg):=scz
abbrev BK:Stmt:=top 68
def Ey:aL ["_law_well_here","_law_many_here","_law_letters","_law_tail","_law_shift","_law_names_here","_law_k","_law_name","_law_words"] ["_law_well_here","_law_many_here"] (aC BK):=scz
abbrev Jh:Stmt:=top 70
def Lf:aL ["_law_well_here"] ["_law_well_here"] (aC Jh):=scz
abbrev Ji:Stmt:=top 69
def Lg:aL ["_law_well_here"] ["_law_well_here"] (aC Ji):=scz
abbrev Jj:Stmt:=top 71
def Lh:aL ["_law_well_here","_law_many_here","_law_names_here","_law_share","_law_rows_here","_law_at","_law_name","_law_left","_law_gap","_law_wide","_law_size","_law_pins"] ["_law_well_here","_law_many_here","_law_names_here"] (aC Jj):=scz
abbrev vH:Stmt:=top 72
def yV:aL ["_law_thing"] ["_law_thing"] (aC vH):=scz
abbrev Jk:Stmt:=top 73
def Li:aL ["_law_many_here","_law_rows_here","_law_moves","_law_lying","_law_names_here","_law_done","_law_price_here","_law_move","_law_name","_law_to","_law_k","_law_low","_law_high"] ["_law_many_here","_law_rows_here","_law_moves"] (aC Jk):=scz
abbrev vI:Stmt:=top 74
def yW:aL ["_law_many_here","_law_rows_here","_law_found","_law_end","_law_name","_law_start","_law_size","_law_pins"] ["_law_many_here","_law_rows_here"] (aC vI):=scz
abbrev jZ:Stmt:=top 75
def nj:aL ["_law_many_here","_law_rows_here","_law_found","_law_first","_law_used","_law_name","_law_start","_law_size","_law_pins"] ["_law_many_here","_law_rows_here"] (aC jZ):=scz
abbrev vJ:Stmt:=top 76
def yX:aL ["_law_rows_here","_law_stretch","_law_gap","_law_first","_law_behind","_law_free","_law_found","_law_at","_law_within","_law_k","_law_name","_law_start","_law_size","_law_pins"] ["_law_rows_here","_law_stretch","_law_gap"] (aC vJ):=scz
abbrev BL:Stmt:=top 77
def Ez:aL ["_law_steps"] ["_law_steps"] (aC BL):=scz
abbrev Jm:Stmt:=top 78
def Lj:aL ["_law_rows_here","_law_stretch","_law_first","_law_behind","_law_free","_law_many_here","_law_best_here","_law_gap","_law_steps"] ["_law_rows_here","_law_stretch"] (aC Jm):=scz
abbrev Tq:Stmt:=top 79
def Tr:aL ["_law_many_here","_law_rows_here","_law_told","_law_walk_here","_law_stretches_here"] ["_law_many_here","_law_rows_here","_law_told"] (aC Tq):=scz
abbrev lY:Stmt:=top 80
def qd:aL ["_law_well_here","_law_many_here","_law_rows_here","_law_price_here","_law_left","_law_right","_law_stretch","_law_within","_law_steps"] ["_law_well_here","_law_many_here","_law_rows_here"] (aC lY):=scz
abbrev vK:Stmt:=top 81
def yZ:aL ["_law_well_here","_law_price_here","_law_some"] ["_law_well_here","_law_price_here"] (aC vK):=scz
abbrev BP:Stmt:=top 82
def EY:aL ["_law_well_here","_law_rows_here","_law_move","_law_name","_law_to","_law_other","_law_some"] ["_law_well_here","_law_rows_here","_law_move"] (aC BP):=scz
abbrev vL:Stmt:=top 83
def zf:aL ["_law_well_here","_law_rows_here","_law_moves","_law_found","_law_way","_law_still","_law_row","_law_at"] ["_law_well_here","_law_rows_here","_law_moves"] (aC vL):=scz
abbrev vM:Stmt:=top 84
def zj:aL ["_law_well_here","_law_many_here","_law_rows_here","_law_told","_law_way","_law_moves","_law_some"] ["_law_well_here","_law_many_here","_law_rows_here","_law_told"] (aC vM):=scz
abbrev qe:Stmt:=top 85
def Tt:aL ["_law_script","_law_k","_law_well_here","_law_many_here","_law_rows_here","_law_layout","_law_good","_law_turn","_law_told","_law_found"] ["_law_script"] (aC qe):=scz
abbrev mK:Stmt:=inClass (top 41) 0
def E_:aL ["self","many","rows"] ["self","many","rows"] (aC mK):=scz
abbrev rG:Stmt:=inClass (top 41) 1
def vN:aL ["self"] ["self"] (aC rG):=scz
abbrev vO:Stmt:=inClass (top 41) 2
def zp:aL ["self"] ["self"] (aC vO):=scz
abbrev vP:Stmt:=inClass (top 41) 3
def zq:aL ["self","name","row"] ["self","name"] (aC vP):=scz
abbrev vQ:Stmt:=inClass (top 41) 5
def zu:aL ["self","name","to","row","others"] ["self","name","to"] (aC vQ):=scz
abbrev mL:Stmt:=inClass (top 6) 0
def Tv:aL ["self","name"] ["self","name"] (aC mL):=scz
def Xn{P:Program}{w:World}{K:W.Frag}{mg:xC}{base:Heap}{C:Addr}(S:Ax K C)(n0:cH K C "name"):nZ P w K mg base CX0 "Twice.__init__" mL ["self","name"] (Wm C "name"):=λf fd F=>by
 refine⟨F.ok Tv (λvs H Q E h=>?_) (λcdv A outer s H vs Q E hr h=>?_),F.binds (λ_ _ _ _ _ _=>el2 λ_ _=>rfl)⟩
 ·obtain⟨x,v,rfl,_⟩:=h
  rfl
 ·obtain⟨x,v,rfl,ho,k⟩:=h;refine⟨_,aF (nW (pv 0) (pv 1)),?_⟩;exact⟨_,rfl,_,rfl,x,C,rfl,S,n0.taker,.inl ⟨ho,k⟩⟩
abbrev iB:Stmt:=inClass (top 10) 0
def Jo:aL ["self","name"] ["self","name"] (aC iB):=scz
def Oi{P:Program}{w:World}{K:W.Frag}{mg:xC}{base:Heap}{C:Addr}(S:Ax K C)(n0:cH K C "name"):nZ P w K mg base CX0 "NoBlock.__init__" iB ["self","name"] (Wm C "name"):=λf fd F=>by
 refine⟨F.ok Jo (λvs H Q E h=>?_) (λcdv A outer s H vs Q E hr h=>?_),F.binds (λ_ _ _ _ _ _=>el2 λ_ _=>rfl)⟩
 ·obtain⟨x,v,rfl,_⟩:=h
  rfl
 ·obtain⟨x,v,rfl,ho,k⟩:=h;refine⟨_,aF (nW (pv 0) (pv 1)),?_⟩;exact⟨_,rfl,_,rfl,x,C,rfl,S,n0.taker,.inl ⟨ho,k⟩⟩
abbrev jH:Stmt:=inClass (top 11) 0
def Oj:aL ["self","name","pins"] ["self","name","pins"] (aC jH):=scz
def Tw{P:Program}{w:World}{K:W.Frag}{mg:xC}{base:Heap}{C:Addr}(S:Ax K C)(n0:cH K C "name")(n1:cH K C "pins"):nZ P w K mg base CX0 "Pinned.__init__" jH ["self","name","pins"] (ZR C "name" "pins"):=λf fd F=>by
 refine⟨F.ok Oj (λvs H Q E h=>?_) (λcdv A outer s H vs Q E hr h=>?_),F.binds (λ_ _ _ _ _ _=>el3 λ_ _ _=>rfl)⟩
 ·obtain⟨x,v,y,rfl,_⟩:=h
  rfl
 ·obtain⟨x,v,y,rfl,ho,k⟩:=h;refine⟨_,aq (nW (pv 0) (pv 1)) (aF (nW (pv 0) (pv 2))),?_⟩;refine⟨_,rfl,_,rfl,x,C,rfl,S,n0.taker,.inl ⟨ho,λdx hd=>?_⟩⟩;have hzx:dx≠x:=λq=>by rw[q,ho] at hd;cases hd
  exact⟨_,rfl,_,rfl,x,C,rfl,S,n1.taker,.inr ⟨dx,_,bA,by rw[aZ hzx,bA],hzx,by simp,k dx hd⟩⟩
abbrev iC:Stmt:=inClass (top 12) 0
def Jp:aL ["self","moves"] ["self","moves"] (aC iC):=scz
def Ol{P:Program}{w:World}{K:W.Frag}{mg:xC}{base:Heap}{C:Addr}(S:Ax K C)(n0:cH K C "moves"):nZ P w K mg base CX0 "NoMoves.__init__" iC ["self","moves"] (Wm C "moves"):=λf fd F=>by
 refine⟨F.ok Jp (λvs H Q E h=>?_) (λcdv A outer s H vs Q E hr h=>?_),F.binds (λ_ _ _ _ _ _=>el2 λ_ _=>rfl)⟩
 ·obtain⟨x,v,rfl,_⟩:=h
  rfl
 ·obtain⟨x,v,rfl,ho,k⟩:=h;refine⟨_,aF (nW (pv 0) (pv 1)),?_⟩;exact⟨_,rfl,_,rfl,x,C,rfl,S,n0.taker,.inl ⟨ho,k⟩⟩
abbrev iD:Stmt:=inClass (top 13) 0
def Jq:aL ["self","name","to"] ["self","name","to"] (aC iD):=scz
def Om{P:Program}{w:World}{K:W.Frag}{mg:xC}{base:Heap}{C:Addr}(S:Ax K C)(n0:cH K C "name")(n1:cH K C "to"):nZ P w K mg base CX0 "NoSlide.__init__" iD ["self","name","to"] (ZR C "name" "to"):=λf fd F=>by
 refine⟨F.ok Jq (λvs H Q E h=>?_) (λcdv A outer s H vs Q E hr h=>?_),F.binds (λ_ _ _ _ _ _=>el3 λ_ _ _=>rfl)⟩
 ·obtain⟨x,v,y,rfl,_⟩:=h
  rfl
 ·obtain⟨x,v,y,rfl,ho,k⟩:=h;refine⟨_,aq (nW (pv 0) (pv 1)) (aF (nW (pv 0) (pv 2))),?_⟩;refine⟨_,rfl,_,rfl,x,C,rfl,S,n0.taker,.inl ⟨ho,λdx hd=>?_⟩⟩;have hzx:dx≠x:=λq=>by rw[q,ho] at hd;cases hd
  exact⟨_,rfl,_,rfl,x,C,rfl,S,n1.taker,.inr ⟨dx,_,bA,by rw[aZ hzx,bA],hzx,by simp,k dx hd⟩⟩
class Txt(K:W.Frag)(mg:xC)(c:Nat->Addr)(R CL aG aA aH aB:Addr):Prop where
 qg:fU K mg "Twice" "Twice.__init__" mL (c 0) R
 Ln:Nq K (c 0) R
 qj:cH K (c 0) "name"
 jJ:fU K mg "NoBlock" "NoBlock.__init__" iB (c 1) R
 zx:Nq K (c 1) R
 lZ:cH K (c 1) "name"
 mj:fU K mg "Pinned" "Pinned.__init__" jH (c 2) R
 Fb:Nq K (c 2) R
 nu:cH K (c 2) "name"
 nA:cH K (c 2) "pins"
 jK:fU K mg "NoMoves" "NoMoves.__init__" iC (c 3) R
 zy:Nq K (c 3) R
 kj:cH K (c 3) "moves"
 jL:fU K mg "NoSlide" "NoSlide.__init__" iD (c 4) R
 zA:Nq K (c 4) R
 mq:cH K (c 4) "name"
 qm:cH K (c 4) "to"
 vR:HasDef K mg "is_whole" oG
 zB:HasDef K mg "is_from" qZ
 sI:HasDef K mg "is_within" lQ
 zE:HasDef K mg "is_many" q_
 zF:HasDef K mg "is_name" rA
 Fd:HasDef K mg "end_of" u9
 Fe:HasDef K mg "is_row" u_
 vU:HasDef K mg "cells_of" oH
 vV:HasDef K mg "need_row" oJ
 sJ:HasDef K mg "need_rows" lR
 Lp:HasDef K mg "share_cells" Bu
 zG:HasDef K mg "blocks_between" rB
 Lq:HasDef K mg "free_between" Bv
 sO:HasDef K mg "stretches_of" lV
 Lr:HasDef K mg "steps_down" Bw
 YW:HasDef K mg "steps_up" Tg
 Ls:HasDef K mg "moves_of" Bx
 Fg:∃tk0:Tok,KD K mg "packed" lX [.str "down" tk0]
 Fi:HasDef K mg "fewest_holes" vf
 Fj:HasDef K mg "cells_moved" vg
 vW:HasDef K mg "cheapest_joining" oK
 zH:W.codeHdIn K aH aB=true
 Lw:KR K mg "in_moving_order" p8 aH
 Fl:HasDef K mg "tidied" vh
 vX:HasDef K mg "is_tidied" oM
 Fo:HasDef K mg "is_pair" vm
 zJ:HasDef K mg "is_slide" rC
 Fp:HasDef K mg "step_of" vp
 Tz:HasDef K mg "gone_through" Jf
 Fq:HasDef K mg "gone_through_if_let" vq
 Ft:HasDef K mg "copies_of" vA
 zK:HasDef K mg "copies_of_steps" rD
 Lx:HasDef K mg "holes_among" BJ
 Fv:HasDef K mg "free_among" vC
 zL:HasDef K mg "holes_of" rE
 zM:HasDef K mg "_law_cell" rF
 YX:HasDef K mg "_law_well" Tj
 TF:HasDef K mg "_law_draw" Jg
 Ly:HasDef K mg "_law_names" BK
 TJ:HasDef K mg "_law_most" Jh
 TQ:HasDef K mg "_law_many" Ji
 TV:HasDef K mg "_law_rows" Jj
 Fw:HasDef K mg "_law_whole" vH
 TX:HasDef K mg "_law_walk" Jk
 Fx:HasDef K mg "_law_holes" vI
 qp:HasDef K mg "_law_stretches" jZ
 Fy:HasDef K mg "_law_joined" vJ
 Lz:HasDef K mg "_law_price" BL
 TY:HasDef K mg "_law_best" Jm
 YZ:HasDef K mg "_law_due" Tq
 sS:HasDef K mg "_law_elsewhere" lY
 Fz:HasDef K mg "_law_other_price" vK
 LC:HasDef K mg "_law_other_move" BP
 FJ:HasDef K mg "_law_other_moves" vL
 FN:HasDef K mg "_law_forged" vM
 bU:mg "isinstance" = none
 T3:mg "int" = none
 vY:mg "bool" = none
 FP:mg "str" = none
 iU:mg "list" = none
 j4:mg "tuple" = none
 dz:mg "len" = none
 T4:mg "all" = none
 fW:mg "range" = none
 vZ:mg "sorted" = none
 T5:mg "max" = none
 v7:mg "min" = none
 gC:mg "reversed" = none
 zN:mg "sum" = none
 mz:mg "enumerate" = none
 ad_:mg "zip" = none
 aea:mg "any" = none
 BR:mg "ValueError" = none
 zO:nR mg "LETTERS" (.str LET)
 qt:nR mg "NAME_SIGNS" (.str SGN)
 qw:nR mg "MOST_SIGNS" (.int 8)
 mC:nR mg "FEWEST_CELLS" (.int 16)
 qx:nR mg "MOST_CELLS" (.int 240)
 nF:nR mg "MOST_BLOCKS" (.int 40)
 tne:aA≠aB
 g_R:mg "RoomError" = some (.ref R)
 c_R:(W.clsIn K R).isSome=true
 t_R:W.typeIn K (.ref R)=some (.type "type")
 m_R:W.mroIn K R (.type "BaseException")=some true
 clL:Cls K CL
 zP:mg "Layout" = some (.ref CL)
 LK:cH K CL "many"
 LQ:cH K CL "rows"
 zQ:W.codeHdIn K aG aA=true
 LR:∃f,(∃fd,Fun K "__init__" "Layout.__init__" mK f fd/\fd.code=.ref aG)/\Mk K CL f
 zR:∃f,FnAt K "blocks" "Layout.blocks" rG f/\Meth K CL "blocks" f
 FQ:∃f,FnAt K "names" "Layout.names" vO f/\Meth K CL "names" f
 FT:∃f,FnAt K "block" "Layout.block" vP f/\Meth K CL "block" f
 FW:∃f,FnAt K "moved" "Layout.moved" vQ f/\Meth K CL "moved" f
section
set_option synthInstance.checkSynthOrder false
variable{K:W.Frag}{mg:xC}{c:Nat->Addr}{R CL aG aA aH aB:Addr}[T:Txt K mg c R CL aG aA aH aB]
instance:KC K CL "many":=⟨T.clL,T.LK⟩
instance:KC K CL "rows":=⟨T.clL,T.LQ⟩
end
local macro_rules|`(tactic| k_tabat)=>`(tactic| first
 | with_reducible assumption
 | (with_reducible exact New.e (by with_reducible assumption))
 | (with_reducible refine New.at (by with_reducible assumption) ?_;k_tabat)
 | (with_reducible refine Off.at (by with_reducible assumption) (by k_ne) ?_;k_tabat)
 | (with_reducible refine Kp.at (by with_reducible assumption) (by k_ne) ?_;k_tabat)
 | (with_reducible refine Same.at (by with_reducible assumption) ?_;k_tabat))
local macro_rules|`(tactic| k_ne)=>`(tactic| first
 | with_reducible assumption
 | (with_reducible exact Ne.symm (by with_reducible assumption))
 | (with_reducible exact New.neA (by with_reducible assumption) (by k_in))
 | (with_reducible exact New.neB (by with_reducible assumption) (by k_in)))
local macro_rules|`(tactic| k_in)=>`(tactic| first
 | (with_reducible exact Hs.of (by with_reducible assumption))
 | (with_reducible exact New.hs (by with_reducible assumption))
 | (with_reducible refine New.aaW (by with_reducible assumption) ?_;k_in)
 | (with_reducible refine Off.aaW (by with_reducible assumption) (by k_ne) ?_;k_in)
 | (with_reducible refine Kp.aaW (by with_reducible assumption) (by k_ne) ?_;k_in)
 | (with_reducible refine Same.aaW (by with_reducible assumption) ?_;k_in))
local macro_rules|`(tactic| k_flat)=>`(tactic| first
 | with_reducible assumption
 | (with_reducible exact SqL.of (by k_tabat))
 | (with_reducible exact SqT.of (by k_tabat))
 | (with_reducible refine Same.seq (by with_reducible assumption) ?_;k_flat)
 | (with_reducible refine Same.seq (New.s (by with_reducible assumption)) ?_;k_flat)
 | (with_reducible refine Off.seq (by with_reducible assumption) (by k_ne) ?_;k_flat))
local macro_rules|`(tactic| k_keys)=>`(tactic| first
 | with_reducible assumption
 | (with_reducible exact Yd)
 | (with_reducible exact ac4)
 | (with_reducible exact ac5)
 | (with_reducible exact ac6)
 | with_unfolding_all rfl)
local macro_rules|`(tactic| k_room)=>`(tactic| first
 | with_reducible assumption
 | decide
 | lia
 | (simp only[List.length_cons,List.length_nil,List.length_map,List.length_append,List.length_replicate];lia))
local macro_rules|`(tactic| k_inst)=>`(tactic| first
 | (with_reducible refine bN ?_;first|lia|(simp only[List.length_cons,List.length_nil,List.length_map,List.length_append,List.length_replicate,gA];lia))
 | (with_reducible refine DP ?_;first|lia|(simp only[List.length_cons,List.length_nil,List.length_map,List.length_append,List.length_replicate,gA];lia))
 | with_unfolding_all exact Nat.le_of_ble_eq_true rfl
 | lia)
local macro_rules|`(tactic| k_upd)=>`(tactic| first
 | with_reducible assumption
 | (intro b u e;k_tabat))
local macro_rules|`(tactic| k_updF)=>`(tactic| first
 | with_reducible assumption
 | (intro b u nb e;k_tabat))
local macro_rules|`(tactic| k_all)=>`(tactic| first
 | with_reducible assumption
 | (refine⟨?_,?_,?_⟩;(focus (intro b u e;k_tabat));(focus k_tabat);(focus (intro b u e;k_ne))))
local macro_rules|`(tactic| k_mem)=>`(tactic| with_reducible (first
 | refine QJ ?_|refine QK ?_|refine QL ?_|refine Yi ?_|refine Ka ?_|refine J8 ?_|refine Yg ?_|refine ac0 ?_
 | refine Kc ?_|refine acS ?_|refine Yh ?_|refine Yj ?_|refine J7 ?_|refine QG ?_|refine w_call ?_|refine w_c ?_
 | refine wv0 ?_|refine wv1 ?_|refine wv2 ?_|refine wv3 ?_|refine wv4 ?_|refine wv5 ?_|refine wv6 ?_|refine wv7 ?_|refine wv8 ?_|refine wv9 ?_|refine ZX ?_|refine Z0 ?_|refine Z1 ?_|refine ajO ?_
 | refine wn0 ?_|refine wn1 ?_|refine wn2 ?_|refine wn3 ?_|refine wn4 ?_|refine wn5 ?_|refine wn6 ?_|refine wn7 ?_|refine wn8 ?_|refine wn9 ?_|refine acV ?_|refine acW ?_|refine acX ?_|refine acY ?_
 | refine Z2 ?_|refine w_u ?_|refine ajP ?_|refine Q5 ?_|refine Q6 ?_|refine Yn ?_|refine Yo ?_|refine ai9 ?_|refine Yp ?_|refine acZ ?_|refine w_not ?_|refine w_and ?_|refine w_or ?_|refine Q9 ?_|refine Q_ ?_|refine ai_ ?_
 | refine Yq ?_|refine Kh ?_|refine ac1 ?_|refine aja ?_|refine w_sub ?_|refine Kl ?_|refine Du ?_|refine Ra ?_|refine Yr ?_|refine Rh ?_|refine Ys ?_|refine ahI ?_|refine ahJ ?_
 | refine w_mod (by decide) ?_|refine w_div (by decide) (by decide) ?_|refine w_pow (by decide) (by decide) (by decide) ?_|refine HY (by decide) (by decide) ?_|refine Ia (by decide) (by decide) ?_|refine J9 ?_|refine J_ ?_|refine ahK ?_|refine ajb ?_|refine Rn ?_|refine Kq ?_|refine ajc ?_|refine ahL ?_|refine ajd ?_|refine ahM ?_|refine Rx ?_|refine DW ?_|refine DR ?_|refine DQ ?_))
set_option hygiene false in
local macro_rules|`(tactic| k_meth)=>`(tactic| first
 | k_mem
 | with_reducible (refine RM (by k_tabat) ?_)
 | with_reducible (refine RN (by k_tabat) ?_)
 | with_reducible (refine ahN (by k_tabat) ?_)
 | with_reducible (refine ahO (by k_tabat) ?_)
 | with_reducible refine ahP ?_
 | with_reducible refine ahQ ?_
 | with_reducible refine RP ?_
 | with_reducible refine ahR ?_
 | with_reducible (refine Dv (by k_flat) (by k_keys) ?_)
 | with_reducible (refine Rb (by k_flat) (by k_keys) ?_)
 | with_reducible (refine Ib (by k_flat) ?_)
 | with_reducible (refine Rf (by k_flat) ?_)
 | with_reducible (refine Wx (by k_inst) ?_;intro _ _ _)
 | with_reducible (refine Yz (by k_flat) ?_)
 | with_reducible (refine YB (by k_tabat) (by k_inst) ?_;intro _ _ _)
 | with_reducible (refine aje (by k_tabat) ?_;intro _ _ _)
 | with_reducible (refine RB (by k_flat) ?_;intro _ _ _)
 | with_reducible (refine RD (by k_tabat) (by k_tabat) (by k_inst) ?_;intro _ _ _)
 | with_reducible (refine RK (by k_flat) ?_;intro _ _ _)
 | with_reducible (refine RJ (by k_tabat) (by lia) ?_;intro _ _ _)
 | with_reducible (refine Yt (by k_room) ?_)
 | with_reducible (refine Yu (by k_room) ?_)
 | with_reducible (refine Ri (by k_room) ?_)
 | with_reducible (refine Rj (by k_room) ?_)
 | with_reducible (refine ac7 ?_)
 | with_reducible (refine ac8 ?_)
 | with_reducible (refine YC ?_)
 | with_reducible (refine YD ?_)
 | with_reducible (refine RQ (by with_unfolding_all rfl) (by k_flat) ?_)
 | with_reducible (refine RL rfl ?_)
 | with_reducible refine ahS ?_
 | with_reducible refine Yy ?_
 | with_reducible refine ahT ?_
 | with_reducible (refine w_mod (by lia) ?_)
 | with_reducible (refine ahU ?_)
 | with_reducible refine RT ?_
 | with_reducible refine Kw ?_
 | with_reducible refine Ky ?_
 | with_reducible refine Rq ?_
 | with_reducible refine Kr ?_)
section
variable{P:Program}{w:World}{K:W.Frag}{mg:xC}{base:Heap}{c:Nat->Addr}{aG aA aH aB R CL:Addr}
def oN(T:Txt K mg c R CL aG aA aH aB):Def P w K mg base CX0 1 "is_whole" ["thing"] (lE K):=by
 refine dA T.vR su λf cdv A outer s H vs Q E hr h=>?_
 obtain⟨x,n,rfl,ty,k⟩:=h;have nd:=su.nd;refine⟨_,(aF (aR (iI (aX cZ rfl T.bU boot_isinstance (aj (pv 0) (aj (je (T := "int") rfl T.T3 boot_int) ao))) (jP (PK (aX cZ rfl T.bU boot_isinstance (aj (pv 0) (aj (je (T := "bool") rfl T.vY boot_bool) ao)))))))),?_⟩;clear nd ;rw[stE]
 try dsimp only[cI,bO]
 rw[Qs] at k
 repeat k_mem
 refine w_is ty (Qt ty) ?_
 repeat k_mem
 refine i_b (λh=>?_) (λh=>?_)
 ·repeat k_mem
  refine w_is ty (Av ty) ?_
  repeat k_mem
  rw[h] at k;exact k
 ·rw[h] at k;exact k
theorem mO(T:Txt K mg c R CL aG aA aH aB):Def P w K mg base CX0 2 "is_from" ["thing","low"] (n_ K):=by
 refine dA T.zB uZ λf cdv A outer s H vs Q E hr h=>?_
 obtain⟨x,n,lo,rfl,ty,k⟩:=h;have nd:=uZ.nd;refine⟨_,(aF (aR (iI (aK (oN T) hr (aj (pv 0) ao)) (jP (gG pB (pv 1) (pv 0) (aY _)))))),?_⟩;clear nd;rw[stE]
 try dsimp only[cI,bO]
 repeat k_mem
 refine Bg ty ?_
 repeat k_mem
 cases x with
 | int i =>
  refine i_T rfl ?_
  repeat k_mem
  exact k
 | _=>exact i_F rfl k
theorem sU(T:Txt K mg c R CL aG aA aH aB):Def P w K mg base CX0 2 "is_within" ["thing","low","high"] (jV K):=by
 refine dA T.sI pY λf cdv A outer s H vs Q E hr h=>?_
 obtain⟨x,n,lo,hi,rfl,ty,k⟩:=h;have nd:=pY.nd;refine⟨_,(aF (aR (iI (aK (oN T) hr (aj (pv 0) ao)) (jP (Qd pB pB (pv 1) (pv 0) (pv 2)))))),?_⟩;clear nd;rw[stE]
 try dsimp only[cI,bO]
 repeat k_mem
 refine Bg ty ?_
 repeat k_mem
 cases x with
 | int i =>
  refine i_T rfl ?_
  repeat k_mem
  have k:Q (.bl (decide (lo<=i) && decide (i<=hi))) H:=k;refine cN (λh=>?_) (λh=>?_)
  ·repeat k_mem
   rw[gX h,Bool.true_and] at k;exact k
  ·rw[gS h,Bool.false_and] at k;exact k
 | _=>exact i_F rfl k
def Oo(T:Txt K mg c R CL aG aA aH aB):Def P w K mg base CX0 3 "is_many" ["thing"] (uJ K):=by
 refine dA T.zE u5 λf cdv A outer s H vs Q E hr h=>?_
 obtain⟨x,n,rfl,ty,k⟩:=h;have nd:=u5.nd;refine⟨_,(aF (aR (aK (sU T) hr (aj (pv 0) (aj (uh T.mC) (aj (uh T.qx) ao)))))),?_⟩;clear nd;rw[stE]
 try dsimp only[cI,bO]
 repeat k_mem
 exact DX ty k
def mD(T:Txt K mg c R CL aG aA aH aB):Def P w K mg base CX0 1 "end_of" ["stretch"] qW:=by
 refine dA T.Fd yJ λf cdv A outer s H vs Q E hr h=>?_
 obtain⟨q,a,b,rfl,h,k⟩:=h;have nd:=yJ.nd;refine⟨_,(aF (aR (aW bQ (aO bF (pv 0) au (λ_ _=>rfl)) (aO bF (pv 0) au (λ_ _=>rfl))))),?_⟩;clear nd ;rw[stE]
 try dsimp only[cI,bO]
 repeat k_meth
 exact k
def Oq(T:Txt K mg c R CL aG aA aH aB):Def P w K mg base CX0 1 "_law_cell" ["_law_script","_law_k"] (uK K):=by
 refine dA T.zM vG λf cdv A outer s H vs Q E hr h=>?_
 obtain⟨a,ns,m,rfl,hS,m0,k⟩:=h;have nd:=vG.nd;refine⟨_,(aq (bL (aN jd (pv 1) (aX bK rfl T.dz boot_len (aj (pv 0) ao)) (aY _)) (aF (aR (aO bH (pv 0) (pv 1) (λ_ _=>rfl)))) bf)
  (aF (aR (aW bQ (aW nO au (pv 1)) au)))),?_⟩
 clear nd ;rw[stE]
 try dsimp only[cI,bO]
 repeat k_meth
 refine cN (λh=>?_) (λh=>?_)
 ·repeat k_meth
  rw[wE] at h;obtain⟨v,e,mm⟩:=Qv (xs:=ns.map V.int) m0 (by rw[wE];exact h);obtain⟨c,_,rfl⟩:=vT.mp mm;exact Dv hS e (k c)
 ·repeat k_meth
  exact k _
def aeb(T:Txt K mg c R CL aG aA aH aB):Def P w K mg base CX0 1 "_law_well" ["_law_cell_here"] Bh:=by
 refine dA T.YX Tp λf cdv A outer s H vs Q E hr h=>?_
 obtain⟨c,rfl,k⟩:=h;have nd:=Tp.nd;refine⟨_,(aq (bL (aN acB (pv 0) (aW Qa au au) (aY _)) (aF (aR (bC (aj (pv 0) (aj (aW ji (pv 0) au) (aj au ao)))))) bf)
  (aF (aR (bC (aj au (aj (aW ji (pv 0) au) (aj au ao))))))),?_⟩
 clear nd ;rw[stE]
 try dsimp only[cI,bO]
 repeat k_meth
 refine cN (λh=>?_) (λh=>?_)
 ·repeat k_meth
  rename_i n;exact k _ _ _ _ n
 ·repeat k_meth
  rename_i n;exact k _ _ _ _ n
def bW(T:Txt K mg c R CL aG aA aH aB):Def P w K mg base CX0 1 "_law_draw" ["_law_well_here","_law_many_here"] uL:=by
 refine dA T.TF Le λf cdv A outer s H vs Q E hr h=>?_
 obtain⟨p,a,b,c,m,rfl,hp,m0,m1,k⟩:=h;have nd:=Le.nd;refine⟨_,(aq (bL (aN eH (aO bH (pv 0) au (λ_ _=>rfl)) au (aY _)) (aq (psz 2 nd (aW ji (aO bH (pv 0) au (λ_ _=>rfl)) (pv 1)))
   (aq (jQ (aW pA (aO bH (pv 0) au (λ_ _=>rfl)) (pv 1)) (t_ (pv 0) au jC))
   (aF (aR (pv 2))))) bf)
  (aq (jQ (aW bQ (aO bH (pv 0) au (λ_ _=>rfl)) au) (t_ (pv 0) au jC))
  (aq (psz 2 nd (aW ji (aW bQ (aW bQ (aW nO (aO bH (pv 0) au (λ_ _=>rfl)) au) (aW nO au (aO bH (pv 0) au (λ_ _=>rfl)))) au) au))
  (aq (psz 2 nd (aW ji (aW bQ (aW bQ (aW nO (pv 2) (pv 2)) (aW nO au (aO bH (pv 0) au (λ_ _=>rfl)))) au) au))
  (aF (aR (aW ji (aW ji (aW nO (pv 2) (pv 2)) au) (pv 1)))))))),?_⟩
 clear nd ;rw[stE]
 try dsimp only[cI,bO]
 repeat k_meth
 refine cN (λh=>?_) (λh=>?_)
 ·repeat k_meth
  refine w_div m0 m1 ?_
  repeat k_meth
  refine Il hp rfl λH1 f1 e1=>?_
  repeat k_meth
  exact k _ _ _ _ H1 (Int.emod_nonneg _ (by lia)) (Int.emod_lt_of_pos _ m0) f1 e1
 ·repeat k_meth
  refine Il hp rfl λH1 f1 e1=>?_
  have e1:H1 p=some (.lst [.int a,.int b,.int (c+1)]):=e1
  repeat k_meth
  generalize (b*48271+7919*(c+1)+101)=z
  have b1:=Int.emod_nonneg z (show (2147483647:Int)≠0 by decide);have b2:=Int.emod_lt_of_pos z (show (0:Int)<2147483647 by decide)
  generalize z % 2147483647=y at b1 b2
  refine HY (by lia) (by lia) ?_
  repeat k_meth
  have b3:=Int.emod_nonneg (y*y+104729*(c+1)+7) (show (2147483629:Int)≠0 by decide);have b4:=Int.emod_lt_of_pos (y*y+104729*(c+1)+7) (show (0:Int)<2147483629 by decide)
  generalize (y*y+104729*(c+1)+7) % 2147483629=x at b3 b4
  refine Ia (by lia) (by lia) ?_
  repeat k_meth
  exact k _ _ _ _ H1 (Int.emod_nonneg _ (by lia)) (Int.emod_lt_of_pos _ m0) f1 e1
end
end K89
namespace K89
open PySem L2 PyProof.Rows
local macro_rules|`(tactic| k_room)=>`(tactic| first
 | with_reducible assumption
 | with_unfolding_all exact rfl
 | with_unfolding_all exact Nat.le_of_ble_eq_true rfl
 | lia
 | (with_reducible refine bN ?_;first|lia|(simp only[List.length_cons,List.length_nil,List.length_map,List.length_append,List.length_replicate,gA,List.length_take,List.length_drop,List.length_set];lia))
 | (with_reducible refine DP ?_;first|lia|(simp only[List.length_cons,List.length_nil,List.length_map,List.length_append,List.length_replicate,gA,List.length_take,List.length_drop,List.length_set];lia))
 | (simp only[List.length_cons,List.length_nil,List.length_map,List.length_append,List.length_replicate,gA,List.length_take,List.length_drop,List.length_set];lia)
 | decide)
local macro_rules|`(tactic| k_mem)=>`(tactic| first
 | with_reducible assumption
 | decide
 | lia
 | (simp only[List.length_cons,List.length_nil,List.length_map,List.length_append,List.length_replicate,gA,List.length_take,List.length_drop,List.length_set];lia))
set_option hygiene false in
local macro_rules|`(tactic| k_meth)=>`(tactic| first
 | with_reducible refine go1 ?_
 | (clear F;intro H_ a_ dx_ (F:SH _ _ _ _ _) (ex_:Nt _ _ _ _);have exA_:=ExA.mk ex_)
 | (clear F;intro H_ (F:SH _ _ _ _ _))
 | (clear F;intro H_ p_ (F:SH _ _ _ _ _))
 | (clear F;intro H_ x_ dx_ (F:SH _ _ _ _ _))
 | (clear F;intro H_ p_ ys_ l_ (F:SH _ _ _ _ _))
 | with_reducible refine sd (by k_room) ?_
 | (intro (r_:Int) (x_:Int) (y_:Int) (z_:Int) lo_ hi_)
 | (intro (x_:Int) (y_:Int))
 | (intro (c_:Int))
 | with_reducible refine Yt (by k_mem) ?_
 | with_reducible refine Yu (by k_mem) ?_
 | with_reducible refine Ri (by k_mem) ?_
 | with_reducible refine Rj (by k_mem) ?_)
open M22
def v8:Sp:=λvs H Q _=>∃cs:List Nat,An3 (vs=[.str (tx cs)]) (dO cs) (∀H',Same H H'->Q (.bl true) H')
def FZ:Sp:=λvs H Q _=>Ex6 λ(p q:Addr) (a b c d:Int)=>An4 (vs=[.ref p,.ref q]) (H p=some (.tup [.int a,.int b])) (H q=some (.tup [.int c,.int d])) (Q (.bl (decide (a<c+d) && decide (c<a+b))) H)
def Ga:Sp:=λvs H Q _=>∃(q:Addr)(r:Rw),An3 (vs=[.ref q]) (H q=some (.tup (dD r))) (∀p H',Same H H'->H' p=some (.tup [.int (r.st:Nat),.int (r.sz:Nat)])->Q (.ref p) H')
def zT:Sp:=λvs H Q _=>∃(q:Addr)(r:Rw),An5 (vs=[.ref q]) (H q=some (.tup (dD r))) (dO r.nm) (1<=r.sz) (∀H',Same H H'->Q (.bl true) H')
def sV:Sp:=λvs H Q _=>Ex6 λ(n:Nat) (q l:Addr) (r:Rw) (ys:List V) (rs:List Rw)=>An7 (vs=[.int (n:Nat),.ref q,.ref l]) (H q=some (.tup (dD r))) (H l=some (.lst ys)) (aD H ys (aJ rs)) (GoodR n r) ((∀s∈rs,Apart s r)) (∀H',Same H H'->Q .non H')
def qy:Sp:=λvs H Q _=>Ex4 λ(n:Nat) (l:Addr) (ys:List V) (rs:List Rw)=>An5 (vs=[.int (n:Nat),.ref l]) (H l=some (.lst ys)) (aD H ys (aJ rs)) (Lay n rs) (∀H',Same H H'->Q .non H')
section
variable{H:Hp}{Q:VK}{E:XK}{cs:List Nat}{p q l:Addr}{a b c d:Int}{r:Rw}{n:Nat}{ys:List V}{rs:List Rw}
instance aaX:Go (v8 [.str (tx cs)] H Q E) (Sd (dO cs) (∀H',Same H H'->Q (.bl true) H')):=⟨λs=>⟨cs,rfl,s.1,s.2⟩⟩
instance aec[h:Hat H p (.tup [.int a,.int b])][h2:Hat H q (.tup [.int c,.int d])]:Go (FZ [.ref p,.ref q] H Q E) (Q (.bl (decide (a<c+d) && decide (c<a+b))) H):=⟨λk=>⟨p,q,a,b,c,d,rfl,h.e,h2.e,k⟩⟩
instance aed[h:Hat H q (.tup (dD r))]:Go (Ga [.ref q] H Q E) (∀p H',Same H H'->H' p=some (.tup [.int (r.st:Nat),.int (r.sz:Nat)])->Q (.ref p) H'):=⟨λk=>⟨q,r,rfl,h.e,k⟩⟩
instance acf[h:Hat H q (.tup (dD r))]:Go (zT [.ref q] H Q E) (Sd (dO r.nm/\1<=r.sz) (∀H',Same H H'->Q (.bl true) H')):=⟨λs=>⟨q,r,rfl,h.e,s.1.1,s.1.2,s.2⟩⟩
instance Y0[h:Hat H q (.tup (dD r))][h2:Hat H l (.lst ys)][t:TpA H ys (aJ rs)]:Go (sV [.int (n:Nat),.ref q,.ref l] H Q E) (Sd (GoodR n r/\∀s∈rs,Apart s r) (∀H',Same H H'->Q .non H')):=⟨λs=>⟨n,q,l,r,ys,rs,rfl,h.e,h2.e,t.e,s.1.1,s.1.2,s.2⟩⟩
instance Xo[h2:Hat H l (.lst ys)][t:TpA H ys (aJ rs)]:Go (qy [.int (n:Nat),.ref l] H Q E) (Sd (Lay n rs) (∀H',Same H H'->Q .non H')):=⟨λs=>⟨n,l,ys,rs,rfl,h2.e,t.e,s.1,s.2⟩⟩
instance aee{H0:Hp}{M:List Addr}{L:List (Addr×HO)}{I:List Im}{xs:List V}{Z:Addr->Hp->Prop}[F:SH H0 M H L I]:Go (∀p H',Same H H'->H' p=some (.tup xs)->Z p H') (∀H' p,SH H0 M H' L (.tup p xs::I)->Z p H'):=⟨λk p H' s e=>k H' p ((F.same s).uM e)⟩
def Ot{i:Nat}(t:aD H ys (aJ rs)):aD H (ys.take i) (aJ (rs.take i)):=by
 refine⟨?_,λj r e=>?_⟩
 ·rw[bw,oQ,oQ,t.1,bw]
 ·unfold aJ at e;rw[List.map_take,List.getElem?_take] at e;split at e
  ·rename_i hj;obtain⟨q,e1,e2⟩:=t.2 j r e;exact⟨q,by rw[List.getElem?_take,zS hj];exact e1,e2⟩
  ·cases e
def Gb{i:Nat}:eG ys none (some (i:Int))=ys.take i:=by
 unfold eG;rw[HT.mJ];show (ys.drop 0).take (min i ys.length-0)=_;rw[List.drop_zero,Nat.sub_zero];by_cases h:i<=ys.length
 ·rw[show min i ys.length=i by lia]
 ·rw[nS (by lia),nS (by lia)]
end
section
variable{P:Program}{w:World}{K:W.Frag}{mg:xC}{base:Heap}{c:Nat->Addr}{aG aA aH aB R CL:Addr}
def Ou(T:Txt K mg c R CL aG aA aH aB):Def P w K mg base CX0 1 "is_name" ["thing"] v8:=by
 refine dA T.zF u6 λf cdv A outer s H vs Q E hr h=>?_
 obtain⟨cs,rfl,ok,k⟩:=h;have nd:=u6.nd;refine⟨_,(aq (bL (PW.pt (gO (dW (dH (aX cZ rfl T.bU boot_isinstance (aj (pv 0) (aj (je (T := "str") rfl T.FP boot_str) ao))))) (gY (dW (kW pB pB au (aX bK rfl T.dz boot_len (aj (pv 0) ao)) (uh T.qw)))))) (aF (aR iG)) bf)
  (aF (aR (iI (gG R6 (aO Ao (pv 0) au (λ_ _=>rfl)) (uh T.zO) (by with_unfolding_all rfl)) (jP (aX (Di rfl) rfl T.T4 boot_all (aj (cQ (N:=["sign"]) (nt:=1) (fr:=[]) (ZP (pv 0)) (λ_ _ _ _=>(bG (i:=0) (show (["sign"]:List Str).Nodup from by decide +kernel) rfl (Or.inl rfl))) (λ_ _ _ _=>dF) (λ_ _ _ _=>(gG R6 (pv 0) (uh T.qt) (by with_unfolding_all rfl)))) ao))))))),?_⟩
 clear nd ;rw[stE]
 try dsimp only[cI,bO]
 have F:=SH.n0 H;have h1:=ok.lo;have h2:=ok.hi
 repeat k_meth
 intro c hc
 repeat k_meth
 rw[WQ,ok.hd c hc]
 repeat k_meth
 refine aaA (F:=λc=>V.bl true) (by lia) rfl (λc H' R hm s kk=>?_) ?_
 ·clear F;have F:SH H' [] H' [] []:=SH.nil
  repeat k_meth
  rw[WR,ok.all c hm];exact kk _ (Same.refl _)
 ·have e:(cs.map λ_=>V.bl true)=(List.replicate cs.length true).map V.bl:=by
   rw[List.map_replicate,List.map_const']
  rw[e]
  repeat k_meth
  rw[show (List.replicate cs.length true).all id=true by simp];exact k _ F.sm
def Xp(T:Txt K mg c R CL aG aA aH aB):Def P w K mg base CX0 2 "share_cells" ["one","other"] FZ:=by
 refine dA T.Lp Ep λf cdv A outer s H vs Q E hr h=>?_
 obtain⟨p,q,a,b,c,d,rfl,hp,hq,k⟩:=h;have nd:=Ep.nd;refine⟨_,(aF (aR (iI (gG jd (aO bF (pv 0) au (λ_ _=>rfl)) (aK (mD T) hr (aj (pv 1) ao)) (aY _)) (jP (gG jd (aO bF (pv 1) au (λ_ _=>rfl)) (aK (mD T) hr (aj (pv 0) ao)) (aY _)))))),?_⟩;clear nd;rw[stE]
 try dsimp only[cI,bO]
 have m6:=om hp;have aaY:=om hq;have F:=SH.n0 H
 repeat k_meth
 refine cN (λh=>?_) (λh=>?_)
 ·repeat k_meth
  rw[gX h,Bool.true_and] at k;exact k
 ·rw[gS h,Bool.false_and] at k;exact k
def iV(T:Txt K mg c R CL aG aA aH aB):Def P w K mg base CX0 1 "cells_of" ["row"] Ga:=by
 refine dA T.vU sy λf cdv A outer s H vs Q E hr h=>?_
 obtain⟨q,r,rfl,hq,k⟩:=h;have nd:=sy.nd;refine⟨_,(aF (aR (bD (aj (aO bF (pv 0) au (λ_ _=>rfl)) (aj (aO bF (pv 0) au (λ_ _=>rfl)) ao))))),?_⟩;clear nd ;rw[stE]
 try dsimp only[cI,bO]
 have aaY:=om hq;have F:=SH.n0 H
 repeat k_meth
 exact k _ _ F.sm aM
def T6(T:Txt K mg c R CL aG aA aH aB):Def P w K mg base CX0 3 "is_row" ["thing"] zT:=by
 refine dA T.Fe yK λf cdv A outer s H vs Q E hr h=>?_
 obtain⟨q,r,rfl,hq,ok,hz,k⟩:=h;have nd:=yK.nd;refine⟨_,(aq (bL (PW.pt (gO (dW (dH (aX cZ rfl T.bU boot_isinstance (aj (pv 0) (aj (je (T := "tuple") rfl T.j4 boot_tuple) ao))))) (gY (aN j_ (aX bK rfl T.dz boot_len (aj (pv 0) ao)) au (aY _))))) (aF (aR iG)) bf)
  (aF (aR (iI (aK (Ou T) hr (aj (aO bF (pv 0) au (λ_ _=>rfl)) ao)) (iI (aK (mO T) hr (aj (aO bF (pv 0) au (λ_ _=>rfl)) (aj au ao))) (iI (aK (mO T) hr (aj (aO bF (pv 0) au (λ_ _=>rfl)) (aj au ao))) (jP (aK (mO T) hr (aj (aO bF (pv 0) au (λ_ _=>rfl)) (aj au ao)))))))))),?_⟩
 clear nd;rw[stE]
 try dsimp only[cI,bO]
 have aaY:=om hq;have F:=SH.n0 H;have e4:(((dD r).length:Nat):Int)=4:=rfl
 repeat k_meth
 exact k _ F.sm
def Jr(T:Txt K mg c R CL aG aA aH aB):Def P w K mg base CX0 4 "need_row" ["many","row","ahead"] sV:=by
 refine dA T.vV sE λf cdv A outer s H vs Q E hr h=>?_
 obtain⟨n,q,l,r,ys,rs,rfl,hq,hl,tp,gd,ap,k⟩:=h;have nd:=sE.nd;refine⟨_,(aq (bL (dW (dH (aK (T6 T) hr (aj (pv 1) ao)))) eV bf)
  (aq (bL (aN eH (aK (mD T) hr (aj (aK (iV T) hr (aj (pv 1) ao)) ao)) (pv 0) (aY _)) eV bf)
  (aq (cU PassesOwn.never rfl (bJ (pv 2)) (pgz 3 nd) (aF (bL (aN dJ (aO bF (pv 3) au (λ_ _=>rfl)) (aO bF (pv 1) au (λ_ _=>rfl)) (aY _)) eV bf)))
  (aF (cU PassesOwn.never rfl (bJ (pv 2)) (pgz 3 nd) (aF (bL (dH (aK (Xp T) hr (aj (aK (iV T) hr (aj (pv 1) ao)) (aj (aK (iV T) hr (aj (pv 3) ao)) ao)))) eV bf))))))),?_⟩
 clear nd;rw[stE]
 try dsimp only[cI,bO]
 have aaY:=om hq;have jx:=om hl;have i_:=dN.mk tp;have F:=SH.n0 H;have ok:dO r.nm/\1<=r.sz:=⟨gd.nm,gd.sz⟩;have le:=gd.le
 repeat k_meth
 refine eE (xs:=ys) (λi σ' H'=>∃o3:Option V,σ'=[some (.int (n:Nat)),some (.ref q),some (.ref l),o3]/\SH H [] H' [] []) ⟨_,rfl,F.Ir⟩ ?_ ?_ ?_
 ·clear F;rintro i σ' H' _ ⟨_,rfl,F⟩;exact SqA.e
 ·clear F;rintro i v σ' H' hv ⟨_,rfl,F⟩;obtain⟨s,q1,e1,rfl,e2⟩:=dh tp hv;have iy:=om e2;have ne:¬ tx s.nm=tx r.nm:=λz=>(ap s (yT e1)).1 (lK z)
  repeat k_meth
  exact⟨_,rfl,F⟩
 ·clear F;rintro σ' H' ⟨_,rfl,F⟩
  repeat k_meth
  refine eE (xs:=ys) (λi σ' H'=>∃o3:Option V,σ'=[some (.int (n:Nat)),some (.ref q),some (.ref l),o3]/\SH H [] H' [] []) ⟨_,rfl,F.Ir⟩ ?_ ?_ ?_
  ·clear F;rintro i σ' H' _ ⟨_,rfl,F⟩;exact SqA.e
  ·clear F;rintro i v σ' H' hv ⟨_,rfl,F⟩;obtain⟨s,q1,e1,rfl,e2⟩:=dh tp hv;have iy:=om e2;have ne:=(ap s (yT e1)).2
   repeat k_meth
   have e5:(decide (((r.st:Nat):Int)<((s.st:Nat):Int)+((s.sz:Nat):Int)) && decide (((s.st:Nat):Int)<((r.st:Nat):Int)+((r.sz:Nat):Int)))=false:=by
    rcases ne with ne|ne
    ·rw[gS (by lia),Bool.false_and]
    ·rw[gS (show ¬ ((s.st:Nat):Int)<((r.st:Nat):Int)+((r.sz:Nat):Int) by lia),Bool.and_false]
   rw[e5]
   repeat k_meth
   exact⟨_,rfl,F.Ir⟩
  ·clear F;rintro σ' H' ⟨_,rfl,F⟩
   repeat k_meth
   exact k _ F.sm
def Gd(T:Txt K mg c R CL aG aA aH aB):Def P w K mg base CX0 5 "need_rows" ["many","rows"] qy:=by
 refine dA T.sJ pZ λf cdv A outer s H vs Q E hr h=>?_
 obtain⟨n,l,ys,rs,rfl,hl,tp,ly,k⟩:=h;have nd:=pZ.nd;refine⟨_,(aq (bL (dW (dH (aX cZ rfl T.bU boot_isinstance (aj (pv 1) (aj (je (T := "list") rfl T.iU boot_list) ao))))) eV bf)
  (aq (bL (aN eH (aX bK rfl T.dz boot_len (aj (pv 1) ao)) (uh T.nF) (aY _)) eV bf)
  (aF (cU PassesOwn.never rfl (fK rfl T.fW (aj (aX bK rfl T.dz boot_len (aj (pv 1) ao)) ao)) (pgz 2 nd) (aF (cT (aK (Jr T) hr (aj (pv 0) (aj (aO bH (pv 1) (pv 2) (λ_ _=>rfl)) (aj (cY c7 (pv 1) eY (dY (pv 2))) ao)))))))))),?_⟩
 clear nd;rw[stE]
 try dsimp only[cI,bO]
 have jx:=om hl;have i_:=dN.mk tp;have F:=SH.n0 H;have few:=ly.few;have yl:ys.length=rs.length:=by rw[tp.1,bw]
 repeat k_meth
 rw[show ((ys.length:Nat):Int).toNat=ys.length by lia];refine lG (λi σ' H'=>∃o2:Option V,σ'=[some (.int (n:Nat)),some (.ref l),o2]/\SH H [] H' [] []) ⟨_,rfl,F⟩ ?_ ?_
 ·clear F;rintro i σ' H' hi ⟨_,rfl,F⟩;obtain⟨s,q1,e1,e0,e2⟩:=dh tp (i:=i) (v:=ys[i]) (by simp);have iy:=om e2;have a1:AtI ys (i:Int) (.ref q1):=⟨cP (by rw[<- e0];simp)⟩;have gd:=ly.good s (yT e1);have ap:∀t∈rs.take i,Apart t s:=λt ht=>by
   have h1:=ly.ap;obtain⟨hi2,rfl⟩:=jS.mp e1;obtain⟨j,hj,rfl⟩:=List.getElem_of_mem ht;rw[oQ] at hj;rw[List.getElem_take];exact List.pairwise_iff_getElem.mp h1 j i (by lia) hi2 (by lia)
  have side:=And.intro gd ap
  repeat k_meth
  rw[Gb] at F;have tp2:TpA H_ (ys.take i) (aJ (rs.take i)):=⟨(Ot tp).same F.sm⟩
  repeat k_meth
  exact⟨_,rfl,F.Ir⟩
 ·clear F;rintro σ' H' ⟨_,rfl,F⟩
  repeat k_meth
  exact k _ F.sm
end
def lF(n:Int)(p:Addr):List (Str×V):=fZ "rows" (.ref p) (fZ "many" (.int n) [])
def Xq{n:Int}{p:Addr}:(lF n p).lookup ("many" : Str)=some (.int n):=by unfold lF;rw[dR,if_neg (by decide),dR,if_pos rfl]
def Xr{n:Int}{p:Addr}:(lF n p).lookup ("rows" : Str)=some (.ref p):=by unfold lF;rw[dR,if_pos rfl]
def tU{n:Int}{p:Addr}{m:Str}(h1:m ≠ "rows")(h2:m ≠ "many"):(lF n p).lookup m=none:=by unfold lF;rw[dR,if_neg h1,dR,if_neg h2];rfl
class T7(n:Nat)(rs:List Rw)(as:outParam (List Rw)):Prop where
 p:rs.Perm as
 l:Lay n as
 a:Asc as
def Ge(CL P:Addr)(pos:Pos)(qual:Str):Sp:=λvs H Q _=>Ex8 λ(x dx l:Addr) (n:Nat) (ys:List V) (rs as:List Rw) (ps:xF)=>Xd (vs=[.ref x,.int (n:Nat),.ref l]) (H x=some (.ins CL dx [])) (H l=some (.lst ys)) (aD H ys (aJ rs)) (T7 n rs as) (16<=n) (n<=240) (H P=some (.tbl ps)) (TabOk pos qual ps H) (∀(p:Addr)(zs:List V)(ps':xF)(H':Hp),(∀b u,b≠x->b≠P->H b=some u->H' b=some u)->H' x=some (.ins CL dx (lF n p))->H' p=some (.lst zs)->aD H' zs (aJ as)->(∀b u,H b=some u->b≠p)->H' P=some (.tbl ps')->TabOk pos qual ps' H'->Q .non H')
def wg(CL:Addr):Sp:=λvs H Q _=>Ex5 λ(x p dx:Addr) (n:Nat) (zs:List V)=>An4 (vs=[.ref x]) (H x=some (.ins CL dx (lF (n:Nat) p))) (H p=some (.lst zs)) (∀q H',New H H' q (.lst zs)->Q (.ref q) H')
section
variable{CL P x dx l p:Addr}{pos:Pos}{qual:Str}{H H0:Hp}{M:List Addr}{L:List (Addr×HO)}{I:List Im}{Q:VK}{E:XK}{n:Nat}{m:Int}{ys zs:List V}{rs as:List Rw}{ps:xF}
instance afY:FLk (lF m p) "many" (.int m):=⟨Xq⟩
instance afZ:FLk (lF m p) "rows" (.ref p):=⟨Xr⟩
instance acg:FNo (lF m p) "blocks":=⟨tU (by decide) (by decide)⟩
instance aef:FNo (lF m p) "names":=⟨tU (by decide) (by decide)⟩
instance aeg:FNo (lF m p) "block":=⟨tU (by decide) (by decide)⟩
instance aeh:FNo (lF m p) "moved":=⟨tU (by decide) (by decide)⟩
instance aaZ[h:Hat H x (.ins CL dx (lF (n:Nat) p))][h2:Hat H p (.lst zs)]:Go (wg CL [.ref x] H Q E) (∀q H',New H H' q (.lst zs)->Q (.ref q) H'):=⟨λk=>⟨x,p,dx,n,zs,rfl,h.e,h2.e,k⟩⟩
instance aei[h:Hat H x (.ins CL dx [])][h2:Hat H l (.lst ys)][t:TpA H ys (aJ rs)][e:Hat H P (.tbl ps)][F:SH H0 M H L I][tb:N6 I pos qual ps][la:T7 n rs as]:Go (Ge CL P pos qual [.ref x,.int (n:Nat),.ref l] H Q E)
  (Sd (16<=n/\n<=240) (∀(ps':xF)(H1:Hp),Kp P H H1->H1 P=some (.tbl ps')->TabOk pos qual ps' H1->∀(p:Addr)(zs:List V)(H2:Hp),New H1 H2 p (.lst zs)->aD H2 zs (aJ as)->∀H3,Off x H2 H3->H3 x=some (.ins CL dx (lF n p))->Q .non H3)):=by
 refine⟨λs=>⟨x,dx,l,n,ys,rs,as,ps,rfl,h.e,h2.e,t.e,la,s.1.1,s.1.2,e.e,F.im _ tb.m,λp zs ps' H' keep ex ep tz fr eP tk=>?_⟩⟩;have hx:=h.e;have hP:=e.e;have nxp:x≠p:=fr x _ hx;have nPp:P≠p:=fr P _ hP;have nPx:P≠x:=λz=>by rw[z,hx] at hP;cases hP
 let H2:Hp:=λb=>if b=x then H x else H' b
 let H1:Hp:=λb=>if b=p then none else H2 b
 have h2x:H2 x=H x:=zS rfl;have h2n:∀{b:Addr},b≠x->H2 b=H' b:=λn=>yA n
 have h1n:∀{b:Addr},b≠p->H1 b=H2 b:=λn=>yA n
 refine s.2 ps' H1 (λb u nb eb=>?_) ?_ ?_ p zs H2 ⟨λb u eb=>?_,?_,λb u eb z=>?_⟩ ?_ H' (λb nb=>(h2n nb).symm) ex
 ·have n1:b≠p:=fr b u eb;rw[h1n n1];by_cases hb:b=x
  ·rw[hb,h2x,<- hb];exact eb
  ·rw[h2n hb];exact keep b u hb nb eb
 ·rw[h1n nPp,h2n nPx];exact eP
 ·rcases tk with tk|⟨c',oc,vs,t',e1,e2,e3⟩
  ·exact .inl tk
  ·refine .inr ⟨c',oc,vs,t',e1,?_,e3⟩;have n1:c'≠p:=λz=>by rw[z,ep] at e2;cases e2
   have n2:c'≠x:=λz=>by rw[z,ex] at e2;cases e2
   rw[h1n n1,h2n n2];exact e2
 ·by_cases hb:b=p
  ·have:H1 b=none:=zS hb;rw[this] at eb;cases eb
  ·rw[h1n hb] at eb;exact eb
 ·rw[h2n (Ne.symm nxp)];exact ep
 ·have:H1 b=none:=zS z;rw[this] at eb;cases eb
 ·refine⟨tz.1,λj r ej=>?_⟩;obtain⟨q,e1,e2⟩:=tz.2 j r ej;refine⟨q,e1,?_⟩;rw[h2n (λz=>by rw[z,ex] at e2;cases e2)];exact e2
end
abbrev cA:Pos:=⟨141,37,141,55⟩
abbrev bR:Str := "Layout.__init__.<locals>.<lambda>"
section
variable{P:Program}{w:World}{K:W.Frag}{mg:xC}{base:Heap}{c:Nat->Addr}{aG aA aH aB R CL:Addr}
def wj(T:Txt K mg c R CL aG aA aH aB)(B:Bm mg base):Mak P w K mg base CX0 6 "Layout" CL ["self","many","rows"] (Ge CL aA cA bR):=by
 obtain⟨f,hf,hm⟩:=T.LR;refine(NZ (k:=5) hf E_ (λvs H Q E h=>?_) (λ_ _ _ _ _ _=>el3 λ_ _ _=>rfl) (λf A outer s H vs Q E hr h=>?_)).mak hm T.zP
 ·obtain⟨x,dx,l,n,ys,rs,as,ps,rfl,_⟩:=h
  rfl
 ·obtain⟨x,dx,l,n,ys,rs,as,ps,rfl,hx,hl,tp,la,h16,kJ,hP,tk,k⟩:=h;have nd:=E_.nd;refine⟨_,(aq (bL (dW (dH (aK (Oo T) hr (aj (pv 1) ao)))) eV bf)
   (aq (cT (aK (Gd T) hr (aj (pv 1) (aj (pv 2) ao))))
   (aq (Qh (pv 0) (pv 1) rfl)
   (aF (Qh (pv 0) (Ry (uO rfl hr) rfl T.vZ boot_sorted (aj (pv 2) ao) (RV (qual:=bR) B rfl T.zQ (by with_unfolding_all rfl) ⟨rfl,rfl,rfl,by with_unfolding_all rfl,by decide +kernel,by decide⟩)) rfl))))),?_⟩
  clear nd;rw[stE]
  try dsimp only[cI,bO]
  have nxP:x≠aA:=λz=>by rw[z,hP] at hx;cases hx
  have nlx:l≠x:=λz=>by rw[z,hx] at hl;cases hl
  have nlP:l≠aA:=λz=>by rw[z,hP] at hl;cases hl
  have nm2:∀{b:Addr},b≠x->b≠aA->b ∉ [x,aA]:=λa b z=>by
   rcases vS.mp z with z|z
   ·exact a z
   ·exact b (uS.mp z)
  have F:SH H [x,aA] H [(x,.ins CL dx []),(aA,.tbl ps)] [.tps ys (aJ rs),cL cA bR ps]:=(((SH.nil.g8 (List.mem_cons_of_mem _ List.mem_cons_self) hP rfl (by simp)).g8 List.mem_cons_self hx rfl (by simp[Ne.symm nxP])).jt tk).d8 tp;have jx:=Old.mk (M:=[x,aA]) hl (nm2 nlx nlP);have ly:=la.l.perm la.p.symm;have few:=ly.few;have e1:(decide (16<=(n:Int)) && decide ((n:Int)<=240))=true:=by rw[gX (by lia),gX (by lia)];rfl
  repeat k_meth
  rw[e1]
  repeat k_meth
  intro f_ ps_
  repeat k_meth
  intro D zs H8 n8 so;have t8:=N7 (H:=H_) TpA.e la.p (la.a.lt la.l.good) so;replace F:=F.newR n8 (t8.same n8.s)
  repeat k_meth
  exact k D zs ps_ _ (λb u n1 n2 e=>F.fr b u (nm2 n1 n2) e) aM aM TpA.e (F.fresh (LkL.m (o:=.lst zs)) (nm2 (SH.neC (F:=F)) (SH.neC (F:=F)))) aM SH.tab
def fH(T:Txt K mg c R CL aG aA aH aB):Met P w K mg base CX0 1 CL "blocks" ["self"] (wg CL):=by
 obtain⟨f,hf,hm⟩:=T.zR;refine(fA (k:=0) hf vN λf cdv A outer s H vs Q E hr h=>?_).met hm;obtain⟨x,p,dx,n,zs,rfl,hx,hp,k⟩:=h;have nd:=vN.nd;refine⟨_,(aF (aR (eX gK rfl T.iU boot_list (aj (jj (pv 0) rfl) ao)))),?_⟩;clear nd ;rw[stE]
 try dsimp only[cI,bO]
 have qz:=om hx;have m6:=om hp;have F:=SH.n0 H
 repeat k_meth
 exact k _ _ SH.nwC
end
open M22
def Gf:Sp:=λvs H Q _=>Ex4 λ(bx:Addr) (x y z:Int)=>An3 (vs=[.ref bx]) (H bx=some (.lst [.int x,.int y,.int z])) (∀(n:Nat)(x' y' z':Int)(H':Hp),16<=n->n<=240->Kp bx H H'->H' bx=some (.lst [.int x',.int y',.int z'])->Q (.int (n:Nat)) H')
def Gg:Sp:=λvs H Q _=>Ex5 λ(bx:Addr) (x y z:Int) (m:Nat)=>An4 (vs=[.ref bx,.int (m:Nat)]) (H bx=some (.lst [.int x,.int y,.int z])) (m<=40) (∀(x' y' z':Int) (nms:List (List Nat)) (p:Addr) (H':Hp),nms.length=m->(∀cs∈nms,dO cs)->nms.Nodup->Kp bx H H'->H' bx=some (.lst [.int x',.int y',.int z'])->H' p=some (.lst (nms.map λcs=>.str (tx cs)))->(∀b u,H b=some u->b≠p)->Q (.ref p) H')
def two_steps{H H':Hp}{bx p:Addr}{b3 o:HO}{R:Hp->Prop}(hb:∃u,H bx=some u)(kp:Kp bx H H')(eb:H' bx=some b3)(ep:H' p=some o)(fr:∀b u,H b=some u->b≠p)(k:∀H1,Kp bx H H1->H1 bx=some b3->New H1 H' p o->R H'):R H':=by
 obtain⟨u0,hb⟩:=hb;have nb:bx≠p:=fr bx _ hb;have h1:∀{b:Addr},b≠p->(λb=>if b=p then none else H' b:Hp) b=H' b:=λn=>yA n
 refine k (λb=>if b=p then none else H' b) (λb u n e=>?_) ?_ ⟨λb u e=>?_,ep,λb u e z=>?_⟩
 ·rw[h1 (fr b u e)];exact kp b u n e
 ·exact(h1 nb).trans eb
 ·have e:(if b=p then none else H' b)=some u:=e;split at e
  ·cases e
  ·exact e
 ·have e:(if b=p then none else H' b)=some u:=e;rw[zS z] at e;cases e
section
variable{bx:Addr}{x y z:Int}{H:Hp}{Q:VK}{E:XK}{n m:Nat}
instance aej[h:Hat H bx (.lst [.int x,.int y,.int z])]:Go (Gf [.ref bx] H Q E) (∀(x' y' z':Int)(n:Nat),16<=n->n<=240->∀H',Kp bx H H'->H' bx=some (.lst [.int x',.int y',.int z'])->Q (.int (n:Nat)) H'):=⟨λk=>⟨bx,x,y,z,rfl,h.e,λn x' y' z' H' h1 h2 f e=>k x' y' z' n h1 h2 H' f e⟩⟩
instance aek[h:Hat H bx (.lst [.int x,.int y,.int z])]:Go (Gg [.ref bx,.int (m:Nat)] H Q E) (Sd (m<=40) (∀(x' y' z':Int) (nms:List (List Nat)),nms.length=m->(∀cs∈nms,dO cs)->nms.Nodup->∀H1,Kp bx H H1->H1 bx=some (.lst [.int x',.int y',.int z'])->∀p H2,New H1 H2 p (.lst (nms.map λcs=>.str (tx cs)))->Q (.ref p) H2)) :=
 ⟨λs=>⟨bx,x,y,z,m,rfl,h.e,s.1,λx' y' z' nms p H' h1 h2 h3 f e e2 fr=>two_steps (R:=λH'=>Q (.ref p) H') ⟨_,h.e⟩ f e e2 fr λH1 f1 e1 n1=>s.2 x' y' z' nms h1 h2 h3 H1 f1 e1 p H' n1⟩⟩
end
def letter(s:Nat):Nat:=97+s % 26
def zU{s:Int}{c:Nat}(h0:0<=s)(h:(List.range' 97 26)[(s % 26).toNat]?=some c):c=letter s.toNat:=by
 have h1:(s % 26).toNat<26:=by lia
 rw[List.getElem?_eq_getElem (by simpa using h1),List.getElem_range'] at h;have:=nI h;unfold letter
 lia
def j5(s:Nat):lM (letter s)=true:=by
 unfold lM letter;rw[gX (by lia),gX (by lia)]
 rfl
structure j6(tl:List Nat):Prop where
 len:tl.length=7
 all:∀c∈tl,c∈[98,103,106,107,55,113,118,48]
def j6.sgn{tl:List Nat}(h:j6 tl):∀c∈tl,(lM c || D_ c)=true:=λc hc=>by
 have:=h.all c hc;simp only[List.mem_cons,List.not_mem_nil,or_false] at this;rcases this with rfl|rfl|rfl|rfl|rfl|rfl|rfl|rfl <;> rfl
def nameA(s:Nat)(tl:List Nat)(k:Nat):List Nat:=[letter (s+k / 8)]++tl.take (k % 8)
def nameB(s:Nat)(tl:List Nat)(k r:Nat):List Nat:=([letter (s+9*k)]++List.replicate (k / 26) 122)++tl.take r
def T8{s k:Nat}{tl:List Nat}(h:j6 tl):dO (nameA s tl k):=by
 refine⟨?_,?_,λc hc=>?_,λc hc=>?_⟩
 ·simp[nameA]
 ·simp only[nameA,List.length_append,List.length_singleton,List.length_take]
  lia
 ·have:some (letter (s+k / 8))=some c:=hc;cases this;exact j5 _
 ·rcases wP.mp hc with hc|hc
  ·rw[uS.mp hc,j5]
   rfl
  ·exact h.sgn c (oB hc)
def T9{s k r:Nat}{tl:List Nat}(h:j6 tl)(hk:k<40)(hr:r<7):dO (nameB s tl k r):=by
 refine⟨?_,?_,λc hc=>?_,λc hc=>?_⟩
 ·simp[nameB]
 ·simp only[nameB,List.length_append,List.length_singleton,List.length_take,List.length_replicate]
  lia
 ·have:some (letter (s+9*k))=some c:=hc;cases this;exact j5 _
 ·rcases wP.mp hc with hc|hc
  ·rcases wP.mp hc with hc|hc
   ·rw[uS.mp hc,j5]
    rfl
   ·rw[(List.mem_replicate.mp hc).2]
    rfl
  ·exact h.sgn c (oB hc)
def Ov{s:Nat}{tl:List Nat}(h:j6 tl){i j:Nat}(hi:i<40)(hj:j<40)(e:nameA s tl i=nameA s tl j):i=j:=by
 have e1:=gE List.length e;simp only[nameA,List.length_append,List.length_singleton,List.length_take,h.len] at e1;have e2:letter (s+i / 8)=letter (s+j / 8):=by
  have:=gE (λl:List Nat=>l[0]?) e;exact nI this
 unfold letter at e2
 lia
def Ow{s:Nat}{tl:List Nat}(h:j6 tl){i j r t:Nat}(hi:i<40)(hj:j<40)(hij:i<j)(e:nameB s tl i r=nameB s tl j t):False:=by
 have e2:letter (s+9*i)=letter (s+9*j):=by
  have:=gE (λl:List Nat=>l[0]?) e;exact nI this
 unfold letter at e2;have e3:j=i+26:=by lia
 have e4:i / 26=0:=by lia
 have e5:j / 26=1:=by lia
 have e6:tl.take r=[122]++tl.take t:=by
  unfold nameB at e;rw[e4,e5] at e;simp only[List.replicate,List.append_nil,List.append_assoc,List.cons_append,List.nil_append,List.cons.injEq] at e;exact e.2
 have e7:122∈tl:=List.mem_of_mem_take (i:=r) (by rw[e6];simp);have:=h.all 122 e7;simp at this
def Gh{nms:List (List Nat)}(h:∀(i j:Nat) a b,i<j->nms[i]?=some a->nms[j]?=some b->a≠b):nms.Nodup:=by
 rw[List.Nodup,List.pairwise_iff_getElem];intro i j hi hj hij;exact h i j _ _ hij (by simp) (by simp)
theorem join_one:∀cs:List Nat,Str.join (Str.ofString "") (cs.map λc=>tx [c])=tx cs:=by
 have e0:Str.ofString "" = tx []:=by decide +kernel
 rw[e0];intro cs
 induction cs with
 | nil=>rfl
 | cons c t ih =>
  cases t with
  | nil=>rfl
  | cons d u =>
   show tx [c]++tx []++Str.join (tx []) ((d::u).map λc=>tx [c])=_;rw[ih,qX,qX]
   rfl
instance af0{K:W.Frag}{H:Hp}{Q:VK}{p:Addr}{cs:List Nat}[h:SqA K H p (cs.map λc=>V.str (tx [c]))]:Go (rJoin K (.str (Str.ofString "")) [.ref p] H Q) (Sd (cs.length<=1000) (Q (.str (tx cs)) H)):=⟨λs=>⟨_,p,cs.map λc=>tx [c],rfl,rfl,by rw[List.map_map];exact h.e,by decide,by
 rw[List.map_map,wE];have:(cs.map ((λt:Str=>t.length) ∘ λc=>tx [c]))=cs.map λ_=>1:=rfl
 rw[this,List.map_const'];have hs:(List.replicate cs.length 1).sum=cs.length:=by simp
 have:=s.1
 lia,by rw[join_one];exact s.2⟩⟩
instance ahV{K:W.Frag}{H:Hp}{z:Str}{R:Prop}:Go (tyV K "str" (.str z) H/\R) R:=⟨λk=>⟨by first|exact .inr (.inr rfl)|exact .inr rfl|exact⟨_,rfl⟩|trivial,k⟩⟩
def g_:List (List Nat):=[[100,111,119,110],[117,112],[112,97,99,107],[99,101,108,108,115],[97,116],[115,105,122,101],[112,105,110,115],[102,105,116],[116,97,107,101],[104,97,108,118,101,115],[110,101,120,116],[102,105,114,115,116]]
instance {c:List Nat}:Decidable (dO c):=decidable_of_iff (1<=c.length/\c.length<=8/\(∀x∈c.head?,lM x=true)/\∀x∈c,(lM x || D_ x)=true) ⟨λh=>⟨h.1,h.2.1,λx hx=>h.2.2.1 x (by cases c with|nil=>cases hx|cons a t=>simpa using hx),h.2.2.2⟩,λh=>⟨h.lo,h.hi,λx hx=>h.hd x (by cases c with|nil=>cases hx|cons a t=>simpa using hx),h.all⟩⟩
def T_:∀c∈g_,dO c:=by decide +kernel
def Ua:g_.Nodup:=by decide +kernel
def Ub:[V.str (Str.ofString "down"),V.str (Str.ofString "up"),V.str (Str.ofString "pack"),V.str (Str.ofString "cells"),V.str (Str.ofString "at"),V.str (Str.ofString "size"),V.str (Str.ofString "pins"),V.str (Str.ofString "fit"),V.str (Str.ofString "take"),V.str (Str.ofString "halves"),V.str (Str.ofString "next"),V.str (Str.ofString "first")]=g_.map λcs=>V.str (tx cs):=by
 show _=[V.str (tx [100,111,119,110]),V.str (tx [117,112]),V.str (tx [112,97,99,107]),V.str (tx [99,101,108,108,115]),V.str (tx [97,116]),V.str (tx [115,105,122,101]),V.str (tx [112,105,110,115]),V.str (tx [102,105,116]),V.str (tx [116,97,107,101]),V.str (tx [104,97,108,118,101,115]),V.str (tx [110,101,120,116]),V.str (tx [102,105,114,115,116])];rw[show Str.ofString "down" = tx [100,111,119,110] by decide +kernel,show Str.ofString "up" = tx [117,112] by decide +kernel,show Str.ofString "pack" = tx [112,97,99,107] by decide +kernel,show Str.ofString "cells" = tx [99,101,108,108,115] by decide +kernel,show Str.ofString "at" = tx [97,116] by decide +kernel,show Str.ofString "size" = tx [115,105,122,101] by decide +kernel,show Str.ofString "pins" = tx [112,105,110,115] by decide +kernel,show Str.ofString "fit" = tx [102,105,116] by decide +kernel,show Str.ofString "take" = tx [116,97,107,101] by decide +kernel,show Str.ofString "halves" = tx [104,97,108,118,101,115] by decide +kernel,show Str.ofString "next" = tx [110,101,120,116] by decide +kernel,show Str.ofString "first" = tx [102,105,114,115,116] by decide +kernel]
def L_:Sp:=λvs H Q _=>Ex4 λ(bx:Addr) (x y z:Int)=>An3 (vs=[.ref bx]) (H bx=some (.lst [.int x,.int y,.int z])) (∀(n:Nat)(x' y' z':Int)(H':Hp),n<=40->Kp bx H H'->H' bx=some (.lst [.int x',.int y',.int z'])->Q (.int (n:Nat)) H')
instance af2{bx:Addr}{x y z:Int}{H:Hp}{Q:VK}{E:XK}[h:Hat H bx (.lst [.int x,.int y,.int z])]:Go (L_ [.ref bx] H Q E) (∀(x' y' z':Int)(n:Nat),n<=40->∀H',Kp bx H H'->H' bx=some (.lst [.int x',.int y',.int z'])->Q (.int (n:Nat)) H'):=⟨λk=>⟨bx,x,y,z,rfl,h.e,λn x' y' z' H' h1 f e=>k x' y' z' n h1 H' f e⟩⟩
section
variable{P:Program}{w:World}{K:W.Frag}{mg:xC}{base:Heap}{c:Nat->Addr}{aG aA aH aB R CL:Addr}
def aa0(T:Txt K mg c R CL aG aA aH aB):Def P w K mg base CX0 2 "_law_many" ["_law_well_here"] Gf:=by
 refine dA T.TQ Lg λf cdv A outer s H vs Q E hr h=>?_
 obtain⟨bx,x,y,z,rfl,hbx,k⟩:=h;have nd:=Lg.nd;refine⟨_,(aF (aR (aO bH (bC (aj au (aj au (aj (aW bQ au (aK (bW T) hr (aj (pv 0) (aj au ao)))) (aj (aW bQ au (aK (bW T) hr (aj (pv 0) (aj au ao)))) ao))))) (aK (bW T) hr (aj (pv 0) (aj au ao))) (λ_ _=>rfl)))),?_⟩;clear nd;rw[stE]
 try dsimp only[cI,bO]
 have F:SH H [bx] H [(bx,.lst [.int x,.int y,.int z])] []:=SH.nil.g8 List.mem_cons_self hbx rfl (by simp)
 repeat k_meth
 refine kh SqA.e lo_ hi_ λv hv=>?_
 obtain⟨g,hg,rfl⟩:∃g:Nat,(16<=g/\g<=240)/\v=.int (g:Nat):=by
  simp only[List.mem_cons,List.not_mem_nil,or_false] at hv;rcases hv with rfl|rfl|rfl|rfl
  ·exact⟨16,by lia,rfl⟩
  ·exact⟨240,by lia,rfl⟩
  ·rename_i r1 _ _ _ _ _ _ r2 _ _ _ _ _ _ _;exact⟨(16+r1).toNat,by lia,by congr 1;lia⟩
  ·rename_i r1 _ _ _ _ _ _ r2 _ _ _ _ _ _ _;exact⟨(16+r2).toNat,by lia,by congr 1;lia⟩
 repeat k_meth
 exact k g _ _ _ _ hg.1 hg.2 F.kpo aM
def aa1(T:Txt K mg c R CL aG aA aH aB):Def P w K mg base CX0 2 "_law_most" ["_law_well_here"] L_:=by
 refine dA T.TJ Lf λf cdv A outer s H vs Q E hr h=>?_
 obtain⟨bx,x,y,z,rfl,hbx,k⟩:=h;have nd:=Lf.nd;refine⟨_,(aF (aR (aO bH (bC (aj (aK (bW T) hr (aj (pv 0) (aj au ao))) (aj (aW bQ au (aK (bW T) hr (aj (pv 0) (aj au ao)))) (aj au ao)))) (aX (yu rfl) rfl T.T5 boot_max (aj au (aj (aW dI (aK (bW T) hr (aj (pv 0) (aj au ao))) au) ao))) (λ_ _=>rfl)))),?_⟩;clear nd;rw[stE]
 try dsimp only[cI,bO]
 have F:SH H [bx] H [(bx,.lst [.int x,.int y,.int z])] []:=SH.nil.g8 List.mem_cons_self hbx rfl (by simp)
 repeat k_meth
 refine kh SqA.e (by lia) (by simp only[List.length_cons,List.length_nil];lia) λv hv=>?_
 obtain⟨g,hg,rfl⟩:∃g:Nat,g<=40/\v=.int (g:Nat):=by
  simp only[List.mem_cons,List.not_mem_nil,or_false] at hv;rcases hv with rfl|rfl|rfl
  ·rename_i r1 _ _ _ _ _ _ r2 _ _ _ _ _ _ _;exact⟨r1.toNat,by lia,by congr 1;lia⟩
  ·rename_i r1 _ _ _ _ _ _ r2 _ _ _ _ _ _ _;exact⟨(9+r2).toNat,by lia,by congr 1;lia⟩
  ·exact⟨40,by lia,rfl⟩
 repeat k_meth
 exact k g _ _ _ _ hg F.kpo aM
end
open M22
def zV{ys:List V}{i:Nat}:eG ys none (some (i:Int))=ys.take i:=by
 unfold eG;rw[HT.mJ];show (ys.drop 0).take (min i ys.length-0)=_;rw[List.drop_zero,Nat.sub_zero];by_cases h:i<=ys.length
 ·rw[show min i ys.length=i by lia]
 ·rw[nS (by lia),nS (by lia)]
def Gi{ys:List V}{i:Nat}:eG ys (some (i:Int)) none=ys.drop i:=by
 unfold eG;rw[HT.mJ];show (ys.drop (min i ys.length)).take (ys.length-min i ys.length)=_;by_cases h:i<=ys.length
 ·rw[show min i ys.length=i by lia,nS (by rw[zzA];lia)]
 ·rw[List.drop_of_length_le (by lia),List.drop_of_length_le (by lia)];simp
def Ox{s k r:Nat}{tl:List Nat}(h:j6 tl){c:List Nat}(hc:c∈g_):c≠nameB s tl k r:=λz=>by
 have h2:∃d,c[1]?=some d/\d≠122/\d ∉ [98,103,106,107,55,113,118,48]:=by
  have:∀c∈g_,∃d∈c[1]?,d≠122/\d ∉ [98,103,106,107,55,113,118,48]:=by decide +kernel
  obtain⟨d,hd,r⟩:=this c hc;exact⟨d,hd,r⟩
 obtain⟨d,hd,n1,n2⟩:=h2;rw[z] at hd;have hm:d∈List.replicate (k / 26) 122++tl.take r:=by
  have:(nameB s tl k r)[1]?=(List.replicate (k / 26) 122++tl.take r)[0]?:=by unfold nameB;rw[List.append_assoc];rfl
  rw[this] at hd;exact yT hd
 rcases wP.mp hm with hm|hm
 ·exact n1 (List.mem_replicate.mp hm).2
 ·exact n2 (h.all d (oB hm))
def Oz{s m:Nat}{tl:List Nat}(h:j6 tl){nms:List (List Nat)}(hl:nms.length=m)(h40:m<=40)(hn:∀(j:Nat) cs,nms[j]?=some cs->∃r,r<7/\cs=nameB s tl j r)(ok:∀cs∈nms,dO cs)(nd:nms.Nodup) :
  (g_.take m++nms.drop 12).length=m/\(∀cs∈g_.take m++nms.drop 12,dO cs)/\(g_.take m++nms.drop 12).Nodup:=by
 refine⟨?_,λcs hcs=>?_,?_⟩
 ·rw[yB,oQ,zzA,hl,show g_.length=12 from rfl]
  lia
 ·rcases wP.mp hcs with hcs|hcs
  ·exact T_ cs (oB hcs)
  ·exact ok cs (oC hcs)
 ·rw[List.nodup_append];refine⟨Ua.sublist (List.take_sublist _ _),nd.sublist (List.drop_sublist _ _),λa ha b hb e=>?_⟩;obtain⟨j,hj,e2⟩:=List.getElem_of_mem (oC hb);obtain⟨r,_,rfl⟩:=hn j b (by rw[<- e2];simp);exact Ox h (oB ha) e
section
variable{P:Program}{w:World}{K:W.Frag}{mg:xC}{base:Heap}{c:Nat->Addr}{aG aA aH aB R CL:Addr}
def Xu(T:Txt K mg c R CL aG aA aH aB):Def P w K mg base CX0 2 "_law_names" ["_law_well_here","_law_many_here"] Gg:=by
 refine dA T.Ly Ey λf cdv A outer s H vs Q E hr h=>?_
 obtain⟨bx,x,y,z,m,rfl,hbx,h40,k⟩:=h;have nd:=Ey.nd
 refine' ⟨_,(aq (psz 2 nd (Bj (cs:=List.range' 97 26) (by decide +kernel)))
  (aq (psz 3 nd (Wv gW (cQ (N:=["_law_k","_law_well_here"]) (nt:=1) (fr:=[0]) (fK rfl T.fW (aj au ao)) (λ_ _ _ _=>(bG (i:=0) (show (["_law_k","_law_well_here"]:List Str).Nodup from by decide +kernel) rfl (Or.inl rfl))) (λ_ _ _ _=>dF) (λ_ _ _ _=>(aO Ao (Bj (cs:=[98,103,106,107,55,113,118,48]) (by decide +kernel)) (aK (bW T) hr (aj (pv 1) (aj au ao))) (λ_ _=>rfl))))))
  (aq (psz 4 nd (aK (bW T) hr (aj (pv 0) (aj au ao))))
  (aq (bL (aN dJ (aK (bW T) hr (aj (pv 0) (aj au ao))) au (aY _)) (aF (aR (cQ (N:=["_law_k","_law_letters","_law_tail","_law_shift"]) (nt:=1) (fr:=[2,3,4]) (fK rfl T.fW (aj (pv 1) ao)) (λ_ _ _ _=>(bG (i:=0) (show (["_law_k","_law_letters","_law_tail","_law_shift"]:List Str).Nodup from by decide +kernel) rfl (Or.inl rfl))) (λ_ _ _ _=>dF) (λ_ _ _ _=>(aW tL (aO Ao (pv 1) (aW ji (aW bQ (pv 3) (aW pA (pv 0) au)) au) (λ_ _=>rfl)) (R0 (pv 2) (aW ji (pv 0) au))))))) bf)
  (aq (psz 5 nd (bC ao))
  (aq (cU PassesOwn.never rfl (fK rfl T.fW (aj (pv 1) ao)) (pgz 6 nd) (aq (psz 7 nd (aW tL (aO Ao (pv 2) (aW ji (aW bQ (pv 4) (aW nO au (pv 6))) au) (λ_ _=>rfl)) (aW WM (Bj (cs:=[122]) (by decide +kernel)) (aW pA (pv 6) au))))
   (aF (cT (cB (pv 5) (aW tL (pv 7) (R0 (pv 3) (aK (bW T) hr (aj (pv 0) (aj au ao))))))))))
  (aq ?s7
  ?r7))))))),?main⟩
 case s7 =>
  refine Ag (i:=8) (te:=J4 (R_ [.str "down", .str "up", .str "pack", .str "cells", .str "at", .str "size", .str "pins", .str "fit", .str "take", .str "halves", .str "next", .str "first"])) ?a ?b ?c ?d ?e ?f
  case a=>exact nd
  case b=>rfl
  case c=>exact Or.inl rfl
  case d =>
   refine bC ?g
   case g =>
    refine KH ?h
    case h=>with_unfolding_all rfl
  case e=>rfl
  case f=>first|exact .inl rfl|exact .inr rfl
 case r7 =>
  exact(aq (bL (aN dJ (aK (bW T) hr (aj (pv 0) (aj au ao))) au (aY _)) (aF (psz 5 nd (aW dG (cY c7 (pv 8) eY (dY (pv 1))) (cY c7 (pv 5) (dY au) eY)))) bf)
        (aF (aR (pv 5))))
 clear nd;rw[stE]
 try dsimp only[cI,bO]
 have F:SH H [bx] H [(bx,.lst [.int x,.int y,.int z])] []:=SH.nil.g8 List.mem_cons_self hbx rfl (by simp)
 repeat k_meth
 have e26:(List.range' 97 26).length=26:=by simp
 refine Rt (n:=7) (fvs:=[some (.ref bx)]) (λacc i ys H'=>∃(cs:List Nat)(x y z:Int),cs.length=i/\(∀c∈cs,c∈[98,103,106,107,55,113,118,48])/\ys=cs.map (λc=>V.str (tx [c]))/\SH H [bx] H' [(acc,.lst ys),(bx,.lst [.int x,.int y,.int z])] []) (Dp agp J6) (by decide) rfl (λacc H' n=>⟨[],x,y,z,rfl,by simp,rfl,F.newL n⟩) ?_ ?_ ?_
 ·clear F;rintro acc i ys H' ⟨cs,x,y,z,h1,_,rfl,F⟩;exact⟨aM,by rw[wE];exact h1⟩
 ·clear F;rintro acc i ys H' R hi ⟨cs,x,y,z,h1,h2,rfl,F⟩ kk
  repeat k_meth
  intro c hc;refine kk _ _ aM ?_
  repeat k_meth
  refine⟨cs++[c],_,_,_,by simp[h1],λd hd=>?_,by simp,F⟩;rcases wP.mp hd with hd|hd
  ·exact h2 d hd
  ·rw[uS.mp hd];exact yT hc
 ·clear F;rintro acc ys H' ⟨tl,x,y,z,h1,h2,rfl,F⟩;have tk:j6 tl:=⟨h1,h2⟩
  repeat k_meth
  rename_i sh _ _ _ sh0 _ _;refine cN (λh=>?_) (λh=>?_)
  ·repeat k_meth
   refine Ay (n:=m) (fvs:=[some (.str (tx (List.range' 97 26))),some (.str (tx tl)),some (.int sh)]) (F:=λj=>V.str (tx (nameA sh.toNat tl j))) (Dp (ZS rfl) J6) (by lia) (by lia) rfl (λi H' hi s8 Q8 q8=>?_) ?_
   ·repeat k_meth
    intro c hc;have e3:=zU (by lia) hc;subst e3
    repeat k_meth
    have e4:[letter (sh+(i:Int) / 8).toNat]++tl.take ((i:Int) % 8).toNat=nameA sh.toNat tl i:=by
     unfold nameA;rw[show (sh+(i:Int) / 8).toNat=sh.toNat+i / 8 by lia,show ((i:Int) % 8).toNat=i % 8 by lia]
    rw[e4];exact q8
   ·repeat k_meth
    have e5:(List.range m).map (λj=>V.str (tx (nameA sh.toNat tl j)))=((List.range m).map (nameA sh.toNat tl)).map λcs=>V.str (tx cs):=by
     rw[List.map_map]
     rfl
    rw[e5] at F;refine k _ _ _ _ _ _ (by simp) (λcs hcs=>?_) (Gh λi j a b hij ha hb z=>?_) F.kpo aM aM (F.fresh (LkL.m (o:=.lst _)) (nm1 (SH.neC (F:=F))))
    ·obtain⟨j,_,rfl⟩:=vT.mp hcs;exact T8 tk
    ·have h3:=(jS.mp hb).1;rw[wE,List.length_range] at h3;rw[wS,List.getElem?_range (by lia)] at ha hb;cases ha;cases hb;have:=Ov tk (by lia) (by lia) z
     lia
  ·repeat k_meth
   rename Addr=>nl
   rw[show ((m:Nat):Int).toNat=m by lia];refine lG (λi σ' H'=>Ex6 λ(o6 o7:Option V) (nms:List (List Nat)) (x y z:Int)=>An4 (σ'=[some (.ref bx),some (.int (m:Nat)),some (.str (tx (List.range' 97 26))),some (.str (tx tl)),some (.int sh),some (.ref nl),o6,o7,none]) (nms.length=i) ((∀(j:Nat) cs,nms[j]?=some cs->∃r,r<7/\cs=nameB sh.toNat tl j r)) (SH H [bx] H' [(nl,.lst (nms.map λcs=>V.str (tx cs))),(bx,.lst [.int x,.int y,.int z])] [])) ⟨_,_,[],_,_,_,rfl,rfl,λj cs e=>by simp at e,F.Ir (L':=[(nl,.lst []),(bx,.lst [.int x_,.int y_,.int z_])])⟩ ?_ ?_
   ·clear F;rintro i σ' H' hi ⟨_,_,nms,x,y,z,rfl,hl,hn,F⟩
    repeat k_meth
    intro c hc;have e3:=zU (by lia) hc;subst e3
    repeat k_meth
    refine⟨_,_,nms++[nameB sh.toNat tl i r_.toNat],x_,y_,z_,rfl,by simp[hl],λj cs e=>?_,?_⟩
    ·by_cases hj:j<nms.length
     ·rw[yY hj] at e;exact hn j cs e
     ·have hj2:=(jS.mp e).1;rw[yB,List.length_singleton] at hj2;obtain rfl:j=i:=by lia
      rw[nE (by lia),hl,Nat.sub_self] at e;cases e;exact⟨r_.toNat,by lia,rfl⟩
    ·have e4:[letter (sh+9*(i:Int)).toNat]++List.replicate ((i:Int) / 26).toNat 122++tl.take r_.toNat=nameB sh.toNat tl i r_.toNat:=by
      unfold nameB;rw[show (sh+9*(i:Int)).toNat=sh.toNat+9*i by lia,show ((i:Int) / 26).toNat=i / 26 by lia]
     rw[e4] at F;rw[List.map_append];exact F
   ·clear F;rintro σ' H' ⟨_,_,nms,x,y,z,rfl,hl,hn,F⟩;have okn:∀cs∈nms,dO cs:=λcs hcs=>by
     obtain⟨j,hj,e⟩:=List.getElem_of_mem hcs;obtain⟨r,hr,rfl⟩:=hn j cs (by rw[<- e];simp);exact T9 tk (by lia) hr
    have ndn:nms.Nodup:=Gh λi j a b hij ha hb z=>by
     have h3:=(jS.mp hb).1;obtain⟨r,hr,rfl⟩:=hn i a ha;obtain⟨t,ht,rfl⟩:=hn j b hb;exact Ow tk (by lia) (by lia) hij z
    repeat k_meth
    refine cN (λh5=>?_) (λh5=>?_)
    ·repeat k_meth
     have e1:eG [V.str (Str.ofString "down"),V.str (Str.ofString "up"),V.str (Str.ofString "pack"),V.str (Str.ofString "cells"),V.str (Str.ofString "at"),V.str (Str.ofString "size"),V.str (Str.ofString "pins"),V.str (Str.ofString "fit"),V.str (Str.ofString "take"),V.str (Str.ofString "halves"),V.str (Str.ofString "next"),V.str (Str.ofString "first")] none (some (m:Int))=(g_.take m).map λcs=>V.str (tx cs):=by rw[zV,Ub,List.map_take]
     have e2:eG (nms.map λcs=>V.str (tx cs)) (some 12) none=(nms.drop 12).map λcs=>V.str (tx cs):=by rw[show (12:Int)=((12:Nat):Int) from rfl,Gi,List.map_drop]
     obtain⟨l3,o3,n3⟩:=Oz tk hl h40 hn okn ndn;rw[e1,e2,<- List.map_append];refine sd (bN ?_) ?_
     ·rw[yB] at l3;rw[wE,wE]
      lia
     ·repeat k_meth
      exact k _ _ _ (g_.take m++nms.drop 12) _ _ l3 o3 n3 F.kpo aM aM (F.fresh (LkL.m (o:=.lst ((g_.take m++nms.drop 12).map λcs=>V.str (tx cs)))) (nm1 (SH.neC (F:=F))))
    ·repeat k_meth
     exact k _ _ _ nms _ _ hl okn ndn F.kpo aM aM (F.fresh (LkL.m (o:=.lst (nms.map λcs=>V.str (tx cs)))) (nm1 (SH.neC (F:=F))))
end
open M22
def Y4{v:V}{xs:List Int}{lo hi:Int}(hv:v∈xs.map V.int)(h:∀a∈xs,lo<=a/\a<hi)(h0:0<=lo):∃g:Nat,v=.int (g:Nat)/\lo<=(g:Int)/\(g:Int)<hi:=by
 obtain⟨a,ha,rfl⟩:=vT.mp hv;have:=h a ha;exact⟨a.toNat,by congr 1;lia,by lia,by lia⟩
def Js{v:V}{a b c d lo hi:Int}(hv:v∈[V.int a,V.int b,V.int c,V.int d])(h:0<=lo/\(lo<=a/\a<hi)/\(lo<=b/\b<hi)/\(lo<=c/\c<hi)/\(lo<=d/\d<hi)):∃g:Nat,v=.int (g:Nat)/\lo<=(g:Int)/\(g:Int)<hi :=
 Y4 (xs:=[a,b,c,d]) hv (λz hz=>by
  simp only[List.mem_cons,List.not_mem_nil,or_false] at hz;rcases hz with rfl|rfl|rfl|rfl
  ·exact h.2.1
  ·exact h.2.2.1
  ·exact h.2.2.2.1
  ·exact h.2.2.2.2) h.1
def Uc{v:V}{a b c lo hi:Int}(hv:v∈[V.int a,V.int b,V.int c])(h:0<=lo/\(lo<=a/\a<hi)/\(lo<=b/\b<hi)/\(lo<=c/\c<hi)):∃g:Nat,v=.int (g:Nat)/\lo<=(g:Int)/\(g:Int)<hi :=
 Y4 (xs:=[a,b,c]) hv (λz hz=>by
  simp only[List.mem_cons,List.not_mem_nil,or_false] at hz;rcases hz with rfl|rfl|rfl
  ·exact h.2.1
  ·exact h.2.2.1
  ·exact h.2.2.2) h.1
def lay_of{n at_:Nat}{rs:List Rw}{nms:List (List Nat)}(h1:at_<=n)(as:Asc rs)(ok:∀r∈rs,dO r.nm/\1<=r.sz/\r.st+r.sz<=at_)(sb:(rs.map (·.nm)).Sublist nms)(nd:nms.Nodup)(h40:nms.length<=40):Lay n rs:=by
 refine⟨λr hr=>⟨(ok r hr).1,(ok r hr).2.1,by have:=(ok r hr).2.2;lia⟩,?_,?_⟩
 ·have h2:rs.Pairwise λr s=>r.nm≠s.nm:=List.pairwise_map.mp (nd.sublist sb)
  exact h2.imp₂ (λa b h3 h4=>⟨h3,.inl h4⟩) as
 ·have:=sb.length_le;rw[wE] at this
  lia
def Ud{rs:List Rw}{r:Rw}{at_:Nat}(h:Asc rs)(ok:∀s∈rs,s.st+s.sz<=at_)(hr:at_<=r.st):Asc (rs++[r]):=by
 unfold Asc;rw[mI];refine⟨h,List.pairwise_singleton _ _,λa ha b hb=>?_⟩;rw[uS.mp hb];have:=ok a ha
 lia
def oO(rs:List Rw)(r:Rw):aJ (rs++[r])=aJ rs++[dD r]:=by unfold aJ;rw[List.map_append];rfl
def Ue(rs:List Rw):∀r∈aJ rs,∀v∈r,jr v=true:=by
 intro r hr v hv;obtain⟨x,_,rfl⟩:=vT.mp hr;simp only[List.mem_cons,List.not_mem_nil,or_false] at hv;rcases hv with rfl|rfl|rfl|rfl <;> rfl
def zW:Sp:=λvs H Q _=>Ex7 λ(bx nl:Addr) (x y z:Int) (n:Nat) (nms:List (List Nat))=>An6 (vs=[.ref bx,.int (n:Nat),.ref nl]) (H bx=some (.lst [.int x,.int y,.int z])) (H nl=some (.lst (nms.map λcs=>.str (tx cs)))) (bx≠nl) ((16<=n/\n<=240/\nms.length<=40/\(∀cs∈nms,dO cs)/\nms.Nodup)) (∀(x' y' z':Int)(rs:List Rw)(p:Addr)(ys:List V)(H':Hp),Lay n rs->Asc rs->Kp bx H H'->H' bx=some (.lst [.int x',.int y',.int z'])->H' p=some (.lst ys)->aD H' ys (aJ rs)->(∀b u,H b=some u->b≠p)->Q (.ref p) H')
instance ach{bx nl:Addr}{x y z:Int}{H H0:Hp}{M:List Addr}{L:List (Addr×HO)}{I:List Im}{Q:VK}{E:XK}{n:Nat}{nms:List (List Nat)}[h:Hat H bx (.lst [.int x,.int y,.int z])][h2:Hat H nl (.lst (nms.map λcs=>.str (tx cs)))][F:SH H0 M H L I][ne:NQ L bx nl]:Go (zW [.ref bx,.int (n:Nat),.ref nl] H Q E) (Sd (16<=n/\n<=240/\nms.length<=40/\(∀cs∈nms,dO cs)/\nms.Nodup) (∀(x' y' z':Int)(rs:List Rw),Lay n rs->Asc rs->∀H1,Kp bx H H1->H1 bx=some (.lst [.int x',.int y',.int z'])->∀p ys H2,New H1 H2 p (.lst ys)->aD H2 ys (aJ rs)->Q (.ref p) H2)) :=
 ⟨λs=>⟨bx,nl,x,y,z,n,nms,rfl,h.e,h2.e,ne.ne F.nd,s.1,λx' y' z' rs p ys H' h1 h2 f e e2 t fr=>two_steps (R:=λH'=>Q (.ref p) H') ⟨_,h.e⟩ f e e2 fr λH1 f1 e1 n1=>s.2 x' y' z' rs h1 h2 H1 f1 e1 p ys H' n1 t⟩⟩
def aa2{v:V}{a b lo hi:Int}(hv:v∈[V.int a,V.int b])(h:0<=lo/\(lo<=a/\a<hi)/\(lo<=b/\b<hi)):∃g:Nat,v=.int (g:Nat)/\lo<=(g:Int)/\(g:Int)<hi :=
 Uc (c:=b) (by simpa using hv) ⟨h.1,h.2.1,h.2.2,h.2.2⟩
section
variable{P:Program}{w:World}{K:W.Frag}{mg:xC}{base:Heap}{c:Nat->Addr}{aG aA aH aB R CL:Addr}
def aa3(T:Txt K mg c R CL aG aA aH aB):Def P w K mg base CX0 2 "_law_rows" ["_law_well_here","_law_many_here","_law_names_here"] zW:=by
 have bW:=bW (P:=P) (w:=w) (base:=base) T;refine dA T.TV Lh λf cdv A outer s H vs Q E hr h=>?_
 obtain⟨bx,nl,x,y,z,n,nms,rfl,hbx,hnl,nbl,side,k⟩:=h;have nd:=Lh.nd;refine⟨_,(aq (psz 3 nd (aO bH (bC (aj au (aj au (aj au (aj au ao))))) (aK bW hr (aj (pv 0) (aj au ao))) (λ_ _=>rfl)))
  (aq (psz 4 nd (bC ao))
  (aq (psz 5 nd au)
  (aq (cU PassesOwn.never rfl (bJ (pv 2)) (pgz 6 nd) (aq (psz 7 nd (aW dI (pv 1) (pv 5)))
   (aF (bL (aN eH (pv 7) au (aY _)) (aq (psz 8 nd (aO bH (bC (aj au (aj au (aj (aK bW hr (aj (pv 0) (aj (aX (jD rfl) rfl T.v7 boot_min (aj (pv 7) (aj au ao))) ao))) (aj (aK bW hr (aj (pv 0) (aj (pv 7) ao))) ao))))) (aK bW hr (aj (pv 0) (aj au ao))) (λ_ _=>rfl)))
    (aq (psz 9 nd (aO bH (bC (aj au (aj au (aj au (aj au ao))))) (aK bW hr (aj (pv 0) (aj au ao))) (λ_ _=>rfl)))
    (aq (bL (aN eH (aX bK rfl T.dz boot_len (aj (pv 2) ao)) au (aY _)) (aF (psz 9 nd (aX (jD rfl) rfl T.v7 boot_min (aj (pv 9) (aj au ao))))) bf)
    (aq (bL (aN eH (aX bK rfl T.dz boot_len (aj (pv 2) ao)) au (aY _)) (aq (psz 8 nd (aW pA (aK bW hr (aj (pv 0) (aj (aX (jD rfl) rfl T.v7 boot_min (aj (pv 7) (aj au ao))) ao))) au))
     (aF (psz 9 nd (aO bH (bC (aj au (aj (aW bQ au (aW pA (pv 1) au)) ao))) (aK bW hr (aj (pv 0) (aj au ao))) (λ_ _=>rfl))))) bf)
    (aq (psz 10 nd (aW bQ au (aK bW hr (aj (pv 0) (aj (aX (jD rfl) rfl T.v7 boot_min (aj (aW dI (pv 7) (pv 8)) (aj (pv 9) ao))) ao)))))
    (aq (psz 11 nd au)
    (aq (bL (PW.pt (Af (aN eH (pv 3) au (aY _)) (tH (aN dJ (aK bW hr (aj (pv 0) (aj (pv 3) ao))) au (aY _))))) (aF (psz 11 nd (aW bQ au (aK bW hr (aj (pv 0) (aj (aO bH (bC (aj au (aj au (aj au ao)))) (aK bW hr (aj (pv 0) (aj au ao))) (λ_ _=>rfl)) ao)))))) bf)
    (aq (cT (cB (pv 4) (bD (aj (pv 6) (aj (aW bQ (pv 5) (pv 8)) (aj (pv 10) (aj (pv 11) ao)))))))
    (aF (psz 5 nd (aW bQ (aW bQ (pv 5) (pv 8)) (pv 10)))))))))))) bf))))
  (aF (aR (pv 4))))))),?_⟩
 clear nd bW;rw[stE]
 try dsimp only[cI,bO]
 have F:SH H [bx] H [(bx,.lst [.int x,.int y,.int z])] []:=SH.nil.g8 List.mem_cons_self hbx rfl (by simp);have ajf:=Old.mk (M:=[bx]) hnl (nm1 (Ne.symm nbl));obtain⟨h16,kJ,h40,nk,nn⟩:=side;have nl1:(nms.map λcs=>V.str (tx cs)).length=nms.length:=wE ..
 repeat k_meth
 refine kh SqA.e lo_ hi_ λv hv=>?_
 obtain⟨sh,rfl,hs0,hs1⟩:=Js (lo:=0) (hi:=6) hv (by lia);clear hv
 repeat k_meth
 rename Addr=>rwA
 refine eE (xs:=nms.map λcs=>V.str (tx cs)) (λi σ' H'=>ad0 λ(o6 o7 o8 o9 o10 o11:Option V) (at_:Nat) (rs:List Rw) (ys:List V) (x y z:Int)=>An7 (σ'=[some (.ref bx),some (.int (n:Nat)),some (.ref nl),some (.int (sh:Nat)),some (.ref rwA),some (.int (at_:Nat)),o6,o7,o8,o9,o10,o11]) (at_<=n) (Asc rs) ((∀r∈rs,dO r.nm/\1<=r.sz/\r.st+r.sz<=at_)) ((rs.map (·.nm)).Sublist (nms.take i)) (ys.length=rs.length) (SH H [bx] H' [(rwA,.lst ys),(bx,.lst [.int x,.int y,.int z])] [.tps ys (aJ rs)])) ⟨_,_,_,_,_,_,0,[],[],x_,y_,z_,rfl,Nat.zero_le _,List.Pairwise.nil,by simp,List.nil_sublist _,rfl,(F.d8 (ys:=[]) (rs:=aJ []) aD.nil).sub SbC.s SbI.s⟩ ?_ ?_ ?_
 ·clear F;rintro i σ' H' _ ⟨_,_,_,_,_,_,at_,rs,ys,x,y,z,rfl,hat,as,ok,sb,yl,F⟩;exact SqA.e
 ·clear F;rintro i v σ' H' hv ⟨_,_,_,_,_,_,at_,rs,ys,x,y,z,rfl,hat,as,ok,sb,yl,F⟩;clear lo_ hi_;refine YM λ_ _ _ _ hN _ _ _=>?_
  obtain⟨nm0,hnm,rfl⟩:∃nm0,nms[i]?=some nm0/\v=.str (tx nm0):=by
   rw[wS] at hv;cases e:nms[i]? with
   | none=>rw[e] at hv;cases hv
   | some c=>rw[e] at hv;exact⟨c,rfl,(nI hv).symm⟩
  have tkn:nms.take (i+1)=nms.take i++[nm0]:=by rw[qV,hnm];rfl
  have few:rs.length<=40:=by
   have:=sb.length_le;rw[wE,oQ] at this
   lia
  repeat k_meth
  refine cN (λh=>?_) (λh=>?_)
  ·repeat k_meth
   refine kh SqA.e lo_ hi_ λv hv=>?_
   obtain⟨g,rfl,hg0,hg⟩:=Js (lo:=0) (hi:=(n:Int)-(at_:Int)) hv (by lia);clear hv
   repeat k_meth
   refine kh SqA.e lo_ hi_ λv hv=>?_
   obtain⟨wd,rfl,hw0,hw⟩:=Js (lo:=1) (hi:=241) hv (by lia);clear hv
   repeat ((fail_if_success with_reducible show CQ _ _ _ _ _ _);k_meth)
   refine SN (λσ' H'=>Ex7 λ(o10 o11:Option V) (g wd:Nat) (x y z:Int)=>An5 ((g:Int)<(n:Int)-(at_:Int)) (1<=wd) (wd<241) (σ'=[some (.ref bx),some (.int (n:Nat)),some (.ref nl),some (.int (sh:Nat)),some (.ref rwA),some (.int (at_:Nat)),some (.str (tx nm0)),some (.int ((n:Nat)-(at_:Nat))),some (.int (g:Nat)),some (.int (wd:Nat)),o10,o11]) (SH H [bx] H' [(rwA,.lst ys),(bx,.lst [.int x,.int y,.int z])] [.tps ys (aJ rs)])) ?_ λ_ _ _ _ hR _=>?_
   ·clear F;rintro σ' H' ⟨_,_,g,wd,x,y,z,hg,hw0,hw,rfl,F⟩
    repeat ((fail_if_success with_reducible show CQ _ _ _ _ _ _);k_meth)
    refine SN (λσ' H'=>Ex7 λ(o10 o11:Option V) (g wd:Nat) (x y z:Int)=>An5 ((g:Int)<(n:Int)-(at_:Int)) (1<=wd) (wd<241) (σ'=[some (.ref bx),some (.int (n:Nat)),some (.ref nl),some (.int (sh:Nat)),some (.ref rwA),some (.int (at_:Nat)),some (.str (tx nm0)),some (.int ((n:Nat)-(at_:Nat))),some (.int (g:Nat)),some (.int (wd:Nat)),o10,o11]) (SH H [bx] H' [(rwA,.lst ys),(bx,.lst [.int x,.int y,.int z])] [.tps ys (aJ rs)])) ?_ λ_ _ _ _ hR _=>?_
    ·clear F;rintro σ' H' ⟨_,_,g,wd,x,y,z,hg,hw0,hw,rfl,F⟩
     repeat ((fail_if_success with_reducible show CQ _ _ _ _ _ _);k_meth)
     obtain⟨z1,hz1⟩:∃z1:Nat,r_=(z1:Int):=⟨r_.toNat,by lia⟩;subst hz1;refine SN (λσ' H'=>Ex4 λ(pn:Nat) (x y z:Int)=>σ'=[some (.ref bx),some (.int (n:Nat)),some (.ref nl),some (.int (sh:Nat)),some (.ref rwA),some (.int (at_:Nat)),some (.str (tx nm0)),some (.int ((n:Nat)-(at_:Nat))),some (.int (g:Nat)),some (.int (wd:Nat)),some (.int (1+(z1:Nat))),some (.int (pn:Nat))]/\SH H [bx] H' [(rwA,.lst ys),(bx,.lst [.int x,.int y,.int z])] [.tps ys (aJ rs)]) ?_ λ_ _ _ _ hR _=>?_
     ·clear F;rintro σ' H' ⟨pn,x,y,z,rfl,F⟩
      repeat k_meth
      rw[show [V.str (tx nm0),V.int ((at_:Int)+(g:Int)),V.int (1+(z1:Int)),V.int (pn:Nat)]=dD ⟨nm0,at_+g,1+z1,pn⟩ by simp[dD]] at F;have F2:=SH.app (ys:=ys) (rs:=aJ rs) (q:=p_) (r:=dD ⟨nm0,at_+g,1+z1,pn⟩) F (LkP.m) (LkI.m);rw[<- oO] at F2;rw[show (at_:Int)+(g:Int)+(1+(z1:Int))=((at_+g+(1+z1):Nat):Int) by lia];refine hN ⟨_,_,_,_,_,_,at_+g+(1+z1),rs++[⟨nm0,at_+g,1+z1,pn⟩],ys++[.ref p_],x,y,z,rfl,by lia,Ud as (λs hs=>(ok s hs).2.2) (by show at_<=at_+g;lia),λs hs=>?_,?_,by simp[yl],F2.sub SbC.s SbI.s⟩
      ·rcases wP.mp hs with hs|hs
       ·have:=ok s hs;exact⟨this.1,this.2.1,by lia⟩
       ·rw[uS.mp hs];exact⟨nk _ (yT hnm),by show 1<=1+z1;lia,by show at_+g+(1+z1)<=_;lia⟩
      ·rw[List.map_append,tkn];exact List.Sublist.append sb (List.Sublist.refl _)
     ·repeat k_meth
      refine cN (λhs0=>?_) (λhs0=>?_)
      ·repeat k_meth
       refine cN (λhd0=>?_) (λhd0=>?_)
       ·repeat k_meth
        refine kh SqA.e lo_ hi_ λv hv=>?_
        obtain⟨wp,rfl,hp0,hp1⟩:=Uc (lo:=1) (hi:=1001) hv (by lia);clear hv
        repeat k_meth
        obtain⟨pn,hpn⟩:∃pn:Nat,1+r_=(pn:Int):=⟨(1+r_).toNat,by lia⟩;rw[hpn];exact hR _ _ ⟨pn,x_,y_,z_,rfl,F.sub SbC.s SbI.s⟩
       ·repeat k_meth
        exact hR _ _ ⟨0,x_,y_,z_,rfl,F.sub SbC.s SbI.s⟩
      ·repeat k_meth
       exact hR _ _ ⟨0,x_,y_,z_,rfl,F.sub SbC.s SbI.s⟩
    ·repeat k_meth
     refine cN (λh20=>?_) (λh20=>?_)
     ·repeat k_meth
      rename_i r7 _ _ _ ajQ ajR _ _;obtain⟨g,hg⟩:∃g:Nat,r7 / 7=(g:Int):=⟨(r7 / 7).toNat,by lia⟩;rw[hg];refine kh SqA.e lo_ hi_ λv hv=>?_
      obtain⟨wd,rfl,hw0,hw⟩:=aa2 (lo:=1) (hi:=241) hv (by lia)
      repeat k_meth
      exact hR _ _ ⟨_,_,g,wd,x_,y_,z_,by lia,by lia,by lia,rfl,F.sub SbC.s SbI.s⟩
     ·repeat k_meth
      exact hR _ _ ⟨_,_,g,wd,x,y,z,by lia,by lia,by lia,rfl,F.sub SbC.s SbI.s⟩
   ·repeat k_meth
    refine cN (λh8=>?_) (λh8=>?_)
    ·repeat k_meth
     rw[show min ((wd:Nat):Int) 20=((min wd 20:Nat):Int) by lia];exact hR _ _ ⟨_,_,g,min wd 20,x_,y_,z_,by lia,by lia,by lia,rfl,F.sub SbC.s SbI.s⟩
    ·repeat k_meth
     exact hR _ _ ⟨_,_,g,wd,x_,y_,z_,by lia,by lia,by lia,rfl,F.sub SbC.s SbI.s⟩
  ·repeat k_meth
   exact hN ⟨_,_,_,_,_,_,at_,rs,ys,x,y,z,rfl,hat,as,ok,sb.trans (by rw[tkn];exact List.sublist_append_left _ _),yl,F⟩
 ·clear F;rintro σ' H' ⟨_,_,_,_,_,_,at_,rs,ys,x,y,z,rfl,hat,as,ok,sb,yl,F⟩
  repeat k_meth
  exact k _ _ _ rs _ ys _ (lay_of hat as ok sb (nn.sublist (List.take_sublist _ _)) (by rw[oQ];lia)) as F.kpo aM aM TpA.e (F.fresh (LkL.m (o:=.lst _)) (nm1 (SH.neC (F:=F))))
end
open M22
abbrev Stp:=Rw×Int
def stD(g:List Stp×Int)(r:Rw):List Stp×Int:=if 0<r.pn then (g.1,(r.st:Int)+(r.sz:Int)) else if g.2=(r.st:Int) then (g.1,g.2+(r.sz:Int)) else (g.1++[(r,g.2)],g.2+(r.sz:Int))
def stU(g:List Stp×Int)(r:Rw):List Stp×Int:=if 0<r.pn then (g.1,(r.st:Int)) else if g.2-(r.sz:Int)=(r.st:Int) then (g.1,g.2-(r.sz:Int)) else (g.1++[(r,g.2-(r.sz:Int))],g.2-(r.sz:Int))
def gV(f:Int)(rs:List Rw):List Stp×Int:=rs.foldl stD ([],f)
def upF(b:Int)(rs:List Rw):List Stp×Int:=rs.foldl stU ([],b)
def dZ(f:Int)(rs:List Rw)(r:Rw):gV f (rs++[r])=stD (gV f rs) r:=by unfold gV;rw[List.foldl_append];rfl
def fY(f:Int)(rs:List Rw)(r:Rw):upF f (rs++[r])=stU (upF f rs) r:=by unfold upF;rw[List.foldl_append];rfl
def BW{g:List Stp×Int}{r:Rw}(h:0<r.pn):stD g r=(g.1,(r.st:Int)+(r.sz:Int)):=zS h
def BX{g:List Stp×Int}{r:Rw}(h:¬ 0<r.pn)(e:g.2=(r.st:Int)):stD g r=(g.1,g.2+(r.sz:Int)):=by unfold stD;rw[if_neg h,if_pos e]
def BZ{g:List Stp×Int}{r:Rw}(h:¬ 0<r.pn)(e:¬ g.2=(r.st:Int)):stD g r=(g.1++[(r,g.2)],g.2+(r.sz:Int)):=by unfold stD;rw[if_neg h,if_neg e]
def B_{g:List Stp×Int}{r:Rw}(h:0<r.pn):stU g r=(g.1,(r.st:Int)):=zS h
def Ca{g:List Stp×Int}{r:Rw}(h:¬ 0<r.pn)(e:g.2-(r.sz:Int)=(r.st:Int)):stU g r=(g.1,g.2-(r.sz:Int)):=by unfold stU;rw[if_neg h,if_pos e]
def Cd{g:List Stp×Int}{r:Rw}(h:¬ 0<r.pn)(e:¬ g.2-(r.sz:Int)=(r.st:Int)):stU g r=(g.1++[(r,g.2-(r.sz:Int))],g.2-(r.sz:Int)):=by unfold stU;rw[if_neg h,if_neg e]
theorem Gj{st:List Stp×Int->Rw->List Stp×Int}(h:∀g r,(st g r).1.length<=g.1.length+1)(rs:List Rw)(g:List Stp×Int):(rs.foldl st g).1.length<=g.1.length+rs.length:=by
 induction rs generalizing g with
 | nil=>exact uC _
 | cons r t ih =>
  have:=ih (st g r);have:=h g r;rw[List.foldl_cons,mS]
  lia
def mQ(f:Int)(rs:List Rw):(gV f rs).1.length<=rs.length:=by
 have:=Gj (st:=stD) (λg r=>by
  unfold stD;split
  ·simp
  ·split <;> simp) rs ([],f)
 simpa[gV] using this
def tV(f:Int)(rs:List Rw):(upF f rs).1.length<=rs.length:=by
 have:=Gj (st:=stU) (λg r=>by
  unfold stU;split
  ·simp
  ·split <;> simp) rs ([],f)
 simpa[upF] using this
abbrev stepV(s:Stp):List V:=[.str (tx s.1.nm),.int (s.1.st:Nat),.int (s.1.sz:Nat),.int s.2]
abbrev Y5(s:Stp):List V:=[.str (tx s.1.nm),.int s.2]
def aQ(ss:List Stp):List (List V):=ss.map stepV
def bT(ss:List Stp):List (List V):=ss.map Y5
def cg(ss:List Stp):(aQ ss).length=ss.length:=wE ..
def iW(ss:List Stp):(bT ss).length=ss.length:=wE ..
def jh(ss:List Stp)(s:Stp):aQ (ss++[s])=aQ ss++[stepV s]:=by unfold aQ;rw[List.map_append];rfl
def Gk(ss:List Stp)(s:Stp):bT (ss++[s])=bT ss++[Y5 s]:=by unfold bT;rw[List.map_append];rfl
theorem Ug{α β:Type}{f:α->β}{ss:List α}{i:Nat}{r:β}(h:(ss.map f)[i]?=some r):∃s,ss[i]?=some s/\r=f s:=by
 rw[wS] at h;cases e:ss[i]? with
 | none=>rw[e] at h;cases h
 | some s=>rw[e] at h;exact⟨s,rfl,(nI h).symm⟩
def bB{α:Type}{rs:List α}{i:Nat}{r:α}(h:rs[i]?=some r):rs.take (i+1)=rs.take i++[r]:=by rw[qV,h];rfl
def aa4{α:Type}{rs:List α}{i n:Nat}{r:α}(hn:n=rs.length)(hi:i<n)(h:rs[n-1-i]?=some r):rs.reverse[i]?=some r:=by
 subst hn;rw[List.getElem?_reverse hi];exact h
def aa5{K:W.Frag}{l:Addr}{xs:List V}{rows:List (List V)}{σ fvs:L2.St}{fr:List Nat}{te:TE}{H:Hp}{Q:VK}(hq:H l=some (.lst xs))(tp:aD H xs rows)(hz:xs.length<=1000000)(hf:(fr.map λi=>(σ[i]?).getD none)=fvs)
  (G:Nat->List V->Hp->Prop) (st:∀i ys H1 H2,(∀q u,H1 q=some (.tup u)->H2 q=some (.tup u))->G i ys H1->G i ys H2) (g0:G 0 [] H)
  (pR:∀(i:Nat) (q:Addr) r ys (H':Hp) (R:VK),rows[i]?=some r->Same H H'->H' q=some (.tup r)->G i ys H'->(∀y H2,Same H' H2->G (i+1) (ys++[y]) H2->R y H2)->te (some (.ref q)::fvs) H' R)
  (k:∀p ys H',New H H' p (.lst ys)->G xs.length ys H'->Q (.ref p) H'):cF (Itl K l) 1 fr (aU 0) gQ te σ H Q:=by
 intro acc hacc;subst hf;have jE:∀b u,H b=some u->b≠acc:=λb u e=>aP e hacc
 have n0:New H (upd H acc (.lst [])) acc (.lst []):=.mk' hacc;refine gJ (cV (xs:=xs)) (λi ys H'=>H' acc=some (.lst ys)/\Same H H'/\ys.length<=i/\G i ys H') ⟨n0.e,n0.s,uC _,st _ _ _ _ (λq u e=>n0.s _ _ e) g0⟩ (λi ys H' _ h=>⟨h.2.1.seq (SqL.of hq),h.1⟩) ?_ ?_
 ·rintro i x tv ys H' hx hi ⟨ha,hs,hl,hg⟩ htv;obtain⟨t0,rfl⟩:∃a,tv=[a]:=List.length_eq_one_iff.mp htv;obtain⟨r,q,e1,rfl,e2⟩:=fC tp hx;refine wn0 ?_;unfold gQ;dsimp only;rw[zS rfl];refine pR i q r ys H' _ e1 hs (hs _ _ e2) hg λy H3 s3 g3=>⟨mT hl (qB hi (bN hz)),s3 _ _ ha,fO.next (tv:=[some (.ref q)]) hi ⟨bA,λb u e=>?_,by rw[yB,List.length_singleton];lia,st _ _ _ _ (λq' u e=>?_) g3⟩ rfl⟩
  ·rw[aZ (jE b u e)];exact s3 _ _ (hs _ _ e)
  ·have e3:H3 acc=some (.lst ys):=s3 _ _ ha;rw[aZ (λz=>by rw[z,e3] at e;cases e)];exact e
 ·rintro ys H' ⟨ha,hs,_,hg⟩;exact k acc ys H' ⟨hs,ha,jE⟩ hg
def gM{H1 H2:Hp}{ys:List V}{rows:List (List V)}(s:∀q u,H1 q=some (.tup u)->H2 q=some (.tup u))(t:aD H1 ys rows):aD H2 ys rows:=⟨t.1,λj r e=>let ⟨q,a,b⟩:=t.2 j r e;⟨q,a,s _ _ b⟩⟩
def qC(d:Bool)(n:Nat)(rs:List Rw):List Stp:=if d=true then (gV 0 rs).1 else (upF (n:Int) rs.reverse).1
def OD(d:Bool)(n:Nat)(rs:List Rw):(qC d n rs).length<=rs.length:=by
 unfold qC;split
 ·exact mQ _ _
 ·have:=tV (n:Int) rs.reverse;rw[List.length_reverse] at this;exact this
def Y6(w:Str)(d:Bool):Prop:=(w = "down" /\ d=true)\/(w = "up" /\ d=false)
def Gm:Sp:=λvs H Q _=>Ex4 λ(l:Addr) (f:Int) (zs:List V) (rs:List Rw)=>An5 (vs=[.ref l,.int f]) (H l=some (.lst zs)) (aD H zs (aJ rs)) (rs.length<=40) (∀q ys H',New H H' q (.lst ys)->aD H' ys (aQ (gV f rs).1)->Q (.ref q) H')
def Uh:Sp:=λvs H Q _=>Ex4 λ(l:Addr) (f:Int) (zs:List V) (rs:List Rw)=>An5 (vs=[.ref l,.int f]) (H l=some (.lst zs)) (aD H zs (aJ rs)) (rs.length<=40) (∀q ys H',New H H' q (.lst ys)->aD H' ys (aQ (upF f rs.reverse).1)->Q (.ref q) H')
def Gn:Sp:=λvs H Q _=>Ex3 λ(l:Addr) (zs:List V) (ss:List Stp)=>An5 (vs=[.ref l]) (H l=some (.lst zs)) (aD H zs (aQ ss)) (ss.length<=40) (∀q ys H',New H H' q (.lst ys)->aD H' ys (bT ss)->Q (.ref q) H')
def OJ(CL:Addr):Sp:=λvs H Q _=>Ex8 λ(x p dx:Addr) (way:Str) (d:Bool) (n:Nat) (zs:List V) (rs:List Rw)=>An7 (vs=[.ref x,.str way]) (Y6 way d) (H x=some (.ins CL dx (lF (n:Nat) p))) (H p=some (.lst zs)) (aD H zs (aJ rs)) (rs.length<=40) (∀q ys H',New H H' q (.lst ys)->aD H' ys (bT (qC d n rs))->Q (.ref q) H')
section
variable{p q l:Addr}{H H0:Hp}{M:List Addr}{L:List (Addr×HO)}{I:List Im}{Q:VK}{E:XK}{n:Nat}{f:Int}{ys zs:List V}{rs:List Rw}{ss:List Stp}{Z:Addr->Hp->Prop}
instance ael[h2:Hat H l (.lst zs)][t:TpA H zs (aJ rs)]:Go (Gm [.ref l,.int f] H Q E) (Sd (rs.length<=40) (∀q ys H',New H H' q (.lst ys)->aD H' ys (aQ (gV f rs).1)->Q (.ref q) H')):=⟨λs=>⟨l,f,zs,rs,rfl,h2.e,t.e,s.1,s.2⟩⟩
instance ahW[h2:Hat H l (.lst zs)][t:TpA H zs (aJ rs)]:Go (Uh [.ref l,.int f] H Q E) (Sd (rs.length<=40) (∀q ys H',New H H' q (.lst ys)->aD H' ys (aQ (upF f rs.reverse).1)->Q (.ref q) H')):=⟨λs=>⟨l,f,zs,rs,rfl,h2.e,t.e,s.1,s.2⟩⟩
instance aem[h2:Hat H l (.lst zs)][t:TpA H zs (aQ ss)]:Go (Gn [.ref l] H Q E) (Sd (ss.length<=40) (∀q ys H',New H H' q (.lst ys)->aD H' ys (bT ss)->Q (.ref q) H')):=⟨λs=>⟨l,zs,ss,rfl,h2.e,t.e,s.1,s.2⟩⟩
instance aen[F:SH H0 M H L I]:Go (∀p ys H',New H H' p (.lst ys)->aD H' ys (aQ ss)->Z p H') (∀H' p ys,ys.length=ss.length->SH H0 M H' ((p,.lst ys)::L) (.tps ys (aQ ss)::I)->Z p H'):=⟨λk p ys H' n t=>k H' p ys (by rw[t.1,cg]) (F.newR n t)⟩
instance aeo[F:SH H0 M H L I]:Go (∀p ys H',New H H' p (.lst ys)->aD H' ys (bT ss)->Z p H') (∀H' p ys,ys.length=ss.length->SH H0 M H' ((p,.lst ys)::L) (.tps ys (bT ss)::I)->Z p H'):=⟨λk p ys H' n t=>k H' p ys (by rw[t.1,iW]) (F.newR n t)⟩
end
section
variable{P:Program}{w:World}{K:W.Frag}{mg:xC}{base:Heap}{c:Nat->Addr}{aG aA aH aB R CL:Addr}
def Ma(T:Txt K mg c R CL aG aA aH aB):Def P w K mg base CX0 1 "steps_down" ["blocks","first"] Gm:=by
 refine dA T.Lr Es λf cdv A outer s H vs Q E hr h=>?_
 obtain⟨l,f,zs,rs,rfl,hl,tp,few,k⟩:=h;have nd:=Es.nd;refine⟨_,(aq (psz 2 nd (bC ao))
  (aq (psz 3 nd (pv 1))
  (aq (cU PassesOwn.never rfl (bJ (pv 0)) (fD rfl (aV (pgz 4 nd) (aV (pgz 5 nd) (aV (pgz 6 nd) (aV (pgz 7 nd) cW))))) (aq (psz 8 nd (oZ (aN eH (pv 7) au (aY _)) (pv 5) (pv 3)))
   (aq (bL (aN j_ (pv 8) (pv 5) (aY _)) (aF (cT (cB (pv 2) (bD (aj (pv 4) (aj (pv 5) (aj (pv 6) (aj (pv 8) ao)))))))) bf)
   (aF (psz 3 nd (aW bQ (pv 8) (pv 6)))))))
  (aF (aR (pv 2)))))),?_⟩
 clear nd ;rw[stE]
 try dsimp only[cI,bO]
 have jx:=om hl;have i_:=dN.mk tp;have F:=SH.n0 H;have zl:zs.length=rs.length:=by rw[tp.1,bw]
 repeat k_meth
 rename Addr=>sl
 refine eE (xs:=zs) (λi σ' H'=>Ex6 λ(o4 o5 o6 o7 o8:Option V) (ys:List V)=>An3 (σ'=[some (.ref l),some (.int f),some (.ref sl),some (.int (gV f (rs.take i)).2),o4,o5,o6,o7,o8]) (ys.length=(gV f (rs.take i)).1.length) (SH H [] H' [(sl,.lst ys)] [.tps ys (aQ (gV f (rs.take i)).1)])) ⟨_,_,_,_,_,[],rfl,rfl,(F.d8 (ys:=[]) (rs:=aQ []) aD.nil).sub SbC.s (λ_ h=>h)⟩ ?_ ?_ ?_
 ·clear F;rintro i σ' H' _ ⟨_,_,_,_,_,ys,rfl,yl,F⟩;exact SqA.e
 ·clear F;rintro i v σ' H' hv ⟨_,_,_,_,_,ys,rfl,yl,F⟩;obtain⟨r,q1,e1,rfl,e2⟩:=dh tp hv
  
  have iy:=om e2;have dl:=mQ f (rs.take i);rw[oQ] at dl;have aep:i<=40:=by
   have:=(jS.mp hv).1
   lia
  by_cases hp:0<r.pn
  ·repeat k_meth
   refine⟨_,_,_,_,_,ys,by rw[bB e1,dZ,BW hp],by rw[bB e1,dZ,BW hp];exact yl,?_⟩;rw[bB e1,dZ,BW hp];exact F.sub SbC.s SbI.s
  ·by_cases he:(gV f (rs.take i)).2=(r.st:Int)
   ·repeat k_meth
    refine⟨_,_,_,_,_,ys,by rw[bB e1,dZ,BX hp he],by rw[bB e1,dZ,BX hp he];exact yl,?_⟩;rw[bB e1,dZ,BX hp he];exact F.sub SbC.s SbI.s
   ·repeat k_meth
    rename Addr=>tq
    have F2:=SH.app (ys:=ys) (rs:=aQ (gV f (rs.take i)).1) (q:=tq) (r:=stepV (r,(gV f (rs.take i)).2)) F (LkP.m) (LkI.m);rw[<- jh] at F2;refine⟨_,_,_,_,_,ys++[.ref tq],by rw[bB e1,dZ,BZ hp he],by rw[bB e1,dZ,BZ hp he];simp[yl],?_⟩;rw[bB e1,dZ,BZ hp he];exact F2.sub SbC.s SbI.s
 ·clear F;rintro σ' H' ⟨_,_,_,_,_,ys,rfl,yl,F⟩;rw[zl,nS (by lia)] at F
  repeat k_meth
  exact k _ _ _ SH.nwC TpA.e
def Y7(T:Txt K mg c R CL aG aA aH aB):Def P w K mg base CX0 1 "steps_up" ["blocks","behind"] Uh:=by
 refine dA T.YW Ti λf cdv A outer s H vs Q E hr h=>?_
 obtain⟨l,f,zs,rs,rfl,hl,tp,few,k⟩:=h;have nd:=Ti.nd;refine⟨_,(aq (psz 2 nd (bC ao))
  (aq (psz 3 nd (pv 1))
  (aq (cU PassesOwn.never rfl (R8 rfl T.gC (aj (pv 0) ao)) (fD rfl (aV (pgz 4 nd) (aV (pgz 5 nd) (aV (pgz 6 nd) (aV (pgz 7 nd) cW))))) (aq (psz 8 nd (oZ (aN eH (pv 7) au (aY _)) (pv 5) (aW dI (pv 3) (pv 6))))
   (aq (bL (aN j_ (pv 8) (pv 5) (aY _)) (aF (cT (cB (pv 2) (bD (aj (pv 4) (aj (pv 5) (aj (pv 6) (aj (pv 8) ao)))))))) bf)
   (aF (psz 3 nd (pv 8))))))
  (aF (aR (pv 2)))))),?_⟩
 clear nd ;rw[stE]
 try dsimp only[cI,bO]
 have jx:=om hl;have i_:=dN.mk tp;have F:=SH.n0 H;have zl:zs.length=rs.length:=by rw[tp.1,bw]
 repeat k_meth
 rename Addr=>sl
 refine WW (xs:=zs) (λi σ' H'=>Ex6 λ(o4 o5 o6 o7 o8:Option V) (ys:List V)=>An3 (σ'=[some (.ref l),some (.int f),some (.ref sl),some (.int (upF f (rs.reverse.take i)).2),o4,o5,o6,o7,o8]) (ys.length=(upF f (rs.reverse.take i)).1.length) (SH H [] H' [(sl,.lst ys)] [.tps ys (aQ (upF f (rs.reverse.take i)).1)])) ⟨_,_,_,_,_,[],rfl,rfl,(F.d8 (ys:=[]) (rs:=aQ []) aD.nil).sub SbC.s (λ_ h=>h)⟩ ?_ ?_ ?_
 ·clear F;rintro i σ' H' _ ⟨_,_,_,_,_,ys,rfl,yl,F⟩;exact SqA.e
 ·clear F;rintro i v σ' H' hi hv ⟨_,_,_,_,_,ys,rfl,yl,F⟩;obtain⟨r,q1,e1,rfl,e2⟩:=dh tp hv;replace e1:=aa4 zl hi e1;have iy:=om e2;have dl:=tV f (rs.reverse.take i);rw[oQ,List.length_reverse] at dl;have aep:i<=40:=by
   have:=(jS.mp hv).1
   lia
  by_cases hp:0<r.pn
  ·repeat k_meth
   refine⟨_,_,_,_,_,ys,by rw[bB e1,fY,B_ hp],by rw[bB e1,fY,B_ hp];exact yl,?_⟩;rw[bB e1,fY,B_ hp];exact F.sub SbC.s SbI.s
  ·by_cases he:(upF f (rs.reverse.take i)).2-(r.sz:Int)=(r.st:Int)
   ·repeat k_meth
    refine⟨_,_,_,_,_,ys,by rw[bB e1,fY,Ca hp he],by rw[bB e1,fY,Ca hp he];exact yl,?_⟩;rw[bB e1,fY,Ca hp he];exact F.sub SbC.s SbI.s
   ·repeat k_meth
    rename Addr=>tq
    have F2:=SH.app (ys:=ys) (rs:=aQ (upF f (rs.reverse.take i)).1) (q:=tq) (r:=stepV (r,(upF f (rs.reverse.take i)).2-(r.sz:Int))) F (LkP.m) (LkI.m);rw[<- jh] at F2;refine⟨_,_,_,_,_,ys++[.ref tq],by rw[bB e1,fY,Cd hp he],by rw[bB e1,fY,Cd hp he];simp[yl],?_⟩;rw[bB e1,fY,Cd hp he];exact F2.sub SbC.s SbI.s
 ·clear F;rintro σ' H' ⟨_,_,_,_,_,ys,rfl,yl,F⟩;rw[zl,nS (by rw[List.length_reverse];lia)] at F
  repeat k_meth
  exact k _ _ _ SH.nwC TpA.e
def Ce(T:Txt K mg c R CL aG aA aH aB):Def P w K mg base CX0 1 "moves_of" ["steps"] Gn:=by
 refine dA T.Ls Et λf cdv A outer s H vs Q E hr h=>?_
 obtain⟨l,zs,ss,rfl,hl,tp,few,k⟩:=h;have nd:=Et.nd;refine⟨_,(aF (aR (cQ (N:=["step"]) (nt:=1) (fr:=[]) (bJ (pv 0)) (λ_ _ _ _=>(bG (i:=0) (show (["step"]:List Str).Nodup from by decide +kernel) rfl (Or.inl rfl))) (λ_ _ _ _=>dF) (λ_ _ _ _=>(bD (aj (aO (cD (K:=K) rfl) (pv 0) au (λ_ _=>rfl)) (aj (aO (cD (K:=K) rfl) (pv 0) au (λ_ _=>rfl)) ao))))))),?_⟩;clear nd ;rw[stE]
 try dsimp only[cI,bO]
 have jx:=om hl;have i_:=dN.mk tp;have F:=SH.n0 H;have zl:zs.length=ss.length:=by rw[tp.1,cg]
 repeat k_meth
 refine aa5 (fvs:=[]) aM (TpA.e (rs:=aQ ss)) (by lia) rfl (λi ys H'=>aD H' ys (bT (ss.take i))) (λi ys H1 H2 s t=>gM s t) aD.nil (λi q1 r ys H' R e1 s1 e2 g kk=>?_) λq ys H' n1 g=>?_
 ·clear F;have F:SH H' [] H' [] []:=SH.nil;obtain⟨s,e3,rfl⟩:=Ug e1;have iy:=om e2
  repeat k_meth
  refine kk _ _ F.sm ?_;rw[bB e3,Gk];exact aD.snoc (g.same F.sm) aM
 ·rw[nS (by lia)] at g;replace F:=F.newR n1 g
  repeat k_meth
  exact k _ _ _ SH.nwC TpA.e
def wu(T:Txt K mg c R CL aG aA aH aB):∃tk0:Tok,WX P w K mg base CX0 2 "packed" ["layout","way"] (OJ CL) [.str "down" tk0]:=by
 obtain⟨tk0,ahX⟩:=T.Fg;refine⟨tk0,WY ahX yL (λvs H Q E h=>?_) (λ_ _ _ _ _ _ _=>el2 λ_ _=>⟨_,rfl,rfl⟩) (λ_ _ _ _ _ _ _ us hl=>by obtain⟨a,rfl⟩:∃a,us=[a]:=List.length_eq_one_iff.mp (by simpa using hl);exact⟨_,rfl,rfl⟩) (λf cdv A outer s H vs Q E hr h=>?_)⟩
 ·obtain⟨x,p,dx,way,d,n,zs,rs,rfl,_⟩:=h
  rfl
 ·obtain⟨x,p,dx,way,d,n,zs,rs,rfl,hw,hx,hp,tp,few,k⟩:=h;have nd:=yL.nd;refine⟨_,(aq (bL (aN dJ (pv 1) gW (aY _)) (aF (aR (aK (Ce T) hr (aj (aK (Ma T) hr (aj (jf (pv 0) T.clL (fH T) hr) (aj au ao))) ao)))) bf)
   (aq (bL (aN dJ (pv 1) gW (aY _)) (aF (aR (aK (Ce T) hr (aj (aK (Y7 T) hr (aj (jf (pv 0) T.clL (fH T) hr) (aj (jj (pv 0) rfl) ao))) ao)))) bf)
   eV)),?_⟩
  clear nd;rw[stE]
  try dsimp only[cI,bO]
  have qz:=om hx;have m6:=om hp;have i_:=dN.mk tp;have F:=SH.n0 H;have nud:¬ (("up" : Str) = "down"):=by decide
  rcases hw with⟨rfl,rfl⟩|⟨rfl,rfl⟩
  ·have dl:=mQ 0 rs
   repeat k_meth
   exact k _ _ _ SH.nwC TpA.e
  ·have dl:=tV (n:Int) rs.reverse;rw[List.length_reverse] at dl
   repeat k_meth
   exact k _ _ _ SH.nwC TpA.e
end
open M22
def mF{K:W.Frag}{l:Addr}{xs:List V}{rows:List (List V)}{σ fvs:L2.St}{fr:List Nat}{c:TT}{te:TE}{H:Hp}{Q:VK}{P:List V->Bool}(hq:H l=some (.lst xs))(tp:aD H xs rows)(hz:xs.length<=1000000)(hf:(fr.map λi=>(σ[i]?).getD none)=fvs)
  (G:Nat->List V->Hp->Prop) (st:∀i ys H1 H2,(∀q u,H1 q=some (.tup u)->H2 q=some (.tup u))->G i ys H1->G i ys H2) (g0:G 0 [] H)
  (Eb:∀(i:Nat) (q:Addr) r (H':Hp) (R:Bool->Hp->Prop),rows[i]?=some r->Same H H'->H' q=some (.tup r)->(∀H2,Same H' H2->R (P r) H2)->c (some (.ref q)::fvs) H' R)
  (pR:∀(i:Nat) (q:Addr) r ys (H':Hp) (R:VK),rows[i]?=some r->P r=true->Same H H'->H' q=some (.tup r)->G i ys H'->(∀y H2,Same H' H2->G (i+1) (ys++[y]) H2->R y H2)->te (some (.ref q)::fvs) H' R)
  (skip:∀(i:Nat) r ys (H':Hp),rows[i]?=some r->P r=false->G i ys H'->G (i+1) ys H')
  (k:∀p ys H',New H H' p (.lst ys)->G xs.length ys H'->Q (.ref p) H'):cF (Itl K l) 1 fr (aU 0) c te σ H Q:=by
 intro acc hacc;subst hf;have jE:∀b u,H b=some u->b≠acc:=λb u e=>aP e hacc
 have n0:New H (upd H acc (.lst [])) acc (.lst []):=.mk' hacc;refine gJ (cV (xs:=xs)) (λi ys H'=>H' acc=some (.lst ys)/\Same H H'/\ys.length<=i/\G i ys H') ⟨n0.e,n0.s,uC _,st _ _ _ _ (λq u e=>n0.s _ _ e) g0⟩ (λi ys H' _ h=>⟨h.2.1.seq (SqL.of hq),h.1⟩) ?_ ?_
 ·rintro i x tv ys H' hx hi ⟨ha,hs,hl,hg⟩ htv;obtain⟨t0,rfl⟩:∃a,tv=[a]:=List.length_eq_one_iff.mp htv;obtain⟨r,q,e1,rfl,e2⟩:=fC tp hx;refine wn0 ?_;refine Eb i q r H' _ e1 hs (hs _ _ e2) λH2 s2=>?_
  have g2:=st _ _ _ _ (λq u e=>s2 _ _ e) hg;have ha2:H2 acc=some (.lst ys):=s2 _ _ ha;by_cases hp:P r=true
  ·rw[hp,zS rfl];refine pR i q r ys H2 _ e1 hp (hs.trans s2) (s2 _ _ (hs _ _ e2)) g2 λy H3 s3 g3=>⟨mT hl (qB hi (bN hz)),s3 _ _ ha2,fO.next (tv:=[some (.ref q)]) hi ⟨bA,λb u e=>?_,by rw[yB,List.length_singleton];lia,st _ _ _ _ (λq' u e=>?_) g3⟩ rfl⟩
   ·rw[aZ (jE b u e)];exact s3 _ _ (s2 _ _ (hs _ _ e))
   ·have e3:H3 acc=some (.lst ys):=s3 _ _ ha2;rw[aZ (λz=>by rw[z,e3] at e;cases e)];exact e
  ·have hp:P r=false:=by simpa using hp
   rw[hp,yA (by decide)];exact fO.next (tv:=[some (.ref q)]) hi ⟨ha2,hs.trans s2,by lia,skip i r ys H2 e1 hp g2⟩ rfl
 ·rintro ys H' ⟨ha,hs,_,hg⟩;exact k acc ys H' ⟨hs,ha,jE⟩ hg
section
variable{K:W.Frag}{H:Hp}{Q:VK}{l:Addr}{ns:List Int}
instance af3[h:SqA K H l (ns.map V.int)]:Go (Rz K [.ref l] H Q) (Sd ((∀n∈ns,0<=n/\n<=1000000)/\ns.length<=1000000) (Q (.int ns.sum) H)):=⟨λs=>w_sumL h.e s.1.1 s.1.2 s.2⟩
end
def gp(rs:List Rw):List Int×Int:=rs.foldl (λg r=>(g.1++[(r.st:Int)-g.2],(r.st:Int)+(r.sz:Int))) ([],0)
def within(a b:Int)(r:Rw):Bool:=decide (a<=(r.st:Int)) && decide ((r.st:Int)<b)
def eN(rs:List Rw)(a b:Int):Int:=b-a-((rs.filter (within a b)).map λr=>(r.sz:Int)).sum
def wz(CL:Addr):Sp:=λvs H Q _=>Ex8 λ(x p dx:Addr) (n:Nat) (zs:List V) (rs:List Rw) (a b:Int)=>An6 (vs=[.ref x,.int a,.int b]) (H x=some (.ins CL dx (lF (n:Nat) p))) (H p=some (.lst zs)) (aD H zs (aJ rs)) (rs.length<=40) (∀q ys H',New H H' q (.lst ys)->aD H' ys (aJ (rs.filter (within a b)))->Q (.ref q) H')
def Gp(CL:Addr):Sp:=λvs H Q _=>Ex8 λ(x p dx:Addr) (n:Nat) (zs:List V) (rs:List Rw) (a b:Int)=>An6 (vs=[.ref x,.int a,.int b]) (H x=some (.ins CL dx (lF (n:Nat) p))) (H p=some (.lst zs)) (aD H zs (aJ rs)) ((rs.length<=40/\∀r∈rs,r.sz<=240)) (∀H',Same H H'->Q (.int (eN rs a b)) H')
section
variable{CL x p dx:Addr}{H:Hp}{Q:VK}{E:XK}{n:Nat}{zs:List V}{rs:List Rw}{a b:Int}
instance aa6[h:Hat H x (.ins CL dx (lF (n:Nat) p))][h2:Hat H p (.lst zs)][t:TpA H zs (aJ rs)]:Go (wz CL [.ref x,.int a,.int b] H Q E) (Sd (rs.length<=40) (∀q ys H',New H H' q (.lst ys)->aD H' ys (aJ (rs.filter (within a b)))->Q (.ref q) H')):=⟨λs=>⟨x,p,dx,n,zs,rs,a,b,rfl,h.e,h2.e,t.e,s.1,s.2⟩⟩
instance aer[h:Hat H x (.ins CL dx (lF (n:Nat) p))][h2:Hat H p (.lst zs)][t:TpA H zs (aJ rs)]:Go (Gp CL [.ref x,.int a,.int b] H Q E) (Sd (rs.length<=40/\∀r∈rs,r.sz<=240) (∀H',Same H H'->Q (.int (eN rs a b)) H')):=⟨λs=>⟨x,p,dx,n,zs,rs,a,b,rfl,h.e,h2.e,t.e,s.1,s.2⟩⟩
end
def Cg(a b:Int)(r:List V):Bool:=match r with
 | [_,.int s,_,_]=>decide (a<=s) && decide (s<b)
 | _=>false
def mU(rs:List Rw)(a b:Int):(aJ rs).filter (Cg a b)=aJ (rs.filter (within a b)):=by
 unfold aJ;rw[List.filter_map]
 rfl
def bZ{rows:List (List V)}{i:Nat}{r:List V}(h:rows[i]?=some r):rows.take (i+1)=rows.take i++[r]:=by rw[qV,h];rfl
section
variable{P:Program}{w:World}{K:W.Frag}{mg:xC}{base:Heap}{c:Nat->Addr}{aG aA aH aB R CL:Addr}
def zX(T:Txt K mg c R CL aG aA aH aB):Def P w K mg base CX0 2 "blocks_between" ["layout","first","behind"] (wz CL):=by
 refine dA T.zG vd λf cdv A outer s H vs Q E hr h=>?_
 obtain⟨x,p,dx,n,zs,rs,a,b,rfl,hx,hp,tp,few,k⟩:=h;have nd:=vd.nd;refine⟨_,(aF (aR (cQ (N:=["block","first","behind"]) (nt:=1) (fr:=[1,2]) (bJ (jf (pv 0) T.clL (fH T) hr)) (λ_ _ _ _=>(bG (i:=0) (show (["block","first","behind"]:List Str).Nodup from by decide +kernel) rfl (Or.inl rfl))) (λ_ _ _ _=>d9 (kW pB jd (pv 1) (aO (cD (K:=K) rfl) (pv 0) au (λ_ _=>rfl)) (pv 2))) (λ_ _ _ _=>(pv 0))))),?_⟩;clear nd;rw[stE]
 try dsimp only[cI,bO]
 have qz:=om hx;have m6:=om hp;have i_:=dN.mk tp;have F:=SH.n0 H;have yl:zs.length=rs.length:=by rw[tp.1,bw]
 repeat k_meth
 refine mF (P:=Cg a b) (fvs:=[some (.int a),some (.int b)]) aM (TpA.e (rs:=aJ rs)) (by lia) rfl (λi ys H'=>aD H' ys (((aJ rs).take i).filter (Cg a b))) (λi ys H1 H2 s t=>gM s t) aD.nil (λi q1 r H' R e1 s1 e2 kk=>?_) (λi q1 r ys H' R e1 hp s1 e2 g kk=>?_) (λi r ys H' e1 hp g=>by rw[bZ e1,List.filter_append,List.filter_cons_of_neg (by simp[hp]),List.filter_nil,List.append_nil];exact g) λq ys H' n1 g=>?_
 ·clear F;have F:SH H' [] H' [] []:=SH.nil;obtain⟨s,_,rfl⟩:=vT.mp (yT e1);have iy:=om e2;have kk:∀H2,Same H' H2->R (decide (a<=(s.st:Int)) && decide ((s.st:Int)<b)) H2:=kk
  repeat k_meth
  refine cN (λh=>?_) (λh=>?_)
  ·repeat k_meth
   rw[gX h,Bool.true_and] at kk;exact kk _ (Same.refl _)
  ·repeat k_meth
   rw[gS h,Bool.false_and] at kk;exact kk _ (Same.refl _)
 ·repeat k_meth
  refine kk _ _ (Same.refl _) ?_;rw[bZ e1,List.filter_append,List.filter_cons_of_pos hp,List.filter_nil];exact aD.snoc g e2
 ·rw[nS (by rw[bw];lia),mU] at g;replace F:=F.newR n1 g
  repeat k_meth
  exact k _ _ _ SH.nwC TpA.e
def Mf(T:Txt K mg c R CL aG aA aH aB):Def P w K mg base CX0 3 "free_between" ["layout","first","behind"] (Gp CL):=by
 refine dA T.Lq Er λf cdv A outer s H vs Q E hr h=>?_
 obtain⟨x,p,dx,n,zs,rs,a,b,rfl,hx,hp,tp,few,k⟩:=h;have nd:=Er.nd;refine⟨_,(aF (aR (aW dI (aW dI (pv 2) (pv 1)) (aX (jF rfl) rfl T.zN boot_sum (aj (cQ (N:=["block"]) (nt:=1) (fr:=[]) (bJ (aK (zX T) hr (aj (pv 0) (aj (pv 1) (aj (pv 2) ao))))) (λ_ _ _ _=>(bG (i:=0) (show (["block"]:List Str).Nodup from by decide +kernel) rfl (Or.inl rfl))) (λ_ _ _ _=>dF) (λ_ _ _ _=>(aO (cD (K:=K) rfl) (pv 0) au (λ_ _=>rfl)))) ao))))),?_⟩;clear nd;rw[stE]
 try dsimp only[cI,bO]
 have qz:=om hx;have m6:=om hp;have i_:=dN.mk tp;have F:=SH.n0 H;have Xv:=few.1;have fl:(rs.filter (within a b)).length<=40:=rX (List.length_filter_le _ _) few.1
 repeat k_meth
 refine gq (F:=λr=>r.getD 2 .non) aM (TpA.e (rs:=aJ (rs.filter (within a b)))) (by lia) rfl (λq r H1 R hr s1 e1 kk=>?_) ?_
 ·clear F;have F:=SH.n0 H1;obtain⟨s,_,rfl⟩:=vT.mp hr;have aa7:=om e1
  repeat k_meth
  exact kk _ (Same.refl _)
 ·have e5:(aJ (rs.filter (within a b))).map (λr=>r.getD 2 V.non)=((rs.filter (within a b)).map λr=>((r.sz:Nat):Int)).map V.int:=by
   unfold aJ;rw[List.map_map,List.map_map]
   rfl
  rw[e5];have side:(∀n∈(rs.filter (within a b)).map λr=>((r.sz:Nat):Int),0<=n/\n<=1000000)/\((rs.filter (within a b)).map λr=>((r.sz:Nat):Int)).length<=1000000:=by
   refine⟨λn hn=>?_,by rw[wE];lia⟩;obtain⟨r,hr,rfl⟩:=vT.mp hn;have:=few.2 r (List.mem_filter.mp hr).1
   lia
  repeat k_meth
  exact k _ F.sm
end
abbrev W3:=Int×Int×Int
abbrev xH(w:W3):List V:=[V.int w.1,V.int w.2.1,V.int w.2.2]
def dB(ws:List W3):List (List V):=ws.map xH
def zY(ws:List W3):(dB ws).length=ws.length:=wE ..
def j7(ws:List W3)(w:W3):dB (ws++[w])=dB ws++[xH w]:=by unfold dB;rw[List.map_append];rfl
def spF(r0 rs:List Rw):List W3×Int:=rs.foldl (λg r=>if 0<r.pn then (g.1++[(g.2,(r.st:Int),eN r0 g.2 r.st)],(r.st:Int)+(r.sz:Int)) else g) ([],0)
def iY(r0 rs:List Rw)(r:Rw):spF r0 (rs++[r])=if 0<r.pn then ((spF r0 rs).1++[((spF r0 rs).2,(r.st:Int),eN r0 (spF r0 rs).2 r.st)],(r.st:Int)+(r.sz:Int)) else spF r0 rs:=by unfold spF;rw[List.foldl_append];rfl
def qD(n:Nat)(rs:List Rw):List W3:=(spF rs rs).1++[((spF rs rs).2,(n:Int),eN rs (spF rs rs).2 n)]
def aes{P:List Rw->Prop}(h0:P [])(h1:∀rs r,P rs->P (rs++[r]))(rs:List Rw):P rs:=by
 have:∀n,∀rs:List Rw,rs.length=n->P rs:=by
  intro n
  induction n with
  | zero=>intro rs h;rw[List.length_eq_zero_iff.mp h];exact h0
  | succ n ih =>
   intro rs h;have hne:rs≠[]:=λz=>by rw[z] at h;simp at h
   have e:=List.dropLast_concat_getLast hne;rw[<- e];exact h1 _ _ (ih _ (by rw[List.length_dropLast];lia))
 exact this rs.length rs rfl
theorem Ci(r0 rs:List Rw):(spF r0 rs).1.length<=rs.length:=by
 induction rs using aes with
 | h0=>exact uC _
 | h1 rs r ih =>
  rw[iY];split
  ·simp only[List.length_append,List.length_singleton];lia
  ·simp only[List.length_append,List.length_singleton];lia
def qF(CL:Addr):Sp:=λvs H Q _=>Ex6 λ(x p dx:Addr) (n:Nat) (zs:List V) (rs:List Rw)=>An6 (vs=[.ref x]) (H x=some (.ins CL dx (lF (n:Nat) p))) (H p=some (.lst zs)) (aD H zs (aJ rs)) ((rs.length<=40/\∀r∈rs,r.sz<=240)) (∀q ys H',New H H' q (.lst ys)->aD H' ys (dB (qD n rs))->Q (.ref q) H')
section
variable{K:W.Frag}{CL x p dx q:Addr}{H H0:Hp}{M:List Addr}{L:List (Addr×HO)}{I:List Im}{Q:VK}{E:XK}{n:Nat}{ys zs:List V}{rs:List Rw}{ws:List W3}{Z:Addr->Hp->Prop}{i:Int}
instance Xw[h:Hat H x (.ins CL dx (lF (n:Nat) p))][h2:Hat H p (.lst zs)][t:TpA H zs (aJ rs)]:Go (qF CL [.ref x] H Q E) (Sd (rs.length<=40/\∀r∈rs,r.sz<=240) (∀q ys H',New H H' q (.lst ys)->aD H' ys (dB (qD n rs))->Q (.ref q) H')):=⟨λs=>⟨x,p,dx,n,zs,rs,rfl,h.e,h2.e,t.e,s.1,s.2⟩⟩
instance aeu[F:SH H0 M H L I]:Go (∀p ys H',New H H' p (.lst ys)->aD H' ys (dB ws)->Z p H') (∀H' p ys,ys.length=ws.length->SH H0 M H' ((p,.lst ys)::L) (.tps ys (dB ws)::I)->Z p H'):=⟨λk p ys H' n t=>k H' p ys (by rw[t.1,zY]) (F.newR n t)⟩
instance aci:Go (lE K [.int i] H Q E) (Q (.bl true) H):=⟨λk=>⟨_,_,rfl,.int i,k⟩⟩
end
theorem Cj{H:Hp}{ws:List W3}{ys:List V}{i:Nat}{v:V}(h:aD H ys (dB ws))(e:ys[i]?=some v):∃w q,ws[i]?=some w/\v=.ref q/\H q=some (.tup (xH w)):=by
 obtain⟨r,q,e1,e2,e3⟩:=fC h e;unfold dB at e1;rw[wS] at e1;cases e4:ws[i]? with
 | none=>rw[e4] at e1;cases e1
 | some w=>rw[e4] at e1;cases e1;exact⟨w,q,rfl,e2,e3⟩
section
variable{P:Program}{w:World}{K:W.Frag}{mg:xC}{base:Heap}{c:Nat->Addr}{aG aA aH aB R CL:Addr}
def sW(T:Txt K mg c R CL aG aA aH aB):Def P w K mg base CX0 4 "stretches_of" ["layout"] (qF CL):=by
 refine dA T.sO p7 λf cdv A outer s H vs Q E hr h=>?_
 obtain⟨x,p,dx,n,zs,rs,rfl,hx,hp,tp,few,k⟩:=h;have nd:=p7.nd;refine⟨_,(aq (psz 1 nd (bC ao))
  (aq (psz 2 nd au)
  (aq (cU PassesOwn.never rfl (bJ (jf (pv 0) T.clL (fH T) hr)) (pgz 3 nd) (aF (bL (aN eH (aO bF (pv 3) au (λ_ _=>rfl)) au (aY _)) (aq (cT (cB (pv 1) (bD (aj (pv 2) (aj (aO bF (pv 3) au (λ_ _=>rfl)) (aj (aK (Mf T) hr (aj (pv 0) (aj (pv 2) (aj (aO bF (pv 3) au (λ_ _=>rfl)) ao)))) ao))))))
    (aF (psz 2 nd (aK (mD T) hr (aj (aK (iV T) hr (aj (pv 3) ao)) ao))))) bf)))
  (aq (cT (cB (pv 1) (bD (aj (pv 2) (aj (jj (pv 0) rfl) (aj (aK (Mf T) hr (aj (pv 0) (aj (pv 2) (aj (jj (pv 0) rfl) ao)))) ao))))))
  (aF (aR (pv 1))))))),?_⟩
 clear nd;rw[stE]
 try dsimp only[cI,bO]
 have qz:=om hx;have m6:=om hp;have i_:=dN.mk tp;have F:=SH.n0 H;have Xv:=few.1
 repeat k_meth
 rename_i _ sl
 rename Addr=>bl
 refine eE (xs:=zs) (λi σ' H'=>∃(o3:Option V)(ys:List V),An3 (σ'=[some (.ref x),some (.ref sl),some (.int (spF rs (rs.take i)).2),o3]) (ys.length=(spF rs (rs.take i)).1.length) (SH H [] H' [(sl,.lst ys),(bl,.lst zs)] [.tps ys (dB (spF rs (rs.take i)).1)])) ⟨_,[],rfl,rfl,(F.d8 (ys:=[]) (rs:=dB []) aD.nil).sub SbC.s (λ_ h=>h)⟩ ?_ ?_ ?_
 ·clear F;rintro i σ' H' _ ⟨_,ys,rfl,yl,F⟩;exact SqA.e
 ·clear F;rintro i v σ' H' hv ⟨_,ys,rfl,yl,F⟩;obtain⟨r,q1,e1,rfl,e2⟩:=dh tp hv;have iy:=om e2;have sl1:=Ci rs (rs.take i);rw[oQ] at sl1
  repeat k_meth
  refine cN (λh=>?_) (λh=>?_)
  ·have hp:0<r.pn:=by lia
   repeat k_meth
   rename Addr=>zz
   have F2:=SH.app (ys:=ys) (rs:=dB (spF rs (rs.take i)).1) (q:=p_) (r:=xH ((spF rs (rs.take i)).2,(r.st:Int),eN rs (spF rs (rs.take i)).2 r.st)) F (LkP.m) (LkI.m);rw[<- j7] at F2;refine⟨_,ys++[.ref p_],by rw[bB e1,iY,if_pos hp],by rw[bB e1,iY,if_pos hp];simp[yl],?_⟩;rw[bB e1,iY,zS hp];exact F2.sub SbC.s SbI.s
  ·have hp:¬ 0<r.pn:=by lia
   repeat k_meth
   refine⟨_,ys,by rw[bB e1,iY,yA hp],by rw[bB e1,iY,yA hp];exact yl,?_⟩;rw[bB e1,iY,yA hp];exact F
 ·clear F;rintro σ' H' ⟨_,ys,rfl,yl,F⟩;have sl1:=Ci rs rs;rw[show zs.length=rs.length by rw[tp.1,bw],List.take_length] at F yl ⊢
  repeat k_meth
  rename Addr=>tq
  have F2:=SH.app (ys:=ys) (rs:=dB (spF rs rs).1) (q:=tq) (r:=xH ((spF rs rs).2,(n:Int),eN rs (spF rs rs).2 n)) F (LkP.m) (LkI.m);rw[<- j7] at F2;exact k _ _ _ (SH.nwC (F:=F2)) (F2.tps zC)
end
open M22 M82
def mvV(m:Mv):List V:=[.str (tx m.2.1),.int (m.2.2:Nat)]
def fJ(ms:List Mv):List (List V):=ms.map mvV
def qG(ms:List Mv):(fJ ms).length=ms.length:=wE ..
def Gq{f b:Int}{B:List Rw}(h:∀r∈B,f<=(r.st:Int)/\(r.st:Int)<b):B.filter (within f b)=B:=List.filter_eq_self.mpr λr hr=>by
 have:=h r hr;unfold within;rw[gX this.1,gX this.2]
 rfl
def rH{f b:Int}{B:List Rw}(h:∀r∈B,(r.st:Int)<f\/b<=(r.st:Int)):B.filter (within f b)=[]:=List.filter_eq_nil_iff.mpr λr hr=>by
 unfold within;rcases h r hr with h|h
 ·rw[decide_eq_false (by lia)];simp
 ·rw[decide_eq_false (p:=(r.st:Int)<b) (by lia)];simp
theorem Xx{n:Nat}{r0:List Rw}(ok:OkA 0 n r0):∀(rs A B:List Rw)(f u:Int)(g:List W3),r0=A++B++rs->(∀a∈A,(a.st:Int)<f)->(∀b∈B,f<=(b.st:Int))->(∀s∈rs,f<=(s.st:Int))->u=(B.map λr=>(r.sz:Int)).sum ->
  (rs.foldl (λg r=>if 0<r.pn then (g.1++[(g.2,(r.st:Int),eN r0 g.2 r.st)],(r.st:Int)+(r.sz:Int)) else g) (g,f)).1++[((rs.foldl (λg r=>if 0<r.pn then (g.1++[(g.2,(r.st:Int),eN r0 g.2 r.st)],(r.st:Int)+(r.sz:Int)) else g) (g,f)).2,(n:Int),eN r0 (rs.foldl (λg r=>if 0<r.pn then (g.1++[(g.2,(r.st:Int),eN r0 g.2 r.st)],(r.st:Int)+(r.sz:Int)) else g) (g,f)).2 n)]=g++gU n f u rs:=by
 intro rs
 induction rs with
 | nil =>
  intro A B f u g e hA hB _ hu;have:eN r0 f n=(n:Int)-f-u:=by
   unfold eN;rw[e,List.append_nil,List.filter_append,rH λr hr=>.inl (hA r hr),Gq λr hr=>⟨hB r hr,by have:=ok.bd r (by rw[e];simp[hr]);lia⟩,List.nil_append,hu]
  show g++[(f,(n:Int),eN r0 f n)]=_;rw[this]
  rfl
 | cons r rs ih =>
  intro A B f u g e hA hB hs hu;have aw:=ok.asc;rw[e,mI] at aw;have aw2:=mN.mp aw.2.1;have br:=ok.bd r (by rw[e];simp);rw[List.foldl_cons];by_cases hp:0<r.pn
  ·have:eN r0 f r.st=(r.st:Int)-f-u:=by
    unfold eN;rw[e,List.filter_append,List.filter_append,rH λr hr=>.inl (hA r hr),Gq λb hb=>⟨hB b hb,by have:=aw.2.2 b (by simp[hb]) r (by simp);have:=ok.bd b (by rw[e];simp[hb]);lia⟩,rH (B:=r::rs) λs hs=>.inr (by
     rcases vS.mp hs with rfl|hs
     ·lia
     ·have:=aw2.1 s hs;lia),List.nil_append,mE,hu]
   rw[gU,zS hp];simp only[if_pos hp,this];have i:=ih (A++B++[r]) [] ((r.st:Int)+(r.sz:Int)) 0 (g++[(f,(r.st:Int),(r.st:Int)-f-u)]) (by rw[e];simp) (λa ha=>by
    rcases wP.mp ha with ha|ha
    ·have:=aw.2.2 a ha r (by simp);lia
    ·rw[uS.mp ha];lia) (λb hb=>by cases hb) (λs hs=>by have:=aw2.1 s hs;lia) rfl
   rw[i,vF]
   rfl
  ·rw[gU,yA hp];simp only[if_neg hp];exact ih A (B++[r]) f (u+(r.sz:Int)) g (by rw[e];simp) hA (λb hb=>by
    rcases wP.mp hb with hb|hb
    ·exact hB b hb
    ·rw[List.mem_singleton.mp hb];exact hs r (.head _)) (λs h=>hs s (.tail _ h)) (by rw[List.map_append,List.sum_append,<- hu];simp)
def rJ{n:Nat}{rs:List Rw}(ok:OkA 0 n rs):qD n rs=gU n 0 0 rs:=Xx ok rs [] [] 0 0 [] rfl (λa h=>by cases h) (λa h=>by cases h) (λs _=>by lia) rfl
def Y8{n:Nat}{rs:List Rw}(h:Lay n rs)(a:Asc rs):OkA 0 n rs:=⟨a,λr hr=>⟨Nat.zero_le _,(h.good r hr).sz,(h.good r hr).le⟩⟩
def Ui{n:Nat}{rs:List Rw}(h:Lay n rs):(rs.map (·.nm)).Nodup:=by
 rw[List.Nodup,List.pairwise_map];exact h.ap.imp λh=>h.1
def Uj{n:Nat}{rs qs:List Rw}(h:Lay n rs)(e:qs.map (·.nm)=rs.map (·.nm))(ok:OkA 0 n qs):Lay n qs:=by
 have hl:qs.length=rs.length:=by have:=congrArg List.length e;simpa using this
 refine⟨λr hr=>⟨?_,(ok.bd r hr).2.1,(ok.bd r hr).2.2⟩,?_,by rw[hl];exact h.few⟩
 ·have:r.nm∈rs.map (·.nm):=e▸List.mem_map_of_mem hr;obtain⟨s,hs,e2⟩:=vT.mp this;rw[<- e2];exact(h.good s hs).nm
 ·have nd:(qs.map (·.nm)).Nodup:=e▸Ui h;rw[List.Nodup,List.pairwise_map] at nd;exact nd.imp₂ (λ{a b} h1 h2=>⟨h1,.inl h2⟩) ok.asc
def wA(n:Nat)(rs:List Rw):Nat:=((qD n rs).filter λw=>decide (0<w.2.2)).length
def zZ(CL:Addr):Sp:=λvs H Q _=>Ex6 λ(x p dx:Addr) (n:Nat) (zs:List V) (rs:List Rw)=>An6 (vs=[.ref x]) (H x=some (.ins CL dx (lF (n:Nat) p))) (H p=some (.lst zs)) (aD H zs (aJ rs)) ((rs.length<=40/\∀r∈rs,r.sz<=240)) (∀H',Same H H'->Q (.int (wA n rs:Nat)) H')
section
variable{CL x p dx:Addr}{H:Hp}{Q:VK}{E:XK}{n:Nat}{zs:List V}{rs:List Rw}
instance acj[h:Hat H x (.ins CL dx (lF (n:Nat) p))][h2:Hat H p (.lst zs)][t:TpA H zs (aJ rs)]:Go (zZ CL [.ref x] H Q E) (Sd (rs.length<=40/\∀r∈rs,r.sz<=240) (∀H',Same H H'->Q (.int (wA n rs:Nat)) H')):=⟨λs=>⟨x,p,dx,n,zs,rs,rfl,h.e,h2.e,t.e,s.1,s.2⟩⟩
end
def Xy(r:List V):Bool:=match r with
 | [_,_,.int f]=>decide (0<f)
 | _=>false
def z6(ws:List W3):((dB ws).filter Xy).length=(ws.filter λw=>decide (0<w.2.2)).length:=by
 unfold dB;rw[List.filter_map,wE]
 rfl
section
variable{P:Program}{w:World}{K:W.Frag}{mg:xC}{base:Heap}{c:Nat->Addr}{aG aA aH aB R CL:Addr}
def Uk(T:Txt K mg c R CL aG aA aH aB):Def P w K mg base CX0 5 "fewest_holes" ["layout"] (zZ CL):=by
 refine dA T.Fi yM λf cdv A outer s H vs Q E hr h=>?_
 obtain⟨x,p,dx,n,zs,rs,rfl,hx,hp,tp,few,k⟩:=h;have nd:=yM.nd;refine⟨_,(aF (aR (aX bK rfl T.dz boot_len (aj (cQ (N:=["stretch"]) (nt:=1) (fr:=[]) (bJ (aK (sW T) hr (aj (pv 0) ao))) (λ_ _ _ _=>(bG (i:=0) (show (["stretch"]:List Str).Nodup from by decide +kernel) rfl (Or.inl rfl))) (λ_ _ _ _=>d9 (aN eH (aO (cD (K:=K) rfl) (pv 0) au (λ_ _=>rfl)) au (aY _))) (λ_ _ _ _=>(pv 0))) ao)))),?_⟩;clear nd;rw[stE]
 try dsimp only[cI,bO]
 have qz:=om hx;have m6:=om hp;have i_:=dN.mk tp;have F:=SH.n0 H;have Xv:=few.1;have sl:(qD n rs).length<=41:=by
  have:=Ci rs rs;unfold qD;rw[yB,List.length_singleton]
  lia
 repeat k_meth
 refine mF (P:=Xy) (fvs:=[]) aM (TpA.e (rs:=dB (qD n rs))) (by lia) rfl (λi ys H'=>ys.length=(((dB (qD n rs)).take i).filter Xy).length) (λi ys H1 H2 s t=>t) rfl (λi q1 r H' R e1 s1 e2 kk=>?_) (λi q1 r ys H' R e1 hp s1 e2 g kk=>?_) (λi r ys H' e1 hp g=>by rw[bZ e1,List.filter_append,List.filter_cons_of_neg (by simp[hp]),List.filter_nil,List.append_nil];exact g) λq ys H' n1 g=>?_
 ·clear F;have F:SH H' [] H' [] []:=SH.nil;obtain⟨s,_,rfl⟩:=vT.mp (yT e1);have iy:=om e2;have kk:∀H2,Same H' H2->R (decide (0<s.2.2)) H2:=kk
  repeat k_meth
  exact kk _ (Same.refl _)
 ·repeat k_meth
  refine kk _ _ (Same.refl _) ?_;rw[bZ e1,List.filter_append,List.filter_cons_of_pos hp,List.filter_nil,yB,yB,g]
  rfl
 ·rw[nS (by rw[zY];lia),z6] at g;replace F:=F.newL n1;have yl:ys.length<=41:=by
   have:=List.length_filter_le (λw:W3=>decide (0<w.2.2)) (qD n rs)
   lia
  repeat k_meth
  rw[g];exact k _ F.sm
end
open M22 M82
abbrev row2(w:Int×Int):List V:=[V.int w.1,V.int w.2]
def kE(ws:List (Int×Int)):List (List V):=ws.map row2
def O1(ws:List (Int×Int)):(kE ws).length=ws.length:=wE ..
def wB(ws:List (Int×Int))(w:Int×Int):kE (ws++[w])=kE ws++[row2 w]:=by unfold kE;rw[List.map_append];rfl
theorem wC(n:Nat)(rs:List Rw):∀f u,(gU n f u rs).length<=rs.length+1:=by
 induction rs with
 | nil=>intro f u;exact uC _
 | cons r rs ih =>
  intro f u;rw[gU];split
  ·have:=ih ((r.st:Int)+(r.sz:Int)) 0;simp only[List.length_cons];lia
  ·have:=ih f (u+(r.sz:Int));simp only[List.length_cons];lia
theorem Gs(n:Nat)(rs:List Rw):∀e,(jw n e rs).length<=rs.length+1:=by
 have g1:∀a b:Int,(Ef a b).length<=1:=λa b=>by unfold Ef;split <;> simp
 induction rs with
 | nil=>intro e;exact g1 _ _
 | cons r rs ih =>
  intro e;have:=ih ((r.st:Int)+(r.sz:Int));have:=g1 e r.st;rw[jw,yB,mS]
  lia
def Ck{α:Type}{rs:List α}{i:Nat}{r:α}(h:rs[i]?=some r):rs.drop i=r::rs.drop (i+1):=by
 obtain⟨hi,e⟩:=jS.mp h;rw[List.drop_eq_getElem_cons hi,e]
def Mg:Sp:=λvs H Q _=>Ex4 λ(l:Addr) (n:Nat) (zs:List V) (rs:List Rw)=>An5 (vs=[.int (n:Nat),.ref l]) (H l=some (.lst zs)) (aD H zs (aJ rs)) (rs.length<=40) (∀q ys H',New H H' q (.lst ys)->aD H' ys (dB (gU n 0 0 rs))->Q (.ref q) H')
def wD:Sp:=λvs H Q _=>Ex4 λ(l:Addr) (n:Nat) (zs:List V) (rs:List Rw)=>An5 (vs=[.int (n:Nat),.ref l]) (H l=some (.lst zs)) (aD H zs (aJ rs)) (rs.length<=40) (∀q ys H',New H H' q (.lst ys)->aD H' ys (kE (jw n 0 rs))->Q (.ref q) H')
section
variable{p l q:Addr}{H H0:Hp}{M:List Addr}{L:List (Addr×HO)}{I:List Im}{Q:VK}{E:XK}{n:Nat}{ys zs:List V}{rs:List Rw}{us:List (Int×Int)}{Z:Addr->Hp->Prop}
instance af4[h2:Hat H l (.lst zs)][t:TpA H zs (aJ rs)]:Go (Mg [.int (n:Nat),.ref l] H Q E) (Sd (rs.length<=40) (∀q ys H',New H H' q (.lst ys)->aD H' ys (dB (gU n 0 0 rs))->Q (.ref q) H')):=⟨λs=>⟨l,n,zs,rs,rfl,h2.e,t.e,s.1,s.2⟩⟩
instance aa8[h2:Hat H l (.lst zs)][t:TpA H zs (aJ rs)]:Go (wD [.int (n:Nat),.ref l] H Q E) (Sd (rs.length<=40) (∀q ys H',New H H' q (.lst ys)->aD H' ys (kE (jw n 0 rs))->Q (.ref q) H')):=⟨λs=>⟨l,n,zs,rs,rfl,h2.e,t.e,s.1,s.2⟩⟩
instance aev[F:SH H0 M H L I]:Go (∀p ys H',New H H' p (.lst ys)->aD H' ys (kE us)->Z p H') (∀H' p ys,ys.length=us.length->SH H0 M H' ((p,.lst ys)::L) (.tps ys (kE us)::I)->Z p H'):=⟨λk p ys H' n t=>k H' p ys (by rw[t.1,O1]) (F.newR n t)⟩
end
section
variable{P:Program}{w:World}{K:W.Frag}{mg:xC}{base:Heap}{c:Nat->Addr}{aG aA aH aB R CL:Addr}
def Gu(T:Txt K mg c R CL aG aA aH aB):Def P w K mg base CX0 1 "_law_whole" ["_law_thing"] (lE K):=by
 refine dA T.Fw yV λf cdv A outer s H vs Q E hr h=>?_
 obtain⟨x,n,rfl,ty,k⟩:=h;have nd:=yV.nd;refine⟨_,(aF (aR (iI (aX cZ rfl T.bU boot_isinstance (aj (pv 0) (aj (je (T := "int") rfl T.T3 boot_int) ao))) (jP (PK (aX cZ rfl T.bU boot_isinstance (aj (pv 0) (aj (je (T := "bool") rfl T.vY boot_bool) ao)))))))),?_⟩;clear nd ;rw[stE]
 try dsimp only[cI,bO]
 rw[Qs] at k
 repeat k_meth
 refine w_is ty (Qt ty) ?_
 repeat k_meth
 refine i_b (λh=>?_) (λh=>?_)
 ·repeat k_meth
  refine w_is ty (Av ty) ?_
  repeat k_meth
  rw[h] at k;exact k
 ·rw[h] at k;exact k
def qH(T:Txt K mg c R CL aG aA aH aB):Def P w K mg base CX0 1 "_law_stretches" ["_law_many_here","_law_rows_here"] Mg:=by
 refine dA T.qp nj λf cdv A outer s H vs Q E hr h=>?_
 obtain⟨l,n,zs,rs,rfl,hl,tp,few,k⟩:=h;have nd:=nj.nd;refine⟨_,(aq (psz 2 nd (bC ao))
  (aq (psz 3 nd au)
  (aq (psz 4 nd au)
  (aq (cU PassesOwn.never rfl (bJ (pv 1)) (fD rfl (aV (pgz 5 nd) (aV (pgz 6 nd) (aV (pgz 7 nd) (aV (pgz 8 nd) cW))))) (aF (bL (aN eH (pv 8) au (aY _)) (aq (cT (cB (pv 2) (bD (aj (pv 3) (aj (pv 6) (aj (aW dI (aW dI (pv 6) (pv 3)) (pv 4)) ao))))))
    (aq (psz 3 nd (aW bQ (pv 6) (pv 7)))
    (aF (psz 4 nd au)))) (aF (psz 4 nd (aW bQ (pv 4) (pv 7)))))))
  (aq (cT (cB (pv 2) (bD (aj (pv 3) (aj (pv 0) (aj (aW dI (aW dI (pv 0) (pv 3)) (pv 4)) ao))))))
  (aF (aR (pv 2)))))))),?_⟩
 clear nd ;rw[stE]
 try dsimp only[cI,bO]
 have jx:=om hl;have i_:=dN.mk tp;have F:=SH.n0 H;have zl:zs.length=rs.length:=by rw[tp.1,bw]
 have sl:=wC n rs 0 0
 repeat k_meth
 rename Addr=>fo
 refine eE (xs:=zs) (λi σ' H'=>Ex8 λ(o5 o6 o7 o8:Option V) (f u:Int) (ws:List W3) (ys:List V)=>An4 (σ'=[some (.int (n:Nat)),some (.ref l),some (.ref fo),some (.int f),some (.int u),o5,o6,o7,o8]) (ws++gU n f u (rs.drop i)=gU n 0 0 rs) (ys.length=ws.length) (SH H [] H' [(fo,.lst ys)] [.tps ys (dB ws)])) ⟨_,_,_,_,0,0,[],[],rfl,rfl,rfl,(F.d8 (ys:=[]) (rs:=dB []) aD.nil).sub SbC.s (λ_ h=>h)⟩ ?_ ?_ ?_
 ·clear F;rintro i σ' H' _ ⟨_,_,_,_,f,u,ws,ys,rfl,e,yl,F⟩;exact SqA.e
 ·clear F;rintro i v σ' H' hv ⟨_,_,_,_,f,u,ws,ys,rfl,e,yl,F⟩;obtain⟨r,q1,e1,rfl,e2⟩:=dh tp hv;have iy:=om e2;rw[Ck e1,gU] at e;have wl:ws.length<=41:=by
   have:=gE List.length e;rw[yB] at this
   lia
  repeat k_meth
  refine cN (λh=>?_) (λh=>?_)
  ·have hp:0<r.pn:=by lia
   rw[zS hp] at e
   repeat k_meth
   rename Addr=>tq
   have F2:=SH.app (ys:=ys) (rs:=dB ws) (q:=tq) (r:=xH (f,(r.st:Int),(r.st:Int)-f-u)) F (LkP.m) (LkI.m);rw[<- j7] at F2;exact⟨_,_,_,_,_,_,ws++[(f,(r.st:Int),(r.st:Int)-f-u)],ys++[.ref tq],rfl,by rw[<- e,List.append_assoc];rfl,by simp[yl],F2.sub SbC.s SbI.s⟩
  ·have hp:¬ 0<r.pn:=by lia
   rw[yA hp] at e
   repeat k_meth
   exact⟨_,_,_,_,_,_,ws,ys,rfl,e,yl,F.sub SbC.s SbI.s⟩
 ·clear F;rintro σ' H' ⟨_,_,_,_,f,u,ws,ys,rfl,e,yl,F⟩;rw[zl,List.drop_of_length_le (uC _),gU] at e;have wl:ws.length<=41:=by
   have:=gE List.length e;rw[yB] at this
   lia
  repeat k_meth
  rename Addr=>tq
  have F2:=SH.app (ys:=ys) (rs:=dB ws) (q:=tq) (r:=xH (f,(n:Int),(n:Int)-f-u)) F (LkP.m) (LkI.m);rw[<- j7,e] at F2;exact k _ _ _ (SH.nwC (F:=F2)) (F2.tps zC)
def Ul(T:Txt K mg c R CL aG aA aH aB):Def P w K mg base CX0 1 "_law_holes" ["_law_many_here","_law_rows_here"] wD:=by
 refine dA T.Fx yW λf cdv A outer s H vs Q E hr h=>?_
 obtain⟨l,n,zs,rs,rfl,hl,tp,few,k⟩:=h;have nd:=yW.nd;refine⟨_,(aq (psz 2 nd (bC ao))
  (aq (psz 3 nd au)
  (aq (cU PassesOwn.never rfl (bJ (pv 1)) (fD rfl (aV (pgz 4 nd) (aV (pgz 5 nd) (aV (pgz 6 nd) (aV (pgz 7 nd) cW))))) (aq (bL (aN eH (pv 5) (pv 3) (aY _)) (aF (cT (cB (pv 2) (bD (aj (pv 3) (aj (aW dI (pv 5) (pv 3)) ao)))))) bf)
   (aF (psz 3 nd (aW bQ (pv 5) (pv 6))))))
  (aq (bL (aN eH (pv 0) (pv 3) (aY _)) (aF (cT (cB (pv 2) (bD (aj (pv 3) (aj (aW dI (pv 0) (pv 3)) ao)))))) bf)
  (aF (aR (pv 2))))))),?_⟩
 clear nd ;rw[stE]
 try dsimp only[cI,bO]
 have jx:=om hl;have i_:=dN.mk tp;have F:=SH.n0 H;have zl:zs.length=rs.length:=by rw[tp.1,bw]
 have sl:=Gs n rs 0
 repeat k_meth
 rename Addr=>fo
 refine eE (xs:=zs) (λi σ' H'=>Ex7 λ(o4 o5 o6 o7:Option V) (f:Int) (ws:List (Int×Int)) (ys:List V)=>An4 (σ'=[some (.int (n:Nat)),some (.ref l),some (.ref fo),some (.int f),o4,o5,o6,o7]) (ws++jw n f (rs.drop i)=jw n 0 rs) (ys.length=ws.length) (SH H [] H' [(fo,.lst ys)] [.tps ys (kE ws)])) ⟨_,_,_,_,0,[],[],rfl,rfl,rfl,(F.d8 (ys:=[]) (rs:=kE []) aD.nil).sub SbC.s (λ_ h=>h)⟩ ?_ ?_ ?_
 ·clear F;rintro i σ' H' _ ⟨_,_,_,_,f,ws,ys,rfl,e,yl,F⟩;exact SqA.e
 ·clear F;rintro i v σ' H' hv ⟨_,_,_,_,f,ws,ys,rfl,e,yl,F⟩;obtain⟨r,q1,e1,rfl,e2⟩:=dh tp hv;have iy:=om e2;rw[Ck e1,jw] at e;have wl:ws.length<=41:=by
   have:=gE List.length e;rw[yB] at this
   lia
  repeat k_meth
  refine cN (λh=>?_) (λh=>?_)
  ·rw[lN (by lia)] at e
   repeat k_meth
   rename Addr=>tq
   have F2:=SH.app (ys:=ys) (rs:=kE ws) (q:=tq) (r:=row2 (f,(r.st:Int)-f)) F (LkP.m) (LkI.m);rw[<- wB] at F2;exact⟨_,_,_,_,_,ws++[(f,(r.st:Int)-f)],ys++[.ref tq],rfl,by rw[<- e,List.append_assoc],by simp[yl],F2.sub SbC.s SbI.s⟩
  ·rw[lO (by lia)] at e
   repeat k_meth
   exact⟨_,_,_,_,_,ws,ys,rfl,e,yl,F.sub SbC.s SbI.s⟩
 ·clear F;rintro σ' H' ⟨_,_,_,_,f,ws,ys,rfl,e,yl,F⟩;rw[zl,List.drop_of_length_le (uC _),jw] at e;have wl:ws.length<=41:=by
   have:=gE List.length e;rw[yB] at this
   lia
  repeat k_meth
  refine cN (λh=>?_) (λh=>?_)
  ·rw[lN (by lia)] at e
   repeat k_meth
   rename Addr=>tq
   have F2:=SH.app (ys:=ys) (rs:=kE ws) (q:=tq) (r:=row2 (f,(n:Int)-f)) F (LkP.m) (LkI.m);rw[<- wB,e] at F2;exact k _ _ _ (SH.nwC (F:=F2)) (F2.tps zC)
  ·rw[lO (by lia),mE] at e;rw[e] at F
   repeat k_meth
   exact k _ _ _ SH.nwC TpA.e
end
open M22 M82
structure ahY(n:Nat)(rs:List Rw)(ms:List Mv):Prop where
 few:rs.length<=40
 fem:ms.length<=40
 ok:WOk n rs ms
 ndm:(ms.map (·.2.1)).Nodup
 ndr:(rs.map (·.nm)).Nodup
def Um{qs:List Addr}{T:List (List V)}{i:Nat}{q:Addr}{r:List V}(o:List V)(h1:qs[i]?=some q)(h2:T[i]?=some r):Up q (.lst o) (hsR qs T) (hsR qs (T.set i o)):=by
 have:=W9 (B:=[]) o h1 h2;rw[mE,mE] at this;exact this
theorem Mh{H:Hp}{ms:List Mv}{ys:List V}{i:Nat}{v:V}(h:aD H ys (fJ ms))(e:ys[i]?=some v):∃w q,ms[i]?=some w/\v=.ref q/\H q=some (.tup (mvV w)):=by
 obtain⟨r,q,e1,e2,e3⟩:=fC h e;unfold fJ at e1;rw[wS] at e1;cases e4:ms[i]? with
 | none=>rw[e4] at e1;cases e1
 | some w=>rw[e4] at e1;cases e1;exact⟨w,q,rfl,e2,e3⟩
theorem Uo(T:List Rw)(k to:Nat):(mvT T k to).map (·.nm)=T.map (·.nm):=by
 unfold mvT
 induction T generalizing k with
 | nil=>simp
 | cons r T ih =>
  cases k with
  | zero=>rfl
  | succ k=>rw[List.modify_succ_cons,oS,oS,ih]
theorem Gv{T:List Rw}{k to:Nat}{r:Rw}(h:T[k]?=some r):aJ (mvT T k to)=(aJ T).set k ((dD r).set 1 (.int (to:Nat))):=by
 unfold mvT aJ
 induction T generalizing k with
 | nil=>simp at h
 | cons a T ih =>
  cases k with
  | zero=>simp at h;subst h;rfl
  | succ k=>rw[List.modify_succ_cons,List.map_cons,List.map_cons,List.set_cons_succ,ih (by simpa using h)]
def Xz{T:List Rw}{j:Nat}{r:Rw}(h:T[j]?=some r):iT T (j+1)=r.st+r.sz:=by simp only[iT,h]
def Uq{n:Nat}{T:List Rw}{k:Nat}{r:Rw}(h:T[k+1]?=some r):dU n T k=r.st:=by simp only[dU,h]
def Ur{n:Nat}{T:List Rw}{k:Nat}(h:¬ k+1<T.length):dU n T k=n:=by simp only[dU,List.getElem?_eq_none (by lia:T.length<=k+1)]
def mV{T:List Rw}{k:Nat}{r:Rw}(h:T[k]?=some r):(aJ T)[k]?=some (dD r):=by unfold aJ;rw[List.getElem?_map,h];rfl
def Cm{qs:List Addr}{T:List Rw}{k:Nat}{r:Rw}(hl:qs.length=T.length)(h:T[k]?=some r):∃q,qs[k]?=some q/\(qs.map V.ref)[k]?=some (V.ref q):=by
 have:=(jS.mp h).1;exact⟨qs[k],by simp,by simp⟩
section
def aa9{T:List Rw}{m:Mv}{r:Rw}(h:T[m.1]?=some r)(e:m.2.2=r.st):wPr T m=0:=by simp only[wPr,h];rw[if_pos e]
def aa_{T:List Rw}{m:Mv}{r:Rw}(h:T[m.1]?=some r)(e:¬ m.2.2=r.st):wPr T m=r.sz:=by simp only[wPr,h];rw[if_neg e]
end
open M22 M82 M87
theorem Us(A:List Rw):(∀r∈A,r.pn=0)->∀(g:List Stp)(f:Int),(A.foldl stD (g,f)).1=g++mv (plc f A):=by
 induction A with
 | nil=>intro _ g f;exact(mE _).symm
 | cons r A ih =>
  intro un g f;have hp:¬ 0<r.pn:=by rw[un r (.head _)];lia
  rw[List.foldl_cons,plc];by_cases he:f=(r.st:Int)
  ·rw[BX hp (show (g,f).2=(r.st:Int) from he)];show (A.foldl stD (g,f+(r.sz:Int))).1=_;rw[ih (λs hs=>un s (.tail _ hs))];unfold mv;rw[List.filter_cons_of_neg (by simpa using he)]
  ·rw[BZ hp (show ¬ (g,f).2=(r.st:Int) from he)];show (A.foldl stD (g++[(r,f)],f+(r.sz:Int))).1=_;rw[ih (λs hs=>un s (.tail _ hs)),vF];unfold mv;rw[List.filter_cons_of_pos (by simpa using he)]
   rfl
theorem abb(b:Int)(A:List Rw):(∀r∈A,r.pn=0)->A.reverse.foldl stU (([]:List Stp),b)=((mv (plc (b-szs A) A)).reverse,b-szs A):=by
 induction A with
 | nil=>intro _;rw[fV,Int.sub_zero];rfl
 | cons r A ih =>
  intro un;have hp:¬ 0<r.pn:=by rw[un r (.head _)];lia
  rw[List.reverse_cons,List.foldl_append,ih (λs hs=>un s (.tail _ hs)),List.foldl_cons,List.foldl_nil,plc,fj];have e1:b-szs A-(r.sz:Int)=b-((r.sz:Int)+szs A):=by lia
  have e2:b-((r.sz:Int)+szs A)+(r.sz:Int)=b-szs A:=by lia
  rw[e2];by_cases he:b-((r.sz:Int)+szs A)=(r.st:Int)
  ·rw[Ca hp (show _-(r.sz:Int)=(r.st:Int) from e1.trans he)];show (_,b-szs A-(r.sz:Int))=_;rw[e1];unfold mv;rw[List.filter_cons_of_neg (by simpa using he)]
  ·rw[Cd hp (show ¬ _-(r.sz:Int)=(r.st:Int) from λz=>he (e1.symm.trans z))];show (_++[(r,b-szs A-(r.sz:Int))],b-szs A-(r.sz:Int))=_;rw[e1];unfold mv;rw[List.filter_cons_of_pos (by simpa using he),List.reverse_cons]
def abd{A:List Rw}(un:∀r∈A,r.pn=0)(f b:Int)(g:Nat):(gV f (A.take g)).1++(upF b (A.drop g).reverse).1=chc f b g A:=by
 unfold gV upF chc;rw[Us _ (λr hr=>un r (oB hr)),abb _ _ (λr hr=>un r (oC hr)),List.nil_append]
def wF(ss:List Sp2):(mv ss).length<=ss.length:=List.length_filter_le ..
def Cp(a:Int)(A:List Rw):(plc a A).length=A.length:=by have:=gE List.length (Br a A);rwa [wE] at this
def rK(f b:Int)(g:Nat)(A:List Rw):(jn f b g A).length=A.length:=by have:=gE List.length (uT f b g A);rwa [wE] at this
def XC(f b:Int)(g:Nat)(A:List Rw):(chc f b g A).length<=A.length:=by
 rw[(pX f b g A).length_eq];have:=wF (jn f b g A);rw[rK] at this;exact this
def Mi{f b:Int}{g:Nat}{A:List Rw}{s:Sp2}(h:s∈chc f b g A):s.1∈A:=by
 have:=(List.mem_filter.mp ((pX f b g A).mem_iff.mp h)).1;rw[<- uT f b g A];exact List.mem_map_of_mem this
def XD{H:Hp}{ys:List V}{A:List Rw}(h:aD H ys (aJ A))(i:Nat):aD H (ys.take i) (aJ (A.take i)):=by
 have hl:ys.length=A.length:=by rw[h.1,bw]
 refine⟨by rw[bw,oQ,oQ,hl],λj r e=>?_⟩;unfold aJ at e;rw[wS,List.getElem?_take] at e;by_cases hj:j<i
 ·rw[zS hj] at e;obtain⟨q,a,b⟩:=h.2 j r (by unfold aJ;rw[List.getElem?_map];exact e);exact⟨q,by rw[List.getElem?_take,zS hj];exact a,b⟩
 ·rw[yA hj] at e;cases e
def XF{H:Hp}{ys:List V}{A:List Rw}(h:aD H ys (aJ A))(i:Nat):aD H (ys.drop i) (aJ (A.drop i)):=by
 have hl:ys.length=A.length:=by rw[h.1,bw]
 refine⟨by rw[bw,zzA,zzA,hl],λj r e=>?_⟩;unfold aJ at e;rw[wS,List.getElem?_drop] at e;obtain⟨q,a,b⟩:=h.2 (i+j) r (by unfold aJ;rw[List.getElem?_map];exact e);exact⟨q,by rw[List.getElem?_drop];exact a,b⟩
def szI(ss:List Stp):Int:=(ss.map λs=>(s.1.sz:Int)).sum
def z7:Sp:=λvs H Q _=>Ex3 λ(l:Addr) (zs:List V) (ss:List Stp)=>An5 (vs=[.ref l]) (H l=some (.lst zs)) (aD H zs (aQ ss)) ((ss.length<=40/\∀s∈ss,s.1.sz<=240)) (∀H',Same H H'->Q (.int (szI ss)) H')
def sX:Sp:=λvs H Q _=>Ex5 λ(l:Addr) (f b:Int) (zs:List V) (A:List Rw)=>An5 (vs=[.ref l,.int f,.int b]) (H l=some (.lst zs)) (aD H zs (aJ A)) ((A.length<=40/\(∀r∈A,r.sz<=240)/\∀r∈A,r.pn=0)) (∀q ys H',New H H' q (.lst ys)->aD H' ys (aQ (chc f b (gp0 f b A) A))->Q (.ref q) H')
section
variable{K:W.Frag}{l:Addr}{H:Hp}{Q:VK}{E:XK}{zs:List V}{ss:List Stp}{A:List Rw}{f b:Int}{sp:Sp}{t:TA}{σ:L2.St}
instance acn[h:Hat H l (.lst zs)][t:TpA H zs (aQ ss)]:Go (z7 [.ref l] H Q E) (Sd (ss.length<=40/\∀s∈ss,s.1.sz<=240) (∀H',Same H H'->Q (.int (szI ss)) H')):=⟨λs=>⟨l,zs,ss,rfl,h.e,t.e,s.1,s.2⟩⟩
instance Y9[h:Hat H l (.lst zs)][t:TpA H zs (aJ A)]:Go (sX [.ref l,.int f,.int b] H Q E) (Sd (A.length<=40/\(∀r∈A,r.sz<=240)/\∀r∈A,r.pn=0) (∀q ys H',New H H' q (.lst ys)->aD H' ys (aQ (chc f b (gp0 f b A) A))->Q (.ref q) H')):=⟨λs=>⟨l,f,b,zs,A,rfl,h.e,t.e,s.1,s.2⟩⟩
instance af5:Go (YL K sp t σ H Q) (t σ H λxs H1=>Sy K sp xs H1 Q):=⟨id⟩
end
section
variable{P:Program}{w:World}{K:W.Frag}{mg:xC}{base:Heap}{c:Nat->Addr}{aG aA aH aB R CL:Addr}
def Gw(T:Txt K mg c R CL aG aA aH aB):Def P w K mg base CX0 1 "cells_moved" ["steps"] z7:=by
 refine dA T.Fj yN λf cdv A outer s H vs Q E hr h=>?_
 obtain⟨l,zs,ss,rfl,hl,tp,few,k⟩:=h;have nd:=yN.nd;refine⟨_,(aF (aR (aX (jF rfl) rfl T.zN boot_sum (aj (cQ (N:=["step"]) (nt:=1) (fr:=[]) (bJ (pv 0)) (λ_ _ _ _=>(bG (i:=0) (show (["step"]:List Str).Nodup from by decide +kernel) rfl (Or.inl rfl))) (λ_ _ _ _=>dF) (λ_ _ _ _=>(aO (cD (K:=K) rfl) (pv 0) au (λ_ _=>rfl)))) ao)))),?_⟩;clear nd ;rw[stE]
 try dsimp only[cI,bO]
 have jx:=om hl;have i_:=dN.mk tp;have F:=SH.n0 H;have zl:zs.length=ss.length:=by rw[tp.1,cg]
 have Xv:=few.1
 repeat k_meth
 refine gq (F:=λr=>r.getD 2 .non) aM (TpA.e (rs:=aQ ss)) (by lia) rfl (λq r H1 R hr s1 e1 kk=>?_) ?_
 ·clear F;have F:=SH.n0 H1;obtain⟨s,_,rfl⟩:=vT.mp hr;have aa7:=om e1
  repeat k_meth
  exact kk _ (Same.refl _)
 ·have e5:(aQ ss).map (λr=>r.getD 2 V.non)=(ss.map λs=>((s.1.sz:Nat):Int)).map V.int:=by
   unfold aQ;rw[List.map_map,List.map_map]
   rfl
  rw[e5];have side:(∀n∈ss.map λs=>((s.1.sz:Nat):Int),0<=n/\n<=1000000)/\(ss.map λs=>((s.1.sz:Nat):Int)).length<=1000000:=by
   refine⟨λn hn=>?_,by rw[wE];lia⟩;obtain⟨r,hr,rfl⟩:=vT.mp hn;have:=few.2 r hr
   lia
  repeat k_meth
  exact k _ F.sm
def Jt(T:Txt K mg c R CL aG aA aH aB):Def P w K mg base CX0 3 "cheapest_joining" ["blocks","first","behind"] sX:=by
 refine dA T.vW sG λf cdv A outer s H vs Q E hr h=>?_
 obtain⟨l,f,b,zs,A,rfl,hl,tp,side,k⟩:=h;have nd:=sG.nd;refine⟨_,(aq (psz 3 nd (bC ao))
  (aq (cU PassesOwn.never rfl (fK rfl T.fW (aj (aW bQ (aX bK rfl T.dz boot_len (aj (pv 0) ao)) au) ao)) (pgz 4 nd) (aF (cT (cB (pv 3) (aW dG (aK (Ma T) hr (aj (cY c7 (pv 0) eY (dY (pv 4))) (aj (pv 1) ao))) (aK (Y7 T) hr (aj (cY c7 (pv 0) (dY (pv 4)) eY) (aj (pv 2) ao))))))))
  (aF (aR (Xb (Gw T) hr rfl T.v7 (aj (pv 3) ao)))))),?_⟩
 clear nd;rw[stE]
 try dsimp only[cI,bO]
 have jx:=om hl;have i_:=dN.mk tp;have F:=SH.n0 H;obtain⟨few,fsz,un⟩:=side;have zl:zs.length=A.length:=by rw[tp.1,bw]
 repeat k_meth
 rename Addr=>ch
 rw[show ((zs.length:Int)+1).toNat=A.length+1 by lia];refine lG (λi σ' H'=>Ex3 λ(o4:Option V) (qs:List Addr) (YS:List (List V))=>An4 (σ'=[some (.ref l),some (.int f),some (.int b),some (.ref ch),o4]) (qs.length=i) (YS.length=i) (SH H [] H' ((ch,.lst (qs.map V.ref))::hsR qs YS) [SM YS ((List.range i).map λg=>aQ (chc f b g A))])) ⟨_,[],[],rfl,rfl,rfl,F.jt ⟨rfl,λj ys rs e=>by simp at e⟩⟩ ?_ ?_
 ·clear F;rintro i σ' H' hi ⟨_,qs,YS,rfl,ql,yl,F⟩;have c1:aaE zs none (some (i:Int)) (zs.take i):=⟨zV⟩;have c2:aaE zs (some (i:Int)) none (zs.drop i):=⟨Gi⟩;have Ut:=dN.mk (XD tp i);have abe:=dN.mk (XF tp i);have l1:(A.take i).length<=40:=by rw[oQ];lia
  have l2:(A.drop i).length<=40:=by rw[zzA];lia
  have d1:=mQ f (A.take i);have d2:=tV b (A.drop i).reverse;rw[List.length_reverse] at d2;have qll:(qs.map V.ref).length<sizeLine:=by rw[wE,sizeLine_eq];lia
  repeat k_meth
  rename_i y1 _ _ _ _ _ _
  rename List V=>y2
  have t1:aD H_ (y1++y2) (aQ (chc f b i A)):=by
   have:=(F.tps (ys:=y1) (rs:=aQ (gV f (A.take i)).1) (by simp)).app (F.tps (ys:=y2) (rs:=aQ (upF b (A.drop i).reverse).1) (by simp));rw[<- abd un];unfold aQ at this ⊢;rw[List.map_append];exact this
  have ri:=F.im (SM YS ((List.range i).map λg=>aQ (chc f b g A))) (by simp);have F3:SH H [] H_ ((p_,.lst (y1++y2))::(ch,.lst (qs.map V.ref++[V.ref p_]))::hsR qs YS) []:=F.sub SbC.s SbI.s;have F4:SH H [] H_ ((ch,.lst ((qs++[p_]).map V.ref))::hsR (qs++[p_]) (YS++[y1++y2])) []:=by
   refine SH.perm F3 ?_;rw[Ea (by lia),List.map_append];exact(List.Perm.cons _ (List.perm_append_singleton _ _)).trans (List.Perm.swap ..)
  refine⟨_,qs++[p_],YS++[y1++y2],rfl,by simp[ql],by simp[yl],F4.jt ⟨by simp[yl],λj ys rs e1 e2=>?_⟩⟩;rw[List.range_succ,List.map_append] at e2;by_cases hj:j<i
  ·rw[yY (by lia)] at e1;rw[List.getElem?_append_left (by simpa using hj)] at e2;exact ri.2 j ys rs e1 e2
  ·have hj2:=(jS.mp e1).1;rw[yB,List.length_singleton] at hj2;have:j=i:=by lia
   subst this;rw[nE (by lia),yl,Nat.sub_self] at e1;rw[List.getElem?_append_right (by simp)] at e2;simp at e1 e2;rw[<- e1,<- e2];exact t1
 ·clear F;rintro σ' H' ⟨_,qs,YS,rfl,ql,yl,F⟩
  repeat k_meth
  have ri:=F.im (SM YS ((List.range (A.length+1)).map λg=>aQ (chc f b g A))) (by simp);have one:∀i,i<A.length+1->∃q ys,qs[i]?=some q/\YS[i]?=some ys/\(q,HO.lst ys)∈((ch,HO.lst (qs.map V.ref))::hsR qs YS)/\aD H' ys (aQ (chc f b i A)):=λi hi=>by
   have h1:qs[i]?=some (qs[i]'(by lia)):=by simp
   have h2:YS[i]?=some (YS[i]'(by lia)):=by simp
   exact⟨_,_,h1,h2,zD _ (Iz h1 h2),ri.2 i _ _ h2 (by rw[wS,List.getElem?_range hi];rfl)⟩
  have side:∀g,(chc f b g A).length<=40/\∀s∈chc f b g A,s.1.sz<=240:=λg=>⟨by have:=XC f b g A;lia,λs hs=>fsz _ (Mi hs)⟩
  refine⟨ch,qs.map V.ref,λi=>pri (jn f b i A),λH2=>Same H' H2,rfl,by rw[wE];lia,Same.refl _,λH2 s=>s.seq (SqL.of aM),λi v H2 hv s=>?_,λi v H2 hv best s=>?_⟩
  ·have hi:=(jS.mp hv).1;rw[wE] at hi;obtain⟨q,ys,h1,h2,hm,tq⟩:=one i (by lia);rw[wS,h1] at hv;cases hv;exact⟨q,ys,chc f b i A,rfl,s _ _ (F.at' _ hm),tq.same s,side i,λH3 s3=>⟨by unfold szI;rw[Xf],s.trans s3⟩⟩
  ·have hi:=(jS.mp hv).1;rw[wE] at hi;obtain⟨q,ys,h1,h2,hm,tq⟩:=one i (by lia);rw[wS,h1] at hv;cases hv;have e:i=gp0 f b A:=S6.one ⟨by lia,λj hj=>best j (by rw[wE];lia)⟩ (YQ _ _);have F2:=F.same s;have tq2:=tq.same s;rw[e] at tq2;exact k q ys H2 (F2.nw hm) tq2
end
open M22 M82 M87
theorem abf{α:Type}{key:α->Nat}:∀{as bs:List α},as.Perm bs->as.Pairwise (λr s=>key r<=key s)->bs.Pairwise (λr s=>key r<key s)->as=bs:=by
 intro as
 induction as with
 | nil=>intro bs p _ _;exact(List.nil_perm.mp p).symm
 | cons a t ih =>
  intro bs p ha hb;cases bs with
  | nil=>exact absurd p.length_eq (by simp)
  | cons b u =>
   obtain rfl:a=b:=by
    rcases vS.mp (p.mem_iff.mp (zC (a:=a) (l:=t))) with h|h
    ·exact h
    ·have h1:=(mN.mp hb).1 a h;rcases vS.mp (p.mem_iff.mpr (zC (a:=b) (l:=u))) with h2|h2
     ·exact h2.symm
     ·have:=(mN.mp ha).1 b h2
      lia
   rw[ih (List.perm_cons a |>.mp p) (mN.mp ha).2 (mN.mp hb).2]
theorem Ju{H:Hp}{rs as:List Stp}{ys zs:List V}(t:aD H ys (aQ rs))(p:rs.Perm as)(ha:as.Pairwise λr s=>r.1.st<s.1.st)(s:lJ (rs.map λr=>((r.1.st:Nat):Int)) ys zs):aD H zs (aQ as):=by
 obtain⟨ps,pp,rfl,pw⟩:=s;have hl:ys.length=rs.length:=by rw[t.1,cg]
 have ez:(rs.map λr=>((r.1.st:Nat):Int)).zip ys=(rs.zip ys).map λp=>(((p.1.1.st:Nat):Int),p.2):=by
  rw[List.zip_map_left]
  rfl
 rw[ez] at pp;obtain⟨qs,pq,rfl⟩:=rZ pp;have pf:(qs.map Prod.fst).Perm rs:=by
  have:=pq.map Prod.fst;rw[List.map_fst_zip (by lia)] at this;exact this
 have hq:qs.map Prod.fst=as:=by
  refine abf (key:=λr:Stp=>r.1.st) (pf.trans p) ?_ ha;rw[List.pairwise_map] at pw ⊢;exact pw.imp λh=>by lia
 have each:∀x∈qs,∃q,x.2=.ref q/\H q=some (.tup (stepV x.1)):=λx hx=>by
  obtain⟨i,hi,e⟩:=List.getElem_of_mem (pq.mem_iff.mp hx);rw[List.length_zip] at hi;rw[List.getElem_zip] at e;obtain⟨q,e3,e4⟩:=t.2 i (stepV rs[i]) (by unfold aQ;rw[List.getElem?_map,List.getElem?_eq_getElem (by lia)];rfl);rw[qA (by lia)] at e3;exact⟨q,by rw[<- e];exact nI e3,by rw[<- e];exact e4⟩
 refine⟨by rw[cg,<- hq,wE,wE,wE],λj r e=>?_⟩;unfold aQ at e;rw[<- hq,List.map_map,wS] at e;cases e5:qs[j]? with
 | none=>rw[e5] at e;cases e
 | some x =>
  rw[e5] at e;cases e;obtain⟨q,e6,e7⟩:=each x (yT e5);exact⟨q,by rw[List.map_map,wS,e5];show some x.2=_;rw[e6],e7⟩
def ltS(r:List V):Bool:=match r with
 | [_,.int s,_,.int t]=>decide (t<s)
 | _=>false
def gtS(r:List V):Bool:=match r with
 | [_,.int s,_,.int t]=>decide (s<t)
 | _=>false
def Mj(M:List Stp):(aQ M).filter ltS=aQ (ml M):=by
 unfold aQ ml;rw[List.filter_map]
 rfl
def Ml(M:List Stp):(aQ M).filter gtS=aQ (mr M):=by
 unfold aQ mr;rw[List.filter_map]
 rfl
def Y_(L:List Sp2):ml (mv L)=ml L:=by
 unfold ml mv;rw[List.filter_filter];refine List.filter_congr λs _=>?_
 by_cases q:s.2<(s.1.st:Int)
 ·simp[q];lia
 ·simp[q]
def Za(L:List Sp2):mr (mv L)=mr L:=by
 unfold mr mv;rw[List.filter_filter];refine List.filter_congr λs _=>?_
 by_cases q:(s.1.st:Int)<s.2
 ·simp[q];lia
 ·simp[q]
instance af6{K:W.Frag}{ta:TA}{σ:L2.St}{H:Hp}{Q:VK}:Go (Ym K ta σ H Q) (ta σ H λvs H1=>∃a xs,vs=[.ref a]/\SqL K H1 a xs/\∀l H',New H1 H' l (.lst xs.reverse)->Q (.ref l) H'):=⟨id⟩
instance af7{K:W.Frag}{H:Hp}{Z:Addr->Hp->Prop}{a:Addr}{xs:List V}[h:SqA K H a xs]:Go (∃a' xs',[V.ref a]=[.ref a']/\SqL K H a' xs'/\∀l H',New H H' l (.lst xs'.reverse)->Z l H') (∀l H',New H H' l (.lst xs.reverse)->Z l H'):=⟨λk=>⟨a,xs,rfl,h.e,k⟩⟩
structure Mp(ss:List Stp)(Jl:List Sp2):Prop where
 few:ss.length<=40
 pm:ss.Perm (mv Jl)
 up:(Jl.map (·.1)).Pairwise λr s=>r.st<s.st
def Mp.aew{ss:List Stp}{Jl:List Sp2}(h:Mp ss Jl):(mv Jl).Pairwise λr s=>r.1.st<s.1.st:=(List.pairwise_map.mp h.up).sublist List.filter_sublist
def Uu(P:Addr)(pos:Pos)(qual:Str):Sp:=λvs H Q _=>Ex5 λ(l:Addr) (zs:List V) (ss:List Stp) (Jl:List Sp2) (ps:xF)=>An7 (vs=[.ref l]) (SH H [P] H [(P,.tbl ps)] [cL pos qual ps]) (l≠P) (H l=some (.lst zs)) (aD H zs (aQ ss)) (Mp ss Jl) (∀q ys ps' H',SH H [P] H' [(q,.lst ys),(P,.tbl ps')] [.tps ys (aQ (oF Jl)),cL pos qual ps']->Q (.ref q) H')
instance aco{K:W.Frag}{H:Hp}{Q:VK}{l f:Addr}{ys:List V}{ss:List Stp}{H0:Hp}{M:List Addr}{L:List (Addr×HO)}{I:List Im}[F:SH H0 M H L I][h:SqA K H l ys][t:TpA H ys (aQ ss)][m:aaz I f]:Go (Iu K [.ref l] (.ref f) H Q) (Sd (ss.length<64) (∀D zs H',New H H' D (.lst zs)->lJ (ss.map λr=>((r.1.st:Nat):Int)) ys zs->Q (.ref D) H')):=⟨λs=>by
 have hl:ys.length=ss.length:=by rw[t.e.1,cg]
 refine⟨l,f,ys,ss.map λr=>((r.1.st:Nat):Int),rfl,rfl,F.im _ m.m,h.e,by rw[wE,hl],by rw[hl];exact s.1,λi v k hv hk=>?_,s.2⟩;obtain⟨r,q,e1,e2,e3⟩:=fC t.e hv;obtain⟨x,e4,rfl⟩:=Ug e1;rw[wS,e4] at hk;cases hk;exact⟨q,_,e2,e3,rfl⟩⟩
abbrev cG:Pos:=⟨252,31,252,51⟩
abbrev bY:Str := "in_moving_order.<locals>.<lambda>"
section
variable{P:Program}{w:World}{K:W.Frag}{mg:xC}{base:Heap}{c:Nat->Addr}{aG aA aH aB R CL:Addr}
def XH(T:Txt K mg c R CL aG aA aH aB)(B:Bm mg base):Def P w K mg base CX0 1 "in_moving_order" ["steps"] (Uu aB cG bY):=by
 refine W6 T.Lw Eu (λvs H Q E h=>?_) (λ_ _ _ _ _ _=>el1 λ_=>rfl) (λf A outer s H vs Q E hr h=>?_)
 ·obtain⟨l,zs,ss,Jl,ps,rfl,_⟩:=h
  rfl
 ·obtain⟨l,zs,ss,Jl,ps,rfl,F,hne,hl,tp,side,k⟩:=h;have nd:=Eu.nd;refine⟨_,(aq (psz 1 nd (Ry (uO rfl hr) rfl T.vZ boot_sorted (aj (pv 0) ao) (RV (qual:=bY) B rfl T.zH (by with_unfolding_all rfl) ⟨rfl,rfl,rfl,by with_unfolding_all rfl,by decide +kernel,by decide⟩)))
   (aq (gH (i:=2) nd rfl (Or.inl rfl) (N:=["step"]) (nt:=1) (fr:=[]) (bJ (pv 1)) (λ_ _ _ _=>(bG (i:=0) (show (["step"]:List Str).Nodup from by decide +kernel) rfl (Or.inl rfl))) (λ_ _ _ _=>d9 (aN jd (aO (cD (K:=K) rfl) (pv 0) au (λ_ _=>rfl)) (aO (cD (K:=K) rfl) (pv 0) au (λ_ _=>rfl)) (aY _))) (λ_ _ _ _=>(pv 0)))
   (aq (gH (i:=3) nd rfl (Or.inl rfl) (N:=["step"]) (nt:=1) (fr:=[]) (bJ (pv 1)) (λ_ _ _ _=>(bG (i:=0) (show (["step"]:List Str).Nodup from by decide +kernel) rfl (Or.inl rfl))) (λ_ _ _ _=>d9 (aN eH (aO (cD (K:=K) rfl) (pv 0) au (λ_ _=>rfl)) (aO (cD (K:=K) rfl) (pv 0) au (λ_ _=>rfl)) (aY _))) (λ_ _ _ _=>(pv 0)))
   (aF (aR (aW dG (pv 2) (n6 rfl rfl T.iU rfl T.gC (aj (pv 3) ao)))))))),?_⟩
  clear nd ;rw[stE]
  try dsimp only[cI,bO]
  have jx:=Old.mk (M:=[aB]) hl (nm1 hne);replace F:=F.d8 tp;have few:=side.few;have ml2:(mv Jl).length=ss.length:=side.pm.length_eq.symm
  repeat k_meth
  intro f_ ps_
  repeat k_meth
  intro D zs2 H8 n8 so;have t8:=Ju (H:=H_) TpA.e side.pm side.aew so;have zl2:zs2.length=ss.length:=by rw[t8.1,cg,ml2]
  replace F:=F.newR n8 (t8.same n8.s)
  repeat k_meth
  refine mF (P:=ltS) (fvs:=[]) aM (TpA.e (rs:=aQ (mv Jl))) (by lia) rfl (λi ys H'=>aD H' ys (((aQ (mv Jl)).take i).filter ltS)) (λi ys H1 H2 s t=>gM s t) aD.nil (λi q1 r H' R e1 s1 e2 kk=>?_) (λi q1 r ys H' R e1 hp s1 e2 g kk=>?_) (λi r ys H' e1 hp g=>by rw[bZ e1,List.filter_append,List.filter_cons_of_neg (by simp[hp]),List.filter_nil,List.append_nil];exact g) λajS Uv ajT n1 g=>?_
  ·clear F;have F:SH H' [] H' [] []:=SH.nil;obtain⟨s,_,rfl⟩:=vT.mp (yT e1);have iy:=om e2;have kk:∀H2,Same H' H2->R (decide (s.2<(s.1.st:Int))) H2:=kk
   repeat k_meth
   exact kk _ (Same.refl _)
  ·repeat k_meth
   refine kk _ _ (Same.refl _) ?_;rw[bZ e1,List.filter_append,List.filter_cons_of_pos hp,List.filter_nil];exact aD.snoc g e2
  rw[nS (by rw[cg];lia),Mj,Y_] at g;replace F:=F.newR n1 g;have ajU:Uv.length<=40:=by
   rw[g.1,cg];have:=List.length_filter_le (λs:Sp2=>decide (s.2<(s.1.st:Int))) Jl;have a2:=Y_ Jl;have a3:=gE List.length a2;have a4:=List.length_filter_le (λs:Sp2=>decide (s.2<(s.1.st:Int))) (mv Jl);unfold ml at a3 ⊢
   lia
  repeat k_meth
  refine mF (P:=gtS) (fvs:=[]) aM (TpA.e (rs:=aQ (mv Jl))) (by lia) rfl (λi ys H'=>aD H' ys (((aQ (mv Jl)).take i).filter gtS)) (λi ys H1 H2 s t=>gM s t) aD.nil (λi q1 r H' R e1 s1 e2 kk=>?_) (λi q1 r ys H' R e1 hp s1 e2 g kk=>?_) (λi r ys H' e1 hp g=>by rw[bZ e1,List.filter_append,List.filter_cons_of_neg (by simp[hp]),List.filter_nil,List.append_nil];exact g) λajV O2 ajW n1 g=>?_
  ·clear F;have F:SH H' [] H' [] []:=SH.nil;obtain⟨s,_,rfl⟩:=vT.mp (yT e1);have iy:=om e2;have kk:∀H2,Same H' H2->R (decide ((s.1.st:Int)<s.2)) H2:=kk
   repeat k_meth
   exact kk _ (Same.refl _)
  ·repeat k_meth
   refine kk _ _ (Same.refl _) ?_;rw[bZ e1,List.filter_append,List.filter_cons_of_pos hp,List.filter_nil];exact aD.snoc g e2
  rw[nS (by rw[cg];lia),Ml,Za] at g;replace F:=F.newR n1 g;have ahZ:O2.length<=40:=by
   rw[g.1,cg];have:=List.length_filter_le (λs:Sp2=>decide ((s.1.st:Int)<s.2)) Jl;have a2:=Za Jl;have a3:=gE List.length a2;have a4:=List.length_filter_le (λs:Sp2=>decide ((s.1.st:Int)<s.2)) (mv Jl);unfold mr at a3 ⊢
   lia
  have rl:O2.reverse.length<=40:=by rw[List.length_reverse];exact ahZ
  have rl2:Uv.length+O2.reverse.length<=sizeLine:=by rw[sizeLine_eq];lia
  repeat k_meth
  have t9:aD H_ (Uv++O2.reverse) (aQ (oF Jl)):=by
   have:=(F.tps (ys:=Uv) (rs:=aQ (ml Jl)) (by simp)).app (F.tps (ys:=O2) (rs:=aQ (mr Jl)) (by simp)).rev;unfold oF aQ at *;rw[List.map_append,List.map_reverse];exact this
  exact k _ (Uv++O2.reverse) ps_ _ ((F.d8 t9).sub SbC.s SbI.s)
end
open M22 M82 M87
instance ah0{H0 H:Hp}{M:List Addr}{L:List (Addr×HO)}{I:List Im}{r:List V}{Z:Addr->Hp->Prop}[F:SH H0 M H L I]:Go (∀q H',Same H H'->H' q=some (.tup r)->Z q H') (∀H' q,SH H0 M H' L (.tup q r::I)->Z q H'):=⟨λk q H' s e=>k H' q ((F.same s).uM e)⟩
def chW(w:S3):List Stp:=chc w.1 w.2.1 (gp0 w.1 w.2.1 w.2.2) w.2.2
def oR(n:Nat)(rs:List Rw)(i:Nat):List Stp:=((cC n 0 [] rs).take i).flatMap chW
def Jof(n:Nat)(rs:List Rw):List Sp2:=fu n 0 [] rs
theorem Mq{α β:Type}{f g:α->List β}(h:∀x,(f x).Perm (g x)):∀l:List α,(l.flatMap f).Perm (l.flatMap g)
 | []=>List.Perm.refl _
 | x::l=>by rw[List.flatMap_cons,List.flatMap_cons];exact(h x).append (Mq h l)
def Cq(n:Nat)(rs:List Rw):(Jof n rs).map (·.1)=rs:=Ei n rs 0 []
def qI(n:Nat)(rs:List Rw):(Jof n rs).length=rs.length:=by have:=gE List.length (Cq n rs);rwa [wE] at this
def qJ(n:Nat)(rs:List Rw):((cC n 0 [] rs).flatMap chW).Perm (mv (Jof n rs)):=by
 unfold Jof;rw[S8];exact Mq (λw=>pX ..) _
def Gx(n:Nat)(rs:List Rw)(i:Nat):(oR n rs i).length<=rs.length:=by
 have h1:(oR n rs i).length<=((cC n 0 [] rs).flatMap chW).length:=by
  unfold oR;have:=gE (λl:List S3=>(l.flatMap chW).length) (jI i (cC n 0 [] rs));simp only[List.flatMap_append,List.length_append] at this
  lia
 rw[(qJ n rs).length_eq] at h1;have:=wF (Jof n rs);rw[qI] at this
 lia
def Gy(n:Nat)(rs:List Rw){i:Nat}(h:(cC n 0 [] rs).length<=i):oR n rs i=(cC n 0 [] rs).flatMap chW:=by unfold oR;rw[List.take_of_length_le h]
def rM{n:Nat}{rs:List Rw}{i:Nat}{w:S3}(h:(cC n 0 [] rs)[i]?=some w):oR n rs (i+1)=oR n rs i++chW w:=by
 unfold oR;rw[bB h,List.flatMap_append,List.flatMap_singleton]
def abg{n:Nat}{rs:List Rw}(ok:OkA 0 n rs):rs.Pairwise λr s=>r.st<s.st:=ok.asc.imp_of_mem λ{a b} ha hb h=>by have:=ok.bd a ha;lia
def abh{n:Nat}{rs:List Rw}(ok:OkA 0 n rs)(few:rs.length<=40):Mp ((cC n 0 [] rs).flatMap chW) (Jof n rs):=⟨by
 rw[(qJ n rs).length_eq];have:=wF (Jof n rs);rw[qI] at this
 lia,qJ n rs,by rw[Cq];exact abg ok⟩
def XJ(n:Nat)(rs:List Rw):szI ((cC n 0 [] rs).flatMap chW)=pri (Jof n rs):=by
 unfold szI pri;exact ad4 (qJ n rs)
theorem qK(L:List Sp2):(oF L).length<=L.length:=by
 unfold oF ml mr;rw[yB,List.length_reverse]
 induction L with
 | nil=>exact uC _
 | cons s L ih =>
  by_cases q:s.2<(s.1.st:Int)
  ·rw[List.filter_cons_of_pos (by simpa using q),List.filter_cons_of_neg (by simp;lia)];simp only[List.length_cons];lia
  ·by_cases q2:(s.1.st:Int)<s.2
   ·rw[List.filter_cons_of_neg (by simpa using q),List.filter_cons_of_pos (by simpa using q2)];simp only[List.length_cons];lia
   ·rw[List.filter_cons_of_neg (by simpa using q),List.filter_cons_of_neg (by simpa using q2)];simp only[List.length_cons];lia
def XM{n:Nat}{rs:List Rw}(ok:OkA 0 n rs){i:Nat}{s:Stp}(h:s∈oR n rs i):s.1∈rs:=by
 unfold oR at h;obtain⟨w,hw,hs⟩:=List.mem_flatMap.mp h;have:=Bs ok w (oB hw);have m:=Mi hs;rw[<- this.flt] at m;exact(List.mem_filter.mp m).1
theorem Uw{n:Nat}{rs:List Rw}(ok:OkA 0 n rs){i:Nat}{w:W3}(h:(qD n rs)[i]?=some w):∃x:S3,(cC n 0 [] rs)[i]?=some x/\w.1=x.1/\w.2.1=x.2.1/\w.2.2=x.2.1-x.1-szs x.2.2/\rs.filter (within x.1 x.2.1)=x.2.2/\S7 rs n x:=by
 have e:=Ja n rs 0 [];rw[fV,<- rJ ok] at e;rw[<- e,wS] at h;cases e2:(cC n 0 [] rs)[i]? with
 | none=>rw[e2] at h;cases h
 | some x =>
  rw[e2] at h;cases h;have so:=Bs ok x (yT e2);exact⟨x,rfl,rfl,rfl,rfl,so.flt,so⟩
def Ux{n:Nat}{rs:List Rw}(ok:OkA 0 n rs):(qD n rs).length=(cC n 0 [] rs).length:=by
 have e:=gE List.length (Ja n rs 0 []);rw[fV,<- rJ ok,wE] at e;exact e.symm
def O3(CL P:Addr)(pos:Pos)(qual:Str):Sp:=λvs H Q _=>Ex7 λ(x p dx:Addr) (n:Nat) (zs:List V) (rs:List Rw) (ps:xF)=>An9 (vs=[.ref x]) (SH H [P] H [(P,.tbl ps)] [cL pos qual ps]) (x≠P) (p≠P) (H x=some (.ins CL dx (lF (n:Nat) p))) (H p=some (.lst zs)) (aD H zs (aJ rs)) ((Lay n rs/\Asc rs/\n<=240)) (∀t m ys ps' H',SH H [P] H' [(m,.lst ys),(P,.tbl ps')] [.tup t [.int (pri (Jof n rs)),.ref m],.tps ys (bT (oF (Jof n rs))),cL pos qual ps']->Q (.ref t) H')
section
variable{P:Program}{w:World}{K:W.Frag}{mg:xC}{base:Heap}{c:Nat->Addr}{aG aA aH aB R CL:Addr}
def Gz(T:Txt K mg c R CL aG aA aH aB)(B:Bm mg base):Def P w K mg base CX0 5 "tidied" ["layout"] (O3 CL aB cG bY):=by
 refine dA T.Fl yO λf cdv A outer s H vs Q E hr h=>?_
 obtain⟨x,p,dx,n,zs,rs,ps,rfl,F,hnx,hnp,hx,hp,tp,side,k⟩:=h;have nd:=yO.nd;refine⟨_,(aq (psz 1 nd (bC ao))
  (aq (cU PassesOwn.never rfl (bJ (aK (sW T) hr (aj (pv 0) ao))) (fD rfl (aV (pgz 2 nd) (aV (pgz 3 nd) (aV (pgz 4 nd) cW)))) (aF (cT (Ku (pv 1) (aK (Jt T) hr (aj (aK (zX T) hr (aj (pv 0) (aj (pv 2) (aj (pv 3) ao)))) (aj (pv 2) (aj (pv 3) ao))))))))
  (aF (aR (bD (aj (aK (Gw T) hr (aj (pv 1) ao)) (aj (aK (Ce T) hr (aj (aK (XH T B) hr (aj (pv 1) ao)) ao)) ao))))))),?_⟩
 clear nd;rw[stE]
 try dsimp only[cI,bO]
 have qz:=Old.mk (M:=[aB]) hx (nm1 hnx);have m6:=Old.mk (M:=[aB]) hp (nm1 hnp);replace F:=F.d8 tp;obtain⟨ly,as,ajX⟩:=side;have ok:=Y8 ly as;have few:=ly.few;have nH:∀r∈rs,r.sz<=240:=λr hr=>by have:=(ly.good r hr).le;lia
 have fs:rs.length<=40/\∀r∈rs,r.sz<=240:=⟨few,nH⟩
 repeat k_meth
 rename_i _ st
 rename List V=>yw
 rename Addr=>sw
 have wl:yw.length=(qD n rs).length:=by assumption
 refine eE (xs:=yw) (λi σ' H'=>Ex4 λ(o2 o3 o4:Option V) (ys:List V)=>An3 (σ'=[some (.ref x),some (.ref st),o2,o3,o4]) (ys.length=(oR n rs i).length) (SH H [aB] H' [(st,.lst ys),(sw,.lst yw),(aB,.tbl ps)] [.tps ys (aQ (oR n rs i)),.tps yw (dB (qD n rs)),.tps zs (aJ rs),cL cG bY ps])) ⟨_,_,_,[],rfl,rfl,(F.d8 (ys:=[]) (rs:=aQ []) aD.nil).sub SbC.s (by simp[oR])⟩ ?_ ?_ ?_
 ·clear F;rintro i σ' H' _ ⟨_,_,_,ys,rfl,yl,F⟩;exact SqA.e
 ·clear F;rintro i v σ' H' hv ⟨_,_,_,ys,rfl,yl,F⟩;obtain⟨w,q1,e1,rfl,e2⟩:=Cj (H:=H') (ws:=qD n rs) (F.tps (by simp)) hv;replace F:=F.uM e2;obtain⟨x3,e3,w1,w2,w3,flt,so⟩:=Uw ok e1;have al:=Gx n rs i;have al2:=Gx n rs (i+1);rw[rM e3,yB] at al2;rw[show xH w=[V.int x3.1,V.int x3.2.1,V.int w.2.2] by rw[<- w1,<- w2]] at F;have sd1:x3.2.2.length<=40/\(∀r∈x3.2.2,r.sz<=240)/\∀r∈x3.2.2,r.pn=0:=by
   refine⟨?_,λr hr=>?_,so.un⟩
   ·rw[<- flt];exact rX (List.length_filter_le _ _) few
   ·rw[<- flt] at hr;exact nH r (List.mem_filter.mp hr).1
  repeat k_meth
  rw[flt] at F ⊢
  repeat k_meth
  have yl2:ys_.length=(chW x3).length:=by assumption
  refine sd (by rw[sizeLine_eq];lia) ?_
  repeat k_meth
  have t1:aD H_ (ys++ys_) (aQ (oR n rs (i+1))):=by
   have:=(F.tps (ys:=ys) (rs:=aQ (oR n rs i)) (by simp)).app (F.tps (ys:=ys_) (rs:=aQ (chW x3)) (by simp[chW]));rw[rM e3];unfold aQ at this ⊢;rw[List.map_append];exact this
  exact⟨_,_,_,ys++ys_,rfl,by rw[rM e3,yB,yB,yl,yl2],(F.d8 t1).sub SbC.s SbI.s⟩
 ·clear F;rintro σ' H' ⟨_,_,_,ys,rfl,yl,F⟩;rw[Gy n rs (by rw[wl,Ux ok];exact uC _)] at F yl;have oo:=abh ok few;have o1:=oo.few;have o2:((cC n 0 [] rs).flatMap chW).length<=40/\∀s∈(cC n 0 [] rs).flatMap chW,s.1.sz<=240:=⟨o1,λs hs=>by
   rw[<- Gy n rs (uC _)] at hs;exact nH _ (XM ok hs)⟩
  have jl:=qK (Jof n rs);rw[qI] at jl
  repeat k_meth
  have F0:SH H [aB] H_ [(aB,.tbl ps),(st,.lst ys)] [.tps ys (aQ ((cC n 0 [] rs).flatMap chW)),cL cG bY ps]:=F.sub SbC.s SbI.s;have F1:SH H [aB] H_ ([(aB,.tbl ps)]++[(st,.lst ys)]) [.tps ys (aQ ((cC n 0 [] rs).flatMap chW)),cL cG bY ps]:=F0;refine⟨st,ys,(cC n 0 [] rs).flatMap chW,Jof n rs,ps,rfl,(SH.cut F1 rfl).jt (F1.im (cL cG bY ps) (by simp)),SH.neC (F:=F0),aM,TpA.e,oo,λq yq ps' H2 G=>?_⟩;have F2:=SH.over F1 G rfl;clear F F0 F1;simp only[List.cons_append,List.nil_append] at F2;have F:SH H [aB] H2 _ _:=F2;clear F2;rw[XJ]
  repeat k_meth
  rename List V=>ym
  rename Addr=>tA
  exact k tA p_ ym ps' _ (F.sub SbC.s SbI.s)
end
open M22 M82 M87
theorem Uy(A:List Rw):∀(a:Int)(k:Nat),(plc a A)[k]?=A[k]?.map λr=>(r,a+szs (A.take k)):=by
 induction A with
 | nil=>intro a k;simp[plc]
 | cons r A ih =>
  intro a k;cases k with
  | zero=>simp[plc,fV]
  | succ k =>
   rw[plc,List.getElem?_cons_succ,List.getElem?_cons_succ,ih,List.take_succ_cons,fj]
   congr 1
   funext s
   congr 1
   lia
def atJ(f b:Int)(g:Nat)(A:List Rw)(k:Nat):Int:=if k<g then f+szs (A.take k) else b-szs (A.drop k)
def aex{f b:Int}{g k:Nat}{A:List Rw}{r:Rw}(hg:g<=A.length)(h:A[k]?=some r):(jn f b g A)[k]?=some (r,atJ f b g A k):=by
 have hk:=(jS.mp h).1;unfold jn atJ;by_cases q:k<g
 ·rw[zS q,yY (by rw[Cp,oQ];lia),Uy,List.getElem?_take,zS q,h,List.take_take,Nat.min_eq_left (by lia)]
  rfl
 ·rw[yA q,nE (by rw[Cp,oQ];lia),Uy,Cp,oQ,Nat.min_eq_left hg,List.getElem?_drop,show g+(k-g)=k by lia,h];show some (r,_)=_
  congr 2
  have e1:=uR (A.drop g) (k-g);rw[List.drop_drop,show g+(k-g)=k by lia] at e1
  lia
def atK(f b:Int)(g:Nat)(A:List Rw)(k:Nat):Int:=if k<=g then f+szs (A.take k) else b-szs (A.drop k)
def Uz{A:List Rw}{k:Nat}{r:Rw}(h:A[k]?=some r):szs (A.drop k)=(r.sz:Int)+szs (A.drop (k+1)):=by rw[Ck h,fj]
def abj{A:List Rw}{k:Nat}{r:Rw}(h:A[k]?=some r):szs (A.take (k+1))=szs (A.take k)+(r.sz:Int):=by rw[bB h,Bq,fj,fV];lia
def abk{f b:Int}{g:Nat}{A:List Rw}{r:Rw}(h:A[g]?=some r):atK f b g A g+(b-f-szs A)=atJ f b g A g:=by
 unfold atK atJ;rw[zS (uC _),yA (qS _)];have:=uR A g
 lia
def abl{f b:Int}{g k:Nat}{A:List Rw}(h:¬ k=g):atK f b g A k=atJ f b g A k:=by
 unfold atK atJ;by_cases q:k<g
 ·rw[zS q,zS (by lia)]
 ·rw[yA q,yA (by lia)]
def GC{f b:Int}{g k:Nat}{A:List Rw}{r:Rw}(h:A[k]?=some r):atJ f b g A k+(r.sz:Int)=atK f b g A (k+1):=by
 unfold atK atJ;have e1:=Uz h;have e2:=abj h;by_cases q:k<g
 ·rw[zS q,zS (by lia)];lia
 ·rw[yA q,yA (by lia)];lia
def abm(rs:List Rw)(f b fr:Int)(A:List Rw):Prop:=rs.length<=40/\(∀r∈rs,r.sz<=240)/\rs.filter (within f b)=A/\fr=b-f-szs A
def rN:Sp:=λvs H Q _=>Ex9 λ(l t:Addr) (zs:List V) (rs A:List Rw) (f b fr:Int) (g:Nat)=>An6 (vs=[.ref l,.ref t,.int (g:Nat)]) (H l=some (.lst zs)) (aD H zs (aJ rs)) (H t=some (.tup [.int f,.int b,.int fr])) ((abm rs f b fr A/\g<=A.length)) (∀q ys H',New H H' q (.lst ys)->aD H' ys (aQ (jn f b g A))->Q (.ref q) H')
def GD:Sp:=λvs H Q _=>Ex3 λ(l:Addr) (zs:List V) (ss:List Stp)=>An5 (vs=[.ref l]) (H l=some (.lst zs)) (aD H zs (aQ ss)) ((ss.length<=40/\∀s∈ss,s.1.sz<=240)) (∀H',Same H H'->Q (.int (pri ss)) H')
def Mr:Sp:=λvs H Q _=>Ex8 λ(l t:Addr) (zs:List V) (rs A:List Rw) (f b fr:Int)=>An6 (vs=[.ref l,.ref t]) (H l=some (.lst zs)) (aD H zs (aJ rs)) (H t=some (.tup [.int f,.int b,.int fr])) (abm rs f b fr A) (∀q ys H',New H H' q (.lst ys)->aD H' ys (aQ (best f b A))->Q (.ref q) H')
class O4(rs:List Rw)(f b fr:Int)(A:outParam (List Rw)):Prop where
 s:abm rs f b fr A
section
variable{l t:Addr}{H:Hp}{Q:VK}{E:XK}{zs:List V}{ss:List Stp}{rs A:List Rw}{f b fr:Int}{g:Nat}
instance acp[h:Hat H l (.lst zs)][tt:TpA H zs (aJ rs)][h2:Hat H t (.tup [.int f,.int b,.int fr])][sc:O4 rs f b fr A]:Go (rN [.ref l,.ref t,.int (g:Nat)] H Q E) (Sd (g<=A.length) (∀q ys H',New H H' q (.lst ys)->aD H' ys (aQ (jn f b g A))->Q (.ref q) H')):=⟨λs=>⟨l,t,zs,rs,A,f,b,fr,g,rfl,h.e,tt.e,h2.e,⟨sc.s,s.1⟩,s.2⟩⟩
instance abn[h:Hat H l (.lst zs)][tt:TpA H zs (aJ rs)][h2:Hat H t (.tup [.int f,.int b,.int fr])][sc:O4 rs f b fr A]:Go (rN [.ref l,.ref t,.int 0] H Q E) (∀q ys H',New H H' q (.lst ys)->aD H' ys (aQ (jn f b 0 A))->Q (.ref q) H'):=⟨λs=>⟨l,t,zs,rs,A,f,b,fr,0,rfl,h.e,tt.e,h2.e,⟨sc.s,Nat.zero_le _⟩,s⟩⟩
instance aey[h:Hat H l (.lst zs)][tt:TpA H zs (aQ ss)]:Go (GD [.ref l] H Q E) (Sd (ss.length<=40/\∀s∈ss,s.1.sz<=240) (∀H',Same H H'->Q (.int (pri ss)) H')):=⟨λs=>⟨l,zs,ss,rfl,h.e,tt.e,s.1,s.2⟩⟩
instance af8[h:Hat H l (.lst zs)][tt:TpA H zs (aJ rs)][h2:Hat H t (.tup [.int f,.int b,.int fr])][sc:O4 rs f b fr A]:Go (Mr [.ref l,.ref t] H Q E) (∀q ys H',New H H' q (.lst ys)->aD H' ys (aQ (best f b A))->Q (.ref q) H'):=⟨λs=>⟨l,t,zs,rs,A,f,b,fr,rfl,h.e,tt.e,h2.e,sc.s,s⟩⟩
end
def neS(r:List V):Bool:=match r with
 | [_,.int s,_,.int t]=>!decide (t=s)
 | _=>false
def XQ(ss:List Stp):((aQ ss).filter neS).map (λr=>r.getD 2 V.non)=((mv ss).map λs=>((s.1.sz:Nat):Int)).map V.int:=by
 have e:mv ss=ss.filter λs=>!decide (s.2=(s.1.st:Int)):=by
  unfold mv;exact List.filter_congr λs _=>by simp
 rw[e];unfold aQ;rw[List.filter_map,List.map_map,List.map_map]
 rfl
instance aez{K:W.Frag}{H:Hp}{l q:Addr}{σ:L2.St}{n m i0 i1 i2 i3 i4:Nat}{a b c d e:V}{R:L2.St->Hp->Prop}[h:SqB K H l [a,.ref q]][h2:SqB K H q [b,c,d,e]]:Go (o_ K n (cJ (aU i0) (cJ (o_ K m (cJ (aU i1) (cJ (aU i2) (cJ (aU i3) (cJ (aU i4) qO))))) qO)) (.ref l) σ H R) (Sd (n=2) (Sd (m=4) (aU i0 a σ H λσ1 H1=>aU i1 b σ1 H1 λσ2 H2=>aU i2 c σ2 H2 λσ3 H3=>aU i3 d σ3 H3 λσ4 H4=>aU i4 e σ4 H4 R))):=⟨λs=>by
 obtain⟨rfl,rfl,s⟩:=s;exact⟨l,[a,.ref q],rfl,h.e,rfl,a,[.ref q],rfl,.ref q,[],rfl,q,[b,c,d,e],rfl,h2.e,rfl,b,_,rfl,c,_,rfl,d,_,rfl,e,[],rfl,rfl,rfl,s⟩⟩
def four(ss:List Stp):∀r∈aQ ss,∃a b c d,r=[a,b,c,d]:=λr hr=>by
 obtain⟨s,_,rfl⟩:=vT.mp hr;exact⟨_,_,_,_,rfl⟩
def Cr{f b:Int}{g:Nat}{A:List Rw}{m:Nat}(h:∀r∈A,r.sz<=m):∀s∈jn f b g A,s.1.sz<=m:=λs hs=>h _ (by rw[<- uT f b g A];exact List.mem_map_of_mem hs)
section
variable{P:Program}{w:World}{K:W.Frag}{mg:xC}{base:Heap}{c:Nat->Addr}{aG aA aH aB R CL:Addr}
def tW(T:Txt K mg c R CL aG aA aH aB):Def P w K mg base CX0 1 "_law_price" ["_law_steps"] GD:=by
 refine dA T.Lz Ez λf cdv A outer s H vs Q E hr h=>?_
 obtain⟨l,zs,ss,rfl,hl,tp,few,k⟩:=h;have nd:=Ez.nd;refine⟨_,(aF (aR (aX (jF rfl) rfl T.zN boot_sum (aj (cQ (N:=["_law_name","_law_start","_law_size","_law_to"]) (nt:=4) (fr:=[]) (bJ (pv 0)) (λ_ _ _ _=>(tM (K:=K) (n:=4) rfl rfl (aV (bG (i:=0) (show (["_law_name","_law_start","_law_size","_law_to"]:List Str).Nodup from by decide +kernel) rfl (Or.inl rfl)) (aV (bG (i:=1) (show (["_law_name","_law_start","_law_size","_law_to"]:List Str).Nodup from by decide +kernel) rfl (Or.inl rfl)) (aV (bG (i:=2) (show (["_law_name","_law_start","_law_size","_law_to"]:List Str).Nodup from by decide +kernel) rfl (Or.inl rfl)) (aV (bG (i:=3) (show (["_law_name","_law_start","_law_size","_law_to"]:List Str).Nodup from by decide +kernel) rfl (Or.inl rfl)) cW)))))) (λ_ _ _ _=>d9 (aN j_ (pv 3) (pv 1) (aY _))) (λ_ _ _ _=>(pv 2))) ao)))),?_⟩;clear nd ;rw[stE]
 try dsimp only[cI,bO]
 have jx:=om hl;have i_:=dN.mk tp;have F:=SH.n0 H;have zl:zs.length=ss.length:=by rw[tp.1,cg]
 have Xv:=few.1
 repeat k_meth
 refine Bk (P:=neS) (fvs:=[]) cV (λH' s=>s.seq (SqL.of aM)) (TpA.e (rs:=aQ ss)) rfl (four ss) (by lia) rfl (λi ys _=>ys=(((aQ ss).take i).filter neS).map λr=>r.getD 2 V.non) (λi ys H1 H2 s t=>t) rfl (λi a b c d H1 R e1 s1 kk=>?_) (λi a b c d ys H1 R e1 hp s1 g kk=>?_) (λi r ys H1 e1 hp g=>by rw[bZ e1,List.filter_append,List.filter_cons_of_neg (by simp[hp]),List.filter_nil,List.append_nil];exact g) λq ys H1 n1 g=>?_
 ·clear F;have F:=SH.n0 H1;obtain⟨s,_,e⟩:=vT.mp (yT e1);cases e;have kk:∀H2,Same H1 H2->R (!decide (s.2=(s.1.st:Int))) H2:=kk
  repeat k_meth
  exact kk _ (Same.refl _)
 ·clear F;have F:=SH.n0 H1
  repeat k_meth
  refine kk _ _ (Same.refl _) ?_;rw[g,bZ e1,List.filter_append,List.filter_cons_of_pos hp,List.filter_nil,List.map_append]
  rfl
 ·rw[nS (by rw[cg];lia),XQ] at g;rw[g] at n1;replace F:=F.newL n1;have side:(∀n∈(mv ss).map λs=>((s.1.sz:Nat):Int),0<=n/\n<=1000000)/\((mv ss).map λs=>((s.1.sz:Nat):Int)).length<=1000000:=by
   refine⟨λn hn=>?_,by rw[wE];have:=wF ss;lia⟩;obtain⟨r,hr,rfl⟩:=vT.mp hn;have:=few.2 r (List.mem_filter.mp hr).1
   lia
  repeat k_meth
  exact k _ F.sm
def wG(T:Txt K mg c R CL aG aA aH aB):Def P w K mg base CX0 1 "_law_joined" ["_law_rows_here","_law_stretch","_law_gap"] rN:=by
 refine dA T.Fy yX λf cdv A outer s H vs Q E hr h=>?_
 obtain⟨l,t,zs,rs,A,f,b,fr,g,rfl,hl,tp,ht,side,k⟩:=h;have nd:=yX.nd;refine⟨_,(aq (jQ (pv 1) (fD rfl (aV (pgz 3 nd) (aV (pgz 4 nd) (aV (pgz 5 nd) cW)))))
  (aq (psz 6 nd (bC ao))
  (aq (psz 7 nd (pv 3))
  (aq (gH (i:=8) nd rfl (Or.inl rfl) (N:=["_law_row","_law_first","_law_behind"]) (nt:=1) (fr:=[3,4]) (bJ (pv 0)) (λ_ _ _ _=>(bG (i:=0) (show (["_law_row","_law_first","_law_behind"]:List Str).Nodup from by decide +kernel) rfl (Or.inl rfl))) (λ_ _ _ _=>d9 (kW pB jd (pv 1) (aO (cD (K:=K) rfl) (pv 0) au (λ_ _=>rfl)) (pv 2))) (λ_ _ _ _=>(pv 0)))
  (aq (cU PassesOwn.never rfl (Kg rfl T.mz (aj (pv 8) ao)) (fD rfl (aV (pgz 9 nd) (aV (fD rfl (aV (pgz 10 nd) (aV (pgz 11 nd) (aV (pgz 12 nd) (aV (pgz 13 nd) cW))))) cW))) (aq (bL (aN dJ (pv 9) (pv 2) (aY _)) (aF (psz 7 nd (aW bQ (pv 7) (pv 5)))) bf)
   (aq (cT (cB (pv 6) (bD (aj (pv 10) (aj (pv 11) (aj (pv 12) (aj (pv 7) ao)))))))
   (aF (psz 7 nd (aW bQ (pv 7) (pv 12)))))))
  (aF (aR (pv 6)))))))),?_⟩
 clear nd ;rw[stE]
 try dsimp only[cI,bO]
 have jx:=om hl;have Jv:=om ht;have i_:=dN.mk tp;have F:=SH.n0 H;obtain⟨⟨few,fsz,flt,rfl⟩,hg⟩:=side;have zl:zs.length=rs.length:=by rw[tp.1,bw]
 have al:A.length<=40:=by rw[<- flt];exact rX (List.length_filter_le _ _) few
 repeat k_meth
 rename Addr=>fo
 refine mF (P:=Cg f b) (fvs:=[some (.int f),some (.int b)]) aM (TpA.e (rs:=aJ rs)) (by lia) rfl (λi ys H'=>aD H' ys (((aJ rs).take i).filter (Cg f b))) (λi ys H1 H2 s t=>gM s t) aD.nil (λi q1 r H' R e1 s1 e2 kk=>?_) (λi q1 r ys H' R e1 hp s1 e2 g kk=>?_) (λi r ys H' e1 hp g=>by rw[bZ e1,List.filter_append,List.filter_cons_of_neg (by simp[hp]),List.filter_nil,List.append_nil];exact g) λwq wy wH n1 gw=>?_
 ·clear F;have F:SH H' [] H' [] []:=SH.nil;obtain⟨s,_,rfl⟩:=vT.mp (yT e1);have iy:=om e2;have kk:∀H2,Same H' H2->R (decide (f<=(s.st:Int)) && decide ((s.st:Int)<b)) H2:=kk
  repeat k_meth
  refine cN (λh=>?_) (λh=>?_)
  ·repeat k_meth
   rw[gX h,Bool.true_and] at kk;exact kk _ (Same.refl _)
  ·repeat k_meth
   rw[gS h,Bool.false_and] at kk;exact kk _ (Same.refl _)
 ·repeat k_meth
  refine kk _ _ (Same.refl _) ?_;rw[bZ e1,List.filter_append,List.filter_cons_of_pos hp,List.filter_nil];exact aD.snoc g e2
 rw[nS (by rw[bw];lia),mU,flt] at gw;replace F:=F.newR n1 gw;have wyl:wy.length=A.length:=by rw[gw.1,bw]
 repeat k_meth
 refine Kz (xs:=wy) (λi σ' H'=>Ex6 λ(o9 o10 o11 o12 o13:Option V) (ys:List V)=>An3 (σ'=[some (.ref l),some (.ref t),some (.int (g:Nat)),some (.int f),some (.int b),some (.int (b-f-szs A)),some (.ref fo),some (.int (atK f b g A i)),some (.ref wq),o9,o10,o11,o12,o13]) (ys.length=i) (SH H [] H' [(fo,.lst ys),(wq,.lst wy)] [.tps ys (aQ ((jn f b g A).take i)),.tps wy (aJ A)])) ⟨_,_,_,_,_,[],by rw[show atK f b g A 0=f by simp[atK,fV]],rfl,(F.d8 (ys:=[]) (rs:=aQ []) aD.nil).sub SbC.s (by simp)⟩ ?_ ?_ ?_
 ·clear F;rintro i σ' H' _ ⟨_,_,_,_,_,ys,rfl,yl,F⟩;exact SqA.e
 ·clear F;rintro i v T1 σ' H' H2 hv ⟨_,_,_,_,_,ys,rfl,yl,F⟩ nw;obtain⟨r,q1,e1,rfl,e2⟩:=dh (H:=H') (rs:=A) (F.tps (by simp)) hv;replace F:=(F.uM e2).newT nw;have ah1:i<40:=by
   have:=(jS.mp e1).1
   lia
  have tk:=bB (aex (f:=f) (b:=b) hg e1);by_cases q:i=g
  ·have e4:atK f b g A i+(b-f-szs A)=atJ f b g A i:=by
    rw[q] at e1 ⊢;exact abk e1
   repeat k_meth
   rw[e4] at F ⊢;have F2:=SH.app (ys:=ys) (rs:=aQ ((jn f b g A).take i)) (q:=p_) (r:=stepV (r,atJ f b g A i)) F (LkP.m) (LkI.m);rw[<- jh,<- tk] at F2;exact⟨_,_,_,_,_,ys++[.ref p_],by rw[GC e1],by simp[yl],F2.sub SbC.s (by simp)⟩
  ·have e4:=abl (f:=f) (b:=b) (A:=A) q
   repeat k_meth
   rw[e4] at F ⊢;have F2:=SH.app (ys:=ys) (rs:=aQ ((jn f b g A).take i)) (q:=p_) (r:=stepV (r,atJ f b g A i)) F (LkP.m) (LkI.m);rw[<- jh,<- tk] at F2;exact⟨_,_,_,_,_,ys++[.ref p_],by rw[GC e1],by simp[yl],F2.sub SbC.s (by simp)⟩
 ·clear F;rintro σ' H' ⟨_,_,_,_,_,ys,rfl,yl,F⟩;rw[wyl,nS (by rw[rK];exact uC _)] at F
  repeat k_meth
  exact k _ _ _ SH.nwC TpA.e
end
open M22 M82 M87
section
variable{P:Program}{w:World}{K:W.Frag}{mg:xC}{base:Heap}{c:Nat->Addr}{aG aA aH aB R CL:Addr}
def abo(T:Txt K mg c R CL aG aA aH aB):Def P w K mg base CX0 2 "_law_best" ["_law_rows_here","_law_stretch"] Mr:=by
 refine dA T.TY Lj λf cdv A outer s H vs Q E hr h=>?_
 obtain⟨l,t,zs,rs,A,f,b,fr,rfl,hl,tp,ht,side,k⟩:=h;have nd:=Lj.nd;refine⟨_,(aq (jQ (pv 1) (fD rfl (aV (pgz 2 nd) (aV (pgz 3 nd) (aV (pgz 4 nd) cW)))))
  (aq (psz 5 nd (aX bK rfl T.dz boot_len (aj (cQ (N:=["_law_row","_law_first","_law_behind"]) (nt:=1) (fr:=[2,3]) (bJ (pv 0)) (λ_ _ _ _=>(bG (i:=0) (show (["_law_row","_law_first","_law_behind"]:List Str).Nodup from by decide +kernel) rfl (Or.inl rfl))) (λ_ _ _ _=>d9 (kW pB jd (pv 1) (aO (cD (K:=K) rfl) (pv 0) au (λ_ _=>rfl)) (pv 2))) (λ_ _ _ _=>(pv 0))) ao)))
  (aq (psz 6 nd (aK (wG T) hr (aj (pv 0) (aj (pv 1) (aj au ao)))))
  (aq (cU PassesOwn.never rfl (xP rfl T.fW (aj au (aj (aW bQ (pv 5) au) ao))) (pgz 7 nd) (aq (psz 8 nd (aK (wG T) hr (aj (pv 0) (aj (pv 1) (aj (pv 7) ao)))))
   (aF (bL (aN jd (aK (tW T) hr (aj (pv 8) ao)) (aK (tW T) hr (aj (pv 6) ao)) (aY _)) (aF (psz 6 nd (pv 8))) bf))))
  (aF (aR (pv 6))))))),?_⟩
 clear nd;rw[stE]
 try dsimp only[cI,bO]
 have jx:=om hl;have Jv:=om ht;have i_:=dN.mk tp;have F:=SH.n0 H;have sc:O4 rs f b fr A:=⟨side⟩;obtain⟨few,fsz,flt,_⟩:=side;have zl:zs.length=rs.length:=by rw[tp.1,bw]
 have al:A.length<=40:=by rw[<- flt];exact rX (List.length_filter_le _ _) few
 have asz:∀r∈A,r.sz<=240:=λr hr=>by rw[<- flt] at hr;exact fsz r (List.mem_filter.mp hr).1
 have sdp:∀g,(jn f b g A).length<=40/\∀s∈jn f b g A,s.1.sz<=240:=λg=>⟨by rw[rK];exact al,Cr asz⟩
 repeat k_meth
 refine mF (P:=Cg f b) (fvs:=[some (.int f),some (.int b)]) aM (TpA.e (rs:=aJ rs)) (by lia) rfl (λi ys H'=>aD H' ys (((aJ rs).take i).filter (Cg f b))) (λi ys H1 H2 s t=>gM s t) aD.nil (λi q1 r H' R e1 s1 e2 kk=>?_) (λi q1 r ys H' R e1 hp s1 e2 g kk=>?_) (λi r ys H' e1 hp g=>by rw[bZ e1,List.filter_append,List.filter_cons_of_neg (by simp[hp]),List.filter_nil,List.append_nil];exact g) λwq wy wH n1 gw=>?_
 ·clear F;have F:SH H' [] H' [] []:=SH.nil;obtain⟨s,_,rfl⟩:=vT.mp (yT e1);have iy:=om e2;have kk:∀H2,Same H' H2->R (decide (f<=(s.st:Int)) && decide ((s.st:Int)<b)) H2:=kk
  repeat k_meth
  refine cN (λh=>?_) (λh=>?_)
  ·repeat k_meth
   rw[gX h,Bool.true_and] at kk;exact kk _ (Same.refl _)
  ·repeat k_meth
   rw[gS h,Bool.false_and] at kk;exact kk _ (Same.refl _)
 ·repeat k_meth
  refine kk _ _ (Same.refl _) ?_;rw[bZ e1,List.filter_append,List.filter_cons_of_pos hp,List.filter_nil];exact aD.snoc g e2
 rw[nS (by rw[bw];lia),mU,flt] at gw;replace F:=F.newR n1 gw;have wyl:wy.length=A.length:=by rw[gw.1,bw]
 repeat k_meth
 rename List V=>by0
 rename Addr=>bq0
 rw[show ((wy.length:Int)+1-1).toNat=A.length by lia];refine Kv (λi σ' H'=>Ex4 λ(o7 o8:Option V) (bq:Addr) (bys:List V)=>σ'=[some (.ref l),some (.ref t),some (.int f),some (.int b),some (.int fr),some (.int (wy.length:Nat)),some (.ref bq),o7,o8]/\SH H [] H' [(bq,.lst bys)] [.tps bys (aQ (jn f b (fm (λg=>pri (jn f b g A)) i) A))]) ⟨_,_,bq0,by0,rfl,F.sub SbC.s (by simp[fm])⟩ ?_ ?_
 ·clear F;rintro i σ' H' hi ⟨_,_,bq,bys,rfl,F⟩;have hf:=(YQ (λg=>pri (jn f b g A)) i).le;rw[show (1:Int)+(i:Int)=((i+1:Nat):Int) by lia];have s1:=sdp (i+1);have s2:=sdp (fm (λg=>pri (jn f b g A)) i)
  repeat k_meth
  refine cN (λh=>?_) (λh=>?_)
  ·repeat k_meth
   have e:fm (λg=>pri (jn f b g A)) (i+1)=i+1:=by rw[fm,zS h]
   exact⟨_,_,p_,ys_,rfl,by rw[e];exact F.sub SbC.s (by simp)⟩
  ·repeat k_meth
   have e:fm (λg=>pri (jn f b g A)) (i+1)=fm (λg=>pri (jn f b g A)) i:=by rw[fm,yA h]
   exact⟨_,_,bq,bys,rfl,by rw[e];exact F.sub SbC.s (by simp)⟩
 ·clear F;rintro σ' H' ⟨_,_,bq,bys,rfl,F⟩
  repeat k_meth
  exact k _ _ _ SH.nwC TpA.e
end
open M22 M82 M87
class LyA(rs:List Rw)(n:outParam Nat):Prop where
 l:Lay n rs
 a:Asc rs
 h:n<=240
 g:16<=n
def wI{n:Nat}{rs:List Rw}(h:Lay n rs):(rs.map (·.nm)).Nodup:=List.pairwise_map.mpr (h.ap.imp λh=>h.1)
def LyA.ok{n:Nat}{rs:List Rw}(h:LyA rs n):OkA 0 n rs:=⟨h.a,λr hr=>⟨Nat.zero_le _,(h.l.good r hr).sz,(h.l.good r hr).le⟩⟩
def aeA{rs:List Rw}(h:(rs.map (·.nm)).Nodup){i:Nat}{r s:Rw}(e:rs[i]?=some s)(hr:r∈rs)(hn:s.nm=r.nm):s=r:=by
 obtain⟨j,hj,rfl⟩:=List.getElem_of_mem hr;obtain⟨hi,rfl⟩:=jS.mp e;have:=(List.getElem_inj (i:=i) (j:=j) (h₀:=by simpa using hi) (h₁:=by simpa using hj) h).mp (by simpa using hn);subst this
 rfl
structure LyH(CL:Addr)(H:Hp)(x p dx:Addr)(n:Nat)(zs:List V)(rs:List Rw):Prop where
 x:H x=some (.ins CL dx (lF (n:Nat) p))
 p:H p=some (.lst zs)
 t:aD H zs (aJ rs)
theorem LyH.same{CL:Addr}{H H':Hp}{x p dx:Addr}{n:Nat}{zs:List V}{rs:List Rw}(h:LyH CL H x p dx n zs rs)(s:Same H H'):LyH CL H' x p dx n zs rs:=⟨s _ _ h.x,s _ _ h.p,h.t.same s⟩
class LyQ(CL:Addr)(H:Hp)(x:Addr)(p dx:outParam Addr)(n:outParam Nat)(zs:outParam (List V))(rs:outParam (List Rw)):Prop where
 e:LyH CL H x p dx n zs rs
instance ah2{CL:Addr}{H:Hp}{x p dx:Addr}{n:Nat}{zs:List V}{rs:List Rw}[h:Hat H x (.ins CL dx (lF (n:Nat) p))][h2:Hat H p (.lst zs)][t:TpA H zs (aJ rs)]:LyQ CL H x p dx n zs rs:=⟨⟨h.e,h2.e,t.e⟩⟩
abbrev XR(rs:List Rw):List V:=(rs.map (·.nm)).map λcs=>V.str (tx cs)
def z8(CL:Addr):Sp:=λvs H Q _=>Ex6 λ(x p dx:Addr) (n:Nat) (zs:List V) (rs:List Rw)=>An4 (vs=[.ref x]) (LyH CL H x p dx n zs rs) (LyA rs n) (∀q H',New H H' q (.lst (XR rs))->Q (.ref q) H')
def okP:V->Bool
 | .int _=>true
 | .non=>true
 | .bl _=>true
 | .str _=>true
 | _=>false
def tyP:V->String
 | .int _ => "int"
 | .non => "NoneType"
 | .bl _ => "bool"
 | .str _ => "str"
 | _ => ""
class PlA(v:V):Prop where
 e:okP v=true
theorem PlA.ty{K:W.Frag}{H:Hp}{v:V}(h:okP v=true):dj K H v (.type (tyP v)):=by
 cases v with
 | int i=>exact .int i
 | non=>exact .non
 | bl b=>exact .bl b
 | str x=>exact .str x
 | _=>cases h
instance (priority:=low) ajg {K:W.Frag} {H:Hp} {v:V} [h:PlA v]:TyA K H v (tyP v):=⟨PlA.ty h.e⟩
def RzR(K:W.Frag)(R:Addr)(E:XK)(H:Hp):Prop:=∀C fs d H',ExM K C R true->Same H H'->H' d=some (jB d fs)->E (.ref C) (some d) H'
def RzR.mono{K:W.Frag}{R:Addr}{E:XK}{H H':Hp}(k:RzR K R E H)(s:Same H H'):RzR K R E H':=λC fs d H2 x s2 e=>k C fs d H2 x (s.trans s2) e
def mG(K:W.Frag)(H:Hp)(v:V):Prop:=m5 H v/\∀z,v≠.str z
def mG.same{K:W.Frag}{H H':Hp}{v:V}(h:mG K H v)(s:Same H H'):mG K H' v:=⟨h.1.kept λa u _ e=>s a u e,h.2⟩
class aeB(K:W.Frag)(H:Hp)(v:V):Prop where
 e:mG K H v
def mW(K:W.Frag)(R CL:Addr):Sp:=λvs H Q E=>Ex7 λ(x p dx:Addr) (n:Nat) (zs:List V) (rs:List Rw) (nv:V)=>An4 (vs=[.ref x,nv]) (LyH CL H x p dx n zs rs) (LyA rs n) (((∃r,r∈rs/\nv=.str (tx r.nm)/\∀q H',Same H H'->H' q=some (.tup (dD r))->Q (.ref q) H')\/(((∃cs:List Nat,nv=.str (tx cs)/\∀r∈rs,r.nm≠cs)\/mG K H nv)/\RzR K R E H)))
class aeC(rs:List Rw)(cs:List Nat):Prop where
 e:∀r∈rs,r.nm≠cs
def qL(K:W.Frag)(H:Hp)(e:V):Prop:=(∃n1:String,dj K H e (.type n1)/\(n1 == "tuple")=false)\/∃t xs,e=.ref t/\H t=some (.tup xs)/\xs.length≠2
def Cu(K:W.Frag):Sp:=λvs H Q _=>∃v,vs=[v]/\((∃t a b,v=.ref t/\H t=some (.tup [a,b])/\Q (.bl true) H)\/(qL K H v/\Q (.bl false) H))
structure Sld(n:Nat)(rs:List Rw)(r:Rw)(k to:Nat):Prop where
 at_:rs[k]?=some r
 pn:r.pn=0
 lo:iT rs k<=to
 hi:to+r.sz<=dU n rs k
def wJ(CL:Addr):Sp:=λvs H Q _=>Ex9 λ(x p dx:Addr) (n:Nat) (zs:List V) (rs:List Rw) (r:Rw) (k:Nat) (v:V)=>An6 (vs=[.ref x,.str (tx r.nm),v]) (LyH CL H x p dx n zs rs) (LyA rs n) (rs[k]?=some r) (okP v=true) (∀H',Same H H'->Q (.bl (inB v (iT rs k:Nat) ((dU n rs k:Nat)-(r.sz:Int)))) H')
def fB(n:Nat)(T:List Rw)(dn:List (List Nat))(cs:List Nat)(v:V):Option Mv:=match T.findIdx? (λr=>decide (r.nm=cs)) with
 | none=>none
 | some k=>match T[k]? with
  | none=>none
  | some r=>if cs∈dn\/0<r.pn then none else if inB v (iT T k:Nat) ((dU n T k:Nat)-(r.sz:Int))=true then (match v with
   | .int i=>some (k,cs,i.toNat)
   | _=>none) else none
def XS{n:Nat}{T:List Rw}{k:Nat}{r:Rw}(ly:Lay n T)(h:T[k]?=some r):T.findIdx? (λs=>decide (s.nm=r.nm))=some k:=by
 obtain⟨hk,rfl⟩:=jS.mp h;rw[List.findIdx?_eq_some_iff_getElem];refine⟨hk,gX rfl,λj hj=>?_⟩;have nd:=wI ly;simp only[decide_eq_true_eq];intro z;have:=(List.getElem_inj (i:=j) (j:=k) (h₀:=by simp;lia) (h₁:=by simpa using hk) nd).mp (by simpa using z)
 lia
def rO{n:Nat}{T:List Rw}{dn:List (List Nat)}{cs:List Nat}{v:V}(h:∀r∈T,r.nm≠cs):fB n T dn cs v=none:=by
 unfold fB;rw[List.findIdx?_eq_none_iff.mpr λr hr=>gS (h r hr)]
def step_at{n:Nat}{T:List Rw}{dn:List (List Nat)}{k:Nat}{r:Rw}{v:V}(ly:Lay n T)(h:T[k]?=some r):fB n T dn r.nm v=if r.nm∈dn\/0<r.pn then none else if inB v (iT T k:Nat) ((dU n T k:Nat)-(r.sz:Int))=true then (match v with
      | .int i=>some (k,r.nm,i.toNat)
      | _=>none) else none:=by
 unfold fB;rw[XS ly h];simp only[h]
theorem Ms{v:V}{a b:Int}(h:inB v a b=true):∃i,v=.int i/\a<=i/\i<=b:=by
 cases v with
 | int i =>
  have h:(decide (a<=i) && decide (i<=b))=true:=h;rw[Bool.and_eq_true,decide_eq_true_eq,decide_eq_true_eq] at h;exact⟨i,rfl,h.1,h.2⟩
 | _=>simp[inB] at h
def rP{n:Nat}{T:List Rw}{dn:List (List Nat)}{cs:List Nat}{v:V}{m:Mv}(ly:Lay n T)(h:fB n T dn cs v=some m):∃r,Sld n T r m.1 m.2.2/\r.nm=cs/\m.2.1=cs/\cs ∉ dn/\v=.int (m.2.2:Nat):=by
 by_cases hc:∃r∈T,r.nm=cs
 ·obtain⟨r,hr,rfl⟩:=hc;obtain⟨k,hk,e⟩:=List.getElem_of_mem hr;have e:T[k]?=some r:=by rw[qA hk,e]
  rw[step_at ly e] at h;split at h
  ·cases h
  ·rename_i hd;split at h
   ·rename_i hb;obtain⟨i,rfl,h1,h2⟩:=Ms hb;obtain rfl:=(nI h).symm;exact⟨r,⟨e,by lia,by show iT T k<=i.toNat;lia,by show i.toNat+r.sz<=dU n T k;lia⟩,rfl,rfl,λz=>hd (.inl z),by show V.int i=.int ((i.toNat:Nat):Int);rw[Int.toNat_of_nonneg (by lia)]⟩
   ·cases h
 ·rw[rO λr hr z=>hc ⟨r,hr,z⟩] at h;cases h
def O5(K:W.Frag)(R CL:Addr):Sp:=λvs H Q E=>SQ λ(x p dx l:Addr) (n:Nat) (zs:List V) (rs:List Rw) (nv v:V) (nms:List (List Nat))=>An6 (vs=[.ref x,nv,v,.ref l]) (LyH CL H x p dx n zs rs) (LyA rs n) (H l=some (.lst (nms.map λcs=>V.str (tx cs)))) (nms.length<=41) (((mG K H nv/\RzR K R E H)\/∃cs,nv=.str (tx cs)/\okP v=true/\((fB n rs nms cs v=none/\RzR K R E H)\/∃m r,fB n rs nms cs v=some m/\rs[m.1]?=some r/\∀q H',Same H H'->H' q=some (.tup [.str (tx cs),.int (r.st:Nat),.int (r.sz:Nat),.int (m.2.2:Nat)])->Q (.ref q) H')))
section
variable{CL x p dx t q:Addr}{H:Hp}{Q:VK}{E:XK}{n k:Nat}{zs:List V}{rs:List Rw}{r:Rw}{a b:V}
instance acq[h:LyQ CL H x p dx n zs rs][ly:LyA rs n]:Go (z8 CL [.ref x] H Q E) (∀q H',New H H' q (.lst (XR rs))->Q (.ref q) H'):=⟨λk=>⟨x,p,dx,n,zs,rs,rfl,h.e,ly,k⟩⟩
instance acr{K:W.Frag}{R:Addr}[h:LyQ CL H x p dx n zs rs][ly:LyA rs n]:Go (mW K R CL [.ref x,.str (tx r.nm)] H Q E) (Sd (r∈rs) (∀q H',Same H H'->H' q=some (.tup (dD r))->Q (.ref q) H')):=⟨λs=>⟨x,p,dx,n,zs,rs,_,rfl,h.e,ly,.inl ⟨r,s.1,rfl,s.2⟩⟩⟩
instance (priority:=high) abp {K:W.Frag} {R:Addr} {cs:List Nat} [h:LyQ CL H x p dx n zs rs] [ly:LyA rs n] [nn:aeC rs cs]:Go (mW K R CL [.ref x,.str (tx cs)] H Q E) (RzR K R E H):=⟨λk=>⟨x,p,dx,n,zs,rs,_,rfl,h.e,ly,.inr ⟨.inl ⟨cs,rfl,nn.e⟩,k⟩⟩⟩
instance (priority:=high) abq {K:W.Frag} {R:Addr} {v:V} [h:LyQ CL H x p dx n zs rs] [ly:LyA rs n] [nn:aeB K H v]:Go (mW K R CL [.ref x,v] H Q E) (RzR K R E H):=⟨λk=>⟨x,p,dx,n,zs,rs,_,rfl,h.e,ly,.inr ⟨.inr nn.e,k⟩⟩⟩
def qL.same{K:W.Frag}{H H':Hp}{e:V}(h:qL K H e)(s:Same H H'):qL K H' e:=by
 rcases h with⟨n1,ty,nt⟩|⟨t,xs,rfl,ht,nl⟩
 ·exact .inl ⟨n1,ty.kept λa u _ e=>s a u e,nt⟩
 ·exact .inr ⟨t,xs,rfl,s _ _ ht,nl⟩
class abr(K:W.Frag)(H:Hp)(e:V):Prop where
 e:qL K H e
instance af9{K:W.Frag}[h:Hat H t (.tup [a,b])]:Go (Cu K [.ref t] H Q E) (Q (.bl true) H):=⟨λk=>⟨_,rfl,.inl ⟨t,a,b,rfl,h.e,k⟩⟩⟩
instance (priority:=high) aeD {K:W.Frag} {e:V} [h:abr K H e]:Go (Cu K [e] H Q E) (Q (.bl false) H):=⟨λk=>⟨_,rfl,.inr ⟨h.e,k⟩⟩⟩
instance abt{v:V}[h:LyQ CL H x p dx n zs rs][ly:LyA rs n][pv:PlA v]:Go (wJ CL [.ref x,.str (tx r.nm),v] H Q E) (∃k,rs[k]?=some r/\∀H',Same H H'->Q (.bl (inB v (iT rs k:Nat) ((dU n rs k:Nat)-(r.sz:Int)))) H'):=⟨λ⟨k,e,k1⟩=>⟨x,p,dx,n,zs,rs,r,k,v,rfl,h.e,ly,e,pv.e,k1⟩⟩
end
def UG{T:List Rw}{k:Nat}{r0:Rw}(h:T[k]?=some r0):iT T (k+1)=r0.st+r0.sz:=by
 show (match T[k]? with|some r=>r.st+r.sz|none=>0)=_
 rw[h]
def Mt{n:Nat}{T:List Rw}{k:Nat}{s:Rw}(h:T[k+1]?=some s):dU n T k=s.st:=by
 unfold dU;rw[h]
def GF{n:Nat}{T:List Rw}{k:Nat}(h:T.length<=k+1):dU n T k=n:=by
 unfold dU;rw[mP h]
section
variable{P:Program}{w:World}{K:W.Frag}{mg:xC}{base:Heap}{c:Nat->Addr}{aG aA aH aB R CL:Addr}
def O6(T:Txt K mg c R CL aG aA aH aB):Met P w K mg base CX0 1 CL "names" ["self"] (z8 CL):=by
 obtain⟨f,hf,hm⟩:=T.FQ;refine(fA (k:=0) hf zp λf cdv A outer s H vs Q E hr h=>?_).met hm;obtain⟨x,p,dx,n,zs,rs,rfl,ly,lya,k⟩:=h;have nd:=zp.nd;refine⟨_,(aF (aR (cQ (N:=["row"]) (nt:=1) (fr:=[]) (bJ (jj (pv 0) rfl)) (λ_ _ _ _=>(bG (i:=0) (show (["row"]:List Str).Nodup from by decide +kernel) rfl (Or.inl rfl))) (λ_ _ _ _=>dF) (λ_ _ _ _=>(aO (cD (K:=K) rfl) (pv 0) au (λ_ _=>rfl)))))),?_⟩;clear nd ;rw[stE]
 try dsimp only[cI,bO]
 have hx:=ly.x;have hp:=ly.p;have tp:=ly.t;have few:=lya.l.few;have kJ:=lya.h;have zl:zs.length=rs.length:=by rw[tp.1,bw]
 have qz:=om hx;have m6:=om hp;have i_:=dN.mk tp;have F:=SH.n0 H
 repeat k_meth
 refine gq (F:=λr=>r.getD 0 .non) aM (TpA.e (rs:=aJ rs)) (by lia) rfl (λq r H1 R hr s1 e1 kk=>?_) λl H1 n1=>?_
 ·clear F;have F:=SH.n0 H1;obtain⟨s,_,rfl⟩:=vT.mp hr;have aa7:=om e1
  repeat k_meth
  exact kk _ (Same.refl _)
 ·rw[show (aJ rs).map (λr=>r.getD 0 V.non)=XR rs by unfold aJ XR;rw[List.map_map,List.map_map];rfl] at n1;replace F:=F.newL n1
  repeat k_meth
  exact k _ _ SH.nwC
def z9(T:Txt K mg c R CL aG aA aH aB):Met P w K mg base (CX1 P w) 3 CL "block" ["self","name"] (mW K R CL):=by
 obtain⟨f,hf,hm⟩:=T.FT;refine(fX (k:=2) hf zq λf cdv A outer s H vs Q E hr h=>?_).met hm;obtain⟨x,p,dx,n,zs,rs,nv,rfl,ly,lya,kk⟩:=h;have nd:=zq.nd;refine⟨_,(aq (cU PassesOwn.leaving rfl (bJ (jj (pv 0) rfl)) (pgz 2 nd) (aF (bL (aN (W4 (K:=K) rfl hr) (aO bF (pv 2) au (λ_ _=>rfl)) (pv 1) (aY _)) (aF (aR (pv 2))) bf)))
  (aF (lA T.zx (Az T.jJ (Oi T.jJ.S T.lZ) hr (aj (pv 1) ao))))),?_⟩
 clear nd ;rw[stE]
 try dsimp only[cI,bO,Sh]
 have hx:=ly.x;have hp:=ly.p;have tp:=ly.t;have few:=lya.l.few;have kJ:=lya.h;have zl:zs.length=rs.length:=by rw[tp.1,bw]
 have qz:=om hx;have m6:=om hp;have i_:=dN.mk tp;have F:=SH.n0 H;have abu:ExM K (c 1) (c 1) true:=⟨lB T.jJ.I⟩;have Jw:ExM K (c 1) R true:=⟨uG T.jJ.I T.c_R T.t_R T.m_R⟩;have nd:=wI lya.l;have an:m5 H nv:=by
  rcases kk with⟨r,_,rfl,_⟩|⟨⟨cs,rfl,_⟩|h,_⟩
  ·exact .flt (.inr (.inr (.inr ⟨_,rfl⟩)))
  ·exact .flt (.inr (.inr (.inr ⟨_,rfl⟩)))
  ·exact h.1
 repeat k_meth
 refine eE (xs:=zs) (λi σ' H'=>∃o2:Option V,An3 (σ'=[some (.ref x),some nv,o2]) ((∀s∈rs.take i,nv≠.str (tx s.nm))) (SH H [] H' [] [])) ⟨_,rfl,by simp,F⟩ ?_ ?_ ?_
 ·clear F;rintro i σ' H' _ ⟨_,rfl,_,F⟩;exact SqA.e
 ·clear F;rintro i v σ' H' hv ⟨_,rfl,hn,F⟩;obtain⟨s,q1,e1,rfl,e2⟩:=dh tp hv;have iy:=om e2;have aa:adW H' nv:=⟨an.kept λa u _ e=>F.sm a u e⟩;by_cases hs:V.str (tx s.nm)=nv
  ·subst hs
   repeat k_meth
   rcases kk with⟨r,hr,hrn,k⟩|⟨⟨cs,hc,z⟩|z,_⟩
   ·obtain rfl:=aeA nd e1 hr (lK (V.str.inj hrn));exact k q1 _ F.sm aM
   ·exact gL (lK (V.str.inj hc)) (z s (yT e1))
   ·exact gL rfl (z.2 _)
  ·repeat k_meth
   refine⟨_,rfl,λs' hs'=>?_,F⟩;rw[qV,e1] at hs';rcases wP.mp hs' with hs'|hs'
   ·exact hn s' hs'
   ·have:s'=s:=by simpa using hs'
    rw[this];exact Ne.symm hs
 ·clear F;rintro σ' H' ⟨_,rfl,hn,F⟩;rw[zl,List.take_length] at hn;rcases kk with⟨r,hr,hrn,_⟩|⟨_,k⟩
  ·exact gL hrn (hn r hr)
  ·repeat k_meth
   exact λd H' s e=>k _ _ d H' Jw (F.sm.trans s) e
def GJ(T:Txt K mg c R CL aG aA aH aB):Def P w K mg base CX0 1 "is_pair" ["thing"] (Cu K):=by
 refine dA T.Fo yP λf cdv A outer s H vs Q E hr h=>?_
 obtain⟨v,rfl,kk⟩:=h;have nd:=yP.nd;refine⟨_,(aF (aR (iI (aX cZ rfl T.bU boot_isinstance (aj (pv 0) (aj (je (T := "tuple") rfl T.j4 boot_tuple) ao))) (jP (gG dJ (aX bK rfl T.dz boot_len (aj (pv 0) ao)) au (aY _)))))),?_⟩;clear nd ;rw[stE]
 try dsimp only[cI,bO]
 have F:=SH.n0 H;rcases kk with⟨t,a,b,rfl,ht,k⟩|⟨⟨n1,ty,nt⟩|⟨t,xs,rfl,ht,nl⟩,k⟩
 ·have Jv:=om ht
  repeat k_meth
  exact k
 ·repeat k_meth
  refine w_is ty (pJ ty) ?_;rw[nt]
  repeat k_meth
  exact k
 ·have Jv:=om ht
  repeat k_meth
  rw[gS (by lia)];exact k
def O7(T:Txt K mg c R CL aG aA aH aB):Def P w K mg base CX0 3 "is_slide" ["layout","name","to"] (wJ CL):=by
 refine dA T.zJ vo λf cdv A outer s H vs Q E hr h=>?_
 obtain⟨x,p,dx,n,zs,rs,r,k0,v,rfl,ly,lya,hr0,pv0,k⟩:=h;have nd:=vo.nd;refine⟨_,(aq (psz 3 nd (jf (pv 0) T.clL (fH T) hr))
  (aq (psz 4 nd (Sx (jf (pv 0) T.clL (O6 T) hr) (pv 1)))
  (aq (psz 5 nd (oZ (aN dJ (pv 4) au (aY _)) au (aK (mD T) hr (aj (aK (iV T) hr (aj (aO bH (pv 3) (aW dI (pv 4) au) (λ_ _=>rfl)) ao)) ao))))
  (aq (psz 6 nd (oZ (aN dJ (pv 4) (aW dI (aX bK rfl T.dz boot_len (aj (pv 3) ao)) au) (aY _)) (jj (pv 0) rfl) (aO bF (aO bH (pv 3) (aW bQ (pv 4) au) (λ_ _=>rfl)) au (λ_ _=>rfl))))
  (aF (aR (aK (sU T) hr (aj (pv 2) (aj (pv 5) (aj (aW dI (pv 6) (aO bF (aO bH (pv 3) (pv 4) (λ_ _=>rfl)) au (λ_ _=>rfl))) ao)))))))))),?_⟩
 clear nd;rw[stE]
 try dsimp only[cI,bO]
 have hx:=ly.x;have hp:=ly.p;have tp:=ly.t;have few:=lya.l.few;have kJ:=lya.h;have zl:zs.length=rs.length:=by rw[tp.1,bw]
 have qz:=om hx;have m6:=om hp;have i_:=dN.mk tp;have F:=SH.n0 H;have pla:PlA v:=⟨pv0⟩;have hr:=hr0;have hk:=(jS.mp hr).1;have ix:aaR (rs.map (·.nm)) r.nm k0:=⟨by rw[wS,hr];rfl,wI lya.l⟩;obtain⟨q1,e1,e2⟩:∃q1,zs[k0]?=some (.ref q1)/\H q1=some (.tup (dD r)):=tp.2 k0 _ (by unfold aJ;rw[List.getElem?_map,hr];rfl);have iy:=om e2;have a1:AtI zs ((k0:Nat):Int) (.ref q1):=⟨cP e1⟩;rcases Nat.lt_or_ge (k0+1) rs.length with hl|hl
 ·rcases Nat.eq_zero_or_pos k0 with hk0|hk0
  ·have lw:iT rs k0=0:=by rw[hk0];rfl
   obtain⟨s1,hs1⟩:∃s1,rs[k0+1]?=some s1:=⟨_,qA hl⟩;obtain⟨q2,f1,f2⟩:∃q2,zs[k0+1]?=some (.ref q2)/\H q2=some (.tup (dD s1)):=tp.2 (k0+1) _ (by unfold aJ;rw[List.getElem?_map,hs1];rfl);have abv:=om f2;have a2:AtI zs (((k0:Nat):Int)+1) (.ref q2):=⟨by rw[show ((k0:Nat):Int)+1=((k0+1:Nat):Int) by lia];exact cP f1⟩;have hw:=Mt (n:=n) hs1
   repeat k_meth
   rw[lw,hw] at k;exact k _ F.sm
  ·obtain⟨r0,hr0⟩:∃r0,rs[k0-1]?=some r0:=⟨_,qA (by lia)⟩;have lw:=UG hr0;rw[show k0-1+1=k0 by lia] at lw;obtain⟨q0,d1,d2⟩:∃q0,zs[k0-1]?=some (.ref q0)/\H q0=some (.tup (dD r0)):=tp.2 (k0-1) _ (by unfold aJ;rw[List.getElem?_map,hr0];rfl);have ah3:=om d2;have a0:AtI zs (((k0:Nat):Int)-1) (.ref q0):=⟨by rw[show ((k0:Nat):Int)-1=((k0-1:Nat):Int) by lia];exact cP d1⟩;obtain⟨s1,hs1⟩:∃s1,rs[k0+1]?=some s1:=⟨_,qA hl⟩;obtain⟨q2,f1,f2⟩:∃q2,zs[k0+1]?=some (.ref q2)/\H q2=some (.tup (dD s1)):=tp.2 (k0+1) _ (by unfold aJ;rw[List.getElem?_map,hs1];rfl);have abv:=om f2;have a2:AtI zs (((k0:Nat):Int)+1) (.ref q2):=⟨by rw[show ((k0:Nat):Int)+1=((k0+1:Nat):Int) by lia];exact cP f1⟩;have hw:=Mt (n:=n) hs1
   repeat k_meth
   rw[lw,hw,Int.natCast_add] at k;exact k _ F.sm
 ·rcases Nat.eq_zero_or_pos k0 with hk0|hk0
  ·have lw:iT rs k0=0:=by rw[hk0];rfl
   have hw:=GF (n:=n) hl
   repeat k_meth
   rw[lw,hw] at k;exact k _ F.sm
  ·obtain⟨r0,hr0⟩:∃r0,rs[k0-1]?=some r0:=⟨_,qA (by lia)⟩;have lw:=UG hr0;rw[show k0-1+1=k0 by lia] at lw;obtain⟨q0,d1,d2⟩:∃q0,zs[k0-1]?=some (.ref q0)/\H q0=some (.tup (dD r0)):=tp.2 (k0-1) _ (by unfold aJ;rw[List.getElem?_map,hr0];rfl);have ah3:=om d2;have a0:AtI zs (((k0:Nat):Int)-1) (.ref q0):=⟨by rw[show ((k0:Nat):Int)-1=((k0-1:Nat):Int) by lia];exact cP d1⟩;have hw:=GF (n:=n) hl
   repeat k_meth
   rw[lw,hw,Int.natCast_add] at k;exact k _ F.sm
def UJ(T:Txt K mg c R CL aG aA aH aB):Def P w K mg base (CX1 P w) 4 "step_of" ["layout","name","to","moved_ahead"] (O5 K R CL):=by
 refine dX T.Fp yQ λf cdv A outer s H vs Q E hr h=>?_
 obtain⟨x,p,dx,l,n,zs,rs,nv,v,nms,rfl,ly,lya,hl,ajh,kk⟩:=h;have nd:=yQ.nd;refine⟨_,(aq (psz 4 nd (Ij (pv 0) T.clL (z9 T) hr (aj (pv 1) ao) (hx:=Ye)))
  (aq (bL (aN qP (pv 1) (pv 3) (by with_unfolding_all rfl)) (aF (lA T.Ln (Az T.qg (Xn T.qg.S T.qj) hr (aj (pv 1) ao)))) bf)
  (aq (bL (aN eH (aO bF (pv 4) au (λ_ _=>rfl)) au (aY _)) (aF (lA T.Fb (Kd T.mj (Tw T.mj.S T.nu T.nA) hr (aj (pv 1) (aj (aO bF (pv 4) au (λ_ _=>rfl)) ao))))) bf)
  (aq (bL (dW (dH (aK (O7 T) hr (aj (pv 0) (aj (pv 1) (aj (pv 2) ao)))))) (aF (lA T.zA (Kd T.jL (Om T.jL.S T.mq T.qm) hr (aj (pv 1) (aj (pv 2) ao))))) bf)
  (PSs.nox (aF (aR (bD (aj (pv 1) (aj (aO bF (pv 4) au (λ_ _=>rfl)) (aj (aO bF (pv 4) au (λ_ _=>rfl)) (aj (pv 2) ao)))))))))))),?_⟩
 clear nd;rw[stE]
 try dsimp only[cI,bO,Sh]
 have hx:=ly.x;have hp:=ly.p;have tp:=ly.t;have few:=lya.l.few;have kJ:=lya.h;have zl:zs.length=rs.length:=by rw[tp.1,bw]
 have qz:=om hx;have m6:=om hp;have jx:=om hl;have i_:=dN.mk tp;have F:=SH.n0 H;have aeE:ExM K (c 0) (c 0) true:=⟨lB T.qg.I⟩;have UL:ExM K (c 0) R true:=⟨uG T.qg.I T.c_R T.t_R T.m_R⟩;have acs:ExM K (c 2) (c 2) true:=⟨lB T.mj.I⟩;have O8:ExM K (c 2) R true:=⟨uG T.mj.I T.c_R T.t_R T.m_R⟩;have abw:ExM K (c 4) (c 4) true:=⟨lB T.jL.I⟩;have Jx:ExM K (c 4) R true:=⟨uG T.jL.I T.c_R T.t_R T.m_R⟩;rcases kk with⟨od,k⟩|⟨cs,rfl,pv0,kk⟩
 ·have oa:aeB K H nv:=⟨od⟩
  repeat k_meth
  exact k.mono F.sm
 have pla:PlA v:=⟨pv0⟩;by_cases hc:∃r∈rs,r.nm=cs
 ·obtain⟨r,hr,rfl⟩:=hc;obtain⟨k0,hk,ek⟩:=List.getElem_of_mem hr;have ek:rs[k0]?=some r:=by rw[qA hk,ek]
  have sa:=step_at (dn:=nms) (v:=v) lya.l ek;by_cases hd:r.nm∈nms
  ·rw[zS (.inl hd)] at sa;rcases kk with⟨_,k⟩|⟨_,_,z,_⟩
   ·repeat k_meth
    exact λd H' s e=>k _ _ d H' UL (F.sm.trans s) e
   ·rw[sa] at z;cases z
  ·by_cases hp0:0<r.pn
   ·rw[zS (.inr hp0)] at sa;rcases kk with⟨_,k⟩|⟨_,_,z,_⟩
    ·repeat k_meth
     exact λd H' s e=>k _ _ d H' O8 (F.sm.trans s) e
    ·rw[sa] at z;cases z
   ·rw[if_neg (by simp only[hd,hp0,or_self,not_false_eq_true])] at sa
    repeat k_meth
    refine⟨k0,ek,λH2 s2=>?_⟩;replace F:=F.same s2;cases hb:inB v (iT rs k0:Nat) ((dU n rs k0:Nat)-(r.sz:Int)) with
    | false =>
     rw[hb,if_neg (by simp)] at sa;rcases kk with⟨_,k⟩|⟨_,_,z,_⟩
     ·repeat k_meth
      exact λd H' s e=>k _ _ d H' Jx (F.sm.trans s) e
     ·rw[sa] at z;cases z
    | true =>
     rw[hb,zS rfl] at sa;obtain⟨i,rfl,i0,i1⟩:=Ms hb;obtain⟨j,rfl⟩:∃j:Nat,i=(j:Int):=⟨i.toNat,by lia⟩;have sa:fB n rs nms r.nm (.int (j:Nat))=some (k0,r.nm,((j:Nat):Int).toNat):=sa;rw[Int.toNat_natCast] at sa;rcases kk with⟨z,_⟩|⟨m,r2,z,hr2,k⟩
     ·rw[sa] at z;cases z
     ·rw[sa] at z;obtain rfl:=nI z;obtain rfl:r=r2:=nI (ek.symm.trans hr2)
      repeat k_meth
      exact k _ _ F.sm aM
 ·have nn:aeC rs cs:=⟨λr hr z=>hc ⟨r,hr,z⟩⟩;rcases kk with⟨_,k⟩|⟨_,_,z,_⟩
  ·repeat k_meth
   exact k.mono F.sm
  ·rw[rO nn.e] at z;cases z
end
open M22 M82 M87 M75
def iz{n:Nat}{rs:List Rw}{r:Rw}{k to:Nat}(h:LyA rs n)(s:Sld n rs r k to):LyA (mvT rs k to) n:=by
 have ok:=ad7 h.ok s.at_ s.lo s.hi;exact⟨Uj h.l (ad8 s.at_) ok,ok.asc,h.h,h.g⟩
def UW{n:Nat}{rs:List Rw}{r:Rw}{k to:Nat}(h:LyA rs n)(s:Sld n rs r k to):T7 n (rs.filter (λs=>decide (s.nm≠r.nm))++[oE r to]) (mvT rs k to):=⟨Xi (wI h.l) s.at_,(iz h s).l,(iz h s).a⟩
def O9(CL P:Addr)(pos:Pos)(qual:Str):Sp:=λvs H Q _=>SQ λ(x p dx:Addr) (n:Nat) (zs:List V) (rs:List Rw) (r:Rw) (k to:Nat) (ps:xF)=>An7 (vs=[.ref x,.str (tx r.nm),.int (to:Nat)]) (LyH CL H x p dx n zs rs) (LyA rs n) (Sld n rs r k to) (H P=some (.tbl ps)) (TabOk pos qual ps H) (∀(y dy q:Addr)(ys:List V)(ps':xF)(H':Hp),Kp P H H'->H' y=some (.ins CL dy (lF n q))->H' q=some (.lst ys)->aD H' ys (aJ (mvT rs k to))->(∀b u,H b=some u->b≠y/\b≠q)->y≠q->H' P=some (.tbl ps')->TabOk pos qual ps' H'->Q (.ref y) H')
def f9:List Rw->List Mv->List (List V)
 | _,[]=>[]
 | T,m::ms=>(match T[m.1]? with
  | some r=>[V.str (tx r.nm),V.int (r.st:Nat),V.int (r.sz:Nat),V.int (m.2.2:Nat)]
  | none=>[])::f9 (mvT T m.1 m.2.2) ms
abbrev MvX:=List Nat×V
def mvX(m:MvX):List V:=[.str (tx m.1),m.2]
inductive Elt where
 | mv (m:MvX)
 | od
 | no
def prE:Elt->Bool
 | .no=>false
 | _=>true
def nJ(K:W.Frag)(H:Hp)(v:V):Elt->Prop
 | .mv m=>∃q,v=.ref q/\H q=some (.tup (mvX m))/\okP m.2=true
 | .od=>∃q a b,v=.ref q/\H q=some (.tup [a,b])/\mG K H a
 | .no=>qL K H v
def gD(K:W.Frag)(H:Hp)(ws:List V)(es:List Elt):Prop:=ws.length=es.length/\∀(i:Nat)(v:V),ws[i]?=some v->∃e,es[i]?=some e/\nJ K H v e
def cO(n:Nat):List Rw->List (List Nat)->List Elt->Option (List Mv)
 | _,_,[]=>some []
 | T,dn,.mv m::es=>match fB n T dn m.1 m.2 with
  | none=>none
  | some s=>(cO n (mvT T s.1 s.2.2) (dn++[m.1]) es).map (s::·)
 | _,_,.od::_=>none
 | _,_,.no::_=>none
def oU{n:Nat}{T:List Rw}{dn:List (List Nat)}{m:MvX}{es:List Elt}(h:fB n T dn m.1 m.2=none):cO n T dn (.mv m::es)=none:=by unfold cO;rw[h]
def j8{n:Nat}{T:List Rw}{dn:List (List Nat)}{m:MvX}{es:List Elt}{s:Mv}(h:fB n T dn m.1 m.2=some s):cO n T dn (.mv m::es)=(cO n (mvT T s.1 s.2.2) (dn++[m.1]) es).map (s::·):=by
 show (match fB n T dn m.1 m.2 with|none=>none|some s=>_)=_
 rw[h]
theorem jM{n:Nat}{e:Elt}(h:∀m,e≠.mv m):∀{es:List Elt} {T:List Rw} {dn:List (List Nat)},e∈es->cO n T dn es=none
 | [],_,_,z=>by cases z
 | a::es,T,dn,z=>by
  cases a with
  | od=>rfl
  | no=>rfl
  | mv m =>
   have z:e∈es:=(vS.mp z).resolve_left (h m);cases es2:fB n T dn m.1 m.2 with
   | none=>exact oU es2
   | some s=>rw[j8 es2,jM h z];rfl
structure GoX(n:Nat)(rs:List Rw)(es:List Elt)(i:Nat)(w:List Mv):Prop where
 len:w.length=i
 ok:WOk n rs w
 nd:(w.map (·.2.1)).Nodup
 eq:cO n rs [] es=(cO n (bV rs w) (w.map (·.2.1)) (es.drop i)).map (w++·)
def GoX.zero(n:Nat)(rs:List Rw)(es:List Elt):GoX n rs es 0 []:=⟨rfl,trivial,List.nodup_nil,by
 rw[List.drop_zero];show cO n rs [] es=(cO n rs [] es).map _;cases cO n rs [] es <;> rfl⟩
theorem GK{n:Nat}:∀{w:List Mv} {T:List Rw} {s:Mv} {r:Rw},WOk n T w->Sld n (bV T w) r s.1 s.2.2->r.nm=s.2.1->WOk n T (w++[s])
 | [],T,s,r,_,h,e=>⟨⟨r,h.at_,e,h.pn,h.lo,h.hi⟩,trivial⟩
 | a::w,T,s,r,ok,h,e=>⟨ok.1,GK (w:=w) ok.2 h e⟩
def GoX.no{n:Nat}{rs:List Rw}{ms:List Elt}{i:Nat}{w:List Mv}{m:MvX}(g:GoX n rs ms i w)(e0:ms[i]?=some (.mv m))(h:fB n (bV rs w) (w.map (·.2.1)) m.1 m.2=none):cO n rs [] ms=none:=by
 obtain⟨hi,e⟩:=jS.mp e0;rw[g.eq,List.drop_eq_getElem_cons hi,e,oU h]
 rfl
def GoX.go{n:Nat}{rs:List Rw}{ms:List Elt}{i:Nat}{w:List Mv}{m:MvX}{s:Mv}(g:GoX n rs ms i w)(ly:Lay n (bV rs w))(e0:ms[i]?=some (.mv m))(h:fB n (bV rs w) (w.map (·.2.1)) m.1 m.2=some s):GoX n rs ms (i+1) (w++[s]):=by
 obtain⟨hi,e⟩:=jS.mp e0;obtain⟨r,sl,rn,sn,nd,_⟩:=rP ly h;have e2:bV rs (w++[s])=mvT (bV rs w) s.1 s.2.2:=by unfold bV;rw[List.foldl_append];rfl
 refine⟨by rw[yB,g.len];rfl,GK g.ok sl (rn.trans sn.symm),?_,?_⟩
 ·rw[List.map_append,List.nodup_append];refine⟨g.nd,by simp,λa ha b hb=>?_⟩;have hb:b=s.2.1:=by simpa using hb
  rw[hb,sn];exact λz=>nd (z▸ha)
 ·rw[g.eq,List.drop_eq_getElem_cons hi,e,j8 h,e2,Option.map_map];show (cO n _ (_++[m.1]) _).map _=(cO n _ ((w++[s]).map _) _).map _;rw[List.map_append,show [s].map (·.2.1)=[m.1] by simp[sn]]
  congr 1
  funext z
  simp
def GoX.done{n:Nat}{rs:List Rw}{ms:List Elt}{i:Nat}{w:List Mv}(g:GoX n rs ms i w)(h:ms.length<=i):cO n rs [] ms=some w:=by
 rw[g.eq,List.drop_of_length_le h];show some (w++[])=_;rw[mE]
def GP(K:W.Frag)(H:Hp)(u:V):Prop:=∃n1:String,dj K H u (.type n1)/\(n1 == "list")=false
theorem mG.kp{K:W.Frag}{H H':Hp}{v:V}{P:Addr}{ps:xF}(h:mG K H v)(hP:H P=some (.tbl ps))(k:Kp P H H'):mG K H' v:=by
 refine⟨?_,h.2⟩;cases h.1 with
 | flt z=>exact .flt z
 | lst e=>exact .lst (k _ _ (λz=>by rw[z,hP] at e;cases e) e)
 | tup e=>exact .tup (k _ _ (λz=>by rw[z,hP] at e;cases e) e)
def RzP(K:W.Frag)(R:Addr)(E:XK)(P:Addr)(pos:Pos)(qual:Str)(H:Hp):Prop:=∀C fs d H' ps',ExM K C R true->Kp P H H'->H' P=some (.tbl ps')->TabOk pos qual ps' H'->H' d=some (jB d fs)->E (.ref C) (some d) H'
def X3(K:W.Frag)(R CL P:Addr)(pos:Pos)(qual:Str):Sp:=λvs H Q E=>Ex7 λ(x p dx:Addr) (n:Nat) (zs:List V) (rs:List Rw) (u:V)=>An4 (vs=[.ref x,u]) (LyH CL H x p dx n zs rs) (LyA rs n) (((GP K H u/\RzR K R E H)\/∃m ws ms ps,u=.ref m/\H m=some (.lst ws)/\gD K H ws ms/\ms.length<=41/\H P=some (.tbl ps)/\TabOk pos qual ps H /\
 ((cO n rs [] ms=none/\RzP K R E P pos qual H)\/∃w,cO n rs [] ms=some w/\∀(t s y dy q:Addr)(ss ys:List V)(ps':xF)(H':Hp),SH H [P] H' [(s,.lst ss),(P,.tbl ps')] [.tup t [.ref s,.ref y],.tps ss (f9 rs w),cL pos qual ps']->LyH CL H' y q dy n ys (bV rs w)->Q (.ref t) H')))
theorem U0{n:Nat}:∀{ms:List Mv} {T:List Rw},WOk n T ms->(f9 T ms).map (λr=>r.getD 0 V.non)=(ms.map (·.2.1)).map λcs=>V.str (tx cs)
 | [],_,_=>rfl
 | m::ms,T,h=>by
  obtain⟨⟨r,hr,hn,_⟩,h2⟩:=h;unfold f9;rw[oS,oS,oS,U0 h2,hr,<- hn]
  rfl
theorem Mu:∀(ms:List Mv)(T:List Rw),(f9 T ms).length=ms.length
 | [],_=>rfl
 | m::ms,T=>by unfold f9;rw[List.length_cons,Mu ms,List.length_cons]
theorem Mw{n:Nat}:∀{ms:List Mv} {T:List Rw},WOk n T ms->∀w∈f9 T ms,∃(a:Str)(b c d:Int),w=[.str a,.int b,.int c,.int d]
 | [],_,_=>λ_ h=>by cases h
 | m::ms,T,h=>λw hw=>by
  obtain⟨⟨r,hr,_⟩,h2⟩:=h;unfold f9 at hw;rw[hr] at hw;rcases vS.mp hw with rfl|hw
  ·exact⟨_,_,_,_,rfl⟩
  ·exact Mw h2 w hw
theorem Mx:∀(w:List Mv)(T:List Rw)(v:List Mv),f9 T (w++v)=f9 T w++f9 (bV T w) v
 | [],_,_=>rfl
 | m::w,T,v=>by
  show _::f9 (mvT T m.1 m.2.2) (w++v)=_;rw[Mx w]
  rfl
def bM{H:Hp}{a b:Addr}{o1 o2:HO}(h1:H a=some o1)(h2:H b=some o2)(n:o1≠o2):a≠b:=λz=>by
 rw[z,h2] at h1;exact n (nI h1).symm
def nm2{a b c:Addr}(h:a≠b)(g:a≠c):a ∉ [b,c]:=by simp[h,g]
section
variable{P:Program}{w:World}{K:W.Frag}{mg:xC}{base:Heap}{c:Nat->Addr}{aG aA aH aB R CL:Addr}
def O_(T:Txt K mg c R CL aG aA aH aB)(B:Bm mg base):Met P w K mg base CX0 8 CL "moved" ["self","name","to"] (O9 CL aA cA bR):=by
 obtain⟨f,hf,hm⟩:=T.FW;refine(fA (k:=7) hf zu λf cdv A outer s H vs Q E hr h=>?_).met hm;obtain⟨x,p,dx,n,zs,rs,r,k0,to,ps,rfl,ly,lya,sl,hP,tk,k⟩:=h;have nd:=zu.nd;refine⟨_,(aq (psz 3 nd (Ij (pv 0) T.clL (z9 T) hr (aj (pv 1) ao) (hx:=ZQ)))
  (aq (bL (dW (dH (aK (mO T) hr (aj (pv 2) (aj au ao))))) eV bf)
  (aq (gH (i:=4) nd rfl (Or.inl rfl) (N:=["other","name"]) (nt:=1) (fr:=[1]) (bJ (jj (pv 0) rfl)) (λ_ _ _ _=>(bG (i:=0) (show (["other","name"]:List Str).Nodup from by decide +kernel) rfl (Or.inl rfl))) (λ_ _ _ _=>d9 (aN j_ (aO (cD (K:=K) rfl) (pv 0) au (λ_ _=>rfl)) (pv 1) (aY _))) (λ_ _ _ _=>(pv 0)))
  (aF (aR (Bf (wj T B) hr (aj (jj (pv 0) rfl) (aj (aW dG (pv 4) (bC (aj (bD (aj (pv 1) (aj (pv 2) (aj (aO bF (pv 3) au (λ_ _=>rfl)) (aj (aO bF (pv 3) au (λ_ _=>rfl)) ao))))) ao))) ao)))))))),?_⟩
 clear nd;rw[stE]
 try dsimp only[cI,bO]
 have hx:=ly.x;have hp:=ly.p;have tp:=ly.t;have few:=lya.l.few;have kJ:=lya.h;have zl:zs.length=rs.length:=by rw[tp.1,bw]
 have nxP:=bM hx hP (by simp);have npP:=bM hp hP (by simp);have F:SH H [aA] H [(aA,.tbl ps)] [.tps zs (aJ rs),cL cA bR ps]:=((SH.nil.g8 List.mem_cons_self hP rfl (by simp)).jt tk).d8 tp;have qz:=Old.mk (M:=[aA]) hx (nm1 nxP);have m6:=Old.mk (M:=[aA]) hp (nm1 npP);have hr:r∈rs:=yT sl.at_;have la:=UW lya sl;have lym:=iz lya sl;have sdn:16<=n/\n<=240:=⟨lya.g,lya.h⟩
 repeat k_meth
 refine ni (fvs:=[some (.str (tx r.nm))]) (pr:=λs=>decide (s.nm≠r.nm)) aM (TpA.e (rs:=aJ rs)) (by lia) rfl (λq s H1 R hs s1 h1 kk=>?_) λlo ys H1 n1 t1 yl1=>?_
 ·clear F;have F:=SH.n0 H1;have X4:=om h1;have kk:=kk _ (Same.refl _);by_cases e9:s.nm=r.nm
  ·have e8:tx s.nm=tx r.nm:=by rw[e9]
   rw[gS (show ¬ (s.nm≠r.nm) from λz=>z e9)] at kk
   repeat k_meth
   rw[gX e8];exact kk
  ·have e8:¬ tx s.nm=tx r.nm:=λz=>e9 (lK z)
   rw[gX e9] at kk
   repeat k_meth
   rw[gS e8];exact kk
 ·replace F:=F.newR n1 t1;clear n1 t1;have yo:ys.length=(rs.filter λs=>decide (s.nm≠r.nm)).length:=by
   have:=(TpA.e (H:=H1) (ys:=ys) (rs:=aJ (rs.filter λs=>decide (s.nm≠r.nm)))).1;rw[bw] at this;exact this
  have ol:=List.length_filter_le (λs:Rw=>decide (s.nm≠r.nm)) rs
  repeat k_meth
  rename_i tq _ _ _;obtain⟨lq,elq⟩:∃z,z=p_:=⟨_,rfl⟩;subst elq;rw[show [V.str (tx r.nm),V.int (to:Nat),V.int (r.sz:Nat),V.int (r.pn:Nat)]=dD (oE r to) from rfl] at F;replace F:=SH.app (ys:=ys) (rs:=aJ (rs.filter λs=>decide (s.nm≠r.nm))) (q:=tq) (r:=dD (oE r to)) F (LkP.m) (LkI.m);rw[<- oO] at F
  repeat k_meth
  intro ps2
  repeat k_meth
  exact k x_ dx_ p_ ys_ ps2 _ F.kpo aM aM TpA.e (λb u e=>⟨F.fresh (LkL.m (o:=.ins CL dx_ (lF (n:Nat) p_))) (nm1 (SH.neC (F:=F))) b u e,F.fresh (LkL.m (o:=.lst ys_)) (nm1 (SH.neC (F:=F))) b u e⟩) (SH.neC (F:=F)) aM SH.tab
end
section
variable{P:Program}{w:World}{K:W.Frag}{mg:xC}{base:Heap}{c:Nat->Addr}{aG aA aH aB R CL:Addr}
def abx(T:Txt K mg c R CL aG aA aH aB)(B:Bm mg base):Def P w K mg base (CX1 P w) 9 "gone_through" ["layout","moves"] (X3 K R CL aA cA bR):=by
 refine dX T.Tz Ld λf cdv A outer s H vs Q E hr h=>?_
 obtain⟨x,p,dx,n,zs,rs,u,rfl,ly,lya,kk⟩:=h;have nd:=Ld.nd;refine⟨_,(aq (bL (PW.pt (gO (dW (dH (aX cZ rfl T.bU boot_isinstance (aj (pv 1) (aj (je (T := "list") rfl T.iU boot_list) ao))))) (gY (dW (dH (aX (Di rfl) rfl T.T4 boot_all (aj (cQ (N:=["move"]) (nt:=1) (fr:=[]) (bJ (pv 1)) (λ_ _ _ _=>(bG (i:=0) (show (["move"]:List Str).Nodup from by decide +kernel) rfl (Or.inl rfl))) (λ_ _ _ _=>dF) (λ_ _ _ _=>(aK (GJ T) hr (aj (pv 0) ao)))) ao))))))) (aF (lA T.zy (Az T.jK (Ol T.jK.S T.kj) hr (aj (pv 1) ao)))) bf)
  (aq (psz 2 nd (bC ao))
  (aq (cU PassesOwn.leaving rfl (bJ (pv 1)) (fD rfl (aV (pgz 3 nd) (aV (pgz 4 nd) cW))) (aq (gH (i:=5) nd rfl (Or.inl rfl) (N:=["step"]) (nt:=1) (fr:=[]) (bJ (pv 2)) (λ_ _ _ _=>(bG (i:=0) (show (["step"]:List Str).Nodup from by decide +kernel) rfl (Or.inl rfl))) (λ_ _ _ _=>dF) (λ_ _ _ _=>(aO (cD (K:=K) rfl) (pv 0) au (λ_ _=>rfl))))
   (aq (cT (cB (pv 2) (aK (UJ T) hr (aj (pv 0) (aj (pv 3) (aj (pv 4) (aj (pv 5) ao)))) (hx:=Ye))))
   (aF (psz 0 nd (Ij (pv 0) T.clL (O_ T B) hr (aj (pv 3) (aj (pv 4) ao))))))))
  (PSs.nox (aF (aR (bD (aj (pv 2) (aj (pv 0) ao))))))))),?_⟩
 clear nd;rw[stE]
 try dsimp only[cI,bO,Sh]
 have hx:=ly.x;have hp:=ly.p;have tp:=ly.t;have few:=lya.l.few;have kJ:=lya.h;have zl:zs.length=rs.length:=by rw[tp.1,bw]
 have aby:ExM K (c 3) (c 3) true:=⟨lB T.jK.I⟩;have wK:ExM K (c 3) R true:=⟨uG T.jK.I T.c_R T.t_R T.m_R⟩;rcases kk with⟨⟨n1,ty,nl⟩,k⟩|⟨m,ws,ms,ps,rfl,hm,tm,m41,hP,tk,kk⟩
 ·have F:=SH.n0 H;have o_u:N8 K H [] u n1:=⟨ty,λ_ _ z=>by cases z⟩
  repeat k_meth
  rw[nl]
  repeat k_meth
  exact λd H' s e=>k _ _ d H' wK (F.sm.trans s) e
 have F:SH H [aA] H [(aA,.tbl ps)] [.tps zs (aJ rs),cL cA bR ps]:=((SH.nil.g8 List.mem_cons_self hP rfl (by simp)).jt tk).d8 tp;have qz:=Old.mk (M:=[aA]) hx (nm1 (bM hx hP (by simp)));have m6:=Old.mk (M:=[aA]) hp (nm1 (bM hp hP (by simp)));have abA:=Old.mk (M:=[aA]) hm (nm1 (bM hm hP (by simp)));have wl:ws.length=ms.length:=tm.1
 repeat k_meth
 refine comp_map (P:=λi y=>∃e,ms[i]?=some e/\y=V.bl (prE e)) (cV (xs:=ws)) (by lia) rfl (λH' s=>s.seq SqA.e) (λi v H1 R hv s1 kk=>?_) λl H1 ys nw yl hB=>?_
 ·obtain⟨e,e1,ea⟩:=tm.2 i v hv;clear F;have F:=SH.n0 H1;cases e with
  | mv mm =>
   obtain⟨q1,rfl,e2,_⟩:=ea;have h1:H1 q1=some (.tup (mvX mm)):=s1 _ _ e2;have X4:Old H1 [] q1 (.tup [.str (tx mm.1),mm.2]):=om h1
   repeat k_meth
   exact kk _ _ F.sm ⟨_,e1,rfl⟩
  | od =>
   obtain⟨q1,a,b,rfl,e2,_⟩:=ea;have h1:H1 q1=some (.tup [a,b]):=s1 _ _ e2;have X4:=om h1
   repeat k_meth
   exact kk _ _ F.sm ⟨_,e1,rfl⟩
  | no =>
   have ba:abr K H1 v:=⟨qL.same ea s1⟩
   repeat k_meth
   exact kk _ _ F.sm ⟨_,e1,rfl⟩
 obtain rfl:ys=(ms.map prE).map V.bl:=by
  refine List.ext_getElem? λi=>?_
  rw[wS,wS];cases h:ys[i]? with
  | none =>
   rw[List.getElem?_eq_none_iff] at h;rw[List.getElem?_eq_none_iff.mpr (by lia)]
   rfl
  | some y =>
   obtain⟨e,e1,rfl⟩:=hB i y h;rw[e1]
   rfl
 replace F:=F.newL nw
 repeat k_meth
 refine⟨l,_,rfl,SqA.e,?_⟩;by_cases bad:Elt.no∈ms
 ·have e0:(ms.map prE).all id=false:=by
   rw[<- Bool.not_eq_true,List.all_eq_true];exact λz=>by have:=z _ (List.mem_map_of_mem (f:=prE) bad);cases this
  rw[e0];have wn:cO n rs [] ms=none:=jM (λm=>by simp) bad;clear F;have F:SH H [] H1 [(l,.lst _)] []:=(SH.nil:SH H [] H [] []).newL nw;have aji:=om hm
  repeat k_meth
  rcases kk with⟨_,k⟩|⟨_,z,_⟩
  ·exact λd H' s e=>let s2:=F.sm.trans s;k _ _ d H' ps wK (λb u _ hb=>s2 _ _ hb) (s2 _ _ hP) (TabOk.st _ _ (λa o _ e=>s2 a o e) tk) e
  ·rw[wn] at z;cases z
 have e0:(ms.map prE).all id=true:=by
  rw[List.all_eq_true];intro b hb;obtain⟨e,he,rfl⟩:=vT.mp hb;cases e with
  | no=>exact gL he bad
  | _=>rfl
 rw[e0]
 repeat k_meth
 rename Addr=>st
 have nps:p≠st:=F.fresh (LkL.m (o:=.lst _)) (nm1 (SH.neC (F:=F))) p _ hp;refine eE (xs:=ws) (λi σ' H'=>SQ λ(o3 o4 o5:Option V) (y q dy:Addr) (ys ss:List V) (ps:xF) (w:List Mv)=>An7 (σ'=[some (.ref y),some (.ref m),some (.ref st),o3,o4,o5]) (LyH CL H' y q dy n ys (bV rs w)) (LyA (bV rs w) n) (q≠st) (GoX n rs ms i w) (ss.length=i) (SH H [aA] H' [(st,.lst ss),(aA,.tbl ps)] [.tps ss (f9 rs w),cL cA bR ps])) ⟨_,_,_,x,p,dx,zs,[],ps,[],rfl,⟨aM,aM,TpA.e⟩,lya,nps,GoX.zero n rs ms,rfl,(F.d8 (ys:=[]) (rs:=f9 rs []) aD.nil).sub SbC.s SbI.s⟩ ?_ ?_ ?_
 ·clear F;rintro i σ' H' _ ⟨_,_,_,y,q,dy,ys,ss,ps1,w,rfl,lyi,Jy,nq,gx,sl,F⟩;exact SqA.e
 ·clear F;rintro i v σ' H' hv ⟨_,_,_,y,q,dy,ys,ss,ps1,w,rfl,lyi,Jy,nq,gx,sl,F⟩;obtain⟨e,e1,ea⟩:=tm.2 i v hv;have ah1:i<ms.length:=(jS.mp e1).1;obtain⟨q1,a,b,rfl,e2,ab⟩:∃q1 a b,v=.ref q1/\H q1=some (.tup [a,b])/\((e=.od/\mG K H a)\/∃mm,e=.mv mm/\a=.str (tx mm.1)/\b=mm.2/\okP mm.2=true):=by
   cases e with
   | mv mm=>exact⟨_,_,_,ea.choose_spec.1,ea.choose_spec.2.1,.inr ⟨mm,rfl,rfl,rfl,ea.choose_spec.2.2⟩⟩
   | od =>
    obtain⟨q1,a,b,h1,h2,h3⟩:=ea;exact⟨q1,a,b,h1,h2,.inl ⟨rfl,h3⟩⟩
   | no=>exact gL (yT e1) bad
  have h1:H' q1=some (.tup [a,b]):=F.fr _ _ (nm1 (bM e2 hP (by simp))) e2;have hst:H' st=some (.lst ss):=aM;have hpt:H' aA=some (.tbl ps1):=aM;have tk1:TabOk cA bR ps1 H':=SH.tab;have tss:aD H' ss (f9 rs w):=TpA.e;have Fo2:SH H [aA] H' ([(st,.lst ss),(aA,.tbl ps1)]++[]) [.tps ss (f9 rs w),cL cA bR ps1]:=F;have nsP:st≠aA:=bM hst hpt (by simp);have frs:∀b u,H b=some u->b≠st:=F.fresh (LkL.m (o:=.lst ss)) (nm1 nsP);have ah4:=gx.len;have ajY:=Mu w rs;clear F;have F:SH H' [st,aA] H' [(st,.lst ss),(aA,.tbl ps1)] [.tps ys (aJ (bV rs w)),.tps ss (f9 rs w),cL cA bR ps1]:=((((SH.nil.g8 (by simp) hpt rfl (by simp)).g8 (by simp) hst rfl (by simp[Ne.symm nsP])).jt tk1).d8 tss).d8 lyi.t;have o_y:=Old.mk (M:=[st,aA]) lyi.x (nm2 (bM lyi.x hst (by simp)) (bM lyi.x hpt (by simp)));have o_q:=Old.mk (M:=[st,aA]) lyi.p (nm2 nq (bM lyi.p hpt (by simp)));have X4:Old H' [st,aA] q1 (.tup [a,b]):=Old.mk (M:=[st,aA]) h1 (nm2 (bM h1 hst (by simp)) (bM h1 hpt (by simp)))
  repeat k_meth
  refine gq (F:=λr=>r.getD 0 .non) aM (TpA.e (rs:=f9 rs w)) (by lia) rfl (λq w2 H1 R hw s1 f1 kk=>?_) λl H1 n1=>?_
  ·obtain⟨a0,b0,c0,d0,rfl⟩:=Mw gx.ok w2 hw;clear F;have F:=SH.n0 H1;have ajZ:=om f1
   repeat k_meth
   exact kk _ (Same.refl _)
  rw[U0 gx.ok] at n1;replace F:=F.newL n1
  repeat k_meth
  have Mz:∀{H5:Hp},Same _ H5->Kp aA H H5/\H5 aA=some (.tbl ps1)/\TabOk cA bR ps1 H5:=λs5=>⟨λb u nb hb=>s5 _ _ (F.fr b u (nm2 (frs b u hb) nb) (Fo2.fr b u (nm1 nb) hb)),s5 _ _ aM,TabOk.st _ _ (λa o _ e=>s5 a o e) SH.tab⟩
  refine⟨y,q,dy,l,n,ys,_,a,b,w.map λm:Mv=>m.2.1,rfl,⟨aM,aM,TpA.e⟩,Jy,aM,by rw[wE];lia,?_⟩;rcases ab with⟨rfl,oa⟩|⟨mm,rfl,rfl,rfl,okm⟩
  ·have wn:cO n rs [] ms=none:=jM (λm=>by simp) (List.mem_of_getElem? e1);have oa2:=oa.kp hP (Mz (Same.refl _)).1;rcases kk with⟨_,k⟩|⟨_,z,_⟩
   ·exact .inl ⟨oa2,λC fs d H5 xm s5 e5=>let b:=Mz s5;k C fs d H5 ps1 xm b.1 b.2.1 b.2.2 e5⟩
   ·rw[wn] at z;cases z
  refine .inr ⟨_,rfl,okm,?_⟩;cases es:fB n (bV rs w) (w.map (·.2.1)) mm.1 mm.2 with
  | none =>
   have wn:=gx.no e1 es;rcases kk with⟨_,k⟩|⟨_,z,_⟩
   ·exact .inl ⟨rfl,λC fs d H5 xm s5 e5=>let b:=Mz s5;k C fs d H5 ps1 xm b.1 b.2.1 b.2.2 e5⟩
   ·rw[wn] at z;cases z
  | some s =>
   clear Mz;have gx2:=gx.go Jy.l e1 es;obtain⟨r,sld,hn,sn,_,ev⟩:=rP Jy.l es;refine .inr ⟨s,r,rfl,sld.at_,λqs H5 s5 e5=>?_⟩;have sat:f9 rs (w++[s])=f9 rs w++[[V.str (tx mm.1),V.int (r.st:Nat),V.int (r.sz:Nat),V.int (s.2.2:Nat)]]:=by
    rw[Mx,show f9 (bV rs w) [s]=[[V.str (tx r.nm),V.int (r.st:Nat),V.int (r.sz:Nat),V.int (s.2.2:Nat)]] by unfold f9;rw[sld.at_];rfl,hn]
   replace F:=(F.same s5).uM e5
   repeat k_meth
   have F3:=SH.app (ys:=ss) (rs:=f9 rs w) (q:=qs) (r:=[V.str (tx mm.1),V.int (r.st:Nat),V.int (r.sz:Nat),V.int (s.2.2:Nat)]) F (LkP.m) (LkI.m);rw[<- sat] at F3;clear F;have F:SH H' [st,aA] H_ _ _:=F3;clear F3;have h9:H_ st=some (.lst (ss++[.ref qs])):=aM;rw[ev,<- hn];refine⟨y,q,dy,n,ys,_,r,s.1,s.2.2,ps1,rfl,⟨aM,aM,TpA.e⟩,Jy,sld,aM,SH.tab,λy2 dy2 q2 ys2 ps2 H4 kp hy2 hq2 ht2 fr2 aj0 hP2 tk2=>?_⟩;have lyn:=iz Jy sld;have e2:bV rs (w++[s])=mvT (bV rs w) s.1 s.2.2:=by unfold bV;rw[List.foldl_append];rfl
   rw[<- e2] at lyn ht2;replace F:=SH.jt (st:=TabOk.st) (F.kp kp hP2 LkU.u rfl) tk2
   repeat k_meth
   have F1:SH H' [st,aA] _ [(st,.lst (ss++[.ref qs])),(aA,.tbl ps2)] [.tps (ss++[.ref qs]) (f9 rs (w++[s])),cL cA bR ps2]:=F.sub SbC.s SbI.s;have F2:=SH.over Fo2 F1 rfl;clear F F1;simp only[List.cons_append,List.nil_append] at F2;exact⟨_,_,_,y2,q2,dy2,ys2,ss++[.ref qs],ps2,w++[s],rfl,⟨hy2,hq2,ht2⟩,lyn,λz=>(fr2 st _ h9).2 z.symm,gx2,by rw[yB,sl];rfl,F2.sub SbC.s SbI.s⟩
 ·clear F;rintro σ' H' ⟨_,_,_,y,q,dy,ys,ss,ps1,w,rfl,lyi,Jy,nq,gx,sl,F⟩;have wd:=gx.done (by lia);rcases kk with⟨z,_⟩|⟨w2,e9,k⟩
  ·rw[wd] at z;cases z
  rw[wd] at e9;obtain rfl:=nI e9;have F0:=λ(_:True)=>F
  clear F;have F:SH H' [] H' [] []:=SH.nil
  repeat k_meth
  have F2:=((F0 trivial).same F.sm).uM (aM:H_ p_=some (.tup [.ref st,.ref y]));have ly2:=lyi.same F.sm;clear F F0;exact k _ st y dy q ss ys ps1 _ (F2.sub SbC.s SbI.s) ly2
end
open M22 M82 M87 M75
def GQ:Sp:=λvs H Q _=>∃(p:Addr)(fs:xE),An4 (vs=[.ref p]) (H p=some (.lst (fs.map V.bl))) (fs.length<=240) (∀(q:Addr)(ys:List V)(H':Hp),New H H' q (.lst ys)->aD H' ys (jg (jX fs))->Q (.ref q) H')
def Jz{fs:xE}{i:Nat}{b:Bool}(h:fs[i]?=some b):fs.take (i+1)=fs.take i++[b]:=by rw[qV,h];rfl
theorem U3{fs:xE}{i:Nat}{x:V}(h:(fs.map V.bl)[i]?=some x):∃b,fs[i]?=some b/\x=.bl b:=by
 rw[wS] at h;cases e:fs[i]? with
 | none=>rw[e] at h;cases h
 | some b=>rw[e] at h;exact⟨b,rfl,(nI h).symm⟩
def freeOf(n:Nat)(rs:List Rw):List Bool:=rs.foldl (λfs r=>jY fs r.st r.sz false) (List.replicate n true)
def GR(n:Nat)(rs:List Rw)(r:Rw):freeOf n (rs++[r])=jY (freeOf n rs) r.st r.sz false:=by unfold freeOf;rw[List.foldl_append];rfl
def wL{n:Nat}{rs:List Rw}(h:∀r∈rs,r.st+r.sz<=n):(freeOf n rs).length=n:=by
 have:∀(rs:List Rw)(fs:xE),fs.length=n->(∀r∈rs,r.st+r.sz<=n)->(rs.foldl (λfs r=>jY fs r.st r.sz false) fs).length=n:=by
  intro rs
  induction rs with
  | nil=>intro fs e _;exact e
  | cons r t ih =>
   intro fs e hr;refine ih _ ?_ λs hs=>hr s (zD _ hs)
   rw[Ec (by rw[e];exact hr r zC)];exact e
 exact this rs _ (by simp) h
def U4{fs:xE}{a i:Nat}{v:Bool}(h:a+i<fs.length):((jY fs a i v).map V.bl).set ((a:Int)+(i:Int)).toNat (.bl v)=(jY fs a (i+1) v).map V.bl:=by
 rw[show ((a:Int)+(i:Int)).toNat=a+i by lia,Ed,SX (by rw[wE];exact h),<- Ed]
section
variable{CL x p dx:Addr}{H:Hp}{Q:VK}{E:XK}{n:Nat}{zs:List V}{rs:List Rw}{fs:xE}
def Aa(CL:Addr):Sp:=λvs H Q _=>Ex6 λ(x p dx:Addr) (n:Nat) (zs:List V) (rs:List Rw)=>An7 (vs=[.ref x]) (H x=some (.ins CL dx (lF (n:Nat) p))) (H p=some (.lst zs)) (aD H zs (aJ rs)) ((∀r∈rs,r.st+r.sz<=n)) (n<=240) (∀q H',New H H' q (.lst ((freeOf n rs).map V.bl))->Q (.ref q) H')
def wM(CL:Addr):Sp:=λvs H Q _=>Ex6 λ(x p dx:Addr) (n:Nat) (zs:List V) (rs:List Rw)=>An7 (vs=[.ref x]) (H x=some (.ins CL dx (lF (n:Nat) p))) (H p=some (.lst zs)) (aD H zs (aJ rs)) ((∀r∈rs,r.st+r.sz<=n)) (n<=240) (∀q ys H',New H H' q (.lst ys)->aD H' ys (jg (jX (freeOf n rs)))->Q (.ref q) H')
instance acu[h:Hat H x (.ins CL dx (lF (n:Nat) p))][h2:Hat H p (.lst zs)][t:TpA H zs (aJ rs)]:Go (Aa CL [.ref x] H Q E) (Sd ((∀r∈rs,r.st+r.sz<=n)/\n<=240) (∀q H',New H H' q (.lst ((freeOf n rs).map V.bl))->Q (.ref q) H')):=⟨λs=>⟨x,p,dx,n,zs,rs,rfl,h.e,h2.e,t.e,s.1.1,s.1.2,s.2⟩⟩
instance abB[h:Hat H x (.ins CL dx (lF (n:Nat) p))][h2:Hat H p (.lst zs)][t:TpA H zs (aJ rs)]:Go (wM CL [.ref x] H Q E) (Sd ((∀r∈rs,r.st+r.sz<=n)/\n<=240) (∀q ys H',New H H' q (.lst ys)->aD H' ys (jg (jX (freeOf n rs)))->Q (.ref q) H')):=⟨λs=>⟨x,p,dx,n,zs,rs,rfl,h.e,h2.e,t.e,s.1.1,s.1.2,s.2⟩⟩
instance aeF[h:Hat H p (.lst (fs.map V.bl))]:Go (GQ [.ref p] H Q E) (Sd (fs.length<=240) (∀(q:Addr)(ys:List V)(H':Hp),New H H' q (.lst ys)->aD H' ys (jg (jX fs))->Q (.ref q) H')):=⟨λs=>⟨p,fs,rfl,h.e,s.1,s.2⟩⟩
end
instance acv{tr:TA}{te:TE}{nt:Nat}{fr:List Nat}{g:TG}{c:TT}{σ:L2.St}{H:Hp}{Q:VK}:Go (m_ (xO tr) nt fr g c te σ H Q) (tr σ H λvs H1=>∃j:Int,vs=[.int j]/\-(2 ^ 62)<=j/\j<2 ^ 62/\cF (Itr 0 j.toNat) nt fr g c te σ H1 Q):=⟨id⟩
instance af_{i:Int}{R:Int->Prop}:Go (∃j:Int,[V.int i]=[.int j]/\-(2 ^ 62)<=j/\j<2 ^ 62/\R j) (Sd (-(2 ^ 62)<=i/\i<2 ^ 62) (R i)):=⟨λk=>⟨i,rfl,k.1.1,k.1.2,k.2⟩⟩
def Ab:Sp:=λvs H Q _=>Ex3 λ(a b:Int) (n:Nat)=>An3 (vs=[.int a,.int (n:Nat),.int b]) (n<=240) (∀q ys H',New H H' q (.lst ys)->ys.length=(if a=b then 0 else n)->Q (.ref q) H')
abbrev Sp4:=Str×Int×Nat×Int
def aeG(s:Sp4):List V:=[.str s.1,.int s.2.1,.int (s.2.2.1:Nat),.int s.2.2.2]
def GX(ss:List Sp4):List (List V):=ss.map aeG
def kI(ss:List Sp4):Nat:=(ss.map λs=>if s.2.1=s.2.2.2 then 0 else s.2.2.1).sum
def JB:Sp:=λvs H Q _=>Ex3 λ(l:Addr) (zs:List V) (ss:List Sp4)=>An6 (vs=[.ref l]) (H l=some (.lst zs)) (aD H zs (GX ss)) ((∀s∈ss,s.2.2.1<=240)) (ss.length<=41) (∀q ys H',New H H' q (.lst ys)->ys.length=kI ss->Q (.ref q) H')
theorem GZ{ss:List Sp4}(h:∀s∈ss,s.2.2.1<=240):kI ss<=240*ss.length:=by
 induction ss with
 | nil=>simp[kI]
 | cons s ss ih =>
  have:=ih λx hx=>h x (zD _ hx)
  have:=h s zC;unfold kI at *;rw[oS,List.sum_cons,mS];split <;> lia
def JC(ss:List Sp4)(s:Sp4):kI (ss++[s])=kI ss+(if s.2.1=s.2.2.2 then 0 else s.2.2.1):=by unfold kI;rw[List.map_append,List.sum_append];simp
def Pa{α:Type}{l:List α}{i:Nat}{a:α}(h:l[i]?=some a):l.take (i+1)=l.take i++[a]:=by rw[qV,h];rfl
def JD(n:Nat):Nat->List Rw->List Bool
 | e,[]=>List.replicate (n-e) true
 | e,r::t=>List.replicate (r.st-e) true++(List.replicate r.sz false++JD n (r.st+r.sz) t)
theorem Ac{n:Nat}:∀{rs:List Rw} {e:Nat} {pre:xE},pre.length=e->OkA e n rs->e<=n->rs.foldl (λfs r=>jY fs r.st r.sz false) (pre++List.replicate (n-e) true)=pre++JD n e rs
 | [],_,_,_,_,_=>rfl
 | r::t,e,pre,hl,ok,he=>by
  have hd:=ok.hd;have q:jY (pre++List.replicate (n-e) true) r.st r.sz false=(pre++List.replicate (r.st-e) true++List.replicate r.sz false)++List.replicate (n-(r.st+r.sz)) true:=by
   unfold jY;rw[List.take_append,List.drop_append,nS (by lia),List.drop_of_length_le (by lia),List.take_replicate,List.drop_replicate,hl,List.nil_append]
   congr 2
   ·congr 2
    lia
   ·lia
  rw[List.foldl_cons,q,Ac (by simp;lia) ok.tail (by lia)];simp[JD]
def G3{n:Nat}{rs:List Rw}(ok:OkA 0 n rs):freeOf n rs=JD n 0 rs:=by
 have:=Ac (pre:=[]) rfl ok (Nat.zero_le n);simpa[freeOf] using this
theorem wN(S:Sc):∀k:Nat,(List.replicate k true).foldl stp S=(S.1,S.2.1+k,S.2.2+k)
 | 0=>rfl
 | k+1=>by
  rw[List.replicate_succ,List.foldl_cons,wN _ k];show (S.1,S.2.1+1+k,S.2.2+1+k)=_;rw[show S.2.1+1+k=S.2.1+(k+1) by lia,show S.2.2+1+k=S.2.2+(k+1) by lia]
theorem oV(hs:List (Nat×Nat)):∀(k p:Nat),(List.replicate k false).foldl stp (hs,0,p)=(hs,0,p+k)
 | 0,_=>rfl
 | k+1,p=>by
  rw[List.replicate_succ,List.foldl_cons];show (List.replicate k false).foldl stp (hs,0,p+1)=_;rw[oV hs k,show p+1+k=p+(k+1) by lia]
def Pb(hs:List (Nat×Nat))(z p k:Nat):(List.replicate (k+1) false).foldl stp (hs,z,p)=(if 0<z then hs++[(p-z,z)] else hs,0,p+(k+1)):=by
 rw[List.replicate_succ,List.foldl_cons];by_cases h:0<z
 ·have:stp (hs,z,p) false=(hs++[(p-z,z)],0,p+1):=by show (if _ then _ else _)=_;rw[if_neg (by simp),if_pos h]
  rw[this,oV,zS h,show p+1+k=p+(k+1) by lia]
 ·have:stp (hs,z,p) false=(hs,0,p+1):=by show (if _ then _ else _)=_;rw[if_neg (by simp),if_neg h]
  rw[this,oV,yA h,show p+1+k=p+(k+1) by lia]
def ah5(S:Sc):List (Nat×Nat):=if 0<S.2.1 then S.1++[(S.2.2-S.2.1,S.2.1)] else S.1
theorem G4{n:Nat}:∀{rs:List Rw} {e p:Nat} {hs:List (Nat×Nat)},OkA e n rs->e<=n->(ah5 ((JD n e rs).foldl stp (hs,0,p))).length=hs.length+(jw n (e:Int) rs).length
 | [],e,p,hs,_,he=>by
  rw[JD,wN,jw];show (if 0<0+(n-e) then hs++[_] else hs).length=_;by_cases h:0<0+(n-e)
  ·rw[zS h,lN (by lia),yB]
   rfl
  ·rw[yA h,lO (by lia)]
   rfl
 | r::t,e,p,hs,ok,he=>by
  have hd:=ok.hd;obtain⟨k,hk⟩:∃k,r.sz=k+1:=⟨r.sz-1,by lia⟩;rw[JD,List.foldl_append,wN,List.foldl_append,hk,Pb,<- hk];rw[G4 ok.tail hd.2.2,jw,yB];by_cases h:0<0+(r.st-e)
  ·rw[zS h,lN (by lia),yB,List.length_singleton,List.length_singleton,Nat.add_assoc]
   congr 2
  ·rw[yA h,lO (by lia),List.length_nil,Nat.zero_add]
   congr 2
def Pg{n:Nat}{rs:List Rw}(ok:OkA 0 n rs):(jX (freeOf n rs)).length=(jw n 0 rs).length:=by
 rw[G3 ok];exact(G4 (hs:=[]) ok (Nat.zero_le n)).trans (Nat.zero_add _)
def MF{R:XK}{v:Value}{d:Addr}{H':Hp}{fs:List (Str×V)}(hd:H' d=some (jB d fs))(k:∀d2 H2,Same H' H2->H2 d2=some (jB d2 fs)->R v (some d2) H2):R v (some d) H':=k d H' (Same.refl _) hd
def Ph(K:W.Frag)(CL P:Addr)(pos:Pos)(qual:Str):Sp:=λvs H Q _=>Ex7 λ(x p dx:Addr) (n:Nat) (zs:List V) (rs:List Rw) (u:V)=>An4 (vs=[.ref x,u]) (LyH CL H x p dx n zs rs) (LyA rs n) (((GP K H u/\∀H',Same H H'->Q .non H')\/∃m ws ms ps,u=.ref m/\H m=some (.lst ws)/\gD K H ws ms/\ms.length<=41/\H P=some (.tbl ps)/\TabOk pos qual ps H /\
 ((cO n rs [] ms=none/\∀H' ps',Kp P H H'->H' P=some (.tbl ps')->TabOk pos qual ps' H'->Q .non H')\/∃w,cO n rs [] ms=some w/\∀(t s y dy q:Addr)(ss ys:List V)(ps':xF)(H':Hp),SH H [P] H' [(s,.lst ss),(P,.tbl ps')] [.tup t [.ref s,.ref y],.tps ss (f9 rs w),cL pos qual ps']->LyH CL H' y q dy n ys (bV rs w)->Q (.ref t) H')))
def st4:List Rw->List Mv->List Sp4
 | _,[]=>[]
 | T,m::ms=>(match T[m.1]? with
  | some r=>(tx r.nm,(r.st:Int),r.sz,(m.2.2:Int))
  | none=>(Str.empty,0,0,0))::st4 (mvT T m.1 m.2.2) ms
theorem wO{n:Nat}:∀{w:List Mv} {T:List Rw},WOk n T w->GX (st4 T w)=f9 T w/\kI (st4 T w)=cu T w/\(st4 T w).length=w.length
 | [],_,_=>⟨rfl,rfl,rfl⟩
 | m::w,T,ok=>by
  obtain⟨⟨r,h1,h2,h3,h4,h5⟩,ok2⟩:=ok;have i:=wO ok2;have e:st4 T (m::w)=(tx r.nm,(r.st:Int),r.sz,(m.2.2:Int))::st4 (mvT T m.1 m.2.2) w:=by
   show _::_=_;rw[h1]
  rw[e];refine⟨?_,?_,?_⟩
  ·unfold f9;rw[h1,<- i.1]
   rfl
  ·show (if (r.st:Int)=((m.2.2:Nat):Int) then 0 else r.sz)+kI _=wPr T m+_;rw[i.2.1];unfold wPr;rw[h1]
   congr 1
   by_cases z:m.2.2=r.st
   ·rw[zS (by lia)];exact(zS z).symm
   ·rw[yA (by lia)];exact(yA z).symm
  ·rw[mS,mS,i.2.2]
theorem JF{n:Nat}:∀{w:List Mv} {T:List Rw},LyA T n->WOk n T w->∀s∈st4 T w,s.2.2.1<=240
 | [],_,_,_=>λ_ h=>by cases h
 | m::w,T,ly,ok=>λs hs=>by
  obtain⟨⟨r,h1,h2,h3,h4,h5⟩,ok2⟩:=ok;have e:st4 T (m::w)=(tx r.nm,(r.st:Int),r.sz,(m.2.2:Int))::st4 (mvT T m.1 m.2.2) w:=by
   show _::_=_;rw[h1]
  rw[e] at hs;rcases vS.mp hs with rfl|hs
  ·have:=(ly.l.good r (yT h1)).le;have:=ly.h;show r.sz<=240
   lia
  ·exact JF (iz ly ⟨h1,h3,h4,h5⟩) ok2 s hs
section
variable{P:Program}{w:World}{K:W.Frag}{mg:xC}{base:Heap}{c:Nat->Addr}{aG aA aH aB R CL:Addr}
def X5(T:Txt K mg c R CL aG aA aH aB):Def P w K mg base CX0 1 "holes_among" ["free"] GQ:=by
 refine dA T.Lx Ew λf cdv A outer s H vs Q E hr h=>?_
 obtain⟨p,fs,rfl,hp,hz,k⟩:=h;have nd:=Ew.nd;refine⟨_,(aq (psz 1 nd (bC ao))
  (aq (psz 2 nd au)
  (aq (cU PassesOwn.never rfl (Kg rfl T.mz (aj (aW dG (pv 0) (bC (aj iG ao))) ao)) (fD rfl (aV (pgz 3 nd) (aV (pgz 4 nd) cW))) (aF (bL (dH (pv 4)) (aF (Zq (i:=2) nd rfl (Or.inl rfl) au V4)) (aF (bL (aN eH (pv 2) au (aY _)) (aq (cT (cB (pv 1) (bD (aj (aW dI (pv 3) (pv 2)) (aj (pv 2) ao)))))
        (aF (psz 2 nd au))) bf)))))
  (aF (aR (pv 1)))))),?_⟩
 clear nd ;rw[stE]
 try dsimp only[cI,bO]
 have m6:=om hp;have F:=SH.n0 H
 repeat k_meth
 obtain⟨r,e⟩:∃z,z=p_:=⟨_,rfl⟩;subst e;rename_i q _;rw[show fs.map V.bl++[V.bl false]=(fs++[false]).map V.bl by rw[List.map_append];rfl] at F ⊢;refine Kz (xs:=(fs++[false]).map V.bl) (λi σ' H'=>Ex4 λ(st:Sc) (o3 o4:Option V) (ys:List V)=>An4 (st=scan ((fs++[false]).take i)) (σ'=[some (.ref p),some (.ref q),some (.int (st.2.1:Nat)),o3,o4]) (ys.length<=i) (SH H [] H' [(r,.lst ((fs++[false]).map V.bl)),(q,.lst ys)] [.tps ys (jg st.1)])) ⟨([],0,0),none,none,[],rfl,rfl,uC _,(F.d8 (ys:=[]) (rs:=jg []) aD.nil).sub SbC.s SbI.s⟩ ?_ ?_ ?_
 ·clear F;rintro i σ' H' _ ⟨st,_,_,ys,_,rfl,_,F⟩;exact SqA.e
 ·clear F;rintro i v T σ' H' H3 hv ⟨st,_,_,ys,hst,rfl,hy,F⟩ nw;obtain⟨bv,hb,rfl⟩:=U3 hv;have hi:=(jS.mp hb).1;rw[yB,List.length_singleton] at hi;have tk:=Jz hb;have sl:=scan_len ((fs++[false]).take i);have ok:=(Xe ((fs++[false]).take i)).le;rw[oQ,yB,List.length_singleton] at sl ok;rw[<- hst] at sl ok;replace F:=(F.same nw.s).uM nw.e;have fin:∀st2,st2=stp st bv->st2=scan ((fs++[false]).take (i+1)):=λst2 h=>by rw[tk,scan_snoc,<- hst,h]
  cases bv with
  | true =>
   repeat k_meth
   have e7:stp st true=(st.1,st.2.1+1,st.2.2+1):=by
    unfold stp;rw[zS rfl]
   exact⟨(st.1,st.2.1+1,st.2.2+1),_,_,ys,fin _ e7.symm,rfl,by lia,F.sub SbC.s SbI.s⟩
  | false =>
   repeat k_meth
   refine cN (λh=>?_) (λh=>?_)
   ·have h:0<st.2.1:=by lia
    repeat k_meth
    have e7:stp st false=(st.1++[(st.2.2-st.2.1,st.2.1)],0,st.2.2+1):=by
     unfold stp;rw[yA (by decide),zS h]
    have t2:aD H_ (ys++[.ref p_]) (jg (st.1++[(st.2.2-st.2.1,st.2.1)])):=by
     rw[show jg (st.1++[(st.2.2-st.2.1,st.2.1)])=jg st.1++[[V.int ((st.2.2-st.2.1:Nat):Int),V.int (st.2.1:Nat)]] by unfold jg;rw[List.map_append];rfl];refine aD.snoc TpA.e ?_;show H_ p_=some (.tup [V.int ((st.2.2-st.2.1:Nat):Int),_]);rw[show ((st.2.2-st.2.1:Nat):Int)=(i-(st.2.1:Nat):Int) by lia];exact aM
    exact⟨(st.1++[(st.2.2-st.2.1,st.2.1)],0,st.2.2+1),_,_,ys++[.ref p_],fin _ e7.symm,rfl,by simp;lia,(F.d8 t2).sub SbC.s SbI.s⟩
   ·have h:¬ 0<st.2.1:=by lia
    repeat k_meth
    have e7:stp st false=(st.1,0,st.2.2+1):=by
     unfold stp;rw[yA (by decide),yA h]
    have e0:st.2.1=0:=by lia
    rw[e0];exact⟨(st.1,0,st.2.2+1),_,_,ys,fin _ e7.symm,rfl,by lia,F.sub SbC.s SbI.s⟩
 ·clear F;rintro σ' H' ⟨st,_,_,ys,hst,rfl,hy,F⟩;have e9:st.1=jX fs:=by rw[hst,show (fs++[false]).take ((fs++[false]).map V.bl).length=fs++[false] by rw[wE,List.take_length],(IV fs).1]
  rw[e9] at F
  repeat k_meth
  exact k _ _ _ SH.nwC TpA.e
def U5(T:Txt K mg c R CL aG aA aH aB):Def P w K mg base CX0 2 "free_among" ["layout"] (Aa CL):=by
 refine dA T.Fv yU λf cdv A outer s H vs Q E hr h=>?_
 obtain⟨x,p,dx,n,zs,rs,rfl,hx,hp,tp,hle,kJ,k⟩:=h;have nd:=yU.nd;refine⟨_,(aq (psz 1 nd (aW Wn (bC (aj iG ao)) (jj (pv 0) rfl)))
  (aq (cU PassesOwn.never rfl (bJ (jf (pv 0) T.clL (fH T) hr)) (pgz 2 nd) (aF (cU PassesOwn.never rfl (xP rfl T.fW (aj (aO bF (pv 2) au (λ_ _=>rfl)) (aj (aW bQ (aO bF (pv 2) au (λ_ _=>rfl)) (aO bF (pv 2) au (λ_ _=>rfl))) ao))) (pgz 3 nd) (aF (jQ iG (t_ (pv 1) (pv 3) jC))))))
  (aF (aR (pv 1))))),?_⟩
 clear nd;rw[stE]
 try dsimp only[cI,bO]
 have qz:=om hx;have m6:=om hp;have i_:=dN.mk tp;have F:=SH.n0 H
 repeat k_meth
 rename_i _ _ _ fr
 rename Addr=>bl
 refine eE (xs:=zs) (λi σ' H'=>∃o2 o3:Option V,σ'=[some (.ref x),some (.ref fr),o2,o3]/\SH H [] H' [(bl,.lst zs),(fr,.lst ((freeOf n (rs.take i)).map V.bl))] []) ⟨_,_,rfl,by rw[show freeOf n (rs.take 0)=List.replicate n true from rfl];exact F.Ir⟩ ?_ ?_ ?_
 ·clear F;rintro i σ' H' _ ⟨_,_,rfl,F⟩;exact SqA.e
 ·clear F;rintro i v σ' H' hv ⟨_,_,rfl,F⟩;obtain⟨r,q1,e1,rfl,e2⟩:=dh tp hv;have iy:=om e2;have le:=hle r (yT e1);have fl:(freeOf n (rs.take i)).length=n:=wL λs hs=>hle s (oB hs)
  repeat k_meth
  rw[show (((r.st:Nat):Int)+((r.sz:Nat):Int)-((r.st:Nat):Int)).toNat=r.sz by lia];refine Kv (λj σ' H'=>∃o3:Option V,σ'=[some (.ref x),some (.ref fr),some (.ref q1),o3]/\SH H [] H' [(bl,.lst zs),(fr,.lst ((jY (freeOf n (rs.take i)) r.st j false).map V.bl))] []) ⟨_,rfl,by rw[Od];exact F.Ir⟩ ?_ ?_
  ·clear F;rintro j σ' H' hj ⟨_,rfl,F⟩;have pl:=Ec (fs:=freeOf n (rs.take i)) (a:=r.st) (i:=j) (b:=false) (by lia)
   repeat k_meth
   rw[U4 (by lia)] at F;exact⟨_,rfl,F⟩
  ·clear F;rintro σ' H' ⟨_,rfl,F⟩
   repeat k_meth
   rw[<- GR,<- bB e1] at F;exact⟨_,_,rfl,F⟩
 ·clear F;rintro σ' H' ⟨_,_,rfl,F⟩
  repeat k_meth
  rw[show zs.length=rs.length by rw[tp.1,bw],List.take_length] at F;exact k _ _ SH.nwC
def Pj(T:Txt K mg c R CL aG aA aH aB):Def P w K mg base CX0 3 "holes_of" ["layout"] (wM CL):=by
 refine dA T.zL vD λf cdv A outer s H vs Q E hr h=>?_
 obtain⟨x,p,dx,n,zs,rs,rfl,hx,hp,tp,hle,kJ,k⟩:=h;have nd:=vD.nd;refine⟨_,(aF (aR (aK (X5 T) hr (aj (aK (U5 T) hr (aj (pv 0) ao)) ao)))),?_⟩;clear nd;rw[stE]
 try dsimp only[cI,bO]
 have qz:=om hx;have m6:=om hp;have i_:=dN.mk tp;have F:=SH.n0 H;have side:=And.intro hle kJ;have fl:=wL hle
 repeat k_meth
 exact k _ _ _ SH.nwC TpA.e
def U6(T:Txt K mg c R CL aG aA aH aB):Def P w K mg base CX0 1 "copies_of" ["start","size","to"] Ab:=by
 refine dA T.Ft yS λf cdv A outer s H vs Q E hr h=>?_
 obtain⟨a,b,n,rfl,kJ,k⟩:=h;have nd:=yS.nd;refine⟨_,(aq (gH (i:=3) nd rfl (Or.inl rfl) (N:=["at","start","to"]) (nt:=1) (fr:=[0,2]) (fK rfl T.fW (aj (pv 1) ao)) (λ_ _ _ _=>(bG (i:=0) (show (["at","start","to"]:List Str).Nodup from by decide +kernel) rfl (Or.inl rfl))) (λ_ _ _ _=>dF) (λ_ _ _ _=>(bD (aj (aW bQ (pv 1) (pv 0)) (aj (aW bQ (pv 2) (pv 0)) ao)))))
  (aq (bL (aN jd (pv 2) (pv 0) (aY _)) (aF (aR (pv 3))) bf)
  (aq (bL (aN eH (pv 2) (pv 0) (aY _)) (aF (aR (n6 rfl rfl T.iU rfl T.gC (aj (pv 3) ao)))) bf)
  (aF (aR (bC ao)))))),?_⟩
 clear nd ;rw[stE]
 try dsimp only[cI,bO]
 have F:=SH.n0 H
 repeat k_meth
 rw[show ((n:Nat):Int).toNat=n by lia];refine comp_map (P:=λ_ _=>True) (kZ (lo:=0) (n:=n)) (by simp[eO];lia) (fvs:=[some (.int a),some (.int b)]) rfl (λ_ _=>trivial) (λi v H1 R hv s1 kk=>?_) λq H1 ys nw yl _=>?_
 ·obtain⟨j,rfl⟩:∃j:Int,v=.int j:=by
   unfold eO at hv;rw[wS] at hv;cases h:(List.range n)[i]? with
   | none=>rw[h] at hv;cases hv
   | some j=>rw[h] at hv;exact⟨_,(nI hv).symm⟩
  clear F;have F:=SH.n0 H1
  repeat k_meth
  exact kk _ _ F.sm trivial
 replace F:=F.newL nw;have yl:ys.length=n:=by rw[yl];simp[eO]
 repeat k_meth
 refine cN (λh=>?_) (λh=>?_)
 ·repeat k_meth
  exact k _ _ _ SH.nwC (by rw[yl,yA (by lia)])
 ·repeat k_meth
  refine cN (λh2=>?_) (λh2=>?_)
  ·repeat k_meth
   exact k _ _ _ SH.nwC (by rw[List.length_reverse,yl,yA (by lia)])
  ·repeat k_meth
   exact k _ _ _ SH.nwC (by rw[zS (by lia)];rfl)
instance acw{a b:Int}{n:Nat}{H:Hp}{Q:VK}{E:XK}:Go (Ab [.int a,.int (n:Nat),.int b] H Q E) (Sd (n<=240) (∀q ys H',New H H' q (.lst ys)->ys.length=(if a=b then 0 else n)->Q (.ref q) H')):=⟨λk=>⟨a,b,n,rfl,k.1,k.2⟩⟩
def Pn(T:Txt K mg c R CL aG aA aH aB):Def P w K mg base CX0 2 "copies_of_steps" ["steps"] JB:=by
 refine dA T.zK vB λf cdv A outer s H vs Q E hr h=>?_
 obtain⟨l,zs,ss,rfl,hl,tz,sm,few,k⟩:=h;have nd:=vB.nd;refine⟨_,(aq (psz 1 nd (bC ao))
  (aq (cU PassesOwn.never rfl (bJ (pv 0)) (fD rfl (aV (pgz 2 nd) (aV (pgz 3 nd) (aV (pgz 4 nd) (aV (pgz 5 nd) cW))))) (aF (cT (Ku (pv 1) (aK (U6 T) hr (aj (pv 3) (aj (pv 4) (aj (pv 5) ao))))))))
  (aF (aR (pv 1))))),?_⟩
 clear nd;rw[stE]
 try dsimp only[cI,bO]
 have jx:=om hl;have aj1:=dN.mk tz;have F:=SH.n0 H;have zl:zs.length=ss.length:=by rw[tz.1];exact wE ..
 repeat k_meth
 rename Addr=>co
 refine eE (xs:=zs) (λi σ' H'=>Ex5 λ(o2 o3 o4 o5:Option V) (ys:List V)=>An3 (σ'=[some (.ref l),some (.ref co),o2,o3,o4,o5]) (ys.length=kI (ss.take i)) (SH H [] H' [(co,.lst ys)] [])) ⟨_,_,_,_,[],rfl,rfl,F.sub SbC.s SbI.s⟩ ?_ ?_ ?_
 ·clear F;rintro i σ' H' _ ⟨_,_,_,_,ys,rfl,yl,F⟩;exact SqA.e
 ·clear F;rintro i v σ' H' hv ⟨_,_,_,_,ys,rfl,yl,F⟩;obtain⟨s,q1,e1,rfl,e2⟩:∃s q1,ss[i]?=some s/\v=.ref q1/\H q1=some (.tup (aeG s)):=by
   obtain⟨r,q,a1,a2,a3⟩:=fC tz hv;unfold GX at a1;rw[wS] at a1;cases e4:ss[i]? with
   | none=>rw[e4] at a1;cases a1
   | some w=>rw[e4] at a1;cases a1;exact⟨w,q,rfl,a2,a3⟩
  have aj2:=sm s (yT e1);have iy:Old H [] q1 (.tup [.str s.1,.int s.2.1,.int (s.2.2.1:Nat),.int s.2.2.2]):=om e2;have ct:kI (ss.take (i+1))=kI (ss.take i)+(if s.2.1=s.2.2.2 then 0 else s.2.2.1):=by rw[Pa e1,JC]
  have c1:=GZ λx (hx:x∈ss.take i)=>sm x (oB hx)
  rw[oQ] at c1
  repeat k_meth
  intro q2 ys2 H2 nw2 yl2;replace F:=F.newL nw2;have aj3:ys2.length<=240:=by rw[yl2];split <;> lia
  repeat k_meth
  exact⟨_,_,_,_,ys++ys2,rfl,by rw[yB,yl,yl2,ct],F.sub SbC.s SbI.s⟩
 ·clear F;rintro σ' H' ⟨_,_,_,_,ys,rfl,yl,F⟩;rw[zl,List.take_length] at yl
  repeat k_meth
  exact k _ _ _ SH.nwC yl
def U7(T:Txt K mg c R CL aG aA aH aB)(B:Bm mg base):Def P w K mg base CX0 10 "gone_through_if_let" ["layout","moves"] (Ph K CL aA cA bR):=by
 refine dA T.Fq yR λf cdv A outer s H vs Q E hr h=>?_
 obtain⟨x,p,dx,n,zs,rs,u,rfl,ly,lya,kk⟩:=h;have nd:=yR.nd;refine⟨_,(aF (ZW (λpins EX=>(aF (aR (Wq (abx T B) hr (aj (pv 0) (aj (pv 1) ao)))))) (acT T.g_R (λa=>(aF (aR fM))) ZV))),?_⟩;clear nd;rw[stE]
 try dsimp only[cI,bO]
 have F:=SH.n0 H
 repeat k_meth
 refine⟨x,p,dx,n,zs,rs,u,rfl,ly,lya,?_⟩;rcases kk with⟨od,k⟩|⟨m,ws,ms,ps,rfl,hm,tm,m41,hP,tk,kk⟩
 ·refine .inl ⟨od,λC fs d H5 xm s5 e5=>?_⟩;refine MF e5 ?_;replace F:=F.same s5
  repeat k_meth
  exact k _ F.sm
 ·refine .inr ⟨m,ws,ms,ps,rfl,hm,tm,m41,hP,tk,?_⟩;rcases kk with⟨wn,k⟩|⟨w,we,k⟩
  ·refine .inl ⟨wn,λC fs d H5 ps5 xm kp5 hP5 tk5 e5=>?_⟩;refine MF e5 ?_;clear F;have F:=SH.n0 H5
   repeat k_meth
   have s6:=F.sm;exact k _ ps5 (λb u nb e=>s6 _ _ (kp5 b u nb e)) (s6 _ _ hP5) (TabOk.st _ _ (λa o _ e=>s6 a o e) tk5)
  ·refine .inr ⟨w,we,λt s y dy q ss ys ps' H' G ly2=>?_⟩;clear F
   repeat k_meth
   exact k t s y dy q ss ys ps' H' G ly2
end
open M22 M82 M87 M75
theorem Cv{n:Nat}:∀{w:List Mv} {T:List Rw},LyA T n->WOk n T w->LyA (bV T w) n
 | [],_,ly,_=>ly
 | m::w,T,ly,ok=>by
  obtain⟨⟨r,h1,h2,h3,h4,h5⟩,ok2⟩:=ok;exact Cv (w:=w) (iz ly ⟨h1,h3,h4,h5⟩) ok2
inductive Ask where
 | no
 | pr (p:Int) (o:Option (List Elt))
def jN(K:W.Frag)(H:Hp)(v:V):Ask->Prop
 | .no=>qL K H v\/∃t a b,∃n1:String,v=.ref t/\H t=some (.tup [a,b])/\dj K H a (.type n1)/\isW a=false
 | .pr p none=>∃t u,v=.ref t/\H t=some (.tup [.int p,u])/\GP K H u
 | .pr p (some es)=>∃t m ws,v=.ref t/\H t=some (.tup [.int p,.ref m])/\H m=some (.lst ws)/\gD K H ws es/\es.length<=41
def G5(n:Nat)(rs:List Rw):Ask->Bool
 | .no=>false
 | .pr _ none=>false
 | .pr p (some es)=>match cO n rs [] es with
  | none=>false
  | some w=>decide ((jw n 0 (bV rs w)).length=wA n rs) && (decide (((cu rs w:Nat):Int)=p) && decide (p=pri (Jof n rs)))
def Ad{n:Nat}{rs:List Rw}{p:Int}{es:List Elt}(h:cO n rs [] es=none):G5 n rs (.pr p (some es))=false:=by
 show (match cO n rs [] es with|none=>false|some w=>_)=_
 rw[h]
def rQ{n:Nat}{rs:List Rw}{p:Int}{es:List Elt}{w:List Mv}(h:cO n rs [] es=some w):G5 n rs (.pr p (some es))=(decide ((jw n 0 (bV rs w)).length=wA n rs) && (decide (((cu rs w:Nat):Int)=p) && decide (p=pri (Jof n rs)))):=by
 show (match cO n rs [] es with|none=>false|some w=>_)=_
 rw[h]
theorem wQ{n:Nat}:∀{es:List Elt} {T:List Rw} {dn:List (List Nat)} {w:List Mv},LyA T n->cO n T dn es=some w->WOk n T w/\w.length=es.length/\(w.map (·.2.1)).Nodup/\∀m∈w,m.2.1 ∉ dn
 | [],_,_,_,_,h=>by
  cases h;exact⟨trivial,rfl,List.nodup_nil,λ_ h=>by cases h⟩
 | .od::es,_,_,_,_,h=>by cases h
 | .no::es,_,_,_,_,h=>by cases h
 | .mv m::es,T,dn,w,ly,h=>by
  cases e1:fB n T dn m.1 m.2 with
  | none=>rw[oU e1] at h;cases h
  | some s =>
   rw[j8 e1] at h;obtain⟨r,sl,rn,sn,nd,_⟩:=rP ly.l e1;cases e2:cO n (mvT T s.1 s.2.2) (dn++[m.1]) es with
   | none=>rw[e2] at h;cases h
   | some w2 =>
    rw[e2] at h;obtain rfl:=(nI h).symm;obtain⟨i1,i2,i3,i4⟩:=wQ (iz ly sl) e2;refine⟨⟨⟨r,sl.at_,rn.trans sn.symm,sl.pn,sl.lo,sl.hi⟩,i1⟩,by rw[mS,mS,i2],?_,λa ha=>?_⟩
    ·rw[oS,List.nodup_cons];refine⟨λz=>?_,i3⟩;obtain⟨a,ha,ea⟩:=vT.mp z;exact i4 a ha (by rw[ea,sn];simp)
    ·rcases vS.mp ha with rfl|ha
     ·rw[sn];exact nd
     ·exact λz=>i4 a ha (mB _ z)
def GP.same{K:W.Frag}{H H':Hp}{u:V}(h:GP K H u)(s:Same H H'):GP K H' u:=⟨h.choose,h.choose_spec.1.kept λa u _ e=>s a u e,h.choose_spec.2⟩
theorem gD.same{K:W.Frag}{H H':Hp}{ws:List V}{es:List Elt}(h:gD K H ws es)(s:Same H H'):gD K H' ws es:=⟨h.1,λi v e=>by
 obtain⟨x,e1,e2⟩:=h.2 i v e;refine⟨x,e1,?_⟩;cases x with
 | mv m=>obtain⟨q,a,b,c⟩:=e2;exact⟨q,a,s _ _ b,c⟩
 | od=>obtain⟨q,a,b,c,d,e⟩:=e2;exact⟨q,a,b,c,s _ _ d,e.same (K:=K) s⟩
 | no=>exact qL.same e2 s⟩
structure Tb2(P P2:Addr)(pos:Pos)(qual:Str)(pos2:Pos)(nM:Str)(H H':Hp):Prop where
 k:∀b u,b≠P->b≠P2->H b=some u->H' b=some u
 a:∃ps,H' P=some (.tbl ps)/\TabOk pos qual ps H'
 b:∃ps,H' P2=some (.tbl ps)/\TabOk pos2 nM ps H'
def G6(K:W.Frag)(CL P:Addr)(pos:Pos)(qual:Str)(P2:Addr)(pos2:Pos)(nM:Str):Sp:=λvs H Q _=>SQ λ(x p dx:Addr) (n:Nat) (zs:List V) (rs:List Rw) (v:V) (a:Ask) (ps po:xF)=>An9 (vs=[.ref x,v]) (LyH CL H x p dx n zs rs) (LyA rs n) (jN K H v a) (H P=some (.tbl ps)) (TabOk pos qual ps H) (H P2=some (.tbl po)) (TabOk pos2 nM po H) (∀H',Tb2 P P2 pos qual pos2 nM H H'->Q (.bl (G5 n rs a)) H')
section
variable{P:Program}{w:World}{K:W.Frag}{mg:xC}{base:Heap}{c:Nat->Addr}{aG aA aH aB R CL:Addr}
theorem wR(T:Txt K mg c R CL aG aA aH aB)(B:Bm mg base):Def P w K mg base CX0 11 "is_tidied" ["layout","told"] (G6 K CL aA cA bR aB cG bY):=by
 refine dA T.vX sH λf cdv A outer s H vs Q E hr h=>?_
 obtain⟨x,p,dx,n,zs,rs,v,a,ps,po,rfl,ly,lya,ask,hP,tk,hP2,tk2,k⟩:=h;have nd:=sH.nd;refine⟨_,(aq (bL (PW.pt (gO (dW (dH (aK (GJ T) hr (aj (pv 1) ao)))) (gY (dW (dH (aK (oN T) hr (aj (aO bF (pv 1) au (λ_ _=>rfl)) ao))))))) (aF (aR iG)) bf)
  (aq (psz 2 nd (aK (U7 T B) hr (aj (pv 0) (aj (aO bF (pv 1) au (λ_ _=>rfl)) ao))))
  (aq (bL (PW.pt (gO (aN Ko (pv 2) fM (aY _)) (gY (aN j_ (aX bK rfl T.dz boot_len (aj (aK (Pj T) hr (aj (aO bF (pv 2) au (λ_ _=>rfl)) ao)) ao)) (aK (Uk T) hr (aj (pv 0) ao)) (aY _))))) (aF (aR iG)) bf)
  (aF (aR (iI (gG dJ (aX bK rfl T.dz boot_len (aj (aK (Pn T) hr (aj (aO bF (pv 2) au (λ_ _=>rfl)) ao)) ao)) (aO bF (pv 1) au (λ_ _=>rfl)) (aY _)) (jP (gG dJ (aO bF (pv 1) au (λ_ _=>rfl)) (aO bF (aK (Gz T B) hr (aj (pv 0) ao)) au (λ_ _=>rfl)) (aY _))))))))),?_⟩
 clear nd;rw[stE]
 try dsimp only[cI,bO]
 have F:=SH.n0 H;have tne:=T.tne;have U8:∀{H9:Hp},Same H H9->G5 n rs a=false->Q (.bl false) H9:=λs e=>by
  rw[e] at k;exact k _ ⟨λb u _ _ e=>s _ _ e,⟨ps,s _ _ hP,TabOk.st _ _ (λa o _ e=>s a o e) tk⟩,⟨po,s _ _ hP2,TabOk.st _ _ (λa o _ e=>s a o e) tk2⟩⟩
 rcases a with _|⟨p0,o⟩
 ·rcases ask with bq|⟨t,a,b,n1,rfl,ht,ty,nw⟩
  ·have ba:abr K H v:=⟨bq⟩
   repeat k_meth
   exact U8 F.sm rfl
  ·have o_t:=om ht;have o_a:N8 K H [] a n1:=⟨ty,λ_ _ z=>by cases z⟩
   repeat k_meth
   rw[nw]
   repeat k_meth
   exact U8 F.sm rfl
 cases o with
 | none =>
  obtain⟨t,u,rfl,ht,odm⟩:=ask;have o_t:=om ht
  repeat k_meth
  have s0:=F.sm;clear F;refine⟨x,p,dx,n,zs,rs,u,rfl,ly.same s0,lya,.inl ⟨odm.same s0,λH5 s5=>?_⟩⟩;have F:SH H [] H5 [] []:=SH.nil.same (s0.trans s5)
  repeat k_meth
  exact U8 F.sm rfl
 | some es =>
  obtain⟨t,m,ws,rfl,ht,hm,el,m41⟩:=ask;have o_t:=om ht
  repeat k_meth
  have s0:=F.sm;clear F;refine⟨x,p,dx,n,zs,rs,_,rfl,ly.same s0,lya,.inr ⟨m,ws,es,ps,rfl,s0 _ _ hm,el.same s0,m41,s0 _ _ hP,TabOk.st _ _ (λa o _ e=>s0 a o e) tk,?_⟩⟩;have n2P:=Ne.symm tne;cases e:cO n rs [] es with
  | none =>
   refine .inl ⟨rfl,λH5 ps5 kp5 hP5 tk5=>?_⟩;have F:=SH.n0 H5
   repeat k_meth
   have s6:=F.sm;rw[Ad e] at k;exact k _ ⟨λb u nb _ e=>s6 _ _ (kp5 b u nb (s0 _ _ e)),⟨ps5,s6 _ _ hP5,TabOk.st _ _ (λa o _ e=>s6 a o e) tk5⟩,⟨po,s6 _ _ (kp5 _ _ n2P (s0 _ _ hP2)),TabOk.st _ _ (λa o ht e=>s6 a o (kp5 _ _ (λz=>by rw[z,hP] at e;cases e;cases ht) (s0 _ _ e))) tk2⟩⟩
  | some w =>
   refine .inr ⟨w,rfl,λt2 q y dy q2 ss ys ps5 H5 G ly2=>?_⟩;have ht2:H5 t2=some (.tup [.ref q,.ref y]):=G.tup LkI.m;have hq:H5 q=some (.lst ss):=aM;have tq:aD H5 ss (f9 rs w):=TpA.e;have kp5:Kp aA H H5:=λb u nb e=>G.kpo b u nb (s0 _ _ e)
   have hP5:H5 aA=some (.tbl ps5):=aM;have tk5:TabOk cA bR ps5 H5:=SH.tab;clear G;have xJ:=kp5 _ _ n2P hP2;have ah6:TabOk cG bY po H5:=TabOk.st _ _ (λa o ht e=>kp5 _ _ (λz=>by rw[z,hP] at e;cases e;cases ht) e) tk2;obtain⟨wok,wl,_,_⟩:=wQ lya e;have lyT:=Cv lya wok;have s4:=wO wok;have s4s:=JF lya wok;rw[<- s4.1] at tq;have s4l:(st4 rs w).length<=41:=by rw[s4.2.2];lia
   have hle:(∀r∈bV rs w,r.st+r.sz<=n)/\n<=240:=⟨λr hr=>(lyT.l.good r hr).le,lya.h⟩;have hl1:=Pg (n:=n) lyT.ok;have sdf:rs.length<=40/\∀r∈rs,r.sz<=240:=⟨lya.l.few,λr hr=>by have:=(lya.l.good r hr).le;have:=lya.h;lia⟩;have sdl:Lay n rs/\Asc rs/\n<=240:=⟨lya.l,lya.a,lya.h⟩;have ht5:=kp5 _ _ (bM ht hP (by simp)) ht;have hx5:=kp5 _ _ (bM ly.x hP (by simp)) ly.x;have hp5:=kp5 _ _ (bM ly.p hP (by simp)) ly.p;have tz5:aD H5 zs (aJ rs):=⟨ly.t.1,λj r e=>let ⟨q,a,b⟩:=ly.t.2 j r e;⟨q,a,kp5 _ _ (bM b hP (by simp)) b⟩⟩;have F:SH H5 [aB] H5 [(aB,.tbl po)] [.tps zs (aJ rs),.tps _ (aJ (bV rs w)),.tps ss (GX (st4 rs w)),cL cG bY po,cL cA bR ps5]:=(((((SH.nil.g8 List.mem_cons_self xJ rfl (by simp)).jt tk5).jt ah6).d8 tq).d8 ly2.t).d8 tz5;have abe:=Old.mk (M:=[aB]) ht2 (nm1 (bM ht2 xJ (by simp)));have ah7:=Old.mk (M:=[aB]) ht5 (nm1 (bM ht5 xJ (by simp)));have o_q:=Old.mk (M:=[aB]) hq (nm1 (bM hq xJ (by simp)));have o_x:=Old.mk (M:=[aB]) ly2.x (nm1 (bM ly2.x xJ (by simp)));have o_p:=Old.mk (M:=[aB]) ly2.p (nm1 (bM ly2.p xJ (by simp)));have aj4:=Old.mk (M:=[aB]) hx5 (nm1 (bM hx5 xJ (by simp)));have aj5:=Old.mk (M:=[aB]) hp5 (nm1 (bM hp5 xJ (by simp)));rw[rQ e] at k
   repeat k_meth
   have fin:∀{H9:Hp},SH H5 [aB] H9 [(p_,.lst ys_),(aB,.tbl po)] [.tps ys_ (jg (jX (freeOf n (bV rs w)))),.tps zs (aJ rs),.tps ys (aJ (bV rs w)),.tps ss (GX (st4 rs w)),cL cG bY po,cL cA bR ps5]->Tb2 aA aB cA bR cG bY H H9:=λF=>⟨λb u n1 n2 e=>F.fr _ _ (nm1 n2) (kp5 _ _ n1 e),⟨ps5,F.fr _ _ (nm1 tne) hP5,F.im (cL cA bR ps5) (by simp)⟩,⟨po,F.at' (aB,.tbl po) (by simp),F.im (cL cG bY po) (by simp)⟩⟩
   by_cases h1:(jw n 0 (bV rs w)).length=wA n rs
   ·rw[if_neg (by rw[l_,hl1,h1];simp)];rw[gX h1,Bool.true_and] at k
    repeat k_meth
    refine⟨q,ss,st4 rs w,rfl,aM,TpA.e,s4s,s4l,λco cs H7 nw cl=>?_⟩;rw[s4.2.1] at cl;replace F:=F.newL nw
    repeat k_meth
    rw[cl];by_cases h2:((cu rs w:Nat):Int)=p0
    ·rw[gX h2,Bool.true_and] at k;rw[zS (gX h2)]
     repeat k_meth
     have F0:SH H5 [aB] _ [(aB,.tbl po)] _:=F.sub SbC.s (λ_ h=>h);have F1:SH H5 [aB] _ ([(aB,.tbl po)]++[]) _:=F0;refine⟨x,p,dx,n,zs,rs,po,rfl,(SH.cut F1 rfl).jt (F1.im (cL cG bY po) (by simp)),bM hx5 xJ (by simp),bM hp5 xJ (by simp),aM,aM,TpA.e,sdl,λt9 mA ym po' H8 G=>?_⟩;have F2:=SH.over F1 G rfl;clear F F1 F0;simp only[List.append_nil,List.cons_append,List.nil_append] at F2;have F:SH H5 [aB] H8 _ _:=F2;clear F2 G
     repeat k_meth
     exact k _ ⟨λb u n1 n2 e=>F.fr _ _ (nm1 n2) (kp5 _ _ n1 e),⟨ps5,F.fr _ _ (nm1 tne) hP5,F.im (cL cA bR ps5) (by simp)⟩,⟨po',F.at' (aB,.tbl po') (by simp),F.im (cL cG bY po') (by simp)⟩⟩
    ·rw[gS h2,Bool.false_and] at k;rw[if_neg (by simpa using h2)];exact k _ (fin (F.sub SbC.s (λ_ h=>h)))
   ·rw[if_pos (by rw[l_,hl1];simp;lia)];rw[gS h1,Bool.false_and] at k
    repeat k_meth
    exact k _ (fin F)
end
open M22 M82 M87 M75
theorem mG.ty{K:W.Frag}{H:Hp}{v:V}(h:mG K H v):∃n1:String,dj K H v (.type n1)/\(n1 == "str")=false:=by
 obtain⟨h,ns⟩:=h;cases h with
 | flt h =>
  rcases h with rfl|⟨b,rfl⟩|⟨i,rfl⟩|⟨z,rfl⟩
  ·exact⟨_,.non,rfl⟩
  ·exact⟨_,.bl b,rfl⟩
  ·exact⟨_,.int i,rfl⟩
  ·exact gL rfl (ns z)
 | lst e=>exact⟨_,.lst e,rfl⟩
 | tup e=>exact⟨_,.tup e,rfl⟩
theorem Cw:∀(w:List Mv)(T:List Rw),(bV T w).map (·.nm)=T.map (·.nm)
 | [],_=>rfl
 | m::w,T=>by
  show (bV (mvT T m.1 m.2.2) w).map _=_;rw[Cw w,Uo]
def G7(T:List Rw)(w:List Mv)(s:Mv):bV T (w++[s])=mvT (bV T w) s.1 s.2.2:=by unfold bV;rw[List.foldl_append];rfl
theorem oW:∀(w:List Mv)(T:List Rw)(s:Mv),cu T (w++[s])=cu T w+wPr (bV T w) s
 | [],T,s=>by
  show wPr T s+0=0+wPr T s
  lia
 | m::w,T,s=>by
  show wPr T m+cu (mvT T m.1 m.2.2) (w++[s])=wPr T m+cu (mvT T m.1 m.2.2) w+wPr (bV (mvT T m.1 m.2.2) w) s;rw[oW w]
  lia
def qM(K:W.Frag)(H:Hp)(u:V):Option (List Elt)->Prop
 | none=>GP K H u
 | some es=>∃m ws,u=.ref m/\H m=some (.lst ws)/\gD K H ws es/\es.length<=41
def U9(n:Nat)(rs:List Rw):Option (List Elt)->Option (List Mv)
 | none=>none
 | some es=>cO n rs [] es
def U_(K:W.Frag):Sp:=λvs H Q _=>Ex6 λ(n:Nat) (l:Addr) (u:V) (zs:List V) (rs:List Rw) (o:Option (List Elt))=>An6 (vs=[.int (n:Nat),.ref l,u]) (H l=some (.lst zs)) (aD H zs (aJ rs)) (LyA rs n) (qM K H u o) (((U9 n rs o=none/\∀H',Same H H'->Q .non H')\/∃w,U9 n rs o=some w/\∀t p ys H',Same H H'->H' t=some (.tup [.int (cu rs w:Nat),.ref p])->H' p=some (.lst ys)->aD H' ys (aJ (bV rs w))->Q (.ref t) H'))
section
variable{P:Program}{w:World}{K:W.Frag}{mg:xC}{base:Heap}{c:Nat->Addr}{aG aA aH aB R CL:Addr}
theorem abC(T:Txt K mg c R CL aG aA aH aB):Def P w K mg base CX0 2 "_law_walk" ["_law_many_here","_law_rows_here","_law_moves"] (U_ K):=by
 refine dA T.TX Li λf cdv A outer s H vs Q E hr h=>?_
 obtain⟨n,l,u,zs,rs,o,rfl,hl,tl,lya,mv,kk⟩:=h;have nd:=Li.nd;refine⟨_,(aq (bL (dW (dH (aX cZ rfl T.bU boot_isinstance (aj (pv 2) (aj (je (T := "list") rfl T.iU boot_list) ao))))) (aF (aR fM)) bf)
  (aq (gH (i:=3) nd rfl (Or.inl rfl) (N:=["_law_row"]) (nt:=1) (fr:=[]) (bJ (pv 1)) (λ_ _ _ _=>(bG (i:=0) (show (["_law_row"]:List Str).Nodup from by decide +kernel) rfl (Or.inl rfl))) (λ_ _ _ _=>dF) (λ_ _ _ _=>(eX (xG (K:=K) rfl) rfl T.iU boot_list (aj (pv 0) ao))))
  (aq (gH (i:=4) nd rfl (Or.inl rfl) (N:=["_law_row"]) (nt:=1) (fr:=[]) (bJ (pv 1)) (λ_ _ _ _=>(bG (i:=0) (show (["_law_row"]:List Str).Nodup from by decide +kernel) rfl (Or.inl rfl))) (λ_ _ _ _=>dF) (λ_ _ _ _=>(aO (cD (K:=K) rfl) (pv 0) au (λ_ _=>rfl))))
  (aq (psz 5 nd (bC ao))
  (aq (psz 6 nd au)
  (aq (cU PassesOwn.never rfl (bJ (pv 2)) (pgz 7 nd) (aq (bL (PW.pt (gO (dW (dH (aX cZ rfl T.bU boot_isinstance (aj (pv 7) (aj (je (T := "tuple") rfl T.j4 boot_tuple) ao))))) (gO (aN j_ (aX bK rfl T.dz boot_len (aj (pv 7) ao)) au (aY _)) (gY (dW (dH (aX cZ rfl T.bU boot_isinstance (aj (aO bF (pv 7) au (λ_ _=>rfl)) (aj (je (T := "str") rfl T.FP boot_str) ao))))))))) (aF (aR fM)) bf)
   (aq (jQ (pv 7) (fD rfl (aV (pgz 8 nd) (aV (pgz 9 nd) cW))))
   (aq (bL (PW.pt (gO (aN pF (pv 8) (pv 4) (by with_unfolding_all rfl)) (gO (aN qP (pv 8) (pv 5) (by with_unfolding_all rfl)) (gY (dW (dH (aK (Gu T) hr (aj (pv 9) ao)))))))) (aF (aR fM)) bf)
   (aq (psz 10 nd (Sx (pv 4) (pv 8)))
   (aq (psz 11 nd au)
   (aq (psz 12 nd (pv 0))
   (aq (bL (aN eH (pv 10) au (aY _)) (aF (psz 11 nd (aW bQ (aO bH (aO bH (pv 3) (aW dI (pv 10) au) (λ_ _=>rfl)) au (λ_ _=>rfl)) (aO bH (aO bH (pv 3) (aW dI (pv 10) au) (λ_ _=>rfl)) au (λ_ _=>rfl))))) bf)
   (aq (bL (aN jd (aW bQ (pv 10) au) (aX bK rfl T.dz boot_len (aj (pv 3) ao)) (aY _)) (aF (psz 12 nd (aO bH (aO bH (pv 3) (aW bQ (pv 10) au) (λ_ _=>rfl)) au (λ_ _=>rfl)))) bf)
   (aq (bL (PW.pt (gO (aN eH (aO bH (aO bH (pv 3) (pv 10) (λ_ _=>rfl)) au (λ_ _=>rfl)) au (aY _)) (gO (aN jd (pv 9) (pv 11) (aY _)) (gY (aN eH (aW bQ (pv 9) (aO bH (aO bH (pv 3) (pv 10) (λ_ _=>rfl)) au (λ_ _=>rfl))) (pv 12) (aY _)))))) (aF (aR fM)) bf)
   (aq (bL (aN j_ (pv 9) (aO bH (aO bH (pv 3) (pv 10) (λ_ _=>rfl)) au (λ_ _=>rfl)) (aY _)) (aF (psz 6 nd (aW bQ (pv 6) (aO bH (aO bH (pv 3) (pv 10) (λ_ _=>rfl)) au (λ_ _=>rfl))))) bf)
   (aq (jQ (pv 9) (t_ (aO bH (pv 3) (pv 10) (λ_ _=>rfl)) au jC))
   (aF (cT (cB (pv 5) (pv 8))))))))))))))))
  (aF (aR (bD (aj (pv 6) (aj (cQ (N:=["_law_row"]) (nt:=1) (fr:=[]) (bJ (pv 3)) (λ_ _ _ _=>(bG (i:=0) (show (["_law_row"]:List Str).Nodup from by decide +kernel) rfl (Or.inl rfl))) (λ_ _ _ _=>dF) (λ_ _ _ _=>(eX (uP (K:=K) rfl) rfl T.j4 boot_tuple (aj (pv 0) ao)))) ao))))))))))),?_⟩
 clear nd;rw[stE]
 try dsimp only[cI,bO]
 have jx:=om hl;have ah8:=dN.mk tl;have F:=SH.n0 H;have zl:zs.length=rs.length:=by rw[tl.1,bw]
 have few:=lya.l.few;cases o with
 | none =>
  obtain⟨n1,ty,nl⟩:=mv;have o_u:N8 K H [] u n1:=⟨ty,λ_ _ z=>by cases z⟩
  repeat k_meth
  rw[nl]
  repeat k_meth
  rcases kk with⟨_,k⟩|⟨_,z,_⟩
  ·exact k _ F.sm
  ·cases z
 | some es =>
 obtain⟨m0,ws,rfl,hm,el,m41⟩:=mv;have abA:=om hm;have wl:ws.length=es.length:=el.1
 repeat k_meth
 refine IK (fvs:=[]) F aM (TpA.e (rs:=aJ rs)) (by lia) rfl (λq r H' R hr e2 kk=>?_) λlyA qs H1 ql F1=>?_
 ·clear F;have F:SH H' [] H' [] []:=SH.nil;have iy:=om e2
  repeat k_meth
  exact kk _ _ SH.nwC
 clear F;have F:=F1;clear F1;rw[mE] at F
 repeat k_meth
 refine gq (F:=λr=>r.getD 0 .non) aM (TpA.e (rs:=aJ rs)) (by lia) rfl (λq r H1 R hr s1 e1 kk=>?_) ?_
 ·clear F;have F:=SH.n0 H1;obtain⟨s,_,rfl⟩:=vT.mp hr;have aa7:=om e1
  repeat k_meth
  exact kk _ (Same.refl _)
 rw[show (aJ rs).map (λr=>r.getD 0 V.non)=(rs.map (·.nm)).map λcs=>V.str (tx cs) by unfold aJ;rw[List.map_map,List.map_map];rfl];rw[bw] at ql
 repeat k_meth
 rename_i nmA
 rename Addr=>dnA
 refine eE (xs:=ws) (λi σ' H'=>Ex7 λ(o7 o8 o9 o10 o11 o12:Option V) (w:List Mv)=>An3 (σ'=[some (.int (n:Nat)),some (.ref l),some (.ref m0),some (.ref lyA),some (.ref nmA),some (.ref dnA),some (.int (cu rs w:Nat)),o7,o8,o9,o10,o11,o12]) (GoX n rs es i w) (SH H [] H' ((dnA,.lst ((w.map (·.2.1)).map λcs=>V.str (tx cs)))::(nmA,.lst ((rs.map (·.nm)).map λcs=>V.str (tx cs)))::(lyA,.lst (qs.map V.ref))::hsR qs (aJ (bV rs w))) [])) ⟨_,_,_,_,_,_,[],rfl,GoX.zero n rs es,by exact F⟩ ?_ ?_ ?_
 ·clear F;rintro i σ' H' _ ⟨_,_,_,_,_,_,w,rfl,gx,F⟩;exact SqA.e
 ·clear F;rintro i v σ' H' hv ⟨_,_,_,_,_,_,w,rfl,gx,F⟩;refine YM λ_ rt9 _ _ hN hr _ _=>?_
  obtain⟨e,e1,ea⟩:=el.2 i v hv;have aep:i<41:=by
   have:=(jS.mp hv).1
   lia
  have none_:cO n rs [] es=none->∀{H9:Hp},Same H H9->rt9 .non H9:=λwn _ s=>hr (by
   rcases kk with⟨_,k⟩|⟨_,z,_⟩
   ·exact k _ s
   ·exact absurd (wn.symm.trans z) (by simp))
  cases e with
  | no =>
   have wn:cO n rs [] es=none:=jM (λm=>by simp) (List.mem_of_getElem? e1);rcases ea with⟨n1,ty,nt⟩|⟨t,xs,rfl,ht,nl⟩
   ·repeat k_meth
    refine w_is (ty.kept λa u _ e=>F.sm _ _ e) (pJ (ty.kept λa u _ e=>F.sm _ _ e)) ?_;rw[nt]
    repeat k_meth
    exact none_ wn F.sm
   ·have Jv:=om ht
    repeat k_meth
    exact none_ wn F.sm
  | od =>
   have wn:cO n rs [] es=none:=jM (λm=>by simp) (List.mem_of_getElem? e1);obtain⟨q1,a,b,rfl,e2,oa⟩:=ea;obtain⟨n1,ty,nt⟩:=oa.ty;have iy:=om e2;have o_a:N8 K H [] a n1:=⟨ty,λ_ _ z=>by cases z⟩;have is0:isS a=false:=by
    cases a with
    | str z=>exact gL rfl (oa.2 z)
    | _=>rfl
   repeat k_meth
   rw[is0]
   repeat k_meth
   exact none_ wn F.sm
  | mv m =>
  obtain⟨cs,v2⟩:=m;obtain⟨q1,rfl,e2,okm⟩:=ea;have iy:Old H [] q1 (.tup [.str (tx cs),v2]):=om e2;have pla:PlA v2:=⟨okm⟩;have ly2:=Cv lya gx.ok;have nme:=Cw w rs;have ah4:=gx.len;by_cases in1:¬ cs∈rs.map (·.nm)
  ·have wn:=gx.no e1 (rO λr hr z=>in1 (by rw[<- nme,show cs=r.nm from z.symm];exact List.mem_map_of_mem hr))
   repeat k_meth
   exact none_ wn F.sm
  have in1:cs∈rs.map (·.nm):=Classical.not_not.mp in1;obtain⟨kx,r,hr,hnm⟩:∃(kx:Nat)(r:Rw),(bV rs w)[kx]?=some r/\r.nm=cs:=by
   rw[<- nme] at in1;obtain⟨r,hr,e⟩:=vT.mp in1;obtain⟨kx,hk,e2⟩:=List.getElem_of_mem hr;exact⟨kx,r,by rw[qA hk,e2],e⟩
  have sa:=step_at (dn:=w.map (·.2.1)) (v:=v2) ly2.l hr;rw[hnm] at sa;by_cases in2:cs∈w.map (·.2.1)
  ·rw[zS (.inl in2)] at sa;have wn:=gx.no e1 sa
   repeat k_meth
   exact none_ wn F.sm
  have hT:(bV rs w).length=rs.length:=by have:=congrArg List.length nme;simpa using this
  replace ql:qs.length=(bV rs w).length:=by lia
  have ix:aaR (rs.map (·.nm)) cs kx:=⟨by rw[<- nme,wS,hr,<- hnm];rfl,wI lya.l⟩;have hkT:=(jS.mp hr).1;obtain⟨q,hq,hx⟩:=Cm ql hr;have a1:AtI (qs.map V.ref) ((kx:Nat):Int) (.ref q):=⟨cP hx⟩;have rd:∀{k1:Nat} {r1:Rw} {q1:Addr},qs[k1]?=some q1->(bV rs w)[k1]?=some r1->Hat H' q1 (.lst (dD r1)):=λa b=>⟨F.at' _ (by simp only[List.mem_cons];exact .inr (.inr (.inr (Iz a (mV b)))))⟩
  have o1:=rd hq hr;have tkl:((w.map (·.2.1)).map λcs=>V.str (tx cs)).length<sizeLine:=by rw[wE,wE,sizeLine_eq];lia
  have qll:(qs.map V.ref).length=(bV rs w).length:=by rw[wE];exact ql
  obtain⟨iw,ib⟩|⟨i2,rfl⟩:(isW v2=false/\∀a b,inB v2 a b=false)\/∃i,v2=.int i:=by
   cases v2 with
   | int i=>exact .inr ⟨i,rfl⟩
   | ref _=>cases okm
   | non=>exact .inl ⟨rfl,λ_ _=>rfl⟩
   | bl _=>exact .inl ⟨rfl,λ_ _=>rfl⟩
   | str _=>exact .inl ⟨rfl,λ_ _=>rfl⟩
   | _=>cases okm
  ·have wn:=gx.no e1 (by show fB n _ _ cs v2=none;rw[sa,ib];simp)
   repeat k_meth
   rw[iw]
   repeat k_meth
   exact none_ wn F.sm
  have cl:(¬ 0<kx/\iT (bV rs w) kx=0)\/∃r0 q0,0<kx/\iT (bV rs w) kx=r0.st+r0.sz/\AtI (qs.map V.ref) ((kx:Int)-1) (.ref q0)/\Hat H' q0 (.lst (dD r0)):=by
   rcases Nat.eq_zero_or_pos kx with hk0|hk0
   ·subst hk0;exact .inl ⟨by lia,rfl⟩
   ·have hr0:(bV rs w)[kx-1]?=some (bV rs w)[kx-1]:=qA (by lia);have lw:=Xz hr0;rw[show kx-1+1=kx by lia] at lw;obtain⟨q0,hq0,hx0⟩:=Cm ql hr0;exact .inr ⟨_,q0,hk0,lw,⟨by rw[show (kx:Int)-1=((kx-1:Nat):Int) by lia];exact cP hx0⟩,rd hq0 hr0⟩
  have ch:(¬ kx+1<(bV rs w).length/\dU n (bV rs w) kx=n)\/∃r2 q2,kx+1<(bV rs w).length/\dU n (bV rs w) kx=r2.st/\AtI (qs.map V.ref) ((kx:Int)+1) (.ref q2)/\Hat H' q2 (.lst (dD r2)):=by
   by_cases hh:kx+1<(bV rs w).length
   ·have hr2:(bV rs w)[kx+1]?=some (bV rs w)[kx+1]:=qA hh;obtain⟨q2,hq2,hx2⟩:=Cm ql hr2;exact .inr ⟨_,q2,hh,Uq hr2,⟨by rw[show (kx:Int)+1=((kx+1:Nat):Int) by lia];exact cP hx2⟩,rd hq2 hr2⟩
   ·exact .inl ⟨hh,Ur hh⟩
  have no_:0<r.pn\/i2<(iT (bV rs w) kx:Nat)\/(dU n (bV rs w) kx:Nat)-(r.sz:Int)<i2->cO n rs [] es=none:=λh=>gx.no e1 (by
   show fB n _ _ cs (.int i2)=none;rw[sa];by_cases hp:0<r.pn
   ·exact zS (.inr hp)
   ·rw[yA (λz=>z.elim in2 hp)];refine yA λz=>?_
    have z:(decide _ && decide _)=true:=z;rw[Bool.and_eq_true,decide_eq_true_eq,decide_eq_true_eq] at z
    lia)
  clear rd;rcases cl with⟨hk0,lw⟩|⟨r0,q0,hk0,lw,a0,o0⟩ <;> rcases ch with⟨hh,hi1⟩|⟨r2,q2,hh,hi1,a2,o2⟩
  all_goals
   by_cases hp:0<r.pn
   ·repeat k_meth
    exact none_ (no_ (.inl hp)) F.sm
   by_cases hl:i2<(iT (bV rs w) kx:Nat)
   ·repeat k_meth
    exact none_ (no_ (.inr (.inl hl))) F.sm
   by_cases hg:(dU n (bV rs w) kx:Nat)-(r.sz:Int)<i2
   ·repeat k_meth
    exact none_ (no_ (.inr (.inr hg))) F.sm
   obtain⟨j,rfl⟩:∃j:Nat,i2=(j:Int):=⟨i2.toNat,by lia⟩;have es_:fB n (bV rs w) (w.map (·.2.1)) cs (.int (j:Nat))=some (kx,cs,j):=by
    rw[sa,yA (λz=>z.elim in2 hp),zS (by show (decide _ && decide _)=true;rw[gX (by lia),gX (by lia)];rfl)];show some (kx,_,((j:Nat):Int).toNat)=_;rw[Int.toNat_natCast]
   by_cases hto:j=r.st
   ·repeat k_meth
    intro Hn off en;have F2:=F.WL off en (.tail (.tail (.tail (Um _ hq (mV hr)))));clear F;have F:SH H [] Hn _ _:=F2;clear F2;rw[show (Int.toNat 1)=1 from rfl,<- Gv hr] at F
    repeat k_meth
    have pw:=oW w rs (kx,cs,j);rw[aa9 hr hto] at pw;refine hN ⟨_,_,_,_,_,_,w++[(kx,cs,j)],by rw[pw];rfl,gx.go ly2.l e1 es_,?_⟩;rw[List.map_append,List.map_append,G7];exact F
   ·repeat k_meth
    intro Hn off en;have F2:=F.WL off en (.tail (.tail (.tail (Um _ hq (mV hr)))));clear F;have F:SH H [] Hn _ _:=F2;clear F2;rw[show (Int.toNat 1)=1 from rfl,<- Gv hr] at F
    repeat k_meth
    have pw:=oW w rs (kx,cs,j);rw[aa_ hr hto] at pw;refine hN ⟨_,_,_,_,_,_,w++[(kx,cs,j)],by rw[pw,Int.natCast_add],gx.go ly2.l e1 es_,?_⟩;rw[List.map_append,List.map_append,G7];exact F
 ·clear F;rintro σ' H' ⟨_,_,_,_,_,_,w,rfl,gx,F⟩;have wd:=gx.done (by lia);have nme:=Cw w rs;have hT:(bV rs w).length=rs.length:=by have:=congrArg List.length nme;simpa using this
  repeat k_meth
  refine W_ (fvs:=[]) aM (by rw[wE];lia) rfl (λi ys H1=>aD H1 ys (aJ ((bV rs w).take i))) (λi ys H1 H2 s t=>gM s t) aD.nil (λi x ys H1 R hx s1 g kk=>?_) λq ys H1 n1 g=>?_
  ·have hi:i<(bV rs w).length:=by
    have:=(jS.mp hx).1;rw[wE] at this
    lia
   obtain⟨q,hq,hx2⟩:=Cm (T:=bV rs w) (k:=i) (ql.trans hT.symm) (qA hi);rw[hx2] at hx;cases hx;have hh:H1 q=some (.lst (dD (bV rs w)[i])):=s1 _ _ (F.at' _ (by simp only[List.mem_cons];exact .inr (.inr (.inr (Iz hq (mV (List.getElem?_eq_getElem hi)))))));clear F;have F:=SH.n0 H1;have aj6:=om hh
   repeat k_meth
   refine kk _ _ F.sm ?_;rw[bB (qA hi),oO];exact aD.snoc (g.same F.sm) aM
  ·rw[wE,ql,<- hT,nS (uC _)] at g;replace F:=F.newR n1 g
   repeat k_meth
   rcases kk with⟨z,_⟩|⟨w2,z,k⟩
   ·exact absurd (z.symm.trans wd) (by simp)
   ·obtain rfl:=nI (wd.symm.trans z);exact k _ _ _ _ F.sm aM aM TpA.e
end
open M22 M82 M87 M75
def bsW(w:S3):List Stp:=best w.1 w.2.1 w.2.2
def LJ(n:Nat)(rs:List Rw)(i:Nat):List Stp:=((cC n 0 [] rs).take i).flatMap λw=>ml (bsW w)
def RG(n:Nat)(rs:List Rw)(i:Nat):List Stp:=((cC n 0 [] rs).take i).flatMap λw=>mr (bsW w)
def PJ(n:Nat)(rs:List Rw)(i:Nat):Int:=(((cC n 0 [] rs).take i).map λw=>pri (bsW w)).sum
theorem Va{p:Sp2->Bool}(hp:∀r:Rw,p (r,(r.st:Int))=false)(n:Nat)(rs:List Rw):∀(f:Int)(A:List Rw),(fu n f A rs).filter p=(cC n f A rs).flatMap λw=>(bsW w).filter p:=by
 induction rs with
 | nil=>intro f A;simp[fu,cC,bsW]
 | cons r rs ih =>
  intro f A;rw[fu,cC];split
  ·rw[List.filter_append,List.flatMap_cons,<- ih,List.filter_cons_of_neg (by rw[hp];decide)]
   rfl
  ·exact ih f _
def abD{α β:Type}(f:α->List β)(l:List α)(i:Nat):((l.take i).flatMap f).length<=(l.flatMap f).length:=by
 have:=gE (λl:List α=>(l.flatMap f).length) (jI i l);simp only[List.flatMap_append,List.length_append] at this
 lia
theorem abE(l:List S3):(l.map λw=>pri (bsW w)).sum=((l.flatMap λw=>mv (bsW w)).map λs=>(s.1.sz:Int)).sum:=by
 induction l with
 | nil=>rfl
 | cons w l ih=>rw[oS,List.sum_cons,ih,List.flatMap_cons,List.map_append,List.sum_append];rfl
def aeH{n:Nat}{rs:List Rw}{i:Nat}(h:(cC n 0 [] rs).length<=i):LJ n rs i++(RG n rs i).reverse=oF (Jof n rs)/\PJ n rs i=pri (Jof n rs):=by
 have e1:=Va (p:=λs:Sp2=>decide (s.2<(s.1.st:Int))) (λr=>by simp) n rs 0 [];have e2:=Va (p:=λs:Sp2=>decide ((s.1.st:Int)<s.2)) (λr=>by simp) n rs 0 [];unfold LJ RG PJ oF Jof pri;rw[nS h,S8];refine⟨?_,abE _⟩;show _=(fu n 0 [] rs).filter _++((fu n 0 [] rs).filter _).reverse;rw[e1,e2]
 rfl
def X6(r:List V):List V:=[r.getD 0 .non,r.getD 3 .non]
def aeI(B:List Stp):((aQ B).filter ltS).map X6=bT (ml B):=by
 rw[Mj];unfold aQ bT;rw[List.map_map]
 rfl
def aeJ(B:List Stp):((aQ B).filter gtS).map X6=bT (mr B):=by
 rw[Ml];unfold aQ bT;rw[List.map_map]
 rfl
def oX(a b:List Stp):bT (a++b)=bT a++bT b:=List.map_append ..
def Cy{n:Nat}{rs:List Rw}(ok:OkA 0 n rs){i:Nat}{w:W3}(h:(gU n 0 0 rs)[i]?=some w):∃x:S3,(cC n 0 [] rs)[i]?=some x/\w.1=x.1/\w.2.1=x.2.1/\w.2.2=x.2.1-x.1-szs x.2.2/\rs.filter (within x.1 x.2.1)=x.2.2:=by
 rw[<- rJ ok] at h;obtain⟨x,a,b,c,d,e,_⟩:=Uw ok h;exact⟨x,a,b,c,d,e⟩
def X7{K:W.Frag}{J:It}{xs:List V}{Lk:Hp->Prop}{rows:List (List V)}{n:Nat}{σ fvs:L2.St}{fr:List Nat}{cc:TT}{te:TE}{H:Hp}{Q:VK}{P:List V->Bool}(it:L2.ItemsOf J xs Lk)(hL:∀H',Same H H'->Lk H')(tp:aD H xs rows)(hn:n=3)(h3:∀r∈rows,∃a b c,r=[a,b,c])(hz:xs.length<=1000000)(hf:(fr.map λi=>(σ[i]?).getD none)=fvs)
  (Eb:∀(i:Nat) a b c (H':Hp) (R:Bool->Hp->Prop),rows[i]?=some [a,b,c]->Same H H'->(∀H2,Same H' H2->R (P [a,b,c]) H2)->cc (some a::some b::some c::fvs) H' R)
  (pR:∀(i:Nat) a b c (H':Hp) (R:VK),rows[i]?=some [a,b,c]->Same H H'->(∀y H2,Same H' H2->R y H2)->te (some a::some b::some c::fvs) H' R)
  (k:∀p ys H',New H H' p (.lst ys)->ys.length=(rows.filter P).length->Q (.ref p) H'):cF J 3 fr (o_ K n (cJ (aU 0) (cJ (aU 1) (cJ (aU 2) qO)))) cc te σ H Q:=by
 intro acc hacc;subst hf;have jE:∀b u,H b=some u->b≠acc:=λb u e=>aP e hacc
 have n0:New H (upd H acc (.lst [])) acc (.lst []):=.mk' hacc;have fl:∀i,((rows.take i).filter P).length<=i:=λi=>rX (List.length_filter_le _ _) (by rw[oQ];lia)
 refine gJ it (λi ys H'=>H' acc=some (.lst ys)/\Same H H'/\ys.length=((rows.take i).filter P).length) ⟨n0.e,n0.s,rfl⟩ (λi ys H' _ h=>⟨hL _ h.2.1,h.1⟩) ?_ ?_
 ·rintro i x tv ys H' hx hi ⟨ha,hs,hl⟩ htv;obtain⟨r,q,e1,rfl,e2⟩:=fC tp hx;obtain⟨a,b,c,rfl⟩:=h3 r (yT e1);obtain⟨t0,t1,t2,rfl⟩:∃t0 t1 t2,tv=[t0,t1,t2]:=by
   match tv,htv with
   | [t0,t1,t2],_=>exact⟨t0,t1,t2,rfl⟩
  have o:SqB K H' q [a,b,c]:=⟨.of (hs _ _ e2)⟩;refine go1 (sd hn ?_);show cc (some a::some b::some c::_) H' _;refine Eb i a b c H' _ e1 hs λH2 s2=>?_
  have ha2:H2 acc=some (.lst ys):=s2 _ _ ha;have f1:=fl i;have e9:(rows.take (i+1)).filter P=(rows.take i).filter P++[[a,b,c]].filter P:=by rw[bZ e1,List.filter_append]
  by_cases hp:P [a,b,c]=true
  ·rw[hp,zS rfl];rw[List.filter_cons_of_pos hp,List.filter_nil] at e9;refine pR i a b c H2 _ e1 (hs.trans s2) λy H3 s3=>⟨mT (by lia:ys.length<=i) (qB hi (bN hz)),s3 _ _ ha2,fO.next (tv:=[some a,some b,some c]) hi ⟨bA,λb u e=>?_,by rw[e9,yB,yB,hl];rfl⟩ rfl⟩
   rw[aZ (jE b u e)];exact s3 _ _ (s2 _ _ (hs _ _ e))
  ·rw[List.filter_cons_of_neg hp,List.filter_nil,mE] at e9;have hp:P [a,b,c]=false:=by simpa using hp
   rw[hp,yA (by decide)];exact fO.next (tv:=[some a,some b,some c]) hi ⟨ha2,hs.trans s2,by rw[e9,hl]⟩ rfl
 ·rintro ys H' ⟨ha,hs,hl⟩;rw[nS (by rw[tp.1];exact uC _)] at hl;exact k acc ys H' ⟨hs,ha,jE⟩ hl
def three(ws:List W3):∀r∈dB ws,∃a b c,r=[a,b,c]:=λr hr=>by
 obtain⟨s,_,rfl⟩:=vT.mp hr;exact⟨_,_,_,rfl⟩
theorem Vb{m:Int}:∀{l:List Int},(∀x∈l,0<=x/\x<=m)->0<=l.sum/\l.sum<=m*l.length
 | [],_=>⟨Int.le_refl _,by simp⟩
 | x::l,h=>by
  have i:=Vb (l:=l) λy hy=>h y (zD _ hy)
  have a:=h x zC;rw[List.sum_cons,mS,Int.natCast_add,Int.mul_add]
  constructor <;> lia
def abF{ss:List Stp}(h:ss.length<=40/\∀s∈ss,s.1.sz<=240):0<=pri ss/\pri ss<=9600:=by
 have l1:=wF ss;have:=Vb (m:=240) (l:=(mv ss).map λs=>((s.1.sz:Nat):Int)) λx hx=>by
  obtain⟨r,hr,rfl⟩:=vT.mp hx;have:=h.2 r (List.mem_filter.mp hr).1
  lia
 rw[wE] at this;have h1:=h.1;show 0<=((mv ss).map λs=>((s.1.sz:Nat):Int)).sum/\((mv ss).map λs=>((s.1.sz:Nat):Int)).sum<=9600
 lia
def X8(K:W.Frag):Sp:=λvs H Q _=>Ex6 λ(n:Nat) (l:Addr) (v:V) (zs:List V) (rs:List Rw) (a:Ask)=>An6 (vs=[.int (n:Nat),.ref l,v]) (H l=some (.lst zs)) (aD H zs (aJ rs)) (LyA rs n) (jN K H v a) (∀H',Same H H'->Q (.bl (G5 n rs a)) H')
section
variable{P:Program}{w:World}{K:W.Frag}{mg:xC}{base:Heap}{c:Nat->Addr}{aG aA aH aB R CL:Addr}
theorem aeK(T:Txt K mg c R CL aG aA aH aB):Def P w K mg base CX0 3 "_law_due" ["_law_many_here","_law_rows_here","_law_told"] (X8 K):=by
 refine dA T.YZ Tr λf cdv A outer s H vs Q E hr h=>?_
 obtain⟨n,l,v,zs,rs,a,rfl,hl,tl,lya,ask,k⟩:=h;have nd:=Tr.nd;refine⟨_,(aq (bL (PW.pt (gO (dW (dH (aX cZ rfl T.bU boot_isinstance (aj (pv 2) (aj (je (T := "tuple") rfl T.j4 boot_tuple) ao))))) (gO (aN j_ (aX bK rfl T.dz boot_len (aj (pv 2) ao)) au (aY _)) (gY (dW (dH (aK (Gu T) hr (aj (aO bF (pv 2) au (λ_ _=>rfl)) ao)))))))) (aF (aR iG)) bf)
  (aq (psz 3 nd (aK (abC T) hr (aj (pv 0) (aj (pv 1) (aj (aO bF (pv 2) au (λ_ _=>rfl)) ao)))))
  (aq (bL (PW.pt (gO (aN Ko (pv 3) fM (aY _)) (gY (aN j_ (aO bF (pv 3) au (λ_ _=>rfl)) (aO bF (pv 2) au (λ_ _=>rfl)) (aY _))))) (aF (aR iG)) bf)
  (aq (psz 4 nd (aK (qH T) hr (aj (pv 0) (aj (pv 1) ao))))
  (aq (bL (aN j_ (aX bK rfl T.dz boot_len (aj (aK (Ul T) hr (aj (pv 0) (aj (aO bF (pv 3) au (λ_ _=>rfl)) ao))) ao)) (aX bK rfl T.dz boot_len (aj (cQ (N:=["_law_first","_law_behind","_law_free"]) (nt:=3) (fr:=[]) (bJ (pv 4)) (λ_ _ _ _=>(tM (K:=K) (n:=3) rfl rfl (aV (bG (i:=0) (show (["_law_first","_law_behind","_law_free"]:List Str).Nodup from by decide +kernel) rfl (Or.inl rfl)) (aV (bG (i:=1) (show (["_law_first","_law_behind","_law_free"]:List Str).Nodup from by decide +kernel) rfl (Or.inl rfl)) (aV (bG (i:=2) (show (["_law_first","_law_behind","_law_free"]:List Str).Nodup from by decide +kernel) rfl (Or.inl rfl)) cW))))) (λ_ _ _ _=>d9 (aN eH (pv 2) au (aY _))) (λ_ _ _ _=>au)) ao)) (aY _)) (aF (aR iG)) bf)
  (aF (aR (gG dJ (aO bF (pv 2) au (λ_ _=>rfl)) (aX (jF rfl) rfl T.zN boot_sum (aj (cQ (N:=["_law_stretch","_law_rows_here"]) (nt:=1) (fr:=[1]) (bJ (pv 4)) (λ_ _ _ _=>(bG (i:=0) (show (["_law_stretch","_law_rows_here"]:List Str).Nodup from by decide +kernel) rfl (Or.inl rfl))) (λ_ _ _ _=>dF) (λ_ _ _ _=>(aK (tW T) hr (aj (aK (abo T) hr (aj (pv 1) (aj (pv 0) ao))) ao)))) ao)) (aY _))))))))),?_⟩
 clear nd;rw[stE]
 try dsimp only[cI,bO]
 have jx:=om hl;have ah8:=dN.mk tl;have F:=SH.n0 H;have zl:zs.length=rs.length:=by rw[tl.1,bw]
 have few:=lya.l.few;rcases a with _|⟨p0,o⟩
 ·rcases ask with(⟨n1,ty,nt⟩|⟨t,xs,rfl,ht,nl⟩)|⟨t,a,b,n1,rfl,ht,ty,nw⟩
  ·repeat k_meth
   refine w_is ty (pJ ty) ?_;rw[nt]
   repeat k_meth
   exact k _ F.sm
  ·have Jv:=om ht
   repeat k_meth
   exact k _ F.sm
  ·have o_t:=om ht;have o_a:N8 K H [] a n1:=⟨ty,λ_ _ z=>by cases z⟩
   repeat k_meth
   rw[nw]
   repeat k_meth
   exact k _ F.sm
 obtain⟨t,u,rfl,ht,mv⟩:∃t u,v=.ref t/\H t=some (.tup [.int p0,u])/\qM K H u o:=by
  cases o with
  | none=>exact ask
  | some es=>obtain⟨t,m,ws,a,b,c,d⟩:=ask;exact⟨t,_,a,b,m,ws,rfl,c,d⟩
 have o_t:=om ht
 repeat k_meth
 refine⟨n,l,u,zs,rs,o,rfl,aM,TpA.e,lya,mv,?_⟩;cases e:U9 n rs o with
 | none =>
  refine .inl ⟨rfl,λH5 s5=>?_⟩;replace F:=F.same s5;have df:G5 n rs (.pr p0 o)=false:=by
   cases o with
   | none=>rfl
   | some es=>exact Ad e
  rw[df] at k
  repeat k_meth
  exact k _ F.sm
 | some w =>
  obtain⟨es,rfl⟩:∃es,o=some es:=by
   cases o with
   | none=>cases e
   | some es=>exact⟨es,rfl⟩
  refine .inr ⟨w,rfl,λt2 q ys H5 s5 ht2 hq tq=>?_⟩;have s0:=F.sm.trans s5;clear F;obtain⟨wok,wl,_,_⟩:=wQ lya e;have lyT:=Cv lya wok;have ok:=lya.ok;have nH:∀r∈rs,r.sz<=240:=λr hr=>by have:=(lya.l.good r hr).le;have:=lya.h;lia
  have F:=SH.n0 H5;have hl5:=s0 _ _ hl;have tl5:=tl.same s0;have aj7:=om hl5;have ah7:=Old.mk (M:=[]) (s0 _ _ ht) nm0;have abe:=om ht2;have o_q:=om hq;have ajj:=dN.mk tl5;have ah9:=dN.mk tq;have aj8:=lyT.l.few;have df:=rQ (p:=p0) e
  repeat k_meth
  by_cases hw:((cu rs w:Nat):Int)=p0
  ·rw[if_neg (by simpa using hw)];rw[gX hw,Bool.true_and] at df
   repeat k_meth
   rename_i sw yw ywl;have sl:=wC n rs 0 0;have hsz:=Gs n (bV rs w) 0;have fe:((gU n 0 0 rs).filter λw=>decide (0<w.2.2)).length=wA n rs:=by
    unfold wA;rw[rJ ok]
   refine X7 (P:=Xy) (fvs:=[]) cV (λH' s=>s.seq (SqL.of aM)) (F.tps (ys:=yw) (rs:=dB (gU n 0 0 rs)) (by simp)) rfl (three _) (by lia) rfl (λi a b c H1 R e1 s1 kk=>?_) (λi a b c H1 R e1 s1 kk=>?_) λpc yc Hc nwc ycl=>?_
   ·clear F;have F:=SH.n0 H1;obtain⟨x,_,e⟩:=vT.mp (yT e1);cases e;have kk:∀H2,Same H1 H2->R (decide (0<x.2.2)) H2:=kk
    repeat k_meth
    exact kk _ (Same.refl _)
   ·clear F;have F:=SH.n0 H1
    repeat k_meth
    exact kk _ _ F.sm
   rw[z6,fe] at ycl;replace F:=F.newL nwc;have aj9:yc.length<=41:=by
    have:=List.length_filter_le (λw:W3=>decide (0<w.2.2)) (gU n 0 0 rs)
    lia
   repeat k_meth
   by_cases h1:(jw n 0 (bV rs w)).length=wA n rs
   ·rw[if_neg (by simp;lia)];rw[gX h1,Bool.true_and] at df;rw[df] at k
    repeat k_meth
    have e0:=Ux ok;rw[rJ ok] at e0;refine comp_map (P:=λi y=>∃x,(cC n 0 [] rs)[i]?=some x/\y=.int (pri (bsW x))) (cV (xs:=yw)) (by lia) (fvs:=[some (.ref l)]) rfl (λH' s=>s.seq SqA.e) (λi v H1 R hv s1 kk=>?_) λpq H1 yq nwq yql hB=>?_
    ·obtain⟨w4,q1,e1,rfl,e2⟩:=Cj (ws:=gU n 0 0 rs) (F.tps (by simp)) hv;obtain⟨x3,e3,w1,w2,w3,flt⟩:=Cy ok e1;have e4:=s1 _ _ e2;rw[show xH w4=[V.int x3.1,V.int x3.2.1,V.int w4.2.2] by rw[<- w1,<- w2]] at e4;have hl6:=s1 _ _ (F.sm _ _ hl5);have tl6:=(tl5.same F.sm).same s1;have sc:O4 rs x3.1 x3.2.1 w4.2.2 x3.2.2:=⟨few,nH,flt,w3⟩;have xl:x3.2.2.length<=40:=by rw[<- flt];exact rX (List.length_filter_le _ _) few
     have xz:∀r∈x3.2.2,r.sz<=240:=λr hr=>by rw[<- flt] at hr;exact nH r (List.mem_filter.mp hr).1
     have bl:(best x3.1 x3.2.1 x3.2.2).length=x3.2.2.length:=rK ..;have sb:(best x3.1 x3.2.1 x3.2.2).length<=40/\∀s∈best x3.1 x3.2.1 x3.2.2,s.1.sz<=240:=⟨by lia,Cr xz⟩;clear F;have F:=SH.n0 H1;have aj_:=om hl6;have akb:=om e4;have ajk:=dN.mk tl6
     repeat k_meth
     exact kk _ _ F.sm ⟨x3,e3,rfl⟩
    have eqy:yq=((cC n 0 [] rs).map λx=>pri (bsW x)).map V.int:=by
     refine List.ext_getElem? λi=>?_
     rw[wS,wS];cases h:yq[i]? with
     | none =>
      rw[List.getElem?_eq_none_iff] at h;rw[List.getElem?_eq_none_iff.mpr (by lia)]
      rfl
     | some y =>
      obtain⟨x,e1,rfl⟩:=hB i y h;rw[e1]
      rfl
    rw[eqy] at nwq;replace F:=F.newL nwq;have side:(∀z∈(cC n 0 [] rs).map λx=>pri (bsW x),0<=z/\z<=1000000)/\((cC n 0 [] rs).map λx=>pri (bsW x)).length<=1000000:=by
     refine⟨λz hz=>?_,by rw[wE];lia⟩;obtain⟨x,hx,rfl⟩:=vT.mp hz;obtain⟨i,hi,rfl⟩:=List.getElem_of_mem hx;obtain⟨w4,e1⟩:∃w4,(gU n 0 0 rs)[i]?=some w4:=⟨_,qA (by lia)⟩;obtain⟨x3,e3,_,_,_,flt⟩:=Cy ok e1;obtain rfl:(cC n 0 [] rs)[i]=x3:=nI ((qA hi).symm.trans e3)
     generalize (cC n 0 [] rs)[i]=x3 at flt
     have xl:x3.2.2.length<=40:=by rw[<- flt];exact rX (List.length_filter_le _ _) few
     have xz:∀r∈x3.2.2,r.sz<=240:=λr hr=>by rw[<- flt] at hr;exact nH r (List.mem_filter.mp hr).1
     have bl:(best x3.1 x3.2.1 x3.2.2).length=x3.2.2.length:=rK ..;have:=abF (ss:=bsW x3) ⟨by show (best x3.1 x3.2.1 x3.2.2).length<=40;lia,Cr xz⟩
     lia
    have sm:((cC n 0 [] rs).map λx=>pri (bsW x)).sum=pri (Jof n rs):=by
     have:=(aeH (n:=n) (rs:=rs) (uC _)).2;unfold PJ at this
     rwa [nS (uC _)] at this
    repeat k_meth
    rw[sm];exact k _ (s0.trans F.sm)
   ·rw[if_pos (by simp;lia)];rw[gS h1,Bool.false_and] at df;rw[df] at k
    repeat k_meth
    exact k _ (s0.trans F.sm)
  ·rw[if_pos (by simpa using hw)];rw[gS hw,Bool.false_and,Bool.and_false] at df;rw[df] at k
   repeat k_meth
   exact k _ (s0.trans F.sm)
end
open M22 M82 M87 M75
def nwv(H H':Hp):Hp:=λb=>match H' b with
 | some (.tup xs)=>some (.tup xs)
 | o=>match H b with
  | none=>o
  | some _=>none
def gF{H H':Hp}{q:Addr}{xs:List V}(h:H' q=some (.tup xs)):nwv H H' q=some (.tup xs):=by
 unfold nwv;rw[h]
theorem Vc{H H':Hp}{q:Addr}{xs:List V}(h:H' q=some (.lst xs))(f:∀b u,H b=some u->b≠q):nwv H H' q=some (.lst xs):=by
 unfold nwv;rw[h];cases e:H q with
 | none=>rfl
 | some u=>exact gL rfl (f q u e)
def Vd{H H' H2:Hp}(t:∀b xs,H' b=some (.tup xs)->H2 b=some (.tup xs))(k:∀b u,H b=none->H' b=some u->H2 b=some u):Same (nwv H H') H2:=λb u e=>by
 unfold nwv at e;split at e
 ·rename_i xs h;rw[<- nI e];exact t b xs h
 ·split at e
  ·rename_i h;exact k b u h e
  ·cases e
theorem nJ.same{K:W.Frag}{H H':Hp}{v:V}{x:Elt}(e2:nJ K H v x)(s:Same H H'):nJ K H' v x:=by
 cases x with
 | mv m=>obtain⟨q,a,b,c⟩:=e2;exact⟨q,a,s _ _ b,c⟩
 | od=>obtain⟨q,a,b,c,d,e⟩:=e2;exact⟨q,a,b,c,s _ _ d,e.same (K:=K) s⟩
 | no=>exact qL.same e2 s
def Pq:Sp:=λvs H Q _=>Ex5 λ(bx:Addr) (x y z:Int) (p:Nat)=>An4 (vs=[.ref bx,.int (p:Nat)]) (p<=100000) (H bx=some (.lst [.int x,.int y,.int z])) (∀(v:V)(x' y' z':Int)(H':Hp),((∃i,v=.int i)\/(isW v=false/\m5 H' v))->Kp bx H H'->H' bx=some (.lst [.int x',.int y',.int z'])->Q v H')
def Ve(K:W.Frag):Sp:=λvs H Q _=>Xc λ(bx l t:Addr) (x y z:Int) (n j:Nat) (zs:List V) (rs:List Rw) (cs:List Nat)=>Xd (vs=[.ref bx,.ref l,.ref t]) (H bx=some (.lst [.int x,.int y,.int z])) (H l=some (.lst zs)) (aD H zs (aJ rs)) (LyA rs n) (0<rs.length) ((j<=240/\cs.length<=900)) (H t=some (.tup [.str (tx cs),.int (j:Nat)])) (bx≠l) (∀(v:V)(e:Elt)(x' y' z':Int)(H':Hp),nJ K (nwv H H') v e->Kp bx H H'->H' bx=some (.lst [.int x',.int y',.int z'])->Q v H')
section
variable{P:Program}{w:World}{K:W.Frag}{mg:xC}{base:Heap}{c:Nat->Addr}{aG aA aH aB R CL:Addr}
def Vf(T:Txt K mg c R CL aG aA aH aB):Def P w K mg base CX0 2 "_law_other_price" ["_law_well_here","_law_price_here"] Pq:=by
 refine dA T.Fz yZ λf cdv A outer s H vs Q E hr h=>?_
 obtain⟨bx,x,y,z,p,rfl,ple,hbx,k⟩:=h;have nd:=yZ.nd;refine⟨_,(aq (psz 2 nd (bC (aj (aW bQ (pv 1) au) (aj (aW dI (pv 1) au) (aj au (aj (gG dJ (pv 1) au (aY _)) (aj fM (aj (eX yC rfl T.FP boot_str (aj (pv 1) ao)) (aj (bC (aj (pv 1) ao)) (aj (aW Qa au au) ao))))))))))
  (aF (aR (aO bH (pv 2) (aK (bW T) hr (aj (pv 0) (aj au ao))) (λ_ _=>rfl))))),?_⟩
 clear nd;rw[stE]
 try dsimp only[cI,bO]
 have F:SH H [bx] H [(bx,.lst [.int x,.int y,.int z])] []:=SH.nil.g8 List.mem_cons_self hbx rfl (by simp);have p10:p<10 ^ 10:=by lia
 repeat k_meth
 refine kh SqA.e lo_ hi_ λv hv=>?_
 have fin:=λ(w:V) g=>k w x_ y_ z_ H_ g F.kpo aM
 simp only[List.mem_cons,List.not_mem_nil,or_false] at hv
 repeat k_meth
 rcases hv with rfl|rfl|rfl|rfl|rfl|rfl|rfl|rfl
 ·exact fin _ (.inl ⟨_,rfl⟩)
 ·exact fin _ (.inl ⟨_,rfl⟩)
 ·exact fin _ (.inl ⟨_,rfl⟩)
 ·exact fin _ (.inr ⟨rfl,.flt (.inr (.inl ⟨_,rfl⟩))⟩)
 ·exact fin _ (.inr ⟨rfl,.flt (.inl rfl)⟩)
 ·exact fin _ (.inr ⟨rfl,.flt (.inr (.inr (.inr ⟨_,rfl⟩)))⟩)
 ·exact fin _ (.inr ⟨rfl,.lst aM⟩)
 ·exact fin _ (.inl ⟨_,rfl⟩)
def X_(T:Txt K mg c R CL aG aA aH aB):Def P w K mg base CX0 2 "_law_other_move" ["_law_well_here","_law_rows_here","_law_move"] (Ve K):=by
 refine dA T.LC EY λf cdv A outer s H vs Q E hr h=>?_
 obtain⟨bx,l,t,x,y,z,n,j,zs,rs,cs,rfl,hbx,hl,tp,lya,pos,jc,ht,nbl,k⟩:=h;have nd:=EY.nd;refine⟨_,(aq (jQ (pv 2) (fD rfl (aV (pgz 3 nd) (aV (pgz 4 nd) cW))))
  (aq (psz 5 nd (aO bH (pv 1) (aK (bW T) hr (aj (pv 0) (aj (aX bK rfl T.dz boot_len (aj (pv 1) ao)) ao))) (λ_ _=>rfl)))
  (aq (psz 6 nd (bC (aj (bD (aj (pv 3) (aj (aW bQ (pv 4) au) ao))) (aj (bD (aj (pv 3) (aj (aW dI (pv 4) au) ao))) (aj (bD (aj (pv 3) (aj fM ao))) (aj (bD (aj (pv 3) (aj (eX Hh rfl T.vY boot_bool (aj (pv 4) ao)) ao))) (aj (bC (aj (pv 3) (aj (pv 4) ao))) (aj (bD (aj (pv 3) ao)) (aj (bD (aj (pv 3) (aj (pv 4) (aj au ao)))) (aj fM ao))))))))))
  (aq (psz 6 nd (aW dG (pv 6) (bC (aj (bD (aj (aO bF (pv 5) au (λ_ _=>rfl)) (aj (pv 4) ao))) (aj (bD (aj (pv 4) (aj (pv 3) ao))) (aj (bD (aj fM (aj (pv 4) ao))) (aj (bD (aj (bC (aj (pv 3) ao)) (aj (pv 4) ao))) (aj (bD (aj (aW tL (pv 3) gW) (aj (pv 4) ao))) (aj (bD (aj (pv 3) (aj (eX yC rfl T.FP boot_str (aj (pv 4) ao)) ao))) ao)))))))))
  (aq (psz 6 nd (aW dG (pv 6) (bC (aj (bD (aj (aO bF (pv 5) au (λ_ _=>rfl)) (aj (aO bF (pv 5) au (λ_ _=>rfl)) ao))) ao))))
  (aF (aR (aO bH (pv 6) (aK (bW T) hr (aj (pv 0) (aj (aX bK rfl T.dz boot_len (aj (pv 6) ao)) ao))) (λ_ _=>rfl))))))))),?_⟩
 clear nd;rw[stE]
 try dsimp only[cI,bO]
 have F:SH H [bx] H [(bx,.lst [.int x,.int y,.int z])] []:=SH.nil.g8 List.mem_cons_self hbx rfl (by simp);have few:=lya.l.few;have kJ:=lya.h;obtain⟨akc,akd⟩:=jc;have j10:j<10 ^ 10:=by lia
 have jx:=Old.mk (M:=[bx]) hl (nm1 (Ne.symm nbl));have Jv:=Old.mk (M:=[bx]) ht (nm1 (bM ht hbx (by simp)));replace F:=F.d8 tp;have zl:zs.length=rs.length:=by rw[tp.1,bw]
 repeat k_meth
 obtain⟨r,er⟩:∃r,rs[r_.toNat]?=some r:=⟨_,qA (by lia)⟩;obtain⟨q1,e1,e2⟩:=tp.2 r_.toNat (dD r) (by unfold aJ;rw[List.getElem?_map,er];rfl);have iy:=Old.mk (M:=[bx]) e2 (nm1 (bM e2 hbx (by simp)));have a1:AtI zs r_ (.ref q1):=⟨by rw[show r_=((r_.toNat:Nat):Int) by lia];exact cP e1⟩
 repeat k_meth
 refine .inl ⟨_,rfl,?_⟩
 repeat k_meth
 rw[show (Str.ofString "x")=tx [120] by decide +kernel]
 repeat k_meth
 refine kh SqA.e lo_ hi_ λv hv=>?_
 have fin:=λ(w:V) e g=>k w e x_ y_ z_ H_ g F.kpo aM
 simp only[List.mem_append,List.mem_cons,List.not_mem_nil,or_false] at hv
 repeat k_meth
 rcases hv with((rfl|rfl|rfl|rfl|rfl|rfl|rfl|rfl)|(rfl|rfl|rfl|rfl|rfl|rfl))|rfl
 ·exact fin _ (.mv (cs,_)) ⟨_,rfl,gF aM,rfl⟩
 ·exact fin _ (.mv (cs,_)) ⟨_,rfl,gF aM,rfl⟩
 ·exact fin _ (.mv (cs,_)) ⟨_,rfl,gF aM,rfl⟩
 ·exact fin _ (.mv (cs,_)) ⟨_,rfl,gF aM,rfl⟩
 ·exact fin _ .no (.inl ⟨_,.lst (Vc aM (F.fresh (LkL.m (o:=.lst _)) (nm1 (SH.neC (F:=F))))),by decide⟩)
 ·exact fin _ .no (.inr ⟨_,_,rfl,gF aM,by simp⟩)
 ·exact fin _ .no (.inr ⟨_,_,rfl,gF aM,by simp⟩)
 ·exact fin _ .no (.inl ⟨_,.non,by decide⟩)
 ·exact fin _ (.mv (r.nm,_)) ⟨_,rfl,gF aM,rfl⟩
 ·exact fin _ .od ⟨_,_,_,rfl,gF aM,.flt (.inr (.inr (.inl ⟨_,rfl⟩))),λz h=>by cases h⟩
 ·exact fin _ .od ⟨_,_,_,rfl,gF aM,.flt (.inl rfl),λz h=>by cases h⟩
 ·exact fin _ .od ⟨_,_,_,rfl,gF aM,.lst (Vc aM (F.fresh (LkL.m (o:=.lst _)) (nm1 (SH.neC (F:=F))))),λz h=>by cases h⟩
 ·exact fin _ (.mv (cs++[120],_)) ⟨_,rfl,gF aM,rfl⟩
 ·exact fin _ (.mv (cs,_)) ⟨_,rfl,gF aM,rfl⟩
 ·exact fin _ (.mv (r.nm,_)) ⟨_,rfl,gF aM,rfl⟩
end
open M22 M82 M87 M75
theorem MJ{K:W.Frag}{H:Hp}:∀{ws:List V},(∀v∈ws,∃e,nJ K H v e)->∃es,gD K H ws es
 | [],_=>⟨[],rfl,λi v h=>by simp at h⟩
 | w::ws,h=>by
  obtain⟨e,he⟩:=h w zC;obtain⟨es,hl,hs⟩:=MJ (ws:=ws) λv hv=>h v (zD _ hv)
  refine⟨e::es,by rw[mS,mS,hl],λi v hv=>?_⟩;cases i with
  | zero=>cases hv;exact⟨e,rfl,he⟩
  | succ i=>exact hs i v (by simpa using hv)
def mH{K:W.Frag}{H:Hp}{ws:List V}{ms:List Mv}(t:aD H ws (fJ ms)):∀v∈ws,∃e,nJ K H v e:=λv hv=>by
 obtain⟨i,hi⟩:=List.getElem?_of_mem hv;obtain⟨w,q,_,e2,e3⟩:=Mh t hi;exact⟨.mv (w.2.1,.int (w.2.2:Nat)),q,e2,e3,rfl⟩
def jy{K:W.Frag}{H:Hp}{q:Addr}{ws:List V}(hq:H q=some (.lst ws))(h:∀v∈ws,∃e,nJ K H v e)(few:ws.length<=41):∃o,qM K H (.ref q) o:=by
 obtain⟨es,he⟩:=MJ h;exact⟨some es,q,ws,rfl,hq,he,by rw[<- he.1];exact few⟩
def Pr(K:W.Frag):Sp:=λvs H Q _=>Xc λ(bx l m:Addr) (x y z:Int) (n:Nat) (zs ws:List V) (rs:List Rw) (ms:List Mv)=>Xd (vs=[.ref bx,.ref l,.ref m]) (H bx=some (.lst [.int x,.int y,.int z])) (H l=some (.lst zs)) (aD H zs (aJ rs)) (LyA rs n) (H m=some (.lst ws)) (aD H ws (fJ ms)) ((ms.length<=40/\(∀w∈ms,w.2.2<=240/\w.2.1.length<=900)/\(0<ms.length->0<rs.length))) ((bx≠l/\bx≠m)) (∀(u:V) (o:Option (List Elt)) (x' y' z':Int) (H':Hp),qM K H' u o->Kp bx H H'->H' bx=some (.lst [.int x',.int y',.int z'])->Q u H')
def Vg{c:TT}{s u:TS}{D:Ends}{σ:L2.St}{H:Hp}(I:L2.St->Hp->Prop)(hr:∀σ H,I σ H->D.nx σ H)(k:∀nx':L2.St->Hp->Prop,(∀σ H,I σ H->nx' σ H)->CQ c s u { D with nx:=nx' } σ H):CQ c s u D σ H:=k D.nx hr
theorem Vh{K:W.Frag}{H:Hp}{v:V}{e:Elt}(h:nJ K H v e):gD K H [v] [e]:=⟨rfl,λi u hu=>by
 cases i with
 | zero=>cases hu;exact⟨e,rfl,h⟩
 | succ i=>simp at hu⟩
def j9{xs:List V}{a b:Option Int}{v:V}(h:v∈eG xs a b):v∈xs:=by
 unfold eG at h;exact oC (oB h)
def abG{xs:List V}{a:Int}(h:0<=a):(eG xs none (some a)).length<=a.toNat/\(eG xs none (some a)).length<=xs.length:=by
 obtain⟨i,rfl⟩:∃i:Nat,a=i:=⟨a.toNat,by lia⟩;rw[Gb,oQ]
 lia
def abH{xs:List V}{a:Int}(h:0<=a):(eG xs (some a) none).length=xs.length-a.toNat:=by
 obtain⟨i,rfl⟩:∃i:Nat,a=i:=⟨a.toNat,by lia⟩;rw[Sg,zzA]
 lia
def ah_{xs:List V}{a b:Int}(h:0<=a)(g:0<=b):(eG xs (some a) (some b)).length<=b.toNat-a.toNat/\(eG xs (some a) (some b)).length<=xs.length-a.toNat:=by
 obtain⟨i,rfl⟩:∃i:Nat,a=i:=⟨a.toNat,by lia⟩;obtain⟨j,rfl⟩:∃i:Nat,b=i:=⟨b.toNat,by lia⟩;unfold eG;rw[HT.mJ,HT.mJ,oQ,zzA]
 lia
def aia:(Str.ofString "a")=tx [97]:=by decide +kernel
def stl(ms:List Mv)(s:Rw):Bool:=decide (¬ s.nm∈ms.map (·.2.1))
section
variable{P:Program}{w:World}{K:W.Frag}{mg:xC}{base:Heap}{c:Nat->Addr}{aG aA aH aB R CL:Addr}
def Vi(T:Txt K mg c R CL aG aA aH aB):Def P w K mg base CX0 3 "_law_other_moves" ["_law_well_here","_law_rows_here","_law_moves"] (Pr K):=by
 refine dA T.FJ zf λf cdv A outer s H vs Q E hr h=>?_
 obtain⟨bx,l,m,x,y,z,n,zs,ws,rs,ms,rfl,hbx,hl,tp,lya,hm,tm,side,nbl,k⟩:=h;have nd:=zf.nd
 refine' ⟨_,?bd0,?main⟩
 case bd0 =>
  refine' aq ?s1 ?r1
  case r1 =>
   refine' aq ?s2 ?r2
   case r2 =>
    refine' aq ?s3 ?r3
    case r3 =>
     refine' aq ?s4 ?r4
     case r4 =>
      refine' aq ?s5 ?r5
      case r5 =>
       refine' aq ?s6 ?r6
       case r6 =>
        refine' aq ?s7 ?r7
        case r7 =>
         refine' aq ?s8 ?r8
         case r8 =>
          refine' aq ?s9 ?r9
          case r9 =>
           refine' aq ?s10 ?r10
           case r10 =>
            refine' aq ?s11 ?r11
            case r11 =>
             refine' aq ?s12 ?r12
             case r12 =>
              refine' aF ?s13
              case s13 =>
               exact(aR (pv 3))
             case s12 =>
              exact(jQ (aK (X_ T) hr (aj (pv 0) (aj (pv 1) (aj (aO bH (pv 3) (pv 7) (λ_ _=>rfl)) ao)))) (t_ (pv 3) (pv 7) jC))
            case s11 =>
             exact(bL (aN dJ (pv 4) au (aY _)) (aF (aR (eX lC rfl T.j4 boot_tuple (aj (pv 3) ao)))) bf)
           case s10 =>
            exact(bL (aN dJ (pv 4) au (aY _)) (aF (aR (aW dG (aW dG (cY c7 (pv 3) eY (dY (pv 7))) (Ro (cY c7 (pv 3) (dY (pv 7)) (dY (aW bQ (pv 7) au))) (acA Zw au))) (cY c7 (pv 3) (dY (aW bQ (pv 7) au)) eY)))) bf)
          case s9 =>
           exact(bL (PW.pt (Af (aN dJ (pv 4) au (aY _)) (tH (aN dJ (aK (bW T) hr (aj (pv 0) (aj au ao))) au (aY _))))) (aF (aR (n6 rfl rfl T.iU rfl T.gC (aj (pv 3) ao)))) bf)
         case s8 =>
          exact(bL (PW.pt (Af (aN dJ (pv 4) au (aY _)) (tH (aN jd (aX bK rfl T.dz boot_len (aj (pv 3) ao)) au (aY _))))) (aF (aR (aW dG (cY c7 (pv 3) eY (dY (aW bQ (pv 7) au))) (cY c7 (pv 3) (dY (pv 7)) eY)))) bf)
        case s7 =>
         exact(bL (aN dJ (pv 4) au (aY _)) (aF (aR (aW dG (cY c7 (pv 3) eY (dY (pv 7))) (cY c7 (pv 3) (dY (aW bQ (pv 7) au)) eY)))) bf)
       case s6 =>
        exact(psz 7 nd (aK (bW T) hr (aj (pv 0) (aj (aX bK rfl T.dz boot_len (aj (pv 3) ao)) ao))))
      case s5 =>
       refine' bL ?t22 ?x22 ?y22
       case t22=>exact(aN (Sq hr) (pv 3) (bC ao) (aY _))
       case y22 =>
        exact bf
       case x22 =>
        refine' aF ?s24
        case s24 =>
         refine' aR ?e25
         case e25 =>
          refine' aO ?w26 ?x26 ?y26 ?z26
          case w26=>exact bH
          case z26=>exact(λ_ _=>rfl)
          case y26=>exact(aK (bW T) hr (aj (pv 0) (aj au ao)))
          case x26 =>
           refine' bC ?p27
           case p27 =>
            refine' aj ?a28 ?b28 ?c28
            case a28=>exact fM
            case c28=>first|with_reducible rfl|rfl
            case b28 =>
             refine' aj ?a29 ?b29 ?c29
             case a29=>exact(bD ao)
             case c29=>first|with_reducible rfl|rfl
             case b29 =>
              refine' aj ?a30 ?b30 ?c30
              case a30=>exact Dh
              case c30=>first|with_reducible rfl|rfl
              case b30 =>
               refine' aj ?a31 ?b31 ?c31
               case a31=>exact gW
               case c31=>first|with_reducible rfl|rfl
               case b31 =>
                refine' aj ?a32 ?b32 ?c32
                case a32=>exact(bC (aj gW ao))
                case c32=>first|with_reducible rfl|rfl
                case b32 =>
                 refine' aj ?a33 ?b33 ?c33
                 case a33=>exact(bC (aj (bD ao) ao))
                 case c33=>first|with_reducible rfl|rfl
                 case b33 =>
                  refine' aj ?a34 ?b34 ?c34
                  case a34=>exact(bC (aj (bD (aj gW (aj au ao))) ao))
                  case c34=>first|with_reducible rfl|rfl
                  case b34 =>
                   refine' aj ?a35 ?b35 ?c35
                   case a35=>exact au
                   case c35=>first|with_reducible rfl|rfl
                   case b35 =>
                    exact ao
     case s4 =>
      refine' bL ?t37 ?x37 ?y37
      case t37=>exact(PW.pt (Af (PW.pt (gO (aN (Sq hr) (pv 3) (bC ao) (aY _)) (gY (aN dJ (pv 4) au (aY _))))) (tH (aN (aaL hr) (pv 5) (bC ao) (aY _)))))
      case y37 =>
       exact bf
      case x37 =>
       refine' aq ?s39 ?r39
       case r39 =>
        refine' aq ?s40 ?r40
        case r40 =>
         refine' aF ?s41
         case s41 =>
          exact(aR (aW dG (aW dG (cY c7 (pv 3) eY (dY (pv 7))) (bC (aj (bD (aj (aO bF (pv 6) au (λ_ _=>rfl)) (aj (aO bF (pv 6) au (λ_ _=>rfl)) ao))) ao))) (cY c7 (pv 3) (dY (pv 7)) eY)))
        case s40 =>
         exact(psz 7 nd (aK (bW T) hr (aj (pv 0) (aj (aW bQ (aX bK rfl T.dz boot_len (aj (pv 3) ao)) au) ao))))
       case s39 =>
        exact(psz 6 nd (aO bH (pv 5) (aK (bW T) hr (aj (pv 0) (aj (aX bK rfl T.dz boot_len (aj (pv 5) ao)) ao))) (λ_ _=>rfl)))
    case s3 =>
     exact(gH (i:=5) nd rfl (Or.inl rfl) (N:=["_law_row","_law_moves"]) (nt:=1) (fr:=[2]) (bJ (pv 1)) (λ_ _ _ _=>(bG (i:=0) (show (["_law_row","_law_moves"]:List Str).Nodup from by decide +kernel) rfl (Or.inl rfl))) (λ_ _ _ _=>d9 (aN (xr (K:=K) rfl) (aO (cD (K:=K) rfl) (pv 0) au (λ_ _=>rfl)) (by refine cQ (wi:=uc K (cR 1)) (g:=aU 0) (c:=gQ) (te:=tOp (Ht K) (cR 0) (tC (.int 0))) (N:=["_law_move"]) (nt:=1) (fr:=[]) ?_ ?_ ?_ ?_;exact(bJ (pv 1));exact(λ_ _ _ _=>(bG (i:=0) (show (["_law_move"]:List Str).Nodup from by decide +kernel) rfl (Or.inl rfl)));exact(λ_ _ _ _=>dF);exact(λ_ _ _ _=>(aO (cD (K:=K) rfl) (pv 0) au (λ_ _=>rfl)))) (by with_unfolding_all rfl))) (λ_ _ _ _=>(pv 0)))
   case s2 =>
    exact(psz 4 nd (aK (bW T) hr (aj (pv 0) (aj au ao))))
  case s1 =>
   exact(psz 3 nd (eX gK rfl T.iU boot_list (aj (pv 2) ao)))
 clear nd;rw[stE]
 try dsimp only[cI,bO]
 have F:SH H [bx] H [(bx,.lst [.int x,.int y,.int z])] []:=SH.nil.g8 List.mem_cons_self hbx rfl (by simp);have few:=lya.l.few;obtain⟨m40,mb,mr⟩:=side;have jx:=Old.mk (M:=[bx]) hl (nm1 (Ne.symm nbl.1));have abA:=Old.mk (M:=[bx]) hm (nm1 (Ne.symm nbl.2));replace F:=(F.d8 tm).d8 tp;have zl:zs.length=rs.length:=by rw[tp.1,bw]
 have wl:ws.length=ms.length:=by rw[tm.1,qG]
 repeat k_meth
 obtain⟨fd,e⟩:∃z,z=p_:=⟨_,rfl⟩;subst e;obtain⟨way,e⟩:∃z,z=r_:=⟨_,rfl⟩;subst e;refine ni (fvs:=[some (.ref m)]) (pr:=stl ms) aM (TpA.e (rs:=aJ rs)) (by lia) rfl (λq s H1 R hs s1 h1 kk=>?_) λso ys H1 n1 t1 yl1=>?_
 ·have hm1:=s1 _ _ (F.fr _ _ (nm1 (Ne.symm nbl.2)) hm);have tm1:aD H1 ws (fJ ms):=(F.tps (ys:=ws) (rs:=fJ ms) (by simp)).same s1;clear F;have F:=SH.n0 H1;have X4:=om h1;have ajl:=om hm1;have G8:=dN.mk tm1
  repeat k_meth
  refine gq (F:=λr=>r.getD 0 .non) aM (TpA.e (rs:=fJ ms)) (by lia) rfl (λq2 w2 H2 R2 hw s2 f2 kk2=>?_) λl2 H2 n2=>?_
  ·obtain⟨w,_,rfl⟩:=vT.mp hw;clear F;have F:=SH.n0 H2;have abv:Old H2 [] q2 (.tup [.str (tx w.2.1),.int (w.2.2:Nat)]):=om f2
   repeat k_meth
   exact kk2 _ (Same.refl _)
  rw[show (fJ ms).map (λr=>r.getD 0 V.non)=(ms.map (·.2.1)).map λcs=>V.str (tx cs) by unfold fJ;rw[List.map_map,List.map_map];rfl] at n2;replace F:=F.newL n2;have pe:stl ms s=decide (¬ s.nm∈ms.map (·.2.1)):=rfl;rw[pe] at kk;by_cases hc:s.nm∈ms.map (·.2.1)
  ·repeat k_meth
   rw[gS (λz=>z hc)] at kk;rw[gX hc];exact kk _ F.sm
  ·repeat k_meth
   rw[gX hc] at kk;rw[gS hc];exact kk _ F.sm
 replace F:=F.newR n1 t1
 iterate 2 k_meth
 have aga:ys.length=(rs.filter (stl ms)).length:=by
  have:=(F.tps (ys:=ys) (rs:=aJ (rs.filter (stl ms))) (by simp)).1
  rwa [bw] at this
 have aib:=List.length_filter_le (stl ms) rs;refine Vg (λσ' H'=>σ'=[some (.ref bx),some (.ref l),some (.ref m),some (.ref fd),some (.int way),some (.ref so),none,none]/\SH H [bx] H' [(so,.lst ys),(fd,.lst ws),(bx,.lst [.int x_,.int y_,.int z_])] [.tps ys (aJ (rs.filter (stl ms))),.tps ws (fJ ms),.tps zs (aJ rs)]) ?_ λnx' hD=>?_
 ·clear F;rintro σ' H' ⟨rfl,F⟩
  repeat k_meth
  by_cases we:ws=[]
  ·rw[if_pos (by simp[we])]
   repeat k_meth
   refine kh SqA.e lo_ hi_ λv hv=>?_
   have fin:=λ(w:V) o g=>k w o x_ y_ z_ H_ g F.kpo aM
   simp only[List.mem_append,List.mem_cons,List.not_mem_nil,or_false] at hv
   repeat k_meth
   rcases hv with rfl|rfl|rfl|rfl|rfl|rfl|rfl|rfl
   ·exact fin _ none ⟨_,.non,by decide⟩
   ·exact fin _ none ⟨_,.tup aM,by decide⟩
   ·exact fin _ none ⟨_,.dK aM,by decide⟩
   ·exact fin _ none ⟨_,.str _,by decide⟩
   ·exact fin _ (some [.no]) ⟨_,_,rfl,aM,Vh (.inl ⟨_,.str _,by decide⟩),by decide⟩
   ·exact fin _ (some [.no]) ⟨_,_,rfl,aM,Vh (.inr ⟨_,_,rfl,aM,by simp⟩),by decide⟩
   ·exact fin _ (some [.mv ([97],.int 0)]) ⟨_,_,rfl,aM,Vh ⟨_,rfl,(show H_ _=some (HO.tup [V.str (tx [97]),V.int 0]) by rw[<- aia];exact aM),rfl⟩,by simp⟩
   ·exact fin _ none ⟨_,.int _,by decide⟩
  rw[if_neg (by simp[we])];have wp:=List.length_pos_iff.mpr we
  repeat k_meth
  have c1:=λ(a:Int)=>abG (xs:=ws) (a:=a)
  have c2:=λ(a:Int)=>abH (xs:=ws) (a:=a)
  have c3:=λ(a b:Int)=>ah_ (xs:=ws) (a:=a) (b:=b)
  have sl:sizeLine=1152921504606846975\/1000<=sizeLine:=.inr (by rw[sizeLine_eq];lia);have e1:∀{H9:Hp} {L9 I9},SH H [bx] H9 L9 I9->.tps ws (fJ ms)∈I9->∀v∈ws,∃e,nJ K H9 v e:=λF h=>mH (F.tps h)
  refine cN (λw1=>?_) (λw1=>?_)
  ·have l1:=c1 r_ lo_;have l2:=c2 (r_+1) (by lia)
   repeat k_meth
   obtain⟨o9,mo⟩:=jy (K:=K) (q:=p_) aM (λv hv=>e1 F (by simp) v (by rcases List.mem_append.mp hv with h|h <;> exact j9 h)) (by simp only[List.length_append,List.length_reverse];lia)
   exact k _ o9 _ _ _ _ mo F.kpo aM
  repeat k_meth
  refine cN (λw2=>?_) (λw2=>?_)
  ·repeat k_meth
   refine cN (λw20=>?_) (λw20=>?_)
   ·have l1:=c1 (r_+1) (by lia);have l2:=c2 r_ lo_
    repeat k_meth
    obtain⟨o9,mo⟩:=jy (K:=K) (q:=p_) aM (λv hv=>e1 F (by simp) v (by rcases List.mem_append.mp hv with h|h <;> exact j9 h)) (by simp only[List.length_append,List.length_reverse];lia)
    exact k _ o9 _ _ _ _ mo F.kpo aM
   ·obtain⟨v0,hv0⟩:∃v,ws[r_.toNat]?=some v:=⟨_,qA (by lia)⟩;obtain⟨w,q,ew,rfl,hq⟩:=Mh tm hv0;have mbw:=mb w (yT ew);have o_q:Old H [bx] q (.tup [.str (tx w.2.1),.int (w.2.2:Nat)]):=Old.mk (M:=[bx]) hq (nm1 (bM hq hbx (by simp)));have at9:AtI ws r_ (.ref q):=⟨by rw[show r_=((r_.toNat:Nat):Int) by lia];exact cP hv0⟩
    repeat k_meth
    refine⟨bx,l,q,_,_,_,n,w.2.2,zs,rs,w.2.1,rfl,aM,aM,F.tps (by simp),lya,mr (by lia),mbw,aM,nbl.1,λv el xa ya za H2 ee kp hb=>?_⟩;have nfb:fd≠bx:=SH.neC (F:=F);have hfd:H_ fd=some (.lst ws):=aM;replace F:=F.kp kp hb LkU.u rfl;have kp2:Kp bx H H2:=F.kpo;have fr2:=F.fresh (q:=fd) (LkL.m (o:=.lst ws)) (nm1 nfb);have hf2:H2 fd=some (.lst ws):=aM;have tw2:aD H2 ws (fJ ms):=F.tps (by simp);clear F;have F:SH H2 [fd] H2 [(fd,.lst ws)] [.tps ws (fJ ms)]:=(SH.nil.g8 List.mem_cons_self hf2 rfl (by simp)).d8 tw2
    repeat k_meth
    have fr3:=λ(b:Addr) (u:HO) (h:b≠fd) (e:H2 b=some u)=>F.fr b u (nm1 h) e
    have ee2:=ee.same (Vd (H2:=H_) (λb xs e=>fr3 b _ (bM e hf2 (by simp)) e) λb u e0 e=>fr3 b u (λz=>by rw[z,hfd] at e0;cases e0) e);obtain⟨o9,mo⟩:=jy (K:=K) (q:=fd) (ws:=ws.set r_.toNat v) aM (λv9 hv=>(List.mem_or_eq_of_mem_set hv).elim (mH (ms:=ms) (F.tps (by simp)) v9) λz=>by rw[z];exact⟨el,ee2⟩) (by rw[List.length_set];lia);exact k _ o9 _ _ _ _ mo (λb u nb e=>fr3 b u (fr2 b u e) (kp2 b u nb e)) (fr3 _ _ (Ne.symm nfb) hb)
  repeat k_meth
  refine cN (λw3=>?_) (λw3=>?_)
  ·obtain⟨at0,e⟩:∃z,z=r_:=⟨_,rfl⟩;subst e;have lo0:=lo_;have hi0:=hi_
   repeat k_meth
   refine cN (λw4=>?_) (λw4=>?_)
   ·repeat k_meth
    obtain⟨o9,mo⟩:=jy (K:=K) (q:=p_) aM (λv hv=>e1 F (by simp) v (by simpa using hv)) (by simp only[List.length_append,List.length_reverse];lia);exact k _ o9 _ _ _ _ mo F.kpo aM
   ·have l1:=c1 at0 lo0;have l2:=c3 at0 (at0+2) lo0 (by lia);have l3:=c2 (at0+2) (by lia)
    repeat k_meth
    refine⟨p_,_,rfl,rfl,SqA.e,λpr H3 nr=>?_⟩;replace F:=F.newL nr;have l4:(eG ws (some at0) (some (at0+2))).reverse.length=(eG ws (some at0) (some (at0+2))).length:=List.length_reverse;have l5:(eG ws none (some at0)++(eG ws (some at0) (some (at0+2))).reverse).length=(eG ws none (some at0)).length+(eG ws (some at0) (some (at0+2))).reverse.length:=yB
    repeat k_meth
    obtain⟨o9,mo⟩:=jy (K:=K) (q:=p_) aM (λv hv=>e1 F (by simp) v (by simp only[List.mem_append,List.mem_reverse] at hv;rcases hv with(h|h)|h <;> exact j9 h)) (by simp only[List.length_append,List.length_reverse];lia)
    exact k _ o9 _ _ _ _ mo F.kpo aM
  repeat k_meth
  refine cN (λw4=>?_) (λw4=>?_)
  ·repeat k_meth
   exact k _ none _ _ _ _ ⟨_,.tup aM,by decide⟩ F.kpo aM
  ·obtain⟨v0,hv0⟩:∃v,ws[r_.toNat]?=some v:=⟨_,qA (by lia)⟩;obtain⟨w,q,ew,rfl,hq⟩:=Mh tm hv0;have mbw:=mb w (yT ew);have o_q:Old H [bx] q (.tup [.str (tx w.2.1),.int (w.2.2:Nat)]):=Old.mk (M:=[bx]) hq (nm1 (bM hq hbx (by simp)));have at9:AtI ws r_ (.ref q):=⟨by rw[show r_=((r_.toNat:Nat):Int) by lia];exact cP hv0⟩
   repeat k_meth
   refine⟨bx,l,q,_,_,_,n,w.2.2,zs,rs,w.2.1,rfl,aM,aM,F.tps (by simp),lya,mr (by lia),mbw,aM,nbl.1,λv el xa ya za H2 ee kp hb=>?_⟩;have nfb:fd≠bx:=SH.neC (F:=F);have hfd:H_ fd=some (.lst ws):=aM;replace F:=F.kp kp hb LkU.u rfl;have kp2:Kp bx H H2:=F.kpo;have fr2:=F.fresh (q:=fd) (LkL.m (o:=.lst ws)) (nm1 nfb);have hf2:H2 fd=some (.lst ws):=aM;have tw2:aD H2 ws (fJ ms):=F.tps (by simp);clear F;have F:SH H2 [fd] H2 [(fd,.lst ws)] [.tps ws (fJ ms)]:=(SH.nil.g8 List.mem_cons_self hf2 rfl (by simp)).d8 tw2
   repeat k_meth
   have fr3:=λ(b:Addr) (u:HO) (h:b≠fd) (e:H2 b=some u)=>F.fr b u (nm1 h) e
   have ee2:=ee.same (Vd (H2:=H_) (λb xs e=>fr3 b _ (bM e hf2 (by simp)) e) λb u e0 e=>fr3 b u (λz=>by rw[z,hfd] at e0;cases e0) e);obtain⟨o9,mo⟩:=jy (K:=K) (q:=fd) (ws:=ws.set r_.toNat v) aM (λv9 hv=>(List.mem_or_eq_of_mem_set hv).elim (mH (ms:=ms) (F.tps (by simp)) v9) λz=>by rw[z];exact⟨el,ee2⟩) (by rw[List.length_set];lia);exact k _ o9 _ _ _ _ mo (λb u nb e=>fr3 b u (fr2 b u e) (kp2 b u nb e)) (fr3 _ _ (Ne.symm nfb) hb)
 ·have hN:∀{H9},SH H [bx] H9 [(so,.lst ys),(fd,.lst ws),(bx,.lst [.int x_,.int y_,.int z_])] [.tps ys (aJ (rs.filter (stl ms))),.tps ws (fJ ms),.tps zs (aJ rs)]->nx' [some (.ref bx),some (.ref l),some (.ref m),some (.ref fd),some (.int way),some (.ref so),none,none] H9:=λF=>hD _ _ ⟨rfl,F⟩
  repeat k_meth
  by_cases we:ws=[]
  ·rw[if_pos (by simp[we])]
   repeat k_meth
   by_cases ye:ys=[]
   ·rw[if_neg (by simp[ye])]
    repeat k_meth
    exact hN (F.sub SbC.s SbI.s)
   ·rw[if_pos (by simp[ye])];have yp:=List.length_pos_iff.mpr ye
    repeat k_meth
    obtain⟨s0,es0⟩:∃s0,(rs.filter (stl ms))[r_.toNat]?=some s0:=⟨_,qA (by lia)⟩;obtain⟨q1,f1,f2⟩:=(F.tps (ys:=ys) (rs:=aJ (rs.filter (stl ms))) (by simp)).2 r_.toNat (dD s0) (by unfold aJ;rw[List.getElem?_map,es0];rfl);replace F:=F.uM f2;have a1:AtI ys r_ (.ref q1):=⟨by rw[show r_=((r_.toNat:Nat):Int) by lia];exact cP f1⟩
    repeat k_meth
    have l1:=abG (xs:=ws) (a:=r_) lo_;have l2:=abH (xs:=ws) (a:=r_) lo_
    repeat k_meth
    have l3:∀t:V,(eG ws none (some r_)++[t]).length=(eG ws none (some r_)).length+1:=λt=>by rw[yB];rfl
    have l4:=l3 (.ref p_)
    repeat k_meth
    obtain⟨o9,mo⟩:=jy (K:=K) (H:=H_) (q:=p_) (ws:=_++[_]++_) aM (λv hv=>by
     simp only[List.mem_append,List.mem_singleton] at hv;rcases hv with(h|h)|h
     ·exact mH (ms:=ms) (F.tps (by simp)) v (j9 h)
     ·exact⟨.mv (s0.nm,_),_,h,aM,rfl⟩
     ·exact mH (ms:=ms) (F.tps (by simp)) v (j9 h)) (by simp only[List.length_append,List.length_singleton];lia)
    exact k _ o9 _ _ _ _ mo F.kpo aM
  ·rw[if_neg (by simp[we])]
   repeat k_meth
   refine cN (λw0=>?_) (λw0=>?_)
   ·repeat k_meth
    by_cases ye:ys=[]
    ·rw[if_neg (by simp[ye])]
     repeat k_meth
     exact hN (F.sub SbC.s SbI.s)
    ·rw[if_pos (by simp[ye])];have yp:=List.length_pos_iff.mpr ye
     repeat k_meth
     obtain⟨s0,es0⟩:∃s0,(rs.filter (stl ms))[r_.toNat]?=some s0:=⟨_,qA (by lia)⟩;obtain⟨q1,f1,f2⟩:=(F.tps (ys:=ys) (rs:=aJ (rs.filter (stl ms))) (by simp)).2 r_.toNat (dD s0) (by unfold aJ;rw[List.getElem?_map,es0];rfl);replace F:=F.uM f2;have a1:AtI ys r_ (.ref q1):=⟨by rw[show r_=((r_.toNat:Nat):Int) by lia];exact cP f1⟩
     repeat k_meth
     have l1:=abG (xs:=ws) (a:=r_) lo_;have l2:=abH (xs:=ws) (a:=r_) lo_
     repeat k_meth
     have l3:∀t:V,(eG ws none (some r_)++[t]).length=(eG ws none (some r_)).length+1:=λt=>by rw[yB];rfl
     have l4:=l3 (.ref p_)
     repeat k_meth
     obtain⟨o9,mo⟩:=jy (K:=K) (H:=H_) (q:=p_) (ws:=_++[_]++_) aM (λv hv=>by
      simp only[List.mem_append,List.mem_singleton] at hv;rcases hv with(h|h)|h
      ·exact mH (ms:=ms) (F.tps (by simp)) v (j9 h)
      ·exact⟨.mv (s0.nm,_),_,h,aM,rfl⟩
      ·exact mH (ms:=ms) (F.tps (by simp)) v (j9 h)) (by simp only[List.length_append,List.length_singleton];lia)
     exact k _ o9 _ _ _ _ mo F.kpo aM
   ·repeat k_meth
    exact hN (F.sub SbC.s SbI.s)
end
open M22 M82 M87 M75
theorem wU(n:Nat):∀(rs:List Rw)(f:Int)(A:List Rw),((cC n f A rs).flatMap (·.2.2)).length<=A.length+rs.length
 | [],f,A=>by simp[cC]
 | r::rs,f,A=>by
  rw[cC];split
  ·have:=wU n rs ((r.st:Int)+(r.sz:Int)) [];rw[List.flatMap_cons,yB,mS];simp only[List.length_nil] at this;show A.length+_<=_
   lia
  ·have:=wU n rs f (A++[r]);rw[yB,List.length_singleton] at this;rw[mS]
   lia
def AS(n:Nat)(rs:List Rw)(i:Nat):Nat:=(((cC n 0 [] rs).take i).flatMap (·.2.2)).length
def Zb(n:Nat)(rs:List Rw)(i:Nat):AS n rs i<=rs.length:=by
 have h:=abD (λw:S3=>w.2.2) (cC n 0 [] rs) i;have:=wU n rs 0 [];unfold AS;simp only[List.length_nil] at this
 lia
def MK{n:Nat}{rs:List Rw}{i:Nat}{w:S3}(h:(cC n 0 [] rs)[i]?=some w):AS n rs (i+1)=AS n rs i+w.2.2.length:=by unfold AS;rw[bB h,List.flatMap_append,List.length_append,List.flatMap_singleton]
def Cz:Sp:=λvs H Q _=>Ex8 λ(bx l:Addr) (x y z:Int) (n:Nat) (zs:List V) (rs:List Rw)=>An7 (vs=[.ref bx,.int (n:Nat),.ref l]) (H bx=some (.lst [.int x,.int y,.int z])) (H l=some (.lst zs)) (aD H zs (aJ rs)) (LyA rs n) (bx≠l) (∀(t q:Addr)(p:Int)(ws:List V)(ss:List Stp)(x' y' z':Int)(H':Hp),Kp bx H H'->H' bx=some (.lst [.int x',.int y',.int z'])->H' t=some (.tup [.int p,.ref q])->H' q=some (.lst ws)->aD H' ws (bT ss)->ss.length<=40->(∀b u,H b=some u->b≠q)->Q (.ref t) H')
section
variable{P:Program}{w:World}{K:W.Frag}{mg:xC}{base:Heap}{c:Nat->Addr}{aG aA aH aB R CL:Addr}
def sY(T:Txt K mg c R CL aG aA aH aB):Def P w K mg base CX0 2 "_law_elsewhere" ["_law_well_here","_law_many_here","_law_rows_here"] Cz:=by
 refine dA T.sS qd λf cdv A outer s H vs Q E hr h=>?_
 obtain⟨bx,l,x,y,z,n,zs,rs,rfl,hbx,hl,tp,lya,nbl,k⟩:=h;have nd:=qd.nd;refine⟨_,(aq (psz 3 nd au)
  (aq (psz 4 nd (bC ao))
  (aq (psz 5 nd (bC ao))
  (aq (cU PassesOwn.never rfl (bJ (aK (qH T) hr (aj (pv 1) (aj (pv 2) ao)))) (pgz 6 nd) (aq (gH (i:=7) nd rfl (Or.inl rfl) (N:=["_law_row","_law_stretch"]) (nt:=1) (fr:=[6]) (bJ (pv 2)) (λ_ _ _ _=>(bG (i:=0) (show (["_law_row","_law_stretch"]:List Str).Nodup from by decide +kernel) rfl (Or.inl rfl))) (λ_ _ _ _=>d9 (kW pB jd (aO (cD (K:=K) rfl) (pv 1) au (λ_ _=>rfl)) (aO (cD (K:=K) rfl) (pv 0) au (λ_ _=>rfl)) (aO (cD (K:=K) rfl) (pv 1) au (λ_ _=>rfl)))) (λ_ _ _ _=>(pv 0)))
   (aq (psz 8 nd (aK (wG T) hr (aj (pv 2) (aj (pv 6) (aj (aK (bW T) hr (aj (pv 0) (aj (aW bQ (aX bK rfl T.dz boot_len (aj (pv 7) ao)) au) ao))) ao)))))
   (aq (psz 3 nd (aW bQ (pv 3) (aK (tW T) hr (aj (pv 8) ao))))
   (aq (psz 4 nd (aW dG (pv 4) (cQ (N:=["_law_name","_law_start","_law_size","_law_to"]) (nt:=4) (fr:=[]) (bJ (pv 8)) (λ_ _ _ _=>(tM (K:=K) (n:=4) rfl rfl (aV (bG (i:=0) (show (["_law_name","_law_start","_law_size","_law_to"]:List Str).Nodup from by decide +kernel) rfl (Or.inl rfl)) (aV (bG (i:=1) (show (["_law_name","_law_start","_law_size","_law_to"]:List Str).Nodup from by decide +kernel) rfl (Or.inl rfl)) (aV (bG (i:=2) (show (["_law_name","_law_start","_law_size","_law_to"]:List Str).Nodup from by decide +kernel) rfl (Or.inl rfl)) (aV (bG (i:=3) (show (["_law_name","_law_start","_law_size","_law_to"]:List Str).Nodup from by decide +kernel) rfl (Or.inl rfl)) cW)))))) (λ_ _ _ _=>d9 (aN jd (pv 3) (pv 1) (aY _))) (λ_ _ _ _=>(bD (aj (pv 0) (aj (pv 3) ao)))))))
   (aF (psz 5 nd (aW dG (cQ (N:=["_law_name","_law_start","_law_size","_law_to"]) (nt:=4) (fr:=[]) (R8 rfl T.gC (aj (pv 8) ao)) (λ_ _ _ _=>(tM (K:=K) (n:=4) rfl rfl (aV (bG (i:=0) (show (["_law_name","_law_start","_law_size","_law_to"]:List Str).Nodup from by decide +kernel) rfl (Or.inl rfl)) (aV (bG (i:=1) (show (["_law_name","_law_start","_law_size","_law_to"]:List Str).Nodup from by decide +kernel) rfl (Or.inl rfl)) (aV (bG (i:=2) (show (["_law_name","_law_start","_law_size","_law_to"]:List Str).Nodup from by decide +kernel) rfl (Or.inl rfl)) (aV (bG (i:=3) (show (["_law_name","_law_start","_law_size","_law_to"]:List Str).Nodup from by decide +kernel) rfl (Or.inl rfl)) cW)))))) (λ_ _ _ _=>d9 (aN eH (pv 3) (pv 1) (aY _))) (λ_ _ _ _=>(bD (aj (pv 0) (aj (pv 3) ao))))) (pv 5)))))))))
  (aF (aR (bD (aj (pv 3) (aj (aW dG (pv 4) (pv 5)) ao))))))))),?_⟩
 clear nd;rw[stE]
 try dsimp only[cI,bO]
 have F:SH H [bx] H [(bx,.lst [.int x,.int y,.int z])] []:=SH.nil.g8 List.mem_cons_self hbx rfl (by simp);have few:=lya.l.few;have ok:=lya.ok;have nH:∀r∈rs,r.sz<=240:=λr hr=>by have:=(lya.l.good r hr).le;have:=lya.h;lia
 have jx:=Old.mk (M:=[bx]) hl (nm1 (Ne.symm nbl));replace F:=F.d8 tp;have zl:zs.length=rs.length:=by rw[tp.1,bw]
 have sl:=wC n rs 0 0
 repeat k_meth
 rename_i _ lf0 _ rt0
 rename List V=>yw
 rename Addr=>sw
 have wl:yw.length=(gU n 0 0 rs).length:=by assumption
 refine eE (xs:=yw) (λi σ' H'=>ad1 λ(o6 o7 o8:Option V) (lf rt:Addr) (yl yr:List V) (SL SR:List Stp) (p x y z:Int)=>An3 (σ'=[some (.ref bx),some (.int (n:Nat)),some (.ref l),some (.int p),some (.ref lf),some (.ref rt),o6,o7,o8]) ((yl.length=SL.length/\yr.length=SR.length/\SL.length+SR.length<=AS n rs i)) (SH H [bx] H' [(lf,.lst yl),(rt,.lst yr),(sw,.lst yw),(bx,.lst [.int x,.int y,.int z])] [.tps yl (bT SL),.tps yr (bT SR),.tps yw (dB (gU n 0 0 rs)),.tps zs (aJ rs)])) ⟨_,_,_,lf0,rt0,[],[],[],[],0,x,y,z,rfl,⟨rfl,rfl,Nat.zero_le _⟩,((F.d8 (ys:=[]) (rs:=bT []) aD.nil).d8 (ys:=[]) (rs:=bT []) aD.nil).sub SbC.s SbI.s⟩ ?_ ?_ ?_
 ·clear F;rintro i σ' H' _ ⟨_,_,_,lf,rt,yl,yr,SL,SR,p,x,y,z,rfl,⟨ll,lr,ls⟩,F⟩;exact SqA.e
 ·clear F;rintro i v σ' H' hv ⟨_,_,_,lf,rt,yl,yr,SL,SR,p,x,y,z,rfl,⟨ll,lr,ls⟩,F⟩;obtain⟨w,q1,e1,rfl,e2⟩:=Cj (H:=H') (ws:=gU n 0 0 rs) (F.tps (by simp)) hv;obtain⟨x3,e3,w1,w2,w3,flt⟩:=Cy ok e1;rw[show xH w=[V.int x3.1,V.int x3.2.1,V.int w.2.2] by rw[<- w1,<- w2]] at e2;replace F:=F.uM e2;have al:=Zb n rs (i+1);rw[MK e3] at al;have sc:O4 rs x3.1 x3.2.1 w.2.2 x3.2.2:=⟨few,nH,flt,w3⟩;have xl:x3.2.2.length<=40:=by rw[<- flt];exact rX (List.length_filter_le _ _) few
  have xz:∀r∈x3.2.2,r.sz<=240:=λr hr=>by rw[<- flt] at hr;exact nH r (List.mem_filter.mp hr).1
  have e22:∀{H9},Same H' H9->H9 q1=some (.tup [.int x3.1,.int x3.2.1,.int w.2.2]):=λs=>s _ _ e2
  repeat k_meth
  refine mF (P:=Cg x3.1 x3.2.1) (fvs:=[some (.ref q1)]) aM (TpA.e (rs:=aJ rs)) (by lia) rfl (λi ys H'=>aD H' ys (((aJ rs).take i).filter (Cg x3.1 x3.2.1))) (λi ys H1 H2 s t=>gM s t) aD.nil (λi q2 r H2 R e5 s1 e6 kk=>?_) (λi q2 r ys H2 R e5 hp s1 e6 g kk=>?_) (λi r ys H' e1 hp g=>by rw[bZ e1,List.filter_append,List.filter_cons_of_neg (by simp[hp]),List.filter_nil,List.append_nil];exact g) λwq wy wH n1 gw=>?_
  ·have e7:=e22 s1;clear F;have F:=SH.n0 H2;obtain⟨s,_,rfl⟩:=vT.mp (yT e5);have ake:=om e6;have akf:=om e7;have kk:∀H3,Same H2 H3->R (decide (x3.1<=(s.st:Int)) && decide ((s.st:Int)<x3.2.1)) H3:=kk
   repeat k_meth
   refine cN (λh=>?_) (λh=>?_)
   ·repeat k_meth
    rw[gX h,Bool.true_and] at kk;exact kk _ (Same.refl _)
   ·repeat k_meth
    rw[gS h,Bool.false_and] at kk;exact kk _ (Same.refl _)
  ·repeat k_meth
   refine kk _ _ (Same.refl _) ?_;rw[bZ e5,List.filter_append,List.filter_cons_of_pos hp,List.filter_nil];exact aD.snoc g e6
  rw[nS (by rw[bw];lia),mU,flt] at gw;replace F:=F.newR n1 gw;have wyl:wy.length=x3.2.2.length:=by rw[gw.1,bw]
  clear n1 gw
  repeat k_meth
  obtain⟨gg,rfl⟩:∃g:Nat,r_=(g:Int):=⟨r_.toNat,by lia⟩;have hg:gg<=x3.2.2.length:=by lia
  have bl:(jn x3.1 x3.2.1 gg x3.2.2).length=x3.2.2.length:=rK ..;have sb:(jn x3.1 x3.2.1 gg x3.2.2).length<=40/\∀s∈jn x3.1 x3.2.1 gg x3.2.2,s.1.sz<=240:=⟨by lia,Cr xz⟩;have jl:=qK (jn x3.1 x3.2.1 gg x3.2.2);unfold oF at jl;rw[yB,List.length_reverse] at jl
  repeat k_meth
  rename List V=>yb
  have ybl:yb.length=(jn x3.1 x3.2.1 gg x3.2.2).length:=by assumption
  refine Bk (P:=ltS) (fvs:=[]) cV (λH' s=>s.seq (SqL.of aM)) (TpA.e (rs:=aQ (jn x3.1 x3.2.1 gg x3.2.2))) rfl (four _) (by first|lia|(rw[List.length_reverse];lia)) rfl (λi ys H'=>aD H' ys ((((aQ (jn x3.1 x3.2.1 gg x3.2.2)).take i).filter ltS).map X6)) (λi ys H1 H2 s t=>gM s t) aD.nil (λi a b c d H1 R e1 s1 kk=>?_) (λi a b c d ys H1 R e1 hp s1 g kk=>?_) (λi r ys H1 e1 hp g=>by rw[bZ e1,List.filter_append,List.filter_cons_of_neg (by simp[hp]),List.filter_nil,List.append_nil];exact g) λqa ya Ha n1 g=>?_
  ·clear F;have F:=SH.n0 H1;obtain⟨s,_,e⟩:=vT.mp (yT e1);cases e;have kk:∀H2,Same H1 H2->R (decide (s.2<(s.1.st:Int))) H2:=kk
   repeat k_meth
   exact kk _ (Same.refl _)
  ·clear F;have F:=SH.n0 H1
   repeat k_meth
   refine kk _ _ F.sm ?_;rw[bZ e1,List.filter_append,List.filter_cons_of_pos hp,List.filter_nil,List.map_append];exact aD.snoc (g.same F.sm) aM
  rw[nS (by first|(rw[cg];lia)|(rw[cg,List.length_reverse,List.length_reverse];lia)),aeI] at g;replace F:=F.newR n1 g;have yal:ya.length=(ml (jn x3.1 x3.2.1 gg x3.2.2)).length:=by rw[g.1,iW]
  have b1:yl.length+ya.length<=sizeLine:=by rw[sizeLine_eq];lia
  repeat k_meth
  rename Addr=>ca
  refine Bk (P:=gtS) (fvs:=[]) Oc (λH' s=>s.seq (SqL.of aM)) (show aD _ yb.reverse (aQ (jn x3.1 x3.2.1 gg x3.2.2).reverse) from by unfold aQ;rw[List.map_reverse];exact(F.tps (ys:=yb) (rs:=aQ (jn x3.1 x3.2.1 gg x3.2.2)) (by simp)).rev) rfl (four _) (by first|lia|(rw[List.length_reverse];lia)) rfl (λi ys H'=>aD H' ys ((((aQ (jn x3.1 x3.2.1 gg x3.2.2).reverse).take i).filter gtS).map X6)) (λi ys H1 H2 s t=>gM s t) aD.nil (λi a b c d H1 R e1 s1 kk=>?_) (λi a b c d ys H1 R e1 hp s1 g kk=>?_) (λi r ys H1 e1 hp g=>by rw[bZ e1,List.filter_append,List.filter_cons_of_neg (by simp[hp]),List.filter_nil,List.append_nil];exact g) λqb yb2 Hb n1 g=>?_
  ·clear F;have F:=SH.n0 H1;obtain⟨s,_,e⟩:=vT.mp (yT e1);cases e;have kk:∀H2,Same H1 H2->R (decide ((s.1.st:Int)<s.2)) H2:=kk
   repeat k_meth
   exact kk _ (Same.refl _)
  ·clear F;have F:=SH.n0 H1
   repeat k_meth
   refine kk _ _ F.sm ?_;rw[bZ e1,List.filter_append,List.filter_cons_of_pos hp,List.filter_nil,List.map_append];exact aD.snoc (g.same F.sm) aM
  rw[nS (by first|(rw[cg];lia)|(rw[cg,List.length_reverse,List.length_reverse];lia)),aeJ,Jb] at g;replace F:=F.newR n1 g;have aic:yb2.length=(mr (jn x3.1 x3.2.1 gg x3.2.2)).length:=by rw[g.1,iW,List.length_reverse]
  have b2:yb2.length+yr.length<=sizeLine:=by rw[sizeLine_eq];lia
  repeat k_meth
  have t1:aD H_ (yl++ya) (bT (SL++ml (jn x3.1 x3.2.1 gg x3.2.2))):=by
   rw[oX];exact(F.tps (ys:=yl) (rs:=bT SL) (by simp)).app (F.tps (ys:=ya) (rs:=bT (ml (jn x3.1 x3.2.1 gg x3.2.2))) (by simp))
  have t2:aD H_ (yb2++yr) (bT ((mr (jn x3.1 x3.2.1 gg x3.2.2)).reverse++SR)):=by
   rw[oX];exact(F.tps (ys:=yb2) (rs:=bT (mr (jn x3.1 x3.2.1 gg x3.2.2)).reverse) (by simp)).app (F.tps (ys:=yr) (rs:=bT SR) (by simp))
  refine⟨_,_,_,ca,p_,yl++ya,yb2++yr,SL++ml (jn x3.1 x3.2.1 gg x3.2.2),(mr (jn x3.1 x3.2.1 gg x3.2.2)).reverse++SR,_,x_,y_,z_,rfl,⟨by rw[yB,yB,ll,yal],by rw[yB,yB,lr,aic,List.length_reverse],?_⟩,((F.d8 t1).d8 t2).sub SbC.s SbI.s⟩;rw[MK e3,yB,yB,List.length_reverse]
  lia
 ·clear F;rintro σ' H' ⟨_,_,_,lf,rt,yl,yr,SL,SR,p,x,y,z,rfl,⟨ll,lr,ls⟩,F⟩;have al:=Zb n rs yw.length;have b2:yl.length+yr.length<=sizeLine:=by rw[sizeLine_eq];lia
  repeat k_meth
  rename_i ca;have t2:aD H_ (yl++yr) (bT (SL++SR)):=by
   rw[oX];exact(F.tps (ys:=yl) (rs:=bT SL) (by simp)).app (F.tps (ys:=yr) (rs:=bT SR) (by simp))
  exact k _ ca p (yl++yr) (SL++SR) _ _ _ _ F.kpo aM aM aM t2 (by rw[yB];lia) (F.fresh (LkL.m (o:=.lst _)) (nm1 (SH.neC (F:=F))))
end
open M22 M82 M87 M75
theorem qM.same{K:W.Frag}{H H':Hp}{u:V}:∀{o:Option (List Elt)},qM K H u o->Same H H'->qM K H' u o
 | none,h,s=>GP.same h s
 | some es,h,s=>by
  obtain⟨m,ws,a,b,c,d⟩:=h;exact⟨m,ws,a,s _ _ b,c.same s,d⟩
theorem wV{K:W.Frag}{H:Hp}{t:Addr}{p:Int}{u:V}(h:H t=some (.tup [.int p,u])):∀{o:Option (List Elt)},qM K H u o->jN K H (.ref t) (.pr p o)
 | none,m=>⟨t,u,rfl,h,m⟩
 | some es,m=>by
  obtain⟨q,ws,rfl,b,c,d⟩:=m;exact⟨t,q,ws,rfl,h,b,c,d⟩
theorem JG{K:W.Frag}{H:Hp}{q:Addr}{ws:List V}{ss:List Stp}(hq:H q=some (.lst ws))(t:aD H ws (bT ss))(few:ss.length<=40):∃o,qM K H (.ref q) o:=jy hq (λv hv=>by
 obtain⟨i,hi⟩:=List.getElem?_of_mem hv;obtain⟨r,q,e1,e2,e3⟩:=fC t hi;unfold bT at e1;rw[wS] at e1;cases e4:ss[i]? with
 | none=>rw[e4] at e1;cases e1
 | some w=>rw[e4] at e1;cases e1;exact⟨.mv (w.1.nm,.int w.2),q,e2,e3,rfl⟩) (by
 have:=t.1;rw[iW] at this
 lia)
def aeL(nms:List (List Nat))(r:List V):Bool:=nms.any λcs=>match r with
 | .str z::_=>decide (z=tx cs)
 | _=>false
def Vj(nms:List (List Nat))(s:Rw):aeL nms (dD s)=decide (s.nm∈nms):=by
 show (nms.any λcs=>decide (tx s.nm=tx cs))=_;rw[Bool.eq_iff_iff,List.any_eq_true,decide_eq_true_eq];exact⟨λ⟨c,a,b⟩=>by rw[lK (of_decide_eq_true b)];exact a,λh=>⟨_,h,by simp⟩⟩
def Pu(K:W.Frag)(P:Addr)(pos:Pos)(qual:Str):Sp:=λvs H Q _=>ad2 λ(bx l t m:Addr) (x y z:Int) (n pr:Nat) (zs ws:List V) (rs:List Rw) (ms:List Mv) (ps:xF)=>ad3 (vs=[.ref bx,.int (n:Nat),.ref l,.ref t]) (H bx=some (.lst [.int x,.int y,.int z])) (H l=some (.lst zs)) (aD H zs (aJ rs)) (LyA rs n) (H t=some (.tup [.int (pr:Nat),.ref m])) (pr<=100000) (H m=some (.lst ws)) (aD H ws (fJ ms)) ((ms.length<=40/\(∀w∈ms,w.2.2<=240/\w.2.1.length<=900)/\(0<ms.length->0<rs.length))) ((bx≠l/\bx≠m)) (H P=some (.tbl ps)) (TabOk pos qual ps H) (∀(v:V)(a:Ask)(x' y' z':Int)(ps':xF)(H':Hp),jN K H' v a->(∀b u,b ∉ [bx,P]->H b=some u->H' b=some u)->H' bx=some (.lst [.int x',.int y',.int z'])->H' P=some (.tbl ps')->TabOk pos qual ps' H'->Q v H')
section
variable{P:Program}{w:World}{K:W.Frag}{mg:xC}{base:Heap}{c:Nat->Addr}{aG aA aH aB R CL:Addr}
def Vk(T:Txt K mg c R CL aG aA aH aB)(B:Bm mg base):Def P w K mg base CX0 8 "_law_forged" ["_law_well_here","_law_many_here","_law_rows_here","_law_told"] (Pu K aA cA bR):=by
 obtain⟨_,wu⟩:=wu (P:=P) (w:=w) (base:=base) T;refine dA T.FN zj λf cdv A outer s H vs Q E hr h=>?_
 obtain⟨bx,l,t,m,x,y,z,n,pr,zs,ws,rs,ms,ps,rfl,hbx,hl,tp,lya,ht,ple,hm,tm,side,nbl,hP,tk,k⟩:=h;have nd:=zj.nd
 refine' ⟨_,?bd0,?main⟩
 case bd0 =>
  refine' aq ?s1 ?r1
  case r1 =>
   refine' aq ?s2 ?r2
   case r2 =>
    refine' aq ?s3 ?r3
    case r3 =>
     refine' aq ?s4 ?r4
     case r4 =>
      refine' aq ?s5 ?r5
      case r5 =>
       refine' aq ?s6 ?r6
       case r6 =>
        refine' aF ?s7
        case s7 =>
         exact(aR (bD (aj (aO bF (pv 3) au (λ_ _=>rfl)) (aj (aK (Vi T) hr (aj (pv 0) (aj (pv 2) (aj (aO bF (pv 3) au (λ_ _=>rfl)) ao)))) ao))))
       case s6 =>
        refine' bL ?t9 ?x9 ?y9
        case t9=>exact(aN dJ (pv 4) au (aY _))
        case y9 =>
         exact bf
        case x9 =>
         refine' aq ?s11 ?r11
         case r11 =>
          refine' aF ?s12
          case s12 =>
           exact(aR (aO bH (pv 6) (aK (bW T) hr (aj (pv 0) (aj au ao))) (λ_ _=>rfl)))
         case s11 =>
          refine' Ag (i:=6) ?n14 ?h14 ?o14 ?e14
          case n14=>exact nd
          case h14=>exact rfl
          case o14=>exact(Or.inl rfl)
          case e14 =>
           refine' bC ?p15
           case p15 =>
            refine' aj ?a16 ?b16 ?c16
            case a16=>exact(eX gK rfl T.iU boot_list (aj (pv 3) ao))
            case c16=>first|with_reducible rfl|rfl
            case b16 =>
             refine' aj ?a17 ?b17 ?c17
             case a17=>exact(bD (aj (aO bF (pv 3) au (λ_ _=>rfl)) ao))
             case c17=>first|with_reducible rfl|rfl
             case b17 =>
              refine' aj ?a18 ?b18 ?c18
              case a18=>exact(aW V_ (pv 3) (bD (aj au ao)))
              case c18=>first|with_reducible rfl|rfl
              case b18 =>
               refine' aj ?a19 ?b19 ?c19
               case a19=>exact(aO bF (pv 3) au (λ_ _=>rfl))
               case c19=>first|with_reducible rfl|rfl
               case b19 =>
                refine' aj ?a20 ?b20 ?c20
                case a20=>exact fM
                case c20=>first|with_reducible rfl|rfl
                case b20 =>
                 refine' aj ?a21 ?b21 ?c21
                 case a21=>exact(bD (aj (aO bF (pv 3) au (λ_ _=>rfl)) (aj (aO bF (pv 3) au (λ_ _=>rfl)) ao)))
                 case c21=>first|with_reducible rfl|rfl
                 case b21 =>
                  refine' aj ?a22 ?b22 ?c22
                  case a22=>exact gW
                  case c22=>first|with_reducible rfl|rfl
                  case b22 =>
                   refine' aj ?a23 ?b23 ?c23
                   case a23=>exact au
                   case c23=>first|with_reducible rfl|rfl
                   case b23 =>
                    refine' aj ?a24 ?b24 ?c24
                    case a24=>exact Dh
                    case c24=>first|with_reducible rfl|rfl
                    case b24 =>
                     refine' aj ?a25 ?b25 ?c25
                     case a25=>exact(bD (aj au (aj (bC ao) ao)))
                     case c25=>first|with_reducible rfl|rfl
                     case b25 =>
                      exact ao
      case s5 =>
       refine' bL ?t27 ?x27 ?y27
       case t27=>exact(aN dJ (pv 4) au (aY _))
       case y27 =>
        exact bf
       case x27 =>
        refine' aq ?s29 ?r29
        case r29 =>
         refine' aF ?s30
         case s30 =>
          exact(aR (bD (aj (aX (jF rfl) rfl T.zN boot_sum (aj (cQ (N:=["_law_row","_law_moves"]) (nt:=1) (fr:=[5]) (bJ (pv 2)) (λ_ _ _ _=>(bG (i:=0) (show (["_law_row","_law_moves"]:List Str).Nodup from by decide +kernel) rfl (Or.inl rfl))) (λ_ _ _ _=>d9 (aN (Ih (K:=K) rfl) (aO (cD (K:=K) rfl) (pv 0) au (λ_ _=>rfl)) (by refine cQ (wi:=uc K (cR 1)) (g:=aU 0) (c:=gQ) (te:=tOp (Ht K) (cR 0) (tC (.int 0))) (N:=["_law_move"]) (nt:=1) (fr:=[]) ?_ ?_ ?_ ?_;exact(bJ (pv 1));exact(λ_ _ _ _=>(bG (i:=0) (show (["_law_move"]:List Str).Nodup from by decide +kernel) rfl (Or.inl rfl)));exact(λ_ _ _ _=>dF);exact(λ_ _ _ _=>(aO (cD (K:=K) rfl) (pv 0) au (λ_ _=>rfl)))) (by with_unfolding_all rfl))) (λ_ _ _ _=>(aO (cD (K:=K) rfl) (pv 0) au (λ_ _=>rfl)))) ao)) (aj (pv 5) ao))))
        case s29 =>
         refine' Ag (i:=5) ?n32 ?h32 ?o32 ?e32
         case n32=>exact nd
         case h32=>exact rfl
         case o32=>exact(Or.inr rfl)
         case e32 =>
          exact(aK wu.all hr (aj (Bf (wj T B) hr (aj (pv 1) (aj (pv 2) ao))) (aj (aO bH (bC (aj gW (aj gW ao))) (aK (bW T) hr (aj (pv 0) (aj au ao))) (λ_ _=>rfl)) ao)))
     case s4 =>
      exact(bL (aN dJ (pv 4) au (aY _)) (aF (aR (aK (sY T) hr (aj (pv 0) (aj (pv 1) (aj (pv 2) ao)))))) bf)
    case s3 =>
     exact(bL (aN dJ (pv 4) au (aY _)) (aF (aR (bD (aj (aK (Vf T) hr (aj (pv 0) (aj (aO bF (pv 3) au (λ_ _=>rfl)) ao))) (aj (aO bF (pv 3) au (λ_ _=>rfl)) ao))))) bf)
   case s2 =>
    exact(bL (aN dJ (pv 4) au (aY _)) (aF (aR (bD (aj (aO bF (pv 3) au (λ_ _=>rfl)) (aj (aO bF (aK (sY T) hr (aj (pv 0) (aj (pv 1) (aj (pv 2) ao)))) au (λ_ _=>rfl)) ao))))) bf)
  case s1 =>
   exact(psz 4 nd (aK (bW T) hr (aj (pv 0) (aj au ao))))
 clear nd;rw[stE]
 try dsimp only[cI,bO]
 have few:=lya.l.few;have wl:ws.length=ms.length:=by rw[tm.1,qG]
 have neb:bx≠aA:=bM hbx hP (by simp);have F:SH H [bx,aA] H [(bx,.lst [.int x,.int y,.int z]),(aA,.tbl ps)] [.tps ws (fJ ms),.tps zs (aJ rs),cL cA bR ps]:=((((SH.nil.g8 (by simp) hP rfl (by simp)).g8 (by simp) hbx rfl (by simp[Ne.symm neb])).jt tk).d8 tp).d8 tm;have jx:=Old.mk (M:=[bx,aA]) hl (nm2 (Ne.symm nbl.1) (bM hl hP (by simp)));have abA:=Old.mk (M:=[bx,aA]) hm (nm2 (Ne.symm nbl.2) (bM hm hP (by simp)));have Jv:=Old.mk (M:=[bx,aA]) ht (nm2 (bM ht hbx (by simp)) (bM ht hP (by simp)))
 repeat k_meth
 refine cN (λw6=>?_) (λw6=>?_)
 ·repeat k_meth
  refine⟨bx,l,_,_,_,n,zs,rs,rfl,aM,aM,F.tps (by simp),lya,nbl.1,λt2 q2 p2 ws2 ss2 xa ya za H1 kp hb ht2 hq2 tq2 abI fr2=>?_⟩;replace F:=F.kp kp hb LkU.u rfl;have dn:∀{H9:Hp} (v:V) (a:Ask),Same H1 H9->jN K H9 v a->Q v H9:=λv a s h=>k v a xa ya za ps _ h (λb u nb e=>s _ _ (F.fr b u nb e)) (s _ _ aM) (s _ _ aM) (TabOk.st _ _ (λa o _ e=>s a o e) SH.tab)
  have ht1:H1 t=some (.tup [.int (pr:Nat),.ref m]):=aM;have hm1:H1 m=some (.lst ws):=aM;have tm1:aD H1 ws (fJ ms):=F.tps (by simp);clear F;have F:=SH.n0 H1;have Ut:=om ht1;have Yb:=om hm1;have G8:=dN.mk tm1;obtain⟨o,mo⟩:=JG (K:=K) hq2 tq2 abI;have abe:=om ht2
  repeat k_meth
  exact dn _ _ F.sm (wV aM (mo.same F.sm))
 repeat k_meth
 refine cN (λw0=>?_) (λw0=>?_)
 ·repeat k_meth
  refine⟨bx,_,_,_,pr,rfl,ple,aM,λv xa ya za H1 cls kp hb=>?_⟩;replace F:=F.kp kp hb LkU.u rfl;have dn:∀{H9:Hp} (v:V) (a:Ask),Same H1 H9->jN K H9 v a->Q v H9:=λv a s h=>k v a xa ya za ps _ h (λb u nb e=>s _ _ (F.fr b u nb e)) (s _ _ aM) (s _ _ aM) (TabOk.st _ _ (λa o _ e=>s a o e) SH.tab)
  have ht1:H1 t=some (.tup [.int (pr:Nat),.ref m]):=aM;have hm1:H1 m=some (.lst ws):=aM;have tm1:aD H1 ws (fJ ms):=F.tps (by simp);clear F;have F:=SH.n0 H1;have Ut:=om ht1;have Yb:=om hm1;have G8:=dN.mk tm1
  repeat k_meth
  obtain⟨o,mo⟩:=jy (K:=K) (H:=H_) (q:=m) (ws:=ws) aM (mH (ms:=ms) (tm1.same F.sm)) (by lia);rcases cls with⟨i,rfl⟩|⟨iw,an⟩
  ·exact dn _ _ F.sm (wV aM mo)
  ·obtain⟨n1,ty⟩:=(an.same F.sm).ty K;exact dn _ .no F.sm (.inr ⟨_,_,_,n1,rfl,aM,ty,iw⟩)
 repeat k_meth
 refine cN (λw1=>?_) (λw1=>?_)
 ·repeat k_meth
  refine⟨bx,l,_,_,_,n,zs,rs,rfl,aM,aM,F.tps (by simp),lya,nbl.1,λt2 q2 p2 ws2 ss2 xa ya za H1 kp hb ht2 hq2 tq2 abI fr2=>?_⟩;replace F:=F.kp kp hb LkU.u rfl;have dn:∀{H9:Hp} (v:V) (a:Ask),Same H1 H9->jN K H9 v a->Q v H9:=λv a s h=>k v a xa ya za ps _ h (λb u nb e=>s _ _ (F.fr b u nb e)) (s _ _ aM) (s _ _ aM) (TabOk.st _ _ (λa o _ e=>s a o e) SH.tab)
  have ht1:H1 t=some (.tup [.int (pr:Nat),.ref m]):=aM;have hm1:H1 m=some (.lst ws):=aM;have tm1:aD H1 ws (fJ ms):=F.tps (by simp);clear F;have F:=SH.n0 H1;have Ut:=om ht1;have Yb:=om hm1;have G8:=dN.mk tm1;obtain⟨o,mo⟩:=JG (K:=K) hq2 tq2 abI;exact dn _ _ (Same.refl _) (wV ht2 mo)
 repeat k_meth
 refine cN (λw2=>?_) (λw2=>?_)
 ·have la:T7 n rs rs:=⟨List.Perm.refl _,lya.l,lya.a⟩;have h16:=lya.g;have kJ:=lya.h;have akg:16<=n/\n<=240:=⟨h16,kJ⟩
  repeat k_meth
  intro ps2
  repeat k_meth
  rename_i lx _ _ lp _ _;refine kh SqA.e lo_ hi_ λv hv=>?_
  simp only[List.mem_cons,List.not_mem_nil,or_false] at hv;obtain⟨d,way,rfl,iw⟩:∃(d:Bool)(way:Str),v=.str way/\Y6 way d:=by
   rcases hv with rfl|rfl
   ·exact⟨true,_,rfl,.inl ⟨rfl,rfl⟩⟩
   ·exact⟨false,_,rfl,.inr ⟨rfl,rfl⟩⟩
  repeat k_meth
  refine⟨lx,lp,dx_,way,d,n,ys_,rs,rfl,iw,aM,aM,F.tps (by simp),few,λq yq H1 nw tq=>?_⟩;replace F:=F.newR nw tq;have pl:=OD d n rs;have yql:yq.length=(qC d n rs).length:=by rw[tq.1,iW]
  have hl1:H1 l=some (.lst zs):=aM;have tp1:aD H1 zs (aJ rs):=F.tps (by simp);have hq1:H1 q=some (.lst yq):=aM;have zl:zs.length=rs.length:=by rw[tp1.1,bw]
  have dn:∀{H9:Hp} (v:V) (a:Ask),Same H1 H9->jN K H9 v a->Q v H9:=λv a s h=>k v a x_ y_ z_ ps2 _ h (λb u nb e=>s _ _ (F.fr b u nb e)) (s _ _ aM) (s _ _ aM) (TabOk.st _ _ (λa o _ e=>s a o e) SH.tab)
  have ht1:H1 t=some (.tup [.int (pr:Nat),.ref m]):=aM;have hm1:H1 m=some (.lst ws):=aM;have tm1:aD H1 ws (fJ ms):=F.tps (by simp);clear F;have F:=SH.n0 H1;have Ut:=om ht1;have Yb:=om hm1;have G8:=dN.mk tm1;have akh:=om hl1;have aki:=om hq1;have ajm:=dN.mk tp1;have ah9:=dN.mk tq
  repeat k_meth
  refine mF (P:=aeL ((qC d n rs).map λs=>s.1.nm)) (fvs:=[some (.ref q)]) aM (TpA.e (rs:=aJ rs)) (by lia) rfl (λi ys _=>∃is:List Int,ys=is.map V.int/\is.length<=i/\∀x∈is,0<=x/\x<=240) (λi ys H1 H2 s t=>t) ⟨[],rfl,Nat.le_refl _,by simp⟩ (λi q1 r H2 R e1 s1 e2 kk=>?_) (λi q1 r ys H2 R e1 hp s1 e2 g kk=>?_) (λi r ys H' e1 hp g=>let ⟨is,a,b,c⟩:=g;⟨is,a,by lia,c⟩) λqs ys H2 n1 g=>?_
  ·have hq2:=s1 _ _ (F.sm _ _ hq1);have tq2:=(tq.same F.sm).same s1;clear F;have F:=SH.n0 H2;obtain⟨s,_,rfl⟩:=vT.mp (yT e1);have iy:=om e2;have ajn:=om hq2;have ajo:=dN.mk tq2
   repeat k_meth
   refine gq (F:=λr=>r.getD 0 .non) aM (TpA.e (rs:=bT (qC d n rs))) (by lia) rfl (λq2 w2 H2 R2 hw s2 f2 kk2=>?_) λl2 H2 n2=>?_
   ·obtain⟨w,_,rfl⟩:=vT.mp hw;clear F;have F:=SH.n0 H2;have abv:Old H2 [] q2 (.tup [.str (tx w.1.nm),.int w.2]):=om f2
    repeat k_meth
    exact kk2 _ (Same.refl _)
   rw[show (bT (qC d n rs)).map (λr=>r.getD 0 V.non)=((qC d n rs).map λs=>s.1.nm).map λcs=>V.str (tx cs) by unfold bT;rw[List.map_map,List.map_map];rfl] at n2;replace F:=F.newL n2;rw[Vj] at kk;by_cases hc:s.nm∈(qC d n rs).map λs=>s.1.nm
   ·repeat k_meth
    rw[gX hc] at kk ⊢;exact kk _ F.sm
   ·repeat k_meth
    rw[gS hc] at kk ⊢;exact kk _ F.sm
  ·obtain⟨is,rfl,il,ib⟩:=g;obtain⟨s,hs,rfl⟩:=vT.mp (yT e1);clear F;have F:=SH.n0 H2;have iy:=om e2
   repeat k_meth
   refine kk _ _ F.sm ⟨is++[((s.sz:Nat):Int)],by rw[List.map_append];rfl,by rw[yB,List.length_singleton];lia,λx hx=>?_⟩;rcases wP.mp hx with hx|hx
   ·exact ib x hx
   ·rw[uS.mp hx];have:=(lya.l.good s hs).le
    lia
  obtain⟨is,rfl,il,ib⟩:=g;replace F:=F.newL n1;have side2:(∀z∈is,0<=z/\z<=1000000)/\is.length<=1000000:=⟨λz hz=>by have:=ib z hz;lia,by lia⟩
  repeat k_meth
  obtain⟨o,mo⟩:=JG (K:=K) (F.sm _ _ hq1) (tq.same F.sm) (by lia);exact dn _ _ F.sm (wV aM mo)
 repeat k_meth
 refine cN (λw3=>?_) (λw3=>?_)
 ·repeat k_meth
  refine⟨t,p_,[.int (pr:Nat),.ref m],[.int 0],rfl,rfl,SqT.of aM,SqT.of aM,(by simp),(by rw[sizeLine_eq];show 3<=16777216;decide),(λz=>absurd z (by simp)),?_⟩;intro _ q hq;have nq:New H_ (upd H_ q (.tup ([.int (pr:Nat),.ref m]++[.int 0]))) q (.tup [.int (pr:Nat),.ref m,.int 0]):=New.mk' hq
  revert nq
  generalize upd H_ q (.tup ([.int (pr:Nat),.ref m]++[.int 0]))=H9
  intro nq;replace F:=F.newT nq
  repeat k_meth
  refine kh SqA.e lo_ hi_ λv hv=>?_
  simp only[List.mem_cons,List.not_mem_nil,or_false] at hv
  repeat k_meth
  have dn:∀(a:Ask),jN K H_ v a->Q v H_:=λa h=>k v a x_ y_ z_ ps _ h F.fr aM aM SH.tab
  rcases hv with rfl|rfl|rfl|rfl|rfl|rfl|rfl|rfl|rfl|rfl
  ·exact dn .no (.inl (.inl ⟨_,.lst aM,by decide⟩))
  ·exact dn .no (.inl (.inr ⟨_,_,rfl,aM,by simp⟩))
  ·exact dn .no (.inl (.inr ⟨_,_,rfl,aM,by simp⟩))
  ·exact dn .no (.inl (.inl ⟨_,.lst aM,by decide⟩))
  ·exact dn .no (.inl (.inl ⟨_,.non,by decide⟩))
  ·exact dn .no (.inr ⟨_,_,_,_,rfl,aM,.lst aM,rfl⟩)
  ·exact dn .no (.inl (.inl ⟨_,.str _,by decide⟩))
  ·exact dn .no (.inl (.inl ⟨_,.int _,by decide⟩))
  ·exact dn .no (.inl (.inl ⟨_,.dK aM,by decide⟩))
  ·exact dn (.pr 0 (some [])) ⟨_,_,[],rfl,aM,aM,⟨rfl,λi v e=>by simp at e⟩,by simp⟩
 repeat k_meth
 refine⟨bx,l,m,_,_,_,n,zs,ws,rs,ms,rfl,aM,aM,F.tps (by simp),lya,aM,F.tps (by simp),side,nbl,λu o xa ya za H1 mo kp hb=>?_⟩;replace F:=F.kp kp hb LkU.u rfl;have dn:∀{H9:Hp} (v:V) (a:Ask),Same H1 H9->jN K H9 v a->Q v H9:=λv a s h=>k v a xa ya za ps _ h (λb u nb e=>s _ _ (F.fr b u nb e)) (s _ _ aM) (s _ _ aM) (TabOk.st _ _ (λa o _ e=>s a o e) SH.tab)
 have ht1:H1 t=some (.tup [.int (pr:Nat),.ref m]):=aM;have hm1:H1 m=some (.lst ws):=aM;have tm1:aD H1 ws (fJ ms):=F.tps (by simp);clear F;have F:=SH.n0 H1;have Ut:=om ht1;have Yb:=om hm1;have G8:=dN.mk tm1
 repeat k_meth
 exact dn _ _ F.sm (wV aM (mo.same F.sm))
end
open M22 M82 M87 M75 M88
section
variable{K:W.Frag}{H:Hp}{Q:VK}{p q:Addr}{ys zs:List V}{rs:List Rw}
instance aie[h:Hat H p (.lst ys)][h2:Hat H q (.lst zs)][t:TpA H ys (aJ rs)][t2:TpA H zs (aJ rs)]:Go (Z7 K (.ref p) (.ref q) H Q) (Q (.bl false) H):=⟨Rv (DK (SqL.of h.e) t.e (Ue _)) (DK (SqL.of h2.e) t2.e (Ue _)) (rX (NK _) (by decide))⟩
end
def Vl(L:List Sp2):(oF L).Perm (mv L):=by
 have h:∀L:List Sp2,(ml L++mr L).Perm (mv L):=by
  intro L
  induction L with
  | nil=>exact List.Perm.refl _
  | cons s L ih =>
   unfold ml mr mv at *;by_cases q:s.2<(s.1.st:Int)
   ·rw[List.filter_cons_of_pos (by simpa using q),List.filter_cons_of_neg (by simp;lia),List.filter_cons_of_pos (by simp;lia)];exact ih.cons s
   ·by_cases q2:(s.1.st:Int)<s.2
    ·rw[List.filter_cons_of_neg (by simpa using q),List.filter_cons_of_pos (by simpa using q2),List.filter_cons_of_pos (by simp;lia)];exact List.perm_middle.trans (ih.cons s)
    ·rw[List.filter_cons_of_neg (by simpa using q),List.filter_cons_of_neg (by simpa using q2),List.filter_cons_of_neg (by simp;lia)];exact ih
 exact((List.reverse_perm _).append_left _).trans (h L)
def JH{n:Nat}{rs:List Rw}(ok:OkA 0 n rs):ChS n 0 (Jof n rs)/\∀s∈Jof n rs,0<=s.2:=by
 have h:=Xh ok rs [] [] 0 rfl (λ_ h=>by cases h) (λs _=>by lia) (by lia);exact⟨h,λs hs=>(ChS.le h).2 s hs |>.1⟩
def CG(n:Nat)(rs:List Rw):∀s∈Jof n rs,0<s.1.pn->s.2=(s.1.st:Int):=S_ n rs 0 [] (λ_ h=>by cases h)
def abJ{n:Nat}{rs:List Rw}(ok:OkA 0 n rs):bT (oF (Jof n rs))=fJ (eU (Jof n rs)):=by
 have h:=El (JH ok).2;have g:∀ss:List Sp2,bT ss=(ss.map λs=>(s.1.nm,s.2)).map λp:List Nat×Int=>[V.str (tx p.1),V.int p.2]:=λss=>by unfold bT;rw[List.map_map];rfl
 rw[g,<- h,List.map_map]
 rfl
def Vm{n:Nat}{rs:List Rw}(ly:Lay n rs)(as:Asc rs):ahY n rs (eU (Jof n rs))/\((cu rs (eU (Jof n rs)):Nat):Int)=pri (Jof n rs):=by
 have ok:=Y8 ly as;obtain⟨ch,nn⟩:=JH ok;have e:=Cq n rs;have okJ:OkA 0 n ((Jof n rs).map (·.1)):=by rw[e];exact ok
 have w:=uW ch okJ (CG n rs);have pr:=Oe ch okJ (CG n rs);rw[e] at w pr;have told:=El nn;have hl:(eU (Jof n rs)).length=(oF (Jof n rs)).length:=by have:=gE List.length told;rwa [wE,wE] at this
 have ol:=qK (Jof n rs);rw[qI] at ol;have nd:=Ui ly;refine⟨⟨ly.few,by have:=ly.few;lia,w.1,?_,nd⟩,pr⟩;have en:(eU (Jof n rs)).map (·.2.1)=(oF (Jof n rs)).map (·.1.nm):=by
  have:=gE (List.map Prod.fst) told;rw[List.map_map,List.map_map] at this;exact this
 rw[en,((Vl (Jof n rs)).map _).nodup_iff];refine List.Nodup.sublist (List.filter_sublist.map _) ?_;rw[show (Jof n rs).map (λs=>s.1.nm)=((Jof n rs).map (·.1)).map (·.nm) by rw[List.map_map];rfl,e];exact nd
def toE(ms:List Mv):List Elt:=ms.map λm=>.mv (m.2.1,.int (m.2.2:Nat))
def abK{K:W.Frag}{H:Hp}{ws:List V}{ms:List Mv}(t:aD H ws (fJ ms)):gD K H ws (toE ms):=⟨by rw[t.1,qG];exact(wE _).symm,λi v e=>by
 obtain⟨w,q,e1,e2,e3⟩:=Mh t e;refine⟨.mv (w.2.1,.int (w.2.2:Nat)),?_,q,e2,e3,rfl⟩;unfold toE;rw[wS,e1]
 rfl⟩
theorem G9{n:Nat}:∀{ms:List Mv} {T:List Rw} {dn:List (List Nat)},LyA T n->WOk n T ms->(ms.map (·.2.1)).Nodup->(∀m∈ms,m.2.1 ∉ dn)->cO n T dn (toE ms)=some ms
 | [],_,_,_,_,_,_=>rfl
 | m::ms,T,dn,ly,w,nd,nn=>by
  obtain⟨⟨r,h1,h2,h3,h4,h5⟩,w2⟩:=w;rw[oS,List.nodup_cons] at nd;have hb:inB (.int (m.2.2:Nat)) (iT T m.1:Nat) ((dU n T m.1:Nat)-(r.sz:Int))=true:=by
   show (decide _ && decide _)=true;rw[gX (by lia),gX (by lia)]
   rfl
  have hs:fB n T dn m.2.1 (.int (m.2.2:Nat))=some m:=by
   rw[<- h2,step_at ly.l h1,yA,zS hb]
   ·show some (m.1,r.nm,((m.2.2:Nat):Int).toNat)=some m;rw[Int.toNat_natCast,h2]
   ·rw[h2];intro z;rcases z with z|z
    ·exact nn m zC z
    ·lia
  have e:=j8 (m:=(m.2.1,.int (m.2.2:Nat))) (es:=toE ms) hs;show cO n T dn (.mv (m.2.1,V.int (m.2.2:Nat))::toE ms)=_;rw[e,G9 (iz ly ⟨h1,h3,h4,h5⟩) w2 nd.2 λa ha z=>?_]
  ·rfl
  ·rcases wP.mp z with z|z
   ·exact nn a (zD _ ha) z
   ·have z:a.2.1=m.2.1:=by simpa using z
    exact nd.1 (z▸List.mem_map_of_mem (f:=(·.2.1)) ha)
def Vn{n:Nat}{rs:List Rw}(lya:LyA rs n):G5 n rs (.pr ((cu rs (eU (Jof n rs)):Nat):Int) (some (toE (eU (Jof n rs)))))=true:=by
 have ok:=lya.ok;obtain⟨wk,pe⟩:=Vm lya.l lya.a;rw[rQ (G9 lya wk.ok wk.ndm (by simp)),pe];have h:=Oh ok (JH ok).1 (CG n rs);have e:wA n rs=cnt (cC n 0 [] rs):=by
  unfold wA;rw[rJ ok];exact(Xm n rs).symm
 rw[show (jw n 0 (bV rs (eU (Jof n rs)))).length=wA n rs from h.trans e.symm];simp
theorem JK{n:Nat}:∀{w:List Mv} {T:List Rw},LyA T n->WOk n T w->∀m∈w,m.2.2<=240/\∃r∈T,r.nm=m.2.1
 | [],_,_,_=>λ_ h=>by cases h
 | m::w,T,ly,ok=>λs hs=>by
  obtain⟨⟨r,h1,h2,h3,h4,h5⟩,ok2⟩:=ok;have ly2:=iz ly ⟨h1,h3,h4,h5⟩;rcases vS.mp hs with rfl|hs
  ·refine⟨?_,r,yT h1,h2⟩;have hk:(mvT T s.1 s.2.2)[s.1]?=some (oE r s.2.2):=by unfold mvT;rw[List.getElem?_modify_eq,h1];rfl
   have:=(ly2.l.good _ (yT hk)).le;have:=ly.h;have e:(oE r s.2.2).st=s.2.2:=rfl
   lia
  ·obtain⟨a,q,b,c⟩:=JK ly2 ok2 s hs;refine⟨a,?_⟩;have:q.nm∈(mvT T m.1 m.2.2).map (·.nm):=List.mem_map_of_mem b;rw[Uo] at this;obtain⟨r3,h,e⟩:=vT.mp this;exact⟨r3,h,e.trans c⟩
def NT(H H':Hp):Prop:=∀b u,H b=some u->(∀ps,u≠.tbl ps)->H' b=some u
def Vo{K:W.Frag}{H H':Hp}{v:V}{n1:String}(h:dj K H v (.type n1))(s:NT H H'):dj K H' v (.type n1):=h.kept λa u z e=>s a u e λps w=>by
 subst z w;cases h <;> simp_all
theorem qL.nt{K:W.Frag}{H H':Hp}{v:V}(h:qL K H v)(s:NT H H'):qL K H' v:=by
 rcases h with⟨n1,ty,nt⟩|⟨t,xs,rfl,ht,nl⟩
 ·exact .inl ⟨n1,Vo ty s,nt⟩
 ·exact .inr ⟨t,xs,rfl,s _ _ ht (λ_=>by simp),nl⟩
theorem mG.nt{K:W.Frag}{H H':Hp}{v:V}(h:mG K H v)(s:NT H H'):mG K H' v:=by
 refine⟨?_,h.2⟩;cases h.1 with
 | flt z=>exact .flt z
 | lst e=>exact .lst (s _ _ e λ_=>by simp)
 | tup e=>exact .tup (s _ _ e λ_=>by simp)
theorem gD.nt{K:W.Frag}{H H':Hp}{ws:List V}{es:List Elt}(h:gD K H ws es)(s:NT H H'):gD K H' ws es:=⟨h.1,λi v e=>by
 obtain⟨x,e1,e2⟩:=h.2 i v e;refine⟨x,e1,?_⟩;cases x with
 | mv m=>obtain⟨q,a,b,c⟩:=e2;exact⟨q,a,s _ _ b (λ_=>by simp),c⟩
 | od=>obtain⟨q,a,b,c,d,e⟩:=e2;exact⟨q,a,b,c,s _ _ d (λ_=>by simp),mG.nt (K:=K) e s⟩
 | no=>exact qL.nt e2 s⟩
theorem jN.nt{K:W.Frag}{H H':Hp}{v:V}(s:NT H H'):∀{a:Ask},jN K H v a->jN K H' v a
 | .no,h=>by
  rcases h with h|⟨t,a,b,n1,e,ht,ty,iw⟩
  ·exact .inl (h.nt s)
  ·exact .inr ⟨t,a,b,n1,e,s _ _ ht (λ_=>by simp),Vo ty s,iw⟩
 | .pr p none,⟨t,u,e,ht,n1,ty,nl⟩=>⟨t,u,e,s _ _ ht (λ_=>by simp),n1,Vo ty s,nl⟩
 | .pr p (some es),⟨t,m,ws,e,ht,hm,el,few⟩=>⟨t,m,ws,e,s _ _ ht (λ_=>by simp),s _ _ hm (λ_=>by simp),el.nt s,few⟩
def Tb2.nt{P P2:Addr}{pos pos2:Pos}{qual nM:Str}{H H':Hp}(tb:Tb2 P P2 pos qual pos2 nM H H'){ps po:xF}(h1:H P=some (.tbl ps))(h2:H P2=some (.tbl po)):NT H H':=λb u e n=>tb.k b u (λz=>n ps (nI (e.symm.trans (z▸h1)))) (λz=>n po (nI (e.symm.trans (z▸h2)))) e
def two_t{H0 H':Hp}{P P2:Addr}{pos pos2:Pos}{qual nM:Str}(tb:Tb2 P P2 pos qual pos2 nM H0 H')(ne:P≠P2):∃ps po,SH H0 [P,P2] H' [(P,.tbl ps),(P2,.tbl po)] [cL pos qual ps,cL pos2 nM po]:=by
 obtain⟨k,⟨ps,a,b⟩,po,c,d⟩:=tb;have s:SH H' [P,P2] H' [(P,.tbl ps),(P2,.tbl po)] [cL pos qual ps,cL pos2 nM po]:=(((SH.nil.g8 (by simp) c rfl (by simp)).g8 (by simp) a rfl (by simp[Ne.symm ne])).jt d).jt b;exact⟨ps,po,⟨λb u nb e=>k b u (λz=>nb (by simp[z])) (λz=>nb (by simp[z])) e,s.im,s.at',s.nd,s.mu,λc hc=>.inl (by
  simp only[List.mem_cons,List.not_mem_nil,or_false] at hc;rcases hc with rfl|rfl <;> simp)⟩⟩
def two_h{H0 H':Hp}{bx P:Addr}{pos:Pos}{qual:Str}{ps:xF}{xs:List V}(kp:∀b u,b ∉ [bx,P]->H0 b=some u->H' b=some u)(hb:H' bx=some (.lst xs))(hP:H' P=some (.tbl ps))(tk:TabOk pos qual ps H')(ne:bx≠P):SH H0 [bx,P] H' [(bx,.lst xs),(P,.tbl ps)] [cL pos qual ps]:=by
 have s:SH H' [bx,P] H' [(bx,.lst xs),(P,.tbl ps)] [cL pos qual ps]:=((SH.nil.g8 (by simp) hP rfl (by simp)).g8 (by simp) hb rfl (by simp[Ne.symm ne])).jt tk;exact⟨kp,s.im,s.at',s.nd,s.mu,λc hc=>.inl (by
  simp only[List.mem_cons,List.not_mem_nil,or_false] at hc;rcases hc with rfl|rfl <;> simp)⟩
def CJ(P P2:Addr)(K:W.Frag):Sp:=λvs H Q _=>∃(a:Addr)(ns:List Int),An8 (vs=[.ref a]) (SqL K H a (ns.map V.int)) (ns.length<=63) (H P=some (.tbl #[])) (a≠P) (H P2=some (.tbl #[])) (a≠P2) (∀H',Q (.bl true) H')
section
variable{P:Program}{w:World}{K:W.Frag}{mg:xC}{base:Heap}{c:Nat->Addr}{aG aA aH aB R CL:Addr}
def abL(T:Txt K mg c R CL aG aA aH aB)(B:Bm mg base){f:Addr}{fd:FuncData}(F:Fun K "law" "law" qe f fd):iZ P w K mg base CX0 12 f fd ["_law_script"] (CJ aA aB K):=by
 refine Wj F Tt (λvs H Q E h=>?_) (λcdv A outer s H vs Q E hr h=>?_)
 ·obtain⟨a,ns,rfl,_⟩:=h
  rfl
 ·obtain⟨a,ns,rfl,hS,hl,hP,hne,hP2,aif,k⟩:=h;have nd:=Tt.nd;refine⟨_,(aq (cU PassesOwn.never rfl (fK rfl T.fW (aj (aX (yu rfl) rfl T.T5 boot_max (aj au (aj (aX (jD rfl) rfl T.v7 boot_min (aj (aX bK rfl T.dz boot_len (aj (pv 0) ao)) (aj au ao))) ao))) ao)) (pgz 1 nd) (aq (psz 2 nd (aK (aeb T) hr (aj (aK (Oq T) hr (aj (pv 0) (aj (pv 1) ao))) ao)))
    (aq (psz 3 nd (aK (aa0 T) hr (aj (pv 2) ao)))
    (aq (psz 4 nd (aK (aa3 T) hr (aj (pv 2) (aj (pv 3) (aj (aK (Xu T) hr (aj (pv 2) (aj (aK (aa1 T) hr (aj (pv 2) ao)) ao))) ao)))))
    (aq (psz 5 nd (Bf (wj T B) hr (aj (pv 3) (aj (pv 4) ao))))
    (aq (psz 6 nd (aK (Gz T B) hr (aj (pv 5) ao)))
    (aq (bL (aN Wt (aK (wR T B) hr (aj (pv 5) (aj (pv 6) ao))) iG (aY _)) (aF (aR iG)) bf)
    (aF (cU PassesOwn.never rfl (fK rfl T.fW (aj au ao)) (pgz 7 nd) (aq (psz 8 nd (aK (Vk T B) hr (aj (pv 2) (aj (pv 3) (aj (pv 4) (aj (pv 6) ao))))))
     (aq (psz 9 nd (aK (wR T B) hr (aj (pv 5) (aj (pv 8) ao))))
     (aF (bL (PW.pt (gO (dW (dH (aX cZ rfl T.bU boot_isinstance (aj (pv 9) (aj (je (T := "bool") rfl T.vY boot_bool) ao))))) (gO (aN j_ (pv 9) (aK (aeK T) hr (aj (pv 3) (aj (pv 4) (aj (pv 8) ao)))) (aY _)) (gY (aN (Rk hr) (jf (pv 5) T.clL (fH T) hr) (pv 4) (aY _)))))) (aF (aR iG)) bf)))))))))))))
   (aF (aR iG))),?_⟩
  clear nd;rw[stE]
  try dsimp only[cI,bO]
  have tne:=T.tne;have F:SH H [aA,aB] H [(aA,.tbl #[]),(aB,.tbl #[])] [cL cA bR #[],cL cG bY #[]]:=(((SH.nil.g8 (List.mem_cons_of_mem _ List.mem_cons_self) hP2 rfl (by simp)).g8 List.mem_cons_self hP rfl (by simp[Ne.symm tne])).jt (.inl rfl)).jt (.inl rfl);have akj:=ac_.mk (M:=[aA,aB]) hS (nm2 hne aif)
  repeat k_meth
  generalize (max 1 (min ((ns.map V.int).length:Int) 8)).toNat=N
  refine lG (λi σ' H'=>Xc λ(o1 o2 o3 o4 o5 o6 o7 o8 o9:Option V) (ps po:xF)=>σ'=[some (.ref a),o1,o2,o3,o4,o5,o6,o7,o8,o9]/\SH H [aA,aB] H' [(aA,.tbl ps),(aB,.tbl po)] [cL cA bR ps,cL cG bY po]) ⟨_,_,_,_,_,_,_,_,_,#[],#[],rfl,F⟩ ?_ ?_
  ·clear F;rintro i σ' H' hi ⟨_,_,_,_,_,_,_,_,_,ps,po,rfl,F⟩
   repeat k_meth
   obtain⟨bx,e⟩:∃z,z=p_:=⟨_,rfl⟩;subst e;intro n h16 kJ
   repeat k_meth
   intro m h40
   repeat k_meth
   intro nms nl nk nn;have sd3:16<=n/\n<=240/\nms.length<=40/\(∀cs∈nms,dO cs)/\nms.Nodup:=⟨h16,kJ,by lia,nk,nn⟩
   repeat k_meth
   intro rs ly as;have few:=ly.few;have lya:LyA rs n:=⟨ly,as,kJ,h16⟩;have la:T7 n rs rs:=⟨List.Perm.refl _,ly,as⟩
   repeat k_meth
   obtain⟨b1,e⟩:∃z,z=x_:=⟨_,rfl⟩;subst e;obtain⟨rl,e⟩:∃z,z=p_:=⟨_,rfl⟩;subst e;intro ps2
   repeat k_meth
   rename_i rz rzl _ _ _;obtain⟨pz,e⟩:∃z,z=p_:=⟨_,rfl⟩;subst e;obtain⟨yz,e⟩:∃z,z=ys_:=⟨_,rfl⟩;subst e;have neb:bx≠aA:=SH.neC (F:=F);have nrl:bx≠rl:=SH.neC (F:=F);have sdl:Lay n rs/\Asc rs/\n<=240:=⟨ly,as,kJ⟩;obtain⟨wk,pe⟩:=Vm ly as;have jl:=qK (Jof n rs);rw[qI] at jl;have F1:=F.sub (L':=[(aB,.tbl po),(bx,.lst [.int x_,.int y_,.int c_]),(pz,.lst yz),(b1,.ins CL dx_ (lF n pz)),(rl,.lst rz),(aA,.tbl ps2)]) (I':=[.tps yz (aJ rs),.tps rz (aJ rs),cL cA bR ps2,cL cG bY po]) SbC.s SbI.s;refine⟨b1,pz,dx_,n,yz,rs,po,rfl,(SH.cut (A:=[(aB,.tbl po)]) F1 rfl).jt (F1.im (cL cG bY po) (by simp)),SH.neC (F:=F),SH.neC (F:=F),aM,aM,F1.tps (by simp),sdl,λt mA ym po2 H2 G=>?_⟩;replace F:=SH.over (A:=[(aB,.tbl po)]) (R:=[(bx,.lst [.int x_,.int y_,.int c_]),(pz,.lst yz),(b1,.ins CL dx_ (lF n pz)),(rl,.lst rz),(aA,.tbl ps2)]) F1 G rfl;clear F1 G;simp only[List.cons_append,List.nil_append] at F;rw[<- pe,abJ lya.ok] at F;have nbm:bx≠mA:=SH.neC (F:=F);have yml:ym.length=(eU (Jof n rs)).length:=by
    have:=(F.tps (ys:=ym) (rs:=fJ (eU (Jof n rs))) (by simp)).1
    rwa [qG] at this
   have fem:=wk.fem
   repeat k_meth
   have F2:=F.sub (L':=[(aA,.tbl ps2),(aB,.tbl po2),(bx,.lst [.int x_,.int y_,.int c_]),(pz,.lst yz),(b1,.ins CL dx_ (lF n pz)),(rl,.lst rz),(mA,.lst ym)]) (I':=[.tup t [.int (cu rs (eU (Jof n rs)):Nat),.ref mA],.tps yz (aJ rs),.tps rz (aJ rs),.tps ym (fJ (eU (Jof n rs))),cL cA bR ps2,cL cG bY po2]) SbC.s SbI.s;refine⟨b1,pz,dx_,n,yz,rs,.ref t,.pr ((cu rs (eU (Jof n rs)):Nat):Int) (some (toE (eU (Jof n rs)))),ps2,po2,rfl,⟨aM,aM,F2.tps (by simp)⟩,lya,⟨t,mA,ym,rfl,aM,aM,abK (F2.tps (by simp)),by unfold toE;rw[List.length_map];lia⟩,aM,F2.im (cL cA bR ps2) (by simp),aM,F2.im (cL cG bY po2) (by simp),λH3 tb=>?_⟩;obtain⟨ps3,po3,G⟩:=two_t tb tne;replace F:=SH.over (A:=[(aA,.tbl ps2),(aB,.tbl po2)]) (R:=[(bx,.lst [.int x_,.int y_,.int c_]),(pz,.lst yz),(b1,.ins CL dx_ (lF n pz)),(rl,.lst rz),(mA,.lst ym)]) F2 G rfl;clear F2 G tb;simp only[List.cons_append,List.nil_append] at F;rw[Vn lya]
   repeat k_meth
   rw[show Int.toNat 4=4 from rfl];have ple:cu rs (eU (Jof n rs))<=100000:=by
    have s4:=wO wk.ok;have:=GZ (JF lya wk.ok)
    lia
   have side:(eU (Jof n rs)).length<=40/\(∀w∈eU (Jof n rs),w.2.2<=240/\w.2.1.length<=900)/\(0<(eU (Jof n rs)).length->0<rs.length):=⟨fem,λw hw=>by
    obtain⟨q1,r,hr,e⟩:=JK lya wk.ok w hw;have:=(ly.good r hr).nm.2;rw[<- e];exact⟨q1,by lia⟩,λz=>by
    obtain⟨w,hw⟩:=List.exists_mem_of_length_pos z;obtain⟨_,r,hr,_⟩:=JK lya wk.ok w hw;exact List.length_pos_of_mem hr⟩
   refine lG (λj σ' H'=>Ex8 λ(o7 o8 o9:Option V) (x y z:Int) (ps po:xF)=>σ'=[some (.ref a),some (.int (i:Nat)),some (.ref bx),some (.int (n:Nat)),some (.ref rl),some (.ref b1),some (.ref t),o7,o8,o9]/\SH H [aA,aB] H' [(aA,.tbl ps),(aB,.tbl po),(bx,.lst [.int x,.int y,.int z]),(pz,.lst yz),(b1,.ins CL dx_ (lF n pz)),(rl,.lst rz),(mA,.lst ym)] [.tup t [.int (cu rs (eU (Jof n rs)):Nat),.ref mA],.tps yz (aJ rs),.tps rz (aJ rs),.tps ym (fJ (eU (Jof n rs))),cL cA bR ps,cL cG bY po]) ⟨_,_,_,x_,y_,c_,ps3,po3,rfl,F.sub SbC.s SbI.s⟩ ?_ ?_
   ·clear F;rintro j σ' H' hj ⟨_,_,_,x,y,z,ps,po,rfl,F⟩
    repeat k_meth
    have F1:=F.sub (L':=[(bx,.lst [.int x,.int y,.int z]),(aA,.tbl ps),(aB,.tbl po),(pz,.lst yz),(b1,.ins CL dx_ (lF n pz)),(rl,.lst rz),(mA,.lst ym)]) (I':=[.tup t [.int (cu rs (eU (Jof n rs)):Nat),.ref mA],.tps yz (aJ rs),.tps rz (aJ rs),.tps ym (fJ (eU (Jof n rs))),cL cA bR ps,cL cG bY po]) SbC.s SbI.s;refine⟨bx,rl,t,mA,x,y,z,n,cu rs (eU (Jof n rs)),rz,ym,rs,eU (Jof n rs),ps,rfl,aM,aM,F1.tps (by simp),lya,aM,ple,aM,F1.tps (by simp),side,⟨nrl,nbm⟩,aM,F1.im (cL cA bR ps) (by simp),λv ak xa ya za ps4 H4 ask kp hb hP4 tk4=>?_⟩;replace F:=SH.over (A:=[(bx,.lst [.int x,.int y,.int z]),(aA,.tbl ps)]) (R:=[(aB,.tbl po),(pz,.lst yz),(b1,.ins CL dx_ (lF n pz)),(rl,.lst rz),(mA,.lst ym)]) F1 (two_h kp hb hP4 tk4 neb) rfl;clear F1 kp hb tk4;simp only[List.cons_append,List.nil_append] at F
    repeat k_meth
    have aii:H4 aB=some (.tbl po):=aM;have F2:=F.sub (L':=[(aA,.tbl ps4),(aB,.tbl po),(bx,.lst [.int xa,.int ya,.int za]),(pz,.lst yz),(b1,.ins CL dx_ (lF n pz)),(rl,.lst rz),(mA,.lst ym)]) (I':=[.tup t [.int (cu rs (eU (Jof n rs)):Nat),.ref mA],.tps yz (aJ rs),.tps rz (aJ rs),.tps ym (fJ (eU (Jof n rs))),cL cA bR ps4,cL cG bY po]) SbC.s SbI.s;refine⟨b1,pz,dx_,n,yz,rs,v,ak,ps4,po,rfl,⟨aM,aM,F2.tps (by simp)⟩,lya,ask,aM,F2.im (cL cA bR ps4) (by simp),aM,F2.im (cL cG bY po) (by simp),λH5 tb=>?_⟩;have aij:=ask.nt (tb.nt hP4 aii);obtain⟨ps5,po5,G⟩:=two_t tb tne;replace F:=SH.over (A:=[(aA,.tbl ps4),(aB,.tbl po)]) (R:=[(bx,.lst [.int xa,.int ya,.int za]),(pz,.lst yz),(b1,.ins CL dx_ (lF n pz)),(rl,.lst rz),(mA,.lst ym)]) F2 G rfl;clear F2 G tb;simp only[List.cons_append,List.nil_append] at F
    repeat k_meth
    refine⟨n,rl,v,rz,rs,ak,rfl,aM,F.tps (by simp),lya,aij,λH6 s6=>?_⟩;replace F:=F.same s6;cases G5 n rs ak with
    | true =>
     repeat k_meth
     exact⟨_,_,_,xa,ya,za,ps5,po5,rfl,F.sub SbC.s SbI.s⟩
    | false =>
     repeat k_meth
     exact⟨_,_,_,xa,ya,za,ps5,po5,rfl,F.sub SbC.s SbI.s⟩
   ·clear F;rintro σ' H' ⟨_,_,_,x,y,z,ps,po,rfl,F⟩
    repeat k_meth
    exact⟨_,_,_,_,_,_,_,_,_,ps,po,rfl,F.sub SbC.s SbI.s⟩
  ·clear F;rintro σ' H' ⟨_,_,_,_,_,_,_,_,_,ps,po,rfl,F⟩
   repeat k_meth
   exact k _
end
end K89
namespace K89
open PySem L2 PyProof.Rows M22 M82 M87 M75 M88
abbrev LkH(K:W.Frag)(g:Addr)(m q:Str)(st:Stmt)(xd xn:xI)(xs:Array (Option Value))(xo xk xe xp xc xt:Value):Prop:=K.lookup g=some ⟨xo,xd,.func (W.fnOf m q (b_ st) (bI st) (aC st) .none xk xe xp xn xc xt),xs⟩/\W.codeIn K xc q=true/\W.keepIn K (.ref g)=true
abbrev DfH(K:W.Frag)(m:Str)(st:Stmt):Prop:=∃g xd xn xs xo xk xe xp xc xt,W.nsIn K mainGlobals m=some (some (.ref g))/\LkH K g m m st xd xn xs xo xk xe xp xc xt
abbrev MeH(K:W.Frag)(C:Addr)(m q:Str)(st:Stmt):Prop:=∃g xd xn xs xo xk xe xp xc xt,W.findIn K (.ref C) m=some (some (.ref g))/\W.isFn K (.ref g)=true/\LkH K g m q st xd xn xs xo xk xe xp xc xt
abbrev ClH(K:W.Frag)(C:Addr):Prop:=W.plainGet K C Str.empty=true/\W.hasDictIn K C=true/\W.plainOver K C=true/\W.findIn K (.ref C) "__setattr__" = some (some (.builtin "object.__setattr__"))/\W.makesIn K C=true/\W.keepIn K (.ref C)=true
section
variable{K:W.Frag}{h:Heap}{mg:xC}{C:Addr}{m q:Str}{st:Stmt}
def DfH.has(d:DfH K m st)(X:K.In h)(G:h.Ns mainGlobals mg):HasDef K mg m st:=by obtain⟨_,_,_,_,_,_,_,_,_,_,a,l,c,k⟩:=d;exact HasDef.mk (W.mg_of X G a) l c k
def MeH.me(d:MeH K C m q st):∃f,FnAt K m q st f/\Meth K C m f:=by obtain⟨g,_,_,_,_,_,_,_,_,_,a,f,l,c,k⟩:=d;exact⟨g,⟨_,qQ (st:=st) l c k⟩,⟨a,f,k⟩⟩
end
def all_mk{aG aA aH aB:Addr}{l:W.OpenLaw}{w:World}{K:W.Frag}{h:Heap}{mg:xC}{fa g17_ g21_ g54_:Addr}(X:K.In h)(G:h.Ns mainGlobals mg)(hfa:mg "law" = some (.ref fa))
  {R:Addr}
  (eR:W.nsIn K mainGlobals "RoomError" = some (some (.ref R)))
  (eh:W.specialIn K (.builtin "object.__class__") "__get__" = some (some (.builtin "getset_descriptor.__get__")))
  (et:W.takesIn K (.builtin "object.__class__")=some true)
  {C0 N0 x0:Addr} {nm0 q0:Str} {bs0:xD} {sn0:List Str} {aik:xD} {ab0:Bool} {ail:Option Bool} {dd0:xI} {k00_ k10_ k20_ k30_ k50_:Option Value}
  (ea0:W.nsIn K mainGlobals "Twice" = some (some (.ref C0)))
  (el0:K.lookup C0=some (excClassObj nm0 q0 C0 N0 bs0 [.ref R,.type "ValueError", .type "Exception", .type "BaseException", .type "object"] true sn0 aik ab0 ail dd0 k00_ k10_ k20_ k30_ k50_ "ValueError.__new__"))
  {xd0 xn0:xI} {xs0:Array (Option Value)} {xk0 xo0 xp0 xc0 xt0:Value}
  (ei0:W.findIn K (.ref C0) "__init__" = some (some (.ref x0)))
  (ef0:K.lookup x0=some ⟨.type "function", xd0,.func (W.fnOf "__init__" "Twice.__init__" (b_ mL) (bI mL) (aC mL) .none xk0 xo0 xp0 xn0 xc0 xt0),xs0⟩)
  (ec0:W.codeIn K xc0 "Twice.__init__" = true) (ek0:W.keepIn K (.ref x0)=true) (es0:W.findIn K (.ref C0) "__setattr__" = some (some (.builtin "object.__setattr__")))
  (em0:W.keepIn K (.ref C0)=true) (eg0:W.findIn K (.ref C0) "__getattribute__" = some (some (.builtin "BaseException.__getattribute__"))) (eb0:W.findIn K (.ref C0) "__getattr__" = some none) (ej0:W.findIn K (.ref C0) "__class__" = some (some (.builtin "object.__class__")))
  (aeM:W.findIn K (.ref C0) "name" = some none)
  {C1 N1 x1:Addr} {nm1 q1:Str} {bs1:xD} {sn1:List Str} {ain:xD} {ab1:Bool} {aio:Option Bool} {dd1:xI} {k01_ k11_ k21_ k31_ k51_:Option Value}
  (ea1:W.nsIn K mainGlobals "NoBlock" = some (some (.ref C1)))
  (el1:K.lookup C1=some (excClassObj nm1 q1 C1 N1 bs1 [.ref R,.type "ValueError", .type "Exception", .type "BaseException", .type "object"] true sn1 ain ab1 aio dd1 k01_ k11_ k21_ k31_ k51_ "ValueError.__new__"))
  {xd1 xn1:xI} {xs1:Array (Option Value)} {xk1 xo1 xp1 xc1 xt1:Value}
  (ei1:W.findIn K (.ref C1) "__init__" = some (some (.ref x1)))
  (ef1:K.lookup x1=some ⟨.type "function", xd1,.func (W.fnOf "__init__" "NoBlock.__init__" (b_ iB) (bI iB) (aC iB) .none xk1 xo1 xp1 xn1 xc1 xt1),xs1⟩)
  (ec1:W.codeIn K xc1 "NoBlock.__init__" = true) (ek1:W.keepIn K (.ref x1)=true) (es1:W.findIn K (.ref C1) "__setattr__" = some (some (.builtin "object.__setattr__")))
  (em1:W.keepIn K (.ref C1)=true) (eg1:W.findIn K (.ref C1) "__getattribute__" = some (some (.builtin "BaseException.__getattribute__"))) (eb1:W.findIn K (.ref C1) "__getattr__" = some none) (ej1:W.findIn K (.ref C1) "__class__" = some (some (.builtin "object.__class__")))
  (aeN:W.findIn K (.ref C1) "name" = some none)
  {C2 N2 x2:Addr} {nm2 q2:Str} {bs2:xD} {sn2:List Str} {aip:xD} {ab2:Bool} {aiq:Option Bool} {dd2:xI} {k02_ k12_ k22_ k32_ k52_:Option Value}
  (ea2:W.nsIn K mainGlobals "Pinned" = some (some (.ref C2)))
  (el2:K.lookup C2=some (excClassObj nm2 q2 C2 N2 bs2 [.ref R,.type "ValueError", .type "Exception", .type "BaseException", .type "object"] true sn2 aip ab2 aiq dd2 k02_ k12_ k22_ k32_ k52_ "ValueError.__new__"))
  {xd2 xn2:xI} {xs2:Array (Option Value)} {xk2 xo2 xp2 xc2 xt2:Value}
  (ei2:W.findIn K (.ref C2) "__init__" = some (some (.ref x2)))
  (ef2:K.lookup x2=some ⟨.type "function", xd2,.func (W.fnOf "__init__" "Pinned.__init__" (b_ jH) (bI jH) (aC jH) .none xk2 xo2 xp2 xn2 xc2 xt2),xs2⟩)
  (ec2:W.codeIn K xc2 "Pinned.__init__" = true) (ek2:W.keepIn K (.ref x2)=true) (es2:W.findIn K (.ref C2) "__setattr__" = some (some (.builtin "object.__setattr__")))
  (em2:W.keepIn K (.ref C2)=true) (eg2:W.findIn K (.ref C2) "__getattribute__" = some (some (.builtin "BaseException.__getattribute__"))) (eb2:W.findIn K (.ref C2) "__getattr__" = some none) (ej2:W.findIn K (.ref C2) "__class__" = some (some (.builtin "object.__class__")))
  (aeO:W.findIn K (.ref C2) "name" = some none)
  (aeP:W.findIn K (.ref C2) "pins" = some none)
  {C3 N3 x3:Addr} {nm3 q3:Str} {bs3:xD} {sn3:List Str} {air:xD} {ab3:Bool} {ais:Option Bool} {dd3:xI} {k03_ k13_ k23_ k33_ k53_:Option Value}
  (ea3:W.nsIn K mainGlobals "NoMoves" = some (some (.ref C3)))
  (el3:K.lookup C3=some (excClassObj nm3 q3 C3 N3 bs3 [.ref R,.type "ValueError", .type "Exception", .type "BaseException", .type "object"] true sn3 air ab3 ais dd3 k03_ k13_ k23_ k33_ k53_ "ValueError.__new__"))
  {xd3 xn3:xI} {xs3:Array (Option Value)} {xk3 xo3 xp3 xc3 xt3:Value}
  (ei3:W.findIn K (.ref C3) "__init__" = some (some (.ref x3)))
  (ef3:K.lookup x3=some ⟨.type "function", xd3,.func (W.fnOf "__init__" "NoMoves.__init__" (b_ iC) (bI iC) (aC iC) .none xk3 xo3 xp3 xn3 xc3 xt3),xs3⟩)
  (ec3:W.codeIn K xc3 "NoMoves.__init__" = true) (ek3:W.keepIn K (.ref x3)=true) (es3:W.findIn K (.ref C3) "__setattr__" = some (some (.builtin "object.__setattr__")))
  (em3:W.keepIn K (.ref C3)=true) (eg3:W.findIn K (.ref C3) "__getattribute__" = some (some (.builtin "BaseException.__getattribute__"))) (eb3:W.findIn K (.ref C3) "__getattr__" = some none) (ej3:W.findIn K (.ref C3) "__class__" = some (some (.builtin "object.__class__")))
  (aeQ:W.findIn K (.ref C3) "moves" = some none)
  {C4 N4 x4:Addr} {nm4 q4:Str} {bs4:xD} {sn4:List Str} {ait:xD} {ab4:Bool} {aiu:Option Bool} {dd4:xI} {k04_ k14_ k24_ k34_ k54_:Option Value}
  (ea4:W.nsIn K mainGlobals "NoSlide" = some (some (.ref C4)))
  (el4:K.lookup C4=some (excClassObj nm4 q4 C4 N4 bs4 [.ref R,.type "ValueError", .type "Exception", .type "BaseException", .type "object"] true sn4 ait ab4 aiu dd4 k04_ k14_ k24_ k34_ k54_ "ValueError.__new__"))
  {xd4 xn4:xI} {xs4:Array (Option Value)} {xk4 xo4 xp4 xc4 xt4:Value}
  (ei4:W.findIn K (.ref C4) "__init__" = some (some (.ref x4)))
  (ef4:K.lookup x4=some ⟨.type "function", xd4,.func (W.fnOf "__init__" "NoSlide.__init__" (b_ iD) (bI iD) (aC iD) .none xk4 xo4 xp4 xn4 xc4 xt4),xs4⟩)
  (ec4:W.codeIn K xc4 "NoSlide.__init__" = true) (ek4:W.keepIn K (.ref x4)=true) (es4:W.findIn K (.ref C4) "__setattr__" = some (some (.builtin "object.__setattr__")))
  (em4:W.keepIn K (.ref C4)=true) (eg4:W.findIn K (.ref C4) "__getattribute__" = some (some (.builtin "BaseException.__getattribute__"))) (eb4:W.findIn K (.ref C4) "__getattr__" = some none) (ej4:W.findIn K (.ref C4) "__class__" = some (some (.builtin "object.__class__")))
  (aeR:W.findIn K (.ref C4) "name" = some none)
  (aeS:W.findIn K (.ref C4) "to" = some none)
  {od17_ an17_:xI} {sl17_:Array (Option Value)} {oc17_ kV17_ dc17_ pm17_ cd17_ ct17_:Value}
  {od21_ an21_:xI} {sl21_:Array (Option Value)} {oc21_ kV21_ dc21_ pm21_ ct21_:Value}
  {od54_ an54_:xI} {sl54_:Array (Option Value)} {oc54_ kV54_ dc54_ pm54_ cd54_ ct54_:Value}
  (d0_:DfH K "is_whole" oG)
  (d1_:DfH K "is_from" qZ)
  (d2_:DfH K "is_within" lQ)
  (d3_:DfH K "is_many" q_)
  (d4_:DfH K "is_name" rA)
  (d5_:DfH K "end_of" u9)
  (d6_:DfH K "is_row" u_)
  (d7_:DfH K "cells_of" oH)
  (d8_:DfH K "need_row" oJ)
  (d9_:DfH K "need_rows" lR)
  (d10_:DfH K "share_cells" Bu)
  (d11_:DfH K "blocks_between" rB)
  (d12_:DfH K "free_between" Bv)
  (d13_:DfH K "stretches_of" lV)
  (d14_:DfH K "steps_down" Bw)
  (d15_:DfH K "steps_up" Tg)
  (d16_:DfH K "moves_of" Bx)
  {aeT:Addr}
  (a17_:W.nsIn K mainGlobals "packed" = some (some (.ref g17_))) (l17_:K.lookup g17_=some ⟨oc17_,od17_,.func (W.fnOf "packed" "packed" (b_ lX) (bI lX) (aC lX) (.ref aeT) kV17_ dc17_ pm17_ an17_ cd17_ ct17_),sl17_⟩) (c17_:W.codeIn K cd17_ "packed" = true) (k17_:W.keepIn K (.ref g17_)=true) {aeU:Value} {aeV:xI} {aeW:Array (Option Value)} {aiv:Nat} {MN:Tok} (ld17_:K.lookup aeT=some ⟨aeU,aeV,.seq #[.str "down" MN] aiv,aeW⟩)
  (d18_:DfH K "fewest_holes" vf)
  (d19_:DfH K "cells_moved" vg)
  (d20_:DfH K "cheapest_joining" oK)
  (a21_:W.nsIn K mainGlobals "in_moving_order" = some (some (.ref g21_))) (l21_:K.lookup g21_=some ⟨oc21_,od21_,.func (W.fnOf "in_moving_order" "in_moving_order" (b_ p8) (bI p8) (aC p8) .none kV21_ dc21_ pm21_ an21_ (.ref aH) ct21_),sl21_⟩) (c21_:W.codeIn K (.ref aH) "in_moving_order" = true) (k21_:W.keepIn K (.ref g21_)=true) (tb_order:W.codeHdIn K aH aB=true) (tn_order:K.lookup aB=none)
  (d22_:DfH K "tidied" vh)
  (d23_:DfH K "is_tidied" oM)
  (d24_:DfH K "is_pair" vm)
  (d25_:DfH K "is_slide" rC)
  (d26_:DfH K "step_of" vp)
  (d27_:DfH K "gone_through" Jf)
  (d28_:DfH K "gone_through_if_let" vq)
  (d29_:DfH K "copies_of" vA)
  (d30_:DfH K "copies_of_steps" rD)
  (d31_:DfH K "holes_among" BJ)
  (d32_:DfH K "free_among" vC)
  (d33_:DfH K "holes_of" rE)
  (d34_:DfH K "_law_cell" rF)
  (d35_:DfH K "_law_well" Tj)
  (d36_:DfH K "_law_draw" Jg)
  (d37_:DfH K "_law_names" BK)
  (d38_:DfH K "_law_most" Jh)
  (d39_:DfH K "_law_many" Ji)
  (d40_:DfH K "_law_rows" Jj)
  (d41_:DfH K "_law_whole" vH)
  (d42_:DfH K "_law_walk" Jk)
  (d43_:DfH K "_law_holes" vI)
  (d44_:DfH K "_law_stretches" jZ)
  (d45_:DfH K "_law_joined" vJ)
  (d46_:DfH K "_law_price" BL)
  (d47_:DfH K "_law_best" Jm)
  (d48_:DfH K "_law_due" Tq)
  (d49_:DfH K "_law_elsewhere" lY)
  (d50_:DfH K "_law_other_price" vK)
  (d51_:DfH K "_law_other_move" BP)
  (d52_:DfH K "_law_other_moves" vL)
  (d53_:DfH K "_law_forged" vM)
  (a54_:W.nsIn K mainGlobals "law" = some (some (.ref g54_))) (l54_:K.lookup g54_=some ⟨oc54_,od54_,.func (W.fnOf "law" "law" (b_ qe) (bI qe) (aC qe) .none kV54_ dc54_ pm54_ an54_ cd54_ ct54_),sl54_⟩) (c54_:W.codeIn K cd54_ "law" = true) (k54_:W.keepIn K (.ref g54_)=true)
  (nb0:W.nsIn K mainGlobals "isinstance" = some none)
  (nb1:W.nsIn K mainGlobals "int" = some none)
  (nb2:W.nsIn K mainGlobals "bool" = some none)
  (nb3:W.nsIn K mainGlobals "str" = some none)
  (nb4:W.nsIn K mainGlobals "list" = some none)
  (nb5:W.nsIn K mainGlobals "tuple" = some none)
  (nb6:W.nsIn K mainGlobals "len" = some none)
  (nb7:W.nsIn K mainGlobals "all" = some none)
  (nb8:W.nsIn K mainGlobals "range" = some none)
  (nb9:W.nsIn K mainGlobals "sorted" = some none)
  (aiw:W.nsIn K mainGlobals "max" = some none)
  (aix:W.nsIn K mainGlobals "min" = some none)
  (aiy:W.nsIn K mainGlobals "reversed" = some none)
  (aiz:W.nsIn K mainGlobals "sum" = some none)
  (aiA:W.nsIn K mainGlobals "enumerate" = some none)
  (aiB:W.nsIn K mainGlobals "zip" = some none)
  (aiC:W.nsIn K mainGlobals "any" = some none)
  (aiD:W.nsIn K mainGlobals "ValueError" = some none)
  {tk0:Tok} (aiE:W.nsIn K mainGlobals "LETTERS" = some (some (.str LET tk0)))
  {tk1:Tok} (aiF:W.nsIn K mainGlobals "NAME_SIGNS" = some (some (.str SGN tk1)))
  {tk2:Tok} (aiG:W.nsIn K mainGlobals "MOST_SIGNS" = some (some (.int 8 tk2)))
  {tk3:Tok} (aiH:W.nsIn K mainGlobals "FEWEST_CELLS" = some (some (.int 16 tk3)))
  {tk4:Tok} (aiI:W.nsIn K mainGlobals "MOST_CELLS" = some (some (.int 240 tk4)))
  {tk5:Tok} (aiJ:W.nsIn K mainGlobals "MOST_BLOCKS" = some (some (.int 40 tk5)))
  (tne_:aA≠aB)
  {nmR qR:Str} {NR:Addr} {bsR bmR:xD} {hdR:Bool} {snR:List Str} {aiK:xD} {abR:Bool} {aiL:Option Bool} {ddR:xI} {k0R k1R k2R k3R k5R:Option Value} {newR:String}
  (zc:K.lookup R=some (excClassObj nmR qR R NR bsR bmR hdR snR aiK abR aiL ddR k0R k1R k2R k3R k5R newR)) (zt:W.typeIn K (.ref R)=some (.type "type")) (zm:W.mroIn K R (.type "BaseException")=some true)
  {CL qN:Addr}
  (aCL:W.nsIn K mainGlobals "Layout" = some (some (.ref CL)))
  (Px:ClH K CL)
  (Vp:W.findIn K (.ref CL) "many" = some none)
  (Vq:W.findIn K (.ref CL) "rows" = some none)
  {Vr Vs:xI} {Vt:Array (Option Value)} {Vu Vv Vw Vx Vy:Value}
  (Vz:W.findIn K (.ref CL) "__init__" = some (some (.ref qN))) (VB:W.isFn K (.ref qN)=true)
  (VD:K.lookup qN=some ⟨Vu,Vr,.func (W.fnOf "__init__" "Layout.__init__" (b_ mK) (bI mK) (aC mK) .none Vv Vw Vx Vs (.ref aG) Vy),Vt⟩) (VF:W.codeIn K (.ref aG) "Layout.__init__" = true) (VG:W.keepIn K (.ref qN)=true) (tb_Linit:W.codeHdIn K aG aA=true) (tn_Linit:K.lookup aA=none)
  (Py:MeH K CL "blocks" "Layout.blocks" rG)
  (VH:MeH K CL "names" "Layout.names" vO)
  (VJ:MeH K CL "block" "Layout.block" vP)
  (VL:MeH K CL "moved" "Layout.moved" vQ)
  : (∀p∈[aB,aA],K.lookup p=none/\∃c,W.codeHdIn K c p=true)/\∃fd:FuncData,(∀(s:Shared)(v:Value),BindsTo s fd ⟨[v],[]⟩ [("_law_script", v)])/\∀base:Heap,K.In base->base.Ns mainGlobals mg->Bm mg base->iZ l.prog w K mg base CX0 12 fa fd ["_law_script"] (CJ aA aB K):=by
 have e:=hfa.symm.trans (W.mg_of X G a54_);cases e;have T:Txt K mg (λi=>([C0,C1,C2,C3,C4]:List Addr).getD i 0) R CL aG aA aH aB:={
  qg:=fU.mk1 (W.mg_of X G ea0) el0 ei0 ef0 ec0 ek0 em0 (pL el0 es0) (pN el0 eg0 eb0 ej0 eh et)
  Ln:=⟨_,_,_,_,_,_,_,_,_,_,_,_,_,_,_,el0⟩
  qj:=aeM
  jJ:=fU.mk1 (W.mg_of X G ea1) el1 ei1 ef1 ec1 ek1 em1 (pL el1 es1) (pN el1 eg1 eb1 ej1 eh et)
  zx:=⟨_,_,_,_,_,_,_,_,_,_,_,_,_,_,_,el1⟩
  lZ:=aeN
  mj:=fU.mk1 (W.mg_of X G ea2) el2 ei2 ef2 ec2 ek2 em2 (pL el2 es2) (pN el2 eg2 eb2 ej2 eh et)
  Fb:=⟨_,_,_,_,_,_,_,_,_,_,_,_,_,_,_,el2⟩
  nu:=aeO
  nA:=aeP
  jK:=fU.mk1 (W.mg_of X G ea3) el3 ei3 ef3 ec3 ek3 em3 (pL el3 es3) (pN el3 eg3 eb3 ej3 eh et)
  zy:=⟨_,_,_,_,_,_,_,_,_,_,_,_,_,_,_,el3⟩
  kj:=aeQ
  jL:=fU.mk1 (W.mg_of X G ea4) el4 ei4 ef4 ec4 ek4 em4 (pL el4 es4) (pN el4 eg4 eb4 ej4 eh et)
  zA:=⟨_,_,_,_,_,_,_,_,_,_,_,_,_,_,_,el4⟩
  mq:=aeR
  qm:=aeS
  vR:=d0_.has X G
  zB:=d1_.has X G
  sI:=d2_.has X G
  zE:=d3_.has X G
  zF:=d4_.has X G
  Fd:=d5_.has X G
  Fe:=d6_.has X G
  vU:=d7_.has X G
  vV:=d8_.has X G
  sJ:=d9_.has X G
  Lp:=d10_.has X G
  zG:=d11_.has X G
  Lq:=d12_.has X G
  sO:=d13_.has X G
  Lr:=d14_.has X G
  YW:=d15_.has X G
  Ls:=d16_.has X G
  Fg:=⟨MN,_,_,_,_,_,_,_,_,_,_,_,_,_,l17_,c17_,k17_,W.mg_of X G a17_,ld17_,rfl⟩
  Fi:=d18_.has X G
  Fj:=d19_.has X G
  vW:=d20_.has X G
  zH:=tb_order
  Lw:=⟨_,_,qQ l21_ c21_ k21_,rfl,W.mg_of X G a21_⟩
  Fl:=d22_.has X G
  vX:=d23_.has X G
  Fo:=d24_.has X G
  zJ:=d25_.has X G
  Fp:=d26_.has X G
  Tz:=d27_.has X G
  Fq:=d28_.has X G
  Ft:=d29_.has X G
  zK:=d30_.has X G
  Lx:=d31_.has X G
  Fv:=d32_.has X G
  zL:=d33_.has X G
  zM:=d34_.has X G
  YX:=d35_.has X G
  TF:=d36_.has X G
  Ly:=d37_.has X G
  TJ:=d38_.has X G
  TQ:=d39_.has X G
  TV:=d40_.has X G
  Fw:=d41_.has X G
  TX:=d42_.has X G
  Fx:=d43_.has X G
  qp:=d44_.has X G
  Fy:=d45_.has X G
  Lz:=d46_.has X G
  TY:=d47_.has X G
  YZ:=d48_.has X G
  sS:=d49_.has X G
  Fz:=d50_.has X G
  LC:=d51_.has X G
  FJ:=d52_.has X G
  FN:=d53_.has X G
  bU:=W.mg_none_of X G nb0
  T3:=W.mg_none_of X G nb1
  vY:=W.mg_none_of X G nb2
  FP:=W.mg_none_of X G nb3
  iU:=W.mg_none_of X G nb4
  j4:=W.mg_none_of X G nb5
  dz:=W.mg_none_of X G nb6
  T4:=W.mg_none_of X G nb7
  fW:=W.mg_none_of X G nb8
  vZ:=W.mg_none_of X G nb9
  T5:=W.mg_none_of X G aiw
  v7:=W.mg_none_of X G aix
  gC:=W.mg_none_of X G aiy
  zN:=W.mg_none_of X G aiz
  mz:=W.mg_none_of X G aiA
  ad_:=W.mg_none_of X G aiB
  aea:=W.mg_none_of X G aiC
  BR:=W.mg_none_of X G aiD
  zO:=⟨_,W.mg_of X G aiE,⟨_,rfl⟩⟩
  qt:=⟨_,W.mg_of X G aiF,⟨_,rfl⟩⟩
  qw:=⟨_,W.mg_of X G aiG,⟨_,rfl⟩⟩
  mC:=⟨_,W.mg_of X G aiH,⟨_,rfl⟩⟩
  qx:=⟨_,W.mg_of X G aiI,⟨_,rfl⟩⟩
  nF:=⟨_,W.mg_of X G aiJ,⟨_,rfl⟩⟩
  tne:=tne_
  g_R:=W.mg_of X G eR
  c_R:=by unfold W.clsIn;rw[zc];rfl
  t_R:=zt
  m_R:=zm
  clL:=⟨Px.1,Px.2.1,Px.2.2.1,Px.2.2.2.1⟩
  zP:=W.mg_of X G aCL
  LK:=Vp
  LQ:=Vq
  zQ:=tb_Linit
  LR:=⟨qN,⟨_,qQ (st:=mK) VD VF VG,rfl⟩,⟨Px.2.2.2.2.1,Vz,VB,Px.2.2.2.2.2⟩⟩
  zR:=Py.me
  FQ:=VH.me
  FT:=VJ.me
  FW:=VL.me }
 refine⟨λp hp=>?_,W.fnOf "law" "law" (b_ qe) (bI qe) (aC qe) .none kV54_ dc54_ pm54_ an54_ cd54_ ct54_,λs v=>.of_eq rfl,λbase _ _ Bb=>?_⟩
 ·simp only[List.mem_cons,List.not_mem_nil,or_false] at hp;rcases hp with rfl|rfl
  ·exact⟨tn_order,_,tb_order⟩
  ·exact⟨tn_Linit,_,tb_Linit⟩
 exact abL T Bb (qQ (st:=qe) l54_ c54_ k54_)
def walk{l:W.OpenLaw}{q:Program}{loose:List Str}{XP:(Str->Option Value)->Heap->Prop}{YP:World->Heap->Prop}{d:DefRec}{K:Params->W.Frag}{aA aB:Addr}(hn:l.most=some 63)(hdf:d.params.defaults=[])
  (hY:∀(w:World)(h:Heap),YP w h->(K w.params).In h/\∀p∈[aB,aA],h.get? p=some (W.tabObj #[]))
  (F:∀(w:World)(mg:xC)(fa:Addr)(h:Heap),(K w.params).In h->h.Ns mainGlobals mg->mg d.name=some (.ref fa)->(∀p∈[aB,aA],(K w.params).lookup p=none/\∃c,W.codeHdIn (K w.params) c p=true) /\ 
   ∃fd:FuncData,(∀(s:Shared)(u:Value),BindsTo s fd ⟨[u],[]⟩ [("_law_script", u)])/\∀base:Heap,(K w.params).In base->base.Ns mainGlobals mg->Bm mg base->iZ l.prog w (K w.params) mg base CX0 12 fa fd ["_law_script"] (CJ aA aB (K w.params))) :
  W.WalkO q loose XP YP l.row.toRowW d [] (λf vs=>PySem.call f vs) :=
 L2.RX (ts:=[aB,aA]) (n:=63) (k:=12) (x := "_law_script") (CX:=λ_=>CX0) (sp:=λw=>CJ aA aB (K w.params)) hn (by decide) hdf ⟨rfl,by decide,by decide,rfl⟩ hY F (λ_ _ a ns hl hO hn hS=>⟨a,ns,rfl,hS,hl,hO.1 aA (by simp),(λz=>hn (by simp[z])),hO.1 aB (by simp),(λz=>hn (by simp[z])),λ_=>rfl⟩) λ_ _ _ _ _ z=>z
end K89
namespace PySem.W.Fast
def tw5723088043108165361:=Nat
def tw10424494180650357330:=Nat
def tw5542256385340668956:=Nat
def tw15131690611462701966:=Nat
def tw14634564725034290463:=Nat
def tw17316345471387966633:=Nat
def tw15810054333725333345:=Nat
def tw1614205881494949717:=Nat
def tw2223735564589640313:=Nat
def tw8596925510307729970:=Nat
def tw11114103183950932608:=Nat
def tw14958753206358625543:=Nat
def tw226836873524127994:=Nat
def tw10741379529386379601:=Nat
def tw17802625205521861820:=Nat
def tw17930528241174092609:=Nat
def tw11650499149662716399:=Nat
def tw14284305008081785812:=Nat
def tw10870059939172291322:=Nat
def tw4223771529589698013:=Nat
def tw10603637574051747916:=Nat
def tw2412726327716173962:=Nat
def tw7871652440038131302:=Nat
def tw6822295661274782553:=Nat
def tw3319195803893888222:=Nat
def tw16268560960679408064:=Nat
def tw346318726546292536:=Nat
def tw4327541337566187040:=Nat
def tw16944343694843216981:=Nat
def tw5385673408063184724:=Nat
def tw8816562572451316208:=Nat
def tw7482835318682916597:=Nat
def tw15079834513438365025:=Nat
def tw3829173088166758433:=Nat
def tw8961499423670247453:=Nat
def tw4154247813353118385:=Nat
def tw12791431913021775115:=Nat
def tw1891321742499853122:=Nat
def tw12144628136860670494:=Nat
def tw8864836858983216815:=Nat
def tw15696663905540010542:=Nat
def tw16068229763609925280:=Nat
def tw17700096854876825341:=Nat
def tw15540694417242191835:=Nat
def tw4784582284169610292:=Nat
def tw9470987898327772209:=Nat
def tw11917208774813301987:=Nat
def tw4241284010491995870:=Nat
def tw16486781679096233550:=Nat
def tw14754968054101500475:=Nat
def tw2898635694352063087:=Nat
def tw7081030890256619465:=Nat
def tw754630961311439336:=Nat
def tw13726720281519093721:=Nat
def tw18398081305523858494:=Nat
def tw15512427949149493460:=Nat
def tw13698289246044743677:=Nat
def tw8805530042260680952:=Nat
def tw9956828137445079712:=Nat
def tw12507919108142842518:=Nat
def tw8055578676952008877:=Nat
def tw14529334371991413302:=Nat
def tw13274788867824024354:=Nat
def tw13213783225062562591:=Nat
def tw13033560421604229829:=Nat
def tw7043022789656730465:=Nat
def tw7597150102540456606:=Nat
def tw12434353561733546140:=Nat
def tw5859689434805588528:=Nat
def tw8634185918011567263:=Nat
def tw2370230291222779220:=Nat
def tw16557347496501058979:=Nat
def tw3883899626282388494:=Nat
def tw15116297925927337019:=Nat
def tw10732036573218304309:=Nat
def tw17377460204211161954:=Nat
def tw12654783309186693570:=Nat
def tw16301223223958936983:=Nat
def tw5922681972512670116:=Nat
def tw849740307282253350:=Nat
def tw7778581654305876857:=Nat
def tw2363375663387178665:=Nat
def tw2467727927310523810:=Nat
def tw1232365929251968226:=Nat
def tw12603569264161732204:=Nat
def tw2934833087651509185:=Nat
def tw2518964237271725179:=Nat
def tw4477706980650263545:=Nat
def tw1777520209266374615:=Nat
def tw1510780277382310206:=Nat
def tw10004799795007888700:=Nat
def tw7325849818186065896:=Nat
def tw1169498821143500314:=Nat
def tw7811954676738428281:=Nat
def tw12922836045802135178:=Nat
def tw6311640553012620975:=Nat
def tw4650754675035399971:=Nat
def tw7429618949077586289:=Nat
def tw17767392078062934397:=Nat
def tw5311303700035200389:=Nat
def tw9126642759374621372:=Nat
def tw15141906723618997113:=Nat
def tw16443352624293840335:=Nat
def tw6570624512750474523:=Nat
def tw10686189488681577512:=Nat
def tw11272815160228076918:=Nat
def tw9388077361748473089:=Nat
def tw16301860434038956594:=Nat
def tw12741141780290744199:=Nat
end PySem.W.Fast
open PySem PySem.W PyProof.Rows
set_option maxRecDepth 100000 in
set_option maxHeartbeats 0 in
theorem PySem.Challenge.cw_slideroom_k89_forged_tidyings_holds : PySem.Challenge.rw_slideroom_k89_forged_tidyings.Holds := by
 w_on;o_law;k_head;(case hw=>w_witness2)
 k_fill
 refine K89.walk (l:=PySem.Challenge.rw_slideroom_k89_forged_tidyings) rfl rfl (fun w h Y=>⟨PySem.W.km_in_of Y,PySem.W.km_tabs_of Y⟩) ?F
 case F =>
  intro w mg fa h KX G hmg
  refine' K89.all_mk KX G hmg ?_ ?_ ?_ ?_ ?_ ?_ ?_ ?_ ?_ ?_ ?_ ?_ ?_ ?_ ?_ ?_ ?_ ?_ ?_ ?_ ?_ ?_ ?_ ?_ ?_ ?_ ?_ ?_ ?_ ?_ ?_ ?_ ?_ ?_ ?_ ?_ ?_ ?_ ?_ ?_ ?_ ?_ ?_ ?_ ?_ ?_ ?_ ?_ ?_ ?_ ?_ ?_ ?_ ?_ ?_ ?_ ?_ ?_ ?_ ?_ ?_ ?_ ?_ ?_ ?_ ?_ ?_ ?_ ?_ ?_ ?_ ?_ ?_ ?_ ?_ ?_ ?_ ?_ ?_ ?_ ?_ ?_ ?_ ?_ ?_ ?_ ?_ ?_ ?_ ?_ ?_ ?_ ?_ ?_ ?tb_order ?tn_order ?_ ?_ ?_ ?_ ?_ ?_ ?_ ?_ ?_ ?_ ?_ ?_ ?_ ?_ ?_ ?_ ?_ ?_ ?_ ?_ ?_ ?_ ?_ ?_ ?_ ?_ ?_ ?_ ?_ ?_ ?_ ?_ ?_ ?_ ?_ ?_ ?_ ?_ ?_ ?_ ?_ ?_ ?_ ?_ ?_ ?_ ?_ ?_ ?_ ?_ ?_ ?_ ?_ ?_ ?_ ?_ ?_ ?_ ?_ ?_ ?tne_ ?_ ?_ ?_ ?_ ?_ ?_ ?_ ?_ ?_ ?_ ?_ ?_ ?tb_Linit ?tn_Linit ?_ ?_ ?_ ?_
  all_goals try first
   | k_is
   | exact ⟨_,_,_,_,_,_,_,_,_,_,by k_is,by k_is,by k_is,by k_is⟩
   | exact ⟨_,_,_,_,_,_,_,_,_,_,by k_is,by k_is,by k_is,by k_is,by k_is⟩
   | exact ⟨_,_,_,_,_,_,_,_,_,_,by k_is,by k_is,by k_is,by k_is,by k_is,by k_is⟩
   | exact ⟨by k_is,by k_is,by k_is,by k_is,by k_is,by k_is⟩
  (case tb_Linit=>kernel_rfl)
  (case tn_Linit=>kernel_rfl)
  (case tb_order=>kernel_rfl)
  (case tn_order=>kernel_rfl)
  (case tne_=>decide)
